import PyProof.Rows.All
import Wide.All
import OpenK.AllK
import Wide.FinOn
import Lean
import PyProof.EqAt
import PyProof.EqKinds
import PyProof.TupleCall
import PyProof.NsDelKeeps
import KE.KTryMore
import OpenK.KOwn
import PyProof.ExcBaseAll.ValueError
import PyProof.Rows.CountFlat
import PyProof.Rows.SeqMore2
import PyProof.SumWalkG
import PyProof.FitsBits
import PyProof.Rows.IntMath
import PyProof.P3Eq
import PyProof.ZipIter
import PyProof.TupleIter
import PyProof.TupleOfSeq
import PyProof.TupleOfGen
import PyProof.ListRange
import PyProof.Rows.SeqMore
import PySem.Challenge.RW_morethanhalf_k24_holding_papers_told
set_option Elab.async false
set_option linter.all false
set_option compiler.extract_closed false
set_option maxRecDepth 100000
set_option maxHeartbeats 0
open PySem.W (Frag nsIn keepIn codeIn fnOf mg_of findIn mg_none_of isFn)
noncomputable section
abbrev QS:=List (PySem.Addr×PySem.Obj)
abbrev OK:=PySem.Value->PySem.Shared->Prop
theorem Xb:type_of% @PySem.wpAny_bind:=@PySem.wpAny_bind
theorem Xc:type_of% @Nat.le_refl:=@Nat.le_refl
theorem Xd:type_of% @PySem.Heap.get?_push_of_some:=@PySem.Heap.get?_push_of_some
theorem Xe:type_of% @List.getElem?_eq_some_iff.{0}:=@List.getElem?_eq_some_iff.{0}
theorem Xf:type_of% @PySem.wpAny_pure:=@PySem.wpAny_pure
theorem Xg:type_of% @PySem.wpAny_mono:=@PySem.wpAny_mono
theorem Xh:type_of% @List.getD_eq_getElem?_getD.{0}:=@List.getD_eq_getElem?_getD.{0}
theorem Xi:type_of% @PySem.Heap.lt_size:=@PySem.Heap.lt_size
theorem Xj:type_of% @List.length_map.{0,0}:=@List.length_map.{0,0}
theorem Xk:type_of% @List.getElem?_eq_getElem.{0}:=@List.getElem?_eq_getElem.{0}
theorem Xl:type_of% @PySem.Heap.get?_push_size:=@PySem.Heap.get?_push_size
theorem Xm:type_of% @List.size_toArray.{0}:=@List.size_toArray.{0}
theorem Xn:type_of% @List.map_cons.{0,0}:=@List.map_cons.{0,0}
theorem Xo:type_of% @List.mem_append_right.{0}:=@List.mem_append_right.{0}
theorem Xp:type_of% @List.find?_cons.{0}:=@List.find?_cons.{0}
theorem Xq:type_of% @List.getElem?_append_left.{0}:=@List.getElem?_append_left.{0}
theorem Xr:type_of% @Nat.ne_of_lt:=@Nat.ne_of_lt
theorem Xs:type_of% @decide_eq_false:=@decide_eq_false
theorem Xt:type_of% @Bool.not_true:=@Bool.not_true
theorem Xu:type_of% @Nat.lt_of_lt_of_le:=@Nat.lt_of_lt_of_le
theorem Xv:type_of% @Option.some.inj.{0}:=@Option.some.inj.{0}
theorem Xw:type_of% @List.getElem?_map.{0,0}:=@List.getElem?_map.{0,0}
theorem Xx:type_of% @List.lookup_cons.{0,0}:=@List.lookup_cons.{0,0}
theorem Xy:type_of% @Nat.le_trans:=@Nat.le_trans
theorem Xz:type_of% @List.mem_filter.{0}:=@List.mem_filter.{0}
theorem XA:type_of% @PySem.PassesOwn.never:=@PySem.PassesOwn.never
theorem XB:type_of% @List.mem_cons.{0}:=@List.mem_cons.{0}
theorem XC:type_of% @List.drop_eq_getElem_cons.{0}:=@List.drop_eq_getElem_cons.{0}
theorem XD:type_of% @Bool.and_eq_true:=@Bool.and_eq_true
theorem XE:type_of% @List.mem_map.{0,0}:=@List.mem_map.{0,0}
theorem XF:type_of% @List.mem_cons_of_mem.{0}:=@List.mem_cons_of_mem.{0}
theorem XG:type_of% @List.getElem?_set_ne.{0}:=@List.getElem?_set_ne.{0}
theorem XH:type_of% @List.getElem?_append_right.{0}:=@List.getElem?_append_right.{0}
theorem XI:type_of% @List.length_cons.{0}:=@List.length_cons.{0}
theorem XJ:type_of% @List.all_eq_true.{0}:=@List.all_eq_true.{0}
theorem XL:type_of% @Bool.false_eq_true:=@Bool.false_eq_true
theorem XM:type_of% @List.mem_append.{0}:=@List.mem_append.{0}
theorem XN:type_of% @List.length_append.{0}:=@List.length_append.{0}
theorem XO:type_of% @decide_eq_true:=@decide_eq_true
theorem XQ:type_of% @PySem.mem_of_lookup:=@PySem.mem_of_lookup
theorem XR:type_of% @Bool.false_ne_true:=@Bool.false_ne_true
theorem XS:type_of% @List.map_map.{0,0,0}:=@List.map_map.{0,0,0}
theorem XT:type_of% @List.append_nil.{0}:=@List.append_nil.{0}
theorem XU:type_of% @List.getElem_mem.{0}:=@List.getElem_mem.{0}
theorem XV:type_of% @PySem.wpAny_truthy_bool:=@PySem.wpAny_truthy_bool
theorem XW:type_of% @List.length_range:=@List.length_range
theorem XX:type_of% @List.mem_singleton.{0}:=@List.mem_singleton.{0}
theorem XY:type_of% @List.drop_eq_nil_of_le.{0}:=@List.drop_eq_nil_of_le.{0}
theorem XZ:type_of% @List.filter_eq_nil_iff.{0}:=@List.filter_eq_nil_iff.{0}
theorem X0:type_of% @Nat.lt_irrefl:=@Nat.lt_irrefl
theorem X1:type_of% @Option.isSome_iff_exists.{0}:=@Option.isSome_iff_exists.{0}
theorem X2:type_of% @Nat.zero_le:=@Nat.zero_le
theorem X3:type_of% @List.length_filter_le.{0}:=@List.length_filter_le.{0}
theorem X4:type_of% @PyProof.Rows.callWith_type1:=@PyProof.Rows.callWith_type1
theorem X5:type_of% @PySem.wpAny_newObj_type:=@PySem.wpAny_newObj_type
theorem X6:type_of% @List.mem_range:=@List.mem_range
theorem X7:type_of% @PySem.Heap.size_push:=@PySem.Heap.size_push
theorem X8:type_of% @List.getElem?_of_mem.{0}:=@List.getElem?_of_mem.{0}
theorem X9:type_of% @Bool.not_false:=@Bool.not_false
theorem Ya:type_of% @PySem.wpAny_comprehension_free:=@PySem.wpAny_comprehension_free
theorem Yb:type_of% @List.length_set.{0}:=@List.length_set.{0}
theorem Yc:type_of% @PySem.Around.under_plainId:=@PySem.Around.under_plainId
theorem Yd:type_of% @List.length_eq_zero_iff.{0}:=@List.length_eq_zero_iff.{0}
theorem Ye:type_of% @PySem.wpAny_standAt:=@PySem.wpAny_standAt
theorem Yf:type_of% @List.any_cons.{0}:=@List.any_cons.{0}
theorem Yg:type_of% @PySem.Heap.get?_update_other:=@PySem.Heap.get?_update_other
theorem Yh:type_of% @decide_eq_true_eq:=@decide_eq_true_eq
theorem Yi:type_of% @Array.length_toList.{0}:=@Array.length_toList.{0}
theorem Yj:type_of% @List.map_congr_left.{0,0}:=@List.map_congr_left.{0,0}
theorem Yk:type_of% @Bool.eq_iff_iff:=@Bool.eq_iff_iff
theorem Yl:type_of% @List.map_append.{0,0}:=@List.map_append.{0,0}
theorem Ym:type_of% @Classical.byContradiction:=@Classical.byContradiction
theorem Yn:type_of% @List.pairwise_iff_getElem.{0}:=@List.pairwise_iff_getElem.{0}
theorem Yo:type_of% @List.find?_eq_none.{0}:=@List.find?_eq_none.{0}
theorem Yp:type_of% @PySem.wpAny_holding:=@PySem.wpAny_holding
theorem Yq:type_of% @List.replicate_succ.{0}:=@List.replicate_succ.{0}
theorem Yr:type_of% @List.filter_eq_self.{0}:=@List.filter_eq_self.{0}
theorem Ys:type_of% @List.any_eq_true.{0}:=@List.any_eq_true.{0}
theorem Yt:type_of% @PySem.W.mg_none_of:=@PySem.W.mg_none_of
theorem Yu:type_of% @List.mem_cons_self.{0}:=@List.mem_cons_self.{0}
theorem Yv:type_of% @PySem.wpAny_Call_Name_kw:=@PySem.wpAny_Call_Name_kw
theorem Yw:type_of% @PySem.wpAny_passesOwn:=@PySem.wpAny_passesOwn
theorem Yx:type_of% @PySem.wpAny_loadPart':=@PySem.wpAny_loadPart'
theorem Yy:type_of% @PySem.W.kia_one:=@PySem.W.kia_one
theorem Yz:type_of% @PySem.W.kia_tup:=@PySem.W.kia_tup
theorem YA:type_of% @PySem.codeAny_builtin:=@PySem.codeAny_builtin
theorem YB:type_of% @PySem.sizeLine_eq:=@PySem.sizeLine_eq
theorem YC:type_of% @Nat.zero_add:=@Nat.zero_add
theorem YD:type_of% @PySem.plainId_quiet:=@PySem.plainId_quiet
theorem YE:type_of% @PySem.F.plain_max_loop:=@PySem.F.plain_max_loop
theorem YF:type_of% @List.filter_cons.{0}:=@List.filter_cons.{0}
theorem YG:type_of% @Nat.lt_succ_of_lt:=@Nat.lt_succ_of_lt
def bq{p:Prop}(h:¬p->False):p:=Ym h
namespace L2
open PySem PySem.Spec PyProof.Rows
abbrev Key:=Sum Int Str
def xm:Key->Value->Bool
 | .inl k,v=>Value.isInt k v
 | .inr x,v=>Value.isStrOf x v
def Qq(w:World):Key->Int
 | .inl k=>hashInt k
 | .inr x=>hashStr w x
theorem uV:∀{k:Key} {v:Value},xm k v=true->(∃i t,k=Sum.inl i/\v=Value.int i t)\/(∃x t,k=Sum.inr x/\v=Value.str x t)
 | .inl i,v,h=>by
  obtain⟨t,e⟩:=Value.isInt_shape (k:=i) (v:=v) h;exact .inl ⟨i,t,rfl,e⟩
 | .inr x,v,h=>by
  obtain⟨t,e⟩:=Value.isStrOf_shape (x:=x) (v:=v) h;exact(.inr ⟨x,t,rfl,e⟩)
def MT(i:Int)(t:Tok):xm (.inl i) (.int i t)=true:=by simp[xm,Value.isInt]
def Pk(x:Str)(t:Tok):xm (.inr x) (.str x t)=true:=by simp[xm,Value.isStrOf]
def Q0(a b:Int):decide ((Sum.inl a:Key)=Sum.inl b)=(a==b):=by
 by_cases e:a=b
 ·subst e;simp
 ·have h:¬(Sum.inl a:Key)=Sum.inl b:=fun q=>e (Sum.inl.inj q);rw[Xs h];exact(beq_eq_false_iff_ne.mpr e).symm
def UM(a b:Str):decide ((Sum.inr a:Key)=Sum.inr b)=decide (a=b):=by
 by_cases e:a=b
 ·subst e;simp
 ·have h:¬(Sum.inr a:Key)=Sum.inr b:=fun q=>e (Sum.inr.inj q);rw[Xs h,Xs e]
def WN(a:Int)(b:Str):decide ((Sum.inl a:Key)=Sum.inr b)=false:=Xs (fun q=>nomatch q)
def P2(a:Str)(b:Int):decide ((Sum.inr a:Key)=Sum.inl b)=false:=Xs (fun q=>nomatch q)
def tQ(prog:Program)(w:World):PySem.KeyKind prog w Key where
 is:=xm
 hash:=Qq w
 inj:=fun v a b ha hb=>by
  rcases uV ha with⟨i,t,rfl,rfl⟩|⟨x,t,rfl,rfl⟩
  ·rcases uV hb with⟨j,u,rfl,e⟩|⟨y,u,rfl,e⟩
   ·injection e with e1 _;rw[e1]
   ·exact nomatch e
  ·rcases uV hb with⟨j,u,rfl,e⟩|⟨y,u,rfl,e⟩
   ·exact nomatch e
   ·injection e with e1 _;rw[e1]
 byValue:=fun k v h=>by
  rcases uV h with⟨i,t,rfl,rfl⟩|⟨x,t,rfl,rfl⟩<;>rfl
 pyHash:=fun hv h=>by
  rcases uV hv with⟨i,t,rfl,rfl⟩|⟨x,t,rfl,rfl⟩
  ·exact wpAny_pyHash_int h
  ·exact wpAny_pyHash_str h
 eqBool:=fun hu hv h=>by
  rcases uV hu with⟨i,t,rfl,rfl⟩|⟨x,t,rfl,rfl⟩
  ·rcases uV hv with⟨j,u,rfl,rfl⟩|⟨y,u,rfl,rfl⟩
   ·rw[Q0] at h;exact wpAny_eqBool_int h
   ·rw[WN] at h;exact SeqAt.EqAt.int_str i t y u _ _ _ _ h
  ·rcases uV hv with⟨j,u,rfl,rfl⟩|⟨y,u,rfl,rfl⟩
   ·rw[P2] at h;exact SeqAt.EqAt.str_int x t j u _ _ _ _ h
   ·rw[UM] at h;exact wpAny_eqBool_str h
 «strs»:=fun k x t v h=>by
  rcases uV h with⟨i,u,rfl,e⟩|⟨y,u,rfl,e⟩
  ·exact nomatch e
  ·injection e with e1 _
   subst e1;cases v<;>rfl
def UI(prog:Program)(w:World)(i:Int)(t:Tok):(tQ prog w).is (.inl i) (.int i t)=true:=MT i t
def W9(prog:Program)(w:World)(x:Str)(t:Tok):(tQ prog w).is (.inr x) (.str x t)=true:=Pk x t
inductive V where
 |non|bl (b:Bool)|int (i:Int)|str (x:Str)|byt (b:Array UInt8)|flt (b:UInt64)|ref (a:Addr)|ty (n:String)
 deriving DecidableEq
def RelV:V->Value->Prop
 | .non,u=>u=Value.none
 | .bl b,u=>u=Value.bool b
 | .int i,u=>∃t,u=Value.int i t
 | .str x,u=>∃t,u=Value.str x t
 | .byt b,u=>∃t,u=Value.bytes b t
 | .flt b,u=>∃t,u=Value.float b t
 | .ref a,u=>u=Value.ref a
 | .ty n,u=>u=Value.type n
abbrev Vals:List V->List Value->Prop:=Paired RelV
def Vals.length{xs:List V}{us:List Value}(r:Vals xs us):xs.length=us.length:=Paired.length r
theorem Vals.get:∀{xs:List V} {us:List Value} {i:Nat} {x:V},Vals xs us->xs[i]?=some x->∃u,us[i]?=some u/\RelV x u
 |_,_,_,_,.nil,e=>by simp at e
 |_,_,0,_,.cons r _,e=>by simp at e;subst e;exact⟨_,rfl,r⟩
 |_,_,i+1,x,.cons _ t,e=>by
  obtain⟨u,h1,h2⟩:=Vals.get (i:=i) (x:=x) t (by simpa using e);exact(⟨u,by simpa using h1,h2⟩)
theorem Vals.set{x:V}{u:Value}(r:RelV x u):∀{xs:List V} {us:List Value} (i:Nat),Vals xs us->Vals (xs.set i x) (us.set i u)
 |_,_,_,.nil=>.nil
 |_,_,0,.cons _ t=>.cons r t
 |_,_,i+1,.cons q t=>.cons q (Vals.set r i t)
theorem Vals.append:∀{xs ys:List V} {us ws:List Value},Vals xs us->Vals ys ws->Vals (xs++ys) (us++ws)
 |_,_,_,_,.nil,s=>s
 |_,_,_,_,.cons r t,s=>.cons r (Vals.append t s)
theorem Vals.take:∀{xs:List V} {us:List Value} (n:Nat),Vals xs us->Vals (xs.take n) (us.take n)
 |_,_,0,_=>.nil
 |_,_,_+1,.nil=>.nil
 |_,_,n+1,.cons r t=>.cons r (Vals.take n t)
theorem Vals.drop:∀{xs:List V} {us:List Value} (n:Nat),Vals xs us->Vals (xs.drop n) (us.drop n)
 |_,_,0,r=>r
 |_,_,_+1,.nil=>.nil
 |_,_,n+1,.cons _ t=>Vals.drop n t
def RelO:Option V->Option Value->Prop
 |some v,some u=>RelV v u
 |none,none=>True
 |_,_=>False
def KV{κ:Type}:List (κ×V)->List (κ×Value)->Prop:=Paired fun(p:κ×V) (q:κ×Value)=>p.1=q.1/\RelV p.2 q.2
def kV:Key->V
 | .inl i=>.int i
 | .inr x=>.str x
abbrev NK:=List Int×Int
section
variable {P:Program} {w:World}
def NkIs(P:Program)(w:World)(h:Heap)(k:NK)(a:Addr):Prop:=∃(o:Obj) (b:Addr) (t:Tok) (c:Nat),h.get? a=some o/\o.cls=.type "tuple"/\o.data=.seq #[.ref b,.int k.2 t] c/\IsTupleKey (intKind P w) h k.1 b
def C6(P:Program)(w:World)(k:NK):Int:=reduceHash (Builtin.Tuple.tupleHashOf [tupleKeyHash (intKind P w) k.1,hashInt k.2])
variable {A:Around} {E:OK} {s:Shared} {k m:NK} {a b:Addr}
theorem NkIs.ty(x:NkIs P w s.heap k a):s.TypeIs (.ref a) "tuple":=let ⟨o,_,_,_,h1,h2,_⟩:=x;⟨o,h1,h2⟩
theorem NkIs.inj{h:Heap}(x:NkIs P w h k a)(y:NkIs P w h m a):k=m:=by
 obtain⟨o,b,t,c,h1,_,h3,h4⟩:=x;obtain⟨o',b',t',c',g1,_,g3,g4⟩:=y;rw[h1] at g1;cases g1;rw[h3] at g3;obtain⟨k1,k2⟩:=k;obtain⟨m1,m2⟩:=m;simp only[Data.seq.injEq,Array.mk.injEq,List.cons.injEq,Value.ref.injEq,Value.int.injEq] at g3;obtain⟨⟨e1,⟨e2,_⟩,_⟩,_⟩:=g3;subst e1;subst e2;have:=h4.inj g4;simp only at this;subst this;rfl
theorem NkIs.keeps{h h':Heap}{d:Addr}{o:Obj}{es ep}(x:NkIs P w h k a)(ho:h.get? d=some o)(hd:o.data=.dict es ep)(hs:Heap.SameBut d h h'):NkIs P w h' k a:=by
 obtain⟨q,b,t,c,h1,h2,h3,h4⟩:=x;refine⟨q,b,t,c,(hs.2 a ?_).trans h1,h2,h3,h4.keeps ho hd hs⟩;intro e;subst e;rw[ho] at h1;cases h1;rw[h3] at hd;cases hd
theorem WU{Q:Int->Shared->Prop}(hu:A.units+4<cLine)(x:NkIs P w s.heap k a)(h:Q (C6 P w k) {s with toks:=s.toks+(k.1.length+3)}):wpAny (model P w) A (pyHash (.ref a)) Q E s:=by
 have hT:=x.ty;obtain⟨o,b,t,c,h1,_,h3,h4⟩:=x;unfold pyHash;first|unfold pyHashByItsType|skip
 first|refine Xb (wpAny_cRoomFor_or (.inr (by omega)) ?_)|skip
 refine Xb (wpAny_specialOf hT F.slot_tuple_hash.lookup ?_);show wpAny _ _ (if(some (Value.builtin "tuple.__hash__")==some Value.none)=true then _ else _) Q E s;rw[if_neg (by rw[beq_builtin_none];exact XR)];refine Xb (wpAny_specialOf hT F.slot_tuple_hash.lookup ?_);show wpAny _ _ (callSpecialIfBoundUnlessNone? (.ref a) "__hash__" _ >>= _) Q E s;refine Xb (wpAny_callSpecialIfBoundUnlessNone?_slot hT F.slot_tuple_hash (wpAny_call_entry F.slot_tuple_hash hT F.entry_tuple_hash ?_ (F.args_tuple_hash_1 _)));show wpAny _ _ (Builtin.Tuple.tupleItemsOf (.ref a) >>= _) _ _ s;refine Xb (wpAny_tupleItemsOf h1 h3 ?_);refine Xb ?_;rw[←Array.forIn_toList];show wpAny _ _ (forIn [Value.ref b,Value.int k.2 t] (#[]:Array Int) _) _ _ _;rw[List.forIn_cons];refine Xb (Xb (wpAny_pyHash_tuple (show A.in1.units<cLine by show A.units+1<cLine;omega) h4 (Xf ?_)));show wpAny _ _ (forIn [Value.int k.2 t] (#[tupleKeyHash (intKind P w) k.1]:Array Int) _) _ _ _;rw[List.forIn_cons];refine Xb (Xb ((intKind P w).pyHash (k:=k.2) (by simp[intKind,Value.isInt]) (Xf ?_)));show wpAny _ _ (forIn [] (#[tupleKeyHash (intKind P w) k.1,hashInt k.2]:Array Int) _) _ _ _;rw[List.forIn_nil];refine Xf ?_;show wpAny _ _ (retInt (Builtin.Tuple.tupleHashOf [tupleKeyHash (intKind P w) k.1,hashInt k.2])) _ _ _;refine wpAny_ret_mkInt ?_;have et:s.toks+(k.1.length+1)+1+1=s.toks+(k.1.length+3):=by omega
 unfold C6 reduceHash at h;generalize Builtin.Tuple.tupleHashOf [tupleKeyHash (intKind P w) k.1,hashInt k.2]=z at h⊢;show wpAny _ _ (ite ((decide (-(2:Int)^63<=z)&&decide (z<2^63))=true) _ _) Q E _;rw[←et] at h;by_cases hr:(decide (-(2:Int)^63<=z)&&decide (z<2^63))=true
 ·rw[if_pos hr] at h⊢;exact Xf h
 ·rw[if_neg hr] at h⊢;exact Xb (wpAny_rule (Xf h))
theorem V8{Q:Fin->Shared->Prop}(hu:A.units<cLine)(x:NkIs P w s.heap k a)(y:NkIs P w s.heap m b)(h:Q (.done (.ret (.bool (decide (k=m))))) s):wpAny (model P w) A (Builtin.«tuple.__eq__» ⟨[.ref a,.ref b],[]⟩) Q E s:=by
 have hTb:=y.ty;obtain⟨o,b1,t,c,h1,_,h3,h4⟩:=x;obtain⟨o',b1',t',c',g1,_,g3,g4⟩:=y;show wpAny _ _ (isInstance (.ref b) (.type "tuple") >>= _) _ _ s;refine Xb (wpAny_isInstance hTb isSubtype_tuple_tuple ?_);simp only[Xt,XL,if_false];refine Xb (wpAny_tupleItemsOf h1 h3 ?_);refine Xb (wpAny_tupleItemsOf g1 g3 ?_);refine Xb ?_;show wpAny _ _ (forIn [(Value.ref b1,Value.ref b1'),(Value.int k.2 t,Value.int m.2 t')] ((none:Option PySem.Fin),()) _) _ _ _;rw[List.forIn_cons];refine Xb (Xb (wpAny_eqBool_tuple hu h4 g4 ?_));by_cases e1:k.1=m.1
 ·rw[XO e1];simp only[Xt,XL,if_false];refine Xf ?_;show wpAny _ _ (forIn [(Value.int k.2 t,Value.int m.2 t')] ((none:Option PySem.Fin),()) _) _ _ _;rw[List.forIn_cons];refine Xb (Xb ((intKind P w).eqBool (a:=k.2) (b:=m.2) (by simp[intKind,Value.isInt]) (by simp[intKind,Value.isInt]) ?_));by_cases e2:k.2=m.2
  ·have e:k=m:=Prod.ext e1 e2;rw[XO e] at h;rw[XO e2];simp only[Xt,XL,if_false];refine Xf ?_;show wpAny _ _ (forIn [] ((none:Option PySem.Fin),()) _) _ _ _;rw[List.forIn_nil];refine Xf ?_;exact Xf h
  ·have e:¬k=m:=fun z=>e2 (by rw[z]);rw[Xs e] at h;rw[Xs e2];simp only[X9,if_true];exact Xb (Xf (Xf (Xf (Xf h))))
 ·have e:¬k=m:=fun z=>e1 (by rw[z]);rw[Xs e] at h;rw[Xs e1];simp only[X9,if_true];exact Xb (Xf (Xf (Xf (Xf h))))
theorem y3n{Q:Bool->Shared->Prop}(hu:A.units+4<cLine)(x:NkIs P w s.heap k a)(y:NkIs P w s.heap m b)(h:Q (decide (k=m)) s):wpAny (model P w) A (eqBool (.ref a) (.ref b)) Q E s:=by
 unfold eqBool;try with_reducible refine Yp ?_
 show wpAny _ _ (ite ((Value.ref a==Value.ref b)=true) _ _) Q E s;by_cases hab:a=b
 ·subst hab;rw[if_pos (by simp)];have:=x.inj y;subst this;exact Xb (wpAny_rule (Xf (by simpa using h)))
 ·rw[if_neg (by simpa using hab)];exact Xb (wpAny_richCompare_same_room (op:=.Eq) x.ty y.ty F.slot_tuple_eq (wpAny_call_entry F.slot_tuple_eq x.ty F.entry_tuple_eq (V8 (by show A.units+1<cLine;omega) x y ⟨_,rfl,(fun e=>nomatch e),XV h⟩) (F.args_tuple_eq_2 _ _)) (by omega))
theorem Vk{ks:List Int}{n:Nat}{Q:Bool->Shared->Prop}(x:IsTupleKey (intKind P w) s.heap ks a)(h:Q true s):wpAny (model P w) A (eqIsQuiet (n+1) (.ref a)) Q E s:=by
 have hT:=x.typeIs;obtain⟨o,items,c,h1,_,h3,h4⟩:=x;unfold eqIsQuiet;refine Xb (wpAny_specialOf hT F.slot_tuple_eq.lookup ?_);show wpAny _ _ (isInstance (.ref a) (.type "tuple") >>= _) _ _ s;refine Xb (wpAny_isInstance hT isSubtype_tuple_tuple ?_);simp only[Xt,XL,if_false];refine Xb (wpAny_seqItems h1 h3 ?_);refine Xb ?_;show wpAny _ _ (forIn items _ _) _ _ s;rw[←Array.forIn_toList];refine wpAny_forIn_list _ (fun qV r s'=>r.1=none/\s'=s/\∀v∈qV,carriedByValue v=true) _ ?_ ?_ _ _ ⟨rfl,rfl,h4.byValue⟩
 ·intro v qV r s' q;obtain⟨_,e,q⟩:=q;subst e;rw[eqIsQuiet_byValue _ (q v (by simp))];refine Xb (Xf ?_);simp only[Xt,XL,if_false];exact Xf ⟨rfl,rfl,fun u hu=>q u (by simp[hu])⟩
 ·intro r s' q;obtain⟨r1,r2⟩:=r;obtain⟨e1,e2,_⟩:=q;cases e1;subst e2;exact Xf h
theorem TR{Q:Bool->Shared->Prop}(x:NkIs P w s.heap k a)(h:Q true s):wpAny (model P w) A (eqIsQuiet 8 (.ref a)) Q E s:=by
 have hT:=x.ty;obtain⟨o,b,t,c,h1,_,h3,h4⟩:=x;unfold eqIsQuiet;refine Xb (wpAny_specialOf hT F.slot_tuple_eq.lookup ?_);show wpAny _ _ (isInstance (.ref a) (.type "tuple") >>= _) _ _ s;refine Xb (wpAny_isInstance hT isSubtype_tuple_tuple ?_);simp only[Xt,XL,if_false];refine Xb (wpAny_seqItems h1 h3 ?_);refine Xb ?_;rw[←Array.forIn_toList];show wpAny _ _ (forIn [Value.ref b,Value.int k.2 t] _ _) _ _ s;rw[List.forIn_cons];refine Xb (Xb (Vk h4 ?_));simp only[Xt,XL,if_false];refine Xf ?_;show wpAny _ _ (forIn [Value.int k.2 t] _ _) _ _ s;rw[List.forIn_cons,eqIsQuiet_byValue _ rfl];refine Xb (Xb (Xf ?_));simp only[Xt,XL,if_false];refine Xf ?_;show wpAny _ _ (forIn [] _ _) _ _ s;rw[List.forIn_nil];exact Xf (Xf h)
end
def yE(P:Program)(w:World):HeapKind P w NK where
 is:=NkIs P w
 hash:=C6 P w
 draws:=fun k=>k.1.length+3
 room:=fun A=>A.units+4<cLine
 inj:=fun x y=>x.inj y
 keeps:=fun x h1 h2 h3=>x.keeps h1 h2 h3
 pyHash:=fun h x q=>WU h x q
 eqBool:=fun h x y q=>y3n h x y q
 quiet:=fun x q=>TR x q
inductive HO where
 |lst (xs:List V)
 |tup (xs:List V)
 |dK (kvs:List (Key×V))|dT (kvs:List (NK×V))
 |set (S:Int->Bool) (n:Nat)
 |ins (C dx:Addr) (fs:List (Str×V))
 |own (x:Addr)
 |xd (fs:List (Str×V))
 |met (f x:Addr)
 |rng (lo hi:Int)
 |frz (o:Obj) (u:HO)
 |tbl (ps:Array Value)
 |ext (φ:Heap->Prop)
abbrev Hp:=Addr->Option HO
def NKey(H:Hp)(b:Addr)(k:NK):Prop:=∃c,H b=some (.tup [.ref c,.int k.2])/\H c=some (.tup (k.1.map V.int))
def NKey.up{H H':Hp}{b:Addr}{k:NK}(e:NKey H b k)(ht:∀b xs,H b=some (.tup xs)->H' b=some (.tup xs)):NKey H' b k:=let ⟨c,h1,h2⟩:=e;⟨c,ht _ _ h1,ht _ _ h2⟩
def upd(H:Hp)(a:Addr)(o:HO):Hp:=fun b=>if b=a then some o else H b
def sf{H:Hp}{a:Addr}{o:HO}:upd H a o a=some o:=by unfold upd;rw[if_pos rfl]
def qZ{H:Hp}{a b:Addr}{o:HO}(h:b≠a):upd H a o b=H b:=by unfold upd;rw[if_neg h]
def Ug{H:Hp}{a b:Addr}{o u:HO}(h:H a=some o)(h':H b=some u)(d:o≠u):a≠b:=by
 intro e;subst e;rw[h] at h';exact d (Xv h')
def sV{H:Hp}{a b:Addr}{o:HO}(h:H a=some o)(h':H b=none):a≠b:=by
 intro e;subst e;rw[h] at h';cases h'
section
variable (P:Program) (w:World)
def ObjOk(H:Hp)(h:Heap)(a:Addr):HO->Prop
 | .lst xs=>xs.length<=sizeLine/\∃(its:List Value) (n:Nat),Vals xs its/\h.get? a=some {cls:=.type "list",data:=.seq its.toArray n}
 | .tup xs=>xs.length<=sizeLine/\∃its:List Value,Vals xs its/\IsTup h a its.toArray
 | .dK kvs=>kvs.length<=sizeLine/\(a==sysModules)=false/\∃vs,KV kvs vs/\h.DictOf (tQ P w) a vs
 | .dT kvs=>kvs.length<=sizeLine/\(a==sysModules)=false/\∃xs:List (NK×Addr×Value),
   Paired (fun(p:NK×V) (q:NK×Addr×Value)=>p.1=q.1/\NKey H q.2.1 p.1/\RelV p.2 q.2.2) kvs xs/\
   ∃o es ep,h.get? a=some o/\o.ExactDict/\o.data=.dict es ep/\es.toList=xs.map (entryOfKey (yE P w))/\(xs.map (·.1)).Nodup
 | .set S n=>h.SetOf (intKind P w) a S n
 | .ins C dx fs=>H dx=some (.own a)/\fs.length<=1000/\dx≠a/\h.get? a=some (PySem.W.instObj C dx)/\
   ∃mA,h.Ns1 dx mA/\(∀f,RelO (fs.lookup f) (mA f))/\PySem.Within mA (fs.map (·.1))
 | .own _=>∃o,h.get? a=some o
 | .xd fs=>∃mA,h.Ns1 a mA/\∀f,RelO (fs.lookup f) (mA f)
 | .rng lo hi=>∃t u v,h.get? a=some {cls:=.type "range",data:=.fields #[.int lo t,.int hi u,.int 1 v]}
 | .frz o u=>h.get? a=some o/\ObjOk H h a u
 | .tbl ps=>h.get? a=some {cls:=.none,data:=.fields ps}
 | .met f x=>h.get? a=some (PySem.W.methodObj (.ref f) (.ref x))
 | .ext φ=>φ h/\(∃o,h.get? a=some o)/\∀h1 h2:Heap,φ h1->(∀o,h1.get? a=some o->h2.get? a=some o)->φ h2
def HOk(H:Hp)(h:Heap):Prop:=∀a o,H a=some o->ObjOk P w H h a o
end
section
variable {P:Program} {w:World} {H H':Hp} {h h':Heap} {a:Addr} {o:HO}
theorem ObjOk.lt(x:ObjOk P w H h a o):a<h.objs.size:=by
 cases o with
 |lst xs=>obtain⟨_,_,_,_,e⟩:=x;exact Xi e
 |tup xs=>obtain⟨_,_,_,p⟩:=x;exact p.lt
 |dK kvs=>obtain⟨_,_,_,_,o,_,_,e,_⟩:=x;exact Xi e
 |dT kvs=>obtain⟨_,_,_,_,o,_,_,e,_⟩:=x;exact Xi e
 |set S n=>obtain⟨o,_,_,_,e,_⟩:=x;exact Xi e
 |ins C dx fs=>obtain⟨_,_,_,e,_⟩:=x;exact Xi e
 |own y=>obtain⟨_,e⟩:=x;exact Xi e
 |xd fs=>obtain⟨_,⟨_,_,_,e,_⟩,_⟩:=x;exact Xi e
 |rng lo hi=>obtain⟨_,_,_,e⟩:=x;exact Xi e
 |frz ob u=>obtain⟨e,_⟩:=x;exact Xi e
 |tbl ps=>exact Xi (show h.get? a=some _ from x)
 |met f y=>exact Xi (show h.get? a=some _ from x)
 |ext φ=>obtain⟨_,⟨_,e⟩,_⟩:=x;exact Xi e
theorem Paired.mapP{α β:Type}{F G:α->β->Prop}:∀{Zi:List α} {Zh:List β},Paired F Zi Zh->(∀a b,F a b->G a b)->Paired G Zi Zh
 |_,_,.nil,_=>.nil
 |_,_,.cons r t,f=>.cons (f _ _ r) (Paired.mapP t f)
theorem ObjOk.stay(x:ObjOk P w H h a o)(k:∀b u,(b=a\/H b=some (.own a))->h.get? b=some u->h'.get? b=some u)
  (ho:∀b,H b=some (.own a)->H' b=some (.own a)) (ht:∀b xs,H b=some (.tup xs)->H' b=some (.tup xs)):ObjOk P w H' h' a o:=by
 induction o with
 |lst xs=>obtain⟨z,its,n,r,e⟩:=x;exact⟨z,its,n,r,k _ _ (.inl rfl) e⟩
 |tup xs=>obtain⟨z,its,r,ob,e,c⟩:=x;exact⟨z,its,r,ob,k _ _ (.inl rfl) e,c⟩
 |dK kvs=>obtain⟨z,y,vs,r,ob,es,ep,e,c⟩:=x;exact⟨z,y,vs,r,ob,es,ep,k _ _ (.inl rfl) e,c⟩
 |dT kvs=>
  obtain⟨z,y,xs,r,ob,es,ep,e,c⟩:=x;exact⟨z,y,xs,Paired.mapP r fun p q z=>⟨z.1,z.2.1.up ht,z.2.2⟩,ob,es,ep,k _ _ (.inl rfl) e,c⟩
 |set S n=>obtain⟨ob,es,ep,t,e,c⟩:=x;exact⟨ob,es,ep,t,k _ _ (.inl rfl) e,c⟩
 |ins C dx fs=>
  obtain⟨d,z,ne,e,mA,⟨od,es,ep,e2,c⟩,r⟩:=x;exact⟨ho _ d,z,ne,k _ _ (.inl rfl) e,mA,⟨od,es,ep,k _ _ (.inr d) e2,c⟩,r⟩
 |own y=>obtain⟨ob,e⟩:=x;exact⟨ob,k _ _ (.inl rfl) e⟩
 |xd fs=>obtain⟨mA,⟨od,es,ep,e,c⟩,r⟩:=x;exact⟨mA,⟨od,es,ep,k _ _ (.inl rfl) e,c⟩,r⟩
 |rng lo hi=>obtain⟨t,u,v,e⟩:=x;exact⟨t,u,v,k _ _ (.inl rfl) e⟩
 |frz ob u ih=>obtain⟨e,q⟩:=x;exact⟨k _ _ (.inl rfl) e,ih q⟩
 |tbl ps=>
  have e:h.get? a=some {cls:=.none,data:=.fields ps}:=x;show h'.get? a=some {cls:=.none,data:=.fields ps};exact k a _ (.inl rfl) e
 |met f y=>
  have e:h.get? a=some (PySem.W.methodObj (.ref f) (.ref y)):=x;show h'.get? a=some (PySem.W.methodObj (.ref f) (.ref y));exact k a _ (.inl rfl) e
 |ext φ=>obtain⟨p,⟨o,e⟩,st⟩:=x;exact⟨st _ _ p fun o q=>k _ _ (.inl rfl) q,⟨o,k _ _ (.inl rfl) e⟩,st⟩
theorem HOk.lt(x:HOk P w H h)(e:H a=some o):a<h.objs.size:=(x a o e).lt
theorem HOk.fresh(x:HOk P w H h)(e:h.objs.size<=a):H a=none:=by
 cases q:H a with
 |none=>rfl
 |some u=>exact absurd (Xu (x.lt q) e) (X0 _)
theorem HOk.kept(x:HOk P w H h)(k:∀b u,h.get? b=some u->h'.get? b=some u):HOk P w H h':=fun a o e=>
 (x a o e).stay (fun b u _ q=>k b u q) (fun _ q=>q) fun _ _ q=>q
theorem HOk.laid(x:HOk P w H h)(k:∀b u,h.get? b=some u->h'.get? b=some u)(hp:h.objs.size<=a)(new:ObjOk P w (upd H a o) h' a o):HOk P w (upd H a o) h':=fun b u e=>by
 have hn:=x.fresh hp;by_cases hb:b=a
 ·subst hb;rw[sf] at e;cases e;exact new
 ·rw[qZ hb] at e;exact(x b u e).stay (fun c v _ q=>k c v q) (fun c q=>by rw[qZ (sV q hn)];exact q) fun c xs q=>by rw[qZ (sV q hn)];exact q
end
def Rd(H:Hp)(a:Addr)(u:HO):Prop:=H a=some u\/∃o,H a=some (.frz o u)
def Rd.ok{P:Program}{w:World}{H:Hp}{h:Heap}{a:Addr}{u:HO}(r:Rd H a u)(x:HOk P w H h):ObjOk P w H h a u:=by
 rcases r with r|⟨o,r⟩
 ·exact x a u r
 ·obtain⟨_,q⟩:=x a _ r;exact q
def Mut:Option HO->Prop
 |some (.lst _)=>True
 |some (.dK _)=>True
 |some (.dT _)=>True
 |some (.set _ _)=>True
 |some (.ins _ _ _)=>True
 |some (.ext _)=>True
 |_=>False
section
variable {P:Program} {w:World} {H:Hp} {h h':Heap} {x e:Addr} {o':HO}
theorem HOk.write(ok:HOk P w H h)(mu:Mut (H x))(he:e=x\/H e=some (.own x))(k:∀b u,b≠e->h.get? b=some u->h'.get? b=some u)(heo:∃u,h'.get? e=some u)
  (new:ObjOk P w (upd H x o') h' x o'):HOk P w (upd H x o') h':=fun b u q=>by
 have nown:∀c y,H c=some (.own y)->c≠x:=fun c y r z=>by subst z;rw[r] at mu;exact mu
 have ntup:∀c xs,H c=some (.tup xs)->c≠x:=fun c xs r z=>by subst z;rw[r] at mu;exact mu
 by_cases hb:b=x
 ·subst hb;rw[sf] at q;cases q;exact new
 ·rw[qZ hb] at q;by_cases hbe:b=e
  ·have q':H b=some (.own x):=by
    rcases he with z|z
    ·exact absurd (hbe.trans z) hb
    ·rw[hbe];exact z
   rw[q] at q';cases q';obtain⟨v,hv⟩:=heo;exact⟨v,by rw[hbe];exact hv⟩
  ·refine(ok b u q).stay (fun c v hc r=>k c v ?_ r) (fun c r=>by rw[qZ (nown c b r)];exact r) fun c xs r=>by rw[qZ (ntup c xs r)];exact r
   rcases hc with rfl|hc
   ·exact hbe
   ·rintro rfl;rcases he with z|z
    ·exact nown c b hc z
    ·rw[hc] at z;cases z;exact hb rfl
end
structure Un (fs ex:List Addr) (H H':Hp) (h h':Heap):Prop where
 keep:∀b o,h.get? b=some o->H b=none->b∉fs->b∉ex->h'.get? b=some o
 slot:∀b o,h.get? b=some o->H b=none->b∈fs->b∉ex->∃sl,h'.get? b=some {o with slots:=sl}
 free:∀b o,h.get? b=some o->H b=none->b∉ex->H' b=none
 there:∀b o,h.get? b=some o->b∉ex->∃o',h'.get? b=some o'
 tups:∀b xs,H b=some (.tup xs)->H' b=some (.tup xs)
 frzs:∀b o u,H b=some (.frz o u)->H' b=some (.frz o u)
 tbls:∀b ps,H b=some (.tbl ps)->∃more,H' b=some (.tbl (ps++more))
section
variable {fs ex:List Addr} {H H1:Hp} {h h1 h':Heap} {a x e:Addr} {o:HO}
theorem Un.any(u:Un fs ex H H1 h h1){b:Addr}{ob:Obj}(q:h.get? b=some ob)(n:H b=none)(hx:b∉ex):∃sl,h1.get? b=some {ob with slots:=sl}:=by
 by_cases hb:b∈fs
 ·exact u.slot b ob q n hb hx
 ·exact⟨ob.slots,u.keep b ob q n hb hx⟩
theorem Un.kept(k:∀b u,h.get? b=some u->h'.get? b=some u):Un fs ex H H h h':=
 ⟨fun b ob q _ _ _=>k b ob q,fun b ob q _ _ _=>⟨ob.slots,k b ob q⟩,fun _ _ _ n _=>n,fun b ob q _=>⟨ob,k b ob q⟩,fun _ _ q=>q,fun _ _ _ q=>q,fun _ ps q=>⟨#[],by rw[q];simp⟩⟩
theorem Un.refl:Un fs ex H H h h:=Un.kept fun _ _ q=>q
theorem Un.laid(k:∀b u,h.get? b=some u->h'.get? b=some u)(hp:h.objs.size<=a)(hn:H a=none):Un fs ex H (upd H a o) h h' where
 keep:=fun b u q _ _ _=>k b u q
 slot:=fun b u q _ _ _=>⟨u.slots,k b u q⟩
 free:=fun b u q n _=>by rw[qZ (Xr (Xu (Xi q) hp))];exact n
 there:=fun b u q _=>⟨u,k b u q⟩
 tups:=fun b xs q=>by rw[qZ (sV q hn)];exact q
 frzs:=fun b u xs q=>by rw[qZ (sV q hn)];exact q
 tbls:=fun b ps q=>⟨#[],by rw[qZ (sV q hn),q];simp⟩
theorem Un.write(mu:Mut (H x))(he:e=x\/H e=some (.own x))(k:∀b u,b≠e->h.get? b=some u->h'.get? b=some u)(heo:∃u,h'.get? e=some u):Un fs ex H (upd H x o) h h':=by
 have hx:∀b,H b=none->b≠x:=fun b n z=>by subst z;rw[n] at mu;exact mu
 have hb:∀b,H b=none->b≠e:=fun b n z=>by
  subst z;rcases he with r|r
  ·exact hx b n r
  ·rw[n] at r;cases r
 have hm:∀b u,H b=some u->¬Mut (some u)->b≠x:=fun b u q nm z=>by subst z;rw[q] at mu;exact nm mu
 refine⟨fun b u q n _ _=>k b u (hb b n) q,fun b u q n _ _=>⟨u.slots,k b u (hb b n) q⟩,fun b u q n _=>by rw[qZ (hx b n)];exact n,fun b u q _=>?_,
  fun b xs q=>by rw[qZ (hm b _ q fun z=>z)];exact q,fun b u xs q=>by rw[qZ (hm b _ q fun z=>z)];exact q,fun b ps q=>⟨#[],by rw[qZ (hm b _ q fun z=>z),q];simp⟩⟩
 by_cases hbe:b=e
 ·subst hbe;exact heo
 ·exact⟨u,k b u hbe q⟩
end
def trk(h:Heap)(H:Hp):List Addr:=(List.range h.objs.size).filter fun a=>(H a).isSome
def vn(h:Heap)(H:Hp):Heap:=PySem.W.hideAll h (trk h H)
def Vs(h:Heap)(H:Hp):(vn h H).objs.size=h.objs.size:=PySem.W.hideAll_size _ _
def TL{h:Heap}{H:Hp}{b:Addr}{o:Obj}(e:h.get? b=some o)(n:H b=none):(vn h H).get? b=some o:=
 PySem.W.hideAll_get _ e fun hm=>by
  have q:(H b).isSome=true:=(Xz.mp hm).2;rw[n] at q;simp at q
def TD{h:Heap}{H:Hp}{b:Addr}{o:Obj}(e:(vn h H).get? b=some o):h.get? b=some o/\H b=none:=by
 have e':h.get? b=some o:=PySem.W.of_hideAll (trk h H) e;refine⟨e',?_⟩;cases q:H b with
 |none=>rfl
 |some x=>
  have hm:b∈trk h H:=Xz.mpr ⟨X6.mpr (Xi e'),by simp[q]⟩;have z:(vn h H).get? b=none:=PySem.W.hideAll_none (trk h H) hm;rw[z] at e;cases e
def zx0(g h:Heap)(Z9:Addr):QS:=(List.range h.objs.size).filterMap fun a=>if a=Z9\/(g.get? a).isSome=true then none else(h.get? a).map fun o=>(a,o)
def qV(g h:Heap)(Z9 d:Addr):QS:=(zx0 g h Z9).filter fun p=>decide (p.1≠d)
structure Mod (K:Frag) (mg:Str->Option Value) (base:Heap):Prop where
 kin:K.In base
 glob:base.Ns mainGlobals mg
 blt:∃mb,base.Ns builtinsNs mb/\∀x:Str,x≠"__name__"->mb x=bootBuiltins x
 nolimit:base.NoLimit
structure Cx where
 prog:Program
 w:World
 K:Frag
 mg:Str->Option Value
 base:Heap
 A:Around
 N:List Str
 Z4:Shared
 Z2:Hp
 env:Env
 outer:List Env
 stack:List Env
 ex:List Addr
 fn:Str->Bool
 calm:Bool
 pn:QS
 xe:Value->Shared->Prop
def frs(l:List Env):List Addr:=l.filterMap (·.frame)
abbrev Cx.fs(X:Cx):List Addr:=frs X.outer
def Vis(sc:Scope)(x:Str):Prop:=sc.names.lookup x=some .local\/sc.names.lookup x=some .cell\/sc.names.lookup x=some .free
def Loc(sc:Scope)(x:Str):Prop:=sc.names.lookup x=some .local\/sc.names.lookup x=some .cell
def OT(env:Env)(h:Heap)(m:Str->Option Value)(x:Str)(u:Value):Prop:=
 (env.kindOf x=some .local/\m x=some u)\/((env.kindOf x=some .cell\/env.kindOf x=some .free)/\∃c,env.cells.lookup x=some c/\h.IsCell c (some u))
structure Cx.Ok (X:Cx):Prop where
 mod:Mod X.K X.mg X.base
 kind:X.env.scope.kind=.function
 glob:X.env.globals=mainGlobals
 blt:X.env.builtins=builtinsNs
 above:X.Z4.heap.objs.size<=X.env.locals
 inj:∀x y c,X.env.cells.lookup x=some c->X.env.cells.lookup y=some c->x=y
 has:∀x,(X.env.kindOf x=some .cell\/X.env.kindOf x=some .free)->∃c,X.env.cells.lookup x=some c
 cab:∀x c,X.fn x=true->X.env.cells.lookup x=some c->X.Z4.heap.objs.size<=c
 hd:X.calm=true->X.A.handled=none
 frames:X.A.frames=some X.stack
 stk:X.stack=X.outer\/(X.stack=X.env::X.outer/\X.env.frame=some X.env.locals)
 exf:∀b∈X.ex,b≠X.env.locals/\∀x c,X.env.cells.lookup x=some c->c≠b
 bs:∀b o,X.base.get? b=some o->X.Z4.heap.get? b=some o/\X.Z2 b=none
 bsz:X.base.objs.size<=X.Z4.heap.objs.size
 noex:∀b o,X.base.get? b=some o->b∉X.ex
 exfs:∀b∈X.ex,b∉X.fs
 funs:X.Z4.heap.FunFrames X.base X.outer
 frf:∀b∈X.fs,X.Z2 b=none
structure Inv (X:Cx) (pins:QS) (B:List (Option V)) (H:Hp) (s:Shared):Prop where
 ok:X.Ok
 os:s.os=X.Z4.os
 bare:AllBare s.gens
 base:Un X.fs X.ex X.Z2 H X.Z4.heap s.heap
 loc:∃m,s.heap.Ns X.env.locals m/\∀(i:Nat) (x:Str) (v:V),X.N[i]?=some x->B[i]?=some (some v)->Vis X.env.scope x->∃u,RelV v u/\OT X.env s.heap m x u
 cell:∀x c,X.env.cells.lookup x=some c->∃v,s.heap.IsCell c v
 free:H X.env.locals=none
 freeC:∀x c,X.env.cells.lookup x=some c->H c=none
 pin:∀p∈X.pn++pins,s.heap.get? p.1=some p.2/\H p.1=none/\p.1≠X.env.locals/\p.1∉X.fs/\∀v,p.2.data≠.cell v
 hok:HOk X.prog X.w H s.heap
 len:B.length=X.N.length
section
variable {X:Cx} {pins:QS} {B:List (Option V)} {H H':Hp} {s:Shared} {h':Heap}
theorem Cx.Ok.nofr(ok:X.Ok){b:Addr}{o:Obj}(e:X.base.get? b=some o):b∉X.fs:=fun hb=>by
 have:=(ok.funs.mem hb).1;rw[e] at this;cases this
theorem Inv.bs(I:Inv X pins B H s):∀b o,X.base.get? b=some o->s.heap.get? b=some o/\H b=none:=fun b o e=>
 ⟨I.base.keep b o (I.ok.bs b o e).1 (I.ok.bs b o e).2 (I.ok.nofr e) (I.ok.noex b o e),I.base.free b o (I.ok.bs b o e).1 (I.ok.bs b o e).2 (I.ok.noex b o e)⟩
theorem Inv.bk(I:Inv X pins B H s):∀b o,X.base.get? b=some o->s.heap.get? b=some o:=fun b o e=>(I.bs b o e).1
theorem Inv.mod(I:Inv X pins B H s):Mod X.K X.mg X.base:=I.ok.mod
theorem Inv.kIn(I:Inv X pins B H s):X.K.In s.heap:=I.ok.mod.kin.keeps I.bk
theorem Inv.lt(I:Inv X pins B H s):X.env.locals<s.heap.objs.size:=let ⟨_,hn,_⟩:=I.loc;hn.lt
theorem Inv.sz(I:Inv X pins B H s):X.Z4.heap.objs.size<=s.heap.objs.size:=Xy I.ok.above (Nat.le_of_lt I.lt)
theorem Inv.nofs(I:Inv X pins B H s){a:Addr}(h:s.heap.objs.size<=a):a∉X.fs:=fun hb=>by
 obtain⟨_,o,ho,_⟩:=I.ok.funs.mem hb;exact(absurd (Xu (Xi ho) (Xy I.sz h)) (X0 _))
theorem Inv.cne(I:Inv X pins B H s):∀x c,X.env.cells.lookup x=some c->c≠X.env.locals:=fun x c e z=>by
 obtain⟨v,o,ho,hd⟩:=I.cell x c e;obtain⟨m,⟨o',es,ep,ho',hd',_⟩,_⟩:=I.loc;rw[z,ho'] at ho;cases ho;rw[hd'] at hd;cases hd
theorem Inv.funs(I:Inv X pins B H s):s.heap.FunFrames X.base X.outer:=by
 have all:∀(l:List Env),(∀b∈frs l,b∈X.fs)->X.Z4.heap.FunFrames X.base l->s.heap.FunFrames X.base l:=by
  intro l;induction l with
  |nil=>intro _ _;trivial
  |cons env r ih=>
   intro hs hl;obtain⟨hk,⟨Z9,o,hf,hn,ho,hd⟩,hr⟩:=hl;have hL:Z9∈X.fs:=hs Z9 (by unfold frs;rw[List.filterMap_cons,hf];exact Yu);obtain⟨sl,e⟩:=I.base.slot Z9 o ho (I.ok.frf Z9 hL) hL fun z=>I.ok.exfs Z9 z hL;exact⟨hk,⟨Z9,_,hf,hn,e,hd⟩,ih (fun b hb=>hs b (by unfold frs;rw[List.filterMap_cons,hf];exact XF _ hb)) hr⟩
 exact all X.outer (fun _ hb=>hb) I.ok.funs
theorem Inv.stack(I:Inv X pins B H s):s.heap.FunFrames X.base X.stack:=by
 rcases I.ok.stk with e|⟨e,hf⟩
 ·rw[e];exact I.funs
 ·rw[e];obtain⟨m,hn,_⟩:=I.loc;refine .cons (by rw[I.ok.kind];decide) hf hn ?_ I.funs;exact Heap.get?_none_of_le (Xy I.ok.bsz I.ok.above)
theorem Inv.stkSub(I:Inv X pins B H s):∀b∈frs X.stack,b∈X.env.locals::X.fs:=fun b hb=>by
 rcases I.ok.stk with e|⟨e,hf⟩
 ·rw[e] at hb;exact XF _ hb
 ·rw[e] at hb;unfold frs at hb;rw[List.filterMap_cons,hf] at hb;exact hb
theorem Inv.stkFree(I:Inv X pins B H s):∀b∈frs X.stack,H b=none:=fun b hb=>by
 rcases XB.mp (I.stkSub b hb) with e|hb
 ·rw[e];exact I.free
 ·obtain⟨_,o,ho,_⟩:=I.ok.funs.mem hb;exact I.base.free b o ho (I.ok.frf b hb) fun z=>I.ok.exfs b z hb
theorem Inv.step{g':Array GenState}{t':Nat}{d':Drawn}{ch:List Addr}(I:Inv X pins B H s)
  (hch:∀b∈ch,(b∈X.ex\/X.Z4.heap.objs.size<=b)/\b≠X.env.locals/\(∀x c,X.env.cells.lookup x=some c->c≠b)/\∀p∈X.pn++pins,p.1≠b)
  (keep:∀b o,b≠X.env.locals->b∉X.fs->b∉ch->s.heap.get? b=some o->H b=none->h'.get? b=some o)
  (slot:∀b o,b≠X.env.locals->b∈X.fs->b∉ch->s.heap.get? b=some o->H b=none->∃sl,h'.get? b=some {o with slots:=sl}) (free:∀b o,b∉ch->s.heap.get? b=some o->H b=none->H' b=none)
  (there:∀b o,b∉ch->s.heap.get? b=some o->∃o',h'.get? b=some o')
  (tups:∀b xs,H b=some (.tup xs)->H' b=some (.tup xs)) (frzs:∀b o u,H b=some (.frz o u)->H' b=some (.frz o u)) (tbls:∀b ps,H b=some (.tbl ps)->∃more,H' b=some (.tbl (ps++more)))
  (ns:∀m,s.heap.Ns X.env.locals m->h'.Ns X.env.locals m) (hok:HOk X.prog X.w H' h') (hg:AllBare g'):
  Inv X pins B H' {s with heap:=h',gens:=g',drawn:=d',toks:=t'}:=by
 have neL:∀b o,X.Z4.heap.get? b=some o->b≠X.env.locals:=fun b o e=>Xr (Xu (Xi e) I.ok.above);have neC:∀b o,X.Z4.heap.get? b=some o->b∉X.ex->b∉ch:=fun b o e hx hb=>by
  rcases(hch b hb).1 with z|z
  ·exact hx z
  ·exact absurd (Xu (Xi e) z) (X0 _)
 have cellK:∀x c,X.env.cells.lookup x=some c->∀v,s.heap.IsCell c v->h'.IsCell c v:=fun x c e v ⟨o,ho,hd⟩=>by
  have nch:c∉ch:=fun z=>(hch c z).2.2.1 x c e rfl;by_cases hc:c∈X.fs
  ·obtain⟨sl,q⟩:=slot c o (I.cne x c e) hc nch ho (I.freeC x c e);exact⟨_,q,hd⟩
  ·exact⟨o,keep c o (I.cne x c e) hc nch ho (I.freeC x c e),hd⟩
 refine⟨I.ok,I.os,hg,⟨fun b o e n hb hx=>?_,fun b o e n hb hx=>?_,fun b o e n hx=>?_,fun b o e hx=>?_,fun b xs e=>tups b xs (I.base.tups b xs e),fun b o xs e=>frzs b o xs (I.base.frzs b o xs e),fun b ps e=>?_⟩,?_,fun x c e=>?_,?_,fun x c e=>?_,fun p hp=>?_,hok,I.len⟩
 ·exact keep b o (neL b o e) hb (neC b o e hx) (I.base.keep b o e n hb hx) (I.base.free b o e n hx)
 ·obtain⟨sl,e1⟩:=I.base.slot b o e n hb hx;obtain⟨sl',e2⟩:=slot b _ (neL b o e) hb (neC b o e hx) e1 (I.base.free b o e n hx);exact(⟨sl',e2⟩)
 ·obtain⟨o',e1⟩:=I.base.there b o e hx;exact free b o' (neC b o e hx) e1 (I.base.free b o e n hx)
 ·obtain⟨o',e1⟩:=I.base.there b o e hx;exact there b o' (neC b o e hx) e1
 ·obtain⟨m1,e1⟩:=I.base.tbls b ps e;obtain⟨m2,e2⟩:=tbls b _ e1;exact(⟨m1++m2,by rw[e2,Array.append_assoc]⟩)
 ·obtain⟨m,hn,hl⟩:=I.loc;refine⟨m,ns m hn,fun i x v e1 e2 e3=>?_⟩;obtain⟨u,r,l⟩:=hl i x v e1 e2 e3;refine(⟨u,r,?_⟩);rcases l with l|⟨k,c,e,z⟩
  ·exact .inl l
  ·exact .inr ⟨k,c,e,cellK x c e _ z⟩
 ·obtain⟨v,z⟩:=I.cell x c e;exact⟨v,cellK x c e v z⟩
 ·obtain⟨m,⟨o,_,_,ho,_⟩,_⟩:=I.loc;exact free _ o (fun z=>(hch _ z).2.1 rfl) ho I.free
 ·obtain⟨v,o,ho,hd⟩:=I.cell x c e;exact free c o (fun z=>(hch c z).2.2.1 x c e rfl) ho (I.freeC x c e)
 ·obtain⟨e,n,ne,nf,d⟩:=I.pin p hp;have nch:p.1∉ch:=fun z=>(hch p.1 z).2.2.2 p hp rfl;exact⟨keep p.1 p.2 ne nf nch e n,free p.1 p.2 nch e n,ne,nf,d⟩
theorem Inv.un{t':Nat}(I:Inv X pins B H s)(u:Un X.fs [] H H' s.heap h')(hok:HOk X.prog X.w H' h'):Inv X pins B H' {s with heap:=h',toks:=t'}:=by
 obtain⟨m,⟨o,es,ep,ho,r⟩,_⟩:=id I.loc;obtain⟨sl,hL⟩:=u.any ho I.free (by simp);exact I.step (g':=s.gens) (d':=s.drawn) (ch:=[]) (fun _ z=>nomatch z) (fun b o _ hb _ e n=>u.keep b o e n hb (by simp)) (fun b o _ hb _ e n=>u.slot b o e n hb (by simp)) (fun b o _ e n=>u.free b o e n (by simp)) (fun b o _ e=>u.there b o e (by simp)) u.tups u.frzs u.tbls (fun m' hm=>by
  obtain⟨o',es',ep',ho',r'⟩:=hm;rw[ho] at ho';cases ho';exact⟨_,es',ep',hL,r'⟩) hok I.bare
theorem Inv.call{g':Array GenState}{t':Nat}{d':Drawn}{ch:List Addr}(I:Inv X pins B H s)(u:Un (frs X.stack) ch H H' s.heap h')(hok:HOk X.prog X.w H' h')(hg:AllBare g')
  (hch:∀b∈ch,(b∈X.ex\/X.Z4.heap.objs.size<=b)/\b≠X.env.locals/\(∀x c,X.env.cells.lookup x=some c->c≠b)/\∀p∈X.pn++pins,p.1≠b):
  Inv X pins B H' {s with heap:=h',gens:=g',drawn:=d',toks:=t'}:=by
 obtain⟨m,⟨o,es,ep,ho,r⟩,_⟩:=id I.loc;obtain⟨sl,hL⟩:=u.any ho I.free fun z=>(hch _ z).2.1 rfl;exact I.step (ch:=ch) hch (fun b o hL hb hc e n=>u.keep b o e n (fun z=>(XB.mp (I.stkSub b z)).elim hL hb) hc) (fun b o _ _ hc e n=>u.any e n hc) (fun b o hc e n=>u.free b o e n hc) (fun b o hc e=>u.there b o e hc) u.tups u.frzs u.tbls (fun m' hm=>by
  obtain⟨o',es',ep',ho',r'⟩:=hm;rw[ho] at ho';cases ho';exact⟨_,es',ep',hL,r'⟩) hok hg
theorem Inv.turned{t':Nat}{it:Addr}(I:Inv X pins B H s)(k:∀b o,b≠it->s.heap.get? b=some o->h'.get? b=some o)(hn:H it=none)(hL:it≠X.env.locals)
  (h1:it∈X.ex\/X.Z4.heap.objs.size<=it) (h2:∀x c,X.env.cells.lookup x=some c->c≠it) (h3:∀p∈X.pn++pins,p.1≠it):Inv X pins B H {s with heap:=h',toks:=t'}:=by
 have nit:∀b u,H b=some u->b≠it:=fun b u e z=>by rw[z,hn] at e;cases e
 refine I.step (g':=s.gens) (d':=s.drawn) (ch:=[it]) (fun b hb=>?_) (fun b o _ _ hc e _=>k b o (fun z=>hc (by simp[z])) e) (fun b o _ _ hc e _=>⟨o.slots,k b o (fun z=>hc (by simp[z])) e⟩) (fun _ _ _ _ n=>n)
  (fun b o hc e=>⟨o,k b o (fun z=>hc (by simp[z])) e⟩) (fun _ _ e=>e) (fun _ _ _ e=>e) (fun b ps e=>⟨#[],by rw[e];simp⟩) (fun m hm=>?_) (fun b u e=>?_) I.bare
 ·have e:b=it:=by simpa using hb
  subst e;exact⟨h1,hL,h2,h3⟩
 ·obtain⟨o,es,ep,ho,r⟩:=hm;exact⟨o,es,ep,k _ o (Ne.symm hL) ho,r⟩
 ·refine(I.hok b u e).stay (fun c v hc q=>k c v ?_ q) (fun _ q=>q) fun _ _ q=>q;rcases hc with z|z
  ·rw[z];exact nit b u e
  ·exact nit c _ z
theorem Inv.tok(I:Inv X pins B H s)(t:Nat):Inv X pins B H {s with toks:=t}:=I.un (h':=s.heap) (t':=t) Un.refl I.hok
theorem Inv.kept{t':Nat}(I:Inv X pins B H s)(k:∀b u,s.heap.get? b=some u->h'.get? b=some u):Inv X pins B H {s with heap:=h',toks:=t'}:=I.un (Un.kept k) (I.hok.kept k)
theorem Inv.laid{a:Addr}{o:HO}{t':Nat}(I:Inv X pins B H s)(k:∀b u,s.heap.get? b=some u->h'.get? b=some u)(hp:s.heap.objs.size<=a)(new:ObjOk X.prog X.w (upd H a o) h' a o):
  Inv X pins B (upd H a o) {s with heap:=h',toks:=t'}:=I.un (Un.laid k hp (I.hok.fresh hp)) (I.hok.laid k hp new)
theorem Inv.write{x e:Addr}{o:HO}{t':Nat}(I:Inv X pins B H s)(mu:Mut (H x))(he:e=x\/H e=some (.own x))(k:∀b u,b≠e->s.heap.get? b=some u->h'.get? b=some u)(heo:∃u,h'.get? e=some u)
  (new:ObjOk X.prog X.w (upd H x o) h' x o):Inv X pins B (upd H x o) {s with heap:=h',toks:=t'}:=I.un (Un.write mu he k heo) (I.hok.write mu he k heo new)
theorem Inv.pins_of{pins':QS}(I:Inv X pins B H s)(h:∀p∈pins',s.heap.get? p.1=some p.2/\H p.1=none/\p.1≠X.env.locals/\p.1∉X.fs/\∀v,p.2.data≠.cell v):Inv X pins' B H s:=
 ⟨I.ok,I.os,I.bare,I.base,I.loc,I.cell,I.free,I.freeC,fun p hp=>(XM.mp hp).elim (fun z=>I.pin p (List.mem_append_left _ z)) (h p),I.hok,I.len⟩
theorem Md{N:List Str}(hN:N.Nodup){i j:Nat}{x:Str}(a:N[i]?=some x)(b:N[j]?=some x):i=j:=by
 obtain⟨h1,e1⟩:=Xe.mp a;obtain⟨h2,e2⟩:=Xe.mp b;exact((List.getElem_inj hN).mp (e1.trans e2.symm))
theorem Cg{M:Model}{A:Around}{E:OK}{i:Nat}{x:Str}{v:V}{u:Value}{Q:Unit->Shared->Prop}(I:Inv X pins B H s)(hN:X.N.Nodup)(hi:X.N[i]?=some x)(hx:Loc X.env.scope x)(r:RelV v u)
  (h:∀s',Inv X pins (B.set i (some v)) H s'->(∃a,Heap.SameBut a s.heap s'.heap/\(a=X.env.locals\/X.env.cells.lookup x=some a))->Q () s') (hf:X.fn x=true\/X.env.scope.names.lookup x=some .local:=by first|exact .inl rfl|exact .inr rfl|assumption):wpAny M A (storeName X.env x u) Q E s:=by
 obtain⟨m,hn,hl⟩:=id I.loc;have hcls:(X.env.scope.kind==.class||(X.env.scope.kind==.module&&X.env.locals !=X.env.globals))=false:=by rw[I.ok.kind];rfl
 have Zg:i<B.length:=by rw[I.len];exact(Xe.mp hi).1
 have cne:=I.cne;have tracked:∀{a:Addr} {h':Heap},(∃o,s.heap.get? a=some o/\H a=none)->Heap.SameBut a s.heap h'->HOk X.prog X.w H h':=fun{a h'} ha hs b ob e=>by
  obtain⟨_,_,hfree⟩:=ha;refine((I.hok b ob e).stay (fun c w' hc q=>(hs.2 c ?_).trans q) (fun _ q=>q) fun _ _ q=>q);rintro rfl;rcases hc with rfl|hc
  ·rw[hfree] at e;cases e
  ·rw[hfree] at hc;cases hc
 rcases hx with hk|hk
 ·refine wpAny_storeName_local hk hn (fun h' hn' hs=>?_) hcls;obtain⟨oL,_,_,hoL,_⟩:=id hn;refine(h _ ⟨I.ok,I.os,I.bare,⟨fun b o e n hb hx=>?_,fun b o e n hb hx=>?_,I.base.free,fun b o e hx=>?_,I.base.tups,I.base.frzs,I.base.tbls⟩,⟨_,hn',fun j y v' e1 e2 e3=>?_⟩,fun y c e=>?_,I.free,I.freeC,fun p hp=>?_,tracked ⟨oL,hoL,I.free⟩ hs,by simpa using I.len⟩ ⟨_,hs,.inl rfl⟩)
  ·exact(hs.2 b (Xr (Xu (Xi e) I.ok.above))).trans (I.base.keep b o e n hb hx)
  ·obtain⟨sl,e1⟩:=I.base.slot b o e n hb hx;exact⟨sl,(hs.2 b (Xr (Xu (Xi e) I.ok.above))).trans e1⟩
  ·obtain⟨o',e1⟩:=I.base.there b o e hx;exact⟨o',(hs.2 b (Xr (Xu (Xi e) I.ok.above))).trans e1⟩
  ·by_cases hj:j=i
   ·subst hj;rw[hi] at e1;cases e1;rw[List.getElem?_set_self Zg] at e2;cases e2;exact⟨u,r,.inl ⟨hk,by simp⟩⟩
   ·rw[XG (Ne.symm hj)] at e2;obtain⟨u',r',q⟩:=hl j y v' e1 e2 e3;refine(⟨u',r',?_⟩);rcases q with⟨k,e⟩|⟨k,c,e,z⟩
    ·refine .inl ⟨k,?_⟩;have:y≠x:=fun e=>hj (Md hN e1 (e▸hi));simp[this,e]
    ·exact .inr ⟨k,c,e,z.sameBut hs (cne y c e)⟩
  ·obtain⟨w',z⟩:=I.cell y c e;exact⟨w',z.sameBut hs (cne y c e)⟩
  ·obtain⟨e,n,ne,nf,d⟩:=I.pin p hp;exact⟨(hs.2 p.1 ne).trans e,n,ne,nf,d⟩
 ·have hfn:X.fn x=true:=by
   rcases hf with z|z
   ·exact z
   ·rw[z] at hk;cases hk
  obtain⟨c,hc⟩:=I.ok.has x (.inl hk);obtain⟨w',z⟩:=I.cell x c hc;refine(wpAny_storeName_cell I.ok.kind hk hc z (fun h' hc' hs=>?_));obtain⟨oc,hoc,hocd⟩:=id z;refine(h {s with heap:=h'} ⟨I.ok,I.os,I.bare,⟨fun b o e n hb hx=>?_,fun b o e n hb hx=>?_,I.base.free,fun b o e hx=>?_,I.base.tups,I.base.frzs,I.base.tbls⟩,⟨m,hn.sameBut hs (Ne.symm (cne x c hc)),fun j y v' e1 e2 e3=>?_⟩,fun y c' e=>?_,I.free,I.freeC,fun p hp=>?_,tracked ⟨oc,hoc,I.freeC x c hc⟩ hs,by simpa using I.len⟩ ⟨c,hs,.inr hc⟩)
  ·exact(hs.2 b (Xr (Xu (Xi e) (I.ok.cab x c hfn hc)))).trans (I.base.keep b o e n hb hx)
  ·obtain⟨sl,e1⟩:=I.base.slot b o e n hb hx;exact⟨sl,(hs.2 b (Xr (Xu (Xi e) (I.ok.cab x c hfn hc)))).trans e1⟩
  ·obtain⟨o',e1⟩:=I.base.there b o e hx;exact⟨o',(hs.2 b (Xr (Xu (Xi e) (I.ok.cab x c hfn hc)))).trans e1⟩
  ·by_cases hj:j=i
   ·subst hj;rw[hi] at e1;cases e1;rw[List.getElem?_set_self Zg] at e2;cases e2;exact⟨u,r,.inr ⟨.inl hk,c,hc,hc'⟩⟩
   ·rw[XG (Ne.symm hj)] at e2;obtain⟨u',r',q⟩:=hl j y v' e1 e2 e3;refine(⟨u',r',?_⟩);rcases q with q|⟨k,c',e,z'⟩
    ·exact .inl q
    ·refine .inr ⟨k,c',e,z'.sameBut hs ?_⟩;rintro rfl;exact hj (Md hN e1 (I.ok.inj _ _ _ e hc▸hi))
  ·by_cases hcc:c'=c
   ·subst hcc;exact⟨_,hc'⟩
   ·obtain⟨w2,z2⟩:=I.cell y c' e;exact⟨w2,z2.sameBut hs hcc⟩
  ·obtain⟨e,n,ne,nf,d⟩:=I.pin p hp;refine⟨(hs.2 p.1 ?_).trans e,n,ne,nf,d⟩;intro q;rw[q,hoc] at e;have q':oc=p.2:=Xv e;exact d w' (by rw[←q'];exact hocd)
theorem EF{M:Model}{A:Around}{E:OK}{i:Nat}{x:Str}{v:V}{u:Value}{Q:Unit->Shared->Prop}(I:Inv X pins B H s)(hN:X.N.Nodup)(hi:X.N[i]?=some x)(hx:Loc X.env.scope x)(r:RelV v u)
  (h:∀s',Inv X pins (B.set i (some v)) H s'->Q () s') (hf:X.fn x=true\/X.env.scope.names.lookup x=some .local:=by first|exact .inl rfl|exact .inr rfl|assumption):wpAny M A (storeName X.env x u) Q E s:=
 Cg I hN hi hx r (fun s' I' _=>h s' I') hf
theorem Inv.call'{s':Shared}{ch:List Addr}(I:Inv X pins B H s)(ho:s'.os=s.os)(u:Un (frs X.stack) ch H H' s.heap s'.heap)(hok:HOk X.prog X.w H' s'.heap)(hg:AllBare s'.gens)
  (hch:∀b∈ch,(b∈X.ex\/X.Z4.heap.objs.size<=b)/\b≠X.env.locals/\(∀x c,X.env.cells.lookup x=some c->c≠b)/\∀p∈X.pn++pins,p.1≠b):Inv X pins B H' s':=by
 obtain⟨h',g',d',t',o'⟩:=s';have e:o'=s.os:=ho;subst e;exact(I.call (g':=g') (t':=t') (d':=d') u hok hg hch)
end
abbrev XK:=Value->Option Addr->Hp->Prop
abbrev St:=List (Option V)
abbrev VK:=V->Hp->Prop
abbrev TE:=St->Hp->VK->Prop
abbrev TT:=St->Hp->(Bool->Hp->Prop)->Prop
abbrev TA:=St->Hp->(List V->Hp->Prop)->Prop
structure Ends where
 nx:St->Hp->Prop
 rt:VK
 bk:St->Hp->Prop:=fun _ _=>False
 ct:St->Hp->Prop:=fun _ _=>False
abbrev TS:=Ends->St->Hp->Prop
def EP(X:Cx)(pins:QS)(B:St)(Q:VK)(u:Value)(s':Shared):Prop:=∃v H',Inv X pins B H' s'/\RelV v u/\Q v H'
def TP(X:Cx)(pins:QS)(B:St)(Q:Bool->Hp->Prop)(b:Bool)(s':Shared):Prop:=∃H',Inv X pins B H' s'/\Q b H'
def AP(X:Cx)(pins:QS)(B:St)(Q:List V->Hp->Prop)(us:List Value)(s':Shared):Prop:=∃vs H',Inv X pins B H' s'/\Vals vs us/\Q vs H'
def SP(X:Cx)(pins:QS)(D:Ends)(f:Flow)(s':Shared):Prop:=
 match f with
 | .next=>∃Z0 H',Inv X pins Z0 H' s'/\D.nx Z0 H'
 | .brk=>∃Z0 H',Inv X pins Z0 H' s'/\D.bk Z0 H'
 | .cont=>∃Z0 H',Inv X pins Z0 H' s'/\D.ct Z0 H'
 | .ret u=>∃v Z0 H',Inv X pins Z0 H' s'/\RelV v u/\D.rt v H'
def PE(X:Cx)(e:Expr)(t:TE):Prop:=
 ∀(pins:QS) (s:Shared) (B:St) (H:Hp) (Q:VK),Inv X pins B H s->t B H Q->wpAny (model X.prog X.w) X.A (eval e X.env) (EP X pins B Q) X.xe s
def PT(X:Cx)(e:Expr)(t:TT):Prop:=
 ∀(pins:QS) (s:Shared) (B:St) (H:Hp) (Q:Bool->Hp->Prop),Inv X pins B H s->t B H Q->wpAny (model X.prog X.w) X.A (isTrue e X.env (eval e X.env)) (TP X pins B Q) X.xe s
def PW(X:Cx)(e:Expr)(t:TT):Prop:=
 ∀(whole:Sem Value) (pins:QS) (s:Shared) (B:St) (H:Hp) (Q:Bool->Hp->Prop),Inv X pins B H s->t B H Q->wpAny (model X.prog X.w) X.A (isTrue e X.env whole) (TP X pins B Q) X.xe s
def PW.pt{X:Cx}{e:Expr}{t:TT}(h:PW X e t):PT X e t:=h _
def PA(X:Cx)(es:List Expr)(t:TA):Prop:=
 ∀(pos:Pos) (pins:QS) (s:Shared) (B:St) (H:Hp) (Q:List V->Hp->Prop),Inv X pins B H s->t B H Q->wpAny (model X.prog X.w) X.A (spliced (backTo pos (starEach es X.env))) (AP X pins B Q) X.xe s
def PS(X:Cx)(st:Stmt)(t:TS):Prop:=
 ∀(pins:QS) (s:Shared) (B:St) (H:Hp) (D:Ends),Inv X pins B H s->t D B H->wpAny (model X.prog X.w) X.A (exec st X.env) (SP X pins D) X.xe s
def PSs(X:Cx)(st:List Stmt)(t:TS):Prop:=
 ∀(pins:QS) (s:Shared) (B:St) (H:Hp) (D:Ends),Inv X pins B H s->t D B H->wpAny (model X.prog X.w) X.A (execs st X.env) (SP X pins D) X.xe s
def thn{α:Type}{t:Sem α}{Q Q':α->Shared->Prop}{M:Model}{A:Around}{E:OK}{s:Shared}(h:wpAny M A t Q E s)(hQ:∀a s,Q a s->Q' a s):wpAny M A t Q' E s:=Xg h hQ fun _ _ x=>x
section
variable {X:Cx}
def Jl(i:Nat):TE:=fun B H Q=>∃v,B[i]?=some (some v)/\Q v H
def tC(v:V):TE:=fun _ H Q=>Q v H
theorem IJ{i:Nat}{x:Str}{pos:Pos}(hN:X.N[i]?=some x)(hv:Vis X.env.scope x)(hd:(x==("__debug__":Str))=false:=by decide) (hcd:(x==("__classdict__":Str))=false:=by decide):PE X (.Name x pos) (Jl i):=by
 intro pins s B H Q I h;obtain⟨v,e,h⟩:=h;obtain⟨m,hn,hl⟩:=I.loc;obtain⟨u,r,l⟩:=hl i x v hN e hv;have fin:EP X pins B Q u s:=⟨v,H,I,r,h⟩
 rcases l with⟨hk,hm⟩|⟨hk,c,hc,hcell⟩
 ·exact wpAny_Name (wpAny_loadName_local I.ok.kind hk hn hm fin) hd
 ·rcases hk with hk|hk
  ·exact wpAny_Name (wpAny_loadName_cell I.ok.kind hk hc hcell fin) hd
  ·exact wpAny_Name (wpAny_loadName_free I.ok.kind hk hc hcell fin hcd) hd
theorem Uf{i j pos}:PE X (.Constant (.int i) j pos) (tC (.int i)):=fun _ _ _ H _ I h=>wpAny_Constant_int ⟨.int i,H,I.tok _,⟨_,rfl⟩,h⟩
theorem Rt{b j pos}:PE X (.Constant (.bool b) j pos) (tC (.bl b)):=fun _ _ _ H _ I h=>Constant_bool ⟨.bl b,H,I,rfl,h⟩
theorem OS{j pos}:PE X (.Constant .none j pos) (tC .non):=fun _ _ _ H _ I h=>Constant_none ⟨.non,H,I,rfl,h⟩
theorem MD{x j pos}:PE X (.Constant (.str x) j pos) (tC (.str x)):=fun _ _ _ H _ I h=>Calls.Constant_str ⟨.str x,H,I.tok _,⟨_,rfl⟩,h⟩
def Gl(X:Cx)(x:Str):Prop:=X.env.kindOf x=some .globalImplicit
theorem yS{E:OK}{pins:QS}{s:Shared}{B:St}{H:Hp}{x:Str}{u:Value}{pos:Pos}{Q:OK}(I:Inv X pins B H s)(hg:Gl X x)(hm:X.mg x=some u)(h:Q u s)
  (hd:(x==("__debug__":Str))=false:=by decide):wpAny (model X.prog X.w) X.A (eval (.Name x pos) X.env) Q E s:=
 Calls.Name_function_global I.ok.kind hg (Calls.loadGlobal_global (by rw[I.ok.glob];exact I.mod.glob.keeps I.bk) hm h) hd
theorem vw{E:OK}{pins:QS}{s:Shared}{B:St}{H:Hp}{x:Str}{u:Value}{pos:Pos}{Q:OK}(I:Inv X pins B H s)(hg:Gl X x)(hm:X.mg x=none)(hv:bootBuiltins x=some u)(h:Q u s)
  (hn:x≠"__name__":=by decide) (hd:(x==("__debug__":Str))=false:=by decide):wpAny (model X.prog X.w) X.A (eval (.Name x pos) X.env) Q E s:=by
 obtain⟨mb,h1,h2⟩:=I.mod.blt;exact Calls.Name_function_global I.ok.kind hg (Calls.loadGlobal_builtin (by rw[I.ok.glob];exact I.mod.glob.keeps I.bk) hm (by rw[I.ok.blt];exact h1.keeps I.bk) ((h2 x hn).trans hv) h) hd
theorem RT{x:Str}{v:V}{u:Value}{pos:Pos}(hg:Gl X x)(hm:X.mg x=some u)(r:RelV v u)(hd:(x==("__debug__":Str))=false:=by decide):PE X (.Name x pos) (tC v):=
 fun _ _ _ H _ I h=>yS I hg hm ⟨v,H,I,r,h⟩ hd
theorem vq{x:Str}{v:V}{u:Value}{pos:Pos}(hg:Gl X x)(hm:X.mg x=none)(hv:bootBuiltins x=some u)(r:RelV v u)(hn:x≠"__name__":=by decide) (hd:(x==("__debug__":Str))=false:=by decide):PE X (.Name x pos) (tC v):=
 fun _ _ _ H _ I h=>vw I hg hm hv ⟨v,H,I,r,h⟩ hn hd
variable {a b:Expr} {ta tb:TE} {pos:Pos}
def PC(X:Cx)(op:CmpOp)(a b:Expr)(t:TE):Prop:=
 ∀(pins:QS) (s:Shared) (B:St) (H:Hp) (Q:VK),Inv X pins B H s->t B H Q->
  wpAny (model X.prog X.w) X.A (eval a X.env) (fun v ZU=>wpAny (model X.prog X.w) X.A (eval b X.env) (fun u ZK=>wpAny (model X.prog X.w) X.A (compareOp op v u) (EP X pins B Q) X.xe ZK) X.xe ZU) X.xe s
theorem Ni(b:Expr){op:CmpOp}(h:op≠.In)(h2:op≠.NotIn):behindInMarks op b=false:=by
 have e1:(op==CmpOp.In)=false:=by cases op<;>first|rfl|exact absurd rfl h
 have e2:(op==CmpOp.NotIn)=false:=by cases op<;>first|rfl|exact absurd rfl h2
 cases b<;>simp[behindInMarks,e1,e2]
def tB(t:TE):TT:=fun B H Q=>t B H fun x H1=>∃c,x=.bl c/\Q c H1
theorem Qe{op:CmpOp}{t:TE}(h:PC X op a b t)(h1:behindInMarks op b=false:=by first|exact Ni _ (by decide) (by decide)|rfl):PT X (.Compare a [op] [b] pos) (tB t):=by
 intro pins s B H Q I hw;refine wpAny_isTrue_Compare1 (thn (h pins s B H _ I hw) fun v s1 h1=>thn h1 fun u s2 h2=>thn h2 fun c s3 hm=>?_) h1;obtain⟨x,H1,I1,r1,q1⟩:=hm;obtain⟨d,rfl,q⟩:=q1;cases r1;exact(XV ⟨H1,I1,q⟩)
theorem Sa{e:Expr}{t:TE}(h:PE X e t)(he:∀whole,isTrue e X.env whole=(do let v ←whole;standAt e.pos;holding [v] (truthy v)):=by intro _;rfl):PT X e (tB t):=by
 intro pins s B H Q I hw;refine isTrue_plain (thn (h pins s B H _ I hw) fun v s1 hm=>?_) (he _);obtain⟨x,H1,I1,r1,q1⟩:=hm;obtain⟨d,rfl,q⟩:=q1;cases r1;exact(XV ⟨H1,I1,q⟩)
variable {tA tB':TT} {qV:List Expr}
def FV(t u:TT):TT:=fun B H Q=>t B H fun c H1=>if c=true then u B H1 Q else Q false H1
def tOr(t u:TT):TT:=fun B H Q=>t B H fun c H1=>if c=true then Q true H1 else u B H1 Q
def Qx(t:TT):TT:=fun B H Q=>t B H fun c H1=>Q (!c) H1
theorem PD(ha:PT X a tA):PW X (.BoolOp .And [a] pos) tA:=by
 intro wh pins s B H Q I h;refine isTrue_and (thn (ha pins s B H Q I h) fun c s1 e=>?_);cases c with
 |true=>exact isTrue_and_nil e
 |false=>exact e
theorem VT(ha:PT X a tA):PW X (.BoolOp .Or [a] pos) tA:=by
 intro wh pins s B H Q I h;refine isTrue_or (thn (ha pins s B H Q I h) fun c s1 e=>?_);cases c with
 |false=>exact isTrue_or_nil e
 |true=>exact e
theorem TQ(ha:PT X a tA)(hb:PW X (.BoolOp .And (b::qV) pos) tB'):PW X (.BoolOp .And (a::b::qV) pos) (FV tA tB'):=by
 intro wh pins s B H Q I h;refine isTrue_and (thn (ha pins s B H _ I h) fun c s1 hm=>?_);obtain⟨H1,I1,q1⟩:=hm;cases c with
 |true=>exact hb wh pins s1 B H1 Q I1 q1
 |false=>exact⟨H1,I1,q1⟩
theorem QX(ha:PT X a tA)(hb:PW X (.BoolOp .Or (b::qV) pos) tB'):PW X (.BoolOp .Or (a::b::qV) pos) (tOr tA tB'):=by
 intro wh pins s B H Q I h;refine isTrue_or (thn (ha pins s B H _ I h) fun c s1 hm=>?_);obtain⟨H1,I1,q1⟩:=hm;cases c with
 |true=>exact⟨H1,I1,q1⟩
 |false=>exact hb wh pins s1 B H1 Q I1 q1
theorem JV(ha:PT X a tA):PT X (.UnaryOp .Not a pos) (Qx tA):=by
 intro pins s B H Q I h;exact isTrue_not (ha pins s B H (fun c H1=>Q (!c) H1) I h)
def Ox(ta tb:TE):TE:=fun B H Q=>ta B H fun x H1=>∃c,x=.bl c/\if c=true then tb B H1 Q else Q (.bl false) H1
def S9(ta tb:TE):TE:=fun B H Q=>ta B H fun x H1=>∃c,x=.bl c/\if c=true then Q (.bl true) H1 else tb B H1 Q
theorem Ql{op}{t:TE}(h:PE X a t):PE X (.BoolOp op [a] pos) t:=fun pins s B H Q I hw=>BoolOp_one (h pins s B H Q I hw)
theorem Ss(ha:PE X a ta)(hb:PE X (.BoolOp .And (b::qV) pos) tb):PE X (.BoolOp .And (a::b::qV) pos) (Ox ta tb):=by
 intro pins s B H Q I h;refine BoolOp_and (thn (ha pins s B H _ I h) fun v s1 hm=>?_);obtain⟨x,H1,I1,r1,q1⟩:=hm;obtain⟨c,rfl,q1⟩:=q1;cases r1;refine(XV ?_);cases c with
 |true=>exact hb pins s1 B H1 Q I1 q1
 |false=>exact⟨.bl false,H1,I1,rfl,q1⟩
theorem VS(ha:PE X a ta)(hb:PE X (.BoolOp .Or (b::qV) pos) tb):PE X (.BoolOp .Or (a::b::qV) pos) (S9 ta tb):=by
 intro pins s B H Q I h;refine BoolOp_or (thn (ha pins s B H _ I h) fun v s1 hm=>?_);obtain⟨x,H1,I1,r1,q1⟩:=hm;obtain⟨c,rfl,q1⟩:=q1;cases r1;refine(XV ?_);cases c with
 |false=>exact hb pins s1 B H1 Q I1 q1
 |true=>exact⟨.bl true,H1,I1,rfl,q1⟩
def tIf(t:TT)(ta tb:TE):TE:=fun B H Q=>t B H fun c H1=>if c=true then ta B H1 Q else tb B H1 Q
theorem Pg{c:Expr}(hc:PT X c tA)(ha:PE X a ta)(hb:PE X b tb):PE X (.IfExp c a b pos) (tIf tA ta tb):=by
 intro pins s B H Q I h;refine wpAny_IfExp (thn (hc pins s B H _ I h) fun d s1 hm=>?_);obtain⟨H1,I1,q1⟩:=hm;cases d with
 |true=>exact ha pins s1 B H1 Q I1 q1
 |false=>exact hb pins s1 B H1 Q I1 q1
end
def SqL(K:Frag)(H:Hp)(a:Addr)(xs:List V):Prop:=
 Rd H a (.lst xs)\/
  ∃(o:Obj) (its:Array Value) (n:Nat),K.lookup a=some o/\o.cls=.type "list"/\o.dict=none/\o.data=.seq its n/\its.size<=sizeLine/\Vals xs its.toList
def SqT(K:Frag)(H:Hp)(a:Addr)(xs:List V):Prop:=
 Rd H a (.tup xs)\/
  ∃(o:Obj) (its:Array Value) (n:Nat),K.lookup a=some o/\o.cls=.type "tuple"/\o.data=.seq its n/\its.size<=sizeLine/\Vals xs its.toList
def V4:Value->Option V
 | .none=>some .non
 | .bool b=>some (.bl b)
 | .int i _=>some (.int i)
 | .str x _=>some (.str x)
 | .bytes b _=>some (.byt b)
 | .float b _=>some (.flt b)
 | .ref a=>some (.ref a)
 | .type n=>some (.ty n)
 |_=>none
def RelV.abs{x:V}{u:Value}(r:RelV x u):V4 u=some x:=by
 cases x with
 |non=>cases r;rfl
 |bl _=>cases r;rfl
 |int _=>obtain⟨t,rfl⟩:=r;rfl
 |str _=>obtain⟨t,rfl⟩:=r;rfl
 |byt _=>obtain⟨t,rfl⟩:=r;rfl
 |flt _=>obtain⟨t,rfl⟩:=r;rfl
 |ref _=>cases r;rfl
 |ty _=>cases r;rfl
def RelV.inj{x y:V}{u:Value}(r:RelV x u)(q:RelV y u):x=y:=Xv (r.abs.symm.trans q.abs)
theorem Vals.inj:∀{xs ys:List V} {us:List Value},Vals xs us->Vals ys us->xs=ys
 |_,_,_,.nil,.nil=>rfl
 |_,_,_,.cons r t,.cons r' t'=>by rw[r.inj r',Vals.inj t t']
section
variable {X:Cx} {pins:QS} {B:St} {H:Hp} {s:Shared} {a:Addr} {xs ys:List V}
theorem SqL.of{K:Frag}(h:H a=some (.lst xs)):SqL K H a xs:=.inl (.inl h)
theorem SqT.of{K:Frag}(h:H a=some (.tup xs)):SqT K H a xs:=.inl (.inl h)
theorem Inv.list(I:Inv X pins B H s)(h:SqL X.K H a xs):∃its:List Value,Vals xs its/\PlainL s.heap a its.toArray/\xs.length<=sizeLine:=by
 rcases h with h|⟨o,its,n,hk,hc,hd,hs,hz,r⟩
 ·obtain⟨z,its,n,r,e⟩:=h.ok I.hok;exact⟨its,r,⟨_,n,e,rfl,rfl,rfl⟩,z⟩
 ·refine⟨its.toList,r,⟨o,n,I.kIn a o hk,hc,hd,by simpa using hs⟩,?_⟩;have e:=r.length;simp only[Yi] at e;omega
theorem Inv.tuple(I:Inv X pins B H s)(h:SqT X.K H a xs):∃its:List Value,Vals xs its/\IsTup s.heap a its.toArray/\xs.length<=sizeLine:=by
 rcases h with h|⟨o,its,n,hk,hc,hs,hz,r⟩
 ·obtain⟨z,its,r,p⟩:=h.ok I.hok;exact⟨its,r,p,z⟩
 ·refine⟨its.toList,r,⟨o,I.kIn a o hk,hc,n,by simpa using hs⟩,?_⟩;have e:=r.length;simp only[Yi] at e;omega
theorem Inv.list_inj(I:Inv X pins B H s)(h:SqL X.K H a xs)(h':SqL X.K H a ys):xs=ys:=by
 obtain⟨its,r,⟨o,n,e,_,_,d⟩,_⟩:=I.list h;obtain⟨its',r',⟨o',n',e',_,_,d'⟩,_⟩:=I.list h';rw[e] at e';cases e';rw[d] at d';injection d' with d1 _
 have:its=its':=by simpa using congrArg Array.toList d1
 subst this;exact r.inj r'
theorem Inv.tuple_inj(I:Inv X pins B H s)(h:SqT X.K H a xs)(h':SqT X.K H a ys):xs=ys:=by
 obtain⟨its,r,⟨o,e,_,n,d⟩,_⟩:=I.tuple h;obtain⟨its',r',⟨o',e',_,n',d'⟩,_⟩:=I.tuple h';rw[e] at e';cases e';rw[d] at d';injection d' with d1 _
 have:its=its':=by simpa using congrArg Array.toList d1
 subst this;exact r.inj r'
end
abbrev Cx.wish(X:Cx)(E:OK):Cx:={X with xe:=E}
abbrev Cx.nox(X:Cx):Cx:=X.wish fun _ _=>False
def Cx.Ok.wish{X:Cx}(ok:X.Ok)(E:OK):(X.wish E).Ok:=
 ⟨ok.mod,ok.kind,ok.glob,ok.blt,ok.above,ok.inj,ok.has,ok.cab,ok.hd,ok.frames,ok.stk,ok.exf,ok.bs,ok.bsz,ok.noex,ok.exfs,ok.funs,ok.frf⟩
def Cx.Ok.unwish{X:Cx}{E:OK}(ok:(X.wish E).Ok):X.Ok:=
 ⟨ok.mod,ok.kind,ok.glob,ok.blt,ok.above,ok.inj,ok.has,ok.cab,ok.hd,ok.frames,ok.stk,ok.exf,ok.bs,ok.bsz,ok.noex,ok.exfs,ok.funs,ok.frf⟩
section
variable {X:Cx} {pins:QS} {B:St} {H:Hp} {s:Shared} {E:OK}
theorem Inv.wish(I:Inv X pins B H s)(E:OK):Inv (X.wish E) pins B H s:=⟨I.ok.wish E,I.os,I.bare,I.base,I.loc,I.cell,I.free,I.freeC,I.pin,I.hok,I.len⟩
theorem Inv.unwish(I:Inv (X.wish E) pins B H s):Inv X pins B H s:=⟨I.ok.unwish,I.os,I.bare,I.base,I.loc,I.cell,I.free,I.freeC,I.pin,I.hok,I.len⟩
theorem SP.unwish{D:Ends}{f:Flow}{s':Shared}(h:SP (X.wish E) pins D f s'):SP X pins D f s':=by
 cases f with
 |next=>obtain⟨Z0,H',I,q⟩:=h;exact⟨Z0,H',I.unwish,q⟩
 |brk=>obtain⟨Z0,H',I,q⟩:=h;exact⟨Z0,H',I.unwish,q⟩
 |cont=>obtain⟨Z0,H',I,q⟩:=h;exact⟨Z0,H',I.unwish,q⟩
 |ret u=>obtain⟨v,Z0,H',I,r,q⟩:=h;exact⟨v,Z0,H',I.unwish,r,q⟩
theorem PE.nox{e:Expr}{t:TE}(h:PE X.nox e t):PE X e t:=fun pins s B H Q I hw=>
 Xg (h pins s B H Q (I.wish _) hw) (fun _ _ ⟨v,H',I',r,q⟩=>⟨v,H',I'.unwish,r,q⟩) fun _ _ z=>False.elim z
theorem PT.nox{e:Expr}{t:TT}(h:PT X.nox e t):PT X e t:=fun pins s B H Q I hw=>
 Xg (h pins s B H Q (I.wish _) hw) (fun _ _ ⟨H',I',q⟩=>⟨H',I'.unwish,q⟩) fun _ _ z=>False.elim z
theorem PSs.nox{st:List Stmt}{t:TS}(h:PSs X.nox st t):PSs X st t:=fun pins s B H D I hw=>
 Xg (h pins s B H D (I.wish _) hw) (fun _ _ q=>q.unwish) fun _ _ z=>False.elim z
end
section
variable {X:Cx} {st:Stmt} {qV:List Stmt} {t u:TS} {e:Expr} {te:TE} {pos:Pos}
def OO:TS:=fun D B H=>D.nx B H
def NT(t u:TS):TS:=fun D B H=>t {D with nx:=u D} B H
theorem Pq:PSs X [] OO:=fun _ _ B H _ I h=>wpAny_execs_nil ⟨B,H,I,h⟩
theorem IA(h1:PS X st t)(h2:PSs X qV u):PSs X (st::qV) (NT t u):=by
 intro pins s B H D I h;refine wpAny_execs_cons (thn (h1 pins s B H {D with nx:=u D} I h) fun f s1 q=>?_);cases f with
 |next=>
  obtain⟨Z0,H',I',q⟩:=q;exact h2 pins s1 Z0 H' D I' q
 |ret v=>exact q
 |brk=>exact q
 |cont=>exact q
theorem Ky(h1:PS X st t):PSs X [st] t:=by
 intro pins s B H D I h;refine wpAny_execs_cons (thn (h1 pins s B H D I h) fun f s1 q=>?_);cases f with
 |next=>exact wpAny_execs_nil q
 |ret v=>exact q
 |brk=>exact q
 |cont=>exact q
theorem Inv.quiet{pins:QS}{B:St}{H:Hp}{s:Shared}(I:Inv X pins B H s):interactive X.env=false:=by simp[interactive,I.ok.kind]
def QD(te:TE):TS:=fun D B H=>te B H fun _ H1=>D.nx B H1
theorem IG(he:PE X e te)(hs:swapsWith e none pos.line X.env=pure false:=by rfl):PS X (.Expr e pos) (QD te):=by
 intro pins s B H D I h;exact wpAny_Expr_any (thn (he pins s B H _ I h) fun v s1 ⟨x,H1,I1,r1,q1⟩=>⟨B,H1,I1,q1⟩) I.quiet hs
def UW(te:TE):TS:=fun D B H=>te B H D.rt
theorem Fy(he:PE X e te):PS X (.Return (some e) pos) (UW te):=by
 intro pins s B H D I h;exact wpAny_Return_some (thn (he pins s B H _ I h) fun v s1 ⟨x,H1,I1,r1,q1⟩=>⟨x,B,H1,I1,r1,q1⟩)
def NS(c:TT)(t u:TS):TS:=fun D B H=>c B H fun b H1=>if b=true then t D B H1 else u D B H1
theorem HF{c:Expr}{a b:List Stmt}{tc:TT}(hc:PT X c tc)(ha:PSs X a t)(hb:PSs X b u):PS X (.If c a b pos) (NS tc t u):=by
 intro pins s B H D I h;refine wpAny_If (thn (hc pins s B H _ I h) fun d s1 hm=>?_);obtain⟨H1,I1,q1⟩:=hm;cases d with
 |true=>exact ha pins s1 B H1 D I1 q1
 |false=>exact hb pins s1 B H1 D I1 q1
end
abbrev TG:=V->St->Hp->(St->Hp->Prop)->Prop
abbrev TGs:=List V->St->Hp->(St->Hp->Prop)->Prop
def PG(X:Cx)(target:Expr)(t:TG):Prop:=
 ∀(pins:QS) (s:Shared) (B:St) (H:Hp) (v:V) (u:Value) (Q:St->Hp->Prop),Inv X pins B H s->RelV v u->t v B H Q->
  wpAny (model X.prog X.w) X.A (assign target X.env u) (fun _ s'=>∃Z0 H',Inv X pins Z0 H' s'/\Q Z0 H') X.xe s
def PGs(X:Cx)(ts:List Expr)(t:TGs):Prop:=
 ∀(pins:QS) (s:Shared) (B:St) (H:Hp) (vs:List V) (us:List Value) (Q:St->Hp->Prop),Inv X pins B H s->Vals vs us->t vs B H Q->
  wpAny (model X.prog X.w) X.A (assignInOrder ((assignEach ts X.env).map (·.2)) us) (fun _ s'=>∃Z0 H',Inv X pins Z0 H' s'/\Q Z0 H') X.xe s
abbrev BU:=V->V->V->Hp->(Hp->Prop)->Prop
def JC(X:Cx)(t:BU):Prop:=
 ∀(pins:QS) (s:Shared) (B:St) (H:Hp) (o i v:V) (ov iv u:Value) (Q:Hp->Prop),Inv X pins B H s->RelV o ov->RelV i iv->RelV v u->t o i v H Q->
  wpAny (model X.prog X.w) X.A (setItem ov iv u) (fun _ s'=>∃H',Inv X pins B H' s'/\Q H') X.xe s
abbrev TIp:=V->V->Hp->VK->Prop
def PIp(X:Cx)(op:Operator)(t:TIp):Prop:=
 ∀(pins:QS) (s:Shared) (B:St) (H:Hp) (x y:V) (v u:Value) (Q:VK),Inv X pins B H s->RelV x v->RelV y u->t x y H Q->
  wpAny (model X.prog X.w) X.A (inplaceOp op v u) (EP X pins B Q) X.xe s
section
variable {X:Cx} {pos:Pos}
def Ew(i:Nat):TG:=fun v B H Q=>Q (B.set i (some v)) H
theorem US{i:Nat}{x:Str}(hN:X.N.Nodup)(hi:X.N[i]?=some x)(hx:Loc X.env.scope x)(hf:X.fn x=true\/X.env.scope.names.lookup x=some .local:=by first|exact .inl rfl|exact .inr rfl|assumption):PG X (.Name x pos) (Ew i):=by
 intro pins s B H v u Q I r h;exact wpAny_assign_Name (EF I hN hi hx r (fun s' I'=>⟨_,H,I',h⟩) hf)
def VL:TGs:=fun vs B H Q=>vs=[]/\Q B H
def Pl(t:TG)(u:TGs):TGs:=fun vs B H Q=>∃v r,vs=v::r/\t v B H fun Z0 H'=>u r Z0 H' Q
theorem N1:PGs X [] VL:=by
 intro pins s B H vs us Q I r h;obtain⟨e,h⟩:=h;subst e;cases r;exact(assignInOrder_nil ⟨B,H,I,h⟩)
theorem QW{e:Expr}{es:List Expr}{t:TG}{u:TGs}(h1:PG X e t)(h2:PGs X es u)
  (hs:(assignEach (e::es) X.env).map (·.2)=assign e X.env::(assignEach es X.env).map (·.2):=by rfl):PGs X (e::es) (Pl t u):=by
 intro pins s B H vs us Q I r h;obtain⟨v,vr,e1,h⟩:=h;subst e1;cases r with
 |cons r rr=>
  rw[hs];refine assignInOrder_cons (thn (h1 pins s B H _ _ _ I r h) fun _ s1 hm=>?_);obtain⟨ZJ,H1,I1,q1⟩:=hm;exact(h2 pins s1 ZJ H1 _ _ Q I1 rr q1)
def Fp(K:Frag)(n:Nat)(t:TGs):TG:=fun v B H Q=>∃a xs,v=.ref a/\SqT K H a xs/\xs.length=n/\t xs B H Q
theorem SO{es:List Expr}{k:Nat}{t:TGs}{n:Nat}(hc:X.calm=true)(h:PGs X es t)
  (hn:(assignEach es X.env).length=n:=by rfl) (hst:(assignEach es X.env).findIdx? (·.1)=none:=by rfl):PG X (.Tuple es k pos) (Fp X.K n t):=by
 intro pins s B H v u Q I r hw;obtain⟨a,xs,e1,hq,hl,hw⟩:=hw;subst e1;cases r;obtain⟨its,rv,ht,hz⟩:=I.tuple hq;refine(assign_Tuple_tuple (I.ok.hd hc) ht (by simp[hn,←hl,rv.length]) hst fun h' hx=>?_);have I1:Inv X pins B H {s with heap:=h'}:=I.kept (t':=s.toks) fun b o e=>hx b o (Xr (Xi e)) e;exact h pins _ B H xs _ Q I1 (by simpa using rv) hw
def Rg(to ti:TE)(t:BU):TG:=fun v B H Q=>to B H fun o H1=>ti B H1 fun i H2=>t o i v H2 fun H3=>Q B H3
theorem Nq{o i:Expr}{to ti:TE}{t:BU}(ho:PE X o to)(hi:PE X i ti)(hs:JC X t)
  (ha:∀v,assign (.Subscript o i pos) X.env v=(do
   let ov ←holding [v] (eval o X.env)
   let iv ←holding [v,ov] (eval i X.env)
   standAt pos
   holding [v,ov,iv] (setItem ov iv v)
   release [v,ov,iv] []):=by intro _;rfl):PG X (.Subscript o i pos) (Rg to ti t):=by
 intro pins s B H v u Q I r h;rw[ha];refine Xb (Yp (thn (ho pins s B H _ I h) fun ov s1 hm=>?_));obtain⟨x,H1,I1,r1,q1⟩:=hm;refine(Xb (Yp (thn (hi pins s1 B H1 _ I1 q1) fun iv s2 hm=>?_)));obtain⟨y,H2,I2,r2,q2⟩:=hm;refine(Xb (Ye (Xb (Yp (thn (hs pins s2 B H2 x y v ov iv u _ I2 r1 r2 r q2) fun _ s3 hm=>?_)))));obtain⟨H3,I3,q3⟩:=hm;exact(wpAny_release ⟨B,H3,I3,q3⟩)
def Ef(te:TE)(g:TG):TS:=fun D B H=>te B H fun x H1=>g x B H1 D.nx
theorem Nm{tg e:Expr}{te:TE}{g:TG}(he:PE X e te)(hg:PG X tg g)(hs:swapsWithSole [tg] e pos.line X.env=pure false:=by rfl)(hw:swappedStores [tg] e X.env=pure none:=by rfl)
  (h1:(assignEach [tg] X.env).map (·.2)=[assign tg X.env]:=by rfl):PS X (.Assign [tg] e pos) (Ef te g):=by
 intro pins s B H D I h;refine wpAny_Assign_stores (thn (he pins s B H _ I h) fun v s1 hm=>?_) hs hw;obtain⟨x,H1,I1,r1,q1⟩:=hm;rw[h1];exact thn (hg pins s1 B H1 x v _ I1 r1 q1) fun _ s2 q=>q
theorem J7{i:Nat}{x:Str}{e:Expr}{te:TE}{pos':Pos}(hN:X.N.Nodup)(hi:X.N[i]?=some x)(hx:Loc X.env.scope x)(he:PE X e te)(hs:swapsWith e (some (.Name x pos')) pos.line X.env=pure false:=by rfl)(hf:X.fn x=true\/X.env.scope.names.lookup x=some .local:=by first|exact .inl rfl|exact .inr rfl|assumption):
  PS X (.Assign [.Name x pos'] e pos) (Ef te (Ew i)):=by
 intro pins s B H D I h;refine wpAny_Assign_Name (thn (he pins s B H _ I h) fun v s1 hm=>?_) hs;obtain⟨y,H1,I1,r1,q1⟩:=hm;exact(EF I1 hN hi hx r1 (fun s2 I2=>⟨_,H1,I2,q1⟩) hf)
def S6(i:Nat)(te:TE)(ti:TIp):TS:=fun D B H=>∃x,B[i]?=some (some x)/\te B H fun y H1=>ti x y H1 fun z H2=>D.nx (B.set i (some z)) H2
theorem Q8{i:Nat}{x:Str}{e:Expr}{te:TE}{op:Operator}{ti:TIp}{pos':Pos}(hN:X.N.Nodup)(hi:X.N[i]?=some x)(hx:Loc X.env.scope x)(he:PE X e te)(ho:PIp X op ti)(hf:X.fn x=true\/X.env.scope.names.lookup x=some .local:=by first|exact .inl rfl|exact .inr rfl|assumption):
  PS X (.AugAssign (.Name x pos') op e pos) (S6 i te ti):=by
 intro pins s B H D I h;obtain⟨v,e1,h⟩:=h;obtain⟨m,hn,hl⟩:=I.loc;have vis:Vis X.env.scope x:=by rcases hx with k|k;exact .inl k;exact .inr (.inl k)
 obtain⟨u,r,l⟩:=hl i x v hi e1 vis;refine(wpAny_AugAssign_Name ?_);have go:wpAny (model X.prog X.w) X.A (eval e X.env) (fun w ZK=>wpAny (model X.prog X.w) X.A (inplaceOp op u w) (fun r ZM=>wpAny (model X.prog X.w) X.A (storeName X.env x r) (fun _=>SP X pins D .next) X.xe ZM) X.xe ZK) X.xe s:=by
  refine thn (he pins s B H _ I h) fun w s1 hm=>?_;obtain⟨y,H1,I1,r1,q1⟩:=hm;refine(thn (ho pins s1 B H1 v y u w _ I1 r r1 q1) fun z s2 hm=>?_);obtain⟨zv,H2,I2,r2,q2⟩:=hm;exact(EF I2 hN hi hx r2 (fun s3 I3=>⟨_,H2,I3,q2⟩) hf)
 rcases l with⟨hk,hm⟩|⟨hk,c,hc,hcell⟩
 ·exact wpAny_loadName_local I.ok.kind hk hn hm go
 ·rcases hk with hk|hk
  ·exact wpAny_loadName_cell I.ok.kind hk hc hcell go
  ·rcases hx with k|k
   ·have:X.env.scope.names.lookup x=some .free:=hk;rw[k] at this;cases this
   ·have:X.env.scope.names.lookup x=some .free:=hk;rw[k] at this;cases this
def ipI(f:Int->Int->Int):TIp:=fun x y H Q=>∃i j,x=.int i/\y=.int j/\Q (.int (f i j)) H
theorem QY:PIp X .Add (ipI fun i j=>i+j):=by
 intro pins s B H x y v u Q I r1 r2 h;obtain⟨i,j,e1,e2,q⟩:=h;subst e1;subst e2;obtain⟨t,rfl⟩:=r1;obtain⟨t',rfl⟩:=r2;exact(iadd_int ⟨.int _,H,I.tok _,⟨_,rfl⟩,q⟩)
end
section
variable {X:Cx} {pos:Pos}
def MR(c:TT)(tb:TS):TS:=fun D B H=>∃W:Nat->St->Hp->Prop,(∃m,W m B H)/\∀m B H,W m B H->
 c B H fun b H1=>if b=true then ∃N:St->Hp->Prop,(∀Z0 H',N Z0 H'->∃m',m'<m/\W m' Z0 H')/\tb {D with nx:=N,ct:=N,bk:=D.nx} B H1 else D.nx B H1
theorem T6{c:Expr}{body:List Stmt}{tc:TT}{tb:TS}(hp:PassesOwn (model X.prog X.w) X.A X.env X.xe)(hc:PT X c tc)(hb:PSs X body tb):PS X (.While c body [] pos) (MR tc tb):=by
 intro pins s B H D I h;obtain⟨W,⟨m0,w0⟩,turn⟩:=h;refine(wpAny_While (codeAny_whileLoop (fun n s'=>∃Z0 H',Inv X pins Z0 H' s'/\W n Z0 H') ?_ m0 ⟨B,H,I,w0⟩));rintro n s1 ⟨ZJ,H1,I1,w1⟩;refine Yw hp (thn (hc pins s1 ZJ H1 _ I1 (turn n ZJ H1 w1)) fun b s2 hm=>?_);obtain⟨H2,I2,q2⟩:=hm;cases b with
 |true=>
  obtain⟨N,hN,q2⟩:=q2;rw[if_pos rfl];refine Yw hp (thn (hb pins s2 ZJ H2 _ I2 q2) fun f s3 q3=>?_);cases f with
  |next=>
   obtain⟨ZI,H3,I3,n3⟩:=q3;obtain⟨m',hm,w3⟩:=hN ZI H3 n3;exact⟨m',hm,ZI,H3,I3,w3⟩
  |cont=>
   obtain⟨ZI,H3,I3,n3⟩:=q3;obtain⟨m',hm,w3⟩:=hN ZI H3 n3;exact⟨m',hm,ZI,H3,I3,w3⟩
  |brk=>exact q3
  |ret v=>exact q3
 |false=>
  rw[if_neg XR];exact wpAny_execs_nil ⟨ZJ,H2,I2,q2⟩
end
structure It where
 go:Nat->Hp->Prop
 yld:Nat->Hp->V->Hp->Prop
 stop:Nat->Hp->Prop
def sg(X:Cx)(pins:QS)(H:Hp)(b:Addr):Prop:=
 H b=none/\b≠X.env.locals/\b∉X.fs/\(b∈X.ex\/X.Z4.heap.objs.size<=b)/\(∀x c,X.env.cells.lookup x=some c->c≠b)/\∀p∈X.pn++pins,p.1≠b
def Inv.fpOk{X:Cx}{pins:QS}{B:St}{H H':Hp}{s:Shared}{b:Addr}(I:Inv X pins B H s)(hb:s.heap.objs.size<=b)(hn:H' b=none):sg X pins H' b:=by
 refine⟨hn,Nat.ne_of_gt (Xu I.lt hb),I.nofs hb,.inr (Xy I.sz hb),fun x c e z=>?_,fun p hp z=>?_⟩
 ·obtain⟨v,q⟩:=I.cell x c e;exact absurd (Xu q.lt (by rw[z];exact hb)) (X0 _)
 ·exact absurd (Xu (Xi (I.pin p hp).1) (by rw[z];exact hb)) (X0 _)
structure Turn (P:Program) (w:World) (K:Frag) (tg:Expr) (J:It) (fp:List Addr) (it:Addr) (tn:Nat->Heap->Prop):Prop where
 mem:it∈fp
 obj:∀i h,tn i h->∀b∈fp,∃o,h.get? b=some o/\∀v,o.data≠.cell v
 keep:∀i h h',tn i h->(∀b∈fp,∀o,h.get? b=some o->h'.get? b=some o)->tn i h'
 item:∀(X:Cx),X.prog=P->X.w=w->X.K=K->X.calm=true->∀(i:Nat) (pins:QS) (s:Shared) (B:St) (H:Hp) (E:OK),Inv X pins B H s->(∀b∈fp,sg X pins H b)->tn i s.heap->J.go i H->
  wpAny (model P w) X.A (pyNext (.ref it)) (fun r s1=>∃u,r=some u/\
   wpAny (model P w) X.A (letOwnedTupleGo tg (.ref it) u) (fun _ s2=>∃x H',Inv X pins B H' s2/\RelV x u/\J.yld i H x H'/\tn (i+1) s2.heap/\∀b∈fp,H' b=none) E s1) E s
 done:∀(X:Cx),X.prog=P->X.w=w->X.K=K->X.calm=true->∀(i:Nat) (pins:QS) (s:Shared) (B:St) (H:Hp) (E:OK),Inv X pins B H s->(∀b∈fp,sg X pins H b)->tn i s.heap->J.stop i H->
  wpAny (model P w) X.A (pyNext (.ref it)) (fun r s1=>r=none/\Inv X pins B H s1) E s
 self:∀(A:Around) (i:Nat) (s:Shared) (Q:OK) (E:OK),tn i s.heap->Q (.ref it) s->wpAny (model P w) A (pyIter (.ref it)) Q E s
abbrev TI:=St->Hp->(It->Hp->Prop)->Prop
def PIE(X:Cx)(pins:QS)(B:St)(tg:Expr)(R:It->Hp->Prop)(itv:Value)(s2:Shared):Prop:=
 ∃(it:Addr) (fp:List Addr) (tn:Nat->Heap->Prop) (J:It) (H':Hp),itv=.ref it/\Inv X pins B H' s2/\Turn X.prog X.w X.K tg J fp it tn/\tn 0 s2.heap/\(∀b∈fp,sg X pins H' b)/\R J H'
def PI(X:Cx)(tg iter:Expr)(wi:TI):Prop:=
 ∀(pins:QS) (s:Shared) (B:St) (H:Hp) (R:It->Hp->Prop),Inv X pins B H s->wi B H R->
  wpAny (model X.prog X.w) X.A (eval iter X.env) (fun v s1=>wpAny (model X.prog X.w) X.A (pyIter v) (PIE X pins B tg R) X.xe s1) X.xe s
theorem EE{M:Model}{A:Around}{E:OK}{s:Shared}{tg:Expr}{it:Addr}{u:Value}{o:Obj}{n:String}{vs:Array Value}{Q:Unit->Shared->Prop}(ho:s.heap.get? it=some o)(hc:o.cls=.type n)(hd:o.data=.fields vs)
  (hn:["enumerate","zip","dict_itemiterator","dict_reverseitemiterator","odict_iterator","itertools.zip_longest","itertools.pairwise"].contains n=false) (hQ:Q () s):wpAny M A (letOwnedTupleGo tg (.ref it) u) Q E s:=by
 unfold letOwnedTupleGo;cases tg<;>first
  |exact Xf hQ
  |(cases u<;>first
    |exact Xf hQ
    |(refine Xb (wpAny_load ho ?_);rw[hc,hd];show wpAny M A (if(["enumerate","zip","dict_itemiterator","dict_reverseitemiterator","odict_iterator","itertools.zip_longest","itertools.pairwise"].contains n&&vs[0]?==some (rawInt _))=true then _ else _) Q E s;rw[if_neg (by intro h;rw[hn,Bool.false_and] at h;cases h)];exact Xf hQ))
def Itl(K:Frag)(a:Addr):It:=
 ⟨fun i H=>∃xs x,SqL K H a xs/\xs[i]?=some x,fun i H x H'=>H'=H/\∀xs,SqL K H a xs->xs[i]?=some x,fun i H=>∃xs,SqL K H a xs/\xs.length<=i⟩
def Itt(K:Frag)(a:Addr):It:=
 ⟨fun i H=>∃xs x,SqT K H a xs/\xs[i]?=some x,fun i H x H'=>H'=H/\∀xs,SqT K H a xs->xs[i]?=some x,fun i H=>∃xs,SqT K H a xs/\xs.length<=i⟩
def Itr(lo:Int)(n:Nat):It:=⟨fun i _=>i<n,fun i H x H'=>H'=H/\x=.int (lo+i),fun i _=>n<=i⟩
theorem Us{P:Program}{w:World}{K:Frag}{tg:Expr}(a it:Addr):Turn P w K tg (Itl K a) [it] it (fun i h=>h.IsListIter it a i) where
 mem:=by simp
 obj:=fun i h st b hb=>by
  have e:b=it:=by simpa using hb
  subst e;obtain⟨o,e,c,d⟩:=st;exact⟨o,e,fun v z=>by rw[d] at z;cases z⟩
 keep:=fun i h h' st k=>st.at fun o e=>k it (by simp) o e
 item:=by
  intro X hP hw hK hc i pins s B H E I hf st hg;subst hP hw hK;obtain⟨xs,x,hq,hx⟩:=hg;obtain⟨its,rv,p,hz⟩:=I.list hq;obtain⟨u,hu,ru⟩:=rv.get hx;obtain⟨f0,f1,f2,f3,f4,f5⟩:=hf it (by simp);refine(wpAny_pyNext_list_item st p.isList (x:=u) (by simpa using hu) fun h' st' sb=>?_);have I1:Inv X pins B H {s with heap:=h'}:=I.turned (t':=s.toks) (fun b o hb e=>(sb.2 b hb).trans e) f0 f1 f3 f4 f5;obtain⟨o,e,c,d⟩:=id st';exact⟨u,rfl,EE (s:={s with heap:=h'}) e c d (by decide) ⟨x,H,I1,ru,⟨rfl,fun ys hy=>by rw[I.list_inj hy hq];exact hx⟩,st',fun b hb=>(hf b hb).1⟩⟩
 done:=by
  intro X hP hw hK hc i pins s B H E I hf st hg;subst hP hw hK;obtain⟨xs,hq,hx⟩:=hg;obtain⟨its,rv,p,hz⟩:=I.list hq;obtain⟨f0,f1,f2,f3,f4,f5⟩:=hf it (by simp);have hl:=rv.length;exact wpAny_pyNext_list_end (I.ok.hd hc) st p.isList (by simp;omega) fun h' eb=>⟨rfl,I.turned (t':=s.toks) (fun b o hb e=>eb b o hb e) f0 f1 f3 f4 f5⟩
 self:=fun _ _ _ _ _ st h=>wpAny_pyIter_listiter st h
theorem Wf{P:Program}{w:World}{K:Frag}{tg:Expr}(a it:Addr):Turn P w K tg (Itt K a) [it] it (fun i h=>h.IsTupleIter it a i) where
 mem:=by simp
 obj:=fun i h st b hb=>by
  have e:b=it:=by simpa using hb
  subst e;obtain⟨o,e,c,d⟩:=st;exact⟨o,e,fun v z=>by rw[d] at z;cases z⟩
 keep:=fun i h h' st k=>st.at fun o e=>k it (by simp) o e
 item:=by
  intro X hP hw hK hc i pins s B H E I hf st hg;subst hP hw hK;obtain⟨xs,x,hq,hx⟩:=hg;obtain⟨its,rv,p,hz⟩:=I.tuple hq;obtain⟨u,hu,ru⟩:=rv.get hx;obtain⟨f0,f1,f2,f3,f4,f5⟩:=hf it (by simp);refine(wpAny_pyNext_tuple_item st (show s.heap.IsTuple a its.toArray from p) (x:=u) (by simpa using hu) fun h' st' sb=>?_);have I1:Inv X pins B H {s with heap:=h'}:=I.turned (t':=s.toks) (fun b o hb e=>(sb.2 b hb).trans e) f0 f1 f3 f4 f5;obtain⟨o,e,c,d⟩:=id st';exact⟨u,rfl,EE (s:={s with heap:=h'}) e c d (by decide) ⟨x,H,I1,ru,⟨rfl,fun ys hy=>by rw[I.tuple_inj hy hq];exact hx⟩,st',fun b hb=>(hf b hb).1⟩⟩
 done:=by
  intro X hP hw hK hc i pins s B H E I hf st hg;subst hP hw hK;obtain⟨xs,hq,hx⟩:=hg;obtain⟨its,rv,p,hz⟩:=I.tuple hq;obtain⟨f0,f1,f2,f3,f4,f5⟩:=hf it (by simp);have hl:=rv.length;exact wpAny_pyNext_tuple_end (I.ok.hd hc) st (show s.heap.IsTuple a its.toArray from p) (by simp;omega) fun h' eb=>⟨rfl,I.turned (t':=s.toks) (fun b o hb e=>eb b o hb e) f0 f1 f3 f4 f5⟩
 self:=fun _ _ _ _ _ st h=>wpAny_pyIter_tupleiter st h
theorem FJ{P:Program}{w:World}{K:Frag}{tg:Expr}(it:Addr)(lo:Int)(n:Nat):Turn P w K tg (Itr lo n) [it] it (fun i h=>IsRangeIter h it (lo+(i:Nat)*1) ((n:Int) - (i:Nat)) 1) where
 mem:=by simp
 obj:=fun i h st b hb=>by
  have e:b=it:=by simpa using hb
  subst e;exact⟨_,st,fun v z=>by
   have z':Data.fields _=Data.cell v:=z;cases z'⟩
 keep:=fun i h h' st k=>k it (by simp) _ st
 item:=by
  intro X hP hw hK hc i pins s B H E I hf st hg;subst hP hw hK;obtain⟨f0,f1,f2,f3,f4,f5⟩:=hf it (by simp);have W:=Walks.range (prog:=X.prog) (w:=X.w) (I.ok.hd hc) it lo 1 n;refine(W.item i s _ _ hg st fun v h' tk hv st' kk=>?_);obtain⟨t,rfl⟩:=hv;have I1:Inv X pins B H {s with heap:=h',toks:=tk}:=I.turned (fun b o hb e=>kk b o (by simpa using hb) e) f0 f1 f3 f4 f5;refine(⟨_,rfl,EE (s:={s with heap:=h',toks:=tk}) (n:="range_iterator") st' rfl rfl (by decide) ⟨.int (lo+i),H,I1,⟨t,?_⟩,⟨rfl,rfl⟩,st',fun b hb=>(hf b hb).1⟩⟩);rw[Int.mul_one]
 done:=by
  intro X hP hw hK hc i pins s B H E I hf st hg;subst hP hw hK;obtain⟨f0,f1,f2,f3,f4,f5⟩:=hf it (by simp);exact wpAny_pyNext_range_end (I.ok.hd hc) st (by have:n<=i:=hg;omega) fun h' eb=>⟨rfl,I.turned (t':=s.toks) (fun b o hb e=>eb b o hb e) f0 f1 f3 f4 f5⟩
 self:=fun _ _ _ _ _ st h=>wpAny_pyIter_rangeiter st h
section
variable {X:Cx} {tg:Expr}
def IE(K:Frag)(tl:TE):TI:=fun B H R=>tl B H fun x H1=>∃a,x=.ref a/\(∃xs,SqL K H1 a xs)/\R (Itl K a) H1
def L6(K:Frag)(tl:TE):TI:=fun B H R=>tl B H fun x H1=>∃a,x=.ref a/\(∃xs,SqT K H1 a xs)/\R (Itt K a) H1
theorem L4{l:Expr}{tl:TE}(hl:PE X l tl):PI X tg l (IE X.K tl):=by
 intro pins s B H R I h;refine thn (hl pins s B H _ I h) fun v s1 hm=>?_;obtain⟨x,H1,I1,r1,q1⟩:=hm;obtain⟨a,e,⟨xs,hq⟩,q⟩:=q1;subst e;cases r1;obtain⟨its,rv,p,hz⟩:=I1.list hq;refine(wpAny_pyIter_list p.isList ?_);refine⟨s1.heap.objs.size,[s1.heap.objs.size],_,_,H1,rfl,I1.kept (t':=s1.toks) fun b o e=>Xd _ e,Us a _,⟨_,Xl _ rfl,rfl,rfl⟩,fun b hb=>?_,q⟩;have e:b=s1.heap.objs.size:=by simpa using hb
 subst e;exact I1.fpOk (Xc _) (I1.hok.fresh (Xc _))
theorem Tz{l:Expr}{tl:TE}(hl:PE X l tl):PI X tg l (L6 X.K tl):=by
 intro pins s B H R I h;refine thn (hl pins s B H _ I h) fun v s1 hm=>?_;obtain⟨x,H1,I1,r1,q1⟩:=hm;obtain⟨a,e,⟨xs,hq⟩,q⟩:=q1;subst e;cases r1;obtain⟨its,rv,p,hz⟩:=I1.tuple hq;refine(wpAny_pyIter_tuple (show s1.heap.IsTuple a its.toArray from p) ?_);refine⟨s1.heap.objs.size,[s1.heap.objs.size],_,_,H1,rfl,I1.kept (t':=s1.toks) fun b o e=>Xd _ e,Wf a _,⟨_,Xl _ rfl,rfl,rfl⟩,fun b hb=>?_,q⟩;have e:b=s1.heap.objs.size:=by simpa using hb
 subst e;exact I1.fpOk (Xc _) (I1.hok.fresh (Xc _))
theorem Cq{pins:QS}{B:St}{H:Hp}{s:Shared}{R:It->Hp->Prop}{E:OK}{lo hi:Int}{t u v:Tok}{tk:Nat}(I:Inv X pins B H s)(h1:-(2^62)<=lo)(h2:lo<2^62)(h3:-(2^62)<=hi)(h4:hi<2^62)
  (q:R (Itr lo (hi - lo).toNat) H):wpAny (model X.prog X.w) X.A (pyIter (.ref s.heap.objs.size)) (PIE X pins B tg R) E {s with heap:=s.heap.push {cls:=.type "range",data:=.fields #[.int lo t,.int hi u,.int 1 v]},toks:=tk}:=by
 refine wpAny_pyIter_range (IsRange.new ..) (small_one h1 h2 h3 h4) ?_;have I1:Inv X pins B H {s with heap:=s.heap.push {cls:=.type "range",data:=.fields #[.int lo t,.int hi u,.int 1 v]},toks:=tk}:=I.kept fun b o e=>Xd _ e;refine⟨(s.heap.push {cls:=.type "range",data:=.fields #[.int lo t,.int hi u,.int 1 v]}).objs.size,[(s.heap.push {cls:=.type "range",data:=.fields #[.int lo t,.int hi u,.int 1 v]}).objs.size],_,_,H,rfl,
  I1.kept (t':=tk) fun b o e=>Xd _ e,FJ _ lo (hi - lo).toNat,?_,fun b hb=>?_,q⟩
 ·have e1:lo+((0:Nat):Int)*1=lo:=by simp
  have e2:(((hi - lo).toNat:Nat):Int) - ((0:Nat):Int)=Builtin.Range.rangeSize lo hi 1:=by rw[rangeSize_one];split<;>omega
  show IsRangeIter _ _ (lo+((0:Nat):Int)*1) ((((hi - lo).toNat:Nat):Int) - ((0:Nat):Int)) 1;rw[e1,e2];exact Xl _ rfl
 ·have e:b=(s.heap.push {cls:=.type "range",data:=.fields #[.int lo t,.int hi u,.int 1 v]}).objs.size:=by simpa using hb
  subst e;exact I1.fpOk (Xc _) (I1.hok.fresh (Xc _))
def GZ(ta:TA):TI:=fun B H R=>ta B H fun vs H1=>∃j:Int,vs=[.int j]/\-(2^62)<=j/\j<2^62/\R (Itr 0 j.toNat) H1
def Jv(ta:TA):TI:=fun B H R=>ta B H fun vs H1=>∃i j:Int,vs=[.int i,.int j]/\(-(2^62)<=i/\i<2^62/\-(2^62)<=j/\j<2^62)/\R (Itr i (j - i).toNat) H1
theorem Tq{a:Expr}{ta:TA}{p pos:Pos}(hg:Gl X "range") (hm:X.mg "range"=none) (ha:PA X [a] ta) (hs:starEach [a] X.env=[(false,eval a X.env)]:=by rfl):PI X tg (.Call (.Name "range" p) [a] [] pos) (GZ ta):=by
 intro pins s B H R I h;refine Call_ (vw I hg hm boot_range (X4 (thn (ha pos pins s B H _ I h) fun us s1 hm=>?_) hs rfl));obtain⟨vs,H1,I1,r1,q1⟩:=hm;obtain⟨j,e,q1,q2,q⟩:=q1;subst e;cases r1 with
 |cons r rr=>
  cases rr;obtain⟨t,rfl⟩:=r;exact(call_range_1 (Cq I1 (by omega) (by omega) q1 q2 (by simpa using q)))
theorem Vu{a b:Expr}{ta:TA}{p pos:Pos}(hg:Gl X "range") (hm:X.mg "range"=none) (ha:PA X [a,b] ta) (hs:starEach [a,b] X.env=[(false,eval a X.env),(false,eval b X.env)]:=by rfl) (hs2:starEach [b] X.env=[(false,eval b X.env)]:=by rfl):
  PI X tg (.Call (.Name "range" p) [a,b] [] pos) (Jv ta):=by
 intro pins s B H R I h;refine Call_ (vw I hg hm boot_range (X4 (thn (ha pos pins s B H _ I h) fun us s1 hm=>?_) (by rw[hs,hs2]) (by rw[hs2];rfl)));obtain⟨vs,H1,I1,r1,q1⟩:=hm;obtain⟨i,j,e,⟨q1,q2,q3,q4⟩,q⟩:=q1;subst e;cases r1 with
 |cons r rr=>
  cases rr with
  |cons r' rr=>
   cases rr;obtain⟨t,rfl⟩:=r;obtain⟨t',rfl⟩:=r';exact(call_range_2 (Cq I1 q1 q2 q3 q4 q))
def WT(wi:TI)(g:TG)(tb:TS):TS:=fun D B H=>wi B H fun J H1=>∃W:Nat->Nat->St->Hp->Prop,(∃m,W 0 m B H1)/\∀i m B H,W i m B H->
 (J.stop i H/\D.nx B H)\/(J.go i H/\∃N:St->Hp->Prop,(∀Z0 H',N Z0 H'->∃m',m'<m/\W (i+1) m' Z0 H')/\∀x H',J.yld i H x H'->g x B H' fun ZW H2=>tb {D with nx:=N,ct:=N,bk:=D.nx} ZW H2)
def wg(fp:List Addr)(h:Heap):QS:=fp.filterMap fun b=>(h.get? b).map fun o=>(b,o)
theorem va{fp:List Addr}{h:Heap}{b:Addr}{o:Obj}(hb:b∈fp)(e:h.get? b=some o):(b,o)∈wg fp h:=List.mem_filterMap.mpr ⟨b,hb,by rw[e];rfl⟩
theorem UL{fp:List Addr}{h:Heap}{p:Addr×Obj}(hp:p∈wg fp h):p.1∈fp/\h.get? p.1=some p.2:=by
 obtain⟨b,hb,e⟩:=List.mem_filterMap.mp hp;cases q:h.get? b with
 |none=>rw[q] at e;cases e
 |some o=>
  rw[q] at e;have e':(b,o)=p:=Xv e;subst e';exact⟨hb,q⟩
theorem Inv.pinned{pins:QS}{B:St}{H:Hp}{s:Shared}{fp:List Addr}(I:Inv X pins B H s)(hf:∀b∈fp,sg X pins H b)(ho:∀b∈fp,∃o,s.heap.get? b=some o/\∀v,o.data≠.cell v):Inv X (pins++wg fp s.heap) B H s:=
 I.pins_of fun p hp=>(XM.mp hp).elim (fun z=>I.pin p (Xo _ z)) fun z=>by
  obtain⟨hb,e⟩:=UL z;obtain⟨f0,f1,f2,_⟩:=hf p.1 hb;obtain⟨o,e',d⟩:=ho p.1 hb;rw[e] at e';cases e';exact⟨e,f0,f1,f2,d⟩
theorem Inv.unpinned{pins pl:QS}{B:St}{H:Hp}{s:Shared}(I:Inv X (pins++pl) B H s):Inv X pins B H s:=I.pins_of fun p hp=>I.pin p (Xo _ (List.mem_append_left _ hp))
theorem K2{iter:Expr}{body:List Stmt}{wi:TI}{g:TG}{tb:TS}{pos:Pos}(hp:PassesOwn (model X.prog X.w) X.A X.env X.xe)(hc:X.calm=true)(hi:PI X tg iter wi)(hg:PG X tg g)(hb:PSs X body tb)
  (hs:∀x,foldedSetIterable iter X.env x=pure x:=by intro _;rfl):PS X (.For tg iter body [] pos) (WT wi g tb):=by
 intro pins s B H D I h;refine wpAny_For (thn (hi pins s B H _ I h) fun v s1 h1=>thn h1 fun itv s2 h2=>?_) hs;obtain⟨it,fp,tn,J,H2,e,I2,T,st2,f2,W,⟨m0,w0⟩,turn⟩:=h2;subst e;have stat:∀{H':Hp},(∀b∈fp,H' b=none)->∀b∈fp,sg X pins H' b:=fun hn b hb=>⟨hn b hb,(f2 b hb).2⟩
 refine codeAny_forLoop_any (fun n s'=>∃i Z0 H',Inv X pins Z0 H' s'/\tn i s'.heap/\(∀b∈fp,H' b=none)/\W i n Z0 H') ?_ m0 ⟨0,B,H2,I2,st2,fun b hb=>(f2 b hb).1,w0⟩;rintro n s3 ⟨i,ZI,H3,I3,st3,fr3,w3⟩;rcases turn i n ZI H3 w3 with⟨stop,qn⟩|⟨go,N,hN,step⟩
 ·refine Yw hp (thn (T.done X rfl rfl rfl hc i pins s3 ZI H3 X.xe I3 (stat fr3) st3 stop) fun r s4 ⟨hr,I4⟩=>?_);subst hr;exact wpAny_execs_nil ⟨ZI,H3,I4,qn⟩
 ·refine Yw hp (thn (T.item X rfl rfl rfl hc i pins s3 ZI H3 X.xe I3 (stat fr3) st3 go) fun r s4 ⟨u,hr,h4⟩=>?_);subst hr;refine Yw hp (thn h4 fun _ s5 hm=>?_);obtain⟨x,H5,I5,r5,y5,st5,fr5⟩:=hm;have I5':=I5.pinned (stat fr5) (T.obj _ _ st5);refine(Yw hp (thn (hg _ s5 ZI H5 x u _ I5' r5 (step x H5 y5)) fun _ s6 hm=>?_));obtain⟨Zr,H6,I6,q6⟩:=hm;refine(Yw hp (thn (hb _ s6 Zr H6 _ I6 q6) fun f s7 q7=>?_));have again:∀{ZT:St} {H7:Hp},Inv X (pins++wg fp s5.heap) ZT H7 s7->N ZT H7->∃m,m<n/\∃i Z0 H',Inv X pins Z0 H' s7/\tn i s7.heap/\(∀b∈fp,H' b=none)/\W i m Z0 H':=fun{ZT H7} I7 n7=>by
   obtain⟨m',hm,w7⟩:=hN ZT H7 n7;refine(⟨m',hm,i+1,ZT,H7,I7.unpinned,T.keep _ _ _ st5 fun b hb o e=>(I7.pin (b,o) (Xo _ (Xo _ (va hb e)))).1,fun b hb=>?_,w7⟩);obtain⟨o,e,d⟩:=T.obj _ _ st5 b hb;exact((I7.pin (b,o) (Xo _ (Xo _ (va hb e)))).2.1)
  cases f with
  |next=>obtain⟨ZT,H7,I7,n7⟩:=q7;exact again I7 n7
  |cont=>obtain⟨ZT,H7,I7,n7⟩:=q7;exact again I7 n7
  |brk=>obtain⟨ZT,H7,I7,q7⟩:=q7;exact⟨ZT,H7,I7.unpinned,q7⟩
  |ret v=>obtain⟨x7,ZT,H7,I7,r7,q7⟩:=q7;exact⟨x7,ZT,H7,I7.unpinned,r7,q7⟩
end
abbrev R2:=V->V->Hp->VK->Prop
def OpR(X:Cx)(f:Value->Value->Sem Value)(r:R2):Prop:=
 ∀(pins:QS) (s:Shared) (B:St) (H:Hp) (x y:V) (v u:Value) (Q:VK),Inv X pins B H s->RelV x v->RelV y u->r x y H Q->
  wpAny (model X.prog X.w) X.A (f v u) (EP X pins B Q) X.xe s
def UnR(X:Cx)(f:Value->Sem Value)(r:V->Hp->VK->Prop):Prop:=
 ∀(pins:QS) (s:Shared) (B:St) (H:Hp) (x:V) (v:Value) (Q:VK),Inv X pins B H s->RelV x v->r x H Q->
  wpAny (model X.prog X.w) X.A (f v) (EP X pins B Q) X.xe s
def tL(X:Cx)(f:Value)(r:List V->Hp->VK->Prop):Prop:=
 ∀(pins:QS) (s:Shared) (B:St) (H:Hp) (xs:List V) (us:List Value) (Q:VK),Inv X pins B H s->Vals xs us->r xs H Q->
  wpAny (model X.prog X.w) X.A (call f us) (EP X pins B Q) X.xe s
def Nr(X:Cx)(r:V->Hp->(Bool->Hp->Prop)->Prop):Prop:=
 ∀(pins:QS) (s:Shared) (B:St) (H:Hp) (x:V) (v:Value) (Q:Bool->Hp->Prop),Inv X pins B H s->RelV x v->r x H Q->
  wpAny (model X.prog X.w) X.A (truthy v) (TP X pins B Q) X.xe s
def tOp(r:R2)(ta tb:TE):TE:=fun B H Q=>ta B H fun x H1=>tb B H1 fun y H2=>r x y H2 Q
def tUn(r:V->Hp->VK->Prop)(ta:TE):TE:=fun B H Q=>ta B H fun x H1=>r x H1 Q
def rI(C:Int->Int->Prop)(g:Int->Int->V):R2:=fun x y H Q=>∃i j,x=.int i/\y=.int j/\C i j/\Q (g i j) H
def rI0(g:Int->Int->V):R2:=fun x y H Q=>∃i j,x=.int i/\y=.int j/\Q (g i j) H
def rU(g:Int->V):V->Hp->VK->Prop:=fun x H Q=>∃i,x=.int i/\Q (g i) H
section
variable {X:Cx} {a b:Expr} {ta tb:TE} {pos:Pos}
theorem E8(ha:PE X a ta)(hb:PE X b tb){pins:QS}{s:Shared}{B:St}{H:Hp}{R:V->V->Hp->Prop}(I:Inv X pins B H s)
  (h:ta B H fun x H1=>tb B H1 fun y H2=>R x y H2) {Q:OK} {f:Value->Value->Sem Value}
  (hf:∀v u s2 x y H2,Inv X pins B H2 s2->RelV x v->RelV y u->R x y H2->wpAny (model X.prog X.w) X.A (f v u) Q X.xe s2):
  wpAny (model X.prog X.w) X.A (eval a X.env) (fun v ZU=>wpAny (model X.prog X.w) X.A (eval b X.env) (fun u ZK=>wpAny (model X.prog X.w) X.A (f v u) Q X.xe ZK) X.xe ZU) X.xe s:=by
 refine thn (ha pins s B H _ I h) fun v s1 hm=>?_;obtain⟨x,H1,I1,r1,q1⟩:=hm;refine(thn (hb pins s1 B H1 _ I1 q1) fun u s2 hm=>?_);obtain⟨y,H2,I2,r2,q2⟩:=hm;exact(hf v u s2 x y H2 I2 r1 r2 q2)
theorem y3c{op:Operator}{r:R2}(ho:OpR X (binaryOp op) r)(ha:PE X a ta)(hb:PE X b tb):PE X (.BinOp a op b pos) (tOp r ta tb):=by
 intro pins s B H Q I h;exact wpAny_BinOp (E8 ha hb I h fun v u s2 x y H2 I2 rx ry q=>ho pins s2 B H2 x y v u Q I2 rx ry q)
theorem QQ{op:UnaryOp}{r:V->Hp->VK->Prop}(ho:UnR X (unaryOp op) r)(ha:PE X a ta):PE X (.UnaryOp op a pos) (tUn r ta):=by
 intro pins s B H Q I h;exact UnaryOp_ (thn (ha pins s B H _ I h) fun v s1 ⟨x,H1,I1,r1,q1⟩=>ho pins s1 B H1 x v Q I1 r1 q1)
theorem opI{f:Value->Value->Sem Value}{C:Int->Int->Prop}{g:Int->Int->Int}
  (rule:∀(i j:Int) (t u:Tok) (s:Shared) (Q:OK) (E:OK),C i j->Q (.int (g i j) s.toks) {s with toks:=s.toks+1}->wpAny (model X.prog X.w) X.A (f (.int i t) (.int j u)) Q E s):
  OpR X f (rI C fun i j=>.int (g i j)):=by
 intro pins s B H x y v u Q I rx ry h;obtain⟨i,j,rfl,rfl,hc,q⟩:=h;obtain⟨t,rfl⟩:=rx;obtain⟨t',rfl⟩:=ry;exact(rule i j t t' s _ _ hc ⟨.int (g i j),H,I.tok _,⟨_,rfl⟩,q⟩)
theorem Jt{f:Value->Value->Sem Value}{g:Int->Int->Int}
  (rule:∀(i j:Int) (t u:Tok) (s:Shared) (Q:OK) (E:OK),Q (.int (g i j) s.toks) {s with toks:=s.toks+1}->wpAny (model X.prog X.w) X.A (f (.int i t) (.int j u)) Q E s):
  OpR X f (rI0 fun i j=>.int (g i j)):=by
 intro pins s B H x y v u Q I rx ry h;obtain⟨i,j,rfl,rfl,q⟩:=h;obtain⟨t,rfl⟩:=rx;obtain⟨t',rfl⟩:=ry;exact(rule i j t t' s _ _ ⟨.int (g i j),H,I.tok _,⟨_,rfl⟩,q⟩)
theorem DW{f:Value->Value->Sem Value}{g:Int->Int->Bool}
  (rule:∀(i j:Int) (t u:Tok) (s:Shared) (Q:OK) (E:OK),Q (.bool (g i j)) s->wpAny (model X.prog X.w) X.A (f (.int i t) (.int j u)) Q E s):
  OpR X f (rI0 fun i j=>.bl (g i j)):=by
 intro pins s B H x y v u Q I rx ry h;obtain⟨i,j,rfl,rfl,q⟩:=h;obtain⟨t,rfl⟩:=rx;obtain⟨t',rfl⟩:=ry;exact(rule i j t t' s _ _ ⟨.bl (g i j),H,I,rfl,q⟩)
def vS(i j:Int):Prop:=0<=j/\j<=1000000/\i.natAbs<2^64
def CMul(i j:Int):Prop:=(-(2^64)<i/\i<2^64)\/(-(2^64)<j/\j<2^64)
theorem CMul.ok{i j:Int}(h:CMul i j):IntMulOk i j:=by
 rcases h with⟨h1,h2⟩|⟨h1,h2⟩
 ·exact .of_left (intBits_le_64 h1 h2)
 ·exact .of_right (intBits_le_64 h1 h2)
theorem op_add:OpR X (binaryOp .Add) (rI0 fun i j=>.int (i+j)):=Jt fun _ _ _ _ _ _ _ q=>add_int q
theorem Uy:OpR X (binaryOp .Sub) (rI0 fun i j=>.int (i - j)):=Jt fun _ _ _ _ _ _ _ q=>sub_int q
theorem op_mul:OpR X (binaryOp .Mult) (rI CMul fun i j=>.int (i*j)):=opI fun _ _ _ _ _ _ _ hc q=>mul_int q hc.ok
theorem UK:OpR X (binaryOp .Mod) (rI (fun _ j=>0<j) fun i j=>.int (i%j)):=opI fun i j _ _ _ _ _ hc q=>by
 have h1:(0:Int)<j:=hc;exact mod_int' (by omega) (by rw[Int.fmod_eq_emod_of_nonneg i (by omega)];exact q)
theorem N2:OpR X (binaryOp .Pow) (rI vS fun i j=>.int (i^j.toNat)):=opI fun _ _ _ _ _ _ _ hc q=>pow_int_small hc.1 hc.2.1 hc.2.2 q
theorem unI{f:Value->Sem Value}{g:Int->Int}
  (rule:∀(i:Int) (t:Tok) (s:Shared) (Q:OK) (E:OK),Q (.int (g i) s.toks) {s with toks:=s.toks+1}->wpAny (model X.prog X.w) X.A (f (.int i t)) Q E s):
  UnR X f (rU fun i=>.int (g i)):=by
 intro pins s B H x v Q I rx h;obtain⟨i,rfl,q⟩:=h;obtain⟨t,rfl⟩:=rx;exact(rule i t s _ _ ⟨.int (g i),H,I.tok _,⟨_,rfl⟩,q⟩)
theorem Pc:UnR X (unaryOp .USub) (rU fun i=>.int (-i)):=unI fun _ _ _ _ _ q=>neg_int q
end
section
variable {X:Cx} {a b c:Expr} {ta tb tc:TE} {pos:Pos}
theorem Km{pins:QS}{B:St}{H:Hp}{s:Shared}{Q:VK}{k k':Bool}(I:Inv X pins B H s)(q:Q (.bl k) H)(e:k=k'):EP X pins B Q (.bool k') s:=by
 subst e;exact⟨.bl k,H,I,rfl,q⟩
theorem CI:OpR X (compareOp .Lt) (rI0 fun i j=>.bl (decide (i<j))):=DW fun _ _ _ _ _ _ _ q=>lt_int q
theorem IC:OpR X (compareOp .LtE) (rI0 fun i j=>.bl (decide (i<=j))):=DW fun _ _ _ _ _ _ _ q=>le_int q
theorem Oc:OpR X (compareOp .Gt) (rI0 fun i j=>.bl (decide (j<i))):=DW fun _ _ _ _ _ _ _ q=>gt_int q
theorem Qo:OpR X (compareOp .Is) (fun x y H Q=>y=.non/\Q (.bl (decide (x=.non))) H):=by
 intro pins s B H x y v u Q I rx ry h;obtain⟨rfl,q⟩:=h;cases ry;refine(is_none_gen (Km I q ?_));cases x<;>first
  |(cases rx;rfl)
  |(obtain⟨t,rfl⟩:=rx;rfl)
theorem WQ:OpR X (compareOp .IsNot) (fun x y H Q=>y=.non/\Q (.bl (!decide (x=.non))) H):=by
 intro pins s B H x y v u Q I rx ry h;obtain⟨rfl,q⟩:=h;cases ry;refine(isnot_none_gen (Km I q ?_));cases x<;>first
  |(cases rx;rfl)
  |(obtain⟨t,rfl⟩:=rx;rfl)
theorem OpR.or{f:Value->Value->Sem Value}{r r':R2}(h:OpR X f r)(h':OpR X f r'):OpR X f (fun x y H Q=>r x y H Q\/r' x y H Q):=by
 intro pins s B H x y v u Q I rx ry q;rcases q with q|q
 ·exact h pins s B H x y v u Q I rx ry q
 ·exact h' pins s B H x y v u Q I rx ry q
theorem wm(b:Expr){op:CmpOp}(h:op≠.In:=by decide)(h2:op≠.NotIn:=by decide):behindInMarks op b=false:=by
 have e1:(op==CmpOp.In)=false:=by cases op<;>first|rfl|exact absurd rfl h
 have e2:(op==CmpOp.NotIn)=false:=by cases op<;>first|rfl|exact absurd rfl h2
 cases b<;>simp[behindInMarks,e1,e2]
theorem RN{op:CmpOp}{r:R2}(ho:OpR X (compareOp op) r)(ha:PE X a ta)(hb:PE X b tb)(hm:behindInMarks op b=false):PE X (.Compare a [op] [b] pos) (tOp r ta tb):=by
 intro pins s B H Q I h;exact wpAny_Compare1 (E8 ha hb I h fun v u s2 x y H2 I2 rx ry q=>ho pins s2 B H2 x y v u Q I2 rx ry q) hm
def A5(t:TE):TT:=fun B H Q=>t B H fun x H'=>∃k,x=.bl k/\Q k H'
theorem JD{op:CmpOp}{r:R2}(ho:OpR X (compareOp op) r)(ha:PE X a ta)(hb:PE X b tb)(hm:behindInMarks op b=false):PT X (.Compare a [op] [b] pos) (A5 (tOp r ta tb)):=by
 intro pins s B H Q I h;refine wpAny_isTrue_Compare1 (thn (ha pins s B H _ I h) fun v s1 ⟨x,H1,I1,r1,q1⟩=>thn (hb pins s1 B H1 _ I1 q1) fun u s2 ⟨y,H2,I2,r2,q2⟩=>
  thn (ho pins s2 B H2 x y v u _ I2 r1 r2 q2) fun c s3 ⟨z,H3,I3,r3,k,e,q3⟩=>?_) hm
 subst e;cases r3;exact XV ⟨H3,I3,q3⟩
def Lh(r r':R2)(ta tb tc:TE):TE:=fun B H Q=>ta B H fun x H1=>tb B H1 fun y H2=>r x y H2 fun z H3=>∃k,z=.bl k/\
 (if k=true then tc B H3 fun w' H4=>r' y w' H4 Q else Q (.bl false) H3)
theorem U7{op op':CmpOp}{r r':R2}(ho:OpR X (compareOp op) r)(ho':OpR X (compareOp op') r')(ha:PE X a ta)(hb:PE X b tb)(hc:PE X c tc)
  (hm:lastMarks [op,op'] [b,c]=false:=by with_unfolding_all rfl):PT X (.Compare a [op,op'] [b,c] pos) (A5 (Lh r r' ta tb tc)):=by
 intro pins s B H Q I h;refine isTrue_chain (thn (ha pins s B H _ I h) fun v s1 ⟨x,H1,I1,r1,q1⟩=>test_link (thn (hb pins s1 B H1 _ I1 q1) fun u s2 ⟨y,H2,I2,r2,q2⟩=>
  thn (ho pins s2 B H2 x y v u _ I2 r1 r2 q2) fun d s3 ⟨z,H3,I3,r3,k,e,q3⟩=>?_)) hm
 subst e;cases r3;refine XV ?_;cases k with
 |false=>
  obtain⟨k',e',q'⟩:=q3;cases e';exact ite_ff ⟨H3,I3,q'⟩
 |true=>
  refine ite_tt (test_last (thn (hc pins s3 B H3 _ I3 q3) fun w' s4 ⟨z',H4,I4,r4,q4⟩=>thn (ho' pins s4 B H4 y z' u w' _ I4 r2 r4 q4) fun d' s5 hm=>?_));obtain⟨z2,H5,I5,r5,k2,e2,q5⟩:=hm;subst e2;cases r5;exact(XV ⟨H5,I5,q5⟩)
def B1(K:Frag)(x:V)(H:Hp)(k:Bool):Prop:=
 match x with
 | .non=>k=false
 | .bl b=>k=b
 | .int i=>k=(i !=0)
 | .str y=>y.length<=sizeLine/\k=((y.length:Int) !=0)
 | .byt y=>y.size<=sizeLine/\k=((y.size:Int) !=0)
 | .ref p=>(∃xs,SqL K H p xs/\k=!xs.isEmpty)\/(∃xs,SqT K H p xs/\k=!xs.isEmpty)\/∃kvs,H p=some (.dK kvs)/\k=!kvs.isEmpty
 |_=>False
theorem RD{κ:Type}{kvs:List (κ×V)}{vs:List (κ×Value)}(r:KV kvs vs):(!vs.isEmpty)=!kvs.isEmpty:=by
 cases r<;>rfl
theorem FH{xs:List V}{its:List Value}(r:Vals xs its):(!its.toArray.isEmpty)=!xs.isEmpty:=by
 cases r<;>simp
theorem yJ:(sizeLine:Nat)<2^63:=by rw[YB];decide
theorem QN:Nr X (fun x H Q=>∃k,B1 X.K x H k/\Q k H):=by
 intro pins s B H x v Q I rx h;obtain⟨k,e,q⟩:=h;have hl:=yJ;have hs:sizeLine=16777216:=YB;cases x with
 |non=>
  cases rx;have e':k=false:=e;subst e';exact truthy_none ⟨H,I,q⟩
 |bl b=>
  cases rx;have e':k=b:=e;subst e';exact XV ⟨H,I,q⟩
 |int i=>
  obtain⟨t,rfl⟩:=rx;have e':k=(i !=0):=e;subst e';exact PySem.P.truthy_int ⟨H,I,q⟩
 |str y=>
  obtain⟨t,rfl⟩:=rx;obtain⟨hy,e'⟩:y.length<=sizeLine/\k=((y.length:Int) !=0):=e;subst e';exact PySem.P.truthy_str (by omega) ⟨H,I.tok _,q⟩
 |byt y=>
  obtain⟨t,rfl⟩:=rx;obtain⟨hy,e'⟩:y.size<=sizeLine/\k=((y.size:Int) !=0):=e;subst e';exact PySem.W.truthy_bytes (by omega) ⟨H,I.tok _,q⟩
 |ref p=>
  cases rx;have e':(∃xs,SqL X.K H p xs/\k=!xs.isEmpty)\/(∃xs,SqT X.K H p xs/\k=!xs.isEmpty)\/∃kvs,H p=some (.dK kvs)/\k=!kvs.isEmpty:=e;rcases e' with⟨xs,hx,e'⟩|⟨xs,hx,e'⟩|⟨kvs,hx,e'⟩
  ·subst e';obtain⟨its,r,pl,hz⟩:=I.list hx;have hlen:=r.length;exact wpAny_truthy_list pl.isList (by simp only[Xm];omega) ⟨H,I.tok _,by rw[FH r];exact q⟩
  ·subst e';obtain⟨its,r,pl,hz⟩:=I.tuple hx;have hlen:=r.length;exact truthy_tuple pl (by simp only[Xm];omega) ⟨H,I.tok _,by rw[FH r];exact q⟩
  ·subst e';obtain⟨hz,hS,vs,r,m⟩:kvs.length<=sizeLine/\(p==sysModules)=false/\∃vs,KV kvs vs/\s.heap.DictOf (tQ X.prog X.w) p vs:=I.hok p _ hx;have hlen:kvs.length=vs.length:=Paired.length r;exact wpAny_truthy_dict hS m (by omega) ⟨H,I.tok _,by rw[RD r];exact q⟩
 |_=>exact(show False from e).elim
theorem OC(ha:PE X a ta)(he:∀whole,isTrue a X.env whole=(do let v ←whole;standAt a.pos;holding [v] (truthy v))):
  PT X a (fun B H Q=>ta B H fun x H'=>∃k,B1 X.K x H' k/\Q k H'):=by
 intro pins s B H Q I h;exact isTrue_plain (thn (ha pins s B H _ I h) fun v s1 ⟨x,H1,I1,r1,q1⟩=>QN pins s1 B H1 x v Q I1 r1 q1) (he _)
theorem uZ{x:V}{us:List Value}(r:Vals [x] us):∃u,us=[u]/\RelV x u:=by
 cases r with
 |cons r1 r2=>cases r2;exact⟨_,rfl,r1⟩
theorem Ai{x y:V}{us:List Value}(r:Vals [x,y] us):∃u w',us=[u,w']/\RelV x u/\RelV y w':=by
 cases r with
 |cons r1 r2=>
  cases r2 with
  |cons r3 r4=>cases r4;exact⟨_,_,rfl,r1,r3⟩
theorem Sk(hc:X.calm=true):tL X (.builtin "max") (fun xs H Q=>∃i j,xs=[.int i,.int j]/\Q (.int (if j>i then j else i)) H):=by
 intro pins s B H xs us Q I r h;obtain⟨i,j,rfl,q⟩:=h;obtain⟨u,w',rfl,⟨t,rfl⟩,⟨t',rfl⟩⟩:=Ai r;refine(max_two_ints (I.ok.hd hc) fun h' tk k=>⟨_,H,I.kept k,?_,q⟩);by_cases hj:j>i
 ·rw[if_pos hj,if_pos hj];exact⟨_,rfl⟩
 ·rw[if_neg hj,if_neg hj];exact⟨_,rfl⟩
theorem WZ(hc:X.calm=true):tL X (.builtin "min") (fun xs H Q=>∃i j,xs=[.int i,.int j]/\Q (.int (if j<i then j else i)) H):=by
 intro pins s B H xs us Q I r h;obtain⟨i,j,rfl,q⟩:=h;obtain⟨u,w',rfl,⟨t,rfl⟩,⟨t',rfl⟩⟩:=Ai r;refine(min_two_ints (I.ok.hd hc) fun h' tk k=>⟨_,H,I.kept k,?_,q⟩);by_cases hj:j<i
 ·rw[if_pos hj,if_pos hj];exact⟨_,rfl⟩
 ·rw[if_neg hj,if_neg hj];exact⟨_,rfl⟩
theorem WO:tL X (.type "int") (fun xs H Q=>(∃i,xs=[.int i]/\Q (.int i) H)\/∃k,xs=[.bl k]/\Q (.int (if k then 1 else 0)) H):=by
 intro pins s B H xs us Q I r h;rcases h with⟨i,rfl,q⟩|⟨k,rfl,q⟩
 ·obtain⟨u,rfl,t,rfl⟩:=uZ r;exact call_int_int ⟨.int i,H,I,⟨_,rfl⟩,q⟩
 ·obtain⟨u,rfl,r1⟩:=uZ r;cases r1;exact call_int_bool ⟨.int (if k then 1 else 0),H,I.tok _,⟨_,rfl⟩,q⟩
end
structure ObjM (h:Heap) (x dx C:Addr) (mA:Str->Option Value):Prop where
 obj:h.get? x=some (PySem.W.instObj C dx)
 ns:h.Ns1 dx mA
 ne:dx≠x
def Vr{h:Heap}{dx:Addr}{mA:Str->Option Value}(n:h.Ns1 dx mA):∃od,h.get? dx=some od/\∀name,PySem.W.lookIn name od=some (mA name):=by
 obtain⟨o,es,ep,ho,hd,hk,_,hm⟩:=n;refine(⟨o,ho,fun name=>?_⟩);have e:=hm name;unfold nsFind findBy at e;rw[←Array.find?_toList] at e;unfold PySem.W.lookIn;rw[hd];dsimp only;split
 ·rename_i y q;rw[q] at e;exact congrArg some e
 ·rename_i q;rw[q] at e;have a:es.toList.any (·.refKey)=false:=by
   rw[List.any_eq_false];intro y hy;obtain⟨z,t,hkey⟩:=hk y (Array.mem_toList_iff.mp hy);simp[DictEntry.refKey,hkey]
  have a':¬es.toList.any (·.refKey)=true:=by rw[a];exact XR
  rw[if_neg a'];exact congrArg some e
def ObjM.look{h:Heap}{x dx C:Addr}{mA:Str->Option Value}(I:ObjM h x dx C mA):∃od,PySem.W.InstAt h x (PySem.W.instObj C dx) C (some od)/\∀name,PySem.W.lookIn name od=some (mA name):=
 let ⟨od,ho,hl⟩:=Vr I.ns
 ⟨od,⟨I.obj,rfl,rfl,ho⟩,hl⟩
section
variable {prog:Program} {w:World} {A:Around} {E:OK} {s:Shared} {K:Frag} {x dx C f:Addr} {mA:Str->Option Value} {name:Str} {v:Value}
theorem T0{expr:Bool}{Q:OK}(X:K.In s.heap)(I:ObjM s.heap x dx C mA)(hg:PySem.W.plainGet K C name=true)(hh:PySem.W.hasDictIn K C=true)
  (ha:findIn K (.ref C) name=some none) (hv:mA name=some v) (hv':PySem.W.handedIn v=true) (h:Q v {s with toks:=s.toks+1}):
  wpAny (model prog w) A (getAttr (.ref x) name expr) Q E s:=by
 obtain⟨od,J,hl⟩:=I.look;exact(PySem.W.get_value X J (PySem.W.plainGet_of hg).1 (PySem.W.findObj_own hh ha rfl (by rw[hl,hv])) hv' h)
theorem Wv{pl:Sem Bool}{Q:Value×List Value->Shared->Prop}(X:K.In s.heap)(I:ObjM s.heap x dx C mA)(hg:PySem.W.plainGet K C name=true)
  (hf:findIn K (.ref C) name=some (some (.ref f))) (ht:isFn K (.ref f)=true) (hv:mA name=none) (h:Q (.ref f,[.ref x]) s):
  wpAny (model prog w) A (getMethod (.ref x) name pl) Q E s:=by
 obtain⟨od,J,hl⟩:=I.look;exact PySem.W.method_fn X J (PySem.W.plainGet_of hg).1 (PySem.W.plainGet_of hg).2 hf (beq_iff_eq.mp ht) (by show(PySem.W.lookIn name od).map (·.isSome)=some false;rw[hl,hv];rfl) h
theorem Qb{ns:List Str}{Q:Unit->Shared->Prop}(X:K.In s.heap)(I:ObjM s.heap x dx C mA)
  (hs:findIn K (.ref C) "__setattr__"=some (some (.builtin "object.__setattr__"))) (hp:PySem.W.plainOver K C=true) (ht:PySem.W.takerIn K C name=some none) (hh:PySem.W.hasDictIn K C=true)
  (hw:PySem.Within mA ns) (hsz:ns.length<=sizeLine)
  (h:∀h',ObjM h' x dx C (fun y=>if y=name then some v else mA y)->Heap.SameBut dx s.heap h'->Q () {s with heap:=h',toks:=s.toks+2}):
  wpAny (model prog w) A (setAttr (.ref x) name v) Q E s:=by
 obtain⟨od,J,hl⟩:=I.look;refine(PySem.W.set_plain X J hs (PySem.W.osa_open (s:={s with toks:=s.toks+1}) (r:=none) X J hp ht fun b=>?_));obtain⟨cd,hc,hd'⟩:=PySem.W.any_some hh;have hx:s.heap.get? x=some ⟨.ref C,some dx,.plain,#[]⟩:=I.obj;refine(Xb (Xf (Xb (Xb (wpAny_loadPart hx (Xb (PySem.W.Looks.here (s:={s with toks:=s.toks+1}) (PySem.W.looks_clsIn X hc) ?_)))))));rw[hd'];refine Xf (a:=some dx) (Xb (Xf (Xb ?_)));refine wpAny_nsSet1 (s:={s with toks:=s.toks+1}) I.ns fun h' hn2 hs2=>?_;obtain⟨oD,esD,epD,hoD,hdD,hcD⟩:=hn2.count (PySem.Within.cons name v hw);refine Xb (wpAny_lookBehind hoD (by rw[hdD];exact pastItsLine_dict (Xy hcD (by rw[XI];omega))) ?_);exact Xf (h _ ⟨(hs2.2 _ (Ne.symm I.ne)).trans I.obj,hn2,I.ne⟩ hs2)
theorem Oo{R:Result->Shared->Prop}{vs:List Value}{kw:List (Str×Value)}(X:K.In s.heap)(hm:PySem.W.makesIn K C=true)
  (hi:findIn K (.ref C) "__init__"=some (some (.ref f))) (hf:PySem.W.typeIn K (.ref f)=some (.type "function"))
  (h:codeAny (model prog w) (A.under (.builtin "type.__call__" ⟨.ref C::vs,kw⟩)) (.call (.ref f) ⟨.ref (s.heap.objs.size+1)::vs,kw⟩) (PySem.W.InitBack (s.heap.objs.size+1) R)
   {s with heap:=(s.heap.push PySem.W.emptyDict).push (PySem.W.instObj C s.heap.objs.size)}):
  codeAny (model prog w) A (.call (.ref C) ⟨vs,kw⟩) R s:=by
 obtain⟨hh,g,d,t,os⟩:=s;exact(PySem.W.make_core (PySem.W.makes_of X hm) (PySem.W.looks_findIn X hi) (fun self=>PySem.W.bind_fn X self hf) (.inl rfl) h)
end
def sG(f:Str)(v:V):List (Str×V)->List (Str×V)
 | []=>[(f,v)]
 |(g,x)::r=>if g=f then(g,v)::r else(g,x)::sG f v r
theorem Ii(f g:Str)(v:V):∀fs:List (Str×V),(sG f v fs).lookup g=if g=f then some v else fs.lookup g
 | []=>by
  show List.lookup g [(f,v)]=_;by_cases h:g=f
  ·have hb:(g==f)=true:=beq_iff_eq.mpr h;simp only[List.lookup,hb,if_pos h]
  ·have hb:(g==f)=false:=beq_eq_false_iff_ne.mpr h;simp only[List.lookup,hb,if_neg h]
 |(k,x)::r=>by
  have ih:=Ii f g v r;rw[show sG f v ((k,x)::r)=(if k=f then(k,v)::r else(k,x)::sG f v r) from rfl];by_cases hk:k=f
  ·rw[if_pos hk];by_cases h:g=k
   ·have hb:(g==k)=true:=beq_iff_eq.mpr h;simp only[List.lookup,hb,if_pos (h.trans hk)]
   ·have hb:(g==k)=false:=beq_eq_false_iff_ne.mpr h;simp only[List.lookup,hb,if_neg (fun e:g=f=>h (e.trans hk.symm))]
  ·rw[if_neg hk];by_cases h:g=k
   ·have hb:(g==k)=true:=beq_iff_eq.mpr h;simp only[List.lookup,hb,if_neg (fun e:g=f=>hk (h.symm.trans e))]
   ·have hb:(g==k)=false:=beq_eq_false_iff_ne.mpr h;simp only[List.lookup,hb];exact ih
theorem CY(f:Str)(v:V):∀fs:List (Str×V),f∈(sG f v fs).map (·.1)/\∀g,g∈fs.map (·.1)->g∈(sG f v fs).map (·.1)
 | []=>⟨by simp[sG],fun g h=>by simp at h⟩
 |(k,x)::r=>by
  obtain⟨i1,i2⟩:=CY f v r;rw[show sG f v ((k,x)::r)=(if k=f then(k,v)::r else(k,x)::sG f v r) from rfl];by_cases hk:k=f
  ·rw[if_pos hk];subst hk;exact⟨by simp,fun g h=>by simpa using h⟩
  ·rw[if_neg hk];refine⟨?_,fun g h=>?_⟩
   ·rw[Xn];exact XF _ i1
   ·rw[Xn] at h⊢;rcases XB.mp h with e|e
    ·exact XB.mpr (.inl e)
    ·exact XF _ (i2 g e)
theorem HC(f:Str)(v:V):∀fs:List (Str×V),(sG f v fs).length<=fs.length+1
 | []=>by simp[sG]
 |(k,x)::r=>by
  have ih:=HC f v r;rw[show sG f v ((k,x)::r)=(if k=f then(k,v)::r else(k,x)::sG f v r) from rfl];by_cases hk:k=f
  ·rw[if_pos hk,XI,XI];omega
  ·rw[if_neg hk,XI,XI];omega
def RelO.some_of{v:V}{o:Option Value}(r:RelO (some v) o):∃u,o=some u/\RelV v u:=by
 cases o with
 |none=>exact(show False from r).elim
 |some u=>exact⟨u,rfl,r⟩
def RelO.none_of{o:Option Value}(r:RelO none o):o=none:=by
 cases o with
 |none=>rfl
 |some u=>exact(show False from r).elim
def Ry{v:V}{u:Value}(r:RelV v u):PySem.W.handedIn u=true:=by
 cases v with
 |non=>cases (show u=Value.none from r);rfl
 |bl b=>cases (show u=Value.bool b from r);rfl
 |int i=>obtain⟨t,e⟩:=(show ∃t,u=Value.int i t from r);cases e;rfl
 |str x=>obtain⟨t,e⟩:=(show ∃t,u=Value.str x t from r);cases e;rfl
 |byt b=>obtain⟨t,e⟩:=(show ∃t,u=Value.bytes b t from r);cases e;rfl
 |flt b=>obtain⟨t,e⟩:=(show ∃t,u=Value.float b t from r);cases e;rfl
 |ref a=>cases (show u=Value.ref a from r);rfl
 |ty n=>cases (show u=Value.type n from r);rfl
section
variable {P:Program} {w:World} {H:Hp} {h:Heap} {a C dx:Addr} {fs:List (Str×V)}
theorem B0(hok:HOk P w H h)(e:H a=some (.ins C dx fs)):∃mA,ObjM h a dx C mA/\(∀f,RelO (fs.lookup f) (mA f))/\PySem.Within mA (fs.map (·.1))/\fs.length<=1000/\H dx=some (.own a):=by
 obtain⟨d,z,ne,ob,mA,n,r,q⟩:=(show ObjOk P w H h a (.ins C dx fs) from hok a _ e)
 exact(⟨mA,⟨ob,n,ne⟩,r,q,z,d⟩)
end
structure Cls (K:Frag) (C:Addr):Prop where
 pg:PySem.W.plainGet K C Str.empty=true
 hd:PySem.W.hasDictIn K C=true
 po:PySem.W.plainOver K C=true
 sa:findIn K (.ref C) "__setattr__"=some (some (.builtin "object.__setattr__"))
def Cls.get{K:Frag}{C:Addr}(c:Cls K C)(f:Str):PySem.W.plainGet K C f=true:=c.pg
def NoAttr(K:Frag)(C:Addr)(f:Str):Prop:=findIn K (.ref C) f=some none
def NoAttr.taker{K:Frag}{C:Addr}{f:Str}(n:NoAttr K C f):PySem.W.takerIn K C f=some none:=by
 unfold PySem.W.takerIn;rw[show findIn K (.ref C) f=some none from n];rfl
structure Meth (K:Frag) (C:Addr) (m:Str) (f:Addr):Prop where
 at_:findIn K (.ref C) m=some (some (.ref f))
 fn:isFn K (.ref f)=true
 kp:keepIn K (.ref f)=true
section
variable {X:Cx} {pins:QS} {B:St} {H:Hp} {s:Shared} {a C dx:Addr} {fs:List (Str×V)} {f:Str} {v:V} {A:Around} {E:OK}
theorem zki{b:Bool}{Q:OK}(I:Inv X pins B H s)(e:H a=some (.ins C dx fs))(c:Cls X.K C)(n:NoAttr X.K C f)(l:fs.lookup f=some v)
  (h:∀u s',Inv X pins B H s'->RelV v u->Q u s'):wpAny (model X.prog X.w) A (getAttr (.ref a) f b) Q E s:=by
 obtain⟨mA,Z8,r,_,_,_⟩:=B0 I.hok e;obtain⟨u,hu,ru⟩:=RelO.some_of (v:=v) (o:=mA f) (by rw[←l];exact r f);exact(T0 I.kIn Z8 (c.get f) c.hd n hu (Ry ru) (h u _ (I.tok _) ru))
theorem LP{m:Str}{g:Addr}{pl:Sem Bool}{Q:Value×List Value->Shared->Prop}(I:Inv X pins B H s)(e:H a=some (.ins C dx fs))(c:Cls X.K C)(k:Meth X.K C m g)(l:fs.lookup m=none)
  (h:Q (.ref g,[.ref a]) s):wpAny (model X.prog X.w) A (getMethod (.ref a) m pl) Q E s:=by
 obtain⟨mA,Z8,r,_,_,_⟩:=B0 I.hok e;have hn:mA m=none:=RelO.none_of (by rw[←l];exact r m);exact(Wv I.kIn Z8 (c.get m) k.at_ k.fn hn h)
theorem Qc{y:V}{u:Value}{Q:Unit->Shared->Prop}(I:Inv X pins B H s)(e:H a=some (.ins C dx fs))(c:Cls X.K C)(n:NoAttr X.K C f)(hl:fs.length<1000)(ry:RelV y u)
  (h:∀s',Inv X pins B (upd H a (.ins C dx (sG f y fs))) s'->Q () s'):wpAny (model X.prog X.w) A (setAttr (.ref a) f u) Q E s:=by
 obtain⟨mA,Z8,r,wi,_,ho⟩:=B0 I.hok e;have hz:(fs.map (·.1)).length<=sizeLine:=by rw[Xj,YB];omega
 refine(Qb I.kIn Z8 c.sa c.po n.taker c.hd wi hz fun h' O' sb=>h _ ?_);have hd:∃o,h'.get? dx=some o:=let ⟨o,_,_,e',_⟩:=O'.ns;⟨o,e'⟩
 refine I.write (x:=a) (e:=dx) (by rw[e];exact True.intro) (.inr ho) (fun b q hb z=>(sb.2 b hb).trans z) hd ?_;refine⟨by rw[qZ Z8.ne];exact ho,?_,Z8.ne,O'.obj,_,O'.ns,fun g=>?_,fun g hg=>?_⟩
 ·have:=HC f y fs;omega
 ·show RelO ((sG f y fs).lookup g) (if g=f then some u else mA g);rw[Ii];by_cases q:g=f
  ·rw[if_pos q,if_pos q];exact ry
  ·rw[if_neg q,if_neg q];exact r g
 ·by_cases q:g=f
  ·rw[q];exact(CY f y fs).1
  ·refine(CY f y fs).2 g (wi g fun z=>hg ?_);show(if g=f then some u else mA g)=none;rw[if_neg q];exact z
theorem Inv.made(I:Inv X pins B H s):Inv X pins B (upd (upd H s.heap.objs.size (.own (s.heap.objs.size+1))) (s.heap.objs.size+1) (.ins C s.heap.objs.size []))
  {s with heap:=(s.heap.push PySem.W.emptyDict).push (PySem.W.instObj C s.heap.objs.size)}:=by
 have e1:(s.heap.push PySem.W.emptyDict).get? s.heap.objs.size=some PySem.W.emptyDict:=Xl s.heap rfl;have e2:((s.heap.push PySem.W.emptyDict).push (PySem.W.instObj C s.heap.objs.size)).get? (s.heap.objs.size+1)=some (PySem.W.instObj C s.heap.objs.size):=by
  have:=Xl (s.heap.push PySem.W.emptyDict) (o:=PySem.W.instObj C s.heap.objs.size) rfl;rwa[X7] at this
 have e3:(s.heap.push PySem.W.emptyDict).Ns s.heap.objs.size (fun _=>none):=⟨PySem.W.emptyDict,#[],_,e1,rfl,(fun e he=>absurd he (by simp)),fun _=>rfl⟩
 have I1:=I.laid (a:=s.heap.objs.size) (o:=.own (s.heap.objs.size+1)) (h':=s.heap.push PySem.W.emptyDict) (t':=s.toks) (fun b u q=>Xd _ q) (Xc _) ⟨_,e1⟩;refine I1.laid (a:=s.heap.objs.size+1) (o:=.ins C s.heap.objs.size []) (t':=s.toks) (fun b u q=>Xd _ q) (Nat.le_of_eq (X7 _ _)) ?_;have ne:s.heap.objs.size≠s.heap.objs.size+1:=Xr (Nat.lt_succ_self _);refine⟨by rw[qZ ne,sf],X2 _,ne,e2,fun _=>none,(Heap.Ns1.of_empty e3).at fun o q=>Xd _ q,fun _=>True.intro,fun y hy=>absurd rfl hy⟩
theorem Py{prog:Program}{w:World}{env:Env}{e:Expr}{f:Str}{pos:Pos}{s:Shared}{Q:OK}(hb:attributeBase e f env (eval e env)=eval e env)
  (h:wpAny (model prog w) A (eval e env) (fun o ZU=>wpAny (model prog w) A (getAttr o f true) Q E ZU) E s):wpAny (model prog w) A (eval (.Attribute e f pos) env) Q E s:=
 Attribute_any_ h (by rw[arm_eval_Attribute,hb])
end
def Vd(K:Frag)(ta:TE)(f:Str):TE:=fun B H Q=>ta B H fun x H1=>∃a C dx fs v,x=.ref a/\H1 a=some (.ins C dx fs)/\Cls K C/\NoAttr K C f/\fs.lookup f=some v/\Q v H1
def Pr(K:Frag)(ta tv:TE)(f:Str):TS:=fun D B H=>tv B H fun y H1=>ta B H1 fun x H2=>∃a C dx fs,x=.ref a/\H2 a=some (.ins C dx fs)/\Cls K C/\NoAttr K C f/\fs.length<1000/\
 D.nx B (upd H2 a (.ins C dx (sG f y fs)))
section
variable {X:Cx} {o e value:Expr} {f:Str} {pos pos':Pos} {ta tv:TE}
theorem Rf(he:PE X e ta)(hb:attributeBase e f X.env (eval e X.env)=eval e X.env):PE X (.Attribute e f pos) (Vd X.K ta f):=by
 intro pins s B H Q I h;refine Py hb (thn (he pins s B H _ I h) fun u s1 hm=>?_);obtain⟨x,H1,I1,rx,a,C,dx,fs,v,ex,ea,c,n,l,q⟩:=hm;subst ex;obtain rfl:u=Value.ref a:=rx;exact zki I1 ea c n l fun u' s2 I2 ru=>⟨v,H1,I2,ru,q⟩
theorem V3(ha:PE X o ta)(hv:PE X value tv)(hs:swapsWith value (some (.Attribute o f pos')) pos.line X.env=pure false):PS X (.Assign [.Attribute o f pos'] value pos) (Pr X.K ta tv f):=by
 intro pins s B H D I h;refine plainObj_wpAny_Assign_Attribute (thn (hv pins s B H _ I h) fun u s1 ⟨y,H1,I1,ry,q⟩=>thn (ha pins s1 B H1 _ I1 q) fun ov s2 hm=>?_) hs;obtain⟨x,H2,I2,rx,a,C,dx,fs,ex,ea,c,n,l,q2⟩:=hm;subst ex;obtain rfl:ov=Value.ref a:=rx;exact Qc I2 ea c n l ry fun s3 I3=>⟨B,_,I3,q2⟩
theorem methcall_of{pl:Sem Bool}{m:Str}{apos:Pos}{args:List Expr}{pins:QS}{s:Shared}{B:St}{H:Hp}{Q:OK}{te:TE}(he:PE X e te)(I:Inv X pins B H s)
  (h:te B H fun x H1=>∃a C dx fs g,x=.ref a/\H1 a=some (.ins C dx fs)/\Cls X.K C/\Meth X.K C m g/\fs.lookup m=none/\
   ∀s1,Inv X pins B H1 s1->wpAny (model X.prog X.w) X.A (callWith pos (.ref g) [.ref a] (backTo pos (starEach args X.env)) (backToKw pos (keywordEach [] X.env))) Q X.xe s1)
  (ht:eval (.Call (.Attribute e m apos) args [] pos) X.env=(do
   let ov ←eval e X.env
   standAt apos.atName
   let (f,first) ←holding [ov] (getMethod ov m pl)
   callWith pos f first (backTo pos (starEach args X.env)) (backToKw pos (keywordEach [] X.env)))):
  wpAny (model X.prog X.w) X.A (eval (.Call (.Attribute e m apos) args [] pos) X.env) Q X.xe s:=by
 refine PySem.W.methodCall_KW (pl:=pl) (thn (he pins s B H _ I h) fun u s1 hm=>?_) ht;obtain⟨x,H1,I1,rx,a,C,dx,fs,g,ex,ea,c,k,l,q⟩:=hm;subst ex;obtain rfl:u=Value.ref a:=rx;exact LP I1 ea c k l (q s1 I1)
end
structure Room (k:Nat) (A:Around):Prop where
 hd:A.handled=none
 dp:A.depth+3*k+5<recursionLimit
 un:A.units+16*k+200<cLine
 gd:A.guards=some []
def OL{A:Around}{C:Addr}{us:List Value}{kw:List (Str×Value)}:(A.under (.builtin "type.__call__" ⟨.ref C::us,kw⟩)).guards=A.guards:=by
 first|rfl|simp[Around.under,Code.isGuard,guardIds]
def Room.mono{j k:Nat}{A:Around}(r:Room k A)(h:j<=k):Room j A:=⟨r.hd,by have:=r.dp;omega,by have:=r.un;omega,r.gd⟩
def Room.deeper{k:Nat}{A:Around}(r:Room (k+1) A)(env:Env):Room k (A.deeper env):=
 ⟨r.hd,by have:=r.dp;show A.depth+1+3*k+5<_;omega,by have:=r.un;show A.units+3+16*k+200<_;omega,r.gd⟩
def TX{A:Around}{C:Addr}{us:List Value}{kw:List (Str×Value)}:(A.under (.builtin "type.__call__" ⟨.ref C::us,kw⟩)).depth=A.depth+1:=by
 first|rfl|simp[Around.under,Code.weight,Code.isCreation,Code.isGuard,Code.isCaller,Code.frames,Code.isFrame,guardIds]
def QI{A:Around}{C:Addr}{us:List Value}{kw:List (Str×Value)}:(A.under (.builtin "type.__call__" ⟨.ref C::us,kw⟩)).units=A.units+1:=by
 first|rfl|simp[Around.under,Code.cUnits,Code.frames,Code.isFrame]
def Room.make{k:Nat}{A:Around}(r:Room (k+1) A)(C:Addr)(us:List Value)(kw:List (Str×Value)):Room k (A.under (.builtin "type.__call__" ⟨.ref C::us,kw⟩)):=
 ⟨r.hd,by have:=r.dp;rw[TX];omega,by have:=r.un;rw[QI];omega,by rw[OL];exact r.gd⟩
def Room.depth{k:Nat}{A:Around}(r:Room k A):A.depth<recursionLimit:=by have:=r.dp;omega
def Room.units{k:Nat}{A:Around}(r:Room k A):A.units+64<cLine:=by have:=r.un;omega
def uE:TA:=fun _ H Q=>Q [] H
def tK(ta:TE)(tr:TA):TA:=fun B H Q=>ta B H fun x H1=>tr B H1 fun xs H2=>Q (x::xs) H2
section
variable {X:Cx} {e:Expr} {es:List Expr} {te:TE} {t:TA} {pos:Pos}
theorem so:PA X [] uE:=fun _ _ _ _ H Q I h=>Calls.spliced_nil ⟨[],H,I,.nil,h⟩
theorem rP(ha:PE X e te)(hr:PA X es t)(hs:starEach (e::es) X.env=(false,eval e X.env)::starEach es X.env:=by rfl):PA X (e::es) (tK te t):=by
 intro pos pins s B H Q I h;rw[hs];show wpAny _ _ (spliced ((false,eval e X.env)::backTo pos (starEach es X.env))) _ _ s;refine Calls.spliced_cons (thn (ha pins s B H _ I h) fun u s1 hm=>?_);obtain⟨x,H1,I1,r1,q1⟩:=hm;exact(thn (hr pos pins s1 B H1 _ I1 q1) fun us s2 ⟨xs,H2,I2,r2,q2⟩=>⟨x::xs,H2,I2,.cons r1 r2,q2⟩)
def y5m(t:TA):TE:=fun B H Q=>t B H fun xs H1=>xs.length<=sizeLine/\∀p,H1 p=none->Q (.ref p) (upd H1 p (.tup xs))
def VY(t:TA):TE:=fun B H Q=>t B H fun xs H1=>xs.length<=sizeLine/\∀p,H1 p=none->Q (.ref p) (upd H1 p (.lst xs))
theorem Fx{x1}(h:PA X es t):PE X (.Tuple es x1 pos) (y5m t):=by
 intro pins s B H Q I hq;refine wpAny_Tuple_spliced (thn (h pos pins s B H _ I hq) fun us s1 ⟨xs,H1,I1,r,z,q⟩=>⟨by rw[←r.length];exact z,?_⟩);have hf:H1 s1.heap.objs.size=none:=I1.hok.fresh (Xc _);refine⟨.ref s1.heap.objs.size,upd H1 s1.heap.objs.size (.tup xs),I1.laid (t':=s1.toks) (fun b u e=>Xd _ e) (Xc _) ?_,rfl,q _ hf⟩;exact⟨z,us,r,⟨_,Xl _ rfl,rfl,_,rfl⟩⟩
theorem Kq(h:PA X es t):PE X (.List es pos) (VY t):=by
 intro pins s B H Q I hq;refine wpAny_List_spliced (thn (h pos pins s B H _ I hq) fun us s1 ⟨xs,H1,I1,r,z,q⟩=>⟨by rw[←r.length];exact z,?_⟩);have hf:H1 s1.heap.objs.size=none:=I1.hok.fresh (Xc _);refine⟨.ref s1.heap.objs.size,upd H1 s1.heap.objs.size (.lst xs),I1.laid (t':=s1.toks) (fun b u e=>Xd _ e) (Xc _) ?_,rfl,q _ hf⟩;exact⟨z,us,0,r,Xl _ rfl⟩
end
abbrev Sp:=List V->Hp->VK->XK->Prop
abbrev CXT:=List Env->Hp->Shared->XK->Value->Shared->Prop
structure Env0 (P:Program) (w:World) (K:Frag) (mg:Str->Option Value) (base:Heap) (A:Around) (outer:List Env) (s:Shared) (H:Hp):Prop where
 frames:A.frames=some outer
 mod:Mod K mg base
 bs:∀b o,base.get? b=some o->s.heap.get? b=some o/\H b=none
 bsz:base.objs.size<=s.heap.objs.size
 funs:s.heap.FunFrames base outer
 frf:∀b∈frs outer,H b=none
 hok:HOk P w H s.heap
 bare:AllBare s.gens
def CE(outer:List Env)(P:Program)(w:World)(H:Hp)(s:Shared)(Q:VK)(u:Value)(s':Shared):Prop:=
 ∃v H',s'.os=s.os/\AllBare s'.gens/\Un (frs outer) [] H H' s.heap s'.heap/\HOk P w H' s'.heap/\RelV v u/\Q v H'
def CR(CX:CXT)(outer:List Env)(P:Program)(w:World)(H:Hp)(s:Shared)(Q:VK)(E:XK)(r:Result)(s':Shared):Prop:=
 match r with
 | .ok (.ret u)=>CE outer P w H s Q u s'
 | .ok _=>False
 | .error e=>CX outer H s E e s'
structure FnOk (P:Program) (w:World) (K:Frag) (mg:Str->Option Value) (base:Heap) (CX:CXT) (k:Nat) (f:Addr) (fd:FuncData) (ps:List Str) (sp:Sp):Prop where
 len:∀vs H Q E,sp vs H Q E->vs.length=ps.length
 run:∀(A:Around) (outer:List Env) (s:Shared) (H:Hp) (args:Args) (us:List Value) (vs:List V) (Q:VK) (E:XK),Room k A->Env0 P w K mg base A outer s H->BindsTo s fd args (ps.zip us)->Vals vs us->sp vs H Q E->
  codeAny (model P w) A (.call (.ref f) args) (CR CX outer P w H s Q E) s
theorem FnOk.imp{P:Program}{w:World}{K:Frag}{mg:Str->Option Value}{base:Heap}{CX:CXT}{k:Nat}{f:Addr}{fd:FuncData}{ps:List Str}{sp sp':Sp}(F:FnOk P w K mg base CX k f fd ps sp)
  (h:∀vs H Q E,sp' vs H Q E->sp vs H Q E):FnOk P w K mg base CX k f fd ps sp':=
 ⟨fun vs H Q E q=>F.len vs H Q E (h _ _ _ _ q),fun A outer s H args us vs Q E hr he hb hv hs=>F.run A outer s H args us vs Q E hr he hb hv (h _ _ _ _ hs)⟩
theorem Env0.make{P:Program}{w:World}{K:Frag}{mg:Str->Option Value}{base:Heap}{A:Around}{outer:List Env}{s:Shared}{H:Hp}(e:Env0 P w K mg base A outer s H)(C:Addr)(us:List Value)(kw:List (Str×Value)):
  Env0 P w K mg base (A.under (.builtin "type.__call__" ⟨.ref C::us,kw⟩)) outer s H:=⟨by first|exact e.frames|(simpa[Around.under,Code.envs,Code.isFrame,pushEnvs] using e.frames),e.mod,e.bs,e.bsz,e.funs,e.frf,e.hok,e.bare⟩
section
variable {X:Cx} {pins:QS} {B:St} {H:Hp} {s s':Shared}
theorem Inv.env0(I:Inv X pins B H s):Env0 X.prog X.w X.K X.mg X.base X.A X.stack s H:=
 ⟨I.ok.frames,I.ok.mod,I.bs,Xy I.ok.bsz I.sz,I.stack,I.stkFree,I.hok,I.bare⟩
theorem Inv.after{Q:VK}{u:Value}(I:Inv X pins B H s)(h:CE X.stack X.prog X.w H s Q u s'):EP X pins B Q u s':=by
 obtain⟨v,H',os,bare,un,hok,r,q⟩:=h;obtain⟨hh,g,d,t,os'⟩:=s';obtain rfl:os'=s.os:=os;exact⟨v,H',I.call (h':=hh) (g':=g) (d':=d) (t':=t) (ch:=[]) un hok bare (fun b z=>absurd z (by simp)),r,q⟩
end
def HU(sp:Sp)(dvs:List V)(E:XK)(t:TA):TE:=fun B H Q=>t B H fun vs H1=>sp (vs++dvs) H1 Q E
def Ll(C:Addr)(m:Str)(sp:Sp)(dvs:List V)(E:XK)(ta:TE)(t:TA):TE:=fun B H Q=>ta B H fun x H1=>∃a dx fs,x=.ref a/\H1 a=some (.ins C dx fs)/\fs.lookup m=none/\
 t B H1 fun vs H2=>sp (x::(vs++dvs)) H2 Q E
def Ma(C:Addr)(sp:Sp)(dvs:List V)(E:XK)(t:TA):TE:=fun B H Q=>t B H fun vs H1=>∀x dx,H1 x=none->H1 dx=none->dx≠x->
 sp (.ref x::(vs++dvs)) (upd (upd H1 dx (.own x)) x (.ins C dx [])) (fun v H2=>v=.non/\Q (.ref x) H2) E
def Binds(K:Frag)(fd:FuncData)(ps:List Str)(ds:List Value):Prop:=
 ∀(s:Shared) (us:List Value),K.In s.heap->(us++ds).length=ps.length->BindsTo s fd ⟨us,[]⟩ (ps.zip (us++ds))
def Binds.all{K:Frag}{fd:FuncData}{ps:List Str}(h:∀us:List Value,us.length=ps.length->bindArgs fd ⟨us,[]⟩=pure (ps.zip us)):Binds K fd ps []:=fun s us _ hl=>by
 rw[XT] at hl⊢;exact .of_eq (h us hl)
def xy(CX:CXT)(X:Cx)(E:XK):Prop:=∀(pins:QS) (B:St) (H:Hp) (s:Shared) (e:Value) (s':Shared),Inv X pins B H s->CX X.stack H s E e s'->X.xe e s'
section
variable {X:Cx} {CX:CXT} {k:Nat} {f C:Addr} {fd:FuncData} {ps:List Str} {sp:Sp} {dvs:List V} {ds:List Value} {E:XK} {x m:Str} {p pos apos:Pos} {e o:Expr} {es:List Expr} {ta:TE} {t:TA}
theorem K0{pins:QS}{B:St}{H:Hp}{s:Shared}{Q:VK}{us:List Value}{vs:List V}(F:FnOk X.prog X.w X.K X.mg X.base CX k f fd ps sp)(hr:Room k X.A)(hb:Binds X.K fd ps ds)(hd:Vals dvs ds)(hx:xy CX X E)
  (I:Inv X pins B H s) (r:Vals vs us) (h:sp (vs++dvs) H Q E):wpAny (model X.prog X.w) X.A (call (.ref f) us) (EP X pins B Q) X.xe s:=by
 have r2:Vals (vs++dvs) (us++ds):=r.append hd;have hl:(us++ds).length=ps.length:=by rw[←r2.length];exact F.len _ _ _ _ h
 refine wpAny_call (codeAny_mono (F.run X.A X.stack s H ⟨us,[]⟩ (us++ds) (vs++dvs) Q E hr I.env0 (hb s us I.kIn hl) r2 h) fun r s' hq=>?_);cases r with
 |error e=>exact hx pins B H s e s' I hq
 |ok fl=>
  cases fl with
  |ret u=>exact I.after hq
  |next=>exact False.elim hq
  |brk=>exact False.elim hq
  |cont=>exact False.elim hq
theorem V7(F:FnOk X.prog X.w X.K X.mg X.base CX k f fd ps sp)(hr:Room k X.A)(hg:Gl X x)(hm:X.mg x=some (.ref f))(hk:keepIn X.K (.ref f)=true)(hb:Binds X.K fd ps ds)(hd:Vals dvs ds)(hx:xy CX X E)
  (ha:PA X (e::es) t) (hdb:(x==("__debug__":Str))=false:=by decide) (he:starEach (e::es) X.env=(false,eval e X.env)::starEach es X.env:=by rfl) (hpl:(backTo pos (starEach es X.env)).any (·.1)=false:=by rfl):
  PE X (.Call (.Name x p) (e::es) [] pos) (HU sp dvs E t):=by
 intro pins s B H Q I h;refine Yv (yS I hg hm ?_ hdb);refine PySem.W.callWith_K (h₀:=X.base) I.ok.mod.kin hk (thn (ha pos pins s B H _ I h) fun us s1 ⟨vs,H1,I1,r,q⟩=>⟨I1.kIn,?_⟩) he hpl;exact K0 F hr hb hd hx I1 r q
theorem Ph{pl:Sem Bool}(he:PE X o ta)(c:Cls X.K C)(hm:Meth X.K C m f)(F:FnOk X.prog X.w X.K X.mg X.base CX k f fd ps sp)(hr:Room k X.A)(hb:Binds X.K fd ps ds)(hd:Vals dvs ds)(hx:xy CX X E)(ha:PA X (e::es) t)
  (hst:starEach (e::es) X.env=(false,eval e X.env)::starEach es X.env:=by rfl) (hpl:(backTo pos (starEach es X.env)).any (·.1)=false:=by rfl)
  (ht:eval (.Call (.Attribute o m apos) (e::es) [] pos) X.env=(do
   let ov ←eval o X.env
   standAt apos.atName
   let (f,first) ←holding [ov] (getMethod ov m pl)
   callWith pos f first (backTo pos (starEach (e::es) X.env)) (backToKw pos (keywordEach [] X.env))):=by rfl):
  PE X (.Call (.Attribute o m apos) (e::es) [] pos) (Ll C m sp dvs E ta t):=by
 intro pins s B H Q I h;refine PySem.W.methodCall_KW (pl:=pl) (thn (he pins s B H _ I h) fun u s1 hm=>?_) ht;obtain⟨x,H1,I1,rx,a,dx,fs,ex,ea,l,q⟩:=hm;subst ex;obtain rfl:u=Value.ref a:=rx;refine LP I1 ea c hm l ?_;refine PySem.W.callWith_K (first:=[.ref a]) (h₀:=X.base) I.ok.mod.kin hm.kp (thn (ha pos pins s1 B H1 _ I1 q) fun us s2 ⟨vs,H2,I2,r,q2⟩=>⟨I2.kIn,?_⟩) hst hpl;exact K0 (us:=.ref a::us) (vs:=.ref a::vs) F hr hb hd hx I2 (.cons rfl r) q2
structure Mk (K:Frag) (C f:Addr):Prop where
 makes:PySem.W.makesIn K C=true
 init:findIn K (.ref C) "__init__"=some (some (.ref f))
 fn:isFn K (.ref f)=true
 kp:keepIn K (.ref C)=true
theorem Te{pins:QS}{B:St}{H:Hp}{s:Shared}{Q:VK}{us:List Value}{vs:List V}(M:Mk X.K C f)(F:FnOk X.prog X.w X.K X.mg X.base CX k f fd ps sp)(hr:Room (k+1) X.A)(hb:Binds X.K fd ps ds)(hd:Vals dvs ds)
  (hx:xy CX X E) (I:Inv X pins B H s) (r:Vals vs us)
  (h:∀x dx,H x=none->H dx=none->dx≠x->sp (.ref x::(vs++dvs)) (upd (upd H dx (.own x)) x (.ins C dx [])) (fun v H2=>v=.non/\Q (.ref x) H2) E):
  wpAny (model X.prog X.w) X.A (call (.ref C) us) (EP X pins B Q) X.xe s:=by
 have hq:=h (s.heap.objs.size+1) s.heap.objs.size (I.hok.fresh (Nat.le_succ _)) (I.hok.fresh (Xc _)) (Xr (Nat.lt_succ_self _));have I2:=Inv.made (C:=C) I;have r2:Vals (V.ref (s.heap.objs.size+1)::(vs++dvs)) (Value.ref (s.heap.objs.size+1)::(us++ds)):=.cons rfl (r.append hd);have hl:(Value.ref (s.heap.objs.size+1)::us++ds).length=ps.length:=by
  have e:=r2.length;rw[F.len _ _ _ _ hq] at e;exact e.symm
 refine wpAny_call (Oo (f:=f) I.kIn M.makes M.init (beq_iff_eq.mp M.fn) (codeAny_mono (F.run _ X.stack _ _ ⟨Value.ref (s.heap.objs.size+1)::us,[]⟩ (Value.ref (s.heap.objs.size+1)::(us++ds)) _ _ E (hr.make C us [])
  (I2.env0.make C us []) (hb _ (Value.ref (s.heap.objs.size+1)::us) I2.kIn hl) r2 hq) fun r s' hq'=>?_))
 cases r with
 |error e=>exact hx pins B _ _ e s' I2 hq'
 |ok fl=>
  cases fl with
  |ret u=>
   obtain⟨v,H',I3,rv,ev,q3⟩:=I2.after hq';subst ev;exact⟨rv,⟨V.ref (s.heap.objs.size+1),H',I3,rfl,q3⟩⟩
  |next=>exact False.elim hq'
  |brk=>exact False.elim hq'
  |cont=>exact False.elim hq'
theorem Oj(M:Mk X.K C f)(F:FnOk X.prog X.w X.K X.mg X.base CX k f fd ps sp)(hr:Room (k+1) X.A)(hg:Gl X x)(hm:X.mg x=some (.ref C))(hb:Binds X.K fd ps ds)(hd:Vals dvs ds)(hx:xy CX X E)
  (ha:PA X (e::es) t) (hdb:(x==("__debug__":Str))=false:=by decide) (he:starEach (e::es) X.env=(false,eval e X.env)::starEach es X.env:=by rfl) (hpl:(backTo pos (starEach es X.env)).any (·.1)=false:=by rfl):
  PE X (.Call (.Name x p) (e::es) [] pos) (Ma C sp dvs E t):=by
 intro pins s B H Q I h;refine Yv (yS I hg hm ?_ hdb);refine PySem.W.callWith_K (h₀:=X.base) I.ok.mod.kin M.kp (thn (ha pos pins s B H _ I h) fun us s1 ⟨vs,H1,I1,r,q⟩=>⟨I1.kIn,?_⟩) he hpl;exact Te M F hr hb hd hx I1 r q
end
structure FnScope (N P:List Str) (sc:Scope):Prop where
 kind:sc.kind=.function
 co:sc.isCoroutine=false
 gen:sc.isGenerator=false
 nd:N.Nodup
 pre:N.take P.length=P
 par:∀x∈P,sc.names.lookup x=some .local\/sc.names.lookup x=some .cell
 nofree:∀y∈sc.names,y.2≠.free
theorem Jy{kindOf:Str->Option NameKind}{x:Str}:∀{binds:List (Str×Value)} {m:Str->Option Value},(∀v,(x,v)∉binds)->bindL kindOf binds m x=m x
 | [],_,_=>rfl
 |(n,v)::r,m,h=>by
  unfold bindL;rw[Jy fun w hw=>h w (XF _ hw)];split
  ·have:x≠n:=by rintro rfl;exact h v Yu
   simp[this]
  ·rfl
theorem MG{kindOf:Str->Option NameKind}{x:Str}:∀{binds:List (Str×Value)} {m:Str->Option Value},(∀v,(x,v)∉binds)->bindC kindOf binds m x=m x
 | [],_,_=>rfl
 |(n,v)::r,m,h=>by
  unfold bindC;rw[MG fun w hw=>h w (XF _ hw)];split
  ·rfl
  ·have:x≠n:=by rintro rfl;exact h v Yu
   simp[this]
theorem Ki{kindOf:Str->Option NameKind}{x:Str}{v:Value}:∀{P:List Str} {vs:List Value} {i:Nat} {m:Str->Option Value},P.Nodup->P[i]?=some x->vs[i]?=some v->kindOf x=some .local->
  bindL kindOf (P.zip vs) m x=some v
 | [],_,_,_,_,h,_,_=>by simp at h
 |_::_,[],_,_,_,_,h,_=>by simp at h
 |p::P,w::vs,0,m,nd,h1,h2,hk=>by
  simp at h1 h2;subst h1;subst h2;show bindL kindOf ((p,w)::P.zip vs) m p=_;unfold bindL;rw[Jy fun v hv=>(List.nodup_cons.mp nd).1 (List.of_mem_zip hv).1,if_pos hk];simp
 |p::P,w::vs,i+1,m,nd,h1,h2,hk=>by
  show bindL kindOf ((p,w)::P.zip vs) m x=_;unfold bindL;exact Ki (i:=i) (List.nodup_cons.mp nd).2 (by simpa using h1) (by simpa using h2) hk
theorem MJ{kindOf:Str->Option NameKind}{x:Str}{v:Value}:∀{P:List Str} {vs:List Value} {i:Nat} {m:Str->Option Value},P.Nodup->P[i]?=some x->vs[i]?=some v->kindOf x≠some .local->
  bindC kindOf (P.zip vs) m x=some v
 | [],_,_,_,_,h,_,_=>by simp at h
 |_::_,[],_,_,_,_,h,_=>by simp at h
 |p::P,w::vs,0,m,nd,h1,h2,hk=>by
  simp at h1 h2;subst h1;subst h2;show bindC kindOf ((p,w)::P.zip vs) m p=_;unfold bindC;rw[MG fun v hv=>(List.nodup_cons.mp nd).1 (List.of_mem_zip hv).1,if_neg hk];simp
 |p::P,w::vs,i+1,m,nd,h1,h2,hk=>by
  show bindC kindOf ((p,w)::P.zip vs) m x=_;unfold bindC;exact MJ (i:=i) (List.nodup_cons.mp nd).2 (by simpa using h1) (by simpa using h2) hk
def vm(N:List Str)(vs:List V):St:=vs.map some++List.replicate (N.length - vs.length) none
def rA(CX:CXT)(P:Program)(w:World)(K:Frag)(mg:Str->Option Value)(base:Heap)(N:List Str)(qual:Str)(scope:Scope)(f:Addr)(cd:Value)(A:Around)(outer:List Env)(s:Shared)(H:Hp)(E:XK):Cx where
 prog:=P
 w:=w
 K:=K
 mg:=mg
 base:=base
 A:=A.deeper (envOfC qual scope s.heap.objs.size f cd)
 N:=N
 Z4:=s
 Z2:=H
 env:=envOfC qual scope s.heap.objs.size f cd
 outer:=outer
 stack:=envOfC qual scope s.heap.objs.size f cd::outer
 ex:=[]
 calm:=true
 fn:=fun _=>true
 pn:=[]
 xe:=fun e s'=>wpAny (model P w) (A.deeper (envOfC qual scope s.heap.objs.size f cd)) (leaving (envOfC qual scope s.heap.objs.size f cd) e) (fun _ s''=>CX outer H s E e s'') (fun e' s''=>CX outer H s E e' s'') s'
def GM{sc:Scope}{n:Nat}{x:Str}(h:sc.names.lookup x=some .cell):∃c,(cellsFrom n sc.names []).lookup x=some c:=by
 have q:=PySem.W.cellsFrom_some sc.names n [] (.inl h);exact X1.mp q
theorem Vm{CX:CXT}{P:Program}{w:World}{K:Frag}{mg:Str->Option Value}{base:Heap}{N ps:List Str}{qual:Str}{scope:Scope}{f:Addr}{cd:Value}{A:Around}{outer:List Env}{s s1:Shared}{H:Hp}{E:XK}{us:List Value}{vs:List V}
  (S:FnScope N ps scope) (hd:A.handled=none) (e0:Env0 P w K mg base A outer s H) (hl:vs.length=ps.length) (r:Vals vs us)
  (x:InCallC s s.heap.objs.size (bindL (envOfC qual scope s.heap.objs.size f cd).kindOf (ps.zip us) fun _=>none) (cellsFrom (s.heap.objs.size+1) scope.names []) (bindC (envOfC qual scope s.heap.objs.size f cd).kindOf (ps.zip us) fun _=>none) s1):
  Inv (rA CX P w K mg base N qual scope f cd A outer s H E) [] (vm N vs) H s1:=by
 have hpl:ps.length<=N.length:=by have:=congrArg List.length S.pre;rw[List.length_take] at this;omega
 obtain⟨h1,tk,rfl,hk⟩:=x.done;have noA:∀b:Addr,b∉(rA CX P w K mg base N qual scope f cd A outer s H E).ex:=fun b z=>absurd (show b∈([]:List Addr) from z) (by simp);refine⟨⟨e0.mod,S.kind,rfl,rfl,Xc _,fun y z c h1 h2=>?_,fun y hy=>?_,fun y c _ h=>?_,fun _=>hd,Around.frames_deeper e0.frames,.inr ⟨rfl,rfl⟩,fun b z=>absurd z (noA b),e0.bs,e0.bsz,fun b _ _=>noA b,fun b z=>absurd z (noA b),e0.funs,e0.frf⟩,
  rfl,e0.bare,Un.kept hk,⟨_,x.toInCall.ns,fun i y v h1 h2 h3=>?_⟩,fun y c h=>⟨_,x.cell y c h⟩,e0.hok.fresh (Xc _),fun y c h=>?_,fun p hp=>absurd (show p∈([]:QS) from hp) (by simp),e0.hok.kept hk,?_⟩
 ·exact name_of_addr x.apart (XQ h1) (XQ h2)
 ·have hy:scope.names.lookup y=some .cell\/scope.names.lookup y=some .free:=hy;rcases hy with hy|hy
  ·exact GM hy
  ·exact absurd rfl (S.nofree _ (XQ hy))
 ·exact Nat.le_of_lt (x.above y c (XQ h))
 ·have hi:i<vs.length:=by
   unfold vm at h2;by_cases hi:i<vs.length
   ·exact hi
   ·rw[XH (by simpa using hi)] at h2;rw[List.getElem?_replicate] at h2;split at h2<;>cases h2
  have ha:vs[i]?=some v:=by
   unfold vm at h2;rw[Xq (by simpa using hi),Xw] at h2;cases e:vs[i]? with
   |none=>rw[e] at h2;cases h2
   |some a=>rw[e] at h2;cases h2;rfl
  obtain⟨u,hu,rv⟩:=r.get ha;have hp:ps[i]?=some y:=by
   rw[←S.pre,List.getElem?_take_of_lt (by omega)];exact h1
  have ndP:ps.Nodup:=by rw[←S.pre];exact S.nd.sublist (List.take_sublist _ _)
  refine⟨u,rv,?_⟩;rcases S.par y (List.mem_of_getElem? hp) with k|k
  ·exact .inl ⟨k,Ki ndP hp hu k⟩
  ·obtain⟨c,e⟩:=GM (n:=s.heap.objs.size+1) k;refine .inr ⟨.inl k,c,e,?_⟩;have q:=x.cell y c e;rw[MJ ndP hp hu (by show scope.names.lookup y≠_;rw[k];decide)] at q;exact q
 ·exact e0.hok.fresh (Nat.le_of_lt (x.above y c (XQ h)))
 ·unfold vm;show _=N.length;rw[XN,Xj,List.length_replicate];omega
theorem LL{CX:CXT}{P:Program}{w:World}{K:Frag}{mg:Str->Option Value}{base:Heap}{k:Nat}{f:Addr}{name qual:Str}{params:Arguments}{body:List Stmt}{scope:Scope}{dV kV doc pm cdv ct oc:Value}{an od:Option Addr}
  {osl:Array (Option Value)} {N ps:List Str} {sp:Sp} (lk:K.lookup f=some ⟨oc,od,.func (fnOf name qual params body scope dV kV doc pm an cdv ct),osl⟩) (hcd:codeIn K cdv qual=true) (S:FnScope N ps scope)
  (len:∀vs H Q E,sp vs H Q E->vs.length=ps.length)
  (hbody:∀(A:Around) (outer:List Env) (s:Shared) (H:Hp) (vs:List V) (Q:VK) (E:XK),Room k (A.deeper (envOfC qual scope s.heap.objs.size f cdv))->sp vs H Q E->
   ∃t,PSs (rA CX P w K mg base N qual scope f cdv A outer s H E) body t/\t {nx:=fun _ H'=>Q .non H',rt:=Q} (vm N vs) H):
  FnOk P w K mg base CX (k+1) f (fnOf name qual params body scope dV kV doc pm an cdv ct) ps sp:=by
 refine⟨len,fun A outer s H args us vs Q E hr e0 hb r hsp=>?_⟩;have hl:=len _ _ _ _ hsp;have KX:K.In s.heap:=e0.mod.kin.keeps fun b o e=>(e0.bs b o e).1;have lim:s.heap.NoLimit:=e0.mod.nolimit.keeps fun b o e=>(e0.bs b o e).1;have hkind:∀y∈ps.zip us,scope.names.lookup y.1=some .local\/(scope.names.lookup y.1=some .cell/\((cellsFrom (s.heap.objs.size+1) scope.names []).lookup y.1).isSome=true):=fun⟨n,v⟩ hy=>by
  rcases S.par n (List.of_mem_zip hy).1 with q|q
  ·exact .inl q
  ·exact .inr ⟨q,PySem.W.cellsFrom_some _ _ _ (.inl q)⟩
 refine codeAny_call_function hr.depth (KX _ _ lk) rfl S.co S.gen rfl (PySem.W.codeRec_of KX hcd) (hb _ _ _ _ ?_);refine wpAny_newFunctionEnv_cells S.kind hkind fun env he s1 x=>?_;subst he;refine⟨lim.keeps x.toInCall.keep,codeAny_func ?_⟩;obtain⟨t,ht,hq⟩:=hbody A outer s H vs Q E (hr.deeper _) hsp;have I:Inv (rA CX P w K mg base N qual scope f cdv A outer s H E) [] (vm N vs) H s1:=Vm S hr.hd e0 hl r x;refine(Xg (ht [] s1 (vm N vs) H _ I hq) (fun fl s' hs=>?_) fun e s' hs=>hs);have fin:∀{Z0:St} {H':Hp} {v:V} {u:Value},Inv (rA CX P w K mg base N qual scope f cdv A outer s H E) [] Z0 H' s'->RelV v u->Q v H'->CE outer P w H s Q u s':=
  fun{Z0 H' v u} J rv q=>⟨v,H',J.os,J.bare,J.base,J.hok,rv,q⟩
 cases fl with
 |ret u=>
  obtain⟨v,Z0,H',J,rv,q⟩:=hs;exact fin J rv q
 |next=>
  obtain⟨Z0,H',J,q⟩:=hs;exact fin (v:=V.non) (u:=Value.none) J rfl q
 |brk=>
  obtain⟨_,_,_,q⟩:=hs;exact False.elim q
 |cont=>
  obtain⟨_,_,_,q⟩:=hs;exact(False.elim q)
section
variable {X:Cx} {x:Str} {p pos:Pos} {e:Expr} {es:List Expr} {t:TA} {id T:String} {r:List V->Hp->VK->Prop}
def tCB(r:List V->Hp->VK->Prop)(t:TA):TE:=fun B H Q=>t B H fun vs H1=>r vs H1 Q
theorem wR(hc:tL X (.builtin id) r)(hg:Gl X x)(hm:X.mg x=none)(hv:bootBuiltins x=some (.builtin id))(ha:PA X (e::es) t)(hn:x≠"__name__":=by decide) (hdb:(x==("__debug__":Str))=false:=by decide)
  (he:starEach (e::es) X.env=(false,eval e X.env)::starEach es X.env:=by rfl) (hpl:(backTo pos (starEach es X.env)).any (·.1)=false:=by rfl):PE X (.Call (.Name x p) (e::es) [] pos) (tCB r t):=by
 intro pins s B H Q I h;refine Yv (vw I hg hm hv ?_ hn hdb);exact PyProof.Rows.callWith_builtin1 (thn (ha pos pins s B H _ I h) fun us s1 ⟨vs,H1,I1,r1,q1⟩=>hc pins s1 B H1 vs us Q I1 r1 q1) he hpl
theorem zq(hc:tL X (.type T) r)(hg:Gl X x)(hm:X.mg x=none)(hv:bootBuiltins x=some (.type T))(ha:PA X (e::es) t)(hn:x≠"__name__":=by decide) (hdb:(x==("__debug__":Str))=false:=by decide)
  (he:starEach (e::es) X.env=(false,eval e X.env)::starEach es X.env:=by rfl) (hpl:(backTo pos (starEach es X.env)).any (·.1)=false:=by rfl):PE X (.Call (.Name x p) (e::es) [] pos) (tCB r t):=by
 intro pins s B H Q I h;refine Yv (vw I hg hm hv ?_ hn hdb);exact X4 (thn (ha pos pins s B H _ I h) fun us s1 ⟨vs,H1,I1,r1,q1⟩=>hc pins s1 B H1 vs us Q I1 r1 q1) he hpl
end
end L2
namespace HT
open PySem PyProof.Rows
section
open PySem.SeqAt
open PySem.AutoSeq1 (wpAny_loadPart')
open PySem.MeetsSeq PySem.MeetsSeq2 PySem.MeetsSeq3
end
section
variable {prog:Program} {w:World} {A:Around} {E:OK} {s:Shared}
theorem cat_tup{t b:Addr}{vs ws:List Value}{Q:OK}(ht:IsTup s.heap t vs.toArray)(hb:IsTup s.heap b ws.toArray)(hv:vs≠[])
  (h1:ws=[]->Q (.ref t) s) (h2:ws≠[]->Q (.ref s.heap.objs.size) {s with heap:=s.heap.push {cls:=.type "tuple",data:=.seq (vs++ws).toArray}})
  (hsz:vs.length+ws.length<=sizeLine):wpAny (model prog w) A (binaryOp .Add (.ref t) (.ref b)) Q E s:=by
 obtain⟨⟨cls,dd,data,sl⟩,ho,hc,n,hd⟩:=id ht;obtain⟨⟨cls2,dd2,data2,sl2⟩,ho2,hc2,n2,hd2⟩:=id hb;simp only at hc hd hc2 hd2;subst hc hd hc2 hd2;have e:vs.toArray++ws.toArray=(vs++ws).toArray:=by simp
 by_cases hw:ws=[]
 ·exact concat_meets ⟨_,ho,rfl⟩ ⟨_,ho2,rfl⟩ noFill_tuple_add seq_tuple_add PySem.F.slot_tuple_add PySem.F.entry_tuple_add (PySem.F.args_tuple_add_2 _ _)
   (tuple_addW1 t b vs.toArray ws.toArray n n2 dd dd2 sl sl2 (by simpa using hv) (by simp[hw])) ⟨ho,ho2,h1 hw⟩
 ·refine concat_meets ⟨_,ho,rfl⟩ ⟨_,ho2,rfl⟩ noFill_tuple_add seq_tuple_add PySem.F.slot_tuple_add PySem.F.entry_tuple_add (PySem.F.args_tuple_add_2 _ _)
   (tuple_addW2 t b vs.toArray ws.toArray n n2 dd dd2 sl sl2 (by simpa using hv) (by simpa using hw) (by rw[Xm,Xm];exact hsz)) ⟨ho,ho2,?_⟩
  rw[e];exact h2 hw
def sIx(n d:Nat):Option Int->Nat
 |none=>d
 |some v=>if v<0 then(v+(n:Int)).toNat else min v.toNat n
theorem QJ(n d:Nat)(hd:d<=n)(o:Option Int):sIx n d o<=n:=by
 cases o with
 |none=>exact hd
 |some v=>
  show(if v<0 then(v+(n:Int)).toNat else min v.toNat n)<=n;by_cases hv:v<0
  ·rw[if_pos hv];omega
  ·rw[if_neg hv];exact Nat.min_le_right _ _
theorem JA(v:Int)(n d:Nat):(if v<0 then max (v+(n:Int)) 0 else min v (n:Int))=((sIx n d (some v):Nat):Int):=by
 show(if v<0 then max (v+(n:Int)) 0 else min v (n:Int))=(((if v<0 then(v+(n:Int)).toNat else min v.toNat n):Nat):Int)
 by_cases hv:v<0
 ·simp only[if_pos hv];omega
 ·simp only[if_neg hv];omega
theorem U0(lo hi:Option Int)(n:Nat):Builtin.Slice.sliceAdjust lo hi 1 (n:Int)=(((sIx n 0 lo:Nat):Int),((sIx n n hi:Nat):Int)):=by
 have h1:¬((1:Int)<0):=by omega
 unfold Builtin.Slice.sliceAdjust;simp only[h1,if_false];refine Prod.ext ?_ ?_
 ·cases lo with
  |none=>rfl
  |some v=>exact JA v n 0
 ·cases hi with
  |none=>rfl
  |some v=>exact JA v n n
theorem U9(i j:Nat):Builtin.Slice.slicePlaces (i:Int) (j:Int) 1=j - i:=by
 unfold Builtin.Slice.slicePlaces;have h1:(1:Int)>0:=by omega
 simp only[h1,if_true,Int.ediv_one];split<;>omega
theorem Fm{v:Value}{o:Option Int}{Q:Option Int->Shared->Prop}(p:IsPart v o)(h:Q o s):wpAny (model prog w) A (Builtin.Slice.slicePartIndex v) Q E s:=by
 cases p with
 |none=>exact slicePart_none h
 |int i t=>exact slicePart_int h
theorem Vb{sl:Addr}{vl vu:Value}{lo hi:Option Int}{n:Nat}{Q:Int×Int×Nat->Shared->Prop}(hs:s.heap.IsSliceOf sl vl vu .none)(pl:IsPart vl lo)(pu:IsPart vu hi)
  (h:Q (((sIx n 0 lo:Nat):Int),1,sIx n n hi - sIx n 0 lo) s):wpAny (model prog w) A (Builtin.Slice.sliceApplied (.ref sl) (pure (n:Int))) Q E s:=by
 obtain⟨os,hos,hcs,hds⟩:=id hs;unfold Builtin.Slice.sliceApplied Builtin.Slice.sliceFields;refine Xb (Xb (wpAny_field hos hds (x:=vl) rfl (Xb (wpAny_field hos hds (x:=vu) rfl (Xb (wpAny_field hos hds (x:=.none) rfl (Xf ?_)))))));refine Xb (slicePart_none ?_);show wpAny _ _ (if((1:Int)==0)=true then _ else _) _ _ s;rw[if_neg (by decide)];refine Xb (Fm pl (Xb (Fm pu (Xb (Xf ?_)))));show wpAny _ _ (match Builtin.Slice.sliceAdjust lo hi 1 (n:Int) with|(lo,hi)=>pure (lo,(1:Int),Builtin.Slice.slicePlaces lo hi 1)) _ _ s;rw[U0 lo hi n];show wpAny _ _ (pure (((sIx n 0 lo:Nat):Int),(1:Int),Builtin.Slice.slicePlaces ((sIx n 0 lo:Nat):Int) ((sIx n n hi:Nat):Int) 1)) _ _ s;rw[U9];exact Xf h
theorem V2(xs:Array Value)(i k:Nat):((List.range k).filterMap fun(m:Nat)=>xs[((i:Int)+(m:Int)*1).toNat]?).toArray=((xs.toList.drop i).take k).toArray:=by
 have e:(fun(m:Nat)=>xs[((i:Int)+(m:Int)*1).toNat]?)=fun m=>xs[i+m]?:=by
  funext m;have:((i:Int)+(m:Int)*1).toNat=i+m:=by omega
  rw[this]
 rw[e];have:=pick_run xs i k;rw[List.filterMap_map] at this;have e2:((fun x=>xs[x]?)∘fun x=>i+x)=fun m=>xs[i+m]?:=rfl;rw[e2] at this;rw[this]
theorem getItem_tuple_cut{t sl:Addr}{items:Array Value}{vl vu:Value}{lo hi:Option Int}{Q:OK}(ht:IsTup s.heap t items)(hs:s.heap.IsSliceOf sl vl vu .none)(pl:IsPart vl lo)(pu:IsPart vu hi)
  (hw:¬(sIx items.size 0 lo=0/\sIx items.size items.size hi=items.size))
  (h:Q (.ref s.heap.objs.size) {s with heap:=s.heap.push {cls:=.type "tuple",data:=.seq ((items.toList.drop (sIx items.size 0 lo)).take (sIx items.size items.size hi - sIx items.size 0 lo)).toArray}})
  (hsz:items.size<=sizeLine):wpAny (model prog w) A (getItem (.ref t) (.ref sl)) Q E s:=by
 have htake:sizeOk (.seq ((items.toList.drop (sIx items.size 0 lo)).take (sIx items.size items.size hi - sIx items.size 0 lo)).toArray):=by
  show((items.toList.drop (sIx items.size 0 lo)).take (sIx items.size items.size hi - sIx items.size 0 lo)).toArray.size<=sizeLine;rw[Xm,List.length_take,List.length_drop,Yi];omega
 have hj:sIx items.size items.size hi<=items.size:=QJ _ _ (Xc _) hi;obtain⟨os,hos,hcs,hds⟩:=id hs;have hTs:s.TypeIs (.ref sl) "slice":=⟨os,hos,hcs⟩
 unfold getItem;try with_reducible refine Yp ?_
 first|refine Xb (Xf ?_)|skip
 refine Xb (wpAny_sequenceKey ht.typeIs (by decide) ?_);refine Xb (wpAny_callSpecial?_slot (name:=Str.ofString "__getitem__") ht.typeIs PyProof.Rows.slot_tuple_getitem
  (wpAny_call_entry PyProof.Rows.slot_tuple_getitem ht.typeIs entry_tuple_getitem ?_ (args_tuple_getitem _ _)))
 show wpAny _ _ (Builtin.Tuple.tupleItemsOf (.ref t) >>= _) _ _ s;refine Xb (tupleItemsOf_ ht ?_);refine Xb (wpAny_typeOf hTs ?_);rw[if_pos (by decide)];refine Xb (Vb hs pl pu ?_);have hno:¬((((sIx items.size 0 lo:Nat):Int)==0&&(1:Int)==1&&(sIx items.size items.size hi - sIx items.size 0 lo)==items.size)=true):=by
  intro q;rw[XD,XD] at q;have q1:((sIx items.size 0 lo:Nat):Int)=0:=eq_of_beq q.1.1;have q2:sIx items.size items.size hi - sIx items.size 0 lo=items.size:=eq_of_beq q.2;exact hw ⟨by omega,by omega⟩
 show wpAny _ _ (if(((sIx items.size 0 lo:Nat):Int)==0&&(1:Int)==1&&(sIx items.size items.size hi - sIx items.size 0 lo)==items.size)=true then _ else _) _ _ s;rw[if_neg hno,V2];first
  |exact Xb (m:=Builtin.Tuple.tupleExact _) (X5 (Xf ⟨_,rfl,Xf h⟩) htake)
  |exact Xb (m:=Builtin.Tuple.tupleExact _) (X5 (Xb (Xf (Xf ⟨_,rfl,Xf h⟩))) htake)
  |exact Xb (Xb (m:=Builtin.Tuple.tupleExact _) (X5 (Xf (Xf ⟨_,rfl,Xf h⟩)) htake))
  |exact Xb (Xb (m:=Builtin.Tuple.tupleExact _) (X5 (Xf ⟨_,rfl,Xf h⟩) htake))
end
end HT
namespace L2
open PySem PySem.Spec PyProof.Rows
abbrev TO:=St->Hp->(Option Int->Hp->Prop)->Prop
def PO(X:Cx)(e:Option Expr)(t:TO):Prop:=
 ∀(pins:QS) (s:Shared) (B:St) (H:Hp) (Q:Option Int->Hp->Prop),Inv X pins B H s->t B H Q->
  wpAny (model X.prog X.w) X.A (evalPart e X.env) (fun u s'=>∃o H',Inv X pins B H' s'/\IsPart u o/\Q o H') X.xe s
def Qr:TO:=fun _ H Q=>Q none H
def Sf(t:TE):TO:=fun B H Q=>t B H fun x H1=>∃i,x=.int i/\Q (some i) H1
def G0{ns:List Int}:∀{us:List Value},Vals (ns.map V.int) us->IntsAre us ns:=by
 induction ns with
 |nil=>intro us r;rw[List.map_nil] at r;cases r;exact .nil
 |cons n ns ih=>
  intro us r;rw[Xn] at r;cases r with
  |cons r1 r2=>
   obtain⟨t,e⟩:=r1;subst e;exact(.cons n t (ih r2))
section
variable {X:Cx} {e:Expr} {te:TE} {lo hi:Option Expr} {tl th:TO} {pos p2:Pos}
theorem TW:PO X none Qr:=by
 intro pins s B H Q I h;rw[evalPart_none];exact Xf ⟨none,H,I,.none,h⟩
theorem Op(h:PE X e te):PO X (some e) (Sf te):=by
 intro pins s B H Q I hw;rw[evalPart_some];refine thn (h pins s B H _ I hw) fun u s1 hm=>?_;obtain⟨x,H1,I1,r1,q1⟩:=hm;obtain⟨i,rfl,q⟩:=q1;obtain⟨t,rfl⟩:=r1;exact(⟨some i,H1,I1,.int i t,q⟩)
def SlR(X:Cx)(r:V->Option Int->Option Int->Hp->VK->Prop):Prop:=
 ∀(pins:QS) (s:Shared) (B:St) (H:Hp) (x:V) (v vl vu:Value) (lo hi:Option Int) (sl:Addr) (Q:VK),Inv X pins B H s->RelV x v->s.heap.IsSliceOf sl vl vu .none->IsPart vl lo->IsPart vu hi->r x lo hi H Q->
  ∃T id,typeLookup (.type T) "__getitem__"=pure (some (.builtin id))/\s.TypeIs v T/\wpAny (model X.prog X.w) X.A (getItem v (.ref sl)) (EP X pins B Q) X.xe s
theorem SlR.or{r r':V->Option Int->Option Int->Hp->VK->Prop}(h:SlR X r)(h':SlR X r'):SlR X (fun x lo hi H Q=>r x lo hi H Q\/r' x lo hi H Q):=by
 intro pins s B H x v vl vu lo hi sl Q I rx hs pl pu q;rcases q with q|q
 ·exact h pins s B H x v vl vu lo hi sl Q I rx hs pl pu q
 ·exact h' pins s B H x v vl vu lo hi sl Q I rx hs pl pu q
def tSl(r:V->Option Int->Option Int->Hp->VK->Prop)(te:TE)(tl th:TO):TE:=fun B H Q=>te B H fun x H1=>tl B H1 fun l H2=>th B H2 fun u H3=>r x l u H3 Q
theorem Ny{r:V->Option Int->Option Int->Hp->VK->Prop}(hr:SlR X r)(he:PE X e te)(hl:PO X lo tl)(hu:PO X hi th):PE X (.Subscript e (.Slice lo hi none p2) pos) (tSl r te tl th):=by
 intro pins s B H Q I h;refine Subscript_ (thn (he pins s B H _ I h) fun v s1 hm=>?_);obtain⟨x,H1,I1,r1,q1⟩:=hm;refine(wpAny_Slice (thn (hl pins s1 B H1 _ I1 q1) fun vl s2 ⟨l,H2,I2,pl,q2⟩=>thn (hu pins s2 B H2 _ I2 q2) fun vu s3 hm=>?_));obtain⟨u,H3,I3,pu,q3⟩:=hm;rw[evalPart_none];refine Xf ?_;have I4:Inv X pins B H3 {s3 with heap:=s3.heap.push {cls:=.type "slice",data:=.fields #[vl,vu,.none]}}:=I3.kept (t':=s3.toks) fun b ob q=>Xd _ q;obtain⟨T,id,hT,ht,hg⟩:=hr pins {s3 with heap:=s3.heap.push {cls:=.type "slice",data:=.fields #[vl,vu,.none]}} B H3 x v vl vu l u s3.heap.objs.size Q I4 r1 (Heap.IsSliceOf.new ..) pl pu q3;show wpAny (model X.prog X.w) X.A (subscriptTail e (.Slice lo hi none p2) v (.ref s3.heap.objs.size)) (EP X pins B Q) X.xe {s3 with heap:=s3.heap.push {cls:=.type "slice",data:=.fields #[vl,vu,.none]}};exact tail_any (ops:=[.ref s3.heap.objs.size,v]) ht hT hg (by with_unfolding_all rfl)
def u8(xs:List V)(lo hi:Option Int):List V:=(xs.drop (HT.sIx xs.length 0 lo)).take (HT.sIx xs.length xs.length hi - HT.sIx xs.length 0 lo)
theorem Hx(xs:List V)(lo hi:Option Int):(u8 xs lo hi).length<=xs.length:=by
 unfold u8;rw[List.length_take,List.length_drop];omega
def M6(K:Frag):V->Option Int->Option Int->Hp->VK->Prop:=fun x lo hi H Q=>∃a xs,x=.ref a/\SqT K H a xs/\
 ¬(HT.sIx xs.length 0 lo=0/\HT.sIx xs.length xs.length hi=xs.length)/\∀p,H p=none->Q (.ref p) (upd H p (.tup (u8 xs lo hi)))
theorem QF:SlR X (M6 X.K):=by
 intro pins s B H x v vl vu lo hi sl Q I rx hs pl pu h;obtain⟨a,xs,rfl,hx,hw,q⟩:=h;cases rx;obtain⟨its,r,ht,hz⟩:=I.tuple hx;have hlen:its.toArray.size=xs.length:=by rw[Xm];exact r.length.symm
 refine(⟨"tuple",_,PyProof.Rows.slot_tuple_getitem.lookup,ht.typeIs,?_⟩);refine HT.getItem_tuple_cut ht hs pl pu (by rw[hlen];exact hw) ?_ (by rw[hlen];exact hz);rw[hlen];refine⟨.ref s.heap.objs.size,_,I.laid (t':=s.toks) (o:=.tup (u8 xs lo hi)) (fun b ob q=>Xd _ q) (Xc _) ?_,rfl,q _ (I.hok.fresh (Xc _))⟩;exact⟨Xy (Hx xs lo hi) hz,_,(r.drop (HT.sIx xs.length 0 lo)).take (HT.sIx xs.length xs.length hi - HT.sIx xs.length 0 lo),IsTup.new _ _⟩
def LJ(K:Frag):R2:=fun x y H Q=>∃a b xs ys,x=.ref a/\y=.ref b/\SqT K H a xs/\SqT K H b ys/\xs≠[]/\xs.length+ys.length<=sizeLine/\
 (ys=[]->Q (.ref a) H)/\(ys≠[]->∀p,H p=none->Q (.ref p) (upd H p (.tup (xs++ys))))
theorem Vals.nil_iff{xs:List V}{us:List Value}(r:Vals xs us):us=[]↔xs=[]:=by
 cases r with
 |nil=>simp
 |cons _ _=>simp
theorem QA:OpR X (binaryOp .Add) (LJ X.K):=by
 intro pins s B H x y v u Q I rx ry h;obtain⟨a,b,xs,ys,rfl,rfl,ha,hb,hx,hz,q1,q2⟩:=h;cases rx;cases ry;obtain⟨its,r1,p1,_⟩:=I.tuple ha;obtain⟨its2,r2,p2,_⟩:=I.tuple hb;refine HT.cat_tup p1 p2 (fun z=>hx (r1.nil_iff.mp z)) (fun z=>⟨.ref a,H,I,rfl,q1 (r2.nil_iff.mp z)⟩) (fun z=>?_) (by rw[←r1.length,←r2.length];exact hz);refine⟨.ref s.heap.objs.size,_,I.laid (t':=s.toks) (o:=.tup (xs++ys)) (fun b ob q=>Xd _ q) (Xc _) ?_,rfl,q2 (fun w=>z (r2.nil_iff.mpr w)) _ (I.hok.fresh (Xc _))⟩;exact⟨by rw[XN];exact hz,_,r1.append r2,IsTup.new _ _⟩
end
def ixN(n:Nat)(i:Int):Option Nat:=if 0<=i then(if i<n then some i.toNat else none) else if -(n:Int)<=i then some (i+n).toNat else none
def atI{α:Type}(xs:List α)(i:Int):Option α:=(ixN xs.length i).bind fun j=>xs[j]?
def IM{n:Nat}{i:Int}{j:Nat}(h:ixN n i=some j):seqIndex? i n=some j/\j<n/\-(n:Int)<=i/\i<n:=by
 unfold ixN at h;by_cases h0:0<=i
 ·rw[if_pos h0] at h;by_cases h1:i<n
  ·rw[if_pos h1] at h;have e:i.toNat=j:=Xv h;exact⟨by rw[seqIndex_of h0 h1,e],by omega,by omega,h1⟩
  ·rw[if_neg h1] at h;cases h
 ·rw[if_neg h0] at h;by_cases h1:-(n:Int)<=i
  ·rw[if_pos h1] at h;have e:(i+n).toNat=j:=Xv h;exact⟨by rw[seqIndex_neg (by omega) h1,e],by omega,h1,by omega⟩
  ·rw[if_neg h1] at h;cases h
def EN{α:Type}{xs:List α}{i:Int}{v:α}(h:atI xs i=some v):∃j,seqIndex? i xs.length=some j/\xs[j]?=some v/\j<xs.length/\-(xs.length:Int)<=i/\i<xs.length:=by
 unfold atI at h;cases e:ixN xs.length i with
 |none=>rw[e] at h;cases h
 |some j=>
  rw[e] at h;obtain⟨h1,h2,h3,h4⟩:=IM e;exact(⟨j,h1,h,h2,h3,h4⟩)
def M2{α:Type}{xs:List α}{j:Nat}{v:α}(h:xs[j]?=some v):atI xs (j:Int)=some v:=by
 have hj:j<xs.length:=(Xe.mp h).1;have e:ixN xs.length (j:Int)=some j:=by
  unfold ixN;rw[if_pos (by omega),if_pos (by omega)];simp
 unfold atI;rw[e];exact h
def LI(b:Expr):Prop:=∀o i,subscripted b false o i=operate [o,i] (getItem o i)
def IxR(X:Cx)(r:R2):Prop:=
 ∀(value slice:Expr) (pins:QS) (s:Shared) (B:St) (H:Hp) (x y:V) (v u:Value) (Q:VK),Inv X pins B H s->RelV x v->RelV y u->r x y H Q->
  subscripted slice false v u=operate [v,u] (getItem v u)->wpAny (model X.prog X.w) X.A (subscriptTail value slice v u) (EP X pins B Q) X.xe s
def MtR(X:Cx)(id:String)(r:V->List V->Hp->VK->Prop):Prop:=
 ∀(pins:QS) (s:Shared) (B:St) (H:Hp) (x:V) (xs:List V) (v:Value) (us:List Value) (Q:VK),Inv X pins B H s->RelV x v->Vals xs us->r x xs H Q->
  wpAny (model X.prog X.w) X.A (call (.builtin id) (v::us)) (EP X pins B Q) X.xe s
section
variable {X:Cx} {a b:Expr} {ta tb:TE} {pos:Pos}
theorem IxR.or{r r':R2}(h:IxR X r)(h':IxR X r'):IxR X (fun x y H Q=>r x y H Q\/r' x y H Q):=by
 intro value slice pins s B H x y v u Q I rx ry q hs;rcases q with q|q
 ·exact h value slice pins s B H x y v u Q I rx ry q hs
 ·exact h' value slice pins s B H x y v u Q I rx ry q hs
theorem UJ{r:R2}(hr:IxR X r)(ha:PE X a ta)(hb:PE X b tb)(hs:LI b):PE X (.Subscript a b pos) (tOp r ta tb):=by
 intro pins s B H Q I h;exact Subscript_ (E8 ha hb I h fun v u s2 x y H2 I2 rx ry q=>hr a b pins s2 B H2 x y v u Q I2 rx ry q (hs _ _))
def KG(K:Frag):R2:=fun x y H Q=>∃p xs i v,x=.ref p/\y=.int i/\SqL K H p xs/\atI xs i=some v/\Q v H
def Ks(K:Frag):R2:=fun x y H Q=>∃p xs i v,x=.ref p/\y=.int i/\SqT K H p xs/\atI xs i=some v/\Q v H
def JT:R2:=fun x y H Q=>∃z i c,x=.str z/\y=.int i/\z.length<=sizeLine/\atI z.cps.toList i=some c/\Q (.str ⟨#[c]⟩) H
theorem ix_list:IxR X (KG X.K):=by
 intro value slice pins s B H x y v u Q I rx ry h hs;obtain⟨p,xs,i,z,rfl,rfl,hq,he,q⟩:=h;cases rx;obtain⟨t,rfl⟩:=ry;obtain⟨its,r,pl,hz⟩:=I.list hq;obtain⟨j,h1,h2,h3,h4,h5⟩:=EN he;obtain⟨w,ew,rw'⟩:=r.get h2;have hl:=r.length;have hn:=yJ;have fin:EP X pins B Q w s:=⟨z,H,I,rw',q⟩
 by_cases h0:0<=i
 ·have hj:i.toNat=j:=by
   rw[seqIndex_of h0 h5] at h1;exact Xv h1
  exact item_listR pl.isList h0 (by omega) (by rw[hj];simpa using ew) fin hs
 ·have hj:(i+(its.toArray.size:Int)).toNat=j:=by
   rw[seqIndex_neg (by omega) h4] at h1;rw[Xm,←hl];exact Xv h1
  exact subscriptTail_builtinR (x:=w) pl.isList.typeIs slot_list_getitem.lookup
   (wpAny_getItem_list_neg (Q:=fun r s'=>r=w/\EP X pins B Q r s') pl.isList (by omega) (by rw[Xm]<;>omega) (by omega) (by rw[hj];simpa using ew) ⟨rfl,fin⟩) hs
theorem ix_tup:IxR X (Ks X.K):=by
 intro value slice pins s B H x y v u Q I rx ry h hs;obtain⟨p,xs,i,z,rfl,rfl,hq,he,q⟩:=h;cases rx;obtain⟨t,rfl⟩:=ry;obtain⟨its,r,pl,hz⟩:=I.tuple hq;obtain⟨j,h1,h2,h3,h4,h5⟩:=EN he;obtain⟨w,ew,rw'⟩:=r.get h2;have hl:=r.length;have hn:=yJ;have fin:EP X pins B Q w s:=⟨z,H,I,rw',q⟩
 exact subscriptTail_builtinR (x:=w) pl.typeIs slot_tuple_getitem.lookup
  (getItem_tuple (j:=j) (Q:=fun r s'=>r=w/\EP X pins B Q r s') pl (by omega) (by omega) (by rw[Xm,←hl];exact h1) (by simpa using ew) ⟨rfl,fin⟩) hs
theorem T7:IxR X JT:=by
 intro value slice pins s B H x y v u Q I rx ry h hs;obtain⟨z,i,c,rfl,rfl,hz,he,q⟩:=h;obtain⟨t,rfl⟩:=rx;obtain⟨t',rfl⟩:=ry;obtain⟨j,h1,h2,h3,h4,h5⟩:=EN he;have hl:z.cps.toList.length=z.length:=by simp[Str.length]
 rw[hl] at h1 h4 h5;have hn:=yJ;exact tail_any (typeIs_str s z t) slot_str_getitem.lookup (getItem_str (c:=c) (by
  have e1:decide (i< -(2^63:Int))=false:=Xs (by omega);have e2:decide (i>=2^63)=false:=Xs (by omega);rw[e1,e2,Bool.or_false]) (by rw[h1];simpa using h2) ⟨.str ⟨#[c]⟩,H,I.tok _,⟨_,rfl⟩,q⟩) hs
def rIx(K:Frag):R2:=fun x y H Q=>KG K x y H Q\/Ks K x y H Q\/JT x y H Q
theorem UP:IxR X (rIx X.K):=ix_list.or (ix_tup.or T7)
theorem PQ(its:List Value)(n j:Nat)(u:Value):Obj.mapSeq (·.setIfInBounds j u) {cls:=.type "list",data:=.seq its.toArray n}={cls:=.type "list",data:=.seq (its.set j u).toArray n}:=by
 simp[Obj.mapSeq]
theorem Inv.lst{pins:QS}{B:St}{H:Hp}{s:Shared}{p:Addr}{xs:List V}(I:Inv X pins B H s)(h:H p=some (.lst xs)):
  ∃(its:List Value) (n:Nat),Vals xs its/\s.heap.get? p=some {cls:=.type "list",data:=.seq its.toArray n}/\xs.length<=sizeLine:=by
 obtain⟨z,its,n,r,e⟩:=I.hok p _ h;exact(⟨its,n,r,e,z⟩)
theorem Inv.lstUpd{pins:QS}{B:St}{H:Hp}{s:Shared}{p:Addr}{xs ys:List V}{its its':List Value}{n n':Nat}{f:Obj->Obj}(I:Inv X pins B H s)(h:H p=some (.lst xs))
  (ho:s.heap.get? p=some {cls:=.type "list",data:=.seq its.toArray n}) (hf:f {cls:=.type "list",data:=.seq its.toArray n}={cls:=.type "list",data:=.seq its'.toArray n'}) (r:Vals ys its') (hz:ys.length<=sizeLine) (t:Nat):
  Inv X pins B (upd H p (.lst ys)) {s with heap:=s.heap.update p f,toks:=t}:=by
 have e:(s.heap.update p f).get? p=some {cls:=.type "list",data:=.seq its'.toArray n'}:=by
  rw[Heap.get?_update_self f ho (by rw[hf]<;>rfl),hf]
 refine I.write (x:=p) (e:=p) (by rw[h];trivial) (.inl rfl) (fun b u hb q=>(Yg _ _ (Ne.symm hb)).trans q) ⟨_,e⟩ ?_;exact⟨hz,its',n',r,e⟩
def Nc:V->V->V->Hp->(Hp->Prop)->Prop:=fun o i v H Q=>∃p xs k j,o=.ref p/\i=.int k/\H p=some (.lst xs)/\ixN xs.length k=some j/\Q (upd H p (.lst (xs.set j v)))
theorem NX:JC X Nc:=by
 intro pins s B H o i v ov iv u Q I ro ri rv h;obtain⟨p,xs,k,j,rfl,rfl,hp,hj,q⟩:=h;cases ro;obtain⟨t,rfl⟩:=ri;obtain⟨its,n,r,ho,hz⟩:=I.lst hp;obtain⟨h1,h2,h3,h4⟩:=IM hj;have hl:=r.length;have hn:=yJ;have I':Inv X pins B (upd H p (.lst (xs.set j v))) {s with heap:=s.heap.update p (Obj.mapSeq (·.setIfInBounds j u))}:=
  I.lstUpd hp ho (PQ its n j u) (r.set rv j) (by rw[Yb];exact hz) s.toks
 by_cases h0:0<=k
 ·have hk:k.toNat=j:=by
   rw[seqIndex_of h0 h4] at h1;exact Xv h1
  exact PySem.W.ki_setAt ho h0 (by omega) (by rw[Xm,←hl];exact h4) (by rw[hk];exact⟨_,I',q⟩)
 ·have hk:(k+(its.toArray.size:Int)).toNat=j:=by
   rw[seqIndex_neg (by omega) h3] at h1;rw[Xm,←hl];exact Xv h1
  exact PySem.W.ki_setBack ho (by omega) (by rw[Xm,←hl];exact h3) (by omega) (by rw[hk];exact⟨_,I',q⟩)
theorem Qt(lo hi:Option Int)(n:Nat):(sliceBounds lo hi none n).1=((HT.sIx n 0 lo:Nat):Int)/\(sliceBounds lo hi none n).2.1=((HT.sIx n n hi:Nat):Int)/\(sliceBounds lo hi none n).2.2=1:=by
 refine⟨?_,?_,rfl⟩
 ·cases lo with
  |none=>simp[sliceBounds,HT.sIx]
  |some i=>
   simp only[sliceBounds,HT.sIx,Option.getD_none,show(1:Int)>0 by decide,if_true];by_cases h:i<0
   ·simp only[h,if_true]<;>omega
   ·simp only[h,if_false]<;>omega
 ·cases hi with
  |none=>simp[sliceBounds,HT.sIx]
  |some i=>
   simp only[sliceBounds,HT.sIx,Option.getD_none,show(1:Int)>0 by decide,if_true];by_cases h:i<0
   ·simp only[h,if_true]<;>omega
   ·simp only[h,if_false]<;>omega
theorem zdr(its:List Value)(lo hi:Option Int):slicePick its.toArray lo hi none=((its.drop (HT.sIx its.length 0 lo)).take (HT.sIx its.length its.length hi - HT.sIx its.length 0 lo)).toArray:=by
 obtain⟨h1,h2,h3⟩:=Qt lo hi its.toArray.size;unfold slicePick;rw[h1,h2,h3];simp only[sliceRange_one,pick_run,Xm]<;>rfl
def Nj(K:Frag):V->Option Int->Option Int->Hp->VK->Prop:=fun x lo hi H Q=>∃a xs,x=.ref a/\SqL K H a xs/\∀p,H p=none->Q (.ref p) (upd H p (.lst (u8 xs lo hi)))
theorem sl_list:SlR X (Nj X.K):=by
 intro pins s B H x v vl vu lo hi sl Q I rx hs pl pu h;obtain⟨a,xs,rfl,hx,q⟩:=h;cases rx;obtain⟨its,r,ht,hz⟩:=I.list hx;have hlen:=r.length;refine(⟨"list",_,slot_list_getitem.lookup,ht.isList.typeIs,?_⟩);refine wpAny_getItem_list_slice ht.isList hs pl pu .none (by simp) ?_ (by rw[Xm]<;>omega);rw[zdr,←hlen];refine⟨.ref s.heap.objs.size,_,I.laid (t':=s.toks) (o:=.lst (u8 xs lo hi)) (fun b ob q=>Xd _ q) (Xc _) ?_,rfl,q _ (I.hok.fresh (Xc _))⟩;exact⟨Xy (Hx xs lo hi) hz,_,0,(r.drop (HT.sIx xs.length 0 lo)).take (HT.sIx xs.length xs.length hi - HT.sIx xs.length 0 lo),Xl _ rfl⟩
def vd:V->Bool
 | .non=>true
 | .bl _=>true
 | .int _=>true
 | .str _=>true
 |_=>false
def eqV:V->V->Bool
 | .non,.non=>true
 | .bl a,.bl b=>a==b
 | .bl a,.int b=>(if a then 1 else 0)==b
 | .int a,.bl b=>a==(if b then 1 else 0)
 | .int a,.int b=>a==b
 | .str a,.str b=>a==b
 |_,_=>false
theorem Oq{A:Around}{s:Shared}{y x:V}{u v:Value}(ry:RelV y u)(rx:RelV x v)(fy:vd y=true)(fx:vd x=true):SeqAt.EqAt A s u v (eqV y x):=by
 cases y with
 |non=>
  cases ry;cases x with
  |non=>cases rx;exact SeqAt.EqAt.same _
  |bl b=>cases rx;exact SeqAt.EqAt.none_bool b
  |int b=>obtain⟨t,rfl⟩:=rx;exact SeqAt.EqAt.none_int b t
  |str b=>obtain⟨t,rfl⟩:=rx;exact SeqAt.EqAt.none_str b t
  |_=>exact absurd (show false=true from fx) XR
 |bl a=>
  cases ry;cases x with
  |non=>cases rx;exact SeqAt.EqAt.bool_none a
  |bl b=>cases rx;exact SeqAt.EqAt.bool_bool a b
  |int b=>obtain⟨t,rfl⟩:=rx;exact SeqAt.EqAt.bool_int a b t
  |str b=>obtain⟨t,rfl⟩:=rx;exact SeqAt.EqAt.bool_str a b t
  |_=>exact absurd (show false=true from fx) XR
 |int a=>
  obtain⟨t',rfl⟩:=ry;cases x with
  |non=>cases rx;exact SeqAt.EqAt.int_none a t'
  |bl b=>cases rx;exact SeqAt.EqAt.int_bool a t' b
  |int b=>obtain⟨t,rfl⟩:=rx;exact SeqAt.EqAt.int_int a t' b t
  |str b=>obtain⟨t,rfl⟩:=rx;exact SeqAt.EqAt.int_str a t' b t
  |_=>exact absurd (show false=true from fx) XR
 |str a=>
  obtain⟨t',rfl⟩:=ry;cases x with
  |non=>cases rx;exact SeqAt.EqAt.str_none a t'
  |bl b=>cases rx;exact SeqAt.EqAt.str_bool a t' b
  |int b=>obtain⟨t,rfl⟩:=rx;exact SeqAt.EqAt.str_int a t' b t
  |str b=>obtain⟨t,rfl⟩:=rx;exact SeqAt.EqAt.str_str a t' b t
  |_=>exact absurd (show false=true from fx) XR
 |_=>exact absurd (show false=true from fy) XR
def eqU(x:V)(u:Value):Bool:=match u with
 | .none=>eqV .non x
 | .bool b=>eqV (.bl b) x
 | .int i _=>eqV (.int i) x
 | .str z _=>eqV (.str z) x
 |_=>false
theorem KF{x y:V}{u:Value}(r:RelV y u)(f:vd y=true):eqU x u=eqV y x:=by
 cases y with
 |non=>cases r;rfl
 |bl b=>cases r;rfl
 |int i=>obtain⟨t,rfl⟩:=r;rfl
 |str z=>obtain⟨t,rfl⟩:=r;rfl
 |_=>exact absurd (show false=true from f) XR
theorem Cl{x:V}:∀{xs:List V} {us:List Value},Vals xs us->xs.all vd=true->us.any (eqU x)=xs.any fun y=>eqV y x
 |_,_,.nil,_=>rfl
 |y::xs,u::us,.cons r t,f=>by
  rw[List.all_cons,XD] at f;rw[Yf,Yf,KF r f.1,Cl t f.2]
theorem CM{A:Around}{s:Shared}{x:V}{v:Value}(rx:RelV x v)(fx:vd x=true):∀{xs:List V} {us:List Value},Vals xs us->xs.all vd=true->∀u∈us,SeqAt.EqAt A s u v (eqU x u)
 |_,_,.nil,_=>fun u hu=>by cases hu
 |y::xs,u::us,.cons r t,f=>fun u' hu=>by
  rw[List.all_cons,XD] at f;rcases XB.mp hu with rfl|hu
  ·rw[KF r f.1];exact Oq r rx f.1 fx
  ·exact CM rx fx t f.2 u' hu
def inV(x:V)(xs:List V):Bool:=xs.any fun y=>eqV y x
def rIn(K:Frag)(neg:Bool):R2:=fun x y H Q=>∃p xs,y=.ref p/\(SqL K H p xs\/SqT K H p xs)/\vd x=true/\xs.all vd=true/\Q (.bl (if neg then !inV x xs else inV x xs)) H
theorem SJ:OpR X (compareOp .NotIn) (rIn X.K true):=by
 intro pins s B H x y v u Q I rx ry h;obtain⟨p,xs,rfl,hq,fx,fs,q⟩:=h;cases ry;rcases hq with hq|hq
 ·obtain⟨its,r,pl,hz⟩:=I.list hq;refine SeqAt.notIn_listAt (eqU x) pl.isList (fun w hw=>CM rx fx r fs w (by simpa using hw)) ⟨.bl _,H,I,rfl,?_⟩;rw[show its.toArray.any (eqU x)=its.any (eqU x) by simp,Cl r fs];exact q
 ·obtain⟨its,r,pl,hz⟩:=I.tuple hq;refine SeqAt.notIn_tupleAt (eqU x) pl (fun w hw=>CM rx fx r fs w (by simpa using hw)) ⟨.bl _,H,I,rfl,?_⟩;rw[show its.toArray.any (eqU x)=its.any (eqU x) by simp,Cl r fs];exact q
theorem OX:tL X (.builtin "len") (fun xs H Q=>∃p ys,xs=[.ref p]/\(SqL X.K H p ys\/SqT X.K H p ys)/\Q (.int ys.length) H):=by
 intro pins s B H xs us Q I r h;obtain⟨p,ys,rfl,hq,q⟩:=h;obtain⟨u,rfl,rx⟩:=uZ r;cases rx;have hn:=yJ;rcases hq with hq|hq
 ·obtain⟨its,r',pl,hz⟩:=I.list hq;have hlen:=r'.length;exact Calls.call_len_list pl.isList (by simp only[Xm]<;>omega) ⟨.int ys.length,H,I.tok _,⟨s.toks+1,by rw[Xm,hlen]⟩,q⟩
 ·obtain⟨its,r',pl,hz⟩:=I.tuple hq;have hlen:=r'.length;exact len_tuple pl (by simp only[Xm]<;>omega) ⟨.int ys.length,H,I.tok _,⟨s.toks+1,by rw[Xm,hlen]⟩,q⟩
theorem WK:tL X (.type "list") (fun xs H Q=>∃p ys,xs=[.ref p]/\(SqL X.K H p ys\/SqT X.K H p ys)/\∀l,H l=none->Q (.ref l) (upd H l (.lst ys))):=by
 intro pins s B H xs us Q I r h;obtain⟨p,ys,rfl,hq,q⟩:=h;obtain⟨u,rfl,rx⟩:=uZ r;cases rx;have fin:∀(its:List Value),Vals ys its->ys.length<=sizeLine->∀(h':Heap) (c':Nat),(∀b o',s.heap.get? b=some o'->h'.get? b=some o')->
   h'.get? s.heap.objs.size=some {cls:=.type "list",dict:=none,data:=.seq its.toArray c',slots:=#[]}->EP X pins B Q (.ref s.heap.objs.size) {s with heap:=h'}:=fun its r' hz h' c' kp e=>
  ⟨.ref s.heap.objs.size,_,I.laid (t':=s.toks) kp (Xc _) (show ObjOk X.prog X.w _ h' _ (.lst ys) from⟨hz,its,c',r',e⟩),rfl,q _ (I.hok.fresh (Xc _))⟩
 rcases hq with hq|hq
 ·obtain⟨its,r',pl,hz⟩:=I.list hq;have hlen:=r'.length;obtain⟨o,ho,hc,n,hd⟩:=pl.isList;exact call_list_seq p (.inl rfl) ho hc hd (fun h' c' kp e=>fin its r' hz h' c' kp e) (by simp only[Xm]<;>omega)
 ·obtain⟨its,r',pl,hz⟩:=I.tuple hq;have hlen:=r'.length;obtain⟨o,ho,hc,n,hd⟩:=pl;exact call_list_seq p (.inr rfl) ho hc hd (fun h' c' kp e=>fin its r' hz h' c' kp e) (by simp only[Xm]<;>omega)
theorem Sd:tL X (.type "tuple") (fun xs H Q=>∃p ys,xs=[.ref p]/\((SqL X.K H p ys/\∀l,H l=none->Q (.ref l) (upd H l (.tup ys)))\/(SqT X.K H p ys/\Q (.ref p) H))):=by
 intro pins s B H xs us Q I r h;obtain⟨p,ys,rfl,h⟩:=h;obtain⟨u,rfl,rx⟩:=uZ r;cases rx;rcases h with⟨hq,q⟩|⟨hq,q⟩
 ·obtain⟨its,r',pl,hz⟩:=I.list hq;have hlen:=r'.length;refine call_tuple_list pl.isList (fun h' kp=>?_) (by simp only[Xm]<;>omega);have I1:Inv X pins B H {s with heap:=h'}:=I.kept (t':=s.toks) kp;have I2:Inv X pins B (upd H h'.objs.size (.tup ys)) {s with heap:=h'.push {cls:=.type "tuple",data:=.seq its.toArray}}:=
   I1.laid (t':=s.toks) (fun b o e=>Xd _ e) (Xc _) (show ObjOk X.prog X.w _ _ _ (.tup ys) from⟨hz,its,r',IsTup.new _ _⟩)
  exact⟨.ref h'.objs.size,_,I2,rfl,q _ (I1.hok.fresh (Xc _))⟩
 ·obtain⟨its,r',pl,hz⟩:=I.tuple hq;exact call_tuple_same pl ⟨.ref p,H,I,rfl,q⟩
def tyV(K:Frag)(T:String)(x:V)(H:Hp):Prop:=match x with
 | .str _=>T="str"
 | .int _=>T="int"
 | .ref p=>(T="list"/\ ∃xs,SqL K H p xs)\/(T="tuple"/\ ∃o,K.lookup p=some o/\o.cls=.type "tuple"/\o.dict=none)\/
   (T="dict"/\((∃kvs,H p=some (.dK kvs))\/∃kvs,H p=some (.dT kvs)))\/(T="set"/\ ∃S n,H p=some (.set S n))
 |_=>False
theorem Ji{pins:QS}{B:St}{H:Hp}{s:Shared}{T:String}{x:V}{v:Value}(I:Inv X pins B H s)(r:RelV x v)(ty:tyV X.K T x H):
  s.TypeIs v T/\∀a,v=.ref a->∃ob,s.heap.get? a=some ob/\ob.dict=none:=by
 cases x with
 |str z=>
  obtain⟨t,rfl⟩:=r;cases (show T="str" from ty);exact⟨typeIs_str s z t,fun _ e=>nomatch e⟩
 |int i=>
  obtain⟨t,rfl⟩:=r;cases (show T="int" from ty);exact⟨typeIs_int s i t,fun _ e=>nomatch e⟩
 |ref p=>
  cases r;rcases ty with⟨rfl,xs,hq⟩|⟨rfl,o,hk,hc,hd⟩|⟨rfl,hk⟩|⟨rfl,S,n,hk⟩
  ·obtain⟨its,_,pl,_⟩:=I.list hq;refine⟨pl.isList.typeIs,fun a e=>?_⟩;cases e;obtain⟨o,n,e,c,hd,_⟩:=pl;exact(⟨o,e,hd⟩)
  ·refine⟨⟨o,I.kIn p o hk,hc⟩,fun a e=>?_⟩;cases e;exact⟨o,I.kIn _ o hk,hd⟩
  ·have z:∃o,s.heap.get? p=some o/\o.ExactDict:=by
    rcases hk with⟨kvs,hk⟩|⟨kvs,hk⟩
    ·obtain⟨_,_,_,_,o,_,_,e,ex,_⟩:=I.hok p _ hk;exact⟨o,e,ex⟩
    ·obtain⟨_,_,_,_,o,_,_,e,ex,_⟩:=I.hok p _ hk;exact⟨o,e,ex⟩
   obtain⟨o,e,ex⟩:=z;refine(⟨⟨o,e,ex.1⟩,fun a e2=>?_⟩);cases e2;exact⟨o,e,ex.2.1⟩
  ·obtain⟨o,_,_,_,e,ex,_⟩:=I.hok p _ hk;refine⟨⟨o,e,ex.1⟩,fun a e2=>?_⟩;cases e2;exact⟨o,e,ex.2.1⟩
 |_=>exact False.elim ty
def CH(K:Frag)(T:String)(r:V->List V->Hp->VK->Prop)(to:TE):TE:=fun B H Q=>to B H fun x H1=>tyV K T x H1/\r x [] H1 Q
def tBM(K:Frag)(T:String)(r:V->List V->Hp->VK->Prop)(to:TE)(t:TA):TE:=fun B H Q=>to B H fun x H1=>tyV K T x H1/\t B H1 fun xs H2=>r x xs H2 Q
variable {o e:Expr} {es:List Expr} {to:TE} {t:TA} {name:Str} {apos cpos:Pos} {T id:String} {r:V->List V->Hp->VK->Prop}
theorem LD(pa:PlainAttrs T)(slot:Slot T name id)(hty:typeOf (.builtin id)=pure (.type "method_descriptor")) (hm:MtR X id r) (ho:PE X o to)
  (hbase:attributeBase o name X.env (eval o X.env)=eval o X.env:=by rfl) (hline:(apos.endLine==cpos.line)=true:=by rfl):PE X (.Call (.Attribute o name apos) [] [] cpos) (CH X.K T r to):=by
 intro pins s B H Q I h;refine wpAny_Call_method0_late hbase hline (thn (ho pins s B H _ I h) fun v s1 hm=>?_);obtain⟨x,H1,I1,r1,ty,q1⟩:=hm;obtain⟨h1,h2⟩:=Ji I1 r1 ty;exact(⟨T,id,pa,slot,hty,h1,h2,Calls.callWith_builtin rfl (PySem.evalArgs_none (hm pins s1 B H1 x [] v [] Q I1 r1 .nil q1))⟩)
theorem Ac(pa:PlainAttrs T)(slot:Slot T name id)(hty:typeOf (.builtin id)=pure (.type "method_descriptor")) (hm:MtR X id r) (ho:PE X o to) (ha:PA X (e::es) t)
  (hbase:attributeBase o name X.env (eval o X.env)=eval o X.env:=by rfl)
  (hfew:((backTo cpos (starEach (e::es) X.env)).all (fun x=>!x.1)&&(backToKw cpos (keywordEach [] X.env)).all (fun x=>x.1.isSome)
   &&decide ((e::es).length+([]:List Keyword).length+(if([]:List Keyword).isEmpty then 0 else 1)<30))=true:=by rfl)
  (hline:(apos.endLine==cpos.line)=true:=by rfl) (hs:starEach (e::es) X.env=(false,eval e X.env)::starEach es X.env:=by rfl) (hplain:(backTo cpos (starEach es X.env)).any (·.1)=false:=by rfl):
  PE X (.Call (.Attribute o name apos) (e::es) [] cpos) (tBM X.K T r to t):=by
 intro pins s B H Q I h;refine wpAny_Call_method_late hbase hfew hline rfl (thn (ho pins s B H _ I h) fun v s1 hm=>?_);obtain⟨x,H1,I1,r1,ty,q1⟩:=hm;obtain⟨h1,h2⟩:=Ji I1 r1 ty;refine(⟨T,id,pa,slot,hty,h1,h2,?_⟩);have hA:=ha cpos pins s1 B H1 _ I1 q1;rw[hs] at hA⊢;refine Calls.callWith_builtin (by show(false||(backTo cpos (starEach es X.env)).any (·.1))=false;rw[hplain]<;>rfl) (Calls.evalArgs_plain ?_);exact thn hA fun us s2 ⟨vs,H2,I2,r2,q2⟩=>hm pins s2 B H2 x vs v us Q I2 r1 r2 q2
end
def MtM(X:Cx)(id:String)(r:V->List V->Hp->VK->Prop):Prop:=
 ∀(pins:QS) (s:Shared) (B:St) (H:Hp) (x:V) (xs:List V) (v:Value) (us:List Value) (Q:VK),Inv X pins B H s->RelV x v->Vals xs us->r x xs H Q->
  wpAny (model X.prog X.w) X.A (call (.builtin id) (v::us)) (EP X pins B Q) X.xe s
def Vals.one{x:V}{us:List Value}(h:Vals [x] us):∃u,us=[u]/\RelV x u:=by
 cases h with|cons r t=>cases t;exact⟨_,rfl,r⟩
def Vals.two{x y:V}{us:List Value}(h:Vals [x,y] us):∃u v,us=[u,v]/\RelV x u/\RelV y v:=by
 cases h with|cons r t=>obtain⟨v,rfl,q⟩:=Vals.one t;exact⟨_,v,rfl,r,q⟩
theorem Vals.zero:∀{us:List Value},Vals [] us->us=[]
 |_,.nil=>rfl
theorem Vals.eraseIdx:∀{xs:List V} {us:List Value} (i:Nat),Vals xs us->Vals (xs.eraseIdx i) (us.eraseIdx i)
 |_,_,_,.nil=>.nil
 |_,_,0,.cons _ t=>t
 |_,_,i+1,.cons r t=>.cons r (Vals.eraseIdx i t)
theorem Vals.rep{xs:List V}{us:List Value}(h:Vals xs us):∀k:Nat,Vals (List.replicate k xs).flatten (List.replicate k us).flatten
 |0=>.nil
 |k+1=>by
  rw[Yq,Yq,List.flatten_cons,List.flatten_cons];exact Vals.append h (Vals.rep h k)
theorem J8{α:Type}:∀(l:List α) (i:Nat),(l.eraseIdx i).length<=l.length
 | [],_=>Xc _
 |_::_,0=>Nat.le_succ _
 |_::r,i+1=>Nat.succ_le_succ (J8 r i)
theorem F0(its:List Value):∀(k:Nat) (acc:List Value),
  List.foldl (fun x1 x2=>x1++x2) acc.toArray (List.replicate k its.toArray)=(acc++(List.replicate k its).flatten).toArray
 |0,acc=>by simp
 |k+1,acc=>by
  have e:acc.toArray++its.toArray=(acc++its).toArray:=by simp
  have e2:(acc++its)++(List.replicate k its).flatten=acc++(List.replicate (k+1) its).flatten:=by
   rw[Yq,List.flatten_cons,List.append_assoc]
  rw[←e2,←F0 its k (acc++its),←e,Yq,List.foldl_cons]
section
variable {X:Cx} {pins:QS} {B:St} {H:Hp} {s:Shared} {l:Addr} {xs ys:List V}
theorem Inv.lset{its its':List Value}{n:Nat}{f:Array Value->Array Value}{t':Nat}(I:Inv X pins B H s)(hH:H l=some (.lst xs))
  (e:s.heap.get? l=some {cls:=.type "list",data:=.seq its.toArray n}) (hf:f its.toArray=its'.toArray) (hv:Vals ys its') (hz:ys.length<=sizeLine):
  Inv X pins B (upd H l (.lst ys)) {s with heap:=s.heap.update l (Obj.mapSeq f),toks:=t'}:=by
 have q:=PySem.IsL.update e f;rw[hf] at q;refine I.write (x:=l) (e:=l) (by rw[hH];exact trivial) (.inl rfl) (fun b' u hb hu=>(Yg s.heap (Obj.mapSeq f) (Ne.symm hb)).trans hu) ⟨_,q⟩ ?_;exact⟨hz,its',_,hv,q⟩
theorem Inv.lnew{its:List Value}{t':Nat}(I:Inv X pins B H s)(hv:Vals ys its)(hz:ys.length<=sizeLine):
  Inv X pins B (upd H s.heap.objs.size (.lst ys)) {s with heap:=s.heap.push {cls:=.type "list",data:=.seq its.toArray},toks:=t'}:=
 I.laid (fun _ _ q=>Xd _ q) (Xc _) ⟨hz,its,0,hv,Xl _ rfl⟩
theorem Inv.fresh(I:Inv X pins B H s):H s.heap.objs.size=none:=I.hok.fresh (Xc _)
theorem Inv.lstM(I:Inv X pins B H s)(hH:H l=some (.lst xs)):xs.length<=sizeLine/\∃(its:List Value) (n:Nat),Vals xs its/\xs.length=its.length/\s.heap.get? l=some {cls:=.type "list",data:=.seq its.toArray n}:=by
 obtain⟨z,its,n,r,e⟩:=I.hok l _ hH;exact(⟨z,its,n,r,r.length,e⟩)
theorem QM{n:Nat}(h:n<=sizeLine):Builtin.List.listTooLong n=false:=by
 unfold Builtin.List.listTooLong;exact Xs (by omega)
end
section
variable {X:Cx}
def Ga:V->List V->Hp->VK->Prop:=fun x vs H Q=>∃l xs y,x=.ref l/\vs=[y]/\H l=some (.lst xs)/\xs.length<sizeLine/\Q .non (upd H l (.lst (xs++[y])))
theorem Eo:MtM X "list.append" Ga:=by
 intro pins s B H x vs v us Q I rx rv h;obtain⟨l,xs,y,rfl,rfl,hH,hz,q⟩:=h;cases rx;obtain⟨u,rfl,ru⟩:=rv.one;obtain⟨z,its,n,r,hl,e⟩:=I.lstM hH;refine call_meets F.slot_list_append ⟨_,e,rfl⟩ F.entry_list_append (F.args_list_append_2 _ _) (PySem.list_append l its.toArray n u (by rw[Xm];omega)) ⟨e,?_⟩;refine⟨.non,_,I.lset (its':=its++[u]) hH e (by simp) (r.append (.cons ru .nil)) ?_,rfl,q⟩;rw[XN,List.length_singleton];omega
def KU:V->List V->Hp->VK->Prop:=fun x vs H Q=>∃l xs i k y,x=.ref l/\vs=[.int i]/\H l=some (.lst xs)/\-(2^63)<=i/\i<2^63/\seqIndex? i xs.length=some k/\xs[k]?=some y/\Q y (upd H l (.lst (xs.eraseIdx k)))
theorem Tg:MtM X "list.pop" KU:=by
 intro pins s B H x vs v us Q I rx rv h;obtain⟨l,xs,i,k,y,rfl,rfl,hH,h1,h2,hk,hy,q⟩:=h;cases rx;obtain⟨u,rfl,ru⟩:=rv.one;obtain⟨t,rfl⟩:=ru;obtain⟨z,its,n,r,hl,e⟩:=I.lstM hH;obtain⟨w,hw,rw'⟩:=r.get hy;refine call_meets F.slot_list_pop ⟨_,e,rfl⟩ F.entry_list_pop (F.args_list_pop_2 _ _)
  (MeetsSeq.list_pop_at l its.toArray n i t k w (fitsIndex_both h1 h2) (by rw[Xm,←hl];exact hk) (by rw[←Array.getElem?_toList];exact hw) (by rw[Xm];omega)) ⟨e,?_⟩
 refine⟨y,_,I.lset (its':=its.eraseIdx k) hH e ?_ (r.eraseIdx k) ?_,rw',q⟩
 ·show its.toArray.eraseIdxIfInBounds k=(its.eraseIdx k).toArray;rw[List.eraseIdxIfInBounds_toArray]
 ·have:=J8 xs k;omega
def JL:R2:=fun x y H Q=>∃l b xs zs,x=.ref l/\y=.ref b/\H l=some (.lst xs)/\H b=some (.lst zs)/\xs.length+zs.length<=sizeLine/\∀p,H p=none->Q (.ref p) (upd H p (.lst (xs++zs)))
theorem op_cat:OpR X (binaryOp .Add) JL:=by
 intro pins s B H x y v u Q I rx ry h;obtain⟨l,b,xs,zs,rfl,rfl,hH,hB,hz,q⟩:=h;cases rx;cases ry;obtain⟨z,its,n,r,hl,e⟩:=I.lstM hH;obtain⟨z2,its2,n2,r2,hl2,e2⟩:=I.lstM hB;refine PySem.P.add_list e e2 ?_ (by rw[Xm,Xm];omega);have ea:its.toArray++its2.toArray=(its++its2).toArray:=by simp
 rw[ea];exact⟨.ref _,_,I.lnew (t':=s.toks) (r.append r2) (by rw[XN];omega),rfl,q _ I.fresh⟩
def Fu:R2:=fun x y H Q=>∃l k xs,x=.ref l/\y=.int k/\H l=some (.lst xs)/\-(2^63)<=k/\k<2^63/\xs.length*k.toNat<=sizeLine/\
 ∀p,H p=none->Q (.ref p) (upd H p (.lst (List.replicate k.toNat xs).flatten))
theorem QB{α:Type}(xs:List α)(k:Nat):(List.replicate k xs).flatten.length=k*xs.length:=by
 induction k with
 |zero=>simp
 |succ k ih=>rw[Yq,List.flatten_cons,XN,ih,Nat.succ_mul,Nat.add_comm]
theorem Wl:OpR X (binaryOp .Mult) Fu:=by
 intro pins s B H x y v u Q I rx ry h;obtain⟨l,k,xs,rfl,rfl,hH,h1,h2,hz,q⟩:=h;cases rx;obtain⟨t,rfl⟩:=ry;obtain⟨z,its,n,r,hl,e⟩:=I.lstM hH;have hlen:its.toArray.size*k.toNat<=sizeLine:=by rw[Xm,←hl];exact hz
 have hcap:¬its.toArray.size*k.toNat>(2^63 - 1)/8:=by
  have:(sizeLine:Nat)<=(2^63 - 1)/8:=by decide
  omega
 have hfit:¬(!Builtin.List.listFitsIndex k)=true:=by
  rw[fitsIndex_both h1 h2];exact XR
 have hlong:¬Builtin.List.listTooLong (its.toArray.size*k.toNat)=true:=by
  rw[QM hlen];exact XR
 have hnew:List.foldl (fun x1 x2=>x1++x2) #[] (List.replicate (if its.toArray.isEmpty=true then 0 else k.toNat) its.toArray)=(List.replicate k.toNat its).flatten.toArray:=by
  have f0:∀m:Nat,List.foldl (fun x1 x2=>x1++x2) #[] (List.replicate m its.toArray)=(List.replicate m its).flatten.toArray:=fun m=>by
   have:=F0 its m [];rw[List.nil_append] at this;exact this
  rw[f0];cases its with
  |nil=>simp
  |cons a r'=>rw[if_neg (by simp)]
 refine wpAny_binaryOp_repeat_ref (T:="list") (U:="int") (by decide) ⟨_,e,rfl⟩ (fun s'=>typeIs_int s' k t) noFill_list_mul F.fills_int_mul F.slot_int_rmul repeat_list F.slot_int_index.lookup
  (call_meets F.slot_int_rmul (typeIs_int s k t) F.entry_int_rmul (F.args_int_rmul_2 _ _) (int___rmul___int_list k t l its.toArray n)
   ⟨e,rfl,⟨_,e,rfl⟩,call_meets F.slot_list_mul ⟨_,e,rfl⟩ F.entry_list_mul (F.args_list_mul_2 _ _) (AutoListH.list___mul___list_int_3 l its.toArray n k t hfit hcap hlong) ⟨e,?_⟩⟩)
 rw[hnew];exact⟨.ref _,_,I.lnew (t':=s.toks) (r.rep k.toNat) (by rw[QB,Nat.mul_comm];exact hz),rfl,q _ I.fresh⟩
end
section
variable {κ:Type} [DecidableEq κ]
def sQ(kvs:List (κ×V))(k:κ):Option V:=(kvs.find? fun kv=>decide (kv.1=k)).map (·.2)
def sj(kvs:List (κ×V))(k:κ)(v:V):List (κ×V):=
 if(kvs.any fun kv=>decide (kv.1=k))=true then kvs.map (fun kv=>if kv.1=k then(kv.1,v) else kv) else kvs++[(k,v)]
theorem wF{p:κ×V}{r:List (κ×V)}{k:κ}(e:p.1=k):sQ (p::r) k=some p.2:=by simp[sQ,Xp,e]
theorem wB{p:κ×V}{r:List (κ×V)}{k:κ}(e:¬p.1=k):sQ (p::r) k=sQ r k:=by simp[sQ,Xp,e]
theorem Ic(k:κ):∀kvs:List (κ×V),(kvs.any fun kv=>decide (kv.1=k))=(sQ kvs k).isSome
 | []=>rfl
 |p::r=>by
  rw[Yf];by_cases e:p.1=k
  ·simp only[wF e,XO e,Bool.true_or,Option.isSome_some]
  ·rw[wB e,Xs e,Bool.false_or];exact Ic k r
theorem AU(kvs:List (κ×V))(k:κ)(v:V):(sj kvs k v).length<=kvs.length+1:=by
 unfold sj;split
 ·rw[Xj];omega
 ·rw[XN,XI,List.length_nil];omega
theorem RelO.isSome_eq{o:Option V}{u:Option Value}(r:RelO o u):o.isSome=u.isSome:=by
 cases o with
 |none=>cases u with
  |none=>rfl
  |some _=>exact(show False from r).elim
 |some _=>cases u with
  |none=>exact(show False from r).elim
  |some _=>rfl
theorem KV.val{kvs:List (κ×V)}{vs:List (κ×Value)}(r:KV kvs vs)(k:κ):RelO (sQ kvs k) (valueAt vs k):=by
 unfold KV at r;induction r with
 |nil=>exact True.intro
 | @cons p q ps qs h t ih=>
  obtain⟨h1,h2⟩:=h;by_cases e:p.1=k
  ·have e':q.1=k:=h1.symm.trans e;have b:valueAt (q::qs) k=some q.2:=by simp[valueAt,Xp,e']
   rw[wF e,b];exact h2
  ·have e':¬q.1=k:=fun z=>e (h1.trans z);have b:valueAt (q::qs) k=valueAt qs k:=by simp[valueAt,Xp,e']
   rw[wB e,b];exact ih
theorem KV.any{kvs:List (κ×V)}{vs:List (κ×Value)}(r:KV kvs vs)(k:κ):(kvs.any fun kv=>decide (kv.1=k))=vs.any fun kv=>decide (kv.1=k):=by
 unfold KV at r;induction r with
 |nil=>rfl
 |cons h t ih=>rw[Yf,Yf,ih,h.1]
theorem KV.repl{kvs:List (κ×V)}{vs:List (κ×Value)}(r:KV kvs vs)(k:κ){y:V}{u:Value}(ry:RelV y u):
  KV (kvs.map fun kv=>if kv.1=k then(kv.1,y) else kv) (vs.map fun kv=>if kv.1=k then(kv.1,u) else kv):=by
 unfold KV at r⊢;induction r with
 |nil=>exact .nil
 | @cons p q ps qs h t ih=>
  rw[Xn,Xn];refine .cons ?_ ih;obtain⟨h1,h2⟩:=h;by_cases e:p.1=k
  ·rw[if_pos e,if_pos (h1.symm.trans e)];exact⟨h1,ry⟩
  ·rw[if_neg e,if_neg (fun z=>e (h1.trans z))];exact⟨h1,h2⟩
theorem KV.put{kvs:List (κ×V)}{vs:List (κ×Value)}(r:KV kvs vs)(k:κ){y:V}{u:Value}(ry:RelV y u):KV (sj kvs k y) (stored vs k u):=by
 unfold sj stored;rw[r.any k];by_cases e:(vs.any fun kv=>decide (kv.1=k))=true
 ·rw[if_pos e,if_pos e];exact r.repl k ry
 ·rw[if_neg e,if_neg e];exact Paired.snoc r ⟨rfl,ry⟩
theorem KV.length{kvs:List (κ×V)}{vs:List (κ×Value)}(r:KV kvs vs):kvs.length=vs.length:=Paired.length r
end
def zt{P:Program}{w:World}{k:Key}{u:Value}(r:RelV (kV k) u):(tQ P w).is k u=true:=by
 cases k with
 |inl i=>obtain⟨t,e⟩:=(show ∃t,u=Value.int i t from r);subst e;exact UI P w i t
 |inr x=>obtain⟨t,e⟩:=(show ∃t,u=Value.str x t from r);subst e;exact W9 P w x t
abbrev KT(H:Hp):List (NK×V)->List (NK×Addr×Value)->Prop:=Paired fun p q=>p.1=q.1/\NKey H q.2.1 p.1/\RelV p.2 q.2.2
def KT.val{H:Hp}{kvs:List (NK×V)}{xs:List (NK×Addr×Value)}(r:KT H kvs xs)(k:NK):RelO (sQ kvs k) ((atKey xs k).map (·.2)):=by
 induction r with
 |nil=>exact True.intro
 | @cons p q ps qs h t ih=>
  obtain⟨h1,_,h2⟩:=h;by_cases e:p.1=k
  ·have e':q.1=k:=h1.symm.trans e;have b:atKey (q::qs) k=some q.2:=by simp[atKey,Xp,e']
   rw[wF e,b];exact h2
  ·have e':¬q.1=k:=fun z=>e (h1.trans z);have b:atKey (q::qs) k=atKey qs k:=by simp[atKey,Xp,e']
   rw[wB e,b];exact ih
theorem KT.repl{H:Hp}{kvs:List (NK×V)}{xs:List (NK×Addr×Value)}(r:KT H kvs xs)(k:NK){y:V}{u:Value}(ry:RelV y u):
  KT H (kvs.map fun kv=>if kv.1=k then(kv.1,y) else kv) (xs.map (putAt k u)):=by
 induction r with
 |nil=>exact .nil
 | @cons p q ps qs h t ih=>
  rw[Xn,Xn];refine .cons ?_ ih;obtain⟨h1,h2,h3⟩:=h;unfold putAt;by_cases e:p.1=k
  ·rw[if_pos e,if_pos (h1.symm.trans e)];exact⟨h1,h2,ry⟩
  ·rw[if_neg e,if_neg (fun z=>e (h1.trans z))];exact⟨h1,h2,h3⟩
theorem KT.put{H:Hp}{kvs:List (NK×V)}{xs:List (NK×Addr×Value)}(r:KT H kvs xs)(k:NK){b:Addr}{y:V}{u:Value}(hb:NKey H b k)(ry:RelV y u):
  KT H (sj kvs k y) (storedH xs k b u):=by
 have e:(kvs.any fun kv=>decide (kv.1=k))=(atKey xs k).isSome:=by
  rw[Ic,(r.val k).isSome_eq,Option.isSome_map]
 unfold sj storedH;rw[e];by_cases q:(atKey xs k).isSome=true
 ·rw[if_pos q,if_pos q];exact r.repl k ry
 ·rw[if_neg q,if_neg q];exact Paired.snoc r ⟨rfl,hb,ry⟩
def KT.keeps{H H':Hp}{kvs:List (NK×V)}{xs:List (NK×Addr×Value)}(r:KT H kvs xs)(ht:∀b ys,H b=some (.tup ys)->H' b=some (.tup ys)):KT H' kvs xs:=
 Paired.mapP r fun _ _ z=>⟨z.1,z.2.1.up ht,z.2.2⟩
section
variable {P:Program} {w:World} {H:Hp} {h:Heap} {a:Addr}
theorem GB{u:HO}(ok:HOk P w H h)(e:Rd H a u):ObjOk P w H h a u:=e.ok ok
theorem Ah{kvs:List (Key×V)}(ok:HOk P w H h)(e:Rd H a (.dK kvs)):kvs.length<=sizeLine/\(a==sysModules)=false/\∃vs,KV kvs vs/\h.DictOf (tQ P w) a vs:=
 show ObjOk P w H h a (.dK kvs) from GB ok e
theorem xb{kvs:List (Key×V)}(ok:HOk P w H h)(e:H a=some (.dK kvs)):kvs.length<=sizeLine/\(a==sysModules)=false/\∃vs,KV kvs vs/\h.DictOf (tQ P w) a vs:=Ah ok (.inl e)
theorem Je:∀{ks:List Int} {us:List Value},Vals (ks.map V.int) us->ItemsAre (intKind P w) ks us
 | [],_,r=>by rw[List.map_nil] at r;cases r;exact .nil
 |k::ks,_,r=>by
  rw[Xn] at r;cases r with
  |cons h t=>
   obtain⟨q,e⟩:=h;subst e;exact .cons (by simp[intKind,Value.isInt]) (Je t)
theorem Et{A:Around}(hu:A.units+9<cLine):(yE P w).room A.in1:=by show A.units+1+4<cLine;omega
theorem BM{k:NK}(ok:HOk P w H h)(e:NKey H a k):(yE P w).is h k a:=by
 obtain⟨c,e1,e2⟩:=e;obtain⟨_,its,r,o,h1,h2,n,h3⟩:=(show ObjOk P w H h a (.tup [.ref c,.int k.2]) from ok a _ e1)
 obtain⟨u1,u2,rfl,r1,t,r2⟩:=Vals.two r;obtain rfl:u1=Value.ref c:=r1;subst r2;obtain⟨_,its',r',o',g1,g2,n',g3⟩:=(show ObjOk P w H h c (.tup (k.1.map V.int)) from ok c _ e2)
 exact⟨o,c,t,n,h1,h2,h3,o',its'.toArray,n',g1,g2,g3,by simpa using Je r'⟩
theorem Au{kvs:List (NK×V)}(ok:HOk P w H h)(e:Rd H a (.dT kvs)):kvs.length<=sizeLine/\(a==sysModules)=false/\
  ∃xs,KT H kvs xs/\h.DictOfH (yE P w) a xs:=by
 obtain⟨z,y,xs,r,o,es,ep,h1,h2,h3,h4,h5⟩:=(show ObjOk P w H h a (.dT kvs) from GB ok e)
 refine(⟨z,y,xs,r,o,es,ep,h1,h2,h3,h4,fun x hx=>?_,h5⟩);have all:∀{l:List (NK×V)} {m:List (NK×Addr×Value)},KT H l m->∀x∈m,(yE P w).is h x.1 x.2.1:=by
  intro l m q;induction q with
  |nil=>intro x hx;exact nomatch hx
  | @cons p q ps qs hq t ih=>
   intro x hx;rcases XB.mp hx with e|hx
   ·subst e;exact BM ok (by rw[←hq.1];exact hq.2.1)
   ·exact ih x hx
 exact all r x hx
theorem S8{kvs:List (NK×V)}(ok:HOk P w H h)(e:H a=some (.dT kvs)):kvs.length<=sizeLine/\(a==sysModules)=false/\
  ∃xs,KT H kvs xs/\h.DictOfH (yE P w) a xs:=Au ok (.inl e)
end
def DGet(H:Hp)(a:Addr)(y:V)(r:Option V):Prop:=
 (∃kvs k,Rd H a (.dK kvs)/\y=kV k/\r=sQ kvs k)\/∃kvs k b,Rd H a (.dT kvs)/\y=.ref b/\NKey H b k/\r=sQ kvs k
def Dj(H:Hp)(a:Addr)(y v:V)(H':Hp):Prop:=
 (∃kvs k,H a=some (.dK kvs)/\y=kV k/\kvs.length<sizeLine/\H'=upd H a (.dK (sj kvs k v)))\/
 ∃kvs k b,H a=some (.dT kvs)/\y=.ref b/\NKey H b k/\kvs.length<sizeLine/\H'=upd H a (.dT (sj kvs k v))
def DGet.k{H:Hp}{a:Addr}{kvs:List (Key×V)}{k:Key}(e:H a=some (.dK kvs)):DGet H a (kV k) (sQ kvs k):=.inl ⟨kvs,k,.inl e,rfl,rfl⟩
section
variable {X:Cx} {pins:QS} {B:St} {H:Hp} {s:Shared} {a:Addr} {y v:V} {u r:Value} {o:Option V} {A:Around} {E:OK}
theorem Inv.big(I:Inv X pins B H s):sysModules<s.heap.objs.size:=by
 have h:mainGlobals<s.heap.objs.size:=(I.mod.glob.keeps I.bk).lt;exact Nat.lt_trans (by decide) h
theorem Ta{Q:OK}(hu:A.units+9<cLine)(I:Inv X pins B H s)(g:DGet H a y (some v))(ry:RelV y u)(h:∀w' s',Inv X pins B H s'->RelV v w'->Q w' s'):
  wpAny (model X.prog X.w) A (getItem (.ref a) u) Q E s:=by
 rcases g with⟨kvs,k,e,ey,l⟩|⟨kvs,k,b,e,ey,eb,l⟩
 ·subst ey;obtain⟨z,hd,vs,rel,dd⟩:=Ah I.hok e;obtain⟨w',hw,rw'⟩:=RelO.some_of (v:=v) (o:=valueAt vs k) (by rw[l];exact rel.val k);exact(wpAny_getItem_of (zt ry) dd.mapOf hw (h w' _ (I.tok _) rw'))
 ·subst ey;cases (show u=Value.ref b from ry);obtain⟨z,hd,xs,rel,dd⟩:=Au I.hok e;obtain⟨w',hw,rw'⟩:=RelO.some_of (v:=v) (o:=(atKey xs k).map (·.2)) (by rw[l];exact rel.val k);obtain⟨p,hp,hp2⟩:=Option.map_eq_some_iff.mp hw;refine(wpAny_getItem_heap (Et hu) (BM I.hok eb) dd hp ?_);rw[hp2];exact h w' _ (I.tok _) rw'
theorem WV{Q:OK}(hu:A.units+9<cLine)(I:Inv X pins B H s)(g:DGet H a y o)(ry:RelV y u)(h:∀s',Inv X pins B H s'->Q (.bool (!o.isSome)) s'):
  wpAny (model X.prog X.w) A (compareOp .NotIn u (.ref a)) Q E s:=by
 rcases g with⟨kvs,k,e,ey,l⟩|⟨kvs,k,b,e,ey,eb,l⟩
 ·subst ey;obtain⟨z,hd,vs,rel,dd⟩:=Ah I.hok e;refine(wpAny_notIn_of (zt ry) hd dd.mapOf ?_);rw[←(rel.val k).isSome_eq,←l];exact h _ (I.tok _)
 ·subst ey;cases (show u=Value.ref b from ry);obtain⟨z,hd,xs,rel,dd⟩:=Au I.hok e;refine(wpAny_notIn_heap (Et hu) (BM I.hok eb) hd dd ?_);have q:=(rel.val k).isSome_eq;rw[Option.isSome_map] at q;rw[←q,←l];exact h _ (I.tok _)
theorem BN{h':Heap}{t':Nat}{ob:HO}(I:Inv X pins B H s)(mu:Mut (H a))(hs:Heap.SameBut a s.heap h')(he:∃q,h'.get? a=some q)(new:ObjOk X.prog X.w (upd H a ob) h' a ob):
  Inv X pins B (upd H a ob) {s with heap:=h',toks:=t'}:=
 I.write (x:=a) (e:=a) mu (.inl rfl) (fun b q hb z=>(hs.2 b hb).trans z) he new
theorem ES{P:Program}{w:World}{H':Hp}{h':Heap}{kvs:List (Key×V)}{vs:List (Key×Value)}(z:kvs.length<=sizeLine)(hd:(a==sysModules)=false)(rel:KV kvs vs)(dd:h'.DictOf (tQ P w) a vs):
  ObjOk P w H' h' a (.dK kvs):=⟨z,hd,vs,rel,dd⟩
theorem Wb{H':Hp}{Q:Unit->Shared->Prop}(hu:A.units+9<cLine)(I:Inv X pins B H s)(g:Dj H a y v H')(ry:RelV y u)(rv:RelV v r)(h:∀s',Inv X pins B H' s'->Q () s'):
  wpAny (model X.prog X.w) A (setItem (.ref a) u r) Q E s:=by
 rcases g with⟨kvs,k,e,ey,l,eH⟩|⟨kvs,k,b,e,ey,eb,l,eH⟩
 ·subst ey eH;obtain⟨z,hd,vs,rel,dd⟩:=xb I.hok e;have hz:vs.length<=sizeLine:=by rw[←rel.length];exact z
  have hl:(sj kvs k v).length<=sizeLine:=by have:=AU kvs k v;omega
  refine(wpAny_setItem_pairs (hsz:=hz) (zt ry) dd fun h' dd' hs=>h _ ?_);have he:∃q,h'.get? a=some q:=let ⟨q,_,_,hq,_⟩:=dd';⟨q,hq⟩
  exact BN I (by rw[e];exact True.intro) hs he (ES hl hd (rel.put k rv) dd')
 ·subst ey eH;cases (show u=Value.ref b from ry);obtain⟨z,hd,xs,rel,dd⟩:=S8 I.hok e;have hz:xs.length<=sizeLine:=by rw[←Paired.length rel];exact z
  have hl:(sj kvs k v).length<=sizeLine:=by have:=AU kvs k v;omega
  refine(wpAny_setItem_heap (hsz:=hz) (Et hu) (BM I.hok eb) dd fun h' dd' hs=>h _ ?_);obtain⟨q,es,ep,hq,h2,h3,h4,_,h5⟩:=dd';refine BN I (by rw[e];exact True.intro) hs ⟨q,hq⟩ ⟨hl,hd,_,(rel.put k eb rv).keeps fun c ys ec=>?_,q,es,ep,hq,h2,h3,h4,h5⟩;rw[qZ (Ug ec e (fun z=>nomatch z))];exact ec
end
def Bf(i:Expr):Prop:=∀ov iv,subscripted i false ov iv=operate [ov,iv] (getItem ov iv)
theorem R0{prog:Program}{w:World}{A:Around}{E:OK}{s:Shared}{env:Env}{value slice:Expr}{pos:Pos}{T id:String}{Q:OK}
  (hl:typeLookup (.type T) "__getitem__"=pure (some (.builtin id))) (hs:Bf slice)
  (h:wpAny (model prog w) A (eval value env) (fun o ZU=>wpAny (model prog w) A (eval slice env) (fun i ZK=>ZK.TypeIs o T/\wpAny (model prog w) A (getItem o i) Q E ZK) E ZU) E s):
  wpAny (model prog w) A (eval (.Subscript value slice pos) env) Q E s:=by
 refine Subscript_ (Xg h (fun o ZU ZR=>Xg ZR (fun i ZK ZC=>?_) fun _ _ x=>x) fun _ _ x=>x);obtain⟨hT,ZC⟩:=ZC;unfold subscriptTail;refine Xb ?_;rw[getitemInPython_of_ne hT.not_modules];refine Xb (wpAny_specialOf hT hl ?_);have fin:wpAny (model prog w) A (subscripted slice false o i) (fun r ZM=>wpAny (model prog w) A (letTemporaryGo value o r >>= fun _=>pure r) Q E ZM) E ZK:=by
  rw[hs o i];exact wpAny_operating (Xg ZC (fun r ZM ZF=>Xb (wpAny_letTemporaryGo (Xf ZF))) fun _ _ x=>x)
 first
  |exact Xf (Xb fin)
  |exact Xb (Xf (Xb fin))
  |exact Xb fin
def UA{X:Cx}{pins:QS}{B:St}{H:Hp}{s:Shared}{a:Addr}{y:V}{o:Option V}(I:Inv X pins B H s)(g:DGet H a y o):s.TypeIs (.ref a) "dict":=by
 rcases g with⟨kvs,k,e,_,_⟩|⟨kvs,k,b,e,_,_,_⟩
 ·obtain⟨_,_,vs,_,dd⟩:=Ah I.hok e;exact dd.typeIs
 ·obtain⟨_,_,xs,_,dd⟩:=Au I.hok e;exact dd.typeIs
def S7(td ty:TE):TE:=fun B H Q=>td B H fun x H1=>ty B H1 fun y H2=>∃a v,x=.ref a/\DGet H2 a y (some v)/\Q v H2
def SA(ty td:TE):TE:=fun B H Q=>ty B H fun y H1=>td B H1 fun x H2=>∃a o,x=.ref a/\DGet H2 a y o/\Q (.bl (!o.isSome)) H2
def Np(td ty tv:TE):TS:=fun D B H=>tv B H fun v H1=>td B H1 fun x H2=>ty B H2 fun y H3=>∃a H4,x=.ref a/\Dj H3 a y v H4/\D.nx B H4
section
variable {X:Cx} {o i value:Expr} {pos pos':Pos} {td ty tv:TE}
theorem Ir(hu:X.A.units+9<cLine)(ho:PE X o td)(hi:PE X i ty)(hs:Bf i):PE X (.Subscript o i pos) (S7 td ty):=by
 intro pins s B H Q I h;refine R0 PySem.F.slot_dict_getitem.lookup hs (thn (ho pins s B H _ I h) fun u s1 ⟨x,H1,I1,rx,q1⟩=>thn (hi pins s1 B H1 _ I1 q1) fun iv s2 hm=>?_);obtain⟨y,H2,I2,ry,a,v,ex,g,q2⟩:=hm;subst ex;obtain rfl:u=Value.ref a:=rx;exact⟨UA I2 g,Ta hu I2 g ry fun w' s3 I3 rw'=>⟨v,H2,I3,rw',q2⟩⟩
theorem QG(hu:X.A.units+9<cLine)(hi:PE X i ty)(ho:PE X o td):PC X .NotIn i o (SA ty td):=by
 intro pins s B H Q I h;refine thn (hi pins s B H _ I h) fun iv s1 ⟨y,H1,I1,ry,q1⟩=>thn (ho pins s1 B H1 _ I1 q1) fun u s2 hm=>?_;obtain⟨x,H2,I2,rx,a,ov,ex,g,q2⟩:=hm;subst ex;obtain rfl:u=Value.ref a:=rx;exact WV hu I2 g ry fun s3 I3=>⟨.bl (!ov.isSome),H2,I3,rfl,q2⟩
theorem We(hu:X.A.units+9<cLine)(ho:PE X o td)(hi:PE X i ty)(hv:PE X value tv)(hs:swapsWith value (some (.Subscript o i pos')) pos.line X.env=pure false):
  PS X (.Assign [.Subscript o i pos'] value pos) (Np td ty tv):=by
 intro pins s B H D I h;refine wpAny_Assign_Subscript (thn (hv pins s B H _ I h) fun r s1 ⟨v,H1,I1,rv,q1⟩=>thn (ho pins s1 B H1 _ I1 q1) fun u s2 ⟨x,H2,I2,rx,q2⟩=>thn (hi pins s2 B H2 _ I2 q2) fun iv s3 hm=>?_) hs;obtain⟨y,H3,I3,ry,a,H4,ex,g,q3⟩:=hm;subst ex;obtain rfl:u=Value.ref a:=rx;exact Wb hu I3 g ry rv fun s4 I4=>⟨B,H4,I4,q3⟩
end
def R5{P:Program}{w:World}{H:Hp}(h:Heap)(hb:sysModules<h.objs.size):ObjOk P w H (h.push {cls:=.type "dict",data:=.dict #[]}) h.objs.size (.dK []):=
 ⟨X2 _,beq_eq_false_iff_ne.mpr (Ne.symm (Xr hb)),[],.nil,Heap.DictOf.new h⟩
def VB{P:Program}{w:World}{H:Hp}(h:Heap)(hb:sysModules<h.objs.size):ObjOk P w H (h.push {cls:=.type "dict",data:=.dict #[]}) h.objs.size (.dT []):=
 ⟨X2 _,beq_eq_false_iff_ne.mpr (Ne.symm (Xr hb)),[],.nil,_,#[],0,Xl _ rfl,⟨rfl,rfl,rfl⟩,rfl,rfl,List.nodup_nil⟩
def RZ:TE:=fun _ H Q=>∀p,H p=none->Q (.ref p) (upd H p (.dK []))
def Wx:TE:=fun _ H Q=>∀p,H p=none->Q (.ref p) (upd H p (.dT []))
section
variable {X:Cx} {pos:Pos}
theorem MY:PE X (.Dict [] [] pos) RZ:=fun pins s B H Q I h=>
 wpAny_Dict_empty ⟨.ref s.heap.objs.size,_,I.laid (a:=s.heap.objs.size) (o:=.dK []) (t':=s.toks) (fun _ _ q=>Xd _ q) (Xc _) (R5 s.heap I.big),rfl,h _ (I.hok.fresh (Xc _))⟩
theorem Qm:PE X (.Dict [] [] pos) Wx:=fun pins s B H Q I h=>
 wpAny_Dict_empty ⟨.ref s.heap.objs.size,_,I.laid (a:=s.heap.objs.size) (o:=.dT []) (t':=s.toks) (fun _ _ q=>Xd _ q) (Xc _) (VB s.heap I.big),rfl,h _ (I.hok.fresh (Xc _))⟩
end
end L2
namespace Att
open PySem PySem.W PySem.Calls PyProof.Rows
def SH{P:Params}{h:Heap}:∀(ns:List Int) (vs:List Value),WellAll P h vs (ns.map WData.int)->IntsAre vs ns:=by
 intro ns;induction ns with
 |nil=>
  intro vs w;rw[List.map_nil] at w;cases w;exact .nil
 |cons n ns ih=>
  intro vs w;rw[Xn] at w;cases w with
  |cons a b=>
   cases a;exact .cons _ _ (ih _ b)
theorem QL{l:OpenLaw}{n:Nat}(hn:l.most=some n){P:Params}{h:Heap}{args:List WData}{vals:List Value}
  (hpre:l.row.toRowW.claim.pre args=true) (hwl:WellAll P h vals args):
  ∃a vs ns,vals=[Value.ref a]/\args=[WData.list (ns.map WData.int)]/\h.get? a=some {cls:=.type "list",data:=.seq vs.toArray}/\IntsAre vs ns/\ns.length<=n:=by
 have hsh:WShape.hasAll [] args [.list .int]=true:=(pre_splitW hpre).1;have hc:l.pre.holds [] {args:=args}=true:=(pre_splitW hpre).2;obtain⟨d,r,rfl,h1,h2⟩:=hasAllW_cons hsh;obtain rfl:=hasAllW_nil h2;obtain⟨xs,rfl,h3⟩:=hasW_list h1;obtain⟨ns,rfl⟩:=items_int h3;have hlen:ns.length<=n:=by
  unfold OpenLaw.pre at hc;have h4:(WTm.not (.lt (.lit (.int (n:Int))) (.len (.arg 0)))).holds [] {args:=[.list (ns.map .int)]}=true:=by
   have h4:=(holds_andW hc).1;rw[hn] at h4;exact h4
  have h5:=condW_of h4 (w_not (w_lt w_lit (w_len_list (w_arg rfl))));rw[Xj] at h5;refine Nat.le_of_not_lt fun q=>?_;have q':(n:Int)<((ns.length:Nat):Int):=by omega
  first
   |(rw[XO q'] at h5;exact absurd h5 (by decide))
   |(simp at h5;omega)
 cases hwl with
 |cons w1 w2=>
  cases w2;cases w1 with
  |list ho hall=>exact⟨_,_,ns,rfl,rfl,ho,SH ns _ hall,hlen⟩
def Ob(l:OpenLaw)(args:List WData):l.row.toRowW.claim.post args (.bool true) args=true:=
 postW_of (r:=l.row.toRowW) (X:=(true==true))
  (show WShape.has [] (.bool true) .bool=true by first|rfl|decide|simp[WShape.has,WShape.arms,WShape.armsAll])
  (show(WTm.eq .res (.lit (.bool true))).value [] {args:=args,res:=some (.bool true),after:=args}=some (.bool (true==true)) from w_eq_bool (w_res rfl) w_lit) rfl
theorem attach_call{l:OpenLaw}{n:Nat}{q:Program}{loose:List Str}{XP:(Str->Option Value)->Heap->Prop}{YP:World->Heap->Prop}{d:DefRec}
  (hn:l.most=some n) (hdf:d.params.defaults=[])
  (call:∀(w:World) (Z4 ZU:Shared) (mg mb:Str->Option Value) (fa:Addr) (o:Obj) (pm cd doc:Value) (a:Addr) (vs:List Value) (ns:List Int),
   Ground q loose [] XP w Z4 mg mb ZU.heap->YP w ZU.heap->
   ZU.heap.get? fa=some o->o.data=.func (docDef d.name d.params d.body d.scope pm cd doc)->ZU.heap.CodeRec cd d.name->mg d.name=some (.ref fa)->
   ZU.heap.get? a=some {cls:=.type "list",data:=.seq vs.toArray}->IntsAre vs ns->ns.length<=n->ZU.gens=#[]->
   codeAny (model l.prog w) callerA (.call (.ref fa) ⟨[.ref a],[]⟩) (fun r s'=>r=.ok (.ret (.bool true))/\OldK ZU.heap s'.heap/\s'.os=ZU.os/\AllBare s'.gens) ZU):
  WalkO q loose XP YP l.row.toRowW d [] (fun f vs=>PySem.call f vs):=by
 intro w Z4 ZU mg mb G Y fa o pm cd doc dV kV ho hd hcd hD hmg hg args vals as hpre hlay hrd hwl hlo;obtain rfl:dV=.none:=Dflts.none hD hdf;obtain rfl:kV=.none:=Dflts.noKw hD;obtain⟨a,vs,ns,rfl,rfl,hobj,hints,hlen⟩:=QL hn hpre hwl;refine(enter_call (codeAny_mono (call w Z4 ZU mg mb fa o pm cd doc a vs ns G Y ho (fd_plain hd) hcd hmg hobj hints hlen hg) fun r s' hq=>?_));obtain⟨rfl,h2,h3,h4⟩:=hq;exact(⟨.inl ⟨.bool true,.bool true,[],rfl,fun _=>rfl,.bool true,Ob l _,fun _=>⟨List.Pairwise.nil,fun _ hm=>(nomatch hm)⟩⟩,h2,h3,h4⟩)
end Att
namespace L2
open PySem PySem.Spec PyProof.Rows
theorem IW:∀{vs:List Value} {ns:List Int},IntsAre vs ns->Vals (ns.map V.int) vs
 |_,_,.nil=>.nil
 |_,_,.cons n t h=>.cons ⟨t,rfl⟩ (IW h)
def Bt(H:Hp):Prop:=∀b,H b=none\/∃o xs,H b=some (.frz o (.lst xs))
theorem Pm{P:Program}{w:World}{K:Frag}{mg mb:Str->Option Value}{CX:CXT}{k:Nat}{fa a:Addr}{fd:FuncData}{x:Str}{sp:Sp}{ZU:Shared}{vs:List Value}{ns:List Int}
  (KX:K.In ZU.heap) (hns:ZU.heap.Ns mainGlobals mg) (hb:ZU.heap.Ns builtinsNs mb) (hbb:∀x:Str,x≠"__name__"->mb x=bootBuiltins x) (hlim:ZU.heap.NoLimit) (hg:ZU.gens=#[])
  (ha:ZU.heap.get? a=some {cls:=.type "list",data:=.seq vs.toArray}) (hi:IntsAre vs ns) (hl:ns.length<=sizeLine) (hr:Room k callerA)
  (F:∀base:Heap,K.In base->base.Ns mainGlobals mg->FnOk P w K mg base CX k fa fd [x] sp) (hbind:∀(s:Shared) (u:Value),BindsTo s fd ⟨[u],[]⟩ [(x,u)])
  (hsp:∀H:Hp,Bt H->SqL K H a (ns.map V.int)->sp [.ref a] H (fun v _=>v=.bl true) fun _ _ _=>False)
  (hCX:∀H e s',CX [] H ZU (fun _ _ _=>False) e s'->False):
  codeAny (model P w) callerA (.call (.ref fa) ⟨[.ref a],[]⟩) (fun r s'=>r=.ok (.ret (.bool true))/\OldK ZU.heap s'.heap/\s'.os=ZU.os/\AllBare s'.gens) ZU:=by
 have rv:=IW hi;have lenV:=hi.length;have core:∀H:Hp,Bt H->SqL K H a (ns.map V.int)->HOk P w H ZU.heap->(∀b,H b≠none->b=a)->(H a≠none->K.lookup a=none)->
   codeAny (model P w) callerA (.call (.ref fa) ⟨[.ref a],[]⟩) (fun r s'=>r=.ok (.ret (.bool true))/\OldK ZU.heap s'.heap/\s'.os=ZU.os/\AllBare s'.gens) ZU:=by
  intro H hO hS hok hA hK;have base_of:∀{b:Addr} {o:Obj},ZU.heap.get? b=some o->H b=none->(vn ZU.heap H).get? b=some o:=fun e n=>TL e n;have noA:∀{b:Addr} {o:Obj} {es:Array DictEntry} {ep:Nat},ZU.heap.get? b=some o->o.data=.dict es ep->H b=none:=fun{b o es ep} e d=>by
   cases q:H b with
   |none=>rfl
   |some u=>
    have e':b=a:=hA b (by rw[q];simp);subst e';rw[ha] at e;cases e;have d':Data.seq vs.toArray _=Data.dict es ep:=d;cases d'
  have nsK:∀{b:Addr} {m:Str->Option Value},ZU.heap.Ns b m->(vn ZU.heap H).Ns b m:=fun{b m} ⟨o,es,ep,e,d,r⟩=>⟨o,es,ep,base_of e (noA e d),d,r⟩
  have hKb:K.In (vn ZU.heap H):=fun b o e=>base_of (KX b o e) (by
   cases q:H b with
   |none=>rfl
   |some u=>
    have e':b=a:=hA b (by rw[q];simp);subst e';rw[hK (by rw[q];simp)] at e;cases e)
  have hM:Mod K mg (vn ZU.heap H):=⟨hKb,nsK hns,⟨mb,nsK hb,hbb⟩,let ⟨mc,h1,h2⟩:=hlim;⟨mc,nsK h1,h2⟩⟩
  have e0:Env0 P w K mg (vn ZU.heap H) callerA [] ZU H:=⟨rfl,hM,fun b o e=>TD e,Nat.le_of_eq (Vs _ _),trivial,fun b hb=>absurd (show b∈([]:List Addr) from hb) (by simp),hok,.of_eq hg⟩
  refine codeAny_mono ((F _ hKb (nsK hns)).run callerA [] ZU H ⟨[.ref a],[]⟩ [.ref a] [.ref a] _ _ hr e0 (hbind ZU (.ref a)) (.cons rfl .nil) (hsp H hO hS)) fun r s' h=>?_;cases r with
  |error e=>exact(hCX H e s' h).elim
  |ok fl=>
   cases fl with
   |next=>exact False.elim h
   |brk=>exact False.elim h
   |cont=>exact False.elim h
   |ret u=>
    obtain⟨v,H',os,bare,un,hok',r',q⟩:=h;have q':v=.bl true:=q;subst q';obtain rfl:u=Value.bool true:=r';refine⟨rfl,OldK.of_keep fun b o e=>?_,os,bare⟩;cases q:H b with
    |none=>exact un.keep b o e q (by intro z;exact absurd (show b∈([]:List Addr) from z) (by simp)) (by simp)
    |some u=>
     rcases hO b with z|⟨ob,xs,z⟩
     ·rw[q] at z;cases z
     ·have z2:=un.frzs b ob _ z;obtain⟨e1,_⟩:=hok b _ z;obtain⟨e2,_⟩:=hok' b _ z2;rw[e] at e1;cases e1;exact e2
 cases hk:K.lookup a with
 |some o=>
  have e:=KX a o hk;rw[ha] at e;cases e;refine core (fun _=>none) (fun _=>.inl rfl) (.inr ⟨_,vs.toArray,_,hk,rfl,rfl,rfl,by rw[Xm,lenV];exact hl,by simpa using rv⟩) (fun b u z=>by have z':(none:Option HO)=some u:=z;cases z') (fun b z=>absurd rfl z) fun z=>absurd rfl z
 |none=>
  refine core (fun b=>if b=a then some (.frz {cls:=.type "list",data:=.seq vs.toArray} (.lst (ns.map V.int))) else none) (fun b=>?_) (.inl (.inr ⟨{cls:=.type "list",data:=.seq vs.toArray},if_pos rfl⟩)) (fun b u z=>?_) (fun b z=>?_) fun _=>hk
  ·by_cases hb:b=a
   ·exact .inr ⟨_,_,if_pos hb⟩
   ·exact .inl (if_neg hb)
  ·by_cases hb:b=a
   ·have z':=(if_pos hb).symm.trans z;cases z';subst hb;exact⟨ha,by rw[Xj];exact hl,vs,_,rv,ha⟩
   ·have z':=(if_neg hb).symm.trans z;cases z'
  ·by_cases hb:b=a
   ·exact hb
   ·exact absurd (if_neg hb) z
theorem walk_of{l:PySem.W.OpenLaw}{n k:Nat}{q:Program}{loose:List Str}{XP:(Str->Option Value)->Heap->Prop}{YP:World->Heap->Prop}{d:DefRec}{K:Params->Frag}{CX:World->CXT}{sp:World->Sp}{x:Str}
  (hn:l.most=some n) (hn2:n<=sizeLine) (hdf:d.params.defaults=[]) (hr:Room k callerA)
  (hY:∀(w:World) (h:Heap),YP w h->(K w.params).In h)
  (F:∀(w:World) (mg:Str->Option Value) (fa:Addr) (h:Heap),(K w.params).In h->h.Ns mainGlobals mg->mg d.name=some (.ref fa)->
   ∃fd:FuncData,(∀(s:Shared) (u:Value),BindsTo s fd ⟨[u],[]⟩ [(x,u)])/\
    ∀base:Heap,(K w.params).In base->base.Ns mainGlobals mg->FnOk l.prog w (K w.params) mg base (CX w) k fa fd [x] (sp w))
  (hsp:∀(w:World) (H:Hp) (a:Addr) (ns:List Int),ns.length<=n->Bt H->SqL (K w.params) H a (ns.map V.int)->sp w [.ref a] H (fun v _=>v=.bl true) fun _ _ _=>False)
  (hCX:∀(w:World) (H:Hp) (s:Shared) (e:Value) (s':Shared),CX w [] H s (fun _ _ _=>False) e s'->False):
  PySem.W.WalkO q loose XP YP l.row.toRowW d [] (fun f vs=>PySem.call f vs):=by
 refine Att.attach_call hn hdf fun w Z4 ZU mg mb fa o pm cd doc a vs ns G Y ho hd hcd hmg hobj hints hlen hg=>?_;have KX:=hY w _ Y;obtain⟨fd,hb,hF⟩:=F w mg fa _ KX G.T.g hmg;exact(Pm KX G.T.g G.T.b G.T.builtins G.T.nolimit hg hobj hints (Xy hlen hn2) hr hF hb (fun H hO hS=>hsp w H a ns hlen hO hS) fun H e s'=>hCX w H ZU e s')
def sq(s:Stmt)(j:Nat):Stmt:=match s with
 | .ClassDef _ _ _ body _ _ _ _ _ _ _=>body.getD j (.Pass ⟨0,0,0,0⟩)
 |_=>.Pass ⟨0,0,0,0⟩
def rz(s:Stmt):Arguments:=match s with
 | .FunctionDef _ a _ _ _ _ _ _ _ _=>a
 |_=>{posonlyargs:=[],args:=[],vararg:=none,kwonlyargs:=[],kw_defaults:=[],kwarg:=none,defaults:=[]}
def rl(s:Stmt):List Stmt:=match s with
 | .FunctionDef _ _ b _ _ _ _ _ _ _=>b
 |_=>[]
def qJ(s:Stmt):Scope:=match s with
 | .FunctionDef _ _ _ _ _ _ sc _ _ _=>sc
 |_=>{kind:=.function,names:=[],isGenerator:=false,isCoroutine:=false}
abbrev CX0:CXT:=fun _ _ _ _ _ _=>False
abbrev E0:XK:=fun _ _ _=>False
def DV{X:Cx}:xy CX0 X E0:=fun _ _ _ _ _ _ _ h=>h.elim
structure Fun (K:Frag) (x qual:Str) (st:Stmt) (f:Addr) (fd:FuncData):Prop where
 ex:∃(oc:Value) (od:Option Addr) (kV doc pm:Value) (an:Option Addr) (cdv ct:Value) (osl:Array (Option Value)),
  fd=fnOf x qual (rz st) (rl st) (qJ st) .none kV doc pm an cdv ct/\K.lookup f=some ⟨oc,od,.func fd,osl⟩/\codeIn K cdv qual=true
 kp:keepIn K (.ref f)=true
section
variable {P:Program} {w:World} {K:Frag} {mg:Str->Option Value} {base:Heap}
theorem Fun.ok{x qual:Str}{st:Stmt}{f:Addr}{fd:FuncData}{N ps:List Str}{k:Nat}{sp:Sp}(F:Fun K x qual st f fd)(S:FnScope N ps (qJ st))(len:∀vs H Q E,sp vs H Q E->vs.length=ps.length)
  (hbody:∀(cdv:Value) (A:Around) (outer:List Env) (s:Shared) (H:Hp) (vs:List V) (Q:VK) (E:XK),Room k (A.deeper (envOfC qual (qJ st) s.heap.objs.size f cdv))->sp vs H Q E->
   ∃t,PSs (rA CX0 P w K mg base N qual (qJ st) f cdv A outer s H E).nox (rl st) t/\t {nx:=fun _ H'=>Q .non H',rt:=Q} (vm N vs) H):FnOk P w K mg base CX0 (k+1) f fd ps sp:=by
 obtain⟨oc,od,kV,doc,pm,an,cdv,ct,osl,rfl,lk,hcd⟩:=F.ex;refine(LL lk hcd S len fun A outer s H vs Q E hr hsp=>?_);obtain⟨t,h,q⟩:=hbody cdv A outer s H vs Q E hr hsp;exact(⟨t,h.nox,q⟩)
theorem Fun.binds{x qual:Str}{st:Stmt}{f:Addr}{fd:FuncData}{ps:List Str}(F:Fun K x qual st f fd)
  (h:∀(kV doc pm:Value) (an:Option Addr) (cdv ct:Value) (us:List Value),us.length=ps.length->bindArgs (fnOf x qual (rz st) (rl st) (qJ st) .none kV doc pm an cdv ct) ⟨us,[]⟩=pure (ps.zip us)):Binds K fd ps []:=by
 obtain⟨oc,od,kV,doc,pm,an,cdv,ct,osl,rfl,lk,hcd⟩:=F.ex;exact(.all (h kV doc pm an cdv ct))
theorem rB{x qual:Str}{st:Stmt}{f:Addr}{oc:Value}{od an:Option Addr}{osl:Array (Option Value)}{kV doc pm cdv ct:Value}(l:K.lookup f=some ⟨oc,od,.func (fnOf x qual (rz st) (rl st) (qJ st) .none kV doc pm an cdv ct),osl⟩)
  (c:codeIn K cdv qual=true) (k:keepIn K (.ref f)=true):Fun K x qual st f (fnOf x qual (rz st) (rl st) (qJ st) .none kV doc pm an cdv ct):=⟨⟨oc,od,kV,doc,pm,an,cdv,ct,osl,rfl,l,c⟩,k⟩
end
section
variable {X:Cx}
theorem pv(i:Nat){x:Str}{pos:Pos}(hN:X.N[i]?=some x:=by rfl)(hv:Vis X.env.scope x:=by first|exact Or.inl rfl|exact Or.inr (Or.inl rfl)|exact Or.inr (Or.inr rfl))(hd:(x==("__debug__":Str))=false:=by decide)
  (hcd:(x==("__classdict__":Str))=false:=by decide):PE X (.Name x pos) (Jl i):=IJ hN hv hd hcd
end
def Dc{A Z7:Prop}(h:Z7):if false=true then A else Z7:=by
 rw[if_neg XR];exact h
def Ej{A Z7:Prop}(h:A):if true=true then A else Z7:=by
 rw[if_pos rfl];exact h
def wo{c A Z7:Prop} [Decidable c](h1:c->A)(h2:¬c->Z7):if c then A else Z7:=by
 by_cases h:c
 ·rw[if_pos h];exact h1 h
 ·rw[if_neg h];exact h2 h
section
variable {κ:Type} [DecidableEq κ]
end
end L2
namespace Tim
open PySem PyProof.Rows
end Tim
namespace L2
open PySem PySem.Spec PyProof.Rows
def qN(X:Cx)(N':List Str)(scope:Scope)(cl:List (Str×Addr))(C:Addr)(Z4:Shared)(Z2:Hp)(ex:List Addr):Cx:=
 {X with N:=N',Z4:=Z4,Z2:=Z2,env:=compEnvC scope cl C X.env,outer:=X.stack,ex:=ex,fn:=fun x=>scope.names.lookup x==some NameKind.cell,pn:=[]}
theorem BZ{env:Env}:∀(names:List (Str×NameKind)) (acc:List (Str×Addr)),(∀y∈names,y.2=.free->∃c,env.cells.lookup y.1=some c)->
  (∀y c,acc.lookup y=some c->env.cells.lookup y=some c)->
  ∃cl,(forIn names acc fun x r=>if(x.2==NameKind.free)=true then do let c ←cellOf env x.1;pure (ForInStep.yield ((x.1,c)::r)) else pure (ForInStep.yield r):Sem (List (Str×Addr)))=pure cl/\
   (∀y c,cl.lookup y=some c->env.cells.lookup y=some c)/\(∀y,(y,NameKind.free)∈names->∃c,cl.lookup y=some c)/\∀y c,acc.lookup y=some c->∃c',cl.lookup y=some c'
 | [],acc,_,ha=>⟨acc,by simp,ha,fun _ h=>by simp at h,fun y c h=>⟨c,h⟩⟩
 |(n,k)::r,acc,h,ha=>by
  by_cases hk:k=.free
  ·subst hk;obtain⟨c,hc⟩:=h (n,.free) Yu rfl;have e:cellOf env n=pure c:=by unfold cellOf;rw[hc]
   obtain⟨cl,e1,h1,h2,h3⟩:=BZ r ((n,c)::acc) (fun y hy=>h y (XF _ hy)) (fun y d hd=>by
    rw[Xx] at hd;split at hd
    ·rename_i hb;have:y=n:=by simpa using hb
     subst this;cases hd;exact hc
    ·exact ha y d hd)
   refine⟨cl,?_,h1,fun y hy=>?_,fun y d hd=>?_⟩
   ·rw[List.forIn_cons,e];simpa using e1
   ·rcases XB.mp hy with z|z
    ·cases z;exact h3 n c (by simp[Xx])
    ·exact h2 y z
   ·by_cases hy:y=n
    ·subst hy;exact h3 y c (by simp[Xx])
    ·have hb:(y==n)=false:=by simpa using hy
     exact h3 y d (by simp only[Xx,hb];exact hd)
  ·have hb:(k==NameKind.free)=false:=by simpa using hk
   obtain⟨cl,e1,h1,h2,h3⟩:=BZ r acc (fun y hy=>h y (XF _ hy)) ha;refine(⟨cl,?_,h1,fun y hy=>?_,h3⟩)
   ·rw[List.forIn_cons];simpa[hb] using e1
   ·rcases XB.mp hy with z|z
    ·cases z;exact absurd rfl hk
    ·exact h2 y z
theorem yl{scope:Scope}{env:Env}(h:∀y∈scope.names,y.2=.free->∃c,env.cells.lookup y.1=some c):
  ∃cl,closureFor scope env=pure cl/\(∀y c,cl.lookup y=some c->env.cells.lookup y=some c)/\∀y,(y,NameKind.free)∈scope.names->∃c,cl.lookup y=some c:=by
 obtain⟨cl,e,h1,h2,_⟩:=BZ (env:=env) scope.names [] h (fun _ _ z=>by simp at z);refine(⟨cl,?_,h1,h2⟩);unfold closureFor;show((forIn scope.names [] fun x r=>if(x.2==NameKind.free)=true then do let c ←cellOf env x.1;pure (ForInStep.yield ((x.1,c)::r)) else pure (ForInStep.yield r):Sem (List (Str×Addr))) >>= fun cs=>pure cs)=pure cl;rw[e];rfl
section
variable {prog:Program} {w:World} {A:Around} {R:Result->Shared->Prop} {s:Shared}
theorem SE{elt target iter:Expr}{ifs:List Expr}{scope:Scope}{pos:Pos}{it acc:Value}{env:Env}(I:Nat->Shared->Prop)
  (turn:∀n s,I n s->wpAny (model prog w) A (pyNext it) (fun r ZU=>match r with
   |none=>R (.ok .next) ZU
   |some v=>wpAny (model prog w) A (letOwnedTupleGo target it v) (fun _ ZB=>wpAny (model prog w) A (assign target env v) (fun _ ZK=>
     wpAny (model prog w) A (forIn ifs true fun c r=>if r=true then do let ok ←isTrue c env (eval c env);pure (ForInStep.yield ok) else pure (ForInStep.yield r)) (fun ok ZM=>
      if ok=true then wpAny (model prog w) A (eval elt env) (fun x ZH=>
       wpAny (model prog w) A (call (.builtin "list.append") [acc,x]) (fun _ ZE=>∃m,m<n/\I m ZE) (fun _ _=>False) ZH) (fun _ _=>False) ZM
      else ∃m,m<n/\I m ZM) (fun _ _=>False) ZK) (fun _ _=>False) ZB) (fun _ _=>False) ZU) (fun _ _=>False) s)
  (n:Nat) (h:I n s):codeAny (model prog w) A (.compLoop (.ListComp elt [⟨target,iter,ifs,0⟩] scope pos) 0 it acc env) R s:=by
 refine codeAny_loop rfl I (fun n s hI=>?_) n h;show wpAny _ A ((compTurn (.ListComp elt [⟨target,iter,ifs,0⟩] scope pos) 0 it acc env).onRaise (fun x=>do noteFrame x env;theTreesLotGoes x)) _ _ s;refine wpAny_noted ?_;rw[compTurn_list];refine Xg (E:=fun _ _=>False) ?_ (fun _ _ x=>x) fun _ _ x=>x.elim;refine Xb (Ye (Xb (Xg (turn n s hI) (fun r ZU ZR=>?_) fun _ _ h'=>h')));cases r with
 |none=>exact Xf ZR
 |some v=>
  refine Xb (Xg ZR (fun _ ZB Zw=>?_) fun _ _ h'=>h');refine Xb (Xg Zw (fun _ ZK ZC=>Xb (Xg ZC (fun ok ZM ZF=>?_) fun _ _ h'=>h')) fun _ _ h'=>h');cases ok with
  |false=>exact Xf ⟨rfl,ZF⟩
  |true=>
   exact Xb (Xb (Xg ZF (fun x ZH Zv=>Xb (Xg Zv (fun _ ZE Zu=>Xf (Xf ⟨rfl,Zu⟩)) fun _ _ h'=>h')) fun _ _ h'=>h'))
end
theorem Jc{env:Env}{x:Str}:∀{names:List (Str×NameKind)},names.lookup x=some .free->
  (names.map fun(n,k)=>if(k==NameKind.free&&env.scope.kind==.function&&env.kindOf n==some .cell) then(n,NameKind.cell) else(n,k)).lookup x=some .free\/
  (names.map fun(n,k)=>if(k==NameKind.free&&env.scope.kind==.function&&env.kindOf n==some .cell) then(n,NameKind.cell) else(n,k)).lookup x=some .cell
 | [],h=>by simp at h
 |(n,k)::r,h=>by
  have ih:=@Jc env x r;show List.lookup x ((if(k==NameKind.free&&env.scope.kind==.function&&env.kindOf n==some .cell)=true then(n,NameKind.cell) else(n,k))::_)=_\/List.lookup x ((if(k==NameKind.free&&env.scope.kind==.function&&env.kindOf n==some .cell)=true then(n,NameKind.cell) else(n,k))::_)=_;cases hx:x==n with
  |true=>
   simp only[Xx,hx] at h;cases h;by_cases hc:(NameKind.free==NameKind.free&&env.scope.kind==.function&&env.kindOf n==some .cell)=true
   ·rw[if_pos hc];exact .inr (by simp[Xx,hx])
   ·rw[if_neg hc];exact .inl (by simp[Xx,hx])
  |false=>
   simp only[Xx,hx] at h;by_cases hc:(k==NameKind.free&&env.scope.kind==.function&&env.kindOf n==some .cell)=true
   ·rw[if_pos hc];simp only[Xx,hx];exact ih h
   ·rw[if_neg hc];simp only[Xx,hx];exact ih h
theorem GL{env:Env}{x:Str}:∀{names:List (Str×NameKind)},
  ((names.map fun(n,k)=>if(k==NameKind.free&&env.scope.kind==.function&&env.kindOf n==some .cell) then(n,NameKind.cell) else(n,k)).lookup x=some .cell\/
   (names.map fun(n,k)=>if(k==NameKind.free&&env.scope.kind==.function&&env.kindOf n==some .cell) then(n,NameKind.cell) else(n,k)).lookup x=some .free)->names.lookup x=some .free\/names.lookup x=some .cell
 | [],h=>by simp at h
 |(n,k)::r,h=>by
  have ih:=@GL env x r;have h:List.lookup x ((if(k==NameKind.free&&env.scope.kind==.function&&env.kindOf n==some .cell)=true then(n,NameKind.cell) else(n,k))::(r.map fun(n,k)=>if(k==NameKind.free&&env.scope.kind==.function&&env.kindOf n==some .cell) then(n,NameKind.cell) else(n,k)))=some .cell\/
   List.lookup x ((if(k==NameKind.free&&env.scope.kind==.function&&env.kindOf n==some .cell)=true then(n,NameKind.cell) else(n,k))::(r.map fun(n,k)=>if(k==NameKind.free&&env.scope.kind==.function&&env.kindOf n==some .cell) then(n,NameKind.cell) else(n,k)))=some .free:=h
  cases hx:x==n with
  |true=>
   by_cases hc:(k==NameKind.free&&env.scope.kind==.function&&env.kindOf n==some .cell)=true
   ·have:k=.free:=by
     have z:=(Bool.and_eq_true_iff.mp (Bool.and_eq_true_iff.mp hc).1).1;simpa using z
    subst this;exact .inl (by simp[Xx,hx])
   ·rw[if_neg hc] at h;simp only[Xx,hx] at h⊢;exact h.symm
  |false=>
   have:∀p:NameKind,List.lookup x ((if(k==NameKind.free&&env.scope.kind==.function&&env.kindOf n==some .cell)=true then(n,NameKind.cell) else(n,k))::(r.map fun(n,k)=>if(k==NameKind.free&&env.scope.kind==.function&&env.kindOf n==some .cell) then(n,NameKind.cell) else(n,k)))=some p↔(r.map fun(n,k)=>if(k==NameKind.free&&env.scope.kind==.function&&env.kindOf n==some .cell) then(n,NameKind.cell) else(n,k)).lookup x=some p:=fun p=>by
    by_cases hc:(k==NameKind.free&&env.scope.kind==.function&&env.kindOf n==some .cell)=true
    ·rw[if_pos hc];simp only[Xx,hx]
    ·rw[if_neg hc];simp only[Xx,hx]
   rw[this .cell,this .free] at h;have:=ih h;simp only[Xx,hx];exact this
theorem uX:∀(names:List (Str×NameKind)) (n:Nat) (acc:List (Str×Addr)),cellsFrom n names acc=cellsFrom n names []++acc
 | [],_,_=>rfl
 |(name,kind)::r,n,acc=>by
  unfold cellsFrom;split
  ·rw[uX r (n+1) ((name,n)::acc),uX r (n+1) [(name,n)],List.append_assoc];rfl
  ·exact uX r n acc
theorem Ex{x:Str}{c:Addr}:∀(names:List (Str×NameKind)) (n:Nat) (acc:List (Str×Addr)),(x,c)∈cellsFrom n names acc->(x,NameKind.cell)∈names\/(x,c)∈acc
 | [],_,_,h=>.inr h
 |(name,kind)::r,n,acc,h=>by
  unfold cellsFrom at h;split at h
  ·rename_i hk;have hk':kind=.cell:=by simpa using hk
   rcases Ex r (n+1) _ h with z|z
   ·exact .inl (XF _ z)
   ·rcases XB.mp z with z|z
    ·cases z;rw[hk'];exact .inl Yu
    ·exact .inr z
  ·rcases Ex r n acc h with z|z
   ·exact .inl (XF _ z)
   ·exact .inr z
structure CompScope (X:Cx) (N' own:List Str) (cap:List (Str×Nat)) (scope:Scope):Prop where
 kind:scope.kind=.function
 own1:∀y∈scope.names,y.2=.cell->scope.names.lookup y.1=some .cell
 free1:∀y∈scope.names,y.2=.free->scope.names.lookup y.1=some .free
 names:∀y∈scope.names,y.2=.local->scope.names.lookup y.1=some .local
 free:∀y∈scope.names,y.2=.free->X.env.kindOf y.1=some .cell\/X.env.kindOf y.1=some .free
 eq:N'=own++cap.map (·.1)
 cap:∀p∈cap,X.N[p.2]?=some p.1/\scope.names.lookup p.1=some .free/\(X.env.kindOf p.1=some .cell\/X.env.kindOf p.1=some .free)
def sK(own:List Str)(cap:List (Str×Nat))(B:St):St:=own.map (fun _=>none)++cap.map fun p=>(B[p.2]?).join
section
variable {X:Cx} {pins:QS} {B:St} {H:Hp} {s:Shared} {N' own:List Str} {cap:List (Str×Nat)} {scope:Scope} {cl:List (Str×Addr)} {fp:List Addr}
structure CellsAre (X:Cx) (scope:Scope) (C:Addr) (cl cs:List (Str×Addr)):Prop where
 old:∀y c,cs.lookup y=some c->(cl.lookup y=some c/\scope.names.lookup y≠some .cell)\/(C<c/\scope.names.lookup y=some .cell)
 free:∀y c,cl.lookup y=some c->scope.names.lookup y≠some .cell->cs.lookup y=some c
 has:∀y,scope.names.lookup y=some .cell->∃c,cs.lookup y=some c
 inj:∀x y c,C<c->cs.lookup x=some c->cs.lookup y=some c->x=y
theorem wy{α:Type}{x:Str}:∀{l r:List (Str×α)},(l++r).lookup x=(l.lookup x).or (r.lookup x)
 | [],r=>by simp
 |(k,v)::l,r=>by
  have ih:=@wy α x l r;rw[List.cons_append,Xx,Xx];cases x==k with
  |true=>rfl
  |false=>exact ih
theorem EO{h:Heap}{C:Addr}(hC:h.objs.size=C+1)(S:CompScope X N' own cap scope)(hcl:∀y c,cl.lookup y=some c->¬C<c):CellsAre X scope C cl (cellsFrom (C+1) scope.names cl):=by
 have ok:=cellsFrom_ok scope.names h (C+1) [] ⟨fun _ _ hm=>(nomatch hm),List.Pairwise.nil⟩ (by rw[hC];exact Xc _);rw[hC] at ok;have own:∀y c,(cellsFrom (C+1) scope.names []).lookup y=some c->C<c/\scope.names.lookup y=some .cell:=fun y c e=>by
  have m:=XQ e;refine⟨(ok.empty y c m).2,?_⟩;rcases Ex _ _ _ m with z|z
  ·exact S.own1 _ z rfl
  ·simp at z
 have no:∀y,scope.names.lookup y≠some .cell->(cellsFrom (C+1) scope.names []).lookup y=none:=fun y hy=>by
  cases e:(cellsFrom (C+1) scope.names []).lookup y with
  |none=>rfl
  |some c=>exact absurd (own y c e).2 hy
 have has:∀y,scope.names.lookup y=some .cell->∃c,(cellsFrom (C+1) scope.names []).lookup y=some c:=fun y hy=>X1.mp (PySem.W.cellsFrom_some scope.names (C+1) [] (.inl hy));refine⟨fun y c e=>?_,fun y c e hy=>?_,fun y hy=>?_,fun x y c hc e1 e2=>?_⟩
 ·rw[uX,wy] at e;cases q:(cellsFrom (C+1) scope.names []).lookup y with
  |none=>
   rw[q] at e;refine .inl ⟨e,fun z=>?_⟩;obtain⟨c',e'⟩:=has y z;rw[q] at e';cases e'
  |some c'=>
   rw[q] at e;have:c'=c:=Xv e;subst this;exact .inr (own y c' q)
 ·rw[uX,wy,no y hy];exact e
 ·obtain⟨c,e⟩:=has y hy;exact⟨c,by rw[uX,wy,e];rfl⟩
 ·have CV:∀z,(cellsFrom (C+1) scope.names cl).lookup z=some c->(z,c)∈cellsFrom (C+1) scope.names []:=fun z e=>by
   rw[uX,wy] at e;cases q:(cellsFrom (C+1) scope.names []).lookup z with
   |none=>rw[q] at e;exact absurd hc (hcl z c e)
   |some c'=>
    rw[q] at e;have:c'=c:=Xv e;subst this;exact XQ q
  exact PySem.name_of_addr ok.apart (CV x e1) (CV y e2)
theorem Ov(I:Inv X pins B H s)(S:CompScope X N' own cap scope){cs:List (Str×Addr)}(A:CellsAre X scope s.heap.objs.size cl cs)(c1:∀y c,cl.lookup y=some c->X.env.cells.lookup y=some c)(c2:∀y,(y,NameKind.free)∈scope.names->∃c,cl.lookup y=some c)
  (hf:∀b∈fp,sg X pins H b) (hlt:∀b∈fp,b<s.heap.objs.size):(qN X N' scope cs s.heap.objs.size s H fp).Ok where
 mod:=I.ok.mod
 kind:=S.kind
 glob:=I.ok.glob
 blt:=I.ok.blt
 above:=Xc _
 inj:=fun x y c h1 h2=>by
  rcases A.old x c h1 with⟨a1,_⟩|⟨a1,_⟩
  ·rcases A.old y c h2 with⟨b1,_⟩|⟨b1,_⟩
   ·exact I.ok.inj x y c (c1 x c a1) (c1 y c b1)
   ·obtain⟨v,o,ho,_⟩:=I.cell x c (c1 x c a1);exact absurd (Nat.lt_trans b1 (Xi ho)) (X0 _)
  ·exact A.inj x y c a1 h1 h2
 has:=fun x h=>by
  rcases GL h with z|z
  ·obtain⟨c,e⟩:=c2 x (XQ z);exact⟨c,A.free x c e (by rw[z];simp)⟩
  ·exact A.has x z
 cab:=fun x c h e=>by
  have h':scope.names.lookup x=some .cell:=by
   have:(scope.names.lookup x==some NameKind.cell)=true:=h;simpa using this
  rcases A.old x c e with⟨_,z⟩|⟨z,_⟩
  ·exact absurd h' z
  ·exact Nat.le_of_lt z
 hd:=I.ok.hd
 frames:=I.ok.frames
 stk:=.inl rfl
 exf:=fun b hb=>⟨Xr (hlt b hb),fun x c h=>by
  rcases A.old x c h with⟨z,_⟩|⟨z,_⟩
  ·exact(hf b hb).2.2.2.2.1 x c (c1 x c z)
  ·exact fun e=>absurd (Nat.lt_trans (e▸z) (hlt b hb)) (X0 _)⟩
 bs:=I.bs
 bsz:=Xy I.ok.bsz I.sz
 noex:=fun b o e hb=>by
  rcases(hf b hb).2.2.2.1 with z|z
  ·exact I.ok.noex b o e z
  ·exact absurd (Xu (Xi e) (Xy I.ok.bsz z)) (X0 _)
 exfs:=fun b hb z=>by
  rcases XB.mp (I.stkSub b z) with q|q
  ·exact(hf b hb).2.1 q
  ·exact(hf b hb).2.2.1 q
 funs:=I.stack
 frf:=I.stkFree
theorem comp_inv{h':Heap}{t':Nat}{cs:List (Str×Addr)}(I:Inv X pins B H s)(S:CompScope X N' own cap scope)(A:CellsAre X scope s.heap.objs.size cl cs)(hA:∀y c,cs.lookup y=some c->s.heap.objs.size<c->h'.IsCell c none)
  (c1:∀y c,cl.lookup y=some c->X.env.cells.lookup y=some c) (c2:∀y,(y,NameKind.free)∈scope.names->∃c,cl.lookup y=some c)
  (hf:∀b∈fp,sg X pins H b) (hlt:∀b∈fp,b<s.heap.objs.size) (hk:∀b o,s.heap.get? b=some o->h'.get? b=some o) {m:Str->Option Value} (hn:h'.Ns s.heap.objs.size m):
  Inv (qN X N' scope cs s.heap.objs.size s H fp) [] (sK own cap B) H {s with heap:=h',toks:=t'}:=by
 refine⟨Ov I S A c1 c2 hf hlt,rfl,I.bare,Un.kept hk,⟨m,hn,fun i x v h1 h2 h3=>?_⟩,fun x c e=>?_,I.hok.fresh (Xc _),fun x c e=>?_,fun p hp=>absurd hp (by show p∉([]++[]:QS);simp),?_,?_⟩
 ·have hi:own.length<=i:=by
   by_cases hi:own.length<=i
   ·exact hi
   ·unfold sK at h2;rw[Xq (by rw[Xj];omega),Xw] at h2;cases e:own[i]? with
    |none=>rw[e] at h2;cases h2
    |some a=>rw[e] at h2;cases h2
  have h1':(own++cap.map (·.1))[i]?=some x:=by rw[←S.eq];exact h1
  rw[XH hi,Xw] at h1';unfold sK at h2;rw[XH (by rw[Xj];exact hi),Xj,Xw] at h2;cases e:cap[i - own.length]? with
  |none=>rw[e] at h2;cases h2
  |some p=>
   rw[e] at h1' h2;have ex:p.1=x:=Xv h1';have ev:(B[p.2]?).join=some v:=Xv h2;have ev':B[p.2]?=some (some v):=by
    cases q:B[p.2]? with
    |none=>rw[q] at ev;cases ev
    |some z=>rw[q] at ev;exact congrArg some ev
   obtain⟨k1,k2,k3⟩:=S.cap p (List.mem_of_getElem? e);subst ex;obtain⟨m0,hn0,hl⟩:=I.loc;obtain⟨u,ru,lk⟩:=hl p.2 p.1 v k1 ev' (by rcases k3 with z|z;exact .inr (.inl z);exact .inr (.inr z));refine(⟨u,ru,?_⟩);rcases lk with⟨z,_⟩|⟨_,c,hc,hcell⟩
   ·rcases k3 with q|q<;>(rw[z] at q;cases q)
   ·refine .inr ⟨?_,c,?_,?_⟩
    ·rcases Jc (env:=X.env) k2 with q|q
     ·exact .inr q
     ·exact .inl q
    ·obtain⟨c',e'⟩:=c2 p.1 (XQ k2);have:=c1 _ _ e';rw[hc] at this;cases this;exact A.free _ _ e' (by rw[k2];simp)
    ·obtain⟨o,ho,hd⟩:=hcell;exact⟨o,hk _ _ ho,hd⟩
 ·rcases A.old x c e with⟨z,_⟩|⟨z,_⟩
  ·obtain⟨v,o,ho,hd⟩:=I.cell x c (c1 x c z);exact⟨v,o,hk _ _ ho,hd⟩
  ·exact⟨none,hA x c e z⟩
 ·rcases A.old x c e with⟨z,_⟩|⟨z,_⟩
  ·exact I.freeC x c (c1 x c z)
  ·exact I.hok.fresh (Nat.le_of_lt z)
 ·exact I.hok.kept hk
 ·show(sK own cap B).length=N'.length;rw[S.eq];unfold sK;simp
end
def PIf(X:Cx)(ifs:List Expr)(t:TT):Prop:=
 ∀(pins:QS) (s:Shared) (B:St) (H:Hp) (Q:Bool->Hp->Prop),Inv X pins B H s->t B H Q->
  wpAny (model X.prog X.w) X.A (forIn ifs true fun c r=>if r=true then do let ok ←isTrue c X.env (eval c X.env);pure (ForInStep.yield ok) else pure (ForInStep.yield r)) (TP X pins B Q) X.xe s
def Ux:TT:=fun _ H Q=>Q true H
def Sl{X:Cx}:PIf X [] Ux:=fun _ _ _ H _ I h=>wpAny_tests_nil ⟨H,I,h⟩
def QT{X:Cx}{c:Expr}{t:TT}(h:PT X c t):PIf X [c] t:=fun pins s B H Q I hw=>wpAny_tests_one (h pins s B H Q I hw)
theorem DJ{M:Model}{A:Around}{E:OK}{s:Shared}{scope:Scope}{globals:Addr}{cl:List (Str×Addr)}{qual:Str}{env:Env}{Q:Env->Shared->Prop}
  (hQ:∀h',h'.Ns s.heap.objs.size (fun _=>none)->(∀b o,s.heap.get? b=some o->h'.get? b=some o)->(∀n c,(n,c)∈cellsFrom (s.heap.objs.size+1) scope.names []->h'.IsCell c none)->
   Q (newEnv scope s.heap.objs.size globals (cellsFrom (s.heap.objs.size+1) scope.names cl) qual none .none (some env) builtinsNs) {s with heap:=h'}):
  wpAny M A (newFunctionEnv scope globals cl [] qual none .none (some env)) Q E s:=by
 simp only[newFunctionEnv,Option.isSome_some,if_true];refine Xb (wpAny_alloc ?_);refine Xb (wpAny_layCells _ (fun name kind cells=>by cases hkc:kind==NameKind.cell<;>simp[hkc]) _ _ _ _ ?_);have ok:=cellsFrom_ok scope.names (s.heap.push {cls:=.type "dict",data:=.dict #[]}) (s.heap.objs.size+1) [] ⟨fun _ _ hm=>(nomatch hm),List.Pairwise.nil⟩ (by rw[X7];exact Xc _);rw[X7] at ok;rw[show({s with heap:=s.heap.push {cls:=.type "dict",data:=.dict #[]}}:Shared).heap.objs.size=s.heap.objs.size+1 from X7 ..];rw[List.forIn_nil];refine Xb (Xf (Xf ?_));exact hQ _ ((Heap.Ns.new s.heap (.type "dict")).keeps (pushCells_keeps _ _)) (fun b o e=>pushCells_keeps _ _ b o (Xd _ e)) fun n c hm=>(ok.empty n c hm).1
def yt(J:It)(g:TG)(tc:TT)(te:TE)(D:Addr)(ZO:St)(H0:Hp)(Z:Hp->Prop):Prop:=
 ∃W:Nat->Nat->St->Hp->Prop,(∃m,W 0 m ZO (upd H0 D (.lst [])))/\∀i m B H,W i m B H->
  (J.stop i H/\Z H)\/(J.go i H/\∃N:St->Hp->Prop,(∀Z0 H',N Z0 H'->∃m',m'<m/\W (i+1) m' Z0 H')/\∀x H',J.yld i H x H'->g x B H' fun ZW H2=>tc ZW H2 fun b H3=>
   if b=true then te ZW H3 fun v H4=>∃ys,H4 D=some (.lst ys)/\ys.length<sizeLine/\N ZW (upd H4 D (.lst (ys++[v]))) else N ZW H3)
section
variable {X:Cx} {pins:QS} {B:St} {N' own:List Str} {cap:List (Str×Nat)} {scope:Scope} {tg iter elt:Expr} {ifs:List Expr} {pos:Pos} {g:TG} {tc:TT} {te:TE}
theorem PZ{Y:Cx}{s:Shared}{ZO:St}{H2:Hp}{it D:Addr}{fp:List Addr}{tn:Nat->Heap->Prop}{J:It}{Z:Hp->Prop}{R:Result->Shared->Prop}
  (hx:∀e s,Y.xe e s->False) (hc:Y.calm=true) (hg:PG Y tg g) (ht:PIf Y ifs tc) (he:PE Y elt te)
  (T:Turn Y.prog Y.w Y.K tg J fp it tn) (J0:Inv Y [] ZO (upd H2 D (.lst [])) s) (st3:tn 0 s.heap) (f3:∀b∈fp,upd H2 D (.lst []) b=none)
  (stat:∀{H':Hp},(∀b∈fp,H' b=none)->∀b∈fp,sg Y [] H' b) (h:yt J g tc te D ZO H2 Z)
  (hR:∀ZQ H4 s5,Inv Y [] ZQ H4 s5->Z H4->R (.ok .next) s5):
  codeAny (model Y.prog Y.w) Y.A (.compLoop (.ListComp elt [⟨tg,iter,ifs,0⟩] scope pos) 0 (.ref it) (.ref D) Y.env) R s:=by
 obtain⟨W,⟨m0,w0⟩,turn⟩:=h;have noX:∀{α:Type} {t:Sem α} {Q:α->Shared->Prop} {s:Shared},wpAny (model Y.prog Y.w) Y.A t Q Y.xe s->wpAny (model Y.prog Y.w) Y.A t Q (fun _ _=>False) s:=fun q=>Xg q (fun _ _ z=>z) fun e s z=>hx e s z;obtain⟨P,hP⟩:∃P:Nat->Shared->Prop,∀n s',P n s'↔∃i Z0 H',Inv Y [] Z0 H' s'/\tn i s'.heap/\(∀b∈fp,H' b=none)/\W i n Z0 H':=⟨_,fun _ _=>Iff.rfl⟩
 refine SE P ?_ m0 ((hP _ _).2 ⟨0,_,_,J0,st3,f3,w0⟩);rintro n s4 h4;obtain⟨i,ZQ,H4,I4,st4,fr4,w4⟩:=(hP _ _).1 h4;rcases turn i n ZQ H4 w4 with⟨stop,qz⟩|⟨go,N,hN,step⟩
 ·refine Xg (T.done Y rfl rfl rfl hc i [] s4 ZQ H4 (fun _ _=>False) I4 (stat fr4) st4 stop) (fun r s5 ⟨hr,I5⟩=>?_) fun _ _ z=>z;subst hr;exact hR ZQ H4 s5 I5 qz
 ·refine Xg (T.item Y rfl rfl rfl hc i [] s4 ZQ H4 (fun _ _=>False) I4 (stat fr4) st4 go) (fun r s5 ⟨u,hr,h5⟩=>?_) fun _ _ z=>z;subst hr;refine Xg h5 (fun _ s6 hm=>?_) fun _ _ z=>z;obtain⟨x,H6,I6,r6,y6,st6,fr6⟩:=hm;have I6':=I6.pinned (stat fr6) (T.obj _ _ st6);have again:∀{ZT:St} {H7:Hp} {s7:Shared},Inv Y ([]++wg fp s6.heap) ZT H7 s7->N ZT H7->∃m,m<n/\P m s7:=fun{ZT H7 s7} I7 n7=>by
   obtain⟨m',hm,w7⟩:=hN ZT H7 n7;refine(⟨m',hm,(hP _ _).2 ⟨i+1,ZT,H7,I7.unpinned,T.keep _ _ _ st6 fun b hb o e=>(I7.pin (b,o) (Xo _ (Xo _ (va hb e)))).1,fun b hb=>?_,w7⟩⟩);obtain⟨o,e,d⟩:=T.obj _ _ st6 b hb;exact((I7.pin (b,o) (Xo _ (Xo _ (va hb e)))).2.1)
  refine noX (thn (hg _ s6 ZQ H6 x u _ I6' r6 (step x H6 y6)) fun _ s7 hm=>?_);obtain⟨ZT,H7,I7,q7⟩:=hm;refine(noX (thn (ht _ s7 ZT H7 _ I7 q7) fun b s8 hm=>?_));obtain⟨H8,I8,q8⟩:=hm;cases b with
  |false=>
   show ∃m,_;exact again I8 q8
  |true=>
   show wpAny _ _ _ _ _ _;refine noX (thn (he _ s8 ZT H8 _ I8 q8) fun y s9 hm=>?_);obtain⟨v,H9,I9,r9,ys,hy,hz,q9⟩:=hm;refine(noX (thn (Eo (X:=Y) _ s9 ZT H9 (.ref D) [v] (.ref D) [y] (fun _ H'=>N ZT H') I9 rfl (.cons r9 .nil) ⟨_,ys,v,rfl,rfl,hy,hz,q9⟩) fun _ s10 hm=>?_));obtain⟨_,H10,I10,_,q10⟩:=hm;exact(again I10 q10)
theorem Cm{s2:Shared}{H2:Hp}{it:Addr}{fp:List Addr}{tn:Nat->Heap->Prop}{J:It}{cl:List (Str×Addr)}{Z:Addr->Hp->Prop}{RR:Value->Addr->Result->Shared->Prop}{E:OK}
  (hx:∀e s,X.xe e s->False) (hc:X.calm=true) (S:CompScope X N' own cap scope)
  (hg:∀cl C Z4 Z2 ex,PG (qN X N' scope cl C Z4 Z2 ex) tg g) (ht:∀cl C Z4 Z2 ex,PIf (qN X N' scope cl C Z4 Z2 ex) ifs tc) (he:∀cl C Z4 Z2 ex,PE (qN X N' scope cl C Z4 Z2 ex) elt te)
  (I2:Inv X pins B H2 s2) (T:Turn X.prog X.w X.K tg J fp it tn) (st2:tn 0 s2.heap) (f2:∀b∈fp,sg X pins H2 b)
  (c1:∀y c,cl.lookup y=some c->X.env.cells.lookup y=some c) (c2:∀y,(y,NameKind.free)∈scope.names->∃c,cl.lookup y=some c)
  (h:∀D,H2 D=none->yt J g tc te D (sK own cap B) H2 (Z D))
  (hRR:∀D C s' m' H',Inv X pins B H' s'->s'.heap.Ns C m'->sg X pins H' C->Z D H'->RR (.ref D) C (.ok .next) s'):
  wpAny (model X.prog X.w) X.A (newList []) (fun acc ZM=>wpAny (model X.prog X.w) X.A (newFunctionEnv scope X.env.globals cl [] X.env.qual none .none (some X.env)) (fun cenv ZH=>
   codeAny (model X.prog X.w) X.A (.compStart (.ListComp elt [⟨tg,iter,ifs,0⟩] scope pos) 0 (.ref it) acc {cenv with scope:=relabel scope X.env}) (RR acc cenv.locals) ZH) E ZM) E s2:=by
 have hlt:∀b∈fp,b<s2.heap.objs.size:=fun b hb=>by
  obtain⟨o,e,_⟩:=T.obj _ _ st2 b hb;exact(Xi e)
 have hD:H2 s2.heap.objs.size=none:=I2.hok.fresh (Xc _);refine X5 (DJ (fun ZR ZA Zz Zy=>?_));dsimp only at ZA Zz Zy⊢;have I3:Inv X pins B (upd H2 s2.heap.objs.size (.lst [])) {s2 with heap:=s2.heap.push {cls:=.type "list",dict:=none,data:=.seq ([]:List Value).toArray},toks:=s2.toks}:=
  I2.laid (fun b o e=>Xd _ e) (Xc _) ⟨X2 _,[],0,.nil,Xl _ rfl⟩
 generalize hs3:({s2 with heap:=s2.heap.push {cls:=.type "list",dict:=none,data:=.seq ([]:List Value).toArray},toks:=s2.toks}:Shared)=s3 at I3;have e3:s2.heap.push {cls:=.type "list",dict:=none,data:=.seq ([]:List Value).toArray}=s3.heap:=by rw[←hs3]
 have hsz:s3.heap.objs.size=s2.heap.objs.size+1:=by rw[←e3,X7]
 rw[e3] at ZA Zz Zy⊢;have hk:=Zz;have hcl:∀y c,cl.lookup y=some c->¬s3.heap.objs.size<c:=fun y c e z=>by
  obtain⟨v,o,ho,_⟩:=I3.cell y c (c1 y c e);exact(X0 _ (Nat.lt_trans z (Xi ho)))
 have CA:CellsAre X scope s3.heap.objs.size cl (cellsFrom (s3.heap.objs.size+1) scope.names cl):=EO (h:=s3.heap.push {cls:=.type "dict",data:=.dict #[]}) (by rw[X7]) S hcl;have hcell:∀y c,(cellsFrom (s3.heap.objs.size+1) scope.names cl).lookup y=some c->s3.heap.objs.size<c->ZR.IsCell c none:=fun y c e z=>by
  rw[uX,wy] at e;cases q:(cellsFrom (s3.heap.objs.size+1) scope.names []).lookup y with
  |none=>rw[q] at e;exact absurd z (hcl y c e)
  |some c'=>
   rw[q] at e;have:c'=c:=Xv e;subst this;exact Zy y c' (XQ q)
 generalize hcs:cellsFrom (s3.heap.objs.size+1) scope.names cl=cs at CA hcell⊢;have f3:∀b∈fp,sg X pins (upd H2 s2.heap.objs.size (.lst [])) b:=fun b hb=>⟨by rw[qZ (Xr (hlt b hb))];exact(f2 b hb).1,(f2 b hb).2⟩
 have hlt3:∀b∈fp,b<s3.heap.objs.size:=fun b hb=>by rw[hsz];exact YG (hlt b hb)
 have st3:tn 0 ZR:=T.keep _ _ _ st2 fun b hb o e=>hk b o (by rw[←e3];exact Xd _ e);have J0:Inv (qN X N' scope cs s3.heap.objs.size s3 (upd H2 s2.heap.objs.size (.lst [])) fp) [] (sK own cap B) (upd H2 s2.heap.objs.size (.lst [])) {s3 with heap:=ZR,toks:=s2.toks}:=
  comp_inv I3 S CA hcell c1 c2 f3 hlt3 hk ZA
 have stat:∀{pl:QS} {H':Hp},pl=[]->(∀b∈fp,H' b=none)->∀b∈fp,sg (qN X N' scope cs s3.heap.objs.size s3 (upd H2 s2.heap.objs.size (.lst [])) fp) pl H' b:=fun{pl H'} hp hn b hb=>by
  subst hp;refine⟨hn b hb,Xr (hlt3 b hb),J0.ok.exfs b hb,.inl hb,fun x c e=>J0.ok.exf b hb |>.2 x c e,fun p hp=>absurd hp (by show p∉([]++[]:QS);simp)⟩
 have loop:codeAny (model X.prog X.w) X.A (.compLoop (.ListComp elt [⟨tg,iter,ifs,0⟩] scope pos) 0 (.ref it) (.ref s2.heap.objs.size) (compEnvC scope cs s3.heap.objs.size X.env)) (RR (.ref s2.heap.objs.size) s3.heap.objs.size)
   {s3 with heap:=ZR,toks:=s2.toks}:=PZ (Y:=qN X N' scope cs s3.heap.objs.size s3 (upd H2 s2.heap.objs.size (.lst [])) fp) hx hc (hg _ _ _ _ _) (ht _ _ _ _ _) (he _ _ _ _ _) T J0 st3 (fun b hb=>(f3 b hb).1) (stat rfl) (h _ hD) fun ZQ H4 s5 I5 qz=>by
  have I6:Inv X pins B H4 s5:=I3.call' (ch:=fp) I5.os I5.base I5.hok I5.bare fun b hb=>⟨(f3 b hb).2.2.2.1,(f3 b hb).2.1,(f3 b hb).2.2.2.2.1,(f3 b hb).2.2.2.2.2⟩
  obtain⟨m',hn',_⟩:=I5.loc;exact(hRR _ _ s5 m' H4 I6 hn' (I3.fpOk (Xc _) I5.free) qz)
 have lp:codeAny (model X.prog X.w) X.A (.compStart (.ListComp elt [⟨tg,iter,ifs,0⟩] scope pos) 0 (.ref it) (.ref s2.heap.objs.size) (compEnvC scope cs s3.heap.objs.size X.env)) (RR (.ref s2.heap.objs.size) s3.heap.objs.size)
   {s3 with heap:=ZR,toks:=s2.toks}:=codeAny_compStart_list loop (T.self _ 0 _ _ _ st3 loop)
 subst hs3;exact lp
end
def Gy(own:List Str)(cap:List (Str×Nat))(wi:TI)(g:TG)(tc:TT)(te:TE):TE:=fun B H Q=>wi B H fun J H1=>∀D,H1 D=none->yt J g tc te D (sK own cap B) H1 (Q (.ref D))
def WW(i:Nat)(own:List Str)(cap:List (Str×Nat))(wi:TI)(g:TG)(tc:TT)(te:TE):TS:=fun D B H=>wi B H fun J H1=>∀p,H1 p=none->yt J g tc te p (sK own cap B) H1 (fun H2=>D.nx (B.set i (some (.ref p))) H2)
section
variable {X:Cx} {N' own:List Str} {cap:List (Str×Nat)} {scope:Scope} {tg iter elt:Expr} {ifs:List Expr} {pos:Pos} {wi:TI} {g:TG} {tc:TT} {te:TE}
theorem Inv.letgo{pins:QS}{B:St}{H:Hp}{s:Shared}{h':Heap}{C:Addr}(I:Inv X pins B H s)(f:sg X pins H C)(hs:Heap.SameBut C s.heap h'):Inv X pins B H {s with heap:=h'}:=
 I.turned (t':=s.toks) (it:=C) (fun b o hb e=>(hs.2 b hb).trans e) f.1 f.2.1 f.2.2.2.1 f.2.2.2.2.1 f.2.2.2.2.2
theorem SZ(S:CompScope X N' own cap scope)(hi:PI X tg iter wi)
  (hg:∀cl C Z4 Z2 ex,PG (qN X N' scope cl C Z4 Z2 ex) tg g) (ht:∀cl C Z4 Z2 ex,PIf (qN X N' scope cl C Z4 Z2 ex) ifs tc) (he:∀cl C Z4 Z2 ex,PE (qN X N' scope cl C Z4 Z2 ex) elt te)
  (hx:∀e s,X.xe e s->False:=by exact fun _ _ z=>z) (hc:X.calm=true:=by rfl) (hs:∀x,foldedSetIterable iter X.env x=pure x:=by intro _;rfl):
  PE X (.ListComp elt [⟨tg,iter,ifs,0⟩] scope pos) (Gy own cap wi g tc te):=by
 intro pins s B H Q I h;rw[eval_ListComp];obtain⟨cl,hcl,c1,c2⟩:=yl (scope:=scope) (env:=X.env) fun y hy hk=>I.ok.has y.1 (S.free y hy hk);refine(Ya (use:=none) rfl hs hcl S.kind S.names (thn (hi pins s B H _ I h) fun v s1 h1=>thn h1 fun itv s2 h2=>?_));obtain⟨it,fp,tn,J,H2,e,I2,T,st2,f2,q⟩:=h2;subst e;refine(Cm (RR:=fun acc C=>compPost (model X.prog X.w) X.A X.xe none (EP X pins B Q) acc C) (Z:=fun D=>Q (.ref D)) hx hc S hg ht he I2 T st2 f2 c1 c2 q ?_);intro D C s' m' H' I' hn' f' z;exact⟨m',hn',fun h'' hs''=>⟨.ref D,H',I'.letgo f' hs'',rfl,z⟩⟩
theorem MS{i:Nat}{y:Str}{py spos:Pos}(hN:X.N.Nodup)(hi':X.N[i]?=some y)(hy:X.env.scope.names.lookup y=some .local)(S:CompScope X N' own cap scope)(hi:PI X tg iter wi)
  (hg:∀cl C Z4 Z2 ex,PG (qN X N' scope cl C Z4 Z2 ex) tg g) (ht:∀cl C Z4 Z2 ex,PIf (qN X N' scope cl C Z4 Z2 ex) ifs tc) (he:∀cl C Z4 Z2 ex,PE (qN X N' scope cl C Z4 Z2 ex) elt te)
  (hsw:swapsWith (.ListComp elt [⟨tg,iter,ifs,0⟩] scope pos) (some (.Name y py)) spos.line X.env=pure true:=by rfl)
  (hx:∀e s,X.xe e s->False:=by exact fun _ _ z=>z) (hc:X.calm=true:=by rfl) (hs:∀x,foldedSetIterable iter X.env x=pure x:=by intro _;rfl):
  PS X (.Assign [.Name y py] (.ListComp elt [⟨tg,iter,ifs,0⟩] scope pos) spos) (WW i own cap wi g tc te):=by
 intro pins s B H D I h;obtain⟨cl,hcl,c1,c2⟩:=yl (scope:=scope) (env:=X.env) fun y hy hk=>I.ok.has y.1 (S.free y hy hk);rw[exec_Assign_Name_used _ _ _ _ hsw];refine Xb (Ye (Xb ?_));show wpAny _ _ (do let _ ←comprehension (.ListComp elt [⟨tg,iter,ifs,0⟩] scope pos) scope X.env _ (newList []) false (eval iter X.env) (some (assign (.Name y py) X.env))) _ _ s;refine Xb (Xg (Ya (use:=some (assign (.Name y py) X.env)) (Q:=fun _ s'=>SP X pins D .next s') rfl hs hcl S.kind S.names
  (thn (hi pins s B H _ I h) fun v s1 h1=>thn h1 fun itv s2 h2=>?_)) (fun _ s' hq=>Xf (Xf hq)) fun _ _ e=>e)
 obtain⟨it,fp,tn,J,H2,e,I2,T,st2,f2,q⟩:=h2;subst e;refine(Cm (RR:=fun acc C=>compPost (model X.prog X.w) X.A X.xe (some (assign (.Name y py) X.env)) (fun _ s'=>SP X pins D .next s') acc C) (Z:=fun p H2=>D.nx (B.set i (some (.ref p))) H2) hx hc S hg ht he I2 T st2 f2 c1 c2 q ?_);intro p C s' m' H' I' hn' f' z;show wpAny _ _ (assign (.Name y py) X.env (.ref p)) _ _ _;refine wpAny_assign_Name (Cg I' hN hi' (.inl hy) (v:=.ref p) rfl (fun s'' I'' hm=>?_) (.inr hy));obtain⟨a,hsb,ha⟩:=hm;have hCa:C≠a:=by
  rcases ha with z|z
  ·rw[z];exact f'.2.1
  ·exact fun e=>f'.2.2.2.2.1 y a z e.symm
 refine⟨m',hn'.sameBut hsb hCa,fun h3 hs3=>?_⟩;exact⟨_,H',I''.letgo f' hs3,z⟩
end
section
variable {X:Cx} {pins:QS} {B:St} {H:Hp} {s:Shared} {h':Heap} {ch:List Addr}
theorem Inv.turns{t':Nat}(I:Inv X pins B H s)(hf:∀b∈ch,sg X pins H b)(k:∀b o,b∉ch->s.heap.get? b=some o->h'.get? b=some o):Inv X pins B H {s with heap:=h',toks:=t'}:=by
 have nit:∀b u,H b=some u->b∉ch:=fun b u e z=>by rw[(hf b z).1] at e;cases e
 refine I.step (g':=s.gens) (d':=s.drawn) (ch:=ch) (fun b hb=>?_) (fun b o _ _ hc e _=>k b o hc e) (fun b o _ _ hc e _=>⟨o.slots,k b o hc e⟩) (fun _ _ _ _ n=>n)
  (fun b o hc e=>⟨o,k b o hc e⟩) (fun _ _ e=>e) (fun _ _ _ e=>e) (fun b ps e=>⟨#[],by rw[e];simp⟩) (fun m hm=>?_) (fun b u e=>?_) I.bare
 ·obtain⟨f0,f1,f2,f3,f4,f5⟩:=hf b hb;exact⟨f3,f1,f4,f5⟩
 ·obtain⟨o,es,ep,ho,r⟩:=hm;exact⟨o,es,ep,k _ o (fun z=>(hf _ z).2.1 rfl) ho,r⟩
 ·refine(I.hok b u e).stay (fun c v hc q=>k c v ?_ q) (fun _ q=>q) fun _ _ q=>q;rcases hc with z|z
  ·rw[z];exact nit b u e
  ·exact nit c _ z
theorem Inv.turnLay{t':Nat}{T:Addr}{o:HO}(I:Inv X pins B H s)(hf:∀b∈ch,sg X pins H b)(k:∀b o,b∉ch->s.heap.get? b=some o->h'.get? b=some o)(hT:s.heap.objs.size<=T)
  (new:ObjOk X.prog X.w (upd H T o) h' T o):Inv X pins B (upd H T o) {s with heap:=h',toks:=t'}:=by
 have nit:∀b u,H b=some u->b∉ch:=fun b u e z=>by rw[(hf b z).1] at e;cases e
 have hn:H T=none:=I.hok.fresh hT;have ne:∀b o,s.heap.get? b=some o->b≠T:=fun b o e=>Xr (Xu (Xi e) hT);refine I.step (g':=s.gens) (d':=s.drawn) (ch:=ch) (fun b hb=>?_) (fun b o _ _ hc e _=>k b o hc e) (fun b o _ _ hc e _=>⟨o.slots,k b o hc e⟩) (fun b o _ e n=>by rw[qZ (ne b o e)];exact n)
  (fun b o hc e=>⟨o,k b o hc e⟩) (fun b xs e=>by rw[qZ (sV e hn)];exact e) (fun b o u e=>by rw[qZ (sV e hn)];exact e) (fun b ps e=>⟨#[],by rw[qZ (sV e hn),e];simp⟩) (fun m hm=>?_) (fun b u e=>?_) I.bare
 ·obtain⟨f0,f1,f2,f3,f4,f5⟩:=hf b hb;exact⟨f3,f1,f4,f5⟩
 ·obtain⟨o,es,ep,ho,r⟩:=hm;exact⟨o,es,ep,k _ o (fun z=>(hf _ z).2.1 rfl) ho,r⟩
 ·by_cases hb:b=T
  ·subst hb;rw[sf] at e;cases e;exact new
  ·rw[qZ hb] at e;refine(I.hok b u e).stay (fun c v hc q=>k c v ?_ q) (fun c q=>by rw[qZ (sV q hn)];exact q) fun c xs q=>by rw[qZ (sV q hn)];exact q
   rcases hc with z|z
   ·rw[z];exact nit b u e
   ·exact nit c _ z
end
def Ite(K:Frag)(a:Addr):It:=
 ⟨fun i H=>∃xs x,SqL K H a xs/\xs[i]?=some x,fun i H x H'=>∃p v,x=.ref p/\H p=none/\H'=upd H p (.tup [.int (i:Nat),v])/\∀xs,SqL K H a xs->xs[i]?=some v,fun i H=>∃xs,SqL K H a xs/\xs.length<=i⟩
def I0:2<=sizeLine:=by rw[YB];decide
theorem Uk{P:Program}{w:World}{K:Frag}{elts:List Expr}{k:Nat}{pos:Pos}(a e it:Addr)(hne:e≠it):
  Turn P w K (.Tuple elts k pos) (Ite K a) [e,it] e (fun i h=>(∃old,IsEnum h e it i old)/\h.IsListIter it a i) where
 mem:=by simp
 obj:=fun i h st b hb=>by
  obtain⟨⟨old,he⟩,o,e2,c,d⟩:=st;rcases XB.mp hb with rfl|hb
  ·exact⟨_,he,fun v z=>by cases z⟩
  ·rw[XX.mp hb];exact⟨o,e2,fun v z=>by rw[d] at z;cases z⟩
 keep:=fun i h h' st kk=>⟨let ⟨old,he⟩:=st.1;⟨old,kk e (by simp) _ he⟩,st.2.at fun o q=>kk it (by simp) o q⟩
 item:=by
  intro X hP hw hK hc i pins s B H E I hf st hg;subst hP hw hK;obtain⟨xs,x,hq,hx⟩:=hg;obtain⟨its,rv,p,hz⟩:=I.list hq;obtain⟨u,hu,ru⟩:=rv.get hx;obtain⟨⟨old,he⟩,hit⟩:=st;refine(wpAny_pyNext_enum_item he hit p.isList (x:=u) (by simpa using hu) hne fun h1 ho hit1 hT hsz hk=>?_);refine⟨_,rfl,wpAny_letOwnedTupleGo_enum ho fun h2 he2 hs2=>?_⟩;have hlt:e<s.heap.objs.size:=Xi he
  replace hs2:Heap.SameBut e h1 h2:=hs2
  have hT2:h2.get? s.heap.objs.size=some {cls:=.type "tuple",data:=.seq #[.int i s.toks,u]}:=(hs2.2 _ (Nat.ne_of_gt hlt)).trans hT;have hn:H s.heap.objs.size=none:=I.hok.fresh (Xc _);have I2:Inv X pins B (upd H s.heap.objs.size (.tup [.int (i:Nat),x])) {s with heap:=h2,toks:=s.toks+1}:=
   I.turnLay (ch:=[e,it]) hf (fun b o hb q=>(hs2.2 b (fun z=>hb (by simp[z]))).trans (hk b o (fun z=>hb (by simp[z])) (fun z=>hb (by simp[z])) q)) (Xc _)
    ⟨I0,[.int i s.toks,u],.cons ⟨_,rfl⟩ (.cons ru .nil),⟨_,hT2,rfl,_,rfl⟩⟩
  have hit2:h2.IsListIter it a (i+1):=hit1.at fun o q=>(hs2.2 it (Ne.symm hne)).trans q;have f1:∀b∈[e,it],(upd H s.heap.objs.size (.tup [.int (i:Nat),x])) b=none:=fun b hb=>by
   have hlb:b<s.heap.objs.size:=by
    rcases XB.mp hb with rfl|hb
    ·exact hlt
    ·rw[XX.mp hb];obtain⟨o,q,_⟩:=hit;exact(Xi q)
   rw[qZ (Xr hlb)];exact(hf b hb).1
  exact⟨.ref s.heap.objs.size,_,I2,rfl,⟨_,x,rfl,hn,rfl,fun ys hy=>by rw[I.list_inj hy hq];exact hx⟩,⟨⟨u,by simpa using he2⟩,hit2⟩,f1⟩
 done:=by
  intro X hP hw hK hc i pins s B H E I hf st hg;subst hP hw hK;obtain⟨xs,hq,hx⟩:=hg;obtain⟨its,rv,p,hz⟩:=I.list hq;obtain⟨⟨old,he⟩,hit⟩:=st;have hl:=rv.length;exact wpAny_pyNext_enum_end (I.ok.hd hc) he hit p.isList (by simp;omega) fun h' eb=>⟨rfl,I.turns (t':=s.toks) (ch:=[e,it]) hf fun b o hb q=>eb b o (fun z=>hb (by simp[z])) q⟩
 self:=fun _ _ _ _ _ st h=>by
  obtain⟨⟨old,he⟩,_⟩:=st;exact(wpAny_pyIter_enum he h)
def Jb(K:Frag)(ta:TA):TI:=fun B H R=>ta B H fun vs H1=>∃a,vs=[.ref a]/\(∃xs,SqL K H1 a xs)/\R (Ite K a) H1
section
variable {X:Cx}
theorem VD{elts:List Expr}{k:Nat}{tpos:Pos}{a:Expr}{ta:TA}{p pos:Pos}(hg:Gl X "enumerate") (hm:X.mg "enumerate"=none) (ha:PA X [a] ta) (hs:starEach [a] X.env=[(false,eval a X.env)]:=by rfl):
  PI X (.Tuple elts k tpos) (.Call (.Name "enumerate" p) [a] [] pos) (Jb X.K ta):=by
 intro pins s B H R I h;refine Call_ (vw I hg hm boot_enumerate (X4 (thn (ha pos pins s B H _ I h) fun us s1 hm=>?_) hs rfl));obtain⟨vs,H1,I1,r1,q1⟩:=hm;obtain⟨l,e,⟨xs,hq⟩,q⟩:=q1;subst e;obtain⟨u,rfl,ru⟩:=uZ r1;cases ru;obtain⟨its,rv,pl,hz⟩:=I1.list hq;refine(call_enumerate_list pl.isList fun h' he hit hsz hk=>wpAny_pyIter_enum he ?_);have I2:Inv X pins B H1 {s1 with heap:=h'}:=I1.kept (t':=s1.toks) hk;refine⟨_,[s1.heap.objs.size+1,s1.heap.objs.size],_,_,H1,rfl,I2,Uk l _ _ (Nat.succ_ne_self _),⟨⟨.none,he⟩,hit⟩,fun b hb=>?_,q⟩;have hb':s1.heap.objs.size<=b:=by
  rcases XB.mp hb with rfl|hb
  ·exact Nat.le_succ _
  ·rw[XX.mp hb];exact Xc _
 exact I1.fpOk hb' (I1.hok.fresh hb')
end
def y8:List String:=["int","bool","str","NoneType","list","tuple","dict"]
def clNames:List String:=["int","bool","str","list","tuple","dict"]
def uJ(t c:String):Bool:=t==c||(t=="bool"&&c=="int")
def G4{K:Frag}{t c:String}(ht:t∈y8)(hc:c∈clNames):PySem.W.kitOne K (.type t) (.type c)=some (uJ t c):=by
 simp only[y8,clNames,XB,List.not_mem_nil,or_false] at ht hc;rcases ht with rfl|rfl|rfl|rfl|rfl|rfl|rfl<;>rcases hc with rfl|rfl|rfl|rfl|rfl|rfl<;>first|rfl|decide|(with_unfolding_all rfl)
theorem Lb{K:Frag}{t:String}(ht:t∈y8):∀{cs:List String},(∀c∈cs,c∈clNames)->PySem.W.kitAny K (.type t) (cs.map Value.type)=some (cs.any (uJ t))
 | [],_=>rfl
 |c::r,h=>by
  show(match PySem.W.kitOne K (.type t) (.type c) with|some true=>some true|some false=>PySem.W.kitAny K (.type t) (r.map Value.type)|none=>none)=_;rw[G4 ht (h c Yu),Yf];cases e:uJ t c with
  |true=>rfl
  |false=>
   rw[Bool.false_or];exact Lb ht fun d hd=>h d (XF _ hd)
inductive TyN (K:Frag) (H:Hp):V->String->Prop where
 |non:TyN K H .non "NoneType"
 |bl (x:Bool):TyN K H (.bl x) "bool"
 |int (i:Int):TyN K H (.int i) "int"
 |str (x:Str):TyN K H (.str x) "str"
 |lst {a:Addr} {xs:List V} (e:SqL K H a xs):TyN K H (.ref a) "list"
 |tup {a:Addr} {xs:List V} (e:SqT K H a xs):TyN K H (.ref a) "tuple"
 |dK {a:Addr} {kvs:List (Key×V)} (e:H a=some (.dK kvs)):TyN K H (.ref a) "dict"
def TyN.mem{K:Frag}{H:Hp}{x:V}{t:String}(h:TyN K H x t):t∈y8:=by cases h<;>simp[y8]
section
variable {X:Cx}
theorem Mb:∀{cs:List String} {us:List Value},Vals (cs.map V.ty) us->us=cs.map Value.type
 | [],_,h=>by cases h;rfl
 |c::r,_,h=>by
  cases h with
  |cons a t=>
   cases (show _=Value.type c from a);rw[Mb t];rfl
theorem PU:tL X (.builtin "isinstance") (fun xs H Q=>∃(x:V) (t:String) (c:String),xs=[x,.ty c]/\TyN X.K H x t/\clNames.contains c=true/\Q (.bl (uJ t c)) H):=by
 intro pins s B H xs us Q I r h;obtain⟨x,t,c,rfl,ty,hc,q⟩:=h;obtain⟨u,w',rfl,rx,rc⟩:=Ai r;cases (show w'=Value.type c from rc);have e:=G4 (K:=X.K) ty.mem (by simpa using hc:c∈clNames);have fin:∀tk,EP X pins B Q (.bool (uJ t c)) {s with toks:=tk}:=fun tk=>⟨.bl _,H,I.tok _,rfl,q⟩
 cases ty with
 |non=>cases (show u=Value.none from rx);exact Yy PySem.W.kitx_none I.kIn True.intro e (fun z=>nomatch z) fin
 |bl y=>cases (show u=Value.bool y from rx);exact Yy PySem.W.kitx_bool I.kIn True.intro e (fun z=>nomatch z) fin
 |int i=>obtain⟨t,q⟩:=(show ∃t,u=Value.int i t from rx);cases q;exact Yy PySem.W.kitx_int I.kIn True.intro e (fun z=>nomatch z) fin
 |str y=>obtain⟨t,q⟩:=(show ∃t,u=Value.str y t from rx);cases q;exact Yy PySem.W.kitx_str I.kIn True.intro e (fun z=>nomatch z) fin
 | @lst a xs ea=>
  cases (show u=Value.ref a from rx);obtain⟨its,_,⟨o,n,h1,h2,_⟩,_⟩:=I.list ea;exact Yy PySem.W.kitx_list I.kIn ⟨o,h1,h2⟩ e (fun z=>nomatch z) fin
 | @tup a xs ea=>
  cases (show u=Value.ref a from rx);obtain⟨its,_,⟨o,h1,h2,_⟩,_⟩:=I.tuple ea;exact Yy PySem.W.kitx_tuple I.kIn ⟨o,h1,h2⟩ e (fun z=>nomatch z) fin
 | @dK a kvs ea=>
  cases (show u=Value.ref a from rx);obtain⟨_,_,vs,_,p⟩:=(show ObjOk X.prog X.w H s.heap a (.dK kvs) from I.hok a _ ea)
  obtain⟨o,es,ep,h1,h2,_⟩:=p;exact(Yy PySem.W.kitx_dict I.kIn ⟨o,h1,h2.1⟩ e (fun z=>nomatch z) fin)
theorem VH:tL X (.builtin "isinstance") (fun xs H Q=>∃(x:V) (t:String) (p:Addr) (cs:List String),xs=[x,.ref p]/\SqT X.K H p (cs.map V.ty)/\TyN X.K H x t/\cs.all clNames.contains=true/\Q (.bl (cs.any (uJ t))) H):=by
 intro pins s B H xs us Q I r h;obtain⟨x,t,p,cs,rfl,hp,ty,hc,q⟩:=h;obtain⟨u,w',rfl,rx,rc⟩:=Ai r;cases (show w'=Value.ref p from rc);obtain⟨its,rv,⟨⟨oc,od,odt,osl⟩,e1,e2,n,e3⟩,_⟩:=I.tuple hp;cases Mb rv;have e2':oc=.type "tuple":=e2;have e3':odt=.seq (cs.map Value.type).toArray n:=e3;subst e2' e3';have e:=Lb (K:=X.K) ty.mem (cs:=cs) fun c hcm=>by simpa using(XJ.mp hc c hcm)
 have fin:∀tk,EP X pins B Q (.bool (cs.any (uJ t))) {s with toks:=tk}:=fun tk=>⟨.bl _,H,I.tok _,rfl,q⟩
 cases ty with
 |non=>cases (show u=Value.none from rx);exact Yz PySem.W.kitx_none I.kIn True.intro e1 e (fun z=>nomatch z) fin
 |bl y=>cases (show u=Value.bool y from rx);exact Yz PySem.W.kitx_bool I.kIn True.intro e1 e (fun z=>nomatch z) fin
 |int i=>obtain⟨t,q⟩:=(show ∃t,u=Value.int i t from rx);cases q;exact Yz PySem.W.kitx_int I.kIn True.intro e1 e (fun z=>nomatch z) fin
 |str y=>obtain⟨t,q⟩:=(show ∃t,u=Value.str y t from rx);cases q;exact Yz PySem.W.kitx_str I.kIn True.intro e1 e (fun z=>nomatch z) fin
 | @lst a xs ea=>
  cases (show u=Value.ref a from rx);obtain⟨its,_,⟨o,n,h1,h2,_⟩,_⟩:=I.list ea;exact Yz PySem.W.kitx_list I.kIn ⟨o,h1,h2⟩ e1 e (fun z=>nomatch z) fin
 | @tup a xs ea=>
  cases (show u=Value.ref a from rx);obtain⟨its,_,⟨o,h1,h2,_⟩,_⟩:=I.tuple ea;exact Yz PySem.W.kitx_tuple I.kIn ⟨o,h1,h2⟩ e1 e (fun z=>nomatch z) fin
 | @dK a kvs ea=>
  cases (show u=Value.ref a from rx);obtain⟨_,_,vs,_,p⟩:=(show ObjOk X.prog X.w H s.heap a (.dK kvs) from I.hok a _ ea)
  obtain⟨o,es,ep,h1,h2,_⟩:=p;exact(Yz PySem.W.kitx_dict I.kIn ⟨o,h1,h2.1⟩ e1 e (fun z=>nomatch z) fin)
end
mutual
inductive Dp (K:Frag) (H:Hp):V->PyData->Prop where
 |non:Dp K H .non .none
 |bl (b:Bool):Dp K H (.bl b) (.bool b)
 |int (i:Int):Dp K H (.int i) (.int i)
 |str (x:Str):Dp K H (.str x) (.str x)
 |lst {a:Addr} {xs:List V} {ds:List PyData}:SqL K H a xs->Dps K H xs ds->Dp K H (.ref a) (.list ds)
 |tup {a:Addr} {xs:List V} {ds:List PyData}:SqT K H a xs->Dps K H xs ds->Dp K H (.ref a) (.tuple ds)
inductive Dps (K:Frag) (H:Hp):List V->List PyData->Prop where
 |nil:Dps K H [] []
 |cons {x:V} {d:PyData} {xs:List V} {ds:List PyData}:Dp K H x d->Dps K H xs ds->Dps K H (x::xs) (d::ds)
end
section
variable {X:Cx} {pins:QS} {B:St} {H:Hp} {s:Shared}
mutual
theorem Dp.reads(I:Inv X pins B H s):∀{v:V} {d:PyData} {u:Value},Dp X.K H v d->RelV v u->∃as,Reads s.heap u d as
 |_,_,_,.non,r=>by cases (show _=Value.none from r);exact⟨_,.none⟩
 |_,_,_,.bl b,r=>by cases (show _=Value.bool b from r);exact⟨_,.bool b⟩
 |_,_,_,.int i,r=>by obtain⟨t,rfl⟩:=r;exact⟨_,.int i t⟩
 |_,_,_,.str x,r=>by obtain⟨t,rfl⟩:=r;exact⟨_,.str x t⟩
 |_,_,_,.lst (a:=a) h hs,r=>by
  cases (show _=Value.ref a from r);obtain⟨its,rv,⟨o,n,h1,h2,_,h4⟩,_⟩:=I.list h;obtain⟨as,hr⟩:=Dps.reads I hs rv;exact⟨_,.list h1 h2 h4 (by simpa using hr)⟩
 |_,_,_,.tup (a:=a) h hs,r=>by
  cases (show _=Value.ref a from r);obtain⟨its,rv,⟨o,h1,h2,n,h4⟩,_⟩:=I.tuple h;obtain⟨as,hr⟩:=Dps.reads I hs rv;exact(⟨_,.tuple h1 h2 h4 (by simpa using hr)⟩)
theorem Dps.reads(I:Inv X pins B H s):∀{vs:List V} {ds:List PyData} {us:List Value},Dps X.K H vs ds->Vals vs us->∃as,ReadsAll s.heap us ds as
 |_,_,_,.nil,r=>by cases r;exact⟨_,.nil⟩
 |_,_,_,.cons h hs,r=>by
  cases r with
  |cons r1 r2=>
   obtain⟨as,h1⟩:=Dp.reads I h r1;obtain⟨bs,h2⟩:=Dps.reads I hs r2;exact(⟨_,.cons h1 h2⟩)
end
theorem JG(hu:X.A.units+64<cLine):OpR X (compareOp .Eq) (fun x y H Q=>∃d e,Dp X.K H x d/\Dp X.K H y e/\(d.canLay0&&e.canLay0&&decide (d.depth<=64))=true/\Q (.bl (PyData.eqv d e)) H):=by
 intro pins s B H x y v u Q I rx ry h;obtain⟨d,e,hd,he,hc,q⟩:=h;simp only[XD,Yh] at hc;obtain⟨as,r1⟩:=hd.reads I rx;obtain⟨bs,r2⟩:=he.reads I ry;exact(SeqAt.compareEq_reads r1 r2 hc.1.1 hc.1.2 (by omega) ⟨.bl _,H,I,rfl,q⟩)
theorem L5(hu:X.A.units+64<cLine):OpR X (compareOp .NotEq) (fun x y H Q=>∃d e,Dp X.K H x d/\Dp X.K H y e/\(d.canLay0&&e.canLay0&&decide (d.depth<=64))=true/\Q (.bl (!PyData.eqv d e)) H):=by
 intro pins s B H x y v u Q I rx ry h;obtain⟨d,e,hd,he,hc,q⟩:=h;simp only[XD,Yh] at hc;obtain⟨as,r1⟩:=hd.reads I rx;obtain⟨bs,r2⟩:=he.reads I ry;exact(SeqAt.compareNe_reads r1 r2 hc.1.1 hc.1.2 (by omega) ⟨.bl _,H,I,rfl,q⟩)
end
section
variable {X:Cx}
def Jp:V->List V->Hp->VK->Prop:=fun x vs H Q=>∃(a:Addr) (kvs:List (Key×V)) (k:Key) (d:V),x=.ref a/\vs=[kV k,d]/\H a=some (.dK kvs)/\kvs.length<sizeLine/\
 (∀v,sQ kvs k=some v->Q v H)/\(sQ kvs k=none->Q d (upd H a (.dK (sj kvs k d))))
theorem PP:MtM X "dict.setdefault" Jp:=by
 intro pins s B H x vs v us Q I rx rv h;obtain⟨a,kvs,k,d,rfl,rfl,e,hl,h1,h2⟩:=h;cases rx;obtain⟨u,w',rfl,ru,rd⟩:=rv.two;obtain⟨z,hd,ws,rel,dd⟩:=xb I.hok e;refine call_meetsIn PySem.F.slot_dict_setdefault dd.typeIs PySem.F.entry_dict_setdefault (PySem.F.args_dict_setdefault_3 _ _ _) (kt_meets_setdefault (tQ X.prog X.w) a (zt ru) hd w') ⟨ws,dd,by rw[←rel.length];exact z,fun y hy=>?_,fun hn h' dd' hs=>?_⟩
 ·have q:=rel.val k;rw[hy] at q;cases ev:sQ kvs k with
  |none=>rw[ev] at q;exact q.elim
  |some v0=>
   rw[ev] at q;exact⟨v0,H,I.tok _,q,h1 v0 ev⟩
 ·have q:=rel.val k;rw[hn] at q;cases ev:sQ kvs k with
  |some v0=>rw[ev] at q;exact q.elim
  |none=>
   have hz:(sj kvs k d).length<=sizeLine:=by have:=AU kvs k d;omega
   have he:∃q,h'.get? a=some q:=let ⟨q,_,_,hq,_⟩:=dd';⟨q,hq⟩
   exact⟨d,_,BN (t':=s.toks+1) I (by rw[e];exact True.intro) hs he (ES hz hd (rel.put k rd) dd'),rd,h2 ev⟩
theorem QV{kvs:List (Key×V)}{ws:List (Key×Value)}(rel:KV kvs ws):Vals (kvs.map (·.2)) (ws.map (·.2)):=by
 induction rel with
 |nil=>exact .nil
 |cons r _ ih=>exact .cons r.2 ih
def vvO(v d:Addr):HO:=.ext fun h=>h.IsValuesView v d
def Le:V->List V->Hp->VK->Prop:=fun x vs H Q=>∃(a:Addr) (kvs:List (Key×V)),x=.ref a/\vs=[]/\H a=some (.dK kvs)/\∀v,H v=none->Q (.ref v) (upd H v (vvO v a))
theorem zmy:MtM X "dict.values" Le:=by
 intro pins s B H x vs v us Q I rx rv h;obtain⟨a,kvs,rfl,rfl,e,q⟩:=h;cases rx;have:=rv.zero;subst this;obtain⟨z,hd,ws,rel,dd⟩:=xb I.hok e;refine(call_meetsIn PySem.F.slot_dict_values dd.typeIs PySem.F.entry_dict_values (PySem.F.args_dict_values_1 _) (meets_dict_values (tQ X.prog X.w) a hd) ⟨⟨ws,dd⟩,?_⟩);have hv:(s.heap.push {cls:=.type "dict_values",data:=.fields #[.ref a]}).IsValuesView s.heap.objs.size a:=⟨_,Xl _ rfl,rfl,rfl⟩
 refine⟨.ref s.heap.objs.size,_,I.laid (t':=s.toks) (o:=vvO s.heap.objs.size a) (fun b o q=>Xd _ q) (Xc _) ?_,rfl,q _ (I.hok.fresh (Xc _))⟩;exact⟨hv,⟨_,Xl _ rfl⟩,fun h1 h2 p k=>let ⟨o,ho,r⟩:=p;⟨o,k o ho,r⟩⟩
theorem NA:tL X (.type "list") (fun xs H Q=>∃(v a:Addr) (kvs:List (Key×V)),xs=[.ref v]/\H v=some (vvO v a)/\H a=some (.dK kvs)/\X.calm=true/\∀l,H l=none->Q (.ref l) (upd H l (.lst (kvs.map (·.2))))):=by
 intro pins s B H xs us Q I r h;obtain⟨v,a,kvs,rfl,hv,e,hc,q⟩:=h;obtain⟨u,rfl,ru⟩:=uZ r;cases ru;obtain⟨z,hd,ws,rel,dd⟩:=xb I.hok e;obtain⟨hvv,_,_⟩:s.heap.IsValuesView v a/\_/\_:=I.hok v _ hv;obtain⟨ep,hat⟩:=dd.dictAt;refine PySem.W.kdl_call (PySem.W.kdl_values (knd:=tQ X.prog X.w) (kvs:=ws) (ep:=ep)) (I.ok.hd hc) ⟨hvv,hat⟩ (by rw[←rel.length];exact z) fun h' tk acc' c' hk hD hacc=>?_;have ev:acc'.toList=ws.map (·.2):=PySem.W.kdl_vals_eq acc'.toList (by rw[Yi];exact hacc.1) fun j v ej=>hacc.2 j v (by rw[←Array.getElem?_toList];exact ej);have rv:Vals (kvs.map (·.2)) (ws.map (·.2)):=QV rel;refine⟨.ref s.heap.objs.size,_,I.laid (t':=tk) (o:=.lst (kvs.map (·.2))) hk (Xc _) ?_,rfl,q _ (I.hok.fresh (Xc _))⟩;refine⟨by rw[Xj];exact z,ws.map (·.2),c',rv,?_⟩;rw[←ev];exact hD
end
def Df(P:Program)(w:World)(K:Frag)(mg:Str->Option Value)(base:Heap)(k:Nat)(x:Str)(ps:List Str)(sp:Sp):Prop:=
 ∃f fd,FnOk P w K mg base CX0 k f fd ps sp/\Binds K fd ps []/\keepIn K (.ref f)=true/\mg x=some (.ref f)
section
variable {X:Cx} {k:Nat} {x:Str} {ps:List Str} {sp:Sp} {e:Expr} {es:List Expr} {t:TA} {p pos:Pos}
theorem Hk(D:Df X.prog X.w X.K X.mg X.base k x ps sp)(hr:Room k X.A)(ha:PA X (e::es) t)(hg:Gl X x:=by rfl)(hdb:(x==("__debug__":Str))=false:=by decide)
  (he:starEach (e::es) X.env=(false,eval e X.env)::starEach es X.env:=by rfl) (hpl:(backTo pos (starEach es X.env)).any (·.1)=false:=by rfl):
  PE X (.Call (.Name x p) (e::es) [] pos) (fun B H Q=>t B H fun vs H1=>sp vs H1 Q E0):=by
 obtain⟨f,fd,F,hb,hk,hm⟩:=D;intro pins s B H Q I h;exact V7 F hr hg hm hk hb .nil DV ha hdb he hpl pins s B H Q I (by unfold HU;simpa using h)
end
def But(p:Addr)(H H':Hp):Prop:=∀b o,b≠p->H b=some o->H' b=some o
def uR{n:Nat}(h:n<=1000000):n<=sizeLine:=by rw[YB];omega
def zZ{n:Nat}(h:n<=1000000):n<sizeLine:=by rw[YB];omega
def Hn(N:List Str)(names:List (Str×NameKind))(own:List Str)(cap:List (Str×Nat))(scope:Scope):Bool:=
 (scope.kind==.function)&&scope.names.all (fun y=>(y.2 != .cell||scope.names.lookup y.1==some .cell)&&(y.2 != .local||scope.names.lookup y.1==some .local)&&(y.2 != .free||scope.names.lookup y.1==some .free)&&(y.2 != .free||(names.lookup y.1==some .cell||names.lookup y.1==some .free)))
 &&cap.all fun p=>N[p.2]?==some p.1&&scope.names.lookup p.1==some .free&&(names.lookup p.1==some .cell||names.lookup p.1==some .free)
def sB{X:Cx}{own:List Str}{cap:List (Str×Nat)}{scope:Scope}(h:Hn X.N X.env.scope.names own cap scope=true):CompScope X (own++cap.map (·.1)) own cap scope:=by
 unfold Hn at h;simp only[XD,XJ,Bool.or_eq_true,bne_iff_ne,beq_iff_eq] at h;obtain⟨⟨h1,h2⟩,h3⟩:=h;exact(⟨h1,fun y hy hl=>(h2 y hy).1.1.1.resolve_left fun z=>z hl,fun y hy hl=>(h2 y hy).1.2.resolve_left fun z=>z hl,fun y hy hl=>(h2 y hy).1.1.2.resolve_left fun z=>z hl,fun y hy hl=>(h2 y hy).2.resolve_left fun z=>z hl,rfl,fun p hp=>⟨(h3 p hp).1.1,(h3 p hp).1.2,(h3 p hp).2⟩⟩)
section
variable {X:Cx} {a b o:Expr} {ta tb to:TE} {p pos:Pos}
theorem UF(K:Frag)(ml:X.mg "len"=none) (ha:PE X a ta) (hg:Gl X "len":=by rfl) (hs:starEach [a] X.env=[(false,eval a X.env)]:=by rfl) (hK:X.K=K:=by rfl):
  PE X (.Call (.Name "len" p) [a] [] pos) (fun B H Q=>ta B H fun x H1=>∃p ys,[x]=[V.ref p]/\(SqL K H1 p ys\/SqT K H1 p ys)/\Q (.int ys.length) H1):=by
 subst hK;exact wR OX hg ml PySem.boot_len (rP ha so hs) (he:=hs)
theorem NF(K:Frag)(ml:X.mg "list"=none) (ha:PE X a ta) (hg:Gl X "list":=by rfl) (hs:starEach [a] X.env=[(false,eval a X.env)]:=by rfl) (hK:X.K=K:=by rfl):
  PE X (.Call (.Name "list" p) [a] [] pos) (fun B H Q=>ta B H fun x H1=>∃p ys,[x]=[V.ref p]/\(SqL K H1 p ys\/SqT K H1 p ys)/\∀l,H1 l=none->Q (.ref l) (upd H1 l (.lst ys))):=by
 subst hK;exact zq WK hg ml rfl (rP ha so hs) (he:=hs)
theorem WA(ml:X.mg "min"=none) (ha:PE X a ta) (hb:PE X b tb) (hc:X.calm=true:=by rfl) (hg:Gl X "min":=by rfl) (hs:starEach [a,b] X.env=[(false,eval a X.env),(false,eval b X.env)]:=by rfl) (hs2:starEach [b] X.env=[(false,eval b X.env)]:=by rfl):
  PE X (.Call (.Name "min" p) [a,b] [] pos) (fun B H Q=>ta B H fun x H1=>tb B H1 fun y H2=>∃i j,[x,y]=[.int i,.int j]/\Q (.int (if j<i then j else i)) H2):=by
 exact wR (WZ hc) hg ml rfl (rP ha (rP hb so hs2) (by rw[hs,hs2])) (he:=by rw[hs,hs2]) (hpl:=by rw[hs2];rfl)
theorem RE(ml:X.mg "max"=none) (ha:PE X a ta) (hb:PE X b tb) (hc:X.calm=true:=by rfl) (hg:Gl X "max":=by rfl) (hs:starEach [a,b] X.env=[(false,eval a X.env),(false,eval b X.env)]:=by rfl) (hs2:starEach [b] X.env=[(false,eval b X.env)]:=by rfl):
  PE X (.Call (.Name "max" p) [a,b] [] pos) (fun B H Q=>ta B H fun x H1=>tb B H1 fun y H2=>∃i j,[x,y]=[.int i,.int j]/\Q (.int (if j>i then j else i)) H2):=by
 exact wR (Sk hc) hg ml rfl (rP ha (rP hb so hs2) (by rw[hs,hs2])) (he:=by rw[hs,hs2]) (hpl:=by rw[hs2];rfl)
theorem iL(K:Frag){tg:Expr}(ha:PE X a ta)(hK:X.K=K:=by rfl):PI X tg a (IE K ta):=by subst hK;exact L4 ha
theorem iT(K:Frag){tg:Expr}(ha:PE X a ta)(hK:X.K=K:=by rfl):PI X tg a (L6 K ta):=by subst hK;exact Tz ha
theorem iR(mr:X.mg "range"=none) {tg:Expr} (ha:PE X a ta) (hg:Gl X "range":=by rfl) (hs:starEach [a] X.env=[(false,eval a X.env)]:=by rfl):PI X tg (.Call (.Name "range" p) [a] [] pos) (GZ (tK ta uE)):=Tq hg mr (rP ha so hs) hs
theorem OD(K:Frag){apos:Pos}(ho:PE X o to)(ha:PE X a ta)(hs:starEach [a] X.env=[(false,eval a X.env)]:=by rfl)
  (hbase:attributeBase o "append" X.env (eval o X.env)=eval o X.env:=by rfl) (hline:(apos.endLine==pos.line)=true:=by rfl) (hK:X.K=K:=by rfl)
  (hfew:((backTo pos (starEach [a] X.env)).all (fun x=>!x.1)&&(backToKw pos (keywordEach [] X.env)).all (fun x=>x.1.isSome)
   &&decide ([a].length+([]:List Keyword).length+(if([]:List Keyword).isEmpty then 0 else 1)<30))=true:=by rfl):
  PE X (.Call (.Attribute o "append" apos) [a] [] pos) (tBM K "list" Ga to (tK ta uE)):=by
 subst hK;exact Ac PySem.F.plainAttrs_list PySem.F.slot_list_append PySem.F.type_list_append Eo ho (rP ha so hs) hbase hfew hline hs
theorem W8(K:Frag){apos:Pos}(ho:PE X o to)(ha:PE X a ta)(hs:starEach [a] X.env=[(false,eval a X.env)]:=by rfl)
  (hbase:attributeBase o "pop" X.env (eval o X.env)=eval o X.env:=by rfl) (hline:(apos.endLine==pos.line)=true:=by rfl) (hK:X.K=K:=by rfl)
  (hfew:((backTo pos (starEach [a] X.env)).all (fun x=>!x.1)&&(backToKw pos (keywordEach [] X.env)).all (fun x=>x.1.isSome)
   &&decide ([a].length+([]:List Keyword).length+(if([]:List Keyword).isEmpty then 0 else 1)<30))=true:=by rfl):
  PE X (.Call (.Attribute o "pop" apos) [a] [] pos) (tBM K "list" KU to (tK ta uE)):=by
 subst hK;exact Ac PySem.F.plainAttrs_list PySem.F.slot_list_pop PySem.F.type_list_pop Tg ho (rP ha so hs) hbase hfew hline hs
end
def Pot(H:Hp)(p:Addr):Prop:=∃a b c:Int,H p=some (.lst [.int a,.int b,.int c])
structure Drawn (p:Addr) (H H':Hp):Prop where
 but:But p H H'
 pot:Pot H' p
def M5{xs:List V}{r:Int}(h0:0<=r)(h1:r<(xs.length:Int)):atI xs r=some (xs[r.toNat]'(by omega)):=by
 have hk:r.toNat<xs.length:=by omega
 have:=M2 (xs:=xs) (j:=r.toNat) (v:=xs[r.toNat]) (by simp[hk]);have er:((r.toNat:Nat):Int)=r:=by omega
 rw[er] at this;exact this
def Uh{n:Nat}{r:Int}(h0:0<=r)(h1:r<(n:Int)):seqIndex? r n=some r.toNat:=seqIndex_of h0 h1
section
variable {X:Cx} {a:Expr} {ta:TE} {p pos:Pos}
theorem NH(K:Frag)(ml:X.mg "isinstance"=none) {b:Expr} {tb:TE} (ha:PE X a ta) (hb:PE X b tb) (hg:Gl X "isinstance":=by rfl) (hs:starEach [a,b] X.env=[(false,eval a X.env),(false,eval b X.env)]:=by rfl) (hs2:starEach [b] X.env=[(false,eval b X.env)]:=by rfl) (hK:X.K=K:=by rfl):
  PE X (.Call (.Name "isinstance" p) [a,b] [] pos) (fun B H Q=>ta B H fun x H1=>tb B H1 fun y H2=>∃(x':V) (t:String) (c:String),[x,y]=[x',.ty c]/\TyN K H2 x' t/\clNames.contains c=true/\Q (.bl (uJ t c)) H2):=by
 subst hK;exact wR PU hg ml rfl (rP ha (rP hb so hs2) (by rw[hs,hs2])) (he:=by rw[hs,hs2]) (hpl:=by rw[hs2];rfl)
theorem TY(K:Frag)(ml:X.mg "isinstance"=none) {b:Expr} {tb:TE} (ha:PE X a ta) (hb:PE X b tb) (hg:Gl X "isinstance":=by rfl) (hs:starEach [a,b] X.env=[(false,eval a X.env),(false,eval b X.env)]:=by rfl) (hs2:starEach [b] X.env=[(false,eval b X.env)]:=by rfl) (hK:X.K=K:=by rfl):
  PE X (.Call (.Name "isinstance" p) [a,b] [] pos) (fun B H Q=>ta B H fun x H1=>tb B H1 fun y H2=>∃(x':V) (t:String) (p:Addr) (cs:List String),[x,y]=[x',.ref p]/\SqT K H2 p (cs.map V.ty)/\TyN K H2 x' t/\cs.all clNames.contains=true/\Q (.bl (cs.any (uJ t))) H2):=by
 subst hK;exact wR VH hg ml rfl (rP ha (rP hb so hs2) (by rw[hs,hs2])) (he:=by rw[hs,hs2]) (hpl:=by rw[hs2];rfl)
theorem gT(K:Frag){es:List Expr}{k:Nat}{t:TGs}{n:Nat}(h:PGs X es t)(hc:X.calm=true:=by rfl)(hn:(assignEach es X.env).length=n:=by rfl)(hst:(assignEach es X.env).findIdx? (·.1)=none:=by rfl)(hK:X.K=K:=by rfl):
  PG X (.Tuple es k pos) (Fp K n t):=by subst hK;exact SO hc h hn hst
theorem iEn(K:Frag)(ml:X.mg "enumerate"=none) {elts:List Expr} {k:Nat} {tpos:Pos} (ha:PE X a ta) (hg:Gl X "enumerate":=by rfl) (hs:starEach [a] X.env=[(false,eval a X.env)]:=by rfl) (hK:X.K=K:=by rfl):
  PI X (.Tuple elts k tpos) (.Call (.Name "enumerate" p) [a] [] pos) (Jb K (tK ta uE)):=by
 subst hK;exact VD hg ml (rP ha so hs) hs
end
def CV{xs:List V}{Pd:V->Prop}{r:Int}(h:∀x∈xs,Pd x)(h0:0<=r)(h1:r<(xs.length:Int)):∃v,atI xs r=some v/\Pd v:=
 ⟨_,M5 h0 h1,h _ (XU _)⟩
section
variable {X:Cx} {a b o:Expr} {ta tb to:TE} {pos:Pos}
theorem Rw(K:Frag){apos:Pos}(ho:PE X o to)(ha:PE X a ta)(hb:PE X b tb)(hs:starEach [a,b] X.env=[(false,eval a X.env),(false,eval b X.env)]:=by rfl)(hs2:starEach [b] X.env=[(false,eval b X.env)]:=by rfl)
  (hbase:attributeBase o "setdefault" X.env (eval o X.env)=eval o X.env:=by rfl) (hline:(apos.endLine==pos.line)=true:=by rfl) (hK:X.K=K:=by rfl)
  (hfew:((backTo pos (starEach [a,b] X.env)).all (fun x=>!x.1)&&(backToKw pos (keywordEach [] X.env)).all (fun x=>x.1.isSome)
   &&decide ([a,b].length+([]:List Keyword).length+(if([]:List Keyword).isEmpty then 0 else 1)<30))=true:=by rfl):
  PE X (.Call (.Attribute o "setdefault" apos) [a,b] [] pos) (tBM K "dict" Jp to (tK ta (tK tb uE))):=by
 subst hK;exact Ac PySem.F.plainAttrs_dict PySem.F.slot_dict_setdefault PySem.F.type_dict_setdefault PP ho (rP ha (rP hb so hs2) (by rw[hs,hs2])) hbase hfew hline (by rw[hs,hs2]) (by rw[hs2];rfl)
theorem SS(K:Frag){apos:Pos}(ho:PE X o to)(hbase:attributeBase o "values" X.env (eval o X.env)=eval o X.env:=by rfl) (hline:(apos.endLine==pos.line)=true:=by rfl) (hK:X.K=K:=by rfl):
  PE X (.Call (.Attribute o "values" apos) [] [] pos) (CH K "dict" Le to):=by
 subst hK;exact LD PySem.F.plainAttrs_dict PySem.F.slot_dict_values PySem.F.type_dict_values zmy ho hbase hline
end
abbrev Cel:=Int×List Int×Addr
def gs(cs:List Cel):List (Int×List Int):=cs.map fun c=>(c.1,c.2.1)
section
variable {K:Frag} {H:Hp}
theorem Dps.len:∀{vs:List V} {ds:List PyData},Dps K H vs ds->vs.length=ds.length
 |_,_,.nil=>rfl
 |_,_,.cons _ hs=>congrArg (·+1) (Dps.len hs)
theorem Dps.get:∀{vs:List V} {ds:List PyData} {i:Nat} {v:V},Dps K H vs ds->vs[i]?=some v->∃d,ds[i]?=some d/\Dp K H v d
 |_,_,_,_,.nil,h=>by simp at h
 |_,_,0,_,.cons (d:=d) h hs,e=>by
  have:_=_:=Xv e;subst this;exact⟨d,rfl,h⟩
 |_,_,i+1,_,.cons h hs,e=>Dps.get (i:=i) hs e
end
def IsMax(M:Int)(l:List Int):Prop:=M∈l/\∀a∈l,a<=M
def IsMax.step{M x:Int}{l:List Int}(h:IsMax M l):IsMax (if x>M then x else M) (l++[x]):=by
 obtain⟨h1,h2⟩:=h;refine(⟨?_,fun a ha=>?_⟩)
 ·split
  ·simp
  ·exact List.mem_append_left _ h1
 ·rcases XM.mp ha with z|z
  ·have:=h2 a z;split<;>omega
  ·have:a=x:=by simpa using z
   subst this;split<;>omega
def GN(ns:List Int)(j:Nat):Option Value->Prop
 |none=>j=0
 |some v=>∃M t,v=.int M t/\IsMax M (ns.take j)
def GC:Option Value->Array Value
 |none=>#[]
 |some v=>#[v,v]
theorem GS:∀{vs:List Value} {ns:List Int} {j:Nat} {v:Value},IntsAre vs ns->vs[j]?=some v->∃t,v=.int (ns.getD j 0) t
 |_,_,_,_,.nil,h=>by simp at h
 |_,_,0,_,.cons n t _,h=>⟨t,(Xv h).symm⟩
 |_,_,j+1,_,.cons n t r,h=>by
  obtain⟨t',e⟩:=GS (j:=j) r h;exact(⟨t',by simpa using e⟩)
def QO(a d:Value):argsOk "max" ⟨[a],[("default",d)]⟩:=by unfold argsOk;kernel_rfl
section
variable {prog:Program} {w:World} {A:Around} {R:Result->Shared->Prop} {I l:Addr} {items:Array Value} {ns:List Int} {d:Value}
theorem V5(hh:A.in1.handled=none)(hne:l≠I)(hi:IntsAre items.toList ns)(S:Addr)(hSI:S≠I)(hSl:S≠l):
  ∀(k j:Nat) (s:Shared) (b:Option Value) (c:Nat),items.size - j=k->j<=items.size->s.heap.IsListIter I l j->s.heap.IsList l items->GN ns j b->
   s.heap.get? S=some {cls:=.type "list",dict:=none,data:=.seq (GC b) c,slots:=#[]}->
   (∀v h' tk,((ns=[]/\v=d)\/∃M t,v=.int M t/\IsMax M ns)->(∀x o,x≠I->x≠S->s.heap.get? x=some o->h'.get? x=some o)->R (.ok (.ret v)) {s with heap:=h',toks:=tk})->
   codeAny (model prog w) A (.builtin "max.loop" ⟨[.ref I,.none,.ref S],[("default",d)]⟩) R s:=by
 have hnm:(toString "max"++toString ".loop":String)="max.loop":=by decide
 have hlen:ns.length=items.size:=by have:=hi.length;rw[Yi] at this;omega
 have W:=Walks.list (prog:=prog) (w:=w) hh I l hne items;intro k;induction k with
 |zero=>
  intro j s b c hk hj st1 st2 hb hS hR;have ej:j=items.size:=by omega
  subst ej;refine YA (F.entry_max_loop) (by
   rw[Yc YE];show wpAny _ A.in1 (seqItems? (.ref S) >>= fun _=>_) _ _ s;refine Xb (wpAny_seqItems hS rfl (?_:wpAny _ A.in1 (tryCatch (pyNext (.ref I)) (fun _=>_) >>= fun _=>_) _ _ s));refine Xb (wpAny_tryCatch (W.done s _ _ ⟨st1,st2⟩ fun h' tk keep=>?_));have kS:=keep S _ (by simpa using hSI) hS;cases b with
   |none=>
    have hb0:items.size=0:=hb;have hn:ns=[]:=Yd.mp (by omega);show wpAny _ A.in1 (rule _ >>= fun _=>ret d) _ _ _;exact Xb (wpAny_rule (Xf (hR d h' tk (.inl ⟨hn,rfl⟩) fun x o n1 _ e=>keep x o (by simpa using n1) e)))
   |some v=>
    obtain⟨M,t,rfl,hM⟩:=hb;have htk:ns.take items.size=ns:=List.take_of_length_le (by omega);rw[htk] at hM;show wpAny _ A.in1 (updateSeq S (fun _=>#[]) >>= fun _=>_) _ _ _;refine Xb (wpAny_updateSeq (hz:=by show 2<=sizeLine;decide) kS rfl (Xb (wpAny_letGo (Xf (hR _ _ tk (.inr ⟨M,t,rfl,hM⟩) fun x o n1 n2 e=>?_)))));exact(Yg _ _ (Ne.symm n2)).trans (keep x o (by simpa using n1) e))
 |succ k ih=>
  intro j s b c hk hj st1 st2 hb hS hR;have hlt:j<items.size:=by omega
  refine YA (F.entry_max_loop) (by
   rw[Yc YE];show wpAny _ A.in1 (seqItems? (.ref S) >>= fun _=>_) _ _ s;refine Xb (wpAny_seqItems hS rfl (?_:wpAny _ A.in1 (tryCatch (pyNext (.ref I)) (fun _=>_) >>= fun _=>_) _ _ s));refine Xb (wpAny_tryCatch (W.item j s _ _ hlt ⟨st1,st2⟩ fun v h' tk hv st' keep=>?_));have kS:=keep S _ (by simpa using hSI) hS;have hx:∃t,v=.int (ns.getD j 0) t:=by
    exact GS hi (by rw[Array.getElem?_toList];exact hv)
   obtain⟨t,rfl⟩:=hx;have htk:ns.take (j+1)=ns.take j++[ns.getD j 0]:=by
    rw[List.take_add_one,Xh,Xk (by omega)];rfl
   have goOn:∀(b':Option Value) (h2:Heap) (c':Nat),GN ns (j+1) b'->h2.get? S=some {cls:=.type "list",dict:=none,data:=.seq (GC b') c',slots:=#[]}->
     (∀x o,x≠S->h'.get? x=some o->h2.get? x=some o)->codeAny (model prog w) A (.builtin "max.loop" ⟨[.ref I,.none,.ref S],[("default",d)]⟩) R {s with heap:=h2,toks:=tk}:=fun b' h2 c' hb' hS' k2=>by
    refine ih (j+1) _ b' c' (by omega) hlt (st'.1.at fun o e=>k2 I o (Ne.symm hSI) e) (st'.2.at fun o e=>k2 l o (Ne.symm hSl) e) hb' hS' fun v' h3 tk3 hv' k3=>hR v' h3 tk3 hv' fun x o n1 n2 e=>?_;exact k3 x o n1 n2 (k2 x o n2 (keep x o (by simpa using n1) e))
   cases b with
   |none=>
    have hb0:j=0:=hb;subst hb0;show wpAny _ A.in1 (updateSeq S (fun _=>#[Value.int (ns.getD 0 0) t,Value.int (ns.getD 0 0) t]) >>= fun _=>_) _ _ _;refine Xb (wpAny_updateSeq kS rfl ?_);rw[hnm];refine Xf ⟨YD YE _,goOn (some (.int (ns.getD 0 0) t)) _ _ ⟨_,t,rfl,?_⟩ (Heap.get?_update_self _ kS rfl) fun x o n e=>(Yg _ _ (Ne.symm n)).trans e⟩;rw[htk];exact⟨by simp,fun a ha=>by
     have:a=ns.getD 0 0:=by simpa using ha
     omega⟩
   |some vb=>
    obtain⟨M,tb,rfl,hM⟩:=hb;show wpAny _ A.in1 (tryCatch (holding [Value.int (ns.getD j 0) t,Value.int (ns.getD j 0) t] (richCompare .Gt (.int (ns.getD j 0) t) (.int M tb) >>= fun _=>_)) (fun _=>_) >>= fun _=>_) _ _ _;refine Xb (wpAny_tryCatch (Yp (Xb ?_)));refine richCompare_gives (op:=.Gt) (typeIs_int _ _ t) (typeIs_int _ _ tb) F.slot_int_gt F.entry_int_gt (F.args_int_gt_2 _ _) (gives_int_gt _ _ t tb) (fun x=>nomatch x) ?_;refine Xb (Yp (XV (Xb (wpAny_letGo (Xf ?_)))));have hst:=hM.step (x:=ns.getD j 0);rw[←htk] at hst;by_cases hgt:ns.getD j 0>M
    ·rw[if_pos hgt] at hst;rw[if_pos (XO hgt)];refine Xb (wpAny_updateSeq (hz:=by show 2<=sizeLine;decide) kS rfl (Xb (wpAny_letGo ?_)));rw[hnm];exact Xf ⟨YD YE _,goOn (some (.int (ns.getD j 0) t)) _ _ ⟨_,t,rfl,hst⟩ (Heap.get?_update_self _ kS rfl) fun x o n e=>(Yg _ _ (Ne.symm n)).trans e⟩
    ·rw[if_neg hgt] at hst;rw[if_neg (by simpa using hgt)];refine Xb (wpAny_letGo ?_);rw[hnm];exact Xf ⟨YD YE _,goOn (some (.int M tb)) _ _ ⟨_,tb,rfl,hst⟩ kS fun x o _ e=>e⟩)
theorem Nh{E:OK}{s:Shared}{Q:OK}{vs:List Value}(hh:A.handled=none)(hl:s.heap.IsList l vs.toArray)(hi:IntsAre vs ns)
  (h:∀v h' tk,((ns=[]/\v=d)\/∃M t,v=.int M t/\IsMax M ns)->(∀b o,s.heap.get? b=some o->h'.get? b=some o)->Q v {s with heap:=h',toks:=tk}):
  wpAny (model prog w) A (call (.builtin "max") [.ref l] [("default",d)]) Q E s:=by
 have hnm:(toString "max"++toString ".loop":String)="max.loop":=by decide
 obtain⟨ol,el,_⟩:=id hl;have llt:l<s.heap.objs.size:=Xi el;have body:wpAny (model prog w) A.in1 (Builtin.«max» ⟨[.ref l],[("default",d)]⟩) (fun fin s'=>match fin with
   | .done f=>(match(Except.ok f:Result) with| .ok (.ret v)=>Q v s'| .ok _=>False| .error e=>E e s')
   | .again c'=>c'.quiet=true/\codeAny (model prog w) A c' (fun r s'=>match r with| .ok (.ret v)=>Q v s'| .ok _=>False| .error e=>E e s') s') E s:=by
  show wpAny _ A.in1 (Builtin.Builtins.bindParams "max" ["key","default"] 0 ⟨[],[("default",d)]⟩ >>= fun _=>_) _ _ s;refine Xb (wpAny_of_eq (show Builtin.Builtins.bindParams "max" ["key","default"] 0 ⟨[],[("default",d)]⟩=pure [none,some d] from by with_unfolding_all rfl) (Xb (Xf ?_)));refine Xb (wpAny_pyIter_list hl ?_);refine Xb (X5 ?_);rw[hnm];refine Xf ⟨YD YE _,?_⟩;have e1:(s.heap.push {cls:=.type "list_iterator",data:=.fields #[.ref l,.int 0 0]}).objs.size=s.heap.objs.size+1:=X7 ..;refine V5 (I:=s.heap.objs.size) (l:=l) (items:=vs.toArray) (ns:=ns) (d:=d) hh (Xr llt) (by simpa using hi) _ (by rw[e1];exact Nat.ne_of_gt (Nat.lt_succ_self _)) (by rw[e1];exact Nat.ne_of_gt (YG llt)) _ 0 _ none 0 rfl (X2 _)
   ⟨_,Xd _ (Xl _ rfl),rfl,rfl⟩ ((hl.push _).push _) rfl (Xl _ rfl) fun v h' tk hv kp=>?_
  refine h v h' tk hv fun b o e=>kp b o (Xr (Xi e)) (by rw[e1];exact Xr (YG (Xi e))) (Xd _ (Xd _ e))
 refine wpAny_call (codeAny_call_builtin F.plain_max F.entry_max ?_);simp only[checkBuiltinCall,F.kind_max];have ha:=QO (.ref l) d;cases hsig:Manifest.signature? "max" with
 |none=>exact Xf body
 |some sig=>
  simp only[argsOk,hsig] at ha;have h2:Bind.checkArgs "max" sig ⟨[.ref l],[("default",d)]⟩=pure ():=ha;show wpAny _ A.in1 (Bind.checkArgs "max" sig ⟨[.ref l],[("default",d)]⟩) _ _ s;rw[h2];exact Xf body
end
section
variable {X:Cx} {a b:Expr} {ta tb:TE} {p pos kp:Pos}
theorem UG(K:Frag)(mm:X.mg "max"=none) (ha:PE X a ta) (hb:PE X b tb) (hc:X.calm=true:=by rfl) (hg:Gl X "max":=by rfl) (hs:starEach [a] X.env=[(false,eval a X.env)]:=by rfl) (hK:X.K=K:=by rfl)
  (hall:(backToKw pos (keywordEach [⟨some "default",b,kp⟩] X.env)).all (·.1.isSome)=true:=by rfl) (hks:(backToKw pos (keywordEach [⟨some "default",b,kp⟩] X.env)).filterMap (·.1)=([Str.ofString "default"]:List Str):=by rfl)
  (hno:(backToKw pos (keywordEach [⟨some "default",b,kp⟩] X.env)).any (·.1.isNone)=false:=by rfl):
  PE X (.Call (.Name "max" p) [a] [⟨some "default",b,kp⟩] pos) (fun B H Q=>ta B H fun x H1=>tb B H1 fun y H2=>∃(q:Addr) (ns:List Int) (j:Int),x=.ref q/\y=.int j/\SqL K H2 q (ns.map V.int)/\(ns=[]->Q (.int j) H2)/\∀M,IsMax M ns->Q (.int M) H2):=by
 subst hK;intro pins s B H Q I h;have hb1:backTo pos (starEach [a] X.env)=[(false,eval a X.env)]:=by rw[hs];rfl
 refine Yv (vw I hg mm (u:=.builtin "max") rfl (callWith_builtin_kwB (by rw[hb1];rfl) hno ?_));rw[hb1];refine evalArgs_kwB hall (Calls.spliced_cons (thn (ha pins s B H _ I h) fun u s1 ⟨x,H1,I1,r1,q1⟩=>Calls.spliced_nil ?_));refine kws_cons (thn (hb pins s1 B H1 _ I1 q1) fun u2 s2 ⟨y,H2,I2,r2,q2⟩=>kws_nil ?_);obtain⟨q,ns,j,rfl,rfl,hq,hz,hm⟩:=q2;cases r1;obtain⟨t,rfl⟩:=r2;obtain⟨its,rv,pl,_⟩:=I2.list hq;rw[hks];refine Nh (d:=.int j t) (I2.ok.hd hc) pl.isList (G0 rv) fun v h' tk hv kp'=>?_;rcases hv with⟨e,rfl⟩|⟨M,t',rfl,hM⟩
 ·exact⟨.int j,H2,I2.kept kp',⟨_,rfl⟩,hz e⟩
 ·exact⟨.int M,H2,I2.kept kp',⟨_,rfl⟩,hm M hM⟩
end
section
variable {X:Cx} {a b:Expr} {ta tb:TE} {p pos:Pos}
theorem zoq:tL X (.type "int") (fun xs H Q=>∃k,xs=[V.bl k]/\Q (.int (if k then 1 else 0)) H):=fun pins s B H xs us Q I r h=>WO pins s B H xs us Q I r (.inr h)
theorem Uj(ml:X.mg "int"=none) (ha:PE X a ta) (hg:Gl X "int":=by rfl) (hs:starEach [a] X.env=[(false,eval a X.env)]:=by rfl):
  PE X (.Call (.Name "int" p) [a] [] pos) (fun B H Q=>ta B H fun x H1=>∃k,[x]=[V.bl k]/\Q (.int (if k then 1 else 0)) H1):=
 zq zoq hg ml rfl (rP ha so hs) (he:=hs)
theorem iR2(mr:X.mg "range"=none) {tg:Expr} (ha:PE X a ta) (hb:PE X b tb) (hg:Gl X "range":=by rfl) (hs:starEach [a,b] X.env=[(false,eval a X.env),(false,eval b X.env)]:=by rfl) (hs2:starEach [b] X.env=[(false,eval b X.env)]:=by rfl):
  PI X tg (.Call (.Name "range" p) [a,b] [] pos) (Jv (tK ta (tK tb uE))):=Vu hg mr (rP ha (rP hb so hs2) (by rw[hs,hs2])) hs hs2
theorem Ue(K:Frag)(ha:PE X a ta)(hb:PE X b tb)(hm:behindInMarks .NotIn b=false:=by rfl)(hK:X.K=K:=by rfl):PT X (.Compare a [.NotIn] [b] pos) (A5 (tOp (rIn K true) ta tb)):=by
 subst hK;exact JD SJ ha hb hm
end
abbrev Ask:=Nat×Nat×Bool
section
variable {X:Cx}
theorem SI:OpR X (binaryOp .FloorDiv) (rI (fun _ j=>0<j/\j<2^200) fun i j=>.int (i/j)):=opI fun i j _ _ _ _ _ hc q=>by
 obtain⟨h1,h2⟩:=hc;refine floordiv_int (by omega) (by rw[Int.fdiv_eq_ediv_of_nonneg i (by omega)];exact q) (.inl (PyProof.noPylong_of_log2 ?_));have h3:j.natAbs≠0:=by omega
 have h4:j.natAbs<2^200:=by
  have:((j.natAbs:Nat):Int)=j:=by omega
  have h5:((j.natAbs:Nat):Int)<((2^200:Nat):Int):=by rw[this];exact_mod_cast h2
  omega
 have:=(Nat.log2_lt h3).mpr h4;omega
theorem UO(K:Frag){a:Expr}{ta:TE}{p pos:Pos}(mm:X.mg "max"=none) (ha:PE X a ta) (hc:X.calm=true:=by rfl) (hg:Gl X "max":=by rfl) (hs:starEach [a] X.env=[(false,eval a X.env)]:=by rfl) (hK:X.K=K:=by rfl):
  PE X (.Call (.Name "max" p) [a] [] pos) (fun B H Q=>ta B H fun x H1=>∃(q:Addr) (ns:List Int),[x]=[.ref q]/\SqL K H1 q (ns.map V.int)/\ns≠[]/\∀M,IsMax M ns->Q (.int M) H1):=by
 subst hK;have rule:tL X (.builtin "max") (fun xs H Q=>∃(q:Addr) (ns:List Int),xs=[.ref q]/\SqL X.K H q (ns.map V.int)/\ns≠[]/\∀M,IsMax M ns->Q (.int M) H):=by
  intro pins s B H xs us Q I r h;obtain⟨q,ns,rfl,hq,hne,k⟩:=h;obtain⟨u,rfl,ru⟩:=uZ r;cases ru;obtain⟨its,rv,pl,hz⟩:=I.list hq;have hi:=G0 rv;obtain⟨xs,e⟩:=hi.allInts.items;have hl:=pl.isList;rw[e] at hl;have hns:xs.toList.map (·.1)=ns:=by rw[←hi.numsOf,←nums_intItems,←e]
  have hsz:0<xs.size:=by
   rcases Nat.eq_zero_or_pos xs.size with z|z
   ·exact absurd (by rw[←hns,List.map_eq_nil_iff];exact Yd.mp (by simpa using z)) hne
   ·exact z
  have hlen:(xs.toList.map (·.1)).length=xs.size:=by rw[Xj,Yi]
  refine max_intList (I.ok.hd hc) hl hsz fun v h' tk hv hk=>?_;obtain⟨t,rfl⟩:=intItems_at hv;have best:=argBest_gt (numAt xs) (xs.size - 1);refine(⟨.int _,H,I.kept hk,⟨_,rfl⟩,k _ ⟨?_,fun a ha=>?_⟩⟩)
  ·rw[←hns,numAt_eq];have:=best.1;exact getD_mem (by rw[hlen];omega)
  ·rw[←hns] at ha;obtain⟨j,hj,e2⟩:=mem_getD ha;rw[hlen] at hj;rw[←e2,←numAt_eq];exact best.2 j (by omega)
 exact wR rule hg mm rfl (rP ha so hs) (he:=hs)
end
inductive Tr where
 |none
 |one (i:Int)
 |ask (i j:Int) (a u:Tr)
theorem Hs:∀{bs:List Bool} {us:List Value},Vals (bs.map V.bl) us->us=bs.map Value.bool
 | [],_,h=>by cases h;rfl
 |b::r,_,h=>by
  cases h with
  |cons h1 h2=>
   cases (show _=Value.bool b from h1);rw[Hs h2];rfl
section
variable {X:Cx} {a b o:Expr} {ta:TE} {p pos:Pos}
theorem Qu(K:Frag)(mm:X.mg "all"=none) (ha:PE X a ta) (hc:X.calm=true:=by rfl) (hg:Gl X "all":=by rfl) (hs:starEach [a] X.env=[(false,eval a X.env)]:=by rfl) (hK:X.K=K:=by rfl):
  PE X (.Call (.Name "all" p) [a] [] pos) (fun B H Q=>ta B H fun x H1=>∃(q:Addr) (bs:List Bool),[x]=[.ref q]/\SqL K H1 q (bs.map V.bl)/\Q (.bl (bs.all id)) H1):=by
 subst hK;have rule:tL X (.builtin "all") (fun xs H Q=>∃(q:Addr) (bs:List Bool),xs=[.ref q]/\SqL X.K H q (bs.map V.bl)/\Q (.bl (bs.all id)) H):=by
  intro pins s B H xs us Q I r h;obtain⟨q,bs,rfl,hq,k⟩:=h;obtain⟨u,rfl,ru⟩:=uZ r;cases ru;obtain⟨its,rv,pl,hz⟩:=I.list hq;have ei:its=bs.map Value.bool:=Hs rv;subst ei;obtain⟨ol,el,_⟩:=id pl.isList;have qlt:q<s.heap.objs.size:=Xi el;refine(call_all_walk (wpAny_pyIter_list pl.isList ⟨_,_,_,_,_,_,fun i=>bs.getD i false,rfl,Walks.list (A:=X.A.in1) (I.ok.hd hc) _ q (Xr qlt) (bs.map Value.bool).toArray,⟨⟨_,Xl _ rfl,rfl,rfl⟩,pl.isList.push _⟩,?_,fun h' tk keep=>?_⟩))
  ·intro i v s' Q' E' hv hQ;have hv':(bs.map Value.bool)[i]?=some v:=by simpa using hv
   rw[Xw] at hv';cases eb:bs[i]? with
   |none=>rw[eb] at hv';cases hv'
   |some b=>
    rw[eb] at hv';have:v=.bool b:=(Xv hv').symm;subst this;have e2:bs.getD i false=b:=by rw[Xh,eb];rfl
    simp only[e2] at hQ;exact XV hQ
  ·have ea:(List.range (bs.map Value.bool).toArray.size).all (fun i=>bs.getD i false)=bs.all id:=by
    rw[Yk,XJ,XJ];constructor
    ·intro hh b hb;obtain⟨i,hi⟩:=X8 hb;have:=hh i (by simp;exact(Xe.mp hi).1);rw[Xh,hi] at this;exact this
    ·intro hh i hi;have hi':i<bs.length:=by simpa using hi
     rw[Xh,Xk hi'];exact hh _ (XU hi')
   rw[ea];have kp:∀b o,s.heap.get? b=some o->h'.get? b=some o:=fun b o e=>keep b o (fun hm=>absurd (XX.mp hm) (Xr (Xi e))) (Xd _ e);exact⟨.bl _,H,I.kept kp,rfl,k⟩
 exact wR rule hg mm rfl (rP ha so hs) (he:=hs)
def isInt(k:Int):Value->Bool
 | .int a _=>a==k
 |_=>false
end
def Oh(o:List Int)(k:Int):Nat:=if k∈o then o.idxOf k+1 else o.length
def So(o:List Int)(fs:List Nat)(n:Nat)(k:Int)(m:Nat):List Ask:=(List.range m).map fun at_=>(fs.getD at_ 0,n,decide (o.getD at_ 0=k))
def ob(ks:List Int):Nat->List Int×List Nat×List Ask
 |0=>([],[],[])
 |n+1=>(if ks.getD n 0∈(ob ks n).1 then(ob ks n).1 else(ob ks n).1++[ks.getD n 0],
   if ks.getD n 0∈(ob ks n).1 then(ob ks n).2.1 else(ob ks n).2.1++[n],
   (ob ks n).2.2++So (ob ks n).1 (ob ks n).2.1 n (ks.getD n 0) (Oh (ob ks n).1 (ks.getD n 0)))
section
variable {prog:Program} {w:World} {A:Around} {R:Result->Shared->Prop} {s:Shared}
theorem Qw{kx vx target iter:Expr}{ifs:List Expr}{scope:Scope}{pos:Pos}{it:Value}{D:Addr}{env:Env}(I:Nat->Shared->Prop)
  (turn:∀n s,I n s->wpAny (model prog w) A (pyNext it) (fun r ZU=>match r with
   |none=>R (.ok .next) ZU
   |some v=>wpAny (model prog w) A (letOwnedTupleGo target it v) (fun _ ZB=>wpAny (model prog w) A (assign target env v) (fun _ ZK=>
     wpAny (model prog w) A (forIn ifs true fun c r=>if r=true then do let ok ←isTrue c env (eval c env);pure (ForInStep.yield ok) else pure (ForInStep.yield r)) (fun ok ZM=>
      if ok=true then wpAny (model prog w) A (eval kx env) (fun kv ZH=>wpAny (model prog w) A (eval vx env) (fun vv ZE=>
       wpAny (model prog w) A (dictSet D kv vv) (fun _ Zn=>∃m,m<n/\I m Zn) (fun _ _=>False) ZE) (fun _ _=>False) ZH) (fun _ _=>False) ZM
      else ∃m,m<n/\I m ZM) (fun _ _=>False) ZK) (fun _ _=>False) ZB) (fun _ _=>False) ZU) (fun _ _=>False) s)
  (n:Nat) (h:I n s):codeAny (model prog w) A (.compLoop (.DictComp kx vx [⟨target,iter,ifs,0⟩] scope pos) 0 it (.ref D) env) R s:=by
 refine codeAny_loop rfl I (fun n s hI=>?_) n h;show wpAny _ A ((compTurn (.DictComp kx vx [⟨target,iter,ifs,0⟩] scope pos) 0 it (.ref D) env).onRaise (fun x=>do noteFrame x env;theTreesLotGoes x)) _ _ s;refine wpAny_noted ?_;rw[compTurn_dict];refine Xg (E:=fun _ _=>False) ?_ (fun _ _ x=>x) fun _ _ x=>x.elim;refine Xb (Ye (Xb (Xg (turn n s hI) (fun r ZU ZR=>?_) fun _ _ h'=>h')));cases r with
 |none=>exact Xf ZR
 |some v=>
  refine Xb (Xg ZR (fun _ ZB Zw=>?_) fun _ _ h'=>h');refine Xb (Xg Zw (fun _ ZK ZC=>Xb (Xg ZC (fun ok ZM ZF=>?_) fun _ _ h'=>h')) fun _ _ h'=>h');cases ok with
  |false=>exact Xf ⟨rfl,ZF⟩
  |true=>
   exact Xb (Xb (Xg ZF (fun kv ZH Zv=>Xb (Yp (Xg Zv (fun vv ZE Zu=>Xb (Ye (Yp (Xg Zu (fun _ Zn Zk=>Xf ⟨rfl,Zk⟩) fun _ _ h'=>h')))) fun _ _ h'=>h'))) fun _ _ h'=>h'))
end
def AB(J:It)(g:TG)(tc:TT)(tk tv:TE)(D:Addr)(ZO:St)(H0:Hp)(Z:Hp->Prop):Prop:=
 ∃W:Nat->Nat->St->Hp->Prop,(∃m,W 0 m ZO (upd H0 D (.dK [])))/\∀i m B H,W i m B H->
  (J.stop i H/\Z H)\/(J.go i H/\∃N:St->Hp->Prop,(∀Z0 H',N Z0 H'->∃m',m'<m/\W (i+1) m' Z0 H')/\∀x H',J.yld i H x H'->g x B H' fun ZW H2=>tc ZW H2 fun b H3=>
   if b=true then tk ZW H3 fun y H4=>tv ZW H4 fun v H5=>∃kvs k,H5 D=some (.dK kvs)/\kvs.length<sizeLine/\y=kV k/\N ZW (upd H5 D (.dK (sj kvs k v))) else N ZW H3)
section
variable {X:Cx} {pins:QS} {B:St} {N' own:List Str} {cap:List (Str×Nat)} {scope:Scope} {tg iter kx vx:Expr} {ifs:List Expr} {pos:Pos} {g:TG} {tc:TT} {tk tv:TE} {wi:TI}
theorem VN{Y:Cx}{s:Shared}{ZO:St}{H2:Hp}{it D:Addr}{fp:List Addr}{tn:Nat->Heap->Prop}{J:It}{Z:Hp->Prop}{R:Result->Shared->Prop}
  (hx:∀e s,Y.xe e s->False) (hc:Y.calm=true) (hg:PG Y tg g) (ht:PIf Y ifs tc) (hk0:PE Y kx tk) (hv0:PE Y vx tv)
  (T:Turn Y.prog Y.w Y.K tg J fp it tn) (J0:Inv Y [] ZO (upd H2 D (.dK [])) s) (st3:tn 0 s.heap) (f3:∀b∈fp,upd H2 D (.dK []) b=none)
  (stat:∀{H':Hp},(∀b∈fp,H' b=none)->∀b∈fp,sg Y [] H' b) (h:AB J g tc tk tv D ZO H2 Z)
  (hR:∀ZQ H4 s5,Inv Y [] ZQ H4 s5->Z H4->R (.ok .next) s5):
  codeAny (model Y.prog Y.w) Y.A (.compLoop (.DictComp kx vx [⟨tg,iter,ifs,0⟩] scope pos) 0 (.ref it) (.ref D) Y.env) R s:=by
 obtain⟨W,⟨m0,w0⟩,turn⟩:=h;have noX:∀{α:Type} {t:Sem α} {Q:α->Shared->Prop} {s:Shared},wpAny (model Y.prog Y.w) Y.A t Q Y.xe s->wpAny (model Y.prog Y.w) Y.A t Q (fun _ _=>False) s:=fun q=>Xg q (fun _ _ z=>z) fun e s z=>hx e s z;obtain⟨P,hP⟩:∃P:Nat->Shared->Prop,∀n s',P n s'↔∃i Z0 H',Inv Y [] Z0 H' s'/\tn i s'.heap/\(∀b∈fp,H' b=none)/\W i n Z0 H':=⟨_,fun _ _=>Iff.rfl⟩
 refine Qw P ?_ m0 ((hP _ _).2 ⟨0,_,_,J0,st3,f3,w0⟩);rintro n s4 h4;obtain⟨i,ZQ,H4,I4,st4,fr4,w4⟩:=(hP _ _).1 h4;rcases turn i n ZQ H4 w4 with⟨stop,qz⟩|⟨go,N,hN,step⟩
 ·refine Xg (T.done Y rfl rfl rfl hc i [] s4 ZQ H4 (fun _ _=>False) I4 (stat fr4) st4 stop) (fun r s5 ⟨hr,I5⟩=>?_) fun _ _ z=>z;subst hr;exact hR ZQ H4 s5 I5 qz
 ·refine Xg (T.item Y rfl rfl rfl hc i [] s4 ZQ H4 (fun _ _=>False) I4 (stat fr4) st4 go) (fun r s5 ⟨u,hr,h5⟩=>?_) fun _ _ z=>z;subst hr;refine Xg h5 (fun _ s6 hm=>?_) fun _ _ z=>z;obtain⟨x,H6,I6,r6,y6,st6,fr6⟩:=hm;have I6':=I6.pinned (stat fr6) (T.obj _ _ st6);have again:∀{ZT:St} {H7:Hp} {s7:Shared},Inv Y ([]++wg fp s6.heap) ZT H7 s7->N ZT H7->∃m,m<n/\P m s7:=fun{ZT H7 s7} I7 n7=>by
   obtain⟨m',hm,w7⟩:=hN ZT H7 n7;refine(⟨m',hm,(hP _ _).2 ⟨i+1,ZT,H7,I7.unpinned,T.keep _ _ _ st6 fun b hb o e=>(I7.pin (b,o) (Xo _ (Xo _ (va hb e)))).1,fun b hb=>?_,w7⟩⟩);obtain⟨o,e,d⟩:=T.obj _ _ st6 b hb;exact((I7.pin (b,o) (Xo _ (Xo _ (va hb e)))).2.1)
  refine noX (thn (hg _ s6 ZQ H6 x u _ I6' r6 (step x H6 y6)) fun _ s7 hm=>?_);obtain⟨ZT,H7,I7,q7⟩:=hm;refine(noX (thn (ht _ s7 ZT H7 _ I7 q7) fun b s8 hm=>?_));obtain⟨H8,I8,q8⟩:=hm;cases b with
  |false=>
   show ∃m,_;exact again I8 q8
  |true=>
   show wpAny _ _ _ _ _ _;refine noX (thn (hk0 _ s8 ZT H8 _ I8 q8) fun kv s9 hm=>?_);obtain⟨vk,H9,I9,r9,q9⟩:=hm;refine(noX (thn (hv0 _ s9 ZT H9 _ I9 q9) fun vv s10 hm=>?_));obtain⟨v,H10,I10,r10,kvs,k,e10,hz,ek,q10⟩:=hm;subst ek;obtain⟨z,hd,vs,rel,dd⟩:=xb I10.hok e10;have hz':vs.length<=sizeLine:=by rw[←rel.length];exact z
   have hl:(sj kvs k v).length<=sizeLine:=by have:=AU kvs k v;omega
   refine(wpAny_dictSet_pairs (hsz:=hz') (zt r9) dd fun h' dd' hs'=>?_);have heo:∃q,h'.get? D=some q:=let ⟨q,_,_,hq,_⟩:=dd';⟨q,hq⟩
   exact again (BN (t':=s10.toks+1) I10 (by rw[e10];exact True.intro) hs' heo (ES hl hd (rel.put k r10) dd')) q10
theorem N9{s2:Shared}{H2:Hp}{it:Addr}{fp:List Addr}{tn:Nat->Heap->Prop}{J:It}{cl:List (Str×Addr)}{Z:Addr->Hp->Prop}{RR:Value->Addr->Result->Shared->Prop}{E:OK}
  (hx:∀e s,X.xe e s->False) (hc:X.calm=true) (S:CompScope X N' own cap scope)
  (hg:∀cl C Z4 Z2 ex,PG (qN X N' scope cl C Z4 Z2 ex) tg g) (ht:∀cl C Z4 Z2 ex,PIf (qN X N' scope cl C Z4 Z2 ex) ifs tc) (hk0:∀cl C Z4 Z2 ex,PE (qN X N' scope cl C Z4 Z2 ex) kx tk) (hv0:∀cl C Z4 Z2 ex,PE (qN X N' scope cl C Z4 Z2 ex) vx tv)
  (I2:Inv X pins B H2 s2) (T:Turn X.prog X.w X.K tg J fp it tn) (st2:tn 0 s2.heap) (f2:∀b∈fp,sg X pins H2 b)
  (c1:∀y c,cl.lookup y=some c->X.env.cells.lookup y=some c) (c2:∀y,(y,NameKind.free)∈scope.names->∃c,cl.lookup y=some c)
  (h:∀D,H2 D=none->AB J g tc tk tv D (sK own cap B) H2 (Z D))
  (hRR:∀D C s' m' H',Inv X pins B H' s'->s'.heap.Ns C m'->sg X pins H' C->Z D H'->RR (.ref D) C (.ok .next) s'):
  wpAny (model X.prog X.w) X.A (newDict) (fun acc ZM=>wpAny (model X.prog X.w) X.A (newFunctionEnv scope X.env.globals cl [] X.env.qual none .none (some X.env)) (fun cenv ZH=>
   codeAny (model X.prog X.w) X.A (.compStart (.DictComp kx vx [⟨tg,iter,ifs,0⟩] scope pos) 0 (.ref it) acc {cenv with scope:=relabel scope X.env}) (RR acc cenv.locals) ZH) E ZM) E s2:=by
 have hlt:∀b∈fp,b<s2.heap.objs.size:=fun b hb=>by
  obtain⟨o,e,_⟩:=T.obj _ _ st2 b hb;exact(Xi e)
 have hD:H2 s2.heap.objs.size=none:=I2.hok.fresh (Xc _);have hsys:(s2.heap.objs.size==sysModules)=false:=by
  have:=I2.big;rw[beq_eq_false_iff_ne];exact Nat.ne_of_gt this
 refine X5 (DJ (fun ZR ZA Zz Zy=>?_));dsimp only at ZA Zz Zy⊢;have I3:Inv X pins B (upd H2 s2.heap.objs.size (.dK [])) {s2 with heap:=s2.heap.push {cls:=.type "dict",dict:=none,data:=.dict #[]},toks:=s2.toks}:=
  I2.laid (fun b o e=>Xd _ e) (Xc _) ⟨X2 _,hsys,[],.nil,Heap.DictOf.new s2.heap⟩
 generalize hs3:({s2 with heap:=s2.heap.push {cls:=.type "dict",dict:=none,data:=.dict #[]},toks:=s2.toks}:Shared)=s3 at I3;have e3:s2.heap.push {cls:=.type "dict",dict:=none,data:=.dict #[]}=s3.heap:=by rw[←hs3]
 have hsz:s3.heap.objs.size=s2.heap.objs.size+1:=by rw[←e3,X7]
 rw[e3] at ZA Zz Zy⊢;have hk:=Zz;have hcl:∀y c,cl.lookup y=some c->¬s3.heap.objs.size<c:=fun y c e z=>by
  obtain⟨v,o,ho,_⟩:=I3.cell y c (c1 y c e);exact(X0 _ (Nat.lt_trans z (Xi ho)))
 have CA:CellsAre X scope s3.heap.objs.size cl (cellsFrom (s3.heap.objs.size+1) scope.names cl):=EO (h:=s3.heap.push {cls:=.type "dict",data:=.dict #[]}) (by rw[X7]) S hcl;have hcell:∀y c,(cellsFrom (s3.heap.objs.size+1) scope.names cl).lookup y=some c->s3.heap.objs.size<c->ZR.IsCell c none:=fun y c e z=>by
  rw[uX,wy] at e;cases q:(cellsFrom (s3.heap.objs.size+1) scope.names []).lookup y with
  |none=>rw[q] at e;exact absurd z (hcl y c e)
  |some c'=>
   rw[q] at e;have:c'=c:=Xv e;subst this;exact Zy y c' (XQ q)
 generalize hcs:cellsFrom (s3.heap.objs.size+1) scope.names cl=cs at CA hcell⊢;have f3:∀b∈fp,sg X pins (upd H2 s2.heap.objs.size (.dK [])) b:=fun b hb=>⟨by rw[qZ (Xr (hlt b hb))];exact(f2 b hb).1,(f2 b hb).2⟩
 have hlt3:∀b∈fp,b<s3.heap.objs.size:=fun b hb=>by rw[hsz];exact YG (hlt b hb)
 have st3:tn 0 ZR:=T.keep _ _ _ st2 fun b hb o e=>hk b o (by rw[←e3];exact Xd _ e);have J0:Inv (qN X N' scope cs s3.heap.objs.size s3 (upd H2 s2.heap.objs.size (.dK [])) fp) [] (sK own cap B) (upd H2 s2.heap.objs.size (.dK [])) {s3 with heap:=ZR,toks:=s2.toks}:=
  comp_inv I3 S CA hcell c1 c2 f3 hlt3 hk ZA
 have stat:∀{pl:QS} {H':Hp},pl=[]->(∀b∈fp,H' b=none)->∀b∈fp,sg (qN X N' scope cs s3.heap.objs.size s3 (upd H2 s2.heap.objs.size (.dK [])) fp) pl H' b:=fun{pl H'} hp hn b hb=>by
  subst hp;refine⟨hn b hb,Xr (hlt3 b hb),J0.ok.exfs b hb,.inl hb,fun x c e=>J0.ok.exf b hb |>.2 x c e,fun p hp=>absurd hp (by show p∉([]++[]:QS);simp)⟩
 have loop:codeAny (model X.prog X.w) X.A (.compLoop (.DictComp kx vx [⟨tg,iter,ifs,0⟩] scope pos) 0 (.ref it) (.ref s2.heap.objs.size) (compEnvC scope cs s3.heap.objs.size X.env)) (RR (.ref s2.heap.objs.size) s3.heap.objs.size)
   {s3 with heap:=ZR,toks:=s2.toks}:=VN (Y:=qN X N' scope cs s3.heap.objs.size s3 (upd H2 s2.heap.objs.size (.dK [])) fp) hx hc (hg _ _ _ _ _) (ht _ _ _ _ _) (hk0 _ _ _ _ _) (hv0 _ _ _ _ _) T J0 st3 (fun b hb=>(f3 b hb).1) (stat rfl) (h _ hD) fun ZQ H4 s5 I5 qz=>by
  have I6:Inv X pins B H4 s5:=I3.call' (ch:=fp) I5.os I5.base I5.hok I5.bare fun b hb=>⟨(f3 b hb).2.2.2.1,(f3 b hb).2.1,(f3 b hb).2.2.2.2.1,(f3 b hb).2.2.2.2.2⟩
  obtain⟨m',hn',_⟩:=I5.loc;exact(hRR _ _ s5 m' H4 I6 hn' (I3.fpOk (Xc _) I5.free) qz)
 have lp:codeAny (model X.prog X.w) X.A (.compStart (.DictComp kx vx [⟨tg,iter,ifs,0⟩] scope pos) 0 (.ref it) (.ref s2.heap.objs.size) (compEnvC scope cs s3.heap.objs.size X.env)) (RR (.ref s2.heap.objs.size) s3.heap.objs.size)
   {s3 with heap:=ZR,toks:=s2.toks}:=codeAny_compStart_dict loop (T.self _ 0 _ _ _ st3 loop)
 subst hs3;exact lp
theorem T9(S:CompScope X N' own cap scope)(hi:PI X tg iter wi)
  (hg:∀cl C Z4 Z2 ex,PG (qN X N' scope cl C Z4 Z2 ex) tg g) (ht:∀cl C Z4 Z2 ex,PIf (qN X N' scope cl C Z4 Z2 ex) ifs tc) (hk:∀cl C Z4 Z2 ex,PE (qN X N' scope cl C Z4 Z2 ex) kx tk) (hv:∀cl C Z4 Z2 ex,PE (qN X N' scope cl C Z4 Z2 ex) vx tv)
  (hx:∀e s,X.xe e s->False:=by exact fun _ _ z=>z) (hc:X.calm=true:=by rfl) (hs:∀x,foldedSetIterable iter X.env x=pure x:=by intro _;rfl):
  PE X (.DictComp kx vx [⟨tg,iter,ifs,0⟩] scope pos) (fun B H Q=>wi B H fun J H1=>∀D,H1 D=none->AB J g tc tk tv D (sK own cap B) H1 (Q (.ref D))):=by
 intro pins s B H Q I h;rw[arm_eval_DictComp];obtain⟨cl,hcl,c1,c2⟩:=yl (scope:=scope) (env:=X.env) fun y hy hk=>I.ok.has y.1 (S.free y hy hk);refine(Ya (use:=none) rfl hs hcl S.kind S.names (thn (hi pins s B H _ I h) fun v s1 h1=>thn h1 fun itv s2 h2=>?_));obtain⟨it,fp,tn,J,H2,e,I2,T,st2,f2,q⟩:=h2;subst e;refine(N9 (RR:=fun acc C=>compPost (model X.prog X.w) X.A X.xe none (EP X pins B Q) acc C) (Z:=fun D=>Q (.ref D)) hx hc S hg ht hk hv I2 T st2 f2 c1 c2 q ?_);intro D C s' m' H' I' hn' f' z;exact⟨m',hn',fun h'' hs''=>⟨.ref D,H',I'.letgo f' hs'',rfl,z⟩⟩
end
def viO(v d:Addr):HO:=.ext fun h=>h.IsItemsView v d
def Ka:V->List V->Hp->VK->Prop:=fun x vs H Q=>∃(a:Addr) (kvs:List (Key×V)),x=.ref a/\vs=[]/\H a=some (.dK kvs)/\∀v,H v=none->Q (.ref v) (upd H v (viO v a))
section
variable {X:Cx} {o:Expr} {to:TE} {pos:Pos}
theorem Rq:MtM X "dict.items" Ka:=by
 intro pins s B H x vs v us Q I rx rv h;obtain⟨a,kvs,rfl,rfl,e,q⟩:=h;cases rx;have:=rv.zero;subst this;obtain⟨z,hd,ws,rel,dd⟩:=xb I.hok e;refine(call_meetsIn PySem.F.slot_dict_items dd.typeIs PySem.F.entry_dict_items (PySem.F.args_dict_items_1 _) (meets_dict_items (tQ X.prog X.w) a hd) ⟨⟨ws,dd⟩,?_⟩);have hv:(s.heap.push {cls:=.type "dict_items",data:=.fields #[.ref a]}).IsItemsView s.heap.objs.size a:=⟨_,Xl _ rfl,rfl,rfl⟩
 refine⟨.ref s.heap.objs.size,_,I.laid (t':=s.toks) (o:=viO s.heap.objs.size a) (fun b o q=>Xd _ q) (Xc _) ?_,rfl,q _ (I.hok.fresh (Xc _))⟩;exact⟨hv,⟨_,Xl _ rfl⟩,fun h1 h2 p k=>let ⟨o,ho,r⟩:=p;⟨o,k o ho,r⟩⟩
theorem R7(K:Frag){apos:Pos}(ho:PE X o to)(hbase:attributeBase o "items" X.env (eval o X.env)=eval o X.env:=by rfl) (hline:(apos.endLine==pos.line)=true:=by rfl) (hK:X.K=K:=by rfl):
  PE X (.Call (.Attribute o "items" apos) [] [] pos) (CH K "dict" Ka to):=by
 subst hK;exact LD PySem.F.plainAttrs_dict PySem.F.slot_dict_items PySem.F.type_dict_items Rq ho hbase hline
end
def Itd(d:Addr)(o:Obj)(kvs:List (Key×V)):It:=
 ⟨fun i H=>H d=some (.frz o (.dK kvs))/\i<kvs.length,fun i H x H'=>∃p k v,x=.ref p/\H p=none/\H'=upd H p (.tup [kV k,v])/\kvs[i]?=some (k,v),fun i H=>H d=some (.frz o (.dK kvs))/\kvs.length<=i⟩
def WB{k:Key}{u:Value}(h:xm k u=true):RelV (kV k) u:=by
 rcases uV h with⟨i,t,rfl,rfl⟩|⟨x,t,rfl,rfl⟩
 ·exact⟨t,rfl⟩
 ·exact⟨t,rfl⟩
def KV.get{kvs:List (Key×V)}{ws:List (Key×Value)}(rel:KV kvs ws):∀{i:Nat} {k:Key} {v:V},kvs[i]?=some (k,v)->∃u,ws[i]?=some (k,u)/\RelV v u:=by
 induction rel with
 |nil=>intro i k v h;simp at h
 | @cons a b l r hd tl ih=>
  intro i k v h;cases i with
  |zero=>
   have:a=(k,v):=by simpa using h
   subst this;obtain⟨b1,b2⟩:=b;obtain⟨h1,h2⟩:=hd;have:k=b1:=h1;subst this;exact⟨b2,rfl,h2⟩
  |succ i=>
   obtain⟨u,h1,h2⟩:=ih (i:=i) (k:=k) (v:=v) (by simpa using h);exact(⟨u,by simpa using h1,h2⟩)
theorem Ut{P:Program}{w:World}{K:Frag}{elts:List Expr}{k:Nat}{pos:Pos}{h0:Heap}{kvs:List (Key×V)}{ws:List (Key×Value)}{ep:Nat}{o:Obj}(d it:Addr)(rel:KV kvs ws)(ho:h0.get? d=some o)(hat:h0.DictAt (tQ P w) d ws ep):
  Turn P w K (.Tuple elts k pos) (Itd d o kvs) [it] it (fun i h=>∃ok ov,IsItemIter h it d i ws.length ep ok ov) where
 mem:=by simp
 obj:=fun i h st b hb=>by
  obtain⟨ok,ov,he⟩:=st;rw[XX.mp hb];exact⟨_,he,fun v z=>by cases z⟩
 keep:=fun i h h' st kk=>let ⟨ok,ov,he⟩:=st;⟨ok,ov,kk it (by simp) _ he⟩
 item:=by
  intro X hP hw hK hc i pins s B H E I hf st hg;subst hP hw hK;obtain⟨hH,hi⟩:=hg;obtain⟨hgo,_⟩:s.heap.get? d=some o/\_:=I.hok d _ hH;have hm:s.heap.DictAt (tQ X.prog X.w) d ws ep:=hat.at' fun o' e=>by rw[ho] at e;cases e;exact hgo
  obtain⟨kk,v⟩:Key×V:=kvs[i];obtain⟨⟨k1,v1⟩,hx⟩:∃p,kvs[i]?=some p:=⟨kvs[i],by simp[hi]⟩
  obtain⟨u,hu,ru⟩:=rel.get hx;obtain⟨ok,ov,he⟩:=st;refine(wpAny_pyNext_items_item he hm hu fun key h1 hkey hout hT hsz hk=>?_);refine⟨_,rfl,wpAny_letOwnedTupleGo_items hout fun h2 he2 hs2=>?_⟩;have hlt:it<s.heap.objs.size:=Xi he
  replace hs2:Heap.SameBut it h1 h2:=hs2
  have hT2:h2.get? s.heap.objs.size=some {cls:=.type "tuple",data:=.seq #[key,u]}:=(hs2.2 _ (Nat.ne_of_gt hlt)).trans hT;have hn:H s.heap.objs.size=none:=I.hok.fresh (Xc _);have I2:Inv X pins B (upd H s.heap.objs.size (.tup [kV k1,v1])) {s with heap:=h2,toks:=s.toks}:=
   I.turnLay (ch:=[it]) hf (fun b o hb q=>(hs2.2 b (fun z=>hb (by simp[z]))).trans (hk b o (fun z=>hb (by simp[z])) q)) (Xc _)
    ⟨I0,[key,u],.cons (WB hkey) (.cons ru .nil),⟨_,hT2,rfl,_,rfl⟩⟩
  have f1:∀b∈[it],(upd H s.heap.objs.size (.tup [kV k1,v1])) b=none:=fun b hb=>by
   rw[XX.mp hb,qZ (Xr hlt)];exact(hf it (by simp)).1
  exact⟨.ref s.heap.objs.size,_,I2,rfl,⟨_,k1,v1,rfl,hn,rfl,hx⟩,⟨key,u,he2⟩,f1⟩
 done:=by
  intro X hP hw hK hc i pins s B H E I hf st hg;subst hP hw hK;obtain⟨hH,hi⟩:=hg;obtain⟨hgo,_⟩:s.heap.get? d=some o/\_:=I.hok d _ hH;have hm:s.heap.DictAt (tQ X.prog X.w) d ws ep:=hat.at' fun o' e=>by rw[ho] at e;cases e;exact hgo
  obtain⟨ok,ov,he⟩:=st;have hl:kvs.length=ws.length:=rel.length;refine wpAny_pyNext_items_end (I.ok.hd hc) he hm (by simp;omega) fun h' eb=>⟨rfl,I.turns (t':=s.toks) (ch:=[it]) hf fun b o hb q=>eb b o (fun z=>hb (by simp[z])) q⟩
 self:=fun _ _ _ _ _ st h=>by
  obtain⟨ok,ov,he⟩:=st;exact(PySem.W.kcp_self he h)
def N4(te:TE):TI:=fun B H R=>te B H fun x H1=>∃v d kvs,x=.ref v/\H1 v=some (viO v d)/\H1 d=some (.dK kvs)/\∀o,R (Itd d o kvs) (upd H1 d (.frz o (.dK kvs)))
def U2{X:Cx}{e:Expr}{te:TE}{elts:List Expr}{k:Nat}{tpos:Pos}(he:PE X e te):PI X (.Tuple elts k tpos) e (N4 te):=by
 intro pins s B H R I h;refine thn (he pins s B H _ I h) fun u s1 hm=>?_;obtain⟨x,H1,I1,r1,v,d,kvs,ex,hv,hd,q⟩:=hm;subst ex;cases r1;obtain⟨z,hsys,ws,rel,dd⟩:=xb I1.hok hd;obtain⟨hvv,_,_⟩:s1.heap.IsItemsView v d/\_/\_:=I1.hok v _ hv;obtain⟨ep,hat⟩:=dd.dictAt;obtain⟨o,ho⟩:∃o,s1.heap.get? d=some o:=let ⟨o,_,_,h,_⟩:=dd;⟨o,h⟩
 refine(wpAny_pyIter_items hvv hat ?_);have nd:d≠s1.heap.objs.size:=Xr (Xi ho);have I2:Inv X pins B (upd H1 d (.frz o (.dK kvs))) {s1 with heap:=s1.heap.push {cls:=.type "dict_itemiterator",data:=.fields #[.none,.bool false,.ref d,.int 0 0,.int ws.length 0,.int ep 0,.none,.none]},toks:=s1.toks}:=
  I1.write (x:=d) (e:=d) (by rw[hd];exact True.intro) (.inl rfl) (fun b q _ z=>Xd _ z) ⟨o,Xd _ ho⟩
   ⟨Xd _ ho,z,hsys,ws,rel,dd.at fun o' e=>Xd _ e⟩
 refine⟨_,[s1.heap.objs.size],_,_,_,rfl,I2,Ut d _ rel ho hat,⟨.none,.none,Xl _ rfl⟩,fun b hb=>?_,q o⟩;rw[XX.mp hb];exact I1.fpOk (Xc _) (by rw[qZ (Ne.symm nd)];exact I1.hok.fresh (Xc _))
abbrev An:=Nat×Nat×Bool
def nb(as:List An)(x:Nat):List Nat:=as.flatMap fun a=>if a.2.2=true then(if x=a.1 then [a.2.1] else [])++(if x=a.2.1 then [a.1] else []) else []
def mem_nb{as:List An}{x y:Nat}:y∈nb as x↔(x,y,true)∈as\/(y,x,true)∈as:=by
 unfold nb;rw[List.mem_flatMap];constructor
 ·rintro⟨⟨i,j,b⟩,ha,h⟩;cases b with
  |false=>simp at h
  |true=>
   simp only[if_true,XM] at h;rcases h with h|h
   ·split at h
    ·rename_i e;have:y=j:=by simpa using h
     subst this e;exact .inl ha
    ·simp at h
   ·split at h
    ·rename_i e;have:y=i:=by simpa using h
     subst this e;exact .inr ha
    ·simp at h
 ·rintro(h|h)
  ·exact⟨_,h,by simp⟩
  ·exact⟨_,h,by simp⟩
def Ps{as:List An}{x y:Nat}(h:y∈nb as x):x∈nb as y:=mem_nb.mpr (mem_nb.mp h).symm
inductive Conn (as:List An):Nat->Nat->Prop where
 |refl (x:Nat):Conn as x x
 |step {x y z:Nat}:Conn as x y->z∈nb as y->Conn as x z
def Conn.trans{as:List An}{x y z:Nat}(h:Conn as x y)(g:Conn as y z):Conn as x z:=by
 induction g with
 |refl=>exact h
 |step _ e ih=>exact .step ih e
def Conn.one{as:List An}{x y:Nat}(h:y∈nb as x):Conn as x y:=.step (.refl x) h
def Conn.symm{as:List An}{x y:Nat}(h:Conn as x y):Conn as y x:=by
 induction h with
 |refl=>exact .refl _
 |step _ e ih=>exact(Conn.one (Ps e)).trans ih
def Conn.mono{as bs:List An}{x y:Nat}(h:Conn as x y)(hm:∀a∈as,a∈bs):Conn bs x y:=by
 induction h with
 |refl=>exact .refl _
 |step _ e ih=>exact .step ih (mem_nb.mpr ((mem_nb.mp e).imp (hm _) (hm _)))
def q0(hs:List (Nat×Nat))(x:Nat):Option Nat:=(hs.find? fun p=>decide (p.1=x)).map (·.2)
def rg(hs:List (Nat×Nat))(x:Nat):List (Nat×Nat):=if(q0 hs x).isSome=true then hs else hs++[(x,x)]
def sr(hs:List (Nat×Nat))(o n:Nat):List (Nat×Nat):=hs.map fun p=>(p.1,if p.2=o then n else p.2)
def ut(hs:List (Nat×Nat))(a:An):List (Nat×Nat):=
 let h2:=rg (rg hs a.1) a.2.1
 if a.2.2=true then sr h2 ((q0 h2 a.2.1).getD 0) ((q0 h2 a.1).getD 0) else h2
def sk(as:List An):List (Nat×Nat):=as.foldl ut []
def wW(hs:List (Nat×Nat))(x y:Nat):q0 (rg hs x) y=if y=x then some ((q0 hs x).getD x) else q0 hs y:=by
 unfold rg;by_cases h:(q0 hs x).isSome=true
 ·rw[if_pos h];obtain⟨v,e⟩:=X1.mp h;by_cases z:y=x
  ·subst z;rw[if_pos rfl,e];rfl
  ·rw[if_neg z]
 ·rw[if_neg h];have e:q0 hs x=none:=by simpa using h
  unfold q0 at e⊢;rw[List.find?_append];by_cases z:y=x
  ·subst z;rw[if_pos rfl];have e':hs.find? (fun p=>decide (p.1=y))=none:=by simpa using e
   rw[e'];simp
  ·rw[if_neg z];have:List.find? (fun p:Nat×Nat=>decide (p.1=y)) [(x,x)]=none:=by simp[Ne.symm z]
   rw[this];simp
def zh(hs:List (Nat×Nat))(o n x:Nat):q0 (sr hs o n) x=(q0 hs x).map fun r=>if r=o then n else r:=by
 unfold q0 sr;induction hs with
 |nil=>rfl
 |cons p r ih=>
  rw[Xn,Xp,Xp];by_cases z:p.1=x
  ·simp[z]
  ·simp only[z,decide_false];exact ih
structure HOkN (as:List An) (V:Nat->Option Nat):Prop where
 named:∀a∈as,(V a.1).isSome=true/\(V a.2.1).isSome=true
 con:∀x r,V x=some r->Conn as x r
 eq:∀x y,(x,y,true)∈as->V x=V y
def Ia(as:List An)(a:An):sk (as++[a])=ut (sk as) a:=by unfold sk;rw[List.foldl_append];rfl
def DS(as:List An):HOkN as (q0 (sk as)):=by
 have key:∀(n:Nat) (as:List An),as.length=n->HOkN as (q0 (sk as)):=by
  intro n;induction n with
  |zero=>
   intro as e;have:as=[]:=Yd.mp e;subst this;exact⟨fun _ h=>by simp at h,fun x r h=>by simp[sk,q0] at h,fun _ _ h=>by simp at h⟩
  |succ n ih=>
   intro as e;have hne:as≠[]:=by intro z;subst z;simp at e
   obtain⟨bs,a,rfl⟩:∃bs a,as=bs++[a]:=⟨as.dropLast,as.getLast hne,(List.dropLast_concat_getLast hne).symm⟩
   have ih:=ih bs (by simpa using e);obtain⟨i,j,b⟩:=a;rw[Ia];generalize sk bs=hs at ih;have v2:∀y,q0 (rg (rg hs i) j) y=if y=j then some ((q0 (rg hs i) j).getD j) else if y=i then some ((q0 hs i).getD i) else q0 hs y:=fun y=>by rw[wW (rg hs i) j y,wW hs i y]
   have old:∀y,(q0 hs y).isSome=true->q0 (rg (rg hs i) j) y=q0 hs y:=fun y hy=>by
    obtain⟨r,er⟩:=X1.mp hy;rw[v2 y];split
    ·rename_i z;subst z;rw[wW];split
     ·rename_i z;subst z;rw[er];rfl
     ·rw[er];rfl
    ·split
     ·rename_i z;subst z;rw[er];rfl
     ·rfl
   have mono:∀x y,Conn bs x y->Conn (bs++[(i,j,b)]) x y:=fun x y h=>h.mono fun a ha=>List.mem_append_left _ ha;have con2:∀x r,q0 (rg (rg hs i) j) x=some r->Conn (bs++[(i,j,b)]) x r:=fun x r h=>by
    rw[v2 x] at h;split at h
    ·rename_i z;subst z;have h:=Xv h;rw[wW] at h;split at h
     ·rename_i z;subst z;cases e:q0 hs x with
      |none=>rw[e] at h;rw[←h];exact .refl _
      |some r'=>rw[e] at h;have:r'=r:=h;subst this;exact mono _ _ (ih.con _ _ e)
     ·cases e:q0 hs x with
      |none=>rw[e] at h;have:x=r:=h;subst this;exact .refl _
      |some r'=>rw[e] at h;have:r'=r:=h;subst this;exact mono _ _ (ih.con _ _ e)
    ·split at h
     ·rename_i z;subst z;have h:=Xv h;cases e:q0 hs x with
      |none=>rw[e] at h;have:x=r:=h;subst this;exact .refl _
      |some r'=>rw[e] at h;have:r'=r:=h;subst this;exact mono _ _ (ih.con _ _ e)
     ·exact mono _ _ (ih.con _ _ h)
   have n1:∃r,q0 (rg (rg hs i) j) i=some r:=by
    rw[v2 i];split
    ·exact⟨_,rfl⟩
    ·exact⟨_,if_pos rfl⟩
   have n2:∃r,q0 (rg (rg hs i) j) j=some r:=⟨_,by rw[v2 j,if_pos rfl]⟩
   have named2:∀a∈bs++[(i,j,b)],(q0 (rg (rg hs i) j) a.1).isSome=true/\(q0 (rg (rg hs i) j) a.2.1).isSome=true:=fun a ha=>by
    rcases XM.mp ha with z|z
    ·obtain⟨h1,h2⟩:=ih.named a z;rw[old _ h1,old _ h2];exact⟨h1,h2⟩
    ·have:a=(i,j,b):=by simpa using z
     subst this;obtain⟨r1,e1⟩:=n1;obtain⟨r2,e2⟩:=n2;exact⟨by rw[e1];rfl,by rw[e2];rfl⟩
   have eq2:∀x y,(x,y,true)∈bs->q0 (rg (rg hs i) j) x=q0 (rg (rg hs i) j) y:=fun x y h=>by
    obtain⟨h1,h2⟩:=ih.named _ h;rw[old x h1,old y h2];exact ih.eq x y h
   show HOkN _ (q0 (if b=true then sr (rg (rg hs i) j) ((q0 (rg (rg hs i) j) j).getD 0) ((q0 (rg (rg hs i) j) i).getD 0) else rg (rg hs i) j));clear v2 old;generalize rg (rg hs i) j=h2 at*;cases b with
   |false=>
    refine⟨named2,con2,fun x y h=>?_⟩;rcases XM.mp h with z|z
    ·exact eq2 x y z
    ·simp at z
   |true=>
    obtain⟨r1,e1⟩:=n1;obtain⟨r2,e2⟩:=n2;simp only[if_true,e1,e2,Option.getD_some];have cij:Conn (bs++[(i,j,true)]) i j:=Conn.one (mem_nb.mpr (.inl (by simp)));refine⟨fun a ha=>?_,fun x r h=>?_,fun x y h=>?_⟩
    ·rw[zh,zh,Option.isSome_map,Option.isSome_map];exact named2 a ha
    ·rw[zh] at h;obtain⟨r0,e0,er⟩:=Option.map_eq_some_iff.mp h;have c0:=con2 x r0 e0;split at er
     ·rename_i z;subst z er;exact c0.trans ((con2 j _ e2).symm.trans (cij.symm.trans (con2 i _ e1)))
     ·subst er;exact c0
    ·rw[zh,zh];rcases XM.mp h with z|z
     ·rw[eq2 x y z]
     ·have:x=i/\y=j:=by simpa using z
      obtain⟨rfl,rfl⟩:=this;rw[e1,e2];simp only[Option.map_some,if_true];split
      ·rfl
      ·rfl
 exact key _ as rfl
def HOkN.conn{as:List An}{V:Nat->Option Nat}(h:HOkN as V){x y:Nat}(c:Conn as x y):V x=V y:=by
 induction c with
 |refl=>rfl
 |step _ e ih=>
  rw[ih];rcases mem_nb.mp e with z|z
  ·exact h.eq _ _ z
  ·exact(h.eq _ _ z).symm
def HOkN.iff{as:List An}{V:Nat->Option Nat}(h:HOkN as V){x y:Nat}(hx:(V x).isSome=true):V x=V y↔Conn as x y:=by
 refine⟨fun e=>?_,h.conn⟩;obtain⟨r,er⟩:=X1.mp hx;exact(h.con x r er).trans (h.con y r (by rw[←e];exact er)).symm
def sM(as:List An):Bool:=as.all fun a=>a.2.2||!decide (q0 (sk as) a.1=q0 (sk as) a.2.1)
structure Out (as:List An) (n t:Nat) (F:Nat->Option Nat):Prop where
 con:∀x r,F x=some r->Conn as x r/\r<t
 fin:∀x r y,F x=some r->y∈nb as x->F y=some r
 all:∀x,x<t->(F x).isSome=true
def left(as:List An)(F:Nat->Option Nat):Nat->Nat
 |0=>0
 |n+1=>left as F n+(if(F n).isSome=true then 0 else(nb as n).length)
section
variable {X:Cx} {a b o:Expr} {ta:TE} {p pos:Pos}
theorem Ua(mr:X.mg "range"=none) (ha:PE X a ta) (hg:Gl X "range":=by rfl) (hs:starEach [a] X.env=[(false,eval a X.env)]:=by rfl):
  PE X (.Call (.Name "range" p) [a] [] pos) (fun B H Q=>ta B H fun x H1=>∃j:Int,x=.int j/\∀r,H1 r=none->Q (.ref r) (upd H1 r (.rng 0 j))):=by
 intro pins s B H Q I h;refine Call_ (vw I hg mr boot_range (X4 (thn (rP ha so hs pos pins s B H (fun vs H1=>∃x,vs=[x]/\∃j:Int,x=.int j/\∀r,H1 r=none->Q (.ref r) (upd H1 r (.rng 0 j))) I ?_) fun us s1 ⟨vs,H1,I1,r1,q1⟩=>?_) hs rfl))
 ·have:∀x H1,(∃j:Int,x=V.int j/\∀r,H1 r=none->Q (.ref r) (upd H1 r (.rng 0 j)))=(∃x',[x]=[x']/\∃j:Int,x'=V.int j/\∀r,H1 r=none->Q (.ref r) (upd H1 r (.rng 0 j))):=by
   intro x H1;exact propext ⟨fun q=>⟨x,rfl,q⟩,fun⟨x',e,q⟩=>by cases e;exact q⟩
  unfold tK uE;simp only[←this];exact h
 obtain⟨x,e,j,ex,q⟩:=q1;subst e ex;cases r1 with
 |cons r rr=>
  cases rr;obtain⟨t,rfl⟩:=r;refine(call_range_1 ?_);refine⟨.ref s1.heap.objs.size,_,I1.laid (o:=.rng 0 j) (fun b o e=>Xd _ e) (Xc _) ?_,rfl,q _ (I1.hok.fresh (Xc _))⟩;exact⟨_,_,_,Xl _ rfl⟩
end
def hNd(hs:List (Nat×Nat)):Prop:=(hs.map (·.1)).Nodup
def hVal_none{hs:List (Nat×Nat)}{x:Nat}:q0 hs x=none↔x∉hs.map (·.1):=by
 unfold q0;rw[Option.map_eq_none_iff,Yo];simp only[Yh,XE,not_exists,not_and]
def AZ{hs:List (Nat×Nat)}(h:hNd hs)(x:Nat):hNd (rg hs x):=by
 unfold rg;split
 ·exact h
 ·rename_i e;have e:q0 hs x=none:=by simpa using e
  unfold hNd;rw[Yl,List.nodup_append];refine⟨h,by simp,fun y hy z hz=>?_⟩;have:z=x:=by simpa using hz
  subst this;exact fun q=>hVal_none.mp e (q▸hy)
def MN(hs:List (Nat×Nat))(o n:Nat):(sr hs o n).map (·.1)=hs.map (·.1):=by simp[sr]
def VZ{hs:List (Nat×Nat)}(h:hNd hs)(a:An):hNd (ut hs a):=by
 have h2:=AZ (AZ h a.1) a.2.1;unfold ut;dsimp only;split
 ·unfold hNd;rw[MN];exact h2
 ·exact h2
def Ag(hs:List (Nat×Nat))(x:Nat):(rg hs x).length<=hs.length+1:=by
 unfold rg;split<;>simp
def Of(hs:List (Nat×Nat))(a:An):(ut hs a).length<=hs.length+2:=by
 have h1:=Ag hs a.1;have h2:=Ag (rg hs a.1) a.2.1;unfold ut;dsimp only;split
 ·unfold sr;rw[Xj];omega
 ·omega
def Ts(as:List An)(n:Nat)(a:An)(h:as[n]?=some a):sk (as.take (n+1))=ut (sk (as.take n)) a:=by
 rw[List.take_succ,h];exact Ia _ _
def Qs(as:List An):hNd (sk as):=by
 have:∀(as:List An) (hs:List (Nat×Nat)),hNd hs->hNd (as.foldl ut hs):=by
  intro as;induction as with
  |nil=>exact fun _ h=>h
  |cons a r ih=>exact fun hs h=>ih _ (VZ h a)
 exact this as [] (by simp[hNd])
def Wr(as:List An):(sk as).length<=2*as.length:=by
 have:∀(as:List An) (hs:List (Nat×Nat)),(as.foldl ut hs).length<=hs.length+2*as.length:=by
  intro as;induction as with
  |nil=>exact fun _=>by simp
  |cons a r ih=>
   intro hs;have h1:=ih (ut hs a);have h2:=Of hs a;simp only[List.foldl_cons,XI];omega
 have:=this as [];simpa[sk] using this
def Qy{ps:List Addr}(h:ps.Nodup){i j:Nat}{p:Addr}(a:ps[i]?=some p)(b:ps[j]?=some p):i=j:=by
 obtain⟨l1,g1⟩:=Xe.mp a;obtain⟨l2,g2⟩:=Xe.mp b;rcases Nat.lt_trichotomy i j with z|z|z
 ·exact absurd (g1.trans g2.symm) ((Yn.mp h) i j l1 l2 z)
 ·exact z
 ·exact absurd (g2.trans g1.symm) ((Yn.mp h) j i l2 l1 z)
theorem Tj(elt tg iter tg2 iter2:Expr)(ifs ifs2:List Expr)(scope:Scope)(pos:Pos)(it acc:Value)(env:Env):
  compTurn (.ListComp elt [⟨tg,iter,ifs,0⟩,⟨tg2,iter2,ifs2,0⟩] scope pos) 0 it acc env=(do
   standAt iter.pos
   match ←pyNext it with
   |none=>pure (.done .next)
   |some v=>
    letOwnedTupleGo tg it v
    assign tg env v
    let mut ok:=true
    for c in ifs do
     if ok then ok ←isTrue c env (eval c env)
    if ok then
     let x ←eval iter2 env
     standAt iter2.pos
     let x ←foldedSetIterable iter2 env x
     let _ ←runOwn (.compStart (.ListComp elt [⟨tg,iter,ifs,0⟩,⟨tg2,iter2,ifs2,0⟩] scope pos) 1 (←holding [x] (pyIter x)) acc env) env
    again (.compLoop (.ListComp elt [⟨tg,iter,ifs,0⟩,⟨tg2,iter2,ifs2,0⟩] scope pos) 0 it acc env)):=by rfl
theorem VI(elt tg iter tg2 iter2:Expr)(ifs ifs2:List Expr)(scope:Scope)(pos:Pos)(it acc:Value)(env:Env):
  compTurn (.ListComp elt [⟨tg,iter,ifs,0⟩,⟨tg2,iter2,ifs2,0⟩] scope pos) 1 it acc env=(do
   standAt iter2.pos
   match ←pyNext it with
   |none=>pure (.done .next)
   |some v=>
    letOwnedTupleGo tg2 it v
    assign tg2 env v
    let mut ok:=true
    for c in ifs2 do
     if ok then ok ←isTrue c env (eval c env)
    if ok then
     (do let _ ←call (.builtin "list.append") [acc,←eval elt env])
    again (.compLoop (.ListComp elt [⟨tg,iter,ifs,0⟩,⟨tg2,iter2,ifs2,0⟩] scope pos) 1 it acc env)):=by rfl
section
variable {prog:Program} {w:World} {A:Around} {R:Result->Shared->Prop} {s:Shared} {elt tg iter tg2 iter2:Expr} {ifs ifs2:List Expr} {scope:Scope} {pos:Pos} {it acc:Value} {env:Env}
theorem TC(hs2:∀x,foldedSetIterable iter2 env x=pure x)(I:Nat->Shared->Prop)
  (turn:∀n s,I n s->wpAny (model prog w) A (pyNext it) (fun r ZU=>match r with
   |none=>R (.ok .next) ZU
   |some v=>wpAny (model prog w) A (letOwnedTupleGo tg it v) (fun _ ZB=>wpAny (model prog w) A (assign tg env v) (fun _ ZK=>
     wpAny (model prog w) A (forIn ifs true fun c r=>if r=true then do let ok ←isTrue c env (eval c env);pure (ForInStep.yield ok) else pure (ForInStep.yield r)) (fun ok ZM=>
      if ok=true then wpAny (model prog w) A (eval iter2 env) (fun x ZH=>wpAny (model prog w) A (pyIter x) (fun it2 ZE=>
       wpAny (model prog w) A (runOwn (.compStart (.ListComp elt [⟨tg,iter,ifs,0⟩,⟨tg2,iter2,ifs2,0⟩] scope pos) 1 it2 acc env) env) (fun _ Zn=>∃m,m<n/\I m Zn) (fun _ _=>False) ZE) (fun _ _=>False) ZH) (fun _ _=>False) ZM
      else ∃m,m<n/\I m ZM) (fun _ _=>False) ZK) (fun _ _=>False) ZB) (fun _ _=>False) ZU) (fun _ _=>False) s)
  (n:Nat) (h:I n s):codeAny (model prog w) A (.compLoop (.ListComp elt [⟨tg,iter,ifs,0⟩,⟨tg2,iter2,ifs2,0⟩] scope pos) 0 it acc env) R s:=by
 refine codeAny_loop rfl I (fun n s hI=>?_) n h;show wpAny _ A ((compTurn (.ListComp elt [⟨tg,iter,ifs,0⟩,⟨tg2,iter2,ifs2,0⟩] scope pos) 0 it acc env).onRaise (fun x=>do noteFrame x env;theTreesLotGoes x)) _ _ s;refine wpAny_noted ?_;rw[Tj];refine Xg (E:=fun _ _=>False) ?_ (fun _ _ x=>x) fun _ _ x=>x.elim;refine Xb (Ye (Xb (Xg (turn n s hI) (fun r ZU ZR=>?_) fun _ _ h'=>h')));cases r with
 |none=>exact Xf ZR
 |some v=>
  refine Xb (Xg ZR (fun _ ZB Zw=>?_) fun _ _ h'=>h');refine Xb (Xg Zw (fun _ ZK ZC=>Xb (Xg ZC (fun ok ZM ZF=>?_) fun _ _ h'=>h')) fun _ _ h'=>h');cases ok with
  |false=>exact Xf ⟨rfl,ZF⟩
  |true=>exact Xb (Xg ZF (fun x ZH Zv=>Xb (Ye (Xb (wpAny_of_eq (hs2 x) (Xb (Yp (Xg Zv (fun it2 ZE Zu=>Xb (Xg Zu (fun _ Zn Zk=>Xf ⟨rfl,Zk⟩) fun _ _ h'=>h')) fun _ _ h'=>h'))))))) fun _ _ h'=>h')
theorem Qh(I:Nat->Shared->Prop)
  (turn:∀n s,I n s->wpAny (model prog w) A (pyNext it) (fun r ZU=>match r with
   |none=>R (.ok .next) ZU
   |some v=>wpAny (model prog w) A (letOwnedTupleGo tg2 it v) (fun _ ZB=>wpAny (model prog w) A (assign tg2 env v) (fun _ ZK=>
     wpAny (model prog w) A (forIn ifs2 true fun c r=>if r=true then do let ok ←isTrue c env (eval c env);pure (ForInStep.yield ok) else pure (ForInStep.yield r)) (fun ok ZM=>
      if ok=true then wpAny (model prog w) A (eval elt env) (fun x ZH=>
       wpAny (model prog w) A (call (.builtin "list.append") [acc,x]) (fun _ ZE=>∃m,m<n/\I m ZE) (fun _ _=>False) ZH) (fun _ _=>False) ZM
      else ∃m,m<n/\I m ZM) (fun _ _=>False) ZK) (fun _ _=>False) ZB) (fun _ _=>False) ZU) (fun _ _=>False) s)
  (n:Nat) (h:I n s):codeAny (model prog w) A (.compLoop (.ListComp elt [⟨tg,iter,ifs,0⟩,⟨tg2,iter2,ifs2,0⟩] scope pos) 1 it acc env) R s:=by
 refine codeAny_loop rfl I (fun n s hI=>?_) n h;show wpAny _ A ((compTurn (.ListComp elt [⟨tg,iter,ifs,0⟩,⟨tg2,iter2,ifs2,0⟩] scope pos) 1 it acc env).onRaise (fun x=>do noteFrame x env;theTreesLotGoes x)) _ _ s;refine wpAny_noted ?_;rw[VI];refine Xg (E:=fun _ _=>False) ?_ (fun _ _ x=>x) fun _ _ x=>x.elim;refine Xb (Ye (Xb (Xg (turn n s hI) (fun r ZU ZR=>?_) fun _ _ h'=>h')));cases r with
 |none=>exact Xf ZR
 |some v=>
  refine Xb (Xg ZR (fun _ ZB Zw=>?_) fun _ _ h'=>h');refine Xb (Xg Zw (fun _ ZK ZC=>Xb (Xg ZC (fun ok ZM ZF=>?_) fun _ _ h'=>h')) fun _ _ h'=>h');cases ok with
  |false=>exact Xf ⟨rfl,ZF⟩
  |true=>
   exact Xb (Xb (Xg ZF (fun x ZH Zv=>Xb (Xg Zv (fun _ ZE Zu=>Xf (Xf ⟨rfl,Zu⟩)) fun _ _ h'=>h')) fun _ _ h'=>h'))
theorem Si(h0:codeAny (model prog w) A (.compLoop (.ListComp elt [⟨tg,iter,ifs,0⟩,⟨tg2,iter2,ifs2,0⟩] scope pos) 1 it acc env) R s)
  (h:wpAny (model prog w) A (pyIter it) (fun it' s'=>codeAny (model prog w) A (.compLoop (.ListComp elt [⟨tg,iter,ifs,0⟩,⟨tg2,iter2,ifs2,0⟩] scope pos) 1 it' acc env) R s')
   (notedBy (model prog w) A env fun x s'=>R (.error x) s') s):
  codeAny (model prog w) A (.compStart (.ListComp elt [⟨tg,iter,ifs,0⟩,⟨tg2,iter2,ifs2,0⟩] scope pos) 1 it acc env) R s:=by
 refine codeAny_of_tree ?_;show wpAny _ _ ((compStart (.ListComp elt [⟨tg,iter,ifs,0⟩,⟨tg2,iter2,ifs2,0⟩] scope pos) 1 it acc env).onRaise (fun x=>do noteFrame x env;standAt theWindowsPlace)) _ _ s;refine wpAny_notedAt ?_;unfold compStart;show wpAny _ _ (ask >>= _) _ _ s;refine Xb (wpAny_askSetting (wpAny_ite ?_));split
 ·first
   |exact Xb (Xf (Xf (And.intro rfl h0)))
   |exact Xf (And.intro rfl h0)
 ·first
   |exact Xb (wpAny_rule (Xb (Ye (Xb (Xg h (fun it' s' h'=>Xf (And.intro rfl h')) fun _ _ x=>x)))))
   |(refine Xb (wpAny_rule ?_);show wpAny _ _ (standAt iter2.pos >>= _) _ _ s;exact Xb (Ye (Xb (Xg h (fun it' s' h'=>Xf (And.intro rfl h')) fun _ _ x=>x))))
end
def CP(J:It)(g:TG)(tc:TT)(te:TE)(D:Addr)(ZO:St)(H0:Hp)(Z:St->Hp->Prop):Prop:=
 ∃W:Nat->Nat->St->Hp->Prop,(∃m,W 0 m ZO H0)/\∀i m B H,W i m B H->
  (J.stop i H/\Z B H)\/(J.go i H/\∃N:St->Hp->Prop,(∀Z0 H',N Z0 H'->∃m',m'<m/\W (i+1) m' Z0 H')/\∀x H',J.yld i H x H'->g x B H' fun ZW H2=>tc ZW H2 fun b H3=>
   if b=true then te ZW H3 fun v H4=>∃ys,H4 D=some (.lst ys)/\ys.length<sizeLine/\N ZW (upd H4 D (.lst (ys++[v]))) else N ZW H3)
def ya(J:It)(g:TG)(tc:TT)(wi2:TI)(g2:TG)(tc2:TT)(te:TE)(D:Addr)(ZO:St)(H0:Hp)(Z:Hp->Prop):Prop:=
 ∃W:Nat->Nat->St->Hp->Prop,(∃m,W 0 m ZO (upd H0 D (.lst [])))/\∀i m B H,W i m B H->
  (J.stop i H/\Z H)\/(J.go i H/\∃N:St->Hp->Prop,(∀Z0 H',N Z0 H'->∃m',m'<m/\W (i+1) m' Z0 H')/\∀x H',J.yld i H x H'->g x B H' fun ZW H2=>tc ZW H2 fun b H3=>
   if b=true then wi2 ZW H3 fun J2 H4=>CP J2 g2 tc2 te D ZW H4 N else N ZW H3)
section
variable {X:Cx} {pins:QS} {B:St} {N' own:List Str} {cap:List (Str×Nat)} {scope:Scope} {tg iter elt tg2 iter2:Expr} {ifs ifs2:List Expr} {pos:Pos} {g g2:TG} {tc tc2:TT} {te:TE} {wi wi2:TI}
theorem O8{s:Shared}{H:Hp}{D:Addr}{Z:St->Hp->Prop}(hx:∀e s,X.xe e s->False)(hc:X.calm=true)(hi:PI X tg2 iter2 wi2)(hg:PG X tg2 g2)(ht:PIf X ifs2 tc2)(he:PE X elt te)
  (I:Inv X pins B H s) (h:wi2 B H fun J H1=>CP J g2 tc2 te D B H1 Z):
  wpAny (model X.prog X.w) X.A (eval iter2 X.env) (fun x ZH=>wpAny (model X.prog X.w) X.A (pyIter x) (fun it2 ZE=>
   wpAny (model X.prog X.w) X.A (runOwn (.compStart (.ListComp elt [⟨tg,iter,ifs,0⟩,⟨tg2,iter2,ifs2,0⟩] scope pos) 1 it2 (.ref D) X.env) X.env) (fun _ s'=>∃Z0 H',Inv X pins Z0 H' s'/\Z Z0 H') (fun _ _=>False) ZE) (fun _ _=>False) ZH) (fun _ _=>False) s:=by
 have noX:∀{α:Type} {t:Sem α} {Q:α->Shared->Prop} {s:Shared},wpAny (model X.prog X.w) X.A t Q X.xe s->wpAny (model X.prog X.w) X.A t Q (fun _ _=>False) s:=fun q=>Xg q (fun _ _ z=>z) fun e s z=>hx e s z;refine noX (thn (hi pins s B H _ I h) fun v s1 h1=>?_);refine noX (thn h1 fun itv s2 h2=>?_);obtain⟨it,fp,tn,J,H2,e,I2,T,st2,f2,W,⟨m0,w0⟩,turn⟩:=h2;subst e;have stat:∀{H':Hp},(∀b∈fp,H' b=none)->∀b∈fp,sg X pins H' b:=fun hn b hb=>⟨hn b hb,(f2 b hb).2⟩
 refine(wpAny_runOwn ?_);have loop:codeAny (model X.prog X.w) X.A (.compLoop (.ListComp elt [⟨tg,iter,ifs,0⟩,⟨tg2,iter2,ifs2,0⟩] scope pos) 1 (.ref it) (.ref D) X.env)
   (fun r s'=>match r with| .ok f=>∃Z0 H',Inv X pins Z0 H' s'/\Z Z0 H'| .error e=>cameBackBy (model X.prog X.w) X.A X.env (fun _ _=>False) e s') s2:=by
  obtain⟨P,hP⟩:∃P:Nat->Shared->Prop,∀n s',P n s'↔∃i Z0 H',Inv X pins Z0 H' s'/\tn i s'.heap/\(∀b∈fp,H' b=none)/\W i n Z0 H':=⟨_,fun _ _=>Iff.rfl⟩
  refine Qh P ?_ m0 ((hP _ _).2 ⟨0,B,H2,I2,st2,fun b hb=>(f2 b hb).1,w0⟩);rintro n s3 h3;obtain⟨i,ZI,H3,I3,st3,fr3,w3⟩:=(hP _ _).1 h3;rcases turn i n ZI H3 w3 with⟨stop,qz⟩|⟨go,N,hN,step⟩
  ·refine Xg (T.done X rfl rfl rfl hc i pins s3 ZI H3 (fun _ _=>False) I3 (stat fr3) st3 stop) (fun r s4 ⟨hr,I4⟩=>?_) fun _ _ z=>z;subst hr;exact⟨ZI,H3,I4,qz⟩
  ·refine Xg (T.item X rfl rfl rfl hc i pins s3 ZI H3 (fun _ _=>False) I3 (stat fr3) st3 go) (fun r s4 ⟨u,hr,h4⟩=>?_) fun _ _ z=>z;subst hr;refine Xg h4 (fun _ s5 hm=>?_) fun _ _ z=>z;obtain⟨x,H5,I5,r5,y5,st5,fr5⟩:=hm;have I5':=I5.pinned (stat fr5) (T.obj _ _ st5);have again:∀{ZT:St} {H7:Hp} {s7:Shared},Inv X (pins++wg fp s5.heap) ZT H7 s7->N ZT H7->∃m,m<n/\P m s7:=fun{ZT H7 s7} I7 n7=>by
    obtain⟨m',hm,w7⟩:=hN ZT H7 n7;refine(⟨m',hm,(hP _ _).2 ⟨i+1,ZT,H7,I7.unpinned,T.keep _ _ _ st5 fun b hb o e=>(I7.pin (b,o) (Xo _ (Xo _ (va hb e)))).1,fun b hb=>?_,w7⟩⟩);obtain⟨o,e,d⟩:=T.obj _ _ st5 b hb;exact((I7.pin (b,o) (Xo _ (Xo _ (va hb e)))).2.1)
   refine noX (thn (hg _ s5 ZI H5 x u _ I5' r5 (step x H5 y5)) fun _ s6 hm=>?_);obtain⟨Zr,H6,I6,q6⟩:=hm;refine(noX (thn (ht _ s6 Zr H6 _ I6 q6) fun b s7 hm=>?_));obtain⟨H7,I7,q7⟩:=hm;cases b with
   |false=>
    show ∃m,_;exact again I7 q7
   |true=>
    show wpAny _ _ _ _ _ _;refine noX (thn (he _ s7 Zr H7 _ I7 q7) fun y s8 hm=>?_);obtain⟨v,H8,I8,r8,ys,hy,hz,q8⟩:=hm;refine(noX (thn (Eo (X:=X) _ s8 Zr H8 (.ref D) [v] (.ref D) [y] (fun _ H'=>N Zr H') I8 rfl (.cons r8 .nil) ⟨_,ys,v,rfl,rfl,hy,hz,q8⟩) fun _ s9 hm=>?_));obtain⟨_,H9,I9,_,q9⟩:=hm;exact(again I9 q9)
 exact Si loop (T.self _ 0 _ _ _ st2 loop)
theorem zkq{Y:Cx}{s:Shared}{ZO:St}{H2:Hp}{it D:Addr}{fp:List Addr}{tn:Nat->Heap->Prop}{J:It}{Z:Hp->Prop}{R:Result->Shared->Prop}(hs2:∀x,foldedSetIterable iter2 Y.env x=pure x)
  (hx:∀e s,Y.xe e s->False) (hc:Y.calm=true) (hg:PG Y tg g) (ht:PIf Y ifs tc) (hi2:PI Y tg2 iter2 wi2) (hg2:PG Y tg2 g2) (ht2:PIf Y ifs2 tc2) (he:PE Y elt te)
  (T:Turn Y.prog Y.w Y.K tg J fp it tn) (J0:Inv Y [] ZO (upd H2 D (.lst [])) s) (st3:tn 0 s.heap) (f3:∀b∈fp,upd H2 D (.lst []) b=none)
  (stat:∀{H':Hp},(∀b∈fp,H' b=none)->∀b∈fp,sg Y [] H' b) (h:ya J g tc wi2 g2 tc2 te D ZO H2 Z)
  (hR:∀ZQ H4 s5,Inv Y [] ZQ H4 s5->Z H4->R (.ok .next) s5):
  codeAny (model Y.prog Y.w) Y.A (.compLoop (.ListComp elt [⟨tg,iter,ifs,0⟩,⟨tg2,iter2,ifs2,0⟩] scope pos) 0 (.ref it) (.ref D) Y.env) R s:=by
 obtain⟨W,⟨m0,w0⟩,turn⟩:=h;have noX:∀{α:Type} {t:Sem α} {Q:α->Shared->Prop} {s:Shared},wpAny (model Y.prog Y.w) Y.A t Q Y.xe s->wpAny (model Y.prog Y.w) Y.A t Q (fun _ _=>False) s:=fun q=>Xg q (fun _ _ z=>z) fun e s z=>hx e s z;obtain⟨P,hP⟩:∃P:Nat->Shared->Prop,∀n s',P n s'↔∃i Z0 H',Inv Y [] Z0 H' s'/\tn i s'.heap/\(∀b∈fp,H' b=none)/\W i n Z0 H':=⟨_,fun _ _=>Iff.rfl⟩
 refine TC hs2 P ?_ m0 ((hP _ _).2 ⟨0,_,_,J0,st3,f3,w0⟩);rintro n s4 h4;obtain⟨i,ZQ,H4,I4,st4,fr4,w4⟩:=(hP _ _).1 h4;rcases turn i n ZQ H4 w4 with⟨stop,qz⟩|⟨go,N,hN,step⟩
 ·refine Xg (T.done Y rfl rfl rfl hc i [] s4 ZQ H4 (fun _ _=>False) I4 (stat fr4) st4 stop) (fun r s5 ⟨hr,I5⟩=>?_) fun _ _ z=>z;subst hr;exact hR ZQ H4 s5 I5 qz
 ·refine Xg (T.item Y rfl rfl rfl hc i [] s4 ZQ H4 (fun _ _=>False) I4 (stat fr4) st4 go) (fun r s5 ⟨u,hr,h5⟩=>?_) fun _ _ z=>z;subst hr;refine Xg h5 (fun _ s6 hm=>?_) fun _ _ z=>z;obtain⟨x,H6,I6,r6,y6,st6,fr6⟩:=hm;have I6':=I6.pinned (stat fr6) (T.obj _ _ st6);have again:∀{ZT:St} {H7:Hp} {s7:Shared},Inv Y ([]++wg fp s6.heap) ZT H7 s7->N ZT H7->∃m,m<n/\P m s7:=fun{ZT H7 s7} I7 n7=>by
   obtain⟨m',hm,w7⟩:=hN ZT H7 n7;refine(⟨m',hm,(hP _ _).2 ⟨i+1,ZT,H7,I7.unpinned,T.keep _ _ _ st6 fun b hb o e=>(I7.pin (b,o) (Xo _ (Xo _ (va hb e)))).1,fun b hb=>?_,w7⟩⟩);obtain⟨o,e,d⟩:=T.obj _ _ st6 b hb;exact((I7.pin (b,o) (Xo _ (Xo _ (va hb e)))).2.1)
  refine noX (thn (hg _ s6 ZQ H6 x u _ I6' r6 (step x H6 y6)) fun _ s7 hm=>?_);obtain⟨ZT,H7,I7,q7⟩:=hm;refine(noX (thn (ht _ s7 ZT H7 _ I7 q7) fun b s8 hm=>?_));obtain⟨H8,I8,q8⟩:=hm;cases b with
  |false=>
   show ∃m,_;exact again I8 q8
  |true=>
   show wpAny _ _ _ _ _ _;refine Xg (O8 (X:=Y) hx hc hi2 hg2 ht2 he I8 q8) (fun _ _ z=>Xg z (fun _ _ z=>Xg z (fun _ s9 ⟨Y6,H9,I9,q9⟩=>again I9 q9) fun _ _ z=>z) fun _ _ z=>z) fun _ _ z=>z
theorem FE{s2:Shared}{H2:Hp}{it:Addr}{fp:List Addr}{tn:Nat->Heap->Prop}{J:It}{cl:List (Str×Addr)}{Z:Addr->Hp->Prop}{RR:Value->Addr->Result->Shared->Prop}{E:OK}
  (hx:∀e s,X.xe e s->False) (hc:X.calm=true) (S:CompScope X N' own cap scope)
  (hg:∀cl C Z4 Z2 ex,PG (qN X N' scope cl C Z4 Z2 ex) tg g) (ht:∀cl C Z4 Z2 ex,PIf (qN X N' scope cl C Z4 Z2 ex) ifs tc) (hi2:∀cl C Z4 Z2 ex,PI (qN X N' scope cl C Z4 Z2 ex) tg2 iter2 wi2) (hg2:∀cl C Z4 Z2 ex,PG (qN X N' scope cl C Z4 Z2 ex) tg2 g2) (ht2:∀cl C Z4 Z2 ex,PIf (qN X N' scope cl C Z4 Z2 ex) ifs2 tc2) (he:∀cl C Z4 Z2 ex,PE (qN X N' scope cl C Z4 Z2 ex) elt te) (hs2:∀cl C x,foldedSetIterable iter2 (compEnvC scope cl C X.env) x=pure x)
  (I2:Inv X pins B H2 s2) (T:Turn X.prog X.w X.K tg J fp it tn) (st2:tn 0 s2.heap) (f2:∀b∈fp,sg X pins H2 b)
  (c1:∀y c,cl.lookup y=some c->X.env.cells.lookup y=some c) (c2:∀y,(y,NameKind.free)∈scope.names->∃c,cl.lookup y=some c)
  (h:∀D,H2 D=none->ya J g tc wi2 g2 tc2 te D (sK own cap B) H2 (Z D))
  (hRR:∀D C s' m' H',Inv X pins B H' s'->s'.heap.Ns C m'->sg X pins H' C->Z D H'->RR (.ref D) C (.ok .next) s'):
  wpAny (model X.prog X.w) X.A (newList []) (fun acc ZM=>wpAny (model X.prog X.w) X.A (newFunctionEnv scope X.env.globals cl [] X.env.qual none .none (some X.env)) (fun cenv ZH=>
   codeAny (model X.prog X.w) X.A (.compStart (.ListComp elt [⟨tg,iter,ifs,0⟩,⟨tg2,iter2,ifs2,0⟩] scope pos) 0 (.ref it) acc {cenv with scope:=relabel scope X.env}) (RR acc cenv.locals) ZH) E ZM) E s2:=by
 have hlt:∀b∈fp,b<s2.heap.objs.size:=fun b hb=>by
  obtain⟨o,e,_⟩:=T.obj _ _ st2 b hb;exact(Xi e)
 have hD:H2 s2.heap.objs.size=none:=I2.hok.fresh (Xc _);refine X5 (DJ (fun ZR ZA Zz Zy=>?_));dsimp only at ZA Zz Zy⊢;have I3:Inv X pins B (upd H2 s2.heap.objs.size (.lst [])) {s2 with heap:=s2.heap.push {cls:=.type "list",dict:=none,data:=.seq ([]:List Value).toArray},toks:=s2.toks}:=
  I2.laid (fun b o e=>Xd _ e) (Xc _) ⟨X2 _,[],0,.nil,Xl _ rfl⟩
 generalize hs3:({s2 with heap:=s2.heap.push {cls:=.type "list",dict:=none,data:=.seq ([]:List Value).toArray},toks:=s2.toks}:Shared)=s3 at I3;have e3:s2.heap.push {cls:=.type "list",dict:=none,data:=.seq ([]:List Value).toArray}=s3.heap:=by rw[←hs3]
 have hsz:s3.heap.objs.size=s2.heap.objs.size+1:=by rw[←e3,X7]
 rw[e3] at ZA Zz Zy⊢;have hk:=Zz;have hcl:∀y c,cl.lookup y=some c->¬s3.heap.objs.size<c:=fun y c e z=>by
  obtain⟨v,o,ho,_⟩:=I3.cell y c (c1 y c e);exact(X0 _ (Nat.lt_trans z (Xi ho)))
 have CA:CellsAre X scope s3.heap.objs.size cl (cellsFrom (s3.heap.objs.size+1) scope.names cl):=EO (h:=s3.heap.push {cls:=.type "dict",data:=.dict #[]}) (by rw[X7]) S hcl;have hcell:∀y c,(cellsFrom (s3.heap.objs.size+1) scope.names cl).lookup y=some c->s3.heap.objs.size<c->ZR.IsCell c none:=fun y c e z=>by
  rw[uX,wy] at e;cases q:(cellsFrom (s3.heap.objs.size+1) scope.names []).lookup y with
  |none=>rw[q] at e;exact absurd z (hcl y c e)
  |some c'=>
   rw[q] at e;have:c'=c:=Xv e;subst this;exact Zy y c' (XQ q)
 generalize hcs:cellsFrom (s3.heap.objs.size+1) scope.names cl=cs at CA hcell⊢;have f3:∀b∈fp,sg X pins (upd H2 s2.heap.objs.size (.lst [])) b:=fun b hb=>⟨by rw[qZ (Xr (hlt b hb))];exact(f2 b hb).1,(f2 b hb).2⟩
 have hlt3:∀b∈fp,b<s3.heap.objs.size:=fun b hb=>by rw[hsz];exact YG (hlt b hb)
 have st3:tn 0 ZR:=T.keep _ _ _ st2 fun b hb o e=>hk b o (by rw[←e3];exact Xd _ e);have J0:Inv (qN X N' scope cs s3.heap.objs.size s3 (upd H2 s2.heap.objs.size (.lst [])) fp) [] (sK own cap B) (upd H2 s2.heap.objs.size (.lst [])) {s3 with heap:=ZR,toks:=s2.toks}:=
  comp_inv I3 S CA hcell c1 c2 f3 hlt3 hk ZA
 have stat:∀{pl:QS} {H':Hp},pl=[]->(∀b∈fp,H' b=none)->∀b∈fp,sg (qN X N' scope cs s3.heap.objs.size s3 (upd H2 s2.heap.objs.size (.lst [])) fp) pl H' b:=fun{pl H'} hp hn b hb=>by
  subst hp;refine⟨hn b hb,Xr (hlt3 b hb),J0.ok.exfs b hb,.inl hb,fun x c e=>J0.ok.exf b hb |>.2 x c e,fun p hp=>absurd hp (by show p∉([]++[]:QS);simp)⟩
 have loop:codeAny (model X.prog X.w) X.A (.compLoop (.ListComp elt [⟨tg,iter,ifs,0⟩,⟨tg2,iter2,ifs2,0⟩] scope pos) 0 (.ref it) (.ref s2.heap.objs.size) (compEnvC scope cs s3.heap.objs.size X.env)) (RR (.ref s2.heap.objs.size) s3.heap.objs.size)
   {s3 with heap:=ZR,toks:=s2.toks}:=zkq (Y:=qN X N' scope cs s3.heap.objs.size s3 (upd H2 s2.heap.objs.size (.lst [])) fp) (hs2 _ _) hx hc (hg _ _ _ _ _) (ht _ _ _ _ _) (hi2 _ _ _ _ _) (hg2 _ _ _ _ _) (ht2 _ _ _ _ _) (he _ _ _ _ _) T J0 st3 (fun b hb=>(f3 b hb).1) (stat rfl) (h _ hD) fun ZQ H4 s5 I5 qz=>by
  have I6:Inv X pins B H4 s5:=I3.call' (ch:=fp) I5.os I5.base I5.hok I5.bare fun b hb=>⟨(f3 b hb).2.2.2.1,(f3 b hb).2.1,(f3 b hb).2.2.2.2.1,(f3 b hb).2.2.2.2.2⟩
  obtain⟨m',hn',_⟩:=I5.loc;exact(hRR _ _ s5 m' H4 I6 hn' (I3.fpOk (Xc _) I5.free) qz)
 have lp:codeAny (model X.prog X.w) X.A (.compStart (.ListComp elt [⟨tg,iter,ifs,0⟩,⟨tg2,iter2,ifs2,0⟩] scope pos) 0 (.ref it) (.ref s2.heap.objs.size) (compEnvC scope cs s3.heap.objs.size X.env)) (RR (.ref s2.heap.objs.size) s3.heap.objs.size)
   {s3 with heap:=ZR,toks:=s2.toks}:=codeAny_compStart_list loop (T.self _ 0 _ _ _ st3 loop)
 subst hs3;exact lp
theorem SC(S:CompScope X N' own cap scope)(hi:PI X tg iter wi)
  (hg:∀cl C Z4 Z2 ex,PG (qN X N' scope cl C Z4 Z2 ex) tg g) (ht:∀cl C Z4 Z2 ex,PIf (qN X N' scope cl C Z4 Z2 ex) ifs tc)
  (hi2:∀cl C Z4 Z2 ex,PI (qN X N' scope cl C Z4 Z2 ex) tg2 iter2 wi2) (hg2:∀cl C Z4 Z2 ex,PG (qN X N' scope cl C Z4 Z2 ex) tg2 g2) (ht2:∀cl C Z4 Z2 ex,PIf (qN X N' scope cl C Z4 Z2 ex) ifs2 tc2)
  (he:∀cl C Z4 Z2 ex,PE (qN X N' scope cl C Z4 Z2 ex) elt te)
  (hx:∀e s,X.xe e s->False:=by exact fun _ _ z=>z) (hc:X.calm=true:=by rfl) (hs:∀x,foldedSetIterable iter X.env x=pure x:=by intro _;rfl) (hs2:∀cl C x,foldedSetIterable iter2 (compEnvC scope cl C X.env) x=pure x:=by intro _ _ _;rfl):
  PE X (.ListComp elt [⟨tg,iter,ifs,0⟩,⟨tg2,iter2,ifs2,0⟩] scope pos) (fun B H Q=>wi B H fun J H1=>∀D,H1 D=none->ya J g tc wi2 g2 tc2 te D (sK own cap B) H1 (Q (.ref D))):=by
 intro pins s B H Q I h;rw[eval_ListComp];obtain⟨cl,hcl,c1,c2⟩:=yl (scope:=scope) (env:=X.env) fun y hy hk=>I.ok.has y.1 (S.free y hy hk);refine(Ya (use:=none) rfl hs hcl S.kind S.names (thn (hi pins s B H _ I h) fun v s1 h1=>thn h1 fun itv s2 h2=>?_));obtain⟨it,fp,tn,J,H2,e,I2,T,st2,f2,q⟩:=h2;subst e;refine(FE (RR:=fun acc C=>compPost (model X.prog X.w) X.A X.xe none (EP X pins B Q) acc C) (Z:=fun D=>Q (.ref D)) hx hc S hg ht hi2 hg2 ht2 he hs2 I2 T st2 f2 c1 c2 q ?_);intro D C s' m' H' I' hn' f' z;exact⟨m',hn',fun h'' hs''=>⟨.ref D,H',I'.letgo f' hs'',rfl,z⟩⟩
theorem S5{i:Nat}{y:Str}{py spos:Pos}(hN:X.N.Nodup)(hi':X.N[i]?=some y)(hy:X.env.scope.names.lookup y=some .local)(S:CompScope X N' own cap scope)(hi:PI X tg iter wi)
  (hg:∀cl C Z4 Z2 ex,PG (qN X N' scope cl C Z4 Z2 ex) tg g) (ht:∀cl C Z4 Z2 ex,PIf (qN X N' scope cl C Z4 Z2 ex) ifs tc)
  (hi2:∀cl C Z4 Z2 ex,PI (qN X N' scope cl C Z4 Z2 ex) tg2 iter2 wi2) (hg2:∀cl C Z4 Z2 ex,PG (qN X N' scope cl C Z4 Z2 ex) tg2 g2) (ht2:∀cl C Z4 Z2 ex,PIf (qN X N' scope cl C Z4 Z2 ex) ifs2 tc2)
  (he:∀cl C Z4 Z2 ex,PE (qN X N' scope cl C Z4 Z2 ex) elt te)
  (hsw:swapsWith (.ListComp elt [⟨tg,iter,ifs,0⟩,⟨tg2,iter2,ifs2,0⟩] scope pos) (some (.Name y py)) spos.line X.env=pure true:=by rfl)
  (hx:∀e s,X.xe e s->False:=by exact fun _ _ z=>z) (hc:X.calm=true:=by rfl) (hs:∀x,foldedSetIterable iter X.env x=pure x:=by intro _;rfl) (hs2:∀cl C x,foldedSetIterable iter2 (compEnvC scope cl C X.env) x=pure x:=by intro _ _ _;rfl):
  PS X (.Assign [.Name y py] (.ListComp elt [⟨tg,iter,ifs,0⟩,⟨tg2,iter2,ifs2,0⟩] scope pos) spos) (fun D B H=>wi B H fun J H1=>∀p,H1 p=none->ya J g tc wi2 g2 tc2 te p (sK own cap B) H1 (fun H2=>D.nx (B.set i (some (.ref p))) H2)):=by
 intro pins s B H D I h;obtain⟨cl,hcl,c1,c2⟩:=yl (scope:=scope) (env:=X.env) fun y hy hk=>I.ok.has y.1 (S.free y hy hk);rw[exec_Assign_Name_used _ _ _ _ hsw];refine Xb (Ye (Xb ?_));show wpAny _ _ (do let _ ←comprehension (.ListComp elt [⟨tg,iter,ifs,0⟩,⟨tg2,iter2,ifs2,0⟩] scope pos) scope X.env _ (newList []) false (eval iter X.env) (some (assign (.Name y py) X.env))) _ _ s;refine Xb (Xg (Ya (use:=some (assign (.Name y py) X.env)) (Q:=fun _ s'=>SP X pins D .next s') rfl hs hcl S.kind S.names
  (thn (hi pins s B H _ I h) fun v s1 h1=>thn h1 fun itv s2 h2=>?_)) (fun _ s' hq=>Xf (Xf hq)) fun _ _ e=>e)
 obtain⟨it,fp,tn,J,H2,e,I2,T,st2,f2,q⟩:=h2;subst e;refine(FE (RR:=fun acc C=>compPost (model X.prog X.w) X.A X.xe (some (assign (.Name y py) X.env)) (fun _ s'=>SP X pins D .next s') acc C) (Z:=fun p H2=>D.nx (B.set i (some (.ref p))) H2) hx hc S hg ht hi2 hg2 ht2 he hs2 I2 T st2 f2 c1 c2 q ?_);intro p C s' m' H' I' hn' f' z;show wpAny _ _ (assign (.Name y py) X.env (.ref p)) _ _ _;refine wpAny_assign_Name (Cg I' hN hi' (.inl hy) (v:=.ref p) rfl (fun s'' I'' hm=>?_) (.inr hy));obtain⟨a,hsb,ha⟩:=hm;have hCa:C≠a:=by
  rcases ha with z|z
  ·rw[z];exact f'.2.1
  ·exact fun e=>f'.2.2.2.2.1 y a z e.symm
 refine⟨m',hn'.sameBut hsb hCa,fun h3 hs3=>?_⟩;exact⟨_,H',I''.letgo f' hs3,z⟩
end
def wt(ns:List Int):Nat:=(firstMet (fun i=>ns.getD i 0) ns.length).length
end L2
namespace L2
open PySem PySem.W PySem.Spec PySem.Calls PyProof.Rows PySem.Builtin PySem.Builtin.ObjectAttr PySem.Builtin.Getset_descriptor
def U8(e D:Addr):HO:=.ext fun h=>∃o,h.get? e=some o/\o.cls=.ref D
def PJ(X:Cx)(es:List Expr)(t:St->Hp->(Hp->Prop)->Prop):Prop:=
 ∀(pins:QS) (s:Shared) (B:St) (H:Hp) (Q:Hp->Prop) (acc:Str) (n:Nat),acc.length<=n->n+2000*es.length<=1000000->Inv X pins B H s->t B H Q->
  wpAny (model X.prog X.w) X.A (joinParts acc (evalEach es X.env)) (fun u s'=>∃z t H',u=.str z t/\Inv X pins B H' s'/\Q H') X.xe s
section
variable {X:Cx} {e e2:Expr} {es:List Expr} {te:TE} {t:St->Hp->(Hp->Prop)->Prop} {p pos:Pos}
theorem PB:PJ X [] (fun _ H Q=>Q H):=fun pins s B H Q acc n h1 h2 I h=>joinParts_nil ⟨acc,_,H,rfl,I.tok _,h⟩ (by rw[YB];simp at h2;omega)
theorem Sy{x:Str}{j:Nat}(hx:x.length<=2000)(hr:PJ X es t):PJ X (.Constant (.str x) j p::es) t:=by
 intro pins s B H Q acc n h1 h2 I h;have hl:(acc++x).length<=n+2000:=by rw[strLen_append];omega
 simp only[XI] at h2;show wpAny _ _ (joinParts acc (eval (.Constant (.str x) j p) X.env::evalEach es X.env)) _ _ s;refine joinParts_cons (thn (MD pins s B H (fun v H'=>v=.str x/\H'=H) I ⟨rfl,rfl⟩) fun u s1 hm=>?_);obtain⟨v,H1,I1,r1,e1,e2⟩:=hm;subst e1 e2;obtain⟨tk,rfl⟩:=r1;exact⟨by rw[YB];omega,hr pins s1 B _ Q _ (n+2000) hl (by omega) I1 h⟩
theorem U3(he:PE X e te)(hr:PJ X es t):PJ X (.FormattedValue e (-1) none p::es) (fun B H Q=>te B H fun v H1=>∃i,v=.int i/\i.natAbs.log2<1920/\t B H1 Q):=by
 intro pins s B H Q acc n h1 h2 I h;simp only[XI] at h2;show wpAny _ _ (joinParts acc (eval (.FormattedValue e (-1) none p) X.env::evalEach es X.env)) _ _ s;refine joinParts_cons (FormattedValue_plain (thn (he pins s B H _ I h) fun u s1 hm=>?_));obtain⟨v,H1,I1,r1,i,ev,hi,q⟩:=hm;subst ev;obtain⟨tk,rfl⟩:=r1;refine(formatField_int_small hi ?_);have hz:=int_text_len_1921 hi;have hl:(acc++Str.ofString (toString i)).length<=n+2000:=by rw[strLen_append];omega
 exact⟨by rw[YB];omega,hr pins _ B H1 Q _ (n+2000) hl (by omega) (I1.tok _) q⟩
theorem MW(h:PJ X (e::e2::es) t)(hl:(e::e2::es).length<=400:=by decide):PE X (.JoinedStr (e::e2::es) pos) (fun B H Q=>t B H fun H1=>∀z,Q (.str z) H1):=by
 intro pins s B H Q I q;refine JoinedStr_many ?_;refine thn (h pins s B H _ Str.empty 0 (X2 _) (by omega) I q) fun u s' hm=>?_;obtain⟨z,tk,H',eu,I',q'⟩:=hm;exact(⟨.str z,H',I',⟨tk,eu⟩,q' z⟩)
end
end L2
namespace L2
open PySem PySem.Spec PyProof.Rows
def ObjOk.there{P:Program}{w:World}{H:Hp}{h:Heap}{a:Addr}{o:HO}(x:ObjOk P w H h a o):∃ob,h.get? a=some ob:=by
 cases o with
 |lst xs=>obtain⟨_,_,_,_,e⟩:=x;exact⟨_,e⟩
 |tup xs=>obtain⟨_,_,_,p⟩:=x;obtain⟨ob,e,_⟩:=p;exact⟨_,e⟩
 |dK kvs=>obtain⟨_,_,_,_,o,_,_,e,_⟩:=x;exact⟨_,e⟩
 |dT kvs=>obtain⟨_,_,_,_,o,_,_,e,_⟩:=x;exact⟨_,e⟩
 |set S n=>obtain⟨o,_,_,_,e,_⟩:=x;exact⟨_,e⟩
 |ins C dx fs=>obtain⟨_,_,_,e,_⟩:=x;exact⟨_,e⟩
 |own y=>obtain⟨_,e⟩:=x;exact⟨_,e⟩
 |xd fs=>obtain⟨_,⟨_,_,_,e,_⟩,_⟩:=x;exact⟨_,e⟩
 |rng lo hi=>obtain⟨_,_,_,e⟩:=x;exact⟨_,e⟩
 |frz ob u=>obtain⟨e,_⟩:=x;exact⟨_,e⟩
 |tbl ps=>exact⟨_,(show h.get? a=some _ from x)⟩
 |met f y=>exact⟨_,(show h.get? a=some _ from x)⟩
 |ext φ=>obtain⟨_,e,_⟩:=x;exact e
structure Flew (P:Program) (w:World) (outer:List Env) (H H':Hp) (s:Shared) (e:Addr) (C:Value) (Z7:Heap) (s':Shared):Prop where
 os:s'.os=s.os
 bare:AllBare s'.gens
 un:Un (frs outer) [] H H' s.heap s'.heap
 hok:HOk P w H' s'.heap
 trk:∀b o,s'.heap.get? b=some o->H' b≠none->Z7.get? b=some o
 old:∀b o,s.heap.get? b=some o->H b=none->b∉frs outer->Z7.get? b=some o
 thr:∀b o,s.heap.get? b=some o->b∉frs outer->∃o',Z7.get? b=some o'
 frf:∀b∈frs outer,H b=none
 unt:H' e=none
 new:s.heap.get? e=none
 fly:∃a0,Heap.FlyingW Z7 outer e C a0 s'.heap
def CXr(P:Program)(w:World):CXT:=fun outer H s E e s'=>∃(a:Addr) (C:Value) (H':Hp) (Z7:Heap),e=.ref a/\Flew P w outer H H' s a C Z7 s'/\E C none H'
section
variable {P:Program} {w:World} {outer:List Env} {H H':Hp} {s s':Shared} {e:Addr} {C:Value} {Z7:Heap}
theorem Flew.to{h2:Heap}(F:Flew P w outer H H' s e C Z7 s')(hB:Z7.StaysIn h2)(hs:s'.heap.UpToSlots h2):Un (frs outer) [] H H' s.heap h2/\HOk P w H' h2/\∀b o,h2.get? b=some o->H' b≠none->Z7.get? b=some o:=by
 obtain⟨a0,fl⟩:=F.fly;have kp:∀b o,s.heap.get? b=some o->H b=none->b∉frs outer->h2.get? b=some o:=fun b o x n hb=>hB b o (F.old b o x n hb);have sl:∀b o,s.heap.get? b=some o->H b=none->b∈frs outer->∃sl,h2.get? b=some {o with slots:=sl}:=fun b o x n hb=>by
  obtain⟨sl,e1⟩:=F.un.slot b o x n hb (by simp);obtain⟨_,o',e2,d⟩:=fl.2.2.1.mem hb;rw[e1] at e2;cases e2;obtain⟨sl',e3⟩:=hs b {o with slots:=sl} e1 d;exact(⟨sl',e3⟩)
 refine⟨⟨fun b o x n hb _=>kp b o x n hb,fun b o x n hb _=>sl b o x n hb,F.un.free,fun b o x _=>?_,F.un.tups,F.un.frzs,F.un.tbls⟩,fun a u eu=>?_,fun b o x n=>?_⟩
 ·by_cases hb:b∈frs outer
  ·obtain⟨l,e1⟩:=sl b o x (F.frf b hb) hb;exact⟨_,e1⟩
  ·obtain⟨o',e1⟩:=F.thr b o x hb;exact⟨o',hB b o' e1⟩
 ·refine(F.hok a u eu).stay (fun b v hb q=>hB b v (F.trk b v q ?_)) (fun _ q=>q) fun _ _ q=>q;rcases hb with z|z
  ·rw[z,eu];simp
  ·rw[z];simp
 ·cases eu:H' b with
  |none=>exact absurd eu n
  |some u=>
   obtain⟨o1,e1⟩:=(F.hok b u eu).there;have e2:=F.trk b o1 e1 n;have e3:=hB b o1 e2;rw[x] at e3;cases e3;exact(e2)
theorem Flew.next{h2:Heap}(F:Flew P w outer H H' s e C Z7 s')(hs:s'.heap.UpToSlots h2)(fl:∃a0,Heap.FlyingW Z7 outer e C a0 h2):Flew P w outer H H' s e C Z7 {s' with heap:=h2}:=by
 obtain⟨a0,fl⟩:=fl;obtain⟨u,k,t⟩:=F.to fl.1 hs;exact(⟨F.os,F.bare,u,k,t,F.old,F.thr,F.frf,F.unt,F.new,a0,fl⟩)
theorem Flew.inv{X:Cx}{pins:QS}{B:St}(F:Flew X.prog X.w X.stack H H' s e C Z7 s')(I:Inv X pins B H s):Inv X pins B H' s':=
 I.call' (ch:=[]) F.os F.un F.hok F.bare fun _ z=>nomatch z
end
section
variable {P:Program} {w:World} {K:Frag} {mg:Str->Option Value} {base:Heap} {N:List Str} {qual:Str} {scope:Scope} {f:Addr} {cd:Value} {A:Around} {outer:List Env} {s s1:Shared} {H H1:Hp} {E E':XK}
 {pins:QS} {B:St}
theorem SM{h':Heap}{e C:Addr}{vs:List Value}(I:Inv (rA (CXr P w) P w K mg base N qual scope f cd A outer s H E) pins B H1 s1)(hx:Heap.MadeExcOf s1.heap h' e (.ref C) vs)(hE:E (.ref C) none H1):
  (rA (CXr P w) P w K mg base N qual scope f cd A outer s H E).xe (.ref e) {s1 with heap:=h'}:=by
 have fs:∀b,b∈frs (envOfC qual scope s.heap.objs.size f cd::outer)->H1 b=none:=I.stkFree;have inn:∀b o,s1.heap.get? b=some o->b∉frs (envOfC qual scope s.heap.objs.size f cd::outer)->(PySem.W.hideAll s1.heap (frs (envOfC qual scope s.heap.objs.size f cd::outer))).get? b=some o:=fun b o e hb=>PySem.W.hideAll_get _ e hb;have out:∀b o,s.heap.get? b=some o->b∉frs outer->b∉frs (envOfC qual scope s.heap.objs.size f cd::outer):=fun b o e hb z=>by
  have z:b∈s.heap.objs.size::frs outer:=z;rcases XB.mp z with q|q
  ·rw[q] at e;exact X0 _ (Xi e)
  ·exact hb q
 have frf:∀b∈frs outer,H b=none:=I.ok.frf;have hin:∀env∈(envOfC qual scope s.heap.objs.size f cd::outer),∀a,env.frame=some a->a∈frs (envOfC qual scope s.heap.objs.size f cd::outer):=fun env he a ha=>List.mem_filterMap.mpr ⟨env,he,ha⟩;show wpAny (model P w) (A.deeper (envOfC qual scope s.heap.objs.size f cd)) (leaving (envOfC qual scope s.heap.objs.size f cd) (.ref e)) _ _ _;refine wpAny_leaves_madeW (base:=PySem.W.hideAll s1.heap (frs (envOfC qual scope s.heap.objs.size f cd::outer))) I.ok.frames rfl (fun b o q=>PySem.W.of_hideAll _ q) (PySem.W.funFrames_hide I.stack hin) hx fun h2 t fl _ _ ups=>?_;have hB:=fl.1;have sl:∀b o,s.heap.get? b=some o->H b=none->b∈frs outer->∃sl,h2.get? b=some {o with slots:=sl}:=fun b o x n hb=>by
  obtain⟨sl,e1⟩:=I.base.slot b o x n hb (by simp[rA]);obtain⟨_,o',e2,d⟩:=I.stack.mem (show b∈s.heap.objs.size::frs outer from XF _ hb);rw[e1] at e2;cases e2;obtain⟨sl',e3⟩:=ups b {o with slots:=sl} (hx.keeps b {o with slots:=sl} e1) d;exact(⟨sl',e3⟩)
 have old:∀b o,s.heap.get? b=some o->H b=none->b∉frs outer->(PySem.W.hideAll s1.heap (frs (envOfC qual scope s.heap.objs.size f cd::outer))).get? b=some o:=fun b o x n hb=>
  inn b o (I.base.keep b o x n hb (by simp[rA])) (out b o x hb)
 have thr:∀b o,s.heap.get? b=some o->b∉frs outer->∃o',(PySem.W.hideAll s1.heap (frs (envOfC qual scope s.heap.objs.size f cd::outer))).get? b=some o':=fun b o x hb=>by
  obtain⟨o',e1⟩:=I.base.there b o x (by simp[rA]);exact(⟨o',inn b o' e1 (out b o x hb)⟩)
 have nfr:∀b,H1 b≠none->b∉frs (envOfC qual scope s.heap.objs.size f cd::outer):=fun b n z=>n (fs b z);refine⟨e,.ref C,H1,_,rfl,⟨I.os,I.bare,⟨fun b o x n hb _=>hB b o (old b o x n hb),fun b o x n hb _=>sl b o x n hb,fun b o x n _=>I.base.free b o x n (by simp[rA]),fun b o x _=>?_,I.base.tups,I.base.frzs,I.base.tbls⟩,fun a u eu=>?_,fun b o x n=>?_,old,thr,frf,?_,?_,_,fl⟩,hE⟩
 ·by_cases hb:b∈frs outer
  ·obtain⟨l,e1⟩:=sl b o x (frf b hb) hb;exact⟨_,e1⟩
  ·obtain⟨o',e1⟩:=thr b o x hb;exact⟨o',hB b o' e1⟩
 ·refine(I.hok a u eu).stay (fun b v hb q=>hB b v (inn b v q (nfr b ?_))) (fun _ q=>q) fun _ _ q=>q;rcases hb with z|z
  ·rw[z,eu];simp
  ·rw[z];simp
 ·cases eu:H1 b with
  |none=>exact absurd eu n
  |some u=>
   obtain⟨o1,e1⟩:=(I.hok b u eu).there;have e2:=inn b o1 e1 (nfr b n);have e3:=hB b o1 e2;rw[x] at e3;cases e3;exact(e2)
 ·cases eu:H1 e with
  |none=>rfl
  |some u=>
   obtain⟨o1,e1⟩:=(I.hok e u eu).there;rw[hx.new] at e1;cases e1
 ·cases eo:s.heap.get? e with
  |none=>rfl
  |some o=>
   obtain⟨o1,e1⟩:=I.base.there e o eo (by simp[rA]);rw[hx.new] at e1;cases e1
theorem Ww(hE:∀C d H',E' C d H'->E C d H'):xy (CXr P w) (rA (CXr P w) P w K mg base N qual scope f cd A outer s H E) E':=by
 intro pins B H1 s1 e s' I hc;obtain⟨a,C,H',Z7,rfl,F,q⟩:=hc;have F:Flew P w (envOfC qual scope s.heap.objs.size f cd::outer) H1 H' s1 a C Z7 s':=F;obtain⟨a0,fl⟩:=F.fly;have I2:Inv (rA (CXr P w) P w K mg base N qual scope f cd A outer s H E) pins B H' s':=Flew.inv (X:=rA (CXr P w) P w K mg base N qual scope f cd A outer s H E) F I;have out:∀b o,s.heap.get? b=some o->b∉frs outer->b∉frs (envOfC qual scope s.heap.objs.size f cd::outer):=fun b o e hb z=>by
  have z:b∈s.heap.objs.size::frs outer:=z;rcases XB.mp z with q|q
  ·rw[q] at e;exact X0 _ (Xi e)
  ·exact hb q
 obtain⟨f1,f2,⟨_,_,f3⟩,f4⟩:=id fl;have G:Flew P w outer H H' s a C Z7 s':=by
  refine⟨I2.os,F.bare,⟨fun b o x n hb _=>I2.base.keep b o x n hb (by simp[rA]),fun b o x n hb _=>I2.base.slot b o x n hb (by simp[rA]),fun b o x n _=>I2.base.free b o x n (by simp[rA]),fun b o x _=>I2.base.there b o x (by simp[rA]),I2.base.tups,I2.base.frzs,I2.base.tbls⟩,F.hok,F.trk,
   fun b o x n hb=>F.old b o (I.base.keep b o x n hb (by simp[rA])) (I.base.free b o x n (by simp[rA])) (out b o x hb),fun b o x hb=>?_,I.ok.frf,F.unt,?_,a0,f1,f2,f3,f4⟩
  ·obtain⟨o1,e1⟩:=I.base.there b o x (by simp[rA]);exact F.thr b o1 e1 (out b o x hb)
  ·cases eo:s.heap.get? a with
   |none=>rfl
   |some o=>
    obtain⟨o1,e1⟩:=I.base.there a o eo (by simp[rA]);rw[F.new] at e1;cases e1
 show wpAny (model P w) (A.deeper (envOfC qual scope s.heap.objs.size f cd)) (leaving (envOfC qual scope s.heap.objs.size f cd) (.ref a)) _ _ _;exact wpAny_leaves_onW I.ok.frames rfl fl fun h2 fl2 ups=>⟨a,C,H',Z7,rfl,G.next ups ⟨_,fl2⟩,hE C none H' q⟩
end
end L2
namespace L3
open PySem PySem.Spec L2
inductive D where
 |non|bl (b:Bool)|int (i:Int)|str (x:Str)|lst (xs:List D)|scr (xs:List D)|tup (xs:List D)|gt (xs:List D)|ref (k:Nat)
inductive Z8 where
 |lst (xs:List D)|dK (kvs:List (Key×D))|dN (kvs:List (NK×D))|ins (C:Addr) (fs:List (Str×D))|exc (C:Addr)
abbrev M:=List (Option Z8)
abbrev Fr:=Option (D×M)
abbrev C0:=List D->M->Fr
abbrev G:=List (Option D)
structure Wd where
 ρ:List Addr
 L:M
 H:Hp
 hid:Addr->Prop
def SqF(K:Frag)(H:Hp)(a:Addr)(xs:List V):Prop:=(∃o,H a=some (.frz o (.lst xs)))\/
  ∃(o:Obj) (its:Array Value) (n:Nat),K.lookup a=some o/\o.cls=.type "list"/\o.dict=none/\o.data=.seq its n/\its.size<=sizeLine/\Vals xs its.toList
def SqF.seq{K:Frag}{H:Hp}{a:Addr}{xs:List V}(h:SqF K H a xs):SqL K H a xs:=by
 rcases h with h|h
 ·exact .inl (.inr h)
 ·exact .inr h
def RL(W:Wd)(a:Addr):Prop:=∃(k:Nat) (o:Z8),W.L[k]?=some (some o)/\W.ρ[k]?=some a
def zo(W:Wd)(a:Addr):Prop:=RL W a\/W.hid a
mutual
inductive DR (K:Frag) (W:Wd):D->V->Prop where
 |non:DR K W .non .non
 |bl (b:Bool):DR K W (.bl b) (.bl b)
 |int (i:Int):DR K W (.int i) (.int i)
 |str (x:Str):DR K W (.str x) (.str x)
 |ref {k:Nat} {a:Addr}:W.ρ[k]?=some a->DR K W (.ref k) (.ref a)
 |lst {a:Addr} {vs:List V} {ds:List D}:W.H a=some (.lst vs)->¬zo W a->DRs K W ds vs->DR K W (.lst ds) (.ref a)
 |scr {a:Addr} {vs:List V} {ds:List D}:SqF K W.H a vs->DRs K W ds vs->DR K W (.scr ds) (.ref a)
 |tup {a:Addr} {vs:List V} {ds:List D}:W.H a=some (.tup vs)->DRs K W ds vs->DR K W (.tup ds) (.ref a)
 |gt {a:Addr} {vs:List V} {ds:List D}:SqT K W.H a vs->DRs K W ds vs->DR K W (.gt ds) (.ref a)
inductive DRs (K:Frag) (W:Wd):List D->List V->Prop where
 |nil:DRs K W [] []
 |cons {d:D} {v:V} {ds:List D} {vs:List V}:DR K W d v->DRs K W ds vs->DRs K W (d::ds) (v::vs)
end
def KR(K:Frag)(W:Wd):List (Key×D)->List (Key×V)->Prop:=Paired fun p q=>p.1=q.1/\DR K W p.2 q.2
def NR(K:Frag)(W:Wd):List (NK×D)->List (NK×V)->Prop:=Paired fun p q=>p.1=q.1/\DR K W p.2 q.2
def FR(K:Frag)(W:Wd):List (Str×D)->List (Str×V)->Prop:=Paired fun p q=>p.1=q.1/\DR K W p.2 q.2
def OR(K:Frag)(W:Wd)(a:Addr):Z8->HO->Prop
 | .lst ds,ho=>∃vs,ho=.lst vs/\DRs K W ds vs
 | .dK kvs,ho=>∃vs,ho=.dK vs/\KR K W kvs vs
 | .dN kvs,ho=>∃vs,ho=.dT vs/\NR K W kvs vs
 | .ins C fs,ho=>∃vs,(∃dx,ho=.ins C dx vs)/\FR K W fs vs
 | .exc C,ho=>ho=U8 a C
structure Ok (K:Frag) (W:Wd):Prop where
 len:W.ρ.length=W.L.length
 nd:W.ρ.Nodup
 rs:∀a∈W.ρ,W.H a≠none
 at_:∀(k:Nat) (o:Z8),W.L[k]?=some (some o)->∃a ho,W.ρ[k]?=some a/\W.H a=some ho/\OR K W a o ho
 hd0:∀a,W.hid a->W.H a≠none/\a∉W.ρ
def Ok.hd{K:Frag}{W:Wd}(ok:Ok K W):∀a,W.hid a->W.H a≠none/\¬RL W a:=fun a z=>⟨(ok.hd0 a z).1,fun⟨_,_,_,h⟩=>(ok.hd0 a z).2 (List.mem_of_getElem? h)⟩
structure Step (W W':Wd):Prop where
 ρ:∀(k:Nat) a,W.ρ[k]?=some a->W'.ρ[k]?=some a
 live:∀a,RL W' a->RL W a\/W.H a=none
 keep:∀a o,W.H a=some o->¬RL W a->W'.H a=some o
 hid:W'.hid=W.hid
 still:∀a,W.H a≠none->W'.H a≠none
structure EnvR (K:Frag) (W:Wd) (O:G) (B:St):Prop where
 len:O.length=B.length
 at_:∀(i:Nat) d,O[i]?=some (some d)->∃v,B[i]?=some (some v)/\DR K W d v
section
variable {K:Frag} {W W' W'':Wd} {O:G} {B:St}
theorem Step.refl:Step W W:=⟨fun _ _ h=>h,fun _ h=>.inl h,fun _ _ h _=>h,rfl,fun _ h=>h⟩
theorem Step.nlive(s:Step W W'){a:Addr}{o:HO}(h:W.H a=some o)(n:¬RL W a):¬RL W' a:=fun z=>by
 rcases s.live a z with z|z
 ·exact n z
 ·rw[h] at z;cases z
theorem Step.trans(s:Step W W')(t:Step W' W''):Step W W'' where
 ρ k a h:=t.ρ k a (s.ρ k a h)
 live a h:=by
  rcases t.live a h with z|z
  ·exact s.live a z
  ·exact .inr (Ym fun n=>s.still a n z)
 keep a o h n:=t.keep a o (s.keep a o h n) (s.nlive h n)
 hid:=t.hid.trans s.hid
 still a h:=t.still a (s.still a h)
theorem Step.nLive(s:Step W W'){a:Addr}{o:HO}(h:W.H a=some o)(n:¬zo W a):¬zo W' a:=fun z=>by
 rcases z with z|z
 ·exact s.nlive h (fun q=>n (.inl q)) z
 ·rw[s.hid] at z;exact n (.inr z)
theorem Vf(s:Step W W'){a:Addr}{u:HO}(n:¬RL W a)(r:Rd W.H a u):Rd W'.H a u:=by
 rcases r with h|⟨o,h⟩
 ·exact .inl (s.keep _ _ h n)
 ·exact .inr ⟨o,s.keep _ _ h n⟩
theorem Ok.notup(ok:Ok K W){a:Addr}{vs:List V}(r:Rd W.H a (.tup vs)):¬RL W a:=fun⟨k,o,hk,ha⟩=>by
 obtain⟨a',ho,h1,h2,h3⟩:=ok.at_ k o hk;rw[ha] at h1;cases h1;rcases r with h|⟨q,h⟩
 ·rw[h2] at h;cases o with
  |lst ds=>obtain⟨ws,rfl,_⟩:=h3;cases h
  |dK kvs=>obtain⟨ws,rfl,_⟩:=h3;cases h
  |dN kvs=>obtain⟨ws,rfl,_⟩:=h3;cases h
  |ins C fs=>obtain⟨ws,⟨dx,rfl⟩,_⟩:=h3;cases h
  |exc C=>cases (show _=_ from h3);cases h
 ·rw[h2] at h;cases o with
  |lst ds=>obtain⟨ws,rfl,_⟩:=h3;cases h
  |dK kvs=>obtain⟨ws,rfl,_⟩:=h3;cases h
  |dN kvs=>obtain⟨ws,rfl,_⟩:=h3;cases h
  |ins C fs=>obtain⟨ws,⟨dx,rfl⟩,_⟩:=h3;cases h
  |exc C=>cases (show _=_ from h3);cases h
theorem KP(ok:Ok K W)(s:Step W W'){a:Addr}{vs:List V}(h:SqT K W.H a vs):SqT K W'.H a vs:=by
 rcases h with h|h
 ·exact .inl (Vf s (ok.notup h) h)
 ·exact .inr h
theorem Ok.nofrz(ok:Ok K W){a:Addr}{u:HO}{q:Obj}(h:W.H a=some (.frz q u)):¬RL W a:=fun⟨k,o,hk,ha⟩=>by
 obtain⟨a',ho,h1,h2,h3⟩:=ok.at_ k o hk;rw[ha] at h1;cases h1;rw[h2] at h;cases o with
 |lst ds=>obtain⟨ws,rfl,_⟩:=h3;cases h
 |dK kvs=>obtain⟨ws,rfl,_⟩:=h3;cases h
 |dN kvs=>obtain⟨ws,rfl,_⟩:=h3;cases h
 |ins C fs=>obtain⟨ws,⟨dx,rfl⟩,_⟩:=h3;cases h
 |exc C=>cases (show _=_ from h3);cases h
theorem MF(ok:Ok K W)(s:Step W W'){a:Addr}{vs:List V}(h:SqF K W.H a vs):SqF K W'.H a vs:=by
 rcases h with⟨o,h⟩|h
 ·exact .inl ⟨o,s.keep _ _ h (ok.nofrz h)⟩
 ·exact .inr h
mutual
theorem DR.step(ok:Ok K W)(s:Step W W'):∀{d:D} {v:V},DR K W d v->DR K W' d v
 |_,_,.non=>.non
 |_,_,.bl b=>.bl b
 |_,_,.int i=>.int i
 |_,_,.str x=>.str x
 |_,_,.ref h=>.ref (s.ρ _ _ h)
 |_,_,.lst r n h=>.lst (s.keep _ _ r (fun z=>n (.inl z))) (s.nLive r n) (DRs.step ok s h)
 |_,_,.scr r h=>.scr (MF ok s r) (DRs.step ok s h)
 |_,_,.tup r h=>.tup (s.keep _ _ r (ok.notup (.inl r))) (DRs.step ok s h)
 |_,_,.gt r h=>.gt (KP ok s r) (DRs.step ok s h)
theorem DRs.step(ok:Ok K W)(s:Step W W'):∀{ds:List D} {vs:List V},DRs K W ds vs->DRs K W' ds vs
 |_,_,.nil=>.nil
 |_,_,.cons h t=>.cons (h.step ok s) (DRs.step ok s t)
end
theorem KR.step(ok:Ok K W)(s:Step W W'){kvs:List (Key×D)}{vs:List (Key×V)}(h:KR K W kvs vs):KR K W' kvs vs:=Paired.mapP h fun _ _ ⟨e,q⟩=>⟨e,q.step ok s⟩
theorem NR.step(ok:Ok K W)(s:Step W W'){kvs:List (NK×D)}{vs:List (NK×V)}(h:NR K W kvs vs):NR K W' kvs vs:=Paired.mapP h fun _ _ ⟨e,q⟩=>⟨e,q.step ok s⟩
theorem FR.step(ok:Ok K W)(s:Step W W'){kvs:List (Str×D)}{vs:List (Str×V)}(h:FR K W kvs vs):FR K W' kvs vs:=Paired.mapP h fun _ _ ⟨e,q⟩=>⟨e,q.step ok s⟩
theorem OR.step(ok:Ok K W)(s:Step W W'){a:Addr}{o:Z8}{ho:HO}(h:OR K W a o ho):OR K W' a o ho:=by
 cases o with
 |lst ds=>obtain⟨vs,e,q⟩:=h;exact⟨vs,e,q.step ok s⟩
 |dK kvs=>obtain⟨vs,e,q⟩:=h;exact⟨vs,e,q.step ok s⟩
 |dN kvs=>obtain⟨vs,e,q⟩:=h;exact⟨vs,e,q.step ok s⟩
 |ins C fs=>obtain⟨vs,e,q⟩:=h;exact⟨vs,e,q.step ok s⟩
 |exc C=>exact h
theorem EnvR.step(e:EnvR K W O B)(ok:Ok K W)(s:Step W W'):EnvR K W' O B:=⟨e.len,fun i d h=>let ⟨v,a,b⟩:=e.at_ i d h;⟨v,a,b.step ok s⟩⟩
theorem DRs.length:∀{ds:List D} {vs:List V},DRs K W ds vs->ds.length=vs.length
 |_,_,.nil=>rfl
 |_,_,.cons _ t=>by simp[t.length]
theorem DRs.get:∀{ds:List D} {vs:List V} {i:Nat} {d:D},DRs K W ds vs->ds[i]?=some d->∃v,vs[i]?=some v/\DR K W d v
 |_,_,_,_,.nil,e=>by simp at e
 |_,_,0,_,.cons h _,e=>by simp at e;subst e;exact⟨_,rfl,h⟩
 |_,_,i+1,d,.cons _ t,e=>by
  obtain⟨v,h1,h2⟩:=DRs.get (i:=i) (d:=d) t (by simpa using e);exact(⟨v,by simpa using h1,h2⟩)
theorem DRs.append:∀{ds es:List D} {vs us:List V},DRs K W ds vs->DRs K W es us->DRs K W (ds++es) (vs++us)
 |_,_,_,_,.nil,s=>s
 |_,_,_,_,.cons h t,s=>.cons h (DRs.append t s)
theorem DRs.take:∀{ds:List D} {vs:List V} (n:Nat),DRs K W ds vs->DRs K W (ds.take n) (vs.take n)
 |_,_,0,_=>.nil
 |_,_,_+1,.nil=>.nil
 |_,_,n+1,.cons r t=>.cons r (DRs.take n t)
theorem DRs.drop:∀{ds:List D} {vs:List V} (n:Nat),DRs K W ds vs->DRs K W (ds.drop n) (vs.drop n)
 |_,_,0,r=>r
 |_,_,_+1,.nil=>.nil
 |_,_,n+1,.cons _ t=>DRs.drop n t
theorem DRs.set{d:D}{v:V}(r:DR K W d v):∀{ds:List D} {vs:List V} (i:Nat),DRs K W ds vs->DRs K W (ds.set i d) (vs.set i v)
 |_,_,_,.nil=>.nil
 |_,_,0,.cons _ t=>.cons r t
 |_,_,i+1,.cons q t=>.cons q (DRs.set r i t)
theorem DRs.erase:∀{ds:List D} {vs:List V} (i:Nat),DRs K W ds vs->DRs K W (ds.eraseIdx i) (vs.eraseIdx i)
 |_,_,_,.nil=>.nil
 |_,_,0,.cons _ t=>t
 |_,_,i+1,.cons q t=>.cons q (DRs.erase i t)
theorem DRs.rep{ds:List D}{vs:List V}(h:DRs K W ds vs):∀n,DRs K W (List.replicate n ds).flatten (List.replicate n vs).flatten
 |0=>.nil
 |n+1=>by simp only[Yq,List.flatten_cons];exact h.append (DRs.rep h n)
end
section
variable {K:Frag} {W:Wd}
def Wd.lay(W:Wd)(p:Addr)(o:HO):Wd:={W with H:=upd W.H p o}
theorem Sm(ok:Ok K W){p:Addr}(h:W.H p=none):¬RL W p:=fun⟨k,o,_,ha⟩=>ok.rs p (List.mem_of_getElem? ha) h
theorem K3(ok:Ok K W){p:Addr}(h:W.H p=none):¬W.hid p:=fun z=>(ok.hd p z).1 h
theorem Sj(ok:Ok K W){p:Addr}(h:W.H p=none):¬zo W p:=fun z=>z.elim (Sm ok h) (K3 ok h)
theorem se{p:Addr}{o:HO}(h:W.H p=none):Step W (W.lay p o) where
 ρ _ _ h:=h
 live _ h:=.inl h
 keep a u e _:=by show upd W.H p o a=_;rw[qZ (sV e h)];exact e
 hid:=rfl
 still a n:=by
  show upd W.H p o a≠none;by_cases e:a=p
  ·subst e;rw[sf];simp
  ·rw[qZ e];exact n
theorem sU(ok:Ok K W){p:Addr}{o:HO}(h:W.H p=none):Ok K (W.lay p o) where
 len:=ok.len
 nd:=ok.nd
 rs a m:=(se h).still a (ok.rs a m)
 at_ k u e:=by
  obtain⟨a,ho,h1,h2,h3⟩:=ok.at_ k u e;refine(⟨a,ho,h1,?_,h3.step ok (se h)⟩);show upd W.H p o a=_;rw[qZ (sV h2 h)];exact h2
 hd0 a z:=⟨(se h).still a (ok.hd a z).1,(ok.hd0 a z).2⟩
theorem P1(ok:Ok K W){p:Addr}{o:HO}(h:W.H p=none):¬zo (W.lay p o) p:=Sj ok h
theorem xr(ok:Ok K W){p:Addr}{ds:List D}{vs:List V}(h:W.H p=none)(r:DRs K W ds vs):DR K (W.lay p (.lst vs)) (.lst ds) (.ref p):=
 .lst sf (P1 ok h) (r.step ok (se h))
theorem xo(ok:Ok K W){p:Addr}{ds:List D}{vs:List V}(h:W.H p=none)(r:DRs K W ds vs):DR K (W.lay p (.tup vs)) (.tup ds) (.ref p):=
 .tup sf (r.step ok (se h))
def Wd.new(W:Wd)(p:Addr)(o:HO)(x:Z8):Wd:={W with H:=upd W.H p o,ρ:=W.ρ++[p],L:=W.L++[some x]}
theorem AC{α:Type}{l:List α}{x y:α}{k:Nat}(h:(l++[x])[k]?=some y):l[k]?=some y\/(k=l.length/\y=x):=by
 by_cases hk:k<l.length
 ·rw[Xq hk] at h;exact .inl h
 ·rw[XH (by omega)] at h;have:k - l.length=0:=by
   cases e:k - l.length with
   |zero=>rfl
   |succ n=>rw[e] at h;simp at h
  rw[this] at h;simp at h;exact .inr ⟨by omega,h.symm⟩
theorem NY(ok:Ok K W){p a:Addr}{o:HO}{x:Z8}(h:RL (W.new p o x) a):RL W a\/a=p:=by
 obtain⟨k,u,h1,h2⟩:=h;rcases AC h1 with z|⟨e,_⟩
 ·rcases AC h2 with y|⟨e,y⟩
  ·exact .inl ⟨k,u,z,y⟩
  ·have:=(Xe.mp z).1;rw[e,ok.len] at this;omega
 ·rcases AC h2 with y|⟨_,y⟩
  ·have:=(Xe.mp y).1;rw[e,←ok.len] at this;omega
  ·exact .inr y
theorem u0(ok:Ok K W){p:Addr}{o:HO}{x:Z8}(h:W.H p=none):Step W (W.new p o x) where
 ρ k a e:=by
  show(W.ρ++[p])[k]?=_;rw[Xq (Xe.mp e).1];exact e
 live a z:=by
  rcases NY ok z with z|rfl
  ·exact .inl z
  ·exact .inr h
 keep a u e _:=by show upd W.H p o a=_;rw[qZ (sV e h)];exact e
 hid:=rfl
 still a n:=by
  show upd W.H p o a≠none;by_cases e:a=p
  ·subst e;rw[sf];simp
  ·rw[qZ e];exact n
theorem zG(ok:Ok K W){p:Addr}{o:HO}{x:Z8}(h:W.H p=none)(r:OR K W p x o):Ok K (W.new p o x) where
 len:=by show(W.ρ++[p]).length=(W.L++[some x]).length;simp[ok.len]
 nd:=by
  show(W.ρ++[p]).Nodup;rw[List.nodup_append];refine⟨ok.nd,by simp,fun a ha b hb e=>?_⟩;simp at hb;subst hb e;exact ok.rs _ ha h
 rs a m:=by
  rcases XM.mp m with m|m
  ·exact(u0 ok h).still a (ok.rs a m)
  ·simp at m;subst m;show upd W.H a o a≠none;rw[sf];simp
 at_ k u e:=by
  rcases AC e with e|⟨e,y⟩
  ·obtain⟨a,ho,h1,h2,h3⟩:=ok.at_ k u e;refine⟨a,ho,(u0 ok h).ρ k a h1,?_,h3.step ok (u0 ok h)⟩;show upd W.H p o a=_;rw[qZ (sV h2 h)];exact h2
  ·cases y;rename_i hk;refine⟨p,o,?_,sf,r.step ok (u0 ok h)⟩;show(W.ρ++[p])[k]?=_;rw[hk,←ok.len];simp
 hd0 a z:=by
  refine⟨(u0 ok h).still a (ok.hd a z).1,fun q=>?_⟩;have q:a∈W.ρ++[p]:=q;rcases XM.mp q with q|q
  ·exact(ok.hd0 a z).2 q
  ·simp at q;subst q;exact(ok.hd a z).1 h
theorem ze(ok:Ok K W){p:Addr}{o:HO}{x:Z8}:DR K (W.new p o x) (.ref W.L.length) (.ref p):=by
 refine .ref ?_;show(W.ρ++[p])[W.L.length]?=_;rw[←ok.len];simp
def Wd.put(W:Wd)(k:Nat)(a:Addr)(o:HO)(x:Z8):Wd:={W with H:=upd W.H a o,L:=W.L.set k (some x)}
theorem PM{k:Nat}{a b:Addr}{o:HO}{x y:Z8}(hk:W.L[k]?=some (some y)):RL (W.put k a o x) b↔RL W b:=by
 have hlt:=(Xe.mp hk).1;constructor
 ·rintro⟨j,u,h1,h2⟩;have h1:(W.L.set k (some x))[j]?=some (some u):=h1;by_cases e:j=k
  ·subst e;exact⟨j,y,hk,h2⟩
  ·rw[XG (Ne.symm e)] at h1;exact⟨j,u,h1,h2⟩
 ·rintro⟨j,u,h1,h2⟩;by_cases e:j=k
  ·subst e;exact⟨j,x,by show(W.L.set j (some x))[j]?=_;simp[hlt],h2⟩
  ·exact⟨j,u,by show(W.L.set k (some x))[j]?=_;rw[XG (Ne.symm e)];exact h1,h2⟩
theorem v3{k:Nat}{a:Addr}{o:HO}{x y:Z8}(hk:W.L[k]?=some (some y))(ha:W.ρ[k]?=some a):Step W (W.put k a o x) where
 ρ _ _ h:=h
 live b z:=.inl ((PM hk).mp z)
 keep b u e n:=by
  have hne:b≠a:=fun z=>n (by rw[z];exact⟨k,y,hk,ha⟩);show upd W.H a o b=_;rw[qZ hne];exact e
 hid:=rfl
 still b n:=by
  show upd W.H a o b≠none;by_cases e:b=a
  ·subst e;rw[sf];simp
  ·rw[qZ e];exact n
theorem Bv(ok:Ok K W){k:Nat}{a:Addr}{o:HO}{x y:Z8}(hk:W.L[k]?=some (some y))(ha:W.ρ[k]?=some a)(r:OR K W a x o):Ok K (W.put k a o x) where
 len:=by show W.ρ.length=(W.L.set k (some x)).length;simp[ok.len]
 nd:=ok.nd
 rs b m:=(v3 hk ha).still b (ok.rs b m)
 at_ j u e:=by
  have e:(W.L.set k (some x))[j]?=some (some u):=e;by_cases z:j=k
  ·subst z;have hlt:=(Xe.mp hk).1;simp[hlt] at e;subst e;exact⟨a,o,ha,sf,r.step ok (v3 hk ha)⟩
  ·rw[XG (Ne.symm z)] at e;obtain⟨b,ho,h1,h2,h3⟩:=ok.at_ j u e;refine(⟨b,ho,h1,?_,h3.step ok (v3 hk ha)⟩);have hne:b≠a:=fun q=>z (Qy ok.nd h1 (by rw[q];exact ha));show upd W.H a o b=_;rw[qZ hne];exact h2
 hd0 b z:=⟨(v3 hk ha).still b (ok.hd b z).1,(ok.hd0 b z).2⟩
def Wd.hide(W:Wd)(p:Addr)(o:HO):Wd:={W with H:=upd W.H p o,hid:=fun a=>a=p\/W.hid a}
end
abbrev EV:=G->M->Fr
abbrev BV:=G->M->Option (Bool×M)
abbrev LV:=G->M->Option (List D×M)
inductive Out where
 |nx|bk|ct|rt (d:D)
abbrev SV:=G->M->Option (Out×G×M)
section
variable (K:Frag)
def tD(ev:EV):TE:=fun B H Q=>∃(W:Wd) (O:G) (d:D) (Z6:M),W.H=H/\Ok K W/\EnvR K W O B/\ev O W.L=some (d,Z6)/\∀v W',W'.L=Z6->Ok K W'->Step W W'->DR K W' d v->Q v W'.H
def tDB(ev:BV):TT:=fun B H Q=>∃(W:Wd) (O:G) (b:Bool) (Z6:M),W.H=H/\Ok K W/\EnvR K W O B/\ev O W.L=some (b,Z6)/\∀W',W'.L=Z6->Ok K W'->Step W W'->Q b W'.H
def tDL(ev:LV):TA:=fun B H Q=>∃(W:Wd) (O:G) (ds:List D) (Z6:M),W.H=H/\Ok K W/\EnvR K W O B/\ev O W.L=some (ds,Z6)/\∀vs W',W'.L=Z6->Ok K W'->Step W W'->DRs K W' ds vs->Q vs W'.H
def fin(D:Ends)(W':Wd)(Z0:St):Out->Prop
 | .nx=>D.nx Z0 W'.H
 | .bk=>D.bk Z0 W'.H
 | .ct=>D.ct Z0 W'.H
 | .rt d=>∀v,DR K W' d v->D.rt v W'.H
def tDS(es:SV):TS:=fun D B H=>∃(W:Wd) (O:G) (out:Out) (ZY:G) (Z6:M),W.H=H/\Ok K W/\EnvR K W O B/\es O W.L=some (out,ZY,Z6)/\∀W' Z0,W'.L=Z6->Ok K W'->Step W W'->EnvR K W' ZY Z0->fin K D W' Z0 out
end
section
variable {X:Cx} {e:Expr}
theorem rf{t t':TE}(h:PE X e t)(hi:∀B H Q,t' B H Q->t B H Q):PE X e t':=fun pins s B H Q I hw=>h pins s B H Q I (hi _ _ _ hw)
theorem vG{t t':TT}(h:PT X e t)(hi:∀B H Q,t' B H Q->t B H Q):PT X e t':=fun pins s B H Q I hw=>h pins s B H Q I (hi _ _ _ hw)
theorem JW{t t':TT}(h:PW X e t)(hi:∀B H Q,t' B H Q->t B H Q):PW X e t':=fun wh pins s B H Q I hw=>h wh pins s B H Q I (hi _ _ _ hw)
theorem AT{es:List Expr}{t t':TA}(h:PA X es t)(hi:∀B H Q,t' B H Q->t B H Q):PA X es t':=fun pos pins s B H Q I hw=>h pos pins s B H Q I (hi _ _ _ hw)
theorem sS{st:Stmt}{t t':TS}(h:PS X st t)(hi:∀D B H,t' D B H->t D B H):PS X st t':=fun pins s B H D I hw=>h pins s B H D I (hi _ _ _ hw)
theorem zx{st:List Stmt}{t t':TS}(h:PSs X st t)(hi:∀D B H,t' D B H->t D B H):PSs X st t':=fun pins s B H D I hw=>h pins s B H D I (hi _ _ _ hw)
end
def bnd{α β:Type}{x:Option α}{f:α->Option β}{b:β}(h:x.bind f=some b):∃a,x=some a/\f a=some b:=Option.bind_eq_some_iff.mp h
def el4{α:Type}{p:Wd->Prop}{q:Wd->G->Prop}{r s:Wd->G->α->M->Prop}{Z:Prop}{H:Hp}(h:∃(W:Wd) (O:G) (d:α) (Z6:M),W.H=H/\p W/\q W O/\r W O d Z6/\s W O d Z6)(k:∀W O d Z6,W.H=H->p W->q W O->r W O d Z6->s W O d Z6->Z):Z:=by
 obtain⟨W,O,d,Z6,rfl,a,b,c,e⟩:=h;exact(k W O d Z6 rfl a b c e)
def el5{α β:Type}{p:Wd->Prop}{q:Wd->G->Prop}{r s:Wd->G->α->β->M->Prop}{Z:Prop}{H:Hp}(h:∃(W:Wd) (O:G) (d:α) (b:β) (Z6:M),W.H=H/\p W/\q W O/\r W O d b Z6/\s W O d b Z6)(k:∀W O d b Z6,W.H=H->p W->q W O->r W O d b Z6->s W O d b Z6->Z):Z:=by
 obtain⟨W,O,d,x,Z6,rfl,a,b,c,e⟩:=h;exact(k W O d x Z6 rfl a b c e)
def qE{α β:Type}{x:Option α}{f:α->Option β}{b:β}{Z:Prop}(h:x.bind f=some b)(k:∀a,x=some a->f a=some b->Z):Z:=by
 obtain⟨a,h1,h2⟩:=bnd h;exact(k a h1 h2)
def rN(L:M):D->Option (List D)
 | .lst ds=>some ds
 | .scr ds=>some ds
 | .ref k=>match L[k]? with
  |some (some (.lst ds))=>some ds
  |_=>none
 |_=>none
def vU(L:M):D->Option (List D)
 | .lst ds=>some ds
 | .ref k=>match L[k]? with
  |some (some (.lst ds))=>some ds
  |_=>none
 |_=>none
def vf:D->Option (List D)
 | .tup ds=>some ds
 | .gt ds=>some ds
 |_=>none
section
variable {K:Frag} {W:Wd} {d:D} {ds:List D} {v:V}
theorem w8(ok:Ok K W){k:Nat}(h:W.L[k]?=some (some (.lst ds)))(r:DR K W (.ref k) v):∃a vs,v=.ref a/\W.ρ[k]?=some a/\W.H a=some (.lst vs)/\DRs K W ds vs:=by
 cases r with
 |ref ha=>
  obtain⟨a',ho,h1,h2,vs,rfl,r⟩:=ok.at_ k _ h;rw[ha] at h1;cases h1;exact(⟨_,vs,rfl,ha,h2,r⟩)
theorem Bw(ok:Ok K W)(h:vU W.L d=some ds)(r:DR K W d v):∃a vs,v=.ref a/\W.H a=some (.lst vs)/\DRs K W ds vs:=by
 cases d with
 |lst xs=>
  cases h;cases r with
  |lst r n h=>exact⟨_,_,rfl,r,h⟩
 |ref k=>
  simp only[vU] at h;split at h
  ·rename_i xs hk;cases h;obtain⟨a,vs,e,_,e2,e3⟩:=w8 ok hk r;exact(⟨a,vs,e,e2,e3⟩)
  ·cases h
 |_=>cases h
theorem uK(ok:Ok K W)(h:rN W.L d=some ds)(r:DR K W d v):∃a vs,v=.ref a/\SqL K W.H a vs/\DRs K W ds vs:=by
 cases d with
 |lst xs=>
  cases h;cases r with
  |lst r n h=>exact⟨_,_,rfl,SqL.of r,h⟩
 |scr xs=>
  cases h;cases r with
  |scr r h=>exact⟨_,_,rfl,r.seq,h⟩
 |ref k=>
  simp only[rN] at h;split at h
  ·rename_i xs hk;cases h;obtain⟨a,vs,e,_,e2,e3⟩:=w8 ok hk r;exact(⟨a,vs,e,SqL.of e2,e3⟩)
  ·cases h
 |_=>cases h
theorem vB(h:vf d=some ds)(r:DR K W d v):∃a vs,v=.ref a/\SqT K W.H a vs/\DRs K W ds vs:=by
 cases d with
 |tup xs=>
  cases h;cases r with
  |tup r h=>exact⟨_,_,rfl,SqT.of r,h⟩
 |gt xs=>
  cases h;cases r with
  |gt r h=>exact⟨_,_,rfl,r,h⟩
 |_=>cases h
theorem FO{vs:List V}{i:Int}(r:DRs K W ds vs)(h:atI ds i=some d):∃v,atI vs i=some v/\DR K W d v:=by
 unfold atI at h⊢;refine qE h fun j h1 h2=>?_;rw[r.length] at h1;obtain⟨v,e,q⟩:=r.get h2;exact⟨v,by rw[h1];exact e,q⟩
end
def be(i:Nat):EV:=fun O L=>match O[i]? with
 |some (some d)=>some (d,L)
 |_=>none
def vC(d:D):EV:=fun _ L=>some (d,L)
def v2(f:D->D->M->Fr)(ea eb:EV):EV:=fun O L=>(ea O L).bind fun p=>(eb O p.2).bind fun q=>f p.1 q.1 q.2
def v1(f:D->M->Fr)(ea:EV):EV:=fun O L=>(ea O L).bind fun p=>f p.1 p.2
def R2A(K:Frag)(r:R2)(f:D->D->M->Fr):Prop:=∀(W:Wd) (x y:V) (d e z:D) (Z6:M) (Q:VK),Ok K W->DR K W d x->DR K W e y->f d e W.L=some (z,Z6)->
 (∀v W',W'.L=Z6->Ok K W'->Step W W'->DR K W' z v->Q v W'.H)->r x y W.H Q
def R1A(K:Frag)(r:V->Hp->VK->Prop)(f:D->M->Fr):Prop:=∀(W:Wd) (x:V) (d z:D) (Z6:M) (Q:VK),Ok K W->DR K W d x->f d W.L=some (z,Z6)->
 (∀v W',W'.L=Z6->Ok K W'->Step W W'->DR K W' z v->Q v W'.H)->r x W.H Q
def vT(ev:EV):BV:=fun O L=>(ev O L).bind fun p=>match p.1 with
 | .bl b=>some (b,p.2)
 |_=>none
section
variable {X:Cx} {K:Frag} {a b:Expr} {ea eb:EV} {pos:Pos}
theorem qB(i:Nat){x:Str}(hN:X.N[i]?=some x:=by rfl)(hv:Vis X.env.scope x:=by first|exact Or.inl rfl|exact Or.inr (Or.inl rfl)|exact Or.inr (Or.inr rfl))(hd:(x==("__debug__":Str))=false:=by decide)
  (hcd:(x==("__classdict__":Str))=false:=by decide):PE X (.Name x pos) (tD K (be i)):=rf (IJ hN hv hd hcd) fun B H Q h=>by
 refine el4 h fun W O d Z6 eH ok en e q=>?_;subst eH;unfold be at e;split at e
 ·rename_i d' hd;cases e;obtain⟨v,hv,r⟩:=en.at_ i _ hd;exact(⟨v,hv,q v W rfl ok .refl r⟩)
 ·cases e
theorem zH{d:D}{v:V}(h:∀W,DR K W d v):∀B H Q,tD K (vC d) B H Q->tC v B H Q:=fun B H Q hh=>by
 obtain⟨W,O,d,Z6,rfl,ok,en,e,q⟩:=hh;cases e;exact(q v W rfl ok .refl (h W))
theorem qP{i j}:PE X (.Constant (.int i) j pos) (tD K (vC (.int i))):=rf Uf (zH fun _=>.int i)
theorem sP{b j}:PE X (.Constant (.bool b) j pos) (tD K (vC (.bl b))):=rf Rt (zH fun _=>.bl b)
theorem tN{j}:PE X (.Constant .none j pos) (tD K (vC .non)):=rf OS (zH fun _=>.non)
theorem AS{x j}:PE X (.Constant (.str x) j pos) (tD K (vC (.str x))):=rf MD (zH fun _=>.str x)
theorem ww{x:Str}{d:D}{v:V}{u:Value}(hm:X.mg x=some u)(r:RelV v u)(h:∀W,DR K W d v)(hg:Gl X x:=by rfl)(hd:(x==("__debug__":Str))=false:=by decide):PE X (.Name x pos) (tD K (vC d)):=rf (RT hg hm r hd) (zH h)
theorem w5{r:R2}{f:D->D->M->Fr}(ra:R2A K r f):∀B H Q,tD K (v2 f ea eb) B H Q->tOp r (tD K ea) (tD K eb) B H Q:=fun B H Q h=>by
 refine el4 h fun W O d Z6 eH ok en e q=>?_;subst eH;refine qE e fun p1 e1 e=>?_;refine qE e fun p2 e2 e=>?_;refine⟨W,O,p1.1,p1.2,rfl,ok,en,e1,fun x W1 Z1 ok1 s1 r1=>⟨W1,O,p2.1,p2.2,rfl,ok1,en.step ok s1,by rw[Z1];exact e2,fun y W2 ZV ok2 s2 r2=>?_⟩⟩;exact ra W2 x y _ _ _ _ Q ok2 (r1.step ok1 s2) r2 (by rw[ZV];exact e) fun v W3 ZS ok3 s3 r3=>q v W3 ZS ok3 ((s1.trans s2).trans s3) r3
theorem uN{r:V->Hp->VK->Prop}{f:D->M->Fr}(ra:R1A K r f):∀B H Q,tD K (v1 f ea) B H Q->(fun B H Q=>tD K ea B H fun x H1=>r x H1 Q:TE) B H Q:=fun B H Q h=>by
 refine el4 h fun W O d Z6 eH ok en e q=>?_;subst eH;refine qE e fun p1 e1 e=>?_;refine⟨W,O,p1.1,p1.2,rfl,ok,en,e1,fun x W1 Z1 ok1 s1 r1=>?_⟩;exact ra W1 x _ _ _ Q ok1 r1 (by rw[Z1];exact e) fun v W3 ZS ok3 s3 r3=>q v W3 ZS ok3 (s1.trans s3) r3
theorem xf{op:Operator}{r:R2}{f:D->D->M->Fr}(ho:OpR X (binaryOp op) r)(ra:R2A K r f)(ha:PE X a (tD K ea))(hb:PE X b (tD K eb)):PE X (.BinOp a op b pos) (tD K (v2 f ea eb)):=rf (y3c ho ha hb) (w5 ra)
theorem Fl{op:CmpOp}{r:R2}{f:D->D->M->Fr}(ho:OpR X (compareOp op) r)(ra:R2A K r f)(ha:PE X a (tD K ea))(hb:PE X b (tD K eb))(hm:behindInMarks op b=false):PE X (.Compare a [op] [b] pos) (tD K (v2 f ea eb)):=rf (RN ho ha hb hm) (w5 ra)
theorem Bi{t:TE}(h:∀B H Q,tD K ea B H Q->t B H Q):∀B H Q,tDB K (vT ea) B H Q->A5 t B H Q:=fun B H Q hh=>by
 obtain⟨W,O,k,Z6,rfl,ok,en,e,q⟩:=hh;refine qE e fun p1 e1 e=>?_;refine(h B _ _ ⟨W,O,p1.1,p1.2,rfl,ok,en,e1,fun x W1 Z1 ok1 s1 r1=>?_⟩);split at e
 ·rename_i k' hk;cases e;rw[hk] at r1;cases r1;exact⟨_,rfl,q W1 Z1 ok1 s1⟩
 ·cases e
theorem yd{op:CmpOp}{r:R2}{f:D->D->M->Fr}(ho:OpR X (compareOp op) r)(ra:R2A K r f)(ha:PE X a (tD K ea))(hb:PE X b (tD K eb))(hm:behindInMarks op b=false):PT X (.Compare a [op] [b] pos) (tDB K (vT (v2 f ea eb))):=vG (JD ho ha hb hm) (Bi (w5 ra))
end
def fI0(g:Int->Int->D):D->D->M->Fr
 | .int i,.int j,L=>some (g i j,L)
 |_,_,_=>none
def fI(C:Int->Int->Prop) [∀i j,Decidable (C i j)](g:Int->Int->D):D->D->M->Fr
 | .int i,.int j,L=>if C i j then some (g i j,L) else none
 |_,_,_=>none
section
variable {K:Frag}
theorem wc{g:Int->Int->V}{h:Int->Int->D}(hh:∀W i j,DR K W (h i j) (g i j)):R2A K (rI0 g) (fI0 h):=by
 intro W x y d e z Z6 Q ok r1 r2 hf q;unfold fI0 at hf;split at hf
 ·cases hf;cases r1;cases r2;exact⟨_,_,rfl,rfl,q _ W rfl ok .refl (hh W _ _)⟩
 ·cases hf
theorem AH{C:Int->Int->Prop} [∀i j,Decidable (C i j)]{g:Int->Int->V}{h:Int->Int->D}(hh:∀W i j,DR K W (h i j) (g i j)):R2A K (rI C g) (fI C h):=by
 intro W x y d e z Z6 Q ok r1 r2 hf q;unfold fI at hf;split at hf
 ·split at hf
  ·rename_i hc;cases hf;cases r1;cases r2;exact⟨_,_,rfl,rfl,hc,q _ W rfl ok .refl (hh W _ _)⟩
  ·cases hf
 ·cases hf
end
noncomputable instance{i j:Int}:Decidable (CMul i j):=by unfold CMul;infer_instance
noncomputable instance{i j:Int}:Decidable (vS i j):=by unfold vS;infer_instance
def wv(_ j:Int):Prop:=0<j/\j<2^200
def uT(_ j:Int):Prop:=0<j
noncomputable instance{i j:Int}:Decidable (wv i j):=by unfold wv;infer_instance
noncomputable instance{i j:Int}:Decidable (uT i j):=by unfold uT;infer_instance
section
variable {X:Cx} {K:Frag} {a b c:Expr} {ea eb:EV} {pos:Pos}
abbrev CC:=fI0 fun i j=>.int (i+j)
abbrev u7:=fI0 fun i j=>.int (i - j)
abbrev x3:=fI wv fun i j=>.int (i/j)
abbrev zV:=fI uT fun i j=>.int (i%j)
abbrev ye:=fI vS fun i j=>.int (i^j.toNat)
abbrev fLt:=fI0 fun i j=>.bl (decide (i<j))
abbrev fLe:=fI0 fun i j=>.bl (decide (i<=j))
abbrev fGt:=fI0 fun i j=>.bl (decide (j<i))
abbrev fGe:=fI0 fun i j=>.bl (decide (j<=i))
theorem v8(ha:PE X a (tD K ea))(hb:PE X b (tD K eb)):PE X (.BinOp a .Sub b pos) (tD K (v2 u7 ea eb)):=xf Uy (wc fun _ _ _=>.int _) ha hb
theorem A7(ha:PE X a (tD K ea))(hb:PE X b (tD K eb)):PE X (.BinOp a .FloorDiv b pos) (tD K (v2 x3 ea eb)):=xf SI (AH (C:=wv) fun _ _ _=>.int _) ha hb
theorem Be(ha:PE X a (tD K ea))(hb:PE X b (tD K eb)):PE X (.BinOp a .Mod b pos) (tD K (v2 zV ea eb)):=xf UK (AH (C:=uT) fun _ _ _=>.int _) ha hb
theorem AQ(ha:PE X a (tD K ea))(hb:PE X b (tD K eb)):PE X (.BinOp a .Pow b pos) (tD K (v2 ye ea eb)):=xf N2 (AH fun _ _ _=>.int _) ha hb
theorem DQ(ha:PE X a (tD K ea))(hb:PE X b (tD K eb)):PT X (.Compare a [.Lt] [b] pos) (tDB K (vT (v2 fLt ea eb))):=yd CI (wc fun _ _ _=>.bl _) ha hb (wm _)
theorem zr(ha:PE X a (tD K ea))(hb:PE X b (tD K eb)):PT X (.Compare a [.Gt] [b] pos) (tDB K (vT (v2 fGt ea eb))):=yd Oc (wc fun _ _ _=>.bl _) ha hb (wm _)
def uY:D->M->Fr
 | .int i,L=>some (.int (-i),L)
 |_,_=>none
theorem Cj(ha:PE X a (tD K ea)):PE X (.UnaryOp .USub a pos) (tD K (v1 uY ea)):=rf (QQ Pc ha) (uN (by
 intro W x d z Z6 Q ok r1 hf q;unfold uY at hf;split at hf
 ·cases hf;cases r1;exact⟨_,rfl,q _ W rfl ok .refl (.int _)⟩
 ·cases hf))
def wZ(t u:BV):BV:=fun O L=>(t O L).bind fun p=>if p.1=true then u O p.2 else some (false,p.2)
def bOr(t u:BV):BV:=fun O L=>(t O L).bind fun p=>if p.1=true then some (true,p.2) else u O p.2
def sL(t:BV):BV:=fun O L=>(t O L).bind fun p=>some (!p.1,p.2)
variable {ba bb:BV} {qV:List Expr}
theorem R9:∀B H Q,tDB K (wZ ba bb) B H Q->FV (tDB K ba) (tDB K bb) B H Q:=fun B H Q h=>by
 refine el4 h fun W O k Z6 eH ok en e q=>?_;subst eH;refine qE e fun p1 e1 e=>?_;refine⟨W,O,p1.1,p1.2,rfl,ok,en,e1,fun W1 Z1 ok1 s1=>?_⟩;split at e
 ·rename_i hp;rw[if_pos hp];exact⟨W1,O,k,Z6,rfl,ok1,en.step ok s1,by rw[Z1];exact e,fun W2 ZV ok2 s2=>q W2 ZV ok2 (s1.trans s2)⟩
 ·rename_i hp;cases e;rw[if_neg hp];exact q W1 Z1 ok1 s1
theorem Uz:∀B H Q,tDB K (bOr ba bb) B H Q->tOr (tDB K ba) (tDB K bb) B H Q:=fun B H Q h=>by
 refine el4 h fun W O k Z6 eH ok en e q=>?_;subst eH;refine qE e fun p1 e1 e=>?_;refine⟨W,O,p1.1,p1.2,rfl,ok,en,e1,fun W1 Z1 ok1 s1=>?_⟩;split at e
 ·rename_i hp;cases e;rw[if_pos hp];exact q W1 Z1 ok1 s1
 ·rename_i hp;rw[if_neg hp];exact⟨W1,O,k,Z6,rfl,ok1,en.step ok s1,by rw[Z1];exact e,fun W2 ZV ok2 s2=>q W2 ZV ok2 (s1.trans s2)⟩
theorem MQ(ha:PT X a (tDB K ba)):PW X (.BoolOp .And [a] pos) (tDB K ba):=PD ha
theorem xx(ha:PT X a (tDB K ba)):PW X (.BoolOp .Or [a] pos) (tDB K ba):=VT ha
theorem UV(ha:PT X a (tDB K ba))(hb:PW X (.BoolOp .And (b::qV) pos) (tDB K bb)):PW X (.BoolOp .And (a::b::qV) pos) (tDB K (wZ ba bb)):=JW (TQ ha hb) R9
theorem wI(ha:PT X a (tDB K ba))(hb:PW X (.BoolOp .Or (b::qV) pos) (tDB K bb)):PW X (.BoolOp .Or (a::b::qV) pos) (tDB K (bOr ba bb)):=JW (QX ha hb) Uz
theorem tR(ha:PT X a (tDB K ba)):PT X (.UnaryOp .Not a pos) (tDB K (sL ba)):=vG (JV ha) fun B H Q h=>by
 refine el4 h fun W O k Z6 eH ok en e q=>?_;subst eH;refine qE e fun p1 e1 e=>?_;cases e;exact⟨W,O,p1.1,p1.2,rfl,ok,en,e1,fun W1 Z1 ok1 s1=>q W1 Z1 ok1 s1⟩
def vIf(t:BV)(ea eb:EV):EV:=fun O L=>(t O L).bind fun p=>if p.1=true then ea O p.2 else eb O p.2
theorem DG(hc:PT X c (tDB K ba))(ha:PE X a (tD K ea))(hb:PE X b (tD K eb)):PE X (.IfExp c a b pos) (tD K (vIf ba ea eb)):=rf (Pg hc ha hb) fun B H Q h=>by
 refine el4 h fun W O d Z6 eH ok en e q=>?_;subst eH;refine qE e fun p1 e1 e=>?_;refine⟨W,O,p1.1,p1.2,rfl,ok,en,e1,fun W1 Z1 ok1 s1=>?_⟩;split at e
 ·rename_i hp;rw[if_pos hp];exact⟨W1,O,d,Z6,rfl,ok1,en.step ok s1,by rw[Z1];exact e,fun v W2 ZV ok2 s2 r2=>q v W2 ZV ok2 (s1.trans s2) r2⟩
 ·rename_i hp;rw[if_neg hp];exact⟨W1,O,d,Z6,rfl,ok1,en.step ok s1,by rw[Z1];exact e,fun v W2 ZV ok2 s2 r2=>q v W2 ZV ok2 (s1.trans s2) r2⟩
def AY(ea eb:EV):EV:=fun O L=>(ea O L).bind fun p=>match p.1 with
 | .bl true=>eb O p.2
 | .bl false=>some (.bl false,p.2)
 |_=>none
def vOr(ea eb:EV):EV:=fun O L=>(ea O L).bind fun p=>match p.1 with
 | .bl true=>some (.bl true,p.2)
 | .bl false=>eb O p.2
 |_=>none
def Lc:D->M->Fr
 | .bl b,L=>some (.bl (!b),L)
 |_,_=>none
theorem Ly{op}(h:PE X a (tD K ea)):PE X (.BoolOp op [a] pos) (tD K ea):=Ql h
theorem Gv(ha:PE X a (tD K ea))(hb:PE X (.BoolOp .And (b::qV) pos) (tD K eb)):PE X (.BoolOp .And (a::b::qV) pos) (tD K (AY ea eb)):=rf (Ss ha hb) fun B H Q h=>by
 refine el4 h fun W O d Z6 eH ok en e q=>?_;subst eH;refine qE e fun p1 e1 e=>?_;refine⟨W,O,p1.1,p1.2,rfl,ok,en,e1,fun x W1 Z1 ok1 s1 r1=>?_⟩;split at e
 ·rename_i hp;rw[hp] at r1;cases r1;exact⟨true,rfl,Ej ⟨W1,O,d,Z6,rfl,ok1,en.step ok s1,by rw[Z1];exact e,fun v W2 ZV ok2 s2 r2=>q v W2 ZV ok2 (s1.trans s2) r2⟩⟩
 ·rename_i hp;rw[hp] at r1;cases r1;cases e;exact⟨false,rfl,Dc (q _ W1 Z1 ok1 s1 (.bl _))⟩
 ·cases e
theorem Oz(ha:PE X a (tD K ea))(hb:PE X (.BoolOp .Or (b::qV) pos) (tD K eb)):PE X (.BoolOp .Or (a::b::qV) pos) (tD K (vOr ea eb)):=rf (VS ha hb) fun B H Q h=>by
 refine el4 h fun W O d Z6 eH ok en e q=>?_;subst eH;refine qE e fun p1 e1 e=>?_;refine⟨W,O,p1.1,p1.2,rfl,ok,en,e1,fun x W1 Z1 ok1 s1 r1=>?_⟩;split at e
 ·rename_i hp;rw[hp] at r1;cases r1;cases e;exact⟨true,rfl,Ej (q _ W1 Z1 ok1 s1 (.bl _))⟩
 ·rename_i hp;rw[hp] at r1;cases r1;exact⟨false,rfl,Dc ⟨W1,O,d,Z6,rfl,ok1,en.step ok s1,by rw[Z1];exact e,fun v W2 ZV ok2 s2 r2=>q v W2 ZV ok2 (s1.trans s2) r2⟩⟩
 ·cases e
end
def optAll{α β:Type}(f:α->Option β):List α->Option (List β)
 | []=>some []
 |x::r=>(f x).bind fun y=>(optAll f r).bind fun ys=>some (y::ys)
section
variable {X:Cx} {K:Frag} {a b e:Expr} {ea eb:EV} {pos p:Pos} {es:List Expr} {el:LV}
def qG:LV:=fun _ L=>some ([],L)
def qC(ea:EV)(el:LV):LV:=fun O L=>(ea O L).bind fun p=>(el O p.2).bind fun q=>some (p.1::q.1,q.2)
theorem qI:PA X [] (tDL K qG):=AT so fun B H Q h=>by
 refine el4 h fun W O ds Z6 eH ok en e q=>?_;subst eH;cases e;exact q [] W rfl ok .refl .nil
theorem MV:∀B H Q,tDL K (qC ea el) B H Q->tK (tD K ea) (tDL K el) B H Q:=fun B H Q h=>by
 refine el4 h fun W O ds Z6 eH ok en e q=>?_;subst eH;refine qE e fun p1 e1 e=>?_;refine qE e fun p2 e2 e=>?_;cases e;exact⟨W,O,p1.1,p1.2,rfl,ok,en,e1,fun x W1 Z1 ok1 s1 r1=>⟨W1,O,p2.1,p2.2,rfl,ok1,en.step ok s1,by rw[Z1];exact e2,fun vs W2 ZV ok2 s2 r2=>q _ W2 ZV ok2 (s1.trans s2) (.cons (r1.step ok1 s2) r2)⟩⟩
theorem qF(ha:PE X e (tD K ea))(hr:PA X es (tDL K el))(hs:starEach (e::es) X.env=(false,eval e X.env)::starEach es X.env:=by rfl):PA X (e::es) (tDL K (qC ea el)):=AT (rP ha hr hs) MV
def RLA(K:Frag)(r:List V->Hp->VK->Prop)(f:C0):Prop:=∀(W:Wd) (xs:List V) (ds:List D) (z:D) (Z6:M) (Q:VK),Ok K W->DRs K W ds xs->f ds W.L=some (z,Z6)->
 (∀v W',W'.L=Z6->Ok K W'->Step W W'->DR K W' z v->Q v W'.H)->r xs W.H Q
def vL(f:C0)(el:LV):EV:=fun O L=>(el O L).bind fun p=>f p.1 p.2
theorem A2{r:List V->Hp->VK->Prop}{f:C0}(ra:RLA K r f):∀B H Q,tD K (vL f el) B H Q->(fun B H Q=>tDL K el B H fun vs H1=>r vs H1 Q:TE) B H Q:=fun B H Q h=>by
 refine el4 h fun W O d Z6 eH ok en e q=>?_;subst eH;refine qE e fun p1 e1 e=>?_;exact⟨W,O,p1.1,p1.2,rfl,ok,en,e1,fun vs W1 Z1 ok1 s1 r1=>ra W1 vs _ _ _ Q ok1 r1 (by rw[Z1];exact e) fun v W3 ZS ok3 s3 r3=>q v W3 ZS ok3 (s1.trans s3) r3⟩
def rL(ds:List D)(L:M):Fr:=if ds.length<=1000 then some (.lst ds,L) else none
def rZ(ds:List D)(L:M):Fr:=if ds.length<=1000 then some (.tup ds,L) else none
def ur(ds:List D)(L:M):Fr:=if ds.length<=1000 then some (.ref L.length,L++[some (.lst ds)]) else none
theorem O1:RLA K (fun xs H1 Q=>xs.length<=sizeLine/\∀p,H1 p=none->Q (.ref p) (upd H1 p (.lst xs))) rL:=by
 intro W xs ds z Z6 Q ok r hf q;unfold rL at hf;split at hf
 ·rename_i hl;cases hf;exact⟨uR (by rw[←r.length];omega),fun p hp=>q _ (W.lay p (.lst xs)) rfl (sU ok hp) (se hp) (xr ok hp r)⟩
 ·cases hf
theorem Nd:RLA K (fun xs H1 Q=>xs.length<=sizeLine/\∀p,H1 p=none->Q (.ref p) (upd H1 p (.tup xs))) rZ:=by
 intro W xs ds z Z6 Q ok r hf q;unfold rZ at hf;split at hf
 ·rename_i hl;cases hf;exact⟨uR (by rw[←r.length];omega),fun p hp=>q _ (W.lay p (.tup xs)) rfl (sU ok hp) (se hp) (xo ok hp r)⟩
 ·cases hf
theorem N0:RLA K (fun xs H1 Q=>xs.length<=sizeLine/\∀p,H1 p=none->Q (.ref p) (upd H1 p (.lst xs))) ur:=by
 intro W xs ds z Z6 Q ok r hf q;unfold ur at hf;split at hf
 ·rename_i hl;cases hf;exact⟨uR (by rw[←r.length];omega),fun p hp=>q _ (W.new p (.lst xs) (.lst ds)) rfl (zG ok hp ⟨xs,rfl,r⟩) (u0 ok hp) (ze ok)⟩
 ·cases hf
theorem sC(h:PA X es (tDL K el)):PE X (.List es pos) (tD K (vL rL el)):=rf (Kq h) (A2 O1)
theorem z9(h:PA X es (tDL K el)):PE X (.List es pos) (tD K (vL ur el)):=rf (Kq h) (A2 N0)
theorem tp{k}(h:PA X es (tDL K el)):PE X (.Tuple es k pos) (tD K (vL rZ el)):=rf (Fx h) (A2 Nd)
def fIx(x y:D)(L:M):Fr:=match y with
 | .int i=>match rN L x with
  |some ds=>(atI ds i).bind fun d=>some (d,L)
  |none=>match vf x with
   |some ds=>(atI ds i).bind fun d=>some (d,L)
   |none=>none
 |_=>none
theorem TJ:R2A K (rIx K) fIx:=by
 intro W x y d e z Z6 Q ok r1 r2 hf q;unfold fIx at hf;split at hf
 ·cases r2;split at hf
  ·rename_i ds hd;refine qE hf fun u hu hf=>?_;cases hf;obtain⟨a,vs,rfl,hs,hv⟩:=uK ok hd r1;obtain⟨v,hv1,hv2⟩:=FO hv hu;exact(.inl ⟨a,vs,_,v,rfl,rfl,hs,hv1,q v W rfl ok .refl hv2⟩)
  ·split at hf
   ·rename_i ds hd;refine qE hf fun u hu hf=>?_;cases hf;obtain⟨a,vs,rfl,hs,hv⟩:=vB hd r1;obtain⟨v,hv1,hv2⟩:=FO hv hu;exact(.inr (.inl ⟨a,vs,_,v,rfl,rfl,hs,hv1,q v W rfl ok .refl hv2⟩))
   ·cases hf
 ·cases hf
theorem si(ha:PE X a (tD K ea))(hb:PE X b (tD K eb))(hs:LI b:=by exact fun _ _=>rfl)(hK:X.K=K:=by rfl):PE X (.Subscript a b pos) (tD K (v2 fIx ea eb)):=by
 subst hK;exact rf (UJ UP ha hb hs) (w5 TJ)
abbrev OV:=G->M->Option (Option Int×M)
def Az:OV:=fun _ L=>some (none,L)
def Di(ea:EV):OV:=fun O L=>(ea O L).bind fun p=>match p.1 with
 | .int i=>some (some i,p.2)
 |_=>none
def tDO(K:Frag)(ev:OV):TO:=fun B H Q=>∃(W:Wd) (O:G) (b:Option Int) (Z6:M),W.H=H/\Ok K W/\EnvR K W O B/\ev O W.L=some (b,Z6)/\∀W',W'.L=Z6->Ok K W'->Step W W'->Q b W'.H
theorem Ha{o:Option Expr}{t t':TO}(h:PO X o t)(hi:∀B H Q,t' B H Q->t B H Q):PO X o t':=fun pins s B H Q I hw=>h pins s B H Q I (hi _ _ _ hw)
theorem UB:PO X none (tDO K Az):=Ha TW fun B H Q h=>by
 refine el4 h fun W O b Z6 eH ok en e q=>?_;subst eH;cases e;exact q W rfl ok .refl
theorem WD(h:PE X e (tD K ea)):PO X (some e) (tDO K (Di ea)):=Ha (Op h) fun B H Q h=>by
 refine el4 h fun W O b Z6 eH ok en e q=>?_;subst eH;refine qE e fun p1 e1 e=>?_;refine⟨W,O,p1.1,p1.2,rfl,ok,en,e1,fun x W1 Z1 ok1 s1 r1=>?_⟩;split at e
 ·rename_i i hi;cases e;rw[hi] at r1;cases r1;exact⟨_,rfl,q W1 Z1 ok1 s1⟩
 ·cases e
def vy(xs:List D)(lo hi:Option Int):List D:=(xs.drop (HT.sIx xs.length 0 lo)).take (HT.sIx xs.length xs.length hi - HT.sIx xs.length 0 lo)
theorem GI{W:Wd}{ds:List D}{vs:List V}(r:DRs K W ds vs)(lo hi:Option Int):DRs K W (vy ds lo hi) (u8 vs lo hi):=by
 unfold vy u8;rw[r.length];exact(r.drop _).take _
def fSl(x:D)(lo hi:Option Int)(L:M):Fr:=match rN L x with
 |some ds=>some (.lst (vy ds lo hi),L)
 |none=>match vf x with
  |some ds=>if HT.sIx ds.length 0 lo=0/\HT.sIx ds.length ds.length hi=ds.length then none else some (.tup (vy ds lo hi),L)
  |none=>none
def vSl(ea:EV)(lo hi:OV):EV:=fun O L=>(ea O L).bind fun p=>(lo O p.2).bind fun l=>(hi O l.2).bind fun h=>fSl p.1 l.1 h.1 h.2
theorem Wg{lo hi:Option Expr}{ol oh:OV}{p2:Pos}(he:PE X e (tD K ea))(hl:PO X lo (tDO K ol))(hu:PO X hi (tDO K oh))(hK:X.K=K:=by rfl):PE X (.Subscript e (.Slice lo hi none p2) pos) (tD K (vSl ea ol oh)):=by
 subst hK;refine rf (Ny (sl_list.or QF) he hl hu) fun B H Q h=>?_;refine el4 h fun W O d Z6 eH ok en e q=>?_;subst eH;refine qE e fun p1 e1 e=>?_;refine qE e fun p2 e2 e=>?_;refine qE e fun p3 e3 e=>?_;refine⟨W,O,p1.1,p1.2,rfl,ok,en,e1,fun x W1 Z1 ok1 s1 r1=>⟨W1,O,p2.1,p2.2,rfl,ok1,en.step ok s1,by rw[Z1];exact e2,fun W2 ZV ok2 s2=>⟨W2,O,p3.1,p3.2,rfl,ok2,(en.step ok s1).step ok1 s2,by rw[ZV];exact e3,fun W3 ZS ok3 s3=>?_⟩⟩⟩;have r3:=(r1.step ok1 s2).step ok2 s3;have st:=(s1.trans s2).trans s3;unfold fSl at e;rw[←ZS] at e;split at e
 ·rename_i ds hd;cases e;obtain⟨a,vs,rfl,hs,hv⟩:=uK ok3 hd r3;exact(.inl ⟨a,vs,rfl,hs,fun p hp=>q _ (W3.lay p (.lst (u8 vs p2.1 p3.1))) rfl (sU ok3 hp) (st.trans (se hp)) (xr ok3 hp (GI hv _ _))⟩)
 ·split at e
  ·rename_i ds hd;split at e
   ·cases e
   ·rename_i hn;cases e;obtain⟨a,vs,rfl,hs,hv⟩:=vB hd r3;rw[hv.length] at hn;exact(.inr ⟨a,vs,rfl,hs,hn,fun p hp=>q _ (W3.lay p (.tup (u8 vs p2.1 p3.1))) rfl (sU ok3 hp) (st.trans (se hp)) (xo ok3 hp (GI hv _ _))⟩)
  ·cases e
def y3(x y:D)(L:M):Fr:=(vU L x).bind fun xs=>(vU L y).bind fun ys=>if xs.length+ys.length<=1000000 then some (.lst (xs++ys),L) else none
def IX(x y:D)(L:M):Fr:=(vU L x).bind fun xs=>match y with
 | .int k=>if -1000000<=k/\k<=1000000/\xs.length*k.toNat<=1000000 then some (.lst (List.replicate k.toNat xs).flatten,L) else none
 |_=>none
def rE(x:D)(L:M):Fr:=match rN L x with
 |some ds=>some (.int ds.length,L)
 |none=>match vf x with
  |some ds=>some (.int ds.length,L)
  |none=>none
theorem ul(ml:X.mg "len"=none) (ha:PE X a (tD K ea)) (hg:Gl X "len":=by rfl) (hs:starEach [a] X.env=[(false,eval a X.env)]:=by rfl) (hK:X.K=K:=by rfl):PE X (.Call (.Name "len" p) [a] [] pos) (tD K (v1 rE ea)):=rf (UF K ml ha hg hs hK) (uN (by
 intro W x d z Z6 Q ok r1 hf q;unfold rE at hf;split at hf
 ·rename_i ds hd;cases hf;obtain⟨a,vs,rfl,hs,hv⟩:=uK ok hd r1;exact⟨a,vs,rfl,.inl hs,by rw[←hv.length];exact q _ W rfl ok .refl (.int _)⟩
 ·split at hf
  ·rename_i ds hd;cases hf;obtain⟨a,vs,rfl,hs,hv⟩:=vB hd r1;exact⟨a,vs,rfl,.inr hs,by rw[←hv.length];exact q _ W rfl ok .refl (.int _)⟩
  ·cases hf))
def xu(L:M)(x:D):Option (List D):=match rN L x with
 |some ds=>some ds
 |none=>vf x
theorem Mj{W:Wd}{d:D}{ds:List D}{v:V}(ok:Ok K W)(h:xu W.L d=some ds)(r:DR K W d v):∃a vs,v=.ref a/\(SqL K W.H a vs\/SqT K W.H a vs)/\DRs K W ds vs:=by
 unfold xu at h;split at h
 ·rename_i ds' hd;cases h;obtain⟨a,vs,e,hs,hv⟩:=uK ok hd r;exact(⟨a,vs,e,.inl hs,hv⟩)
 ·obtain⟨a,vs,e,hs,hv⟩:=vB h r;exact⟨a,vs,e,.inr hs,hv⟩
def zl(x:D)(L:M):Fr:=(xu L x).bind fun ds=>some (.lst ds,L)
theorem UQ(ml:X.mg "list"=none) (ha:PE X a (tD K ea)) (hg:Gl X "list":=by rfl) (hs:starEach [a] X.env=[(false,eval a X.env)]:=by rfl) (hK:X.K=K:=by rfl):PE X (.Call (.Name "list" p) [a] [] pos) (tD K (v1 zl ea)):=rf (NF K ml ha hg hs hK) (uN (by
 intro W x d z Z6 Q ok r1 hf q;refine qE hf fun ds hd hf=>?_;cases hf;obtain⟨a,vs,rfl,hs,hv⟩:=Mj ok hd r1;exact⟨a,vs,rfl,hs,fun p hp=>q _ (W.lay p (.lst vs)) rfl (sU ok hp) (se hp) (xr ok hp hv)⟩))
abbrev xH:=fI0 fun i j=>.int (if j<i then j else i)
abbrev B7:=fI0 fun i j=>.int (if j>i then j else i)
theorem FZ{t:TE}{r:R2}{f:D->D->M->Fr}(ra:R2A K r f)(ht:∀B H Q,tOp r (tD K ea) (tD K eb) B H Q->t B H Q):∀B H Q,tD K (v2 f ea eb) B H Q->t B H Q:=fun B H Q h=>ht B H Q (w5 ra B H Q h)
theorem Jw{x y:V}{g:Int->Int->V}{Q:VK}{H:Hp}:(∃i j,[x,y]=[V.int i,V.int j]/\Q (g i j) H)=(∃i j,x=V.int i/\y=V.int j/\Q (g i j) H):=propext ⟨fun⟨i,j,e,q⟩=>by cases e;exact⟨i,j,rfl,rfl,q⟩,fun⟨i,j,e1,e2,q⟩=>by cases e1;cases e2;exact⟨i,j,rfl,q⟩⟩
theorem Mw(ml:X.mg "min"=none) (ha:PE X a (tD K ea)) (hb:PE X b (tD K eb)) (hc:X.calm=true:=by rfl) (hg:Gl X "min":=by rfl) (hs:starEach [a,b] X.env=[(false,eval a X.env),(false,eval b X.env)]:=by rfl) (hs2:starEach [b] X.env=[(false,eval b X.env)]:=by rfl):
  PE X (.Call (.Name "min" p) [a,b] [] pos) (tD K (v2 xH ea eb)):=rf (WA ml ha hb hc hg hs hs2) (FZ (wc fun _ _ _=>.int _) fun B H Q h=>by simp only[Jw (g:=fun i j=>V.int (if j<i then j else i))];exact h)
theorem OQ(ml:X.mg "max"=none) (ha:PE X a (tD K ea)) (hb:PE X b (tD K eb)) (hc:X.calm=true:=by rfl) (hg:Gl X "max":=by rfl) (hs:starEach [a,b] X.env=[(false,eval a X.env),(false,eval b X.env)]:=by rfl) (hs2:starEach [b] X.env=[(false,eval b X.env)]:=by rfl):
  PE X (.Call (.Name "max" p) [a,b] [] pos) (tD K (v2 B7 ea eb)):=rf (RE ml ha hb hc hg hs hs2) (FZ (wc fun _ _ _=>.int _) fun B H Q h=>by simp only[Jw (g:=fun i j=>V.int (if j>i then j else i))];exact h)
def zi:D->M->Fr
 | .bl k,L=>some (.int (if k then 1 else 0),L)
 |_,_=>none
theorem M3(ml:X.mg "int"=none) (ha:PE X a (tD K ea)) (hg:Gl X "int":=by rfl) (hs:starEach [a] X.env=[(false,eval a X.env)]:=by rfl):PE X (.Call (.Name "int" p) [a] [] pos) (tD K (v1 zi ea)):=rf (Uj ml ha hg hs) (uN (by
 intro W x d z Z6 Q ok r1 hf q;unfold zi at hf;split at hf
 ·cases hf;cases r1;exact⟨_,rfl,q _ W rfl ok .refl (.int _)⟩
 ·cases hf))
end
def py:Nat->M->D->Option PyData
 |0,_,_=>none
 |n+1,L,d=>match d with
  | .non=>some .none
  | .bl b=>some (.bool b)
  | .int i=>some (.int i)
  | .str x=>some (.str x)
  | .lst xs=>(optAll (py n L) xs).bind fun ys=>some (.list ys)
  | .scr xs=>(optAll (py n L) xs).bind fun ys=>some (.list ys)
  | .tup xs=>(optAll (py n L) xs).bind fun ys=>some (.tuple ys)
  | .gt xs=>(optAll (py n L) xs).bind fun ys=>some (.tuple ys)
  | .ref k=>match L[k]? with
   |some (some (.lst xs))=>(optAll (py n L) xs).bind fun ys=>some (.list ys)
   |_=>none
theorem wK{K:Frag}{W:Wd}{f:D->Option PyData}(h:∀d v pd,DR K W d v->f d=some pd->Dp K W.H v pd):∀{xs:List D} {vs:List V} {ys:List PyData},DRs K W xs vs->optAll f xs=some ys->Dps K W.H vs ys
 |_,_,_,.nil,e=>by cases e;exact .nil
 |_,_,_,.cons r t,e=>by
  refine qE e fun y e1 e=>?_;refine qE e fun ys e2 e=>?_;cases e;exact .cons (h _ _ _ r e1) (wK h t e2)
theorem vJ{K:Frag}{W:Wd}(ok:Ok K W):∀(n:Nat) (d:D) (v:V) (pd:PyData),DR K W d v->py n W.L d=some pd->Dp K W.H v pd
 |0,_,_,_,_,e=>by cases e
 |n+1,d,v,pd,r,e=>by
  cases d with
  |non=>cases e;cases r;exact .non
  |bl b=>cases e;cases r;exact .bl b
  |int i=>cases e;cases r;exact .int i
  |str x=>cases e;cases r;exact .str x
  |lst xs=>
   refine qE e fun ys e1 e=>?_;cases e;cases r with
   |lst h _ hs=>exact .lst (SqL.of h) (wK (vJ ok n) hs e1)
  |scr xs=>
   refine qE e fun ys e1 e=>?_;cases e;cases r with
   |scr h hs=>exact .lst h.seq (wK (vJ ok n) hs e1)
  |tup xs=>
   refine qE e fun ys e1 e=>?_;cases e;cases r with
   |tup h hs=>exact .tup (SqT.of h) (wK (vJ ok n) hs e1)
  |gt xs=>
   refine qE e fun ys e1 e=>?_;cases e;cases r with
   |gt h hs=>exact .tup h (wK (vJ ok n) hs e1)
  |ref k=>
   simp only[py] at e;split at e
   ·rename_i xs hk;refine qE e fun ys e1 e=>?_;cases e;obtain⟨a,vs,rfl,_,h,hs⟩:=w8 ok hk r;exact(.lst (SqL.of h) (wK (vJ ok n) hs e1))
   ·cases e
def eqD(x y:D)(L:M):Option Bool:=match x,y with
 | .int i,.int j=>some (decide (i=j))
 | .str a,.str b=>if PyData.strOk a&&PyData.strOk b then some (decide (a=b)) else none
 |x,y=>(py 65 L x).bind fun d=>(py 65 L y).bind fun e=>if(d.canLay0&&e.canLay0&&decide (d.depth<=64))=true then some (PyData.eqv d e) else none
def Ge{K:Frag}{W:Wd}{x y:D}{v u:V}{b:Bool}(ok:Ok K W)(rx:DR K W x v)(ry:DR K W y u)(h:eqD x y W.L=some b):∃d e,Dp K W.H v d/\Dp K W.H u e/\(d.canLay0&&e.canLay0&&decide (d.depth<=64))=true/\PyData.eqv d e=b:=by
 unfold eqD at h;split at h
 ·cases h;cases rx;cases ry;exact⟨_,_,.int _,.int _,by simp[PyData.canLay0,PyData.depth],by simp[PyData.eqv];rw[Yk];simp⟩
 ·split at h
  ·rename_i hs;cases h;cases rx;cases ry;refine⟨_,_,.str _,.str _,by simpa[PyData.canLay0,PyData.depth] using hs,by simp[PyData.eqv];rw[Yk];simp⟩
  ·cases h
 ·refine qE h fun d e1 h=>?_;refine qE h fun e e2 h=>?_;split at h
  ·rename_i hc;cases h;exact⟨d,e,vJ ok _ _ _ _ rx e1,vJ ok _ _ _ _ ry e2,hc,rfl⟩
  ·cases h
def fEq(x y:D)(L:M):Fr:=(eqD x y L).bind fun b=>some (.bl b,L)
def fNe(x y:D)(L:M):Fr:=(eqD x y L).bind fun b=>some (.bl (!b),L)
section
variable {X:Cx} {K:Frag} {a b c e:Expr} {ea eb:EV} {pos p:Pos} {es:List Expr} {el:LV} {k:Nat}
theorem HI:R2A K (fun x y H Q=>∃d e,Dp K H x d/\Dp K H y e/\(d.canLay0&&e.canLay0&&decide (d.depth<=64))=true/\Q (.bl (PyData.eqv d e)) H) fEq:=by
 intro W x y d e z Z6 Q ok r1 r2 hf q;refine qE hf fun b hb hf=>?_;cases hf;obtain⟨d',e',h1,h2,h3,h4⟩:=Ge ok r1 r2 hb;exact⟨d',e',h1,h2,h3,by rw[h4];exact q _ W rfl ok .refl (.bl _)⟩
theorem Ko:R2A K (fun x y H Q=>∃d e,Dp K H x d/\Dp K H y e/\(d.canLay0&&e.canLay0&&decide (d.depth<=64))=true/\Q (.bl (!PyData.eqv d e)) H) fNe:=by
 intro W x y d e z Z6 Q ok r1 r2 hf q;refine qE hf fun b hb hf=>?_;cases hf;obtain⟨d',e',h1,h2,h3,h4⟩:=Ge ok r1 r2 hb;exact⟨d',e',h1,h2,h3,by rw[h4];exact q _ W rfl ok .refl (.bl _)⟩
theorem wC(hr:Room k X.A)(ha:PE X a (tD K ea))(hb:PE X b (tD K eb))(hK:X.K=K:=by rfl):PE X (.Compare a [.Eq] [b] pos) (tD K (v2 fEq ea eb)):=by
 subst hK;exact Fl (JG hr.units) HI ha hb (wm _)
theorem Gi(hr:Room k X.A)(ha:PE X a (tD K ea))(hb:PE X b (tD K eb))(hK:X.K=K:=by rfl):PE X (.Compare a [.NotEq] [b] pos) (tD K (v2 fNe ea eb)):=by
 subst hK;exact Fl (L5 hr.units) Ko ha hb (wm _)
theorem uD(hr:Room k X.A)(ha:PE X a (tD K ea))(hb:PE X b (tD K eb))(hK:X.K=K:=by rfl):PT X (.Compare a [.Eq] [b] pos) (tDB K (vT (v2 fEq ea eb))):=by
 subst hK;exact yd (JG hr.units) HI ha hb (wm _)
theorem v7(hr:Room k X.A)(ha:PE X a (tD K ea))(hb:PE X b (tD K eb))(hK:X.K=K:=by rfl):PT X (.Compare a [.NotEq] [b] pos) (tDB K (vT (v2 fNe ea eb))):=by
 subst hK;exact yd (L5 hr.units) Ko ha hb (wm _)
def uL(x y:D)(L:M):Fr:=match y with
 | .non=>some (.bl (match x with| .non=>true|_=>false),L)
 |_=>none
def vM(x y:D)(L:M):Fr:=match y with
 | .non=>some (.bl (match x with| .non=>false|_=>true),L)
 |_=>none
theorem zz3:R2A K (fun x y H Q=>y=.non/\Q (.bl (decide (x=.non))) H) uL:=by
 intro W x y d e z Z6 Q ok r1 r2 hf q;unfold uL at hf;split at hf
 ·cases hf;cases r2;refine⟨rfl,?_⟩;have h:=q _ W rfl ok .refl (.bl _);cases r1<;>exact h
 ·cases hf
theorem Uo:R2A K (fun x y H Q=>y=.non/\Q (.bl (!decide (x=.non))) H) vM:=by
 intro W x y d e z Z6 Q ok r1 r2 hf q;unfold vM at hf;split at hf
 ·cases hf;cases r2;refine⟨rfl,?_⟩;have h:=q _ W rfl ok .refl (.bl _);cases r1<;>exact h
 ·cases hf
theorem Ar(ha:PE X a (tD K ea))(hb:PE X b (tD K eb)):PT X (.Compare a [.Is] [b] pos) (tDB K (vT (v2 uL ea eb))):=yd Qo zz3 ha hb (wm _)
theorem II(ha:PE X a (tD K ea))(hb:PE X b (tD K eb)):PT X (.Compare a [.IsNot] [b] pos) (tDB K (vT (v2 vM ea eb))):=yd WQ Uo ha hb (wm _)
def flV:D->Option V
 | .non=>some .non
 | .bl b=>some (.bl b)
 | .int i=>some (.int i)
 | .str x=>some (.str x)
 |_=>none
theorem JX{W:Wd}{d:D}{v u:V}(h:flV d=some u)(r:DR K W d v):v=u/\vd u=true:=by
 cases d<;>cases h<;>cases r<;>exact⟨rfl,rfl⟩
theorem Jn{W:Wd}:∀{ds:List D} {vs us:List V},optAll flV ds=some us->DRs K W ds vs->vs=us/\us.all vd=true
 |_,_,_,h,.nil=>by cases h;exact⟨rfl,rfl⟩
 |_,_,_,h,.cons r t=>by
  refine qE h fun u h1 h=>?_;refine qE h fun us h2 h=>?_;cases h;obtain⟨e1,f1⟩:=JX h1 r;obtain⟨e2,f2⟩:=Jn h2 t;exact(⟨by rw[e1,e2],by simp[f1,f2]⟩)
def fIn(neg:Bool)(x y:D)(L:M):Fr:=(flV x).bind fun v=>(xu L y).bind fun ds=>(optAll flV ds).bind fun us=>some (.bl (if neg then !inV v us else inV v us),L)
theorem UC{neg:Bool}:R2A K (rIn K neg) (fIn neg):=by
 intro W x y d e z Z6 Q ok r1 r2 hf q;refine qE hf fun v h1 hf=>?_;refine qE hf fun ds h2 hf=>?_;refine qE hf fun us h3 hf=>?_;cases hf;obtain⟨rfl,f1⟩:=JX h1 r1;obtain⟨a,vs,rfl,hs,hv⟩:=Mj ok h2 r2;obtain⟨rfl,f2⟩:=Jn h3 hv;exact(⟨a,_,rfl,hs,f1,f2,q _ W rfl ok .refl (.bl _)⟩)
theorem UH(ha:PE X a (tD K ea))(hb:PE X b (tD K eb))(hm:behindInMarks .NotIn b=false:=by rfl)(hK:X.K=K:=by rfl):PT X (.Compare a [.NotIn] [b] pos) (tDB K (vT (v2 (fIn true) ea eb))):=vG (Ue K ha hb hm hK) (Bi (w5 UC))
def tru(L:M):D->Option Bool
 | .non=>some false
 | .bl b=>some b
 | .int i=>some (i !=0)
 | .tup ds=>some (!ds.isEmpty)
 | .gt ds=>some (!ds.isEmpty)
 | .lst ds=>some (!ds.isEmpty)
 | .scr ds=>some (!ds.isEmpty)
 | .ref k=>match L[k]? with
  |some (some (.lst ds))=>some (!ds.isEmpty)
  |some (some (.dK kvs))=>some (!kvs.isEmpty)
  |_=>none
 | .str _=>none
theorem DRs.empty{W:Wd}{ds:List D}{vs:List V}(r:DRs K W ds vs):ds.isEmpty=vs.isEmpty:=by cases r<;>rfl
theorem Vq{W:Wd}{d:D}{v:V}{b:Bool}(ok:Ok K W)(h:tru W.L d=some b)(r:DR K W d v):B1 K v W.H b:=by
 cases d with
 |non=>cases h;cases r;rfl
 |bl k=>cases h;cases r;rfl
 |int i=>cases h;cases r;rfl
 |str x=>cases h
 |tup ds=>
  cases h;cases r with
  |tup h hs=>exact .inr (.inl ⟨_,SqT.of h,by rw[DRs.empty hs]⟩)
 |gt ds=>
  cases h;cases r with
  |gt h hs=>exact .inr (.inl ⟨_,h,by rw[DRs.empty hs]⟩)
 |lst ds=>
  cases h;cases r with
  |lst h _ hs=>exact .inl ⟨_,SqL.of h,by rw[DRs.empty hs]⟩
 |scr ds=>
  cases h;cases r with
  |scr h hs=>exact .inl ⟨_,h.seq,by rw[DRs.empty hs]⟩
 |ref k=>
  simp only[tru] at h;split at h
  ·rename_i ds hk;cases h;obtain⟨a,vs,rfl,_,hh,hs⟩:=w8 ok hk r;exact(.inl ⟨_,SqL.of hh,by rw[DRs.empty hs]⟩)
  ·rename_i kvs hk;cases h;cases r with
   |ref ha=>
    obtain⟨a',ho,h1,h2,vs,rfl,r⟩:=ok.at_ k _ hk;rw[ha] at h1;cases h1;exact .inr (.inr ⟨vs,h2,by cases r<;>rfl⟩)
  ·cases h
def rC(ea:EV):BV:=fun O L=>(ea O L).bind fun p=>(tru p.2 p.1).bind fun b=>some (b,p.2)
theorem sI(ha:PE X a (tD K ea))(he:∀whole,isTrue a X.env whole=(do let v ←whole;standAt a.pos;holding [v] (truthy v)):=by intro _;rfl)(hK:X.K=K:=by rfl):PT X a (tDB K (rC ea)):=by
 subst hK;refine vG (OC ha he) fun B H Q h=>?_;refine el4 h fun W O b Z6 eH ok en e q=>?_;subst eH;refine qE e fun p1 e1 e=>?_;refine qE e fun b1 e2 e=>?_;cases e;exact⟨W,O,p1.1,p1.2,rfl,ok,en,e1,fun x W1 Z1 ok1 s1 r1=>⟨b,Vq ok1 (by rw[Z1];exact e2) r1,q W1 Z1 ok1 s1⟩⟩
def tyD(L:M):D->Option String
 | .non=>some "NoneType"
 | .bl _=>some "bool"
 | .int _=>some "int"
 | .str _=>some "str"
 | .tup _=>some "tuple"
 | .gt _=>some "tuple"
 | .lst _=>some "list"
 | .scr _=>some "list"
 | .ref k=>match L[k]? with
  |some (some (.lst _))=>some "list"
  |some (some (.dK _))=>some "dict"
  |_=>none
theorem JP{W:Wd}{d:D}{v:V}{t:String}(ok:Ok K W)(h:tyD W.L d=some t)(r:DR K W d v):TyN K W.H v t:=by
 cases d with
 |non=>cases h;cases r;exact .non
 |bl k=>cases h;cases r;exact .bl _
 |int i=>cases h;cases r;exact .int _
 |str x=>cases h;cases r;exact .str _
 |tup ds=>
  cases h;cases r with
  |tup h hs=>exact .tup (SqT.of h)
 |gt ds=>
  cases h;cases r with
  |gt h hs=>exact .tup h
 |lst ds=>
  cases h;cases r with
  |lst h _ hs=>exact .lst (SqL.of h)
 |scr ds=>
  cases h;cases r with
  |scr h hs=>exact .lst h.seq
 |ref k=>
  simp only[tyD] at h;split at h
  ·rename_i ds hk;cases h;obtain⟨a,vs,rfl,_,hh,hs⟩:=w8 ok hk r;exact(.lst (SqL.of hh))
  ·rename_i kvs hk;cases h;cases r with
   |ref ha=>
    obtain⟨a',ho,h1,h2,vs,rfl,r⟩:=ok.at_ k _ hk;rw[ha] at h1;cases h1;exact(.dK h2)
  ·cases h
def sE(c:String)(x:D)(L:M):Fr:=(tyD L x).bind fun t=>some (.bl (uJ t c),L)
theorem wD(c:String)(ml:X.mg "isinstance"=none) (ha:PE X a (tD K ea)) (hb:PE X b (tC (.ty c))) (hc:clNames.contains c=true:=by decide) (hg:Gl X "isinstance":=by rfl) (hs:starEach [a,b] X.env=[(false,eval a X.env),(false,eval b X.env)]:=by rfl) (hs2:starEach [b] X.env=[(false,eval b X.env)]:=by rfl) (hK:X.K=K:=by rfl):
  PE X (.Call (.Name "isinstance" p) [a,b] [] pos) (tD K (v1 (sE c) ea)):=rf (NH K ml ha hb hg hs hs2 hK) (uN (by
 intro W x d z Z6 Q ok r1 hf q;refine qE hf fun t ht hf=>?_;cases hf;exact⟨x,t,c,rfl,JP ok ht r1,hc,q _ W rfl ok .refl (.bl _)⟩))
def vFrz(ea:EV):EV:=fun O L=>(ea O L).bind fun p=>match p.1 with
 | .ref k=>match p.2[k]? with
  |some (some (.lst ds))=>some (.lst ds,p.2.set k none)
  |_=>none
 |_=>none
def spM(K:Frag)(f:C0):Sp:=fun vs H Q _=>∃(W:Wd) (ds:List D) (d:D) (Z6:M),W.H=H/\Ok K W/\DRs K W ds vs/\f ds W.L=some (d,Z6)/\∀v W',W'.L=Z6->Ok K W'->Step W W'->DR K W' d v->Q v W'.H
theorem rH{x:Str}{ps:List Str}{f:C0}{e:Expr}(Df':Df X.prog X.w X.K X.mg X.base k x ps (spM K f))(hr:Room k X.A)(ha:PA X (e::es) (tDL K el))(hg:Gl X x:=by rfl)(hdb:(x==("__debug__":Str))=false:=by decide)
  (he:starEach (e::es) X.env=(false,eval e X.env)::starEach es X.env:=by rfl) (hpl:(backTo pos (starEach es X.env)).any (·.1)=false:=by rfl):PE X (.Call (.Name x p) (e::es) [] pos) (tD K (vL f el)):=rf (Hk Df' hr ha hg hdb he hpl) (A2 (by
 intro W xs ds z Z6 Q ok r hf q;exact⟨W,ds,z,Z6,rfl,ok,r,hf,q⟩))
def uj(f:D->D->M->Fr)(ea eb:EV):EV:=fun O L=>(ea O L).bind fun p=>(rN p.2 p.1).bind fun _=>(eb O p.2).bind fun q=>f p.1 q.1 q.2
theorem Um{W:Wd}{d:D}{ds:List D}{v:V}(ok:Ok K W)(h:rN W.L d=some ds)(r:DR K W d v):tyV K "list" v W.H:=by
 obtain⟨a,vs,rfl,hs,_⟩:=uK ok h r;exact(.inl ⟨rfl,vs,hs⟩)
def RMA(K:Frag)(r:V->List V->Hp->VK->Prop)(f:D->D->M->Fr):Prop:=∀(W:Wd) (x y:V) (d e z:D) (Z6:M) (Q:VK),Ok K W->DR K W d x->DR K W e y->f d e W.L=some (z,Z6)->
 (∀v W',W'.L=Z6->Ok K W'->Step W W'->DR K W' z v->Q v W'.H)->r x [y] W.H Q
theorem Cy{eo:EV}{r:V->List V->Hp->VK->Prop}{f:D->D->M->Fr}(ra:RMA K r f):∀B H Q,tD K (uj f eo ea) B H Q->tBM K "list" r (tD K eo) (tK (tD K ea) uE) B H Q:=fun B H Q h=>by
 refine el4 h fun W O d Z6 eH ok en e q=>?_;subst eH;refine qE e fun p1 e1 e=>?_;refine qE e fun ds e0 e=>?_;refine qE e fun p2 e2 e=>?_;refine⟨W,O,p1.1,p1.2,rfl,ok,en,e1,fun x W1 Z1 ok1 s1 r1=>⟨Um ok1 (by rw[Z1];exact e0) r1,W1,O,p2.1,p2.2,rfl,ok1,en.step ok s1,by rw[Z1];exact e2,fun y W2 ZV ok2 s2 r2=>?_⟩⟩;exact ra W2 x y _ _ _ _ Q ok2 (r1.step ok1 s2) r2 (by rw[ZV];exact e) fun v W3 ZS ok3 s3 r3=>q v W3 ZS ok3 ((s1.trans s2).trans s3) r3
def onL(x:D)(L:M)(g:List D->Option (D×List D)):Fr:=match x with
 | .ref k=>match L[k]? with
  |some (some (.lst ds))=>(g ds).bind fun r=>some (r.1,L.set k (some (.lst r.2)))
  |_=>none
 |_=>none
theorem DN{W:Wd}{x z:D}{v:V}{Z6:M}{g:List D->Option (D×List D)}(ok:Ok K W)(h:onL x W.L g=some (z,Z6))(r:DR K W x v):
  ∃k a ds vs ds',x=.ref k/\v=.ref a/\W.L[k]?=some (some (.lst ds))/\W.ρ[k]?=some a/\W.H a=some (.lst vs)/\DRs K W ds vs/\g ds=some (z,ds')/\Z6=W.L.set k (some (.lst ds')):=by
 unfold onL at h;split at h
 ·rename_i k;split at h
  ·rename_i ds hk;refine qE h fun p e1 e=>?_;cases e;obtain⟨a,vs,rfl,ha,hh,hs⟩:=w8 ok hk r;exact(⟨k,a,ds,vs,p.2,rfl,rfl,hk,ha,hh,hs,e1,rfl⟩)
  ·cases h
 ·cases h
theorem DY{W:Wd}{k:Nat}{a:Addr}{ds ds':List D}{vs vs':List V}(ok:Ok K W)(hk:W.L[k]?=some (some (.lst ds)))(ha:W.ρ[k]?=some a)(hs:DRs K W ds' vs'):
  Ok K (W.put k a (.lst vs') (.lst ds'))/\Step W (W.put k a (.lst vs') (.lst ds')):=⟨Bv ok hk ha ⟨vs',rfl,hs⟩,v3 hk ha⟩
def uu(x y:D)(L:M):Fr:=onL x L fun ds=>if ds.length<1000000 then some (.non,ds++[y]) else none
theorem EG{o:Expr}{eo:EV}{apos:Pos}(ho:PE X o (tD K eo))(ha:PE X a (tD K ea))(hs:starEach [a] X.env=[(false,eval a X.env)]:=by rfl)
  (hbase:attributeBase o "append" X.env (eval o X.env)=eval o X.env:=by rfl) (hline:(apos.endLine==pos.line)=true:=by rfl) (hK:X.K=K:=by rfl)
  (hfew:((backTo pos (starEach [a] X.env)).all (fun x=>!x.1)&&(backToKw pos (keywordEach [] X.env)).all (fun x=>x.1.isSome)
   &&decide ([a].length+([]:List Keyword).length+(if([]:List Keyword).isEmpty then 0 else 1)<30))=true:=by rfl):
  PE X (.Call (.Attribute o "append" apos) [a] [] pos) (tD K (uj uu eo ea)):=rf (OD K ho ha hs hbase hline hK hfew) (Cy (by
 intro W x y d e z Z6 Q ok r1 r2 hf q;obtain⟨k,a,ds,vs,ds',rfl,rfl,hk,ha,hh,hs,hg,rfl⟩:=DN ok hf r1;split at hg
 ·rename_i hl;cases hg;obtain⟨o1,s1⟩:=DY (vs:=vs) (vs':=vs++[y]) ok hk ha (hs.append (.cons r2 .nil));exact⟨a,vs,y,rfl,rfl,hh,zZ (by rw[←hs.length];omega),q _ _ rfl o1 s1 .non⟩
 ·cases hg))
def zz(x y:D)(L:M):Fr:=match y with
 | .int i=>onL x L fun ds=>if 0<=i/\i<1000000 then(ds[i.toNat]?).bind fun d=>some (d,ds.eraseIdx i.toNat) else none
 |_=>none
theorem Tf{o:Expr}{eo:EV}{apos:Pos}(ho:PE X o (tD K eo))(ha:PE X a (tD K ea))(hs:starEach [a] X.env=[(false,eval a X.env)]:=by rfl)
  (hbase:attributeBase o "pop" X.env (eval o X.env)=eval o X.env:=by rfl) (hline:(apos.endLine==pos.line)=true:=by rfl) (hK:X.K=K:=by rfl)
  (hfew:((backTo pos (starEach [a] X.env)).all (fun x=>!x.1)&&(backToKw pos (keywordEach [] X.env)).all (fun x=>x.1.isSome)
   &&decide ([a].length+([]:List Keyword).length+(if([]:List Keyword).isEmpty then 0 else 1)<30))=true:=by rfl):
  PE X (.Call (.Attribute o "pop" apos) [a] [] pos) (tD K (uj zz eo ea)):=rf (W8 K ho ha hs hbase hline hK hfew) (Cy (by
 intro W x y d e z Z6 Q ok r1 r2 hf q;unfold zz at hf;split at hf
 ·rename_i i;cases r2;obtain⟨k,a,ds,vs,ds',rfl,rfl,hk,ha,hh,hs,hg,rfl⟩:=DN ok hf r1;split at hg
  ·rename_i hl;refine qE hg fun d hd hg=>?_;cases hg;obtain⟨v,hv,r⟩:=hs.get hd;obtain⟨o1,s1⟩:=DY (vs:=vs) (vs':=vs.eraseIdx i.toNat) ok hk ha (hs.erase _);have hlt:=(Xe.mp hv).1;exact(⟨a,vs,i,i.toNat,v,rfl,rfl,hh,by omega,by omega,Uh hl.1 (by omega),hv,q _ _ rfl o1 s1 (r.step ok s1)⟩)
  ·cases hg
 ·cases hf))
end
open Classical in
def chk{α:Type}(c:Prop)(x:Option α):Option α:=if c then x else none
def Ez{α:Type}{c:Prop}{x:Option α}{a:α}(h:chk c x=some a):c/\x=some a:=by
 unfold chk at h;split at h
 ·exact⟨by assumption,h⟩
 ·cases h
def uI{α:Type}{c:Prop}{x:Option α}{a:α}{Z:Prop}(h:chk c x=some a)(k:c->x=some a->Z):Z:=k (Ez h).1 (Ez h).2
def t9{α:Type}{c:Prop}{x:Option α}(h:c):chk c x=x:=by unfold chk;rw[if_pos h]
abbrev GV:=D->G->M->Option (G×M)
abbrev GsV:=List D->G->M->Option (G×M)
def tDG(K:Frag)(gv:GV):TG:=fun v B H Q=>∃(W:Wd) (O:G) (d:D) (ZY:G) (Z6:M),W.H=H/\Ok K W/\EnvR K W O B/\DR K W d v/\gv d O W.L=some (ZY,Z6)/\∀W' Z0,W'.L=Z6->Ok K W'->Step W W'->EnvR K W' ZY Z0->Q Z0 W'.H
def Bz(K:Frag)(gv:GsV):TGs:=fun vs B H Q=>∃(W:Wd) (O:G) (ds:List D) (ZY:G) (Z6:M),W.H=H/\Ok K W/\EnvR K W O B/\DRs K W ds vs/\gv ds O W.L=some (ZY,Z6)/\∀W' Z0,W'.L=Z6->Ok K W'->Step W W'->EnvR K W' ZY Z0->Q Z0 W'.H
section
variable {X:Cx} {K:Frag} {pos:Pos}
theorem Dg{tg:Expr}{t t':TG}(h:PG X tg t)(hi:∀v B H Q,t' v B H Q->t v B H Q):PG X tg t':=fun pins s B H v u Q I r hw=>h pins s B H v u Q I r (hi _ _ _ _ hw)
theorem Ht{tg:List Expr}{t t':TGs}(h:PGs X tg t)(hi:∀v B H Q,t' v B H Q->t v B H Q):PGs X tg t':=fun pins s B H v u Q I r hw=>h pins s B H v u Q I r (hi _ _ _ _ hw)
theorem EnvR.set{W:Wd}{O:G}{B:St}(e:EnvR K W O B){d:D}{v:V}(r:DR K W d v)(i:Nat):EnvR K W (O.set i (some d)) (B.set i (some v)) where
 len:=by simp[e.len]
 at_ j d' h:=by
  by_cases hj:j=i
  ·subst hj;have hlt:j<O.length:=by have:=(Xe.mp h).1;simpa using this
   simp[hlt] at h;subst h;exact⟨v,by have:=e.len;simp[show j<B.length by omega],r⟩
  ·rw[XG (Ne.symm hj)] at h;obtain⟨u,hu,q⟩:=e.at_ j d' h;exact⟨u,by rw[XG (Ne.symm hj)];exact hu,q⟩
def qD(i:Nat):GV:=fun d O L=>some (O.set i (some d),L)
theorem RF{i:Nat}:∀v B H Q,tDG K (qD i) v B H Q->Ew i v B H Q:=fun v B H Q h=>by
 obtain⟨W,O,d,ZY,Z6,rfl,ok,en,r,e,q⟩:=h;cases e;exact(q W _ rfl ok .refl (en.set r i))
theorem qR{i:Nat}{x:Str}(hN:X.N.Nodup)(hi:X.N[i]?=some x)(hx:Loc X.env.scope x)(hf:X.fn x=true\/X.env.scope.names.lookup x=some .local:=by first|exact .inl rfl|exact .inr rfl|assumption):PG X (.Name x pos) (tDG K (qD i)):=Dg (US hN hi hx hf) RF
def sd:GsV:=fun ds O L=>match ds with
 | []=>some (O,L)
 |_::_=>none
def qQ(g:GV)(gs:GsV):GsV:=fun ds O L=>match ds with
 | []=>none
 |d::r=>(g d O L).bind fun p=>gs r p.1 p.2
theorem uk:PGs X [] (Bz K sd):=Ht N1 fun v B H Q h=>by
 obtain⟨W,O,d,ZY,Z6,rfl,ok,en,r,e,q⟩:=h;cases r with
 |nil=>cases e;exact⟨rfl,q W _ rfl ok .refl en⟩
 |cons _ _=>cases e
theorem rQ{e:Expr}{es:List Expr}{g:GV}{gs:GsV}(h1:PG X e (tDG K g))(h2:PGs X es (Bz K gs))
  (hs:(assignEach (e::es) X.env).map (·.2)=assign e X.env::(assignEach es X.env).map (·.2):=by rfl):PGs X (e::es) (Bz K (qQ g gs)):=Ht (QW h1 h2 hs) fun v B H Q h=>by
 obtain⟨W,O,d,ZY,Z6,rfl,ok,en,r,e,q⟩:=h;cases r with
 |nil=>cases e
 |cons r rs=>
  refine qE e fun p1 e1 e=>?_;exact⟨_,_,rfl,W,O,_,p1.1,p1.2,rfl,ok,en,r,e1,fun W1 ZJ Z1 ok1 s1 en1=>⟨W1,p1.1,_,ZY,Z6,rfl,ok1,en1,rs.step ok s1,by rw[Z1];exact e,fun W2 ZW ZV ok2 s2 en2=>q W2 ZW ZV ok2 (s1.trans s2) en2⟩⟩
def rM(n:Nat)(gs:GsV):GV:=fun d O L=>(vf d).bind fun ds=>if ds.length=n then gs ds O L else none
theorem uh{es:List Expr}{k:Nat}{gs:GsV}{n:Nat}(h:PGs X es (Bz K gs))(hc:X.calm=true:=by rfl)(hn:(assignEach es X.env).length=n:=by rfl)(hst:(assignEach es X.env).findIdx? (·.1)=none:=by rfl)(hK:X.K=K:=by rfl):PG X (.Tuple es k pos) (tDG K (rM n gs)):=Dg (gT K h hc hn hst hK) fun v B H Q hh=>by
 obtain⟨W,O,d,ZY,Z6,rfl,ok,en,r,e,q⟩:=hh;refine qE e fun ds e1 e=>?_;split at e
 ·rename_i hl;obtain⟨a,vs,rfl,hs,hv⟩:=vB e1 r;exact⟨a,vs,rfl,hs,by rw[←hv.length];exact hl,W,O,ds,ZY,Z6,rfl,ok,en,hv,e,q⟩
 ·cases e
def zc(eo ei:EV):GV:=fun d O L=>(eo O L).bind fun p=>(ei O p.2).bind fun q=>match q.1 with
 | .int j=>(onL p.1 q.2 fun ds=>(ixN ds.length j).bind fun jj=>some (.non,ds.set jj d)).bind fun r=>some (O,r.2)
 |_=>none
theorem Kt{o i:Expr}{eo ei:EV}(ho:PE X o (tD K eo))(hi:PE X i (tD K ei))(ha:∀v,assign (.Subscript o i pos) X.env v=(do
   let ov ←holding [v] (eval o X.env)
   let iv ←holding [v,ov] (eval i X.env)
   standAt pos
   holding [v,ov,iv] (setItem ov iv v)
   release [v,ov,iv] []):=by intro _;rfl):PG X (.Subscript o i pos) (tDG K (zc eo ei)):=Dg (Nq ho hi NX ha) fun v B H Q hh=>by
 obtain⟨W,O,d,ZY,Z6,rfl,ok,en,r,e,q⟩:=hh;refine qE e fun p1 e1 e=>?_;refine qE e fun p2 e2 e=>?_;refine⟨W,O,p1.1,p1.2,rfl,ok,en,e1,fun x W1 Z1 ok1 s1 r1=>⟨W1,O,p2.1,p2.2,rfl,ok1,en.step ok s1,by rw[Z1];exact e2,fun y W2 ZV ok2 s2 r2=>?_⟩⟩;split at e
 ·rename_i j hj;rw[hj] at r2;cases r2;obtain⟨⟨z3,ZN⟩,e3,e⟩:=bnd e;cases e;rw[←ZV] at e3;obtain⟨k,a,ds,vs,ds',h1,rfl,hk,ha,hh,hs,hg,h2⟩:=DN ok2 e3 (r1.step ok1 s2);refine qE hg fun jj hjj hg=>?_;cases hg;obtain⟨o1,st1⟩:=DY (vs:=vs) (vs':=vs.set jj v) ok2 hk ha (hs.set ((r.step ok s1).step ok1 s2) jj);exact⟨a,vs,j,jj,rfl,rfl,hh,by rw[←hs.length];exact hjj,q _ _ h2.symm o1 ((s1.trans s2).trans st1) (((en.step ok s1).step ok1 s2).step ok2 st1)⟩
 ·cases e
end
section
variable {X:Cx} {K:Frag} {pos:Pos} {e:Expr} {ea:EV} {st:Stmt} {qV:List Stmt} {sa sb:SV}
def sNx:SV:=fun O L=>some (.nx,O,L)
def qH(a b:SV):SV:=fun O L=>(a O L).bind fun o=>match o.1 with
 | .nx=>b o.2.1 o.2.2
 | .bk=>some (.bk,o.2)
 | .ct=>some (.ct,o.2)
 | .rt d=>some (.rt d,o.2)
theorem rK:PSs X [] (tDS K sNx):=zx Pq fun D B H h=>by
 refine el5 h fun W O o ZY Z6 eH ok en e q=>?_;subst eH;cases e;exact q W B rfl ok .refl en
theorem qM(h1:PS X st (tDS K sa)):PSs X [st] (tDS K sa):=Ky h1
theorem qK(h1:PS X st (tDS K sa))(h2:PSs X qV (tDS K sb)):PSs X (st::qV) (tDS K (qH sa sb)):=zx (IA h1 h2) fun D B H h=>by
 refine el5 h fun W O o ZY Z6 eH ok en e q=>?_;subst eH;obtain⟨⟨o1,ZZ,Z5⟩,e1,e⟩:=bnd e;refine(⟨W,O,o1,ZZ,Z5,rfl,ok,en,e1,fun W1 ZJ Z1 ok1 s1 en1=>?_⟩);cases o1 with
 |nx=>exact⟨W1,ZZ,o,ZY,Z6,rfl,ok1,en1,by rw[Z1];exact e,fun W2 ZW ZV ok2 s2 en2=>q W2 ZW ZV ok2 (s1.trans s2) en2⟩
 |bk=>cases e;exact q W1 ZJ Z1 ok1 s1 en1
 |ct=>cases e;exact q W1 ZJ Z1 ok1 s1 en1
 |rt d=>cases e;exact q W1 ZJ Z1 ok1 s1 en1
def t7(ea:EV):SV:=fun O L=>(ea O L).bind fun p=>some (.nx,O,p.2)
theorem wQ(he:PE X e (tD K ea))(hs:swapsWith e none pos.line X.env=pure false:=by rfl):PS X (.Expr e pos) (tDS K (t7 ea)):=sS (IG he hs) fun D B H h=>by
 refine el5 h fun W O o ZY Z6 eH ok en e q=>?_;subst eH;refine qE e fun p1 e1 e=>?_;cases e;exact⟨W,O,p1.1,p1.2,rfl,ok,en,e1,fun v W1 Z1 ok1 s1 r1=>q W1 B Z1 ok1 s1 (en.step ok s1)⟩
def qO(ea:EV):SV:=fun O L=>(ea O L).bind fun p=>some (.rt p.1,O,p.2)
theorem qU(he:PE X e (tD K ea)):PS X (.Return (some e) pos) (tDS K (qO ea)):=sS (Fy he) fun D B H h=>by
 refine el5 h fun W O o ZY Z6 eH ok en e q=>?_;subst eH;refine qE e fun p1 e1 e=>?_;cases e;exact⟨W,O,p1.1,p1.2,rfl,ok,en,e1,fun v W1 Z1 ok1 s1 r1=>q W1 B Z1 ok1 s1 (en.step ok s1) v r1⟩
def sIf(t:BV)(a b:SV):SV:=fun O L=>(t O L).bind fun p=>if p.1=true then a O p.2 else b O p.2
theorem rO{c:Expr}{a b:List Stmt}{bc:BV}(hc:PT X c (tDB K bc))(ha:PSs X a (tDS K sa))(hb:PSs X b (tDS K sb)):PS X (.If c a b pos) (tDS K (sIf bc sa sb)):=sS (HF hc ha hb) fun D B H h=>by
 refine el5 h fun W O o ZY Z6 eH ok en e q=>?_;subst eH;refine qE e fun p1 e1 e=>?_;refine⟨W,O,p1.1,p1.2,rfl,ok,en,e1,fun W1 Z1 ok1 s1=>?_⟩;split at e
 ·rename_i hp;rw[if_pos hp];exact⟨W1,O,o,ZY,Z6,rfl,ok1,en.step ok s1,by rw[Z1];exact e,fun W2 ZW ZV ok2 s2 en2=>q W2 ZW ZV ok2 (s1.trans s2) en2⟩
 ·rename_i hp;rw[if_neg hp];exact⟨W1,O,o,ZY,Z6,rfl,ok1,en.step ok s1,by rw[Z1];exact e,fun W2 ZW ZV ok2 s2 en2=>q W2 ZW ZV ok2 (s1.trans s2) en2⟩
def qS(ea:EV)(g:GV):SV:=fun O L=>(ea O L).bind fun p=>(g p.1 O p.2).bind fun q=>some (.nx,q.1,q.2)
theorem Vv{g:GV}:∀D B H,tDS K (qS ea g) D B H->Ef (tD K ea) (tDG K g) D B H:=fun D B H h=>by
 refine el5 h fun W O o ZY Z6 eH ok en e q=>?_;subst eH;refine qE e fun p1 e1 e=>?_;refine qE e fun p2 e2 e=>?_;cases e;exact⟨W,O,p1.1,p1.2,rfl,ok,en,e1,fun v W1 Z1 ok1 s1 r1=>⟨W1,O,p1.1,p2.1,p2.2,rfl,ok1,en.step ok s1,r1,by rw[Z1];exact e2,fun W2 ZW ZV ok2 s2 en2=>q W2 ZW ZV ok2 (s1.trans s2) en2⟩⟩
theorem yT{tg:Expr}{g:GV}(he:PE X e (tD K ea))(hg:PG X tg (tDG K g))(hs:swapsWithSole [tg] e pos.line X.env=pure false:=by rfl)(hw:swappedStores [tg] e X.env=pure none:=by rfl)
  (h1:(assignEach [tg] X.env).map (·.2)=[assign tg X.env]:=by rfl):PS X (.Assign [tg] e pos) (tDS K (qS ea g)):=sS (Nm he hg hs hw h1) Vv
theorem rG{i:Nat}{x:Str}{pos':Pos}(hN:X.N.Nodup)(hi:X.N[i]?=some x)(hx:Loc X.env.scope x)(he:PE X e (tD K ea))(hs:swapsWith e (some (.Name x pos')) pos.line X.env=pure false:=by rfl)(hf:X.fn x=true\/X.env.scope.names.lookup x=some .local:=by first|exact .inl rfl|exact .inr rfl|assumption):
  PS X (.Assign [.Name x pos'] e pos) (tDS K (qS ea (qD i))):=sS (J7 hN hi hx he hs hf) fun D B H h=>by
 refine el5 h fun W O o ZY Z6 eH ok en e q=>?_;subst eH;refine qE e fun p1 e1 e=>?_;cases e;exact⟨W,O,p1.1,p1.2,rfl,ok,en,e1,fun v W1 Z1 ok1 s1 r1=>q W1 _ Z1 ok1 s1 ((en.step ok s1).set r1 i)⟩
def xY(i:Nat)(f:D->D->M->Fr)(ea:EV):SV:=fun O L=>match O[i]? with
 |some (some x)=>(ea O L).bind fun p=>(f x p.1 p.2).bind fun q=>some (.nx,O.set i (some q.1),q.2)
 |_=>none
theorem VV{i:Nat}{x:Str}{op:Operator}{ti:TIp}{f:D->D->M->Fr}{pos':Pos}(hN:X.N.Nodup)(hi:X.N[i]?=some x)(hx:Loc X.env.scope x)(he:PE X e (tD K ea))(ho:PIp X op ti)(ra:R2A K ti f)(hf:X.fn x=true\/X.env.scope.names.lookup x=some .local:=by first|exact .inl rfl|exact .inr rfl|assumption):
  PS X (.AugAssign (.Name x pos') op e pos) (tDS K (xY i f ea)):=sS (Q8 hN hi hx he ho hf) fun D B H h=>by
 refine el5 h fun W O o ZY Z6 eH ok en e q=>?_;subst eH;unfold xY at e;split at e
 ·rename_i x0 hx0;refine qE e fun p1 e1 e=>?_;refine qE e fun p2 e2 e=>?_;cases e;obtain⟨v,hv,r⟩:=en.at_ i _ hx0;refine(⟨v,hv,W,O,p1.1,p1.2,rfl,ok,en,e1,fun y W1 Z1 ok1 s1 r1=>?_⟩);exact ra W1 v y _ _ _ _ _ ok1 (r.step ok s1) r1 (by rw[Z1];exact e2) fun z W2 ZV ok2 s2 r2=>q W2 _ ZV ok2 (s1.trans s2) (((en.step ok s1).step ok1 s2).set r2 i)
 ·cases e
theorem VG{g:Int->Int->Int}:R2A K (ipI g) (fI0 fun i j=>.int (g i j)):=by
 intro W x y d e z Z6 Q ok r1 r2 hf q;unfold fI0 at hf;split at hf
 ·cases hf;cases r1;cases r2;exact⟨_,_,rfl,rfl,q _ W rfl ok .refl (.int _)⟩
 ·cases hf
theorem Tm{i:Nat}{x:Str}{pos':Pos}(hN:X.N.Nodup)(hi:X.N[i]?=some x)(hx:Loc X.env.scope x)(he:PE X e (tD K ea))(hf:X.fn x=true\/X.env.scope.names.lookup x=some .local:=by first|exact .inl rfl|exact .inr rfl|assumption):
  PS X (.AugAssign (.Name x pos') .Add e pos) (tDS K (xY i CC ea)):=VV hN hi hx he QY VG hf
def wl(c:BV)(body:SV):Nat->SV
 |0,_,_=>none
 |n+1,O,L=>(c O L).bind fun p=>if p.1=true then(body O p.2).bind fun o=>match o.1 with
   | .nx=>wl c body n o.2.1 o.2.2
   | .ct=>wl c body n o.2.1 o.2.2
   | .bk=>some (.nx,o.2)
   | .rt d=>some (.rt d,o.2)
  else some (.nx,O,p.2)
theorem KL{c:Expr}{body:List Stmt}{bc:BV}(n:Nat)(hp:PassesOwn (model X.prog X.w) X.A X.env X.xe)(hc:PT X c (tDB K bc))(hb:PSs X body (tDS K sb)):PS X (.While c body [] pos) (tDS K (wl bc sb n)):=sS (T6 hp hc hb) fun D B H h=>by
 refine el5 h fun W O o ZY Z6 eH ok en e q=>?_;subst eH;refine⟨fun m ZJ H1=>∃W1 ZZ,W1.H=H1/\Ok K W1/\Step W W1/\EnvR K W1 ZZ ZJ/\wl bc sb m ZZ W1.L=some (o,ZY,Z6),⟨n,W,O,rfl,ok,.refl,en,e⟩,?_⟩;rintro m ZJ H1 ⟨W1,ZZ,rfl,ok1,s1,en1,e1⟩;cases m with
 |zero=>cases e1
 |succ m=>
  refine qE e1 fun p1 ec e1=>?_;refine⟨W1,ZZ,p1.1,p1.2,rfl,ok1,en1,ec,fun W2 ZV ok2 s2=>?_⟩;split at e1
  ·rename_i hp1;rw[if_pos hp1];obtain⟨⟨o3,Zj,ZN⟩,e3,e1⟩:=bnd e1;refine⟨_,fun Z0 H' h'=>⟨m,Nat.lt_succ_self m,h'⟩,W2,ZZ,o3,Zj,ZN,rfl,ok2,en1.step ok1 s2,by rw[ZV];exact e3,fun W3 ZI ZS ok3 s3 en3=>?_⟩;cases o3 with
   |nx=>exact⟨W3,Zj,rfl,ok3,(s1.trans s2).trans s3,en3,by rw[ZS];exact e1⟩
   |ct=>exact⟨W3,Zj,rfl,ok3,(s1.trans s2).trans s3,en3,by rw[ZS];exact e1⟩
   |bk=>cases e1;exact q W3 ZI ZS ok3 ((s1.trans s2).trans s3) en3
   |rt d=>cases e1;exact q W3 ZI ZS ok3 ((s1.trans s2).trans s3) en3
  ·rename_i hp1;cases e1;rw[if_neg hp1];exact q W2 ZJ ZV ok2 (s1.trans s2) (en1.step ok1 s2)
abbrev Ck:=Option (Nat×List D)
def qY:Ck->M->Prop
 |none,_=>True
 |some (k,raw),L=>L[k]?=some (some (.lst raw))
abbrev IV:=G->M->Option ((List D×Ck)×M)
def JR(K:Frag)(W:Wd)(J:It)(its:List D)(c:Ck):Prop:=qY c W.L/\∃ds vs,DRs K W ds vs/\∀(W2:Wd) (i:Nat),Ok K W2->qY c W2.L->DRs K W2 ds vs->
 (its.length<=i->J.stop i W2.H)/\∀d,its[i]?=some d->J.go i W2.H/\∀x H',J.yld i W2.H x H'->∃W3,W3.H=H'/\W3.L=W2.L/\Ok K W3/\Step W2 W3/\DR K W3 d x
def tDI(K:Frag)(iv:IV):TI:=fun B H R=>∃(W:Wd) (O:G) (its:List D) (c:Ck) (Z6:M),W.H=H/\Ok K W/\EnvR K W O B/\iv O W.L=some ((its,c),Z6)/\∀J W',W'.L=Z6->Ok K W'->Step W W'->JR K W' J its c->R J W'.H
theorem xC{tg iter:Expr}{t t':TI}(h:PI X tg iter t)(hi:∀B H R,t' B H R->t B H R):PI X tg iter t':=fun pins s B H R I hw=>h pins s B H R I (hi _ _ _ hw)
def lsC(L:M):D->Option (List D×Ck)
 | .lst ds=>some (ds,none)
 | .scr ds=>some (ds,none)
 | .ref k=>match L[k]? with
  |some (some (.lst ds))=>some (ds,some (k,ds))
  |_=>none
 |_=>none
theorem CK{W:Wd}{d:D}{ds:List D}{c:Ck}{v:V}(ok:Ok K W)(h:lsC W.L d=some (ds,c))(r:DR K W d v):
  qY c W.L/\∃a,v=.ref a/\∀W2,Ok K W2->qY c W2.L->DR K W2 d v->∃vs,SqL K W2.H a vs/\DRs K W2 ds vs:=by
 cases d with
 |lst xs=>
  cases h;cases r with
  |lst h n hs=>
   refine⟨trivial,_,rfl,fun W2 _ _ r2=>?_⟩;cases r2 with
   |lst h n hs=>exact⟨_,SqL.of h,hs⟩
 |scr xs=>
  cases h;cases r with
  |scr h hs=>
   refine⟨trivial,_,rfl,fun W2 _ _ r2=>?_⟩;cases r2 with
   |scr h hs=>exact⟨_,h.seq,hs⟩
 |ref k=>
  simp only[lsC] at h;split at h
  ·rename_i xs hk;cases h;refine⟨hk,?_⟩;cases r with
   |ref ha=>
    refine⟨_,rfl,fun W2 ok2 c2 r2=>?_⟩;obtain⟨a',vs,e,_,hh,hs⟩:=w8 ok2 c2 r2;cases e;exact(⟨vs,SqL.of hh,hs⟩)
  ·cases h
 |_=>cases h
def ivL(ea:EV):IV:=fun O L=>(ea O L).bind fun p=>(lsC p.2 p.1).bind fun s=>some (s,p.2)
theorem su{tg a:Expr}(ha:PE X a (tD K ea))(hK:X.K=K:=by rfl):PI X tg a (tDI K (ivL ea)):=xC (iL K ha hK) fun B H R h=>by
 refine el5 h fun W O its c Z6 eH ok en e q=>?_;subst eH;refine qE e fun p1 e1 e=>?_;refine qE e fun s e2 e=>?_;cases e;refine⟨W,O,p1.1,p1.2,rfl,ok,en,e1,fun v W1 Z1 ok1 s1 r1=>?_⟩;obtain⟨c0,a,rfl,hh⟩:=CK ok1 (by rw[Z1];exact e2) r1;obtain⟨vs0,h0,_⟩:=hh W1 ok1 c0 r1;refine(⟨a,rfl,⟨_,h0⟩,q (Itl K a) W1 Z1 ok1 s1 ⟨c0,[p1.1],[.ref a],.cons r1 .nil,fun W2 i ok2 c2 r2=>?_⟩⟩);cases r2 with
 |cons r2 _=>
  obtain⟨vs,hs,hv⟩:=hh W2 ok2 c2 r2;refine⟨fun hi=>⟨vs,hs,by rw[←hv.length];exact hi⟩,fun d hd=>?_⟩;obtain⟨v,hv1,hv2⟩:=hv.get hd;refine(⟨⟨vs,v,hs,hv1⟩,fun x H' y=>?_⟩);obtain⟨rfl,y⟩:=y;have:=y vs hs;rw[hv1] at this;cases this;exact⟨W2,rfl,rfl,ok2,.refl,hv2⟩
def ivT(ea:EV):IV:=fun O L=>(ea O L).bind fun p=>(vf p.1).bind fun ds=>some ((ds,none),p.2)
theorem Ak{tg a:Expr}(ha:PE X a (tD K ea))(hK:X.K=K:=by rfl):PI X tg a (tDI K (ivT ea)):=xC (iT K ha hK) fun B H R h=>by
 refine el5 h fun W O its c Z6 eH ok en e q=>?_;subst eH;refine qE e fun p1 e1 e=>?_;refine qE e fun s e2 e=>?_;cases e;refine⟨W,O,p1.1,p1.2,rfl,ok,en,e1,fun v W1 Z1 ok1 s1 r1=>?_⟩;obtain⟨a,vs0,rfl,h0,_⟩:=vB e2 r1;refine(⟨a,rfl,⟨_,h0⟩,q (Itt K a) W1 Z1 ok1 s1 ⟨trivial,[p1.1],[.ref a],.cons r1 .nil,fun W2 i ok2 c2 r2=>?_⟩⟩);cases r2 with
 |cons r2 _=>
  obtain⟨a',vs,e',hs,hv⟩:=vB e2 r2;cases e';refine⟨fun hi=>⟨vs,hs,by rw[←hv.length];exact hi⟩,fun d hd=>?_⟩;obtain⟨v,hv1,hv2⟩:=hv.get hd;refine(⟨⟨vs,v,hs,hv1⟩,fun x H' y=>?_⟩);obtain⟨rfl,y⟩:=y;have:=y vs hs;rw[hv1] at this;cases this;exact⟨W2,rfl,rfl,ok2,.refl,hv2⟩
def rm(lo:Int)(n:Nat):List D:=(List.range n).map fun k:Nat=>D.int (lo+k)
theorem Dx{W:Wd}{lo:Int}{n:Nat}:JR K W (Itr lo n) (rm lo n) none:=by
 refine⟨trivial,[],[],.nil,fun W2 i ok2 _ _=>⟨fun hi=>?_,fun d hd=>?_⟩⟩
 ·show n<=i;simpa[rm] using hi
 ·have hlt:=(Xe.mp hd).1;simp[rm] at hlt;simp[rm,hlt] at hd;subst hd;refine⟨hlt,fun x H' y=>?_⟩;obtain⟨rfl,rfl⟩:=y;exact(⟨W2,rfl,rfl,ok2,.refl,.int _⟩)
def ivR(ea:EV):IV:=fun O L=>(ea O L).bind fun p=>match p.1 with
 | .int j=>if -1000000000<=j/\j<=1000000000 then some ((rm 0 j.toNat,none),p.2) else none
 |_=>none
theorem we(mr:X.mg "range"=none) {tg a:Expr} {p:Pos} (ha:PE X a (tD K ea)) (hg:Gl X "range":=by rfl) (hs:starEach [a] X.env=[(false,eval a X.env)]:=by rfl):PI X tg (.Call (.Name "range" p) [a] [] pos) (tDI K (ivR ea)):=xC (iR mr ha hg hs) fun B H R h=>by
 refine el5 h fun W O its c Z6 eH ok en e q=>?_;subst eH;refine qE e fun p1 e1 e=>?_;split at e
 ·rename_i j hj;split at e
  ·rename_i hb;cases e;refine⟨W,O,p1.1,p1.2,rfl,ok,en,e1,fun v W1 Z1 ok1 s1 r1=>?_⟩;rw[hj] at r1;cases r1;exact⟨j,rfl,by omega,by omega,q _ W1 Z1 ok1 s1 Dx⟩
  ·cases e
 ·cases e
def wO(ea eb:EV):IV:=fun O L=>(ea O L).bind fun p=>(eb O p.2).bind fun r=>match p.1,r.1 with
 | .int i,.int j=>if(-1000000000<=i/\i<=1000000000)/\-1000000000<=j/\j<=1000000000 then some ((rm i (j - i).toNat,none),r.2) else none
 |_,_=>none
theorem GY(mr:X.mg "range"=none) {tg a b:Expr} {eb:EV} {p:Pos} (ha:PE X a (tD K ea)) (hb:PE X b (tD K eb)) (hg:Gl X "range":=by rfl) (hs:starEach [a,b] X.env=[(false,eval a X.env),(false,eval b X.env)]:=by rfl) (hs2:starEach [b] X.env=[(false,eval b X.env)]:=by rfl):
  PI X tg (.Call (.Name "range" p) [a,b] [] pos) (tDI K (wO ea eb)):=xC (iR2 mr ha hb hg hs hs2) fun B H R h=>by
 refine el5 h fun W O its c Z6 eH ok en e q=>?_;subst eH;refine qE e fun p1 e1 e=>?_;refine qE e fun p2 e2 e=>?_;split at e
 ·rename_i i j hi hj;split at e
  ·rename_i hb;cases e;refine⟨W,O,p1.1,p1.2,rfl,ok,en,e1,fun v W1 Z1 ok1 s1 r1=>⟨W1,O,p2.1,p2.2,rfl,ok1,en.step ok s1,by rw[Z1];exact e2,fun y W2 ZV ok2 s2 r2=>?_⟩⟩;rw[hi] at r1;rw[hj] at r2;cases r1;cases r2;exact⟨i,j,rfl,⟨by omega,by omega,by omega,by omega⟩,q _ W2 ZV ok2 (s1.trans s2) Dx⟩
  ·cases e
 ·cases e
def rT(c:Ck)(g:GV)(body:SV):List D->SV
 | [],O,L=>some (.nx,O,L)
 |d::r,O,L=>(g d O L).bind fun p=>(body p.1 p.2).bind fun o=>match o.1 with
  | .nx=>chk (qY c o.2.2) (rT c g body r o.2.1 o.2.2)
  | .ct=>chk (qY c o.2.2) (rT c g body r o.2.1 o.2.2)
  | .bk=>some (.nx,o.2)
  | .rt d=>some (.rt d,o.2)
def sJ(iv:IV)(g:GV)(body:SV):SV:=fun O L=>(iv O L).bind fun s=>rT s.1.2 g body s.1.1 O s.2
theorem tq{tg iter:Expr}{body:List Stmt}{iv:IV}{g:GV}(hp:PassesOwn (model X.prog X.w) X.A X.env X.xe)(hc:X.calm=true)(hi:PI X tg iter (tDI K iv))(hg:PG X tg (tDG K g))(hb:PSs X body (tDS K sb))
  (hs:∀x,foldedSetIterable iter X.env x=pure x:=by intro _;rfl):PS X (.For tg iter body [] pos) (tDS K (sJ iv g sb)):=sS (K2 hp hc hi hg hb hs) fun D B H h=>by
 refine el5 h fun W O o ZY Z6 eH ok en e q=>?_;subst eH;obtain⟨⟨⟨its,c⟩,Z5⟩,e1,e⟩:=bnd e;refine(⟨W,O,its,c,Z5,rfl,ok,en,e1,fun J W1 ZL ok1 s1 jr=>?_⟩);obtain⟨c1,ds,vs,r1,hj⟩:=jr;obtain⟨P,hP⟩:∃P:Nat->St->Hp->Prop,∀i ZW H2,P i ZW H2↔(i<=its.length/\∃W2 ZX,W2.H=H2/\Ok K W2/\Step W1 W2/\EnvR K W2 ZX ZW/\qY c W2.L/\rT c g sb (its.drop i) ZX W2.L=some (o,ZY,Z6)):=⟨_,fun _ _ _=>Iff.rfl⟩
 refine⟨fun i m ZW H2=>m=its.length - i/\P i ZW H2,⟨its.length,by simp,(hP _ _ _).2 ⟨X2 _,W1,O,rfl,ok1,.refl,en.step ok s1,c1,by rw[ZL];exact e⟩⟩,?_⟩;rintro i m ZW H2 ⟨rfl,hi⟩;refine bq fun hG=>?_;obtain⟨hi,W2,ZX,rfl,ok2,s2,en2,c2,e2⟩:=(hP _ _ _).1 hi;obtain⟨hstop,hgo⟩:=hj W2 i ok2 c2 (r1.step ok1 s2);by_cases hlt:i<its.length
 ·have hd:its[i]?=some its[i]:=Xk hlt;obtain⟨h1,h2⟩:=hgo _ hd;rw[XC hlt] at e2;refine qE e2 fun p e3 e2=>?_;obtain⟨⟨o4,Zt,Zs⟩,e4,e2⟩:=bnd e2;refine(hG (.inr ⟨h1,P (i+1),fun Z0 H' hN=>⟨its.length - (i+1),by omega,rfl,hN⟩,fun x H' hy=>?_⟩));refine bq fun hF=>?_;obtain⟨W3,rfl,ZS,ok3,s3,r3⟩:=h2 x H' hy;refine hF ⟨W3,ZX,its[i],p.1,p.2,rfl,ok3,en2.step ok2 s3,r3,by rw[ZS];exact e3,fun W4 ZQ ZD ok4 s4 en4=>⟨W4,p.1,o4,Zt,Zs,rfl,ok4,en4,by rw[ZD];exact e4,fun W5 Zq ZP ok5 s5 en5=>?_⟩⟩;have st:=s2.trans (s3.trans (s4.trans s5));cases o4 with
  |nx=>refine uI e2 fun hc5 e2=>?_;exact(hP _ _ _).2 ⟨hlt,W5,Zt,rfl,ok5,st,en5,by rw[ZP];exact hc5,by rw[ZP];exact e2⟩
  |ct=>refine uI e2 fun hc5 e2=>?_;exact(hP _ _ _).2 ⟨hlt,W5,Zt,rfl,ok5,st,en5,by rw[ZP];exact hc5,by rw[ZP];exact e2⟩
  |bk=>cases e2;exact q W5 Zq ZP ok5 (s1.trans st) en5
  |rt d=>cases e2;exact q W5 Zq ZP ok5 (s1.trans st) en5
 ·have e':i=its.length:=by omega
  subst e';rw[XY (Xc _)] at e2;cases e2;exact hG (.inl ⟨hstop (Xc _),q W2 ZW rfl ok2 (s1.trans s2) en2⟩)
end
structure StepB (p:Addr) (W W':Wd):Prop where
 ρ:∀(k:Nat) a,W.ρ[k]?=some a->W'.ρ[k]?=some a
 live:∀a,RL W' a->RL W a\/W.H a=none
 keep:∀a o,a≠p->W.H a=some o->¬RL W a->W'.H a=some o
 hid:W'.hid=W.hid
 still:∀a,W.H a≠none->W'.H a≠none
section
variable {K:Frag} {W W' W'':Wd} {p:Addr}
theorem Step.b(s:Step W W'):StepB p W W':=⟨s.ρ,s.live,fun a o _ h n=>s.keep a o h n,s.hid,s.still⟩
theorem StepB.nlive(s:StepB p W W'){a:Addr}{o:HO}(h:W.H a=some o)(n:¬RL W a):¬RL W' a:=fun z=>by
 rcases s.live a z with z|z
 ·exact n z
 ·rw[h] at z;cases z
theorem StepB.trans(s:StepB p W W')(t:StepB p W' W''):StepB p W W'' where
 ρ k a h:=t.ρ k a (s.ρ k a h)
 live a h:=by
  rcases t.live a h with z|z
  ·exact s.live a z
  ·exact .inr (Ym fun n=>s.still a n z)
 keep a o hp h n:=t.keep a o hp (s.keep a o hp h n) (s.nlive h n)
 hid:=t.hid.trans s.hid
 still a h:=t.still a (s.still a h)
mutual
theorem DR.stepB(ok:Ok K W)(hp:W.hid p)(hl:∃ys,W.H p=some (.lst ys))(s:StepB p W W'):∀{d:D} {v:V},DR K W d v->DR K W' d v
 |_,_,.non=>.non
 |_,_,.bl b=>.bl b
 |_,_,.int i=>.int i
 |_,_,.str x=>.str x
 |_,_,.ref h=>.ref (s.ρ _ _ h)
 |_,_,.lst r n h=>.lst (s.keep _ _ (fun z=>n (.inr (by rw[z];exact hp))) r (fun z=>n (.inl z))) (fun z=>z.elim (s.nlive r (fun z=>n (.inl z))) (fun z=>n (.inr (by rw[s.hid] at z;exact z)))) (DRs.stepB ok hp hl s h)
 |_,_,.scr r h=>.scr (by
   rcases r with⟨o,r⟩|r
   ·obtain⟨ys,hl⟩:=hl;exact .inl ⟨o,s.keep _ _ (fun z=>by rw[z,hl] at r;cases r) r (ok.nofrz r)⟩
   ·exact .inr r) (DRs.stepB ok hp hl s h)
 |_,_,.tup r h=>.tup (by
   obtain⟨ys,hl⟩:=hl;exact s.keep _ _ (fun z=>by rw[z,hl] at r;cases r) r (ok.notup (.inl r))) (DRs.stepB ok hp hl s h)
 |_,_,.gt r h=>.gt (by
   rcases r with r|r
   ·have n:=ok.notup r;obtain⟨ys,hl⟩:=hl;rcases r with r|⟨o,r⟩
    ·exact .inl (.inl (s.keep _ _ (fun z=>by rw[z,hl] at r;cases r) r n))
    ·exact .inl (.inr ⟨o,s.keep _ _ (fun z=>by rw[z,hl] at r;cases r) r n⟩)
   ·exact .inr r) (DRs.stepB ok hp hl s h)
theorem DRs.stepB(ok:Ok K W)(hp:W.hid p)(hl:∃ys,W.H p=some (.lst ys))(s:StepB p W W'):∀{ds:List D} {vs:List V},DRs K W ds vs->DRs K W' ds vs
 |_,_,.nil=>.nil
 |_,_,.cons h t=>.cons (h.stepB ok hp hl s) (DRs.stepB ok hp hl s t)
end
theorem OR.stepB(ok:Ok K W)(hp:W.hid p)(hl:∃ys,W.H p=some (.lst ys))(s:StepB p W W'){a:Addr}{o:Z8}{ho:HO}(h:OR K W a o ho):OR K W' a o ho:=by
 cases o with
 |lst ds=>obtain⟨vs,e,q⟩:=h;exact⟨vs,e,q.stepB ok hp hl s⟩
 |dK kvs=>obtain⟨vs,e,q⟩:=h;exact⟨vs,e,Paired.mapP q fun _ _ ⟨e,q⟩=>⟨e,q.stepB ok hp hl s⟩⟩
 |dN kvs=>obtain⟨vs,e,q⟩:=h;exact⟨vs,e,Paired.mapP q fun _ _ ⟨e,q⟩=>⟨e,q.stepB ok hp hl s⟩⟩
 |ins C fs=>obtain⟨vs,e,q⟩:=h;exact⟨vs,e,Paired.mapP q fun _ _ ⟨e,q⟩=>⟨e,q.stepB ok hp hl s⟩⟩
 |exc C=>exact h
theorem EnvR.stepB{O:G}{B:St}(e:EnvR K W O B)(ok:Ok K W)(hp:W.hid p)(hl:∃ys,W.H p=some (.lst ys))(s:StepB p W W'):EnvR K W' O B:=⟨e.len,fun i d h=>let ⟨v,a,b⟩:=e.at_ i d h;⟨v,a,b.stepB ok hp hl s⟩⟩
def Wd.re(W:Wd)(p:Addr)(o:HO):Wd:={W with H:=upd W.H p o}
theorem vz{o:HO}:StepB p W (W.re p o) where
 ρ _ _ h:=h
 live _ h:=.inl h
 keep a u hp e _:=by show upd W.H p o a=_;rw[qZ hp];exact e
 hid:=rfl
 still a n:=by
  show upd W.H p o a≠none;by_cases e:a=p
  ·subst e;rw[sf];simp
  ·rw[qZ e];exact n
theorem Iq(ok:Ok K W)(hp:W.hid p)(hl:∃ys,W.H p=some (.lst ys)){o:HO}:Ok K (W.re p o) where
 len:=ok.len
 nd:=ok.nd
 rs a m:=(vz (W:=W) (p:=p) (o:=o)).still a (ok.rs a m)
 at_ k u e:=by
  obtain⟨a,ho,h1,h2,h3⟩:=ok.at_ k u e;have hne:a≠p:=fun z=>(ok.hd p hp).2 (z▸⟨k,u,e,h1⟩);exact⟨a,ho,h1,by show upd W.H p o a=_;rw[qZ hne];exact h2,h3.stepB ok hp hl vz⟩
 hd0 a z:=⟨(vz (W:=W) (p:=p) (o:=o)).still a (ok.hd a z).1,(ok.hd0 a z).2⟩
mutual
theorem DR.hide(hp:W.H p=none)(ok:Ok K W){o:HO}:∀{d:D} {v:V},DR K W d v->DR K (W.hide p o) d v
 |_,_,.non=>.non
 |_,_,.bl b=>.bl b
 |_,_,.int i=>.int i
 |_,_,.str x=>.str x
 |_,_,.ref h=>.ref h
 |_,_,.lst r n h=>.lst (by show upd W.H p o _=_;rw[qZ (sV r hp)];exact r) (fun z=>z.elim (fun z=>n (.inl z)) (fun z=>z.elim (fun z=>by rw[z,hp] at r;cases r) (fun z=>n (.inr z)))) (DRs.hide hp ok h)
 |_,_,.scr r h=>.scr (MF ok (se hp) r) (DRs.hide hp ok h)
 |_,_,.tup r h=>.tup (by show upd W.H p o _=_;rw[qZ (sV r hp)];exact r) (DRs.hide hp ok h)
 |_,_,.gt r h=>.gt (KP ok (se hp) r) (DRs.hide hp ok h)
theorem DRs.hide(hp:W.H p=none)(ok:Ok K W){o:HO}:∀{ds:List D} {vs:List V},DRs K W ds vs->DRs K (W.hide p o) ds vs
 |_,_,.nil=>.nil
 |_,_,.cons h t=>.cons (h.hide hp ok) (DRs.hide hp ok t)
end
theorem OR.hide(hp:W.H p=none)(ok:Ok K W){o:HO}{a:Addr}{x:Z8}{ho:HO}(h:OR K W a x ho):OR K (W.hide p o) a x ho:=by
 cases x with
 |lst ds=>obtain⟨vs,e,q⟩:=h;exact⟨vs,e,q.hide hp ok⟩
 |dK kvs=>obtain⟨vs,e,q⟩:=h;exact⟨vs,e,Paired.mapP q fun _ _ ⟨e,q⟩=>⟨e,q.hide hp ok⟩⟩
 |dN kvs=>obtain⟨vs,e,q⟩:=h;exact⟨vs,e,Paired.mapP q fun _ _ ⟨e,q⟩=>⟨e,q.hide hp ok⟩⟩
 |ins C fs=>obtain⟨vs,e,q⟩:=h;exact⟨vs,e,Paired.mapP q fun _ _ ⟨e,q⟩=>⟨e,q.hide hp ok⟩⟩
 |exc C=>exact h
theorem EnvR.hide{O:G}{B:St}(e:EnvR K W O B)(hp:W.H p=none)(ok:Ok K W){o:HO}:EnvR K (W.hide p o) O B:=⟨e.len,fun i d h=>let ⟨v,a,b⟩:=e.at_ i d h;⟨v,a,b.hide hp ok⟩⟩
theorem Bb(ok:Ok K W)(hp:W.H p=none){o:HO}:Ok K (W.hide p o) where
 len:=ok.len
 nd:=ok.nd
 rs a m:=(se (o:=o) hp).still a (ok.rs a m)
 at_ k u e:=by
  obtain⟨a,ho,h1,h2,h3⟩:=ok.at_ k u e;exact⟨a,ho,h1,by show upd W.H p o a=_;rw[qZ (sV h2 hp)];exact h2,h3.hide hp ok⟩
 hd0 a z:=by
  rcases z with rfl|z
  ·exact⟨by show upd W.H a o a≠none;rw[sf];simp,fun m=>ok.rs a m hp⟩
  ·exact⟨(se (o:=o) hp).still a (ok.hd a z).1,(ok.hd0 a z).2⟩
def Wd.show(W:Wd)(h:Addr->Prop):Wd:={W with hid:=h}
mutual
theorem DR.show{h:Addr->Prop}(hs:∀a,h a->W.hid a):∀{d:D} {v:V},DR K W d v->DR K (W.show h) d v
 |_,_,.non=>.non
 |_,_,.bl b=>.bl b
 |_,_,.int i=>.int i
 |_,_,.str x=>.str x
 |_,_,.ref h=>.ref h
 |_,_,.lst r n h=>.lst r (fun z=>n (z.elim .inl (fun z=>.inr (hs _ z)))) (DRs.show hs h)
 |_,_,.scr r h=>.scr r (DRs.show hs h)
 |_,_,.tup r h=>.tup r (DRs.show hs h)
 |_,_,.gt r h=>.gt r (DRs.show hs h)
theorem DRs.show{h:Addr->Prop}(hs:∀a,h a->W.hid a):∀{ds:List D} {vs:List V},DRs K W ds vs->DRs K (W.show h) ds vs
 |_,_,.nil=>.nil
 |_,_,.cons h t=>.cons (h.show hs) (DRs.show hs t)
end
theorem Vc(ok:Ok K W){h:Addr->Prop}(hs:∀a,h a->W.hid a):Ok K (W.show h) where
 len:=ok.len
 nd:=ok.nd
 rs:=ok.rs
 at_ k u e:=by
  obtain⟨a,ho,h1,h2,h3⟩:=ok.at_ k u e;refine(⟨a,ho,h1,h2,?_⟩);cases u with
  |lst ds=>obtain⟨vs,e,q⟩:=h3;exact⟨vs,e,q.show hs⟩
  |dK kvs=>obtain⟨vs,e,q⟩:=h3;exact⟨vs,e,Paired.mapP q fun _ _ ⟨e,q⟩=>⟨e,q.show hs⟩⟩
  |dN kvs=>obtain⟨vs,e,q⟩:=h3;exact⟨vs,e,Paired.mapP q fun _ _ ⟨e,q⟩=>⟨e,q.show hs⟩⟩
  |ins C fs=>obtain⟨vs,e,q⟩:=h3;exact⟨vs,e,Paired.mapP q fun _ _ ⟨e,q⟩=>⟨e,q.show hs⟩⟩
  |exc C=>exact h3
 hd0 a z:=ok.hd0 a (hs a z)
theorem O3{o:HO}(hp:W.H p=none)(s:StepB p (W.hide p o) W'):Step W (W'.show W.hid) where
 ρ k a h:=s.ρ k a h
 live a z:=by
  rcases s.live a z with z|z
  ·exact .inl z
  ·have z:upd W.H p o a=none:=z;by_cases e:a=p
   ·subst e;rw[sf] at z;cases z
   ·rw[qZ e] at z;exact .inr z
 keep a u e n:=s.keep a u (sV e hp) (by show upd W.H p o a=_;rw[qZ (sV e hp)];exact e) n
 hid:=rfl
 still a n:=s.still a (by
  show upd W.H p o a≠none;by_cases e:a=p
  ·subst e;rw[sf];simp
  ·rw[qZ e];exact n)
theorem wX(ok:Ok K W)(hp:W.hid p):¬RL W p:=(ok.hd p hp).2
end
def rJ(own:List Str)(cap:List (Str×Nat))(O:G):G:=own.map (fun _=>none)++cap.map fun p=>(O[p.2]?).join
theorem EnvR.cap{K:Frag}{W:Wd}{O:G}{B:St}(e:EnvR K W O B)(own:List Str)(cap:List (Str×Nat)):EnvR K W (rJ own cap O) (sK own cap B) where
 len:=by simp[rJ,sK]
 at_ i d h:=by
  unfold rJ at h;unfold sK;by_cases hi:i<own.length
  ·rw[Xq (by simpa using hi)] at h;simp[hi] at h
  ·rw[XH (by simpa using hi)] at h⊢;simp only[Xj,Xw] at h⊢;cases hc:cap[i - own.length]? with
   |none=>rw[hc] at h;cases h
   |some p=>
    rw[hc] at h;simp only[Option.map_some] at h⊢;cases hg:O[p.2]? with
    |none=>rw[hg] at h;cases h
    |some x=>
     rw[hg] at h;cases x with
     |none=>cases h
     |some d'=>
      cases h;obtain⟨v,hv,r⟩:=e.at_ _ _ hg;exact⟨v,by rw[hv];rfl,r⟩
def rX(c:Ck)(g:GV)(tc:BV)(te:EV):List D->G->M->Option (List D×M)
 | [],_,L=>some ([],L)
 |d::r,O,L=>(g d O L).bind fun p=>(tc p.1 p.2).bind fun t=>if t.1=true then(te p.1 t.2).bind fun v=>chk (qY c v.2) ((rX c g tc te r p.1 v.2).bind fun q=>some (v.1::q.1,q.2)) else chk (qY c t.2) (rX c g tc te r p.1 t.2)
def qX:BV:=fun _ L=>some (true,L)
section
variable {X:Cx} {K:Frag} {N' own:List Str} {cap:List (Str×Nat)} {scope:Scope} {tg iter elt:Expr} {ifs:List Expr} {pos:Pos} {iv:IV} {g:GV} {tc:BV} {te:EV}
theorem MU{t t':TT}(h:PIf X ifs t)(hi:∀B H Q,t' B H Q->t B H Q):PIf X ifs t':=fun pins s B H Q I hw=>h pins s B H Q I (hi _ _ _ hw)
theorem tV:PIf X [] (tDB K qX):=MU Sl fun B H Q h=>by
 refine el4 h fun W O b Z6 eH ok en e q=>?_;subst eH;cases e;exact q W rfl ok .refl
theorem vo{c:Expr}(h:PT X c (tDB K tc)):PIf X [c] (tDB K tc):=QT h
theorem Kg{W1:Wd}{J:It}{its:List D}{c:Ck}{ZG:G}{ZO:St}{rs:List D}{Z6:M}{p:Addr}{Z:Hp->Prop}(ok1:Ok K W1)(hp:W1.H p=none)(jr:JR K W1 J its c)(en:EnvR K W1 ZG ZO)(hl:its.length<=1000000)
  (e:rX c g tc te its ZG W1.L=some (rs,Z6)) (hZ:∀W' ys,W'.L=Z6->Ok K W'->StepB p (W1.hide p (.lst [])) W'->W'.hid p->W'.H p=some (.lst ys)->DRs K W' rs ys->Z W'.H):
  yt J (tDG K g) (tDB K tc) (tD K te) p ZO W1.H Z:=by
 obtain⟨c1,ds,vs,r1,hj⟩:=jr;obtain⟨P,hP⟩:∃P:Nat->St->Hp->Prop,∀i ZW H2,P i ZW H2↔(i<=its.length/\∃W2 ZX done qV ys,W2.H=H2/\Ok K W2/\StepB p (W1.hide p (.lst [])) W2/\W2.hid p/\W2.H p=some (.lst ys)/\DRs K W2 done ys/\ys.length<=i/\EnvR K W2 ZX ZW/\qY c W2.L/\rX c g tc te (its.drop i) ZX W2.L=some (qV,Z6)/\done++qV=rs):=⟨_,fun _ _ _=>Iff.rfl⟩
 refine⟨fun i m ZW H2=>m=its.length - i/\P i ZW H2,?_,?_⟩
 ·exact⟨its.length,by simp,(hP _ _ _).2 ⟨X2 _,W1.hide p (.lst []),ZG,[],rs,[],rfl,Bb ok1 hp,⟨fun _ _ h=>h,fun _ h=>.inl h,fun _ _ _ h _=>h,rfl,fun _ h=>h⟩,.inl rfl,sf,.nil,Xc _,en.hide hp ok1,c1,e,rfl⟩⟩
 rintro i m ZW H2 ⟨rfl,hi⟩;refine bq fun hG=>?_;obtain⟨hi,W2,ZX,done,qV,ys,rfl,ok2,s2,hp2,hy2,rd,hyl,en2,c2,e2,ed⟩:=(hP _ _ _).1 hi;have rj:DRs K W2 ds vs:=(r1.hide hp ok1).stepB (Bb ok1 hp) (.inl rfl) ⟨[],sf⟩ s2;obtain⟨hstop,hgo⟩:=hj W2 i ok2 c2 rj;by_cases hlt:i<its.length
 ·have hd:its[i]?=some its[i]:=Xk hlt;obtain⟨h1,h2⟩:=hgo _ hd;rw[XC hlt] at e2;refine qE e2 fun pg e3 e2=>?_;refine qE e2 fun pt e4 e2=>?_;refine(hG (.inr ⟨h1,P (i+1),fun Z0 H' hN=>⟨its.length - (i+1),by omega,rfl,hN⟩,fun x H' hy=>?_⟩));refine bq fun hF=>?_;obtain⟨W3,rfl,ZS,ok3,s3,r3⟩:=h2 x H' hy;refine hF ⟨W3,ZX,its[i],pg.1,pg.2,rfl,ok3,en2.step ok2 s3,r3,by rw[ZS];exact e3,fun W4 ZQ ZD ok4 s4 en4=>⟨W4,pg.1,pt.1,pt.2,rfl,ok4,en4,by rw[ZD];exact e4,fun W5 ZP ok5 s5=>?_⟩⟩;have s25:=s3.trans (s4.trans s5);split at e2
  ·rename_i ht;refine qE e2 fun pv e5 e2=>?_;refine uI e2 fun c5 e2=>?_;refine qE e2 fun pq e6 e2=>?_;cases e2;refine wo (fun _=>?_) (fun n=>absurd ht n);refine⟨W5,pg.1,pv.1,pv.2,rfl,ok5,en4.step ok4 s5,by rw[ZP];exact e5,fun v W6 Zx ok6 s6 r6=>?_⟩;have s26:=s25.trans s6;have hp6:W6.hid p:=by rw[s26.hid];exact hp2
   have hy6:W6.H p=some (.lst ys):=s26.keep _ _ hy2 (wX ok2 hp2);have rd6:=rd.step ok2 s26;refine⟨ys,hy6,zZ (by omega),(hP _ _ _).2 ⟨hlt,W6.re p (.lst (ys++[v])),pg.1,done++[pv.1],pq.1,ys++[v],rfl,Iq ok6 hp6 ⟨_,hy6⟩,(s2.trans s26.b).trans vz,hp6,sf,?_,by simp;omega,(((en4.step ok4 s5).step ok5 s6).stepB ok6 hp6 ⟨_,hy6⟩ vz),by show qY c W6.L;rw[Zx];exact c5,by show rX c g tc te _ _ W6.L=_;rw[Zx];exact e6,by simpa using ed⟩⟩;exact(rd6.append (.cons r6 .nil)).stepB ok6 hp6 ⟨_,hy6⟩ vz
  ·rename_i ht;refine uI e2 fun c5 e2=>?_;refine wo (fun n=>absurd n ht) (fun _=>?_);exact(hP _ _ _).2 ⟨hlt,W5,pg.1,done,qV,ys,rfl,ok5,s2.trans s25.b,by rw[s25.hid];exact hp2,s25.keep _ _ hy2 (wX ok2 hp2),rd.step ok2 s25,by omega,en4.step ok4 s5,by rw[ZP];exact c5,by rw[ZP];exact e2,ed⟩
 ·have e':i=its.length:=by omega
  subst e';rw[XY (Xc _)] at e2;cases e2;rw[XT] at ed;subst ed;exact hG (.inl ⟨hstop (Xc _),hZ W2 ys rfl ok2 s2 hp2 hy2 rd⟩)
def rF(own:List Str)(cap:List (Str×Nat))(iv:IV)(g:GV)(tc:BV)(te:EV):EV:=fun O L=>(iv O L).bind fun s=>if s.1.1.length<=1000000 then(rX s.1.2 g tc te s.1.1 (rJ own cap O) s.2).bind fun q=>some (.lst q.1,q.2) else none
theorem Ev{W W1 W':Wd}{p:Addr}{rs:List D}{ys:List V}(s1:Step W W1)(hp:W1.H p=none)(ok1:Ok K W1)(ok':Ok K W')(s:StepB p (W1.hide p (.lst [])) W')(hp':W'.hid p)(hy:W'.H p=some (.lst ys))(r:DRs K W' rs ys):
  Ok K (W'.show W1.hid)/\Step W (W'.show W1.hid)/\DR K (W'.show W1.hid) (.lst rs) (.ref p):=by
 have hs:∀a,W1.hid a->W'.hid a:=fun a z=>by rw[s.hid];exact .inr z
 refine⟨Vc ok' hs,s1.trans (O3 hp s),.lst hy (fun z=>?_) (r.show hs)⟩;rcases z with z|z
 ·exact wX ok' hp' z
 ·exact K3 ok1 hp z
theorem Mx{W:Wd}{O:G}{B:St}{d:D}{Z6:M}(ok:Ok K W)(en:EnvR K W O B)(e:rF own cap iv g tc te O W.L=some (d,Z6)){Z:Addr->Hp->Prop}(q:∀v W',W'.L=Z6->Ok K W'->Step W W'->DR K W' d v->∀p,v=.ref p->Z p W'.H):
  tDI K iv B W.H fun J H1=>∀p,H1 p=none->yt J (tDG K g) (tDB K tc) (tD K te) p (sK own cap B) H1 (Z p):=by
 obtain⟨⟨⟨its,c⟩,Z5⟩,e1,e⟩:=bnd e;refine(⟨W,O,its,c,Z5,rfl,ok,en,e1,fun J W1 ZL ok1 s1 jr p hp=>?_⟩);split at e
 ·rename_i hl;obtain⟨⟨rs,Z3⟩,e2,e⟩:=bnd e;cases e;refine Kg ok1 hp jr ((en.step ok s1).cap own cap) hl (by rw[ZL];exact e2) fun W' ys Zm ok' s' hp' hy r=>?_;obtain⟨a1,a2,a3⟩:=Ev s1 hp ok1 ok' s' hp' hy r;exact(q _ (W'.show W1.hid) Zm a1 a2 a3 p rfl)
 ·cases e
theorem tF(S:CompScope X N' own cap scope)(hi:PI X tg iter (tDI K iv))
  (hg:∀cl C Z4 Z2 ex,PG (qN X N' scope cl C Z4 Z2 ex) tg (tDG K g)) (ht:∀cl C Z4 Z2 ex,PIf (qN X N' scope cl C Z4 Z2 ex) ifs (tDB K tc)) (he:∀cl C Z4 Z2 ex,PE (qN X N' scope cl C Z4 Z2 ex) elt (tD K te))
  (hx:∀e s,X.xe e s->False:=by exact fun _ _ z=>z) (hc:X.calm=true:=by rfl) (hs:∀x,foldedSetIterable iter X.env x=pure x:=by intro _;rfl):
  PE X (.ListComp elt [⟨tg,iter,ifs,0⟩] scope pos) (tD K (rF own cap iv g tc te)):=rf (SZ S hi hg ht he hx hc hs) fun B H Q h=>by
 refine el4 h fun W O d Z6 eH ok en e q=>?_;subst eH;exact Mx ok en e fun v W' h1 h2 h3 h4 p hv=>by subst hv;exact q _ W' h1 h2 h3 h4
theorem GH{i:Nat}{y:Str}{py spos:Pos}(hN:X.N.Nodup)(hi':X.N[i]?=some y)(hy:X.env.scope.names.lookup y=some .local)(S:CompScope X N' own cap scope)(hi:PI X tg iter (tDI K iv))
  (hg:∀cl C Z4 Z2 ex,PG (qN X N' scope cl C Z4 Z2 ex) tg (tDG K g)) (ht:∀cl C Z4 Z2 ex,PIf (qN X N' scope cl C Z4 Z2 ex) ifs (tDB K tc)) (he:∀cl C Z4 Z2 ex,PE (qN X N' scope cl C Z4 Z2 ex) elt (tD K te))
  (hsw:swapsWith (.ListComp elt [⟨tg,iter,ifs,0⟩] scope pos) (some (.Name y py)) spos.line X.env=pure true:=by rfl)
  (hx:∀e s,X.xe e s->False:=by exact fun _ _ z=>z) (hc:X.calm=true:=by rfl) (hs:∀x,foldedSetIterable iter X.env x=pure x:=by intro _;rfl):
  PS X (.Assign [.Name y py] (.ListComp elt [⟨tg,iter,ifs,0⟩] scope pos) spos) (tDS K (qS (rF own cap iv g tc te) (qD i))):=sS (MS hN hi' hy S hi hg ht he hsw hx hc hs) fun D B H h=>by
 refine el5 h fun W O o ZY Z6 eH ok en e q=>?_;subst eH;refine qE e fun p1 e1 e=>?_;cases e;exact Mx (Z:=fun p H2=>D.nx (B.set i (some (.ref p))) H2) ok en e1 fun v W' h1 h2 h3 h4 p hv=>by subst hv;exact q W' _ h1 h2 h3 ((en.step ok h3).set h4 i)
end
open PyProof.Rows (envOfC)
def rD(n m:Nat)(es:SV):C0:=fun ds L=>if ds.length=m then(es (ds.map some++List.replicate (n - ds.length) none) L).bind fun o=>match o.1 with
  | .rt d=>some (d,o.2.2)
  | .nx=>some (.non,o.2.2)
  |_=>none
 else none
section
variable {P:Program} {w:World} {K:Frag} {mg:Str->Option Value} {base:Heap}
theorem My{W:Wd}{ds:List D}{vs:List V}{n:Nat}(r:DRs K W ds vs):EnvR K W (ds.map some++List.replicate (n - ds.length) none) (vs.map some++List.replicate (n - vs.length) none) where
 len:=by simp[r.length]
 at_ i d h:=by
  by_cases hi:i<ds.length
  ·rw[Xq (by simpa using hi)] at h;rw[Xq (by simpa using r.length▸hi)];simp only[Xw] at h⊢;cases hd:ds[i]? with
   |none=>rw[hd] at h;cases h
   |some d'=>
    rw[hd] at h;cases h;obtain⟨v,hv,q⟩:=r.get hd;exact⟨v,by rw[hv];rfl,q⟩
  ·rw[XH (by simpa using hi)] at h;simp[List.getElem?_replicate] at h
theorem rY{x qual:Str}{st:Stmt}{f:Addr}{fd:FuncData}{N ps:List Str}{k:Nat}{es:SV}(F:Fun K x qual st f fd)(S:FnScope N ps (qJ st))
  (hb:∀(cdv:Value) (A:Around) (outer:List Env) (s:Shared) (H:Hp) (E:XK),Room k (A.deeper (envOfC qual (qJ st) s.heap.objs.size f cdv))->PSs (rA CX0 P w K mg base N qual (qJ st) f cdv A outer s H E).nox (rl st) (tDS K es)):
  FnOk P w K mg base CX0 (k+1) f fd ps (spM K (rD N.length ps.length es)):=by
 refine F.ok S (fun vs H Q E h=>?_) (fun cdv A outer s H vs Q E hr h=>?_)
 ·obtain⟨W,ds,d,Z6,_,_,r,e,_⟩:=h;unfold rD at e;split at e
  ·rename_i hl;rw[←r.length];exact hl
  ·cases e
 ·obtain⟨W,ds,d,Z6,rfl,ok,r,e,q⟩:=h;refine⟨_,hb cdv A outer s W.H E hr,?_⟩;unfold rD at e;split at e
  ·obtain⟨⟨o,ZY,Z3⟩,e1,e⟩:=bnd e;refine⟨W,_,o,ZY,Z3,rfl,ok,My r,e1,fun W' Z0 Z1 ok' s' en'=>?_⟩;cases o with
   |rt z=>cases e;exact fun v rv=>q v W' Z1 ok' s' rv
   |nx=>cases e;exact q _ W' Z1 ok' s' .non
   |bk=>cases e
   |ct=>cases e
  ·cases e
end
section
variable {X:Cx} {K:Frag} {a b c e:Expr} {ea eb ec:EV} {pos p:Pos}
theorem R2A.or{r r':R2}{f g h:D->D->M->Fr}(ra:R2A K r f)(rb:R2A K r' g)(hh:∀x y L z,h x y L=some z->f x y L=some z\/g x y L=some z):R2A K (fun x y H Q=>r x y H Q\/r' x y H Q) h:=by
 intro W x y d e z Z6 Q ok r1 r2 hf q;rcases hh _ _ _ _ hf with hf|hf
 ·exact .inl (ra W x y d e z Z6 Q ok r1 r2 hf q)
 ·exact .inr (rb W x y d e z Z6 Q ok r1 r2 hf q)
theorem ra_cat:R2A K JL y3:=by
 intro W x y d e z Z6 Q ok r1 r2 hf q;refine qE hf fun xs hx hf=>?_;refine qE hf fun ys hy hf=>?_;split at hf
 ·rename_i hl;cases hf;obtain⟨a,vs,rfl,ha,hv⟩:=Bw ok hx r1;obtain⟨b,us,rfl,hb,hu⟩:=Bw ok hy r2;exact⟨a,b,vs,us,rfl,rfl,ha,hb,uR (by rw[←hv.length,←hu.length];omega),fun p hp=>q _ (W.lay p (.lst (vs++us))) rfl (sU ok hp) (se hp) (xr ok hp (hv.append hu))⟩
 ·cases hf
theorem QP:R2A K Fu IX:=by
 intro W x y d e z Z6 Q ok r1 r2 hf q;refine qE hf fun xs hx hf=>?_;split at hf
 ·split at hf
  ·rename_i hl;cases hf;cases r2;obtain⟨a,vs,rfl,ha,hv⟩:=Bw ok hx r1;exact⟨a,_,vs,rfl,rfl,ha,by omega,by omega,uR (by rw[←hv.length];omega),fun p hp=>q _ (W.lay p _) rfl (sU ok hp) (se hp) (xr ok hp (hv.rep _))⟩
  ·cases hf
 ·cases hf
def BP(x y:D)(L:M):Fr:=match x with
 | .tup xs=>(vf y).bind fun ys=>if xs≠[]/\xs.length+ys.length<=1000000 then some (.tup (xs++ys),L) else none
 |_=>none
noncomputable instance{α:Type}{xs:List α}:Decidable (xs≠[]):=by cases xs<;>simp<;>infer_instance
theorem zut:R2A K (LJ K) BP:=by
 intro W x y d e z Z6 Q ok r1 r2 hf q;unfold BP at hf;split at hf
 ·rename_i xs;refine qE hf fun ys hy hf=>?_;split at hf
  case isFalse=>cases hf
  rename_i hl;cases hf;have rr:=r1;obtain⟨a,vs,rfl,ha,hv⟩:=vB (ds:=xs) rfl r1;obtain⟨b,us,rfl,hb,hu⟩:=vB hy r2;refine⟨a,b,vs,us,rfl,rfl,ha,hb,fun z=>?_,uR (by rw[←hv.length,←hu.length];omega),fun z=>?_,fun _ p hp=>q _ (W.lay p (.tup (vs++us))) rfl (sU ok hp) (se hp) (xo ok hp (hv.append hu))⟩
  ·have:=hv.length;rw[z] at this;exact hl.1 (Yd.mp this)
  ·have h0:=hu.length;rw[z] at h0;have h1:=Yd.mp h0;subst h1;refine q _ W rfl ok .refl ?_;rw[XT];exact rr
 ·cases hf
def rS(x y:D)(L:M):Fr:=match x with
 | .int i=>match y with
  | .int j=>some (.int (i+j),L)
  |_=>none
 | .tup _=>BP x y L
 |_=>y3 x y L
theorem tw(ha:PE X a (tD K ea))(hb:PE X b (tD K eb))(hK:X.K=K:=by rfl):PE X (.BinOp a .Add b pos) (tD K (v2 rS ea eb)):=by
 subst hK;refine xf (op_add.or (op_cat.or QA)) ((wc (h:=fun i j=>.int (i+j)) fun _ _ _=>.int _).or (ra_cat.or zut (h:=fun x y L=>match x with| .tup _=>BP x y L|_=>y3 x y L) fun x y L z h=>?_) fun x y L z h=>?_) ha hb
 ·split at h
  ·exact .inr h
  ·exact .inl h
 ·unfold rS at h;split at h
  ·split at h
   ·exact .inl h
   ·cases h
  ·exact .inr h
  ·rename_i h1 h2;refine .inr ?_;split
   ·exact absurd rfl (h2 _)
   ·exact h
def tZ(x y:D)(L:M):Fr:=match x with
 | .int i=>match y with
  | .int j=>if CMul i j then some (.int (i*j),L) else none
  |_=>none
 |_=>IX x y L
theorem yz(ha:PE X a (tD K ea))(hb:PE X b (tD K eb)):PE X (.BinOp a .Mult b pos) (tD K (v2 tZ ea eb)):=by
 refine xf (op_mul.or Wl) ((AH (C:=CMul) (h:=fun i j=>.int (i*j)) fun _ _ _=>.int _).or QP fun x y L z h=>?_) ha hb;unfold tZ at h;split at h
 ·split at h
  ·exact .inl h
  ·cases h
 ·exact .inr h
def uS(f g:D->D->M->Fr)(ea eb ec:EV):EV:=fun O L=>(ea O L).bind fun p=>(eb O p.2).bind fun q=>(f p.1 q.1 q.2).bind fun t=>match t.1 with
 | .bl true=>(ec O t.2).bind fun r=>g q.1 r.1 r.2
 | .bl false=>some (.bl false,t.2)
 |_=>none
theorem Q2{r r':R2}{f g:D->D->M->Fr}(ra:R2A K r f)(rb:R2A K r' g):∀B H Q,tD K (uS f g ea eb ec) B H Q->Lh r r' (tD K ea) (tD K eb) (tD K ec) B H Q:=fun B H Q h=>by
 refine el4 h fun W O d Z6 eH ok en e q=>?_;subst eH;refine qE e fun p1 e1 e=>?_;refine qE e fun p2 e2 e=>?_;refine qE e fun p3 e3 e=>?_;refine⟨W,O,p1.1,p1.2,rfl,ok,en,e1,fun x W1 Z1 ok1 s1 r1=>⟨W1,O,p2.1,p2.2,rfl,ok1,en.step ok s1,by rw[Z1];exact e2,fun y W2 ZV ok2 s2 r2=>?_⟩⟩;refine ra W2 x y _ _ _ _ _ ok2 (r1.step ok1 s2) r2 (by rw[ZV];exact e3) fun v W3 ZS ok3 s3 r3=>?_;split at e
 ·rename_i hp;rw[hp] at r3;cases r3;refine qE e fun p4 e4 e=>?_;refine⟨true,rfl,Ej ⟨W3,O,p4.1,p4.2,rfl,ok3,((en.step ok s1).step ok1 s2).step ok2 s3,by rw[ZS];exact e4,fun z W4 ZD ok4 s4 r4=>?_⟩⟩;exact rb W4 y z _ _ _ _ _ ok4 ((r2.step ok2 s3).step ok3 s4) r4 (by rw[ZD];exact e) fun v5 W5 ZP ok5 s5 r5=>q v5 W5 ZP ok5 (s1.trans (s2.trans (s3.trans (s4.trans s5)))) r5
 ·rename_i hp;rw[hp] at r3;cases r3;cases e;exact⟨false,rfl,Dc (q _ W3 ZS ok3 (s1.trans (s2.trans s3)) (.bl _))⟩
 ·cases e
theorem KH{op op':CmpOp}{r r':R2}{f g:D->D->M->Fr}(ho:OpR X (compareOp op) r)(ra:R2A K r f)(ho':OpR X (compareOp op') r')(rb:R2A K r' g)(ha:PE X a (tD K ea))(hb:PE X b (tD K eb))(hc:PE X c (tD K ec))
  (hm:lastMarks [op,op'] [b,c]=false:=by with_unfolding_all rfl):PT X (.Compare a [op,op'] [b,c] pos) (tDB K (vT (uS f g ea eb ec))):=vG (U7 ho ho' ha hb hc hm) (Bi (Q2 ra rb))
theorem K5:R2A K (rI0 fun i j=>.bl (decide (i<j))) fLt:=wc fun _ _ _=>.bl _
theorem Kd:R2A K (rI0 fun i j=>.bl (decide (i<=j))) fLe:=wc fun _ _ _=>.bl _
end
section
variable {X:Cx} {K:Frag} {ea:EV} {pos p:Pos}
def wk(ds:List D):List D:=ds.zipIdx.map fun x=>D.tup [.int (x.2:Nat),x.1]
theorem Qk{ds:List D}{i:Nat}{d:D}(h:(wk ds)[i]?=some d):∃x,ds[i]?=some x/\d=.tup [.int (i:Nat),x]:=by
 unfold wk at h;rw[Xw] at h;simp only[List.getElem?_zipIdx] at h;cases hx:ds[i]? with
 |none=>rw[hx] at h;cases h
 |some x=>rw[hx] at h;simp at h;exact⟨x,rfl,h.symm⟩
def Em(ea:EV):IV:=fun O L=>(ea O L).bind fun p=>(lsC p.2 p.1).bind fun s=>some ((wk s.1,s.2),p.2)
theorem WC(ml:X.mg "enumerate"=none) {a:Expr} {elts:List Expr} {k:Nat} {tpos:Pos} (ha:PE X a (tD K ea)) (hg:Gl X "enumerate":=by rfl) (hs:starEach [a] X.env=[(false,eval a X.env)]:=by rfl) (hK:X.K=K:=by rfl):
  PI X (.Tuple elts k tpos) (.Call (.Name "enumerate" p) [a] [] pos) (tDI K (Em ea)):=xC (iEn K ml ha hg hs hK) fun B H R h=>by
 refine el5 h fun W O its c Z6 eH ok en e q=>?_;subst eH;refine qE e fun p1 e1 e=>?_;obtain⟨⟨ds,c'⟩,e2,e⟩:=bnd e;cases e;refine(⟨W,O,p1.1,p1.2,rfl,ok,en,e1,fun v W1 Z1 ok1 s1 r1=>?_⟩);obtain⟨c0,a,rfl,hh⟩:=CK ok1 (by rw[Z1];exact e2) r1;obtain⟨vs0,h0,_⟩:=hh W1 ok1 c0 r1;refine(⟨a,rfl,⟨_,h0⟩,q (Ite K a) W1 Z1 ok1 s1 ⟨c0,[p1.1],[.ref a],.cons r1 .nil,fun W2 i ok2 c2 r2=>?_⟩⟩);cases r2 with
 |cons r2 _=>
  obtain⟨vs,hs,hv⟩:=hh W2 ok2 c2 r2;refine⟨fun hi=>⟨vs,hs,by rw[←hv.length];simpa[wk] using hi⟩,fun d hd=>?_⟩;obtain⟨x,hx,rfl⟩:=Qk hd;obtain⟨v,hv1,hv2⟩:=hv.get hx;refine(⟨⟨vs,v,hs,hv1⟩,fun y H' hy=>?_⟩);obtain⟨p,u,rfl,hp,rfl,hu⟩:=hy;have:=hu vs hs;rw[hv1] at this;cases this;exact⟨W2.lay p _,rfl,rfl,sU ok2 hp,se hp,xo ok2 hp (.cons (.int _) (.cons hv2 .nil))⟩
end
def uW(c:Ck)(g:GV)(tc:BV)(te:EV):List D->G->M->Option (List D×G×M)
 | [],O,L=>some ([],O,L)
 |d::r,O,L=>(g d O L).bind fun p=>(tc p.1 p.2).bind fun t=>if t.1=true then(te p.1 t.2).bind fun v=>chk (qY c v.2) ((uW c g tc te r p.1 v.2).bind fun q=>some (v.1::q.1,q.2)) else chk (qY c t.2) (uW c g tc te r p.1 t.2)
def tW(c:Ck)(g:GV)(tc:BV)(iv2:IV)(g2:GV)(tc2:BV)(te:EV):List D->G->M->Option (List D×M)
 | [],_,L=>some ([],L)
 |d::r,O,L=>(g d O L).bind fun p=>(tc p.1 p.2).bind fun t=>if t.1=true then(iv2 p.1 t.2).bind fun s=>(uW s.1.2 g2 tc2 te s.1.1 p.1 s.2).bind fun q=>chk (qY c q.2.2) ((tW c g tc iv2 g2 tc2 te r q.2.1 q.2.2).bind fun z=>some (q.1++z.1,z.2)) else chk (qY c t.2) (tW c g tc iv2 g2 tc2 te r p.1 t.2)
section
variable {X:Cx} {K:Frag} {N' own:List Str} {cap:List (Str×Nat)} {scope:Scope} {tg iter elt tg2 iter2:Expr} {ifs ifs2:List Expr} {pos:Pos} {iv iv2:IV} {g g2:GV} {tc tc2:BV} {te:EV}
theorem VF{W:Wd}{J:It}{its:List D}{c:Ck}{ZG:G}{ZO:St}{done0 rs:List D}{ys0:List V}{ZY:G}{Z6:M}{p:Addr}{Z:St->Hp->Prop}(ok:Ok K W)(hp:W.hid p)(hy:W.H p=some (.lst ys0))(rd0:DRs K W done0 ys0)(jr:JR K W J its c)(en:EnvR K W ZG ZO)
  (e:uW c g tc te its ZG W.L=some (rs,ZY,Z6)) (hl:done0.length+rs.length<=1000000) (hZ:∀W' Z0 ys,W'.L=Z6->Ok K W'->StepB p W W'->W'.hid p->W'.H p=some (.lst ys)->DRs K W' (done0++rs) ys->EnvR K W' ZY Z0->Z Z0 W'.H):
  CP J (tDG K g) (tDB K tc) (tD K te) p ZO W.H Z:=by
 obtain⟨c1,ds,vs,r1,hj⟩:=jr;obtain⟨P,hP⟩:∃P:Nat->St->Hp->Prop,∀i ZW H2,P i ZW H2↔(i<=its.length/\∃W2 ZX done qV ys,W2.H=H2/\Ok K W2/\StepB p W W2/\W2.hid p/\W2.H p=some (.lst ys)/\DRs K W2 done ys/\EnvR K W2 ZX ZW/\qY c W2.L/\uW c g tc te (its.drop i) ZX W2.L=some (qV,ZY,Z6)/\done++qV=done0++rs):=⟨_,fun _ _ _=>Iff.rfl⟩
 refine⟨fun i m ZW H2=>m=its.length - i/\P i ZW H2,?_,?_⟩
 ·exact⟨its.length,by simp,(hP _ _ _).2 ⟨X2 _,W,ZG,done0,rs,ys0,rfl,ok,Step.refl.b,hp,hy,rd0,en,c1,e,rfl⟩⟩
 rintro i m ZW H2 ⟨rfl,hi⟩;refine bq fun hG=>?_;obtain⟨hi,W2,ZX,done,qV,ys,rfl,ok2,s2,hp2,hy2,rd,en2,c2,e2,ed⟩:=(hP _ _ _).1 hi;have rj:DRs K W2 ds vs:=r1.stepB ok hp ⟨_,hy⟩ s2;obtain⟨hstop,hgo⟩:=hj W2 i ok2 c2 rj;by_cases hlt:i<its.length
 ·have hd:its[i]?=some its[i]:=Xk hlt;obtain⟨h1,h2⟩:=hgo _ hd;rw[XC hlt] at e2;refine qE e2 fun pg e3 e2=>?_;refine qE e2 fun pt e4 e2=>?_;refine(hG (.inr ⟨h1,P (i+1),fun Z0 H' hN=>⟨its.length - (i+1),by omega,rfl,hN⟩,fun x H' hy=>?_⟩));refine bq fun hF=>?_;obtain⟨W3,rfl,ZS,ok3,s3,r3⟩:=h2 x H' hy;refine hF ⟨W3,ZX,its[i],pg.1,pg.2,rfl,ok3,en2.step ok2 s3,r3,by rw[ZS];exact e3,fun W4 ZQ ZD ok4 s4 en4=>⟨W4,pg.1,pt.1,pt.2,rfl,ok4,en4,by rw[ZD];exact e4,fun W5 ZP ok5 s5=>?_⟩⟩;have s25:=s3.trans (s4.trans s5);split at e2
  ·rename_i ht;refine qE e2 fun pv e5 e2=>?_;refine uI e2 fun c5 e2=>?_;obtain⟨⟨q1,Zf,Zb⟩,e6,e2⟩:=bnd e2;cases e2;refine(wo (fun _=>?_) (fun n=>absurd ht n));refine⟨W5,pg.1,pv.1,pv.2,rfl,ok5,en4.step ok4 s5,by rw[ZP];exact e5,fun v W6 Zx ok6 s6 r6=>?_⟩;have s26:=s25.trans s6;have hp6:W6.hid p:=by rw[s26.hid];exact hp2
   have hy6:W6.H p=some (.lst ys):=s26.keep _ _ hy2 (wX ok2 hp2);have rd6:=rd.step ok2 s26;have hlen:ys.length<1000000:=by
    have h1:=congrArg List.length ed;simp only[XN,XI] at h1;rw[←rd.length];omega
   refine⟨ys,hy6,zZ (by omega),(hP _ _ _).2 ⟨hlt,W6.re p (.lst (ys++[v])),pg.1,done++[pv.1],q1,ys++[v],rfl,Iq ok6 hp6 ⟨_,hy6⟩,(s2.trans s26.b).trans vz,hp6,sf,?_,(((en4.step ok4 s5).step ok5 s6).stepB ok6 hp6 ⟨_,hy6⟩ vz),by show qY c W6.L;rw[Zx];exact c5,by show uW c g tc te _ _ W6.L=_;rw[Zx];exact e6,by simpa using ed⟩⟩;exact(rd6.append (.cons r6 .nil)).stepB ok6 hp6 ⟨_,hy6⟩ vz
  ·rename_i ht;refine uI e2 fun c5 e2=>?_;refine wo (fun n=>absurd n ht) (fun _=>?_);exact(hP _ _ _).2 ⟨hlt,W5,pg.1,done,qV,ys,rfl,ok5,s2.trans s25.b,by rw[s25.hid];exact hp2,s25.keep _ _ hy2 (wX ok2 hp2),rd.step ok2 s25,en4.step ok4 s5,by rw[ZP];exact c5,by rw[ZP];exact e2,ed⟩
 ·have e':i=its.length:=by omega
  subst e';rw[XY (Xc _)] at e2;cases e2;rw[XT] at ed;subst ed;exact hG (.inl ⟨hstop (Xc _),hZ W2 ZW ys rfl ok2 s2 hp2 hy2 rd en2⟩)
theorem UZ{W1:Wd}{J:It}{its:List D}{c:Ck}{ZG:G}{ZO:St}{rs:List D}{Z6:M}{p:Addr}{Z:Hp->Prop}(ok1:Ok K W1)(hp:W1.H p=none)(jr:JR K W1 J its c)(en:EnvR K W1 ZG ZO)(hl:rs.length<=1000000)
  (e:tW c g tc iv2 g2 tc2 te its ZG W1.L=some (rs,Z6)) (hZ:∀W' ys,W'.L=Z6->Ok K W'->StepB p (W1.hide p (.lst [])) W'->W'.hid p->W'.H p=some (.lst ys)->DRs K W' rs ys->Z W'.H):
  ya J (tDG K g) (tDB K tc) (tDI K iv2) (tDG K g2) (tDB K tc2) (tD K te) p ZO W1.H Z:=by
 obtain⟨c1,ds,vs,r1,hj⟩:=jr;obtain⟨P,hP⟩:∃P:Nat->St->Hp->Prop,∀i ZW H2,P i ZW H2↔(i<=its.length/\∃W2 ZX done qV ys,W2.H=H2/\Ok K W2/\StepB p (W1.hide p (.lst [])) W2/\W2.hid p/\W2.H p=some (.lst ys)/\DRs K W2 done ys/\EnvR K W2 ZX ZW/\qY c W2.L/\tW c g tc iv2 g2 tc2 te (its.drop i) ZX W2.L=some (qV,Z6)/\done++qV=rs):=⟨_,fun _ _ _=>Iff.rfl⟩
 refine⟨fun i m ZW H2=>m=its.length - i/\P i ZW H2,?_,?_⟩
 ·exact⟨its.length,by simp,(hP _ _ _).2 ⟨X2 _,W1.hide p (.lst []),ZG,[],rs,[],rfl,Bb ok1 hp,⟨fun _ _ h=>h,fun _ h=>.inl h,fun _ _ _ h _=>h,rfl,fun _ h=>h⟩,.inl rfl,sf,.nil,en.hide hp ok1,c1,e,rfl⟩⟩
 rintro i m ZW H2 ⟨rfl,hi⟩;refine bq fun hG=>?_;obtain⟨hi,W2,ZX,done,qV,ys,rfl,ok2,s2,hp2,hy2,rd,en2,c2,e2,ed⟩:=(hP _ _ _).1 hi;have rj:DRs K W2 ds vs:=(r1.hide hp ok1).stepB (Bb ok1 hp) (.inl rfl) ⟨[],sf⟩ s2;obtain⟨hstop,hgo⟩:=hj W2 i ok2 c2 rj;by_cases hlt:i<its.length
 ·have hd:its[i]?=some its[i]:=Xk hlt;obtain⟨h1,h2⟩:=hgo _ hd;rw[XC hlt] at e2;refine qE e2 fun pg e3 e2=>?_;refine qE e2 fun pt e4 e2=>?_;refine(hG (.inr ⟨h1,P (i+1),fun Z0 H' hN=>⟨its.length - (i+1),by omega,rfl,hN⟩,fun x H' hy=>?_⟩));refine bq fun hF=>?_;obtain⟨W3,rfl,ZS,ok3,s3,r3⟩:=h2 x H' hy;refine hF ⟨W3,ZX,its[i],pg.1,pg.2,rfl,ok3,en2.step ok2 s3,r3,by rw[ZS];exact e3,fun W4 ZQ ZD ok4 s4 en4=>⟨W4,pg.1,pt.1,pt.2,rfl,ok4,en4,by rw[ZD];exact e4,fun W5 ZP ok5 s5=>?_⟩⟩;have s25:=s3.trans (s4.trans s5);split at e2
  ·rename_i ht;obtain⟨⟨⟨its2,k2⟩,Za⟩,e5,e2⟩:=bnd e2;obtain⟨⟨q1,Zf,Zb⟩,e6,e2⟩:=bnd e2;refine uI e2 fun c6 e2=>?_;refine qE e2 fun z e7 e2=>?_;cases e2;refine(wo (fun _=>?_) (fun n=>absurd ht n));refine⟨W5,pg.1,its2,k2,Za,rfl,ok5,en4.step ok4 s5,by rw[ZP];exact e5,fun J2 W6 Zx ok6 s6 jr6=>?_⟩;have s26:=s25.trans s6;have hp6:W6.hid p:=by rw[s26.hid];exact hp2
   have hy6:W6.H p=some (.lst ys):=s26.keep _ _ hy2 (wX ok2 hp2);have hlen:done.length+q1.length<=1000000:=by
    have h1:=congrArg List.length ed;simp only[XN] at h1;omega
   refine VF ok6 hp6 hy6 (rd.step ok2 s26) jr6 ((en4.step ok4 s5).step ok5 s6) (by rw[Zx];exact e6) hlen fun W7 ZT ys7 Zp ok7 s7 hp7 hy7 rd7 en7=>?_;exact(hP _ _ _).2 ⟨hlt,W7,Zf,done++q1,z.1,ys7,rfl,ok7,(s2.trans s26.b).trans s7,hp7,hy7,rd7,en7,by rw[Zp];exact c6,by rw[Zp];exact e7,by simpa using ed⟩
  ·rename_i ht;refine uI e2 fun c5 e2=>?_;refine wo (fun n=>absurd n ht) (fun _=>?_);exact(hP _ _ _).2 ⟨hlt,W5,pg.1,done,qV,ys,rfl,ok5,s2.trans s25.b,by rw[s25.hid];exact hp2,s25.keep _ _ hy2 (wX ok2 hp2),rd.step ok2 s25,en4.step ok4 s5,by rw[ZP];exact c5,by rw[ZP];exact e2,ed⟩
 ·have e':i=its.length:=by omega
  subst e';rw[XY (Xc _)] at e2;cases e2;rw[XT] at ed;subst ed;exact hG (.inl ⟨hstop (Xc _),hZ W2 ys rfl ok2 s2 hp2 hy2 rd⟩)
def vW(own:List Str)(cap:List (Str×Nat))(iv:IV)(g:GV)(tc:BV)(iv2:IV)(g2:GV)(tc2:BV)(te:EV):EV:=fun O L=>(iv O L).bind fun s=>(tW s.1.2 g tc iv2 g2 tc2 te s.1.1 (rJ own cap O) s.2).bind fun q=>if q.1.length<=1000000 then some (.lst q.1,q.2) else none
theorem Mm{W:Wd}{O:G}{B:St}{d:D}{Z6:M}(ok:Ok K W)(en:EnvR K W O B)(e:vW own cap iv g tc iv2 g2 tc2 te O W.L=some (d,Z6)){Z:Addr->Hp->Prop}(q:∀v W',W'.L=Z6->Ok K W'->Step W W'->DR K W' d v->∀p,v=.ref p->Z p W'.H):
  tDI K iv B W.H fun J H1=>∀p,H1 p=none->ya J (tDG K g) (tDB K tc) (tDI K iv2) (tDG K g2) (tDB K tc2) (tD K te) p (sK own cap B) H1 (Z p):=by
 obtain⟨⟨⟨its,c⟩,Z5⟩,e1,e⟩:=bnd e;refine(⟨W,O,its,c,Z5,rfl,ok,en,e1,fun J W1 ZL ok1 s1 jr p hp=>?_⟩);obtain⟨⟨rs,Z3⟩,e2,e⟩:=bnd e;split at e
 ·rename_i hl;cases e;refine UZ ok1 hp jr ((en.step ok s1).cap own cap) hl (by rw[ZL];exact e2) fun W' ys Zm ok' s' hp' hy r=>?_;obtain⟨a1,a2,a3⟩:=Ev s1 hp ok1 ok' s' hp' hy r;exact(q _ (W'.show W1.hid) Zm a1 a2 a3 p rfl)
 ·cases e
theorem P4(S:CompScope X N' own cap scope)(hi:PI X tg iter (tDI K iv))
  (hg:∀cl C Z4 Z2 ex,PG (qN X N' scope cl C Z4 Z2 ex) tg (tDG K g)) (ht:∀cl C Z4 Z2 ex,PIf (qN X N' scope cl C Z4 Z2 ex) ifs (tDB K tc))
  (hi2:∀cl C Z4 Z2 ex,PI (qN X N' scope cl C Z4 Z2 ex) tg2 iter2 (tDI K iv2)) (hg2:∀cl C Z4 Z2 ex,PG (qN X N' scope cl C Z4 Z2 ex) tg2 (tDG K g2)) (ht2:∀cl C Z4 Z2 ex,PIf (qN X N' scope cl C Z4 Z2 ex) ifs2 (tDB K tc2))
  (he:∀cl C Z4 Z2 ex,PE (qN X N' scope cl C Z4 Z2 ex) elt (tD K te))
  (hx:∀e s,X.xe e s->False:=by exact fun _ _ z=>z) (hc:X.calm=true:=by rfl) (hs:∀x,foldedSetIterable iter X.env x=pure x:=by intro _;rfl) (hs2:∀cl C x,foldedSetIterable iter2 (compEnvC scope cl C X.env) x=pure x:=by intro _ _ _;rfl):
  PE X (.ListComp elt [⟨tg,iter,ifs,0⟩,⟨tg2,iter2,ifs2,0⟩] scope pos) (tD K (vW own cap iv g tc iv2 g2 tc2 te)):=rf (SC S hi hg ht hi2 hg2 ht2 he hx hc hs hs2) fun B H Q h=>by
 refine el4 h fun W O d Z6 eH ok en e q=>?_;subst eH;exact Mm ok en e fun v W' h1 h2 h3 h4 p hv=>by subst hv;exact q _ W' h1 h2 h3 h4
theorem Vj{i:Nat}{y:Str}{py spos:Pos}(hN:X.N.Nodup)(hi':X.N[i]?=some y)(hy:X.env.scope.names.lookup y=some .local)(S:CompScope X N' own cap scope)(hi:PI X tg iter (tDI K iv))
  (hg:∀cl C Z4 Z2 ex,PG (qN X N' scope cl C Z4 Z2 ex) tg (tDG K g)) (ht:∀cl C Z4 Z2 ex,PIf (qN X N' scope cl C Z4 Z2 ex) ifs (tDB K tc))
  (hi2:∀cl C Z4 Z2 ex,PI (qN X N' scope cl C Z4 Z2 ex) tg2 iter2 (tDI K iv2)) (hg2:∀cl C Z4 Z2 ex,PG (qN X N' scope cl C Z4 Z2 ex) tg2 (tDG K g2)) (ht2:∀cl C Z4 Z2 ex,PIf (qN X N' scope cl C Z4 Z2 ex) ifs2 (tDB K tc2))
  (he:∀cl C Z4 Z2 ex,PE (qN X N' scope cl C Z4 Z2 ex) elt (tD K te))
  (hsw:swapsWith (.ListComp elt [⟨tg,iter,ifs,0⟩,⟨tg2,iter2,ifs2,0⟩] scope pos) (some (.Name y py)) spos.line X.env=pure true:=by rfl)
  (hx:∀e s,X.xe e s->False:=by exact fun _ _ z=>z) (hc:X.calm=true:=by rfl) (hs:∀x,foldedSetIterable iter X.env x=pure x:=by intro _;rfl) (hs2:∀cl C x,foldedSetIterable iter2 (compEnvC scope cl C X.env) x=pure x:=by intro _ _ _;rfl):
  PS X (.Assign [.Name y py] (.ListComp elt [⟨tg,iter,ifs,0⟩,⟨tg2,iter2,ifs2,0⟩] scope pos) spos) (tDS K (qS (vW own cap iv g tc iv2 g2 tc2 te) (qD i))):=sS (S5 hN hi' hy S hi hg ht hi2 hg2 ht2 he hsw hx hc hs hs2) fun D B H h=>by
 refine el5 h fun W O o ZY Z6 eH ok en e q=>?_;subst eH;refine qE e fun p1 e1 e=>?_;cases e;exact Mm (Z:=fun p H2=>D.nx (B.set i (some (.ref p))) H2) ok en e1 fun v W' h1 h2 h3 h4 p hv=>by subst hv;exact q W' _ h1 h2 h3 ((en.step ok h3).set h4 i)
end
section
variable {n:Nat} {L:M}
theorem Nx{xs:List D}:py (n+1) L (.lst xs)=(optAll (py n L) xs).bind fun ys=>some (.list ys):=rfl
theorem bs{α β:Type}{a:α}{f:α->Option β}:(some a).bind f=f a:=rfl
theorem v4{α β γ:Type}{f:β->Option γ}{g:α->β}{h:α->γ}:∀{l:List α},(∀x∈l,f (g x)=some (h x))->optAll f (l.map g)=some (l.map h)
 | [],_=>rfl
 |x::r,e=>by
  have e1:=e x (by simp);have e2:=v4 (l:=r) fun y hy=>e y (by simp[hy]);simp only[Xn,optAll,e1,e2,bs]
end
section
variable {O:G} {L Z5 Z3:M} {ea eb:EV} {x y d:D} {f:D->D->M->Fr} {f1:D->M->Fr} {i:Nat}
theorem GX(h:O[i]?=some (some d)):be i O L=some (d,L):=by unfold be;rw[h]
theorem e_2(h1:ea O L=some (x,Z5))(h2:eb O Z5=some (y,Z3)):v2 f ea eb O L=f x y Z3:=by unfold v2;rw[h1,bs,h2,bs]
theorem e_1(h1:ea O L=some (x,Z5)):v1 f1 ea O L=f1 x Z5:=by unfold v1;rw[h1,bs]
end
def xi(b:SV):Option (Out×G×M)->Option (Out×G×M)
 |some (.nx,O,L)=>b O L
 |x=>x
@[simp] theorem wq{b:SV}{O:G}{L:M}:xi b (some (.nx,O,L))=b O L:=rfl
@[simp] theorem kSeq_rt{b:SV}{d:D}{O:G}{L:M}:xi b (some (.rt d,O,L))=some (.rt d,O,L):=rfl
@[simp] theorem kSeq_bk{b:SV}{O:G}{L:M}:xi b (some (.bk,O,L))=some (.bk,O,L):=rfl
@[simp] theorem kSeq_ct{b:SV}{O:G}{L:M}:xi b (some (.ct,O,L))=some (.ct,O,L):=rfl
@[simp] theorem tI{a b:SV}{O:G}{L:M}:qH a b O L=xi b (a O L):=by
 unfold qH xi;cases h:a O L with
 |none=>rfl
 |some o=>obtain⟨o1,ZZ,Z5⟩:=o;cases o1<;>rfl
section
variable {O:G} {L:M} {ea eb ec:EV} {ba bb:BV} {el:LV} {sa sb:SV} {i j:Nat} {d x y:D} {ds:List D} {b:Bool}
@[simp] theorem vVar_eq:be i O L=match O[i]? with
 |some (some d)=>some (d,L)
 |_=>none:=rfl
@[simp] theorem vC_eq:vC d O L=some (d,L):=rfl
def kV1(f:D->M->Fr):Fr->Fr
 |some (x,L)=>f x L
 |none=>none
@[simp] theorem kV1_s{f:D->M->Fr}:kV1 f (some (x,L))=f x L:=rfl
@[simp] theorem v1_eq{f:D->M->Fr}:v1 f ea O L=kV1 f (ea O L):=by
 unfold v1 kV1;cases ea O L<;>rfl
def wH(f:D->D->M->Fr)(x:D):Fr->Fr
 |some (y,L)=>f x y L
 |none=>none
@[simp] theorem kV2b_s{f:D->D->M->Fr}:wH f x (some (y,L))=f x y L:=rfl
def kV2(f:D->D->M->Fr)(eb:EV)(O:G):Fr->Fr
 |some (x,L)=>wH f x (eb O L)
 |none=>none
@[simp] theorem kV2_s{f:D->D->M->Fr}:kV2 f eb O (some (x,L))=wH f x (eb O L):=rfl
@[simp] theorem v2_eq{f:D->D->M->Fr}:v2 f ea eb O L=kV2 f eb O (ea O L):=by
 unfold v2 kV2;cases ea O L with
 |none=>rfl
 |some p=>show(eb O p.2).bind _=wH f p.1 (eb O p.2);cases eb O p.2<;>rfl
def kT:Fr->Option (Bool×M)
 |some (.bl b,L)=>some (b,L)
 |_=>none
@[simp] theorem kT_s:kT (some (.bl b,L))=some (b,L):=rfl
@[simp] theorem LN:vT ea O L=kT (ea O L):=by
 unfold vT kT;cases ea O L with
 |none=>rfl
 |some p=>obtain⟨p1,p2⟩:=p;cases p1<;>rfl
def Fk(bb:BV)(O:G):Option (Bool×M)->Option (Bool×M)
 |some (c,L)=>if c=true then bb O L else some (false,L)
 |none=>none
@[simp] theorem kAnd_s{c:Bool}:Fk bb O (some (c,L))=if c=true then bb O L else some (false,L):=rfl
@[simp] theorem bAnd_eq:wZ ba bb O L=Fk bb O (ba O L):=by unfold wZ Fk;cases ba O L<;>rfl
def kOr(bb:BV)(O:G):Option (Bool×M)->Option (Bool×M)
 |some (c,L)=>if c=true then some (true,L) else bb O L
 |none=>none
@[simp] theorem kOr_s{c:Bool}:kOr bb O (some (c,L))=if c=true then some (true,L) else bb O L:=rfl
@[simp] theorem bOr_eq:bOr ba bb O L=kOr bb O (ba O L):=by unfold bOr kOr;cases ba O L<;>rfl
def Ct:Option (Bool×M)->Option (Bool×M)
 |some (c,L)=>some (!c,L)
 |none=>none
@[simp] theorem kNot_s{c:Bool}:Ct (some (c,L))=some (!c,L):=rfl
@[simp] theorem bNot_eq:sL ba O L=Ct (ba O L):=by unfold sL Ct;cases ba O L<;>rfl
def kIf(ea eb:EV)(O:G):Option (Bool×M)->Fr
 |some (c,L)=>if c=true then ea O L else eb O L
 |none=>none
@[simp] theorem kIf_s{c:Bool}:kIf ea eb O (some (c,L))=if c=true then ea O L else eb O L:=rfl
@[simp] theorem Lu:vIf ba ea eb O L=kIf ea eb O (ba O L):=by unfold vIf kIf;cases ba O L<;>rfl
def B3(sa sb:SV)(O:G):Option (Bool×M)->Option (Out×G×M)
 |some (c,L)=>if c=true then sa O L else sb O L
 |none=>none
@[simp] theorem kSIf_s{c:Bool}:B3 sa sb O (some (c,L))=if c=true then sa O L else sb O L:=rfl
@[simp] theorem wx:sIf ba sa sb O L=B3 sa sb O (ba O L):=by unfold sIf B3;cases ba O L<;>rfl
def Al(eb:EV)(O:G):Fr->Fr
 |some (.bl c,L)=>if c=true then some (.bl true,L) else eb O L
 |_=>none
@[simp] theorem kVOr_s{c:Bool}:Al eb O (some (.bl c,L))=if c=true then some (.bl true,L) else eb O L:=rfl
@[simp] theorem NU:vOr ea eb O L=Al eb O (ea O L):=by
 unfold vOr Al;cases ea O L with
 |none=>rfl
 |some p=>
  obtain⟨p1,p2⟩:=p;cases p1 with
  |bl c=>cases c<;>rfl
  |_=>rfl
@[simp] theorem lNil_eq:qG O L=some ([],L):=rfl
def Ay(x:D):Option (List D×M)->Option (List D×M)
 |some (r,L)=>some (x::r,L)
 |none=>none
@[simp] theorem kLc2_s{r:List D}:Ay x (some (r,L))=some (x::r,L):=rfl
def kLc(el:LV)(O:G):Fr->Option (List D×M)
 |some (x,L)=>Ay x (el O L)
 |none=>none
@[simp] theorem kLc_s:kLc el O (some (x,L))=Ay x (el O L):=rfl
@[simp] theorem lCons_eq:qC ea el O L=kLc el O (ea O L):=by
 unfold qC kLc;cases ea O L with
 |none=>rfl
 |some p=>show(el O p.2).bind _=Ay p.1 (el O p.2);cases el O p.2<;>rfl
def kL(f:C0):Option (List D×M)->Fr
 |some (r,L)=>f r L
 |none=>none
@[simp] theorem kL_s{f:C0}{r:List D}:kL f (some (r,L))=f r L:=rfl
@[simp] theorem vL_eq{f:C0}:vL f el O L=kL f (el O L):=by unfold vL kL;cases el O L<;>rfl
@[simp] theorem sNx_eq:sNx O L=some (.nx,O,L):=rfl
def kEx(O:G):Fr->Option (Out×G×M)
 |some (_,L)=>some (.nx,O,L)
 |none=>none
@[simp] theorem kEx_s:kEx O (some (x,L))=some (.nx,O,L):=rfl
@[simp] theorem z6:t7 ea O L=kEx O (ea O L):=by unfold t7 kEx;cases ea O L<;>rfl
def kRt(O:G):Fr->Option (Out×G×M)
 |some (x,L)=>some (.rt x,O,L)
 |none=>none
@[simp] theorem kRt_s:kRt O (some (x,L))=some (.rt x,O,L):=rfl
@[simp] theorem yo:qO ea O L=kRt O (ea O L):=by unfold qO kRt;cases ea O L<;>rfl
def kG:Option (G×M)->Option (Out×G×M)
 |some (O,L)=>some (.nx,O,L)
 |none=>none
@[simp] theorem kG_s:kG (some (O,L))=some (.nx,O,L):=rfl
def kAs(g:GV)(O:G):Fr->Option (Out×G×M)
 |some (x,L)=>kG (g x O L)
 |none=>none
@[simp] theorem kAs_s{g:GV}:kAs g O (some (x,L))=kG (g x O L):=rfl
@[simp] theorem CO{g:GV}:qS ea g O L=kAs g O (ea O L):=by
 unfold qS kAs;cases ea O L with
 |none=>rfl
 |some p=>show(g p.1 O p.2).bind _=kG (g p.1 O p.2);cases g p.1 O p.2<;>rfl
@[simp] theorem gvName_eq:qD i d O L=some (O.set i (some d),L):=rfl
@[simp] theorem gvNil_eq:sd [] O L=some (O,L):=rfl
def kGs(gs:GsV)(ds:List D):Option (G×M)->Option (G×M)
 |some (O,L)=>gs ds O L
 |none=>none
@[simp] theorem kGs_s{gs:GsV}:kGs gs ds (some (O,L))=gs ds O L:=rfl
@[simp] theorem gvCons_eq{g:GV}{gs:GsV}:qQ g gs (d::ds) O L=kGs gs ds (g d O L):=by
 show(g d O L).bind _=_;unfold kGs;cases g d O L<;>rfl
@[simp] theorem gvTup_eq{n:Nat}{gs:GsV}:rM n gs (.tup ds) O L=if ds.length=n then gs ds O L else none:=rfl
def kOn(L:M)(k:Nat):Option (D×List D)->Fr
 |some (d,l)=>some (d,L.set k (some (.lst l)))
 |none=>none
@[simp] theorem EQ{l:List D}:kOn L i (some (d,l))=some (d,L.set i (some (.lst l))):=rfl
def y2(O:G):Fr->Option (G×M)
 |some (_,L)=>some (O,L)
 |none=>none
@[simp] theorem kSb3_s:y2 O (some (x,L))=some (O,L):=rfl
def sbF(d:D)(j:Int)(ds:List D):Option (D×List D):=(ixN ds.length j).bind fun jj=>some (.non,ds.set jj d)
theorem Cz{j:Int}{jj:Nat}(h:ixN ds.length j=some jj):sbF d j ds=some (.non,ds.set jj d):=by unfold sbF;rw[h];rfl
@[simp] theorem sbF_0:sbF d 0 (x::ds)=some (.non,d::ds):=by
 refine Cz (jj:=0) ?_;unfold ixN;rw[if_pos (by omega),if_pos (by simp only[XI];omega)];rfl
@[simp] theorem sbF_1:sbF d 1 (x::y::ds)=some (.non,x::d::ds):=by
 refine Cz (jj:=1) ?_;unfold ixN;rw[if_pos (by omega),if_pos (by simp only[XI];omega)];rfl
@[simp] theorem sbF_2{z:D}:sbF d 2 (x::y::z::ds)=some (.non,x::y::d::ds):=by
 refine Cz (jj:=2) ?_;unfold ixN;rw[if_pos (by omega),if_pos (by simp only[XI];omega)];rfl
def AL(d:D)(O:G)(o:D):Fr->Option (G×M)
 |some (.int j,L)=>y2 O (onL o L (sbF d j))
 |_=>none
@[simp] theorem kSb2_s{j:Int}:AL d O x (some (.int j,L))=y2 O (onL x L (sbF d j)):=rfl
def kSb(d:D)(ei:EV)(O:G):Fr->Option (G×M)
 |some (o,L)=>AL d O o (ei O L)
 |none=>none
@[simp] theorem kSb_s{ei:EV}:kSb d ei O (some (x,L))=AL d O x (ei O L):=rfl
@[simp] theorem gvSub_eq{eo ei:EV}:zc eo ei d O L=kSb d ei O (eo O L):=by
 unfold zc kSb;cases eo O L with
 |none=>rfl
 |some p=>
  show(ei O p.2).bind _=AL d O p.1 (ei O p.2);cases ei O p.2 with
  |none=>rfl
  |some q=>
   obtain⟨q1,q2⟩:=q;cases q1 with
   |int j=>
    show(onL p.1 q2 _).bind _=y2 O (onL p.1 q2 (sbF d j));have e:(fun ds=>(ixN ds.length j).bind fun jj=>some (D.non,ds.set jj d))=sbF d j:=rfl;rw[e];unfold y2;cases onL p.1 q2 (sbF d j)<;>rfl
   |_=>rfl
@[simp] theorem oNone_eq:Az O L=some (none,L):=rfl
def kTr(L:M):Option Bool->Option (Bool×M)
 |some b=>some (b,L)
 |none=>none
@[simp] theorem kTr_s:kTr L (some b)=some (b,L):=rfl
def zn:Fr->Option (Bool×M)
 |some (x,L)=>kTr L (tru L x)
 |none=>none
@[simp] theorem kTru_s:zn (some (x,L))=kTr L (tru L x):=rfl
@[simp] theorem Iv:rC ea O L=zn (ea O L):=by
 unfold rC zn;cases ea O L with
 |none=>rfl
 |some p=>show(tru p.2 p.1).bind _=kTr p.2 (tru p.2 p.1);cases tru p.2 p.1<;>rfl
def DD(g:GV)(body:SV)(O:G):Option ((List D×Ck)×M)->Option (Out×G×M)
 |some ((its,c),L)=>rT c g body its O L
 |none=>none
@[simp] theorem xp{g:GV}{c:Ck}:DD g sa O (some ((ds,c),L))=rT c g sa ds O L:=rfl
@[simp] theorem xq{iv:IV}{g:GV}:sJ iv g sa O L=DD g sa O (iv O L):=by unfold sJ DD;cases iv O L<;>rfl
def kI2(L:M):Option (List D×Ck)->Option ((List D×Ck)×M)
 |some s=>some (s,L)
 |none=>none
@[simp] theorem kI2_s{s:List D×Ck}:kI2 L (some s)=some (s,L):=rfl
def kI:Fr->Option ((List D×Ck)×M)
 |some (x,L)=>kI2 L (lsC L x)
 |none=>none
@[simp] theorem kI_s:kI (some (x,L))=kI2 L (lsC L x):=rfl
@[simp] theorem ivL_eq:ivL ea O L=kI (ea O L):=by
 unfold ivL kI;cases ea O L with
 |none=>rfl
 |some p=>show(lsC p.2 p.1).bind _=kI2 p.2 (lsC p.2 p.1);cases lsC p.2 p.1<;>rfl
def kIR:Fr->Option ((List D×Ck)×M)
 |some (.int j,L)=>if -1000000000<=j/\j<=1000000000 then some ((rm 0 j.toNat,none),L) else none
 |_=>none
@[simp] theorem kIR_s{j:Int}:kIR (some (.int j,L))=if -1000000000<=j/\j<=1000000000 then some ((rm 0 j.toNat,none),L) else none:=rfl
@[simp] theorem ivR_eq:ivR ea O L=kIR (ea O L):=by
 unfold ivR kIR;cases ea O L with
 |none=>rfl
 |some p=>obtain⟨p1,p2⟩:=p;cases p1<;>rfl
def Ab(x:D):Fr->Option ((List D×Ck)×M)
 |some (y,L)=>match x,y with
  | .int i,.int j=>if(-1000000000<=i/\i<=1000000000)/\-1000000000<=j/\j<=1000000000 then some ((rm i (j - i).toNat,none),L) else none
  |_,_=>none
 |none=>none
@[simp] theorem Il{i j:Int}:Ab (.int i) (some (.int j,L))=if(-1000000000<=i/\i<=1000000000)/\-1000000000<=j/\j<=1000000000 then some ((rm i (j - i).toNat,none),L) else none:=rfl
def Fc(eb:EV)(O:G):Fr->Option ((List D×Ck)×M)
 |some (x,L)=>Ab x (eb O L)
 |none=>none
@[simp] theorem Hu:Fc eb O (some (x,L))=Ab x (eb O L):=rfl
@[simp] theorem Hq:wO ea eb O L=Fc eb O (ea O L):=by
 unfold wO Fc;cases ea O L with
 |none=>rfl
 |some p=>show(eb O p.2).bind _=Ab p.1 (eb O p.2);cases eb O p.2<;>rfl
@[simp] theorem bYes_eq:qX O L=some (true,L):=rfl
def Br(g:D->D->M->Fr)(ec:EV)(O:G)(y:D):Fr->Fr
 |some (.bl c,L)=>if c=true then wH g y (ec O L) else some (.bl false,L)
 |_=>none
@[simp] theorem kCh3_s{g:D->D->M->Fr}{c:Bool}:Br g ec O y (some (.bl c,L))=if c=true then wH g y (ec O L) else some (.bl false,L):=rfl
def BJ(f g:D->D->M->Fr)(ec:EV)(O:G)(x:D):Fr->Fr
 |some (y,L)=>Br g ec O y (f x y L)
 |none=>none
@[simp] theorem kCh2_s{f g:D->D->M->Fr}:BJ f g ec O x (some (y,L))=Br g ec O y (f x y L):=rfl
def kCh(f g:D->D->M->Fr)(eb ec:EV)(O:G):Fr->Fr
 |some (x,L)=>BJ f g ec O x (eb O L)
 |none=>none
@[simp] theorem kCh_s{f g:D->D->M->Fr}:kCh f g eb ec O (some (x,L))=BJ f g ec O x (eb O L):=rfl
@[simp] theorem vChain_eq{f g:D->D->M->Fr}:uS f g ea eb ec O L=kCh f g eb ec O (ea O L):=by
 unfold uS kCh;cases ea O L with
 |none=>rfl
 |some p=>
  show(eb O p.2).bind _=BJ f g ec O p.1 (eb O p.2);cases eb O p.2 with
  |none=>rfl
  |some q=>
   show(f p.1 q.1 q.2).bind _=Br g ec O q.1 (f p.1 q.1 q.2);cases f p.1 q.1 q.2 with
   |none=>rfl
   |some t=>
    obtain⟨t1,t2⟩:=t;cases t1 with
    |bl c=>
     cases c with
     |true=>show(ec O t2).bind _=wH g q.1 (ec O t2);cases ec O t2<;>rfl
     |false=>rfl
    |_=>rfl
def kNB(L:M):Option Bool->Fr
 |some b=>some (.bl (!b),L)
 |none=>none
@[simp] theorem kNB_s:kNB L (some b)=some (.bl (!b),L):=rfl
def kD(L:M):Option D->Fr
 |some d=>some (d,L)
 |none=>none
@[simp] theorem kD_s:kD L (some d)=some (d,L):=rfl
@[simp] theorem fI0_eq{g:Int->Int->D}{i j:Int}:fI0 g (.int i) (.int j) L=some (g i j,L):=rfl
@[simp] theorem fI_eq{C:Int->Int->Prop} [∀i j,Decidable (C i j)]{g:Int->Int->D}{i j:Int}:fI C g (.int i) (.int j) L=if C i j then some (g i j,L) else none:=rfl
@[simp] theorem fNeg_eq{i:Int}:uY (.int i) L=some (.int (-i),L):=rfl
@[simp] theorem fNot_eq{b:Bool}:Lc (.bl b) L=some (.bl (!b),L):=rfl
@[simp] theorem fPlus_int{i j:Int}:rS (.int i) (.int j) L=some (.int (i+j),L):=rfl
@[simp] theorem NO{i j:Int}:tZ (.int i) (.int j) L=if CMul i j then some (.int (i*j),L) else none:=rfl
@[simp] theorem SG{b:Bool}:zi (.bl b) L=some (.int (if b then 1 else 0),L):=rfl
@[simp] theorem fNe_eq:fNe x y L=kNB L (eqD x y L):=by unfold fNe kNB;cases eqD x y L<;>rfl
@[simp] theorem KW{i j:Int}:eqD (.int i) (.int j) L=some (decide (i=j)):=rfl
@[simp] theorem eqD_str{a b:Str}:eqD (.str a) (.str b) L=if PyData.strOk a&&PyData.strOk b then some (decide (a=b)) else none:=rfl
@[simp] theorem lsOf_lst:rN L (.lst ds)=some ds:=rfl
@[simp] theorem lsOf_scr:rN L (.scr ds)=some ds:=rfl
@[simp] theorem lsOf_tup:rN L (.tup ds)=none:=rfl
@[simp] theorem tpOf_tup:vf (.tup ds)=some ds:=rfl
@[simp] theorem wlOf_lst:vU L (.lst ds)=some ds:=rfl
@[simp] theorem lsC_lst:lsC L (.lst ds)=some (ds,none):=rfl
@[simp] theorem lsC_scr:lsC L (.scr ds)=some (ds,none):=rfl
@[simp] theorem fLst_eq:rL ds L=if ds.length<=1000 then some (.lst ds,L) else none:=rfl
@[simp] theorem fTup_eq:rZ ds L=if ds.length<=1000 then some (.tup ds,L) else none:=rfl
@[simp] theorem fNew_eq:ur ds L=if ds.length<=1000 then some (.ref L.length,L++[some (.lst ds)]) else none:=rfl
@[simp] theorem Hb{i:Int}:fIx (.lst ds) (.int i) L=kD L (atI ds i):=by
 show(atI ds i).bind _=_;unfold kD;cases atI ds i<;>rfl
@[simp] theorem fIx_scr{i:Int}:fIx (.scr ds) (.int i) L=kD L (atI ds i):=by
 show(atI ds i).bind _=_;unfold kD;cases atI ds i<;>rfl
@[simp] theorem fIx_tup{i:Int}:fIx (.tup ds) (.int i) L=kD L (atI ds i):=by
 show(atI ds i).bind _=_;unfold kD;cases atI ds i<;>rfl
@[simp] theorem Rz:rE (.lst ds) L=some (.int ds.length,L):=rfl
@[simp] theorem fLen_tup:rE (.tup ds) L=some (.int ds.length,L):=rfl
@[simp] theorem fCat_lst{es:List D}:rS (.lst ds) (.lst es) L=if ds.length+es.length<=1000000 then some (.lst (ds++es),L) else none:=rfl
@[simp] theorem fList_lst:zl (.lst ds) L=some (.lst ds,L):=rfl
@[simp] theorem fSl_lst{lo hi:Option Int}:fSl (.lst ds) lo hi L=some (.lst (vy ds lo hi),L):=rfl
@[simp] theorem fSl_tup{lo hi:Option Int}:fSl (.tup ds) lo hi L=if HT.sIx ds.length 0 lo=0/\HT.sIx ds.length ds.length hi=ds.length then none else some (.tup (vy ds lo hi),L):=rfl
@[simp] theorem tru_bl{b:Bool}:tru L (.bl b)=some b:=rfl
@[simp] theorem tru_lst:tru L (.lst ds)=some (!ds.isEmpty):=rfl
theorem vg{α:Type}{xs:List α}{j:Nat}{v:α}(h:xs[j]?=some v):atI xs (j:Int)=some v:=by
 have hlt:=(Xe.mp h).1;unfold atI ixN;rw[if_pos (by omega),if_pos (by omega)];simpa using h
@[simp] theorem atI_0{α:Type}{a:α}{l:List α}:atI (a::l) 0=some a:=vg (j:=0) rfl
@[simp] theorem atI_1{α:Type}{a b:α}{l:List α}:atI (a::b::l) 1=some b:=vg (j:=1) rfl
@[simp] theorem atI_2{α:Type}{a b c:α}{l:List α}:atI (a::b::c::l) 2=some c:=vg (j:=2) rfl
@[simp] theorem atI_3{α:Type}{a b c d:α}{l:List α}:atI (a::b::c::d::l) 3=some d:=vg (j:=3) rfl
end
def inI:D->Option Int
 | .int i=>some i
 |_=>none
def inB:D->Option Bool
 | .bl b=>some b
 |_=>none
section
variable {K:Frag} {W:Wd}
theorem ET:∀{ds:List D} {vs:List V} {ns:List Int},optAll inI ds=some ns->DRs K W ds vs->vs=ns.map V.int
 |_,_,_,h,.nil=>by cases h;rfl
 |d::_,_,_,h,.cons r t=>by
  refine qE h fun u h1 h=>?_;refine qE h fun us h2 h=>?_;cases h;cases d<;>cases h1
  cases r;rw[ET h2 t];rfl
theorem HZ:∀{ds:List D} {vs:List V} {ns:List Bool},optAll inB ds=some ns->DRs K W ds vs->vs=ns.map V.bl
 |_,_,_,h,.nil=>by cases h;rfl
 |d::_,_,_,h,.cons r t=>by
  refine qE h fun u h1 h=>?_;refine qE h fun us h2 h=>?_;cases h;cases d<;>cases h1
  cases r;rw[HZ h2 t];rfl
theorem Nu(ns:List Int):optAll inI (ns.map D.int)=some ns:=by
 have:=v4 (f:=inI) (g:=D.int) (h:=id) (l:=ns) fun x _=>rfl;simpa using this
theorem FM(ns:List Bool):optAll inB (ns.map D.bl)=some ns:=by
 have:=v4 (f:=inB) (g:=D.bl) (h:=id) (l:=ns) fun x _=>rfl;simpa using this
end
def mx:Int->List Int->Int
 |a,[]=>a
 |a,b::r=>mx (if b>a then b else a) r
theorem Ib:∀(r l:List Int) (a:Int),IsMax a l->IsMax (mx a r) (l++r)
 | [],l,a,h=>by simpa[mx] using h
 |b::r,l,a,h=>by
  have:=Ib r (l++[b]) (if b>a then b else a) h.step;simpa[mx] using this
def LB{a b:Int}{l:List Int}(h:IsMax a l)(g:IsMax b l):a=b:=by
 have h1:=h.2 b g.1;have h2:=g.2 a h.1;omega
def mxL:List Int->Option Int
 | []=>none
 |a::r=>some (mx a r)
def D1{l:List Int}{m:Int}(h:mxL l=some m):IsMax m l:=by
 cases l with
 |nil=>cases h
 |cons a r=>
  cases h;exact Ib r [a] a ⟨by simp,by simp⟩
section
variable {X:Cx} {K:Frag} {a b:Expr} {ea eb:EV} {pos p kp:Pos}
def DX(x:D)(L:M):Fr:=(rN L x).bind fun ds=>(optAll inI ds).bind fun ns=>(mxL ns).bind fun m=>some (.int m,L)
theorem Q4(mm:X.mg "max"=none) (ha:PE X a (tD K ea)) (hc:X.calm=true:=by rfl) (hg:Gl X "max":=by rfl) (hs:starEach [a] X.env=[(false,eval a X.env)]:=by rfl) (hK:X.K=K:=by rfl):PE X (.Call (.Name "max" p) [a] [] pos) (tD K (v1 DX ea)):=rf (UO K mm ha hc hg hs hK) (uN (by
 intro W x d z Z6 Q ok r1 hf q;refine qE hf fun ds h1 hf=>?_;refine qE hf fun ns h2 hf=>?_;refine qE hf fun m h3 hf=>?_;cases hf;obtain⟨a,vs,rfl,hs,hv⟩:=uK ok h1 r1;have:=ET h2 hv;subst this;refine⟨a,ns,rfl,hs,(fun z=>by rw[z] at h3;cases h3),fun M hM=>?_⟩;rw[LB hM (D1 h3)];exact q _ W rfl ok .refl (.int _)))
def x9(x y:D)(L:M):Fr:=match y with
 | .int j=>(rN L x).bind fun ds=>(optAll inI ds).bind fun ns=>some (.int ((mxL ns).getD j),L)
 |_=>none
theorem WS(mm:X.mg "max"=none) (ha:PE X a (tD K ea)) (hb:PE X b (tD K eb)) (hc:X.calm=true:=by rfl) (hg:Gl X "max":=by rfl) (hs:starEach [a] X.env=[(false,eval a X.env)]:=by rfl) (hK:X.K=K:=by rfl)
  (hall:(backToKw pos (keywordEach [⟨some "default",b,kp⟩] X.env)).all (·.1.isSome)=true:=by rfl) (hks:(backToKw pos (keywordEach [⟨some "default",b,kp⟩] X.env)).filterMap (·.1)=([Str.ofString "default"]:List Str):=by rfl)
  (hno:(backToKw pos (keywordEach [⟨some "default",b,kp⟩] X.env)).any (·.1.isNone)=false:=by rfl):PE X (.Call (.Name "max" p) [a] [⟨some "default",b,kp⟩] pos) (tD K (v2 x9 ea eb)):=rf (UG K mm ha hb hc hg hs hK hall hks hno) (w5 (by
 intro W x y d e z Z6 Q ok r1 r2 hf q;unfold x9 at hf;split at hf
 ·cases r2;refine qE hf fun ds h1 hf=>?_;refine qE hf fun ns h2 hf=>?_;cases hf;obtain⟨a,vs,rfl,hs,hv⟩:=uK ok h1 r1;have:=ET h2 hv;subst this;refine⟨a,ns,_,rfl,rfl,hs,fun z=>?_,fun M hM=>?_⟩
  ·subst z;exact q _ W rfl ok .refl (.int _)
  ·cases hn:mxL ns with
   |none=>
    cases ns with
    |nil=>exact absurd hM.1 (by simp)
    |cons _ _=>cases hn
   |some m=>
    rw[LB hM (D1 hn)];have:=q (.int m) W rfl ok .refl (by rw[hn];exact .int _);exact this
 ·cases hf))
def vE(x:D)(L:M):Fr:=(rN L x).bind fun ds=>(optAll inB ds).bind fun bs=>some (.bl (bs.all id),L)
theorem JS(mm:X.mg "all"=none) (ha:PE X a (tD K ea)) (hc:X.calm=true:=by rfl) (hg:Gl X "all":=by rfl) (hs:starEach [a] X.env=[(false,eval a X.env)]:=by rfl) (hK:X.K=K:=by rfl):PE X (.Call (.Name "all" p) [a] [] pos) (tD K (v1 vE ea)):=rf (Qu K mm ha hc hg hs hK) (uN (by
 intro W x d z Z6 Q ok r1 hf q;refine qE hf fun ds h1 hf=>?_;refine qE hf fun ns h2 hf=>?_;cases hf;obtain⟨a,vs,rfl,hs,hv⟩:=uK ok h1 r1;have:=HZ h2 hv;subst this;exact⟨a,ns,rfl,hs,q _ W rfl ok .refl (.bl _)⟩))
end
def vA{α:Type}{L:M}{x:Option α}:chk (qY none L) x=x:=t9 trivial
section
variable {L:M} {k:Nat} {ds:List D}
def tP:Option (Out×G×M)->Fr
 |some (.rt d,_,L)=>some (d,L)
 |some (.nx,_,L)=>some (.non,L)
 |_=>none
@[simp] theorem kRun_rt{d:D}{O:G}:tP (some (.rt d,O,L))=some (d,L):=rfl
@[simp] theorem kRun_nx{O:G}:tP (some (.nx,O,L))=some (.non,L):=rfl
@[simp] theorem u9{n m:Nat}{es:SV}:rD n m es ds L=if ds.length=m then tP (es (ds.map some++List.replicate (n - ds.length) none) L) else none:=by
 unfold rD;split
 ·unfold tP;cases es (ds.map some++List.replicate (n - ds.length) none) L with
  |none=>rfl
  |some o=>obtain⟨o1,o2,o3⟩:=o;cases o1<;>rfl
 ·rfl
theorem tj{x y:Option Z8}(h:L[k]?=some x):(L.set k y)[k]?=some y:=by
 have hlt:=(Xe.mp h).1;simp[hlt]
theorem sT{j:Nat}{y:Option Z8}(h:j≠k):(L.set k y)[j]?=L[j]?:=XG (Ne.symm h)
theorem uP(h:L[k]?=some (some (.lst ds))):rN L (.ref k)=some ds:=by simp only[rN,h]
theorem At{i:Int}(h:L[k]?=some (some (.lst ds))):fIx (.ref k) (.int i) L=kD L (atI ds i):=by
 simp only[fIx,uP h];unfold kD;cases atI ds i<;>rfl
theorem Up(h:L[k]?=some (some (.lst ds))):rE (.ref k) L=some (.int ds.length,L):=by simp only[rE,uP h]
theorem yI{g:List D->Option (D×List D)}(h:L[k]?=some (some (.lst ds))):onL (.ref k) L g=kOn L k (g ds):=by
 simp only[onL,h];unfold kOn;cases g ds<;>rfl
theorem Ca(h:L[k]?=some (some (.lst ds))):lsC L (.ref k)=some (ds,some (k,ds)):=by simp only[lsC,h]
@[simp] theorem ixN_0{n:Nat}:ixN (n+1) 0=some 0:=by unfold ixN;rw[if_pos (by omega),if_pos (by omega)];rfl
@[simp] theorem ixN_1{n:Nat}:ixN (n+2) 1=some 1:=by unfold ixN;rw[if_pos (by omega),if_pos (by omega)];rfl
@[simp] theorem ixN_2{n:Nat}:ixN (n+3) 2=some 2:=by unfold ixN;rw[if_pos (by omega),if_pos (by omega)];rfl
end
section
variable {P:Program} {w:World} {K:Frag} {mg:Str->Option Value} {base:Heap} {f:Addr} {fd:FuncData} {k:Nat}
theorem xJ{ps:List Str}:FnOk P w K mg base CX0 k f fd ps (spM K fun _ _=>none):=
 ⟨(fun vs H Q E h=>by obtain⟨_,_,_,_,_,_,_,z,_⟩:=h;cases z),(fun A outer s H args us vs Q E _ _ _ _ h=>by obtain⟨_,_,_,_,_,_,_,z,_⟩:=h;cases z)⟩
def BA(K:Frag):Sp:=fun vs H Q _=>∃(a:Addr) (ns:List Int),vs=[.ref a]/\Bt H/\SqL K H a (ns.map V.int)/\ns.length<=63/\∀H',Q (.bl true) H'
def W0(H:Hp):Wd:=⟨[],[],H,fun _=>False⟩
theorem Nw{H:Hp}:Ok K (W0 H) where
 len:=rfl
 nd:=by simp[W0]
 rs a h:=by simp[W0] at h
 at_ k o h:=by simp[W0] at h
 hd0 a h:=h.elim
theorem Eh{W:Wd}:∀ns:List Int,DRs K W (ns.map D.int) (ns.map V.int)
 | []=>.nil
 |n::r=>.cons (.int n) (Eh r)
theorem RV{g:C0}(F:FnOk P w K mg base CX0 k f fd ["script"] (spM K g)) (h:∀ns:List Int,ns.length<=63->∃Z6,g [.scr (ns.map D.int)] []=some (.bl true,Z6)):FnOk P w K mg base CX0 k f fd ["script"] (BA K):=F.imp fun vs H Q E hh=>by
 obtain⟨a,ns,rfl,hO,hS,hl,q⟩:=hh;obtain⟨Z6,e⟩:=h ns hl;have hF:SqF K H a (ns.map V.int):=by
  rcases hS with(hS|hS)|hS
  ·rcases hO a with z|⟨o,xs,z⟩
   ·rw[z] at hS;cases hS
   ·rw[z] at hS;cases hS
  ·exact .inl hS
  ·exact .inr hS
 exact⟨W0 H,[.scr (ns.map D.int)],.bl true,Z6,rfl,Nw,.cons (.scr hF (Eh ns)) .nil,e,fun v W' _ _ _ r=>by cases r;exact q _⟩
end
theorem AM{c:Ck}{g:GV}{body:SV}(Pv:Nat->G->M->Prop):∀(its:List D) (i:Nat) (O:G) (L:M),Pv i O L->
  (∀j d O L,its[j]?=some d->Pv (i+j) O L->∃ZZ Z5 ZX Z3,g d O L=some (ZZ,Z5)/\body ZZ Z5=some (.nx,ZX,Z3)/\qY c Z3/\Pv (i+j+1) ZX Z3)->∃ZY Z6,rT c g body its O L=some (.nx,ZY,Z6)/\Pv (i+its.length) ZY Z6
 | [],i,O,L,h,_=>⟨O,L,rfl,h⟩
 |d::r,i,O,L,h,hs=>by
  obtain⟨ZZ,Z5,ZX,Z3,h1,h2,h3,h4⟩:=hs 0 d O L rfl h;obtain⟨ZY,Z6,h5,h6⟩:=AM Pv r (i+1) ZX Z3 h4 fun j d O L hj hp=>by
   have:=hs (j+1) d O L (by simpa using hj) (by rw[show i+(j+1)=i+1+j by omega];exact hp);rw[show i+(j+1)+1=i+1+j+1 by omega] at this;exact this
  refine⟨ZY,Z6,?_,by rw[XI,show i+(r.length+1)=i+1+r.length by omega];exact h6⟩;simp only[rT,h1,bs,h2];rw[t9 h3,h5]
def Rr{lo:Int}{n j:Nat}{d:D}(h:(rm lo n)[j]?=some d):j<n/\d=.int (lo+j):=by
 have hlt:=(Xe.mp h).1;simp[rm] at hlt;simp[rm,hlt] at h;exact⟨hlt,h.symm⟩
def Pt{n j:Nat}{d:D}(h:(rm 0 n)[j]?=some d):j<n/\d=.int (j:Int):=by
 obtain⟨a,b⟩:=Rr h;exact(⟨a,by rw[b,Int.zero_add]⟩)
def Ou{lo:Int}{n:Nat}:(rm lo n).length=n:=by simp[rm]
def Bh:Option (List D×M)->Fr
 |some (rs,L)=>some (.lst rs,L)
 |none=>none
@[simp] theorem kLst_s{rs:List D}{L:M}:Bh (some (rs,L))=some (.lst rs,L):=rfl
def EA(own:List Str)(cap:List (Str×Nat))(g:GV)(tc:BV)(te:EV)(O:G):Option ((List D×Ck)×M)->Fr
 |some ((its,c),L)=>if its.length<=1000000 then Bh (rX c g tc te its (rJ own cap O) L) else none
 |none=>none
@[simp] theorem Ch{own:List Str}{cap:List (Str×Nat)}{g:GV}{tc:BV}{te:EV}{O:G}{its:List D}{c:Ck}{L:M}:EA own cap g tc te O (some ((its,c),L))=if its.length<=1000000 then Bh (rX c g tc te its (rJ own cap O) L) else none:=rfl
@[simp] theorem E6{own:List Str}{cap:List (Str×Nat)}{iv:IV}{g:GV}{tc:BV}{te:EV}{O:G}{L:M}:rF own cap iv g tc te O L=EA own cap g tc te O (iv O L):=by
 unfold rF EA;cases iv O L with
 |none=>rfl
 |some s=>
  obtain⟨⟨its,c⟩,Z5⟩:=s;show(if its.length<=1000000 then(rX c g tc te its (rJ own cap O) Z5).bind _ else none)=if its.length<=1000000 then Bh (rX c g tc te its (rJ own cap O) Z5) else none
  split
  ·cases rX c g tc te its (rJ own cap O) Z5<;>rfl
  ·rfl
def Ad:Option (List D×M)->Fr
 |some (rs,L)=>if rs.length<=1000000 then some (.lst rs,L) else none
 |none=>none
@[simp] theorem FY{rs:List D}{L:M}:Ad (some (rs,L))=if rs.length<=1000000 then some (.lst rs,L) else none:=rfl
def Ce(own:List Str)(cap:List (Str×Nat))(g:GV)(tc:BV)(iv2:IV)(g2:GV)(tc2:BV)(te:EV)(O:G):Option ((List D×Ck)×M)->Fr
 |some ((its,c),L)=>Ad (tW c g tc iv2 g2 tc2 te its (rJ own cap O) L)
 |none=>none
@[simp] theorem Ku{own:List Str}{cap:List (Str×Nat)}{iv2:IV}{g g2:GV}{tc tc2:BV}{te:EV}{O:G}{its:List D}{c:Ck}{L:M}:Ce own cap g tc iv2 g2 tc2 te O (some ((its,c),L))=Ad (tW c g tc iv2 g2 tc2 te its (rJ own cap O) L):=rfl
@[simp] theorem Gj{own:List Str}{cap:List (Str×Nat)}{iv iv2:IV}{g g2:GV}{tc tc2:BV}{te:EV}{O:G}{L:M}:vW own cap iv g tc iv2 g2 tc2 te O L=Ce own cap g tc iv2 g2 tc2 te O (iv O L):=by
 unfold vW Ce;cases iv O L with
 |none=>rfl
 |some s=>
  obtain⟨⟨its,c⟩,Z5⟩:=s;show(tW c g tc iv2 g2 tc2 te its (rJ own cap O) Z5).bind _=Ad (tW c g tc iv2 g2 tc2 te its (rJ own cap O) Z5);cases tW c g tc iv2 g2 tc2 te its (rJ own cap O) Z5<;>rfl
def tt(kvs:List (Key×D))(k:Key):Option D:=(kvs.find? fun kv=>decide (kv.1=k)).map (·.2)
def tM(kvs:List (Key×D))(k:Key)(v:D):List (Key×D):=
 if(kvs.any fun kv=>decide (kv.1=k))=true then kvs.map (fun kv=>if kv.1=k then(kv.1,v) else kv) else kvs++[(k,v)]
def u6:D->Option Key
 | .int i=>some (.inl i)
 | .str x=>some (.inr x)
 |_=>none
def sF(L:M):D->Option (List (Key×D))
 | .ref k=>match L[k]? with
  |some (some (.dK kvs))=>some kvs
  |_=>none
 |_=>none
section
variable {K:Frag} {W:Wd}
theorem ED{d:D}{k:Key}{v:V}(h:u6 d=some k)(r:DR K W d v):v=kV k:=by
 cases d<;>simp only[u6] at h<;>cases h<;>cases r<;>rfl
theorem yL{d:D}{kvs:List (Key×D)}{v:V}(ok:Ok K W)(h:sF W.L d=some kvs)(r:DR K W d v):
  ∃k a vs,d=.ref k/\v=.ref a/\W.L[k]?=some (some (.dK kvs))/\W.ρ[k]?=some a/\W.H a=some (.dK vs)/\KR K W kvs vs:=by
 cases d with
 |ref k=>
  simp only[sF] at h;split at h
  ·rename_i kvs' hk;cases h;cases r with
   |ref ha=>
    obtain⟨a',ho,h1,h2,vs,rfl,r⟩:=ok.at_ k _ hk;rw[ha] at h1;cases h1;exact(⟨k,_,vs,rfl,rfl,hk,ha,h2,r⟩)
  ·cases h
 |_=>simp[sF] at h
theorem KR.len{kvs:List (Key×D)}{vs:List (Key×V)}(r:KR K W kvs vs):kvs.length=vs.length:=Paired.length r
theorem KR.any{kvs:List (Key×D)}{vs:List (Key×V)}(r:KR K W kvs vs)(k:Key):(kvs.any fun kv=>decide (kv.1=k))=vs.any fun kv=>decide (kv.1=k):=by
 unfold KR at r;induction r with
 |nil=>rfl
 |cons h t ih=>rw[Yf,Yf,ih,h.1]
theorem KR.val{kvs:List (Key×D)}{vs:List (Key×V)}(r:KR K W kvs vs)(k:Key):(tt kvs k).isSome=(sQ vs k).isSome:=by
 unfold KR at r;induction r with
 |nil=>rfl
 | @cons p q ps qs h t ih=>
  by_cases e:p.1=k
  ·rw[wF (by rw[←h.1];exact e)];simp[tt,Xp,e]
  ·rw[wB (by rw[←h.1];exact e)];simp only[tt,Xp,e,decide_false] at ih⊢;exact ih
theorem KR.snoc{kvs:List (Key×D)}{vs:List (Key×V)}(r:KR K W kvs vs)(k:Key){d:D}{v:V}(rv:DR K W d v):KR K W (kvs++[(k,d)]) (vs++[(k,v)]):=Paired.snoc r ⟨rfl,rv⟩
theorem KR.repl{kvs:List (Key×D)}{vs:List (Key×V)}(r:KR K W kvs vs)(k:Key){d:D}{v:V}(rv:DR K W d v):
  KR K W (kvs.map fun kv=>if kv.1=k then(kv.1,d) else kv) (vs.map fun kv=>if kv.1=k then(kv.1,v) else kv):=by
 unfold KR at r⊢;induction r with
 |nil=>exact .nil
 | @cons p q ps qs h t ih=>
  refine .cons ?_ ih;show(if p.1=k then(p.1,d) else p).1=(if q.1=k then(q.1,v) else q).1/\DR K W (if p.1=k then(p.1,d) else p).2 (if q.1=k then(q.1,v) else q).2;by_cases e:p.1=k
  ·rw[if_pos e,if_pos (by rw[←h.1];exact e)];exact⟨h.1,rv⟩
  ·rw[if_neg e,if_neg (by rw[←h.1];exact e)];exact h
theorem KR.put{kvs:List (Key×D)}{vs:List (Key×V)}(r:KR K W kvs vs)(k:Key){d:D}{v:V}(rv:DR K W d v):KR K W (tM kvs k d) (sj vs k v):=by
 unfold tM sj;rw[r.any k];by_cases e:(vs.any fun kv=>decide (kv.1=k))=true
 ·rw[if_pos e,if_pos e];exact r.repl k rv
 ·rw[if_neg e,if_neg e];exact r.snoc k rv
theorem KR.vals{kvs:List (Key×D)}{vs:List (Key×V)}(r:KR K W kvs vs):DRs K W (kvs.map (·.2)) (vs.map (·.2)):=by
 unfold KR at r;induction r with
 |nil=>exact .nil
 |cons h t ih=>exact .cons h.2 ih
theorem KO{k:Nat}{a:Addr}{kvs kvs':List (Key×D)}{vs':List (Key×V)}(ok:Ok K W)(hk:W.L[k]?=some (some (.dK kvs)))(ha:W.ρ[k]?=some a)(hs:KR K W kvs' vs'):
  Ok K (W.put k a (.dK vs') (.dK kvs'))/\Step W (W.put k a (.dK vs') (.dK kvs')):=⟨Bv ok hk ha ⟨vs',rfl,hs⟩,v3 hk ha⟩
theorem CJ{d:D}{kvs:List (Key×D)}{v:V}(ok:Ok K W)(h:sF W.L d=some kvs)(r:DR K W d v):tyV K "dict" v W.H:=by
 obtain⟨k,a,vs,rfl,rfl,_,_,hh,_⟩:=yL ok h r;exact(.inr (.inr (.inl ⟨rfl,.inl ⟨vs,hh⟩⟩)))
end
def vc(n:Nat)(c:Ck)(g:GV)(tc:BV)(tk tv:EV):List D->G->M->Option M
 | [],_,L=>some L
 |d::r,O,L=>(g d O L).bind fun p=>(tc p.1 p.2).bind fun t=>if t.1=true then(tk p.1 t.2).bind fun y=>(tv p.1 y.2).bind fun v=>(u6 y.1).bind fun k=>(sF v.2 (.ref n)).bind fun kvs=>
   chk (kvs.length<1000000/\qY c (v.2.set n (some (.dK (tM kvs k v.1))))) (vc n c g tc tk tv r p.1 (v.2.set n (some (.dK (tM kvs k v.1))))) else chk (qY c t.2) (vc n c g tc tk tv r p.1 t.2)
section
variable {X:Cx} {K:Frag} {a b e o:Expr} {ea eb eo:EV} {pos p apos pos1:Pos} {k:Nat}
def yW:EV:=fun _ L=>some (.ref L.length,L++[some (.dK [])])
theorem LK:PE X (.Dict [] [] pos) (tD K yW):=rf MY fun B H Q h=>by
 refine el4 h fun W O d Z6 eH ok en e q=>?_;subst eH;cases e;intro pa hp;exact q _ (W.new pa (.dK []) (.dK [])) rfl (zG ok hp ⟨[],rfl,.nil⟩) (u0 ok hp) (ze ok)
def tT(x y:D)(L:M):Fr:=(sF L x).bind fun kvs=>(u6 y).bind fun k=>(tt kvs k).bind fun d=>some (d,L)
theorem KR.at{W:Wd}{kvs:List (Key×D)}{vs:List (Key×V)}(r:KR K W kvs vs){k:Key}{d:D}(h:tt kvs k=some d):∃v,sQ vs k=some v/\DR K W d v:=by
 unfold KR at r;induction r with
 |nil=>cases h
 | @cons p q ps qs hd t ih=>
  by_cases e:p.1=k
  ·have:tt (p::ps) k=some p.2:=by simp[tt,Xp,e]
   rw[this] at h;cases h;exact⟨q.2,wF (by rw[←hd.1];exact e),hd.2⟩
  ·have:tt (p::ps) k=tt ps k:=by simp[tt,Xp,e]
   rw[this] at h;obtain⟨v,h1,h2⟩:=ih h;exact⟨v,by rw[wB (by rw[←hd.1];exact e)];exact h1,h2⟩
theorem Af(hr:Room k X.A)(ha:PE X a (tD K ea))(hb:PE X b (tD K eb))(hs:Bf b:=by exact fun _ _=>rfl):PE X (.Subscript a b pos) (tD K (v2 tT ea eb)):=
 rf (Ir (by have:=hr.units;omega) ha hb hs) fun B H Q h=>by
  refine el4 h fun W O d Z6 eH ok en e q=>?_;subst eH;refine qE e fun p1 e1 e=>?_;refine qE e fun p2 e2 e=>?_;refine qE e fun kvs e3 e=>?_;refine qE e fun ky e4 e=>?_;refine qE e fun d2 e5 e=>?_;cases e;refine⟨W,O,p1.1,p1.2,rfl,ok,en,e1,fun x W1 Z1 ok1 s1 r1=>⟨W1,O,p2.1,p2.2,rfl,ok1,en.step ok s1,by rw[Z1];exact e2,fun y W2 ZV ok2 s2 r2=>?_⟩⟩;rw[←ZV] at e3;obtain⟨n,a,vs,hd,rfl,hk,ha,hh,hs⟩:=yL ok2 e3 (r1.step ok1 s2);have:=ED e4 r2;subst this;obtain⟨v,h1,h2⟩:=hs.at e5;exact⟨a,v,rfl,by rw[←h1];exact DGet.k hh,q _ W2 ZV ok2 (s1.trans s2) h2⟩
def z8(x:D)(L:M):Fr:=(sF L x).bind fun kvs=>some (.lst (kvs.map (·.2)),L)
theorem NQ(ml:X.mg "list"=none) (ho:PE X o (tD K eo)) (hc:X.calm=true:=by rfl) (hg:Gl X "list":=by rfl) (hbase:attributeBase o "values" X.env (eval o X.env)=eval o X.env:=by rfl) (hline:(apos.endLine==pos1.line)=true:=by rfl)
  (hs:starEach [.Call (.Attribute o "values" apos) [] [] pos1] X.env=[(false,eval (.Call (.Attribute o "values" apos) [] [] pos1) X.env)]:=by rfl) (hK:X.K=K:=by rfl):
  PE X (.Call (.Name "list" p) [.Call (.Attribute o "values" apos) [] [] pos1] [] pos) (tD K (v1 z8 eo)):=by
 refine rf (zq (p:=p) (pos:=pos) (NA (X:=X)) hg ml rfl (rP (SS K ho hbase hline hK) so hs) (he:=hs)) fun B H Q h=>?_;refine el4 h fun W O d Z6 eH ok en e q=>?_;subst eH;refine qE e fun p1 e1 e=>?_;refine qE e fun kvs e2 e=>?_;cases e;refine⟨W,O,p1.1,p1.2,rfl,ok,en,e1,fun x W1 Z1 ok1 s1 r1=>?_⟩;rw[←Z1] at e2;obtain⟨k,a,vs,hd,rfl,hk,ha,hh,hs⟩:=yL ok1 e2 r1;refine(⟨CJ ok1 e2 r1,a,vs,rfl,rfl,hh,fun v hv=>?_⟩);refine⟨v,a,vs,rfl,sf,by rw[qZ (fun z=>by rw[z,hv] at hh;cases hh)];exact hh,hc,fun l hl=>?_⟩;have ok2:=sU (o:=vvO v a) ok1 hv;have s2:=se (o:=vvO v a) hv;have r2:=hs.vals.step ok1 s2;exact q _ ((W1.lay v (vvO v a)).lay l (.lst (vs.map (·.2)))) Z1 (sU ok2 hl) ((s1.trans s2).trans (se hl)) (xr ok2 hl r2)
def uv(eo ek ed:EV):EV:=fun O L=>(eo O L).bind fun p=>(sF p.2 p.1).bind fun _=>(ek O p.2).bind fun q=>(ed O q.2).bind fun r=>(u6 q.1).bind fun k=>(sF r.2 p.1).bind fun kvs=>match p.1 with
 | .ref n=>if kvs.length<1000000 then(match tt kvs k with
  |some d=>some (d,r.2)
  |none=>some (r.1,r.2.set n (some (.dK (tM kvs k r.1))))) else none
 |_=>none
theorem DB(ho:PE X o (tD K eo))(ha:PE X a (tD K ea))(hb:PE X b (tD K eb))(hs:starEach [a,b] X.env=[(false,eval a X.env),(false,eval b X.env)]:=by rfl)(hs2:starEach [b] X.env=[(false,eval b X.env)]:=by rfl)
  (hbase:attributeBase o "setdefault" X.env (eval o X.env)=eval o X.env:=by rfl) (hline:(apos.endLine==pos.line)=true:=by rfl) (hK:X.K=K:=by rfl)
  (hfew:((backTo pos (starEach [a,b] X.env)).all (fun x=>!x.1)&&(backToKw pos (keywordEach [] X.env)).all (fun x=>x.1.isSome)
   &&decide ([a,b].length+([]:List Keyword).length+(if([]:List Keyword).isEmpty then 0 else 1)<30))=true:=by rfl):
  PE X (.Call (.Attribute o "setdefault" apos) [a,b] [] pos) (tD K (uv eo ea eb)):=rf (Rw K ho ha hb hs hs2 hbase hline hK hfew) fun B H Q h=>by
 refine el4 h fun W O d Z6 eH ok en e q=>?_;subst eH;refine qE e fun p1 e1 e=>?_;refine qE e fun kv0 e0 e=>?_;refine qE e fun p2 e2 e=>?_;refine qE e fun p3 e3 e=>?_;refine qE e fun ky e4 e=>?_;refine qE e fun kvs e5 e=>?_;refine⟨W,O,p1.1,p1.2,rfl,ok,en,e1,fun x W1 Z1 ok1 s1 r1=>⟨CJ ok1 (by rw[Z1];exact e0) r1,W1,O,p2.1,p2.2,rfl,ok1,en.step ok s1,by rw[Z1];exact e2,fun y W2 ZV ok2 s2 r2=>⟨W2,O,p3.1,p3.2,rfl,ok2,(en.step ok s1).step ok1 s2,by rw[ZV];exact e3,fun z W3 ZS ok3 s3 r3=>?_⟩⟩⟩;rw[←ZS] at e5;obtain⟨n,a1,vs,hd,rfl,hk,ha1,hh,hs1⟩:=yL ok3 e5 ((r1.step ok1 s2).step ok2 s3);have:=ED e4 (r2.step ok2 s3);subst this;rw[hd] at e;simp only at e;split at e
 ·rename_i hl;refine⟨a1,vs,ky,z,rfl,rfl,hh,zZ (by rw[←hs1.len];omega),fun v hv=>?_,fun hv=>?_⟩
  ·split at e
   ·rename_i d0 hd0;cases e;obtain⟨v',h1,h2⟩:=hs1.at hd0;rw[hv] at h1;cases h1;exact(q _ W3 ZS ok3 ((s1.trans s2).trans s3) h2)
   ·rename_i hd0;have:=hs1.val ky;rw[hd0,hv] at this;cases this
  ·split at e
   ·rename_i d0 hd0;have:=hs1.val ky;rw[hd0,hv] at this;cases this
   ·cases e;obtain⟨o4,s4⟩:=KO (vs':=sj vs ky z) (kvs':=tM kvs ky p3.1) ok3 hk ha1 (hs1.put ky r3);exact q _ (W3.put n a1 (.dK (sj vs ky z)) (.dK (tM kvs ky p3.1))) (by show W3.L.set _ _=_;rw[ZS]) o4 (((s1.trans s2).trans s3).trans s4) (r3.step ok3 s4)
 ·cases e
end
end L3
namespace L2
open PySem PySem.W PySem.Spec PyProof.Rows
structure FlewH (P:Program) (w:World) (outer:List Env) (Z9:Addr) (H H':Hp) (s:Shared) (e:Addr) (C:Value) (Z7:Heap) (s':Shared):Prop where
 os:s'.os=s.os
 bare:AllBare s'.gens
 un:Un (frs outer) [] H H' s.heap s'.heap
 hok:HOk P w H' s'.heap
 trk:∀b o,s'.heap.get? b=some o->H' b≠none->Z7.get? b=some o
 old:∀b o,s.heap.get? b=some o->H b=none->b∉frs outer->Z7.get? b=some o
 thr:∀b o,s.heap.get? b=some o->b∉frs outer->∃o',Z7.get? b=some o'
 frf:∀b∈frs outer,H b=none
 unt:H' e=none
 new:s.heap.get? e=none
 fly:∃a0,Heap.HeldW Z7 outer e C a0 Z9 s'.heap
section
variable {P:Program} {w:World} {outer:List Env} {Z9:Addr} {H H':Hp} {s s':Shared} {e:Addr} {C:Value} {Z7:Heap}
theorem Flew.noted{h2:Heap}(F:Flew P w outer H H' s e C Z7 s')(hs:s'.heap.UpToSlots h2)(fl:∃a0,Heap.HeldW Z7 outer e C a0 Z9 h2):FlewH P w outer Z9 H H' s e C Z7 {s' with heap:=h2}:=by
 obtain⟨a0,fl⟩:=fl;obtain⟨u,k,t⟩:=F.to fl.1 hs;exact(⟨F.os,F.bare,u,k,t,F.old,F.thr,F.frf,F.unt,F.new,a0,fl⟩)
theorem FlewH.to{h2:Heap}(F:FlewH P w outer Z9 H H' s e C Z7 s')(hB:Z7.StaysIn h2)(hs:s'.heap.UpToSlots h2):Un (frs outer) [] H H' s.heap h2/\HOk P w H' h2/\∀b o,h2.get? b=some o->H' b≠none->Z7.get? b=some o:=by
 obtain⟨a0,fl⟩:=F.fly;have kp:∀b o,s.heap.get? b=some o->H b=none->b∉frs outer->h2.get? b=some o:=fun b o x n hb=>hB b o (F.old b o x n hb);have sl:∀b o,s.heap.get? b=some o->H b=none->b∈frs outer->∃sl,h2.get? b=some {o with slots:=sl}:=fun b o x n hb=>by
  obtain⟨sl,e1⟩:=F.un.slot b o x n hb (by simp);obtain⟨_,o',e2,d⟩:=fl.2.2.1.mem hb;rw[e1] at e2;cases e2;obtain⟨sl',e3⟩:=hs b {o with slots:=sl} e1 d;exact(⟨sl',e3⟩)
 refine⟨⟨fun b o x n hb _=>kp b o x n hb,fun b o x n hb _=>sl b o x n hb,F.un.free,fun b o x _=>?_,F.un.tups,F.un.frzs,F.un.tbls⟩,fun a u eu=>?_,fun b o x n=>?_⟩
 ·by_cases hb:b∈frs outer
  ·obtain⟨l,e1⟩:=sl b o x (F.frf b hb) hb;exact⟨_,e1⟩
  ·obtain⟨o',e1⟩:=F.thr b o x hb;exact⟨o',hB b o' e1⟩
 ·refine(F.hok a u eu).stay (fun b v hb q=>hB b v (F.trk b v q ?_)) (fun _ q=>q) fun _ _ q=>q;rcases hb with z|z
  ·rw[z,eu];simp
  ·rw[z];simp
 ·cases eu:H' b with
  |none=>exact absurd eu n
  |some u=>
   obtain⟨o1,e1⟩:=(F.hok b u eu).there;have e2:=F.trk b o1 e1 n;have e3:=hB b o1 e2;rw[x] at e3;cases e3;exact(e2)
theorem FlewH.next{h2:Heap}(F:FlewH P w outer Z9 H H' s e C Z7 s')(hs:s'.heap.UpToSlots h2)(fl:∃a0,Heap.HeldW Z7 outer e C a0 Z9 h2):FlewH P w outer Z9 H H' s e C Z7 {s' with heap:=h2}:=by
 obtain⟨a0,fl⟩:=fl;obtain⟨u,k,t⟩:=F.to fl.1 hs;exact(⟨F.os,F.bare,u,k,t,F.old,F.thr,F.frf,F.unt,F.new,a0,fl⟩)
theorem FlewH.lands{h2:Heap}(F:FlewH P w outer Z9 H H' s e C Z7 s')(hs:s'.heap.UpToSlots h2)(fl:∃a0,Heap.FlyingW Z7 outer e C a0 h2):Flew P w outer H H' s e C Z7 {s' with heap:=h2}:=by
 obtain⟨a0,fl⟩:=fl;obtain⟨u,k,t⟩:=F.to fl.1 hs;exact(⟨F.os,F.bare,u,k,t,F.old,F.thr,F.frf,F.unt,F.new,a0,fl⟩)
end
theorem Kx{M:Model}{A:Around}{E:OK}{s:Shared}{base:Heap}{l:List Env}{e Z9:Addr}{cls a0:Value}{Q:Unit->Shared->Prop}(R:Heap.HeldW base l e cls a0 Z9 s.heap)
  (h:∀h',Heap.HeldW base l e cls a0 Z9 h'->s.heap.UpToSlots h'->Q () {s with heap:=h'}):wpAny M A (setFlight (.ref e) (some Z9)) Q E s:=by
 obtain⟨hkb,hen,hl,oe,vs,T,oT,ts,he,hcls,hd,h1,hnT,hTe,hT,hdT,h3⟩:=R;have hsz3:3<ts.size:=(Array.getElem?_eq_some_iff.mp h3).1;have other:∀b,b≠T->(s.heap.update T (Obj.mapFields (·.setIfInBounds 3 ((some Z9).elim Value.none fun f=>rawInt f)))).get? b=s.heap.get? b:=
  fun b hb=>Yg _ _ (Ne.symm hb)
 have noRecord:∀b o,s.heap.get? b=some o->(∀vs,o.data≠.fields vs)->b≠T:=fun b o hb hnf q=>by
  rw[q,hT] at hb;injection hb with hb;subst hb;exact hnf ts hdT
 unfold setFlight;refine Xb (wpAny_field he hd h1 ?_);rw[if_pos (show(Value.ref T !=Value.none)=true from by simp)];refine wpAny_setField hT hdT hsz3 (h _ ⟨fun b o hbo=>(other b fun q=>by rw[q,hnT] at hbo;cases hbo).trans (hkb b o hbo),hen,
  hl.of_keeps fun b o hb hnf=>⟨o,(other b (noRecord b o hb hnf)).trans hb,rfl⟩,?_⟩ fun b o hb hnf=>⟨o.slots,(other b (noRecord b o hb hnf)).trans hb⟩)
 exact⟨oe,vs,T,_,_,(other e (Ne.symm hTe)).trans he,hcls,hd,h1,hnT,hTe,Heap.get?_update_self _ hT (Obj.isFreed_of_fields (Obj.data_mapFields hdT _)),Obj.data_mapFields hdT _,by simp[hsz3]⟩
theorem OM{M:Model}{A:Around}{E:OK}{s:Shared}{base h:Heap}{env:Env}{outer:List Env}{Z9 e:Addr}{cls:Value}{args:List Value}{Q:Unit->Shared->Prop}
  (hfr:A.frames=some (env::outer)) (hf:env.frame=some Z9) (hkb:base.StaysIn h) (hl:h.FunFrames base (env::outer)) (hx:Heap.MadeExcOf h s.heap e cls args)
  (hQ:∀h' a0,Heap.HeldW base (env::outer) e cls a0 Z9 h'->s.heap.UpToSlots h'->Q () {s with heap:=h'}):wpAny M A (noteFrame (.ref e) env) Q E s:=by
 obtain⟨t,he,htn,ht⟩:=hx.there;have fresh:∀b,h.get? b=none->base.get? b=none:=fun b hb=>by
  cases hq:base.get? b with
  |none=>rfl
  |some o'=>have:=hkb b o' hq;rw[hb] at this;cases this
 unfold noteFrame;simp only[hf];refine Xb (wpAny_field he rfl (show(#[Value.ref t,.none,.none,.none,.bool false,.none]:Array Value)[1]?=some Value.none from rfl) ?_);rw[if_neg (show ¬((Value.none !=Value.none)=true) from by decide)];refine wpAny_entryW (a0:=.ref t) hfr (hl.of_keeps fun b o hb _=>⟨o,hx.keeps b o hb,rfl⟩) hf he (fun b o hb=>hx.keeps b o (hkb b o hb)) (fresh e hx.new) rfl (by simp) rfl fun h' hN=>?_;obtain⟨k1,k2,k3,k4⟩:=hN;exact(hQ h' _ ⟨k1,fresh e hx.new,k2,k3⟩ k4)
def Lv(X:Cx):Prop:=X.stack=X.env::X.outer/\X.env.frame=some X.env.locals
def FlX(X:Cx)(E:St->XK)(e:Value)(s':Shared):Prop:=∃(a:Addr) (C:Value) (pins:QS) (B:St) (H H':Hp) (s:Shared),e=.ref a/\Inv X pins B H s/\E B C none H'/\
 ((H'=H/\∃(D:Addr) (vs:List Value) (h':Heap),C=.ref D/\s'={s with heap:=h'}/\Heap.MadeExcOf s.heap h' a C vs)\/(∃Z7,Flew X.prog X.w X.stack H H' s a C Z7 s')\/(∃Z7,FlewH X.prog X.w X.stack X.env.locals H H' s a C Z7 s'))
section
variable {X:Cx} {E:St->XK} {pins:QS} {B:St} {H H':Hp} {s s':Shared} {a:Addr} {C:Value} {Z7:Heap}
theorem RU{M:Model}{A:Around}{E':OK}{D:Addr}{vs:List Value}{h':Heap}{Q:Unit->Shared->Prop}(lv:Lv X)(hA:A.frames=X.A.frames)(I:Inv X pins B H s)(hx:Heap.MadeExcOf s.heap h' a (.ref D) vs)
  (hQ:∀Z7 h2,FlewH X.prog X.w X.stack X.env.locals H H s a (.ref D) Z7 {s with heap:=h2}->Q () {s with heap:=h2}):wpAny M A (noteFrame (.ref a) X.env) Q E' {s with heap:=h'}:=by
 obtain⟨lv1,lv2⟩:=lv;have fs:∀b,b∈frs X.stack->H b=none:=I.stkFree;have inn:∀b o,s.heap.get? b=some o->b∉frs X.stack->(hideAll s.heap (frs X.stack)).get? b=some o:=fun b o e hb=>hideAll_get _ e hb;have hin:∀env∈X.stack,∀a,env.frame=some a->a∈frs X.stack:=fun env he a ha=>List.mem_filterMap.mpr ⟨env,he,ha⟩;have nfr:∀b,H b≠none->b∉frs X.stack:=fun b n z=>n (fs b z);refine OM (base:=hideAll s.heap (frs X.stack)) (env:=X.env) (outer:=X.outer) (by rw[hA,I.ok.frames,lv1]) lv2 (fun b o q=>of_hideAll _ q) (by rw[←lv1];exact funFrames_hide I.stack hin) hx fun h2 a0 fl ups=>hQ (hideAll s.heap (frs X.stack)) h2 ?_;have hB:=fl.1;have hkeep:∀b o,s.heap.get? b=some o->b∉frs X.stack->h2.get? b=some o:=fun b o e hb=>hB b o (inn b o e hb);have hslot:∀b o,s.heap.get? b=some o->b∈frs X.stack->∃sl,h2.get? b=some {o with slots:=sl}:=fun b o e hb=>by
  obtain⟨_,o',e2,d⟩:=I.stack.mem hb;rw[e] at e2;cases e2;obtain⟨sl',e3⟩:=ups b o (hx.keeps b o e) d;exact(⟨sl',e3⟩)
 refine⟨rfl,I.bare,⟨fun b o x n hb _=>hkeep b o x hb,fun b o x n hb _=>hslot b o x hb,fun b o x n _=>n,fun b o x _=>?_,fun _ _ z=>z,fun _ _ _ z=>z,fun _ ps z=>⟨#[],by simpa using z⟩⟩,fun b u eu=>?_,fun b o x n=>?_,fun b o x n hb=>inn b o x hb,fun b o x hb=>⟨o,inn b o x hb⟩,fs,?_,hx.new,a0,?_⟩
 ·by_cases hb:b∈frs X.stack
  ·obtain⟨l,e1⟩:=hslot b o x hb;exact⟨_,e1⟩
  ·exact⟨o,hkeep b o x hb⟩
 ·refine(I.hok b u eu).stay (fun c v hb q=>hkeep c v q (nfr c ?_)) (fun _ q=>q) fun _ _ q=>q;rcases hb with z|z
  ·rw[z,eu];simp
  ·rw[z];simp
 ·cases eu:H b with
  |none=>exact absurd eu n
  |some u=>
   obtain⟨o1,e1⟩:=(I.hok b u eu).there;have e2:=inn b o1 e1 (nfr b n);have e3:=hB b o1 e2;rw[x] at e3;cases e3;exact(e2)
 ·cases eu:H a with
  |none=>rfl
  |some u=>
   obtain⟨o1,e1⟩:=(I.hok a u eu).there;rw[hx.new] at e1;cases e1
 ·rw[←lv1] at fl;exact fl
theorem S3{M:Model}{A:Around}{E':OK}{e:Value}{Q:Unit->Shared->Prop}(lv:Lv X)(hA:A.frames=X.A.frames)(h:FlX X E e s')
  (hQ:∀a C pins B H H' s Z7 s2,e=.ref a->Inv X pins B H s->E B C none H'->FlewH X.prog X.w X.stack X.env.locals H H' s a C Z7 s2->Q () s2):wpAny M A (noteFrame e X.env) Q E' s':=by
 obtain⟨a,C,pins,B,H,H',s,rfl,I,hE,h⟩:=h;rcases h with⟨rfl,D,vs,h',rfl,rfl,hx⟩|⟨Z7,F⟩|⟨Z7,F⟩
 ·exact RU lv hA I hx fun Z7 h2 F=>hQ _ _ _ _ _ _ _ _ _ rfl I hE F
 ·obtain⟨a0,fl⟩:=F.fly;have fl':Heap.FlyingW Z7 (X.env::X.outer) a C a0 s'.heap:=by rw[←lv.1];exact fl
  refine wpAny_looks_onW (by rw[hA,I.ok.frames,lv.1]) lv.2 fl' fun h2 hh hs=>hQ _ _ _ _ _ _ _ _ _ rfl I hE (F.noted hs ⟨a0,by rw[lv.1];exact hh⟩)
 ·obtain⟨a0,fl⟩:=F.fly;exact wpAny_noteFrame_againW lv.2 fl.2.2.2 (hQ _ _ _ _ _ _ _ _ _ rfl I hE F)
theorem UD(lv:Lv X):PassesOwn (model X.prog X.w) X.A X.env (FlX X E):=fun e s' h=>by
 refine S3 lv rfl h fun a C pins B H H' s Z7 s2 he I hE F=>?_;subst he;obtain⟨a0,fl⟩:=F.fly;obtain⟨oe,vs,T,oT,ts,g1,_,g2,g3,_⟩:=id fl.2.2.2;show wpAny _ _ (do
  if(←field (.ref a) 1)==.none then unsupported "frame.own-activation:exception-without-traceback"
  setFlight (.ref a) X.env.frame) _ _ _
 refine Xb (wpAny_field g1 g2 g3 ?_);rw[if_neg (show ¬((Value.ref T==Value.none)=true) from by simp),lv.2];first
  |exact Xb (Xf (Kx fl fun h2 hh hs=>⟨a,C,pins,B,H,H',s,rfl,I,hE,.inr (.inr ⟨Z7,F.next hs ⟨a0,hh⟩⟩)⟩))
  |exact Kx fl fun h2 hh hs=>⟨a,C,pins,B,H,H',s,rfl,I,hE,.inr (.inr ⟨Z7,F.next hs ⟨a0,hh⟩⟩)⟩
end
section
variable {P:Program} {w:World} {K:Frag} {mg:Str->Option Value} {base:Heap} {N:List Str} {qual:Str} {scope:Scope} {f:Addr} {cd:Value} {A:Around} {outer:List Env} {s:Shared} {H:Hp} {E:XK}
theorem P5{e:Value}{s':Shared}(h:FlX (rA (CXr P w) P w K mg base N qual scope f cd A outer s H E) (fun _=>E) e s'):(rA (CXr P w) P w K mg base N qual scope f cd A outer s H E).xe e s':=by
 obtain⟨a,C,pins,B,H1,H',s1,rfl,I,hE,h⟩:=h;rcases h with⟨rfl,D,vs,h',rfl,rfl,hx⟩|⟨Z7,F⟩|⟨Z7,F⟩
 ·exact SM I hx hE
 ·exact Ww (E':=E) (fun _ _ _ z=>z) pins B H1 s1 _ s' I ⟨a,C,H',Z7,rfl,F,hE⟩
 ·obtain⟨a0,fl⟩:=F.fly;show wpAny (model P w) (A.deeper (envOfC qual scope s.heap.objs.size f cd)) (leaving (envOfC qual scope s.heap.objs.size f cd) (.ref a)) _ _ _;unfold leaving;refine Xb (wpAny_noteFrame_againW rfl fl.2.2.2 (wpAny_landsW fl fun h2 fl2 ups=>?_));have F2:=F.lands ups ⟨a0,fl2⟩;have I2:=Flew.inv (X:=rA (CXr P w) P w K mg base N qual scope f cd A outer s H E) F2 I;have out:∀b o,s.heap.get? b=some o->b∉frs outer->b∉frs (envOfC qual scope s.heap.objs.size f cd::outer):=fun b o e hb z=>by
   have z:b∈s.heap.objs.size::frs outer:=z;rcases XB.mp z with q|q
   ·rw[q] at e;exact X0 _ (Xi e)
   ·exact hb q
  obtain⟨f1,f2,⟨_,_,f3⟩,f4⟩:=id fl2;refine⟨a,C,H',Z7,rfl,⟨I2.os,F2.bare,⟨fun b o x n hb _=>I2.base.keep b o x n hb (by simp[rA]),fun b o x n hb _=>I2.base.slot b o x n hb (by simp[rA]),fun b o x n _=>I2.base.free b o x n (by simp[rA]),fun b o x _=>I2.base.there b o x (by simp[rA]),I2.base.tups,I2.base.frzs,I2.base.tbls⟩,F2.hok,F2.trk,
   fun b o x n hb=>F2.old b o (I.base.keep b o x n hb (by simp[rA])) (I.base.free b o x n (by simp[rA])) (out b o x hb),fun b o x hb=>?_,I.ok.frf,F2.unt,?_,a0,f1,f2,f3,f4⟩,hE⟩
  ·obtain⟨o1,e1⟩:=I.base.there b o x (by simp[rA]);exact F2.thr b o1 e1 (out b o x hb)
  ·cases eo:s.heap.get? a with
   |none=>rfl
   |some o=>
    obtain⟨o1,e1⟩:=I.base.there a o eo (by simp[rA]);rw[F2.new] at e1;cases e1
end
abbrev Cx.fl(X:Cx)(E:St->XK):Cx:=X.wish (FlX X E)
abbrev yQ:List Value:=[.type "ValueError",.type "Exception",.type "BaseException",.type "object"]
def uC(K:Frag)(C:Addr):Prop:=∃bm N nm q bs hdct sn sub ab col dd k0 k1 k2 k3 k5,
  K.lookup C=some (excClassObj nm q C N bs bm hdct sn sub ab col dd k0 k1 k2 k3 k5 "ValueError.__new__")/\tailIn K yQ bm=true/\nsOkIn K N=true/\nsIn K N "__init__"=some none
theorem UU{K:Frag}{h:Heap}{C:Addr}{G:Prop}(X:K.In h)(q:uC K C)
  (k:∀bm N nm q bs hdct sn sub ab col dd k0 k1 k2 k3 k5 mN,h.get? C=some (excClassObj nm q C N bs bm hdct sn sub ab col dd k0 k1 k2 k3 k5 "ValueError.__new__")->h.Ns N mN->mN "__init__"=none->OwnTail h yQ bm->G):G:=by
 obtain⟨bm,N,nm,q,bs,hdct,sn,sub,ab,col,dd,k0,k1,k2,k3,k5,ho,ht,hok,hni⟩:=q;exact(k bm N nm q bs hdct sn sub ab col dd k0 k1 k2 k3 k5 _ (X _ _ ho) (.of_isNs (isNs_of_in X hok)) (nsMap_none_of_in X hok hni) (tail_of_in X ht))
def M8{h h':Heap}{N:Addr}{m:Str->Option Value}(hN:h.Ns N m)(b:∀b o,h.get? b=some o->h'.get? b=some o):h'.Ns N m:=by
 obtain⟨o,es,ep,ho,hd,hs,hf⟩:=hN;exact(⟨o,es,ep,b _ _ ho,hd,hs,hf⟩)
section
variable {X:Cx} {E:St->XK} {e:Expr} {te:TE} {np cpos pos:Pos} {x:Str} {C:Addr}
theorem KC(he:PE (X.fl E) e te)(hg:Gl (X.fl E) x)(hm:X.mg x=some (.ref C))(hC:uC X.K C)(hc:X.calm=true)(hd:(x==("__debug__":Str))=false:=by decide)
  (hs:starEach [e] X.env=[(false,eval e X.env)]:=by rfl):PS (X.fl E) (.Raise (some (.Call (.Name x np) [e] [] cpos)) none pos) (fun _ B H=>te B H fun _ H1=>E B (.ref C) none H1):=by
 intro pins s B H D I h;have kb:X.K.In X.base:=I.ok.mod.kin;refine UU kb hC fun tl N nm q bs hdct sn sub ab col dd k0 k1 k2 k3 k5 mN hCo hN hni T=>?_;have hpl:(backTo cpos (starEach [e] X.env)).any (·.1)=false:=by rw[hs];rfl
 refine wpAny_Raise_call_subT (C:=C) (nm:=nm) (q:=q) (N:=N) (bs:=bs) (bm:=tl) (hdct:=hdct) (sn:=sn) (sub:=sub) (ab:=ab) (col:=col) (dd:=dd) (k0:=k0) (k1:=k1) (k2:=k2) (k3:=k3) (k5:=k5)
  PySem.F.excBase_ValueError (mN:=mN) (T.hasType PySem.F.excBase_ValueError.hasBase) (I.ok.hd hc) hpl hni (yS I hg hm ⟨rfl,?_⟩ hd)
 show wpAny _ _ (evalArgs (.ref C) true (backTo cpos (starEach [e] X.env)) []) _ _ _;have hpa:PA (X.fl E) [e] (tK te uE):=rP he so (by show starEach [e] X.env=(false,eval e X.env)::starEach [] X.env;rw[hs];rfl);have hq:wpAny (model X.prog X.w) X.A (spliced (backTo cpos (starEach [e] X.env))) (AP (X.fl E) pins B (fun vs H1=>vs.length=1/\E B (.ref C) none H1)) (FlX X E) s:=hpa cpos pins s B H (fun vs H1=>vs.length=1/\E B (.ref C) none H1) I (by
  unfold tK uE;have z:te B H (fun v H1=>E B (.ref C) none H1):=h;simpa using z)
 rw[hs] at hq⊢;refine Calls.evalArgs_plain (thn hq fun us s2 hm=>?_);obtain⟨vs,H2,I2,r,hl,hE⟩:=hm;have base:∀b o,X.base.get? b=some o->s2.heap.get? b=some o:=I2.bk;exact⟨rfl,by rw[←r.length,hl];decide,base _ _ hCo,M8 hN base,T.keeps base,fun h' a hx=>⟨a,.ref C,pins,B,H2,H2,s2,rfl,I2.unwish,hE,.inl ⟨rfl,C,us,h',rfl,rfl,hx⟩⟩⟩
end
def DfX(P:Program)(w:World)(K:Frag)(mg:Str->Option Value)(base:Heap)(k:Nat)(x:Str)(ps:List Str)(sp:Sp):Prop:=
 ∃f fd,FnOk P w K mg base (CXr P w) k f fd ps sp/\Binds K fd ps []/\keepIn K (.ref f)=true/\mg x=some (.ref f)
section
variable {X:Cx} {E:St->XK} {k:Nat} {x:Str} {ps:List Str} {sp:Sp} {e:Expr} {es:List Expr} {t:TA} {p pos:Pos} {f C:Addr} {fd:FuncData}
theorem R6{pins:QS}{B:St}{H:Hp}{s:Shared}{Q:VK}{us:List Value}{vs:List V}(F:FnOk X.prog X.w X.K X.mg X.base (CXr X.prog X.w) k f fd ps sp)(hr:Room k X.A)(hb:Binds X.K fd ps [])
  (I:Inv (X.fl E) pins B H s) (r:Vals vs us) (h:sp vs H Q (E B)):wpAny (model X.prog X.w) X.A (call (.ref f) us) (EP (X.fl E) pins B Q) (FlX X E) s:=by
 have hl:us.length=ps.length:=by rw[←r.length];exact F.len _ _ _ _ h
 have hb':=hb s us I.kIn (by simpa using hl);simp only[XT] at hb';refine wpAny_call (codeAny_mono (F.run X.A X.stack s H ⟨us,[]⟩ us vs Q (E B) hr I.env0 hb' r h) fun r s' hq=>?_);cases r with
 |error e=>
  obtain⟨a,C,H',Z7,rfl,F,hE⟩:=hq;exact⟨a,C,pins,B,H,H',s,rfl,I.unwish,hE,.inr (.inl ⟨Z7,F⟩)⟩
 |ok fl=>
  cases fl with
  |ret u=>exact I.after hq
  |next=>exact False.elim hq
  |brk=>exact False.elim hq
  |cont=>exact False.elim hq
theorem M0(D:DfX X.prog X.w X.K X.mg X.base k x ps sp)(hr:Room k X.A)(ha:PA (X.fl E) (e::es) t)(hg:Gl X x:=by rfl)(hdb:(x==("__debug__":Str))=false:=by decide)
  (he:starEach (e::es) X.env=(false,eval e X.env)::starEach es X.env:=by rfl) (hpl:(backTo pos (starEach es X.env)).any (·.1)=false:=by rfl):
  PE (X.fl E) (.Call (.Name x p) (e::es) [] pos) (fun B H Q=>t B H fun vs H1=>sp vs H1 Q (E B)):=by
 obtain⟨f,fd,F,hb,hk,hm⟩:=D;intro pins s B H Q I h;refine Yv (yS I hg hm ?_ hdb);refine PySem.W.callWith_K (h₀:=X.base) I.ok.mod.kin hk (thn (ha pos pins s B H _ I h) fun us s1 ⟨vs,H1,I1,r,q⟩=>⟨I1.kIn,?_⟩) he hpl;exact R6 F hr hb I1 r q
end
theorem Fun.okX{P:Program}{w:World}{K:Frag}{mg:Str->Option Value}{base:Heap}{x qual:Str}{st:Stmt}{f:Addr}{fd:FuncData}{N ps:List Str}{k:Nat}{sp:Sp}(F:Fun K x qual st f fd)(S:FnScope N ps (qJ st))(len:∀vs H Q E,sp vs H Q E->vs.length=ps.length)
  (hbody:∀(cdv:Value) (A:Around) (outer:List Env) (s:Shared) (H:Hp) (vs:List V) (Q:VK) (E:XK),Room k (A.deeper (envOfC qual (qJ st) s.heap.objs.size f cdv))->sp vs H Q E->
   ∃t,PSs ((rA (CXr P w) P w K mg base N qual (qJ st) f cdv A outer s H E).fl fun _=>E) (rl st) t/\t {nx:=fun _ H'=>Q .non H',rt:=Q} (vm N vs) H):FnOk P w K mg base (CXr P w) (k+1) f fd ps sp:=by
 obtain⟨oc,od,kV,doc,pm,an,cdv,ct,osl,rfl,lk,hcd⟩:=F.ex;refine(LL lk hcd S len fun A outer s H vs Q E hr hsp=>?_);obtain⟨t,h,q⟩:=hbody cdv A outer s H vs Q E hr hsp;refine(⟨t,fun pins s B H D I hw=>?_,q⟩);exact Xg (h pins s B H D (I.wish _) hw) (fun _ _ z=>z.unwish) fun e s' z=>P5 z
end L2
namespace L3
open PySem PySem.Spec L2
open PyProof.Rows (envOfC)
inductive Rs (α:Type) where
 |ok (a:α)|ex (C:Addr)
abbrev EX:=G->M->Option (Rs D×M)
abbrev BX:=G->M->Option (Rs Bool×M)
abbrev LX:=G->M->Option (Rs (List D)×M)
abbrev FX:=List D->M->Option (Rs D×M)
inductive OutX where
 |nx|bk|ct|rt (d:D)|ex (C:Addr)
abbrev SX:=G->M->Option (OutX×G×M)
section
variable (K:Frag) (E:St->XK)
def GJ(E:XK)(Q:VK)(W':Wd):Rs D->Prop
 | .ok d=>∀v,DR K W' d v->Q v W'.H
 | .ex C=>E (.ref C) none W'.H
def BS(E:XK)(Q:Bool->Hp->Prop)(W':Wd):Rs Bool->Prop
 | .ok b=>Q b W'.H
 | .ex C=>E (.ref C) none W'.H
def Tx(E:XK)(Q:List V->Hp->Prop)(W':Wd):Rs (List D)->Prop
 | .ok ds=>∀vs,DRs K W' ds vs->Q vs W'.H
 | .ex C=>E (.ref C) none W'.H
def RW(D:Ends)(W':Wd)(Z0:St):OutX->Prop
 | .nx=>D.nx Z0 W'.H
 | .bk=>D.bk Z0 W'.H
 | .ct=>D.ct Z0 W'.H
 | .rt d=>∀v,DR K W' d v->D.rt v W'.H
 | .ex C=>E Z0 (.ref C) none W'.H
def tX(ev:EX):TE:=fun B H Q=>∃(W:Wd) (O:G) (r:Rs D) (Z6:M),W.H=H/\Ok K W/\EnvR K W O B/\ev O W.L=some (r,Z6)/\∀W',W'.L=Z6->Ok K W'->Step W W'->GJ K (E B) Q W' r
def tXB(ev:BX):TT:=fun B H Q=>∃(W:Wd) (O:G) (r:Rs Bool) (Z6:M),W.H=H/\Ok K W/\EnvR K W O B/\ev O W.L=some (r,Z6)/\∀W',W'.L=Z6->Ok K W'->Step W W'->BS (E B) Q W' r
def tXL(ev:LX):TA:=fun B H Q=>∃(W:Wd) (O:G) (r:Rs (List D)) (Z6:M),W.H=H/\Ok K W/\EnvR K W O B/\ev O W.L=some (r,Z6)/\∀W',W'.L=Z6->Ok K W'->Step W W'->Tx K (E B) Q W' r
def tXS(es:SX):TS:=fun D B H=>∃(W:Wd) (O:G) (out:OutX) (ZY:G) (Z6:M),W.H=H/\Ok K W/\EnvR K W O B/\es O W.L=some (out,ZY,Z6)/\∀W' Z0,W'.L=Z6->Ok K W'->Step W W'->EnvR K W' ZY Z0->RW K E D W' Z0 out
end
def upB(ev:BV):BX:=fun O L=>(ev O L).bind fun p=>some (.ok p.1,p.2)
def upL(ev:LV):LX:=fun O L=>(ev O L).bind fun p=>some (.ok p.1,p.2)
def upO:Out->OutX
 | .nx=>.nx
 | .bk=>.bk
 | .ct=>.ct
 | .rt d=>.rt d
def upS(es:SV):SX:=fun O L=>(es O L).bind fun o=>some (upO o.1,o.2)
def upF(f:C0):FX:=fun ds L=>(f ds L).bind fun p=>some (.ok p.1,p.2)
def Qp{X:Cx}{es:List Expr}{t:TA}(h:PA X.nox es t):PA X es t:=fun pos pins s B H Q I hw=>
 Xg (h pos pins s B H Q (I.wish _) hw) (fun _ _ ⟨v,H',I',r,q⟩=>⟨v,H',I'.unwish,r,q⟩) fun _ _ z=>False.elim z
def Sb{X:Cx}{tg:Expr}{t:TG}(h:PG X.nox tg t):PG X tg t:=fun pins s B H v u Q I r hw=>
 Xg (h pins s B H v u Q (I.wish _) r hw) (fun _ _ ⟨Z0,H',I',q⟩=>⟨Z0,H',I'.unwish,q⟩) fun _ _ z=>False.elim z
section
variable {X:Cx} {E:St->XK} {K:Frag} {e:Expr} {es:List Expr} {pos p:Pos} {ev:EV} {bv:BV} {lv:LV} {sv:SV}
theorem Q1:∀B H Q,tXB K E (upB bv) B H Q->tDB K bv B H Q:=fun B H Q h=>by
 refine el4 h fun W O r Z6 eH ok en e q=>?_;subst eH;refine qE e fun p e1 e=>?_;cases e;exact⟨W,O,p.1,p.2,rfl,ok,en,e1,fun W' h1 h2 h3=>q W' h1 h2 h3⟩
theorem Wn:∀B H Q,tXL K E (upL lv) B H Q->tDL K lv B H Q:=fun B H Q h=>by
 refine el4 h fun W O r Z6 eH ok en e q=>?_;subst eH;refine qE e fun p e1 e=>?_;cases e;exact⟨W,O,p.1,p.2,rfl,ok,en,e1,fun v W' h1 h2 h3 h4=>q W' h1 h2 h3 v h4⟩
theorem Lm:∀D B H,tXS K E (upS sv) D B H->tDS K sv D B H:=fun D B H h=>by
 refine el5 h fun W O o ZY Z6 eH ok en e q=>?_;subst eH;obtain⟨⟨o1,ZZ,Z5⟩,e1,e⟩:=bnd e;cases e;refine(⟨W,O,o1,_,_,rfl,ok,en,e1,fun W' Z0 h1 h2 h3 h4=>?_⟩);have:=q W' Z0 h1 h2 h3 h4;cases o1<;>exact this
theorem xG(h:PT X.nox e (tDB K bv)):PT X e (tXB K E (upB bv)):=vG h.nox Q1
theorem vD(h:PA X.nox es (tDL K lv)):PA X es (tXL K E (upL lv)):=AT (Qp h) Wn
def As(ea:EX)(el:LX):LX:=fun O L=>(ea O L).bind fun p=>match p.1 with
 | .ok d=>(el O p.2).bind fun q=>match q.1 with
  | .ok ds=>some (.ok (d::ds),q.2)
  | .ex C=>some (.ex C,q.2)
 | .ex C=>some (.ex C,p.2)
theorem Od{ea:EX}{el:LX}(ha:PE X e (tX K E ea))(hr:PA X es (tXL K E el))(hs:starEach (e::es) X.env=(false,eval e X.env)::starEach es X.env:=by rfl):PA X (e::es) (tXL K E (As ea el)):=AT (rP ha hr hs) fun B H Q h=>by
 refine el4 h fun W O r Z6 eH ok en e q=>?_;subst eH;obtain⟨⟨p1,p2⟩,e1,e⟩:=bnd e;refine(⟨W,O,p1,p2,rfl,ok,en,e1,fun W1 Z1 ok1 s1=>?_⟩);cases p1 with
 |ex C=>cases e;exact q W1 Z1 ok1 s1
 |ok d=>
  intro x rx;obtain⟨⟨q1,q2⟩,e2,e⟩:=bnd e;refine⟨W1,O,q1,q2,rfl,ok1,en.step ok s1,by rw[Z1];exact e2,fun W2 ZV ok2 s2=>?_⟩;cases q1 with
  |ex C=>cases e;exact q W2 ZV ok2 (s1.trans s2)
  |ok ds=>
   cases e;exact fun vs rvs=>q W2 ZV ok2 (s1.trans s2) (x::vs) (.cons (rx.step ok1 s2) rvs)
def spX(K:Frag)(f:FX):Sp:=fun vs H Q E=>∃(W:Wd) (ds:List D) (r:Rs D) (Z6:M),W.H=H/\Ok K W/\DRs K W ds vs/\f ds W.L=some (r,Z6)/\∀W',W'.L=Z6->Ok K W'->Step W W'->GJ K E Q W' r
def vLX(f:FX)(el:LX):EX:=fun O L=>(el O L).bind fun p=>match p.1 with
 | .ok ds=>f ds p.2
 | .ex C=>some (.ex C,p.2)
theorem Lf{f:FX}{el:LX}{r:List V->Hp->VK->XK->Prop}(ra:∀vs H Q E,spX K f vs H Q E->r vs H Q E):∀B H Q,tX K E (vLX f el) B H Q->tXL K E el B H fun vs H1=>r vs H1 Q (E B):=fun B H Q h=>by
 refine el4 h fun W O r Z6 eH ok en e q=>?_;subst eH;obtain⟨⟨p1,p2⟩,e1,e⟩:=bnd e;refine(⟨W,O,p1,p2,rfl,ok,en,e1,fun W1 Z1 ok1 s1=>?_⟩);cases p1 with
 |ex C=>cases e;exact q W1 Z1 ok1 s1
 |ok ds=>exact fun vs rv=>ra _ _ _ _ ⟨W1,ds,r,Z6,rfl,ok1,rv,by rw[Z1];exact e,fun W2 ZV ok2 s2=>q W2 ZV ok2 (s1.trans s2)⟩
theorem wA{x:Str}{ps:List Str}{f:FX}{k:Nat}{el:LX}(D:DfX X.prog X.w X.K X.mg X.base k x ps (spX K f))(hr:Room k X.A)(ha:PA (X.fl E) (e::es) (tXL K E el))(hg:Gl X x:=by rfl)(hdb:(x==("__debug__":Str))=false:=by decide)
  (he:starEach (e::es) X.env=(false,eval e X.env)::starEach es X.env:=by rfl) (hpl:(backTo pos (starEach es X.env)).any (·.1)=false:=by rfl):PE (X.fl E) (.Call (.Name x p) (e::es) [] pos) (tX K E (vLX f el)):=
 rf (M0 D hr ha hg hdb he hpl) (Lf fun _ _ _ _ z=>z)
theorem NM{f:C0}:∀vs H Q E,spX K (upF f) vs H Q E->spM K f vs H Q E0:=fun vs H Q E h=>by
 obtain⟨W,ds,r,Z6,h1,h2,h3,e,q⟩:=h;obtain⟨⟨d,Z5⟩,e1,e⟩:=bnd e;cases e;exact(⟨W,ds,d,Z5,h1,h2,h3,e1,fun v W' a b c d=>q W' a b c v d⟩)
theorem Q6{x:Str}{ps:List Str}{f:C0}{k:Nat}{el:LX}(D:Df X.prog X.w X.K X.mg X.base k x ps (spM K f))(hr:Room k X.A)(ha:PA X (e::es) (tXL K E el))(hg:Gl X x:=by rfl)(hdb:(x==("__debug__":Str))=false:=by decide)
  (he:starEach (e::es) X.env=(false,eval e X.env)::starEach es X.env:=by rfl) (hpl:(backTo pos (starEach es X.env)).any (·.1)=false:=by rfl):PE X (.Call (.Name x p) (e::es) [] pos) (tX K E (vLX (upF f) el)):=
 rf (Hk D hr ha hg hdb he hpl) (Lf (r:=fun vs H Q _=>spM K f vs H Q E0) NM)
def bTX(ev:EX):BX:=fun O L=>(ev O L).bind fun p=>match p.1 with
 | .ok (.bl b)=>some (.ok b,p.2)
 | .ok _=>none
 | .ex C=>some (.ex C,p.2)
theorem R8{ev:EX}(h:PE X e (tX K E ev))(he:∀whole,isTrue e X.env whole=(do let v ←whole;standAt e.pos;holding [v] (truthy v)):=by intro _;rfl):PT X e (tXB K E (bTX ev)):=vG (Sa h he) fun B H Q h=>by
 refine el4 h fun W O r Z6 eH ok en e q=>?_;subst eH;obtain⟨⟨p1,p2⟩,e1,e⟩:=bnd e;refine(⟨W,O,p1,p2,rfl,ok,en,e1,fun W1 Z1 ok1 s1=>?_⟩);cases p1 with
 |ex C=>cases e;exact q W1 Z1 ok1 s1
 |ok d=>
  intro v rv;cases d with
  |bl b=>cases e;cases rv;exact⟨b,rfl,q W1 Z1 ok1 s1⟩
  |_=>cases e
def Av(t:BX):BX:=fun O L=>(t O L).bind fun p=>match p.1 with
 | .ok b=>some (.ok (!b),p.2)
 | .ex C=>some (.ex C,p.2)
theorem Q7{bx:BX}(h:PT X e (tXB K E bx)):PT X (.UnaryOp .Not e pos) (tXB K E (Av bx)):=vG (JV h) fun B H Q h=>by
 refine el4 h fun W O r Z6 eH ok en e q=>?_;subst eH;obtain⟨⟨p1,p2⟩,e1,e⟩:=bnd e;refine(⟨W,O,p1,p2,rfl,ok,en,e1,fun W1 Z1 ok1 s1=>?_⟩);cases p1 with
 |ex C=>cases e;exact q W1 Z1 ok1 s1
 |ok b=>cases e;exact q W1 Z1 ok1 s1
end
open PyProof.Rows (envOfC)
section
variable {X:Cx} {E:St->XK} {K:Frag} {e:Expr} {st:Stmt} {qV:List Stmt} {pos p:Pos} {sa sb:SX} {ex:EX}
def sR(a b:SX):SX:=fun O L=>(a O L).bind fun o=>match o.1 with
 | .nx=>b o.2.1 o.2.2
 |x=>some (x,o.2)
theorem xc:PSs X [] (tXS K E (upS sNx)):=zx rK Lm
theorem t8(h1:PS X st (tXS K E sa)):PSs X [st] (tXS K E sa):=Ky h1
theorem vZ(h1:PS X st (tXS K E sa))(h2:PSs X qV (tXS K E sb)):PSs X (st::qV) (tXS K E (sR sa sb)):=zx (IA h1 h2) fun D B H h=>by
 refine el5 h fun W O o ZY Z6 eH ok en e q=>?_;subst eH;obtain⟨⟨o1,ZZ,Z5⟩,e1,e⟩:=bnd e;refine(⟨W,O,o1,ZZ,Z5,rfl,ok,en,e1,fun W1 ZJ Z1 ok1 s1 en1=>?_⟩);cases o1 with
 |nx=>exact⟨W1,ZZ,o,ZY,Z6,rfl,ok1,en1,by rw[Z1];exact e,fun W2 ZW ZV ok2 s2 en2=>q W2 ZW ZV ok2 (s1.trans s2) en2⟩
 |bk=>cases e;exact q W1 ZJ Z1 ok1 s1 en1
 |ct=>cases e;exact q W1 ZJ Z1 ok1 s1 en1
 |rt d=>cases e;exact q W1 ZJ Z1 ok1 s1 en1
 |ex C=>cases e;exact q W1 ZJ Z1 ok1 s1 en1
def xl(ea:EX):SX:=fun O L=>(ea O L).bind fun p=>match p.1 with
 | .ok _=>some (.nx,O,p.2)
 | .ex C=>some (.ex C,O,p.2)
theorem Dh(he:PE X e (tX K E ex))(hs:swapsWith e none pos.line X.env=pure false:=by rfl):PS X (.Expr e pos) (tXS K E (xl ex)):=sS (IG he hs) fun D B H h=>by
 refine el5 h fun W O o ZY Z6 eH ok en e q=>?_;subst eH;obtain⟨⟨p1,p2⟩,e1,e⟩:=bnd e;refine(⟨W,O,p1,p2,rfl,ok,en,e1,fun W1 Z1 ok1 s1=>?_⟩);cases p1 with
 |ex C=>cases e;exact q W1 B Z1 ok1 s1 (en.step ok s1)
 |ok d=>cases e;exact fun v rv=>q W1 B Z1 ok1 s1 (en.step ok s1)
def wb(ea:EX):SX:=fun O L=>(ea O L).bind fun p=>match p.1 with
 | .ok d=>some (.rt d,O,p.2)
 | .ex C=>some (.ex C,O,p.2)
theorem Ci(he:PE X e (tX K E ex)):PS X (.Return (some e) pos) (tXS K E (wb ex)):=sS (Fy he) fun D B H h=>by
 refine el5 h fun W O o ZY Z6 eH ok en e q=>?_;subst eH;obtain⟨⟨p1,p2⟩,e1,e⟩:=bnd e;refine(⟨W,O,p1,p2,rfl,ok,en,e1,fun W1 Z1 ok1 s1=>?_⟩);cases p1 with
 |ex C=>cases e;exact q W1 B Z1 ok1 s1 (en.step ok s1)
 |ok d=>cases e;exact fun v rv=>q W1 B Z1 ok1 s1 (en.step ok s1) v rv
def t6(t:BX)(a b:SX):SX:=fun O L=>(t O L).bind fun p=>match p.1 with
 | .ok c=>if c=true then a O p.2 else b O p.2
 | .ex C=>some (.ex C,O,p.2)
theorem xg{c:Expr}{a b:List Stmt}{bc:BX}(hc:PT X c (tXB K E bc))(ha:PSs X a (tXS K E sa))(hb:PSs X b (tXS K E sb)):PS X (.If c a b pos) (tXS K E (t6 bc sa sb)):=sS (HF hc ha hb) fun D B H h=>by
 refine el5 h fun W O o ZY Z6 eH ok en e q=>?_;subst eH;obtain⟨⟨p1,p2⟩,e1,e⟩:=bnd e;refine(⟨W,O,p1,p2,rfl,ok,en,e1,fun W1 Z1 ok1 s1=>?_⟩);cases p1 with
 |ex C=>cases e;exact q W1 B Z1 ok1 s1 (en.step ok s1)
 |ok k=>
  cases k with
  |true=>
   simp only[BS,if_true];exact⟨W1,O,o,ZY,Z6,rfl,ok1,en.step ok s1,by rw[Z1];exact e,fun W2 ZW ZV ok2 s2 en2=>q W2 ZW ZV ok2 (s1.trans s2) en2⟩
  |false=>
   simp only[BS,XL,if_false];exact⟨W1,O,o,ZY,Z6,rfl,ok1,en.step ok s1,by rw[Z1];exact e,fun W2 ZW ZV ok2 s2 en2=>q W2 ZW ZV ok2 (s1.trans s2) en2⟩
def Er(ea:EX)(g:GV):SX:=fun O L=>(ea O L).bind fun p=>match p.1 with
 | .ok d=>(g d O p.2).bind fun q=>some (.nx,q.1,q.2)
 | .ex C=>some (.ex C,O,p.2)
theorem Vn{i:Nat}{x:Str}{pos':Pos}(hN:X.N.Nodup)(hi:X.N[i]?=some x)(hx:Loc X.env.scope x)(he:PE X e (tX K E ex))(hs:swapsWith e (some (.Name x pos')) pos.line X.env=pure false:=by rfl)(hf:X.fn x=true\/X.env.scope.names.lookup x=some .local:=by first|exact .inl rfl|exact .inr rfl|assumption):
  PS X (.Assign [.Name x pos'] e pos) (tXS K E (Er ex (qD i))):=sS (J7 hN hi hx he hs hf) fun D B H h=>by
 refine el5 h fun W O o ZY Z6 eH ok en e q=>?_;subst eH;obtain⟨⟨p1,p2⟩,e1,e⟩:=bnd e;refine(⟨W,O,p1,p2,rfl,ok,en,e1,fun W1 Z1 ok1 s1=>?_⟩);cases p1 with
 |ex C=>cases e;exact q W1 B Z1 ok1 s1 (en.step ok s1)
 |ok d=>cases e;exact fun v rv=>q W1 _ Z1 ok1 s1 ((en.step ok s1).set rv i)
def Kh(c:BX)(body:SX):Nat->SX
 |0,_,_=>none
 |n+1,O,L=>(c O L).bind fun p=>match p.1 with
  | .ok k=>if k=true then(body O p.2).bind fun o=>match o.1 with
    | .nx=>Kh c body n o.2.1 o.2.2
    | .ct=>Kh c body n o.2.1 o.2.2
    | .bk=>some (.nx,o.2)
    | .rt d=>some (.rt d,o.2)
    | .ex C=>some (.ex C,o.2)
   else some (.nx,O,p.2)
  | .ex C=>some (.ex C,O,p.2)
def vO(c:Ck)(g:GV)(body:SX):List D->SX
 | [],O,L=>some (.nx,O,L)
 |d::r,O,L=>(g d O L).bind fun p=>(body p.1 p.2).bind fun o=>match o.1 with
  | .nx=>chk (qY c o.2.2) (vO c g body r o.2.1 o.2.2)
  | .ct=>chk (qY c o.2.2) (vO c g body r o.2.1 o.2.2)
  | .bk=>some (.nx,o.2)
  | .rt d=>some (.rt d,o.2)
  | .ex C=>some (.ex C,o.2)
def Jg(iv:IV)(g:GV)(body:SX):SX:=fun O L=>(iv O L).bind fun s=>vO s.1.2 g body s.1.1 O s.2
theorem O6{tg iter:Expr}{body:List Stmt}{iv:IV}{g:GV}(hp:PassesOwn (model X.prog X.w) X.A X.env X.xe)(hc:X.calm=true)(hi:PI X tg iter (tDI K iv))(hg:PG X tg (tDG K g))(hb:PSs X body (tXS K E sb))
  (hs:∀x,foldedSetIterable iter X.env x=pure x:=by intro _;rfl):PS X (.For tg iter body [] pos) (tXS K E (Jg iv g sb)):=sS (K2 hp hc hi hg hb hs) fun D B H h=>by
 refine el5 h fun W O o ZY Z6 eH ok en e q=>?_;subst eH;obtain⟨⟨⟨its,c⟩,Z5⟩,e1,e⟩:=bnd e;refine(⟨W,O,its,c,Z5,rfl,ok,en,e1,fun J W1 ZL ok1 s1 jr=>?_⟩);obtain⟨c1,ds,vs,r1,hj⟩:=jr;obtain⟨P,hP⟩:∃P:Nat->St->Hp->Prop,∀i ZW H2,P i ZW H2↔(i<=its.length/\∃W2 ZX,W2.H=H2/\Ok K W2/\Step W1 W2/\EnvR K W2 ZX ZW/\qY c W2.L/\vO c g sb (its.drop i) ZX W2.L=some (o,ZY,Z6)):=⟨_,fun _ _ _=>Iff.rfl⟩
 refine⟨fun i m ZW H2=>m=its.length - i/\P i ZW H2,⟨its.length,by simp,(hP _ _ _).2 ⟨X2 _,W1,O,rfl,ok1,.refl,en.step ok s1,c1,by rw[ZL];exact e⟩⟩,?_⟩;rintro i m ZW H2 ⟨rfl,hi⟩;refine bq fun hG=>?_;obtain⟨hi,W2,ZX,rfl,ok2,s2,en2,c2,e2⟩:=(hP _ _ _).1 hi;obtain⟨hstop,hgo⟩:=hj W2 i ok2 c2 (r1.step ok1 s2);by_cases hlt:i<its.length
 ·have hd:its[i]?=some its[i]:=Xk hlt;obtain⟨h1,h2⟩:=hgo _ hd;rw[XC hlt] at e2;refine qE e2 fun p e3 e2=>?_;obtain⟨⟨o4,Zt,Zs⟩,e4,e2⟩:=bnd e2;refine(hG (.inr ⟨h1,P (i+1),fun Z0 H' hN=>⟨its.length - (i+1),by omega,rfl,hN⟩,fun x H' hy=>?_⟩));refine bq fun hF=>?_;obtain⟨W3,rfl,ZS,ok3,s3,r3⟩:=h2 x H' hy;refine hF ⟨W3,ZX,its[i],p.1,p.2,rfl,ok3,en2.step ok2 s3,r3,by rw[ZS];exact e3,fun W4 ZQ ZD ok4 s4 en4=>⟨W4,p.1,o4,Zt,Zs,rfl,ok4,en4,by rw[ZD];exact e4,fun W5 Zq ZP ok5 s5 en5=>?_⟩⟩;have st:=s2.trans (s3.trans (s4.trans s5));cases o4 with
  |nx=>refine uI e2 fun hc5 e2=>?_;exact(hP _ _ _).2 ⟨hlt,W5,Zt,rfl,ok5,st,en5,by rw[ZP];exact hc5,by rw[ZP];exact e2⟩
  |ct=>refine uI e2 fun hc5 e2=>?_;exact(hP _ _ _).2 ⟨hlt,W5,Zt,rfl,ok5,st,en5,by rw[ZP];exact hc5,by rw[ZP];exact e2⟩
  |bk=>cases e2;exact q W5 Zq ZP ok5 (s1.trans st) en5
  |rt d=>cases e2;exact q W5 Zq ZP ok5 (s1.trans st) en5
  |ex C=>cases e2;exact q W5 Zq ZP ok5 (s1.trans st) en5
 ·have e':i=its.length:=by omega
  subst e';rw[XY (Xc _)] at e2;cases e2;exact hG (.inl ⟨hstop (Xc _),q W2 ZW rfl ok2 (s1.trans s2) en2⟩)
def JZ(C:Addr)(ea:EV):SX:=fun O L=>(ea O L).bind fun p=>some (.ex C,O,p.2)
theorem ON{ea:EV}{x:Str}{C:Addr}{np cpos:Pos}(he:PE (X.fl E).nox e (tD K ea))(hm:X.mg x=some (.ref C))(hC:uC X.K C)(hg:Gl X x:=by rfl)(hc:X.calm=true:=by rfl)(hd:(x==("__debug__":Str))=false:=by decide)
  (hs:starEach [e] X.env=[(false,eval e X.env)]:=by rfl):PS (X.fl E) (.Raise (some (.Call (.Name x np) [e] [] cpos)) none pos) (tXS K E (JZ C ea)):=sS (KC (te:=tD K ea) (PE.nox he) hg hm hC hc hd hs) fun D B H h=>by
 refine el5 h fun W O o ZY Z6 eH ok en e q=>?_;subst eH;refine qE e fun p1 e1 e=>?_;cases e;exact⟨W,O,p1.1,p1.2,rfl,ok,en,e1,fun v W1 Z1 ok1 s1 r1=>q W1 B Z1 ok1 s1 (en.step ok s1)⟩
end
def sX(n m:Nat)(es:SX):FX:=fun ds L=>if ds.length=m then(es (ds.map some++List.replicate (n - ds.length) none) L).bind fun o=>match o.1 with
  | .rt d=>some (.ok d,o.2.2)
  | .nx=>some (.ok .non,o.2.2)
  | .ex C=>some (.ex C,o.2.2)
  |_=>none
 else none
theorem vF{P:Program}{w:World}{K:Frag}{mg:Str->Option Value}{base:Heap}{x qual:Str}{st:Stmt}{f:Addr}{fd:FuncData}{N ps:List Str}{k:Nat}{es:SX}(F:Fun K x qual st f fd)(S:FnScope N ps (qJ st))
  (hb:∀(cdv:Value) (A:Around) (outer:List Env) (s:Shared) (H:Hp) (E:XK),Room k (A.deeper (envOfC qual (qJ st) s.heap.objs.size f cdv))->PSs ((rA (CXr P w) P w K mg base N qual (qJ st) f cdv A outer s H E).fl fun _=>E) (rl st) (tXS K (fun _=>E) es)):
  FnOk P w K mg base (CXr P w) (k+1) f fd ps (spX K (sX N.length ps.length es)):=by
 refine F.okX S (fun vs H Q E h=>?_) (fun cdv A outer s H vs Q E hr h=>?_)
 ·obtain⟨W,ds,r,Z6,_,_,rr,e,_⟩:=h;unfold sX at e;split at e
  ·rename_i hl;rw[←rr.length];exact hl
  ·cases e
 ·obtain⟨W,ds,r,Z6,rfl,ok,rr,e,q⟩:=h;refine⟨_,hb cdv A outer s W.H E hr,?_⟩;unfold sX at e;split at e
  ·obtain⟨⟨o,ZY,Z3⟩,e1,e⟩:=bnd e;refine⟨W,_,o,ZY,Z3,rfl,ok,My rr,e1,fun W' Z0 Z1 ok' s' en'=>?_⟩;cases o with
   |rt z=>cases e;exact q W' Z1 ok' s'
   |nx=>cases e;exact q W' Z1 ok' s' _ .non
   |ex C=>cases e;exact q W' Z1 ok' s'
   |bk=>cases e
   |ct=>cases e
  ·cases e
end L3
namespace L2
open PySem PySem.W PySem.Spec PyProof.Rows
def tCs(cs:List V):TA:=fun _ H Q=>Q cs H
section
variable {X:Cx} {e:Expr} {es:List Expr} {c:V} {cs:List V}
theorem Ui:PA X [] (tCs []):=so
theorem Mh(ha:PE X e (tC c))(hr:PA X es (tCs cs))(hs:starEach (e::es) X.env=(false,eval e X.env)::starEach es X.env:=by rfl):PA X (e::es) (tCs (c::cs)):=rP ha hr hs
end
end L2
namespace L3
open PySem PySem.Spec L2
section
variable {X:Cx} {K:Frag} {a:Expr} {es:List Expr} {ea:EV} {p pos:Pos}
def Bk(cs:List String)(x:D)(L:M):Fr:=(tyD L x).bind fun t=>some (.bl (cs.any (uJ t)),L)
theorem Rm(cs:List String)(ml:X.mg "isinstance"=none) {k:Nat} {tpos:Pos} (ha:PE X a (tD K ea)) (hb:PA X es (tCs (cs.map V.ty))) (hc:cs.all clNames.contains=true:=by decide) (hl:cs.length<=100:=by decide) (hg:Gl X "isinstance":=by rfl)
  (hs:starEach [a,.Tuple es k tpos] X.env=[(false,eval a X.env),(false,eval (.Tuple es k tpos) X.env)]:=by rfl) (hs2:starEach [.Tuple es k tpos] X.env=[(false,eval (.Tuple es k tpos) X.env)]:=by rfl) (hK:X.K=K:=by rfl):
  PE X (.Call (.Name "isinstance" p) [a,.Tuple es k tpos] [] pos) (tD K (v1 (Bk cs) ea)):=rf (TY K ml ha (Fx hb) hg hs hs2 hK) (uN (by
 intro W x d z Z6 Q ok r1 hf q;refine qE hf fun t ht hf=>?_;cases hf;refine⟨uR (by simp;omega),fun p hp=>?_⟩;have ok2:=sU (o:=.tup (cs.map V.ty)) ok hp;have s2:=se (W:=W) (o:=.tup (cs.map V.ty)) hp;refine⟨x,t,p,cs,rfl,.inl (.inl sf),?_,hc,q _ (W.lay p _) rfl ok2 s2 (.bl _)⟩;exact JP (W:=W.lay p (.tup (cs.map V.ty))) ok2 ht (r1.step ok s2)))
end
def Rl{X:Cx}{tg iter:Expr}{t:TI}(h:PI X.nox tg iter t):PI X tg iter t:=fun pins s B H R I hw=>
 Xg (h pins s B H R (I.wish _) hw) (fun v s1 z=>Xg z (fun itv s2 ⟨it,fp,tn,J,H2,e,I2,T,st2,f2,q⟩=>⟨it,fp,tn,J,H2,e,I2.unwish,T,st2,f2,q⟩) fun _ _ z=>False.elim z) fun _ _ z=>False.elim z
section
variable {X:Cx} {E:St->XK} {K:Frag} {e e2:Expr} {es:List Expr} {st:List Stmt} {pos p:Pos} {sv:SV}
theorem EU(h:PSs X.nox st (tDS K sv)):PSs X st (tXS K E (upS sv)):=zx h.nox Lm
def A8:List EV->G->M->Option M
 | [],_,L=>some L
 |ea::r,O,L=>(ea O L).bind fun p=>match p.1 with
  | .int i=>if i.natAbs.log2<1920 then A8 r O p.2 else none
  |_=>none
def tJ(K:Frag)(l:List EV):St->Hp->(Hp->Prop)->Prop:=fun B H Q=>∃(W:Wd) (O:G) (Z6:M),W.H=H/\Ok K W/\EnvR K W O B/\A8 l O W.L=some Z6/\∀W',W'.L=Z6->Ok K W'->Step W W'->Q W'.H
theorem KI{t t':St->Hp->(Hp->Prop)->Prop}(h:PJ X es t)(hi:∀B H Q,t' B H Q->t B H Q):PJ X es t':=fun pins s B H Q acc n a b I hw=>h pins s B H Q acc n a b I (hi _ _ _ hw)
theorem pj0:PJ X [] (tJ K []):=KI PB fun B H Q h=>by
 obtain⟨W,O,Z6,rfl,ok,en,e,q⟩:=h;cases e;exact(q W rfl ok .refl)
theorem tY{x:Str}{j:Nat}{l:List EV}(hx:x.length<=2000)(hr:PJ X es (tJ K l)):PJ X (.Constant (.str x) j p::es) (tJ K l):=Sy hx hr
theorem uM{ea:EV}{l:List EV}(he:PE X e (tD K ea))(hr:PJ X es (tJ K l)):PJ X (.FormattedValue e (-1) none p::es) (tJ K (ea::l)):=KI (U3 he hr) fun B H Q h=>by
 obtain⟨W,O,Z6,rfl,ok,en,e,q⟩:=h;refine qE e fun p1 e1 e=>?_;refine(⟨W,O,p1.1,p1.2,rfl,ok,en,e1,fun v W1 Z1 ok1 s1 r1=>?_⟩);split at e
 ·rename_i i hi;split at e
  ·rename_i hl;rw[hi] at r1;cases r1;exact⟨i,rfl,hl,W1,O,Z6,rfl,ok1,en.step ok s1,by rw[Z1];exact e,fun W2 ZV ok2 s2=>q W2 ZV ok2 (s1.trans s2)⟩
  ·cases e
 ·cases e
def Cu(K:Frag)(l:List EV):TE:=fun B H Q=>∃(W:Wd) (O:G) (Z6:M),W.H=H/\Ok K W/\EnvR K W O B/\A8 l O W.L=some Z6/\∀v W',W'.L=Z6->Ok K W'->Step W W'->Q v W'.H
theorem yf{l:List EV}(h:PJ X (e::e2::es) (tJ K l))(hl:(e::e2::es).length<=400:=by decide):PE X (.JoinedStr (e::e2::es) pos) (Cu K l):=rf (MW h hl) fun B H Q h=>by
 obtain⟨W,O,Z6,rfl,ok,en,e,q⟩:=h;exact(⟨W,O,Z6,rfl,ok,en,e,fun W' h1 h2 h3 z=>q _ W' h1 h2 h3⟩)
def vP(C:Addr)(l:List EV):SX:=fun O L=>(A8 l O L).bind fun Z6=>some (.ex C,O,Z6)
theorem x5{l:List EV}{x:Str}{C:Addr}{np cpos:Pos}(he:PE (X.fl E).nox e (Cu K l))(hm:X.mg x=some (.ref C))(hC:uC X.K C)(hg:Gl X x:=by rfl)(hc:X.calm=true:=by rfl)(hd:(x==("__debug__":Str))=false:=by decide)
  (hs:starEach [e] X.env=[(false,eval e X.env)]:=by rfl):PS (X.fl E) (.Raise (some (.Call (.Name x np) [e] [] cpos)) none pos) (tXS K E (vP C l)):=sS (KC (te:=Cu K l) (PE.nox he) hg hm hC hc hd hs) fun D B H h=>by
 refine el5 h fun W O o ZY Z6 eH ok en e q=>?_;subst eH;refine qE e fun Z5 e1 e=>?_;cases e;exact⟨W,O,_,rfl,ok,en,e1,fun v W1 Z1 ok1 s1=>q W1 B Z1 ok1 s1 (en.step ok s1)⟩
end
end L3
namespace L2
open PySem PySem.W PySem.Spec PySem.Calls PyProof.Rows PySem.SeqAt
def yc:V->V->Option Bool
 | .int a,.int b=>some (a==b)
 | .bl a,.bl b=>some (a==b)
 |_,_=>none
def zd:Value->Value->Bool
 | .int a _,.int b _=>a==b
 | .bool a,.bool b=>a==b
 |_,_=>false
def MZ{y x:V}{u k:Value}{b:Bool}(h:yc y x=some b)(r:RelV y u)(rk:RelV x k):zd u k=b/\∀A s,EqAt A s u k b:=by
 unfold yc at h;split at h
 ·cases h;obtain⟨t,rfl⟩:=r;obtain⟨t',rfl⟩:=rk;exact(⟨rfl,fun A s=>(MeetsSeq.EqGives.int _ _ _ _).at _ _⟩)
 ·cases h;cases r;cases rk;exact⟨rfl,fun A s=>EqAt.bool_bool _ _⟩
 ·cases h
theorem Jf{x:V}{k:Value}(rk:RelV x k):∀{xs:List V} {us:List Value} {bs:List Bool},Vals xs us->L3.optAll (fun y=>yc y x) xs=some bs->us.map (fun u=>zd u k)=bs/\∀u∈us,∀A s,EqAt A s u k (zd u k)
 |_,_,_,.nil,e=>by cases e;exact⟨rfl,fun _ z=>nomatch z⟩
 |_,_,_,.cons r t,e=>by
  obtain⟨b,e1,e⟩:=Option.bind_eq_some_iff.mp e;obtain⟨bs,e2,e⟩:=Option.bind_eq_some_iff.mp e;cases e;obtain⟨h1,h2⟩:=MZ e1 r rk;obtain⟨h3,h4⟩:=Jf rk t e2;refine(⟨by rw[Xn,h1,h3],fun u hu A s=>?_⟩);rcases XB.mp hu with z|z
  ·subst z;rw[h1];exact h2 A s
  ·exact h4 u z A s
section
variable {X:Cx} {a o:Expr} {ta to:TE} {pos:Pos}
def MO:V->List V->Hp->VK->Prop:=fun x vs H Q=>∃(l:Addr) (xs:List V) (k:V) (bs:List Bool),x=.ref l/\vs=[k]/\H l=some (.lst xs)/\L3.optAll (fun y=>yc y k) xs=some bs/\Q (.int (bs.countP id:Nat)) H
theorem Pj:MtM X "list.count" MO:=by
 intro pins s B H x vs v us Q I rx rv h;obtain⟨l,xs,k,bs,rfl,rfl,hH,hb,q⟩:=h;cases rx;obtain⟨u,rfl,ru⟩:=rv.one;obtain⟨z,its,n,r,hl,e⟩:=I.lstM hH;obtain⟨h1,h2⟩:=Jf ru r hb;refine(call_meets F.slot_list_count ⟨_,e,rfl⟩ F.entry_list_count (F.args_list_count_2 _ _) (list_countAt l its.toArray n none #[] u (fun y=>zd y u)) ⟨e,fun y hy=>h2 y (by simpa using hy) _ _,?_⟩);refine⟨.int _,H,I.tok _,⟨_,rfl⟩,?_⟩;have ec:its.toArray.toList.countP (fun y=>zd y u)=bs.countP id:=by rw[←h1,List.countP_map];rfl
 rw[ec];exact q
theorem Pi(K:Frag){apos:Pos}(ho:PE X o to)(ha:PE X a ta)(hs:starEach [a] X.env=[(false,eval a X.env)]:=by rfl)
  (hbase:attributeBase o "count" X.env (eval o X.env)=eval o X.env:=by rfl) (hline:(apos.endLine==pos.line)=true:=by rfl) (hK:X.K=K:=by rfl)
  (hfew:((backTo pos (starEach [a] X.env)).all (fun x=>!x.1)&&(backToKw pos (keywordEach [] X.env)).all (fun x=>x.1.isSome)
   &&decide ([a].length+([]:List Keyword).length+(if([]:List Keyword).isEmpty then 0 else 1)<30))=true:=by rfl):
  PE X (.Call (.Attribute o "count" apos) [a] [] pos) (tBM K "list" MO to (tK ta uE)):=by
 subst hK;exact Ac PySem.F.plainAttrs_list PySem.F.slot_list_count PySem.F.type_list_count Pj ho (rP ha so hs) hbase hfew hline hs
end
end L2
namespace L3
open PySem PySem.Spec L2
section
variable {X:Cx} {K:Frag} {a:Expr} {ea:EV} {pos:Pos}
def zY:D->D->Option Bool
 | .int a,.int b=>some (a==b)
 | .bl a,.bl b=>some (a==b)
 |_,_=>none
theorem WM{W:Wd}{d e:D}{v u:V}{b:Bool}(h:zY d e=some b)(r:DR K W d v)(r2:DR K W e u):yc v u=some b:=by
 unfold zY at h;split at h
 ·cases r;cases r2;exact h
 ·cases r;cases r2;exact h
 ·cases h
theorem KM{W:Wd}{e:D}{u:V}(r2:DR K W e u):∀{ds:List D} {vs:List V} {bs:List Bool},DRs K W ds vs->optAll (fun y=>zY y e) ds=some bs->optAll (fun y=>yc y u) vs=some bs
 |_,_,_,.nil,h=>h
 |_,_,_,.cons r t,h=>by
  refine qE h fun b e1 h=>?_;refine qE h fun bs e2 h=>?_;cases h;simp only[optAll,WM e1 r r2,KM r2 t e2,Option.bind_some]
def Bl(x y:D)(L:M):Fr:=(vU L x).bind fun ds=>(optAll (fun d=>zY d y) ds).bind fun bs=>some (.int (bs.countP id:Nat),L)
theorem Pa{o:Expr}{eo:EV}{apos:Pos}(ho:PE X o (tD K eo))(ha:PE X a (tD K ea))(hs:starEach [a] X.env=[(false,eval a X.env)]:=by rfl)
  (hbase:attributeBase o "count" X.env (eval o X.env)=eval o X.env:=by rfl) (hline:(apos.endLine==pos.line)=true:=by rfl) (hK:X.K=K:=by rfl)
  (hfew:((backTo pos (starEach [a] X.env)).all (fun x=>!x.1)&&(backToKw pos (keywordEach [] X.env)).all (fun x=>x.1.isSome)
   &&decide ([a].length+([]:List Keyword).length+(if([]:List Keyword).isEmpty then 0 else 1)<30))=true:=by rfl):
  PE X (.Call (.Attribute o "count" apos) [a] [] pos) (tD K (uj Bl eo ea)):=rf (Pi K ho ha hs hbase hline hK hfew) (Cy (by
 intro W x y d e z Z6 Q ok r1 r2 hf q;refine qE hf fun ds h1 hf=>?_;refine qE hf fun bs h2 hf=>?_;cases hf;obtain⟨a,vs,rfl,hh,hs⟩:=Bw ok h1 r1;exact⟨a,vs,y,bs,rfl,rfl,hh,KM r2 hs h2,q _ W rfl ok .refl (.int _)⟩))
end
class Enc (α:Type) where
 d:α->D
 p:α->PyData
 k:Nat
 py_eq:∀(a:α) (L:M) (n:Nat),k<n->py n L (d a)=some (p a)
 lay:∀a,(p a).canLay0=true
 dep:∀a,(p a).depth<=k
 eqv:∀a b,PyData.eqv (p a) (p b)=true↔a=b
instance encInt:Enc Int where
 d i:=.int i
 p i:=.int i
 k:=0
 py_eq a L n h:=by cases n with|zero=>omega|succ n=>rfl
 lay a:=rfl
 dep a:=by simp[PyData.depth]
 eqv a b:=by simp[PyData.eqv]
instance encBool:Enc Bool where
 d i:=.bl i
 p i:=.bool i
 k:=0
 py_eq a L n h:=by cases n with|zero=>omega|succ n=>rfl
 lay a:=rfl
 dep a:=by simp[PyData.depth]
 eqv a b:=by cases a<;>cases b<;>simp[PyData.eqv]
section
variable {α β γ:Type} [Enc α] [Enc β] [Enc γ]
theorem EI{L:M}{n:Nat}(h:Enc.k α<n):∀l:List α,optAll (py n L) (l.map Enc.d)=some (l.map Enc.p)
 | []=>rfl
 |a::r=>by simp only[Xn,optAll,Enc.py_eq a L n h,EI h r,Option.bind_some]
theorem IT:∀l:List α,PyData.canLayAll0 (l.map Enc.p)=true
 | []=>rfl
 |a::r=>by simp only[Xn,PyData.canLayAll0,Enc.lay a,IT r,Bool.and_self]
theorem Lz:∀l:List α,PyData.depthAll (l.map Enc.p)<=Enc.k α
 | []=>by simp[PyData.depthAll]
 |a::r=>by
  have h1:=Enc.dep a;have h2:=Lz r;simp only[Xn,PyData.depthAll];omega
theorem GO:∀l m:List α,PyData.eqvAll (l.map Enc.p) (m.map Enc.p)=true↔l=m
 | [],[]=>by simp[PyData.eqvAll]
 | [],_::_=>by simp[PyData.eqvAll]
 |_::_,[]=>by simp[PyData.eqvAll]
 |a::r,b::s=>by
  have h1:=Enc.eqv a b;have h2:=GO r s;simp only[Xn,PyData.eqvAll,XD,h1,h2,List.cons.injEq]
instance encList:Enc (List α) where
 d l:=.lst (l.map Enc.d)
 p l:=.list (l.map Enc.p)
 k:=Enc.k α+1
 py_eq l L n h:=by
  cases n with
  |zero=>omega
  |succ n=>rw[Nx,EI (by omega)];rfl
 lay l:=by simp only[PyData.canLay0];exact IT l
 dep l:=by
  have:=Lz l;simp only[PyData.depth];omega
 eqv l m:=by simp only[PyData.eqv];exact GO l m
end
section
variable {L:M} {x y:D} {a:PyData}
def isInt:D->Bool
 | .int _=>true
 |_=>false
def zy:D->Bool
 | .str _=>true
 |_=>false
theorem O9(h:(isInt x&&isInt y)=false)(h2:(zy x&&zy y)=false):eqD x y L=(py 65 L x).bind fun d=>(py 65 L y).bind fun e=>if(d.canLay0&&e.canLay0&&decide (d.depth<=64))=true then some (PyData.eqv d e) else none:=by
 cases x<;>cases y<;>first|rfl|(simp[isInt] at h;done)|(simp[zy] at h2;done)
def Rds(L:M)(x:D)(α:Type) [Enc α](a:α):Prop:=py 65 L x=some (Enc.p a)
variable {α:Type} [Enc α] [DecidableEq α] {s t:α}
theorem Ij(hk:Enc.k α<=64)(h1:Rds L x α s)(h2:Rds L y α t)(h:(isInt x&&isInt y)=false)(h':(zy x&&zy y)=false):eqD x y L=some (decide (s=t)):=by
 rw[O9 h h',h1,h2];have l1:=Enc.lay s;have l2:=Enc.lay t;have l3:=Enc.dep s;simp only[Option.bind_some,l1,l2,Bool.and_self,Bool.true_and];rw[if_pos (by simp;omega)];congr 1;have:=Enc.eqv s t;by_cases e:s=t
 ·rw[this.mpr e,XO e]
 ·rw[Xs e];cases hq:PyData.eqv (Enc.p s) (Enc.p t) with
  |false=>rfl
  |true=>exact absurd (this.mp hq) e
end
def Ee{α:Type} [Enc α]{L:M}(hk:Enc.k α<=64)(a:α):Rds L (Enc.d a) α a:=Enc.py_eq a L 65 (by omega)
def R3{n:Nat}{L:M}{k:Nat}{ds:List D}(h:L[k]?=some (some (.lst ds))):py (n+1) L (.ref k)=(optAll (py n L) ds).bind fun ys=>some (.list ys):=by
 simp only[py,h]
def Q3{α:Type} [Enc α]{L:M}{k:Nat}{l:List α}(hk:Enc.k α<=63)(h:L[k]?=some (some (.lst (l.map Enc.d)))):Rds L (.ref k) (List α) l:=by
 unfold Rds;rw[R3 h,EI (by omega)];rfl
def SQ{α:Type} [Enc α] [DecidableEq α]{L:M}{k:Nat}{l m:List α}(hk:Enc.k α<=63)(h:L[k]?=some (some (.lst (l.map Enc.d)))):eqD (.ref k) (.lst (m.map Enc.d)) L=some (decide (l=m)):=
 Ij (α:=List α) (by show Enc.k α+1<=64;omega) (Q3 hk h) (Ee (α:=List α) (by show Enc.k α+1<=64;omega) m) rfl rfl
def CL{α:Type} [Enc α] [DecidableEq α]{L:M}{l m:List α}(hk:Enc.k α<=63):eqD (.lst (l.map Enc.d)) (.lst (m.map Enc.d)) L=some (decide (l=m)):=
 Ij (α:=List α) (by show Enc.k α+1<=64;omega) (Ee (α:=List α) (by show Enc.k α+1<=64;omega) l) (Ee (α:=List α) (by show Enc.k α+1<=64;omega) m) rfl rfl
section
variable {O:G} {L:M}
theorem Ao{ev:BV}{b:Bool}{Z5:M}(h:ev O L=some (b,Z5)):upB ev O L=some (.ok b,Z5):=by unfold upB;rw[h];rfl
theorem yP{ev:LV}{ds:List D}{Z5:M}(h:ev O L=some (ds,Z5)):upL ev O L=some (.ok ds,Z5):=by unfold upL;rw[h];rfl
theorem w6{es:SV}{o:Out}{ZZ:G}{Z5:M}(h:es O L=some (o,ZZ,Z5)):upS es O L=some (upO o,ZZ,Z5):=by unfold upS;rw[h];rfl
theorem zE{a b:SX}{ZZ:G}{Z5:M}(h:a O L=some (.nx,ZZ,Z5)):sR a b O L=b ZZ Z5:=by unfold sR;rw[h];rfl
theorem z4{t:BX}{a b:SX}{Z5:M}(h:t O L=some (.ok false,Z5)):t6 t a b O L=b O Z5:=by unfold t6;rw[h];rfl
theorem xS{f:FX}{el:LX}{ds:List D}{Z5:M}(h:el O L=some (.ok ds,Z5)):vLX f el O L=f ds Z5:=by unfold vLX;rw[h];rfl
theorem Ft{ea:EX}{d:D}{Z5:M}(h:ea O L=some (.ok d,Z5)):xl ea O L=some (.nx,O,Z5):=by unfold xl;rw[h];rfl
theorem IP{ea:EX}{d:D}{Z5:M}(h:ea O L=some (.ok d,Z5)):wb ea O L=some (.rt d,O,Z5):=by unfold wb;rw[h];rfl
theorem AV{n m:Nat}{es:SX}{ds:List D}{d:D}{ZZ:G}{Z5:M}(hl:ds.length=m)(h:es (ds.map some++List.replicate (n - ds.length) none) L=some (.rt d,ZZ,Z5)):sX n m es ds L=some (.ok d,Z5):=by
 unfold sX;rw[if_pos hl,h];rfl
theorem MA{n m:Nat}{es:SX}{ds:List D}{ZZ:G}{Z5:M}(hl:ds.length=m)(h:es (ds.map some++List.replicate (n - ds.length) none) L=some (.nx,ZZ,Z5)):sX n m es ds L=some (.ok .non,Z5):=by
 unfold sX;rw[if_pos hl,h];rfl
end
structure Kp (k:Nat) (L Z6:M):Prop where
 len:L.length<=Z6.length
 at_:∀j,j<L.length->j≠k->Z6[j]?=L[j]?
def Kp.refl{k:Nat}{L:M}:Kp k L L:=⟨Xc _,fun _ _ _=>rfl⟩
def Kp.trans{k:Nat}{L Z5 Z3:M}(h:Kp k L Z5)(g:Kp k Z5 Z3):Kp k L Z3:=⟨Xy h.len g.len,fun j hj n=>(g.at_ j (Xu hj h.len) n).trans (h.at_ j hj n)⟩
def Wu{k:Nat}{L ex:M}:Kp k L (L++ex):=⟨by simp,fun j hj _=>Xq hj⟩
def yh{k:Nat}{L:M}{o:Option Z8}:Kp k L (L.set k o):=⟨by simp,fun j hj n=>XG (Ne.symm n)⟩
structure Gr (L Z6:M):Prop where
 len:L.length<=Z6.length
 at_:∀j,j<L.length->Z6[j]?=L[j]?
def Gr.refl{L:M}:Gr L L:=⟨Xc _,fun _ _=>rfl⟩
def Gr.trans{L Z5 Z3:M}(h:Gr L Z5)(g:Gr Z5 Z3):Gr L Z3:=⟨Xy h.len g.len,fun j hj=>(g.at_ j (Xu hj h.len)).trans (h.at_ j hj)⟩
def Gr.get{j:Nat}{L Z6:M}{o:Option Z8}(h:Gr L Z6)(e:L[j]?=some o):Z6[j]?=some o:=(h.at_ j (Xe.mp e).1).trans e
def gr_app{L ex:M}:Gr L (L++ex):=⟨by simp,fun j hj=>Xq hj⟩
def Gr.setN{j:Nat}{L Z6:M}{o:Option Z8}(h:Gr L Z6)(hj:L.length<=j):Gr L (Z6.set j o):=⟨by simpa using h.len,fun i hi=>by
 rw[XG (by omega)];exact h.at_ i hi⟩
end L3
namespace L2
open PySem PySem.Spec PyProof.Rows
end L2
namespace L3
open PySem PySem.Spec L2
def sH(f:Str)(d:D):List (Str×D)->List (Str×D)
 | []=>[(f,d)]
 |(g,e)::r=>if g=f then(g,d)::r else(g,e)::sH f d r
section
variable {K:Frag} {W:Wd}
theorem FR.get{f:Str}:∀{fs:List (Str×D)} {vs:List (Str×V)} {d:D},FR K W fs vs->fs.lookup f=some d->∃v,vs.lookup f=some v/\DR K W d v
 |_,_,_,.nil,h=>by cases h
 |(g,e)::r,(g',e')::r',d,.cons h t,q=>by
  obtain⟨h1,h2⟩:=h;have h1:g=g':=h1;subst h1;rw[Xx] at q⊢;cases hb:f==g with
  |true=>rw[hb] at q;cases q;exact⟨e',rfl,h2⟩
  |false=>rw[hb] at q;exact FR.get t q
theorem FR.none{f:Str}:∀{fs:List (Str×D)} {vs:List (Str×V)},FR K W fs vs->fs.lookup f=none->vs.lookup f=none
 |_,_,.nil,h=>rfl
 |(g,e)::r,(g',e')::r',.cons h t,q=>by
  obtain⟨h1,h2⟩:=h;have h1:g=g':=h1;subst h1;rw[Xx] at q⊢;cases hb:f==g with
  |true=>rw[hb] at q;cases q
  |false=>rw[hb] at q;exact FR.none t q
theorem FR.put{f:Str}{d:D}{v:V}(r:DR K W d v):∀{fs:List (Str×D)} {vs:List (Str×V)},FR K W fs vs->FR K W (sH f d fs) (sG f v vs)
 |_,_,.nil=>.cons ⟨rfl,r⟩ .nil
 |(g,e)::l,(g',e')::l',.cons h t=>by
  obtain⟨h1,h2⟩:=h;have h1:g=g':=h1;subst h1;simp only[sH,sG];split
  ·exact .cons ⟨rfl,r⟩ t
  ·exact .cons ⟨rfl,h2⟩ (FR.put r t)
theorem FR.len:∀{fs:List (Str×D)} {vs:List (Str×V)},FR K W fs vs->fs.length=vs.length
 |_,_,.nil=>rfl
 |_,_,.cons _ t=>by simp[FR.len t]
theorem DO{k:Nat}{C:Addr}{fs:List (Str×D)}{v:V}(ok:Ok K W)(h:W.L[k]?=some (some (.ins C fs)))(r:DR K W (.ref k) v):∃a dx vs,v=.ref a/\W.ρ[k]?=some a/\W.H a=some (.ins C dx vs)/\FR K W fs vs:=by
 cases r with
 |ref ha=>
  obtain⟨a',ho,h1,h2,vs,⟨dx,rfl⟩,r⟩:=ok.at_ k _ h;rw[ha] at h1;cases h1;exact(⟨_,dx,vs,rfl,ha,h2,r⟩)
end
structure FldC (K:Frag) (C:Addr) (f:Str):Prop where
 cl:Cls K C
 na:NoAttr K C f
def tf(C:Addr)(f:Str)(x:D)(L:M):Fr:=match x with
 | .ref k=>match L[k]? with
  |some (some (.ins C' fs))=>if C'=C then(fs.lookup f).bind fun d=>some (d,L) else none
  |_=>none
 |_=>none
def yC(C:Addr)(f:Str)(eo ev:EV):SV:=fun O L=>(ev O L).bind fun p=>(eo O p.2).bind fun q=>match q.1 with
 | .ref k=>match q.2[k]? with
  |some (some (.ins C' fs))=>if C'=C/\fs.length<1000 then some (.nx,O,q.2.set k (some (.ins C (sH f p.1 fs)))) else none
  |_=>none
 |_=>none
section
variable {X:Cx} {K:Frag} {o e value:Expr} {es:List Expr} {f m:Str} {pos pos' apos p:Pos} {eo ev:EV} {el:LV} {C:Addr}
theorem vI(hC:FldC K C f)(he:PE X e (tD K eo))(hb:attributeBase e f X.env (eval e X.env)=eval e X.env:=by rfl)(hK:X.K=K:=by rfl):PE X (.Attribute e f pos) (tD K (v1 (tf C f) eo)):=by
 subst hK;refine rf (Rf he hb) (uN ?_);intro W x d z Z6 Q ok r1 hf q;unfold tf at hf;split at hf
 ·split at hf
  ·rename_i k C' fs hk;split at hf
   ·rename_i hc;subst hc;obtain⟨d',hl,hf⟩:=bnd hf;cases hf;obtain⟨a,dx,vs,rfl,_,hh,hr⟩:=DO ok hk r1;obtain⟨v,hv,rv⟩:=hr.get hl;exact(⟨a,_,dx,vs,v,rfl,hh,hC.cl,hC.na,hv,q v W rfl ok .refl rv⟩)
   ·cases hf
  ·cases hf
 ·cases hf
theorem Ba(hC:FldC K C f)(ho:PE X o (tD K eo))(hv:PE X value (tD K ev))(hs:swapsWith value (some (.Attribute o f pos')) pos.line X.env=pure false:=by rfl)(hK:X.K=K:=by rfl):PS X (.Assign [.Attribute o f pos'] value pos) (tDS K (yC C f eo ev)):=by
 subst hK;refine sS (V3 ho hv hs) fun D B H h=>?_;refine el5 h fun W O out ZY Z6 eH ok en e q=>?_;subst eH;refine qE e fun p1 e1 e=>?_;refine qE e fun p2 e2 e=>?_;refine⟨W,O,p1.1,p1.2,rfl,ok,en,e1,fun y W1 ZL ok1 s1 r1=>⟨W1,O,p2.1,p2.2,rfl,ok1,en.step ok s1,by rw[ZL];exact e2,fun x W2 ZV ok2 s2 r2=>?_⟩⟩;split at e
 ·rename_i k hk;rw[hk] at r2;split at e
  ·rename_i C' fs hfs;split at e
   ·rename_i hc;obtain⟨hc,hl⟩:=hc;subst hc;cases e;rw[←ZV] at hfs;obtain⟨a,dx,vs,rfl,ha,hh,hr⟩:=DO ok2 hfs r2;have r1':=r1.step ok1 s2;have okp:=Bv (o:=.ins C' dx (sG f y vs)) (x:=.ins C' (sH f p1.1 fs)) ok2 hfs ha ⟨_,⟨dx,rfl⟩,hr.put r1'⟩;have sp:=v3 (o:=.ins C' dx (sG f y vs)) (x:=.ins C' (sH f p1.1 fs)) hfs ha;refine⟨a,C',dx,vs,rfl,hh,hC.cl,hC.na,by rw[←hr.len];exact hl,?_⟩;exact q (W2.put k a (.ins C' dx (sG f y vs)) (.ins C' (sH f p1.1 fs))) B (by show W2.L.set _ _=_;rw[ZV]) okp ((s1.trans s2).trans sp) (((en.step ok s1).step ok1 s2).step ok2 sp)
   ·cases e
  ·cases e
 ·cases e
structure MtC (P:Program) (w:World) (K:Frag) (mg:Str->Option Value) (base:Heap) (CX:CXT) (k:Nat) (C:Addr) (m:Str) (ps:List Str) (sp:Sp):Prop where
 cl:Cls K C
 fn:∃f fd,Meth K C m f/\FnOk P w K mg base CX k f fd ps sp/\Binds K fd ps []
def noM(L:M)(C:Addr)(m:Str):D->Bool
 | .ref k=>match L[k]? with
  |some (some (.ins C' fs))=>decide (C'=C)&&(fs.lookup m).isNone
  |_=>false
 |_=>false
def vt(C:Addr)(m:Str)(g:C0)(eo:EV)(el:LV):EV:=fun O L=>(eo O L).bind fun p=>if noM p.2 C m p.1=true then(el O p.2).bind fun q=>g (p.1::q.1) q.2 else none
theorem P6{W:Wd}{d:D}{v:V}(ok:Ok K W)(h:noM W.L C m d=true)(r:DR K W d v):∃a dx fs,v=.ref a/\W.H a=some (.ins C dx fs)/\fs.lookup m=none:=by
 cases d with
 |ref k=>
  simp only[noM] at h;split at h
  ·rename_i C' fs hk;simp only[XD,Yh,Option.isNone_iff_eq_none] at h;obtain⟨rfl,h2⟩:=h;obtain⟨a,dx,vs,e,_,hh,hr⟩:=DO ok hk r;exact(⟨a,dx,vs,e,hh,hr.none h2⟩)
  ·cases h
 |_=>cases h
theorem Xa{g:C0}:∀B H Q,tD K (vt C m g eo el) B H Q->Ll C m (spM K g) [] E0 (tD K eo) (tDL K el) B H Q:=fun B H Q h=>by
 refine el4 h fun W O d Z6 eH ok en e q=>?_;subst eH;refine qE e fun p1 e1 e=>?_;refine⟨W,O,p1.1,p1.2,rfl,ok,en,e1,fun x W1 ZL ok1 s1 r1=>?_⟩;split at e
 ·rename_i hn;refine qE e fun p2 e2 e=>?_;rw[←ZL] at hn;obtain⟨a,dx,fs,ex,hh,hl⟩:=P6 ok1 hn r1;refine⟨a,dx,fs,ex,hh,hl,W1,O,p2.1,p2.2,rfl,ok1,en.step ok s1,by rw[ZL];exact e2,fun vs W2 ZV ok2 s2 r2=>?_⟩;show spM K g (x::(vs++[])) W2.H Q E0;rw[XT];exact⟨W2,p1.1::p2.1,d,Z6,rfl,ok2,.cons (r1.step ok1 s2) r2,by rw[ZV];exact e,fun v W3 ZS ok3 s3 r3=>q v W3 ZS ok3 ((s1.trans s2).trans s3) r3⟩
 ·cases e
theorem xI{k:Nat}{ps:List Str}{g:C0}{pl:Sem Bool}(M':MtC X.prog X.w X.K X.mg X.base CX0 k C m ps (spM K g))(hr:Room k X.A)(ho:PE X o (tD K eo))(ha:PA X (e::es) (tDL K el))
  (hst:starEach (e::es) X.env=(false,eval e X.env)::starEach es X.env:=by rfl) (hpl:(backTo pos (starEach es X.env)).any (·.1)=false:=by rfl)
  (ht:eval (.Call (.Attribute o m apos) (e::es) [] pos) X.env=(do
   let ov ←eval o X.env
   standAt apos.atName
   let (f,first) ←holding [ov] (getMethod ov m pl)
   callWith pos f first (backTo pos (starEach (e::es) X.env)) (backToKw pos (keywordEach [] X.env))):=by rfl):PE X (.Call (.Attribute o m apos) (e::es) [] pos) (tD K (vt C m g eo el)):=by
 obtain⟨f,fd,hm,F,hb⟩:=M'.fn;exact(rf (Ph ho M'.cl hm F hr hb .nil DV ha hst hpl ht) Xa)
structure MkC (P:Program) (w:World) (K:Frag) (mg:Str->Option Value) (base:Heap) (CX:CXT) (k:Nat) (C:Addr) (x:Str) (ps:List Str) (sp:Sp):Prop where
 mgx:mg x=some (.ref C)
 fn:∃f fd,Mk K C f/\FnOk P w K mg base CX k f fd ps sp/\Binds K fd ps []
def Bs(C:Addr)(g:C0)(el:LV):EV:=fun O L=>(el O L).bind fun p=>(g (.ref p.2.length::p.1) (p.2++[some (.ins C [])])).bind fun q=>match q.1 with
 | .non=>some (.ref p.2.length,q.2)
 |_=>none
theorem NW{g:C0}:∀B H Q,tD K (Bs C g el) B H Q->Ma C (spM K g) [] E0 (tDL K el) B H Q:=fun B H Q h=>by
 refine el4 h fun W O d Z6 eH ok en e q=>?_;subst eH;refine qE e fun p1 e1 e=>?_;obtain⟨⟨d2,Z3⟩,e2,e⟩:=bnd e;refine(⟨W,O,p1.1,p1.2,rfl,ok,en,e1,fun vs W1 ZL ok1 s1 r1 x dx hx hdx hne=>?_⟩);rw[XT];have oka:=sU (o:=.own x) ok1 hdx;have sa:=se (W:=W1) (o:=.own x) hdx;have hx2:(W1.lay dx (.own x)).H x=none:=by show upd W1.H dx _ x=none;rw[qZ (Ne.symm hne)];exact hx
 have okb:=zG (x:=.ins C []) (o:=.ins C dx []) oka hx2 ⟨[],⟨dx,rfl⟩,.nil⟩;have sb:=u0 (K:=K) (x:=.ins C []) (o:=.ins C dx []) oka hx2;have rb:=ze (K:=K) (W:=W1.lay dx (.own x)) (p:=x) (o:=.ins C dx []) (x:=.ins C []) oka;have hl:(W1.lay dx (.own x)).L.length=p1.2.length:=by show W1.L.length=_;rw[ZL]
 rw[hl] at rb;cases d2 with
 |non=>
  have e:some (D.ref p1.2.length,Z3)=some (d,Z6):=e;obtain⟨hd,hm⟩:d=.ref p1.2.length/\Z6=Z3:=by cases e;exact⟨rfl,rfl⟩
  subst hd hm;refine⟨(W1.lay dx (.own x)).new x (.ins C dx []) (.ins C []),.ref p1.2.length::p1.1,.non,Z6,rfl,okb,.cons rb ((r1.step ok1 sa).step oka sb),?_,fun v W3 ZS ok3 s3 r3=>?_⟩
  ·show g _ (W1.L++_)=_;rw[ZL];exact e2
  ·cases r3;exact⟨rfl,q _ W3 ZS ok3 (((s1.trans sa).trans sb).trans s3) (rb.step okb s3)⟩
 |_=>cases e
theorem Vp{x:Str}{k:Nat}{ps:List Str}{g:C0}(M':MkC X.prog X.w X.K X.mg X.base CX0 k C x ps (spM K g))(hr:Room (k+1) X.A)(ha:PA X (e::es) (tDL K el))(hg:Gl X x:=by rfl)(hdb:(x==("__debug__":Str))=false:=by decide)
  (he:starEach (e::es) X.env=(false,eval e X.env)::starEach es X.env:=by rfl) (hpl:(backTo pos (starEach es X.env)).any (·.1)=false:=by rfl):PE X (.Call (.Name x p) (e::es) [] pos) (tD K (Bs C g el)):=by
 obtain⟨f,fd,mk,F,hb⟩:=M'.fn;exact(rf (Oj mk F hr hg M'.mgx hb .nil DV ha hdb he hpl) NW)
end
def dn(f:FX):C0:=fun ds L=>(f ds L).bind fun p=>match p.1 with
 | .ok d=>some (d,p.2)
 | .ex _=>none
section
variable {P:Program} {w:World} {K:Frag} {mg:Str->Option Value} {base:Heap} {k:Nat} {f:Addr} {fd:FuncData} {ps:List Str} {g:FX}
theorem Mr:∀vs H Q E E',spM K (dn g) vs H Q E->spX K g vs H Q E':=fun vs H Q E E' h=>by
 obtain⟨W,ds,d,Z6,h1,h2,h3,e,q⟩:=h;obtain⟨⟨r,Z5⟩,e1,e⟩:=bnd e;cases r with
 |ok d'=>
  have e:some (d',Z5)=some (d,Z6):=e;obtain⟨rfl,rfl⟩:d'=d/\Z5=Z6:=by cases e;exact⟨rfl,rfl⟩
  exact⟨W,ds,.ok d',Z5,h1,h2,h3,e1,fun W' a b c v rv=>q v W' a b c rv⟩
 |ex C=>cases e
theorem U4(F:FnOk P w K mg base (CXr P w) k f fd ps (spX K g)):FnOk P w K mg base CX0 k f fd ps (spM K (dn g)):=by
 refine⟨fun vs H Q E h=>F.len vs H Q E (Mr vs H Q E E h),fun A outer s H args us vs Q E hr he hb hv hs=>?_⟩;refine codeAny_mono (F.run A outer s H args us vs Q (fun _ _ _=>False) hr he hb hv (Mr vs H Q E _ hs)) fun r s' h=>?_;cases r with
 |ok fl=>cases fl<;>exact h
 |error e=>
  obtain⟨a,C,H',Z7,_,_,z⟩:=h;exact(z.elim)
theorem Df.dn{x:Str}(D:DfX P w K mg base k x ps (spX K g)):Df P w K mg base k x ps (spM K (L3.dn g)):=let ⟨f,fd,F,r⟩:=D;⟨f,fd,U4 F,r⟩
end
end L3
namespace L2
open PySem PySem.W PySem.Spec PyProof.Rows
section
variable {a:Expr}
theorem erase_map(ns:List Int):∀j,(ns.map V.int).eraseIdx j=(ns.eraseIdx j).map V.int:=by
 induction ns with
 |nil=>intro j;simp
 |cons a r ih=>
  intro j;cases j with
  |zero=>simp
  |succ j=>simp[ih j]
end
end L2
namespace L3
open PySem PySem.Spec L2
end L3
namespace L2
open PySem PySem.W PySem.Spec PyProof.Rows
end L2
namespace L3
open PySem PySem.Spec L2
end L3
namespace L2
open PySem PySem.W PySem.Spec PyProof.Rows
end L2
namespace L3
open PySem PySem.Spec L2
open PyProof.Rows (envOfC)
end L3
namespace L2
open PySem PyProof.Rows
section
open PySem.SeqAt
open PySem.AutoSeq1 (wpAny_loadPart')
open PySem.MeetsSeq PySem.MeetsSeq2 PySem.MeetsSeq3
end
end L2
namespace L3
open PySem PySem.Spec L2
end L3
namespace L2
open PySem PySem.Spec PyProof.Rows
def slot_long_next:Slot "longrange_iterator" "__next__" "longrange_iterator.__next__":=
 .of (owner:="longrange_iterator") (n:="__next__") (by rw[typeLookup_type,builtinLookup_eq_fast];kernel_rfl) (by decide +kernel) (by decide +kernel) (by decide +kernel)
  (by first|exact .inl (by decide +kernel)|exact .inr (by decide +kernel)) (by rw[isSubtype_type];kernel_rfl)
def OI:entryFor table "longrange_iterator.__next__"=some Builtin.«longrange_iterator.__next__»:=entryFor_of_tree (by kernel_rfl)
def Ik:Manifest.owners.lookup (String.ofList ['r','o','t','a','r','e','t','i','_','e','g','n','a','r','g','n','o','l'].reverse)=some Manifest.sig_longrange_iterator:=by kernel_rfl
def WL(a:Value):argsOk "longrange_iterator.__next__" ⟨[a],[]⟩:=by
 unfold argsOk;rw[signature?_of (id:="longrange_iterator.__next__") (n:=['_','_','t','x','e','n','_','_']) (o:=['r','o','t','a','r','e','t','i','_','e','g','n','a','r','g','n','o','l']) (by kernel_rfl) Ik];kernel_rfl
def Ie:Slot "longrange_iterator" "__iter__" "longrange_iterator.__iter__":=
 .of (owner:="longrange_iterator") (n:="__iter__") (by rw[typeLookup_type,builtinLookup_eq_fast];kernel_rfl) (by decide +kernel) (by decide +kernel) (by decide +kernel)
  (by first|exact .inl (by decide +kernel)|exact .inr (by decide +kernel)) (by rw[isSubtype_type];kernel_rfl)
def T2(a:Value):argsOk "longrange_iterator.__iter__" ⟨[a],[]⟩:=by
 unfold argsOk;rw[signature?_of (id:="longrange_iterator.__iter__") (n:=['_','_','r','e','t','i','_','_']) (o:=['r','o','t','a','r','e','t','i','_','e','g','n','a','r','g','n','o','l']) (by kernel_rfl) Ik];kernel_rfl
def PY:entryFor table "longrange_iterator.__iter__"=some Builtin.«dict_keyiterator.__iter__»:=
 entryFor_alias (id':="dict_keyiterator.__iter__") (by kernel_rfl) (by first|rfl|decide +kernel|(unfold String.splitOn;simp +decide [String.splitOnAux])) (by decide +kernel) (by kernel_rfl)
def EM(h:Heap)(it:Addr):Prop:=h.get? it=some {cls:=.type "longrange_iterator",dict:=none,data:=.fields #[rawInt 0,rawInt 0,rawInt 1],slots:=#[]}
section
variable {prog:Program} {w:World} {A:Around} {E:OK} {s:Shared}
theorem V9{r:Addr}{b:Int}{t u v:Tok}{Q:OK}(hr:IsRange s.heap r 0 b 1 t u v)(hb:b< -(2^62))(hsmall:Builtin.Range.small 0 b 1=false)
  (hQ:Q (.ref s.heap.objs.size) {s with heap:=s.heap.push {cls:=.type "longrange_iterator",data:=.fields #[rawInt 0,rawInt 0,rawInt 1]}}):
  wpAny (model prog w) A (pyIter (.ref r)) Q E s:=by
 have hT:s.TypeIs (.ref r) "range":=⟨_,hr,rfl⟩
 refine wpAny_pyIter_slot hT F.slot_range_iter (call_meets F.slot_range_iter hT F.entry_range_iter (F.args_range_iter_1 _)
  (AutoRange.range___iter___range_0 r 0 b 1 t u v (by unfold Builtin.Range.small at hsmall;rw[hsmall];rfl)) ⟨hr,?_⟩)
 unfold Builtin.Range.small at hsmall;have hz:Builtin.Range.rangeSize 0 b 1=0:=by rw[rangeSize_one];split<;>omega
 simp only[hsmall,XL,if_false];rw[hz];exact⟨"longrange_iterator",_,⟨_,Xl _ rfl,rfl⟩,slot_long_next.lookup,hQ⟩
theorem Nk{it:Addr}{Q:OK}(hit:EM s.heap it)(h:Q (.ref it) s):wpAny (model prog w) A (pyIter (.ref it)) Q E s:=by
 have hT:s.TypeIs (.ref it) "longrange_iterator":=⟨_,hit,rfl⟩
 refine wpAny_pyIter_slot hT Ie (wpAny_call_entry Ie hT PY ?_ (T2 _));show wpAny _ _ (ret (.ref it)) _ _ s;exact Xf ⟨_,rfl,"longrange_iterator",_,hT,slot_long_next.lookup,h⟩
theorem Wo{it:Addr}{Q:Option Value->Shared->Prop}(hh:A.handled=none)(hit:EM s.heap it)
  (hQ:∀h',Heap.ExtBut it s.heap h'->Q none {s with heap:=h'}):wpAny (model prog w) A (pyNext (.ref it)) Q E s:=by
 have hT:s.TypeIs (.ref it) "longrange_iterator":=⟨_,hit,rfl⟩
 unfold pyNext;refine Xb (wpAny_attempt (wpAny_callSpecial?_slot (name:=Str.ofString "__next__") hT slot_long_next
  (wpAny_call_entry slot_long_next hT OI ?_ (WL _))))
 unfold Builtin.«longrange_iterator.__next__»;wp_walk;simp only[raiseNew];refine Xb (wpAny_handled ?_);first|rw[show A.in1.handled=none from hh]|rw[hh]
 refine Xb (Xf (wpAny_throw ?_));refine Xb (wpAny_isInstance (T:="StopIteration") (b:=true) ⟨_,Xl _ rfl,rfl⟩ isSubtype_stop ?_);exact Xf (hQ _ (((Heap.ExtBut.refl it s.heap).push _).push _))
end
theorem Wj{P:Program}{w:World}{K:Frag}{tg:Expr}(it:Addr):Turn P w K tg (Itr 0 0) [it] it (fun _ h=>EM h it) where
 mem:=by simp
 obj:=fun i h st b hb=>by
  have e:b=it:=by simpa using hb
  subst e;exact⟨_,st,fun v z=>by
   have z':Data.fields _=Data.cell v:=z;cases z'⟩
 keep:=fun i h h' st k=>k it (by simp) _ st
 item:=by
  intro X hP hw hK hc i pins s B H E I hf st hg;exact absurd (show i<0 from hg) (Nat.not_lt_zero _)
 done:=by
  intro X hP hw hK hc i pins s B H E I hf st hg;subst hP hw hK;obtain⟨f0,f1,f2,f3,f4,f5⟩:=hf it (by simp);exact(Wo (I.ok.hd hc) st fun h' eb=>⟨rfl,I.turned (t':=s.toks) (fun b o hb e=>eb b o hb e) f0 f1 f3 f4 f5⟩)
 self:=fun _ _ _ _ _ st h=>Nk st h
section
variable {X:Cx} {tg:Expr}
theorem WP{pins:QS}{B:St}{H:Hp}{s:Shared}{R:It->Hp->Prop}{E:OK}{hi:Int}{t u v:Tok}{tk:Nat}(I:Inv X pins B H s)(h3:hi< -(2^62))(hs:Builtin.Range.small 0 hi 1=false)
  (q:R (Itr 0 0) H):wpAny (model X.prog X.w) X.A (pyIter (.ref s.heap.objs.size)) (PIE X pins B tg R) E {s with heap:=s.heap.push {cls:=.type "range",data:=.fields #[.int 0 t,.int hi u,.int 1 v]},toks:=tk}:=by
 refine V9 (IsRange.new ..) h3 hs ?_;have I1:Inv X pins B H {s with heap:=s.heap.push {cls:=.type "range",data:=.fields #[.int 0 t,.int hi u,.int 1 v]},toks:=tk}:=I.kept fun b o e=>Xd _ e;refine⟨(s.heap.push {cls:=.type "range",data:=.fields #[.int 0 t,.int hi u,.int 1 v]}).objs.size,[(s.heap.push {cls:=.type "range",data:=.fields #[.int 0 t,.int hi u,.int 1 v]}).objs.size],_,_,H,rfl,
  I1.kept (t':=tk) fun b o e=>Xd _ e,Wj _,?_,fun b hb=>?_,q⟩
 ·exact Xl _ rfl
 ·have e:b=(s.heap.push {cls:=.type "range",data:=.fields #[.int 0 t,.int hi u,.int 1 v]}).objs.size:=by simpa using hb
  subst e;exact I1.fpOk (Xc _) (I1.hok.fresh (Xc _))
theorem SK{pins:QS}{B:St}{H:Hp}{s:Shared}{R:It->Hp->Prop}{E:OK}{hi:Int}{t u v:Tok}{tk:Nat}(I:Inv X pins B H s)(h3:hi< -(2^62))(hs:Builtin.Range.small 0 hi 1=true)
  (q:R (Itr 0 0) H):wpAny (model X.prog X.w) X.A (pyIter (.ref s.heap.objs.size)) (PIE X pins B tg R) E {s with heap:=s.heap.push {cls:=.type "range",data:=.fields #[.int 0 t,.int hi u,.int 1 v]},toks:=tk}:=by
 refine wpAny_pyIter_range (IsRange.new ..) hs ?_;have I1:Inv X pins B H {s with heap:=s.heap.push {cls:=.type "range",data:=.fields #[.int 0 t,.int hi u,.int 1 v]},toks:=tk}:=I.kept fun b o e=>Xd _ e;refine⟨(s.heap.push {cls:=.type "range",data:=.fields #[.int 0 t,.int hi u,.int 1 v]}).objs.size,[(s.heap.push {cls:=.type "range",data:=.fields #[.int 0 t,.int hi u,.int 1 v]}).objs.size],_,_,H,rfl,
  I1.kept (t':=tk) fun b o e=>Xd _ e,FJ _ 0 0,?_,fun b hb=>?_,q⟩
 ·have e1:(0:Int)+((0:Nat):Int)*1=0:=by simp
  have e2:(((0:Nat):Nat):Int) - ((0:Nat):Int)=Builtin.Range.rangeSize 0 hi 1:=by rw[rangeSize_one];split<;>omega
  show IsRangeIter _ _ (0+((0:Nat):Int)*1) (((0:Nat):Int) - ((0:Nat):Int)) 1;rw[e1,e2];exact Xl _ rfl
 ·have e:b=(s.heap.push {cls:=.type "range",data:=.fields #[.int 0 t,.int hi u,.int 1 v]}).objs.size:=by simpa using hb
  subst e;exact I1.fpOk (Xc _) (I1.hok.fresh (Xc _))
def Sv(ta:TA):TI:=fun B H R=>ta B H fun vs H1=>∃j:Int,vs=[.int j]/\j<2^62/\R (Itr 0 j.toNat) H1
theorem VA{a:Expr}{ta:TA}{p pos:Pos}(hg:Gl X "range") (hm:X.mg "range"=none) (ha:PA X [a] ta) (hs:starEach [a] X.env=[(false,eval a X.env)]:=by rfl):PI X tg (.Call (.Name "range" p) [a] [] pos) (Sv ta):=by
 intro pins s B H R I h;refine Call_ (vw I hg hm boot_range (X4 (thn (ha pos pins s B H _ I h) fun us s1 hm=>?_) hs rfl));obtain⟨vs,H1,I1,r1,q1⟩:=hm;obtain⟨j,e,q2,q⟩:=q1;subst e;cases r1 with
 |cons r rr=>
  cases rr;obtain⟨t,rfl⟩:=r;by_cases hj:-(2^62)<=j
  ·exact call_range_1 (Cq I1 (by omega) (by omega) hj q2 (by simpa using q))
  ·have e0:j.toNat=0:=by omega
   rw[e0] at q;cases hsm:Builtin.Range.small 0 j 1 with
   |false=>exact call_range_1 (WP I1 (by omega) hsm q)
   |true=>exact call_range_1 (SK I1 (by omega) hsm q)
end
end L2
namespace L3
open PySem PySem.Spec L2
section
variable {X:Cx} {K:Frag} {ea:EV} {pos:Pos}
def z0(ea:EV):IV:=fun O L=>(ea O L).bind fun p=>match p.1 with
 | .int j=>if j<=1000000000 then some ((rm 0 j.toNat,none),p.2) else none
 |_=>none
theorem U6(mr:X.mg "range"=none) {tg a:Expr} {p:Pos} (ha:PE X a (tD K ea)) (hg:Gl X "range":=by rfl) (hs:starEach [a] X.env=[(false,eval a X.env)]:=by rfl):PI X tg (.Call (.Name "range" p) [a] [] pos) (tDI K (z0 ea)):=xC (VA hg mr (rP ha so hs) hs) fun B H R h=>by
 refine el5 h fun W O its c Z6 eH ok en e q=>?_;subst eH;refine qE e fun p1 e1 e=>?_;split at e
 ·rename_i j hj;split at e
  ·rename_i hb;cases e;refine⟨W,O,p1.1,p1.2,rfl,ok,en,e1,fun v W1 Z1 ok1 s1 r1=>?_⟩;rw[hj] at r1;cases r1;exact⟨j,rfl,by omega,q _ W1 Z1 ok1 s1 Dx⟩
  ·cases e
 ·cases e
theorem T5{O:G}{L Z5:M}{j:Int}(h:ea O L=some (.int j,Z5))(hj:j<=1000000000):z0 ea O L=some ((rm 0 j.toNat,none),Z5):=by
 unfold z0;rw[h];show(if j<=1000000000 then _ else _)=_;rw[if_pos hj]
end
def Wd.ice(W:Wd)(k:Nat)(d:Addr)(u:HO):Wd:=⟨W.ρ,W.L.set k none,upd W.H d u,W.hid⟩
section
variable {K:Frag} {W:Wd} {k:Nat} {d:Addr} {x:Z8} {u:HO}
theorem T3{a:Addr}(h:RL (W.ice k d u) a):∃j o,j≠k/\W.L[j]?=some (some o)/\W.ρ[j]?=some a:=by
 obtain⟨j,o,h1,h2⟩:=h;have h1:(W.L.set k none)[j]?=some (some o):=h1;by_cases e:j=k
 ·subst e;rw[List.getElem?_set] at h1;simp at h1
 ·rw[XG (Ne.symm e)] at h1;exact⟨j,o,e,h1,h2⟩
theorem A4(hk:W.L[k]?=some (some x))(ha:W.ρ[k]?=some d):Step W (W.ice k d u) where
 ρ _ _ h:=h
 live a h:=let ⟨j,o,_,h1,h2⟩:=T3 h;.inl ⟨j,o,h1,h2⟩
 keep a o e n:=by
  show upd W.H d u a=_;have hne:a≠d:=fun z=>n ⟨k,x,hk,by rw[z];exact ha⟩;rw[qZ hne];exact e
 hid:=rfl
 still a h:=by
  show upd W.H d u a≠none;by_cases z:a=d
  ·subst z;rw[sf];simp
  ·rw[qZ z];exact h
theorem M9(ok:Ok K W)(hk:W.L[k]?=some (some x))(ha:W.ρ[k]?=some d):Ok K (W.ice k d u) where
 len:=by show W.ρ.length=(W.L.set k none).length;rw[Yb];exact ok.len
 nd:=ok.nd
 rs a m:=(A4 (u:=u) hk ha).still a (ok.rs a m)
 at_ j o e:=by
  have e:(W.L.set k none)[j]?=some (some o):=e;have hj:j≠k:=fun z=>by subst z;rw[List.getElem?_set] at e;simp at e
  rw[XG (Ne.symm hj)] at e;obtain⟨a,ho,h1,h2,h3⟩:=ok.at_ j o e;have hne:a≠d:=fun z=>by
   subst z;obtain⟨l1,g1⟩:=Xe.mp h1;obtain⟨l2,g2⟩:=Xe.mp ha;have hn:=Yn.mp ok.nd;rcases Nat.lt_trichotomy j k with z|z|z
   ·exact hn j k l1 l2 z (g1.trans g2.symm)
   ·exact hj z
   ·exact hn k j l2 l1 z (g2.trans g1.symm)
  refine⟨a,ho,h1,by show upd W.H d u a=_;rw[qZ hne];exact h2,?_⟩;have st:=A4 (W:=W) (u:=u) hk ha;cases o with
  |lst ds=>obtain⟨vs,e,q⟩:=h3;exact⟨vs,e,q.step ok st⟩
  |dK kvs=>obtain⟨vs,e,q⟩:=h3;exact⟨vs,e,Paired.mapP q fun _ _ ⟨e,q⟩=>⟨e,q.step ok st⟩⟩
  |dN kvs=>obtain⟨vs,e,q⟩:=h3;exact⟨vs,e,Paired.mapP q fun _ _ ⟨e,q⟩=>⟨e,q.step ok st⟩⟩
  |ins C fs=>obtain⟨vs,e,q⟩:=h3;exact⟨vs,e,Paired.mapP q fun _ _ ⟨e,q⟩=>⟨e,q.step ok st⟩⟩
  |exc C=>exact h3
 hd0 a z:=⟨(A4 (u:=u) hk ha).still a (ok.hd0 a z).1,(ok.hd0 a z).2⟩
end
def zF:Key->D
 | .inl i=>.int i
 | .inr x=>.str x
def PV{K:Frag}{W:Wd}(k:Key):DR K W (zF k) (kV k):=by
 cases k with
 |inl i=>exact .int i
 |inr x=>exact .str x
def KR.get{K:Frag}{W:Wd}{kvs:List (Key×D)}{vs:List (Key×V)}(r:KR K W kvs vs):∀{i:Nat} {k:Key} {d:D} {k':Key} {v:V},kvs[i]?=some (k,d)->vs[i]?=some (k',v)->k=k'/\DR K W d v:=by
 induction r with
 |nil=>intro i k d k' v h;simp at h
 | @cons a b l r hd tl ih=>
  intro i k d k' v h h2;cases i with
  |zero=>
   simp at h h2;subst h h2;exact hd
  |succ i=>exact ih (by simpa using h) (by simpa using h2)
def AW(own:List Str)(cap:List (Str×Nat))(eo:EV)(g:GV)(tc:BV)(tk tv:EV):EV:=fun O L=>(eo O L).bind fun s=>(sF s.2 s.1).bind fun kvs=>match s.1 with
 | .ref n=>chk (kvs.length<=1000000) ((vc s.2.length none g tc tk tv (kvs.map fun kv=>.tup [zF kv.1,kv.2]) (rJ own cap O) (s.2.set n none++[some (.dK [])])).bind fun Z6=>some (.ref s.2.length,Z6))
 |_=>none
section
variable {X:Cx} {K:Frag} {N' own:List Str} {cap:List (Str×Nat)} {scope:Scope} {kx vx o:Expr} {ifs elts:List Expr} {pos apos cpos tpos:Pos} {eo:EV} {g:GV} {tc:BV} {tk tv:EV} {n:Nat}
theorem Pf{W1:Wd}{J:It}{its:List D}{c:Ck}{ZG:G}{ZO:St}{Z6:M}{p:Addr}{Z:Hp->Prop}(ok1:Ok K W1)(hp:W1.H p=none)(jr:qY c W1.L/\∀(W2:Wd) (i:Nat),Ok K W2->qY c W2.L->Step W1 W2->(its.length<=i->J.stop i W2.H)/\∀d,its[i]?=some d->J.go i W2.H/\∀x H',J.yld i W2.H x H'->∃W3,W3.H=H'/\W3.L=W2.L/\Ok K W3/\Step W2 W3/\DR K W3 d x)(en:EnvR K W1 ZG ZO)
  (c0:qY c (W1.L++[some (.dK [])])) (e:vc W1.L.length c g tc tk tv its ZG (W1.L++[some (.dK [])])=some Z6) (hZ:∀W',W'.L=Z6->Ok K W'->Step W1 W'->DR K W' (.ref W1.L.length) (.ref p)->Z W'.H):
  AB J (tDG K g) (tDB K tc) (tD K tk) (tD K tv) p ZO W1.H Z:=by
 obtain⟨c1,hj⟩:=jr;have ok0:=zG (x:=.dK []) (o:=.dK []) ok1 hp ⟨[],rfl,.nil⟩;have s0:=u0 (K:=K) (x:=.dK []) (o:=.dK []) ok1 hp;have r0:=ze (K:=K) (W:=W1) (p:=p) (o:=.dK []) (x:=.dK []) ok1;obtain⟨P,hP⟩:∃P:Nat->St->Hp->Prop,∀i ZW H2,P i ZW H2↔(i<=its.length/\∃W2 ZX,W2.H=H2/\Ok K W2/\Step (W1.new p (.dK []) (.dK [])) W2/\EnvR K W2 ZX ZW/\qY c W2.L/\vc W1.L.length c g tc tk tv (its.drop i) ZX W2.L=some Z6):=⟨_,fun _ _ _=>Iff.rfl⟩
 refine⟨fun i m ZW H2=>m=its.length - i/\P i ZW H2,?_,?_⟩
 ·exact⟨its.length,by simp,(hP _ _ _).2 ⟨X2 _,W1.new p (.dK []) (.dK []),ZG,rfl,ok0,.refl,en.step ok1 s0,c0,e⟩⟩
 rintro i m ZW H2 ⟨rfl,hi⟩;refine bq fun hG=>?_;obtain⟨hi,W2,ZX,rfl,ok2,s2,en2,c2,e2⟩:=(hP _ _ _).1 hi;obtain⟨hstop,hgo⟩:=hj W2 i ok2 c2 (s0.trans s2);by_cases hlt:i<its.length
 ·have hd:its[i]?=some its[i]:=Xk hlt;obtain⟨h1,h2⟩:=hgo _ hd;rw[XC hlt] at e2;refine qE e2 fun pg e3 e2=>?_;refine qE e2 fun pt e4 e2=>?_;refine(hG (.inr ⟨h1,P (i+1),fun Z0 H' hN=>⟨its.length - (i+1),by omega,rfl,hN⟩,fun x H' hy=>?_⟩));refine bq fun hF=>?_;obtain⟨W3,rfl,ZS,ok3,s3,r3⟩:=h2 x H' hy;refine hF ⟨W3,ZX,its[i],pg.1,pg.2,rfl,ok3,en2.step ok2 s3,r3,by rw[ZS];exact e3,fun W4 ZQ ZD ok4 s4 en4=>⟨W4,pg.1,pt.1,pt.2,rfl,ok4,en4,by rw[ZD];exact e4,fun W5 ZP ok5 s5=>?_⟩⟩;have s25:=s3.trans (s4.trans s5);split at e2
  ·rename_i ht;refine qE e2 fun py e5 e2=>?_;refine qE e2 fun pv e6 e2=>?_;refine qE e2 fun k e7 e2=>?_;refine qE e2 fun kvs e8 e2=>?_;obtain⟨⟨hl,c5⟩,e2⟩:=Ez e2;refine(wo (fun _=>?_) (fun n=>absurd ht n));refine⟨W5,pg.1,py.1,py.2,rfl,ok5,en4.step ok4 s5,by rw[ZP];exact e5,fun y W6 Zx ok6 s6 r6=>⟨W6,pg.1,pv.1,pv.2,rfl,ok6,(en4.step ok4 s5).step ok5 s6,by rw[Zx];exact e6,fun v W7 Zp ok7 s7 r7=>?_⟩⟩;have s27:=(s25.trans s6).trans s7;rw[←Zp] at e8;have rp:DR K W7 (.ref W1.L.length) (.ref p):=(r0.step ok0 s2).step ok2 s27;obtain⟨n,a,us,hd,hv,hk,ha,hh,hs⟩:=yL ok7 e8 rp;cases hd;cases hv;obtain⟨o8,s8⟩:=KO (vs':=sj us k v) (kvs':=tM kvs k pv.1) ok7 hk ha (hs.put k r7);exact⟨us,k,hh,zZ (by rw[←hs.len];omega),ED e7 (r6.step ok6 s7),(hP _ _ _).2 ⟨hlt,W7.put W1.L.length p (.dK (sj us k v)) (.dK (tM kvs k pv.1)),pg.1,rfl,o8,(s2.trans s27).trans s8,(((en4.step ok4 s5).step ok5 s6).step ok6 s7).step ok7 s8,by show qY c (W7.L.set _ _);rw[Zp];exact c5,by show vc _ c g tc tk tv _ _ (W7.L.set _ _)=_;rw[Zp];exact e2⟩⟩
  ·rename_i ht;refine uI e2 fun c5 e2=>?_;refine wo (fun n=>absurd n ht) (fun _=>?_);exact(hP _ _ _).2 ⟨hlt,W5,pg.1,rfl,ok5,s2.trans s25,en4.step ok4 s5,by rw[ZP];exact c5,by rw[ZP];exact e2⟩
 ·have e':i=its.length:=by omega
  subst e';rw[XY (Xc _)] at e2;cases e2;exact hG (.inl ⟨hstop (Xc _),hZ W2 rfl ok2 (s0.trans s2) (r0.step ok0 s2)⟩)
theorem Qz(S:CompScope X N' own cap scope)(ho:PE X o (tD K eo))
  (hg:∀cl C Z4 Z2 ex,PG (qN X N' scope cl C Z4 Z2 ex) (.Tuple elts n tpos) (tDG K g)) (ht:∀cl C Z4 Z2 ex,PIf (qN X N' scope cl C Z4 Z2 ex) ifs (tDB K tc)) (hk:∀cl C Z4 Z2 ex,PE (qN X N' scope cl C Z4 Z2 ex) kx (tD K tk)) (hv:∀cl C Z4 Z2 ex,PE (qN X N' scope cl C Z4 Z2 ex) vx (tD K tv))
  (hx:∀e s,X.xe e s->False:=by exact fun _ _ z=>z) (hc:X.calm=true:=by rfl) (hs:∀x,foldedSetIterable (.Call (.Attribute o "items" apos) [] [] cpos) X.env x=pure x:=by intro _;rfl)
  (hbase:attributeBase o "items" X.env (eval o X.env)=eval o X.env:=by rfl) (hline:(apos.endLine==cpos.line)=true:=by rfl) (hK:X.K=K:=by rfl):
  PE X (.DictComp kx vx [⟨.Tuple elts n tpos,.Call (.Attribute o "items" apos) [] [] cpos,ifs,0⟩] scope pos) (tD K (AW own cap eo g tc tk tv)):=rf (T9 S (U2 (R7 K ho hbase hline hK)) hg ht hk hv hx hc hs) fun B H Q h=>by
 refine el4 h fun W O d Z6 eH ok en e q=>?_;subst eH;refine qE e fun p1 e1 e=>?_;refine qE e fun kvs e2 e=>?_;refine⟨W,O,p1.1,p1.2,rfl,ok,en,e1,fun x W1 ZL ok1 s1 r1=>?_⟩;rw[←ZL] at e2;obtain⟨k,a,vs,hd,rfl,hk1,ha1,hh,hs1⟩:=yL ok1 e2 r1;rw[hd] at e;refine uI e fun hl e=>?_;refine qE e fun Z3 e3 e=>?_;cases e;refine(⟨CJ ok1 e2 r1,a,vs,rfl,rfl,hh,fun v hv=>?_⟩);have hav:a≠v:=fun z=>by rw[z,hv] at hh;cases hh
 refine⟨v,a,vs,rfl,sf,by rw[qZ hav];exact hh,fun ob p hp=>?_⟩;have okL:=sU (o:=viO v a) ok1 hv;have stL:=se (W:=W1) (o:=viO v a) hv;have hkL:(W1.lay v (viO v a)).L[k]?=some (some (.dK kvs)):=hk1;have haL:(W1.lay v (viO v a)).ρ[k]?=some a:=ha1;have okI:=M9 (u:=.frz ob (.dK vs)) okL hkL haL;have stI:=A4 (W:=W1.lay v (viO v a)) (u:=.frz ob (.dK vs)) hkL haL;have krI:KR K ((W1.lay v (viO v a)).ice k a (.frz ob (.dK vs))) kvs vs:=Paired.mapP hs1 fun _ _ ⟨e,q⟩=>⟨e,(q.step ok1 stL).step okL stI⟩
 have hfI:((W1.lay v (viO v a)).ice k a (.frz ob (.dK vs))).H a=some (.frz ob (.dK vs)):=sf;generalize hWI:(W1.lay v (viO v a)).ice k a (.frz ob (.dK vs))=WI at okI stI krI hfI;have Ze:WI.L=p1.2.set k none:=by rw[←hWI];show W1.L.set k none=_;rw[ZL]
 have hHI:WI.H=upd (upd W1.H v (viO v a)) a (.frz ob (.dK vs)):=by rw[←hWI];rfl
 have hlen:p1.2.length=WI.L.length:=by rw[Ze,Yb]
 have stA:=(s1.trans stL).trans stI;rw[←hHI] at hp⊢;refine Pf (c:=none) (its:=kvs.map fun kv=>.tup [zF kv.1,kv.2]) (ZG:=rJ own cap O) okI hp ⟨trivial,fun W2 i ok2 _ s2=>?_⟩ ((en.step ok stA).cap own cap) trivial (Z6:=Z6) (by rw[←hlen,Ze];exact e3) fun W' h1 h2 h3 h4=>?_
 ·have hf2:W2.H a=some (.frz ob (.dK vs)):=s2.keep _ _ hfI (okI.nofrz hfI);have kr2:KR K W2 kvs vs:=Paired.mapP krI fun _ _ ⟨e,q⟩=>⟨e,q.step okI s2⟩
  refine⟨fun hi=>⟨hf2,by rw[Xj,krI.len] at hi;exact hi⟩,fun dd hdd=>?_⟩;rw[Xw] at hdd;cases hkv:kvs[i]? with
  |none=>rw[hkv] at hdd;cases hdd
  |some kv=>
   rw[hkv] at hdd;simp at hdd;subst hdd;have hi:i<vs.length:=by rw[←krI.len];exact(Xe.mp hkv).1
   refine⟨⟨hf2,hi⟩,fun x H' hy=>?_⟩;obtain⟨pp,kk,vv,rfl,hpn,rfl,hvs⟩:=hy;obtain⟨ek,rv⟩:=kr2.get (k:=kv.1) (d:=kv.2) hkv hvs;refine(⟨W2.lay pp (.tup [kV kk,vv]),rfl,rfl,sU ok2 hpn,se hpn,?_⟩);rw[ek];exact xo ok2 hpn (.cons (PV kk) (.cons rv .nil))
 ·refine q _ W' h1 h2 (stA.trans h3) ?_;rw[hlen];exact h4
end
end L3
namespace L2
open PySem PySem.Spec PyProof.Rows
section
open PySem.SeqAt
open PySem.AutoSeq1 (wpAny_loadPart')
open PySem.MeetsSeq PySem.MeetsSeq2 PySem.MeetsSeq3 PySem.SeqRoads2
theorem QU(l:Addr)(items:Array Value)(n:Nat)(dd:Option Addr)(sl:Array (Option Value))(x:Value)(e:Nat->Bool)(k:Nat):
  ∀i:Nat,items.size - i=k->Meets (Builtin.«list.__contains__.loop» ⟨[.ref l,x,rawInt i],[]⟩)
   (fun A R s=>s.heap.get? l=some {cls:=.type "list",dict:=dd,data:=.seq items n,slots:=sl}/\(∀j (h:j<items.size),EqAt A.in1 s items[j] x (e j))/\R (.ok (.ret (.bool (((List.range items.size).drop i).any e)))) s):=by
 induction k with
 |zero=>
  intro i hk prog w A R s h;obtain⟨hp,g,d,tk,os⟩:=s;obtain⟨hl,he,h⟩:=h;wp_walk using Yx hl;have hi:items[((i:Nat):Int).toNat]?=none:=by simp;omega
  have hd:(List.range items.size).drop i=[]:=by simp;omega
  rw[hd] at h;rw[hi];wp_walk;exact h
 |succ k ih=>
  intro i hk prog w A R s h;obtain⟨hp,g,d,tk,os⟩:=s;obtain⟨hl,he,h⟩:=h;wp_walk using Yx hl;have hlt:i<items.size:=by omega
  have hi:items[((i:Nat):Int).toNat]?=some items[i]:=by simp[hlt]
  have hd:(List.range items.size).drop i=i::(List.range items.size).drop (i+1):=by simp[XC,hlt]
  rw[hd,Yf] at h;rw[hi];refine Xb (he i hlt prog w _ _ ?_);cases hb:e i with
  |true=>
   rw[hb] at h;wp_walk;exact h
  |false=>
   rw[hb] at h;have hc:((i:Int)+1)=((i+1:Nat):Int):=by push_cast;rfl
   wp_walk;rw[hc];exact⟨YD plain_contains_loop _,YA entry_contains_loop (by
    rw[Yc plain_contains_loop _];exact ih (i+1) (by omega) prog w A R _ ⟨hl,he,by simpa using h⟩)⟩
theorem QZ(l:Addr)(items:Array Value)(n:Nat)(dd:Option Addr)(sl:Array (Option Value))(x:Value)(e:Nat->Bool):
  Meets (Builtin.«list.__contains__» ⟨[.ref l,x],[]⟩)
   (fun A R s=>s.heap.get? l=some {cls:=.type "list",dict:=dd,data:=.seq items n,slots:=sl}/\(∀j (h:j<items.size),EqAt A.in1 s items[j] x (e j))/\R (.ok (.ret (.bool ((List.range items.size).any e)))) s):=by
 intro prog w A R s h;obtain⟨hp,g,d,tk,os⟩:=s;obtain⟨hl,he,h⟩:=h;wp_walk using Yx hl;exact⟨YD plain_contains_loop _,YA entry_contains_loop (by
  rw[Yc plain_contains_loop _];exact QU l items n dd sl x e _ 0 rfl prog w A R _ ⟨hl,he,by simpa using h⟩)⟩
theorem Sz{prog:Program}{w:World}{A:Around}{E:OK}{s:Shared}{l:Addr}{items:Array Value}{x:Value}{Q:OK}(e:Nat->Bool)(hl:s.heap.IsList l items)(he:∀j (h:j<items.size),EqAt A.in1 s items[j] x (e j))
  (h:Q (.bool ((List.range items.size).any e)) s):wpAny (model prog w) A (compareOp .In x (.ref l)) Q E s:=by
 obtain⟨⟨cls,dd,data,sl⟩,ho,hc,n,hd⟩:=id hl;simp only at hc hd;subst hc hd;exact in_meets ⟨_,ho,rfl⟩ F.slot_list_contains F.entry_list_contains (F.args_list_contains_2 _ _) (QZ l items n dd sl x e) ⟨ho,he,_,rfl,h⟩
end
theorem L9:∀{ds:List PyData} {i:Nat} {d:PyData},PyData.canLayAll0 ds=true->ds[i]?=some d->d.canLay0=true
 | [],i,d,_,h=>by simp at h
 |a::r,0,d,hl,h=>by simp[PyData.canLayAll0] at hl;simp at h;subst h;exact hl.1
 |a::r,i+1,d,hl,h=>by simp[PyData.canLayAll0] at hl;simp at h;exact L9 hl.2 h
def Ot{X:Cx}(hu:X.A.units+64<cLine):OpR X (compareOp .In) (fun x y H Q=>∃p xs ds d,y=.ref p/\SqL X.K H p xs/\Dps X.K H xs ds/\Dp X.K H x d/\(PyData.canLayAll0 ds&&d.canLay0&&decide (d.depth<=60))=true/\Q (.bl (ds.any fun e=>PyData.eqv e d)) H):=by
 intro pins s B H x y v u Q I rx ry h;obtain⟨p,xs,ds,d,rfl,hq,hs,hd,hc,q⟩:=h;simp only[XD,Yh] at hc;cases ry;obtain⟨its,rv,pl,hz⟩:=I.list hq;obtain⟨as,r1⟩:=hd.reads I rx;have hl:=rv.length;have hl2:=hs.len;refine(Sz (fun j=>PyData.eqv (ds.getD j .none) d) pl.isList (fun j hj=>?_) ?_)
 ·have hj':j<its.length:=by simpa using hj
  have hx:xs[j]?=some (xs[j]'(by omega)):=Xk (by omega);obtain⟨e,he,hde⟩:=hs.get hx;obtain⟨w,hw,rw'⟩:=rv.get hx;obtain⟨bs,r2⟩:=hde.reads I rw';have e1:its.toArray[j]=w:=by
   have:its[j]?=some (its[j]'hj'):=Xk hj';rw[this] at hw;cases hw;simp
  have e2:ds.getD j .none=e:=by simp[Xh,he]
  rw[e1,e2];refine SeqAt.eqAt_reads e d _ s _ _ _ _ r2 r1 (L9 hc.1.1 he) hc.1.2 ?_;have:X.A.in1.units<=X.A.units+1:=by simp[Around.in1]
  have:=Nat.min_le_right e.depth d.depth;omega
 ·have e:(List.range its.toArray.size).any (fun j=>PyData.eqv (ds.getD j .none) d)=ds.any fun e=>PyData.eqv e d:=by
   have hsz:its.toArray.size=ds.length:=by simp;omega
   rw[hsz,Yk];simp only[Ys,X6];constructor
   ·rintro⟨j,hj,e⟩;exact⟨ds[j],XU _,by simpa[Xh,Xk hj] using e⟩
   ·rintro⟨e,hm,he⟩;obtain⟨j,hj⟩:=X8 hm;exact(⟨j,(Xe.mp hj).1,by simpa[Xh,hj] using he⟩)
  rw[e];exact⟨.bl _,H,I,rfl,q⟩
section
variable {X:Cx} {N' own:List Str} {cap:List (Str×Nat)} {scope:Scope} {tg iter elt:Expr} {ifs:List Expr} {pos:Pos} {wi:TI} {g:TG} {tc:TT} {te:TE}
theorem Om(S:CompScope X N' own cap scope)(hi:PI X tg iter wi)
  (hg:∀cl C Z4 Z2 ex,PG (qN X.nox N' scope cl C Z4 Z2 ex) tg g) (ht:∀cl C Z4 Z2 ex,PIf (qN X.nox N' scope cl C Z4 Z2 ex) ifs tc) (he:∀cl C Z4 Z2 ex,PE (qN X.nox N' scope cl C Z4 Z2 ex) elt te)
  (hc:X.calm=true:=by rfl) (hs:∀x,foldedSetIterable iter X.env x=pure x:=by intro _;rfl):
  PE X (.ListComp elt [⟨tg,iter,ifs,0⟩] scope pos) (Gy own cap wi g tc te):=by
 intro pins s B H Q I h;rw[eval_ListComp];obtain⟨cl,hcl,c1,c2⟩:=yl (scope:=scope) (env:=X.env) fun y hy hk=>I.ok.has y.1 (S.free y hy hk);refine(Ya (use:=none) rfl hs hcl S.kind S.names (thn (hi pins s B H _ I h) fun v s1 h1=>thn h1 fun itv s2 h2=>?_));obtain⟨it,fp,tn,J,H2,e,I2,T,st2,f2,q⟩:=h2;subst e;have S':CompScope X.nox N' own cap scope:=⟨S.kind,S.own1,S.free1,S.names,S.free,S.eq,S.cap⟩
 refine(Cm (X:=X.nox) (RR:=fun acc C=>compPost (model X.prog X.w) X.A X.xe none (EP X pins B Q) acc C) (Z:=fun D=>Q (.ref D)) (fun _ _ z=>z) hc S' hg ht he (I2.wish _) T st2 f2 c1 c2 q ?_);intro D C s' m' H' I' hn' f' z;exact⟨m',hn',fun h'' hs''=>⟨.ref D,H',I'.unwish.letgo f' hs'',rfl,z⟩⟩
end
end L2
namespace L3
open PySem PySem.Spec L2
section
variable {X:Cx} {K:Frag} {a b:Expr} {ea eb:EV} {pos p:Pos} {k:Nat}
def vp(neg:Bool)(x y:D)(L:M):Fr:=if neg=true then none else(rN L y).bind fun ds=>(optAll (py 65 L) ds).bind fun es=>(py 65 L x).bind fun d=>if(PyData.canLayAll0 es&&d.canLay0&&decide (d.depth<=60))=true then some (.bl (es.any fun e=>PyData.eqv e d),L) else none
theorem Rv:R2A K (fun x y H Q=>∃p xs ds d,y=.ref p/\SqL K H p xs/\Dps K H xs ds/\Dp K H x d/\(PyData.canLayAll0 ds&&d.canLay0&&decide (d.depth<=60))=true/\Q (.bl (ds.any fun e=>PyData.eqv e d)) H) (vp false):=by
 intro W x y d e z Z6 Q ok r1 r2 hf q;unfold vp at hf;rw[if_neg (by simp)] at hf;refine qE hf fun ds h1 hf=>?_;refine qE hf fun es h2 hf=>?_;obtain⟨d',h3,hf⟩:=bnd hf;split at hf
 ·rename_i hc;cases hf;obtain⟨a,vs,rfl,hs,hv⟩:=uK ok h1 r2;exact(⟨a,vs,es,d',rfl,hs,wK (vJ ok 65) hv h2,vJ ok _ _ _ _ r1 h3,hc,q _ W rfl ok .refl (.bl _)⟩)
 ·cases hf
theorem WX(hr:Room k X.A)(ha:PE X a (tD K ea))(hb:PE X b (tD K eb))(hm:behindInMarks .In b=false:=by rfl)(hK:X.K=K:=by rfl):PE X (.Compare a [.In] [b] pos) (tD K (v2 (vp false) ea eb)):=by
 subst hK;exact Fl (Ot hr.units) Rv ha hb hm
end
section
variable {X:Cx} {E:St->XK} {K:Frag} {N' own:List Str} {cap:List (Str×Nat)} {scope:Scope} {tg iter elt:Expr} {ifs:List Expr} {pos:Pos} {ex:EX} {g:GV} {tc:BV} {te:EV}
def xh(own:List Str)(cap:List (Str×Nat))(ex:EX)(g:GV)(tc:BV)(te:EV):EX:=fun O L=>(ex O L).bind fun p=>match p.1 with
 | .ok d=>(lsC p.2 d).bind fun s=>if s.1.length<=1000000 then(rX s.2 g tc te s.1 (rJ own cap O) p.2).bind fun q=>some (.ok (.lst q.1),q.2) else none
 | .ex C=>some (.ex C,p.2)
theorem JI(S:CompScope X N' own cap scope)(hi:PE X iter (tX K E ex))
  (hg:∀cl C Z4 Z2 ex,PG (qN X.nox N' scope cl C Z4 Z2 ex) tg (tDG K g)) (ht:∀cl C Z4 Z2 ex,PIf (qN X.nox N' scope cl C Z4 Z2 ex) ifs (tDB K tc)) (he:∀cl C Z4 Z2 ex,PE (qN X.nox N' scope cl C Z4 Z2 ex) elt (tD K te))
  (hc:X.calm=true:=by rfl) (hs:∀x,foldedSetIterable iter X.env x=pure x:=by intro _;rfl) (hK:X.K=K:=by rfl):
  PE X (.ListComp elt [⟨tg,iter,ifs,0⟩] scope pos) (tX K E (xh own cap ex g tc te)):=by
 subst hK;refine rf (Om S (L4 hi) hg ht he hc hs) fun B H Q h=>?_;refine el4 h fun W O r Z6 eH ok en e q=>?_;subst eH;obtain⟨⟨r1,Z5⟩,e1,e⟩:=bnd e;refine(⟨W,O,r1,Z5,rfl,ok,en,e1,fun W1 ZL ok1 s1=>?_⟩);cases r1 with
 |ex C=>
  cases e;exact q W1 ZL ok1 s1
 |ok d=>
  intro v rv;obtain⟨⟨its,c⟩,e2,e⟩:=bnd e;split at e
  ·rename_i hl;obtain⟨⟨rs,Z3⟩,e3,e⟩:=bnd e;cases e;obtain⟨c0,a,rfl,hh⟩:=CK ok1 (by rw[ZL];exact e2) rv;obtain⟨vs0,h0,_⟩:=hh W1 ok1 c0 rv;refine(⟨a,rfl,⟨_,h0⟩,fun p hp=>?_⟩);have jr:JR X.K W1 (Itl X.K a) its c:=⟨c0,[d],[.ref a],.cons rv .nil,fun W2 i ok2 c2 r2=>by
    cases r2 with
    |cons r2 _=>
     obtain⟨vs,hs,hv⟩:=hh W2 ok2 c2 r2;refine⟨fun hi=>⟨vs,hs,by rw[←hv.length];exact hi⟩,fun d hd=>?_⟩;obtain⟨v,hv1,hv2⟩:=hv.get hd;refine(⟨⟨vs,v,hs,hv1⟩,fun x H' y=>?_⟩);obtain⟨rfl,y⟩:=y;have:=y vs hs;rw[hv1] at this;cases this;exact⟨W2,rfl,rfl,ok2,.refl,hv2⟩⟩
   refine Kg ok1 hp jr ((en.step ok s1).cap own cap) hl (by rw[ZL];exact e3) fun W' ys Zm ok' s' hp' hy r=>?_;obtain⟨a1,a2,a3⟩:=Ev s1 hp ok1 ok' s' hp' hy r;exact(q (W'.show W1.hid) Zm a1 a2 _ a3)
  ·cases e
end
section
variable {K:Frag} {k:Nat}
theorem QC{W:Wd}(n:Nat):DRs K W (rm 0 n) ((List.range n).map fun k:Nat=>V.int (k:Int)):=by
 have h:=Eh (K:=K) (W:=W) ((List.range n).map fun k:Nat=>(k:Int));rw[XS,XS] at h;have e:rm 0 n=(List.range n).map (D.int∘fun k:Nat=>(k:Int)):=by
  unfold rm;exact Yj fun k _=>by simp
 rw[e];exact h
end
end L3
namespace L2
open PySem PySem.Spec PyProof.Rows
end L2
namespace L3
open PySem PySem.Spec L2
def sh(kvs:List (NK×D))(k:NK):Option D:=(kvs.find? fun kv=>decide (kv.1=k)).map (·.2)
def ux(kvs:List (NK×D))(k:NK)(v:D):List (NK×D):=
 if(kvs.any fun kv=>decide (kv.1=k))=true then kvs.map (fun kv=>if kv.1=k then(kv.1,v) else kv) else kvs++[(k,v)]
def vX:D->Option NK
 | .tup [.tup ds,.int n]=>(optAll inI ds).bind fun ns=>some (ns,n)
 |_=>none
def vK(L:M):D->Option (List (NK×D))
 | .ref k=>match L[k]? with
  |some (some (.dN kvs))=>some kvs
  |_=>none
 |_=>none
section
variable {K:Frag} {W:Wd}
theorem KS:∀{ds:List D} {vs:List V} {ns:List Int},optAll inI ds=some ns->DRs K W ds vs->vs=ns.map V.int
 | [],_,ns,h,r=>by cases h;cases r;rfl
 |d::ds,_,ns,h,r=>by
  cases r with
  |cons r1 r2=>
   simp only[optAll] at h;refine qE h fun i e1 h=>?_;refine qE h fun is e2 h=>?_;cases h;have:=KS e2 r2;subst this;cases d<;>simp only[inI] at e1<;>cases e1
   cases r1;rfl
theorem Fd{d:D}{k:NK}{v:V}(h:vX d=some k)(r:DR K W d v):∃b,v=.ref b/\NKey W.H b k:=by
 unfold vX at h;split at h
 ·rename_i ds n;refine qE h fun ns e h=>?_;cases h;cases r with
  | @tup a vs _ hh rs=>
   cases rs with
   |cons r1 rs=>
    cases rs with
    |cons r2 rs=>
     cases rs;cases r2;cases r1 with
     | @tup b us _ hb ru=>
      have:=KS e ru;subst this;exact⟨a,rfl,b,hh,hb⟩
 ·cases h
theorem DM{d:D}{kvs:List (NK×D)}{v:V}(ok:Ok K W)(h:vK W.L d=some kvs)(r:DR K W d v):
  ∃k a vs,d=.ref k/\v=.ref a/\W.L[k]?=some (some (.dN kvs))/\W.ρ[k]?=some a/\W.H a=some (.dT vs)/\NR K W kvs vs:=by
 cases d with
 |ref k=>
  simp only[vK] at h;split at h
  ·rename_i kvs' hk;cases h;cases r with
   |ref ha=>
    obtain⟨a',ho,h1,h2,vs,rfl,r⟩:=ok.at_ k _ hk;rw[ha] at h1;cases h1;exact⟨k,_,vs,rfl,rfl,hk,ha,h2,r⟩
  ·cases h
 |_=>simp[vK] at h
theorem NR.len{kvs:List (NK×D)}{vs:List (NK×V)}(r:NR K W kvs vs):kvs.length=vs.length:=Paired.length r
theorem NR.any{kvs:List (NK×D)}{vs:List (NK×V)}(r:NR K W kvs vs)(k:NK):(kvs.any fun kv=>decide (kv.1=k))=vs.any fun kv=>decide (kv.1=k):=by
 unfold NR at r;induction r with
 |nil=>rfl
 |cons h t ih=>rw[Yf,Yf,ih,h.1]
theorem NR.val{kvs:List (NK×D)}{vs:List (NK×V)}(r:NR K W kvs vs)(k:NK):(sh kvs k).isSome=(sQ vs k).isSome:=by
 unfold NR at r;induction r with
 |nil=>rfl
 | @cons p q ps qs h t ih=>
  by_cases e:p.1=k
  ·rw[wF (by rw[←h.1];exact e)];simp[sh,Xp,e]
  ·rw[wB (by rw[←h.1];exact e)];simp only[sh,Xp,e,decide_false] at ih⊢;exact ih
theorem NR.at{kvs:List (NK×D)}{vs:List (NK×V)}(r:NR K W kvs vs){k:NK}{d:D}(h:sh kvs k=some d):∃v,sQ vs k=some v/\DR K W d v:=by
 unfold NR at r;induction r with
 |nil=>cases h
 | @cons p q ps qs hd t ih=>
  by_cases e:p.1=k
  ·have:sh (p::ps) k=some p.2:=by simp[sh,Xp,e]
   rw[this] at h;cases h;exact⟨q.2,wF (by rw[←hd.1];exact e),hd.2⟩
  ·have:sh (p::ps) k=sh ps k:=by simp[sh,Xp,e]
   rw[this] at h;obtain⟨v,h1,h2⟩:=ih h;exact⟨v,by rw[wB (by rw[←hd.1];exact e)];exact h1,h2⟩
theorem NR.put{kvs:List (NK×D)}{vs:List (NK×V)}(r:NR K W kvs vs)(k:NK){d:D}{v:V}(rv:DR K W d v):NR K W (ux kvs k d) (sj vs k v):=by
 unfold ux sj;rw[r.any k];by_cases e:(vs.any fun kv=>decide (kv.1=k))=true
 ·rw[if_pos e,if_pos e];unfold NR at r⊢;clear e;induction r with
  |nil=>exact .nil
  | @cons p q ps qs h t ih=>
   refine .cons ?_ ih;show(if p.1=k then(p.1,d) else p).1=(if q.1=k then(q.1,v) else q).1/\DR K W (if p.1=k then(p.1,d) else p).2 (if q.1=k then(q.1,v) else q).2;by_cases e:p.1=k
   ·rw[if_pos e,if_pos (by rw[←h.1];exact e)];exact⟨h.1,rv⟩
   ·rw[if_neg e,if_neg (by rw[←h.1];exact e)];exact h
 ·rw[if_neg e,if_neg e];exact Paired.snoc r ⟨rfl,rv⟩
theorem NZ{k:Nat}{a:Addr}{kvs kvs':List (NK×D)}{vs':List (NK×V)}(ok:Ok K W)(hk:W.L[k]?=some (some (.dN kvs)))(ha:W.ρ[k]?=some a)(hs:NR K W kvs' vs'):
  Ok K (W.put k a (.dT vs') (.dN kvs'))/\Step W (W.put k a (.dT vs') (.dN kvs')):=⟨Bv ok hk ha ⟨vs',rfl,hs⟩,v3 hk ha⟩
theorem Hy{H:Hp}{a b:Addr}{kvs:List (NK×V)}{k:NK}(e:H a=some (.dT kvs))(eb:NKey H b k):DGet H a (.ref b) (sQ kvs k):=.inr ⟨kvs,k,b,.inl e,rfl,eb,rfl⟩
theorem Tc{H:Hp}{a b:Addr}{kvs:List (NK×V)}{k:NK}{v:V}(e:H a=some (.dT kvs))(eb:NKey H b k)(hl:kvs.length<sizeLine):Dj H a (.ref b) v (upd H a (.dT (sj kvs k v))):=.inr ⟨kvs,k,b,e,rfl,eb,hl,rfl⟩
end
section
variable {X:Cx} {K:Frag} {a b e o i value:Expr} {ea eb eo ei:EV} {pos p pos':Pos} {k:Nat}
def D9:EV:=fun _ L=>some (.ref L.length,L++[some (.dN [])])
theorem P3:PE X (.Dict [] [] pos) (tD K D9):=rf Qm fun B H Q h=>by
 refine el4 h fun W O d Z6 eH ok en e q=>?_;subst eH;cases e;intro pa hp;exact q _ (W.new pa (.dT []) (.dN [])) rfl (zG ok hp ⟨[],rfl,.nil⟩) (u0 ok hp) (ze ok)
def AJ(x y:D)(L:M):Fr:=(vK L x).bind fun kvs=>(vX y).bind fun k=>(sh kvs k).bind fun d=>some (d,L)
theorem NB(hr:Room k X.A)(ha:PE X a (tD K ea))(hb:PE X b (tD K eb))(hs:Bf b:=by exact fun _ _=>rfl):PE X (.Subscript a b pos) (tD K (v2 AJ ea eb)):=
 rf (Ir (by have:=hr.un;omega) ha hb hs) fun B H Q h=>by
  refine el4 h fun W O d Z6 eH ok en e q=>?_;subst eH;refine qE e fun p1 e1 e=>?_;refine qE e fun p2 e2 e=>?_;refine qE e fun kvs e3 e=>?_;refine qE e fun ky e4 e=>?_;refine qE e fun d2 e5 e=>?_;cases e;refine⟨W,O,p1.1,p1.2,rfl,ok,en,e1,fun x W1 Z1 ok1 s1 r1=>⟨W1,O,p2.1,p2.2,rfl,ok1,en.step ok s1,by rw[Z1];exact e2,fun y W2 ZV ok2 s2 r2=>?_⟩⟩;rw[←ZV] at e3;obtain⟨n,a,vs,hd,rfl,hk,ha,hh,hs⟩:=DM ok2 e3 (r1.step ok1 s2);obtain⟨b,rfl,hb⟩:=Fd e4 r2;obtain⟨v,h1,h2⟩:=hs.at e5;exact⟨a,v,rfl,by rw[←h1];exact Hy hh hb,q _ W2 ZV ok2 (s1.trans s2) h2⟩
def yR(neg:Bool)(y x:D)(L:M):Fr:=(vX y).bind fun k=>(vK L x).bind fun kvs=>some (.bl (xor neg (sh kvs k).isSome),L)
theorem SD(neg:Bool):∀B H Q,tD K (v2 (yR neg) ea eb) B H Q->(fun B H Q=>tD K ea B H fun y H1=>tD K eb B H1 fun x H2=>∃a ov,x=.ref a/\DGet H2 a y ov/\Q (.bl (xor neg ov.isSome)) H2:TE) B H Q:=fun B H Q h=>by
 refine el4 h fun W O d Z6 eH ok en e q=>?_;subst eH;refine qE e fun p1 e1 e=>?_;refine qE e fun p2 e2 e=>?_;refine qE e fun k e3 e=>?_;refine qE e fun kvs e4 e=>?_;cases e;refine⟨W,O,p1.1,p1.2,rfl,ok,en,e1,fun x W1 Z1 ok1 s1 r1=>⟨W1,O,p2.1,p2.2,rfl,ok1,en.step ok s1,by rw[Z1];exact e2,fun y W2 ZV ok2 s2 r2=>?_⟩⟩;rw[←ZV] at e4;obtain⟨n,a,vs,_,rfl,_,_,hh,hs⟩:=DM ok2 e4 r2;obtain⟨b,rfl,hb⟩:=Fd e3 (r1.step ok1 s2);refine⟨a,_,rfl,Hy hh hb,?_⟩;rw[←hs.val k];exact q _ W2 ZV ok2 (s1.trans s2) (.bl _)
theorem U5(hr:Room k X.A)(ha:PE X a (tD K ea))(hb:PE X b (tD K eb))(hm:behindInMarks .NotIn b=false:=by rfl):PT X (.Compare a [.NotIn] [b] pos) (tDB K (vT (v2 (yR true) ea eb))):=
 vG (Qe (QG (by have:=hr.un;omega) ha hb) hm) (Bi fun B H Q h=>by
  have:=SD true B H Q h;simp only[Bool.true_xor] at this;exact this)
def Db(eo ei ev:EV):SV:=fun O L=>(ev O L).bind fun v=>(eo O v.2).bind fun p=>(ei O p.2).bind fun q=>(vX q.1).bind fun k=>(vK q.2 p.1).bind fun kvs=>match p.1 with
 | .ref n=>if kvs.length<16000000 then some (.nx,O,q.2.set n (some (.dN (ux kvs k v.1)))) else none
 |_=>none
theorem UE{ev:EV}(hr:Room k X.A)(ho:PE X o (tD K eo))(hi:PE X i (tD K ei))(hv:PE X value (tD K ev))(hs:swapsWith value (some (.Subscript o i pos')) pos.line X.env=pure false:=by rfl):
  PS X (.Assign [.Subscript o i pos'] value pos) (tDS K (Db eo ei ev)):=sS (We (by have:=hr.un;omega) ho hi hv hs) fun D B H h=>by
 refine el5 h fun W O o ZY Z6 eH ok en e q=>?_;subst eH;refine qE e fun v0 e0 e=>?_;refine qE e fun p1 e1 e=>?_;refine qE e fun p2 e2 e=>?_;refine qE e fun ky e3 e=>?_;refine qE e fun kvs e4 e=>?_;refine⟨W,O,v0.1,v0.2,rfl,ok,en,e0,fun z W0 Y9 ok0 s0 r0=>⟨W0,O,p1.1,p1.2,rfl,ok0,en.step ok s0,by rw[Y9];exact e1,fun x W1 Z1 ok1 s1 r1=>⟨W1,O,p2.1,p2.2,rfl,ok1,(en.step ok s0).step ok0 s1,by rw[Z1];exact e2,fun y W2 ZV ok2 s2 r2=>?_⟩⟩⟩;rw[←ZV] at e4;obtain⟨n,a,vs,hd,rfl,hk,ha,hh,hs⟩:=DM ok2 e4 (r1.step ok1 s2);rw[hd] at e;simp only at e;split at e
 ·rename_i hl;cases e;obtain⟨b,rfl,hb⟩:=Fd e3 r2;obtain⟨o3,s3⟩:=NZ (vs':=sj vs ky z) (kvs':=ux kvs ky v0.1) ok2 hk ha (hs.put ky ((r0.step ok0 s1).step ok1 s2));refine⟨a,_,rfl,Tc hh hb (by rw[←hs.len,YB];omega),?_⟩;exact q (W2.put n a (.dT (sj vs ky z)) (.dN (ux kvs ky v0.1))) B (by show W2.L.set _ _=_;rw[ZV]) o3 (((s0.trans s1).trans s2).trans s3) ((((en.step ok s0).step ok0 s1).step ok1 s2).step ok2 s3)
 ·cases e
end
end L3
namespace L2
open PySem PySem.Spec PyProof.Rows
section
variable {prog:Program} {w:World} {A:Around} {E:OK} {s:Shared}
theorem Ro{Q:List Value->Shared->Prop}{r:Addr}{a b c:Int}{t u v:Tok}{n:Nat}(hh:A.handled=none)(hr:IsRange s.heap r a b c t u v)(hsmall:Builtin.Range.small a b c=true)(hn:Builtin.Range.rangeSize a b c=n)(hlen:n<=2^24)
  (hQ:∀(h':Heap) (tk:Nat) (acc:Array Value),(∀b o,s.heap.get? b=some o->h'.get? b=some o)->ItemsOf (fun i v=>∃t,v=.int (a+i*c) t) acc n->Q acc.toList {s with heap:=h',toks:=tk}):
  wpAny (model prog w) A (collect (.ref r)) Q E s:=by
 unfold collect;refine Xb (wpAny_runValue (YA F.entry_proto_collect ?_));rw[Yc F.plain_proto_collect _];show wpAny _ A.in1 (newList [] >>= fun l=>again (.builtin "list.__iadd__" ⟨[l,.ref r],[]⟩)) _ _ s;refine Xb (X5 ?_);refine Xf ⟨YD F.plain_list_iadd _,YA F.entry_list_iadd ?_⟩;rw[Yc F.plain_list_iadd _];show wpAny _ A.in1 (Builtin.List.listExtendWith (.ref s.heap.objs.size) (.ref r) (.ref s.heap.objs.size)) _ _ _;have hS:(s.heap.push {cls:=.type "list",data:=.seq ([]:List Value).toArray}).get? s.heap.objs.size=some {cls:=.type "list",data:=.seq #[] 0}:=Xl _ rfl;have hr1:=Xd {cls:=.type "list",data:=.seq ([]:List Value).toArray} hr;have fin:∀(h':Heap) (tk:Nat) (acc:Array Value) (c':Nat),(∀b o,b≠s.heap.objs.size->(s.heap.push {cls:=.type "list",data:=.seq ([]:List Value).toArray}).get? b=some o->h'.get? b=some o)->h'.get? s.heap.objs.size=some {cls:=.type "list",dict:=none,data:=.seq acc c',slots:=#[]}->
   ItemsOf (fun i v=>∃t,v=.int (a+i*c) t) acc n->wpAny (model prog w) A (match Value.ref s.heap.objs.size with
   |Value.ref a=>do
    match(←load a).data with
     |Data.seq xs _=>pure xs.toList
     |_=>unsupported "internal:collect"
   |_=>unsupported "internal:collect") Q E {s with heap:=h',toks:=tk}:=by
  intro h' tk acc c' hk hS' hacc;show wpAny _ A (load s.heap.objs.size >>= _) _ _ _;refine Xb (wpAny_load hS' ?_);exact Xf (hQ h' tk acc (fun b o hb=>hk b o (Xr (Xi hb)) (Xd _ hb)) hacc)
 refine Xg (wpAny_extend_range (A:=A) (s:={s with heap:=s.heap.push {cls:=.type "list",data:=.seq ([]:List Value).toArray}}) (R:=fun r' s'=>r'=.ok (.ret (.ref s.heap.objs.size))/\∃h' tk acc c',s'={s with heap:=h',toks:=tk}/\(∀b o,b≠s.heap.objs.size->(s.heap.push {cls:=.type "list",data:=.seq ([]:List Value).toArray}).get? b=some o->h'.get? b=some o)/\h'.get? s.heap.objs.size=some {cls:=.type "list",dict:=none,data:=.seq acc c',slots:=#[]}/\ItemsOf (fun i v=>∃t,v=.int (a+i*c) t) acc n)
  hh hr1 hsmall hn hlen s.heap.objs.size (.ref s.heap.objs.size) 0 hS (fun h' tk acc c' h1 h2 h3=>⟨rfl,h',tk,acc,c',rfl,h1,h2,h3⟩)) (fun fi s' h=>?_) (fun e s' h=>?_)
 ·cases fi with
  |done f=>
   obtain⟨e,h',tk,acc,c',rfl,h1,h2,h3⟩:=h;cases e;exact fin h' tk acc c' h1 h2 h3
  |again c2=>exact⟨h.1,codeAny_mono h.2 fun r s'' hr=>by obtain⟨rfl,h',tk,acc,c',rfl,h1,h2,h3⟩:=hr;exact fin h' tk acc c' h1 h2 h3⟩
 ·exact absurd h.1 (by simp)
theorem Oy{Q₁:OK}{r:Addr}{a b c:Int}{t u v:Tok}{n:Nat}(hh:A.handled=none)(hr:IsRange s.heap r a b c t u v)(hsmall:Builtin.Range.small a b c=true)(hn:Builtin.Range.rangeSize a b c=n)(hlen:n<=2^24)
  (h:∀(h':Heap) (tk:Nat) (acc:Array Value),(∀b o,s.heap.get? b=some o->h'.get? b=some o)->ItemsOf (fun i v=>∃t,v=.int (a+i*c) t) acc n->Q₁ (.ref h'.objs.size) {s with heap:=h'.push {cls:=.type "tuple",data:=.seq acc},toks:=tk}) (hsz:n<=sizeLine):
  codeAny (model prog w) A (.call (.builtin "tuple.__new__") ⟨[.type "tuple",.ref r],[]⟩) (wants Q₁ E) s:=by
 refine codeAny_of_tree ?_;show wpAny _ A.in1 (do checkBuiltinCall "tuple.__new__" ⟨[.type "tuple",.ref r],[]⟩;again (.builtin "tuple.__new__" ⟨[.type "tuple",.ref r],[]⟩)) _ _ s;refine Xb (wpAny_of_eq (F.newCall_tuple_1 _) (Xf ⟨YD F.plain_tuple_new _,YA F.entry_tuple_new ?_⟩));rw[Yc F.plain_tuple_new _];have hsub:=sub_tuple_self;have hinit:=init_tuple_lookup;have hmh:=madeHere_tuple;have hTI:s.TypeIs (.ref r) "range":=⟨_,hr,rfl⟩
 have hh1:A.in1.handled=none:=hh;wp_walk using wpAny_typeOf hTI,Ro hh1 hr hsmall hn hlen;intro h' tk acc hk hacc;show wpAny _ _ (Builtin.Tuple.tupleExact acc.toList.toArray >>= fun v=>ret v) _ _ _;unfold Builtin.Tuple.tupleExact;refine Xb (X5 ?_ (by show acc.toList.toArray.size<=sizeLine;simp only[Array.toArray_toList];rw[hacc.1];exact hsz));refine Xf ?_;have e:acc.toList.toArray=acc:=by simp
 rw[e];exact h h' tk acc hk hacc
theorem NI{Q:OK}{r:Addr}{a b c:Int}{t u v:Tok}{n:Nat}(hh:A.handled=none)(hr:IsRange s.heap r a b c t u v)(hsmall:Builtin.Range.small a b c=true)(hn:Builtin.Range.rangeSize a b c=n)(hlen:n<=2^24)
  (h:∀(h':Heap) (tk:Nat) (acc:Array Value),(∀b o,s.heap.get? b=some o->h'.get? b=some o)->ItemsOf (fun i v=>∃t,v=.int (a+i*c) t) acc n->Q (.ref h'.objs.size) {s with heap:=h'.push {cls:=.type "tuple",data:=.seq acc},toks:=tk}) (hsz:n<=sizeLine):
  wpAny (model prog w) A (call (.type "tuple") [.ref r]) Q E s:=by
 refine callType_codes (Q₁:=fun obj ZU=>ZU.TypeIs obj "tuple"/\Q obj ZU) F.called_tuple (F.typeCall_tuple_1 _) F.entry_object_init
  (Oy hh hr hsmall hn hlen (fun h' tk acc hk hacc=>⟨⟨_,Xl _ rfl,rfl⟩,h h' tk acc hk hacc⟩) hsz) fun obj ZU ZR=>?_
 exact⟨ZR.1,F.args_object_init_2 obj _,object_init_meets F.called_tuple.init.lookup F.called_tuple.made (by decide) prog w A.in1 _ ZU ⟨ZR.1,rfl,ZR.2⟩⟩
end
section
variable {X:Cx} {a:Expr} {ta:TE} {p pos:Pos}
theorem Tl{acc:Array Value}{n:Nat}(hacc:ItemsOf (fun i v=>∃t,v=.int (0+i*1) t) acc n):Vals ((List.range n).map fun k:Nat=>V.int (k:Int)) acc.toList:=by
 have hl:acc.toList.length=n:=by rw[Yi];exact hacc.1
 have key:∀(m:Nat) (l:List Value) (k0:Nat),l.length=m->(∀j v,l[j]?=some v->∃t,v=Value.int ((k0+j:Nat):Int) t)->Vals ((List.range' k0 m).map fun k:Nat=>V.int (k:Int)) l:=by
  intro m;induction m with
  |zero=>intro l k0 e _;have:=Yd.mp e;subst this;exact .nil
  |succ m ih=>
   intro l k0 e hj;cases l with
   |nil=>simp at e
   |cons x l=>
    rw[List.range'_succ,Xn];obtain⟨t,ex⟩:=hj 0 x rfl;refine .cons ⟨t,?_⟩ (ih l (k0+1) (by simpa using e) fun j v ev=>?_)
    ·rw[ex];simp
    ·obtain⟨t',e'⟩:=hj (j+1) v (by simpa using ev);exact⟨t',by rw[e'];congr 2;omega⟩
 rw[List.range_eq_range'];refine key n acc.toList 0 hl fun j v ev=>?_;obtain⟨t',e'⟩:=hacc.2 j v (by simpa using ev);exact⟨t',by rw[e'];simp⟩
theorem Vo(hc:X.calm=true):tL X (.type "tuple") (fun xs H Q=>∃(r:Addr) (n:Nat),xs=[.ref r]/\H r=some (.rng 0 (n:Int))/\n<=1000000/\∀l,H l=none->Q (.ref l) (upd H l (.tup ((List.range n).map fun k:Nat=>V.int (k:Int))))):=by
 intro pins s B H xs us Q I r h;obtain⟨r',n,rfl,e,hn,q⟩:=h;obtain⟨u,rfl,ru⟩:=uZ r;cases ru;obtain⟨t,u,v,ho⟩:=(show ∃t u v,s.heap.get? r'=some {cls:=.type "range",data:=.fields #[.int 0 t,.int (n:Int) u,.int 1 v]} from I.hok r' _ e)
 refine NI (a:=0) (b:=n) (c:=1) (n:=n) (I.ok.hd hc) ho (small_one (by omega) (by omega) (by omega) (by omega)) (by rw[rangeSize_one];split<;>omega) (by omega) (fun h' tk acc hk hacc=>?_) (uR hn);have I1:Inv X pins B H {s with heap:=h',toks:=tk}:=I.kept (t':=tk) hk;have hv:=Tl hacc;have I2:Inv X pins B (upd H h'.objs.size (.tup ((List.range n).map fun k:Nat=>V.int (k:Int)))) {s with heap:=h'.push {cls:=.type "tuple",data:=.seq acc.toList.toArray},toks:=tk}:=
  I1.laid (t':=tk) (fun b o e=>Xd _ e) (Xc _) (show ObjOk X.prog X.w _ _ _ (.tup _) from⟨by rw[Xj,XW];exact uR hn,acc.toList,hv,IsTup.new _ _⟩)
 have e2:acc.toList.toArray=acc:=by simp
 rw[e2] at I2;exact⟨.ref h'.objs.size,_,I2,rfl,q _ (I1.hok.fresh (Xc _))⟩
theorem TM(ml:X.mg "tuple"=none) (ha:PE X a ta) (hg:Gl X "tuple":=by rfl) (hs:starEach [a] X.env=[(false,eval a X.env)]:=by rfl) (hc:X.calm=true:=by rfl):
  PE X (.Call (.Name "tuple" p) [a] [] pos) (fun B H Q=>ta B H fun x H1=>∃(r:Addr) (n:Nat),[x]=[.ref r]/\H1 r=some (.rng 0 (n:Int))/\n<=1000000/\∀l,H1 l=none->Q (.ref l) (upd H1 l (.tup ((List.range n).map fun k:Nat=>V.int (k:Int))))):=
 zq (p:=p) (pos:=pos) (Vo hc) hg ml rfl (rP ha so hs) (he:=hs)
theorem T4(K:Frag)(ml:X.mg "tuple"=none) (ha:PE X a ta) (hg:Gl X "tuple":=by rfl) (hs:starEach [a] X.env=[(false,eval a X.env)]:=by rfl) (hK:X.K=K:=by rfl):
  PE X (.Call (.Name "tuple" p) [a] [] pos) (fun B H Q=>ta B H fun x H1=>∃p ys,[x]=[V.ref p]/\((SqL K H1 p ys/\∀l,H1 l=none->Q (.ref l) (upd H1 l (.tup ys)))\/(SqT K H1 p ys/\Q (.ref p) H1))):=by
 subst hK;exact zq Sd hg ml rfl (rP ha so hs) (he:=hs)
end
end L2
namespace L3
open PySem PySem.Spec L2
section
variable {X:Cx} {K:Frag} {a:Expr} {ea:EV} {pos p p2 pos2:Pos} {k:Nat}
def za(x:D)(L:M):Fr:=match x with
 | .int j=>if 0<=j/\j<=1000000 then some (.tup (rm 0 j.toNat),L) else none
 |_=>none
theorem Tp(ml:X.mg "tuple"=none) (mr:X.mg "range"=none) (ha:PE X a (tD K ea)) (hc:X.calm=true:=by rfl) (hg:Gl X "range":=by rfl) (hg2:Gl X "tuple":=by rfl) (hs:starEach [a] X.env=[(false,eval a X.env)]:=by rfl)
  (hs2:starEach [.Call (.Name "range" p2) [a] [] pos2] X.env=[(false,eval (.Call (.Name "range" p2) [a] [] pos2) X.env)]:=by rfl):
  PE X (.Call (.Name "tuple" p) [.Call (.Name "range" p2) [a] [] pos2] [] pos) (tD K (v1 za ea)):=rf (TM ml (Ua mr ha hg hs) hg2 hs2 hc) (uN (r:=fun x H1 Q=>∃j:Int,x=.int j/\∀r,H1 r=none->∃(r':Addr) (n:Nat),[V.ref r]=[.ref r']/\(upd H1 r (.rng 0 j)) r'=some (.rng 0 (n:Int))/\n<=1000000/\∀l,(upd H1 r (.rng 0 j)) l=none->Q (.ref l) (upd (upd H1 r (.rng 0 j)) l (.tup ((List.range n).map fun k:Nat=>V.int (k:Int))))) (by
 intro W x d z Z6 Q ok r1 hf q;unfold za at hf;split at hf
 ·rename_i j;split at hf
  ·rename_i hj;cases hf;cases r1;refine⟨j,rfl,fun r hr=>⟨r,j.toNat,rfl,by rw[sf];congr 2;omega,by omega,fun l hl=>?_⟩⟩;have ok1:=sU (o:=.rng 0 j) ok hr;have hl1:(W.lay r (.rng 0 j)).H l=none:=hl;exact q _ ((W.lay r (.rng 0 j)).lay l (.tup ((List.range j.toNat).map fun k:Nat=>V.int (k:Int)))) rfl (sU ok1 hl1) ((se hr).trans (se hl1)) (xo ok1 hl1 (QC _))
  ·cases hf
 ·cases hf))
def AN(x:D)(L:M):Fr:=(rN L x).bind fun ds=>some (.tup ds,L)
theorem Kz(ml:X.mg "tuple"=none) (ha:PE X a (tD K ea)) (hg:Gl X "tuple":=by rfl) (hs:starEach [a] X.env=[(false,eval a X.env)]:=by rfl) (hK:X.K=K:=by rfl):PE X (.Call (.Name "tuple" p) [a] [] pos) (tD K (v1 AN ea)):=rf (T4 K ml ha hg hs hK) (uN (by
 intro W x d z Z6 Q ok r1 hf q;refine qE hf fun ds hd hf=>?_;cases hf;obtain⟨a,vs,rfl,hs,hv⟩:=uK ok hd r1;exact⟨a,vs,rfl,.inl ⟨hs,fun p hp=>q _ (W.lay p (.tup vs)) rfl (sU ok hp) (se hp) (xo ok hp hv)⟩⟩))
end
end L3
namespace Law
open PySem L2 L3
inductive Tr where
 |e (x:Option Int)|ask (i j:Nat) (a b:Tr)
def at2(ss:List (List Int))(x i:Nat):Int:=(ss.getD x []).getD i 0
def alk(ss:List (List Int))(i j:Nat)(left:List Nat):List Nat:=left.filter fun x=>decide (at2 ss x i=at2 ss x j)
def unl(ss:List (List Int))(i j:Nat)(left:List Nat):List Nat:=left.filter fun x=>!decide (at2 ss x i=at2 ss x j)
def cL(Z9:List (List (Option Int))):Option (Option Int):=(Z9.getD 0 []).find? fun t=>Z9.all fun l=>decide (t∈l)
def cE(es:List (List (Option Int)))(left:List Nat):Option (Option Int):=cL (left.map fun x=>es.getD x [])
def vQ(ss:List (List Int))(f:List Nat->Option Tr)(left:List Nat)(p:Nat×Nat):Option Tr:=
 if alk ss p.1 p.2 left=[]\/unl ss p.1 p.2 left=[] then none else match f (alk ss p.1 p.2 left) with
  |none=>none
  |some a=>match f (unl ss p.1 p.2 left) with
   |none=>none
   |some b=>some (.ask p.1 p.2 a b)
def rh(ps:List (Nat×Nat))(ss:List (List Int))(es:List (List (Option Int))):Nat->List Nat->Option Tr
 |0,left=>(cE es left).map Tr.e
 |a+1,left=>match cE es left with
  |some x=>some (.e x)
  |none=>ps.findSome? (vQ ss (rh ps ss es a) left)
def dep:Tr->Nat
 | .e _=>0
 | .ask _ _ a b=>1+max (dep a) (dep b)
def wf(ps:List (Nat×Nat)):Tr->Prop
 | .e _=>True
 | .ask i j a b=>(i,j)∈ps/\wf ps a/\wf ps b
def tE(s:List Int):Tr->Option Int
 | .e x=>x
 | .ask i j a b=>if s.getD i 0=s.getD j 0 then tE s a else tE s b
section
variable {ps:List (Nat×Nat)} {ss:List (List Int)} {es:List (List (Option Int))}
theorem PR{left:List Nat}{x:Option Int}(h:cE es left=some x):∀y∈left,x∈es.getD y []:=by
 intro y hy;unfold cE cL at h;have:=List.find?_some h;rw[XJ] at this;have:=this (es.getD y []) (XE.mpr ⟨y,hy,rfl⟩);simpa using this
theorem Ig{left:List Nat}(h:cE es left=none)(h0:left≠[])(x:Option Int):∃y∈left,x∉es.getD y []:=by
 refine Ym fun hn=>?_;have all:∀y∈left,x∈es.getD y []:=fun y hy=>Ym fun z=>hn ⟨y,hy,z⟩;obtain⟨y,r,rfl⟩:=List.exists_cons_of_ne_nil h0;unfold cE cL at h;have hx:x∈((y::r).map fun x=>es.getD x []).getD 0 []:=all y (by simp);have:=Yo.mp h x hx;apply this;rw[XJ];intro l hl;obtain⟨z,hz,rfl⟩:=XE.mp hl;simpa using all z hz
theorem E7{α β:Type}{f:α->Option β}:∀{l:List α},l.findSome? f=none->∀a∈l,f a=none
 | [],_,a,h=>by cases h
 |x::l,h,a,ha=>by
  rw[List.findSome?_cons] at h;cases hx:f x with
  |some b=>rw[hx] at h;cases h
  |none=>
   rw[hx] at h;rcases XB.mp ha with rfl|ha
   ·exact hx
   ·exact E7 h a ha
theorem D8{f:List Nat->Option Tr}{left:List Nat}{p:Nat×Nat}:vQ ss f left p=none↔alk ss p.1 p.2 left=[]\/unl ss p.1 p.2 left=[]\/f (alk ss p.1 p.2 left)=none\/f (unl ss p.1 p.2 left)=none:=by
 unfold vQ;by_cases h1:alk ss p.1 p.2 left=[]
 ·simp[h1]
 ·by_cases h2:unl ss p.1 p.2 left=[]
  ·simp[h2]
  ·rw[if_neg (fun z=>z.elim h1 h2)];cases h3:f (alk ss p.1 p.2 left) with
   |none=>simp
   |some a=>
    cases h4:f (unl ss p.1 p.2 left) with
    |none=>simp
    |some b=>simp[h1,h2]
theorem LW:∀(a:Nat) (left:List Nat),rh ps ss es (a+1) left=none->rh ps ss es a left=none:=by
 intro a;induction a with
 |zero=>
  intro left h;simp only[rh] at h⊢;split at h
  ·cases h
  ·rename_i hx;rw[hx];rfl
 |succ a ih=>
  intro left h;rw[rh] at h⊢;split at h
  ·cases h
  ·rename_i hx;rw[List.findSome?_eq_none_iff];intro p hp;have:=E7 h p hp;rw[D8] at this⊢;rcases this with z|z|z|z
   ·exact .inl z
   ·exact .inr (.inl z)
   ·exact .inr (.inr (.inl (ih _ z)))
   ·exact .inr (.inr (.inr (ih _ z)))
theorem zjr:∀(a:Nat) (left:List Nat),left≠[]->rh ps ss es a left=none->∀t,wf ps t->dep t<=a->∃x∈left,tE (ss.getD x []) t∉es.getD x []:=by
 intro a;induction a with
 |zero=>
  intro left h0 h t w d;simp only[rh,Option.map_eq_none_iff] at h;cases t with
  |e x=>exact Ig h h0 x
  |ask i j t1 t2=>simp only[dep] at d;omega
 |succ a ih=>
  intro left h0 h t w d;have hm:=LW a left h;have h':=h;rw[rh] at h;split at h
  ·cases h
  ·rename_i hx;cases t with
   |e x=>exact Ig hx h0 x
   |ask i j t1 t2=>
    simp only[dep] at d;obtain⟨hp,w1,w2⟩:=w;have hq:=E7 h (i,j) hp;rw[D8] at hq;have la:∀x∈alk ss i j left,x∈left/\tE (ss.getD x []) (.ask i j t1 t2)=tE (ss.getD x []) t1:=fun x hx=>by
     obtain⟨q1,q2⟩:=Xz.mp hx;refine⟨q1,?_⟩;have:(ss.getD x []).getD i 0=(ss.getD x []).getD j 0:=by simpa[at2] using q2
     simp only[tE];rw[if_pos this]
    have lu:∀x∈unl ss i j left,x∈left/\tE (ss.getD x []) (.ask i j t1 t2)=tE (ss.getD x []) t2:=fun x hx=>by
     obtain⟨q1,q2⟩:=Xz.mp hx;refine⟨q1,?_⟩;have:¬(ss.getD x []).getD i 0=(ss.getD x []).getD j 0:=by simpa[at2] using q2
     simp only[tE];rw[if_neg this]
    have pick1:∀l,l≠[]->(∀x∈l,x∈left/\tE (ss.getD x []) (.ask i j t1 t2)=tE (ss.getD x []) t1)->rh ps ss es a l=none->∃x∈left,tE (ss.getD x []) (.ask i j t1 t2)∉es.getD x []:=fun l hl hm2 hn=>by
     obtain⟨x,hx,q⟩:=ih l hl hn t1 w1 (by omega);obtain⟨z1,z2⟩:=hm2 x hx;exact⟨x,z1,by rw[z2];exact q⟩
    have pick2:∀l,l≠[]->(∀x∈l,x∈left/\tE (ss.getD x []) (.ask i j t1 t2)=tE (ss.getD x []) t2)->rh ps ss es a l=none->∃x∈left,tE (ss.getD x []) (.ask i j t1 t2)∉es.getD x []:=fun l hl hm2 hn=>by
     obtain⟨x,hx,q⟩:=ih l hl hn t2 w2 (by omega);obtain⟨z1,z2⟩:=hm2 x hx;exact⟨x,z1,by rw[z2];exact q⟩
    by_cases ha:alk ss i j left=[]
    ·refine pick2 left h0 (fun x hx=>⟨hx,(lu x (Xz.mpr ⟨hx,?_⟩)).2⟩) hm;have:=XZ.mp ha x hx;simpa using this
    ·by_cases hu:unl ss i j left=[]
     ·refine pick1 left h0 (fun x hx=>⟨hx,(la x (Xz.mpr ⟨hx,?_⟩)).2⟩) hm;have:=XZ.mp hu x hx;simpa using this
     ·rcases hq with z|z|z|z
      ·exact absurd z ha
      ·exact absurd z hu
      ·exact pick1 _ ha la z
      ·exact pick2 _ hu lu z
def wa(pm:List (Nat×Nat))(em:List Nat):Nat->Nat->Bool
 |0,m=>em.all fun e=>m &&& e !=m
 |a+1,m=>(em.all fun e=>m &&& e !=m)&&pm.all fun p=>m &&& p.1==0||(m &&& p.2==0||(wa pm em a (m &&& p.2)||wa pm em a (m &&& p.1)))
def Ms(left:List Nat)(m:Nat):Prop:=∀x,x∈left↔m.testBit x=true
theorem Ms.zero{left:List Nat}{m:Nat}(h:Ms left m):left=[]↔m=0:=by
 constructor
 ·intro e;subst e;refine Nat.eq_of_testBit_eq fun i=>?_;have:=h i;simp at this;simp[this]
 ·intro e;subst e;refine List.eq_nil_iff_forall_not_mem.mpr fun x hx=>?_;have:=(h x).mp hx;simp at this
structure Mk (ps:List (Nat×Nat)) (ss:List (List Int)) (es:List (List (Option Int))) (pm:List (Nat×Nat)) (em:List Nat) (ends:List (Option Int)):Prop where
 pl:pm.length=ps.length
 p1:∀(k:Nat) (p q:Nat×Nat),ps[k]?=some p->pm[k]?=some q->∀x,x<ss.length->(q.1.testBit x=decide (at2 ss x p.1=at2 ss x p.2))/\(q.2.testBit x=!decide (at2 ss x p.1=at2 ss x p.2))
 el:em.length=ends.length
 e1:∀(k:Nat) (e:Option Int) (q:Nat),ends[k]?=some e->em[k]?=some q->∀x,x<ss.length->q.testBit x=decide (e∈es.getD x [])
 en:∀x,x<ss.length->∀e∈es.getD x [],e∈ends
theorem none_of{pm:List (Nat×Nat)}{em:List Nat}{ends:List (Option Int)}(K:Mk ps ss es pm em ends):∀(a:Nat) (left:List Nat) (m:Nat),Ms left m->(∀x∈left,x<ss.length)->left≠[]->wa pm em a m=true->rh ps ss es a left=none:=by
 have noend:∀(left:List Nat) (m:Nat),Ms left m->(∀x∈left,x<ss.length)->left≠[]->(em.all fun e=>m &&& e !=m)=true->cE es left=none:=by
  intro left m hm hl h0 he;cases hc:cE es left with
  |none=>rfl
  |some y=>
   have hs:=PR hc;obtain⟨x0,r,rfl⟩:=List.exists_cons_of_ne_nil h0;have hy:=K.en x0 (hl x0 (by simp)) y (hs x0 (by simp));obtain⟨k,hk⟩:=X8 hy;have hkl:k<em.length:=by rw[K.el];exact(Xe.mp hk).1
   have hq:=Xk hkl;have:=XJ.mp he em[k] (XU _);have e2:m &&& em[k]=m:=by
    refine Nat.eq_of_testBit_eq fun i=>?_;rw[Nat.testBit_and];cases hb:m.testBit i with
    |false=>rfl
    |true=>
     have hi:=(hm i).mpr hb;rw[K.e1 k y em[k] hk hq i (hl i hi)];simpa using hs i hi
   rw[e2] at this;simp at this
 intro a;induction a with
 |zero=>
  intro left m hm hl h0 h;rw[rh,noend left m hm hl h0 h];rfl
 |succ a ih=>
  intro left m hm hl h0 h;simp only[wa,XD] at h;rw[rh,noend left m hm hl h0 h.1];show ps.findSome? _=none;rw[List.findSome?_eq_none_iff];intro p hp;rw[D8];obtain⟨k,hk⟩:=X8 hp;have hkl:k<pm.length:=by rw[K.pl];exact(Xe.mp hk).1
  have hq:=Xk hkl;have hall:=XJ.mp h.2 pm[k] (XU _);have hbit:=K.p1 k p pm[k] hk hq;have ma:Ms (alk ss p.1 p.2 left) (m &&& pm[k].1):=fun x=>by
   unfold alk;rw[Xz,Nat.testBit_and,XD];constructor
   ·rintro⟨h1,h2⟩;exact⟨(hm x).mp h1,by rw[(hbit x (hl x h1)).1];exact h2⟩
   ·rintro⟨h1,h2⟩;have:=(hm x).mpr h1;exact⟨this,by rw[(hbit x (hl x this)).1] at h2;exact h2⟩
  have mu:Ms (unl ss p.1 p.2 left) (m &&& pm[k].2):=fun x=>by
   unfold unl;rw[Xz,Nat.testBit_and,XD];constructor
   ·rintro⟨h1,h2⟩;exact⟨(hm x).mp h1,by rw[(hbit x (hl x h1)).2];exact h2⟩
   ·rintro⟨h1,h2⟩;have:=(hm x).mpr h1;exact⟨this,by rw[(hbit x (hl x this)).2] at h2;exact h2⟩
  by_cases ha:alk ss p.1 p.2 left=[]
  ·exact .inl ha
  ·by_cases hu:unl ss p.1 p.2 left=[]
   ·exact .inr (.inl hu)
   ·simp only[Bool.or_eq_true,beq_iff_eq] at hall;rcases hall with z|z|z|z
    ·exact absurd (ma.zero.mpr z) ha
    ·exact absurd (mu.zero.mpr z) hu
    ·exact .inr (.inr (.inr (ih _ _ mu (fun x hx=>hl x (Xz.mp hx).1) hu z)))
    ·exact .inr (.inr (.inl (ih _ _ ma (fun x hx=>hl x (Xz.mp hx).1) ha z)))
end
end Law
namespace L3
open PySem L2
end L3
namespace L2
open PySem PySem.Spec PyProof.Rows
def Qa(K:Frag):R2:=fun x y H Q=>∃l b xs zs,x=.ref l/\y=.ref b/\SqL K H l xs/\SqL K H b zs/\xs.length+zs.length<=sizeLine/\∀p,H p=none->Q (.ref p) (upd H p (.lst (xs++zs)))
def RM{X:Cx}:OpR X (binaryOp .Add) (Qa X.K):=by
 intro pins s B H x y v u Q I rx ry h;obtain⟨l,b,xs,zs,rfl,rfl,hH,hB,hz,q⟩:=h;cases rx;cases ry;obtain⟨its,r,ht,_⟩:=I.list hH;obtain⟨its2,r2,ht2,_⟩:=I.list hB;obtain⟨⟨cls,dd,data,sl⟩,n,ho,hc,hdd,hd⟩:=ht;obtain⟨⟨cls2,dd2,data2,sl2⟩,n2,ho2,hc2,hdd2,hd2⟩:=ht2;simp only at hc hd hc2 hd2;subst hc hd hc2 hd2;have e:its.toArray++its2.toArray=(its++its2).toArray:=by simp
 refine concat_meets ⟨_,ho,rfl⟩ ⟨_,ho2,rfl⟩ noFill_list_add seq_list_add PySem.F.slot_list_add PySem.F.entry_list_add (PySem.F.args_list_add_2 _ _) (list_addW l b its.toArray its2.toArray n n2 dd dd2 sl sl2 (by rw[Xm,Xm,←r.length,←r2.length];exact hz)) ⟨ho,ho2,?_⟩;rw[e];exact⟨.ref _,_,I.lnew (t':=s.toks) (r.append r2) (by rw[XN];omega),rfl,q _ I.fresh⟩
end L2
namespace L3
open PySem L2
section
variable {X:Cx} {K:Frag} {a b:Expr} {ea eb:EV} {pos:Pos}
def BR(x y:D)(L:M):Fr:=(rN L x).bind fun xs=>(rN L y).bind fun ys=>if xs.length+ys.length<=1000000 then some (.lst (xs++ys),L) else none
theorem O4(ha:PE X a (tD K ea))(hb:PE X b (tD K eb))(hK:X.K=K:=by rfl):PE X (.BinOp a .Add b pos) (tD K (v2 BR ea eb)):=by
 subst hK;exact xf RM (by
  intro W x y d e z Z6 Q ok r1 r2 hf q;refine qE hf fun xs hx hf=>?_;refine qE hf fun ys hy hf=>?_;split at hf
  ·rename_i hl;cases hf;obtain⟨a,vs,rfl,ha,hv⟩:=uK ok hx r1;obtain⟨b,us,rfl,hb,hu⟩:=uK ok hy r2;exact⟨a,b,vs,us,rfl,rfl,ha,hb,uR (by rw[←hv.length,←hu.length];omega),fun p hp=>q _ (W.lay p (.lst (vs++us))) rfl (sU ok hp) (se hp) (xr ok hp (hv.append hu))⟩
  ·cases hf) ha hb
end
end L3
namespace L2
open PySem PySem.Spec PyProof.Rows
section
open PySem.SeqAt
open PySem.AutoSeq1 (wpAny_loadPart')
open PySem.MeetsSeq PySem.MeetsSeq2 PySem.MeetsSeq3 PySem.SeqRoads2
end
end L2
namespace L3
open PySem PySem.Spec L2
end L3
namespace Law
open PySem L2 L3 PyProof.Rows
def RH{v v':Nat->Int}{i:Nat}(h:∀j,j<i->v j=v' j):firstMet v i=firstMet v' i:=by
 unfold firstMet;have:(List.range i).map v=(List.range i).map v':=Yj fun j hj=>h j (X6.mp hj);rw[this]
def Qd(s:List Int)(x:Int):wt (s++[x])=if x∈s then wt s else wt s+1:=by
 unfold wt;rw[XN,List.length_singleton,firstMet_succ,step_length];have e:firstMet (fun i=>(s++[x]).getD i 0) s.length=firstMet (fun i=>s.getD i 0) s.length:=RH fun j hj=>by
  simp[Xh,Xq hj]
 have ex:(s++[x]).getD s.length 0=x:=by simp[Xh]
 rw[e,ex,firstMet_any];have em:((List.range s.length).map fun i=>s.getD i 0)=s:=by
  apply List.ext_getElem
  ·simp
  ·intro i h1 h2;simp[Xh,Xk h2]
 rw[em];have eb:s.any (·==x)=decide (x∈s):=by
  rw[Yk];simp[Ys]
 rw[eb];by_cases h:x∈s<;>simp[h]
def Sx:Nat->Nat->List (List Int×Nat)
 |0,_=>[([],0)]
 |n+1,m=>(Sx n m).flatMap fun p=>(List.range (min (p.2+1) m)).map fun(i:Nat)=>(p.1++[(i:Int)],max p.2 (i+1))
structure Gd (n m:Nat) (p:List Int×Nat):Prop where
 len:p.1.length=n
 mem:∀x:Int,x∈p.1↔0<=x/\x<p.2
 dist:wt p.1=p.2
 le:p.2<=m
 len2:p.2<=n
 rise:∀(k:Nat) (x:Int),p.1[k]?=some x->0<=x/\x<=wt (p.1.take k)
theorem yk(m:Nat):∀(n:Nat) (p:List Int×Nat),p∈Sx n m->Gd n m p
 |0,p,h=>by
  simp[Sx] at h;subst h;exact⟨rfl,fun x=>by simp,rfl,X2 _,Xc _,fun k x e=>by simp at e⟩
 |n+1,p,h=>by
  simp only[Sx,List.mem_flatMap,XE,X6] at h;obtain⟨q,hq,i,hi,rfl⟩:=h;have g:=yk m n q hq;have him:i<m:=by omega
  have hiu:i<=q.2:=by omega
  refine(⟨by simp[g.len],fun x=>?_,?_,?_,?_,?_⟩)
  ·simp only[XM,XX,g.mem];omega
  ·show wt (q.1++[(i:Int)])=max q.2 (i+1);rw[Qd,g.dist];by_cases hm:(i:Int)∈q.1
   ·rw[if_pos hm];have:=(g.mem _).mp hm;omega
   ·rw[if_neg hm];have:¬(i:Int)<q.2:=fun z=>hm ((g.mem _).mpr ⟨by omega,z⟩);omega
  ·have:=g.le;show max q.2 (i+1)<=m;omega
  ·have:=g.len2;show max q.2 (i+1)<=n+1;omega
  ·intro k x e;have e:(q.1++[(i:Int)])[k]?=some x:=e;show 0<=x/\x<=wt ((q.1++[(i:Int)]).take k);by_cases hk:k<q.1.length
   ·rw[Xq hk] at e;rw[List.take_append_of_le_length (by omega)];exact g.rise k x e
   ·rw[XH (by omega)] at e;have hz:k=q.1.length:=by
     have:=(Xe.mp e).1;simp at this;omega
    subst hz;simp at e;subst e;rw[List.take_append_of_le_length (by omega),List.take_length,g.dist];omega
def Gd.used{n m:Nat}{p:List Int×Nat}(g:Gd n m p):(mxL p.1).getD (-1)+1=(p.2:Int):=by
 cases hn:mxL p.1 with
 |none=>
  have:p.1=[]:=by cases h:p.1 with
   |nil=>rfl
   |cons a r=>rw[h] at hn;cases hn
  have h0:p.2=0:=by
   rcases Nat.eq_zero_or_pos p.2 with z|z
   ·exact z
   ·have:=(g.mem 0).mpr ⟨by omega,by omega⟩;rw[‹p.1=[]›] at this;cases this
  simp[h0]
 |some M=>
  have hM:=D1 hn;have h1:=(g.mem M).mp hM.1;have h2:=hM.2 ((p.2:Int) - 1) ((g.mem _).mpr ⟨by omega,by omega⟩);simp only[Option.getD_some];omega
def Va(n:Nat){m:Nat}(h:8<=m):n<=7->Sx n m=Sx n 8:=by
 induction n with
 |zero=>intro _;rfl
 |succ n ih=>
  intro hn;rw[Sx,Sx,ih (by omega)];rw[List.flatMap_def,List.flatMap_def];congr 1;apply Yj;intro p hp;have:=(yk 8 n p hp).len2;have e:min (p.2+1) m=min (p.2+1) 8:=by omega
  rw[e]
def GR:∀n<8,∀m<9,(Sx n m).length<=877:=by decide +kernel
def Ax{n:Nat}(hn:n<=7)(m:Nat):(Sx n m).length<=877:=by
 by_cases h:m<9
 ·exact GR n (by omega) m h
 ·rw[Va n (by omega) hn];exact GR n (by omega) 8 (by omega)
def uH(s:List Int)(as:List An):Bool:=as.all fun a=>decide (s.getD a.1 0=s.getD a.2.1 0)==a.2.2
def InN(n:Nat)(as:List An):Prop:=∀a∈as,a.1<n/\a.2.1<n
theorem FK{α:Type}(f:Nat->α)(m:Nat):∀n,n<=m->∃p∈Sx n m,∀x y,x<n->y<n->(p.1.getD x 0=p.1.getD y 0↔f x=f y)
 |0,_=>⟨([],0),by simp[Sx],fun x y h=>by omega⟩
 |n+1,hn=>by
  obtain⟨p,hp,hf⟩:=FK f m n (by omega);have g:=yk m n p hp;have hg:=g.len2;have lt_of:∀x,x<n->p.1.getD x 0∈p.1:=fun x hx=>by
   rw[Xh,Xk (by rw[g.len];exact hx)];exact XU _
  obtain⟨i,hi,him⟩:∃i:Nat,i<min (p.2+1) m/\∀x,x<n->(p.1.getD x 0=(i:Int)↔f x=f n):=by
   by_cases h:∃x,x<n/\f x=f n
   ·obtain⟨x0,hx0,e0⟩:=h;have h1:=(g.mem _).mp (lt_of x0 hx0);refine⟨(p.1.getD x0 0).toNat,by have:=g.le;omega,fun x hx=>?_⟩;have e:((p.1.getD x0 0).toNat:Int)=p.1.getD x0 0:=by omega
    rw[e,←e0];exact hf x x0 hx hx0
   ·refine⟨p.2,by omega,fun x hx=>⟨fun e=>?_,fun e=>absurd ⟨x,hx,e⟩ h⟩⟩;have h1:=(g.mem _).mp (lt_of x hx);omega
  refine⟨(p.1++[(i:Int)],max p.2 (i+1)),?_,?_⟩
  ·simp only[Sx,List.mem_flatMap,XE,X6];exact⟨p,hp,i,hi,rfl⟩
  ·have old:∀x,x<n->(p.1++[(i:Int)]).getD x 0=p.1.getD x 0:=fun x hx=>by
    simp[Xh,Xq (show x<p.1.length by rw[g.len];exact hx)]
   have new:(p.1++[(i:Int)]).getD n 0=(i:Int):=by
    have:n=p.1.length:=g.len.symm;simp[Xh,this]
   intro x y hx hy;show(p.1++[(i:Int)]).getD x 0=(p.1++[(i:Int)]).getD y 0↔_;rcases Nat.lt_succ_iff_lt_or_eq.mp hx with hx|rfl<;>rcases Nat.lt_succ_iff_lt_or_eq.mp hy with hy|rfl
   ·rw[old x hx,old y hy];exact hf x y hx hy
   ·rw[old x hx,new];exact him x hx
   ·rw[old y hy,new];have:=him y hy;constructor
    ·intro e;exact(this.mp e.symm).symm
    ·intro e;exact(this.mpr e.symm).symm
   ·simp
def T8{n:Nat}{as:List An}(hv:InN n as)(h:sM as=true):∃p∈Sx n n,uH p.1 as=true:=by
 obtain⟨p,hp,hf⟩:=FK (fun x=>Conn as x) n n (Xc _);have eqv:∀x y,Conn as x=Conn as y↔Conn as x y:=fun x y=>
  ⟨fun e=>by rw[e];exact .refl y,fun c=>funext fun z=>propext ⟨fun d=>c.symm.trans d,fun d=>c.trans d⟩⟩
 refine⟨p,hp,?_⟩;unfold uH;rw[XJ];intro a ha;obtain⟨h1,h2⟩:=hv a ha;have e:=(hf a.1 a.2.1 h1 h2).trans (eqv _ _);have ok:=DS as;cases hb:a.2.2 with
 |true=>
  have hm:(a.1,a.2.1,true)∈as:=by
   have e0:(a.1,a.2.1,true)=a:=by rw[←hb]
   rw[e0];exact ha
  have:Conn as a.1 a.2.1:=Conn.one (mem_nb.mpr (.inl hm));rw[XO (e.mpr this)];rfl
 |false=>
  have hc:=XJ.mp h a ha;rw[hb] at hc;simp at hc;have:¬Conn as a.1 a.2.1:=fun c=>hc (ok.conn c);rw[Xs (mt e.mp this)];rfl
def VW{s:List Int}{as:List An}(h:uH s as=true):sM as=true:=by
 have hall:=XJ.mp h;have con:∀x y,Conn as x y->s.getD x 0=s.getD y 0:=by
  intro x y c;induction c with
  |refl=>rfl
  |step _ e ih=>
   rw[ih];rcases mem_nb.mp e with z|z
   ·have:=hall _ z;simpa using this
   ·have:=hall _ z;simp at this;exact this.symm
 unfold sM;rw[XJ];intro a ha;have ok:=DS as;cases hb:a.2.2 with
 |true=>simp
 |false=>
  have h1:=hall a ha;rw[hb] at h1;simp only[Bool.false_or,Bool.not_eq_true',decide_eq_false_iff_not];intro e;have c:=(ok.iff (ok.named a ha).1).mp e;rw[con _ _ c] at h1;simp at h1
def sD(n:Nat)(as:List An):List (List Int):=((Sx n n).map (·.1)).filter fun s=>uH s as
def GE{n:Nat}{as:List An}(hv:InN n as):sD n as=[]↔sM as=false:=by
 constructor
 ·intro h;cases hc:sM as with
  |false=>rfl
  |true=>
   obtain⟨p,hp,hf⟩:=T8 hv hc;have:p.1∈sD n as:=Xz.mpr ⟨List.mem_map_of_mem hp,hf⟩;rw[h] at this;cases this
 ·intro h;unfold sD;rw[XZ];intro s hs hf;rw[VW hf] at h;cases h
def t4(gs:List (Int×List Int))(k:Int)(t:Int):List (Int×List Int):=
 if(gs.any fun g=>decide (g.1=k))=true then gs.map fun g=>if g.1=k then(g.1,g.2++[t]) else g else gs++[(k,[t])]
def wj:Nat->List Int->List (Int×List Int)->List (Int×List Int)
 |_,[],gs=>gs
 |i,k::r,gs=>wj (i+1) r (t4 gs k (i:Int))
def grp(s:List Int):List (Int×List Int):=wj 0 s []
end Law
namespace L3
open PySem PySem.Spec L2
def Wp{α:Type}(r:Option (α×M))(Q:α->M->Prop):Prop:=∃a L,r=some (a,L)/\Q a L
def Ws(r:Option (Out×G×M))(Q:Out->G->M->Prop):Prop:=∃o O L,r=some (o,O,L)/\Q o O L
section
variable {α β:Type} {O:G} {L:M} {ea eb:EV} {ba bb:BV} {el:LV} {sa sb:SV} {i j n m:Nat} {d x y:D} {ds:List D} {b:Bool} {g:GV} {gs:GsV} {o:Option D} {iv:IV} {lo hi:OV}
theorem Wp.imp{r:Option (α×M)}{Q R:α->M->Prop}(h:Wp r Q)(f:∀a L,Q a L->R a L):Wp r R:=let ⟨a,L,e,q⟩:=h;⟨a,L,e,f a L q⟩
theorem Ws.imp{r:Option (Out×G×M)}{Q R:Out->G->M->Prop}(h:Ws r Q)(f:∀o O L,Q o O L->R o O L):Ws r R:=let ⟨a,O,L,e,q⟩:=h;⟨a,O,L,e,f a O L q⟩
theorem wp_some{a:α}{Q:α->M->Prop}:Wp (some (a,L)) Q↔Q a L:=⟨fun⟨_,_,e,q⟩=>by cases e;exact q,fun q=>⟨_,_,rfl,q⟩⟩
theorem ws_some{out:Out}{Q:Out->G->M->Prop}:Ws (some (out,O,L)) Q↔Q out O L:=⟨fun⟨_,_,_,e,q⟩=>by cases e;exact q,fun q=>⟨_,_,_,rfl,q⟩⟩
theorem wp_bind{r:Option (α×M)}{f:α×M->Option (β×M)}{Q:β->M->Prop}:Wp (r.bind f) Q↔Wp r fun a L=>Wp (f (a,L)) Q:=by
 cases r with
 |none=>exact⟨fun⟨_,_,e,_⟩=>(by cases e),fun⟨_,_,e,_⟩=>(by cases e)⟩
 |some p=>exact⟨fun h=>⟨p.1,p.2,rfl,h⟩,fun⟨_,_,e,h⟩=>by cases e;exact h⟩
theorem ws_bind{r:Option (α×M)}{f:α×M->Option (Out×G×M)}{Q:Out->G->M->Prop}:Ws (r.bind f) Q↔Wp r fun a L=>Ws (f (a,L)) Q:=by
 cases r with
 |none=>exact⟨fun⟨_,_,_,e,_⟩=>(by cases e),fun⟨_,_,e,_⟩=>(by cases e)⟩
 |some p=>exact⟨fun h=>⟨p.1,p.2,rfl,h⟩,fun⟨_,_,e,h⟩=>by cases e;exact h⟩
theorem wss_bind{r:Option (Out×G×M)}{f:Out×G×M->Option (Out×G×M)}{Q:Out->G->M->Prop}:Ws (r.bind f) Q↔Ws r fun o O L=>Ws (f (o,O,L)) Q:=by
 cases r with
 |none=>exact⟨fun⟨_,_,_,e,_⟩=>(by cases e),fun⟨_,_,_,e,_⟩=>(by cases e)⟩
 |some p=>exact⟨fun h=>⟨p.1,p.2.1,p.2.2,rfl,h⟩,fun⟨_,_,_,e,h⟩=>by cases e;exact h⟩
theorem wps_bind{r:Option (Out×G×M)}{f:Out×G×M->Option (β×M)}{Q:β->M->Prop}:Wp (r.bind f) Q↔Ws r fun o O L=>Wp (f (o,O,L)) Q:=by
 cases r with
 |none=>exact⟨fun⟨_,_,e,_⟩=>(by cases e),fun⟨_,_,_,e,_⟩=>(by cases e)⟩
 |some p=>exact⟨fun h=>⟨p.1,p.2.1,p.2.2,rfl,h⟩,fun⟨_,_,_,e,h⟩=>by cases e;exact h⟩
theorem wpo_bind{r:Option α}{f:α->Option (β×M)}{Q:β->M->Prop}:Wp (r.bind f) Q↔∃a,r=some a/\Wp (f a) Q:=by
 cases r with
 |none=>exact⟨fun⟨_,_,e,_⟩=>(by cases e),fun⟨_,e,_⟩=>(by cases e)⟩
 |some p=>exact⟨fun h=>⟨p,rfl,h⟩,fun⟨_,e,h⟩=>by cases e;exact h⟩
theorem B5{r:Option (α×M)}{a:α}{Q:α->M->Prop}(e:r=some (a,L))(h:Q a L):Wp r Q:=⟨_,_,e,h⟩
variable {R:D->M->Prop} {RL:List D->M->Prop} {RB:Bool->M->Prop} {RG:G->M->Prop} {RI:List D×Ck->M->Prop} {RO:Option Int->M->Prop} {Q:Out->G->M->Prop}
theorem GK:Wp (be 0 (some d::O) L) R↔R d L:=wp_some
theorem HQ:Wp (be (i+1) (o::O) L) R↔Wp (be i O L) R:=Iff.rfl
theorem w_c:Wp (vC d O L) R↔R d L:=wp_some
def q1(f:D->M->Fr)(R:D->M->Prop):D->M->Prop:=fun x L=>Wp (f x L) R
theorem q1_{f:D->M->Fr}:q1 f R x L↔Wp (f x L) R:=Iff.rfl
theorem J1{f:D->M->Fr}:Wp (v1 f ea O L) R↔Wp (ea O L) (q1 f R):=wp_bind
def q2b(f:D->D->M->Fr)(x:D)(R:D->M->Prop):D->M->Prop:=fun y L=>Wp (f x y L) R
theorem Lg{f:D->D->M->Fr}:q2b f x R y L↔Wp (f x y L) R:=Iff.rfl
def q2(f:D->D->M->Fr)(eb:EV)(O:G)(R:D->M->Prop):D->M->Prop:=fun x L=>Wp (eb O L) (q2b f x R)
theorem q2_{f:D->D->M->Fr}:q2 f eb O R x L↔Wp (eb O L) (q2b f x R):=Iff.rfl
theorem LF{f:D->D->M->Fr}:Wp (v2 f ea eb O L) R↔Wp (ea O L) (q2 f eb O R):=wp_bind.trans ⟨fun h=>h.imp fun _ _ q=>wp_bind.mp q,fun h=>h.imp fun _ _ q=>wp_bind.mpr q⟩
def qL(f:C0)(R:D->M->Prop):List D->M->Prop:=fun ds L=>Wp (f ds L) R
theorem qL_{f:C0}:qL f R ds L↔Wp (f ds L) R:=Iff.rfl
theorem Hh{f:C0}:Wp (vL f el O L) R↔Wp (el O L) (qL f R):=wp_bind
theorem JU:Wp (qG O L) RL↔RL [] L:=wp_some
def qc2(x:D)(RL:List D->M->Prop):List D->M->Prop:=fun ds L=>RL (x::ds) L
theorem JQ:qc2 x RL ds L↔RL (x::ds) L:=Iff.rfl
def qc(el:LV)(O:G)(RL:List D->M->Prop):D->M->Prop:=fun x L=>Wp (el O L) (qc2 x RL)
theorem qc_:qc el O RL x L↔Wp (el O L) (qc2 x RL):=Iff.rfl
theorem KJ:Wp (qC ea el O L) RL↔Wp (ea O L) (qc el O RL):=wp_bind.trans ⟨fun h=>h.imp fun _ _ q=>(wp_bind.mp q).imp fun _ _ q=>(wp_some (Q:=RL)).mp q,fun h=>h.imp fun _ _ q=>wp_bind.mpr (q.imp fun _ _ q=>(wp_some (Q:=RL)).mpr q)⟩
def qT(RB:Bool->M->Prop):D->M->Prop:=fun d L=>∃b,d=.bl b/\RB b L
theorem qT_:qT RB (.bl b) L↔RB b L:=⟨fun⟨_,e,q⟩=>by cases e;exact q,fun q=>⟨_,rfl,q⟩⟩
theorem w_T:Wp (vT ea O L) RB↔Wp (ea O L) (qT RB):=wp_bind.trans ⟨fun h=>h.imp fun d L q=>by
  obtain⟨b,Z6,e,q⟩:=q;cases d<;>cases e
  exact⟨_,rfl,q⟩,fun h=>h.imp fun d L q=>by obtain⟨b,rfl,q⟩:=q;exact wp_some.mpr q⟩
def qTr(RB:Bool->M->Prop):D->M->Prop:=fun d L=>∃b,tru L d=some b/\RB b L
theorem Mt:qTr RB (.bl b) L↔RB b L:=⟨fun⟨_,e,q⟩=>by cases e;exact q,fun q=>⟨_,rfl,q⟩⟩
theorem LZ:Wp (rC ea O L) RB↔Wp (ea O L) (qTr RB):=wp_bind.trans ⟨fun h=>h.imp fun d L q=>by
  obtain⟨b,e,q⟩:=wpo_bind.mp q;exact⟨b,e,wp_some.mp q⟩,fun h=>h.imp fun d L ⟨b,e,q⟩=>wpo_bind.mpr ⟨b,e,wp_some.mpr q⟩⟩
def Kl(RB:Bool->M->Prop):Bool->M->Prop:=fun b L=>RB (!b) L
theorem MH:Kl RB b L↔RB (!b) L:=Iff.rfl
theorem JJ:Wp (sL ba O L) RB↔Wp (ba O L) (Kl RB):=wp_bind.trans ⟨fun h=>h.imp fun _ _ q=>(wp_some (Q:=RB)).mp q,fun h=>h.imp fun _ _ q=>(wp_some (Q:=RB)).mpr q⟩
def HK(bb:BV)(O:G)(RB:Bool->M->Prop):Bool->M->Prop:=fun b L=>if b=true then Wp (bb O L) RB else RB false L
theorem Mp:HK bb O RB true L↔Wp (bb O L) RB:=Iff.rfl
theorem FQ:HK bb O RB false L↔RB false L:=Iff.rfl
def qOr(bb:BV)(O:G)(RB:Bool->M->Prop):Bool->M->Prop:=fun b L=>if b=true then RB true L else Wp (bb O L) RB
theorem L8:qOr bb O RB true L↔RB true L:=Iff.rfl
theorem KY:qOr bb O RB false L↔Wp (bb O L) RB:=Iff.rfl
theorem Hg:Wp (bOr ba bb O L) RB↔Wp (ba O L) (qOr bb O RB):=wp_bind.trans ⟨fun h=>h.imp fun b _ q=>by cases b;exact q;exact(wp_some (Q:=RB)).mp q,fun h=>h.imp fun b _ q=>by cases b;exact q;exact(wp_some (Q:=RB)).mpr q⟩
theorem HG:Wp (qX O L) RB↔RB true L:=wp_some
def qIf(ea eb:EV)(O:G)(R:D->M->Prop):Bool->M->Prop:=fun b L=>if b=true then Wp (ea O L) R else Wp (eb O L) R
theorem Gm:qIf ea eb O R true L↔Wp (ea O L) R:=Iff.rfl
theorem K9:qIf ea eb O R false L↔Wp (eb O L) R:=Iff.rfl
theorem HX:Wp (vIf ba ea eb O L) R↔Wp (ba O L) (qIf ea eb O R):=wp_bind.trans ⟨fun h=>h.imp fun b _ q=>by cases b<;>exact q,fun h=>h.imp fun b _ q=>by cases b<;>exact q⟩
def kVA(eb:EV)(O:G)(d:D)(L:M):Fr:=match d with
 | .bl true=>eb O L
 | .bl false=>some (.bl false,L)
 |_=>none
def qVA(eb:EV)(O:G)(R:D->M->Prop):D->M->Prop:=fun d L=>Wp (kVA eb O d L) R
theorem Ln:qVA eb O R (.bl true) L↔Wp (eb O L) R:=Iff.rfl
theorem Mu:Wp (AY ea eb O L) R↔Wp (ea O L) (qVA eb O R):=wp_bind
def Oe(eb:EV)(O:G)(d:D)(L:M):Fr:=match d with
 | .bl true=>some (.bl true,L)
 | .bl false=>eb O L
 |_=>none
def qVO(eb:EV)(O:G)(R:D->M->Prop):D->M->Prop:=fun d L=>Wp (Oe eb O d L) R
theorem JM:qVO eb O R (.bl false) L↔Wp (eb O L) R:=Iff.rfl
def qm2(f:D->D->M->Fr)(eb:EV)(O:G)(R:D->M->Prop):D->M->Prop:=fun x L=>(∃l,rN L x=some l)/\Wp (eb O L) (q2b f x R)
theorem IQ{f:D->D->M->Fr}:Wp (uj f ea eb O L) R↔Wp (ea O L) (qm2 f eb O R):=wp_bind.trans ⟨fun h=>h.imp fun _ _ q=>by obtain⟨l,e,q⟩:=wpo_bind.mp q;exact⟨⟨l,e⟩,wp_bind.mp q⟩,fun h=>h.imp fun _ _ ⟨⟨l,e⟩,q⟩=>wpo_bind.mpr ⟨l,e,wp_bind.mpr q⟩⟩
theorem E4{f:D->D->M->Fr}{k:Nat}(h:L[k]?=some (some (.lst ds))):qm2 f eb O R (.ref k) L↔Wp (eb O L) (q2b f (.ref k) R):=⟨fun q=>q.2,fun q=>⟨⟨_,uP h⟩,q⟩⟩
theorem Mn:Wp (Az O L) RO↔RO none L:=wp_some
def qoS(RO:Option Int->M->Prop):D->M->Prop:=fun d L=>∃k,d=.int k/\RO (some k) L
theorem Lw{k:Int}:qoS RO (.int k) L↔RO (some k) L:=⟨fun⟨_,e,q⟩=>by cases e;exact q,fun q=>⟨_,rfl,q⟩⟩
theorem Ja:Wp (Di ea O L) RO↔Wp (ea O L) (qoS RO):=wp_bind.trans ⟨fun h=>h.imp fun d L q=>by
  obtain⟨b,Z6,e,q⟩:=q;cases d<;>cases e
  exact⟨_,rfl,q⟩,fun h=>h.imp fun d L q=>by obtain⟨b,rfl,q⟩:=q;exact wp_some.mpr q⟩
def qs3(x:D)(l:Option Int)(R:D->M->Prop):Option Int->M->Prop:=fun h L=>Wp (fSl x l h L) R
theorem HW{l h:Option Int}:qs3 x l R h L↔Wp (fSl x l h L) R:=Iff.rfl
def qs2(hi:OV)(O:G)(x:D)(R:D->M->Prop):Option Int->M->Prop:=fun l L=>Wp (hi O L) (qs3 x l R)
theorem ME{l:Option Int}:qs2 hi O x R l L↔Wp (hi O L) (qs3 x l R):=Iff.rfl
def qs1(lo hi:OV)(O:G)(R:D->M->Prop):D->M->Prop:=fun x L=>Wp (lo O L) (qs2 hi O x R)
theorem Lx:qs1 lo hi O R x L↔Wp (lo O L) (qs2 hi O x R):=Iff.rfl
theorem HJ:Wp (vSl ea lo hi O L) R↔Wp (ea O L) (qs1 lo hi O R):=wp_bind.trans ⟨fun h=>h.imp fun _ _ q=>(wp_bind.mp q).imp fun _ _ q=>wp_bind.mp q,fun h=>h.imp fun _ _ q=>wp_bind.mpr (q.imp fun _ _ q=>wp_bind.mpr q)⟩
theorem KK:Wp (qD i d O L) RG↔RG (O.set i (some d)) L:=wp_some
theorem GD:Wp (sd [] O L) RG↔RG O L:=wp_some
def qgc(gs:GsV)(ds:List D)(RG:G->M->Prop):G->M->Prop:=fun O L=>Wp (gs ds O L) RG
theorem G3:qgc gs ds RG O L↔Wp (gs ds O L) RG:=Iff.rfl
theorem G9:Wp (qQ g gs (d::ds) O L) RG↔Wp (g d O L) (qgc gs ds RG):=wp_bind
theorem wY(h:ds.length=n):Wp (rM n gs (.tup ds) O L) RG↔Wp (gs ds O L) RG:=by
 show Wp (if ds.length=n then gs ds O L else none) RG↔_;rw[if_pos h]
def qSq(sb:SV)(Q:Out->G->M->Prop):Out->G->M->Prop:=fun o O L=>match o with
 | .nx=>Ws (sb O L) Q
 |o=>Q o O L
theorem LO:qSq sb Q .nx O L↔Ws (sb O L) Q:=Iff.rfl
theorem Mq:qSq sb Q (.rt d) O L↔Q (.rt d) O L:=Iff.rfl
theorem FA:qSq sb Q .bk O L↔Q .bk O L:=Iff.rfl
theorem J5:qSq sb Q .ct O L↔Q .ct O L:=Iff.rfl
theorem BT:Ws (qH sa sb O L) Q↔Ws (sa O L) (qSq sb Q):=wss_bind.trans ⟨fun h=>h.imp fun o _ _ q=>by cases o<;>first|exact q|exact(ws_some (Q:=Q)).mp q,fun h=>h.imp fun o _ _ q=>by cases o<;>first|exact q|exact(ws_some (Q:=Q)).mpr q⟩
theorem G7:Ws (sNx O L) Q↔Q .nx O L:=ws_some
def qEx(O:G)(Q:Out->G->M->Prop):D->M->Prop:=fun _ L=>Q .nx O L
theorem KD:qEx O Q d L↔Q .nx O L:=Iff.rfl
theorem Fz:Ws (t7 ea O L) Q↔Wp (ea O L) (qEx O Q):=ws_bind.trans ⟨fun h=>h.imp fun _ _ q=>ws_some.mp q,fun h=>h.imp fun _ _ q=>ws_some.mpr q⟩
def qRt(O:G)(Q:Out->G->M->Prop):D->M->Prop:=fun d L=>Q (.rt d) O L
theorem Gg:qRt O Q d L↔Q (.rt d) O L:=Iff.rfl
theorem Fq:Ws (qO ea O L) Q↔Wp (ea O L) (qRt O Q):=ws_bind.trans ⟨fun h=>h.imp fun _ _ q=>ws_some.mp q,fun h=>h.imp fun _ _ q=>ws_some.mpr q⟩
def qSI(sa sb:SV)(O:G)(Q:Out->G->M->Prop):Bool->M->Prop:=fun b L=>if b=true then Ws (sa O L) Q else Ws (sb O L) Q
theorem Jk:qSI sa sb O Q true L↔Ws (sa O L) Q:=Iff.rfl
theorem LA:qSI sa sb O Q false L↔Ws (sb O L) Q:=Iff.rfl
theorem FD:Ws (sIf ba sa sb O L) Q↔Wp (ba O L) (qSI sa sb O Q):=ws_bind.trans ⟨fun h=>h.imp fun b _ q=>by cases b<;>exact q,fun h=>h.imp fun b _ q=>by cases b<;>exact q⟩
def qNx(Q:Out->G->M->Prop):G->M->Prop:=fun O L=>Q .nx O L
theorem JO:qNx Q O L↔Q .nx O L:=Iff.rfl
def qAs(g:GV)(O:G)(Q:Out->G->M->Prop):D->M->Prop:=fun d L=>Wp (g d O L) (qNx Q)
theorem FW:qAs g O Q d L↔Wp (g d O L) (qNx Q):=Iff.rfl
theorem B2:Ws (qS ea g O L) Q↔Wp (ea O L) (qAs g O Q):=ws_bind.trans ⟨fun h=>h.imp fun _ _ q=>(ws_bind.mp q).imp fun _ _ q=>ws_some.mp q,fun h=>h.imp fun _ _ q=>ws_bind.mpr (q.imp fun _ _ q=>ws_some.mpr q)⟩
def qFo(g:GV)(sb:SV)(O:G)(Q:Out->G->M->Prop):List D×Ck->M->Prop:=fun s L=>Ws (rT s.2 g sb s.1 O L) Q
theorem IB{c:Ck}:qFo g sb O Q (ds,c) L↔Ws (rT c g sb ds O L) Q:=Iff.rfl
theorem Jd:Ws (sJ iv g sb O L) Q↔Wp (iv O L) (qFo g sb O Q):=ws_bind
def qIL(RI:List D×Ck->M->Prop):D->M->Prop:=fun d L=>∃s,lsC L d=some s/\RI s L
theorem L1:Wp (ivL ea O L) RI↔Wp (ea O L) (qIL RI):=wp_bind.trans ⟨fun h=>h.imp fun d L q=>by
  obtain⟨b,e,q⟩:=wpo_bind.mp q;exact⟨b,e,wp_some.mp q⟩,fun h=>h.imp fun d L ⟨b,e,q⟩=>wpo_bind.mpr ⟨b,e,wp_some.mpr q⟩⟩
theorem Me:qIL RI (.lst ds) L↔RI (ds,none) L:=⟨fun⟨_,e,q⟩=>by cases e;exact q,fun q=>⟨_,rfl,q⟩⟩
theorem OY{k:Nat}(h:L[k]?=some (some (.lst ds))):qIL RI (.ref k) L↔RI (ds,some (k,ds)) L:=by
 have e:lsC L (.ref k)=some (ds,some (k,ds)):=by simp[lsC,h]
 exact⟨fun⟨_,e',q⟩=>by rw[e] at e';cases e';exact q,fun q=>⟨_,e,q⟩⟩
def qIR(RI:List D×Ck->M->Prop):D->M->Prop:=fun d L=>∃k,d=.int k/\Wp (ivR (vC (.int k)) [] L) RI
theorem Iy:Wp (ivR ea O L) RI↔Wp (ea O L) (qIR RI):=by
 refine wp_bind.trans ⟨fun h=>h.imp fun d L q=>?_,fun h=>h.imp fun d L q=>?_⟩
 ·obtain⟨b,Z6,e,q⟩:=q;cases d with
  |int k=>exact⟨_,rfl,_,_,e,q⟩
  |_=>cases e
 ·obtain⟨b,rfl,q⟩:=q;exact q
theorem vh{c:Ck}(I:List D->G->M->Prop)(ds:List D)(h0:I ds O L)
  (hs:∀d r O L,I (d::r) O L->Wp (g d O L) fun ZZ Z5=>Ws (sb ZZ Z5) fun o ZX Z3=>match o with
   | .nx=>qY c Z3/\I r ZX Z3
   | .ct=>qY c Z3/\I r ZX Z3
   | .bk=>Q .nx ZX Z3
   | .rt d=>Q (.rt d) ZX Z3)
  (hq:∀O L,I [] O L->Q .nx O L):Ws (rT c g sb ds O L) Q:=by
 induction ds generalizing O L with
 |nil=>exact ws_some.mpr (hq _ _ h0)
 |cons d r ih=>
  refine ws_bind.mpr ((hs d r O L h0).imp fun ZZ Z5 h=>wss_bind.mpr (h.imp fun o ZX Z3 h=>?_));cases o with
  |nx=>show Ws (chk _ _) Q;rw[t9 h.1];exact ih h.2
  |ct=>show Ws (chk _ _) Q;rw[t9 h.1];exact ih h.2
  |bk=>exact ws_some.mpr h
  |rt d=>exact ws_some.mpr h
theorem Wm{c:BV}(I:G->M->Prop)(f:G->M->Nat)(N:Nat)(h0:I O L)(hN:f O L<N)
  (hs:∀O L,I O L->Wp (c O L) fun b Z5=>if b=true then Ws (sb O Z5) fun o ZX Z3=>match o with
   | .nx=>I ZX Z3/\f ZX Z3<f O L
   | .ct=>I ZX Z3/\f ZX Z3<f O L
   | .bk=>Q .nx ZX Z3
   | .rt d=>Q (.rt d) ZX Z3 else Q .nx O Z5):Ws (wl c sb N O L) Q:=by
 induction N generalizing O L with
 |zero=>omega
 |succ N ih=>
  refine ws_bind.mpr ((hs O L h0).imp fun b Z5 h=>?_);cases b with
  |false=>exact ws_some.mpr h
  |true=>
   refine wss_bind.mpr (Ws.imp h fun o ZX Z3 h=>?_);cases o with
   |nx=>exact ih (O:=ZX) (L:=Z3) h.1 (by have:=h.2;omega)
   |ct=>exact ih (O:=ZX) (L:=Z3) h.1 (by have:=h.2;omega)
   |bk=>exact ws_some.mpr h
   |rt d=>exact ws_some.mpr h
def qCo(own:List Str)(cap:List (Str×Nat))(g:GV)(tc:BV)(te:EV)(O:G)(R:D->M->Prop):List D×Ck->M->Prop:=fun s L=>s.1.length<=1000000/\Wp (rX s.2 g tc te s.1 (rJ own cap O) L) fun rs L=>R (.lst rs) L
theorem tG{own:List Str}{cap:List (Str×Nat)}{c:Ck}{tc:BV}{te:EV}:qCo own cap g tc te O R (ds,c) L↔ds.length<=1000000/\Wp (rX c g tc te ds (rJ own cap O) L) fun rs L=>R (.lst rs) L:=Iff.rfl
theorem IN{own:List Str}{cap:List (Str×Nat)}{tc:BV}{te:EV}:Wp (rF own cap iv g tc te O L) R↔Wp (iv O L) (qCo own cap g tc te O R):=by
 rw[E6];cases h:iv O L with
 |none=>exact⟨fun⟨_,_,e,_⟩=>(by cases e),fun⟨_,_,e,_⟩=>(by cases e)⟩
 |some p=>
  obtain⟨⟨its,c⟩,Z5⟩:=p;rw[wp_some,Ch,tG];by_cases hl:its.length<=1000000
  ·rw[if_pos hl];cases e:rX c g tc te its (rJ own cap O) Z5 with
   |none=>exact⟨fun⟨_,_,e,_⟩=>(by cases e),fun⟨_,_,_,e,_⟩=>(by cases e)⟩
   |some q=>exact⟨fun⟨_,_,e,h⟩=>by cases e;exact⟨hl,_,_,rfl,h⟩,fun⟨_,_,_,e,h⟩=>by cases e;exact⟨_,_,rfl,h⟩⟩
  ·rw[if_neg hl];exact⟨fun⟨_,_,e,_⟩=>(by cases e),fun h=>absurd h.1 hl⟩
theorem comp_inv{c:Ck}{tc:BV}{te:EV}(I:List D->List D->G->M->Prop)(ds:List D){R:List D->M->Prop}(h0:I [] ds O L)
  (hs:∀done d r O L,I done (d::r) O L->Wp (g d O L) fun ZZ Z5=>Wp (tc ZZ Z5) fun b Z3=>if b=true then Wp (te ZZ Z3) fun x ZN=>qY c ZN/\I (done++[x]) r ZZ ZN else qY c Z3/\I done r ZZ Z3)
  (hq:∀done O L,I done [] O L->R done L):Wp (rX c g tc te ds O L) R:=by
 suffices H:∀(ds done:List D) (O:G) (L:M),I done ds O L->Wp (rX c g tc te ds O L) fun rs L=>R (done++rs) L from(H ds [] O L h0).imp fun rs L h=>h
 intro ds;induction ds with
 |nil=>intro done O L h;exact wp_some.mpr (by simpa using hq _ _ _ h)
 |cons d r ih=>
  intro done O L h;refine wp_bind.mpr ((hs done d r O L h).imp fun ZZ Z5 h=>wp_bind.mpr (h.imp fun b Z3 h=>?_));cases b with
  |true=>
   refine wp_bind.mpr (Wp.imp h fun x ZN h=>?_);show Wp (chk _ _) _;rw[t9 h.1];refine wp_bind.mpr ((ih (done++[x]) ZZ ZN h.2).imp fun rs Zs h=>wp_some.mpr ?_);simpa using h
  |false=>
   show Wp (chk _ _) _;have h:qY c Z3/\I done r ZZ Z3:=h;rw[t9 h.1];exact ih done ZZ Z3 h.2
def C8(R:D->M->Prop):Out->G->M->Prop:=fun o _ L=>match o with
 | .rt d=>R d L
 | .nx=>R .non L
 |_=>False
theorem IY:C8 R (.rt d) O L↔R d L:=Iff.rfl
theorem MK:C8 R .nx O L↔R .non L:=Iff.rfl
theorem sw(h:ds.length=m):Wp (rD n m sa ds L) R↔Ws (sa (ds.map some++List.replicate (n - ds.length) none) L) (C8 R):=by
 unfold rD;rw[if_pos h];refine wps_bind.trans ⟨fun h=>h.imp fun o _ _ q=>?_,fun h=>h.imp fun o _ _ q=>?_⟩
 ·cases o with
  |rt d=>exact(wp_some (Q:=R)).mp q
  |nx=>exact(wp_some (Q:=R)).mp q
  |bk=>obtain⟨_,_,e,_⟩:=q;cases e
  |ct=>obtain⟨_,_,e,_⟩:=q;cases e
 ·cases o with
  |rt d=>exact(wp_some (Q:=R)).mpr q
  |nx=>exact(wp_some (Q:=R)).mpr q
  |bk=>exact absurd q id
  |ct=>exact absurd q id
theorem yr{k:Nat}(h:k<=1000000000):qIR RI (.int (k:Int)) L↔RI (rm 0 k,none) L:=by
 have e:ivR (vC (.int (k:Int))) [] L=some ((rm 0 k,none),L):=by
  show(if -1000000000<=(k:Int)/\(k:Int)<=1000000000 then some ((rm 0 ((k:Int).toNat),(none:Ck)),L) else none)=_;rw[if_pos (by omega)];rfl
 constructor
 ·rintro⟨_,e',q⟩;cases e';rw[e] at q;exact wp_some.mp q
 ·intro q;exact⟨_,rfl,by rw[e];exact wp_some.mpr q⟩
theorem KA{k m:Nat}(h:k<m):(rm 0 m).drop k=.int (k:Int)::(rm 0 m).drop (k+1):=by
 have hl:(rm 0 m).length=m:=by simp[rm]
 rw[XC (by omega)];congr 1;simp[rm]
theorem AR(I:Nat->G->M->Prop){m:Nat}(h0:I 0 O L)
  (hs:∀k O L,k<m->I k O L->Wp (g (.int (k:Int)) O L) fun ZZ Z5=>Ws (sb ZZ Z5) fun o ZX Z3=>match o with
   | .nx=>I (k+1) ZX Z3
   | .ct=>I (k+1) ZX Z3
   | .bk=>Q .nx ZX Z3
   | .rt d=>Q (.rt d) ZX Z3)
  (hq:∀O L,I m O L->Q .nx O L):Ws (rT none g sb (rm 0 m) O L) Q:=by
 have hl:(rm 0 m).length=m:=by simp[rm]
 refine vh (fun r O L=>∃k,k<=m/\r=(rm 0 m).drop k/\I k O L) _ ⟨0,by omega,rfl,h0⟩ ?_ ?_
 ·rintro d r O L ⟨k,hk,e,h⟩;have hk':k<m:=by
   rcases Nat.lt_or_ge k m with z|z
   ·exact z
   ·rw[XY (by omega)] at e;cases e
  rw[KA hk'] at e;cases e;refine(hs k O L hk' h).imp fun ZZ Z5 h=>h.imp fun o ZX Z3 h=>?_;cases o with
  |nx=>exact⟨trivial,k+1,hk',rfl,h⟩
  |ct=>exact⟨trivial,k+1,hk',rfl,h⟩
  |bk=>exact h
  |rt d=>exact h
 ·rintro O L ⟨k,hk,e,h⟩;have:k=m:=by
   rcases Nat.lt_or_ge k m with z|z
   ·rw[KA z] at e;cases e
   ·omega
  subst this;exact hq _ _ h
theorem Lq{i j:Int}:rS (.int i) (.int j) L=some (.int (i+j),L):=rfl
theorem G6{i j:Int}:u7 (.int i) (.int j) L=some (.int (i - j),L):=rfl
theorem L0{i j:Int}:fGt (.int i) (.int j) L=some (.bl (decide (j<i)),L):=rfl
theorem JB{i j:Int}:fLt (.int i) (.int j) L=some (.bl (decide (i<j)),L):=rfl
theorem Mv{i j:Int}:fGe (.int i) (.int j) L=some (.bl (decide (j<=i)),L):=rfl
theorem Mf{i j:Int}:fLe (.int i) (.int j) L=some (.bl (decide (i<=j)),L):=rfl
theorem Ih{i j:Int}:fEq (.int i) (.int j) L=some (.bl (decide (i=j)),L):=by unfold fEq;rw[KW];rfl
theorem JN{i j:Int}:fNe (.int i) (.int j) L=some (.bl (!decide (i=j)),L):=by unfold fNe;rw[KW];rfl
theorem Jq{i j:Int}(h:0<j)(h2:j<2^200):x3 (.int i) (.int j) L=some (.int (i/j),L):=by exact if_pos (c:=wv i j) ⟨h,h2⟩
theorem MC{i j:Int}:xH (.int i) (.int j) L=some (.int (if j<i then j else i),L):=rfl
theorem Iu{i j:Int}:B7 (.int i) (.int j) L=some (.int (if j>i then j else i),L):=rfl
theorem J3{i:Int}:uY (.int i) L=some (.int (-i),L):=rfl
theorem FT{b:Bool}:Lc (.bl b) L=some (.bl (!b),L):=rfl
theorem Jr{b:Bool}:zi (.bl b) L=some (.int (if b=true then 1 else 0),L):=SG
theorem tz(h:ds.length<=1000):rZ ds L=some (.tup ds,L):=if_pos h
theorem sW(h:ds.length<=1000):rL ds L=some (.lst ds,L):=if_pos h
theorem Kr(h:ds.length<=1000):ur ds L=some (.ref L.length,L++[some (.lst ds)]):=if_pos h
end
section
variable {O:G} {L:M} {ea eo ei ev:EV} {el:LV} {k n:Nat} {d x y:D} {ds:List D} {o:Option D} {C:Addr} {f m:Str} {fs:List (Str×D)} {g:C0}
variable {R:D->M->Prop} {RI:List D×Ck->M->Prop} {Q:Out->G->M->Prop}
def qIT(RI:List D×Ck->M->Prop):D->M->Prop:=fun d L=>∃s,vf d=some s/\RI (s,none) L
theorem IL:Wp (ivT ea O L) RI↔Wp (ea O L) (qIT RI):=wp_bind.trans ⟨fun h=>h.imp fun d L q=>by
  obtain⟨b,e,q⟩:=wpo_bind.mp q;exact⟨b,e,wp_some.mp q⟩,fun h=>h.imp fun d L ⟨b,e,q⟩=>wpo_bind.mpr ⟨b,e,wp_some.mpr q⟩⟩
theorem Lo:qIT RI (.tup ds) L↔RI (ds,none) L:=⟨fun⟨_,e,q⟩=>by cases e;exact q,fun q=>⟨_,rfl,q⟩⟩
theorem Am(h:L[k]?=some (some (.ins C fs)))(hf:fs.lookup f=some d):tf C f (.ref k) L=some (d,L):=by
 unfold tf;simp only[h,if_true,hf];rfl
def LQ(g:C0)(d:D)(R:D->M->Prop):List D->M->Prop:=fun ds L=>Wp (g (d::ds) L) R
theorem JH:LQ g d R ds L↔Wp (g (d::ds) L) R:=Iff.rfl
def qMe(C:Addr)(m:Str)(g:C0)(el:LV)(O:G)(R:D->M->Prop):D->M->Prop:=fun d L=>Wp (if noM L C m d=true then(el O L).bind fun q=>g (d::q.1) q.2 else none) R
theorem G5:Wp (vt C m g eo el O L) R↔Wp (eo O L) (qMe C m g el O R):=wp_bind
theorem xP(h:L[k]?=some (some (.ins C fs)))(hf:fs.lookup m=none):qMe C m g el O R (.ref k) L↔Wp (el O L) (LQ g (.ref k) R):=by
 have e:noM L C m (.ref k)=true:=by simp[noM,h,hf]
 unfold qMe;rw[if_pos e];exact wp_bind
def qMk(C:Addr)(g:C0)(R:D->M->Prop):List D->M->Prop:=fun ds L=>Wp (g (.ref L.length::ds) (L++[some (.ins C [])])) fun d Z6=>d=.non/\R (.ref L.length) Z6
theorem Rk:qMk C g R ds L↔Wp (g (.ref L.length::ds) (L++[some (.ins C [])])) fun d Z6=>d=.non/\R (.ref L.length) Z6:=Iff.rfl
theorem zxx(h:Wp (el O L) (qMk C g R)):Wp (Bs C g el O L) R:=wp_bind.mpr (h.imp fun ds L q=>wp_bind.mpr (q.imp fun d Z6 ⟨e,q⟩=>by subst e;exact wp_some.mpr q))
def qF2(C:Addr)(f:Str)(x:D)(O:G)(Q:Out->G->M->Prop):D->M->Prop:=fun d L=>Ws (match d with
 | .ref k=>match L[k]? with
  |some (some (.ins C' fs))=>if C'=C/\fs.length<1000 then some (.nx,O,L.set k (some (.ins C (sH f x fs)))) else none
  |_=>none
 |_=>none) Q
def qF1(C:Addr)(f:Str)(eo:EV)(O:G)(Q:Out->G->M->Prop):D->M->Prop:=fun x L=>Wp (eo O L) (qF2 C f x O Q)
theorem JF:qF1 C f eo O Q x L↔Wp (eo O L) (qF2 C f x O Q):=Iff.rfl
theorem LU:Ws (yC C f eo ev O L) Q↔Wp (ev O L) (qF1 C f eo O Q):=ws_bind.trans ⟨fun h=>h.imp fun _ _ q=>ws_bind.mp q,fun h=>h.imp fun _ _ q=>ws_bind.mpr q⟩
theorem Aw(h:L[k]?=some (some (.ins C fs)))(hl:fs.length<1000):qF2 C f x O Q (.ref k) L↔Q .nx O (L.set k (some (.ins C (sH f x fs)))):=by
 unfold qF2;simp only[h,hl,and_self,if_true];exact ws_some
def qN3(v o:D)(O:G)(Q:Out->G->M->Prop):D->M->Prop:=fun y L=>Ws ((vX y).bind fun k=>(vK L o).bind fun kvs=>match o with
 | .ref n=>if kvs.length<16000000 then some (.nx,O,L.set n (some (.dN (ux kvs k v)))) else none
 |_=>none) Q
def qN2(ei:EV)(v:D)(O:G)(Q:Out->G->M->Prop):D->M->Prop:=fun o L=>Wp (ei O L) (qN3 v o O Q)
theorem FN:qN2 ei x O Q d L↔Wp (ei O L) (qN3 x d O Q):=Iff.rfl
def qN1(eo ei:EV)(O:G)(Q:Out->G->M->Prop):D->M->Prop:=fun v L=>Wp (eo O L) (qN2 ei v O Q)
theorem HL:qN1 eo ei O Q x L↔Wp (eo O L) (qN2 ei x O Q):=Iff.rfl
theorem JY:Ws (Db eo ei ev O L) Q↔Wp (ev O L) (qN1 eo ei O Q):=ws_bind.trans ⟨fun h=>h.imp fun _ _ q=>(ws_bind.mp q).imp fun _ _ q=>ws_bind.mp q,fun h=>h.imp fun _ _ q=>ws_bind.mpr (q.imp fun _ _ q=>ws_bind.mpr q)⟩
theorem Dd{kvs:List (NK×D)}(h:L[k]?=some (some (.dN kvs))):vK L (.ref k)=some kvs:=by simp only[vK,h]
theorem Ds{ns:List Int}{i:Int}:vX (.tup [.tup (ns.map D.int),.int i])=some (ns,i):=by
 have:optAll inI (ns.map D.int)=some ns:=by
  have:=v4 (f:=inI) (g:=D.int) (h:=id) (l:=ns) (fun x _=>rfl);simpa using this
 simp only[vX,this];rfl
theorem Pe{kvs:List (NK×D)}{ns:List Int}{i:Int}(h:L[k]?=some (some (.dN kvs)))(hl:kvs.length<16000000):qN3 x (.ref k) O Q (.tup [.tup (ns.map D.int),.int i]) L↔Q .nx O (L.set k (some (.dN (ux kvs (ns,i) x)))):=by
 unfold qN3;rw[Ds,Dd h];simp only[Option.bind_some,hl,if_true];exact ws_some
theorem QK{kvs:List (NK×D)}{ns:List Int}{i:Int}(h:L[k]?=some (some (.dN kvs))):yR true (.tup [.tup (ns.map D.int),.int i]) (.ref k) L=some (.bl (!(sh kvs (ns,i)).isSome),L):=by
 unfold yR;rw[Ds,Dd h];simp
theorem C5{kvs:List (NK×D)}{ns:List Int}{i:Int}(h:L[k]?=some (some (.dN kvs)))(hv:sh kvs (ns,i)=some d):AJ (.ref k) (.tup [.tup (ns.map D.int),.int i]) L=some (d,L):=by
 unfold AJ;rw[Ds,Dd h];simp[hv]
theorem Pn{kvs:List (NK×D)}{k:NK}{d:D}(h:sh kvs k=none):sh (ux kvs k d) k=some d/\(ux kvs k d)=kvs++[(k,d)]:=by
 have hn:∀p∈kvs,p.1≠k:=fun p hp e=>by
  have:(kvs.find? fun kv=>decide (kv.1=k))=none:=by
   unfold sh at h;cases q:kvs.find? fun kv=>decide (kv.1=k) with
   |none=>rfl
   |some z=>rw[q] at h;cases h
  have:=Yo.mp this p hp;simp[e] at this
 have ha:(kvs.any fun kv=>decide (kv.1=k))=false:=by
  rw[List.any_eq_false];intro p hp;simpa using hn p hp
 have e:ux kvs k d=kvs++[(k,d)]:=by unfold ux;rw[ha];rfl
 refine⟨?_,e⟩;rw[e];unfold sh;rw[List.find?_append];have:(kvs.find? fun kv=>decide (kv.1=k))=none:=Yo.mpr fun p hp=>by simpa using hn p hp
 rw[this];simp
theorem D0{kvs:List (NK×D)}{k:NK}{d:D}(h:sh kvs k=some d):(k,d)∈kvs:=by
 unfold sh at h;cases q:kvs.find? fun kv=>decide (kv.1=k) with
 |none=>rw[q] at h;cases h
 |some z=>
  rw[q] at h;cases h;have h1:=List.mem_of_find?_eq_some q;have h2:=List.find?_some q;simp at h2;rw[←h2];exact h1
end
def Wt(r:Option (OutX×G×M))(Q:OutX->G->M->Prop):Prop:=∃o O L,r=some (o,O,L)/\Q o O L
section
variable {α β:Type} {O:G} {L:M} {ex:EX} {bx:BX} {bv:BV} {el:LV} {lx:LX} {sx sy:SX} {sv:SV} {C:Addr} {d:D} {ds:List D} {b:Bool} {g:GV} {f:FX} {n m:Nat}
variable {R:Rs D->M->Prop} {RB:Rs Bool->M->Prop} {RL:Rs (List D)->M->Prop} {Q:OutX->G->M->Prop}
theorem Wt.imp{r:Option (OutX×G×M)}{Q R:OutX->G->M->Prop}(h:Wt r Q)(f:∀o O L,Q o O L->R o O L):Wt r R:=let ⟨a,O,L,e,q⟩:=h;⟨a,O,L,e,f a O L q⟩
theorem wt_some{o:OutX}:Wt (some (o,O,L)) Q↔Q o O L:=⟨fun⟨_,_,_,e,q⟩=>by cases e;exact q,fun q=>⟨_,_,_,rfl,q⟩⟩
theorem wtp_bind{r:Option (α×M)}{f:α×M->Option (OutX×G×M)}:Wt (r.bind f) Q↔Wp r fun a L=>Wt (f (a,L)) Q:=by
 cases r with
 |none=>exact⟨fun⟨_,_,_,e,_⟩=>(by cases e),fun⟨_,_,e,_⟩=>(by cases e)⟩
 |some p=>exact⟨fun h=>⟨p.1,p.2,rfl,h⟩,fun⟨_,_,e,h⟩=>by cases e;exact h⟩
theorem wtt_bind{r:Option (OutX×G×M)}{f:OutX×G×M->Option (OutX×G×M)}:Wt (r.bind f) Q↔Wt r fun o O L=>Wt (f (o,O,L)) Q:=by
 cases r with
 |none=>exact⟨fun⟨_,_,_,e,_⟩=>(by cases e),fun⟨_,_,_,e,_⟩=>(by cases e)⟩
 |some p=>exact⟨fun h=>⟨p.1,p.2.1,p.2.2,rfl,h⟩,fun⟨_,_,_,e,h⟩=>by cases e;exact h⟩
theorem wts_bind{r:Option (Out×G×M)}{f:Out×G×M->Option (OutX×G×M)}:Wt (r.bind f) Q↔Ws r fun o O L=>Wt (f (o,O,L)) Q:=by
 cases r with
 |none=>exact⟨fun⟨_,_,_,e,_⟩=>(by cases e),fun⟨_,_,_,e,_⟩=>(by cases e)⟩
 |some p=>exact⟨fun h=>⟨p.1,p.2.1,p.2.2,rfl,h⟩,fun⟨_,_,_,e,h⟩=>by cases e;exact h⟩
theorem wpt_bind{r:Option (OutX×G×M)}{f:OutX×G×M->Option (β×M)}{R:β->M->Prop}:Wp (r.bind f) R↔Wt r fun o O L=>Wp (f (o,O,L)) R:=by
 cases r with
 |none=>exact⟨fun⟨_,_,e,_⟩=>(by cases e),fun⟨_,_,_,e,_⟩=>(by cases e)⟩
 |some p=>exact⟨fun h=>⟨p.1,p.2.1,p.2.2,rfl,h⟩,fun⟨_,_,_,e,h⟩=>by cases e;exact h⟩
def qUp(R:Rs α->M->Prop):α->M->Prop:=fun a L=>R (.ok a) L
theorem GW{a:α}{R:Rs α->M->Prop}:qUp R a L↔R (.ok a) L:=Iff.rfl
theorem Fn:Wp (upB bv O L) RB↔Wp (bv O L) (qUp RB):=wp_bind.trans ⟨fun h=>h.imp fun _ _ q=>(wp_some (Q:=RB)).mp q,fun h=>h.imp fun _ _ q=>(wp_some (Q:=RB)).mpr q⟩
theorem Hr:Wp (upL el O L) RL↔Wp (el O L) (qUp RL):=wp_bind.trans ⟨fun h=>h.imp fun _ _ q=>(wp_some (Q:=RL)).mp q,fun h=>h.imp fun _ _ q=>(wp_some (Q:=RL)).mpr q⟩
def qUS(Q:OutX->G->M->Prop):Out->G->M->Prop:=fun o O L=>Q (upO o) O L
theorem HS:qUS Q .nx O L↔Q .nx O L:=Iff.rfl
theorem Fs:qUS Q (.rt d) O L↔Q (.rt d) O L:=Iff.rfl
theorem Iw:Wt (upS sv O L) Q↔Ws (sv O L) (qUS Q):=wts_bind.trans ⟨fun h=>h.imp fun _ _ _ q=>(wt_some (Q:=Q)).mp q,fun h=>h.imp fun _ _ _ q=>(wt_some (Q:=Q)).mpr q⟩
def qLX(f:FX)(R:Rs D->M->Prop):Rs (List D)->M->Prop:=fun r L=>match r with
 | .ok ds=>Wp (f ds L) R
 | .ex C=>R (.ex C) L
theorem Hj:qLX f R (.ok ds) L↔Wp (f ds L) R:=Iff.rfl
theorem Hw:qLX f R (.ex C) L↔R (.ex C) L:=Iff.rfl
theorem Ip:Wp (vLX f lx O L) R↔Wp (lx O L) (qLX f R):=wp_bind.trans ⟨fun h=>h.imp fun r _ q=>by cases r;exact q;exact(wp_some (Q:=R)).mp q,fun h=>h.imp fun r _ q=>by cases r;exact q;exact(wp_some (Q:=R)).mpr q⟩
def BC(d:D)(RL:Rs (List D)->M->Prop):Rs (List D)->M->Prop:=fun r L=>match r with
 | .ok ds=>RL (.ok (d::ds)) L
 | .ex C=>RL (.ex C) L
theorem Kf:BC d RL (.ok ds) L↔RL (.ok (d::ds)) L:=Iff.rfl
theorem GQ:BC d RL (.ex C) L↔RL (.ex C) L:=Iff.rfl
def qcX(lx:LX)(O:G)(RL:Rs (List D)->M->Prop):Rs D->M->Prop:=fun r L=>match r with
 | .ok d=>Wp (lx O L) (BC d RL)
 | .ex C=>RL (.ex C) L
theorem LR:qcX lx O RL (.ok d) L↔Wp (lx O L) (BC d RL):=Iff.rfl
theorem Kc:qcX lx O RL (.ex C) L↔RL (.ex C) L:=Iff.rfl
def qNX(RB:Rs Bool->M->Prop):Rs Bool->M->Prop:=fun r L=>match r with
 | .ok b=>RB (.ok (!b)) L
 | .ex C=>RB (.ex C) L
theorem Iz:qNX RB (.ok b) L↔RB (.ok (!b)) L:=Iff.rfl
theorem FB:qNX RB (.ex C) L↔RB (.ex C) L:=Iff.rfl
def qTX(RB:Rs Bool->M->Prop):Rs D->M->Prop:=fun r L=>match r with
 | .ok d=>∃b,d=.bl b/\RB (.ok b) L
 | .ex C=>RB (.ex C) L
theorem Fv:qTX RB (.ex C) L↔RB (.ex C) L:=Iff.rfl
def AI(sy:SX)(Q:OutX->G->M->Prop):OutX->G->M->Prop:=fun o O L=>match o with
 | .nx=>Wt (sy O L) Q
 |o=>Q o O L
theorem Fo:AI sy Q .nx O L↔Wt (sy O L) Q:=Iff.rfl
theorem ML:AI sy Q (.rt d) O L↔Q (.rt d) O L:=Iff.rfl
theorem HR:AI sy Q (.ex C) O L↔Q (.ex C) O L:=Iff.rfl
theorem Mc:Wt (sR sx sy O L) Q↔Wt (sx O L) (AI sy Q):=wtt_bind.trans ⟨fun h=>h.imp fun o _ _ q=>by cases o<;>first|exact q|exact(wt_some (Q:=Q)).mp q,fun h=>h.imp fun o _ _ q=>by cases o<;>first|exact q|exact(wt_some (Q:=Q)).mpr q⟩
def qEX(O:G)(Q:OutX->G->M->Prop):Rs D->M->Prop:=fun r L=>match r with
 | .ok _=>Q .nx O L
 | .ex C=>Q (.ex C) O L
theorem Jx:qEX O Q (.ok d) L↔Q .nx O L:=Iff.rfl
theorem LY:qEX O Q (.ex C) L↔Q (.ex C) O L:=Iff.rfl
theorem JK:Wt (xl ex O L) Q↔Wp (ex O L) (qEX O Q):=wtp_bind.trans ⟨fun h=>h.imp fun r _ q=>by cases r<;>exact(wt_some (Q:=Q)).mp q,fun h=>h.imp fun r _ q=>by cases r<;>exact(wt_some (Q:=Q)).mpr q⟩
def qRX(O:G)(Q:OutX->G->M->Prop):Rs D->M->Prop:=fun r L=>match r with
 | .ok d=>Q (.rt d) O L
 | .ex C=>Q (.ex C) O L
theorem Jm:qRX O Q (.ok d) L↔Q (.rt d) O L:=Iff.rfl
theorem HM:qRX O Q (.ex C) L↔Q (.ex C) O L:=Iff.rfl
theorem Kb:Wt (wb ex O L) Q↔Wp (ex O L) (qRX O Q):=wtp_bind.trans ⟨fun h=>h.imp fun r _ q=>by cases r<;>exact(wt_some (Q:=Q)).mp q,fun h=>h.imp fun r _ q=>by cases r<;>exact(wt_some (Q:=Q)).mpr q⟩
def qIX(sx sy:SX)(O:G)(Q:OutX->G->M->Prop):Rs Bool->M->Prop:=fun r L=>match r with
 | .ok c=>if c=true then Wt (sx O L) Q else Wt (sy O L) Q
 | .ex C=>Q (.ex C) O L
theorem Lp:qIX sx sy O Q (.ok true) L↔Wt (sx O L) Q:=Iff.rfl
theorem FU:qIX sx sy O Q (.ok false) L↔Wt (sy O L) Q:=Iff.rfl
theorem HV:qIX sx sy O Q (.ex C) L↔Q (.ex C) O L:=Iff.rfl
theorem Ke:Wt (t6 bx sx sy O L) Q↔Wp (bx O L) (qIX sx sy O Q):=wtp_bind.trans ⟨fun h=>h.imp fun r _ q=>by
  cases r with
  |ok c=>cases c<;>exact q
  |ex C=>exact(wt_some (Q:=Q)).mp q,fun h=>h.imp fun r _ q=>by
  cases r with
  |ok c=>cases c<;>exact q
  |ex C=>exact(wt_some (Q:=Q)).mpr q⟩
def De(Q:OutX->G->M->Prop):G->M->Prop:=fun O L=>Q .nx O L
theorem HN:De Q O L↔Q .nx O L:=Iff.rfl
def qAX(g:GV)(O:G)(Q:OutX->G->M->Prop):Rs D->M->Prop:=fun r L=>match r with
 | .ok d=>Wp (g d O L) (De Q)
 | .ex C=>Q (.ex C) O L
theorem IS:qAX g O Q (.ok d) L↔Wp (g d O L) (De Q):=Iff.rfl
theorem Gc:qAX g O Q (.ex C) L↔Q (.ex C) O L:=Iff.rfl
theorem GP:Wt (Er ex g O L) Q↔Wp (ex O L) (qAX g O Q):=by
 refine wtp_bind.trans ⟨fun h=>h.imp fun r L q=>?_,fun h=>h.imp fun r L q=>?_⟩
 ·cases r with
  |ok d=>exact(wtp_bind.mp q).imp fun _ _ q=>(wt_some (Q:=Q)).mp q
  |ex C=>exact(wt_some (Q:=Q)).mp q
 ·cases r with
  |ok d=>exact wtp_bind.mpr (Wp.imp q fun _ _ q=>(wt_some (Q:=Q)).mpr q)
  |ex C=>exact(wt_some (Q:=Q)).mpr q
def AA(R:Rs D->M->Prop):OutX->G->M->Prop:=fun o _ L=>match o with
 | .rt d=>R (.ok d) L
 | .nx=>R (.ok .non) L
 | .ex C=>R (.ex C) L
 |_=>False
theorem Ld:AA R (.rt d) O L↔R (.ok d) L:=Iff.rfl
theorem Io:AA R .nx O L↔R (.ok .non) L:=Iff.rfl
theorem L7:AA R (.ex C) O L↔R (.ex C) L:=Iff.rfl
theorem Dm(h:ds.length=m):Wp (sX n m sx ds L) R↔Wt (sx (ds.map some++List.replicate (n - ds.length) none) L) (AA R):=by
 unfold sX;rw[if_pos h];refine wpt_bind.trans ⟨fun h=>h.imp fun o _ _ q=>?_,fun h=>h.imp fun o _ _ q=>?_⟩
 ·cases o with
  |rt d=>exact(wp_some (Q:=R)).mp q
  |nx=>exact(wp_some (Q:=R)).mp q
  |ex C=>exact(wp_some (Q:=R)).mp q
  |bk=>obtain⟨_,_,e,_⟩:=q;cases e
  |ct=>obtain⟨_,_,e,_⟩:=q;cases e
 ·cases o with
  |rt d=>exact(wp_some (Q:=R)).mpr q
  |nx=>exact(wp_some (Q:=R)).mpr q
  |ex C=>exact(wp_some (Q:=R)).mpr q
  |bk=>exact absurd q id
  |ct=>exact absurd q id
theorem Bn{R:D->M->Prop}(h:Wp (f ds L) fun r L=>∃d,r=.ok d/\R d L):Wp (dn f ds L) R:=by
 obtain⟨_,Z6,e,d,rfl,q⟩:=h;unfold dn;rw[e];exact wp_some.mpr q
theorem forX_inv{c:Ck}(I:List D->G->M->Prop)(ds:List D)(h0:I ds O L)
  (hs:∀d r O L,I (d::r) O L->Wp (g d O L) fun ZZ Z5=>Wt (sx ZZ Z5) fun o ZX Z3=>match o with
   | .nx=>qY c Z3/\I r ZX Z3
   | .ct=>qY c Z3/\I r ZX Z3
   | .bk=>Q .nx ZX Z3
   | .rt d=>Q (.rt d) ZX Z3
   | .ex C=>Q (.ex C) ZX Z3)
  (hq:∀O L,I [] O L->Q .nx O L):Wt (vO c g sx ds O L) Q:=by
 induction ds generalizing O L with
 |nil=>exact wt_some.mpr (hq _ _ h0)
 |cons d r ih=>
  refine wtp_bind.mpr ((hs d r O L h0).imp fun ZZ Z5 h=>wtt_bind.mpr (h.imp fun o ZX Z3 h=>?_));cases o with
  |nx=>show Wt (chk _ _) Q;rw[t9 h.1];exact ih h.2
  |ct=>show Wt (chk _ _) Q;rw[t9 h.1];exact ih h.2
  |bk=>exact wt_some.mpr h
  |rt d=>exact wt_some.mpr h
  |ex C=>exact wt_some.mpr h
def qFX(g:GV)(sx:SX)(O:G)(Q:OutX->G->M->Prop):List D×Ck->M->Prop:=fun s L=>Wt (vO s.2 g sx s.1 O L) Q
theorem Lr{c:Ck}:qFX g sx O Q (ds,c) L↔Wt (vO c g sx ds O L) Q:=Iff.rfl
end
end L3
namespace L2
open PySem PySem.Spec PyProof.Rows
end L2
namespace L3
open PySem L2
end L3
namespace Law
open PySem L2 L3
def top(i:Nat):Stmt:=PySem.Challenge.pw_morethanhalf_k24_holding_papers_told.main.body.getD i (.Pass ⟨0,0,0,0⟩)
section
variable {P:Program} {w:World} {K:Frag} {mg:Str->Option Value} {base:Heap} {f:Addr} {fd:FuncData}
theorem Bq:FnScope ["many","answers","i","j","alike"] ["many","answers"] (qJ (top 16)):=⟨rfl,rfl,rfl,by decide +kernel,rfl,by decide +kernel,by decide +kernel⟩
def CW(tm:Addr):SX:=
  (sR (t6 (upB (vT (v2 fLt (be 0) (vC (.int 0)))))
   (vP tm ((be 0)::[]))
   (upS sNx))
  (Jg (ivL (be 1)) (rM 3 (qQ (qD 2) (qQ (qD 3) (qQ (qD 4) sd))))
   (sR (t6 (upB (sL (wZ (vT (uS fLe fLt (vC (.int 0)) (be 2) (be 0))) (vT (uS fLe fLt (vC (.int 0)) (be 3) (be 0))))))
    (vP tm ((be 2)::((be 3)::((be 0)::[]))))
    (upS sNx))
   (t6 (upB (vT (v2 fEq (be 2) (be 3))))
    (vP tm ((be 2)::[]))
    (upS sNx)))))
def yY(tm:Addr):FX:=sX 5 2 (CW tm)
theorem Pu{k:Nat}{tm:Addr}(F:Fun K "check_things" "check_things" (top 16) f fd) (uB:mg "NoThing"=some (.ref tm)/\uC K tm):FnOk P w K mg base (CXr P w) (k+1) f fd ["many","answers"] (spX K (yY tm)):=by
 unfold yY CW;exact vF F Bq fun cdv A outer s H E hr=>
  (vZ (xg (xG (DQ (qB 0) qP))
   (t8 (x5 (yf (tY (by decide) (uM (qB 0) (tY (by decide) pj0)))) uB.1 uB.2))
   xc)
  (t8 (O6 (UD ⟨rfl,rfl⟩) rfl (Rl (su (qB 1))) (Sb (uh (n:=3) (rQ (qR (i:=2) Bq.nd rfl (Or.inl rfl)) (rQ (qR (i:=3) Bq.nd rfl (Or.inl rfl)) (rQ (qR (i:=4) Bq.nd rfl (Or.inl rfl)) uk)))))
   (vZ (xg (xG (tR (PW.pt (UV (KH IC Kd CI K5 qP (qB 2) (qB 0)) (MQ (KH IC Kd CI K5 qP (qB 3) (qB 0)))))))
    (t8 (x5 (yf (tY (by decide) (uM (qB 2) (tY (by decide) (uM (qB 3) (tY (by decide) (uM (qB 0) (tY (by decide) pj0)))))))) uB.1 uB.2))
    xc)
   (t8 (xg (xG (uD hr (qB 2) (qB 3)))
    (t8 (x5 (yf (tY (by decide) (uM (qB 2) (tY (by decide) pj0)))) uB.1 uB.2))
    xc))))))
theorem OA:FnScope ["homes","old","new"] ["homes","old","new"] (qJ (top 17)):=⟨rfl,rfl,rfl,by decide +kernel,rfl,by decide +kernel,by decide +kernel⟩
theorem HY:((["thing","home"]:List Str)++([("old",1),("new",2)]:List (Str×Nat)).map (·.1)).Nodup:=by decide +kernel
def Dy:SV:=
  (qO (AW ["thing","home"] [("old",1),("new",2)] (be 0) (rM 2 (qQ (qD 0) (qQ (qD 1) sd))) qX (be 0) (vIf (vT (v2 fEq (be 1) (be 2))) (be 3) (be 1))))
def uQ:C0:=rD 3 3 (Dy)
theorem S0{k:Nat}(F:Fun K "moved" "moved" (top 17) f fd):FnOk P w K mg base CX0 (k+1) f fd ["homes","old","new"] (spM K (uQ)):=by
 unfold uQ Dy;exact rY F OA fun cdv A outer s H E hr=>
  (qM (qU (Qz (own:=["thing","home"]) (cap:=[("old",1),("new",2)]) (sB rfl) (qB 0)
   (fun _ _ _ _ _=>(uh (n:=2) (rQ (qR (i:=0) HY rfl (Or.inl rfl)) (rQ (qR (i:=1) HY rfl (Or.inl rfl)) uk)))) (fun _ _ _ _ _=>tV)
   (fun _ _ _ _ _=>(qB 0)) (fun _ _ _ _ _=>(DG (uD hr (qB 1) (qB 2)) (qB 3) (qB 1))))))
theorem yi:FnScope ["answers","homes","i","j","alike"] ["answers"] (qJ (top 18)):=⟨rfl,rfl,rfl,by decide +kernel,rfl,by decide +kernel,by decide +kernel⟩
def EC(yu:C0):SV:=
  (qH (qS yW (qD 1))
  (qH (sJ (ivL (be 0)) (rM 3 (qQ (qD 2) (qQ (qD 3) (qQ (qD 4) sd))))
   (qH (t7 (uv (be 1) (be 2) (be 2)))
   (qH (t7 (uv (be 1) (be 3) (be 3)))
   (sIf (rC (be 4))
    (qS (vL yu (qC (be 1) (qC (v2 tT (be 1) (be 3)) (qC (v2 tT (be 1) (be 2)) qG)))) (qD 1))
    sNx))))
  (qO (be 1))))
def wU(yu:C0):C0:=rD 5 1 (EC yu)
theorem Ru{yu:C0}{Jh k:Nat}(F:Fun K "homes_of" "homes_of" (top 18) f fd) (Cv:Df P w K mg base Jh "moved" ["homes","old","new"] (spM K yu)) (Vz:Jh<=k):FnOk P w K mg base CX0 (k+1) f fd ["answers"] (spM K (wU yu)):=by
 unfold wU EC;exact rY F yi fun cdv A outer s H E hr=>
  (qK (rG (i:=1) yi.nd rfl (Or.inl rfl) LK)
  (qK (tq XA rfl (su (qB 0)) (uh (n:=3) (rQ (qR (i:=2) yi.nd rfl (Or.inl rfl)) (rQ (qR (i:=3) yi.nd rfl (Or.inl rfl)) (rQ (qR (i:=4) yi.nd rfl (Or.inl rfl)) uk))))
   (qK (wQ (DB (qB 1) (qB 2) (qB 2)))
   (qK (wQ (DB (qB 1) (qB 3) (qB 3)))
   (qM (rO (sI (qB 4))
    (qM (rG (i:=1) yi.nd rfl (Or.inl rfl) (rH Cv (hr.mono Vz) (qF (qB 1) (qF (Af hr (qB 1) (qB 3)) (qF (Af hr (qB 1) (qB 2)) qI))))))
    rK)))))
  (qM (qU (qB 1)))))
theorem Jz:FnScope ["many","answers","homes"] ["many","answers"] (qJ (top 19)):=⟨rfl,rfl,rfl,by decide +kernel,rfl,by decide +kernel,by decide +kernel⟩
theorem EH:((["i","j","alike"]:List Str)++([("homes",2)]:List (Str×Nat)).map (·.1)).Nodup:=by decide +kernel
def DU(yD:C0)(yn:FX):SX:=
  (sR (xl (vLX yn (upL (qC (be 0) (qC (be 1) qG)))))
  (upS (qH (qS (vL yD (qC (be 1) qG)) (qD 2))
  (qO (v1 vE (rF ["i","j","alike"] [("homes",2)] (ivL (be 1)) (rM 3 (qQ (qD 0) (qQ (qD 1) (qQ (qD 2) sd)))) qX (vOr (be 2) (v2 fNe (v2 tT (be 3) (be 0)) (v2 tT (be 3) (be 1))))))))))
def DT(yD:C0)(yn:FX):FX:=sX 3 2 (DU yD yn)
theorem SL{yD:C0}{yn:FX}{LG Lk k:Nat}(F:Fun K "can_be" "can_be" (top 19) f fd) (D4:Df P w K mg base LG "homes_of" ["answers"] (spM K yD)) (Ur:LG<=k) (DE:DfX P w K mg base Lk "check_things" ["many","answers"] (spX K yn)) (O7:Lk<=k) (yG:mg "all"=none):FnOk P w K mg base (CXr P w) (k+1) f fd ["many","answers"] (spX K (DT yD yn)):=by
 unfold DT DU;exact vF F Jz fun cdv A outer s H E hr=>
  (vZ (Dh (wA DE (hr.mono O7) (vD (qF (qB 0) (qF (qB 1) qI)))))
  (EU (qK (rG (i:=2) Jz.nd rfl (Or.inr rfl) (rH D4 (hr.mono Ur) (qF (qB 1) qI)))
  (qM (qU (JS yG (tF (own:=["i","j","alike"]) (cap:=[("homes",2)]) (sB rfl) (su (qB 1))
   (fun _ _ _ _ _=>(uh (n:=3) (rQ (qR (i:=0) EH rfl (Or.inl rfl)) (rQ (qR (i:=1) EH rfl (Or.inl rfl)) (rQ (qR (i:=2) EH rfl (Or.inl rfl)) uk))))) (fun _ _ _ _ _=>tV)
   (fun _ _ _ _ _=>(Oz (qB 2) (Ly (Gi hr (Af hr (qB 3) (qB 0)) (Af hr (qB 3) (qB 1)))))))))))))
theorem RK:FnScope ["many","answers"] ["many","answers"] (qJ (top 20)):=⟨rfl,rfl,rfl,by decide +kernel,rfl,by decide +kernel,by decide +kernel⟩
def DI(ud:FX)(xt:Addr):SX:=
  (t6 (Av (bTX (vLX ud (upL (qC (be 0) (qC (be 1) qG))))))
   (JZ xt (vC (.str "the answers cannot all be right")))
   (upS sNx))
def Ff(ud:FX)(xt:Addr):FX:=sX 2 2 (DI ud xt)
theorem Vh{ud:FX}{zI k:Nat}{xt:Addr}(F:Fun K "check_right" "check_right" (top 20) f fd) (xD:DfX P w K mg base zI "can_be" ["many","answers"] (spX K ud)) (Cw:zI<=k) (Aq:mg "NoFit"=some (.ref xt)/\uC K xt):FnOk P w K mg base (CXr P w) (k+1) f fd ["many","answers"] (spX K (Ff ud xt)):=by
 unfold Ff DI;exact vF F RK fun cdv A outer s H E hr=>
  (t8 (xg (Q7 (R8 (wA xD (hr.mono Cw) (vD (qF (qB 0) (qF (qB 1) qI))))))
   (t8 (ON AS Aq.1 Aq.2))
   xc))
theorem A9:FnScope ["kinds","answers","i","j","alike"] ["kinds","answers"] (qJ (top 21)):=⟨rfl,rfl,rfl,by decide +kernel,rfl,by decide +kernel,by decide +kernel⟩
def EL:SV:=
  (qH (sJ (ivL (be 1)) (rM 3 (qQ (qD 2) (qQ (qD 3) (qQ (qD 4) sd))))
   (sIf (vT (v2 fNe (v2 fEq (v2 fIx (be 0) (be 2)) (v2 fIx (be 0) (be 3))) (be 4)))
    (qO (vC (.bl false)))
    sNx))
  (qO (vC (.bl true))))
def wd:C0:=rD 5 2 (EL)
theorem O5{k:Nat}(F:Fun K "fits" "fits" (top 21) f fd):FnOk P w K mg base CX0 (k+1) f fd ["kinds","answers"] (spM K (wd)):=by
 unfold wd EL;exact rY F A9 fun cdv A outer s H E hr=>
  (qK (tq XA rfl (su (qB 1)) (uh (n:=3) (rQ (qR (i:=2) A9.nd rfl (Or.inl rfl)) (rQ (qR (i:=3) A9.nd rfl (Or.inl rfl)) (rQ (qR (i:=4) A9.nd rfl (Or.inl rfl)) uk))))
   (qM (rO (v7 hr (wC hr (si (qB 0) (qB 2)) (si (qB 0) (qB 3))) (qB 4))
    (qM (qU sP))
    rK)))
  (qM (qU sP)))
theorem He:FnScope ["sort","most","used"] ["sort","most"] (qJ (top 9)):=⟨rfl,rfl,rfl,by decide +kernel,rfl,by decide +kernel,by decide +kernel⟩
theorem OF:((["number"]:List Str)++([("sort",0)]:List (Str×Nat)).map (·.1)).Nodup:=by decide +kernel
def E1:SV:=
  (qH (qS (v2 rS (v2 x9 (be 0) (v1 uY (vC (.int 1)))) (vC (.int 1))) (qD 2))
  (qO (rF ["number"] [("sort",0)] (z0 (v2 xH (v2 rS (be 2) (vC (.int 1))) (be 1))) (qD 0) qX (v2 rS (be 1) (vL rL (qC (be 0) qG))))))
def ub:C0:=rD 3 2 (E1)
theorem Ol{k:Nat}(F:Fun K "one_thing_more" "one_thing_more" (top 9) f fd) (vN:mg "max"=none) (yB:mg "min"=none) (rR:mg "range"=none):FnOk P w K mg base CX0 (k+1) f fd ["sort","most"] (spM K (ub)):=by
 unfold ub E1;exact rY F He fun cdv A outer s H E hr=>
  (qK (rG (i:=2) He.nd rfl (Or.inl rfl) (tw (WS vN (qB 0) (Cj qP)) qP))
  (qM (qU (tF (own:=["number"]) (cap:=[("sort",0)]) (sB rfl) (U6 rR (Mw yB (tw (qB 2) qP) (qB 1)))
   (fun _ _ _ _ _=>(qR (i:=0) OF rfl (Or.inl rfl))) (fun _ _ _ _ _=>tV)
   (fun _ _ _ _ _=>(tw (qB 1) (sC (qF (qB 0) qI))))))))
theorem AK:FnScope ["many","most","sorts","step"] ["many","most"] (qJ (top 10)):=⟨rfl,rfl,rfl,by decide +kernel,rfl,by decide +kernel,by decide +kernel⟩
theorem MB:((["sort","longer"]:List Str)++([("most",1)]:List (Str×Nat)).map (·.1)).Nodup:=by decide +kernel
def Ec(xN:C0)(xw:D)(tS:Addr):SX:=
  (sR (t6 (upB (bOr (vT (v2 fLt (be 0) (vC (.int 0)))) (vT (v2 fGt (be 0) (vC xw)))))
   (vP tS ((vC xw)::((be 0)::[])))
   (upS sNx))
  (upS (qH (qS (vL rL (qC (vL rL qG) qG)) (qD 2))
  (qH (sJ (ivR (be 0)) (qD 3)
   (qS (vW ["sort","longer"] [("most",1)] (ivL (be 2)) (qD 0) qX (ivL (vL xN (qC (be 0) (qC (be 2) qG)))) (qD 1) qX (be 1)) (qD 2)))
  (qO (be 2))))))
def w9(xN:C0)(xw:D)(tS:Addr):FX:=sX 4 2 (Ec xN xw tS)
theorem zfk{xN:C0}{IK k:Nat}{xw:D}{v_MOST_THINGS:V}{u_MOST_THINGS:Value}{tS:Addr}(F:Fun K "all_sorts" "all_sorts" (top 10) f fd) (EZ:Df P w K mg base IK "one_thing_more" ["sort","most"] (spM K xN)) (Re:IK<=k) (wz:mg "MOST_THINGS"=some u_MOST_THINGS/\RelV v_MOST_THINGS u_MOST_THINGS/\∀W,DR K W xw v_MOST_THINGS) (vY:mg "TooMany"=some (.ref tS)/\uC K tS) (rR:mg "range"=none):FnOk P w K mg base (CXr P w) (k+1) f fd ["many","most"] (spX K (w9 xN xw tS)):=by
 unfold w9 Ec;exact vF F AK fun cdv A outer s H E hr=>
  (vZ (xg (xG (PW.pt (wI (DQ (qB 0) qP) (xx (zr (qB 0) (ww wz.1 wz.2.1 wz.2.2))))))
   (t8 (x5 (yf (tY (by decide) (uM (ww wz.1 wz.2.1 wz.2.2) (tY (by decide) (uM (qB 0) pj0))))) vY.1 vY.2))
   xc)
  (EU (qK (rG (i:=2) AK.nd rfl (Or.inl rfl) (sC (qF (sC qI) qI)))
  (qK (tq XA rfl (we rR (qB 0)) (qR (i:=3) AK.nd rfl (Or.inl rfl))
   (qM (Vj (i:=2) AK.nd rfl rfl (own:=["sort","longer"]) (cap:=[("most",1)]) (sB rfl) (su (qB 2))
   (fun _ _ _ _ _=>(qR (i:=0) MB rfl (Or.inl rfl))) (fun _ _ _ _ _=>tV)
   (fun _ _ _ _ _=>(su (rH EZ (hr.mono Re) (qF (qB 0) (qF (qB 2) qI))))) (fun _ _ _ _ _=>(qR (i:=1) MB rfl (Or.inl rfl))) (fun _ _ _ _ _=>tV)
   (fun _ _ _ _ _=>(qB 1)))))
  (qM (qU (qB 2)))))))
theorem Rh:FnScope ["many","answers"] ["many","answers"] (qJ (top 22)):=⟨rfl,rfl,rfl,by decide +kernel,rfl,by decide +kernel,by decide +kernel⟩
theorem UT:((["sort"]:List Str)++([("answers",1)]:List (Str×Nat)).map (·.1)).Nodup:=by decide +kernel
def Eg(yv:C0)(xO:FX)(ug:FX):SX:=
  (sR (xl (vLX xO (upL (qC (be 0) (qC (be 1) qG)))))
  (wb (xh ["sort"] [("answers",1)] (vLX ug (upL (qC (be 0) (qC (be 0) qG)))) (qD 0) (rC (vL yv (qC (be 0) (qC (be 1) qG)))) (be 0))))
def B9(yv:C0)(xO:FX)(ug:FX):FX:=sX 2 2 (Eg yv xO ug)
theorem TV{yv:C0}{xO ug:FX}{Hi G8 z5 k:Nat}(F:Fun K "sorts_that_fit" "sorts_that_fit" (top 22) f fd) (Cf:Df P w K mg base Hi "fits" ["kinds","answers"] (spM K yv)) (Tb:Hi<=k) (Fa:DfX P w K mg base G8 "check_right" ["many","answers"] (spX K xO)) (WG:G8<=k) (yx:DfX P w K mg base z5 "all_sorts" ["many","most"] (spX K ug)) (Cc:z5<=k):FnOk P w K mg base (CXr P w) (k+1) f fd ["many","answers"] (spX K (B9 yv xO ug)):=by
 unfold B9 Eg;exact vF F Rh fun cdv A outer s H E hr=>
  (vZ (Dh (wA Fa (hr.mono WG) (vD (qF (qB 0) (qF (qB 1) qI)))))
  (t8 (Ci (JI (own:=["sort"]) (cap:=[("answers",1)]) (sB rfl) (wA yx (hr.mono Cc) (vD (qF (qB 0) (qF (qB 0) qI))))
   (fun _ _ _ _ _=>(qR (i:=0) UT rfl (Or.inl rfl))) (fun _ _ _ _ _=>(vo (sI (rH Cf (hr.mono Tb) (qF (qB 0) (qF (qB 1) qI))))))
   (fun _ _ _ _ _=>(qB 0))))))
theorem BI:FnScope ["kinds","by_kind","thing","kind"] ["kinds"] (qJ (top 7)):=⟨rfl,rfl,rfl,by decide +kernel,rfl,by decide +kernel,by decide +kernel⟩
def CD:SV:=
  (qH (qS yW (qD 1))
  (qH (sJ (Em (be 0)) (rM 2 (qQ (qD 2) (qQ (qD 3) sd)))
   (t7 (uj uu (uv (be 1) (be 3) (vL ur qG)) (be 2))))
  (qO (v1 z8 (be 1)))))
def wn:C0:=rD 4 1 (CD)
theorem To{k:Nat}(F:Fun K "alike_things" "alike_things" (top 7) f fd) (Dk:mg "enumerate"=none) (ua:mg "list"=none):FnOk P w K mg base CX0 (k+1) f fd ["kinds"] (spM K (wn)):=by
 unfold wn CD;exact rY F BI fun cdv A outer s H E hr=>
  (qK (rG (i:=1) BI.nd rfl (Or.inl rfl) LK)
  (qK (tq XA rfl (WC Dk (qB 0)) (uh (n:=2) (rQ (qR (i:=2) BI.nd rfl (Or.inl rfl)) (rQ (qR (i:=3) BI.nd rfl (Or.inl rfl)) uk)))
   (qM (wQ (EG (DB (qB 1) (qB 3) (z9 qI)) (qB 2)))))
  (qM (qU (NQ ua (qB 1))))))
theorem IU:FnScope ["kinds","things"] ["kinds"] (qJ (top 8)):=⟨rfl,rfl,rfl,by decide +kernel,rfl,by decide +kernel,by decide +kernel⟩
def BB(yq:C0):SV:=
  (qH (sJ (ivL (vL yq (qC (be 0) qG))) (qD 1)
   (sIf (vT (v2 fGt (v2 tZ (vC (.int 2)) (v1 rE (be 1))) (v1 rE (be 0))))
    (qO (be 1))
    sNx))
  (qO (vL rL qG)))
def y4(yq:C0):C0:=rD 2 1 (BB yq)
theorem Os{yq:C0}{K1 k:Nat}(F:Fun K "more_than_half" "more_than_half" (top 8) f fd) (Fb:Df P w K mg base K1 "alike_things" ["kinds"] (spM K yq)) (RC:K1<=k) (rV:mg "len"=none):FnOk P w K mg base CX0 (k+1) f fd ["kinds"] (spM K (y4 yq)):=by
 unfold y4 BB;exact rY F IU fun cdv A outer s H E hr=>
  (qK (tq XA rfl (su (rH Fb (hr.mono RC) (qF (qB 0) qI))) (qR (i:=1) IU.nd rfl (Or.inl rfl))
   (qM (rO (zr (yz qP (ul rV (qB 1))) (ul rV (qB 0)))
    (qM (qU (qB 1)))
    rK)))
  (qM (qU (sC qI))))
theorem Mz:FnScope ["kinds","things"] ["kinds"] (qJ (top 13)):=⟨rfl,rfl,rfl,by decide +kernel,rfl,by decide +kernel,by decide +kernel⟩
theorem N7:((["thing"]:List Str)++([]:List (Str×Nat)).map (·.1)).Nodup:=by decide +kernel
def Fj(yb:C0):SV:=
  (qH (qS (vL yb (qC (be 0) qG)) (qD 1))
  (qO (vIf (rC (be 1)) (rF ["thing"] [] (ivL (be 1)) (qD 0) qX (vL rZ (qC (vC (.str "one")) (qC (be 0) qG)))) (vL rL (qC (vL rZ (qC (vC (.str "none")) qG)) qG)))))
def Ap(yb:C0):C0:=rD 2 1 (Fj yb)
theorem V6{yb:C0}{Kv k:Nat}(F:Fun K "half_ends" "half_ends" (top 13) f fd) (Cn:Df P w K mg base Kv "more_than_half" ["kinds"] (spM K yb)) (PX:Kv<=k):FnOk P w K mg base CX0 (k+1) f fd ["kinds"] (spM K (Ap yb)):=by
 unfold Ap Fj;exact rY F Mz fun cdv A outer s H E hr=>
  (qK (rG (i:=1) Mz.nd rfl (Or.inl rfl) (rH Cn (hr.mono PX) (qF (qB 0) qI)))
  (qM (qU (DG (sI (qB 1)) (tF (own:=["thing"]) (cap:=[]) (sB rfl) (su (qB 1))
   (fun _ _ _ _ _=>(qR (i:=0) N7 rfl (Or.inl rfl))) (fun _ _ _ _ _=>tV)
   (fun _ _ _ _ _=>(tp (qF AS (qF (qB 0) qI))))) (sC (qF (tp (qF AS qI)) qI))))))
theorem Gw:FnScope ["ends","end"] ["ends"] (qJ (top 14)):=⟨rfl,rfl,rfl,by decide +kernel,rfl,by decide +kernel,by decide +kernel⟩
theorem NC:((["others"]:List Str)++([("end",1)]:List (Str×Nat)).map (·.1)).Nodup:=by decide +kernel
def AG(sO:D):SV:=
  (qH (sJ (ivL (v2 fIx (be 0) (vC (.int 0)))) (qD 1)
   (sIf (rC (v1 vE (rF ["others"] [("end",1)] (ivL (be 0)) (qD 0) qX (v2 (vp false) (be 1) (be 0)))))
    (qO (be 1))
    sNx))
  (qO (vC sO)))
def uU(sO:D):C0:=rD 2 1 (AG sO)
theorem zdz{k:Nat}{sO:D}{v_OPEN:V}{u_OPEN:Value}(F:Fun K "common_end" "common_end" (top 14) f fd) (tU:mg "OPEN"=some u_OPEN/\RelV v_OPEN u_OPEN/\∀W,DR K W sO v_OPEN) (yG:mg "all"=none):FnOk P w K mg base CX0 (k+1) f fd ["ends"] (spM K (uU sO)):=by
 unfold uU AG;exact rY F Gw fun cdv A outer s H E hr=>
  (qK (tq XA rfl (su (si (qB 0) qP)) (qR (i:=1) Gw.nd rfl (Or.inr rfl))
   (qM (rO (sI (JS yG (tF (own:=["others"]) (cap:=[("end",1)]) (sB rfl) (su (qB 0))
   (fun _ _ _ _ _=>(qR (i:=0) NC rfl (Or.inl rfl))) (fun _ _ _ _ _=>tV)
   (fun _ _ _ _ _=>(WX hr (qB 1) (qB 0))))))
    (qM (qU (qB 1)))
    rK)))
  (qM (qU (ww tU.1 tU.2.1 tU.2.2))))
theorem U1:FnScope ["many","answers"] ["many","answers"] (qJ (top 23)):=⟨rfl,rfl,rfl,by decide +kernel,rfl,by decide +kernel,by decide +kernel⟩
theorem RY:((["sort"]:List Str)++([]:List (Str×Nat)).map (·.1)).Nodup:=by decide +kernel
def Dr(uo:C0)(um:C0)(yO:FX):SX:=
  (wb (vLX (upF uo) (As (xh ["sort"] [] (vLX yO (upL (qC (be 0) (qC (be 1) qG)))) (qD 0) qX (vL um (qC (be 0) qG))) (upL qG))))
def Fg(uo:C0)(um:C0)(yO:FX):FX:=sX 2 2 (Dr uo um yO)
theorem T1{uo um:C0}{yO:FX}{zL yZ GG k:Nat}(F:Fun K "tells" "tells" (top 23) f fd) (x8:Df P w K mg base zL "common_end" ["ends"] (spM K uo)) (C9:zL<=k) (xM:Df P w K mg base yZ "half_ends" ["kinds"] (spM K um)) (Co:yZ<=k) (D5:DfX P w K mg base GG "sorts_that_fit" ["many","answers"] (spX K yO)) (UN:GG<=k):FnOk P w K mg base (CXr P w) (k+1) f fd ["many","answers"] (spX K (Fg uo um yO)):=by
 unfold Fg Dr;exact vF F U1 fun cdv A outer s H E hr=>
  (t8 (Ci (Q6 x8 (hr.mono C9) (Od (JI (own:=["sort"]) (cap:=[]) (sB rfl) (wA D5 (hr.mono UN) (vD (qF (qB 0) (qF (qB 1) qI))))
   (fun _ _ _ _ _=>(qR (i:=0) RY rfl (Or.inl rfl))) (fun _ _ _ _ _=>tV)
   (fun _ _ _ _ _=>(rH xM (hr.mono Co) (qF (qB 0) qI)))) (vD qI)))))
theorem NG:FnScope ["many"] ["many"] (qJ (top 25)):=⟨rfl,rfl,rfl,by decide +kernel,rfl,by decide +kernel,by decide +kernel⟩
theorem IH:((["i","j"]:List Str)++([("many",0)]:List (Str×Nat)).map (·.1)).Nodup:=by decide +kernel
def Dl:SV:=
  (qO (vW ["i","j"] [("many",0)] (ivR (be 0)) (qD 0) qX (wO (v2 rS (be 0) (vC (.int 1))) (be 2)) (qD 1) qX (vL rZ (qC (be 0) (qC (be 1) qG)))))
def xa:C0:=rD 1 1 (Dl)
theorem Q9{k:Nat}(F:Fun K "pairs_of" "pairs_of" (top 25) f fd) (rR:mg "range"=none):FnOk P w K mg base CX0 (k+1) f fd ["many"] (spM K (xa)):=by
 unfold xa Dl;exact rY F NG fun cdv A outer s H E hr=>
  (qM (qU (P4 (own:=["i","j"]) (cap:=[("many",0)]) (sB rfl) (we rR (qB 0))
   (fun _ _ _ _ _=>(qR (i:=0) IH rfl (Or.inl rfl))) (fun _ _ _ _ _=>tV)
   (fun _ _ _ _ _=>(GY rR (tw (qB 0) qP) (qB 2))) (fun _ _ _ _ _=>(qR (i:=1) IH rfl (Or.inl rfl))) (fun _ _ _ _ _=>tV)
   (fun _ _ _ _ _=>(tp (qF (qB 0) (qF (qB 1) qI)))))))
theorem SY:FnScope ["many","least","greatest"] ["many","least","greatest"] (qJ (top 27)):=⟨rfl,rfl,rfl,by decide +kernel,rfl,by decide +kernel,by decide +kernel⟩
def D7(tm:Addr)(tS:Addr):SX:=
  (sR (t6 (upB (vT (v2 fLt (be 0) (be 1))))
   (vP tm ((be 1)::((be 0)::[])))
   (upS sNx))
  (t6 (upB (vT (v2 fGt (be 0) (be 2))))
   (vP tS ((be 2)::((be 0)::[])))
   (upS sNx)))
def xk(tm:Addr)(tS:Addr):FX:=sX 3 3 (D7 tm tS)
theorem Wq{k:Nat}{tm:Addr}{tS:Addr}(F:Fun K "check_many" "check_many" (top 27) f fd) (uB:mg "NoThing"=some (.ref tm)/\uC K tm) (vY:mg "TooMany"=some (.ref tS)/\uC K tS):FnOk P w K mg base (CXr P w) (k+1) f fd ["many","least","greatest"] (spX K (xk tm tS)):=by
 unfold xk D7;exact vF F SY fun cdv A outer s H E hr=>
  (vZ (xg (xG (DQ (qB 0) (qB 1)))
   (t8 (x5 (yf (tY (by decide) (uM (qB 1) (tY (by decide) (uM (qB 0) pj0))))) uB.1 uB.2))
   xc)
  (t8 (xg (xG (zr (qB 0) (qB 2)))
   (t8 (x5 (yf (tY (by decide) (uM (qB 2) (tY (by decide) (uM (qB 0) pj0))))) vY.1 vY.2))
   xc)))
theorem OB:FnScope ["self","many","sorts","ends"] ["self","many","sorts","ends"] (qJ (sq (top 29) 0)):=⟨rfl,rfl,rfl,by decide +kernel,rfl,by decide +kernel,by decide +kernel⟩
def E5(uc:C0)(qW:Addr):SV:=
  (qH (yC qW "pairs" (be 0) (vL uc (qC (be 1) qG)))
  (qH (yC qW "sorts" (be 0) (be 2))
  (qH (yC qW "ends" (be 0) (be 3))
  (yC qW "searched" (be 0) D9))))
def BE(uc:C0)(qW:Addr):C0:=rD 4 4 (E5 uc qW)
theorem V0{uc:C0}{zf k:Nat}{qW:Addr}(F:Fun K "__init__" "Search.__init__" (sq (top 29) 0) f fd) (xL:Df P w K mg base zf "pairs_of" ["many"] (spM K uc)) (D2:zf<=k) (xQ:FldC K qW "pairs") (vR:FldC K qW "sorts") (xE:FldC K qW "ends") (wu:FldC K qW "searched"):FnOk P w K mg base CX0 (k+1) f fd ["self","many","sorts","ends"] (spM K (BE uc qW)):=by
 unfold BE E5;exact rY F OB fun cdv A outer s H E hr=>
  (qK (Ba xQ (qB 0) (rH xL (hr.mono D2) (qF (qB 1) qI)))
  (qK (Ba vR (qB 0) (qB 2))
  (qK (Ba xE (qB 0) (qB 3))
  (qM (Ba wu (qB 0) P3)))))
theorem zw:FnScope ["self","i","j","left","asks","alike","unlike","if_alike","if_unlike"] ["self","i","j","left","asks"] (qJ (sq (top 29) 3)):=⟨rfl,rfl,rfl,by decide +kernel,rfl,by decide +kernel,by decide +kernel⟩
theorem Na:((["number"]:List Str)++([("self",0),("i",1),("j",2)]:List (Str×Nat)).map (·.1)).Nodup:=by decide +kernel
theorem UY:((["number"]:List Str)++([("self",0),("i",1),("j",2)]:List (Str×Nat)).map (·.1)).Nodup:=by decide +kernel
def C4(tO:C0)(qW:Addr):SV:=
  (qH (qS (v1 AN (rF ["number"] [("self",0),("i",1),("j",2)] (ivT (be 3)) (qD 0) (vT (v2 fEq (v2 fIx (v2 fIx (v1 (tf qW "sorts") (be 1)) (be 0)) (be 2)) (v2 fIx (v2 fIx (v1 (tf qW "sorts") (be 1)) (be 0)) (be 3)))) (be 0))) (qD 5))
  (qH (qS (v1 AN (rF ["number"] [("self",0),("i",1),("j",2)] (ivT (be 3)) (qD 0) (vT (v2 fNe (v2 fIx (v2 fIx (v1 (tf qW "sorts") (be 1)) (be 0)) (be 2)) (v2 fIx (v2 fIx (v1 (tf qW "sorts") (be 1)) (be 0)) (be 3)))) (be 0))) (qD 6))
  (qH (sIf (bOr (sL (rC (be 5))) (sL (rC (be 6))))
   (qO (vC .non))
   sNx)
  (qH (qS (vt qW "tree_within" tO (be 0) (qC (be 5) (qC (v2 u7 (be 4) (vC (.int 1))) qG))) (qD 7))
  (qH (sIf (vT (v2 uL (be 7) (vC .non)))
   (qO (vC .non))
   sNx)
  (qH (qS (vt qW "tree_within" tO (be 0) (qC (be 6) (qC (v2 u7 (be 4) (vC (.int 1))) qG))) (qD 8))
  (qH (sIf (vT (v2 uL (be 8) (vC .non)))
   (qO (vC .non))
   sNx)
  (qO (vL rZ (qC (vC (.str "ask")) (qC (be 1) (qC (be 2) (qC (be 7) (qC (be 8) qG))))))))))))))
def xF(tO:C0)(qW:Addr):C0:=rD 9 5 (C4 tO qW)
theorem Uu{tO:C0}{zj k:Nat}{qW:Addr}(F:Fun K "tree_asking" "Search.tree_asking" (sq (top 29) 3) f fd) (xj:MtC P w K mg base CX0 zj qW "tree_within" ["self","left","asks"] (spM K tO)) (zP:zj<=k) (vR:FldC K qW "sorts") (sN:mg "tuple"=none):FnOk P w K mg base CX0 (k+1) f fd ["self","i","j","left","asks"] (spM K (xF tO qW)):=by
 unfold xF C4;exact rY F zw fun cdv A outer s H E hr=>
  (qK (rG (i:=5) zw.nd rfl (Or.inl rfl) (Kz sN (tF (own:=["number"]) (cap:=[("self",0),("i",1),("j",2)]) (sB rfl) (Ak (qB 3))
   (fun _ _ _ _ _=>(qR (i:=0) Na rfl (Or.inl rfl))) (fun _ _ _ _ _=>(vo (uD hr (si (si (vI vR (qB 1)) (qB 0)) (qB 2)) (si (si (vI vR (qB 1)) (qB 0)) (qB 3)))))
   (fun _ _ _ _ _=>(qB 0)))))
  (qK (rG (i:=6) zw.nd rfl (Or.inl rfl) (Kz sN (tF (own:=["number"]) (cap:=[("self",0),("i",1),("j",2)]) (sB rfl) (Ak (qB 3))
   (fun _ _ _ _ _=>(qR (i:=0) UY rfl (Or.inl rfl))) (fun _ _ _ _ _=>(vo (v7 hr (si (si (vI vR (qB 1)) (qB 0)) (qB 2)) (si (si (vI vR (qB 1)) (qB 0)) (qB 3)))))
   (fun _ _ _ _ _=>(qB 0)))))
  (qK (rO (PW.pt (wI (tR (sI (qB 5))) (xx (tR (sI (qB 6))))))
   (qM (qU tN))
   rK)
  (qK (rG (i:=7) zw.nd rfl (Or.inl rfl) (xI xj (hr.mono zP) (qB 0) (qF (qB 5) (qF (v8 (qB 4) qP) qI))))
  (qK (rO (Ar (qB 7) tN)
   (qM (qU tN))
   rK)
  (qK (rG (i:=8) zw.nd rfl (Or.inl rfl) (xI xj (hr.mono zP) (qB 0) (qF (qB 6) (qF (v8 (qB 4) qP) qI))))
  (qK (rO (Ar (qB 8) tN)
   (qM (qU tN))
   rK)
  (qM (qU (tp (qF AS (qF (qB 1) (qF (qB 2) (qF (qB 7) (qF (qB 8) qI)))))))))))))))
theorem zW:FnScope ["self","left","asks","end","i","j","tree"] ["self","left","asks"] (qJ (sq (top 29) 2)):=⟨rfl,rfl,rfl,by decide +kernel,rfl,by decide +kernel,by decide +kernel⟩
theorem O2:((["number"]:List Str)++([("self",0)]:List (Str×Nat)).map (·.1)).Nodup:=by decide +kernel
def DH(uo:C0)(yA:C0)(sO:D)(qW:Addr):SV:=
  (qH (qS (vL uo (qC (rF ["number"] [("self",0)] (ivT (be 1)) (qD 0) qX (v2 fIx (v1 (tf qW "ends") (be 1)) (be 0))) qG)) (qD 3))
  (qH (sIf (vT (v2 fNe (be 3) (vC sO)))
   (qO (be 3))
   sNx)
  (qH (sIf (vT (v2 fEq (be 2) (vC (.int 0))))
   (qO (vC .non))
   sNx)
  (qH (sJ (ivL (v1 (tf qW "pairs") (be 0))) (rM 2 (qQ (qD 4) (qQ (qD 5) sd)))
   (qH (qS (vt qW "tree_asking" yA (be 0) (qC (be 4) (qC (be 5) (qC (be 1) (qC (be 2) qG))))) (qD 6))
   (sIf (vT (v2 vM (be 6) (vC .non)))
    (qO (be 6))
    sNx)))
  (qO (vC .non))))))
def BH(uo:C0)(yA:C0)(sO:D)(qW:Addr):C0:=rD 7 3 (DH uo yA sO qW)
theorem Nz{uo yA:C0}{zL FF k:Nat}{sO:D}{v_OPEN:V}{u_OPEN:Value}{qW:Addr}(F:Fun K "new_tree" "Search.new_tree" (sq (top 29) 2) f fd) (x8:Df P w K mg base zL "common_end" ["ends"] (spM K uo)) (C9:zL<=k) (Dv:MtC P w K mg base CX0 FF qW "tree_asking" ["self","i","j","left","asks"] (spM K yA)) (Pp:FF<=k) (xE:FldC K qW "ends") (xQ:FldC K qW "pairs") (tU:mg "OPEN"=some u_OPEN/\RelV v_OPEN u_OPEN/\∀W,DR K W sO v_OPEN):FnOk P w K mg base CX0 (k+1) f fd ["self","left","asks"] (spM K (BH uo yA sO qW)):=by
 unfold BH DH;exact rY F zW fun cdv A outer s H E hr=>
  (qK (rG (i:=3) zW.nd rfl (Or.inl rfl) (rH x8 (hr.mono C9) (qF (tF (own:=["number"]) (cap:=[("self",0)]) (sB rfl) (Ak (qB 1))
   (fun _ _ _ _ _=>(qR (i:=0) O2 rfl (Or.inl rfl))) (fun _ _ _ _ _=>tV)
   (fun _ _ _ _ _=>(si (vI xE (qB 1)) (qB 0)))) qI)))
  (qK (rO (v7 hr (qB 3) (ww tU.1 tU.2.1 tU.2.2))
   (qM (qU (qB 3)))
   rK)
  (qK (rO (uD hr (qB 2) qP)
   (qM (qU tN))
   rK)
  (qK (tq XA rfl (su (vI xQ (qB 0))) (uh (n:=2) (rQ (qR (i:=4) zW.nd rfl (Or.inl rfl)) (rQ (qR (i:=5) zW.nd rfl (Or.inl rfl)) uk)))
   (qK (rG (i:=6) zW.nd rfl (Or.inl rfl) (xI Dv (hr.mono Pp) (qB 0) (qF (qB 4) (qF (qB 5) (qF (qB 1) (qF (qB 2) qI))))))
   (qM (rO (II (qB 6) tN)
    (qM (qU (qB 6)))
    rK))))
  (qM (qU tN))))))
theorem Uw:FnScope ["self","left","asks"] ["self","left","asks"] (qJ (sq (top 29) 1)):=⟨rfl,rfl,rfl,by decide +kernel,rfl,by decide +kernel,by decide +kernel⟩
def Cb(xZ:C0)(qW:Addr):SV:=
  (qH (sIf (vT (v2 (yR true) (vL rZ (qC (be 1) (qC (be 2) qG))) (v1 (tf qW "searched") (be 0))))
   (Db (v1 (tf qW "searched") (be 0)) (vL rZ (qC (be 1) (qC (be 2) qG))) (vt qW "new_tree" xZ (be 0) (qC (be 1) (qC (be 2) qG))))
   sNx)
  (qO (v2 AJ (v1 (tf qW "searched") (be 0)) (vL rZ (qC (be 1) (qC (be 2) qG))))))
def Aj(xZ:C0)(qW:Addr):C0:=rD 3 3 (Cb xZ qW)
theorem z7f{xZ:C0}{HB k:Nat}{qW:Addr}(F:Fun K "tree_within" "Search.tree_within" (sq (top 29) 1) f fd) (B4:MtC P w K mg base CX0 HB qW "new_tree" ["self","left","asks"] (spM K xZ)) (v2C:HB<=k) (wu:FldC K qW "searched"):FnOk P w K mg base CX0 (k+1) f fd ["self","left","asks"] (spM K (Aj xZ qW)):=by
 unfold Aj Cb;exact rY F Uw fun cdv A outer s H E hr=>
  (qK (rO (U5 hr (tp (qF (qB 1) (qF (qB 2) qI))) (vI wu (qB 0)))
   (qM (UE hr (vI wu (qB 0)) (tp (qF (qB 1) (qF (qB 2) qI))) (xI B4 (hr.mono v2C) (qB 0) (qF (qB 1) (qF (qB 2) qI)))))
   rK)
  (qM (qU (NB hr (vI wu (qB 0)) (tp (qF (qB 1) (qF (qB 2) qI)))))))
theorem zD:FnScope ["many","sorts","ends","search","every","asks"] ["many","sorts","ends"] (qJ (top 30)):=⟨rfl,rfl,rfl,by decide +kernel,rfl,by decide +kernel,by decide +kernel⟩
def Eu(yg:C0)(tO:C0)(qW:Addr):SV:=
  (qH (qS (Bs qW yg (qC (be 0) (qC (be 1) (qC (be 2) qG)))) (qD 3))
  (qH (qS (v1 za (v1 rE (be 1))) (qD 4))
  (qH (qS (vC (.int 0)) (qD 5))
  (qH (wl (vT (v2 uL (vt qW "tree_within" tO (be 3) (qC (be 4) (qC (be 5) qG))) (vC .non)))
   (xY 5 CC (vC (.int 1))) 1000000)
  (qO (vL rZ (qC (be 5) (qC (vt qW "tree_within" tO (be 3) (qC (be 4) (qC (be 5) qG))) qG))))))))
def BD(yg:C0)(tO:C0)(qW:Addr):C0:=rD 6 3 (Eu yg tO qW)
theorem Wc{yg tO:C0}{Hc zj k:Nat}{qW:Addr}(F:Fun K "fewest_asks" "fewest_asks" (top 30) f fd) (BQ:MkC P w K mg base CX0 Hc qW "Search" ["self","many","sorts","ends"] (spM K yg)) (Sg:Hc+1<=k) (xj:MtC P w K mg base CX0 zj qW "tree_within" ["self","left","asks"] (spM K tO)) (zP:zj<=k) (rV:mg "len"=none) (sN:mg "tuple"=none) (rR:mg "range"=none):FnOk P w K mg base CX0 (k+1) f fd ["many","sorts","ends"] (spM K (BD yg tO qW)):=by
 unfold BD Eu;exact rY F zD fun cdv A outer s H E hr=>
  (qK (rG (i:=3) zD.nd rfl (Or.inl rfl) (Vp BQ (hr.mono Sg) (qF (qB 0) (qF (qB 1) (qF (qB 2) qI)))))
  (qK (rG (i:=4) zD.nd rfl (Or.inl rfl) (Tp sN rR (ul rV (qB 1))))
  (qK (rG (i:=5) zD.nd rfl (Or.inl rfl) qP)
  (qK (KL 1000000 XA (Ar (xI xj (hr.mono zP) (qB 3) (qF (qB 4) (qF (qB 5) qI))) tN)
   (qM (Tm (i:=5) zD.nd rfl (Or.inl rfl) qP)))
  (qM (qU (tp (qF (qB 5) (qF (xI xj (hr.mono zP) (qB 3) (qF (qB 4) (qF (qB 5) qI))) qI)))))))))
theorem FL:FnScope ["many","most","sorts"] ["many","most"] (qJ (top 33)):=⟨rfl,rfl,rfl,by decide +kernel,rfl,by decide +kernel,by decide +kernel⟩
theorem Tt:((["sort"]:List Str)++([]:List (Str×Nat)).map (·.1)).Nodup:=by decide +kernel
def CQ(um:C0)(yM:C0)(ug:FX):SX:=
  (sR (Er (vLX ug (upL (qC (be 0) (qC (be 1) qG)))) (qD 2))
  (upS (qO (vL yM (qC (be 0) (qC (be 2) (qC (rF ["sort"] [] (ivL (be 2)) (qD 0) qX (vL um (qC (be 0) qG))) qG)))))))
def A0(um:C0)(yM:C0)(ug:FX):FX:=sX 3 2 (CQ um yM ug)
theorem Oi{um yM:C0}{ug:FX}{yZ K4 z5 k:Nat}(F:Fun K "fewest_of" "fewest_of" (top 33) f fd) (xM:Df P w K mg base yZ "half_ends" ["kinds"] (spM K um)) (Co:yZ<=k) (Cp:Df P w K mg base K4 "fewest_asks" ["many","sorts","ends"] (spM K yM)) (Qn:K4<=k) (yx:DfX P w K mg base z5 "all_sorts" ["many","most"] (spX K ug)) (Cc:z5<=k):FnOk P w K mg base (CXr P w) (k+1) f fd ["many","most"] (spX K (A0 um yM ug)):=by
 unfold A0 CQ;exact vF F FL fun cdv A outer s H E hr=>
  (vZ (Vn (i:=2) FL.nd rfl (Or.inl rfl) (wA yx (hr.mono Cc) (vD (qF (qB 0) (qF (qB 1) qI)))))
  (EU (qM (qU (rH Cp (hr.mono Qn) (qF (qB 0) (qF (qB 2) (qF (tF (own:=["sort"]) (cap:=[]) (sB rfl) (su (qB 2))
   (fun _ _ _ _ _=>(qR (i:=0) Tt rfl (Or.inl rfl))) (fun _ _ _ _ _=>tV)
   (fun _ _ _ _ _=>(rH xM (hr.mono Co) (qF (qB 0) qI)))) qI))))))))
theorem OE:FnScope ["many"] ["many"] (qJ (top 34)):=⟨rfl,rfl,rfl,by decide +kernel,rfl,by decide +kernel,by decide +kernel⟩
def DK(uf:FX)(yj:FX)(xR:D):SX:=
  (sR (xl (vLX uf (upL (qC (be 0) (qC (vC (.int 1)) (qC (vC xR) qG))))))
  (wb (vLX yj (upL (qC (be 0) (qC (be 0) qG))))))
def BF(uf:FX)(yj:FX)(xR:D):FX:=sX 1 1 (DK uf yj xR)
theorem M4{uf yj:FX}{y0 Gx k:Nat}{xR:D}{v_MOST_SEARCHED:V}{u_MOST_SEARCHED:Value}(F:Fun K "fewest" "fewest" (top 34) f fd) (x4:DfX P w K mg base y0 "check_many" ["many","least","greatest"] (spX K uf)) (Dq:y0<=k) (DF:DfX P w K mg base Gx "fewest_of" ["many","most"] (spX K yj)) (Sc:Gx<=k) (zu:mg "MOST_SEARCHED"=some u_MOST_SEARCHED/\RelV v_MOST_SEARCHED u_MOST_SEARCHED/\∀W,DR K W xR v_MOST_SEARCHED):FnOk P w K mg base (CXr P w) (k+1) f fd ["many"] (spX K (BF uf yj xR)):=by
 unfold BF DK;exact vF F OE fun cdv A outer s H E hr=>
  (vZ (Dh (wA x4 (hr.mono Dq) (vD (qF (qB 0) (qF qP (qF (ww zu.1 zu.2.1 zu.2.2) qI))))))
  (t8 (Ci (wA DF (hr.mono Sc) (vD (qF (qB 0) (qF (qB 0) qI)))))))
theorem DZ:FnScope ["many","answers","asks","i","j","alike","rest"] ["many","answers","asks","i","j"] (qJ (top 38)):=⟨rfl,rfl,rfl,by decide +kernel,rfl,by decide +kernel,by decide +kernel⟩
def C3(uw:C0):SV:=
  (qH (sJ (ivT (vL rZ (qC (vC (.bl true)) (qC (vC (.bl false)) qG)))) (qD 5)
   (qH (qS (vL uw (qC (be 0) (qC (v2 rS (be 1) (vL rL (qC (vL rZ (qC (be 3) (qC (be 4) (qC (be 5) qG)))) qG))) (qC (v2 u7 (be 2) (vC (.int 1))) qG)))) (qD 6))
   (sIf (vT (v2 vM (be 6) (vC .non)))
    (qO (vL rZ (qC (be 5) (qC (be 6) qG))))
    sNx)))
  (qO (vC .non)))
def xz(uw:C0):C0:=rD 7 5 (C3 uw)
theorem Rc{uw:C0}{zU k:Nat}(F:Fun K "row_behind" "row_behind" (top 38) f fd) (yX:Df P w K mg base zU "paper_behind" ["many","answers","asks"] (spM K uw)) (Du:zU<=k):FnOk P w K mg base CX0 (k+1) f fd ["many","answers","asks","i","j"] (spM K (xz uw)):=by
 unfold xz C3;exact rY F DZ fun cdv A outer s H E hr=>
  (qK (tq XA rfl (Ak (tp (qF sP (qF sP qI)))) (qR (i:=5) DZ.nd rfl (Or.inl rfl))
   (qK (rG (i:=6) DZ.nd rfl (Or.inl rfl) (rH yX (hr.mono Du) (qF (qB 0) (qF (tw (qB 1) (sC (qF (tp (qF (qB 3) (qF (qB 4) (qF (qB 5) qI)))) qI))) (qF (v8 (qB 2) qP) qI)))))
   (qM (rO (II (qB 6) tN)
    (qM (qU (tp (qF (qB 5) (qF (qB 6) qI)))))
    rK))))
  (qM (qU tN)))
theorem y7:FnScope ["many","answers","asks","paper","i","j","row"] ["many","answers","asks"] (qJ (top 39)):=⟨rfl,rfl,rfl,by decide +kernel,rfl,by decide +kernel,by decide +kernel⟩
def z7(ud:C0)(xB:C0)(uc:C0)(yy:C0)(sO:D):SV:=
  (qH (sIf (sL (rC (vL ud (qC (be 0) (qC (be 1) qG)))))
   (qO (vC .non))
   sNx)
  (qH (sIf (vT (v2 fEq (be 2) (vC (.int 0))))
   (qO (vIf (vT (v2 fEq (vL xB (qC (be 0) (qC (be 1) qG))) (vC sO))) (vL rZ qG) (vC .non)))
   sNx)
  (qH (qS (vL ur qG) (qD 3))
  (qH (sJ (ivL (vL uc (qC (be 0) qG))) (rM 2 (qQ (qD 4) (qQ (qD 5) sd)))
   (qH (qS (vL yy (qC (be 0) (qC (be 1) (qC (be 2) (qC (be 4) (qC (be 5) qG)))))) (qD 6))
   (qH (sIf (vT (v2 uL (be 6) (vC .non)))
    (qO (vC .non))
    sNx)
   (t7 (uj uu (be 3) (be 6))))))
  (qO (be 3))))))
def zX(ud:C0)(xB:C0)(uc:C0)(yy:C0)(sO:D):C0:=rD 7 3 (z7 ud xB uc yy sO)
theorem OG{ud xB uc yy:C0}{zI J4 zf Hm k:Nat}{sO:D}{v_OPEN:V}{u_OPEN:Value}(F:Fun K "paper_behind" "paper_behind" (top 39) f fd) (xD:Df P w K mg base zI "can_be" ["many","answers"] (spM K ud)) (Cw:zI<=k) (E3:Df P w K mg base J4 "tells" ["many","answers"] (spM K xB)) (ND:J4<=k) (xL:Df P w K mg base zf "pairs_of" ["many"] (spM K uc)) (D2:zf<=k) (El:Df P w K mg base Hm "row_behind" ["many","answers","asks","i","j"] (spM K yy)) (Ud:Hm<=k) (tU:mg "OPEN"=some u_OPEN/\RelV v_OPEN u_OPEN/\∀W,DR K W sO v_OPEN):FnOk P w K mg base CX0 (k+1) f fd ["many","answers","asks"] (spM K (zX ud xB uc yy sO)):=by
 unfold zX z7;exact rY F y7 fun cdv A outer s H E hr=>
  (qK (rO (tR (sI (rH xD (hr.mono Cw) (qF (qB 0) (qF (qB 1) qI)))))
   (qM (qU tN))
   rK)
  (qK (rO (uD hr (qB 2) qP)
   (qM (qU (DG (uD hr (rH E3 (hr.mono ND) (qF (qB 0) (qF (qB 1) qI))) (ww tU.1 tU.2.1 tU.2.2)) (tp qI) tN)))
   rK)
  (qK (rG (i:=3) y7.nd rfl (Or.inl rfl) (z9 qI))
  (qK (tq XA rfl (su (rH xL (hr.mono D2) (qF (qB 0) qI))) (uh (n:=2) (rQ (qR (i:=4) y7.nd rfl (Or.inl rfl)) (rQ (qR (i:=5) y7.nd rfl (Or.inl rfl)) uk)))
   (qK (rG (i:=6) y7.nd rfl (Or.inl rfl) (rH El (hr.mono Ud) (qF (qB 0) (qF (qB 1) (qF (qB 2) (qF (qB 4) (qF (qB 5) qI)))))))
   (qK (rO (Ar (qB 6) tN)
    (qM (qU tN))
    rK)
   (qM (wQ (EG (qB 3) (qB 6)))))))
  (qM (qU (qB 3)))))))
theorem Ey:FnScope ["many","asks","tree"] ["many"] (qJ (top 40)):=⟨rfl,rfl,rfl,by decide +kernel,rfl,by decide +kernel,by decide +kernel⟩
def Cd(uf:C0)(yF:C0)(uw:C0)(xX:D)(xA:D):SV:=
  (qH (t7 (vL uf (qC (be 0) (qC (vC xA) (qC (vC xX) qG)))))
  (qH (qS (vL yF (qC (be 0) qG)) (rM 2 (qQ (qD 1) (qQ (qD 2) sd))))
  (qO (vL uw (qC (be 0) (qC (vL rL qG) (qC (v2 u7 (be 1) (vC (.int 1))) qG)))))))
def AX(uf:C0)(yF:C0)(uw:C0)(xX:D)(xA:D):C0:=rD 3 1 (Cd uf yF uw xX xA)
theorem P0{uf yF uw:C0}{y0 JE zU k:Nat}{xX:D}{v_GREATEST_THINGS:V}{u_GREATEST_THINGS:Value}{xA:D}{v_LEAST_THINGS:V}{u_LEAST_THINGS:Value}(F:Fun K "holding_paper" "holding_paper" (top 40) f fd) (x4:Df P w K mg base y0 "check_many" ["many","least","greatest"] (spM K uf)) (Dq:y0<=k) (B6:Df P w K mg base JE "fewest" ["many"] (spM K yF)) (WY:JE<=k) (yX:Df P w K mg base zU "paper_behind" ["many","answers","asks"] (spM K uw)) (Du:zU<=k) (zO:mg "GREATEST_THINGS"=some u_GREATEST_THINGS/\RelV v_GREATEST_THINGS u_GREATEST_THINGS/\∀W,DR K W xX v_GREATEST_THINGS) (zg:mg "LEAST_THINGS"=some u_LEAST_THINGS/\RelV v_LEAST_THINGS u_LEAST_THINGS/\∀W,DR K W xA v_LEAST_THINGS):FnOk P w K mg base CX0 (k+1) f fd ["many"] (spM K (AX uf yF uw xX xA)):=by
 unfold AX Cd;exact rY F Ey fun cdv A outer s H E hr=>
  (qK (wQ (rH x4 (hr.mono Dq) (qF (qB 0) (qF (ww zg.1 zg.2.1 zg.2.2) (qF (ww zO.1 zO.2.1 zO.2.2) qI)))))
  (qK (yT (rH B6 (hr.mono WY) (qF (qB 0) qI)) (uh (n:=2) (rQ (qR (i:=1) Ey.nd rfl (Or.inl rfl)) (rQ (qR (i:=2) Ey.nd rfl (Or.inl rfl)) uk))))
  (qM (qU (rH yX (hr.mono Du) (qF (qB 0) (qF (sC qI) (qF (v8 (qB 1) qP) qI))))))))
end
def dA(a:An):D:=.tup [.int (a.1:Int),.int (a.2.1:Int),.bl a.2.2]
def Ls(L:M)(d:D)(ds:List D):Prop:=rN L d=some ds/\∃c,lsC L d=some (ds,c)/\qY c L/\∀Z6,Gr L Z6->qY c Z6
def Ls.lst{L:M}{ds:List D}:Ls L (.lst ds) ds:=⟨rfl,none,rfl,trivial,fun _ _=>trivial⟩
def Ls.ref{L:M}{k:Nat}{ds:List D}(h:L[k]?=some (some (.lst ds))):Ls L (.ref k) ds:=⟨uP h,_,Ca h,h,fun _ g=>g.get h⟩
def Bp{L:M}{d:D}{ds:List D}(h:Ls L d ds):(∃k,d=.ref k/\L[k]?=some (some (.lst ds)))\/(d=.lst ds)\/d=.scr ds:=by
 obtain⟨h1,_⟩:=h;cases d with
 |lst xs=>cases h1;exact .inr (.inl rfl)
 |scr xs=>cases h1;exact .inr (.inr rfl)
 |ref k=>
  simp only[rN] at h1;split at h1
  ·rename_i xs hk;cases h1;exact .inl ⟨k,rfl,hk⟩
  ·cases h1
 |_=>cases h1
def Ls.gr{L Z6:M}{d:D}{ds:List D}(h:Ls L d ds)(g:Gr L Z6):Ls Z6 d ds:=by
 rcases Bp h with⟨k,rfl,hk⟩|rfl|rfl
 ·exact .ref (g.get hk)
 ·exact .lst
 ·exact⟨rfl,none,rfl,trivial,fun _ _=>trivial⟩
theorem forX_inv{c:Ck}{g:GV}{body:SX}(Pv:G->M->Prop):∀(its:List D) (O:G) (L:M),Pv O L->
  (∀d∈its,∀O L,Pv O L->∃ZZ Z5 ZX Z3,g d O L=some (ZZ,Z5)/\body ZZ Z5=some (.nx,ZX,Z3)/\qY c Z3/\Pv ZX Z3)->∃ZY Z6,vO c g body its O L=some (.nx,ZY,Z6)/\Pv ZY Z6
 | [],O,L,h,_=>⟨O,L,rfl,h⟩
 |d::r,O,L,h,hs=>by
  obtain⟨ZZ,Z5,ZX,Z3,h1,h2,h3,h4⟩:=hs d (by simp) O L h;obtain⟨ZY,Z6,h5,h6⟩:=forX_inv Pv r ZX Z3 h4 fun d hd=>hs d (by simp[hd]);refine⟨ZY,Z6,?_,h6⟩;simp only[vO,h1,bs,h2];rw[t9 h3,h5]
def Ok2(n:Nat)(as:List An):Prop:=∀a∈as,a.1<n/\a.2.1<n/\a.1≠a.2.1
def Ok2.inN{n:Nat}{as:List An}(h:Ok2 n as):InN n as:=fun a ha=>⟨(h a ha).1,(h a ha).2.1⟩
def VP{C:Addr}{n:Nat}{d:D}{as:List An}{L:M}(hl:Ls L d (as.map dA))(hv:Ok2 n as):yY C [.int (n:Int),d] L=some (.ok .non,L):=by
 obtain⟨h1,c,h2,h3,h4⟩:=hl;have main:=forX_inv (c:=c) (g:=(rM 3 (qQ (qD 2) (qQ (qD 3) (qQ (qD 4) sd))))) (body:=(sR (t6 (upB (sL (wZ (vT (uS fLe fLt (vC (.int 0)) (be 2) (be 0))) (vT (uS fLe fLt (vC (.int 0)) (be 3) (be 0))))))
    (vP C ((be 2)::((be 3)::((be 0)::[]))))
    (upS sNx))
   (t6 (upB (vT (v2 fEq (be 2) (be 3))))
    (vP C ((be 2)::[]))
    (upS sNx))))
  (fun O Z6=>Z6=L/\∃o2 o3 o4,O=[some (.int (n:Int)),some d,o2,o3,o4]) (as.map dA) [some (.int (n:Int)),some d,none,none,none] L ⟨rfl,_,_,_,rfl⟩ ?_
 ·obtain⟨ZY,Z6,e,rfl,o2,o3,o4,rfl⟩:=main;refine MA (ZZ:=[some (.int (n:Int)),some d,o2,o3,o4]) rfl ?_;unfold CW;show sR _ _ [some (.int (n:Int)),some d,none,none,none] Z6=_;have t:vT (v2 fLt (be 0) (vC (.int 0))) [some (.int (n:Int)),some d,none,none,none] Z6=some (false,Z6):=by
   have:¬((n:Int)<0):=by omega
   simp[fLt,fI0,this]
  rw[zE (ZZ:=[some (.int (n:Int)),some d,none,none,none]) (Z5:=Z6) ((z4 (Ao t)).trans (w6 (o:=.nx) rfl))];have hi:ivL (be 1) [some (.int (n:Int)),some d,none,none,none] Z6=some ((as.map dA,c),Z6):=by
   simp[h2]
  show(ivL (be 1) _ Z6).bind _=_;rw[hi,bs];exact e
 ·rintro x hx O Z6 ⟨rfl,o2,o3,o4,rfl⟩;obtain⟨a,ha,rfl⟩:=XE.mp hx;obtain⟨q1,q2,q3⟩:=hv a ha;refine⟨[some (.int (n:Int)),some d,some (.int (a.1:Int)),some (.int (a.2.1:Int)),some (.bl a.2.2)],Z6,[some (.int (n:Int)),some d,some (.int (a.1:Int)),some (.int (a.2.1:Int)),some (.bl a.2.2)],Z6,rfl,?_,h3,rfl,some (.int (a.1:Int)),some (.int (a.2.1:Int)),some (.bl a.2.2),rfl⟩;have t1:(sL (wZ (vT (uS fLe fLt (vC (.int 0)) (be 2) (be 0))) (vT (uS fLe fLt (vC (.int 0)) (be 3) (be 0))))) [some (.int (n:Int)),some d,some (.int (a.1:Int)),some (.int (a.2.1:Int)),some (.bl a.2.2)] Z6=some (false,Z6):=by
   have b1:(0:Int)<=(a.1:Int):=by omega
   have b2:(0:Int)<=(a.2.1:Int):=by omega
   have b3:(a.1:Int)<(n:Int):=by omega
   have b4:(a.2.1:Int)<(n:Int):=by omega
   simp[fLe,fLt,fI0,b1,b2,b3,b4]
  have t2:vT (v2 fEq (be 2) (be 3)) [some (.int (n:Int)),some d,some (.int (a.1:Int)),some (.int (a.2.1:Int)),some (.bl a.2.2)] Z6=some (false,Z6):=by
   have:¬((a.1:Int)=(a.2.1:Int)):=by omega
   simp[fEq,eqD,this]
  rw[zE (ZZ:=[some (.int (n:Int)),some d,some (.int (a.1:Int)),some (.int (a.2.1:Int)),some (.bl a.2.2)]) (Z5:=Z6) ((z4 (Ao t1)).trans (w6 (o:=.nx) rfl))];exact(z4 (Ao t2)).trans (w6 (o:=.nx) rfl)
def kvH(hs:List (Nat×Nat)):List (Key×D):=hs.map fun p=>(Sum.inl (p.1:Int),D.int (p.2:Int))
def C1(hs:List (Nat×Nat))(x:Nat):tt (kvH hs) (Sum.inl (x:Int))=(q0 hs x).map fun r=>D.int (r:Int):=by
 unfold tt q0 kvH;induction hs with
 |nil=>rfl
 |cons p r ih=>
  rw[Xn,Xp,Xp];by_cases z:p.1=x
  ·subst z;simp
  ·have z':¬((Sum.inl (p.1:Int):Key)=Sum.inl (x:Int)):=fun e=>z (by injection e with e;omega);simp only[z,z',decide_false];exact ih
def Go{kvs:List (Key×D)}{k:Key}(v:D)(h:tt kvs k=none):tM kvs k v=kvs++[(k,v)]:=by
 unfold tM;rw[if_neg];intro hc;obtain⟨kv,hm,he⟩:=Ys.mp hc;unfold tt at h;rw[Option.map_eq_none_iff,Yo] at h;exact h kv hm he
def Ml{hs:List (Nat×Nat)}{k:Nat}(v:Nat)(h:k∉hs.map (·.1)):tM (kvH hs) (Sum.inl (k:Int)) (.int (v:Int))=kvH (hs++[(k,v)]):=by
 rw[Go _ (by rw[C1,hVal_none.mpr h];rfl)];simp[kvH]
theorem Mi{o w:Nat}{n:Nat}:∀(hs done:List (Nat×Nat)) (o1 o2:Option D) (L:M),L[n]?=some (some (.dK (kvH (sr done o w))))->((done++hs).map (·.1)).Nodup->(done++hs).length<=100000->
  vc n none (rM 2 (qQ (qD 0) (qQ (qD 1) sd))) qX (be 0) (vIf (vT (v2 fEq (be 1) (be 2))) (be 3) (be 1)) ((kvH hs).map fun kv=>.tup [zF kv.1,kv.2]) [o1,o2,some (.int (o:Int)),some (.int (w:Int))] L
   =some (L.set n (some (.dK (kvH (sr (done++hs) o w)))))
 | [],done,o1,o2,L,h,_,_=>by
  simp only[kvH,List.map_nil,vc,XT];congr 1;apply List.ext_getElem?;intro j;by_cases e:j=n
  ·subst e;rw[h,tj h];rfl
  ·rw[sT e]
 |p::hs,done,o1,o2,L,h,hn,hl=>by
  have hp:p.1∉(sr done o w).map (·.1):=by
   rw[MN];rw[Yl,List.nodup_append] at hn;exact fun hm=>hn.2.2 p.1 hm p.1 (by simp) rfl
  have e1:sr done o w++[(p.1,if p.2=o then w else p.2)]=sr (done++[p]) o w:=by simp[sr]
  have hset:=tj (y:=some (Z8.dK (kvH (sr (done++[p]) o w)))) h;have ih:=Mi (n:=n) (o:=o) (w:=w) hs (done++[p]) (some (.int (p.1:Int))) (some (.int (p.2:Int))) (L.set n (some (.dK (kvH (sr (done++[p]) o w))))) hset (by simpa using hn) (by simpa using hl);have hg:rM 2 (qQ (qD 0) (qQ (qD 1) sd)) (.tup [.int (p.1:Int),.int (p.2:Int)]) [o1,o2,some (.int (o:Int)),some (.int (w:Int))] L=some ([some (.int (p.1:Int)),some (.int (p.2:Int)),some (.int (o:Int)),some (.int (w:Int))],L):=rfl;have hv:vIf (vT (v2 fEq (be 1) (be 2))) (be 3) (be 1) [some (.int (p.1:Int)),some (.int (p.2:Int)),some (.int (o:Int)),some (.int (w:Int))] L=some (.int ((if p.2=o then w else p.2:Nat):Int),L):=by
   by_cases z:p.2=o
   ·subst z;simp[fEq,eqD]
   ·have z':¬((p.2:Int)=(o:Int)):=by omega
    simp[fEq,eqD,z,z']
  have hk:be 0 [some (.int (p.1:Int)),some (.int (p.2:Int)),some (.int (o:Int)),some (.int (w:Int))] L=some (.int (p.1:Int),L):=rfl;show vc n none _ qX (be 0) _ (.tup [.int (p.1:Int),.int (p.2:Int)]::(kvH hs).map fun kv=>.tup [zF kv.1,kv.2]) _ L=_;simp only[vc,hg,bs];show(qX _ _).bind _=_;simp only[qX,bs,if_true,hk,hv,u6,sF,h];rw[t9 ⟨by simp[kvH,sr];simp at hl;omega,trivial⟩,Ml _ hp,e1];rw[ih];congr 1;rw[List.set_set,List.append_assoc];rfl
theorem QH{h o w:Nat}{hs:List (Nat×Nat)}{L:M}(hh:L[h]?=some (some (.dK (kvH hs))))(hn:hNd hs)(hl:hs.length<=100000):
  uQ [.ref h,.int (o:Int),.int (w:Int)] L=some (.ref L.length,L.set h none++[some (.dK (kvH (sr hs o w)))]):=by
 have hlen:(L.set h none).length=L.length:=Yb ..;have h0:(L.set h none++[some (Z8.dK [])])[L.length]?=some (some (.dK (kvH (sr [] o w)))):=by
  rw[XH (by omega),hlen];simp[kvH,sr]
 have e:=Mi (o:=o) (w:=w) (n:=L.length) hs [] none none (L.set h none++[some (.dK [])]) h0 (by simpa[hNd] using hn) (by simpa using hl);have hv:AW ["thing","home"] [("old",1),("new",2)] (be 0) (rM 2 (qQ (qD 0) (qQ (qD 1) sd))) qX (be 0) (vIf (vT (v2 fEq (be 1) (be 2))) (be 3) (be 1)) [some (.ref h),some (.int (o:Int)),some (.int (w:Int))] L=some (.ref L.length,L.set h none++[some (.dK (kvH (sr hs o w)))]):=by
  unfold AW;have hv0:be 0 [some (.ref h),some (.int (o:Int)),some (.int (w:Int))] L=some (.ref h,L):=rfl;rw[hv0,bs];show(sF L (.ref h)).bind _=_;simp only[sF,hh,bs];rw[t9 (by simp[kvH];omega)];have hc:rJ (["thing","home"]:List Str) [("old",1),("new",2)] [some (.ref h),some (.int (o:Int)),some (.int (w:Int))]=[none,none,some (.int (o:Int)),some (.int (w:Int))]:=rfl;rw[hc,e,bs];congr 2;have:(L.set h none++[some (Z8.dK [])]).set L.length (some (.dK (kvH (sr ([]++hs) o w))))=L.set h none++[some (.dK (kvH (sr hs o w)))]:=by
   rw[List.set_append_right _ _ (by omega),hlen];simp
  exact this
 unfold uQ Dy;rw[u9,if_pos (show [D.ref h,D.int (o:Int),D.int (w:Int)].length=3 from rfl)];show tP (qO _ [some (.ref h),some (.int (o:Int)),some (.int (w:Int))] L)=_;rw[yo,hv];rfl
structure On (s:Nat) (L Z6:M):Prop where
 len:Z6.length=L.length
 at_:∀j,j≠s->Z6[j]?=L[j]?
def On.refl{s:Nat}{L:M}:On s L L:=⟨rfl,fun _ _=>rfl⟩
def WJ{s:Nat}{L:M}{o:Option Z8}:On s L (L.set s o):=⟨by simp,fun j n=>sT n⟩
def On.trans{s:Nat}{L Z5 Z3:M}(h:On s L Z5)(g:On s Z5 Z3):On s L Z3:=⟨g.len.trans h.len,fun j n=>(g.at_ j n).trans (h.at_ j n)⟩
def On.gr{s:Nat}{L Z5 Z3:M}(g:Gr L Z5)(h:On s Z5 Z3)(hs:L.length<=s):Gr L Z3:=⟨by rw[h.len];exact g.len,fun j hj=>by rw[h.at_ j (by omega)];exact g.at_ j hj⟩
theorem GF{h x:Nat}{hs:List (Nat×Nat)}{L:M}{O:G}{ek:EV}(h0:O[1]?=some (some (.ref h)))(hk:ek O L=some (.int (x:Int),L))(hh:L[h]?=some (some (.dK (kvH hs))))(hl:hs.length<100000):
  ∃d Z6,uv (be 1) ek ek O L=some (d,Z6)/\Z6[h]?=some (some (.dK (kvH (rg hs x))))/\On h L Z6:=by
 have hv:be 1 O L=some (.ref h,L):=GX h0;have hd:sF L (.ref h)=some (kvH hs):=by simp only[sF,hh]
 have hlen:(kvH hs).length<1000000:=by simp[kvH];omega
 unfold uv;rw[hv,bs];simp only[hd,bs,hk,u6,if_pos hlen,C1];cases hx:q0 hs x with
 |some r=>
  refine⟨.int (r:Int),L,rfl,?_,.refl⟩;unfold rg;rw[hx];exact hh
 |none=>
  refine⟨.int (x:Int),L.set h (some (.dK (tM (kvH hs) (Sum.inl (x:Int)) (.int (x:Int))))),rfl,?_,WJ⟩;rw[tj hh,Ml _ (hVal_none.mp hx)];unfold rg;rw[hx];rfl
def A1{h x r:Nat}{hs:List (Nat×Nat)}{L:M}(hh:L[h]?=some (some (.dK (kvH hs))))(hx:q0 hs x=some r):tT (.ref h) (.int (x:Int)) L=some (.int (r:Int),L):=by
 unfold tT;simp only[sF,hh,bs,u6,C1,hx];rfl
abbrev A3:SV:=(qH (t7 (uv (be 1) (be 2) (be 2)))
   (qH (t7 (uv (be 1) (be 3) (be 3)))
   (sIf (rC (be 4))
    (qS (vL uQ (qC (be 1) (qC (v2 tT (be 1) (be 3)) (qC (v2 tT (be 1) (be 2)) qG)))) (qD 1))
    sNx)))
theorem Td{d:D}{h:Nat}{a:An}{hs:List (Nat×Nat)}{L:M}(hh:L[h]?=some (some (.dK (kvH hs))))(hn:hNd hs)(hl:hs.length<10000):
  ∃h' Z6,A3 [some d,some (.ref h),some (.int (a.1:Int)),some (.int (a.2.1:Int)),some (.bl a.2.2)] L=some (.nx,[some d,some (.ref h'),some (.int (a.1:Int)),some (.int (a.2.1:Int)),some (.bl a.2.2)],Z6)/\Z6[h']?=some (some (.dK (kvH (ut hs a))))/\(∀Zo,Gr Zo L->Zo.length<=h->Gr Zo Z6/\Zo.length<=h'):=by
 obtain⟨d1,Z5,e1,h1,o1⟩:=GF (x:=a.1) (O:=[some d,some (.ref h),some (.int (a.1:Int)),some (.int (a.2.1:Int)),some (.bl a.2.2)]) (ek:=be 2) rfl rfl hh (by omega);have l1:=Ag hs a.1;obtain⟨d2,Z3,e2,h2,o2⟩:=GF (x:=a.2.1) (O:=[some d,some (.ref h),some (.int (a.1:Int)),some (.int (a.2.1:Int)),some (.bl a.2.2)]) (ek:=be 3) (L:=Z5) rfl rfl h1 (by omega);have l2:=Ag (rg hs a.1) a.2.1;have s12:A3 [some d,some (.ref h),some (.int (a.1:Int)),some (.int (a.2.1:Int)),some (.bl a.2.2)] L=sIf (rC (be 4)) (qS (vL uQ (qC (be 1) (qC (v2 tT (be 1) (be 3)) (qC (v2 tT (be 1) (be 2)) qG)))) (qD 1)) sNx [some d,some (.ref h),some (.int (a.1:Int)),some (.int (a.2.1:Int)),some (.bl a.2.2)] Z3:=by
  unfold A3;rw[tI,z6,e1];show xi _ (some (.nx,_,Z5))=_;rw[wq,tI,z6,e2];rfl
 rw[s12];have hb:rC (be 4) [some d,some (.ref h),some (.int (a.1:Int)),some (.int (a.2.1:Int)),some (.bl a.2.2)] Z3=some (a.2.2,Z3):=by simp
 cases hc:a.2.2 with
 |false=>
  rw[hc] at hb;refine⟨h,Z3,by rw[wx,hb];rfl,?_,fun Zo g0 hle=>⟨On.gr g0 (o1.trans o2) hle,hle⟩⟩;rw[h2];unfold ut;simp[hc]
 |true=>
  rw[hc] at hb;have vi:∃r,q0 (rg (rg hs a.1) a.2.1) a.1=some r:=by
   rw[wW];split
   ·exact⟨_,rfl⟩
   ·rw[wW,if_pos rfl];exact⟨_,rfl⟩
  have vj:∃r,q0 (rg (rg hs a.1) a.2.1) a.2.1=some r:=by rw[wW,if_pos rfl];exact⟨_,rfl⟩
  obtain⟨ri,hi⟩:=vi;obtain⟨rj,hj⟩:=vj;have nd2:=AZ (AZ hn a.1) a.2.1;have em:=QH (o:=rj) (w:=ri) h2 nd2 (by omega);refine⟨Z3.length,Z3.set h none++[some (.dK (kvH (sr (rg (rg hs a.1) a.2.1) rj ri)))],?_,?_,fun Zo g0 hle=>?_⟩
  ·rw[wx,hb];show qS _ _ _ _=_;have gj:=A1 h2 hj;have gi:=A1 h2 hi;simp[gj,gi,em]
  ·have:(Z3.set h none).length=Z3.length:=Yb ..;rw[XH (by omega),this];simp[ut,hc,hi,hj]
  ·have g2:=On.gr g0 (o1.trans o2) hle;refine⟨⟨by simp;have:=g2.len;omega,fun j hj'=>?_⟩,g2.len⟩;have hlt:j<Z3.length:=by have:=g2.len;omega
   rw[Xq (by simpa using hlt),sT (by omega)];exact g2.at_ j hj'
def Rp{d:D}{as:List An}{L:M}(hl:Ls L d (as.map dA))(hs:as.length<=1000):∃h Z6,wU uQ [d] L=some (.ref h,Z6)/\Z6[h]?=some (some (.dK (kvH (sk as))))/\Gr L Z6:=by
 obtain⟨h1,c,h2,h3,h4⟩:=hl;have main:=AM (c:=c) (g:=(rM 3 (qQ (qD 2) (qQ (qD 3) (qQ (qD 4) sd))))) (body:=A3)
  (fun i O Z6=>∃h o2 o3 o4,O=[some d,some (.ref h),o2,o3,o4]/\Z6[h]?=some (some (.dK (kvH (sk (as.take i)))))/\Gr L Z6/\L.length<=h)
  (as.map dA) 0 [some d,some (.ref L.length),none,none,none] (L++[some (.dK [])]) ⟨L.length,_,_,_,rfl,by simp[kvH,sk],gr_app,Xc _⟩ ?_
 ·obtain⟨ZY,Z6,e,h,o2,o3,o4,rfl,hh,g,_⟩:=main;rw[YC,Xj,List.take_length] at hh;refine⟨h,Z6,?_,hh,g⟩;unfold wU EC;rw[u9,if_pos (show [d].length=1 from rfl)];show tP (qH _ _ [some d,none,none,none,none] L)=_;have s1:qS yW (qD 1) [some d,none,none,none,none] L=some (.nx,[some d,some (.ref L.length),none,none,none],L++[some (.dK [])]):=rfl;have hi:ivL (be 0) [some d,some (.ref L.length),none,none,none] (L++[some (.dK [])])=some ((as.map dA,c),L++[some (.dK [])]):=by
   have hL:Ls (L++[some (.dK [])]) d (as.map dA):=Ls.gr ⟨h1,c,h2,h3,h4⟩ gr_app;have:lsC (L++[some (.dK [])]) d=some (as.map dA,c):=by
    cases d with
    |ref k=>
     rcases Bp (L:=L) (d:=.ref k) ⟨h1,c,h2,h3,h4⟩ with⟨k',e,hk⟩|e|e
     ·cases e;rw[Ca hk] at h2;rw[Ca ((gr_app (ex:=[some (.dK [])])).get hk)];exact h2
     ·cases e
     ·cases e
    |_=>exact h2
   simp[this]
  rw[tI,s1,wq,tI,xq,hi,xp,e];rfl
 ·rintro j x O Z5 hx ⟨h,o2,o3,o4,rfl,hh,g,hle⟩;rw[YC] at hh;rw[Xw] at hx;cases ha:as[j]? with
  |none=>rw[ha] at hx;cases hx
  |some a=>
   rw[ha] at hx;cases hx;have hlen:(sk (as.take j)).length<10000:=by
    have:=Wr (as.take j);have:=List.length_take_le j as;rw[List.length_take] at*;omega
   obtain⟨h',Z3,e,hh2,hg⟩:=Td (d:=d) (a:=a) hh (Qs _) hlen;obtain⟨g2,hle2⟩:=hg L g hle;refine⟨[some d,some (.ref h),some (.int (a.1:Int)),some (.int (a.2.1:Int)),some (.bl a.2.2)],Z5,_,Z3,rfl,e,h4 _ g2,h',some (.int (a.1:Int)),some (.int (a.2.1:Int)),some (.bl a.2.2),rfl,?_,g2,hle2⟩;rw[hh2,YC,Ts as j a ha]
theorem Bx{c:Ck}{g:GV}{tc:BV}{te:EV}{α:Type}{dn:α->D}{keep:α->Bool}{val:α->D}(Pv:G->Prop){L:M}(hc:qY c L):∀(l:List α) (O:G),Pv O->
  (∀x∈l,∀O,Pv O->∃ZZ,g (dn x) O L=some (ZZ,L)/\tc ZZ L=some (keep x,L)/\(keep x=true->te ZZ L=some (val x,L))/\Pv ZZ)->
  rX c g tc te (l.map dn) O L=some ((l.filter keep).map val,L)
 | [],_,_,_=>rfl
 |x::r,O,h,hs=>by
  obtain⟨ZZ,h1,h2,h3,h4⟩:=hs x (by simp) O h;have ih:=Bx Pv hc r ZZ h4 fun x hx=>hs x (by simp[hx]);simp only[Xn,rX,h1,bs,h2];cases hk:keep x with
  |true=>simp only[if_true,h3 hk,bs,t9 hc,ih,List.filter_cons_of_pos hk,Xn]
  |false=>simp only[XL,if_false,t9 hc,ih,YF,hk]
def HP{α:Type}(l:List α):l.filter (fun _=>true)=l:=Yr.mpr (by simp)
section
variable {α:Type} {own:Str} {cap:List (Str×Nat)} {qV:G} {iv:IV} {tc:BV} {te:EV} {O:G} {L:M} {c:Ck} {l:List α} {dn:α->D}
theorem Nn{keep:α->Bool}{val:α->D}(hi:iv O L=some ((l.map dn,c),L))(hl:l.length<=1000000)(hc:qY c L)(he:rJ [own] cap O=none::qV)
  (ht:∀x∈l,tc (some (dn x)::qV) L=some (keep x,L)) (hv:∀x∈l,keep x=true->te (some (dn x)::qV) L=some (val x,L)):rF [own] cap iv (qD 0) tc te O L=some (.lst ((l.filter keep).map val),L):=by
 rw[E6,hi,Ch,if_pos (by simpa using hl),he];rw[Bx (g:=qD 0) (tc:=tc) (te:=te) (keep:=keep) (val:=val) (fun O=>∃o,O=o::qV) hc l (none::qV) ⟨none,rfl⟩ (by
  rintro x hx O ⟨o,rfl⟩;exact⟨some (dn x)::qV,rfl,ht x hx,hv x hx,_,rfl⟩)]
 rfl
theorem Ea{val:α->D}(hi:iv O L=some ((l.map dn,c),L))(hl:l.length<=1000000)(hc:qY c L)(he:rJ [own] cap O=none::qV)
  (hv:∀x∈l,te (some (dn x)::qV) L=some (val x,L)):rF [own] cap iv (qD 0) qX te O L=some (.lst (l.map val),L):=by
 rw[Nn (keep:=fun _=>true) (val:=val) hi hl hc he (fun _ _=>rfl) (fun x hx _=>hv x hx),HP]
end
def Ls.iv{L:M}{d:D}{ds:List D}{O:G}{i:Nat}(h:Ls L d ds)(Y8:O[i]?=some (some d)):∃c,ivL (be i) O L=some ((ds,c),L)/\qY c L/\∀Z6,Gr L Z6->qY c Z6:=by
 obtain⟨h1,c,h2,h3,h4⟩:=h;exact⟨c,by unfold ivL;rw[GX Y8,bs];show(lsC L d).bind _=_;rw[h2,bs],h3,h4⟩
section
variable {C CF:Addr} {n:Nat} {d:D} {as:List An} {L:M}
abbrev wN(C:Addr):FX:=DT (wU uQ) (yY C)
abbrev E2(C CF:Addr):FX:=Ff (wN C) CF
theorem GT(hl:Ls L d (as.map dA))(hv:Ok2 n as)(hs:as.length<=1000):∃Z6,wN C [.int (n:Int),d] L=some (.ok (.bl (sM as)),Z6)/\Gr L Z6:=by
 obtain⟨h,Z5,e1,hh,g⟩:=Rp hl hs;refine⟨Z5,?_,g⟩;have hc1:=VP (C:=C) hl hv;obtain⟨c,hi,hck,_⟩:=(hl.gr g).iv (O:=[some (.int (n:Int)),some d,some (.ref h)]) (i:=1) rfl;have hcmp:rF ["i","j","alike"] [("homes",2)] (ivL (be 1)) (rM 3 (qQ (qD 0) (qQ (qD 1) (qQ (qD 2) sd)))) qX (vOr (be 2) (v2 fNe (v2 tT (be 3) (be 0)) (v2 tT (be 3) (be 1)))) [some (.int (n:Int)),some d,some (.ref h)] Z5=some (.lst ((as.map fun a=>a.2.2||!decide (q0 (sk as) a.1=q0 (sk as) a.2.1)).map D.bl),Z5):=by
  rw[E6,hi,Ch,if_pos (by simp;omega)];have ec:rJ (["i","j","alike"]:List Str) [("homes",2)] [some (.int (n:Int)),some d,some (.ref h)]=[none,none,none,some (.ref h)]:=rfl;rw[ec,Bx (dn:=dA) (keep:=fun _=>true) (val:=fun a=>D.bl (a.2.2||!decide (q0 (sk as) a.1=q0 (sk as) a.2.1))) (fun O=>∃o1 o2 o3,O=[o1,o2,o3,some (.ref h)]) hck as _ ⟨_,_,_,rfl⟩ ?_,HP]
  ·simp
  ·rintro a ha O ⟨o1,o2,o3,rfl⟩;obtain⟨n1,n2⟩:=(DS as).named a ha;obtain⟨r1,q1⟩:=X1.mp n1;obtain⟨r2,q2⟩:=X1.mp n2;have g1:=A1 hh q1;have g2:=A1 hh q2;refine⟨[some (.int (a.1:Int)),some (.int (a.2.1:Int)),some (.bl a.2.2),some (.ref h)],rfl,rfl,fun _=>?_,_,_,_,rfl⟩;have ht:v2 fNe (v2 tT (be 3) (be 0)) (v2 tT (be 3) (be 1)) [some (.int (a.1:Int)),some (.int (a.2.1:Int)),some (.bl a.2.2),some (.ref h)] Z5=some (.bl (!decide (q0 (sk as) a.1=q0 (sk as) a.2.1)),Z5):=by
    rw[e_2 (x:=.int (r1:Int)) (Z5:=Z5) (y:=.int (r2:Int)) (Z3:=Z5) (by rw[e_2 (x:=.ref h) (Z5:=Z5) (y:=.int (a.1:Int)) (Z3:=Z5) rfl rfl];exact g1) (by rw[e_2 (x:=.ref h) (Z5:=Z5) (y:=.int (a.2.1:Int)) (Z3:=Z5) rfl rfl];exact g2),q1,q2];simp[fNe,eqD];omega
   cases hb:a.2.2 with
   |true=>rfl
   |false=>
    rw[hb] at ht;rw[NU];show Al _ _ (some (.bl false,Z5))=_;exact ht
 refine AV (ZZ:=[some (.int (n:Int)),some d,some (.ref h)]) rfl ?_;unfold DU;show sR _ _ [some (.int (n:Int)),some d,none] L=_;rw[zE (ZZ:=[some (.int (n:Int)),some d,none]) (Z5:=L) (Ft (d:=.non) (by rw[xS (ds:=[.int (n:Int),d]) (Z5:=L) (yP rfl)];exact hc1))];refine w6 (o:=.rt _) ?_;have s1:qS (vL (wU uQ) (qC (be 1) qG)) (qD 2) [some (.int (n:Int)),some d,none] L=some (.nx,[some (.int (n:Int)),some d,some (.ref h)],Z5):=by
  simp[e1]
 rw[tI,s1,wq,yo,e_1 hcmp];simp only[vE,rN,bs,FM];show some (Out.rt (.bl _),_,_)=_;congr 4;unfold sM;simp[List.all_map]
theorem Nb(hl:Ls L d (as.map dA))(hv:Ok2 n as)(hs:as.length<=1000)(hc:sM as=true):∃Z6,E2 C CF [.int (n:Int),d] L=some (.ok .non,Z6)/\Gr L Z6:=by
 obtain⟨Z5,e,g⟩:=GT (C:=C) hl hv hs;rw[hc] at e;refine⟨Z5,MA (ZZ:=[some (.int (n:Int)),some d]) rfl ?_,g⟩;unfold DI;show t6 _ _ _ [some (.int (n:Int)),some d] L=_;have e2:vLX (wN C) (upL (qC (be 0) (qC (be 1) qG))) [some (.int (n:Int)),some d] L=some (.ok (.bl true),Z5):=by
  rw[xS (ds:=[.int (n:Int),d]) (Z5:=L) (yP rfl)];exact e
 have e3:Av (bTX (vLX (wN C) (upL (qC (be 0) (qC (be 1) qG))))) [some (.int (n:Int)),some d] L=some (.ok false,Z5):=by
  unfold Av bTX;rw[e2];rfl
 rw[z4 e3];exact w6 (o:=.nx) rfl
end
def dI(s:List Int):D:=.lst (s.map D.int)
def VC(a b:Bool)(L:M):eqD (.bl a) (.bl b) L=some (a==b):=by
 cases a<;>cases b<;>rfl
abbrev vV:SV:=(sIf (vT (v2 fNe (v2 fEq (v2 fIx (be 0) (be 2)) (v2 fIx (be 0) (be 3))) (be 4)))
    (qO (vC (.bl false)))
    sNx)
theorem Hf{s:List Int}{d:D}{c:Ck}{L:M}(hc:qY c L):∀(as:List An) (o2 o3 o4:Option D),InN s.length as->
  (uH s as=true->∃o2' o3' o4',rT c (rM 3 (qQ (qD 2) (qQ (qD 3) (qQ (qD 4) sd)))) vV (as.map dA) [some (dI s),some d,o2,o3,o4] L=some (.nx,[some (dI s),some d,o2',o3',o4'],L))/\
  (uH s as=false->∃ZY,rT c (rM 3 (qQ (qD 2) (qQ (qD 3) (qQ (qD 4) sd)))) vV (as.map dA) [some (dI s),some d,o2,o3,o4] L=some (.rt (.bl false),ZY,L))
 | [],o2,o3,o4,_=>⟨fun _=>⟨o2,o3,o4,rfl⟩,fun h=>by cases h⟩
 |a::as,o2,o3,o4,hv=>by
  obtain⟨h1,h2⟩:=hv a (by simp);obtain⟨ih1,ih2⟩:=Hf (s:=s) (d:=d) hc as (some (.int (a.1:Int))) (some (.int (a.2.1:Int))) (some (.bl a.2.2)) (fun x hx=>hv x (by simp[hx]));have hg:rM 3 (qQ (qD 2) (qQ (qD 3) (qQ (qD 4) sd))) (dA a) [some (dI s),some d,o2,o3,o4] L=some ([some (dI s),some d,some (.int (a.1:Int)),some (.int (a.2.1:Int)),some (.bl a.2.2)],L):=rfl;have ix:∀x:Nat,x<s.length->fIx (dI s) (.int (x:Int)) L=some (.int (s.getD x 0),L):=fun x hx=>by
   simp only[fIx,dI,rN];rw[vg (j:=x) (v:=.int (s.getD x 0)) (by rw[Xw,Xh];simp[Xk hx])];rfl
  have t:vT (v2 fNe (v2 fEq (v2 fIx (be 0) (be 2)) (v2 fIx (be 0) (be 3))) (be 4)) [some (dI s),some d,some (.int (a.1:Int)),some (.int (a.2.1:Int)),some (.bl a.2.2)] L=some (!(decide (s.getD a.1 0=s.getD a.2.1 0)==a.2.2),L):=by
   rw[LN,e_2 (x:=.bl (decide (s.getD a.1 0=s.getD a.2.1 0))) (Z5:=L) (y:=.bl a.2.2) (Z3:=L) (by
    rw[e_2 (x:=.int (s.getD a.1 0)) (Z5:=L) (y:=.int (s.getD a.2.1 0)) (Z3:=L) (by rw[e_2 (x:=dI s) (Z5:=L) (y:=.int (a.1:Int)) (Z3:=L) rfl rfl];exact ix _ h1) (by rw[e_2 (x:=dI s) (Z5:=L) (y:=.int (a.2.1:Int)) (Z3:=L) rfl rfl];exact ix _ h2)];rfl) rfl]
   simp only[fNe,VC,bs];rfl
  have ef:uH s (a::as)=((decide (s.getD a.1 0=s.getD a.2.1 0)==a.2.2)&&uH s as):=rfl;rw[ef];cases hb:(decide (s.getD a.1 0=s.getD a.2.1 0)==a.2.2) with
  |true=>
   rw[hb] at t;have hbd:vV [some (dI s),some d,some (.int (a.1:Int)),some (.int (a.2.1:Int)),some (.bl a.2.2)] L=some (.nx,[some (dI s),some d,some (.int (a.1:Int)),some (.int (a.2.1:Int)),some (.bl a.2.2)],L):=by
    unfold vV;rw[wx,t];rfl
   have step:rT c (rM 3 (qQ (qD 2) (qQ (qD 3) (qQ (qD 4) sd)))) vV ((a::as).map dA) [some (dI s),some d,o2,o3,o4] L=rT c (rM 3 (qQ (qD 2) (qQ (qD 3) (qQ (qD 4) sd)))) vV (as.map dA) [some (dI s),some d,some (.int (a.1:Int)),some (.int (a.2.1:Int)),some (.bl a.2.2)] L:=by
    rw[Xn];simp only[rT,hg,bs,hbd];rw[t9 hc]
   rw[step,Bool.true_and];exact⟨ih1,ih2⟩
  |false=>
   rw[hb] at t;have hbd:vV [some (dI s),some d,some (.int (a.1:Int)),some (.int (a.2.1:Int)),some (.bl a.2.2)] L=some (.rt (.bl false),[some (dI s),some d,some (.int (a.1:Int)),some (.int (a.2.1:Int)),some (.bl a.2.2)],L):=by
    unfold vV;rw[wx,t];rfl
   refine⟨fun z=>by simp at z,fun _=>⟨[some (dI s),some d,some (.int (a.1:Int)),some (.int (a.2.1:Int)),some (.bl a.2.2)],?_⟩⟩;rw[Xn];simp only[rT,hg,bs,hbd]
def Px{s:List Int}{d:D}{as:List An}{L:M}(hl:Ls L d (as.map dA))(hv:InN s.length as):wd [dI s,d] L=some (.bl (uH s as),L):=by
 obtain⟨c,hi,hck,_⟩:=hl.iv (O:=[some (dI s),some d,none,none,none]) (i:=1) rfl;obtain⟨l1,l2⟩:=Hf (s:=s) (d:=d) hck as none none none hv;unfold wd EL;rw[u9,if_pos (show [dI s,d].length=2 from rfl)];show tP (qH _ _ [some (dI s),some d,none,none,none] L)=_;rw[tI,xq,hi,xp];cases hb:uH s as with
 |true=>
  obtain⟨o2,o3,o4,e⟩:=l1 hb;rw[e];rfl
 |false=>
  obtain⟨ZY,e⟩:=l2 hb;rw[e];rfl
def ext(m:Nat)(p:List Int×Nat):List (List Int×Nat):=(List.range (min (p.2+1) m)).map fun(i:Nat)=>(p.1++[(i:Int)],max p.2 (i+1))
def dS(p:List Int×Nat):D:=dI p.1
def RJ{L:M}{s:List Int×Nat}{k:Int}{n:Nat}(g:Gd n k.toNat s)(hn:n<=7):ub [dS s,.int k] L=some (.lst ((ext k.toNat s).map dS),L):=by
 have hl:s.1.length<=1000:=by rw[g.len];omega
 have hu:=g.used;have h2:=g.len2;have s1:qS (v2 rS (v2 x9 (be 0) (v1 uY (vC (.int 1)))) (vC (.int 1))) (qD 2) [some (dS s),some (.int k),none] L=some (.nx,[some (dS s),some (.int k),some (.int (s.2:Int))],L):=by
  have e1:v2 x9 (be 0) (v1 uY (vC (.int 1))) [some (dS s),some (.int k),none] L=some (.int ((mxL s.1).getD (-1)),L):=by
   rw[e_2 (x:=dS s) (Z5:=L) (y:=.int (-1)) (Z3:=L) rfl (by simp[uY])];simp only[x9,dS,dI,rN,bs,Nu]
  rw[CO,e_2 (x:=.int ((mxL s.1).getD (-1))) (Z5:=L) (y:=.int 1) (Z3:=L) e1 rfl];simp only[rS,hu];rfl
 have s2:v2 xH (v2 rS (be 2) (vC (.int 1))) (be 1) [some (dS s),some (.int k),some (.int (s.2:Int))] L=some (.int (min ((s.2:Int)+1) k),L):=by
  rw[e_2 (x:=.int ((s.2:Int)+1)) (Z5:=L) (y:=.int k) (Z3:=L) (by simp[rS]) rfl];show some (D.int (if k<(s.2:Int)+1 then k else(s.2:Int)+1),L)=_;have e0:(if k<(s.2:Int)+1 then k else(s.2:Int)+1)=min ((s.2:Int)+1) k:=by
   simp only[Int.min_def];split<;>split<;>omega
  rw[e0]
 have s3:rF ["number"] [("sort",0)] (z0 (v2 xH (v2 rS (be 2) (vC (.int 1))) (be 1))) (qD 0) qX (v2 rS (be 1) (vL rL (qC (be 0) qG))) [some (dS s),some (.int k),some (.int (s.2:Int))] L=some (.lst ((List.range (min (s.2+1) k.toNat)).map fun i:Nat=>dI (s.1++[(i:Int)])),L):=by
  refine Ea (l:=List.range (min (s.2+1) k.toNat)) (dn:=fun i:Nat=>D.int (i:Int)) (c:=none) (qV:=[some (dS s)]) ?_ (by simp;omega) trivial rfl ?_
  ·rw[T5 s2 (by have:=Int.min_le_left ((s.2:Int)+1) k;omega)];have hm:(min ((s.2:Int)+1) k).toNat=min (s.2+1) k.toNat:=by simp only[Int.min_def,Nat.min_def];split<;>split<;>omega
   rw[hm];simp[rm]
  ·intro i _;rw[e_2 (x:=dS s) (Z5:=L) (y:=.lst [.int (i:Int)]) (Z3:=L) rfl rfl];show y3 (.lst (s.1.map D.int)) (.lst [.int (i:Int)]) L=_;unfold y3;simp only[vU,bs];rw[if_pos (by simp;omega)];simp[dI]
 unfold ub E1;rw[u9,if_pos (show [dS s,D.int k].length=2 from rfl)];show tP (qH _ _ [some (dS s),some (.int k),none] L)=_;rw[tI,s1,wq,yo,s3];simp[ext,dS,Function.comp_def,tP,kRt]
theorem Fw{α:Type}{f:α->D}{L:M}{k:D}:∀(l:List α) (a o:Option D),∃o',uW none (qD 1) qX (be 1) (l.map f) [a,o,some k] L=some (l.map f,[a,o',some k],L)
 | [],a,o=>⟨o,rfl⟩
 |p::l,a,o=>by
  obtain⟨o',e⟩:=Fw l a (some (f p));refine⟨o',?_⟩;have hg:qD 1 (f p) [a,o,some k] L=some ([a,some (f p),some k],L):=rfl;have hv:be 1 [a,some (f p),some k] L=some (f p,L):=rfl;simp only[Xn,uW,hg,bs];show(qX _ _).bind _=_;simp only[qX,bs,if_true,hv,vA];rw[e];rfl
theorem FP{n:Nat}{k:Int}{L:M}(hn:n<=7):∀(ps:List (List Int×Nat)) (a o:Option D),(∀p∈ps,Gd n k.toNat p)->
  tW none (qD 0) qX (ivL (vL ub (qC (be 0) (qC (be 2) qG)))) (qD 1) qX (be 1) (ps.map dS) [a,o,some (.int k)] L=some ((ps.flatMap (ext k.toNat)).map dS,L)
 | [],a,o,_=>rfl
 |p::ps,a,o,hg=>by
  have e1:=RJ (L:=L) (hg p (by simp)) hn;obtain⟨o',e3⟩:=Fw (f:=dS) (L:=L) (k:=.int k) (ext k.toNat p) (some (dS p)) o;have e4:=FP (L:=L) hn ps (some (dS p)) o' (fun q hq=>hg q (by simp[hq]));have h0:qD 0 (dS p) [a,o,some (.int k)] L=some ([some (dS p),o,some (.int k)],L):=rfl;have hv:ivL (vL ub (qC (be 0) (qC (be 2) qG))) [some (dS p),o,some (.int k)] L=some (((ext k.toNat p).map dS,none),L):=by
   simp[e1,lsC]
  rw[Xn];simp only[tW,h0,bs];show(qX _ _).bind _=_;simp only[qX,bs,if_true,hv,vA];rw[e3];simp only[bs,vA];rw[e4];simp
def Vg(n m:Nat):Sx (n+1) m=(Sx n m).flatMap (ext m):=rfl
def HA{L:M}{n:Nat}{k:Int}{C:Addr}(hn:n<=7):w9 ub (.int 7) C [.int (n:Int),.int k] L=some (.ok (.lst ((Sx n k.toNat).map dS)),L):=by
 have main:=AM (c:=none) (g:=qD 3) (body:=(qS (vW ["sort","longer"] [("most",1)] (ivL (be 2)) (qD 0) qX (ivL (vL ub (qC (be 0) (qC (be 2) qG)))) (qD 1) qX (be 1)) (qD 2)))
  (fun i O Z6=>∃(o:Option D),O=[some (.int (n:Int)),some (.int k),some (.lst ((Sx i k.toNat).map dS)),o]/\Z6=L)
  (rm 0 n) 0 [some (.int (n:Int)),some (.int k),some (.lst [.lst []]),none] L ⟨none,rfl,rfl⟩ ?_
 ·obtain⟨ZY,Z6,e,o,rfl,rfl⟩:=main;rw[Ou,YC] at e;refine AV (ZZ:=[some (.int (n:Int)),some (.int k),some (.lst ((Sx n k.toNat).map dS)),o]) rfl ?_;unfold Ec;show sR _ _ [some (.int (n:Int)),some (.int k),none,none] Z6=_;have t:(bOr (vT (v2 fLt (be 0) (vC (.int 0)))) (vT (v2 fGt (be 0) (vC (.int 7))))) [some (.int (n:Int)),some (.int k),none,none] Z6=some (false,Z6):=by
   have a1:¬((n:Int)<0):=by omega
   have a2:¬((7:Int)<n):=by omega
   simp[fLt,fGt,fI0,a1,a2]
  rw[zE (ZZ:=[some (.int (n:Int)),some (.int k),none,none]) (Z5:=Z6) ((z4 (Ao t)).trans (w6 (o:=.nx) rfl))];refine w6 (o:=.rt _) ?_;have s1:qS (vL rL (qC (vL rL qG) qG)) (qD 2) [some (.int (n:Int)),some (.int k),none,none] Z6=some (.nx,[some (.int (n:Int)),some (.int k),some (.lst [.lst []]),none],Z6):=rfl;have hr:ivR (be 0) [some (.int (n:Int)),some (.int k),some (.lst [.lst []]),none] Z6=some ((rm 0 n,none),Z6):=by
   have hb:(-1000000000:Int)<=(n:Int)/\(n:Int)<=1000000000:=by omega
   simp[hb]
  rw[tI,s1,wq,tI,xq,hr,xp,e];rfl
 ·rintro j d O Z5 hd ⟨o,rfl,rfl⟩;obtain⟨hjn,rfl⟩:=Pt hd;rw[YC];have e:=FP (n:=j) (k:=k) (L:=Z5) (by omega) (Sx j k.toNat) none none (fun p hp=>yk _ j p hp);rw[←Vg] at e;have hl:((Sx (j+1) k.toNat).map dS).length<=1000000:=by
   have:=Ax (n:=j+1) (by omega) k.toNat
   simp;omega
  refine⟨[some (.int (n:Int)),some (.int k),some (.lst ((Sx j k.toNat).map dS)),some (.int (j:Int))],Z5,[some (.int (n:Int)),some (.int k),some (.lst ((Sx (j+1) k.toNat).map dS)),some (.int (j:Int))],Z5,rfl,?_,trivial,some (.int (j:Int)),rfl,rfl⟩;have hv:ivL (be 2) [some (.int (n:Int)),some (.int k),some (.lst ((Sx j k.toNat).map dS)),some (.int (j:Int))] Z5=some (((Sx j k.toNat).map dS,none),Z5):=rfl;have hc:rJ (["sort","longer"]:List Str) [("most",1)] [some (.int (n:Int)),some (.int k),some (.lst ((Sx j k.toNat).map dS)),some (.int (j:Int))]=[none,none,some (.int k)]:=rfl;rw[CO,Gj,hv,Ku,hc,e,FY,if_pos hl];rfl
section
variable {C CF CT:Addr} {n:Nat} {d:D} {as:List An} {L:M}
abbrev xU(C CF CT:Addr):FX:=B9 wd (E2 C CF) (w9 ub (.int 7) CT)
theorem Kk{n m:Nat}{s:List Int}(h:s∈(Sx n m).map (·.1)):s.length=n:=by
 obtain⟨p,hp,rfl⟩:=XE.mp h;exact(yk m n p hp).len
theorem QE(hl:Ls L d (as.map dA))(hv:Ok2 n as)(hs:as.length<=1000)(hn:n<=7)(hc:sM as=true):∃Z6,xU C CF CT [.int (n:Int),d] L=some (.ok (.lst ((sD n as).map dI)),Z6)/\Gr L Z6:=by
 obtain⟨Z5,e,g⟩:=Nb (C:=C) (CF:=CF) hl hv hs hc;refine⟨Z5,?_,g⟩;refine AV (ZZ:=[some (.int (n:Int)),some d]) rfl ?_;unfold Eg;show sR _ _ [some (.int (n:Int)),some d] L=_;rw[zE (ZZ:=[some (.int (n:Int)),some d]) (Z5:=Z5) (Ft (d:=.non) (by rw[xS (ds:=[.int (n:Int),d]) (Z5:=L) (yP rfl)];exact e))];refine IP ?_;have ea:vLX (w9 ub (.int 7) CT) (upL (qC (be 0) (qC (be 0) qG))) [some (.int (n:Int)),some d] Z5=some (.ok (.lst (((Sx n n).map (·.1)).map dI)),Z5):=by
  rw[xS (ds:=[.int (n:Int),.int (n:Int)]) (Z5:=Z5) (yP rfl),HA hn];simp[dS,Function.comp_def]
 have hlen:((Sx n n).map (·.1)).length<=1000000:=by have:=Ax hn n;simp;omega
 have ec:rX none (qD 0) (rC (vL wd (qC (be 0) (qC (be 1) qG)))) (be 0) (((Sx n n).map (·.1)).map dI) [none,some d] Z5=some ((((Sx n n).map (·.1)).filter fun s=>uH s as).map dI,Z5):=by
  refine Bx (c:=none) (fun O=>∃o,O=[o,some d]) trivial _ _ ⟨none,rfl⟩ ?_;rintro s hs O ⟨o,rfl⟩;have hf:=Px (s:=s) (hl.gr g) (by rw[Kk hs];exact hv.inN);exact⟨[some (dI s),some d],rfl,by simp[hf],fun _=>rfl,_,rfl⟩
 unfold xh;rw[ea];show(if(((Sx n n).map (·.1)).map dI).length<=1000000 then _ else _)=_;rw[if_pos (by simpa using hlen)];have hcap:rJ (["sort"]:List Str) [("answers",1)] [some (.int (n:Int)),some d]=[none,some d]:=rfl;show(rX none (qD 0) (rC (vL wd (qC (be 0) (qC (be 1) qG)))) (be 0) (((Sx n n).map (·.1)).map dI) (rJ ["sort"] [("answers",1)] [some (.int (n:Int)),some d]) Z5).bind _=_;rw[hcap,ec];rfl
end
abbrev Gp:=Int×Nat×List Int
structure Gs (L:M) (lo:Nat) (b:Nat) (gs:List Gp):Prop where
 dic:L[b]?=some (some (.dK (gs.map fun g=>(Sum.inl g.1,D.ref g.2.1))))
 at_:∀g∈gs,L[g.2.1]?=some (some (.lst (g.2.2.map D.int)))
 key:(gs.map (·.1)).Nodup
 lo1:lo<=b
 lo2:∀g∈gs,lo<=g.2.1
 nd:(gs.map (·.2.1)).Nodup
 len:∀g∈gs,g.2.2.length<=1000
def sZ(gs:List Gp):List (Int×List Int):=gs.map fun g=>(g.1,g.2.2)
def CU(gs:List Gp)(k:Int):tt (gs.map fun g=>((Sum.inl g.1:Key),D.ref g.2.1)) (Sum.inl k)=(gs.find? fun g=>decide (g.1=k)).map fun g=>D.ref g.2.1:=by
 unfold tt;induction gs with
 |nil=>rfl
 |cons p r ih=>
  rw[Xn,Xp,Xp];by_cases z:p.1=k
  ·simp[z]
  ·have z':¬((Sum.inl p.1:Key)=Sum.inl k):=fun e=>z (by injection e);simp only[z,z',decide_false];exact ih
theorem Oa{gs:List Gp}{k t:Int}{g:Gp}(hk:(gs.map (·.1)).Nodup)(hf:gs.find? (fun g=>decide (g.1=k))=some g):
  t4 (sZ gs) k t=sZ (gs.map fun x=>if x.1=k then(x.1,x.2.1,x.2.2++[t]) else x):=by
 have hm:=List.mem_of_find?_eq_some hf;have he:g.1=k:=by simpa using List.find?_some hf
 unfold t4;rw[if_pos (by
  rw[Ys];exact⟨(g.1,g.2.2),XE.mpr ⟨g,hm,rfl⟩,by simpa using he⟩)]
 unfold sZ;rw[XS,XS];apply Yj;intro x _;simp only[Function.comp];split<;>rfl
def zq5{gs:List Gp}{k t:Int}{r:Nat}(hf:gs.find? (fun g=>decide (g.1=k))=none):t4 (sZ gs) k t=sZ (gs++[(k,r,[t])]):=by
 unfold t4;rw[if_neg]
 ·simp[sZ]
 ·intro hc;obtain⟨x,hx,e⟩:=Ys.mp hc;obtain⟨g,hg,rfl⟩:=XE.mp hx;rw[Yo] at hf;exact hf g hg e
abbrev AE:SV:=(t7 (uj uu (uv (be 1) (be 3) (vL ur qG)) (be 2)))
theorem Vw{d:D}{b lo:Nat}{gs:List Gp}{L:M}{t k:Int}(h:Gs L lo b gs)(hlo:lo<=L.length)(hl:gs.length<1000)(hlt:∀g∈gs,g.2.2.length<1000):
  ∃gs' Z6,AE [some d,some (.ref b),some (.int t),some (.int k)] L=some (.nx,[some d,some (.ref b),some (.int t),some (.int k)],Z6)/\Gs Z6 lo b gs'/\sZ gs'=t4 (sZ gs) k t/\(∀j,j<lo->Z6[j]?=L[j]?)/\L.length<=Z6.length:=by
 have hb:b<L.length:=(Xe.mp h.dic).1;have hv1:be 1 [some d,some (.ref b),some (.int t),some (.int k)] L=some (.ref b,L):=rfl;have hd:sF L (.ref b)=some (gs.map fun g=>(Sum.inl g.1,D.ref g.2.1)):=by simp only[sF,h.dic]
 have g1:Gr L (L++[some (Z8.lst [])]):=gr_app;have hd2:sF (L++[some (Z8.lst [])]) (.ref b)=some (gs.map fun g=>(Sum.inl g.1,D.ref g.2.1)):=by simp only[sF,g1.get h.dic]
 have hv3:be 3 [some d,some (.ref b),some (.int t),some (.int k)] L=some (.int k,L):=rfl;have hnw:vL ur qG [some d,some (.ref b),some (.int t),some (.int k)] L=some (.ref L.length,L++[some (.lst [])]):=rfl;have hlen:(gs.map fun g=>((Sum.inl g.1:Key),D.ref g.2.1)).length<1000000:=by simp;omega
 cases hf:gs.find? (fun g=>decide (g.1=k)) with
 |some g=>
  have hm:=List.mem_of_find?_eq_some hf;have he:g.1=k:=by simpa using List.find?_some hf
  have hs:uv (be 1) (be 3) (vL ur qG) [some d,some (.ref b),some (.int t),some (.int k)] L=some (.ref g.2.1,L++[some (.lst [])]):=by
   unfold uv;rw[hv1,bs];simp only[hd,bs,hv3,hnw,u6,hd2,if_pos hlen,CU,hf];rfl
  have ha:=g1.get (h.at_ g hm);generalize ZL:L++[some (Z8.lst [])]=Z5 at hs g1 ha;have hlen1:Z5.length=L.length+1:=by rw[←ZL];simp
  have hap:uu (.ref g.2.1) (.int t) Z5=some (.non,Z5.set g.2.1 (some (.lst (g.2.2.map D.int++[.int t])))):=by
   have:=hlt g hm;simp only[uu,yI ha,if_pos (show(g.2.2.map D.int).length<1000000 by simp;omega),EQ]
  refine⟨gs.map fun x=>if x.1=k then(x.1,x.2.1,x.2.2++[t]) else x,Z5.set g.2.1 (some (.lst (g.2.2.map D.int++[.int t]))),?_,?_,(Oa h.key hf).symm,fun j hj=>?_,by rw[Yb,hlen1];omega⟩
  ·unfold AE;rw[z6];unfold uj;rw[hs,bs];show kEx _ ((rN Z5 (.ref g.2.1)).bind _)=_;rw[uP ha,bs];show kEx _ (uu (.ref g.2.1) (.int t) Z5)=_;rw[hap];rfl
  ·have hkeys:(gs.map fun x=>if x.1=k then(x.1,x.2.1,x.2.2++[t]) else x).map (fun g=>((Sum.inl g.1:Key),D.ref g.2.1))=gs.map fun g=>(Sum.inl g.1,D.ref g.2.1):=by
    rw[XS];apply Yj;intro x _;simp only[Function.comp];split<;>rfl
   have hk1:(gs.map fun x=>if x.1=k then(x.1,x.2.1,x.2.2++[t]) else x).map (·.1)=gs.map (·.1):=by
    rw[XS];apply Yj;intro x _;simp only[Function.comp];split<;>rfl
   have hk2:(gs.map fun x=>if x.1=k then(x.1,x.2.1,x.2.2++[t]) else x).map (·.2.1)=gs.map (·.2.1):=by
    rw[XS];apply Yj;intro x _;simp only[Function.comp];split<;>rfl
   have hbg:b≠g.2.1:=fun z=>by
    have h1:=h.dic;rw[z,h.at_ g hm] at h1;cases h1
   refine⟨?_,fun x hx=>?_,by rw[hk1];exact h.key,h.lo1,fun x hx=>?_,by rw[hk2];exact h.nd,fun x hx=>?_⟩
   ·rw[hkeys,sT hbg];exact g1.get h.dic
   ·obtain⟨y,hy,rfl⟩:=XE.mp hx;by_cases hyk:y.1=k
    ·have:y=g:=by
      have hn:=h.key;obtain⟨i,hi⟩:=X8 hy;obtain⟨j,hj⟩:=X8 hm;have e1:(gs.map (·.1))[i]?=some k:=by rw[Xw,hi];simp[hyk]
      have e2:(gs.map (·.1))[j]?=some k:=by rw[Xw,hj];simp[he]
      obtain⟨l1,q1⟩:=Xe.mp e1;obtain⟨l2,q2⟩:=Xe.mp e2;have hp:=Yn.mp hn;rcases Nat.lt_trichotomy i j with z|z|z
      ·exact absurd (q1.trans q2.symm) (hp i j l1 l2 z)
      ·subst z;rw[hi] at hj;cases hj;rfl
      ·exact absurd (q2.trans q1.symm) (hp j i l2 l1 z)
     subst this;rw[if_pos hyk];show(Z5.set y.2.1 _)[y.2.1]?=_;rw[tj ha];simp
    ·rw[if_neg hyk];have hne:y.2.1≠g.2.1:=fun z=>by
      have hn:=h.nd;obtain⟨i,hi⟩:=X8 hy;obtain⟨j,hj⟩:=X8 hm;have e1:(gs.map (·.2.1))[i]?=some g.2.1:=by rw[Xw,hi];simp[z]
      have e2:(gs.map (·.2.1))[j]?=some g.2.1:=by rw[Xw,hj];simp
      obtain⟨l1,q1⟩:=Xe.mp e1;obtain⟨l2,q2⟩:=Xe.mp e2;have hp:=Yn.mp hn;rcases Nat.lt_trichotomy i j with w|w|w
      ·exact absurd (q1.trans q2.symm) (hp i j l1 l2 w)
      ·subst w;rw[hi] at hj;cases hj;exact hyk he
      ·exact absurd (q2.trans q1.symm) (hp j i l2 l1 w)
     rw[sT hne];exact g1.get (h.at_ y hy)
   ·obtain⟨y,hy,rfl⟩:=XE.mp hx;split
    ·exact h.lo2 y hy
    ·exact h.lo2 y hy
   ·obtain⟨y,hy,rfl⟩:=XE.mp hx;have:=hlt y hy;split
    ·simp;omega
    ·omega
  ·rw[sT (by have:=h.lo2 g hm;omega)];exact g1.at_ j (by omega)
 |none=>
  have hs:uv (be 1) (be 3) (vL ur qG) [some d,some (.ref b),some (.int t),some (.int k)] L=some (.ref L.length,(L++[some (Z8.lst [])]).set b (some (Z8.dK (tM (gs.map fun g=>((Sum.inl g.1:Key),D.ref g.2.1)) (Sum.inl k) (.ref L.length))))):=by
   unfold uv;rw[hv1,bs];simp only[hd,bs,hv3,hnw,u6,hd2,if_pos hlen,CU,hf];rfl
  have hput:tM (gs.map fun g=>((Sum.inl g.1:Key),D.ref g.2.1)) (Sum.inl k) (.ref L.length)=(gs++[(k,L.length,[t])]).map fun g=>(Sum.inl g.1,D.ref g.2.1):=by
   rw[Go _ (by rw[CU,hf];rfl)];simp
  rw[hput] at hs;have ha:((L++[some (Z8.lst [])]).set b (some (.dK ((gs++[(k,L.length,[t])]).map fun g=>(Sum.inl g.1,D.ref g.2.1)))))[L.length]?=some (some (.lst [])):=by
   rw[sT (by omega)];simp
  have hbk:((L++[some (Z8.lst [])]).set b (some (.dK ((gs++[(k,L.length,[t])]).map fun g=>(Sum.inl g.1,D.ref g.2.1)))))[b]?=some (some (.dK ((gs++[(k,L.length,[t])]).map fun g=>(Sum.inl g.1,D.ref g.2.1)))):=tj (g1.get h.dic);have hold:∀j,j<L.length->j≠b->((L++[some (Z8.lst [])]).set b (some (.dK ((gs++[(k,L.length,[t])]).map fun g=>(Sum.inl g.1,D.ref g.2.1)))))[j]?=L[j]?:=fun j hj hne=>by
   rw[sT hne];exact g1.at_ j hj
  have hlen1:((L++[some (Z8.lst [])]).set b (some (.dK ((gs++[(k,L.length,[t])]).map fun g=>(Sum.inl g.1,D.ref g.2.1))))).length=L.length+1:=by simp
  generalize ZL:(L++[some (Z8.lst [])]).set b (some (.dK ((gs++[(k,L.length,[t])]).map fun g=>(Sum.inl g.1,D.ref g.2.1))))=Z5 at hs ha hbk hold hlen1;have hap:uu (.ref L.length) (.int t) Z5=some (.non,Z5.set L.length (some (.lst [.int t]))):=by
   simp only[uu,yI ha,if_pos (show([]:List D).length<1000000 by decide),EQ];rfl
  refine⟨gs++[(k,L.length,[t])],Z5.set L.length (some (.lst [.int t])),?_,?_,(zq5 hf).symm,fun j hj=>?_,by rw[Yb,hlen1];omega⟩
  ·unfold AE;rw[z6];unfold uj;rw[hs,bs];show kEx _ ((rN Z5 (.ref L.length)).bind _)=_;rw[uP ha,bs];show kEx _ (uu (.ref L.length) (.int t) Z5)=_;rw[hap];rfl
  ·have hgl:∀g∈gs,g.2.1<L.length:=fun g hg=>(Xe.mp (h.at_ g hg)).1;refine⟨by rw[sT (by omega)];exact hbk,fun x hx=>?_,?_,h.lo1,fun x hx=>?_,?_,fun x hx=>?_⟩
   ·rcases XM.mp hx with hx|hx
    ·have hl1:=hgl x hx;have hxb:x.2.1≠b:=fun z=>by
      have h1:=h.dic;rw[←z,h.at_ x hx] at h1;cases h1
     rw[sT (by omega),hold _ hl1 hxb];exact h.at_ x hx
    ·have:x=(k,L.length,[t]):=by simpa using hx
     subst this;exact tj ha
   ·rw[Yl,List.nodup_append];refine⟨h.key,by simp,fun a ha1 c hc e=>?_⟩;have:c=k:=by simpa using hc
    subst this e;obtain⟨g,hg,rfl⟩:=XE.mp ha1;rw[Yo] at hf;exact hf g hg (by simp)
   ·rcases XM.mp hx with hx|hx
    ·exact h.lo2 x hx
    ·have:x=(k,L.length,[t]):=by simpa using hx
     subst this;exact hlo
   ·rw[Yl,List.nodup_append];refine⟨h.nd,by simp,fun a ha1 c hc e=>?_⟩;have:c=L.length:=by simpa using hc
    subst this e;obtain⟨g,hg,e⟩:=XE.mp ha1;have:=hgl g hg;omega
   ·rcases XM.mp hx with hx|hx
    ·exact h.len x hx
    ·have:x=(k,L.length,[t]):=by simpa using hx
     subst this;simp
  ·have hb2:=h.lo1;rw[sT (by omega)];exact hold j (by omega) (by omega)
theorem MM:∀(l:List Int) (i:Nat) (k:Int) (gs:List (Int×List Int)),wj i (l++[k]) gs=t4 (wj i l gs) k ((i+l.length:Nat):Int)
 | [],i,k,gs=>by simp[wj]
 |x::l,i,k,gs=>by
  rw[List.cons_append,wj,wj,MM l (i+1) k];congr 2;simp;omega
def TB(gs:List (Int×List Int))(k t:Int):(t4 gs k t).length<=gs.length+1:=by
 unfold t4;split<;>simp
def Qf{gs:List (Int×List Int)}{k t:Int}{m:Nat}(h:∀g∈gs,g.2.length<=m):∀g∈t4 gs k t,g.2.length<=m+1:=by
 intro g hg;unfold t4 at hg;split at hg
 ·obtain⟨x,hx,rfl⟩:=XE.mp hg;have:=h x hx;split
  ·simp;omega
  ·omega
 ·rcases XM.mp hg with hg|hg
  ·have:=h g hg;omega
  ·have:g=(k,[t]):=by simpa using hg
   subst this;simp
def Ub{s:List Int}{L:M}(hs:s.length<=500):∃b gs Z6,wn [dI s] L=some (.lst (gs.map fun g:Gp=>D.ref g.2.1),Z6)/\Gs Z6 L.length b gs/\sZ gs=grp s/\Gr L Z6:=by
 have main:=AM (c:=none) (g:=(rM 2 (qQ (qD 2) (qQ (qD 3) sd)))) (body:=AE)
  (fun i O Z6=>∃(gs:List Gp) (o2 o3:Option D),O=[some (dI s),some (.ref L.length),o2,o3]/\Gs Z6 L.length L.length gs/\sZ gs=grp (s.take i)/\gs.length<=i/\(∀g∈gs,g.2.2.length<=i)/\Gr L Z6)
  ((List.range s.length).map fun i:Nat=>D.tup [.int (i:Int),.int (s.getD i 0)]) 0 [some (dI s),some (.ref L.length),none,none] (L++[some (.dK [])])
  ⟨[],none,none,rfl,⟨by simp,fun g h=>by simp at h,by simp,Xc _,fun g h=>by simp at h,by simp,fun g h=>by simp at h⟩,rfl,Xc _,fun g h=>by simp at h,gr_app⟩ ?_
 ·obtain⟨ZY,Z6,e,gs,o2,o3,rfl,G1,hst,_,_,gr⟩:=main;rw[YC,Xj,XW,List.take_length] at hst;refine⟨L.length,gs,Z6,?_,G1,hst,gr⟩;unfold wn CD;rw[u9,if_pos (show [dI s].length=1 from rfl)];show tP (qH _ _ [some (dI s),none,none,none] L)=_;have s1:qS yW (qD 1) [some (dI s),none,none,none] L=some (.nx,[some (dI s),some (.ref L.length),none,none],L++[some (.dK [])]):=rfl;have hi:Em (be 0) [some (dI s),some (.ref L.length),none,none] (L++[some (.dK [])])=some (((List.range s.length).map fun i:Nat=>D.tup [.int (i:Int),.int (s.getD i 0)],none),L++[some (.dK [])]):=by
   have he:wk (s.map D.int)=(List.range s.length).map fun i:Nat=>D.tup [.int (i:Int),.int (s.getD i 0)]:=by
    apply List.ext_getElem?;intro i;by_cases hi:i<s.length
    ·simp[wk,hi]
    ·simp[wk];rw[List.getElem?_eq_none (by simpa using hi),List.getElem?_eq_none (by simpa using hi)];rfl
   show some ((wk (s.map D.int),none),_)=_;rw[he]
  rw[tI,s1,wq,tI,xq,hi,xp,e,wq,yo];have hv:v1 z8 (be 1) [some (dI s),some (.ref L.length),o2,o3] Z6=some (.lst (gs.map fun g:Gp=>D.ref g.2.1),Z6):=by
   rw[e_1 (x:=.ref L.length) (Z5:=Z6) rfl];unfold z8;simp only[sF,G1.dic,bs,XS];rfl
  rw[hv];rfl
 ·rintro j x O Z5 hx ⟨gs,o2,o3,rfl,G1,hst,hl,hlt,gr⟩;rw[YC] at hst hl hlt;have hj:j<s.length:=by
   have:=(Xe.mp hx).1;simpa using this
  rw[Xw,List.getElem?_range hj] at hx;simp at hx;subst hx;obtain⟨gs',Z3,e,G2,hst2,hold,hlen⟩:=Vw (d:=dI s) (t:=(j:Int)) (k:=s.getD j 0) G1 gr.len (by omega) (fun g hg=>by have:=hlt g hg;omega);have hsj:s[j]?=some (s.getD j 0):=by rw[Xh,Xk hj];rfl
  have hgrp:grp (s.take (j+1))=t4 (grp (s.take j)) (s.getD j 0) (j:Int):=by
   rw[List.take_succ,hsj];show wj 0 (s.take j++[s.getD j 0]) []=_;rw[MM];have:(s.take j).length=j:=by rw[List.length_take];omega
   rw[this,YC];rfl
  refine⟨[some (dI s),some (.ref L.length),some (.int (j:Int)),some (.int (s.getD j 0))],Z5,_,Z3,?_,e,trivial,gs',_,_,rfl,G2,?_,?_,?_,?_⟩
  ·simp
  ·rw[YC,hst2,hst,hgrp]
  ·have:gs'.length=(t4 (sZ gs) (s.getD j 0) (j:Int)).length:=by rw[←hst2];simp[sZ]
   have h2:=TB (sZ gs) (s.getD j 0) (j:Int);have:(sZ gs).length=gs.length:=by simp[sZ]
   omega
  ·intro g hg;have hm:(g.1,g.2.2)∈t4 (sZ gs) (s.getD j 0) (j:Int):=by rw[←hst2];exact XE.mpr ⟨g,hg,rfl⟩
   have:=Qf (m:=j) (fun x hx=>by
    obtain⟨y,hy,rfl⟩:=XE.mp hx;exact hlt y hy) _ hm
   have:g.2.2.length<=j+1:=this;omega
  ·exact⟨Xy gr.len hlen,fun i hi=>(hold i hi).trans (gr.at_ i hi)⟩
def sA(s:List Int):List Int:=match(grp s).find? fun g=>decide ((s.length:Int)<2*(g.2.length:Int)) with
 |some g=>g.2
 |none=>[]
def Po:∀n<8,∀p∈Sx n n,sA p.1=((List.range n).filter fun t:Nat=>decide ((t:Int)∈sA p.1)).map fun t:Nat=>(t:Int):=by decide +kernel
abbrev v6:SV:=(sIf (vT (v2 fGt (v2 tZ (vC (.int 2)) (v1 rE (be 1))) (v1 rE (be 0)))) (qO (be 1)) sNx)
theorem HD{s:List Int}{L:M}(hs:s.length<=500):∀(gs:List Gp) (o:Option D),(∀g∈gs,L[g.2.1]?=some (some (.lst (g.2.2.map D.int))))->(∀g∈gs,g.2.2.length<=1000)->
  (∀g,gs.find? (fun g=>decide ((s.length:Int)<2*(g.2.2.length:Int)))=some g->∃ZY,rT none (qD 1) v6 (gs.map fun g:Gp=>D.ref g.2.1) [some (dI s),o] L=some (.rt (.ref g.2.1),ZY,L))/\
  (gs.find? (fun g=>decide ((s.length:Int)<2*(g.2.2.length:Int)))=none->∃o',rT none (qD 1) v6 (gs.map fun g:Gp=>D.ref g.2.1) [some (dI s),o] L=some (.nx,[some (dI s),o'],L))
 | [],o,_,_=>⟨(fun g h=>by cases h),fun _=>⟨o,rfl⟩⟩
 |g::gs,o,h,hl=>by
  have h0:=h g (by simp);have hl0:=hl g (by simp);obtain⟨i1,i2⟩:=HD (s:=s) hs gs (some (.ref g.2.1)) (fun x hx=>h x (by simp[hx])) (fun x hx=>hl x (by simp[hx]));have hg:qD 1 (.ref g.2.1) [some (dI s),o] L=some ([some (dI s),some (.ref g.2.1)],L):=rfl;have t:vT (v2 fGt (v2 tZ (vC (.int 2)) (v1 rE (be 1))) (v1 rE (be 0))) [some (dI s),some (.ref g.2.1)] L=some (decide ((s.length:Int)<2*(g.2.2.length:Int)),L):=by
   have a1:v1 rE (be 1) [some (dI s),some (.ref g.2.1)] L=some (.int (g.2.2.length:Int),L):=by
    rw[e_1 (x:=.ref g.2.1) (Z5:=L) rfl,Up h0];simp
   have a2:v1 rE (be 0) [some (dI s),some (.ref g.2.1)] L=some (.int (s.length:Int),L):=by
    rw[e_1 (x:=dI s) (Z5:=L) rfl];simp[dI,rE,rN]
   have a3:v2 tZ (vC (.int 2)) (v1 rE (be 1)) [some (dI s),some (.ref g.2.1)] L=some (.int (2*(g.2.2.length:Int)),L):=by
    rw[e_2 (x:=.int 2) (Z5:=L) (y:=.int (g.2.2.length:Int)) (Z3:=L) rfl a1];have hc:CMul 2 (g.2.2.length:Int):=.inl ⟨by decide,by decide⟩;simp only[tZ,if_pos hc]
   rw[LN,e_2 a3 a2];rfl
  rw[Xp];cases hb:decide ((s.length:Int)<2*(g.2.2.length:Int)) with
  |true=>
   rw[hb] at t;have hbd:v6 [some (dI s),some (.ref g.2.1)] L=some (.rt (.ref g.2.1),[some (dI s),some (.ref g.2.1)],L):=by
    unfold v6;rw[wx,t];rfl
   refine⟨fun g' h=>?_,fun h=>by cases h⟩;cases h;refine⟨[some (dI s),some (.ref g.2.1)],?_⟩;rw[Xn];simp only[rT,hg,bs,hbd]
  |false=>
   rw[hb] at t;have hbd:v6 [some (dI s),some (.ref g.2.1)] L=some (.nx,[some (dI s),some (.ref g.2.1)],L):=by
    unfold v6;rw[wx,t];rfl
   have step:rT none (qD 1) v6 ((g::gs).map fun g:Gp=>D.ref g.2.1) [some (dI s),o] L=rT none (qD 1) v6 (gs.map fun g:Gp=>D.ref g.2.1) [some (dI s),some (.ref g.2.1)] L:=by
    rw[Xn];simp only[rT,hg,bs,hbd,vA]
   rw[step];exact⟨i1,i2⟩
theorem NP{s:List Int}{gs:List Gp}(hst:sZ gs=grp s):sA s=match gs.find? (fun g=>decide ((s.length:Int)<2*(g.2.2.length:Int))) with
  |some g=>g.2.2
  |none=>[]:=by
 unfold sA;rw[←hst];unfold sZ;rw[List.find?_map];simp only[Function.comp_def];cases gs.find? fun g=>decide ((s.length:Int)<2*(g.2.2.length:Int))<;>rfl
abbrev wP:C0:=y4 wn
def S4{s:List Int}{L:M}(hs:s.length<=500):∃d Z6,wP [dI s] L=some (d,Z6)/\Ls Z6 d ((sA s).map D.int)/\Gr L Z6:=by
 obtain⟨b,gs,Z5,e,G1,hst,gr⟩:=Ub (L:=L) hs;obtain⟨l1,l2⟩:=HD (s:=s) (L:=Z5) hs gs none G1.at_ G1.len;have hi:ivL (vL wn (qC (be 0) qG)) [some (dI s),none] L=some ((gs.map fun g:Gp=>D.ref g.2.1,none),Z5):=by
  have:vL wn (qC (be 0) qG) [some (dI s),none] L=some (.lst (gs.map fun g:Gp=>D.ref g.2.1),Z5):=e;unfold ivL;rw[this];rfl
 have hm:=NP hst;cases hf:gs.find? (fun g=>decide ((s.length:Int)<2*(g.2.2.length:Int))) with
 |some g=>
  rw[hf] at hm;obtain⟨ZY,e2⟩:=l1 g hf;refine⟨.ref g.2.1,Z5,?_,?_,gr⟩
  ·unfold wP y4 BB;rw[u9,if_pos (show [dI s].length=1 from rfl)];show tP (qH _ _ [some (dI s),none] L)=_;rw[tI,xq,hi,xp,e2];rfl
  ·rw[hm];exact .ref (G1.at_ g (List.mem_of_find?_eq_some hf))
 |none=>
  rw[hf] at hm;obtain⟨o',e2⟩:=l2 hf;refine⟨.lst [],Z5,?_,by rw[hm];exact .lst,gr⟩;unfold wP y4 BB;rw[u9,if_pos (show [dI s].length=1 from rfl)];show tP (qH _ _ [some (dI s),none] L)=_;rw[tI,xq,hi,xp,e2];rfl
def dE(x:Option Int):D:=match x with
 |some t=>.tup [.str "one",.int t]
 |none=>.tup [.str "none"]
def hE(s:List Int):List (Option Int):=if sA s=[] then [none] else(sA s).map some
abbrev uG:C0:=Ap wP
def K6{s:List Int}{L:M}(hs:s.length<=500)(hl:(sA s).length<=1000):∃Z6,uG [dI s] L=some (.lst ((hE s).map dE),Z6)/\Gr L Z6:=by
 obtain⟨d,Z5,e,hL,g⟩:=S4 (L:=L) hs;refine⟨Z5,?_,g⟩;have s1:qS (vL wP (qC (be 0) qG)) (qD 1) [some (dI s),none] L=some (.nx,[some (dI s),some d],Z5):=by
  have:vL wP (qC (be 0) qG) [some (dI s),none] L=some (d,Z5):=e;rw[CO,this];rfl
 have t:rC (be 1) [some (dI s),some d] Z5=some (!decide (sA s=[]),Z5):=by
  rw[Iv];show zn (some (d,Z5))=_;rcases Bp hL with⟨k,rfl,hk⟩|rfl|rfl
  ·simp only[zn];cases hm:sA s with
   |nil=>rw[hm] at hk;simp[tru,hk,kTr]
   |cons a r=>rw[hm] at hk;simp[tru,hk,kTr]
  ·cases hm:sA s with
   |nil=>rfl
   |cons a r=>rfl
  ·cases hm:sA s with
   |nil=>rfl
   |cons a r=>rfl
 obtain⟨c,hi,hck,_⟩:=hL.iv (O:=[some (dI s),some d]) (i:=1) rfl;have c2:rF ["thing"] [] (ivL (be 1)) (qD 0) qX (vL rZ (qC (vC (.str "one")) (qC (be 0) qG))) [some (dI s),some d] Z5=some (.lst ((sA s).map fun t=>dE (some t)),Z5):=
  Ea (l:=sA s) (dn:=D.int) (c:=c) (qV:=[]) hi (by omega) hck rfl fun t _=>rfl
 unfold uG Ap Fj;rw[u9,if_pos (show [dI s].length=1 from rfl)];show tP (qH _ _ [some (dI s),none] L)=_;rw[tI,s1,wq,yo];unfold hE;by_cases h0:sA s=[]
 ·rw[if_pos h0];rw[XO h0] at t;have:vIf (rC (be 1)) (rF ["thing"] [] (ivL (be 1)) (qD 0) qX (vL rZ (qC (vC (.str "one")) (qC (be 0) qG)))) (vL rL (qC (vL rZ (qC (vC (.str "none")) qG)) qG)) [some (dI s),some d] Z5=some (.lst ([none].map dE),Z5):=by
   rw[Lu,t];rfl
  rw[this];rfl
 ·rw[if_neg h0];rw[Xs h0] at t;have:vIf (rC (be 1)) (rF ["thing"] [] (ivL (be 1)) (qD 0) qX (vL rZ (qC (vC (.str "one")) (qC (be 0) qG)))) (vL rL (qC (vL rZ (qC (vC (.str "none")) qG)) qG)) [some (dI s),some d] Z5=some (.lst (((sA s).map some).map dE),Z5):=by
   rw[Lu,t];show rF _ _ _ _ _ _ _ Z5=_;rw[c2,XS];rfl
  rw[this];rfl
def so1:PyData.strOk "one"=true:=by decide +kernel
def so2:PyData.strOk "none"=true:=by decide +kernel
def pE(x:Option Int):PyData:=match x with
 |some t=>.tuple [.str "one",.int t]
 |none=>.tuple [.str "none"]
def zC{L:M}(x:Option Int):py 65 L (dE x)=some (pE x):=by cases x<;>rfl
def Dt(x:Option Int):(pE x).canLay0=true:=by cases x<;>simp[pE,PyData.canLay0,PyData.canLayAll0,so1,so2]
def Gh(x:Option Int):(pE x).depth<=60:=by cases x<;>simp[pE,PyData.depth,PyData.depthAll]
def P7(x y:Option Int):PyData.eqv (pE x) (pE y)=decide (x=y):=by
 rw[Yk];cases x<;>cases y<;>simp[pE,PyData.eqv,PyData.eqvAll]
theorem Ix:∀l:List (Option Int),PyData.canLayAll0 (l.map pE)=true
 | []=>rfl
 |x::l=>by simp[PyData.canLayAll0,Dt x,Ix l]
def Gn{L:M}(x:Option Int)(l:List (Option Int)):vp false (dE x) (.lst (l.map dE)) L=some (.bl (decide (x∈l)),L):=by
 have h1:optAll (py 65 L) (l.map dE)=some (l.map pE):=v4 fun x _=>zC x;have h4:decide ((pE x).depth<=60)=true:=XO (Gh x);have h5:(l.map pE).any (fun e=>PyData.eqv e (pE x))=decide (x∈l):=by
  rw[Yk,List.any_map,Ys];simp only[Function.comp,Yh,P7];constructor
  ·rintro⟨y,hy,rfl⟩;exact hy
  ·intro h;exact⟨x,h,rfl⟩
 unfold vp;rw[if_neg (by simp)];simp only[rN,bs,h1,zC,Ix,Dt,h4,Bool.and_self,if_true,h5]
def wV(ss:List (List Int)):Option (Option Int):=(hE (ss.getD 0 [])).find? fun t=>ss.all fun s=>decide (t∈hE s)
def dEs(ss:List (List Int)):D:=.lst (ss.map fun s=>.lst ((hE s).map dE))
abbrev v9:SV:=(sIf (rC (v1 vE (rF ["others"] [("end",1)] (ivL (be 0)) (qD 0) qX (v2 (vp false) (be 1) (be 0)))))
    (qO (be 1))
    sNx)
theorem Mg{ss:List (List Int)}{L:M}(hl:ss.length<=1000000):∀(l:List (Option Int)) (o:Option D),
  (∀t,l.find? (fun t=>ss.all fun s=>decide (t∈hE s))=some t->∃ZY,rT none (qD 1) v9 (l.map dE) [some (dEs ss),o] L=some (.rt (dE t),ZY,L))/\
  (l.find? (fun t=>ss.all fun s=>decide (t∈hE s))=none->∃o',rT none (qD 1) v9 (l.map dE) [some (dEs ss),o] L=some (.nx,[some (dEs ss),o'],L))
 | [],o=>⟨(fun t h=>by cases h),fun _=>⟨o,rfl⟩⟩
 |t::l,o=>by
  obtain⟨i1,i2⟩:=Mg (ss:=ss) (L:=L) hl l (some (dE t));have hc:rF ["others"] [("end",1)] (ivL (be 0)) (qD 0) qX (v2 (vp false) (be 1) (be 0)) [some (dEs ss),some (dE t)] L=some (.lst (ss.map fun s=>D.bl (decide (t∈hE s))),L):=
   Ea (l:=ss) (dn:=fun s=>D.lst ((hE s).map dE)) (c:=none) (qV:=[some (dE t)]) rfl hl trivial rfl fun s _=>by
    rw[e_2 (x:=dE t) (Z5:=L) (y:=.lst ((hE s).map dE)) (Z3:=L) rfl rfl];exact Gn t (hE s)
  have ht:rC (v1 vE (rF ["others"] [("end",1)] (ivL (be 0)) (qD 0) qX (v2 (vp false) (be 1) (be 0)))) [some (dEs ss),some (dE t)] L=some (ss.all fun s=>decide (t∈hE s),L):=by
   rw[Iv,e_1 hc];have:ss.map (fun s=>D.bl (decide (t∈hE s)))=(ss.map fun s=>decide (t∈hE s)).map D.bl:=by simp
   rw[this];simp only[vE,rN,bs,FM,List.all_map];rfl
  have hg:qD 1 (dE t) [some (dEs ss),o] L=some ([some (dEs ss),some (dE t)],L):=rfl;rw[Xp];cases hb:ss.all fun s=>decide (t∈hE s) with
  |true=>
   rw[hb] at ht;have hbd:v9 [some (dEs ss),some (dE t)] L=some (.rt (dE t),[some (dEs ss),some (dE t)],L):=by
    unfold v9;rw[wx,ht];rfl
   refine⟨fun t' h=>?_,fun h=>by cases h⟩;cases h;refine⟨[some (dEs ss),some (dE t)],?_⟩;rw[Xn];simp only[rT,hg,bs,hbd]
  |false=>
   rw[hb] at ht;have hbd:v9 [some (dEs ss),some (dE t)] L=some (.nx,[some (dEs ss),some (dE t)],L):=by
    unfold v9;rw[wx,ht];rfl
   have step:rT none (qD 1) v9 ((t::l).map dE) [some (dEs ss),o] L=rT none (qD 1) v9 (l.map dE) [some (dEs ss),some (dE t)] L:=by
    rw[Xn];simp only[rT,hg,bs,hbd,vA]
   rw[step];exact⟨i1,i2⟩
def rW:D:=.gt [.str "open"]
def uO(o:Option (Option Int)):D:=match o with
 |some t=>dE t
 |none=>rW
def Ra{ss:List (List Int)}{L:M}(hl:ss.length<=1000000)(h0:ss≠[]):uU rW [dEs ss] L=some (uO (wV ss),L):=by
 have hi:ivL (v2 fIx (be 0) (vC (.int 0))) [some (dEs ss),none] L=some (((hE (ss.getD 0 [])).map dE,none),L):=by
  cases ss with
  |nil=>exact absurd rfl h0
  |cons s ss=>
   have h1:v2 fIx (be 0) (vC (.int 0)) [some (dEs (s::ss)),none] L=some (.lst ((hE s).map dE),L):=by
    rw[e_2 (x:=dEs (s::ss)) (Z5:=L) (y:=.int 0) (Z3:=L) rfl rfl];simp only[fIx,dEs,rN];rw[show(0:Int)=((0:Nat):Int) from rfl,vg (j:=0) (v:=.lst ((hE s).map dE)) rfl];rfl
   unfold ivL;rw[h1];rfl
 obtain⟨l1,l2⟩:=Mg (ss:=ss) (L:=L) hl (hE (ss.getD 0 [])) none;unfold uU AG;rw[u9,if_pos (show [dEs ss].length=1 from rfl)];show tP (qH _ _ [some (dEs ss),none] L)=_;rw[tI,xq,hi,xp];cases hc:wV ss with
 |some t=>
  obtain⟨ZY,e⟩:=l1 t hc;rw[e];rfl
 |none=>
  obtain⟨o',e⟩:=l2 hc;rw[e];rfl
def SW{n:Nat}(hn:n<=7){s:List Int}(hs:s∈(Sx n n).map (·.1)):sA s=((List.range n).filter fun t:Nat=>decide ((t:Int)∈sA s)).map fun t:Nat=>(t:Int):=by
 obtain⟨p,hp,rfl⟩:=XE.mp hs;exact Po n (by omega) p hp
def VO{n:Nat}(hn:n<=7){s:List Int}(hs:s∈(Sx n n).map (·.1)):(sA s).length<=n:=by
 rw[SW hn hs,Xj];have:=X3 (fun t:Nat=>decide ((t:Int)∈sA s)) (List.range n);simpa using this
section
variable {C CF CT:Addr} {n:Nat} {d:D} {as:List An} {L:M}
abbrev BO(C CF CT:Addr):FX:=Fg (uU rW) uG (xU C CF CT)
theorem Gb{n:Nat}(hn:n<=7):∀(l:List (List Int)) (o:Option D) (L:M),(∀s∈l,s∈(Sx n n).map (·.1))->
  ∃Z6,rX none (qD 0) qX (vL uG (qC (be 0) qG)) (l.map dI) [o] L=some (l.map fun s=>.lst ((hE s).map dE),Z6)/\Gr L Z6
 | [],o,L,_=>⟨L,rfl,.refl⟩
 |s::l,o,L,h=>by
  have hs:=h s (by simp);have h1:=Kk hs;have h2:=VO hn hs;obtain⟨Z5,e1,g1⟩:=K6 (s:=s) (L:=L) (by omega) (by omega);obtain⟨Z3,e2,g2⟩:=Gb hn l (some (dI s)) Z5 (fun x hx=>h x (by simp[hx]));refine⟨Z3,?_,g1.trans g2⟩;have hg:qD 0 (dI s) [o] L=some ([some (dI s)],L):=rfl;have hv:vL uG (qC (be 0) qG) [some (dI s)] L=some (.lst ((hE s).map dE),Z5):=e1;rw[Xn];simp only[rX,hg,bs];show(qX _ _).bind _=_;simp only[qX,bs,if_true,hv,vA];rw[e2];rfl
theorem NN{s:List Int}(h:s∈sD n as):s∈(Sx n n).map (·.1):=(Xz.mp h).1
theorem Vl(hn:n<=7):(sD n as).length<=1000:=by
 have h1:=X3 (fun s=>uH s as) ((Sx n n).map (·.1));have:=Ax hn n;unfold sD;rw[Xj] at h1;omega
theorem VQ(hl:Ls L d (as.map dA))(hv:Ok2 n as)(hs:as.length<=1000)(hn:n<=7)(hf:sD n as≠[]):∃Z6,BO C CF CT [.int (n:Int),d] L=some (.ok (uO (wV (sD n as))),Z6)/\Gr L Z6:=by
 have hc:sM as=true:=by
  cases h:sM as with
  |true=>rfl
  |false=>exact absurd ((GE hv.inN).mpr h) hf
 obtain⟨Z5,e1,g1⟩:=QE (C:=C) (CF:=CF) (CT:=CT) hl hv hs hn hc;obtain⟨Z3,e2,g2⟩:=Gb hn (sD n as) none Z5 (fun s h=>NN h);refine⟨Z3,?_,g1.trans g2⟩;have hlen:=Vl (as:=as) hn;refine AV (ZZ:=[some (.int (n:Int)),some d]) rfl ?_;unfold Dr;show wb _ [some (.int (n:Int)),some d] L=_;have ec:xh ["sort"] [] (vLX (xU C CF CT) (upL (qC (be 0) (qC (be 1) qG)))) (qD 0) qX (vL uG (qC (be 0) qG)) [some (.int (n:Int)),some d] L=some (.ok (dEs (sD n as)),Z3):=by
  have ea:vLX (xU C CF CT) (upL (qC (be 0) (qC (be 1) qG))) [some (.int (n:Int)),some d] L=some (.ok (.lst ((sD n as).map dI)),Z5):=by
   rw[xS (ds:=[.int (n:Int),d]) (Z5:=L) (yP rfl)];exact e1
  unfold xh;rw[ea];show(if((sD n as).map dI).length<=1000000 then _ else _)=_;rw[if_pos (by simp;omega)];have hcap:rJ (["sort"]:List Str) [] [some (.int (n:Int)),some d]=[none]:=rfl;show(rX none (qD 0) qX (vL uG (qC (be 0) qG)) ((sD n as).map dI) (rJ ["sort"] [] [some (.int (n:Int)),some d]) Z5).bind _=_;rw[hcap,e2];rfl
 have el:As (xh ["sort"] [] (vLX (xU C CF CT) (upL (qC (be 0) (qC (be 1) qG)))) (qD 0) qX (vL uG (qC (be 0) qG))) (upL qG) [some (.int (n:Int)),some d] L=some (.ok [dEs (sD n as)],Z3):=by
  unfold As;rw[ec];rfl
 refine IP ?_;rw[xS el];show(upF (uU rW)) _ _=_;have hco:=Ra (ss:=sD n as) (L:=Z3) (by omega) hf;unfold upF;rw[hco];rfl
end
def ID{α:Type}{r:Option (α×M)}{a:α}{Z6:M}(h:Wp r fun d m=>d=a/\m=Z6):r=some (a,Z6):=by
 obtain⟨d,m,e,rfl,rfl⟩:=h;exact e
def dP(p:Nat×Nat):D:=.tup [.int (p.1:Int),.int (p.2:Int)]
theorem K7{β:Type}{g:GV}{te:EV}{dm:β->D}{val:β->D}(Qv:G->Prop){L:M}:∀(l:List β) (O:G),Qv O->(∀b∈l,∀O,Qv O->∃ZZ,g (dm b) O L=some (ZZ,L)/\te ZZ L=some (val b,L)/\Qv ZZ)->
  ∃ZY,uW none g qX te (l.map dm) O L=some (l.map val,ZY,L)/\Qv ZY
 | [],O,h,_=>⟨O,rfl,h⟩
 |b::l,O,h,hs=>by
  obtain⟨ZZ,e1,e2,h1⟩:=hs b (by simp) O h;obtain⟨ZY,e3,h3⟩:=K7 Qv l ZZ h1 fun b hb=>hs b (by simp[hb]);refine⟨ZY,?_,h3⟩;rw[Xn];simp only[uW,e1,bs,qX,if_true,e2,vA,e3];rfl
theorem Lj{α β:Type}{g g2:GV}{iv2:IV}{te:EV}{dn:α->D}{dm:β->D}{inn:α->List β}{val:α->β->D}(Pv:G->Prop)(Qv:α->G->Prop){L:M}(hPQ:∀a O,Qv a O->Pv O):∀(l:List α) (O:G),Pv O->
  (∀a∈l,∀O,Pv O->∃ZZ,g (dn a) O L=some (ZZ,L)/\iv2 ZZ L=some (((inn a).map dm,none),L)/\Qv a ZZ)->
  (∀a∈l,∀b∈inn a,∀O,Qv a O->∃ZZ,g2 (dm b) O L=some (ZZ,L)/\te ZZ L=some (val a b,L)/\Qv a ZZ)->
  tW none g qX iv2 g2 qX te (l.map dn) O L=some (l.flatMap fun a=>(inn a).map (val a),L)
 | [],O,_,_,_=>rfl
 |a::l,O,h,hs,hi=>by
  obtain⟨ZZ,e1,e2,h1⟩:=hs a (by simp) O h;obtain⟨ZX,e3,h2⟩:=K7 (Qv a) (inn a) ZZ h1 (hi a (by simp));have ih:=Lj (dm:=dm) (val:=val) Pv Qv hPQ l ZX (hPQ a _ h2) (fun a ha=>hs a (by simp[ha])) fun a ha=>hi a (by simp[ha]);rw[Xn];simp only[tW,e1,bs,qX,if_true,e2,e3,vA];have ih':tW none g (fun _ L=>some (true,L)) iv2 g2 (fun _ L=>some (true,L)) te (l.map dn) ZX L=some (l.flatMap fun a=>(inn a).map (val a),L):=ih;rw[show(qX:BV)=fun _ L=>some (true,L) from rfl] at*;rw[ih'];rfl
def prs(n:Nat):List (Nat×Nat):=(List.range n).flatMap fun i=>(List.range (n - (i+1))).map fun j=>(i,i+1+j)
def FG{n:Nat}{L:M}(hn:n<=100):xa [.int (n:Int)] L=some (.lst ((prs n).map dP),L):=by
 unfold xa Dl;rw[u9,if_pos (show [D.int (n:Int)].length=1 from rfl)];show tP (qO _ [some (.int (n:Int))] L)=_;have hb:(-1000000000:Int)<=(n:Int)/\(n:Int)<=1000000000:=by omega
 have hr:ivR (be 0) [some (.int (n:Int))] L=some (((List.range n).map fun i:Nat=>D.int (i:Int),none),L):=by
  simp[hb,rm]
 have hc:=Lj (g:=qD 0) (g2:=qD 1) (iv2:=wO (v2 rS (be 0) (vC (.int 1))) (be 2)) (te:=vL rZ (qC (be 0) (qC (be 1) qG))) (dn:=fun i:Nat=>D.int (i:Int)) (dm:=fun j:Nat=>D.int (j:Int)) (inn:=fun i=>(List.range (n - (i+1))).map fun j=>i+1+j) (val:=fun i j=>dP (i,j))
  (fun O=>∃a b,O=[a,b,some (.int (n:Int))]) (fun i O=>∃b,O=[some (.int (i:Int)),b,some (.int (n:Int))]) (L:=L) (fun i O ⟨b,e⟩=>⟨_,_,e⟩) (List.range n) [none,none,some (.int (n:Int))] ⟨_,_,rfl⟩ ?_ ?_
 ·have hcap:rJ (["i","j"]:List Str) [("many",0)] [some (.int (n:Int))]=[none,none,some (.int (n:Int))]:=rfl;have hlen:((List.range n).flatMap fun i=>((List.range (n - (i+1))).map fun j=>i+1+j).map (fun j=>dP (i,j))).length<=1000000:=by
   rw[List.length_flatMap];have:∀(l:List Nat),(l.map fun i=>(((List.range (n - (i+1))).map fun j=>i+1+j).map (fun j=>dP (i,j))).length).sum<=l.length*n:=by
    intro l;induction l with
    |nil=>simp
    |cons x l ih=>simp only[Xn,List.sum_cons,Xj,XW,XI] at ih⊢;rw[Nat.add_mul];omega
   have:=this (List.range n);rw[XW] at this;have h2:n*n<=100*100:=Nat.mul_le_mul hn hn;omega
  have e:((List.range n).flatMap fun i=>((List.range (n - (i+1))).map fun j=>i+1+j).map (fun j=>dP (i,j)))=(prs n).map dP:=by
   unfold prs;rw[List.map_flatMap];congr 1;funext i;rw[XS,XS];rfl
  rw[yo,Gj,hr,Ku,hcap,hc,FY,if_pos hlen,e];rfl
 ·rintro i hi O ⟨a,b,rfl⟩;rw[X6] at hi;refine⟨[some (.int (i:Int)),b,some (.int (n:Int))],rfl,?_,⟨_,rfl⟩⟩;have hv:v2 rS (be 0) (vC (.int 1)) [some (.int (i:Int)),b,some (.int (n:Int))] L=some (.int ((i:Int)+1),L):=rfl;have hv2:be 2 [some (.int (i:Int)),b,some (.int (n:Int))] L=some (.int (n:Int),L):=rfl;have hbb:((-1000000000:Int)<=(i:Int)+1/\(i:Int)+1<=1000000000)/\-1000000000<=(n:Int)/\(n:Int)<=1000000000:=by omega
  rw[Hq,hv,Hu,hv2,Il,if_pos hbb];have e2:((n:Int) - ((i:Int)+1)).toNat=n - (i+1):=by omega
  rw[e2];unfold rm;rw[XS];congr 4
 ·rintro i hi j hj O ⟨b,rfl⟩;exact⟨[some (.int (i:Int)),some (.int (j:Int)),some (.int (n:Int))],rfl,rfl,⟨_,rfl⟩⟩
theorem uz{α:Type}{c:Ck}{g:GV}{tc:BV}{te:EV}{dn:α->D}{keep:α->Bool}{val:α->D}(Pv:G->Prop){L:M}{O:G}(hc:qY c L)(l:List α)(h0:Pv O)
  (hs:∀a∈l,∀O,Pv O->Wp (g (dn a) O L) fun ZZ Z5=>Z5=L/\Pv ZZ/\Wp (tc ZZ L) fun b Z3=>b=keep a/\Z3=L/\(keep a=true->Wp (te ZZ L) fun x ZN=>x=val a/\ZN=L)) {R:List D->M->Prop} (hR:R ((l.filter keep).map val) L):Wp (rX c g tc te (l.map dn) O L) R:=by
 refine comp_inv (fun done r O Z6=>∃i,i<=l.length/\Z6=L/\Pv O/\r=(l.drop i).map dn/\done=((l.take i).filter keep).map val) _ ⟨0,by omega,rfl,h0,rfl,rfl⟩ ?_ ?_
 ·rintro done d r O Z6 ⟨i,hi,rfl,hp,e,rfl⟩;have hi':i<l.length:=by
   rcases Nat.lt_or_ge i l.length with z|z
   ·exact z
   ·rw[XY z] at e;cases e
  rw[XC hi',Xn] at e;cases e;have ht:l.take (i+1)=l.take i++[l[i]]:=by rw[List.take_append_getElem hi']
  refine(hs l[i] (XU hi') O hp).imp fun ZZ Z5 ⟨e,hp1,h⟩=>?_;subst e;refine h.imp fun b Z3 ⟨e1,e2,h⟩=>?_;subst e1;subst e2;cases hk:keep l[i] with
  |true=>
   show Wp _ _;refine(h hk).imp fun x ZN ⟨e1,e2⟩=>?_;subst e1;subst e2;refine⟨hc,i+1,hi',rfl,hp1,rfl,?_⟩;rw[ht,List.filter_append,Yl];simp[hk]
  |false=>
   show qY c _/\_;refine⟨hc,i+1,hi',rfl,hp1,rfl,?_⟩;rw[ht,List.filter_append,Yl];simp[hk]
 ·rintro done O Z6 ⟨i,hi,rfl,_,e,rfl⟩;have:l.length<=i:=by
   have:=congrArg List.length e;simp at this;omega
  rw[List.take_of_length_le this];exact hR
def M7{L:M}(l:List Bool):vE (.lst (l.map D.bl)) L=some (.bl (l.all id),L):=by
 have:optAll inB (l.map D.bl)=some l:=by
  have:=v4 (f:=inB) (g:=D.bl) (h:=id) (l:=l) (fun x _=>rfl);simpa using this
 unfold vE;show(optAll inB (l.map D.bl)).bind _=_;rw[this];rfl
def y9{a b:List D}{L:M}(h:a.length+b.length<=1000000):rS (.lst a) (.lst b) L=some (.lst (a++b),L):=if_pos h
def KN{a:List D}{L:M}:rE (.lst a) L=some (.int (a.length:Int),L):=rfl
def zN{ds:List D}{j:Nat}{v:D}{L:M}(h:ds[j]?=some v):fIx (.lst ds) (.int (j:Int)) L=some (v,L):=by
 show(atI ds (j:Int)).bind _=_;rw[vg h];rfl
def KB{n:Nat}{p:Nat×Nat}(h:p∈prs n):p.1<n/\p.2<n/\p.1≠p.2:=by
 unfold prs at h;obtain⟨i,hi,h⟩:=List.mem_flatMap.mp h;obtain⟨j,hj,rfl⟩:=XE.mp h;have h1:=X6.mp hi;have h2:=X6.mp hj;refine⟨h1,?_,?_⟩<;>simp<;>omega
section
variable {L:M} {n:Nat} {C CF CT:Addr}
theorem Ty(o:Option (Option Int)):fEq (uO o) rW L=some (.bl o.isNone,L):=by
 have h1:("open":Str)≠"none":=by decide +kernel
 have h2:PyData.strOk "open"=true:=by decide +kernel
 have po:py 65 L rW=some (.tuple [.str "open"]):=rfl;rcases o with _|_|i
 ·show(eqD rW rW L).bind _=_;have:eqD rW rW L=some true:=by
   show((py 65 L rW).bind fun d=>(py 65 L rW).bind fun e=>if(d.canLay0&&e.canLay0&&decide (d.depth<=64))=true then some (PyData.eqv d e) else none)=_;rw[po];simp[PyData.canLay0,PyData.canLayAll0,PyData.depth,PyData.depthAll,PyData.eqv,PyData.eqvAll,h2]
  rw[this];rfl
 ·show(eqD (dE none) rW L).bind _=_;have:eqD (dE none) rW L=some false:=by
   show((py 65 L (dE none)).bind fun d=>(py 65 L rW).bind fun e=>if(d.canLay0&&e.canLay0&&decide (d.depth<=64))=true then some (PyData.eqv d e) else none)=_;rw[po,zC];simp[pE,PyData.canLay0,PyData.canLayAll0,PyData.depth,PyData.depthAll,PyData.eqv,PyData.eqvAll,h2,so2,h1,h1.symm]
  rw[this];rfl
 ·show(eqD (dE (some i)) rW L).bind _=_;have:eqD (dE (some i)) rW L=some false:=by
   show((py 65 L (dE (some i))).bind fun d=>(py 65 L rW).bind fun e=>if(d.canLay0&&e.canLay0&&decide (d.depth<=64))=true then some (PyData.eqv d e) else none)=_;rw[po,zC];simp[pE,PyData.canLay0,PyData.canLayAll0,PyData.depth,PyData.depthAll,PyData.eqv,PyData.eqvAll,h2,so1]
  rw[this];rfl
theorem FS{as:List An}(hv:Ok2 n as)(hs:as.length<=1000):Wp (dn (wN C) [.int (n:Int),.lst (as.map dA)] L) fun d Z6=>d=.bl (sM as)/\Gr L Z6:=by
 obtain⟨Z6,e,g⟩:=GT (C:=C) (L:=L) Ls.lst hv hs;exact Bn ⟨_,_,e,_,rfl,rfl,g⟩
theorem VM{as:List An}(hv:Ok2 n as)(hs:as.length<=1000)(hn:n<=7)(hf:sD n as≠[]):Wp (dn (BO C CF CT) [.int (n:Int),.lst (as.map dA)] L) fun d Z6=>d=uO (wV (sD n as))/\Gr L Z6:=by
 obtain⟨Z6,e,g⟩:=VQ (C:=C) (CF:=CF) (CT:=CT) (L:=L) Ls.lst hv hs hn hf;exact Bn ⟨_,_,e,_,rfl,rfl,g⟩
end
theorem wpA:type_of%(And.intro @BT (And.intro @B2 (And.intro @FD (And.intro @Fq (And.intro @Fz (And.intro @G7 (And.intro @Jd (And.intro @L1 (And.intro @Iy (And.intro @IN (And.intro @J1 (And.intro @LF (And.intro @Hh (And.intro @JU (And.intro @KJ (And.intro @w_c (And.intro @GK (And.intro @HQ (And.intro @w_T (And.intro @LZ (And.intro @JJ (And.intro @Hg (And.intro @HG (And.intro @HX (And.intro @Mu (And.intro @IQ (And.intro @Mn (And.intro @Ja (And.intro @HJ (And.intro @KK (And.intro @GD (And.intro @G9 (And.intro @q1_ (And.intro @q2_ (And.intro @Lg (And.intro @qL_ (And.intro @qc_ (And.intro @JQ (And.intro @qT_ (And.intro @Mt (And.intro @MH (And.intro @Mp (And.intro @FQ (And.intro @L8 (And.intro @KY (And.intro @Gm (And.intro @K9 (And.intro @Ln (And.intro @JM (And.intro @Lw (And.intro @Lx (And.intro @ME (And.intro @HW (And.intro @G3 (And.intro @LO (And.intro @Mq (And.intro @FA (And.intro @J5 (And.intro @KD (And.intro @Gg (And.intro @Jk (And.intro @LA (And.intro @FW (And.intro @JO (And.intro @IB (And.intro @Me (And.intro @IY (And.intro @MK (And.intro @wp_some (And.intro @ws_some (And.intro @Lq (And.intro @G6 (And.intro @L0 (And.intro @JB (And.intro @Mv (And.intro @Mf (And.intro @Ih (And.intro @JN (And.intro @MC (And.intro @Iu (And.intro @J3 (And.intro @FT (And.intro @Jr (And.intro @IL (And.intro @Lo (And.intro @G5 (And.intro @JH (And.intro @LU (And.intro @JF (And.intro @JY (And.intro @HL (And.intro @FN (And.intro @GW (And.intro @Fn (And.intro @Hr (And.intro @HS (And.intro @Fs (And.intro @Iw (And.intro @Hj (And.intro @Hw (And.intro @Ip (And.intro @Kf (And.intro @GQ (And.intro @LR (And.intro @Kc (And.intro @Iz (And.intro @FB (And.intro @Fv (And.intro @Fo (And.intro @ML (And.intro @HR (And.intro @Mc (And.intro @Jx (And.intro @LY (And.intro @JK (And.intro @Jm (And.intro @HM (And.intro @Kb (And.intro @Lp (And.intro @FU (And.intro @HV (And.intro @Ke (And.intro @HN (And.intro @IS (And.intro @Gc (And.intro @GP (And.intro @Ld (And.intro @Io (And.intro @L7 (And.intro @Lr (@wt_some))))))))))))))))))))))))))))))))))))))))))))))))))))))))))))))))))))))))))))))))))))))))))))))))))))))))))))))))))))))))))))))))))):=And.intro @BT (And.intro @B2 (And.intro @FD (And.intro @Fq (And.intro @Fz (And.intro @G7 (And.intro @Jd (And.intro @L1 (And.intro @Iy (And.intro @IN (And.intro @J1 (And.intro @LF (And.intro @Hh (And.intro @JU (And.intro @KJ (And.intro @w_c (And.intro @GK (And.intro @HQ (And.intro @w_T (And.intro @LZ (And.intro @JJ (And.intro @Hg (And.intro @HG (And.intro @HX (And.intro @Mu (And.intro @IQ (And.intro @Mn (And.intro @Ja (And.intro @HJ (And.intro @KK (And.intro @GD (And.intro @G9 (And.intro @q1_ (And.intro @q2_ (And.intro @Lg (And.intro @qL_ (And.intro @qc_ (And.intro @JQ (And.intro @qT_ (And.intro @Mt (And.intro @MH (And.intro @Mp (And.intro @FQ (And.intro @L8 (And.intro @KY (And.intro @Gm (And.intro @K9 (And.intro @Ln (And.intro @JM (And.intro @Lw (And.intro @Lx (And.intro @ME (And.intro @HW (And.intro @G3 (And.intro @LO (And.intro @Mq (And.intro @FA (And.intro @J5 (And.intro @KD (And.intro @Gg (And.intro @Jk (And.intro @LA (And.intro @FW (And.intro @JO (And.intro @IB (And.intro @Me (And.intro @IY (And.intro @MK (And.intro @wp_some (And.intro @ws_some (And.intro @Lq (And.intro @G6 (And.intro @L0 (And.intro @JB (And.intro @Mv (And.intro @Mf (And.intro @Ih (And.intro @JN (And.intro @MC (And.intro @Iu (And.intro @J3 (And.intro @FT (And.intro @Jr (And.intro @IL (And.intro @Lo (And.intro @G5 (And.intro @JH (And.intro @LU (And.intro @JF (And.intro @JY (And.intro @HL (And.intro @FN (And.intro @GW (And.intro @Fn (And.intro @Hr (And.intro @HS (And.intro @Fs (And.intro @Iw (And.intro @Hj (And.intro @Hw (And.intro @Ip (And.intro @Kf (And.intro @GQ (And.intro @LR (And.intro @Kc (And.intro @Iz (And.intro @FB (And.intro @Fv (And.intro @Fo (And.intro @ML (And.intro @HR (And.intro @Mc (And.intro @Jx (And.intro @LY (And.intro @JK (And.intro @Jm (And.intro @HM (And.intro @Kb (And.intro @Lp (And.intro @FU (And.intro @HV (And.intro @Ke (And.intro @HN (And.intro @IS (And.intro @Gc (And.intro @GP (And.intro @Ld (And.intro @Io (And.intro @L7 (And.intro @Lr (@wt_some))))))))))))))))))))))))))))))))))))))))))))))))))))))))))))))))))))))))))))))))))))))))))))))))))))))))))))))))))))))))))))))))))
local macro_rules | `(tactic| simp!)=>`(tactic| simp only [wpA,List.set_cons_zero,List.set_cons_succ])
local macro_rules | `(tactic| simp! [$ts,*])=>`(tactic| simp only [$ts,*,wpA,List.set_cons_zero,List.set_cons_succ])
def dEl(l:List (Option Int)):D:=.lst (l.map dE)
def so3:PyData.strOk "open"=true:=by decide +kernel
def OU{d:D}{ds:List D}{L:M}:fIx (.lst (d::ds)) (.int 0) L=some (d,L):=by
 rw[Hb,show(0:Int)=((0:Nat):Int) from rfl,vg (j:=0) (v:=d) rfl];rfl
def Uv{Z9:List (List (Option Int))}{L:M}(h0:Z9≠[])(hl:Z9.length<=100000):Wp (uU rW [.lst (Z9.map dEl)] L) fun d Z6=>d=uO (cL Z9)/\Z6=L:=by
 obtain⟨l0,r,rfl⟩:=List.exists_cons_of_ne_nil h0;unfold uU AG;refine(sw rfl).mpr ?_;show Ws (qH _ _ [some (.lst ((l0::r).map dEl)),none] L) _;simp![Xn];rw[OU];simp![dEl];generalize hL:l0::r=Z9 at hl;have hLm:D.lst (l0.map dE)::r.map dEl=Z9.map dEl:=by rw[←hL];rfl
 refine vh (fun rr O Z6=>Z6=L/\(∃o,O=[some (.lst (D.lst (l0.map dE)::r.map dEl)),o])/\∃q,rr=q.map dE/\cL Z9=q.find? fun t=>Z9.all fun l=>decide (t∈l)) _ ⟨rfl,⟨_,rfl⟩,l0,rfl,by rw[←hL];rfl⟩ ?_ ?_
 ·rintro d rr O Z6 ⟨rfl,⟨o,rfl⟩,q,e,hq⟩;cases q with
  |nil=>cases e
  |cons t q=>
   cases e;simp![tG];rw[hLm];refine⟨by simp;omega,?_⟩;show Wp (rX none _ _ _ _ [none,some (dE t)] _) _;refine uz (dn:=dEl) (fun O=>∃o,O=[o,some (dE t)]) (c:=none) trivial Z9 ⟨_,rfl⟩ (keep:=fun _=>true) (val:=fun l=>D.bl (decide (t∈l))) ?_ ?_
   ·rintro l hl O ⟨o,rfl⟩;simp![dEl,Gn];exact⟨trivial,⟨_,rfl⟩,trivial,trivial,fun _=>⟨trivial,trivial⟩⟩
   ·have ef:(Z9.filter fun _=>true).map (fun l=>D.bl (decide (t∈l)))=(Z9.map fun l=>decide (t∈l)).map D.bl:=by
     rw[Yr.mpr (fun _ _=>rfl),XS];rfl
    rw[ef];simp![M7];have ea:(Z9.map fun l=>decide (t∈l)).all id=Z9.all fun l=>decide (t∈l):=by rw[List.all_map];rfl
    rw[ea];rw[Xp] at hq;cases hb:Z9.all fun l=>decide (t∈l) with
    |true=>
     rw[hb] at hq;simp!;rw[hq];exact⟨rfl,trivial⟩
    |false=>
     rw[hb] at hq;simp!;exact⟨trivial,trivial,⟨_,rfl⟩,q,rfl,hq⟩
 ·rintro O Z6 ⟨rfl,⟨o,rfl⟩,q,e,hq⟩;cases q with
  |cons t q=>cases e
  |nil=>
   simp!;rw[hq];exact⟨rfl,trivial⟩
def dTr:Tr->D
 | .e x=>dE x
 | .ask i j a b=>.tup [.str "ask",.int (i:Int),.int (j:Int),dTr a,dTr b]
def dO:Option Tr->D
 |none=>.non
 |some t=>dTr t
def GU(t:Tr):∃ds,dTr t=.tup ds:=by
 cases t with
 |e x=>cases x<;>exact⟨_,rfl⟩
 |ask i j a b=>exact⟨_,rfl⟩
def C7{o:Option Tr}{L:M}:uL (dO o) .non L=some (.bl o.isNone,L):=by
 cases o with
 |none=>rfl
 |some t=>obtain⟨ds,e⟩:=GU t;show uL (dTr t) .non L=_;rw[e];rfl
def y0g{o:Option Tr}{L:M}:vM (dO o) .non L=some (.bl o.isSome,L):=by
 cases o with
 |none=>rfl
 |some t=>obtain⟨ds,e⟩:=GU t;show vM (dTr t) .non L=_;rw[e];rfl
def dN(l:List Nat):D:=.tup ((l.map fun x:Nat=>(x:Int)).map D.int)
structure Sp (n:Nat) (ps:List (Nat×Nat)) (ss:List (List Int)) (es:List (List (Option Int))):Prop where
 len:es.length=ss.length
 few:ss.length<=2000
 sl:∀s∈ss,s.length=n
 pr:∀p∈ps,p.1<n/\p.2<n
 pl:ps.length<=1000
structure Sr (C:Addr) (ps:List (Nat×Nat)) (ss:List (List Int)) (es:List (List (Option Int))) (L:M) (k m:Nat) (kvs:List (NK×D)):Prop where
 obj:L[k]?=some (some (.ins C [("pairs",.lst (ps.map dP)),("sorts",.lst (ss.map fun s=>.lst (s.map D.int))),("ends",.lst (es.map dEl)),("searched",.ref m)]))
 dic:L[m]?=some (some (.dN kvs))
 good:∀p∈kvs,∃(left:List Nat) (a:Nat),p.1=(left.map (fun x:Nat=>(x:Int)),(a:Int))/\p.2=dO (rh ps ss es a left)
section
variable {C:Addr} {n:Nat} {ps:List (Nat×Nat)} {ss:List (List Int)} {es:List (List (Option Int))} {L Z6:M} {k m:Nat} {kvs:List (NK×D)}
theorem Sr.ne(h:Sr C ps ss es L k m kvs):k≠m:=fun e=>by
 have h1:=h.obj;rw[e,h.dic] at h1;cases h1
theorem Sr.f1(h:Sr C ps ss es L k m kvs):tf C "pairs" (.ref k) L=some (.lst (ps.map dP),L):=Am h.obj rfl
theorem Sr.f2(h:Sr C ps ss es L k m kvs):tf C "sorts" (.ref k) L=some (.lst (ss.map fun s=>.lst (s.map D.int)),L):=Am h.obj rfl
theorem Sr.f3(h:Sr C ps ss es L k m kvs):tf C "ends" (.ref k) L=some (.lst (es.map dEl),L):=Am h.obj rfl
theorem Sr.f4(h:Sr C ps ss es L k m kvs):tf C "searched" (.ref k) L=some (.ref m,L):=Am h.obj rfl
def cc:Nat->Nat->Nat
 |0,_=>1
 |a+1,o=>1+o*(2*cc a (o - 1))
def opn(ss:List (List Int))(left:List Nat)(p:Nat×Nat):Bool:=!decide (alk ss p.1 p.2 left=[])&&!decide (unl ss p.1 p.2 left=[])
def op(ps:List (Nat×Nat))(ss:List (List Int))(left:List Nat):Nat:=(ps.filter (opn ss left)).length
theorem LH{α:Type}{f g:α->Bool}(h:∀x,f x=true->g x=true){p:α}(h1:f p=false)(h2:g p=true):∀{l:List α},p∈l->(l.filter f).length+1<=(l.filter g).length:=by
 have le:∀l:List α,(l.filter f).length<=(l.filter g).length:=by
  intro l;induction l with
  |nil=>simp
  |cons x l ih=>
   rw[YF,YF];cases hf:f x with
   |true=>rw[h x hf];simpa using ih
   |false=>cases hg:g x<;>simp<;>omega
 intro l;induction l with
 |nil=>intro m;cases m
 |cons x l ih=>
  intro m;rw[YF,YF];rcases XB.mp m with rfl|m
  ·rw[h1,h2];have:=le l;simp;omega
  ·have:=ih m;cases hf:f x with
   |true=>rw[h x hf];simp;omega
   |false=>cases hg:g x<;>simp<;>omega
theorem Jj{f:Nat->Bool}{l1 l2:List Nat}(hs:∀x∈l1,x∈l2)(h:l2.filter f=[]):l1.filter f=[]:=by
 rw[XZ] at h⊢;exact fun x hx=>h x (hs x hx)
theorem Ho{left l1:List Nat}(hs:∀x∈l1,x∈left)(p:Nat×Nat)(h:opn ss l1 p=true):opn ss left p=true:=by
 unfold opn at h⊢;simp only[XD,Bool.not_eq_true',decide_eq_false_iff_not] at h⊢;exact⟨fun e=>h.1 (Jj hs e),fun e=>h.2 (Jj hs e)⟩
theorem Rj{left:List Nat}{p:Nat×Nat}(hp:p∈ps)(ho:opn ss left p=true):op ps ss (alk ss p.1 p.2 left)+1<=op ps ss left:=by
 refine LH (Ho fun x hx=>(Xz.mp hx).1) ?_ ho hp;have:unl ss p.1 p.2 (alk ss p.1 p.2 left)=[]:=by
  unfold unl alk;rw[XZ];intro x hx;have:=(Xz.mp hx).2;simpa using this
 show opn ss (alk ss p.1 p.2 left) p=false;unfold opn;rw[XO this];simp
theorem Vx{left:List Nat}{p:Nat×Nat}(hp:p∈ps)(ho:opn ss left p=true):op ps ss (unl ss p.1 p.2 left)+1<=op ps ss left:=by
 refine LH (Ho fun x hx=>(Xz.mp hx).1) ?_ ho hp;have:alk ss p.1 p.2 (unl ss p.1 p.2 left)=[]:=by
  unfold unl alk;rw[XZ];intro x hx;have:=(Xz.mp hx).2;simpa using this
 show opn ss (unl ss p.1 p.2 left) p=false;unfold opn;rw[XO this];rfl
theorem K8(a o:Nat):1<=cc a o:=by cases a<;>simp[cc]
theorem Aa:∀(a:Nat) {o o':Nat},o<=o'->cc a o<=cc a o'
 |0,_,_,_=>Xc _
 |a+1,o,o',h=>by
  show 1+o*(2*cc a (o - 1))<=1+o'*(2*cc a (o' - 1));have h1:=Aa a (show o - 1<=o' - 1 by omega);have:=Nat.mul_le_mul h (Nat.mul_le_mul_left 2 h1);omega
abbrev key(left:List Nat)(a:Nat):NK:=(left.map (fun x:Nat=>(x:Int)),(a:Int))
def Tw(C:Addr)(n:Nat)(ps:List (Nat×Nat))(ss:List (List Int))(es:List (List (Option Int)))(a:Nat)(f:C0):Prop:=
 ∀(left:List Nat) (k m:Nat) (kvs:List (NK×D)) (L:M),Sr C ps ss es L k m kvs->left≠[]->(∀x∈left,x<ss.length)->left.length<=2000->(sh kvs (key left a)=none->kvs.length+cc a (op ps ss left)<=15000000)->
  Wp (f [.ref k,dN left,.int (a:Int)] L) fun d Z6=>d=dO (rh ps ss es a left)/\∃kvs',Sr C ps ss es Z6 k m kvs'/\kvs'.length<=kvs.length+(if(sh kvs (key left a)).isSome then 0 else cc a (op ps ss left))/\(sh kvs' (key left a)).isSome=true/\Kp m L Z6
theorem Tw.le{c:Nat}{o:Option D}{a b:Nat}(h:a<=b+(if o.isSome then 0 else c)):a<=b+c:=by
 cases o<;>simp at h<;>omega
theorem DL{ds:List D}{j:Nat}{v:D}{L:M}(h:ds[j]?=some v):fIx (.lst ds) (.int (j:Int)) L=some (v,L):=by
 rw[Hb,vg h];rfl
theorem ix1{x:Nat}{L:M}(hx:x<ss.length):fIx (.lst (ss.map fun s=>.lst (s.map D.int))) (.int (x:Int)) L=some (.lst ((ss.getD x []).map D.int),L):=
 DL (by simp[hx,Xh])
theorem ix2{x i:Nat}{L:M}(S:Sp n ps ss es)(hx:x<ss.length)(hi:i<n):fIx (.lst ((ss.getD x []).map D.int)) (.int (i:Int)) L=some (.int (at2 ss x i),L):=by
 have hs:=S.sl _ (XU hx);refine DL ?_;unfold at2;simp[Xh,hx,Xk (show i<(ss[x]).length by omega)]
theorem Gu{ds:List D}{L:M}:AN (.lst ds) L=some (.tup ds,L):=rfl
theorem FC{ds:List D}{L:M}{RB:Bool->M->Prop}:qTr RB (.tup ds) L↔RB (!ds.isEmpty) L:=⟨fun⟨_,e,q⟩=>by cases e;exact q,fun q=>⟨_,rfl,q⟩⟩
theorem zK{l:List Nat}:(l.map fun x:Nat=>(x:Int)).map D.int=l.map fun x:Nat=>D.int (x:Int):=by rw[XS];rfl
theorem isE{l:List Nat}:(!((l.map fun x:Nat=>(x:Int)).map D.int).isEmpty)=!decide (l=[]):=by cases l<;>rfl
theorem Th{f:C0}{a:Nat}(S:Sp n ps ss es)(T:Tw C n ps ss es a f){left:List Nat}{p:Nat×Nat}(h:Sr C ps ss es L k m kvs)(hm:p∈ps)(hl:∀x∈left,x<ss.length)(hll:left.length<=2000)(hc:opn ss left p=true->kvs.length+2*cc a (op ps ss left - 1)<=15000000):
  Wp (xF f C [.ref k,.int (p.1:Int),.int (p.2:Int),dN left,.int ((a+1:Nat):Int)] L) fun d Z6=>d=dO (vQ ss (rh ps ss es a) left p)/\∃kvs',Sr C ps ss es Z6 k m kvs'/\kvs'.length<=kvs.length+(if opn ss left p=true then 2*cc a (op ps ss left - 1) else 0)/\Kp m L Z6:=by
 have hp:=S.pr p hm;unfold xF C4;refine(sw rfl).mpr ?_;show Ws (qH _ _ [some (.ref k),some (.int (p.1:Int)),some (.int (p.2:Int)),some (dN left),some (.int ((a+1:Nat):Int)),none,none,none,none] L) _;unfold dN;simp![tG,Xj];refine⟨by omega,?_⟩;rw[zK];refine uz (dn:=fun x:Nat=>D.int (x:Int)) (fun O=>∃o,O=[o,some (.ref k),some (.int (p.1:Int)),some (.int (p.2:Int))]) (c:=none) trivial left ⟨_,rfl⟩ (keep:=fun x=>decide (at2 ss x p.1=at2 ss x p.2)) (val:=fun x:Nat=>D.int (x:Int)) ?_ ?_
 ·rintro x hx O ⟨o,rfl⟩;simp![h.f2,ix1 (hl x hx),ix2 S (hl x hx) hp.1,ix2 S (hl x hx) hp.2];exact⟨trivial,⟨_,rfl⟩,trivial,trivial,fun _=>⟨trivial,trivial⟩⟩
 have ea:(left.filter fun x=>decide (at2 ss x p.1=at2 ss x p.2)).map (fun x:Nat=>D.int (x:Int))=((alk ss p.1 p.2 left).map fun x:Nat=>(x:Int)).map D.int:=by rw[zK];rfl
 rw[ea];simp![Gu,tG,Xj];refine⟨by omega,?_⟩;refine uz (dn:=fun x:Nat=>D.int (x:Int)) (fun O=>∃o,O=[o,some (.ref k),some (.int (p.1:Int)),some (.int (p.2:Int))]) (c:=none) trivial left ⟨_,rfl⟩ (keep:=fun x=>!decide (at2 ss x p.1=at2 ss x p.2)) (val:=fun x:Nat=>D.int (x:Int)) ?_ ?_
 ·rintro x hx O ⟨o,rfl⟩;simp![h.f2,ix1 (hl x hx),ix2 S (hl x hx) hp.1,ix2 S (hl x hx) hp.2];exact⟨trivial,⟨_,rfl⟩,trivial,trivial,fun _=>⟨trivial,trivial⟩⟩
 have eu:(left.filter fun x=>!decide (at2 ss x p.1=at2 ss x p.2)).map (fun x:Nat=>D.int (x:Int))=((unl ss p.1 p.2 left).map fun x:Nat=>(x:Int)).map D.int:=by rw[zK];rfl
 rw[eu];have la:(alk ss p.1 p.2 left).length<=2000:=Xy (X3 _ _) hll;have lu:(unl ss p.1 p.2 left).length<=2000:=Xy (X3 _ _) hll;have ma:∀x∈alk ss p.1 p.2 left,x<ss.length:=fun x hx=>hl x (Xz.mp hx).1;have mu:∀x∈unl ss p.1 p.2 left,x<ss.length:=fun x hx=>hl x (Xz.mp hx).1;simp![Gu,FC,isE];unfold vQ;have hop:opn ss left p=(!decide (alk ss p.1 p.2 left=[])&&!decide (unl ss p.1 p.2 left=[])):=rfl;have hoa:=Rj (ss:=ss) (left:=left) hm;have hou:=Vx (ss:=ss) (left:=left) hm;generalize opn ss left p=bo at hop hoa hou hc;generalize alk ss p.1 p.2 left=al at la ma hop hoa;generalize unl ss p.1 p.2 left=un at lu mu hop hou;by_cases ha:al=[]
 ·rw[XO ha,if_pos (.inl ha)];simp![Xt,X9];exact⟨rfl,kvs,h,by omega,.refl⟩
 ·rw[Xs ha];simp![Xt,X9,FC,isE];by_cases hu:un=[]
  ·rw[XO hu,if_pos (.inr hu)];simp![Xt,X9];exact⟨rfl,kvs,h,by omega,.refl⟩
  ·rw[Xs hu,if_neg (fun z=>z.elim ha hu)];have hbo:bo=true:=by rw[hop,Xs ha,Xs hu];rfl
   subst hbo;have c0:=hc rfl;have c1:=Aa a (show op ps ss al<=op ps ss left - 1 by have:=hoa rfl;omega);have c2:=Aa a (show op ps ss un<=op ps ss left - 1 by have:=hou rfl;omega);rw[if_pos rfl];simp![Xt,X9];rw[xP h.obj rfl];simp!;have e1:((a+1:Nat):Int) - 1=(a:Int):=by omega
   rw[e1];refine(T al k m kvs L h ha ma la (fun _=>by omega)).imp ?_;rintro _ Z5 ⟨rfl,kvs1,h1,hl1,_,g1⟩;have hl1:=Tw.le hl1;simp![C7];cases hta:rh ps ss es a al with
   |none=>
    simp![Option.isNone_none];exact⟨rfl,kvs1,h1,by omega,g1⟩
   |some ta=>
    simp![Option.isNone_some];rw[xP h1.obj rfl];simp!;rw[e1];refine(T un k m kvs1 Z5 h1 hu mu lu (fun _=>by omega)).imp ?_;rintro _ Z3 ⟨rfl,kvs2,h2,hl2,_,g2⟩;have hl2:=Tw.le hl2;simp![C7];cases htu:rh ps ss es a un with
    |none=>
     simp![Option.isNone_none];exact⟨rfl,kvs2,h2,by omega,g1.trans g2⟩
    |some tu=>
     simp![Option.isNone_some];rw[tz (by simp)];simp!;exact⟨rfl,kvs2,h2,by omega,g1.trans g2⟩
end
def VE{o:Option (Option Int)}{L:M}:fNe (uO o) rW L=some (.bl o.isSome,L):=by
 have key:∀(x:PyData),py 65 L (uO o)=some x->x.canLay0=true->x.depth<=64->PyData.eqv x (.tuple [.str "open"])=!o.isSome->fNe (uO o) rW L=some (.bl o.isSome,L):=by
  intro x h1 h2 h3 h4;have e2:py 65 L rW=some (.tuple [.str "open"]):=rfl;have l2:(PyData.tuple [.str "open"]).canLay0=true:=by simp[PyData.canLay0,PyData.canLayAll0,so3]
  have ee:eqD (uO o) rW L=some (!o.isSome):=by
   have:eqD (uO o) rW L=(py 65 L (uO o)).bind fun d=>(py 65 L rW).bind fun e=>if(d.canLay0&&e.canLay0&&decide (d.depth<=64))=true then some (PyData.eqv d e) else none:=by
    cases o with
    |none=>rfl
    |some t=>cases t<;>rfl
   rw[this,h1,e2];simp only[Option.bind_some,h2,l2,XO h3,Bool.and_self,if_true,h4]
  unfold fNe;rw[ee];simp
 cases o with
 |none=>exact key (.tuple [.str "open"]) rfl (by simp[PyData.canLay0,PyData.canLayAll0,so3]) (by simp[PyData.depth,PyData.depthAll]) (by simp[PyData.eqv,PyData.eqvAll])
 |some t=>
  refine key (pE t) (zC t) (Dt t) (Xy (Gh t) (by decide)) ?_;cases t with
  |none=>simp[pE,PyData.eqv,PyData.eqvAll];decide +kernel
  |some t=>simp[pE,PyData.eqv,PyData.eqvAll]
section
variable {C:Addr} {n:Nat} {ps:List (Nat×Nat)} {ss:List (List Int)} {es:List (List (Option Int))} {L Z6:M} {k m:Nat} {kvs:List (NK×D)}
theorem ix3{x:Nat}{L:M}(hx:x<es.length):fIx (.lst (es.map dEl)) (.int (x:Int)) L=some (dEl (es.getD x []),L):=DL (by simp[hx,Xh])
abbrev Bc(C:Addr)(f:C0):C0:=BH (uU rW) (xF f C) rW C
theorem UR{f:C0}{a:Nat}(S:Sp n ps ss es)(T:∀b,b+1=a->Tw C n ps ss es b f){left:List Nat}(h:Sr C ps ss es L k m kvs)(h0:left≠[])(hl:∀x∈left,x<ss.length)(hll:left.length<=2000)(hc:kvs.length+cc a (op ps ss left)<=15000000):
  Wp (Bc C f [.ref k,dN left,.int (a:Int)] L) fun d Z6=>d=dO (rh ps ss es a left)/\∃kvs',Sr C ps ss es Z6 k m kvs'/\kvs'.length+1<=kvs.length+cc a (op ps ss left)/\Kp m L Z6:=by
 unfold Bc BH DH;refine(sw rfl).mpr ?_;show Ws (qH _ _ [some (.ref k),some (dN left),some (.int (a:Int)),none,none,none,none] L) _;unfold dN;simp![tG,Xj];refine⟨by omega,?_⟩;rw[zK];refine uz (dn:=fun x:Nat=>D.int (x:Int)) (fun O=>∃o,O=[o,some (.ref k)]) (c:=none) trivial left ⟨_,rfl⟩ (keep:=fun _=>true) (val:=fun x:Nat=>dEl (es.getD x [])) ?_ ?_
 ·rintro x hx O ⟨o,rfl⟩;simp![h.f3,ix3 (show x<es.length by rw[S.len];exact hl x hx)];exact⟨trivial,⟨_,rfl⟩,trivial,trivial,fun _=>⟨trivial,trivial⟩⟩
 have ev:(left.filter fun _=>true).map (fun x:Nat=>dEl (es.getD x []))=(left.map fun x=>es.getD x []).map dEl:=by
  rw[Yr.mpr (fun _ _=>rfl),XS];rfl
 rw[ev,←zK];refine(Uv (by simpa using h0) (by simp;omega)).imp ?_;rintro _ Z5 ⟨rfl,rfl⟩;simp![VE];have hcE:cL (left.map fun x=>es.getD x [])=cE es left:=rfl;rw[hcE];have hpos:=K8 a (op ps ss left);cases he:cE es left with
 |some x=>
  simp![Option.isSome_some];have et:rh ps ss es a left=some (.e x):=by cases a<;>simp[rh,he]
  rw[et];exact⟨rfl,kvs,h,by omega,.refl⟩
 |none=>
  simp![Option.isSome_none];cases a with
  |zero=>
   have et:rh ps ss es 0 left=none:=by simp[rh,he]
   rw[et];simp![Int.natCast_zero,decide_true];exact⟨rfl,kvs,h,by omega,.refl⟩
  |succ a=>
   have ez:decide (((a+1:Nat):Int)=0)=false:=Xs (by omega);rw[ez];simp![h.f1];have et:rh ps ss es (a+1) left=ps.findSome? (vQ ss (rh ps ss es a) left):=by simp[rh,he]
   rw[et];have hcc:cc (a+1) (op ps ss left)=1+op ps ss left*(2*cc a (op ps ss left - 1)):=rfl;rw[hcc] at hc⊢;generalize hq:cc a (op ps ss left - 1)=q at hc⊢;refine vh (fun rr O Z6=>∃qs kvs' o3 o4 o5 o6,rr=qs.map dP/\(∀p∈qs,p∈ps)/\ps.findSome? (vQ ss (rh ps ss es a) left)=qs.findSome? (vQ ss (rh ps ss es a) left)/\O=[some (.ref k),some (.tup ((left.map fun x:Nat=>(x:Int)).map D.int)),some (.int ((a+1:Nat):Int)),o3,o4,o5,o6]/\Sr C ps ss es Z6 k m kvs'/\kvs'.length+op qs ss left*(2*q)<=kvs.length+op ps ss left*(2*q)/\Kp m Z5 Z6) _ ⟨ps,kvs,_,_,_,_,rfl,fun p h=>h,rfl,rfl,h,by omega,.refl⟩ ?_ ?_
   ·rintro d rr O Z3 ⟨qs,kvs2,o3,o4,o5,o6,e,hm,hf,rfl,h2,hl2,g2⟩;cases qs with
    |nil=>cases e
    |cons p qs=>
     cases e;have e3:op (p::qs) ss left*(2*q)=op qs ss left*(2*q)+(if opn ss left p=true then 2*q else 0):=by
      unfold op;rw[YF];cases opn ss left p with
      |true=>simp[Nat.add_mul]
      |false=>simp
     rw[e3] at hl2;unfold dP;rw[wY (n:=2) rfl];simp!;rw[xP h2.obj rfl];simp!;refine(Th S (T a rfl) (p:=p) h2 (hm p (by simp)) hl hll (fun ho=>by rw[hq];rw[if_pos ho] at hl2;omega)).imp ?_;rintro _ ZN ⟨rfl,kvs3,h3,hl3,g3⟩;rw[hq] at hl3;simp![y0g];rw[List.findSome?_cons] at hf;cases ha:vQ ss (rh ps ss es a) left p with
     |some t=>
      rw[ha] at hf;simp![Option.isSome_some];rw[hf];exact⟨rfl,kvs3,h3,by omega,g2.trans g3⟩
     |none=>
      rw[ha] at hf;simp![Option.isSome_none];exact⟨trivial,qs,kvs3,_,_,_,_,rfl,fun p h=>hm p (by simp[h]),hf,rfl,h3,by omega,g2.trans g3⟩
   ·rintro O Z3 ⟨qs,kvs2,o3,o4,o5,o6,e,hm,hf,rfl,h2,hl2,g2⟩;cases qs with
    |cons p qs=>cases e
    |nil=>
     simp!;rw[hf];refine⟨rfl,kvs2,h2,?_,g2⟩;omega
abbrev Ei(C:Addr)(f:C0):C0:=Aj (Bc C f) C
theorem La{f:C0}{a:Nat}(S:Sp n ps ss es)(T:∀b,b+1=a->Tw C n ps ss es b f):Tw C n ps ss es a (Ei C f):=by
 intro left k m kvs L h h0 hl hll hc;have hpos:=K8 a (op ps ss left);unfold Ei Aj Cb;refine(sw rfl).mpr ?_;show Ws (qH _ _ [some (.ref k),some (dN left),some (.int (a:Int))] L) _;simp!;rw[tz (by simp)];simp![h.f4];unfold dN;rw[QK h.dic];simp!;cases hv:sh kvs (left.map (fun x:Nat=>(x:Int)),(a:Int)) with
 |some d=>
  simp![Option.isSome_some,Xt,h.f4];rw[tz (by simp)];simp!;rw[C5 h.dic hv];simp!;obtain⟨left',a',e1,e2⟩:=h.good _ (D0 hv);have ea:a'=a:=by
   have:=congrArg Prod.snd e1;simp at this;omega
  have el:left'=left:=by
   have:=congrArg Prod.fst e1;simp only at this;exact(List.map_inj_right (fun x y e=>by have e:(x:Int)=(y:Int):=e;omega)).mp this.symm
  subst ea el;exact⟨e2,kvs,h,by simp,by rw[hv];rfl,.refl⟩
 |none=>
  simp![Option.isSome_none,X9];rw[xP h.obj rfl];simp!;have hc:=hc hv;refine(UR S T (left:=left) h h0 hl hll hc).imp ?_;rintro _ Z5 ⟨rfl,kvs1,h1,hl1,g1⟩;simp![h1.f4];rw[tz (by simp)];simp!;rw[Pe h1.dic (by omega)];simp!;cases hv1:sh kvs1 (left.map (fun x:Nat=>(x:Int)),(a:Int)) with
  |none=>
   obtain⟨w1,w2⟩:=Pn (d:=dO (rh ps ss es a left)) hv1;rw[w2] at w1;rw[w2];have h2:Sr C ps ss es (Z5.set m (some (.dN (kvs1++[((left.map (fun x:Nat=>(x:Int)),(a:Int)),dO (rh ps ss es a left))])))) k m (kvs1++[((left.map (fun x:Nat=>(x:Int)),(a:Int)),dO (rh ps ss es a left))]):=by
    refine⟨by rw[sT h1.ne];exact h1.obj,tj h1.dic,?_⟩;intro p hp;rcases XM.mp hp with hp|hp
    ·exact h1.good p hp
    ·rw[XX] at hp;subst hp;exact⟨left,a,rfl,rfl⟩
   simp![h2.f4];rw[tz (by simp)];simp!;rw[C5 h2.dic w1];simp!;exact⟨trivial,_,h2,by simp;omega,by rw[w1];rfl,g1.trans yh⟩
  |some d1=>
   obtain⟨left',a',e1,e2⟩:=h1.good _ (D0 hv1);have ea:a'=a:=by
    have:=congrArg Prod.snd e1;simp at this;omega
   have el:left'=left:=by
    have:=congrArg Prod.fst e1;simp only at this;exact(List.map_inj_right (fun x y e=>by have e:(x:Int)=(y:Int):=e;omega)).mp this.symm
   subst ea el;have e2:d1=dO (rh ps ss es a' left'):=e2;subst e2;have hm1:=D0 hv1;generalize hK:((left'.map (fun x:Nat=>(x:Int)),(a':Int)):NK)=K at hv1 hm1;have hany:(kvs1.any fun kv=>decide (kv.1=K))=true:=by
    rw[Ys];exact⟨_,hm1,by simp⟩
   have hp2:ux kvs1 K (dO (rh ps ss es a' left'))=kvs1.map fun kv=>if kv.1=K then(kv.1,dO (rh ps ss es a' left')) else kv:=by unfold ux;rw[if_pos hany]
   rw[hp2];have hval:sh (kvs1.map fun kv=>if kv.1=K then(kv.1,dO (rh ps ss es a' left')) else kv) K=some (dO (rh ps ss es a' left')):=by
    clear hp2 hany hm1 hl1 h1 hc;unfold sh at hv1⊢;induction kvs1 with
    |nil=>cases hv1
    |cons z r ih=>
     rw[Xn];by_cases hz:z.1=K
     ·simp[Xp,hz]
     ·simp only[Xp,hz,decide_false,if_false] at hv1⊢;exact ih hv1
   have h2:Sr C ps ss es (Z5.set m (some (.dN (kvs1.map fun kv=>if kv.1=K then(kv.1,dO (rh ps ss es a' left')) else kv)))) k m (kvs1.map fun kv=>if kv.1=K then(kv.1,dO (rh ps ss es a' left')) else kv):=by
    refine⟨by rw[sT h1.ne];exact h1.obj,tj h1.dic,?_⟩;intro p hp;obtain⟨z,hz,rfl⟩:=XE.mp hp;by_cases e:z.1=K
    ·rw[if_pos e];exact⟨left',a',by rw[hK];exact e,rfl⟩
    ·rw[if_neg e];exact h1.good z hz
   simp![h2.f4];rw[tz (by simp)];simp!;rw[←hK] at hval h2⊢;rw[C5 h2.dic hval];simp!;exact⟨trivial,_,h2,by simp;omega,by rw[hval];rfl,g1.trans yh⟩
def wT(C:Addr):Nat->List D->M->Fr
 |0=>fun _ _=>none
 |f+1=>Ei C (wT C f)
theorem KZ(S:Sp n ps ss es):∀(a f:Nat),a<f->Tw C n ps ss es a (wT C f)
 |a,0,h=>by omega
 |0,f+1,_=>La S fun b e=>by omega
 |a+1,f+1,h=>La S fun b e=>by
  have:b=a:=by omega
  subst this;exact KZ S b f (by omega)
end
def Kw{n m:Nat}{s:List Int}(h:s∈(Sx n m).map (·.1)):s.length=n:=by
 obtain⟨p,hp,rfl⟩:=XE.mp h;exact((yk m n p hp).len)
section
variable {C:Addr} {n:Nat} {ss:List (List Int)} {es:List (List (Option Int))} {L:M}
abbrev BG(C:Addr):C0:=BE xa C
theorem pf2{d p:D}:sH "sorts" d [("pairs",p)]=([("pairs",p),("sorts",d)]:List (Str×D)):=by
 unfold sH;rw[if_neg (by decide +kernel)];rfl
theorem pf3{d p q:D}:sH "ends" d [("pairs",p),("sorts",q)]=([("pairs",p),("sorts",q),("ends",d)]:List (Str×D)):=by
 unfold sH;rw[if_neg (by decide +kernel)];unfold sH;rw[if_neg (by decide +kernel)];rfl
theorem pf4{d p q r:D}:sH "searched" d [("pairs",p),("sorts",q),("ends",r)]=([("pairs",p),("sorts",q),("ends",r),("searched",d)]:List (Str×D)):=by
 unfold sH;rw[if_neg (by decide +kernel)];unfold sH;rw[if_neg (by decide +kernel)];unfold sH;rw[if_neg (by decide +kernel)];rfl
theorem R1(hn:n<=100){k:Nat}(hk:L[k]?=some (some (.ins C []))):Wp (BG C [.ref k,.int (n:Int),.lst (ss.map dI),.lst (es.map dEl)] L) fun d Z6=>d=.non/\∃m,L.length<=m/\Sr C (prs n) ss es Z6 k m []/\Kp k L Z6:=by
 unfold BG BE E5;refine(sw rfl).mpr ?_;show Ws (qH _ _ [some (.ref k),some (.int (n:Int)),some (.lst (ss.map dI)),some (.lst (es.map dEl))] L) _;simp![FG hn];rw[Aw hk (by simp)];simp!;have h1:(L.set k (some (Z8.ins C (sH "pairs" (.lst ((prs n).map dP)) []))))[k]?=some (some (Z8.ins C [("pairs",.lst ((prs n).map dP))])):=tj hk;have g1:Kp k L (L.set k (some (Z8.ins C (sH "pairs" (.lst ((prs n).map dP)) [])))):=yh;generalize L.set k (some (Z8.ins C (sH "pairs" (.lst ((prs n).map dP)) [])))=Z5 at h1 g1;rw[Aw h1 (by simp)];simp!;rw[pf2];have h2:=tj (y:=some (Z8.ins C [("pairs",.lst ((prs n).map dP)),("sorts",.lst (ss.map dI))])) h1;have g2:Kp k Z5 (Z5.set k (some (Z8.ins C [("pairs",.lst ((prs n).map dP)),("sorts",.lst (ss.map dI))]))):=yh;generalize Z5.set k (some (Z8.ins C [("pairs",.lst ((prs n).map dP)),("sorts",.lst (ss.map dI))]))=Z3 at h2 g2;rw[Aw h2 (by simp)];simp!;rw[pf3];have h3:=tj (y:=some (Z8.ins C [("pairs",.lst ((prs n).map dP)),("sorts",.lst (ss.map dI)),("ends",.lst (es.map dEl))])) h2;have g3:Kp k Z3 (Z3.set k (some (Z8.ins C [("pairs",.lst ((prs n).map dP)),("sorts",.lst (ss.map dI)),("ends",.lst (es.map dEl))]))):=yh;generalize Z3.set k (some (Z8.ins C [("pairs",.lst ((prs n).map dP)),("sorts",.lst (ss.map dI)),("ends",.lst (es.map dEl))]))=ZN at h3 g3;have g03:=(g1.trans g2).trans g3;have ev:D9 [some (.ref k),some (.int (n:Int)),some (.lst (ss.map dI)),some (.lst (es.map dEl))] ZN=some (.ref ZN.length,ZN++[some (.dN [])]):=rfl;rw[ev];simp!;have h4:(ZN++[some (Z8.dN [])])[k]?=some (some (Z8.ins C [("pairs",.lst ((prs n).map dP)),("sorts",.lst (ss.map dI)),("ends",.lst (es.map dEl))])):=gr_app.get h3;rw[Aw h4 (by simp)];simp!;rw[pf4];have hk3:k<ZN.length:=(Xe.mp h3).1;refine⟨trivial,ZN.length,g03.len,⟨tj h4,?_,fun p h=>by cases h⟩,(g03.trans Wu).trans yh⟩;rw[sT (by omega)];simp
theorem Vy{O:G}{i:Nat}{x:Int}{Q:Out->G->M->Prop}(h:O[i]?=some (some (.int x)))(hQ:Q .nx (O.set i (some (.int (x+1)))) L):Ws (xY i CC (vC (.int 1)) O L) Q:=by
 unfold xY;rw[h];exact ws_some.mpr hQ
abbrev A6(C:Addr):C0:=BD (BG C) (wT C 10) C
def cs(o:Nat):Nat->Nat
 |0=>0
 |a+1=>cs o a+cc a o
theorem NV{o a b:Nat}(h:a<=b):cs o a<=cs o b:=by
 induction h with
 |refl=>exact Xc _
 |step _ ih=>exact Xy ih (Nat.le_add_right _ _)
theorem Rx{N:Nat}{t:Tr}(hn:n<=100)(S:Sp n (prs n) ss es)(h0:ss≠[])(hN:N<10)(ht:rh (prs n) ss es N (List.range ss.length)=some t)(hno:∀a,a<N->rh (prs n) ss es a (List.range ss.length)=none)(hcc:cs (prs n).length (N+1)<=15000000):
  Wp (A6 C [.int (n:Int),.lst (ss.map dI),.lst (es.map dEl)] L) fun d Z6=>d=.tup [.int (N:Int),dTr t]/\Gr L Z6:=by
 unfold A6 BD Eu;refine(sw rfl).mpr ?_;show Ws (qH _ _ [some (.int (n:Int)),some (.lst (ss.map dI)),some (.lst (es.map dEl)),none,none,none] L) _;rw[BT,B2];refine zxx ?_;simp![Rk];refine(R1 (C:=C) (n:=n) (ss:=ss) (es:=es) (k:=L.length) hn (by simp)).imp ?_;rintro _ Z5 ⟨rfl,m,hml0,h1,g1⟩;have hml:L.length<=m:=by simp at hml0;omega
 have hG:Gr L Z5:=by
  refine⟨by have:=g1.len;simp at this;omega,fun j hj=>?_⟩;rw[g1.at_ j (by simp;omega) (by omega),Xq hj]
 have hlen:(List.range ss.length)≠[]:=by
  intro e;have:=congrArg List.length e;simp at this;exact h0 this
 have hlt:∀x∈List.range ss.length,x<ss.length:=fun x hx=>X6.mp hx;have hfew:(List.range ss.length).length<=2000:=by rw[XW];exact S.few
 have e5:za (.int (ss.length:Int)) Z5=some (dN (List.range ss.length),Z5):=by
  have hb:(0:Int)<=(ss.length:Int)/\(ss.length:Int)<=1000000:=by have:=S.few;omega
  unfold za;simp only;rw[if_pos hb];unfold dN rm;rw[XS];simp
 simp![Rz,Xj,e5];refine⟨trivial,?_⟩;refine Wm (fun O Z6=>∃a kvs,a<=N/\O=[some (.int (n:Int)),some (.lst (ss.map dI)),some (.lst (es.map dEl)),some (.ref L.length),some (dN (List.range ss.length)),some (.int (a:Int))]/\Sr C (prs n) ss es Z6 L.length m kvs/\kvs.length<=cs (prs n).length a/\Gr L Z6) (fun O _=>match O with
  | [_,_,_,_,_,some (.int a)]=>N - a.toNat
  |_=>0) 1000000 ⟨0,[],by omega,rfl,h1,Xc _,hG⟩ (by show N - (0:Int).toNat<1000000;omega) ?_
 rintro O Z3 ⟨a,kvs,ha,rfl,h2,hl2,g2⟩;have hca:=NV (o:=(prs n).length) (show a+1<=N+1 by omega);have hcs:cs (prs n).length (a+1)=cs (prs n).length a+cc a (prs n).length:=rfl;have hop:=Aa a (show op (prs n) ss (List.range ss.length)<=(prs n).length from X3 _ _);have T:=KZ (C:=C) S a 10 (by omega);simp!;rw[xP h2.obj rfl];simp!;refine(T (List.range ss.length) L.length m kvs Z3 h2 hlen hlt hfew (fun _=>by omega)).imp ?_;rintro _ ZN ⟨rfl,kvs3,h3,hl3,hk3,g3⟩;have hl3:=Tw.le hl3;have hG3:Gr L ZN:=⟨Xy g2.len g3.len,fun j hj=>by rw[g3.at_ j (by have:=g2.len;omega) (by omega)];exact g2.at_ j hj⟩
 simp![C7];by_cases hlt2:a<N
 ·rw[hno a hlt2];simp only[Option.isNone_none,if_true];refine Vy (x:=(a:Int)) rfl ?_;refine⟨⟨a+1,kvs3,by omega,by simp,h3,by omega,hG3⟩,?_⟩;show N - ((a:Int)+1).toNat<N - (a:Int).toNat
  omega
 ·have:a=N:=by omega
  subst this;rw[ht];simp![Option.isNone_some,XL,if_false];rw[xP h3.obj rfl];simp!;refine(T (List.range ss.length) L.length m kvs3 ZN h3 hlen hlt hfew (fun z=>by rw[z] at hk3;cases hk3)).imp ?_;rintro _ Zs ⟨rfl,kvs4,h4,hl4,_,g4⟩;have hG4:Gr L Zs:=⟨Xy hG3.len g4.len,fun j hj=>by rw[g4.at_ j (by have:=hG3.len;omega) (by omega)];exact hG3.at_ j hj⟩
  simp!;rw[tz (by simp)];simp!;rw[ht];exact⟨rfl,hG4⟩
end
def msk(f:Nat->Bool):Nat->Nat
 |0=>0
 |n+1=>msk f n|||(if f n then 2^n else 0)
theorem DA(f:Nat->Bool)(x:Nat):∀n,(msk f n).testBit x=(decide (x<n)&&f x)
 |0=>by simp[msk]
 |n+1=>by
  rw[msk,Nat.testBit_or,DA f x n];have h2:(if f n then 2^n else 0:Nat).testBit x=(decide (n=x)&&f n):=by
   cases f n with
   |true=>simp[Nat.testBit_two_pow]
   |false=>simp
  rw[h2];by_cases e:n=x
  ·subst e;simp
  ·by_cases h:x<n
   ·simp[e,h,show x<n+1 by omega]
   ·simp[e,h,show ¬x<n+1 by omega]
def pmO(ps:List (Nat×Nat))(ss:List (List Int)):List (Nat×Nat):=ps.map fun p=>(msk (fun x=>decide (at2 ss x p.1=at2 ss x p.2)) ss.length,msk (fun x=>!decide (at2 ss x p.1=at2 ss x p.2)) ss.length)
def emO(ends:List (Option Int))(es:List (List (Option Int)))(n:Nat):List Nat:=ends.map fun e=>msk (fun x=>decide (e∈es.getD x [])) n
def RX(ps:List (Nat×Nat))(ss:List (List Int))(es:List (List (Option Int)))(ends:List (Option Int))(h:∀x,x<ss.length->∀e∈es.getD x [],e∈ends):Mk ps ss es (pmO ps ss) (emO ends es ss.length) ends:=by
 refine⟨by simp[pmO],?_,by simp[emO],?_,h⟩
 ·intro k p q hp hq x hx;simp only[pmO,Xw,hp,Option.map_some,Option.some.injEq] at hq;subst hq;simp[DA,hx]
 ·intro k e q he hq x hx;simp only[emO,Xw,he,Option.map_some,Option.some.injEq] at hq;subst hq;simp[DA,hx]
def rn(n m:Nat):List (List Int):=(Sx n m).map (·.1)
def sm(n m:Nat):List (List (Option Int)):=(rn n m).map hE
def vH(n:Nat):List (Option Int):=none::(List.range n).map fun t:Nat=>some (t:Int)
def O0(n:Nat):Ms (List.range n) (2^n - 1):=fun x=>by rw[X6,Nat.testBit_two_pow_sub_one];simp
def CB{n m a:Nat}{pm:List (Nat×Nat)}{em:List Nat}{Z9:Nat}(hL:(rn n m).length=Z9)(h0:0<Z9)(he:((sm n m).all fun l=>l.all fun e=>decide (e∈vH n))=true)(h1:pmO (prs n) (rn n m)=pm)(h2:emO (vH n) (sm n m) Z9=em)(h3:wa pm em a (2^Z9 - 1)=true):∀b,b<=a->rh (prs n) (rn n m) (sm n m) b (List.range (rn n m).length)=none:=by
 have top:rh (prs n) (rn n m) (sm n m) a (List.range (rn n m).length)=none:=by
  have K:=RX (prs n) (rn n m) (sm n m) (vH n) (fun x hx e h=>by
   have hx':x<(sm n m).length:=by simp[sm];exact hx
   have hm:(sm n m).getD x []∈sm n m:=by rw[Xh,Xk hx'];exact XU _
   have:=XJ.mp (XJ.mp he _ hm) e h;simpa using this)
  rw[hL] at K;rw[h1,h2] at K;refine none_of K a _ _ (O0 _) (fun x hx=>X6.mp hx) ?_ (by rw[hL];exact h3);intro e;have:=congrArg List.length e;rw[XW,hL] at this;simp at this;omega
 intro b hb;have step:∀k,∀b,b+k=a->rh (prs n) (rn n m) (sm n m) b (List.range (rn n m).length)=none:=by
  intro k;induction k with
  |zero=>
   intro b e;have:b=a:=by omega
   subst this;exact top
  |succ k ih=>
   intro b e;exact LW _ _ (ih (b+1) (by omega))
 exact step (a - b) b (by omega)
def wfB(ps:List (Nat×Nat)):Tr->Bool
 | .e _=>true
 | .ask i j a b=>decide ((i,j)∈ps)&&(wfB ps a&&wfB ps b)
theorem CZ{ps:List (Nat×Nat)}:∀{t:Tr},wfB ps t=true->wf ps t
 | .e _,_=>trivial
 | .ask i j a b,h=>by
  simp only[wfB,XD,Yh] at h;exact⟨h.1,CZ h.2.1,CZ h.2.2⟩
def zT(n m N:Nat)(t:Tr):Bool:=wfB (prs n) t&&(decide (dep t<=N)&&((List.range (rn n m).length).all fun x=>decide (tE ((rn n m).getD x []) t∈(sm n m).getD x [])))
structure Few (n m N:Nat):Prop where
 pos:0<(rn n m).length
 yes:∃t,rh (prs n) (rn n m) (sm n m) N (List.range (rn n m).length)=some t
 no:∀a,a<N->rh (prs n) (rn n m) (sm n m) a (List.range (rn n m).length)=none
def Pz{n m:Nat}(h:0<(rn n m).length):List.range (rn n m).length≠[]:=fun e=>by
 have:=congrArg List.length e;rw[XW] at this;simp at this;rw[this] at h;exact absurd h (by decide)
def C2{n m N:Nat}(hp:0<(rn n m).length)(t:Tr)(h:zT n m N t=true):∃t,rh (prs n) (rn n m) (sm n m) N (List.range (rn n m).length)=some t:=by
 simp only[zT,XD,Yh] at h;obtain⟨h1,h2,h3⟩:=h;cases ht:rh (prs n) (rn n m) (sm n m) N (List.range (rn n m).length) with
 |some t=>exact⟨t,rfl⟩
 |none=>
  obtain⟨x,hx,q⟩:=zjr N _ (Pz hp) ht t (CZ h1) h2;have:=XJ.mp h3 x hx;exact absurd (by simpa using this) q
def EY:(rn 2 2).length=2:=by decide +kernel
def IZ:Tr:=.ask 0 1 (.e (some 0)) (.e none)
def WH:zT 2 2 1 IZ=true:=by decide +kernel
def N3:((sm 2 2).all fun l=>l.all fun e=>decide (e∈vH 2))=true:=by decide +kernel
def NL:pmO (prs 2) (rn 2 2)=[(1,2)]:=by decide +kernel
def y3y:emO (vH 2) (sm 2 2) 2=[2,1,1]:=by decide +kernel
def WF:wa [(1,2)] [2,1,1] 0 (2^2 - 1)=true:=by decide +kernel
def Vi:Few 2 2 1:=⟨by rw[EY];decide,C2 (by rw[EY];decide) IZ WH,fun a ha=>CB EY (by decide) N3 NL y3y WF a (by omega)⟩
def Cr:(rn 3 3).length=5:=by decide +kernel
def Gk:Tr:=.ask 0 1 (.e (some 0)) (.ask 0 2 (.e (some 0)) (.ask 1 2 (.e (some 1)) (.e none)))
def S1:zT 3 3 3 Gk=true:=by decide +kernel
def Tk:((sm 3 3).all fun l=>l.all fun e=>decide (e∈vH 3))=true:=by decide +kernel
def y3i:pmO (prs 3) (rn 3 3)=[(3,28),(5,26),(9,22)]:=by decide +kernel
def ST:emO (vH 3) (sm 3 3) 5=[16,7,11,13]:=by decide +kernel
def QR:wa [(3,28),(5,26),(9,22)] [16,7,11,13] 2 (2^5 - 1)=true:=by decide +kernel
def TN:Few 3 3 3:=⟨by rw[Cr];decide,C2 (by rw[Cr];decide) Gk S1,fun a ha=>CB Cr (by decide) Tk y3i ST QR a (by omega)⟩
def Es:(rn 4 4).length=15:=by decide +kernel
def MI:Tr:=.ask 0 1 (.ask 0 2 (.e (some 0)) (.ask 0 3 (.e (some 0)) (.e none))) (.ask 0 2 (.ask 0 3 (.e (some 0)) (.e none)) (.ask 1 2 (.ask 1 3 (.e (some 1)) (.e none)) (.e none)))
def P8:zT 4 4 4 MI=true:=by decide +kernel
def MP:((sm 4 4).all fun l=>l.all fun e=>decide (e∈vH 4))=true:=by decide +kernel
def Wk:pmO (prs 4) (rn 4 4)=[(31,32736),(227,32540),(2341,30426),(1795,30972),(4677,28090),(8745,24022)]:=by decide +kernel
def Sq:emO (vH 4) (sm 4 4) 15=[32216,39,519,547,549]:=by decide +kernel
def NE:wa [(31,32736),(227,32540),(2341,30426),(1795,30972),(4677,28090),(8745,24022)] [32216,39,519,547,549] 3 (2^15 - 1)=true:=by decide +kernel
def Nt:Few 4 4 4:=⟨by rw[Es];decide,C2 (by rw[Es];decide) MI P8,fun a ha=>CB Es (by decide) MP Wk Sq NE a (by omega)⟩
def Nf:∀n<8,∀p∈prs n,p.1<n/\p.2<n:=by decide +kernel
def Li:∀n<8,(prs n).length<=1000:=by decide +kernel
def Ti{n m:Nat}(hn:n<=7):Sp n (prs n) (rn n m) (sm n m):=by
 refine⟨by simp[sm],?_,fun s hs=>Kw hs,fun p hp=>Nf n (by omega) p hp,Li n (by omega)⟩;have:=Ax hn m;simp only[rn,Xj];omega
section
variable {C CN CT:Addr} {n m:Nat} {L:M}
abbrev Kj(CT:Addr):FX:=w9 ub (.int 7) CT
theorem Jo{lo hi:Int}(h1:lo<=(n:Int))(h2:(n:Int)<=hi):Wp (xk CN CT [.int (n:Int),.int lo,.int hi] L) fun r Z6=>r=.ok .non/\Z6=L:=by
 unfold xk D7;refine(Dm rfl).mpr ?_;show Wt (sR _ _ [some (.int (n:Int)),some (.int lo),some (.int hi)] L) _;simp!;rw[Xs (by omega)];simp!;rw[Xs (by omega)];simp!;exact⟨trivial,trivial⟩
theorem Ju(hm:∀s∈rn n m,(sA s).length<=1000)(hn:n<=7):∀(l:List (List Int)) (o:Option D) (L:M),(∀s∈l,s∈rn n m)->
  ∃Z6,rX none (qD 0) qX (vL uG (qC (be 0) qG)) (l.map dI) [o] L=some ((l.map hE).map dEl,Z6)/\Gr L Z6
 | [],o,L,_=>⟨L,rfl,.refl⟩
 |s::l,o,L,h=>by
  have hs:=h s (by simp);obtain⟨Z5,e1,g1⟩:=K6 (s:=s) (L:=L) (by rw[Kw hs];omega) (hm s hs);obtain⟨Z3,e2,g2⟩:=Ju hm hn l (some (dI s)) Z5 (fun x hx=>h x (by simp[hx]));refine⟨Z3,?_,g1.trans g2⟩;have hg:qD 0 (dI s) [o] L=some ([some (dI s)],L):=rfl;have hv:vL uG (qC (be 0) qG) [some (dI s)] L=some (dEl (hE s),Z5):=e1;rw[Xn];simp only[rX,hg,bs];show(qX _ _).bind _=_;simp only[qX,bs,if_true,hv,vA];rw[e2];rfl
abbrev Bm(C CT:Addr):FX:=A0 uG (A6 C) (Kj CT)
theorem Wh{N:Nat}{t:Tr}(hn:n<=7)(hN:N<10)(hm:∀s∈rn n m,(sA s).length<=1000)(F:Few n m N)(hcs:cs (prs n).length (N+1)<=15000000)(ht:rh (prs n) (rn n m) (sm n m) N (List.range (rn n m).length)=some t):
  Wp (Bm C CT [.int (n:Int),.int (m:Int)] L) fun r Z6=>r=.ok (.tup [.int (N:Int),dTr t])/\Gr L Z6:=by
 unfold Bm A0 CQ;refine(Dm rfl).mpr ?_;show Wt (sR _ _ [some (.int (n:Int)),some (.int (m:Int)),none] L) _;simp!;have ea:Kj CT [.int (n:Int),.int (m:Int)] L=some (.ok (.lst ((rn n m).map dI)),L):=by
  have:=HA (L:=L) (n:=n) (k:=(m:Int)) (C:=CT) (by omega);rw[show((m:Int)).toNat=m by omega] at this;rw[show(rn n m).map dI=(Sx n m).map dS by simp[rn,dS,Function.comp_def]];exact this
 rw[ea];simp!;rw[tG];have S:=Ti (n:=n) (m:=m) hn;refine⟨by have:=S.few;(try simp);omega,?_⟩;obtain⟨Z5,e1,g1⟩:=Ju hm hn (rn n m) none L fun s hs=>hs;refine B5 e1 ?_;simp!;have hne:rn n m≠[]:=List.ne_nil_of_length_pos F.pos;refine(Rx (C:=C) (L:=Z5) (by omega) S hne hN ht F.no hcs).imp ?_;rintro _ Z3 ⟨rfl,g2⟩;simp!;exact⟨trivial,g1.trans g2⟩
end
def Pap:Nat->Type
 |0=>Unit
 |k+1=>List (Bool×Pap k)
def tH{β:Type}(f:Bool->Option β):Option (Bool×β):=match f true with
 |some r=>some (true,r)
 |none=>match f false with
  |some r=>some (false,r)
  |none=>none
def uA{α β:Type}(f:α->Option β):List α->Option (List β)
 | []=>some []
 |a::l=>match f a with
  |none=>none
  |some b=>match uA f l with
   |none=>none
   |some r=>some (b::r)
def pb(n:Nat):(k:Nat)->List An->Option (Pap k)
 |0,as=>if sM as&&(wV (sD n as)).isNone then some () else none
 |k+1,as=>if sM as then(uA (fun p=>tH fun b=>pb n k (as++[(p.1,p.2,b)])) (prs n):Option (List (Bool×Pap k))) else none
def OZ{L:M}:uL .non .non L=some (.bl true,L):=rfl
def PF{L:M}:vM .non .non L=some (.bl false,L):=rfl
def HE{L:M}{k:Nat}{ds:List D}{y:D}(h:L[k]?=some (some (.lst ds)))(hl:ds.length<1000000):uu (.ref k) y L=some (.non,L.set k (some (.lst (ds++[y])))):=by simp only[uu,yI h,if_pos hl,EQ]
def FrI(lo hi:Nat)(L Z6:M):Prop:=∀j,lo<=j->j<hi->Z6[j]?=L[j]?
def FrI.gr{lo hi:Nat}{L Z6:M}(g:Gr L Z6)(h:hi<=L.length):FrI lo hi L Z6:=fun j _ h2=>g.at_ j (by omega)
def ex(c:Bool):List D:=if c then [.tup [.bl true,.tup []]] else []
def RowsG{k:Nat}(P:Nat->Nat->Pap k->D->Prop):Nat->Nat->List (Bool×Pap k)->List D->Prop
 |lo,hi,[],[]=>lo<=hi
 |lo,hi,r::rows,d::ds=>∃mid x,lo<=mid/\mid<=hi/\d=.tup [.bl r.1,x]/\P lo mid r.2 x/\RowsG P mid hi rows ds
 |_,_,[],_::_=>False
 |_,_,_::_,[]=>False
def PapG(c:Bool)(L:M):(k:Nat)->Nat->Nat->Pap k->D->Prop
 |0,lo,hi,_,d=>d=.tup []/\lo<=hi
 |k+1,lo,hi,(rows:List (Bool×Pap k)),d=>∃a ds,d=.ref a/\lo<=a/\a<hi/\L[a]?=some (some (.lst (ds++ex c)))/\RowsG (PapG c L k) (a+1) hi rows ds
theorem RowsG.imp{k:Nat}{P Q:Nat->Nat->Pap k->D->Prop}{lo0 hi0:Nat}(h:∀lo hi p d,lo0<=lo->hi<=hi0->P lo hi p d->Q lo hi p d):∀{rows:List (Bool×Pap k)} {ds:List D} {lo hi:Nat},lo0<=lo->hi<=hi0->RowsG P lo hi rows ds->RowsG Q lo hi rows ds
 | [],[],_,_,_,_,r=>r
 |r::rows,d::ds,lo,hi,h1,h2,⟨mid,x,m1,m2,e,p,q⟩=>⟨mid,x,m1,m2,e,h _ _ _ _ h1 (by omega) p,RowsG.imp h (by omega) h2 q⟩
 | [],_::_,_,_,_,_,r=>r
 |_::_,[],_,_,_,_,r=>r
theorem RowsG.le{k:Nat}{P:Nat->Nat->Pap k->D->Prop}:∀{rows:List (Bool×Pap k)} {ds:List D} {lo hi:Nat},RowsG P lo hi rows ds->lo<=hi
 | [],[],_,_,r=>r
 |r::rows,d::ds,lo,hi,⟨mid,x,m1,m2,_,_,_⟩=>by omega
 | [],_::_,_,_,r=>r.elim
 |_::_,[],_,_,r=>r.elim
theorem RowsG.len{k:Nat}{P:Nat->Nat->Pap k->D->Prop}:∀{rows:List (Bool×Pap k)} {ds:List D} {lo hi:Nat},RowsG P lo hi rows ds->ds.length=rows.length
 | [],[],_,_,_=>rfl
 |r::rows,d::ds,lo,hi,⟨_,_,_,_,_,_,q⟩=>by simp[RowsG.len q]
 | [],_::_,_,_,r=>r.elim
 |_::_,[],_,_,r=>r.elim
theorem RowsG.snoc{k:Nat}{P:Nat->Nat->Pap k->D->Prop}{r:Bool×Pap k}{x:D}{hi2:Nat}:∀{rows:List (Bool×Pap k)} {ds:List D} {lo hi:Nat},RowsG P lo hi rows ds->hi<=hi2->(∀l,l<=hi->P l hi2 r.2 x)->RowsG P lo hi2 (rows++[r]) (ds++[.tup [.bl r.1,x]])
 | [],[],lo,hi,h,h2,p=>⟨hi2,x,Xy h h2,Xc _,rfl,p lo h,Xc _⟩
 |r0::rows,d::ds,lo,hi,⟨mid,y,m1,m2,e,p0,q⟩,h2,p=>⟨mid,y,m1,by omega,e,p0,RowsG.snoc q h2 p⟩
 | [],_::_,_,_,r,_,_=>r.elim
 |_::_,[],_,_,r,_,_=>r.elim
theorem RowsG.wide{k:Nat}{P:Nat->Nat->Pap k->D->Prop}{hi2:Nat}:∀{rows:List (Bool×Pap k)} {ds:List D} {lo hi:Nat},RowsG P lo hi rows ds->hi<=hi2->RowsG P lo hi2 rows ds
 | [],[],_,_,h,h2=>Xy h h2
 |r0::rows,d::ds,lo,hi,⟨mid,y,m1,m2,e,p0,q⟩,h2=>⟨mid,y,m1,by omega,e,p0,RowsG.wide q h2⟩
 | [],_::_,_,_,r,_=>r.elim
 |_::_,[],_,_,r,_=>r.elim
theorem PapG.frame{c:Bool}{L Z6:M}:∀{k lo hi:Nat} {p:Pap k} {d:D},PapG c L k lo hi p d->FrI lo hi L Z6->PapG c Z6 k lo hi p d
 |0,_,_,_,_,h,_=>h
 |k+1,lo,hi,(rows:List (Bool×Pap k)),d,⟨a,ds,e,h1,h2,h3,h4⟩,f=>by
  refine⟨a,ds,e,h1,h2,by rw[f a h1 h2];exact h3,?_⟩;exact RowsG.imp (lo0:=a+1) (hi0:=hi) (fun l h p d hl hh q=>PapG.frame q fun j j1 j2=>f j (by omega) (by omega)) (Xc _) (Xc _) h4
def RowsG.frame{c:Bool}{L Z6:M}{k lo hi:Nat}{rows:List (Bool×Pap k)}{ds:List D}(h:RowsG (PapG c L k) lo hi rows ds)(f:FrI lo hi L Z6):RowsG (PapG c Z6 k) lo hi rows ds:=
 RowsG.imp (lo0:=lo) (hi0:=hi) (fun l h p d hl hh q=>PapG.frame q fun j j1 j2=>f j (by omega) (by omega)) (Xc _) (Xc _) h
theorem PapG.wide{c:Bool}{L:M}:∀{k lo hi lo2 hi2:Nat} {p:Pap k} {d:D},PapG c L k lo hi p d->lo2<=lo->hi<=hi2->PapG c L k lo2 hi2 p d
 |0,_,_,_,_,_,_,h,h1,h2=>⟨h.1,by have:=h.2;omega⟩
 |k+1,lo,hi,lo2,hi2,(rows:List (Bool×Pap k)),d,⟨a,ds,e,h1,h2,h3,h4⟩,g1,g2=>⟨a,ds,e,by omega,by omega,h3,h4.wide g2⟩
def V1{c:Bool}{L Z6:M}{k lo hi:Nat}{p:Pap k}{d:D}(h:PapG c L k lo hi p d):vM d .non Z6=some (.bl true,Z6):=by
 cases k with
 |zero=>rw[h.1];rfl
 |succ k=>obtain⟨a,ds,e,_⟩:=h;rw[e];rfl
def Pb(L Z6:M)(k:Nat)(o:Option (Pap k))(d:D):Prop:=match o with
 |none=>d=.non
 |some p=>PapG false Z6 k L.length Z6.length p d
def Rb(L Z6:M)(k:Nat)(o:Option (Bool×Pap k))(d:D):Prop:=match o with
 |none=>d=.non
 |some r=>∃x,d=.tup [.bl r.1,x]/\PapG false Z6 k L.length Z6.length r.2 x
section
variable {n:Nat} {C CF CT:Addr}
theorem OP{k:Nat}{as:List An}{i j:Nat}{F:C0}{f:Bool->Option (Pap k)}(hl:as.length<=100)
  (hF:∀(b:Bool) (L:M),Wp (F [.int (n:Int),.lst ((as++[(i,j,b)]).map dA),.int (k:Int)] L) fun d Z6=>Pb L Z6 k (f b) d/\Gr L Z6) (L:M):
  Wp (xz F [.int (n:Int),.lst (as.map dA),.int ((k+1:Nat):Int),.int (i:Int),.int (j:Int)] L) fun d Z6=>Rb L Z6 k (tH f) d/\Gr L Z6:=by
 unfold xz C3;refine(sw rfl).mpr ?_;show Ws (qH _ _ [some (.int (n:Int)),some (.lst (as.map dA)),some (.int ((k+1:Nat):Int)),some (.int (i:Int)),some (.int (j:Int)),none,none] L) _;have ek:(((k+1:Nat):Int) - 1)=(k:Int):=by omega
 have ea:∀b:Bool,as.map dA++[D.tup [.int (i:Int),.int (j:Int),.bl b]]=(as++[(i,j,b)]).map dA:=fun b=>by simp[dA]
 simp!;rw[tz (by simp)];simp!;refine vh (fun r O Z6=>∃(l:List Bool) (o5 o6:Option D),r=l.map D.bl/\O=[some (.int (n:Int)),some (.lst (as.map dA)),some (.int ((k+1:Nat):Int)),some (.int (i:Int)),some (.int (j:Int)),o5,o6]/\Gr L Z6/\(l=[true,false]\/(l=[false]/\f true=none)\/(l=[]/\f true=none/\f false=none))) _ ⟨[true,false],_,_,rfl,rfl,.refl,.inl rfl⟩ ?_ ?_
 ·rintro d r O Z5 ⟨l,o5,o6,hr,rfl,g1,hl3⟩;cases l with
  |nil=>cases hr
  |cons b l=>
   rw[Xn] at hr;injection hr with h1 h2
   subst h1 h2;simp!;rw[tz (by simp)];simp!;rw[sW (by simp)];simp!;rw[y9 (by simp;omega)];simp!;rw[ea,ek];refine(hF b Z5).imp ?_;rintro d Z3 ⟨hd,g2⟩;have g:=g1.trans g2;cases hf:f b with
   |some p=>
    rw[hf] at hd;have e:tH f=some (b,p):=by
     rcases hl3 with h|⟨h,h'⟩|⟨h,_⟩
     ·injection h with h1 _
      subst h1;simp only[tH,hf]
     ·injection h with h1 _
      subst h1;simp only[tH,h',hf]
     ·cases h
    simp![V1 hd];rw[tz (by simp)];simp!;rw[e];exact⟨⟨d,rfl,PapG.wide hd g1.len (Xc _)⟩,g⟩
   |none=>
    rw[hf] at hd;have hd2:d=.non:=hd;subst hd2;simp![PF];refine⟨trivial,l,_,_,rfl,rfl,g,?_⟩;rcases hl3 with h|⟨h,h'⟩|⟨h,_⟩
    ·injection h with h1 h2
     subst h1 h2;exact .inr (.inl ⟨rfl,hf⟩)
    ·injection h with h1 h2
     subst h1 h2;exact .inr (.inr ⟨rfl,h',hf⟩)
    ·cases h
 ·rintro O Z5 ⟨l,o5,o6,hr,rfl,g1,hl3⟩;cases l with
  |cons b l=>cases hr
  |nil=>
   simp!;have e:tH f=none:=by
    rcases hl3 with h|⟨h,_⟩|⟨_,h1,h2⟩
    ·cases h
    ·cases h
    ·simp only[tH,h1,h2]
   rw[e];exact⟨rfl,g1⟩
def mmB(C CF CT:Addr):Nat->List D->M->Fr
 |0=>fun _ _=>none
 |m+1=>zX (dn (wN C)) (dn (BO C CF CT)) xa (xz (mmB C CF CT m)) rW
theorem Vt(hn:n<=7)(hp:(prs n).length<=1000):∀(k:Nat) (as:List An) (L:M) (m:Nat),k<m->Ok2 n as->as.length+k<=100->Wp (mmB C CF CT m [.int (n:Int),.lst (as.map dA),.int (k:Int)] L) fun d Z6=>Pb L Z6 k (pb n k as) d/\Gr L Z6:=by
 intro k;induction k with
 |zero=>
  intro as L m hm hv hl;obtain⟨m,rfl⟩:∃j,m=j+1:=⟨m - 1,by omega⟩
  unfold mmB zX z7;refine(sw rfl).mpr ?_;show Ws (qH _ _ [some (.int (n:Int)),some (.lst (as.map dA)),some (.int ((0:Nat):Int)),none,none,none,none] L) _;have e1:decide (((0:Nat):Int)=0)=true:=by simp
  simp!;refine(FS hv (by omega)).imp ?_;rintro _ Z5 ⟨rfl,g1⟩;have hle:pb n 0 as=if sM as&&(wV (sD n as)).isNone then some () else none:=rfl
  cases hc:sM as with
  |false=>
   simp![X9];rw[hle,hc];exact⟨rfl,g1⟩
  |true=>
   simp![Xt,e1];have hf:sD n as≠[]:=fun z=>by
    have:=(GE (n:=n) (as:=as) (hv.inN)).mp z;rw[hc] at this;cases this
   refine(VM hv (by omega) hn hf).imp ?_;rintro _ Z3 ⟨rfl,g2⟩;have g:=g1.trans g2;simp![Ty];rw[hle,hc];cases (wV (sD n as)).isNone with
   |true=>
    simp!;rw[tz (by simp)];simp!;exact⟨⟨rfl,g.len⟩,g⟩
   |false=>
    simp!;exact⟨rfl,g⟩
 |succ k ih=>
  intro as L m hm hv hl;obtain⟨m,rfl⟩:∃j,m=j+1:=⟨m - 1,by omega⟩
  unfold mmB zX z7;refine(sw rfl).mpr ?_;show Ws (qH _ _ [some (.int (n:Int)),some (.lst (as.map dA)),some (.int ((k+1:Nat):Int)),none,none,none,none] L) _;have e1:decide (((k+1:Nat):Int)=0)=false:=by simp;omega
  simp!;refine(FS hv (by omega)).imp ?_;rintro _ Z5 ⟨rfl,g1⟩;have hle:pb n (k+1) as=if sM as then(uA (fun p=>tH fun b=>pb n k (as++[(p.1,p.2,b)])) (prs n):Option (List (Bool×Pap k))) else none:=rfl
  generalize pb n (k+1) as=res at hle;cases hc:sM as with
  |false=>
   simp![X9];rw[hle,hc];exact⟨rfl,g1⟩
  |true=>
   rw[hc,if_pos rfl] at hle;simp![Xt,e1];rw[Kr (by simp)];simp![FG (show n<=100 by omega)];refine vh (fun r O Z6=>∃(l:List (Nat×Nat)) (rows:List (Bool×Pap k)) (ds:List D) (o4 o5 o6:Option D),r=l.map dP/\O=[some (.int (n:Int)),some (.lst (as.map dA)),some (.int ((k+1:Nat):Int)),some (.ref Z5.length),o4,o5,o6]/\Gr Z5 Z6/\Z5.length<Z6.length/\Z6[Z5.length]?=some (some (.lst ds))/\RowsG (PapG false Z6 k) (Z5.length+1) Z6.length rows ds/\rows.length+l.length=(prs n).length/\(∀x∈l,x∈prs n)/\res=match uA (fun p=>tH fun b=>pb n k (as++[(p.1,p.2,b)])) l with
    |none=>none
    |some r=>some (rows++r:List (Bool×Pap k))) _ ⟨_,[],[],_,_,_,rfl,rfl,gr_app,by simp,by simp,(by simp[RowsG]),by simp,fun x h=>h,?_⟩ ?_ ?_
   ·rw[hle];cases uA (fun p=>tH fun b=>pb n k (as++[(p.1,p.2,b)])) (prs n)<;>rfl
   ·rintro d r O Z3 ⟨l,rows,ds,o4,o5,o6,hr,rfl,g2,hlt,hrow,hrg,hlen,hin,hres⟩;cases l with
    |nil=>cases hr
    |cons x l=>
     rw[Xn] at hr;injection hr with h1 h2
     subst h1 h2;have ok:=KB (hin x (by simp));show Wp (rM 2 _ (.tup [.int (x.1:Int),.int (x.2:Int)]) _ _) _;refine(wY rfl).mpr ?_;simp!;have hv2:∀b,Ok2 n (as++[(x.1,x.2,b)]):=by
      intro b a ha;rcases XM.mp ha with h|h
      ·exact hv a h
      ·cases XX.mp h;exact ok
     refine(OP (f:=fun b=>pb n k (as++[(x.1,x.2,b)])) (by omega) (fun b L=>ih (as++[(x.1,x.2,b)]) L m (by omega) (hv2 b) (by simp;omega)) Z3).imp ?_;rintro d ZN ⟨hd,g3⟩;have hrow3:ZN[Z5.length]?=some (some (.lst ds)):=g3.get hrow;simp only[uA] at hres;cases hb:tH (fun b=>pb n k (as++[(x.1,x.2,b)])) with
     |none=>
      rw[hb] at hres hd;have hd2:d=.non:=hd;subst hd2;simp![OZ];rw[hres];exact⟨rfl,g1.trans (g2.trans g3)⟩
     |some q=>
      rw[hb] at hres hd;obtain⟨y,rfl,hy⟩:=hd;have hq:∀L:M,uL (.tup [.bl q.1,y]) .non L=some (.bl false,L):=fun _=>rfl;simp![hq];rw[E4 hrow3];simp!;have hdl:=hrg.len;rw[HE hrow3 (by simp at hlen;omega)];simp!;have hfr:FrI (Z5.length+1) ZN.length ZN (ZN.set Z5.length (some (.lst (ds++[.tup [.bl q.1,y]])))):=fun j j1 j2=>sT (by omega);have r3:RowsG (PapG false ZN k) (Z5.length+1) ZN.length (rows++[q]) (ds++[.tup [.bl q.1,y]]):=RowsG.snoc (hrg.frame (FrI.gr g3 (Xc _))) g3.len fun l hl=>PapG.wide hy hl (Xc _);refine⟨trivial,l,rows++[q],ds++[.tup [.bl q.1,y]],_,_,_,rfl,rfl,(g2.trans g3).setN (Xc _),?_,tj hrow3,?_,by simp at hlen⊢;omega,fun y hy=>hin y (by simp[hy]),?_⟩
      ·rw[Yb];have:=g3.len;omega
      ·rw[Yb];exact r3.frame hfr
      ·rw[hres];cases uA (fun p=>tH fun b=>pb n k (as++[(p.1,p.2,b)])) l with
       |none=>rfl
       |some r=>simp
   ·rintro O Z3 ⟨l,rows,ds,o4,o5,o6,hr,rfl,g2,hlt,hrow,hrg,hlen,hin,hres⟩;cases l with
    |cons x l=>cases hr
    |nil=>
     simp!;simp only[uA,XT] at hres;rw[hres];exact⟨⟨Z5.length,ds,rfl,g1.len,hlt,by simp[ex];exact hrow,hrg⟩,g1.trans g2⟩
end
section
variable {P:Program} {w:World} {K:Frag} {mg:Str->Option Value} {base:Heap} {f:Addr} {fd:FuncData}
theorem OW:FnScope ["cell"] ["cell"] (qJ (top 42)):=⟨rfl,rfl,rfl,by decide +kernel,rfl,by decide +kernel,by decide +kernel⟩
def B8:SV:=
  (qO (vL ur (qC (v2 B7 (vC (.int 0)) (v2 u7 (be 0) (v2 ye (vC (.int 10)) (vC (.int 18))))) (qC (v2 tZ (v2 rS (v2 zV (be 0) (vC (.int 2147483629))) (vC (.int 1))) (v1 zi (v2 fNe (be 0) (v2 ye (vC (.int 10)) (vC (.int 18)))))) qG))))
def xW:C0:=rD 1 1 (B8)
theorem PK{k:Nat}(F:Fun K "_law_hand" "_law_hand" (top 42) f fd) (E9:mg "int"=none) (vN:mg "max"=none):FnOk P w K mg base CX0 (k+1) f fd ["cell"] (spM K (xW)):=by
 unfold xW B8;exact rY F OW fun cdv A outer s H E hr=>
  (qM (qU (z9 (qF (OQ vN qP (v8 (qB 0) (AQ qP qP))) (qF (yz (tw (Be (qB 0) qP) qP) (M3 E9 (Gi hr (qB 0) (AQ qP qP)))) qI)))))
theorem Gq:FnScope ["hand","many","taken"] ["hand","many"] (qJ (top 43)):=⟨rfl,rfl,rfl,by decide +kernel,rfl,by decide +kernel,by decide +kernel⟩
def Bo:SV:=
  (qH (sIf (vT (v2 fGt (v2 fIx (be 0) (vC (.int 0))) (vC (.int 0))))
   (qH (qS (v2 zV (v2 fIx (be 0) (vC (.int 0))) (be 1)) (qD 2))
   (qH (qS (v2 x3 (v2 fIx (be 0) (vC (.int 0))) (be 1)) (zc (be 0) (vC (.int 0))))
   (qO (be 2))))
   sNx)
  (qH (qS (v2 zV (v2 tZ (v2 fIx (be 0) (vC (.int 1))) (vC (.int 48271))) (vC (.int 2147483647))) (zc (be 0) (vC (.int 1))))
  (qO (v2 zV (v2 x3 (v2 ye (v2 rS (v2 fIx (be 0) (vC (.int 1))) (vC (.int 1))) (vC (.int 7))) (vC (.int 8))) (be 1)))))
def wJ:C0:=rD 3 2 (Bo)
theorem zh1{k:Nat}(F:Fun K "_law_take" "_law_take" (top 43) f fd):FnOk P w K mg base CX0 (k+1) f fd ["hand","many"] (spM K (wJ)):=by
 unfold wJ Bo;exact rY F Gq fun cdv A outer s H E hr=>
  (qK (rO (zr (si (qB 0) qP) qP)
   (qK (rG (i:=2) Gq.nd rfl (Or.inl rfl) (Be (si (qB 0) qP) (qB 1)))
   (qK (yT (A7 (si (qB 0) qP) (qB 1)) (Kt (qB 0) qP))
   (qM (qU (qB 2)))))
   rK)
  (qK (yT (Be (yz (si (qB 0) qP) qP) qP) (Kt (qB 0) qP))
  (qM (qU (Be (A7 (AQ (tw (si (qB 0) qP) qP) qP) qP) (qB 1))))))
theorem wG:FnScope ["many","most","found","thing","longer","sorts"] ["many","most"] (qJ (top 44)):=⟨rfl,rfl,rfl,by decide +kernel,rfl,by decide +kernel,by decide +kernel⟩
theorem Ow:((["kind"]:List Str)++([("sorts",5)]:List (Str×Nat)).map (·.1)).Nodup:=by decide +kernel
def Cs:SV:=
  (qH (qS (vL rL (qC (vL rL qG) qG)) (qD 2))
  (qH (sJ (ivR (be 0)) (qD 3)
   (qH (qS (vL rL qG) (qD 4))
   (qH (sJ (ivL (be 2)) (qD 5)
    (qS (v2 rS (be 4) (rF ["kind"] [("sorts",5)] (ivR (v2 xH (be 1) (v2 rS (v1 DX (v2 rS (vL rL (qC (v1 uY (vC (.int 1))) qG)) (be 5))) (vC (.int 2))))) (qD 0) qX (v2 rS (be 1) (vL rL (qC (be 0) qG))))) (qD 4)))
   (qS (be 4) (qD 2)))))
  (qO (be 2))))
def ym:C0:=rD 6 2 (Cs)
theorem PN{k:Nat}(F:Fun K "_law_sorts" "_law_sorts" (top 44) f fd) (rR:mg "range"=none) (vN:mg "max"=none) (yB:mg "min"=none):FnOk P w K mg base CX0 (k+1) f fd ["many","most"] (spM K (ym)):=by
 unfold ym Cs;exact rY F wG fun cdv A outer s H E hr=>
  (qK (rG (i:=2) wG.nd rfl (Or.inl rfl) (sC (qF (sC qI) qI)))
  (qK (tq XA rfl (we rR (qB 0)) (qR (i:=3) wG.nd rfl (Or.inl rfl))
   (qK (rG (i:=4) wG.nd rfl (Or.inl rfl) (sC qI))
   (qK (tq XA rfl (su (qB 2)) (qR (i:=5) wG.nd rfl (Or.inr rfl))
    (qM (rG (i:=4) wG.nd rfl (Or.inl rfl) (tw (qB 4) (tF (own:=["kind"]) (cap:=[("sorts",5)]) (sB rfl) (we rR (Mw yB (qB 1) (tw (Q4 vN (tw (sC (qF (Cj qP) qI)) (qB 5))) qP)))
   (fun _ _ _ _ _=>(qR (i:=0) Ow rfl (Or.inl rfl))) (fun _ _ _ _ _=>tV)
   (fun _ _ _ _ _=>(tw (qB 1) (sC (qF (qB 0) qI)))))))))
   (qM (rG (i:=2) wG.nd rfl (Or.inl rfl) (qB 4))))))
  (qM (qU (qB 2)))))
theorem Gz:FnScope ["sorts","kind"] ["sorts"] (qJ (top 45)):=⟨rfl,rfl,rfl,by decide +kernel,rfl,by decide +kernel,by decide +kernel⟩
theorem SF:((["thing"]:List Str)++([("sorts",0),("kind",1)]:List (Str×Nat)).map (·.1)).Nodup:=by decide +kernel
def Da:SV:=
  (qH (sJ (ivL (be 0)) (qD 1)
   (sIf (vT (v2 fGt (v2 tZ (vC (.int 2)) (uj Bl (be 0) (be 1))) (v1 rE (be 0))))
    (qO (rF ["thing"] [("sorts",0),("kind",1)] (ivR (v1 rE (be 0))) (qD 0) (vT (v2 fEq (v2 fIx (be 1) (be 0)) (be 2))) (be 0)))
    sNx))
  (qO (vL rL qG)))
def wS:C0:=rD 2 1 (Da)
theorem RS{k:Nat}(F:Fun K "_law_half" "_law_half" (top 45) f fd) (rV:mg "len"=none) (rR:mg "range"=none):FnOk P w K mg base CX0 (k+1) f fd ["sorts"] (spM K (wS)):=by
 unfold wS Da;exact rY F Gz fun cdv A outer s H E hr=>
  (qK (tq XA rfl (su (qB 0)) (qR (i:=1) Gz.nd rfl (Or.inr rfl))
   (qM (rO (zr (yz qP (Pa (qB 0) (qB 1))) (ul rV (qB 0)))
    (qM (qU (tF (own:=["thing"]) (cap:=[("sorts",0),("kind",1)]) (sB rfl) (we rR (ul rV (qB 0)))
   (fun _ _ _ _ _=>(qR (i:=0) SF rfl (Or.inl rfl))) (fun _ _ _ _ _=>(vo (uD hr (si (qB 1) (qB 0)) (qB 2))))
   (fun _ _ _ _ _=>(qB 0)))))
    rK)))
  (qM (qU (sC qI))))
theorem Ek:FnScope ["left","halves","sure"] ["left"] (qJ (top 46)):=⟨rfl,rfl,rfl,by decide +kernel,rfl,by decide +kernel,by decide +kernel⟩
theorem ze4:((["sorts"]:List Str)++([]:List (Str×Nat)).map (·.1)).Nodup:=by decide +kernel
theorem R4:((["half"]:List Str)++([]:List (Str×Nat)).map (·.1)).Nodup:=by decide +kernel
theorem TK:((["thing"]:List Str)++([("halves",1)]:List (Str×Nat)).map (·.1)).Nodup:=by decide +kernel
theorem OJ:((["half"]:List Str)++([("thing",0)]:List (Str×Nat)).map (·.1)).Nodup:=by decide +kernel
def DC(yN:C0):SV:=
  (qH (qS (rF ["sorts"] [] (ivL (be 0)) (qD 0) qX (vL yN (qC (be 0) qG))) (qD 1))
  (qH (sIf (vT (v2 fEq (rF ["half"] [] (ivL (be 1)) (qD 0) (vT (v2 fNe (be 0) (vL rL qG))) (be 0)) (vL rL qG)))
   (qO (vC (.bl false)))
   sNx)
  (qH (qS (rF ["thing"] [("halves",1)] (ivL (v2 fIx (be 1) (vC (.int 0)))) (qD 0) (vT (v2 fEq (rF ["half"] [("thing",0)] (ivL (be 1)) (qD 0) (vT (v2 (fIn true) (be 1) (be 0))) (be 0)) (vL rL qG))) (be 0)) (qD 2))
  (qO (v2 fEq (be 2) (vL rL qG))))))
def zR(yN:C0):C0:=rD 3 1 (DC yN)
theorem Wi{yN:C0}{LM k:Nat}(F:Fun K "_law_open" "_law_open" (top 46) f fd) (Eb:Df P w K mg base LM "_law_half" ["sorts"] (spM K yN)) (Qj:LM<=k):FnOk P w K mg base CX0 (k+1) f fd ["left"] (spM K (zR yN)):=by
 unfold zR DC;exact rY F Ek fun cdv A outer s H E hr=>
  (qK (rG (i:=1) Ek.nd rfl (Or.inr rfl) (tF (own:=["sorts"]) (cap:=[]) (sB rfl) (su (qB 0))
   (fun _ _ _ _ _=>(qR (i:=0) ze4 rfl (Or.inl rfl))) (fun _ _ _ _ _=>tV)
   (fun _ _ _ _ _=>(rH Eb (hr.mono Qj) (qF (qB 0) qI)))))
  (qK (rO (uD hr (tF (own:=["half"]) (cap:=[]) (sB rfl) (su (qB 1))
   (fun _ _ _ _ _=>(qR (i:=0) R4 rfl (Or.inl rfl))) (fun _ _ _ _ _=>(vo (v7 hr (qB 0) (sC qI))))
   (fun _ _ _ _ _=>(qB 0))) (sC qI))
   (qM (qU sP))
   rK)
  (qK (GH (i:=2) Ek.nd rfl rfl (own:=["thing"]) (cap:=[("halves",1)]) (sB rfl) (su (si (qB 1) qP))
   (fun _ _ _ _ _=>(qR (i:=0) TK rfl (Or.inr rfl))) (fun _ _ _ _ _=>(vo (uD hr (tF (own:=["half"]) (cap:=[("thing",0)]) (sB rfl) (su (qB 1))
   (fun _ _ _ _ _=>(qR (i:=0) OJ rfl (Or.inl rfl))) (fun _ _ _ _ _=>(vo (UH (qB 1) (qB 0))))
   (fun _ _ _ _ _=>(qB 0))) (sC qI))))
   (fun _ _ _ _ _=>(qB 0)))
  (qM (qU (wC hr (qB 2) (sC qI)))))))
theorem Bu:FnScope ["many","found","i"] ["many"] (qJ (top 47)):=⟨rfl,rfl,rfl,by decide +kernel,rfl,by decide +kernel,by decide +kernel⟩
theorem Qi:((["j"]:List Str)++([("i",2)]:List (Str×Nat)).map (·.1)).Nodup:=by decide +kernel
def Fi:SV:=
  (qH (qS (vL rL qG) (qD 1))
  (qH (sJ (ivR (be 0)) (qD 2)
   (qS (v2 rS (be 1) (rF ["j"] [("i",2)] (wO (v2 rS (be 2) (vC (.int 1))) (be 0)) (qD 0) qX (vL rZ (qC (be 1) (qC (be 0) qG))))) (qD 1)))
  (qO (be 1))))
def xK:C0:=rD 3 1 (Fi)
theorem Wa{k:Nat}(F:Fun K "_law_all_pairs" "_law_all_pairs" (top 47) f fd) (rR:mg "range"=none):FnOk P w K mg base CX0 (k+1) f fd ["many"] (spM K (xK)):=by
 unfold xK Fi;exact rY F Bu fun cdv A outer s H E hr=>
  (qK (rG (i:=1) Bu.nd rfl (Or.inl rfl) (sC qI))
  (qK (tq XA rfl (we rR (qB 0)) (qR (i:=2) Bu.nd rfl (Or.inr rfl))
   (qM (rG (i:=1) Bu.nd rfl (Or.inl rfl) (tw (qB 1) (tF (own:=["j"]) (cap:=[("i",2)]) (sB rfl) (GY rR (tw (qB 2) qP) (qB 0))
   (fun _ _ _ _ _=>(qR (i:=0) Qi rfl (Or.inl rfl))) (fun _ _ _ _ _=>tV)
   (fun _ _ _ _ _=>(tp (qF (qB 1) (qF (qB 0) qI)))))))))
  (qM (qU (qB 1)))))
theorem wp:FnScope ["many","asks","paper","left","pairs","k","i","j","alike","under","rest"] ["many","asks","paper","left"] (qJ (top 48)):=⟨rfl,rfl,rfl,by decide +kernel,rfl,by decide +kernel,by decide +kernel⟩
theorem Se:((["sorts"]:List Str)++([("i",6),("j",7),("alike",8)]:List (Str×Nat)).map (·.1)).Nodup:=by decide +kernel
def Bg(xT:C0)(yw:C0)(ue:C0):SV:=
  (qH (sIf (vT (v2 fEq (be 3) (vL rL qG)))
   (qO (vC (.bl false)))
   sNx)
  (qH (sIf (vT (v2 fEq (be 1) (vC (.int 0))))
   (qO (AY (v1 (sE "tuple") (be 2)) (AY (v2 fEq (be 2) (vL rZ qG)) (vL xT (qC (be 3) qG)))))
   sNx)
  (qH (qS (vL yw (qC (be 0) qG)) (qD 4))
  (qH (sIf (bOr (sL (rC (v1 (sE "list") (be 2)))) (vT (v2 fNe (v1 rE (be 2)) (v1 rE (be 4)))))
   (qO (vC (.bl false)))
   sNx)
  (qH (sJ (ivR (v1 rE (be 4))) (qD 5)
   (qH (qS (v2 fIx (be 4) (be 5)) (rM 2 (qQ (qD 6) (qQ (qD 7) sd))))
   (qH (qS (v2 fIx (be 2) (be 5)) (rM 2 (qQ (qD 8) (qQ (qD 9) sd))))
   (qH (qS (rF ["sorts"] [("i",6),("j",7),("alike",8)] (ivL (be 3)) (qD 0) (vT (v2 fEq (v2 fEq (v2 fIx (be 0) (be 1)) (v2 fIx (be 0) (be 2))) (be 3))) (be 0)) (qD 10))
   (sIf (sL (rC (vL ue (qC (be 0) (qC (v2 u7 (be 1) (vC (.int 1))) (qC (be 9) (qC (be 10) qG)))))))
    (qO (vC (.bl false)))
    sNx)))))
  (qO (vC (.bl true))))))))
def zM(xT:C0)(yw:C0)(ue:C0):C0:=rD 11 4 (Bg xT yw ue)
theorem TH{xT yw ue:C0}{IR Gf zb k:Nat}(F:Fun K "_law_holds" "_law_holds" (top 48) f fd) (Ed:Df P w K mg base IR "_law_open" ["left"] (spM K xT)) (P9:IR<=k) (DP:Df P w K mg base Gf "_law_all_pairs" ["many"] (spM K yw)) (OH:Gf<=k) (zB:Df P w K mg base zb "_law_holds" ["many","asks","paper","left"] (spM K ue)) (D3:zb<=k) (sY:mg "isinstance"=none) (sN:mg "tuple"=none) (ua:mg "list"=none) (rV:mg "len"=none) (rR:mg "range"=none):FnOk P w K mg base CX0 (k+1) f fd ["many","asks","paper","left"] (spM K (zM xT yw ue)):=by
 unfold zM Bg;exact rY F wp fun cdv A outer s H E hr=>
  (qK (rO (uD hr (qB 3) (sC qI))
   (qM (qU sP))
   rK)
  (qK (rO (uD hr (qB 1) qP)
   (qM (qU (Gv (wD "tuple" sY (qB 2) (vq rfl sN rfl (v:=.ty "tuple") rfl)) (Gv (wC hr (qB 2) (tp qI)) (Ly (rH Ed (hr.mono P9) (qF (qB 3) qI)))))))
   rK)
  (qK (rG (i:=4) wp.nd rfl (Or.inl rfl) (rH DP (hr.mono OH) (qF (qB 0) qI)))
  (qK (rO (PW.pt (wI (tR (sI (wD "list" sY (qB 2) (vq rfl ua rfl (v:=.ty "list") rfl)))) (xx (v7 hr (ul rV (qB 2)) (ul rV (qB 4))))))
   (qM (qU sP))
   rK)
  (qK (tq XA rfl (we rR (ul rV (qB 4))) (qR (i:=5) wp.nd rfl (Or.inl rfl))
   (qK (yT (si (qB 4) (qB 5)) (uh (n:=2) (rQ (qR (i:=6) wp.nd rfl (Or.inr rfl)) (rQ (qR (i:=7) wp.nd rfl (Or.inr rfl)) uk))))
   (qK (yT (si (qB 2) (qB 5)) (uh (n:=2) (rQ (qR (i:=8) wp.nd rfl (Or.inr rfl)) (rQ (qR (i:=9) wp.nd rfl (Or.inl rfl)) uk))))
   (qK (GH (i:=10) wp.nd rfl rfl (own:=["sorts"]) (cap:=[("i",6),("j",7),("alike",8)]) (sB rfl) (su (qB 3))
   (fun _ _ _ _ _=>(qR (i:=0) Se rfl (Or.inl rfl))) (fun _ _ _ _ _=>(vo (uD hr (wC hr (si (qB 0) (qB 1)) (si (qB 0) (qB 2))) (qB 3))))
   (fun _ _ _ _ _=>(qB 0)))
   (qM (rO (tR (sI (rH zB (hr.mono D3) (qF (qB 0) (qF (v8 (qB 1) qP) (qF (qB 9) (qF (qB 10) qI)))))))
    (qM (qU sP))
    rK))))))
  (qM (qU sP)))))))
theorem HH:FnScope ["paper","one"] ["paper"] (qJ (top 49)):=⟨rfl,rfl,rfl,by decide +kernel,rfl,by decide +kernel,by decide +kernel⟩
def AO(ui:C0):SV:=
  (qH (sIf (rC (v1 (sE "tuple") (be 0)))
   (qO (v2 fEq (be 0) (vL rZ qG)))
   sNx)
  (qH (sJ (ivL (be 0)) (qD 1)
   (qH (sIf (bOr (sL (rC (v1 (sE "tuple") (be 1)))) (vT (v2 fNe (v1 rE (be 1)) (vC (.int 2)))))
    (qO (vC (.bl false)))
    sNx)
   (sIf (bOr (sL (rC (v1 (sE "bool") (v2 fIx (be 1) (vC (.int 0)))))) (sL (rC (vL ui (qC (v2 fIx (be 1) (vC (.int 1))) qG)))))
    (qO (vC (.bl false)))
    sNx)))
  (qO (vC (.bl true)))))
def zQ(ui:C0):C0:=rD 2 1 (AO ui)
theorem Nv{ui:C0}{zA k:Nat}(F:Fun K "_law_truths" "_law_truths" (top 49) f fd) (zp:Df P w K mg base zA "_law_truths" ["paper"] (spM K ui)) (BW:zA<=k) (sY:mg "isinstance"=none) (sN:mg "tuple"=none) (rV:mg "len"=none) (En:mg "bool"=none):FnOk P w K mg base CX0 (k+1) f fd ["paper"] (spM K (zQ ui)):=by
 unfold zQ AO;exact rY F HH fun cdv A outer s H E hr=>
  (qK (rO (sI (wD "tuple" sY (qB 0) (vq rfl sN rfl (v:=.ty "tuple") rfl)))
   (qM (qU (wC hr (qB 0) (tp qI))))
   rK)
  (qK (tq XA rfl (su (qB 0)) (qR (i:=1) HH.nd rfl (Or.inl rfl))
   (qK (rO (PW.pt (wI (tR (sI (wD "tuple" sY (qB 1) (vq rfl sN rfl (v:=.ty "tuple") rfl)))) (xx (v7 hr (ul rV (qB 1)) qP))))
    (qM (qU sP))
    rK)
   (qM (rO (PW.pt (wI (tR (sI (wD "bool" sY (si (qB 1) qP) (vq rfl En rfl (v:=.ty "bool") rfl)))) (xx (tR (sI (rH zp (hr.mono BW) (qF (si (qB 1) qP) qI)))))))
    (qM (qU sP))
    rK))))
  (qM (qU sP))))
theorem By:FnScope ["paper","many","alike","under"] ["paper"] (qJ (top 50)):=⟨rfl,rfl,rfl,by decide +kernel,rfl,by decide +kernel,by decide +kernel⟩
def BL(uy:C0):SV:=
  (qH (sIf (rC (v1 (sE "list") (be 0)))
   (qH (qS (v1 rE (be 0)) (qD 1))
   (qH (sJ (ivL (v1 zl (be 0))) (rM 2 (qQ (qD 2) (qQ (qD 3) sd)))
    (t7 (vL uy (qC (be 3) qG))))
   (qH (t7 (uj uu (be 0) (vL rZ (qC (vC (.bl true)) (qC (vL rZ qG) qG)))))
   (qO (v2 fEq (v1 rE (be 0)) (v2 rS (be 1) (vC (.int 1))))))))
   sNx)
  (qO (vC (.bl true))))
def zk(uy:C0):C0:=rD 4 1 (BL uy)
theorem RQ{uy:C0}{yU k:Nat}(F:Fun K "_law_changed" "_law_changed" (top 50) f fd) (zS:Df P w K mg base yU "_law_changed" ["paper"] (spM K uy)) (BY:yU<=k) (sY:mg "isinstance"=none) (ua:mg "list"=none) (rV:mg "len"=none):FnOk P w K mg base CX0 (k+1) f fd ["paper"] (spM K (zk uy)):=by
 unfold zk BL;exact rY F By fun cdv A outer s H E hr=>
  (qK (rO (sI (wD "list" sY (qB 0) (vq rfl ua rfl (v:=.ty "list") rfl)))
   (qK (rG (i:=1) By.nd rfl (Or.inl rfl) (ul rV (qB 0)))
   (qK (tq XA rfl (su (UQ ua (qB 0))) (uh (n:=2) (rQ (qR (i:=2) By.nd rfl (Or.inl rfl)) (rQ (qR (i:=3) By.nd rfl (Or.inl rfl)) uk)))
    (qM (wQ (rH zS (hr.mono BY) (qF (qB 3) qI)))))
   (qK (wQ (EG (qB 0) (tp (qF sP (qF (tp qI) qI)))))
   (qM (qU (wC hr (ul rV (qB 0)) (tw (qB 1) qP)))))))
   rK)
  (qM (qU sP)))
theorem PL:FnScope ["paper","many"] ["paper","many"] (qJ (top 51)):=⟨rfl,rfl,rfl,by decide +kernel,rfl,by decide +kernel,by decide +kernel⟩
theorem Mo:((["alike","under"]:List Str)++([("many",1)]:List (Str×Nat)).map (·.1)).Nodup:=by decide +kernel
def Ae(uq:C0):SV:=
  (qH (sIf (rC (v1 (sE "tuple") (be 0)))
   (qO (vC (.bl true)))
   sNx)
  (qH (sIf (vT (v2 fNe (v1 rE (be 0)) (v2 rS (be 1) (vC (.int 1)))))
   (qO (vC (.bl false)))
   sNx)
  (qO (v2 fEq (rF ["alike","under"] [("many",1)] (ivL (vSl (be 0) Az (Di (v1 uY (vC (.int 1)))))) (rM 2 (qQ (qD 0) (qQ (qD 1) sd))) (sL (rC (vL uq (qC (be 1) (qC (be 2) qG))))) (be 1)) (vL rL qG)))))
def y1(uq:C0):C0:=rD 2 2 (Ae uq)
theorem Ul{uq:C0}{yV k:Nat}(F:Fun K "_law_apart" "_law_apart" (top 51) f fd) (zm:Df P w K mg base yV "_law_apart" ["paper","many"] (spM K uq)) (CG:yV<=k) (sY:mg "isinstance"=none) (sN:mg "tuple"=none) (rV:mg "len"=none):FnOk P w K mg base CX0 (k+1) f fd ["paper","many"] (spM K (y1 uq)):=by
 unfold y1 Ae;exact rY F PL fun cdv A outer s H E hr=>
  (qK (rO (sI (wD "tuple" sY (qB 0) (vq rfl sN rfl (v:=.ty "tuple") rfl)))
   (qM (qU sP))
   rK)
  (qK (rO (v7 hr (ul rV (qB 0)) (tw (qB 1) qP))
   (qM (qU sP))
   rK)
  (qM (qU (wC hr (tF (own:=["alike","under"]) (cap:=[("many",1)]) (sB rfl) (su (Wg (qB 0) UB (WD (Cj qP))))
   (fun _ _ _ _ _=>(uh (n:=2) (rQ (qR (i:=0) Mo rfl (Or.inl rfl)) (rQ (qR (i:=1) Mo rfl (Or.inl rfl)) uk)))) (fun _ _ _ _ _=>(vo (tR (sI (rH zm (hr.mono CG) (qF (qB 1) (qF (qB 2) qI)))))))
   (fun _ _ _ _ _=>(qB 1))) (sC qI))))))
theorem xv:FnScope ["script","hand","left","many","asks","again","paper"] ["script"] (qJ (top 52)):=⟨rfl,rfl,rfl,by decide +kernel,rfl,by decide +kernel,by decide +kernel⟩
def EJ(yK:C0)(yH:C0)(xV:C0)(ui:C0)(yp:C0)(ue:C0)(uy:C0)(uq:C0):SV:=
  (qH (qS (vL yK (qC (v2 fIx (v2 BR (be 0) (vL rL (qC (v2 ye (vC (.int 10)) (vC (.int 18))) qG))) (vC (.int 0))) qG)) (qD 1))
  (qH (qS (vL ur (qC (vC (.int 2)) (qC (vC (.int 3)) (qC (vC (.int 4)) qG)))) (qD 2))
  (qH (wl (vT (v2 fNe (be 2) (vL rL qG)))
   (qH (qS (uj zz (be 2) (vL yH (qC (be 1) (qC (v1 rE (be 2)) qG)))) (qD 3))
   (qH (qS (v2 u7 (v2 x3 (v2 rS (v2 tZ (vC (.int 3)) (be 3)) (vC (.int 1))) (vC (.int 2))) (vC (.int 3))) (qD 4))
   (sJ (ivR (vC (.int 2))) (qD 5)
    (qH (qS (vL xV (qC (be 3) qG)) (qD 6))
    (qH (sIf (bOr (sL (rC (v1 (Bk ["list","tuple"]) (be 6)))) (sL (rC (vL ui (qC (be 6) qG)))))
     (qO (vC (.bl false)))
     sNx)
    (qH (sIf (sL (rC (vL ue (qC (be 3) (qC (be 4) (qC (be 6) (qC (vL yp (qC (be 3) (qC (be 3) qG))) qG)))))))
     (qO (vC (.bl false)))
     sNx)
    (sIf (bOr (sL (rC (vL uy (qC (be 6) qG)))) (sL (rC (vL uq (qC (be 6) (qC (v2 x3 (v2 tZ (be 3) (v2 u7 (be 3) (vC (.int 1)))) (vC (.int 2))) qG))))))
     (qO (vC (.bl false)))
     sNx))))))) 1000000)
  (qO (vC (.bl true))))))
def Bd(yK:C0)(yH:C0)(xV:C0)(ui:C0)(yp:C0)(ue:C0)(uy:C0)(uq:C0):C0:=rD 7 1 (EJ yK yH xV ui yp ue uy uq)
theorem SR{yK yH xV ui yp ue uy uq:C0}{Hz LC Hv zA KQ zb yU yV k:Nat}(F:Fun K "law" "law" (top 52) f fd) (Do:Df P w K mg base Hz "_law_hand" ["cell"] (spM K yK)) (Sn:Hz<=k) (EK:Df P w K mg base LC "_law_take" ["hand","many"] (spM K yH)) (TU:LC<=k) (D6:Df P w K mg base Hv "holding_paper" ["many"] (spM K xV)) (N6:Hv<=k) (zp:Df P w K mg base zA "_law_truths" ["paper"] (spM K ui)) (BW:zA<=k) (Dw:Df P w K mg base KQ "_law_sorts" ["many","most"] (spM K yp)) (Ve:KQ<=k) (zB:Df P w K mg base zb "_law_holds" ["many","asks","paper","left"] (spM K ue)) (D3:zb<=k) (zS:Df P w K mg base yU "_law_changed" ["paper"] (spM K uy)) (BY:yU<=k) (zm:Df P w K mg base yV "_law_apart" ["paper","many"] (spM K uq)) (CG:yV<=k) (rV:mg "len"=none) (rR:mg "range"=none) (sN:mg "tuple"=none) (ua:mg "list"=none) (sY:mg "isinstance"=none):FnOk P w K mg base CX0 (k+1) f fd ["script"] (spM K (Bd yK yH xV ui yp ue uy uq)):=by
 unfold Bd EJ;exact rY F xv fun cdv A outer s H E hr=>
  (qK (rG (i:=1) xv.nd rfl (Or.inl rfl) (rH Do (hr.mono Sn) (qF (si (O4 (qB 0) (sC (qF (AQ qP qP) qI))) qP) qI)))
  (qK (rG (i:=2) xv.nd rfl (Or.inl rfl) (z9 (qF qP (qF qP (qF qP qI)))))
  (qK (KL 1000000 XA (v7 hr (qB 2) (sC qI))
   (qK (rG (i:=3) xv.nd rfl (Or.inl rfl) (Tf (qB 2) (rH EK (hr.mono TU) (qF (qB 1) (qF (ul rV (qB 2)) qI)))))
   (qK (rG (i:=4) xv.nd rfl (Or.inl rfl) (v8 (A7 (tw (yz qP (qB 3)) qP) qP) qP))
   (qM (tq XA rfl (we rR qP) (qR (i:=5) xv.nd rfl (Or.inl rfl))
    (qK (rG (i:=6) xv.nd rfl (Or.inl rfl) (rH D6 (hr.mono N6) (qF (qB 3) qI)))
    (qK (rO (PW.pt (wI (tR (sI (Rm ["list","tuple"] sY (qB 6) (Mh (vq rfl ua rfl (v:=.ty "list") rfl) (Mh (vq rfl sN rfl (v:=.ty "tuple") rfl) Ui))))) (xx (tR (sI (rH zp (hr.mono BW) (qF (qB 6) qI)))))))
     (qM (qU sP))
     rK)
    (qK (rO (tR (sI (rH zB (hr.mono D3) (qF (qB 3) (qF (qB 4) (qF (qB 6) (qF (rH Dw (hr.mono Ve) (qF (qB 3) (qF (qB 3) qI))) qI)))))))
     (qM (qU sP))
     rK)
    (qM (rO (PW.pt (wI (tR (sI (rH zS (hr.mono BY) (qF (qB 6) qI)))) (xx (tR (sI (rH zm (hr.mono CG) (qF (qB 6) (qF (A7 (yz (qB 3) (v8 (qB 3) qP)) qP) qI))))))))
     (qM (qU sP))
     rK))))))))))
  (qM (qU sP)))))
end
def Hd(L:M)(k:Nat):Prop:=∃a b,L[k]?=some (some (.lst [.int a,.int b]))
def wM(L:M)(k:Nat)(a b:Int):M:=L.set k (some (.lst [.int a,.int b]))
def Dn(k:Nat)(L Z6:M):Prop:=∃a b,Z6=wM L k a b
def Hd.set{L:M}{k:Nat}(h:Hd L k)(a b:Int):(wM L k a b)[k]?=some (some (.lst [.int a,.int b])):=let ⟨_,_,e⟩:=h;tj e
def Dn.hd{L Z6:M}{k:Nat}(h:Hd L k)(d:Dn k L Z6):Hd Z6 k:=let ⟨a,b,e⟩:=d;⟨a,b,by rw[e];exact h.set a b⟩
def Dn.len{L Z6:M}{k:Nat}(d:Dn k L Z6):Z6.length=L.length:=let ⟨_,_,e⟩:=d;by rw[e];simp[wM]
def Dn.ne{L Z6:M}{k j:Nat}(d:Dn k L Z6)(h:j≠k):Z6[j]?=L[j]?:=let ⟨_,_,e⟩:=d;by rw[e];exact sT h
def MX{L:M}{k:Nat}{m:Int}(h:Hd L k)(h0:0<m)(h1:m<2^200):∃r Z6,wJ [.ref k,.int m] L=some (.int r,Z6)/\Dn k L Z6/\0<=r/\r<m:=by
 obtain⟨a,b,hk⟩:=h;by_cases ha:0<a
 ·refine⟨a%m,wM L k (a/m) b,?_,⟨_,_,rfl⟩,Int.emod_nonneg _ (by omega),Int.emod_lt_of_pos _ h0⟩;have hq:uT a m:=h0;have hd:wv a m:=⟨h0,h1⟩
  simp[wJ,Bo,At hk,yI hk,ha,hq,hd,wM]
 ·have hb1:=Int.emod_nonneg (b*48271) (b:=2147483647) (by decide);have hb2:=Int.emod_lt_of_pos (b*48271) (b:=2147483647) (by decide);refine⟨_,wM L k a (b*48271%2147483647),?_,⟨_,_,rfl⟩,Int.emod_nonneg ((b*48271%2147483647+1)^7/8) (by omega),Int.emod_lt_of_pos _ h0⟩;have hp:vS (b*48271%2147483647+1) 7:=⟨by decide,by decide,by omega⟩
  have hm:CMul b 48271:=.inr ⟨by decide,by decide⟩;have hq:uT ((b*48271%2147483647+1)^7/8) m:=h0;have hq2:uT (b*48271) 2147483647:=by unfold uT;decide
  have hd:wv ((b*48271%2147483647+1)^7) 8:=by unfold wv;decide
  have hk2:=tj (y:=some (Z8.lst [.int a,.int (b*48271%2147483647)])) hk;simp[wJ,Bo,At hk,yI hk,ha,hm,hp,hq,hq2,hd,At hk2,wM]
def No(c:Int)(L:M):∃a b,xW [.int c] L=some (.ref L.length,L++[some (.lst [.int a,.int b])]):=by
 have h1:vS 10 18:=by unfold vS;decide
 have h2:uT c 2147483629:=by unfold uT;decide
 have h3:∀(x:Int) (b:Bool),CMul x (if b then 1 else 0):=fun x b=>.inr (by cases b<;>decide);have h4:∀(x:Int) (p:Prop) [Decidable p],CMul x (if p then 1 else 0):=fun x p _=>.inr (by split<;>decide);have h5:∀(x:Int) (p:Prop) [Decidable p],CMul x (if p then 0 else 1):=fun x p _=>.inr (by split<;>decide);simp[xW,B8,h1,h2,h3,h4,h5]
def NJ{L:M}{a b:Int}:Hd (L++[some (.lst [.int a,.int b])]) L.length:=⟨a,b,by simp⟩
def ER{i j:Int}{L:M}(h:-(2^64)<i/\i<2^64):tZ (.int i) (.int j) L=some (.int (i*j),L):=by
 rw[NO,if_pos];exact .inl h
def S2{s:List Int}{x:Int}{L:M}:Bl (dI s) (.int x) L=some (.int (s.count x:Int),L):=by
 unfold Bl;simp only[dI,vU,bs];have:optAll (fun d=>zY d (.int x)) (s.map D.int)=some (s.map fun a=>a==x):=v4 fun a _=>rfl;rw[this,bs];congr 4;rw[List.countP_map];rfl
def Uc{f:D->D->M->Fr}{eb:EV}{O:G}{R:D->M->Prop}{ds:List D}{L:M}:qm2 f eb O R (.lst ds) L↔Wp (eb O L) (q2b f (.lst ds) R):=⟨fun q=>q.2,fun q=>⟨⟨_,rfl⟩,q⟩⟩
def Im(n:Nat):rm 0 n=(List.range n).map fun i:Nat=>D.int (i:Int):=by simp[rm]
def lh(s:List Int):List Int:=match s.find? fun k=>decide ((s.length:Int)<2*(s.count k:Int)) with
 |some k=>((List.range s.length).filter fun t=>decide (s.getD t 0=k)).map fun t:Nat=>(t:Int)
 |none=>[]
def EW{s:List Int}{i:Nat}{L:M}(h:i<s.length):fIx (.lst (s.map D.int)) (.int (i:Int)) L=some (.int (s.getD i 0),L):=zN (by simp[h,Xh])
def SU{s:List Int}{L:M}(hs:s.length<=1000):Wp (wS [dI s] L) fun d Z6=>d=.lst ((lh s).map D.int)/\Z6=L:=by
 unfold wS Da;refine(sw rfl).mpr ?_;show Ws (qH _ _ [some (.lst (s.map D.int)),none] L) _;simp!;refine vh (fun rr O Z6=>Z6=L/\(∃o,O=[some (.lst (s.map D.int)),o])/\∃q:List Int,rr=q.map D.int/\s.find? (fun k=>decide ((s.length:Int)<2*(s.count k:Int)))=q.find? fun k=>decide ((s.length:Int)<2*(s.count k:Int))) _ ⟨rfl,⟨_,rfl⟩,s,rfl,rfl⟩ ?_ ?_
 ·rintro d rr O Z6 ⟨rfl,⟨o,rfl⟩,q,e,hq⟩;cases q with
  |nil=>cases e
  |cons k q=>
   cases e;simp![Uc];have hc:=S2 (s:=s) (x:=k) (L:=Z6);unfold dI at hc;rw[hc];simp!;rw[ER (by decide)];simp![KN,Xj];rw[Xp] at hq;cases hb:decide ((s.length:Int)<2*(s.count k:Int)) with
   |false=>
    rw[hb] at hq;simp!;exact⟨trivial,trivial,⟨_,rfl⟩,q,rfl,hq⟩
   |true=>
    rw[hb] at hq;simp![KN,Xj];rw[yr (by omega),Im];simp![tG];refine⟨by simp;omega,?_⟩;refine uz (dn:=fun i:Nat=>D.int (i:Int)) (fun O=>∃o,O=[o,some (.lst (s.map D.int)),some (.int k)]) (c:=none) trivial (List.range s.length) ⟨_,rfl⟩ (keep:=fun t=>decide (s.getD t 0=k)) (val:=fun i:Nat=>D.int (i:Int)) ?_ ?_
    ·rintro i hi O ⟨o,rfl⟩;simp![EW (X6.mp hi)];exact⟨trivial,⟨_,rfl⟩,trivial,trivial,fun _=>⟨trivial,trivial⟩⟩
    ·simp!;unfold lh;rw[hq];refine⟨?_,trivial⟩;simp[Function.comp_def]
 ·rintro O Z6 ⟨rfl,⟨o,rfl⟩,q,e,hq⟩;cases q with
  |cons k q=>cases e
  |nil=>
   simp!;rw[sW (by simp)];simp!;unfold lh;rw[hq];exact⟨rfl,trivial⟩
def exL(m:Nat)(s:List Int):List (List Int):=(List.range (min m (mx (-1) s+2).toNat)).map fun k:Nat=>s++[(k:Int)]
def LS(m:Nat):Nat->List (List Int)
 |0=>[[]]
 |n+1=>(LS m n).flatMap (exL m)
def Js:∀m<8,∀k<8,(LS m k).length<=1000:=by decide +kernel
theorem Fh{m:Nat}:∀{k:Nat} {s:List Int},s∈LS m k->s.length=k
 |0,s,h=>by simp[LS] at h;subst h;rfl
 |k+1,s,h=>by
  simp only[LS,List.mem_flatMap,exL,XE] at h;obtain⟨a,ha,k2,_,rfl⟩:=h;simp[Fh ha]
theorem J6:∀(l:List Int) (a:Int),a<=mx a l
 | [],a=>Int.le_refl a
 |b::l,a=>by
  have:=J6 l (if b>a then b else a);simp only[mx];split at this<;>rename_i h
  ·rw[if_pos h];omega
  ·rw[if_neg h];omega
def WE{s:List Int}{a:Int}{L:M}:DX (.lst (.int a::s.map D.int)) L=some (.int (mx a s),L):=by
 have ho:optAll inI (D.int a::s.map D.int)=some (a::s):=by
  have:=v4 (f:=inI) (g:=D.int) (h:=id) (l:=a::s) (fun x _=>rfl);simpa using this
 show(optAll inI (D.int a::s.map D.int)).bind _=_;rw[ho];rfl
def Tn{n m:Nat}{L:M}(hn:n<=7)(hm:m<=7):Wp (ym [.int (n:Int),.int (m:Int)] L) fun d Z6=>d=.lst ((LS m n).map dI)/\Z6=L:=by
 unfold ym Cs;refine(sw rfl).mpr ?_;show Ws (qH _ _ [some (.int (n:Int)),some (.int (m:Int)),none,none,none,none] L) _;simp!;rw[sW (by simp)];simp!;rw[sW (by simp)];simp!;rw[yr (by omega)];simp!;refine AR (fun k O Z6=>Z6=L/\∃o3 o4 o5,O=[some (.int (n:Int)),some (.int (m:Int)),some (.lst ((LS m k).map dI)),o3,o4,o5]) ⟨rfl,_,_,_,rfl⟩ ?_ ?_
 ·rintro k O Z6 hk ⟨rfl,o3,o4,o5,rfl⟩;simp!;rw[sW (by simp)];simp!;have hfew:=Js m (by omega) (k+1) (by omega);refine vh (fun rr O Z3=>Z3=Z6/\∃(q1 q2:List (List Int)) (o5:Option D),LS m k=q1++q2/\rr=q2.map dI/\O=[some (.int (n:Int)),some (.int (m:Int)),some (.lst ((LS m k).map dI)),some (.int (k:Int)),some (.lst ((q1.flatMap (exL m)).map dI)),o5]) _ ⟨rfl,[],LS m k,_,rfl,rfl,rfl⟩ ?_ ?_
  ·rintro d rr O Z3 ⟨rfl,q1,q2,o5,hq,e,rfl⟩;cases q2 with
   |nil=>cases e
   |cons s q2=>
    cases e;have hs:=Fh (m:=m) (k:=k) (s:=s) (by rw[hq];simp);have hle:((q1++[s]).flatMap (exL m)).length<=1000:=by
     have:LS m (k+1)=((q1++[s]).flatMap (exL m))++q2.flatMap (exL m):=by
      show(LS m k).flatMap (exL m)=_;rw[hq,←List.flatMap_append];simp
     have:=congrArg List.length this;rw[XN] at this;omega
    have hsp:(q1++[s]).flatMap (exL m)=q1.flatMap (exL m)++exL m s:=by simp
    rw[hsp,XN] at hle;have hge:=J6 s (-1);unfold dI;simp!;rw[sW (by simp)];simp!;rw[y9 (by simp;omega)];simp![List.singleton_append];rw[WE];simp!;have hv:(if mx (-1) s+2<(m:Int) then mx (-1) s+2 else(m:Int))=((min m (mx (-1) s+2).toNat:Nat):Int):=by
     split<;>omega
    rw[hv,yr (by omega),Im];simp![tG];refine⟨by simp;omega,?_⟩;refine uz (dn:=fun i:Nat=>D.int (i:Int)) (fun O=>∃o,O=[o,some (.lst (s.map D.int))]) (c:=none) trivial (List.range (min m (mx (-1) s+2).toNat)) ⟨_,rfl⟩ (keep:=fun _=>true) (val:=fun i:Nat=>dI (s++[(i:Int)])) ?_ ?_
    ·rintro i hi O ⟨o,rfl⟩;simp!;rw[sW (by simp)];simp!;rw[y9 (by simp;omega)];simp!;refine⟨trivial,⟨_,rfl⟩,trivial,trivial,fun _=>⟨?_,trivial⟩⟩;simp[dI]
    ·have ev:((List.range (min m (mx (-1) s+2).toNat)).filter fun _=>true).map (fun i:Nat=>dI (s++[(i:Int)]))=(exL m s).map dI:=by
      rw[Yr.mpr (fun _ _=>rfl),exL,XS];rfl
     rw[ev,y9 (by rw[Xj,Xj];omega)];simp!;refine⟨trivial,trivial,q1++[s],q2,some (.lst (s.map D.int)),by rw[hq];simp,rfl,?_⟩;rw[hsp,Yl];rfl
  ·rintro O Z3 ⟨rfl,q1,q2,o5,hq,e,rfl⟩;cases q2 with
   |cons s q2=>cases e
   |nil=>
    simp!;rw[XT] at hq;refine⟨trivial,some (.int (k:Int)),some (.lst ((q1.flatMap (exL m)).map dI)),o5,?_⟩;show _=([some (.int (n:Int)),some (.int (m:Int)),some (.lst (((LS m k).flatMap (exL m)).map dI)),some (.int (k:Int)),some (.lst ((q1.flatMap (exL m)).map dI)),o5]:G)
    rw[hq]
 ·rintro O Z6 ⟨rfl,o3,o4,o5,rfl⟩;simp!;exact⟨trivial,trivial⟩
def Tu{L:M}{d:D}{ns:List Int}{t:Int}{b:Bool}(h:Ls L d (ns.map D.int)):fIn b (.int t) d L=some (.bl (b !=decide (t∈ns)),L):=by
 have hs:xu L d=some (ns.map D.int):=by
  rcases Bp h with⟨k,rfl,hk⟩|rfl|rfl
  ·simp[xu,uP hk]
  ·rfl
  ·rfl
 have ho:∀l:List Int,optAll flV (l.map D.int)=some (l.map V.int):=fun l=>by
  induction l with
  |nil=>rfl
  |cons a r ih=>simp[optAll,flV,ih]
 have hi:∀l:List Int,inV (V.int t) (l.map V.int)=decide (t∈l):=fun l=>by
  induction l with
  |nil=>rfl
  |cons a r ih=>
   have e:eqV (V.int a) (V.int t)=decide (t=a):=by
    show decide (a=t)=_;simp[eq_comm]
   simp[inV] at ih⊢;rw[e,ih]
 cases b<;>simp[fIn,flV,hs,ho,hi]
def zk6{L:M}{d:D}{ns:List Int}{t:Int}(h:Ls L d (ns.map D.int)):fIn true (.int t) d L=some (.bl (!decide (t∈ns)),L):=by
 rw[Tu h,Bool.true_bne]
def Tv{i j:Nat}{O:G}{L:M}{ea eb:EV}{RI:List D×Ck->M->Prop}(h1:ea O L=some (.int ((i:Int)),L))(h2:eb O L=some (.int (j:Int),L))(hi:i<=1000)(hj:j<=1000)(h:RI ((List.range (j - i)).map fun k:Nat=>D.int ((i+k:Nat):Int),none) L):Wp (wO ea eb O L) RI:=by
 have hbb:((-1000000000:Int)<=(i:Int)/\(i:Int)<=1000000000)/\-1000000000<=(j:Int)/\(j:Int)<=1000000000:=by omega
 refine B5 (L:=L) (a:=((List.range (j - i)).map fun k:Nat=>D.int ((i+k:Nat):Int),none)) ?_ h;rw[Hq,h1,Hu,h2,Il,if_pos hbb];have e2:((j:Int) - (i:Int)).toNat=j - i:=by omega
 rw[e2];unfold rm;congr 4
def AF{l:List (List Int)}{L:M}:fEq (.lst (l.map dI)) (.lst []) L=some (.bl l.isEmpty,L):=by
 have h:=CL (α:=List Int) (L:=L) (l:=l) (m:=[]) (by decide);have e1:l.map Enc.d=l.map dI:=rfl;have e2:(([]:List (List Int)).map Enc.d)=([]:List D):=rfl;rw[e1,e2] at h;unfold fEq;rw[h];cases l<;>rfl
def Og{l:List Int}{L:M}:fEq (.lst (l.map D.int)) (.lst []) L=some (.bl l.isEmpty,L):=by
 have h:=CL (α:=Int) (L:=L) (l:=l) (m:=[]) (by decide);have e1:l.map Enc.d=l.map D.int:=rfl;have e2:(([]:List Int).map Enc.d)=([]:List D):=rfl;rw[e1,e2] at h;unfold fEq;rw[h];cases l<;>rfl
def Uq{l:List Int}{L:M}:fNe (.lst (l.map D.int)) (.lst []) L=some (.bl (!l.isEmpty),L):=by
 have h:=CL (α:=Int) (L:=L) (l:=l) (m:=[]) (by decide);have e1:l.map Enc.d=l.map D.int:=rfl;have e2:(([]:List Int).map Enc.d)=([]:List D):=rfl;rw[e1,e2] at h;unfold fNe;rw[h];cases l<;>rfl
def opL(left:List (List Int)):Bool:=if(left.all fun s=>(lh s).isEmpty)=true then false else((lh (left.getD 0 [])).filter fun t=>left.all fun s=>decide (t∈lh s)).isEmpty
def SB{left:List (List Int)}{L:M}(h0:left≠[])(hl:left.length<=1000)(hs:∀s∈left,s.length<=1000):zR wS [.lst (left.map dI)] L=some (.bl (opL left),L):=by
 apply ID;unfold zR DC;refine(sw rfl).mpr ?_;show Ws (qH _ _ [some (.lst (left.map dI)),none,none] L) _;simp!;rw[tG];refine⟨by simp;omega,?_⟩;refine uz (dn:=dI) (keep:=fun _=>true) (val:=fun s=>dI (lh s)) (fun O=>∃o,O=[o]) (show qY none L from trivial) left ⟨_,rfl⟩ ?_ ?_
 ·rintro s hsm O ⟨o,rfl⟩;simp!;refine⟨trivial,⟨_,rfl⟩,trivial,trivial,fun _=>?_⟩;refine(SU (hs s hsm)).imp ?_;rintro _ _ ⟨rfl,rfl⟩;exact⟨rfl,rfl⟩
 rw[Yr.mpr (by simp)];have eh:left.map (fun s=>dI (lh s))=(left.map lh).map dI:=by rw[XS];rfl
 rw[eh];simp!;rw[tG];refine⟨by simp;omega,?_⟩;refine uz (dn:=dI) (keep:=fun h=>!h.isEmpty) (val:=dI) (fun O=>∃o,O=[o]) (show qY none L from trivial) (left.map lh) ⟨_,rfl⟩ ?_ ?_
 ·rintro h hm O ⟨o,rfl⟩;simp!;rw[sW (by simp)];have:fNe (dI h) (.lst []) L=some (.bl (!h.isEmpty),L):=Uq;simp![this];exact⟨trivial,⟨_,rfl⟩,trivial,trivial,fun _=>⟨trivial,trivial⟩⟩
 simp!;rw[sW (by simp)];simp![AF];have e1:((left.map lh).filter fun h=>!h.isEmpty).isEmpty=left.all fun s=>(lh s).isEmpty:=by
  rw[Yk];simp[XZ]
 rw[e1];cases hall:(left.all fun s=>(lh s).isEmpty) with
 |true=>
  simp!;unfold opL;rw[if_pos hall];exact⟨by first|trivial|rfl,by first|trivial|rfl⟩
 |false=>
  simp!;obtain⟨s0,ss,rfl⟩:∃s ss,left=s::ss:=List.exists_cons_of_ne_nil h0;have e0:fIx (.lst (((s0::ss).map lh).map dI)) (.int 0) L=some (dI (lh s0),L):=zN (j:=0) rfl;simp![e0];have hl0:(lh s0).length<=1000:=by
   refine Xy ?_ (hs s0 (by simp));unfold lh;split
   ·first
     |exact X2 _
     |(rw[Xj];exact Xy (X3 _ _) (by rw[XW];exact Xc _))
   ·first
     |exact X2 _
     |(rw[Xj];exact Xy (X3 _ _) (by rw[XW];exact Xc _))
  show qIL _ (.lst ((lh s0).map D.int)) L;simp!;rw[tG];refine⟨by simp;omega,?_⟩;refine uz (dn:=D.int) (keep:=fun t=>(s0::ss).all fun s=>decide (t∈lh s)) (val:=D.int) (fun O=>∃o,O=[o,some (.lst (((s0::ss).map lh).map dI))]) (show qY none L from trivial) (lh s0) ⟨_,rfl⟩ ?_ ?_
  ·rintro t ht O ⟨o,rfl⟩;simp!;rw[tG];refine⟨by first|trivial|rfl,⟨_,rfl⟩,by simp at hl⊢;omega,?_⟩;refine uz (dn:=dI) (keep:=fun h=>!decide (t∈h)) (val:=dI) (fun O=>∃o,O=[o,some (.int t)]) (show qY none L from trivial) ((s0::ss).map lh) ⟨_,rfl⟩ ?_ ?_
   ·rintro h hm O ⟨o,rfl⟩;simp!;rw[zk6 (d:=dI h) Ls.lst];simp!;exact⟨trivial,⟨_,rfl⟩,trivial,trivial,fun _=>⟨trivial,trivial⟩⟩
   ·simp!;rw[sW (by simp)];simp![AF];refine⟨?_,trivial,fun _=>⟨trivial,trivial⟩⟩;rw[Yk];simp[XZ]
  ·simp!;rw[sW (by simp)];simp![Og];unfold opL;rw[if_neg (by rw[hall];simp)];exact⟨by first|trivial|rfl,by first|trivial|rfl⟩
def VJ{n:Nat}{L:M}(hn:n<=100):xK [.int (n:Int)] L=some (.lst ((prs n).map dP),L):=by
 apply ID;unfold xK Fi;refine(sw rfl).mpr ?_;show Ws (qH _ _ [some (.int (n:Int)),none,none] L) _;simp!;rw[sW (by simp)];simp!;rw[yr (by omega)];simp!;have plen:∀k,k<=n->(((List.range k).flatMap fun i=>(List.range (n - (i+1))).map fun j=>(i,i+1+j))).length<=k*100:=by
  intro k;induction k with
  |zero=>simp
  |succ k ih=>
   intro hk;rw[List.range_succ,List.flatMap_append,XN];have:=ih (by omega);have h2:(([k]:List Nat).flatMap fun i=>(List.range (n - (i+1))).map fun j=>(i,i+1+j)).length=n - (k+1):=by
    rw[List.flatMap_cons,List.flatMap_nil,XT,Xj,XW]
   omega
 refine AR (fun k O Z6=>∃o2,O=[some (.int (n:Int)),some (.lst (((List.range k).flatMap fun i=>(List.range (n - (i+1))).map fun j=>(i,i+1+j)).map dP)),o2]/\Z6=L) ⟨_,rfl,rfl⟩ ?_ ?_
 ·rintro k O Z6 hk ⟨o2,rfl,rfl⟩;simp!;refine Tv (i:=k+1) (j:=n) rfl rfl (by omega) (by omega) ?_;rw[tG];refine⟨by simp;omega,?_⟩;refine uz (dn:=fun j:Nat=>D.int ((k+1+j:Nat):Int)) (keep:=fun _=>true) (val:=fun j=>dP (k,k+1+j)) (fun O=>∃o,O=[o,some (.int (k:Int))]) (show qY none Z6 from trivial) (List.range (n - (k+1))) ⟨_,rfl⟩ ?_ ?_
  ·rintro j hj O ⟨o,rfl⟩;simp!;rw[tz (by simp)];simp!;exact⟨trivial,⟨_,rfl⟩,trivial,trivial,fun _=>⟨rfl,trivial⟩⟩
  ·rw[Yr.mpr (by simp)];have:=plen k (by omega);simp!;rw[y9 (by rw[Xj,Xj,XW];omega)];simp!;refine⟨some (.int (k:Int)),?_,by first|trivial|rfl⟩;rw[List.range_succ,List.flatMap_append,Yl,List.flatMap_cons,List.flatMap_nil,XT,XS];rfl
 ·rintro O Z6 ⟨o2,rfl,rfl⟩;simp!;exact⟨by first|trivial|rfl,by first|trivial|rfl⟩
theorem RowsG.get{k:Nat}{P:Nat->Nat->Pap k->D->Prop}:∀{rows:List (Bool×Pap k)} {ds:List D} {lo hi:Nat},RowsG P lo hi rows ds->∀(q:Nat) (h:q<rows.length),∃(y:D) (lo2 hi2:Nat),ds[q]?=some (.tup [.bl rows[q].1,y])/\P lo2 hi2 rows[q].2 y
 | [],[],_,_,_,q,h=>absurd h (by simp)
 |r::rows,d::ds,lo,hi,⟨mid,x,m1,m2,e,p,qq⟩,0,h=>⟨x,lo,mid,by subst e;rfl,p⟩
 |r::rows,d::ds,lo,hi,⟨mid,x,m1,m2,e,p,qq⟩,q+1,h=>by
  obtain⟨y,l2,h2,e2,p2⟩:=RowsG.get qq q (by simpa using h);exact⟨y,l2,h2,by simpa using e2,by simpa using p2⟩
 | [],_::_,_,_,r,_,_=>r.elim
 |_::_,[],_,_,r,_,_=>r.elim
def Sh(n:Nat):(k:Nat)->Pap k->Prop
 |0,_=>True
 |k+1,(rows:List (Bool×Pap k))=>rows.length=(prs n).length/\∀r∈rows,Sh n k r.2
def rst(left:List (List Int))(i j:Nat)(al:Bool):List (List Int):=left.filter fun s=>decide (s.getD i 0=s.getD j 0)==al
def ve(n:Nat):(k:Nat)->List (List Int)->Pap k->Bool
 |0,left,_=>!left.isEmpty&&opL left
 |k+1,left,(rows:List (Bool×Pap k))=>!left.isEmpty&&((prs n).zip rows).all fun x=>ve n k (rst left x.1.1 x.1.2 x.2.1) x.2.2
def Ep:C0:=zR wS
def mmH:Nat->List D->M->Fr
 |0=>fun _ _=>none
 |m+1=>zM Ep xK (mmH m)
def RP{left:List (List Int)}{i j:Nat}{al:Bool}{s:List Int}(h:s∈rst left i j al):s∈left:=(Xz.mp h).1
def Nl{left:List (List Int)}{i j:Nat}{al:Bool}:(rst left i j al).length<=left.length:=X3 _ _
def GA{L:M}:fEq (.tup []) (.tup []) L=some (.bl true,L):=by
 show(eqD (.tup []) (.tup []) L).bind _=_;have:eqD (.tup []) (.tup []) L=some true:=by
  show((py 65 L (.tup [])).bind fun d=>(py 65 L (.tup [])).bind fun e=>if(d.canLay0&&e.canLay0&&decide (d.depth<=64))=true then some (PyData.eqv d e) else none)=_;have po:py 65 L (.tup [])=some (.tuple []):=rfl;rw[po];simp[PyData.canLay0,PyData.canLayAll0,PyData.depth,PyData.depthAll,PyData.eqv,PyData.eqvAll]
 rw[this];rfl
def M1{a b:Bool}{L:M}:fEq (.bl a) (.bl b) L=some (.bl (a==b),L):=by cases a<;>cases b<;>rfl
section
variable {n:Nat}
theorem VU{own:List Str}{cap:List (Str×Nat)}{O:G}{L:M}{R:D->M->Prop}{left:List (List Int)}{i j:Nat}{al:Bool}(hi:i<n)(hj:j<n)(hs:∀s∈left,s.length=n)(hc:rJ own cap O=[none,some (.int (i:Int)),some (.int (j:Int)),some (.bl al)])(hR:R (.lst ((rst left i j al).map dI)) L):
  Wp (rX none (qD 0) (vT (v2 fEq (v2 fEq (v2 fIx (be 0) (be 1)) (v2 fIx (be 0) (be 2))) (be 3))) (be 0) (left.map dI) (rJ own cap O) L) fun rs L=>R (.lst rs) L:=by
 rw[hc];refine uz (dn:=dI) (keep:=fun s=>decide (s.getD i 0=s.getD j 0)==al) (val:=dI) (fun O=>∃o,O=[o,some (.int (i:Int)),some (.int (j:Int)),some (.bl al)]) (show qY none L from trivial) left ⟨_,rfl⟩ ?_ hR;rintro s hsm O ⟨o,rfl⟩;have e1:∀L:M,fIx (dI s) (.int (i:Int)) L=some (.int (s.getD i 0),L):=fun _=>EW (by rw[hs s hsm];exact hi);have e2:∀L:M,fIx (dI s) (.int (j:Int)) L=some (.int (s.getD j 0),L):=fun _=>EW (by rw[hs s hsm];exact hj);simp![e1,e2,M1];exact⟨trivial,⟨_,rfl⟩,trivial,trivial,fun _=>⟨trivial,trivial⟩⟩
theorem VX(hn:n<=7):∀(k:Nat) (left:List (List Int)) (p:Pap k) (L:M) (m:Nat),k<m->left.length<=1000->(∀s∈left,s.length=n)->Sh n k p->∀(lo hi:Nat) (pd:D),PapG false L k lo hi p pd->Wp (mmH m [.int (n:Int),.int (k:Int),pd,.lst (left.map dI)] L) fun d Z6=>d=.bl (ve n k left p)/\Z6=L:=by
 intro k;induction k with
 |zero=>
  rintro left p L m hm hl hs _ lo hi _ ⟨rfl,_⟩;obtain⟨m,rfl⟩:∃j,m=j+1:=⟨m - 1,by omega⟩
  unfold mmH zM Bg;refine(sw rfl).mpr ?_;show Ws (qH _ _ [some (.int (n:Int)),some (.int ((0:Nat):Int)),some (.tup []),some (.lst (left.map dI)),none,none,none,none,none,none,none] L) _;have hle:ve n 0 left p=(!left.isEmpty&&opL left):=rfl;have e1:decide (((0:Nat):Int)=0)=true:=by simp
  simp!;rw[sW (by simp)];simp![AF];cases left with
  |nil=>
   simp![List.isEmpty_nil];rw[hle];exact⟨by first|trivial|rfl,by first|trivial|rfl⟩
  |cons s left=>
   have t1:∀L:M,sE "tuple" (.tup []) L=some (.bl true,L):=fun _=>rfl;have ho:Ep [.lst ((s::left).map dI)] L=some (.bl (opL (s::left)),L):=SB (by simp) hl (fun s h=>by rw[hs s h];omega);simp![List.isEmpty_cons,e1,t1];rw[tz (by simp)];simp![GA,ho];rw[hle];exact⟨by first|trivial|rfl,by first|trivial|rfl⟩
 |succ k ih=>
  rintro left (rows:List (Bool×Pap k)) L m hm hl hs ⟨hrl,hrs⟩ lo hi _ ⟨a,ds,rfl,_,_,hrow,hrg⟩;rw[show ds++ex false=ds by simp[ex]] at hrow;have hdl:=hrg.len;have hget:=hrg.get;obtain⟨m,rfl⟩:∃j,m=j+1:=⟨m - 1,by omega⟩
  have hle:ve n (k+1) left rows=(!left.isEmpty&&((prs n).zip (rows:List (Bool×Pap k))).all fun x=>ve n k (rst left x.1.1 x.1.2 x.2.1) x.2.2):=rfl;generalize ve n (k+1) left rows=res at hle;unfold mmH zM Bg;refine(sw rfl).mpr ?_;show Ws (qH _ _ [some (.int (n:Int)),some (.int ((k+1:Nat):Int)),some (.ref a),some (.lst (left.map dI)),none,none,none,none,none,none,none] L) _;have e1:decide (((k+1:Nat):Int)=0)=false:=by simp;omega
  simp!;rw[sW (by simp)];simp![AF];cases hem:left.isEmpty with
  |true=>
   simp!;rw[hle,hem];exact⟨by first|trivial|rfl,by first|trivial|rfl⟩
  |false=>
   have t1:sE "list" (.ref a) L=some (.bl true,L):=by
    unfold sE;have:tyD L (.ref a)=some "list":=by simp only[tyD,hrow]
    rw[this];rfl
   have t2:rE (.ref a) L=some (.int ((prs n).length:Int),L):=by
    unfold rE;rw[uP hrow];show some (D.int (ds.length:Int),L)=_;rw[hdl,hrl]
   have t3:∀L:M,rE (.lst ((prs n).map dP)) L=some (.int ((prs n).length:Int),L):=fun L=>by
    show some (D.int (((prs n).map dP).length:Int),L)=_;rw[Xj]
   have hpl:(prs n).length<=1000:=by
    have:∀m<8,(prs m).length<=1000:=by decide +kernel
    exact this n (by omega)
   simp![e1,VJ (show n<=100 by omega),t1,t2,t3,Xt,decide_true];rw[yr (by omega)];simp!;rw[hem] at hle;refine AR (fun q O Z6=>Z6=L/\∃(o5 o6 o7 o8 o9 o10:Option D),O=[some (.int (n:Int)),some (.int ((k+1:Nat):Int)),some (.ref a),some (.lst (left.map dI)),some (.lst ((prs n).map dP)),o5,o6,o7,o8,o9,o10]/\res=(((prs n).zip rows).drop q).all fun x=>ve n k (rst left x.1.1 x.1.2 x.2.1) x.2.2) ⟨rfl,_,_,_,_,_,_,rfl,hle⟩ ?_ ?_
   ·rintro q O Z6 hq ⟨rfl,o5,o6,o7,o8,o9,o10,rfl,hres⟩;have hq2:q<rows.length:=by omega
    have hz:q<((prs n).zip rows).length:=by rw[List.length_zip];omega
    have ex1:∀L:M,fIx (.lst ((prs n).map dP)) (.int (q:Int)) L=some (dP (prs n)[q],L):=fun _=>zN (by rw[Xw,Xk hq];rfl);obtain⟨y,lo2,hi2,hy1,hy2⟩:=hget q hq2;have ex2:fIx (.ref a) (.int (q:Int)) Z6=some (.tup [.bl rows[q].1,y],Z6):=by
     rw[At hrow,vg hy1];rfl
    rw[XC hz,List.all_cons,List.getElem_zip] at hres;have ok:=KB (XU hq);have hsh:=hrs _ (XU hq2);generalize (prs n)[q]=pq at ex1 hres ok;generalize rows[q]=rq at ex2 hres hsh hy2;simp![ex1];show Wp (rM 2 _ (.tup [.int (pq.1:Int),.int (pq.2:Int)]) _ _) _;refine(wY rfl).mpr ?_;simp![ex2];show Wp (rM 2 _ (.tup [.bl rq.1,y]) _ _) _;refine(wY rfl).mpr ?_;simp!;rw[tG];refine⟨by simp;omega,?_⟩;refine VU ok.1 ok.2.1 hs rfl ?_;simp!;have ek:(((k+1:Nat):Int) - 1)=(k:Int):=by omega
    rw[ek];refine(ih (rst left pq.1 pq.2 rq.1) rq.2 _ m (by omega) (Xy Nl hl) (fun s h=>hs s (RP h)) hsh lo2 hi2 y hy2).imp ?_;rintro _ _ ⟨rfl,rfl⟩;cases hb:ve n k (rst left pq.1 pq.2 rq.1) rq.2 with
    |false=>
     simp![X9];rw[hres,hb];exact⟨by first|trivial|rfl,by first|trivial|rfl⟩
    |true=>
     simp![Xt];rw[hb,Bool.true_and] at hres;exact⟨trivial,_,_,_,_,_,_,rfl,hres⟩
   ·rintro O Z6 ⟨rfl,o5,o6,o7,o8,o9,o10,rfl,hres⟩;simp!;rw[List.drop_of_length_le (by rw[List.length_zip];omega)] at hres;rw[hres];exact⟨by first|trivial|rfl,by first|trivial|rfl⟩
end
def wL:Nat->List D->M->Fr
 |0=>fun _ _=>none
 |m+1=>zQ (wL m)
def wE:Nat->List D->M->Fr
 |0=>fun _ _=>none
 |m+1=>zk (wE m)
def xn:Nat->List D->M->Fr
 |0=>fun _ _=>none
 |m+1=>y1 (xn m)
section
variable {n:Nat}
theorem Dz{c:String}{a:Nat}{ds:List D}{L:M}(h:L[a]?=some (some (.lst ds))):sE c (.ref a) L=some (.bl (uJ "list" c),L):=by
 unfold sE;have:tyD L (.ref a)=some "list":=by simp only[tyD,h]
 rw[this];rfl
theorem Bj{a:Nat}{ds:List D}{L:M}(h:L[a]?=some (some (.lst ds))):rE (.ref a) L=some (.int (ds.length:Int),L):=by
 unfold rE;rw[uP h]
theorem RowsG.data{k:Nat}{c:Bool}{L:M}:∀{rows:List (Bool×Pap k)} {ds:List D} {lo hi:Nat},RowsG (PapG c L k) lo hi rows ds->(∀r∈rows,Sh n k r.2)->∃Z9:List (Bool×D),ds=Z9.map (fun r=>D.tup [.bl r.1,r.2])/\∀r∈Z9,∃lo hi p,PapG c L k lo hi p r.2/\Sh n k p
 | [],[],_,_,_,_=>⟨[],rfl,fun r h=>by cases h⟩
 |r::rows,d::ds,lo,hi,⟨mid,x,m1,m2,e,p,q⟩,hs=>by
  obtain⟨Z9,e2,h2⟩:=RowsG.data q fun r hr=>hs r (by simp[hr]);refine⟨(r.1,x)::Z9,by rw[e,e2];rfl,fun y hy=>?_⟩;rcases XB.mp hy with rfl|hy
  ·exact⟨lo,mid,r.2,p,hs r (by simp)⟩
  ·exact h2 y hy
 | [],_::_,_,_,r,_=>r.elim
 |_::_,[],_,_,r,_=>r.elim
theorem N8:∀(k:Nat) (p:Pap k) (L:M) (m:Nat) (lo hi:Nat) (d:D),k<m->Sh n k p->PapG false L k lo hi p d->Wp (wL m [d] L) fun x Z6=>x=.bl true/\Z6=L:=by
 intro k;induction k with
 |zero=>
  rintro p L m lo hi _ hm _ ⟨rfl,_⟩;obtain⟨m,rfl⟩:∃j,m=j+1:=⟨m - 1,by omega⟩
  unfold wL zQ AO;refine(sw rfl).mpr ?_;show Ws (qH _ _ [some (.tup []),none] L) _;have t1:sE "tuple" (.tup []) L=some (.bl true,L):=rfl;simp![t1];rw[tz (by simp)];simp![GA];exact⟨by first|trivial|rfl,by first|trivial|rfl⟩
 |succ k ih=>
  rintro(rows:List (Bool×Pap k)) L m lo hi _ hm ⟨hl,hs⟩ ⟨a,ds,rfl,_,_,hrow,hrg⟩;rw[show ds++ex false=ds by simp[ex]] at hrow;obtain⟨m,rfl⟩:∃j,m=j+1:=⟨m - 1,by omega⟩
  obtain⟨Z9,rfl,hL⟩:=hrg.data hs;unfold wL zQ AO;refine(sw rfl).mpr ?_;show Ws (qH _ _ [some (.ref a),none] L) _;have t1:sE "tuple" (.ref a) L=some (.bl false,L):=Dz hrow;simp![t1];rw[OY hrow];simp!;refine vh (fun r O Z6=>Z6=L/\∃(l:List (Bool×D)) (o:Option D),r=l.map (fun r=>D.tup [.bl r.1,r.2])/\O=[some (.ref a),o]/\∀x∈l,x∈Z9) _ ⟨rfl,Z9,_,rfl,rfl,fun x h=>h⟩ ?_ ?_
  ·rintro d r O Z6 ⟨rfl,l,o,hr,rfl,hin⟩;cases l with
   |nil=>cases hr
   |cons x l=>
    rw[Xn] at hr;injection hr with h1 h2
    subst h1 h2;obtain⟨lo2,hi2,p2,hp2,hs2⟩:=hL x (hin x (by simp));have u1:sE "tuple" (.tup [.bl x.1,x.2]) Z6=some (.bl true,Z6):=rfl;have u2:rE (.tup [.bl x.1,x.2]) Z6=some (.int 2,Z6):=rfl;have u3:fIx (.tup [.bl x.1,x.2]) (.int 0) Z6=some (.bl x.1,Z6):=rfl;have u4:sE "bool" (.bl x.1) Z6=some (.bl true,Z6):=rfl;have u5:fIx (.tup [.bl x.1,x.2]) (.int 1) Z6=some (x.2,Z6):=rfl;simp![u1,u2,u3,u4,u5,Xt,decide_true];refine(ih p2 Z6 m lo2 hi2 x.2 (by omega) hs2 hp2).imp ?_;rintro _ _ ⟨rfl,rfl⟩;simp![Xt];exact⟨hrow,trivial,l,_,rfl,rfl,fun y hy=>hin y (by simp[hy])⟩
  ·rintro O Z6 ⟨rfl,l,o,hr,rfl,hin⟩;simp!;exact⟨by first|trivial|rfl,by first|trivial|rfl⟩
theorem PH(hp:(prs n).length<=1000):∀(k:Nat) (p:Pap k) (L:M) (m:Nat) (lo hi:Nat) (d:D),k<m->Sh n k p->PapG false L k lo hi p d->Wp (wE m [d] L) fun x Z6=>x=.bl true/\PapG true Z6 k lo hi p d/\Z6.length=L.length/\∀j,(j<lo\/hi<=j)->Z6[j]?=L[j]?:=by
 intro k;induction k with
 |zero=>
  rintro p L m lo hi _ hm _ ⟨rfl,hle⟩;obtain⟨m,rfl⟩:∃j,m=j+1:=⟨m - 1,by omega⟩
  unfold wE zk BL;refine(sw rfl).mpr ?_;show Ws (qH _ _ [some (.tup []),none,none,none] L) _;have t1:sE "list" (.tup []) L=some (.bl false,L):=rfl;simp![t1];exact⟨by first|trivial|rfl,⟨rfl,hle⟩,by first|trivial|rfl,by intros;first|rfl|trivial⟩
 |succ k ih=>
  rintro(rows:List (Bool×Pap k)) L m lo hi _ hm ⟨hl,hs⟩ ⟨a,ds,rfl,ha1,ha2,hrow,hrg⟩;rw[show ds++ex false=ds by simp[ex]] at hrow;obtain⟨m,rfl⟩:∃j,m=j+1:=⟨m - 1,by omega⟩
  have hdl:=hrg.len;unfold wE zk BL;refine(sw rfl).mpr ?_;show Ws (qH _ _ [some (.ref a),none,none,none] L) _;have t1:sE "list" (.ref a) L=some (.bl true,L):=Dz hrow;have t2:zl (.ref a) L=some (.lst ds,L):=by
   unfold zl xu;rw[uP hrow];rfl
  simp![t1,Bj hrow,t2];refine vh (fun r O Z6=>∃(rows1 rows2:List (Bool×Pap k)) (ds1:List D) (mid:Nat) (o2 o3:Option D),rows=rows1++rows2/\ds=ds1++r/\O=[some (.ref a),some (.int (ds.length:Int)),o2,o3]/\RowsG (PapG true Z6 k) (a+1) mid rows1 ds1/\RowsG (PapG false Z6 k) mid hi rows2 r/\Z6.length=L.length/\∀j,(j<a+1\/hi<=j)->Z6[j]?=L[j]?) _ ⟨[],rows,[],a+1,_,_,rfl,rfl,rfl,Xc _,hrg,rfl,fun j _=>rfl⟩ ?_ ?_
  ·rintro d r O Z5 ⟨rows1,rows2,ds1,mid,o2,o3,e1,e2,rfl,hr1,hr2,hlen,hfr⟩;cases rows2 with
   |nil=>exact hr2.elim
   |cons rr rows2=>
    obtain⟨mid2,x,m1,m2,rfl,hx,hr3⟩:=hr2;show Wp (rM 2 _ (.tup [.bl rr.1,x]) _ _) _;refine(wY rfl).mpr ?_;simp!;refine(ih rr.2 Z5 m mid mid2 x (by omega) (hs rr (by rw[e1];simp)) hx).imp ?_;rintro _ Z3 ⟨rfl,hx2,hlen2,hfr2⟩;simp!;have hle:=hr1.le;refine⟨trivial,rows1++[rr],rows2,ds1++[.tup [.bl rr.1,x]],mid2,_,_,by rw[e1];simp,by rw[e2];simp,rfl,?_,?_,by omega,?_⟩
    ·exact RowsG.snoc (hr1.frame fun j j1 j2=>hfr2 j (.inl j2)) m1 fun l hl=>PapG.wide hx2 hl (Xc _)
    ·exact hr3.frame fun j j1 j2=>hfr2 j (.inr j1)
    ·intro j hj;rw[hfr2 j (by omega)];exact hfr j hj
  ·rintro O Z5 ⟨rows1,rows2,ds1,mid,o2,o3,e1,e2,rfl,hr1,hr2,hlen,hfr⟩;cases rows2 with
   |cons rr rows2=>exact hr2.elim
   |nil=>
    rw[XT] at e1 e2;subst e1 e2;have hrow1:Z5[a]?=some (some (.lst ds)):=by rw[hfr a (by omega)];exact hrow
    simp!;rw[E4 hrow1];simp!;rw[tz (by simp)];simp!;rw[tz (by simp)];simp!;rw[HE hrow1 (by omega)];simp!;have hrow2:=tj (y:=some (Z8.lst (ds++[.tup [.bl true,.tup []]]))) hrow1;simp![Bj hrow2];rw[XO (by simp)];refine⟨rfl,⟨a,ds,rfl,ha1,ha2,?_,?_⟩,by rw[Yb];exact hlen,?_⟩
    ·rw[hrow2];rfl
    ·exact(hr1.wide hr2).frame fun j j1 j2=>sT (by omega)
    ·intro j hj;rw[sT (by omega)];exact hfr j (by omega)
theorem Ri(l:List D):vy l none (some (-1))=l.dropLast:=by
 unfold vy;have h0:HT.sIx l.length 0 none=0:=by simp[HT.sIx]
 rw[h0];cases l with
 |nil=>simp
 |cons a r=>
  have h1:HT.sIx (a::r).length (a::r).length (some (-1))=r.length:=by
   simp[HT.sIx];omega
  rw[h1,List.dropLast_eq_take];simp
theorem RA(hp:(prs n).length<=1000):∀(k:Nat) (p:Pap k) (L:M) (m:Nat) (lo hi:Nat) (d:D),k<m->Sh n k p->PapG true L k lo hi p d->Wp (xn m [d,.int ((prs n).length:Int)] L) fun x Z6=>x=.bl true/\Z6=L:=by
 intro k;induction k with
 |zero=>
  rintro p L m lo hi _ hm _ ⟨rfl,_⟩;obtain⟨m,rfl⟩:∃j,m=j+1:=⟨m - 1,by omega⟩
  unfold xn y1 Ae;refine(sw rfl).mpr ?_;show Ws (qH _ _ [some (.tup []),some (.int ((prs n).length:Int))] L) _;have t1:sE "tuple" (.tup []) L=some (.bl true,L):=rfl;simp![t1];exact⟨by first|trivial|rfl,by first|trivial|rfl⟩
 |succ k ih=>
  rintro(rows:List (Bool×Pap k)) L m lo hi _ hm ⟨hl,hs⟩ ⟨a,ds,rfl,_,_,hrow,hrg⟩;rw[show ds++ex true=ds++[.tup [.bl true,.tup []]] by simp[ex]] at hrow;obtain⟨m,rfl⟩:∃j,m=j+1:=⟨m - 1,by omega⟩
  have hdl:=hrg.len;obtain⟨Z9,rfl,hL⟩:=hrg.data hs;rw[Xj] at hdl;unfold xn y1 Ae;refine(sw rfl).mpr ?_;show Ws (qH _ _ [some (.ref a),some (.int ((prs n).length:Int))] L) _;have t1:sE "tuple" (.ref a) L=some (.bl false,L):=Dz hrow;have t3:fSl (.ref a) none (some (-1)) L=some (.lst (Z9.map fun r=>D.tup [.bl r.1,r.2]),L):=by
   unfold fSl;rw[uP hrow];show some (D.lst (vy _ none (some (-1))),L)=_;rw[Ri,List.dropLast_concat]
  simp![t1,Bj hrow];rw[XO (by simp;omega)];simp![Xt,t3];rw[tG];refine⟨by simp;omega,?_⟩;refine uz (dn:=fun r:Bool×D=>D.tup [.bl r.1,r.2]) (keep:=fun _=>false) (val:=fun r=>r.2) (fun O=>∃o o',O=[o,o',some (.int ((prs n).length:Int))]) (show qY none L from trivial) Z9 ⟨_,_,rfl⟩ ?_ ?_
  ·rintro r hr O ⟨o,o',rfl⟩;obtain⟨lo2,hi2,p2,hp2,hs2⟩:=hL r hr;refine(wY rfl).mpr ?_;simp!;refine⟨trivial,⟨_,_,rfl⟩,?_⟩;refine(ih p2 L m lo2 hi2 r.2 (by omega) hs2 hp2).imp ?_;rintro _ _ ⟨rfl,rfl⟩;simp![Xt];exact⟨trivial,trivial,fun z=>by cases z⟩
  ·have ef:((Z9.filter fun _=>false).map fun r:Bool×D=>r.2)=[]:=by simp
   rw[ef];simp!;rw[sW (by simp)];have en:fEq (.lst []) (.lst []) L=some (.bl true,L):=by rfl
   simp![en];exact⟨by first|trivial|rfl,by first|trivial|rfl⟩
end
def zJ(n k:Nat):Bool:=match pb n k [] with
 |none=>false
 |some p=>ve n k (LS n n) p
def Pw:zJ 2 0=true:=by decide +kernel
def SN:zJ 3 2=true:=by decide +kernel
def VR:zJ 4 3=true:=by decide +kernel
theorem J9{α β:Type}{f:α->Option β}:∀{l:List α} {r:List β},uA f l=some r->r.length=l.length/\∀y∈r,∃a∈l,f a=some y
 | [],r,h=>by cases h;exact⟨rfl,fun y hy=>by cases hy⟩
 |a::l,r,h=>by
  simp only[uA] at h;cases hf:f a with
  |none=>rw[hf] at h;cases h
  |some b=>
   rw[hf] at h;cases hm:uA f l with
   |none=>rw[hm] at h;cases h
   |some q=>
    rw[hm] at h;cases h;obtain⟨h1,h2⟩:=J9 hm;refine⟨by simp[h1],fun y hy=>?_⟩;rcases XB.mp hy with rfl|hy
    ·exact⟨a,by simp,hf⟩
    ·obtain⟨c,hc,e⟩:=h2 y hy;exact⟨c,by simp[hc],e⟩
def Wz{β:Type}{f:Bool->Option β}{x:Bool×β}(h:tH f=some x):f x.1=some x.2:=by
 unfold tH at h;cases h1:f true with
 |some r=>rw[h1] at h;cases h;exact h1
 |none=>
  rw[h1] at h;cases h2:f false with
  |some r=>rw[h2] at h;cases h;exact h2
  |none=>rw[h2] at h;cases h
theorem Hl{n:Nat}:∀(k:Nat) (as:List An) (p:Pap k),pb n k as=some p->Sh n k p
 |0,_,_,_=>trivial
 |k+1,as,(p:List (Bool×Pap k)),h=>by
  have hle:pb n (k+1) as=if sM as then(uA (fun p=>tH fun b=>pb n k (as++[(p.1,p.2,b)])) (prs n):Option (List (Bool×Pap k))) else none:=rfl
  rw[hle] at h;cases hc:sM as with
  |false=>rw[hc] at h;cases h
  |true=>
   rw[hc,if_pos rfl] at h;obtain⟨h1,h2⟩:=J9 h;refine⟨h1,fun r hr=>?_⟩;obtain⟨a,_,e⟩:=h2 r hr;exact Hl k _ _ (Wz e)
def UX:∀n<5,∀s∈rn n n,(sA s).length<=1000:=by decide +kernel
def Sw:cs (prs 2).length 2<=15000000:=by decide +kernel
def TZ:cs (prs 3).length 4<=15000000:=by decide +kernel
def Q5:cs (prs 4).length 5<=15000000:=by decide +kernel
theorem Su{c:BV}{sb:SV}{O:G}{L:M}{Q:Out->G->M->Prop}(I:Nat->G->M->Prop)(m N:Nat)(h0:I m O L)(hN:m<N)
  (hs:∀m O L,I m O L->Wp (c O L) fun b Z5=>if b=true then Ws (sb O Z5) fun o ZX Z3=>match o with
   | .nx=>∃m',m'<m/\I m' ZX Z3
   | .ct=>∃m',m'<m/\I m' ZX Z3
   | .bk=>Q .nx ZX Z3
   | .rt d=>Q (.rt d) ZX Z3 else Q .nx O Z5):Ws (wl c sb N O L) Q:=by
 induction N generalizing O L m with
 |zero=>omega
 |succ N ih=>
  refine ws_bind.mpr ((hs m O L h0).imp fun b Z5 h=>?_);cases b with
  |false=>exact ws_some.mpr h
  |true=>
   refine wss_bind.mpr (Ws.imp h fun o ZX Z3 h=>?_);cases o with
   |nx=>obtain⟨m',h1,h2⟩:=h;exact ih (O:=ZX) (L:=Z3) m' h2 (by omega)
   |ct=>obtain⟨m',h1,h2⟩:=h;exact ih (O:=ZX) (L:=Z3) m' h2 (by omega)
   |bk=>exact ws_some.mpr h
   |rt d=>exact ws_some.mpr h
variable {L:M}
theorem Qg{l:Nat}{xs:List Int}(h:L[l]?=some (some (.lst (xs.map D.int)))):fNe (.ref l) (.lst []) L=some (.bl (!xs.isEmpty),L):=by
 have h':L[l]?=some (some (.lst (xs.map Enc.d))):=h;have e:=SQ (α:=Int) (m:=[]) (by decide) h';have e2:(([]:List Int).map Enc.d)=([]:List D):=rfl;rw[e2] at e;unfold fNe;rw[e];cases xs<;>rfl
theorem erase_map{α β:Type}{f:α->β}:∀(l:List α) (i:Nat),(l.map f).eraseIdx i=(l.eraseIdx i).map f
 | [],_=>rfl
 |_::_,0=>rfl
 |a::l,i+1=>by simp[List.eraseIdx,erase_map l i]
theorem N5{l r:Nat}{xs:List Int}(h:L[l]?=some (some (.lst (xs.map D.int))))(hr:r<xs.length)(hl:xs.length<=1000):zz (.ref l) (.int (r:Int)) L=some (.int xs[r],L.set l (some (.lst ((xs.eraseIdx r).map D.int)))):=by
 unfold zz;simp only;rw[yI h,if_pos (by omega)];simp[Xk hr,erase_map]
section
variable {CS C CF CT:Addr} {n k:Nat} {L:M}
abbrev BK(CS C CT:Addr):FX:=BF (xk C CT) (Bm CS CT) (.int 5)
structure Kn (n k:Nat) (p:Pap k):Prop where
 n2:2<=n
 n4:n<=4
 k3:k<=3
 few:Few n n (k+1)
 cs:cs (prs n).length (k+1+1)<=15000000
 is:pb n k []=some p
 law:ve n k (LS n n) p=true
theorem Fe(n2:2<=n)(n4:n<=4)(k3:k<=3)(F:Few n n (k+1))(hc:Law.cs (prs n).length (k+1+1)<=15000000)(h:zJ n k=true):∃p,Kn n k p:=by
 unfold zJ at h;cases hp:pb n k [] with
 |none=>rw[hp] at h;cases h
 |some p=>
  rw[hp] at h;exact⟨p,n2,n4,k3,F,hc,hp,h⟩
theorem Ng(n2:2<=n)(n4:n<=4):∃(k:Nat) (p:Pap k),Kn n k p/\(3*(n:Int)+1)/2 - 3=(k:Int)/\(n:Int)*((n:Int) - 1)/2=((prs n).length:Int):=by
 have:n=2\/n=3\/n=4:=by omega
 rcases this with rfl|rfl|rfl
 ·obtain⟨p,h⟩:=Fe (n:=2) (k:=0) (by omega) (by omega) (by omega) Vi Sw Pw;exact⟨0,p,h,by decide,by decide⟩
 ·obtain⟨p,h⟩:=Fe (n:=3) (k:=2) (by omega) (by omega) (by omega) TN TZ SN;exact⟨2,p,h,by decide,by decide⟩
 ·obtain⟨p,h⟩:=Fe (n:=4) (k:=3) (by omega) (by omega) (by omega) Nt Q5 VR;exact⟨3,p,h,by decide,by decide⟩
def AD(CS C CF CT:Addr):C0:=AX (dn (xk C CT)) (dn (BK CS C CT)) (mmB C CF CT 10) (.int 4) (.int 2)
theorem Rn{p:Pap k}(h:Kn n k p):Wp (AD CS C CF CT [.int (n:Int)] L) fun d Z6=>Gr L Z6/\∃lo,L.length<=lo/\PapG false Z6 k lo Z6.length p d:=by
 obtain⟨t,ht⟩:=h.few.yes;have h2:=h.n2;have h4:=h.n4;have h3:=h.k3;unfold AD AX Cd;refine(sw rfl).mpr ?_;show Ws (qH _ _ [some (.int (n:Int)),none,none] L) _;simp!;refine Bn ((Jo (CN:=C) (CT:=CT) (n:=n) (L:=L) (lo:=2) (hi:=4) (by omega) (by omega)).imp ?_);rintro _ Z5 ⟨rfl,rfl⟩;refine⟨_,rfl,?_⟩;simp!;have hw:Wp (dn (BK CS C CT) [.int (n:Int)] Z5) fun d Z6=>d=.tup [.int ((k+1:Nat):Int),dTr t]/\Gr Z5 Z6:=by
  refine Bn ?_;unfold BK BF DK;refine(Dm rfl).mpr ?_;show Wt (sR _ _ [some (.int (n:Int))] Z5) _;simp!;refine(Jo (by omega) (by omega)).imp ?_;rintro _ L ⟨rfl,rfl⟩;simp!;refine(Wh (C:=CS) (CT:=CT) (m:=n) (by omega) (by omega) (UX n (by omega)) h.few h.cs ht).imp ?_;rintro _ Z3 ⟨rfl,g⟩;simp!;exact⟨_,rfl,rfl,g⟩
 refine hw.imp ?_;rintro _ Z3 ⟨rfl,g2⟩;refine(wY rfl).mpr ?_;simp!;rw[sW (by simp)];simp!;have ek:(((k+1:Nat):Int) - 1)=(k:Int):=by omega
 rw[ek];refine(Vt (n:=n) (by omega) (Li n (by omega)) k [] Z3 10 (by omega) (fun a h=>by simp at h) (by simp;omega)).imp ?_;rintro d ZN ⟨hd,g3⟩;simp!;rw[h.is] at hd;exact⟨g2.trans g3,Z3.length,g2.len,hd⟩
end
theorem IF{L Z6:M}{k:Nat}(h:Hd L k)(g:Gr L Z6):Hd Z6 k:=let ⟨a,b,e⟩:=h;⟨a,b,g.get e⟩
theorem Hd.lt{L:M}{k:Nat}(h:Hd L k):k<L.length:=let ⟨_,_,e⟩:=h;(Xe.mp e).1
theorem Wy{L:M}{k lo hi:Nat}{p:Pap k}{d:D}(h:PapG false L k lo hi p d):Bk ["list","tuple"] d L=some (.bl true,L):=by
 cases k with
 |zero=>rw[h.1];rfl
 |succ k=>
  obtain⟨a,ds,rfl,_,_,hrow,_⟩:=h;unfold Bk;have:tyD L (.ref a)=some "list":=by simp only[tyD,hrow]
  rw[this];rfl
abbrev EB(CS C CF CT:Addr):C0:=Bd xW wJ (AD CS C CF CT) (wL 10) ym (mmH 10) (wE 10) (xn 10)
section
variable {CS C CF CT:Addr}
theorem WR:∀n<5,(prs n).length<=1000:=by decide +kernel
theorem TF(ns:List Int)(hn:ns.length<=63):∃Z6,EB CS C CF CT [.scr (ns.map D.int)] []=some (.bl true,Z6):=by
 suffices h:Wp (EB CS C CF CT [.scr (ns.map D.int)] []) fun d _=>d=.bl true by
  obtain⟨d,Z6,e,rfl⟩:=h;exact⟨Z6,e⟩
 have hp:ye (.int 10) (.int 18) []=some (.int (10^18),[]):=by
  have h1:vS 10 18:=by unfold vS;decide
  simp[h1]
 have hc:BR (.scr (ns.map D.int)) (.lst [.int (10^18)]) []=some (.lst ((ns++[(10^18:Int)]).map D.int),[]):=by
  rw[Yl];show(if(ns.map D.int).length+[D.int (10^18)].length<=1000000 then some (D.lst (ns.map D.int++[D.int (10^18)]),([]:M)) else none)=_;rw[if_pos (by simp;omega)];rfl
 obtain⟨c,hi⟩:∃c:Int,fIx (.lst ((ns++[(10^18:Int)]).map D.int)) (.int 0) []=some (.int c,[]):=by
  cases ns with
  |nil=>exact⟨_,zN (j:=0) rfl⟩
  |cons a r=>exact⟨_,zN (j:=0) rfl⟩
 unfold EB Bd EJ;refine(sw rfl).mpr ?_;show Ws (qH _ _ [some (.scr (ns.map D.int)),none,none,none,none,none,none] []) _;simp![hp];rw[sW (by simp)];simp![hc,hi];obtain⟨a,b,eh⟩:=No c [];refine B5 eh ?_;have d1:Hd (([]:M)++[some (.lst [.int a,.int b])]) ([]:M).length:=NJ;generalize ([]:M)++[some (Z8.lst [.int a,.int b])]=Z5 at d1;generalize ([]:M).length=h at d1;simp!;rw[Kr (by simp)];simp!;have hl3:(Z5++[some (Z8.lst [.int 2,.int 3,.int 4])])[Z5.length]?=some (some (.lst ([2,3,4].map D.int))):=by simp
 have d3:Hd (Z5++[some (Z8.lst [.int 2,.int 3,.int 4])]) h:=IF d1 gr_app;have hkl:h≠Z5.length:=by have:=d1.lt;omega
 generalize Z5++[some (Z8.lst [.int 2,.int 3,.int 4])]=ZN at hl3 d3;generalize Z5.length=l at hl3 hkl;refine Su (fun m O Z6=>∃(ys:List Int) (o3 o4 o5 o6:Option D),ys.length=m/\O=[some (.scr (ns.map D.int)),some (.ref h),some (.ref l),o3,o4,o5,o6]/\Z6[l]?=some (some (.lst (ys.map D.int)))/\(∀y∈ys,2<=y/\y<=4)/\ys.length<=3/\Hd Z6 h) 3 1000000 ⟨[2,3,4],_,_,_,_,rfl,rfl,hl3,by decide,by decide,d3⟩ (by decide) ?_;rintro m O Zs ⟨ys,o3,o4,o5,o6,rfl,rfl,hl4,hy,hyl,d4⟩;simp!;rw[sW (by simp)];simp![Qg hl4];cases he:ys.isEmpty with
 |true=>
  simp![Xt,XL,if_false]
 |false=>
  simp![X9,if_true];have hyp:0<ys.length:=by cases ys with|nil=>cases he|cons a r=>simp
  rw[E4 hl4];simp![Bj hl4,Xj];obtain⟨t,Zl,e5,dn5,t0,t1⟩:=MX (m:=(ys.length:Int)) d4 (by omega) (by omega);obtain⟨r,rfl⟩:∃r:Nat,t=(r:Int):=⟨t.toNat,by omega⟩
  have hr:r<ys.length:=by omega
  have d5:=Dn.hd d4 dn5;have hl5:Zl[l]?=some (some (.lst (ys.map D.int))):=by rw[dn5.ne (fun z=>hkl z.symm)];exact hl4
  simp![e5];rw[N5 hl5 hr (by omega)];have hyr:=hy _ (XU hr);obtain⟨n,hnn,n2,n4⟩:∃n:Nat,ys[r]=(n:Int)/\2<=n/\n<=4:=⟨ys[r].toNat,by omega,by omega,by omega⟩
  rw[hnn];simp!;rw[ER (by decide)];simp!;rw[Jq (by decide) (by decide)];simp!;obtain⟨k,p,K,hk,hpr⟩:=Ng n2 n4;rw[hk];have hl6:(Zl.set l (some (.lst ((ys.eraseIdx r).map D.int))))[l]?=some (some (.lst ((ys.eraseIdx r).map D.int))):=tj hl5;have d6:Hd (Zl.set l (some (.lst ((ys.eraseIdx r).map D.int)))) h:=by
   obtain⟨x,y,e⟩:=d5;exact⟨x,y,by rw[sT hkl];exact e⟩
  generalize Zl.set l (some (.lst ((ys.eraseIdx r).map D.int)))=Y4 at hl6 d6;have hsh:Sh n k p:=Hl k [] p K.is;have hp2:=WR n (by omega);have k3:=K.k3;refine(yr (k:=2) (by decide)).mpr ?_;simp!;refine AR (fun _ O Z6=>∃(o5 o6:Option D),O=[some (.scr (ns.map D.int)),some (.ref h),some (.ref l),some (.int (n:Int)),some (.int (k:Int)),o5,o6]/\Hd Z6 h/\Z6[l]?=some (some (.lst ((ys.eraseIdx r).map D.int)))) ⟨_,_,rfl,d6,hl6⟩ ?_ ?_
  ·rintro q O Y7 hq ⟨o5,o6,rfl,d7,hl7⟩;simp!;refine(Rn K).imp ?_;rintro d Zd ⟨g8,lo,hlo,hpap⟩;have d8:=IF d7 g8;have hl8:=g8.get hl7;simp![Wy hpap,Xt];refine(N8 (n:=n) k p Zd 10 lo Zd.length d (by omega) hsh hpap).imp ?_;rintro _ Y3 ⟨rfl,rfl⟩;simp![Xt];refine(Tn (n:=n) (m:=n) (by omega) (by omega)).imp ?_;rintro _ Y2 ⟨rfl,rfl⟩;simp!;refine(VX (n:=n) (by omega) k (LS n n) p _ 10 (by omega) (Js n (by omega) n (by omega)) (fun s h=>Fh h) hsh lo _ d hpap).imp ?_;rintro _ Y1 ⟨rfl,rfl⟩;rw[K.law];simp![Xt];refine(PH hp2 k p _ 10 lo _ d (by omega) hsh hpap).imp ?_;rintro _ Zc ⟨rfl,hpap2,hlen,hfr⟩;have hhl:=d7.lt;have hll:=(Xe.mp hl7).1;have d12:Hd Zc h:=by
    obtain⟨x,y,e⟩:=d8;exact⟨x,y,by rw[hfr h (.inl (by omega))];exact e⟩
   have hl12:Zc[l]?=some (some (.lst ((ys.eraseIdx r).map D.int))):=by rw[hfr l (.inl (by omega))];exact hl8
   simp![Xt];rw[ER (by omega)];simp!;rw[Jq (by decide) (by decide)];simp!;rw[hpr];refine(RA hp2 k p _ 10 lo _ d (by omega) hsh hpap2).imp ?_;rintro _ Y0 ⟨rfl,rfl⟩;simp![Xt];exact⟨_,_,rfl,d12,hl12⟩
  ·rintro O Y7 ⟨o5,o6,rfl,d7,hl7⟩;refine⟨(ys.eraseIdx r).length,by rw[List.length_eraseIdx,if_pos hr];omega,ys.eraseIdx r,_,_,_,_,rfl,rfl,hl7,fun y hy2=>hy y (List.mem_of_mem_eraseIdx hy2),by rw[List.length_eraseIdx,if_pos hr];omega,d7⟩
end
@[elab_as_elim] theorem t5{α:Type}{P:List α->Prop}(us:List α)(h:us.length=1)(k:∀a,P [a]):P us:=match us,h with| [a],_=>k a
@[elab_as_elim] theorem uF{α:Type}{P:List α->Prop}(us:List α)(h:us.length=2)(k:∀a b,P [a,b]):P us:=match us,h with| [a,b],_=>k a b
@[elab_as_elim] theorem x6{α:Type}{P:List α->Prop}(us:List α)(h:us.length=3)(k:∀a b c,P [a,b,c]):P us:=match us,h with| [a,b,c],_=>k a b c
@[elab_as_elim] theorem FI{α:Type}{P:List α->Prop}(us:List α)(h:us.length=4)(k:∀a b c d,P [a,b,c,d]):P us:=match us,h with| [a,b,c,d],_=>k a b c d
theorem all_mk{l:PySem.W.OpenLaw}{w:World}{K:Frag}{h:Heap}{mg:Str->Option Value}{fa f1 f2 f3 f4 f5 f6 f7 f8 f9 dF cP dz cy cG dy cK cj cm cn ck dZ cZ dG cS cr dh dL dB cM dH dJ cI dC cB cU dt dr aa ad af ae:Addr}(X:K.In h)(G:h.Ns mainGlobals mg)(lT:mg "law"=some (.ref fa))
  {qg pC oU oW nk mF nr qo qw pi qx qm mq md oz oM p9 mT hV kr jK ke jk gH gX hX i8 lw i9 lE jO kP lg i5 kH jv jz ln iK lP gO ii gS jL jR kX gl kn kl jU ib kK iF jC lz ki ir kY gz kd gy jl lb iZ iD iJ iV i0 iy ip kz lf kc dq:Option Addr} {lW sl2 mW qj oI mn nt mX oo jn iA kg gU gM lR lA j9 lG ia im jX jx ku j6 ig lF h8 jN jq gA gF jP iO kq jT jd jc:Array (Option Value)} {mQ kV1 mf oq eP nn nU kV2 nC oZ fS oN nq qe pj mS fW ms me pz mU on eU og qv mZ oG qh ft lX mz oO ph oy fe pR pF qb nv pc fv oS m6 mD m9 nM fC oC oV lZ qd nD fP mI gY kF ld iX dc je kZ gI gP j7 cR ik lc j5 jA kC cY jS h9 iq i6 iw di j8 hJ iW kh iU dw kJ jH iB kN hU dv iz jg lO lr lj dj kU j4 kM iY jy dX ju iN iC gJ jY cv ji j3 gw jW jV cw gq jp km lD jF cA kO hW jM jE gK db iS iE jD iQ jo cJ gm jw lC jf gu dY gC i4 gp ij jI dU iH io kj li iG eg gQ lL lq kA jb de kf i7 gE kQ lM cX kt gL lQ gR ic dW gN ly gk h7 jm cD lJ kR gZ ko ka cz lm iP ie gB kB cH ja jh gW lK lB dg kE gx gG lN gD dR jB il jJ lI lH cO iI iu js j0 jZ du jt ll jG gn jQ dl kW iM cQ da cx bQ dM:Value}
  (a1:nsIn K mainGlobals "check_things"=some (some (.ref f1)))
  (l1:K.lookup f1=some ⟨mQ,qg,.func (fnOf "check_things" "check_things" (rz (top 16)) (rl (top 16)) (qJ (top 16)) .none kV1 mf oq pC eP nn),lW⟩) (c1:codeIn K eP "check_things"=true) (k1:keepIn K (.ref f1)=true)
  (a2:nsIn K mainGlobals "moved"=some (some (.ref f2)))
  (l2:K.lookup f2=some ⟨nU,oU,.func (fnOf "moved" "moved" (rz (top 17)) (rl (top 17)) (qJ (top 17)) .none kV2 nC oZ oW fS oN),sl2⟩) (c2:codeIn K fS "moved"=true) (k2:keepIn K (.ref f2)=true)
  (a3:nsIn K mainGlobals "homes_of"=some (some (.ref f3)))
  (l3:K.lookup f3=some ⟨nq,nk,.func (fnOf "homes_of" "homes_of" (rz (top 18)) (rl (top 18)) (qJ (top 18)) .none qe pj mS mF fW ms),mW⟩) (c3:codeIn K fW "homes_of"=true) (k3:keepIn K (.ref f3)=true)
  (a4:nsIn K mainGlobals "can_be"=some (some (.ref f4)))
  (l4:K.lookup f4=some ⟨me,nr,.func (fnOf "can_be" "can_be" (rz (top 19)) (rl (top 19)) (qJ (top 19)) .none pz mU on qo eU og),qj⟩) (c4:codeIn K eU "can_be"=true) (k4:keepIn K (.ref f4)=true)
  (a5:nsIn K mainGlobals "check_right"=some (some (.ref f5)))
  (l5:K.lookup f5=some ⟨qv,qw,.func (fnOf "check_right" "check_right" (rz (top 20)) (rl (top 20)) (qJ (top 20)) .none mZ oG qh pi ft lX),oI⟩) (c5:codeIn K ft "check_right"=true) (k5:keepIn K (.ref f5)=true)
  (a6:nsIn K mainGlobals "fits"=some (some (.ref f6)))
  (l6:K.lookup f6=some ⟨mz,qx,.func (fnOf "fits" "fits" (rz (top 21)) (rl (top 21)) (qJ (top 21)) .none oO ph oy qm fe pR),mn⟩) (c6:codeIn K fe "fits"=true) (k6:keepIn K (.ref f6)=true)
  (a7:nsIn K mainGlobals "one_thing_more"=some (some (.ref f7)))
  (l7:K.lookup f7=some ⟨pF,mq,.func (fnOf "one_thing_more" "one_thing_more" (rz (top 9)) (rl (top 9)) (qJ (top 9)) .none qb nv pc md fv oS),nt⟩) (c7:codeIn K fv "one_thing_more"=true) (k7:keepIn K (.ref f7)=true)
  (a8:nsIn K mainGlobals "all_sorts"=some (some (.ref f8)))
  (l8:K.lookup f8=some ⟨m6,oz,.func (fnOf "all_sorts" "all_sorts" (rz (top 10)) (rl (top 10)) (qJ (top 10)) .none mD m9 nM oM fC oC),mX⟩) (c8:codeIn K fC "all_sorts"=true) (k8:keepIn K (.ref f8)=true)
  (a9:nsIn K mainGlobals "sorts_that_fit"=some (some (.ref f9)))
  (l9:K.lookup f9=some ⟨oV,p9,.func (fnOf "sorts_that_fit" "sorts_that_fit" (rz (top 22)) (rl (top 22)) (qJ (top 22)) .none lZ qd nD mT fP mI),oo⟩) (c9:codeIn K fP "sorts_that_fit"=true) (k9:keepIn K (.ref f9)=true)
  (mo:nsIn K mainGlobals "alike_things"=some (some (.ref dF)))
  (nJ:K.lookup dF=some ⟨gY,hV,.func (fnOf "alike_things" "alike_things" (rz (top 7)) (rl (top 7)) (qJ (top 7)) .none kF ld iX kr dc je),jn⟩) (nB:codeIn K dc "alike_things"=true) (eX:keepIn K (.ref dF)=true)
  (nI:nsIn K mainGlobals "more_than_half"=some (some (.ref cP)))
  (nz:K.lookup cP=some ⟨kZ,jK,.func (fnOf "more_than_half" "more_than_half" (rz (top 8)) (rl (top 8)) (qJ (top 8)) .none gI gP j7 ke cR ik),iA⟩) (qa:codeIn K cR "more_than_half"=true) (fr:keepIn K (.ref cP)=true)
  (mY:nsIn K mainGlobals "half_ends"=some (some (.ref dz)))
  (pU:K.lookup dz=some ⟨lc,jk,.func (fnOf "half_ends" "half_ends" (rz (top 13)) (rl (top 13)) (qJ (top 13)) .none j5 jA kC gH cY jS),kg⟩) (mL:codeIn K cY "half_ends"=true) (fB:keepIn K (.ref dz)=true)
  (oF:nsIn K mainGlobals "common_end"=some (some (.ref cy)))
  (nj:K.lookup cy=some ⟨h9,gX,.func (fnOf "common_end" "common_end" (rz (top 14)) (rl (top 14)) (qJ (top 14)) .none iq i6 iw hX di j8),gU⟩) (pH:codeIn K di "common_end"=true) (eJ:keepIn K (.ref cy)=true)
  (nW:nsIn K mainGlobals "tells"=some (some (.ref cG)))
  (pw:K.lookup cG=some ⟨hJ,i8,.func (fnOf "tells" "tells" (rz (top 23)) (rl (top 23)) (qJ (top 23)) .none iW kh iU lw dw kJ),gM⟩) (pX:codeIn K dw "tells"=true) (fb:keepIn K (.ref cG)=true)
  (p6:nsIn K mainGlobals "pairs_of"=some (some (.ref dy)))
  (lU:K.lookup dy=some ⟨jH,i9,.func (fnOf "pairs_of" "pairs_of" (rz (top 25)) (rl (top 25)) (qJ (top 25)) .none iB kN hU lE dv iz),lR⟩) (nw:codeIn K dv "pairs_of"=true) (ga:keepIn K (.ref dy)=true)
  (nc:nsIn K mainGlobals "check_many"=some (some (.ref cK)))
  (nF:K.lookup cK=some ⟨jg,jO,.func (fnOf "check_many" "check_many" (rz (top 27)) (rl (top 27)) (qJ (top 27)) .none lO lr lj kP dj kU),lA⟩) (pY:codeIn K dj "check_many"=true) (eN:keepIn K (.ref cK)=true)
  (oE:findIn K (.ref aa) "__init__"=some (some (.ref cj))) (nl:isFn K (.ref cj)=true)
  (nu:K.lookup cj=some ⟨j4,lg,.func (fnOf "__init__" "Search.__init__" (rz (sq (top 29) 0)) (rl (sq (top 29) 0)) (qJ (sq (top 29) 0)) .none kM iY jy i5 dX ju),j9⟩) (o0:codeIn K dX "Search.__init__"=true) (mv:keepIn K (.ref cj)=true)
  (mH:findIn K (.ref aa) "tree_asking"=some (some (.ref cm))) (oa:isFn K (.ref cm)=true)
  (om:K.lookup cm=some ⟨iN,kH,.func (fnOf "tree_asking" "Search.tree_asking" (rz (sq (top 29) 3)) (rl (sq (top 29) 3)) (qJ (sq (top 29) 3)) .none iC gJ jY jv cv ji),lG⟩) (pS:codeIn K cv "Search.tree_asking"=true) (fH:keepIn K (.ref cm)=true)
  (mw:findIn K (.ref aa) "new_tree"=some (some (.ref cn))) (pM:isFn K (.ref cn)=true)
  (mJ:K.lookup cn=some ⟨j3,jz,.func (fnOf "new_tree" "Search.new_tree" (rz (sq (top 29) 2)) (rl (sq (top 29) 2)) (qJ (sq (top 29) 2)) .none gw jW jV ln cw gq),ia⟩) (pk:codeIn K cw "Search.new_tree"=true) (eK:keepIn K (.ref cn)=true)
  (fX:findIn K (.ref aa) "tree_within"=some (some (.ref ck))) (eI:isFn K (.ref ck)=true)
  (p8:K.lookup ck=some ⟨jp,iK,.func (fnOf "tree_within" "Search.tree_within" (rz (sq (top 29) 1)) (rl (sq (top 29) 1)) (qJ (sq (top 29) 1)) .none km lD jF lP cA kO),im⟩) (nP:codeIn K cA "Search.tree_within"=true) (cW:keepIn K (.ref ck)=true)
  (nK:nsIn K mainGlobals "fewest_asks"=some (some (.ref dZ)))
  (mP:K.lookup dZ=some ⟨hW,gO,.func (fnOf "fewest_asks" "fewest_asks" (rz (top 30)) (rl (top 30)) (qJ (top 30)) .none jM jE gK ii db iS),jX⟩) (qf:codeIn K db "fewest_asks"=true) (fO:keepIn K (.ref dZ)=true)
  (nA:nsIn K mainGlobals "fewest_of"=some (some (.ref cZ)))
  (ng:K.lookup cZ=some ⟨iE,gS,.func (fnOf "fewest_of" "fewest_of" (rz (top 33)) (rl (top 33)) (qJ (top 33)) .none jD iQ jo jL cJ gm),jx⟩) (m8:codeIn K cJ "fewest_of"=true) (fM:keepIn K (.ref cZ)=true)
  (pN:nsIn K mainGlobals "fewest"=some (some (.ref dG)))
  (oJ:K.lookup dG=some ⟨jw,jR,.func (fnOf "fewest" "fewest" (rz (top 34)) (rl (top 34)) (qJ (top 34)) .none lC jf gu kX dY gC),ku⟩) (p7:codeIn K dY "fewest"=true) (e9:keepIn K (.ref dG)=true)
  (oA:nsIn K mainGlobals "row_behind"=some (some (.ref cS)))
  (ni:K.lookup cS=some ⟨i4,gl,.func (fnOf "row_behind" "row_behind" (rz (top 38)) (rl (top 38)) (qJ (top 38)) .none gp ij jI kn dU iH),j6⟩) (mV:codeIn K dU "row_behind"=true) (eF:keepIn K (.ref cS)=true)
  (nL:nsIn K mainGlobals "paper_behind"=some (some (.ref cr)))
  (mh:K.lookup cr=some ⟨io,kl,.func (fnOf "paper_behind" "paper_behind" (rz (top 39)) (rl (top 39)) (qJ (top 39)) .none kj li iG jU eg gQ),ig⟩) (pI:codeIn K eg "paper_behind"=true) (dD:keepIn K (.ref cr)=true)
  (mO:nsIn K mainGlobals "holding_paper"=some (some (.ref dh)))
  (mj:K.lookup dh=some ⟨lL,ib,.func (fnOf "holding_paper" "holding_paper" (rz (top 40)) (rl (top 40)) (qJ (top 40)) .none lq kA jb kK de kf),lF⟩) (qk:codeIn K de "holding_paper"=true) (gf:keepIn K (.ref dh)=true)
  (nY:nsIn K mainGlobals "_law_hand"=some (some (.ref dL)))
  (nZ:K.lookup dL=some ⟨i7,iF,.func (fnOf "_law_hand" "_law_hand" (rz (top 42)) (rl (top 42)) (qJ (top 42)) .none gE kQ lM jC cX kt),h8⟩) (qi:codeIn K cX "_law_hand"=true) (fk:keepIn K (.ref dL)=true)
  (m4:nsIn K mainGlobals "_law_take"=some (some (.ref dB)))
  (oR:K.lookup dB=some ⟨gL,lz,.func (fnOf "_law_take" "_law_take" (rz (top 43)) (rl (top 43)) (qJ (top 43)) .none lQ gR ic ki dW gN),jN⟩) (oB:codeIn K dW "_law_take"=true) (eT:keepIn K (.ref dB)=true)
  (m5:nsIn K mainGlobals "_law_sorts"=some (some (.ref cM)))
  (mM:K.lookup cM=some ⟨ly,ir,.func (fnOf "_law_sorts" "_law_sorts" (rz (top 44)) (rl (top 44)) (qJ (top 44)) .none gk h7 jm kY cD lJ),jq⟩) (oi:codeIn K cD "_law_sorts"=true) (fN:keepIn K (.ref cM)=true)
  (n8:nsIn K mainGlobals "_law_half"=some (some (.ref dH)))
  (lS:K.lookup dH=some ⟨kR,gz,.func (fnOf "_law_half" "_law_half" (rz (top 45)) (rl (top 45)) (qJ (top 45)) .none gZ ko ka kd cz lm),gA⟩) (oj:codeIn K cz "_law_half"=true) (fg:keepIn K (.ref dH)=true)
  (mC:nsIn K mainGlobals "_law_open"=some (some (.ref dJ)))
  (oP:K.lookup dJ=some ⟨iP,gy,.func (fnOf "_law_open" "_law_open" (rz (top 46)) (rl (top 46)) (qJ (top 46)) .none ie gB kB jl cH ja),gF⟩) (p5:codeIn K cH "_law_open"=true) (fQ:keepIn K (.ref dJ)=true)
  (oK:nsIn K mainGlobals "_law_all_pairs"=some (some (.ref cI)))
  (ny:K.lookup cI=some ⟨jh,lb,.func (fnOf "_law_all_pairs" "_law_all_pairs" (rz (top 47)) (rl (top 47)) (qJ (top 47)) .none gW lK lB iZ dg kE),jP⟩) (n6:codeIn K dg "_law_all_pairs"=true) (fZ:keepIn K (.ref cI)=true)
  (my:nsIn K mainGlobals "_law_holds"=some (some (.ref dC)))
  (pQ:K.lookup dC=some ⟨gx,iD,.func (fnOf "_law_holds" "_law_holds" (rz (top 48)) (rl (top 48)) (qJ (top 48)) .none gG lN gD iJ dR jB),iO⟩) (qr:codeIn K dR "_law_holds"=true) (cT:keepIn K (.ref dC)=true)
  (ot:nsIn K mainGlobals "_law_truths"=some (some (.ref cB)))
  (nh:K.lookup cB=some ⟨il,iV,.func (fnOf "_law_truths" "_law_truths" (rz (top 49)) (rl (top 49)) (qJ (top 49)) .none jJ lI lH i0 cO iI),kq⟩) (pL:codeIn K cO "_law_truths"=true) (df:keepIn K (.ref cB)=true)
  (pB:nsIn K mainGlobals "_law_changed"=some (some (.ref cU)))
  (m3:K.lookup cU=some ⟨iu,iy,.func (fnOf "_law_changed" "_law_changed" (rz (top 50)) (rl (top 50)) (qJ (top 50)) .none js j0 jZ ip du jt),jT⟩) (pA:codeIn K du "_law_changed"=true) (cu:keepIn K (.ref cU)=true)
  (pK:nsIn K mainGlobals "_law_apart"=some (some (.ref dt)))
  (qy:K.lookup dt=some ⟨ll,kz,.func (fnOf "_law_apart" "_law_apart" (rz (top 51)) (rl (top 51)) (qJ (top 51)) .none jG gn jQ lf dl kW),jd⟩) (nR:codeIn K dl "_law_apart"=true) (dQ:keepIn K (.ref dt)=true)
  (mK:nsIn K mainGlobals "law"=some (some (.ref dr)))
  (pV:K.lookup dr=some ⟨iM,kc,.func (fnOf "law" "law" (rz (top 52)) (rl (top 52)) (qJ (top 52)) .none cQ da cx dq bQ dM),jc⟩) (nX:codeIn K bQ "law"=true) (pG:keepIn K (.ref dr)=true)
  {cC:Tok} (aC:nsIn K mainGlobals "MOST_THINGS"=some (some (.int 7 cC)))
  {ag:Addr} {ay:Obj} {fT:Tok} {bI:Nat} (aE:nsIn K mainGlobals "OPEN"=some (some (.ref ag))) (aI:K.lookup ag=some ay) (aD:ay.cls=.type "tuple") (aF:ay.data=.seq #[.str "open" fT] bI)
  {dk:Tok} (ar:nsIn K mainGlobals "MOST_SEARCHED"=some (some (.int 5 dk)))
  {cV:Tok} (ap:nsIn K mainGlobals "GREATEST_THINGS"=some (some (.int 4 cV)))
  {cF:Tok} (aB:nsIn K mainGlobals "LEAST_THINGS"=some (some (.int 2 cF)))
  (eB:nsIn K mainGlobals "all"=some none)
  (eE:nsIn K mainGlobals "max"=some none)
  (eA:nsIn K mainGlobals "min"=some none)
  (cq:nsIn K mainGlobals "range"=some none)
  (aJ:nsIn K mainGlobals "enumerate"=some none)
  (cN:nsIn K mainGlobals "list"=some none)
  (eD:nsIn K mainGlobals "len"=some none)
  (cp:nsIn K mainGlobals "tuple"=some none)
  (eC:nsIn K mainGlobals "int"=some none)
  (aG:nsIn K mainGlobals "isinstance"=some none)
  (d9:nsIn K mainGlobals "bool"=some none)
  (ao:nsIn K mainGlobals "Search"=some (some (.ref aa)))
  (ai:nsIn K mainGlobals "NoThing"=some (some (.ref ad)))
  (aq:nsIn K mainGlobals "NoFit"=some (some (.ref af)))
  (ah:nsIn K mainGlobals "TooMany"=some (some (.ref ae)))
  (bH:PySem.W.plainGet K aa Str.empty=true) (bK:PySem.W.hasDictIn K aa=true) (bL:PySem.W.plainOver K aa=true) (bN:findIn K (.ref aa) "__setattr__"=some (some (.builtin "object.__setattr__"))) (bJ:PySem.W.makesIn K aa=true) (bM:keepIn K (.ref aa)=true)
  (aw:findIn K (.ref aa) "pairs"=some none)
  (ax:findIn K (.ref aa) "sorts"=some none)
  (aA:findIn K (.ref aa) "ends"=some none)
  (aj:findIn K (.ref aa) "searched"=some none)
  {cf bV az ci aH bU ce bP cb bT bY bZ bO ca cg bX:_} (bW:K.lookup af=some (excClassObj cf bV af az ci aH bU ce bP cb bT bY bZ bO ca cg bX "ValueError.__new__")) (bR:PySem.W.tailIn K yQ aH=true) (b0:PySem.W.nsOkIn K az=true) (bS:nsIn K az "__init__"=some none)
  {bz aY am aR au aM aU aN aZ bn aV bG bf aX aW bC:_} (aK:K.lookup ad=some (excClassObj bz aY ad am aR au aM aU aN aZ bn aV bG bf aX aW bC "ValueError.__new__")) (bE:PySem.W.tailIn K yQ au=true) (bt:PySem.W.nsOkIn K am=true) (bd:nsIn K am "__init__"=some none)
  {bD aS ak aL av bh aP aO bj bu bp bg bB bF bi bA:_} (aQ:K.lookup ae=some (excClassObj bD aS ae ak aL av bh aP aO bj bu bp bg bB bF bi bA "ValueError.__new__")) (bw:PySem.W.tailIn K yQ av=true) (br:PySem.W.nsOkIn K ak=true) (aT:nsIn K ak "__init__"=some none):
  ∃fd:FuncData,(∀(s:Shared) (v:Value),BindsTo s fd ⟨[v],[]⟩ [("script",v)])/\∀base:Heap,K.In base->base.Ns mainGlobals mg->FnOk l.prog w K mg base CX0 37 fa fd ["script"] (BA K):=by
 have e:=lT.symm.trans (mg_of X G mK);cases e;have F1:=rB (st:=(top 16)) l1 c1 k1;have b1:=F1.binds (ps:=["many","answers"]) fun _ _ _ _ _ _ us hl=>uF us hl fun _ _=>rfl;have g1:=mg_of X G a1;have F2:=rB (st:=(top 17)) l2 c2 k2;have b2:=F2.binds (ps:=["homes","old","new"]) fun _ _ _ _ _ _ us hl=>x6 us hl fun _ _ _=>rfl;have g2:=mg_of X G a2;have F3:=rB (st:=(top 18)) l3 c3 k3;have b3:=F3.binds (ps:=["answers"]) fun _ _ _ _ _ _ us hl=>t5 us hl fun _=>rfl;have g3:=mg_of X G a3;have F4:=rB (st:=(top 19)) l4 c4 k4;have b4:=F4.binds (ps:=["many","answers"]) fun _ _ _ _ _ _ us hl=>uF us hl fun _ _=>rfl;have g4:=mg_of X G a4;have F5:=rB (st:=(top 20)) l5 c5 k5;have b5:=F5.binds (ps:=["many","answers"]) fun _ _ _ _ _ _ us hl=>uF us hl fun _ _=>rfl;have g5:=mg_of X G a5;have F6:=rB (st:=(top 21)) l6 c6 k6;have b6:=F6.binds (ps:=["kinds","answers"]) fun _ _ _ _ _ _ us hl=>uF us hl fun _ _=>rfl;have g6:=mg_of X G a6;have F7:=rB (st:=(top 9)) l7 c7 k7;have b7:=F7.binds (ps:=["sort","most"]) fun _ _ _ _ _ _ us hl=>uF us hl fun _ _=>rfl;have g7:=mg_of X G a7;have F8:=rB (st:=(top 10)) l8 c8 k8;have b8:=F8.binds (ps:=["many","most"]) fun _ _ _ _ _ _ us hl=>uF us hl fun _ _=>rfl;have g8:=mg_of X G a8;have F9:=rB (st:=(top 22)) l9 c9 k9;have b9:=F9.binds (ps:=["many","answers"]) fun _ _ _ _ _ _ us hl=>uF us hl fun _ _=>rfl;have g9:=mg_of X G a9;have eO:=rB (st:=(top 7)) nJ nB eX;have n5:=eO.binds (ps:=["kinds"]) fun _ _ _ _ _ _ us hl=>t5 us hl fun _=>rfl;have nT:=mg_of X G mo;have fK:=rB (st:=(top 8)) nz qa fr;have oH:=fK.binds (ps:=["kinds"]) fun _ _ _ _ _ _ us hl=>t5 us hl fun _=>rfl;have ou:=mg_of X G nI;have eL:=rB (st:=(top 13)) pU mL fB;have nE:=eL.binds (ps:=["kinds"]) fun _ _ _ _ _ _ us hl=>t5 us hl fun _=>rfl;have n0:=mg_of X G mY;have gh:=rB (st:=(top 14)) nj pH eJ;have oQ:=gh.binds (ps:=["ends"]) fun _ _ _ _ _ _ us hl=>t5 us hl fun _=>rfl;have pW:=mg_of X G oF;have ge:=rB (st:=(top 23)) pw pX fb;have nN:=ge.binds (ps:=["many","answers"]) fun _ _ _ _ _ _ us hl=>uF us hl fun _ _=>rfl;have pZ:=mg_of X G nW;have fu:=rB (st:=(top 25)) lU nw ga;have mB:=fu.binds (ps:=["many"]) fun _ _ _ _ _ _ us hl=>t5 us hl fun _=>rfl;have qu:=mg_of X G p6;have eZ:=rB (st:=(top 27)) nF pY eN;have qp:=eZ.binds (ps:=["many","least","greatest"]) fun _ _ _ _ _ _ us hl=>x6 us hl fun _ _ _=>rfl;have mi:=mg_of X G nc;have fR:=rB (st:=(sq (top 29) 0)) nu o0 mv;have qA:=fR.binds (ps:=["self","many","sorts","ends"]) fun _ _ _ _ _ _ us hl=>FI us hl fun _ _ _ _=>rfl;have eS:=rB (st:=(sq (top 29) 3)) om pS fH;have nO:=eS.binds (ps:=["self","i","j","left","asks"]) fun _ _ _ _ _ _ us hl=>match us,hl with| [_,_,_,_,_],_=>rfl
 have fc:=rB (st:=(sq (top 29) 2)) mJ pk eK;have px:=fc.binds (ps:=["self","left","asks"]) fun _ _ _ _ _ _ us hl=>x6 us hl fun _ _ _=>rfl;have fj:=rB (st:=(sq (top 29) 1)) p8 nP cW;have fU:=fj.binds (ps:=["self","left","asks"]) fun _ _ _ _ _ _ us hl=>x6 us hl fun _ _ _=>rfl;have fm:=rB (st:=(top 30)) mP qf fO;have pf:=fm.binds (ps:=["many","sorts","ends"]) fun _ _ _ _ _ _ us hl=>x6 us hl fun _ _ _=>rfl;have mE:=mg_of X G nK;have fV:=rB (st:=(top 33)) ng m8 fM;have qt:=fV.binds (ps:=["many","most"]) fun _ _ _ _ _ _ us hl=>uF us hl fun _ _=>rfl;have nQ:=mg_of X G nA;have eG:=rB (st:=(top 34)) oJ p7 e9;have n9:=eG.binds (ps:=["many"]) fun _ _ _ _ _ _ us hl=>t5 us hl fun _=>rfl;have pP:=mg_of X G pN;have fo:=rB (st:=(top 38)) ni mV eF;have nV:=fo.binds (ps:=["many","answers","asks","i","j"]) fun _ _ _ _ _ _ us hl=>match us,hl with| [_,_,_,_,_],_=>rfl
 have oX:=mg_of X G oA;have fh:=rB (st:=(top 39)) mh pI dD;have eM:=fh.binds (ps:=["many","answers","asks"]) fun _ _ _ _ _ _ us hl=>x6 us hl fun _ _ _=>rfl;have fD:=mg_of X G nL;have eR:=rB (st:=(top 40)) mj qk gf;have nS:=eR.binds (ps:=["many"]) fun _ _ _ _ _ _ us hl=>t5 us hl fun _=>rfl;have pD:=mg_of X G mO;have fL:=rB (st:=(top 42)) nZ qi fk;have lY:=fL.binds (ps:=["cell"]) fun _ _ _ _ _ _ us hl=>t5 us hl fun _=>rfl;have pJ:=mg_of X G nY;have fz:=rB (st:=(top 43)) oR oB eT;have mG:=fz.binds (ps:=["hand","many"]) fun _ _ _ _ _ _ us hl=>uF us hl fun _ _=>rfl;have ql:=mg_of X G m4;have fJ:=rB (st:=(top 44)) mM oi fN;have pT:=fJ.binds (ps:=["many","most"]) fun _ _ _ _ _ _ us hl=>uF us hl fun _ _=>rfl;have oY:=mg_of X G m5;have eQ:=rB (st:=(top 45)) lS oj fg;have mR:=eQ.binds (ps:=["sorts"]) fun _ _ _ _ _ _ us hl=>t5 us hl fun _=>rfl;have ow:=mg_of X G n8;have fA:=rB (st:=(top 46)) oP p5 fQ;have pO:=fA.binds (ps:=["left"]) fun _ _ _ _ _ _ us hl=>t5 us hl fun _=>rfl;have nH:=mg_of X G mC;have fY:=rB (st:=(top 47)) ny n6 fZ;have m7:=fY.binds (ps:=["many"]) fun _ _ _ _ _ _ us hl=>t5 us hl fun _=>rfl;have nG:=mg_of X G oK;have fq:=rB (st:=(top 48)) pQ qr cT;have fE:=fq.binds (ps:=["many","asks","paper","left"]) fun _ _ _ _ _ _ us hl=>FI us hl fun _ _ _ _=>rfl;have eV:=mg_of X G my;have eY:=rB (st:=(top 49)) nh pL df;have eW:=eY.binds (ps:=["paper"]) fun _ _ _ _ _ _ us hl=>t5 us hl fun _=>rfl;have ff:=mg_of X G ot;have gc:=rB (st:=(top 50)) m3 pA cu;have gg:=gc.binds (ps:=["paper"]) fun _ _ _ _ _ _ us hl=>t5 us hl fun _=>rfl;have fF:=mg_of X G pB;have fG:=rB (st:=(top 51)) qy nR dQ;have fw:=fG.binds (ps:=["paper","many"]) fun _ _ _ _ _ _ us hl=>uF us hl fun _ _=>rfl;have gb:=mg_of X G pK;have lV:=rB (st:=(top 52)) pV nX pG;have ac:Cls K aa:=⟨bH,bK,bL,bN⟩
 have xQ:FldC K aa "pairs":=⟨ac,aw⟩
 have vR:FldC K aa "sorts":=⟨ac,ax⟩
 have xE:FldC K aa "ends":=⟨ac,aA⟩
 have wu:FldC K aa "searched":=⟨ac,aj⟩
 have yG:=Yt X G eB;have vN:=Yt X G eE;have yB:=Yt X G eA;have rR:=Yt X G cq;have Dk:=Yt X G aJ;have ua:=Yt X G cN;have rV:=Yt X G eD;have sN:=Yt X G cp;have E9:=Yt X G eC;have sY:=Yt X G aG;have En:=Yt X G d9;have wz:mg "MOST_THINGS"=some (.int 7 cC)/\RelV (.int 7) (.int 7 cC)/\∀W,DR K W (.int 7) (.int 7):=⟨mg_of X G aC,⟨_,rfl⟩,fun _=>.int _⟩
 have tU:mg "OPEN"=some (.ref ag)/\RelV (.ref ag) (.ref ag)/\∀W,DR K W (.gt [.str "open"]) (.ref ag):=⟨mg_of X G aE,rfl,fun _=>.gt (vs:=[.str "open"]) (.inr ⟨ay,_,bI,aI,aD,aF,(show 1<=sizeLine from uR (by decide)),.cons ⟨fT,rfl⟩ .nil⟩) (.cons (.str _) .nil)⟩
 have zu:mg "MOST_SEARCHED"=some (.int 5 dk)/\RelV (.int 5) (.int 5 dk)/\∀W,DR K W (.int 5) (.int 5):=⟨mg_of X G ar,⟨_,rfl⟩,fun _=>.int _⟩
 have zO:mg "GREATEST_THINGS"=some (.int 4 cV)/\RelV (.int 4) (.int 4 cV)/\∀W,DR K W (.int 4) (.int 4):=⟨mg_of X G ap,⟨_,rfl⟩,fun _=>.int _⟩
 have zg:mg "LEAST_THINGS"=some (.int 2 cF)/\RelV (.int 2) (.int 2 cF)/\∀W,DR K W (.int 2) (.int 2):=⟨mg_of X G aB,⟨_,rfl⟩,fun _=>.int _⟩
 have uB:mg "NoThing"=some (.ref ad)/\uC K ad:=⟨mg_of X G ai,_,_,_,_,_,_,_,_,_,_,_,_,_,_,_,_,aK,bE,bt,bd⟩
 have Aq:mg "NoFit"=some (.ref af)/\uC K af:=⟨mg_of X G aq,_,_,_,_,_,_,_,_,_,_,_,_,_,_,_,_,bW,bR,b0,bS⟩
 have vY:mg "TooMany"=some (.ref ae)/\uC K ae:=⟨mg_of X G ah,_,_,_,_,_,_,_,_,_,_,_,_,_,_,_,_,aQ,bw,br,aT⟩
 refine⟨fnOf "law" "law" (rz (top 52)) (rl (top 52)) (qJ (top 52)) .none cQ da cx dq bQ dM,fun s v=>.of_eq rfl,fun base _ _=>?_⟩;have DE:DfX l.prog w K mg base 1 "check_things" ["many","answers"] (spX K (yY ad)):=⟨_,_,Pu F1 uB,b1,k1,g1⟩
 have Cv:Df l.prog w K mg base 1 "moved" ["homes","old","new"] (spM K (uQ)):=⟨_,_,S0 F2,b2,k2,g2⟩
 have D4:Df l.prog w K mg base 2 "homes_of" ["answers"] (spM K (wU uQ)):=⟨_,_,Ru F3 (Cv) (by omega),b3,k3,g3⟩
 have xD:DfX l.prog w K mg base 3 "can_be" ["many","answers"] (spX K (wN ad)):=⟨_,_,SL F4 (D4) (by omega) (DE) (by omega) yG,b4,k4,g4⟩
 have Fa:DfX l.prog w K mg base 4 "check_right" ["many","answers"] (spX K (E2 ad af)):=⟨_,_,Vh F5 (xD) (by omega) Aq,b5,k5,g5⟩
 have Cf:Df l.prog w K mg base 1 "fits" ["kinds","answers"] (spM K (wd)):=⟨_,_,O5 F6,b6,k6,g6⟩
 have EZ:Df l.prog w K mg base 1 "one_thing_more" ["sort","most"] (spM K (ub)):=⟨_,_,Ol F7 vN yB rR,b7,k7,g7⟩
 have yx:DfX l.prog w K mg base 2 "all_sorts" ["many","most"] (spX K (w9 ub (.int 7) ae)):=⟨_,_,zfk F8 (EZ) (by omega) wz vY rR,b8,k8,g8⟩
 have D5:DfX l.prog w K mg base 5 "sorts_that_fit" ["many","answers"] (spX K (xU ad af ae)):=⟨_,_,TV F9 (Cf) (by omega) (Fa) (by omega) (yx) (by omega),b9,k9,g9⟩
 have Fb:Df l.prog w K mg base 1 "alike_things" ["kinds"] (spM K (wn)):=⟨_,_,To eO Dk ua,n5,eX,nT⟩
 have Cn:Df l.prog w K mg base 2 "more_than_half" ["kinds"] (spM K (wP)):=⟨_,_,Os fK (Fb) (by omega) rV,oH,fr,ou⟩
 have xM:Df l.prog w K mg base 3 "half_ends" ["kinds"] (spM K (uG)):=⟨_,_,V6 eL (Cn) (by omega),nE,fB,n0⟩
 have x8:Df l.prog w K mg base 1 "common_end" ["ends"] (spM K (uU rW)):=⟨_,_,zdz gh tU yG,oQ,eJ,pW⟩
 have E3:DfX l.prog w K mg base 6 "tells" ["many","answers"] (spX K (BO ad af ae)):=⟨_,_,T1 ge (x8) (by omega) (xM) (by omega) (D5) (by omega),nN,fb,pZ⟩
 have xL:Df l.prog w K mg base 1 "pairs_of" ["many"] (spM K (xa)):=⟨_,_,Q9 fu rR,mB,ga,qu⟩
 have x4:DfX l.prog w K mg base 1 "check_many" ["many","least","greatest"] (spX K (xk ad ae)):=⟨_,_,Wq eZ uB vY,qp,eN,mi⟩
 have BQ:MkC l.prog w K mg base CX0 2 aa "Search" ["self","many","sorts","ends"] (spM K (BG aa)):=⟨mg_of X G ao,⟨_,_,⟨bJ,oE,nl,bM⟩,V0 fR (xL) (by omega) xQ vR xE wu,qA⟩⟩
 have xj:∀n,MtC l.prog w K mg base CX0 (2+3*n) aa "tree_within" ["self","left","asks"] (spM K (wT aa n)):=fun n=>by
  induction n with
  |zero=>exact⟨ac,⟨_,_,⟨fX,eI,cW⟩,xJ,fU⟩⟩
  |succ n ih=>
   have Dv:MtC l.prog w K mg base CX0 (2+3*n+1) aa "tree_asking" ["self","i","j","left","asks"] (spM K (xF (wT aa n) aa)):=⟨ac,⟨_,_,⟨mH,oa,fH⟩,Uu eS ih (by omega) vR sN,nO⟩⟩
   have B4:MtC l.prog w K mg base CX0 (2+3*n+2) aa "new_tree" ["self","left","asks"] (spM K (Bc aa (wT aa n))):=⟨ac,⟨_,_,⟨mw,pM,eK⟩,Nz fc (x8) (by omega) (Dv) (by omega) xE xQ tU,px⟩⟩
   exact(show MtC l.prog w K mg base CX0 (2+3*n+3) aa "tree_within" ["self","left","asks"] (spM K (wT aa (n+1))) from⟨ac,⟨_,_,⟨fX,eI,cW⟩,z7f fj (B4) (by omega) wu,fU⟩⟩)
 have Cp:Df l.prog w K mg base 33 "fewest_asks" ["many","sorts","ends"] (spM K (A6 aa)):=⟨_,_,Wc fm (BQ) (by omega) (xj 10) (by omega) rV sN rR,pf,fO,mE⟩
 have DF:DfX l.prog w K mg base 34 "fewest_of" ["many","most"] (spX K (Bm aa ae)):=⟨_,_,Oi fV (xM) (by omega) (Cp) (by omega) (yx) (by omega),qt,fM,nQ⟩
 have B6:DfX l.prog w K mg base 35 "fewest" ["many"] (spX K (BK aa ad ae)):=⟨_,_,M4 eG (x4) (by omega) (DF) (by omega) zu,n9,e9,pP⟩
 have yX:∀n,Df l.prog w K mg base (7+2*n) "paper_behind" ["many","answers","asks"] (spM K (mmB ad af ae n)):=fun n=>by
  induction n with
  |zero=>exact⟨_,_,xJ,eM,dD,fD⟩
  |succ n ih=>
   have El:Df l.prog w K mg base (7+2*n+1) "row_behind" ["many","answers","asks","i","j"] (spM K (xz (mmB ad af ae n))):=⟨_,_,Rc fo ih (by omega),nV,eF,oX⟩
   exact(show Df l.prog w K mg base (7+2*n+2) "paper_behind" ["many","answers","asks"] (spM K (mmB ad af ae (n+1))) from⟨_,_,OG fh (Df.dn (xD)) (by omega) (Df.dn (E3)) (by omega) (xL) (by omega) (El) (by omega) tU,eM,dD,fD⟩)
 have D6:Df l.prog w K mg base 36 "holding_paper" ["many"] (spM K (AD aa ad af ae)):=⟨_,_,P0 eR (Df.dn (x4)) (by omega) (Df.dn (B6)) (by omega) (yX 10) (by omega) zO zg,nS,gf,pD⟩
 have Do:Df l.prog w K mg base 1 "_law_hand" ["cell"] (spM K (xW)):=⟨_,_,PK fL E9 vN,lY,fk,pJ⟩
 have EK:Df l.prog w K mg base 1 "_law_take" ["hand","many"] (spM K (wJ)):=⟨_,_,zh1 fz,mG,eT,ql⟩
 have Dw:Df l.prog w K mg base 1 "_law_sorts" ["many","most"] (spM K (ym)):=⟨_,_,PN fJ rR vN yB,pT,fN,oY⟩
 have Eb:Df l.prog w K mg base 1 "_law_half" ["sorts"] (spM K (wS)):=⟨_,_,RS eQ rV rR,mR,fg,ow⟩
 have Ed:Df l.prog w K mg base 2 "_law_open" ["left"] (spM K (Ep)):=⟨_,_,Wi fA (Eb) (by omega),pO,fQ,nH⟩
 have DP:Df l.prog w K mg base 1 "_law_all_pairs" ["many"] (spM K (xK)):=⟨_,_,Wa fY rR,m7,fZ,nG⟩
 have zB:∀n,Df l.prog w K mg base (3+n) "_law_holds" ["many","asks","paper","left"] (spM K (mmH n)):=fun n=>by
  induction n with
  |zero=>exact⟨_,_,xJ,fE,cT,eV⟩
  |succ n ih=>exact(show Df l.prog w K mg base (3+n+1) "_law_holds" ["many","asks","paper","left"] (spM K (mmH (n+1))) from⟨_,_,TH fq (Ed) (by omega) (DP) (by omega) ih (by omega) sY sN ua rV rR,fE,cT,eV⟩)
 have zp:∀n,Df l.prog w K mg base (1+n) "_law_truths" ["paper"] (spM K (wL n)):=fun n=>by
  induction n with
  |zero=>exact⟨_,_,xJ,eW,df,ff⟩
  |succ n ih=>exact(show Df l.prog w K mg base (1+n+1) "_law_truths" ["paper"] (spM K (wL (n+1))) from⟨_,_,Nv eY ih (by omega) sY sN rV En,eW,df,ff⟩)
 have zS:∀n,Df l.prog w K mg base (1+n) "_law_changed" ["paper"] (spM K (wE n)):=fun n=>by
  induction n with
  |zero=>exact⟨_,_,xJ,gg,cu,fF⟩
  |succ n ih=>exact(show Df l.prog w K mg base (1+n+1) "_law_changed" ["paper"] (spM K (wE (n+1))) from⟨_,_,RQ gc ih (by omega) sY ua rV,gg,cu,fF⟩)
 have zm:∀n,Df l.prog w K mg base (1+n) "_law_apart" ["paper","many"] (spM K (xn n)):=fun n=>by
  induction n with
  |zero=>exact⟨_,_,xJ,fw,dQ,gb⟩
  |succ n ih=>exact(show Df l.prog w K mg base (1+n+1) "_law_apart" ["paper","many"] (spM K (xn (n+1))) from⟨_,_,Ul fG ih (by omega) sY sN rV,fw,dQ,gb⟩)
 exact RV (SR lV (Do) (by omega) (EK) (by omega) (D6) (by omega) (zp 10) (by omega) (Dw) (by omega) (zB 10) (by omega) (zS 10) (by omega) (zm 10) (by omega) rV rR sN ua sY) (TF (CS:=aa) (C:=ad) (CF:=af) (CT:=ae))
theorem walk{l:PySem.W.OpenLaw}{q:Program}{loose:List Str}{XP:(Str->Option Value)->Heap->Prop}{YP:World->Heap->Prop}{d:DefRec}{K:Params->Frag}(hn:l.most=some 63)(hdf:d.params.defaults=[])
  (hY:∀(w:World) (h:Heap),YP w h->(K w.params).In h)
  (F:∀(w:World) (mg:Str->Option Value) (fa:Addr) (h:Heap),(K w.params).In h->h.Ns mainGlobals mg->mg d.name=some (.ref fa)->
   ∃fd:FuncData,(∀(s:Shared) (u:Value),BindsTo s fd ⟨[u],[]⟩ [("script",u)])/\∀base:Heap,(K w.params).In base->base.Ns mainGlobals mg->FnOk l.prog w (K w.params) mg base CX0 37 fa fd ["script"] (BA (K w.params))):
  PySem.W.WalkO q loose XP YP l.row.toRowW d [] (fun f vs=>PySem.call f vs):=
 L2.walk_of (n:=63) (k:=37) (x:="script") (CX:=fun _=>CX0) (sp:=fun w=>BA (K w.params)) hn (by decide) hdf ⟨rfl,by decide,by decide,rfl⟩ hY F (fun _ _ a ns hl hO hS=>⟨a,ns,rfl,hO,hS,hl,fun _=>rfl⟩) fun _ _ _ _ _ z=>z
end Law
namespace PySem.W.Fast
def tw10003691049352587357:=0
def tw10266333815178563692:=0
def tw10267272057242011164:=0
def tw10479634527876386867:=0
def tw1049990745590273863:=0
def tw10537133502204685136:=0
def tw10562156243987568846:=0
def tw10621803936435306907:=0
def tw10679889587805265379:=0
def tw1070538750574656945:=0
def tw10754658889035309004:=0
def tw10812926912468754498:=0
def tw10844524810706058634:=0
def tw10854395325644806834:=0
def tw11009153876424106921:=0
def tw11048034907084547478:=0
def tw11095108398839734017:=0
def tw1125265742325116635:=0
def tw11263539344275918437:=0
def tw1130120695521636861:=0
def tw11301538665170582995:=0
def tw11750812012553180240:=0
def tw11796203404284354765:=0
def tw11848072829909989684:=0
def tw11915702175691853338:=0
def tw11934619900531690674:=0
def tw11938630600632697626:=0
def tw11941076601047052180:=0
def tw12005145462697019674:=0
def tw12076320706584373386:=0
def tw12079400891932343497:=0
def tw12099828925930806959:=0
def tw12171264790192850845:=0
def tw12226451455390754297:=0
def tw12228724824319345140:=0
def tw1225261197429109270:=0
def tw1245043509419286312:=0
def tw12512447357175449651:=0
def tw12574989682786854409:=0
def tw12750176082926744733:=0
def tw12834925073742328138:=0
def tw12869022535584863488:=0
def tw12915755844873227193:=0
def tw12933779402779201955:=0
def tw13074096028577014986:=0
def tw13087674583103975367:=0
def tw13119381981872348457:=0
def tw13217014409245796250:=0
def tw13238123011665594397:=0
def tw13344209334449865046:=0
def tw13374413723633849417:=0
def tw13484948185003337614:=0
def tw13642422459234942089:=0
def tw13674945020355219528:=0
def tw13702970207893519299:=0
def tw13746231517755632175:=0
def tw13799088263947241348:=0
def tw13823623910195351851:=0
def tw13851635132820665474:=0
def tw14041086531968661544:=0
def tw14082812524414148671:=0
def tw14181133776716342320:=0
def tw14330621092561750510:=0
def tw14332159729083942311:=0
def tw14570193148954393252:=0
def tw1458432599414496286:=0
def tw14702472089431173355:=0
def tw14752865728242676262:=0
def tw14788377913693237658:=0
def tw14845848233767658560:=0
def tw14880415588655197566:=0
def tw14940974579446592567:=0
def tw14953098179107485956:=0
def tw15029901752352048992:=0
def tw15056765228263006760:=0
def tw15081848414914630869:=0
def tw15092799156559312878:=0
def tw15133512120945583526:=0
def tw15258127086432489268:=0
def tw15303926694833132472:=0
def tw15403690672879818883:=0
def tw15520351147595917069:=0
def tw15741682613742151172:=0
def tw15791899703103130841:=0
def tw15880002445151153928:=0
def tw15938028367747758335:=0
def tw15986933868639476657:=0
def tw16015548451561586802:=0
def tw16017137856876177455:=0
def tw16023724970489179057:=0
def tw16054819315242397390:=0
def tw16095335621776079377:=0
def tw16155453695926008919:=0
def tw16157162901094983586:=0
def tw16165264662851550806:=0
def tw16341543998829458130:=0
def tw16375362154657655810:=0
def tw16462650368159856757:=0
def tw1651740844348235929:=0
def tw16528835910437320143:=0
def tw16630690898945373811:=0
def tw16704363698546134286:=0
def tw16710547961240298328:=0
def tw16817577008884677695:=0
def tw16835438028322543397:=0
def tw16843032445145936494:=0
def tw16942536963188539469:=0
def tw16955845045622999101:=0
def tw16991684560474609010:=0
def tw1705512660562094568:=0
def tw17071351881526657626:=0
def tw17122932569301985397:=0
def tw17154398144871260131:=0
def tw17311932329878494159:=0
def tw17318541221076599413:=0
def tw17327290924163082278:=0
def tw17364625145980639127:=0
def tw17409313626352047143:=0
def tw17432031236360788605:=0
def tw17459377820948731498:=0
def tw17515313044717809932:=0
def tw17517728566672549572:=0
def tw17560640309204788777:=0
def tw17567397140253273249:=0
def tw17611318173355304624:=0
def tw17644325662353177526:=0
def tw17656250059672972873:=0
def tw17720099752161953759:=0
def tw17728084140618221562:=0
def tw17921188597124229548:=0
def tw1792976593056308955:=0
def tw18014093388861041190:=0
def tw18145965344558866563:=0
def tw18197594420388494094:=0
def tw18437194977969527599:=0
def tw1888955896859149326:=0
def tw1928169853705667023:=0
def tw2013406218553017492:=0
def tw2025982464952399032:=0
def tw2140615740910350586:=0
def tw2331224356931438882:=0
def tw2344828717556399809:=0
def tw2390183823051467816:=0
def tw2401780430133231180:=0
def tw2407849904532054149:=0
def tw246807704347005869:=0
def tw2650245862312127430:=0
def tw2662563357564092572:=0
def tw2732657162679059395:=0
def tw2872248050274152695:=0
def tw3037261339975920404:=0
def tw3048014501589283450:=0
def tw3091956672148672542:=0
def tw3130743274452785296:=0
def tw3145400251028618894:=0
def tw3195213310028800612:=0
def tw3246234281370093518:=0
def tw3334805118895398473:=0
def tw3366229615378117693:=0
def tw3372490627254783786:=0
def tw3447250377416826842:=0
def tw3461723464289988501:=0
def tw347196239709006649:=0
def tw353229992087870838:=0
def tw3583886732131971004:=0
def tw3686672393594125310:=0
def tw37428140157661369:=0
def tw3764164398727545153:=0
def tw3794342321089354215:=0
def tw3887550533414350787:=0
def tw3938468293725791653:=0
def tw3992094752272473412:=0
def tw3997082370418727348:=0
def tw414562868920930185:=0
def tw4191467524595073632:=0
def tw419716550149707677:=0
def tw420132730795440926:=0
def tw42291594856809954:=0
def tw4237632590666525604:=0
def tw4279366560908819310:=0
def tw4335896020869393743:=0
def tw4359444671236302983:=0
def tw4390257375789424613:=0
def tw4410958911642982083:=0
def tw447895401990102751:=0
def tw4551733604701702831:=0
def tw4627971233144040771:=0
def tw4789895662707644661:=0
def tw4816951451280710954:=0
def tw4839370223936496310:=0
def tw4902199740263578215:=0
def tw493466209143753557:=0
def tw4980664082078188160:=0
def tw5213496550423724884:=0
def tw527156714572412307:=0
def tw5291889985721930586:=0
def tw5357398704805643261:=0
def tw5391469988565051158:=0
def tw5607707405093335542:=0
def tw5626829779462920780:=0
def tw5776110194827489647:=0
def tw5793905776028886735:=0
def tw5800698573454533293:=0
def tw5835644466852280407:=0
def tw5853185390233279978:=0
def tw5905516309111927951:=0
def tw5936204843819257732:=0
def tw5938432717990901574:=0
def tw6008344279321532540:=0
def tw6017723376470725342:=0
def tw6181076048364141341:=0
def tw6253569935684669386:=0
def tw6321796479038899721:=0
def tw6423042900127564105:=0
def tw6461245878289222581:=0
def tw6492914822636792229:=0
def tw6495352547868423268:=0
def tw6543264945119524025:=0
def tw6642130386668860105:=0
def tw6677848448921249075:=0
def tw6688514298261437187:=0
def tw6813401759746515972:=0
def tw6817625389442044848:=0
def tw6828247231924149534:=0
def tw6834886671020248552:=0
def tw6931571295993215404:=0
def tw6957076954902122287:=0
def tw6966281138917598358:=0
def tw6987838374339622537:=0
def tw704477791451655631:=0
def tw7068733399656273516:=0
def tw7094272614984390956:=0
def tw7189841699142526121:=0
def tw7373130048577385280:=0
def tw738026811498663902:=0
def tw746305396847692303:=0
def tw7506973227663781291:=0
def tw7520864144722736546:=0
def tw7582684641627588458:=0
def tw758461523037864993:=0
def tw7606939346503582839:=0
def tw766478596377724579:=0
def tw7772981101901791721:=0
def tw7791632400070077738:=0
def tw7928054771197276559:=0
def tw7950602990876474537:=0
def tw8018353920757124134:=0
def tw8103855422179890319:=0
def tw8235058125161893288:=0
def tw8259816017768393266:=0
def tw8292751196352912407:=0
def tw8327259169391952988:=0
def tw8373797036826019785:=0
def tw8637617599417780614:=0
def tw8646814187069521201:=0
def tw8707535006458884358:=0
def tw8714479517239033421:=0
def tw9084060939467533796:=0
def tw9118382161248786629:=0
def tw9134015393707542423:=0
def tw9137570615460679134:=0
def tw9141396431671780269:=0
def tw9145575714837439217:=0
def tw9164176560884353245:=0
def tw9171431353484975259:=0
def tw9233728873066499423:=0
def tw9302953688368514989:=0
def tw9422813094447969581:=0
def tw9423989718158194813:=0
def tw943910074623590250:=0
def tw9462060225295923265:=0
def tw947255830438907796:=0
def tw9598888813181575404:=0
def tw9640058552087870235:=0
def tw9641512766765749176:=0
def tw9697292629937527745:=0
def tw9728546132624958669:=0
def tw9732061893223442400:=0
def tw9751882598087079486:=0
def tw9755830768337410244:=0
def tw983280418009592662:=0
def tw9989249659166738342:=0
def tw9991357921589520633:=0
end PySem.W.Fast
open PySem PySem.W PyProof.Rows
set_option maxRecDepth 100000 in
set_option maxHeartbeats 0 in
theorem PySem.Challenge.cw_morethanhalf_k24_holding_papers_told_holds : PySem.Challenge.rw_morethanhalf_k24_holding_papers_told.Holds := by
 w_on;o_law;k_head;(case hw=>w_witness2)
 k_fill
 refine Law.walk (l:=PySem.Challenge.rw_morethanhalf_k24_holding_papers_told) rfl rfl (fun w h Y=>PySem.W.kIn_of Y) ?F
 case F=>
  intro w mg fa h KX G hmg;refine' Law.all_mk KX G hmg ?_ ?_ ?_ ?_ ?_ ?_ ?_ ?_ ?_ ?_ ?_ ?_ ?_ ?_ ?_ ?_ ?_ ?_ ?_ ?_ ?_ ?_ ?_ ?_ ?_ ?_ ?_ ?_ ?_ ?_ ?_ ?_ ?_ ?_ ?_ ?_ ?_ ?_ ?_ ?_ ?_ ?_ ?_ ?_ ?_ ?_ ?_ ?_ ?_ ?_ ?_ ?_ ?_ ?_ ?_ ?_ ?_ ?_ ?_ ?_ ?_ ?_ ?_ ?_ ?_ ?_ ?_ ?_ ?_ ?_ ?_ ?_ ?_ ?_ ?_ ?_ ?_ ?_ ?_ ?_ ?_ ?_ ?_ ?_ ?_ ?_ ?_ ?_ ?_ ?_ ?_ ?_ ?_ ?_ ?_ ?_ ?_ ?_ ?_ ?_ ?_ ?_ ?_ ?_ ?_ ?_ ?_ ?_ ?_ ?_ ?_ ?_ ?_ ?_ ?_ ?_ ?_ ?_ ?_ ?_ ?_ ?_ ?_ ?_ ?_ ?_ ?_ ?_ ?_ ?_ ?_ ?_ ?_ ?_ ?_ ?_ ?_ ?_ ?_ ?_ ?_ ?_ ?_ ?_ ?_ ?_ ?_ ?_ ?_ ?_ ?_ ?_ ?_ ?aE ?aI ?aD ?aF ?_ ?_ ?_ ?_ ?_ ?_ ?_ ?_ ?_ ?_ ?_ ?_ ?_ ?_ ?ao ?ai ?aq ?ah ?_ ?_ ?_ ?_ ?_ ?_ ?_ ?_ ?_ ?_ ?_ ?_ ?_ ?_ ?_ ?_ ?_ ?_ ?_ ?_ ?_ ?_
  (case ao=>k_is)
  (case ai=>k_is)
  (case aq=>k_is)
  (case ah=>k_is)
  (case aE=>k_is)
  (case aI=>k_is)
  (case aD=>rfl)
  (case aF=>rfl)
  all_goals(first|k_is|kit_is|kernel_rfl|skip)

