import PyProof.Rows.All
import Wide.All
import OpenK.AllK
import Wide.FinOn
import Lean
import PyProof.EqAt
import PyProof.EqKinds
import PyProof.TupleCall
import PyProof.NsDelKeeps
import KE.KTryMore
import OpenK.KOwn
import PyProof.ExcBaseAll.ValueError
import PyProof.Rows.CountFlat
import PyProof.Rows.SeqMore2
import PyProof.SumWalkG
import PyProof.FitsBits
import PyProof.Rows.IntMath
import PyProof.P3Eq
import PyProof.ZipIter
import PyProof.TupleIter
import PyProof.TupleOfSeq
import PyProof.TupleOfGen
import PyProof.ListRange
import PyProof.Rows.SeqMore
import PySem.Challenge.RW_morethanhalf_k30_whole_papers_cut
set_option Elab.async false
set_option linter.all false
set_option compiler.extract_closed false
set_option maxRecDepth 100000
set_option maxHeartbeats 0
open PySem.W (Frag nsIn keepIn codeIn fnOf mg_of findIn mg_none_of isFn)
noncomputable section
abbrev QS:=List (PySem.Addr×PySem.Obj)
abbrev OK:=PySem.Value->PySem.Shared->Prop
theorem WH:type_of% @PySem.wpAny_bind:=@PySem.wpAny_bind
theorem WJ:type_of% @Nat.le_refl:=@Nat.le_refl
theorem WK:type_of% @PySem.Heap.get?_push_of_some:=@PySem.Heap.get?_push_of_some
theorem WL:type_of% @List.getElem?_eq_some_iff.{0}:=@List.getElem?_eq_some_iff.{0}
theorem WM:type_of% @PySem.wpAny_pure:=@PySem.wpAny_pure
theorem WN:type_of% @PySem.Heap.lt_size:=@PySem.Heap.lt_size
theorem WO:type_of% @PySem.wpAny_mono:=@PySem.wpAny_mono
theorem WP:type_of% @List.getElem?_eq_getElem.{0}:=@List.getElem?_eq_getElem.{0}
theorem WQ:type_of% @List.length_map.{0,0}:=@List.length_map.{0,0}
theorem WR:type_of% @PySem.Heap.get?_push_size:=@PySem.Heap.get?_push_size
theorem WS:type_of% @List.getD_eq_getElem?_getD.{0}:=@List.getD_eq_getElem?_getD.{0}
theorem WT:type_of% @List.map_cons.{0,0}:=@List.map_cons.{0,0}
theorem WU:type_of% @List.mem_append_right.{0}:=@List.mem_append_right.{0}
theorem WV:type_of% @List.getElem?_append_left.{0}:=@List.getElem?_append_left.{0}
theorem WW:type_of% @List.size_toArray.{0}:=@List.size_toArray.{0}
theorem WX:type_of% @List.find?_cons.{0}:=@List.find?_cons.{0}
theorem WY:type_of% @List.getElem?_map.{0,0}:=@List.getElem?_map.{0,0}
theorem WZ:type_of% @Nat.lt_of_lt_of_le:=@Nat.lt_of_lt_of_le
theorem W8:type_of% @Nat.ne_of_lt:=@Nat.ne_of_lt
theorem W9:type_of% @decide_eq_false:=@decide_eq_false
theorem Xa:type_of% @Option.some.inj.{0}:=@Option.some.inj.{0}
theorem Xb:type_of% @List.mem_append.{0}:=@List.mem_append.{0}
theorem Xc:type_of% @List.lookup_cons.{0,0}:=@List.lookup_cons.{0,0}
theorem Xd:type_of% @List.mem_cons.{0}:=@List.mem_cons.{0}
theorem Xe:type_of% @Bool.not_true:=@Bool.not_true
theorem Xf:type_of% @List.getElem?_set_ne.{0}:=@List.getElem?_set_ne.{0}
theorem Xg:type_of% @Bool.and_eq_true:=@Bool.and_eq_true
theorem Xh:type_of% @List.mem_filter.{0}:=@List.mem_filter.{0}
theorem Xi:type_of% @List.length_cons.{0}:=@List.length_cons.{0}
theorem Xj:type_of% @List.mem_singleton.{0}:=@List.mem_singleton.{0}
theorem Xk:type_of% @List.all_eq_true.{0}:=@List.all_eq_true.{0}
theorem Xl:type_of% @PySem.PassesOwn.never:=@PySem.PassesOwn.never
theorem Xm:type_of% @List.mem_map.{0,0}:=@List.mem_map.{0,0}
theorem Xn:type_of% @List.getElem?_append_right.{0}:=@List.getElem?_append_right.{0}
theorem Xo:type_of% @Nat.le_trans:=@Nat.le_trans
theorem Xp:type_of% @Nat.lt_irrefl:=@Nat.lt_irrefl
theorem Xq:type_of% @List.drop_eq_getElem_cons.{0}:=@List.drop_eq_getElem_cons.{0}
theorem Xr:type_of% @PySem.mem_of_lookup:=@PySem.mem_of_lookup
theorem Xs:type_of% @List.mem_cons_of_mem.{0}:=@List.mem_cons_of_mem.{0}
theorem Xt:type_of% @Bool.false_eq_true:=@Bool.false_eq_true
theorem Xu:type_of% @List.map_map.{0,0,0}:=@List.map_map.{0,0,0}
theorem Xv:type_of% @List.getElem_mem.{0}:=@List.getElem_mem.{0}
theorem Xw:type_of% @Bool.not_false:=@Bool.not_false
theorem Xx:type_of% @PySem.wpAny_truthy_bool:=@PySem.wpAny_truthy_bool
theorem Xy:type_of% @PyProof.Rows.callWith_type1:=@PyProof.Rows.callWith_type1
theorem Xz:type_of% @decide_eq_true:=@decide_eq_true
theorem XA:type_of% @List.length_append.{0}:=@List.length_append.{0}
theorem XB:type_of% @List.drop_eq_nil_of_le.{0}:=@List.drop_eq_nil_of_le.{0}
theorem XC:type_of% @List.append_nil.{0}:=@List.append_nil.{0}
theorem XD:type_of% @Option.isSome_iff_exists.{0}:=@Option.isSome_iff_exists.{0}
theorem XE:type_of% @PySem.wpAny_newObj_type:=@PySem.wpAny_newObj_type
theorem XF:type_of% @List.mem_range:=@List.mem_range
theorem XG:type_of% @PySem.Heap.size_push:=@PySem.Heap.size_push
theorem XH:type_of% @List.getElem?_of_mem.{0}:=@List.getElem?_of_mem.{0}
theorem XI:type_of% @List.map_append.{0,0}:=@List.map_append.{0,0}
theorem XJ:type_of% @Nat.zero_le:=@Nat.zero_le
theorem XL:type_of% @List.length_range:=@List.length_range
theorem XM:type_of% @PySem.Around.under_plainId:=@PySem.Around.under_plainId
theorem XN:type_of% @PySem.Heap.get?_update_other:=@PySem.Heap.get?_update_other
theorem XO:type_of% @decide_eq_true_eq:=@decide_eq_true_eq
theorem XQ:type_of% @List.filter_eq_nil_iff.{0}:=@List.filter_eq_nil_iff.{0}
theorem XR:type_of% @List.map_congr_left.{0,0}:=@List.map_congr_left.{0,0}
theorem XS:type_of% @Classical.byContradiction:=@Classical.byContradiction
theorem XT:type_of% @List.pairwise_iff_getElem.{0}:=@List.pairwise_iff_getElem.{0}
theorem XU:type_of% @List.find?_eq_none.{0}:=@List.find?_eq_none.{0}
theorem XV:type_of% @PySem.wpAny_holding:=@PySem.wpAny_holding
theorem XW:type_of% @PySem.wpAny_standAt:=@PySem.wpAny_standAt
theorem XX:type_of% @PySem.wpAny_comprehension_free:=@PySem.wpAny_comprehension_free
theorem XY:type_of% @List.length_eq_zero_iff.{0}:=@List.length_eq_zero_iff.{0}
theorem XZ:type_of% @PySem.W.mg_none_of:=@PySem.W.mg_none_of
theorem X0:type_of% @List.length_set.{0}:=@List.length_set.{0}
theorem X1:type_of% @Array.length_toList.{0}:=@Array.length_toList.{0}
theorem X2:type_of% @List.replicate_succ.{0}:=@List.replicate_succ.{0}
theorem X3:type_of% @List.filter_eq_self.{0}:=@List.filter_eq_self.{0}
theorem X4:type_of% @List.length_take.{0}:=@List.length_take.{0}
theorem X5:type_of% @List.any_eq_true.{0}:=@List.any_eq_true.{0}
theorem X6:type_of% @Bool.false_ne_true:=@Bool.false_ne_true
theorem X7:type_of% @PySem.wpAny_Call_Name_kw:=@PySem.wpAny_Call_Name_kw
theorem X8:type_of% @List.length_filter_le.{0}:=@List.length_filter_le.{0}
theorem X9:type_of% @PySem.wpAny_passesOwn:=@PySem.wpAny_passesOwn
theorem Ya:type_of% @List.of_mem_zip.{0,0}:=@List.of_mem_zip.{0,0}
theorem Yb:type_of% @PySem.wpAny_loadPart':=@PySem.wpAny_loadPart'
theorem Yc:type_of% @PySem.W.kia_one:=@PySem.W.kia_one
theorem Yd:type_of% @PySem.codeAny_builtin:=@PySem.codeAny_builtin
theorem Ye:type_of% @Bool.eq_iff_iff:=@Bool.eq_iff_iff
theorem Yf:type_of% @PySem.sizeLine_eq:=@PySem.sizeLine_eq
theorem Yg:type_of% @Nat.zero_add:=@Nat.zero_add
theorem Yh:type_of% @List.any_cons.{0}:=@List.any_cons.{0}
theorem Yi:type_of% @PySem.plainId_quiet:=@PySem.plainId_quiet
theorem Yj:type_of% @List.not_mem_nil.{0}:=@List.not_mem_nil.{0}
theorem Yk:type_of% @PySem.F.plain_max_loop:=@PySem.F.plain_max_loop
theorem Yl:type_of% @List.filter_cons.{0}:=@List.filter_cons.{0}
theorem Ym:type_of% @Nat.lt_succ_of_lt:=@Nat.lt_succ_of_lt
theorem Yn:type_of% @Nat.ne_of_gt:=@Nat.ne_of_gt
def bq{p:Prop}(h:¬p->False):p:=XS h
namespace L2
open PySem PySem.Spec PyProof.Rows
abbrev Key:=Sum Int Str
def xM:Key->Value->Bool
 | .inl k,v=>Value.isInt k v
 | .inr x,v=>Value.isStrOf x v
def Q4(w:World):Key->Int
 | .inl k=>hashInt k
 | .inr x=>hashStr w x
theorem vR:∀{k:Key} {v:Value},xM k v=true->(∃i t,k=Sum.inl i/\v=Value.int i t)\/(∃x t,k=Sum.inr x/\v=Value.str x t)
 | .inl i,v,h=>by
  obtain⟨t,e⟩:=Value.isInt_shape (k:=i) (v:=v) h;exact .inl ⟨i,t,rfl,e⟩
 | .inr x,v,h=>by
  obtain⟨t,e⟩:=Value.isStrOf_shape (x:=x) (v:=v) h;exact(.inr ⟨x,t,rfl,e⟩)
def Vf(i:Int)(t:Tok):xM (.inl i) (.int i t)=true:=by simp[xM,Value.isInt]
def M7(x:Str)(t:Tok):xM (.inr x) (.str x t)=true:=by simp[xM,Value.isStrOf]
def Ot(a b:Int):decide ((Sum.inl a:Key)=Sum.inl b)=(a==b):=by
 by_cases e:a=b
 ·subst e;simp
 ·have h:¬(Sum.inl a:Key)=Sum.inl b:=fun q=>e (Sum.inl.inj q);rw[W9 h];exact(beq_eq_false_iff_ne.mpr e).symm
def O3(a b:Str):decide ((Sum.inr a:Key)=Sum.inr b)=decide (a=b):=by
 by_cases e:a=b
 ·subst e;simp
 ·have h:¬(Sum.inr a:Key)=Sum.inr b:=fun q=>e (Sum.inr.inj q);rw[W9 h,W9 e]
def SI(a:Int)(b:Str):decide ((Sum.inl a:Key)=Sum.inr b)=false:=W9 (fun q=>nomatch q)
def M5(a:Str)(b:Int):decide ((Sum.inr a:Key)=Sum.inl b)=false:=W9 (fun q=>nomatch q)
def ul(prog:Program)(w:World):PySem.KeyKind prog w Key where
 is:=xM
 hash:=Q4 w
 inj:=fun v a b ha hb=>by
  rcases vR ha with⟨i,t,rfl,rfl⟩|⟨x,t,rfl,rfl⟩
  ·rcases vR hb with⟨j,u,rfl,e⟩|⟨y,u,rfl,e⟩
   ·injection e with e1 _;rw[e1]
   ·exact nomatch e
  ·rcases vR hb with⟨j,u,rfl,e⟩|⟨y,u,rfl,e⟩
   ·exact nomatch e
   ·injection e with e1 _;rw[e1]
 byValue:=fun k v h=>by
  rcases vR h with⟨i,t,rfl,rfl⟩|⟨x,t,rfl,rfl⟩<;>rfl
 pyHash:=fun hv h=>by
  rcases vR hv with⟨i,t,rfl,rfl⟩|⟨x,t,rfl,rfl⟩
  ·exact wpAny_pyHash_int h
  ·exact wpAny_pyHash_str h
 eqBool:=fun hu hv h=>by
  rcases vR hu with⟨i,t,rfl,rfl⟩|⟨x,t,rfl,rfl⟩
  ·rcases vR hv with⟨j,u,rfl,rfl⟩|⟨y,u,rfl,rfl⟩
   ·rw[Ot] at h;exact wpAny_eqBool_int h
   ·rw[SI] at h;exact SeqAt.EqAt.int_str i t y u _ _ _ _ h
  ·rcases vR hv with⟨j,u,rfl,rfl⟩|⟨y,u,rfl,rfl⟩
   ·rw[M5] at h;exact SeqAt.EqAt.str_int x t j u _ _ _ _ h
   ·rw[O3] at h;exact wpAny_eqBool_str h
 «strs»:=fun k x t v h=>by
  rcases vR h with⟨i,u,rfl,e⟩|⟨y,u,rfl,e⟩
  ·exact nomatch e
  ·injection e with e1 _
   subst e1;cases v<;>rfl
def OM(prog:Program)(w:World)(i:Int)(t:Tok):(ul prog w).is (.inl i) (.int i t)=true:=Vf i t
def Uc(prog:Program)(w:World)(x:Str)(t:Tok):(ul prog w).is (.inr x) (.str x t)=true:=M7 x t
inductive V where
 |non|bl (b:Bool)|int (i:Int)|str (x:Str)|byt (b:Array UInt8)|flt (b:UInt64)|ref (a:Addr)|ty (n:String)
 deriving DecidableEq
def RelV:V->Value->Prop
 | .non,u=>u=Value.none
 | .bl b,u=>u=Value.bool b
 | .int i,u=>∃t,u=Value.int i t
 | .str x,u=>∃t,u=Value.str x t
 | .byt b,u=>∃t,u=Value.bytes b t
 | .flt b,u=>∃t,u=Value.float b t
 | .ref a,u=>u=Value.ref a
 | .ty n,u=>u=Value.type n
abbrev Vals:List V->List Value->Prop:=Paired RelV
def Vals.length{xs:List V}{us:List Value}(r:Vals xs us):xs.length=us.length:=Paired.length r
theorem Vals.get:∀{xs:List V} {us:List Value} {i:Nat} {x:V},Vals xs us->xs[i]?=some x->∃u,us[i]?=some u/\RelV x u
 |_,_,_,_,.nil,e=>by simp at e
 |_,_,0,_,.cons r _,e=>by simp at e;subst e;exact⟨_,rfl,r⟩
 |_,_,i+1,x,.cons _ t,e=>by
  obtain⟨u,h1,h2⟩:=Vals.get (i:=i) (x:=x) t (by simpa using e);exact(⟨u,by simpa using h1,h2⟩)
theorem Vals.set{x:V}{u:Value}(r:RelV x u):∀{xs:List V} {us:List Value} (i:Nat),Vals xs us->Vals (xs.set i x) (us.set i u)
 |_,_,_,.nil=>.nil
 |_,_,0,.cons _ t=>.cons r t
 |_,_,i+1,.cons q t=>.cons q (Vals.set r i t)
theorem Vals.append:∀{xs ys:List V} {us ws:List Value},Vals xs us->Vals ys ws->Vals (xs++ys) (us++ws)
 |_,_,_,_,.nil,s=>s
 |_,_,_,_,.cons r t,s=>.cons r (Vals.append t s)
theorem Vals.take:∀{xs:List V} {us:List Value} (n:Nat),Vals xs us->Vals (xs.take n) (us.take n)
 |_,_,0,_=>.nil
 |_,_,_+1,.nil=>.nil
 |_,_,n+1,.cons r t=>.cons r (Vals.take n t)
theorem Vals.drop:∀{xs:List V} {us:List Value} (n:Nat),Vals xs us->Vals (xs.drop n) (us.drop n)
 |_,_,0,r=>r
 |_,_,_+1,.nil=>.nil
 |_,_,n+1,.cons _ t=>Vals.drop n t
def RelO:Option V->Option Value->Prop
 |some v,some u=>RelV v u
 |none,none=>True
 |_,_=>False
def KV{κ:Type}:List (κ×V)->List (κ×Value)->Prop:=Paired fun(p:κ×V) (q:κ×Value)=>p.1=q.1/\RelV p.2 q.2
def kV:Key->V
 | .inl i=>.int i
 | .inr x=>.str x
abbrev NK:=List Int×Int
section
variable {P:Program} {w:World}
def NkIs(P:Program)(w:World)(h:Heap)(k:NK)(a:Addr):Prop:=∃(o:Obj) (b:Addr) (t:Tok) (c:Nat),h.get? a=some o/\o.cls=.type "tuple"/\o.data=.seq #[.ref b,.int k.2 t] c/\IsTupleKey (intKind P w) h k.1 b
def FD(P:Program)(w:World)(k:NK):Int:=reduceHash (Builtin.Tuple.tupleHashOf [tupleKeyHash (intKind P w) k.1,hashInt k.2])
variable {A:Around} {E:OK} {s:Shared} {k m:NK} {a b:Addr}
theorem NkIs.ty(x:NkIs P w s.heap k a):s.TypeIs (.ref a) "tuple":=let ⟨o,_,_,_,h1,h2,_⟩:=x;⟨o,h1,h2⟩
theorem NkIs.inj{h:Heap}(x:NkIs P w h k a)(y:NkIs P w h m a):k=m:=by
 obtain⟨o,b,t,c,h1,_,h3,h4⟩:=x;obtain⟨o',b',t',c',g1,_,g3,g4⟩:=y;rw[h1] at g1;cases g1;rw[h3] at g3;obtain⟨k1,k2⟩:=k;obtain⟨m1,m2⟩:=m;simp only[Data.seq.injEq,Array.mk.injEq,List.cons.injEq,Value.ref.injEq,Value.int.injEq] at g3;obtain⟨⟨e1,⟨e2,_⟩,_⟩,_⟩:=g3;subst e1;subst e2;have:=h4.inj g4;simp only at this;subst this;rfl
theorem NkIs.keeps{h h':Heap}{d:Addr}{o:Obj}{es ep}(x:NkIs P w h k a)(ho:h.get? d=some o)(hd:o.data=.dict es ep)(hs:Heap.SameBut d h h'):NkIs P w h' k a:=by
 obtain⟨q,b,t,c,h1,h2,h3,h4⟩:=x;refine⟨q,b,t,c,(hs.2 a ?_).trans h1,h2,h3,h4.keeps ho hd hs⟩;intro e;subst e;rw[ho] at h1;cases h1;rw[h3] at hd;cases hd
theorem NS{Q:Int->Shared->Prop}(hu:A.units+4<cLine)(x:NkIs P w s.heap k a)(h:Q (FD P w k) {s with toks:=s.toks+(k.1.length+3)}):wpAny (model P w) A (pyHash (.ref a)) Q E s:=by
 have hT:=x.ty;obtain⟨o,b,t,c,h1,_,h3,h4⟩:=x;unfold pyHash;first|unfold pyHashByItsType|skip
 first|refine WH (wpAny_cRoomFor_or (.inr (by omega)) ?_)|skip
 refine WH (wpAny_specialOf hT F.slot_tuple_hash.lookup ?_);show wpAny _ _ (if(some (Value.builtin "tuple.__hash__")==some Value.none)=true then _ else _) Q E s;rw[if_neg (by rw[beq_builtin_none];exact X6)];refine WH (wpAny_specialOf hT F.slot_tuple_hash.lookup ?_);show wpAny _ _ (callSpecialIfBoundUnlessNone? (.ref a) "__hash__" _ >>= _) Q E s;refine WH (wpAny_callSpecialIfBoundUnlessNone?_slot hT F.slot_tuple_hash (wpAny_call_entry F.slot_tuple_hash hT F.entry_tuple_hash ?_ (F.args_tuple_hash_1 _)));show wpAny _ _ (Builtin.Tuple.tupleItemsOf (.ref a) >>= _) _ _ s;refine WH (wpAny_tupleItemsOf h1 h3 ?_);refine WH ?_;rw[←Array.forIn_toList];show wpAny _ _ (forIn [Value.ref b,Value.int k.2 t] (#[]:Array Int) _) _ _ _;rw[List.forIn_cons];refine WH (WH (wpAny_pyHash_tuple (show A.in1.units<cLine by show A.units+1<cLine;omega) h4 (WM ?_)));show wpAny _ _ (forIn [Value.int k.2 t] (#[tupleKeyHash (intKind P w) k.1]:Array Int) _) _ _ _;rw[List.forIn_cons];refine WH (WH ((intKind P w).pyHash (k:=k.2) (by simp[intKind,Value.isInt]) (WM ?_)));show wpAny _ _ (forIn [] (#[tupleKeyHash (intKind P w) k.1,hashInt k.2]:Array Int) _) _ _ _;rw[List.forIn_nil];refine WM ?_;show wpAny _ _ (retInt (Builtin.Tuple.tupleHashOf [tupleKeyHash (intKind P w) k.1,hashInt k.2])) _ _ _;refine wpAny_ret_mkInt ?_;have et:s.toks+(k.1.length+1)+1+1=s.toks+(k.1.length+3):=by omega
 unfold FD reduceHash at h;generalize Builtin.Tuple.tupleHashOf [tupleKeyHash (intKind P w) k.1,hashInt k.2]=z at h⊢;show wpAny _ _ (ite ((decide (-(2:Int)^63<=z)&&decide (z<2^63))=true) _ _) Q E _;rw[←et] at h;by_cases hr:(decide (-(2:Int)^63<=z)&&decide (z<2^63))=true
 ·rw[if_pos hr] at h⊢;exact WM h
 ·rw[if_neg hr] at h⊢;exact WH (wpAny_rule (WM h))
theorem P3{Q:Fin->Shared->Prop}(hu:A.units<cLine)(x:NkIs P w s.heap k a)(y:NkIs P w s.heap m b)(h:Q (.done (.ret (.bool (decide (k=m))))) s):wpAny (model P w) A (Builtin.«tuple.__eq__» ⟨[.ref a,.ref b],[]⟩) Q E s:=by
 have hTb:=y.ty;obtain⟨o,b1,t,c,h1,_,h3,h4⟩:=x;obtain⟨o',b1',t',c',g1,_,g3,g4⟩:=y;show wpAny _ _ (isInstance (.ref b) (.type "tuple") >>= _) _ _ s;refine WH (wpAny_isInstance hTb isSubtype_tuple_tuple ?_);simp only[Xe,Xt,if_false];refine WH (wpAny_tupleItemsOf h1 h3 ?_);refine WH (wpAny_tupleItemsOf g1 g3 ?_);refine WH ?_;show wpAny _ _ (forIn [(Value.ref b1,Value.ref b1'),(Value.int k.2 t,Value.int m.2 t')] ((none:Option PySem.Fin),()) _) _ _ _;rw[List.forIn_cons];refine WH (WH (wpAny_eqBool_tuple hu h4 g4 ?_));by_cases e1:k.1=m.1
 ·rw[Xz e1];simp only[Xe,Xt,if_false];refine WM ?_;show wpAny _ _ (forIn [(Value.int k.2 t,Value.int m.2 t')] ((none:Option PySem.Fin),()) _) _ _ _;rw[List.forIn_cons];refine WH (WH ((intKind P w).eqBool (a:=k.2) (b:=m.2) (by simp[intKind,Value.isInt]) (by simp[intKind,Value.isInt]) ?_));by_cases e2:k.2=m.2
  ·have e:k=m:=Prod.ext e1 e2;rw[Xz e] at h;rw[Xz e2];simp only[Xe,Xt,if_false];refine WM ?_;show wpAny _ _ (forIn [] ((none:Option PySem.Fin),()) _) _ _ _;rw[List.forIn_nil];refine WM ?_;exact WM h
  ·have e:¬k=m:=fun z=>e2 (by rw[z]);rw[W9 e] at h;rw[W9 e2];simp only[Xw,if_true];exact WH (WM (WM (WM (WM h))))
 ·have e:¬k=m:=fun z=>e1 (by rw[z]);rw[W9 e] at h;rw[W9 e1];simp only[Xw,if_true];exact WH (WM (WM (WM (WM h))))
theorem NB{Q:Bool->Shared->Prop}(hu:A.units+4<cLine)(x:NkIs P w s.heap k a)(y:NkIs P w s.heap m b)(h:Q (decide (k=m)) s):wpAny (model P w) A (eqBool (.ref a) (.ref b)) Q E s:=by
 unfold eqBool;try with_reducible refine XV ?_
 show wpAny _ _ (ite ((Value.ref a==Value.ref b)=true) _ _) Q E s;by_cases hab:a=b
 ·subst hab;rw[if_pos (by simp)];have:=x.inj y;subst this;exact WH (wpAny_rule (WM (by simpa using h)))
 ·rw[if_neg (by simpa using hab)];exact WH (wpAny_richCompare_same_room (op:=.Eq) x.ty y.ty F.slot_tuple_eq (wpAny_call_entry F.slot_tuple_eq x.ty F.entry_tuple_eq (P3 (by show A.units+1<cLine;omega) x y ⟨_,rfl,(fun e=>nomatch e),Xx h⟩) (F.args_tuple_eq_2 _ _)) (by omega))
theorem PK{ks:List Int}{n:Nat}{Q:Bool->Shared->Prop}(x:IsTupleKey (intKind P w) s.heap ks a)(h:Q true s):wpAny (model P w) A (eqIsQuiet (n+1) (.ref a)) Q E s:=by
 have hT:=x.typeIs;obtain⟨o,items,c,h1,_,h3,h4⟩:=x;unfold eqIsQuiet;refine WH (wpAny_specialOf hT F.slot_tuple_eq.lookup ?_);show wpAny _ _ (isInstance (.ref a) (.type "tuple") >>= _) _ _ s;refine WH (wpAny_isInstance hT isSubtype_tuple_tuple ?_);simp only[Xe,Xt,if_false];refine WH (wpAny_seqItems h1 h3 ?_);refine WH ?_;show wpAny _ _ (forIn items _ _) _ _ s;rw[←Array.forIn_toList];refine wpAny_forIn_list _ (fun rA r s'=>r.1=none/\s'=s/\∀v∈rA,carriedByValue v=true) _ ?_ ?_ _ _ ⟨rfl,rfl,h4.byValue⟩
 ·intro v rA r s' q;obtain⟨_,e,q⟩:=q;subst e;rw[eqIsQuiet_byValue _ (q v (by simp))];refine WH (WM ?_);simp only[Xe,Xt,if_false];exact WM ⟨rfl,rfl,fun u hu=>q u (by simp[hu])⟩
 ·intro r s' q;obtain⟨r1,r2⟩:=r;obtain⟨e1,e2,_⟩:=q;cases e1;subst e2;exact WM h
theorem Q1{Q:Bool->Shared->Prop}(x:NkIs P w s.heap k a)(h:Q true s):wpAny (model P w) A (eqIsQuiet 8 (.ref a)) Q E s:=by
 have hT:=x.ty;obtain⟨o,b,t,c,h1,_,h3,h4⟩:=x;unfold eqIsQuiet;refine WH (wpAny_specialOf hT F.slot_tuple_eq.lookup ?_);show wpAny _ _ (isInstance (.ref a) (.type "tuple") >>= _) _ _ s;refine WH (wpAny_isInstance hT isSubtype_tuple_tuple ?_);simp only[Xe,Xt,if_false];refine WH (wpAny_seqItems h1 h3 ?_);refine WH ?_;rw[←Array.forIn_toList];show wpAny _ _ (forIn [Value.ref b,Value.int k.2 t] _ _) _ _ s;rw[List.forIn_cons];refine WH (WH (PK h4 ?_));simp only[Xe,Xt,if_false];refine WM ?_;show wpAny _ _ (forIn [Value.int k.2 t] _ _) _ _ s;rw[List.forIn_cons,eqIsQuiet_byValue _ rfl];refine WH (WH (WM ?_));simp only[Xe,Xt,if_false];refine WM ?_;show wpAny _ _ (forIn [] _ _) _ _ s;rw[List.forIn_nil];exact WM (WM h)
end
def yS(P:Program)(w:World):HeapKind P w NK where
 is:=NkIs P w
 hash:=FD P w
 draws:=fun k=>k.1.length+3
 room:=fun A=>A.units+4<cLine
 inj:=fun x y=>x.inj y
 keeps:=fun x h1 h2 h3=>x.keeps h1 h2 h3
 pyHash:=fun h x q=>NS h x q
 eqBool:=fun h x y q=>NB h x y q
 quiet:=fun x q=>Q1 x q
inductive HO where
 |lst (xs:List V)
 |tup (xs:List V)
 |dK (kvs:List (Key×V))|dT (kvs:List (NK×V))
 |set (S:Int->Bool) (n:Nat)
 |ins (C dx:Addr) (fs:List (Str×V))
 |own (x:Addr)
 |xd (fs:List (Str×V))
 |met (f x:Addr)
 |rng (lo hi:Int)
 |frz (o:Obj) (u:HO)
 |tbl (ps:Array Value)
 |ext (φ:Heap->Prop)
abbrev Hp:=Addr->Option HO
def NKey(H:Hp)(b:Addr)(k:NK):Prop:=∃c,H b=some (.tup [.ref c,.int k.2])/\H c=some (.tup (k.1.map V.int))
def NKey.up{H H':Hp}{b:Addr}{k:NK}(e:NKey H b k)(ht:∀b xs,H b=some (.tup xs)->H' b=some (.tup xs)):NKey H' b k:=let ⟨c,h1,h2⟩:=e;⟨c,ht _ _ h1,ht _ _ h2⟩
def upd(H:Hp)(a:Addr)(o:HO):Hp:=fun b=>if b=a then some o else H b
def sF{H:Hp}{a:Addr}{o:HO}:upd H a o a=some o:=by unfold upd;rw[if_pos rfl]
def rG{H:Hp}{a b:Addr}{o:HO}(h:b≠a):upd H a o b=H b:=by unfold upd;rw[if_neg h]
def Nj{H:Hp}{a b:Addr}{o u:HO}(h:H a=some o)(h':H b=some u)(d:o≠u):a≠b:=by
 intro e;subst e;rw[h] at h';exact d (Xa h')
def tG{H:Hp}{a b:Addr}{o:HO}(h:H a=some o)(h':H b=none):a≠b:=by
 intro e;subst e;rw[h] at h';cases h'
section
variable (P:Program) (w:World)
def ObjOk(H:Hp)(h:Heap)(a:Addr):HO->Prop
 | .lst xs=>xs.length<=sizeLine/\∃(its:List Value) (n:Nat),Vals xs its/\h.get? a=some {cls:=.type "list",data:=.seq its.toArray n}
 | .tup xs=>xs.length<=sizeLine/\∃its:List Value,Vals xs its/\IsTup h a its.toArray
 | .dK kvs=>kvs.length<=sizeLine/\(a==sysModules)=false/\∃vs,KV kvs vs/\h.DictOf (ul P w) a vs
 | .dT kvs=>kvs.length<=sizeLine/\(a==sysModules)=false/\∃xs:List (NK×Addr×Value),
   Paired (fun(p:NK×V) (q:NK×Addr×Value)=>p.1=q.1/\NKey H q.2.1 p.1/\RelV p.2 q.2.2) kvs xs/\
   ∃o es ep,h.get? a=some o/\o.ExactDict/\o.data=.dict es ep/\es.toList=xs.map (entryOfKey (yS P w))/\(xs.map (·.1)).Nodup
 | .set S n=>h.SetOf (intKind P w) a S n
 | .ins C dx fs=>H dx=some (.own a)/\fs.length<=1000/\dx≠a/\h.get? a=some (PySem.W.instObj C dx)/\
   ∃mA,h.Ns1 dx mA/\(∀f,RelO (fs.lookup f) (mA f))/\PySem.Within mA (fs.map (·.1))
 | .own _=>∃o,h.get? a=some o
 | .xd fs=>∃mA,h.Ns1 a mA/\∀f,RelO (fs.lookup f) (mA f)
 | .rng lo hi=>∃t u v,h.get? a=some {cls:=.type "range",data:=.fields #[.int lo t,.int hi u,.int 1 v]}
 | .frz o u=>h.get? a=some o/\ObjOk H h a u
 | .tbl ps=>h.get? a=some {cls:=.none,data:=.fields ps}
 | .met f x=>h.get? a=some (PySem.W.methodObj (.ref f) (.ref x))
 | .ext φ=>φ h/\(∃o,h.get? a=some o)/\∀h1 h2:Heap,φ h1->(∀o,h1.get? a=some o->h2.get? a=some o)->φ h2
def HOk(H:Hp)(h:Heap):Prop:=∀a o,H a=some o->ObjOk P w H h a o
end
section
variable {P:Program} {w:World} {H H':Hp} {h h':Heap} {a:Addr} {o:HO}
theorem ObjOk.lt(x:ObjOk P w H h a o):a<h.objs.size:=by
 cases o with
 |lst xs=>obtain⟨_,_,_,_,e⟩:=x;exact WN e
 |tup xs=>obtain⟨_,_,_,p⟩:=x;exact p.lt
 |dK kvs=>obtain⟨_,_,_,_,o,_,_,e,_⟩:=x;exact WN e
 |dT kvs=>obtain⟨_,_,_,_,o,_,_,e,_⟩:=x;exact WN e
 |set S n=>obtain⟨o,_,_,_,e,_⟩:=x;exact WN e
 |ins C dx fs=>obtain⟨_,_,_,e,_⟩:=x;exact WN e
 |own y=>obtain⟨_,e⟩:=x;exact WN e
 |xd fs=>obtain⟨_,⟨_,_,_,e,_⟩,_⟩:=x;exact WN e
 |rng lo hi=>obtain⟨_,_,_,e⟩:=x;exact WN e
 |frz ob u=>obtain⟨e,_⟩:=x;exact WN e
 |tbl ps=>exact WN (show h.get? a=some _ from x)
 |met f y=>exact WN (show h.get? a=some _ from x)
 |ext φ=>obtain⟨_,⟨_,e⟩,_⟩:=x;exact WN e
theorem Paired.mapP{J β:Type}{F G:J->β->Prop}:∀{Zh:List J} {Zg:List β},Paired F Zh Zg->(∀a b,F a b->G a b)->Paired G Zh Zg
 |_,_,.nil,_=>.nil
 |_,_,.cons r t,f=>.cons (f _ _ r) (Paired.mapP t f)
theorem ObjOk.stay(x:ObjOk P w H h a o)(k:∀b u,(b=a\/H b=some (.own a))->h.get? b=some u->h'.get? b=some u)
  (ho:∀b,H b=some (.own a)->H' b=some (.own a)) (ht:∀b xs,H b=some (.tup xs)->H' b=some (.tup xs)):ObjOk P w H' h' a o:=by
 induction o with
 |lst xs=>obtain⟨z,its,n,r,e⟩:=x;exact⟨z,its,n,r,k _ _ (.inl rfl) e⟩
 |tup xs=>obtain⟨z,its,r,ob,e,c⟩:=x;exact⟨z,its,r,ob,k _ _ (.inl rfl) e,c⟩
 |dK kvs=>obtain⟨z,y,vs,r,ob,es,ep,e,c⟩:=x;exact⟨z,y,vs,r,ob,es,ep,k _ _ (.inl rfl) e,c⟩
 |dT kvs=>
  obtain⟨z,y,xs,r,ob,es,ep,e,c⟩:=x;exact⟨z,y,xs,Paired.mapP r fun p q z=>⟨z.1,z.2.1.up ht,z.2.2⟩,ob,es,ep,k _ _ (.inl rfl) e,c⟩
 |set S n=>obtain⟨ob,es,ep,t,e,c⟩:=x;exact⟨ob,es,ep,t,k _ _ (.inl rfl) e,c⟩
 |ins C dx fs=>
  obtain⟨d,z,ne,e,mA,⟨od,es,ep,e2,c⟩,r⟩:=x;exact⟨ho _ d,z,ne,k _ _ (.inl rfl) e,mA,⟨od,es,ep,k _ _ (.inr d) e2,c⟩,r⟩
 |own y=>obtain⟨ob,e⟩:=x;exact⟨ob,k _ _ (.inl rfl) e⟩
 |xd fs=>obtain⟨mA,⟨od,es,ep,e,c⟩,r⟩:=x;exact⟨mA,⟨od,es,ep,k _ _ (.inl rfl) e,c⟩,r⟩
 |rng lo hi=>obtain⟨t,u,v,e⟩:=x;exact⟨t,u,v,k _ _ (.inl rfl) e⟩
 |frz ob u ih=>obtain⟨e,q⟩:=x;exact⟨k _ _ (.inl rfl) e,ih q⟩
 |tbl ps=>
  have e:h.get? a=some {cls:=.none,data:=.fields ps}:=x;show h'.get? a=some {cls:=.none,data:=.fields ps};exact k a _ (.inl rfl) e
 |met f y=>
  have e:h.get? a=some (PySem.W.methodObj (.ref f) (.ref y)):=x;show h'.get? a=some (PySem.W.methodObj (.ref f) (.ref y));exact k a _ (.inl rfl) e
 |ext φ=>obtain⟨p,⟨o,e⟩,st⟩:=x;exact⟨st _ _ p fun o q=>k _ _ (.inl rfl) q,⟨o,k _ _ (.inl rfl) e⟩,st⟩
theorem HOk.lt(x:HOk P w H h)(e:H a=some o):a<h.objs.size:=(x a o e).lt
theorem HOk.fresh(x:HOk P w H h)(e:h.objs.size<=a):H a=none:=by
 cases q:H a with
 |none=>rfl
 |some u=>exact absurd (WZ (x.lt q) e) (Xp _)
theorem HOk.kept(x:HOk P w H h)(k:∀b u,h.get? b=some u->h'.get? b=some u):HOk P w H h':=fun a o e=>
 (x a o e).stay (fun b u _ q=>k b u q) (fun _ q=>q) fun _ _ q=>q
theorem HOk.laid(x:HOk P w H h)(k:∀b u,h.get? b=some u->h'.get? b=some u)(hp:h.objs.size<=a)(new:ObjOk P w (upd H a o) h' a o):HOk P w (upd H a o) h':=fun b u e=>by
 have hn:=x.fresh hp;by_cases hb:b=a
 ·subst hb;rw[sF] at e;cases e;exact new
 ·rw[rG hb] at e;exact(x b u e).stay (fun c v _ q=>k c v q) (fun c q=>by rw[rG (tG q hn)];exact q) fun c xs q=>by rw[rG (tG q hn)];exact q
end
def Rd(H:Hp)(a:Addr)(u:HO):Prop:=H a=some u\/∃o,H a=some (.frz o u)
def Rd.ok{P:Program}{w:World}{H:Hp}{h:Heap}{a:Addr}{u:HO}(r:Rd H a u)(x:HOk P w H h):ObjOk P w H h a u:=by
 rcases r with r|⟨o,r⟩
 ·exact x a u r
 ·obtain⟨_,q⟩:=x a _ r;exact q
def Mut:Option HO->Prop
 |some (.lst _)=>True
 |some (.dK _)=>True
 |some (.dT _)=>True
 |some (.set _ _)=>True
 |some (.ins _ _ _)=>True
 |some (.ext _)=>True
 |_=>False
section
variable {P:Program} {w:World} {H:Hp} {h h':Heap} {x e:Addr} {o':HO}
theorem HOk.write(ok:HOk P w H h)(mu:Mut (H x))(he:e=x\/H e=some (.own x))(k:∀b u,b≠e->h.get? b=some u->h'.get? b=some u)(heo:∃u,h'.get? e=some u)
  (new:ObjOk P w (upd H x o') h' x o'):HOk P w (upd H x o') h':=fun b u q=>by
 have nown:∀c y,H c=some (.own y)->c≠x:=fun c y r z=>by subst z;rw[r] at mu;exact mu
 have ntup:∀c xs,H c=some (.tup xs)->c≠x:=fun c xs r z=>by subst z;rw[r] at mu;exact mu
 by_cases hb:b=x
 ·subst hb;rw[sF] at q;cases q;exact new
 ·rw[rG hb] at q;by_cases hbe:b=e
  ·have q':H b=some (.own x):=by
    rcases he with z|z
    ·exact absurd (hbe.trans z) hb
    ·rw[hbe];exact z
   rw[q] at q';cases q';obtain⟨v,hv⟩:=heo;exact⟨v,by rw[hbe];exact hv⟩
  ·refine(ok b u q).stay (fun c v hc r=>k c v ?_ r) (fun c r=>by rw[rG (nown c b r)];exact r) fun c xs r=>by rw[rG (ntup c xs r)];exact r
   rcases hc with rfl|hc
   ·exact hbe
   ·rintro rfl;rcases he with z|z
    ·exact nown c b hc z
    ·rw[hc] at z;cases z;exact hb rfl
end
structure Un (fs ex:List Addr) (H H':Hp) (h h':Heap):Prop where
 keep:∀b o,h.get? b=some o->H b=none->b∉fs->b∉ex->h'.get? b=some o
 slot:∀b o,h.get? b=some o->H b=none->b∈fs->b∉ex->∃sl,h'.get? b=some {o with slots:=sl}
 free:∀b o,h.get? b=some o->H b=none->b∉ex->H' b=none
 there:∀b o,h.get? b=some o->b∉ex->∃o',h'.get? b=some o'
 tups:∀b xs,H b=some (.tup xs)->H' b=some (.tup xs)
 frzs:∀b o u,H b=some (.frz o u)->H' b=some (.frz o u)
 tbls:∀b ps,H b=some (.tbl ps)->∃more,H' b=some (.tbl (ps++more))
section
variable {fs ex:List Addr} {H H1:Hp} {h h1 h':Heap} {a x e:Addr} {o:HO}
theorem Un.any(u:Un fs ex H H1 h h1){b:Addr}{ob:Obj}(q:h.get? b=some ob)(n:H b=none)(hx:b∉ex):∃sl,h1.get? b=some {ob with slots:=sl}:=by
 by_cases hb:b∈fs
 ·exact u.slot b ob q n hb hx
 ·exact⟨ob.slots,u.keep b ob q n hb hx⟩
theorem Un.kept(k:∀b u,h.get? b=some u->h'.get? b=some u):Un fs ex H H h h':=
 ⟨fun b ob q _ _ _=>k b ob q,fun b ob q _ _ _=>⟨ob.slots,k b ob q⟩,fun _ _ _ n _=>n,fun b ob q _=>⟨ob,k b ob q⟩,fun _ _ q=>q,fun _ _ _ q=>q,fun _ ps q=>⟨#[],by rw[q];simp⟩⟩
theorem Un.refl:Un fs ex H H h h:=Un.kept fun _ _ q=>q
theorem Un.laid(k:∀b u,h.get? b=some u->h'.get? b=some u)(hp:h.objs.size<=a)(hn:H a=none):Un fs ex H (upd H a o) h h' where
 keep:=fun b u q _ _ _=>k b u q
 slot:=fun b u q _ _ _=>⟨u.slots,k b u q⟩
 free:=fun b u q n _=>by rw[rG (W8 (WZ (WN q) hp))];exact n
 there:=fun b u q _=>⟨u,k b u q⟩
 tups:=fun b xs q=>by rw[rG (tG q hn)];exact q
 frzs:=fun b u xs q=>by rw[rG (tG q hn)];exact q
 tbls:=fun b ps q=>⟨#[],by rw[rG (tG q hn),q];simp⟩
theorem Un.write(mu:Mut (H x))(he:e=x\/H e=some (.own x))(k:∀b u,b≠e->h.get? b=some u->h'.get? b=some u)(heo:∃u,h'.get? e=some u):Un fs ex H (upd H x o) h h':=by
 have hx:∀b,H b=none->b≠x:=fun b n z=>by subst z;rw[n] at mu;exact mu
 have hb:∀b,H b=none->b≠e:=fun b n z=>by
  subst z;rcases he with r|r
  ·exact hx b n r
  ·rw[n] at r;cases r
 have hm:∀b u,H b=some u->¬Mut (some u)->b≠x:=fun b u q nm z=>by subst z;rw[q] at mu;exact nm mu
 refine⟨fun b u q n _ _=>k b u (hb b n) q,fun b u q n _ _=>⟨u.slots,k b u (hb b n) q⟩,fun b u q n _=>by rw[rG (hx b n)];exact n,fun b u q _=>?_,
  fun b xs q=>by rw[rG (hm b _ q fun z=>z)];exact q,fun b u xs q=>by rw[rG (hm b _ q fun z=>z)];exact q,fun b ps q=>⟨#[],by rw[rG (hm b _ q fun z=>z),q];simp⟩⟩
 by_cases hbe:b=e
 ·subst hbe;exact heo
 ·exact⟨u,k b u hbe q⟩
end
def trk(h:Heap)(H:Hp):List Addr:=(List.range h.objs.size).filter fun a=>(H a).isSome
def ww(h:Heap)(H:Hp):Heap:=PySem.W.hideAll h (trk h H)
def U3(h:Heap)(H:Hp):(ww h H).objs.size=h.objs.size:=PySem.W.hideAll_size _ _
def Pw{h:Heap}{H:Hp}{b:Addr}{o:Obj}(e:h.get? b=some o)(n:H b=none):(ww h H).get? b=some o:=
 PySem.W.hideAll_get _ e fun hm=>by
  have q:(H b).isSome=true:=(Xh.mp hm).2;rw[n] at q;simp at q
def UO{h:Heap}{H:Hp}{b:Addr}{o:Obj}(e:(ww h H).get? b=some o):h.get? b=some o/\H b=none:=by
 have e':h.get? b=some o:=PySem.W.of_hideAll (trk h H) e;refine⟨e',?_⟩;cases q:H b with
 |none=>rfl
 |some x=>
  have hm:b∈trk h H:=Xh.mpr ⟨XF.mpr (WN e'),by simp[q]⟩;have z:(ww h H).get? b=none:=PySem.W.hideAll_none (trk h H) hm;rw[z] at e;cases e
def QK(g h:Heap)(Z9:Addr):QS:=(List.range h.objs.size).filterMap fun a=>if a=Z9\/(g.get? a).isSome=true then none else(h.get? a).map fun o=>(a,o)
def rA(g h:Heap)(Z9 d:Addr):QS:=(QK g h Z9).filter fun p=>decide (p.1≠d)
structure Mod (K:Frag) (mg:Str->Option Value) (base:Heap):Prop where
 kin:K.In base
 glob:base.Ns mainGlobals mg
 blt:∃mb,base.Ns builtinsNs mb/\∀x:Str,x≠"__name__"->mb x=bootBuiltins x
 nolimit:base.NoLimit
structure Cx where
 prog:Program
 w:World
 K:Frag
 mg:Str->Option Value
 base:Heap
 A:Around
 N:List Str
 Z2:Shared
 Z0:Hp
 env:Env
 outer:List Env
 stack:List Env
 ex:List Addr
 fn:Str->Bool
 calm:Bool
 pn:QS
 xe:Value->Shared->Prop
def frs(l:List Env):List Addr:=l.filterMap (·.frame)
abbrev Cx.fs(X:Cx):List Addr:=frs X.outer
def Vis(sc:Scope)(x:Str):Prop:=sc.names.lookup x=some .local\/sc.names.lookup x=some .cell\/sc.names.lookup x=some .free
def Loc(sc:Scope)(x:Str):Prop:=sc.names.lookup x=some .local\/sc.names.lookup x=some .cell
def S4(env:Env)(h:Heap)(m:Str->Option Value)(x:Str)(u:Value):Prop:=
 (env.kindOf x=some .local/\m x=some u)\/((env.kindOf x=some .cell\/env.kindOf x=some .free)/\∃c,env.cells.lookup x=some c/\h.IsCell c (some u))
structure Cx.Ok (X:Cx):Prop where
 mod:Mod X.K X.mg X.base
 kind:X.env.scope.kind=.function
 glob:X.env.globals=mainGlobals
 blt:X.env.builtins=builtinsNs
 above:X.Z2.heap.objs.size<=X.env.locals
 inj:∀x y c,X.env.cells.lookup x=some c->X.env.cells.lookup y=some c->x=y
 has:∀x,(X.env.kindOf x=some .cell\/X.env.kindOf x=some .free)->∃c,X.env.cells.lookup x=some c
 cab:∀x c,X.fn x=true->X.env.cells.lookup x=some c->X.Z2.heap.objs.size<=c
 hd:X.calm=true->X.A.handled=none
 frames:X.A.frames=some X.stack
 stk:X.stack=X.outer\/(X.stack=X.env::X.outer/\X.env.frame=some X.env.locals)
 exf:∀b∈X.ex,b≠X.env.locals/\∀x c,X.env.cells.lookup x=some c->c≠b
 bs:∀b o,X.base.get? b=some o->X.Z2.heap.get? b=some o/\X.Z0 b=none
 bsz:X.base.objs.size<=X.Z2.heap.objs.size
 noex:∀b o,X.base.get? b=some o->b∉X.ex
 exfs:∀b∈X.ex,b∉X.fs
 funs:X.Z2.heap.FunFrames X.base X.outer
 frf:∀b∈X.fs,X.Z0 b=none
structure Inv (X:Cx) (pins:QS) (B:List (Option V)) (H:Hp) (s:Shared):Prop where
 ok:X.Ok
 os:s.os=X.Z2.os
 bare:AllBare s.gens
 base:Un X.fs X.ex X.Z0 H X.Z2.heap s.heap
 loc:∃m,s.heap.Ns X.env.locals m/\∀(i:Nat) (x:Str) (v:V),X.N[i]?=some x->B[i]?=some (some v)->Vis X.env.scope x->∃u,RelV v u/\S4 X.env s.heap m x u
 cell:∀x c,X.env.cells.lookup x=some c->∃v,s.heap.IsCell c v
 free:H X.env.locals=none
 freeC:∀x c,X.env.cells.lookup x=some c->H c=none
 pin:∀p∈X.pn++pins,s.heap.get? p.1=some p.2/\H p.1=none/\p.1≠X.env.locals/\p.1∉X.fs/\∀v,p.2.data≠.cell v
 hok:HOk X.prog X.w H s.heap
 len:B.length=X.N.length
section
variable {X:Cx} {pins:QS} {B:List (Option V)} {H H':Hp} {s:Shared} {h':Heap}
theorem Cx.Ok.nofr(ok:X.Ok){b:Addr}{o:Obj}(e:X.base.get? b=some o):b∉X.fs:=fun hb=>by
 have:=(ok.funs.mem hb).1;rw[e] at this;cases this
theorem Inv.bs(I:Inv X pins B H s):∀b o,X.base.get? b=some o->s.heap.get? b=some o/\H b=none:=fun b o e=>
 ⟨I.base.keep b o (I.ok.bs b o e).1 (I.ok.bs b o e).2 (I.ok.nofr e) (I.ok.noex b o e),I.base.free b o (I.ok.bs b o e).1 (I.ok.bs b o e).2 (I.ok.noex b o e)⟩
theorem Inv.bk(I:Inv X pins B H s):∀b o,X.base.get? b=some o->s.heap.get? b=some o:=fun b o e=>(I.bs b o e).1
theorem Inv.mod(I:Inv X pins B H s):Mod X.K X.mg X.base:=I.ok.mod
theorem Inv.kIn(I:Inv X pins B H s):X.K.In s.heap:=I.ok.mod.kin.keeps I.bk
theorem Inv.lt(I:Inv X pins B H s):X.env.locals<s.heap.objs.size:=let ⟨_,hn,_⟩:=I.loc;hn.lt
theorem Inv.sz(I:Inv X pins B H s):X.Z2.heap.objs.size<=s.heap.objs.size:=Xo I.ok.above (Nat.le_of_lt I.lt)
theorem Inv.nofs(I:Inv X pins B H s){a:Addr}(h:s.heap.objs.size<=a):a∉X.fs:=fun hb=>by
 obtain⟨_,o,ho,_⟩:=I.ok.funs.mem hb;exact(absurd (WZ (WN ho) (Xo I.sz h)) (Xp _))
theorem Inv.cne(I:Inv X pins B H s):∀x c,X.env.cells.lookup x=some c->c≠X.env.locals:=fun x c e z=>by
 obtain⟨v,o,ho,hd⟩:=I.cell x c e;obtain⟨m,⟨o',es,ep,ho',hd',_⟩,_⟩:=I.loc;rw[z,ho'] at ho;cases ho;rw[hd'] at hd;cases hd
theorem Inv.funs(I:Inv X pins B H s):s.heap.FunFrames X.base X.outer:=by
 have all:∀(l:List Env),(∀b∈frs l,b∈X.fs)->X.Z2.heap.FunFrames X.base l->s.heap.FunFrames X.base l:=by
  intro l;induction l with
  |nil=>intro _ _;trivial
  |cons env r ih=>
   intro hs hl;obtain⟨hk,⟨Z9,o,hf,hn,ho,hd⟩,hr⟩:=hl;have hL:Z9∈X.fs:=hs Z9 (by unfold frs;rw[List.filterMap_cons,hf];exact List.mem_cons_self);obtain⟨sl,e⟩:=I.base.slot Z9 o ho (I.ok.frf Z9 hL) hL fun z=>I.ok.exfs Z9 z hL;exact⟨hk,⟨Z9,_,hf,hn,e,hd⟩,ih (fun b hb=>hs b (by unfold frs;rw[List.filterMap_cons,hf];exact Xs _ hb)) hr⟩
 exact all X.outer (fun _ hb=>hb) I.ok.funs
theorem Inv.stack(I:Inv X pins B H s):s.heap.FunFrames X.base X.stack:=by
 rcases I.ok.stk with e|⟨e,hf⟩
 ·rw[e];exact I.funs
 ·rw[e];obtain⟨m,hn,_⟩:=I.loc;refine .cons (by rw[I.ok.kind];decide) hf hn ?_ I.funs;exact Heap.get?_none_of_le (Xo I.ok.bsz I.ok.above)
theorem Inv.stkSub(I:Inv X pins B H s):∀b∈frs X.stack,b∈X.env.locals::X.fs:=fun b hb=>by
 rcases I.ok.stk with e|⟨e,hf⟩
 ·rw[e] at hb;exact Xs _ hb
 ·rw[e] at hb;unfold frs at hb;rw[List.filterMap_cons,hf] at hb;exact hb
theorem Inv.stkFree(I:Inv X pins B H s):∀b∈frs X.stack,H b=none:=fun b hb=>by
 rcases Xd.mp (I.stkSub b hb) with e|hb
 ·rw[e];exact I.free
 ·obtain⟨_,o,ho,_⟩:=I.ok.funs.mem hb;exact I.base.free b o ho (I.ok.frf b hb) fun z=>I.ok.exfs b z hb
theorem Inv.step{g':Array GenState}{t':Nat}{d':Drawn}{ch:List Addr}(I:Inv X pins B H s)
  (hch:∀b∈ch,(b∈X.ex\/X.Z2.heap.objs.size<=b)/\b≠X.env.locals/\(∀x c,X.env.cells.lookup x=some c->c≠b)/\∀p∈X.pn++pins,p.1≠b)
  (keep:∀b o,b≠X.env.locals->b∉X.fs->b∉ch->s.heap.get? b=some o->H b=none->h'.get? b=some o)
  (slot:∀b o,b≠X.env.locals->b∈X.fs->b∉ch->s.heap.get? b=some o->H b=none->∃sl,h'.get? b=some {o with slots:=sl}) (free:∀b o,b∉ch->s.heap.get? b=some o->H b=none->H' b=none)
  (there:∀b o,b∉ch->s.heap.get? b=some o->∃o',h'.get? b=some o')
  (tups:∀b xs,H b=some (.tup xs)->H' b=some (.tup xs)) (frzs:∀b o u,H b=some (.frz o u)->H' b=some (.frz o u)) (tbls:∀b ps,H b=some (.tbl ps)->∃more,H' b=some (.tbl (ps++more)))
  (ns:∀m,s.heap.Ns X.env.locals m->h'.Ns X.env.locals m) (hok:HOk X.prog X.w H' h') (hg:AllBare g'):
  Inv X pins B H' {s with heap:=h',gens:=g',drawn:=d',toks:=t'}:=by
 have neL:∀b o,X.Z2.heap.get? b=some o->b≠X.env.locals:=fun b o e=>W8 (WZ (WN e) I.ok.above);have neC:∀b o,X.Z2.heap.get? b=some o->b∉X.ex->b∉ch:=fun b o e hx hb=>by
  rcases(hch b hb).1 with z|z
  ·exact hx z
  ·exact absurd (WZ (WN e) z) (Xp _)
 have cellK:∀x c,X.env.cells.lookup x=some c->∀v,s.heap.IsCell c v->h'.IsCell c v:=fun x c e v ⟨o,ho,hd⟩=>by
  have nch:c∉ch:=fun z=>(hch c z).2.2.1 x c e rfl;by_cases hc:c∈X.fs
  ·obtain⟨sl,q⟩:=slot c o (I.cne x c e) hc nch ho (I.freeC x c e);exact⟨_,q,hd⟩
  ·exact⟨o,keep c o (I.cne x c e) hc nch ho (I.freeC x c e),hd⟩
 refine⟨I.ok,I.os,hg,⟨fun b o e n hb hx=>?_,fun b o e n hb hx=>?_,fun b o e n hx=>?_,fun b o e hx=>?_,fun b xs e=>tups b xs (I.base.tups b xs e),fun b o xs e=>frzs b o xs (I.base.frzs b o xs e),fun b ps e=>?_⟩,?_,fun x c e=>?_,?_,fun x c e=>?_,fun p hp=>?_,hok,I.len⟩
 ·exact keep b o (neL b o e) hb (neC b o e hx) (I.base.keep b o e n hb hx) (I.base.free b o e n hx)
 ·obtain⟨sl,e1⟩:=I.base.slot b o e n hb hx;obtain⟨sl',e2⟩:=slot b _ (neL b o e) hb (neC b o e hx) e1 (I.base.free b o e n hx);exact(⟨sl',e2⟩)
 ·obtain⟨o',e1⟩:=I.base.there b o e hx;exact free b o' (neC b o e hx) e1 (I.base.free b o e n hx)
 ·obtain⟨o',e1⟩:=I.base.there b o e hx;exact there b o' (neC b o e hx) e1
 ·obtain⟨m1,e1⟩:=I.base.tbls b ps e;obtain⟨m2,e2⟩:=tbls b _ e1;exact(⟨m1++m2,by rw[e2,Array.append_assoc]⟩)
 ·obtain⟨m,hn,hl⟩:=I.loc;refine⟨m,ns m hn,fun i x v e1 e2 e3=>?_⟩;obtain⟨u,r,l⟩:=hl i x v e1 e2 e3;refine(⟨u,r,?_⟩);rcases l with l|⟨k,c,e,z⟩
  ·exact .inl l
  ·exact .inr ⟨k,c,e,cellK x c e _ z⟩
 ·obtain⟨v,z⟩:=I.cell x c e;exact⟨v,cellK x c e v z⟩
 ·obtain⟨m,⟨o,_,_,ho,_⟩,_⟩:=I.loc;exact free _ o (fun z=>(hch _ z).2.1 rfl) ho I.free
 ·obtain⟨v,o,ho,hd⟩:=I.cell x c e;exact free c o (fun z=>(hch c z).2.2.1 x c e rfl) ho (I.freeC x c e)
 ·obtain⟨e,n,ne,nf,d⟩:=I.pin p hp;have nch:p.1∉ch:=fun z=>(hch p.1 z).2.2.2 p hp rfl;exact⟨keep p.1 p.2 ne nf nch e n,free p.1 p.2 nch e n,ne,nf,d⟩
theorem Inv.un{t':Nat}(I:Inv X pins B H s)(u:Un X.fs [] H H' s.heap h')(hok:HOk X.prog X.w H' h'):Inv X pins B H' {s with heap:=h',toks:=t'}:=by
 obtain⟨m,⟨o,es,ep,ho,r⟩,_⟩:=id I.loc;obtain⟨sl,hL⟩:=u.any ho I.free (by simp);exact I.step (g':=s.gens) (d':=s.drawn) (ch:=[]) (fun _ z=>nomatch z) (fun b o _ hb _ e n=>u.keep b o e n hb (by simp)) (fun b o _ hb _ e n=>u.slot b o e n hb (by simp)) (fun b o _ e n=>u.free b o e n (by simp)) (fun b o _ e=>u.there b o e (by simp)) u.tups u.frzs u.tbls (fun m' hm=>by
  obtain⟨o',es',ep',ho',r'⟩:=hm;rw[ho] at ho';cases ho';exact⟨_,es',ep',hL,r'⟩) hok I.bare
theorem Inv.call{g':Array GenState}{t':Nat}{d':Drawn}{ch:List Addr}(I:Inv X pins B H s)(u:Un (frs X.stack) ch H H' s.heap h')(hok:HOk X.prog X.w H' h')(hg:AllBare g')
  (hch:∀b∈ch,(b∈X.ex\/X.Z2.heap.objs.size<=b)/\b≠X.env.locals/\(∀x c,X.env.cells.lookup x=some c->c≠b)/\∀p∈X.pn++pins,p.1≠b):
  Inv X pins B H' {s with heap:=h',gens:=g',drawn:=d',toks:=t'}:=by
 obtain⟨m,⟨o,es,ep,ho,r⟩,_⟩:=id I.loc;obtain⟨sl,hL⟩:=u.any ho I.free fun z=>(hch _ z).2.1 rfl;exact I.step (ch:=ch) hch (fun b o hL hb hc e n=>u.keep b o e n (fun z=>(Xd.mp (I.stkSub b z)).elim hL hb) hc) (fun b o _ _ hc e n=>u.any e n hc) (fun b o hc e n=>u.free b o e n hc) (fun b o hc e=>u.there b o e hc) u.tups u.frzs u.tbls (fun m' hm=>by
  obtain⟨o',es',ep',ho',r'⟩:=hm;rw[ho] at ho';cases ho';exact⟨_,es',ep',hL,r'⟩) hok hg
theorem Inv.turned{t':Nat}{it:Addr}(I:Inv X pins B H s)(k:∀b o,b≠it->s.heap.get? b=some o->h'.get? b=some o)(hn:H it=none)(hL:it≠X.env.locals)
  (h1:it∈X.ex\/X.Z2.heap.objs.size<=it) (h2:∀x c,X.env.cells.lookup x=some c->c≠it) (h3:∀p∈X.pn++pins,p.1≠it):Inv X pins B H {s with heap:=h',toks:=t'}:=by
 have nit:∀b u,H b=some u->b≠it:=fun b u e z=>by rw[z,hn] at e;cases e
 refine I.step (g':=s.gens) (d':=s.drawn) (ch:=[it]) (fun b hb=>?_) (fun b o _ _ hc e _=>k b o (fun z=>hc (by simp[z])) e) (fun b o _ _ hc e _=>⟨o.slots,k b o (fun z=>hc (by simp[z])) e⟩) (fun _ _ _ _ n=>n)
  (fun b o hc e=>⟨o,k b o (fun z=>hc (by simp[z])) e⟩) (fun _ _ e=>e) (fun _ _ _ e=>e) (fun b ps e=>⟨#[],by rw[e];simp⟩) (fun m hm=>?_) (fun b u e=>?_) I.bare
 ·have e:b=it:=by simpa using hb
  subst e;exact⟨h1,hL,h2,h3⟩
 ·obtain⟨o,es,ep,ho,r⟩:=hm;exact⟨o,es,ep,k _ o (Ne.symm hL) ho,r⟩
 ·refine(I.hok b u e).stay (fun c v hc q=>k c v ?_ q) (fun _ q=>q) fun _ _ q=>q;rcases hc with z|z
  ·rw[z];exact nit b u e
  ·exact nit c _ z
theorem Inv.tok(I:Inv X pins B H s)(t:Nat):Inv X pins B H {s with toks:=t}:=I.un (h':=s.heap) (t':=t) Un.refl I.hok
theorem Inv.kept{t':Nat}(I:Inv X pins B H s)(k:∀b u,s.heap.get? b=some u->h'.get? b=some u):Inv X pins B H {s with heap:=h',toks:=t'}:=I.un (Un.kept k) (I.hok.kept k)
theorem Inv.laid{a:Addr}{o:HO}{t':Nat}(I:Inv X pins B H s)(k:∀b u,s.heap.get? b=some u->h'.get? b=some u)(hp:s.heap.objs.size<=a)(new:ObjOk X.prog X.w (upd H a o) h' a o):
  Inv X pins B (upd H a o) {s with heap:=h',toks:=t'}:=I.un (Un.laid k hp (I.hok.fresh hp)) (I.hok.laid k hp new)
theorem Inv.write{x e:Addr}{o:HO}{t':Nat}(I:Inv X pins B H s)(mu:Mut (H x))(he:e=x\/H e=some (.own x))(k:∀b u,b≠e->s.heap.get? b=some u->h'.get? b=some u)(heo:∃u,h'.get? e=some u)
  (new:ObjOk X.prog X.w (upd H x o) h' x o):Inv X pins B (upd H x o) {s with heap:=h',toks:=t'}:=I.un (Un.write mu he k heo) (I.hok.write mu he k heo new)
theorem Inv.pins_of{pins':QS}(I:Inv X pins B H s)(h:∀p∈pins',s.heap.get? p.1=some p.2/\H p.1=none/\p.1≠X.env.locals/\p.1∉X.fs/\∀v,p.2.data≠.cell v):Inv X pins' B H s:=
 ⟨I.ok,I.os,I.bare,I.base,I.loc,I.cell,I.free,I.freeC,fun p hp=>(Xb.mp hp).elim (fun z=>I.pin p (List.mem_append_left _ z)) (h p),I.hok,I.len⟩
theorem Mw{N:List Str}(hN:N.Nodup){i j:Nat}{x:Str}(a:N[i]?=some x)(b:N[j]?=some x):i=j:=by
 obtain⟨h1,e1⟩:=WL.mp a;obtain⟨h2,e2⟩:=WL.mp b;exact((List.getElem_inj hN).mp (e1.trans e2.symm))
theorem FY{M:Model}{A:Around}{E:OK}{i:Nat}{x:Str}{v:V}{u:Value}{Q:Unit->Shared->Prop}(I:Inv X pins B H s)(hN:X.N.Nodup)(hi:X.N[i]?=some x)(hx:Loc X.env.scope x)(r:RelV v u)
  (h:∀s',Inv X pins (B.set i (some v)) H s'->(∃a,Heap.SameBut a s.heap s'.heap/\(a=X.env.locals\/X.env.cells.lookup x=some a))->Q () s') (hf:X.fn x=true\/X.env.scope.names.lookup x=some .local:=by first|exact .inl rfl|exact .inr rfl|assumption):wpAny M A (storeName X.env x u) Q E s:=by
 obtain⟨m,hn,hl⟩:=id I.loc;have hcls:(X.env.scope.kind==.class||(X.env.scope.kind==.module&&X.env.locals !=X.env.globals))=false:=by rw[I.ok.kind];rfl
 have Zf:i<B.length:=by rw[I.len];exact(WL.mp hi).1
 have cne:=I.cne;have tracked:∀{a:Addr} {h':Heap},(∃o,s.heap.get? a=some o/\H a=none)->Heap.SameBut a s.heap h'->HOk X.prog X.w H h':=fun{a h'} ha hs b ob e=>by
  obtain⟨_,_,hfree⟩:=ha;refine((I.hok b ob e).stay (fun c w' hc q=>(hs.2 c ?_).trans q) (fun _ q=>q) fun _ _ q=>q);rintro rfl;rcases hc with rfl|hc
  ·rw[hfree] at e;cases e
  ·rw[hfree] at hc;cases hc
 rcases hx with hk|hk
 ·refine wpAny_storeName_local hk hn (fun h' hn' hs=>?_) hcls;obtain⟨oL,_,_,hoL,_⟩:=id hn;refine(h _ ⟨I.ok,I.os,I.bare,⟨fun b o e n hb hx=>?_,fun b o e n hb hx=>?_,I.base.free,fun b o e hx=>?_,I.base.tups,I.base.frzs,I.base.tbls⟩,⟨_,hn',fun j y v' e1 e2 e3=>?_⟩,fun y c e=>?_,I.free,I.freeC,fun p hp=>?_,tracked ⟨oL,hoL,I.free⟩ hs,by simpa using I.len⟩ ⟨_,hs,.inl rfl⟩)
  ·exact(hs.2 b (W8 (WZ (WN e) I.ok.above))).trans (I.base.keep b o e n hb hx)
  ·obtain⟨sl,e1⟩:=I.base.slot b o e n hb hx;exact⟨sl,(hs.2 b (W8 (WZ (WN e) I.ok.above))).trans e1⟩
  ·obtain⟨o',e1⟩:=I.base.there b o e hx;exact⟨o',(hs.2 b (W8 (WZ (WN e) I.ok.above))).trans e1⟩
  ·by_cases hj:j=i
   ·subst hj;rw[hi] at e1;cases e1;rw[List.getElem?_set_self Zf] at e2;cases e2;exact⟨u,r,.inl ⟨hk,by simp⟩⟩
   ·rw[Xf (Ne.symm hj)] at e2;obtain⟨u',r',q⟩:=hl j y v' e1 e2 e3;refine(⟨u',r',?_⟩);rcases q with⟨k,e⟩|⟨k,c,e,z⟩
    ·refine .inl ⟨k,?_⟩;have:y≠x:=fun e=>hj (Mw hN e1 (e▸hi));simp[this,e]
    ·exact .inr ⟨k,c,e,z.sameBut hs (cne y c e)⟩
  ·obtain⟨w',z⟩:=I.cell y c e;exact⟨w',z.sameBut hs (cne y c e)⟩
  ·obtain⟨e,n,ne,nf,d⟩:=I.pin p hp;exact⟨(hs.2 p.1 ne).trans e,n,ne,nf,d⟩
 ·have hfn:X.fn x=true:=by
   rcases hf with z|z
   ·exact z
   ·rw[z] at hk;cases hk
  obtain⟨c,hc⟩:=I.ok.has x (.inl hk);obtain⟨w',z⟩:=I.cell x c hc;refine(wpAny_storeName_cell I.ok.kind hk hc z (fun h' hc' hs=>?_));obtain⟨oc,hoc,hocd⟩:=id z;refine(h {s with heap:=h'} ⟨I.ok,I.os,I.bare,⟨fun b o e n hb hx=>?_,fun b o e n hb hx=>?_,I.base.free,fun b o e hx=>?_,I.base.tups,I.base.frzs,I.base.tbls⟩,⟨m,hn.sameBut hs (Ne.symm (cne x c hc)),fun j y v' e1 e2 e3=>?_⟩,fun y c' e=>?_,I.free,I.freeC,fun p hp=>?_,tracked ⟨oc,hoc,I.freeC x c hc⟩ hs,by simpa using I.len⟩ ⟨c,hs,.inr hc⟩)
  ·exact(hs.2 b (W8 (WZ (WN e) (I.ok.cab x c hfn hc)))).trans (I.base.keep b o e n hb hx)
  ·obtain⟨sl,e1⟩:=I.base.slot b o e n hb hx;exact⟨sl,(hs.2 b (W8 (WZ (WN e) (I.ok.cab x c hfn hc)))).trans e1⟩
  ·obtain⟨o',e1⟩:=I.base.there b o e hx;exact⟨o',(hs.2 b (W8 (WZ (WN e) (I.ok.cab x c hfn hc)))).trans e1⟩
  ·by_cases hj:j=i
   ·subst hj;rw[hi] at e1;cases e1;rw[List.getElem?_set_self Zf] at e2;cases e2;exact⟨u,r,.inr ⟨.inl hk,c,hc,hc'⟩⟩
   ·rw[Xf (Ne.symm hj)] at e2;obtain⟨u',r',q⟩:=hl j y v' e1 e2 e3;refine(⟨u',r',?_⟩);rcases q with q|⟨k,c',e,z'⟩
    ·exact .inl q
    ·refine .inr ⟨k,c',e,z'.sameBut hs ?_⟩;rintro rfl;exact hj (Mw hN e1 (I.ok.inj _ _ _ e hc▸hi))
  ·by_cases hcc:c'=c
   ·subst hcc;exact⟨_,hc'⟩
   ·obtain⟨w2,z2⟩:=I.cell y c' e;exact⟨w2,z2.sameBut hs hcc⟩
  ·obtain⟨e,n,ne,nf,d⟩:=I.pin p hp;refine⟨(hs.2 p.1 ?_).trans e,n,ne,nf,d⟩;intro q;rw[q,hoc] at e;have q':oc=p.2:=Xa e;exact d w' (by rw[←q'];exact hocd)
theorem FE{M:Model}{A:Around}{E:OK}{i:Nat}{x:Str}{v:V}{u:Value}{Q:Unit->Shared->Prop}(I:Inv X pins B H s)(hN:X.N.Nodup)(hi:X.N[i]?=some x)(hx:Loc X.env.scope x)(r:RelV v u)
  (h:∀s',Inv X pins (B.set i (some v)) H s'->Q () s') (hf:X.fn x=true\/X.env.scope.names.lookup x=some .local:=by first|exact .inl rfl|exact .inr rfl|assumption):wpAny M A (storeName X.env x u) Q E s:=
 FY I hN hi hx r (fun s' I' _=>h s' I') hf
theorem Inv.call'{s':Shared}{ch:List Addr}(I:Inv X pins B H s)(ho:s'.os=s.os)(u:Un (frs X.stack) ch H H' s.heap s'.heap)(hok:HOk X.prog X.w H' s'.heap)(hg:AllBare s'.gens)
  (hch:∀b∈ch,(b∈X.ex\/X.Z2.heap.objs.size<=b)/\b≠X.env.locals/\(∀x c,X.env.cells.lookup x=some c->c≠b)/\∀p∈X.pn++pins,p.1≠b):Inv X pins B H' s':=by
 obtain⟨h',g',d',t',o'⟩:=s';have e:o'=s.os:=ho;subst e;exact(I.call (g':=g') (t':=t') (d':=d') u hok hg hch)
end
abbrev XK:=Value->Option Addr->Hp->Prop
abbrev St:=List (Option V)
abbrev VK:=V->Hp->Prop
abbrev TE:=St->Hp->VK->Prop
abbrev TT:=St->Hp->(Bool->Hp->Prop)->Prop
abbrev TA:=St->Hp->(List V->Hp->Prop)->Prop
structure Ends where
 nx:St->Hp->Prop
 rt:VK
 bk:St->Hp->Prop:=fun _ _=>False
 ct:St->Hp->Prop:=fun _ _=>False
abbrev TS:=Ends->St->Hp->Prop
def EP(X:Cx)(pins:QS)(B:St)(Q:VK)(u:Value)(s':Shared):Prop:=∃v H',Inv X pins B H' s'/\RelV v u/\Q v H'
def TP(X:Cx)(pins:QS)(B:St)(Q:Bool->Hp->Prop)(b:Bool)(s':Shared):Prop:=∃H',Inv X pins B H' s'/\Q b H'
def AP(X:Cx)(pins:QS)(B:St)(Q:List V->Hp->Prop)(us:List Value)(s':Shared):Prop:=∃vs H',Inv X pins B H' s'/\Vals vs us/\Q vs H'
def SP(X:Cx)(pins:QS)(D:Ends)(f:Flow)(s':Shared):Prop:=
 match f with
 | .next=>∃ZZ H',Inv X pins ZZ H' s'/\D.nx ZZ H'
 | .brk=>∃ZZ H',Inv X pins ZZ H' s'/\D.bk ZZ H'
 | .cont=>∃ZZ H',Inv X pins ZZ H' s'/\D.ct ZZ H'
 | .ret u=>∃v ZZ H',Inv X pins ZZ H' s'/\RelV v u/\D.rt v H'
def PE(X:Cx)(e:Expr)(t:TE):Prop:=
 ∀(pins:QS) (s:Shared) (B:St) (H:Hp) (Q:VK),Inv X pins B H s->t B H Q->wpAny (model X.prog X.w) X.A (eval e X.env) (EP X pins B Q) X.xe s
def PT(X:Cx)(e:Expr)(t:TT):Prop:=
 ∀(pins:QS) (s:Shared) (B:St) (H:Hp) (Q:Bool->Hp->Prop),Inv X pins B H s->t B H Q->wpAny (model X.prog X.w) X.A (isTrue e X.env (eval e X.env)) (TP X pins B Q) X.xe s
def PW(X:Cx)(e:Expr)(t:TT):Prop:=
 ∀(whole:Sem Value) (pins:QS) (s:Shared) (B:St) (H:Hp) (Q:Bool->Hp->Prop),Inv X pins B H s->t B H Q->wpAny (model X.prog X.w) X.A (isTrue e X.env whole) (TP X pins B Q) X.xe s
def PW.pt{X:Cx}{e:Expr}{t:TT}(h:PW X e t):PT X e t:=h _
def PA(X:Cx)(es:List Expr)(t:TA):Prop:=
 ∀(pos:Pos) (pins:QS) (s:Shared) (B:St) (H:Hp) (Q:List V->Hp->Prop),Inv X pins B H s->t B H Q->wpAny (model X.prog X.w) X.A (spliced (backTo pos (starEach es X.env))) (AP X pins B Q) X.xe s
def PS(X:Cx)(st:Stmt)(t:TS):Prop:=
 ∀(pins:QS) (s:Shared) (B:St) (H:Hp) (D:Ends),Inv X pins B H s->t D B H->wpAny (model X.prog X.w) X.A (exec st X.env) (SP X pins D) X.xe s
def PSs(X:Cx)(st:List Stmt)(t:TS):Prop:=
 ∀(pins:QS) (s:Shared) (B:St) (H:Hp) (D:Ends),Inv X pins B H s->t D B H->wpAny (model X.prog X.w) X.A (execs st X.env) (SP X pins D) X.xe s
def thn{J:Type}{t:Sem J}{Q Q':J->Shared->Prop}{M:Model}{A:Around}{E:OK}{s:Shared}(h:wpAny M A t Q E s)(hQ:∀a s,Q a s->Q' a s):wpAny M A t Q' E s:=WO h hQ fun _ _ x=>x
section
variable {X:Cx}
def Ke(i:Nat):TE:=fun B H Q=>∃v,B[i]?=some (some v)/\Q v H
def tC(v:V):TE:=fun _ H Q=>Q v H
theorem LG{i:Nat}{x:Str}{pos:Pos}(hN:X.N[i]?=some x)(hv:Vis X.env.scope x)(hd:(x==("__debug__":Str))=false:=by decide) (hcd:(x==("__classdict__":Str))=false:=by decide):PE X (.Name x pos) (Ke i):=by
 intro pins s B H Q I h;obtain⟨v,e,h⟩:=h;obtain⟨m,hn,hl⟩:=I.loc;obtain⟨u,r,l⟩:=hl i x v hN e hv;have fin:EP X pins B Q u s:=⟨v,H,I,r,h⟩
 rcases l with⟨hk,hm⟩|⟨hk,c,hc,hcell⟩
 ·exact wpAny_Name (wpAny_loadName_local I.ok.kind hk hn hm fin) hd
 ·rcases hk with hk|hk
  ·exact wpAny_Name (wpAny_loadName_cell I.ok.kind hk hc hcell fin) hd
  ·exact wpAny_Name (wpAny_loadName_free I.ok.kind hk hc hcell fin hcd) hd
theorem OC{i j pos}:PE X (.Constant (.int i) j pos) (tC (.int i)):=fun _ _ _ H _ I h=>wpAny_Constant_int ⟨.int i,H,I.tok _,⟨_,rfl⟩,h⟩
theorem Qx{b j pos}:PE X (.Constant (.bool b) j pos) (tC (.bl b)):=fun _ _ _ H _ I h=>Constant_bool ⟨.bl b,H,I,rfl,h⟩
theorem V3{j pos}:PE X (.Constant .none j pos) (tC .non):=fun _ _ _ H _ I h=>Constant_none ⟨.non,H,I,rfl,h⟩
theorem K5{x j pos}:PE X (.Constant (.str x) j pos) (tC (.str x)):=fun _ _ _ H _ I h=>Calls.Constant_str ⟨.str x,H,I.tok _,⟨_,rfl⟩,h⟩
def Gl(X:Cx)(x:Str):Prop:=X.env.kindOf x=some .globalImplicit
theorem zj{E:OK}{pins:QS}{s:Shared}{B:St}{H:Hp}{x:Str}{u:Value}{pos:Pos}{Q:OK}(I:Inv X pins B H s)(hg:Gl X x)(hm:X.mg x=some u)(h:Q u s)
  (hd:(x==("__debug__":Str))=false:=by decide):wpAny (model X.prog X.w) X.A (eval (.Name x pos) X.env) Q E s:=
 Calls.Name_function_global I.ok.kind hg (Calls.loadGlobal_global (by rw[I.ok.glob];exact I.mod.glob.keeps I.bk) hm h) hd
theorem vn{E:OK}{pins:QS}{s:Shared}{B:St}{H:Hp}{x:Str}{u:Value}{pos:Pos}{Q:OK}(I:Inv X pins B H s)(hg:Gl X x)(hm:X.mg x=none)(hv:bootBuiltins x=some u)(h:Q u s)
  (hn:x≠"__name__":=by decide) (hd:(x==("__debug__":Str))=false:=by decide):wpAny (model X.prog X.w) X.A (eval (.Name x pos) X.env) Q E s:=by
 obtain⟨mb,h1,h2⟩:=I.mod.blt;exact Calls.Name_function_global I.ok.kind hg (Calls.loadGlobal_builtin (by rw[I.ok.glob];exact I.mod.glob.keeps I.bk) hm (by rw[I.ok.blt];exact h1.keeps I.bk) ((h2 x hn).trans hv) h) hd
theorem QR{x:Str}{v:V}{u:Value}{pos:Pos}(hg:Gl X x)(hm:X.mg x=some u)(r:RelV v u)(hd:(x==("__debug__":Str))=false:=by decide):PE X (.Name x pos) (tC v):=
 fun _ _ _ H _ I h=>zj I hg hm ⟨v,H,I,r,h⟩ hd
theorem AU{x:Str}{v:V}{u:Value}{pos:Pos}(hg:Gl X x)(hm:X.mg x=none)(hv:bootBuiltins x=some u)(r:RelV v u)(hn:x≠"__name__":=by decide) (hd:(x==("__debug__":Str))=false:=by decide):PE X (.Name x pos) (tC v):=
 fun _ _ _ H _ I h=>vn I hg hm hv ⟨v,H,I,r,h⟩ hn hd
variable {a b:Expr} {ta tb:TE} {pos:Pos}
def PC(X:Cx)(op:CmpOp)(a b:Expr)(t:TE):Prop:=
 ∀(pins:QS) (s:Shared) (B:St) (H:Hp) (Q:VK),Inv X pins B H s->t B H Q->
  wpAny (model X.prog X.w) X.A (eval a X.env) (fun v ZT=>wpAny (model X.prog X.w) X.A (eval b X.env) (fun u ZJ=>wpAny (model X.prog X.w) X.A (compareOp op v u) (EP X pins B Q) X.xe ZJ) X.xe ZT) X.xe s
theorem QX(b:Expr){op:CmpOp}(h:op≠.In)(h2:op≠.NotIn):behindInMarks op b=false:=by
 have e1:(op==CmpOp.In)=false:=by cases op<;>first|rfl|exact absurd rfl h
 have e2:(op==CmpOp.NotIn)=false:=by cases op<;>first|rfl|exact absurd rfl h2
 cases b<;>simp[behindInMarks,e1,e2]
def tB(t:TE):TT:=fun B H Q=>t B H fun x H1=>∃c,x=.bl c/\Q c H1
theorem QQ{op:CmpOp}{t:TE}(h:PC X op a b t)(h1:behindInMarks op b=false:=by first|exact QX _ (by decide) (by decide)|rfl):PT X (.Compare a [op] [b] pos) (tB t):=by
 intro pins s B H Q I hw;refine wpAny_isTrue_Compare1 (thn (h pins s B H _ I hw) fun v s1 h1=>thn h1 fun u s2 h2=>thn h2 fun c s3 hm=>?_) h1;obtain⟨x,H1,I1,r1,q1⟩:=hm;obtain⟨d,rfl,q⟩:=q1;cases r1;exact(Xx ⟨H1,I1,q⟩)
theorem Ux{e:Expr}{t:TE}(h:PE X e t)(he:∀whole,isTrue e X.env whole=(do let v ←whole;standAt e.pos;holding [v] (truthy v)):=by intro _;rfl):PT X e (tB t):=by
 intro pins s B H Q I hw;refine isTrue_plain (thn (h pins s B H _ I hw) fun v s1 hm=>?_) (he _);obtain⟨x,H1,I1,r1,q1⟩:=hm;obtain⟨d,rfl,q⟩:=q1;cases r1;exact(Xx ⟨H1,I1,q⟩)
variable {tA tB':TT} {rA:List Expr}
def Jl(t u:TT):TT:=fun B H Q=>t B H fun c H1=>if c=true then u B H1 Q else Q false H1
def tOr(t u:TT):TT:=fun B H Q=>t B H fun c H1=>if c=true then Q true H1 else u B H1 Q
def Ni(t:TT):TT:=fun B H Q=>t B H fun c H1=>Q (!c) H1
theorem R0(ha:PT X a tA):PW X (.BoolOp .And [a] pos) tA:=by
 intro wh pins s B H Q I h;refine isTrue_and (thn (ha pins s B H Q I h) fun c s1 e=>?_);cases c with
 |true=>exact isTrue_and_nil e
 |false=>exact e
theorem Vd(ha:PT X a tA):PW X (.BoolOp .Or [a] pos) tA:=by
 intro wh pins s B H Q I h;refine isTrue_or (thn (ha pins s B H Q I h) fun c s1 e=>?_);cases c with
 |false=>exact isTrue_or_nil e
 |true=>exact e
theorem V8(ha:PT X a tA)(hb:PW X (.BoolOp .And (b::rA) pos) tB'):PW X (.BoolOp .And (a::b::rA) pos) (Jl tA tB'):=by
 intro wh pins s B H Q I h;refine isTrue_and (thn (ha pins s B H _ I h) fun c s1 hm=>?_);obtain⟨H1,I1,q1⟩:=hm;cases c with
 |true=>exact hb wh pins s1 B H1 Q I1 q1
 |false=>exact⟨H1,I1,q1⟩
theorem Pu(ha:PT X a tA)(hb:PW X (.BoolOp .Or (b::rA) pos) tB'):PW X (.BoolOp .Or (a::b::rA) pos) (tOr tA tB'):=by
 intro wh pins s B H Q I h;refine isTrue_or (thn (ha pins s B H _ I h) fun c s1 hm=>?_);obtain⟨H1,I1,q1⟩:=hm;cases c with
 |true=>exact⟨H1,I1,q1⟩
 |false=>exact hb wh pins s1 B H1 Q I1 q1
theorem IC(ha:PT X a tA):PT X (.UnaryOp .Not a pos) (Ni tA):=by
 intro pins s B H Q I h;exact isTrue_not (ha pins s B H (fun c H1=>Q (!c) H1) I h)
def Tk(ta tb:TE):TE:=fun B H Q=>ta B H fun x H1=>∃c,x=.bl c/\if c=true then tb B H1 Q else Q (.bl false) H1
def V5(ta tb:TE):TE:=fun B H Q=>ta B H fun x H1=>∃c,x=.bl c/\if c=true then Q (.bl true) H1 else tb B H1 Q
def UX(ta:TE):TE:=fun B H Q=>ta B H fun x H1=>∃c,x=.bl c/\Q (.bl (!c)) H1
theorem TM{op}{t:TE}(h:PE X a t):PE X (.BoolOp op [a] pos) t:=fun pins s B H Q I hw=>BoolOp_one (h pins s B H Q I hw)
theorem Qw(ha:PE X a ta)(hb:PE X (.BoolOp .And (b::rA) pos) tb):PE X (.BoolOp .And (a::b::rA) pos) (Tk ta tb):=by
 intro pins s B H Q I h;refine BoolOp_and (thn (ha pins s B H _ I h) fun v s1 hm=>?_);obtain⟨x,H1,I1,r1,q1⟩:=hm;obtain⟨c,rfl,q1⟩:=q1;cases r1;refine(Xx ?_);cases c with
 |true=>exact hb pins s1 B H1 Q I1 q1
 |false=>exact⟨.bl false,H1,I1,rfl,q1⟩
theorem M6(ha:PE X a ta)(hb:PE X (.BoolOp .Or (b::rA) pos) tb):PE X (.BoolOp .Or (a::b::rA) pos) (V5 ta tb):=by
 intro pins s B H Q I h;refine BoolOp_or (thn (ha pins s B H _ I h) fun v s1 hm=>?_);obtain⟨x,H1,I1,r1,q1⟩:=hm;obtain⟨c,rfl,q1⟩:=q1;cases r1;refine(Xx ?_);cases c with
 |false=>exact hb pins s1 B H1 Q I1 q1
 |true=>exact⟨.bl true,H1,I1,rfl,q1⟩
theorem Sw(ha:PE X a ta):PE X (.UnaryOp .Not a pos) (UX ta):=by
 intro pins s B H Q I h;refine UnaryOp_ (thn (ha pins s B H _ I h) fun v s1 hm=>?_);obtain⟨x,H1,I1,r1,q1⟩:=hm;obtain⟨c,rfl,q1⟩:=q1;cases r1;exact(not_of (Xx ⟨.bl (!c),H1,I1,rfl,q1⟩))
def tIf(t:TT)(ta tb:TE):TE:=fun B H Q=>t B H fun c H1=>if c=true then ta B H1 Q else tb B H1 Q
theorem PM{c:Expr}(hc:PT X c tA)(ha:PE X a ta)(hb:PE X b tb):PE X (.IfExp c a b pos) (tIf tA ta tb):=by
 intro pins s B H Q I h;refine wpAny_IfExp (thn (hc pins s B H _ I h) fun d s1 hm=>?_);obtain⟨H1,I1,q1⟩:=hm;cases d with
 |true=>exact ha pins s1 B H1 Q I1 q1
 |false=>exact hb pins s1 B H1 Q I1 q1
end
def SqL(K:Frag)(H:Hp)(a:Addr)(xs:List V):Prop:=
 Rd H a (.lst xs)\/
  ∃(o:Obj) (its:Array Value) (n:Nat),K.lookup a=some o/\o.cls=.type "list"/\o.dict=none/\o.data=.seq its n/\its.size<=sizeLine/\Vals xs its.toList
def SqT(K:Frag)(H:Hp)(a:Addr)(xs:List V):Prop:=
 Rd H a (.tup xs)\/
  ∃(o:Obj) (its:Array Value) (n:Nat),K.lookup a=some o/\o.cls=.type "tuple"/\o.data=.seq its n/\its.size<=sizeLine/\Vals xs its.toList
def UW:Value->Option V
 | .none=>some .non
 | .bool b=>some (.bl b)
 | .int i _=>some (.int i)
 | .str x _=>some (.str x)
 | .bytes b _=>some (.byt b)
 | .float b _=>some (.flt b)
 | .ref a=>some (.ref a)
 | .type n=>some (.ty n)
 |_=>none
def RelV.abs{x:V}{u:Value}(r:RelV x u):UW u=some x:=by
 cases x with
 |non=>cases r;rfl
 |bl _=>cases r;rfl
 |int _=>obtain⟨t,rfl⟩:=r;rfl
 |str _=>obtain⟨t,rfl⟩:=r;rfl
 |byt _=>obtain⟨t,rfl⟩:=r;rfl
 |flt _=>obtain⟨t,rfl⟩:=r;rfl
 |ref _=>cases r;rfl
 |ty _=>cases r;rfl
def RelV.inj{x y:V}{u:Value}(r:RelV x u)(q:RelV y u):x=y:=Xa (r.abs.symm.trans q.abs)
theorem Vals.inj:∀{xs ys:List V} {us:List Value},Vals xs us->Vals ys us->xs=ys
 |_,_,_,.nil,.nil=>rfl
 |_,_,_,.cons r t,.cons r' t'=>by rw[r.inj r',Vals.inj t t']
section
variable {X:Cx} {pins:QS} {B:St} {H:Hp} {s:Shared} {a:Addr} {xs ys:List V}
theorem SqL.of{K:Frag}(h:H a=some (.lst xs)):SqL K H a xs:=.inl (.inl h)
theorem SqT.of{K:Frag}(h:H a=some (.tup xs)):SqT K H a xs:=.inl (.inl h)
theorem Inv.list(I:Inv X pins B H s)(h:SqL X.K H a xs):∃its:List Value,Vals xs its/\PlainL s.heap a its.toArray/\xs.length<=sizeLine:=by
 rcases h with h|⟨o,its,n,hk,hc,hd,hs,hz,r⟩
 ·obtain⟨z,its,n,r,e⟩:=h.ok I.hok;exact⟨its,r,⟨_,n,e,rfl,rfl,rfl⟩,z⟩
 ·refine⟨its.toList,r,⟨o,n,I.kIn a o hk,hc,hd,by simpa using hs⟩,?_⟩;have e:=r.length;simp only[X1] at e;omega
theorem Inv.tuple(I:Inv X pins B H s)(h:SqT X.K H a xs):∃its:List Value,Vals xs its/\IsTup s.heap a its.toArray/\xs.length<=sizeLine:=by
 rcases h with h|⟨o,its,n,hk,hc,hs,hz,r⟩
 ·obtain⟨z,its,r,p⟩:=h.ok I.hok;exact⟨its,r,p,z⟩
 ·refine⟨its.toList,r,⟨o,I.kIn a o hk,hc,n,by simpa using hs⟩,?_⟩;have e:=r.length;simp only[X1] at e;omega
theorem Inv.list_inj(I:Inv X pins B H s)(h:SqL X.K H a xs)(h':SqL X.K H a ys):xs=ys:=by
 obtain⟨its,r,⟨o,n,e,_,_,d⟩,_⟩:=I.list h;obtain⟨its',r',⟨o',n',e',_,_,d'⟩,_⟩:=I.list h';rw[e] at e';cases e';rw[d] at d';injection d' with d1 _
 have:its=its':=by simpa using congrArg Array.toList d1
 subst this;exact r.inj r'
theorem Inv.tuple_inj(I:Inv X pins B H s)(h:SqT X.K H a xs)(h':SqT X.K H a ys):xs=ys:=by
 obtain⟨its,r,⟨o,e,_,n,d⟩,_⟩:=I.tuple h;obtain⟨its',r',⟨o',e',_,n',d'⟩,_⟩:=I.tuple h';rw[e] at e';cases e';rw[d] at d';injection d' with d1 _
 have:its=its':=by simpa using congrArg Array.toList d1
 subst this;exact r.inj r'
end
abbrev Cx.wish(X:Cx)(E:OK):Cx:={X with xe:=E}
abbrev Cx.nox(X:Cx):Cx:=X.wish fun _ _=>False
def Cx.Ok.wish{X:Cx}(ok:X.Ok)(E:OK):(X.wish E).Ok:=
 ⟨ok.mod,ok.kind,ok.glob,ok.blt,ok.above,ok.inj,ok.has,ok.cab,ok.hd,ok.frames,ok.stk,ok.exf,ok.bs,ok.bsz,ok.noex,ok.exfs,ok.funs,ok.frf⟩
def Cx.Ok.unwish{X:Cx}{E:OK}(ok:(X.wish E).Ok):X.Ok:=
 ⟨ok.mod,ok.kind,ok.glob,ok.blt,ok.above,ok.inj,ok.has,ok.cab,ok.hd,ok.frames,ok.stk,ok.exf,ok.bs,ok.bsz,ok.noex,ok.exfs,ok.funs,ok.frf⟩
section
variable {X:Cx} {pins:QS} {B:St} {H:Hp} {s:Shared} {E:OK}
theorem Inv.wish(I:Inv X pins B H s)(E:OK):Inv (X.wish E) pins B H s:=⟨I.ok.wish E,I.os,I.bare,I.base,I.loc,I.cell,I.free,I.freeC,I.pin,I.hok,I.len⟩
theorem Inv.unwish(I:Inv (X.wish E) pins B H s):Inv X pins B H s:=⟨I.ok.unwish,I.os,I.bare,I.base,I.loc,I.cell,I.free,I.freeC,I.pin,I.hok,I.len⟩
theorem SP.unwish{D:Ends}{f:Flow}{s':Shared}(h:SP (X.wish E) pins D f s'):SP X pins D f s':=by
 cases f with
 |next=>obtain⟨ZZ,H',I,q⟩:=h;exact⟨ZZ,H',I.unwish,q⟩
 |brk=>obtain⟨ZZ,H',I,q⟩:=h;exact⟨ZZ,H',I.unwish,q⟩
 |cont=>obtain⟨ZZ,H',I,q⟩:=h;exact⟨ZZ,H',I.unwish,q⟩
 |ret u=>obtain⟨v,ZZ,H',I,r,q⟩:=h;exact⟨v,ZZ,H',I.unwish,r,q⟩
theorem PE.nox{e:Expr}{t:TE}(h:PE X.nox e t):PE X e t:=fun pins s B H Q I hw=>
 WO (h pins s B H Q (I.wish _) hw) (fun _ _ ⟨v,H',I',r,q⟩=>⟨v,H',I'.unwish,r,q⟩) fun _ _ z=>False.elim z
theorem PT.nox{e:Expr}{t:TT}(h:PT X.nox e t):PT X e t:=fun pins s B H Q I hw=>
 WO (h pins s B H Q (I.wish _) hw) (fun _ _ ⟨H',I',q⟩=>⟨H',I'.unwish,q⟩) fun _ _ z=>False.elim z
theorem PSs.nox{st:List Stmt}{t:TS}(h:PSs X.nox st t):PSs X st t:=fun pins s B H D I hw=>
 WO (h pins s B H D (I.wish _) hw) (fun _ _ q=>q.unwish) fun _ _ z=>False.elim z
end
section
variable {X:Cx} {st:Stmt} {rA:List Stmt} {t u:TS} {e:Expr} {te:TE} {pos:Pos}
def O4:TS:=fun D B H=>D.nx B H
def UU(t u:TS):TS:=fun D B H=>t {D with nx:=u D} B H
theorem Og:PSs X [] O4:=fun _ _ B H _ I h=>wpAny_execs_nil ⟨B,H,I,h⟩
theorem GQ(h1:PS X st t)(h2:PSs X rA u):PSs X (st::rA) (UU t u):=by
 intro pins s B H D I h;refine wpAny_execs_cons (thn (h1 pins s B H {D with nx:=u D} I h) fun f s1 q=>?_);cases f with
 |next=>
  obtain⟨ZZ,H',I',q⟩:=q;exact h2 pins s1 ZZ H' D I' q
 |ret v=>exact q
 |brk=>exact q
 |cont=>exact q
theorem K4(h1:PS X st t):PSs X [st] t:=by
 intro pins s B H D I h;refine wpAny_execs_cons (thn (h1 pins s B H D I h) fun f s1 q=>?_);cases f with
 |next=>exact wpAny_execs_nil q
 |ret v=>exact q
 |brk=>exact q
 |cont=>exact q
theorem Inv.quiet{pins:QS}{B:St}{H:Hp}{s:Shared}(I:Inv X pins B H s):interactive X.env=false:=by simp[interactive,I.ok.kind]
def N7(te:TE):TS:=fun D B H=>te B H fun _ H1=>D.nx B H1
theorem Jm(he:PE X e te)(hs:swapsWith e none pos.line X.env=pure false:=by rfl):PS X (.Expr e pos) (N7 te):=by
 intro pins s B H D I h;exact wpAny_Expr_any (thn (he pins s B H _ I h) fun v s1 ⟨x,H1,I1,r1,q1⟩=>⟨B,H1,I1,q1⟩) I.quiet hs
def P5(te:TE):TS:=fun D B H=>te B H D.rt
theorem Mo(he:PE X e te):PS X (.Return (some e) pos) (P5 te):=by
 intro pins s B H D I h;exact wpAny_Return_some (thn (he pins s B H _ I h) fun v s1 ⟨x,H1,I1,r1,q1⟩=>⟨x,B,H1,I1,r1,q1⟩)
def OQ(c:TT)(t u:TS):TS:=fun D B H=>c B H fun b H1=>if b=true then t D B H1 else u D B H1
theorem MB{c:Expr}{a b:List Stmt}{tc:TT}(hc:PT X c tc)(ha:PSs X a t)(hb:PSs X b u):PS X (.If c a b pos) (OQ tc t u):=by
 intro pins s B H D I h;refine wpAny_If (thn (hc pins s B H _ I h) fun d s1 hm=>?_);obtain⟨H1,I1,q1⟩:=hm;cases d with
 |true=>exact ha pins s1 B H1 D I1 q1
 |false=>exact hb pins s1 B H1 D I1 q1
end
abbrev TG:=V->St->Hp->(St->Hp->Prop)->Prop
abbrev TGs:=List V->St->Hp->(St->Hp->Prop)->Prop
def PG(X:Cx)(target:Expr)(t:TG):Prop:=
 ∀(pins:QS) (s:Shared) (B:St) (H:Hp) (v:V) (u:Value) (Q:St->Hp->Prop),Inv X pins B H s->RelV v u->t v B H Q->
  wpAny (model X.prog X.w) X.A (assign target X.env u) (fun _ s'=>∃ZZ H',Inv X pins ZZ H' s'/\Q ZZ H') X.xe s
def PGs(X:Cx)(ts:List Expr)(t:TGs):Prop:=
 ∀(pins:QS) (s:Shared) (B:St) (H:Hp) (vs:List V) (us:List Value) (Q:St->Hp->Prop),Inv X pins B H s->Vals vs us->t vs B H Q->
  wpAny (model X.prog X.w) X.A (assignInOrder ((assignEach ts X.env).map (·.2)) us) (fun _ s'=>∃ZZ H',Inv X pins ZZ H' s'/\Q ZZ H') X.xe s
abbrev C2:=V->V->V->Hp->(Hp->Prop)->Prop
def KU(X:Cx)(t:C2):Prop:=
 ∀(pins:QS) (s:Shared) (B:St) (H:Hp) (o i v:V) (ov iv u:Value) (Q:Hp->Prop),Inv X pins B H s->RelV o ov->RelV i iv->RelV v u->t o i v H Q->
  wpAny (model X.prog X.w) X.A (setItem ov iv u) (fun _ s'=>∃H',Inv X pins B H' s'/\Q H') X.xe s
abbrev TIp:=V->V->Hp->VK->Prop
def PIp(X:Cx)(op:Operator)(t:TIp):Prop:=
 ∀(pins:QS) (s:Shared) (B:St) (H:Hp) (x y:V) (v u:Value) (Q:VK),Inv X pins B H s->RelV x v->RelV y u->t x y H Q->
  wpAny (model X.prog X.w) X.A (inplaceOp op v u) (EP X pins B Q) X.xe s
section
variable {X:Cx} {pos:Pos}
def El(i:Nat):TG:=fun v B H Q=>Q (B.set i (some v)) H
theorem OA{i:Nat}{x:Str}(hN:X.N.Nodup)(hi:X.N[i]?=some x)(hx:Loc X.env.scope x)(hf:X.fn x=true\/X.env.scope.names.lookup x=some .local:=by first|exact .inl rfl|exact .inr rfl|assumption):PG X (.Name x pos) (El i):=by
 intro pins s B H v u Q I r h;exact wpAny_assign_Name (FE I hN hi hx r (fun s' I'=>⟨_,H,I',h⟩) hf)
def Sn:TGs:=fun vs B H Q=>vs=[]/\Q B H
def QU(t:TG)(u:TGs):TGs:=fun vs B H Q=>∃v r,vs=v::r/\t v B H fun ZZ H'=>u r ZZ H' Q
theorem Tg:PGs X [] Sn:=by
 intro pins s B H vs us Q I r h;obtain⟨e,h⟩:=h;subst e;cases r;exact(assignInOrder_nil ⟨B,H,I,h⟩)
theorem RD{e:Expr}{es:List Expr}{t:TG}{u:TGs}(h1:PG X e t)(h2:PGs X es u)
  (hs:(assignEach (e::es) X.env).map (·.2)=assign e X.env::(assignEach es X.env).map (·.2):=by rfl):PGs X (e::es) (QU t u):=by
 intro pins s B H vs us Q I r h;obtain⟨v,vr,e1,h⟩:=h;subst e1;cases r with
 |cons r rr=>
  rw[hs];refine assignInOrder_cons (thn (h1 pins s B H _ _ _ I r h) fun _ s1 hm=>?_);obtain⟨ZI,H1,I1,q1⟩:=hm;exact(h2 pins s1 ZI H1 _ _ Q I1 rr q1)
def HM(K:Frag)(n:Nat)(t:TGs):TG:=fun v B H Q=>∃a xs,v=.ref a/\SqT K H a xs/\xs.length=n/\t xs B H Q
theorem NM{es:List Expr}{k:Nat}{t:TGs}{n:Nat}(hc:X.calm=true)(h:PGs X es t)
  (hn:(assignEach es X.env).length=n:=by rfl) (hst:(assignEach es X.env).findIdx? (·.1)=none:=by rfl):PG X (.Tuple es k pos) (HM X.K n t):=by
 intro pins s B H v u Q I r hw;obtain⟨a,xs,e1,hq,hl,hw⟩:=hw;subst e1;cases r;obtain⟨its,rv,ht,hz⟩:=I.tuple hq;refine(assign_Tuple_tuple (I.ok.hd hc) ht (by simp[hn,←hl,rv.length]) hst fun h' hx=>?_);have I1:Inv X pins B H {s with heap:=h'}:=I.kept (t':=s.toks) fun b o e=>hx b o (W8 (WN e)) e;exact h pins _ B H xs _ Q I1 (by simpa using rv) hw
def Ub(to ti:TE)(t:C2):TG:=fun v B H Q=>to B H fun o H1=>ti B H1 fun i H2=>t o i v H2 fun H3=>Q B H3
theorem P9{o i:Expr}{to ti:TE}{t:C2}(ho:PE X o to)(hi:PE X i ti)(hs:KU X t)
  (ha:∀v,assign (.Subscript o i pos) X.env v=(do
   let ov ←holding [v] (eval o X.env)
   let iv ←holding [v,ov] (eval i X.env)
   standAt pos
   holding [v,ov,iv] (setItem ov iv v)
   release [v,ov,iv] []):=by intro _;rfl):PG X (.Subscript o i pos) (Ub to ti t):=by
 intro pins s B H v u Q I r h;rw[ha];refine WH (XV (thn (ho pins s B H _ I h) fun ov s1 hm=>?_));obtain⟨x,H1,I1,r1,q1⟩:=hm;refine(WH (XV (thn (hi pins s1 B H1 _ I1 q1) fun iv s2 hm=>?_)));obtain⟨y,H2,I2,r2,q2⟩:=hm;refine(WH (XW (WH (XV (thn (hs pins s2 B H2 x y v ov iv u _ I2 r1 r2 r q2) fun _ s3 hm=>?_)))));obtain⟨H3,I3,q3⟩:=hm;exact(wpAny_release ⟨B,H3,I3,q3⟩)
def C6(te:TE)(g:TG):TS:=fun D B H=>te B H fun x H1=>g x B H1 D.nx
theorem OL{tg e:Expr}{te:TE}{g:TG}(he:PE X e te)(hg:PG X tg g)(hs:swapsWithSole [tg] e pos.line X.env=pure false:=by rfl)(hw:swappedStores [tg] e X.env=pure none:=by rfl)
  (h1:(assignEach [tg] X.env).map (·.2)=[assign tg X.env]:=by rfl):PS X (.Assign [tg] e pos) (C6 te g):=by
 intro pins s B H D I h;refine wpAny_Assign_stores (thn (he pins s B H _ I h) fun v s1 hm=>?_) hs hw;obtain⟨x,H1,I1,r1,q1⟩:=hm;rw[h1];exact thn (hg pins s1 B H1 x v _ I1 r1 q1) fun _ s2 q=>q
theorem GZ{i:Nat}{x:Str}{e:Expr}{te:TE}{pos':Pos}(hN:X.N.Nodup)(hi:X.N[i]?=some x)(hx:Loc X.env.scope x)(he:PE X e te)(hs:swapsWith e (some (.Name x pos')) pos.line X.env=pure false:=by rfl)(hf:X.fn x=true\/X.env.scope.names.lookup x=some .local:=by first|exact .inl rfl|exact .inr rfl|assumption):
  PS X (.Assign [.Name x pos'] e pos) (C6 te (El i)):=by
 intro pins s B H D I h;refine wpAny_Assign_Name (thn (he pins s B H _ I h) fun v s1 hm=>?_) hs;obtain⟨y,H1,I1,r1,q1⟩:=hm;exact(FE I1 hN hi hx r1 (fun s2 I2=>⟨_,H1,I2,q1⟩) hf)
def UE(i:Nat)(te:TE)(ti:TIp):TS:=fun D B H=>∃x,B[i]?=some (some x)/\te B H fun y H1=>ti x y H1 fun z H2=>D.nx (B.set i (some z)) H2
theorem Sm{i:Nat}{x:Str}{e:Expr}{te:TE}{op:Operator}{ti:TIp}{pos':Pos}(hN:X.N.Nodup)(hi:X.N[i]?=some x)(hx:Loc X.env.scope x)(he:PE X e te)(ho:PIp X op ti)(hf:X.fn x=true\/X.env.scope.names.lookup x=some .local:=by first|exact .inl rfl|exact .inr rfl|assumption):
  PS X (.AugAssign (.Name x pos') op e pos) (UE i te ti):=by
 intro pins s B H D I h;obtain⟨v,e1,h⟩:=h;obtain⟨m,hn,hl⟩:=I.loc;have vis:Vis X.env.scope x:=by rcases hx with k|k;exact .inl k;exact .inr (.inl k)
 obtain⟨u,r,l⟩:=hl i x v hi e1 vis;refine(wpAny_AugAssign_Name ?_);have go:wpAny (model X.prog X.w) X.A (eval e X.env) (fun w ZJ=>wpAny (model X.prog X.w) X.A (inplaceOp op u w) (fun r ZL=>wpAny (model X.prog X.w) X.A (storeName X.env x r) (fun _=>SP X pins D .next) X.xe ZL) X.xe ZJ) X.xe s:=by
  refine thn (he pins s B H _ I h) fun w s1 hm=>?_;obtain⟨y,H1,I1,r1,q1⟩:=hm;refine(thn (ho pins s1 B H1 v y u w _ I1 r r1 q1) fun z s2 hm=>?_);obtain⟨zv,H2,I2,r2,q2⟩:=hm;exact(FE I2 hN hi hx r2 (fun s3 I3=>⟨_,H2,I3,q2⟩) hf)
 rcases l with⟨hk,hm⟩|⟨hk,c,hc,hcell⟩
 ·exact wpAny_loadName_local I.ok.kind hk hn hm go
 ·rcases hk with hk|hk
  ·exact wpAny_loadName_cell I.ok.kind hk hc hcell go
  ·rcases hx with k|k
   ·have:X.env.scope.names.lookup x=some .free:=hk;rw[k] at this;cases this
   ·have:X.env.scope.names.lookup x=some .free:=hk;rw[k] at this;cases this
def ipI(f:Int->Int->Int):TIp:=fun x y H Q=>∃i j,x=.int i/\y=.int j/\Q (.int (f i j)) H
theorem Wn:PIp X .Add (ipI fun i j=>i+j):=by
 intro pins s B H x y v u Q I r1 r2 h;obtain⟨i,j,e1,e2,q⟩:=h;subst e1;subst e2;obtain⟨t,rfl⟩:=r1;obtain⟨t',rfl⟩:=r2;exact(iadd_int ⟨.int _,H,I.tok _,⟨_,rfl⟩,q⟩)
end
section
variable {X:Cx} {pos:Pos}
def Q8(c:TT)(tb:TS):TS:=fun D B H=>∃W:Nat->St->Hp->Prop,(∃m,W m B H)/\∀m B H,W m B H->
 c B H fun b H1=>if b=true then ∃N:St->Hp->Prop,(∀ZZ H',N ZZ H'->∃m',m'<m/\W m' ZZ H')/\tb {D with nx:=N,ct:=N,bk:=D.nx} B H1 else D.nx B H1
theorem UM{c:Expr}{body:List Stmt}{tc:TT}{tb:TS}(hp:PassesOwn (model X.prog X.w) X.A X.env X.xe)(hc:PT X c tc)(hb:PSs X body tb):PS X (.While c body [] pos) (Q8 tc tb):=by
 intro pins s B H D I h;obtain⟨W,⟨m0,w0⟩,turn⟩:=h;refine(wpAny_While (codeAny_whileLoop (fun n s'=>∃ZZ H',Inv X pins ZZ H' s'/\W n ZZ H') ?_ m0 ⟨B,H,I,w0⟩));rintro n s1 ⟨ZI,H1,I1,w1⟩;refine X9 hp (thn (hc pins s1 ZI H1 _ I1 (turn n ZI H1 w1)) fun b s2 hm=>?_);obtain⟨H2,I2,q2⟩:=hm;cases b with
 |true=>
  obtain⟨N,hN,q2⟩:=q2;rw[if_pos rfl];refine X9 hp (thn (hb pins s2 ZI H2 _ I2 q2) fun f s3 q3=>?_);cases f with
  |next=>
   obtain⟨ZH,H3,I3,n3⟩:=q3;obtain⟨m',hm,w3⟩:=hN ZH H3 n3;exact⟨m',hm,ZH,H3,I3,w3⟩
  |cont=>
   obtain⟨ZH,H3,I3,n3⟩:=q3;obtain⟨m',hm,w3⟩:=hN ZH H3 n3;exact⟨m',hm,ZH,H3,I3,w3⟩
  |brk=>exact q3
  |ret v=>exact q3
 |false=>
  rw[if_neg X6];exact wpAny_execs_nil ⟨ZI,H2,I2,q2⟩
end
structure It where
 go:Nat->Hp->Prop
 yld:Nat->Hp->V->Hp->Prop
 stop:Nat->Hp->Prop
def sE(X:Cx)(pins:QS)(H:Hp)(b:Addr):Prop:=
 H b=none/\b≠X.env.locals/\b∉X.fs/\(b∈X.ex\/X.Z2.heap.objs.size<=b)/\(∀x c,X.env.cells.lookup x=some c->c≠b)/\∀p∈X.pn++pins,p.1≠b
def Inv.fpOk{X:Cx}{pins:QS}{B:St}{H H':Hp}{s:Shared}{b:Addr}(I:Inv X pins B H s)(hb:s.heap.objs.size<=b)(hn:H' b=none):sE X pins H' b:=by
 refine⟨hn,Yn (WZ I.lt hb),I.nofs hb,.inr (Xo I.sz hb),fun x c e z=>?_,fun p hp z=>?_⟩
 ·obtain⟨v,q⟩:=I.cell x c e;exact absurd (WZ q.lt (by rw[z];exact hb)) (Xp _)
 ·exact absurd (WZ (WN (I.pin p hp).1) (by rw[z];exact hb)) (Xp _)
structure Turn (P:Program) (w:World) (K:Frag) (tg:Expr) (Z6:It) (fp:List Addr) (it:Addr) (tn:Nat->Heap->Prop):Prop where
 mem:it∈fp
 obj:∀i h,tn i h->∀b∈fp,∃o,h.get? b=some o/\∀v,o.data≠.cell v
 keep:∀i h h',tn i h->(∀b∈fp,∀o,h.get? b=some o->h'.get? b=some o)->tn i h'
 item:∀(X:Cx),X.prog=P->X.w=w->X.K=K->X.calm=true->∀(i:Nat) (pins:QS) (s:Shared) (B:St) (H:Hp) (E:OK),Inv X pins B H s->(∀b∈fp,sE X pins H b)->tn i s.heap->Z6.go i H->
  wpAny (model P w) X.A (pyNext (.ref it)) (fun r s1=>∃u,r=some u/\
   wpAny (model P w) X.A (letOwnedTupleGo tg (.ref it) u) (fun _ s2=>∃x H',Inv X pins B H' s2/\RelV x u/\Z6.yld i H x H'/\tn (i+1) s2.heap/\∀b∈fp,H' b=none) E s1) E s
 done:∀(X:Cx),X.prog=P->X.w=w->X.K=K->X.calm=true->∀(i:Nat) (pins:QS) (s:Shared) (B:St) (H:Hp) (E:OK),Inv X pins B H s->(∀b∈fp,sE X pins H b)->tn i s.heap->Z6.stop i H->
  wpAny (model P w) X.A (pyNext (.ref it)) (fun r s1=>r=none/\Inv X pins B H s1) E s
 self:∀(A:Around) (i:Nat) (s:Shared) (Q:OK) (E:OK),tn i s.heap->Q (.ref it) s->wpAny (model P w) A (pyIter (.ref it)) Q E s
abbrev TI:=St->Hp->(It->Hp->Prop)->Prop
def PIE(X:Cx)(pins:QS)(B:St)(tg:Expr)(R:It->Hp->Prop)(itv:Value)(s2:Shared):Prop:=
 ∃(it:Addr) (fp:List Addr) (tn:Nat->Heap->Prop) (Z6:It) (H':Hp),itv=.ref it/\Inv X pins B H' s2/\Turn X.prog X.w X.K tg Z6 fp it tn/\tn 0 s2.heap/\(∀b∈fp,sE X pins H' b)/\R Z6 H'
def PI(X:Cx)(tg iter:Expr)(wi:TI):Prop:=
 ∀(pins:QS) (s:Shared) (B:St) (H:Hp) (R:It->Hp->Prop),Inv X pins B H s->wi B H R->
  wpAny (model X.prog X.w) X.A (eval iter X.env) (fun v s1=>wpAny (model X.prog X.w) X.A (pyIter v) (PIE X pins B tg R) X.xe s1) X.xe s
theorem Dm{M:Model}{A:Around}{E:OK}{s:Shared}{tg:Expr}{it:Addr}{u:Value}{o:Obj}{n:String}{vs:Array Value}{Q:Unit->Shared->Prop}(ho:s.heap.get? it=some o)(hc:o.cls=.type n)(hd:o.data=.fields vs)
  (hn:["enumerate","zip","dict_itemiterator","dict_reverseitemiterator","odict_iterator","itertools.zip_longest","itertools.pairwise"].contains n=false) (hQ:Q () s):wpAny M A (letOwnedTupleGo tg (.ref it) u) Q E s:=by
 unfold letOwnedTupleGo;cases tg<;>first
  |exact WM hQ
  |(cases u<;>first
    |exact WM hQ
    |(refine WH (wpAny_load ho ?_);rw[hc,hd];show wpAny M A (if(["enumerate","zip","dict_itemiterator","dict_reverseitemiterator","odict_iterator","itertools.zip_longest","itertools.pairwise"].contains n&&vs[0]?==some (rawInt _))=true then _ else _) Q E s;rw[if_neg (by intro h;rw[hn,Bool.false_and] at h;cases h)];exact WM hQ))
def Itl(K:Frag)(a:Addr):It:=
 ⟨fun i H=>∃xs x,SqL K H a xs/\xs[i]?=some x,fun i H x H'=>H'=H/\∀xs,SqL K H a xs->xs[i]?=some x,fun i H=>∃xs,SqL K H a xs/\xs.length<=i⟩
def Itt(K:Frag)(a:Addr):It:=
 ⟨fun i H=>∃xs x,SqT K H a xs/\xs[i]?=some x,fun i H x H'=>H'=H/\∀xs,SqT K H a xs->xs[i]?=some x,fun i H=>∃xs,SqT K H a xs/\xs.length<=i⟩
def Itr(lo:Int)(n:Nat):It:=⟨fun i _=>i<n,fun i H x H'=>H'=H/\x=.int (lo+i),fun i _=>n<=i⟩
theorem VP{P:Program}{w:World}{K:Frag}{tg:Expr}(a it:Addr):Turn P w K tg (Itl K a) [it] it (fun i h=>h.IsListIter it a i) where
 mem:=by simp
 obj:=fun i h st b hb=>by
  have e:b=it:=by simpa using hb
  subst e;obtain⟨o,e,c,d⟩:=st;exact⟨o,e,fun v z=>by rw[d] at z;cases z⟩
 keep:=fun i h h' st k=>st.at fun o e=>k it (by simp) o e
 item:=by
  intro X hP hw hK hc i pins s B H E I hf st hg;subst hP hw hK;obtain⟨xs,x,hq,hx⟩:=hg;obtain⟨its,rv,p,hz⟩:=I.list hq;obtain⟨u,hu,ru⟩:=rv.get hx;obtain⟨f0,f1,f2,f3,f4,f5⟩:=hf it (by simp);refine(wpAny_pyNext_list_item st p.isList (x:=u) (by simpa using hu) fun h' st' sb=>?_);have I1:Inv X pins B H {s with heap:=h'}:=I.turned (t':=s.toks) (fun b o hb e=>(sb.2 b hb).trans e) f0 f1 f3 f4 f5;obtain⟨o,e,c,d⟩:=id st';exact⟨u,rfl,Dm (s:={s with heap:=h'}) e c d (by decide) ⟨x,H,I1,ru,⟨rfl,fun ys hy=>by rw[I.list_inj hy hq];exact hx⟩,st',fun b hb=>(hf b hb).1⟩⟩
 done:=by
  intro X hP hw hK hc i pins s B H E I hf st hg;subst hP hw hK;obtain⟨xs,hq,hx⟩:=hg;obtain⟨its,rv,p,hz⟩:=I.list hq;obtain⟨f0,f1,f2,f3,f4,f5⟩:=hf it (by simp);have hl:=rv.length;exact wpAny_pyNext_list_end (I.ok.hd hc) st p.isList (by simp;omega) fun h' eb=>⟨rfl,I.turned (t':=s.toks) (fun b o hb e=>eb b o hb e) f0 f1 f3 f4 f5⟩
 self:=fun _ _ _ _ _ st h=>wpAny_pyIter_listiter st h
theorem Vq{P:Program}{w:World}{K:Frag}{tg:Expr}(a it:Addr):Turn P w K tg (Itt K a) [it] it (fun i h=>h.IsTupleIter it a i) where
 mem:=by simp
 obj:=fun i h st b hb=>by
  have e:b=it:=by simpa using hb
  subst e;obtain⟨o,e,c,d⟩:=st;exact⟨o,e,fun v z=>by rw[d] at z;cases z⟩
 keep:=fun i h h' st k=>st.at fun o e=>k it (by simp) o e
 item:=by
  intro X hP hw hK hc i pins s B H E I hf st hg;subst hP hw hK;obtain⟨xs,x,hq,hx⟩:=hg;obtain⟨its,rv,p,hz⟩:=I.tuple hq;obtain⟨u,hu,ru⟩:=rv.get hx;obtain⟨f0,f1,f2,f3,f4,f5⟩:=hf it (by simp);refine(wpAny_pyNext_tuple_item st (show s.heap.IsTuple a its.toArray from p) (x:=u) (by simpa using hu) fun h' st' sb=>?_);have I1:Inv X pins B H {s with heap:=h'}:=I.turned (t':=s.toks) (fun b o hb e=>(sb.2 b hb).trans e) f0 f1 f3 f4 f5;obtain⟨o,e,c,d⟩:=id st';exact⟨u,rfl,Dm (s:={s with heap:=h'}) e c d (by decide) ⟨x,H,I1,ru,⟨rfl,fun ys hy=>by rw[I.tuple_inj hy hq];exact hx⟩,st',fun b hb=>(hf b hb).1⟩⟩
 done:=by
  intro X hP hw hK hc i pins s B H E I hf st hg;subst hP hw hK;obtain⟨xs,hq,hx⟩:=hg;obtain⟨its,rv,p,hz⟩:=I.tuple hq;obtain⟨f0,f1,f2,f3,f4,f5⟩:=hf it (by simp);have hl:=rv.length;exact wpAny_pyNext_tuple_end (I.ok.hd hc) st (show s.heap.IsTuple a its.toArray from p) (by simp;omega) fun h' eb=>⟨rfl,I.turned (t':=s.toks) (fun b o hb e=>eb b o hb e) f0 f1 f3 f4 f5⟩
 self:=fun _ _ _ _ _ st h=>wpAny_pyIter_tupleiter st h
theorem HR{P:Program}{w:World}{K:Frag}{tg:Expr}(it:Addr)(lo:Int)(n:Nat):Turn P w K tg (Itr lo n) [it] it (fun i h=>IsRangeIter h it (lo+(i:Nat)*1) ((n:Int) - (i:Nat)) 1) where
 mem:=by simp
 obj:=fun i h st b hb=>by
  have e:b=it:=by simpa using hb
  subst e;exact⟨_,st,fun v z=>by
   have z':Data.fields _=Data.cell v:=z;cases z'⟩
 keep:=fun i h h' st k=>k it (by simp) _ st
 item:=by
  intro X hP hw hK hc i pins s B H E I hf st hg;subst hP hw hK;obtain⟨f0,f1,f2,f3,f4,f5⟩:=hf it (by simp);have W:=Walks.range (prog:=X.prog) (w:=X.w) (I.ok.hd hc) it lo 1 n;refine(W.item i s _ _ hg st fun v h' tk hv st' kk=>?_);obtain⟨t,rfl⟩:=hv;have I1:Inv X pins B H {s with heap:=h',toks:=tk}:=I.turned (fun b o hb e=>kk b o (by simpa using hb) e) f0 f1 f3 f4 f5;refine(⟨_,rfl,Dm (s:={s with heap:=h',toks:=tk}) (n:="range_iterator") st' rfl rfl (by decide) ⟨.int (lo+i),H,I1,⟨t,?_⟩,⟨rfl,rfl⟩,st',fun b hb=>(hf b hb).1⟩⟩);rw[Int.mul_one]
 done:=by
  intro X hP hw hK hc i pins s B H E I hf st hg;subst hP hw hK;obtain⟨f0,f1,f2,f3,f4,f5⟩:=hf it (by simp);exact wpAny_pyNext_range_end (I.ok.hd hc) st (by have:n<=i:=hg;omega) fun h' eb=>⟨rfl,I.turned (t':=s.toks) (fun b o hb e=>eb b o hb e) f0 f1 f3 f4 f5⟩
 self:=fun _ _ _ _ _ st h=>wpAny_pyIter_rangeiter st h
section
variable {X:Cx} {tg:Expr}
def Kc(K:Frag)(tl:TE):TI:=fun B H R=>tl B H fun x H1=>∃a,x=.ref a/\(∃xs,SqL K H1 a xs)/\R (Itl K a) H1
def KO(K:Frag)(tl:TE):TI:=fun B H R=>tl B H fun x H1=>∃a,x=.ref a/\(∃xs,SqT K H1 a xs)/\R (Itt K a) H1
theorem Ga{l:Expr}{tl:TE}(hl:PE X l tl):PI X tg l (Kc X.K tl):=by
 intro pins s B H R I h;refine thn (hl pins s B H _ I h) fun v s1 hm=>?_;obtain⟨x,H1,I1,r1,q1⟩:=hm;obtain⟨a,e,⟨xs,hq⟩,q⟩:=q1;subst e;cases r1;obtain⟨its,rv,p,hz⟩:=I1.list hq;refine(wpAny_pyIter_list p.isList ?_);refine⟨s1.heap.objs.size,[s1.heap.objs.size],_,_,H1,rfl,I1.kept (t':=s1.toks) fun b o e=>WK _ e,VP a _,⟨_,WR _ rfl,rfl,rfl⟩,fun b hb=>?_,q⟩;have e:b=s1.heap.objs.size:=by simpa using hb
 subst e;exact I1.fpOk (WJ _) (I1.hok.fresh (WJ _))
theorem Ps{l:Expr}{tl:TE}(hl:PE X l tl):PI X tg l (KO X.K tl):=by
 intro pins s B H R I h;refine thn (hl pins s B H _ I h) fun v s1 hm=>?_;obtain⟨x,H1,I1,r1,q1⟩:=hm;obtain⟨a,e,⟨xs,hq⟩,q⟩:=q1;subst e;cases r1;obtain⟨its,rv,p,hz⟩:=I1.tuple hq;refine(wpAny_pyIter_tuple (show s1.heap.IsTuple a its.toArray from p) ?_);refine⟨s1.heap.objs.size,[s1.heap.objs.size],_,_,H1,rfl,I1.kept (t':=s1.toks) fun b o e=>WK _ e,Vq a _,⟨_,WR _ rfl,rfl,rfl⟩,fun b hb=>?_,q⟩;have e:b=s1.heap.objs.size:=by simpa using hb
 subst e;exact I1.fpOk (WJ _) (I1.hok.fresh (WJ _))
theorem Da{pins:QS}{B:St}{H:Hp}{s:Shared}{R:It->Hp->Prop}{E:OK}{lo hi:Int}{t u v:Tok}{tk:Nat}(I:Inv X pins B H s)(h1:-(2^62)<=lo)(h2:lo<2^62)(h3:-(2^62)<=hi)(h4:hi<2^62)
  (q:R (Itr lo (hi - lo).toNat) H):wpAny (model X.prog X.w) X.A (pyIter (.ref s.heap.objs.size)) (PIE X pins B tg R) E {s with heap:=s.heap.push {cls:=.type "range",data:=.fields #[.int lo t,.int hi u,.int 1 v]},toks:=tk}:=by
 refine wpAny_pyIter_range (IsRange.new ..) (small_one h1 h2 h3 h4) ?_;have I1:Inv X pins B H {s with heap:=s.heap.push {cls:=.type "range",data:=.fields #[.int lo t,.int hi u,.int 1 v]},toks:=tk}:=I.kept fun b o e=>WK _ e;refine⟨(s.heap.push {cls:=.type "range",data:=.fields #[.int lo t,.int hi u,.int 1 v]}).objs.size,[(s.heap.push {cls:=.type "range",data:=.fields #[.int lo t,.int hi u,.int 1 v]}).objs.size],_,_,H,rfl,
  I1.kept (t':=tk) fun b o e=>WK _ e,HR _ lo (hi - lo).toNat,?_,fun b hb=>?_,q⟩
 ·have e1:lo+((0:Nat):Int)*1=lo:=by simp
  have e2:(((hi - lo).toNat:Nat):Int) - ((0:Nat):Int)=Builtin.Range.rangeSize lo hi 1:=by rw[rangeSize_one];split<;>omega
  show IsRangeIter _ _ (lo+((0:Nat):Int)*1) ((((hi - lo).toNat:Nat):Int) - ((0:Nat):Int)) 1;rw[e1,e2];exact WR _ rfl
 ·have e:b=(s.heap.push {cls:=.type "range",data:=.fields #[.int lo t,.int hi u,.int 1 v]}).objs.size:=by simpa using hb
  subst e;exact I1.fpOk (WJ _) (I1.hok.fresh (WJ _))
def HS(ta:TA):TI:=fun B H R=>ta B H fun vs H1=>∃j:Int,vs=[.int j]/\-(2^62)<=j/\j<2^62/\R (Itr 0 j.toNat) H1
def MA(ta:TA):TI:=fun B H R=>ta B H fun vs H1=>∃i j:Int,vs=[.int i,.int j]/\(-(2^62)<=i/\i<2^62/\-(2^62)<=j/\j<2^62)/\R (Itr i (j - i).toNat) H1
theorem PR{a:Expr}{ta:TA}{p pos:Pos}(hg:Gl X "range") (hm:X.mg "range"=none) (ha:PA X [a] ta) (hs:starEach [a] X.env=[(false,eval a X.env)]:=by rfl):PI X tg (.Call (.Name "range" p) [a] [] pos) (HS ta):=by
 intro pins s B H R I h;refine Call_ (vn I hg hm boot_range (Xy (thn (ha pos pins s B H _ I h) fun us s1 hm=>?_) hs rfl));obtain⟨vs,H1,I1,r1,q1⟩:=hm;obtain⟨j,e,q1,q2,q⟩:=q1;subst e;cases r1 with
 |cons r rr=>
  cases rr;obtain⟨t,rfl⟩:=r;exact(call_range_1 (Da I1 (by omega) (by omega) q1 q2 (by simpa using q)))
theorem Tn{a b:Expr}{ta:TA}{p pos:Pos}(hg:Gl X "range") (hm:X.mg "range"=none) (ha:PA X [a,b] ta) (hs:starEach [a,b] X.env=[(false,eval a X.env),(false,eval b X.env)]:=by rfl) (hs2:starEach [b] X.env=[(false,eval b X.env)]:=by rfl):
  PI X tg (.Call (.Name "range" p) [a,b] [] pos) (MA ta):=by
 intro pins s B H R I h;refine Call_ (vn I hg hm boot_range (Xy (thn (ha pos pins s B H _ I h) fun us s1 hm=>?_) (by rw[hs,hs2]) (by rw[hs2];rfl)));obtain⟨vs,H1,I1,r1,q1⟩:=hm;obtain⟨i,j,e,⟨q1,q2,q3,q4⟩,q⟩:=q1;subst e;cases r1 with
 |cons r rr=>
  cases rr with
  |cons r' rr=>
   cases rr;obtain⟨t,rfl⟩:=r;obtain⟨t',rfl⟩:=r';exact(call_range_2 (Da I1 q1 q2 q3 q4 q))
def SS(wi:TI)(g:TG)(tb:TS):TS:=fun D B H=>wi B H fun Z6 H1=>∃W:Nat->Nat->St->Hp->Prop,(∃m,W 0 m B H1)/\∀i m B H,W i m B H->
 (Z6.stop i H/\D.nx B H)\/(Z6.go i H/\∃N:St->Hp->Prop,(∀ZZ H',N ZZ H'->∃m',m'<m/\W (i+1) m' ZZ H')/\∀x H',Z6.yld i H x H'->g x B H' fun ZV H2=>tb {D with nx:=N,ct:=N,bk:=D.nx} ZV H2)
def wU(fp:List Addr)(h:Heap):QS:=fp.filterMap fun b=>(h.get? b).map fun o=>(b,o)
theorem vF{fp:List Addr}{h:Heap}{b:Addr}{o:Obj}(hb:b∈fp)(e:h.get? b=some o):(b,o)∈wU fp h:=List.mem_filterMap.mpr ⟨b,hb,by rw[e];rfl⟩
theorem SM{fp:List Addr}{h:Heap}{p:Addr×Obj}(hp:p∈wU fp h):p.1∈fp/\h.get? p.1=some p.2:=by
 obtain⟨b,hb,e⟩:=List.mem_filterMap.mp hp;cases q:h.get? b with
 |none=>rw[q] at e;cases e
 |some o=>
  rw[q] at e;have e':(b,o)=p:=Xa e;subst e';exact⟨hb,q⟩
theorem Inv.pinned{pins:QS}{B:St}{H:Hp}{s:Shared}{fp:List Addr}(I:Inv X pins B H s)(hf:∀b∈fp,sE X pins H b)(ho:∀b∈fp,∃o,s.heap.get? b=some o/\∀v,o.data≠.cell v):Inv X (pins++wU fp s.heap) B H s:=
 I.pins_of fun p hp=>(Xb.mp hp).elim (fun z=>I.pin p (WU _ z)) fun z=>by
  obtain⟨hb,e⟩:=SM z;obtain⟨f0,f1,f2,_⟩:=hf p.1 hb;obtain⟨o,e',d⟩:=ho p.1 hb;rw[e] at e';cases e';exact⟨e,f0,f1,f2,d⟩
theorem Inv.unpinned{pins pl:QS}{B:St}{H:Hp}{s:Shared}(I:Inv X (pins++pl) B H s):Inv X pins B H s:=I.pins_of fun p hp=>I.pin p (WU _ (List.mem_append_left _ hp))
theorem K1{iter:Expr}{body:List Stmt}{wi:TI}{g:TG}{tb:TS}{pos:Pos}(hp:PassesOwn (model X.prog X.w) X.A X.env X.xe)(hc:X.calm=true)(hi:PI X tg iter wi)(hg:PG X tg g)(hb:PSs X body tb)
  (hs:∀x,foldedSetIterable iter X.env x=pure x:=by intro _;rfl):PS X (.For tg iter body [] pos) (SS wi g tb):=by
 intro pins s B H D I h;refine wpAny_For (thn (hi pins s B H _ I h) fun v s1 h1=>thn h1 fun itv s2 h2=>?_) hs;obtain⟨it,fp,tn,Z6,H2,e,I2,T,st2,f2,W,⟨m0,w0⟩,turn⟩:=h2;subst e;have stat:∀{H':Hp},(∀b∈fp,H' b=none)->∀b∈fp,sE X pins H' b:=fun hn b hb=>⟨hn b hb,(f2 b hb).2⟩
 refine codeAny_forLoop_any (fun n s'=>∃i ZZ H',Inv X pins ZZ H' s'/\tn i s'.heap/\(∀b∈fp,H' b=none)/\W i n ZZ H') ?_ m0 ⟨0,B,H2,I2,st2,fun b hb=>(f2 b hb).1,w0⟩;rintro n s3 ⟨i,ZH,H3,I3,st3,fr3,w3⟩;rcases turn i n ZH H3 w3 with⟨stop,qn⟩|⟨go,N,hN,step⟩
 ·refine X9 hp (thn (T.done X rfl rfl rfl hc i pins s3 ZH H3 X.xe I3 (stat fr3) st3 stop) fun r s4 ⟨hr,I4⟩=>?_);subst hr;exact wpAny_execs_nil ⟨ZH,H3,I4,qn⟩
 ·refine X9 hp (thn (T.item X rfl rfl rfl hc i pins s3 ZH H3 X.xe I3 (stat fr3) st3 go) fun r s4 ⟨u,hr,h4⟩=>?_);subst hr;refine X9 hp (thn h4 fun _ s5 hm=>?_);obtain⟨x,H5,I5,r5,y5,st5,fr5⟩:=hm;have I5':=I5.pinned (stat fr5) (T.obj _ _ st5);refine(X9 hp (thn (hg _ s5 ZH H5 x u _ I5' r5 (step x H5 y5)) fun _ s6 hm=>?_));obtain⟨Zq,H6,I6,q6⟩:=hm;refine(X9 hp (thn (hb _ s6 Zq H6 _ I6 q6) fun f s7 q7=>?_));have again:∀{ZS:St} {H7:Hp},Inv X (pins++wU fp s5.heap) ZS H7 s7->N ZS H7->∃m,m<n/\∃i ZZ H',Inv X pins ZZ H' s7/\tn i s7.heap/\(∀b∈fp,H' b=none)/\W i m ZZ H':=fun{ZS H7} I7 n7=>by
   obtain⟨m',hm,w7⟩:=hN ZS H7 n7;refine(⟨m',hm,i+1,ZS,H7,I7.unpinned,T.keep _ _ _ st5 fun b hb o e=>(I7.pin (b,o) (WU _ (WU _ (vF hb e)))).1,fun b hb=>?_,w7⟩);obtain⟨o,e,d⟩:=T.obj _ _ st5 b hb;exact((I7.pin (b,o) (WU _ (WU _ (vF hb e)))).2.1)
  cases f with
  |next=>obtain⟨ZS,H7,I7,n7⟩:=q7;exact again I7 n7
  |cont=>obtain⟨ZS,H7,I7,n7⟩:=q7;exact again I7 n7
  |brk=>obtain⟨ZS,H7,I7,q7⟩:=q7;exact⟨ZS,H7,I7.unpinned,q7⟩
  |ret v=>obtain⟨x7,ZS,H7,I7,r7,q7⟩:=q7;exact⟨x7,ZS,H7,I7.unpinned,r7,q7⟩
end
abbrev R2:=V->V->Hp->VK->Prop
def OpR(X:Cx)(f:Value->Value->Sem Value)(r:R2):Prop:=
 ∀(pins:QS) (s:Shared) (B:St) (H:Hp) (x y:V) (v u:Value) (Q:VK),Inv X pins B H s->RelV x v->RelV y u->r x y H Q->
  wpAny (model X.prog X.w) X.A (f v u) (EP X pins B Q) X.xe s
def UnR(X:Cx)(f:Value->Sem Value)(r:V->Hp->VK->Prop):Prop:=
 ∀(pins:QS) (s:Shared) (B:St) (H:Hp) (x:V) (v:Value) (Q:VK),Inv X pins B H s->RelV x v->r x H Q->
  wpAny (model X.prog X.w) X.A (f v) (EP X pins B Q) X.xe s
def uY(X:Cx)(f:Value)(r:List V->Hp->VK->Prop):Prop:=
 ∀(pins:QS) (s:Shared) (B:St) (H:Hp) (xs:List V) (us:List Value) (Q:VK),Inv X pins B H s->Vals xs us->r xs H Q->
  wpAny (model X.prog X.w) X.A (call f us) (EP X pins B Q) X.xe s
def PX(X:Cx)(r:V->Hp->(Bool->Hp->Prop)->Prop):Prop:=
 ∀(pins:QS) (s:Shared) (B:St) (H:Hp) (x:V) (v:Value) (Q:Bool->Hp->Prop),Inv X pins B H s->RelV x v->r x H Q->
  wpAny (model X.prog X.w) X.A (truthy v) (TP X pins B Q) X.xe s
def tOp(r:R2)(ta tb:TE):TE:=fun B H Q=>ta B H fun x H1=>tb B H1 fun y H2=>r x y H2 Q
def tUn(r:V->Hp->VK->Prop)(ta:TE):TE:=fun B H Q=>ta B H fun x H1=>r x H1 Q
def rI(C:Int->Int->Prop)(g:Int->Int->V):R2:=fun x y H Q=>∃i j,x=.int i/\y=.int j/\C i j/\Q (g i j) H
def rI0(g:Int->Int->V):R2:=fun x y H Q=>∃i j,x=.int i/\y=.int j/\Q (g i j) H
def rU(g:Int->V):V->Hp->VK->Prop:=fun x H Q=>∃i,x=.int i/\Q (g i) H
section
variable {X:Cx} {a b:Expr} {ta tb:TE} {pos:Pos}
theorem DZ(ha:PE X a ta)(hb:PE X b tb){pins:QS}{s:Shared}{B:St}{H:Hp}{R:V->V->Hp->Prop}(I:Inv X pins B H s)
  (h:ta B H fun x H1=>tb B H1 fun y H2=>R x y H2) {Q:OK} {f:Value->Value->Sem Value}
  (hf:∀v u s2 x y H2,Inv X pins B H2 s2->RelV x v->RelV y u->R x y H2->wpAny (model X.prog X.w) X.A (f v u) Q X.xe s2):
  wpAny (model X.prog X.w) X.A (eval a X.env) (fun v ZT=>wpAny (model X.prog X.w) X.A (eval b X.env) (fun u ZJ=>wpAny (model X.prog X.w) X.A (f v u) Q X.xe ZJ) X.xe ZT) X.xe s:=by
 refine thn (ha pins s B H _ I h) fun v s1 hm=>?_;obtain⟨x,H1,I1,r1,q1⟩:=hm;refine(thn (hb pins s1 B H1 _ I1 q1) fun u s2 hm=>?_);obtain⟨y,H2,I2,r2,q2⟩:=hm;exact(hf v u s2 x y H2 I2 r1 r2 q2)
theorem ON{op:Operator}{r:R2}(ho:OpR X (binaryOp op) r)(ha:PE X a ta)(hb:PE X b tb):PE X (.BinOp a op b pos) (tOp r ta tb):=by
 intro pins s B H Q I h;exact wpAny_BinOp (DZ ha hb I h fun v u s2 x y H2 I2 rx ry q=>ho pins s2 B H2 x y v u Q I2 rx ry q)
theorem Vt{op:UnaryOp}{r:V->Hp->VK->Prop}(ho:UnR X (unaryOp op) r)(ha:PE X a ta):PE X (.UnaryOp op a pos) (tUn r ta):=by
 intro pins s B H Q I h;exact UnaryOp_ (thn (ha pins s B H _ I h) fun v s1 ⟨x,H1,I1,r1,q1⟩=>ho pins s1 B H1 x v Q I1 r1 q1)
theorem opI{f:Value->Value->Sem Value}{C:Int->Int->Prop}{g:Int->Int->Int}
  (rule:∀(i j:Int) (t u:Tok) (s:Shared) (Q:OK) (E:OK),C i j->Q (.int (g i j) s.toks) {s with toks:=s.toks+1}->wpAny (model X.prog X.w) X.A (f (.int i t) (.int j u)) Q E s):
  OpR X f (rI C fun i j=>.int (g i j)):=by
 intro pins s B H x y v u Q I rx ry h;obtain⟨i,j,rfl,rfl,hc,q⟩:=h;obtain⟨t,rfl⟩:=rx;obtain⟨t',rfl⟩:=ry;exact(rule i j t t' s _ _ hc ⟨.int (g i j),H,I.tok _,⟨_,rfl⟩,q⟩)
theorem GY{f:Value->Value->Sem Value}{g:Int->Int->Int}
  (rule:∀(i j:Int) (t u:Tok) (s:Shared) (Q:OK) (E:OK),Q (.int (g i j) s.toks) {s with toks:=s.toks+1}->wpAny (model X.prog X.w) X.A (f (.int i t) (.int j u)) Q E s):
  OpR X f (rI0 fun i j=>.int (g i j)):=by
 intro pins s B H x y v u Q I rx ry h;obtain⟨i,j,rfl,rfl,q⟩:=h;obtain⟨t,rfl⟩:=rx;obtain⟨t',rfl⟩:=ry;exact(rule i j t t' s _ _ ⟨.int (g i j),H,I.tok _,⟨_,rfl⟩,q⟩)
theorem E4{f:Value->Value->Sem Value}{g:Int->Int->Bool}
  (rule:∀(i j:Int) (t u:Tok) (s:Shared) (Q:OK) (E:OK),Q (.bool (g i j)) s->wpAny (model X.prog X.w) X.A (f (.int i t) (.int j u)) Q E s):
  OpR X f (rI0 fun i j=>.bl (g i j)):=by
 intro pins s B H x y v u Q I rx ry h;obtain⟨i,j,rfl,rfl,q⟩:=h;obtain⟨t,rfl⟩:=rx;obtain⟨t',rfl⟩:=ry;exact(rule i j t t' s _ _ ⟨.bl (g i j),H,I,rfl,q⟩)
def v6(i j:Int):Prop:=0<=j/\j<=1000000/\i.natAbs<2^64
def CMul(i j:Int):Prop:=(-(2^64)<i/\i<2^64)\/(-(2^64)<j/\j<2^64)
theorem CMul.ok{i j:Int}(h:CMul i j):IntMulOk i j:=by
 rcases h with⟨h1,h2⟩|⟨h1,h2⟩
 ·exact .of_left (intBits_le_64 h1 h2)
 ·exact .of_right (intBits_le_64 h1 h2)
theorem op_add:OpR X (binaryOp .Add) (rI0 fun i j=>.int (i+j)):=GY fun _ _ _ _ _ _ _ q=>add_int q
theorem VY:OpR X (binaryOp .Sub) (rI0 fun i j=>.int (i - j)):=GY fun _ _ _ _ _ _ _ q=>sub_int q
theorem op_mul:OpR X (binaryOp .Mult) (rI CMul fun i j=>.int (i*j)):=opI fun _ _ _ _ _ _ _ hc q=>mul_int q hc.ok
theorem U4:OpR X (binaryOp .Mod) (rI (fun _ j=>0<j) fun i j=>.int (i%j)):=opI fun i j _ _ _ _ _ hc q=>by
 have h1:(0:Int)<j:=hc;exact mod_int' (by omega) (by rw[Int.fmod_eq_emod_of_nonneg i (by omega)];exact q)
theorem QA:OpR X (binaryOp .Pow) (rI v6 fun i j=>.int (i^j.toNat)):=opI fun _ _ _ _ _ _ _ hc q=>pow_int_small hc.1 hc.2.1 hc.2.2 q
theorem unI{f:Value->Sem Value}{g:Int->Int}
  (rule:∀(i:Int) (t:Tok) (s:Shared) (Q:OK) (E:OK),Q (.int (g i) s.toks) {s with toks:=s.toks+1}->wpAny (model X.prog X.w) X.A (f (.int i t)) Q E s):
  UnR X f (rU fun i=>.int (g i)):=by
 intro pins s B H x v Q I rx h;obtain⟨i,rfl,q⟩:=h;obtain⟨t,rfl⟩:=rx;exact(rule i t s _ _ ⟨.int (g i),H,I.tok _,⟨_,rfl⟩,q⟩)
theorem Qc:UnR X (unaryOp .USub) (rU fun i=>.int (-i)):=unI fun _ _ _ _ _ q=>neg_int q
end
section
variable {X:Cx} {a b c:Expr} {ta tb tc:TE} {pos:Pos}
theorem DT{pins:QS}{B:St}{H:Hp}{s:Shared}{Q:VK}{k k':Bool}(I:Inv X pins B H s)(q:Q (.bl k) H)(e:k=k'):EP X pins B Q (.bool k') s:=by
 subst e;exact⟨.bl k,H,I,rfl,q⟩
theorem Ew:OpR X (compareOp .Lt) (rI0 fun i j=>.bl (decide (i<j))):=E4 fun _ _ _ _ _ _ _ q=>lt_int q
theorem KJ:OpR X (compareOp .LtE) (rI0 fun i j=>.bl (decide (i<=j))):=E4 fun _ _ _ _ _ _ _ q=>le_int q
theorem V9:OpR X (compareOp .Gt) (rI0 fun i j=>.bl (decide (j<i))):=E4 fun _ _ _ _ _ _ _ q=>gt_int q
theorem N6:OpR X (compareOp .Is) (fun x y H Q=>y=.non/\Q (.bl (decide (x=.non))) H):=by
 intro pins s B H x y v u Q I rx ry h;obtain⟨rfl,q⟩:=h;cases ry;refine(is_none_gen (DT I q ?_));cases x<;>first
  |(cases rx;rfl)
  |(obtain⟨t,rfl⟩:=rx;rfl)
theorem Ug:OpR X (compareOp .IsNot) (fun x y H Q=>y=.non/\Q (.bl (!decide (x=.non))) H):=by
 intro pins s B H x y v u Q I rx ry h;obtain⟨rfl,q⟩:=h;cases ry;refine(isnot_none_gen (DT I q ?_));cases x<;>first
  |(cases rx;rfl)
  |(obtain⟨t,rfl⟩:=rx;rfl)
theorem OpR.or{f:Value->Value->Sem Value}{r r':R2}(h:OpR X f r)(h':OpR X f r'):OpR X f (fun x y H Q=>r x y H Q\/r' x y H Q):=by
 intro pins s B H x y v u Q I rx ry q;rcases q with q|q
 ·exact h pins s B H x y v u Q I rx ry q
 ·exact h' pins s B H x y v u Q I rx ry q
theorem wl(b:Expr){op:CmpOp}(h:op≠.In:=by decide)(h2:op≠.NotIn:=by decide):behindInMarks op b=false:=by
 have e1:(op==CmpOp.In)=false:=by cases op<;>first|rfl|exact absurd rfl h
 have e2:(op==CmpOp.NotIn)=false:=by cases op<;>first|rfl|exact absurd rfl h2
 cases b<;>simp[behindInMarks,e1,e2]
theorem Pa{op:CmpOp}{r:R2}(ho:OpR X (compareOp op) r)(ha:PE X a ta)(hb:PE X b tb)(hm:behindInMarks op b=false):PE X (.Compare a [op] [b] pos) (tOp r ta tb):=by
 intro pins s B H Q I h;exact wpAny_Compare1 (DZ ha hb I h fun v u s2 x y H2 I2 rx ry q=>ho pins s2 B H2 x y v u Q I2 rx ry q) hm
def Dx(t:TE):TT:=fun B H Q=>t B H fun x H'=>∃k,x=.bl k/\Q k H'
theorem Tc{op:CmpOp}{r:R2}(ho:OpR X (compareOp op) r)(ha:PE X a ta)(hb:PE X b tb)(hm:behindInMarks op b=false):PT X (.Compare a [op] [b] pos) (Dx (tOp r ta tb)):=by
 intro pins s B H Q I h;refine wpAny_isTrue_Compare1 (thn (ha pins s B H _ I h) fun v s1 ⟨x,H1,I1,r1,q1⟩=>thn (hb pins s1 B H1 _ I1 q1) fun u s2 ⟨y,H2,I2,r2,q2⟩=>
  thn (ho pins s2 B H2 x y v u _ I2 r1 r2 q2) fun c s3 ⟨z,H3,I3,r3,k,e,q3⟩=>?_) hm
 subst e;cases r3;exact Xx ⟨H3,I3,q3⟩
def IU(r r':R2)(ta tb tc:TE):TE:=fun B H Q=>ta B H fun x H1=>tb B H1 fun y H2=>r x y H2 fun z H3=>∃k,z=.bl k/\
 (if k=true then tc B H3 fun w' H4=>r' y w' H4 Q else Q (.bl false) H3)
theorem Td{op op':CmpOp}{r r':R2}(ho:OpR X (compareOp op) r)(ho':OpR X (compareOp op') r')(ha:PE X a ta)(hb:PE X b tb)(hc:PE X c tc)
  (hm:lastMarks [op,op'] [b,c]=false:=by with_unfolding_all rfl):PT X (.Compare a [op,op'] [b,c] pos) (Dx (IU r r' ta tb tc)):=by
 intro pins s B H Q I h;refine isTrue_chain (thn (ha pins s B H _ I h) fun v s1 ⟨x,H1,I1,r1,q1⟩=>test_link (thn (hb pins s1 B H1 _ I1 q1) fun u s2 ⟨y,H2,I2,r2,q2⟩=>
  thn (ho pins s2 B H2 x y v u _ I2 r1 r2 q2) fun d s3 ⟨z,H3,I3,r3,k,e,q3⟩=>?_)) hm
 subst e;cases r3;refine Xx ?_;cases k with
 |false=>
  obtain⟨k',e',q'⟩:=q3;cases e';exact ite_ff ⟨H3,I3,q'⟩
 |true=>
  refine ite_tt (test_last (thn (hc pins s3 B H3 _ I3 q3) fun w' s4 ⟨z',H4,I4,r4,q4⟩=>thn (ho' pins s4 B H4 y z' u w' _ I4 r2 r4 q4) fun d' s5 hm=>?_));obtain⟨z2,H5,I5,r5,k2,e2,q5⟩:=hm;subst e2;cases r5;exact(Xx ⟨H5,I5,q5⟩)
def Eu(K:Frag)(x:V)(H:Hp)(k:Bool):Prop:=
 match x with
 | .non=>k=false
 | .bl b=>k=b
 | .int i=>k=(i !=0)
 | .str y=>y.length<=sizeLine/\k=((y.length:Int) !=0)
 | .byt y=>y.size<=sizeLine/\k=((y.size:Int) !=0)
 | .ref p=>(∃xs,SqL K H p xs/\k=!xs.isEmpty)\/(∃xs,SqT K H p xs/\k=!xs.isEmpty)\/∃kvs,H p=some (.dK kvs)/\k=!kvs.isEmpty
 |_=>False
theorem Wr{κ:Type}{kvs:List (κ×V)}{vs:List (κ×Value)}(r:KV kvs vs):(!vs.isEmpty)=!kvs.isEmpty:=by
 cases r<;>rfl
theorem Lf{xs:List V}{its:List Value}(r:Vals xs its):(!its.toArray.isEmpty)=!xs.isEmpty:=by
 cases r<;>simp
theorem yY:(sizeLine:Nat)<2^63:=by rw[Yf];decide
theorem Rl:PX X (fun x H Q=>∃k,Eu X.K x H k/\Q k H):=by
 intro pins s B H x v Q I rx h;obtain⟨k,e,q⟩:=h;have hl:=yY;have hs:sizeLine=16777216:=Yf;cases x with
 |non=>
  cases rx;have e':k=false:=e;subst e';exact truthy_none ⟨H,I,q⟩
 |bl b=>
  cases rx;have e':k=b:=e;subst e';exact Xx ⟨H,I,q⟩
 |int i=>
  obtain⟨t,rfl⟩:=rx;have e':k=(i !=0):=e;subst e';exact PySem.P.truthy_int ⟨H,I,q⟩
 |str y=>
  obtain⟨t,rfl⟩:=rx;obtain⟨hy,e'⟩:y.length<=sizeLine/\k=((y.length:Int) !=0):=e;subst e';exact PySem.P.truthy_str (by omega) ⟨H,I.tok _,q⟩
 |byt y=>
  obtain⟨t,rfl⟩:=rx;obtain⟨hy,e'⟩:y.size<=sizeLine/\k=((y.size:Int) !=0):=e;subst e';exact PySem.W.truthy_bytes (by omega) ⟨H,I.tok _,q⟩
 |ref p=>
  cases rx;have e':(∃xs,SqL X.K H p xs/\k=!xs.isEmpty)\/(∃xs,SqT X.K H p xs/\k=!xs.isEmpty)\/∃kvs,H p=some (.dK kvs)/\k=!kvs.isEmpty:=e;rcases e' with⟨xs,hx,e'⟩|⟨xs,hx,e'⟩|⟨kvs,hx,e'⟩
  ·subst e';obtain⟨its,r,pl,hz⟩:=I.list hx;have hlen:=r.length;exact wpAny_truthy_list pl.isList (by simp only[WW];omega) ⟨H,I.tok _,by rw[Lf r];exact q⟩
  ·subst e';obtain⟨its,r,pl,hz⟩:=I.tuple hx;have hlen:=r.length;exact truthy_tuple pl (by simp only[WW];omega) ⟨H,I.tok _,by rw[Lf r];exact q⟩
  ·subst e';obtain⟨hz,hS,vs,r,m⟩:kvs.length<=sizeLine/\(p==sysModules)=false/\∃vs,KV kvs vs/\s.heap.DictOf (ul X.prog X.w) p vs:=I.hok p _ hx;have hlen:kvs.length=vs.length:=Paired.length r;exact wpAny_truthy_dict hS m (by omega) ⟨H,I.tok _,by rw[Wr r];exact q⟩
 |_=>exact(show False from e).elim
theorem Ua(ha:PE X a ta)(he:∀whole,isTrue a X.env whole=(do let v ←whole;standAt a.pos;holding [v] (truthy v))):
  PT X a (fun B H Q=>ta B H fun x H'=>∃k,Eu X.K x H' k/\Q k H'):=by
 intro pins s B H Q I h;exact isTrue_plain (thn (ha pins s B H _ I h) fun v s1 ⟨x,H1,I1,r1,q1⟩=>Rl pins s1 B H1 x v Q I1 r1 q1) (he _)
theorem wE{x:V}{us:List Value}(r:Vals [x] us):∃u,us=[u]/\RelV x u:=by
 cases r with
 |cons r1 r2=>cases r2;exact⟨_,rfl,r1⟩
theorem A1{x y:V}{us:List Value}(r:Vals [x,y] us):∃u w',us=[u,w']/\RelV x u/\RelV y w':=by
 cases r with
 |cons r1 r2=>
  cases r2 with
  |cons r3 r4=>cases r4;exact⟨_,_,rfl,r1,r3⟩
theorem WA(hc:X.calm=true):uY X (.builtin "max") (fun xs H Q=>∃i j,xs=[.int i,.int j]/\Q (.int (if j>i then j else i)) H):=by
 intro pins s B H xs us Q I r h;obtain⟨i,j,rfl,q⟩:=h;obtain⟨u,w',rfl,⟨t,rfl⟩,⟨t',rfl⟩⟩:=A1 r;refine(max_two_ints (I.ok.hd hc) fun h' tk k=>⟨_,H,I.kept k,?_,q⟩);by_cases hj:j>i
 ·rw[if_pos hj,if_pos hj];exact⟨_,rfl⟩
 ·rw[if_neg hj,if_neg hj];exact⟨_,rfl⟩
theorem P7(hc:X.calm=true):uY X (.builtin "min") (fun xs H Q=>∃i j,xs=[.int i,.int j]/\Q (.int (if j<i then j else i)) H):=by
 intro pins s B H xs us Q I r h;obtain⟨i,j,rfl,q⟩:=h;obtain⟨u,w',rfl,⟨t,rfl⟩,⟨t',rfl⟩⟩:=A1 r;refine(min_two_ints (I.ok.hd hc) fun h' tk k=>⟨_,H,I.kept k,?_,q⟩);by_cases hj:j<i
 ·rw[if_pos hj,if_pos hj];exact⟨_,rfl⟩
 ·rw[if_neg hj,if_neg hj];exact⟨_,rfl⟩
theorem WC:uY X (.type "int") (fun xs H Q=>(∃i,xs=[.int i]/\Q (.int i) H)\/∃k,xs=[.bl k]/\Q (.int (if k then 1 else 0)) H):=by
 intro pins s B H xs us Q I r h;rcases h with⟨i,rfl,q⟩|⟨k,rfl,q⟩
 ·obtain⟨u,rfl,t,rfl⟩:=wE r;exact call_int_int ⟨.int i,H,I,⟨_,rfl⟩,q⟩
 ·obtain⟨u,rfl,r1⟩:=wE r;cases r1;exact call_int_bool ⟨.int (if k then 1 else 0),H,I.tok _,⟨_,rfl⟩,q⟩
end
structure ObjM (h:Heap) (x dx C:Addr) (mA:Str->Option Value):Prop where
 obj:h.get? x=some (PySem.W.instObj C dx)
 ns:h.Ns1 dx mA
 ne:dx≠x
def Rz{h:Heap}{dx:Addr}{mA:Str->Option Value}(n:h.Ns1 dx mA):∃od,h.get? dx=some od/\∀name,PySem.W.lookIn name od=some (mA name):=by
 obtain⟨o,es,ep,ho,hd,hk,_,hm⟩:=n;refine(⟨o,ho,fun name=>?_⟩);have e:=hm name;unfold nsFind findBy at e;rw[←Array.find?_toList] at e;unfold PySem.W.lookIn;rw[hd];dsimp only;split
 ·rename_i y q;rw[q] at e;exact congrArg some e
 ·rename_i q;rw[q] at e;have a:es.toList.any (·.refKey)=false:=by
   rw[List.any_eq_false];intro y hy;obtain⟨z,t,hkey⟩:=hk y (Array.mem_toList_iff.mp hy);simp[DictEntry.refKey,hkey]
  have a':¬es.toList.any (·.refKey)=true:=by rw[a];exact X6
  rw[if_neg a'];exact congrArg some e
def ObjM.look{h:Heap}{x dx C:Addr}{mA:Str->Option Value}(I:ObjM h x dx C mA):∃od,PySem.W.InstAt h x (PySem.W.instObj C dx) C (some od)/\∀name,PySem.W.lookIn name od=some (mA name):=
 let ⟨od,ho,hl⟩:=Rz I.ns
 ⟨od,⟨I.obj,rfl,rfl,ho⟩,hl⟩
section
variable {prog:Program} {w:World} {A:Around} {E:OK} {s:Shared} {K:Frag} {x dx C f:Addr} {mA:Str->Option Value} {name:Str} {v:Value}
theorem QZ{expr:Bool}{Q:OK}(X:K.In s.heap)(I:ObjM s.heap x dx C mA)(hg:PySem.W.plainGet K C name=true)(hh:PySem.W.hasDictIn K C=true)
  (ha:findIn K (.ref C) name=some none) (hv:mA name=some v) (hv':PySem.W.handedIn v=true) (h:Q v {s with toks:=s.toks+1}):
  wpAny (model prog w) A (getAttr (.ref x) name expr) Q E s:=by
 obtain⟨od,Z6,hl⟩:=I.look;exact(PySem.W.get_value X Z6 (PySem.W.plainGet_of hg).1 (PySem.W.findObj_own hh ha rfl (by rw[hl,hv])) hv' h)
theorem RP{pl:Sem Bool}{Q:Value×List Value->Shared->Prop}(X:K.In s.heap)(I:ObjM s.heap x dx C mA)(hg:PySem.W.plainGet K C name=true)
  (hf:findIn K (.ref C) name=some (some (.ref f))) (ht:isFn K (.ref f)=true) (hv:mA name=none) (h:Q (.ref f,[.ref x]) s):
  wpAny (model prog w) A (getMethod (.ref x) name pl) Q E s:=by
 obtain⟨od,Z6,hl⟩:=I.look;exact PySem.W.method_fn X Z6 (PySem.W.plainGet_of hg).1 (PySem.W.plainGet_of hg).2 hf (beq_iff_eq.mp ht) (by show(PySem.W.lookIn name od).map (·.isSome)=some false;rw[hl,hv];rfl) h
theorem PH{ns:List Str}{Q:Unit->Shared->Prop}(X:K.In s.heap)(I:ObjM s.heap x dx C mA)
  (hs:findIn K (.ref C) "__setattr__"=some (some (.builtin "object.__setattr__"))) (hp:PySem.W.plainOver K C=true) (ht:PySem.W.takerIn K C name=some none) (hh:PySem.W.hasDictIn K C=true)
  (hw:PySem.Within mA ns) (hsz:ns.length<=sizeLine)
  (h:∀h',ObjM h' x dx C (fun y=>if y=name then some v else mA y)->Heap.SameBut dx s.heap h'->Q () {s with heap:=h',toks:=s.toks+2}):
  wpAny (model prog w) A (setAttr (.ref x) name v) Q E s:=by
 obtain⟨od,Z6,hl⟩:=I.look;refine(PySem.W.set_plain X Z6 hs (PySem.W.osa_open (s:={s with toks:=s.toks+1}) (r:=none) X Z6 hp ht fun b=>?_));obtain⟨cd,hc,hd'⟩:=PySem.W.any_some hh;have hx:s.heap.get? x=some ⟨.ref C,some dx,.plain,#[]⟩:=I.obj;refine(WH (WM (WH (WH (wpAny_loadPart hx (WH (PySem.W.Looks.here (s:={s with toks:=s.toks+1}) (PySem.W.looks_clsIn X hc) ?_)))))));rw[hd'];refine WM (a:=some dx) (WH (WM (WH ?_)));refine wpAny_nsSet1 (s:={s with toks:=s.toks+1}) I.ns fun h' hn2 hs2=>?_;obtain⟨oD,esD,epD,hoD,hdD,hcD⟩:=hn2.count (PySem.Within.cons name v hw);refine WH (wpAny_lookBehind hoD (by rw[hdD];exact pastItsLine_dict (Xo hcD (by rw[Xi];omega))) ?_);exact WM (h _ ⟨(hs2.2 _ (Ne.symm I.ne)).trans I.obj,hn2,I.ne⟩ hs2)
theorem Ra{R:Result->Shared->Prop}{vs:List Value}{kw:List (Str×Value)}(X:K.In s.heap)(hm:PySem.W.makesIn K C=true)
  (hi:findIn K (.ref C) "__init__"=some (some (.ref f))) (hf:PySem.W.typeIn K (.ref f)=some (.type "function"))
  (h:codeAny (model prog w) (A.under (.builtin "type.__call__" ⟨.ref C::vs,kw⟩)) (.call (.ref f) ⟨.ref (s.heap.objs.size+1)::vs,kw⟩) (PySem.W.InitBack (s.heap.objs.size+1) R)
   {s with heap:=(s.heap.push PySem.W.emptyDict).push (PySem.W.instObj C s.heap.objs.size)}):
  codeAny (model prog w) A (.call (.ref C) ⟨vs,kw⟩) R s:=by
 obtain⟨hh,g,d,t,os⟩:=s;exact(PySem.W.make_core (PySem.W.makes_of X hm) (PySem.W.looks_findIn X hi) (fun self=>PySem.W.bind_fn X self hf) (.inl rfl) h)
end
def tm(f:Str)(v:V):List (Str×V)->List (Str×V)
 | []=>[(f,v)]
 |(g,x)::r=>if g=f then(g,v)::r else(g,x)::tm f v r
theorem Ih(f g:Str)(v:V):∀fs:List (Str×V),(tm f v fs).lookup g=if g=f then some v else fs.lookup g
 | []=>by
  show List.lookup g [(f,v)]=_;by_cases h:g=f
  ·have hb:(g==f)=true:=beq_iff_eq.mpr h;simp only[List.lookup,hb,if_pos h]
  ·have hb:(g==f)=false:=beq_eq_false_iff_ne.mpr h;simp only[List.lookup,hb,if_neg h]
 |(k,x)::r=>by
  have ih:=Ih f g v r;rw[show tm f v ((k,x)::r)=(if k=f then(k,v)::r else(k,x)::tm f v r) from rfl];by_cases hk:k=f
  ·rw[if_pos hk];by_cases h:g=k
   ·have hb:(g==k)=true:=beq_iff_eq.mpr h;simp only[List.lookup,hb,if_pos (h.trans hk)]
   ·have hb:(g==k)=false:=beq_eq_false_iff_ne.mpr h;simp only[List.lookup,hb,if_neg (fun e:g=f=>h (e.trans hk.symm))]
  ·rw[if_neg hk];by_cases h:g=k
   ·have hb:(g==k)=true:=beq_iff_eq.mpr h;simp only[List.lookup,hb,if_neg (fun e:g=f=>hk (h.symm.trans e))]
   ·have hb:(g==k)=false:=beq_eq_false_iff_ne.mpr h;simp only[List.lookup,hb];exact ih
theorem E6(f:Str)(v:V):∀fs:List (Str×V),f∈(tm f v fs).map (·.1)/\∀g,g∈fs.map (·.1)->g∈(tm f v fs).map (·.1)
 | []=>⟨by simp[tm],fun g h=>by simp at h⟩
 |(k,x)::r=>by
  obtain⟨i1,i2⟩:=E6 f v r;rw[show tm f v ((k,x)::r)=(if k=f then(k,v)::r else(k,x)::tm f v r) from rfl];by_cases hk:k=f
  ·rw[if_pos hk];subst hk;exact⟨by simp,fun g h=>by simpa using h⟩
  ·rw[if_neg hk];refine⟨?_,fun g h=>?_⟩
   ·rw[WT];exact Xs _ i1
   ·rw[WT] at h⊢;rcases Xd.mp h with e|e
    ·exact Xd.mpr (.inl e)
    ·exact Xs _ (i2 g e)
theorem IZ(f:Str)(v:V):∀fs:List (Str×V),(tm f v fs).length<=fs.length+1
 | []=>by simp[tm]
 |(k,x)::r=>by
  have ih:=IZ f v r;rw[show tm f v ((k,x)::r)=(if k=f then(k,v)::r else(k,x)::tm f v r) from rfl];by_cases hk:k=f
  ·rw[if_pos hk,Xi,Xi];omega
  ·rw[if_neg hk,Xi,Xi];omega
def RelO.some_of{v:V}{o:Option Value}(r:RelO (some v) o):∃u,o=some u/\RelV v u:=by
 cases o with
 |none=>exact(show False from r).elim
 |some u=>exact⟨u,rfl,r⟩
def RelO.none_of{o:Option Value}(r:RelO none o):o=none:=by
 cases o with
 |none=>rfl
 |some u=>exact(show False from r).elim
def Th{v:V}{u:Value}(r:RelV v u):PySem.W.handedIn u=true:=by
 cases v with
 |non=>cases (show u=Value.none from r);rfl
 |bl b=>cases (show u=Value.bool b from r);rfl
 |int i=>obtain⟨t,e⟩:=(show ∃t,u=Value.int i t from r);cases e;rfl
 |str x=>obtain⟨t,e⟩:=(show ∃t,u=Value.str x t from r);cases e;rfl
 |byt b=>obtain⟨t,e⟩:=(show ∃t,u=Value.bytes b t from r);cases e;rfl
 |flt b=>obtain⟨t,e⟩:=(show ∃t,u=Value.float b t from r);cases e;rfl
 |ref a=>cases (show u=Value.ref a from r);rfl
 |ty n=>cases (show u=Value.type n from r);rfl
section
variable {P:Program} {w:World} {H:Hp} {h:Heap} {a C dx:Addr} {fs:List (Str×V)}
theorem C7(hok:HOk P w H h)(e:H a=some (.ins C dx fs)):∃mA,ObjM h a dx C mA/\(∀f,RelO (fs.lookup f) (mA f))/\PySem.Within mA (fs.map (·.1))/\fs.length<=1000/\H dx=some (.own a):=by
 obtain⟨d,z,ne,ob,mA,n,r,q⟩:=(show ObjOk P w H h a (.ins C dx fs) from hok a _ e)
 exact(⟨mA,⟨ob,n,ne⟩,r,q,z,d⟩)
end
structure Cls (K:Frag) (C:Addr):Prop where
 pg:PySem.W.plainGet K C Str.empty=true
 hd:PySem.W.hasDictIn K C=true
 po:PySem.W.plainOver K C=true
 sa:findIn K (.ref C) "__setattr__"=some (some (.builtin "object.__setattr__"))
def Cls.get{K:Frag}{C:Addr}(c:Cls K C)(f:Str):PySem.W.plainGet K C f=true:=c.pg
def NoAttr(K:Frag)(C:Addr)(f:Str):Prop:=findIn K (.ref C) f=some none
def NoAttr.taker{K:Frag}{C:Addr}{f:Str}(n:NoAttr K C f):PySem.W.takerIn K C f=some none:=by
 unfold PySem.W.takerIn;rw[show findIn K (.ref C) f=some none from n];rfl
structure Meth (K:Frag) (C:Addr) (m:Str) (f:Addr):Prop where
 at_:findIn K (.ref C) m=some (some (.ref f))
 fn:isFn K (.ref f)=true
 kp:keepIn K (.ref f)=true
section
variable {X:Cx} {pins:QS} {B:St} {H:Hp} {s:Shared} {a C dx:Addr} {fs:List (Str×V)} {f:Str} {v:V} {A:Around} {E:OK}
theorem TU{b:Bool}{Q:OK}(I:Inv X pins B H s)(e:H a=some (.ins C dx fs))(c:Cls X.K C)(n:NoAttr X.K C f)(l:fs.lookup f=some v)
  (h:∀u s',Inv X pins B H s'->RelV v u->Q u s'):wpAny (model X.prog X.w) A (getAttr (.ref a) f b) Q E s:=by
 obtain⟨mA,Z8,r,_,_,_⟩:=C7 I.hok e;obtain⟨u,hu,ru⟩:=RelO.some_of (v:=v) (o:=mA f) (by rw[←l];exact r f);exact(QZ I.kIn Z8 (c.get f) c.hd n hu (Th ru) (h u _ (I.tok _) ru))
theorem IW{m:Str}{g:Addr}{pl:Sem Bool}{Q:Value×List Value->Shared->Prop}(I:Inv X pins B H s)(e:H a=some (.ins C dx fs))(c:Cls X.K C)(k:Meth X.K C m g)(l:fs.lookup m=none)
  (h:Q (.ref g,[.ref a]) s):wpAny (model X.prog X.w) A (getMethod (.ref a) m pl) Q E s:=by
 obtain⟨mA,Z8,r,_,_,_⟩:=C7 I.hok e;have hn:mA m=none:=RelO.none_of (by rw[←l];exact r m);exact(RP I.kIn Z8 (c.get m) k.at_ k.fn hn h)
theorem Vu{y:V}{u:Value}{Q:Unit->Shared->Prop}(I:Inv X pins B H s)(e:H a=some (.ins C dx fs))(c:Cls X.K C)(n:NoAttr X.K C f)(hl:fs.length<1000)(ry:RelV y u)
  (h:∀s',Inv X pins B (upd H a (.ins C dx (tm f y fs))) s'->Q () s'):wpAny (model X.prog X.w) A (setAttr (.ref a) f u) Q E s:=by
 obtain⟨mA,Z8,r,wi,_,ho⟩:=C7 I.hok e;have hz:(fs.map (·.1)).length<=sizeLine:=by rw[WQ,Yf];omega
 refine(PH I.kIn Z8 c.sa c.po n.taker c.hd wi hz fun h' O' sb=>h _ ?_);have hd:∃o,h'.get? dx=some o:=let ⟨o,_,_,e',_⟩:=O'.ns;⟨o,e'⟩
 refine I.write (x:=a) (e:=dx) (by rw[e];exact True.intro) (.inr ho) (fun b q hb z=>(sb.2 b hb).trans z) hd ?_;refine⟨by rw[rG Z8.ne];exact ho,?_,Z8.ne,O'.obj,_,O'.ns,fun g=>?_,fun g hg=>?_⟩
 ·have:=IZ f y fs;omega
 ·show RelO ((tm f y fs).lookup g) (if g=f then some u else mA g);rw[Ih];by_cases q:g=f
  ·rw[if_pos q,if_pos q];exact ry
  ·rw[if_neg q,if_neg q];exact r g
 ·by_cases q:g=f
  ·rw[q];exact(E6 f y fs).1
  ·refine(E6 f y fs).2 g (wi g fun z=>hg ?_);show(if g=f then some u else mA g)=none;rw[if_neg q];exact z
theorem Inv.made(I:Inv X pins B H s):Inv X pins B (upd (upd H s.heap.objs.size (.own (s.heap.objs.size+1))) (s.heap.objs.size+1) (.ins C s.heap.objs.size []))
  {s with heap:=(s.heap.push PySem.W.emptyDict).push (PySem.W.instObj C s.heap.objs.size)}:=by
 have e1:(s.heap.push PySem.W.emptyDict).get? s.heap.objs.size=some PySem.W.emptyDict:=WR s.heap rfl;have e2:((s.heap.push PySem.W.emptyDict).push (PySem.W.instObj C s.heap.objs.size)).get? (s.heap.objs.size+1)=some (PySem.W.instObj C s.heap.objs.size):=by
  have:=WR (s.heap.push PySem.W.emptyDict) (o:=PySem.W.instObj C s.heap.objs.size) rfl;rwa[XG] at this
 have e3:(s.heap.push PySem.W.emptyDict).Ns s.heap.objs.size (fun _=>none):=⟨PySem.W.emptyDict,#[],_,e1,rfl,(fun e he=>absurd he (by simp)),fun _=>rfl⟩
 have I1:=I.laid (a:=s.heap.objs.size) (o:=.own (s.heap.objs.size+1)) (h':=s.heap.push PySem.W.emptyDict) (t':=s.toks) (fun b u q=>WK _ q) (WJ _) ⟨_,e1⟩;refine I1.laid (a:=s.heap.objs.size+1) (o:=.ins C s.heap.objs.size []) (t':=s.toks) (fun b u q=>WK _ q) (Nat.le_of_eq (XG _ _)) ?_;have ne:s.heap.objs.size≠s.heap.objs.size+1:=W8 (Nat.lt_succ_self _);refine⟨by rw[rG ne,sF],XJ _,ne,e2,fun _=>none,(Heap.Ns1.of_empty e3).at fun o q=>WK _ q,fun _=>True.intro,fun y hy=>absurd rfl hy⟩
theorem VR{prog:Program}{w:World}{env:Env}{e:Expr}{f:Str}{pos:Pos}{s:Shared}{Q:OK}(hb:attributeBase e f env (eval e env)=eval e env)
  (h:wpAny (model prog w) A (eval e env) (fun o ZT=>wpAny (model prog w) A (getAttr o f true) Q E ZT) E s):wpAny (model prog w) A (eval (.Attribute e f pos) env) Q E s:=
 Attribute_any_ h (by rw[arm_eval_Attribute,hb])
end
def QV(K:Frag)(ta:TE)(f:Str):TE:=fun B H Q=>ta B H fun x H1=>∃a C dx fs v,x=.ref a/\H1 a=some (.ins C dx fs)/\Cls K C/\NoAttr K C f/\fs.lookup f=some v/\Q v H1
def UF(K:Frag)(ta tv:TE)(f:Str):TS:=fun D B H=>tv B H fun y H1=>ta B H1 fun x H2=>∃a C dx fs,x=.ref a/\H2 a=some (.ins C dx fs)/\Cls K C/\NoAttr K C f/\fs.length<1000/\
 D.nx B (upd H2 a (.ins C dx (tm f y fs)))
section
variable {X:Cx} {o e value:Expr} {f:Str} {pos pos':Pos} {ta tv:TE}
theorem Oj(he:PE X e ta)(hb:attributeBase e f X.env (eval e X.env)=eval e X.env):PE X (.Attribute e f pos) (QV X.K ta f):=by
 intro pins s B H Q I h;refine VR hb (thn (he pins s B H _ I h) fun u s1 hm=>?_);obtain⟨x,H1,I1,rx,a,C,dx,fs,v,ex,ea,c,n,l,q⟩:=hm;subst ex;obtain rfl:u=Value.ref a:=rx;exact TU I1 ea c n l fun u' s2 I2 ru=>⟨v,H1,I2,ru,q⟩
theorem Wj(ha:PE X o ta)(hv:PE X value tv)(hs:swapsWith value (some (.Attribute o f pos')) pos.line X.env=pure false):PS X (.Assign [.Attribute o f pos'] value pos) (UF X.K ta tv f):=by
 intro pins s B H D I h;refine plainObj_wpAny_Assign_Attribute (thn (hv pins s B H _ I h) fun u s1 ⟨y,H1,I1,ry,q⟩=>thn (ha pins s1 B H1 _ I1 q) fun ov s2 hm=>?_) hs;obtain⟨x,H2,I2,rx,a,C,dx,fs,ex,ea,c,n,l,q2⟩:=hm;subst ex;obtain rfl:ov=Value.ref a:=rx;exact Vu I2 ea c n l ry fun s3 I3=>⟨B,_,I3,q2⟩
theorem methcall_of{pl:Sem Bool}{m:Str}{apos:Pos}{args:List Expr}{pins:QS}{s:Shared}{B:St}{H:Hp}{Q:OK}{te:TE}(he:PE X e te)(I:Inv X pins B H s)
  (h:te B H fun x H1=>∃a C dx fs g,x=.ref a/\H1 a=some (.ins C dx fs)/\Cls X.K C/\Meth X.K C m g/\fs.lookup m=none/\
   ∀s1,Inv X pins B H1 s1->wpAny (model X.prog X.w) X.A (callWith pos (.ref g) [.ref a] (backTo pos (starEach args X.env)) (backToKw pos (keywordEach [] X.env))) Q X.xe s1)
  (ht:eval (.Call (.Attribute e m apos) args [] pos) X.env=(do
   let ov ←eval e X.env
   standAt apos.atName
   let (f,first) ←holding [ov] (getMethod ov m pl)
   callWith pos f first (backTo pos (starEach args X.env)) (backToKw pos (keywordEach [] X.env)))):
  wpAny (model X.prog X.w) X.A (eval (.Call (.Attribute e m apos) args [] pos) X.env) Q X.xe s:=by
 refine PySem.W.methodCall_KW (pl:=pl) (thn (he pins s B H _ I h) fun u s1 hm=>?_) ht;obtain⟨x,H1,I1,rx,a,C,dx,fs,g,ex,ea,c,k,l,q⟩:=hm;subst ex;obtain rfl:u=Value.ref a:=rx;exact IW I1 ea c k l (q s1 I1)
end
structure Room (k:Nat) (A:Around):Prop where
 hd:A.handled=none
 dp:A.depth+3*k+5<recursionLimit
 un:A.units+16*k+200<cLine
 gd:A.guards=some []
def TC{A:Around}{C:Addr}{us:List Value}{kw:List (Str×Value)}:(A.under (.builtin "type.__call__" ⟨.ref C::us,kw⟩)).guards=A.guards:=by
 first|rfl|simp[Around.under,Code.isGuard,guardIds]
def Room.mono{j k:Nat}{A:Around}(r:Room k A)(h:j<=k):Room j A:=⟨r.hd,by have:=r.dp;omega,by have:=r.un;omega,r.gd⟩
def Room.deeper{k:Nat}{A:Around}(r:Room (k+1) A)(env:Env):Room k (A.deeper env):=
 ⟨r.hd,by have:=r.dp;show A.depth+1+3*k+5<_;omega,by have:=r.un;show A.units+3+16*k+200<_;omega,r.gd⟩
def So{A:Around}{C:Addr}{us:List Value}{kw:List (Str×Value)}:(A.under (.builtin "type.__call__" ⟨.ref C::us,kw⟩)).depth=A.depth+1:=by
 first|rfl|simp[Around.under,Code.weight,Code.isCreation,Code.isGuard,Code.isCaller,Code.frames,Code.isFrame,guardIds]
def SQ{A:Around}{C:Addr}{us:List Value}{kw:List (Str×Value)}:(A.under (.builtin "type.__call__" ⟨.ref C::us,kw⟩)).units=A.units+1:=by
 first|rfl|simp[Around.under,Code.cUnits,Code.frames,Code.isFrame]
def Room.make{k:Nat}{A:Around}(r:Room (k+1) A)(C:Addr)(us:List Value)(kw:List (Str×Value)):Room k (A.under (.builtin "type.__call__" ⟨.ref C::us,kw⟩)):=
 ⟨r.hd,by have:=r.dp;rw[So];omega,by have:=r.un;rw[SQ];omega,by rw[TC];exact r.gd⟩
def Room.depth{k:Nat}{A:Around}(r:Room k A):A.depth<recursionLimit:=by have:=r.dp;omega
def Room.units{k:Nat}{A:Around}(r:Room k A):A.units+64<cLine:=by have:=r.un;omega
def u7:TA:=fun _ H Q=>Q [] H
def ub(ta:TE)(tr:TA):TA:=fun B H Q=>ta B H fun x H1=>tr B H1 fun xs H2=>Q (x::xs) H2
section
variable {X:Cx} {e:Expr} {es:List Expr} {te:TE} {t:TA} {pos:Pos}
theorem tE:PA X [] u7:=fun _ _ _ _ H Q I h=>Calls.spliced_nil ⟨[],H,I,.nil,h⟩
theorem sJ(ha:PE X e te)(hr:PA X es t)(hs:starEach (e::es) X.env=(false,eval e X.env)::starEach es X.env:=by rfl):PA X (e::es) (ub te t):=by
 intro pos pins s B H Q I h;rw[hs];show wpAny _ _ (spliced ((false,eval e X.env)::backTo pos (starEach es X.env))) _ _ s;refine Calls.spliced_cons (thn (ha pins s B H _ I h) fun u s1 hm=>?_);obtain⟨x,H1,I1,r1,q1⟩:=hm;exact(thn (hr pos pins s1 B H1 _ I1 q1) fun us s2 ⟨xs,H2,I2,r2,q2⟩=>⟨x::xs,H2,I2,.cons r1 r2,q2⟩)
def Nd(t:TA):TE:=fun B H Q=>t B H fun xs H1=>xs.length<=sizeLine/\∀p,H1 p=none->Q (.ref p) (upd H1 p (.tup xs))
def O1(t:TA):TE:=fun B H Q=>t B H fun xs H1=>xs.length<=sizeLine/\∀p,H1 p=none->Q (.ref p) (upd H1 p (.lst xs))
theorem WD{x1}(h:PA X es t):PE X (.Tuple es x1 pos) (Nd t):=by
 intro pins s B H Q I hq;refine wpAny_Tuple_spliced (thn (h pos pins s B H _ I hq) fun us s1 ⟨xs,H1,I1,r,z,q⟩=>⟨by rw[←r.length];exact z,?_⟩);have hf:H1 s1.heap.objs.size=none:=I1.hok.fresh (WJ _);refine⟨.ref s1.heap.objs.size,upd H1 s1.heap.objs.size (.tup xs),I1.laid (t':=s1.toks) (fun b u e=>WK _ e) (WJ _) ?_,rfl,q _ hf⟩;exact⟨z,us,r,⟨_,WR _ rfl,rfl,_,rfl⟩⟩
theorem He(h:PA X es t):PE X (.List es pos) (O1 t):=by
 intro pins s B H Q I hq;refine wpAny_List_spliced (thn (h pos pins s B H _ I hq) fun us s1 ⟨xs,H1,I1,r,z,q⟩=>⟨by rw[←r.length];exact z,?_⟩);have hf:H1 s1.heap.objs.size=none:=I1.hok.fresh (WJ _);refine⟨.ref s1.heap.objs.size,upd H1 s1.heap.objs.size (.lst xs),I1.laid (t':=s1.toks) (fun b u e=>WK _ e) (WJ _) ?_,rfl,q _ hf⟩;exact⟨z,us,0,r,WR _ rfl⟩
end
abbrev Sp:=List V->Hp->VK->XK->Prop
abbrev CXT:=List Env->Hp->Shared->XK->Value->Shared->Prop
structure Env0 (P:Program) (w:World) (K:Frag) (mg:Str->Option Value) (base:Heap) (A:Around) (outer:List Env) (s:Shared) (H:Hp):Prop where
 frames:A.frames=some outer
 mod:Mod K mg base
 bs:∀b o,base.get? b=some o->s.heap.get? b=some o/\H b=none
 bsz:base.objs.size<=s.heap.objs.size
 funs:s.heap.FunFrames base outer
 frf:∀b∈frs outer,H b=none
 hok:HOk P w H s.heap
 bare:AllBare s.gens
def CE(outer:List Env)(P:Program)(w:World)(H:Hp)(s:Shared)(Q:VK)(u:Value)(s':Shared):Prop:=
 ∃v H',s'.os=s.os/\AllBare s'.gens/\Un (frs outer) [] H H' s.heap s'.heap/\HOk P w H' s'.heap/\RelV v u/\Q v H'
def CR(CX:CXT)(outer:List Env)(P:Program)(w:World)(H:Hp)(s:Shared)(Q:VK)(E:XK)(r:Result)(s':Shared):Prop:=
 match r with
 | .ok (.ret u)=>CE outer P w H s Q u s'
 | .ok _=>False
 | .error e=>CX outer H s E e s'
structure FnOk (P:Program) (w:World) (K:Frag) (mg:Str->Option Value) (base:Heap) (CX:CXT) (k:Nat) (f:Addr) (fd:FuncData) (ps:List Str) (sp:Sp):Prop where
 len:∀vs H Q E,sp vs H Q E->vs.length=ps.length
 run:∀(A:Around) (outer:List Env) (s:Shared) (H:Hp) (args:Args) (us:List Value) (vs:List V) (Q:VK) (E:XK),Room k A->Env0 P w K mg base A outer s H->BindsTo s fd args (ps.zip us)->Vals vs us->sp vs H Q E->
  codeAny (model P w) A (.call (.ref f) args) (CR CX outer P w H s Q E) s
theorem FnOk.imp{P:Program}{w:World}{K:Frag}{mg:Str->Option Value}{base:Heap}{CX:CXT}{k:Nat}{f:Addr}{fd:FuncData}{ps:List Str}{sp sp':Sp}(F:FnOk P w K mg base CX k f fd ps sp)
  (h:∀vs H Q E,sp' vs H Q E->sp vs H Q E):FnOk P w K mg base CX k f fd ps sp':=
 ⟨fun vs H Q E q=>F.len vs H Q E (h _ _ _ _ q),fun A outer s H args us vs Q E hr he hb hv hs=>F.run A outer s H args us vs Q E hr he hb hv (h _ _ _ _ hs)⟩
theorem Env0.make{P:Program}{w:World}{K:Frag}{mg:Str->Option Value}{base:Heap}{A:Around}{outer:List Env}{s:Shared}{H:Hp}(e:Env0 P w K mg base A outer s H)(C:Addr)(us:List Value)(kw:List (Str×Value)):
  Env0 P w K mg base (A.under (.builtin "type.__call__" ⟨.ref C::us,kw⟩)) outer s H:=⟨by first|exact e.frames|(simpa[Around.under,Code.envs,Code.isFrame,pushEnvs] using e.frames),e.mod,e.bs,e.bsz,e.funs,e.frf,e.hok,e.bare⟩
section
variable {X:Cx} {pins:QS} {B:St} {H:Hp} {s s':Shared}
theorem Inv.env0(I:Inv X pins B H s):Env0 X.prog X.w X.K X.mg X.base X.A X.stack s H:=
 ⟨I.ok.frames,I.ok.mod,I.bs,Xo I.ok.bsz I.sz,I.stack,I.stkFree,I.hok,I.bare⟩
theorem Inv.after{Q:VK}{u:Value}(I:Inv X pins B H s)(h:CE X.stack X.prog X.w H s Q u s'):EP X pins B Q u s':=by
 obtain⟨v,H',os,bare,un,hok,r,q⟩:=h;obtain⟨hh,g,d,t,os'⟩:=s';obtain rfl:os'=s.os:=os;exact⟨v,H',I.call (h':=hh) (g':=g) (d':=d) (t':=t) (ch:=[]) un hok bare (fun b z=>absurd z (by simp)),r,q⟩
end
def IS(sp:Sp)(dvs:List V)(E:XK)(t:TA):TE:=fun B H Q=>t B H fun vs H1=>sp (vs++dvs) H1 Q E
def Ht(C:Addr)(m:Str)(sp:Sp)(dvs:List V)(E:XK)(ta:TE)(t:TA):TE:=fun B H Q=>ta B H fun x H1=>∃a dx fs,x=.ref a/\H1 a=some (.ins C dx fs)/\fs.lookup m=none/\
 t B H1 fun vs H2=>sp (x::(vs++dvs)) H2 Q E
def JP(C:Addr)(sp:Sp)(dvs:List V)(E:XK)(t:TA):TE:=fun B H Q=>t B H fun vs H1=>∀x dx,H1 x=none->H1 dx=none->dx≠x->
 sp (.ref x::(vs++dvs)) (upd (upd H1 dx (.own x)) x (.ins C dx [])) (fun v H2=>v=.non/\Q (.ref x) H2) E
def Binds(K:Frag)(fd:FuncData)(ps:List Str)(ds:List Value):Prop:=
 ∀(s:Shared) (us:List Value),K.In s.heap->(us++ds).length=ps.length->BindsTo s fd ⟨us,[]⟩ (ps.zip (us++ds))
def Binds.all{K:Frag}{fd:FuncData}{ps:List Str}(h:∀us:List Value,us.length=ps.length->bindArgs fd ⟨us,[]⟩=pure (ps.zip us)):Binds K fd ps []:=fun s us _ hl=>by
 rw[XC] at hl⊢;exact .of_eq (h us hl)
def xy(CX:CXT)(X:Cx)(E:XK):Prop:=∀(pins:QS) (B:St) (H:Hp) (s:Shared) (e:Value) (s':Shared),Inv X pins B H s->CX X.stack H s E e s'->X.xe e s'
section
variable {X:Cx} {CX:CXT} {k:Nat} {f C:Addr} {fd:FuncData} {ps:List Str} {sp:Sp} {dvs:List V} {ds:List Value} {E:XK} {x m:Str} {p pos apos:Pos} {e o:Expr} {es:List Expr} {ta:TE} {t:TA}
theorem LP{pins:QS}{B:St}{H:Hp}{s:Shared}{Q:VK}{us:List Value}{vs:List V}(F:FnOk X.prog X.w X.K X.mg X.base CX k f fd ps sp)(hr:Room k X.A)(hb:Binds X.K fd ps ds)(hd:Vals dvs ds)(hx:xy CX X E)
  (I:Inv X pins B H s) (r:Vals vs us) (h:sp (vs++dvs) H Q E):wpAny (model X.prog X.w) X.A (call (.ref f) us) (EP X pins B Q) X.xe s:=by
 have r2:Vals (vs++dvs) (us++ds):=r.append hd;have hl:(us++ds).length=ps.length:=by rw[←r2.length];exact F.len _ _ _ _ h
 refine wpAny_call (codeAny_mono (F.run X.A X.stack s H ⟨us,[]⟩ (us++ds) (vs++dvs) Q E hr I.env0 (hb s us I.kIn hl) r2 h) fun r s' hq=>?_);cases r with
 |error e=>exact hx pins B H s e s' I hq
 |ok fl=>
  cases fl with
  |ret u=>exact I.after hq
  |next=>exact False.elim hq
  |brk=>exact False.elim hq
  |cont=>exact False.elim hq
theorem Tv(F:FnOk X.prog X.w X.K X.mg X.base CX k f fd ps sp)(hr:Room k X.A)(hg:Gl X x)(hm:X.mg x=some (.ref f))(hk:keepIn X.K (.ref f)=true)(hb:Binds X.K fd ps ds)(hd:Vals dvs ds)(hx:xy CX X E)
  (ha:PA X (e::es) t) (hdb:(x==("__debug__":Str))=false:=by decide) (he:starEach (e::es) X.env=(false,eval e X.env)::starEach es X.env:=by rfl) (hpl:(backTo pos (starEach es X.env)).any (·.1)=false:=by rfl):
  PE X (.Call (.Name x p) (e::es) [] pos) (IS sp dvs E t):=by
 intro pins s B H Q I h;refine X7 (zj I hg hm ?_ hdb);refine PySem.W.callWith_K (h₀:=X.base) I.ok.mod.kin hk (thn (ha pos pins s B H _ I h) fun us s1 ⟨vs,H1,I1,r,q⟩=>⟨I1.kIn,?_⟩) he hpl;exact LP F hr hb hd hx I1 r q
theorem SN{pl:Sem Bool}(he:PE X o ta)(c:Cls X.K C)(hm:Meth X.K C m f)(F:FnOk X.prog X.w X.K X.mg X.base CX k f fd ps sp)(hr:Room k X.A)(hb:Binds X.K fd ps ds)(hd:Vals dvs ds)(hx:xy CX X E)(ha:PA X (e::es) t)
  (hst:starEach (e::es) X.env=(false,eval e X.env)::starEach es X.env:=by rfl) (hpl:(backTo pos (starEach es X.env)).any (·.1)=false:=by rfl)
  (ht:eval (.Call (.Attribute o m apos) (e::es) [] pos) X.env=(do
   let ov ←eval o X.env
   standAt apos.atName
   let (f,first) ←holding [ov] (getMethod ov m pl)
   callWith pos f first (backTo pos (starEach (e::es) X.env)) (backToKw pos (keywordEach [] X.env))):=by rfl):
  PE X (.Call (.Attribute o m apos) (e::es) [] pos) (Ht C m sp dvs E ta t):=by
 intro pins s B H Q I h;refine PySem.W.methodCall_KW (pl:=pl) (thn (he pins s B H _ I h) fun u s1 hm=>?_) ht;obtain⟨x,H1,I1,rx,a,dx,fs,ex,ea,l,q⟩:=hm;subst ex;obtain rfl:u=Value.ref a:=rx;refine IW I1 ea c hm l ?_;refine PySem.W.callWith_K (first:=[.ref a]) (h₀:=X.base) I.ok.mod.kin hm.kp (thn (ha pos pins s1 B H1 _ I1 q) fun us s2 ⟨vs,H2,I2,r,q2⟩=>⟨I2.kIn,?_⟩) hst hpl;exact LP (us:=.ref a::us) (vs:=.ref a::vs) F hr hb hd hx I2 (.cons rfl r) q2
structure Mk (K:Frag) (C f:Addr):Prop where
 makes:PySem.W.makesIn K C=true
 init:findIn K (.ref C) "__init__"=some (some (.ref f))
 fn:isFn K (.ref f)=true
 kp:keepIn K (.ref C)=true
theorem QF{pins:QS}{B:St}{H:Hp}{s:Shared}{Q:VK}{us:List Value}{vs:List V}(M:Mk X.K C f)(F:FnOk X.prog X.w X.K X.mg X.base CX k f fd ps sp)(hr:Room (k+1) X.A)(hb:Binds X.K fd ps ds)(hd:Vals dvs ds)
  (hx:xy CX X E) (I:Inv X pins B H s) (r:Vals vs us)
  (h:∀x dx,H x=none->H dx=none->dx≠x->sp (.ref x::(vs++dvs)) (upd (upd H dx (.own x)) x (.ins C dx [])) (fun v H2=>v=.non/\Q (.ref x) H2) E):
  wpAny (model X.prog X.w) X.A (call (.ref C) us) (EP X pins B Q) X.xe s:=by
 have hq:=h (s.heap.objs.size+1) s.heap.objs.size (I.hok.fresh (Nat.le_succ _)) (I.hok.fresh (WJ _)) (W8 (Nat.lt_succ_self _));have I2:=Inv.made (C:=C) I;have r2:Vals (V.ref (s.heap.objs.size+1)::(vs++dvs)) (Value.ref (s.heap.objs.size+1)::(us++ds)):=.cons rfl (r.append hd);have hl:(Value.ref (s.heap.objs.size+1)::us++ds).length=ps.length:=by
  have e:=r2.length;rw[F.len _ _ _ _ hq] at e;exact e.symm
 refine wpAny_call (Ra (f:=f) I.kIn M.makes M.init (beq_iff_eq.mp M.fn) (codeAny_mono (F.run _ X.stack _ _ ⟨Value.ref (s.heap.objs.size+1)::us,[]⟩ (Value.ref (s.heap.objs.size+1)::(us++ds)) _ _ E (hr.make C us [])
  (I2.env0.make C us []) (hb _ (Value.ref (s.heap.objs.size+1)::us) I2.kIn hl) r2 hq) fun r s' hq'=>?_))
 cases r with
 |error e=>exact hx pins B _ _ e s' I2 hq'
 |ok fl=>
  cases fl with
  |ret u=>
   obtain⟨v,H',I3,rv,ev,q3⟩:=I2.after hq';subst ev;exact⟨rv,⟨V.ref (s.heap.objs.size+1),H',I3,rfl,q3⟩⟩
  |next=>exact False.elim hq'
  |brk=>exact False.elim hq'
  |cont=>exact False.elim hq'
theorem SD(M:Mk X.K C f)(F:FnOk X.prog X.w X.K X.mg X.base CX k f fd ps sp)(hr:Room (k+1) X.A)(hg:Gl X x)(hm:X.mg x=some (.ref C))(hb:Binds X.K fd ps ds)(hd:Vals dvs ds)(hx:xy CX X E)
  (ha:PA X (e::es) t) (hdb:(x==("__debug__":Str))=false:=by decide) (he:starEach (e::es) X.env=(false,eval e X.env)::starEach es X.env:=by rfl) (hpl:(backTo pos (starEach es X.env)).any (·.1)=false:=by rfl):
  PE X (.Call (.Name x p) (e::es) [] pos) (JP C sp dvs E t):=by
 intro pins s B H Q I h;refine X7 (zj I hg hm ?_ hdb);refine PySem.W.callWith_K (h₀:=X.base) I.ok.mod.kin M.kp (thn (ha pos pins s B H _ I h) fun us s1 ⟨vs,H1,I1,r,q⟩=>⟨I1.kIn,?_⟩) he hpl;exact QF M F hr hb hd hx I1 r q
end
structure FnScope (N P:List Str) (sc:Scope):Prop where
 kind:sc.kind=.function
 co:sc.isCoroutine=false
 gen:sc.isGenerator=false
 nd:N.Nodup
 pre:N.take P.length=P
 par:∀x∈P,sc.names.lookup x=some .local\/sc.names.lookup x=some .cell
 nofree:∀y∈sc.names,y.2≠.free
theorem JF{kindOf:Str->Option NameKind}{x:Str}:∀{binds:List (Str×Value)} {m:Str->Option Value},(∀v,(x,v)∉binds)->bindL kindOf binds m x=m x
 | [],_,_=>rfl
 |(n,v)::r,m,h=>by
  unfold bindL;rw[JF fun w hw=>h w (Xs _ hw)];split
  ·have:x≠n:=by rintro rfl;exact h v List.mem_cons_self
   simp[this]
  ·rfl
theorem IQ{kindOf:Str->Option NameKind}{x:Str}:∀{binds:List (Str×Value)} {m:Str->Option Value},(∀v,(x,v)∉binds)->bindC kindOf binds m x=m x
 | [],_,_=>rfl
 |(n,v)::r,m,h=>by
  unfold bindC;rw[IQ fun w hw=>h w (Xs _ hw)];split
  ·rfl
  ·have:x≠n:=by rintro rfl;exact h v List.mem_cons_self
   simp[this]
theorem KN{kindOf:Str->Option NameKind}{x:Str}{v:Value}:∀{P:List Str} {vs:List Value} {i:Nat} {m:Str->Option Value},P.Nodup->P[i]?=some x->vs[i]?=some v->kindOf x=some .local->
  bindL kindOf (P.zip vs) m x=some v
 | [],_,_,_,_,h,_,_=>by simp at h
 |_::_,[],_,_,_,_,h,_=>by simp at h
 |p::P,w::vs,0,m,nd,h1,h2,hk=>by
  simp at h1 h2;subst h1;subst h2;show bindL kindOf ((p,w)::P.zip vs) m p=_;unfold bindL;rw[JF fun v hv=>(List.nodup_cons.mp nd).1 (Ya hv).1,if_pos hk];simp
 |p::P,w::vs,i+1,m,nd,h1,h2,hk=>by
  show bindL kindOf ((p,w)::P.zip vs) m x=_;unfold bindL;exact KN (i:=i) (List.nodup_cons.mp nd).2 (by simpa using h1) (by simpa using h2) hk
theorem Mr{kindOf:Str->Option NameKind}{x:Str}{v:Value}:∀{P:List Str} {vs:List Value} {i:Nat} {m:Str->Option Value},P.Nodup->P[i]?=some x->vs[i]?=some v->kindOf x≠some .local->
  bindC kindOf (P.zip vs) m x=some v
 | [],_,_,_,_,h,_,_=>by simp at h
 |_::_,[],_,_,_,_,h,_=>by simp at h
 |p::P,w::vs,0,m,nd,h1,h2,hk=>by
  simp at h1 h2;subst h1;subst h2;show bindC kindOf ((p,w)::P.zip vs) m p=_;unfold bindC;rw[IQ fun v hv=>(List.nodup_cons.mp nd).1 (Ya hv).1,if_neg hk];simp
 |p::P,w::vs,i+1,m,nd,h1,h2,hk=>by
  show bindC kindOf ((p,w)::P.zip vs) m x=_;unfold bindC;exact Mr (i:=i) (List.nodup_cons.mp nd).2 (by simpa using h1) (by simpa using h2) hk
def vX(N:List Str)(vs:List V):St:=vs.map some++List.replicate (N.length - vs.length) none
def rV(CX:CXT)(P:Program)(w:World)(K:Frag)(mg:Str->Option Value)(base:Heap)(N:List Str)(qual:Str)(scope:Scope)(f:Addr)(cd:Value)(A:Around)(outer:List Env)(s:Shared)(H:Hp)(E:XK):Cx where
 prog:=P
 w:=w
 K:=K
 mg:=mg
 base:=base
 A:=A.deeper (envOfC qual scope s.heap.objs.size f cd)
 N:=N
 Z2:=s
 Z0:=H
 env:=envOfC qual scope s.heap.objs.size f cd
 outer:=outer
 stack:=envOfC qual scope s.heap.objs.size f cd::outer
 ex:=[]
 calm:=true
 fn:=fun _=>true
 pn:=[]
 xe:=fun e s'=>wpAny (model P w) (A.deeper (envOfC qual scope s.heap.objs.size f cd)) (leaving (envOfC qual scope s.heap.objs.size f cd) e) (fun _ s''=>CX outer H s E e s'') (fun e' s''=>CX outer H s E e' s'') s'
def Je{sc:Scope}{n:Nat}{x:Str}(h:sc.names.lookup x=some .cell):∃c,(cellsFrom n sc.names []).lookup x=some c:=by
 have q:=PySem.W.cellsFrom_some sc.names n [] (.inl h);exact XD.mp q
theorem Si{CX:CXT}{P:Program}{w:World}{K:Frag}{mg:Str->Option Value}{base:Heap}{N ps:List Str}{qual:Str}{scope:Scope}{f:Addr}{cd:Value}{A:Around}{outer:List Env}{s s1:Shared}{H:Hp}{E:XK}{us:List Value}{vs:List V}
  (S:FnScope N ps scope) (hd:A.handled=none) (e0:Env0 P w K mg base A outer s H) (hl:vs.length=ps.length) (r:Vals vs us)
  (x:InCallC s s.heap.objs.size (bindL (envOfC qual scope s.heap.objs.size f cd).kindOf (ps.zip us) fun _=>none) (cellsFrom (s.heap.objs.size+1) scope.names []) (bindC (envOfC qual scope s.heap.objs.size f cd).kindOf (ps.zip us) fun _=>none) s1):
  Inv (rV CX P w K mg base N qual scope f cd A outer s H E) [] (vX N vs) H s1:=by
 have hpl:ps.length<=N.length:=by have:=congrArg List.length S.pre;rw[X4] at this;omega
 obtain⟨h1,tk,rfl,hk⟩:=x.done;have noA:∀b:Addr,b∉(rV CX P w K mg base N qual scope f cd A outer s H E).ex:=fun b z=>absurd (show b∈([]:List Addr) from z) (by simp);refine⟨⟨e0.mod,S.kind,rfl,rfl,WJ _,fun y z c h1 h2=>?_,fun y hy=>?_,fun y c _ h=>?_,fun _=>hd,Around.frames_deeper e0.frames,.inr ⟨rfl,rfl⟩,fun b z=>absurd z (noA b),e0.bs,e0.bsz,fun b _ _=>noA b,fun b z=>absurd z (noA b),e0.funs,e0.frf⟩,
  rfl,e0.bare,Un.kept hk,⟨_,x.toInCall.ns,fun i y v h1 h2 h3=>?_⟩,fun y c h=>⟨_,x.cell y c h⟩,e0.hok.fresh (WJ _),fun y c h=>?_,fun p hp=>absurd (show p∈([]:QS) from hp) (by simp),e0.hok.kept hk,?_⟩
 ·exact name_of_addr x.apart (Xr h1) (Xr h2)
 ·have hy:scope.names.lookup y=some .cell\/scope.names.lookup y=some .free:=hy;rcases hy with hy|hy
  ·exact Je hy
  ·exact absurd rfl (S.nofree _ (Xr hy))
 ·exact Nat.le_of_lt (x.above y c (Xr h))
 ·have hi:i<vs.length:=by
   unfold vX at h2;by_cases hi:i<vs.length
   ·exact hi
   ·rw[Xn (by simpa using hi)] at h2;rw[List.getElem?_replicate] at h2;split at h2<;>cases h2
  have ha:vs[i]?=some v:=by
   unfold vX at h2;rw[WV (by simpa using hi),WY] at h2;cases e:vs[i]? with
   |none=>rw[e] at h2;cases h2
   |some a=>rw[e] at h2;cases h2;rfl
  obtain⟨u,hu,rv⟩:=r.get ha;have hp:ps[i]?=some y:=by
   rw[←S.pre,List.getElem?_take_of_lt (by omega)];exact h1
  have ndP:ps.Nodup:=by rw[←S.pre];exact S.nd.sublist (List.take_sublist _ _)
  refine⟨u,rv,?_⟩;rcases S.par y (List.mem_of_getElem? hp) with k|k
  ·exact .inl ⟨k,KN ndP hp hu k⟩
  ·obtain⟨c,e⟩:=Je (n:=s.heap.objs.size+1) k;refine .inr ⟨.inl k,c,e,?_⟩;have q:=x.cell y c e;rw[Mr ndP hp hu (by show scope.names.lookup y≠_;rw[k];decide)] at q;exact q
 ·exact e0.hok.fresh (Nat.le_of_lt (x.above y c (Xr h)))
 ·unfold vX;show _=N.length;rw[XA,WQ,List.length_replicate];omega
theorem JL{CX:CXT}{P:Program}{w:World}{K:Frag}{mg:Str->Option Value}{base:Heap}{k:Nat}{f:Addr}{name qual:Str}{params:Arguments}{body:List Stmt}{scope:Scope}{dV kV doc pm cdv ct oc:Value}{an od:Option Addr}
  {osl:Array (Option Value)} {N ps:List Str} {sp:Sp} (lk:K.lookup f=some ⟨oc,od,.func (fnOf name qual params body scope dV kV doc pm an cdv ct),osl⟩) (hcd:codeIn K cdv qual=true) (S:FnScope N ps scope)
  (len:∀vs H Q E,sp vs H Q E->vs.length=ps.length)
  (hbody:∀(A:Around) (outer:List Env) (s:Shared) (H:Hp) (vs:List V) (Q:VK) (E:XK),Room k (A.deeper (envOfC qual scope s.heap.objs.size f cdv))->sp vs H Q E->
   ∃t,PSs (rV CX P w K mg base N qual scope f cdv A outer s H E) body t/\t {nx:=fun _ H'=>Q .non H',rt:=Q} (vX N vs) H):
  FnOk P w K mg base CX (k+1) f (fnOf name qual params body scope dV kV doc pm an cdv ct) ps sp:=by
 refine⟨len,fun A outer s H args us vs Q E hr e0 hb r hsp=>?_⟩;have hl:=len _ _ _ _ hsp;have KX:K.In s.heap:=e0.mod.kin.keeps fun b o e=>(e0.bs b o e).1;have lim:s.heap.NoLimit:=e0.mod.nolimit.keeps fun b o e=>(e0.bs b o e).1;have hkind:∀y∈ps.zip us,scope.names.lookup y.1=some .local\/(scope.names.lookup y.1=some .cell/\((cellsFrom (s.heap.objs.size+1) scope.names []).lookup y.1).isSome=true):=fun⟨n,v⟩ hy=>by
  rcases S.par n (Ya hy).1 with q|q
  ·exact .inl q
  ·exact .inr ⟨q,PySem.W.cellsFrom_some _ _ _ (.inl q)⟩
 refine codeAny_call_function hr.depth (KX _ _ lk) rfl S.co S.gen rfl (PySem.W.codeRec_of KX hcd) (hb _ _ _ _ ?_);refine wpAny_newFunctionEnv_cells S.kind hkind fun env he s1 x=>?_;subst he;refine⟨lim.keeps x.toInCall.keep,codeAny_func ?_⟩;obtain⟨t,ht,hq⟩:=hbody A outer s H vs Q E (hr.deeper _) hsp;have I:Inv (rV CX P w K mg base N qual scope f cdv A outer s H E) [] (vX N vs) H s1:=Si S hr.hd e0 hl r x;refine(WO (ht [] s1 (vX N vs) H _ I hq) (fun fl s' hs=>?_) fun e s' hs=>hs);have fin:∀{ZZ:St} {H':Hp} {v:V} {u:Value},Inv (rV CX P w K mg base N qual scope f cdv A outer s H E) [] ZZ H' s'->RelV v u->Q v H'->CE outer P w H s Q u s':=
  fun{ZZ H' v u} Z6 rv q=>⟨v,H',Z6.os,Z6.bare,Z6.base,Z6.hok,rv,q⟩
 cases fl with
 |ret u=>
  obtain⟨v,ZZ,H',Z6,rv,q⟩:=hs;exact fin Z6 rv q
 |next=>
  obtain⟨ZZ,H',Z6,q⟩:=hs;exact fin (v:=V.non) (u:=Value.none) Z6 rfl q
 |brk=>
  obtain⟨_,_,_,q⟩:=hs;exact False.elim q
 |cont=>
  obtain⟨_,_,_,q⟩:=hs;exact(False.elim q)
section
variable {X:Cx} {x:Str} {p pos:Pos} {e:Expr} {es:List Expr} {t:TA} {id T:String} {r:List V->Hp->VK->Prop}
def tCB(r:List V->Hp->VK->Prop)(t:TA):TE:=fun B H Q=>t B H fun vs H1=>r vs H1 Q
theorem z9(hc:uY X (.builtin id) r)(hg:Gl X x)(hm:X.mg x=none)(hv:bootBuiltins x=some (.builtin id))(ha:PA X (e::es) t)(hn:x≠"__name__":=by decide) (hdb:(x==("__debug__":Str))=false:=by decide)
  (he:starEach (e::es) X.env=(false,eval e X.env)::starEach es X.env:=by rfl) (hpl:(backTo pos (starEach es X.env)).any (·.1)=false:=by rfl):PE X (.Call (.Name x p) (e::es) [] pos) (tCB r t):=by
 intro pins s B H Q I h;refine X7 (vn I hg hm hv ?_ hn hdb);exact PyProof.Rows.callWith_builtin1 (thn (ha pos pins s B H _ I h) fun us s1 ⟨vs,H1,I1,r1,q1⟩=>hc pins s1 B H1 vs us Q I1 r1 q1) he hpl
theorem A7(hc:uY X (.type T) r)(hg:Gl X x)(hm:X.mg x=none)(hv:bootBuiltins x=some (.type T))(ha:PA X (e::es) t)(hn:x≠"__name__":=by decide) (hdb:(x==("__debug__":Str))=false:=by decide)
  (he:starEach (e::es) X.env=(false,eval e X.env)::starEach es X.env:=by rfl) (hpl:(backTo pos (starEach es X.env)).any (·.1)=false:=by rfl):PE X (.Call (.Name x p) (e::es) [] pos) (tCB r t):=by
 intro pins s B H Q I h;refine X7 (vn I hg hm hv ?_ hn hdb);exact Xy (thn (ha pos pins s B H _ I h) fun us s1 ⟨vs,H1,I1,r1,q1⟩=>hc pins s1 B H1 vs us Q I1 r1 q1) he hpl
end
end L2
namespace HT
open PySem PyProof.Rows
section
open PySem.SeqAt
open PySem.AutoSeq1 (wpAny_loadPart')
open PySem.MeetsSeq PySem.MeetsSeq2 PySem.MeetsSeq3
end
section
variable {prog:Program} {w:World} {A:Around} {E:OK} {s:Shared}
theorem cat_tup{t b:Addr}{vs ws:List Value}{Q:OK}(ht:IsTup s.heap t vs.toArray)(hb:IsTup s.heap b ws.toArray)(hv:vs≠[])
  (h1:ws=[]->Q (.ref t) s) (h2:ws≠[]->Q (.ref s.heap.objs.size) {s with heap:=s.heap.push {cls:=.type "tuple",data:=.seq (vs++ws).toArray}})
  (hsz:vs.length+ws.length<=sizeLine):wpAny (model prog w) A (binaryOp .Add (.ref t) (.ref b)) Q E s:=by
 obtain⟨⟨cls,dd,data,sl⟩,ho,hc,n,hd⟩:=id ht;obtain⟨⟨cls2,dd2,data2,sl2⟩,ho2,hc2,n2,hd2⟩:=id hb;simp only at hc hd hc2 hd2;subst hc hd hc2 hd2;have e:vs.toArray++ws.toArray=(vs++ws).toArray:=by simp
 by_cases hw:ws=[]
 ·exact concat_meets ⟨_,ho,rfl⟩ ⟨_,ho2,rfl⟩ noFill_tuple_add seq_tuple_add PySem.F.slot_tuple_add PySem.F.entry_tuple_add (PySem.F.args_tuple_add_2 _ _)
   (tuple_addW1 t b vs.toArray ws.toArray n n2 dd dd2 sl sl2 (by simpa using hv) (by simp[hw])) ⟨ho,ho2,h1 hw⟩
 ·refine concat_meets ⟨_,ho,rfl⟩ ⟨_,ho2,rfl⟩ noFill_tuple_add seq_tuple_add PySem.F.slot_tuple_add PySem.F.entry_tuple_add (PySem.F.args_tuple_add_2 _ _)
   (tuple_addW2 t b vs.toArray ws.toArray n n2 dd dd2 sl sl2 (by simpa using hv) (by simpa using hw) (by rw[WW,WW];exact hsz)) ⟨ho,ho2,?_⟩
  rw[e];exact h2 hw
def sIx(n d:Nat):Option Int->Nat
 |none=>d
 |some v=>if v<0 then(v+(n:Int)).toNat else min v.toNat n
theorem sIx_none(n d:Nat):sIx n d none=d:=rfl
theorem sIx_nat(n d k:Nat):sIx n d (some (k:Int))=min k n:=by
 show(if(k:Int)<0 then((k:Int)+(n:Int)).toNat else min (k:Int).toNat n)=min k n;rw[if_neg (by omega),Int.toNat_natCast]
theorem Op(n d:Nat)(hd:d<=n)(o:Option Int):sIx n d o<=n:=by
 cases o with
 |none=>exact hd
 |some v=>
  show(if v<0 then(v+(n:Int)).toNat else min v.toNat n)<=n;by_cases hv:v<0
  ·rw[if_pos hv];omega
  ·rw[if_neg hv];exact Nat.min_le_right _ _
theorem HV(v:Int)(n d:Nat):(if v<0 then max (v+(n:Int)) 0 else min v (n:Int))=((sIx n d (some v):Nat):Int):=by
 show(if v<0 then max (v+(n:Int)) 0 else min v (n:Int))=(((if v<0 then(v+(n:Int)).toNat else min v.toNat n):Nat):Int)
 by_cases hv:v<0
 ·simp only[if_pos hv];omega
 ·simp only[if_neg hv];omega
theorem QH(lo hi:Option Int)(n:Nat):Builtin.Slice.sliceAdjust lo hi 1 (n:Int)=(((sIx n 0 lo:Nat):Int),((sIx n n hi:Nat):Int)):=by
 have h1:¬((1:Int)<0):=by omega
 unfold Builtin.Slice.sliceAdjust;simp only[h1,if_false];refine Prod.ext ?_ ?_
 ·cases lo with
  |none=>rfl
  |some v=>exact HV v n 0
 ·cases hi with
  |none=>rfl
  |some v=>exact HV v n n
theorem OS(i j:Nat):Builtin.Slice.slicePlaces (i:Int) (j:Int) 1=j - i:=by
 unfold Builtin.Slice.slicePlaces;have h1:(1:Int)>0:=by omega
 simp only[h1,if_true,Int.ediv_one];split<;>omega
theorem Ik{v:Value}{o:Option Int}{Q:Option Int->Shared->Prop}(p:IsPart v o)(h:Q o s):wpAny (model prog w) A (Builtin.Slice.slicePartIndex v) Q E s:=by
 cases p with
 |none=>exact slicePart_none h
 |int i t=>exact slicePart_int h
theorem WE{sl:Addr}{vl vu:Value}{lo hi:Option Int}{n:Nat}{Q:Int×Int×Nat->Shared->Prop}(hs:s.heap.IsSliceOf sl vl vu .none)(pl:IsPart vl lo)(pu:IsPart vu hi)
  (h:Q (((sIx n 0 lo:Nat):Int),1,sIx n n hi - sIx n 0 lo) s):wpAny (model prog w) A (Builtin.Slice.sliceApplied (.ref sl) (pure (n:Int))) Q E s:=by
 obtain⟨os,hos,hcs,hds⟩:=id hs;unfold Builtin.Slice.sliceApplied Builtin.Slice.sliceFields;refine WH (WH (wpAny_field hos hds (x:=vl) rfl (WH (wpAny_field hos hds (x:=vu) rfl (WH (wpAny_field hos hds (x:=.none) rfl (WM ?_)))))));refine WH (slicePart_none ?_);show wpAny _ _ (if((1:Int)==0)=true then _ else _) _ _ s;rw[if_neg (by decide)];refine WH (Ik pl (WH (Ik pu (WH (WM ?_)))));show wpAny _ _ (match Builtin.Slice.sliceAdjust lo hi 1 (n:Int) with|(lo,hi)=>pure (lo,(1:Int),Builtin.Slice.slicePlaces lo hi 1)) _ _ s;rw[QH lo hi n];show wpAny _ _ (pure (((sIx n 0 lo:Nat):Int),(1:Int),Builtin.Slice.slicePlaces ((sIx n 0 lo:Nat):Int) ((sIx n n hi:Nat):Int) 1)) _ _ s;rw[OS];exact WM h
theorem Wh(xs:Array Value)(i k:Nat):((List.range k).filterMap fun(m:Nat)=>xs[((i:Int)+(m:Int)*1).toNat]?).toArray=((xs.toList.drop i).take k).toArray:=by
 have e:(fun(m:Nat)=>xs[((i:Int)+(m:Int)*1).toNat]?)=fun m=>xs[i+m]?:=by
  funext m;have:((i:Int)+(m:Int)*1).toNat=i+m:=by omega
  rw[this]
 rw[e];have:=pick_run xs i k;rw[List.filterMap_map] at this;have e2:((fun x=>xs[x]?)∘fun x=>i+x)=fun m=>xs[i+m]?:=rfl;rw[e2] at this;rw[this]
theorem getItem_tuple_cut{t sl:Addr}{items:Array Value}{vl vu:Value}{lo hi:Option Int}{Q:OK}(ht:IsTup s.heap t items)(hs:s.heap.IsSliceOf sl vl vu .none)(pl:IsPart vl lo)(pu:IsPart vu hi)
  (hw:¬(sIx items.size 0 lo=0/\sIx items.size items.size hi=items.size))
  (h:Q (.ref s.heap.objs.size) {s with heap:=s.heap.push {cls:=.type "tuple",data:=.seq ((items.toList.drop (sIx items.size 0 lo)).take (sIx items.size items.size hi - sIx items.size 0 lo)).toArray}})
  (hsz:items.size<=sizeLine):wpAny (model prog w) A (getItem (.ref t) (.ref sl)) Q E s:=by
 have htake:sizeOk (.seq ((items.toList.drop (sIx items.size 0 lo)).take (sIx items.size items.size hi - sIx items.size 0 lo)).toArray):=by
  show((items.toList.drop (sIx items.size 0 lo)).take (sIx items.size items.size hi - sIx items.size 0 lo)).toArray.size<=sizeLine;rw[WW,X4,List.length_drop,X1];omega
 have hj:sIx items.size items.size hi<=items.size:=Op _ _ (WJ _) hi;obtain⟨os,hos,hcs,hds⟩:=id hs;have hTs:s.TypeIs (.ref sl) "slice":=⟨os,hos,hcs⟩
 unfold getItem;try with_reducible refine XV ?_
 first|refine WH (WM ?_)|skip
 refine WH (wpAny_sequenceKey ht.typeIs (by decide) ?_);refine WH (wpAny_callSpecial?_slot (name:=Str.ofString "__getitem__") ht.typeIs PyProof.Rows.slot_tuple_getitem
  (wpAny_call_entry PyProof.Rows.slot_tuple_getitem ht.typeIs entry_tuple_getitem ?_ (args_tuple_getitem _ _)))
 show wpAny _ _ (Builtin.Tuple.tupleItemsOf (.ref t) >>= _) _ _ s;refine WH (tupleItemsOf_ ht ?_);refine WH (wpAny_typeOf hTs ?_);rw[if_pos (by decide)];refine WH (WE hs pl pu ?_);have hno:¬((((sIx items.size 0 lo:Nat):Int)==0&&(1:Int)==1&&(sIx items.size items.size hi - sIx items.size 0 lo)==items.size)=true):=by
  intro q;rw[Xg,Xg] at q;have q1:((sIx items.size 0 lo:Nat):Int)=0:=eq_of_beq q.1.1;have q2:sIx items.size items.size hi - sIx items.size 0 lo=items.size:=eq_of_beq q.2;exact hw ⟨by omega,by omega⟩
 show wpAny _ _ (if(((sIx items.size 0 lo:Nat):Int)==0&&(1:Int)==1&&(sIx items.size items.size hi - sIx items.size 0 lo)==items.size)=true then _ else _) _ _ s;rw[if_neg hno,Wh];first
  |exact WH (m:=Builtin.Tuple.tupleExact _) (XE (WM ⟨_,rfl,WM h⟩) htake)
  |exact WH (m:=Builtin.Tuple.tupleExact _) (XE (WH (WM (WM ⟨_,rfl,WM h⟩))) htake)
  |exact WH (WH (m:=Builtin.Tuple.tupleExact _) (XE (WM (WM ⟨_,rfl,WM h⟩)) htake))
  |exact WH (WH (m:=Builtin.Tuple.tupleExact _) (XE (WM ⟨_,rfl,WM h⟩) htake))
end
end HT
namespace L2
open PySem PySem.Spec PyProof.Rows
abbrev TO:=St->Hp->(Option Int->Hp->Prop)->Prop
def PO(X:Cx)(e:Option Expr)(t:TO):Prop:=
 ∀(pins:QS) (s:Shared) (B:St) (H:Hp) (Q:Option Int->Hp->Prop),Inv X pins B H s->t B H Q->
  wpAny (model X.prog X.w) X.A (evalPart e X.env) (fun u s'=>∃o H',Inv X pins B H' s'/\IsPart u o/\Q o H') X.xe s
def Pz:TO:=fun _ H Q=>Q none H
def Q3(t:TE):TO:=fun B H Q=>t B H fun x H1=>∃i,x=.int i/\Q (some i) H1
def SR{ns:List Int}:∀{us:List Value},Vals (ns.map V.int) us->IntsAre us ns:=by
 induction ns with
 |nil=>intro us r;rw[List.map_nil] at r;cases r;exact .nil
 |cons n ns ih=>
  intro us r;rw[WT] at r;cases r with
  |cons r1 r2=>
   obtain⟨t,e⟩:=r1;subst e;exact(.cons n t (ih r2))
section
variable {X:Cx} {e:Expr} {te:TE} {lo hi:Option Expr} {tl th:TO} {pos p2:Pos}
theorem TK:PO X none Pz:=by
 intro pins s B H Q I h;rw[evalPart_none];exact WM ⟨none,H,I,.none,h⟩
theorem U8(h:PE X e te):PO X (some e) (Q3 te):=by
 intro pins s B H Q I hw;rw[evalPart_some];refine thn (h pins s B H _ I hw) fun u s1 hm=>?_;obtain⟨x,H1,I1,r1,q1⟩:=hm;obtain⟨i,rfl,q⟩:=q1;obtain⟨t,rfl⟩:=r1;exact(⟨some i,H1,I1,.int i t,q⟩)
def SlR(X:Cx)(r:V->Option Int->Option Int->Hp->VK->Prop):Prop:=
 ∀(pins:QS) (s:Shared) (B:St) (H:Hp) (x:V) (v vl vu:Value) (lo hi:Option Int) (sl:Addr) (Q:VK),Inv X pins B H s->RelV x v->s.heap.IsSliceOf sl vl vu .none->IsPart vl lo->IsPart vu hi->r x lo hi H Q->
  ∃T id,typeLookup (.type T) "__getitem__"=pure (some (.builtin id))/\s.TypeIs v T/\wpAny (model X.prog X.w) X.A (getItem v (.ref sl)) (EP X pins B Q) X.xe s
theorem SlR.or{r r':V->Option Int->Option Int->Hp->VK->Prop}(h:SlR X r)(h':SlR X r'):SlR X (fun x lo hi H Q=>r x lo hi H Q\/r' x lo hi H Q):=by
 intro pins s B H x v vl vu lo hi sl Q I rx hs pl pu q;rcases q with q|q
 ·exact h pins s B H x v vl vu lo hi sl Q I rx hs pl pu q
 ·exact h' pins s B H x v vl vu lo hi sl Q I rx hs pl pu q
def tSl(r:V->Option Int->Option Int->Hp->VK->Prop)(te:TE)(tl th:TO):TE:=fun B H Q=>te B H fun x H1=>tl B H1 fun l H2=>th B H2 fun u H3=>r x l u H3 Q
theorem RH{r:V->Option Int->Option Int->Hp->VK->Prop}(hr:SlR X r)(he:PE X e te)(hl:PO X lo tl)(hu:PO X hi th):PE X (.Subscript e (.Slice lo hi none p2) pos) (tSl r te tl th):=by
 intro pins s B H Q I h;refine Subscript_ (thn (he pins s B H _ I h) fun v s1 hm=>?_);obtain⟨x,H1,I1,r1,q1⟩:=hm;refine(wpAny_Slice (thn (hl pins s1 B H1 _ I1 q1) fun vl s2 ⟨l,H2,I2,pl,q2⟩=>thn (hu pins s2 B H2 _ I2 q2) fun vu s3 hm=>?_));obtain⟨u,H3,I3,pu,q3⟩:=hm;rw[evalPart_none];refine WM ?_;have I4:Inv X pins B H3 {s3 with heap:=s3.heap.push {cls:=.type "slice",data:=.fields #[vl,vu,.none]}}:=I3.kept (t':=s3.toks) fun b ob q=>WK _ q;obtain⟨T,id,hT,ht,hg⟩:=hr pins {s3 with heap:=s3.heap.push {cls:=.type "slice",data:=.fields #[vl,vu,.none]}} B H3 x v vl vu l u s3.heap.objs.size Q I4 r1 (Heap.IsSliceOf.new ..) pl pu q3;show wpAny (model X.prog X.w) X.A (subscriptTail e (.Slice lo hi none p2) v (.ref s3.heap.objs.size)) (EP X pins B Q) X.xe {s3 with heap:=s3.heap.push {cls:=.type "slice",data:=.fields #[vl,vu,.none]}};exact tail_any (ops:=[.ref s3.heap.objs.size,v]) ht hT hg (by with_unfolding_all rfl)
def ve(xs:List V)(lo hi:Option Int):List V:=(xs.drop (HT.sIx xs.length 0 lo)).take (HT.sIx xs.length xs.length hi - HT.sIx xs.length 0 lo)
theorem KK(xs:List V)(lo hi:Option Int):(ve xs lo hi).length<=xs.length:=by
 unfold ve;rw[X4,List.length_drop];omega
def Q9(K:Frag):V->Option Int->Option Int->Hp->VK->Prop:=fun x lo hi H Q=>∃a xs,x=.ref a/\SqT K H a xs/\
 ¬(HT.sIx xs.length 0 lo=0/\HT.sIx xs.length xs.length hi=xs.length)/\∀p,H p=none->Q (.ref p) (upd H p (.tup (ve xs lo hi)))
theorem Wv:SlR X (Q9 X.K):=by
 intro pins s B H x v vl vu lo hi sl Q I rx hs pl pu h;obtain⟨a,xs,rfl,hx,hw,q⟩:=h;cases rx;obtain⟨its,r,ht,hz⟩:=I.tuple hx;have hlen:its.toArray.size=xs.length:=by rw[WW];exact r.length.symm
 refine(⟨"tuple",_,PyProof.Rows.slot_tuple_getitem.lookup,ht.typeIs,?_⟩);refine HT.getItem_tuple_cut ht hs pl pu (by rw[hlen];exact hw) ?_ (by rw[hlen];exact hz);rw[hlen];refine⟨.ref s.heap.objs.size,_,I.laid (t':=s.toks) (o:=.tup (ve xs lo hi)) (fun b ob q=>WK _ q) (WJ _) ?_,rfl,q _ (I.hok.fresh (WJ _))⟩;exact⟨Xo (KK xs lo hi) hz,_,(r.drop (HT.sIx xs.length 0 lo)).take (HT.sIx xs.length xs.length hi - HT.sIx xs.length 0 lo),IsTup.new _ _⟩
def FN(K:Frag):R2:=fun x y H Q=>∃a b xs ys,x=.ref a/\y=.ref b/\SqT K H a xs/\SqT K H b ys/\xs≠[]/\xs.length+ys.length<=sizeLine/\
 (ys=[]->Q (.ref a) H)/\(ys≠[]->∀p,H p=none->Q (.ref p) (upd H p (.tup (xs++ys))))
theorem Vals.nil_iff{xs:List V}{us:List Value}(r:Vals xs us):us=[]↔xs=[]:=by
 cases r with
 |nil=>simp
 |cons _ _=>simp
theorem P1:OpR X (binaryOp .Add) (FN X.K):=by
 intro pins s B H x y v u Q I rx ry h;obtain⟨a,b,xs,ys,rfl,rfl,ha,hb,hx,hz,q1,q2⟩:=h;cases rx;cases ry;obtain⟨its,r1,p1,_⟩:=I.tuple ha;obtain⟨its2,r2,p2,_⟩:=I.tuple hb;refine HT.cat_tup p1 p2 (fun z=>hx (r1.nil_iff.mp z)) (fun z=>⟨.ref a,H,I,rfl,q1 (r2.nil_iff.mp z)⟩) (fun z=>?_) (by rw[←r1.length,←r2.length];exact hz);refine⟨.ref s.heap.objs.size,_,I.laid (t':=s.toks) (o:=.tup (xs++ys)) (fun b ob q=>WK _ q) (WJ _) ?_,rfl,q2 (fun w=>z (r2.nil_iff.mpr w)) _ (I.hok.fresh (WJ _))⟩;exact⟨by rw[XA];exact hz,_,r1.append r2,IsTup.new _ _⟩
end
def ixN(n:Nat)(i:Int):Option Nat:=if 0<=i then(if i<n then some i.toNat else none) else if -(n:Int)<=i then some (i+n).toNat else none
def atI{J:Type}(xs:List J)(i:Int):Option J:=(ixN xs.length i).bind fun j=>xs[j]?
def JM{n:Nat}{i:Int}{j:Nat}(h:ixN n i=some j):seqIndex? i n=some j/\j<n/\-(n:Int)<=i/\i<n:=by
 unfold ixN at h;by_cases h0:0<=i
 ·rw[if_pos h0] at h;by_cases h1:i<n
  ·rw[if_pos h1] at h;have e:i.toNat=j:=Xa h;exact⟨by rw[seqIndex_of h0 h1,e],by omega,by omega,h1⟩
  ·rw[if_neg h1] at h;cases h
 ·rw[if_neg h0] at h;by_cases h1:-(n:Int)<=i
  ·rw[if_pos h1] at h;have e:(i+n).toNat=j:=Xa h;exact⟨by rw[seqIndex_neg (by omega) h1,e],by omega,h1,by omega⟩
  ·rw[if_neg h1] at h;cases h
def C1{J:Type}{xs:List J}{i:Int}{v:J}(h:atI xs i=some v):∃j,seqIndex? i xs.length=some j/\xs[j]?=some v/\j<xs.length/\-(xs.length:Int)<=i/\i<xs.length:=by
 unfold atI at h;cases e:ixN xs.length i with
 |none=>rw[e] at h;cases h
 |some j=>
  rw[e] at h;obtain⟨h1,h2,h3,h4⟩:=JM e;exact(⟨j,h1,h,h2,h3,h4⟩)
def Ri{J:Type}{xs:List J}{j:Nat}{v:J}(h:xs[j]?=some v):atI xs (j:Int)=some v:=by
 have hj:j<xs.length:=(WL.mp h).1;have e:ixN xs.length (j:Int)=some j:=by
  unfold ixN;rw[if_pos (by omega),if_pos (by omega)];simp
 unfold atI;rw[e];exact h
def Li(b:Expr):Prop:=∀o i,subscripted b false o i=operate [o,i] (getItem o i)
def IxR(X:Cx)(r:R2):Prop:=
 ∀(value slice:Expr) (pins:QS) (s:Shared) (B:St) (H:Hp) (x y:V) (v u:Value) (Q:VK),Inv X pins B H s->RelV x v->RelV y u->r x y H Q->
  subscripted slice false v u=operate [v,u] (getItem v u)->wpAny (model X.prog X.w) X.A (subscriptTail value slice v u) (EP X pins B Q) X.xe s
def MtR(X:Cx)(id:String)(r:V->List V->Hp->VK->Prop):Prop:=
 ∀(pins:QS) (s:Shared) (B:St) (H:Hp) (x:V) (xs:List V) (v:Value) (us:List Value) (Q:VK),Inv X pins B H s->RelV x v->Vals xs us->r x xs H Q->
  wpAny (model X.prog X.w) X.A (call (.builtin id) (v::us)) (EP X pins B Q) X.xe s
section
variable {X:Cx} {a b:Expr} {ta tb:TE} {pos:Pos}
theorem IxR.or{r r':R2}(h:IxR X r)(h':IxR X r'):IxR X (fun x y H Q=>r x y H Q\/r' x y H Q):=by
 intro value slice pins s B H x y v u Q I rx ry q hs;rcases q with q|q
 ·exact h value slice pins s B H x y v u Q I rx ry q hs
 ·exact h' value slice pins s B H x y v u Q I rx ry q hs
theorem Oq{r:R2}(hr:IxR X r)(ha:PE X a ta)(hb:PE X b tb)(hs:Li b):PE X (.Subscript a b pos) (tOp r ta tb):=by
 intro pins s B H Q I h;exact Subscript_ (DZ ha hb I h fun v u s2 x y H2 I2 rx ry q=>hr a b pins s2 B H2 x y v u Q I2 rx ry q (hs _ _))
def Kl(K:Frag):R2:=fun x y H Q=>∃p xs i v,x=.ref p/\y=.int i/\SqL K H p xs/\atI xs i=some v/\Q v H
def Ge(K:Frag):R2:=fun x y H Q=>∃p xs i v,x=.ref p/\y=.int i/\SqT K H p xs/\atI xs i=some v/\Q v H
def Km:R2:=fun x y H Q=>∃z i c,x=.str z/\y=.int i/\z.length<=sizeLine/\atI z.cps.toList i=some c/\Q (.str ⟨#[c]⟩) H
theorem ix_list:IxR X (Kl X.K):=by
 intro value slice pins s B H x y v u Q I rx ry h hs;obtain⟨p,xs,i,z,rfl,rfl,hq,he,q⟩:=h;cases rx;obtain⟨t,rfl⟩:=ry;obtain⟨its,r,pl,hz⟩:=I.list hq;obtain⟨j,h1,h2,h3,h4,h5⟩:=C1 he;obtain⟨w,ew,rw'⟩:=r.get h2;have hl:=r.length;have hn:=yY;have fin:EP X pins B Q w s:=⟨z,H,I,rw',q⟩
 by_cases h0:0<=i
 ·have hj:i.toNat=j:=by
   rw[seqIndex_of h0 h5] at h1;exact Xa h1
  exact item_listR pl.isList h0 (by omega) (by rw[hj];simpa using ew) fin hs
 ·have hj:(i+(its.toArray.size:Int)).toNat=j:=by
   rw[seqIndex_neg (by omega) h4] at h1;rw[WW,←hl];exact Xa h1
  exact subscriptTail_builtinR (x:=w) pl.isList.typeIs slot_list_getitem.lookup
   (wpAny_getItem_list_neg (Q:=fun r s'=>r=w/\EP X pins B Q r s') pl.isList (by omega) (by rw[WW]<;>omega) (by omega) (by rw[hj];simpa using ew) ⟨rfl,fin⟩) hs
theorem ix_tup:IxR X (Ge X.K):=by
 intro value slice pins s B H x y v u Q I rx ry h hs;obtain⟨p,xs,i,z,rfl,rfl,hq,he,q⟩:=h;cases rx;obtain⟨t,rfl⟩:=ry;obtain⟨its,r,pl,hz⟩:=I.tuple hq;obtain⟨j,h1,h2,h3,h4,h5⟩:=C1 he;obtain⟨w,ew,rw'⟩:=r.get h2;have hl:=r.length;have hn:=yY;have fin:EP X pins B Q w s:=⟨z,H,I,rw',q⟩
 exact subscriptTail_builtinR (x:=w) pl.typeIs slot_tuple_getitem.lookup
  (getItem_tuple (j:=j) (Q:=fun r s'=>r=w/\EP X pins B Q r s') pl (by omega) (by omega) (by rw[WW,←hl];exact h1) (by simpa using ew) ⟨rfl,fin⟩) hs
theorem OP:IxR X Km:=by
 intro value slice pins s B H x y v u Q I rx ry h hs;obtain⟨z,i,c,rfl,rfl,hz,he,q⟩:=h;obtain⟨t,rfl⟩:=rx;obtain⟨t',rfl⟩:=ry;obtain⟨j,h1,h2,h3,h4,h5⟩:=C1 he;have hl:z.cps.toList.length=z.length:=by simp[Str.length]
 rw[hl] at h1 h4 h5;have hn:=yY;exact tail_any (typeIs_str s z t) slot_str_getitem.lookup (getItem_str (c:=c) (by
  have e1:decide (i< -(2^63:Int))=false:=W9 (by omega);have e2:decide (i>=2^63)=false:=W9 (by omega);rw[e1,e2,Bool.or_false]) (by rw[h1];simpa using h2) ⟨.str ⟨#[c]⟩,H,I.tok _,⟨_,rfl⟩,q⟩) hs
def rIx(K:Frag):R2:=fun x y H Q=>Kl K x y H Q\/Ge K x y H Q\/Km x y H Q
theorem NF:IxR X (rIx X.K):=ix_list.or (ix_tup.or OP)
theorem RM(its:List Value)(n j:Nat)(u:Value):Obj.mapSeq (·.setIfInBounds j u) {cls:=.type "list",data:=.seq its.toArray n}={cls:=.type "list",data:=.seq (its.set j u).toArray n}:=by
 simp[Obj.mapSeq]
theorem Inv.lst{pins:QS}{B:St}{H:Hp}{s:Shared}{p:Addr}{xs:List V}(I:Inv X pins B H s)(h:H p=some (.lst xs)):
  ∃(its:List Value) (n:Nat),Vals xs its/\s.heap.get? p=some {cls:=.type "list",data:=.seq its.toArray n}/\xs.length<=sizeLine:=by
 obtain⟨z,its,n,r,e⟩:=I.hok p _ h;exact(⟨its,n,r,e,z⟩)
theorem Inv.lstUpd{pins:QS}{B:St}{H:Hp}{s:Shared}{p:Addr}{xs ys:List V}{its its':List Value}{n n':Nat}{f:Obj->Obj}(I:Inv X pins B H s)(h:H p=some (.lst xs))
  (ho:s.heap.get? p=some {cls:=.type "list",data:=.seq its.toArray n}) (hf:f {cls:=.type "list",data:=.seq its.toArray n}={cls:=.type "list",data:=.seq its'.toArray n'}) (r:Vals ys its') (hz:ys.length<=sizeLine) (t:Nat):
  Inv X pins B (upd H p (.lst ys)) {s with heap:=s.heap.update p f,toks:=t}:=by
 have e:(s.heap.update p f).get? p=some {cls:=.type "list",data:=.seq its'.toArray n'}:=by
  rw[Heap.get?_update_self f ho (by rw[hf]<;>rfl),hf]
 refine I.write (x:=p) (e:=p) (by rw[h];trivial) (.inl rfl) (fun b u hb q=>(XN _ _ (Ne.symm hb)).trans q) ⟨_,e⟩ ?_;exact⟨hz,its',n',r,e⟩
def U1:V->V->V->Hp->(Hp->Prop)->Prop:=fun o i v H Q=>∃p xs k j,o=.ref p/\i=.int k/\H p=some (.lst xs)/\ixN xs.length k=some j/\Q (upd H p (.lst (xs.set j v)))
theorem Nr:KU X U1:=by
 intro pins s B H o i v ov iv u Q I ro ri rv h;obtain⟨p,xs,k,j,rfl,rfl,hp,hj,q⟩:=h;cases ro;obtain⟨t,rfl⟩:=ri;obtain⟨its,n,r,ho,hz⟩:=I.lst hp;obtain⟨h1,h2,h3,h4⟩:=JM hj;have hl:=r.length;have hn:=yY;have I':Inv X pins B (upd H p (.lst (xs.set j v))) {s with heap:=s.heap.update p (Obj.mapSeq (·.setIfInBounds j u))}:=
  I.lstUpd hp ho (RM its n j u) (r.set rv j) (by rw[X0];exact hz) s.toks
 by_cases h0:0<=k
 ·have hk:k.toNat=j:=by
   rw[seqIndex_of h0 h4] at h1;exact Xa h1
  exact PySem.W.ki_setAt ho h0 (by omega) (by rw[WW,←hl];exact h4) (by rw[hk];exact⟨_,I',q⟩)
 ·have hk:(k+(its.toArray.size:Int)).toNat=j:=by
   rw[seqIndex_neg (by omega) h3] at h1;rw[WW,←hl];exact Xa h1
  exact PySem.W.ki_setBack ho (by omega) (by rw[WW,←hl];exact h3) (by omega) (by rw[hk];exact⟨_,I',q⟩)
theorem VO(lo hi:Option Int)(n:Nat):(sliceBounds lo hi none n).1=((HT.sIx n 0 lo:Nat):Int)/\(sliceBounds lo hi none n).2.1=((HT.sIx n n hi:Nat):Int)/\(sliceBounds lo hi none n).2.2=1:=by
 refine⟨?_,?_,rfl⟩
 ·cases lo with
  |none=>simp[sliceBounds,HT.sIx]
  |some i=>
   simp only[sliceBounds,HT.sIx,Option.getD_none,show(1:Int)>0 by decide,if_true];by_cases h:i<0
   ·simp only[h,if_true]<;>omega
   ·simp only[h,if_false]<;>omega
 ·cases hi with
  |none=>simp[sliceBounds,HT.sIx]
  |some i=>
   simp only[sliceBounds,HT.sIx,Option.getD_none,show(1:Int)>0 by decide,if_true];by_cases h:i<0
   ·simp only[h,if_true]<;>omega
   ·simp only[h,if_false]<;>omega
theorem OT(its:List Value)(lo hi:Option Int):slicePick its.toArray lo hi none=((its.drop (HT.sIx its.length 0 lo)).take (HT.sIx its.length its.length hi - HT.sIx its.length 0 lo)).toArray:=by
 obtain⟨h1,h2,h3⟩:=VO lo hi its.toArray.size;unfold slicePick;rw[h1,h2,h3];simp only[sliceRange_one,pick_run,WW]<;>rfl
def R5(K:Frag):V->Option Int->Option Int->Hp->VK->Prop:=fun x lo hi H Q=>∃a xs,x=.ref a/\SqL K H a xs/\∀p,H p=none->Q (.ref p) (upd H p (.lst (ve xs lo hi)))
theorem sl_list:SlR X (R5 X.K):=by
 intro pins s B H x v vl vu lo hi sl Q I rx hs pl pu h;obtain⟨a,xs,rfl,hx,q⟩:=h;cases rx;obtain⟨its,r,ht,hz⟩:=I.list hx;have hlen:=r.length;refine(⟨"list",_,slot_list_getitem.lookup,ht.isList.typeIs,?_⟩);refine wpAny_getItem_list_slice ht.isList hs pl pu .none (by simp) ?_ (by rw[WW]<;>omega);rw[OT,←hlen];refine⟨.ref s.heap.objs.size,_,I.laid (t':=s.toks) (o:=.lst (ve xs lo hi)) (fun b ob q=>WK _ q) (WJ _) ?_,rfl,q _ (I.hok.fresh (WJ _))⟩;exact⟨Xo (KK xs lo hi) hz,_,0,(r.drop (HT.sIx xs.length 0 lo)).take (HT.sIx xs.length xs.length hi - HT.sIx xs.length 0 lo),WR _ rfl⟩
theorem PF:uY X (.builtin "len") (fun xs H Q=>∃p ys,xs=[.ref p]/\(SqL X.K H p ys\/SqT X.K H p ys)/\Q (.int ys.length) H):=by
 intro pins s B H xs us Q I r h;obtain⟨p,ys,rfl,hq,q⟩:=h;obtain⟨u,rfl,rx⟩:=wE r;cases rx;have hn:=yY;rcases hq with hq|hq
 ·obtain⟨its,r',pl,hz⟩:=I.list hq;have hlen:=r'.length;exact Calls.call_len_list pl.isList (by simp only[WW]<;>omega) ⟨.int ys.length,H,I.tok _,⟨s.toks+1,by rw[WW,hlen]⟩,q⟩
 ·obtain⟨its,r',pl,hz⟩:=I.tuple hq;have hlen:=r'.length;exact len_tuple pl (by simp only[WW]<;>omega) ⟨.int ys.length,H,I.tok _,⟨s.toks+1,by rw[WW,hlen]⟩,q⟩
theorem RQ:uY X (.type "tuple") (fun xs H Q=>∃p ys,xs=[.ref p]/\((SqL X.K H p ys/\∀l,H l=none->Q (.ref l) (upd H l (.tup ys)))\/(SqT X.K H p ys/\Q (.ref p) H))):=by
 intro pins s B H xs us Q I r h;obtain⟨p,ys,rfl,h⟩:=h;obtain⟨u,rfl,rx⟩:=wE r;cases rx;rcases h with⟨hq,q⟩|⟨hq,q⟩
 ·obtain⟨its,r',pl,hz⟩:=I.list hq;have hlen:=r'.length;refine call_tuple_list pl.isList (fun h' kp=>?_) (by simp only[WW]<;>omega);have I1:Inv X pins B H {s with heap:=h'}:=I.kept (t':=s.toks) kp;have I2:Inv X pins B (upd H h'.objs.size (.tup ys)) {s with heap:=h'.push {cls:=.type "tuple",data:=.seq its.toArray}}:=
   I1.laid (t':=s.toks) (fun b o e=>WK _ e) (WJ _) (show ObjOk X.prog X.w _ _ _ (.tup ys) from⟨hz,its,r',IsTup.new _ _⟩)
  exact⟨.ref h'.objs.size,_,I2,rfl,q _ (I1.hok.fresh (WJ _))⟩
 ·obtain⟨its,r',pl,hz⟩:=I.tuple hq;exact call_tuple_same pl ⟨.ref p,H,I,rfl,q⟩
def tyV(K:Frag)(T:String)(x:V)(H:Hp):Prop:=match x with
 | .str _=>T="str"
 | .int _=>T="int"
 | .ref p=>(T="list"/\ ∃xs,SqL K H p xs)\/(T="tuple"/\ ∃o,K.lookup p=some o/\o.cls=.type "tuple"/\o.dict=none)\/
   (T="dict"/\((∃kvs,H p=some (.dK kvs))\/∃kvs,H p=some (.dT kvs)))\/(T="set"/\ ∃S n,H p=some (.set S n))
 |_=>False
theorem Jd{pins:QS}{B:St}{H:Hp}{s:Shared}{T:String}{x:V}{v:Value}(I:Inv X pins B H s)(r:RelV x v)(ty:tyV X.K T x H):
  s.TypeIs v T/\∀a,v=.ref a->∃ob,s.heap.get? a=some ob/\ob.dict=none:=by
 cases x with
 |str z=>
  obtain⟨t,rfl⟩:=r;cases (show T="str" from ty);exact⟨typeIs_str s z t,fun _ e=>nomatch e⟩
 |int i=>
  obtain⟨t,rfl⟩:=r;cases (show T="int" from ty);exact⟨typeIs_int s i t,fun _ e=>nomatch e⟩
 |ref p=>
  cases r;rcases ty with⟨rfl,xs,hq⟩|⟨rfl,o,hk,hc,hd⟩|⟨rfl,hk⟩|⟨rfl,S,n,hk⟩
  ·obtain⟨its,_,pl,_⟩:=I.list hq;refine⟨pl.isList.typeIs,fun a e=>?_⟩;cases e;obtain⟨o,n,e,c,hd,_⟩:=pl;exact(⟨o,e,hd⟩)
  ·refine⟨⟨o,I.kIn p o hk,hc⟩,fun a e=>?_⟩;cases e;exact⟨o,I.kIn _ o hk,hd⟩
  ·have z:∃o,s.heap.get? p=some o/\o.ExactDict:=by
    rcases hk with⟨kvs,hk⟩|⟨kvs,hk⟩
    ·obtain⟨_,_,_,_,o,_,_,e,ex,_⟩:=I.hok p _ hk;exact⟨o,e,ex⟩
    ·obtain⟨_,_,_,_,o,_,_,e,ex,_⟩:=I.hok p _ hk;exact⟨o,e,ex⟩
   obtain⟨o,e,ex⟩:=z;refine(⟨⟨o,e,ex.1⟩,fun a e2=>?_⟩);cases e2;exact⟨o,e,ex.2.1⟩
  ·obtain⟨o,_,_,_,e,ex,_⟩:=I.hok p _ hk;refine⟨⟨o,e,ex.1⟩,fun a e2=>?_⟩;cases e2;exact⟨o,e,ex.2.1⟩
 |_=>exact False.elim ty
def DH(K:Frag)(T:String)(r:V->List V->Hp->VK->Prop)(to:TE):TE:=fun B H Q=>to B H fun x H1=>tyV K T x H1/\r x [] H1 Q
def tBM(K:Frag)(T:String)(r:V->List V->Hp->VK->Prop)(to:TE)(t:TA):TE:=fun B H Q=>to B H fun x H1=>tyV K T x H1/\t B H1 fun xs H2=>r x xs H2 Q
variable {o e:Expr} {es:List Expr} {to:TE} {t:TA} {name:Str} {apos cpos:Pos} {T id:String} {r:V->List V->Hp->VK->Prop}
theorem Ky(pa:PlainAttrs T)(slot:Slot T name id)(hty:typeOf (.builtin id)=pure (.type "method_descriptor")) (hm:MtR X id r) (ho:PE X o to)
  (hbase:attributeBase o name X.env (eval o X.env)=eval o X.env:=by rfl) (hline:(apos.endLine==cpos.line)=true:=by rfl):PE X (.Call (.Attribute o name apos) [] [] cpos) (DH X.K T r to):=by
 intro pins s B H Q I h;refine wpAny_Call_method0_late hbase hline (thn (ho pins s B H _ I h) fun v s1 hm=>?_);obtain⟨x,H1,I1,r1,ty,q1⟩:=hm;obtain⟨h1,h2⟩:=Jd I1 r1 ty;exact(⟨T,id,pa,slot,hty,h1,h2,Calls.callWith_builtin rfl (PySem.evalArgs_none (hm pins s1 B H1 x [] v [] Q I1 r1 .nil q1))⟩)
theorem HN(pa:PlainAttrs T)(slot:Slot T name id)(hty:typeOf (.builtin id)=pure (.type "method_descriptor")) (hm:MtR X id r) (ho:PE X o to) (ha:PA X (e::es) t)
  (hbase:attributeBase o name X.env (eval o X.env)=eval o X.env:=by rfl)
  (hfew:((backTo cpos (starEach (e::es) X.env)).all (fun x=>!x.1)&&(backToKw cpos (keywordEach [] X.env)).all (fun x=>x.1.isSome)
   &&decide ((e::es).length+([]:List Keyword).length+(if([]:List Keyword).isEmpty then 0 else 1)<30))=true:=by rfl)
  (hline:(apos.endLine==cpos.line)=true:=by rfl) (hs:starEach (e::es) X.env=(false,eval e X.env)::starEach es X.env:=by rfl) (hplain:(backTo cpos (starEach es X.env)).any (·.1)=false:=by rfl):
  PE X (.Call (.Attribute o name apos) (e::es) [] cpos) (tBM X.K T r to t):=by
 intro pins s B H Q I h;refine wpAny_Call_method_late hbase hfew hline rfl (thn (ho pins s B H _ I h) fun v s1 hm=>?_);obtain⟨x,H1,I1,r1,ty,q1⟩:=hm;obtain⟨h1,h2⟩:=Jd I1 r1 ty;refine(⟨T,id,pa,slot,hty,h1,h2,?_⟩);have hA:=ha cpos pins s1 B H1 _ I1 q1;rw[hs] at hA⊢;refine Calls.callWith_builtin (by show(false||(backTo cpos (starEach es X.env)).any (·.1))=false;rw[hplain]<;>rfl) (Calls.evalArgs_plain ?_);exact thn hA fun us s2 ⟨vs,H2,I2,r2,q2⟩=>hm pins s2 B H2 x vs v us Q I2 r1 r2 q2
end
def MtM(X:Cx)(id:String)(r:V->List V->Hp->VK->Prop):Prop:=
 ∀(pins:QS) (s:Shared) (B:St) (H:Hp) (x:V) (xs:List V) (v:Value) (us:List Value) (Q:VK),Inv X pins B H s->RelV x v->Vals xs us->r x xs H Q->
  wpAny (model X.prog X.w) X.A (call (.builtin id) (v::us)) (EP X pins B Q) X.xe s
def Vals.one{x:V}{us:List Value}(h:Vals [x] us):∃u,us=[u]/\RelV x u:=by
 cases h with|cons r t=>cases t;exact⟨_,rfl,r⟩
def Vals.two{x y:V}{us:List Value}(h:Vals [x,y] us):∃u v,us=[u,v]/\RelV x u/\RelV y v:=by
 cases h with|cons r t=>obtain⟨v,rfl,q⟩:=Vals.one t;exact⟨_,v,rfl,r,q⟩
theorem Vals.zero:∀{us:List Value},Vals [] us->us=[]
 |_,.nil=>rfl
theorem Vals.rep{xs:List V}{us:List Value}(h:Vals xs us):∀k:Nat,Vals (List.replicate k xs).flatten (List.replicate k us).flatten
 |0=>.nil
 |k+1=>by
  rw[X2,X2,List.flatten_cons,List.flatten_cons];exact Vals.append h (Vals.rep h k)
theorem MM(its:List Value):∀(k:Nat) (acc:List Value),
  List.foldl (fun x1 x2=>x1++x2) acc.toArray (List.replicate k its.toArray)=(acc++(List.replicate k its).flatten).toArray
 |0,acc=>by simp
 |k+1,acc=>by
  have e:acc.toArray++its.toArray=(acc++its).toArray:=by simp
  have e2:(acc++its)++(List.replicate k its).flatten=acc++(List.replicate (k+1) its).flatten:=by
   rw[X2,List.flatten_cons,List.append_assoc]
  rw[←e2,←MM its k (acc++its),←e,X2,List.foldl_cons]
section
variable {X:Cx} {pins:QS} {B:St} {H:Hp} {s:Shared} {l:Addr} {xs ys:List V}
theorem Inv.lset{its its':List Value}{n:Nat}{f:Array Value->Array Value}{t':Nat}(I:Inv X pins B H s)(hH:H l=some (.lst xs))
  (e:s.heap.get? l=some {cls:=.type "list",data:=.seq its.toArray n}) (hf:f its.toArray=its'.toArray) (hv:Vals ys its') (hz:ys.length<=sizeLine):
  Inv X pins B (upd H l (.lst ys)) {s with heap:=s.heap.update l (Obj.mapSeq f),toks:=t'}:=by
 have q:=PySem.IsL.update e f;rw[hf] at q;refine I.write (x:=l) (e:=l) (by rw[hH];exact trivial) (.inl rfl) (fun b' u hb hu=>(XN s.heap (Obj.mapSeq f) (Ne.symm hb)).trans hu) ⟨_,q⟩ ?_;exact⟨hz,its',_,hv,q⟩
theorem Inv.lnew{its:List Value}{t':Nat}(I:Inv X pins B H s)(hv:Vals ys its)(hz:ys.length<=sizeLine):
  Inv X pins B (upd H s.heap.objs.size (.lst ys)) {s with heap:=s.heap.push {cls:=.type "list",data:=.seq its.toArray},toks:=t'}:=
 I.laid (fun _ _ q=>WK _ q) (WJ _) ⟨hz,its,0,hv,WR _ rfl⟩
theorem Inv.fresh(I:Inv X pins B H s):H s.heap.objs.size=none:=I.hok.fresh (WJ _)
theorem Inv.lstM(I:Inv X pins B H s)(hH:H l=some (.lst xs)):xs.length<=sizeLine/\∃(its:List Value) (n:Nat),Vals xs its/\xs.length=its.length/\s.heap.get? l=some {cls:=.type "list",data:=.seq its.toArray n}:=by
 obtain⟨z,its,n,r,e⟩:=I.hok l _ hH;exact(⟨z,its,n,r,r.length,e⟩)
theorem Ta{n:Nat}(h:n<=sizeLine):Builtin.List.listTooLong n=false:=by
 unfold Builtin.List.listTooLong;exact W9 (by omega)
end
section
variable {X:Cx}
def K6:V->List V->Hp->VK->Prop:=fun x vs H Q=>∃l xs y,x=.ref l/\vs=[y]/\H l=some (.lst xs)/\xs.length<sizeLine/\Q .non (upd H l (.lst (xs++[y])))
theorem E8:MtM X "list.append" K6:=by
 intro pins s B H x vs v us Q I rx rv h;obtain⟨l,xs,y,rfl,rfl,hH,hz,q⟩:=h;cases rx;obtain⟨u,rfl,ru⟩:=rv.one;obtain⟨z,its,n,r,hl,e⟩:=I.lstM hH;refine call_meets F.slot_list_append ⟨_,e,rfl⟩ F.entry_list_append (F.args_list_append_2 _ _) (PySem.list_append l its.toArray n u (by rw[WW];omega)) ⟨e,?_⟩;refine⟨.non,_,I.lset (its':=its++[u]) hH e (by simp) (r.append (.cons ru .nil)) ?_,rfl,q⟩;rw[XA,List.length_singleton];omega
def KB:R2:=fun x y H Q=>∃l b xs zs,x=.ref l/\y=.ref b/\H l=some (.lst xs)/\H b=some (.lst zs)/\xs.length+zs.length<=sizeLine/\∀p,H p=none->Q (.ref p) (upd H p (.lst (xs++zs)))
theorem op_cat:OpR X (binaryOp .Add) KB:=by
 intro pins s B H x y v u Q I rx ry h;obtain⟨l,b,xs,zs,rfl,rfl,hH,hB,hz,q⟩:=h;cases rx;cases ry;obtain⟨z,its,n,r,hl,e⟩:=I.lstM hH;obtain⟨z2,its2,n2,r2,hl2,e2⟩:=I.lstM hB;refine PySem.P.add_list e e2 ?_ (by rw[WW,WW];omega);have ea:its.toArray++its2.toArray=(its++its2).toArray:=by simp
 rw[ea];exact⟨.ref _,_,I.lnew (t':=s.toks) (r.append r2) (by rw[XA];omega),rfl,q _ I.fresh⟩
def Hv:R2:=fun x y H Q=>∃l k xs,x=.ref l/\y=.int k/\H l=some (.lst xs)/\-(2^63)<=k/\k<2^63/\xs.length*k.toNat<=sizeLine/\
 ∀p,H p=none->Q (.ref p) (upd H p (.lst (List.replicate k.toNat xs).flatten))
theorem Nu{J:Type}(xs:List J)(k:Nat):(List.replicate k xs).flatten.length=k*xs.length:=by
 induction k with
 |zero=>simp
 |succ k ih=>rw[X2,List.flatten_cons,XA,ih,Nat.succ_mul,Nat.add_comm]
theorem UC:OpR X (binaryOp .Mult) Hv:=by
 intro pins s B H x y v u Q I rx ry h;obtain⟨l,k,xs,rfl,rfl,hH,h1,h2,hz,q⟩:=h;cases rx;obtain⟨t,rfl⟩:=ry;obtain⟨z,its,n,r,hl,e⟩:=I.lstM hH;have hlen:its.toArray.size*k.toNat<=sizeLine:=by rw[WW,←hl];exact hz
 have hcap:¬its.toArray.size*k.toNat>(2^63 - 1)/8:=by
  have:(sizeLine:Nat)<=(2^63 - 1)/8:=by decide
  omega
 have hfit:¬(!Builtin.List.listFitsIndex k)=true:=by
  rw[fitsIndex_both h1 h2];exact X6
 have hlong:¬Builtin.List.listTooLong (its.toArray.size*k.toNat)=true:=by
  rw[Ta hlen];exact X6
 have hnew:List.foldl (fun x1 x2=>x1++x2) #[] (List.replicate (if its.toArray.isEmpty=true then 0 else k.toNat) its.toArray)=(List.replicate k.toNat its).flatten.toArray:=by
  have f0:∀m:Nat,List.foldl (fun x1 x2=>x1++x2) #[] (List.replicate m its.toArray)=(List.replicate m its).flatten.toArray:=fun m=>by
   have:=MM its m [];rw[List.nil_append] at this;exact this
  rw[f0];cases its with
  |nil=>simp
  |cons a r'=>rw[if_neg (by simp)]
 refine wpAny_binaryOp_repeat_ref (T:="list") (U:="int") (by decide) ⟨_,e,rfl⟩ (fun s'=>typeIs_int s' k t) noFill_list_mul F.fills_int_mul F.slot_int_rmul repeat_list F.slot_int_index.lookup
  (call_meets F.slot_int_rmul (typeIs_int s k t) F.entry_int_rmul (F.args_int_rmul_2 _ _) (int___rmul___int_list k t l its.toArray n)
   ⟨e,rfl,⟨_,e,rfl⟩,call_meets F.slot_list_mul ⟨_,e,rfl⟩ F.entry_list_mul (F.args_list_mul_2 _ _) (AutoListH.list___mul___list_int_3 l its.toArray n k t hfit hcap hlong) ⟨e,?_⟩⟩)
 rw[hnew];exact⟨.ref _,_,I.lnew (t':=s.toks) (r.rep k.toNat) (by rw[Nu,Nat.mul_comm];exact hz),rfl,q _ I.fresh⟩
end
section
variable {κ:Type} [DecidableEq κ]
def tz(kvs:List (κ×V))(k:κ):Option V:=(kvs.find? fun kv=>decide (kv.1=k)).map (·.2)
def sO(kvs:List (κ×V))(k:κ)(v:V):List (κ×V):=
 if(kvs.any fun kv=>decide (kv.1=k))=true then kvs.map (fun kv=>if kv.1=k then(kv.1,v) else kv) else kvs++[(k,v)]
theorem xt{p:κ×V}{r:List (κ×V)}{k:κ}(e:p.1=k):tz (p::r) k=some p.2:=by simp[tz,WX,e]
theorem x3{p:κ×V}{r:List (κ×V)}{k:κ}(e:¬p.1=k):tz (p::r) k=tz r k:=by simp[tz,WX,e]
theorem Jq(k:κ):∀kvs:List (κ×V),(kvs.any fun kv=>decide (kv.1=k))=(tz kvs k).isSome
 | []=>rfl
 |p::r=>by
  rw[Yh];by_cases e:p.1=k
  ·simp only[xt e,Xz e,Bool.true_or,Option.isSome_some]
  ·rw[x3 e,W9 e,Bool.false_or];exact Jq k r
theorem Bf(kvs:List (κ×V))(k:κ)(v:V):(sO kvs k v).length<=kvs.length+1:=by
 unfold sO;split
 ·rw[WQ];omega
 ·rw[XA,Xi,List.length_nil];omega
theorem RelO.isSome_eq{o:Option V}{u:Option Value}(r:RelO o u):o.isSome=u.isSome:=by
 cases o with
 |none=>cases u with
  |none=>rfl
  |some _=>exact(show False from r).elim
 |some _=>cases u with
  |none=>exact(show False from r).elim
  |some _=>rfl
theorem KV.val{kvs:List (κ×V)}{vs:List (κ×Value)}(r:KV kvs vs)(k:κ):RelO (tz kvs k) (valueAt vs k):=by
 unfold KV at r;induction r with
 |nil=>exact True.intro
 | @cons p q ps qs h t ih=>
  obtain⟨h1,h2⟩:=h;by_cases e:p.1=k
  ·have e':q.1=k:=h1.symm.trans e;have b:valueAt (q::qs) k=some q.2:=by simp[valueAt,WX,e']
   rw[xt e,b];exact h2
  ·have e':¬q.1=k:=fun z=>e (h1.trans z);have b:valueAt (q::qs) k=valueAt qs k:=by simp[valueAt,WX,e']
   rw[x3 e,b];exact ih
theorem KV.any{kvs:List (κ×V)}{vs:List (κ×Value)}(r:KV kvs vs)(k:κ):(kvs.any fun kv=>decide (kv.1=k))=vs.any fun kv=>decide (kv.1=k):=by
 unfold KV at r;induction r with
 |nil=>rfl
 |cons h t ih=>rw[Yh,Yh,ih,h.1]
theorem KV.repl{kvs:List (κ×V)}{vs:List (κ×Value)}(r:KV kvs vs)(k:κ){y:V}{u:Value}(ry:RelV y u):
  KV (kvs.map fun kv=>if kv.1=k then(kv.1,y) else kv) (vs.map fun kv=>if kv.1=k then(kv.1,u) else kv):=by
 unfold KV at r⊢;induction r with
 |nil=>exact .nil
 | @cons p q ps qs h t ih=>
  rw[WT,WT];refine .cons ?_ ih;obtain⟨h1,h2⟩:=h;by_cases e:p.1=k
  ·rw[if_pos e,if_pos (h1.symm.trans e)];exact⟨h1,ry⟩
  ·rw[if_neg e,if_neg (fun z=>e (h1.trans z))];exact⟨h1,h2⟩
theorem KV.put{kvs:List (κ×V)}{vs:List (κ×Value)}(r:KV kvs vs)(k:κ){y:V}{u:Value}(ry:RelV y u):KV (sO kvs k y) (stored vs k u):=by
 unfold sO stored;rw[r.any k];by_cases e:(vs.any fun kv=>decide (kv.1=k))=true
 ·rw[if_pos e,if_pos e];exact r.repl k ry
 ·rw[if_neg e,if_neg e];exact Paired.snoc r ⟨rfl,ry⟩
theorem KV.length{kvs:List (κ×V)}{vs:List (κ×Value)}(r:KV kvs vs):kvs.length=vs.length:=Paired.length r
end
def Af{P:Program}{w:World}{k:Key}{u:Value}(r:RelV (kV k) u):(ul P w).is k u=true:=by
 cases k with
 |inl i=>obtain⟨t,e⟩:=(show ∃t,u=Value.int i t from r);subst e;exact OM P w i t
 |inr x=>obtain⟨t,e⟩:=(show ∃t,u=Value.str x t from r);subst e;exact Uc P w x t
abbrev KT(H:Hp):List (NK×V)->List (NK×Addr×Value)->Prop:=Paired fun p q=>p.1=q.1/\NKey H q.2.1 p.1/\RelV p.2 q.2.2
def KT.val{H:Hp}{kvs:List (NK×V)}{xs:List (NK×Addr×Value)}(r:KT H kvs xs)(k:NK):RelO (tz kvs k) ((atKey xs k).map (·.2)):=by
 induction r with
 |nil=>exact True.intro
 | @cons p q ps qs h t ih=>
  obtain⟨h1,_,h2⟩:=h;by_cases e:p.1=k
  ·have e':q.1=k:=h1.symm.trans e;have b:atKey (q::qs) k=some q.2:=by simp[atKey,WX,e']
   rw[xt e,b];exact h2
  ·have e':¬q.1=k:=fun z=>e (h1.trans z);have b:atKey (q::qs) k=atKey qs k:=by simp[atKey,WX,e']
   rw[x3 e,b];exact ih
theorem KT.repl{H:Hp}{kvs:List (NK×V)}{xs:List (NK×Addr×Value)}(r:KT H kvs xs)(k:NK){y:V}{u:Value}(ry:RelV y u):
  KT H (kvs.map fun kv=>if kv.1=k then(kv.1,y) else kv) (xs.map (putAt k u)):=by
 induction r with
 |nil=>exact .nil
 | @cons p q ps qs h t ih=>
  rw[WT,WT];refine .cons ?_ ih;obtain⟨h1,h2,h3⟩:=h;unfold putAt;by_cases e:p.1=k
  ·rw[if_pos e,if_pos (h1.symm.trans e)];exact⟨h1,h2,ry⟩
  ·rw[if_neg e,if_neg (fun z=>e (h1.trans z))];exact⟨h1,h2,h3⟩
theorem KT.put{H:Hp}{kvs:List (NK×V)}{xs:List (NK×Addr×Value)}(r:KT H kvs xs)(k:NK){b:Addr}{y:V}{u:Value}(hb:NKey H b k)(ry:RelV y u):
  KT H (sO kvs k y) (storedH xs k b u):=by
 have e:(kvs.any fun kv=>decide (kv.1=k))=(atKey xs k).isSome:=by
  rw[Jq,(r.val k).isSome_eq,Option.isSome_map]
 unfold sO storedH;rw[e];by_cases q:(atKey xs k).isSome=true
 ·rw[if_pos q,if_pos q];exact r.repl k ry
 ·rw[if_neg q,if_neg q];exact Paired.snoc r ⟨rfl,hb,ry⟩
def KT.keeps{H H':Hp}{kvs:List (NK×V)}{xs:List (NK×Addr×Value)}(r:KT H kvs xs)(ht:∀b ys,H b=some (.tup ys)->H' b=some (.tup ys)):KT H' kvs xs:=
 Paired.mapP r fun _ _ z=>⟨z.1,z.2.1.up ht,z.2.2⟩
section
variable {P:Program} {w:World} {H:Hp} {h:Heap} {a:Addr}
theorem Iv{u:HO}(ok:HOk P w H h)(e:Rd H a u):ObjOk P w H h a u:=e.ok ok
theorem Bq{kvs:List (Key×V)}(ok:HOk P w H h)(e:Rd H a (.dK kvs)):kvs.length<=sizeLine/\(a==sysModules)=false/\∃vs,KV kvs vs/\h.DictOf (ul P w) a vs:=
 show ObjOk P w H h a (.dK kvs) from Iv ok e
theorem xB{kvs:List (Key×V)}(ok:HOk P w H h)(e:H a=some (.dK kvs)):kvs.length<=sizeLine/\(a==sysModules)=false/\∃vs,KV kvs vs/\h.DictOf (ul P w) a vs:=Bq ok (.inl e)
theorem L0:∀{ks:List Int} {us:List Value},Vals (ks.map V.int) us->ItemsAre (intKind P w) ks us
 | [],_,r=>by rw[List.map_nil] at r;cases r;exact .nil
 |k::ks,_,r=>by
  rw[WT] at r;cases r with
  |cons h t=>
   obtain⟨q,e⟩:=h;subst e;exact .cons (by simp[intKind,Value.isInt]) (L0 t)
theorem Er{A:Around}(hu:A.units+9<cLine):(yS P w).room A.in1:=by show A.units+1+4<cLine;omega
theorem Bj{k:NK}(ok:HOk P w H h)(e:NKey H a k):(yS P w).is h k a:=by
 obtain⟨c,e1,e2⟩:=e;obtain⟨_,its,r,o,h1,h2,n,h3⟩:=(show ObjOk P w H h a (.tup [.ref c,.int k.2]) from ok a _ e1)
 obtain⟨u1,u2,rfl,r1,t,r2⟩:=Vals.two r;obtain rfl:u1=Value.ref c:=r1;subst r2;obtain⟨_,its',r',o',g1,g2,n',g3⟩:=(show ObjOk P w H h c (.tup (k.1.map V.int)) from ok c _ e2)
 exact⟨o,c,t,n,h1,h2,h3,o',its'.toArray,n',g1,g2,g3,by simpa using L0 r'⟩
theorem Bx{kvs:List (NK×V)}(ok:HOk P w H h)(e:Rd H a (.dT kvs)):kvs.length<=sizeLine/\(a==sysModules)=false/\
  ∃xs,KT H kvs xs/\h.DictOfH (yS P w) a xs:=by
 obtain⟨z,y,xs,r,o,es,ep,h1,h2,h3,h4,h5⟩:=(show ObjOk P w H h a (.dT kvs) from Iv ok e)
 refine(⟨z,y,xs,r,o,es,ep,h1,h2,h3,h4,fun x hx=>?_,h5⟩);have all:∀{l:List (NK×V)} {m:List (NK×Addr×Value)},KT H l m->∀x∈m,(yS P w).is h x.1 x.2.1:=by
  intro l m q;induction q with
  |nil=>intro x hx;exact nomatch hx
  | @cons p q ps qs hq t ih=>
   intro x hx;rcases Xd.mp hx with e|hx
   ·subst e;exact Bj ok (by rw[←hq.1];exact hq.2.1)
   ·exact ih x hx
 exact all r x hx
theorem U2{kvs:List (NK×V)}(ok:HOk P w H h)(e:H a=some (.dT kvs)):kvs.length<=sizeLine/\(a==sysModules)=false/\
  ∃xs,KT H kvs xs/\h.DictOfH (yS P w) a xs:=Bx ok (.inl e)
end
def DGet(H:Hp)(a:Addr)(y:V)(r:Option V):Prop:=
 (∃kvs k,Rd H a (.dK kvs)/\y=kV k/\r=tz kvs k)\/∃kvs k b,Rd H a (.dT kvs)/\y=.ref b/\NKey H b k/\r=tz kvs k
def Fy(H:Hp)(a:Addr)(y v:V)(H':Hp):Prop:=
 (∃kvs k,H a=some (.dK kvs)/\y=kV k/\kvs.length<sizeLine/\H'=upd H a (.dK (sO kvs k v)))\/
 ∃kvs k b,H a=some (.dT kvs)/\y=.ref b/\NKey H b k/\kvs.length<sizeLine/\H'=upd H a (.dT (sO kvs k v))
def DGet.k{H:Hp}{a:Addr}{kvs:List (Key×V)}{k:Key}(e:H a=some (.dK kvs)):DGet H a (kV k) (tz kvs k):=.inl ⟨kvs,k,.inl e,rfl,rfl⟩
section
variable {X:Cx} {pins:QS} {B:St} {H:Hp} {s:Shared} {a:Addr} {y v:V} {u r:Value} {o:Option V} {A:Around} {E:OK}
theorem Inv.big(I:Inv X pins B H s):sysModules<s.heap.objs.size:=by
 have h:mainGlobals<s.heap.objs.size:=(I.mod.glob.keeps I.bk).lt;exact Nat.lt_trans (by decide) h
theorem Q6{Q:OK}(hu:A.units+9<cLine)(I:Inv X pins B H s)(g:DGet H a y (some v))(ry:RelV y u)(h:∀w' s',Inv X pins B H s'->RelV v w'->Q w' s'):
  wpAny (model X.prog X.w) A (getItem (.ref a) u) Q E s:=by
 rcases g with⟨kvs,k,e,ey,l⟩|⟨kvs,k,b,e,ey,eb,l⟩
 ·subst ey;obtain⟨z,hd,vs,rel,dd⟩:=Bq I.hok e;obtain⟨w',hw,rw'⟩:=RelO.some_of (v:=v) (o:=valueAt vs k) (by rw[l];exact rel.val k);exact(wpAny_getItem_of (Af ry) dd.mapOf hw (h w' _ (I.tok _) rw'))
 ·subst ey;cases (show u=Value.ref b from ry);obtain⟨z,hd,xs,rel,dd⟩:=Bx I.hok e;obtain⟨w',hw,rw'⟩:=RelO.some_of (v:=v) (o:=(atKey xs k).map (·.2)) (by rw[l];exact rel.val k);obtain⟨p,hp,hp2⟩:=Option.map_eq_some_iff.mp hw;refine(wpAny_getItem_heap (Er hu) (Bj I.hok eb) dd hp ?_);rw[hp2];exact h w' _ (I.tok _) rw'
theorem Ve{Q:OK}(hu:A.units+9<cLine)(I:Inv X pins B H s)(g:DGet H a y o)(ry:RelV y u)(h:∀s',Inv X pins B H s'->Q (.bool (!o.isSome)) s'):
  wpAny (model X.prog X.w) A (compareOp .NotIn u (.ref a)) Q E s:=by
 rcases g with⟨kvs,k,e,ey,l⟩|⟨kvs,k,b,e,ey,eb,l⟩
 ·subst ey;obtain⟨z,hd,vs,rel,dd⟩:=Bq I.hok e;refine(wpAny_notIn_of (Af ry) hd dd.mapOf ?_);rw[←(rel.val k).isSome_eq,←l];exact h _ (I.tok _)
 ·subst ey;cases (show u=Value.ref b from ry);obtain⟨z,hd,xs,rel,dd⟩:=Bx I.hok e;refine(wpAny_notIn_heap (Er hu) (Bj I.hok eb) hd dd ?_);have q:=(rel.val k).isSome_eq;rw[Option.isSome_map] at q;rw[←q,←l];exact h _ (I.tok _)
theorem AT{h':Heap}{t':Nat}{ob:HO}(I:Inv X pins B H s)(mu:Mut (H a))(hs:Heap.SameBut a s.heap h')(he:∃q,h'.get? a=some q)(new:ObjOk X.prog X.w (upd H a ob) h' a ob):
  Inv X pins B (upd H a ob) {s with heap:=h',toks:=t'}:=
 I.write (x:=a) (e:=a) mu (.inl rfl) (fun b q hb z=>(hs.2 b hb).trans z) he new
theorem Db{P:Program}{w:World}{H':Hp}{h':Heap}{kvs:List (Key×V)}{vs:List (Key×Value)}(z:kvs.length<=sizeLine)(hd:(a==sysModules)=false)(rel:KV kvs vs)(dd:h'.DictOf (ul P w) a vs):
  ObjOk P w H' h' a (.dK kvs):=⟨z,hd,vs,rel,dd⟩
theorem Pg{H':Hp}{Q:Unit->Shared->Prop}(hu:A.units+9<cLine)(I:Inv X pins B H s)(g:Fy H a y v H')(ry:RelV y u)(rv:RelV v r)(h:∀s',Inv X pins B H' s'->Q () s'):
  wpAny (model X.prog X.w) A (setItem (.ref a) u r) Q E s:=by
 rcases g with⟨kvs,k,e,ey,l,eH⟩|⟨kvs,k,b,e,ey,eb,l,eH⟩
 ·subst ey eH;obtain⟨z,hd,vs,rel,dd⟩:=xB I.hok e;have hz:vs.length<=sizeLine:=by rw[←rel.length];exact z
  have hl:(sO kvs k v).length<=sizeLine:=by have:=Bf kvs k v;omega
  refine(wpAny_setItem_pairs (hsz:=hz) (Af ry) dd fun h' dd' hs=>h _ ?_);have he:∃q,h'.get? a=some q:=let ⟨q,_,_,hq,_⟩:=dd';⟨q,hq⟩
  exact AT I (by rw[e];exact True.intro) hs he (Db hl hd (rel.put k rv) dd')
 ·subst ey eH;cases (show u=Value.ref b from ry);obtain⟨z,hd,xs,rel,dd⟩:=U2 I.hok e;have hz:xs.length<=sizeLine:=by rw[←Paired.length rel];exact z
  have hl:(sO kvs k v).length<=sizeLine:=by have:=Bf kvs k v;omega
  refine(wpAny_setItem_heap (hsz:=hz) (Er hu) (Bj I.hok eb) dd fun h' dd' hs=>h _ ?_);obtain⟨q,es,ep,hq,h2,h3,h4,_,h5⟩:=dd';refine AT I (by rw[e];exact True.intro) hs ⟨q,hq⟩ ⟨hl,hd,_,(rel.put k eb rv).keeps fun c ys ec=>?_,q,es,ep,hq,h2,h3,h4,h5⟩;rw[rG (Nj ec e (fun z=>nomatch z))];exact ec
end
def Cj(i:Expr):Prop:=∀ov iv,subscripted i false ov iv=operate [ov,iv] (getItem ov iv)
theorem Qu{prog:Program}{w:World}{A:Around}{E:OK}{s:Shared}{env:Env}{value slice:Expr}{pos:Pos}{T id:String}{Q:OK}
  (hl:typeLookup (.type T) "__getitem__"=pure (some (.builtin id))) (hs:Cj slice)
  (h:wpAny (model prog w) A (eval value env) (fun o ZT=>wpAny (model prog w) A (eval slice env) (fun i ZJ=>ZJ.TypeIs o T/\wpAny (model prog w) A (getItem o i) Q E ZJ) E ZT) E s):
  wpAny (model prog w) A (eval (.Subscript value slice pos) env) Q E s:=by
 refine Subscript_ (WO h (fun o ZT ZQ=>WO ZQ (fun i ZJ ZB=>?_) fun _ _ x=>x) fun _ _ x=>x);obtain⟨hT,ZB⟩:=ZB;unfold subscriptTail;refine WH ?_;rw[getitemInPython_of_ne hT.not_modules];refine WH (wpAny_specialOf hT hl ?_);have fin:wpAny (model prog w) A (subscripted slice false o i) (fun r ZL=>wpAny (model prog w) A (letTemporaryGo value o r >>= fun _=>pure r) Q E ZL) E ZJ:=by
  rw[hs o i];exact wpAny_operating (WO ZB (fun r ZL ZE=>WH (wpAny_letTemporaryGo (WM ZE))) fun _ _ x=>x)
 first
  |exact WM (WH fin)
  |exact WH (WM (WH fin))
  |exact WH fin
def Vy{X:Cx}{pins:QS}{B:St}{H:Hp}{s:Shared}{a:Addr}{y:V}{o:Option V}(I:Inv X pins B H s)(g:DGet H a y o):s.TypeIs (.ref a) "dict":=by
 rcases g with⟨kvs,k,e,_,_⟩|⟨kvs,k,b,e,_,_,_⟩
 ·obtain⟨_,_,vs,_,dd⟩:=Bq I.hok e;exact dd.typeIs
 ·obtain⟨_,_,xs,_,dd⟩:=Bx I.hok e;exact dd.typeIs
def S8(td ty:TE):TE:=fun B H Q=>td B H fun x H1=>ty B H1 fun y H2=>∃a v,x=.ref a/\DGet H2 a y (some v)/\Q v H2
def Nh(ty td:TE):TE:=fun B H Q=>ty B H fun y H1=>td B H1 fun x H2=>∃a o,x=.ref a/\DGet H2 a y o/\Q (.bl (!o.isSome)) H2
def Qp(td ty tv:TE):TS:=fun D B H=>tv B H fun v H1=>td B H1 fun x H2=>ty B H2 fun y H3=>∃a H4,x=.ref a/\Fy H3 a y v H4/\D.nx B H4
section
variable {X:Cx} {o i value:Expr} {pos pos':Pos} {td ty tv:TE}
theorem Gy(hu:X.A.units+9<cLine)(ho:PE X o td)(hi:PE X i ty)(hs:Cj i):PE X (.Subscript o i pos) (S8 td ty):=by
 intro pins s B H Q I h;refine Qu PySem.F.slot_dict_getitem.lookup hs (thn (ho pins s B H _ I h) fun u s1 ⟨x,H1,I1,rx,q1⟩=>thn (hi pins s1 B H1 _ I1 q1) fun iv s2 hm=>?_);obtain⟨y,H2,I2,ry,a,v,ex,g,q2⟩:=hm;subst ex;obtain rfl:u=Value.ref a:=rx;exact⟨Vy I2 g,Q6 hu I2 g ry fun w' s3 I3 rw'=>⟨v,H2,I3,rw',q2⟩⟩
theorem Ui(hu:X.A.units+9<cLine)(hi:PE X i ty)(ho:PE X o td):PC X .NotIn i o (Nh ty td):=by
 intro pins s B H Q I h;refine thn (hi pins s B H _ I h) fun iv s1 ⟨y,H1,I1,ry,q1⟩=>thn (ho pins s1 B H1 _ I1 q1) fun u s2 hm=>?_;obtain⟨x,H2,I2,rx,a,ov,ex,g,q2⟩:=hm;subst ex;obtain rfl:u=Value.ref a:=rx;exact Ve hu I2 g ry fun s3 I3=>⟨.bl (!ov.isSome),H2,I3,rfl,q2⟩
theorem T4(hu:X.A.units+9<cLine)(ho:PE X o td)(hi:PE X i ty)(hv:PE X value tv)(hs:swapsWith value (some (.Subscript o i pos')) pos.line X.env=pure false):
  PS X (.Assign [.Subscript o i pos'] value pos) (Qp td ty tv):=by
 intro pins s B H D I h;refine wpAny_Assign_Subscript (thn (hv pins s B H _ I h) fun r s1 ⟨v,H1,I1,rv,q1⟩=>thn (ho pins s1 B H1 _ I1 q1) fun u s2 ⟨x,H2,I2,rx,q2⟩=>thn (hi pins s2 B H2 _ I2 q2) fun iv s3 hm=>?_) hs;obtain⟨y,H3,I3,ry,a,H4,ex,g,q3⟩:=hm;subst ex;obtain rfl:u=Value.ref a:=rx;exact Pg hu I3 g ry rv fun s4 I4=>⟨B,H4,I4,q3⟩
end
def VB{P:Program}{w:World}{H:Hp}(h:Heap)(hb:sysModules<h.objs.size):ObjOk P w H (h.push {cls:=.type "dict",data:=.dict #[]}) h.objs.size (.dK []):=
 ⟨XJ _,beq_eq_false_iff_ne.mpr (Ne.symm (W8 hb)),[],.nil,Heap.DictOf.new h⟩
def Nl{P:Program}{w:World}{H:Hp}(h:Heap)(hb:sysModules<h.objs.size):ObjOk P w H (h.push {cls:=.type "dict",data:=.dict #[]}) h.objs.size (.dT []):=
 ⟨XJ _,beq_eq_false_iff_ne.mpr (Ne.symm (W8 hb)),[],.nil,_,#[],0,WR _ rfl,⟨rfl,rfl,rfl⟩,rfl,rfl,List.nodup_nil⟩
def Nt:TE:=fun _ H Q=>∀p,H p=none->Q (.ref p) (upd H p (.dK []))
def N8:TE:=fun _ H Q=>∀p,H p=none->Q (.ref p) (upd H p (.dT []))
section
variable {X:Cx} {pos:Pos}
theorem P8:PE X (.Dict [] [] pos) Nt:=fun pins s B H Q I h=>
 wpAny_Dict_empty ⟨.ref s.heap.objs.size,_,I.laid (a:=s.heap.objs.size) (o:=.dK []) (t':=s.toks) (fun _ _ q=>WK _ q) (WJ _) (VB s.heap I.big),rfl,h _ (I.hok.fresh (WJ _))⟩
theorem Rv:PE X (.Dict [] [] pos) N8:=fun pins s B H Q I h=>
 wpAny_Dict_empty ⟨.ref s.heap.objs.size,_,I.laid (a:=s.heap.objs.size) (o:=.dT []) (t':=s.toks) (fun _ _ q=>WK _ q) (WJ _) (Nl s.heap I.big),rfl,h _ (I.hok.fresh (WJ _))⟩
end
end L2
namespace Att
open PySem PySem.W PySem.Calls PyProof.Rows
def P4{P:Params}{h:Heap}:∀(ns:List Int) (vs:List Value),WellAll P h vs (ns.map WData.int)->IntsAre vs ns:=by
 intro ns;induction ns with
 |nil=>
  intro vs w;rw[List.map_nil] at w;cases w;exact .nil
 |cons n ns ih=>
  intro vs w;rw[WT] at w;cases w with
  |cons a b=>
   cases a;exact .cons _ _ (ih _ b)
theorem Qf{l:OpenLaw}{n:Nat}(hn:l.most=some n){P:Params}{h:Heap}{args:List WData}{vals:List Value}
  (hpre:l.row.toRowW.claim.pre args=true) (hwl:WellAll P h vals args):
  ∃a vs ns,vals=[Value.ref a]/\args=[WData.list (ns.map WData.int)]/\h.get? a=some {cls:=.type "list",data:=.seq vs.toArray}/\IntsAre vs ns/\ns.length<=n:=by
 have hsh:WShape.hasAll [] args [.list .int]=true:=(pre_splitW hpre).1;have hc:l.pre.holds [] {args:=args}=true:=(pre_splitW hpre).2;obtain⟨d,r,rfl,h1,h2⟩:=hasAllW_cons hsh;obtain rfl:=hasAllW_nil h2;obtain⟨xs,rfl,h3⟩:=hasW_list h1;obtain⟨ns,rfl⟩:=items_int h3;have hlen:ns.length<=n:=by
  unfold OpenLaw.pre at hc;have h4:(WTm.not (.lt (.lit (.int (n:Int))) (.len (.arg 0)))).holds [] {args:=[.list (ns.map .int)]}=true:=by
   have h4:=(holds_andW hc).1;rw[hn] at h4;exact h4
  have h5:=condW_of h4 (w_not (w_lt w_lit (w_len_list (w_arg rfl))));rw[WQ] at h5;refine Nat.le_of_not_lt fun q=>?_;have q':(n:Int)<((ns.length:Nat):Int):=by omega
  first
   |(rw[Xz q'] at h5;exact absurd h5 (by decide))
   |(simp at h5;omega)
 cases hwl with
 |cons w1 w2=>
  cases w2;cases w1 with
  |list ho hall=>exact⟨_,_,ns,rfl,rfl,ho,P4 ns _ hall,hlen⟩
def RC(l:OpenLaw)(args:List WData):l.row.toRowW.claim.post args (.bool true) args=true:=
 postW_of (r:=l.row.toRowW) (X:=(true==true))
  (show WShape.has [] (.bool true) .bool=true by first|rfl|decide|simp[WShape.has,WShape.arms,WShape.armsAll])
  (show(WTm.eq .res (.lit (.bool true))).value [] {args:=args,res:=some (.bool true),after:=args}=some (.bool (true==true)) from w_eq_bool (w_res rfl) w_lit) rfl
theorem attach_call{l:OpenLaw}{n:Nat}{q:Program}{loose:List Str}{XP:(Str->Option Value)->Heap->Prop}{YP:World->Heap->Prop}{d:DefRec}
  (hn:l.most=some n) (hdf:d.params.defaults=[])
  (call:∀(w:World) (Z2 ZT:Shared) (mg mb:Str->Option Value) (fa:Addr) (o:Obj) (pm cd doc:Value) (a:Addr) (vs:List Value) (ns:List Int),
   Ground q loose [] XP w Z2 mg mb ZT.heap->YP w ZT.heap->
   ZT.heap.get? fa=some o->o.data=.func (docDef d.name d.params d.body d.scope pm cd doc)->ZT.heap.CodeRec cd d.name->mg d.name=some (.ref fa)->
   ZT.heap.get? a=some {cls:=.type "list",data:=.seq vs.toArray}->IntsAre vs ns->ns.length<=n->ZT.gens=#[]->
   codeAny (model l.prog w) callerA (.call (.ref fa) ⟨[.ref a],[]⟩) (fun r s'=>r=.ok (.ret (.bool true))/\OldK ZT.heap s'.heap/\s'.os=ZT.os/\AllBare s'.gens) ZT):
  WalkO q loose XP YP l.row.toRowW d [] (fun f vs=>PySem.call f vs):=by
 intro w Z2 ZT mg mb G Y fa o pm cd doc dV kV ho hd hcd hD hmg hg args vals as hpre hlay hrd hwl hlo;obtain rfl:dV=.none:=Dflts.none hD hdf;obtain rfl:kV=.none:=Dflts.noKw hD;obtain⟨a,vs,ns,rfl,rfl,hobj,hints,hlen⟩:=Qf hn hpre hwl;refine(enter_call (codeAny_mono (call w Z2 ZT mg mb fa o pm cd doc a vs ns G Y ho (fd_plain hd) hcd hmg hobj hints hlen hg) fun r s' hq=>?_));obtain⟨rfl,h2,h3,h4⟩:=hq;exact(⟨.inl ⟨.bool true,.bool true,[],rfl,fun _=>rfl,.bool true,RC l _,fun _=>⟨List.Pairwise.nil,fun _ hm=>(nomatch hm)⟩⟩,h2,h3,h4⟩)
end Att
namespace L2
open PySem PySem.Spec PyProof.Rows
theorem Hw:∀{vs:List Value} {ns:List Int},IntsAre vs ns->Vals (ns.map V.int) vs
 |_,_,.nil=>.nil
 |_,_,.cons n t h=>.cons ⟨t,rfl⟩ (Hw h)
def Bd(H:Hp):Prop:=∀b,H b=none\/∃o xs,H b=some (.frz o (.lst xs))
theorem UD{P:Program}{w:World}{K:Frag}{mg mb:Str->Option Value}{CX:CXT}{k:Nat}{fa a:Addr}{fd:FuncData}{x:Str}{sp:Sp}{ZT:Shared}{vs:List Value}{ns:List Int}
  (KX:K.In ZT.heap) (hns:ZT.heap.Ns mainGlobals mg) (hb:ZT.heap.Ns builtinsNs mb) (hbb:∀x:Str,x≠"__name__"->mb x=bootBuiltins x) (hlim:ZT.heap.NoLimit) (hg:ZT.gens=#[])
  (ha:ZT.heap.get? a=some {cls:=.type "list",data:=.seq vs.toArray}) (hi:IntsAre vs ns) (hl:ns.length<=sizeLine) (hr:Room k callerA)
  (F:∀base:Heap,K.In base->base.Ns mainGlobals mg->FnOk P w K mg base CX k fa fd [x] sp) (hbind:∀(s:Shared) (u:Value),BindsTo s fd ⟨[u],[]⟩ [(x,u)])
  (hsp:∀H:Hp,Bd H->SqL K H a (ns.map V.int)->sp [.ref a] H (fun v _=>v=.bl true) fun _ _ _=>False)
  (hCX:∀H e s',CX [] H ZT (fun _ _ _=>False) e s'->False):
  codeAny (model P w) callerA (.call (.ref fa) ⟨[.ref a],[]⟩) (fun r s'=>r=.ok (.ret (.bool true))/\OldK ZT.heap s'.heap/\s'.os=ZT.os/\AllBare s'.gens) ZT:=by
 have rv:=Hw hi;have lenV:=hi.length;have core:∀H:Hp,Bd H->SqL K H a (ns.map V.int)->HOk P w H ZT.heap->(∀b,H b≠none->b=a)->(H a≠none->K.lookup a=none)->
   codeAny (model P w) callerA (.call (.ref fa) ⟨[.ref a],[]⟩) (fun r s'=>r=.ok (.ret (.bool true))/\OldK ZT.heap s'.heap/\s'.os=ZT.os/\AllBare s'.gens) ZT:=by
  intro H hO hS hok hA hK;have base_of:∀{b:Addr} {o:Obj},ZT.heap.get? b=some o->H b=none->(ww ZT.heap H).get? b=some o:=fun e n=>Pw e n;have noA:∀{b:Addr} {o:Obj} {es:Array DictEntry} {ep:Nat},ZT.heap.get? b=some o->o.data=.dict es ep->H b=none:=fun{b o es ep} e d=>by
   cases q:H b with
   |none=>rfl
   |some u=>
    have e':b=a:=hA b (by rw[q];simp);subst e';rw[ha] at e;cases e;have d':Data.seq vs.toArray _=Data.dict es ep:=d;cases d'
  have nsK:∀{b:Addr} {m:Str->Option Value},ZT.heap.Ns b m->(ww ZT.heap H).Ns b m:=fun{b m} ⟨o,es,ep,e,d,r⟩=>⟨o,es,ep,base_of e (noA e d),d,r⟩
  have hKb:K.In (ww ZT.heap H):=fun b o e=>base_of (KX b o e) (by
   cases q:H b with
   |none=>rfl
   |some u=>
    have e':b=a:=hA b (by rw[q];simp);subst e';rw[hK (by rw[q];simp)] at e;cases e)
  have hM:Mod K mg (ww ZT.heap H):=⟨hKb,nsK hns,⟨mb,nsK hb,hbb⟩,let ⟨mc,h1,h2⟩:=hlim;⟨mc,nsK h1,h2⟩⟩
  have e0:Env0 P w K mg (ww ZT.heap H) callerA [] ZT H:=⟨rfl,hM,fun b o e=>UO e,Nat.le_of_eq (U3 _ _),trivial,fun b hb=>absurd (show b∈([]:List Addr) from hb) (by simp),hok,.of_eq hg⟩
  refine codeAny_mono ((F _ hKb (nsK hns)).run callerA [] ZT H ⟨[.ref a],[]⟩ [.ref a] [.ref a] _ _ hr e0 (hbind ZT (.ref a)) (.cons rfl .nil) (hsp H hO hS)) fun r s' h=>?_;cases r with
  |error e=>exact(hCX H e s' h).elim
  |ok fl=>
   cases fl with
   |next=>exact False.elim h
   |brk=>exact False.elim h
   |cont=>exact False.elim h
   |ret u=>
    obtain⟨v,H',os,bare,un,hok',r',q⟩:=h;have q':v=.bl true:=q;subst q';obtain rfl:u=Value.bool true:=r';refine⟨rfl,OldK.of_keep fun b o e=>?_,os,bare⟩;cases q:H b with
    |none=>exact un.keep b o e q (by intro z;exact absurd (show b∈([]:List Addr) from z) (by simp)) (by simp)
    |some u=>
     rcases hO b with z|⟨ob,xs,z⟩
     ·rw[q] at z;cases z
     ·have z2:=un.frzs b ob _ z;obtain⟨e1,_⟩:=hok b _ z;obtain⟨e2,_⟩:=hok' b _ z2;rw[e] at e1;cases e1;exact e2
 cases hk:K.lookup a with
 |some o=>
  have e:=KX a o hk;rw[ha] at e;cases e;refine core (fun _=>none) (fun _=>.inl rfl) (.inr ⟨_,vs.toArray,_,hk,rfl,rfl,rfl,by rw[WW,lenV];exact hl,by simpa using rv⟩) (fun b u z=>by have z':(none:Option HO)=some u:=z;cases z') (fun b z=>absurd rfl z) fun z=>absurd rfl z
 |none=>
  refine core (fun b=>if b=a then some (.frz {cls:=.type "list",data:=.seq vs.toArray} (.lst (ns.map V.int))) else none) (fun b=>?_) (.inl (.inr ⟨{cls:=.type "list",data:=.seq vs.toArray},if_pos rfl⟩)) (fun b u z=>?_) (fun b z=>?_) fun _=>hk
  ·by_cases hb:b=a
   ·exact .inr ⟨_,_,if_pos hb⟩
   ·exact .inl (if_neg hb)
  ·by_cases hb:b=a
   ·have z':=(if_pos hb).symm.trans z;cases z';subst hb;exact⟨ha,by rw[WQ];exact hl,vs,_,rv,ha⟩
   ·have z':=(if_neg hb).symm.trans z;cases z'
  ·by_cases hb:b=a
   ·exact hb
   ·exact absurd (if_neg hb) z
theorem walk_of{l:PySem.W.OpenLaw}{n k:Nat}{q:Program}{loose:List Str}{XP:(Str->Option Value)->Heap->Prop}{YP:World->Heap->Prop}{d:DefRec}{K:Params->Frag}{CX:World->CXT}{sp:World->Sp}{x:Str}
  (hn:l.most=some n) (hn2:n<=sizeLine) (hdf:d.params.defaults=[]) (hr:Room k callerA)
  (hY:∀(w:World) (h:Heap),YP w h->(K w.params).In h)
  (F:∀(w:World) (mg:Str->Option Value) (fa:Addr) (h:Heap),(K w.params).In h->h.Ns mainGlobals mg->mg d.name=some (.ref fa)->
   ∃fd:FuncData,(∀(s:Shared) (u:Value),BindsTo s fd ⟨[u],[]⟩ [(x,u)])/\
    ∀base:Heap,(K w.params).In base->base.Ns mainGlobals mg->FnOk l.prog w (K w.params) mg base (CX w) k fa fd [x] (sp w))
  (hsp:∀(w:World) (H:Hp) (a:Addr) (ns:List Int),ns.length<=n->Bd H->SqL (K w.params) H a (ns.map V.int)->sp w [.ref a] H (fun v _=>v=.bl true) fun _ _ _=>False)
  (hCX:∀(w:World) (H:Hp) (s:Shared) (e:Value) (s':Shared),CX w [] H s (fun _ _ _=>False) e s'->False):
  PySem.W.WalkO q loose XP YP l.row.toRowW d [] (fun f vs=>PySem.call f vs):=by
 refine Att.attach_call hn hdf fun w Z2 ZT mg mb fa o pm cd doc a vs ns G Y ho hd hcd hmg hobj hints hlen hg=>?_;have KX:=hY w _ Y;obtain⟨fd,hb,hF⟩:=F w mg fa _ KX G.T.g hmg;exact(UD KX G.T.g G.T.b G.T.builtins G.T.nolimit hg hobj hints (Xo hlen hn2) hr hF hb (fun H hO hS=>hsp w H a ns hlen hO hS) fun H e s'=>hCX w H ZT e s')
def sQ(s:Stmt)(j:Nat):Stmt:=match s with
 | .ClassDef _ _ _ body _ _ _ _ _ _ _=>body.getD j (.Pass ⟨0,0,0,0⟩)
 |_=>.Pass ⟨0,0,0,0⟩
def rQ(s:Stmt):Arguments:=match s with
 | .FunctionDef _ a _ _ _ _ _ _ _ _=>a
 |_=>{posonlyargs:=[],args:=[],vararg:=none,kwonlyargs:=[],kw_defaults:=[],kwarg:=none,defaults:=[]}
def rN(s:Stmt):List Stmt:=match s with
 | .FunctionDef _ _ b _ _ _ _ _ _ _=>b
 |_=>[]
def rh(s:Stmt):Scope:=match s with
 | .FunctionDef _ _ _ _ _ _ sc _ _ _=>sc
 |_=>{kind:=.function,names:=[],isGenerator:=false,isCoroutine:=false}
abbrev CX0:CXT:=fun _ _ _ _ _ _=>False
abbrev E0:XK:=fun _ _ _=>False
def DY{X:Cx}:xy CX0 X E0:=fun _ _ _ _ _ _ _ h=>h.elim
structure Fun (K:Frag) (x qual:Str) (st:Stmt) (f:Addr) (fd:FuncData):Prop where
 ex:∃(oc:Value) (od:Option Addr) (kV doc pm:Value) (an:Option Addr) (cdv ct:Value) (osl:Array (Option Value)),
  fd=fnOf x qual (rQ st) (rN st) (rh st) .none kV doc pm an cdv ct/\K.lookup f=some ⟨oc,od,.func fd,osl⟩/\codeIn K cdv qual=true
 kp:keepIn K (.ref f)=true
section
variable {P:Program} {w:World} {K:Frag} {mg:Str->Option Value} {base:Heap}
theorem Fun.ok{x qual:Str}{st:Stmt}{f:Addr}{fd:FuncData}{N ps:List Str}{k:Nat}{sp:Sp}(F:Fun K x qual st f fd)(S:FnScope N ps (rh st))(len:∀vs H Q E,sp vs H Q E->vs.length=ps.length)
  (hbody:∀(cdv:Value) (A:Around) (outer:List Env) (s:Shared) (H:Hp) (vs:List V) (Q:VK) (E:XK),Room k (A.deeper (envOfC qual (rh st) s.heap.objs.size f cdv))->sp vs H Q E->
   ∃t,PSs (rV CX0 P w K mg base N qual (rh st) f cdv A outer s H E).nox (rN st) t/\t {nx:=fun _ H'=>Q .non H',rt:=Q} (vX N vs) H):FnOk P w K mg base CX0 (k+1) f fd ps sp:=by
 obtain⟨oc,od,kV,doc,pm,an,cdv,ct,osl,rfl,lk,hcd⟩:=F.ex;refine(JL lk hcd S len fun A outer s H vs Q E hr hsp=>?_);obtain⟨t,h,q⟩:=hbody cdv A outer s H vs Q E hr hsp;exact(⟨t,h.nox,q⟩)
theorem Fun.binds{x qual:Str}{st:Stmt}{f:Addr}{fd:FuncData}{ps:List Str}(F:Fun K x qual st f fd)
  (h:∀(kV doc pm:Value) (an:Option Addr) (cdv ct:Value) (us:List Value),us.length=ps.length->bindArgs (fnOf x qual (rQ st) (rN st) (rh st) .none kV doc pm an cdv ct) ⟨us,[]⟩=pure (ps.zip us)):Binds K fd ps []:=by
 obtain⟨oc,od,kV,doc,pm,an,cdv,ct,osl,rfl,lk,hcd⟩:=F.ex;exact(.all (h kV doc pm an cdv ct))
theorem rW{x qual:Str}{st:Stmt}{f:Addr}{oc:Value}{od an:Option Addr}{osl:Array (Option Value)}{kV doc pm cdv ct:Value}(l:K.lookup f=some ⟨oc,od,.func (fnOf x qual (rQ st) (rN st) (rh st) .none kV doc pm an cdv ct),osl⟩)
  (c:codeIn K cdv qual=true) (k:keepIn K (.ref f)=true):Fun K x qual st f (fnOf x qual (rQ st) (rN st) (rh st) .none kV doc pm an cdv ct):=⟨⟨oc,od,kV,doc,pm,an,cdv,ct,osl,rfl,l,c⟩,k⟩
end
section
variable {X:Cx}
theorem pv(i:Nat){x:Str}{pos:Pos}(hN:X.N[i]?=some x:=by rfl)(hv:Vis X.env.scope x:=by first|exact Or.inl rfl|exact Or.inr (Or.inl rfl)|exact Or.inr (Or.inr rfl))(hd:(x==("__debug__":Str))=false:=by decide)
  (hcd:(x==("__classdict__":Str))=false:=by decide):PE X (.Name x pos) (Ke i):=LG hN hv hd hcd
end
def CH{A Z7:Prop}(h:Z7):if false=true then A else Z7:=by
 rw[if_neg X6];exact h
def DI{A Z7:Prop}(h:A):if true=true then A else Z7:=by
 rw[if_pos rfl];exact h
def wH{c A Z7:Prop} [Decidable c](h1:c->A)(h2:¬c->Z7):if c then A else Z7:=by
 by_cases h:c
 ·rw[if_pos h];exact h1 h
 ·rw[if_neg h];exact h2 h
section
variable {κ:Type} [DecidableEq κ]
end
end L2
namespace Tim
open PySem PyProof.Rows
def Cg(p:Keyed):Prop:=∃n t,p.1=.int n t/\p.2=p.1
end Tim
namespace L2
open PySem PySem.Spec PyProof.Rows
def rq(X:Cx)(N':List Str)(scope:Scope)(cl:List (Str×Addr))(C:Addr)(Z2:Shared)(Z0:Hp)(ex:List Addr):Cx:=
 {X with N:=N',Z2:=Z2,Z0:=Z0,env:=compEnvC scope cl C X.env,outer:=X.stack,ex:=ex,fn:=fun x=>scope.names.lookup x==some NameKind.cell,pn:=[]}
theorem EH{env:Env}:∀(names:List (Str×NameKind)) (acc:List (Str×Addr)),(∀y∈names,y.2=.free->∃c,env.cells.lookup y.1=some c)->
  (∀y c,acc.lookup y=some c->env.cells.lookup y=some c)->
  ∃cl,(forIn names acc fun x r=>if(x.2==NameKind.free)=true then do let c ←cellOf env x.1;pure (ForInStep.yield ((x.1,c)::r)) else pure (ForInStep.yield r):Sem (List (Str×Addr)))=pure cl/\
   (∀y c,cl.lookup y=some c->env.cells.lookup y=some c)/\(∀y,(y,NameKind.free)∈names->∃c,cl.lookup y=some c)/\∀y c,acc.lookup y=some c->∃c',cl.lookup y=some c'
 | [],acc,_,ha=>⟨acc,by simp,ha,fun _ h=>by simp at h,fun y c h=>⟨c,h⟩⟩
 |(n,k)::r,acc,h,ha=>by
  by_cases hk:k=.free
  ·subst hk;obtain⟨c,hc⟩:=h (n,.free) List.mem_cons_self rfl;have e:cellOf env n=pure c:=by unfold cellOf;rw[hc]
   obtain⟨cl,e1,h1,h2,h3⟩:=EH r ((n,c)::acc) (fun y hy=>h y (Xs _ hy)) (fun y d hd=>by
    rw[Xc] at hd;split at hd
    ·rename_i hb;have:y=n:=by simpa using hb
     subst this;cases hd;exact hc
    ·exact ha y d hd)
   refine⟨cl,?_,h1,fun y hy=>?_,fun y d hd=>?_⟩
   ·rw[List.forIn_cons,e];simpa using e1
   ·rcases Xd.mp hy with z|z
    ·cases z;exact h3 n c (by simp[Xc])
    ·exact h2 y z
   ·by_cases hy:y=n
    ·subst hy;exact h3 y c (by simp[Xc])
    ·have hb:(y==n)=false:=by simpa using hy
     exact h3 y d (by simp only[Xc,hb];exact hd)
  ·have hb:(k==NameKind.free)=false:=by simpa using hk
   obtain⟨cl,e1,h1,h2,h3⟩:=EH r acc (fun y hy=>h y (Xs _ hy)) ha;refine(⟨cl,?_,h1,fun y hy=>?_,h3⟩)
   ·rw[List.forIn_cons];simpa[hb] using e1
   ·rcases Xd.mp hy with z|z
    ·cases z;exact absurd rfl hk
    ·exact h2 y z
theorem Aj{scope:Scope}{env:Env}(h:∀y∈scope.names,y.2=.free->∃c,env.cells.lookup y.1=some c):
  ∃cl,closureFor scope env=pure cl/\(∀y c,cl.lookup y=some c->env.cells.lookup y=some c)/\∀y,(y,NameKind.free)∈scope.names->∃c,cl.lookup y=some c:=by
 obtain⟨cl,e,h1,h2,_⟩:=EH (env:=env) scope.names [] h (fun _ _ z=>by simp at z);refine(⟨cl,?_,h1,h2⟩);unfold closureFor;show((forIn scope.names [] fun x r=>if(x.2==NameKind.free)=true then do let c ←cellOf env x.1;pure (ForInStep.yield ((x.1,c)::r)) else pure (ForInStep.yield r):Sem (List (Str×Addr))) >>= fun cs=>pure cs)=pure cl;rw[e];rfl
section
variable {prog:Program} {w:World} {A:Around} {R:Result->Shared->Prop} {s:Shared}
theorem Nw{elt target iter:Expr}{ifs:List Expr}{scope:Scope}{pos:Pos}{it acc:Value}{env:Env}(I:Nat->Shared->Prop)
  (turn:∀n s,I n s->wpAny (model prog w) A (pyNext it) (fun r ZT=>match r with
   |none=>R (.ok .next) ZT
   |some v=>wpAny (model prog w) A (letOwnedTupleGo target it v) (fun _ ZA=>wpAny (model prog w) A (assign target env v) (fun _ ZJ=>
     wpAny (model prog w) A (forIn ifs true fun c r=>if r=true then do let ok ←isTrue c env (eval c env);pure (ForInStep.yield ok) else pure (ForInStep.yield r)) (fun ok ZL=>
      if ok=true then wpAny (model prog w) A (eval elt env) (fun x ZG=>
       wpAny (model prog w) A (call (.builtin "list.append") [acc,x]) (fun _ ZD=>∃m,m<n/\I m ZD) (fun _ _=>False) ZG) (fun _ _=>False) ZL
      else ∃m,m<n/\I m ZL) (fun _ _=>False) ZJ) (fun _ _=>False) ZA) (fun _ _=>False) ZT) (fun _ _=>False) s)
  (n:Nat) (h:I n s):codeAny (model prog w) A (.compLoop (.ListComp elt [⟨target,iter,ifs,0⟩] scope pos) 0 it acc env) R s:=by
 refine codeAny_loop rfl I (fun n s hI=>?_) n h;show wpAny _ A ((compTurn (.ListComp elt [⟨target,iter,ifs,0⟩] scope pos) 0 it acc env).onRaise (fun x=>do noteFrame x env;theTreesLotGoes x)) _ _ s;refine wpAny_noted ?_;rw[compTurn_list];refine WO (E:=fun _ _=>False) ?_ (fun _ _ x=>x) fun _ _ x=>x.elim;refine WH (XW (WH (WO (turn n s hI) (fun r ZT ZQ=>?_) fun _ _ h'=>h')));cases r with
 |none=>exact WM ZQ
 |some v=>
  refine WH (WO ZQ (fun _ ZA Zu=>?_) fun _ _ h'=>h');refine WH (WO Zu (fun _ ZJ ZB=>WH (WO ZB (fun ok ZL ZE=>?_) fun _ _ h'=>h')) fun _ _ h'=>h');cases ok with
  |false=>exact WM ⟨rfl,ZE⟩
  |true=>
   exact WH (WH (WO ZE (fun x ZG Zt=>WH (WO Zt (fun _ ZD Zs=>WM (WM ⟨rfl,Zs⟩)) fun _ _ h'=>h')) fun _ _ h'=>h'))
end
theorem Jf{env:Env}{x:Str}:∀{names:List (Str×NameKind)},names.lookup x=some .free->
  (names.map fun(n,k)=>if(k==NameKind.free&&env.scope.kind==.function&&env.kindOf n==some .cell) then(n,NameKind.cell) else(n,k)).lookup x=some .free\/
  (names.map fun(n,k)=>if(k==NameKind.free&&env.scope.kind==.function&&env.kindOf n==some .cell) then(n,NameKind.cell) else(n,k)).lookup x=some .cell
 | [],h=>by simp at h
 |(n,k)::r,h=>by
  have ih:=@Jf env x r;show List.lookup x ((if(k==NameKind.free&&env.scope.kind==.function&&env.kindOf n==some .cell)=true then(n,NameKind.cell) else(n,k))::_)=_\/List.lookup x ((if(k==NameKind.free&&env.scope.kind==.function&&env.kindOf n==some .cell)=true then(n,NameKind.cell) else(n,k))::_)=_;cases hx:x==n with
  |true=>
   simp only[Xc,hx] at h;cases h;by_cases hc:(NameKind.free==NameKind.free&&env.scope.kind==.function&&env.kindOf n==some .cell)=true
   ·rw[if_pos hc];exact .inr (by simp[Xc,hx])
   ·rw[if_neg hc];exact .inl (by simp[Xc,hx])
  |false=>
   simp only[Xc,hx] at h;by_cases hc:(k==NameKind.free&&env.scope.kind==.function&&env.kindOf n==some .cell)=true
   ·rw[if_pos hc];simp only[Xc,hx];exact ih h
   ·rw[if_neg hc];simp only[Xc,hx];exact ih h
theorem IE{env:Env}{x:Str}:∀{names:List (Str×NameKind)},
  ((names.map fun(n,k)=>if(k==NameKind.free&&env.scope.kind==.function&&env.kindOf n==some .cell) then(n,NameKind.cell) else(n,k)).lookup x=some .cell\/
   (names.map fun(n,k)=>if(k==NameKind.free&&env.scope.kind==.function&&env.kindOf n==some .cell) then(n,NameKind.cell) else(n,k)).lookup x=some .free)->names.lookup x=some .free\/names.lookup x=some .cell
 | [],h=>by simp at h
 |(n,k)::r,h=>by
  have ih:=@IE env x r;have h:List.lookup x ((if(k==NameKind.free&&env.scope.kind==.function&&env.kindOf n==some .cell)=true then(n,NameKind.cell) else(n,k))::(r.map fun(n,k)=>if(k==NameKind.free&&env.scope.kind==.function&&env.kindOf n==some .cell) then(n,NameKind.cell) else(n,k)))=some .cell\/
   List.lookup x ((if(k==NameKind.free&&env.scope.kind==.function&&env.kindOf n==some .cell)=true then(n,NameKind.cell) else(n,k))::(r.map fun(n,k)=>if(k==NameKind.free&&env.scope.kind==.function&&env.kindOf n==some .cell) then(n,NameKind.cell) else(n,k)))=some .free:=h
  cases hx:x==n with
  |true=>
   by_cases hc:(k==NameKind.free&&env.scope.kind==.function&&env.kindOf n==some .cell)=true
   ·have:k=.free:=by
     have z:=(Bool.and_eq_true_iff.mp (Bool.and_eq_true_iff.mp hc).1).1;simpa using z
    subst this;exact .inl (by simp[Xc,hx])
   ·rw[if_neg hc] at h;simp only[Xc,hx] at h⊢;exact h.symm
  |false=>
   have:∀p:NameKind,List.lookup x ((if(k==NameKind.free&&env.scope.kind==.function&&env.kindOf n==some .cell)=true then(n,NameKind.cell) else(n,k))::(r.map fun(n,k)=>if(k==NameKind.free&&env.scope.kind==.function&&env.kindOf n==some .cell) then(n,NameKind.cell) else(n,k)))=some p↔(r.map fun(n,k)=>if(k==NameKind.free&&env.scope.kind==.function&&env.kindOf n==some .cell) then(n,NameKind.cell) else(n,k)).lookup x=some p:=fun p=>by
    by_cases hc:(k==NameKind.free&&env.scope.kind==.function&&env.kindOf n==some .cell)=true
    ·rw[if_pos hc];simp only[Xc,hx]
    ·rw[if_neg hc];simp only[Xc,hx]
   rw[this .cell,this .free] at h;have:=ih h;simp only[Xc,hx];exact this
theorem vw:∀(names:List (Str×NameKind)) (n:Nat) (acc:List (Str×Addr)),cellsFrom n names acc=cellsFrom n names []++acc
 | [],_,_=>rfl
 |(name,kind)::r,n,acc=>by
  unfold cellsFrom;split
  ·rw[vw r (n+1) ((name,n)::acc),vw r (n+1) [(name,n)],List.append_assoc];rfl
  ·exact vw r n acc
theorem D6{x:Str}{c:Addr}:∀(names:List (Str×NameKind)) (n:Nat) (acc:List (Str×Addr)),(x,c)∈cellsFrom n names acc->(x,NameKind.cell)∈names\/(x,c)∈acc
 | [],_,_,h=>.inr h
 |(name,kind)::r,n,acc,h=>by
  unfold cellsFrom at h;split at h
  ·rename_i hk;have hk':kind=.cell:=by simpa using hk
   rcases D6 r (n+1) _ h with z|z
   ·exact .inl (Xs _ z)
   ·rcases Xd.mp z with z|z
    ·cases z;rw[hk'];exact .inl List.mem_cons_self
    ·exact .inr z
  ·rcases D6 r n acc h with z|z
   ·exact .inl (Xs _ z)
   ·exact .inr z
structure CompScope (X:Cx) (N' own:List Str) (cap:List (Str×Nat)) (scope:Scope):Prop where
 kind:scope.kind=.function
 own1:∀y∈scope.names,y.2=.cell->scope.names.lookup y.1=some .cell
 free1:∀y∈scope.names,y.2=.free->scope.names.lookup y.1=some .free
 names:∀y∈scope.names,y.2=.local->scope.names.lookup y.1=some .local
 free:∀y∈scope.names,y.2=.free->X.env.kindOf y.1=some .cell\/X.env.kindOf y.1=some .free
 eq:N'=own++cap.map (·.1)
 cap:∀p∈cap,X.N[p.2]?=some p.1/\scope.names.lookup p.1=some .free/\(X.env.kindOf p.1=some .cell\/X.env.kindOf p.1=some .free)
def tw(own:List Str)(cap:List (Str×Nat))(B:St):St:=own.map (fun _=>none)++cap.map fun p=>(B[p.2]?).join
section
variable {X:Cx} {pins:QS} {B:St} {H:Hp} {s:Shared} {N' own:List Str} {cap:List (Str×Nat)} {scope:Scope} {cl:List (Str×Addr)} {fp:List Addr}
structure CellsAre (X:Cx) (scope:Scope) (C:Addr) (cl cs:List (Str×Addr)):Prop where
 old:∀y c,cs.lookup y=some c->(cl.lookup y=some c/\scope.names.lookup y≠some .cell)\/(C<c/\scope.names.lookup y=some .cell)
 free:∀y c,cl.lookup y=some c->scope.names.lookup y≠some .cell->cs.lookup y=some c
 has:∀y,scope.names.lookup y=some .cell->∃c,cs.lookup y=some c
 inj:∀x y c,C<c->cs.lookup x=some c->cs.lookup y=some c->x=y
theorem wF{J:Type}{x:Str}:∀{l r:List (Str×J)},(l++r).lookup x=(l.lookup x).or (r.lookup x)
 | [],r=>by simp
 |(k,v)::l,r=>by
  have ih:=@wF J x l r;rw[List.cons_append,Xc,Xc];cases x==k with
  |true=>rfl
  |false=>exact ih
theorem Eg{h:Heap}{C:Addr}(hC:h.objs.size=C+1)(S:CompScope X N' own cap scope)(hcl:∀y c,cl.lookup y=some c->¬C<c):CellsAre X scope C cl (cellsFrom (C+1) scope.names cl):=by
 have ok:=cellsFrom_ok scope.names h (C+1) [] ⟨fun _ _ hm=>(nomatch hm),List.Pairwise.nil⟩ (by rw[hC];exact WJ _);rw[hC] at ok;have own:∀y c,(cellsFrom (C+1) scope.names []).lookup y=some c->C<c/\scope.names.lookup y=some .cell:=fun y c e=>by
  have m:=Xr e;refine⟨(ok.empty y c m).2,?_⟩;rcases D6 _ _ _ m with z|z
  ·exact S.own1 _ z rfl
  ·simp at z
 have no:∀y,scope.names.lookup y≠some .cell->(cellsFrom (C+1) scope.names []).lookup y=none:=fun y hy=>by
  cases e:(cellsFrom (C+1) scope.names []).lookup y with
  |none=>rfl
  |some c=>exact absurd (own y c e).2 hy
 have has:∀y,scope.names.lookup y=some .cell->∃c,(cellsFrom (C+1) scope.names []).lookup y=some c:=fun y hy=>XD.mp (PySem.W.cellsFrom_some scope.names (C+1) [] (.inl hy));refine⟨fun y c e=>?_,fun y c e hy=>?_,fun y hy=>?_,fun x y c hc e1 e2=>?_⟩
 ·rw[vw,wF] at e;cases q:(cellsFrom (C+1) scope.names []).lookup y with
  |none=>
   rw[q] at e;refine .inl ⟨e,fun z=>?_⟩;obtain⟨c',e'⟩:=has y z;rw[q] at e';cases e'
  |some c'=>
   rw[q] at e;have:c'=c:=Xa e;subst this;exact .inr (own y c' q)
 ·rw[vw,wF,no y hy];exact e
 ·obtain⟨c,e⟩:=has y hy;exact⟨c,by rw[vw,wF,e];rfl⟩
 ·have EO:∀z,(cellsFrom (C+1) scope.names cl).lookup z=some c->(z,c)∈cellsFrom (C+1) scope.names []:=fun z e=>by
   rw[vw,wF] at e;cases q:(cellsFrom (C+1) scope.names []).lookup z with
   |none=>rw[q] at e;exact absurd hc (hcl z c e)
   |some c'=>
    rw[q] at e;have:c'=c:=Xa e;subst this;exact Xr q
  exact PySem.name_of_addr ok.apart (EO x e1) (EO y e2)
theorem Rx(I:Inv X pins B H s)(S:CompScope X N' own cap scope){cs:List (Str×Addr)}(A:CellsAre X scope s.heap.objs.size cl cs)(c1:∀y c,cl.lookup y=some c->X.env.cells.lookup y=some c)(c2:∀y,(y,NameKind.free)∈scope.names->∃c,cl.lookup y=some c)
  (hf:∀b∈fp,sE X pins H b) (hlt:∀b∈fp,b<s.heap.objs.size):(rq X N' scope cs s.heap.objs.size s H fp).Ok where
 mod:=I.ok.mod
 kind:=S.kind
 glob:=I.ok.glob
 blt:=I.ok.blt
 above:=WJ _
 inj:=fun x y c h1 h2=>by
  rcases A.old x c h1 with⟨a1,_⟩|⟨a1,_⟩
  ·rcases A.old y c h2 with⟨b1,_⟩|⟨b1,_⟩
   ·exact I.ok.inj x y c (c1 x c a1) (c1 y c b1)
   ·obtain⟨v,o,ho,_⟩:=I.cell x c (c1 x c a1);exact absurd (Nat.lt_trans b1 (WN ho)) (Xp _)
  ·exact A.inj x y c a1 h1 h2
 has:=fun x h=>by
  rcases IE h with z|z
  ·obtain⟨c,e⟩:=c2 x (Xr z);exact⟨c,A.free x c e (by rw[z];simp)⟩
  ·exact A.has x z
 cab:=fun x c h e=>by
  have h':scope.names.lookup x=some .cell:=by
   have:(scope.names.lookup x==some NameKind.cell)=true:=h;simpa using this
  rcases A.old x c e with⟨_,z⟩|⟨z,_⟩
  ·exact absurd h' z
  ·exact Nat.le_of_lt z
 hd:=I.ok.hd
 frames:=I.ok.frames
 stk:=.inl rfl
 exf:=fun b hb=>⟨W8 (hlt b hb),fun x c h=>by
  rcases A.old x c h with⟨z,_⟩|⟨z,_⟩
  ·exact(hf b hb).2.2.2.2.1 x c (c1 x c z)
  ·exact fun e=>absurd (Nat.lt_trans (e▸z) (hlt b hb)) (Xp _)⟩
 bs:=I.bs
 bsz:=Xo I.ok.bsz I.sz
 noex:=fun b o e hb=>by
  rcases(hf b hb).2.2.2.1 with z|z
  ·exact I.ok.noex b o e z
  ·exact absurd (WZ (WN e) (Xo I.ok.bsz z)) (Xp _)
 exfs:=fun b hb z=>by
  rcases Xd.mp (I.stkSub b z) with q|q
  ·exact(hf b hb).2.1 q
  ·exact(hf b hb).2.2.1 q
 funs:=I.stack
 frf:=I.stkFree
theorem comp_inv{h':Heap}{t':Nat}{cs:List (Str×Addr)}(I:Inv X pins B H s)(S:CompScope X N' own cap scope)(A:CellsAre X scope s.heap.objs.size cl cs)(hA:∀y c,cs.lookup y=some c->s.heap.objs.size<c->h'.IsCell c none)
  (c1:∀y c,cl.lookup y=some c->X.env.cells.lookup y=some c) (c2:∀y,(y,NameKind.free)∈scope.names->∃c,cl.lookup y=some c)
  (hf:∀b∈fp,sE X pins H b) (hlt:∀b∈fp,b<s.heap.objs.size) (hk:∀b o,s.heap.get? b=some o->h'.get? b=some o) {m:Str->Option Value} (hn:h'.Ns s.heap.objs.size m):
  Inv (rq X N' scope cs s.heap.objs.size s H fp) [] (tw own cap B) H {s with heap:=h',toks:=t'}:=by
 refine⟨Rx I S A c1 c2 hf hlt,rfl,I.bare,Un.kept hk,⟨m,hn,fun i x v h1 h2 h3=>?_⟩,fun x c e=>?_,I.hok.fresh (WJ _),fun x c e=>?_,fun p hp=>absurd hp (by show p∉([]++[]:QS);simp),?_,?_⟩
 ·have hi:own.length<=i:=by
   by_cases hi:own.length<=i
   ·exact hi
   ·unfold tw at h2;rw[WV (by rw[WQ];omega),WY] at h2;cases e:own[i]? with
    |none=>rw[e] at h2;cases h2
    |some a=>rw[e] at h2;cases h2
  have h1':(own++cap.map (·.1))[i]?=some x:=by rw[←S.eq];exact h1
  rw[Xn hi,WY] at h1';unfold tw at h2;rw[Xn (by rw[WQ];exact hi),WQ,WY] at h2;cases e:cap[i - own.length]? with
  |none=>rw[e] at h2;cases h2
  |some p=>
   rw[e] at h1' h2;have ex:p.1=x:=Xa h1';have ev:(B[p.2]?).join=some v:=Xa h2;have ev':B[p.2]?=some (some v):=by
    cases q:B[p.2]? with
    |none=>rw[q] at ev;cases ev
    |some z=>rw[q] at ev;exact congrArg some ev
   obtain⟨k1,k2,k3⟩:=S.cap p (List.mem_of_getElem? e);subst ex;obtain⟨m0,hn0,hl⟩:=I.loc;obtain⟨u,ru,lk⟩:=hl p.2 p.1 v k1 ev' (by rcases k3 with z|z;exact .inr (.inl z);exact .inr (.inr z));refine(⟨u,ru,?_⟩);rcases lk with⟨z,_⟩|⟨_,c,hc,hcell⟩
   ·rcases k3 with q|q<;>(rw[z] at q;cases q)
   ·refine .inr ⟨?_,c,?_,?_⟩
    ·rcases Jf (env:=X.env) k2 with q|q
     ·exact .inr q
     ·exact .inl q
    ·obtain⟨c',e'⟩:=c2 p.1 (Xr k2);have:=c1 _ _ e';rw[hc] at this;cases this;exact A.free _ _ e' (by rw[k2];simp)
    ·obtain⟨o,ho,hd⟩:=hcell;exact⟨o,hk _ _ ho,hd⟩
 ·rcases A.old x c e with⟨z,_⟩|⟨z,_⟩
  ·obtain⟨v,o,ho,hd⟩:=I.cell x c (c1 x c z);exact⟨v,o,hk _ _ ho,hd⟩
  ·exact⟨none,hA x c e z⟩
 ·rcases A.old x c e with⟨z,_⟩|⟨z,_⟩
  ·exact I.freeC x c (c1 x c z)
  ·exact I.hok.fresh (Nat.le_of_lt z)
 ·exact I.hok.kept hk
 ·show(tw own cap B).length=N'.length;rw[S.eq];unfold tw;simp
end
def PIf(X:Cx)(ifs:List Expr)(t:TT):Prop:=
 ∀(pins:QS) (s:Shared) (B:St) (H:Hp) (Q:Bool->Hp->Prop),Inv X pins B H s->t B H Q->
  wpAny (model X.prog X.w) X.A (forIn ifs true fun c r=>if r=true then do let ok ←isTrue c X.env (eval c X.env);pure (ForInStep.yield ok) else pure (ForInStep.yield r)) (TP X pins B Q) X.xe s
def UJ:TT:=fun _ H Q=>Q true H
def SB{X:Cx}:PIf X [] UJ:=fun _ _ _ H _ I h=>wpAny_tests_nil ⟨H,I,h⟩
def SH{X:Cx}{c:Expr}{t:TT}(h:PT X c t):PIf X [c] t:=fun pins s B H Q I hw=>wpAny_tests_one (h pins s B H Q I hw)
theorem CY{M:Model}{A:Around}{E:OK}{s:Shared}{scope:Scope}{globals:Addr}{cl:List (Str×Addr)}{qual:Str}{env:Env}{Q:Env->Shared->Prop}
  (hQ:∀h',h'.Ns s.heap.objs.size (fun _=>none)->(∀b o,s.heap.get? b=some o->h'.get? b=some o)->(∀n c,(n,c)∈cellsFrom (s.heap.objs.size+1) scope.names []->h'.IsCell c none)->
   Q (newEnv scope s.heap.objs.size globals (cellsFrom (s.heap.objs.size+1) scope.names cl) qual none .none (some env) builtinsNs) {s with heap:=h'}):
  wpAny M A (newFunctionEnv scope globals cl [] qual none .none (some env)) Q E s:=by
 simp only[newFunctionEnv,Option.isSome_some,if_true];refine WH (wpAny_alloc ?_);refine WH (wpAny_layCells _ (fun name kind cells=>by cases hkc:kind==NameKind.cell<;>simp[hkc]) _ _ _ _ ?_);have ok:=cellsFrom_ok scope.names (s.heap.push {cls:=.type "dict",data:=.dict #[]}) (s.heap.objs.size+1) [] ⟨fun _ _ hm=>(nomatch hm),List.Pairwise.nil⟩ (by rw[XG];exact WJ _);rw[XG] at ok;rw[show({s with heap:=s.heap.push {cls:=.type "dict",data:=.dict #[]}}:Shared).heap.objs.size=s.heap.objs.size+1 from XG ..];rw[List.forIn_nil];refine WH (WM (WM ?_));exact hQ _ ((Heap.Ns.new s.heap (.type "dict")).keeps (pushCells_keeps _ _)) (fun b o e=>pushCells_keeps _ _ b o (WK _ e)) fun n c hm=>(ok.empty n c hm).1
def zL(Z6:It)(g:TG)(tc:TT)(te:TE)(D:Addr)(ZN:St)(H0:Hp)(Z:Hp->Prop):Prop:=
 ∃W:Nat->Nat->St->Hp->Prop,(∃m,W 0 m ZN (upd H0 D (.lst [])))/\∀i m B H,W i m B H->
  (Z6.stop i H/\Z H)\/(Z6.go i H/\∃N:St->Hp->Prop,(∀ZZ H',N ZZ H'->∃m',m'<m/\W (i+1) m' ZZ H')/\∀x H',Z6.yld i H x H'->g x B H' fun ZV H2=>tc ZV H2 fun b H3=>
   if b=true then te ZV H3 fun v H4=>∃ys,H4 D=some (.lst ys)/\ys.length<sizeLine/\N ZV (upd H4 D (.lst (ys++[v]))) else N ZV H3)
section
variable {X:Cx} {pins:QS} {B:St} {N' own:List Str} {cap:List (Str×Nat)} {scope:Scope} {tg iter elt:Expr} {ifs:List Expr} {pos:Pos} {g:TG} {tc:TT} {te:TE}
theorem Te{Y:Cx}{s:Shared}{ZN:St}{H2:Hp}{it D:Addr}{fp:List Addr}{tn:Nat->Heap->Prop}{Z6:It}{Z:Hp->Prop}{R:Result->Shared->Prop}
  (hx:∀e s,Y.xe e s->False) (hc:Y.calm=true) (hg:PG Y tg g) (ht:PIf Y ifs tc) (he:PE Y elt te)
  (T:Turn Y.prog Y.w Y.K tg Z6 fp it tn) (J0:Inv Y [] ZN (upd H2 D (.lst [])) s) (st3:tn 0 s.heap) (f3:∀b∈fp,upd H2 D (.lst []) b=none)
  (stat:∀{H':Hp},(∀b∈fp,H' b=none)->∀b∈fp,sE Y [] H' b) (h:zL Z6 g tc te D ZN H2 Z)
  (hR:∀ZP H4 s5,Inv Y [] ZP H4 s5->Z H4->R (.ok .next) s5):
  codeAny (model Y.prog Y.w) Y.A (.compLoop (.ListComp elt [⟨tg,iter,ifs,0⟩] scope pos) 0 (.ref it) (.ref D) Y.env) R s:=by
 obtain⟨W,⟨m0,w0⟩,turn⟩:=h;have noX:∀{J:Type} {t:Sem J} {Q:J->Shared->Prop} {s:Shared},wpAny (model Y.prog Y.w) Y.A t Q Y.xe s->wpAny (model Y.prog Y.w) Y.A t Q (fun _ _=>False) s:=fun q=>WO q (fun _ _ z=>z) fun e s z=>hx e s z;obtain⟨P,hP⟩:∃P:Nat->Shared->Prop,∀n s',P n s'↔∃i ZZ H',Inv Y [] ZZ H' s'/\tn i s'.heap/\(∀b∈fp,H' b=none)/\W i n ZZ H':=⟨_,fun _ _=>Iff.rfl⟩
 refine Nw P ?_ m0 ((hP _ _).2 ⟨0,_,_,J0,st3,f3,w0⟩);rintro n s4 h4;obtain⟨i,ZP,H4,I4,st4,fr4,w4⟩:=(hP _ _).1 h4;rcases turn i n ZP H4 w4 with⟨stop,qz⟩|⟨go,N,hN,step⟩
 ·refine WO (T.done Y rfl rfl rfl hc i [] s4 ZP H4 (fun _ _=>False) I4 (stat fr4) st4 stop) (fun r s5 ⟨hr,I5⟩=>?_) fun _ _ z=>z;subst hr;exact hR ZP H4 s5 I5 qz
 ·refine WO (T.item Y rfl rfl rfl hc i [] s4 ZP H4 (fun _ _=>False) I4 (stat fr4) st4 go) (fun r s5 ⟨u,hr,h5⟩=>?_) fun _ _ z=>z;subst hr;refine WO h5 (fun _ s6 hm=>?_) fun _ _ z=>z;obtain⟨x,H6,I6,r6,y6,st6,fr6⟩:=hm;have I6':=I6.pinned (stat fr6) (T.obj _ _ st6);have again:∀{ZS:St} {H7:Hp} {s7:Shared},Inv Y ([]++wU fp s6.heap) ZS H7 s7->N ZS H7->∃m,m<n/\P m s7:=fun{ZS H7 s7} I7 n7=>by
   obtain⟨m',hm,w7⟩:=hN ZS H7 n7;refine(⟨m',hm,(hP _ _).2 ⟨i+1,ZS,H7,I7.unpinned,T.keep _ _ _ st6 fun b hb o e=>(I7.pin (b,o) (WU _ (WU _ (vF hb e)))).1,fun b hb=>?_,w7⟩⟩);obtain⟨o,e,d⟩:=T.obj _ _ st6 b hb;exact((I7.pin (b,o) (WU _ (WU _ (vF hb e)))).2.1)
  refine noX (thn (hg _ s6 ZP H6 x u _ I6' r6 (step x H6 y6)) fun _ s7 hm=>?_);obtain⟨ZS,H7,I7,q7⟩:=hm;refine(noX (thn (ht _ s7 ZS H7 _ I7 q7) fun b s8 hm=>?_));obtain⟨H8,I8,q8⟩:=hm;cases b with
  |false=>
   show ∃m,_;exact again I8 q8
  |true=>
   show wpAny _ _ _ _ _ _;refine noX (thn (he _ s8 ZS H8 _ I8 q8) fun y s9 hm=>?_);obtain⟨v,H9,I9,r9,ys,hy,hz,q9⟩:=hm;refine(noX (thn (E8 (X:=Y) _ s9 ZS H9 (.ref D) [v] (.ref D) [y] (fun _ H'=>N ZS H') I9 rfl (.cons r9 .nil) ⟨_,ys,v,rfl,rfl,hy,hz,q9⟩) fun _ s10 hm=>?_));obtain⟨_,H10,I10,_,q10⟩:=hm;exact(again I10 q10)
theorem IB{s2:Shared}{H2:Hp}{it:Addr}{fp:List Addr}{tn:Nat->Heap->Prop}{Z6:It}{cl:List (Str×Addr)}{Z:Addr->Hp->Prop}{RR:Value->Addr->Result->Shared->Prop}{E:OK}
  (hx:∀e s,X.xe e s->False) (hc:X.calm=true) (S:CompScope X N' own cap scope)
  (hg:∀cl C Z2 Z0 ex,PG (rq X N' scope cl C Z2 Z0 ex) tg g) (ht:∀cl C Z2 Z0 ex,PIf (rq X N' scope cl C Z2 Z0 ex) ifs tc) (he:∀cl C Z2 Z0 ex,PE (rq X N' scope cl C Z2 Z0 ex) elt te)
  (I2:Inv X pins B H2 s2) (T:Turn X.prog X.w X.K tg Z6 fp it tn) (st2:tn 0 s2.heap) (f2:∀b∈fp,sE X pins H2 b)
  (c1:∀y c,cl.lookup y=some c->X.env.cells.lookup y=some c) (c2:∀y,(y,NameKind.free)∈scope.names->∃c,cl.lookup y=some c)
  (h:∀D,H2 D=none->zL Z6 g tc te D (tw own cap B) H2 (Z D))
  (hRR:∀D C s' m' H',Inv X pins B H' s'->s'.heap.Ns C m'->sE X pins H' C->Z D H'->RR (.ref D) C (.ok .next) s'):
  wpAny (model X.prog X.w) X.A (newList []) (fun acc ZL=>wpAny (model X.prog X.w) X.A (newFunctionEnv scope X.env.globals cl [] X.env.qual none .none (some X.env)) (fun cenv ZG=>
   codeAny (model X.prog X.w) X.A (.compStart (.ListComp elt [⟨tg,iter,ifs,0⟩] scope pos) 0 (.ref it) acc {cenv with scope:=relabel scope X.env}) (RR acc cenv.locals) ZG) E ZL) E s2:=by
 have hlt:∀b∈fp,b<s2.heap.objs.size:=fun b hb=>by
  obtain⟨o,e,_⟩:=T.obj _ _ st2 b hb;exact(WN e)
 have hD:H2 s2.heap.objs.size=none:=I2.hok.fresh (WJ _);refine XE (CY (fun ZQ Zz Zy Zx=>?_));dsimp only at Zz Zy Zx⊢;have I3:Inv X pins B (upd H2 s2.heap.objs.size (.lst [])) {s2 with heap:=s2.heap.push {cls:=.type "list",dict:=none,data:=.seq ([]:List Value).toArray},toks:=s2.toks}:=
  I2.laid (fun b o e=>WK _ e) (WJ _) ⟨XJ _,[],0,.nil,WR _ rfl⟩
 generalize hs3:({s2 with heap:=s2.heap.push {cls:=.type "list",dict:=none,data:=.seq ([]:List Value).toArray},toks:=s2.toks}:Shared)=s3 at I3;have e3:s2.heap.push {cls:=.type "list",dict:=none,data:=.seq ([]:List Value).toArray}=s3.heap:=by rw[←hs3]
 have hsz:s3.heap.objs.size=s2.heap.objs.size+1:=by rw[←e3,XG]
 rw[e3] at Zz Zy Zx⊢;have hk:=Zy;have hcl:∀y c,cl.lookup y=some c->¬s3.heap.objs.size<c:=fun y c e z=>by
  obtain⟨v,o,ho,_⟩:=I3.cell y c (c1 y c e);exact(Xp _ (Nat.lt_trans z (WN ho)))
 have CA:CellsAre X scope s3.heap.objs.size cl (cellsFrom (s3.heap.objs.size+1) scope.names cl):=Eg (h:=s3.heap.push {cls:=.type "dict",data:=.dict #[]}) (by rw[XG]) S hcl;have hcell:∀y c,(cellsFrom (s3.heap.objs.size+1) scope.names cl).lookup y=some c->s3.heap.objs.size<c->ZQ.IsCell c none:=fun y c e z=>by
  rw[vw,wF] at e;cases q:(cellsFrom (s3.heap.objs.size+1) scope.names []).lookup y with
  |none=>rw[q] at e;exact absurd z (hcl y c e)
  |some c'=>
   rw[q] at e;have:c'=c:=Xa e;subst this;exact Zx y c' (Xr q)
 generalize hcs:cellsFrom (s3.heap.objs.size+1) scope.names cl=cs at CA hcell⊢;have f3:∀b∈fp,sE X pins (upd H2 s2.heap.objs.size (.lst [])) b:=fun b hb=>⟨by rw[rG (W8 (hlt b hb))];exact(f2 b hb).1,(f2 b hb).2⟩
 have hlt3:∀b∈fp,b<s3.heap.objs.size:=fun b hb=>by rw[hsz];exact Ym (hlt b hb)
 have st3:tn 0 ZQ:=T.keep _ _ _ st2 fun b hb o e=>hk b o (by rw[←e3];exact WK _ e);have J0:Inv (rq X N' scope cs s3.heap.objs.size s3 (upd H2 s2.heap.objs.size (.lst [])) fp) [] (tw own cap B) (upd H2 s2.heap.objs.size (.lst [])) {s3 with heap:=ZQ,toks:=s2.toks}:=
  comp_inv I3 S CA hcell c1 c2 f3 hlt3 hk Zz
 have stat:∀{pl:QS} {H':Hp},pl=[]->(∀b∈fp,H' b=none)->∀b∈fp,sE (rq X N' scope cs s3.heap.objs.size s3 (upd H2 s2.heap.objs.size (.lst [])) fp) pl H' b:=fun{pl H'} hp hn b hb=>by
  subst hp;refine⟨hn b hb,W8 (hlt3 b hb),J0.ok.exfs b hb,.inl hb,fun x c e=>J0.ok.exf b hb |>.2 x c e,fun p hp=>absurd hp (by show p∉([]++[]:QS);simp)⟩
 have loop:codeAny (model X.prog X.w) X.A (.compLoop (.ListComp elt [⟨tg,iter,ifs,0⟩] scope pos) 0 (.ref it) (.ref s2.heap.objs.size) (compEnvC scope cs s3.heap.objs.size X.env)) (RR (.ref s2.heap.objs.size) s3.heap.objs.size)
   {s3 with heap:=ZQ,toks:=s2.toks}:=Te (Y:=rq X N' scope cs s3.heap.objs.size s3 (upd H2 s2.heap.objs.size (.lst [])) fp) hx hc (hg _ _ _ _ _) (ht _ _ _ _ _) (he _ _ _ _ _) T J0 st3 (fun b hb=>(f3 b hb).1) (stat rfl) (h _ hD) fun ZP H4 s5 I5 qz=>by
  have I6:Inv X pins B H4 s5:=I3.call' (ch:=fp) I5.os I5.base I5.hok I5.bare fun b hb=>⟨(f3 b hb).2.2.2.1,(f3 b hb).2.1,(f3 b hb).2.2.2.2.1,(f3 b hb).2.2.2.2.2⟩
  obtain⟨m',hn',_⟩:=I5.loc;exact(hRR _ _ s5 m' H4 I6 hn' (I3.fpOk (WJ _) I5.free) qz)
 have lp:codeAny (model X.prog X.w) X.A (.compStart (.ListComp elt [⟨tg,iter,ifs,0⟩] scope pos) 0 (.ref it) (.ref s2.heap.objs.size) (compEnvC scope cs s3.heap.objs.size X.env)) (RR (.ref s2.heap.objs.size) s3.heap.objs.size)
   {s3 with heap:=ZQ,toks:=s2.toks}:=codeAny_compStart_list loop (T.self _ 0 _ _ _ st3 loop)
 subst hs3;exact lp
end
def IM(own:List Str)(cap:List (Str×Nat))(wi:TI)(g:TG)(tc:TT)(te:TE):TE:=fun B H Q=>wi B H fun Z6 H1=>∀D,H1 D=none->zL Z6 g tc te D (tw own cap B) H1 (Q (.ref D))
section
variable {X:Cx} {N' own:List Str} {cap:List (Str×Nat)} {scope:Scope} {tg iter elt:Expr} {ifs:List Expr} {pos:Pos} {wi:TI} {g:TG} {tc:TT} {te:TE}
theorem Inv.letgo{pins:QS}{B:St}{H:Hp}{s:Shared}{h':Heap}{C:Addr}(I:Inv X pins B H s)(f:sE X pins H C)(hs:Heap.SameBut C s.heap h'):Inv X pins B H {s with heap:=h'}:=
 I.turned (t':=s.toks) (it:=C) (fun b o hb e=>(hs.2 b hb).trans e) f.1 f.2.1 f.2.2.2.1 f.2.2.2.2.1 f.2.2.2.2.2
theorem MS(S:CompScope X N' own cap scope)(hi:PI X tg iter wi)
  (hg:∀cl C Z2 Z0 ex,PG (rq X N' scope cl C Z2 Z0 ex) tg g) (ht:∀cl C Z2 Z0 ex,PIf (rq X N' scope cl C Z2 Z0 ex) ifs tc) (he:∀cl C Z2 Z0 ex,PE (rq X N' scope cl C Z2 Z0 ex) elt te)
  (hx:∀e s,X.xe e s->False:=by exact fun _ _ z=>z) (hc:X.calm=true:=by rfl) (hs:∀x,foldedSetIterable iter X.env x=pure x:=by intro _;rfl):
  PE X (.ListComp elt [⟨tg,iter,ifs,0⟩] scope pos) (IM own cap wi g tc te):=by
 intro pins s B H Q I h;rw[eval_ListComp];obtain⟨cl,hcl,c1,c2⟩:=Aj (scope:=scope) (env:=X.env) fun y hy hk=>I.ok.has y.1 (S.free y hy hk);refine(XX (use:=none) rfl hs hcl S.kind S.names (thn (hi pins s B H _ I h) fun v s1 h1=>thn h1 fun itv s2 h2=>?_));obtain⟨it,fp,tn,Z6,H2,e,I2,T,st2,f2,q⟩:=h2;subst e;refine(IB (RR:=fun acc C=>compPost (model X.prog X.w) X.A X.xe none (EP X pins B Q) acc C) (Z:=fun D=>Q (.ref D)) hx hc S hg ht he I2 T st2 f2 c1 c2 q ?_);intro D C s' m' H' I' hn' f' z;exact⟨m',hn',fun h'' hs''=>⟨.ref D,H',I'.letgo f' hs'',rfl,z⟩⟩
end
section
variable {X:Cx} {pins:QS} {B:St} {H:Hp} {s:Shared} {h':Heap} {ch:List Addr}
theorem Inv.turns{t':Nat}(I:Inv X pins B H s)(hf:∀b∈ch,sE X pins H b)(k:∀b o,b∉ch->s.heap.get? b=some o->h'.get? b=some o):Inv X pins B H {s with heap:=h',toks:=t'}:=by
 have nit:∀b u,H b=some u->b∉ch:=fun b u e z=>by rw[(hf b z).1] at e;cases e
 refine I.step (g':=s.gens) (d':=s.drawn) (ch:=ch) (fun b hb=>?_) (fun b o _ _ hc e _=>k b o hc e) (fun b o _ _ hc e _=>⟨o.slots,k b o hc e⟩) (fun _ _ _ _ n=>n)
  (fun b o hc e=>⟨o,k b o hc e⟩) (fun _ _ e=>e) (fun _ _ _ e=>e) (fun b ps e=>⟨#[],by rw[e];simp⟩) (fun m hm=>?_) (fun b u e=>?_) I.bare
 ·obtain⟨f0,f1,f2,f3,f4,f5⟩:=hf b hb;exact⟨f3,f1,f4,f5⟩
 ·obtain⟨o,es,ep,ho,r⟩:=hm;exact⟨o,es,ep,k _ o (fun z=>(hf _ z).2.1 rfl) ho,r⟩
 ·refine(I.hok b u e).stay (fun c v hc q=>k c v ?_ q) (fun _ q=>q) fun _ _ q=>q;rcases hc with z|z
  ·rw[z];exact nit b u e
  ·exact nit c _ z
theorem Inv.turnLay{t':Nat}{T:Addr}{o:HO}(I:Inv X pins B H s)(hf:∀b∈ch,sE X pins H b)(k:∀b o,b∉ch->s.heap.get? b=some o->h'.get? b=some o)(hT:s.heap.objs.size<=T)
  (new:ObjOk X.prog X.w (upd H T o) h' T o):Inv X pins B (upd H T o) {s with heap:=h',toks:=t'}:=by
 have nit:∀b u,H b=some u->b∉ch:=fun b u e z=>by rw[(hf b z).1] at e;cases e
 have hn:H T=none:=I.hok.fresh hT;have ne:∀b o,s.heap.get? b=some o->b≠T:=fun b o e=>W8 (WZ (WN e) hT);refine I.step (g':=s.gens) (d':=s.drawn) (ch:=ch) (fun b hb=>?_) (fun b o _ _ hc e _=>k b o hc e) (fun b o _ _ hc e _=>⟨o.slots,k b o hc e⟩) (fun b o _ e n=>by rw[rG (ne b o e)];exact n)
  (fun b o hc e=>⟨o,k b o hc e⟩) (fun b xs e=>by rw[rG (tG e hn)];exact e) (fun b o u e=>by rw[rG (tG e hn)];exact e) (fun b ps e=>⟨#[],by rw[rG (tG e hn),e];simp⟩) (fun m hm=>?_) (fun b u e=>?_) I.bare
 ·obtain⟨f0,f1,f2,f3,f4,f5⟩:=hf b hb;exact⟨f3,f1,f4,f5⟩
 ·obtain⟨o,es,ep,ho,r⟩:=hm;exact⟨o,es,ep,k _ o (fun z=>(hf _ z).2.1 rfl) ho,r⟩
 ·by_cases hb:b=T
  ·subst hb;rw[sF] at e;cases e;exact new
  ·rw[rG hb] at e;refine(I.hok b u e).stay (fun c v hc q=>k c v ?_ q) (fun c q=>by rw[rG (tG q hn)];exact q) fun c xs q=>by rw[rG (tG q hn)];exact q
   rcases hc with z|z
   ·rw[z];exact nit b u e
   ·exact nit c _ z
end
def Ite(K:Frag)(a:Addr):It:=
 ⟨fun i H=>∃xs x,SqL K H a xs/\xs[i]?=some x,fun i H x H'=>∃p v,x=.ref p/\H p=none/\H'=upd H p (.tup [.int (i:Nat),v])/\∀xs,SqL K H a xs->xs[i]?=some v,fun i H=>∃xs,SqL K H a xs/\xs.length<=i⟩
def D1:2<=sizeLine:=by rw[Yf];decide
theorem UZ{P:Program}{w:World}{K:Frag}{elts:List Expr}{k:Nat}{pos:Pos}(a e it:Addr)(hne:e≠it):
  Turn P w K (.Tuple elts k pos) (Ite K a) [e,it] e (fun i h=>(∃old,IsEnum h e it i old)/\h.IsListIter it a i) where
 mem:=by simp
 obj:=fun i h st b hb=>by
  obtain⟨⟨old,he⟩,o,e2,c,d⟩:=st;rcases Xd.mp hb with rfl|hb
  ·exact⟨_,he,fun v z=>by cases z⟩
  ·rw[Xj.mp hb];exact⟨o,e2,fun v z=>by rw[d] at z;cases z⟩
 keep:=fun i h h' st kk=>⟨let ⟨old,he⟩:=st.1;⟨old,kk e (by simp) _ he⟩,st.2.at fun o q=>kk it (by simp) o q⟩
 item:=by
  intro X hP hw hK hc i pins s B H E I hf st hg;subst hP hw hK;obtain⟨xs,x,hq,hx⟩:=hg;obtain⟨its,rv,p,hz⟩:=I.list hq;obtain⟨u,hu,ru⟩:=rv.get hx;obtain⟨⟨old,he⟩,hit⟩:=st;refine(wpAny_pyNext_enum_item he hit p.isList (x:=u) (by simpa using hu) hne fun h1 ho hit1 hT hsz hk=>?_);refine⟨_,rfl,wpAny_letOwnedTupleGo_enum ho fun h2 he2 hs2=>?_⟩;have hlt:e<s.heap.objs.size:=WN he
  replace hs2:Heap.SameBut e h1 h2:=hs2
  have hT2:h2.get? s.heap.objs.size=some {cls:=.type "tuple",data:=.seq #[.int i s.toks,u]}:=(hs2.2 _ (Yn hlt)).trans hT;have hn:H s.heap.objs.size=none:=I.hok.fresh (WJ _);have I2:Inv X pins B (upd H s.heap.objs.size (.tup [.int (i:Nat),x])) {s with heap:=h2,toks:=s.toks+1}:=
   I.turnLay (ch:=[e,it]) hf (fun b o hb q=>(hs2.2 b (fun z=>hb (by simp[z]))).trans (hk b o (fun z=>hb (by simp[z])) (fun z=>hb (by simp[z])) q)) (WJ _)
    ⟨D1,[.int i s.toks,u],.cons ⟨_,rfl⟩ (.cons ru .nil),⟨_,hT2,rfl,_,rfl⟩⟩
  have hit2:h2.IsListIter it a (i+1):=hit1.at fun o q=>(hs2.2 it (Ne.symm hne)).trans q;have f1:∀b∈[e,it],(upd H s.heap.objs.size (.tup [.int (i:Nat),x])) b=none:=fun b hb=>by
   have hlb:b<s.heap.objs.size:=by
    rcases Xd.mp hb with rfl|hb
    ·exact hlt
    ·rw[Xj.mp hb];obtain⟨o,q,_⟩:=hit;exact(WN q)
   rw[rG (W8 hlb)];exact(hf b hb).1
  exact⟨.ref s.heap.objs.size,_,I2,rfl,⟨_,x,rfl,hn,rfl,fun ys hy=>by rw[I.list_inj hy hq];exact hx⟩,⟨⟨u,by simpa using he2⟩,hit2⟩,f1⟩
 done:=by
  intro X hP hw hK hc i pins s B H E I hf st hg;subst hP hw hK;obtain⟨xs,hq,hx⟩:=hg;obtain⟨its,rv,p,hz⟩:=I.list hq;obtain⟨⟨old,he⟩,hit⟩:=st;have hl:=rv.length;exact wpAny_pyNext_enum_end (I.ok.hd hc) he hit p.isList (by simp;omega) fun h' eb=>⟨rfl,I.turns (t':=s.toks) (ch:=[e,it]) hf fun b o hb q=>eb b o (fun z=>hb (by simp[z])) q⟩
 self:=fun _ _ _ _ _ st h=>by
  obtain⟨⟨old,he⟩,_⟩:=st;exact(wpAny_pyIter_enum he h)
def LD(K:Frag)(ta:TA):TI:=fun B H R=>ta B H fun vs H1=>∃a,vs=[.ref a]/\(∃xs,SqL K H1 a xs)/\R (Ite K a) H1
section
variable {X:Cx}
theorem U9{elts:List Expr}{k:Nat}{tpos:Pos}{a:Expr}{ta:TA}{p pos:Pos}(hg:Gl X "enumerate") (hm:X.mg "enumerate"=none) (ha:PA X [a] ta) (hs:starEach [a] X.env=[(false,eval a X.env)]:=by rfl):
  PI X (.Tuple elts k tpos) (.Call (.Name "enumerate" p) [a] [] pos) (LD X.K ta):=by
 intro pins s B H R I h;refine Call_ (vn I hg hm boot_enumerate (Xy (thn (ha pos pins s B H _ I h) fun us s1 hm=>?_) hs rfl));obtain⟨vs,H1,I1,r1,q1⟩:=hm;obtain⟨l,e,⟨xs,hq⟩,q⟩:=q1;subst e;obtain⟨u,rfl,ru⟩:=wE r1;cases ru;obtain⟨its,rv,pl,hz⟩:=I1.list hq;refine(call_enumerate_list pl.isList fun h' he hit hsz hk=>wpAny_pyIter_enum he ?_);have I2:Inv X pins B H1 {s1 with heap:=h'}:=I1.kept (t':=s1.toks) hk;refine⟨_,[s1.heap.objs.size+1,s1.heap.objs.size],_,_,H1,rfl,I2,UZ l _ _ (Nat.succ_ne_self _),⟨⟨.none,he⟩,hit⟩,fun b hb=>?_,q⟩;have hb':s1.heap.objs.size<=b:=by
  rcases Xd.mp hb with rfl|hb
  ·exact Nat.le_succ _
  ·rw[Xj.mp hb];exact WJ _
 exact I1.fpOk hb' (I1.hok.fresh hb')
end
def Itz(K:Frag)(a b:Addr):It:=
 ⟨fun i H=>∃xs ys x y,SqL K H a xs/\SqL K H b ys/\xs[i]?=some x/\ys[i]?=some y,
  fun i H x H'=>∃p v u,x=.ref p/\H p=none/\H'=upd H p (.tup [v,u])/\(∀xs,SqL K H a xs->xs[i]?=some v)/\∀ys,SqL K H b ys->ys[i]?=some u,
  fun i H=>∃xs ys,SqL K H a xs/\SqL K H b ys/\(xs.length<=i\/ys.length<=i)⟩
theorem TW{P:Program}{w:World}{K:Frag}{elts:List Expr}{k:Nat}{pos:Pos}(a b z TI TO i1 i2:Addr)
  (n1:TI≠z) (n2:TO≠z) (n3:i1≠z) (n4:i2≠z) (n5:TI≠TO) (n6:TI≠i1) (n7:TI≠i2) (n8:TO≠i1) (n9:TO≠i2) (n10:i1≠i2):
  Turn P w K (.Tuple elts k pos) (Itz K a b) [z,TI,TO,i1,i2] z (fun i h=>IsZip h z TI TO .none/\IsPair h TI (.ref i1) (.ref i2)/\(∃a b,IsPair h TO a b)/\h.IsListIter i1 a i/\h.IsListIter i2 b i) where
 mem:=by simp
 obj:=fun i h st c hc=>by
  obtain⟨hz,hTI,⟨u,v,hTO⟩,⟨o1,e1,c1,d1⟩,⟨o2,e2,c2,d2⟩⟩:=st;simp only[Xd,Yj,or_false] at hc;rcases hc with rfl|rfl|rfl|rfl|rfl
  ·exact⟨_,hz,fun v z=>by cases z⟩
  ·exact⟨_,hTI,fun v z=>by cases z⟩
  ·exact⟨_,hTO,fun v z=>by cases z⟩
  ·exact⟨o1,e1,fun v z=>by rw[d1] at z;cases z⟩
  ·exact⟨o2,e2,fun v z=>by rw[d2] at z;cases z⟩
 keep:=fun i h h' st kk=>by
  obtain⟨hz,hTI,⟨u,v,hTO⟩,h1,h2⟩:=st;exact(⟨kk z (by simp) _ hz,kk TI (by simp) _ hTI,⟨u,v,kk TO (by simp) _ hTO⟩,h1.at fun o q=>kk i1 (by simp) o q,h2.at fun o q=>kk i2 (by simp) o q⟩)
 item:=by
  intro X hP hw hK hc i pins s B H E I hf st hg;subst hP hw hK;obtain⟨xs,ys,x,y,hq,hq2,hx,hy⟩:=hg;obtain⟨its,rv,p,hz'⟩:=I.list hq;obtain⟨its2,rv2,p2,hz2⟩:=I.list hq2;obtain⟨u,hu,ru⟩:=rv.get hx;obtain⟨u2,hu2,ru2⟩:=rv2.get hy;obtain⟨hz,hTI,⟨c,d,hTO⟩,h1,h2⟩:=id st;have trk:∀{l:Addr} {zs:List V},SqL X.K H l zs->∀c∈[z,TI,TO,i1,i2],l≠c:=fun{l zs} hl c hcm e=>by
   subst e;obtain⟨jts,_,⟨o,n,eo,co,_,dd⟩,_⟩:=I.list hl;simp only[Xd,Yj,or_false] at hcm;rcases hcm with rfl|rfl|rfl|rfl|rfl
   ·rw[hz] at eo;cases eo;exact absurd co (by show ¬(Value.type "zip"=Value.type "list");decide)
   ·rw[hTI] at eo;cases eo;exact absurd co (by show ¬(Value.type "tuple"=Value.type "list");decide)
   ·rw[hTO] at eo;cases eo;exact absurd co (by show ¬(Value.type "tuple"=Value.type "list");decide)
   ·obtain⟨o1,e1,c1,_⟩:=h1;rw[e1] at eo;cases eo;rw[c1] at co;exact absurd co (by decide)
   ·obtain⟨o1,e1,c1,_⟩:=h2;rw[e1] at eo;cases eo;rw[c1] at co;exact absurd co (by decide)
  have D:ZipApart z TI TO i1 i2 a b:=by
   constructor<;>first|assumption|(apply Ne.symm;assumption)|exact trk hq _ (by simp)|exact trk hq2 _ (by simp)|exact(trk hq _ (by simp)).symm|exact(trk hq2 _ (by simp)).symm
  refine wpAny_pyNext_zip_item D hz hTI hTO h1 h2 p.isList p2.isList (x:=u) (y:=u2) (by simpa using hu) (by simpa using hu2) fun h' a1 a2 a3 a4 a5 a6 hk=>?_;refine⟨_,rfl,wpAny_letOwnedTupleGo_zip a1 fun h3 hz3 hs3=>?_⟩
  replace hs3:Heap.SameBut z h' h3:=hs3
  have hlt:z<s.heap.objs.size:=WN hz;have hT2:h3.get? s.heap.objs.size=some {cls:=.type "tuple",data:=.seq #[u,u2]}:=(hs3.2 _ (Yn hlt)).trans a5;have hn:H s.heap.objs.size=none:=I.hok.fresh (WJ _);have I2:Inv X pins B (upd H s.heap.objs.size (.tup [x,y])) {s with heap:=h3,toks:=s.toks}:=
   I.turnLay (ch:=[z,TI,TO,i1,i2]) hf (fun b o hb q=>(hs3.2 b (fun e=>hb (by simp[e]))).trans (hk b o (fun e=>hb (by simp[e])) (fun e=>hb (by simp[e])) (fun e=>hb (by simp[e])) (fun e=>hb (by simp[e])) q)) (WJ _)
    ⟨D1,[u,u2],.cons ru (.cons ru2 .nil),⟨_,hT2,rfl,_,rfl⟩⟩
  have f1:∀b∈[z,TI,TO,i1,i2],(upd H s.heap.objs.size (.tup [x,y])) b=none:=fun b hb=>by
   have hne:b≠s.heap.objs.size:=by
    rintro rfl;obtain⟨hz,hTI,⟨c,d,hTO⟩,⟨o1,e1,_⟩,⟨o2,e2,_⟩⟩:=st;simp only[Xd,Yj,or_false] at hb;rcases hb with e|e|e|e|e
    ·rw[←e] at hz;exact absurd (WN hz) (Xp _)
    ·rw[←e] at hTI;exact absurd (WN hTI) (Xp _)
    ·rw[←e] at hTO;exact absurd (WN hTO) (Xp _)
    ·rw[←e] at e1;exact absurd (WN e1) (Xp _)
    ·rw[←e] at e2;exact absurd (WN e2) (Xp _)
   rw[rG hne];exact(hf b hb).1
  refine⟨.ref s.heap.objs.size,_,I2,rfl,⟨_,x,y,rfl,hn,rfl,fun zs hy'=>by rw[I.list_inj hy' hq];exact hx,fun zs hy'=>by rw[I.list_inj hy' hq2];exact hy⟩,⟨hz3,?_,⟨u,u2,?_⟩,?_,?_⟩,f1⟩
  ·exact(hs3.2 _ n1).trans (hk _ _ n1 n5 n6 n7 hTI)
  ·exact(hs3.2 _ n2).trans a2
  ·exact a3.at fun o q=>(hs3.2 _ n3).trans q
  ·exact a4.at fun o q=>(hs3.2 _ n4).trans q
 done:=by
  intro X hP hw hK hc i pins s B H E I hf st hg;subst hP hw hK;obtain⟨xs,ys,hq,hq2,hx⟩:=hg;obtain⟨its,rv,p,hz'⟩:=I.list hq;obtain⟨its2,rv2,p2,hz2⟩:=I.list hq2;have l1:=rv.length;have l2:=rv2.length;obtain⟨hz,hTI,⟨c,d,hTO⟩,h1,h2⟩:=id st;have trk:∀{l:Addr} {zs:List V},SqL X.K H l zs->∀c∈[z,TI,TO,i1,i2],l≠c:=fun{l zs} hl c hcm e=>by
   subst e;obtain⟨jts,_,⟨o,n,eo,co,_,dd⟩,_⟩:=I.list hl;simp only[Xd,Yj,or_false] at hcm;rcases hcm with rfl|rfl|rfl|rfl|rfl
   ·rw[hz] at eo;cases eo;exact absurd co (by show ¬(Value.type "zip"=Value.type "list");decide)
   ·rw[hTI] at eo;cases eo;exact absurd co (by show ¬(Value.type "tuple"=Value.type "list");decide)
   ·rw[hTO] at eo;cases eo;exact absurd co (by show ¬(Value.type "tuple"=Value.type "list");decide)
   ·obtain⟨o1,e1,c1,_⟩:=h1;rw[e1] at eo;cases eo;rw[c1] at co;exact absurd co (by decide)
   ·obtain⟨o1,e1,c1,_⟩:=h2;rw[e1] at eo;cases eo;rw[c1] at co;exact absurd co (by decide)
  have D:ZipApart z TI TO i1 i2 a b:=by
   constructor<;>first|assumption|(apply Ne.symm;assumption)|exact trk hq _ (by simp)|exact trk hq2 _ (by simp)|exact(trk hq _ (by simp)).symm|exact(trk hq2 _ (by simp)).symm
  exact wpAny_pyNext_zip_end (I.ok.hd hc) D hz hTI hTO h1 h2 p.isList p2.isList (by rcases hx with q|q;exact .inl (by simp;omega);exact .inr (by simp;omega)) fun h' hk=>
   ⟨rfl,I.turns (t':=s.toks) (ch:=[z,TI,TO,i1,i2]) hf fun b o hb q=>hk b o (fun e=>hb (by simp[e])) (fun e=>hb (by simp[e])) (fun e=>hb (by simp[e])) (fun e=>hb (by simp[e])) q⟩
 self:=fun _ _ _ _ _ st h=>wpAny_pyIter_zip st.1 h
def nz{n i j:Nat}(h:i≠j):n+i≠n+j:=fun e=>h (Nat.add_left_cancel e)
def Jc(K:Frag)(ta:TA):TI:=fun B H R=>ta B H fun vs H1=>∃a b,vs=[.ref a,.ref b]/\(∃xs,SqL K H1 a xs)/\(∃ys,SqL K H1 b ys)/\R (Itz K a b) H1
section
variable {X:Cx}
theorem VS{elts:List Expr}{k:Nat}{tpos:Pos}{a b:Expr}{ta:TA}{p pos:Pos}(hg:Gl X "zip") (hm:X.mg "zip"=none) (ha:PA X [a,b] ta) (hs:starEach [a,b] X.env=[(false,eval a X.env),(false,eval b X.env)]:=by rfl) (hs2:starEach [b] X.env=[(false,eval b X.env)]:=by rfl):
  PI X (.Tuple elts k tpos) (.Call (.Name "zip" p) [a,b] [] pos) (Jc X.K ta):=by
 intro pins s B H R I h;refine Call_ (vn I hg hm boot_zip (Xy (thn (ha pos pins s B H _ I h) fun us s1 hm=>?_) (by rw[hs,hs2]) (by rw[hs2];rfl)));obtain⟨vs,H1,I1,r1,q1⟩:=hm;obtain⟨l,l2,e,⟨xs,hq⟩,⟨ys,hq2⟩,q⟩:=q1;subst e;obtain⟨u,u2,rfl,ru,ru2⟩:=A1 r1;cases ru;cases ru2;obtain⟨its,rv,pl,hz⟩:=I1.list hq;obtain⟨its2,rv2,pl2,hz2⟩:=I1.list hq2;refine(call_zip_2 pl.isList pl2.isList fun h' a1 a2 a3 a4 a5 a6 hk=>wpAny_pyIter_zip a1 ?_);have I2:Inv X pins B H1 {s1 with heap:=h'}:=I1.kept (t':=s1.toks) hk;refine⟨_,[s1.heap.objs.size+4,s1.heap.objs.size+2,s1.heap.objs.size+3,s1.heap.objs.size,s1.heap.objs.size+1],_,_,H1,rfl,I2,
  TW l l2 _ _ _ _ _ (nz (by decide)) (nz (by decide)) (nz (i:=0) (by decide)) (nz (by decide)) (nz (by decide)) (nz (j:=0) (by decide)) (nz (by decide)) (nz (j:=0) (by decide)) (nz (by decide)) (nz (i:=0) (by decide)),⟨a1,a2,⟨_,_,a3⟩,a4,a5⟩,fun b hb=>?_,q⟩
 have hb':s1.heap.objs.size<=b:=by
  simp only[Xd,Yj,or_false] at hb;rcases hb with rfl|rfl|rfl|rfl|rfl
  ·exact Nat.le_add_right _ _
  ·exact Nat.le_add_right _ _
  ·exact Nat.le_add_right _ _
  ·exact WJ _
  ·exact Nat.le_add_right _ _
 exact I1.fpOk hb' (I1.hok.fresh hb')
end
def Cc:List String:=["int","bool","str","NoneType","list","tuple","dict"]
def clNames:List String:=["int","bool","str","list","tuple","dict"]
def zA(t c:String):Bool:=t==c||(t=="bool"&&c=="int")
def SO{K:Frag}{t c:String}(ht:t∈Cc)(hc:c∈clNames):PySem.W.kitOne K (.type t) (.type c)=some (zA t c):=by
 simp only[Cc,clNames,Xd,Yj,or_false] at ht hc;rcases ht with rfl|rfl|rfl|rfl|rfl|rfl|rfl<;>rcases hc with rfl|rfl|rfl|rfl|rfl|rfl<;>first|rfl|decide|(with_unfolding_all rfl)
inductive TyN (K:Frag) (H:Hp):V->String->Prop where
 |non:TyN K H .non "NoneType"
 |bl (x:Bool):TyN K H (.bl x) "bool"
 |int (i:Int):TyN K H (.int i) "int"
 |str (x:Str):TyN K H (.str x) "str"
 |lst {a:Addr} {xs:List V} (e:SqL K H a xs):TyN K H (.ref a) "list"
 |tup {a:Addr} {xs:List V} (e:SqT K H a xs):TyN K H (.ref a) "tuple"
 |dK {a:Addr} {kvs:List (Key×V)} (e:H a=some (.dK kvs)):TyN K H (.ref a) "dict"
def TyN.mem{K:Frag}{H:Hp}{x:V}{t:String}(h:TyN K H x t):t∈Cc:=by cases h<;>simp[Cc]
section
variable {X:Cx}
theorem RS:uY X (.builtin "isinstance") (fun xs H Q=>∃(x:V) (t:String) (c:String),xs=[x,.ty c]/\TyN X.K H x t/\clNames.contains c=true/\Q (.bl (zA t c)) H):=by
 intro pins s B H xs us Q I r h;obtain⟨x,t,c,rfl,ty,hc,q⟩:=h;obtain⟨u,w',rfl,rx,rc⟩:=A1 r;cases (show w'=Value.type c from rc);have e:=SO (K:=X.K) ty.mem (by simpa using hc:c∈clNames);have fin:∀tk,EP X pins B Q (.bool (zA t c)) {s with toks:=tk}:=fun tk=>⟨.bl _,H,I.tok _,rfl,q⟩
 cases ty with
 |non=>cases (show u=Value.none from rx);exact Yc PySem.W.kitx_none I.kIn True.intro e (fun z=>nomatch z) fin
 |bl y=>cases (show u=Value.bool y from rx);exact Yc PySem.W.kitx_bool I.kIn True.intro e (fun z=>nomatch z) fin
 |int i=>obtain⟨t,q⟩:=(show ∃t,u=Value.int i t from rx);cases q;exact Yc PySem.W.kitx_int I.kIn True.intro e (fun z=>nomatch z) fin
 |str y=>obtain⟨t,q⟩:=(show ∃t,u=Value.str y t from rx);cases q;exact Yc PySem.W.kitx_str I.kIn True.intro e (fun z=>nomatch z) fin
 | @lst a xs ea=>
  cases (show u=Value.ref a from rx);obtain⟨its,_,⟨o,n,h1,h2,_⟩,_⟩:=I.list ea;exact Yc PySem.W.kitx_list I.kIn ⟨o,h1,h2⟩ e (fun z=>nomatch z) fin
 | @tup a xs ea=>
  cases (show u=Value.ref a from rx);obtain⟨its,_,⟨o,h1,h2,_⟩,_⟩:=I.tuple ea;exact Yc PySem.W.kitx_tuple I.kIn ⟨o,h1,h2⟩ e (fun z=>nomatch z) fin
 | @dK a kvs ea=>
  cases (show u=Value.ref a from rx);obtain⟨_,_,vs,_,p⟩:=(show ObjOk X.prog X.w H s.heap a (.dK kvs) from I.hok a _ ea)
  obtain⟨o,es,ep,h1,h2,_⟩:=p;exact(Yc PySem.W.kitx_dict I.kIn ⟨o,h1,h2.1⟩ e (fun z=>nomatch z) fin)
end
mutual
inductive Dp (K:Frag) (H:Hp):V->PyData->Prop where
 |non:Dp K H .non .none
 |bl (b:Bool):Dp K H (.bl b) (.bool b)
 |int (i:Int):Dp K H (.int i) (.int i)
 |str (x:Str):Dp K H (.str x) (.str x)
 |lst {a:Addr} {xs:List V} {ds:List PyData}:SqL K H a xs->Dps K H xs ds->Dp K H (.ref a) (.list ds)
 |tup {a:Addr} {xs:List V} {ds:List PyData}:SqT K H a xs->Dps K H xs ds->Dp K H (.ref a) (.tuple ds)
inductive Dps (K:Frag) (H:Hp):List V->List PyData->Prop where
 |nil:Dps K H [] []
 |cons {x:V} {d:PyData} {xs:List V} {ds:List PyData}:Dp K H x d->Dps K H xs ds->Dps K H (x::xs) (d::ds)
end
section
variable {X:Cx} {pins:QS} {B:St} {H:Hp} {s:Shared}
mutual
theorem Dp.reads(I:Inv X pins B H s):∀{v:V} {d:PyData} {u:Value},Dp X.K H v d->RelV v u->∃as,Reads s.heap u d as
 |_,_,_,.non,r=>by cases (show _=Value.none from r);exact⟨_,.none⟩
 |_,_,_,.bl b,r=>by cases (show _=Value.bool b from r);exact⟨_,.bool b⟩
 |_,_,_,.int i,r=>by obtain⟨t,rfl⟩:=r;exact⟨_,.int i t⟩
 |_,_,_,.str x,r=>by obtain⟨t,rfl⟩:=r;exact⟨_,.str x t⟩
 |_,_,_,.lst (a:=a) h hs,r=>by
  cases (show _=Value.ref a from r);obtain⟨its,rv,⟨o,n,h1,h2,_,h4⟩,_⟩:=I.list h;obtain⟨as,hr⟩:=Dps.reads I hs rv;exact⟨_,.list h1 h2 h4 (by simpa using hr)⟩
 |_,_,_,.tup (a:=a) h hs,r=>by
  cases (show _=Value.ref a from r);obtain⟨its,rv,⟨o,h1,h2,n,h4⟩,_⟩:=I.tuple h;obtain⟨as,hr⟩:=Dps.reads I hs rv;exact(⟨_,.tuple h1 h2 h4 (by simpa using hr)⟩)
theorem Dps.reads(I:Inv X pins B H s):∀{vs:List V} {ds:List PyData} {us:List Value},Dps X.K H vs ds->Vals vs us->∃as,ReadsAll s.heap us ds as
 |_,_,_,.nil,r=>by cases r;exact⟨_,.nil⟩
 |_,_,_,.cons h hs,r=>by
  cases r with
  |cons r1 r2=>
   obtain⟨as,h1⟩:=Dp.reads I h r1;obtain⟨bs,h2⟩:=Dps.reads I hs r2;exact(⟨_,.cons h1 h2⟩)
end
theorem FJ(hu:X.A.units+64<cLine):OpR X (compareOp .Eq) (fun x y H Q=>∃d e,Dp X.K H x d/\Dp X.K H y e/\(d.canLay0&&e.canLay0&&decide (d.depth<=64))=true/\Q (.bl (PyData.eqv d e)) H):=by
 intro pins s B H x y v u Q I rx ry h;obtain⟨d,e,hd,he,hc,q⟩:=h;simp only[Xg,XO] at hc;obtain⟨as,r1⟩:=hd.reads I rx;obtain⟨bs,r2⟩:=he.reads I ry;exact(SeqAt.compareEq_reads r1 r2 hc.1.1 hc.1.2 (by omega) ⟨.bl _,H,I,rfl,q⟩)
theorem Iz(hu:X.A.units+64<cLine):OpR X (compareOp .NotEq) (fun x y H Q=>∃d e,Dp X.K H x d/\Dp X.K H y e/\(d.canLay0&&e.canLay0&&decide (d.depth<=64))=true/\Q (.bl (!PyData.eqv d e)) H):=by
 intro pins s B H x y v u Q I rx ry h;obtain⟨d,e,hd,he,hc,q⟩:=h;simp only[Xg,XO] at hc;obtain⟨as,r1⟩:=hd.reads I rx;obtain⟨bs,r2⟩:=he.reads I ry;exact(SeqAt.compareNe_reads r1 r2 hc.1.1 hc.1.2 (by omega) ⟨.bl _,H,I,rfl,q⟩)
end
section
variable {X:Cx}
def FG:V->List V->Hp->VK->Prop:=fun x vs H Q=>∃(a:Addr) (kvs:List (Key×V)) (k:Key) (d:V),x=.ref a/\vs=[kV k,d]/\H a=some (.dK kvs)/\kvs.length<sizeLine/\
 (∀v,tz kvs k=some v->Q v H)/\(tz kvs k=none->Q d (upd H a (.dK (sO kvs k d))))
theorem NT:MtM X "dict.setdefault" FG:=by
 intro pins s B H x vs v us Q I rx rv h;obtain⟨a,kvs,k,d,rfl,rfl,e,hl,h1,h2⟩:=h;cases rx;obtain⟨u,w',rfl,ru,rd⟩:=rv.two;obtain⟨z,hd,ws,rel,dd⟩:=xB I.hok e;refine call_meetsIn PySem.F.slot_dict_setdefault dd.typeIs PySem.F.entry_dict_setdefault (PySem.F.args_dict_setdefault_3 _ _ _) (kt_meets_setdefault (ul X.prog X.w) a (Af ru) hd w') ⟨ws,dd,by rw[←rel.length];exact z,fun y hy=>?_,fun hn h' dd' hs=>?_⟩
 ·have q:=rel.val k;rw[hy] at q;cases ev:tz kvs k with
  |none=>rw[ev] at q;exact q.elim
  |some v0=>
   rw[ev] at q;exact⟨v0,H,I.tok _,q,h1 v0 ev⟩
 ·have q:=rel.val k;rw[hn] at q;cases ev:tz kvs k with
  |some v0=>rw[ev] at q;exact q.elim
  |none=>
   have hz:(sO kvs k d).length<=sizeLine:=by have:=Bf kvs k d;omega
   have he:∃q,h'.get? a=some q:=let ⟨q,_,_,hq,_⟩:=dd';⟨q,hq⟩
   exact⟨d,_,AT (t':=s.toks+1) I (by rw[e];exact True.intro) hs he (Db hz hd (rel.put k rd) dd'),rd,h2 ev⟩
theorem Nn{kvs:List (Key×V)}{ws:List (Key×Value)}(rel:KV kvs ws):Vals (kvs.map (·.2)) (ws.map (·.2)):=by
 induction rel with
 |nil=>exact .nil
 |cons r _ ih=>exact .cons r.2 ih
def vvO(v d:Addr):HO:=.ext fun h=>h.IsValuesView v d
def LY:V->List V->Hp->VK->Prop:=fun x vs H Q=>∃(a:Addr) (kvs:List (Key×V)),x=.ref a/\vs=[]/\H a=some (.dK kvs)/\∀v,H v=none->Q (.ref v) (upd H v (vvO v a))
theorem N9:MtM X "dict.values" LY:=by
 intro pins s B H x vs v us Q I rx rv h;obtain⟨a,kvs,rfl,rfl,e,q⟩:=h;cases rx;have:=rv.zero;subst this;obtain⟨z,hd,ws,rel,dd⟩:=xB I.hok e;refine(call_meetsIn PySem.F.slot_dict_values dd.typeIs PySem.F.entry_dict_values (PySem.F.args_dict_values_1 _) (meets_dict_values (ul X.prog X.w) a hd) ⟨⟨ws,dd⟩,?_⟩);have hv:(s.heap.push {cls:=.type "dict_values",data:=.fields #[.ref a]}).IsValuesView s.heap.objs.size a:=⟨_,WR _ rfl,rfl,rfl⟩
 refine⟨.ref s.heap.objs.size,_,I.laid (t':=s.toks) (o:=vvO s.heap.objs.size a) (fun b o q=>WK _ q) (WJ _) ?_,rfl,q _ (I.hok.fresh (WJ _))⟩;exact⟨hv,⟨_,WR _ rfl⟩,fun h1 h2 p k=>let ⟨o,ho,r⟩:=p;⟨o,k o ho,r⟩⟩
theorem SW:uY X (.type "list") (fun xs H Q=>∃(v a:Addr) (kvs:List (Key×V)),xs=[.ref v]/\H v=some (vvO v a)/\H a=some (.dK kvs)/\X.calm=true/\∀l,H l=none->Q (.ref l) (upd H l (.lst (kvs.map (·.2))))):=by
 intro pins s B H xs us Q I r h;obtain⟨v,a,kvs,rfl,hv,e,hc,q⟩:=h;obtain⟨u,rfl,ru⟩:=wE r;cases ru;obtain⟨z,hd,ws,rel,dd⟩:=xB I.hok e;obtain⟨hvv,_,_⟩:s.heap.IsValuesView v a/\_/\_:=I.hok v _ hv;obtain⟨ep,hat⟩:=dd.dictAt;refine PySem.W.kdl_call (PySem.W.kdl_values (knd:=ul X.prog X.w) (kvs:=ws) (ep:=ep)) (I.ok.hd hc) ⟨hvv,hat⟩ (by rw[←rel.length];exact z) fun h' tk acc' c' hk hD hacc=>?_;have ev:acc'.toList=ws.map (·.2):=PySem.W.kdl_vals_eq acc'.toList (by rw[X1];exact hacc.1) fun j v ej=>hacc.2 j v (by rw[←Array.getElem?_toList];exact ej);have rv:Vals (kvs.map (·.2)) (ws.map (·.2)):=Nn rel;refine⟨.ref s.heap.objs.size,_,I.laid (t':=tk) (o:=.lst (kvs.map (·.2))) hk (WJ _) ?_,rfl,q _ (I.hok.fresh (WJ _))⟩;refine⟨by rw[WQ];exact z,ws.map (·.2),c',rv,?_⟩;rw[←ev];exact hD
end
def Df(P:Program)(w:World)(K:Frag)(mg:Str->Option Value)(base:Heap)(k:Nat)(x:Str)(ps:List Str)(sp:Sp):Prop:=
 ∃f fd,FnOk P w K mg base CX0 k f fd ps sp/\Binds K fd ps []/\keepIn K (.ref f)=true/\mg x=some (.ref f)
section
variable {X:Cx} {k:Nat} {x:Str} {ps:List Str} {sp:Sp} {e:Expr} {es:List Expr} {t:TA} {p pos:Pos}
theorem JN(D:Df X.prog X.w X.K X.mg X.base k x ps sp)(hr:Room k X.A)(ha:PA X (e::es) t)(hg:Gl X x:=by rfl)(hdb:(x==("__debug__":Str))=false:=by decide)
  (he:starEach (e::es) X.env=(false,eval e X.env)::starEach es X.env:=by rfl) (hpl:(backTo pos (starEach es X.env)).any (·.1)=false:=by rfl):
  PE X (.Call (.Name x p) (e::es) [] pos) (fun B H Q=>t B H fun vs H1=>sp vs H1 Q E0):=by
 obtain⟨f,fd,F,hb,hk,hm⟩:=D;intro pins s B H Q I h;exact Tv F hr hg hm hk hb .nil DY ha hdb he hpl pins s B H Q I (by unfold IS;simpa using h)
end
def But(p:Addr)(H H':Hp):Prop:=∀b o,b≠p->H b=some o->H' b=some o
def vY{n:Nat}(h:n<=1000000):n<=sizeLine:=by rw[Yf];omega
def zh{n:Nat}(h:n<=1000000):n<sizeLine:=by rw[Yf];omega
def ID(N:List Str)(names:List (Str×NameKind))(own:List Str)(cap:List (Str×Nat))(scope:Scope):Bool:=
 (scope.kind==.function)&&scope.names.all (fun y=>(y.2 != .cell||scope.names.lookup y.1==some .cell)&&(y.2 != .local||scope.names.lookup y.1==some .local)&&(y.2 != .free||scope.names.lookup y.1==some .free)&&(y.2 != .free||(names.lookup y.1==some .cell||names.lookup y.1==some .free)))
 &&cap.all fun p=>N[p.2]?==some p.1&&scope.names.lookup p.1==some .free&&(names.lookup p.1==some .cell||names.lookup p.1==some .free)
def tZ{X:Cx}{own:List Str}{cap:List (Str×Nat)}{scope:Scope}(h:ID X.N X.env.scope.names own cap scope=true):CompScope X (own++cap.map (·.1)) own cap scope:=by
 unfold ID at h;simp only[Xg,Xk,Bool.or_eq_true,bne_iff_ne,beq_iff_eq] at h;obtain⟨⟨h1,h2⟩,h3⟩:=h;exact(⟨h1,fun y hy hl=>(h2 y hy).1.1.1.resolve_left fun z=>z hl,fun y hy hl=>(h2 y hy).1.2.resolve_left fun z=>z hl,fun y hy hl=>(h2 y hy).1.1.2.resolve_left fun z=>z hl,fun y hy hl=>(h2 y hy).2.resolve_left fun z=>z hl,rfl,fun p hp=>⟨(h3 p hp).1.1,(h3 p hp).1.2,(h3 p hp).2⟩⟩)
section
variable {X:Cx} {a b o:Expr} {ta tb to:TE} {p pos:Pos}
theorem OI(K:Frag)(ml:X.mg "len"=none) (ha:PE X a ta) (hg:Gl X "len":=by rfl) (hs:starEach [a] X.env=[(false,eval a X.env)]:=by rfl) (hK:X.K=K:=by rfl):
  PE X (.Call (.Name "len" p) [a] [] pos) (fun B H Q=>ta B H fun x H1=>∃p ys,[x]=[V.ref p]/\(SqL K H1 p ys\/SqT K H1 p ys)/\Q (.int ys.length) H1):=by
 subst hK;exact z9 PF hg ml PySem.boot_len (sJ ha tE hs) (he:=hs)
theorem Uu(ml:X.mg "min"=none) (ha:PE X a ta) (hb:PE X b tb) (hc:X.calm=true:=by rfl) (hg:Gl X "min":=by rfl) (hs:starEach [a,b] X.env=[(false,eval a X.env),(false,eval b X.env)]:=by rfl) (hs2:starEach [b] X.env=[(false,eval b X.env)]:=by rfl):
  PE X (.Call (.Name "min" p) [a,b] [] pos) (fun B H Q=>ta B H fun x H1=>tb B H1 fun y H2=>∃i j,[x,y]=[.int i,.int j]/\Q (.int (if j<i then j else i)) H2):=by
 exact z9 (P7 hc) hg ml rfl (sJ ha (sJ hb tE hs2) (by rw[hs,hs2])) (he:=by rw[hs,hs2]) (hpl:=by rw[hs2];rfl)
theorem Of(ml:X.mg "max"=none) (ha:PE X a ta) (hb:PE X b tb) (hc:X.calm=true:=by rfl) (hg:Gl X "max":=by rfl) (hs:starEach [a,b] X.env=[(false,eval a X.env),(false,eval b X.env)]:=by rfl) (hs2:starEach [b] X.env=[(false,eval b X.env)]:=by rfl):
  PE X (.Call (.Name "max" p) [a,b] [] pos) (fun B H Q=>ta B H fun x H1=>tb B H1 fun y H2=>∃i j,[x,y]=[.int i,.int j]/\Q (.int (if j>i then j else i)) H2):=by
 exact z9 (WA hc) hg ml rfl (sJ ha (sJ hb tE hs2) (by rw[hs,hs2])) (he:=by rw[hs,hs2]) (hpl:=by rw[hs2];rfl)
theorem iL(K:Frag){tg:Expr}(ha:PE X a ta)(hK:X.K=K:=by rfl):PI X tg a (Kc K ta):=by subst hK;exact Ga ha
theorem iT(K:Frag){tg:Expr}(ha:PE X a ta)(hK:X.K=K:=by rfl):PI X tg a (KO K ta):=by subst hK;exact Ps ha
theorem iR(mr:X.mg "range"=none) {tg:Expr} (ha:PE X a ta) (hg:Gl X "range":=by rfl) (hs:starEach [a] X.env=[(false,eval a X.env)]:=by rfl):PI X tg (.Call (.Name "range" p) [a] [] pos) (HS (ub ta u7)):=PR hg mr (sJ ha tE hs) hs
theorem Ru(K:Frag){apos:Pos}(ho:PE X o to)(ha:PE X a ta)(hs:starEach [a] X.env=[(false,eval a X.env)]:=by rfl)
  (hbase:attributeBase o "append" X.env (eval o X.env)=eval o X.env:=by rfl) (hline:(apos.endLine==pos.line)=true:=by rfl) (hK:X.K=K:=by rfl)
  (hfew:((backTo pos (starEach [a] X.env)).all (fun x=>!x.1)&&(backToKw pos (keywordEach [] X.env)).all (fun x=>x.1.isSome)
   &&decide ([a].length+([]:List Keyword).length+(if([]:List Keyword).isEmpty then 0 else 1)<30))=true:=by rfl):
  PE X (.Call (.Attribute o "append" apos) [a] [] pos) (tBM K "list" K6 to (ub ta u7)):=by
 subst hK;exact HN PySem.F.plainAttrs_list PySem.F.slot_list_append PySem.F.type_list_append E8 ho (sJ ha tE hs) hbase hfew hline hs
end
def Pot(H:Hp)(p:Addr):Prop:=∃a b c:Int,H p=some (.lst [.int a,.int b,.int c])
structure Drawn (p:Addr) (H H':Hp):Prop where
 but:But p H H'
 pot:Pot H' p
def SK{xs:List V}{r:Int}(h0:0<=r)(h1:r<(xs.length:Int)):atI xs r=some (xs[r.toNat]'(by omega)):=by
 have hk:r.toNat<xs.length:=by omega
 have:=Ri (xs:=xs) (j:=r.toNat) (v:=xs[r.toNat]) (by simp[hk]);have er:((r.toNat:Nat):Int)=r:=by omega
 rw[er] at this;exact this
section
variable {X:Cx} {a:Expr} {ta:TE} {p pos:Pos}
theorem VG(K:Frag)(ml:X.mg "isinstance"=none) {b:Expr} {tb:TE} (ha:PE X a ta) (hb:PE X b tb) (hg:Gl X "isinstance":=by rfl) (hs:starEach [a,b] X.env=[(false,eval a X.env),(false,eval b X.env)]:=by rfl) (hs2:starEach [b] X.env=[(false,eval b X.env)]:=by rfl) (hK:X.K=K:=by rfl):
  PE X (.Call (.Name "isinstance" p) [a,b] [] pos) (fun B H Q=>ta B H fun x H1=>tb B H1 fun y H2=>∃(x':V) (t:String) (c:String),[x,y]=[x',.ty c]/\TyN K H2 x' t/\clNames.contains c=true/\Q (.bl (zA t c)) H2):=by
 subst hK;exact z9 RS hg ml rfl (sJ ha (sJ hb tE hs2) (by rw[hs,hs2])) (he:=by rw[hs,hs2]) (hpl:=by rw[hs2];rfl)
theorem gT(K:Frag){es:List Expr}{k:Nat}{t:TGs}{n:Nat}(h:PGs X es t)(hc:X.calm=true:=by rfl)(hn:(assignEach es X.env).length=n:=by rfl)(hst:(assignEach es X.env).findIdx? (·.1)=none:=by rfl)(hK:X.K=K:=by rfl):
  PG X (.Tuple es k pos) (HM K n t):=by subst hK;exact NM hc h hn hst
theorem iEn(K:Frag)(ml:X.mg "enumerate"=none) {elts:List Expr} {k:Nat} {tpos:Pos} (ha:PE X a ta) (hg:Gl X "enumerate":=by rfl) (hs:starEach [a] X.env=[(false,eval a X.env)]:=by rfl) (hK:X.K=K:=by rfl):
  PI X (.Tuple elts k tpos) (.Call (.Name "enumerate" p) [a] [] pos) (LD K (ub ta u7)):=by
 subst hK;exact U9 hg ml (sJ ha tE hs) hs
theorem iZ(K:Frag)(ml:X.mg "zip"=none) {b:Expr} {tb:TE} {elts:List Expr} {k:Nat} {tpos:Pos} (ha:PE X a ta) (hb:PE X b tb) (hg:Gl X "zip":=by rfl) (hs:starEach [a,b] X.env=[(false,eval a X.env),(false,eval b X.env)]:=by rfl) (hs2:starEach [b] X.env=[(false,eval b X.env)]:=by rfl) (hK:X.K=K:=by rfl):
  PI X (.Tuple elts k tpos) (.Call (.Name "zip" p) [a,b] [] pos) (Jc K (ub ta (ub tb u7))):=by
 subst hK;exact VS hg ml (sJ ha (sJ hb tE hs2) (by rw[hs,hs2])) hs hs2
end
def EO{xs:List V}{Pd:V->Prop}{r:Int}(h:∀x∈xs,Pd x)(h0:0<=r)(h1:r<(xs.length:Int)):∃v,atI xs r=some v/\Pd v:=
 ⟨_,SK h0 h1,h _ (Xv _)⟩
section
variable {X:Cx} {a b o:Expr} {ta tb to:TE} {pos:Pos}
theorem Sz(K:Frag){apos:Pos}(ho:PE X o to)(ha:PE X a ta)(hb:PE X b tb)(hs:starEach [a,b] X.env=[(false,eval a X.env),(false,eval b X.env)]:=by rfl)(hs2:starEach [b] X.env=[(false,eval b X.env)]:=by rfl)
  (hbase:attributeBase o "setdefault" X.env (eval o X.env)=eval o X.env:=by rfl) (hline:(apos.endLine==pos.line)=true:=by rfl) (hK:X.K=K:=by rfl)
  (hfew:((backTo pos (starEach [a,b] X.env)).all (fun x=>!x.1)&&(backToKw pos (keywordEach [] X.env)).all (fun x=>x.1.isSome)
   &&decide ([a,b].length+([]:List Keyword).length+(if([]:List Keyword).isEmpty then 0 else 1)<30))=true:=by rfl):
  PE X (.Call (.Attribute o "setdefault" apos) [a,b] [] pos) (tBM K "dict" FG to (ub ta (ub tb u7))):=by
 subst hK;exact HN PySem.F.plainAttrs_dict PySem.F.slot_dict_setdefault PySem.F.type_dict_setdefault NT ho (sJ ha (sJ hb tE hs2) (by rw[hs,hs2])) hbase hfew hline (by rw[hs,hs2]) (by rw[hs2];rfl)
theorem Rt(K:Frag){apos:Pos}(ho:PE X o to)(hbase:attributeBase o "values" X.env (eval o X.env)=eval o X.env:=by rfl) (hline:(apos.endLine==pos.line)=true:=by rfl) (hK:X.K=K:=by rfl):
  PE X (.Call (.Attribute o "values" apos) [] [] pos) (DH K "dict" LY to):=by
 subst hK;exact Ky PySem.F.plainAttrs_dict PySem.F.slot_dict_values PySem.F.type_dict_values N9 ho hbase hline
end
abbrev Cel:=Int×List Int×Addr
def gs(cs:List Cel):List (Int×List Int):=cs.map fun c=>(c.1,c.2.1)
section
variable {K:Frag} {H:Hp}
theorem Dps.len:∀{vs:List V} {ds:List PyData},Dps K H vs ds->vs.length=ds.length
 |_,_,.nil=>rfl
 |_,_,.cons _ hs=>congrArg (·+1) (Dps.len hs)
theorem Dps.get:∀{vs:List V} {ds:List PyData} {i:Nat} {v:V},Dps K H vs ds->vs[i]?=some v->∃d,ds[i]?=some d/\Dp K H v d
 |_,_,_,_,.nil,h=>by simp at h
 |_,_,0,_,.cons (d:=d) h hs,e=>by
  have:_=_:=Xa e;subst this;exact⟨d,rfl,h⟩
 |_,_,i+1,_,.cons h hs,e=>Dps.get (i:=i) hs e
end
def IsMax(M:Int)(l:List Int):Prop:=M∈l/\∀a∈l,a<=M
def IsMax.step{M x:Int}{l:List Int}(h:IsMax M l):IsMax (if x>M then x else M) (l++[x]):=by
 obtain⟨h1,h2⟩:=h;refine(⟨?_,fun a ha=>?_⟩)
 ·split
  ·simp
  ·exact List.mem_append_left _ h1
 ·rcases Xb.mp ha with z|z
  ·have:=h2 a z;split<;>omega
  ·have:a=x:=by simpa using z
   subst this;split<;>omega
def K0(ns:List Int)(j:Nat):Option Value->Prop
 |none=>j=0
 |some v=>∃M t,v=.int M t/\IsMax M (ns.take j)
def Ju:Option Value->Array Value
 |none=>#[]
 |some v=>#[v,v]
theorem KA:∀{vs:List Value} {ns:List Int} {j:Nat} {v:Value},IntsAre vs ns->vs[j]?=some v->∃t,v=.int (ns.getD j 0) t
 |_,_,_,_,.nil,h=>by simp at h
 |_,_,0,_,.cons n t _,h=>⟨t,(Xa h).symm⟩
 |_,_,j+1,_,.cons n t r,h=>by
  obtain⟨t',e⟩:=KA (j:=j) r h;exact(⟨t',by simpa using e⟩)
def R6(a d:Value):argsOk "max" ⟨[a],[("default",d)]⟩:=by unfold argsOk;kernel_rfl
section
variable {prog:Program} {w:World} {A:Around} {R:Result->Shared->Prop} {I l:Addr} {items:Array Value} {ns:List Int} {d:Value}
theorem Vv(hh:A.in1.handled=none)(hne:l≠I)(hi:IntsAre items.toList ns)(S:Addr)(hSI:S≠I)(hSl:S≠l):
  ∀(k j:Nat) (s:Shared) (b:Option Value) (c:Nat),items.size - j=k->j<=items.size->s.heap.IsListIter I l j->s.heap.IsList l items->K0 ns j b->
   s.heap.get? S=some {cls:=.type "list",dict:=none,data:=.seq (Ju b) c,slots:=#[]}->
   (∀v h' tk,((ns=[]/\v=d)\/∃M t,v=.int M t/\IsMax M ns)->(∀x o,x≠I->x≠S->s.heap.get? x=some o->h'.get? x=some o)->R (.ok (.ret v)) {s with heap:=h',toks:=tk})->
   codeAny (model prog w) A (.builtin "max.loop" ⟨[.ref I,.none,.ref S],[("default",d)]⟩) R s:=by
 have hnm:(toString "max"++toString ".loop":String)="max.loop":=by decide
 have hlen:ns.length=items.size:=by have:=hi.length;rw[X1] at this;omega
 have W:=Walks.list (prog:=prog) (w:=w) hh I l hne items;intro k;induction k with
 |zero=>
  intro j s b c hk hj st1 st2 hb hS hR;have ej:j=items.size:=by omega
  subst ej;refine Yd (F.entry_max_loop) (by
   rw[XM Yk];show wpAny _ A.in1 (seqItems? (.ref S) >>= fun _=>_) _ _ s;refine WH (wpAny_seqItems hS rfl (?_:wpAny _ A.in1 (tryCatch (pyNext (.ref I)) (fun _=>_) >>= fun _=>_) _ _ s));refine WH (wpAny_tryCatch (W.done s _ _ ⟨st1,st2⟩ fun h' tk keep=>?_));have kS:=keep S _ (by simpa using hSI) hS;cases b with
   |none=>
    have hb0:items.size=0:=hb;have hn:ns=[]:=XY.mp (by omega);show wpAny _ A.in1 (rule _ >>= fun _=>ret d) _ _ _;exact WH (wpAny_rule (WM (hR d h' tk (.inl ⟨hn,rfl⟩) fun x o n1 _ e=>keep x o (by simpa using n1) e)))
   |some v=>
    obtain⟨M,t,rfl,hM⟩:=hb;have htk:ns.take items.size=ns:=List.take_of_length_le (by omega);rw[htk] at hM;show wpAny _ A.in1 (updateSeq S (fun _=>#[]) >>= fun _=>_) _ _ _;refine WH (wpAny_updateSeq (hz:=by show 2<=sizeLine;decide) kS rfl (WH (wpAny_letGo (WM (hR _ _ tk (.inr ⟨M,t,rfl,hM⟩) fun x o n1 n2 e=>?_)))));exact(XN _ _ (Ne.symm n2)).trans (keep x o (by simpa using n1) e))
 |succ k ih=>
  intro j s b c hk hj st1 st2 hb hS hR;have hlt:j<items.size:=by omega
  refine Yd (F.entry_max_loop) (by
   rw[XM Yk];show wpAny _ A.in1 (seqItems? (.ref S) >>= fun _=>_) _ _ s;refine WH (wpAny_seqItems hS rfl (?_:wpAny _ A.in1 (tryCatch (pyNext (.ref I)) (fun _=>_) >>= fun _=>_) _ _ s));refine WH (wpAny_tryCatch (W.item j s _ _ hlt ⟨st1,st2⟩ fun v h' tk hv st' keep=>?_));have kS:=keep S _ (by simpa using hSI) hS;have hx:∃t,v=.int (ns.getD j 0) t:=by
    exact KA hi (by rw[Array.getElem?_toList];exact hv)
   obtain⟨t,rfl⟩:=hx;have htk:ns.take (j+1)=ns.take j++[ns.getD j 0]:=by
    rw[List.take_add_one,WS,WP (by omega)];rfl
   have goOn:∀(b':Option Value) (h2:Heap) (c':Nat),K0 ns (j+1) b'->h2.get? S=some {cls:=.type "list",dict:=none,data:=.seq (Ju b') c',slots:=#[]}->
     (∀x o,x≠S->h'.get? x=some o->h2.get? x=some o)->codeAny (model prog w) A (.builtin "max.loop" ⟨[.ref I,.none,.ref S],[("default",d)]⟩) R {s with heap:=h2,toks:=tk}:=fun b' h2 c' hb' hS' k2=>by
    refine ih (j+1) _ b' c' (by omega) hlt (st'.1.at fun o e=>k2 I o (Ne.symm hSI) e) (st'.2.at fun o e=>k2 l o (Ne.symm hSl) e) hb' hS' fun v' h3 tk3 hv' k3=>hR v' h3 tk3 hv' fun x o n1 n2 e=>?_;exact k3 x o n1 n2 (k2 x o n2 (keep x o (by simpa using n1) e))
   cases b with
   |none=>
    have hb0:j=0:=hb;subst hb0;show wpAny _ A.in1 (updateSeq S (fun _=>#[Value.int (ns.getD 0 0) t,Value.int (ns.getD 0 0) t]) >>= fun _=>_) _ _ _;refine WH (wpAny_updateSeq kS rfl ?_);rw[hnm];refine WM ⟨Yi Yk _,goOn (some (.int (ns.getD 0 0) t)) _ _ ⟨_,t,rfl,?_⟩ (Heap.get?_update_self _ kS rfl) fun x o n e=>(XN _ _ (Ne.symm n)).trans e⟩;rw[htk];exact⟨by simp,fun a ha=>by
     have:a=ns.getD 0 0:=by simpa using ha
     omega⟩
   |some vb=>
    obtain⟨M,tb,rfl,hM⟩:=hb;show wpAny _ A.in1 (tryCatch (holding [Value.int (ns.getD j 0) t,Value.int (ns.getD j 0) t] (richCompare .Gt (.int (ns.getD j 0) t) (.int M tb) >>= fun _=>_)) (fun _=>_) >>= fun _=>_) _ _ _;refine WH (wpAny_tryCatch (XV (WH ?_)));refine richCompare_gives (op:=.Gt) (typeIs_int _ _ t) (typeIs_int _ _ tb) F.slot_int_gt F.entry_int_gt (F.args_int_gt_2 _ _) (gives_int_gt _ _ t tb) (fun x=>nomatch x) ?_;refine WH (XV (Xx (WH (wpAny_letGo (WM ?_)))));have hst:=hM.step (x:=ns.getD j 0);rw[←htk] at hst;by_cases hgt:ns.getD j 0>M
    ·rw[if_pos hgt] at hst;rw[if_pos (Xz hgt)];refine WH (wpAny_updateSeq (hz:=by show 2<=sizeLine;decide) kS rfl (WH (wpAny_letGo ?_)));rw[hnm];exact WM ⟨Yi Yk _,goOn (some (.int (ns.getD j 0) t)) _ _ ⟨_,t,rfl,hst⟩ (Heap.get?_update_self _ kS rfl) fun x o n e=>(XN _ _ (Ne.symm n)).trans e⟩
    ·rw[if_neg hgt] at hst;rw[if_neg (by simpa using hgt)];refine WH (wpAny_letGo ?_);rw[hnm];exact WM ⟨Yi Yk _,goOn (some (.int M tb)) _ _ ⟨_,tb,rfl,hst⟩ kS fun x o _ e=>e⟩)
theorem Pb{E:OK}{s:Shared}{Q:OK}{vs:List Value}(hh:A.handled=none)(hl:s.heap.IsList l vs.toArray)(hi:IntsAre vs ns)
  (h:∀v h' tk,((ns=[]/\v=d)\/∃M t,v=.int M t/\IsMax M ns)->(∀b o,s.heap.get? b=some o->h'.get? b=some o)->Q v {s with heap:=h',toks:=tk}):
  wpAny (model prog w) A (call (.builtin "max") [.ref l] [("default",d)]) Q E s:=by
 have hnm:(toString "max"++toString ".loop":String)="max.loop":=by decide
 obtain⟨ol,el,_⟩:=id hl;have llt:l<s.heap.objs.size:=WN el;have body:wpAny (model prog w) A.in1 (Builtin.«max» ⟨[.ref l],[("default",d)]⟩) (fun fin s'=>match fin with
   | .done f=>(match(Except.ok f:Result) with| .ok (.ret v)=>Q v s'| .ok _=>False| .error e=>E e s')
   | .again c'=>c'.quiet=true/\codeAny (model prog w) A c' (fun r s'=>match r with| .ok (.ret v)=>Q v s'| .ok _=>False| .error e=>E e s') s') E s:=by
  show wpAny _ A.in1 (Builtin.Builtins.bindParams "max" ["key","default"] 0 ⟨[],[("default",d)]⟩ >>= fun _=>_) _ _ s;refine WH (wpAny_of_eq (show Builtin.Builtins.bindParams "max" ["key","default"] 0 ⟨[],[("default",d)]⟩=pure [none,some d] from by with_unfolding_all rfl) (WH (WM ?_)));refine WH (wpAny_pyIter_list hl ?_);refine WH (XE ?_);rw[hnm];refine WM ⟨Yi Yk _,?_⟩;have e1:(s.heap.push {cls:=.type "list_iterator",data:=.fields #[.ref l,.int 0 0]}).objs.size=s.heap.objs.size+1:=XG ..;refine Vv (I:=s.heap.objs.size) (l:=l) (items:=vs.toArray) (ns:=ns) (d:=d) hh (W8 llt) (by simpa using hi) _ (by rw[e1];exact Yn (Nat.lt_succ_self _)) (by rw[e1];exact Yn (Ym llt)) _ 0 _ none 0 rfl (XJ _)
   ⟨_,WK _ (WR _ rfl),rfl,rfl⟩ ((hl.push _).push _) rfl (WR _ rfl) fun v h' tk hv kp=>?_
  refine h v h' tk hv fun b o e=>kp b o (W8 (WN e)) (by rw[e1];exact W8 (Ym (WN e))) (WK _ (WK _ e))
 refine wpAny_call (codeAny_call_builtin F.plain_max F.entry_max ?_);simp only[checkBuiltinCall,F.kind_max];have ha:=R6 (.ref l) d;cases hsig:Manifest.signature? "max" with
 |none=>exact WM body
 |some sig=>
  simp only[argsOk,hsig] at ha;have h2:Bind.checkArgs "max" sig ⟨[.ref l],[("default",d)]⟩=pure ():=ha;show wpAny _ A.in1 (Bind.checkArgs "max" sig ⟨[.ref l],[("default",d)]⟩) _ _ s;rw[h2];exact WM body
end
section
variable {X:Cx} {a b:Expr} {ta tb:TE} {p pos kp:Pos}
theorem V7(K:Frag)(mm:X.mg "max"=none) (ha:PE X a ta) (hb:PE X b tb) (hc:X.calm=true:=by rfl) (hg:Gl X "max":=by rfl) (hs:starEach [a] X.env=[(false,eval a X.env)]:=by rfl) (hK:X.K=K:=by rfl)
  (hall:(backToKw pos (keywordEach [⟨some "default",b,kp⟩] X.env)).all (·.1.isSome)=true:=by rfl) (hks:(backToKw pos (keywordEach [⟨some "default",b,kp⟩] X.env)).filterMap (·.1)=([Str.ofString "default"]:List Str):=by rfl)
  (hno:(backToKw pos (keywordEach [⟨some "default",b,kp⟩] X.env)).any (·.1.isNone)=false:=by rfl):
  PE X (.Call (.Name "max" p) [a] [⟨some "default",b,kp⟩] pos) (fun B H Q=>ta B H fun x H1=>tb B H1 fun y H2=>∃(q:Addr) (ns:List Int) (j:Int),x=.ref q/\y=.int j/\SqL K H2 q (ns.map V.int)/\(ns=[]->Q (.int j) H2)/\∀M,IsMax M ns->Q (.int M) H2):=by
 subst hK;intro pins s B H Q I h;have hb1:backTo pos (starEach [a] X.env)=[(false,eval a X.env)]:=by rw[hs];rfl
 refine X7 (vn I hg mm (u:=.builtin "max") rfl (callWith_builtin_kwB (by rw[hb1];rfl) hno ?_));rw[hb1];refine evalArgs_kwB hall (Calls.spliced_cons (thn (ha pins s B H _ I h) fun u s1 ⟨x,H1,I1,r1,q1⟩=>Calls.spliced_nil ?_));refine kws_cons (thn (hb pins s1 B H1 _ I1 q1) fun u2 s2 ⟨y,H2,I2,r2,q2⟩=>kws_nil ?_);obtain⟨q,ns,j,rfl,rfl,hq,hz,hm⟩:=q2;cases r1;obtain⟨t,rfl⟩:=r2;obtain⟨its,rv,pl,_⟩:=I2.list hq;rw[hks];refine Pb (d:=.int j t) (I2.ok.hd hc) pl.isList (SR rv) fun v h' tk hv kp'=>?_;rcases hv with⟨e,rfl⟩|⟨M,t',rfl,hM⟩
 ·exact⟨.int j,H2,I2.kept kp',⟨_,rfl⟩,hz e⟩
 ·exact⟨.int M,H2,I2.kept kp',⟨_,rfl⟩,hm M hM⟩
end
section
variable {X:Cx} {a b:Expr} {ta tb:TE} {p pos:Pos}
theorem QJ:uY X (.type "int") (fun xs H Q=>∃k,xs=[V.bl k]/\Q (.int (if k then 1 else 0)) H):=fun pins s B H xs us Q I r h=>WC pins s B H xs us Q I r (.inr h)
theorem RU(ml:X.mg "int"=none) (ha:PE X a ta) (hg:Gl X "int":=by rfl) (hs:starEach [a] X.env=[(false,eval a X.env)]:=by rfl):
  PE X (.Call (.Name "int" p) [a] [] pos) (fun B H Q=>ta B H fun x H1=>∃k,[x]=[V.bl k]/\Q (.int (if k then 1 else 0)) H1):=
 A7 QJ hg ml rfl (sJ ha tE hs) (he:=hs)
theorem iR2(mr:X.mg "range"=none) {tg:Expr} (ha:PE X a ta) (hb:PE X b tb) (hg:Gl X "range":=by rfl) (hs:starEach [a,b] X.env=[(false,eval a X.env),(false,eval b X.env)]:=by rfl) (hs2:starEach [b] X.env=[(false,eval b X.env)]:=by rfl):
  PI X tg (.Call (.Name "range" p) [a,b] [] pos) (MA (ub ta (ub tb u7))):=Tn hg mr (sJ ha (sJ hb tE hs2) (by rw[hs,hs2])) hs hs2
end
abbrev Ask:=Nat×Nat×Bool
section
variable {X:Cx}
theorem NQ:OpR X (binaryOp .FloorDiv) (rI (fun _ j=>0<j/\j<2^200) fun i j=>.int (i/j)):=opI fun i j _ _ _ _ _ hc q=>by
 obtain⟨h1,h2⟩:=hc;refine floordiv_int (by omega) (by rw[Int.fdiv_eq_ediv_of_nonneg i (by omega)];exact q) (.inl (PyProof.noPylong_of_log2 ?_));have h3:j.natAbs≠0:=by omega
 have h4:j.natAbs<2^200:=by
  have:((j.natAbs:Nat):Int)=j:=by omega
  have h5:((j.natAbs:Nat):Int)<((2^200:Nat):Int):=by rw[this];exact_mod_cast h2
  omega
 have:=(Nat.log2_lt h3).mpr h4;omega
end
inductive Tr where
 |none
 |one (i:Int)
 |ask (i j:Int) (a u:Tr)
theorem IL:∀{bs:List Bool} {us:List Value},Vals (bs.map V.bl) us->us=bs.map Value.bool
 | [],_,h=>by cases h;rfl
 |b::r,_,h=>by
  cases h with
  |cons h1 h2=>
   cases (show _=Value.bool b from h1);rw[IL h2];rfl
section
variable {X:Cx} {a b o:Expr} {ta:TE} {p pos:Pos}
theorem Vr(K:Frag)(mm:X.mg "all"=none) (ha:PE X a ta) (hc:X.calm=true:=by rfl) (hg:Gl X "all":=by rfl) (hs:starEach [a] X.env=[(false,eval a X.env)]:=by rfl) (hK:X.K=K:=by rfl):
  PE X (.Call (.Name "all" p) [a] [] pos) (fun B H Q=>ta B H fun x H1=>∃(q:Addr) (bs:List Bool),[x]=[.ref q]/\SqL K H1 q (bs.map V.bl)/\Q (.bl (bs.all id)) H1):=by
 subst hK;have rule:uY X (.builtin "all") (fun xs H Q=>∃(q:Addr) (bs:List Bool),xs=[.ref q]/\SqL X.K H q (bs.map V.bl)/\Q (.bl (bs.all id)) H):=by
  intro pins s B H xs us Q I r h;obtain⟨q,bs,rfl,hq,k⟩:=h;obtain⟨u,rfl,ru⟩:=wE r;cases ru;obtain⟨its,rv,pl,hz⟩:=I.list hq;have ei:its=bs.map Value.bool:=IL rv;subst ei;obtain⟨ol,el,_⟩:=id pl.isList;have qlt:q<s.heap.objs.size:=WN el;refine(call_all_walk (wpAny_pyIter_list pl.isList ⟨_,_,_,_,_,_,fun i=>bs.getD i false,rfl,Walks.list (A:=X.A.in1) (I.ok.hd hc) _ q (W8 qlt) (bs.map Value.bool).toArray,⟨⟨_,WR _ rfl,rfl,rfl⟩,pl.isList.push _⟩,?_,fun h' tk keep=>?_⟩))
  ·intro i v s' Q' E' hv hQ;have hv':(bs.map Value.bool)[i]?=some v:=by simpa using hv
   rw[WY] at hv';cases eb:bs[i]? with
   |none=>rw[eb] at hv';cases hv'
   |some b=>
    rw[eb] at hv';have:v=.bool b:=(Xa hv').symm;subst this;have e2:bs.getD i false=b:=by rw[WS,eb];rfl
    simp only[e2] at hQ;exact Xx hQ
  ·have ea:(List.range (bs.map Value.bool).toArray.size).all (fun i=>bs.getD i false)=bs.all id:=by
    rw[Ye,Xk,Xk];constructor
    ·intro hh b hb;obtain⟨i,hi⟩:=XH hb;have:=hh i (by simp;exact(WL.mp hi).1);rw[WS,hi] at this;exact this
    ·intro hh i hi;have hi':i<bs.length:=by simpa using hi
     rw[WS,WP hi'];exact hh _ (Xv hi')
   rw[ea];have kp:∀b o,s.heap.get? b=some o->h'.get? b=some o:=fun b o e=>keep b o (fun hm=>absurd (Xj.mp hm) (W8 (WN e))) (WK _ e);exact⟨.bl _,H,I.kept kp,rfl,k⟩
 exact z9 rule hg mm rfl (sJ ha tE hs) (he:=hs)
end
def Rr(o:List Int)(k:Int):Nat:=if k∈o then o.idxOf k+1 else o.length
def UG(o:List Int)(fs:List Nat)(n:Nat)(k:Int)(m:Nat):List Ask:=(List.range m).map fun at_=>(fs.getD at_ 0,n,decide (o.getD at_ 0=k))
def ob(ks:List Int):Nat->List Int×List Nat×List Ask
 |0=>([],[],[])
 |n+1=>(if ks.getD n 0∈(ob ks n).1 then(ob ks n).1 else(ob ks n).1++[ks.getD n 0],
   if ks.getD n 0∈(ob ks n).1 then(ob ks n).2.1 else(ob ks n).2.1++[n],
   (ob ks n).2.2++UG (ob ks n).1 (ob ks n).2.1 n (ks.getD n 0) (Rr (ob ks n).1 (ks.getD n 0)))
section
variable {prog:Program} {w:World} {A:Around} {R:Result->Shared->Prop} {s:Shared}
theorem Q5{kx vx target iter:Expr}{ifs:List Expr}{scope:Scope}{pos:Pos}{it:Value}{D:Addr}{env:Env}(I:Nat->Shared->Prop)
  (turn:∀n s,I n s->wpAny (model prog w) A (pyNext it) (fun r ZT=>match r with
   |none=>R (.ok .next) ZT
   |some v=>wpAny (model prog w) A (letOwnedTupleGo target it v) (fun _ ZA=>wpAny (model prog w) A (assign target env v) (fun _ ZJ=>
     wpAny (model prog w) A (forIn ifs true fun c r=>if r=true then do let ok ←isTrue c env (eval c env);pure (ForInStep.yield ok) else pure (ForInStep.yield r)) (fun ok ZL=>
      if ok=true then wpAny (model prog w) A (eval kx env) (fun kv ZG=>wpAny (model prog w) A (eval vx env) (fun vv ZD=>
       wpAny (model prog w) A (dictSet D kv vv) (fun _ Zm=>∃m,m<n/\I m Zm) (fun _ _=>False) ZD) (fun _ _=>False) ZG) (fun _ _=>False) ZL
      else ∃m,m<n/\I m ZL) (fun _ _=>False) ZJ) (fun _ _=>False) ZA) (fun _ _=>False) ZT) (fun _ _=>False) s)
  (n:Nat) (h:I n s):codeAny (model prog w) A (.compLoop (.DictComp kx vx [⟨target,iter,ifs,0⟩] scope pos) 0 it (.ref D) env) R s:=by
 refine codeAny_loop rfl I (fun n s hI=>?_) n h;show wpAny _ A ((compTurn (.DictComp kx vx [⟨target,iter,ifs,0⟩] scope pos) 0 it (.ref D) env).onRaise (fun x=>do noteFrame x env;theTreesLotGoes x)) _ _ s;refine wpAny_noted ?_;rw[compTurn_dict];refine WO (E:=fun _ _=>False) ?_ (fun _ _ x=>x) fun _ _ x=>x.elim;refine WH (XW (WH (WO (turn n s hI) (fun r ZT ZQ=>?_) fun _ _ h'=>h')));cases r with
 |none=>exact WM ZQ
 |some v=>
  refine WH (WO ZQ (fun _ ZA Zu=>?_) fun _ _ h'=>h');refine WH (WO Zu (fun _ ZJ ZB=>WH (WO ZB (fun ok ZL ZE=>?_) fun _ _ h'=>h')) fun _ _ h'=>h');cases ok with
  |false=>exact WM ⟨rfl,ZE⟩
  |true=>
   exact WH (WH (WO ZE (fun kv ZG Zt=>WH (XV (WO Zt (fun vv ZD Zs=>WH (XW (XV (WO Zs (fun _ Zm Zk=>WM ⟨rfl,Zk⟩) fun _ _ h'=>h')))) fun _ _ h'=>h'))) fun _ _ h'=>h'))
end
def BD(Z6:It)(g:TG)(tc:TT)(tk tv:TE)(D:Addr)(ZN:St)(H0:Hp)(Z:Hp->Prop):Prop:=
 ∃W:Nat->Nat->St->Hp->Prop,(∃m,W 0 m ZN (upd H0 D (.dK [])))/\∀i m B H,W i m B H->
  (Z6.stop i H/\Z H)\/(Z6.go i H/\∃N:St->Hp->Prop,(∀ZZ H',N ZZ H'->∃m',m'<m/\W (i+1) m' ZZ H')/\∀x H',Z6.yld i H x H'->g x B H' fun ZV H2=>tc ZV H2 fun b H3=>
   if b=true then tk ZV H3 fun y H4=>tv ZV H4 fun v H5=>∃kvs k,H5 D=some (.dK kvs)/\kvs.length<sizeLine/\y=kV k/\N ZV (upd H5 D (.dK (sO kvs k v))) else N ZV H3)
section
variable {X:Cx} {pins:QS} {B:St} {N' own:List Str} {cap:List (Str×Nat)} {scope:Scope} {tg iter kx vx:Expr} {ifs:List Expr} {pos:Pos} {g:TG} {tc:TT} {tk tv:TE} {wi:TI}
theorem QN{Y:Cx}{s:Shared}{ZN:St}{H2:Hp}{it D:Addr}{fp:List Addr}{tn:Nat->Heap->Prop}{Z6:It}{Z:Hp->Prop}{R:Result->Shared->Prop}
  (hx:∀e s,Y.xe e s->False) (hc:Y.calm=true) (hg:PG Y tg g) (ht:PIf Y ifs tc) (hk0:PE Y kx tk) (hv0:PE Y vx tv)
  (T:Turn Y.prog Y.w Y.K tg Z6 fp it tn) (J0:Inv Y [] ZN (upd H2 D (.dK [])) s) (st3:tn 0 s.heap) (f3:∀b∈fp,upd H2 D (.dK []) b=none)
  (stat:∀{H':Hp},(∀b∈fp,H' b=none)->∀b∈fp,sE Y [] H' b) (h:BD Z6 g tc tk tv D ZN H2 Z)
  (hR:∀ZP H4 s5,Inv Y [] ZP H4 s5->Z H4->R (.ok .next) s5):
  codeAny (model Y.prog Y.w) Y.A (.compLoop (.DictComp kx vx [⟨tg,iter,ifs,0⟩] scope pos) 0 (.ref it) (.ref D) Y.env) R s:=by
 obtain⟨W,⟨m0,w0⟩,turn⟩:=h;have noX:∀{J:Type} {t:Sem J} {Q:J->Shared->Prop} {s:Shared},wpAny (model Y.prog Y.w) Y.A t Q Y.xe s->wpAny (model Y.prog Y.w) Y.A t Q (fun _ _=>False) s:=fun q=>WO q (fun _ _ z=>z) fun e s z=>hx e s z;obtain⟨P,hP⟩:∃P:Nat->Shared->Prop,∀n s',P n s'↔∃i ZZ H',Inv Y [] ZZ H' s'/\tn i s'.heap/\(∀b∈fp,H' b=none)/\W i n ZZ H':=⟨_,fun _ _=>Iff.rfl⟩
 refine Q5 P ?_ m0 ((hP _ _).2 ⟨0,_,_,J0,st3,f3,w0⟩);rintro n s4 h4;obtain⟨i,ZP,H4,I4,st4,fr4,w4⟩:=(hP _ _).1 h4;rcases turn i n ZP H4 w4 with⟨stop,qz⟩|⟨go,N,hN,step⟩
 ·refine WO (T.done Y rfl rfl rfl hc i [] s4 ZP H4 (fun _ _=>False) I4 (stat fr4) st4 stop) (fun r s5 ⟨hr,I5⟩=>?_) fun _ _ z=>z;subst hr;exact hR ZP H4 s5 I5 qz
 ·refine WO (T.item Y rfl rfl rfl hc i [] s4 ZP H4 (fun _ _=>False) I4 (stat fr4) st4 go) (fun r s5 ⟨u,hr,h5⟩=>?_) fun _ _ z=>z;subst hr;refine WO h5 (fun _ s6 hm=>?_) fun _ _ z=>z;obtain⟨x,H6,I6,r6,y6,st6,fr6⟩:=hm;have I6':=I6.pinned (stat fr6) (T.obj _ _ st6);have again:∀{ZS:St} {H7:Hp} {s7:Shared},Inv Y ([]++wU fp s6.heap) ZS H7 s7->N ZS H7->∃m,m<n/\P m s7:=fun{ZS H7 s7} I7 n7=>by
   obtain⟨m',hm,w7⟩:=hN ZS H7 n7;refine(⟨m',hm,(hP _ _).2 ⟨i+1,ZS,H7,I7.unpinned,T.keep _ _ _ st6 fun b hb o e=>(I7.pin (b,o) (WU _ (WU _ (vF hb e)))).1,fun b hb=>?_,w7⟩⟩);obtain⟨o,e,d⟩:=T.obj _ _ st6 b hb;exact((I7.pin (b,o) (WU _ (WU _ (vF hb e)))).2.1)
  refine noX (thn (hg _ s6 ZP H6 x u _ I6' r6 (step x H6 y6)) fun _ s7 hm=>?_);obtain⟨ZS,H7,I7,q7⟩:=hm;refine(noX (thn (ht _ s7 ZS H7 _ I7 q7) fun b s8 hm=>?_));obtain⟨H8,I8,q8⟩:=hm;cases b with
  |false=>
   show ∃m,_;exact again I8 q8
  |true=>
   show wpAny _ _ _ _ _ _;refine noX (thn (hk0 _ s8 ZS H8 _ I8 q8) fun kv s9 hm=>?_);obtain⟨vk,H9,I9,r9,q9⟩:=hm;refine(noX (thn (hv0 _ s9 ZS H9 _ I9 q9) fun vv s10 hm=>?_));obtain⟨v,H10,I10,r10,kvs,k,e10,hz,ek,q10⟩:=hm;subst ek;obtain⟨z,hd,vs,rel,dd⟩:=xB I10.hok e10;have hz':vs.length<=sizeLine:=by rw[←rel.length];exact z
   have hl:(sO kvs k v).length<=sizeLine:=by have:=Bf kvs k v;omega
   refine(wpAny_dictSet_pairs (hsz:=hz') (Af r9) dd fun h' dd' hs'=>?_);have heo:∃q,h'.get? D=some q:=let ⟨q,_,_,hq,_⟩:=dd';⟨q,hq⟩
   exact again (AT (t':=s10.toks+1) I10 (by rw[e10];exact True.intro) hs' heo (Db hl hd (rel.put k r10) dd')) q10
theorem SU{s2:Shared}{H2:Hp}{it:Addr}{fp:List Addr}{tn:Nat->Heap->Prop}{Z6:It}{cl:List (Str×Addr)}{Z:Addr->Hp->Prop}{RR:Value->Addr->Result->Shared->Prop}{E:OK}
  (hx:∀e s,X.xe e s->False) (hc:X.calm=true) (S:CompScope X N' own cap scope)
  (hg:∀cl C Z2 Z0 ex,PG (rq X N' scope cl C Z2 Z0 ex) tg g) (ht:∀cl C Z2 Z0 ex,PIf (rq X N' scope cl C Z2 Z0 ex) ifs tc) (hk0:∀cl C Z2 Z0 ex,PE (rq X N' scope cl C Z2 Z0 ex) kx tk) (hv0:∀cl C Z2 Z0 ex,PE (rq X N' scope cl C Z2 Z0 ex) vx tv)
  (I2:Inv X pins B H2 s2) (T:Turn X.prog X.w X.K tg Z6 fp it tn) (st2:tn 0 s2.heap) (f2:∀b∈fp,sE X pins H2 b)
  (c1:∀y c,cl.lookup y=some c->X.env.cells.lookup y=some c) (c2:∀y,(y,NameKind.free)∈scope.names->∃c,cl.lookup y=some c)
  (h:∀D,H2 D=none->BD Z6 g tc tk tv D (tw own cap B) H2 (Z D))
  (hRR:∀D C s' m' H',Inv X pins B H' s'->s'.heap.Ns C m'->sE X pins H' C->Z D H'->RR (.ref D) C (.ok .next) s'):
  wpAny (model X.prog X.w) X.A (newDict) (fun acc ZL=>wpAny (model X.prog X.w) X.A (newFunctionEnv scope X.env.globals cl [] X.env.qual none .none (some X.env)) (fun cenv ZG=>
   codeAny (model X.prog X.w) X.A (.compStart (.DictComp kx vx [⟨tg,iter,ifs,0⟩] scope pos) 0 (.ref it) acc {cenv with scope:=relabel scope X.env}) (RR acc cenv.locals) ZG) E ZL) E s2:=by
 have hlt:∀b∈fp,b<s2.heap.objs.size:=fun b hb=>by
  obtain⟨o,e,_⟩:=T.obj _ _ st2 b hb;exact(WN e)
 have hD:H2 s2.heap.objs.size=none:=I2.hok.fresh (WJ _);have hsys:(s2.heap.objs.size==sysModules)=false:=by
  have:=I2.big;rw[beq_eq_false_iff_ne];exact Yn this
 refine XE (CY (fun ZQ Zz Zy Zx=>?_));dsimp only at Zz Zy Zx⊢;have I3:Inv X pins B (upd H2 s2.heap.objs.size (.dK [])) {s2 with heap:=s2.heap.push {cls:=.type "dict",dict:=none,data:=.dict #[]},toks:=s2.toks}:=
  I2.laid (fun b o e=>WK _ e) (WJ _) ⟨XJ _,hsys,[],.nil,Heap.DictOf.new s2.heap⟩
 generalize hs3:({s2 with heap:=s2.heap.push {cls:=.type "dict",dict:=none,data:=.dict #[]},toks:=s2.toks}:Shared)=s3 at I3;have e3:s2.heap.push {cls:=.type "dict",dict:=none,data:=.dict #[]}=s3.heap:=by rw[←hs3]
 have hsz:s3.heap.objs.size=s2.heap.objs.size+1:=by rw[←e3,XG]
 rw[e3] at Zz Zy Zx⊢;have hk:=Zy;have hcl:∀y c,cl.lookup y=some c->¬s3.heap.objs.size<c:=fun y c e z=>by
  obtain⟨v,o,ho,_⟩:=I3.cell y c (c1 y c e);exact(Xp _ (Nat.lt_trans z (WN ho)))
 have CA:CellsAre X scope s3.heap.objs.size cl (cellsFrom (s3.heap.objs.size+1) scope.names cl):=Eg (h:=s3.heap.push {cls:=.type "dict",data:=.dict #[]}) (by rw[XG]) S hcl;have hcell:∀y c,(cellsFrom (s3.heap.objs.size+1) scope.names cl).lookup y=some c->s3.heap.objs.size<c->ZQ.IsCell c none:=fun y c e z=>by
  rw[vw,wF] at e;cases q:(cellsFrom (s3.heap.objs.size+1) scope.names []).lookup y with
  |none=>rw[q] at e;exact absurd z (hcl y c e)
  |some c'=>
   rw[q] at e;have:c'=c:=Xa e;subst this;exact Zx y c' (Xr q)
 generalize hcs:cellsFrom (s3.heap.objs.size+1) scope.names cl=cs at CA hcell⊢;have f3:∀b∈fp,sE X pins (upd H2 s2.heap.objs.size (.dK [])) b:=fun b hb=>⟨by rw[rG (W8 (hlt b hb))];exact(f2 b hb).1,(f2 b hb).2⟩
 have hlt3:∀b∈fp,b<s3.heap.objs.size:=fun b hb=>by rw[hsz];exact Ym (hlt b hb)
 have st3:tn 0 ZQ:=T.keep _ _ _ st2 fun b hb o e=>hk b o (by rw[←e3];exact WK _ e);have J0:Inv (rq X N' scope cs s3.heap.objs.size s3 (upd H2 s2.heap.objs.size (.dK [])) fp) [] (tw own cap B) (upd H2 s2.heap.objs.size (.dK [])) {s3 with heap:=ZQ,toks:=s2.toks}:=
  comp_inv I3 S CA hcell c1 c2 f3 hlt3 hk Zz
 have stat:∀{pl:QS} {H':Hp},pl=[]->(∀b∈fp,H' b=none)->∀b∈fp,sE (rq X N' scope cs s3.heap.objs.size s3 (upd H2 s2.heap.objs.size (.dK [])) fp) pl H' b:=fun{pl H'} hp hn b hb=>by
  subst hp;refine⟨hn b hb,W8 (hlt3 b hb),J0.ok.exfs b hb,.inl hb,fun x c e=>J0.ok.exf b hb |>.2 x c e,fun p hp=>absurd hp (by show p∉([]++[]:QS);simp)⟩
 have loop:codeAny (model X.prog X.w) X.A (.compLoop (.DictComp kx vx [⟨tg,iter,ifs,0⟩] scope pos) 0 (.ref it) (.ref s2.heap.objs.size) (compEnvC scope cs s3.heap.objs.size X.env)) (RR (.ref s2.heap.objs.size) s3.heap.objs.size)
   {s3 with heap:=ZQ,toks:=s2.toks}:=QN (Y:=rq X N' scope cs s3.heap.objs.size s3 (upd H2 s2.heap.objs.size (.dK [])) fp) hx hc (hg _ _ _ _ _) (ht _ _ _ _ _) (hk0 _ _ _ _ _) (hv0 _ _ _ _ _) T J0 st3 (fun b hb=>(f3 b hb).1) (stat rfl) (h _ hD) fun ZP H4 s5 I5 qz=>by
  have I6:Inv X pins B H4 s5:=I3.call' (ch:=fp) I5.os I5.base I5.hok I5.bare fun b hb=>⟨(f3 b hb).2.2.2.1,(f3 b hb).2.1,(f3 b hb).2.2.2.2.1,(f3 b hb).2.2.2.2.2⟩
  obtain⟨m',hn',_⟩:=I5.loc;exact(hRR _ _ s5 m' H4 I6 hn' (I3.fpOk (WJ _) I5.free) qz)
 have lp:codeAny (model X.prog X.w) X.A (.compStart (.DictComp kx vx [⟨tg,iter,ifs,0⟩] scope pos) 0 (.ref it) (.ref s2.heap.objs.size) (compEnvC scope cs s3.heap.objs.size X.env)) (RR (.ref s2.heap.objs.size) s3.heap.objs.size)
   {s3 with heap:=ZQ,toks:=s2.toks}:=codeAny_compStart_dict loop (T.self _ 0 _ _ _ st3 loop)
 subst hs3;exact lp
theorem Up(S:CompScope X N' own cap scope)(hi:PI X tg iter wi)
  (hg:∀cl C Z2 Z0 ex,PG (rq X N' scope cl C Z2 Z0 ex) tg g) (ht:∀cl C Z2 Z0 ex,PIf (rq X N' scope cl C Z2 Z0 ex) ifs tc) (hk:∀cl C Z2 Z0 ex,PE (rq X N' scope cl C Z2 Z0 ex) kx tk) (hv:∀cl C Z2 Z0 ex,PE (rq X N' scope cl C Z2 Z0 ex) vx tv)
  (hx:∀e s,X.xe e s->False:=by exact fun _ _ z=>z) (hc:X.calm=true:=by rfl) (hs:∀x,foldedSetIterable iter X.env x=pure x:=by intro _;rfl):
  PE X (.DictComp kx vx [⟨tg,iter,ifs,0⟩] scope pos) (fun B H Q=>wi B H fun Z6 H1=>∀D,H1 D=none->BD Z6 g tc tk tv D (tw own cap B) H1 (Q (.ref D))):=by
 intro pins s B H Q I h;rw[arm_eval_DictComp];obtain⟨cl,hcl,c1,c2⟩:=Aj (scope:=scope) (env:=X.env) fun y hy hk=>I.ok.has y.1 (S.free y hy hk);refine(XX (use:=none) rfl hs hcl S.kind S.names (thn (hi pins s B H _ I h) fun v s1 h1=>thn h1 fun itv s2 h2=>?_));obtain⟨it,fp,tn,Z6,H2,e,I2,T,st2,f2,q⟩:=h2;subst e;refine(SU (RR:=fun acc C=>compPost (model X.prog X.w) X.A X.xe none (EP X pins B Q) acc C) (Z:=fun D=>Q (.ref D)) hx hc S hg ht hk hv I2 T st2 f2 c1 c2 q ?_);intro D C s' m' H' I' hn' f' z;exact⟨m',hn',fun h'' hs''=>⟨.ref D,H',I'.letgo f' hs'',rfl,z⟩⟩
end
def viO(v d:Addr):HO:=.ext fun h=>h.IsItemsView v d
def KD:V->List V->Hp->VK->Prop:=fun x vs H Q=>∃(a:Addr) (kvs:List (Key×V)),x=.ref a/\vs=[]/\H a=some (.dK kvs)/\∀v,H v=none->Q (.ref v) (upd H v (viO v a))
section
variable {X:Cx} {o:Expr} {to:TE} {pos:Pos}
theorem RV:MtM X "dict.items" KD:=by
 intro pins s B H x vs v us Q I rx rv h;obtain⟨a,kvs,rfl,rfl,e,q⟩:=h;cases rx;have:=rv.zero;subst this;obtain⟨z,hd,ws,rel,dd⟩:=xB I.hok e;refine(call_meetsIn PySem.F.slot_dict_items dd.typeIs PySem.F.entry_dict_items (PySem.F.args_dict_items_1 _) (meets_dict_items (ul X.prog X.w) a hd) ⟨⟨ws,dd⟩,?_⟩);have hv:(s.heap.push {cls:=.type "dict_items",data:=.fields #[.ref a]}).IsItemsView s.heap.objs.size a:=⟨_,WR _ rfl,rfl,rfl⟩
 refine⟨.ref s.heap.objs.size,_,I.laid (t':=s.toks) (o:=viO s.heap.objs.size a) (fun b o q=>WK _ q) (WJ _) ?_,rfl,q _ (I.hok.fresh (WJ _))⟩;exact⟨hv,⟨_,WR _ rfl⟩,fun h1 h2 p k=>let ⟨o,ho,r⟩:=p;⟨o,k o ho,r⟩⟩
theorem Nb(K:Frag){apos:Pos}(ho:PE X o to)(hbase:attributeBase o "items" X.env (eval o X.env)=eval o X.env:=by rfl) (hline:(apos.endLine==pos.line)=true:=by rfl) (hK:X.K=K:=by rfl):
  PE X (.Call (.Attribute o "items" apos) [] [] pos) (DH K "dict" KD to):=by
 subst hK;exact Ky PySem.F.plainAttrs_dict PySem.F.slot_dict_items PySem.F.type_dict_items RV ho hbase hline
end
def Itd(d:Addr)(o:Obj)(kvs:List (Key×V)):It:=
 ⟨fun i H=>H d=some (.frz o (.dK kvs))/\i<kvs.length,fun i H x H'=>∃p k v,x=.ref p/\H p=none/\H'=upd H p (.tup [kV k,v])/\kvs[i]?=some (k,v),fun i H=>H d=some (.frz o (.dK kvs))/\kvs.length<=i⟩
def N2{k:Key}{u:Value}(h:xM k u=true):RelV (kV k) u:=by
 rcases vR h with⟨i,t,rfl,rfl⟩|⟨x,t,rfl,rfl⟩
 ·exact⟨t,rfl⟩
 ·exact⟨t,rfl⟩
def KV.get{kvs:List (Key×V)}{ws:List (Key×Value)}(rel:KV kvs ws):∀{i:Nat} {k:Key} {v:V},kvs[i]?=some (k,v)->∃u,ws[i]?=some (k,u)/\RelV v u:=by
 induction rel with
 |nil=>intro i k v h;simp at h
 | @cons a b l r hd tl ih=>
  intro i k v h;cases i with
  |zero=>
   have:a=(k,v):=by simpa using h
   subst this;obtain⟨b1,b2⟩:=b;obtain⟨h1,h2⟩:=hd;have:k=b1:=h1;subst this;exact⟨b2,rfl,h2⟩
  |succ i=>
   obtain⟨u,h1,h2⟩:=ih (i:=i) (k:=k) (v:=v) (by simpa using h);exact(⟨u,by simpa using h1,h2⟩)
theorem Pi{P:Program}{w:World}{K:Frag}{elts:List Expr}{k:Nat}{pos:Pos}{h0:Heap}{kvs:List (Key×V)}{ws:List (Key×Value)}{ep:Nat}{o:Obj}(d it:Addr)(rel:KV kvs ws)(ho:h0.get? d=some o)(hat:h0.DictAt (ul P w) d ws ep):
  Turn P w K (.Tuple elts k pos) (Itd d o kvs) [it] it (fun i h=>∃ok ov,IsItemIter h it d i ws.length ep ok ov) where
 mem:=by simp
 obj:=fun i h st b hb=>by
  obtain⟨ok,ov,he⟩:=st;rw[Xj.mp hb];exact⟨_,he,fun v z=>by cases z⟩
 keep:=fun i h h' st kk=>let ⟨ok,ov,he⟩:=st;⟨ok,ov,kk it (by simp) _ he⟩
 item:=by
  intro X hP hw hK hc i pins s B H E I hf st hg;subst hP hw hK;obtain⟨hH,hi⟩:=hg;obtain⟨hgo,_⟩:s.heap.get? d=some o/\_:=I.hok d _ hH;have hm:s.heap.DictAt (ul X.prog X.w) d ws ep:=hat.at' fun o' e=>by rw[ho] at e;cases e;exact hgo
  obtain⟨kk,v⟩:Key×V:=kvs[i];obtain⟨⟨k1,v1⟩,hx⟩:∃p,kvs[i]?=some p:=⟨kvs[i],by simp[hi]⟩
  obtain⟨u,hu,ru⟩:=rel.get hx;obtain⟨ok,ov,he⟩:=st;refine(wpAny_pyNext_items_item he hm hu fun key h1 hkey hout hT hsz hk=>?_);refine⟨_,rfl,wpAny_letOwnedTupleGo_items hout fun h2 he2 hs2=>?_⟩;have hlt:it<s.heap.objs.size:=WN he
  replace hs2:Heap.SameBut it h1 h2:=hs2
  have hT2:h2.get? s.heap.objs.size=some {cls:=.type "tuple",data:=.seq #[key,u]}:=(hs2.2 _ (Yn hlt)).trans hT;have hn:H s.heap.objs.size=none:=I.hok.fresh (WJ _);have I2:Inv X pins B (upd H s.heap.objs.size (.tup [kV k1,v1])) {s with heap:=h2,toks:=s.toks}:=
   I.turnLay (ch:=[it]) hf (fun b o hb q=>(hs2.2 b (fun z=>hb (by simp[z]))).trans (hk b o (fun z=>hb (by simp[z])) q)) (WJ _)
    ⟨D1,[key,u],.cons (N2 hkey) (.cons ru .nil),⟨_,hT2,rfl,_,rfl⟩⟩
  have f1:∀b∈[it],(upd H s.heap.objs.size (.tup [kV k1,v1])) b=none:=fun b hb=>by
   rw[Xj.mp hb,rG (W8 hlt)];exact(hf it (by simp)).1
  exact⟨.ref s.heap.objs.size,_,I2,rfl,⟨_,k1,v1,rfl,hn,rfl,hx⟩,⟨key,u,he2⟩,f1⟩
 done:=by
  intro X hP hw hK hc i pins s B H E I hf st hg;subst hP hw hK;obtain⟨hH,hi⟩:=hg;obtain⟨hgo,_⟩:s.heap.get? d=some o/\_:=I.hok d _ hH;have hm:s.heap.DictAt (ul X.prog X.w) d ws ep:=hat.at' fun o' e=>by rw[ho] at e;cases e;exact hgo
  obtain⟨ok,ov,he⟩:=st;have hl:kvs.length=ws.length:=rel.length;refine wpAny_pyNext_items_end (I.ok.hd hc) he hm (by simp;omega) fun h' eb=>⟨rfl,I.turns (t':=s.toks) (ch:=[it]) hf fun b o hb q=>eb b o (fun z=>hb (by simp[z])) q⟩
 self:=fun _ _ _ _ _ st h=>by
  obtain⟨ok,ov,he⟩:=st;exact(PySem.W.kcp_self he h)
def NJ(te:TE):TI:=fun B H R=>te B H fun x H1=>∃v d kvs,x=.ref v/\H1 v=some (viO v d)/\H1 d=some (.dK kvs)/\∀o,R (Itd d o kvs) (upd H1 d (.frz o (.dK kvs)))
def Ue{X:Cx}{e:Expr}{te:TE}{elts:List Expr}{k:Nat}{tpos:Pos}(he:PE X e te):PI X (.Tuple elts k tpos) e (NJ te):=by
 intro pins s B H R I h;refine thn (he pins s B H _ I h) fun u s1 hm=>?_;obtain⟨x,H1,I1,r1,v,d,kvs,ex,hv,hd,q⟩:=hm;subst ex;cases r1;obtain⟨z,hsys,ws,rel,dd⟩:=xB I1.hok hd;obtain⟨hvv,_,_⟩:s1.heap.IsItemsView v d/\_/\_:=I1.hok v _ hv;obtain⟨ep,hat⟩:=dd.dictAt;obtain⟨o,ho⟩:∃o,s1.heap.get? d=some o:=let ⟨o,_,_,h,_⟩:=dd;⟨o,h⟩
 refine(wpAny_pyIter_items hvv hat ?_);have nd:d≠s1.heap.objs.size:=W8 (WN ho);have I2:Inv X pins B (upd H1 d (.frz o (.dK kvs))) {s1 with heap:=s1.heap.push {cls:=.type "dict_itemiterator",data:=.fields #[.none,.bool false,.ref d,.int 0 0,.int ws.length 0,.int ep 0,.none,.none]},toks:=s1.toks}:=
  I1.write (x:=d) (e:=d) (by rw[hd];exact True.intro) (.inl rfl) (fun b q _ z=>WK _ z) ⟨o,WK _ ho⟩
   ⟨WK _ ho,z,hsys,ws,rel,dd.at fun o' e=>WK _ e⟩
 refine⟨_,[s1.heap.objs.size],_,_,_,rfl,I2,Pi d _ rel ho hat,⟨.none,.none,WR _ rfl⟩,fun b hb=>?_,q o⟩;rw[Xj.mp hb];exact I1.fpOk (WJ _) (by rw[rG (Ne.symm nd)];exact I1.hok.fresh (WJ _))
abbrev An:=Nat×Nat×Bool
def nb(as:List An)(x:Nat):List Nat:=as.flatMap fun a=>if a.2.2=true then(if x=a.1 then [a.2.1] else [])++(if x=a.2.1 then [a.1] else []) else []
def mem_nb{as:List An}{x y:Nat}:y∈nb as x↔(x,y,true)∈as\/(y,x,true)∈as:=by
 unfold nb;rw[List.mem_flatMap];constructor
 ·rintro⟨⟨i,j,b⟩,ha,h⟩;cases b with
  |false=>simp at h
  |true=>
   simp only[if_true,Xb] at h;rcases h with h|h
   ·split at h
    ·rename_i e;have:y=j:=by simpa using h
     subst this e;exact .inl ha
    ·simp at h
   ·split at h
    ·rename_i e;have:y=i:=by simpa using h
     subst this e;exact .inr ha
    ·simp at h
 ·rintro(h|h)
  ·exact⟨_,h,by simp⟩
  ·exact⟨_,h,by simp⟩
def QO{as:List An}{x y:Nat}(h:y∈nb as x):x∈nb as y:=mem_nb.mpr (mem_nb.mp h).symm
inductive Conn (as:List An):Nat->Nat->Prop where
 |refl (x:Nat):Conn as x x
 |step {x y z:Nat}:Conn as x y->z∈nb as y->Conn as x z
def Conn.trans{as:List An}{x y z:Nat}(h:Conn as x y)(g:Conn as y z):Conn as x z:=by
 induction g with
 |refl=>exact h
 |step _ e ih=>exact .step ih e
def Conn.one{as:List An}{x y:Nat}(h:y∈nb as x):Conn as x y:=.step (.refl x) h
def Conn.symm{as:List An}{x y:Nat}(h:Conn as x y):Conn as y x:=by
 induction h with
 |refl=>exact .refl _
 |step _ e ih=>exact(Conn.one (QO e)).trans ih
def Conn.mono{as bs:List An}{x y:Nat}(h:Conn as x y)(hm:∀a∈as,a∈bs):Conn bs x y:=by
 induction h with
 |refl=>exact .refl _
 |step _ e ih=>exact .step ih (mem_nb.mpr ((mem_nb.mp e).imp (hm _) (hm _)))
def rH(hs:List (Nat×Nat))(x:Nat):Option Nat:=(hs.find? fun p=>decide (p.1=x)).map (·.2)
def rL(hs:List (Nat×Nat))(x:Nat):List (Nat×Nat):=if(rH hs x).isSome=true then hs else hs++[(x,x)]
def sT(hs:List (Nat×Nat))(o n:Nat):List (Nat×Nat):=hs.map fun p=>(p.1,if p.2=o then n else p.2)
def uN(hs:List (Nat×Nat))(a:An):List (Nat×Nat):=
 let h2:=rL (rL hs a.1) a.2.1
 if a.2.2=true then sT h2 ((rH h2 a.2.1).getD 0) ((rH h2 a.1).getD 0) else h2
def sP(as:List An):List (Nat×Nat):=as.foldl uN []
def xF(hs:List (Nat×Nat))(x y:Nat):rH (rL hs x) y=if y=x then some ((rH hs x).getD x) else rH hs y:=by
 unfold rL;by_cases h:(rH hs x).isSome=true
 ·rw[if_pos h];obtain⟨v,e⟩:=XD.mp h;by_cases z:y=x
  ·subst z;rw[if_pos rfl,e];rfl
  ·rw[if_neg z]
 ·rw[if_neg h];have e:rH hs x=none:=by simpa using h
  unfold rH at e⊢;rw[List.find?_append];by_cases z:y=x
  ·subst z;rw[if_pos rfl];have e':hs.find? (fun p=>decide (p.1=y))=none:=by simpa using e
   rw[e'];simp
  ·rw[if_neg z];have:List.find? (fun p:Nat×Nat=>decide (p.1=y)) [(x,x)]=none:=by simp[Ne.symm z]
   rw[this];simp
def zW(hs:List (Nat×Nat))(o n x:Nat):rH (sT hs o n) x=(rH hs x).map fun r=>if r=o then n else r:=by
 unfold rH sT;induction hs with
 |nil=>rfl
 |cons p r ih=>
  rw[WT,WX,WX];by_cases z:p.1=x
  ·simp[z]
  ·simp only[z,decide_false];exact ih
structure HOkN (as:List An) (V:Nat->Option Nat):Prop where
 named:∀a∈as,(V a.1).isSome=true/\(V a.2.1).isSome=true
 con:∀x r,V x=some r->Conn as x r
 eq:∀x y,(x,y,true)∈as->V x=V y
def Kn(as:List An)(a:An):sP (as++[a])=uN (sP as) a:=by unfold sP;rw[List.foldl_append];rfl
def D5(as:List An):HOkN as (rH (sP as)):=by
 have key:∀(n:Nat) (as:List An),as.length=n->HOkN as (rH (sP as)):=by
  intro n;induction n with
  |zero=>
   intro as e;have:as=[]:=XY.mp e;subst this;exact⟨fun _ h=>by simp at h,fun x r h=>by simp[sP,rH] at h,fun _ _ h=>by simp at h⟩
  |succ n ih=>
   intro as e;have hne:as≠[]:=by intro z;subst z;simp at e
   obtain⟨bs,a,rfl⟩:∃bs a,as=bs++[a]:=⟨as.dropLast,as.getLast hne,(List.dropLast_concat_getLast hne).symm⟩
   have ih:=ih bs (by simpa using e);obtain⟨i,j,b⟩:=a;rw[Kn];generalize sP bs=hs at ih;have v2:∀y,rH (rL (rL hs i) j) y=if y=j then some ((rH (rL hs i) j).getD j) else if y=i then some ((rH hs i).getD i) else rH hs y:=fun y=>by rw[xF (rL hs i) j y,xF hs i y]
   have old:∀y,(rH hs y).isSome=true->rH (rL (rL hs i) j) y=rH hs y:=fun y hy=>by
    obtain⟨r,er⟩:=XD.mp hy;rw[v2 y];split
    ·rename_i z;subst z;rw[xF];split
     ·rename_i z;subst z;rw[er];rfl
     ·rw[er];rfl
    ·split
     ·rename_i z;subst z;rw[er];rfl
     ·rfl
   have mono:∀x y,Conn bs x y->Conn (bs++[(i,j,b)]) x y:=fun x y h=>h.mono fun a ha=>List.mem_append_left _ ha;have con2:∀x r,rH (rL (rL hs i) j) x=some r->Conn (bs++[(i,j,b)]) x r:=fun x r h=>by
    rw[v2 x] at h;split at h
    ·rename_i z;subst z;have h:=Xa h;rw[xF] at h;split at h
     ·rename_i z;subst z;cases e:rH hs x with
      |none=>rw[e] at h;rw[←h];exact .refl _
      |some r'=>rw[e] at h;have:r'=r:=h;subst this;exact mono _ _ (ih.con _ _ e)
     ·cases e:rH hs x with
      |none=>rw[e] at h;have:x=r:=h;subst this;exact .refl _
      |some r'=>rw[e] at h;have:r'=r:=h;subst this;exact mono _ _ (ih.con _ _ e)
    ·split at h
     ·rename_i z;subst z;have h:=Xa h;cases e:rH hs x with
      |none=>rw[e] at h;have:x=r:=h;subst this;exact .refl _
      |some r'=>rw[e] at h;have:r'=r:=h;subst this;exact mono _ _ (ih.con _ _ e)
     ·exact mono _ _ (ih.con _ _ h)
   have n1:∃r,rH (rL (rL hs i) j) i=some r:=by
    rw[v2 i];split
    ·exact⟨_,rfl⟩
    ·exact⟨_,if_pos rfl⟩
   have n2:∃r,rH (rL (rL hs i) j) j=some r:=⟨_,by rw[v2 j,if_pos rfl]⟩
   have named2:∀a∈bs++[(i,j,b)],(rH (rL (rL hs i) j) a.1).isSome=true/\(rH (rL (rL hs i) j) a.2.1).isSome=true:=fun a ha=>by
    rcases Xb.mp ha with z|z
    ·obtain⟨h1,h2⟩:=ih.named a z;rw[old _ h1,old _ h2];exact⟨h1,h2⟩
    ·have:a=(i,j,b):=by simpa using z
     subst this;obtain⟨r1,e1⟩:=n1;obtain⟨r2,e2⟩:=n2;exact⟨by rw[e1];rfl,by rw[e2];rfl⟩
   have eq2:∀x y,(x,y,true)∈bs->rH (rL (rL hs i) j) x=rH (rL (rL hs i) j) y:=fun x y h=>by
    obtain⟨h1,h2⟩:=ih.named _ h;rw[old x h1,old y h2];exact ih.eq x y h
   show HOkN _ (rH (if b=true then sT (rL (rL hs i) j) ((rH (rL (rL hs i) j) j).getD 0) ((rH (rL (rL hs i) j) i).getD 0) else rL (rL hs i) j));clear v2 old;generalize rL (rL hs i) j=h2 at*;cases b with
   |false=>
    refine⟨named2,con2,fun x y h=>?_⟩;rcases Xb.mp h with z|z
    ·exact eq2 x y z
    ·simp at z
   |true=>
    obtain⟨r1,e1⟩:=n1;obtain⟨r2,e2⟩:=n2;simp only[if_true,e1,e2,Option.getD_some];have cij:Conn (bs++[(i,j,true)]) i j:=Conn.one (mem_nb.mpr (.inl (by simp)));refine⟨fun a ha=>?_,fun x r h=>?_,fun x y h=>?_⟩
    ·rw[zW,zW,Option.isSome_map,Option.isSome_map];exact named2 a ha
    ·rw[zW] at h;obtain⟨r0,e0,er⟩:=Option.map_eq_some_iff.mp h;have c0:=con2 x r0 e0;split at er
     ·rename_i z;subst z er;exact c0.trans ((con2 j _ e2).symm.trans (cij.symm.trans (con2 i _ e1)))
     ·subst er;exact c0
    ·rw[zW,zW];rcases Xb.mp h with z|z
     ·rw[eq2 x y z]
     ·have:x=i/\y=j:=by simpa using z
      obtain⟨rfl,rfl⟩:=this;rw[e1,e2];simp only[Option.map_some,if_true];split
      ·rfl
      ·rfl
 exact key _ as rfl
def HOkN.conn{as:List An}{V:Nat->Option Nat}(h:HOkN as V){x y:Nat}(c:Conn as x y):V x=V y:=by
 induction c with
 |refl=>rfl
 |step _ e ih=>
  rw[ih];rcases mem_nb.mp e with z|z
  ·exact h.eq _ _ z
  ·exact(h.eq _ _ z).symm
def HOkN.iff{as:List An}{V:Nat->Option Nat}(h:HOkN as V){x y:Nat}(hx:(V x).isSome=true):V x=V y↔Conn as x y:=by
 refine⟨fun e=>?_,h.conn⟩;obtain⟨r,er⟩:=XD.mp hx;exact(h.con x r er).trans (h.con y r (by rw[←e];exact er)).symm
def sj(as:List An):Bool:=as.all fun a=>a.2.2||!decide (rH (sP as) a.1=rH (sP as) a.2.1)
structure Out (as:List An) (n t:Nat) (F:Nat->Option Nat):Prop where
 con:∀x r,F x=some r->Conn as x r/\r<t
 fin:∀x r y,F x=some r->y∈nb as x->F y=some r
 all:∀x,x<t->(F x).isSome=true
def left(as:List An)(F:Nat->Option Nat):Nat->Nat
 |0=>0
 |n+1=>left as F n+(if(F n).isSome=true then 0 else(nb as n).length)
section
variable {X:Cx} {a b o:Expr} {ta:TE} {p pos:Pos}
theorem VW(mr:X.mg "range"=none) (ha:PE X a ta) (hg:Gl X "range":=by rfl) (hs:starEach [a] X.env=[(false,eval a X.env)]:=by rfl):
  PE X (.Call (.Name "range" p) [a] [] pos) (fun B H Q=>ta B H fun x H1=>∃j:Int,x=.int j/\∀r,H1 r=none->Q (.ref r) (upd H1 r (.rng 0 j))):=by
 intro pins s B H Q I h;refine Call_ (vn I hg mr boot_range (Xy (thn (sJ ha tE hs pos pins s B H (fun vs H1=>∃x,vs=[x]/\∃j:Int,x=.int j/\∀r,H1 r=none->Q (.ref r) (upd H1 r (.rng 0 j))) I ?_) fun us s1 ⟨vs,H1,I1,r1,q1⟩=>?_) hs rfl))
 ·have:∀x H1,(∃j:Int,x=V.int j/\∀r,H1 r=none->Q (.ref r) (upd H1 r (.rng 0 j)))=(∃x',[x]=[x']/\∃j:Int,x'=V.int j/\∀r,H1 r=none->Q (.ref r) (upd H1 r (.rng 0 j))):=by
   intro x H1;exact propext ⟨fun q=>⟨x,rfl,q⟩,fun⟨x',e,q⟩=>by cases e;exact q⟩
  unfold ub u7;simp only[←this];exact h
 obtain⟨x,e,j,ex,q⟩:=q1;subst e ex;cases r1 with
 |cons r rr=>
  cases rr;obtain⟨t,rfl⟩:=r;refine(call_range_1 ?_);refine⟨.ref s1.heap.objs.size,_,I1.laid (o:=.rng 0 j) (fun b o e=>WK _ e) (WJ _) ?_,rfl,q _ (I1.hok.fresh (WJ _))⟩;exact⟨_,_,_,WR _ rfl⟩
end
def hNd(hs:List (Nat×Nat)):Prop:=(hs.map (·.1)).Nodup
def hVal_none{hs:List (Nat×Nat)}{x:Nat}:rH hs x=none↔x∉hs.map (·.1):=by
 unfold rH;rw[Option.map_eq_none_iff,XU];simp only[XO,Xm,not_exists,not_and]
def AK{hs:List (Nat×Nat)}(h:hNd hs)(x:Nat):hNd (rL hs x):=by
 unfold rL;split
 ·exact h
 ·rename_i e;have e:rH hs x=none:=by simpa using e
  unfold hNd;rw[XI,List.nodup_append];refine⟨h,by simp,fun y hy z hz=>?_⟩;have:z=x:=by simpa using hz
  subst this;exact fun q=>hVal_none.mp e (q▸hy)
def Jn(hs:List (Nat×Nat))(o n:Nat):(sT hs o n).map (·.1)=hs.map (·.1):=by simp[sT]
def Vk{hs:List (Nat×Nat)}(h:hNd hs)(a:An):hNd (uN hs a):=by
 have h2:=AK (AK h a.1) a.2.1;unfold uN;dsimp only;split
 ·unfold hNd;rw[Jn];exact h2
 ·exact h2
def AG(hs:List (Nat×Nat))(x:Nat):(rL hs x).length<=hs.length+1:=by
 unfold rL;split<;>simp
def R4(hs:List (Nat×Nat))(a:An):(uN hs a).length<=hs.length+2:=by
 have h1:=AG hs a.1;have h2:=AG (rL hs a.1) a.2.1;unfold uN;dsimp only;split
 ·unfold sT;rw[WQ];omega
 ·omega
def Qo(as:List An)(n:Nat)(a:An)(h:as[n]?=some a):sP (as.take (n+1))=uN (sP (as.take n)) a:=by
 rw[List.take_succ,h];exact Kn _ _
def T5(as:List An):hNd (sP as):=by
 have:∀(as:List An) (hs:List (Nat×Nat)),hNd hs->hNd (as.foldl uN hs):=by
  intro as;induction as with
  |nil=>exact fun _ h=>h
  |cons a r ih=>exact fun hs h=>ih _ (Vk h a)
 exact this as [] (by simp[hNd])
def VD(as:List An):(sP as).length<=2*as.length:=by
 have:∀(as:List An) (hs:List (Nat×Nat)),(as.foldl uN hs).length<=hs.length+2*as.length:=by
  intro as;induction as with
  |nil=>exact fun _=>by simp
  |cons a r ih=>
   intro hs;have h1:=ih (uN hs a);have h2:=R4 hs a;simp only[List.foldl_cons,Xi];omega
 have:=this as [];simpa[sP] using this
def HL{ps:List Addr}(h:ps.Nodup){i j:Nat}{p:Addr}(a:ps[i]?=some p)(b:ps[j]?=some p):i=j:=by
 obtain⟨l1,g1⟩:=WL.mp a;obtain⟨l2,g2⟩:=WL.mp b;rcases Nat.lt_trichotomy i j with z|z|z
 ·exact absurd (g1.trans g2.symm) ((XT.mp h) i j l1 l2 z)
 ·exact z
 ·exact absurd (g2.trans g1.symm) ((XT.mp h) j i l2 l1 z)
theorem OD(elt tg iter tg2 iter2:Expr)(ifs ifs2:List Expr)(scope:Scope)(pos:Pos)(it acc:Value)(env:Env):
  compTurn (.ListComp elt [⟨tg,iter,ifs,0⟩,⟨tg2,iter2,ifs2,0⟩] scope pos) 0 it acc env=(do
   standAt iter.pos
   match ←pyNext it with
   |none=>pure (.done .next)
   |some v=>
    letOwnedTupleGo tg it v
    assign tg env v
    let mut ok:=true
    for c in ifs do
     if ok then ok ←isTrue c env (eval c env)
    if ok then
     let x ←eval iter2 env
     standAt iter2.pos
     let x ←foldedSetIterable iter2 env x
     let _ ←runOwn (.compStart (.ListComp elt [⟨tg,iter,ifs,0⟩,⟨tg2,iter2,ifs2,0⟩] scope pos) 1 (←holding [x] (pyIter x)) acc env) env
    again (.compLoop (.ListComp elt [⟨tg,iter,ifs,0⟩,⟨tg2,iter2,ifs2,0⟩] scope pos) 0 it acc env)):=by rfl
theorem Pc(elt tg iter tg2 iter2:Expr)(ifs ifs2:List Expr)(scope:Scope)(pos:Pos)(it acc:Value)(env:Env):
  compTurn (.ListComp elt [⟨tg,iter,ifs,0⟩,⟨tg2,iter2,ifs2,0⟩] scope pos) 1 it acc env=(do
   standAt iter2.pos
   match ←pyNext it with
   |none=>pure (.done .next)
   |some v=>
    letOwnedTupleGo tg2 it v
    assign tg2 env v
    let mut ok:=true
    for c in ifs2 do
     if ok then ok ←isTrue c env (eval c env)
    if ok then
     (do let _ ←call (.builtin "list.append") [acc,←eval elt env])
    again (.compLoop (.ListComp elt [⟨tg,iter,ifs,0⟩,⟨tg2,iter2,ifs2,0⟩] scope pos) 1 it acc env)):=by rfl
section
variable {prog:Program} {w:World} {A:Around} {R:Result->Shared->Prop} {s:Shared} {elt tg iter tg2 iter2:Expr} {ifs ifs2:List Expr} {scope:Scope} {pos:Pos} {it acc:Value} {env:Env}
theorem Us(hs2:∀x,foldedSetIterable iter2 env x=pure x)(I:Nat->Shared->Prop)
  (turn:∀n s,I n s->wpAny (model prog w) A (pyNext it) (fun r ZT=>match r with
   |none=>R (.ok .next) ZT
   |some v=>wpAny (model prog w) A (letOwnedTupleGo tg it v) (fun _ ZA=>wpAny (model prog w) A (assign tg env v) (fun _ ZJ=>
     wpAny (model prog w) A (forIn ifs true fun c r=>if r=true then do let ok ←isTrue c env (eval c env);pure (ForInStep.yield ok) else pure (ForInStep.yield r)) (fun ok ZL=>
      if ok=true then wpAny (model prog w) A (eval iter2 env) (fun x ZG=>wpAny (model prog w) A (pyIter x) (fun it2 ZD=>
       wpAny (model prog w) A (runOwn (.compStart (.ListComp elt [⟨tg,iter,ifs,0⟩,⟨tg2,iter2,ifs2,0⟩] scope pos) 1 it2 acc env) env) (fun _ Zm=>∃m,m<n/\I m Zm) (fun _ _=>False) ZD) (fun _ _=>False) ZG) (fun _ _=>False) ZL
      else ∃m,m<n/\I m ZL) (fun _ _=>False) ZJ) (fun _ _=>False) ZA) (fun _ _=>False) ZT) (fun _ _=>False) s)
  (n:Nat) (h:I n s):codeAny (model prog w) A (.compLoop (.ListComp elt [⟨tg,iter,ifs,0⟩,⟨tg2,iter2,ifs2,0⟩] scope pos) 0 it acc env) R s:=by
 refine codeAny_loop rfl I (fun n s hI=>?_) n h;show wpAny _ A ((compTurn (.ListComp elt [⟨tg,iter,ifs,0⟩,⟨tg2,iter2,ifs2,0⟩] scope pos) 0 it acc env).onRaise (fun x=>do noteFrame x env;theTreesLotGoes x)) _ _ s;refine wpAny_noted ?_;rw[OD];refine WO (E:=fun _ _=>False) ?_ (fun _ _ x=>x) fun _ _ x=>x.elim;refine WH (XW (WH (WO (turn n s hI) (fun r ZT ZQ=>?_) fun _ _ h'=>h')));cases r with
 |none=>exact WM ZQ
 |some v=>
  refine WH (WO ZQ (fun _ ZA Zu=>?_) fun _ _ h'=>h');refine WH (WO Zu (fun _ ZJ ZB=>WH (WO ZB (fun ok ZL ZE=>?_) fun _ _ h'=>h')) fun _ _ h'=>h');cases ok with
  |false=>exact WM ⟨rfl,ZE⟩
  |true=>exact WH (WO ZE (fun x ZG Zt=>WH (XW (WH (wpAny_of_eq (hs2 x) (WH (XV (WO Zt (fun it2 ZD Zs=>WH (WO Zs (fun _ Zm Zk=>WM ⟨rfl,Zk⟩) fun _ _ h'=>h')) fun _ _ h'=>h'))))))) fun _ _ h'=>h')
theorem UA(I:Nat->Shared->Prop)
  (turn:∀n s,I n s->wpAny (model prog w) A (pyNext it) (fun r ZT=>match r with
   |none=>R (.ok .next) ZT
   |some v=>wpAny (model prog w) A (letOwnedTupleGo tg2 it v) (fun _ ZA=>wpAny (model prog w) A (assign tg2 env v) (fun _ ZJ=>
     wpAny (model prog w) A (forIn ifs2 true fun c r=>if r=true then do let ok ←isTrue c env (eval c env);pure (ForInStep.yield ok) else pure (ForInStep.yield r)) (fun ok ZL=>
      if ok=true then wpAny (model prog w) A (eval elt env) (fun x ZG=>
       wpAny (model prog w) A (call (.builtin "list.append") [acc,x]) (fun _ ZD=>∃m,m<n/\I m ZD) (fun _ _=>False) ZG) (fun _ _=>False) ZL
      else ∃m,m<n/\I m ZL) (fun _ _=>False) ZJ) (fun _ _=>False) ZA) (fun _ _=>False) ZT) (fun _ _=>False) s)
  (n:Nat) (h:I n s):codeAny (model prog w) A (.compLoop (.ListComp elt [⟨tg,iter,ifs,0⟩,⟨tg2,iter2,ifs2,0⟩] scope pos) 1 it acc env) R s:=by
 refine codeAny_loop rfl I (fun n s hI=>?_) n h;show wpAny _ A ((compTurn (.ListComp elt [⟨tg,iter,ifs,0⟩,⟨tg2,iter2,ifs2,0⟩] scope pos) 1 it acc env).onRaise (fun x=>do noteFrame x env;theTreesLotGoes x)) _ _ s;refine wpAny_noted ?_;rw[Pc];refine WO (E:=fun _ _=>False) ?_ (fun _ _ x=>x) fun _ _ x=>x.elim;refine WH (XW (WH (WO (turn n s hI) (fun r ZT ZQ=>?_) fun _ _ h'=>h')));cases r with
 |none=>exact WM ZQ
 |some v=>
  refine WH (WO ZQ (fun _ ZA Zu=>?_) fun _ _ h'=>h');refine WH (WO Zu (fun _ ZJ ZB=>WH (WO ZB (fun ok ZL ZE=>?_) fun _ _ h'=>h')) fun _ _ h'=>h');cases ok with
  |false=>exact WM ⟨rfl,ZE⟩
  |true=>
   exact WH (WH (WO ZE (fun x ZG Zt=>WH (WO Zt (fun _ ZD Zs=>WM (WM ⟨rfl,Zs⟩)) fun _ _ h'=>h')) fun _ _ h'=>h'))
theorem Uf(h0:codeAny (model prog w) A (.compLoop (.ListComp elt [⟨tg,iter,ifs,0⟩,⟨tg2,iter2,ifs2,0⟩] scope pos) 1 it acc env) R s)
  (h:wpAny (model prog w) A (pyIter it) (fun it' s'=>codeAny (model prog w) A (.compLoop (.ListComp elt [⟨tg,iter,ifs,0⟩,⟨tg2,iter2,ifs2,0⟩] scope pos) 1 it' acc env) R s')
   (notedBy (model prog w) A env fun x s'=>R (.error x) s') s):
  codeAny (model prog w) A (.compStart (.ListComp elt [⟨tg,iter,ifs,0⟩,⟨tg2,iter2,ifs2,0⟩] scope pos) 1 it acc env) R s:=by
 refine codeAny_of_tree ?_;show wpAny _ _ ((compStart (.ListComp elt [⟨tg,iter,ifs,0⟩,⟨tg2,iter2,ifs2,0⟩] scope pos) 1 it acc env).onRaise (fun x=>do noteFrame x env;standAt theWindowsPlace)) _ _ s;refine wpAny_notedAt ?_;unfold compStart;show wpAny _ _ (ask >>= _) _ _ s;refine WH (wpAny_askSetting (wpAny_ite ?_));split
 ·first
   |exact WH (WM (WM (And.intro rfl h0)))
   |exact WM (And.intro rfl h0)
 ·first
   |exact WH (wpAny_rule (WH (XW (WH (WO h (fun it' s' h'=>WM (And.intro rfl h')) fun _ _ x=>x)))))
   |(refine WH (wpAny_rule ?_);show wpAny _ _ (standAt iter2.pos >>= _) _ _ s;exact WH (XW (WH (WO h (fun it' s' h'=>WM (And.intro rfl h')) fun _ _ x=>x))))
end
def CO(Z6:It)(g:TG)(tc:TT)(te:TE)(D:Addr)(ZN:St)(H0:Hp)(Z:St->Hp->Prop):Prop:=
 ∃W:Nat->Nat->St->Hp->Prop,(∃m,W 0 m ZN H0)/\∀i m B H,W i m B H->
  (Z6.stop i H/\Z B H)\/(Z6.go i H/\∃N:St->Hp->Prop,(∀ZZ H',N ZZ H'->∃m',m'<m/\W (i+1) m' ZZ H')/\∀x H',Z6.yld i H x H'->g x B H' fun ZV H2=>tc ZV H2 fun b H3=>
   if b=true then te ZV H3 fun v H4=>∃ys,H4 D=some (.lst ys)/\ys.length<sizeLine/\N ZV (upd H4 D (.lst (ys++[v]))) else N ZV H3)
def yp(Z6:It)(g:TG)(tc:TT)(wi2:TI)(g2:TG)(tc2:TT)(te:TE)(D:Addr)(ZN:St)(H0:Hp)(Z:Hp->Prop):Prop:=
 ∃W:Nat->Nat->St->Hp->Prop,(∃m,W 0 m ZN (upd H0 D (.lst [])))/\∀i m B H,W i m B H->
  (Z6.stop i H/\Z H)\/(Z6.go i H/\∃N:St->Hp->Prop,(∀ZZ H',N ZZ H'->∃m',m'<m/\W (i+1) m' ZZ H')/\∀x H',Z6.yld i H x H'->g x B H' fun ZV H2=>tc ZV H2 fun b H3=>
   if b=true then wi2 ZV H3 fun J2 H4=>CO J2 g2 tc2 te D ZV H4 N else N ZV H3)
section
variable {X:Cx} {pins:QS} {B:St} {N' own:List Str} {cap:List (Str×Nat)} {scope:Scope} {tg iter elt tg2 iter2:Expr} {ifs ifs2:List Expr} {pos:Pos} {g g2:TG} {tc tc2:TT} {te:TE} {wi wi2:TI}
theorem Wu{s:Shared}{H:Hp}{D:Addr}{Z:St->Hp->Prop}(hx:∀e s,X.xe e s->False)(hc:X.calm=true)(hi:PI X tg2 iter2 wi2)(hg:PG X tg2 g2)(ht:PIf X ifs2 tc2)(he:PE X elt te)
  (I:Inv X pins B H s) (h:wi2 B H fun Z6 H1=>CO Z6 g2 tc2 te D B H1 Z):
  wpAny (model X.prog X.w) X.A (eval iter2 X.env) (fun x ZG=>wpAny (model X.prog X.w) X.A (pyIter x) (fun it2 ZD=>
   wpAny (model X.prog X.w) X.A (runOwn (.compStart (.ListComp elt [⟨tg,iter,ifs,0⟩,⟨tg2,iter2,ifs2,0⟩] scope pos) 1 it2 (.ref D) X.env) X.env) (fun _ s'=>∃ZZ H',Inv X pins ZZ H' s'/\Z ZZ H') (fun _ _=>False) ZD) (fun _ _=>False) ZG) (fun _ _=>False) s:=by
 have noX:∀{J:Type} {t:Sem J} {Q:J->Shared->Prop} {s:Shared},wpAny (model X.prog X.w) X.A t Q X.xe s->wpAny (model X.prog X.w) X.A t Q (fun _ _=>False) s:=fun q=>WO q (fun _ _ z=>z) fun e s z=>hx e s z;refine noX (thn (hi pins s B H _ I h) fun v s1 h1=>?_);refine noX (thn h1 fun itv s2 h2=>?_);obtain⟨it,fp,tn,Z6,H2,e,I2,T,st2,f2,W,⟨m0,w0⟩,turn⟩:=h2;subst e;have stat:∀{H':Hp},(∀b∈fp,H' b=none)->∀b∈fp,sE X pins H' b:=fun hn b hb=>⟨hn b hb,(f2 b hb).2⟩
 refine(wpAny_runOwn ?_);have loop:codeAny (model X.prog X.w) X.A (.compLoop (.ListComp elt [⟨tg,iter,ifs,0⟩,⟨tg2,iter2,ifs2,0⟩] scope pos) 1 (.ref it) (.ref D) X.env)
   (fun r s'=>match r with| .ok f=>∃ZZ H',Inv X pins ZZ H' s'/\Z ZZ H'| .error e=>cameBackBy (model X.prog X.w) X.A X.env (fun _ _=>False) e s') s2:=by
  obtain⟨P,hP⟩:∃P:Nat->Shared->Prop,∀n s',P n s'↔∃i ZZ H',Inv X pins ZZ H' s'/\tn i s'.heap/\(∀b∈fp,H' b=none)/\W i n ZZ H':=⟨_,fun _ _=>Iff.rfl⟩
  refine UA P ?_ m0 ((hP _ _).2 ⟨0,B,H2,I2,st2,fun b hb=>(f2 b hb).1,w0⟩);rintro n s3 h3;obtain⟨i,ZH,H3,I3,st3,fr3,w3⟩:=(hP _ _).1 h3;rcases turn i n ZH H3 w3 with⟨stop,qz⟩|⟨go,N,hN,step⟩
  ·refine WO (T.done X rfl rfl rfl hc i pins s3 ZH H3 (fun _ _=>False) I3 (stat fr3) st3 stop) (fun r s4 ⟨hr,I4⟩=>?_) fun _ _ z=>z;subst hr;exact⟨ZH,H3,I4,qz⟩
  ·refine WO (T.item X rfl rfl rfl hc i pins s3 ZH H3 (fun _ _=>False) I3 (stat fr3) st3 go) (fun r s4 ⟨u,hr,h4⟩=>?_) fun _ _ z=>z;subst hr;refine WO h4 (fun _ s5 hm=>?_) fun _ _ z=>z;obtain⟨x,H5,I5,r5,y5,st5,fr5⟩:=hm;have I5':=I5.pinned (stat fr5) (T.obj _ _ st5);have again:∀{ZS:St} {H7:Hp} {s7:Shared},Inv X (pins++wU fp s5.heap) ZS H7 s7->N ZS H7->∃m,m<n/\P m s7:=fun{ZS H7 s7} I7 n7=>by
    obtain⟨m',hm,w7⟩:=hN ZS H7 n7;refine(⟨m',hm,(hP _ _).2 ⟨i+1,ZS,H7,I7.unpinned,T.keep _ _ _ st5 fun b hb o e=>(I7.pin (b,o) (WU _ (WU _ (vF hb e)))).1,fun b hb=>?_,w7⟩⟩);obtain⟨o,e,d⟩:=T.obj _ _ st5 b hb;exact((I7.pin (b,o) (WU _ (WU _ (vF hb e)))).2.1)
   refine noX (thn (hg _ s5 ZH H5 x u _ I5' r5 (step x H5 y5)) fun _ s6 hm=>?_);obtain⟨Zq,H6,I6,q6⟩:=hm;refine(noX (thn (ht _ s6 Zq H6 _ I6 q6) fun b s7 hm=>?_));obtain⟨H7,I7,q7⟩:=hm;cases b with
   |false=>
    show ∃m,_;exact again I7 q7
   |true=>
    show wpAny _ _ _ _ _ _;refine noX (thn (he _ s7 Zq H7 _ I7 q7) fun y s8 hm=>?_);obtain⟨v,H8,I8,r8,ys,hy,hz,q8⟩:=hm;refine(noX (thn (E8 (X:=X) _ s8 Zq H8 (.ref D) [v] (.ref D) [y] (fun _ H'=>N Zq H') I8 rfl (.cons r8 .nil) ⟨_,ys,v,rfl,rfl,hy,hz,q8⟩) fun _ s9 hm=>?_));obtain⟨_,H9,I9,_,q9⟩:=hm;exact(again I9 q9)
 exact Uf loop (T.self _ 0 _ _ _ st2 loop)
theorem VM{Y:Cx}{s:Shared}{ZN:St}{H2:Hp}{it D:Addr}{fp:List Addr}{tn:Nat->Heap->Prop}{Z6:It}{Z:Hp->Prop}{R:Result->Shared->Prop}(hs2:∀x,foldedSetIterable iter2 Y.env x=pure x)
  (hx:∀e s,Y.xe e s->False) (hc:Y.calm=true) (hg:PG Y tg g) (ht:PIf Y ifs tc) (hi2:PI Y tg2 iter2 wi2) (hg2:PG Y tg2 g2) (ht2:PIf Y ifs2 tc2) (he:PE Y elt te)
  (T:Turn Y.prog Y.w Y.K tg Z6 fp it tn) (J0:Inv Y [] ZN (upd H2 D (.lst [])) s) (st3:tn 0 s.heap) (f3:∀b∈fp,upd H2 D (.lst []) b=none)
  (stat:∀{H':Hp},(∀b∈fp,H' b=none)->∀b∈fp,sE Y [] H' b) (h:yp Z6 g tc wi2 g2 tc2 te D ZN H2 Z)
  (hR:∀ZP H4 s5,Inv Y [] ZP H4 s5->Z H4->R (.ok .next) s5):
  codeAny (model Y.prog Y.w) Y.A (.compLoop (.ListComp elt [⟨tg,iter,ifs,0⟩,⟨tg2,iter2,ifs2,0⟩] scope pos) 0 (.ref it) (.ref D) Y.env) R s:=by
 obtain⟨W,⟨m0,w0⟩,turn⟩:=h;have noX:∀{J:Type} {t:Sem J} {Q:J->Shared->Prop} {s:Shared},wpAny (model Y.prog Y.w) Y.A t Q Y.xe s->wpAny (model Y.prog Y.w) Y.A t Q (fun _ _=>False) s:=fun q=>WO q (fun _ _ z=>z) fun e s z=>hx e s z;obtain⟨P,hP⟩:∃P:Nat->Shared->Prop,∀n s',P n s'↔∃i ZZ H',Inv Y [] ZZ H' s'/\tn i s'.heap/\(∀b∈fp,H' b=none)/\W i n ZZ H':=⟨_,fun _ _=>Iff.rfl⟩
 refine Us hs2 P ?_ m0 ((hP _ _).2 ⟨0,_,_,J0,st3,f3,w0⟩);rintro n s4 h4;obtain⟨i,ZP,H4,I4,st4,fr4,w4⟩:=(hP _ _).1 h4;rcases turn i n ZP H4 w4 with⟨stop,qz⟩|⟨go,N,hN,step⟩
 ·refine WO (T.done Y rfl rfl rfl hc i [] s4 ZP H4 (fun _ _=>False) I4 (stat fr4) st4 stop) (fun r s5 ⟨hr,I5⟩=>?_) fun _ _ z=>z;subst hr;exact hR ZP H4 s5 I5 qz
 ·refine WO (T.item Y rfl rfl rfl hc i [] s4 ZP H4 (fun _ _=>False) I4 (stat fr4) st4 go) (fun r s5 ⟨u,hr,h5⟩=>?_) fun _ _ z=>z;subst hr;refine WO h5 (fun _ s6 hm=>?_) fun _ _ z=>z;obtain⟨x,H6,I6,r6,y6,st6,fr6⟩:=hm;have I6':=I6.pinned (stat fr6) (T.obj _ _ st6);have again:∀{ZS:St} {H7:Hp} {s7:Shared},Inv Y ([]++wU fp s6.heap) ZS H7 s7->N ZS H7->∃m,m<n/\P m s7:=fun{ZS H7 s7} I7 n7=>by
   obtain⟨m',hm,w7⟩:=hN ZS H7 n7;refine(⟨m',hm,(hP _ _).2 ⟨i+1,ZS,H7,I7.unpinned,T.keep _ _ _ st6 fun b hb o e=>(I7.pin (b,o) (WU _ (WU _ (vF hb e)))).1,fun b hb=>?_,w7⟩⟩);obtain⟨o,e,d⟩:=T.obj _ _ st6 b hb;exact((I7.pin (b,o) (WU _ (WU _ (vF hb e)))).2.1)
  refine noX (thn (hg _ s6 ZP H6 x u _ I6' r6 (step x H6 y6)) fun _ s7 hm=>?_);obtain⟨ZS,H7,I7,q7⟩:=hm;refine(noX (thn (ht _ s7 ZS H7 _ I7 q7) fun b s8 hm=>?_));obtain⟨H8,I8,q8⟩:=hm;cases b with
  |false=>
   show ∃m,_;exact again I8 q8
  |true=>
   show wpAny _ _ _ _ _ _;refine WO (Wu (X:=Y) hx hc hi2 hg2 ht2 he I8 q8) (fun _ _ z=>WO z (fun _ _ z=>WO z (fun _ s9 ⟨Y4,H9,I9,q9⟩=>again I9 q9) fun _ _ z=>z) fun _ _ z=>z) fun _ _ z=>z
theorem MH{s2:Shared}{H2:Hp}{it:Addr}{fp:List Addr}{tn:Nat->Heap->Prop}{Z6:It}{cl:List (Str×Addr)}{Z:Addr->Hp->Prop}{RR:Value->Addr->Result->Shared->Prop}{E:OK}
  (hx:∀e s,X.xe e s->False) (hc:X.calm=true) (S:CompScope X N' own cap scope)
  (hg:∀cl C Z2 Z0 ex,PG (rq X N' scope cl C Z2 Z0 ex) tg g) (ht:∀cl C Z2 Z0 ex,PIf (rq X N' scope cl C Z2 Z0 ex) ifs tc) (hi2:∀cl C Z2 Z0 ex,PI (rq X N' scope cl C Z2 Z0 ex) tg2 iter2 wi2) (hg2:∀cl C Z2 Z0 ex,PG (rq X N' scope cl C Z2 Z0 ex) tg2 g2) (ht2:∀cl C Z2 Z0 ex,PIf (rq X N' scope cl C Z2 Z0 ex) ifs2 tc2) (he:∀cl C Z2 Z0 ex,PE (rq X N' scope cl C Z2 Z0 ex) elt te) (hs2:∀cl C x,foldedSetIterable iter2 (compEnvC scope cl C X.env) x=pure x)
  (I2:Inv X pins B H2 s2) (T:Turn X.prog X.w X.K tg Z6 fp it tn) (st2:tn 0 s2.heap) (f2:∀b∈fp,sE X pins H2 b)
  (c1:∀y c,cl.lookup y=some c->X.env.cells.lookup y=some c) (c2:∀y,(y,NameKind.free)∈scope.names->∃c,cl.lookup y=some c)
  (h:∀D,H2 D=none->yp Z6 g tc wi2 g2 tc2 te D (tw own cap B) H2 (Z D))
  (hRR:∀D C s' m' H',Inv X pins B H' s'->s'.heap.Ns C m'->sE X pins H' C->Z D H'->RR (.ref D) C (.ok .next) s'):
  wpAny (model X.prog X.w) X.A (newList []) (fun acc ZL=>wpAny (model X.prog X.w) X.A (newFunctionEnv scope X.env.globals cl [] X.env.qual none .none (some X.env)) (fun cenv ZG=>
   codeAny (model X.prog X.w) X.A (.compStart (.ListComp elt [⟨tg,iter,ifs,0⟩,⟨tg2,iter2,ifs2,0⟩] scope pos) 0 (.ref it) acc {cenv with scope:=relabel scope X.env}) (RR acc cenv.locals) ZG) E ZL) E s2:=by
 have hlt:∀b∈fp,b<s2.heap.objs.size:=fun b hb=>by
  obtain⟨o,e,_⟩:=T.obj _ _ st2 b hb;exact(WN e)
 have hD:H2 s2.heap.objs.size=none:=I2.hok.fresh (WJ _);refine XE (CY (fun ZQ Zz Zy Zx=>?_));dsimp only at Zz Zy Zx⊢;have I3:Inv X pins B (upd H2 s2.heap.objs.size (.lst [])) {s2 with heap:=s2.heap.push {cls:=.type "list",dict:=none,data:=.seq ([]:List Value).toArray},toks:=s2.toks}:=
  I2.laid (fun b o e=>WK _ e) (WJ _) ⟨XJ _,[],0,.nil,WR _ rfl⟩
 generalize hs3:({s2 with heap:=s2.heap.push {cls:=.type "list",dict:=none,data:=.seq ([]:List Value).toArray},toks:=s2.toks}:Shared)=s3 at I3;have e3:s2.heap.push {cls:=.type "list",dict:=none,data:=.seq ([]:List Value).toArray}=s3.heap:=by rw[←hs3]
 have hsz:s3.heap.objs.size=s2.heap.objs.size+1:=by rw[←e3,XG]
 rw[e3] at Zz Zy Zx⊢;have hk:=Zy;have hcl:∀y c,cl.lookup y=some c->¬s3.heap.objs.size<c:=fun y c e z=>by
  obtain⟨v,o,ho,_⟩:=I3.cell y c (c1 y c e);exact(Xp _ (Nat.lt_trans z (WN ho)))
 have CA:CellsAre X scope s3.heap.objs.size cl (cellsFrom (s3.heap.objs.size+1) scope.names cl):=Eg (h:=s3.heap.push {cls:=.type "dict",data:=.dict #[]}) (by rw[XG]) S hcl;have hcell:∀y c,(cellsFrom (s3.heap.objs.size+1) scope.names cl).lookup y=some c->s3.heap.objs.size<c->ZQ.IsCell c none:=fun y c e z=>by
  rw[vw,wF] at e;cases q:(cellsFrom (s3.heap.objs.size+1) scope.names []).lookup y with
  |none=>rw[q] at e;exact absurd z (hcl y c e)
  |some c'=>
   rw[q] at e;have:c'=c:=Xa e;subst this;exact Zx y c' (Xr q)
 generalize hcs:cellsFrom (s3.heap.objs.size+1) scope.names cl=cs at CA hcell⊢;have f3:∀b∈fp,sE X pins (upd H2 s2.heap.objs.size (.lst [])) b:=fun b hb=>⟨by rw[rG (W8 (hlt b hb))];exact(f2 b hb).1,(f2 b hb).2⟩
 have hlt3:∀b∈fp,b<s3.heap.objs.size:=fun b hb=>by rw[hsz];exact Ym (hlt b hb)
 have st3:tn 0 ZQ:=T.keep _ _ _ st2 fun b hb o e=>hk b o (by rw[←e3];exact WK _ e);have J0:Inv (rq X N' scope cs s3.heap.objs.size s3 (upd H2 s2.heap.objs.size (.lst [])) fp) [] (tw own cap B) (upd H2 s2.heap.objs.size (.lst [])) {s3 with heap:=ZQ,toks:=s2.toks}:=
  comp_inv I3 S CA hcell c1 c2 f3 hlt3 hk Zz
 have stat:∀{pl:QS} {H':Hp},pl=[]->(∀b∈fp,H' b=none)->∀b∈fp,sE (rq X N' scope cs s3.heap.objs.size s3 (upd H2 s2.heap.objs.size (.lst [])) fp) pl H' b:=fun{pl H'} hp hn b hb=>by
  subst hp;refine⟨hn b hb,W8 (hlt3 b hb),J0.ok.exfs b hb,.inl hb,fun x c e=>J0.ok.exf b hb |>.2 x c e,fun p hp=>absurd hp (by show p∉([]++[]:QS);simp)⟩
 have loop:codeAny (model X.prog X.w) X.A (.compLoop (.ListComp elt [⟨tg,iter,ifs,0⟩,⟨tg2,iter2,ifs2,0⟩] scope pos) 0 (.ref it) (.ref s2.heap.objs.size) (compEnvC scope cs s3.heap.objs.size X.env)) (RR (.ref s2.heap.objs.size) s3.heap.objs.size)
   {s3 with heap:=ZQ,toks:=s2.toks}:=VM (Y:=rq X N' scope cs s3.heap.objs.size s3 (upd H2 s2.heap.objs.size (.lst [])) fp) (hs2 _ _) hx hc (hg _ _ _ _ _) (ht _ _ _ _ _) (hi2 _ _ _ _ _) (hg2 _ _ _ _ _) (ht2 _ _ _ _ _) (he _ _ _ _ _) T J0 st3 (fun b hb=>(f3 b hb).1) (stat rfl) (h _ hD) fun ZP H4 s5 I5 qz=>by
  have I6:Inv X pins B H4 s5:=I3.call' (ch:=fp) I5.os I5.base I5.hok I5.bare fun b hb=>⟨(f3 b hb).2.2.2.1,(f3 b hb).2.1,(f3 b hb).2.2.2.2.1,(f3 b hb).2.2.2.2.2⟩
  obtain⟨m',hn',_⟩:=I5.loc;exact(hRR _ _ s5 m' H4 I6 hn' (I3.fpOk (WJ _) I5.free) qz)
 have lp:codeAny (model X.prog X.w) X.A (.compStart (.ListComp elt [⟨tg,iter,ifs,0⟩,⟨tg2,iter2,ifs2,0⟩] scope pos) 0 (.ref it) (.ref s2.heap.objs.size) (compEnvC scope cs s3.heap.objs.size X.env)) (RR (.ref s2.heap.objs.size) s3.heap.objs.size)
   {s3 with heap:=ZQ,toks:=s2.toks}:=codeAny_compStart_list loop (T.self _ 0 _ _ _ st3 loop)
 subst hs3;exact lp
theorem RJ(S:CompScope X N' own cap scope)(hi:PI X tg iter wi)
  (hg:∀cl C Z2 Z0 ex,PG (rq X N' scope cl C Z2 Z0 ex) tg g) (ht:∀cl C Z2 Z0 ex,PIf (rq X N' scope cl C Z2 Z0 ex) ifs tc)
  (hi2:∀cl C Z2 Z0 ex,PI (rq X N' scope cl C Z2 Z0 ex) tg2 iter2 wi2) (hg2:∀cl C Z2 Z0 ex,PG (rq X N' scope cl C Z2 Z0 ex) tg2 g2) (ht2:∀cl C Z2 Z0 ex,PIf (rq X N' scope cl C Z2 Z0 ex) ifs2 tc2)
  (he:∀cl C Z2 Z0 ex,PE (rq X N' scope cl C Z2 Z0 ex) elt te)
  (hx:∀e s,X.xe e s->False:=by exact fun _ _ z=>z) (hc:X.calm=true:=by rfl) (hs:∀x,foldedSetIterable iter X.env x=pure x:=by intro _;rfl) (hs2:∀cl C x,foldedSetIterable iter2 (compEnvC scope cl C X.env) x=pure x:=by intro _ _ _;rfl):
  PE X (.ListComp elt [⟨tg,iter,ifs,0⟩,⟨tg2,iter2,ifs2,0⟩] scope pos) (fun B H Q=>wi B H fun Z6 H1=>∀D,H1 D=none->yp Z6 g tc wi2 g2 tc2 te D (tw own cap B) H1 (Q (.ref D))):=by
 intro pins s B H Q I h;rw[eval_ListComp];obtain⟨cl,hcl,c1,c2⟩:=Aj (scope:=scope) (env:=X.env) fun y hy hk=>I.ok.has y.1 (S.free y hy hk);refine(XX (use:=none) rfl hs hcl S.kind S.names (thn (hi pins s B H _ I h) fun v s1 h1=>thn h1 fun itv s2 h2=>?_));obtain⟨it,fp,tn,Z6,H2,e,I2,T,st2,f2,q⟩:=h2;subst e;refine(MH (RR:=fun acc C=>compPost (model X.prog X.w) X.A X.xe none (EP X pins B Q) acc C) (Z:=fun D=>Q (.ref D)) hx hc S hg ht hi2 hg2 ht2 he hs2 I2 T st2 f2 c1 c2 q ?_);intro D C s' m' H' I' hn' f' z;exact⟨m',hn',fun h'' hs''=>⟨.ref D,H',I'.letgo f' hs'',rfl,z⟩⟩
theorem Rp{i:Nat}{y:Str}{py spos:Pos}(hN:X.N.Nodup)(hi':X.N[i]?=some y)(hy:X.env.scope.names.lookup y=some .local)(S:CompScope X N' own cap scope)(hi:PI X tg iter wi)
  (hg:∀cl C Z2 Z0 ex,PG (rq X N' scope cl C Z2 Z0 ex) tg g) (ht:∀cl C Z2 Z0 ex,PIf (rq X N' scope cl C Z2 Z0 ex) ifs tc)
  (hi2:∀cl C Z2 Z0 ex,PI (rq X N' scope cl C Z2 Z0 ex) tg2 iter2 wi2) (hg2:∀cl C Z2 Z0 ex,PG (rq X N' scope cl C Z2 Z0 ex) tg2 g2) (ht2:∀cl C Z2 Z0 ex,PIf (rq X N' scope cl C Z2 Z0 ex) ifs2 tc2)
  (he:∀cl C Z2 Z0 ex,PE (rq X N' scope cl C Z2 Z0 ex) elt te)
  (hsw:swapsWith (.ListComp elt [⟨tg,iter,ifs,0⟩,⟨tg2,iter2,ifs2,0⟩] scope pos) (some (.Name y py)) spos.line X.env=pure true:=by rfl)
  (hx:∀e s,X.xe e s->False:=by exact fun _ _ z=>z) (hc:X.calm=true:=by rfl) (hs:∀x,foldedSetIterable iter X.env x=pure x:=by intro _;rfl) (hs2:∀cl C x,foldedSetIterable iter2 (compEnvC scope cl C X.env) x=pure x:=by intro _ _ _;rfl):
  PS X (.Assign [.Name y py] (.ListComp elt [⟨tg,iter,ifs,0⟩,⟨tg2,iter2,ifs2,0⟩] scope pos) spos) (fun D B H=>wi B H fun Z6 H1=>∀p,H1 p=none->yp Z6 g tc wi2 g2 tc2 te p (tw own cap B) H1 (fun H2=>D.nx (B.set i (some (.ref p))) H2)):=by
 intro pins s B H D I h;obtain⟨cl,hcl,c1,c2⟩:=Aj (scope:=scope) (env:=X.env) fun y hy hk=>I.ok.has y.1 (S.free y hy hk);rw[exec_Assign_Name_used _ _ _ _ hsw];refine WH (XW (WH ?_));show wpAny _ _ (do let _ ←comprehension (.ListComp elt [⟨tg,iter,ifs,0⟩,⟨tg2,iter2,ifs2,0⟩] scope pos) scope X.env _ (newList []) false (eval iter X.env) (some (assign (.Name y py) X.env))) _ _ s;refine WH (WO (XX (use:=some (assign (.Name y py) X.env)) (Q:=fun _ s'=>SP X pins D .next s') rfl hs hcl S.kind S.names
  (thn (hi pins s B H _ I h) fun v s1 h1=>thn h1 fun itv s2 h2=>?_)) (fun _ s' hq=>WM (WM hq)) fun _ _ e=>e)
 obtain⟨it,fp,tn,Z6,H2,e,I2,T,st2,f2,q⟩:=h2;subst e;refine(MH (RR:=fun acc C=>compPost (model X.prog X.w) X.A X.xe (some (assign (.Name y py) X.env)) (fun _ s'=>SP X pins D .next s') acc C) (Z:=fun p H2=>D.nx (B.set i (some (.ref p))) H2) hx hc S hg ht hi2 hg2 ht2 he hs2 I2 T st2 f2 c1 c2 q ?_);intro p C s' m' H' I' hn' f' z;show wpAny _ _ (assign (.Name y py) X.env (.ref p)) _ _ _;refine wpAny_assign_Name (FY I' hN hi' (.inl hy) (v:=.ref p) rfl (fun s'' I'' hm=>?_) (.inr hy));obtain⟨a,hsb,ha⟩:=hm;have hCa:C≠a:=by
  rcases ha with z|z
  ·rw[z];exact f'.2.1
  ·exact fun e=>f'.2.2.2.2.1 y a z e.symm
 refine⟨m',hn'.sameBut hsb hCa,fun h3 hs3=>?_⟩;exact⟨_,H',I''.letgo f' hs3,z⟩
end
def xa(ns:List Int):Nat:=(firstMet (fun i=>ns.getD i 0) ns.length).length
end L2
namespace L2
open PySem PySem.W PySem.Spec PySem.Calls PyProof.Rows PySem.Builtin PySem.Builtin.ObjectAttr PySem.Builtin.Getset_descriptor
def SE(e D:Addr):HO:=.ext fun h=>∃o,h.get? e=some o/\o.cls=.ref D
def PJ(X:Cx)(es:List Expr)(t:St->Hp->(Hp->Prop)->Prop):Prop:=
 ∀(pins:QS) (s:Shared) (B:St) (H:Hp) (Q:Hp->Prop) (acc:Str) (n:Nat),acc.length<=n->n+2000*es.length<=1000000->Inv X pins B H s->t B H Q->
  wpAny (model X.prog X.w) X.A (joinParts acc (evalEach es X.env)) (fun u s'=>∃z t H',u=.str z t/\Inv X pins B H' s'/\Q H') X.xe s
section
variable {X:Cx} {e e2:Expr} {es:List Expr} {te:TE} {t:St->Hp->(Hp->Prop)->Prop} {p pos:Pos}
theorem U7:PJ X [] (fun _ H Q=>Q H):=fun pins s B H Q acc n h1 h2 I h=>joinParts_nil ⟨acc,_,H,rfl,I.tok _,h⟩ (by rw[Yf];simp at h2;omega)
theorem Qy{x:Str}{j:Nat}(hx:x.length<=2000)(hr:PJ X es t):PJ X (.Constant (.str x) j p::es) t:=by
 intro pins s B H Q acc n h1 h2 I h;have hl:(acc++x).length<=n+2000:=by rw[strLen_append];omega
 simp only[Xi] at h2;show wpAny _ _ (joinParts acc (eval (.Constant (.str x) j p) X.env::evalEach es X.env)) _ _ s;refine joinParts_cons (thn (K5 pins s B H (fun v H'=>v=.str x/\H'=H) I ⟨rfl,rfl⟩) fun u s1 hm=>?_);obtain⟨v,H1,I1,r1,e1,e2⟩:=hm;subst e1 e2;obtain⟨tk,rfl⟩:=r1;exact⟨by rw[Yf];omega,hr pins s1 B _ Q _ (n+2000) hl (by omega) I1 h⟩
theorem OH(he:PE X e te)(hr:PJ X es t):PJ X (.FormattedValue e (-1) none p::es) (fun B H Q=>te B H fun v H1=>∃i,v=.int i/\i.natAbs.log2<1920/\t B H1 Q):=by
 intro pins s B H Q acc n h1 h2 I h;simp only[Xi] at h2;show wpAny _ _ (joinParts acc (eval (.FormattedValue e (-1) none p) X.env::evalEach es X.env)) _ _ s;refine joinParts_cons (FormattedValue_plain (thn (he pins s B H _ I h) fun u s1 hm=>?_));obtain⟨v,H1,I1,r1,i,ev,hi,q⟩:=hm;subst ev;obtain⟨tk,rfl⟩:=r1;refine(formatField_int_small hi ?_);have hz:=int_text_len_1921 hi;have hl:(acc++Str.ofString (toString i)).length<=n+2000:=by rw[strLen_append];omega
 exact⟨by rw[Yf];omega,hr pins _ B H1 Q _ (n+2000) hl (by omega) (I1.tok _) q⟩
theorem N0(h:PJ X (e::e2::es) t)(hl:(e::e2::es).length<=400:=by decide):PE X (.JoinedStr (e::e2::es) pos) (fun B H Q=>t B H fun H1=>∀z,Q (.str z) H1):=by
 intro pins s B H Q I q;refine JoinedStr_many ?_;refine thn (h pins s B H _ Str.empty 0 (XJ _) (by omega) I q) fun u s' hm=>?_;obtain⟨z,tk,H',eu,I',q'⟩:=hm;exact(⟨.str z,H',I',⟨tk,eu⟩,q' z⟩)
end
end L2
namespace L2
open PySem PySem.Spec PyProof.Rows
def ObjOk.there{P:Program}{w:World}{H:Hp}{h:Heap}{a:Addr}{o:HO}(x:ObjOk P w H h a o):∃ob,h.get? a=some ob:=by
 cases o with
 |lst xs=>obtain⟨_,_,_,_,e⟩:=x;exact⟨_,e⟩
 |tup xs=>obtain⟨_,_,_,p⟩:=x;obtain⟨ob,e,_⟩:=p;exact⟨_,e⟩
 |dK kvs=>obtain⟨_,_,_,_,o,_,_,e,_⟩:=x;exact⟨_,e⟩
 |dT kvs=>obtain⟨_,_,_,_,o,_,_,e,_⟩:=x;exact⟨_,e⟩
 |set S n=>obtain⟨o,_,_,_,e,_⟩:=x;exact⟨_,e⟩
 |ins C dx fs=>obtain⟨_,_,_,e,_⟩:=x;exact⟨_,e⟩
 |own y=>obtain⟨_,e⟩:=x;exact⟨_,e⟩
 |xd fs=>obtain⟨_,⟨_,_,_,e,_⟩,_⟩:=x;exact⟨_,e⟩
 |rng lo hi=>obtain⟨_,_,_,e⟩:=x;exact⟨_,e⟩
 |frz ob u=>obtain⟨e,_⟩:=x;exact⟨_,e⟩
 |tbl ps=>exact⟨_,(show h.get? a=some _ from x)⟩
 |met f y=>exact⟨_,(show h.get? a=some _ from x)⟩
 |ext φ=>obtain⟨_,e,_⟩:=x;exact e
structure Flew (P:Program) (w:World) (outer:List Env) (H H':Hp) (s:Shared) (e:Addr) (C:Value) (Z7:Heap) (s':Shared):Prop where
 os:s'.os=s.os
 bare:AllBare s'.gens
 un:Un (frs outer) [] H H' s.heap s'.heap
 hok:HOk P w H' s'.heap
 trk:∀b o,s'.heap.get? b=some o->H' b≠none->Z7.get? b=some o
 old:∀b o,s.heap.get? b=some o->H b=none->b∉frs outer->Z7.get? b=some o
 thr:∀b o,s.heap.get? b=some o->b∉frs outer->∃o',Z7.get? b=some o'
 frf:∀b∈frs outer,H b=none
 unt:H' e=none
 new:s.heap.get? e=none
 fly:∃a0,Heap.FlyingW Z7 outer e C a0 s'.heap
def CXr(P:Program)(w:World):CXT:=fun outer H s E e s'=>∃(a:Addr) (C:Value) (H':Hp) (Z7:Heap),e=.ref a/\Flew P w outer H H' s a C Z7 s'/\E C none H'
section
variable {P:Program} {w:World} {outer:List Env} {H H':Hp} {s s':Shared} {e:Addr} {C:Value} {Z7:Heap}
theorem Flew.to{h2:Heap}(F:Flew P w outer H H' s e C Z7 s')(hB:Z7.StaysIn h2)(hs:s'.heap.UpToSlots h2):Un (frs outer) [] H H' s.heap h2/\HOk P w H' h2/\∀b o,h2.get? b=some o->H' b≠none->Z7.get? b=some o:=by
 obtain⟨a0,fl⟩:=F.fly;have kp:∀b o,s.heap.get? b=some o->H b=none->b∉frs outer->h2.get? b=some o:=fun b o x n hb=>hB b o (F.old b o x n hb);have sl:∀b o,s.heap.get? b=some o->H b=none->b∈frs outer->∃sl,h2.get? b=some {o with slots:=sl}:=fun b o x n hb=>by
  obtain⟨sl,e1⟩:=F.un.slot b o x n hb (by simp);obtain⟨_,o',e2,d⟩:=fl.2.2.1.mem hb;rw[e1] at e2;cases e2;obtain⟨sl',e3⟩:=hs b {o with slots:=sl} e1 d;exact(⟨sl',e3⟩)
 refine⟨⟨fun b o x n hb _=>kp b o x n hb,fun b o x n hb _=>sl b o x n hb,F.un.free,fun b o x _=>?_,F.un.tups,F.un.frzs,F.un.tbls⟩,fun a u eu=>?_,fun b o x n=>?_⟩
 ·by_cases hb:b∈frs outer
  ·obtain⟨l,e1⟩:=sl b o x (F.frf b hb) hb;exact⟨_,e1⟩
  ·obtain⟨o',e1⟩:=F.thr b o x hb;exact⟨o',hB b o' e1⟩
 ·refine(F.hok a u eu).stay (fun b v hb q=>hB b v (F.trk b v q ?_)) (fun _ q=>q) fun _ _ q=>q;rcases hb with z|z
  ·rw[z,eu];simp
  ·rw[z];simp
 ·cases eu:H' b with
  |none=>exact absurd eu n
  |some u=>
   obtain⟨o1,e1⟩:=(F.hok b u eu).there;have e2:=F.trk b o1 e1 n;have e3:=hB b o1 e2;rw[x] at e3;cases e3;exact(e2)
theorem Flew.next{h2:Heap}(F:Flew P w outer H H' s e C Z7 s')(hs:s'.heap.UpToSlots h2)(fl:∃a0,Heap.FlyingW Z7 outer e C a0 h2):Flew P w outer H H' s e C Z7 {s' with heap:=h2}:=by
 obtain⟨a0,fl⟩:=fl;obtain⟨u,k,t⟩:=F.to fl.1 hs;exact(⟨F.os,F.bare,u,k,t,F.old,F.thr,F.frf,F.unt,F.new,a0,fl⟩)
theorem Flew.inv{X:Cx}{pins:QS}{B:St}(F:Flew X.prog X.w X.stack H H' s e C Z7 s')(I:Inv X pins B H s):Inv X pins B H' s':=
 I.call' (ch:=[]) F.os F.un F.hok F.bare fun _ z=>nomatch z
end
section
variable {P:Program} {w:World} {K:Frag} {mg:Str->Option Value} {base:Heap} {N:List Str} {qual:Str} {scope:Scope} {f:Addr} {cd:Value} {A:Around} {outer:List Env} {s s1:Shared} {H H1:Hp} {E E':XK}
 {pins:QS} {B:St}
theorem Nk{h':Heap}{e C:Addr}{vs:List Value}(I:Inv (rV (CXr P w) P w K mg base N qual scope f cd A outer s H E) pins B H1 s1)(hx:Heap.MadeExcOf s1.heap h' e (.ref C) vs)(hE:E (.ref C) none H1):
  (rV (CXr P w) P w K mg base N qual scope f cd A outer s H E).xe (.ref e) {s1 with heap:=h'}:=by
 have fs:∀b,b∈frs (envOfC qual scope s.heap.objs.size f cd::outer)->H1 b=none:=I.stkFree;have inn:∀b o,s1.heap.get? b=some o->b∉frs (envOfC qual scope s.heap.objs.size f cd::outer)->(PySem.W.hideAll s1.heap (frs (envOfC qual scope s.heap.objs.size f cd::outer))).get? b=some o:=fun b o e hb=>PySem.W.hideAll_get _ e hb;have out:∀b o,s.heap.get? b=some o->b∉frs outer->b∉frs (envOfC qual scope s.heap.objs.size f cd::outer):=fun b o e hb z=>by
  have z:b∈s.heap.objs.size::frs outer:=z;rcases Xd.mp z with q|q
  ·rw[q] at e;exact Xp _ (WN e)
  ·exact hb q
 have frf:∀b∈frs outer,H b=none:=I.ok.frf;have hin:∀env∈(envOfC qual scope s.heap.objs.size f cd::outer),∀a,env.frame=some a->a∈frs (envOfC qual scope s.heap.objs.size f cd::outer):=fun env he a ha=>List.mem_filterMap.mpr ⟨env,he,ha⟩;show wpAny (model P w) (A.deeper (envOfC qual scope s.heap.objs.size f cd)) (leaving (envOfC qual scope s.heap.objs.size f cd) (.ref e)) _ _ _;refine wpAny_leaves_madeW (base:=PySem.W.hideAll s1.heap (frs (envOfC qual scope s.heap.objs.size f cd::outer))) I.ok.frames rfl (fun b o q=>PySem.W.of_hideAll _ q) (PySem.W.funFrames_hide I.stack hin) hx fun h2 t fl _ _ ups=>?_;have hB:=fl.1;have sl:∀b o,s.heap.get? b=some o->H b=none->b∈frs outer->∃sl,h2.get? b=some {o with slots:=sl}:=fun b o x n hb=>by
  obtain⟨sl,e1⟩:=I.base.slot b o x n hb (by simp[rV]);obtain⟨_,o',e2,d⟩:=I.stack.mem (show b∈s.heap.objs.size::frs outer from Xs _ hb);rw[e1] at e2;cases e2;obtain⟨sl',e3⟩:=ups b {o with slots:=sl} (hx.keeps b {o with slots:=sl} e1) d;exact(⟨sl',e3⟩)
 have old:∀b o,s.heap.get? b=some o->H b=none->b∉frs outer->(PySem.W.hideAll s1.heap (frs (envOfC qual scope s.heap.objs.size f cd::outer))).get? b=some o:=fun b o x n hb=>
  inn b o (I.base.keep b o x n hb (by simp[rV])) (out b o x hb)
 have thr:∀b o,s.heap.get? b=some o->b∉frs outer->∃o',(PySem.W.hideAll s1.heap (frs (envOfC qual scope s.heap.objs.size f cd::outer))).get? b=some o':=fun b o x hb=>by
  obtain⟨o',e1⟩:=I.base.there b o x (by simp[rV]);exact(⟨o',inn b o' e1 (out b o x hb)⟩)
 have nfr:∀b,H1 b≠none->b∉frs (envOfC qual scope s.heap.objs.size f cd::outer):=fun b n z=>n (fs b z);refine⟨e,.ref C,H1,_,rfl,⟨I.os,I.bare,⟨fun b o x n hb _=>hB b o (old b o x n hb),fun b o x n hb _=>sl b o x n hb,fun b o x n _=>I.base.free b o x n (by simp[rV]),fun b o x _=>?_,I.base.tups,I.base.frzs,I.base.tbls⟩,fun a u eu=>?_,fun b o x n=>?_,old,thr,frf,?_,?_,_,fl⟩,hE⟩
 ·by_cases hb:b∈frs outer
  ·obtain⟨l,e1⟩:=sl b o x (frf b hb) hb;exact⟨_,e1⟩
  ·obtain⟨o',e1⟩:=thr b o x hb;exact⟨o',hB b o' e1⟩
 ·refine(I.hok a u eu).stay (fun b v hb q=>hB b v (inn b v q (nfr b ?_))) (fun _ q=>q) fun _ _ q=>q;rcases hb with z|z
  ·rw[z,eu];simp
  ·rw[z];simp
 ·cases eu:H1 b with
  |none=>exact absurd eu n
  |some u=>
   obtain⟨o1,e1⟩:=(I.hok b u eu).there;have e2:=inn b o1 e1 (nfr b n);have e3:=hB b o1 e2;rw[x] at e3;cases e3;exact(e2)
 ·cases eu:H1 e with
  |none=>rfl
  |some u=>
   obtain⟨o1,e1⟩:=(I.hok e u eu).there;rw[hx.new] at e1;cases e1
 ·cases eo:s.heap.get? e with
  |none=>rfl
  |some o=>
   obtain⟨o1,e1⟩:=I.base.there e o eo (by simp[rV]);rw[hx.new] at e1;cases e1
theorem Np(hE:∀C d H',E' C d H'->E C d H'):xy (CXr P w) (rV (CXr P w) P w K mg base N qual scope f cd A outer s H E) E':=by
 intro pins B H1 s1 e s' I hc;obtain⟨a,C,H',Z7,rfl,F,q⟩:=hc;have F:Flew P w (envOfC qual scope s.heap.objs.size f cd::outer) H1 H' s1 a C Z7 s':=F;obtain⟨a0,fl⟩:=F.fly;have I2:Inv (rV (CXr P w) P w K mg base N qual scope f cd A outer s H E) pins B H' s':=Flew.inv (X:=rV (CXr P w) P w K mg base N qual scope f cd A outer s H E) F I;have out:∀b o,s.heap.get? b=some o->b∉frs outer->b∉frs (envOfC qual scope s.heap.objs.size f cd::outer):=fun b o e hb z=>by
  have z:b∈s.heap.objs.size::frs outer:=z;rcases Xd.mp z with q|q
  ·rw[q] at e;exact Xp _ (WN e)
  ·exact hb q
 obtain⟨f1,f2,⟨_,_,f3⟩,f4⟩:=id fl;have G:Flew P w outer H H' s a C Z7 s':=by
  refine⟨I2.os,F.bare,⟨fun b o x n hb _=>I2.base.keep b o x n hb (by simp[rV]),fun b o x n hb _=>I2.base.slot b o x n hb (by simp[rV]),fun b o x n _=>I2.base.free b o x n (by simp[rV]),fun b o x _=>I2.base.there b o x (by simp[rV]),I2.base.tups,I2.base.frzs,I2.base.tbls⟩,F.hok,F.trk,
   fun b o x n hb=>F.old b o (I.base.keep b o x n hb (by simp[rV])) (I.base.free b o x n (by simp[rV])) (out b o x hb),fun b o x hb=>?_,I.ok.frf,F.unt,?_,a0,f1,f2,f3,f4⟩
  ·obtain⟨o1,e1⟩:=I.base.there b o x (by simp[rV]);exact F.thr b o1 e1 (out b o x hb)
  ·cases eo:s.heap.get? a with
   |none=>rfl
   |some o=>
    obtain⟨o1,e1⟩:=I.base.there a o eo (by simp[rV]);rw[F.new] at e1;cases e1
 show wpAny (model P w) (A.deeper (envOfC qual scope s.heap.objs.size f cd)) (leaving (envOfC qual scope s.heap.objs.size f cd) (.ref a)) _ _ _;exact wpAny_leaves_onW I.ok.frames rfl fl fun h2 fl2 ups=>⟨a,C,H',Z7,rfl,G.next ups ⟨_,fl2⟩,hE C none H' q⟩
end
end L2
namespace L3
open PySem PySem.Spec L2
inductive D where
 |non|bl (b:Bool)|int (i:Int)|str (x:Str)|lst (xs:List D)|scr (xs:List D)|tup (xs:List D)|gt (xs:List D)|ref (k:Nat)
inductive Z8 where
 |lst (xs:List D)|dK (kvs:List (Key×D))|dN (kvs:List (NK×D))|ins (C:Addr) (fs:List (Str×D))|exc (C:Addr)
abbrev M:=List (Option Z8)
abbrev Fr:=Option (D×M)
abbrev C0:=List D->M->Fr
abbrev G:=List (Option D)
structure Wd where
 ρ:List Addr
 L:M
 H:Hp
 hid:Addr->Prop
def SqF(K:Frag)(H:Hp)(a:Addr)(xs:List V):Prop:=(∃o,H a=some (.frz o (.lst xs)))\/
  ∃(o:Obj) (its:Array Value) (n:Nat),K.lookup a=some o/\o.cls=.type "list"/\o.dict=none/\o.data=.seq its n/\its.size<=sizeLine/\Vals xs its.toList
def SqF.seq{K:Frag}{H:Hp}{a:Addr}{xs:List V}(h:SqF K H a xs):SqL K H a xs:=by
 rcases h with h|h
 ·exact .inl (.inr h)
 ·exact .inr h
def RL(W:Wd)(a:Addr):Prop:=∃(k:Nat) (o:Z8),W.L[k]?=some (some o)/\W.ρ[k]?=some a
def zk(W:Wd)(a:Addr):Prop:=RL W a\/W.hid a
mutual
inductive DR (K:Frag) (W:Wd):D->V->Prop where
 |non:DR K W .non .non
 |bl (b:Bool):DR K W (.bl b) (.bl b)
 |int (i:Int):DR K W (.int i) (.int i)
 |str (x:Str):DR K W (.str x) (.str x)
 |ref {k:Nat} {a:Addr}:W.ρ[k]?=some a->DR K W (.ref k) (.ref a)
 |lst {a:Addr} {vs:List V} {ds:List D}:W.H a=some (.lst vs)->¬zk W a->DRs K W ds vs->DR K W (.lst ds) (.ref a)
 |scr {a:Addr} {vs:List V} {ds:List D}:SqF K W.H a vs->DRs K W ds vs->DR K W (.scr ds) (.ref a)
 |tup {a:Addr} {vs:List V} {ds:List D}:W.H a=some (.tup vs)->DRs K W ds vs->DR K W (.tup ds) (.ref a)
 |gt {a:Addr} {vs:List V} {ds:List D}:SqT K W.H a vs->DRs K W ds vs->DR K W (.gt ds) (.ref a)
inductive DRs (K:Frag) (W:Wd):List D->List V->Prop where
 |nil:DRs K W [] []
 |cons {d:D} {v:V} {ds:List D} {vs:List V}:DR K W d v->DRs K W ds vs->DRs K W (d::ds) (v::vs)
end
def KR(K:Frag)(W:Wd):List (Key×D)->List (Key×V)->Prop:=Paired fun p q=>p.1=q.1/\DR K W p.2 q.2
def NR(K:Frag)(W:Wd):List (NK×D)->List (NK×V)->Prop:=Paired fun p q=>p.1=q.1/\DR K W p.2 q.2
def FR(K:Frag)(W:Wd):List (Str×D)->List (Str×V)->Prop:=Paired fun p q=>p.1=q.1/\DR K W p.2 q.2
def OR(K:Frag)(W:Wd)(a:Addr):Z8->HO->Prop
 | .lst ds,ho=>∃vs,ho=.lst vs/\DRs K W ds vs
 | .dK kvs,ho=>∃vs,ho=.dK vs/\KR K W kvs vs
 | .dN kvs,ho=>∃vs,ho=.dT vs/\NR K W kvs vs
 | .ins C fs,ho=>∃vs,(∃dx,ho=.ins C dx vs)/\FR K W fs vs
 | .exc C,ho=>ho=SE a C
structure Ok (K:Frag) (W:Wd):Prop where
 len:W.ρ.length=W.L.length
 nd:W.ρ.Nodup
 rs:∀a∈W.ρ,W.H a≠none
 at_:∀(k:Nat) (o:Z8),W.L[k]?=some (some o)->∃a ho,W.ρ[k]?=some a/\W.H a=some ho/\OR K W a o ho
 hd0:∀a,W.hid a->W.H a≠none/\a∉W.ρ
def Ok.hd{K:Frag}{W:Wd}(ok:Ok K W):∀a,W.hid a->W.H a≠none/\¬RL W a:=fun a z=>⟨(ok.hd0 a z).1,fun⟨_,_,_,h⟩=>(ok.hd0 a z).2 (List.mem_of_getElem? h)⟩
structure Step (W W':Wd):Prop where
 ρ:∀(k:Nat) a,W.ρ[k]?=some a->W'.ρ[k]?=some a
 live:∀a,RL W' a->RL W a\/W.H a=none
 keep:∀a o,W.H a=some o->¬RL W a->W'.H a=some o
 hid:W'.hid=W.hid
 still:∀a,W.H a≠none->W'.H a≠none
structure EnvR (K:Frag) (W:Wd) (O:G) (B:St):Prop where
 len:O.length=B.length
 at_:∀(i:Nat) d,O[i]?=some (some d)->∃v,B[i]?=some (some v)/\DR K W d v
section
variable {K:Frag} {W W' W'':Wd} {O:G} {B:St}
theorem Step.refl:Step W W:=⟨fun _ _ h=>h,fun _ h=>.inl h,fun _ _ h _=>h,rfl,fun _ h=>h⟩
theorem Step.nlive(s:Step W W'){a:Addr}{o:HO}(h:W.H a=some o)(n:¬RL W a):¬RL W' a:=fun z=>by
 rcases s.live a z with z|z
 ·exact n z
 ·rw[h] at z;cases z
theorem Step.trans(s:Step W W')(t:Step W' W''):Step W W'' where
 ρ k a h:=t.ρ k a (s.ρ k a h)
 live a h:=by
  rcases t.live a h with z|z
  ·exact s.live a z
  ·exact .inr (XS fun n=>s.still a n z)
 keep a o h n:=t.keep a o (s.keep a o h n) (s.nlive h n)
 hid:=t.hid.trans s.hid
 still a h:=t.still a (s.still a h)
theorem Step.nLive(s:Step W W'){a:Addr}{o:HO}(h:W.H a=some o)(n:¬zk W a):¬zk W' a:=fun z=>by
 rcases z with z|z
 ·exact s.nlive h (fun q=>n (.inl q)) z
 ·rw[s.hid] at z;exact n (.inr z)
theorem Qk(s:Step W W'){a:Addr}{u:HO}(n:¬RL W a)(r:Rd W.H a u):Rd W'.H a u:=by
 rcases r with h|⟨o,h⟩
 ·exact .inl (s.keep _ _ h n)
 ·exact .inr ⟨o,s.keep _ _ h n⟩
theorem Ok.notup(ok:Ok K W){a:Addr}{vs:List V}(r:Rd W.H a (.tup vs)):¬RL W a:=fun⟨k,o,hk,ha⟩=>by
 obtain⟨a',ho,h1,h2,h3⟩:=ok.at_ k o hk;rw[ha] at h1;cases h1;rcases r with h|⟨q,h⟩
 ·rw[h2] at h;cases o with
  |lst ds=>obtain⟨ws,rfl,_⟩:=h3;cases h
  |dK kvs=>obtain⟨ws,rfl,_⟩:=h3;cases h
  |dN kvs=>obtain⟨ws,rfl,_⟩:=h3;cases h
  |ins C fs=>obtain⟨ws,⟨dx,rfl⟩,_⟩:=h3;cases h
  |exc C=>cases (show _=_ from h3);cases h
 ·rw[h2] at h;cases o with
  |lst ds=>obtain⟨ws,rfl,_⟩:=h3;cases h
  |dK kvs=>obtain⟨ws,rfl,_⟩:=h3;cases h
  |dN kvs=>obtain⟨ws,rfl,_⟩:=h3;cases h
  |ins C fs=>obtain⟨ws,⟨dx,rfl⟩,_⟩:=h3;cases h
  |exc C=>cases (show _=_ from h3);cases h
theorem Hq(ok:Ok K W)(s:Step W W'){a:Addr}{vs:List V}(h:SqT K W.H a vs):SqT K W'.H a vs:=by
 rcases h with h|h
 ·exact .inl (Qk s (ok.notup h) h)
 ·exact .inr h
theorem Ok.nofrz(ok:Ok K W){a:Addr}{u:HO}{q:Obj}(h:W.H a=some (.frz q u)):¬RL W a:=fun⟨k,o,hk,ha⟩=>by
 obtain⟨a',ho,h1,h2,h3⟩:=ok.at_ k o hk;rw[ha] at h1;cases h1;rw[h2] at h;cases o with
 |lst ds=>obtain⟨ws,rfl,_⟩:=h3;cases h
 |dK kvs=>obtain⟨ws,rfl,_⟩:=h3;cases h
 |dN kvs=>obtain⟨ws,rfl,_⟩:=h3;cases h
 |ins C fs=>obtain⟨ws,⟨dx,rfl⟩,_⟩:=h3;cases h
 |exc C=>cases (show _=_ from h3);cases h
theorem J1(ok:Ok K W)(s:Step W W'){a:Addr}{vs:List V}(h:SqF K W.H a vs):SqF K W'.H a vs:=by
 rcases h with⟨o,h⟩|h
 ·exact .inl ⟨o,s.keep _ _ h (ok.nofrz h)⟩
 ·exact .inr h
mutual
theorem DR.step(ok:Ok K W)(s:Step W W'):∀{d:D} {v:V},DR K W d v->DR K W' d v
 |_,_,.non=>.non
 |_,_,.bl b=>.bl b
 |_,_,.int i=>.int i
 |_,_,.str x=>.str x
 |_,_,.ref h=>.ref (s.ρ _ _ h)
 |_,_,.lst r n h=>.lst (s.keep _ _ r (fun z=>n (.inl z))) (s.nLive r n) (DRs.step ok s h)
 |_,_,.scr r h=>.scr (J1 ok s r) (DRs.step ok s h)
 |_,_,.tup r h=>.tup (s.keep _ _ r (ok.notup (.inl r))) (DRs.step ok s h)
 |_,_,.gt r h=>.gt (Hq ok s r) (DRs.step ok s h)
theorem DRs.step(ok:Ok K W)(s:Step W W'):∀{ds:List D} {vs:List V},DRs K W ds vs->DRs K W' ds vs
 |_,_,.nil=>.nil
 |_,_,.cons h t=>.cons (h.step ok s) (DRs.step ok s t)
end
theorem KR.step(ok:Ok K W)(s:Step W W'){kvs:List (Key×D)}{vs:List (Key×V)}(h:KR K W kvs vs):KR K W' kvs vs:=Paired.mapP h fun _ _ ⟨e,q⟩=>⟨e,q.step ok s⟩
theorem NR.step(ok:Ok K W)(s:Step W W'){kvs:List (NK×D)}{vs:List (NK×V)}(h:NR K W kvs vs):NR K W' kvs vs:=Paired.mapP h fun _ _ ⟨e,q⟩=>⟨e,q.step ok s⟩
theorem FR.step(ok:Ok K W)(s:Step W W'){kvs:List (Str×D)}{vs:List (Str×V)}(h:FR K W kvs vs):FR K W' kvs vs:=Paired.mapP h fun _ _ ⟨e,q⟩=>⟨e,q.step ok s⟩
theorem OR.step(ok:Ok K W)(s:Step W W'){a:Addr}{o:Z8}{ho:HO}(h:OR K W a o ho):OR K W' a o ho:=by
 cases o with
 |lst ds=>obtain⟨vs,e,q⟩:=h;exact⟨vs,e,q.step ok s⟩
 |dK kvs=>obtain⟨vs,e,q⟩:=h;exact⟨vs,e,q.step ok s⟩
 |dN kvs=>obtain⟨vs,e,q⟩:=h;exact⟨vs,e,q.step ok s⟩
 |ins C fs=>obtain⟨vs,e,q⟩:=h;exact⟨vs,e,q.step ok s⟩
 |exc C=>exact h
theorem EnvR.step(e:EnvR K W O B)(ok:Ok K W)(s:Step W W'):EnvR K W' O B:=⟨e.len,fun i d h=>let ⟨v,a,b⟩:=e.at_ i d h;⟨v,a,b.step ok s⟩⟩
theorem DRs.length:∀{ds:List D} {vs:List V},DRs K W ds vs->ds.length=vs.length
 |_,_,.nil=>rfl
 |_,_,.cons _ t=>by simp[t.length]
theorem DRs.get:∀{ds:List D} {vs:List V} {i:Nat} {d:D},DRs K W ds vs->ds[i]?=some d->∃v,vs[i]?=some v/\DR K W d v
 |_,_,_,_,.nil,e=>by simp at e
 |_,_,0,_,.cons h _,e=>by simp at e;subst e;exact⟨_,rfl,h⟩
 |_,_,i+1,d,.cons _ t,e=>by
  obtain⟨v,h1,h2⟩:=DRs.get (i:=i) (d:=d) t (by simpa using e);exact(⟨v,by simpa using h1,h2⟩)
theorem DRs.append:∀{ds es:List D} {vs us:List V},DRs K W ds vs->DRs K W es us->DRs K W (ds++es) (vs++us)
 |_,_,_,_,.nil,s=>s
 |_,_,_,_,.cons h t,s=>.cons h (DRs.append t s)
theorem DRs.take:∀{ds:List D} {vs:List V} (n:Nat),DRs K W ds vs->DRs K W (ds.take n) (vs.take n)
 |_,_,0,_=>.nil
 |_,_,_+1,.nil=>.nil
 |_,_,n+1,.cons r t=>.cons r (DRs.take n t)
theorem DRs.drop:∀{ds:List D} {vs:List V} (n:Nat),DRs K W ds vs->DRs K W (ds.drop n) (vs.drop n)
 |_,_,0,r=>r
 |_,_,_+1,.nil=>.nil
 |_,_,n+1,.cons _ t=>DRs.drop n t
theorem DRs.set{d:D}{v:V}(r:DR K W d v):∀{ds:List D} {vs:List V} (i:Nat),DRs K W ds vs->DRs K W (ds.set i d) (vs.set i v)
 |_,_,_,.nil=>.nil
 |_,_,0,.cons _ t=>.cons r t
 |_,_,i+1,.cons q t=>.cons q (DRs.set r i t)
theorem DRs.rep{ds:List D}{vs:List V}(h:DRs K W ds vs):∀n,DRs K W (List.replicate n ds).flatten (List.replicate n vs).flatten
 |0=>.nil
 |n+1=>by simp only[X2,List.flatten_cons];exact h.append (DRs.rep h n)
end
section
variable {K:Frag} {W:Wd}
def Wd.lay(W:Wd)(p:Addr)(o:HO):Wd:={W with H:=upd W.H p o}
theorem QY(ok:Ok K W){p:Addr}(h:W.H p=none):¬RL W p:=fun⟨k,o,_,ha⟩=>ok.rs p (List.mem_of_getElem? ha) h
theorem GD(ok:Ok K W){p:Addr}(h:W.H p=none):¬W.hid p:=fun z=>(ok.hd p z).1 h
theorem Q7(ok:Ok K W){p:Addr}(h:W.H p=none):¬zk W p:=fun z=>z.elim (QY ok h) (GD ok h)
theorem sK{p:Addr}{o:HO}(h:W.H p=none):Step W (W.lay p o) where
 ρ _ _ h:=h
 live _ h:=.inl h
 keep a u e _:=by show upd W.H p o a=_;rw[rG (tG e h)];exact e
 hid:=rfl
 still a n:=by
  show upd W.H p o a≠none;by_cases e:a=p
  ·subst e;rw[sF];simp
  ·rw[rG e];exact n
theorem tQ(ok:Ok K W){p:Addr}{o:HO}(h:W.H p=none):Ok K (W.lay p o) where
 len:=ok.len
 nd:=ok.nd
 rs a m:=(sK h).still a (ok.rs a m)
 at_ k u e:=by
  obtain⟨a,ho,h1,h2,h3⟩:=ok.at_ k u e;refine(⟨a,ho,h1,?_,h3.step ok (sK h)⟩);show upd W.H p o a=_;rw[rG (tG h2 h)];exact h2
 hd0 a z:=⟨(sK h).still a (ok.hd a z).1,(ok.hd0 a z).2⟩
theorem NH(ok:Ok K W){p:Addr}{o:HO}(h:W.H p=none):¬zk (W.lay p o) p:=Q7 ok h
theorem Ad(ok:Ok K W){p:Addr}{ds:List D}{vs:List V}(h:W.H p=none)(r:DRs K W ds vs):DR K (W.lay p (.lst vs)) (.lst ds) (.ref p):=
 .lst sF (NH ok h) (r.step ok (sK h))
theorem w5(ok:Ok K W){p:Addr}{ds:List D}{vs:List V}(h:W.H p=none)(r:DRs K W ds vs):DR K (W.lay p (.tup vs)) (.tup ds) (.ref p):=
 .tup sF (r.step ok (sK h))
def Wd.new(W:Wd)(p:Addr)(o:HO)(x:Z8):Wd:={W with H:=upd W.H p o,ρ:=W.ρ++[p],L:=W.L++[some x]}
theorem AO{J:Type}{l:List J}{x y:J}{k:Nat}(h:(l++[x])[k]?=some y):l[k]?=some y\/(k=l.length/\y=x):=by
 by_cases hk:k<l.length
 ·rw[WV hk] at h;exact .inl h
 ·rw[Xn (by omega)] at h;have:k - l.length=0:=by
   cases e:k - l.length with
   |zero=>rfl
   |succ n=>rw[e] at h;simp at h
  rw[this] at h;simp at h;exact .inr ⟨by omega,h.symm⟩
theorem RK(ok:Ok K W){p a:Addr}{o:HO}{x:Z8}(h:RL (W.new p o x) a):RL W a\/a=p:=by
 obtain⟨k,u,h1,h2⟩:=h;rcases AO h1 with z|⟨e,_⟩
 ·rcases AO h2 with y|⟨e,y⟩
  ·exact .inl ⟨k,u,z,y⟩
  ·have:=(WL.mp z).1;rw[e,ok.len] at this;omega
 ·rcases AO h2 with y|⟨_,y⟩
  ·have:=(WL.mp y).1;rw[e,←ok.len] at this;omega
  ·exact .inr y
theorem vH(ok:Ok K W){p:Addr}{o:HO}{x:Z8}(h:W.H p=none):Step W (W.new p o x) where
 ρ k a e:=by
  show(W.ρ++[p])[k]?=_;rw[WV (WL.mp e).1];exact e
 live a z:=by
  rcases RK ok z with z|rfl
  ·exact .inl z
  ·exact .inr h
 keep a u e _:=by show upd W.H p o a=_;rw[rG (tG e h)];exact e
 hid:=rfl
 still a n:=by
  show upd W.H p o a≠none;by_cases e:a=p
  ·subst e;rw[sF];simp
  ·rw[rG e];exact n
theorem Av(ok:Ok K W){p:Addr}{o:HO}{x:Z8}(h:W.H p=none)(r:OR K W p x o):Ok K (W.new p o x) where
 len:=by show(W.ρ++[p]).length=(W.L++[some x]).length;simp[ok.len]
 nd:=by
  show(W.ρ++[p]).Nodup;rw[List.nodup_append];refine⟨ok.nd,by simp,fun a ha b hb e=>?_⟩;simp at hb;subst hb e;exact ok.rs _ ha h
 rs a m:=by
  rcases Xb.mp m with m|m
  ·exact(vH ok h).still a (ok.rs a m)
  ·simp at m;subst m;show upd W.H a o a≠none;rw[sF];simp
 at_ k u e:=by
  rcases AO e with e|⟨e,y⟩
  ·obtain⟨a,ho,h1,h2,h3⟩:=ok.at_ k u e;refine⟨a,ho,(vH ok h).ρ k a h1,?_,h3.step ok (vH ok h)⟩;show upd W.H p o a=_;rw[rG (tG h2 h)];exact h2
  ·cases y;rename_i hk;refine⟨p,o,?_,sF,r.step ok (vH ok h)⟩;show(W.ρ++[p])[k]?=_;rw[hk,←ok.len];simp
 hd0 a z:=by
  refine⟨(vH ok h).still a (ok.hd a z).1,fun q=>?_⟩;have q:a∈W.ρ++[p]:=q;rcases Xb.mp q with q|q
  ·exact(ok.hd0 a z).2 q
  ·simp at q;subst q;exact(ok.hd a z).1 h
theorem zK(ok:Ok K W){p:Addr}{o:HO}{x:Z8}:DR K (W.new p o x) (.ref W.L.length) (.ref p):=by
 refine .ref ?_;show(W.ρ++[p])[W.L.length]?=_;rw[←ok.len];simp
def Wd.put(W:Wd)(k:Nat)(a:Addr)(o:HO)(x:Z8):Wd:={W with H:=upd W.H a o,L:=W.L.set k (some x)}
theorem NE{k:Nat}{a b:Addr}{o:HO}{x y:Z8}(hk:W.L[k]?=some (some y)):RL (W.put k a o x) b↔RL W b:=by
 have hlt:=(WL.mp hk).1;constructor
 ·rintro⟨j,u,h1,h2⟩;have h1:(W.L.set k (some x))[j]?=some (some u):=h1;by_cases e:j=k
  ·subst e;exact⟨j,y,hk,h2⟩
  ·rw[Xf (Ne.symm e)] at h1;exact⟨j,u,h1,h2⟩
 ·rintro⟨j,u,h1,h2⟩;by_cases e:j=k
  ·subst e;exact⟨j,x,by show(W.L.set j (some x))[j]?=_;simp[hlt],h2⟩
  ·exact⟨j,u,by show(W.L.set k (some x))[j]?=_;rw[Xf (Ne.symm e)];exact h1,h2⟩
theorem wZ{k:Nat}{a:Addr}{o:HO}{x y:Z8}(hk:W.L[k]?=some (some y))(ha:W.ρ[k]?=some a):Step W (W.put k a o x) where
 ρ _ _ h:=h
 live b z:=.inl ((NE hk).mp z)
 keep b u e n:=by
  have hne:b≠a:=fun z=>n (by rw[z];exact⟨k,y,hk,ha⟩);show upd W.H a o b=_;rw[rG hne];exact e
 hid:=rfl
 still b n:=by
  show upd W.H a o b≠none;by_cases e:b=a
  ·subst e;rw[sF];simp
  ·rw[rG e];exact n
theorem BY(ok:Ok K W){k:Nat}{a:Addr}{o:HO}{x y:Z8}(hk:W.L[k]?=some (some y))(ha:W.ρ[k]?=some a)(r:OR K W a x o):Ok K (W.put k a o x) where
 len:=by show W.ρ.length=(W.L.set k (some x)).length;simp[ok.len]
 nd:=ok.nd
 rs b m:=(wZ hk ha).still b (ok.rs b m)
 at_ j u e:=by
  have e:(W.L.set k (some x))[j]?=some (some u):=e;by_cases z:j=k
  ·subst z;have hlt:=(WL.mp hk).1;simp[hlt] at e;subst e;exact⟨a,o,ha,sF,r.step ok (wZ hk ha)⟩
  ·rw[Xf (Ne.symm z)] at e;obtain⟨b,ho,h1,h2,h3⟩:=ok.at_ j u e;refine(⟨b,ho,h1,?_,h3.step ok (wZ hk ha)⟩);have hne:b≠a:=fun q=>z (HL ok.nd h1 (by rw[q];exact ha));show upd W.H a o b=_;rw[rG hne];exact h2
 hd0 b z:=⟨(wZ hk ha).still b (ok.hd b z).1,(ok.hd0 b z).2⟩
def Wd.frz(W:Wd)(k:Nat):Wd:={W with L:=W.L.set k none}
theorem FH{k:Nat}{b:Addr}(h:RL (W.frz k) b):RL W b/\∀a,W.ρ[k]?=some a->W.ρ.Nodup->b≠a:=by
 obtain⟨j,u,h1,h2⟩:=h;have h1:(W.L.set k none)[j]?=some (some u):=h1;by_cases e:j=k
 ·subst e;by_cases hl:j<W.L.length
  ·simp[hl] at h1
  ·rw[List.getElem?_eq_none_iff.mpr (by simpa using hl)] at h1;cases h1
 ·rw[Xf (Ne.symm e)] at h1;exact⟨⟨j,u,h1,h2⟩,fun a ha nd z=>e (HL nd (show W.ρ[j]?=some b from h2) (z▸ha))⟩
theorem EK{k:Nat}:Step W (W.frz k) where
 ρ _ _ h:=h
 live b z:=.inl (FH z).1
 keep b u e _:=e
 hid:=rfl
 still b n:=n
theorem Wl(ok:Ok K W){k:Nat}:Ok K (W.frz k) where
 len:=by show W.ρ.length=(W.L.set k none).length;simp[ok.len]
 nd:=ok.nd
 rs:=ok.rs
 at_ j u e:=by
  have e:(W.L.set k none)[j]?=some (some u):=e;by_cases z:j=k
  ·subst z;by_cases hl:j<W.L.length
   ·simp[hl] at e
   ·rw[List.getElem?_eq_none_iff.mpr (by simpa using hl)] at e;cases e
  ·rw[Xf (Ne.symm z)] at e;obtain⟨b,ho,h1,h2,h3⟩:=ok.at_ j u e;exact(⟨b,ho,h1,h2,h3.step ok EK⟩)
 hd0 b z:=⟨(ok.hd b z).1,(ok.hd0 b z).2⟩
theorem QM(ok:Ok K W){k:Nat}{ds:List D}(hk:W.L[k]?=some (some (.lst ds))){v:V}(h:DR K W (.ref k) v):DR K (W.frz k) (.lst ds) v:=by
 cases h with
 |ref ha=>
  obtain⟨a',ho,h1,h2,vs,rfl,r⟩:=ok.at_ k _ hk;rw[ha] at h1;cases h1;refine(.lst h2 (fun z=>?_) (r.step ok EK));rcases z with z|z
  ·exact(FH z).2 _ ha ok.nd rfl
  ·exact(ok.hd _ z).2 ⟨k,_,hk,ha⟩
def Wd.hide(W:Wd)(p:Addr)(o:HO):Wd:={W with H:=upd W.H p o,hid:=fun a=>a=p\/W.hid a}
end
abbrev EV:=G->M->Fr
abbrev BV:=G->M->Option (Bool×M)
abbrev LV:=G->M->Option (List D×M)
inductive Out where
 |nx|bk|ct|rt (d:D)
abbrev SV:=G->M->Option (Out×G×M)
section
variable (K:Frag)
def tD(ev:EV):TE:=fun B H Q=>∃(W:Wd) (O:G) (d:D) (Z5:M),W.H=H/\Ok K W/\EnvR K W O B/\ev O W.L=some (d,Z5)/\∀v W',W'.L=Z5->Ok K W'->Step W W'->DR K W' d v->Q v W'.H
def tDB(ev:BV):TT:=fun B H Q=>∃(W:Wd) (O:G) (b:Bool) (Z5:M),W.H=H/\Ok K W/\EnvR K W O B/\ev O W.L=some (b,Z5)/\∀W',W'.L=Z5->Ok K W'->Step W W'->Q b W'.H
def tDL(ev:LV):TA:=fun B H Q=>∃(W:Wd) (O:G) (ds:List D) (Z5:M),W.H=H/\Ok K W/\EnvR K W O B/\ev O W.L=some (ds,Z5)/\∀vs W',W'.L=Z5->Ok K W'->Step W W'->DRs K W' ds vs->Q vs W'.H
def fin(D:Ends)(W':Wd)(ZZ:St):Out->Prop
 | .nx=>D.nx ZZ W'.H
 | .bk=>D.bk ZZ W'.H
 | .ct=>D.ct ZZ W'.H
 | .rt d=>∀v,DR K W' d v->D.rt v W'.H
def tDS(es:SV):TS:=fun D B H=>∃(W:Wd) (O:G) (out:Out) (ZX:G) (Z5:M),W.H=H/\Ok K W/\EnvR K W O B/\es O W.L=some (out,ZX,Z5)/\∀W' ZZ,W'.L=Z5->Ok K W'->Step W W'->EnvR K W' ZX ZZ->fin K D W' ZZ out
end
section
variable {X:Cx} {e:Expr}
theorem rO{t t':TE}(h:PE X e t)(hi:∀B H Q,t' B H Q->t B H Q):PE X e t':=fun pins s B H Q I hw=>h pins s B H Q I (hi _ _ _ hw)
theorem wP{t t':TT}(h:PT X e t)(hi:∀B H Q,t' B H Q->t B H Q):PT X e t':=fun pins s B H Q I hw=>h pins s B H Q I (hi _ _ _ hw)
theorem HE{t t':TT}(h:PW X e t)(hi:∀B H Q,t' B H Q->t B H Q):PW X e t':=fun wh pins s B H Q I hw=>h wh pins s B H Q I (hi _ _ _ hw)
theorem BW{es:List Expr}{t t':TA}(h:PA X es t)(hi:∀B H Q,t' B H Q->t B H Q):PA X es t':=fun pos pins s B H Q I hw=>h pos pins s B H Q I (hi _ _ _ hw)
theorem tH{st:Stmt}{t t':TS}(h:PS X st t)(hi:∀D B H,t' D B H->t D B H):PS X st t':=fun pins s B H D I hw=>h pins s B H D I (hi _ _ _ hw)
theorem zI{st:List Stmt}{t t':TS}(h:PSs X st t)(hi:∀D B H,t' D B H->t D B H):PSs X st t':=fun pins s B H D I hw=>h pins s B H D I (hi _ _ _ hw)
end
def bnd{J β:Type}{x:Option J}{f:J->Option β}{b:β}(h:x.bind f=some b):∃a,x=some a/\f a=some b:=Option.bind_eq_some_iff.mp h
def el4{J:Type}{p:Wd->Prop}{q:Wd->G->Prop}{r s:Wd->G->J->M->Prop}{Z:Prop}{H:Hp}(h:∃(W:Wd) (O:G) (d:J) (Z5:M),W.H=H/\p W/\q W O/\r W O d Z5/\s W O d Z5)(k:∀W O d Z5,W.H=H->p W->q W O->r W O d Z5->s W O d Z5->Z):Z:=by
 obtain⟨W,O,d,Z5,rfl,a,b,c,e⟩:=h;exact(k W O d Z5 rfl a b c e)
def el5{J β:Type}{p:Wd->Prop}{q:Wd->G->Prop}{r s:Wd->G->J->β->M->Prop}{Z:Prop}{H:Hp}(h:∃(W:Wd) (O:G) (d:J) (b:β) (Z5:M),W.H=H/\p W/\q W O/\r W O d b Z5/\s W O d b Z5)(k:∀W O d b Z5,W.H=H->p W->q W O->r W O d b Z5->s W O d b Z5->Z):Z:=by
 obtain⟨W,O,d,x,Z5,rfl,a,b,c,e⟩:=h;exact(k W O d x Z5 rfl a b c e)
def q0{J β:Type}{x:Option J}{f:J->Option β}{b:β}{Z:Prop}(h:x.bind f=some b)(k:∀a,x=some a->f a=some b->Z):Z:=by
 obtain⟨a,h1,h2⟩:=bnd h;exact(k a h1 h2)
def su(L:M):D->Option (List D)
 | .lst ds=>some ds
 | .scr ds=>some ds
 | .ref k=>match L[k]? with
  |some (some (.lst ds))=>some ds
  |_=>none
 |_=>none
def xi(L:M):D->Option (List D)
 | .lst ds=>some ds
 | .ref k=>match L[k]? with
  |some (some (.lst ds))=>some ds
  |_=>none
 |_=>none
def vg:D->Option (List D)
 | .tup ds=>some ds
 | .gt ds=>some ds
 |_=>none
section
variable {K:Frag} {W:Wd} {d:D} {ds:List D} {v:V}
theorem xn(ok:Ok K W){k:Nat}(h:W.L[k]?=some (some (.lst ds)))(r:DR K W (.ref k) v):∃a vs,v=.ref a/\W.ρ[k]?=some a/\W.H a=some (.lst vs)/\DRs K W ds vs:=by
 cases r with
 |ref ha=>
  obtain⟨a',ho,h1,h2,vs,rfl,r⟩:=ok.at_ k _ h;rw[ha] at h1;cases h1;exact(⟨_,vs,rfl,ha,h2,r⟩)
theorem Fn(ok:Ok K W)(h:xi W.L d=some ds)(r:DR K W d v):∃a vs,v=.ref a/\W.H a=some (.lst vs)/\DRs K W ds vs:=by
 cases d with
 |lst xs=>
  cases h;cases r with
  |lst r n h=>exact⟨_,_,rfl,r,h⟩
 |ref k=>
  simp only[xi] at h;split at h
  ·rename_i xs hk;cases h;obtain⟨a,vs,e,_,e2,e3⟩:=xn ok hk r;exact(⟨a,vs,e,e2,e3⟩)
  ·cases h
 |_=>cases h
theorem xh(ok:Ok K W)(h:su W.L d=some ds)(r:DR K W d v):∃a vs,v=.ref a/\SqL K W.H a vs/\DRs K W ds vs:=by
 cases d with
 |lst xs=>
  cases h;cases r with
  |lst r n h=>exact⟨_,_,rfl,SqL.of r,h⟩
 |scr xs=>
  cases h;cases r with
  |scr r h=>exact⟨_,_,rfl,r.seq,h⟩
 |ref k=>
  simp only[su] at h;split at h
  ·rename_i xs hk;cases h;obtain⟨a,vs,e,_,e2,e3⟩:=xn ok hk r;exact(⟨a,vs,e,SqL.of e2,e3⟩)
  ·cases h
 |_=>cases h
theorem w8(h:vg d=some ds)(r:DR K W d v):∃a vs,v=.ref a/\SqT K W.H a vs/\DRs K W ds vs:=by
 cases d with
 |tup xs=>
  cases h;cases r with
  |tup r h=>exact⟨_,_,rfl,SqT.of r,h⟩
 |gt xs=>
  cases h;cases r with
  |gt r h=>exact⟨_,_,rfl,r,h⟩
 |_=>cases h
theorem Lm{vs:List V}{i:Int}(r:DRs K W ds vs)(h:atI ds i=some d):∃v,atI vs i=some v/\DR K W d v:=by
 unfold atI at h⊢;refine q0 h fun j h1 h2=>?_;rw[r.length] at h1;obtain⟨v,e,q⟩:=r.get h2;exact⟨v,by rw[h1];exact e,q⟩
end
def be(i:Nat):EV:=fun O L=>match O[i]? with
 |some (some d)=>some (d,L)
 |_=>none
def vC(d:D):EV:=fun _ L=>some (d,L)
def v2(f:D->D->M->Fr)(ea eb:EV):EV:=fun O L=>(ea O L).bind fun p=>(eb O p.2).bind fun q=>f p.1 q.1 q.2
def v1(f:D->M->Fr)(ea:EV):EV:=fun O L=>(ea O L).bind fun p=>f p.1 p.2
def R2A(K:Frag)(r:R2)(f:D->D->M->Fr):Prop:=∀(W:Wd) (x y:V) (d e z:D) (Z5:M) (Q:VK),Ok K W->DR K W d x->DR K W e y->f d e W.L=some (z,Z5)->
 (∀v W',W'.L=Z5->Ok K W'->Step W W'->DR K W' z v->Q v W'.H)->r x y W.H Q
def R1A(K:Frag)(r:V->Hp->VK->Prop)(f:D->M->Fr):Prop:=∀(W:Wd) (x:V) (d z:D) (Z5:M) (Q:VK),Ok K W->DR K W d x->f d W.L=some (z,Z5)->
 (∀v W',W'.L=Z5->Ok K W'->Step W W'->DR K W' z v->Q v W'.H)->r x W.H Q
def vT(ev:EV):BV:=fun O L=>(ev O L).bind fun p=>match p.1 with
 | .bl b=>some (b,p.2)
 |_=>none
section
variable {X:Cx} {K:Frag} {a b:Expr} {ea eb:EV} {pos:Pos}
theorem qV(i:Nat){x:Str}(hN:X.N[i]?=some x:=by rfl)(hv:Vis X.env.scope x:=by first|exact Or.inl rfl|exact Or.inr (Or.inl rfl)|exact Or.inr (Or.inr rfl))(hd:(x==("__debug__":Str))=false:=by decide)
  (hcd:(x==("__classdict__":Str))=false:=by decide):PE X (.Name x pos) (tD K (be i)):=rO (LG hN hv hd hcd) fun B H Q h=>by
 refine el4 h fun W O d Z5 eH ok en e q=>?_;subst eH;unfold be at e;split at e
 ·rename_i d' hd;cases e;obtain⟨v,hv,r⟩:=en.at_ i _ hd;exact(⟨v,hv,q v W rfl ok .refl r⟩)
 ·cases e
theorem zG{d:D}{v:V}(h:∀W,DR K W d v):∀B H Q,tD K (vC d) B H Q->tC v B H Q:=fun B H Q hh=>by
 obtain⟨W,O,d,Z5,rfl,ok,en,e,q⟩:=hh;cases e;exact(q v W rfl ok .refl (h W))
theorem rz{i j}:PE X (.Constant (.int i) j pos) (tD K (vC (.int i))):=rO OC (zG fun _=>.int i)
theorem tV{b j}:PE X (.Constant (.bool b) j pos) (tD K (vC (.bl b))):=rO Qx (zG fun _=>.bl b)
theorem ua{j}:PE X (.Constant .none j pos) (tD K (vC .non)):=rO V3 (zG fun _=>.non)
theorem yI{x j}:PE X (.Constant (.str x) j pos) (tD K (vC (.str x))):=rO K5 (zG fun _=>.str x)
theorem u9{x:Str}{d:D}{v:V}{u:Value}(hm:X.mg x=some u)(r:RelV v u)(h:∀W,DR K W d v)(hg:Gl X x:=by rfl)(hd:(x==("__debug__":Str))=false:=by decide):PE X (.Name x pos) (tD K (vC d)):=rO (QR hg hm r hd) (zG h)
theorem yk{r:R2}{f:D->D->M->Fr}(ra:R2A K r f):∀B H Q,tD K (v2 f ea eb) B H Q->tOp r (tD K ea) (tD K eb) B H Q:=fun B H Q h=>by
 refine el4 h fun W O d Z5 eH ok en e q=>?_;subst eH;refine q0 e fun p1 e1 e=>?_;refine q0 e fun p2 e2 e=>?_;refine⟨W,O,p1.1,p1.2,rfl,ok,en,e1,fun x W1 Z1 ok1 s1 r1=>⟨W1,O,p2.1,p2.2,rfl,ok1,en.step ok s1,by rw[Z1];exact e2,fun y W2 ZU ok2 s2 r2=>?_⟩⟩;exact ra W2 x y _ _ _ _ Q ok2 (r1.step ok1 s2) r2 (by rw[ZU];exact e) fun v W3 ZR ok3 s3 r3=>q v W3 ZR ok3 ((s1.trans s2).trans s3) r3
theorem wo{r:V->Hp->VK->Prop}{f:D->M->Fr}(ra:R1A K r f):∀B H Q,tD K (v1 f ea) B H Q->(fun B H Q=>tD K ea B H fun x H1=>r x H1 Q:TE) B H Q:=fun B H Q h=>by
 refine el4 h fun W O d Z5 eH ok en e q=>?_;subst eH;refine q0 e fun p1 e1 e=>?_;refine⟨W,O,p1.1,p1.2,rfl,ok,en,e1,fun x W1 Z1 ok1 s1 r1=>?_⟩;exact ra W1 x _ _ _ Q ok1 r1 (by rw[Z1];exact e) fun v W3 ZR ok3 s3 r3=>q v W3 ZR ok3 (s1.trans s3) r3
theorem yg{op:Operator}{r:R2}{f:D->D->M->Fr}(ho:OpR X (binaryOp op) r)(ra:R2A K r f)(ha:PE X a (tD K ea))(hb:PE X b (tD K eb)):PE X (.BinOp a op b pos) (tD K (v2 f ea eb)):=rO (ON ho ha hb) (yk ra)
theorem Ey{op:CmpOp}{r:R2}{f:D->D->M->Fr}(ho:OpR X (compareOp op) r)(ra:R2A K r f)(ha:PE X a (tD K ea))(hb:PE X b (tD K eb))(hm:behindInMarks op b=false):PE X (.Compare a [op] [b] pos) (tD K (v2 f ea eb)):=rO (Pa ho ha hb hm) (yk ra)
theorem Cy{t:TE}(h:∀B H Q,tD K ea B H Q->t B H Q):∀B H Q,tDB K (vT ea) B H Q->Dx t B H Q:=fun B H Q hh=>by
 obtain⟨W,O,k,Z5,rfl,ok,en,e,q⟩:=hh;refine q0 e fun p1 e1 e=>?_;refine(h B _ _ ⟨W,O,p1.1,p1.2,rfl,ok,en,e1,fun x W1 Z1 ok1 s1 r1=>?_⟩);split at e
 ·rename_i k' hk;cases e;rw[hk] at r1;cases r1;exact⟨_,rfl,q W1 Z1 ok1 s1⟩
 ·cases e
theorem xv{op:CmpOp}{r:R2}{f:D->D->M->Fr}(ho:OpR X (compareOp op) r)(ra:R2A K r f)(ha:PE X a (tD K ea))(hb:PE X b (tD K eb))(hm:behindInMarks op b=false):PT X (.Compare a [op] [b] pos) (tDB K (vT (v2 f ea eb))):=wP (Tc ho ha hb hm) (Cy (yk ra))
end
def fI0(g:Int->Int->D):D->D->M->Fr
 | .int i,.int j,L=>some (g i j,L)
 |_,_,_=>none
def fI(C:Int->Int->Prop) [∀i j,Decidable (C i j)](g:Int->Int->D):D->D->M->Fr
 | .int i,.int j,L=>if C i j then some (g i j,L) else none
 |_,_,_=>none
section
variable {K:Frag}
theorem wT{g:Int->Int->V}{h:Int->Int->D}(hh:∀W i j,DR K W (h i j) (g i j)):R2A K (rI0 g) (fI0 h):=by
 intro W x y d e z Z5 Q ok r1 r2 hf q;unfold fI0 at hf;split at hf
 ·cases hf;cases r1;cases r2;exact⟨_,_,rfl,rfl,q _ W rfl ok .refl (hh W _ _)⟩
 ·cases hf
theorem BP{C:Int->Int->Prop} [∀i j,Decidable (C i j)]{g:Int->Int->V}{h:Int->Int->D}(hh:∀W i j,DR K W (h i j) (g i j)):R2A K (rI C g) (fI C h):=by
 intro W x y d e z Z5 Q ok r1 r2 hf q;unfold fI at hf;split at hf
 ·split at hf
  ·rename_i hc;cases hf;cases r1;cases r2;exact⟨_,_,rfl,rfl,hc,q _ W rfl ok .refl (hh W _ _)⟩
  ·cases hf
 ·cases hf
end
noncomputable instance{i j:Int}:Decidable (CMul i j):=by unfold CMul;infer_instance
noncomputable instance{i j:Int}:Decidable (v6 i j):=by unfold v6;infer_instance
def xu(_ j:Int):Prop:=0<j/\j<2^200
def vG(_ j:Int):Prop:=0<j
noncomputable instance{i j:Int}:Decidable (xu i j):=by unfold xu;infer_instance
noncomputable instance{i j:Int}:Decidable (vG i j):=by unfold vG;infer_instance
section
variable {X:Cx} {K:Frag} {a b c:Expr} {ea eb:EV} {pos:Pos}
abbrev DC:=fI0 fun i j=>.int (i+j)
abbrev wu:=fI0 fun i j=>.int (i - j)
abbrev D0:=fI xu fun i j=>.int (i/j)
abbrev Aa:=fI vG fun i j=>.int (i%j)
abbrev x9:=fI v6 fun i j=>.int (i^j.toNat)
abbrev fLt:=fI0 fun i j=>.bl (decide (i<j))
abbrev fLe:=fI0 fun i j=>.bl (decide (i<=j))
abbrev fGt:=fI0 fun i j=>.bl (decide (j<i))
abbrev fGe:=fI0 fun i j=>.bl (decide (j<=i))
theorem xq(ha:PE X a (tD K ea))(hb:PE X b (tD K eb)):PE X (.BinOp a .Sub b pos) (tD K (v2 wu ea eb)):=yg VY (wT fun _ _ _=>.int _) ha hb
theorem II(ha:PE X a (tD K ea))(hb:PE X b (tD K eb)):PE X (.BinOp a .FloorDiv b pos) (tD K (v2 D0 ea eb)):=yg NQ (BP (C:=xu) fun _ _ _=>.int _) ha hb
theorem Bh(ha:PE X a (tD K ea))(hb:PE X b (tD K eb)):PE X (.BinOp a .Mod b pos) (tD K (v2 Aa ea eb)):=yg U4 (BP (C:=vG) fun _ _ _=>.int _) ha hb
theorem B6(ha:PE X a (tD K ea))(hb:PE X b (tD K eb)):PE X (.BinOp a .Pow b pos) (tD K (v2 x9 ea eb)):=yg QA (BP fun _ _ _=>.int _) ha hb
theorem BI(ha:PE X a (tD K ea))(hb:PE X b (tD K eb)):PT X (.Compare a [.Lt] [b] pos) (tDB K (vT (v2 fLt ea eb))):=xv Ew (wT fun _ _ _=>.bl _) ha hb (wl _)
theorem Cf(ha:PE X a (tD K ea))(hb:PE X b (tD K eb)):PT X (.Compare a [.Gt] [b] pos) (tDB K (vT (v2 fGt ea eb))):=xv V9 (wT fun _ _ _=>.bl _) ha hb (wl _)
def wL:D->M->Fr
 | .int i,L=>some (.int (-i),L)
 |_,_=>none
theorem SF(ha:PE X a (tD K ea)):PE X (.UnaryOp .USub a pos) (tD K (v1 wL ea)):=rO (Vt Qc ha) (wo (by
 intro W x d z Z5 Q ok r1 hf q;unfold wL at hf;split at hf
 ·cases hf;cases r1;exact⟨_,rfl,q _ W rfl ok .refl (.int _)⟩
 ·cases hf))
def xW(t u:BV):BV:=fun O L=>(t O L).bind fun p=>if p.1=true then u O p.2 else some (false,p.2)
def bOr(t u:BV):BV:=fun O L=>(t O L).bind fun p=>if p.1=true then some (true,p.2) else u O p.2
def tU(t:BV):BV:=fun O L=>(t O L).bind fun p=>some (!p.1,p.2)
variable {ba bb:BV} {rA:List Expr}
theorem QE:∀B H Q,tDB K (xW ba bb) B H Q->Jl (tDB K ba) (tDB K bb) B H Q:=fun B H Q h=>by
 refine el4 h fun W O k Z5 eH ok en e q=>?_;subst eH;refine q0 e fun p1 e1 e=>?_;refine⟨W,O,p1.1,p1.2,rfl,ok,en,e1,fun W1 Z1 ok1 s1=>?_⟩;split at e
 ·rename_i hp;rw[if_pos hp];exact⟨W1,O,k,Z5,rfl,ok1,en.step ok s1,by rw[Z1];exact e,fun W2 ZU ok2 s2=>q W2 ZU ok2 (s1.trans s2)⟩
 ·rename_i hp;cases e;rw[if_neg hp];exact q W1 Z1 ok1 s1
theorem Se:∀B H Q,tDB K (bOr ba bb) B H Q->tOr (tDB K ba) (tDB K bb) B H Q:=fun B H Q h=>by
 refine el4 h fun W O k Z5 eH ok en e q=>?_;subst eH;refine q0 e fun p1 e1 e=>?_;refine⟨W,O,p1.1,p1.2,rfl,ok,en,e1,fun W1 Z1 ok1 s1=>?_⟩;split at e
 ·rename_i hp;cases e;rw[if_pos hp];exact q W1 Z1 ok1 s1
 ·rename_i hp;rw[if_neg hp];exact⟨W1,O,k,Z5,rfl,ok1,en.step ok s1,by rw[Z1];exact e,fun W2 ZU ok2 s2=>q W2 ZU ok2 (s1.trans s2)⟩
theorem VE(ha:PT X a (tDB K ba)):PW X (.BoolOp .And [a] pos) (tDB K ba):=R0 ha
theorem zz(ha:PT X a (tDB K ba)):PW X (.BoolOp .Or [a] pos) (tDB K ba):=Vd ha
theorem SC(ha:PT X a (tDB K ba))(hb:PW X (.BoolOp .And (b::rA) pos) (tDB K bb)):PW X (.BoolOp .And (a::b::rA) pos) (tDB K (xW ba bb)):=HE (V8 ha hb) QE
theorem zP(ha:PT X a (tDB K ba))(hb:PW X (.BoolOp .Or (b::rA) pos) (tDB K bb)):PW X (.BoolOp .Or (a::b::rA) pos) (tDB K (bOr ba bb)):=HE (Pu ha hb) Se
theorem vz(ha:PT X a (tDB K ba)):PT X (.UnaryOp .Not a pos) (tDB K (tU ba)):=wP (IC ha) fun B H Q h=>by
 refine el4 h fun W O k Z5 eH ok en e q=>?_;subst eH;refine q0 e fun p1 e1 e=>?_;cases e;exact⟨W,O,p1.1,p1.2,rfl,ok,en,e1,fun W1 Z1 ok1 s1=>q W1 Z1 ok1 s1⟩
def vIf(t:BV)(ea eb:EV):EV:=fun O L=>(t O L).bind fun p=>if p.1=true then ea O p.2 else eb O p.2
theorem Fa(hc:PT X c (tDB K ba))(ha:PE X a (tD K ea))(hb:PE X b (tD K eb)):PE X (.IfExp c a b pos) (tD K (vIf ba ea eb)):=rO (PM hc ha hb) fun B H Q h=>by
 refine el4 h fun W O d Z5 eH ok en e q=>?_;subst eH;refine q0 e fun p1 e1 e=>?_;refine⟨W,O,p1.1,p1.2,rfl,ok,en,e1,fun W1 Z1 ok1 s1=>?_⟩;split at e
 ·rename_i hp;rw[if_pos hp];exact⟨W1,O,d,Z5,rfl,ok1,en.step ok s1,by rw[Z1];exact e,fun v W2 ZU ok2 s2 r2=>q v W2 ZU ok2 (s1.trans s2) r2⟩
 ·rename_i hp;rw[if_neg hp];exact⟨W1,O,d,Z5,rfl,ok1,en.step ok s1,by rw[Z1];exact e,fun v W2 ZU ok2 s2 r2=>q v W2 ZU ok2 (s1.trans s2) r2⟩
def xf(ea eb:EV):EV:=fun O L=>(ea O L).bind fun p=>match p.1 with
 | .bl true=>eb O p.2
 | .bl false=>some (.bl false,p.2)
 |_=>none
def vOr(ea eb:EV):EV:=fun O L=>(ea O L).bind fun p=>match p.1 with
 | .bl true=>some (.bl true,p.2)
 | .bl false=>eb O p.2
 |_=>none
def yV:D->M->Fr
 | .bl b,L=>some (.bl (!b),L)
 |_,_=>none
theorem AH{op}(h:PE X a (tD K ea)):PE X (.BoolOp op [a] pos) (tD K ea):=TM h
theorem yz(ha:PE X a (tD K ea))(hb:PE X (.BoolOp .And (b::rA) pos) (tD K eb)):PE X (.BoolOp .And (a::b::rA) pos) (tD K (xf ea eb)):=rO (Qw ha hb) fun B H Q h=>by
 refine el4 h fun W O d Z5 eH ok en e q=>?_;subst eH;refine q0 e fun p1 e1 e=>?_;refine⟨W,O,p1.1,p1.2,rfl,ok,en,e1,fun x W1 Z1 ok1 s1 r1=>?_⟩;split at e
 ·rename_i hp;rw[hp] at r1;cases r1;exact⟨true,rfl,DI ⟨W1,O,d,Z5,rfl,ok1,en.step ok s1,by rw[Z1];exact e,fun v W2 ZU ok2 s2 r2=>q v W2 ZU ok2 (s1.trans s2) r2⟩⟩
 ·rename_i hp;rw[hp] at r1;cases r1;cases e;exact⟨false,rfl,CH (q _ W1 Z1 ok1 s1 (.bl _))⟩
 ·cases e
theorem O5(ha:PE X a (tD K ea))(hb:PE X (.BoolOp .Or (b::rA) pos) (tD K eb)):PE X (.BoolOp .Or (a::b::rA) pos) (tD K (vOr ea eb)):=rO (M6 ha hb) fun B H Q h=>by
 refine el4 h fun W O d Z5 eH ok en e q=>?_;subst eH;refine q0 e fun p1 e1 e=>?_;refine⟨W,O,p1.1,p1.2,rfl,ok,en,e1,fun x W1 Z1 ok1 s1 r1=>?_⟩;split at e
 ·rename_i hp;rw[hp] at r1;cases r1;cases e;exact⟨true,rfl,DI (q _ W1 Z1 ok1 s1 (.bl _))⟩
 ·rename_i hp;rw[hp] at r1;cases r1;exact⟨false,rfl,CH ⟨W1,O,d,Z5,rfl,ok1,en.step ok s1,by rw[Z1];exact e,fun v W2 ZU ok2 s2 r2=>q v W2 ZU ok2 (s1.trans s2) r2⟩⟩
 ·cases e
theorem R1(ha:PE X a (tD K ea)):PE X (.UnaryOp .Not a pos) (tD K (v1 yV ea)):=rO (Sw ha) (wo (by
 intro W x d z Z5 Q ok r1 hf q;unfold yV at hf;split at hf
 ·cases hf;cases r1;exact⟨_,rfl,q _ W rfl ok .refl (.bl _)⟩
 ·cases hf))
end
def sB{J β:Type}(f:J->Option β):List J->Option (List β)
 | []=>some []
 |x::r=>(f x).bind fun y=>(sB f r).bind fun ys=>some (y::ys)
section
variable {X:Cx} {K:Frag} {a b e:Expr} {ea eb:EV} {pos p:Pos} {es:List Expr} {el:LV}
def qZ:LV:=fun _ L=>some ([],L)
def qW(ea:EV)(el:LV):LV:=fun O L=>(ea O L).bind fun p=>(el O p.2).bind fun q=>some (p.1::q.1,q.2)
theorem rg:PA X [] (tDL K qZ):=BW tE fun B H Q h=>by
 refine el4 h fun W O ds Z5 eH ok en e q=>?_;subst eH;cases e;exact q [] W rfl ok .refl .nil
theorem Qm:∀B H Q,tDL K (qW ea el) B H Q->ub (tD K ea) (tDL K el) B H Q:=fun B H Q h=>by
 refine el4 h fun W O ds Z5 eH ok en e q=>?_;subst eH;refine q0 e fun p1 e1 e=>?_;refine q0 e fun p2 e2 e=>?_;cases e;exact⟨W,O,p1.1,p1.2,rfl,ok,en,e1,fun x W1 Z1 ok1 s1 r1=>⟨W1,O,p2.1,p2.2,rfl,ok1,en.step ok s1,by rw[Z1];exact e2,fun vs W2 ZU ok2 s2 r2=>q _ W2 ZU ok2 (s1.trans s2) (.cons (r1.step ok1 s2) r2)⟩⟩
theorem qX(ha:PE X e (tD K ea))(hr:PA X es (tDL K el))(hs:starEach (e::es) X.env=(false,eval e X.env)::starEach es X.env:=by rfl):PA X (e::es) (tDL K (qW ea el)):=BW (sJ ha hr hs) Qm
def RLA(K:Frag)(r:List V->Hp->VK->Prop)(f:C0):Prop:=∀(W:Wd) (xs:List V) (ds:List D) (z:D) (Z5:M) (Q:VK),Ok K W->DRs K W ds xs->f ds W.L=some (z,Z5)->
 (∀v W',W'.L=Z5->Ok K W'->Step W W'->DR K W' z v->Q v W'.H)->r xs W.H Q
def vL(f:C0)(el:LV):EV:=fun O L=>(el O L).bind fun p=>f p.1 p.2
theorem BF{r:List V->Hp->VK->Prop}{f:C0}(ra:RLA K r f):∀B H Q,tD K (vL f el) B H Q->(fun B H Q=>tDL K el B H fun vs H1=>r vs H1 Q:TE) B H Q:=fun B H Q h=>by
 refine el4 h fun W O d Z5 eH ok en e q=>?_;subst eH;refine q0 e fun p1 e1 e=>?_;exact⟨W,O,p1.1,p1.2,rfl,ok,en,e1,fun vs W1 Z1 ok1 s1 r1=>ra W1 vs _ _ _ Q ok1 r1 (by rw[Z1];exact e) fun v W3 ZR ok3 s3 r3=>q v W3 ZR ok3 (s1.trans s3) r3⟩
def sG(ds:List D)(L:M):Fr:=if ds.length<=1000 then some (.lst ds,L) else none
def rX(ds:List D)(L:M):Fr:=if ds.length<=1000 then some (.tup ds,L) else none
def uB(ds:List D)(L:M):Fr:=if ds.length<=1000 then some (.ref L.length,L++[some (.lst ds)]) else none
theorem T2:RLA K (fun xs H1 Q=>xs.length<=sizeLine/\∀p,H1 p=none->Q (.ref p) (upd H1 p (.lst xs))) sG:=by
 intro W xs ds z Z5 Q ok r hf q;unfold sG at hf;split at hf
 ·rename_i hl;cases hf;exact⟨vY (by rw[←r.length];omega),fun p hp=>q _ (W.lay p (.lst xs)) rfl (tQ ok hp) (sK hp) (Ad ok hp r)⟩
 ·cases hf
theorem S1:RLA K (fun xs H1 Q=>xs.length<=sizeLine/\∀p,H1 p=none->Q (.ref p) (upd H1 p (.tup xs))) rX:=by
 intro W xs ds z Z5 Q ok r hf q;unfold rX at hf;split at hf
 ·rename_i hl;cases hf;exact⟨vY (by rw[←r.length];omega),fun p hp=>q _ (W.lay p (.tup xs)) rfl (tQ ok hp) (sK hp) (w5 ok hp r)⟩
 ·cases hf
theorem PP:RLA K (fun xs H1 Q=>xs.length<=sizeLine/\∀p,H1 p=none->Q (.ref p) (upd H1 p (.lst xs))) uB:=by
 intro W xs ds z Z5 Q ok r hf q;unfold uB at hf;split at hf
 ·rename_i hl;cases hf;exact⟨vY (by rw[←r.length];omega),fun p hp=>q _ (W.new p (.lst xs) (.lst ds)) rfl (Av ok hp ⟨xs,rfl,r⟩) (vH ok hp) (zK ok)⟩
 ·cases hf
theorem uj(h:PA X es (tDL K el)):PE X (.List es pos) (tD K (vL sG el)):=rO (He h) (BF T2)
theorem AC(h:PA X es (tDL K el)):PE X (.List es pos) (tD K (vL uB el)):=rO (He h) (BF PP)
theorem sM{k}(h:PA X es (tDL K el)):PE X (.Tuple es k pos) (tD K (vL rX el)):=rO (WD h) (BF S1)
def fIx(x y:D)(L:M):Fr:=match y with
 | .int i=>match su L x with
  |some ds=>(atI ds i).bind fun d=>some (d,L)
  |none=>match vg x with
   |some ds=>(atI ds i).bind fun d=>some (d,L)
   |none=>none
 |_=>none
theorem Ny:R2A K (rIx K) fIx:=by
 intro W x y d e z Z5 Q ok r1 r2 hf q;unfold fIx at hf;split at hf
 ·cases r2;split at hf
  ·rename_i ds hd;refine q0 hf fun u hu hf=>?_;cases hf;obtain⟨a,vs,rfl,hs,hv⟩:=xh ok hd r1;obtain⟨v,hv1,hv2⟩:=Lm hv hu;exact(.inl ⟨a,vs,_,v,rfl,rfl,hs,hv1,q v W rfl ok .refl hv2⟩)
  ·split at hf
   ·rename_i ds hd;refine q0 hf fun u hu hf=>?_;cases hf;obtain⟨a,vs,rfl,hs,hv⟩:=w8 hd r1;obtain⟨v,hv1,hv2⟩:=Lm hv hu;exact(.inr (.inl ⟨a,vs,_,v,rfl,rfl,hs,hv1,q v W rfl ok .refl hv2⟩))
   ·cases hf
 ·cases hf
theorem sR(ha:PE X a (tD K ea))(hb:PE X b (tD K eb))(hs:Li b:=by exact fun _ _=>rfl)(hK:X.K=K:=by rfl):PE X (.Subscript a b pos) (tD K (v2 fIx ea eb)):=by
 subst hK;exact rO (Oq NF ha hb hs) (yk Ny)
abbrev OV:=G->M->Option (Option Int×M)
def uy:OV:=fun _ L=>some (none,L)
def uO(ea:EV):OV:=fun O L=>(ea O L).bind fun p=>match p.1 with
 | .int i=>some (some i,p.2)
 |_=>none
def tDO(K:Frag)(ev:OV):TO:=fun B H Q=>∃(W:Wd) (O:G) (b:Option Int) (Z5:M),W.H=H/\Ok K W/\EnvR K W O B/\ev O W.L=some (b,Z5)/\∀W',W'.L=Z5->Ok K W'->Step W W'->Q b W'.H
theorem Kb{o:Option Expr}{t t':TO}(h:PO X o t)(hi:∀B H Q,t' B H Q->t B H Q):PO X o t':=fun pins s B H Q I hw=>h pins s B H Q I (hi _ _ _ hw)
theorem xZ:PO X none (tDO K uy):=Kb TK fun B H Q h=>by
 refine el4 h fun W O b Z5 eH ok en e q=>?_;subst eH;cases e;exact q W rfl ok .refl
theorem xR(h:PE X e (tD K ea)):PO X (some e) (tDO K (uO ea)):=Kb (U8 h) fun B H Q h=>by
 refine el4 h fun W O b Z5 eH ok en e q=>?_;subst eH;refine q0 e fun p1 e1 e=>?_;refine⟨W,O,p1.1,p1.2,rfl,ok,en,e1,fun x W1 Z1 ok1 s1 r1=>?_⟩;split at e
 ·rename_i i hi;cases e;rw[hi] at r1;cases r1;exact⟨_,rfl,q W1 Z1 ok1 s1⟩
 ·cases e
def t5(xs:List D)(lo hi:Option Int):List D:=(xs.drop (HT.sIx xs.length 0 lo)).take (HT.sIx xs.length xs.length hi - HT.sIx xs.length 0 lo)
theorem Gw{W:Wd}{ds:List D}{vs:List V}(r:DRs K W ds vs)(lo hi:Option Int):DRs K W (t5 ds lo hi) (ve vs lo hi):=by
 unfold t5 ve;rw[r.length];exact(r.drop _).take _
def fSl(x:D)(lo hi:Option Int)(L:M):Fr:=match su L x with
 |some ds=>some (.lst (t5 ds lo hi),L)
 |none=>match vg x with
  |some ds=>if HT.sIx ds.length 0 lo=0/\HT.sIx ds.length ds.length hi=ds.length then none else some (.tup (t5 ds lo hi),L)
  |none=>none
def vSl(ea:EV)(lo hi:OV):EV:=fun O L=>(ea O L).bind fun p=>(lo O p.2).bind fun l=>(hi O l.2).bind fun h=>fSl p.1 l.1 h.1 h.2
theorem xG{lo hi:Option Expr}{ol oh:OV}{p2:Pos}(he:PE X e (tD K ea))(hl:PO X lo (tDO K ol))(hu:PO X hi (tDO K oh))(hK:X.K=K:=by rfl):PE X (.Subscript e (.Slice lo hi none p2) pos) (tD K (vSl ea ol oh)):=by
 subst hK;refine rO (RH (sl_list.or Wv) he hl hu) fun B H Q h=>?_;refine el4 h fun W O d Z5 eH ok en e q=>?_;subst eH;refine q0 e fun p1 e1 e=>?_;refine q0 e fun p2 e2 e=>?_;refine q0 e fun p3 e3 e=>?_;refine⟨W,O,p1.1,p1.2,rfl,ok,en,e1,fun x W1 Z1 ok1 s1 r1=>⟨W1,O,p2.1,p2.2,rfl,ok1,en.step ok s1,by rw[Z1];exact e2,fun W2 ZU ok2 s2=>⟨W2,O,p3.1,p3.2,rfl,ok2,(en.step ok s1).step ok1 s2,by rw[ZU];exact e3,fun W3 ZR ok3 s3=>?_⟩⟩⟩;have r3:=(r1.step ok1 s2).step ok2 s3;have st:=(s1.trans s2).trans s3;unfold fSl at e;rw[←ZR] at e;split at e
 ·rename_i ds hd;cases e;obtain⟨a,vs,rfl,hs,hv⟩:=xh ok3 hd r3;exact(.inl ⟨a,vs,rfl,hs,fun p hp=>q _ (W3.lay p (.lst (ve vs p2.1 p3.1))) rfl (tQ ok3 hp) (st.trans (sK hp)) (Ad ok3 hp (Gw hv _ _))⟩)
 ·split at e
  ·rename_i ds hd;split at e
   ·cases e
   ·rename_i hn;cases e;obtain⟨a,vs,rfl,hs,hv⟩:=w8 hd r3;rw[hv.length] at hn;exact(.inr ⟨a,vs,rfl,hs,hn,fun p hp=>q _ (W3.lay p (.tup (ve vs p2.1 p3.1))) rfl (tQ ok3 hp) (st.trans (sK hp)) (w5 ok3 hp (Gw hv _ _))⟩)
  ·cases e
def Ap(x y:D)(L:M):Fr:=(xi L x).bind fun xs=>(xi L y).bind fun ys=>if xs.length+ys.length<=1000000 then some (.lst (xs++ys),L) else none
def FL(x y:D)(L:M):Fr:=(xi L x).bind fun xs=>match y with
 | .int k=>if -1000000<=k/\k<=1000000/\xs.length*k.toNat<=1000000 then some (.lst (List.replicate k.toNat xs).flatten,L) else none
 |_=>none
def sg(x:D)(L:M):Fr:=match su L x with
 |some ds=>some (.int ds.length,L)
 |none=>match vg x with
  |some ds=>some (.int ds.length,L)
  |none=>none
theorem vO(ml:X.mg "len"=none) (ha:PE X a (tD K ea)) (hg:Gl X "len":=by rfl) (hs:starEach [a] X.env=[(false,eval a X.env)]:=by rfl) (hK:X.K=K:=by rfl):PE X (.Call (.Name "len" p) [a] [] pos) (tD K (v1 sg ea)):=rO (OI K ml ha hg hs hK) (wo (by
 intro W x d z Z5 Q ok r1 hf q;unfold sg at hf;split at hf
 ·rename_i ds hd;cases hf;obtain⟨a,vs,rfl,hs,hv⟩:=xh ok hd r1;exact⟨a,vs,rfl,.inl hs,by rw[←hv.length];exact q _ W rfl ok .refl (.int _)⟩
 ·split at hf
  ·rename_i ds hd;cases hf;obtain⟨a,vs,rfl,hs,hv⟩:=w8 hd r1;exact⟨a,vs,rfl,.inr hs,by rw[←hv.length];exact q _ W rfl ok .refl (.int _)⟩
  ·cases hf))
abbrev zn:=fI0 fun i j=>.int (if j<i then j else i)
abbrev En:=fI0 fun i j=>.int (if j>i then j else i)
theorem FP{t:TE}{r:R2}{f:D->D->M->Fr}(ra:R2A K r f)(ht:∀B H Q,tOp r (tD K ea) (tD K eb) B H Q->t B H Q):∀B H Q,tD K (v2 f ea eb) B H Q->t B H Q:=fun B H Q h=>ht B H Q (yk ra B H Q h)
theorem IA{x y:V}{g:Int->Int->V}{Q:VK}{H:Hp}:(∃i j,[x,y]=[V.int i,V.int j]/\Q (g i j) H)=(∃i j,x=V.int i/\y=V.int j/\Q (g i j) H):=propext ⟨fun⟨i,j,e,q⟩=>by cases e;exact⟨i,j,rfl,rfl,q⟩,fun⟨i,j,e1,e2,q⟩=>by cases e1;cases e2;exact⟨i,j,rfl,q⟩⟩
theorem Ti(ml:X.mg "min"=none) (ha:PE X a (tD K ea)) (hb:PE X b (tD K eb)) (hc:X.calm=true:=by rfl) (hg:Gl X "min":=by rfl) (hs:starEach [a,b] X.env=[(false,eval a X.env),(false,eval b X.env)]:=by rfl) (hs2:starEach [b] X.env=[(false,eval b X.env)]:=by rfl):
  PE X (.Call (.Name "min" p) [a,b] [] pos) (tD K (v2 zn ea eb)):=rO (Uu ml ha hb hc hg hs hs2) (FP (wT fun _ _ _=>.int _) fun B H Q h=>by simp only[IA (g:=fun i j=>V.int (if j<i then j else i))];exact h)
theorem Vw(ml:X.mg "max"=none) (ha:PE X a (tD K ea)) (hb:PE X b (tD K eb)) (hc:X.calm=true:=by rfl) (hg:Gl X "max":=by rfl) (hs:starEach [a,b] X.env=[(false,eval a X.env),(false,eval b X.env)]:=by rfl) (hs2:starEach [b] X.env=[(false,eval b X.env)]:=by rfl):
  PE X (.Call (.Name "max" p) [a,b] [] pos) (tD K (v2 En ea eb)):=rO (Of ml ha hb hc hg hs hs2) (FP (wT fun _ _ _=>.int _) fun B H Q h=>by simp only[IA (g:=fun i j=>V.int (if j>i then j else i))];exact h)
def zD:D->M->Fr
 | .bl k,L=>some (.int (if k then 1 else 0),L)
 |_,_=>none
theorem NV(ml:X.mg "int"=none) (ha:PE X a (tD K ea)) (hg:Gl X "int":=by rfl) (hs:starEach [a] X.env=[(false,eval a X.env)]:=by rfl):PE X (.Call (.Name "int" p) [a] [] pos) (tD K (v1 zD ea)):=rO (RU ml ha hg hs) (wo (by
 intro W x d z Z5 Q ok r1 hf q;unfold zD at hf;split at hf
 ·cases hf;cases r1;exact⟨_,rfl,q _ W rfl ok .refl (.int _)⟩
 ·cases hf))
end
def py:Nat->M->D->Option PyData
 |0,_,_=>none
 |n+1,L,d=>match d with
  | .non=>some .none
  | .bl b=>some (.bool b)
  | .int i=>some (.int i)
  | .str x=>some (.str x)
  | .lst xs=>(sB (py n L) xs).bind fun ys=>some (.list ys)
  | .scr xs=>(sB (py n L) xs).bind fun ys=>some (.list ys)
  | .tup xs=>(sB (py n L) xs).bind fun ys=>some (.tuple ys)
  | .gt xs=>(sB (py n L) xs).bind fun ys=>some (.tuple ys)
  | .ref k=>match L[k]? with
   |some (some (.lst xs))=>(sB (py n L) xs).bind fun ys=>some (.list ys)
   |_=>none
theorem xk{K:Frag}{W:Wd}{f:D->Option PyData}(h:∀d v pd,DR K W d v->f d=some pd->Dp K W.H v pd):∀{xs:List D} {vs:List V} {ys:List PyData},DRs K W xs vs->sB f xs=some ys->Dps K W.H vs ys
 |_,_,_,.nil,e=>by cases e;exact .nil
 |_,_,_,.cons r t,e=>by
  refine q0 e fun y e1 e=>?_;refine q0 e fun ys e2 e=>?_;cases e;exact .cons (h _ _ _ r e1) (xk h t e2)
theorem vU{K:Frag}{W:Wd}(ok:Ok K W):∀(n:Nat) (d:D) (v:V) (pd:PyData),DR K W d v->py n W.L d=some pd->Dp K W.H v pd
 |0,_,_,_,_,e=>by cases e
 |n+1,d,v,pd,r,e=>by
  cases d with
  |non=>cases e;cases r;exact .non
  |bl b=>cases e;cases r;exact .bl b
  |int i=>cases e;cases r;exact .int i
  |str x=>cases e;cases r;exact .str x
  |lst xs=>
   refine q0 e fun ys e1 e=>?_;cases e;cases r with
   |lst h _ hs=>exact .lst (SqL.of h) (xk (vU ok n) hs e1)
  |scr xs=>
   refine q0 e fun ys e1 e=>?_;cases e;cases r with
   |scr h hs=>exact .lst h.seq (xk (vU ok n) hs e1)
  |tup xs=>
   refine q0 e fun ys e1 e=>?_;cases e;cases r with
   |tup h hs=>exact .tup (SqT.of h) (xk (vU ok n) hs e1)
  |gt xs=>
   refine q0 e fun ys e1 e=>?_;cases e;cases r with
   |gt h hs=>exact .tup h (xk (vU ok n) hs e1)
  |ref k=>
   simp only[py] at e;split at e
   ·rename_i xs hk;refine q0 e fun ys e1 e=>?_;cases e;obtain⟨a,vs,rfl,_,h,hs⟩:=xn ok hk r;exact(.lst (SqL.of h) (xk (vU ok n) hs e1))
   ·cases e
def eqD(x y:D)(L:M):Option Bool:=match x,y with
 | .int i,.int j=>some (decide (i=j))
 | .str a,.str b=>if PyData.strOk a&&PyData.strOk b then some (decide (a=b)) else none
 |x,y=>(py 65 L x).bind fun d=>(py 65 L y).bind fun e=>if(d.canLay0&&e.canLay0&&decide (d.depth<=64))=true then some (PyData.eqv d e) else none
def LF{K:Frag}{W:Wd}{x y:D}{v u:V}{b:Bool}(ok:Ok K W)(rx:DR K W x v)(ry:DR K W y u)(h:eqD x y W.L=some b):∃d e,Dp K W.H v d/\Dp K W.H u e/\(d.canLay0&&e.canLay0&&decide (d.depth<=64))=true/\PyData.eqv d e=b:=by
 unfold eqD at h;split at h
 ·cases h;cases rx;cases ry;exact⟨_,_,.int _,.int _,by simp[PyData.canLay0,PyData.depth],by simp[PyData.eqv];rw[Ye];simp⟩
 ·split at h
  ·rename_i hs;cases h;cases rx;cases ry;refine⟨_,_,.str _,.str _,by simpa[PyData.canLay0,PyData.depth] using hs,by simp[PyData.eqv];rw[Ye];simp⟩
  ·cases h
 ·refine q0 h fun d e1 h=>?_;refine q0 h fun e e2 h=>?_;split at h
  ·rename_i hc;cases h;exact⟨d,e,vU ok _ _ _ _ rx e1,vU ok _ _ _ _ ry e2,hc,rfl⟩
  ·cases h
def fEq(x y:D)(L:M):Fr:=(eqD x y L).bind fun b=>some (.bl b,L)
def fNe(x y:D)(L:M):Fr:=(eqD x y L).bind fun b=>some (.bl (!b),L)
section
variable {X:Cx} {K:Frag} {a b c e:Expr} {ea eb:EV} {pos p:Pos} {es:List Expr} {el:LV} {k:Nat}
theorem Iu:R2A K (fun x y H Q=>∃d e,Dp K H x d/\Dp K H y e/\(d.canLay0&&e.canLay0&&decide (d.depth<=64))=true/\Q (.bl (PyData.eqv d e)) H) fEq:=by
 intro W x y d e z Z5 Q ok r1 r2 hf q;refine q0 hf fun b hb hf=>?_;cases hf;obtain⟨d',e',h1,h2,h3,h4⟩:=LF ok r1 r2 hb;exact⟨d',e',h1,h2,h3,by rw[h4];exact q _ W rfl ok .refl (.bl _)⟩
theorem Gi:R2A K (fun x y H Q=>∃d e,Dp K H x d/\Dp K H y e/\(d.canLay0&&e.canLay0&&decide (d.depth<=64))=true/\Q (.bl (!PyData.eqv d e)) H) fNe:=by
 intro W x y d e z Z5 Q ok r1 r2 hf q;refine q0 hf fun b hb hf=>?_;cases hf;obtain⟨d',e',h1,h2,h3,h4⟩:=LF ok r1 r2 hb;exact⟨d',e',h1,h2,h3,by rw[h4];exact q _ W rfl ok .refl (.bl _)⟩
theorem yw(hr:Room k X.A)(ha:PE X a (tD K ea))(hb:PE X b (tD K eb))(hK:X.K=K:=by rfl):PE X (.Compare a [.Eq] [b] pos) (tD K (v2 fEq ea eb)):=by
 subst hK;exact Ey (FJ hr.units) Iu ha hb (wl _)
theorem L1(hr:Room k X.A)(ha:PE X a (tD K ea))(hb:PE X b (tD K eb))(hK:X.K=K:=by rfl):PE X (.Compare a [.NotEq] [b] pos) (tD K (v2 fNe ea eb)):=by
 subst hK;exact Ey (Iz hr.units) Gi ha hb (wl _)
theorem u6(hr:Room k X.A)(ha:PE X a (tD K ea))(hb:PE X b (tD K eb))(hK:X.K=K:=by rfl):PT X (.Compare a [.Eq] [b] pos) (tDB K (vT (v2 fEq ea eb))):=by
 subst hK;exact xv (FJ hr.units) Iu ha hb (wl _)
theorem yK(hr:Room k X.A)(ha:PE X a (tD K ea))(hb:PE X b (tD K eb))(hK:X.K=K:=by rfl):PT X (.Compare a [.NotEq] [b] pos) (tDB K (vT (v2 fNe ea eb))):=by
 subst hK;exact xv (Iz hr.units) Gi ha hb (wl _)
def vc(x y:D)(L:M):Fr:=match y with
 | .non=>some (.bl (match x with| .non=>true|_=>false),L)
 |_=>none
def wk(x y:D)(L:M):Fr:=match y with
 | .non=>some (.bl (match x with| .non=>false|_=>true),L)
 |_=>none
theorem Pr:R2A K (fun x y H Q=>y=.non/\Q (.bl (decide (x=.non))) H) vc:=by
 intro W x y d e z Z5 Q ok r1 r2 hf q;unfold vc at hf;split at hf
 ·cases hf;cases r2;refine⟨rfl,?_⟩;have h:=q _ W rfl ok .refl (.bl _);cases r1<;>exact h
 ·cases hf
theorem Nx:R2A K (fun x y H Q=>y=.non/\Q (.bl (!decide (x=.non))) H) wk:=by
 intro W x y d e z Z5 Q ok r1 r2 hf q;unfold wk at hf;split at hf
 ·cases hf;cases r2;refine⟨rfl,?_⟩;have h:=q _ W rfl ok .refl (.bl _);cases r1<;>exact h
 ·cases hf
theorem Az(ha:PE X a (tD K ea))(hb:PE X b (tD K eb)):PT X (.Compare a [.Is] [b] pos) (tDB K (vT (v2 vc ea eb))):=xv N6 Pr ha hb (wl _)
theorem Jj(ha:PE X a (tD K ea))(hb:PE X b (tD K eb)):PT X (.Compare a [.IsNot] [b] pos) (tDB K (vT (v2 wk ea eb))):=xv Ug Nx ha hb (wl _)
def tru(L:M):D->Option Bool
 | .non=>some false
 | .bl b=>some b
 | .int i=>some (i !=0)
 | .tup ds=>some (!ds.isEmpty)
 | .gt ds=>some (!ds.isEmpty)
 | .lst ds=>some (!ds.isEmpty)
 | .scr ds=>some (!ds.isEmpty)
 | .ref k=>match L[k]? with
  |some (some (.lst ds))=>some (!ds.isEmpty)
  |some (some (.dK kvs))=>some (!kvs.isEmpty)
  |_=>none
 | .str _=>none
theorem DRs.empty{W:Wd}{ds:List D}{vs:List V}(r:DRs K W ds vs):ds.isEmpty=vs.isEmpty:=by cases r<;>rfl
theorem VU{W:Wd}{d:D}{v:V}{b:Bool}(ok:Ok K W)(h:tru W.L d=some b)(r:DR K W d v):Eu K v W.H b:=by
 cases d with
 |non=>cases h;cases r;rfl
 |bl k=>cases h;cases r;rfl
 |int i=>cases h;cases r;rfl
 |str x=>cases h
 |tup ds=>
  cases h;cases r with
  |tup h hs=>exact .inr (.inl ⟨_,SqT.of h,by rw[DRs.empty hs]⟩)
 |gt ds=>
  cases h;cases r with
  |gt h hs=>exact .inr (.inl ⟨_,h,by rw[DRs.empty hs]⟩)
 |lst ds=>
  cases h;cases r with
  |lst h _ hs=>exact .inl ⟨_,SqL.of h,by rw[DRs.empty hs]⟩
 |scr ds=>
  cases h;cases r with
  |scr h hs=>exact .inl ⟨_,h.seq,by rw[DRs.empty hs]⟩
 |ref k=>
  simp only[tru] at h;split at h
  ·rename_i ds hk;cases h;obtain⟨a,vs,rfl,_,hh,hs⟩:=xn ok hk r;exact(.inl ⟨_,SqL.of hh,by rw[DRs.empty hs]⟩)
  ·rename_i kvs hk;cases h;cases r with
   |ref ha=>
    obtain⟨a',ho,h1,h2,vs,rfl,r⟩:=ok.at_ k _ hk;rw[ha] at h1;cases h1;exact .inr (.inr ⟨vs,h2,by cases r<;>rfl⟩)
  ·cases h
def sD(ea:EV):BV:=fun O L=>(ea O L).bind fun p=>(tru p.2 p.1).bind fun b=>some (b,p.2)
theorem uC(ha:PE X a (tD K ea))(he:∀whole,isTrue a X.env whole=(do let v ←whole;standAt a.pos;holding [v] (truthy v)):=by intro _;rfl)(hK:X.K=K:=by rfl):PT X a (tDB K (sD ea)):=by
 subst hK;refine wP (Ua ha he) fun B H Q h=>?_;refine el4 h fun W O b Z5 eH ok en e q=>?_;subst eH;refine q0 e fun p1 e1 e=>?_;refine q0 e fun b1 e2 e=>?_;cases e;exact⟨W,O,p1.1,p1.2,rfl,ok,en,e1,fun x W1 Z1 ok1 s1 r1=>⟨b,VU ok1 (by rw[Z1];exact e2) r1,q W1 Z1 ok1 s1⟩⟩
def tyD(L:M):D->Option String
 | .non=>some "NoneType"
 | .bl _=>some "bool"
 | .int _=>some "int"
 | .str _=>some "str"
 | .tup _=>some "tuple"
 | .gt _=>some "tuple"
 | .lst _=>some "list"
 | .scr _=>some "list"
 | .ref k=>match L[k]? with
  |some (some (.lst _))=>some "list"
  |some (some (.dK _))=>some "dict"
  |_=>none
theorem RZ{W:Wd}{d:D}{v:V}{t:String}(ok:Ok K W)(h:tyD W.L d=some t)(r:DR K W d v):TyN K W.H v t:=by
 cases d with
 |non=>cases h;cases r;exact .non
 |bl k=>cases h;cases r;exact .bl _
 |int i=>cases h;cases r;exact .int _
 |str x=>cases h;cases r;exact .str _
 |tup ds=>
  cases h;cases r with
  |tup h hs=>exact .tup (SqT.of h)
 |gt ds=>
  cases h;cases r with
  |gt h hs=>exact .tup h
 |lst ds=>
  cases h;cases r with
  |lst h _ hs=>exact .lst (SqL.of h)
 |scr ds=>
  cases h;cases r with
  |scr h hs=>exact .lst h.seq
 |ref k=>
  simp only[tyD] at h;split at h
  ·rename_i ds hk;cases h;obtain⟨a,vs,rfl,_,hh,hs⟩:=xn ok hk r;exact(.lst (SqL.of hh))
  ·rename_i kvs hk;cases h;cases r with
   |ref ha=>
    obtain⟨a',ho,h1,h2,vs,rfl,r⟩:=ok.at_ k _ hk;rw[ha] at h1;cases h1;exact(.dK h2)
  ·cases h
def wy(c:String)(x:D)(L:M):Fr:=(tyD L x).bind fun t=>some (.bl (zA t c),L)
theorem Bp(c:String)(ml:X.mg "isinstance"=none) (ha:PE X a (tD K ea)) (hb:PE X b (tC (.ty c))) (hc:clNames.contains c=true:=by decide) (hg:Gl X "isinstance":=by rfl) (hs:starEach [a,b] X.env=[(false,eval a X.env),(false,eval b X.env)]:=by rfl) (hs2:starEach [b] X.env=[(false,eval b X.env)]:=by rfl) (hK:X.K=K:=by rfl):
  PE X (.Call (.Name "isinstance" p) [a,b] [] pos) (tD K (v1 (wy c) ea)):=rO (VG K ml ha hb hg hs hs2 hK) (wo (by
 intro W x d z Z5 Q ok r1 hf q;refine q0 hf fun t ht hf=>?_;cases hf;exact⟨x,t,c,rfl,RZ ok ht r1,hc,q _ W rfl ok .refl (.bl _)⟩))
def zS(ea:EV):EV:=fun O L=>(ea O L).bind fun p=>match p.1 with
 | .ref k=>match p.2[k]? with
  |some (some (.lst ds))=>some (.lst ds,p.2.set k none)
  |_=>none
 |_=>none
theorem IK(ha:PE X a (tD K ea)):PE X a (tD K (zS ea)):=rO ha fun B H Q h=>by
 refine el4 h fun W O d Z5 eH ok en e q=>?_;subst eH;refine q0 e fun p1 e1 e=>?_;refine⟨W,O,p1.1,p1.2,rfl,ok,en,e1,fun x W1 Z1 ok1 s1 r1=>?_⟩;split at e
 ·rename_i k hk;rw[hk] at r1;split at e
  ·rename_i ds hd;cases e;rw[←Z1] at hd;exact q x (W1.frz k) (by show W1.L.set k none=_;rw[Z1]) (Wl ok1) (s1.trans EK) (QM ok1 hd r1)
  ·cases e
 ·cases e
def spM(K:Frag)(f:C0):Sp:=fun vs H Q _=>∃(W:Wd) (ds:List D) (d:D) (Z5:M),W.H=H/\Ok K W/\DRs K W ds vs/\f ds W.L=some (d,Z5)/\∀v W',W'.L=Z5->Ok K W'->Step W W'->DR K W' d v->Q v W'.H
theorem rM{x:Str}{ps:List Str}{f:C0}{e:Expr}(Df':Df X.prog X.w X.K X.mg X.base k x ps (spM K f))(hr:Room k X.A)(ha:PA X (e::es) (tDL K el))(hg:Gl X x:=by rfl)(hdb:(x==("__debug__":Str))=false:=by decide)
  (he:starEach (e::es) X.env=(false,eval e X.env)::starEach es X.env:=by rfl) (hpl:(backTo pos (starEach es X.env)).any (·.1)=false:=by rfl):PE X (.Call (.Name x p) (e::es) [] pos) (tD K (vL f el)):=rO (JN Df' hr ha hg hdb he hpl) (BF (by
 intro W xs ds z Z5 Q ok r hf q;exact⟨W,ds,z,Z5,rfl,ok,r,hf,q⟩))
def wa(f:D->D->M->Fr)(ea eb:EV):EV:=fun O L=>(ea O L).bind fun p=>(su p.2 p.1).bind fun _=>(eb O p.2).bind fun q=>f p.1 q.1 q.2
theorem Sf{W:Wd}{d:D}{ds:List D}{v:V}(ok:Ok K W)(h:su W.L d=some ds)(r:DR K W d v):tyV K "list" v W.H:=by
 obtain⟨a,vs,rfl,hs,_⟩:=xh ok h r;exact(.inl ⟨rfl,vs,hs⟩)
def RMA(K:Frag)(r:V->List V->Hp->VK->Prop)(f:D->D->M->Fr):Prop:=∀(W:Wd) (x y:V) (d e z:D) (Z5:M) (Q:VK),Ok K W->DR K W d x->DR K W e y->f d e W.L=some (z,Z5)->
 (∀v W',W'.L=Z5->Ok K W'->Step W W'->DR K W' z v->Q v W'.H)->r x [y] W.H Q
theorem S3{eo:EV}{r:V->List V->Hp->VK->Prop}{f:D->D->M->Fr}(ra:RMA K r f):∀B H Q,tD K (wa f eo ea) B H Q->tBM K "list" r (tD K eo) (ub (tD K ea) u7) B H Q:=fun B H Q h=>by
 refine el4 h fun W O d Z5 eH ok en e q=>?_;subst eH;refine q0 e fun p1 e1 e=>?_;refine q0 e fun ds e0 e=>?_;refine q0 e fun p2 e2 e=>?_;refine⟨W,O,p1.1,p1.2,rfl,ok,en,e1,fun x W1 Z1 ok1 s1 r1=>⟨Sf ok1 (by rw[Z1];exact e0) r1,W1,O,p2.1,p2.2,rfl,ok1,en.step ok s1,by rw[Z1];exact e2,fun y W2 ZU ok2 s2 r2=>?_⟩⟩;exact ra W2 x y _ _ _ _ Q ok2 (r1.step ok1 s2) r2 (by rw[ZU];exact e) fun v W3 ZR ok3 s3 r3=>q v W3 ZR ok3 ((s1.trans s2).trans s3) r3
def onL(x:D)(L:M)(g:List D->Option (D×List D)):Fr:=match x with
 | .ref k=>match L[k]? with
  |some (some (.lst ds))=>(g ds).bind fun r=>some (r.1,L.set k (some (.lst r.2)))
  |_=>none
 |_=>none
theorem LQ{W:Wd}{x z:D}{v:V}{Z5:M}{g:List D->Option (D×List D)}(ok:Ok K W)(h:onL x W.L g=some (z,Z5))(r:DR K W x v):
  ∃k a ds vs ds',x=.ref k/\v=.ref a/\W.L[k]?=some (some (.lst ds))/\W.ρ[k]?=some a/\W.H a=some (.lst vs)/\DRs K W ds vs/\g ds=some (z,ds')/\Z5=W.L.set k (some (.lst ds')):=by
 unfold onL at h;split at h
 ·rename_i k;split at h
  ·rename_i ds hk;refine q0 h fun p e1 e=>?_;cases e;obtain⟨a,vs,rfl,ha,hh,hs⟩:=xn ok hk r;exact(⟨k,a,ds,vs,p.2,rfl,rfl,hk,ha,hh,hs,e1,rfl⟩)
  ·cases h
 ·cases h
theorem Gf{W:Wd}{k:Nat}{a:Addr}{ds ds':List D}{vs vs':List V}(ok:Ok K W)(hk:W.L[k]?=some (some (.lst ds)))(ha:W.ρ[k]?=some a)(hs:DRs K W ds' vs'):
  Ok K (W.put k a (.lst vs') (.lst ds'))/\Step W (W.put k a (.lst vs') (.lst ds')):=⟨BY ok hk ha ⟨vs',rfl,hs⟩,wZ hk ha⟩
def uL(x y:D)(L:M):Fr:=onL x L fun ds=>if ds.length<1000000 then some (.non,ds++[y]) else none
theorem CD{o:Expr}{eo:EV}{apos:Pos}(ho:PE X o (tD K eo))(ha:PE X a (tD K ea))(hs:starEach [a] X.env=[(false,eval a X.env)]:=by rfl)
  (hbase:attributeBase o "append" X.env (eval o X.env)=eval o X.env:=by rfl) (hline:(apos.endLine==pos.line)=true:=by rfl) (hK:X.K=K:=by rfl)
  (hfew:((backTo pos (starEach [a] X.env)).all (fun x=>!x.1)&&(backToKw pos (keywordEach [] X.env)).all (fun x=>x.1.isSome)
   &&decide ([a].length+([]:List Keyword).length+(if([]:List Keyword).isEmpty then 0 else 1)<30))=true:=by rfl):
  PE X (.Call (.Attribute o "append" apos) [a] [] pos) (tD K (wa uL eo ea)):=rO (Ru K ho ha hs hbase hline hK hfew) (S3 (by
 intro W x y d e z Z5 Q ok r1 r2 hf q;obtain⟨k,a,ds,vs,ds',rfl,rfl,hk,ha,hh,hs,hg,rfl⟩:=LQ ok hf r1;split at hg
 ·rename_i hl;cases hg;obtain⟨o1,s1⟩:=Gf (vs:=vs) (vs':=vs++[y]) ok hk ha (hs.append (.cons r2 .nil));exact⟨a,vs,y,rfl,rfl,hh,zh (by rw[←hs.length];omega),q _ _ rfl o1 s1 .non⟩
 ·cases hg))
end
open Classical in
def chk{J:Type}(c:Prop)(x:Option J):Option J:=if c then x else none
def Fp{J:Type}{c:Prop}{x:Option J}{a:J}(h:chk c x=some a):c/\x=some a:=by
 unfold chk at h;split at h
 ·exact⟨by assumption,h⟩
 ·cases h
def uV{J:Type}{c:Prop}{x:Option J}{a:J}{Z:Prop}(h:chk c x=some a)(k:c->x=some a->Z):Z:=k (Fp h).1 (Fp h).2
def ur{J:Type}{c:Prop}{x:Option J}(h:c):chk c x=x:=by unfold chk;rw[if_pos h]
abbrev GV:=D->G->M->Option (G×M)
abbrev GsV:=List D->G->M->Option (G×M)
def tDG(K:Frag)(gv:GV):TG:=fun v B H Q=>∃(W:Wd) (O:G) (d:D) (ZX:G) (Z5:M),W.H=H/\Ok K W/\EnvR K W O B/\DR K W d v/\gv d O W.L=some (ZX,Z5)/\∀W' ZZ,W'.L=Z5->Ok K W'->Step W W'->EnvR K W' ZX ZZ->Q ZZ W'.H
def AF(K:Frag)(gv:GsV):TGs:=fun vs B H Q=>∃(W:Wd) (O:G) (ds:List D) (ZX:G) (Z5:M),W.H=H/\Ok K W/\EnvR K W O B/\DRs K W ds vs/\gv ds O W.L=some (ZX,Z5)/\∀W' ZZ,W'.L=Z5->Ok K W'->Step W W'->EnvR K W' ZX ZZ->Q ZZ W'.H
section
variable {X:Cx} {K:Frag} {pos:Pos}
theorem CV{tg:Expr}{t t':TG}(h:PG X tg t)(hi:∀v B H Q,t' v B H Q->t v B H Q):PG X tg t':=fun pins s B H v u Q I r hw=>h pins s B H v u Q I r (hi _ _ _ _ hw)
theorem Hi{tg:List Expr}{t t':TGs}(h:PGs X tg t)(hi:∀v B H Q,t' v B H Q->t v B H Q):PGs X tg t':=fun pins s B H v u Q I r hw=>h pins s B H v u Q I r (hi _ _ _ _ hw)
theorem EnvR.set{W:Wd}{O:G}{B:St}(e:EnvR K W O B){d:D}{v:V}(r:DR K W d v)(i:Nat):EnvR K W (O.set i (some d)) (B.set i (some v)) where
 len:=by simp[e.len]
 at_ j d' h:=by
  by_cases hj:j=i
  ·subst hj;have hlt:j<O.length:=by have:=(WL.mp h).1;simpa using this
   simp[hlt] at h;subst h;exact⟨v,by have:=e.len;simp[show j<B.length by omega],r⟩
  ·rw[Xf (Ne.symm hj)] at h;obtain⟨u,hu,q⟩:=e.at_ j d' h;exact⟨u,by rw[Xf (Ne.symm hj)];exact hu,q⟩
def qY(i:Nat):GV:=fun d O L=>some (O.set i (some d),L)
theorem Vc{i:Nat}:∀v B H Q,tDG K (qY i) v B H Q->El i v B H Q:=fun v B H Q h=>by
 obtain⟨W,O,d,ZX,Z5,rfl,ok,en,r,e,q⟩:=h;cases e;exact(q W _ rfl ok .refl (en.set r i))
theorem rD{i:Nat}{x:Str}(hN:X.N.Nodup)(hi:X.N[i]?=some x)(hx:Loc X.env.scope x)(hf:X.fn x=true\/X.env.scope.names.lookup x=some .local:=by first|exact .inl rfl|exact .inr rfl|assumption):PG X (.Name x pos) (tDG K (qY i)):=CV (OA hN hi hx hf) Vc
def si:GsV:=fun ds O L=>match ds with
 | []=>some (O,L)
 |_::_=>none
def rm(g:GV)(gs:GsV):GsV:=fun ds O L=>match ds with
 | []=>none
 |d::r=>(g d O L).bind fun p=>gs r p.1 p.2
theorem tS:PGs X [] (AF K si):=Hi Tg fun v B H Q h=>by
 obtain⟨W,O,d,ZX,Z5,rfl,ok,en,r,e,q⟩:=h;cases r with
 |nil=>cases e;exact⟨rfl,q W _ rfl ok .refl en⟩
 |cons _ _=>cases e
theorem rZ{e:Expr}{es:List Expr}{g:GV}{gs:GsV}(h1:PG X e (tDG K g))(h2:PGs X es (AF K gs))
  (hs:(assignEach (e::es) X.env).map (·.2)=assign e X.env::(assignEach es X.env).map (·.2):=by rfl):PGs X (e::es) (AF K (rm g gs)):=Hi (RD h1 h2 hs) fun v B H Q h=>by
 obtain⟨W,O,d,ZX,Z5,rfl,ok,en,r,e,q⟩:=h;cases r with
 |nil=>cases e
 |cons r rs=>
  refine q0 e fun p1 e1 e=>?_;exact⟨_,_,rfl,W,O,_,p1.1,p1.2,rfl,ok,en,r,e1,fun W1 ZI Z1 ok1 s1 en1=>⟨W1,p1.1,_,ZX,Z5,rfl,ok1,en1,rs.step ok s1,by rw[Z1];exact e,fun W2 ZV ZU ok2 s2 en2=>q W2 ZV ZU ok2 (s1.trans s2) en2⟩⟩
def rT(n:Nat)(gs:GsV):GV:=fun d O L=>(vg d).bind fun ds=>if ds.length=n then gs ds O L else none
theorem tY{es:List Expr}{k:Nat}{gs:GsV}{n:Nat}(h:PGs X es (AF K gs))(hc:X.calm=true:=by rfl)(hn:(assignEach es X.env).length=n:=by rfl)(hst:(assignEach es X.env).findIdx? (·.1)=none:=by rfl)(hK:X.K=K:=by rfl):PG X (.Tuple es k pos) (tDG K (rT n gs)):=CV (gT K h hc hn hst hK) fun v B H Q hh=>by
 obtain⟨W,O,d,ZX,Z5,rfl,ok,en,r,e,q⟩:=hh;refine q0 e fun ds e1 e=>?_;split at e
 ·rename_i hl;obtain⟨a,vs,rfl,hs,hv⟩:=w8 e1 r;exact⟨a,vs,rfl,hs,by rw[←hv.length];exact hl,W,O,ds,ZX,Z5,rfl,ok,en,hv,e,q⟩
 ·cases e
def zE(eo ei:EV):GV:=fun d O L=>(eo O L).bind fun p=>(ei O p.2).bind fun q=>match q.1 with
 | .int j=>(onL p.1 q.2 fun ds=>(ixN ds.length j).bind fun jj=>some (.non,ds.set jj d)).bind fun r=>some (O,r.2)
 |_=>none
theorem J6{o i:Expr}{eo ei:EV}(ho:PE X o (tD K eo))(hi:PE X i (tD K ei))(ha:∀v,assign (.Subscript o i pos) X.env v=(do
   let ov ←holding [v] (eval o X.env)
   let iv ←holding [v,ov] (eval i X.env)
   standAt pos
   holding [v,ov,iv] (setItem ov iv v)
   release [v,ov,iv] []):=by intro _;rfl):PG X (.Subscript o i pos) (tDG K (zE eo ei)):=CV (P9 ho hi Nr ha) fun v B H Q hh=>by
 obtain⟨W,O,d,ZX,Z5,rfl,ok,en,r,e,q⟩:=hh;refine q0 e fun p1 e1 e=>?_;refine q0 e fun p2 e2 e=>?_;refine⟨W,O,p1.1,p1.2,rfl,ok,en,e1,fun x W1 Z1 ok1 s1 r1=>⟨W1,O,p2.1,p2.2,rfl,ok1,en.step ok s1,by rw[Z1];exact e2,fun y W2 ZU ok2 s2 r2=>?_⟩⟩;split at e
 ·rename_i j hj;rw[hj] at r2;cases r2;obtain⟨⟨z3,ZM⟩,e3,e⟩:=bnd e;cases e;rw[←ZU] at e3;obtain⟨k,a,ds,vs,ds',h1,rfl,hk,ha,hh,hs,hg,h2⟩:=LQ ok2 e3 (r1.step ok1 s2);refine q0 hg fun jj hjj hg=>?_;cases hg;obtain⟨o1,st1⟩:=Gf (vs:=vs) (vs':=vs.set jj v) ok2 hk ha (hs.set ((r.step ok s1).step ok1 s2) jj);exact⟨a,vs,j,jj,rfl,rfl,hh,by rw[←hs.length];exact hjj,q _ _ h2.symm o1 ((s1.trans s2).trans st1) (((en.step ok s1).step ok1 s2).step ok2 st1)⟩
 ·cases e
end
section
variable {X:Cx} {K:Frag} {pos:Pos} {e:Expr} {ea:EV} {st:Stmt} {rA:List Stmt} {sa sb:SV}
def sNx:SV:=fun O L=>some (.nx,O,L)
def rf(a b:SV):SV:=fun O L=>(a O L).bind fun o=>match o.1 with
 | .nx=>b o.2.1 o.2.2
 | .bk=>some (.bk,o.2)
 | .ct=>some (.ct,o.2)
 | .rt d=>some (.rt d,o.2)
theorem so:PSs X [] (tDS K sNx):=zI Og fun D B H h=>by
 refine el5 h fun W O o ZX Z5 eH ok en e q=>?_;subst eH;cases e;exact q W B rfl ok .refl en
theorem rk(h1:PS X st (tDS K sa)):PSs X [st] (tDS K sa):=K4 h1
theorem rl(h1:PS X st (tDS K sa))(h2:PSs X rA (tDS K sb)):PSs X (st::rA) (tDS K (rf sa sb)):=zI (GQ h1 h2) fun D B H h=>by
 refine el5 h fun W O o ZX Z5 eH ok en e q=>?_;subst eH;obtain⟨⟨o1,ZY,Z4⟩,e1,e⟩:=bnd e;refine(⟨W,O,o1,ZY,Z4,rfl,ok,en,e1,fun W1 ZI Z1 ok1 s1 en1=>?_⟩);cases o1 with
 |nx=>exact⟨W1,ZY,o,ZX,Z5,rfl,ok1,en1,by rw[Z1];exact e,fun W2 ZV ZU ok2 s2 en2=>q W2 ZV ZU ok2 (s1.trans s2) en2⟩
 |bk=>cases e;exact q W1 ZI Z1 ok1 s1 en1
 |ct=>cases e;exact q W1 ZI Z1 ok1 s1 en1
 |rt d=>cases e;exact q W1 ZI Z1 ok1 s1 en1
def uv(ea:EV):SV:=fun O L=>(ea O L).bind fun p=>some (.nx,O,p.2)
theorem xI(he:PE X e (tD K ea))(hs:swapsWith e none pos.line X.env=pure false:=by rfl):PS X (.Expr e pos) (tDS K (uv ea)):=tH (Jm he hs) fun D B H h=>by
 refine el5 h fun W O o ZX Z5 eH ok en e q=>?_;subst eH;refine q0 e fun p1 e1 e=>?_;cases e;exact⟨W,O,p1.1,p1.2,rfl,ok,en,e1,fun v W1 Z1 ok1 s1 r1=>q W1 B Z1 ok1 s1 (en.step ok s1)⟩
def rn(ea:EV):SV:=fun O L=>(ea O L).bind fun p=>some (.rt p.1,O,p.2)
theorem rB(he:PE X e (tD K ea)):PS X (.Return (some e) pos) (tDS K (rn ea)):=tH (Mo he) fun D B H h=>by
 refine el5 h fun W O o ZX Z5 eH ok en e q=>?_;subst eH;refine q0 e fun p1 e1 e=>?_;cases e;exact⟨W,O,p1.1,p1.2,rfl,ok,en,e1,fun v W1 Z1 ok1 s1 r1=>q W1 B Z1 ok1 s1 (en.step ok s1) v r1⟩
def sIf(t:BV)(a b:SV):SV:=fun O L=>(t O L).bind fun p=>if p.1=true then a O p.2 else b O p.2
theorem sr{c:Expr}{a b:List Stmt}{bc:BV}(hc:PT X c (tDB K bc))(ha:PSs X a (tDS K sa))(hb:PSs X b (tDS K sb)):PS X (.If c a b pos) (tDS K (sIf bc sa sb)):=tH (MB hc ha hb) fun D B H h=>by
 refine el5 h fun W O o ZX Z5 eH ok en e q=>?_;subst eH;refine q0 e fun p1 e1 e=>?_;refine⟨W,O,p1.1,p1.2,rfl,ok,en,e1,fun W1 Z1 ok1 s1=>?_⟩;split at e
 ·rename_i hp;rw[if_pos hp];exact⟨W1,O,o,ZX,Z5,rfl,ok1,en.step ok s1,by rw[Z1];exact e,fun W2 ZV ZU ok2 s2 en2=>q W2 ZV ZU ok2 (s1.trans s2) en2⟩
 ·rename_i hp;rw[if_neg hp];exact⟨W1,O,o,ZX,Z5,rfl,ok1,en.step ok s1,by rw[Z1];exact e,fun W2 ZV ZU ok2 s2 en2=>q W2 ZV ZU ok2 (s1.trans s2) en2⟩
def rF(ea:EV)(g:GV):SV:=fun O L=>(ea O L).bind fun p=>(g p.1 O p.2).bind fun q=>some (.nx,q.1,q.2)
theorem QL{g:GV}:∀D B H,tDS K (rF ea g) D B H->C6 (tD K ea) (tDG K g) D B H:=fun D B H h=>by
 refine el5 h fun W O o ZX Z5 eH ok en e q=>?_;subst eH;refine q0 e fun p1 e1 e=>?_;refine q0 e fun p2 e2 e=>?_;cases e;exact⟨W,O,p1.1,p1.2,rfl,ok,en,e1,fun v W1 Z1 ok1 s1 r1=>⟨W1,O,p1.1,p2.1,p2.2,rfl,ok1,en.step ok s1,r1,by rw[Z1];exact e2,fun W2 ZV ZU ok2 s2 en2=>q W2 ZV ZU ok2 (s1.trans s2) en2⟩⟩
theorem zJ{tg:Expr}{g:GV}(he:PE X e (tD K ea))(hg:PG X tg (tDG K g))(hs:swapsWithSole [tg] e pos.line X.env=pure false:=by rfl)(hw:swappedStores [tg] e X.env=pure none:=by rfl)
  (h1:(assignEach [tg] X.env).map (·.2)=[assign tg X.env]:=by rfl):PS X (.Assign [tg] e pos) (tDS K (rF ea g)):=tH (OL he hg hs hw h1) QL
theorem sf{i:Nat}{x:Str}{pos':Pos}(hN:X.N.Nodup)(hi:X.N[i]?=some x)(hx:Loc X.env.scope x)(he:PE X e (tD K ea))(hs:swapsWith e (some (.Name x pos')) pos.line X.env=pure false:=by rfl)(hf:X.fn x=true\/X.env.scope.names.lookup x=some .local:=by first|exact .inl rfl|exact .inr rfl|assumption):
  PS X (.Assign [.Name x pos'] e pos) (tDS K (rF ea (qY i))):=tH (GZ hN hi hx he hs hf) fun D B H h=>by
 refine el5 h fun W O o ZX Z5 eH ok en e q=>?_;subst eH;refine q0 e fun p1 e1 e=>?_;cases e;exact⟨W,O,p1.1,p1.2,rfl,ok,en,e1,fun v W1 Z1 ok1 s1 r1=>q W1 _ Z1 ok1 s1 ((en.step ok s1).set r1 i)⟩
def ym(i:Nat)(f:D->D->M->Fr)(ea:EV):SV:=fun O L=>match O[i]? with
 |some (some x)=>(ea O L).bind fun p=>(f x p.1 p.2).bind fun q=>some (.nx,O.set i (some q.1),q.2)
 |_=>none
theorem TB{i:Nat}{x:Str}{op:Operator}{ti:TIp}{f:D->D->M->Fr}{pos':Pos}(hN:X.N.Nodup)(hi:X.N[i]?=some x)(hx:Loc X.env.scope x)(he:PE X e (tD K ea))(ho:PIp X op ti)(ra:R2A K ti f)(hf:X.fn x=true\/X.env.scope.names.lookup x=some .local:=by first|exact .inl rfl|exact .inr rfl|assumption):
  PS X (.AugAssign (.Name x pos') op e pos) (tDS K (ym i f ea)):=tH (Sm hN hi hx he ho hf) fun D B H h=>by
 refine el5 h fun W O o ZX Z5 eH ok en e q=>?_;subst eH;unfold ym at e;split at e
 ·rename_i x0 hx0;refine q0 e fun p1 e1 e=>?_;refine q0 e fun p2 e2 e=>?_;cases e;obtain⟨v,hv,r⟩:=en.at_ i _ hx0;refine(⟨v,hv,W,O,p1.1,p1.2,rfl,ok,en,e1,fun y W1 Z1 ok1 s1 r1=>?_⟩);exact ra W1 v y _ _ _ _ _ ok1 (r.step ok s1) r1 (by rw[Z1];exact e2) fun z W2 ZU ok2 s2 r2=>q W2 _ ZU ok2 (s1.trans s2) (((en.step ok s1).step ok1 s2).set r2 i)
 ·cases e
theorem TR{g:Int->Int->Int}:R2A K (ipI g) (fI0 fun i j=>.int (g i j)):=by
 intro W x y d e z Z5 Q ok r1 r2 hf q;unfold fI0 at hf;split at hf
 ·cases hf;cases r1;cases r2;exact⟨_,_,rfl,rfl,q _ W rfl ok .refl (.int _)⟩
 ·cases hf
theorem Rk{i:Nat}{x:Str}{pos':Pos}(hN:X.N.Nodup)(hi:X.N[i]?=some x)(hx:Loc X.env.scope x)(he:PE X e (tD K ea))(hf:X.fn x=true\/X.env.scope.names.lookup x=some .local:=by first|exact .inl rfl|exact .inr rfl|assumption):
  PS X (.AugAssign (.Name x pos') .Add e pos) (tDS K (ym i DC ea)):=TB hN hi hx he Wn TR hf
def w6(c:BV)(body:SV):Nat->SV
 |0,_,_=>none
 |n+1,O,L=>(c O L).bind fun p=>if p.1=true then(body O p.2).bind fun o=>match o.1 with
   | .nx=>w6 c body n o.2.1 o.2.2
   | .ct=>w6 c body n o.2.1 o.2.2
   | .bk=>some (.nx,o.2)
   | .rt d=>some (.rt d,o.2)
  else some (.nx,O,p.2)
theorem Jw{c:Expr}{body:List Stmt}{bc:BV}(n:Nat)(hp:PassesOwn (model X.prog X.w) X.A X.env X.xe)(hc:PT X c (tDB K bc))(hb:PSs X body (tDS K sb)):PS X (.While c body [] pos) (tDS K (w6 bc sb n)):=tH (UM hp hc hb) fun D B H h=>by
 refine el5 h fun W O o ZX Z5 eH ok en e q=>?_;subst eH;refine⟨fun m ZI H1=>∃W1 ZY,W1.H=H1/\Ok K W1/\Step W W1/\EnvR K W1 ZY ZI/\w6 bc sb m ZY W1.L=some (o,ZX,Z5),⟨n,W,O,rfl,ok,.refl,en,e⟩,?_⟩;rintro m ZI H1 ⟨W1,ZY,rfl,ok1,s1,en1,e1⟩;cases m with
 |zero=>cases e1
 |succ m=>
  refine q0 e1 fun p1 ec e1=>?_;refine⟨W1,ZY,p1.1,p1.2,rfl,ok1,en1,ec,fun W2 ZU ok2 s2=>?_⟩;split at e1
  ·rename_i hp1;rw[if_pos hp1];obtain⟨⟨o3,Zj,ZM⟩,e3,e1⟩:=bnd e1;refine⟨_,fun ZZ H' h'=>⟨m,Nat.lt_succ_self m,h'⟩,W2,ZY,o3,Zj,ZM,rfl,ok2,en1.step ok1 s2,by rw[ZU];exact e3,fun W3 ZH ZR ok3 s3 en3=>?_⟩;cases o3 with
   |nx=>exact⟨W3,Zj,rfl,ok3,(s1.trans s2).trans s3,en3,by rw[ZR];exact e1⟩
   |ct=>exact⟨W3,Zj,rfl,ok3,(s1.trans s2).trans s3,en3,by rw[ZR];exact e1⟩
   |bk=>cases e1;exact q W3 ZH ZR ok3 ((s1.trans s2).trans s3) en3
   |rt d=>cases e1;exact q W3 ZH ZR ok3 ((s1.trans s2).trans s3) en3
  ·rename_i hp1;cases e1;rw[if_neg hp1];exact q W2 ZI ZU ok2 (s1.trans s2) (en1.step ok1 s2)
abbrev Ck:=Option (Nat×List D)
def rJ:Ck->M->Prop
 |none,_=>True
 |some (k,raw),L=>L[k]?=some (some (.lst raw))
abbrev IV:=G->M->Option ((List D×Ck)×M)
def JR(K:Frag)(W:Wd)(Z6:It)(its:List D)(c:Ck):Prop:=rJ c W.L/\∃ds vs,DRs K W ds vs/\∀(W2:Wd) (i:Nat),Ok K W2->rJ c W2.L->DRs K W2 ds vs->
 (its.length<=i->Z6.stop i W2.H)/\∀d,its[i]?=some d->Z6.go i W2.H/\∀x H',Z6.yld i W2.H x H'->∃W3,W3.H=H'/\W3.L=W2.L/\Ok K W3/\Step W2 W3/\DR K W3 d x
def tDI(K:Frag)(iv:IV):TI:=fun B H R=>∃(W:Wd) (O:G) (its:List D) (c:Ck) (Z5:M),W.H=H/\Ok K W/\EnvR K W O B/\iv O W.L=some ((its,c),Z5)/\∀Z6 W',W'.L=Z5->Ok K W'->Step W W'->JR K W' Z6 its c->R Z6 W'.H
theorem xw{tg iter:Expr}{t t':TI}(h:PI X tg iter t)(hi:∀B H R,t' B H R->t B H R):PI X tg iter t':=fun pins s B H R I hw=>h pins s B H R I (hi _ _ _ hw)
def lsC(L:M):D->Option (List D×Ck)
 | .lst ds=>some (ds,none)
 | .scr ds=>some (ds,none)
 | .ref k=>match L[k]? with
  |some (some (.lst ds))=>some (ds,some (k,ds))
  |_=>none
 |_=>none
theorem DM{W:Wd}{d:D}{ds:List D}{c:Ck}{v:V}(ok:Ok K W)(h:lsC W.L d=some (ds,c))(r:DR K W d v):
  rJ c W.L/\∃a,v=.ref a/\∀W2,Ok K W2->rJ c W2.L->DR K W2 d v->∃vs,SqL K W2.H a vs/\DRs K W2 ds vs:=by
 cases d with
 |lst xs=>
  cases h;cases r with
  |lst h n hs=>
   refine⟨trivial,_,rfl,fun W2 _ _ r2=>?_⟩;cases r2 with
   |lst h n hs=>exact⟨_,SqL.of h,hs⟩
 |scr xs=>
  cases h;cases r with
  |scr h hs=>
   refine⟨trivial,_,rfl,fun W2 _ _ r2=>?_⟩;cases r2 with
   |scr h hs=>exact⟨_,h.seq,hs⟩
 |ref k=>
  simp only[lsC] at h;split at h
  ·rename_i xs hk;cases h;refine⟨hk,?_⟩;cases r with
   |ref ha=>
    refine⟨_,rfl,fun W2 ok2 c2 r2=>?_⟩;obtain⟨a',vs,e,_,hh,hs⟩:=xn ok2 c2 r2;cases e;exact(⟨vs,SqL.of hh,hs⟩)
  ·cases h
 |_=>cases h
def ivL(ea:EV):IV:=fun O L=>(ea O L).bind fun p=>(lsC p.2 p.1).bind fun s=>some (s,p.2)
theorem tR{tg a:Expr}(ha:PE X a (tD K ea))(hK:X.K=K:=by rfl):PI X tg a (tDI K (ivL ea)):=xw (iL K ha hK) fun B H R h=>by
 refine el5 h fun W O its c Z5 eH ok en e q=>?_;subst eH;refine q0 e fun p1 e1 e=>?_;refine q0 e fun s e2 e=>?_;cases e;refine⟨W,O,p1.1,p1.2,rfl,ok,en,e1,fun v W1 Z1 ok1 s1 r1=>?_⟩;obtain⟨c0,a,rfl,hh⟩:=DM ok1 (by rw[Z1];exact e2) r1;obtain⟨vs0,h0,_⟩:=hh W1 ok1 c0 r1;refine(⟨a,rfl,⟨_,h0⟩,q (Itl K a) W1 Z1 ok1 s1 ⟨c0,[p1.1],[.ref a],.cons r1 .nil,fun W2 i ok2 c2 r2=>?_⟩⟩);cases r2 with
 |cons r2 _=>
  obtain⟨vs,hs,hv⟩:=hh W2 ok2 c2 r2;refine⟨fun hi=>⟨vs,hs,by rw[←hv.length];exact hi⟩,fun d hd=>?_⟩;obtain⟨v,hv1,hv2⟩:=hv.get hd;refine(⟨⟨vs,v,hs,hv1⟩,fun x H' y=>?_⟩);obtain⟨rfl,y⟩:=y;have:=y vs hs;rw[hv1] at this;cases this;exact⟨W2,rfl,rfl,ok2,.refl,hv2⟩
def ivT(ea:EV):IV:=fun O L=>(ea O L).bind fun p=>(vg p.1).bind fun ds=>some ((ds,none),p.2)
theorem B3{tg a:Expr}(ha:PE X a (tD K ea))(hK:X.K=K:=by rfl):PI X tg a (tDI K (ivT ea)):=xw (iT K ha hK) fun B H R h=>by
 refine el5 h fun W O its c Z5 eH ok en e q=>?_;subst eH;refine q0 e fun p1 e1 e=>?_;refine q0 e fun s e2 e=>?_;cases e;refine⟨W,O,p1.1,p1.2,rfl,ok,en,e1,fun v W1 Z1 ok1 s1 r1=>?_⟩;obtain⟨a,vs0,rfl,h0,_⟩:=w8 e2 r1;refine(⟨a,rfl,⟨_,h0⟩,q (Itt K a) W1 Z1 ok1 s1 ⟨trivial,[p1.1],[.ref a],.cons r1 .nil,fun W2 i ok2 c2 r2=>?_⟩⟩);cases r2 with
 |cons r2 _=>
  obtain⟨a',vs,e',hs,hv⟩:=w8 e2 r2;cases e';refine⟨fun hi=>⟨vs,hs,by rw[←hv.length];exact hi⟩,fun d hd=>?_⟩;obtain⟨v,hv1,hv2⟩:=hv.get hd;refine(⟨⟨vs,v,hs,hv1⟩,fun x H' y=>?_⟩);obtain⟨rfl,y⟩:=y;have:=y vs hs;rw[hv1] at this;cases this;exact⟨W2,rfl,rfl,ok2,.refl,hv2⟩
def rS(lo:Int)(n:Nat):List D:=(List.range n).map fun k:Nat=>D.int (lo+k)
theorem EW{W:Wd}{lo:Int}{n:Nat}:JR K W (Itr lo n) (rS lo n) none:=by
 refine⟨trivial,[],[],.nil,fun W2 i ok2 _ _=>⟨fun hi=>?_,fun d hd=>?_⟩⟩
 ·show n<=i;simpa[rS] using hi
 ·have hlt:=(WL.mp hd).1;simp[rS] at hlt;simp[rS,hlt] at hd;subst hd;refine⟨hlt,fun x H' y=>?_⟩;obtain⟨rfl,rfl⟩:=y;exact(⟨W2,rfl,rfl,ok2,.refl,.int _⟩)
def ivR(ea:EV):IV:=fun O L=>(ea O L).bind fun p=>match p.1 with
 | .int j=>if -1000000000<=j/\j<=1000000000 then some ((rS 0 j.toNat,none),p.2) else none
 |_=>none
theorem Ai(mr:X.mg "range"=none) {tg a:Expr} {p:Pos} (ha:PE X a (tD K ea)) (hg:Gl X "range":=by rfl) (hs:starEach [a] X.env=[(false,eval a X.env)]:=by rfl):PI X tg (.Call (.Name "range" p) [a] [] pos) (tDI K (ivR ea)):=xw (iR mr ha hg hs) fun B H R h=>by
 refine el5 h fun W O its c Z5 eH ok en e q=>?_;subst eH;refine q0 e fun p1 e1 e=>?_;split at e
 ·rename_i j hj;split at e
  ·rename_i hb;cases e;refine⟨W,O,p1.1,p1.2,rfl,ok,en,e1,fun v W1 Z1 ok1 s1 r1=>?_⟩;rw[hj] at r1;cases r1;exact⟨j,rfl,by omega,by omega,q _ W1 Z1 ok1 s1 EW⟩
  ·cases e
 ·cases e
def xX(ea eb:EV):IV:=fun O L=>(ea O L).bind fun p=>(eb O p.2).bind fun r=>match p.1,r.1 with
 | .int i,.int j=>if(-1000000000<=i/\i<=1000000000)/\-1000000000<=j/\j<=1000000000 then some ((rS i (j - i).toNat,none),r.2) else none
 |_,_=>none
theorem GO(mr:X.mg "range"=none) {tg a b:Expr} {eb:EV} {p:Pos} (ha:PE X a (tD K ea)) (hb:PE X b (tD K eb)) (hg:Gl X "range":=by rfl) (hs:starEach [a,b] X.env=[(false,eval a X.env),(false,eval b X.env)]:=by rfl) (hs2:starEach [b] X.env=[(false,eval b X.env)]:=by rfl):
  PI X tg (.Call (.Name "range" p) [a,b] [] pos) (tDI K (xX ea eb)):=xw (iR2 mr ha hb hg hs hs2) fun B H R h=>by
 refine el5 h fun W O its c Z5 eH ok en e q=>?_;subst eH;refine q0 e fun p1 e1 e=>?_;refine q0 e fun p2 e2 e=>?_;split at e
 ·rename_i i j hi hj;split at e
  ·rename_i hb;cases e;refine⟨W,O,p1.1,p1.2,rfl,ok,en,e1,fun v W1 Z1 ok1 s1 r1=>⟨W1,O,p2.1,p2.2,rfl,ok1,en.step ok s1,by rw[Z1];exact e2,fun y W2 ZU ok2 s2 r2=>?_⟩⟩;rw[hi] at r1;rw[hj] at r2;cases r1;cases r2;exact⟨i,j,rfl,⟨by omega,by omega,by omega,by omega⟩,q _ W2 ZU ok2 (s1.trans s2) EW⟩
  ·cases e
 ·cases e
def sk(c:Ck)(g:GV)(body:SV):List D->SV
 | [],O,L=>some (.nx,O,L)
 |d::r,O,L=>(g d O L).bind fun p=>(body p.1 p.2).bind fun o=>match o.1 with
  | .nx=>chk (rJ c o.2.2) (sk c g body r o.2.1 o.2.2)
  | .ct=>chk (rJ c o.2.2) (sk c g body r o.2.1 o.2.2)
  | .bk=>some (.nx,o.2)
  | .rt d=>some (.rt d,o.2)
def tF(iv:IV)(g:GV)(body:SV):SV:=fun O L=>(iv O L).bind fun s=>sk s.1.2 g body s.1.1 O s.2
theorem t8{tg iter:Expr}{body:List Stmt}{iv:IV}{g:GV}(hp:PassesOwn (model X.prog X.w) X.A X.env X.xe)(hc:X.calm=true)(hi:PI X tg iter (tDI K iv))(hg:PG X tg (tDG K g))(hb:PSs X body (tDS K sb))
  (hs:∀x,foldedSetIterable iter X.env x=pure x:=by intro _;rfl):PS X (.For tg iter body [] pos) (tDS K (tF iv g sb)):=tH (K1 hp hc hi hg hb hs) fun D B H h=>by
 refine el5 h fun W O o ZX Z5 eH ok en e q=>?_;subst eH;obtain⟨⟨⟨its,c⟩,Z4⟩,e1,e⟩:=bnd e;refine(⟨W,O,its,c,Z4,rfl,ok,en,e1,fun Z6 W1 ZK ok1 s1 jr=>?_⟩);obtain⟨c1,ds,vs,r1,hj⟩:=jr;obtain⟨P,hP⟩:∃P:Nat->St->Hp->Prop,∀i ZV H2,P i ZV H2↔(i<=its.length/\∃W2 ZW,W2.H=H2/\Ok K W2/\Step W1 W2/\EnvR K W2 ZW ZV/\rJ c W2.L/\sk c g sb (its.drop i) ZW W2.L=some (o,ZX,Z5)):=⟨_,fun _ _ _=>Iff.rfl⟩
 refine⟨fun i m ZV H2=>m=its.length - i/\P i ZV H2,⟨its.length,by simp,(hP _ _ _).2 ⟨XJ _,W1,O,rfl,ok1,.refl,en.step ok s1,c1,by rw[ZK];exact e⟩⟩,?_⟩;rintro i m ZV H2 ⟨rfl,hi⟩;refine bq fun hG=>?_;obtain⟨hi,W2,ZW,rfl,ok2,s2,en2,c2,e2⟩:=(hP _ _ _).1 hi;obtain⟨hstop,hgo⟩:=hj W2 i ok2 c2 (r1.step ok1 s2);by_cases hlt:i<its.length
 ·have hd:its[i]?=some its[i]:=WP hlt;obtain⟨h1,h2⟩:=hgo _ hd;rw[Xq hlt] at e2;refine q0 e2 fun p e3 e2=>?_;obtain⟨⟨o4,Zr,Zw⟩,e4,e2⟩:=bnd e2;refine(hG (.inr ⟨h1,P (i+1),fun ZZ H' hN=>⟨its.length - (i+1),by omega,rfl,hN⟩,fun x H' hy=>?_⟩));refine bq fun hF=>?_;obtain⟨W3,rfl,ZR,ok3,s3,r3⟩:=h2 x H' hy;refine hF ⟨W3,ZW,its[i],p.1,p.2,rfl,ok3,en2.step ok2 s3,r3,by rw[ZR];exact e3,fun W4 ZP ZC ok4 s4 en4=>⟨W4,p.1,o4,Zr,Zw,rfl,ok4,en4,by rw[ZC];exact e4,fun W5 Zp ZO ok5 s5 en5=>?_⟩⟩;have st:=s2.trans (s3.trans (s4.trans s5));cases o4 with
  |nx=>refine uV e2 fun hc5 e2=>?_;exact(hP _ _ _).2 ⟨hlt,W5,Zr,rfl,ok5,st,en5,by rw[ZO];exact hc5,by rw[ZO];exact e2⟩
  |ct=>refine uV e2 fun hc5 e2=>?_;exact(hP _ _ _).2 ⟨hlt,W5,Zr,rfl,ok5,st,en5,by rw[ZO];exact hc5,by rw[ZO];exact e2⟩
  |bk=>cases e2;exact q W5 Zp ZO ok5 (s1.trans st) en5
  |rt d=>cases e2;exact q W5 Zp ZO ok5 (s1.trans st) en5
 ·have e':i=its.length:=by omega
  subst e';rw[XB (WJ _)] at e2;cases e2;exact hG (.inl ⟨hstop (WJ _),q W2 ZV rfl ok2 (s1.trans s2) en2⟩)
end
structure StepB (p:Addr) (W W':Wd):Prop where
 ρ:∀(k:Nat) a,W.ρ[k]?=some a->W'.ρ[k]?=some a
 live:∀a,RL W' a->RL W a\/W.H a=none
 keep:∀a o,a≠p->W.H a=some o->¬RL W a->W'.H a=some o
 hid:W'.hid=W.hid
 still:∀a,W.H a≠none->W'.H a≠none
section
variable {K:Frag} {W W' W'':Wd} {p:Addr}
theorem Step.b(s:Step W W'):StepB p W W':=⟨s.ρ,s.live,fun a o _ h n=>s.keep a o h n,s.hid,s.still⟩
theorem StepB.nlive(s:StepB p W W'){a:Addr}{o:HO}(h:W.H a=some o)(n:¬RL W a):¬RL W' a:=fun z=>by
 rcases s.live a z with z|z
 ·exact n z
 ·rw[h] at z;cases z
theorem StepB.trans(s:StepB p W W')(t:StepB p W' W''):StepB p W W'' where
 ρ k a h:=t.ρ k a (s.ρ k a h)
 live a h:=by
  rcases t.live a h with z|z
  ·exact s.live a z
  ·exact .inr (XS fun n=>s.still a n z)
 keep a o hp h n:=t.keep a o hp (s.keep a o hp h n) (s.nlive h n)
 hid:=t.hid.trans s.hid
 still a h:=t.still a (s.still a h)
mutual
theorem DR.stepB(ok:Ok K W)(hp:W.hid p)(hl:∃ys,W.H p=some (.lst ys))(s:StepB p W W'):∀{d:D} {v:V},DR K W d v->DR K W' d v
 |_,_,.non=>.non
 |_,_,.bl b=>.bl b
 |_,_,.int i=>.int i
 |_,_,.str x=>.str x
 |_,_,.ref h=>.ref (s.ρ _ _ h)
 |_,_,.lst r n h=>.lst (s.keep _ _ (fun z=>n (.inr (by rw[z];exact hp))) r (fun z=>n (.inl z))) (fun z=>z.elim (s.nlive r (fun z=>n (.inl z))) (fun z=>n (.inr (by rw[s.hid] at z;exact z)))) (DRs.stepB ok hp hl s h)
 |_,_,.scr r h=>.scr (by
   rcases r with⟨o,r⟩|r
   ·obtain⟨ys,hl⟩:=hl;exact .inl ⟨o,s.keep _ _ (fun z=>by rw[z,hl] at r;cases r) r (ok.nofrz r)⟩
   ·exact .inr r) (DRs.stepB ok hp hl s h)
 |_,_,.tup r h=>.tup (by
   obtain⟨ys,hl⟩:=hl;exact s.keep _ _ (fun z=>by rw[z,hl] at r;cases r) r (ok.notup (.inl r))) (DRs.stepB ok hp hl s h)
 |_,_,.gt r h=>.gt (by
   rcases r with r|r
   ·have n:=ok.notup r;obtain⟨ys,hl⟩:=hl;rcases r with r|⟨o,r⟩
    ·exact .inl (.inl (s.keep _ _ (fun z=>by rw[z,hl] at r;cases r) r n))
    ·exact .inl (.inr ⟨o,s.keep _ _ (fun z=>by rw[z,hl] at r;cases r) r n⟩)
   ·exact .inr r) (DRs.stepB ok hp hl s h)
theorem DRs.stepB(ok:Ok K W)(hp:W.hid p)(hl:∃ys,W.H p=some (.lst ys))(s:StepB p W W'):∀{ds:List D} {vs:List V},DRs K W ds vs->DRs K W' ds vs
 |_,_,.nil=>.nil
 |_,_,.cons h t=>.cons (h.stepB ok hp hl s) (DRs.stepB ok hp hl s t)
end
theorem OR.stepB(ok:Ok K W)(hp:W.hid p)(hl:∃ys,W.H p=some (.lst ys))(s:StepB p W W'){a:Addr}{o:Z8}{ho:HO}(h:OR K W a o ho):OR K W' a o ho:=by
 cases o with
 |lst ds=>obtain⟨vs,e,q⟩:=h;exact⟨vs,e,q.stepB ok hp hl s⟩
 |dK kvs=>obtain⟨vs,e,q⟩:=h;exact⟨vs,e,Paired.mapP q fun _ _ ⟨e,q⟩=>⟨e,q.stepB ok hp hl s⟩⟩
 |dN kvs=>obtain⟨vs,e,q⟩:=h;exact⟨vs,e,Paired.mapP q fun _ _ ⟨e,q⟩=>⟨e,q.stepB ok hp hl s⟩⟩
 |ins C fs=>obtain⟨vs,e,q⟩:=h;exact⟨vs,e,Paired.mapP q fun _ _ ⟨e,q⟩=>⟨e,q.stepB ok hp hl s⟩⟩
 |exc C=>exact h
theorem EnvR.stepB{O:G}{B:St}(e:EnvR K W O B)(ok:Ok K W)(hp:W.hid p)(hl:∃ys,W.H p=some (.lst ys))(s:StepB p W W'):EnvR K W' O B:=⟨e.len,fun i d h=>let ⟨v,a,b⟩:=e.at_ i d h;⟨v,a,b.stepB ok hp hl s⟩⟩
def Wd.re(W:Wd)(p:Addr)(o:HO):Wd:={W with H:=upd W.H p o}
theorem we{o:HO}:StepB p W (W.re p o) where
 ρ _ _ h:=h
 live _ h:=.inl h
 keep a u hp e _:=by show upd W.H p o a=_;rw[rG hp];exact e
 hid:=rfl
 still a n:=by
  show upd W.H p o a≠none;by_cases e:a=p
  ·subst e;rw[sF];simp
  ·rw[rG e];exact n
theorem KY(ok:Ok K W)(hp:W.hid p)(hl:∃ys,W.H p=some (.lst ys)){o:HO}:Ok K (W.re p o) where
 len:=ok.len
 nd:=ok.nd
 rs a m:=(we (W:=W) (p:=p) (o:=o)).still a (ok.rs a m)
 at_ k u e:=by
  obtain⟨a,ho,h1,h2,h3⟩:=ok.at_ k u e;have hne:a≠p:=fun z=>(ok.hd p hp).2 (z▸⟨k,u,e,h1⟩);exact⟨a,ho,h1,by show upd W.H p o a=_;rw[rG hne];exact h2,h3.stepB ok hp hl we⟩
 hd0 a z:=⟨(we (W:=W) (p:=p) (o:=o)).still a (ok.hd a z).1,(ok.hd0 a z).2⟩
mutual
theorem DR.hide(hp:W.H p=none)(ok:Ok K W){o:HO}:∀{d:D} {v:V},DR K W d v->DR K (W.hide p o) d v
 |_,_,.non=>.non
 |_,_,.bl b=>.bl b
 |_,_,.int i=>.int i
 |_,_,.str x=>.str x
 |_,_,.ref h=>.ref h
 |_,_,.lst r n h=>.lst (by show upd W.H p o _=_;rw[rG (tG r hp)];exact r) (fun z=>z.elim (fun z=>n (.inl z)) (fun z=>z.elim (fun z=>by rw[z,hp] at r;cases r) (fun z=>n (.inr z)))) (DRs.hide hp ok h)
 |_,_,.scr r h=>.scr (J1 ok (sK hp) r) (DRs.hide hp ok h)
 |_,_,.tup r h=>.tup (by show upd W.H p o _=_;rw[rG (tG r hp)];exact r) (DRs.hide hp ok h)
 |_,_,.gt r h=>.gt (Hq ok (sK hp) r) (DRs.hide hp ok h)
theorem DRs.hide(hp:W.H p=none)(ok:Ok K W){o:HO}:∀{ds:List D} {vs:List V},DRs K W ds vs->DRs K (W.hide p o) ds vs
 |_,_,.nil=>.nil
 |_,_,.cons h t=>.cons (h.hide hp ok) (DRs.hide hp ok t)
end
theorem OR.hide(hp:W.H p=none)(ok:Ok K W){o:HO}{a:Addr}{x:Z8}{ho:HO}(h:OR K W a x ho):OR K (W.hide p o) a x ho:=by
 cases x with
 |lst ds=>obtain⟨vs,e,q⟩:=h;exact⟨vs,e,q.hide hp ok⟩
 |dK kvs=>obtain⟨vs,e,q⟩:=h;exact⟨vs,e,Paired.mapP q fun _ _ ⟨e,q⟩=>⟨e,q.hide hp ok⟩⟩
 |dN kvs=>obtain⟨vs,e,q⟩:=h;exact⟨vs,e,Paired.mapP q fun _ _ ⟨e,q⟩=>⟨e,q.hide hp ok⟩⟩
 |ins C fs=>obtain⟨vs,e,q⟩:=h;exact⟨vs,e,Paired.mapP q fun _ _ ⟨e,q⟩=>⟨e,q.hide hp ok⟩⟩
 |exc C=>exact h
theorem EnvR.hide{O:G}{B:St}(e:EnvR K W O B)(hp:W.H p=none)(ok:Ok K W){o:HO}:EnvR K (W.hide p o) O B:=⟨e.len,fun i d h=>let ⟨v,a,b⟩:=e.at_ i d h;⟨v,a,b.hide hp ok⟩⟩
theorem A3(ok:Ok K W)(hp:W.H p=none){o:HO}:Ok K (W.hide p o) where
 len:=ok.len
 nd:=ok.nd
 rs a m:=(sK (o:=o) hp).still a (ok.rs a m)
 at_ k u e:=by
  obtain⟨a,ho,h1,h2,h3⟩:=ok.at_ k u e;exact⟨a,ho,h1,by show upd W.H p o a=_;rw[rG (tG h2 hp)];exact h2,h3.hide hp ok⟩
 hd0 a z:=by
  rcases z with rfl|z
  ·exact⟨by show upd W.H a o a≠none;rw[sF];simp,fun m=>ok.rs a m hp⟩
  ·exact⟨(sK (o:=o) hp).still a (ok.hd a z).1,(ok.hd0 a z).2⟩
def Wd.show(W:Wd)(h:Addr->Prop):Wd:={W with hid:=h}
mutual
theorem DR.show{h:Addr->Prop}(hs:∀a,h a->W.hid a):∀{d:D} {v:V},DR K W d v->DR K (W.show h) d v
 |_,_,.non=>.non
 |_,_,.bl b=>.bl b
 |_,_,.int i=>.int i
 |_,_,.str x=>.str x
 |_,_,.ref h=>.ref h
 |_,_,.lst r n h=>.lst r (fun z=>n (z.elim .inl (fun z=>.inr (hs _ z)))) (DRs.show hs h)
 |_,_,.scr r h=>.scr r (DRs.show hs h)
 |_,_,.tup r h=>.tup r (DRs.show hs h)
 |_,_,.gt r h=>.gt r (DRs.show hs h)
theorem DRs.show{h:Addr->Prop}(hs:∀a,h a->W.hid a):∀{ds:List D} {vs:List V},DRs K W ds vs->DRs K (W.show h) ds vs
 |_,_,.nil=>.nil
 |_,_,.cons h t=>.cons (h.show hs) (DRs.show hs t)
end
theorem NI(ok:Ok K W){h:Addr->Prop}(hs:∀a,h a->W.hid a):Ok K (W.show h) where
 len:=ok.len
 nd:=ok.nd
 rs:=ok.rs
 at_ k u e:=by
  obtain⟨a,ho,h1,h2,h3⟩:=ok.at_ k u e;refine(⟨a,ho,h1,h2,?_⟩);cases u with
  |lst ds=>obtain⟨vs,e,q⟩:=h3;exact⟨vs,e,q.show hs⟩
  |dK kvs=>obtain⟨vs,e,q⟩:=h3;exact⟨vs,e,Paired.mapP q fun _ _ ⟨e,q⟩=>⟨e,q.show hs⟩⟩
  |dN kvs=>obtain⟨vs,e,q⟩:=h3;exact⟨vs,e,Paired.mapP q fun _ _ ⟨e,q⟩=>⟨e,q.show hs⟩⟩
  |ins C fs=>obtain⟨vs,e,q⟩:=h3;exact⟨vs,e,Paired.mapP q fun _ _ ⟨e,q⟩=>⟨e,q.show hs⟩⟩
  |exc C=>exact h3
 hd0 a z:=ok.hd0 a (hs a z)
theorem N4{o:HO}(hp:W.H p=none)(s:StepB p (W.hide p o) W'):Step W (W'.show W.hid) where
 ρ k a h:=s.ρ k a h
 live a z:=by
  rcases s.live a z with z|z
  ·exact .inl z
  ·have z:upd W.H p o a=none:=z;by_cases e:a=p
   ·subst e;rw[sF] at z;cases z
   ·rw[rG e] at z;exact .inr z
 keep a u e n:=s.keep a u (tG e hp) (by show upd W.H p o a=_;rw[rG (tG e hp)];exact e) n
 hid:=rfl
 still a n:=s.still a (by
  show upd W.H p o a≠none;by_cases e:a=p
  ·subst e;rw[sF];simp
  ·rw[rG e];exact n)
theorem xC(ok:Ok K W)(hp:W.hid p):¬RL W p:=(ok.hd p hp).2
end
def sh(own:List Str)(cap:List (Str×Nat))(O:G):G:=own.map (fun _=>none)++cap.map fun p=>(O[p.2]?).join
theorem EnvR.cap{K:Frag}{W:Wd}{O:G}{B:St}(e:EnvR K W O B)(own:List Str)(cap:List (Str×Nat)):EnvR K W (sh own cap O) (tw own cap B) where
 len:=by simp[sh,tw]
 at_ i d h:=by
  unfold sh at h;unfold tw;by_cases hi:i<own.length
  ·rw[WV (by simpa using hi)] at h;simp[hi] at h
  ·rw[Xn (by simpa using hi)] at h⊢;simp only[WQ,WY] at h⊢;cases hc:cap[i - own.length]? with
   |none=>rw[hc] at h;cases h
   |some p=>
    rw[hc] at h;simp only[Option.map_some] at h⊢;cases hg:O[p.2]? with
    |none=>rw[hg] at h;cases h
    |some x=>
     rw[hg] at h;cases x with
     |none=>cases h
     |some d'=>
      cases h;obtain⟨v,hv,r⟩:=e.at_ _ _ hg;exact⟨v,by rw[hv];rfl,r⟩
def sw(c:Ck)(g:GV)(tc:BV)(te:EV):List D->G->M->Option (List D×M)
 | [],_,L=>some ([],L)
 |d::r,O,L=>(g d O L).bind fun p=>(tc p.1 p.2).bind fun t=>if t.1=true then(te p.1 t.2).bind fun v=>chk (rJ c v.2) ((sw c g tc te r p.1 v.2).bind fun q=>some (v.1::q.1,q.2)) else chk (rJ c t.2) (sw c g tc te r p.1 t.2)
def rE:BV:=fun _ L=>some (true,L)
section
variable {X:Cx} {K:Frag} {N' own:List Str} {cap:List (Str×Nat)} {scope:Scope} {tg iter elt:Expr} {ifs:List Expr} {pos:Pos} {iv:IV} {g:GV} {tc:BV} {te:EV}
theorem Sj{t t':TT}(h:PIf X ifs t)(hi:∀B H Q,t' B H Q->t B H Q):PIf X ifs t':=fun pins s B H Q I hw=>h pins s B H Q I (hi _ _ _ hw)
theorem t9:PIf X [] (tDB K rE):=Sj SB fun B H Q h=>by
 refine el4 h fun W O b Z5 eH ok en e q=>?_;subst eH;cases e;exact q W rfl ok .refl
theorem Fl{c:Expr}(h:PT X c (tDB K tc)):PIf X [c] (tDB K tc):=SH h
theorem GI{W1:Wd}{Z6:It}{its:List D}{c:Ck}{ZF:G}{ZN:St}{rs:List D}{Z5:M}{p:Addr}{Z:Hp->Prop}(ok1:Ok K W1)(hp:W1.H p=none)(jr:JR K W1 Z6 its c)(en:EnvR K W1 ZF ZN)(hl:its.length<=1000000)
  (e:sw c g tc te its ZF W1.L=some (rs,Z5)) (hZ:∀W' ys,W'.L=Z5->Ok K W'->StepB p (W1.hide p (.lst [])) W'->W'.hid p->W'.H p=some (.lst ys)->DRs K W' rs ys->Z W'.H):
  zL Z6 (tDG K g) (tDB K tc) (tD K te) p ZN W1.H Z:=by
 obtain⟨c1,ds,vs,r1,hj⟩:=jr;obtain⟨P,hP⟩:∃P:Nat->St->Hp->Prop,∀i ZV H2,P i ZV H2↔(i<=its.length/\∃W2 ZW done rA ys,W2.H=H2/\Ok K W2/\StepB p (W1.hide p (.lst [])) W2/\W2.hid p/\W2.H p=some (.lst ys)/\DRs K W2 done ys/\ys.length<=i/\EnvR K W2 ZW ZV/\rJ c W2.L/\sw c g tc te (its.drop i) ZW W2.L=some (rA,Z5)/\done++rA=rs):=⟨_,fun _ _ _=>Iff.rfl⟩
 refine⟨fun i m ZV H2=>m=its.length - i/\P i ZV H2,?_,?_⟩
 ·exact⟨its.length,by simp,(hP _ _ _).2 ⟨XJ _,W1.hide p (.lst []),ZF,[],rs,[],rfl,A3 ok1 hp,⟨fun _ _ h=>h,fun _ h=>.inl h,fun _ _ _ h _=>h,rfl,fun _ h=>h⟩,.inl rfl,sF,.nil,WJ _,en.hide hp ok1,c1,e,rfl⟩⟩
 rintro i m ZV H2 ⟨rfl,hi⟩;refine bq fun hG=>?_;obtain⟨hi,W2,ZW,done,rA,ys,rfl,ok2,s2,hp2,hy2,rd,hyl,en2,c2,e2,ed⟩:=(hP _ _ _).1 hi;have rj:DRs K W2 ds vs:=(r1.hide hp ok1).stepB (A3 ok1 hp) (.inl rfl) ⟨[],sF⟩ s2;obtain⟨hstop,hgo⟩:=hj W2 i ok2 c2 rj;by_cases hlt:i<its.length
 ·have hd:its[i]?=some its[i]:=WP hlt;obtain⟨h1,h2⟩:=hgo _ hd;rw[Xq hlt] at e2;refine q0 e2 fun pg e3 e2=>?_;refine q0 e2 fun pt e4 e2=>?_;refine(hG (.inr ⟨h1,P (i+1),fun ZZ H' hN=>⟨its.length - (i+1),by omega,rfl,hN⟩,fun x H' hy=>?_⟩));refine bq fun hF=>?_;obtain⟨W3,rfl,ZR,ok3,s3,r3⟩:=h2 x H' hy;refine hF ⟨W3,ZW,its[i],pg.1,pg.2,rfl,ok3,en2.step ok2 s3,r3,by rw[ZR];exact e3,fun W4 ZP ZC ok4 s4 en4=>⟨W4,pg.1,pt.1,pt.2,rfl,ok4,en4,by rw[ZC];exact e4,fun W5 ZO ok5 s5=>?_⟩⟩;have s25:=s3.trans (s4.trans s5);split at e2
  ·rename_i ht;refine q0 e2 fun pv e5 e2=>?_;refine uV e2 fun c5 e2=>?_;refine q0 e2 fun pq e6 e2=>?_;cases e2;refine wH (fun _=>?_) (fun n=>absurd ht n);refine⟨W5,pg.1,pv.1,pv.2,rfl,ok5,en4.step ok4 s5,by rw[ZO];exact e5,fun v W6 Zv ok6 s6 r6=>?_⟩;have s26:=s25.trans s6;have hp6:W6.hid p:=by rw[s26.hid];exact hp2
   have hy6:W6.H p=some (.lst ys):=s26.keep _ _ hy2 (xC ok2 hp2);have rd6:=rd.step ok2 s26;refine⟨ys,hy6,zh (by omega),(hP _ _ _).2 ⟨hlt,W6.re p (.lst (ys++[v])),pg.1,done++[pv.1],pq.1,ys++[v],rfl,KY ok6 hp6 ⟨_,hy6⟩,(s2.trans s26.b).trans we,hp6,sF,?_,by simp;omega,(((en4.step ok4 s5).step ok5 s6).stepB ok6 hp6 ⟨_,hy6⟩ we),by show rJ c W6.L;rw[Zv];exact c5,by show sw c g tc te _ _ W6.L=_;rw[Zv];exact e6,by simpa using ed⟩⟩;exact(rd6.append (.cons r6 .nil)).stepB ok6 hp6 ⟨_,hy6⟩ we
  ·rename_i ht;refine uV e2 fun c5 e2=>?_;refine wH (fun n=>absurd n ht) (fun _=>?_);exact(hP _ _ _).2 ⟨hlt,W5,pg.1,done,rA,ys,rfl,ok5,s2.trans s25.b,by rw[s25.hid];exact hp2,s25.keep _ _ hy2 (xC ok2 hp2),rd.step ok2 s25,by omega,en4.step ok4 s5,by rw[ZO];exact c5,by rw[ZO];exact e2,ed⟩
 ·have e':i=its.length:=by omega
  subst e';rw[XB (WJ _)] at e2;cases e2;rw[XC] at ed;subst ed;exact hG (.inl ⟨hstop (WJ _),hZ W2 ys rfl ok2 s2 hp2 hy2 rd⟩)
def sC(own:List Str)(cap:List (Str×Nat))(iv:IV)(g:GV)(tc:BV)(te:EV):EV:=fun O L=>(iv O L).bind fun s=>if s.1.1.length<=1000000 then(sw s.1.2 g tc te s.1.1 (sh own cap O) s.2).bind fun q=>some (.lst q.1,q.2) else none
theorem Dv{W W1 W':Wd}{p:Addr}{rs:List D}{ys:List V}(s1:Step W W1)(hp:W1.H p=none)(ok1:Ok K W1)(ok':Ok K W')(s:StepB p (W1.hide p (.lst [])) W')(hp':W'.hid p)(hy:W'.H p=some (.lst ys))(r:DRs K W' rs ys):
  Ok K (W'.show W1.hid)/\Step W (W'.show W1.hid)/\DR K (W'.show W1.hid) (.lst rs) (.ref p):=by
 have hs:∀a,W1.hid a->W'.hid a:=fun a z=>by rw[s.hid];exact .inr z
 refine⟨NI ok' hs,s1.trans (N4 hp s),.lst hy (fun z=>?_) (r.show hs)⟩;rcases z with z|z
 ·exact xC ok' hp' z
 ·exact GD ok1 hp z
theorem PQ{W:Wd}{O:G}{B:St}{d:D}{Z5:M}(ok:Ok K W)(en:EnvR K W O B)(e:sC own cap iv g tc te O W.L=some (d,Z5)){Z:Addr->Hp->Prop}(q:∀v W',W'.L=Z5->Ok K W'->Step W W'->DR K W' d v->∀p,v=.ref p->Z p W'.H):
  tDI K iv B W.H fun Z6 H1=>∀p,H1 p=none->zL Z6 (tDG K g) (tDB K tc) (tD K te) p (tw own cap B) H1 (Z p):=by
 obtain⟨⟨⟨its,c⟩,Z4⟩,e1,e⟩:=bnd e;refine(⟨W,O,its,c,Z4,rfl,ok,en,e1,fun Z6 W1 ZK ok1 s1 jr p hp=>?_⟩);split at e
 ·rename_i hl;obtain⟨⟨rs,Z3⟩,e2,e⟩:=bnd e;cases e;refine GI ok1 hp jr ((en.step ok s1).cap own cap) hl (by rw[ZK];exact e2) fun W' ys Zl ok' s' hp' hy r=>?_;obtain⟨a1,a2,a3⟩:=Dv s1 hp ok1 ok' s' hp' hy r;exact(q _ (W'.show W1.hid) Zl a1 a2 a3 p rfl)
 ·cases e
theorem u8(S:CompScope X N' own cap scope)(hi:PI X tg iter (tDI K iv))
  (hg:∀cl C Z2 Z0 ex,PG (rq X N' scope cl C Z2 Z0 ex) tg (tDG K g)) (ht:∀cl C Z2 Z0 ex,PIf (rq X N' scope cl C Z2 Z0 ex) ifs (tDB K tc)) (he:∀cl C Z2 Z0 ex,PE (rq X N' scope cl C Z2 Z0 ex) elt (tD K te))
  (hx:∀e s,X.xe e s->False:=by exact fun _ _ z=>z) (hc:X.calm=true:=by rfl) (hs:∀x,foldedSetIterable iter X.env x=pure x:=by intro _;rfl):
  PE X (.ListComp elt [⟨tg,iter,ifs,0⟩] scope pos) (tD K (sC own cap iv g tc te)):=rO (MS S hi hg ht he hx hc hs) fun B H Q h=>by
 refine el4 h fun W O d Z5 eH ok en e q=>?_;subst eH;exact PQ ok en e fun v W' h1 h2 h3 h4 p hv=>by subst hv;exact q _ W' h1 h2 h3 h4
end
open PyProof.Rows (envOfC)
def rY(n m:Nat)(es:SV):C0:=fun ds L=>if ds.length=m then(es (ds.map some++List.replicate (n - ds.length) none) L).bind fun o=>match o.1 with
  | .rt d=>some (d,o.2.2)
  | .nx=>some (.non,o.2.2)
  |_=>none
 else none
section
variable {P:Program} {w:World} {K:Frag} {mg:Str->Option Value} {base:Heap}
theorem JS{W:Wd}{ds:List D}{vs:List V}{n:Nat}(r:DRs K W ds vs):EnvR K W (ds.map some++List.replicate (n - ds.length) none) (vs.map some++List.replicate (n - vs.length) none) where
 len:=by simp[r.length]
 at_ i d h:=by
  by_cases hi:i<ds.length
  ·rw[WV (by simpa using hi)] at h;rw[WV (by simpa using r.length▸hi)];simp only[WY] at h⊢;cases hd:ds[i]? with
   |none=>rw[hd] at h;cases h
   |some d'=>
    rw[hd] at h;cases h;obtain⟨v,hv,q⟩:=r.get hd;exact⟨v,by rw[hv];rfl,q⟩
  ·rw[Xn (by simpa using hi)] at h;simp[List.getElem?_replicate] at h
theorem sq{x qual:Str}{st:Stmt}{f:Addr}{fd:FuncData}{N ps:List Str}{k:Nat}{es:SV}(F:Fun K x qual st f fd)(S:FnScope N ps (rh st))
  (hb:∀(cdv:Value) (A:Around) (outer:List Env) (s:Shared) (H:Hp) (E:XK),Room k (A.deeper (envOfC qual (rh st) s.heap.objs.size f cdv))->PSs (rV CX0 P w K mg base N qual (rh st) f cdv A outer s H E).nox (rN st) (tDS K es)):
  FnOk P w K mg base CX0 (k+1) f fd ps (spM K (rY N.length ps.length es)):=by
 refine F.ok S (fun vs H Q E h=>?_) (fun cdv A outer s H vs Q E hr h=>?_)
 ·obtain⟨W,ds,d,Z5,_,_,r,e,_⟩:=h;unfold rY at e;split at e
  ·rename_i hl;rw[←r.length];exact hl
  ·cases e
 ·obtain⟨W,ds,d,Z5,rfl,ok,r,e,q⟩:=h;refine⟨_,hb cdv A outer s W.H E hr,?_⟩;unfold rY at e;split at e
  ·obtain⟨⟨o,ZX,Z3⟩,e1,e⟩:=bnd e;refine⟨W,_,o,ZX,Z3,rfl,ok,JS r,e1,fun W' ZZ Z1 ok' s' en'=>?_⟩;cases o with
   |rt z=>cases e;exact fun v rv=>q v W' Z1 ok' s' rv
   |nx=>cases e;exact q _ W' Z1 ok' s' .non
   |bk=>cases e
   |ct=>cases e
  ·cases e
end
section
variable {X:Cx} {K:Frag} {a b c e:Expr} {ea eb ec:EV} {pos p:Pos}
theorem R2A.or{r r':R2}{f g h:D->D->M->Fr}(ra:R2A K r f)(rb:R2A K r' g)(hh:∀x y L z,h x y L=some z->f x y L=some z\/g x y L=some z):R2A K (fun x y H Q=>r x y H Q\/r' x y H Q) h:=by
 intro W x y d e z Z5 Q ok r1 r2 hf q;rcases hh _ _ _ _ hf with hf|hf
 ·exact .inl (ra W x y d e z Z5 Q ok r1 r2 hf q)
 ·exact .inr (rb W x y d e z Z5 Q ok r1 r2 hf q)
theorem ra_cat:R2A K KB Ap:=by
 intro W x y d e z Z5 Q ok r1 r2 hf q;refine q0 hf fun xs hx hf=>?_;refine q0 hf fun ys hy hf=>?_;split at hf
 ·rename_i hl;cases hf;obtain⟨a,vs,rfl,ha,hv⟩:=Fn ok hx r1;obtain⟨b,us,rfl,hb,hu⟩:=Fn ok hy r2;exact⟨a,b,vs,us,rfl,rfl,ha,hb,vY (by rw[←hv.length,←hu.length];omega),fun p hp=>q _ (W.lay p (.lst (vs++us))) rfl (tQ ok hp) (sK hp) (Ad ok hp (hv.append hu))⟩
 ·cases hf
theorem PB:R2A K Hv FL:=by
 intro W x y d e z Z5 Q ok r1 r2 hf q;refine q0 hf fun xs hx hf=>?_;split at hf
 ·split at hf
  ·rename_i hl;cases hf;cases r2;obtain⟨a,vs,rfl,ha,hv⟩:=Fn ok hx r1;exact⟨a,_,vs,rfl,rfl,ha,by omega,by omega,vY (by rw[←hv.length];omega),fun p hp=>q _ (W.lay p _) rfl (tQ ok hp) (sK hp) (Ad ok hp (hv.rep _))⟩
  ·cases hf
 ·cases hf
def Aw(x y:D)(L:M):Fr:=match x with
 | .tup xs=>(vg y).bind fun ys=>if xs≠[]/\xs.length+ys.length<=1000000 then some (.tup (xs++ys),L) else none
 |_=>none
noncomputable instance{J:Type}{xs:List J}:Decidable (xs≠[]):=by cases xs<;>simp<;>infer_instance
theorem Tf:R2A K (FN K) Aw:=by
 intro W x y d e z Z5 Q ok r1 r2 hf q;unfold Aw at hf;split at hf
 ·rename_i xs;refine q0 hf fun ys hy hf=>?_;split at hf
  case isFalse=>cases hf
  rename_i hl;cases hf;have rr:=r1;obtain⟨a,vs,rfl,ha,hv⟩:=w8 (ds:=xs) rfl r1;obtain⟨b,us,rfl,hb,hu⟩:=w8 hy r2;refine⟨a,b,vs,us,rfl,rfl,ha,hb,fun z=>?_,vY (by rw[←hv.length,←hu.length];omega),fun z=>?_,fun _ p hp=>q _ (W.lay p (.tup (vs++us))) rfl (tQ ok hp) (sK hp) (w5 ok hp (hv.append hu))⟩
  ·have:=hv.length;rw[z] at this;exact hl.1 (XY.mp this)
  ·have h0:=hu.length;rw[z] at h0;have h1:=XY.mp h0;subst h1;refine q _ W rfl ok .refl ?_;rw[XC];exact rr
 ·cases hf
def rP(x y:D)(L:M):Fr:=match x with
 | .int i=>match y with
  | .int j=>some (.int (i+j),L)
  |_=>none
 | .tup _=>Aw x y L
 |_=>Ap x y L
theorem sW(ha:PE X a (tD K ea))(hb:PE X b (tD K eb))(hK:X.K=K:=by rfl):PE X (.BinOp a .Add b pos) (tD K (v2 rP ea eb)):=by
 subst hK;refine yg (op_add.or (op_cat.or P1)) ((wT (h:=fun i j=>.int (i+j)) fun _ _ _=>.int _).or (ra_cat.or Tf (h:=fun x y L=>match x with| .tup _=>Aw x y L|_=>Ap x y L) fun x y L z h=>?_) fun x y L z h=>?_) ha hb
 ·split at h
  ·exact .inr h
  ·exact .inl h
 ·unfold rP at h;split at h
  ·split at h
   ·exact .inl h
   ·cases h
  ·exact .inr h
  ·rename_i h1 h2;refine .inr ?_;split
   ·exact absurd rfl (h2 _)
   ·exact h
def vB(x y:D)(L:M):Fr:=match x with
 | .int i=>match y with
  | .int j=>if CMul i j then some (.int (i*j),L) else none
  |_=>none
 |_=>FL x y L
theorem EY(ha:PE X a (tD K ea))(hb:PE X b (tD K eb)):PE X (.BinOp a .Mult b pos) (tD K (v2 vB ea eb)):=by
 refine yg (op_mul.or UC) ((BP (C:=CMul) (h:=fun i j=>.int (i*j)) fun _ _ _=>.int _).or PB fun x y L z h=>?_) ha hb;unfold vB at h;split at h
 ·split at h
  ·exact .inl h
  ·cases h
 ·exact .inr h
def vt(f g:D->D->M->Fr)(ea eb ec:EV):EV:=fun O L=>(ea O L).bind fun p=>(eb O p.2).bind fun q=>(f p.1 q.1 q.2).bind fun t=>match t.1 with
 | .bl true=>(ec O t.2).bind fun r=>g q.1 r.1 r.2
 | .bl false=>some (.bl false,t.2)
 |_=>none
theorem Tx{r r':R2}{f g:D->D->M->Fr}(ra:R2A K r f)(rb:R2A K r' g):∀B H Q,tD K (vt f g ea eb ec) B H Q->IU r r' (tD K ea) (tD K eb) (tD K ec) B H Q:=fun B H Q h=>by
 refine el4 h fun W O d Z5 eH ok en e q=>?_;subst eH;refine q0 e fun p1 e1 e=>?_;refine q0 e fun p2 e2 e=>?_;refine q0 e fun p3 e3 e=>?_;refine⟨W,O,p1.1,p1.2,rfl,ok,en,e1,fun x W1 Z1 ok1 s1 r1=>⟨W1,O,p2.1,p2.2,rfl,ok1,en.step ok s1,by rw[Z1];exact e2,fun y W2 ZU ok2 s2 r2=>?_⟩⟩;refine ra W2 x y _ _ _ _ _ ok2 (r1.step ok1 s2) r2 (by rw[ZU];exact e3) fun v W3 ZR ok3 s3 r3=>?_;split at e
 ·rename_i hp;rw[hp] at r3;cases r3;refine q0 e fun p4 e4 e=>?_;refine⟨true,rfl,DI ⟨W3,O,p4.1,p4.2,rfl,ok3,((en.step ok s1).step ok1 s2).step ok2 s3,by rw[ZR];exact e4,fun z W4 ZC ok4 s4 r4=>?_⟩⟩;exact rb W4 y z _ _ _ _ _ ok4 ((r2.step ok2 s3).step ok3 s4) r4 (by rw[ZC];exact e) fun v5 W5 ZO ok5 s5 r5=>q v5 W5 ZO ok5 (s1.trans (s2.trans (s3.trans (s4.trans s5)))) r5
 ·rename_i hp;rw[hp] at r3;cases r3;cases e;exact⟨false,rfl,CH (q _ W3 ZR ok3 (s1.trans (s2.trans s3)) (.bl _))⟩
 ·cases e
theorem Ma{op op':CmpOp}{r r':R2}{f g:D->D->M->Fr}(ho:OpR X (compareOp op) r)(ra:R2A K r f)(ho':OpR X (compareOp op') r')(rb:R2A K r' g)(ha:PE X a (tD K ea))(hb:PE X b (tD K eb))(hc:PE X c (tD K ec))
  (hm:lastMarks [op,op'] [b,c]=false:=by with_unfolding_all rfl):PT X (.Compare a [op,op'] [b,c] pos) (tDB K (vT (vt f g ea eb ec))):=wP (Td ho ho' ha hb hc hm) (Cy (Tx ra rb))
theorem LC:R2A K (rI0 fun i j=>.bl (decide (i<j))) fLt:=wT fun _ _ _=>.bl _
theorem Ka:R2A K (rI0 fun i j=>.bl (decide (i<=j))) fLe:=wT fun _ _ _=>.bl _
end
section
variable {X:Cx} {K:Frag} {ea eb:EV} {pos p:Pos}
def wY(ds:List D):List D:=ds.zipIdx.map fun x=>D.tup [.int (x.2:Nat),x.1]
theorem PV{ds:List D}{i:Nat}{d:D}(h:(wY ds)[i]?=some d):∃x,ds[i]?=some x/\d=.tup [.int (i:Nat),x]:=by
 unfold wY at h;rw[WY] at h;simp only[List.getElem?_zipIdx] at h;cases hx:ds[i]? with
 |none=>rw[hx] at h;cases h
 |some x=>rw[hx] at h;simp at h;exact⟨x,rfl,h.symm⟩
def Ft(ea:EV):IV:=fun O L=>(ea O L).bind fun p=>(lsC p.2 p.1).bind fun s=>some ((wY s.1,s.2),p.2)
theorem QW(ml:X.mg "enumerate"=none) {a:Expr} {elts:List Expr} {k:Nat} {tpos:Pos} (ha:PE X a (tD K ea)) (hg:Gl X "enumerate":=by rfl) (hs:starEach [a] X.env=[(false,eval a X.env)]:=by rfl) (hK:X.K=K:=by rfl):
  PI X (.Tuple elts k tpos) (.Call (.Name "enumerate" p) [a] [] pos) (tDI K (Ft ea)):=xw (iEn K ml ha hg hs hK) fun B H R h=>by
 refine el5 h fun W O its c Z5 eH ok en e q=>?_;subst eH;refine q0 e fun p1 e1 e=>?_;obtain⟨⟨ds,c'⟩,e2,e⟩:=bnd e;cases e;refine(⟨W,O,p1.1,p1.2,rfl,ok,en,e1,fun v W1 Z1 ok1 s1 r1=>?_⟩);obtain⟨c0,a,rfl,hh⟩:=DM ok1 (by rw[Z1];exact e2) r1;obtain⟨vs0,h0,_⟩:=hh W1 ok1 c0 r1;refine(⟨a,rfl,⟨_,h0⟩,q (Ite K a) W1 Z1 ok1 s1 ⟨c0,[p1.1],[.ref a],.cons r1 .nil,fun W2 i ok2 c2 r2=>?_⟩⟩);cases r2 with
 |cons r2 _=>
  obtain⟨vs,hs,hv⟩:=hh W2 ok2 c2 r2;refine⟨fun hi=>⟨vs,hs,by rw[←hv.length];simpa[wY] using hi⟩,fun d hd=>?_⟩;obtain⟨x,hx,rfl⟩:=PV hd;obtain⟨v,hv1,hv2⟩:=hv.get hx;refine(⟨⟨vs,v,hs,hv1⟩,fun y H' hy=>?_⟩);obtain⟨p,u,rfl,hp,rfl,hu⟩:=hy;have:=hu vs hs;rw[hv1] at this;cases this;exact⟨W2.lay p _,rfl,rfl,tQ ok2 hp,sK hp,w5 ok2 hp (.cons (.int _) (.cons hv2 .nil))⟩
def tW:List D->List D->List D
 |x::xs,y::ys=>.tup [x,y]::tW xs ys
 |_,_=>[]
theorem Gu:∀{xs ys:List D} {i:Nat} {d:D},(tW xs ys)[i]?=some d->∃x y,xs[i]?=some x/\ys[i]?=some y/\d=.tup [x,y]
 | [],_,_,_,h=>by simp[tW] at h
 |_::_,[],_,_,h=>by simp[tW] at h
 |x::xs,y::ys,0,d,h=>by simp[tW] at h;exact⟨x,y,rfl,rfl,h.symm⟩
 |x::xs,y::ys,i+1,d,h=>by simp only[tW,List.getElem?_cons_succ] at h⊢;exact Gu h
theorem HQ:∀{xs ys:List D} {i:Nat},(tW xs ys).length<=i->xs.length<=i\/ys.length<=i
 | [],_,_,_=>by simp
 |_::_,[],_,_=>by simp
 |x::xs,y::ys,0,h=>by simp[tW] at h
 |x::xs,y::ys,i+1,h=>by
  simp only[tW,Xi,Nat.add_le_add_iff_right] at h⊢;exact HQ h
def ivZ(ea eb:EV):IV:=fun O L=>(ea O L).bind fun p=>(eb O p.2).bind fun q=>match p.1,q.1 with
 | .lst xs,.lst ys=>some ((tW xs ys,none),q.2)
 |_,_=>none
theorem Ll(ml:X.mg "zip"=none) {a b:Expr} {elts:List Expr} {k:Nat} {tpos:Pos} (ha:PE X a (tD K ea)) (hb:PE X b (tD K eb)) (hg:Gl X "zip":=by rfl) (hs:starEach [a,b] X.env=[(false,eval a X.env),(false,eval b X.env)]:=by rfl) (hs2:starEach [b] X.env=[(false,eval b X.env)]:=by rfl) (hK:X.K=K:=by rfl):
  PI X (.Tuple elts k tpos) (.Call (.Name "zip" p) [a,b] [] pos) (tDI K (ivZ ea eb)):=xw (iZ K ml ha hb hg hs hs2 hK) fun B H R h=>by
 refine el5 h fun W O its c Z5 eH ok en e q=>?_;subst eH;refine q0 e fun p1 e1 e=>?_;refine q0 e fun p2 e2 e=>?_;split at e
 ·rename_i xs ys hx hy;cases e;refine⟨W,O,p1.1,p1.2,rfl,ok,en,e1,fun v W1 Z1 ok1 s1 r1=>⟨W1,O,p2.1,p2.2,rfl,ok1,en.step ok s1,by rw[Z1];exact e2,fun u W2 ZU ok2 s2 r2=>?_⟩⟩;rw[hx] at r1;rw[hy] at r2;have r1:=r1.step ok1 s2;have rr1:=r1;have rr2:=r2;cases r1 with
  |lst h1 n1 hs1=>
   cases r2 with
   |lst h2 n2 hs2=>
    rename_i a1 vs1 a2 vs2;refine⟨a1,a2,rfl,⟨_,SqL.of h1⟩,⟨_,SqL.of h2⟩,q (Itz K a1 a2) W2 ZU ok2 (s1.trans s2) ⟨trivial,[.lst xs,.lst ys],[.ref a1,.ref a2],.cons rr1 (.cons rr2 .nil),fun W3 i ok3 _ r3=>?_⟩⟩;cases r3 with
    |cons q1 r3=>
     cases r3 with
     |cons q2 _=>
      cases q1 with
      |lst g1 _ k1=>
       cases q2 with
       |lst g2 _ k2=>
        refine⟨fun hi=>⟨_,_,SqL.of g1,SqL.of g2,by rw[←k1.length,←k2.length];exact HQ hi⟩,fun d hd=>?_⟩;obtain⟨x,y,hx1,hy1,rfl⟩:=Gu hd;obtain⟨v1,hv1,rv1⟩:=k1.get hx1;obtain⟨v2,hv2,rv2⟩:=k2.get hy1;refine(⟨⟨_,_,v1,v2,SqL.of g1,SqL.of g2,hv1,hv2⟩,fun z H' hz=>?_⟩);obtain⟨p,w1,w2,rfl,hp,rfl,hw1,hw2⟩:=hz;have t1:=hw1 _ (SqL.of g1);have t2:=hw2 _ (SqL.of g2);rw[hv1] at t1;rw[hv2] at t2;cases t1;cases t2;exact(⟨W3.lay p _,rfl,rfl,tQ ok3 hp,sK hp,w5 ok3 hp (.cons rv1 (.cons rv2 .nil))⟩)
 ·cases e
end
def vf(c:Ck)(g:GV)(tc:BV)(te:EV):List D->G->M->Option (List D×G×M)
 | [],O,L=>some ([],O,L)
 |d::r,O,L=>(g d O L).bind fun p=>(tc p.1 p.2).bind fun t=>if t.1=true then(te p.1 t.2).bind fun v=>chk (rJ c v.2) ((vf c g tc te r p.1 v.2).bind fun q=>some (v.1::q.1,q.2)) else chk (rJ c t.2) (vf c g tc te r p.1 t.2)
def uk(c:Ck)(g:GV)(tc:BV)(iv2:IV)(g2:GV)(tc2:BV)(te:EV):List D->G->M->Option (List D×M)
 | [],_,L=>some ([],L)
 |d::r,O,L=>(g d O L).bind fun p=>(tc p.1 p.2).bind fun t=>if t.1=true then(iv2 p.1 t.2).bind fun s=>(vf s.1.2 g2 tc2 te s.1.1 p.1 s.2).bind fun q=>chk (rJ c q.2.2) ((uk c g tc iv2 g2 tc2 te r q.2.1 q.2.2).bind fun z=>some (q.1++z.1,z.2)) else chk (rJ c t.2) (uk c g tc iv2 g2 tc2 te r p.1 t.2)
section
variable {X:Cx} {K:Frag} {N' own:List Str} {cap:List (Str×Nat)} {scope:Scope} {tg iter elt tg2 iter2:Expr} {ifs ifs2:List Expr} {pos:Pos} {iv iv2:IV} {g g2:GV} {tc tc2:BV} {te:EV}
theorem Ro{W:Wd}{Z6:It}{its:List D}{c:Ck}{ZF:G}{ZN:St}{done0 rs:List D}{ys0:List V}{ZX:G}{Z5:M}{p:Addr}{Z:St->Hp->Prop}(ok:Ok K W)(hp:W.hid p)(hy:W.H p=some (.lst ys0))(rd0:DRs K W done0 ys0)(jr:JR K W Z6 its c)(en:EnvR K W ZF ZN)
  (e:vf c g tc te its ZF W.L=some (rs,ZX,Z5)) (hl:done0.length+rs.length<=1000000) (hZ:∀W' ZZ ys,W'.L=Z5->Ok K W'->StepB p W W'->W'.hid p->W'.H p=some (.lst ys)->DRs K W' (done0++rs) ys->EnvR K W' ZX ZZ->Z ZZ W'.H):
  CO Z6 (tDG K g) (tDB K tc) (tD K te) p ZN W.H Z:=by
 obtain⟨c1,ds,vs,r1,hj⟩:=jr;obtain⟨P,hP⟩:∃P:Nat->St->Hp->Prop,∀i ZV H2,P i ZV H2↔(i<=its.length/\∃W2 ZW done rA ys,W2.H=H2/\Ok K W2/\StepB p W W2/\W2.hid p/\W2.H p=some (.lst ys)/\DRs K W2 done ys/\EnvR K W2 ZW ZV/\rJ c W2.L/\vf c g tc te (its.drop i) ZW W2.L=some (rA,ZX,Z5)/\done++rA=done0++rs):=⟨_,fun _ _ _=>Iff.rfl⟩
 refine⟨fun i m ZV H2=>m=its.length - i/\P i ZV H2,?_,?_⟩
 ·exact⟨its.length,by simp,(hP _ _ _).2 ⟨XJ _,W,ZF,done0,rs,ys0,rfl,ok,Step.refl.b,hp,hy,rd0,en,c1,e,rfl⟩⟩
 rintro i m ZV H2 ⟨rfl,hi⟩;refine bq fun hG=>?_;obtain⟨hi,W2,ZW,done,rA,ys,rfl,ok2,s2,hp2,hy2,rd,en2,c2,e2,ed⟩:=(hP _ _ _).1 hi;have rj:DRs K W2 ds vs:=r1.stepB ok hp ⟨_,hy⟩ s2;obtain⟨hstop,hgo⟩:=hj W2 i ok2 c2 rj;by_cases hlt:i<its.length
 ·have hd:its[i]?=some its[i]:=WP hlt;obtain⟨h1,h2⟩:=hgo _ hd;rw[Xq hlt] at e2;refine q0 e2 fun pg e3 e2=>?_;refine q0 e2 fun pt e4 e2=>?_;refine(hG (.inr ⟨h1,P (i+1),fun ZZ H' hN=>⟨its.length - (i+1),by omega,rfl,hN⟩,fun x H' hy=>?_⟩));refine bq fun hF=>?_;obtain⟨W3,rfl,ZR,ok3,s3,r3⟩:=h2 x H' hy;refine hF ⟨W3,ZW,its[i],pg.1,pg.2,rfl,ok3,en2.step ok2 s3,r3,by rw[ZR];exact e3,fun W4 ZP ZC ok4 s4 en4=>⟨W4,pg.1,pt.1,pt.2,rfl,ok4,en4,by rw[ZC];exact e4,fun W5 ZO ok5 s5=>?_⟩⟩;have s25:=s3.trans (s4.trans s5);split at e2
  ·rename_i ht;refine q0 e2 fun pv e5 e2=>?_;refine uV e2 fun c5 e2=>?_;obtain⟨⟨q1,Ze,Za⟩,e6,e2⟩:=bnd e2;cases e2;refine(wH (fun _=>?_) (fun n=>absurd ht n));refine⟨W5,pg.1,pv.1,pv.2,rfl,ok5,en4.step ok4 s5,by rw[ZO];exact e5,fun v W6 Zv ok6 s6 r6=>?_⟩;have s26:=s25.trans s6;have hp6:W6.hid p:=by rw[s26.hid];exact hp2
   have hy6:W6.H p=some (.lst ys):=s26.keep _ _ hy2 (xC ok2 hp2);have rd6:=rd.step ok2 s26;have hlen:ys.length<1000000:=by
    have h1:=congrArg List.length ed;simp only[XA,Xi] at h1;rw[←rd.length];omega
   refine⟨ys,hy6,zh (by omega),(hP _ _ _).2 ⟨hlt,W6.re p (.lst (ys++[v])),pg.1,done++[pv.1],q1,ys++[v],rfl,KY ok6 hp6 ⟨_,hy6⟩,(s2.trans s26.b).trans we,hp6,sF,?_,(((en4.step ok4 s5).step ok5 s6).stepB ok6 hp6 ⟨_,hy6⟩ we),by show rJ c W6.L;rw[Zv];exact c5,by show vf c g tc te _ _ W6.L=_;rw[Zv];exact e6,by simpa using ed⟩⟩;exact(rd6.append (.cons r6 .nil)).stepB ok6 hp6 ⟨_,hy6⟩ we
  ·rename_i ht;refine uV e2 fun c5 e2=>?_;refine wH (fun n=>absurd n ht) (fun _=>?_);exact(hP _ _ _).2 ⟨hlt,W5,pg.1,done,rA,ys,rfl,ok5,s2.trans s25.b,by rw[s25.hid];exact hp2,s25.keep _ _ hy2 (xC ok2 hp2),rd.step ok2 s25,en4.step ok4 s5,by rw[ZO];exact c5,by rw[ZO];exact e2,ed⟩
 ·have e':i=its.length:=by omega
  subst e';rw[XB (WJ _)] at e2;cases e2;rw[XC] at ed;subst ed;exact hG (.inl ⟨hstop (WJ _),hZ W2 ZV ys rfl ok2 s2 hp2 hy2 rd en2⟩)
theorem Py{W1:Wd}{Z6:It}{its:List D}{c:Ck}{ZF:G}{ZN:St}{rs:List D}{Z5:M}{p:Addr}{Z:Hp->Prop}(ok1:Ok K W1)(hp:W1.H p=none)(jr:JR K W1 Z6 its c)(en:EnvR K W1 ZF ZN)(hl:rs.length<=1000000)
  (e:uk c g tc iv2 g2 tc2 te its ZF W1.L=some (rs,Z5)) (hZ:∀W' ys,W'.L=Z5->Ok K W'->StepB p (W1.hide p (.lst [])) W'->W'.hid p->W'.H p=some (.lst ys)->DRs K W' rs ys->Z W'.H):
  yp Z6 (tDG K g) (tDB K tc) (tDI K iv2) (tDG K g2) (tDB K tc2) (tD K te) p ZN W1.H Z:=by
 obtain⟨c1,ds,vs,r1,hj⟩:=jr;obtain⟨P,hP⟩:∃P:Nat->St->Hp->Prop,∀i ZV H2,P i ZV H2↔(i<=its.length/\∃W2 ZW done rA ys,W2.H=H2/\Ok K W2/\StepB p (W1.hide p (.lst [])) W2/\W2.hid p/\W2.H p=some (.lst ys)/\DRs K W2 done ys/\EnvR K W2 ZW ZV/\rJ c W2.L/\uk c g tc iv2 g2 tc2 te (its.drop i) ZW W2.L=some (rA,Z5)/\done++rA=rs):=⟨_,fun _ _ _=>Iff.rfl⟩
 refine⟨fun i m ZV H2=>m=its.length - i/\P i ZV H2,?_,?_⟩
 ·exact⟨its.length,by simp,(hP _ _ _).2 ⟨XJ _,W1.hide p (.lst []),ZF,[],rs,[],rfl,A3 ok1 hp,⟨fun _ _ h=>h,fun _ h=>.inl h,fun _ _ _ h _=>h,rfl,fun _ h=>h⟩,.inl rfl,sF,.nil,en.hide hp ok1,c1,e,rfl⟩⟩
 rintro i m ZV H2 ⟨rfl,hi⟩;refine bq fun hG=>?_;obtain⟨hi,W2,ZW,done,rA,ys,rfl,ok2,s2,hp2,hy2,rd,en2,c2,e2,ed⟩:=(hP _ _ _).1 hi;have rj:DRs K W2 ds vs:=(r1.hide hp ok1).stepB (A3 ok1 hp) (.inl rfl) ⟨[],sF⟩ s2;obtain⟨hstop,hgo⟩:=hj W2 i ok2 c2 rj;by_cases hlt:i<its.length
 ·have hd:its[i]?=some its[i]:=WP hlt;obtain⟨h1,h2⟩:=hgo _ hd;rw[Xq hlt] at e2;refine q0 e2 fun pg e3 e2=>?_;refine q0 e2 fun pt e4 e2=>?_;refine(hG (.inr ⟨h1,P (i+1),fun ZZ H' hN=>⟨its.length - (i+1),by omega,rfl,hN⟩,fun x H' hy=>?_⟩));refine bq fun hF=>?_;obtain⟨W3,rfl,ZR,ok3,s3,r3⟩:=h2 x H' hy;refine hF ⟨W3,ZW,its[i],pg.1,pg.2,rfl,ok3,en2.step ok2 s3,r3,by rw[ZR];exact e3,fun W4 ZP ZC ok4 s4 en4=>⟨W4,pg.1,pt.1,pt.2,rfl,ok4,en4,by rw[ZC];exact e4,fun W5 ZO ok5 s5=>?_⟩⟩;have s25:=s3.trans (s4.trans s5);split at e2
  ·rename_i ht;obtain⟨⟨⟨its2,k2⟩,Y9⟩,e5,e2⟩:=bnd e2;obtain⟨⟨q1,Ze,Za⟩,e6,e2⟩:=bnd e2;refine uV e2 fun c6 e2=>?_;refine q0 e2 fun z e7 e2=>?_;cases e2;refine(wH (fun _=>?_) (fun n=>absurd ht n));refine⟨W5,pg.1,its2,k2,Y9,rfl,ok5,en4.step ok4 s5,by rw[ZO];exact e5,fun J2 W6 Zv ok6 s6 jr6=>?_⟩;have s26:=s25.trans s6;have hp6:W6.hid p:=by rw[s26.hid];exact hp2
   have hy6:W6.H p=some (.lst ys):=s26.keep _ _ hy2 (xC ok2 hp2);have hlen:done.length+q1.length<=1000000:=by
    have h1:=congrArg List.length ed;simp only[XA] at h1;omega
   refine Ro ok6 hp6 hy6 (rd.step ok2 s26) jr6 ((en4.step ok4 s5).step ok5 s6) (by rw[Zv];exact e6) hlen fun W7 ZS ys7 Zo ok7 s7 hp7 hy7 rd7 en7=>?_;exact(hP _ _ _).2 ⟨hlt,W7,Ze,done++q1,z.1,ys7,rfl,ok7,(s2.trans s26.b).trans s7,hp7,hy7,rd7,en7,by rw[Zo];exact c6,by rw[Zo];exact e7,by simpa using ed⟩
  ·rename_i ht;refine uV e2 fun c5 e2=>?_;refine wH (fun n=>absurd n ht) (fun _=>?_);exact(hP _ _ _).2 ⟨hlt,W5,pg.1,done,rA,ys,rfl,ok5,s2.trans s25.b,by rw[s25.hid];exact hp2,s25.keep _ _ hy2 (xC ok2 hp2),rd.step ok2 s25,en4.step ok4 s5,by rw[ZO];exact c5,by rw[ZO];exact e2,ed⟩
 ·have e':i=its.length:=by omega
  subst e';rw[XB (WJ _)] at e2;cases e2;rw[XC] at ed;subst ed;exact hG (.inl ⟨hstop (WJ _),hZ W2 ys rfl ok2 s2 hp2 hy2 rd⟩)
def wM(own:List Str)(cap:List (Str×Nat))(iv:IV)(g:GV)(tc:BV)(iv2:IV)(g2:GV)(tc2:BV)(te:EV):EV:=fun O L=>(iv O L).bind fun s=>(uk s.1.2 g tc iv2 g2 tc2 te s.1.1 (sh own cap O) s.2).bind fun q=>if q.1.length<=1000000 then some (.lst q.1,q.2) else none
theorem G3{W:Wd}{O:G}{B:St}{d:D}{Z5:M}(ok:Ok K W)(en:EnvR K W O B)(e:wM own cap iv g tc iv2 g2 tc2 te O W.L=some (d,Z5)){Z:Addr->Hp->Prop}(q:∀v W',W'.L=Z5->Ok K W'->Step W W'->DR K W' d v->∀p,v=.ref p->Z p W'.H):
  tDI K iv B W.H fun Z6 H1=>∀p,H1 p=none->yp Z6 (tDG K g) (tDB K tc) (tDI K iv2) (tDG K g2) (tDB K tc2) (tD K te) p (tw own cap B) H1 (Z p):=by
 obtain⟨⟨⟨its,c⟩,Z4⟩,e1,e⟩:=bnd e;refine(⟨W,O,its,c,Z4,rfl,ok,en,e1,fun Z6 W1 ZK ok1 s1 jr p hp=>?_⟩);obtain⟨⟨rs,Z3⟩,e2,e⟩:=bnd e;split at e
 ·rename_i hl;cases e;refine Py ok1 hp jr ((en.step ok s1).cap own cap) hl (by rw[ZK];exact e2) fun W' ys Zl ok' s' hp' hy r=>?_;obtain⟨a1,a2,a3⟩:=Dv s1 hp ok1 ok' s' hp' hy r;exact(q _ (W'.show W1.hid) Zl a1 a2 a3 p rfl)
 ·cases e
theorem N5(S:CompScope X N' own cap scope)(hi:PI X tg iter (tDI K iv))
  (hg:∀cl C Z2 Z0 ex,PG (rq X N' scope cl C Z2 Z0 ex) tg (tDG K g)) (ht:∀cl C Z2 Z0 ex,PIf (rq X N' scope cl C Z2 Z0 ex) ifs (tDB K tc))
  (hi2:∀cl C Z2 Z0 ex,PI (rq X N' scope cl C Z2 Z0 ex) tg2 iter2 (tDI K iv2)) (hg2:∀cl C Z2 Z0 ex,PG (rq X N' scope cl C Z2 Z0 ex) tg2 (tDG K g2)) (ht2:∀cl C Z2 Z0 ex,PIf (rq X N' scope cl C Z2 Z0 ex) ifs2 (tDB K tc2))
  (he:∀cl C Z2 Z0 ex,PE (rq X N' scope cl C Z2 Z0 ex) elt (tD K te))
  (hx:∀e s,X.xe e s->False:=by exact fun _ _ z=>z) (hc:X.calm=true:=by rfl) (hs:∀x,foldedSetIterable iter X.env x=pure x:=by intro _;rfl) (hs2:∀cl C x,foldedSetIterable iter2 (compEnvC scope cl C X.env) x=pure x:=by intro _ _ _;rfl):
  PE X (.ListComp elt [⟨tg,iter,ifs,0⟩,⟨tg2,iter2,ifs2,0⟩] scope pos) (tD K (wM own cap iv g tc iv2 g2 tc2 te)):=rO (RJ S hi hg ht hi2 hg2 ht2 he hx hc hs hs2) fun B H Q h=>by
 refine el4 h fun W O d Z5 eH ok en e q=>?_;subst eH;exact G3 ok en e fun v W' h1 h2 h3 h4 p hv=>by subst hv;exact q _ W' h1 h2 h3 h4
theorem Rg{i:Nat}{y:Str}{py spos:Pos}(hN:X.N.Nodup)(hi':X.N[i]?=some y)(hy:X.env.scope.names.lookup y=some .local)(S:CompScope X N' own cap scope)(hi:PI X tg iter (tDI K iv))
  (hg:∀cl C Z2 Z0 ex,PG (rq X N' scope cl C Z2 Z0 ex) tg (tDG K g)) (ht:∀cl C Z2 Z0 ex,PIf (rq X N' scope cl C Z2 Z0 ex) ifs (tDB K tc))
  (hi2:∀cl C Z2 Z0 ex,PI (rq X N' scope cl C Z2 Z0 ex) tg2 iter2 (tDI K iv2)) (hg2:∀cl C Z2 Z0 ex,PG (rq X N' scope cl C Z2 Z0 ex) tg2 (tDG K g2)) (ht2:∀cl C Z2 Z0 ex,PIf (rq X N' scope cl C Z2 Z0 ex) ifs2 (tDB K tc2))
  (he:∀cl C Z2 Z0 ex,PE (rq X N' scope cl C Z2 Z0 ex) elt (tD K te))
  (hsw:swapsWith (.ListComp elt [⟨tg,iter,ifs,0⟩,⟨tg2,iter2,ifs2,0⟩] scope pos) (some (.Name y py)) spos.line X.env=pure true:=by rfl)
  (hx:∀e s,X.xe e s->False:=by exact fun _ _ z=>z) (hc:X.calm=true:=by rfl) (hs:∀x,foldedSetIterable iter X.env x=pure x:=by intro _;rfl) (hs2:∀cl C x,foldedSetIterable iter2 (compEnvC scope cl C X.env) x=pure x:=by intro _ _ _;rfl):
  PS X (.Assign [.Name y py] (.ListComp elt [⟨tg,iter,ifs,0⟩,⟨tg2,iter2,ifs2,0⟩] scope pos) spos) (tDS K (rF (wM own cap iv g tc iv2 g2 tc2 te) (qY i))):=tH (Rp hN hi' hy S hi hg ht hi2 hg2 ht2 he hsw hx hc hs hs2) fun D B H h=>by
 refine el5 h fun W O o ZX Z5 eH ok en e q=>?_;subst eH;refine q0 e fun p1 e1 e=>?_;cases e;exact G3 (Z:=fun p H2=>D.nx (B.set i (some (.ref p))) H2) ok en e1 fun v W' h1 h2 h3 h4 p hv=>by subst hv;exact q W' _ h1 h2 h3 ((en.step ok h3).set h4 i)
end
def bs{J β:Type}{a:J}{f:J->Option β}:(some a).bind f=f a:=rfl
theorem xp{J β γ:Type}{f:β->Option γ}{g:J->β}{h:J->γ}:∀{l:List J},(∀x∈l,f (g x)=some (h x))->sB f (l.map g)=some (l.map h)
 | [],_=>rfl
 |x::r,e=>by
  have e1:=e x (by simp);have e2:=xp (l:=r) fun y hy=>e y (by simp[hy]);simp only[WT,sB,e1,e2,bs]
section
variable {O:G} {L Z4 Z3:M} {ea eb:EV} {x y d:D} {f:D->D->M->Fr} {f1:D->M->Fr} {i:Nat}
theorem IX(h:O[i]?=some (some d)):be i O L=some (d,L):=by unfold be;rw[h]
theorem e_2(h1:ea O L=some (x,Z4))(h2:eb O Z4=some (y,Z3)):v2 f ea eb O L=f x y Z3:=by unfold v2;rw[h1,bs,h2,bs]
theorem e_1(h1:ea O L=some (x,Z4)):v1 f1 ea O L=f1 x Z4:=by unfold v1;rw[h1,bs]
end
def xY(b:SV):Option (Out×G×M)->Option (Out×G×M)
 |some (.nx,O,L)=>b O L
 |x=>x
@[simp] theorem wV{b:SV}{O:G}{L:M}:xY b (some (.nx,O,L))=b O L:=rfl
@[simp] theorem kSeq_rt{b:SV}{d:D}{O:G}{L:M}:xY b (some (.rt d,O,L))=some (.rt d,O,L):=rfl
@[simp] theorem kSeq_bk{b:SV}{O:G}{L:M}:xY b (some (.bk,O,L))=some (.bk,O,L):=rfl
@[simp] theorem kSeq_ct{b:SV}{O:G}{L:M}:xY b (some (.ct,O,L))=some (.ct,O,L):=rfl
@[simp] theorem uc{a b:SV}{O:G}{L:M}:rf a b O L=xY b (a O L):=by
 unfold rf xY;cases h:a O L with
 |none=>rfl
 |some o=>obtain⟨o1,ZY,Z4⟩:=o;cases o1<;>rfl
section
variable {O:G} {L:M} {ea eb ec:EV} {ba bb:BV} {el:LV} {sa sb:SV} {i j:Nat} {d x y:D} {ds:List D} {b:Bool}
@[simp] theorem vVar_eq:be i O L=match O[i]? with
 |some (some d)=>some (d,L)
 |_=>none:=rfl
@[simp] theorem vC_eq:vC d O L=some (d,L):=rfl
def kV1(f:D->M->Fr):Fr->Fr
 |some (x,L)=>f x L
 |none=>none
@[simp] theorem kV1_s{f:D->M->Fr}:kV1 f (some (x,L))=f x L:=rfl
@[simp] theorem v1_eq{f:D->M->Fr}:v1 f ea O L=kV1 f (ea O L):=by
 unfold v1 kV1;cases ea O L<;>rfl
def xo(f:D->D->M->Fr)(x:D):Fr->Fr
 |some (y,L)=>f x y L
 |none=>none
@[simp] theorem kV2b_s{f:D->D->M->Fr}:xo f x (some (y,L))=f x y L:=rfl
def kV2(f:D->D->M->Fr)(eb:EV)(O:G):Fr->Fr
 |some (x,L)=>xo f x (eb O L)
 |none=>none
@[simp] theorem kV2_s{f:D->D->M->Fr}:kV2 f eb O (some (x,L))=xo f x (eb O L):=rfl
@[simp] theorem v2_eq{f:D->D->M->Fr}:v2 f ea eb O L=kV2 f eb O (ea O L):=by
 unfold v2 kV2;cases ea O L with
 |none=>rfl
 |some p=>show(eb O p.2).bind _=xo f p.1 (eb O p.2);cases eb O p.2<;>rfl
def kT:Fr->Option (Bool×M)
 |some (.bl b,L)=>some (b,L)
 |_=>none
@[simp] theorem kT_s:kT (some (.bl b,L))=some (b,L):=rfl
@[simp] theorem HB:vT ea O L=kT (ea O L):=by
 unfold vT kT;cases ea O L with
 |none=>rfl
 |some p=>obtain⟨p1,p2⟩:=p;cases p1<;>rfl
def DL(bb:BV)(O:G):Option (Bool×M)->Option (Bool×M)
 |some (c,L)=>if c=true then bb O L else some (false,L)
 |none=>none
@[simp] theorem kAnd_s{c:Bool}:DL bb O (some (c,L))=if c=true then bb O L else some (false,L):=rfl
@[simp] theorem bAnd_eq:xW ba bb O L=DL bb O (ba O L):=by unfold xW DL;cases ba O L<;>rfl
def kOr(bb:BV)(O:G):Option (Bool×M)->Option (Bool×M)
 |some (c,L)=>if c=true then some (true,L) else bb O L
 |none=>none
@[simp] theorem kOr_s{c:Bool}:kOr bb O (some (c,L))=if c=true then some (true,L) else bb O L:=rfl
@[simp] theorem bOr_eq:bOr ba bb O L=kOr bb O (ba O L):=by unfold bOr kOr;cases ba O L<;>rfl
def ER:Option (Bool×M)->Option (Bool×M)
 |some (c,L)=>some (!c,L)
 |none=>none
@[simp] theorem kNot_s{c:Bool}:ER (some (c,L))=some (!c,L):=rfl
@[simp] theorem bNot_eq:tU ba O L=ER (ba O L):=by unfold tU ER;cases ba O L<;>rfl
def kIf(ea eb:EV)(O:G):Option (Bool×M)->Fr
 |some (c,L)=>if c=true then ea O L else eb O L
 |none=>none
@[simp] theorem kIf_s{c:Bool}:kIf ea eb O (some (c,L))=if c=true then ea O L else eb O L:=rfl
@[simp] theorem KP:vIf ba ea eb O L=kIf ea eb O (ba O L):=by unfold vIf kIf;cases ba O L<;>rfl
def ES(sa sb:SV)(O:G):Option (Bool×M)->Option (Out×G×M)
 |some (c,L)=>if c=true then sa O L else sb O L
 |none=>none
@[simp] theorem kSIf_s{c:Bool}:ES sa sb O (some (c,L))=if c=true then sa O L else sb O L:=rfl
@[simp] theorem wG:sIf ba sa sb O L=ES sa sb O (ba O L):=by unfold sIf ES;cases ba O L<;>rfl
def Bt(eb:EV)(O:G):Fr->Fr
 |some (.bl c,L)=>if c=true then some (.bl true,L) else eb O L
 |_=>none
@[simp] theorem kVOr_s{c:Bool}:Bt eb O (some (.bl c,L))=if c=true then some (.bl true,L) else eb O L:=rfl
@[simp] theorem Uy:vOr ea eb O L=Bt eb O (ea O L):=by
 unfold vOr Bt;cases ea O L with
 |none=>rfl
 |some p=>
  obtain⟨p1,p2⟩:=p;cases p1 with
  |bl c=>cases c<;>rfl
  |_=>rfl
@[simp] theorem lNil_eq:qZ O L=some ([],L):=rfl
def Bv(x:D):Option (List D×M)->Option (List D×M)
 |some (r,L)=>some (x::r,L)
 |none=>none
@[simp] theorem kLc2_s{r:List D}:Bv x (some (r,L))=some (x::r,L):=rfl
def kLc(el:LV)(O:G):Fr->Option (List D×M)
 |some (x,L)=>Bv x (el O L)
 |none=>none
@[simp] theorem kLc_s:kLc el O (some (x,L))=Bv x (el O L):=rfl
@[simp] theorem lCons_eq:qW ea el O L=kLc el O (ea O L):=by
 unfold qW kLc;cases ea O L with
 |none=>rfl
 |some p=>show(el O p.2).bind _=Bv p.1 (el O p.2);cases el O p.2<;>rfl
def kL(f:C0):Option (List D×M)->Fr
 |some (r,L)=>f r L
 |none=>none
@[simp] theorem kL_s{f:C0}{r:List D}:kL f (some (r,L))=f r L:=rfl
@[simp] theorem vL_eq{f:C0}:vL f el O L=kL f (el O L):=by unfold vL kL;cases el O L<;>rfl
@[simp] theorem sNx_eq:sNx O L=some (.nx,O,L):=rfl
def kEx(O:G):Fr->Option (Out×G×M)
 |some (_,L)=>some (.nx,O,L)
 |none=>none
@[simp] theorem kEx_s:kEx O (some (x,L))=some (.nx,O,L):=rfl
@[simp] theorem Ba:uv ea O L=kEx O (ea O L):=by unfold uv kEx;cases ea O L<;>rfl
def kRt(O:G):Fr->Option (Out×G×M)
 |some (x,L)=>some (.rt x,O,L)
 |none=>none
@[simp] theorem kRt_s:kRt O (some (x,L))=some (.rt x,O,L):=rfl
@[simp] theorem yq:rn ea O L=kRt O (ea O L):=by unfold rn kRt;cases ea O L<;>rfl
def kG:Option (G×M)->Option (Out×G×M)
 |some (O,L)=>some (.nx,O,L)
 |none=>none
@[simp] theorem kG_s:kG (some (O,L))=some (.nx,O,L):=rfl
def kAs(g:GV)(O:G):Fr->Option (Out×G×M)
 |some (x,L)=>kG (g x O L)
 |none=>none
@[simp] theorem kAs_s{g:GV}:kAs g O (some (x,L))=kG (g x O L):=rfl
@[simp] theorem Fm{g:GV}:rF ea g O L=kAs g O (ea O L):=by
 unfold rF kAs;cases ea O L with
 |none=>rfl
 |some p=>show(g p.1 O p.2).bind _=kG (g p.1 O p.2);cases g p.1 O p.2<;>rfl
@[simp] theorem gvName_eq:qY i d O L=some (O.set i (some d),L):=rfl
@[simp] theorem gvNil_eq:si [] O L=some (O,L):=rfl
def kGs(gs:GsV)(ds:List D):Option (G×M)->Option (G×M)
 |some (O,L)=>gs ds O L
 |none=>none
@[simp] theorem kGs_s{gs:GsV}:kGs gs ds (some (O,L))=gs ds O L:=rfl
@[simp] theorem gvCons_eq{g:GV}{gs:GsV}:rm g gs (d::ds) O L=kGs gs ds (g d O L):=by
 show(g d O L).bind _=_;unfold kGs;cases g d O L<;>rfl
@[simp] theorem gvTup_eq{n:Nat}{gs:GsV}:rT n gs (.tup ds) O L=if ds.length=n then gs ds O L else none:=rfl
def kOn(L:M)(k:Nat):Option (D×List D)->Fr
 |some (d,l)=>some (d,L.set k (some (.lst l)))
 |none=>none
@[simp] theorem ET{l:List D}:kOn L i (some (d,l))=some (d,L.set i (some (.lst l))):=rfl
def zM(O:G):Fr->Option (G×M)
 |some (_,L)=>some (O,L)
 |none=>none
@[simp] theorem kSb3_s:zM O (some (x,L))=some (O,L):=rfl
def sbF(d:D)(j:Int)(ds:List D):Option (D×List D):=(ixN ds.length j).bind fun jj=>some (.non,ds.set jj d)
theorem Cz{j:Int}{jj:Nat}(h:ixN ds.length j=some jj):sbF d j ds=some (.non,ds.set jj d):=by unfold sbF;rw[h];rfl
@[simp] theorem sbF_0:sbF d 0 (x::ds)=some (.non,d::ds):=by
 refine Cz (jj:=0) ?_;unfold ixN;rw[if_pos (by omega),if_pos (by simp only[Xi];omega)];rfl
@[simp] theorem sbF_1:sbF d 1 (x::y::ds)=some (.non,x::d::ds):=by
 refine Cz (jj:=1) ?_;unfold ixN;rw[if_pos (by omega),if_pos (by simp only[Xi];omega)];rfl
@[simp] theorem sbF_2{z:D}:sbF d 2 (x::y::z::ds)=some (.non,x::y::d::ds):=by
 refine Cz (jj:=2) ?_;unfold ixN;rw[if_pos (by omega),if_pos (by simp only[Xi];omega)];rfl
def BC(d:D)(O:G)(o:D):Fr->Option (G×M)
 |some (.int j,L)=>zM O (onL o L (sbF d j))
 |_=>none
@[simp] theorem kSb2_s{j:Int}:BC d O x (some (.int j,L))=zM O (onL x L (sbF d j)):=rfl
def kSb(d:D)(ei:EV)(O:G):Fr->Option (G×M)
 |some (o,L)=>BC d O o (ei O L)
 |none=>none
@[simp] theorem kSb_s{ei:EV}:kSb d ei O (some (x,L))=BC d O x (ei O L):=rfl
@[simp] theorem gvSub_eq{eo ei:EV}:zE eo ei d O L=kSb d ei O (eo O L):=by
 unfold zE kSb;cases eo O L with
 |none=>rfl
 |some p=>
  show(ei O p.2).bind _=BC d O p.1 (ei O p.2);cases ei O p.2 with
  |none=>rfl
  |some q=>
   obtain⟨q1,q2⟩:=q;cases q1 with
   |int j=>
    show(onL p.1 q2 _).bind _=zM O (onL p.1 q2 (sbF d j));have e:(fun ds=>(ixN ds.length j).bind fun jj=>some (D.non,ds.set jj d))=sbF d j:=rfl;rw[e];unfold zM;cases onL p.1 q2 (sbF d j)<;>rfl
   |_=>rfl
@[simp] theorem oNone_eq:uy O L=some (none,L):=rfl
def kTr(L:M):Option Bool->Option (Bool×M)
 |some b=>some (b,L)
 |none=>none
@[simp] theorem kTr_s:kTr L (some b)=some (b,L):=rfl
def zq:Fr->Option (Bool×M)
 |some (x,L)=>kTr L (tru L x)
 |none=>none
@[simp] theorem kTru_s:zq (some (x,L))=kTr L (tru L x):=rfl
@[simp] theorem Jg:sD ea O L=zq (ea O L):=by
 unfold sD zq;cases ea O L with
 |none=>rfl
 |some p=>show(tru p.2 p.1).bind _=kTr p.2 (tru p.2 p.1);cases tru p.2 p.1<;>rfl
def Bw:Fr->Fr
 |some (.ref k,L)=>match L[k]? with
  |some (some (.lst ds))=>some (.lst ds,L.set k none)
  |_=>none
 |_=>none
theorem KG(h:L[i]?=some (some (.lst ds))):Bw (some (.ref i,L))=some (.lst ds,L.set i none):=by simp only[Bw,h]
@[simp] theorem KH:zS ea O L=Bw (ea O L):=by
 unfold zS Bw;cases ea O L with
 |none=>rfl
 |some p=>obtain⟨p1,p2⟩:=p;cases p1<;>rfl
def Dj(g:GV)(body:SV)(O:G):Option ((List D×Ck)×M)->Option (Out×G×M)
 |some ((its,c),L)=>sk c g body its O L
 |none=>none
@[simp] theorem xN{g:GV}{c:Ck}:Dj g sa O (some ((ds,c),L))=sk c g sa ds O L:=rfl
@[simp] theorem x5{iv:IV}{g:GV}:tF iv g sa O L=Dj g sa O (iv O L):=by unfold tF Dj;cases iv O L<;>rfl
def kI2(L:M):Option (List D×Ck)->Option ((List D×Ck)×M)
 |some s=>some (s,L)
 |none=>none
@[simp] theorem kI2_s{s:List D×Ck}:kI2 L (some s)=some (s,L):=rfl
def kI:Fr->Option ((List D×Ck)×M)
 |some (x,L)=>kI2 L (lsC L x)
 |none=>none
@[simp] theorem kI_s:kI (some (x,L))=kI2 L (lsC L x):=rfl
@[simp] theorem ivL_eq:ivL ea O L=kI (ea O L):=by
 unfold ivL kI;cases ea O L with
 |none=>rfl
 |some p=>show(lsC p.2 p.1).bind _=kI2 p.2 (lsC p.2 p.1);cases lsC p.2 p.1<;>rfl
def kIR:Fr->Option ((List D×Ck)×M)
 |some (.int j,L)=>if -1000000000<=j/\j<=1000000000 then some ((rS 0 j.toNat,none),L) else none
 |_=>none
@[simp] theorem kIR_s{j:Int}:kIR (some (.int j,L))=if -1000000000<=j/\j<=1000000000 then some ((rS 0 j.toNat,none),L) else none:=rfl
@[simp] theorem ivR_eq:ivR ea O L=kIR (ea O L):=by
 unfold ivR kIR;cases ea O L with
 |none=>rfl
 |some p=>obtain⟨p1,p2⟩:=p;cases p1<;>rfl
def Bk(x:D):Fr->Option ((List D×Ck)×M)
 |some (y,L)=>match x,y with
  | .int i,.int j=>if(-1000000000<=i/\i<=1000000000)/\-1000000000<=j/\j<=1000000000 then some ((rS i (j - i).toNat,none),L) else none
  |_,_=>none
 |none=>none
@[simp] theorem JE{i j:Int}:Bk (.int i) (some (.int j,L))=if(-1000000000<=i/\i<=1000000000)/\-1000000000<=j/\j<=1000000000 then some ((rS i (j - i).toNat,none),L) else none:=rfl
def Em(eb:EV)(O:G):Fr->Option ((List D×Ck)×M)
 |some (x,L)=>Bk x (eb O L)
 |none=>none
@[simp] theorem Hu:Em eb O (some (x,L))=Bk x (eb O L):=rfl
@[simp] theorem FT:xX ea eb O L=Em eb O (ea O L):=by
 unfold xX Em;cases ea O L with
 |none=>rfl
 |some p=>show(eb O p.2).bind _=Bk p.1 (eb O p.2);cases eb O p.2<;>rfl
@[simp] theorem bYes_eq:rE O L=some (true,L):=rfl
def Bb(g:D->D->M->Fr)(ec:EV)(O:G)(y:D):Fr->Fr
 |some (.bl c,L)=>if c=true then xo g y (ec O L) else some (.bl false,L)
 |_=>none
@[simp] theorem kCh3_s{g:D->D->M->Fr}{c:Bool}:Bb g ec O y (some (.bl c,L))=if c=true then xo g y (ec O L) else some (.bl false,L):=rfl
def Ay(f g:D->D->M->Fr)(ec:EV)(O:G)(x:D):Fr->Fr
 |some (y,L)=>Bb g ec O y (f x y L)
 |none=>none
@[simp] theorem kCh2_s{f g:D->D->M->Fr}:Ay f g ec O x (some (y,L))=Bb g ec O y (f x y L):=rfl
def kCh(f g:D->D->M->Fr)(eb ec:EV)(O:G):Fr->Fr
 |some (x,L)=>Ay f g ec O x (eb O L)
 |none=>none
@[simp] theorem kCh_s{f g:D->D->M->Fr}:kCh f g eb ec O (some (x,L))=Ay f g ec O x (eb O L):=rfl
@[simp] theorem vChain_eq{f g:D->D->M->Fr}:vt f g ea eb ec O L=kCh f g eb ec O (ea O L):=by
 unfold vt kCh;cases ea O L with
 |none=>rfl
 |some p=>
  show(eb O p.2).bind _=Ay f g ec O p.1 (eb O p.2);cases eb O p.2 with
  |none=>rfl
  |some q=>
   show(f p.1 q.1 q.2).bind _=Bb g ec O q.1 (f p.1 q.1 q.2);cases f p.1 q.1 q.2 with
   |none=>rfl
   |some t=>
    obtain⟨t1,t2⟩:=t;cases t1 with
    |bl c=>
     cases c with
     |true=>show(ec O t2).bind _=xo g q.1 (ec O t2);cases ec O t2<;>rfl
     |false=>rfl
    |_=>rfl
def kNB(L:M):Option Bool->Fr
 |some b=>some (.bl (!b),L)
 |none=>none
@[simp] theorem kNB_s:kNB L (some b)=some (.bl (!b),L):=rfl
def kD(L:M):Option D->Fr
 |some d=>some (d,L)
 |none=>none
@[simp] theorem kD_s:kD L (some d)=some (d,L):=rfl
@[simp] theorem fI0_eq{g:Int->Int->D}{i j:Int}:fI0 g (.int i) (.int j) L=some (g i j,L):=rfl
@[simp] theorem fI_eq{C:Int->Int->Prop} [∀i j,Decidable (C i j)]{g:Int->Int->D}{i j:Int}:fI C g (.int i) (.int j) L=if C i j then some (g i j,L) else none:=rfl
@[simp] theorem fNeg_eq{i:Int}:wL (.int i) L=some (.int (-i),L):=rfl
@[simp] theorem fNot_eq{b:Bool}:yV (.bl b) L=some (.bl (!b),L):=rfl
@[simp] theorem fPlus_int{i j:Int}:rP (.int i) (.int j) L=some (.int (i+j),L):=rfl
@[simp] theorem fTimes_int{i j:Int}:vB (.int i) (.int j) L=if CMul i j then some (.int (i*j),L) else none:=rfl
@[simp] theorem NP{b:Bool}:zD (.bl b) L=some (.int (if b then 1 else 0),L):=rfl
@[simp] theorem fNe_eq:fNe x y L=kNB L (eqD x y L):=by unfold fNe kNB;cases eqD x y L<;>rfl
@[simp] theorem GK{i j:Int}:eqD (.int i) (.int j) L=some (decide (i=j)):=rfl
@[simp] theorem eqD_str{a b:Str}:eqD (.str a) (.str b) L=if PyData.strOk a&&PyData.strOk b then some (decide (a=b)) else none:=rfl
@[simp] theorem lsOf_lst:su L (.lst ds)=some ds:=rfl
@[simp] theorem lsOf_scr:su L (.scr ds)=some ds:=rfl
@[simp] theorem lsOf_tup:su L (.tup ds)=none:=rfl
@[simp] theorem tpOf_tup:vg (.tup ds)=some ds:=rfl
@[simp] theorem wlOf_lst:xi L (.lst ds)=some ds:=rfl
@[simp] theorem lsC_lst:lsC L (.lst ds)=some (ds,none):=rfl
@[simp] theorem lsC_scr:lsC L (.scr ds)=some (ds,none):=rfl
@[simp] theorem fLst_eq:sG ds L=if ds.length<=1000 then some (.lst ds,L) else none:=rfl
@[simp] theorem fTup_eq:rX ds L=if ds.length<=1000 then some (.tup ds,L) else none:=rfl
@[simp] theorem fNew_eq:uB ds L=if ds.length<=1000 then some (.ref L.length,L++[some (.lst ds)]) else none:=rfl
@[simp] theorem JT{i:Int}:fIx (.lst ds) (.int i) L=kD L (atI ds i):=by
 show(atI ds i).bind _=_;unfold kD;cases atI ds i<;>rfl
@[simp] theorem fIx_scr{i:Int}:fIx (.scr ds) (.int i) L=kD L (atI ds i):=by
 show(atI ds i).bind _=_;unfold kD;cases atI ds i<;>rfl
@[simp] theorem fIx_tup{i:Int}:fIx (.tup ds) (.int i) L=kD L (atI ds i):=by
 show(atI ds i).bind _=_;unfold kD;cases atI ds i<;>rfl
@[simp] theorem Wm:sg (.lst ds) L=some (.int ds.length,L):=rfl
@[simp] theorem fLen_tup:sg (.tup ds) L=some (.int ds.length,L):=rfl
@[simp] theorem fCat_lst{es:List D}:rP (.lst ds) (.lst es) L=if ds.length+es.length<=1000000 then some (.lst (ds++es),L) else none:=rfl
@[simp] theorem fSl_lst{lo hi:Option Int}:fSl (.lst ds) lo hi L=some (.lst (t5 ds lo hi),L):=rfl
@[simp] theorem fSl_tup{lo hi:Option Int}:fSl (.tup ds) lo hi L=if HT.sIx ds.length 0 lo=0/\HT.sIx ds.length ds.length hi=ds.length then none else some (.tup (t5 ds lo hi),L):=rfl
@[simp] theorem tru_bl{b:Bool}:tru L (.bl b)=some b:=rfl
@[simp] theorem tru_lst:tru L (.lst ds)=some (!ds.isEmpty):=rfl
theorem wj{J:Type}{xs:List J}{j:Nat}{v:J}(h:xs[j]?=some v):atI xs (j:Int)=some v:=by
 have hlt:=(WL.mp h).1;unfold atI ixN;rw[if_pos (by omega),if_pos (by omega)];simpa using h
@[simp] theorem atI_0{J:Type}{a:J}{l:List J}:atI (a::l) 0=some a:=wj (j:=0) rfl
@[simp] theorem atI_1{J:Type}{a b:J}{l:List J}:atI (a::b::l) 1=some b:=wj (j:=1) rfl
@[simp] theorem atI_2{J:Type}{a b c:J}{l:List J}:atI (a::b::c::l) 2=some c:=wj (j:=2) rfl
@[simp] theorem atI_3{J:Type}{a b c d:J}{l:List J}:atI (a::b::c::d::l) 3=some d:=wj (j:=3) rfl
end
def inI:D->Option Int
 | .int i=>some i
 |_=>none
def inB:D->Option Bool
 | .bl b=>some b
 |_=>none
section
variable {K:Frag} {W:Wd}
theorem Kg:∀{ds:List D} {vs:List V} {ns:List Int},sB inI ds=some ns->DRs K W ds vs->vs=ns.map V.int
 |_,_,_,h,.nil=>by cases h;rfl
 |d::_,_,_,h,.cons r t=>by
  refine q0 h fun u h1 h=>?_;refine q0 h fun us h2 h=>?_;cases h;cases d<;>cases h1
  cases r;rw[Kg h2 t];rfl
theorem Ig:∀{ds:List D} {vs:List V} {ns:List Bool},sB inB ds=some ns->DRs K W ds vs->vs=ns.map V.bl
 |_,_,_,h,.nil=>by cases h;rfl
 |d::_,_,_,h,.cons r t=>by
  refine q0 h fun u h1 h=>?_;refine q0 h fun us h2 h=>?_;cases h;cases d<;>cases h1
  cases r;rw[Ig h2 t];rfl
theorem NY(ns:List Int):sB inI (ns.map D.int)=some ns:=by
 have:=xp (f:=inI) (g:=D.int) (h:=id) (l:=ns) fun x _=>rfl;simpa using this
theorem IT(ns:List Bool):sB inB (ns.map D.bl)=some ns:=by
 have:=xp (f:=inB) (g:=D.bl) (h:=id) (l:=ns) fun x _=>rfl;simpa using this
end
def mx:Int->List Int->Int
 |a,[]=>a
 |a,b::r=>mx (if b>a then b else a) r
theorem La:∀(r l:List Int) (a:Int),IsMax a l->IsMax (mx a r) (l++r)
 | [],l,a,h=>by simpa[mx] using h
 |b::r,l,a,h=>by
  have:=La r (l++[b]) (if b>a then b else a) h.step;simpa[mx] using this
def TZ{a b:Int}{l:List Int}(h:IsMax a l)(g:IsMax b l):a=b:=by
 have h1:=h.2 b g.1;have h2:=g.2 a h.1;omega
def mxL:List Int->Option Int
 | []=>none
 |a::r=>some (mx a r)
def IF{l:List Int}{m:Int}(h:mxL l=some m):IsMax m l:=by
 cases l with
 |nil=>cases h
 |cons a r=>
  cases h;exact La r [a] a ⟨by simp,by simp⟩
section
variable {X:Cx} {K:Frag} {a b:Expr} {ea eb:EV} {pos p kp:Pos}
def zc(x y:D)(L:M):Fr:=match y with
 | .int j=>(su L x).bind fun ds=>(sB inI ds).bind fun ns=>some (.int ((mxL ns).getD j),L)
 |_=>none
theorem UI(mm:X.mg "max"=none) (ha:PE X a (tD K ea)) (hb:PE X b (tD K eb)) (hc:X.calm=true:=by rfl) (hg:Gl X "max":=by rfl) (hs:starEach [a] X.env=[(false,eval a X.env)]:=by rfl) (hK:X.K=K:=by rfl)
  (hall:(backToKw pos (keywordEach [⟨some "default",b,kp⟩] X.env)).all (·.1.isSome)=true:=by rfl) (hks:(backToKw pos (keywordEach [⟨some "default",b,kp⟩] X.env)).filterMap (·.1)=([Str.ofString "default"]:List Str):=by rfl)
  (hno:(backToKw pos (keywordEach [⟨some "default",b,kp⟩] X.env)).any (·.1.isNone)=false:=by rfl):PE X (.Call (.Name "max" p) [a] [⟨some "default",b,kp⟩] pos) (tD K (v2 zc ea eb)):=rO (V7 K mm ha hb hc hg hs hK hall hks hno) (yk (by
 intro W x y d e z Z5 Q ok r1 r2 hf q;unfold zc at hf;split at hf
 ·cases r2;refine q0 hf fun ds h1 hf=>?_;refine q0 hf fun ns h2 hf=>?_;cases hf;obtain⟨a,vs,rfl,hs,hv⟩:=xh ok h1 r1;have:=Kg h2 hv;subst this;refine⟨a,ns,_,rfl,rfl,hs,fun z=>?_,fun M hM=>?_⟩
  ·subst z;exact q _ W rfl ok .refl (.int _)
  ·cases hn:mxL ns with
   |none=>
    cases ns with
    |nil=>exact absurd hM.1 (by simp)
    |cons _ _=>cases hn
   |some m=>
    rw[TZ hM (IF hn)];have:=q (.int m) W rfl ok .refl (by rw[hn];exact .int _);exact this
 ·cases hf))
def vJ(x:D)(L:M):Fr:=(su L x).bind fun ds=>(sB inB ds).bind fun bs=>some (.bl (bs.all id),L)
theorem DX(mm:X.mg "all"=none) (ha:PE X a (tD K ea)) (hc:X.calm=true:=by rfl) (hg:Gl X "all":=by rfl) (hs:starEach [a] X.env=[(false,eval a X.env)]:=by rfl) (hK:X.K=K:=by rfl):PE X (.Call (.Name "all" p) [a] [] pos) (tD K (v1 vJ ea)):=rO (Vr K mm ha hc hg hs hK) (wo (by
 intro W x d z Z5 Q ok r1 hf q;refine q0 hf fun ds h1 hf=>?_;refine q0 hf fun ns h2 hf=>?_;cases hf;obtain⟨a,vs,rfl,hs,hv⟩:=xh ok h1 r1;have:=Ig h2 hv;subst this;exact⟨a,ns,rfl,hs,q _ W rfl ok .refl (.bl _)⟩))
end
def v9{J:Type}{L:M}{x:Option J}:chk (rJ none L) x=x:=ur trivial
section
variable {L:M} {k:Nat} {ds:List D}
def ui:Option (Out×G×M)->Fr
 |some (.rt d,_,L)=>some (d,L)
 |some (.nx,_,L)=>some (.non,L)
 |_=>none
@[simp] theorem kRun_rt{d:D}{O:G}:ui (some (.rt d,O,L))=some (d,L):=rfl
@[simp] theorem kRun_nx{O:G}:ui (some (.nx,O,L))=some (.non,L):=rfl
@[simp] theorem vo{n m:Nat}{es:SV}:rY n m es ds L=if ds.length=m then ui (es (ds.map some++List.replicate (n - ds.length) none) L) else none:=by
 unfold rY;split
 ·unfold ui;cases es (ds.map some++List.replicate (n - ds.length) none) L with
  |none=>rfl
  |some o=>obtain⟨o1,o2,o3⟩:=o;cases o1<;>rfl
 ·rfl
theorem tT{x y:Option Z8}(h:L[k]?=some x):(L.set k y)[k]?=some y:=by
 have hlt:=(WL.mp h).1;simp[hlt]
theorem tM{j:Nat}{y:Option Z8}(h:j≠k):(L.set k y)[j]?=L[j]?:=Xf (Ne.symm h)
theorem y2(h:L[k]?=some (some (.lst ds))):su L (.ref k)=some ds:=by simp only[su,h]
theorem Di{i:Int}(h:L[k]?=some (some (.lst ds))):fIx (.ref k) (.int i) L=kD L (atI ds i):=by
 simp only[fIx,y2 h];unfold kD;cases atI ds i<;>rfl
theorem Ow(h:L[k]?=some (some (.lst ds))):sg (.ref k) L=some (.int ds.length,L):=by simp only[sg,y2 h]
theorem zu{g:List D->Option (D×List D)}(h:L[k]?=some (some (.lst ds))):onL (.ref k) L g=kOn L k (g ds):=by
 simp only[onL,h];unfold kOn;cases g ds<;>rfl
theorem Dz(h:L[k]?=some (some (.lst ds))):lsC L (.ref k)=some (ds,some (k,ds)):=by simp only[lsC,h]
@[simp] theorem ixN_0{n:Nat}:ixN (n+1) 0=some 0:=by unfold ixN;rw[if_pos (by omega),if_pos (by omega)];rfl
@[simp] theorem ixN_1{n:Nat}:ixN (n+2) 1=some 1:=by unfold ixN;rw[if_pos (by omega),if_pos (by omega)];rfl
@[simp] theorem ixN_2{n:Nat}:ixN (n+3) 2=some 2:=by unfold ixN;rw[if_pos (by omega),if_pos (by omega)];rfl
end
section
variable {P:Program} {w:World} {K:Frag} {mg:Str->Option Value} {base:Heap} {f:Addr} {fd:FuncData} {k:Nat}
theorem y0{ps:List Str}:FnOk P w K mg base CX0 k f fd ps (spM K fun _ _=>none):=
 ⟨(fun vs H Q E h=>by obtain⟨_,_,_,_,_,_,_,z,_⟩:=h;cases z),(fun A outer s H args us vs Q E _ _ _ _ h=>by obtain⟨_,_,_,_,_,_,_,z,_⟩:=h;cases z)⟩
def B8(K:Frag):Sp:=fun vs H Q _=>∃(a:Addr) (ns:List Int),vs=[.ref a]/\Bd H/\SqL K H a (ns.map V.int)/\ns.length<=63/\∀H',Q (.bl true) H'
def W0(H:Hp):Wd:=⟨[],[],H,fun _=>False⟩
theorem Vn{H:Hp}:Ok K (W0 H) where
 len:=rfl
 nd:=by simp[W0]
 rs a h:=by simp[W0] at h
 at_ k o h:=by simp[W0] at h
 hd0 a h:=h.elim
theorem CL{W:Wd}:∀ns:List Int,DRs K W (ns.map D.int) (ns.map V.int)
 | []=>.nil
 |n::r=>.cons (.int n) (CL r)
theorem RA{g:C0}(F:FnOk P w K mg base CX0 k f fd ["script"] (spM K g)) (h:∀ns:List Int,ns.length<=63->∃Z5,g [.scr (ns.map D.int)] []=some (.bl true,Z5)):FnOk P w K mg base CX0 k f fd ["script"] (B8 K):=F.imp fun vs H Q E hh=>by
 obtain⟨a,ns,rfl,hO,hS,hl,q⟩:=hh;obtain⟨Z5,e⟩:=h ns hl;have hF:SqF K H a (ns.map V.int):=by
  rcases hS with(hS|hS)|hS
  ·rcases hO a with z|⟨o,xs,z⟩
   ·rw[z] at hS;cases hS
   ·rw[z] at hS;cases hS
  ·exact .inl hS
  ·exact .inr hS
 exact⟨W0 H,[.scr (ns.map D.int)],.bl true,Z5,rfl,Vn,.cons (.scr hF (CL ns)) .nil,e,fun v W' _ _ _ r=>by cases r;exact q _⟩
end
theorem BT{c:Ck}{g:GV}{body:SV}(Pv:Nat->G->M->Prop):∀(its:List D) (i:Nat) (O:G) (L:M),Pv i O L->
  (∀j d O L,its[j]?=some d->Pv (i+j) O L->∃ZY Z4 ZW Z3,g d O L=some (ZY,Z4)/\body ZY Z4=some (.nx,ZW,Z3)/\rJ c Z3/\Pv (i+j+1) ZW Z3)->∃ZX Z5,sk c g body its O L=some (.nx,ZX,Z5)/\Pv (i+its.length) ZX Z5
 | [],i,O,L,h,_=>⟨O,L,rfl,h⟩
 |d::r,i,O,L,h,hs=>by
  obtain⟨ZY,Z4,ZW,Z3,h1,h2,h3,h4⟩:=hs 0 d O L rfl h;obtain⟨ZX,Z5,h5,h6⟩:=BT Pv r (i+1) ZW Z3 h4 fun j d O L hj hp=>by
   have:=hs (j+1) d O L (by simpa using hj) (by rw[show i+(j+1)=i+1+j by omega];exact hp);rw[show i+(j+1)+1=i+1+j+1 by omega] at this;exact this
  refine⟨ZX,Z5,?_,by rw[Xi,show i+(r.length+1)=i+1+r.length by omega];exact h6⟩;simp only[sk,h1,bs,h2];rw[ur h3,h5]
def Ul{lo:Int}{n j:Nat}{d:D}(h:(rS lo n)[j]?=some d):j<n/\d=.int (lo+j):=by
 have hlt:=(WL.mp h).1;simp[rS] at hlt;simp[rS,hlt] at h;exact⟨hlt,h.symm⟩
def Wy{n j:Nat}{d:D}(h:(rS 0 n)[j]?=some d):j<n/\d=.int (j:Int):=by
 obtain⟨a,b⟩:=Ul h;exact(⟨a,by rw[b,Int.zero_add]⟩)
def Oi{lo:Int}{n:Nat}:(rS lo n).length=n:=by simp[rS]
def Bu:Option (List D×M)->Fr
 |some (rs,L)=>some (.lst rs,L)
 |none=>none
@[simp] theorem kLst_s{rs:List D}{L:M}:Bu (some (rs,L))=some (.lst rs,L):=rfl
def Ej(own:List Str)(cap:List (Str×Nat))(g:GV)(tc:BV)(te:EV)(O:G):Option ((List D×Ck)×M)->Fr
 |some ((its,c),L)=>if its.length<=1000000 then Bu (sw c g tc te its (sh own cap O) L) else none
 |none=>none
@[simp] theorem Dd{own:List Str}{cap:List (Str×Nat)}{g:GV}{tc:BV}{te:EV}{O:G}{its:List D}{c:Ck}{L:M}:Ej own cap g tc te O (some ((its,c),L))=if its.length<=1000000 then Bu (sw c g tc te its (sh own cap O) L) else none:=rfl
@[simp] theorem E1{own:List Str}{cap:List (Str×Nat)}{iv:IV}{g:GV}{tc:BV}{te:EV}{O:G}{L:M}:sC own cap iv g tc te O L=Ej own cap g tc te O (iv O L):=by
 unfold sC Ej;cases iv O L with
 |none=>rfl
 |some s=>
  obtain⟨⟨its,c⟩,Z4⟩:=s;show(if its.length<=1000000 then(sw c g tc te its (sh own cap O) Z4).bind _ else none)=if its.length<=1000000 then Bu (sw c g tc te its (sh own cap O) Z4) else none
  split
  ·cases sw c g tc te its (sh own cap O) Z4<;>rfl
  ·rfl
def BG:Option (List D×M)->Fr
 |some (rs,L)=>if rs.length<=1000000 then some (.lst rs,L) else none
 |none=>none
@[simp] theorem Lo{rs:List D}{L:M}:BG (some (rs,L))=if rs.length<=1000000 then some (.lst rs,L) else none:=rfl
def Fv(own:List Str)(cap:List (Str×Nat))(g:GV)(tc:BV)(iv2:IV)(g2:GV)(tc2:BV)(te:EV)(O:G):Option ((List D×Ck)×M)->Fr
 |some ((its,c),L)=>BG (uk c g tc iv2 g2 tc2 te its (sh own cap O) L)
 |none=>none
@[simp] theorem MO{own:List Str}{cap:List (Str×Nat)}{iv2:IV}{g g2:GV}{tc tc2:BV}{te:EV}{O:G}{its:List D}{c:Ck}{L:M}:Fv own cap g tc iv2 g2 tc2 te O (some ((its,c),L))=BG (uk c g tc iv2 g2 tc2 te its (sh own cap O) L):=rfl
@[simp] theorem JH{own:List Str}{cap:List (Str×Nat)}{iv iv2:IV}{g g2:GV}{tc tc2:BV}{te:EV}{O:G}{L:M}:wM own cap iv g tc iv2 g2 tc2 te O L=Fv own cap g tc iv2 g2 tc2 te O (iv O L):=by
 unfold wM Fv;cases iv O L with
 |none=>rfl
 |some s=>
  obtain⟨⟨its,c⟩,Z4⟩:=s;show(uk c g tc iv2 g2 tc2 te its (sh own cap O) Z4).bind _=BG (uk c g tc iv2 g2 tc2 te its (sh own cap O) Z4);cases uk c g tc iv2 g2 tc2 te its (sh own cap O) Z4<;>rfl
def tP(kvs:List (Key×D))(k:Key):Option D:=(kvs.find? fun kv=>decide (kv.1=k)).map (·.2)
def um(kvs:List (Key×D))(k:Key)(v:D):List (Key×D):=
 if(kvs.any fun kv=>decide (kv.1=k))=true then kvs.map (fun kv=>if kv.1=k then(kv.1,v) else kv) else kvs++[(k,v)]
def vK:D->Option Key
 | .int i=>some (.inl i)
 | .str x=>some (.inr x)
 |_=>none
def tf(L:M):D->Option (List (Key×D))
 | .ref k=>match L[k]? with
  |some (some (.dK kvs))=>some kvs
  |_=>none
 |_=>none
section
variable {K:Frag} {W:Wd}
theorem Fh{d:D}{k:Key}{v:V}(h:vK d=some k)(r:DR K W d v):v=kV k:=by
 cases d<;>simp only[vK] at h<;>cases h<;>cases r<;>rfl
theorem yj{d:D}{kvs:List (Key×D)}{v:V}(ok:Ok K W)(h:tf W.L d=some kvs)(r:DR K W d v):
  ∃k a vs,d=.ref k/\v=.ref a/\W.L[k]?=some (some (.dK kvs))/\W.ρ[k]?=some a/\W.H a=some (.dK vs)/\KR K W kvs vs:=by
 cases d with
 |ref k=>
  simp only[tf] at h;split at h
  ·rename_i kvs' hk;cases h;cases r with
   |ref ha=>
    obtain⟨a',ho,h1,h2,vs,rfl,r⟩:=ok.at_ k _ hk;rw[ha] at h1;cases h1;exact(⟨k,_,vs,rfl,rfl,hk,ha,h2,r⟩)
  ·cases h
 |_=>simp[tf] at h
theorem KR.len{kvs:List (Key×D)}{vs:List (Key×V)}(r:KR K W kvs vs):kvs.length=vs.length:=Paired.length r
theorem KR.any{kvs:List (Key×D)}{vs:List (Key×V)}(r:KR K W kvs vs)(k:Key):(kvs.any fun kv=>decide (kv.1=k))=vs.any fun kv=>decide (kv.1=k):=by
 unfold KR at r;induction r with
 |nil=>rfl
 |cons h t ih=>rw[Yh,Yh,ih,h.1]
theorem KR.val{kvs:List (Key×D)}{vs:List (Key×V)}(r:KR K W kvs vs)(k:Key):(tP kvs k).isSome=(tz vs k).isSome:=by
 unfold KR at r;induction r with
 |nil=>rfl
 | @cons p q ps qs h t ih=>
  by_cases e:p.1=k
  ·rw[xt (by rw[←h.1];exact e)];simp[tP,WX,e]
  ·rw[x3 (by rw[←h.1];exact e)];simp only[tP,WX,e,decide_false] at ih⊢;exact ih
theorem KR.snoc{kvs:List (Key×D)}{vs:List (Key×V)}(r:KR K W kvs vs)(k:Key){d:D}{v:V}(rv:DR K W d v):KR K W (kvs++[(k,d)]) (vs++[(k,v)]):=Paired.snoc r ⟨rfl,rv⟩
theorem KR.repl{kvs:List (Key×D)}{vs:List (Key×V)}(r:KR K W kvs vs)(k:Key){d:D}{v:V}(rv:DR K W d v):
  KR K W (kvs.map fun kv=>if kv.1=k then(kv.1,d) else kv) (vs.map fun kv=>if kv.1=k then(kv.1,v) else kv):=by
 unfold KR at r⊢;induction r with
 |nil=>exact .nil
 | @cons p q ps qs h t ih=>
  refine .cons ?_ ih;show(if p.1=k then(p.1,d) else p).1=(if q.1=k then(q.1,v) else q).1/\DR K W (if p.1=k then(p.1,d) else p).2 (if q.1=k then(q.1,v) else q).2;by_cases e:p.1=k
  ·rw[if_pos e,if_pos (by rw[←h.1];exact e)];exact⟨h.1,rv⟩
  ·rw[if_neg e,if_neg (by rw[←h.1];exact e)];exact h
theorem KR.put{kvs:List (Key×D)}{vs:List (Key×V)}(r:KR K W kvs vs)(k:Key){d:D}{v:V}(rv:DR K W d v):KR K W (um kvs k d) (sO vs k v):=by
 unfold um sO;rw[r.any k];by_cases e:(vs.any fun kv=>decide (kv.1=k))=true
 ·rw[if_pos e,if_pos e];exact r.repl k rv
 ·rw[if_neg e,if_neg e];exact r.snoc k rv
theorem KR.vals{kvs:List (Key×D)}{vs:List (Key×V)}(r:KR K W kvs vs):DRs K W (kvs.map (·.2)) (vs.map (·.2)):=by
 unfold KR at r;induction r with
 |nil=>exact .nil
 |cons h t ih=>exact .cons h.2 ih
theorem Ji{k:Nat}{a:Addr}{kvs kvs':List (Key×D)}{vs':List (Key×V)}(ok:Ok K W)(hk:W.L[k]?=some (some (.dK kvs)))(ha:W.ρ[k]?=some a)(hs:KR K W kvs' vs'):
  Ok K (W.put k a (.dK vs') (.dK kvs'))/\Step W (W.put k a (.dK vs') (.dK kvs')):=⟨BY ok hk ha ⟨vs',rfl,hs⟩,wZ hk ha⟩
theorem Cw{d:D}{kvs:List (Key×D)}{v:V}(ok:Ok K W)(h:tf W.L d=some kvs)(r:DR K W d v):tyV K "dict" v W.H:=by
 obtain⟨k,a,vs,rfl,rfl,_,_,hh,_⟩:=yj ok h r;exact(.inr (.inr (.inl ⟨rfl,.inl ⟨vs,hh⟩⟩)))
end
def vE(n:Nat)(c:Ck)(g:GV)(tc:BV)(tk tv:EV):List D->G->M->Option M
 | [],_,L=>some L
 |d::r,O,L=>(g d O L).bind fun p=>(tc p.1 p.2).bind fun t=>if t.1=true then(tk p.1 t.2).bind fun y=>(tv p.1 y.2).bind fun v=>(vK y.1).bind fun k=>(tf v.2 (.ref n)).bind fun kvs=>
   chk (kvs.length<1000000/\rJ c (v.2.set n (some (.dK (um kvs k v.1))))) (vE n c g tc tk tv r p.1 (v.2.set n (some (.dK (um kvs k v.1))))) else chk (rJ c t.2) (vE n c g tc tk tv r p.1 t.2)
section
variable {X:Cx} {K:Frag} {a b e o:Expr} {ea eb eo:EV} {pos p apos pos1:Pos} {k:Nat}
def z6:EV:=fun _ L=>some (.ref L.length,L++[some (.dK [])])
theorem Ly:PE X (.Dict [] [] pos) (tD K z6):=rO P8 fun B H Q h=>by
 refine el4 h fun W O d Z5 eH ok en e q=>?_;subst eH;cases e;intro pa hp;exact q _ (W.new pa (.dK []) (.dK [])) rfl (Av ok hp ⟨[],rfl,.nil⟩) (vH ok hp) (zK ok)
def ue(x y:D)(L:M):Fr:=(tf L x).bind fun kvs=>(vK y).bind fun k=>(tP kvs k).bind fun d=>some (d,L)
theorem KR.at{W:Wd}{kvs:List (Key×D)}{vs:List (Key×V)}(r:KR K W kvs vs){k:Key}{d:D}(h:tP kvs k=some d):∃v,tz vs k=some v/\DR K W d v:=by
 unfold KR at r;induction r with
 |nil=>cases h
 | @cons p q ps qs hd t ih=>
  by_cases e:p.1=k
  ·have:tP (p::ps) k=some p.2:=by simp[tP,WX,e]
   rw[this] at h;cases h;exact⟨q.2,xt (by rw[←hd.1];exact e),hd.2⟩
  ·have:tP (p::ps) k=tP ps k:=by simp[tP,WX,e]
   rw[this] at h;obtain⟨v,h1,h2⟩:=ih h;exact⟨v,by rw[x3 (by rw[←hd.1];exact e)];exact h1,h2⟩
theorem AZ(hr:Room k X.A)(ha:PE X a (tD K ea))(hb:PE X b (tD K eb))(hs:Cj b:=by exact fun _ _=>rfl):PE X (.Subscript a b pos) (tD K (v2 ue ea eb)):=
 rO (Gy (by have:=hr.units;omega) ha hb hs) fun B H Q h=>by
  refine el4 h fun W O d Z5 eH ok en e q=>?_;subst eH;refine q0 e fun p1 e1 e=>?_;refine q0 e fun p2 e2 e=>?_;refine q0 e fun kvs e3 e=>?_;refine q0 e fun ky e4 e=>?_;refine q0 e fun d2 e5 e=>?_;cases e;refine⟨W,O,p1.1,p1.2,rfl,ok,en,e1,fun x W1 Z1 ok1 s1 r1=>⟨W1,O,p2.1,p2.2,rfl,ok1,en.step ok s1,by rw[Z1];exact e2,fun y W2 ZU ok2 s2 r2=>?_⟩⟩;rw[←ZU] at e3;obtain⟨n,a,vs,hd,rfl,hk,ha,hh,hs⟩:=yj ok2 e3 (r1.step ok1 s2);have:=Fh e4 r2;subst this;obtain⟨v,h1,h2⟩:=hs.at e5;exact⟨a,v,rfl,by rw[←h1];exact DGet.k hh,q _ W2 ZU ok2 (s1.trans s2) h2⟩
def AJ(x:D)(L:M):Fr:=(tf L x).bind fun kvs=>some (.lst (kvs.map (·.2)),L)
theorem Qa(ml:X.mg "list"=none) (ho:PE X o (tD K eo)) (hc:X.calm=true:=by rfl) (hg:Gl X "list":=by rfl) (hbase:attributeBase o "values" X.env (eval o X.env)=eval o X.env:=by rfl) (hline:(apos.endLine==pos1.line)=true:=by rfl)
  (hs:starEach [.Call (.Attribute o "values" apos) [] [] pos1] X.env=[(false,eval (.Call (.Attribute o "values" apos) [] [] pos1) X.env)]:=by rfl) (hK:X.K=K:=by rfl):
  PE X (.Call (.Name "list" p) [.Call (.Attribute o "values" apos) [] [] pos1] [] pos) (tD K (v1 AJ eo)):=by
 refine rO (A7 (p:=p) (pos:=pos) (SW (X:=X)) hg ml rfl (sJ (Rt K ho hbase hline hK) tE hs) (he:=hs)) fun B H Q h=>?_;refine el4 h fun W O d Z5 eH ok en e q=>?_;subst eH;refine q0 e fun p1 e1 e=>?_;refine q0 e fun kvs e2 e=>?_;cases e;refine⟨W,O,p1.1,p1.2,rfl,ok,en,e1,fun x W1 Z1 ok1 s1 r1=>?_⟩;rw[←Z1] at e2;obtain⟨k,a,vs,hd,rfl,hk,ha,hh,hs⟩:=yj ok1 e2 r1;refine(⟨Cw ok1 e2 r1,a,vs,rfl,rfl,hh,fun v hv=>?_⟩);refine⟨v,a,vs,rfl,sF,by rw[rG (fun z=>by rw[z,hv] at hh;cases hh)];exact hh,hc,fun l hl=>?_⟩;have ok2:=tQ (o:=vvO v a) ok1 hv;have s2:=sK (o:=vvO v a) hv;have r2:=hs.vals.step ok1 s2;exact q _ ((W1.lay v (vvO v a)).lay l (.lst (vs.map (·.2)))) Z1 (tQ ok2 hl) ((s1.trans s2).trans (sK hl)) (Ad ok2 hl r2)
def uK(eo ek ed:EV):EV:=fun O L=>(eo O L).bind fun p=>(tf p.2 p.1).bind fun _=>(ek O p.2).bind fun q=>(ed O q.2).bind fun r=>(vK q.1).bind fun k=>(tf r.2 p.1).bind fun kvs=>match p.1 with
 | .ref n=>if kvs.length<1000000 then(match tP kvs k with
  |some d=>some (d,r.2)
  |none=>some (r.1,r.2.set n (some (.dK (um kvs k r.1))))) else none
 |_=>none
theorem DE(ho:PE X o (tD K eo))(ha:PE X a (tD K ea))(hb:PE X b (tD K eb))(hs:starEach [a,b] X.env=[(false,eval a X.env),(false,eval b X.env)]:=by rfl)(hs2:starEach [b] X.env=[(false,eval b X.env)]:=by rfl)
  (hbase:attributeBase o "setdefault" X.env (eval o X.env)=eval o X.env:=by rfl) (hline:(apos.endLine==pos.line)=true:=by rfl) (hK:X.K=K:=by rfl)
  (hfew:((backTo pos (starEach [a,b] X.env)).all (fun x=>!x.1)&&(backToKw pos (keywordEach [] X.env)).all (fun x=>x.1.isSome)
   &&decide ([a,b].length+([]:List Keyword).length+(if([]:List Keyword).isEmpty then 0 else 1)<30))=true:=by rfl):
  PE X (.Call (.Attribute o "setdefault" apos) [a,b] [] pos) (tD K (uK eo ea eb)):=rO (Sz K ho ha hb hs hs2 hbase hline hK hfew) fun B H Q h=>by
 refine el4 h fun W O d Z5 eH ok en e q=>?_;subst eH;refine q0 e fun p1 e1 e=>?_;refine q0 e fun kv0 e0 e=>?_;refine q0 e fun p2 e2 e=>?_;refine q0 e fun p3 e3 e=>?_;refine q0 e fun ky e4 e=>?_;refine q0 e fun kvs e5 e=>?_;refine⟨W,O,p1.1,p1.2,rfl,ok,en,e1,fun x W1 Z1 ok1 s1 r1=>⟨Cw ok1 (by rw[Z1];exact e0) r1,W1,O,p2.1,p2.2,rfl,ok1,en.step ok s1,by rw[Z1];exact e2,fun y W2 ZU ok2 s2 r2=>⟨W2,O,p3.1,p3.2,rfl,ok2,(en.step ok s1).step ok1 s2,by rw[ZU];exact e3,fun z W3 ZR ok3 s3 r3=>?_⟩⟩⟩;rw[←ZR] at e5;obtain⟨n,a1,vs,hd,rfl,hk,ha1,hh,hs1⟩:=yj ok3 e5 ((r1.step ok1 s2).step ok2 s3);have:=Fh e4 (r2.step ok2 s3);subst this;rw[hd] at e;simp only at e;split at e
 ·rename_i hl;refine⟨a1,vs,ky,z,rfl,rfl,hh,zh (by rw[←hs1.len];omega),fun v hv=>?_,fun hv=>?_⟩
  ·split at e
   ·rename_i d0 hd0;cases e;obtain⟨v',h1,h2⟩:=hs1.at hd0;rw[hv] at h1;cases h1;exact(q _ W3 ZR ok3 ((s1.trans s2).trans s3) h2)
   ·rename_i hd0;have:=hs1.val ky;rw[hd0,hv] at this;cases this
  ·split at e
   ·rename_i d0 hd0;have:=hs1.val ky;rw[hd0,hv] at this;cases this
   ·cases e;obtain⟨o4,s4⟩:=Ji (vs':=sO vs ky z) (kvs':=um kvs ky p3.1) ok3 hk ha1 (hs1.put ky r3);exact q _ (W3.put n a1 (.dK (sO vs ky z)) (.dK (um kvs ky p3.1))) (by show W3.L.set _ _=_;rw[ZR]) o4 (((s1.trans s2).trans s3).trans s4) (r3.step ok3 s4)
 ·cases e
end
end L3
namespace L2
open PySem PySem.W PySem.Spec PyProof.Rows
structure FlewH (P:Program) (w:World) (outer:List Env) (Z9:Addr) (H H':Hp) (s:Shared) (e:Addr) (C:Value) (Z7:Heap) (s':Shared):Prop where
 os:s'.os=s.os
 bare:AllBare s'.gens
 un:Un (frs outer) [] H H' s.heap s'.heap
 hok:HOk P w H' s'.heap
 trk:∀b o,s'.heap.get? b=some o->H' b≠none->Z7.get? b=some o
 old:∀b o,s.heap.get? b=some o->H b=none->b∉frs outer->Z7.get? b=some o
 thr:∀b o,s.heap.get? b=some o->b∉frs outer->∃o',Z7.get? b=some o'
 frf:∀b∈frs outer,H b=none
 unt:H' e=none
 new:s.heap.get? e=none
 fly:∃a0,Heap.HeldW Z7 outer e C a0 Z9 s'.heap
section
variable {P:Program} {w:World} {outer:List Env} {Z9:Addr} {H H':Hp} {s s':Shared} {e:Addr} {C:Value} {Z7:Heap}
theorem Flew.noted{h2:Heap}(F:Flew P w outer H H' s e C Z7 s')(hs:s'.heap.UpToSlots h2)(fl:∃a0,Heap.HeldW Z7 outer e C a0 Z9 h2):FlewH P w outer Z9 H H' s e C Z7 {s' with heap:=h2}:=by
 obtain⟨a0,fl⟩:=fl;obtain⟨u,k,t⟩:=F.to fl.1 hs;exact(⟨F.os,F.bare,u,k,t,F.old,F.thr,F.frf,F.unt,F.new,a0,fl⟩)
theorem FlewH.to{h2:Heap}(F:FlewH P w outer Z9 H H' s e C Z7 s')(hB:Z7.StaysIn h2)(hs:s'.heap.UpToSlots h2):Un (frs outer) [] H H' s.heap h2/\HOk P w H' h2/\∀b o,h2.get? b=some o->H' b≠none->Z7.get? b=some o:=by
 obtain⟨a0,fl⟩:=F.fly;have kp:∀b o,s.heap.get? b=some o->H b=none->b∉frs outer->h2.get? b=some o:=fun b o x n hb=>hB b o (F.old b o x n hb);have sl:∀b o,s.heap.get? b=some o->H b=none->b∈frs outer->∃sl,h2.get? b=some {o with slots:=sl}:=fun b o x n hb=>by
  obtain⟨sl,e1⟩:=F.un.slot b o x n hb (by simp);obtain⟨_,o',e2,d⟩:=fl.2.2.1.mem hb;rw[e1] at e2;cases e2;obtain⟨sl',e3⟩:=hs b {o with slots:=sl} e1 d;exact(⟨sl',e3⟩)
 refine⟨⟨fun b o x n hb _=>kp b o x n hb,fun b o x n hb _=>sl b o x n hb,F.un.free,fun b o x _=>?_,F.un.tups,F.un.frzs,F.un.tbls⟩,fun a u eu=>?_,fun b o x n=>?_⟩
 ·by_cases hb:b∈frs outer
  ·obtain⟨l,e1⟩:=sl b o x (F.frf b hb) hb;exact⟨_,e1⟩
  ·obtain⟨o',e1⟩:=F.thr b o x hb;exact⟨o',hB b o' e1⟩
 ·refine(F.hok a u eu).stay (fun b v hb q=>hB b v (F.trk b v q ?_)) (fun _ q=>q) fun _ _ q=>q;rcases hb with z|z
  ·rw[z,eu];simp
  ·rw[z];simp
 ·cases eu:H' b with
  |none=>exact absurd eu n
  |some u=>
   obtain⟨o1,e1⟩:=(F.hok b u eu).there;have e2:=F.trk b o1 e1 n;have e3:=hB b o1 e2;rw[x] at e3;cases e3;exact(e2)
theorem FlewH.next{h2:Heap}(F:FlewH P w outer Z9 H H' s e C Z7 s')(hs:s'.heap.UpToSlots h2)(fl:∃a0,Heap.HeldW Z7 outer e C a0 Z9 h2):FlewH P w outer Z9 H H' s e C Z7 {s' with heap:=h2}:=by
 obtain⟨a0,fl⟩:=fl;obtain⟨u,k,t⟩:=F.to fl.1 hs;exact(⟨F.os,F.bare,u,k,t,F.old,F.thr,F.frf,F.unt,F.new,a0,fl⟩)
theorem FlewH.lands{h2:Heap}(F:FlewH P w outer Z9 H H' s e C Z7 s')(hs:s'.heap.UpToSlots h2)(fl:∃a0,Heap.FlyingW Z7 outer e C a0 h2):Flew P w outer H H' s e C Z7 {s' with heap:=h2}:=by
 obtain⟨a0,fl⟩:=fl;obtain⟨u,k,t⟩:=F.to fl.1 hs;exact(⟨F.os,F.bare,u,k,t,F.old,F.thr,F.frf,F.unt,F.new,a0,fl⟩)
end
theorem G5{M:Model}{A:Around}{E:OK}{s:Shared}{base:Heap}{l:List Env}{e Z9:Addr}{cls a0:Value}{Q:Unit->Shared->Prop}(R:Heap.HeldW base l e cls a0 Z9 s.heap)
  (h:∀h',Heap.HeldW base l e cls a0 Z9 h'->s.heap.UpToSlots h'->Q () {s with heap:=h'}):wpAny M A (setFlight (.ref e) (some Z9)) Q E s:=by
 obtain⟨hkb,hen,hl,oe,vs,T,oT,ts,he,hcls,hd,h1,hnT,hTe,hT,hdT,h3⟩:=R;have hsz3:3<ts.size:=(Array.getElem?_eq_some_iff.mp h3).1;have other:∀b,b≠T->(s.heap.update T (Obj.mapFields (·.setIfInBounds 3 ((some Z9).elim Value.none fun f=>rawInt f)))).get? b=s.heap.get? b:=
  fun b hb=>XN _ _ (Ne.symm hb)
 have noRecord:∀b o,s.heap.get? b=some o->(∀vs,o.data≠.fields vs)->b≠T:=fun b o hb hnf q=>by
  rw[q,hT] at hb;injection hb with hb;subst hb;exact hnf ts hdT
 unfold setFlight;refine WH (wpAny_field he hd h1 ?_);rw[if_pos (show(Value.ref T !=Value.none)=true from by simp)];refine wpAny_setField hT hdT hsz3 (h _ ⟨fun b o hbo=>(other b fun q=>by rw[q,hnT] at hbo;cases hbo).trans (hkb b o hbo),hen,
  hl.of_keeps fun b o hb hnf=>⟨o,(other b (noRecord b o hb hnf)).trans hb,rfl⟩,?_⟩ fun b o hb hnf=>⟨o.slots,(other b (noRecord b o hb hnf)).trans hb⟩)
 exact⟨oe,vs,T,_,_,(other e (Ne.symm hTe)).trans he,hcls,hd,h1,hnT,hTe,Heap.get?_update_self _ hT (Obj.isFreed_of_fields (Obj.data_mapFields hdT _)),Obj.data_mapFields hdT _,by simp[hsz3]⟩
theorem VX{M:Model}{A:Around}{E:OK}{s:Shared}{base h:Heap}{env:Env}{outer:List Env}{Z9 e:Addr}{cls:Value}{args:List Value}{Q:Unit->Shared->Prop}
  (hfr:A.frames=some (env::outer)) (hf:env.frame=some Z9) (hkb:base.StaysIn h) (hl:h.FunFrames base (env::outer)) (hx:Heap.MadeExcOf h s.heap e cls args)
  (hQ:∀h' a0,Heap.HeldW base (env::outer) e cls a0 Z9 h'->s.heap.UpToSlots h'->Q () {s with heap:=h'}):wpAny M A (noteFrame (.ref e) env) Q E s:=by
 obtain⟨t,he,htn,ht⟩:=hx.there;have fresh:∀b,h.get? b=none->base.get? b=none:=fun b hb=>by
  cases hq:base.get? b with
  |none=>rfl
  |some o'=>have:=hkb b o' hq;rw[hb] at this;cases this
 unfold noteFrame;simp only[hf];refine WH (wpAny_field he rfl (show(#[Value.ref t,.none,.none,.none,.bool false,.none]:Array Value)[1]?=some Value.none from rfl) ?_);rw[if_neg (show ¬((Value.none !=Value.none)=true) from by decide)];refine wpAny_entryW (a0:=.ref t) hfr (hl.of_keeps fun b o hb _=>⟨o,hx.keeps b o hb,rfl⟩) hf he (fun b o hb=>hx.keeps b o (hkb b o hb)) (fresh e hx.new) rfl (by simp) rfl fun h' hN=>?_;obtain⟨k1,k2,k3,k4⟩:=hN;exact(hQ h' _ ⟨k1,fresh e hx.new,k2,k3⟩ k4)
def Lv(X:Cx):Prop:=X.stack=X.env::X.outer/\X.env.frame=some X.env.locals
def FlX(X:Cx)(E:St->XK)(e:Value)(s':Shared):Prop:=∃(a:Addr) (C:Value) (pins:QS) (B:St) (H H':Hp) (s:Shared),e=.ref a/\Inv X pins B H s/\E B C none H'/\
 ((H'=H/\∃(D:Addr) (vs:List Value) (h':Heap),C=.ref D/\s'={s with heap:=h'}/\Heap.MadeExcOf s.heap h' a C vs)\/(∃Z7,Flew X.prog X.w X.stack H H' s a C Z7 s')\/(∃Z7,FlewH X.prog X.w X.stack X.env.locals H H' s a C Z7 s'))
section
variable {X:Cx} {E:St->XK} {pins:QS} {B:St} {H H':Hp} {s s':Shared} {a:Addr} {C:Value} {Z7:Heap}
theorem Sg{M:Model}{A:Around}{E':OK}{D:Addr}{vs:List Value}{h':Heap}{Q:Unit->Shared->Prop}(lv:Lv X)(hA:A.frames=X.A.frames)(I:Inv X pins B H s)(hx:Heap.MadeExcOf s.heap h' a (.ref D) vs)
  (hQ:∀Z7 h2,FlewH X.prog X.w X.stack X.env.locals H H s a (.ref D) Z7 {s with heap:=h2}->Q () {s with heap:=h2}):wpAny M A (noteFrame (.ref a) X.env) Q E' {s with heap:=h'}:=by
 obtain⟨lv1,lv2⟩:=lv;have fs:∀b,b∈frs X.stack->H b=none:=I.stkFree;have inn:∀b o,s.heap.get? b=some o->b∉frs X.stack->(hideAll s.heap (frs X.stack)).get? b=some o:=fun b o e hb=>hideAll_get _ e hb;have hin:∀env∈X.stack,∀a,env.frame=some a->a∈frs X.stack:=fun env he a ha=>List.mem_filterMap.mpr ⟨env,he,ha⟩;have nfr:∀b,H b≠none->b∉frs X.stack:=fun b n z=>n (fs b z);refine VX (base:=hideAll s.heap (frs X.stack)) (env:=X.env) (outer:=X.outer) (by rw[hA,I.ok.frames,lv1]) lv2 (fun b o q=>of_hideAll _ q) (by rw[←lv1];exact funFrames_hide I.stack hin) hx fun h2 a0 fl ups=>hQ (hideAll s.heap (frs X.stack)) h2 ?_;have hB:=fl.1;have hkeep:∀b o,s.heap.get? b=some o->b∉frs X.stack->h2.get? b=some o:=fun b o e hb=>hB b o (inn b o e hb);have hslot:∀b o,s.heap.get? b=some o->b∈frs X.stack->∃sl,h2.get? b=some {o with slots:=sl}:=fun b o e hb=>by
  obtain⟨_,o',e2,d⟩:=I.stack.mem hb;rw[e] at e2;cases e2;obtain⟨sl',e3⟩:=ups b o (hx.keeps b o e) d;exact(⟨sl',e3⟩)
 refine⟨rfl,I.bare,⟨fun b o x n hb _=>hkeep b o x hb,fun b o x n hb _=>hslot b o x hb,fun b o x n _=>n,fun b o x _=>?_,fun _ _ z=>z,fun _ _ _ z=>z,fun _ ps z=>⟨#[],by simpa using z⟩⟩,fun b u eu=>?_,fun b o x n=>?_,fun b o x n hb=>inn b o x hb,fun b o x hb=>⟨o,inn b o x hb⟩,fs,?_,hx.new,a0,?_⟩
 ·by_cases hb:b∈frs X.stack
  ·obtain⟨l,e1⟩:=hslot b o x hb;exact⟨_,e1⟩
  ·exact⟨o,hkeep b o x hb⟩
 ·refine(I.hok b u eu).stay (fun c v hb q=>hkeep c v q (nfr c ?_)) (fun _ q=>q) fun _ _ q=>q;rcases hb with z|z
  ·rw[z,eu];simp
  ·rw[z];simp
 ·cases eu:H b with
  |none=>exact absurd eu n
  |some u=>
   obtain⟨o1,e1⟩:=(I.hok b u eu).there;have e2:=inn b o1 e1 (nfr b n);have e3:=hB b o1 e2;rw[x] at e3;cases e3;exact(e2)
 ·cases eu:H a with
  |none=>rfl
  |some u=>
   obtain⟨o1,e1⟩:=(I.hok a u eu).there;rw[hx.new] at e1;cases e1
 ·rw[←lv1] at fl;exact fl
theorem QC{M:Model}{A:Around}{E':OK}{e:Value}{Q:Unit->Shared->Prop}(lv:Lv X)(hA:A.frames=X.A.frames)(h:FlX X E e s')
  (hQ:∀a C pins B H H' s Z7 s2,e=.ref a->Inv X pins B H s->E B C none H'->FlewH X.prog X.w X.stack X.env.locals H H' s a C Z7 s2->Q () s2):wpAny M A (noteFrame e X.env) Q E' s':=by
 obtain⟨a,C,pins,B,H,H',s,rfl,I,hE,h⟩:=h;rcases h with⟨rfl,D,vs,h',rfl,rfl,hx⟩|⟨Z7,F⟩|⟨Z7,F⟩
 ·exact Sg lv hA I hx fun Z7 h2 F=>hQ _ _ _ _ _ _ _ _ _ rfl I hE F
 ·obtain⟨a0,fl⟩:=F.fly;have fl':Heap.FlyingW Z7 (X.env::X.outer) a C a0 s'.heap:=by rw[←lv.1];exact fl
  refine wpAny_looks_onW (by rw[hA,I.ok.frames,lv.1]) lv.2 fl' fun h2 hh hs=>hQ _ _ _ _ _ _ _ _ _ rfl I hE (F.noted hs ⟨a0,by rw[lv.1];exact hh⟩)
 ·obtain⟨a0,fl⟩:=F.fly;exact wpAny_noteFrame_againW lv.2 fl.2.2.2 (hQ _ _ _ _ _ _ _ _ _ rfl I hE F)
theorem Wa(lv:Lv X):PassesOwn (model X.prog X.w) X.A X.env (FlX X E):=fun e s' h=>by
 refine QC lv rfl h fun a C pins B H H' s Z7 s2 he I hE F=>?_;subst he;obtain⟨a0,fl⟩:=F.fly;obtain⟨oe,vs,T,oT,ts,g1,_,g2,g3,_⟩:=id fl.2.2.2;show wpAny _ _ (do
  if(←field (.ref a) 1)==.none then unsupported "frame.own-activation:exception-without-traceback"
  setFlight (.ref a) X.env.frame) _ _ _
 refine WH (wpAny_field g1 g2 g3 ?_);rw[if_neg (show ¬((Value.ref T==Value.none)=true) from by simp),lv.2];first
  |exact WH (WM (G5 fl fun h2 hh hs=>⟨a,C,pins,B,H,H',s,rfl,I,hE,.inr (.inr ⟨Z7,F.next hs ⟨a0,hh⟩⟩)⟩))
  |exact G5 fl fun h2 hh hs=>⟨a,C,pins,B,H,H',s,rfl,I,hE,.inr (.inr ⟨Z7,F.next hs ⟨a0,hh⟩⟩)⟩
end
section
variable {P:Program} {w:World} {K:Frag} {mg:Str->Option Value} {base:Heap} {N:List Str} {qual:Str} {scope:Scope} {f:Addr} {cd:Value} {A:Around} {outer:List Env} {s:Shared} {H:Hp} {E:XK}
theorem Ol{e:Value}{s':Shared}(h:FlX (rV (CXr P w) P w K mg base N qual scope f cd A outer s H E) (fun _=>E) e s'):(rV (CXr P w) P w K mg base N qual scope f cd A outer s H E).xe e s':=by
 obtain⟨a,C,pins,B,H1,H',s1,rfl,I,hE,h⟩:=h;rcases h with⟨rfl,D,vs,h',rfl,rfl,hx⟩|⟨Z7,F⟩|⟨Z7,F⟩
 ·exact Nk I hx hE
 ·exact Np (E':=E) (fun _ _ _ z=>z) pins B H1 s1 _ s' I ⟨a,C,H',Z7,rfl,F,hE⟩
 ·obtain⟨a0,fl⟩:=F.fly;show wpAny (model P w) (A.deeper (envOfC qual scope s.heap.objs.size f cd)) (leaving (envOfC qual scope s.heap.objs.size f cd) (.ref a)) _ _ _;unfold leaving;refine WH (wpAny_noteFrame_againW rfl fl.2.2.2 (wpAny_landsW fl fun h2 fl2 ups=>?_));have F2:=F.lands ups ⟨a0,fl2⟩;have I2:=Flew.inv (X:=rV (CXr P w) P w K mg base N qual scope f cd A outer s H E) F2 I;have out:∀b o,s.heap.get? b=some o->b∉frs outer->b∉frs (envOfC qual scope s.heap.objs.size f cd::outer):=fun b o e hb z=>by
   have z:b∈s.heap.objs.size::frs outer:=z;rcases Xd.mp z with q|q
   ·rw[q] at e;exact Xp _ (WN e)
   ·exact hb q
  obtain⟨f1,f2,⟨_,_,f3⟩,f4⟩:=id fl2;refine⟨a,C,H',Z7,rfl,⟨I2.os,F2.bare,⟨fun b o x n hb _=>I2.base.keep b o x n hb (by simp[rV]),fun b o x n hb _=>I2.base.slot b o x n hb (by simp[rV]),fun b o x n _=>I2.base.free b o x n (by simp[rV]),fun b o x _=>I2.base.there b o x (by simp[rV]),I2.base.tups,I2.base.frzs,I2.base.tbls⟩,F2.hok,F2.trk,
   fun b o x n hb=>F2.old b o (I.base.keep b o x n hb (by simp[rV])) (I.base.free b o x n (by simp[rV])) (out b o x hb),fun b o x hb=>?_,I.ok.frf,F2.unt,?_,a0,f1,f2,f3,f4⟩,hE⟩
  ·obtain⟨o1,e1⟩:=I.base.there b o x (by simp[rV]);exact F2.thr b o1 e1 (out b o x hb)
  ·cases eo:s.heap.get? a with
   |none=>rfl
   |some o=>
    obtain⟨o1,e1⟩:=I.base.there a o eo (by simp[rV]);rw[F2.new] at e1;cases e1
end
abbrev Cx.fl(X:Cx)(E:St->XK):Cx:=X.wish (FlX X E)
abbrev zp:List Value:=[.type "ValueError",.type "Exception",.type "BaseException",.type "object"]
def uW(K:Frag)(C:Addr):Prop:=∃bm N nm q bs hdct sn sub ab col dd k0 k1 k2 k3 k5,
  K.lookup C=some (excClassObj nm q C N bs bm hdct sn sub ab col dd k0 k1 k2 k3 k5 "ValueError.__new__")/\tailIn K zp bm=true/\nsOkIn K N=true/\nsIn K N "__init__"=some none
theorem Nz{K:Frag}{h:Heap}{C:Addr}{G:Prop}(X:K.In h)(q:uW K C)
  (k:∀bm N nm q bs hdct sn sub ab col dd k0 k1 k2 k3 k5 mN,h.get? C=some (excClassObj nm q C N bs bm hdct sn sub ab col dd k0 k1 k2 k3 k5 "ValueError.__new__")->h.Ns N mN->mN "__init__"=none->OwnTail h zp bm->G):G:=by
 obtain⟨bm,N,nm,q,bs,hdct,sn,sub,ab,col,dd,k0,k1,k2,k3,k5,ho,ht,hok,hni⟩:=q;exact(k bm N nm q bs hdct sn sub ab col dd k0 k1 k2 k3 k5 _ (X _ _ ho) (.of_isNs (isNs_of_in X hok)) (nsMap_none_of_in X hok hni) (tail_of_in X ht))
def Sc{h h':Heap}{N:Addr}{m:Str->Option Value}(hN:h.Ns N m)(b:∀b o,h.get? b=some o->h'.get? b=some o):h'.Ns N m:=by
 obtain⟨o,es,ep,ho,hd,hs,hf⟩:=hN;exact(⟨o,es,ep,b _ _ ho,hd,hs,hf⟩)
section
variable {X:Cx} {E:St->XK} {e:Expr} {te:TE} {np cpos pos:Pos} {x:Str} {C:Addr}
theorem Jo(he:PE (X.fl E) e te)(hg:Gl (X.fl E) x)(hm:X.mg x=some (.ref C))(hC:uW X.K C)(hc:X.calm=true)(hd:(x==("__debug__":Str))=false:=by decide)
  (hs:starEach [e] X.env=[(false,eval e X.env)]:=by rfl):PS (X.fl E) (.Raise (some (.Call (.Name x np) [e] [] cpos)) none pos) (fun _ B H=>te B H fun _ H1=>E B (.ref C) none H1):=by
 intro pins s B H D I h;have kb:X.K.In X.base:=I.ok.mod.kin;refine Nz kb hC fun tl N nm q bs hdct sn sub ab col dd k0 k1 k2 k3 k5 mN hCo hN hni T=>?_;have hpl:(backTo cpos (starEach [e] X.env)).any (·.1)=false:=by rw[hs];rfl
 refine wpAny_Raise_call_subT (C:=C) (nm:=nm) (q:=q) (N:=N) (bs:=bs) (bm:=tl) (hdct:=hdct) (sn:=sn) (sub:=sub) (ab:=ab) (col:=col) (dd:=dd) (k0:=k0) (k1:=k1) (k2:=k2) (k3:=k3) (k5:=k5)
  PySem.F.excBase_ValueError (mN:=mN) (T.hasType PySem.F.excBase_ValueError.hasBase) (I.ok.hd hc) hpl hni (zj I hg hm ⟨rfl,?_⟩ hd)
 show wpAny _ _ (evalArgs (.ref C) true (backTo cpos (starEach [e] X.env)) []) _ _ _;have hpa:PA (X.fl E) [e] (ub te u7):=sJ he tE (by show starEach [e] X.env=(false,eval e X.env)::starEach [] X.env;rw[hs];rfl);have hq:wpAny (model X.prog X.w) X.A (spliced (backTo cpos (starEach [e] X.env))) (AP (X.fl E) pins B (fun vs H1=>vs.length=1/\E B (.ref C) none H1)) (FlX X E) s:=hpa cpos pins s B H (fun vs H1=>vs.length=1/\E B (.ref C) none H1) I (by
  unfold ub u7;have z:te B H (fun v H1=>E B (.ref C) none H1):=h;simpa using z)
 rw[hs] at hq⊢;refine Calls.evalArgs_plain (thn hq fun us s2 hm=>?_);obtain⟨vs,H2,I2,r,hl,hE⟩:=hm;have base:∀b o,X.base.get? b=some o->s2.heap.get? b=some o:=I2.bk;exact⟨rfl,by rw[←r.length,hl];decide,base _ _ hCo,Sc hN base,T.keeps base,fun h' a hx=>⟨a,.ref C,pins,B,H2,H2,s2,rfl,I2.unwish,hE,.inl ⟨rfl,C,us,h',rfl,rfl,hx⟩⟩⟩
end
def DfX(P:Program)(w:World)(K:Frag)(mg:Str->Option Value)(base:Heap)(k:Nat)(x:Str)(ps:List Str)(sp:Sp):Prop:=
 ∃f fd,FnOk P w K mg base (CXr P w) k f fd ps sp/\Binds K fd ps []/\keepIn K (.ref f)=true/\mg x=some (.ref f)
section
variable {X:Cx} {E:St->XK} {k:Nat} {x:Str} {ps:List Str} {sp:Sp} {e:Expr} {es:List Expr} {t:TA} {p pos:Pos} {f C:Addr} {fd:FuncData}
theorem Tj{pins:QS}{B:St}{H:Hp}{s:Shared}{Q:VK}{us:List Value}{vs:List V}(F:FnOk X.prog X.w X.K X.mg X.base (CXr X.prog X.w) k f fd ps sp)(hr:Room k X.A)(hb:Binds X.K fd ps [])
  (I:Inv (X.fl E) pins B H s) (r:Vals vs us) (h:sp vs H Q (E B)):wpAny (model X.prog X.w) X.A (call (.ref f) us) (EP (X.fl E) pins B Q) (FlX X E) s:=by
 have hl:us.length=ps.length:=by rw[←r.length];exact F.len _ _ _ _ h
 have hb':=hb s us I.kIn (by simpa using hl);simp only[XC] at hb';refine wpAny_call (codeAny_mono (F.run X.A X.stack s H ⟨us,[]⟩ us vs Q (E B) hr I.env0 hb' r h) fun r s' hq=>?_);cases r with
 |error e=>
  obtain⟨a,C,H',Z7,rfl,F,hE⟩:=hq;exact⟨a,C,pins,B,H,H',s,rfl,I.unwish,hE,.inr (.inl ⟨Z7,F⟩)⟩
 |ok fl=>
  cases fl with
  |ret u=>exact I.after hq
  |next=>exact False.elim hq
  |brk=>exact False.elim hq
  |cont=>exact False.elim hq
theorem NZ(D:DfX X.prog X.w X.K X.mg X.base k x ps sp)(hr:Room k X.A)(ha:PA (X.fl E) (e::es) t)(hg:Gl X x:=by rfl)(hdb:(x==("__debug__":Str))=false:=by decide)
  (he:starEach (e::es) X.env=(false,eval e X.env)::starEach es X.env:=by rfl) (hpl:(backTo pos (starEach es X.env)).any (·.1)=false:=by rfl):
  PE (X.fl E) (.Call (.Name x p) (e::es) [] pos) (fun B H Q=>t B H fun vs H1=>sp vs H1 Q (E B)):=by
 obtain⟨f,fd,F,hb,hk,hm⟩:=D;intro pins s B H Q I h;refine X7 (zj I hg hm ?_ hdb);refine PySem.W.callWith_K (h₀:=X.base) I.ok.mod.kin hk (thn (ha pos pins s B H _ I h) fun us s1 ⟨vs,H1,I1,r,q⟩=>⟨I1.kIn,?_⟩) he hpl;exact Tj F hr hb I1 r q
end
theorem Fun.okX{P:Program}{w:World}{K:Frag}{mg:Str->Option Value}{base:Heap}{x qual:Str}{st:Stmt}{f:Addr}{fd:FuncData}{N ps:List Str}{k:Nat}{sp:Sp}(F:Fun K x qual st f fd)(S:FnScope N ps (rh st))(len:∀vs H Q E,sp vs H Q E->vs.length=ps.length)
  (hbody:∀(cdv:Value) (A:Around) (outer:List Env) (s:Shared) (H:Hp) (vs:List V) (Q:VK) (E:XK),Room k (A.deeper (envOfC qual (rh st) s.heap.objs.size f cdv))->sp vs H Q E->
   ∃t,PSs ((rV (CXr P w) P w K mg base N qual (rh st) f cdv A outer s H E).fl fun _=>E) (rN st) t/\t {nx:=fun _ H'=>Q .non H',rt:=Q} (vX N vs) H):FnOk P w K mg base (CXr P w) (k+1) f fd ps sp:=by
 obtain⟨oc,od,kV,doc,pm,an,cdv,ct,osl,rfl,lk,hcd⟩:=F.ex;refine(JL lk hcd S len fun A outer s H vs Q E hr hsp=>?_);obtain⟨t,h,q⟩:=hbody cdv A outer s H vs Q E hr hsp;refine(⟨t,fun pins s B H D I hw=>?_,q⟩);exact WO (h pins s B H D (I.wish _) hw) (fun _ _ z=>z.unwish) fun e s' z=>Ol z
end L2
namespace L3
open PySem PySem.Spec L2
open PyProof.Rows (envOfC)
inductive Rs (J:Type) where
 |ok (a:J)|ex (C:Addr)
abbrev EX:=G->M->Option (Rs D×M)
abbrev BX:=G->M->Option (Rs Bool×M)
abbrev LX:=G->M->Option (Rs (List D)×M)
abbrev FX:=List D->M->Option (Rs D×M)
inductive OutX where
 |nx|bk|ct|rt (d:D)|ex (C:Addr)
abbrev SX:=G->M->Option (OutX×G×M)
section
variable (K:Frag) (E:St->XK)
def Go(E:XK)(Q:VK)(W':Wd):Rs D->Prop
 | .ok d=>∀v,DR K W' d v->Q v W'.H
 | .ex C=>E (.ref C) none W'.H
def C4(E:XK)(Q:Bool->Hp->Prop)(W':Wd):Rs Bool->Prop
 | .ok b=>Q b W'.H
 | .ex C=>E (.ref C) none W'.H
def OE(E:XK)(Q:List V->Hp->Prop)(W':Wd):Rs (List D)->Prop
 | .ok ds=>∀vs,DRs K W' ds vs->Q vs W'.H
 | .ex C=>E (.ref C) none W'.H
def R8(D:Ends)(W':Wd)(ZZ:St):OutX->Prop
 | .nx=>D.nx ZZ W'.H
 | .bk=>D.bk ZZ W'.H
 | .ct=>D.ct ZZ W'.H
 | .rt d=>∀v,DR K W' d v->D.rt v W'.H
 | .ex C=>E ZZ (.ref C) none W'.H
def tX(ev:EX):TE:=fun B H Q=>∃(W:Wd) (O:G) (r:Rs D) (Z5:M),W.H=H/\Ok K W/\EnvR K W O B/\ev O W.L=some (r,Z5)/\∀W',W'.L=Z5->Ok K W'->Step W W'->Go K (E B) Q W' r
def tXB(ev:BX):TT:=fun B H Q=>∃(W:Wd) (O:G) (r:Rs Bool) (Z5:M),W.H=H/\Ok K W/\EnvR K W O B/\ev O W.L=some (r,Z5)/\∀W',W'.L=Z5->Ok K W'->Step W W'->C4 (E B) Q W' r
def tXL(ev:LX):TA:=fun B H Q=>∃(W:Wd) (O:G) (r:Rs (List D)) (Z5:M),W.H=H/\Ok K W/\EnvR K W O B/\ev O W.L=some (r,Z5)/\∀W',W'.L=Z5->Ok K W'->Step W W'->OE K (E B) Q W' r
def tXS(es:SX):TS:=fun D B H=>∃(W:Wd) (O:G) (out:OutX) (ZX:G) (Z5:M),W.H=H/\Ok K W/\EnvR K W O B/\es O W.L=some (out,ZX,Z5)/\∀W' ZZ,W'.L=Z5->Ok K W'->Step W W'->EnvR K W' ZX ZZ->R8 K E D W' ZZ out
end
def upB(ev:BV):BX:=fun O L=>(ev O L).bind fun p=>some (.ok p.1,p.2)
def upL(ev:LV):LX:=fun O L=>(ev O L).bind fun p=>some (.ok p.1,p.2)
def upO:Out->OutX
 | .nx=>.nx
 | .bk=>.bk
 | .ct=>.ct
 | .rt d=>.rt d
def upS(es:SV):SX:=fun O L=>(es O L).bind fun o=>some (upO o.1,o.2)
def upF(f:C0):FX:=fun ds L=>(f ds L).bind fun p=>some (.ok p.1,p.2)
def Uq{X:Cx}{es:List Expr}{t:TA}(h:PA X.nox es t):PA X es t:=fun pos pins s B H Q I hw=>
 WO (h pos pins s B H Q (I.wish _) hw) (fun _ _ ⟨v,H',I',r,q⟩=>⟨v,H',I'.unwish,r,q⟩) fun _ _ z=>False.elim z
def WG{X:Cx}{tg:Expr}{t:TG}(h:PG X.nox tg t):PG X tg t:=fun pins s B H v u Q I r hw=>
 WO (h pins s B H v u Q (I.wish _) r hw) (fun _ _ ⟨ZZ,H',I',q⟩=>⟨ZZ,H',I'.unwish,q⟩) fun _ _ z=>False.elim z
section
variable {X:Cx} {E:St->XK} {K:Frag} {e:Expr} {es:List Expr} {pos p:Pos} {ev:EV} {bv:BV} {lv:LV} {sv:SV}
theorem Sa:∀B H Q,tXB K E (upB bv) B H Q->tDB K bv B H Q:=fun B H Q h=>by
 refine el4 h fun W O r Z5 eH ok en e q=>?_;subst eH;refine q0 e fun p e1 e=>?_;cases e;exact⟨W,O,p.1,p.2,rfl,ok,en,e1,fun W' h1 h2 h3=>q W' h1 h2 h3⟩
theorem M2:∀B H Q,tXL K E (upL lv) B H Q->tDL K lv B H Q:=fun B H Q h=>by
 refine el4 h fun W O r Z5 eH ok en e q=>?_;subst eH;refine q0 e fun p e1 e=>?_;cases e;exact⟨W,O,p.1,p.2,rfl,ok,en,e1,fun v W' h1 h2 h3 h4=>q W' h1 h2 h3 v h4⟩
theorem HD:∀D B H,tXS K E (upS sv) D B H->tDS K sv D B H:=fun D B H h=>by
 refine el5 h fun W O o ZX Z5 eH ok en e q=>?_;subst eH;obtain⟨⟨o1,ZY,Z4⟩,e1,e⟩:=bnd e;cases e;refine(⟨W,O,o1,_,_,rfl,ok,en,e1,fun W' ZZ h1 h2 h3 h4=>?_⟩);have:=q W' ZZ h1 h2 h3 h4;cases o1<;>exact this
theorem za(h:PT X.nox e (tDB K bv)):PT X e (tXB K E (upB bv)):=wP h.nox Sa
theorem vS(h:PA X.nox es (tDL K lv)):PA X es (tXL K E (upL lv)):=BW (Uq h) M2
def BK(ea:EX)(el:LX):LX:=fun O L=>(ea O L).bind fun p=>match p.1 with
 | .ok d=>(el O p.2).bind fun q=>match q.1 with
  | .ok ds=>some (.ok (d::ds),q.2)
  | .ex C=>some (.ex C,q.2)
 | .ex C=>some (.ex C,p.2)
theorem V1{ea:EX}{el:LX}(ha:PE X e (tX K E ea))(hr:PA X es (tXL K E el))(hs:starEach (e::es) X.env=(false,eval e X.env)::starEach es X.env:=by rfl):PA X (e::es) (tXL K E (BK ea el)):=BW (sJ ha hr hs) fun B H Q h=>by
 refine el4 h fun W O r Z5 eH ok en e q=>?_;subst eH;obtain⟨⟨p1,p2⟩,e1,e⟩:=bnd e;refine(⟨W,O,p1,p2,rfl,ok,en,e1,fun W1 Z1 ok1 s1=>?_⟩);cases p1 with
 |ex C=>cases e;exact q W1 Z1 ok1 s1
 |ok d=>
  intro x rx;obtain⟨⟨q1,q2⟩,e2,e⟩:=bnd e;refine⟨W1,O,q1,q2,rfl,ok1,en.step ok s1,by rw[Z1];exact e2,fun W2 ZU ok2 s2=>?_⟩;cases q1 with
  |ex C=>cases e;exact q W2 ZU ok2 (s1.trans s2)
  |ok ds=>
   cases e;exact fun vs rvs=>q W2 ZU ok2 (s1.trans s2) (x::vs) (.cons (rx.step ok1 s2) rvs)
def spX(K:Frag)(f:FX):Sp:=fun vs H Q E=>∃(W:Wd) (ds:List D) (r:Rs D) (Z5:M),W.H=H/\Ok K W/\DRs K W ds vs/\f ds W.L=some (r,Z5)/\∀W',W'.L=Z5->Ok K W'->Step W W'->Go K E Q W' r
def vLX(f:FX)(el:LX):EX:=fun O L=>(el O L).bind fun p=>match p.1 with
 | .ok ds=>f ds p.2
 | .ex C=>some (.ex C,p.2)
theorem GH{f:FX}{el:LX}{r:List V->Hp->VK->XK->Prop}(ra:∀vs H Q E,spX K f vs H Q E->r vs H Q E):∀B H Q,tX K E (vLX f el) B H Q->tXL K E el B H fun vs H1=>r vs H1 Q (E B):=fun B H Q h=>by
 refine el4 h fun W O r Z5 eH ok en e q=>?_;subst eH;obtain⟨⟨p1,p2⟩,e1,e⟩:=bnd e;refine(⟨W,O,p1,p2,rfl,ok,en,e1,fun W1 Z1 ok1 s1=>?_⟩);cases p1 with
 |ex C=>cases e;exact q W1 Z1 ok1 s1
 |ok ds=>exact fun vs rv=>ra _ _ _ _ ⟨W1,ds,r,Z5,rfl,ok1,rv,by rw[Z1];exact e,fun W2 ZU ok2 s2=>q W2 ZU ok2 (s1.trans s2)⟩
theorem wQ{x:Str}{ps:List Str}{f:FX}{k:Nat}{el:LX}(D:DfX X.prog X.w X.K X.mg X.base k x ps (spX K f))(hr:Room k X.A)(ha:PA (X.fl E) (e::es) (tXL K E el))(hg:Gl X x:=by rfl)(hdb:(x==("__debug__":Str))=false:=by decide)
  (he:starEach (e::es) X.env=(false,eval e X.env)::starEach es X.env:=by rfl) (hpl:(backTo pos (starEach es X.env)).any (·.1)=false:=by rfl):PE (X.fl E) (.Call (.Name x p) (e::es) [] pos) (tX K E (vLX f el)):=
 rO (NZ D hr ha hg hdb he hpl) (GH fun _ _ _ _ z=>z)
theorem Od{f:C0}:∀vs H Q E,spX K (upF f) vs H Q E->spM K f vs H Q E0:=fun vs H Q E h=>by
 obtain⟨W,ds,r,Z5,h1,h2,h3,e,q⟩:=h;obtain⟨⟨d,Z4⟩,e1,e⟩:=bnd e;cases e;exact(⟨W,ds,d,Z4,h1,h2,h3,e1,fun v W' a b c d=>q W' a b c v d⟩)
theorem QB{x:Str}{ps:List Str}{f:C0}{k:Nat}{el:LX}(D:Df X.prog X.w X.K X.mg X.base k x ps (spM K f))(hr:Room k X.A)(ha:PA X (e::es) (tXL K E el))(hg:Gl X x:=by rfl)(hdb:(x==("__debug__":Str))=false:=by decide)
  (he:starEach (e::es) X.env=(false,eval e X.env)::starEach es X.env:=by rfl) (hpl:(backTo pos (starEach es X.env)).any (·.1)=false:=by rfl):PE X (.Call (.Name x p) (e::es) [] pos) (tX K E (vLX (upF f) el)):=
 rO (JN D hr ha hg hdb he hpl) (GH (r:=fun vs H Q _=>spM K f vs H Q E0) Od)
def bTX(ev:EX):BX:=fun O L=>(ev O L).bind fun p=>match p.1 with
 | .ok (.bl b)=>some (.ok b,p.2)
 | .ok _=>none
 | .ex C=>some (.ex C,p.2)
theorem Px{ev:EX}(h:PE X e (tX K E ev))(he:∀whole,isTrue e X.env whole=(do let v ←whole;standAt e.pos;holding [v] (truthy v)):=by intro _;rfl):PT X e (tXB K E (bTX ev)):=wP (Ux h he) fun B H Q h=>by
 refine el4 h fun W O r Z5 eH ok en e q=>?_;subst eH;obtain⟨⟨p1,p2⟩,e1,e⟩:=bnd e;refine(⟨W,O,p1,p2,rfl,ok,en,e1,fun W1 Z1 ok1 s1=>?_⟩);cases p1 with
 |ex C=>cases e;exact q W1 Z1 ok1 s1
 |ok d=>
  intro v rv;cases d with
  |bl b=>cases e;cases rv;exact⟨b,rfl,q W1 Z1 ok1 s1⟩
  |_=>cases e
def AR(t:BX):BX:=fun O L=>(t O L).bind fun p=>match p.1 with
 | .ok b=>some (.ok (!b),p.2)
 | .ex C=>some (.ex C,p.2)
theorem NC{bx:BX}(h:PT X e (tXB K E bx)):PT X (.UnaryOp .Not e pos) (tXB K E (AR bx)):=wP (IC h) fun B H Q h=>by
 refine el4 h fun W O r Z5 eH ok en e q=>?_;subst eH;obtain⟨⟨p1,p2⟩,e1,e⟩:=bnd e;refine(⟨W,O,p1,p2,rfl,ok,en,e1,fun W1 Z1 ok1 s1=>?_⟩);cases p1 with
 |ex C=>cases e;exact q W1 Z1 ok1 s1
 |ok b=>cases e;exact q W1 Z1 ok1 s1
end
open PyProof.Rows (envOfC)
section
variable {X:Cx} {E:St->XK} {K:Frag} {e:Expr} {st:Stmt} {rA:List Stmt} {pos p:Pos} {sa sb:SX} {ex:EX}
def sX(a b:SX):SX:=fun O L=>(a O L).bind fun o=>match o.1 with
 | .nx=>b o.2.1 o.2.2
 |x=>some (x,o.2)
theorem xT:PSs X [] (tXS K E (upS sNx)):=zI so HD
theorem uu(h1:PS X st (tXS K E sa)):PSs X [st] (tXS K E sa):=K4 h1
theorem wK(h1:PS X st (tXS K E sa))(h2:PSs X rA (tXS K E sb)):PSs X (st::rA) (tXS K E (sX sa sb)):=zI (GQ h1 h2) fun D B H h=>by
 refine el5 h fun W O o ZX Z5 eH ok en e q=>?_;subst eH;obtain⟨⟨o1,ZY,Z4⟩,e1,e⟩:=bnd e;refine(⟨W,O,o1,ZY,Z4,rfl,ok,en,e1,fun W1 ZI Z1 ok1 s1 en1=>?_⟩);cases o1 with
 |nx=>exact⟨W1,ZY,o,ZX,Z5,rfl,ok1,en1,by rw[Z1];exact e,fun W2 ZV ZU ok2 s2 en2=>q W2 ZV ZU ok2 (s1.trans s2) en2⟩
 |bk=>cases e;exact q W1 ZI Z1 ok1 s1 en1
 |ct=>cases e;exact q W1 ZI Z1 ok1 s1 en1
 |rt d=>cases e;exact q W1 ZI Z1 ok1 s1 en1
 |ex C=>cases e;exact q W1 ZI Z1 ok1 s1 en1
def xA(ea:EX):SX:=fun O L=>(ea O L).bind fun p=>match p.1 with
 | .ok _=>some (.nx,O,p.2)
 | .ex C=>some (.ex C,O,p.2)
theorem Fg(he:PE X e (tX K E ex))(hs:swapsWith e none pos.line X.env=pure false:=by rfl):PS X (.Expr e pos) (tXS K E (xA ex)):=tH (Jm he hs) fun D B H h=>by
 refine el5 h fun W O o ZX Z5 eH ok en e q=>?_;subst eH;obtain⟨⟨p1,p2⟩,e1,e⟩:=bnd e;refine(⟨W,O,p1,p2,rfl,ok,en,e1,fun W1 Z1 ok1 s1=>?_⟩);cases p1 with
 |ex C=>cases e;exact q W1 B Z1 ok1 s1 (en.step ok s1)
 |ok d=>cases e;exact fun v rv=>q W1 B Z1 ok1 s1 (en.step ok s1)
def wR(ea:EX):SX:=fun O L=>(ea O L).bind fun p=>match p.1 with
 | .ok d=>some (.rt d,O,p.2)
 | .ex C=>some (.ex C,O,p.2)
theorem Ec(he:PE X e (tX K E ex)):PS X (.Return (some e) pos) (tXS K E (wR ex)):=tH (Mo he) fun D B H h=>by
 refine el5 h fun W O o ZX Z5 eH ok en e q=>?_;subst eH;obtain⟨⟨p1,p2⟩,e1,e⟩:=bnd e;refine(⟨W,O,p1,p2,rfl,ok,en,e1,fun W1 Z1 ok1 s1=>?_⟩);cases p1 with
 |ex C=>cases e;exact q W1 B Z1 ok1 s1 (en.step ok s1)
 |ok d=>cases e;exact fun v rv=>q W1 B Z1 ok1 s1 (en.step ok s1) v rv
def ut(t:BX)(a b:SX):SX:=fun O L=>(t O L).bind fun p=>match p.1 with
 | .ok c=>if c=true then a O p.2 else b O p.2
 | .ex C=>some (.ex C,O,p.2)
theorem xK{c:Expr}{a b:List Stmt}{bc:BX}(hc:PT X c (tXB K E bc))(ha:PSs X a (tXS K E sa))(hb:PSs X b (tXS K E sb)):PS X (.If c a b pos) (tXS K E (ut bc sa sb)):=tH (MB hc ha hb) fun D B H h=>by
 refine el5 h fun W O o ZX Z5 eH ok en e q=>?_;subst eH;obtain⟨⟨p1,p2⟩,e1,e⟩:=bnd e;refine(⟨W,O,p1,p2,rfl,ok,en,e1,fun W1 Z1 ok1 s1=>?_⟩);cases p1 with
 |ex C=>cases e;exact q W1 B Z1 ok1 s1 (en.step ok s1)
 |ok k=>
  cases k with
  |true=>
   simp only[C4,if_true];exact⟨W1,O,o,ZX,Z5,rfl,ok1,en.step ok s1,by rw[Z1];exact e,fun W2 ZV ZU ok2 s2 en2=>q W2 ZV ZU ok2 (s1.trans s2) en2⟩
  |false=>
   simp only[C4,Xt,if_false];exact⟨W1,O,o,ZX,Z5,rfl,ok1,en.step ok s1,by rw[Z1];exact e,fun W2 ZV ZU ok2 s2 en2=>q W2 ZV ZU ok2 (s1.trans s2) en2⟩
def Dk(ea:EX)(g:GV):SX:=fun O L=>(ea O L).bind fun p=>match p.1 with
 | .ok d=>(g d O p.2).bind fun q=>some (.nx,q.1,q.2)
 | .ex C=>some (.ex C,O,p.2)
theorem V6{i:Nat}{x:Str}{pos':Pos}(hN:X.N.Nodup)(hi:X.N[i]?=some x)(hx:Loc X.env.scope x)(he:PE X e (tX K E ex))(hs:swapsWith e (some (.Name x pos')) pos.line X.env=pure false:=by rfl)(hf:X.fn x=true\/X.env.scope.names.lookup x=some .local:=by first|exact .inl rfl|exact .inr rfl|assumption):
  PS X (.Assign [.Name x pos'] e pos) (tXS K E (Dk ex (qY i))):=tH (GZ hN hi hx he hs hf) fun D B H h=>by
 refine el5 h fun W O o ZX Z5 eH ok en e q=>?_;subst eH;obtain⟨⟨p1,p2⟩,e1,e⟩:=bnd e;refine(⟨W,O,p1,p2,rfl,ok,en,e1,fun W1 Z1 ok1 s1=>?_⟩);cases p1 with
 |ex C=>cases e;exact q W1 B Z1 ok1 s1 (en.step ok s1)
 |ok d=>cases e;exact fun v rv=>q W1 _ Z1 ok1 s1 ((en.step ok s1).set rv i)
def MQ(c:BX)(body:SX):Nat->SX
 |0,_,_=>none
 |n+1,O,L=>(c O L).bind fun p=>match p.1 with
  | .ok k=>if k=true then(body O p.2).bind fun o=>match o.1 with
    | .nx=>MQ c body n o.2.1 o.2.2
    | .ct=>MQ c body n o.2.1 o.2.2
    | .bk=>some (.nx,o.2)
    | .rt d=>some (.rt d,o.2)
    | .ex C=>some (.ex C,o.2)
   else some (.nx,O,p.2)
  | .ex C=>some (.ex C,O,p.2)
def vZ(c:Ck)(g:GV)(body:SX):List D->SX
 | [],O,L=>some (.nx,O,L)
 |d::r,O,L=>(g d O L).bind fun p=>(body p.1 p.2).bind fun o=>match o.1 with
  | .nx=>chk (rJ c o.2.2) (vZ c g body r o.2.1 o.2.2)
  | .ct=>chk (rJ c o.2.2) (vZ c g body r o.2.1 o.2.2)
  | .bk=>some (.nx,o.2)
  | .rt d=>some (.rt d,o.2)
  | .ex C=>some (.ex C,o.2)
def Mf(iv:IV)(g:GV)(body:SX):SX:=fun O L=>(iv O L).bind fun s=>vZ s.1.2 g body s.1.1 O s.2
theorem OZ{tg iter:Expr}{body:List Stmt}{iv:IV}{g:GV}(hp:PassesOwn (model X.prog X.w) X.A X.env X.xe)(hc:X.calm=true)(hi:PI X tg iter (tDI K iv))(hg:PG X tg (tDG K g))(hb:PSs X body (tXS K E sb))
  (hs:∀x,foldedSetIterable iter X.env x=pure x:=by intro _;rfl):PS X (.For tg iter body [] pos) (tXS K E (Mf iv g sb)):=tH (K1 hp hc hi hg hb hs) fun D B H h=>by
 refine el5 h fun W O o ZX Z5 eH ok en e q=>?_;subst eH;obtain⟨⟨⟨its,c⟩,Z4⟩,e1,e⟩:=bnd e;refine(⟨W,O,its,c,Z4,rfl,ok,en,e1,fun Z6 W1 ZK ok1 s1 jr=>?_⟩);obtain⟨c1,ds,vs,r1,hj⟩:=jr;obtain⟨P,hP⟩:∃P:Nat->St->Hp->Prop,∀i ZV H2,P i ZV H2↔(i<=its.length/\∃W2 ZW,W2.H=H2/\Ok K W2/\Step W1 W2/\EnvR K W2 ZW ZV/\rJ c W2.L/\vZ c g sb (its.drop i) ZW W2.L=some (o,ZX,Z5)):=⟨_,fun _ _ _=>Iff.rfl⟩
 refine⟨fun i m ZV H2=>m=its.length - i/\P i ZV H2,⟨its.length,by simp,(hP _ _ _).2 ⟨XJ _,W1,O,rfl,ok1,.refl,en.step ok s1,c1,by rw[ZK];exact e⟩⟩,?_⟩;rintro i m ZV H2 ⟨rfl,hi⟩;refine bq fun hG=>?_;obtain⟨hi,W2,ZW,rfl,ok2,s2,en2,c2,e2⟩:=(hP _ _ _).1 hi;obtain⟨hstop,hgo⟩:=hj W2 i ok2 c2 (r1.step ok1 s2);by_cases hlt:i<its.length
 ·have hd:its[i]?=some its[i]:=WP hlt;obtain⟨h1,h2⟩:=hgo _ hd;rw[Xq hlt] at e2;refine q0 e2 fun p e3 e2=>?_;obtain⟨⟨o4,Zr,Zw⟩,e4,e2⟩:=bnd e2;refine(hG (.inr ⟨h1,P (i+1),fun ZZ H' hN=>⟨its.length - (i+1),by omega,rfl,hN⟩,fun x H' hy=>?_⟩));refine bq fun hF=>?_;obtain⟨W3,rfl,ZR,ok3,s3,r3⟩:=h2 x H' hy;refine hF ⟨W3,ZW,its[i],p.1,p.2,rfl,ok3,en2.step ok2 s3,r3,by rw[ZR];exact e3,fun W4 ZP ZC ok4 s4 en4=>⟨W4,p.1,o4,Zr,Zw,rfl,ok4,en4,by rw[ZC];exact e4,fun W5 Zp ZO ok5 s5 en5=>?_⟩⟩;have st:=s2.trans (s3.trans (s4.trans s5));cases o4 with
  |nx=>refine uV e2 fun hc5 e2=>?_;exact(hP _ _ _).2 ⟨hlt,W5,Zr,rfl,ok5,st,en5,by rw[ZO];exact hc5,by rw[ZO];exact e2⟩
  |ct=>refine uV e2 fun hc5 e2=>?_;exact(hP _ _ _).2 ⟨hlt,W5,Zr,rfl,ok5,st,en5,by rw[ZO];exact hc5,by rw[ZO];exact e2⟩
  |bk=>cases e2;exact q W5 Zp ZO ok5 (s1.trans st) en5
  |rt d=>cases e2;exact q W5 Zp ZO ok5 (s1.trans st) en5
  |ex C=>cases e2;exact q W5 Zp ZO ok5 (s1.trans st) en5
 ·have e':i=its.length:=by omega
  subst e';rw[XB (WJ _)] at e2;cases e2;exact hG (.inl ⟨hstop (WJ _),q W2 ZV rfl ok2 (s1.trans s2) en2⟩)
def G7(C:Addr)(ea:EV):SX:=fun O L=>(ea O L).bind fun p=>some (.ex C,O,p.2)
theorem PL{ea:EV}{x:Str}{C:Addr}{np cpos:Pos}(he:PE (X.fl E).nox e (tD K ea))(hm:X.mg x=some (.ref C))(hC:uW X.K C)(hg:Gl X x:=by rfl)(hc:X.calm=true:=by rfl)(hd:(x==("__debug__":Str))=false:=by decide)
  (hs:starEach [e] X.env=[(false,eval e X.env)]:=by rfl):PS (X.fl E) (.Raise (some (.Call (.Name x np) [e] [] cpos)) none pos) (tXS K E (G7 C ea)):=tH (Jo (te:=tD K ea) (PE.nox he) hg hm hC hc hd hs) fun D B H h=>by
 refine el5 h fun W O o ZX Z5 eH ok en e q=>?_;subst eH;refine q0 e fun p1 e1 e=>?_;cases e;exact⟨W,O,p1.1,p1.2,rfl,ok,en,e1,fun v W1 Z1 ok1 s1 r1=>q W1 B Z1 ok1 s1 (en.step ok s1)⟩
end
def tK(n m:Nat)(es:SX):FX:=fun ds L=>if ds.length=m then(es (ds.map some++List.replicate (n - ds.length) none) L).bind fun o=>match o.1 with
  | .rt d=>some (.ok d,o.2.2)
  | .nx=>some (.ok .non,o.2.2)
  | .ex C=>some (.ex C,o.2.2)
  |_=>none
 else none
theorem v4{P:Program}{w:World}{K:Frag}{mg:Str->Option Value}{base:Heap}{x qual:Str}{st:Stmt}{f:Addr}{fd:FuncData}{N ps:List Str}{k:Nat}{es:SX}(F:Fun K x qual st f fd)(S:FnScope N ps (rh st))
  (hb:∀(cdv:Value) (A:Around) (outer:List Env) (s:Shared) (H:Hp) (E:XK),Room k (A.deeper (envOfC qual (rh st) s.heap.objs.size f cdv))->PSs ((rV (CXr P w) P w K mg base N qual (rh st) f cdv A outer s H E).fl fun _=>E) (rN st) (tXS K (fun _=>E) es)):
  FnOk P w K mg base (CXr P w) (k+1) f fd ps (spX K (tK N.length ps.length es)):=by
 refine F.okX S (fun vs H Q E h=>?_) (fun cdv A outer s H vs Q E hr h=>?_)
 ·obtain⟨W,ds,r,Z5,_,_,rr,e,_⟩:=h;unfold tK at e;split at e
  ·rename_i hl;rw[←rr.length];exact hl
  ·cases e
 ·obtain⟨W,ds,r,Z5,rfl,ok,rr,e,q⟩:=h;refine⟨_,hb cdv A outer s W.H E hr,?_⟩;unfold tK at e;split at e
  ·obtain⟨⟨o,ZX,Z3⟩,e1,e⟩:=bnd e;refine⟨W,_,o,ZX,Z3,rfl,ok,JS rr,e1,fun W' ZZ Z1 ok' s' en'=>?_⟩;cases o with
   |rt z=>cases e;exact q W' Z1 ok' s'
   |nx=>cases e;exact q W' Z1 ok' s' _ .non
   |ex C=>cases e;exact q W' Z1 ok' s'
   |bk=>cases e
   |ct=>cases e
  ·cases e
end L3
namespace L2
open PySem PySem.W PySem.Spec PyProof.Rows
end L2
namespace L3
open PySem PySem.Spec L2
def US{X:Cx}{tg iter:Expr}{t:TI}(h:PI X.nox tg iter t):PI X tg iter t:=fun pins s B H R I hw=>
 WO (h pins s B H R (I.wish _) hw) (fun v s1 z=>WO z (fun itv s2 ⟨it,fp,tn,Z6,H2,e,I2,T,st2,f2,q⟩=>⟨it,fp,tn,Z6,H2,e,I2.unwish,T,st2,f2,q⟩) fun _ _ z=>False.elim z) fun _ _ z=>False.elim z
section
variable {X:Cx} {E:St->XK} {K:Frag} {e e2:Expr} {es:List Expr} {st:List Stmt} {pos p:Pos} {sv:SV}
theorem DG(h:PSs X.nox st (tDS K sv)):PSs X st (tXS K E (upS sv)):=zI h.nox HD
def Ca:List EV->G->M->Option M
 | [],_,L=>some L
 |ea::r,O,L=>(ea O L).bind fun p=>match p.1 with
  | .int i=>if i.natAbs.log2<1920 then Ca r O p.2 else none
  |_=>none
def tJ(K:Frag)(l:List EV):St->Hp->(Hp->Prop)->Prop:=fun B H Q=>∃(W:Wd) (O:G) (Z5:M),W.H=H/\Ok K W/\EnvR K W O B/\Ca l O W.L=some Z5/\∀W',W'.L=Z5->Ok K W'->Step W W'->Q W'.H
theorem JZ{t t':St->Hp->(Hp->Prop)->Prop}(h:PJ X es t)(hi:∀B H Q,t' B H Q->t B H Q):PJ X es t':=fun pins s B H Q acc n a b I hw=>h pins s B H Q acc n a b I (hi _ _ _ hw)
theorem pj0:PJ X [] (tJ K []):=JZ U7 fun B H Q h=>by
 obtain⟨W,O,Z5,rfl,ok,en,e,q⟩:=h;cases e;exact(q W rfl ok .refl)
theorem uo{x:Str}{j:Nat}{l:List EV}(hx:x.length<=2000)(hr:PJ X es (tJ K l)):PJ X (.Constant (.str x) j p::es) (tJ K l):=Qy hx hr
theorem u4{ea:EV}{l:List EV}(he:PE X e (tD K ea))(hr:PJ X es (tJ K l)):PJ X (.FormattedValue e (-1) none p::es) (tJ K (ea::l)):=JZ (OH he hr) fun B H Q h=>by
 obtain⟨W,O,Z5,rfl,ok,en,e,q⟩:=h;refine q0 e fun p1 e1 e=>?_;refine(⟨W,O,p1.1,p1.2,rfl,ok,en,e1,fun v W1 Z1 ok1 s1 r1=>?_⟩);split at e
 ·rename_i i hi;split at e
  ·rename_i hl;rw[hi] at r1;cases r1;exact⟨i,rfl,hl,W1,O,Z5,rfl,ok1,en.step ok s1,by rw[Z1];exact e,fun W2 ZU ok2 s2=>q W2 ZU ok2 (s1.trans s2)⟩
  ·cases e
 ·cases e
def CI(K:Frag)(l:List EV):TE:=fun B H Q=>∃(W:Wd) (O:G) (Z5:M),W.H=H/\Ok K W/\EnvR K W O B/\Ca l O W.L=some Z5/\∀v W',W'.L=Z5->Ok K W'->Step W W'->Q v W'.H
theorem yM{l:List EV}(h:PJ X (e::e2::es) (tJ K l))(hl:(e::e2::es).length<=400:=by decide):PE X (.JoinedStr (e::e2::es) pos) (CI K l):=rO (N0 h hl) fun B H Q h=>by
 obtain⟨W,O,Z5,rfl,ok,en,e,q⟩:=h;exact(⟨W,O,Z5,rfl,ok,en,e,fun W' h1 h2 h3 z=>q _ W' h1 h2 h3⟩)
def wz(C:Addr)(l:List EV):SX:=fun O L=>(Ca l O L).bind fun Z5=>some (.ex C,O,Z5)
theorem yU{l:List EV}{x:Str}{C:Addr}{np cpos:Pos}(he:PE (X.fl E).nox e (CI K l))(hm:X.mg x=some (.ref C))(hC:uW X.K C)(hg:Gl X x:=by rfl)(hc:X.calm=true:=by rfl)(hd:(x==("__debug__":Str))=false:=by decide)
  (hs:starEach [e] X.env=[(false,eval e X.env)]:=by rfl):PS (X.fl E) (.Raise (some (.Call (.Name x np) [e] [] cpos)) none pos) (tXS K E (wz C l)):=tH (Jo (te:=CI K l) (PE.nox he) hg hm hC hc hd hs) fun D B H h=>by
 refine el5 h fun W O o ZX Z5 eH ok en e q=>?_;subst eH;refine q0 e fun Z4 e1 e=>?_;cases e;exact⟨W,O,_,rfl,ok,en,e1,fun v W1 Z1 ok1 s1=>q W1 B Z1 ok1 s1 (en.step ok s1)⟩
end
end L3
namespace L2
open PySem PySem.W PySem.Spec PySem.Calls PyProof.Rows PySem.SeqAt
end L2
namespace L3
open PySem PySem.Spec L2
class Enc (J:Type) where
 d:J->D
 p:J->PyData
 k:Nat
 py_eq:∀(a:J) (L:M) (n:Nat),k<n->py n L (d a)=some (p a)
 lay:∀a,(p a).canLay0=true
 dep:∀a,(p a).depth<=k
 eqv:∀a b,PyData.eqv (p a) (p b)=true↔a=b
instance encInt:Enc Int where
 d i:=.int i
 p i:=.int i
 k:=0
 py_eq a L n h:=by cases n with|zero=>omega|succ n=>rfl
 lay a:=rfl
 dep a:=by simp[PyData.depth]
 eqv a b:=by simp[PyData.eqv]
instance encBool:Enc Bool where
 d i:=.bl i
 p i:=.bool i
 k:=0
 py_eq a L n h:=by cases n with|zero=>omega|succ n=>rfl
 lay a:=rfl
 dep a:=by simp[PyData.depth]
 eqv a b:=by cases a<;>cases b<;>simp[PyData.eqv]
section
variable {J β γ:Type} [Enc J] [Enc β] [Enc γ]
theorem lay_all:∀l:List J,PyData.canLayAll0 (l.map Enc.p)=true
 | []=>rfl
 |a::r=>by simp only[WT,PyData.canLayAll0,Enc.lay a,lay_all r,Bool.and_self]
theorem dep_all:∀l:List J,PyData.depthAll (l.map Enc.p)<=Enc.k J
 | []=>by simp[PyData.depthAll]
 |a::r=>by
  have h1:=Enc.dep a;have h2:=dep_all r;simp only[WT,PyData.depthAll];omega
end
section
variable {J:Type} [Enc J] [DecidableEq J]
end
section
variable {O:G} {L:M}
theorem AB{ev:BV}{b:Bool}{Z4:M}(h:ev O L=some (b,Z4)):upB ev O L=some (.ok b,Z4):=by unfold upB;rw[h];rfl
theorem zy{ev:LV}{ds:List D}{Z4:M}(h:ev O L=some (ds,Z4)):upL ev O L=some (.ok ds,Z4):=by unfold upL;rw[h];rfl
theorem xx{es:SV}{o:Out}{ZY:G}{Z4:M}(h:es O L=some (o,ZY,Z4)):upS es O L=some (upO o,ZY,Z4):=by unfold upS;rw[h];rfl
theorem zg{a b:SX}{ZY:G}{Z4:M}(h:a O L=some (.nx,ZY,Z4)):sX a b O L=b ZY Z4:=by unfold sX;rw[h];rfl
theorem Ah{t:BX}{a b:SX}{Z4:M}(h:t O L=some (.ok false,Z4)):ut t a b O L=b O Z4:=by unfold ut;rw[h];rfl
theorem ze{f:FX}{el:LX}{ds:List D}{Z4:M}(h:el O L=some (.ok ds,Z4)):vLX f el O L=f ds Z4:=by unfold vLX;rw[h];rfl
theorem Hg{ea:EX}{d:D}{Z4:M}(h:ea O L=some (.ok d,Z4)):xA ea O L=some (.nx,O,Z4):=by unfold xA;rw[h];rfl
theorem JI{ea:EX}{d:D}{Z4:M}(h:ea O L=some (.ok d,Z4)):wR ea O L=some (.rt d,O,Z4):=by unfold wR;rw[h];rfl
theorem AE{n m:Nat}{es:SX}{ds:List D}{d:D}{ZY:G}{Z4:M}(hl:ds.length=m)(h:es (ds.map some++List.replicate (n - ds.length) none) L=some (.rt d,ZY,Z4)):tK n m es ds L=some (.ok d,Z4):=by
 unfold tK;rw[if_pos hl,h];rfl
theorem Mp{n m:Nat}{es:SX}{ds:List D}{ZY:G}{Z4:M}(hl:ds.length=m)(h:es (ds.map some++List.replicate (n - ds.length) none) L=some (.nx,ZY,Z4)):tK n m es ds L=some (.ok .non,Z4):=by
 unfold tK;rw[if_pos hl,h];rfl
end
structure Kp (k:Nat) (L Z5:M):Prop where
 len:L.length<=Z5.length
 at_:∀j,j<L.length->j≠k->Z5[j]?=L[j]?
def Kp.refl{k:Nat}{L:M}:Kp k L L:=⟨WJ _,fun _ _ _=>rfl⟩
def Kp.trans{k:Nat}{L Z4 Z3:M}(h:Kp k L Z4)(g:Kp k Z4 Z3):Kp k L Z3:=⟨Xo h.len g.len,fun j hj n=>(g.at_ j (WZ hj h.len) n).trans (h.at_ j hj n)⟩
def Qd{k:Nat}{L ex:M}:Kp k L (L++ex):=⟨by simp,fun j hj _=>WV hj⟩
def yC{k:Nat}{L:M}{o:Option Z8}:Kp k L (L.set k o):=⟨by simp,fun j hj n=>Xf (Ne.symm n)⟩
structure Gr (L Z5:M):Prop where
 len:L.length<=Z5.length
 at_:∀j,j<L.length->Z5[j]?=L[j]?
def Gr.refl{L:M}:Gr L L:=⟨WJ _,fun _ _=>rfl⟩
def Gr.trans{L Z4 Z3:M}(h:Gr L Z4)(g:Gr Z4 Z3):Gr L Z3:=⟨Xo h.len g.len,fun j hj=>(g.at_ j (WZ hj h.len)).trans (h.at_ j hj)⟩
def Gr.get{j:Nat}{L Z5:M}{o:Option Z8}(h:Gr L Z5)(e:L[j]?=some o):Z5[j]?=some o:=(h.at_ j (WL.mp e).1).trans e
def gr_app{L ex:M}:Gr L (L++ex):=⟨by simp,fun j hj=>WV hj⟩
def Gr.setN{j:Nat}{L Z5:M}{o:Option Z8}(h:Gr L Z5)(hj:L.length<=j):Gr L (Z5.set j o):=⟨by simpa using h.len,fun i hi=>by
 rw[Xf (by omega)];exact h.at_ i hi⟩
end L3
namespace L2
open PySem PySem.Spec PyProof.Rows
end L2
namespace L3
open PySem PySem.Spec L2
def sY(f:Str)(d:D):List (Str×D)->List (Str×D)
 | []=>[(f,d)]
 |(g,e)::r=>if g=f then(g,d)::r else(g,e)::sY f d r
section
variable {K:Frag} {W:Wd}
theorem FR.get{f:Str}:∀{fs:List (Str×D)} {vs:List (Str×V)} {d:D},FR K W fs vs->fs.lookup f=some d->∃v,vs.lookup f=some v/\DR K W d v
 |_,_,_,.nil,h=>by cases h
 |(g,e)::r,(g',e')::r',d,.cons h t,q=>by
  obtain⟨h1,h2⟩:=h;have h1:g=g':=h1;subst h1;rw[Xc] at q⊢;cases hb:f==g with
  |true=>rw[hb] at q;cases q;exact⟨e',rfl,h2⟩
  |false=>rw[hb] at q;exact FR.get t q
theorem FR.none{f:Str}:∀{fs:List (Str×D)} {vs:List (Str×V)},FR K W fs vs->fs.lookup f=none->vs.lookup f=none
 |_,_,.nil,h=>rfl
 |(g,e)::r,(g',e')::r',.cons h t,q=>by
  obtain⟨h1,h2⟩:=h;have h1:g=g':=h1;subst h1;rw[Xc] at q⊢;cases hb:f==g with
  |true=>rw[hb] at q;cases q
  |false=>rw[hb] at q;exact FR.none t q
theorem FR.put{f:Str}{d:D}{v:V}(r:DR K W d v):∀{fs:List (Str×D)} {vs:List (Str×V)},FR K W fs vs->FR K W (sY f d fs) (tm f v vs)
 |_,_,.nil=>.cons ⟨rfl,r⟩ .nil
 |(g,e)::l,(g',e')::l',.cons h t=>by
  obtain⟨h1,h2⟩:=h;have h1:g=g':=h1;subst h1;simp only[sY,tm];split
  ·exact .cons ⟨rfl,r⟩ t
  ·exact .cons ⟨rfl,h2⟩ (FR.put r t)
theorem FR.len:∀{fs:List (Str×D)} {vs:List (Str×V)},FR K W fs vs->fs.length=vs.length
 |_,_,.nil=>rfl
 |_,_,.cons _ t=>by simp[FR.len t]
theorem D9{k:Nat}{C:Addr}{fs:List (Str×D)}{v:V}(ok:Ok K W)(h:W.L[k]?=some (some (.ins C fs)))(r:DR K W (.ref k) v):∃a dx vs,v=.ref a/\W.ρ[k]?=some a/\W.H a=some (.ins C dx vs)/\FR K W fs vs:=by
 cases r with
 |ref ha=>
  obtain⟨a',ho,h1,h2,vs,⟨dx,rfl⟩,r⟩:=ok.at_ k _ h;rw[ha] at h1;cases h1;exact(⟨_,dx,vs,rfl,ha,h2,r⟩)
end
structure FldC (K:Frag) (C:Addr) (f:Str):Prop where
 cl:Cls K C
 na:NoAttr K C f
def tO(C:Addr)(f:Str)(x:D)(L:M):Fr:=match x with
 | .ref k=>match L[k]? with
  |some (some (.ins C' fs))=>if C'=C then(fs.lookup f).bind fun d=>some (d,L) else none
  |_=>none
 |_=>none
def yF(C:Addr)(f:Str)(eo ev:EV):SV:=fun O L=>(ev O L).bind fun p=>(eo O p.2).bind fun q=>match q.1 with
 | .ref k=>match q.2[k]? with
  |some (some (.ins C' fs))=>if C'=C/\fs.length<1000 then some (.nx,O,q.2.set k (some (.ins C (sY f p.1 fs)))) else none
  |_=>none
 |_=>none
section
variable {X:Cx} {K:Frag} {o e value:Expr} {es:List Expr} {f m:Str} {pos pos' apos p:Pos} {eo ev:EV} {el:LV} {C:Addr}
theorem v8(hC:FldC K C f)(he:PE X e (tD K eo))(hb:attributeBase e f X.env (eval e X.env)=eval e X.env:=by rfl)(hK:X.K=K:=by rfl):PE X (.Attribute e f pos) (tD K (v1 (tO C f) eo)):=by
 subst hK;refine rO (Oj he hb) (wo ?_);intro W x d z Z5 Q ok r1 hf q;unfold tO at hf;split at hf
 ·split at hf
  ·rename_i k C' fs hk;split at hf
   ·rename_i hc;subst hc;obtain⟨d',hl,hf⟩:=bnd hf;cases hf;obtain⟨a,dx,vs,rfl,_,hh,hr⟩:=D9 ok hk r1;obtain⟨v,hv,rv⟩:=hr.get hl;exact(⟨a,_,dx,vs,v,rfl,hh,hC.cl,hC.na,hv,q v W rfl ok .refl rv⟩)
   ·cases hf
  ·cases hf
 ·cases hf
theorem B7(hC:FldC K C f)(ho:PE X o (tD K eo))(hv:PE X value (tD K ev))(hs:swapsWith value (some (.Attribute o f pos')) pos.line X.env=pure false:=by rfl)(hK:X.K=K:=by rfl):PS X (.Assign [.Attribute o f pos'] value pos) (tDS K (yF C f eo ev)):=by
 subst hK;refine tH (Wj ho hv hs) fun D B H h=>?_;refine el5 h fun W O out ZX Z5 eH ok en e q=>?_;subst eH;refine q0 e fun p1 e1 e=>?_;refine q0 e fun p2 e2 e=>?_;refine⟨W,O,p1.1,p1.2,rfl,ok,en,e1,fun y W1 ZK ok1 s1 r1=>⟨W1,O,p2.1,p2.2,rfl,ok1,en.step ok s1,by rw[ZK];exact e2,fun x W2 ZU ok2 s2 r2=>?_⟩⟩;split at e
 ·rename_i k hk;rw[hk] at r2;split at e
  ·rename_i C' fs hfs;split at e
   ·rename_i hc;obtain⟨hc,hl⟩:=hc;subst hc;cases e;rw[←ZU] at hfs;obtain⟨a,dx,vs,rfl,ha,hh,hr⟩:=D9 ok2 hfs r2;have r1':=r1.step ok1 s2;have okp:=BY (o:=.ins C' dx (tm f y vs)) (x:=.ins C' (sY f p1.1 fs)) ok2 hfs ha ⟨_,⟨dx,rfl⟩,hr.put r1'⟩;have sp:=wZ (o:=.ins C' dx (tm f y vs)) (x:=.ins C' (sY f p1.1 fs)) hfs ha;refine⟨a,C',dx,vs,rfl,hh,hC.cl,hC.na,by rw[←hr.len];exact hl,?_⟩;exact q (W2.put k a (.ins C' dx (tm f y vs)) (.ins C' (sY f p1.1 fs))) B (by show W2.L.set _ _=_;rw[ZU]) okp ((s1.trans s2).trans sp) (((en.step ok s1).step ok1 s2).step ok2 sp)
   ·cases e
  ·cases e
 ·cases e
structure MtC (P:Program) (w:World) (K:Frag) (mg:Str->Option Value) (base:Heap) (CX:CXT) (k:Nat) (C:Addr) (m:Str) (ps:List Str) (sp:Sp):Prop where
 cl:Cls K C
 fn:∃f fd,Meth K C m f/\FnOk P w K mg base CX k f fd ps sp/\Binds K fd ps []
def noM(L:M)(C:Addr)(m:Str):D->Bool
 | .ref k=>match L[k]? with
  |some (some (.ins C' fs))=>decide (C'=C)&&(fs.lookup m).isNone
  |_=>false
 |_=>false
def vW(C:Addr)(m:Str)(g:C0)(eo:EV)(el:LV):EV:=fun O L=>(eo O L).bind fun p=>if noM p.2 C m p.1=true then(el O p.2).bind fun q=>g (p.1::q.1) q.2 else none
theorem OW{W:Wd}{d:D}{v:V}(ok:Ok K W)(h:noM W.L C m d=true)(r:DR K W d v):∃a dx fs,v=.ref a/\W.H a=some (.ins C dx fs)/\fs.lookup m=none:=by
 cases d with
 |ref k=>
  simp only[noM] at h;split at h
  ·rename_i C' fs hk;simp only[Xg,XO,Option.isNone_iff_eq_none] at h;obtain⟨rfl,h2⟩:=h;obtain⟨a,dx,vs,e,_,hh,hr⟩:=D9 ok hk r;exact(⟨a,dx,vs,e,hh,hr.none h2⟩)
  ·cases h
 |_=>cases h
theorem WF{g:C0}:∀B H Q,tD K (vW C m g eo el) B H Q->Ht C m (spM K g) [] E0 (tD K eo) (tDL K el) B H Q:=fun B H Q h=>by
 refine el4 h fun W O d Z5 eH ok en e q=>?_;subst eH;refine q0 e fun p1 e1 e=>?_;refine⟨W,O,p1.1,p1.2,rfl,ok,en,e1,fun x W1 ZK ok1 s1 r1=>?_⟩;split at e
 ·rename_i hn;refine q0 e fun p2 e2 e=>?_;rw[←ZK] at hn;obtain⟨a,dx,fs,ex,hh,hl⟩:=OW ok1 hn r1;refine⟨a,dx,fs,ex,hh,hl,W1,O,p2.1,p2.2,rfl,ok1,en.step ok s1,by rw[ZK];exact e2,fun vs W2 ZU ok2 s2 r2=>?_⟩;show spM K g (x::(vs++[])) W2.H Q E0;rw[XC];exact⟨W2,p1.1::p2.1,d,Z5,rfl,ok2,.cons (r1.step ok1 s2) r2,by rw[ZU];exact e,fun v W3 ZR ok3 s3 r3=>q v W3 ZR ok3 ((s1.trans s2).trans s3) r3⟩
 ·cases e
theorem yc{k:Nat}{ps:List Str}{g:C0}{pl:Sem Bool}(M':MtC X.prog X.w X.K X.mg X.base CX0 k C m ps (spM K g))(hr:Room k X.A)(ho:PE X o (tD K eo))(ha:PA X (e::es) (tDL K el))
  (hst:starEach (e::es) X.env=(false,eval e X.env)::starEach es X.env:=by rfl) (hpl:(backTo pos (starEach es X.env)).any (·.1)=false:=by rfl)
  (ht:eval (.Call (.Attribute o m apos) (e::es) [] pos) X.env=(do
   let ov ←eval o X.env
   standAt apos.atName
   let (f,first) ←holding [ov] (getMethod ov m pl)
   callWith pos f first (backTo pos (starEach (e::es) X.env)) (backToKw pos (keywordEach [] X.env))):=by rfl):PE X (.Call (.Attribute o m apos) (e::es) [] pos) (tD K (vW C m g eo el)):=by
 obtain⟨f,fd,hm,F,hb⟩:=M'.fn;exact(rO (SN ho M'.cl hm F hr hb .nil DY ha hst hpl ht) WF)
structure MkC (P:Program) (w:World) (K:Frag) (mg:Str->Option Value) (base:Heap) (CX:CXT) (k:Nat) (C:Addr) (x:Str) (ps:List Str) (sp:Sp):Prop where
 mgx:mg x=some (.ref C)
 fn:∃f fd,Mk K C f/\FnOk P w K mg base CX k f fd ps sp/\Binds K fd ps []
def Bs(C:Addr)(g:C0)(el:LV):EV:=fun O L=>(el O L).bind fun p=>(g (.ref p.2.length::p.1) (p.2++[some (.ins C [])])).bind fun q=>match q.1 with
 | .non=>some (.ref p.2.length,q.2)
 |_=>none
theorem Rj{g:C0}:∀B H Q,tD K (Bs C g el) B H Q->JP C (spM K g) [] E0 (tDL K el) B H Q:=fun B H Q h=>by
 refine el4 h fun W O d Z5 eH ok en e q=>?_;subst eH;refine q0 e fun p1 e1 e=>?_;obtain⟨⟨d2,Z3⟩,e2,e⟩:=bnd e;refine(⟨W,O,p1.1,p1.2,rfl,ok,en,e1,fun vs W1 ZK ok1 s1 r1 x dx hx hdx hne=>?_⟩);rw[XC];have oka:=tQ (o:=.own x) ok1 hdx;have sa:=sK (W:=W1) (o:=.own x) hdx;have hx2:(W1.lay dx (.own x)).H x=none:=by show upd W1.H dx _ x=none;rw[rG (Ne.symm hne)];exact hx
 have okb:=Av (x:=.ins C []) (o:=.ins C dx []) oka hx2 ⟨[],⟨dx,rfl⟩,.nil⟩;have sb:=vH (K:=K) (x:=.ins C []) (o:=.ins C dx []) oka hx2;have rb:=zK (K:=K) (W:=W1.lay dx (.own x)) (p:=x) (o:=.ins C dx []) (x:=.ins C []) oka;have hl:(W1.lay dx (.own x)).L.length=p1.2.length:=by show W1.L.length=_;rw[ZK]
 rw[hl] at rb;cases d2 with
 |non=>
  have e:some (D.ref p1.2.length,Z3)=some (d,Z5):=e;obtain⟨hd,hm⟩:d=.ref p1.2.length/\Z5=Z3:=by cases e;exact⟨rfl,rfl⟩
  subst hd hm;refine⟨(W1.lay dx (.own x)).new x (.ins C dx []) (.ins C []),.ref p1.2.length::p1.1,.non,Z5,rfl,okb,.cons rb ((r1.step ok1 sa).step oka sb),?_,fun v W3 ZR ok3 s3 r3=>?_⟩
  ·show g _ (W1.L++_)=_;rw[ZK];exact e2
  ·cases r3;exact⟨rfl,q _ W3 ZR ok3 (((s1.trans sa).trans sb).trans s3) (rb.step okb s3)⟩
 |_=>cases e
theorem Uw{x:Str}{k:Nat}{ps:List Str}{g:C0}(M':MkC X.prog X.w X.K X.mg X.base CX0 k C x ps (spM K g))(hr:Room (k+1) X.A)(ha:PA X (e::es) (tDL K el))(hg:Gl X x:=by rfl)(hdb:(x==("__debug__":Str))=false:=by decide)
  (he:starEach (e::es) X.env=(false,eval e X.env)::starEach es X.env:=by rfl) (hpl:(backTo pos (starEach es X.env)).any (·.1)=false:=by rfl):PE X (.Call (.Name x p) (e::es) [] pos) (tD K (Bs C g el)):=by
 obtain⟨f,fd,mk,F,hb⟩:=M'.fn;exact(rO (SD mk F hr hg M'.mgx hb .nil DY ha hdb he hpl) Rj)
end
def dn(f:FX):C0:=fun ds L=>(f ds L).bind fun p=>match p.1 with
 | .ok d=>some (d,p.2)
 | .ex _=>none
section
variable {P:Program} {w:World} {K:Frag} {mg:Str->Option Value} {base:Heap} {k:Nat} {f:Addr} {fd:FuncData} {ps:List Str} {g:FX}
theorem JX:∀vs H Q E E',spM K (dn g) vs H Q E->spX K g vs H Q E':=fun vs H Q E E' h=>by
 obtain⟨W,ds,d,Z5,h1,h2,h3,e,q⟩:=h;obtain⟨⟨r,Z4⟩,e1,e⟩:=bnd e;cases r with
 |ok d'=>
  have e:some (d',Z4)=some (d,Z5):=e;obtain⟨rfl,rfl⟩:d'=d/\Z4=Z5:=by cases e;exact⟨rfl,rfl⟩
  exact⟨W,ds,.ok d',Z4,h1,h2,h3,e1,fun W' a b c v rv=>q v W' a b c rv⟩
 |ex C=>cases e
theorem TQ(F:FnOk P w K mg base (CXr P w) k f fd ps (spX K g)):FnOk P w K mg base CX0 k f fd ps (spM K (dn g)):=by
 refine⟨fun vs H Q E h=>F.len vs H Q E (JX vs H Q E E h),fun A outer s H args us vs Q E hr he hb hv hs=>?_⟩;refine codeAny_mono (F.run A outer s H args us vs Q (fun _ _ _=>False) hr he hb hv (JX vs H Q E _ hs)) fun r s' h=>?_;cases r with
 |ok fl=>cases fl<;>exact h
 |error e=>
  obtain⟨a,C,H',Z7,_,_,z⟩:=h;exact(z.elim)
theorem Df.dn{x:Str}(D:DfX P w K mg base k x ps (spX K g)):Df P w K mg base k x ps (spM K (L3.dn g)):=let ⟨f,fd,F,r⟩:=D;⟨f,fd,TQ F,r⟩
end
end L3
namespace L2
open PySem PySem.W PySem.Spec PyProof.Rows
end L2
namespace L3
open PySem PySem.Spec L2
end L3
namespace L2
open PySem PySem.W PySem.Spec PyProof.Rows
end L2
namespace L3
open PySem PySem.Spec L2
end L3
namespace L2
open PySem PySem.W PySem.Spec PyProof.Rows
end L2
namespace L3
open PySem PySem.Spec L2
open PyProof.Rows (envOfC)
end L3
namespace L2
open PySem PyProof.Rows
section
open PySem.SeqAt
open PySem.AutoSeq1 (wpAny_loadPart')
open PySem.MeetsSeq PySem.MeetsSeq2 PySem.MeetsSeq3
end
end L2
namespace L3
open PySem PySem.Spec L2
end L3
namespace L2
open PySem PySem.Spec PyProof.Rows
def slot_long_next:Slot "longrange_iterator" "__next__" "longrange_iterator.__next__":=
 .of (owner:="longrange_iterator") (n:="__next__") (by rw[typeLookup_type,builtinLookup_eq_fast];kernel_rfl) (by decide +kernel) (by decide +kernel) (by decide +kernel)
  (by first|exact .inl (by decide +kernel)|exact .inr (by decide +kernel)) (by rw[isSubtype_type];kernel_rfl)
def Vz:entryFor table "longrange_iterator.__next__"=some Builtin.«longrange_iterator.__next__»:=entryFor_of_tree (by kernel_rfl)
def GG:Manifest.owners.lookup (String.ofList ['r','o','t','a','r','e','t','i','_','e','g','n','a','r','g','n','o','l'].reverse)=some Manifest.sig_longrange_iterator:=by kernel_rfl
def T6(a:Value):argsOk "longrange_iterator.__next__" ⟨[a],[]⟩:=by
 unfold argsOk;rw[signature?_of (id:="longrange_iterator.__next__") (n:=['_','_','t','x','e','n','_','_']) (o:=['r','o','t','a','r','e','t','i','_','e','g','n','a','r','g','n','o','l']) (by kernel_rfl) GG];kernel_rfl
def LS:Slot "longrange_iterator" "__iter__" "longrange_iterator.__iter__":=
 .of (owner:="longrange_iterator") (n:="__iter__") (by rw[typeLookup_type,builtinLookup_eq_fast];kernel_rfl) (by decide +kernel) (by decide +kernel) (by decide +kernel)
  (by first|exact .inl (by decide +kernel)|exact .inr (by decide +kernel)) (by rw[isSubtype_type];kernel_rfl)
def OB(a:Value):argsOk "longrange_iterator.__iter__" ⟨[a],[]⟩:=by
 unfold argsOk;rw[signature?_of (id:="longrange_iterator.__iter__") (n:=['_','_','r','e','t','i','_','_']) (o:=['r','o','t','a','r','e','t','i','_','e','g','n','a','r','g','n','o','l']) (by kernel_rfl) GG];kernel_rfl
def QD:entryFor table "longrange_iterator.__iter__"=some Builtin.«dict_keyiterator.__iter__»:=
 entryFor_alias (id':="dict_keyiterator.__iter__") (by kernel_rfl) (by first|rfl|decide +kernel|(unfold String.splitOn;simp +decide [String.splitOnAux])) (by decide +kernel) (by kernel_rfl)
def DJ(h:Heap)(it:Addr):Prop:=h.get? it=some {cls:=.type "longrange_iterator",dict:=none,data:=.fields #[rawInt 0,rawInt 0,rawInt 1],slots:=#[]}
section
variable {prog:Program} {w:World} {A:Around} {E:OK} {s:Shared}
theorem Ud{r:Addr}{b:Int}{t u v:Tok}{Q:OK}(hr:IsRange s.heap r 0 b 1 t u v)(hb:b< -(2^62))(hsmall:Builtin.Range.small 0 b 1=false)
  (hQ:Q (.ref s.heap.objs.size) {s with heap:=s.heap.push {cls:=.type "longrange_iterator",data:=.fields #[rawInt 0,rawInt 0,rawInt 1]}}):
  wpAny (model prog w) A (pyIter (.ref r)) Q E s:=by
 have hT:s.TypeIs (.ref r) "range":=⟨_,hr,rfl⟩
 refine wpAny_pyIter_slot hT F.slot_range_iter (call_meets F.slot_range_iter hT F.entry_range_iter (F.args_range_iter_1 _)
  (AutoRange.range___iter___range_0 r 0 b 1 t u v (by unfold Builtin.Range.small at hsmall;rw[hsmall];rfl)) ⟨hr,?_⟩)
 unfold Builtin.Range.small at hsmall;have hz:Builtin.Range.rangeSize 0 b 1=0:=by rw[rangeSize_one];split<;>omega
 simp only[hsmall,Xt,if_false];rw[hz];exact⟨"longrange_iterator",_,⟨_,WR _ rfl,rfl⟩,slot_long_next.lookup,hQ⟩
theorem Qi{it:Addr}{Q:OK}(hit:DJ s.heap it)(h:Q (.ref it) s):wpAny (model prog w) A (pyIter (.ref it)) Q E s:=by
 have hT:s.TypeIs (.ref it) "longrange_iterator":=⟨_,hit,rfl⟩
 refine wpAny_pyIter_slot hT LS (wpAny_call_entry LS hT QD ?_ (OB _));show wpAny _ _ (ret (.ref it)) _ _ s;exact WM ⟨_,rfl,"longrange_iterator",_,hT,slot_long_next.lookup,h⟩
theorem P2{it:Addr}{Q:Option Value->Shared->Prop}(hh:A.handled=none)(hit:DJ s.heap it)
  (hQ:∀h',Heap.ExtBut it s.heap h'->Q none {s with heap:=h'}):wpAny (model prog w) A (pyNext (.ref it)) Q E s:=by
 have hT:s.TypeIs (.ref it) "longrange_iterator":=⟨_,hit,rfl⟩
 unfold pyNext;refine WH (wpAny_attempt (wpAny_callSpecial?_slot (name:=Str.ofString "__next__") hT slot_long_next
  (wpAny_call_entry slot_long_next hT Vz ?_ (T6 _))))
 unfold Builtin.«longrange_iterator.__next__»;wp_walk;simp only[raiseNew];refine WH (wpAny_handled ?_);first|rw[show A.in1.handled=none from hh]|rw[hh]
 refine WH (WM (wpAny_throw ?_));refine WH (wpAny_isInstance (T:="StopIteration") (b:=true) ⟨_,WR _ rfl,rfl⟩ isSubtype_stop ?_);exact WM (hQ _ (((Heap.ExtBut.refl it s.heap).push _).push _))
end
theorem ND{P:Program}{w:World}{K:Frag}{tg:Expr}(it:Addr):Turn P w K tg (Itr 0 0) [it] it (fun _ h=>DJ h it) where
 mem:=by simp
 obj:=fun i h st b hb=>by
  have e:b=it:=by simpa using hb
  subst e;exact⟨_,st,fun v z=>by
   have z':Data.fields _=Data.cell v:=z;cases z'⟩
 keep:=fun i h h' st k=>k it (by simp) _ st
 item:=by
  intro X hP hw hK hc i pins s B H E I hf st hg;exact absurd (show i<0 from hg) (Nat.not_lt_zero _)
 done:=by
  intro X hP hw hK hc i pins s B H E I hf st hg;subst hP hw hK;obtain⟨f0,f1,f2,f3,f4,f5⟩:=hf it (by simp);exact(P2 (I.ok.hd hc) st fun h' eb=>⟨rfl,I.turned (t':=s.toks) (fun b o hb e=>eb b o hb e) f0 f1 f3 f4 f5⟩)
 self:=fun _ _ _ _ _ st h=>Qi st h
section
variable {X:Cx} {tg:Expr}
theorem OU{pins:QS}{B:St}{H:Hp}{s:Shared}{R:It->Hp->Prop}{E:OK}{hi:Int}{t u v:Tok}{tk:Nat}(I:Inv X pins B H s)(h3:hi< -(2^62))(hs:Builtin.Range.small 0 hi 1=false)
  (q:R (Itr 0 0) H):wpAny (model X.prog X.w) X.A (pyIter (.ref s.heap.objs.size)) (PIE X pins B tg R) E {s with heap:=s.heap.push {cls:=.type "range",data:=.fields #[.int 0 t,.int hi u,.int 1 v]},toks:=tk}:=by
 refine Ud (IsRange.new ..) h3 hs ?_;have I1:Inv X pins B H {s with heap:=s.heap.push {cls:=.type "range",data:=.fields #[.int 0 t,.int hi u,.int 1 v]},toks:=tk}:=I.kept fun b o e=>WK _ e;refine⟨(s.heap.push {cls:=.type "range",data:=.fields #[.int 0 t,.int hi u,.int 1 v]}).objs.size,[(s.heap.push {cls:=.type "range",data:=.fields #[.int 0 t,.int hi u,.int 1 v]}).objs.size],_,_,H,rfl,
  I1.kept (t':=tk) fun b o e=>WK _ e,ND _,?_,fun b hb=>?_,q⟩
 ·exact WR _ rfl
 ·have e:b=(s.heap.push {cls:=.type "range",data:=.fields #[.int 0 t,.int hi u,.int 1 v]}).objs.size:=by simpa using hb
  subst e;exact I1.fpOk (WJ _) (I1.hok.fresh (WJ _))
theorem Ww{pins:QS}{B:St}{H:Hp}{s:Shared}{R:It->Hp->Prop}{E:OK}{hi:Int}{t u v:Tok}{tk:Nat}(I:Inv X pins B H s)(h3:hi< -(2^62))(hs:Builtin.Range.small 0 hi 1=true)
  (q:R (Itr 0 0) H):wpAny (model X.prog X.w) X.A (pyIter (.ref s.heap.objs.size)) (PIE X pins B tg R) E {s with heap:=s.heap.push {cls:=.type "range",data:=.fields #[.int 0 t,.int hi u,.int 1 v]},toks:=tk}:=by
 refine wpAny_pyIter_range (IsRange.new ..) hs ?_;have I1:Inv X pins B H {s with heap:=s.heap.push {cls:=.type "range",data:=.fields #[.int 0 t,.int hi u,.int 1 v]},toks:=tk}:=I.kept fun b o e=>WK _ e;refine⟨(s.heap.push {cls:=.type "range",data:=.fields #[.int 0 t,.int hi u,.int 1 v]}).objs.size,[(s.heap.push {cls:=.type "range",data:=.fields #[.int 0 t,.int hi u,.int 1 v]}).objs.size],_,_,H,rfl,
  I1.kept (t':=tk) fun b o e=>WK _ e,HR _ 0 0,?_,fun b hb=>?_,q⟩
 ·have e1:(0:Int)+((0:Nat):Int)*1=0:=by simp
  have e2:(((0:Nat):Nat):Int) - ((0:Nat):Int)=Builtin.Range.rangeSize 0 hi 1:=by rw[rangeSize_one];split<;>omega
  show IsRangeIter _ _ (0+((0:Nat):Int)*1) (((0:Nat):Int) - ((0:Nat):Int)) 1;rw[e1,e2];exact WR _ rfl
 ·have e:b=(s.heap.push {cls:=.type "range",data:=.fields #[.int 0 t,.int hi u,.int 1 v]}).objs.size:=by simpa using hb
  subst e;exact I1.fpOk (WJ _) (I1.hok.fresh (WJ _))
def Wq(ta:TA):TI:=fun B H R=>ta B H fun vs H1=>∃j:Int,vs=[.int j]/\j<2^62/\R (Itr 0 j.toNat) H1
theorem VF{a:Expr}{ta:TA}{p pos:Pos}(hg:Gl X "range") (hm:X.mg "range"=none) (ha:PA X [a] ta) (hs:starEach [a] X.env=[(false,eval a X.env)]:=by rfl):PI X tg (.Call (.Name "range" p) [a] [] pos) (Wq ta):=by
 intro pins s B H R I h;refine Call_ (vn I hg hm boot_range (Xy (thn (ha pos pins s B H _ I h) fun us s1 hm=>?_) hs rfl));obtain⟨vs,H1,I1,r1,q1⟩:=hm;obtain⟨j,e,q2,q⟩:=q1;subst e;cases r1 with
 |cons r rr=>
  cases rr;obtain⟨t,rfl⟩:=r;by_cases hj:-(2^62)<=j
  ·exact call_range_1 (Da I1 (by omega) (by omega) hj q2 (by simpa using q))
  ·have e0:j.toNat=0:=by omega
   rw[e0] at q;cases hsm:Builtin.Range.small 0 j 1 with
   |false=>exact call_range_1 (OU I1 (by omega) hsm q)
   |true=>exact call_range_1 (Ww I1 (by omega) hsm q)
end
end L2
namespace L3
open PySem PySem.Spec L2
section
variable {X:Cx} {K:Frag} {ea:EV} {pos:Pos}
def z7(ea:EV):IV:=fun O L=>(ea O L).bind fun p=>match p.1 with
 | .int j=>if j<=1000000000 then some ((rS 0 j.toNat,none),p.2) else none
 |_=>none
theorem TV(mr:X.mg "range"=none) {tg a:Expr} {p:Pos} (ha:PE X a (tD K ea)) (hg:Gl X "range":=by rfl) (hs:starEach [a] X.env=[(false,eval a X.env)]:=by rfl):PI X tg (.Call (.Name "range" p) [a] [] pos) (tDI K (z7 ea)):=xw (VF hg mr (sJ ha tE hs) hs) fun B H R h=>by
 refine el5 h fun W O its c Z5 eH ok en e q=>?_;subst eH;refine q0 e fun p1 e1 e=>?_;split at e
 ·rename_i j hj;split at e
  ·rename_i hb;cases e;refine⟨W,O,p1.1,p1.2,rfl,ok,en,e1,fun v W1 Z1 ok1 s1 r1=>?_⟩;rw[hj] at r1;cases r1;exact⟨j,rfl,by omega,q _ W1 Z1 ok1 s1 EW⟩
  ·cases e
 ·cases e
theorem MX{O:G}{L Z4:M}{j:Int}(h:ea O L=some (.int j,Z4))(hj:j<=1000000000):z7 ea O L=some ((rS 0 j.toNat,none),Z4):=by
 unfold z7;rw[h];show(if j<=1000000000 then _ else _)=_;rw[if_pos hj]
end
def Wd.ice(W:Wd)(k:Nat)(d:Addr)(u:HO):Wd:=⟨W.ρ,W.L.set k none,upd W.H d u,W.hid⟩
section
variable {K:Frag} {W:Wd} {k:Nat} {d:Addr} {x:Z8} {u:HO}
theorem VQ{a:Addr}(h:RL (W.ice k d u) a):∃j o,j≠k/\W.L[j]?=some (some o)/\W.ρ[j]?=some a:=by
 obtain⟨j,o,h1,h2⟩:=h;have h1:(W.L.set k none)[j]?=some (some o):=h1;by_cases e:j=k
 ·subst e;rw[List.getElem?_set] at h1;simp at h1
 ·rw[Xf (Ne.symm e)] at h1;exact⟨j,o,e,h1,h2⟩
theorem A0(hk:W.L[k]?=some (some x))(ha:W.ρ[k]?=some d):Step W (W.ice k d u) where
 ρ _ _ h:=h
 live a h:=let ⟨j,o,_,h1,h2⟩:=VQ h;.inl ⟨j,o,h1,h2⟩
 keep a o e n:=by
  show upd W.H d u a=_;have hne:a≠d:=fun z=>n ⟨k,x,hk,by rw[z];exact ha⟩;rw[rG hne];exact e
 hid:=rfl
 still a h:=by
  show upd W.H d u a≠none;by_cases z:a=d
  ·subst z;rw[sF];simp
  ·rw[rG z];exact h
theorem Tb(ok:Ok K W)(hk:W.L[k]?=some (some x))(ha:W.ρ[k]?=some d):Ok K (W.ice k d u) where
 len:=by show W.ρ.length=(W.L.set k none).length;rw[X0];exact ok.len
 nd:=ok.nd
 rs a m:=(A0 (u:=u) hk ha).still a (ok.rs a m)
 at_ j o e:=by
  have e:(W.L.set k none)[j]?=some (some o):=e;have hj:j≠k:=fun z=>by subst z;rw[List.getElem?_set] at e;simp at e
  rw[Xf (Ne.symm hj)] at e;obtain⟨a,ho,h1,h2,h3⟩:=ok.at_ j o e;have hne:a≠d:=fun z=>by
   subst z;obtain⟨l1,g1⟩:=WL.mp h1;obtain⟨l2,g2⟩:=WL.mp ha;have hn:=XT.mp ok.nd;rcases Nat.lt_trichotomy j k with z|z|z
   ·exact hn j k l1 l2 z (g1.trans g2.symm)
   ·exact hj z
   ·exact hn k j l2 l1 z (g2.trans g1.symm)
  refine⟨a,ho,h1,by show upd W.H d u a=_;rw[rG hne];exact h2,?_⟩;have st:=A0 (W:=W) (u:=u) hk ha;cases o with
  |lst ds=>obtain⟨vs,e,q⟩:=h3;exact⟨vs,e,q.step ok st⟩
  |dK kvs=>obtain⟨vs,e,q⟩:=h3;exact⟨vs,e,Paired.mapP q fun _ _ ⟨e,q⟩=>⟨e,q.step ok st⟩⟩
  |dN kvs=>obtain⟨vs,e,q⟩:=h3;exact⟨vs,e,Paired.mapP q fun _ _ ⟨e,q⟩=>⟨e,q.step ok st⟩⟩
  |ins C fs=>obtain⟨vs,e,q⟩:=h3;exact⟨vs,e,Paired.mapP q fun _ _ ⟨e,q⟩=>⟨e,q.step ok st⟩⟩
  |exc C=>exact h3
 hd0 a z:=⟨(A0 (u:=u) hk ha).still a (ok.hd0 a z).1,(ok.hd0 a z).2⟩
end
def zl:Key->D
 | .inl i=>.int i
 | .inr x=>.str x
def Vj{K:Frag}{W:Wd}(k:Key):DR K W (zl k) (kV k):=by
 cases k with
 |inl i=>exact .int i
 |inr x=>exact .str x
def KR.get{K:Frag}{W:Wd}{kvs:List (Key×D)}{vs:List (Key×V)}(r:KR K W kvs vs):∀{i:Nat} {k:Key} {d:D} {k':Key} {v:V},kvs[i]?=some (k,d)->vs[i]?=some (k',v)->k=k'/\DR K W d v:=by
 induction r with
 |nil=>intro i k d k' v h;simp at h
 | @cons a b l r hd tl ih=>
  intro i k d k' v h h2;cases i with
  |zero=>
   simp at h h2;subst h h2;exact hd
  |succ i=>exact ih (by simpa using h) (by simpa using h2)
def Cl(own:List Str)(cap:List (Str×Nat))(eo:EV)(g:GV)(tc:BV)(tk tv:EV):EV:=fun O L=>(eo O L).bind fun s=>(tf s.2 s.1).bind fun kvs=>match s.1 with
 | .ref n=>chk (kvs.length<=1000000) ((vE s.2.length none g tc tk tv (kvs.map fun kv=>.tup [zl kv.1,kv.2]) (sh own cap O) (s.2.set n none++[some (.dK [])])).bind fun Z5=>some (.ref s.2.length,Z5))
 |_=>none
section
variable {X:Cx} {K:Frag} {N' own:List Str} {cap:List (Str×Nat)} {scope:Scope} {kx vx o:Expr} {ifs elts:List Expr} {pos apos cpos tpos:Pos} {eo:EV} {g:GV} {tc:BV} {tk tv:EV} {n:Nat}
theorem MZ{W1:Wd}{Z6:It}{its:List D}{c:Ck}{ZF:G}{ZN:St}{Z5:M}{p:Addr}{Z:Hp->Prop}(ok1:Ok K W1)(hp:W1.H p=none)(jr:rJ c W1.L/\∀(W2:Wd) (i:Nat),Ok K W2->rJ c W2.L->Step W1 W2->(its.length<=i->Z6.stop i W2.H)/\∀d,its[i]?=some d->Z6.go i W2.H/\∀x H',Z6.yld i W2.H x H'->∃W3,W3.H=H'/\W3.L=W2.L/\Ok K W3/\Step W2 W3/\DR K W3 d x)(en:EnvR K W1 ZF ZN)
  (c0:rJ c (W1.L++[some (.dK [])])) (e:vE W1.L.length c g tc tk tv its ZF (W1.L++[some (.dK [])])=some Z5) (hZ:∀W',W'.L=Z5->Ok K W'->Step W1 W'->DR K W' (.ref W1.L.length) (.ref p)->Z W'.H):
  BD Z6 (tDG K g) (tDB K tc) (tD K tk) (tD K tv) p ZN W1.H Z:=by
 obtain⟨c1,hj⟩:=jr;have ok0:=Av (x:=.dK []) (o:=.dK []) ok1 hp ⟨[],rfl,.nil⟩;have s0:=vH (K:=K) (x:=.dK []) (o:=.dK []) ok1 hp;have r0:=zK (K:=K) (W:=W1) (p:=p) (o:=.dK []) (x:=.dK []) ok1;obtain⟨P,hP⟩:∃P:Nat->St->Hp->Prop,∀i ZV H2,P i ZV H2↔(i<=its.length/\∃W2 ZW,W2.H=H2/\Ok K W2/\Step (W1.new p (.dK []) (.dK [])) W2/\EnvR K W2 ZW ZV/\rJ c W2.L/\vE W1.L.length c g tc tk tv (its.drop i) ZW W2.L=some Z5):=⟨_,fun _ _ _=>Iff.rfl⟩
 refine⟨fun i m ZV H2=>m=its.length - i/\P i ZV H2,?_,?_⟩
 ·exact⟨its.length,by simp,(hP _ _ _).2 ⟨XJ _,W1.new p (.dK []) (.dK []),ZF,rfl,ok0,.refl,en.step ok1 s0,c0,e⟩⟩
 rintro i m ZV H2 ⟨rfl,hi⟩;refine bq fun hG=>?_;obtain⟨hi,W2,ZW,rfl,ok2,s2,en2,c2,e2⟩:=(hP _ _ _).1 hi;obtain⟨hstop,hgo⟩:=hj W2 i ok2 c2 (s0.trans s2);by_cases hlt:i<its.length
 ·have hd:its[i]?=some its[i]:=WP hlt;obtain⟨h1,h2⟩:=hgo _ hd;rw[Xq hlt] at e2;refine q0 e2 fun pg e3 e2=>?_;refine q0 e2 fun pt e4 e2=>?_;refine(hG (.inr ⟨h1,P (i+1),fun ZZ H' hN=>⟨its.length - (i+1),by omega,rfl,hN⟩,fun x H' hy=>?_⟩));refine bq fun hF=>?_;obtain⟨W3,rfl,ZR,ok3,s3,r3⟩:=h2 x H' hy;refine hF ⟨W3,ZW,its[i],pg.1,pg.2,rfl,ok3,en2.step ok2 s3,r3,by rw[ZR];exact e3,fun W4 ZP ZC ok4 s4 en4=>⟨W4,pg.1,pt.1,pt.2,rfl,ok4,en4,by rw[ZC];exact e4,fun W5 ZO ok5 s5=>?_⟩⟩;have s25:=s3.trans (s4.trans s5);split at e2
  ·rename_i ht;refine q0 e2 fun py e5 e2=>?_;refine q0 e2 fun pv e6 e2=>?_;refine q0 e2 fun k e7 e2=>?_;refine q0 e2 fun kvs e8 e2=>?_;obtain⟨⟨hl,c5⟩,e2⟩:=Fp e2;refine(wH (fun _=>?_) (fun n=>absurd ht n));refine⟨W5,pg.1,py.1,py.2,rfl,ok5,en4.step ok4 s5,by rw[ZO];exact e5,fun y W6 Zv ok6 s6 r6=>⟨W6,pg.1,pv.1,pv.2,rfl,ok6,(en4.step ok4 s5).step ok5 s6,by rw[Zv];exact e6,fun v W7 Zo ok7 s7 r7=>?_⟩⟩;have s27:=(s25.trans s6).trans s7;rw[←Zo] at e8;have rp:DR K W7 (.ref W1.L.length) (.ref p):=(r0.step ok0 s2).step ok2 s27;obtain⟨n,a,us,hd,hv,hk,ha,hh,hs⟩:=yj ok7 e8 rp;cases hd;cases hv;obtain⟨o8,s8⟩:=Ji (vs':=sO us k v) (kvs':=um kvs k pv.1) ok7 hk ha (hs.put k r7);exact⟨us,k,hh,zh (by rw[←hs.len];omega),Fh e7 (r6.step ok6 s7),(hP _ _ _).2 ⟨hlt,W7.put W1.L.length p (.dK (sO us k v)) (.dK (um kvs k pv.1)),pg.1,rfl,o8,(s2.trans s27).trans s8,(((en4.step ok4 s5).step ok5 s6).step ok6 s7).step ok7 s8,by show rJ c (W7.L.set _ _);rw[Zo];exact c5,by show vE _ c g tc tk tv _ _ (W7.L.set _ _)=_;rw[Zo];exact e2⟩⟩
  ·rename_i ht;refine uV e2 fun c5 e2=>?_;refine wH (fun n=>absurd n ht) (fun _=>?_);exact(hP _ _ _).2 ⟨hlt,W5,pg.1,rfl,ok5,s2.trans s25,en4.step ok4 s5,by rw[ZO];exact c5,by rw[ZO];exact e2⟩
 ·have e':i=its.length:=by omega
  subst e';rw[XB (WJ _)] at e2;cases e2;exact hG (.inl ⟨hstop (WJ _),hZ W2 rfl ok2 (s0.trans s2) (r0.step ok0 s2)⟩)
theorem Vb(S:CompScope X N' own cap scope)(ho:PE X o (tD K eo))
  (hg:∀cl C Z2 Z0 ex,PG (rq X N' scope cl C Z2 Z0 ex) (.Tuple elts n tpos) (tDG K g)) (ht:∀cl C Z2 Z0 ex,PIf (rq X N' scope cl C Z2 Z0 ex) ifs (tDB K tc)) (hk:∀cl C Z2 Z0 ex,PE (rq X N' scope cl C Z2 Z0 ex) kx (tD K tk)) (hv:∀cl C Z2 Z0 ex,PE (rq X N' scope cl C Z2 Z0 ex) vx (tD K tv))
  (hx:∀e s,X.xe e s->False:=by exact fun _ _ z=>z) (hc:X.calm=true:=by rfl) (hs:∀x,foldedSetIterable (.Call (.Attribute o "items" apos) [] [] cpos) X.env x=pure x:=by intro _;rfl)
  (hbase:attributeBase o "items" X.env (eval o X.env)=eval o X.env:=by rfl) (hline:(apos.endLine==cpos.line)=true:=by rfl) (hK:X.K=K:=by rfl):
  PE X (.DictComp kx vx [⟨.Tuple elts n tpos,.Call (.Attribute o "items" apos) [] [] cpos,ifs,0⟩] scope pos) (tD K (Cl own cap eo g tc tk tv)):=rO (Up S (Ue (Nb K ho hbase hline hK)) hg ht hk hv hx hc hs) fun B H Q h=>by
 refine el4 h fun W O d Z5 eH ok en e q=>?_;subst eH;refine q0 e fun p1 e1 e=>?_;refine q0 e fun kvs e2 e=>?_;refine⟨W,O,p1.1,p1.2,rfl,ok,en,e1,fun x W1 ZK ok1 s1 r1=>?_⟩;rw[←ZK] at e2;obtain⟨k,a,vs,hd,rfl,hk1,ha1,hh,hs1⟩:=yj ok1 e2 r1;rw[hd] at e;refine uV e fun hl e=>?_;refine q0 e fun Z3 e3 e=>?_;cases e;refine(⟨Cw ok1 e2 r1,a,vs,rfl,rfl,hh,fun v hv=>?_⟩);have hav:a≠v:=fun z=>by rw[z,hv] at hh;cases hh
 refine⟨v,a,vs,rfl,sF,by rw[rG hav];exact hh,fun ob p hp=>?_⟩;have okL:=tQ (o:=viO v a) ok1 hv;have stL:=sK (W:=W1) (o:=viO v a) hv;have hkL:(W1.lay v (viO v a)).L[k]?=some (some (.dK kvs)):=hk1;have haL:(W1.lay v (viO v a)).ρ[k]?=some a:=ha1;have okI:=Tb (u:=.frz ob (.dK vs)) okL hkL haL;have stI:=A0 (W:=W1.lay v (viO v a)) (u:=.frz ob (.dK vs)) hkL haL;have krI:KR K ((W1.lay v (viO v a)).ice k a (.frz ob (.dK vs))) kvs vs:=Paired.mapP hs1 fun _ _ ⟨e,q⟩=>⟨e,(q.step ok1 stL).step okL stI⟩
 have hfI:((W1.lay v (viO v a)).ice k a (.frz ob (.dK vs))).H a=some (.frz ob (.dK vs)):=sF;generalize hWI:(W1.lay v (viO v a)).ice k a (.frz ob (.dK vs))=WI at okI stI krI hfI;have Zd:WI.L=p1.2.set k none:=by rw[←hWI];show W1.L.set k none=_;rw[ZK]
 have hHI:WI.H=upd (upd W1.H v (viO v a)) a (.frz ob (.dK vs)):=by rw[←hWI];rfl
 have hlen:p1.2.length=WI.L.length:=by rw[Zd,X0]
 have stA:=(s1.trans stL).trans stI;rw[←hHI] at hp⊢;refine MZ (c:=none) (its:=kvs.map fun kv=>.tup [zl kv.1,kv.2]) (ZF:=sh own cap O) okI hp ⟨trivial,fun W2 i ok2 _ s2=>?_⟩ ((en.step ok stA).cap own cap) trivial (Z5:=Z5) (by rw[←hlen,Zd];exact e3) fun W' h1 h2 h3 h4=>?_
 ·have hf2:W2.H a=some (.frz ob (.dK vs)):=s2.keep _ _ hfI (okI.nofrz hfI);have kr2:KR K W2 kvs vs:=Paired.mapP krI fun _ _ ⟨e,q⟩=>⟨e,q.step okI s2⟩
  refine⟨fun hi=>⟨hf2,by rw[WQ,krI.len] at hi;exact hi⟩,fun dd hdd=>?_⟩;rw[WY] at hdd;cases hkv:kvs[i]? with
  |none=>rw[hkv] at hdd;cases hdd
  |some kv=>
   rw[hkv] at hdd;simp at hdd;subst hdd;have hi:i<vs.length:=by rw[←krI.len];exact(WL.mp hkv).1
   refine⟨⟨hf2,hi⟩,fun x H' hy=>?_⟩;obtain⟨pp,kk,vv,rfl,hpn,rfl,hvs⟩:=hy;obtain⟨ek,rv⟩:=kr2.get (k:=kv.1) (d:=kv.2) hkv hvs;refine(⟨W2.lay pp (.tup [kV kk,vv]),rfl,rfl,tQ ok2 hpn,sK hpn,?_⟩);rw[ek];exact w5 ok2 hpn (.cons (Vj kk) (.cons rv .nil))
 ·refine q _ W' h1 h2 (stA.trans h3) ?_;rw[hlen];exact h4
end
end L3
namespace L2
open PySem PySem.Spec PyProof.Rows
section
open PySem.SeqAt
open PySem.AutoSeq1 (wpAny_loadPart')
open PySem.MeetsSeq PySem.MeetsSeq2 PySem.MeetsSeq3 PySem.SeqRoads2
theorem U5(l:Addr)(items:Array Value)(n:Nat)(dd:Option Addr)(sl:Array (Option Value))(x:Value)(e:Nat->Bool)(k:Nat):
  ∀i:Nat,items.size - i=k->Meets (Builtin.«list.__contains__.loop» ⟨[.ref l,x,rawInt i],[]⟩)
   (fun A R s=>s.heap.get? l=some {cls:=.type "list",dict:=dd,data:=.seq items n,slots:=sl}/\(∀j (h:j<items.size),EqAt A.in1 s items[j] x (e j))/\R (.ok (.ret (.bool (((List.range items.size).drop i).any e)))) s):=by
 induction k with
 |zero=>
  intro i hk prog w A R s h;obtain⟨hp,g,d,tk,os⟩:=s;obtain⟨hl,he,h⟩:=h;wp_walk using Yb hl;have hi:items[((i:Nat):Int).toNat]?=none:=by simp;omega
  have hd:(List.range items.size).drop i=[]:=by simp;omega
  rw[hd] at h;rw[hi];wp_walk;exact h
 |succ k ih=>
  intro i hk prog w A R s h;obtain⟨hp,g,d,tk,os⟩:=s;obtain⟨hl,he,h⟩:=h;wp_walk using Yb hl;have hlt:i<items.size:=by omega
  have hi:items[((i:Nat):Int).toNat]?=some items[i]:=by simp[hlt]
  have hd:(List.range items.size).drop i=i::(List.range items.size).drop (i+1):=by simp[Xq,hlt]
  rw[hd,Yh] at h;rw[hi];refine WH (he i hlt prog w _ _ ?_);cases hb:e i with
  |true=>
   rw[hb] at h;wp_walk;exact h
  |false=>
   rw[hb] at h;have hc:((i:Int)+1)=((i+1:Nat):Int):=by push_cast;rfl
   wp_walk;rw[hc];exact⟨Yi plain_contains_loop _,Yd entry_contains_loop (by
    rw[XM plain_contains_loop _];exact ih (i+1) (by omega) prog w A R _ ⟨hl,he,by simpa using h⟩)⟩
theorem Qh(l:Addr)(items:Array Value)(n:Nat)(dd:Option Addr)(sl:Array (Option Value))(x:Value)(e:Nat->Bool):
  Meets (Builtin.«list.__contains__» ⟨[.ref l,x],[]⟩)
   (fun A R s=>s.heap.get? l=some {cls:=.type "list",dict:=dd,data:=.seq items n,slots:=sl}/\(∀j (h:j<items.size),EqAt A.in1 s items[j] x (e j))/\R (.ok (.ret (.bool ((List.range items.size).any e)))) s):=by
 intro prog w A R s h;obtain⟨hp,g,d,tk,os⟩:=s;obtain⟨hl,he,h⟩:=h;wp_walk using Yb hl;exact⟨Yi plain_contains_loop _,Yd entry_contains_loop (by
  rw[XM plain_contains_loop _];exact U5 l items n dd sl x e _ 0 rfl prog w A R _ ⟨hl,he,by simpa using h⟩)⟩
theorem RE{prog:Program}{w:World}{A:Around}{E:OK}{s:Shared}{l:Addr}{items:Array Value}{x:Value}{Q:OK}(e:Nat->Bool)(hl:s.heap.IsList l items)(he:∀j (h:j<items.size),EqAt A.in1 s items[j] x (e j))
  (h:Q (.bool ((List.range items.size).any e)) s):wpAny (model prog w) A (compareOp .In x (.ref l)) Q E s:=by
 obtain⟨⟨cls,dd,data,sl⟩,ho,hc,n,hd⟩:=id hl;simp only at hc hd;subst hc hd;exact in_meets ⟨_,ho,rfl⟩ F.slot_list_contains F.entry_list_contains (F.args_list_contains_2 _ _) (Qh l items n dd sl x e) ⟨ho,he,_,rfl,h⟩
end
theorem L8:∀{ds:List PyData} {i:Nat} {d:PyData},PyData.canLayAll0 ds=true->ds[i]?=some d->d.canLay0=true
 | [],i,d,_,h=>by simp at h
 |a::r,0,d,hl,h=>by simp[PyData.canLayAll0] at hl;simp at h;subst h;exact hl.1
 |a::r,i+1,d,hl,h=>by simp[PyData.canLayAll0] at hl;simp at h;exact L8 hl.2 h
def Ur{X:Cx}(hu:X.A.units+64<cLine):OpR X (compareOp .In) (fun x y H Q=>∃p xs ds d,y=.ref p/\SqL X.K H p xs/\Dps X.K H xs ds/\Dp X.K H x d/\(PyData.canLayAll0 ds&&d.canLay0&&decide (d.depth<=60))=true/\Q (.bl (ds.any fun e=>PyData.eqv e d)) H):=by
 intro pins s B H x y v u Q I rx ry h;obtain⟨p,xs,ds,d,rfl,hq,hs,hd,hc,q⟩:=h;simp only[Xg,XO] at hc;cases ry;obtain⟨its,rv,pl,hz⟩:=I.list hq;obtain⟨as,r1⟩:=hd.reads I rx;have hl:=rv.length;have hl2:=hs.len;refine(RE (fun j=>PyData.eqv (ds.getD j .none) d) pl.isList (fun j hj=>?_) ?_)
 ·have hj':j<its.length:=by simpa using hj
  have hx:xs[j]?=some (xs[j]'(by omega)):=WP (by omega);obtain⟨e,he,hde⟩:=hs.get hx;obtain⟨w,hw,rw'⟩:=rv.get hx;obtain⟨bs,r2⟩:=hde.reads I rw';have e1:its.toArray[j]=w:=by
   have:its[j]?=some (its[j]'hj'):=WP hj';rw[this] at hw;cases hw;simp
  have e2:ds.getD j .none=e:=by simp[WS,he]
  rw[e1,e2];refine SeqAt.eqAt_reads e d _ s _ _ _ _ r2 r1 (L8 hc.1.1 he) hc.1.2 ?_;have:X.A.in1.units<=X.A.units+1:=by simp[Around.in1]
  have:=Nat.min_le_right e.depth d.depth;omega
 ·have e:(List.range its.toArray.size).any (fun j=>PyData.eqv (ds.getD j .none) d)=ds.any fun e=>PyData.eqv e d:=by
   have hsz:its.toArray.size=ds.length:=by simp;omega
   rw[hsz,Ye];simp only[X5,XF];constructor
   ·rintro⟨j,hj,e⟩;exact⟨ds[j],Xv _,by simpa[WS,WP hj] using e⟩
   ·rintro⟨e,hm,he⟩;obtain⟨j,hj⟩:=XH hm;exact(⟨j,(WL.mp hj).1,by simpa[WS,hj] using he⟩)
  rw[e];exact⟨.bl _,H,I,rfl,q⟩
section
variable {X:Cx} {N' own:List Str} {cap:List (Str×Nat)} {scope:Scope} {tg iter elt:Expr} {ifs:List Expr} {pos:Pos} {wi:TI} {g:TG} {tc:TT} {te:TE}
theorem Qn(S:CompScope X N' own cap scope)(hi:PI X tg iter wi)
  (hg:∀cl C Z2 Z0 ex,PG (rq X.nox N' scope cl C Z2 Z0 ex) tg g) (ht:∀cl C Z2 Z0 ex,PIf (rq X.nox N' scope cl C Z2 Z0 ex) ifs tc) (he:∀cl C Z2 Z0 ex,PE (rq X.nox N' scope cl C Z2 Z0 ex) elt te)
  (hc:X.calm=true:=by rfl) (hs:∀x,foldedSetIterable iter X.env x=pure x:=by intro _;rfl):
  PE X (.ListComp elt [⟨tg,iter,ifs,0⟩] scope pos) (IM own cap wi g tc te):=by
 intro pins s B H Q I h;rw[eval_ListComp];obtain⟨cl,hcl,c1,c2⟩:=Aj (scope:=scope) (env:=X.env) fun y hy hk=>I.ok.has y.1 (S.free y hy hk);refine(XX (use:=none) rfl hs hcl S.kind S.names (thn (hi pins s B H _ I h) fun v s1 h1=>thn h1 fun itv s2 h2=>?_));obtain⟨it,fp,tn,Z6,H2,e,I2,T,st2,f2,q⟩:=h2;subst e;have S':CompScope X.nox N' own cap scope:=⟨S.kind,S.own1,S.free1,S.names,S.free,S.eq,S.cap⟩
 refine(IB (X:=X.nox) (RR:=fun acc C=>compPost (model X.prog X.w) X.A X.xe none (EP X pins B Q) acc C) (Z:=fun D=>Q (.ref D)) (fun _ _ z=>z) hc S' hg ht he (I2.wish _) T st2 f2 c1 c2 q ?_);intro D C s' m' H' I' hn' f' z;exact⟨m',hn',fun h'' hs''=>⟨.ref D,H',I'.unwish.letgo f' hs'',rfl,z⟩⟩
end
end L2
namespace L3
open PySem PySem.Spec L2
section
variable {X:Cx} {K:Frag} {a b:Expr} {ea eb:EV} {pos p:Pos} {k:Nat}
def wv(neg:Bool)(x y:D)(L:M):Fr:=if neg=true then none else(su L y).bind fun ds=>(sB (py 65 L) ds).bind fun es=>(py 65 L x).bind fun d=>if(PyData.canLayAll0 es&&d.canLay0&&decide (d.depth<=60))=true then some (.bl (es.any fun e=>PyData.eqv e d),L) else none
theorem Ry:R2A K (fun x y H Q=>∃p xs ds d,y=.ref p/\SqL K H p xs/\Dps K H xs ds/\Dp K H x d/\(PyData.canLayAll0 ds&&d.canLay0&&decide (d.depth<=60))=true/\Q (.bl (ds.any fun e=>PyData.eqv e d)) H) (wv false):=by
 intro W x y d e z Z5 Q ok r1 r2 hf q;unfold wv at hf;rw[if_neg (by simp)] at hf;refine q0 hf fun ds h1 hf=>?_;refine q0 hf fun es h2 hf=>?_;obtain⟨d',h3,hf⟩:=bnd hf;split at hf
 ·rename_i hc;cases hf;obtain⟨a,vs,rfl,hs,hv⟩:=xh ok h1 r2;exact(⟨a,vs,es,d',rfl,hs,xk (vU ok 65) hv h2,vU ok _ _ _ _ r1 h3,hc,q _ W rfl ok .refl (.bl _)⟩)
 ·cases hf
theorem NA(hr:Room k X.A)(ha:PE X a (tD K ea))(hb:PE X b (tD K eb))(hm:behindInMarks .In b=false:=by rfl)(hK:X.K=K:=by rfl):PE X (.Compare a [.In] [b] pos) (tD K (v2 (wv false) ea eb)):=by
 subst hK;exact Ey (Ur hr.units) Ry ha hb hm
end
section
variable {X:Cx} {E:St->XK} {K:Frag} {N' own:List Str} {cap:List (Str×Nat)} {scope:Scope} {tg iter elt:Expr} {ifs:List Expr} {pos:Pos} {ex:EX} {g:GV} {tc:BV} {te:EV}
def xJ(own:List Str)(cap:List (Str×Nat))(ex:EX)(g:GV)(tc:BV)(te:EV):EX:=fun O L=>(ex O L).bind fun p=>match p.1 with
 | .ok d=>(lsC p.2 d).bind fun s=>if s.1.length<=1000000 then(sw s.2 g tc te s.1 (sh own cap O) p.2).bind fun q=>some (.ok (.lst q.1),q.2) else none
 | .ex C=>some (.ex C,p.2)
theorem LW(S:CompScope X N' own cap scope)(hi:PE X iter (tX K E ex))
  (hg:∀cl C Z2 Z0 ex,PG (rq X.nox N' scope cl C Z2 Z0 ex) tg (tDG K g)) (ht:∀cl C Z2 Z0 ex,PIf (rq X.nox N' scope cl C Z2 Z0 ex) ifs (tDB K tc)) (he:∀cl C Z2 Z0 ex,PE (rq X.nox N' scope cl C Z2 Z0 ex) elt (tD K te))
  (hc:X.calm=true:=by rfl) (hs:∀x,foldedSetIterable iter X.env x=pure x:=by intro _;rfl) (hK:X.K=K:=by rfl):
  PE X (.ListComp elt [⟨tg,iter,ifs,0⟩] scope pos) (tX K E (xJ own cap ex g tc te)):=by
 subst hK;refine rO (Qn S (Ga hi) hg ht he hc hs) fun B H Q h=>?_;refine el4 h fun W O r Z5 eH ok en e q=>?_;subst eH;obtain⟨⟨r1,Z4⟩,e1,e⟩:=bnd e;refine(⟨W,O,r1,Z4,rfl,ok,en,e1,fun W1 ZK ok1 s1=>?_⟩);cases r1 with
 |ex C=>
  cases e;exact q W1 ZK ok1 s1
 |ok d=>
  intro v rv;obtain⟨⟨its,c⟩,e2,e⟩:=bnd e;split at e
  ·rename_i hl;obtain⟨⟨rs,Z3⟩,e3,e⟩:=bnd e;cases e;obtain⟨c0,a,rfl,hh⟩:=DM ok1 (by rw[ZK];exact e2) rv;obtain⟨vs0,h0,_⟩:=hh W1 ok1 c0 rv;refine(⟨a,rfl,⟨_,h0⟩,fun p hp=>?_⟩);have jr:JR X.K W1 (Itl X.K a) its c:=⟨c0,[d],[.ref a],.cons rv .nil,fun W2 i ok2 c2 r2=>by
    cases r2 with
    |cons r2 _=>
     obtain⟨vs,hs,hv⟩:=hh W2 ok2 c2 r2;refine⟨fun hi=>⟨vs,hs,by rw[←hv.length];exact hi⟩,fun d hd=>?_⟩;obtain⟨v,hv1,hv2⟩:=hv.get hd;refine(⟨⟨vs,v,hs,hv1⟩,fun x H' y=>?_⟩);obtain⟨rfl,y⟩:=y;have:=y vs hs;rw[hv1] at this;cases this;exact⟨W2,rfl,rfl,ok2,.refl,hv2⟩⟩
   refine GI ok1 hp jr ((en.step ok s1).cap own cap) hl (by rw[ZK];exact e3) fun W' ys Zl ok' s' hp' hy r=>?_;obtain⟨a1,a2,a3⟩:=Dv s1 hp ok1 ok' s' hp' hy r;exact(q (W'.show W1.hid) Zl a1 a2 _ a3)
  ·cases e
end
section
variable {K:Frag} {k:Nat}
theorem VL{W:Wd}(n:Nat):DRs K W (rS 0 n) ((List.range n).map fun k:Nat=>V.int (k:Int)):=by
 have h:=CL (K:=K) (W:=W) ((List.range n).map fun k:Nat=>(k:Int));rw[Xu,Xu] at h;have e:rS 0 n=(List.range n).map (D.int∘fun k:Nat=>(k:Int)):=by
  unfold rS;exact XR fun k _=>by simp
 rw[e];exact h
end
end L3
namespace L2
open PySem PySem.Spec PyProof.Rows
end L2
namespace L3
open PySem PySem.Spec L2
def sI(kvs:List (NK×D))(k:NK):Option D:=(kvs.find? fun kv=>decide (kv.1=k)).map (·.2)
def uJ(kvs:List (NK×D))(k:NK)(v:D):List (NK×D):=
 if(kvs.any fun kv=>decide (kv.1=k))=true then kvs.map (fun kv=>if kv.1=k then(kv.1,v) else kv) else kvs++[(k,v)]
def wB:D->Option NK
 | .tup [.tup ds,.int n]=>(sB inI ds).bind fun ns=>some (ns,n)
 |_=>none
def wc(L:M):D->Option (List (NK×D))
 | .ref k=>match L[k]? with
  |some (some (.dN kvs))=>some kvs
  |_=>none
 |_=>none
section
variable {K:Frag} {W:Wd}
theorem Jh:∀{ds:List D} {vs:List V} {ns:List Int},sB inI ds=some ns->DRs K W ds vs->vs=ns.map V.int
 | [],_,ns,h,r=>by cases h;cases r;rfl
 |d::ds,_,ns,h,r=>by
  cases r with
  |cons r1 r2=>
   simp only[sB] at h;refine q0 h fun i e1 h=>?_;refine q0 h fun is e2 h=>?_;cases h;have:=Jh e2 r2;subst this;cases d<;>simp only[inI] at e1<;>cases e1
   cases r1;rfl
theorem Dy{d:D}{k:NK}{v:V}(h:wB d=some k)(r:DR K W d v):∃b,v=.ref b/\NKey W.H b k:=by
 unfold wB at h;split at h
 ·rename_i ds n;refine q0 h fun ns e h=>?_;cases h;cases r with
  | @tup a vs _ hh rs=>
   cases rs with
   |cons r1 rs=>
    cases rs with
    |cons r2 rs=>
     cases rs;cases r2;cases r1 with
     | @tup b us _ hb ru=>
      have:=Jh e ru;subst this;exact⟨a,rfl,b,hh,hb⟩
 ·cases h
theorem E3{d:D}{kvs:List (NK×D)}{v:V}(ok:Ok K W)(h:wc W.L d=some kvs)(r:DR K W d v):
  ∃k a vs,d=.ref k/\v=.ref a/\W.L[k]?=some (some (.dN kvs))/\W.ρ[k]?=some a/\W.H a=some (.dT vs)/\NR K W kvs vs:=by
 cases d with
 |ref k=>
  simp only[wc] at h;split at h
  ·rename_i kvs' hk;cases h;cases r with
   |ref ha=>
    obtain⟨a',ho,h1,h2,vs,rfl,r⟩:=ok.at_ k _ hk;rw[ha] at h1;cases h1;exact⟨k,_,vs,rfl,rfl,hk,ha,h2,r⟩
  ·cases h
 |_=>simp[wc] at h
theorem NR.len{kvs:List (NK×D)}{vs:List (NK×V)}(r:NR K W kvs vs):kvs.length=vs.length:=Paired.length r
theorem NR.any{kvs:List (NK×D)}{vs:List (NK×V)}(r:NR K W kvs vs)(k:NK):(kvs.any fun kv=>decide (kv.1=k))=vs.any fun kv=>decide (kv.1=k):=by
 unfold NR at r;induction r with
 |nil=>rfl
 |cons h t ih=>rw[Yh,Yh,ih,h.1]
theorem NR.val{kvs:List (NK×D)}{vs:List (NK×V)}(r:NR K W kvs vs)(k:NK):(sI kvs k).isSome=(tz vs k).isSome:=by
 unfold NR at r;induction r with
 |nil=>rfl
 | @cons p q ps qs h t ih=>
  by_cases e:p.1=k
  ·rw[xt (by rw[←h.1];exact e)];simp[sI,WX,e]
  ·rw[x3 (by rw[←h.1];exact e)];simp only[sI,WX,e,decide_false] at ih⊢;exact ih
theorem NR.at{kvs:List (NK×D)}{vs:List (NK×V)}(r:NR K W kvs vs){k:NK}{d:D}(h:sI kvs k=some d):∃v,tz vs k=some v/\DR K W d v:=by
 unfold NR at r;induction r with
 |nil=>cases h
 | @cons p q ps qs hd t ih=>
  by_cases e:p.1=k
  ·have:sI (p::ps) k=some p.2:=by simp[sI,WX,e]
   rw[this] at h;cases h;exact⟨q.2,xt (by rw[←hd.1];exact e),hd.2⟩
  ·have:sI (p::ps) k=sI ps k:=by simp[sI,WX,e]
   rw[this] at h;obtain⟨v,h1,h2⟩:=ih h;exact⟨v,by rw[x3 (by rw[←hd.1];exact e)];exact h1,h2⟩
theorem NR.put{kvs:List (NK×D)}{vs:List (NK×V)}(r:NR K W kvs vs)(k:NK){d:D}{v:V}(rv:DR K W d v):NR K W (uJ kvs k d) (sO vs k v):=by
 unfold uJ sO;rw[r.any k];by_cases e:(vs.any fun kv=>decide (kv.1=k))=true
 ·rw[if_pos e,if_pos e];unfold NR at r⊢;clear e;induction r with
  |nil=>exact .nil
  | @cons p q ps qs h t ih=>
   refine .cons ?_ ih;show(if p.1=k then(p.1,d) else p).1=(if q.1=k then(q.1,v) else q).1/\DR K W (if p.1=k then(p.1,d) else p).2 (if q.1=k then(q.1,v) else q).2;by_cases e:p.1=k
   ·rw[if_pos e,if_pos (by rw[←h.1];exact e)];exact⟨h.1,rv⟩
   ·rw[if_neg e,if_neg (by rw[←h.1];exact e)];exact h
 ·rw[if_neg e,if_neg e];exact Paired.snoc r ⟨rfl,rv⟩
theorem VJ{k:Nat}{a:Addr}{kvs kvs':List (NK×D)}{vs':List (NK×V)}(ok:Ok K W)(hk:W.L[k]?=some (some (.dN kvs)))(ha:W.ρ[k]?=some a)(hs:NR K W kvs' vs'):
  Ok K (W.put k a (.dT vs') (.dN kvs'))/\Step W (W.put k a (.dT vs') (.dN kvs')):=⟨BY ok hk ha ⟨vs',rfl,hs⟩,wZ hk ha⟩
theorem FZ{H:Hp}{a b:Addr}{kvs:List (NK×V)}{k:NK}(e:H a=some (.dT kvs))(eb:NKey H b k):DGet H a (.ref b) (tz kvs k):=.inr ⟨kvs,k,b,.inl e,rfl,eb,rfl⟩
theorem O7{H:Hp}{a b:Addr}{kvs:List (NK×V)}{k:NK}{v:V}(e:H a=some (.dT kvs))(eb:NKey H b k)(hl:kvs.length<sizeLine):Fy H a (.ref b) v (upd H a (.dT (sO kvs k v))):=.inr ⟨kvs,k,b,e,rfl,eb,hl,rfl⟩
end
section
variable {X:Cx} {K:Frag} {a b e o i value:Expr} {ea eb eo ei:EV} {pos p pos':Pos} {k:Nat}
def Et:EV:=fun _ L=>some (.ref L.length,L++[some (.dN [])])
theorem Oh:PE X (.Dict [] [] pos) (tD K Et):=rO Rv fun B H Q h=>by
 refine el4 h fun W O d Z5 eH ok en e q=>?_;subst eH;cases e;intro pa hp;exact q _ (W.new pa (.dT []) (.dN [])) rfl (Av ok hp ⟨[],rfl,.nil⟩) (vH ok hp) (zK ok)
def BE(x y:D)(L:M):Fr:=(wc L x).bind fun kvs=>(wB y).bind fun k=>(sI kvs k).bind fun d=>some (d,L)
theorem UV(hr:Room k X.A)(ha:PE X a (tD K ea))(hb:PE X b (tD K eb))(hs:Cj b:=by exact fun _ _=>rfl):PE X (.Subscript a b pos) (tD K (v2 BE ea eb)):=
 rO (Gy (by have:=hr.un;omega) ha hb hs) fun B H Q h=>by
  refine el4 h fun W O d Z5 eH ok en e q=>?_;subst eH;refine q0 e fun p1 e1 e=>?_;refine q0 e fun p2 e2 e=>?_;refine q0 e fun kvs e3 e=>?_;refine q0 e fun ky e4 e=>?_;refine q0 e fun d2 e5 e=>?_;cases e;refine⟨W,O,p1.1,p1.2,rfl,ok,en,e1,fun x W1 Z1 ok1 s1 r1=>⟨W1,O,p2.1,p2.2,rfl,ok1,en.step ok s1,by rw[Z1];exact e2,fun y W2 ZU ok2 s2 r2=>?_⟩⟩;rw[←ZU] at e3;obtain⟨n,a,vs,hd,rfl,hk,ha,hh,hs⟩:=E3 ok2 e3 (r1.step ok1 s2);obtain⟨b,rfl,hb⟩:=Dy e4 r2;obtain⟨v,h1,h2⟩:=hs.at e5;exact⟨a,v,rfl,by rw[←h1];exact FZ hh hb,q _ W2 ZU ok2 (s1.trans s2) h2⟩
def zY(neg:Bool)(y x:D)(L:M):Fr:=(wB y).bind fun k=>(wc L x).bind fun kvs=>some (.bl (xor neg (sI kvs k).isSome),L)
theorem RY(neg:Bool):∀B H Q,tD K (v2 (zY neg) ea eb) B H Q->(fun B H Q=>tD K ea B H fun y H1=>tD K eb B H1 fun x H2=>∃a ov,x=.ref a/\DGet H2 a y ov/\Q (.bl (xor neg ov.isSome)) H2:TE) B H Q:=fun B H Q h=>by
 refine el4 h fun W O d Z5 eH ok en e q=>?_;subst eH;refine q0 e fun p1 e1 e=>?_;refine q0 e fun p2 e2 e=>?_;refine q0 e fun k e3 e=>?_;refine q0 e fun kvs e4 e=>?_;cases e;refine⟨W,O,p1.1,p1.2,rfl,ok,en,e1,fun x W1 Z1 ok1 s1 r1=>⟨W1,O,p2.1,p2.2,rfl,ok1,en.step ok s1,by rw[Z1];exact e2,fun y W2 ZU ok2 s2 r2=>?_⟩⟩;rw[←ZU] at e4;obtain⟨n,a,vs,_,rfl,_,_,hh,hs⟩:=E3 ok2 e4 r2;obtain⟨b,rfl,hb⟩:=Dy e3 (r1.step ok1 s2);refine⟨a,_,rfl,FZ hh hb,?_⟩;rw[←hs.val k];exact q _ W2 ZU ok2 (s1.trans s2) (.bl _)
theorem Ov(hr:Room k X.A)(ha:PE X a (tD K ea))(hb:PE X b (tD K eb))(hm:behindInMarks .NotIn b=false:=by rfl):PT X (.Compare a [.NotIn] [b] pos) (tDB K (vT (v2 (zY true) ea eb))):=
 wP (QQ (Ui (by have:=hr.un;omega) ha hb) hm) (Cy fun B H Q h=>by
  have:=RY true B H Q h;simp only[Bool.true_xor] at this;exact this)
def Dh(eo ei ev:EV):SV:=fun O L=>(ev O L).bind fun v=>(eo O v.2).bind fun p=>(ei O p.2).bind fun q=>(wB q.1).bind fun k=>(wc q.2 p.1).bind fun kvs=>match p.1 with
 | .ref n=>if kvs.length<16000000 then some (.nx,O,q.2.set n (some (.dN (uJ kvs k v.1)))) else none
 |_=>none
theorem Uo{ev:EV}(hr:Room k X.A)(ho:PE X o (tD K eo))(hi:PE X i (tD K ei))(hv:PE X value (tD K ev))(hs:swapsWith value (some (.Subscript o i pos')) pos.line X.env=pure false:=by rfl):
  PS X (.Assign [.Subscript o i pos'] value pos) (tDS K (Dh eo ei ev)):=tH (T4 (by have:=hr.un;omega) ho hi hv hs) fun D B H h=>by
 refine el5 h fun W O o ZX Z5 eH ok en e q=>?_;subst eH;refine q0 e fun v0 e0 e=>?_;refine q0 e fun p1 e1 e=>?_;refine q0 e fun p2 e2 e=>?_;refine q0 e fun ky e3 e=>?_;refine q0 e fun kvs e4 e=>?_;refine⟨W,O,v0.1,v0.2,rfl,ok,en,e0,fun z W0 Y8 ok0 s0 r0=>⟨W0,O,p1.1,p1.2,rfl,ok0,en.step ok s0,by rw[Y8];exact e1,fun x W1 Z1 ok1 s1 r1=>⟨W1,O,p2.1,p2.2,rfl,ok1,(en.step ok s0).step ok0 s1,by rw[Z1];exact e2,fun y W2 ZU ok2 s2 r2=>?_⟩⟩⟩;rw[←ZU] at e4;obtain⟨n,a,vs,hd,rfl,hk,ha,hh,hs⟩:=E3 ok2 e4 (r1.step ok1 s2);rw[hd] at e;simp only at e;split at e
 ·rename_i hl;cases e;obtain⟨b,rfl,hb⟩:=Dy e3 r2;obtain⟨o3,s3⟩:=VJ (vs':=sO vs ky z) (kvs':=uJ kvs ky v0.1) ok2 hk ha (hs.put ky ((r0.step ok0 s1).step ok1 s2));refine⟨a,_,rfl,O7 hh hb (by rw[←hs.len,Yf];omega),?_⟩;exact q (W2.put n a (.dT (sO vs ky z)) (.dN (uJ kvs ky v0.1))) B (by show W2.L.set _ _=_;rw[ZU]) o3 (((s0.trans s1).trans s2).trans s3) ((((en.step ok s0).step ok0 s1).step ok1 s2).step ok2 s3)
 ·cases e
end
end L3
namespace L2
open PySem PySem.Spec PyProof.Rows
section
variable {prog:Program} {w:World} {A:Around} {E:OK} {s:Shared}
theorem VN{Q:List Value->Shared->Prop}{r:Addr}{a b c:Int}{t u v:Tok}{n:Nat}(hh:A.handled=none)(hr:IsRange s.heap r a b c t u v)(hsmall:Builtin.Range.small a b c=true)(hn:Builtin.Range.rangeSize a b c=n)(hlen:n<=2^24)
  (hQ:∀(h':Heap) (tk:Nat) (acc:Array Value),(∀b o,s.heap.get? b=some o->h'.get? b=some o)->ItemsOf (fun i v=>∃t,v=.int (a+i*c) t) acc n->Q acc.toList {s with heap:=h',toks:=tk}):
  wpAny (model prog w) A (collect (.ref r)) Q E s:=by
 unfold collect;refine WH (wpAny_runValue (Yd F.entry_proto_collect ?_));rw[XM F.plain_proto_collect _];show wpAny _ A.in1 (newList [] >>= fun l=>again (.builtin "list.__iadd__" ⟨[l,.ref r],[]⟩)) _ _ s;refine WH (XE ?_);refine WM ⟨Yi F.plain_list_iadd _,Yd F.entry_list_iadd ?_⟩;rw[XM F.plain_list_iadd _];show wpAny _ A.in1 (Builtin.List.listExtendWith (.ref s.heap.objs.size) (.ref r) (.ref s.heap.objs.size)) _ _ _;have hS:(s.heap.push {cls:=.type "list",data:=.seq ([]:List Value).toArray}).get? s.heap.objs.size=some {cls:=.type "list",data:=.seq #[] 0}:=WR _ rfl;have hr1:=WK {cls:=.type "list",data:=.seq ([]:List Value).toArray} hr;have fin:∀(h':Heap) (tk:Nat) (acc:Array Value) (c':Nat),(∀b o,b≠s.heap.objs.size->(s.heap.push {cls:=.type "list",data:=.seq ([]:List Value).toArray}).get? b=some o->h'.get? b=some o)->h'.get? s.heap.objs.size=some {cls:=.type "list",dict:=none,data:=.seq acc c',slots:=#[]}->
   ItemsOf (fun i v=>∃t,v=.int (a+i*c) t) acc n->wpAny (model prog w) A (match Value.ref s.heap.objs.size with
   |Value.ref a=>do
    match(←load a).data with
     |Data.seq xs _=>pure xs.toList
     |_=>unsupported "internal:collect"
   |_=>unsupported "internal:collect") Q E {s with heap:=h',toks:=tk}:=by
  intro h' tk acc c' hk hS' hacc;show wpAny _ A (load s.heap.objs.size >>= _) _ _ _;refine WH (wpAny_load hS' ?_);exact WM (hQ h' tk acc (fun b o hb=>hk b o (W8 (WN hb)) (WK _ hb)) hacc)
 refine WO (wpAny_extend_range (A:=A) (s:={s with heap:=s.heap.push {cls:=.type "list",data:=.seq ([]:List Value).toArray}}) (R:=fun r' s'=>r'=.ok (.ret (.ref s.heap.objs.size))/\∃h' tk acc c',s'={s with heap:=h',toks:=tk}/\(∀b o,b≠s.heap.objs.size->(s.heap.push {cls:=.type "list",data:=.seq ([]:List Value).toArray}).get? b=some o->h'.get? b=some o)/\h'.get? s.heap.objs.size=some {cls:=.type "list",dict:=none,data:=.seq acc c',slots:=#[]}/\ItemsOf (fun i v=>∃t,v=.int (a+i*c) t) acc n)
  hh hr1 hsmall hn hlen s.heap.objs.size (.ref s.heap.objs.size) 0 hS (fun h' tk acc c' h1 h2 h3=>⟨rfl,h',tk,acc,c',rfl,h1,h2,h3⟩)) (fun fi s' h=>?_) (fun e s' h=>?_)
 ·cases fi with
  |done f=>
   obtain⟨e,h',tk,acc,c',rfl,h1,h2,h3⟩:=h;cases e;exact fin h' tk acc c' h1 h2 h3
  |again c2=>exact⟨h.1,codeAny_mono h.2 fun r s'' hr=>by obtain⟨rfl,h',tk,acc,c',rfl,h1,h2,h3⟩:=hr;exact fin h' tk acc c' h1 h2 h3⟩
 ·exact absurd h.1 (by simp)
theorem T1{Q₁:OK}{r:Addr}{a b c:Int}{t u v:Tok}{n:Nat}(hh:A.handled=none)(hr:IsRange s.heap r a b c t u v)(hsmall:Builtin.Range.small a b c=true)(hn:Builtin.Range.rangeSize a b c=n)(hlen:n<=2^24)
  (h:∀(h':Heap) (tk:Nat) (acc:Array Value),(∀b o,s.heap.get? b=some o->h'.get? b=some o)->ItemsOf (fun i v=>∃t,v=.int (a+i*c) t) acc n->Q₁ (.ref h'.objs.size) {s with heap:=h'.push {cls:=.type "tuple",data:=.seq acc},toks:=tk}) (hsz:n<=sizeLine):
  codeAny (model prog w) A (.call (.builtin "tuple.__new__") ⟨[.type "tuple",.ref r],[]⟩) (wants Q₁ E) s:=by
 refine codeAny_of_tree ?_;show wpAny _ A.in1 (do checkBuiltinCall "tuple.__new__" ⟨[.type "tuple",.ref r],[]⟩;again (.builtin "tuple.__new__" ⟨[.type "tuple",.ref r],[]⟩)) _ _ s;refine WH (wpAny_of_eq (F.newCall_tuple_1 _) (WM ⟨Yi F.plain_tuple_new _,Yd F.entry_tuple_new ?_⟩));rw[XM F.plain_tuple_new _];have hsub:=sub_tuple_self;have hinit:=init_tuple_lookup;have hmh:=madeHere_tuple;have hTI:s.TypeIs (.ref r) "range":=⟨_,hr,rfl⟩
 have hh1:A.in1.handled=none:=hh;wp_walk using wpAny_typeOf hTI,VN hh1 hr hsmall hn hlen;intro h' tk acc hk hacc;show wpAny _ _ (Builtin.Tuple.tupleExact acc.toList.toArray >>= fun v=>ret v) _ _ _;unfold Builtin.Tuple.tupleExact;refine WH (XE ?_ (by show acc.toList.toArray.size<=sizeLine;simp only[Array.toArray_toList];rw[hacc.1];exact hsz));refine WM ?_;have e:acc.toList.toArray=acc:=by simp
 rw[e];exact h h' tk acc hk hacc
theorem Re{Q:OK}{r:Addr}{a b c:Int}{t u v:Tok}{n:Nat}(hh:A.handled=none)(hr:IsRange s.heap r a b c t u v)(hsmall:Builtin.Range.small a b c=true)(hn:Builtin.Range.rangeSize a b c=n)(hlen:n<=2^24)
  (h:∀(h':Heap) (tk:Nat) (acc:Array Value),(∀b o,s.heap.get? b=some o->h'.get? b=some o)->ItemsOf (fun i v=>∃t,v=.int (a+i*c) t) acc n->Q (.ref h'.objs.size) {s with heap:=h'.push {cls:=.type "tuple",data:=.seq acc},toks:=tk}) (hsz:n<=sizeLine):
  wpAny (model prog w) A (call (.type "tuple") [.ref r]) Q E s:=by
 refine callType_codes (Q₁:=fun obj ZT=>ZT.TypeIs obj "tuple"/\Q obj ZT) F.called_tuple (F.typeCall_tuple_1 _) F.entry_object_init
  (T1 hh hr hsmall hn hlen (fun h' tk acc hk hacc=>⟨⟨_,WR _ rfl,rfl⟩,h h' tk acc hk hacc⟩) hsz) fun obj ZT ZQ=>?_
 exact⟨ZQ.1,F.args_object_init_2 obj _,object_init_meets F.called_tuple.init.lookup F.called_tuple.made (by decide) prog w A.in1 _ ZT ⟨ZQ.1,rfl,ZQ.2⟩⟩
end
section
variable {X:Cx} {a:Expr} {ta:TE} {p pos:Pos}
theorem PU{acc:Array Value}{n:Nat}(hacc:ItemsOf (fun i v=>∃t,v=.int (0+i*1) t) acc n):Vals ((List.range n).map fun k:Nat=>V.int (k:Int)) acc.toList:=by
 have hl:acc.toList.length=n:=by rw[X1];exact hacc.1
 have key:∀(m:Nat) (l:List Value) (k0:Nat),l.length=m->(∀j v,l[j]?=some v->∃t,v=Value.int ((k0+j:Nat):Int) t)->Vals ((List.range' k0 m).map fun k:Nat=>V.int (k:Int)) l:=by
  intro m;induction m with
  |zero=>intro l k0 e _;have:=XY.mp e;subst this;exact .nil
  |succ m ih=>
   intro l k0 e hj;cases l with
   |nil=>simp at e
   |cons x l=>
    rw[List.range'_succ,WT];obtain⟨t,ex⟩:=hj 0 x rfl;refine .cons ⟨t,?_⟩ (ih l (k0+1) (by simpa using e) fun j v ev=>?_)
    ·rw[ex];simp
    ·obtain⟨t',e'⟩:=hj (j+1) v (by simpa using ev);exact⟨t',by rw[e'];congr 2;omega⟩
 rw[List.range_eq_range'];refine key n acc.toList 0 hl fun j v ev=>?_;obtain⟨t',e'⟩:=hacc.2 j v (by simpa using ev);exact⟨t',by rw[e'];simp⟩
theorem SG(hc:X.calm=true):uY X (.type "tuple") (fun xs H Q=>∃(r:Addr) (n:Nat),xs=[.ref r]/\H r=some (.rng 0 (n:Int))/\n<=1000000/\∀l,H l=none->Q (.ref l) (upd H l (.tup ((List.range n).map fun k:Nat=>V.int (k:Int))))):=by
 intro pins s B H xs us Q I r h;obtain⟨r',n,rfl,e,hn,q⟩:=h;obtain⟨u,rfl,ru⟩:=wE r;cases ru;obtain⟨t,u,v,ho⟩:=(show ∃t u v,s.heap.get? r'=some {cls:=.type "range",data:=.fields #[.int 0 t,.int (n:Int) u,.int 1 v]} from I.hok r' _ e)
 refine Re (a:=0) (b:=n) (c:=1) (n:=n) (I.ok.hd hc) ho (small_one (by omega) (by omega) (by omega) (by omega)) (by rw[rangeSize_one];split<;>omega) (by omega) (fun h' tk acc hk hacc=>?_) (vY hn);have I1:Inv X pins B H {s with heap:=h',toks:=tk}:=I.kept (t':=tk) hk;have hv:=PU hacc;have I2:Inv X pins B (upd H h'.objs.size (.tup ((List.range n).map fun k:Nat=>V.int (k:Int)))) {s with heap:=h'.push {cls:=.type "tuple",data:=.seq acc.toList.toArray},toks:=tk}:=
  I1.laid (t':=tk) (fun b o e=>WK _ e) (WJ _) (show ObjOk X.prog X.w _ _ _ (.tup _) from⟨by rw[WQ,XL];exact vY hn,acc.toList,hv,IsTup.new _ _⟩)
 have e2:acc.toList.toArray=acc:=by simp
 rw[e2] at I2;exact⟨.ref h'.objs.size,_,I2,rfl,q _ (I1.hok.fresh (WJ _))⟩
theorem Tm(ml:X.mg "tuple"=none) (ha:PE X a ta) (hg:Gl X "tuple":=by rfl) (hs:starEach [a] X.env=[(false,eval a X.env)]:=by rfl) (hc:X.calm=true:=by rfl):
  PE X (.Call (.Name "tuple" p) [a] [] pos) (fun B H Q=>ta B H fun x H1=>∃(r:Addr) (n:Nat),[x]=[.ref r]/\H1 r=some (.rng 0 (n:Int))/\n<=1000000/\∀l,H1 l=none->Q (.ref l) (upd H1 l (.tup ((List.range n).map fun k:Nat=>V.int (k:Int))))):=
 A7 (p:=p) (pos:=pos) (SG hc) hg ml rfl (sJ ha tE hs) (he:=hs)
theorem V4(K:Frag)(ml:X.mg "tuple"=none) (ha:PE X a ta) (hg:Gl X "tuple":=by rfl) (hs:starEach [a] X.env=[(false,eval a X.env)]:=by rfl) (hK:X.K=K:=by rfl):
  PE X (.Call (.Name "tuple" p) [a] [] pos) (fun B H Q=>ta B H fun x H1=>∃p ys,[x]=[V.ref p]/\((SqL K H1 p ys/\∀l,H1 l=none->Q (.ref l) (upd H1 l (.tup ys)))\/(SqT K H1 p ys/\Q (.ref p) H1))):=by
 subst hK;exact A7 RQ hg ml rfl (sJ ha tE hs) (he:=hs)
end
end L2
namespace L3
open PySem PySem.Spec L2
section
variable {X:Cx} {K:Frag} {a:Expr} {ea:EV} {pos p p2 pos2:Pos} {k:Nat}
def As(x:D)(L:M):Fr:=match x with
 | .int j=>if 0<=j/\j<=1000000 then some (.tup (rS 0 j.toNat),L) else none
 |_=>none
theorem Qq(ml:X.mg "tuple"=none) (mr:X.mg "range"=none) (ha:PE X a (tD K ea)) (hc:X.calm=true:=by rfl) (hg:Gl X "range":=by rfl) (hg2:Gl X "tuple":=by rfl) (hs:starEach [a] X.env=[(false,eval a X.env)]:=by rfl)
  (hs2:starEach [.Call (.Name "range" p2) [a] [] pos2] X.env=[(false,eval (.Call (.Name "range" p2) [a] [] pos2) X.env)]:=by rfl):
  PE X (.Call (.Name "tuple" p) [.Call (.Name "range" p2) [a] [] pos2] [] pos) (tD K (v1 As ea)):=rO (Tm ml (VW mr ha hg hs) hg2 hs2 hc) (wo (r:=fun x H1 Q=>∃j:Int,x=.int j/\∀r,H1 r=none->∃(r':Addr) (n:Nat),[V.ref r]=[.ref r']/\(upd H1 r (.rng 0 j)) r'=some (.rng 0 (n:Int))/\n<=1000000/\∀l,(upd H1 r (.rng 0 j)) l=none->Q (.ref l) (upd (upd H1 r (.rng 0 j)) l (.tup ((List.range n).map fun k:Nat=>V.int (k:Int))))) (by
 intro W x d z Z5 Q ok r1 hf q;unfold As at hf;split at hf
 ·rename_i j;split at hf
  ·rename_i hj;cases hf;cases r1;refine⟨j,rfl,fun r hr=>⟨r,j.toNat,rfl,by rw[sF];congr 2;omega,by omega,fun l hl=>?_⟩⟩;have ok1:=tQ (o:=.rng 0 j) ok hr;have hl1:(W.lay r (.rng 0 j)).H l=none:=hl;exact q _ ((W.lay r (.rng 0 j)).lay l (.tup ((List.range j.toNat).map fun k:Nat=>V.int (k:Int)))) rfl (tQ ok1 hl1) ((sK hr).trans (sK hl1)) (w5 ok1 hl1 (VL _))
  ·cases hf
 ·cases hf))
def AQ(x:D)(L:M):Fr:=(su L x).bind fun ds=>some (.tup ds,L)
theorem Kr(ml:X.mg "tuple"=none) (ha:PE X a (tD K ea)) (hg:Gl X "tuple":=by rfl) (hs:starEach [a] X.env=[(false,eval a X.env)]:=by rfl) (hK:X.K=K:=by rfl):PE X (.Call (.Name "tuple" p) [a] [] pos) (tD K (v1 AQ ea)):=rO (V4 K ml ha hg hs hK) (wo (by
 intro W x d z Z5 Q ok r1 hf q;refine q0 hf fun ds hd hf=>?_;cases hf;obtain⟨a,vs,rfl,hs,hv⟩:=xh ok hd r1;exact⟨a,vs,rfl,.inl ⟨hs,fun p hp=>q _ (W.lay p (.tup vs)) rfl (tQ ok hp) (sK hp) (w5 ok hp hv)⟩⟩))
end
end L3
namespace Law
open PySem L2 L3
inductive Tr where
 |e (x:Option Int)|ask (i j:Nat) (a b:Tr)
def at2(ss:List (List Int))(x i:Nat):Int:=(ss.getD x []).getD i 0
def alk(ss:List (List Int))(i j:Nat)(left:List Nat):List Nat:=left.filter fun x=>decide (at2 ss x i=at2 ss x j)
def unl(ss:List (List Int))(i j:Nat)(left:List Nat):List Nat:=left.filter fun x=>!decide (at2 ss x i=at2 ss x j)
def cL(Z9:List (List (Option Int))):Option (Option Int):=(Z9.getD 0 []).find? fun t=>Z9.all fun l=>decide (t∈l)
def cE(es:List (List (Option Int)))(left:List Nat):Option (Option Int):=cL (left.map fun x=>es.getD x [])
def wd(ss:List (List Int))(f:List Nat->Option Tr)(left:List Nat)(p:Nat×Nat):Option Tr:=
 if alk ss p.1 p.2 left=[]\/unl ss p.1 p.2 left=[] then none else match f (alk ss p.1 p.2 left) with
  |none=>none
  |some a=>match f (unl ss p.1 p.2 left) with
   |none=>none
   |some b=>some (.ask p.1 p.2 a b)
def rK(ps:List (Nat×Nat))(ss:List (List Int))(es:List (List (Option Int))):Nat->List Nat->Option Tr
 |0,left=>(cE es left).map Tr.e
 |a+1,left=>match cE es left with
  |some x=>some (.e x)
  |none=>ps.findSome? (wd ss (rK ps ss es a) left)
def dep:Tr->Nat
 | .e _=>0
 | .ask _ _ a b=>1+max (dep a) (dep b)
def wf(ps:List (Nat×Nat)):Tr->Prop
 | .e _=>True
 | .ask i j a b=>(i,j)∈ps/\wf ps a/\wf ps b
def t7(s:List Int):Tr->Option Int
 | .e x=>x
 | .ask i j a b=>if s.getD i 0=s.getD j 0 then t7 s a else t7 s b
section
variable {ps:List (Nat×Nat)} {ss:List (List Int)} {es:List (List (Option Int))}
theorem R7{left:List Nat}{x:Option Int}(h:cE es left=some x):∀y∈left,x∈es.getD y []:=by
 intro y hy;unfold cE cL at h;have:=List.find?_some h;rw[Xk] at this;have:=this (es.getD y []) (Xm.mpr ⟨y,hy,rfl⟩);simpa using this
theorem GT{left:List Nat}(h:cE es left=none)(h0:left≠[])(x:Option Int):∃y∈left,x∉es.getD y []:=by
 refine XS fun hn=>?_;have all:∀y∈left,x∈es.getD y []:=fun y hy=>XS fun z=>hn ⟨y,hy,z⟩;obtain⟨y,r,rfl⟩:=List.exists_cons_of_ne_nil h0;unfold cE cL at h;have hx:x∈((y::r).map fun x=>es.getD x []).getD 0 []:=all y (by simp);have:=XU.mp h x hx;apply this;rw[Xk];intro l hl;obtain⟨z,hz,rfl⟩:=Xm.mp hl;simpa using all z hz
theorem DU{J β:Type}{f:J->Option β}:∀{l:List J},l.findSome? f=none->∀a∈l,f a=none
 | [],_,a,h=>by cases h
 |x::l,h,a,ha=>by
  rw[List.findSome?_cons] at h;cases hx:f x with
  |some b=>rw[hx] at h;cases h
  |none=>
   rw[hx] at h;rcases Xd.mp ha with rfl|ha
   ·exact hx
   ·exact DU h a ha
theorem Do{f:List Nat->Option Tr}{left:List Nat}{p:Nat×Nat}:wd ss f left p=none↔alk ss p.1 p.2 left=[]\/unl ss p.1 p.2 left=[]\/f (alk ss p.1 p.2 left)=none\/f (unl ss p.1 p.2 left)=none:=by
 unfold wd;by_cases h1:alk ss p.1 p.2 left=[]
 ·simp[h1]
 ·by_cases h2:unl ss p.1 p.2 left=[]
  ·simp[h2]
  ·rw[if_neg (fun z=>z.elim h1 h2)];cases h3:f (alk ss p.1 p.2 left) with
   |none=>simp
   |some a=>
    cases h4:f (unl ss p.1 p.2 left) with
    |none=>simp
    |some b=>simp[h1,h2]
theorem Lg:∀(a:Nat) (left:List Nat),rK ps ss es (a+1) left=none->rK ps ss es a left=none:=by
 intro a;induction a with
 |zero=>
  intro left h;simp only[rK] at h⊢;split at h
  ·cases h
  ·rename_i hx;rw[hx];rfl
 |succ a ih=>
  intro left h;rw[rK] at h⊢;split at h
  ·cases h
  ·rename_i hx;rw[List.findSome?_eq_none_iff];intro p hp;have:=DU h p hp;rw[Do] at this⊢;rcases this with z|z|z|z
   ·exact .inl z
   ·exact .inr (.inl z)
   ·exact .inr (.inr (.inl (ih _ z)))
   ·exact .inr (.inr (.inr (ih _ z)))
theorem Na:∀(a:Nat) (left:List Nat),left≠[]->rK ps ss es a left=none->∀t,wf ps t->dep t<=a->∃x∈left,t7 (ss.getD x []) t∉es.getD x []:=by
 intro a;induction a with
 |zero=>
  intro left h0 h t w d;simp only[rK,Option.map_eq_none_iff] at h;cases t with
  |e x=>exact GT h h0 x
  |ask i j t1 t2=>simp only[dep] at d;omega
 |succ a ih=>
  intro left h0 h t w d;have hm:=Lg a left h;have h':=h;rw[rK] at h;split at h
  ·cases h
  ·rename_i hx;cases t with
   |e x=>exact GT hx h0 x
   |ask i j t1 t2=>
    simp only[dep] at d;obtain⟨hp,w1,w2⟩:=w;have hq:=DU h (i,j) hp;rw[Do] at hq;have la:∀x∈alk ss i j left,x∈left/\t7 (ss.getD x []) (.ask i j t1 t2)=t7 (ss.getD x []) t1:=fun x hx=>by
     obtain⟨q1,q2⟩:=Xh.mp hx;refine⟨q1,?_⟩;have:(ss.getD x []).getD i 0=(ss.getD x []).getD j 0:=by simpa[at2] using q2
     simp only[t7];rw[if_pos this]
    have lu:∀x∈unl ss i j left,x∈left/\t7 (ss.getD x []) (.ask i j t1 t2)=t7 (ss.getD x []) t2:=fun x hx=>by
     obtain⟨q1,q2⟩:=Xh.mp hx;refine⟨q1,?_⟩;have:¬(ss.getD x []).getD i 0=(ss.getD x []).getD j 0:=by simpa[at2] using q2
     simp only[t7];rw[if_neg this]
    have pick1:∀l,l≠[]->(∀x∈l,x∈left/\t7 (ss.getD x []) (.ask i j t1 t2)=t7 (ss.getD x []) t1)->rK ps ss es a l=none->∃x∈left,t7 (ss.getD x []) (.ask i j t1 t2)∉es.getD x []:=fun l hl hm2 hn=>by
     obtain⟨x,hx,q⟩:=ih l hl hn t1 w1 (by omega);obtain⟨z1,z2⟩:=hm2 x hx;exact⟨x,z1,by rw[z2];exact q⟩
    have pick2:∀l,l≠[]->(∀x∈l,x∈left/\t7 (ss.getD x []) (.ask i j t1 t2)=t7 (ss.getD x []) t2)->rK ps ss es a l=none->∃x∈left,t7 (ss.getD x []) (.ask i j t1 t2)∉es.getD x []:=fun l hl hm2 hn=>by
     obtain⟨x,hx,q⟩:=ih l hl hn t2 w2 (by omega);obtain⟨z1,z2⟩:=hm2 x hx;exact⟨x,z1,by rw[z2];exact q⟩
    by_cases ha:alk ss i j left=[]
    ·refine pick2 left h0 (fun x hx=>⟨hx,(lu x (Xh.mpr ⟨hx,?_⟩)).2⟩) hm;have:=XQ.mp ha x hx;simpa using this
    ·by_cases hu:unl ss i j left=[]
     ·refine pick1 left h0 (fun x hx=>⟨hx,(la x (Xh.mpr ⟨hx,?_⟩)).2⟩) hm;have:=XQ.mp hu x hx;simpa using this
     ·rcases hq with z|z|z|z
      ·exact absurd z ha
      ·exact absurd z hu
      ·exact pick1 _ ha la z
      ·exact pick2 _ hu lu z
def xO(pm:List (Nat×Nat))(em:List Nat):Nat->Nat->Bool
 |0,m=>em.all fun e=>m &&& e !=m
 |a+1,m=>(em.all fun e=>m &&& e !=m)&&pm.all fun p=>m &&& p.1==0||(m &&& p.2==0||(xO pm em a (m &&& p.2)||xO pm em a (m &&& p.1)))
def Ms(left:List Nat)(m:Nat):Prop:=∀x,x∈left↔m.testBit x=true
theorem Ms.zero{left:List Nat}{m:Nat}(h:Ms left m):left=[]↔m=0:=by
 constructor
 ·intro e;subst e;refine Nat.eq_of_testBit_eq fun i=>?_;have:=h i;simp at this;simp[this]
 ·intro e;subst e;refine List.eq_nil_iff_forall_not_mem.mpr fun x hx=>?_;have:=(h x).mp hx;simp at this
structure Mk (ps:List (Nat×Nat)) (ss:List (List Int)) (es:List (List (Option Int))) (pm:List (Nat×Nat)) (em:List Nat) (ends:List (Option Int)):Prop where
 pl:pm.length=ps.length
 p1:∀(k:Nat) (p q:Nat×Nat),ps[k]?=some p->pm[k]?=some q->∀x,x<ss.length->(q.1.testBit x=decide (at2 ss x p.1=at2 ss x p.2))/\(q.2.testBit x=!decide (at2 ss x p.1=at2 ss x p.2))
 el:em.length=ends.length
 e1:∀(k:Nat) (e:Option Int) (q:Nat),ends[k]?=some e->em[k]?=some q->∀x,x<ss.length->q.testBit x=decide (e∈es.getD x [])
 en:∀x,x<ss.length->∀e∈es.getD x [],e∈ends
theorem none_of{pm:List (Nat×Nat)}{em:List Nat}{ends:List (Option Int)}(K:Mk ps ss es pm em ends):∀(a:Nat) (left:List Nat) (m:Nat),Ms left m->(∀x∈left,x<ss.length)->left≠[]->xO pm em a m=true->rK ps ss es a left=none:=by
 have noend:∀(left:List Nat) (m:Nat),Ms left m->(∀x∈left,x<ss.length)->left≠[]->(em.all fun e=>m &&& e !=m)=true->cE es left=none:=by
  intro left m hm hl h0 he;cases hc:cE es left with
  |none=>rfl
  |some y=>
   have hs:=R7 hc;obtain⟨x0,r,rfl⟩:=List.exists_cons_of_ne_nil h0;have hy:=K.en x0 (hl x0 (by simp)) y (hs x0 (by simp));obtain⟨k,hk⟩:=XH hy;have hkl:k<em.length:=by rw[K.el];exact(WL.mp hk).1
   have hq:=WP hkl;have:=Xk.mp he em[k] (Xv _);have e2:m &&& em[k]=m:=by
    refine Nat.eq_of_testBit_eq fun i=>?_;rw[Nat.testBit_and];cases hb:m.testBit i with
    |false=>rfl
    |true=>
     have hi:=(hm i).mpr hb;rw[K.e1 k y em[k] hk hq i (hl i hi)];simpa using hs i hi
   rw[e2] at this;simp at this
 intro a;induction a with
 |zero=>
  intro left m hm hl h0 h;rw[rK,noend left m hm hl h0 h];rfl
 |succ a ih=>
  intro left m hm hl h0 h;simp only[xO,Xg] at h;rw[rK,noend left m hm hl h0 h.1];show ps.findSome? _=none;rw[List.findSome?_eq_none_iff];intro p hp;rw[Do];obtain⟨k,hk⟩:=XH hp;have hkl:k<pm.length:=by rw[K.pl];exact(WL.mp hk).1
  have hq:=WP hkl;have hall:=Xk.mp h.2 pm[k] (Xv _);have hbit:=K.p1 k p pm[k] hk hq;have ma:Ms (alk ss p.1 p.2 left) (m &&& pm[k].1):=fun x=>by
   unfold alk;rw[Xh,Nat.testBit_and,Xg];constructor
   ·rintro⟨h1,h2⟩;exact⟨(hm x).mp h1,by rw[(hbit x (hl x h1)).1];exact h2⟩
   ·rintro⟨h1,h2⟩;have:=(hm x).mpr h1;exact⟨this,by rw[(hbit x (hl x this)).1] at h2;exact h2⟩
  have mu:Ms (unl ss p.1 p.2 left) (m &&& pm[k].2):=fun x=>by
   unfold unl;rw[Xh,Nat.testBit_and,Xg];constructor
   ·rintro⟨h1,h2⟩;exact⟨(hm x).mp h1,by rw[(hbit x (hl x h1)).2];exact h2⟩
   ·rintro⟨h1,h2⟩;have:=(hm x).mpr h1;exact⟨this,by rw[(hbit x (hl x this)).2] at h2;exact h2⟩
  by_cases ha:alk ss p.1 p.2 left=[]
  ·exact .inl ha
  ·by_cases hu:unl ss p.1 p.2 left=[]
   ·exact .inr (.inl hu)
   ·simp only[Bool.or_eq_true,beq_iff_eq] at hall;rcases hall with z|z|z|z
    ·exact absurd (ma.zero.mpr z) ha
    ·exact absurd (mu.zero.mpr z) hu
    ·exact .inr (.inr (.inr (ih _ _ mu (fun x hx=>hl x (Xh.mp hx).1) hu z)))
    ·exact .inr (.inr (.inl (ih _ _ ma (fun x hx=>hl x (Xh.mp hx).1) ha z)))
end
end Law
namespace L3
open PySem L2
end L3
namespace L2
open PySem PySem.Spec PyProof.Rows
end L2
namespace L3
open PySem L2
end L3
namespace L2
open PySem PySem.Spec PyProof.Rows
section
open PySem.SeqAt
open PySem.AutoSeq1 (wpAny_loadPart')
open PySem.MeetsSeq PySem.MeetsSeq2 PySem.MeetsSeq3 PySem.SeqRoads2
end
end L2
namespace L3
open PySem PySem.Spec L2
end L3
namespace Law
open PySem L2 L3 PyProof.Rows
def Vx{v v':Nat->Int}{i:Nat}(h:∀j,j<i->v j=v' j):firstMet v i=firstMet v' i:=by
 unfold firstMet;have:(List.range i).map v=(List.range i).map v':=XR fun j hj=>h j (XF.mp hj);rw[this]
def Wf(s:List Int)(x:Int):xa (s++[x])=if x∈s then xa s else xa s+1:=by
 unfold xa;rw[XA,List.length_singleton,firstMet_succ,step_length];have e:firstMet (fun i=>(s++[x]).getD i 0) s.length=firstMet (fun i=>s.getD i 0) s.length:=Vx fun j hj=>by
  simp[WS,WV hj]
 have ex:(s++[x]).getD s.length 0=x:=by simp[WS]
 rw[e,ex,firstMet_any];have em:((List.range s.length).map fun i=>s.getD i 0)=s:=by
  apply List.ext_getElem
  ·simp
  ·intro i h1 h2;simp[WS,WP h2]
 rw[em];have eb:s.any (·==x)=decide (x∈s):=by
  rw[Ye];simp[X5]
 rw[eb];by_cases h:x∈s<;>simp[h]
def Sx:Nat->Nat->List (List Int×Nat)
 |0,_=>[([],0)]
 |n+1,m=>(Sx n m).flatMap fun p=>(List.range (min (p.2+1) m)).map fun(i:Nat)=>(p.1++[(i:Int)],max p.2 (i+1))
structure Gd (n m:Nat) (p:List Int×Nat):Prop where
 len:p.1.length=n
 mem:∀x:Int,x∈p.1↔0<=x/\x<p.2
 dist:xa p.1=p.2
 le:p.2<=m
 len2:p.2<=n
 rise:∀(k:Nat) (x:Int),p.1[k]?=some x->0<=x/\x<=xa (p.1.take k)
theorem yE(m:Nat):∀(n:Nat) (p:List Int×Nat),p∈Sx n m->Gd n m p
 |0,p,h=>by
  simp[Sx] at h;subst h;exact⟨rfl,fun x=>by simp,rfl,XJ _,WJ _,fun k x e=>by simp at e⟩
 |n+1,p,h=>by
  simp only[Sx,List.mem_flatMap,Xm,XF] at h;obtain⟨q,hq,i,hi,rfl⟩:=h;have g:=yE m n q hq;have him:i<m:=by omega
  have hiu:i<=q.2:=by omega
  refine(⟨by simp[g.len],fun x=>?_,?_,?_,?_,?_⟩)
  ·simp only[Xb,Xj,g.mem];omega
  ·show xa (q.1++[(i:Int)])=max q.2 (i+1);rw[Wf,g.dist];by_cases hm:(i:Int)∈q.1
   ·rw[if_pos hm];have:=(g.mem _).mp hm;omega
   ·rw[if_neg hm];have:¬(i:Int)<q.2:=fun z=>hm ((g.mem _).mpr ⟨by omega,z⟩);omega
  ·have:=g.le;show max q.2 (i+1)<=m;omega
  ·have:=g.len2;show max q.2 (i+1)<=n+1;omega
  ·intro k x e;have e:(q.1++[(i:Int)])[k]?=some x:=e;show 0<=x/\x<=xa ((q.1++[(i:Int)]).take k);by_cases hk:k<q.1.length
   ·rw[WV hk] at e;rw[List.take_append_of_le_length (by omega)];exact g.rise k x e
   ·rw[Xn (by omega)] at e;have hz:k=q.1.length:=by
     have:=(WL.mp e).1;simp at this;omega
    subst hz;simp at e;subst e;rw[List.take_append_of_le_length (by omega),List.take_length,g.dist];omega
def Gd.used{n m:Nat}{p:List Int×Nat}(g:Gd n m p):(mxL p.1).getD (-1)+1=(p.2:Int):=by
 cases hn:mxL p.1 with
 |none=>
  have:p.1=[]:=by cases h:p.1 with
   |nil=>rfl
   |cons a r=>rw[h] at hn;cases hn
  have h0:p.2=0:=by
   rcases Nat.eq_zero_or_pos p.2 with z|z
   ·exact z
   ·have:=(g.mem 0).mpr ⟨by omega,by omega⟩;rw[‹p.1=[]›] at this;cases this
  simp[h0]
 |some M=>
  have hM:=IF hn;have h1:=(g.mem M).mp hM.1;have h2:=hM.2 ((p.2:Int) - 1) ((g.mem _).mpr ⟨by omega,by omega⟩);simp only[Option.getD_some];omega
def Wx(n:Nat){m:Nat}(h:8<=m):n<=7->Sx n m=Sx n 8:=by
 induction n with
 |zero=>intro _;rfl
 |succ n ih=>
  intro hn;rw[Sx,Sx,ih (by omega)];rw[List.flatMap_def,List.flatMap_def];congr 1;apply XR;intro p hp;have:=(yE 8 n p hp).len2;have e:min (p.2+1) m=min (p.2+1) 8:=by omega
  rw[e]
def GN:∀n<8,∀m<9,(Sx n m).length<=877:=by decide +kernel
def B4{n:Nat}(hn:n<=7)(m:Nat):(Sx n m).length<=877:=by
 by_cases h:m<9
 ·exact GN n (by omega) m h
 ·rw[Wx n (by omega) hn];exact GN n (by omega) 8 (by omega)
def uX(s:List Int)(as:List An):Bool:=as.all fun a=>decide (s.getD a.1 0=s.getD a.2.1 0)==a.2.2
def InN(n:Nat)(as:List An):Prop:=∀a∈as,a.1<n/\a.2.1<n
theorem Kt{J:Type}(f:Nat->J)(m:Nat):∀n,n<=m->∃p∈Sx n m,∀x y,x<n->y<n->(p.1.getD x 0=p.1.getD y 0↔f x=f y)
 |0,_=>⟨([],0),by simp[Sx],fun x y h=>by omega⟩
 |n+1,hn=>by
  obtain⟨p,hp,hf⟩:=Kt f m n (by omega);have g:=yE m n p hp;have hg:=g.len2;have lt_of:∀x,x<n->p.1.getD x 0∈p.1:=fun x hx=>by
   rw[WS,WP (by rw[g.len];exact hx)];exact Xv _
  obtain⟨i,hi,him⟩:∃i:Nat,i<min (p.2+1) m/\∀x,x<n->(p.1.getD x 0=(i:Int)↔f x=f n):=by
   by_cases h:∃x,x<n/\f x=f n
   ·obtain⟨x0,hx0,e0⟩:=h;have h1:=(g.mem _).mp (lt_of x0 hx0);refine⟨(p.1.getD x0 0).toNat,by have:=g.le;omega,fun x hx=>?_⟩;have e:((p.1.getD x0 0).toNat:Int)=p.1.getD x0 0:=by omega
    rw[e,←e0];exact hf x x0 hx hx0
   ·refine⟨p.2,by omega,fun x hx=>⟨fun e=>?_,fun e=>absurd ⟨x,hx,e⟩ h⟩⟩;have h1:=(g.mem _).mp (lt_of x hx);omega
  refine⟨(p.1++[(i:Int)],max p.2 (i+1)),?_,?_⟩
  ·simp only[Sx,List.mem_flatMap,Xm,XF];exact⟨p,hp,i,hi,rfl⟩
  ·have old:∀x,x<n->(p.1++[(i:Int)]).getD x 0=p.1.getD x 0:=fun x hx=>by
    simp[WS,WV (show x<p.1.length by rw[g.len];exact hx)]
   have new:(p.1++[(i:Int)]).getD n 0=(i:Int):=by
    have:n=p.1.length:=g.len.symm;simp[WS,this]
   intro x y hx hy;show(p.1++[(i:Int)]).getD x 0=(p.1++[(i:Int)]).getD y 0↔_;rcases Nat.lt_succ_iff_lt_or_eq.mp hx with hx|rfl<;>rcases Nat.lt_succ_iff_lt_or_eq.mp hy with hy|rfl
   ·rw[old x hx,old y hy];exact hf x y hx hy
   ·rw[old x hx,new];exact him x hx
   ·rw[old y hy,new];have:=him y hy;constructor
    ·intro e;exact(this.mp e.symm).symm
    ·intro e;exact(this.mpr e.symm).symm
   ·simp
def SL{n:Nat}{as:List An}(hv:InN n as)(h:sj as=true):∃p∈Sx n n,uX p.1 as=true:=by
 obtain⟨p,hp,hf⟩:=Kt (fun x=>Conn as x) n n (WJ _);have eqv:∀x y,Conn as x=Conn as y↔Conn as x y:=fun x y=>
  ⟨fun e=>by rw[e];exact .refl y,fun c=>funext fun z=>propext ⟨fun d=>c.symm.trans d,fun d=>c.trans d⟩⟩
 refine⟨p,hp,?_⟩;unfold uX;rw[Xk];intro a ha;obtain⟨h1,h2⟩:=hv a ha;have e:=(hf a.1 a.2.1 h1 h2).trans (eqv _ _);have ok:=D5 as;cases hb:a.2.2 with
 |true=>
  have hm:(a.1,a.2.1,true)∈as:=by
   have e0:(a.1,a.2.1,true)=a:=by rw[←hb]
   rw[e0];exact ha
  have:Conn as a.1 a.2.1:=Conn.one (mem_nb.mpr (.inl hm));rw[Xz (e.mpr this)];rfl
 |false=>
  have hc:=Xk.mp h a ha;rw[hb] at hc;simp at hc;have:¬Conn as a.1 a.2.1:=fun c=>hc (ok.conn c);rw[W9 (mt e.mp this)];rfl
def RF{s:List Int}{as:List An}(h:uX s as=true):sj as=true:=by
 have hall:=Xk.mp h;have con:∀x y,Conn as x y->s.getD x 0=s.getD y 0:=by
  intro x y c;induction c with
  |refl=>rfl
  |step _ e ih=>
   rw[ih];rcases mem_nb.mp e with z|z
   ·have:=hall _ z;simpa using this
   ·have:=hall _ z;simp at this;exact this.symm
 unfold sj;rw[Xk];intro a ha;have ok:=D5 as;cases hb:a.2.2 with
 |true=>simp
 |false=>
  have h1:=hall a ha;rw[hb] at h1;simp only[Bool.false_or,Bool.not_eq_true',decide_eq_false_iff_not];intro e;have c:=(ok.iff (ok.named a ha).1).mp e;rw[con _ _ c] at h1;simp at h1
def sm(n:Nat)(as:List An):List (List Int):=((Sx n n).map (·.1)).filter fun s=>uX s as
def Ao{n:Nat}{as:List An}(hv:InN n as):sm n as=[]↔sj as=false:=by
 constructor
 ·intro h;cases hc:sj as with
  |false=>rfl
  |true=>
   obtain⟨p,hp,hf⟩:=SL hv hc;have:p.1∈sm n as:=Xh.mpr ⟨List.mem_map_of_mem hp,hf⟩;rw[h] at this;cases this
 ·intro h;unfold sm;rw[XQ];intro s hs hf;rw[RF hf] at h;cases h
def ux(gs:List (Int×List Int))(k:Int)(t:Int):List (Int×List Int):=
 if(gs.any fun g=>decide (g.1=k))=true then gs.map fun g=>if g.1=k then(g.1,g.2++[t]) else g else gs++[(k,[t])]
def wX:Nat->List Int->List (Int×List Int)->List (Int×List Int)
 |_,[],gs=>gs
 |i,k::r,gs=>wX (i+1) r (ux gs k (i:Int))
def grp(s:List Int):List (Int×List Int):=wX 0 s []
end Law
namespace L3
open PySem PySem.Spec L2
def Wp{J:Type}(r:Option (J×M))(Q:J->M->Prop):Prop:=∃a L,r=some (a,L)/\Q a L
def Ws(r:Option (Out×G×M))(Q:Out->G->M->Prop):Prop:=∃o O L,r=some (o,O,L)/\Q o O L
section
variable {J β:Type} {O:G} {L:M} {ea eb:EV} {ba bb:BV} {el:LV} {sa sb:SV} {i j n m:Nat} {d x y:D} {ds:List D} {b:Bool} {g:GV} {gs:GsV} {o:Option D} {iv:IV} {lo hi:OV}
theorem Wp.imp{r:Option (J×M)}{Q R:J->M->Prop}(h:Wp r Q)(f:∀a L,Q a L->R a L):Wp r R:=let ⟨a,L,e,q⟩:=h;⟨a,L,e,f a L q⟩
theorem Ws.imp{r:Option (Out×G×M)}{Q R:Out->G->M->Prop}(h:Ws r Q)(f:∀o O L,Q o O L->R o O L):Ws r R:=let ⟨a,O,L,e,q⟩:=h;⟨a,O,L,e,f a O L q⟩
theorem wp_some{a:J}{Q:J->M->Prop}:Wp (some (a,L)) Q↔Q a L:=⟨fun⟨_,_,e,q⟩=>by cases e;exact q,fun q=>⟨_,_,rfl,q⟩⟩
theorem ws_some{out:Out}{Q:Out->G->M->Prop}:Ws (some (out,O,L)) Q↔Q out O L:=⟨fun⟨_,_,_,e,q⟩=>by cases e;exact q,fun q=>⟨_,_,_,rfl,q⟩⟩
theorem wp_bind{r:Option (J×M)}{f:J×M->Option (β×M)}{Q:β->M->Prop}:Wp (r.bind f) Q↔Wp r fun a L=>Wp (f (a,L)) Q:=by
 cases r with
 |none=>exact⟨fun⟨_,_,e,_⟩=>(by cases e),fun⟨_,_,e,_⟩=>(by cases e)⟩
 |some p=>exact⟨fun h=>⟨p.1,p.2,rfl,h⟩,fun⟨_,_,e,h⟩=>by cases e;exact h⟩
theorem ws_bind{r:Option (J×M)}{f:J×M->Option (Out×G×M)}{Q:Out->G->M->Prop}:Ws (r.bind f) Q↔Wp r fun a L=>Ws (f (a,L)) Q:=by
 cases r with
 |none=>exact⟨fun⟨_,_,_,e,_⟩=>(by cases e),fun⟨_,_,e,_⟩=>(by cases e)⟩
 |some p=>exact⟨fun h=>⟨p.1,p.2,rfl,h⟩,fun⟨_,_,e,h⟩=>by cases e;exact h⟩
theorem wss_bind{r:Option (Out×G×M)}{f:Out×G×M->Option (Out×G×M)}{Q:Out->G->M->Prop}:Ws (r.bind f) Q↔Ws r fun o O L=>Ws (f (o,O,L)) Q:=by
 cases r with
 |none=>exact⟨fun⟨_,_,_,e,_⟩=>(by cases e),fun⟨_,_,_,e,_⟩=>(by cases e)⟩
 |some p=>exact⟨fun h=>⟨p.1,p.2.1,p.2.2,rfl,h⟩,fun⟨_,_,_,e,h⟩=>by cases e;exact h⟩
theorem wps_bind{r:Option (Out×G×M)}{f:Out×G×M->Option (β×M)}{Q:β->M->Prop}:Wp (r.bind f) Q↔Ws r fun o O L=>Wp (f (o,O,L)) Q:=by
 cases r with
 |none=>exact⟨fun⟨_,_,e,_⟩=>(by cases e),fun⟨_,_,_,e,_⟩=>(by cases e)⟩
 |some p=>exact⟨fun h=>⟨p.1,p.2.1,p.2.2,rfl,h⟩,fun⟨_,_,_,e,h⟩=>by cases e;exact h⟩
theorem wpo_bind{r:Option J}{f:J->Option (β×M)}{Q:β->M->Prop}:Wp (r.bind f) Q↔∃a,r=some a/\Wp (f a) Q:=by
 cases r with
 |none=>exact⟨fun⟨_,_,e,_⟩=>(by cases e),fun⟨_,e,_⟩=>(by cases e)⟩
 |some p=>exact⟨fun h=>⟨p,rfl,h⟩,fun⟨_,e,h⟩=>by cases e;exact h⟩
theorem xL{r:Option (J×M)}{a:J}{Q:J->M->Prop}(e:r=some (a,L))(h:Q a L):Wp r Q:=⟨_,_,e,h⟩
variable {R:D->M->Prop} {RL:List D->M->Prop} {RB:Bool->M->Prop} {RG:G->M->Prop} {RI:List D×Ck->M->Prop} {RO:Option Int->M->Prop} {Q:Out->G->M->Prop}
theorem HZ:Wp (be 0 (some d::O) L) R↔R d L:=wp_some
theorem GE:Wp (be (i+1) (o::O) L) R↔Wp (be i O L) R:=Iff.rfl
theorem w_c:Wp (vC d O L) R↔R d L:=wp_some
def q1(f:D->M->Fr)(R:D->M->Prop):D->M->Prop:=fun x L=>Wp (f x L) R
theorem q1_{f:D->M->Fr}:q1 f R x L↔Wp (f x L) R:=Iff.rfl
theorem Lr{f:D->M->Fr}:Wp (v1 f ea O L) R↔Wp (ea O L) (q1 f R):=wp_bind
def q2b(f:D->D->M->Fr)(x:D)(R:D->M->Prop):D->M->Prop:=fun y L=>Wp (f x y L) R
theorem HP{f:D->D->M->Fr}:q2b f x R y L↔Wp (f x y L) R:=Iff.rfl
def q2(f:D->D->M->Fr)(eb:EV)(O:G)(R:D->M->Prop):D->M->Prop:=fun x L=>Wp (eb O L) (q2b f x R)
theorem q2_{f:D->D->M->Fr}:q2 f eb O R x L↔Wp (eb O L) (q2b f x R):=Iff.rfl
theorem Lp{f:D->D->M->Fr}:Wp (v2 f ea eb O L) R↔Wp (ea O L) (q2 f eb O R):=wp_bind.trans ⟨fun h=>h.imp fun _ _ q=>wp_bind.mp q,fun h=>h.imp fun _ _ q=>wp_bind.mpr q⟩
def qL(f:C0)(R:D->M->Prop):List D->M->Prop:=fun ds L=>Wp (f ds L) R
theorem qL_{f:C0}:qL f R ds L↔Wp (f ds L) R:=Iff.rfl
theorem LO{f:C0}:Wp (vL f el O L) R↔Wp (el O L) (qL f R):=wp_bind
theorem K2:Wp (qZ O L) RL↔RL [] L:=wp_some
def qc2(x:D)(RL:List D->M->Prop):List D->M->Prop:=fun ds L=>RL (x::ds) L
theorem JJ:qc2 x RL ds L↔RL (x::ds) L:=Iff.rfl
def qc(el:LV)(O:G)(RL:List D->M->Prop):D->M->Prop:=fun x L=>Wp (el O L) (qc2 x RL)
theorem qc_:qc el O RL x L↔Wp (el O L) (qc2 x RL):=Iff.rfl
theorem J4:Wp (qW ea el O L) RL↔Wp (ea O L) (qc el O RL):=wp_bind.trans ⟨fun h=>h.imp fun _ _ q=>(wp_bind.mp q).imp fun _ _ q=>(wp_some (Q:=RL)).mp q,fun h=>h.imp fun _ _ q=>wp_bind.mpr (q.imp fun _ _ q=>(wp_some (Q:=RL)).mpr q)⟩
def qT(RB:Bool->M->Prop):D->M->Prop:=fun d L=>∃b,d=.bl b/\RB b L
theorem qT_:qT RB (.bl b) L↔RB b L:=⟨fun⟨_,e,q⟩=>by cases e;exact q,fun q=>⟨_,rfl,q⟩⟩
theorem w_T:Wp (vT ea O L) RB↔Wp (ea O L) (qT RB):=wp_bind.trans ⟨fun h=>h.imp fun d L q=>by
  obtain⟨b,Z5,e,q⟩:=q;cases d<;>cases e
  exact⟨_,rfl,q⟩,fun h=>h.imp fun d L q=>by obtain⟨b,rfl,q⟩:=q;exact wp_some.mpr q⟩
def qTr(RB:Bool->M->Prop):D->M->Prop:=fun d L=>∃b,tru L d=some b/\RB b L
theorem KW:qTr RB (.bl b) L↔RB b L:=⟨fun⟨_,e,q⟩=>by cases e;exact q,fun q=>⟨_,rfl,q⟩⟩
theorem L7:Wp (sD ea O L) RB↔Wp (ea O L) (qTr RB):=wp_bind.trans ⟨fun h=>h.imp fun d L q=>by
  obtain⟨b,e,q⟩:=wpo_bind.mp q;exact⟨b,e,wp_some.mp q⟩,fun h=>h.imp fun d L ⟨b,e,q⟩=>wpo_bind.mpr ⟨b,e,wp_some.mpr q⟩⟩
def Ki(RB:Bool->M->Prop):Bool->M->Prop:=fun b L=>RB (!b) L
theorem MI:Ki RB b L↔RB (!b) L:=Iff.rfl
theorem Mg:Wp (tU ba O L) RB↔Wp (ba O L) (Ki RB):=wp_bind.trans ⟨fun h=>h.imp fun _ _ q=>(wp_some (Q:=RB)).mp q,fun h=>h.imp fun _ _ q=>(wp_some (Q:=RB)).mpr q⟩
def GF(bb:BV)(O:G)(RB:Bool->M->Prop):Bool->M->Prop:=fun b L=>if b=true then Wp (bb O L) RB else RB false L
theorem KF:GF bb O RB true L↔Wp (bb O L) RB:=Iff.rfl
theorem JD:GF bb O RB false L↔RB false L:=Iff.rfl
def qOr(bb:BV)(O:G)(RB:Bool->M->Prop):Bool->M->Prop:=fun b L=>if b=true then RB true L else Wp (bb O L) RB
theorem Ha:qOr bb O RB true L↔RB true L:=Iff.rfl
theorem Ib:qOr bb O RB false L↔Wp (bb O L) RB:=Iff.rfl
theorem IG:Wp (bOr ba bb O L) RB↔Wp (ba O L) (qOr bb O RB):=wp_bind.trans ⟨fun h=>h.imp fun b _ q=>by cases b;exact q;exact(wp_some (Q:=RB)).mp q,fun h=>h.imp fun b _ q=>by cases b;exact q;exact(wp_some (Q:=RB)).mpr q⟩
theorem MF:Wp (rE O L) RB↔RB true L:=wp_some
def qIf(ea eb:EV)(O:G)(R:D->M->Prop):Bool->M->Prop:=fun b L=>if b=true then Wp (ea O L) R else Wp (eb O L) R
theorem Lj:qIf ea eb O R true L↔Wp (ea O L) R:=Iff.rfl
theorem IY:qIf ea eb O R false L↔Wp (eb O L) R:=Iff.rfl
theorem JG:Wp (vIf ba ea eb O L) R↔Wp (ba O L) (qIf ea eb O R):=wp_bind.trans ⟨fun h=>h.imp fun b _ q=>by cases b<;>exact q,fun h=>h.imp fun b _ q=>by cases b<;>exact q⟩
def kVA(eb:EV)(O:G)(d:D)(L:M):Fr:=match d with
 | .bl true=>eb O L
 | .bl false=>some (.bl false,L)
 |_=>none
def qVA(eb:EV)(O:G)(R:D->M->Prop):D->M->Prop:=fun d L=>Wp (kVA eb O d L) R
theorem Hz:qVA eb O R (.bl true) L↔Wp (eb O L) R:=Iff.rfl
theorem L5:Wp (xf ea eb O L) R↔Wp (ea O L) (qVA eb O R):=wp_bind
def NN(eb:EV)(O:G)(d:D)(L:M):Fr:=match d with
 | .bl true=>some (.bl true,L)
 | .bl false=>eb O L
 |_=>none
def qVO(eb:EV)(O:G)(R:D->M->Prop):D->M->Prop:=fun d L=>Wp (NN eb O d L) R
theorem Ij:qVO eb O R (.bl false) L↔Wp (eb O L) R:=Iff.rfl
def qm2(f:D->D->M->Fr)(eb:EV)(O:G)(R:D->M->Prop):D->M->Prop:=fun x L=>(∃l,su L x=some l)/\Wp (eb O L) (q2b f x R)
theorem Hr{f:D->D->M->Fr}:Wp (wa f ea eb O L) R↔Wp (ea O L) (qm2 f eb O R):=wp_bind.trans ⟨fun h=>h.imp fun _ _ q=>by obtain⟨l,e,q⟩:=wpo_bind.mp q;exact⟨⟨l,e⟩,wp_bind.mp q⟩,fun h=>h.imp fun _ _ ⟨⟨l,e⟩,q⟩=>wpo_bind.mpr ⟨l,e,wp_bind.mpr q⟩⟩
theorem LU{f:D->D->M->Fr}{k:Nat}(h:L[k]?=some (some (.lst ds))):qm2 f eb O R (.ref k) L↔Wp (eb O L) (q2b f (.ref k) R):=⟨fun q=>q.2,fun q=>⟨⟨_,y2 h⟩,q⟩⟩
theorem Mc:Wp (uy O L) RO↔RO none L:=wp_some
def qoS(RO:Option Int->M->Prop):D->M->Prop:=fun d L=>∃k,d=.int k/\RO (some k) L
theorem Mz{k:Int}:qoS RO (.int k) L↔RO (some k) L:=⟨fun⟨_,e,q⟩=>by cases e;exact q,fun q=>⟨_,rfl,q⟩⟩
theorem LH:Wp (uO ea O L) RO↔Wp (ea O L) (qoS RO):=wp_bind.trans ⟨fun h=>h.imp fun d L q=>by
  obtain⟨b,Z5,e,q⟩:=q;cases d<;>cases e
  exact⟨_,rfl,q⟩,fun h=>h.imp fun d L q=>by obtain⟨b,rfl,q⟩:=q;exact wp_some.mpr q⟩
def qs3(x:D)(l:Option Int)(R:D->M->Prop):Option Int->M->Prop:=fun h L=>Wp (fSl x l h L) R
theorem GJ{l h:Option Int}:qs3 x l R h L↔Wp (fSl x l h L) R:=Iff.rfl
def qs2(hi:OV)(O:G)(x:D)(R:D->M->Prop):Option Int->M->Prop:=fun l L=>Wp (hi O L) (qs3 x l R)
theorem IR{l:Option Int}:qs2 hi O x R l L↔Wp (hi O L) (qs3 x l R):=Iff.rfl
def qs1(lo hi:OV)(O:G)(R:D->M->Prop):D->M->Prop:=fun x L=>Wp (lo O L) (qs2 hi O x R)
theorem FF:qs1 lo hi O R x L↔Wp (lo O L) (qs2 hi O x R):=Iff.rfl
theorem J3:Wp (vSl ea lo hi O L) R↔Wp (ea O L) (qs1 lo hi O R):=wp_bind.trans ⟨fun h=>h.imp fun _ _ q=>(wp_bind.mp q).imp fun _ _ q=>wp_bind.mp q,fun h=>h.imp fun _ _ q=>wp_bind.mpr (q.imp fun _ _ q=>wp_bind.mpr q)⟩
theorem Iw:Wp (qY i d O L) RG↔RG (O.set i (some d)) L:=wp_some
theorem Ir:Wp (si [] O L) RG↔RG O L:=wp_some
def qgc(gs:GsV)(ds:List D)(RG:G->M->Prop):G->M->Prop:=fun O L=>Wp (gs ds O L) RG
theorem IP:qgc gs ds RG O L↔Wp (gs ds O L) RG:=Iff.rfl
theorem LJ:Wp (rm g gs (d::ds) O L) RG↔Wp (g d O L) (qgc gs ds RG):=wp_bind
theorem vQ(h:ds.length=n):Wp (rT n gs (.tup ds) O L) RG↔Wp (gs ds O L) RG:=by
 show Wp (if ds.length=n then gs ds O L else none) RG↔_;rw[if_pos h]
def qSq(sb:SV)(Q:Out->G->M->Prop):Out->G->M->Prop:=fun o O L=>match o with
 | .nx=>Ws (sb O L) Q
 |o=>Q o O L
theorem Im:qSq sb Q .nx O L↔Ws (sb O L) Q:=Iff.rfl
theorem Jp:qSq sb Q (.rt d) O L↔Q (.rt d) O L:=Iff.rfl
theorem Hl:qSq sb Q .bk O L↔Q .bk O L:=Iff.rfl
theorem JQ:qSq sb Q .ct O L↔Q .ct O L:=Iff.rfl
theorem Fw:Ws (rf sa sb O L) Q↔Ws (sa O L) (qSq sb Q):=wss_bind.trans ⟨fun h=>h.imp fun o _ _ q=>by cases o<;>first|exact q|exact(ws_some (Q:=Q)).mp q,fun h=>h.imp fun o _ _ q=>by cases o<;>first|exact q|exact(ws_some (Q:=Q)).mpr q⟩
theorem ME:Ws (sNx O L) Q↔Q .nx O L:=ws_some
def qEx(O:G)(Q:Out->G->M->Prop):D->M->Prop:=fun _ L=>Q .nx O L
theorem FQ:qEx O Q d L↔Q .nx O L:=Iff.rfl
theorem LN:Ws (uv ea O L) Q↔Wp (ea O L) (qEx O Q):=ws_bind.trans ⟨fun h=>h.imp fun _ _ q=>ws_some.mp q,fun h=>h.imp fun _ _ q=>ws_some.mpr q⟩
def qRt(O:G)(Q:Out->G->M->Prop):D->M->Prop:=fun d L=>Q (.rt d) O L
theorem KL:qRt O Q d L↔Q (.rt d) O L:=Iff.rfl
theorem FU:Ws (rn ea O L) Q↔Wp (ea O L) (qRt O Q):=ws_bind.trans ⟨fun h=>h.imp fun _ _ q=>ws_some.mp q,fun h=>h.imp fun _ _ q=>ws_some.mpr q⟩
def qSI(sa sb:SV)(O:G)(Q:Out->G->M->Prop):Bool->M->Prop:=fun b L=>if b=true then Ws (sa O L) Q else Ws (sb O L) Q
theorem HA:qSI sa sb O Q true L↔Ws (sa O L) Q:=Iff.rfl
theorem JB:qSI sa sb O Q false L↔Ws (sb O L) Q:=Iff.rfl
theorem LZ:Ws (sIf ba sa sb O L) Q↔Wp (ba O L) (qSI sa sb O Q):=ws_bind.trans ⟨fun h=>h.imp fun b _ q=>by cases b<;>exact q,fun h=>h.imp fun b _ q=>by cases b<;>exact q⟩
def qNx(Q:Out->G->M->Prop):G->M->Prop:=fun O L=>Q .nx O L
theorem GA:qNx Q O L↔Q .nx O L:=Iff.rfl
def qAs(g:GV)(O:G)(Q:Out->G->M->Prop):D->M->Prop:=fun d L=>Wp (g d O L) (qNx Q)
theorem Jx:qAs g O Q d L↔Wp (g d O L) (qNx Q):=Iff.rfl
theorem Dc:Ws (rF ea g O L) Q↔Wp (ea O L) (qAs g O Q):=ws_bind.trans ⟨fun h=>h.imp fun _ _ q=>(ws_bind.mp q).imp fun _ _ q=>ws_some.mp q,fun h=>h.imp fun _ _ q=>ws_bind.mpr (q.imp fun _ _ q=>ws_some.mpr q)⟩
def qFo(g:GV)(sb:SV)(O:G)(Q:Out->G->M->Prop):List D×Ck->M->Prop:=fun s L=>Ws (sk s.2 g sb s.1 O L) Q
theorem FI{c:Ck}:qFo g sb O Q (ds,c) L↔Ws (sk c g sb ds O L) Q:=Iff.rfl
theorem HJ:Ws (tF iv g sb O L) Q↔Wp (iv O L) (qFo g sb O Q):=ws_bind
def qIL(RI:List D×Ck->M->Prop):D->M->Prop:=fun d L=>∃s,lsC L d=some s/\RI s L
theorem Hc:Wp (ivL ea O L) RI↔Wp (ea O L) (qIL RI):=wp_bind.trans ⟨fun h=>h.imp fun d L q=>by
  obtain⟨b,e,q⟩:=wpo_bind.mp q;exact⟨b,e,wp_some.mp q⟩,fun h=>h.imp fun d L ⟨b,e,q⟩=>wpo_bind.mpr ⟨b,e,wp_some.mpr q⟩⟩
theorem Hb:qIL RI (.lst ds) L↔RI (ds,none) L:=⟨fun⟨_,e,q⟩=>by cases e;exact q,fun q=>⟨_,rfl,q⟩⟩
def qIR(RI:List D×Ck->M->Prop):D->M->Prop:=fun d L=>∃k,d=.int k/\Wp (ivR (vC (.int k)) [] L) RI
theorem Gv:Wp (ivR ea O L) RI↔Wp (ea O L) (qIR RI):=by
 refine wp_bind.trans ⟨fun h=>h.imp fun d L q=>?_,fun h=>h.imp fun d L q=>?_⟩
 ·obtain⟨b,Z5,e,q⟩:=q;cases d with
  |int k=>exact⟨_,rfl,_,_,e,q⟩
  |_=>cases e
 ·obtain⟨b,rfl,q⟩:=q;exact q
theorem wA{c:Ck}(I:List D->G->M->Prop)(ds:List D)(h0:I ds O L)
  (hs:∀d r O L,I (d::r) O L->Wp (g d O L) fun ZY Z4=>Ws (sb ZY Z4) fun o ZW Z3=>match o with
   | .nx=>rJ c Z3/\I r ZW Z3
   | .ct=>rJ c Z3/\I r ZW Z3
   | .bk=>Q .nx ZW Z3
   | .rt d=>Q (.rt d) ZW Z3)
  (hq:∀O L,I [] O L->Q .nx O L):Ws (sk c g sb ds O L) Q:=by
 induction ds generalizing O L with
 |nil=>exact ws_some.mpr (hq _ _ h0)
 |cons d r ih=>
  refine ws_bind.mpr ((hs d r O L h0).imp fun ZY Z4 h=>wss_bind.mpr (h.imp fun o ZW Z3 h=>?_));cases o with
  |nx=>show Ws (chk _ _) Q;rw[ur h.1];exact ih h.2
  |ct=>show Ws (chk _ _) Q;rw[ur h.1];exact ih h.2
  |bk=>exact ws_some.mpr h
  |rt d=>exact ws_some.mpr h
theorem Ql{c:BV}(I:G->M->Prop)(f:G->M->Nat)(N:Nat)(h0:I O L)(hN:f O L<N)
  (hs:∀O L,I O L->Wp (c O L) fun b Z4=>if b=true then Ws (sb O Z4) fun o ZW Z3=>match o with
   | .nx=>I ZW Z3/\f ZW Z3<f O L
   | .ct=>I ZW Z3/\f ZW Z3<f O L
   | .bk=>Q .nx ZW Z3
   | .rt d=>Q (.rt d) ZW Z3 else Q .nx O Z4):Ws (w6 c sb N O L) Q:=by
 induction N generalizing O L with
 |zero=>omega
 |succ N ih=>
  refine ws_bind.mpr ((hs O L h0).imp fun b Z4 h=>?_);cases b with
  |false=>exact ws_some.mpr h
  |true=>
   refine wss_bind.mpr (Ws.imp h fun o ZW Z3 h=>?_);cases o with
   |nx=>exact ih (O:=ZW) (L:=Z3) h.1 (by have:=h.2;omega)
   |ct=>exact ih (O:=ZW) (L:=Z3) h.1 (by have:=h.2;omega)
   |bk=>exact ws_some.mpr h
   |rt d=>exact ws_some.mpr h
def qCo(own:List Str)(cap:List (Str×Nat))(g:GV)(tc:BV)(te:EV)(O:G)(R:D->M->Prop):List D×Ck->M->Prop:=fun s L=>s.1.length<=1000000/\Wp (sw s.2 g tc te s.1 (sh own cap O) L) fun rs L=>R (.lst rs) L
theorem v3{own:List Str}{cap:List (Str×Nat)}{c:Ck}{tc:BV}{te:EV}:qCo own cap g tc te O R (ds,c) L↔ds.length<=1000000/\Wp (sw c g tc te ds (sh own cap O) L) fun rs L=>R (.lst rs) L:=Iff.rfl
theorem Mx{own:List Str}{cap:List (Str×Nat)}{tc:BV}{te:EV}:Wp (sC own cap iv g tc te O L) R↔Wp (iv O L) (qCo own cap g tc te O R):=by
 rw[E1];cases h:iv O L with
 |none=>exact⟨fun⟨_,_,e,_⟩=>(by cases e),fun⟨_,_,e,_⟩=>(by cases e)⟩
 |some p=>
  obtain⟨⟨its,c⟩,Z4⟩:=p;rw[wp_some,Dd,v3];by_cases hl:its.length<=1000000
  ·rw[if_pos hl];cases e:sw c g tc te its (sh own cap O) Z4 with
   |none=>exact⟨fun⟨_,_,e,_⟩=>(by cases e),fun⟨_,_,_,e,_⟩=>(by cases e)⟩
   |some q=>exact⟨fun⟨_,_,e,h⟩=>by cases e;exact⟨hl,_,_,rfl,h⟩,fun⟨_,_,_,e,h⟩=>by cases e;exact⟨_,_,rfl,h⟩⟩
  ·rw[if_neg hl];exact⟨fun⟨_,_,e,_⟩=>(by cases e),fun h=>absurd h.1 hl⟩
theorem comp_inv{c:Ck}{tc:BV}{te:EV}(I:List D->List D->G->M->Prop)(ds:List D){R:List D->M->Prop}(h0:I [] ds O L)
  (hs:∀done d r O L,I done (d::r) O L->Wp (g d O L) fun ZY Z4=>Wp (tc ZY Z4) fun b Z3=>if b=true then Wp (te ZY Z3) fun x ZM=>rJ c ZM/\I (done++[x]) r ZY ZM else rJ c Z3/\I done r ZY Z3)
  (hq:∀done O L,I done [] O L->R done L):Wp (sw c g tc te ds O L) R:=by
 suffices H:∀(ds done:List D) (O:G) (L:M),I done ds O L->Wp (sw c g tc te ds O L) fun rs L=>R (done++rs) L from(H ds [] O L h0).imp fun rs L h=>h
 intro ds;induction ds with
 |nil=>intro done O L h;exact wp_some.mpr (by simpa using hq _ _ _ h)
 |cons d r ih=>
  intro done O L h;refine wp_bind.mpr ((hs done d r O L h).imp fun ZY Z4 h=>wp_bind.mpr (h.imp fun b Z3 h=>?_));cases b with
  |true=>
   refine wp_bind.mpr (Wp.imp h fun x ZM h=>?_);show Wp (chk _ _) _;rw[ur h.1];refine wp_bind.mpr ((ih (done++[x]) ZY ZM h.2).imp fun rs Zw h=>wp_some.mpr ?_);simpa using h
  |false=>
   show Wp (chk _ _) _;have h:rJ c Z3/\I done r ZY Z3:=h;rw[ur h.1];exact ih done ZY Z3 h.2
def zi(R:D->M->Prop):Out->G->M->Prop:=fun o _ L=>match o with
 | .rt d=>R d L
 | .nx=>R .non L
 |_=>False
theorem GM:zi R (.rt d) O L↔R d L:=Iff.rfl
theorem Hx:zi R .nx O L↔R .non L:=Iff.rfl
theorem sU(h:ds.length=m):Wp (rY n m sa ds L) R↔Ws (sa (ds.map some++List.replicate (n - ds.length) none) L) (zi R):=by
 unfold rY;rw[if_pos h];refine wps_bind.trans ⟨fun h=>h.imp fun o _ _ q=>?_,fun h=>h.imp fun o _ _ q=>?_⟩
 ·cases o with
  |rt d=>exact(wp_some (Q:=R)).mp q
  |nx=>exact(wp_some (Q:=R)).mp q
  |bk=>obtain⟨_,_,e,_⟩:=q;cases e
  |ct=>obtain⟨_,_,e,_⟩:=q;cases e
 ·cases o with
  |rt d=>exact(wp_some (Q:=R)).mpr q
  |nx=>exact(wp_some (Q:=R)).mpr q
  |bk=>exact absurd q id
  |ct=>exact absurd q id
theorem Dq{k:Nat}(h:k<=1000000000):qIR RI (.int (k:Int)) L↔RI (rS 0 k,none) L:=by
 have e:ivR (vC (.int (k:Int))) [] L=some ((rS 0 k,none),L):=by
  show(if -1000000000<=(k:Int)/\(k:Int)<=1000000000 then some ((rS 0 ((k:Int).toNat),(none:Ck)),L) else none)=_;rw[if_pos (by omega)];rfl
 constructor
 ·rintro⟨_,e',q⟩;cases e';rw[e] at q;exact wp_some.mp q
 ·intro q;exact⟨_,rfl,by rw[e];exact wp_some.mpr q⟩
theorem Gx{k m:Nat}(h:k<m):(rS 0 m).drop k=.int (k:Int)::(rS 0 m).drop (k+1):=by
 have hl:(rS 0 m).length=m:=by simp[rS]
 rw[Xq (by omega)];congr 1;simp[rS]
theorem EJ(I:Nat->G->M->Prop){m:Nat}(h0:I 0 O L)
  (hs:∀k O L,k<m->I k O L->Wp (g (.int (k:Int)) O L) fun ZY Z4=>Ws (sb ZY Z4) fun o ZW Z3=>match o with
   | .nx=>I (k+1) ZW Z3
   | .ct=>I (k+1) ZW Z3
   | .bk=>Q .nx ZW Z3
   | .rt d=>Q (.rt d) ZW Z3)
  (hq:∀O L,I m O L->Q .nx O L):Ws (sk none g sb (rS 0 m) O L) Q:=by
 have hl:(rS 0 m).length=m:=by simp[rS]
 refine wA (fun r O L=>∃k,k<=m/\r=(rS 0 m).drop k/\I k O L) _ ⟨0,by omega,rfl,h0⟩ ?_ ?_
 ·rintro d r O L ⟨k,hk,e,h⟩;have hk':k<m:=by
   rcases Nat.lt_or_ge k m with z|z
   ·exact z
   ·rw[XB (by omega)] at e;cases e
  rw[Gx hk'] at e;cases e;refine(hs k O L hk' h).imp fun ZY Z4 h=>h.imp fun o ZW Z3 h=>?_;cases o with
  |nx=>exact⟨trivial,k+1,hk',rfl,h⟩
  |ct=>exact⟨trivial,k+1,hk',rfl,h⟩
  |bk=>exact h
  |rt d=>exact h
 ·rintro O L ⟨k,hk,e,h⟩;have:k=m:=by
   rcases Nat.lt_or_ge k m with z|z
   ·rw[Gx z] at e;cases e
   ·omega
  subst this;exact hq _ _ h
theorem Kz{i j:Int}:rP (.int i) (.int j) L=some (.int (i+j),L):=rfl
theorem Ja{i j:Int}:wu (.int i) (.int j) L=some (.int (i - j),L):=rfl
theorem HG{i j:Int}:fGt (.int i) (.int j) L=some (.bl (decide (j<i)),L):=rfl
theorem Lz{i j:Int}:fLt (.int i) (.int j) L=some (.bl (decide (i<j)),L):=rfl
theorem IN{i j:Int}:fGe (.int i) (.int j) L=some (.bl (decide (j<=i)),L):=rfl
theorem Ml{i j:Int}:fLe (.int i) (.int j) L=some (.bl (decide (i<=j)),L):=rfl
theorem GL{i j:Int}:fEq (.int i) (.int j) L=some (.bl (decide (i=j)),L):=by unfold fEq;rw[GK];rfl
theorem FO{i j:Int}:fNe (.int i) (.int j) L=some (.bl (!decide (i=j)),L):=by unfold fNe;rw[GK];rfl
theorem LK{i j:Int}:zn (.int i) (.int j) L=some (.int (if j<i then j else i),L):=rfl
theorem HC{i j:Int}:En (.int i) (.int j) L=some (.int (if j>i then j else i),L):=rfl
theorem Jt{i:Int}:wL (.int i) L=some (.int (-i),L):=rfl
theorem Ks{b:Bool}:yV (.bl b) L=some (.bl (!b),L):=rfl
theorem LA{b:Bool}:zD (.bl b) L=some (.int (if b=true then 1 else 0),L):=NP
theorem sN(h:ds.length<=1000):rX ds L=some (.tup ds,L):=if_pos h
theorem vh(h:ds.length<=1000):sG ds L=some (.lst ds,L):=if_pos h
theorem L4(h:ds.length<=1000):uB ds L=some (.ref L.length,L++[some (.lst ds)]):=if_pos h
end
section
variable {O:G} {L:M} {ea eo ei ev:EV} {el:LV} {k n:Nat} {d x y:D} {ds:List D} {o:Option D} {C:Addr} {f m:Str} {fs:List (Str×D)} {g:C0}
variable {R:D->M->Prop} {RI:List D×Ck->M->Prop} {Q:Out->G->M->Prop}
def qIT(RI:List D×Ck->M->Prop):D->M->Prop:=fun d L=>∃s,vg d=some s/\RI (s,none) L
theorem Gh:Wp (ivT ea O L) RI↔Wp (ea O L) (qIT RI):=wp_bind.trans ⟨fun h=>h.imp fun d L q=>by
  obtain⟨b,e,q⟩:=wpo_bind.mp q;exact⟨b,e,wp_some.mp q⟩,fun h=>h.imp fun d L ⟨b,e,q⟩=>wpo_bind.mpr ⟨b,e,wp_some.mpr q⟩⟩
theorem Lq:qIT RI (.tup ds) L↔RI (ds,none) L:=⟨fun⟨_,e,q⟩=>by cases e;exact q,fun q=>⟨_,rfl,q⟩⟩
theorem B5(h:L[k]?=some (some (.ins C fs)))(hf:fs.lookup f=some d):tO C f (.ref k) L=some (d,L):=by
 unfold tO;simp only[h,if_true,hf];rfl
def MK(g:C0)(d:D)(R:D->M->Prop):List D->M->Prop:=fun ds L=>Wp (g (d::ds) L) R
theorem MR:MK g d R ds L↔Wp (g (d::ds) L) R:=Iff.rfl
def qMe(C:Addr)(m:Str)(g:C0)(el:LV)(O:G)(R:D->M->Prop):D->M->Prop:=fun d L=>Wp (if noM L C m d=true then(el O L).bind fun q=>g (d::q.1) q.2 else none) R
theorem Kd:Wp (vW C m g eo el O L) R↔Wp (eo O L) (qMe C m g el O R):=wp_bind
theorem yL(h:L[k]?=some (some (.ins C fs)))(hf:fs.lookup m=none):qMe C m g el O R (.ref k) L↔Wp (el O L) (MK g (.ref k) R):=by
 have e:noM L C m (.ref k)=true:=by simp[noM,h,hf]
 unfold qMe;rw[if_pos e];exact wp_bind
def qMk(C:Addr)(g:C0)(R:D->M->Prop):List D->M->Prop:=fun ds L=>Wp (g (.ref L.length::ds) (L++[some (.ins C [])])) fun d Z5=>d=.non/\R (.ref L.length) Z5
theorem Wz:qMk C g R ds L↔Wp (g (.ref L.length::ds) (L++[some (.ins C [])])) fun d Z5=>d=.non/\R (.ref L.length) Z5:=Iff.rfl
theorem Vh(h:Wp (el O L) (qMk C g R)):Wp (Bs C g el O L) R:=wp_bind.mpr (h.imp fun ds L q=>wp_bind.mpr (q.imp fun d Z5 ⟨e,q⟩=>by subst e;exact wp_some.mpr q))
def qF2(C:Addr)(f:Str)(x:D)(O:G)(Q:Out->G->M->Prop):D->M->Prop:=fun d L=>Ws (match d with
 | .ref k=>match L[k]? with
  |some (some (.ins C' fs))=>if C'=C/\fs.length<1000 then some (.nx,O,L.set k (some (.ins C (sY f x fs)))) else none
  |_=>none
 |_=>none) Q
def qF1(C:Addr)(f:Str)(eo:EV)(O:G)(Q:Out->G->M->Prop):D->M->Prop:=fun x L=>Wp (eo O L) (qF2 C f x O Q)
theorem JY:qF1 C f eo O Q x L↔Wp (eo O L) (qF2 C f x O Q):=Iff.rfl
theorem Ie:Ws (yF C f eo ev O L) Q↔Wp (ev O L) (qF1 C f eo O Q):=ws_bind.trans ⟨fun h=>h.imp fun _ _ q=>ws_bind.mp q,fun h=>h.imp fun _ _ q=>ws_bind.mpr q⟩
theorem B2(h:L[k]?=some (some (.ins C fs)))(hl:fs.length<1000):qF2 C f x O Q (.ref k) L↔Q .nx O (L.set k (some (.ins C (sY f x fs)))):=by
 unfold qF2;simp only[h,hl,and_self,if_true];exact ws_some
def qN3(v o:D)(O:G)(Q:Out->G->M->Prop):D->M->Prop:=fun y L=>Ws ((wB y).bind fun k=>(wc L o).bind fun kvs=>match o with
 | .ref n=>if kvs.length<16000000 then some (.nx,O,L.set n (some (.dN (uJ kvs k v)))) else none
 |_=>none) Q
def qN2(ei:EV)(v:D)(O:G)(Q:Out->G->M->Prop):D->M->Prop:=fun o L=>Wp (ei O L) (qN3 v o O Q)
theorem HF:qN2 ei x O Q d L↔Wp (ei O L) (qN3 x d O Q):=Iff.rfl
def qN1(eo ei:EV)(O:G)(Q:Out->G->M->Prop):D->M->Prop:=fun v L=>Wp (eo O L) (qN2 ei v O Q)
theorem I0:qN1 eo ei O Q x L↔Wp (eo O L) (qN2 ei x O Q):=Iff.rfl
theorem HX:Ws (Dh eo ei ev O L) Q↔Wp (ev O L) (qN1 eo ei O Q):=ws_bind.trans ⟨fun h=>h.imp fun _ _ q=>(ws_bind.mp q).imp fun _ _ q=>ws_bind.mp q,fun h=>h.imp fun _ _ q=>ws_bind.mpr (q.imp fun _ _ q=>ws_bind.mpr q)⟩
theorem CZ{kvs:List (NK×D)}(h:L[k]?=some (some (.dN kvs))):wc L (.ref k)=some kvs:=by simp only[wc,h]
theorem C3{ns:List Int}{i:Int}:wB (.tup [.tup (ns.map D.int),.int i])=some (ns,i):=by
 have:sB inI (ns.map D.int)=some ns:=by
  have:=xp (f:=inI) (g:=D.int) (h:=id) (l:=ns) (fun x _=>rfl);simpa using this
 simp only[wB,this];rfl
theorem Pl{kvs:List (NK×D)}{ns:List Int}{i:Int}(h:L[k]?=some (some (.dN kvs)))(hl:kvs.length<16000000):qN3 x (.ref k) O Q (.tup [.tup (ns.map D.int),.int i]) L↔Q .nx O (L.set k (some (.dN (uJ kvs (ns,i) x)))):=by
 unfold qN3;rw[C3,CZ h];simp only[Option.bind_some,hl,if_true];exact ws_some
theorem Pt{kvs:List (NK×D)}{ns:List Int}{i:Int}(h:L[k]?=some (some (.dN kvs))):zY true (.tup [.tup (ns.map D.int),.int i]) (.ref k) L=some (.bl (!(sI kvs (ns,i)).isSome),L):=by
 unfold zY;rw[C3,CZ h];simp
theorem DB{kvs:List (NK×D)}{ns:List Int}{i:Int}(h:L[k]?=some (some (.dN kvs)))(hv:sI kvs (ns,i)=some d):BE (.ref k) (.tup [.tup (ns.map D.int),.int i]) L=some (d,L):=by
 unfold BE;rw[C3,CZ h];simp[hv]
theorem OO{kvs:List (NK×D)}{k:NK}{d:D}(h:sI kvs k=none):sI (uJ kvs k d) k=some d/\(uJ kvs k d)=kvs++[(k,d)]:=by
 have hn:∀p∈kvs,p.1≠k:=fun p hp e=>by
  have:(kvs.find? fun kv=>decide (kv.1=k))=none:=by
   unfold sI at h;cases q:kvs.find? fun kv=>decide (kv.1=k) with
   |none=>rfl
   |some z=>rw[q] at h;cases h
  have:=XU.mp this p hp;simp[e] at this
 have ha:(kvs.any fun kv=>decide (kv.1=k))=false:=by
  rw[List.any_eq_false];intro p hp;simpa using hn p hp
 have e:uJ kvs k d=kvs++[(k,d)]:=by unfold uJ;rw[ha];rfl
 refine⟨?_,e⟩;rw[e];unfold sI;rw[List.find?_append];have:(kvs.find? fun kv=>decide (kv.1=k))=none:=XU.mpr fun p hp=>by simpa using hn p hp
 rw[this];simp
theorem Fi{kvs:List (NK×D)}{k:NK}{d:D}(h:sI kvs k=some d):(k,d)∈kvs:=by
 unfold sI at h;cases q:kvs.find? fun kv=>decide (kv.1=k) with
 |none=>rw[q] at h;cases h
 |some z=>
  rw[q] at h;cases h;have h1:=List.mem_of_find?_eq_some q;have h2:=List.find?_some q;simp at h2;rw[←h2];exact h1
end
def Wt(r:Option (OutX×G×M))(Q:OutX->G->M->Prop):Prop:=∃o O L,r=some (o,O,L)/\Q o O L
section
variable {J β:Type} {O:G} {L:M} {ex:EX} {bx:BX} {bv:BV} {el:LV} {lx:LX} {sx sy:SX} {sv:SV} {C:Addr} {d:D} {ds:List D} {b:Bool} {g:GV} {f:FX} {n m:Nat}
variable {R:Rs D->M->Prop} {RB:Rs Bool->M->Prop} {RL:Rs (List D)->M->Prop} {Q:OutX->G->M->Prop}
theorem Wt.imp{r:Option (OutX×G×M)}{Q R:OutX->G->M->Prop}(h:Wt r Q)(f:∀o O L,Q o O L->R o O L):Wt r R:=let ⟨a,O,L,e,q⟩:=h;⟨a,O,L,e,f a O L q⟩
theorem wt_some{o:OutX}:Wt (some (o,O,L)) Q↔Q o O L:=⟨fun⟨_,_,_,e,q⟩=>by cases e;exact q,fun q=>⟨_,_,_,rfl,q⟩⟩
theorem wtp_bind{r:Option (J×M)}{f:J×M->Option (OutX×G×M)}:Wt (r.bind f) Q↔Wp r fun a L=>Wt (f (a,L)) Q:=by
 cases r with
 |none=>exact⟨fun⟨_,_,_,e,_⟩=>(by cases e),fun⟨_,_,e,_⟩=>(by cases e)⟩
 |some p=>exact⟨fun h=>⟨p.1,p.2,rfl,h⟩,fun⟨_,_,e,h⟩=>by cases e;exact h⟩
theorem wtt_bind{r:Option (OutX×G×M)}{f:OutX×G×M->Option (OutX×G×M)}:Wt (r.bind f) Q↔Wt r fun o O L=>Wt (f (o,O,L)) Q:=by
 cases r with
 |none=>exact⟨fun⟨_,_,_,e,_⟩=>(by cases e),fun⟨_,_,_,e,_⟩=>(by cases e)⟩
 |some p=>exact⟨fun h=>⟨p.1,p.2.1,p.2.2,rfl,h⟩,fun⟨_,_,_,e,h⟩=>by cases e;exact h⟩
theorem wts_bind{r:Option (Out×G×M)}{f:Out×G×M->Option (OutX×G×M)}:Wt (r.bind f) Q↔Ws r fun o O L=>Wt (f (o,O,L)) Q:=by
 cases r with
 |none=>exact⟨fun⟨_,_,_,e,_⟩=>(by cases e),fun⟨_,_,_,e,_⟩=>(by cases e)⟩
 |some p=>exact⟨fun h=>⟨p.1,p.2.1,p.2.2,rfl,h⟩,fun⟨_,_,_,e,h⟩=>by cases e;exact h⟩
theorem wpt_bind{r:Option (OutX×G×M)}{f:OutX×G×M->Option (β×M)}{R:β->M->Prop}:Wp (r.bind f) R↔Wt r fun o O L=>Wp (f (o,O,L)) R:=by
 cases r with
 |none=>exact⟨fun⟨_,_,e,_⟩=>(by cases e),fun⟨_,_,_,e,_⟩=>(by cases e)⟩
 |some p=>exact⟨fun h=>⟨p.1,p.2.1,p.2.2,rfl,h⟩,fun⟨_,_,_,e,h⟩=>by cases e;exact h⟩
def qUp(R:Rs J->M->Prop):J->M->Prop:=fun a L=>R (.ok a) L
theorem JU{a:J}{R:Rs J->M->Prop}:qUp R a L↔R (.ok a) L:=Iff.rfl
theorem Mm:Wp (upB bv O L) RB↔Wp (bv O L) (qUp RB):=wp_bind.trans ⟨fun h=>h.imp fun _ _ q=>(wp_some (Q:=RB)).mp q,fun h=>h.imp fun _ _ q=>(wp_some (Q:=RB)).mpr q⟩
theorem Mq:Wp (upL el O L) RL↔Wp (el O L) (qUp RL):=wp_bind.trans ⟨fun h=>h.imp fun _ _ q=>(wp_some (Q:=RL)).mp q,fun h=>h.imp fun _ _ q=>(wp_some (Q:=RL)).mpr q⟩
def qUS(Q:OutX->G->M->Prop):Out->G->M->Prop:=fun o O L=>Q (upO o) O L
theorem Il:qUS Q .nx O L↔Q .nx O L:=Iff.rfl
theorem GP:qUS Q (.rt d) O L↔Q (.rt d) O L:=Iff.rfl
theorem HH:Wt (upS sv O L) Q↔Ws (sv O L) (qUS Q):=wts_bind.trans ⟨fun h=>h.imp fun _ _ _ q=>(wt_some (Q:=Q)).mp q,fun h=>h.imp fun _ _ _ q=>(wt_some (Q:=Q)).mpr q⟩
def qLX(f:FX)(R:Rs D->M->Prop):Rs (List D)->M->Prop:=fun r L=>match r with
 | .ok ds=>Wp (f ds L) R
 | .ex C=>R (.ex C) L
theorem Gq:qLX f R (.ok ds) L↔Wp (f ds L) R:=Iff.rfl
theorem Gm:qLX f R (.ex C) L↔R (.ex C) L:=Iff.rfl
theorem Lu:Wp (vLX f lx O L) R↔Wp (lx O L) (qLX f R):=wp_bind.trans ⟨fun h=>h.imp fun r _ q=>by cases r;exact q;exact(wp_some (Q:=R)).mp q,fun h=>h.imp fun r _ q=>by cases r;exact q;exact(wp_some (Q:=R)).mpr q⟩
def BN(d:D)(RL:Rs (List D)->M->Prop):Rs (List D)->M->Prop:=fun r L=>match r with
 | .ok ds=>RL (.ok (d::ds)) L
 | .ex C=>RL (.ex C) L
theorem HK:BN d RL (.ok ds) L↔RL (.ok (d::ds)) L:=Iff.rfl
theorem Ip:BN d RL (.ex C) L↔RL (.ex C) L:=Iff.rfl
def qcX(lx:LX)(O:G)(RL:Rs (List D)->M->Prop):Rs D->M->Prop:=fun r L=>match r with
 | .ok d=>Wp (lx O L) (BN d RL)
 | .ex C=>RL (.ex C) L
theorem Ho:qcX lx O RL (.ok d) L↔Wp (lx O L) (BN d RL):=Iff.rfl
theorem J9:qcX lx O RL (.ex C) L↔RL (.ex C) L:=Iff.rfl
def qNX(RB:Rs Bool->M->Prop):Rs Bool->M->Prop:=fun r L=>match r with
 | .ok b=>RB (.ok (!b)) L
 | .ex C=>RB (.ex C) L
theorem Ln:qNX RB (.ok b) L↔RB (.ok (!b)) L:=Iff.rfl
theorem K3:qNX RB (.ex C) L↔RB (.ex C) L:=Iff.rfl
def qTX(RB:Rs Bool->M->Prop):Rs D->M->Prop:=fun r L=>match r with
 | .ok d=>∃b,d=.bl b/\RB (.ok b) L
 | .ex C=>RB (.ex C) L
theorem G4:qTX RB (.ex C) L↔RB (.ex C) L:=Iff.rfl
def A2(sy:SX)(Q:OutX->G->M->Prop):OutX->G->M->Prop:=fun o O L=>match o with
 | .nx=>Wt (sy O L) Q
 |o=>Q o O L
theorem FS:A2 sy Q .nx O L↔Wt (sy O L) Q:=Iff.rfl
theorem FK:A2 sy Q (.rt d) O L↔Q (.rt d) O L:=Iff.rfl
theorem Hn:A2 sy Q (.ex C) O L↔Q (.ex C) O L:=Iff.rfl
theorem JO:Wt (sX sx sy O L) Q↔Wt (sx O L) (A2 sy Q):=wtt_bind.trans ⟨fun h=>h.imp fun o _ _ q=>by cases o<;>first|exact q|exact(wt_some (Q:=Q)).mp q,fun h=>h.imp fun o _ _ q=>by cases o<;>first|exact q|exact(wt_some (Q:=Q)).mpr q⟩
def qEX(O:G)(Q:OutX->G->M->Prop):Rs D->M->Prop:=fun r L=>match r with
 | .ok _=>Q .nx O L
 | .ex C=>Q (.ex C) O L
theorem MD:qEX O Q (.ok d) L↔Q .nx O L:=Iff.rfl
theorem HY:qEX O Q (.ex C) L↔Q (.ex C) O L:=Iff.rfl
theorem LI:Wt (xA ex O L) Q↔Wp (ex O L) (qEX O Q):=wtp_bind.trans ⟨fun h=>h.imp fun r _ q=>by cases r<;>exact(wt_some (Q:=Q)).mp q,fun h=>h.imp fun r _ q=>by cases r<;>exact(wt_some (Q:=Q)).mpr q⟩
def qRX(O:G)(Q:OutX->G->M->Prop):Rs D->M->Prop:=fun r L=>match r with
 | .ok d=>Q (.rt d) O L
 | .ex C=>Q (.ex C) O L
theorem JK:qRX O Q (.ok d) L↔Q (.rt d) O L:=Iff.rfl
theorem Mi:qRX O Q (.ex C) L↔Q (.ex C) O L:=Iff.rfl
theorem Hm:Wt (wR ex O L) Q↔Wp (ex O L) (qRX O Q):=wtp_bind.trans ⟨fun h=>h.imp fun r _ q=>by cases r<;>exact(wt_some (Q:=Q)).mp q,fun h=>h.imp fun r _ q=>by cases r<;>exact(wt_some (Q:=Q)).mpr q⟩
def qIX(sx sy:SX)(O:G)(Q:OutX->G->M->Prop):Rs Bool->M->Prop:=fun r L=>match r with
 | .ok c=>if c=true then Wt (sx O L) Q else Wt (sy O L) Q
 | .ex C=>Q (.ex C) O L
theorem IH:qIX sx sy O Q (.ok true) L↔Wt (sx O L) Q:=Iff.rfl
theorem Js:qIX sx sy O Q (.ok false) L↔Wt (sy O L) Q:=Iff.rfl
theorem Gg:qIX sx sy O Q (.ex C) L↔Q (.ex C) O L:=Iff.rfl
theorem K7:Wt (ut bx sx sy O L) Q↔Wp (bx O L) (qIX sx sy O Q):=wtp_bind.trans ⟨fun h=>h.imp fun r _ q=>by
  cases r with
  |ok c=>cases c<;>exact q
  |ex C=>exact(wt_some (Q:=Q)).mp q,fun h=>h.imp fun r _ q=>by
  cases r with
  |ok c=>cases c<;>exact q
  |ex C=>exact(wt_some (Q:=Q)).mpr q⟩
def Ct(Q:OutX->G->M->Prop):G->M->Prop:=fun O L=>Q .nx O L
theorem ML:Ct Q O L↔Q .nx O L:=Iff.rfl
def qAX(g:GV)(O:G)(Q:OutX->G->M->Prop):Rs D->M->Prop:=fun r L=>match r with
 | .ok d=>Wp (g d O L) (Ct Q)
 | .ex C=>Q (.ex C) O L
theorem Me:qAX g O Q (.ok d) L↔Wp (g d O L) (Ct Q):=Iff.rfl
theorem GR:qAX g O Q (.ex C) L↔Q (.ex C) O L:=Iff.rfl
theorem Lk:Wt (Dk ex g O L) Q↔Wp (ex O L) (qAX g O Q):=by
 refine wtp_bind.trans ⟨fun h=>h.imp fun r L q=>?_,fun h=>h.imp fun r L q=>?_⟩
 ·cases r with
  |ok d=>exact(wtp_bind.mp q).imp fun _ _ q=>(wt_some (Q:=Q)).mp q
  |ex C=>exact(wt_some (Q:=Q)).mp q
 ·cases r with
  |ok d=>exact wtp_bind.mpr (Wp.imp q fun _ _ q=>(wt_some (Q:=Q)).mpr q)
  |ex C=>exact(wt_some (Q:=Q)).mpr q
def A8(R:Rs D->M->Prop):OutX->G->M->Prop:=fun o _ L=>match o with
 | .rt d=>R (.ok d) L
 | .nx=>R (.ok .non) L
 | .ex C=>R (.ex C) L
 |_=>False
theorem K8:A8 R (.rt d) O L↔R (.ok d) L:=Iff.rfl
theorem HU:A8 R .nx O L↔R (.ok .non) L:=Iff.rfl
theorem Jz:A8 R (.ex C) O L↔R (.ex C) L:=Iff.rfl
theorem By(h:ds.length=m):Wp (tK n m sx ds L) R↔Wt (sx (ds.map some++List.replicate (n - ds.length) none) L) (A8 R):=by
 unfold tK;rw[if_pos h];refine wpt_bind.trans ⟨fun h=>h.imp fun o _ _ q=>?_,fun h=>h.imp fun o _ _ q=>?_⟩
 ·cases o with
  |rt d=>exact(wp_some (Q:=R)).mp q
  |nx=>exact(wp_some (Q:=R)).mp q
  |ex C=>exact(wp_some (Q:=R)).mp q
  |bk=>obtain⟨_,_,e,_⟩:=q;cases e
  |ct=>obtain⟨_,_,e,_⟩:=q;cases e
 ·cases o with
  |rt d=>exact(wp_some (Q:=R)).mpr q
  |nx=>exact(wp_some (Q:=R)).mpr q
  |ex C=>exact(wp_some (Q:=R)).mpr q
  |bk=>exact absurd q id
  |ct=>exact absurd q id
theorem zR{R:D->M->Prop}(h:Wp (f ds L) fun r L=>∃d,r=.ok d/\R d L):Wp (dn f ds L) R:=by
 obtain⟨_,Z5,e,d,rfl,q⟩:=h;unfold dn;rw[e];exact wp_some.mpr q
theorem forX_inv{c:Ck}(I:List D->G->M->Prop)(ds:List D)(h0:I ds O L)
  (hs:∀d r O L,I (d::r) O L->Wp (g d O L) fun ZY Z4=>Wt (sx ZY Z4) fun o ZW Z3=>match o with
   | .nx=>rJ c Z3/\I r ZW Z3
   | .ct=>rJ c Z3/\I r ZW Z3
   | .bk=>Q .nx ZW Z3
   | .rt d=>Q (.rt d) ZW Z3
   | .ex C=>Q (.ex C) ZW Z3)
  (hq:∀O L,I [] O L->Q .nx O L):Wt (vZ c g sx ds O L) Q:=by
 induction ds generalizing O L with
 |nil=>exact wt_some.mpr (hq _ _ h0)
 |cons d r ih=>
  refine wtp_bind.mpr ((hs d r O L h0).imp fun ZY Z4 h=>wtt_bind.mpr (h.imp fun o ZW Z3 h=>?_));cases o with
  |nx=>show Wt (chk _ _) Q;rw[ur h.1];exact ih h.2
  |ct=>show Wt (chk _ _) Q;rw[ur h.1];exact ih h.2
  |bk=>exact wt_some.mpr h
  |rt d=>exact wt_some.mpr h
  |ex C=>exact wt_some.mpr h
def qFX(g:GV)(sx:SX)(O:G)(Q:OutX->G->M->Prop):List D×Ck->M->Prop:=fun s L=>Wt (vZ s.2 g sx s.1 O L) Q
theorem MP{c:Ck}:qFX g sx O Q (ds,c) L↔Wt (vZ c g sx ds O L) Q:=Iff.rfl
end
end L3
namespace L2
open PySem PySem.Spec PyProof.Rows
section
variable {X:Cx}
theorem TN:OpR X (compareOp .IsNot) (fun x y H Q=>∃i j,x=.bl i/\y=.bl j/\Q (.bl (!decide (i=j))) H):=by
 intro pins s B H x y v u Q I rx ry h;obtain⟨i,j,rfl,rfl,q⟩:=h;cases rx;cases ry;exact wpAny_isNot_plain rfl (DT I q (by cases i<;>cases j<;>rfl))
end
end L2
namespace L3
open PySem L2
section
variable {X:Cx} {K:Frag} {a b:Expr} {ea eb:EV} {pos:Pos}
def fIsB(x y:D)(L:M):Fr:=match x,y with
 | .bl i,.bl j=>some (.bl (decide (i=j)),L)
 |_,_=>none
def zm(x y:D)(L:M):Fr:=match x,y with
 | .bl i,.bl j=>some (.bl (!decide (i=j)),L)
 |_,_=>none
theorem Qe:R2A K (fun x y H Q=>∃i j,x=.bl i/\y=.bl j/\Q (.bl (!decide (i=j))) H) zm:=by
 intro W x y d e z Z5 Q ok r1 r2 hf q;unfold zm at hf;split at hf
 ·cases hf;cases r1;cases r2;exact⟨_,_,rfl,rfl,q _ W rfl ok .refl (.bl _)⟩
 ·cases hf
theorem R9(ha:PE X a (tD K ea))(hb:PE X b (tD K eb)):PT X (.Compare a [.IsNot] [b] pos) (tDB K (vT (v2 zm ea eb))):=xv TN Qe ha hb (wl _)
end
end L3
namespace Law
open PySem L2 L3
def top(i:Nat):Stmt:=PySem.Challenge.pw_morethanhalf_k30_whole_papers_cut.main.body.getD i (.Pass ⟨0,0,0,0⟩)
section
variable {P:Program} {w:World} {K:Frag} {mg:Str->Option Value} {base:Heap} {f:Addr} {fd:FuncData}
theorem AA:FnScope ["kinds","by_kind","thing","kind"] ["kinds"] (rh (top 7)):=⟨rfl,rfl,rfl,by decide +kernel,rfl,by decide +kernel,by decide +kernel⟩
def FA:SV:=
  (rf (rF z6 (qY 1))
  (rf (tF (Ft (be 0)) (rT 2 (rm (qY 2) (rm (qY 3) si)))
   (uv (wa uL (uK (be 1) (be 3) (vL uB qZ)) (be 2))))
  (rn (v1 AJ (be 1)))))
def wJ:C0:=rY 4 1 (FA)
theorem U6{k:Nat}(F:Fun K "alike_things" "alike_things" (top 7) f fd) (E5:mg "enumerate"=none) (yR:mg "list"=none):FnOk P w K mg base CX0 (k+1) f fd ["kinds"] (spM K (wJ)):=by
 unfold wJ FA;exact sq F AA fun cdv A outer s H E hr=>
  (rl (sf (i:=1) AA.nd rfl (Or.inl rfl) Ly)
  (rl (t8 Xl rfl (QW E5 (qV 0)) (tY (n:=2) (rZ (rD (i:=2) AA.nd rfl (Or.inl rfl)) (rZ (rD (i:=3) AA.nd rfl (Or.inl rfl)) tS)))
   (rk (xI (CD (DE (qV 1) (qV 3) (AC rg)) (qV 2)))))
  (rk (rB (Qa yR (qV 1))))))
theorem Ko:FnScope ["kinds","things"] ["kinds"] (rh (top 8)):=⟨rfl,rfl,rfl,by decide +kernel,rfl,by decide +kernel,by decide +kernel⟩
def A4(yu:C0):SV:=
  (rf (tF (ivL (vL yu (qW (be 0) qZ))) (qY 1)
   (sIf (vT (v2 fGt (v2 vB (vC (.int 2)) (v1 sg (be 1))) (v1 sg (be 0))))
    (rn (be 1))
    sNx))
  (rn (vL sG qZ)))
def Ax(yu:C0):C0:=rY 2 1 (A4 yu)
theorem Ng{yu:C0}{Iq k:Nat}(F:Fun K "more_than_half" "more_than_half" (top 8) f fd) (Fk:Df P w K mg base Iq "alike_things" ["kinds"] (spM K yu)) (UH:Iq<=k) (sL:mg "len"=none):FnOk P w K mg base CX0 (k+1) f fd ["kinds"] (spM K (Ax yu)):=by
 unfold Ax A4;exact sq F Ko fun cdv A outer s H E hr=>
  (rl (t8 Xl rfl (tR (rM Fk (hr.mono UH) (qX (qV 0) rg))) (rD (i:=1) Ko.nd rfl (Or.inl rfl))
   (rk (sr (Cf (EY rz (vO sL (qV 1))) (vO sL (qV 0)))
    (rk (rB (qV 1)))
    so)))
  (rk (rB (uj rg))))
theorem FM:FnScope ["sort","most","used"] ["sort","most"] (rh (top 9)):=⟨rfl,rfl,rfl,by decide +kernel,rfl,by decide +kernel,by decide +kernel⟩
theorem Wo:((["number"]:List Str)++([("sort",0)]:List (Str×Nat)).map (·.1)).Nodup:=by decide +kernel
def DA:SV:=
  (rf (rF (v2 rP (v2 zc (be 0) (v1 wL (vC (.int 1)))) (vC (.int 1))) (qY 2))
  (rn (sC ["number"] [("sort",0)] (z7 (v2 zn (v2 rP (be 2) (vC (.int 1))) (be 1))) (qY 0) rE (v2 rP (be 1) (vL sG (qW (be 0) qZ))))))
def uH:C0:=rY 3 2 (DA)
theorem Vp{k:Nat}(F:Fun K "one_thing_more" "one_thing_more" (top 9) f fd) (x6:mg "max"=none) (DK:mg "min"=none) (tj:mg "range"=none):FnOk P w K mg base CX0 (k+1) f fd ["sort","most"] (spM K (uH)):=by
 unfold uH DA;exact sq F FM fun cdv A outer s H E hr=>
  (rl (sf (i:=2) FM.nd rfl (Or.inl rfl) (sW (UI x6 (qV 0) (SF rz)) rz))
  (rk (rB (u8 (own:=["number"]) (cap:=[("sort",0)]) (tZ rfl) (TV tj (Ti DK (sW (qV 2) rz) (qV 1)))
   (fun _ _ _ _ _=>(rD (i:=0) Wo rfl (Or.inl rfl))) (fun _ _ _ _ _=>t9)
   (fun _ _ _ _ _=>(sW (qV 1) (uj (qX (qV 0) rg))))))))
theorem Br:FnScope ["many","most","sorts","step"] ["many","most"] (rh (top 10)):=⟨rfl,rfl,rfl,by decide +kernel,rfl,by decide +kernel,by decide +kernel⟩
theorem Gb:((["sort","longer"]:List Str)++([("most",1)]:List (Str×Nat)).map (·.1)).Nodup:=by decide +kernel
def CG(yx:C0)(xH:D)(uh:Addr):SX:=
  (sX (ut (upB (bOr (vT (v2 fLt (be 0) (vC (.int 0)))) (vT (v2 fGt (be 0) (vC xH)))))
   (wz uh ((vC xH)::((be 0)::[])))
   (upS sNx))
  (upS (rf (rF (vL sG (qW (vL sG qZ) qZ)) (qY 2))
  (rf (tF (ivR (be 0)) (qY 3)
   (rF (wM ["sort","longer"] [("most",1)] (ivL (be 2)) (qY 0) rE (ivL (vL yx (qW (be 0) (qW (be 2) qZ)))) (qY 1) rE (be 1)) (qY 2)))
  (rn (be 2))))))
def x4(yx:C0)(xH:D)(uh:Addr):FX:=tK 4 2 (CG yx xH uh)
theorem Sq{yx:C0}{MC k:Nat}{xH:D}{v_MOST_THINGS:V}{u_MOST_THINGS:Value}{uh:Addr}(F:Fun K "all_sorts" "all_sorts" (top 10) f fd) (Ff:Df P w K mg base MC "one_thing_more" ["sort","most"] (spM K yx)) (Wi:MC<=k) (wI:mg "MOST_THINGS"=some u_MOST_THINGS/\RelV v_MOST_THINGS u_MOST_THINGS/\∀W,DR K W xH v_MOST_THINGS) (xg:mg "TooMany"=some (.ref uh)/\uW K uh) (tj:mg "range"=none):FnOk P w K mg base (CXr P w) (k+1) f fd ["many","most"] (spX K (x4 yx xH uh)):=by
 unfold x4 CG;exact v4 F Br fun cdv A outer s H E hr=>
  (wK (xK (za (PW.pt (zP (BI (qV 0) rz) (zz (Cf (qV 0) (u9 wI.1 wI.2.1 wI.2.2))))))
   (uu (yU (yM (uo (by decide) (u4 (u9 wI.1 wI.2.1 wI.2.2) (uo (by decide) (u4 (qV 0) pj0))))) xg.1 xg.2))
   xT)
  (DG (rl (sf (i:=2) Br.nd rfl (Or.inl rfl) (uj (qX (uj rg) rg)))
  (rl (t8 Xl rfl (Ai tj (qV 0)) (rD (i:=3) Br.nd rfl (Or.inl rfl))
   (rk (Rg (i:=2) Br.nd rfl rfl (own:=["sort","longer"]) (cap:=[("most",1)]) (tZ rfl) (tR (qV 2))
   (fun _ _ _ _ _=>(rD (i:=0) Gb rfl (Or.inl rfl))) (fun _ _ _ _ _=>t9)
   (fun _ _ _ _ _=>(tR (rM Ff (hr.mono Wi) (qX (qV 0) (qX (qV 2) rg))))) (fun _ _ _ _ _=>(rD (i:=1) Gb rfl (Or.inl rfl))) (fun _ _ _ _ _=>t9)
   (fun _ _ _ _ _=>(qV 1)))))
  (rk (rB (qV 2)))))))
theorem LR:FnScope ["kinds","things"] ["kinds"] (rh (top 13)):=⟨rfl,rfl,rfl,by decide +kernel,rfl,by decide +kernel,by decide +kernel⟩
theorem N3:((["thing"]:List Str)++([]:List (Str×Nat)).map (·.1)).Nodup:=by decide +kernel
def FC(yO:C0):SV:=
  (rf (rF (vL yO (qW (be 0) qZ)) (qY 1))
  (rn (vIf (sD (be 1)) (sC ["thing"] [] (ivL (be 1)) (qY 0) rE (vL rX (qW (vC (.str "one")) (qW (be 0) qZ)))) (vL sG (qW (vL rX (qW (vC (.str "none")) qZ)) qZ)))))
def Bo(yO:C0):C0:=rY 2 1 (FC yO)
theorem SZ{yO:C0}{Gc k:Nat}(F:Fun K "half_ends" "half_ends" (top 13) f fd) (De:Df P w K mg base Gc "more_than_half" ["kinds"] (spM K yO)) (PY:Gc<=k):FnOk P w K mg base CX0 (k+1) f fd ["kinds"] (spM K (Bo yO)):=by
 unfold Bo FC;exact sq F LR fun cdv A outer s H E hr=>
  (rl (sf (i:=1) LR.nd rfl (Or.inl rfl) (rM De (hr.mono PY) (qX (qV 0) rg)))
  (rk (rB (Fa (uC (qV 1)) (u8 (own:=["thing"]) (cap:=[]) (tZ rfl) (tR (qV 1))
   (fun _ _ _ _ _=>(rD (i:=0) N3 rfl (Or.inl rfl))) (fun _ _ _ _ _=>t9)
   (fun _ _ _ _ _=>(sM (qX yI (qX (qV 0) rg))))) (uj (qX (sM (qX yI rg)) rg))))))
theorem IJ:FnScope ["ends","end"] ["ends"] (rh (top 14)):=⟨rfl,rfl,rfl,by decide +kernel,rfl,by decide +kernel,by decide +kernel⟩
theorem TD:((["others"]:List Str)++([("end",1)]:List (Str×Nat)).map (·.1)).Nodup:=by decide +kernel
def Bi(sA:D):SV:=
  (rf (tF (ivL (v2 fIx (be 0) (vC (.int 0)))) (qY 1)
   (sIf (sD (v1 vJ (sC ["others"] [("end",1)] (ivL (be 0)) (qY 0) rE (v2 (wv false) (be 1) (be 0)))))
    (rn (be 1))
    sNx))
  (rn (vC sA)))
def vD(sA:D):C0:=rY 2 1 (Bi sA)
theorem Sy{k:Nat}{sA:D}{v_OPEN:V}{u_OPEN:Value}(F:Fun K "common_end" "common_end" (top 14) f fd) (tp:mg "OPEN"=some u_OPEN/\RelV v_OPEN u_OPEN/\∀W,DR K W sA v_OPEN) (wm:mg "all"=none):FnOk P w K mg base CX0 (k+1) f fd ["ends"] (spM K (vD sA)):=by
 unfold vD Bi;exact sq F IJ fun cdv A outer s H E hr=>
  (rl (t8 Xl rfl (tR (sR (qV 0) rz)) (rD (i:=1) IJ.nd rfl (Or.inr rfl))
   (rk (sr (uC (DX wm (u8 (own:=["others"]) (cap:=[("end",1)]) (tZ rfl) (tR (qV 0))
   (fun _ _ _ _ _=>(rD (i:=0) TD rfl (Or.inl rfl))) (fun _ _ _ _ _=>t9)
   (fun _ _ _ _ _=>(NA hr (qV 1) (qV 0))))))
    (rk (rB (qV 1)))
    so)))
  (rk (rB (u9 tp.1 tp.2.1 tp.2.2))))
theorem Bc:FnScope ["many","answers","i","j","alike"] ["many","answers"] (rh (top 16)):=⟨rfl,rfl,rfl,by decide +kernel,rfl,by decide +kernel,by decide +kernel⟩
def DQ(tN:Addr):SX:=
  (sX (ut (upB (vT (v2 fLt (be 0) (vC (.int 0)))))
   (wz tN ((be 0)::[]))
   (upS sNx))
  (Mf (ivL (be 1)) (rT 3 (rm (qY 2) (rm (qY 3) (rm (qY 4) si))))
   (sX (ut (upB (tU (xW (vT (vt fLe fLt (vC (.int 0)) (be 2) (be 0))) (vT (vt fLe fLt (vC (.int 0)) (be 3) (be 0))))))
    (wz tN ((be 2)::((be 3)::((be 0)::[]))))
    (upS sNx))
   (ut (upB (vT (v2 fEq (be 2) (be 3))))
    (wz tN ((be 2)::[]))
    (upS sNx)))))
def Ac(tN:Addr):FX:=tK 5 2 (DQ tN)
theorem TH{k:Nat}{tN:Addr}(F:Fun K "check_things" "check_things" (top 16) f fd) (u0:mg "NoThing"=some (.ref tN)/\uW K tN):FnOk P w K mg base (CXr P w) (k+1) f fd ["many","answers"] (spX K (Ac tN)):=by
 unfold Ac DQ;exact v4 F Bc fun cdv A outer s H E hr=>
  (wK (xK (za (BI (qV 0) rz))
   (uu (yU (yM (uo (by decide) (u4 (qV 0) (uo (by decide) pj0)))) u0.1 u0.2))
   xT)
  (uu (OZ (Wa ⟨rfl,rfl⟩) rfl (US (tR (qV 1))) (WG (tY (n:=3) (rZ (rD (i:=2) Bc.nd rfl (Or.inl rfl)) (rZ (rD (i:=3) Bc.nd rfl (Or.inl rfl)) (rZ (rD (i:=4) Bc.nd rfl (Or.inl rfl)) tS)))))
   (wK (xK (za (vz (PW.pt (SC (Ma KJ Ka Ew LC rz (qV 2) (qV 0)) (VE (Ma KJ Ka Ew LC rz (qV 3) (qV 0)))))))
    (uu (yU (yM (uo (by decide) (u4 (qV 2) (uo (by decide) (u4 (qV 3) (uo (by decide) (u4 (qV 0) (uo (by decide) pj0)))))))) u0.1 u0.2))
    xT)
   (uu (xK (za (u6 hr (qV 2) (qV 3)))
    (uu (yU (yM (uo (by decide) (u4 (qV 2) (uo (by decide) pj0)))) u0.1 u0.2))
    xT))))))
theorem V2:FnScope ["homes","old","new"] ["homes","old","new"] (rh (top 17)):=⟨rfl,rfl,rfl,by decide +kernel,rfl,by decide +kernel,by decide +kernel⟩
theorem KC:((["thing","home"]:List Str)++([("old",1),("new",2)]:List (Str×Nat)).map (·.1)).Nodup:=by decide +kernel
def EF:SV:=
  (rn (Cl ["thing","home"] [("old",1),("new",2)] (be 0) (rT 2 (rm (qY 0) (rm (qY 1) si))) rE (be 0) (vIf (vT (v2 fEq (be 1) (be 2))) (be 3) (be 1))))
def va:C0:=rY 3 3 (EF)
theorem UP{k:Nat}(F:Fun K "moved" "moved" (top 17) f fd):FnOk P w K mg base CX0 (k+1) f fd ["homes","old","new"] (spM K (va)):=by
 unfold va EF;exact sq F V2 fun cdv A outer s H E hr=>
  (rk (rB (Vb (own:=["thing","home"]) (cap:=[("old",1),("new",2)]) (tZ rfl) (qV 0)
   (fun _ _ _ _ _=>(tY (n:=2) (rZ (rD (i:=0) KC rfl (Or.inl rfl)) (rZ (rD (i:=1) KC rfl (Or.inl rfl)) tS)))) (fun _ _ _ _ _=>t9)
   (fun _ _ _ _ _=>(qV 0)) (fun _ _ _ _ _=>(Fa (u6 hr (qV 1) (qV 2)) (qV 3) (qV 1))))))
theorem yD:FnScope ["answers","homes","i","j","alike"] ["answers"] (rh (top 18)):=⟨rfl,rfl,rfl,by decide +kernel,rfl,by decide +kernel,by decide +kernel⟩
def Ds(y3:C0):SV:=
  (rf (rF z6 (qY 1))
  (rf (tF (ivL (be 0)) (rT 3 (rm (qY 2) (rm (qY 3) (rm (qY 4) si))))
   (rf (uv (uK (be 1) (be 2) (be 2)))
   (rf (uv (uK (be 1) (be 3) (be 3)))
   (sIf (sD (be 4))
    (rF (vL y3 (qW (be 1) (qW (v2 ue (be 1) (be 3)) (qW (v2 ue (be 1) (be 2)) qZ)))) (qY 1))
    sNx))))
  (rn (be 1))))
def xP(y3:C0):C0:=rY 5 1 (Ds y3)
theorem S2{y3:C0}{Ku k:Nat}(F:Fun K "homes_of" "homes_of" (top 18) f fd) (EM:Df P w K mg base Ku "moved" ["homes","old","new"] (spM K y3)) (Sd:Ku<=k):FnOk P w K mg base CX0 (k+1) f fd ["answers"] (spM K (xP y3)):=by
 unfold xP Ds;exact sq F yD fun cdv A outer s H E hr=>
  (rl (sf (i:=1) yD.nd rfl (Or.inl rfl) Ly)
  (rl (t8 Xl rfl (tR (qV 0)) (tY (n:=3) (rZ (rD (i:=2) yD.nd rfl (Or.inl rfl)) (rZ (rD (i:=3) yD.nd rfl (Or.inl rfl)) (rZ (rD (i:=4) yD.nd rfl (Or.inl rfl)) tS))))
   (rl (xI (DE (qV 1) (qV 2) (qV 2)))
   (rl (xI (DE (qV 1) (qV 3) (qV 3)))
   (rk (sr (uC (qV 4))
    (rk (sf (i:=1) yD.nd rfl (Or.inl rfl) (rM EM (hr.mono Sd) (qX (qV 1) (qX (AZ hr (qV 1) (qV 3)) (qX (AZ hr (qV 1) (qV 2)) rg))))))
    so)))))
  (rk (rB (qV 1)))))
theorem Mb:FnScope ["many","answers","homes"] ["many","answers"] (rh (top 19)):=⟨rfl,rfl,rfl,by decide +kernel,rfl,by decide +kernel,by decide +kernel⟩
theorem Fj:((["i","j","alike"]:List Str)++([("homes",2)]:List (Str×Nat)).map (·.1)).Nodup:=by decide +kernel
def CC(yA:C0)(yQ:FX):SX:=
  (sX (xA (vLX yQ (upL (qW (be 0) (qW (be 1) qZ)))))
  (upS (rf (rF (vL yA (qW (be 1) qZ)) (qY 2))
  (rn (v1 vJ (sC ["i","j","alike"] [("homes",2)] (ivL (be 1)) (rT 3 (rm (qY 0) (rm (qY 1) (rm (qY 2) si)))) rE (vOr (be 2) (v2 fNe (v2 ue (be 3) (be 0)) (v2 ue (be 3) (be 1))))))))))
def CQ(yA:C0)(yQ:FX):FX:=tK 3 2 (CC yA yQ)
theorem Tt{yA:C0}{yQ:FX}{Gz GW k:Nat}(F:Fun K "can_be" "can_be" (top 19) f fd) (CW:Df P w K mg base Gz "homes_of" ["answers"] (spM K yA)) (UL:Gz<=k) (EE:DfX P w K mg base GW "check_things" ["many","answers"] (spX K yQ)) (RT:GW<=k) (wm:mg "all"=none):FnOk P w K mg base (CXr P w) (k+1) f fd ["many","answers"] (spX K (CQ yA yQ)):=by
 unfold CQ CC;exact v4 F Mb fun cdv A outer s H E hr=>
  (wK (Fg (wQ EE (hr.mono RT) (vS (qX (qV 0) (qX (qV 1) rg)))))
  (DG (rl (sf (i:=2) Mb.nd rfl (Or.inr rfl) (rM CW (hr.mono UL) (qX (qV 1) rg)))
  (rk (rB (DX wm (u8 (own:=["i","j","alike"]) (cap:=[("homes",2)]) (tZ rfl) (tR (qV 1))
   (fun _ _ _ _ _=>(tY (n:=3) (rZ (rD (i:=0) Fj rfl (Or.inl rfl)) (rZ (rD (i:=1) Fj rfl (Or.inl rfl)) (rZ (rD (i:=2) Fj rfl (Or.inl rfl)) tS))))) (fun _ _ _ _ _=>t9)
   (fun _ _ _ _ _=>(O5 (qV 2) (AH (L1 hr (AZ hr (qV 3) (qV 0)) (AZ hr (qV 3) (qV 1)))))))))))))
theorem N1:FnScope ["many","answers"] ["many","answers"] (rh (top 20)):=⟨rfl,rfl,rfl,by decide +kernel,rfl,by decide +kernel,by decide +kernel⟩
def Fq(sd:FX)(xV:Addr):SX:=
  (ut (AR (bTX (vLX sd (upL (qW (be 0) (qW (be 1) qZ))))))
   (G7 xV (vC (.str "the answers cannot all be right")))
   (upS sNx))
def Eh(sd:FX)(xV:Addr):FX:=tK 2 2 (Fq sd xV)
theorem M8{sd:FX}{uq k:Nat}{xV:Addr}(F:Fun K "check_right" "check_right" (top 20) f fd) (ud:DfX P w K mg base uq "can_be" ["many","answers"] (spX K sd)) (wp:uq<=k) (BB:mg "NoFit"=some (.ref xV)/\uW K xV):FnOk P w K mg base (CXr P w) (k+1) f fd ["many","answers"] (spX K (Eh sd xV)):=by
 unfold Eh Fq;exact v4 F N1 fun cdv A outer s H E hr=>
  (uu (xK (NC (Px (wQ ud (hr.mono wp) (vS (qX (qV 0) (qX (qV 1) rg))))))
   (uu (PL yI BB.1 BB.2))
   xT))
theorem B1:FnScope ["kinds","answers","i","j","alike"] ["kinds","answers"] (rh (top 21)):=⟨rfl,rfl,rfl,by decide +kernel,rfl,by decide +kernel,by decide +kernel⟩
def Fb:SV:=
  (rf (tF (ivL (be 1)) (rT 3 (rm (qY 2) (rm (qY 3) (rm (qY 4) si))))
   (sIf (vT (v2 fNe (v2 fEq (v2 fIx (be 0) (be 2)) (v2 fIx (be 0) (be 3))) (be 4)))
    (rn (vC (.bl false)))
    sNx))
  (rn (vC (.bl true))))
def wS:C0:=rY 5 2 (Fb)
theorem Oo{k:Nat}(F:Fun K "fits" "fits" (top 21) f fd):FnOk P w K mg base CX0 (k+1) f fd ["kinds","answers"] (spM K (wS)):=by
 unfold wS Fb;exact sq F B1 fun cdv A outer s H E hr=>
  (rl (t8 Xl rfl (tR (qV 1)) (tY (n:=3) (rZ (rD (i:=2) B1.nd rfl (Or.inl rfl)) (rZ (rD (i:=3) B1.nd rfl (Or.inl rfl)) (rZ (rD (i:=4) B1.nd rfl (Or.inl rfl)) tS))))
   (rk (sr (yK hr (yw hr (sR (qV 0) (qV 2)) (sR (qV 0) (qV 3))) (qV 4))
    (rk (rB tV))
    so)))
  (rk (rB tV)))
theorem Oe:FnScope ["many","answers"] ["many","answers"] (rh (top 22)):=⟨rfl,rfl,rfl,by decide +kernel,rfl,by decide +kernel,by decide +kernel⟩
theorem S6:((["sort"]:List Str)++([("answers",1)]:List (Str×Nat)).map (·.1)).Nodup:=by decide +kernel
def Fe(yT:C0)(x8:FX)(uG:FX):SX:=
  (sX (xA (vLX x8 (upL (qW (be 0) (qW (be 1) qZ)))))
  (wR (xJ ["sort"] [("answers",1)] (vLX uG (upL (qW (be 0) (qW (be 0) qZ)))) (qY 0) (sD (vL yT (qW (be 0) (qW (be 1) qZ)))) (be 0))))
def CB(yT:C0)(x8:FX)(uG:FX):FX:=tK 2 2 (Fe yT x8 uG)
theorem Vi{yT:C0}{x8 uG:FX}{JW GB zV k:Nat}(F:Fun K "sorts_that_fit" "sorts_that_fit" (top 22) f fd) (D4:Df P w K mg base JW "fits" ["kinds","answers"] (spM K yT)) (PZ:JW<=k) (Cs:DfX P w K mg base GB "check_right" ["many","answers"] (spX K x8)) (PN:GB<=k) (y1:DfX P w K mg base zV "all_sorts" ["many","most"] (spX K uG)) (Fu:zV<=k):FnOk P w K mg base (CXr P w) (k+1) f fd ["many","answers"] (spX K (CB yT x8 uG)):=by
 unfold CB Fe;exact v4 F Oe fun cdv A outer s H E hr=>
  (wK (Fg (wQ Cs (hr.mono PN) (vS (qX (qV 0) (qX (qV 1) rg)))))
  (uu (Ec (LW (own:=["sort"]) (cap:=[("answers",1)]) (tZ rfl) (wQ y1 (hr.mono Fu) (vS (qX (qV 0) (qX (qV 0) rg))))
   (fun _ _ _ _ _=>(rD (i:=0) S6 rfl (Or.inl rfl))) (fun _ _ _ _ _=>(Fl (uC (rM D4 (hr.mono PZ) (qX (qV 0) (qX (qV 1) rg))))))
   (fun _ _ _ _ _=>(qV 0))))))
theorem Vm:FnScope ["many","answers"] ["many","answers"] (rh (top 23)):=⟨rfl,rfl,rfl,by decide +kernel,rfl,by decide +kernel,by decide +kernel⟩
theorem NO:((["sort"]:List Str)++([]:List (Str×Nat)).map (·.1)).Nodup:=by decide +kernel
def C9(uI:C0)(uR:C0)(yP:FX):SX:=
  (wR (vLX (upF uI) (BK (xJ ["sort"] [] (vLX yP (upL (qW (be 0) (qW (be 1) qZ)))) (qY 0) rE (vL uR (qW (be 0) qZ))) (upL qZ))))
def C8(uI:C0)(uR:C0)(yP:FX):FX:=tK 2 2 (C9 uI uR yP)
theorem M0{uI uR:C0}{yP:FX}{zo zU Gk k:Nat}(F:Fun K "tells" "tells" (top 23) f fd) (yf:Df P w K mg base zo "common_end" ["ends"] (spM K uI)) (EB:zo<=k) (yb:Df P w K mg base zU "half_ends" ["kinds"] (spM K uR)) (Cv:zU<=k) (Cm:DfX P w K mg base Gk "sorts_that_fit" ["many","answers"] (spX K yP)) (UR:Gk<=k):FnOk P w K mg base (CXr P w) (k+1) f fd ["many","answers"] (spX K (C8 uI uR yP)):=by
 unfold C8 C9;exact v4 F Vm fun cdv A outer s H E hr=>
  (uu (Ec (QB yf (hr.mono EB) (V1 (LW (own:=["sort"]) (cap:=[]) (tZ rfl) (wQ Cm (hr.mono UR) (vS (qX (qV 0) (qX (qV 1) rg))))
   (fun _ _ _ _ _=>(rD (i:=0) NO rfl (Or.inl rfl))) (fun _ _ _ _ _=>t9)
   (fun _ _ _ _ _=>(rM yb (hr.mono Cv) (qX (qV 0) rg)))) (vS rg)))))
theorem Vs:FnScope ["many"] ["many"] (rh (top 25)):=⟨rfl,rfl,rfl,by decide +kernel,rfl,by decide +kernel,by decide +kernel⟩
theorem My:((["i","j"]:List Str)++([("many",0)]:List (Str×Nat)).map (·.1)).Nodup:=by decide +kernel
def Dg:SV:=
  (rn (wM ["i","j"] [("many",0)] (ivR (be 0)) (qY 0) rE (xX (v2 rP (be 0) (vC (.int 1))) (be 2)) (qY 1) rE (vL rX (qW (be 0) (qW (be 1) qZ)))))
def w9:C0:=rY 1 1 (Dg)
theorem Sb{k:Nat}(F:Fun K "pairs_of" "pairs_of" (top 25) f fd) (tj:mg "range"=none):FnOk P w K mg base CX0 (k+1) f fd ["many"] (spM K (w9)):=by
 unfold w9 Dg;exact sq F Vs fun cdv A outer s H E hr=>
  (rk (rB (N5 (own:=["i","j"]) (cap:=[("many",0)]) (tZ rfl) (Ai tj (qV 0))
   (fun _ _ _ _ _=>(rD (i:=0) My rfl (Or.inl rfl))) (fun _ _ _ _ _=>t9)
   (fun _ _ _ _ _=>(GO tj (sW (qV 0) rz) (qV 2))) (fun _ _ _ _ _=>(rD (i:=1) My rfl (Or.inl rfl))) (fun _ _ _ _ _=>t9)
   (fun _ _ _ _ _=>(sM (qX (qV 0) (qX (qV 1) rg)))))))
theorem Ob:FnScope ["many","least","greatest"] ["many","least","greatest"] (rh (top 27)):=⟨rfl,rfl,rfl,by decide +kernel,rfl,by decide +kernel,by decide +kernel⟩
def AY(tN:Addr)(uh:Addr):SX:=
  (sX (ut (upB (vT (v2 fLt (be 0) (be 1))))
   (wz tN ((be 1)::((be 0)::[])))
   (upS sNx))
  (ut (upB (vT (v2 fGt (be 0) (be 2))))
   (wz uh ((be 2)::((be 0)::[])))
   (upS sNx)))
def wb(tN:Addr)(uh:Addr):FX:=tK 3 3 (AY tN uh)
theorem O9{k:Nat}{tN:Addr}{uh:Addr}(F:Fun K "check_many" "check_many" (top 27) f fd) (u0:mg "NoThing"=some (.ref tN)/\uW K tN) (xg:mg "TooMany"=some (.ref uh)/\uW K uh):FnOk P w K mg base (CXr P w) (k+1) f fd ["many","least","greatest"] (spX K (wb tN uh)):=by
 unfold wb AY;exact v4 F Ob fun cdv A outer s H E hr=>
  (wK (xK (za (BI (qV 0) (qV 1)))
   (uu (yU (yM (uo (by decide) (u4 (qV 1) (uo (by decide) (u4 (qV 0) pj0))))) u0.1 u0.2))
   xT)
  (uu (xK (za (Cf (qV 0) (qV 2)))
   (uu (yU (yM (uo (by decide) (u4 (qV 2) (uo (by decide) (u4 (qV 0) pj0))))) xg.1 xg.2))
   xT)))
theorem VT:FnScope ["self","many","sorts","ends"] ["self","many","sorts","ends"] (rh (sQ (top 29) 0)):=⟨rfl,rfl,rfl,by decide +kernel,rfl,by decide +kernel,by decide +kernel⟩
def CJ(tt:C0)(rC:Addr):SV:=
  (rf (yF rC "pairs" (be 0) (vL tt (qW (be 1) qZ)))
  (rf (yF rC "sorts" (be 0) (be 2))
  (rf (yF rC "ends" (be 0) (be 3))
  (yF rC "searched" (be 0) Et))))
def Ch(tt:C0)(rC:Addr):C0:=rY 4 4 (CJ tt rC)
theorem Uh{tt:C0}{xb k:Nat}{rC:Addr}(F:Fun K "__init__" "Search.__init__" (sQ (top 29) 0) f fd) (wn:Df P w K mg base xb "pairs_of" ["many"] (spM K tt)) (z4:xb<=k) (yN:FldC K rC "pairs") (vV:FldC K rC "sorts") (yH:FldC K rC "ends") (wC:FldC K rC "searched"):FnOk P w K mg base CX0 (k+1) f fd ["self","many","sorts","ends"] (spM K (Ch tt rC)):=by
 unfold Ch CJ;exact sq F VT fun cdv A outer s H E hr=>
  (rl (B7 yN (qV 0) (rM wn (hr.mono z4) (qX (qV 1) rg)))
  (rl (B7 vV (qV 0) (qV 2))
  (rl (B7 yH (qV 0) (qV 3))
  (rk (B7 wC (qV 0) Oh)))))
theorem Oc:FnScope ["self","left","asks"] ["self","left","asks"] (rh (sQ (top 29) 1)):=⟨rfl,rfl,rfl,by decide +kernel,rfl,by decide +kernel,by decide +kernel⟩
def CK(yt:C0)(rC:Addr):SV:=
  (rf (sIf (vT (v2 (zY true) (vL rX (qW (be 1) (qW (be 2) qZ))) (v1 (tO rC "searched") (be 0))))
   (Dh (v1 (tO rC "searched") (be 0)) (vL rX (qW (be 1) (qW (be 2) qZ))) (vW rC "new_tree" yt (be 0) (qW (be 1) (qW (be 2) qZ))))
   sNx)
  (rn (v2 BE (v1 (tO rC "searched") (be 0)) (vL rX (qW (be 1) (qW (be 2) qZ))))))
def AI(yt:C0)(rC:Addr):C0:=rY 3 3 (CK yt rC)
theorem R3{yt:C0}{Ld k:Nat}{rC:Addr}(F:Fun K "tree_within" "Search.tree_within" (sQ (top 29) 1) f fd) (DD:MtC P w K mg base CX0 Ld rC "new_tree" ["self","left","asks"] (spM K yt)) (Ph:Ld<=k) (wC:FldC K rC "searched"):FnOk P w K mg base CX0 (k+1) f fd ["self","left","asks"] (spM K (AI yt rC)):=by
 unfold AI CK;exact sq F Oc fun cdv A outer s H E hr=>
  (rl (sr (Ov hr (sM (qX (qV 1) (qX (qV 2) rg))) (v8 wC (qV 0)))
   (rk (Uo hr (v8 wC (qV 0)) (sM (qX (qV 1) (qX (qV 2) rg))) (yc DD (hr.mono Ph) (qV 0) (qX (qV 1) (qX (qV 2) rg)))))
   so)
  (rk (rB (UV hr (v8 wC (qV 0)) (sM (qX (qV 1) (qX (qV 2) rg)))))))
theorem zr:FnScope ["self","left","asks","end","i","j","tree"] ["self","left","asks"] (rh (sQ (top 29) 2)):=⟨rfl,rfl,rfl,by decide +kernel,rfl,by decide +kernel,by decide +kernel⟩
theorem Oa:((["number"]:List Str)++([("self",0)]:List (Str×Nat)).map (·.1)).Nodup:=by decide +kernel
def Ek(uI:C0)(yh:C0)(sA:D)(rC:Addr):SV:=
  (rf (rF (vL uI (qW (sC ["number"] [("self",0)] (ivT (be 1)) (qY 0) rE (v2 fIx (v1 (tO rC "ends") (be 1)) (be 0))) qZ)) (qY 3))
  (rf (sIf (vT (v2 fNe (be 3) (vC sA)))
   (rn (be 3))
   sNx)
  (rf (sIf (vT (v2 fEq (be 2) (vC (.int 0))))
   (rn (vC .non))
   sNx)
  (rf (tF (ivL (v1 (tO rC "pairs") (be 0))) (rT 2 (rm (qY 4) (rm (qY 5) si)))
   (rf (rF (vW rC "tree_asking" yh (be 0) (qW (be 4) (qW (be 5) (qW (be 1) (qW (be 2) qZ))))) (qY 6))
   (sIf (vT (v2 wk (be 6) (vC .non)))
    (rn (be 6))
    sNx)))
  (rn (vC .non))))))
def Cb(uI:C0)(yh:C0)(sA:D)(rC:Addr):C0:=rY 7 3 (Ek uI yh sA rC)
theorem RW{uI yh:C0}{zo G0 k:Nat}{sA:D}{v_OPEN:V}{u_OPEN:Value}{rC:Addr}(F:Fun K "new_tree" "Search.new_tree" (sQ (top 29) 2) f fd) (yf:Df P w K mg base zo "common_end" ["ends"] (spM K uI)) (EB:zo<=k) (Eo:MtC P w K mg base CX0 G0 rC "tree_asking" ["self","i","j","left","asks"] (spM K yh)) (Po:G0<=k) (yH:FldC K rC "ends") (yN:FldC K rC "pairs") (tp:mg "OPEN"=some u_OPEN/\RelV v_OPEN u_OPEN/\∀W,DR K W sA v_OPEN):FnOk P w K mg base CX0 (k+1) f fd ["self","left","asks"] (spM K (Cb uI yh sA rC)):=by
 unfold Cb Ek;exact sq F zr fun cdv A outer s H E hr=>
  (rl (sf (i:=3) zr.nd rfl (Or.inl rfl) (rM yf (hr.mono EB) (qX (u8 (own:=["number"]) (cap:=[("self",0)]) (tZ rfl) (B3 (qV 1))
   (fun _ _ _ _ _=>(rD (i:=0) Oa rfl (Or.inl rfl))) (fun _ _ _ _ _=>t9)
   (fun _ _ _ _ _=>(sR (v8 yH (qV 1)) (qV 0)))) rg)))
  (rl (sr (yK hr (qV 3) (u9 tp.1 tp.2.1 tp.2.2))
   (rk (rB (qV 3)))
   so)
  (rl (sr (u6 hr (qV 2) rz)
   (rk (rB ua))
   so)
  (rl (t8 Xl rfl (tR (v8 yN (qV 0))) (tY (n:=2) (rZ (rD (i:=4) zr.nd rfl (Or.inl rfl)) (rZ (rD (i:=5) zr.nd rfl (Or.inl rfl)) tS)))
   (rl (sf (i:=6) zr.nd rfl (Or.inl rfl) (yc Eo (hr.mono Po) (qV 0) (qX (qV 4) (qX (qV 5) (qX (qV 1) (qX (qV 2) rg))))))
   (rk (sr (Jj (qV 6) ua)
    (rk (rB (qV 6)))
    so))))
  (rk (rB ua))))))
theorem Ar:FnScope ["self","i","j","left","asks","alike","unlike","if_alike","if_unlike"] ["self","i","j","left","asks"] (rh (sQ (top 29) 3)):=⟨rfl,rfl,rfl,by decide +kernel,rfl,by decide +kernel,by decide +kernel⟩
theorem Qb:((["number"]:List Str)++([("self",0),("i",1),("j",2)]:List (Str×Nat)).map (·.1)).Nodup:=by decide +kernel
theorem OJ:((["number"]:List Str)++([("self",0),("i",1),("j",2)]:List (Str×Nat)).map (·.1)).Nodup:=by decide +kernel
def D2(ug:C0)(rC:Addr):SV:=
  (rf (rF (v1 AQ (sC ["number"] [("self",0),("i",1),("j",2)] (ivT (be 3)) (qY 0) (vT (v2 fEq (v2 fIx (v2 fIx (v1 (tO rC "sorts") (be 1)) (be 0)) (be 2)) (v2 fIx (v2 fIx (v1 (tO rC "sorts") (be 1)) (be 0)) (be 3)))) (be 0))) (qY 5))
  (rf (rF (v1 AQ (sC ["number"] [("self",0),("i",1),("j",2)] (ivT (be 3)) (qY 0) (vT (v2 fNe (v2 fIx (v2 fIx (v1 (tO rC "sorts") (be 1)) (be 0)) (be 2)) (v2 fIx (v2 fIx (v1 (tO rC "sorts") (be 1)) (be 0)) (be 3)))) (be 0))) (qY 6))
  (rf (sIf (bOr (tU (sD (be 5))) (tU (sD (be 6))))
   (rn (vC .non))
   sNx)
  (rf (rF (vW rC "tree_within" ug (be 0) (qW (be 5) (qW (v2 wu (be 4) (vC (.int 1))) qZ))) (qY 7))
  (rf (sIf (vT (v2 vc (be 7) (vC .non)))
   (rn (vC .non))
   sNx)
  (rf (rF (vW rC "tree_within" ug (be 0) (qW (be 6) (qW (v2 wu (be 4) (vC (.int 1))) qZ))) (qY 8))
  (rf (sIf (vT (v2 vc (be 8) (vC .non)))
   (rn (vC .non))
   sNx)
  (rn (vL rX (qW (vC (.str "ask")) (qW (be 1) (qW (be 2) (qW (be 7) (qW (be 8) qZ))))))))))))))
def yB(ug:C0)(rC:Addr):C0:=rY 9 5 (D2 ug rC)
theorem We{ug:C0}{zQ k:Nat}{rC:Addr}(F:Fun K "tree_asking" "Search.tree_asking" (sQ (top 29) 3) f fd) (xE:MtC P w K mg base CX0 zQ rC "tree_within" ["self","left","asks"] (spM K ug)) (z8:zQ<=k) (vV:FldC K rC "sorts") (uF:mg "tuple"=none):FnOk P w K mg base CX0 (k+1) f fd ["self","i","j","left","asks"] (spM K (yB ug rC)):=by
 unfold yB D2;exact sq F Ar fun cdv A outer s H E hr=>
  (rl (sf (i:=5) Ar.nd rfl (Or.inl rfl) (Kr uF (u8 (own:=["number"]) (cap:=[("self",0),("i",1),("j",2)]) (tZ rfl) (B3 (qV 3))
   (fun _ _ _ _ _=>(rD (i:=0) Qb rfl (Or.inl rfl))) (fun _ _ _ _ _=>(Fl (u6 hr (sR (sR (v8 vV (qV 1)) (qV 0)) (qV 2)) (sR (sR (v8 vV (qV 1)) (qV 0)) (qV 3)))))
   (fun _ _ _ _ _=>(qV 0)))))
  (rl (sf (i:=6) Ar.nd rfl (Or.inl rfl) (Kr uF (u8 (own:=["number"]) (cap:=[("self",0),("i",1),("j",2)]) (tZ rfl) (B3 (qV 3))
   (fun _ _ _ _ _=>(rD (i:=0) OJ rfl (Or.inl rfl))) (fun _ _ _ _ _=>(Fl (yK hr (sR (sR (v8 vV (qV 1)) (qV 0)) (qV 2)) (sR (sR (v8 vV (qV 1)) (qV 0)) (qV 3)))))
   (fun _ _ _ _ _=>(qV 0)))))
  (rl (sr (PW.pt (zP (vz (uC (qV 5))) (zz (vz (uC (qV 6))))))
   (rk (rB ua))
   so)
  (rl (sf (i:=7) Ar.nd rfl (Or.inl rfl) (yc xE (hr.mono z8) (qV 0) (qX (qV 5) (qX (xq (qV 4) rz) rg))))
  (rl (sr (Az (qV 7) ua)
   (rk (rB ua))
   so)
  (rl (sf (i:=8) Ar.nd rfl (Or.inl rfl) (yc xE (hr.mono z8) (qV 0) (qX (qV 6) (qX (xq (qV 4) rz) rg))))
  (rl (sr (Az (qV 8) ua)
   (rk (rB ua))
   so)
  (rk (rB (sM (qX yI (qX (qV 1) (qX (qV 2) (qX (qV 7) (qX (qV 8) rg)))))))))))))))
theorem zt:FnScope ["many","sorts","ends","search","every","asks"] ["many","sorts","ends"] (rh (top 30)):=⟨rfl,rfl,rfl,by decide +kernel,rfl,by decide +kernel,by decide +kernel⟩
def DF(zf:C0)(ug:C0)(rC:Addr):SV:=
  (rf (rF (Bs rC zf (qW (be 0) (qW (be 1) (qW (be 2) qZ)))) (qY 3))
  (rf (rF (v1 As (v1 sg (be 1))) (qY 4))
  (rf (rF (vC (.int 0)) (qY 5))
  (rf (w6 (vT (v2 vc (vW rC "tree_within" ug (be 3) (qW (be 4) (qW (be 5) qZ))) (vC .non)))
   (ym 5 DC (vC (.int 1))) 1000000)
  (rn (vL rX (qW (be 5) (qW (vW rC "tree_within" ug (be 3) (qW (be 4) (qW (be 5) qZ))) qZ))))))))
def AD(zf:C0)(ug:C0)(rC:Addr):C0:=rY 6 3 (DF zf ug rC)
theorem UY{zf ug:C0}{Lw zQ k:Nat}{rC:Addr}(F:Fun K "fewest_asks" "fewest_asks" (top 30) f fd) (EQ:MkC P w K mg base CX0 Lw rC "Search" ["self","many","sorts","ends"] (spM K zf)) (M9:Lw+1<=k) (xE:MtC P w K mg base CX0 zQ rC "tree_within" ["self","left","asks"] (spM K ug)) (z8:zQ<=k) (sL:mg "len"=none) (uF:mg "tuple"=none) (tj:mg "range"=none):FnOk P w K mg base CX0 (k+1) f fd ["many","sorts","ends"] (spM K (AD zf ug rC)):=by
 unfold AD DF;exact sq F zt fun cdv A outer s H E hr=>
  (rl (sf (i:=3) zt.nd rfl (Or.inl rfl) (Uw EQ (hr.mono M9) (qX (qV 0) (qX (qV 1) (qX (qV 2) rg)))))
  (rl (sf (i:=4) zt.nd rfl (Or.inl rfl) (Qq uF tj (vO sL (qV 1))))
  (rl (sf (i:=5) zt.nd rfl (Or.inl rfl) rz)
  (rl (Jw 1000000 Xl (Az (yc xE (hr.mono z8) (qV 3) (qX (qV 4) (qX (qV 5) rg))) ua)
   (rk (Rk (i:=5) zt.nd rfl (Or.inl rfl) rz)))
  (rk (rB (sM (qX (qV 5) (qX (yc xE (hr.mono z8) (qV 3) (qX (qV 4) (qX (qV 5) rg))) rg)))))))))
theorem LL:FnScope ["many","most","sorts"] ["many","most"] (rh (top 33)):=⟨rfl,rfl,rfl,by decide +kernel,rfl,by decide +kernel,by decide +kernel⟩
theorem MT:((["sort"]:List Str)++([]:List (Str×Nat)).map (·.1)).Nodup:=by decide +kernel
def Fx(uR:C0)(yl:C0)(uG:FX):SX:=
  (sX (Dk (vLX uG (upL (qW (be 0) (qW (be 1) qZ)))) (qY 2))
  (upS (rn (vL yl (qW (be 0) (qW (be 2) (qW (sC ["sort"] [] (ivL (be 2)) (qY 0) rE (vL uR (qW (be 0) qZ))) qZ)))))))
def AW(uR:C0)(yl:C0)(uG:FX):FX:=tK 3 2 (Fx uR yl uG)
theorem RX{uR yl:C0}{uG:FX}{zU Lh zV k:Nat}(F:Fun K "fewest_of" "fewest_of" (top 33) f fd) (yb:Df P w K mg base zU "half_ends" ["kinds"] (spM K uR)) (Cv:zU<=k) (Es:Df P w K mg base Lh "fewest_asks" ["many","sorts","ends"] (spM K yl)) (Pp:Lh<=k) (y1:DfX P w K mg base zV "all_sorts" ["many","most"] (spX K uG)) (Fu:zV<=k):FnOk P w K mg base (CXr P w) (k+1) f fd ["many","most"] (spX K (AW uR yl uG)):=by
 unfold AW Fx;exact v4 F LL fun cdv A outer s H E hr=>
  (wK (V6 (i:=2) LL.nd rfl (Or.inl rfl) (wQ y1 (hr.mono Fu) (vS (qX (qV 0) (qX (qV 1) rg)))))
  (DG (rk (rB (rM Es (hr.mono Pp) (qX (qV 0) (qX (qV 2) (qX (u8 (own:=["sort"]) (cap:=[]) (tZ rfl) (tR (qV 2))
   (fun _ _ _ _ _=>(rD (i:=0) MT rfl (Or.inl rfl))) (fun _ _ _ _ _=>t9)
   (fun _ _ _ _ _=>(rM yb (hr.mono Cv) (qX (qV 0) rg)))) rg))))))))
theorem UB:FnScope ["many"] ["many"] (rh (top 34)):=⟨rfl,rfl,rfl,by decide +kernel,rfl,by decide +kernel,by decide +kernel⟩
def E2(tq:FX)(yd:FX)(yr:D):SX:=
  (sX (xA (vLX tq (upL (qW (be 0) (qW (vC (.int 1)) (qW (vC yr) qZ))))))
  (wR (vLX yd (upL (qW (be 0) (qW (be 0) qZ))))))
def Ce(tq:FX)(yd:FX)(yr:D):FX:=tK 1 1 (E2 tq yd yr)
theorem T0{tq yd:FX}{xc Kx k:Nat}{yr:D}{v_MOST_SEARCHED:V}{u_MOST_SEARCHED:Value}(F:Fun K "fewest" "fewest" (top 34) f fd) (wx:DfX P w K mg base xc "check_many" ["many","least","greatest"] (spX K tq)) (zZ:xc<=k) (Dw:DfX P w K mg base Kx "fewest_of" ["many","most"] (spX K yd)) (Ss:Kx<=k) (zT:mg "MOST_SEARCHED"=some u_MOST_SEARCHED/\RelV v_MOST_SEARCHED u_MOST_SEARCHED/\∀W,DR K W yr v_MOST_SEARCHED):FnOk P w K mg base (CXr P w) (k+1) f fd ["many"] (spX K (Ce tq yd yr)):=by
 unfold Ce E2;exact v4 F UB fun cdv A outer s H E hr=>
  (wK (Fg (wQ wx (hr.mono zZ) (vS (qX (qV 0) (qX rz (qX (u9 zT.1 zT.2.1 zT.2.2) rg))))))
  (uu (Ec (wQ Dw (hr.mono Ss) (vS (qX (qV 0) (qX (qV 0) rg)))))))
theorem UQ:FnScope ["row"] ["row"] (rh (top 38)):=⟨rfl,rfl,rfl,by decide +kernel,rfl,by decide +kernel,by decide +kernel⟩
def D8:SV:=
  (rn (xf (v1 (wy "tuple") (be 0)) (xf (v2 fEq (v1 sg (be 0)) (vC (.int 2))) (v1 (wy "bool") (v2 fIx (be 0) (vC (.int 0)))))))
def wq:C0:=rY 1 1 (D8)
theorem SY{k:Nat}(F:Fun K "is_row" "is_row" (top 38) f fd) (vA:mg "isinstance"=none) (uF:mg "tuple"=none) (sL:mg "len"=none) (EL:mg "bool"=none):FnOk P w K mg base CX0 (k+1) f fd ["row"] (spM K (wq)):=by
 unfold wq D8;exact sq F UQ fun cdv A outer s H E hr=>
  (rk (rB (yz (Bp "tuple" vA (qV 0) (AU rfl uF rfl (v:=.ty "tuple") rfl)) (yz (yw hr (vO sL (qV 0)) rz) (AH (Bp "bool" vA (sR (qV 0) rz) (AU rfl EL rfl (v:=.ty "bool") rfl)))))))
theorem U0:FnScope ["pairs","paper"] ["pairs","paper"] (rh (top 39)):=⟨rfl,rfl,rfl,by decide +kernel,rfl,by decide +kernel,by decide +kernel⟩
theorem Wk:((["row"]:List Str)++([]:List (Str×Nat)).map (·.1)).Nodup:=by decide +kernel
def EG(yi:C0):SV:=
  (rn (xf (v1 (wy "list") (be 1)) (xf (v2 fEq (v1 sg (be 1)) (v1 sg (be 0))) (v1 vJ (sC ["row"] [] (ivL (be 1)) (qY 0) rE (vL yi (qW (be 0) qZ)))))))
def yo(yi:C0):C0:=rY 2 2 (EG yi)
theorem TY{yi:C0}{Iy k:Nat}(F:Fun K "is_paper_of" "is_paper_of" (top 39) f fd) (Cq:Df P w K mg base Iy "is_row" ["row"] (spM K yi)) (Tl:Iy<=k) (vA:mg "isinstance"=none) (yR:mg "list"=none) (sL:mg "len"=none) (wm:mg "all"=none):FnOk P w K mg base CX0 (k+1) f fd ["pairs","paper"] (spM K (yo yi)):=by
 unfold yo EG;exact sq F U0 fun cdv A outer s H E hr=>
  (rk (rB (yz (Bp "list" vA (qV 1) (AU rfl yR rfl (v:=.ty "list") rfl)) (yz (yw hr (vO sL (qV 1)) (vO sL (qV 0))) (AH (DX wm (u8 (own:=["row"]) (cap:=[]) (tZ rfl) (tR (qV 1))
   (fun _ _ _ _ _=>(rD (i:=0) Wk rfl (Or.inl rfl))) (fun _ _ _ _ _=>t9)
   (fun _ _ _ _ _=>(rM Cq (hr.mono Tl) (qX (qV 0) rg))))))))))
theorem zd:FnScope ["many","answers","asks","paper","pairs","i","j","alike","rest"] ["many","answers","asks","paper"] (rh (top 40)):=⟨rfl,rfl,rfl,by decide +kernel,rfl,by decide +kernel,by decide +kernel⟩
def BH(sd:C0)(sH:C0)(tt:C0)(y4:C0)(uM:C0)(sA:D):SV:=
  (rf (sIf (bOr (vT (v2 fLt (be 2) (vC (.int 0)))) (tU (sD (vL sd (qW (be 0) (qW (be 1) qZ))))))
   (rn (vC (.bl false)))
   sNx)
  (rf (sIf (vT (v2 fEq (be 2) (vC (.int 0))))
   (rn (xf (v1 (wy "tuple") (be 3)) (xf (v2 fEq (v1 sg (be 3)) (vC (.int 0))) (v2 fEq (vL sH (qW (be 0) (qW (be 1) qZ))) (vC sA)))))
   sNx)
  (rf (rF (vL tt (qW (be 0) qZ)) (qY 4))
  (rf (sIf (tU (sD (vL y4 (qW (be 4) (qW (be 3) qZ)))))
   (rn (vC (.bl false)))
   sNx)
  (rf (tF (ivZ (be 4) (be 3)) (rT 2 (rm (rT 2 (rm (qY 5) (rm (qY 6) si))) (rm (rT 2 (rm (qY 7) (rm (qY 8) si))) si)))
   (sIf (tU (sD (vL uM (qW (be 0) (qW (v2 rP (be 1) (vL sG (qW (vL rX (qW (be 5) (qW (be 6) (qW (be 7) qZ)))) qZ))) (qW (v2 wu (be 2) (vC (.int 1))) (qW (be 8) qZ)))))))
    (rn (vC (.bl false)))
    sNx))
  (rn (vC (.bl true))))))))
def zw(sd:C0)(sH:C0)(tt:C0)(y4:C0)(uM:C0)(sA:D):C0:=rY 9 4 (BH sd sH tt y4 uM sA)
theorem Um{sd sH tt y4 uM:C0}{uq u5 xb Mh z5 k:Nat}{sA:D}{v_OPEN:V}{u_OPEN:Value}(F:Fun K "is_let_by" "is_let_by" (top 40) f fd) (ud:Df P w K mg base uq "can_be" ["many","answers"] (spM K sd)) (wp:uq<=k) (uU:Df P w K mg base u5 "tells" ["many","answers"] (spM K sH)) (xS:u5<=k) (wn:Df P w K mg base xb "pairs_of" ["many"] (spM K tt)) (z4:xb<=k) (CP:Df P w K mg base Mh "is_paper_of" ["pairs","paper"] (spM K y4)) (Om:Mh<=k) (Ag:Df P w K mg base z5 "is_let_by" ["many","answers","asks","paper"] (spM K uM)) (Ei:z5<=k) (tp:mg "OPEN"=some u_OPEN/\RelV v_OPEN u_OPEN/\∀W,DR K W sA v_OPEN) (vA:mg "isinstance"=none) (uF:mg "tuple"=none) (sL:mg "len"=none) (y9:mg "zip"=none):FnOk P w K mg base CX0 (k+1) f fd ["many","answers","asks","paper"] (spM K (zw sd sH tt y4 uM sA)):=by
 unfold zw BH;exact sq F zd fun cdv A outer s H E hr=>
  (rl (sr (PW.pt (zP (BI (qV 2) rz) (zz (vz (uC (rM ud (hr.mono wp) (qX (qV 0) (qX (qV 1) rg))))))))
   (rk (rB tV))
   so)
  (rl (sr (u6 hr (qV 2) rz)
   (rk (rB (yz (Bp "tuple" vA (qV 3) (AU rfl uF rfl (v:=.ty "tuple") rfl)) (yz (yw hr (vO sL (qV 3)) rz) (AH (yw hr (rM uU (hr.mono xS) (qX (qV 0) (qX (qV 1) rg))) (u9 tp.1 tp.2.1 tp.2.2)))))))
   so)
  (rl (sf (i:=4) zd.nd rfl (Or.inl rfl) (rM wn (hr.mono z4) (qX (qV 0) rg)))
  (rl (sr (vz (uC (rM CP (hr.mono Om) (qX (qV 4) (qX (qV 3) rg)))))
   (rk (rB tV))
   so)
  (rl (t8 Xl rfl (Ll y9 (qV 4) (qV 3)) (tY (n:=2) (rZ (tY (n:=2) (rZ (rD (i:=5) zd.nd rfl (Or.inl rfl)) (rZ (rD (i:=6) zd.nd rfl (Or.inl rfl)) tS))) (rZ (tY (n:=2) (rZ (rD (i:=7) zd.nd rfl (Or.inl rfl)) (rZ (rD (i:=8) zd.nd rfl (Or.inl rfl)) tS))) tS)))
   (rk (sr (vz (uC (rM Ag (hr.mono Ei) (qX (qV 0) (qX (sW (qV 1) (uj (qX (sM (qX (qV 5) (qX (qV 6) (qX (qV 7) rg)))) rg))) (qX (xq (qV 2) rz) (qX (qV 8) rg)))))))
    (rk (rB tV))
    so)))
  (rk (rB tV)))))))
theorem Rb:FnScope ["many","asks","paper"] ["many","asks","paper"] (rh (top 41)):=⟨rfl,rfl,rfl,by decide +kernel,rfl,by decide +kernel,by decide +kernel⟩
def EI(tq:C0)(uM:C0)(uE:D)(uD:D):SV:=
  (rf (uv (vL tq (qW (be 0) (qW (vC uD) (qW (vC uE) qZ)))))
  (rn (vL uM (qW (be 0) (qW (vL sG qZ) (qW (be 1) (qW (be 2) qZ)))))))
def BL(tq:C0)(uM:C0)(uE:D)(uD:D):C0:=rY 3 3 (EI tq uM uE uD)
theorem Tp{tq uM:C0}{xc z5 k:Nat}{uE:D}{v_GREATEST_THINGS:V}{u_GREATEST_THINGS:Value}{uD:D}{v_LEAST_THINGS:V}{u_LEAST_THINGS:Value}(F:Fun K "holds" "holds" (top 41) f fd) (wx:Df P w K mg base xc "check_many" ["many","least","greatest"] (spM K tq)) (zZ:xc<=k) (Ag:Df P w K mg base z5 "is_let_by" ["many","answers","asks","paper"] (spM K uM)) (Ei:z5<=k) (vy:mg "GREATEST_THINGS"=some u_GREATEST_THINGS/\RelV v_GREATEST_THINGS u_GREATEST_THINGS/\∀W,DR K W uE v_GREATEST_THINGS) (vI:mg "LEAST_THINGS"=some u_LEAST_THINGS/\RelV v_LEAST_THINGS u_LEAST_THINGS/\∀W,DR K W uD v_LEAST_THINGS):FnOk P w K mg base CX0 (k+1) f fd ["many","asks","paper"] (spM K (BL tq uM uE uD)):=by
 unfold BL EI;exact sq F Rb fun cdv A outer s H E hr=>
  (rl (xI (rM wx (hr.mono zZ) (qX (qV 0) (qX (u9 vI.1 vI.2.1 vI.2.2) (qX (u9 vy.1 vy.2.1 vy.2.2) rg)))))
  (rk (rB (rM Ag (hr.mono Ei) (qX (qV 0) (qX (uj rg) (qX (qV 1) (qX (qV 2) rg))))))))
theorem Dl:FnScope ["many","answers","asks","i","j","alike","rest"] ["many","answers","asks","i","j"] (rh (top 42)):=⟨rfl,rfl,rfl,by decide +kernel,rfl,by decide +kernel,by decide +kernel⟩
def DW(uz:C0):SV:=
  (rf (tF (ivT (vL rX (qW (vC (.bl true)) (qW (vC (.bl false)) qZ)))) (qY 5)
   (rf (rF (vL uz (qW (be 0) (qW (v2 rP (be 1) (vL sG (qW (vL rX (qW (be 3) (qW (be 4) (qW (be 5) qZ)))) qZ))) (qW (v2 wu (be 2) (vC (.int 1))) qZ)))) (qY 6))
   (sIf (vT (v2 wk (be 6) (vC .non)))
    (rn (vL rX (qW (be 5) (qW (be 6) qZ))))
    sNx)))
  (rn (vC .non)))
def yW(uz:C0):C0:=rY 7 5 (DW uz)
theorem To{uz:C0}{Aq k:Nat}(F:Fun K "row_behind" "row_behind" (top 42) f fd) (zO:Df P w K mg base Aq "paper_behind" ["many","answers","asks"] (spM K uz)) (Ez:Aq<=k):FnOk P w K mg base CX0 (k+1) f fd ["many","answers","asks","i","j"] (spM K (yW uz)):=by
 unfold yW DW;exact sq F Dl fun cdv A outer s H E hr=>
  (rl (t8 Xl rfl (B3 (sM (qX tV (qX tV rg)))) (rD (i:=5) Dl.nd rfl (Or.inl rfl))
   (rl (sf (i:=6) Dl.nd rfl (Or.inl rfl) (rM zO (hr.mono Ez) (qX (qV 0) (qX (sW (qV 1) (uj (qX (sM (qX (qV 3) (qX (qV 4) (qX (qV 5) rg)))) rg))) (qX (xq (qV 2) rz) rg)))))
   (rk (sr (Jj (qV 6) ua)
    (rk (rB (sM (qX (qV 5) (qX (qV 6) rg)))))
    so))))
  (rk (rB ua)))
theorem Am:FnScope ["many","answers","asks","paper","i","j","row"] ["many","answers","asks"] (rh (top 43)):=⟨rfl,rfl,rfl,by decide +kernel,rfl,by decide +kernel,by decide +kernel⟩
def AN(sd:C0)(sH:C0)(tt:C0)(yG:C0)(sA:D):SV:=
  (rf (sIf (tU (sD (vL sd (qW (be 0) (qW (be 1) qZ)))))
   (rn (vC .non))
   sNx)
  (rf (sIf (vT (v2 fEq (be 2) (vC (.int 0))))
   (rn (vIf (vT (v2 fEq (vL sH (qW (be 0) (qW (be 1) qZ))) (vC sA))) (vL rX qZ) (vC .non)))
   sNx)
  (rf (rF (vL uB qZ) (qY 3))
  (rf (tF (ivL (vL tt (qW (be 0) qZ))) (rT 2 (rm (qY 4) (rm (qY 5) si)))
   (rf (rF (vL yG (qW (be 0) (qW (be 1) (qW (be 2) (qW (be 4) (qW (be 5) qZ)))))) (qY 6))
   (rf (sIf (vT (v2 vc (be 6) (vC .non)))
    (rn (vC .non))
    sNx)
   (uv (wa uL (be 3) (be 6))))))
  (rn (zS (be 3)))))))
def Ae(sd:C0)(sH:C0)(tt:C0)(yG:C0)(sA:D):C0:=rY 7 3 (AN sd sH tt yG sA)
theorem Sk{sd sH tt yG:C0}{uq u5 xb JC k:Nat}{sA:D}{v_OPEN:V}{u_OPEN:Value}(F:Fun K "paper_behind" "paper_behind" (top 43) f fd) (ud:Df P w K mg base uq "can_be" ["many","answers"] (spM K sd)) (wp:uq<=k) (uU:Df P w K mg base u5 "tells" ["many","answers"] (spM K sH)) (xS:u5<=k) (wn:Df P w K mg base xb "pairs_of" ["many"] (spM K tt)) (z4:xb<=k) (DN:Df P w K mg base JC "row_behind" ["many","answers","asks","i","j"] (spM K yG)) (Rw:JC<=k) (tp:mg "OPEN"=some u_OPEN/\RelV v_OPEN u_OPEN/\∀W,DR K W sA v_OPEN):FnOk P w K mg base CX0 (k+1) f fd ["many","answers","asks"] (spM K (Ae sd sH tt yG sA)):=by
 unfold Ae AN;exact sq F Am fun cdv A outer s H E hr=>
  (rl (sr (vz (uC (rM ud (hr.mono wp) (qX (qV 0) (qX (qV 1) rg)))))
   (rk (rB ua))
   so)
  (rl (sr (u6 hr (qV 2) rz)
   (rk (rB (Fa (u6 hr (rM uU (hr.mono xS) (qX (qV 0) (qX (qV 1) rg))) (u9 tp.1 tp.2.1 tp.2.2)) (sM rg) ua)))
   so)
  (rl (sf (i:=3) Am.nd rfl (Or.inl rfl) (AC rg))
  (rl (t8 Xl rfl (tR (rM wn (hr.mono z4) (qX (qV 0) rg))) (tY (n:=2) (rZ (rD (i:=4) Am.nd rfl (Or.inl rfl)) (rZ (rD (i:=5) Am.nd rfl (Or.inl rfl)) tS)))
   (rl (sf (i:=6) Am.nd rfl (Or.inl rfl) (rM DN (hr.mono Rw) (qX (qV 0) (qX (qV 1) (qX (qV 2) (qX (qV 4) (qX (qV 5) rg)))))))
   (rl (sr (Az (qV 6) ua)
    (rk (rB ua))
    so)
   (rk (xI (CD (qV 3) (qV 6)))))))
  (rk (rB (IK (qV 3))))))))
theorem Ef:FnScope ["many","asks","tree"] ["many"] (rh (top 44)):=⟨rfl,rfl,rfl,by decide +kernel,rfl,by decide +kernel,by decide +kernel⟩
def CM(tq:C0)(ya:C0)(uz:C0)(uE:D)(uD:D):SV:=
  (rf (uv (vL tq (qW (be 0) (qW (vC uD) (qW (vC uE) qZ)))))
  (rf (rF (vL ya (qW (be 0) qZ)) (rT 2 (rm (qY 1) (rm (qY 2) si))))
  (rn (vL uz (qW (be 0) (qW (vL sG qZ) (qW (v2 wu (be 1) (vC (.int 1))) qZ)))))))
def AS(tq:C0)(ya:C0)(uz:C0)(uE:D)(uD:D):C0:=rY 3 1 (CM tq ya uz uE uD)
theorem MW{tq ya uz:C0}{xc Md Aq k:Nat}{uE:D}{v_GREATEST_THINGS:V}{u_GREATEST_THINGS:Value}{uD:D}{v_LEAST_THINGS:V}{u_LEAST_THINGS:Value}(F:Fun K "holding_paper" "holding_paper" (top 44) f fd) (wx:Df P w K mg base xc "check_many" ["many","least","greatest"] (spM K tq)) (zZ:xc<=k) (FB:Df P w K mg base Md "fewest" ["many"] (spM K ya)) (T7:Md<=k) (zO:Df P w K mg base Aq "paper_behind" ["many","answers","asks"] (spM K uz)) (Ez:Aq<=k) (vy:mg "GREATEST_THINGS"=some u_GREATEST_THINGS/\RelV v_GREATEST_THINGS u_GREATEST_THINGS/\∀W,DR K W uE v_GREATEST_THINGS) (vI:mg "LEAST_THINGS"=some u_LEAST_THINGS/\RelV v_LEAST_THINGS u_LEAST_THINGS/\∀W,DR K W uD v_LEAST_THINGS):FnOk P w K mg base CX0 (k+1) f fd ["many"] (spM K (AS tq ya uz uE uD)):=by
 unfold AS CM;exact sq F Ef fun cdv A outer s H E hr=>
  (rl (xI (rM wx (hr.mono zZ) (qX (qV 0) (qX (u9 vI.1 vI.2.1 vI.2.2) (qX (u9 vy.1 vy.2.1 vy.2.2) rg)))))
  (rl (zJ (rM FB (hr.mono T7) (qX (qV 0) rg)) (tY (n:=2) (rZ (rD (i:=1) Ef.nd rfl (Or.inl rfl)) (rZ (rD (i:=2) Ef.nd rfl (Or.inl rfl)) tS))))
  (rk (rB (rM zO (hr.mono Ez) (qX (qV 0) (qX (uj rg) (qX (xq (qV 1) rz) rg))))))))
end
def dA(a:An):D:=.tup [.int (a.1:Int),.int (a.2.1:Int),.bl a.2.2]
def Ls(L:M)(d:D)(ds:List D):Prop:=su L d=some ds/\∃c,lsC L d=some (ds,c)/\rJ c L/\∀Z5,Gr L Z5->rJ c Z5
def Ls.lst{L:M}{ds:List D}:Ls L (.lst ds) ds:=⟨rfl,none,rfl,trivial,fun _ _=>trivial⟩
def Ls.ref{L:M}{k:Nat}{ds:List D}(h:L[k]?=some (some (.lst ds))):Ls L (.ref k) ds:=⟨y2 h,_,Dz h,h,fun _ g=>g.get h⟩
def Fz{L:M}{d:D}{ds:List D}(h:Ls L d ds):(∃k,d=.ref k/\L[k]?=some (some (.lst ds)))\/(d=.lst ds)\/d=.scr ds:=by
 obtain⟨h1,_⟩:=h;cases d with
 |lst xs=>cases h1;exact .inr (.inl rfl)
 |scr xs=>cases h1;exact .inr (.inr rfl)
 |ref k=>
  simp only[su] at h1;split at h1
  ·rename_i xs hk;cases h1;exact .inl ⟨k,rfl,hk⟩
  ·cases h1
 |_=>cases h1
def Ls.gr{L Z5:M}{d:D}{ds:List D}(h:Ls L d ds)(g:Gr L Z5):Ls Z5 d ds:=by
 rcases Fz h with⟨k,rfl,hk⟩|rfl|rfl
 ·exact .ref (g.get hk)
 ·exact .lst
 ·exact⟨rfl,none,rfl,trivial,fun _ _=>trivial⟩
theorem forX_inv{c:Ck}{g:GV}{body:SX}(Pv:G->M->Prop):∀(its:List D) (O:G) (L:M),Pv O L->
  (∀d∈its,∀O L,Pv O L->∃ZY Z4 ZW Z3,g d O L=some (ZY,Z4)/\body ZY Z4=some (.nx,ZW,Z3)/\rJ c Z3/\Pv ZW Z3)->∃ZX Z5,vZ c g body its O L=some (.nx,ZX,Z5)/\Pv ZX Z5
 | [],O,L,h,_=>⟨O,L,rfl,h⟩
 |d::r,O,L,h,hs=>by
  obtain⟨ZY,Z4,ZW,Z3,h1,h2,h3,h4⟩:=hs d (by simp) O L h;obtain⟨ZX,Z5,h5,h6⟩:=forX_inv Pv r ZW Z3 h4 fun d hd=>hs d (by simp[hd]);refine⟨ZX,Z5,?_,h6⟩;simp only[vZ,h1,bs,h2];rw[ur h3,h5]
def Ok2(n:Nat)(as:List An):Prop:=∀a∈as,a.1<n/\a.2.1<n/\a.1≠a.2.1
def Ok2.inN{n:Nat}{as:List An}(h:Ok2 n as):InN n as:=fun a ha=>⟨(h a ha).1,(h a ha).2.1⟩
def MY{C:Addr}{n:Nat}{d:D}{as:List An}{L:M}(hl:Ls L d (as.map dA))(hv:Ok2 n as):Ac C [.int (n:Int),d] L=some (.ok .non,L):=by
 obtain⟨h1,c,h2,h3,h4⟩:=hl;have main:=forX_inv (c:=c) (g:=(rT 3 (rm (qY 2) (rm (qY 3) (rm (qY 4) si))))) (body:=(sX (ut (upB (tU (xW (vT (vt fLe fLt (vC (.int 0)) (be 2) (be 0))) (vT (vt fLe fLt (vC (.int 0)) (be 3) (be 0))))))
    (wz C ((be 2)::((be 3)::((be 0)::[]))))
    (upS sNx))
   (ut (upB (vT (v2 fEq (be 2) (be 3))))
    (wz C ((be 2)::[]))
    (upS sNx))))
  (fun O Z5=>Z5=L/\∃o2 o3 o4,O=[some (.int (n:Int)),some d,o2,o3,o4]) (as.map dA) [some (.int (n:Int)),some d,none,none,none] L ⟨rfl,_,_,_,rfl⟩ ?_
 ·obtain⟨ZX,Z5,e,rfl,o2,o3,o4,rfl⟩:=main;refine Mp (ZY:=[some (.int (n:Int)),some d,o2,o3,o4]) rfl ?_;unfold DQ;show sX _ _ [some (.int (n:Int)),some d,none,none,none] Z5=_;have t:vT (v2 fLt (be 0) (vC (.int 0))) [some (.int (n:Int)),some d,none,none,none] Z5=some (false,Z5):=by
   have:¬((n:Int)<0):=by omega
   simp[fLt,fI0,this]
  rw[zg (ZY:=[some (.int (n:Int)),some d,none,none,none]) (Z4:=Z5) ((Ah (AB t)).trans (xx (o:=.nx) rfl))];have hi:ivL (be 1) [some (.int (n:Int)),some d,none,none,none] Z5=some ((as.map dA,c),Z5):=by
   simp[h2]
  show(ivL (be 1) _ Z5).bind _=_;rw[hi,bs];exact e
 ·rintro x hx O Z5 ⟨rfl,o2,o3,o4,rfl⟩;obtain⟨a,ha,rfl⟩:=Xm.mp hx;obtain⟨q1,q2,q3⟩:=hv a ha;refine⟨[some (.int (n:Int)),some d,some (.int (a.1:Int)),some (.int (a.2.1:Int)),some (.bl a.2.2)],Z5,[some (.int (n:Int)),some d,some (.int (a.1:Int)),some (.int (a.2.1:Int)),some (.bl a.2.2)],Z5,rfl,?_,h3,rfl,some (.int (a.1:Int)),some (.int (a.2.1:Int)),some (.bl a.2.2),rfl⟩;have t1:(tU (xW (vT (vt fLe fLt (vC (.int 0)) (be 2) (be 0))) (vT (vt fLe fLt (vC (.int 0)) (be 3) (be 0))))) [some (.int (n:Int)),some d,some (.int (a.1:Int)),some (.int (a.2.1:Int)),some (.bl a.2.2)] Z5=some (false,Z5):=by
   have b1:(0:Int)<=(a.1:Int):=by omega
   have b2:(0:Int)<=(a.2.1:Int):=by omega
   have b3:(a.1:Int)<(n:Int):=by omega
   have b4:(a.2.1:Int)<(n:Int):=by omega
   simp[fLe,fLt,fI0,b1,b2,b3,b4]
  have t2:vT (v2 fEq (be 2) (be 3)) [some (.int (n:Int)),some d,some (.int (a.1:Int)),some (.int (a.2.1:Int)),some (.bl a.2.2)] Z5=some (false,Z5):=by
   have:¬((a.1:Int)=(a.2.1:Int)):=by omega
   simp[fEq,eqD,this]
  rw[zg (ZY:=[some (.int (n:Int)),some d,some (.int (a.1:Int)),some (.int (a.2.1:Int)),some (.bl a.2.2)]) (Z4:=Z5) ((Ah (AB t1)).trans (xx (o:=.nx) rfl))];exact(Ah (AB t2)).trans (xx (o:=.nx) rfl)
def kvH(hs:List (Nat×Nat)):List (Key×D):=hs.map fun p=>(Sum.inl (p.1:Int),D.int (p.2:Int))
def CU(hs:List (Nat×Nat))(x:Nat):tP (kvH hs) (Sum.inl (x:Int))=(rH hs x).map fun r=>D.int (r:Int):=by
 unfold tP rH kvH;induction hs with
 |nil=>rfl
 |cons p r ih=>
  rw[WT,WX,WX];by_cases z:p.1=x
  ·subst z;simp
  ·have z':¬((Sum.inl (p.1:Int):Key)=Sum.inl (x:Int)):=fun e=>z (by injection e with e;omega);simp only[z,z',decide_false];exact ih
def JV{kvs:List (Key×D)}{k:Key}(v:D)(h:tP kvs k=none):um kvs k v=kvs++[(k,v)]:=by
 unfold um;rw[if_neg];intro hc;obtain⟨kv,hm,he⟩:=X5.mp hc;unfold tP at h;rw[Option.map_eq_none_iff,XU] at h;exact h kv hm he
def JA{hs:List (Nat×Nat)}{k:Nat}(v:Nat)(h:k∉hs.map (·.1)):um (kvH hs) (Sum.inl (k:Int)) (.int (v:Int))=kvH (hs++[(k,v)]):=by
 rw[JV _ (by rw[CU,hVal_none.mpr h];rfl)];simp[kvH]
theorem Kv{o w:Nat}{n:Nat}:∀(hs done:List (Nat×Nat)) (o1 o2:Option D) (L:M),L[n]?=some (some (.dK (kvH (sT done o w))))->((done++hs).map (·.1)).Nodup->(done++hs).length<=100000->
  vE n none (rT 2 (rm (qY 0) (rm (qY 1) si))) rE (be 0) (vIf (vT (v2 fEq (be 1) (be 2))) (be 3) (be 1)) ((kvH hs).map fun kv=>.tup [zl kv.1,kv.2]) [o1,o2,some (.int (o:Int)),some (.int (w:Int))] L
   =some (L.set n (some (.dK (kvH (sT (done++hs) o w)))))
 | [],done,o1,o2,L,h,_,_=>by
  simp only[kvH,List.map_nil,vE,XC];congr 1;apply List.ext_getElem?;intro j;by_cases e:j=n
  ·subst e;rw[h,tT h];rfl
  ·rw[tM e]
 |p::hs,done,o1,o2,L,h,hn,hl=>by
  have hp:p.1∉(sT done o w).map (·.1):=by
   rw[Jn];rw[XI,List.nodup_append] at hn;exact fun hm=>hn.2.2 p.1 hm p.1 (by simp) rfl
  have e1:sT done o w++[(p.1,if p.2=o then w else p.2)]=sT (done++[p]) o w:=by simp[sT]
  have hset:=tT (y:=some (Z8.dK (kvH (sT (done++[p]) o w)))) h;have ih:=Kv (n:=n) (o:=o) (w:=w) hs (done++[p]) (some (.int (p.1:Int))) (some (.int (p.2:Int))) (L.set n (some (.dK (kvH (sT (done++[p]) o w))))) hset (by simpa using hn) (by simpa using hl);have hg:rT 2 (rm (qY 0) (rm (qY 1) si)) (.tup [.int (p.1:Int),.int (p.2:Int)]) [o1,o2,some (.int (o:Int)),some (.int (w:Int))] L=some ([some (.int (p.1:Int)),some (.int (p.2:Int)),some (.int (o:Int)),some (.int (w:Int))],L):=rfl;have hv:vIf (vT (v2 fEq (be 1) (be 2))) (be 3) (be 1) [some (.int (p.1:Int)),some (.int (p.2:Int)),some (.int (o:Int)),some (.int (w:Int))] L=some (.int ((if p.2=o then w else p.2:Nat):Int),L):=by
   by_cases z:p.2=o
   ·subst z;simp[fEq,eqD]
   ·have z':¬((p.2:Int)=(o:Int)):=by omega
    simp[fEq,eqD,z,z']
  have hk:be 0 [some (.int (p.1:Int)),some (.int (p.2:Int)),some (.int (o:Int)),some (.int (w:Int))] L=some (.int (p.1:Int),L):=rfl;show vE n none _ rE (be 0) _ (.tup [.int (p.1:Int),.int (p.2:Int)]::(kvH hs).map fun kv=>.tup [zl kv.1,kv.2]) _ L=_;simp only[vE,hg,bs];show(rE _ _).bind _=_;simp only[rE,bs,if_true,hk,hv,vK,tf,h];rw[ur ⟨by simp[kvH,sT];simp at hl;omega,trivial⟩,JA _ hp,e1];rw[ih];congr 1;rw[List.set_set,List.append_assoc];rfl
theorem Pk{h o w:Nat}{hs:List (Nat×Nat)}{L:M}(hh:L[h]?=some (some (.dK (kvH hs))))(hn:hNd hs)(hl:hs.length<=100000):
  va [.ref h,.int (o:Int),.int (w:Int)] L=some (.ref L.length,L.set h none++[some (.dK (kvH (sT hs o w)))]):=by
 have hlen:(L.set h none).length=L.length:=X0 ..;have h0:(L.set h none++[some (Z8.dK [])])[L.length]?=some (some (.dK (kvH (sT [] o w)))):=by
  rw[Xn (by omega),hlen];simp[kvH,sT]
 have e:=Kv (o:=o) (w:=w) (n:=L.length) hs [] none none (L.set h none++[some (.dK [])]) h0 (by simpa[hNd] using hn) (by simpa using hl);have hv:Cl ["thing","home"] [("old",1),("new",2)] (be 0) (rT 2 (rm (qY 0) (rm (qY 1) si))) rE (be 0) (vIf (vT (v2 fEq (be 1) (be 2))) (be 3) (be 1)) [some (.ref h),some (.int (o:Int)),some (.int (w:Int))] L=some (.ref L.length,L.set h none++[some (.dK (kvH (sT hs o w)))]):=by
  unfold Cl;have hv0:be 0 [some (.ref h),some (.int (o:Int)),some (.int (w:Int))] L=some (.ref h,L):=rfl;rw[hv0,bs];show(tf L (.ref h)).bind _=_;simp only[tf,hh,bs];rw[ur (by simp[kvH];omega)];have hc:sh (["thing","home"]:List Str) [("old",1),("new",2)] [some (.ref h),some (.int (o:Int)),some (.int (w:Int))]=[none,none,some (.int (o:Int)),some (.int (w:Int))]:=rfl;rw[hc,e,bs];congr 2;have:(L.set h none++[some (Z8.dK [])]).set L.length (some (.dK (kvH (sT ([]++hs) o w))))=L.set h none++[some (.dK (kvH (sT hs o w)))]:=by
   rw[List.set_append_right _ _ (by omega),hlen];simp
  exact this
 unfold va EF;rw[vo,if_pos (show [D.ref h,D.int (o:Int),D.int (w:Int)].length=3 from rfl)];show ui (rn _ [some (.ref h),some (.int (o:Int)),some (.int (w:Int))] L)=_;rw[yq,hv];rfl
structure On (s:Nat) (L Z5:M):Prop where
 len:Z5.length=L.length
 at_:∀j,j≠s->Z5[j]?=L[j]?
def On.refl{s:Nat}{L:M}:On s L L:=⟨rfl,fun _ _=>rfl⟩
def Qz{s:Nat}{L:M}{o:Option Z8}:On s L (L.set s o):=⟨by simp,fun j n=>tM n⟩
def On.trans{s:Nat}{L Z4 Z3:M}(h:On s L Z4)(g:On s Z4 Z3):On s L Z3:=⟨g.len.trans h.len,fun j n=>(g.at_ j n).trans (h.at_ j n)⟩
def On.gr{s:Nat}{L Z4 Z3:M}(g:Gr L Z4)(h:On s Z4 Z3)(hs:L.length<=s):Gr L Z3:=⟨by rw[h.len];exact g.len,fun j hj=>by rw[h.at_ j (by omega)];exact g.at_ j hj⟩
theorem KZ{h x:Nat}{hs:List (Nat×Nat)}{L:M}{O:G}{ek:EV}(h0:O[1]?=some (some (.ref h)))(hk:ek O L=some (.int (x:Int),L))(hh:L[h]?=some (some (.dK (kvH hs))))(hl:hs.length<100000):
  ∃d Z5,uK (be 1) ek ek O L=some (d,Z5)/\Z5[h]?=some (some (.dK (kvH (rL hs x))))/\On h L Z5:=by
 have hv:be 1 O L=some (.ref h,L):=IX h0;have hd:tf L (.ref h)=some (kvH hs):=by simp only[tf,hh]
 have hlen:(kvH hs).length<1000000:=by simp[kvH];omega
 unfold uK;rw[hv,bs];simp only[hd,bs,hk,vK,if_pos hlen,CU];cases hx:rH hs x with
 |some r=>
  refine⟨.int (r:Int),L,rfl,?_,.refl⟩;unfold rL;rw[hx];exact hh
 |none=>
  refine⟨.int (x:Int),L.set h (some (.dK (um (kvH hs) (Sum.inl (x:Int)) (.int (x:Int))))),rfl,?_,Qz⟩;rw[tT hh,JA _ (hVal_none.mp hx)];unfold rL;rw[hx];rfl
def Bm{h x r:Nat}{hs:List (Nat×Nat)}{L:M}(hh:L[h]?=some (some (.dK (kvH hs))))(hx:rH hs x=some r):ue (.ref h) (.int (x:Int)) L=some (.int (r:Int),L):=by
 unfold ue;simp only[tf,hh,bs,vK,CU,hx];rfl
abbrev BU:SV:=(rf (uv (uK (be 1) (be 2) (be 2)))
   (rf (uv (uK (be 1) (be 3) (be 3)))
   (sIf (sD (be 4))
    (rF (vL va (qW (be 1) (qW (v2 ue (be 1) (be 3)) (qW (v2 ue (be 1) (be 2)) qZ)))) (qY 1))
    sNx)))
theorem V0{d:D}{h:Nat}{a:An}{hs:List (Nat×Nat)}{L:M}(hh:L[h]?=some (some (.dK (kvH hs))))(hn:hNd hs)(hl:hs.length<10000):
  ∃h' Z5,BU [some d,some (.ref h),some (.int (a.1:Int)),some (.int (a.2.1:Int)),some (.bl a.2.2)] L=some (.nx,[some d,some (.ref h'),some (.int (a.1:Int)),some (.int (a.2.1:Int)),some (.bl a.2.2)],Z5)/\Z5[h']?=some (some (.dK (kvH (uN hs a))))/\(∀Zn,Gr Zn L->Zn.length<=h->Gr Zn Z5/\Zn.length<=h'):=by
 obtain⟨d1,Z4,e1,h1,o1⟩:=KZ (x:=a.1) (O:=[some d,some (.ref h),some (.int (a.1:Int)),some (.int (a.2.1:Int)),some (.bl a.2.2)]) (ek:=be 2) rfl rfl hh (by omega);have l1:=AG hs a.1;obtain⟨d2,Z3,e2,h2,o2⟩:=KZ (x:=a.2.1) (O:=[some d,some (.ref h),some (.int (a.1:Int)),some (.int (a.2.1:Int)),some (.bl a.2.2)]) (ek:=be 3) (L:=Z4) rfl rfl h1 (by omega);have l2:=AG (rL hs a.1) a.2.1;have s12:BU [some d,some (.ref h),some (.int (a.1:Int)),some (.int (a.2.1:Int)),some (.bl a.2.2)] L=sIf (sD (be 4)) (rF (vL va (qW (be 1) (qW (v2 ue (be 1) (be 3)) (qW (v2 ue (be 1) (be 2)) qZ)))) (qY 1)) sNx [some d,some (.ref h),some (.int (a.1:Int)),some (.int (a.2.1:Int)),some (.bl a.2.2)] Z3:=by
  unfold BU;rw[uc,Ba,e1];show xY _ (some (.nx,_,Z4))=_;rw[wV,uc,Ba,e2];rfl
 rw[s12];have hb:sD (be 4) [some d,some (.ref h),some (.int (a.1:Int)),some (.int (a.2.1:Int)),some (.bl a.2.2)] Z3=some (a.2.2,Z3):=by simp
 cases hc:a.2.2 with
 |false=>
  rw[hc] at hb;refine⟨h,Z3,by rw[wG,hb];rfl,?_,fun Zn g0 hle=>⟨On.gr g0 (o1.trans o2) hle,hle⟩⟩;rw[h2];unfold uN;simp[hc]
 |true=>
  rw[hc] at hb;have vi:∃r,rH (rL (rL hs a.1) a.2.1) a.1=some r:=by
   rw[xF];split
   ·exact⟨_,rfl⟩
   ·rw[xF,if_pos rfl];exact⟨_,rfl⟩
  have vj:∃r,rH (rL (rL hs a.1) a.2.1) a.2.1=some r:=by rw[xF,if_pos rfl];exact⟨_,rfl⟩
  obtain⟨ri,hi⟩:=vi;obtain⟨rj,hj⟩:=vj;have nd2:=AK (AK hn a.1) a.2.1;have em:=Pk (o:=rj) (w:=ri) h2 nd2 (by omega);refine⟨Z3.length,Z3.set h none++[some (.dK (kvH (sT (rL (rL hs a.1) a.2.1) rj ri)))],?_,?_,fun Zn g0 hle=>?_⟩
  ·rw[wG,hb];show rF _ _ _ _=_;have gj:=Bm h2 hj;have gi:=Bm h2 hi;simp[gj,gi,em]
  ·have:(Z3.set h none).length=Z3.length:=X0 ..;rw[Xn (by omega),this];simp[uN,hc,hi,hj]
  ·have g2:=On.gr g0 (o1.trans o2) hle;refine⟨⟨by simp;have:=g2.len;omega,fun j hj'=>?_⟩,g2.len⟩;have hlt:j<Z3.length:=by have:=g2.len;omega
   rw[WV (by simpa using hlt),tM (by omega)];exact g2.at_ j hj'
def Pf{d:D}{as:List An}{L:M}(hl:Ls L d (as.map dA))(hs:as.length<=1000):∃h Z5,xP va [d] L=some (.ref h,Z5)/\Z5[h]?=some (some (.dK (kvH (sP as))))/\Gr L Z5:=by
 obtain⟨h1,c,h2,h3,h4⟩:=hl;have main:=BT (c:=c) (g:=(rT 3 (rm (qY 2) (rm (qY 3) (rm (qY 4) si))))) (body:=BU)
  (fun i O Z5=>∃h o2 o3 o4,O=[some d,some (.ref h),o2,o3,o4]/\Z5[h]?=some (some (.dK (kvH (sP (as.take i)))))/\Gr L Z5/\L.length<=h)
  (as.map dA) 0 [some d,some (.ref L.length),none,none,none] (L++[some (.dK [])]) ⟨L.length,_,_,_,rfl,by simp[kvH,sP],gr_app,WJ _⟩ ?_
 ·obtain⟨ZX,Z5,e,h,o2,o3,o4,rfl,hh,g,_⟩:=main;rw[Yg,WQ,List.take_length] at hh;refine⟨h,Z5,?_,hh,g⟩;unfold xP Ds;rw[vo,if_pos (show [d].length=1 from rfl)];show ui (rf _ _ [some d,none,none,none,none] L)=_;have s1:rF z6 (qY 1) [some d,none,none,none,none] L=some (.nx,[some d,some (.ref L.length),none,none,none],L++[some (.dK [])]):=rfl;have hi:ivL (be 0) [some d,some (.ref L.length),none,none,none] (L++[some (.dK [])])=some ((as.map dA,c),L++[some (.dK [])]):=by
   have hL:Ls (L++[some (.dK [])]) d (as.map dA):=Ls.gr ⟨h1,c,h2,h3,h4⟩ gr_app;have:lsC (L++[some (.dK [])]) d=some (as.map dA,c):=by
    cases d with
    |ref k=>
     rcases Fz (L:=L) (d:=.ref k) ⟨h1,c,h2,h3,h4⟩ with⟨k',e,hk⟩|e|e
     ·cases e;rw[Dz hk] at h2;rw[Dz ((gr_app (ex:=[some (.dK [])])).get hk)];exact h2
     ·cases e
     ·cases e
    |_=>exact h2
   simp[this]
  rw[uc,s1,wV,uc,x5,hi,xN,e];rfl
 ·rintro j x O Z4 hx ⟨h,o2,o3,o4,rfl,hh,g,hle⟩;rw[Yg] at hh;rw[WY] at hx;cases ha:as[j]? with
  |none=>rw[ha] at hx;cases hx
  |some a=>
   rw[ha] at hx;cases hx;have hlen:(sP (as.take j)).length<10000:=by
    have:=VD (as.take j);have:=List.length_take_le j as;rw[X4] at*;omega
   obtain⟨h',Z3,e,hh2,hg⟩:=V0 (d:=d) (a:=a) hh (T5 _) hlen;obtain⟨g2,hle2⟩:=hg L g hle;refine⟨[some d,some (.ref h),some (.int (a.1:Int)),some (.int (a.2.1:Int)),some (.bl a.2.2)],Z4,_,Z3,rfl,e,h4 _ g2,h',some (.int (a.1:Int)),some (.int (a.2.1:Int)),some (.bl a.2.2),rfl,?_,g2,hle2⟩;rw[hh2,Yg,Qo as j a ha]
theorem A9{c:Ck}{g:GV}{tc:BV}{te:EV}{J:Type}{dn:J->D}{keep:J->Bool}{val:J->D}(Pv:G->Prop){L:M}(hc:rJ c L):∀(l:List J) (O:G),Pv O->
  (∀x∈l,∀O,Pv O->∃ZY,g (dn x) O L=some (ZY,L)/\tc ZY L=some (keep x,L)/\(keep x=true->te ZY L=some (val x,L))/\Pv ZY)->
  sw c g tc te (l.map dn) O L=some ((l.filter keep).map val,L)
 | [],_,_,_=>rfl
 |x::r,O,h,hs=>by
  obtain⟨ZY,h1,h2,h3,h4⟩:=hs x (by simp) O h;have ih:=A9 Pv hc r ZY h4 fun x hx=>hs x (by simp[hx]);simp only[WT,sw,h1,bs,h2];cases hk:keep x with
  |true=>simp only[if_true,h3 hk,bs,ur hc,ih,List.filter_cons_of_pos hk,WT]
  |false=>simp only[Xt,if_false,ur hc,ih,Yl,hk]
def Kq{J:Type}(l:List J):l.filter (fun _=>true)=l:=X3.mpr (by simp)
section
variable {J:Type} {own:Str} {cap:List (Str×Nat)} {rA:G} {iv:IV} {tc:BV} {te:EV} {O:G} {L:M} {c:Ck} {l:List J} {dn:J->D}
theorem P0{keep:J->Bool}{val:J->D}(hi:iv O L=some ((l.map dn,c),L))(hl:l.length<=1000000)(hc:rJ c L)(he:sh [own] cap O=none::rA)
  (ht:∀x∈l,tc (some (dn x)::rA) L=some (keep x,L)) (hv:∀x∈l,keep x=true->te (some (dn x)::rA) L=some (val x,L)):sC [own] cap iv (qY 0) tc te O L=some (.lst ((l.filter keep).map val),L):=by
 rw[E1,hi,Dd,if_pos (by simpa using hl),he];rw[A9 (g:=qY 0) (tc:=tc) (te:=te) (keep:=keep) (val:=val) (fun O=>∃o,O=o::rA) hc l (none::rA) ⟨none,rfl⟩ (by
  rintro x hx O ⟨o,rfl⟩;exact⟨some (dn x)::rA,rfl,ht x hx,hv x hx,_,rfl⟩)]
 rfl
theorem Dr{val:J->D}(hi:iv O L=some ((l.map dn,c),L))(hl:l.length<=1000000)(hc:rJ c L)(he:sh [own] cap O=none::rA)
  (hv:∀x∈l,te (some (dn x)::rA) L=some (val x,L)):sC [own] cap iv (qY 0) rE te O L=some (.lst (l.map val),L):=by
 rw[P0 (keep:=fun _=>true) (val:=val) hi hl hc he (fun _ _=>rfl) (fun x hx _=>hv x hx),Kq]
end
def Ls.iv{L:M}{d:D}{ds:List D}{O:G}{i:Nat}(h:Ls L d ds)(Y7:O[i]?=some (some d)):∃c,ivL (be i) O L=some ((ds,c),L)/\rJ c L/\∀Z5,Gr L Z5->rJ c Z5:=by
 obtain⟨h1,c,h2,h3,h4⟩:=h;exact⟨c,by unfold ivL;rw[IX Y7,bs];show(lsC L d).bind _=_;rw[h2,bs],h3,h4⟩
section
variable {C CF:Addr} {n:Nat} {d:D} {as:List An} {L:M}
abbrev vm(C:Addr):FX:=CQ (xP va) (Ac C)
abbrev E7(C CF:Addr):FX:=Eh (vm C) CF
theorem GX(hl:Ls L d (as.map dA))(hv:Ok2 n as)(hs:as.length<=1000):∃Z5,vm C [.int (n:Int),d] L=some (.ok (.bl (sj as)),Z5)/\Gr L Z5:=by
 obtain⟨h,Z4,e1,hh,g⟩:=Pf hl hs;refine⟨Z4,?_,g⟩;have hc1:=MY (C:=C) hl hv;obtain⟨c,hi,hck,_⟩:=(hl.gr g).iv (O:=[some (.int (n:Int)),some d,some (.ref h)]) (i:=1) rfl;have hcmp:sC ["i","j","alike"] [("homes",2)] (ivL (be 1)) (rT 3 (rm (qY 0) (rm (qY 1) (rm (qY 2) si)))) rE (vOr (be 2) (v2 fNe (v2 ue (be 3) (be 0)) (v2 ue (be 3) (be 1)))) [some (.int (n:Int)),some d,some (.ref h)] Z4=some (.lst ((as.map fun a=>a.2.2||!decide (rH (sP as) a.1=rH (sP as) a.2.1)).map D.bl),Z4):=by
  rw[E1,hi,Dd,if_pos (by simp;omega)];have ec:sh (["i","j","alike"]:List Str) [("homes",2)] [some (.int (n:Int)),some d,some (.ref h)]=[none,none,none,some (.ref h)]:=rfl;rw[ec,A9 (dn:=dA) (keep:=fun _=>true) (val:=fun a=>D.bl (a.2.2||!decide (rH (sP as) a.1=rH (sP as) a.2.1))) (fun O=>∃o1 o2 o3,O=[o1,o2,o3,some (.ref h)]) hck as _ ⟨_,_,_,rfl⟩ ?_,Kq]
  ·simp
  ·rintro a ha O ⟨o1,o2,o3,rfl⟩;obtain⟨n1,n2⟩:=(D5 as).named a ha;obtain⟨r1,q1⟩:=XD.mp n1;obtain⟨r2,q2⟩:=XD.mp n2;have g1:=Bm hh q1;have g2:=Bm hh q2;refine⟨[some (.int (a.1:Int)),some (.int (a.2.1:Int)),some (.bl a.2.2),some (.ref h)],rfl,rfl,fun _=>?_,_,_,_,rfl⟩;have ht:v2 fNe (v2 ue (be 3) (be 0)) (v2 ue (be 3) (be 1)) [some (.int (a.1:Int)),some (.int (a.2.1:Int)),some (.bl a.2.2),some (.ref h)] Z4=some (.bl (!decide (rH (sP as) a.1=rH (sP as) a.2.1)),Z4):=by
    rw[e_2 (x:=.int (r1:Int)) (Z4:=Z4) (y:=.int (r2:Int)) (Z3:=Z4) (by rw[e_2 (x:=.ref h) (Z4:=Z4) (y:=.int (a.1:Int)) (Z3:=Z4) rfl rfl];exact g1) (by rw[e_2 (x:=.ref h) (Z4:=Z4) (y:=.int (a.2.1:Int)) (Z3:=Z4) rfl rfl];exact g2),q1,q2];simp[fNe,eqD];omega
   cases hb:a.2.2 with
   |true=>rfl
   |false=>
    rw[hb] at ht;rw[Uy];show Bt _ _ (some (.bl false,Z4))=_;exact ht
 refine AE (ZY:=[some (.int (n:Int)),some d,some (.ref h)]) rfl ?_;unfold CC;show sX _ _ [some (.int (n:Int)),some d,none] L=_;rw[zg (ZY:=[some (.int (n:Int)),some d,none]) (Z4:=L) (Hg (d:=.non) (by rw[ze (ds:=[.int (n:Int),d]) (Z4:=L) (zy rfl)];exact hc1))];refine xx (o:=.rt _) ?_;have s1:rF (vL (xP va) (qW (be 1) qZ)) (qY 2) [some (.int (n:Int)),some d,none] L=some (.nx,[some (.int (n:Int)),some d,some (.ref h)],Z4):=by
  simp[e1]
 rw[uc,s1,wV,yq,e_1 hcmp];simp only[vJ,su,bs,IT];show some (Out.rt (.bl _),_,_)=_;congr 4;unfold sj;simp[List.all_map]
theorem T9(hl:Ls L d (as.map dA))(hv:Ok2 n as)(hs:as.length<=1000)(hc:sj as=true):∃Z5,E7 C CF [.int (n:Int),d] L=some (.ok .non,Z5)/\Gr L Z5:=by
 obtain⟨Z4,e,g⟩:=GX (C:=C) hl hv hs;rw[hc] at e;refine⟨Z4,Mp (ZY:=[some (.int (n:Int)),some d]) rfl ?_,g⟩;unfold Fq;show ut _ _ _ [some (.int (n:Int)),some d] L=_;have e2:vLX (vm C) (upL (qW (be 0) (qW (be 1) qZ))) [some (.int (n:Int)),some d] L=some (.ok (.bl true),Z4):=by
  rw[ze (ds:=[.int (n:Int),d]) (Z4:=L) (zy rfl)];exact e
 have e3:AR (bTX (vLX (vm C) (upL (qW (be 0) (qW (be 1) qZ))))) [some (.int (n:Int)),some d] L=some (.ok false,Z4):=by
  unfold AR bTX;rw[e2];rfl
 rw[Ah e3];exact xx (o:=.nx) rfl
end
def dI(s:List Int):D:=.lst (s.map D.int)
def Pe(a b:Bool)(L:M):eqD (.bl a) (.bl b) L=some (a==b):=by
 cases a<;>cases b<;>rfl
abbrev wW:SV:=(sIf (vT (v2 fNe (v2 fEq (v2 fIx (be 0) (be 2)) (v2 fIx (be 0) (be 3))) (be 4)))
    (rn (vC (.bl false)))
    sNx)
theorem Ix{s:List Int}{d:D}{c:Ck}{L:M}(hc:rJ c L):∀(as:List An) (o2 o3 o4:Option D),InN s.length as->
  (uX s as=true->∃o2' o3' o4',sk c (rT 3 (rm (qY 2) (rm (qY 3) (rm (qY 4) si)))) wW (as.map dA) [some (dI s),some d,o2,o3,o4] L=some (.nx,[some (dI s),some d,o2',o3',o4'],L))/\
  (uX s as=false->∃ZX,sk c (rT 3 (rm (qY 2) (rm (qY 3) (rm (qY 4) si)))) wW (as.map dA) [some (dI s),some d,o2,o3,o4] L=some (.rt (.bl false),ZX,L))
 | [],o2,o3,o4,_=>⟨fun _=>⟨o2,o3,o4,rfl⟩,fun h=>by cases h⟩
 |a::as,o2,o3,o4,hv=>by
  obtain⟨h1,h2⟩:=hv a (by simp);obtain⟨ih1,ih2⟩:=Ix (s:=s) (d:=d) hc as (some (.int (a.1:Int))) (some (.int (a.2.1:Int))) (some (.bl a.2.2)) (fun x hx=>hv x (by simp[hx]));have hg:rT 3 (rm (qY 2) (rm (qY 3) (rm (qY 4) si))) (dA a) [some (dI s),some d,o2,o3,o4] L=some ([some (dI s),some d,some (.int (a.1:Int)),some (.int (a.2.1:Int)),some (.bl a.2.2)],L):=rfl;have ix:∀x:Nat,x<s.length->fIx (dI s) (.int (x:Int)) L=some (.int (s.getD x 0),L):=fun x hx=>by
   simp only[fIx,dI,su];rw[wj (j:=x) (v:=.int (s.getD x 0)) (by rw[WY,WS];simp[WP hx])];rfl
  have t:vT (v2 fNe (v2 fEq (v2 fIx (be 0) (be 2)) (v2 fIx (be 0) (be 3))) (be 4)) [some (dI s),some d,some (.int (a.1:Int)),some (.int (a.2.1:Int)),some (.bl a.2.2)] L=some (!(decide (s.getD a.1 0=s.getD a.2.1 0)==a.2.2),L):=by
   rw[HB,e_2 (x:=.bl (decide (s.getD a.1 0=s.getD a.2.1 0))) (Z4:=L) (y:=.bl a.2.2) (Z3:=L) (by
    rw[e_2 (x:=.int (s.getD a.1 0)) (Z4:=L) (y:=.int (s.getD a.2.1 0)) (Z3:=L) (by rw[e_2 (x:=dI s) (Z4:=L) (y:=.int (a.1:Int)) (Z3:=L) rfl rfl];exact ix _ h1) (by rw[e_2 (x:=dI s) (Z4:=L) (y:=.int (a.2.1:Int)) (Z3:=L) rfl rfl];exact ix _ h2)];rfl) rfl]
   simp only[fNe,Pe,bs];rfl
  have ef:uX s (a::as)=((decide (s.getD a.1 0=s.getD a.2.1 0)==a.2.2)&&uX s as):=rfl;rw[ef];cases hb:(decide (s.getD a.1 0=s.getD a.2.1 0)==a.2.2) with
  |true=>
   rw[hb] at t;have hbd:wW [some (dI s),some d,some (.int (a.1:Int)),some (.int (a.2.1:Int)),some (.bl a.2.2)] L=some (.nx,[some (dI s),some d,some (.int (a.1:Int)),some (.int (a.2.1:Int)),some (.bl a.2.2)],L):=by
    unfold wW;rw[wG,t];rfl
   have step:sk c (rT 3 (rm (qY 2) (rm (qY 3) (rm (qY 4) si)))) wW ((a::as).map dA) [some (dI s),some d,o2,o3,o4] L=sk c (rT 3 (rm (qY 2) (rm (qY 3) (rm (qY 4) si)))) wW (as.map dA) [some (dI s),some d,some (.int (a.1:Int)),some (.int (a.2.1:Int)),some (.bl a.2.2)] L:=by
    rw[WT];simp only[sk,hg,bs,hbd];rw[ur hc]
   rw[step,Bool.true_and];exact⟨ih1,ih2⟩
  |false=>
   rw[hb] at t;have hbd:wW [some (dI s),some d,some (.int (a.1:Int)),some (.int (a.2.1:Int)),some (.bl a.2.2)] L=some (.rt (.bl false),[some (dI s),some d,some (.int (a.1:Int)),some (.int (a.2.1:Int)),some (.bl a.2.2)],L):=by
    unfold wW;rw[wG,t];rfl
   refine⟨fun z=>by simp at z,fun _=>⟨[some (dI s),some d,some (.int (a.1:Int)),some (.int (a.2.1:Int)),some (.bl a.2.2)],?_⟩⟩;rw[WT];simp only[sk,hg,bs,hbd]
def Ox{s:List Int}{d:D}{as:List An}{L:M}(hl:Ls L d (as.map dA))(hv:InN s.length as):wS [dI s,d] L=some (.bl (uX s as),L):=by
 obtain⟨c,hi,hck,_⟩:=hl.iv (O:=[some (dI s),some d,none,none,none]) (i:=1) rfl;obtain⟨l1,l2⟩:=Ix (s:=s) (d:=d) hck as none none none hv;unfold wS Fb;rw[vo,if_pos (show [dI s,d].length=2 from rfl)];show ui (rf _ _ [some (dI s),some d,none,none,none] L)=_;rw[uc,x5,hi,xN];cases hb:uX s as with
 |true=>
  obtain⟨o2,o3,o4,e⟩:=l1 hb;rw[e];rfl
 |false=>
  obtain⟨ZX,e⟩:=l2 hb;rw[e];rfl
def ext(m:Nat)(p:List Int×Nat):List (List Int×Nat):=(List.range (min (p.2+1) m)).map fun(i:Nat)=>(p.1++[(i:Int)],max p.2 (i+1))
def dS(p:List Int×Nat):D:=dI p.1
def Nm{L:M}{s:List Int×Nat}{k:Int}{n:Nat}(g:Gd n k.toNat s)(hn:n<=7):uH [dS s,.int k] L=some (.lst ((ext k.toNat s).map dS),L):=by
 have hl:s.1.length<=1000:=by rw[g.len];omega
 have hu:=g.used;have h2:=g.len2;have s1:rF (v2 rP (v2 zc (be 0) (v1 wL (vC (.int 1)))) (vC (.int 1))) (qY 2) [some (dS s),some (.int k),none] L=some (.nx,[some (dS s),some (.int k),some (.int (s.2:Int))],L):=by
  have e1:v2 zc (be 0) (v1 wL (vC (.int 1))) [some (dS s),some (.int k),none] L=some (.int ((mxL s.1).getD (-1)),L):=by
   rw[e_2 (x:=dS s) (Z4:=L) (y:=.int (-1)) (Z3:=L) rfl (by simp[wL])];simp only[zc,dS,dI,su,bs,NY]
  rw[Fm,e_2 (x:=.int ((mxL s.1).getD (-1))) (Z4:=L) (y:=.int 1) (Z3:=L) e1 rfl];simp only[rP,hu];rfl
 have s2:v2 zn (v2 rP (be 2) (vC (.int 1))) (be 1) [some (dS s),some (.int k),some (.int (s.2:Int))] L=some (.int (min ((s.2:Int)+1) k),L):=by
  rw[e_2 (x:=.int ((s.2:Int)+1)) (Z4:=L) (y:=.int k) (Z3:=L) (by simp[rP]) rfl];show some (D.int (if k<(s.2:Int)+1 then k else(s.2:Int)+1),L)=_;have e0:(if k<(s.2:Int)+1 then k else(s.2:Int)+1)=min ((s.2:Int)+1) k:=by
   simp only[Int.min_def];split<;>split<;>omega
  rw[e0]
 have s3:sC ["number"] [("sort",0)] (z7 (v2 zn (v2 rP (be 2) (vC (.int 1))) (be 1))) (qY 0) rE (v2 rP (be 1) (vL sG (qW (be 0) qZ))) [some (dS s),some (.int k),some (.int (s.2:Int))] L=some (.lst ((List.range (min (s.2+1) k.toNat)).map fun i:Nat=>dI (s.1++[(i:Int)])),L):=by
  refine Dr (l:=List.range (min (s.2+1) k.toNat)) (dn:=fun i:Nat=>D.int (i:Int)) (c:=none) (rA:=[some (dS s)]) ?_ (by simp;omega) trivial rfl ?_
  ·rw[MX s2 (by have:=Int.min_le_left ((s.2:Int)+1) k;omega)];have hm:(min ((s.2:Int)+1) k).toNat=min (s.2+1) k.toNat:=by simp only[Int.min_def,Nat.min_def];split<;>split<;>omega
   rw[hm];simp[rS]
  ·intro i _;rw[e_2 (x:=dS s) (Z4:=L) (y:=.lst [.int (i:Int)]) (Z3:=L) rfl rfl];show Ap (.lst (s.1.map D.int)) (.lst [.int (i:Int)]) L=_;unfold Ap;simp only[xi,bs];rw[if_pos (by simp;omega)];simp[dI]
 unfold uH DA;rw[vo,if_pos (show [dS s,D.int k].length=2 from rfl)];show ui (rf _ _ [some (dS s),some (.int k),none] L)=_;rw[uc,s1,wV,yq,s3];simp[ext,dS,Function.comp_def,ui,kRt]
theorem LM{J:Type}{f:J->D}{L:M}{k:D}:∀(l:List J) (a o:Option D),∃o',vf none (qY 1) rE (be 1) (l.map f) [a,o,some k] L=some (l.map f,[a,o',some k],L)
 | [],a,o=>⟨o,rfl⟩
 |p::l,a,o=>by
  obtain⟨o',e⟩:=LM l a (some (f p));refine⟨o',?_⟩;have hg:qY 1 (f p) [a,o,some k] L=some ([a,some (f p),some k],L):=rfl;have hv:be 1 [a,some (f p),some k] L=some (f p,L):=rfl;simp only[WT,vf,hg,bs];show(rE _ _).bind _=_;simp only[rE,bs,if_true,hv,v9];rw[e];rfl
theorem Lc{n:Nat}{k:Int}{L:M}(hn:n<=7):∀(ps:List (List Int×Nat)) (a o:Option D),(∀p∈ps,Gd n k.toNat p)->
  uk none (qY 0) rE (ivL (vL uH (qW (be 0) (qW (be 2) qZ)))) (qY 1) rE (be 1) (ps.map dS) [a,o,some (.int k)] L=some ((ps.flatMap (ext k.toNat)).map dS,L)
 | [],a,o,_=>rfl
 |p::ps,a,o,hg=>by
  have e1:=Nm (L:=L) (hg p (by simp)) hn;obtain⟨o',e3⟩:=LM (f:=dS) (L:=L) (k:=.int k) (ext k.toNat p) (some (dS p)) o;have e4:=Lc (L:=L) hn ps (some (dS p)) o' (fun q hq=>hg q (by simp[hq]));have h0:qY 0 (dS p) [a,o,some (.int k)] L=some ([some (dS p),o,some (.int k)],L):=rfl;have hv:ivL (vL uH (qW (be 0) (qW (be 2) qZ))) [some (dS p),o,some (.int k)] L=some (((ext k.toNat p).map dS,none),L):=by
   simp[e1,lsC]
  rw[WT];simp only[uk,h0,bs];show(rE _ _).bind _=_;simp only[rE,bs,if_true,hv,v9];rw[e3];simp only[bs,v9];rw[e4];simp
def VC(n m:Nat):Sx (n+1) m=(Sx n m).flatMap (ext m):=rfl
def KS{L:M}{n:Nat}{k:Int}{C:Addr}(hn:n<=7):x4 uH (.int 7) C [.int (n:Int),.int k] L=some (.ok (.lst ((Sx n k.toNat).map dS)),L):=by
 have main:=BT (c:=none) (g:=qY 3) (body:=(rF (wM ["sort","longer"] [("most",1)] (ivL (be 2)) (qY 0) rE (ivL (vL uH (qW (be 0) (qW (be 2) qZ)))) (qY 1) rE (be 1)) (qY 2)))
  (fun i O Z5=>∃(o:Option D),O=[some (.int (n:Int)),some (.int k),some (.lst ((Sx i k.toNat).map dS)),o]/\Z5=L)
  (rS 0 n) 0 [some (.int (n:Int)),some (.int k),some (.lst [.lst []]),none] L ⟨none,rfl,rfl⟩ ?_
 ·obtain⟨ZX,Z5,e,o,rfl,rfl⟩:=main;rw[Oi,Yg] at e;refine AE (ZY:=[some (.int (n:Int)),some (.int k),some (.lst ((Sx n k.toNat).map dS)),o]) rfl ?_;unfold CG;show sX _ _ [some (.int (n:Int)),some (.int k),none,none] Z5=_;have t:(bOr (vT (v2 fLt (be 0) (vC (.int 0)))) (vT (v2 fGt (be 0) (vC (.int 7))))) [some (.int (n:Int)),some (.int k),none,none] Z5=some (false,Z5):=by
   have a1:¬((n:Int)<0):=by omega
   have a2:¬((7:Int)<n):=by omega
   simp[fLt,fGt,fI0,a1,a2]
  rw[zg (ZY:=[some (.int (n:Int)),some (.int k),none,none]) (Z4:=Z5) ((Ah (AB t)).trans (xx (o:=.nx) rfl))];refine xx (o:=.rt _) ?_;have s1:rF (vL sG (qW (vL sG qZ) qZ)) (qY 2) [some (.int (n:Int)),some (.int k),none,none] Z5=some (.nx,[some (.int (n:Int)),some (.int k),some (.lst [.lst []]),none],Z5):=rfl;have hr:ivR (be 0) [some (.int (n:Int)),some (.int k),some (.lst [.lst []]),none] Z5=some ((rS 0 n,none),Z5):=by
   have hb:(-1000000000:Int)<=(n:Int)/\(n:Int)<=1000000000:=by omega
   simp[hb]
  rw[uc,s1,wV,uc,x5,hr,xN,e];rfl
 ·rintro j d O Z4 hd ⟨o,rfl,rfl⟩;obtain⟨hjn,rfl⟩:=Wy hd;rw[Yg];have e:=Lc (n:=j) (k:=k) (L:=Z4) (by omega) (Sx j k.toNat) none none (fun p hp=>yE _ j p hp);rw[←VC] at e;have hl:((Sx (j+1) k.toNat).map dS).length<=1000000:=by
   have:=B4 (n:=j+1) (by omega) k.toNat
   simp;omega
  refine⟨[some (.int (n:Int)),some (.int k),some (.lst ((Sx j k.toNat).map dS)),some (.int (j:Int))],Z4,[some (.int (n:Int)),some (.int k),some (.lst ((Sx (j+1) k.toNat).map dS)),some (.int (j:Int))],Z4,rfl,?_,trivial,some (.int (j:Int)),rfl,rfl⟩;have hv:ivL (be 2) [some (.int (n:Int)),some (.int k),some (.lst ((Sx j k.toNat).map dS)),some (.int (j:Int))] Z4=some (((Sx j k.toNat).map dS,none),Z4):=rfl;have hc:sh (["sort","longer"]:List Str) [("most",1)] [some (.int (n:Int)),some (.int k),some (.lst ((Sx j k.toNat).map dS)),some (.int (j:Int))]=[none,none,some (.int k)]:=rfl;rw[Fm,JH,hv,MO,hc,e,Lo,if_pos hl];rfl
section
variable {C CF CT:Addr} {n:Nat} {d:D} {as:List An} {L:M}
abbrev y8(C CF CT:Addr):FX:=CB wS (E7 C CF) (x4 uH (.int 7) CT)
theorem G6{n m:Nat}{s:List Int}(h:s∈(Sx n m).map (·.1)):s.length=n:=by
 obtain⟨p,hp,rfl⟩:=Xm.mp h;exact(yE m n p hp).len
theorem ST(hl:Ls L d (as.map dA))(hv:Ok2 n as)(hs:as.length<=1000)(hn:n<=7)(hc:sj as=true):∃Z5,y8 C CF CT [.int (n:Int),d] L=some (.ok (.lst ((sm n as).map dI)),Z5)/\Gr L Z5:=by
 obtain⟨Z4,e,g⟩:=T9 (C:=C) (CF:=CF) hl hv hs hc;refine⟨Z4,?_,g⟩;refine AE (ZY:=[some (.int (n:Int)),some d]) rfl ?_;unfold Fe;show sX _ _ [some (.int (n:Int)),some d] L=_;rw[zg (ZY:=[some (.int (n:Int)),some d]) (Z4:=Z4) (Hg (d:=.non) (by rw[ze (ds:=[.int (n:Int),d]) (Z4:=L) (zy rfl)];exact e))];refine JI ?_;have ea:vLX (x4 uH (.int 7) CT) (upL (qW (be 0) (qW (be 0) qZ))) [some (.int (n:Int)),some d] Z4=some (.ok (.lst (((Sx n n).map (·.1)).map dI)),Z4):=by
  rw[ze (ds:=[.int (n:Int),.int (n:Int)]) (Z4:=Z4) (zy rfl),KS hn];simp[dS,Function.comp_def]
 have hlen:((Sx n n).map (·.1)).length<=1000000:=by have:=B4 hn n;simp;omega
 have ec:sw none (qY 0) (sD (vL wS (qW (be 0) (qW (be 1) qZ)))) (be 0) (((Sx n n).map (·.1)).map dI) [none,some d] Z4=some ((((Sx n n).map (·.1)).filter fun s=>uX s as).map dI,Z4):=by
  refine A9 (c:=none) (fun O=>∃o,O=[o,some d]) trivial _ _ ⟨none,rfl⟩ ?_;rintro s hs O ⟨o,rfl⟩;have hf:=Ox (s:=s) (hl.gr g) (by rw[G6 hs];exact hv.inN);exact⟨[some (dI s),some d],rfl,by simp[hf],fun _=>rfl,_,rfl⟩
 unfold xJ;rw[ea];show(if(((Sx n n).map (·.1)).map dI).length<=1000000 then _ else _)=_;rw[if_pos (by simpa using hlen)];have hcap:sh (["sort"]:List Str) [("answers",1)] [some (.int (n:Int)),some d]=[none,some d]:=rfl;show(sw none (qY 0) (sD (vL wS (qW (be 0) (qW (be 1) qZ)))) (be 0) (((Sx n n).map (·.1)).map dI) (sh ["sort"] [("answers",1)] [some (.int (n:Int)),some d]) Z4).bind _=_;rw[hcap,ec];rfl
end
abbrev Gp:=Int×Nat×List Int
structure Gs (L:M) (lo:Nat) (b:Nat) (gs:List Gp):Prop where
 dic:L[b]?=some (some (.dK (gs.map fun g=>(Sum.inl g.1,D.ref g.2.1))))
 at_:∀g∈gs,L[g.2.1]?=some (some (.lst (g.2.2.map D.int)))
 key:(gs.map (·.1)).Nodup
 lo1:lo<=b
 lo2:∀g∈gs,lo<=g.2.1
 nd:(gs.map (·.2.1)).Nodup
 len:∀g∈gs,g.2.2.length<=1000
def tL(gs:List Gp):List (Int×List Int):=gs.map fun g=>(g.1,g.2.2)
def C5(gs:List Gp)(k:Int):tP (gs.map fun g=>((Sum.inl g.1:Key),D.ref g.2.1)) (Sum.inl k)=(gs.find? fun g=>decide (g.1=k)).map fun g=>D.ref g.2.1:=by
 unfold tP;induction gs with
 |nil=>rfl
 |cons p r ih=>
  rw[WT,WX,WX];by_cases z:p.1=k
  ·simp[z]
  ·have z':¬((Sum.inl p.1:Key)=Sum.inl k):=fun e=>z (by injection e);simp only[z,z',decide_false];exact ih
theorem Nc{gs:List Gp}{k t:Int}{g:Gp}(hk:(gs.map (·.1)).Nodup)(hf:gs.find? (fun g=>decide (g.1=k))=some g):
  ux (tL gs) k t=tL (gs.map fun x=>if x.1=k then(x.1,x.2.1,x.2.2++[t]) else x):=by
 have hm:=List.mem_of_find?_eq_some hf;have he:g.1=k:=by simpa using List.find?_some hf
 unfold ux;rw[if_pos (by
  rw[X5];exact⟨(g.1,g.2.2),Xm.mpr ⟨g,hm,rfl⟩,by simpa using he⟩)]
 unfold tL;rw[Xu,Xu];apply XR;intro x _;simp only[Function.comp];split<;>rfl
def S5{gs:List Gp}{k t:Int}{r:Nat}(hf:gs.find? (fun g=>decide (g.1=k))=none):ux (tL gs) k t=tL (gs++[(k,r,[t])]):=by
 unfold ux;rw[if_neg]
 ·simp[tL]
 ·intro hc;obtain⟨x,hx,e⟩:=X5.mp hc;obtain⟨g,hg,rfl⟩:=Xm.mp hx;rw[XU] at hf;exact hf g hg e
abbrev BR:SV:=(uv (wa uL (uK (be 1) (be 3) (vL uB qZ)) (be 2)))
theorem T8{d:D}{b lo:Nat}{gs:List Gp}{L:M}{t k:Int}(h:Gs L lo b gs)(hlo:lo<=L.length)(hl:gs.length<1000)(hlt:∀g∈gs,g.2.2.length<1000):
  ∃gs' Z5,BR [some d,some (.ref b),some (.int t),some (.int k)] L=some (.nx,[some d,some (.ref b),some (.int t),some (.int k)],Z5)/\Gs Z5 lo b gs'/\tL gs'=ux (tL gs) k t/\(∀j,j<lo->Z5[j]?=L[j]?)/\L.length<=Z5.length:=by
 have hb:b<L.length:=(WL.mp h.dic).1;have hv1:be 1 [some d,some (.ref b),some (.int t),some (.int k)] L=some (.ref b,L):=rfl;have hd:tf L (.ref b)=some (gs.map fun g=>(Sum.inl g.1,D.ref g.2.1)):=by simp only[tf,h.dic]
 have g1:Gr L (L++[some (Z8.lst [])]):=gr_app;have hd2:tf (L++[some (Z8.lst [])]) (.ref b)=some (gs.map fun g=>(Sum.inl g.1,D.ref g.2.1)):=by simp only[tf,g1.get h.dic]
 have hv3:be 3 [some d,some (.ref b),some (.int t),some (.int k)] L=some (.int k,L):=rfl;have hnw:vL uB qZ [some d,some (.ref b),some (.int t),some (.int k)] L=some (.ref L.length,L++[some (.lst [])]):=rfl;have hlen:(gs.map fun g=>((Sum.inl g.1:Key),D.ref g.2.1)).length<1000000:=by simp;omega
 cases hf:gs.find? (fun g=>decide (g.1=k)) with
 |some g=>
  have hm:=List.mem_of_find?_eq_some hf;have he:g.1=k:=by simpa using List.find?_some hf
  have hs:uK (be 1) (be 3) (vL uB qZ) [some d,some (.ref b),some (.int t),some (.int k)] L=some (.ref g.2.1,L++[some (.lst [])]):=by
   unfold uK;rw[hv1,bs];simp only[hd,bs,hv3,hnw,vK,hd2,if_pos hlen,C5,hf];rfl
  have ha:=g1.get (h.at_ g hm);generalize ZK:L++[some (Z8.lst [])]=Z4 at hs g1 ha;have hlen1:Z4.length=L.length+1:=by rw[←ZK];simp
  have hap:uL (.ref g.2.1) (.int t) Z4=some (.non,Z4.set g.2.1 (some (.lst (g.2.2.map D.int++[.int t])))):=by
   have:=hlt g hm;simp only[uL,zu ha,if_pos (show(g.2.2.map D.int).length<1000000 by simp;omega),ET]
  refine⟨gs.map fun x=>if x.1=k then(x.1,x.2.1,x.2.2++[t]) else x,Z4.set g.2.1 (some (.lst (g.2.2.map D.int++[.int t]))),?_,?_,(Nc h.key hf).symm,fun j hj=>?_,by rw[X0,hlen1];omega⟩
  ·unfold BR;rw[Ba];unfold wa;rw[hs,bs];show kEx _ ((su Z4 (.ref g.2.1)).bind _)=_;rw[y2 ha,bs];show kEx _ (uL (.ref g.2.1) (.int t) Z4)=_;rw[hap];rfl
  ·have hkeys:(gs.map fun x=>if x.1=k then(x.1,x.2.1,x.2.2++[t]) else x).map (fun g=>((Sum.inl g.1:Key),D.ref g.2.1))=gs.map fun g=>(Sum.inl g.1,D.ref g.2.1):=by
    rw[Xu];apply XR;intro x _;simp only[Function.comp];split<;>rfl
   have hk1:(gs.map fun x=>if x.1=k then(x.1,x.2.1,x.2.2++[t]) else x).map (·.1)=gs.map (·.1):=by
    rw[Xu];apply XR;intro x _;simp only[Function.comp];split<;>rfl
   have hk2:(gs.map fun x=>if x.1=k then(x.1,x.2.1,x.2.2++[t]) else x).map (·.2.1)=gs.map (·.2.1):=by
    rw[Xu];apply XR;intro x _;simp only[Function.comp];split<;>rfl
   have hbg:b≠g.2.1:=fun z=>by
    have h1:=h.dic;rw[z,h.at_ g hm] at h1;cases h1
   refine⟨?_,fun x hx=>?_,by rw[hk1];exact h.key,h.lo1,fun x hx=>?_,by rw[hk2];exact h.nd,fun x hx=>?_⟩
   ·rw[hkeys,tM hbg];exact g1.get h.dic
   ·obtain⟨y,hy,rfl⟩:=Xm.mp hx;by_cases hyk:y.1=k
    ·have:y=g:=by
      have hn:=h.key;obtain⟨i,hi⟩:=XH hy;obtain⟨j,hj⟩:=XH hm;have e1:(gs.map (·.1))[i]?=some k:=by rw[WY,hi];simp[hyk]
      have e2:(gs.map (·.1))[j]?=some k:=by rw[WY,hj];simp[he]
      obtain⟨l1,q1⟩:=WL.mp e1;obtain⟨l2,q2⟩:=WL.mp e2;have hp:=XT.mp hn;rcases Nat.lt_trichotomy i j with z|z|z
      ·exact absurd (q1.trans q2.symm) (hp i j l1 l2 z)
      ·subst z;rw[hi] at hj;cases hj;rfl
      ·exact absurd (q2.trans q1.symm) (hp j i l2 l1 z)
     subst this;rw[if_pos hyk];show(Z4.set y.2.1 _)[y.2.1]?=_;rw[tT ha];simp
    ·rw[if_neg hyk];have hne:y.2.1≠g.2.1:=fun z=>by
      have hn:=h.nd;obtain⟨i,hi⟩:=XH hy;obtain⟨j,hj⟩:=XH hm;have e1:(gs.map (·.2.1))[i]?=some g.2.1:=by rw[WY,hi];simp[z]
      have e2:(gs.map (·.2.1))[j]?=some g.2.1:=by rw[WY,hj];simp
      obtain⟨l1,q1⟩:=WL.mp e1;obtain⟨l2,q2⟩:=WL.mp e2;have hp:=XT.mp hn;rcases Nat.lt_trichotomy i j with w|w|w
      ·exact absurd (q1.trans q2.symm) (hp i j l1 l2 w)
      ·subst w;rw[hi] at hj;cases hj;exact hyk he
      ·exact absurd (q2.trans q1.symm) (hp j i l2 l1 w)
     rw[tM hne];exact g1.get (h.at_ y hy)
   ·obtain⟨y,hy,rfl⟩:=Xm.mp hx;split
    ·exact h.lo2 y hy
    ·exact h.lo2 y hy
   ·obtain⟨y,hy,rfl⟩:=Xm.mp hx;have:=hlt y hy;split
    ·simp;omega
    ·omega
  ·rw[tM (by have:=h.lo2 g hm;omega)];exact g1.at_ j (by omega)
 |none=>
  have hs:uK (be 1) (be 3) (vL uB qZ) [some d,some (.ref b),some (.int t),some (.int k)] L=some (.ref L.length,(L++[some (Z8.lst [])]).set b (some (Z8.dK (um (gs.map fun g=>((Sum.inl g.1:Key),D.ref g.2.1)) (Sum.inl k) (.ref L.length))))):=by
   unfold uK;rw[hv1,bs];simp only[hd,bs,hv3,hnw,vK,hd2,if_pos hlen,C5,hf];rfl
  have hput:um (gs.map fun g=>((Sum.inl g.1:Key),D.ref g.2.1)) (Sum.inl k) (.ref L.length)=(gs++[(k,L.length,[t])]).map fun g=>(Sum.inl g.1,D.ref g.2.1):=by
   rw[JV _ (by rw[C5,hf];rfl)];simp
  rw[hput] at hs;have ha:((L++[some (Z8.lst [])]).set b (some (.dK ((gs++[(k,L.length,[t])]).map fun g=>(Sum.inl g.1,D.ref g.2.1)))))[L.length]?=some (some (.lst [])):=by
   rw[tM (by omega)];simp
  have hbk:((L++[some (Z8.lst [])]).set b (some (.dK ((gs++[(k,L.length,[t])]).map fun g=>(Sum.inl g.1,D.ref g.2.1)))))[b]?=some (some (.dK ((gs++[(k,L.length,[t])]).map fun g=>(Sum.inl g.1,D.ref g.2.1)))):=tT (g1.get h.dic);have hold:∀j,j<L.length->j≠b->((L++[some (Z8.lst [])]).set b (some (.dK ((gs++[(k,L.length,[t])]).map fun g=>(Sum.inl g.1,D.ref g.2.1)))))[j]?=L[j]?:=fun j hj hne=>by
   rw[tM hne];exact g1.at_ j hj
  have hlen1:((L++[some (Z8.lst [])]).set b (some (.dK ((gs++[(k,L.length,[t])]).map fun g=>(Sum.inl g.1,D.ref g.2.1))))).length=L.length+1:=by simp
  generalize ZK:(L++[some (Z8.lst [])]).set b (some (.dK ((gs++[(k,L.length,[t])]).map fun g=>(Sum.inl g.1,D.ref g.2.1))))=Z4 at hs ha hbk hold hlen1;have hap:uL (.ref L.length) (.int t) Z4=some (.non,Z4.set L.length (some (.lst [.int t]))):=by
   simp only[uL,zu ha,if_pos (show([]:List D).length<1000000 by decide),ET];rfl
  refine⟨gs++[(k,L.length,[t])],Z4.set L.length (some (.lst [.int t])),?_,?_,(S5 hf).symm,fun j hj=>?_,by rw[X0,hlen1];omega⟩
  ·unfold BR;rw[Ba];unfold wa;rw[hs,bs];show kEx _ ((su Z4 (.ref L.length)).bind _)=_;rw[y2 ha,bs];show kEx _ (uL (.ref L.length) (.int t) Z4)=_;rw[hap];rfl
  ·have hgl:∀g∈gs,g.2.1<L.length:=fun g hg=>(WL.mp (h.at_ g hg)).1;refine⟨by rw[tM (by omega)];exact hbk,fun x hx=>?_,?_,h.lo1,fun x hx=>?_,?_,fun x hx=>?_⟩
   ·rcases Xb.mp hx with hx|hx
    ·have hl1:=hgl x hx;have hxb:x.2.1≠b:=fun z=>by
      have h1:=h.dic;rw[←z,h.at_ x hx] at h1;cases h1
     rw[tM (by omega),hold _ hl1 hxb];exact h.at_ x hx
    ·have:x=(k,L.length,[t]):=by simpa using hx
     subst this;exact tT ha
   ·rw[XI,List.nodup_append];refine⟨h.key,by simp,fun a ha1 c hc e=>?_⟩;have:c=k:=by simpa using hc
    subst this e;obtain⟨g,hg,rfl⟩:=Xm.mp ha1;rw[XU] at hf;exact hf g hg (by simp)
   ·rcases Xb.mp hx with hx|hx
    ·exact h.lo2 x hx
    ·have:x=(k,L.length,[t]):=by simpa using hx
     subst this;exact hlo
   ·rw[XI,List.nodup_append];refine⟨h.nd,by simp,fun a ha1 c hc e=>?_⟩;have:c=L.length:=by simpa using hc
    subst this e;obtain⟨g,hg,e⟩:=Xm.mp ha1;have:=hgl g hg;omega
   ·rcases Xb.mp hx with hx|hx
    ·exact h.len x hx
    ·have:x=(k,L.length,[t]):=by simpa using hx
     subst this;simp
  ·have hb2:=h.lo1;rw[tM (by omega)];exact hold j (by omega) (by omega)
theorem GC:∀(l:List Int) (i:Nat) (k:Int) (gs:List (Int×List Int)),wX i (l++[k]) gs=ux (wX i l gs) k ((i+l.length:Nat):Int)
 | [],i,k,gs=>by simp[wX]
 |x::l,i,k,gs=>by
  rw[List.cons_append,wX,wX,GC l (i+1) k];congr 2;simp;omega
def QI(gs:List (Int×List Int))(k t:Int):(ux gs k t).length<=gs.length+1:=by
 unfold ux;split<;>simp
def SJ{gs:List (Int×List Int)}{k t:Int}{m:Nat}(h:∀g∈gs,g.2.length<=m):∀g∈ux gs k t,g.2.length<=m+1:=by
 intro g hg;unfold ux at hg;split at hg
 ·obtain⟨x,hx,rfl⟩:=Xm.mp hg;have:=h x hx;split
  ·simp;omega
  ·omega
 ·rcases Xb.mp hg with hg|hg
  ·have:=h g hg;omega
  ·have:g=(k,[t]):=by simpa using hg
   subst this;simp
def UT{s:List Int}{L:M}(hs:s.length<=500):∃b gs Z5,wJ [dI s] L=some (.lst (gs.map fun g:Gp=>D.ref g.2.1),Z5)/\Gs Z5 L.length b gs/\tL gs=grp s/\Gr L Z5:=by
 have main:=BT (c:=none) (g:=(rT 2 (rm (qY 2) (rm (qY 3) si)))) (body:=BR)
  (fun i O Z5=>∃(gs:List Gp) (o2 o3:Option D),O=[some (dI s),some (.ref L.length),o2,o3]/\Gs Z5 L.length L.length gs/\tL gs=grp (s.take i)/\gs.length<=i/\(∀g∈gs,g.2.2.length<=i)/\Gr L Z5)
  ((List.range s.length).map fun i:Nat=>D.tup [.int (i:Int),.int (s.getD i 0)]) 0 [some (dI s),some (.ref L.length),none,none] (L++[some (.dK [])])
  ⟨[],none,none,rfl,⟨by simp,fun g h=>by simp at h,by simp,WJ _,fun g h=>by simp at h,by simp,fun g h=>by simp at h⟩,rfl,WJ _,fun g h=>by simp at h,gr_app⟩ ?_
 ·obtain⟨ZX,Z5,e,gs,o2,o3,rfl,G1,hst,_,_,gr⟩:=main;rw[Yg,WQ,XL,List.take_length] at hst;refine⟨L.length,gs,Z5,?_,G1,hst,gr⟩;unfold wJ FA;rw[vo,if_pos (show [dI s].length=1 from rfl)];show ui (rf _ _ [some (dI s),none,none,none] L)=_;have s1:rF z6 (qY 1) [some (dI s),none,none,none] L=some (.nx,[some (dI s),some (.ref L.length),none,none],L++[some (.dK [])]):=rfl;have hi:Ft (be 0) [some (dI s),some (.ref L.length),none,none] (L++[some (.dK [])])=some (((List.range s.length).map fun i:Nat=>D.tup [.int (i:Int),.int (s.getD i 0)],none),L++[some (.dK [])]):=by
   have he:wY (s.map D.int)=(List.range s.length).map fun i:Nat=>D.tup [.int (i:Int),.int (s.getD i 0)]:=by
    apply List.ext_getElem?;intro i;by_cases hi:i<s.length
    ·simp[wY,hi]
    ·simp[wY];rw[List.getElem?_eq_none (by simpa using hi),List.getElem?_eq_none (by simpa using hi)];rfl
   show some ((wY (s.map D.int),none),_)=_;rw[he]
  rw[uc,s1,wV,uc,x5,hi,xN,e,wV,yq];have hv:v1 AJ (be 1) [some (dI s),some (.ref L.length),o2,o3] Z5=some (.lst (gs.map fun g:Gp=>D.ref g.2.1),Z5):=by
   rw[e_1 (x:=.ref L.length) (Z4:=Z5) rfl];unfold AJ;simp only[tf,G1.dic,bs,Xu];rfl
  rw[hv];rfl
 ·rintro j x O Z4 hx ⟨gs,o2,o3,rfl,G1,hst,hl,hlt,gr⟩;rw[Yg] at hst hl hlt;have hj:j<s.length:=by
   have:=(WL.mp hx).1;simpa using this
  rw[WY,List.getElem?_range hj] at hx;simp at hx;subst hx;obtain⟨gs',Z3,e,G2,hst2,hold,hlen⟩:=T8 (d:=dI s) (t:=(j:Int)) (k:=s.getD j 0) G1 gr.len (by omega) (fun g hg=>by have:=hlt g hg;omega);have hsj:s[j]?=some (s.getD j 0):=by rw[WS,WP hj];rfl
  have hgrp:grp (s.take (j+1))=ux (grp (s.take j)) (s.getD j 0) (j:Int):=by
   rw[List.take_succ,hsj];show wX 0 (s.take j++[s.getD j 0]) []=_;rw[GC];have:(s.take j).length=j:=by rw[X4];omega
   rw[this,Yg];rfl
  refine⟨[some (dI s),some (.ref L.length),some (.int (j:Int)),some (.int (s.getD j 0))],Z4,_,Z3,?_,e,trivial,gs',_,_,rfl,G2,?_,?_,?_,?_⟩
  ·simp
  ·rw[Yg,hst2,hst,hgrp]
  ·have:gs'.length=(ux (tL gs) (s.getD j 0) (j:Int)).length:=by rw[←hst2];simp[tL]
   have h2:=QI (tL gs) (s.getD j 0) (j:Int);have:(tL gs).length=gs.length:=by simp[tL]
   omega
  ·intro g hg;have hm:(g.1,g.2.2)∈ux (tL gs) (s.getD j 0) (j:Int):=by rw[←hst2];exact Xm.mpr ⟨g,hg,rfl⟩
   have:=SJ (m:=j) (fun x hx=>by
    obtain⟨y,hy,rfl⟩:=Xm.mp hx;exact hlt y hy) _ hm
   have:g.2.2.length<=j+1:=this;omega
  ·exact⟨Xo gr.len hlen,fun i hi=>(hold i hi).trans (gr.at_ i hi)⟩
def sV(s:List Int):List Int:=match(grp s).find? fun g=>decide ((s.length:Int)<2*(g.2.length:Int)) with
 |some g=>g.2
 |none=>[]
def Wc:∀n<8,∀p∈Sx n n,sV p.1=((List.range n).filter fun t:Nat=>decide ((t:Int)∈sV p.1)).map fun t:Nat=>(t:Int):=by decide +kernel
abbrev wN:SV:=(sIf (vT (v2 fGt (v2 vB (vC (.int 2)) (v1 sg (be 1))) (v1 sg (be 0)))) (rn (be 1)) sNx)
theorem Mt{s:List Int}{L:M}(hs:s.length<=500):∀(gs:List Gp) (o:Option D),(∀g∈gs,L[g.2.1]?=some (some (.lst (g.2.2.map D.int))))->(∀g∈gs,g.2.2.length<=1000)->
  (∀g,gs.find? (fun g=>decide ((s.length:Int)<2*(g.2.2.length:Int)))=some g->∃ZX,sk none (qY 1) wN (gs.map fun g:Gp=>D.ref g.2.1) [some (dI s),o] L=some (.rt (.ref g.2.1),ZX,L))/\
  (gs.find? (fun g=>decide ((s.length:Int)<2*(g.2.2.length:Int)))=none->∃o',sk none (qY 1) wN (gs.map fun g:Gp=>D.ref g.2.1) [some (dI s),o] L=some (.nx,[some (dI s),o'],L))
 | [],o,_,_=>⟨(fun g h=>by cases h),fun _=>⟨o,rfl⟩⟩
 |g::gs,o,h,hl=>by
  have h0:=h g (by simp);have hl0:=hl g (by simp);obtain⟨i1,i2⟩:=Mt (s:=s) hs gs (some (.ref g.2.1)) (fun x hx=>h x (by simp[hx])) (fun x hx=>hl x (by simp[hx]));have hg:qY 1 (.ref g.2.1) [some (dI s),o] L=some ([some (dI s),some (.ref g.2.1)],L):=rfl;have t:vT (v2 fGt (v2 vB (vC (.int 2)) (v1 sg (be 1))) (v1 sg (be 0))) [some (dI s),some (.ref g.2.1)] L=some (decide ((s.length:Int)<2*(g.2.2.length:Int)),L):=by
   have a1:v1 sg (be 1) [some (dI s),some (.ref g.2.1)] L=some (.int (g.2.2.length:Int),L):=by
    rw[e_1 (x:=.ref g.2.1) (Z4:=L) rfl,Ow h0];simp
   have a2:v1 sg (be 0) [some (dI s),some (.ref g.2.1)] L=some (.int (s.length:Int),L):=by
    rw[e_1 (x:=dI s) (Z4:=L) rfl];simp[dI,sg,su]
   have a3:v2 vB (vC (.int 2)) (v1 sg (be 1)) [some (dI s),some (.ref g.2.1)] L=some (.int (2*(g.2.2.length:Int)),L):=by
    rw[e_2 (x:=.int 2) (Z4:=L) (y:=.int (g.2.2.length:Int)) (Z3:=L) rfl a1];have hc:CMul 2 (g.2.2.length:Int):=.inl ⟨by decide,by decide⟩;simp only[vB,if_pos hc]
   rw[HB,e_2 a3 a2];rfl
  rw[WX];cases hb:decide ((s.length:Int)<2*(g.2.2.length:Int)) with
  |true=>
   rw[hb] at t;have hbd:wN [some (dI s),some (.ref g.2.1)] L=some (.rt (.ref g.2.1),[some (dI s),some (.ref g.2.1)],L):=by
    unfold wN;rw[wG,t];rfl
   refine⟨fun g' h=>?_,fun h=>by cases h⟩;cases h;refine⟨[some (dI s),some (.ref g.2.1)],?_⟩;rw[WT];simp only[sk,hg,bs,hbd]
  |false=>
   rw[hb] at t;have hbd:wN [some (dI s),some (.ref g.2.1)] L=some (.nx,[some (dI s),some (.ref g.2.1)],L):=by
    unfold wN;rw[wG,t];rfl
   have step:sk none (qY 1) wN ((g::gs).map fun g:Gp=>D.ref g.2.1) [some (dI s),o] L=sk none (qY 1) wN (gs.map fun g:Gp=>D.ref g.2.1) [some (dI s),some (.ref g.2.1)] L:=by
    rw[WT];simp only[sk,hg,bs,hbd,v9]
   rw[step];exact⟨i1,i2⟩
theorem UK{s:List Int}{gs:List Gp}(hst:tL gs=grp s):sV s=match gs.find? (fun g=>decide ((s.length:Int)<2*(g.2.2.length:Int))) with
  |some g=>g.2.2
  |none=>[]:=by
 unfold sV;rw[←hst];unfold tL;rw[List.find?_map];simp only[Function.comp_def];cases gs.find? fun g=>decide ((s.length:Int)<2*(g.2.2.length:Int))<;>rfl
abbrev xj:C0:=Ax wJ
def Ut{s:List Int}{L:M}(hs:s.length<=500):∃d Z5,xj [dI s] L=some (d,Z5)/\Ls Z5 d ((sV s).map D.int)/\Gr L Z5:=by
 obtain⟨b,gs,Z4,e,G1,hst,gr⟩:=UT (L:=L) hs;obtain⟨l1,l2⟩:=Mt (s:=s) (L:=Z4) hs gs none G1.at_ G1.len;have hi:ivL (vL wJ (qW (be 0) qZ)) [some (dI s),none] L=some ((gs.map fun g:Gp=>D.ref g.2.1,none),Z4):=by
  have:vL wJ (qW (be 0) qZ) [some (dI s),none] L=some (.lst (gs.map fun g:Gp=>D.ref g.2.1),Z4):=e;unfold ivL;rw[this];rfl
 have hm:=UK hst;cases hf:gs.find? (fun g=>decide ((s.length:Int)<2*(g.2.2.length:Int))) with
 |some g=>
  rw[hf] at hm;obtain⟨ZX,e2⟩:=l1 g hf;refine⟨.ref g.2.1,Z4,?_,?_,gr⟩
  ·unfold xj Ax A4;rw[vo,if_pos (show [dI s].length=1 from rfl)];show ui (rf _ _ [some (dI s),none] L)=_;rw[uc,x5,hi,xN,e2];rfl
  ·rw[hm];exact .ref (G1.at_ g (List.mem_of_find?_eq_some hf))
 |none=>
  rw[hf] at hm;obtain⟨o',e2⟩:=l2 hf;refine⟨.lst [],Z4,?_,by rw[hm];exact .lst,gr⟩;unfold xj Ax A4;rw[vo,if_pos (show [dI s].length=1 from rfl)];show ui (rf _ _ [some (dI s),none] L)=_;rw[uc,x5,hi,xN,e2];rfl
def dE(x:Option Int):D:=match x with
 |some t=>.tup [.str "one",.int t]
 |none=>.tup [.str "none"]
def hE(s:List Int):List (Option Int):=if sV s=[] then [none] else(sV s).map some
abbrev uZ:C0:=Bo xj
def Gj{s:List Int}{L:M}(hs:s.length<=500)(hl:(sV s).length<=1000):∃Z5,uZ [dI s] L=some (.lst ((hE s).map dE),Z5)/\Gr L Z5:=by
 obtain⟨d,Z4,e,hL,g⟩:=Ut (L:=L) hs;refine⟨Z4,?_,g⟩;have s1:rF (vL xj (qW (be 0) qZ)) (qY 1) [some (dI s),none] L=some (.nx,[some (dI s),some d],Z4):=by
  have:vL xj (qW (be 0) qZ) [some (dI s),none] L=some (d,Z4):=e;rw[Fm,this];rfl
 have t:sD (be 1) [some (dI s),some d] Z4=some (!decide (sV s=[]),Z4):=by
  rw[Jg];show zq (some (d,Z4))=_;rcases Fz hL with⟨k,rfl,hk⟩|rfl|rfl
  ·simp only[zq];cases hm:sV s with
   |nil=>rw[hm] at hk;simp[tru,hk,kTr]
   |cons a r=>rw[hm] at hk;simp[tru,hk,kTr]
  ·cases hm:sV s with
   |nil=>rfl
   |cons a r=>rfl
  ·cases hm:sV s with
   |nil=>rfl
   |cons a r=>rfl
 obtain⟨c,hi,hck,_⟩:=hL.iv (O:=[some (dI s),some d]) (i:=1) rfl;have c2:sC ["thing"] [] (ivL (be 1)) (qY 0) rE (vL rX (qW (vC (.str "one")) (qW (be 0) qZ))) [some (dI s),some d] Z4=some (.lst ((sV s).map fun t=>dE (some t)),Z4):=
  Dr (l:=sV s) (dn:=D.int) (c:=c) (rA:=[]) hi (by omega) hck rfl fun t _=>rfl
 unfold uZ Bo FC;rw[vo,if_pos (show [dI s].length=1 from rfl)];show ui (rf _ _ [some (dI s),none] L)=_;rw[uc,s1,wV,yq];unfold hE;by_cases h0:sV s=[]
 ·rw[if_pos h0];rw[Xz h0] at t;have:vIf (sD (be 1)) (sC ["thing"] [] (ivL (be 1)) (qY 0) rE (vL rX (qW (vC (.str "one")) (qW (be 0) qZ)))) (vL sG (qW (vL rX (qW (vC (.str "none")) qZ)) qZ)) [some (dI s),some d] Z4=some (.lst ([none].map dE),Z4):=by
   rw[KP,t];rfl
  rw[this];rfl
 ·rw[if_neg h0];rw[W9 h0] at t;have:vIf (sD (be 1)) (sC ["thing"] [] (ivL (be 1)) (qY 0) rE (vL rX (qW (vC (.str "one")) (qW (be 0) qZ)))) (vL sG (qW (vL rX (qW (vC (.str "none")) qZ)) qZ)) [some (dI s),some d] Z4=some (.lst (((sV s).map some).map dE),Z4):=by
   rw[KP,t];show sC _ _ _ _ _ _ _ Z4=_;rw[c2,Xu];rfl
  rw[this];rfl
def so1:PyData.strOk "one"=true:=by decide +kernel
def so2:PyData.strOk "none"=true:=by decide +kernel
def pE(x:Option Int):PyData:=match x with
 |some t=>.tuple [.str "one",.int t]
 |none=>.tuple [.str "none"]
def zx{L:M}(x:Option Int):py 65 L (dE x)=some (pE x):=by cases x<;>rfl
def DP(x:Option Int):(pE x).canLay0=true:=by cases x<;>simp[pE,PyData.canLay0,PyData.canLayAll0,so1,so2]
def Ii(x:Option Int):(pE x).depth<=60:=by cases x<;>simp[pE,PyData.depth,PyData.depthAll]
def NL(x y:Option Int):PyData.eqv (pE x) (pE y)=decide (x=y):=by
 rw[Ye];cases x<;>cases y<;>simp[pE,PyData.eqv,PyData.eqvAll]
theorem HI:∀l:List (Option Int),PyData.canLayAll0 (l.map pE)=true
 | []=>rfl
 |x::l=>by simp[PyData.canLayAll0,DP x,HI l]
def Jk{L:M}(x:Option Int)(l:List (Option Int)):wv false (dE x) (.lst (l.map dE)) L=some (.bl (decide (x∈l)),L):=by
 have h1:sB (py 65 L) (l.map dE)=some (l.map pE):=xp fun x _=>zx x;have h4:decide ((pE x).depth<=60)=true:=Xz (Ii x);have h5:(l.map pE).any (fun e=>PyData.eqv e (pE x))=decide (x∈l):=by
  rw[Ye,List.any_map,X5];simp only[Function.comp,XO,NL];constructor
  ·rintro⟨y,hy,rfl⟩;exact hy
  ·intro h;exact⟨x,h,rfl⟩
 unfold wv;rw[if_neg (by simp)];simp only[su,bs,h1,zx,HI,DP,h4,Bool.and_self,if_true,h5]
def vd(ss:List (List Int)):Option (Option Int):=(hE (ss.getD 0 [])).find? fun t=>ss.all fun s=>decide (t∈hE s)
def dEs(ss:List (List Int)):D:=.lst (ss.map fun s=>.lst ((hE s).map dE))
abbrev wD:SV:=(sIf (sD (v1 vJ (sC ["others"] [("end",1)] (ivL (be 0)) (qY 0) rE (v2 (wv false) (be 1) (be 0)))))
    (rn (be 1))
    sNx)
theorem KM{ss:List (List Int)}{L:M}(hl:ss.length<=1000000):∀(l:List (Option Int)) (o:Option D),
  (∀t,l.find? (fun t=>ss.all fun s=>decide (t∈hE s))=some t->∃ZX,sk none (qY 1) wD (l.map dE) [some (dEs ss),o] L=some (.rt (dE t),ZX,L))/\
  (l.find? (fun t=>ss.all fun s=>decide (t∈hE s))=none->∃o',sk none (qY 1) wD (l.map dE) [some (dEs ss),o] L=some (.nx,[some (dEs ss),o'],L))
 | [],o=>⟨(fun t h=>by cases h),fun _=>⟨o,rfl⟩⟩
 |t::l,o=>by
  obtain⟨i1,i2⟩:=KM (ss:=ss) (L:=L) hl l (some (dE t));have hc:sC ["others"] [("end",1)] (ivL (be 0)) (qY 0) rE (v2 (wv false) (be 1) (be 0)) [some (dEs ss),some (dE t)] L=some (.lst (ss.map fun s=>D.bl (decide (t∈hE s))),L):=
   Dr (l:=ss) (dn:=fun s=>D.lst ((hE s).map dE)) (c:=none) (rA:=[some (dE t)]) rfl hl trivial rfl fun s _=>by
    rw[e_2 (x:=dE t) (Z4:=L) (y:=.lst ((hE s).map dE)) (Z3:=L) rfl rfl];exact Jk t (hE s)
  have ht:sD (v1 vJ (sC ["others"] [("end",1)] (ivL (be 0)) (qY 0) rE (v2 (wv false) (be 1) (be 0)))) [some (dEs ss),some (dE t)] L=some (ss.all fun s=>decide (t∈hE s),L):=by
   rw[Jg,e_1 hc];have:ss.map (fun s=>D.bl (decide (t∈hE s)))=(ss.map fun s=>decide (t∈hE s)).map D.bl:=by simp
   rw[this];simp only[vJ,su,bs,IT,List.all_map];rfl
  have hg:qY 1 (dE t) [some (dEs ss),o] L=some ([some (dEs ss),some (dE t)],L):=rfl;rw[WX];cases hb:ss.all fun s=>decide (t∈hE s) with
  |true=>
   rw[hb] at ht;have hbd:wD [some (dEs ss),some (dE t)] L=some (.rt (dE t),[some (dEs ss),some (dE t)],L):=by
    unfold wD;rw[wG,ht];rfl
   refine⟨fun t' h=>?_,fun h=>by cases h⟩;cases h;refine⟨[some (dEs ss),some (dE t)],?_⟩;rw[WT];simp only[sk,hg,bs,hbd]
  |false=>
   rw[hb] at ht;have hbd:wD [some (dEs ss),some (dE t)] L=some (.nx,[some (dEs ss),some (dE t)],L):=by
    unfold wD;rw[wG,ht];rfl
   have step:sk none (qY 1) wD ((t::l).map dE) [some (dEs ss),o] L=sk none (qY 1) wD (l.map dE) [some (dEs ss),some (dE t)] L:=by
    rw[WT];simp only[sk,hg,bs,hbd,v9]
   rw[step];exact⟨i1,i2⟩
def se:D:=.gt [.str "open"]
def t6(o:Option (Option Int)):D:=match o with
 |some t=>dE t
 |none=>se
def Su{ss:List (List Int)}{L:M}(hl:ss.length<=1000000)(h0:ss≠[]):vD se [dEs ss] L=some (t6 (vd ss),L):=by
 have hi:ivL (v2 fIx (be 0) (vC (.int 0))) [some (dEs ss),none] L=some (((hE (ss.getD 0 [])).map dE,none),L):=by
  cases ss with
  |nil=>exact absurd rfl h0
  |cons s ss=>
   have h1:v2 fIx (be 0) (vC (.int 0)) [some (dEs (s::ss)),none] L=some (.lst ((hE s).map dE),L):=by
    rw[e_2 (x:=dEs (s::ss)) (Z4:=L) (y:=.int 0) (Z3:=L) rfl rfl];simp only[fIx,dEs,su];rw[show(0:Int)=((0:Nat):Int) from rfl,wj (j:=0) (v:=.lst ((hE s).map dE)) rfl];rfl
   unfold ivL;rw[h1];rfl
 obtain⟨l1,l2⟩:=KM (ss:=ss) (L:=L) hl (hE (ss.getD 0 [])) none;unfold vD Bi;rw[vo,if_pos (show [dEs ss].length=1 from rfl)];show ui (rf _ _ [some (dEs ss),none] L)=_;rw[uc,x5,hi,xN];cases hc:vd ss with
 |some t=>
  obtain⟨ZX,e⟩:=l1 t hc;rw[e];rfl
 |none=>
  obtain⟨o',e⟩:=l2 hc;rw[e];rfl
def Qj{n:Nat}(hn:n<=7){s:List Int}(hs:s∈(Sx n n).map (·.1)):sV s=((List.range n).filter fun t:Nat=>decide ((t:Int)∈sV s)).map fun t:Nat=>(t:Int):=by
 obtain⟨p,hp,rfl⟩:=Xm.mp hs;exact Wc n (by omega) p hp
def WB{n:Nat}(hn:n<=7){s:List Int}(hs:s∈(Sx n n).map (·.1)):(sV s).length<=n:=by
 rw[Qj hn hs,WQ];have:=X8 (fun t:Nat=>decide ((t:Int)∈sV s)) (List.range n);simpa using this
section
variable {C CF CT:Addr} {n:Nat} {d:D} {as:List An} {L:M}
abbrev xr(C CF CT:Addr):FX:=C8 (vD se) uZ (y8 C CF CT)
theorem LB{n:Nat}(hn:n<=7):∀(l:List (List Int)) (o:Option D) (L:M),(∀s∈l,s∈(Sx n n).map (·.1))->
  ∃Z5,sw none (qY 0) rE (vL uZ (qW (be 0) qZ)) (l.map dI) [o] L=some (l.map fun s=>.lst ((hE s).map dE),Z5)/\Gr L Z5
 | [],o,L,_=>⟨L,rfl,.refl⟩
 |s::l,o,L,h=>by
  have hs:=h s (by simp);have h1:=G6 hs;have h2:=WB hn hs;obtain⟨Z4,e1,g1⟩:=Gj (s:=s) (L:=L) (by omega) (by omega);obtain⟨Z3,e2,g2⟩:=LB hn l (some (dI s)) Z4 (fun x hx=>h x (by simp[hx]));refine⟨Z3,?_,g1.trans g2⟩;have hg:qY 0 (dI s) [o] L=some ([some (dI s)],L):=rfl;have hv:vL uZ (qW (be 0) qZ) [some (dI s)] L=some (.lst ((hE s).map dE),Z4):=e1;rw[WT];simp only[sw,hg,bs];show(rE _ _).bind _=_;simp only[rE,bs,if_true,hv,v9];rw[e2];rfl
theorem Oz{s:List Int}(h:s∈sm n as):s∈(Sx n n).map (·.1):=(Xh.mp h).1
theorem Vl(hn:n<=7):(sm n as).length<=1000:=by
 have h1:=X8 (fun s=>uX s as) ((Sx n n).map (·.1));have:=B4 hn n;unfold sm;rw[WQ] at h1;omega
theorem Pn(hl:Ls L d (as.map dA))(hv:Ok2 n as)(hs:as.length<=1000)(hn:n<=7)(hf:sm n as≠[]):∃Z5,xr C CF CT [.int (n:Int),d] L=some (.ok (t6 (vd (sm n as))),Z5)/\Gr L Z5:=by
 have hc:sj as=true:=by
  cases h:sj as with
  |true=>rfl
  |false=>exact absurd ((Ao hv.inN).mpr h) hf
 obtain⟨Z4,e1,g1⟩:=ST (C:=C) (CF:=CF) (CT:=CT) hl hv hs hn hc;obtain⟨Z3,e2,g2⟩:=LB hn (sm n as) none Z4 (fun s h=>Oz h);refine⟨Z3,?_,g1.trans g2⟩;have hlen:=Vl (as:=as) hn;refine AE (ZY:=[some (.int (n:Int)),some d]) rfl ?_;unfold C9;show wR _ [some (.int (n:Int)),some d] L=_;have ec:xJ ["sort"] [] (vLX (y8 C CF CT) (upL (qW (be 0) (qW (be 1) qZ)))) (qY 0) rE (vL uZ (qW (be 0) qZ)) [some (.int (n:Int)),some d] L=some (.ok (dEs (sm n as)),Z3):=by
  have ea:vLX (y8 C CF CT) (upL (qW (be 0) (qW (be 1) qZ))) [some (.int (n:Int)),some d] L=some (.ok (.lst ((sm n as).map dI)),Z4):=by
   rw[ze (ds:=[.int (n:Int),d]) (Z4:=L) (zy rfl)];exact e1
  unfold xJ;rw[ea];show(if((sm n as).map dI).length<=1000000 then _ else _)=_;rw[if_pos (by simp;omega)];have hcap:sh (["sort"]:List Str) [] [some (.int (n:Int)),some d]=[none]:=rfl;show(sw none (qY 0) rE (vL uZ (qW (be 0) qZ)) ((sm n as).map dI) (sh ["sort"] [] [some (.int (n:Int)),some d]) Z4).bind _=_;rw[hcap,e2];rfl
 have el:BK (xJ ["sort"] [] (vLX (y8 C CF CT) (upL (qW (be 0) (qW (be 1) qZ)))) (qY 0) rE (vL uZ (qW (be 0) qZ))) (upL qZ) [some (.int (n:Int)),some d] L=some (.ok [dEs (sm n as)],Z3):=by
  unfold BK;rw[ec];rfl
 refine JI ?_;rw[ze el];show(upF (vD se)) _ _=_;have hco:=Su (ss:=sm n as) (L:=Z3) (by omega) hf;unfold upF;rw[hco];rfl
end
theorem wpA:type_of%(And.intro @Fw (And.intro @Dc (And.intro @LZ (And.intro @FU (And.intro @LN (And.intro @ME (And.intro @HJ (And.intro @Hc (And.intro @Gv (And.intro @Mx (And.intro @Lr (And.intro @Lp (And.intro @LO (And.intro @K2 (And.intro @J4 (And.intro @w_c (And.intro @HZ (And.intro @GE (And.intro @w_T (And.intro @L7 (And.intro @Mg (And.intro @IG (And.intro @MF (And.intro @JG (And.intro @L5 (And.intro @Hr (And.intro @Mc (And.intro @LH (And.intro @J3 (And.intro @Iw (And.intro @Ir (And.intro @LJ (And.intro @q1_ (And.intro @q2_ (And.intro @HP (And.intro @qL_ (And.intro @qc_ (And.intro @JJ (And.intro @qT_ (And.intro @KW (And.intro @MI (And.intro @KF (And.intro @JD (And.intro @Ha (And.intro @Ib (And.intro @Lj (And.intro @IY (And.intro @Hz (And.intro @Ij (And.intro @Mz (And.intro @FF (And.intro @IR (And.intro @GJ (And.intro @IP (And.intro @Im (And.intro @Jp (And.intro @Hl (And.intro @JQ (And.intro @FQ (And.intro @KL (And.intro @HA (And.intro @JB (And.intro @Jx (And.intro @GA (And.intro @FI (And.intro @Hb (And.intro @GM (And.intro @Hx (And.intro @wp_some (And.intro @ws_some (And.intro @Kz (And.intro @Ja (And.intro @HG (And.intro @Lz (And.intro @IN (And.intro @Ml (And.intro @GL (And.intro @FO (And.intro @LK (And.intro @HC (And.intro @Jt (And.intro @Ks (And.intro @LA (And.intro @Gh (And.intro @Lq (And.intro @Kd (And.intro @MR (And.intro @Ie (And.intro @JY (And.intro @HX (And.intro @I0 (And.intro @HF (And.intro @JU (And.intro @Mm (And.intro @Mq (And.intro @Il (And.intro @GP (And.intro @HH (And.intro @Gq (And.intro @Gm (And.intro @Lu (And.intro @HK (And.intro @Ip (And.intro @Ho (And.intro @J9 (And.intro @Ln (And.intro @K3 (And.intro @G4 (And.intro @FS (And.intro @FK (And.intro @Hn (And.intro @JO (And.intro @MD (And.intro @HY (And.intro @LI (And.intro @JK (And.intro @Mi (And.intro @Hm (And.intro @IH (And.intro @Js (And.intro @Gg (And.intro @K7 (And.intro @ML (And.intro @Me (And.intro @GR (And.intro @Lk (And.intro @K8 (And.intro @HU (And.intro @Jz (And.intro @MP (@wt_some))))))))))))))))))))))))))))))))))))))))))))))))))))))))))))))))))))))))))))))))))))))))))))))))))))))))))))))))))))))))))))))))))):=And.intro @Fw (And.intro @Dc (And.intro @LZ (And.intro @FU (And.intro @LN (And.intro @ME (And.intro @HJ (And.intro @Hc (And.intro @Gv (And.intro @Mx (And.intro @Lr (And.intro @Lp (And.intro @LO (And.intro @K2 (And.intro @J4 (And.intro @w_c (And.intro @HZ (And.intro @GE (And.intro @w_T (And.intro @L7 (And.intro @Mg (And.intro @IG (And.intro @MF (And.intro @JG (And.intro @L5 (And.intro @Hr (And.intro @Mc (And.intro @LH (And.intro @J3 (And.intro @Iw (And.intro @Ir (And.intro @LJ (And.intro @q1_ (And.intro @q2_ (And.intro @HP (And.intro @qL_ (And.intro @qc_ (And.intro @JJ (And.intro @qT_ (And.intro @KW (And.intro @MI (And.intro @KF (And.intro @JD (And.intro @Ha (And.intro @Ib (And.intro @Lj (And.intro @IY (And.intro @Hz (And.intro @Ij (And.intro @Mz (And.intro @FF (And.intro @IR (And.intro @GJ (And.intro @IP (And.intro @Im (And.intro @Jp (And.intro @Hl (And.intro @JQ (And.intro @FQ (And.intro @KL (And.intro @HA (And.intro @JB (And.intro @Jx (And.intro @GA (And.intro @FI (And.intro @Hb (And.intro @GM (And.intro @Hx (And.intro @wp_some (And.intro @ws_some (And.intro @Kz (And.intro @Ja (And.intro @HG (And.intro @Lz (And.intro @IN (And.intro @Ml (And.intro @GL (And.intro @FO (And.intro @LK (And.intro @HC (And.intro @Jt (And.intro @Ks (And.intro @LA (And.intro @Gh (And.intro @Lq (And.intro @Kd (And.intro @MR (And.intro @Ie (And.intro @JY (And.intro @HX (And.intro @I0 (And.intro @HF (And.intro @JU (And.intro @Mm (And.intro @Mq (And.intro @Il (And.intro @GP (And.intro @HH (And.intro @Gq (And.intro @Gm (And.intro @Lu (And.intro @HK (And.intro @Ip (And.intro @Ho (And.intro @J9 (And.intro @Ln (And.intro @K3 (And.intro @G4 (And.intro @FS (And.intro @FK (And.intro @Hn (And.intro @JO (And.intro @MD (And.intro @HY (And.intro @LI (And.intro @JK (And.intro @Mi (And.intro @Hm (And.intro @IH (And.intro @Js (And.intro @Gg (And.intro @K7 (And.intro @ML (And.intro @Me (And.intro @GR (And.intro @Lk (And.intro @K8 (And.intro @HU (And.intro @Jz (And.intro @MP (@wt_some))))))))))))))))))))))))))))))))))))))))))))))))))))))))))))))))))))))))))))))))))))))))))))))))))))))))))))))))))))))))))))))))))
local macro_rules | `(tactic| simp!)=>`(tactic| simp only [wpA,List.set_cons_zero,List.set_cons_succ])
local macro_rules | `(tactic| simp! [$ts,*])=>`(tactic| simp only [$ts,*,wpA,List.set_cons_zero,List.set_cons_succ])
def Au{J:Type}{r:Option (J×M)}{a:J}{Z5:M}(h:Wp r fun d m=>d=a/\m=Z5):r=some (a,Z5):=by
 obtain⟨d,m,e,rfl,rfl⟩:=h;exact e
def dP(p:Nat×Nat):D:=.tup [.int (p.1:Int),.int (p.2:Int)]
theorem Mu{β:Type}{g:GV}{te:EV}{dm:β->D}{val:β->D}(Qv:G->Prop){L:M}:∀(l:List β) (O:G),Qv O->(∀b∈l,∀O,Qv O->∃ZY,g (dm b) O L=some (ZY,L)/\te ZY L=some (val b,L)/\Qv ZY)->
  ∃ZX,vf none g rE te (l.map dm) O L=some (l.map val,ZX,L)/\Qv ZX
 | [],O,h,_=>⟨O,rfl,h⟩
 |b::l,O,h,hs=>by
  obtain⟨ZY,e1,e2,h1⟩:=hs b (by simp) O h;obtain⟨ZX,e3,h3⟩:=Mu Qv l ZY h1 fun b hb=>hs b (by simp[hb]);refine⟨ZX,?_,h3⟩;rw[WT];simp only[vf,e1,bs,rE,if_true,e2,v9,e3];rfl
theorem L6{J β:Type}{g g2:GV}{iv2:IV}{te:EV}{dn:J->D}{dm:β->D}{inn:J->List β}{val:J->β->D}(Pv:G->Prop)(Qv:J->G->Prop){L:M}(hPQ:∀a O,Qv a O->Pv O):∀(l:List J) (O:G),Pv O->
  (∀a∈l,∀O,Pv O->∃ZY,g (dn a) O L=some (ZY,L)/\iv2 ZY L=some (((inn a).map dm,none),L)/\Qv a ZY)->
  (∀a∈l,∀b∈inn a,∀O,Qv a O->∃ZY,g2 (dm b) O L=some (ZY,L)/\te ZY L=some (val a b,L)/\Qv a ZY)->
  uk none g rE iv2 g2 rE te (l.map dn) O L=some (l.flatMap fun a=>(inn a).map (val a),L)
 | [],O,_,_,_=>rfl
 |a::l,O,h,hs,hi=>by
  obtain⟨ZY,e1,e2,h1⟩:=hs a (by simp) O h;obtain⟨ZW,e3,h2⟩:=Mu (Qv a) (inn a) ZY h1 (hi a (by simp));have ih:=L6 (dm:=dm) (val:=val) Pv Qv hPQ l ZW (hPQ a _ h2) (fun a ha=>hs a (by simp[ha])) fun a ha=>hi a (by simp[ha]);rw[WT];simp only[uk,e1,bs,rE,if_true,e2,e3,v9];have ih':uk none g (fun _ L=>some (true,L)) iv2 g2 (fun _ L=>some (true,L)) te (l.map dn) ZW L=some (l.flatMap fun a=>(inn a).map (val a),L):=ih;rw[show(rE:BV)=fun _ L=>some (true,L) from rfl] at*;rw[ih'];rfl
def prs(n:Nat):List (Nat×Nat):=(List.range n).flatMap fun i=>(List.range (n - (i+1))).map fun j=>(i,i+1+j)
def D3{n:Nat}{L:M}(hn:n<=100):w9 [.int (n:Int)] L=some (.lst ((prs n).map dP),L):=by
 unfold w9 Dg;rw[vo,if_pos (show [D.int (n:Int)].length=1 from rfl)];show ui (rn _ [some (.int (n:Int))] L)=_;have hb:(-1000000000:Int)<=(n:Int)/\(n:Int)<=1000000000:=by omega
 have hr:ivR (be 0) [some (.int (n:Int))] L=some (((List.range n).map fun i:Nat=>D.int (i:Int),none),L):=by
  simp[hb,rS]
 have hc:=L6 (g:=qY 0) (g2:=qY 1) (iv2:=xX (v2 rP (be 0) (vC (.int 1))) (be 2)) (te:=vL rX (qW (be 0) (qW (be 1) qZ))) (dn:=fun i:Nat=>D.int (i:Int)) (dm:=fun j:Nat=>D.int (j:Int)) (inn:=fun i=>(List.range (n - (i+1))).map fun j=>i+1+j) (val:=fun i j=>dP (i,j))
  (fun O=>∃a b,O=[a,b,some (.int (n:Int))]) (fun i O=>∃b,O=[some (.int (i:Int)),b,some (.int (n:Int))]) (L:=L) (fun i O ⟨b,e⟩=>⟨_,_,e⟩) (List.range n) [none,none,some (.int (n:Int))] ⟨_,_,rfl⟩ ?_ ?_
 ·have hcap:sh (["i","j"]:List Str) [("many",0)] [some (.int (n:Int))]=[none,none,some (.int (n:Int))]:=rfl;have hlen:((List.range n).flatMap fun i=>((List.range (n - (i+1))).map fun j=>i+1+j).map (fun j=>dP (i,j))).length<=1000000:=by
   rw[List.length_flatMap];have:∀(l:List Nat),(l.map fun i=>(((List.range (n - (i+1))).map fun j=>i+1+j).map (fun j=>dP (i,j))).length).sum<=l.length*n:=by
    intro l;induction l with
    |nil=>simp
    |cons x l ih=>simp only[WT,List.sum_cons,WQ,XL,Xi] at ih⊢;rw[Nat.add_mul];omega
   have:=this (List.range n);rw[XL] at this;have h2:n*n<=100*100:=Nat.mul_le_mul hn hn;omega
  have e:((List.range n).flatMap fun i=>((List.range (n - (i+1))).map fun j=>i+1+j).map (fun j=>dP (i,j)))=(prs n).map dP:=by
   unfold prs;rw[List.map_flatMap];congr 1;funext i;rw[Xu,Xu];rfl
  rw[yq,JH,hr,MO,hcap,hc,Lo,if_pos hlen,e];rfl
 ·rintro i hi O ⟨a,b,rfl⟩;rw[XF] at hi;refine⟨[some (.int (i:Int)),b,some (.int (n:Int))],rfl,?_,⟨_,rfl⟩⟩;have hv:v2 rP (be 0) (vC (.int 1)) [some (.int (i:Int)),b,some (.int (n:Int))] L=some (.int ((i:Int)+1),L):=rfl;have hv2:be 2 [some (.int (i:Int)),b,some (.int (n:Int))] L=some (.int (n:Int),L):=rfl;have hbb:((-1000000000:Int)<=(i:Int)+1/\(i:Int)+1<=1000000000)/\-1000000000<=(n:Int)/\(n:Int)<=1000000000:=by omega
  rw[FT,hv,Hu,hv2,JE,if_pos hbb];have e2:((n:Int) - ((i:Int)+1)).toNat=n - (i+1):=by omega
  rw[e2];unfold rS;rw[Xu];congr 4
 ·rintro i hi j hj O ⟨b,rfl⟩;exact⟨[some (.int (i:Int)),some (.int (j:Int)),some (.int (n:Int))],rfl,rfl,⟨_,rfl⟩⟩
theorem xU{J:Type}{c:Ck}{g:GV}{tc:BV}{te:EV}{dn:J->D}{keep:J->Bool}{val:J->D}(Pv:G->Prop){L:M}{O:G}(hc:rJ c L)(l:List J)(h0:Pv O)
  (hs:∀a∈l,∀O,Pv O->Wp (g (dn a) O L) fun ZY Z4=>Z4=L/\Pv ZY/\Wp (tc ZY L) fun b Z3=>b=keep a/\Z3=L/\(keep a=true->Wp (te ZY L) fun x ZM=>x=val a/\ZM=L)) {R:List D->M->Prop} (hR:R ((l.filter keep).map val) L):Wp (sw c g tc te (l.map dn) O L) R:=by
 refine comp_inv (fun done r O Z5=>∃i,i<=l.length/\Z5=L/\Pv O/\r=(l.drop i).map dn/\done=((l.take i).filter keep).map val) _ ⟨0,by omega,rfl,h0,rfl,rfl⟩ ?_ ?_
 ·rintro done d r O Z5 ⟨i,hi,rfl,hp,e,rfl⟩;have hi':i<l.length:=by
   rcases Nat.lt_or_ge i l.length with z|z
   ·exact z
   ·rw[XB z] at e;cases e
  rw[Xq hi',WT] at e;cases e;have ht:l.take (i+1)=l.take i++[l[i]]:=by rw[List.take_append_getElem hi']
  refine(hs l[i] (Xv hi') O hp).imp fun ZY Z4 ⟨e,hp1,h⟩=>?_;subst e;refine h.imp fun b Z3 ⟨e1,e2,h⟩=>?_;subst e1;subst e2;cases hk:keep l[i] with
  |true=>
   show Wp _ _;refine(h hk).imp fun x ZM ⟨e1,e2⟩=>?_;subst e1;subst e2;refine⟨hc,i+1,hi',rfl,hp1,rfl,?_⟩;rw[ht,List.filter_append,XI];simp[hk]
  |false=>
   show rJ c _/\_;refine⟨hc,i+1,hi',rfl,hp1,rfl,?_⟩;rw[ht,List.filter_append,XI];simp[hk]
 ·rintro done O Z5 ⟨i,hi,rfl,_,e,rfl⟩;have:l.length<=i:=by
   have:=congrArg List.length e;simp at this;omega
  rw[List.take_of_length_le this];exact hR
def J8{L:M}(l:List Bool):vJ (.lst (l.map D.bl)) L=some (.bl (l.all id),L):=by
 have:sB inB (l.map D.bl)=some l:=by
  have:=xp (f:=inB) (g:=D.bl) (h:=id) (l:=l) (fun x _=>rfl);simpa using this
 unfold vJ;show(sB inB (l.map D.bl)).bind _=_;rw[this];rfl
def wg{a b:List D}{L:M}(h:a.length+b.length<=1000000):rP (.lst a) (.lst b) L=some (.lst (a++b),L):=if_pos h
def Rf{a:List D}{L:M}:sg (.lst a) L=some (.int (a.length:Int),L):=rfl
def Ev{ds:List D}{j:Nat}{v:D}{L:M}(h:ds[j]?=some v):fIx (.lst ds) (.int (j:Int)) L=some (v,L):=by
 show(atI ds (j:Int)).bind _=_;rw[wj h];rfl
def Pap:Nat->Type
 |0=>Unit
 |k+1=>List (Bool×Pap k)
def dPp:(k:Nat)->Pap k->D
 |0,_=>.tup []
 |k+1,(rows:List (Bool×Pap k))=>.lst (rows.map fun r=>.tup [.bl r.1,dPp k r.2])
def Sh(n:Nat):(k:Nat)->Pap k->Prop
 |0,_=>True
 |k+1,(rows:List (Bool×Pap k))=>rows.length=(prs n).length/\∀r∈rows,Sh n k r.2
def tI(n:Nat):(k:Nat)->List An->Pap k->Bool
 |0,as,_=>sj as&&(vd (sm n as)).isNone
 |k+1,as,(rows:List (Bool×Pap k))=>sj as&&((prs n).zip rows).all fun x=>tI n k (as++[(x.1.1,x.1.2,x.2.1)]) x.2.2
def dR(k:Nat)(r:Bool×Pap k):D:=.tup [.bl r.1,dPp k r.2]
def dX(k:Nat)(x:(Nat×Nat)×(Bool×Pap k)):D:=.tup [dP x.1,dR k x.2]
def yX{k:Nat}(rows:List (Bool×Pap k)):dPp (k+1) rows=.lst (rows.map (dR k)):=rfl
theorem Ed{k:Nat}:∀(ps:List (Nat×Nat)) (rows:List (Bool×Pap k)),tW (ps.map dP) (rows.map (dR k))=(ps.zip rows).map (dX k)
 | [],_=>by simp[tW]
 |_::_,[]=>by simp[tW]
 |p::ps,r::rows=>by simp[tW,dX,Ed ps rows]
def BM{n:Nat}{p:Nat×Nat}(h:p∈prs n):p.1<n/\p.2<n/\p.1≠p.2:=by
 unfold prs at h;obtain⟨i,hi,h⟩:=List.mem_flatMap.mp h;obtain⟨j,hj,rfl⟩:=Xm.mp h;have h1:=XF.mp hi;have h2:=XF.mp hj;refine⟨h1,?_,?_⟩<;>simp<;>omega
section
variable {L:M}
theorem M1{b:Bool}{x:D}:wq [.tup [.bl b,x]] L=some (.bl true,L):=by
 apply Au;unfold wq D8;refine(sU rfl).mpr ?_;show Ws (rn _ [some (.tup [.bl b,x])] L) _;have t1:wy "tuple" (.tup [.bl b,x]) L=some (.bl true,L):=rfl;have t2:sg (.tup [.bl b,x]) L=some (.int 2,L):=rfl;have t3:fIx (.tup [.bl b,x]) (.int 0) L=some (.bl b,L):=rfl;have t4:wy "bool" (.bl b) L=some (.bl true,L):=rfl;simp![t1,t2,t3,t4,decide_true];exact⟨by first|trivial|rfl,by first|trivial|rfl⟩
end
section
variable {L:M} {n k:Nat} {C CF CT:Addr}
theorem EU(o:Option (Option Int)):fEq (t6 o) se L=some (.bl o.isNone,L):=by
 have h1:("open":Str)≠"none":=by decide +kernel
 have h2:PyData.strOk "open"=true:=by decide +kernel
 have po:py 65 L se=some (.tuple [.str "open"]):=rfl;rcases o with _|_|i
 ·show(eqD se se L).bind _=_;have:eqD se se L=some true:=by
   show((py 65 L se).bind fun d=>(py 65 L se).bind fun e=>if(d.canLay0&&e.canLay0&&decide (d.depth<=64))=true then some (PyData.eqv d e) else none)=_;rw[po];simp[PyData.canLay0,PyData.canLayAll0,PyData.depth,PyData.depthAll,PyData.eqv,PyData.eqvAll,h2]
  rw[this];rfl
 ·show(eqD (dE none) se L).bind _=_;have:eqD (dE none) se L=some false:=by
   show((py 65 L (dE none)).bind fun d=>(py 65 L se).bind fun e=>if(d.canLay0&&e.canLay0&&decide (d.depth<=64))=true then some (PyData.eqv d e) else none)=_;rw[po,zx];simp[pE,PyData.canLay0,PyData.canLayAll0,PyData.depth,PyData.depthAll,PyData.eqv,PyData.eqvAll,h2,so2,h1,h1.symm]
  rw[this];rfl
 ·show(eqD (dE (some i)) se L).bind _=_;have:eqD (dE (some i)) se L=some false:=by
   show((py 65 L (dE (some i))).bind fun d=>(py 65 L se).bind fun e=>if(d.canLay0&&e.canLay0&&decide (d.depth<=64))=true then some (PyData.eqv d e) else none)=_;rw[po,zx];simp[pE,PyData.canLay0,PyData.canLayAll0,PyData.depth,PyData.depthAll,PyData.eqv,PyData.eqvAll,h2,so1]
  rw[this];rfl
theorem Sv{rows:List (Bool×Pap k)}{ps:List (Nat×Nat)}(hl:rows.length=ps.length)(hb:rows.length<=1000):yo wq [.lst (ps.map dP),.lst (rows.map (dR k))] L=some (.bl true,L):=by
 apply Au;unfold yo EG;refine(sU rfl).mpr ?_;show Ws (rn _ [some (.lst (ps.map dP)),some (.lst (rows.map (dR k)))] L) _;have t1:wy "list" (.lst (rows.map (dR k))) L=some (.bl true,L):=rfl;have t2:sg (.lst (rows.map (dR k))) L=some (.int (rows.length:Int),L):=by
  show some (D.int ((rows.map (dR k)).length:Int),L)=_;simp
 have t3:sg (.lst (ps.map dP)) L=some (.int (rows.length:Int),L):=by
  show some (D.int ((ps.map dP).length:Int),L)=_;simp[hl]
 simp![t1,t2,t3,decide_true];rw[v3];refine⟨by simp;omega,?_⟩;refine xU (dn:=dR k) (keep:=fun _=>true) (val:=fun _=>D.bl true) (fun O=>∃o,O=[o]) (show rJ none L from trivial) rows ⟨_,rfl⟩ ?_ ?_
 ·rintro r hr O ⟨o,rfl⟩;simp!;refine⟨trivial,⟨_,rfl⟩,trivial,trivial,fun _=>?_⟩;have:wq [dR k r] L=some (.bl true,L):=M1;rw[this];simp!;exact⟨trivial,trivial⟩
 ·have ea:((rows.filter fun _=>true).map fun _=>D.bl true)=(rows.map fun _=>true).map D.bl:=by rw[X3.mpr (by simp),Xu];rfl
  rw[ea];simp![J8];have:((rows.map fun _=>true).all id)=true:=by simp
  rw[this];exact⟨by first|trivial|rfl,by first|trivial|rfl⟩
def mmL(C CF CT:Addr):Nat->List D->M->Fr
 |0=>fun _ _=>none
 |m+1=>zw (dn (vm C)) (dn (xr C CF CT)) w9 (yo wq) (mmL C CF CT m) se
theorem xD{as:List An}(hv:Ok2 n as)(hs:as.length<=1000):Wp (dn (vm C) [.int (n:Int),.lst (as.map dA)] L) fun d Z5=>d=.bl (sj as)/\Gr L Z5:=by
 obtain⟨Z5,e,g⟩:=GX (C:=C) (L:=L) Ls.lst hv hs;exact zR ⟨_,_,e,_,rfl,rfl,g⟩
theorem BA{as:List An}(hv:Ok2 n as)(hs:as.length<=1000)(hn:n<=7)(hf:sm n as≠[]):Wp (dn (xr C CF CT) [.int (n:Int),.lst (as.map dA)] L) fun d Z5=>d=t6 (vd (sm n as))/\Gr L Z5:=by
 obtain⟨Z5,e,g⟩:=Pn (C:=C) (CF:=CF) (CT:=CT) (L:=L) Ls.lst hv hs hn hf;exact zR ⟨_,_,e,_,rfl,rfl,g⟩
theorem VH(hn:n<=7)(hp:(prs n).length<=1000):∀(k:Nat) (as:List An) (p:Pap k) (L:M) (m:Nat),k<m->Ok2 n as->as.length+k<=100->Sh n k p->Wp (mmL C CF CT m [.int (n:Int),.lst (as.map dA),.int (k:Int),dPp k p] L) fun d Z5=>d=.bl (tI n k as p)/\Gr L Z5:=by
 intro k;induction k with
 |zero=>
  intro as p L m hm hv hl _;obtain⟨m,rfl⟩:∃j,m=j+1:=⟨m - 1,by omega⟩
  unfold mmL zw BH;refine(sU rfl).mpr ?_;show Ws (rf _ _ [some (.int (n:Int)),some (.lst (as.map dA)),some (.int ((0:Nat):Int)),some (.tup []),none,none,none,none,none] L) _;have e0:decide (((0:Nat):Int)<0)=false:=by simp
  have e1:decide (((0:Nat):Int)=0)=true:=by simp
  simp![e0];refine(xD hv (by omega)).imp ?_;rintro _ Z4 ⟨rfl,g1⟩;have hle:tI n 0 as p=(sj as&&(vd (sm n as)).isNone):=rfl;cases hc:sj as with
  |false=>
   simp![Xw];rw[hle,hc];exact⟨rfl,g1⟩
  |true=>
   have t1:∀L:M,wy "tuple" (.tup []) L=some (.bl true,L):=fun _=>rfl;have t2:∀L:M,sg (.tup []) L=some (.int 0,L):=fun _=>rfl;simp![Xe,e1,t1,t2,decide_true];have hf:sm n as≠[]:=fun z=>by
    have:=(Ao (n:=n) (as:=as) (hv.inN)).mp z;rw[hc] at this;cases this
   refine(BA hv (by omega) hn hf).imp ?_;rintro _ Z3 ⟨rfl,g2⟩;simp![EU];rw[hle,hc];exact⟨rfl,g1.trans g2⟩
 |succ k ih=>
  rintro as (rows:List (Bool×Pap k)) L m hm hv hl ⟨hrl,hrs⟩;obtain⟨m,rfl⟩:∃j,m=j+1:=⟨m - 1,by omega⟩
  have hle:tI n (k+1) as rows=(sj as&&((prs n).zip (rows:List (Bool×Pap k))).all fun x=>tI n k (as++[(x.1.1,x.1.2,x.2.1)]) x.2.2):=rfl;generalize tI n (k+1) as rows=res at hle;rw[yX];unfold mmL zw BH;refine(sU rfl).mpr ?_;show Ws (rf _ _ [some (.int (n:Int)),some (.lst (as.map dA)),some (.int ((k+1:Nat):Int)),some (.lst (List.map (dR k) rows)),none,none,none,none,none] L) _;have e0:decide (((k+1:Nat):Int)<0)=false:=by simp;omega
  have e1:decide (((k+1:Nat):Int)=0)=false:=by simp;omega
  simp![e0];refine(xD hv (by omega)).imp ?_;rintro _ Z4 ⟨rfl,g1⟩;cases hc:sj as with
  |false=>
   simp![Xw];rw[hle,hc];exact⟨rfl,g1⟩
  |true=>
   rw[hc,Bool.true_and] at hle;simp![Xe,e1,D3 (show n<=100 by omega),Sv hrl (by omega)];have hz:ivZ (be 4) (be 3) [some (.int (n:Int)),some (.lst (as.map dA)),some (.int ((k+1:Nat):Int)),some (.lst (List.map (dR k) rows)),some (.lst ((prs n).map dP)),none,none,none,none] Z4=some ((((prs n).zip rows).map (dX k),none),Z4):=by
    show some ((tW ((prs n).map dP) (List.map (dR k) rows),none),Z4)=_;rw[Ed]
   refine xL hz ?_;simp!;refine wA (fun r O Z5=>Gr L Z5/\∃(l:List ((Nat×Nat)×(Bool×Pap k))) (o5 o6 o7 o8:Option D),r=l.map (dX k)/\O=[some (.int (n:Int)),some (.lst (as.map dA)),some (.int ((k+1:Nat):Int)),some (.lst (List.map (dR k) rows)),some (.lst ((prs n).map dP)),o5,o6,o7,o8]/\(∀x∈l,x∈(prs n).zip rows)/\res=l.all fun x=>tI n k (as++[(x.1.1,x.1.2,x.2.1)]) x.2.2) _ ⟨g1,_,_,_,_,_,rfl,rfl,fun x h=>h,hle⟩ ?_ ?_
   ·rintro d r O Z3 ⟨g2,l,o5,o6,o7,o8,hl2,rfl,hm2,hres⟩;cases l with
    |nil=>cases hl2
    |cons x l=>
     rw[WT] at hl2;injection hl2 with h1 h2
     subst h1 h2;have hx:=hm2 x (by simp);have hx1:=(Ya (a:=x.1) (b:=x.2) hx).1;have hx2:=(Ya (a:=x.1) (b:=x.2) hx).2;have ok:=BM hx1;show Wp (rT 2 _ (.tup [dP x.1,dR k x.2]) _ _) _;refine(vQ rfl).mpr ?_;simp!;show Wp (rT 2 _ (.tup [.int (x.1.1:Int),.int (x.1.2:Int)]) _ _) _;refine(vQ rfl).mpr ?_;simp!;show Wp (rT 2 _ (.tup [.bl x.2.1,dPp k x.2.2]) _ _) _;refine(vQ rfl).mpr ?_;simp!;rw[sN (by simp)];simp!;rw[vh (by simp)];simp!;rw[wg (by simp;omega)];simp!;have ea:as.map dA++[D.tup [.int (x.1.1:Int),.int (x.1.2:Int),.bl x.2.1]]=(as++[(x.1.1,x.1.2,x.2.1)]).map dA:=by simp[dA]
     have ek:(((k+1:Nat):Int) - 1)=(k:Int):=by omega
     rw[ea,ek];have hv2:Ok2 n (as++[(x.1.1,x.1.2,x.2.1)]):=by
      intro a ha;rcases Xb.mp ha with h|h
      ·exact hv a h
      ·cases Xj.mp h;exact ok
     refine(ih (as++[(x.1.1,x.1.2,x.2.1)]) x.2.2 Z3 m (by omega) hv2 (by simp;omega) (hrs x.2 hx2)).imp ?_;rintro _ ZM ⟨rfl,g3⟩;rw[List.all_cons] at hres;cases hb:tI n k (as++[(x.1.1,x.1.2,x.2.1)]) x.2.2 with
     |false=>
      simp![Xw];rw[hres,hb];exact⟨rfl,g2.trans g3⟩
     |true=>
      simp![Xe];rw[hb,Bool.true_and] at hres;exact⟨trivial,g2.trans g3,l,_,_,_,_,rfl,rfl,fun y hy=>hm2 y (by simp[hy]),hres⟩
   ·rintro O Z3 ⟨g2,l,o5,o6,o7,o8,hl2,rfl,hm2,hres⟩;cases l with
    |cons x l=>cases hl2
    |nil=>
     simp!;rw[hres];exact⟨rfl,g2⟩
def Bz(C CF CT:Addr):C0:=BL (dn (wb C CT)) (mmL C CF CT 10) (.int 4) (.int 2)
theorem Jb(h1:2<=n)(h2:n<=4)(hp:(prs n).length<=1000){p:Pap k}(hk:k<=8)(hs:Sh n k p):Wp (Bz C CF CT [.int (n:Int),.int (k:Int),dPp k p] L) fun d Z5=>d=.bl (tI n k [] p)/\Gr L Z5:=by
 unfold Bz BL EI;refine(sU rfl).mpr ?_;show Ws (rf _ _ [some (.int (n:Int)),some (.int (k:Int)),some (dPp k p)] L) _;simp!;refine zR ?_;unfold wb AY;refine(By rfl).mpr ?_;show Wt (sX _ _ [some (.int (n:Int)),some (.int 2),some (.int 4)] L) _;have e0:decide ((n:Int)<2)=false:=by simp;omega
 have e1:decide ((4:Int)<(n:Int))=false:=by simp;omega
 simp![e0,e1];refine⟨_,rfl,?_⟩;rw[vh (by simp)];simp!;exact VH (by omega) hp k [] p _ 10 (by omega) (fun a h=>by simp at h) (by simp;omega) hs
end
def dEl(l:List (Option Int)):D:=.lst (l.map dE)
def so3:PyData.strOk "open"=true:=by decide +kernel
def Rn{d:D}{ds:List D}{L:M}:fIx (.lst (d::ds)) (.int 0) L=some (d,L):=by
 rw[JT,show(0:Int)=((0:Nat):Int) from rfl,wj (j:=0) (v:=d) rfl];rfl
def Ts{Z9:List (List (Option Int))}{L:M}(h0:Z9≠[])(hl:Z9.length<=100000):Wp (vD se [.lst (Z9.map dEl)] L) fun d Z5=>d=t6 (cL Z9)/\Z5=L:=by
 obtain⟨l0,r,rfl⟩:=List.exists_cons_of_ne_nil h0;unfold vD Bi;refine(sU rfl).mpr ?_;show Ws (rf _ _ [some (.lst ((l0::r).map dEl)),none] L) _;simp![WT];rw[Rn];simp![dEl];generalize hL:l0::r=Z9 at hl;have hLm:D.lst (l0.map dE)::r.map dEl=Z9.map dEl:=by rw[←hL];rfl
 refine wA (fun rr O Z5=>Z5=L/\(∃o,O=[some (.lst (D.lst (l0.map dE)::r.map dEl)),o])/\∃q,rr=q.map dE/\cL Z9=q.find? fun t=>Z9.all fun l=>decide (t∈l)) _ ⟨rfl,⟨_,rfl⟩,l0,rfl,by rw[←hL];rfl⟩ ?_ ?_
 ·rintro d rr O Z5 ⟨rfl,⟨o,rfl⟩,q,e,hq⟩;cases q with
  |nil=>cases e
  |cons t q=>
   cases e;simp![v3];rw[hLm];refine⟨by simp;omega,?_⟩;show Wp (sw none _ _ _ _ [none,some (dE t)] _) _;refine xU (dn:=dEl) (fun O=>∃o,O=[o,some (dE t)]) (c:=none) trivial Z9 ⟨_,rfl⟩ (keep:=fun _=>true) (val:=fun l=>D.bl (decide (t∈l))) ?_ ?_
   ·rintro l hl O ⟨o,rfl⟩;simp![dEl,Jk];exact⟨trivial,⟨_,rfl⟩,trivial,trivial,fun _=>⟨trivial,trivial⟩⟩
   ·have ef:(Z9.filter fun _=>true).map (fun l=>D.bl (decide (t∈l)))=(Z9.map fun l=>decide (t∈l)).map D.bl:=by
     rw[X3.mpr (fun _ _=>rfl),Xu];rfl
    rw[ef];simp![J8];have ea:(Z9.map fun l=>decide (t∈l)).all id=Z9.all fun l=>decide (t∈l):=by rw[List.all_map];rfl
    rw[ea];rw[WX] at hq;cases hb:Z9.all fun l=>decide (t∈l) with
    |true=>
     rw[hb] at hq;simp!;rw[hq];exact⟨rfl,trivial⟩
    |false=>
     rw[hb] at hq;simp!;exact⟨trivial,trivial,⟨_,rfl⟩,q,rfl,hq⟩
 ·rintro O Z5 ⟨rfl,⟨o,rfl⟩,q,e,hq⟩;cases q with
  |cons t q=>cases e
  |nil=>
   simp!;rw[hq];exact⟨rfl,trivial⟩
def dTr:Tr->D
 | .e x=>dE x
 | .ask i j a b=>.tup [.str "ask",.int (i:Int),.int (j:Int),dTr a,dTr b]
def dO:Option Tr->D
 |none=>.non
 |some t=>dTr t
def Kj(t:Tr):∃ds,dTr t=.tup ds:=by
 cases t with
 |e x=>cases x<;>exact⟨_,rfl⟩
 |ask i j a b=>exact⟨_,rfl⟩
def Cu{o:Option Tr}{L:M}:vc (dO o) .non L=some (.bl o.isNone,L):=by
 cases o with
 |none=>rfl
 |some t=>obtain⟨ds,e⟩:=Kj t;show vc (dTr t) .non L=_;rw[e];rfl
def Qr{o:Option Tr}{L:M}:wk (dO o) .non L=some (.bl o.isSome,L):=by
 cases o with
 |none=>rfl
 |some t=>obtain⟨ds,e⟩:=Kj t;show wk (dTr t) .non L=_;rw[e];rfl
def dN(l:List Nat):D:=.tup ((l.map fun x:Nat=>(x:Int)).map D.int)
structure Sp (n:Nat) (ps:List (Nat×Nat)) (ss:List (List Int)) (es:List (List (Option Int))):Prop where
 len:es.length=ss.length
 few:ss.length<=2000
 sl:∀s∈ss,s.length=n
 pr:∀p∈ps,p.1<n/\p.2<n
 pl:ps.length<=1000
structure Sr (C:Addr) (ps:List (Nat×Nat)) (ss:List (List Int)) (es:List (List (Option Int))) (L:M) (k m:Nat) (kvs:List (NK×D)):Prop where
 obj:L[k]?=some (some (.ins C [("pairs",.lst (ps.map dP)),("sorts",.lst (ss.map fun s=>.lst (s.map D.int))),("ends",.lst (es.map dEl)),("searched",.ref m)]))
 dic:L[m]?=some (some (.dN kvs))
 good:∀p∈kvs,∃(left:List Nat) (a:Nat),p.1=(left.map (fun x:Nat=>(x:Int)),(a:Int))/\p.2=dO (rK ps ss es a left)
section
variable {C:Addr} {n:Nat} {ps:List (Nat×Nat)} {ss:List (List Int)} {es:List (List (Option Int))} {L Z5:M} {k m:Nat} {kvs:List (NK×D)}
theorem Sr.ne(h:Sr C ps ss es L k m kvs):k≠m:=fun e=>by
 have h1:=h.obj;rw[e,h.dic] at h1;cases h1
theorem Sr.f1(h:Sr C ps ss es L k m kvs):tO C "pairs" (.ref k) L=some (.lst (ps.map dP),L):=B5 h.obj rfl
theorem Sr.f2(h:Sr C ps ss es L k m kvs):tO C "sorts" (.ref k) L=some (.lst (ss.map fun s=>.lst (s.map D.int)),L):=B5 h.obj rfl
theorem Sr.f3(h:Sr C ps ss es L k m kvs):tO C "ends" (.ref k) L=some (.lst (es.map dEl),L):=B5 h.obj rfl
theorem Sr.f4(h:Sr C ps ss es L k m kvs):tO C "searched" (.ref k) L=some (.ref m,L):=B5 h.obj rfl
def cc:Nat->Nat->Nat
 |0,_=>1
 |a+1,o=>1+o*(2*cc a (o - 1))
def opn(ss:List (List Int))(left:List Nat)(p:Nat×Nat):Bool:=!decide (alk ss p.1 p.2 left=[])&&!decide (unl ss p.1 p.2 left=[])
def op(ps:List (Nat×Nat))(ss:List (List Int))(left:List Nat):Nat:=(ps.filter (opn ss left)).length
theorem MG{J:Type}{f g:J->Bool}(h:∀x,f x=true->g x=true){p:J}(h1:f p=false)(h2:g p=true):∀{l:List J},p∈l->(l.filter f).length+1<=(l.filter g).length:=by
 have le:∀l:List J,(l.filter f).length<=(l.filter g).length:=by
  intro l;induction l with
  |nil=>simp
  |cons x l ih=>
   rw[Yl,Yl];cases hf:f x with
   |true=>rw[h x hf];simpa using ih
   |false=>cases hg:g x<;>simp<;>omega
 intro l;induction l with
 |nil=>intro m;cases m
 |cons x l ih=>
  intro m;rw[Yl,Yl];rcases Xd.mp m with rfl|m
  ·rw[h1,h2];have:=le l;simp;omega
  ·have:=ih m;cases hf:f x with
   |true=>rw[h x hf];simp;omega
   |false=>cases hg:g x<;>simp<;>omega
theorem MN{f:Nat->Bool}{l1 l2:List Nat}(hs:∀x∈l1,x∈l2)(h:l2.filter f=[]):l1.filter f=[]:=by
 rw[XQ] at h⊢;exact fun x hx=>h x (hs x hx)
theorem Hy{left l1:List Nat}(hs:∀x∈l1,x∈left)(p:Nat×Nat)(h:opn ss l1 p=true):opn ss left p=true:=by
 unfold opn at h⊢;simp only[Xg,Bool.not_eq_true',decide_eq_false_iff_not] at h⊢;exact⟨fun e=>h.1 (MN hs e),fun e=>h.2 (MN hs e)⟩
theorem Pm{left:List Nat}{p:Nat×Nat}(hp:p∈ps)(ho:opn ss left p=true):op ps ss (alk ss p.1 p.2 left)+1<=op ps ss left:=by
 refine MG (Hy fun x hx=>(Xh.mp hx).1) ?_ ho hp;have:unl ss p.1 p.2 (alk ss p.1 p.2 left)=[]:=by
  unfold unl alk;rw[XQ];intro x hx;have:=(Xh.mp hx).2;simpa using this
 show opn ss (alk ss p.1 p.2 left) p=false;unfold opn;rw[Xz this];simp
theorem TJ{left:List Nat}{p:Nat×Nat}(hp:p∈ps)(ho:opn ss left p=true):op ps ss (unl ss p.1 p.2 left)+1<=op ps ss left:=by
 refine MG (Hy fun x hx=>(Xh.mp hx).1) ?_ ho hp;have:alk ss p.1 p.2 (unl ss p.1 p.2 left)=[]:=by
  unfold unl alk;rw[XQ];intro x hx;have:=(Xh.mp hx).2;simpa using this
 show opn ss (unl ss p.1 p.2 left) p=false;unfold opn;rw[Xz this];rfl
theorem Kk(a o:Nat):1<=cc a o:=by cases a<;>simp[cc]
theorem BJ:∀(a:Nat) {o o':Nat},o<=o'->cc a o<=cc a o'
 |0,_,_,_=>WJ _
 |a+1,o,o',h=>by
  show 1+o*(2*cc a (o - 1))<=1+o'*(2*cc a (o' - 1));have h1:=BJ a (show o - 1<=o' - 1 by omega);have:=Nat.mul_le_mul h (Nat.mul_le_mul_left 2 h1);omega
abbrev key(left:List Nat)(a:Nat):NK:=(left.map (fun x:Nat=>(x:Int)),(a:Int))
def Tw(C:Addr)(n:Nat)(ps:List (Nat×Nat))(ss:List (List Int))(es:List (List (Option Int)))(a:Nat)(f:C0):Prop:=
 ∀(left:List Nat) (k m:Nat) (kvs:List (NK×D)) (L:M),Sr C ps ss es L k m kvs->left≠[]->(∀x∈left,x<ss.length)->left.length<=2000->(sI kvs (key left a)=none->kvs.length+cc a (op ps ss left)<=15000000)->
  Wp (f [.ref k,dN left,.int (a:Int)] L) fun d Z5=>d=dO (rK ps ss es a left)/\∃kvs',Sr C ps ss es Z5 k m kvs'/\kvs'.length<=kvs.length+(if(sI kvs (key left a)).isSome then 0 else cc a (op ps ss left))/\(sI kvs' (key left a)).isSome=true/\Kp m L Z5
theorem Tw.le{c:Nat}{o:Option D}{a b:Nat}(h:a<=b+(if o.isSome then 0 else c)):a<=b+c:=by
 cases o<;>simp at h<;>omega
theorem Fo{ds:List D}{j:Nat}{v:D}{L:M}(h:ds[j]?=some v):fIx (.lst ds) (.int (j:Int)) L=some (v,L):=by
 rw[JT,wj h];rfl
theorem ix1{x:Nat}{L:M}(hx:x<ss.length):fIx (.lst (ss.map fun s=>.lst (s.map D.int))) (.int (x:Int)) L=some (.lst ((ss.getD x []).map D.int),L):=
 Fo (by simp[hx,WS])
theorem ix2{x i:Nat}{L:M}(S:Sp n ps ss es)(hx:x<ss.length)(hi:i<n):fIx (.lst ((ss.getD x []).map D.int)) (.int (i:Int)) L=some (.int (at2 ss x i),L):=by
 have hs:=S.sl _ (Xv hx);refine Fo ?_;unfold at2;simp[WS,hx,WP (show i<(ss[x]).length by omega)]
theorem Lb{ds:List D}{L:M}:AQ (.lst ds) L=some (.tup ds,L):=rfl
theorem Hf{ds:List D}{L:M}{RB:Bool->M->Prop}:qTr RB (.tup ds) L↔RB (!ds.isEmpty) L:=⟨fun⟨_,e,q⟩=>by cases e;exact q,fun q=>⟨_,rfl,q⟩⟩
theorem zX{l:List Nat}:(l.map fun x:Nat=>(x:Int)).map D.int=l.map fun x:Nat=>D.int (x:Int):=by rw[Xu];rfl
theorem isE{l:List Nat}:(!((l.map fun x:Nat=>(x:Int)).map D.int).isEmpty)=!decide (l=[]):=by cases l<;>rfl
theorem Uk{f:C0}{a:Nat}(S:Sp n ps ss es)(T:Tw C n ps ss es a f){left:List Nat}{p:Nat×Nat}(h:Sr C ps ss es L k m kvs)(hm:p∈ps)(hl:∀x∈left,x<ss.length)(hll:left.length<=2000)(hc:opn ss left p=true->kvs.length+2*cc a (op ps ss left - 1)<=15000000):
  Wp (yB f C [.ref k,.int (p.1:Int),.int (p.2:Int),dN left,.int ((a+1:Nat):Int)] L) fun d Z5=>d=dO (wd ss (rK ps ss es a) left p)/\∃kvs',Sr C ps ss es Z5 k m kvs'/\kvs'.length<=kvs.length+(if opn ss left p=true then 2*cc a (op ps ss left - 1) else 0)/\Kp m L Z5:=by
 have hp:=S.pr p hm;unfold yB D2;refine(sU rfl).mpr ?_;show Ws (rf _ _ [some (.ref k),some (.int (p.1:Int)),some (.int (p.2:Int)),some (dN left),some (.int ((a+1:Nat):Int)),none,none,none,none] L) _;unfold dN;simp![v3,WQ];refine⟨by omega,?_⟩;rw[zX];refine xU (dn:=fun x:Nat=>D.int (x:Int)) (fun O=>∃o,O=[o,some (.ref k),some (.int (p.1:Int)),some (.int (p.2:Int))]) (c:=none) trivial left ⟨_,rfl⟩ (keep:=fun x=>decide (at2 ss x p.1=at2 ss x p.2)) (val:=fun x:Nat=>D.int (x:Int)) ?_ ?_
 ·rintro x hx O ⟨o,rfl⟩;simp![h.f2,ix1 (hl x hx),ix2 S (hl x hx) hp.1,ix2 S (hl x hx) hp.2];exact⟨trivial,⟨_,rfl⟩,trivial,trivial,fun _=>⟨trivial,trivial⟩⟩
 have ea:(left.filter fun x=>decide (at2 ss x p.1=at2 ss x p.2)).map (fun x:Nat=>D.int (x:Int))=((alk ss p.1 p.2 left).map fun x:Nat=>(x:Int)).map D.int:=by rw[zX];rfl
 rw[ea];simp![Lb,v3,WQ];refine⟨by omega,?_⟩;refine xU (dn:=fun x:Nat=>D.int (x:Int)) (fun O=>∃o,O=[o,some (.ref k),some (.int (p.1:Int)),some (.int (p.2:Int))]) (c:=none) trivial left ⟨_,rfl⟩ (keep:=fun x=>!decide (at2 ss x p.1=at2 ss x p.2)) (val:=fun x:Nat=>D.int (x:Int)) ?_ ?_
 ·rintro x hx O ⟨o,rfl⟩;simp![h.f2,ix1 (hl x hx),ix2 S (hl x hx) hp.1,ix2 S (hl x hx) hp.2];exact⟨trivial,⟨_,rfl⟩,trivial,trivial,fun _=>⟨trivial,trivial⟩⟩
 have eu:(left.filter fun x=>!decide (at2 ss x p.1=at2 ss x p.2)).map (fun x:Nat=>D.int (x:Int))=((unl ss p.1 p.2 left).map fun x:Nat=>(x:Int)).map D.int:=by rw[zX];rfl
 rw[eu];have la:(alk ss p.1 p.2 left).length<=2000:=Xo (X8 _ _) hll;have lu:(unl ss p.1 p.2 left).length<=2000:=Xo (X8 _ _) hll;have ma:∀x∈alk ss p.1 p.2 left,x<ss.length:=fun x hx=>hl x (Xh.mp hx).1;have mu:∀x∈unl ss p.1 p.2 left,x<ss.length:=fun x hx=>hl x (Xh.mp hx).1;simp![Lb,Hf,isE];unfold wd;have hop:opn ss left p=(!decide (alk ss p.1 p.2 left=[])&&!decide (unl ss p.1 p.2 left=[])):=rfl;have hoa:=Pm (ss:=ss) (left:=left) hm;have hou:=TJ (ss:=ss) (left:=left) hm;generalize opn ss left p=bo at hop hoa hou hc;generalize alk ss p.1 p.2 left=al at la ma hop hoa;generalize unl ss p.1 p.2 left=un at lu mu hop hou;by_cases ha:al=[]
 ·rw[Xz ha,if_pos (.inl ha)];simp![Xe,Xw];exact⟨rfl,kvs,h,by omega,.refl⟩
 ·rw[W9 ha];simp![Xe,Xw,Hf,isE];by_cases hu:un=[]
  ·rw[Xz hu,if_pos (.inr hu)];simp![Xe,Xw];exact⟨rfl,kvs,h,by omega,.refl⟩
  ·rw[W9 hu,if_neg (fun z=>z.elim ha hu)];have hbo:bo=true:=by rw[hop,W9 ha,W9 hu];rfl
   subst hbo;have c0:=hc rfl;have c1:=BJ a (show op ps ss al<=op ps ss left - 1 by have:=hoa rfl;omega);have c2:=BJ a (show op ps ss un<=op ps ss left - 1 by have:=hou rfl;omega);rw[if_pos rfl];simp![Xe,Xw];rw[yL h.obj rfl];simp!;have e1:((a+1:Nat):Int) - 1=(a:Int):=by omega
   rw[e1];refine(T al k m kvs L h ha ma la (fun _=>by omega)).imp ?_;rintro _ Z4 ⟨rfl,kvs1,h1,hl1,_,g1⟩;have hl1:=Tw.le hl1;simp![Cu];cases hta:rK ps ss es a al with
   |none=>
    simp![Option.isNone_none];exact⟨rfl,kvs1,h1,by omega,g1⟩
   |some ta=>
    simp![Option.isNone_some];rw[yL h1.obj rfl];simp!;rw[e1];refine(T un k m kvs1 Z4 h1 hu mu lu (fun _=>by omega)).imp ?_;rintro _ Z3 ⟨rfl,kvs2,h2,hl2,_,g2⟩;have hl2:=Tw.le hl2;simp![Cu];cases htu:rK ps ss es a un with
    |none=>
     simp![Option.isNone_none];exact⟨rfl,kvs2,h2,by omega,g1.trans g2⟩
    |some tu=>
     simp![Option.isNone_some];rw[sN (by simp)];simp!;exact⟨rfl,kvs2,h2,by omega,g1.trans g2⟩
end
def Ou{o:Option (Option Int)}{L:M}:fNe (t6 o) se L=some (.bl o.isSome,L):=by
 have key:∀(x:PyData),py 65 L (t6 o)=some x->x.canLay0=true->x.depth<=64->PyData.eqv x (.tuple [.str "open"])=!o.isSome->fNe (t6 o) se L=some (.bl o.isSome,L):=by
  intro x h1 h2 h3 h4;have e2:py 65 L se=some (.tuple [.str "open"]):=rfl;have l2:(PyData.tuple [.str "open"]).canLay0=true:=by simp[PyData.canLay0,PyData.canLayAll0,so3]
  have ee:eqD (t6 o) se L=some (!o.isSome):=by
   have:eqD (t6 o) se L=(py 65 L (t6 o)).bind fun d=>(py 65 L se).bind fun e=>if(d.canLay0&&e.canLay0&&decide (d.depth<=64))=true then some (PyData.eqv d e) else none:=by
    cases o with
    |none=>rfl
    |some t=>cases t<;>rfl
   rw[this,h1,e2];simp only[Option.bind_some,h2,l2,Xz h3,Bool.and_self,if_true,h4]
  unfold fNe;rw[ee];simp
 cases o with
 |none=>exact key (.tuple [.str "open"]) rfl (by simp[PyData.canLay0,PyData.canLayAll0,so3]) (by simp[PyData.depth,PyData.depthAll]) (by simp[PyData.eqv,PyData.eqvAll])
 |some t=>
  refine key (pE t) (zx t) (DP t) (Xo (Ii t) (by decide)) ?_;cases t with
  |none=>simp[pE,PyData.eqv,PyData.eqvAll];decide +kernel
  |some t=>simp[pE,PyData.eqv,PyData.eqvAll]
section
variable {C:Addr} {n:Nat} {ps:List (Nat×Nat)} {ss:List (List Int)} {es:List (List (Option Int))} {L Z5:M} {k m:Nat} {kvs:List (NK×D)}
theorem ix3{x:Nat}{L:M}(hx:x<es.length):fIx (.lst (es.map dEl)) (.int (x:Int)) L=some (dEl (es.getD x []),L):=Fo (by simp[hx,WS])
abbrev AV(C:Addr)(f:C0):C0:=Cb (vD se) (yB f C) se C
theorem Vg{f:C0}{a:Nat}(S:Sp n ps ss es)(T:∀b,b+1=a->Tw C n ps ss es b f){left:List Nat}(h:Sr C ps ss es L k m kvs)(h0:left≠[])(hl:∀x∈left,x<ss.length)(hll:left.length<=2000)(hc:kvs.length+cc a (op ps ss left)<=15000000):
  Wp (AV C f [.ref k,dN left,.int (a:Int)] L) fun d Z5=>d=dO (rK ps ss es a left)/\∃kvs',Sr C ps ss es Z5 k m kvs'/\kvs'.length+1<=kvs.length+cc a (op ps ss left)/\Kp m L Z5:=by
 unfold AV Cb Ek;refine(sU rfl).mpr ?_;show Ws (rf _ _ [some (.ref k),some (dN left),some (.int (a:Int)),none,none,none,none] L) _;unfold dN;simp![v3,WQ];refine⟨by omega,?_⟩;rw[zX];refine xU (dn:=fun x:Nat=>D.int (x:Int)) (fun O=>∃o,O=[o,some (.ref k)]) (c:=none) trivial left ⟨_,rfl⟩ (keep:=fun _=>true) (val:=fun x:Nat=>dEl (es.getD x [])) ?_ ?_
 ·rintro x hx O ⟨o,rfl⟩;simp![h.f3,ix3 (show x<es.length by rw[S.len];exact hl x hx)];exact⟨trivial,⟨_,rfl⟩,trivial,trivial,fun _=>⟨trivial,trivial⟩⟩
 have ev:(left.filter fun _=>true).map (fun x:Nat=>dEl (es.getD x []))=(left.map fun x=>es.getD x []).map dEl:=by
  rw[X3.mpr (fun _ _=>rfl),Xu];rfl
 rw[ev,←zX];refine(Ts (by simpa using h0) (by simp;omega)).imp ?_;rintro _ Z4 ⟨rfl,rfl⟩;simp![Ou];have hcE:cL (left.map fun x=>es.getD x [])=cE es left:=rfl;rw[hcE];have hpos:=Kk a (op ps ss left);cases he:cE es left with
 |some x=>
  simp![Option.isSome_some];have et:rK ps ss es a left=some (.e x):=by cases a<;>simp[rK,he]
  rw[et];exact⟨rfl,kvs,h,by omega,.refl⟩
 |none=>
  simp![Option.isSome_none];cases a with
  |zero=>
   have et:rK ps ss es 0 left=none:=by simp[rK,he]
   rw[et];simp![Int.natCast_zero,decide_true];exact⟨rfl,kvs,h,by omega,.refl⟩
  |succ a=>
   have ez:decide (((a+1:Nat):Int)=0)=false:=W9 (by omega);rw[ez];simp![h.f1];have et:rK ps ss es (a+1) left=ps.findSome? (wd ss (rK ps ss es a) left):=by simp[rK,he]
   rw[et];have hcc:cc (a+1) (op ps ss left)=1+op ps ss left*(2*cc a (op ps ss left - 1)):=rfl;rw[hcc] at hc⊢;generalize hq:cc a (op ps ss left - 1)=q at hc⊢;refine wA (fun rr O Z5=>∃qs kvs' o3 o4 o5 o6,rr=qs.map dP/\(∀p∈qs,p∈ps)/\ps.findSome? (wd ss (rK ps ss es a) left)=qs.findSome? (wd ss (rK ps ss es a) left)/\O=[some (.ref k),some (.tup ((left.map fun x:Nat=>(x:Int)).map D.int)),some (.int ((a+1:Nat):Int)),o3,o4,o5,o6]/\Sr C ps ss es Z5 k m kvs'/\kvs'.length+op qs ss left*(2*q)<=kvs.length+op ps ss left*(2*q)/\Kp m Z4 Z5) _ ⟨ps,kvs,_,_,_,_,rfl,fun p h=>h,rfl,rfl,h,by omega,.refl⟩ ?_ ?_
   ·rintro d rr O Z3 ⟨qs,kvs2,o3,o4,o5,o6,e,hm,hf,rfl,h2,hl2,g2⟩;cases qs with
    |nil=>cases e
    |cons p qs=>
     cases e;have e3:op (p::qs) ss left*(2*q)=op qs ss left*(2*q)+(if opn ss left p=true then 2*q else 0):=by
      unfold op;rw[Yl];cases opn ss left p with
      |true=>simp[Nat.add_mul]
      |false=>simp
     rw[e3] at hl2;unfold dP;rw[vQ (n:=2) rfl];simp!;rw[yL h2.obj rfl];simp!;refine(Uk S (T a rfl) (p:=p) h2 (hm p (by simp)) hl hll (fun ho=>by rw[hq];rw[if_pos ho] at hl2;omega)).imp ?_;rintro _ ZM ⟨rfl,kvs3,h3,hl3,g3⟩;rw[hq] at hl3;simp![Qr];rw[List.findSome?_cons] at hf;cases ha:wd ss (rK ps ss es a) left p with
     |some t=>
      rw[ha] at hf;simp![Option.isSome_some];rw[hf];exact⟨rfl,kvs3,h3,by omega,g2.trans g3⟩
     |none=>
      rw[ha] at hf;simp![Option.isSome_none];exact⟨trivial,qs,kvs3,_,_,_,_,rfl,fun p h=>hm p (by simp[h]),hf,rfl,h3,by omega,g2.trans g3⟩
   ·rintro O Z3 ⟨qs,kvs2,o3,o4,o5,o6,e,hm,hf,rfl,h2,hl2,g2⟩;cases qs with
    |cons p qs=>cases e
    |nil=>
     simp!;rw[hf];refine⟨rfl,kvs2,h2,?_,g2⟩;omega
abbrev Ee(C:Addr)(f:C0):C0:=AI (AV C f) C
theorem Jv{f:C0}{a:Nat}(S:Sp n ps ss es)(T:∀b,b+1=a->Tw C n ps ss es b f):Tw C n ps ss es a (Ee C f):=by
 intro left k m kvs L h h0 hl hll hc;have hpos:=Kk a (op ps ss left);unfold Ee AI CK;refine(sU rfl).mpr ?_;show Ws (rf _ _ [some (.ref k),some (dN left),some (.int (a:Int))] L) _;simp!;rw[sN (by simp)];simp![h.f4];unfold dN;rw[Pt h.dic];simp!;cases hv:sI kvs (left.map (fun x:Nat=>(x:Int)),(a:Int)) with
 |some d=>
  simp![Option.isSome_some,Xe,h.f4];rw[sN (by simp)];simp!;rw[DB h.dic hv];simp!;obtain⟨left',a',e1,e2⟩:=h.good _ (Fi hv);have ea:a'=a:=by
   have:=congrArg Prod.snd e1;simp at this;omega
  have el:left'=left:=by
   have:=congrArg Prod.fst e1;simp only at this;exact(List.map_inj_right (fun x y e=>by have e:(x:Int)=(y:Int):=e;omega)).mp this.symm
  subst ea el;exact⟨e2,kvs,h,by simp,by rw[hv];rfl,.refl⟩
 |none=>
  simp![Option.isSome_none,Xw];rw[yL h.obj rfl];simp!;have hc:=hc hv;refine(Vg S T (left:=left) h h0 hl hll hc).imp ?_;rintro _ Z4 ⟨rfl,kvs1,h1,hl1,g1⟩;simp![h1.f4];rw[sN (by simp)];simp!;rw[Pl h1.dic (by omega)];simp!;cases hv1:sI kvs1 (left.map (fun x:Nat=>(x:Int)),(a:Int)) with
  |none=>
   obtain⟨w1,w2⟩:=OO (d:=dO (rK ps ss es a left)) hv1;rw[w2] at w1;rw[w2];have h2:Sr C ps ss es (Z4.set m (some (.dN (kvs1++[((left.map (fun x:Nat=>(x:Int)),(a:Int)),dO (rK ps ss es a left))])))) k m (kvs1++[((left.map (fun x:Nat=>(x:Int)),(a:Int)),dO (rK ps ss es a left))]):=by
    refine⟨by rw[tM h1.ne];exact h1.obj,tT h1.dic,?_⟩;intro p hp;rcases Xb.mp hp with hp|hp
    ·exact h1.good p hp
    ·rw[Xj] at hp;subst hp;exact⟨left,a,rfl,rfl⟩
   simp![h2.f4];rw[sN (by simp)];simp!;rw[DB h2.dic w1];simp!;exact⟨trivial,_,h2,by simp;omega,by rw[w1];rfl,g1.trans yC⟩
  |some d1=>
   obtain⟨left',a',e1,e2⟩:=h1.good _ (Fi hv1);have ea:a'=a:=by
    have:=congrArg Prod.snd e1;simp at this;omega
   have el:left'=left:=by
    have:=congrArg Prod.fst e1;simp only at this;exact(List.map_inj_right (fun x y e=>by have e:(x:Int)=(y:Int):=e;omega)).mp this.symm
   subst ea el;have e2:d1=dO (rK ps ss es a' left'):=e2;subst e2;have hm1:=Fi hv1;generalize hK:((left'.map (fun x:Nat=>(x:Int)),(a':Int)):NK)=K at hv1 hm1;have hany:(kvs1.any fun kv=>decide (kv.1=K))=true:=by
    rw[X5];exact⟨_,hm1,by simp⟩
   have hp2:uJ kvs1 K (dO (rK ps ss es a' left'))=kvs1.map fun kv=>if kv.1=K then(kv.1,dO (rK ps ss es a' left')) else kv:=by unfold uJ;rw[if_pos hany]
   rw[hp2];have hval:sI (kvs1.map fun kv=>if kv.1=K then(kv.1,dO (rK ps ss es a' left')) else kv) K=some (dO (rK ps ss es a' left')):=by
    clear hp2 hany hm1 hl1 h1 hc;unfold sI at hv1⊢;induction kvs1 with
    |nil=>cases hv1
    |cons z r ih=>
     rw[WT];by_cases hz:z.1=K
     ·simp[WX,hz]
     ·simp only[WX,hz,decide_false,if_false] at hv1⊢;exact ih hv1
   have h2:Sr C ps ss es (Z4.set m (some (.dN (kvs1.map fun kv=>if kv.1=K then(kv.1,dO (rK ps ss es a' left')) else kv)))) k m (kvs1.map fun kv=>if kv.1=K then(kv.1,dO (rK ps ss es a' left')) else kv):=by
    refine⟨by rw[tM h1.ne];exact h1.obj,tT h1.dic,?_⟩;intro p hp;obtain⟨z,hz,rfl⟩:=Xm.mp hp;by_cases e:z.1=K
    ·rw[if_pos e];exact⟨left',a',by rw[hK];exact e,rfl⟩
    ·rw[if_neg e];exact h1.good z hz
   simp![h2.f4];rw[sN (by simp)];simp!;rw[←hK] at hval h2⊢;rw[DB h2.dic hval];simp!;exact⟨trivial,_,h2,by simp;omega,by rw[hval];rfl,g1.trans yC⟩
def xl(C:Addr):Nat->List D->M->Fr
 |0=>fun _ _=>none
 |f+1=>Ee C (xl C f)
theorem MJ(S:Sp n ps ss es):∀(a f:Nat),a<f->Tw C n ps ss es a (xl C f)
 |a,0,h=>by omega
 |0,f+1,_=>Jv S fun b e=>by omega
 |a+1,f+1,h=>Jv S fun b e=>by
  have:b=a:=by omega
  subst this;exact MJ S b f (by omega)
end
def Ic{n m:Nat}{s:List Int}(h:s∈(Sx n m).map (·.1)):s.length=n:=by
 obtain⟨p,hp,rfl⟩:=Xm.mp h;exact((yE m n p hp).len)
section
variable {C:Addr} {n:Nat} {ss:List (List Int)} {es:List (List (Option Int))} {L:M}
abbrev BQ(C:Addr):C0:=Ch w9 C
theorem pf2{d p:D}:sY "sorts" d [("pairs",p)]=([("pairs",p),("sorts",d)]:List (Str×D)):=by
 unfold sY;rw[if_neg (by decide +kernel)];rfl
theorem pf3{d p q:D}:sY "ends" d [("pairs",p),("sorts",q)]=([("pairs",p),("sorts",q),("ends",d)]:List (Str×D)):=by
 unfold sY;rw[if_neg (by decide +kernel)];unfold sY;rw[if_neg (by decide +kernel)];rfl
theorem pf4{d p q r:D}:sY "searched" d [("pairs",p),("sorts",q),("ends",r)]=([("pairs",p),("sorts",q),("ends",r),("searched",d)]:List (Str×D)):=by
 unfold sY;rw[if_neg (by decide +kernel)];unfold sY;rw[if_neg (by decide +kernel)];unfold sY;rw[if_neg (by decide +kernel)];rfl
theorem S9(hn:n<=100){k:Nat}(hk:L[k]?=some (some (.ins C []))):Wp (BQ C [.ref k,.int (n:Int),.lst (ss.map dI),.lst (es.map dEl)] L) fun d Z5=>d=.non/\∃m,L.length<=m/\Sr C (prs n) ss es Z5 k m []/\Kp k L Z5:=by
 unfold BQ Ch CJ;refine(sU rfl).mpr ?_;show Ws (rf _ _ [some (.ref k),some (.int (n:Int)),some (.lst (ss.map dI)),some (.lst (es.map dEl))] L) _;simp![D3 hn];rw[B2 hk (by simp)];simp!;have h1:(L.set k (some (Z8.ins C (sY "pairs" (.lst ((prs n).map dP)) []))))[k]?=some (some (Z8.ins C [("pairs",.lst ((prs n).map dP))])):=tT hk;have g1:Kp k L (L.set k (some (Z8.ins C (sY "pairs" (.lst ((prs n).map dP)) [])))):=yC;generalize L.set k (some (Z8.ins C (sY "pairs" (.lst ((prs n).map dP)) [])))=Z4 at h1 g1;rw[B2 h1 (by simp)];simp!;rw[pf2];have h2:=tT (y:=some (Z8.ins C [("pairs",.lst ((prs n).map dP)),("sorts",.lst (ss.map dI))])) h1;have g2:Kp k Z4 (Z4.set k (some (Z8.ins C [("pairs",.lst ((prs n).map dP)),("sorts",.lst (ss.map dI))]))):=yC;generalize Z4.set k (some (Z8.ins C [("pairs",.lst ((prs n).map dP)),("sorts",.lst (ss.map dI))]))=Z3 at h2 g2;rw[B2 h2 (by simp)];simp!;rw[pf3];have h3:=tT (y:=some (Z8.ins C [("pairs",.lst ((prs n).map dP)),("sorts",.lst (ss.map dI)),("ends",.lst (es.map dEl))])) h2;have g3:Kp k Z3 (Z3.set k (some (Z8.ins C [("pairs",.lst ((prs n).map dP)),("sorts",.lst (ss.map dI)),("ends",.lst (es.map dEl))]))):=yC;generalize Z3.set k (some (Z8.ins C [("pairs",.lst ((prs n).map dP)),("sorts",.lst (ss.map dI)),("ends",.lst (es.map dEl))]))=ZM at h3 g3;have g03:=(g1.trans g2).trans g3;have ev:Et [some (.ref k),some (.int (n:Int)),some (.lst (ss.map dI)),some (.lst (es.map dEl))] ZM=some (.ref ZM.length,ZM++[some (.dN [])]):=rfl;rw[ev];simp!;have h4:(ZM++[some (Z8.dN [])])[k]?=some (some (Z8.ins C [("pairs",.lst ((prs n).map dP)),("sorts",.lst (ss.map dI)),("ends",.lst (es.map dEl))])):=gr_app.get h3;rw[B2 h4 (by simp)];simp!;rw[pf4];have hk3:k<ZM.length:=(WL.mp h3).1;refine⟨trivial,ZM.length,g03.len,⟨tT h4,?_,fun p h=>by cases h⟩,(g03.trans Qd).trans yC⟩;rw[tM (by omega)];simp
theorem Nq{O:G}{i:Nat}{x:Int}{Q:Out->G->M->Prop}(h:O[i]?=some (some (.int x)))(hQ:Q .nx (O.set i (some (.int (x+1)))) L):Ws (ym i DC (vC (.int 1)) O L) Q:=by
 unfold ym;rw[h];exact ws_some.mpr hQ
abbrev Ci(C:Addr):C0:=AD (BQ C) (xl C 10) C
def cs(o:Nat):Nat->Nat
 |0=>0
 |a+1=>cs o a+cc a o
theorem TX{o a b:Nat}(h:a<=b):cs o a<=cs o b:=by
 induction h with
 |refl=>exact WJ _
 |step _ ih=>exact Xo ih (Nat.le_add_right _ _)
theorem OF{N:Nat}{t:Tr}(hn:n<=100)(S:Sp n (prs n) ss es)(h0:ss≠[])(hN:N<10)(ht:rK (prs n) ss es N (List.range ss.length)=some t)(hno:∀a,a<N->rK (prs n) ss es a (List.range ss.length)=none)(hcc:cs (prs n).length (N+1)<=15000000):
  Wp (Ci C [.int (n:Int),.lst (ss.map dI),.lst (es.map dEl)] L) fun d Z5=>d=.tup [.int (N:Int),dTr t]/\Gr L Z5:=by
 unfold Ci AD DF;refine(sU rfl).mpr ?_;show Ws (rf _ _ [some (.int (n:Int)),some (.lst (ss.map dI)),some (.lst (es.map dEl)),none,none,none] L) _;rw[Fw,Dc];refine Vh ?_;simp![Wz];refine(S9 (C:=C) (n:=n) (ss:=ss) (es:=es) (k:=L.length) hn (by simp)).imp ?_;rintro _ Z4 ⟨rfl,m,hml0,h1,g1⟩;have hml:L.length<=m:=by simp at hml0;omega
 have hG:Gr L Z4:=by
  refine⟨by have:=g1.len;simp at this;omega,fun j hj=>?_⟩;rw[g1.at_ j (by simp;omega) (by omega),WV hj]
 have hlen:(List.range ss.length)≠[]:=by
  intro e;have:=congrArg List.length e;simp at this;exact h0 this
 have hlt:∀x∈List.range ss.length,x<ss.length:=fun x hx=>XF.mp hx;have hfew:(List.range ss.length).length<=2000:=by rw[XL];exact S.few
 have e5:As (.int (ss.length:Int)) Z4=some (dN (List.range ss.length),Z4):=by
  have hb:(0:Int)<=(ss.length:Int)/\(ss.length:Int)<=1000000:=by have:=S.few;omega
  unfold As;simp only;rw[if_pos hb];unfold dN rS;rw[Xu];simp
 simp![Wm,WQ,e5];refine⟨trivial,?_⟩;refine Ql (fun O Z5=>∃a kvs,a<=N/\O=[some (.int (n:Int)),some (.lst (ss.map dI)),some (.lst (es.map dEl)),some (.ref L.length),some (dN (List.range ss.length)),some (.int (a:Int))]/\Sr C (prs n) ss es Z5 L.length m kvs/\kvs.length<=cs (prs n).length a/\Gr L Z5) (fun O _=>match O with
  | [_,_,_,_,_,some (.int a)]=>N - a.toNat
  |_=>0) 1000000 ⟨0,[],by omega,rfl,h1,WJ _,hG⟩ (by show N - (0:Int).toNat<1000000;omega) ?_
 rintro O Z3 ⟨a,kvs,ha,rfl,h2,hl2,g2⟩;have hca:=TX (o:=(prs n).length) (show a+1<=N+1 by omega);have hcs:cs (prs n).length (a+1)=cs (prs n).length a+cc a (prs n).length:=rfl;have hop:=BJ a (show op (prs n) ss (List.range ss.length)<=(prs n).length from X8 _ _);have T:=MJ (C:=C) S a 10 (by omega);simp!;rw[yL h2.obj rfl];simp!;refine(T (List.range ss.length) L.length m kvs Z3 h2 hlen hlt hfew (fun _=>by omega)).imp ?_;rintro _ ZM ⟨rfl,kvs3,h3,hl3,hk3,g3⟩;have hl3:=Tw.le hl3;have hG3:Gr L ZM:=⟨Xo g2.len g3.len,fun j hj=>by rw[g3.at_ j (by have:=g2.len;omega) (by omega)];exact g2.at_ j hj⟩
 simp![Cu];by_cases hlt2:a<N
 ·rw[hno a hlt2];simp only[Option.isNone_none,if_true];refine Nq (x:=(a:Int)) rfl ?_;refine⟨⟨a+1,kvs3,by omega,by simp,h3,by omega,hG3⟩,?_⟩;show N - ((a:Int)+1).toNat<N - (a:Int).toNat
  omega
 ·have:a=N:=by omega
  subst this;rw[ht];simp![Option.isNone_some,Xt,if_false];rw[yL h3.obj rfl];simp!;refine(T (List.range ss.length) L.length m kvs3 ZM h3 hlen hlt hfew (fun z=>by rw[z] at hk3;cases hk3)).imp ?_;rintro _ Zw ⟨rfl,kvs4,h4,hl4,_,g4⟩;have hG4:Gr L Zw:=⟨Xo hG3.len g4.len,fun j hj=>by rw[g4.at_ j (by have:=hG3.len;omega) (by omega)];exact hG3.at_ j hj⟩
  simp!;rw[sN (by simp)];simp!;rw[ht];exact⟨rfl,hG4⟩
end
def msk(f:Nat->Bool):Nat->Nat
 |0=>0
 |n+1=>msk f n|||(if f n then 2^n else 0)
theorem EZ(f:Nat->Bool)(x:Nat):∀n,(msk f n).testBit x=(decide (x<n)&&f x)
 |0=>by simp[msk]
 |n+1=>by
  rw[msk,Nat.testBit_or,EZ f x n];have h2:(if f n then 2^n else 0:Nat).testBit x=(decide (n=x)&&f n):=by
   cases f n with
   |true=>simp[Nat.testBit_two_pow]
   |false=>simp
  rw[h2];by_cases e:n=x
  ·subst e;simp
  ·by_cases h:x<n
   ·simp[e,h,show x<n+1 by omega]
   ·simp[e,h,show ¬x<n+1 by omega]
def pmO(ps:List (Nat×Nat))(ss:List (List Int)):List (Nat×Nat):=ps.map fun p=>(msk (fun x=>decide (at2 ss x p.1=at2 ss x p.2)) ss.length,msk (fun x=>!decide (at2 ss x p.1=at2 ss x p.2)) ss.length)
def emO(ends:List (Option Int))(es:List (List (Option Int)))(n:Nat):List Nat:=ends.map fun e=>msk (fun x=>decide (e∈es.getD x [])) n
def QP(ps:List (Nat×Nat))(ss:List (List Int))(es:List (List (Option Int)))(ends:List (Option Int))(h:∀x,x<ss.length->∀e∈es.getD x [],e∈ends):Mk ps ss es (pmO ps ss) (emO ends es ss.length) ends:=by
 refine⟨by simp[pmO],?_,by simp[emO],?_,h⟩
 ·intro k p q hp hq x hx;simp only[pmO,WY,hp,Option.map_some,Option.some.injEq] at hq;subst hq;simp[EZ,hx]
 ·intro k e q he hq x hx;simp only[emO,WY,he,Option.map_some,Option.some.injEq] at hq;subst hq;simp[EZ,hx]
def rR(n m:Nat):List (List Int):=(Sx n m).map (·.1)
def sS(n m:Nat):List (List (Option Int)):=(rR n m).map hE
def xQ(n:Nat):List (Option Int):=none::(List.range n).map fun t:Nat=>some (t:Int)
def Vo(n:Nat):Ms (List.range n) (2^n - 1):=fun x=>by rw[XF,Nat.testBit_two_pow_sub_one];simp
def Ia{n m a:Nat}{pm:List (Nat×Nat)}{em:List Nat}{Z9:Nat}(hL:(rR n m).length=Z9)(h0:0<Z9)(he:((sS n m).all fun l=>l.all fun e=>decide (e∈xQ n))=true)(h1:pmO (prs n) (rR n m)=pm)(h2:emO (xQ n) (sS n m) Z9=em)(h3:xO pm em a (2^Z9 - 1)=true):∀b,b<=a->rK (prs n) (rR n m) (sS n m) b (List.range (rR n m).length)=none:=by
 have top:rK (prs n) (rR n m) (sS n m) a (List.range (rR n m).length)=none:=by
  have K:=QP (prs n) (rR n m) (sS n m) (xQ n) (fun x hx e h=>by
   have hx':x<(sS n m).length:=by simp[sS];exact hx
   have hm:(sS n m).getD x []∈sS n m:=by rw[WS,WP hx'];exact Xv _
   have:=Xk.mp (Xk.mp he _ hm) e h;simpa using this)
  rw[hL] at K;rw[h1,h2] at K;refine none_of K a _ _ (Vo _) (fun x hx=>XF.mp hx) ?_ (by rw[hL];exact h3);intro e;have:=congrArg List.length e;rw[XL,hL] at this;simp at this;omega
 intro b hb;have step:∀k,∀b,b+k=a->rK (prs n) (rR n m) (sS n m) b (List.range (rR n m).length)=none:=by
  intro k;induction k with
  |zero=>
   intro b e;have:b=a:=by omega
   subst this;exact top
  |succ k ih=>
   intro b e;exact Lg _ _ (ih (b+1) (by omega))
 exact step (a - b) b (by omega)
def wfB(ps:List (Nat×Nat)):Tr->Bool
 | .e _=>true
 | .ask i j a b=>decide ((i,j)∈ps)&&(wfB ps a&&wfB ps b)
theorem Co{ps:List (Nat×Nat)}:∀{t:Tr},wfB ps t=true->wf ps t
 | .e _,_=>trivial
 | .ask i j a b,h=>by
  simp only[wfB,Xg,XO] at h;exact⟨h.1,Co h.2.1,Co h.2.2⟩
def BZ(n m N:Nat)(t:Tr):Bool:=wfB (prs n) t&&(decide (dep t<=N)&&((List.range (rR n m).length).all fun x=>decide (t7 ((rR n m).getD x []) t∈(sS n m).getD x [])))
structure Few (n m N:Nat):Prop where
 pos:0<(rR n m).length
 yes:∃t,rK (prs n) (rR n m) (sS n m) N (List.range (rR n m).length)=some t
 no:∀a,a<N->rK (prs n) (rR n m) (sS n m) a (List.range (rR n m).length)=none
def TL{n m:Nat}(h:0<(rR n m).length):List.range (rR n m).length≠[]:=fun e=>by
 have:=congrArg List.length e;rw[XL] at this;simp at this;rw[this] at h;exact absurd h (by decide)
def G8{n m N:Nat}(hp:0<(rR n m).length)(t:Tr)(h:BZ n m N t=true):∃t,rK (prs n) (rR n m) (sS n m) N (List.range (rR n m).length)=some t:=by
 simp only[BZ,Xg,XO] at h;obtain⟨h1,h2,h3⟩:=h;cases ht:rK (prs n) (rR n m) (sS n m) N (List.range (rR n m).length) with
 |some t=>exact⟨t,rfl⟩
 |none=>
  obtain⟨x,hx,q⟩:=Na N _ (TL hp) ht t (Co h1) h2;have:=Xk.mp h3 x hx;exact absurd (by simpa using this) q
def Fc:(rR 3 3).length=5:=by decide +kernel
def F0:Tr:=.ask 0 1 (.e (some 0)) (.ask 0 2 (.e (some 0)) (.ask 1 2 (.e (some 1)) (.e none)))
def Rm:BZ 3 3 3 F0=true:=by decide +kernel
def Nf:((sS 3 3).all fun l=>l.all fun e=>decide (e∈xQ 3))=true:=by decide +kernel
def O8:pmO (prs 3) (rR 3 3)=[(3,28),(5,26),(9,22)]:=by decide +kernel
def OY:emO (xQ 3) (sS 3 3) 5=[16,7,11,13]:=by decide +kernel
def RN:xO [(3,28),(5,26),(9,22)] [16,7,11,13] 2 (2^5 - 1)=true:=by decide +kernel
def Wb:Few 3 3 3:=⟨by rw[Fc];decide,G8 (by rw[Fc];decide) F0 Rm,fun a ha=>Ia Fc (by decide) Nf O8 OY RN a (by omega)⟩
def Ep:(rR 4 4).length=15:=by decide +kernel
def Kh:Tr:=.ask 0 1 (.ask 0 2 (.e (some 0)) (.ask 0 3 (.e (some 0)) (.e none))) (.ask 0 2 (.ask 0 3 (.e (some 0)) (.e none)) (.ask 1 2 (.ask 1 3 (.e (some 1)) (.e none)) (.e none)))
def NW:BZ 4 4 4 Kh=true:=by decide +kernel
def MV:((sS 4 4).all fun l=>l.all fun e=>decide (e∈xQ 4))=true:=by decide +kernel
def O2:pmO (prs 4) (rR 4 4)=[(31,32736),(227,32540),(2341,30426),(1795,30972),(4677,28090),(8745,24022)]:=by decide +kernel
def NG:emO (xQ 4) (sS 4 4) 15=[32216,39,519,547,549]:=by decide +kernel
def Uj:xO [(31,32736),(227,32540),(2341,30426),(1795,30972),(4677,28090),(8745,24022)] [32216,39,519,547,549] 3 (2^15 - 1)=true:=by decide +kernel
def Rh:Few 4 4 4:=⟨by rw[Ep];decide,G8 (by rw[Ep];decide) Kh NW,fun a ha=>Ia Ep (by decide) MV O2 NG Uj a (by omega)⟩
def OG:∀n<8,∀p∈prs n,p.1<n/\p.2<n:=by decide +kernel
def Hj:∀n<8,(prs n).length<=1000:=by decide +kernel
def VV{n m:Nat}(hn:n<=7):Sp n (prs n) (rR n m) (sS n m):=by
 refine⟨by simp[sS],?_,fun s hs=>Ic hs,fun p hp=>OG n (by omega) p hp,Hj n (by omega)⟩;have:=B4 hn m;simp only[rR,WQ];omega
section
variable {C CN CT:Addr} {n m:Nat} {L:M}
abbrev Kw(CT:Addr):FX:=x4 uH (.int 7) CT
theorem Gn{lo hi:Int}(h1:lo<=(n:Int))(h2:(n:Int)<=hi):Wp (wb CN CT [.int (n:Int),.int lo,.int hi] L) fun r Z5=>r=.ok .non/\Z5=L:=by
 unfold wb AY;refine(By rfl).mpr ?_;show Wt (sX _ _ [some (.int (n:Int)),some (.int lo),some (.int hi)] L) _;simp!;rw[W9 (by omega)];simp!;rw[W9 (by omega)];simp!;exact⟨trivial,trivial⟩
theorem HW(hm:∀s∈rR n m,(sV s).length<=1000)(hn:n<=7):∀(l:List (List Int)) (o:Option D) (L:M),(∀s∈l,s∈rR n m)->
  ∃Z5,sw none (qY 0) rE (vL uZ (qW (be 0) qZ)) (l.map dI) [o] L=some ((l.map hE).map dEl,Z5)/\Gr L Z5
 | [],o,L,_=>⟨L,rfl,.refl⟩
 |s::l,o,L,h=>by
  have hs:=h s (by simp);obtain⟨Z4,e1,g1⟩:=Gj (s:=s) (L:=L) (by rw[Ic hs];omega) (hm s hs);obtain⟨Z3,e2,g2⟩:=HW hm hn l (some (dI s)) Z4 (fun x hx=>h x (by simp[hx]));refine⟨Z3,?_,g1.trans g2⟩;have hg:qY 0 (dI s) [o] L=some ([some (dI s)],L):=rfl;have hv:vL uZ (qW (be 0) qZ) [some (dI s)] L=some (dEl (hE s),Z4):=e1;rw[WT];simp only[sw,hg,bs];show(rE _ _).bind _=_;simp only[rE,bs,if_true,hv,v9];rw[e2];rfl
abbrev AM(C CT:Addr):FX:=AW uZ (Ci C) (Kw CT)
theorem O6{N:Nat}{t:Tr}(hn:n<=7)(hN:N<10)(hm:∀s∈rR n m,(sV s).length<=1000)(F:Few n m N)(hcs:cs (prs n).length (N+1)<=15000000)(ht:rK (prs n) (rR n m) (sS n m) N (List.range (rR n m).length)=some t):
  Wp (AM C CT [.int (n:Int),.int (m:Int)] L) fun r Z5=>r=.ok (.tup [.int (N:Int),dTr t])/\Gr L Z5:=by
 unfold AM AW Fx;refine(By rfl).mpr ?_;show Wt (sX _ _ [some (.int (n:Int)),some (.int (m:Int)),none] L) _;simp!;have ea:Kw CT [.int (n:Int),.int (m:Int)] L=some (.ok (.lst ((rR n m).map dI)),L):=by
  have:=KS (L:=L) (n:=n) (k:=(m:Int)) (C:=CT) (by omega);rw[show((m:Int)).toNat=m by omega] at this;rw[show(rR n m).map dI=(Sx n m).map dS by simp[rR,dS,Function.comp_def]];exact this
 rw[ea];simp!;rw[v3];have S:=VV (n:=n) (m:=m) hn;refine⟨by have:=S.few;(try simp);omega,?_⟩;obtain⟨Z4,e1,g1⟩:=HW hm hn (rR n m) none L fun s hs=>hs;refine xL e1 ?_;simp!;have hne:rR n m≠[]:=List.ne_nil_of_length_pos F.pos;refine(OF (C:=C) (L:=Z4) (by omega) S hne hN ht F.no hcs).imp ?_;rintro _ Z3 ⟨rfl,g2⟩;simp!;exact⟨trivial,g1.trans g2⟩
end
def uf{β:Type}(f:Bool->Option β):Option (Bool×β):=match f true with
 |some r=>some (true,r)
 |none=>match f false with
  |some r=>some (false,r)
  |none=>none
def uT{J β:Type}(f:J->Option β):List J->Option (List β)
 | []=>some []
 |a::l=>match f a with
  |none=>none
  |some b=>match uT f l with
   |none=>none
   |some r=>some (b::r)
def pb(n:Nat):(k:Nat)->List An->Option (Pap k)
 |0,as=>if sj as&&(vd (sm n as)).isNone then some () else none
 |k+1,as=>if sj as then(uT (fun p=>uf fun b=>pb n k (as++[(p.1,p.2,b)])) (prs n):Option (List (Bool×Pap k))) else none
def dPo(k:Nat)(o:Option (Pap k)):D:=match o with
 |some p=>dPp k p
 |none=>.non
def dRo(k:Nat)(o:Option (Bool×Pap k)):D:=match o with
 |some r=>dR k r
 |none=>.non
def Pq{L:M}:vc .non .non L=some (.bl true,L):=rfl
def Nv{k:Nat}{p:Pap k}{L:M}:wk (dPp k p) .non L=some (.bl true,L):=by cases k<;>rfl
def Qg{L:M}:wk .non .non L=some (.bl false,L):=rfl
def Hs{L:M}{k:Nat}{ds:List D}{y:D}(h:L[k]?=some (some (.lst ds)))(hl:ds.length<1000000):uL (.ref k) y L=some (.non,L.set k (some (.lst (ds++[y])))):=by simp only[uL,zu h,if_pos hl,ET]
section
variable {n:Nat} {C CF CT:Addr}
theorem Va{k:Nat}{as:List An}{i j:Nat}{F:C0}{f:Bool->Option (Pap k)}(hl:as.length<=100)
  (hF:∀(b:Bool) (L:M),Wp (F [.int (n:Int),.lst ((as++[(i,j,b)]).map dA),.int (k:Int)] L) fun d Z5=>d=dPo k (f b)/\Gr L Z5) (L:M):
  Wp (yW F [.int (n:Int),.lst (as.map dA),.int ((k+1:Nat):Int),.int (i:Int),.int (j:Int)] L) fun d Z5=>d=dRo k (uf f)/\Gr L Z5:=by
 unfold yW DW;refine(sU rfl).mpr ?_;show Ws (rf _ _ [some (.int (n:Int)),some (.lst (as.map dA)),some (.int ((k+1:Nat):Int)),some (.int (i:Int)),some (.int (j:Int)),none,none] L) _;have ek:(((k+1:Nat):Int) - 1)=(k:Int):=by omega
 have ea:∀b:Bool,as.map dA++[D.tup [.int (i:Int),.int (j:Int),.bl b]]=(as++[(i,j,b)]).map dA:=fun b=>by simp[dA]
 simp!;rw[sN (by simp)];simp!;refine wA (fun r O Z5=>∃(l:List Bool) (o5 o6:Option D),r=l.map D.bl/\O=[some (.int (n:Int)),some (.lst (as.map dA)),some (.int ((k+1:Nat):Int)),some (.int (i:Int)),some (.int (j:Int)),o5,o6]/\Gr L Z5/\(l=[true,false]\/(l=[false]/\f true=none)\/(l=[]/\f true=none/\f false=none))) _ ⟨[true,false],_,_,rfl,rfl,.refl,.inl rfl⟩ ?_ ?_
 ·rintro d r O Z4 ⟨l,o5,o6,hr,rfl,g1,hl3⟩;cases l with
  |nil=>cases hr
  |cons b l=>
   rw[WT] at hr;injection hr with h1 h2
   subst h1 h2;simp!;rw[sN (by simp)];simp!;rw[vh (by simp)];simp!;rw[wg (by simp;omega)];simp!;rw[ea,ek];refine(hF b Z4).imp ?_;rintro _ Z3 ⟨rfl,g2⟩;have g:=g1.trans g2;cases hf:f b with
   |some p=>
    have e:uf f=some (b,p):=by
     rcases hl3 with h|⟨h,h'⟩|⟨h,_⟩
     ·injection h with h1 _
      subst h1;simp only[uf,hf]
     ·injection h with h1 _
      subst h1;simp only[uf,h',hf]
     ·cases h
    simp![dPo,Nv];rw[sN (by simp)];simp!;rw[e];exact⟨rfl,g⟩
   |none=>
    simp![dPo,Qg];refine⟨trivial,l,_,_,rfl,rfl,g,?_⟩;rcases hl3 with h|⟨h,h'⟩|⟨h,_⟩
    ·injection h with h1 h2
     subst h1 h2;exact .inr (.inl ⟨rfl,hf⟩)
    ·injection h with h1 h2
     subst h1 h2;exact .inr (.inr ⟨rfl,h',hf⟩)
    ·cases h
 ·rintro O Z4 ⟨l,o5,o6,hr,rfl,g1,hl3⟩;cases l with
  |cons b l=>cases hr
  |nil=>
   simp!;have e:uf f=none:=by
    rcases hl3 with h|⟨h,_⟩|⟨_,h1,h2⟩
    ·cases h
    ·cases h
    ·simp only[uf,h1,h2]
   rw[e];exact⟨rfl,g1⟩
def mmB(C CF CT:Addr):Nat->List D->M->Fr
 |0=>fun _ _=>none
 |m+1=>Ae (dn (vm C)) (dn (xr C CF CT)) w9 (yW (mmB C CF CT m)) se
theorem Tu(hn:n<=7)(hp:(prs n).length<=1000):∀(k:Nat) (as:List An) (L:M) (m:Nat),k<m->Ok2 n as->as.length+k<=100->Wp (mmB C CF CT m [.int (n:Int),.lst (as.map dA),.int (k:Int)] L) fun d Z5=>d=dPo k (pb n k as)/\Gr L Z5:=by
 intro k;induction k with
 |zero=>
  intro as L m hm hv hl;obtain⟨m,rfl⟩:∃j,m=j+1:=⟨m - 1,by omega⟩
  unfold mmB Ae AN;refine(sU rfl).mpr ?_;show Ws (rf _ _ [some (.int (n:Int)),some (.lst (as.map dA)),some (.int ((0:Nat):Int)),none,none,none,none] L) _;have e1:decide (((0:Nat):Int)=0)=true:=by simp
  simp!;refine(xD hv (by omega)).imp ?_;rintro _ Z4 ⟨rfl,g1⟩;have hle:pb n 0 as=if sj as&&(vd (sm n as)).isNone then some () else none:=rfl
  cases hc:sj as with
  |false=>
   simp![Xw];rw[hle,hc];exact⟨rfl,g1⟩
  |true=>
   simp![Xe,e1];have hf:sm n as≠[]:=fun z=>by
    have:=(Ao (n:=n) (as:=as) (hv.inN)).mp z;rw[hc] at this;cases this
   refine(BA hv (by omega) hn hf).imp ?_;rintro _ Z3 ⟨rfl,g2⟩;have g:=g1.trans g2;simp![EU];rw[hle,hc];cases (vd (sm n as)).isNone with
   |true=>
    simp!;rw[sN (by simp)];simp!;exact⟨rfl,g⟩
   |false=>
    simp!;exact⟨rfl,g⟩
 |succ k ih=>
  intro as L m hm hv hl;obtain⟨m,rfl⟩:∃j,m=j+1:=⟨m - 1,by omega⟩
  unfold mmB Ae AN;refine(sU rfl).mpr ?_;show Ws (rf _ _ [some (.int (n:Int)),some (.lst (as.map dA)),some (.int ((k+1:Nat):Int)),none,none,none,none] L) _;have e1:decide (((k+1:Nat):Int)=0)=false:=by simp;omega
  simp!;refine(xD hv (by omega)).imp ?_;rintro _ Z4 ⟨rfl,g1⟩;have hle:pb n (k+1) as=if sj as then(uT (fun p=>uf fun b=>pb n k (as++[(p.1,p.2,b)])) (prs n):Option (List (Bool×Pap k))) else none:=rfl
  generalize pb n (k+1) as=res at hle;cases hc:sj as with
  |false=>
   simp![Xw];rw[hle,hc];exact⟨rfl,g1⟩
  |true=>
   rw[hc,if_pos rfl] at hle;simp![Xe,e1];rw[L4 (by simp)];simp![D3 (show n<=100 by omega)];refine wA (fun r O Z5=>∃(l:List (Nat×Nat)) (rows:List (Bool×Pap k)) (o4 o5 o6:Option D),r=l.map dP/\O=[some (.int (n:Int)),some (.lst (as.map dA)),some (.int ((k+1:Nat):Int)),some (.ref Z4.length),o4,o5,o6]/\Gr Z4 Z5/\Z5[Z4.length]?=some (some (.lst (rows.map (dR k))))/\rows.length+l.length=(prs n).length/\(∀x∈l,x∈prs n)/\res=match uT (fun p=>uf fun b=>pb n k (as++[(p.1,p.2,b)])) l with
    |none=>none
    |some r=>some (rows++r:List (Bool×Pap k))) _ ⟨_,[],_,_,_,rfl,rfl,gr_app,by simp,by simp,fun x h=>h,?_⟩ ?_ ?_
   ·rw[hle];cases uT (fun p=>uf fun b=>pb n k (as++[(p.1,p.2,b)])) (prs n)<;>rfl
   ·rintro d r O Z3 ⟨l,rows,o4,o5,o6,hr,rfl,g2,hrow,hlen,hin,hres⟩;cases l with
    |nil=>cases hr
    |cons x l=>
     rw[WT] at hr;injection hr with h1 h2
     subst h1 h2;have ok:=BM (hin x (by simp));show Wp (rT 2 _ (.tup [.int (x.1:Int),.int (x.2:Int)]) _ _) _;refine(vQ rfl).mpr ?_;simp!;have hv2:∀b,Ok2 n (as++[(x.1,x.2,b)]):=by
      intro b a ha;rcases Xb.mp ha with h|h
      ·exact hv a h
      ·cases Xj.mp h;exact ok
     refine(Va (f:=fun b=>pb n k (as++[(x.1,x.2,b)])) (by omega) (fun b L=>ih (as++[(x.1,x.2,b)]) L m (by omega) (hv2 b) (by simp;omega)) Z3).imp ?_;rintro _ ZM ⟨rfl,g3⟩;have hrow3:ZM[Z4.length]?=some (some (.lst (rows.map (dR k)))):=g3.get hrow;simp only[uT] at hres;cases hb:uf (fun b=>pb n k (as++[(x.1,x.2,b)])) with
     |none=>
      rw[hb] at hres;simp![dRo,Pq];rw[hres];exact⟨rfl,g1.trans (g2.trans g3)⟩
     |some q=>
      rw[hb] at hres;have hq:∀L:M,vc (dR k q) .non L=some (.bl false,L):=fun _=>rfl;simp![dRo,hq];rw[LU hrow3];simp!;rw[Hs hrow3 (by simp at hlen⊢;omega)];simp!;refine⟨trivial,l,rows++[q],_,_,_,rfl,rfl,(g2.trans g3).setN (WJ _),?_,by simp at hlen⊢;omega,fun y hy=>hin y (by simp[hy]),?_⟩
      ·rw[tT hrow3,XI];rfl
      ·rw[hres];cases uT (fun p=>uf fun b=>pb n k (as++[(p.1,p.2,b)])) l with
       |none=>rfl
       |some r=>simp
   ·rintro O Z3 ⟨l,rows,o4,o5,o6,hr,rfl,g2,hrow,hlen,hin,hres⟩;cases l with
    |cons x l=>cases hr
    |nil=>
     simp!;refine xL (L:=Z3.set Z4.length none) (a:=.lst (rows.map (dR k))) ?_ ?_
     ·rw[KH];exact KG hrow
     ·simp!;simp only[uT,XC] at hres;rw[hres];exact⟨rfl,g1.trans (g2.setN (WJ _))⟩
end
def okA(n:Nat)(as:List An):Bool:=sj as&&(vd (sm n as)).isNone
def vN(n:Nat):(k:Nat)->List An->Pap k->Bool
 |0,as,_=>okA n as
 |k+1,as,(rows:List (Bool×Pap k))=>okA n as&&((prs n).zip rows).all fun x=>vN n k (as++[(x.1.1,x.1.2,x.2.1)]) x.2.2
def Ty(a:Nat):Pap (a+1):=([]:List (Bool×Pap a))
def v7:(K a:Nat)->Pap K->Pap a
 |_,0,_=>()
 |0,a+1,_=>Ty a
 |K+1,a+1,(rows:List (Bool×Pap K))=>(rows.map fun r=>(r.1,v7 K a r.2):List (Bool×Pap a))
def AL(n k:Nat):Bool:=match pb n k [] with
 |none=>false
 |some p=>vN n k [] p&&(List.range (k+1)).all fun a=>tI n a [] (v7 k a p)
def Rq:AL 3 2=true:=by decide +kernel
def OX:AL 4 3=true:=by decide +kernel
theorem K9{J β:Type}{f:J->Option β}:∀{l:List J} {r:List β},uT f l=some r->r.length=l.length/\∀y∈r,∃a∈l,f a=some y
 | [],r,h=>by cases h;exact⟨rfl,fun y hy=>by cases hy⟩
 |a::l,r,h=>by
  simp only[uT] at h;cases hf:f a with
  |none=>rw[hf] at h;cases h
  |some b=>
   rw[hf] at h;cases hm:uT f l with
   |none=>rw[hm] at h;cases h
   |some q=>
    rw[hm] at h;cases h;obtain⟨h1,h2⟩:=K9 hm;refine⟨by simp[h1],fun y hy=>?_⟩;rcases Xd.mp hy with rfl|hy
    ·exact⟨a,by simp,hf⟩
    ·obtain⟨c,hc,e⟩:=h2 y hy;exact⟨c,by simp[hc],e⟩
def M4{β:Type}{f:Bool->Option β}{x:Bool×β}(h:uf f=some x):f x.1=some x.2:=by
 unfold uf at h;cases h1:f true with
 |some r=>rw[h1] at h;cases h;exact h1
 |none=>
  rw[h1] at h;cases h2:f false with
  |some r=>rw[h2] at h;cases h;exact h2
  |none=>rw[h2] at h;cases h
theorem Mj{n:Nat}:∀(k:Nat) (as:List An) (p:Pap k),pb n k as=some p->Sh n k p
 |0,_,_,_=>trivial
 |k+1,as,(p:List (Bool×Pap k)),h=>by
  have hle:pb n (k+1) as=if sj as then(uT (fun p=>uf fun b=>pb n k (as++[(p.1,p.2,b)])) (prs n):Option (List (Bool×Pap k))) else none:=rfl
  rw[hle] at h;cases hc:sj as with
  |false=>rw[hc] at h;cases h
  |true=>
   rw[hc,if_pos rfl] at h;obtain⟨h1,h2⟩:=K9 h;refine⟨h1,fun r hr=>?_⟩;obtain⟨a,_,e⟩:=h2 r hr;exact Mj k _ _ (M4 e)
theorem Cn{n:Nat}:∀(K a:Nat) (p:Pap K),a<=K->Sh n K p->Sh n a (v7 K a p)
 |_,0,_,_,_=>trivial
 |0,a+1,_,h,_=>absurd h (by omega)
 |K+1,a+1,(rows:List (Bool×Pap K)),h,⟨h1,h2⟩=>by
  refine⟨?_,?_⟩
  ·show(rows.map fun r=>(r.1,v7 K a r.2)).length=_;rw[WQ];exact h1
  ·intro r hr;obtain⟨q,hq,rfl⟩:=Xm.mp (show r∈(rows.map fun r=>(r.1,v7 K a r.2)) from hr);exact Cn K a q.2 (by omega) (h2 q hq)
def Wg:∀n<5,∀s∈rR n n,(sV s).length<=1000:=by decide +kernel
def S7:cs (prs 3).length 4<=15000000:=by decide +kernel
def QT:cs (prs 4).length 5<=15000000:=by decide +kernel
section
variable {CS C CF CT:Addr} {n:Nat} {L:M}
abbrev Bn(CS C CT:Addr):FX:=Ce (wb C CT) (AM CS CT) (.int 5)
theorem No{t:Tr}(h1:1<=n)(h5:n<=4)(F:Few n n n)(hc:cs (prs n).length (n+1)<=15000000)(ht:rK (prs n) (rR n n) (sS n n) n (List.range (rR n n).length)=some t):Wp (dn (Bn CS C CT) [.int (n:Int)] L) fun d Z5=>d=.tup [.int (n:Int),dTr t]/\Gr L Z5:=by
 refine zR ?_;unfold Bn Ce E2;refine(By rfl).mpr ?_;show Wt (sX _ _ [some (.int (n:Int))] L) _;simp!;refine(Gn (by omega) (by omega)).imp ?_;rintro _ L ⟨rfl,rfl⟩;simp!;refine(O6 (C:=CS) (CT:=CT) (m:=n) (by omega) (by omega) (Wg n (by omega)) F hc ht).imp ?_;rintro _ Z3 ⟨rfl,g⟩;simp!;exact⟨_,rfl,rfl,g⟩
def A5(CS C CF CT:Addr):C0:=AS (dn (wb C CT)) (dn (Bn CS C CT)) (mmB C CF CT 10) (.int 4) (.int 2)
structure Cg (k:Nat) (p:Pap k):Prop where
 is:pb (k+1) k []=some p
 way:vN (k+1) k [] p=true
 cut:∀a,a<=k->tI (k+1) a [] (v7 k a p)=true
theorem Lx{k:Nat}(h:AL (k+1) k=true):∃p,Cg k p:=by
 unfold AL at h;cases hp:pb (k+1) k [] with
 |none=>rw[hp] at h;cases h
 |some p=>
  rw[hp] at h;simp only[Xg,Xk,XF] at h;exact⟨p,hp,h.1,fun a ha=>h.2 a (by omega)⟩
theorem VI{k:Nat}{p:Pap k}(h:k=2\/k=3)(g:Cg k p):Wp (A5 CS C CF CT [.int ((k+1:Nat):Int)] L) fun d Z5=>d=dPp k p/\Gr L Z5:=by
 have hF:Few (k+1) (k+1) (k+1)/\cs (prs (k+1)).length (k+1+1)<=15000000:=by
  rcases h with rfl|rfl
  ·exact⟨Wb,S7⟩
  ·exact⟨Rh,QT⟩
 obtain⟨t,ht⟩:=hF.1.yes;have hk:k<=3:=by omega
 unfold A5 AS CM;refine(sU rfl).mpr ?_;show Ws (rf _ _ [some (.int ((k+1:Nat):Int)),none,none] L) _;simp!;refine zR ((Gn (CN:=C) (CT:=CT) (n:=k+1) (L:=L) (lo:=2) (hi:=4) (by omega) (by omega)).imp ?_);rintro _ Z4 ⟨rfl,rfl⟩;refine⟨_,rfl,?_⟩;simp!;refine(No (by omega) (by omega) hF.1 hF.2 ht).imp ?_;rintro _ Z3 ⟨rfl,g2⟩;refine(vQ rfl).mpr ?_;simp!;rw[vh (by simp)];simp!;have ek:(((k+1:Nat):Int) - 1)=(k:Int):=by omega
 rw[ek];refine(Tu (n:=k+1) (by omega) (Hj (k+1) (by omega)) k [] Z3 10 (by omega) (fun a h=>by simp at h) (by simp;omega)).imp ?_;rintro _ ZM ⟨rfl,g3⟩;simp!;rw[g.is];exact⟨rfl,g2.trans g3⟩
end
section
variable {P:Program} {w:World} {K:Frag} {mg:Str->Option Value} {base:Heap} {f:Addr} {fd:FuncData}
theorem TF:FnScope ["cell"] ["cell"] (rh (top 46)):=⟨rfl,rfl,rfl,by decide +kernel,rfl,by decide +kernel,by decide +kernel⟩
def Eb:SV:=
  (rn (vL uB (qW (v2 En (vC (.int 0)) (v2 wu (be 0) (v2 x9 (vC (.int 10)) (vC (.int 18))))) (qW (v2 vB (v2 rP (v2 Aa (be 0) (vC (.int 2147483629))) (vC (.int 1))) (v1 zD (v2 fNe (be 0) (v2 x9 (vC (.int 10)) (vC (.int 18)))))) qZ))))
def yZ:C0:=rY 1 1 (Eb)
theorem Qs{k:Nat}(F:Fun K "_law_hand" "_law_hand" (top 46) f fd) (Du:mg "int"=none) (x6:mg "max"=none):FnOk P w K mg base CX0 (k+1) f fd ["cell"] (spM K (yZ)):=by
 unfold yZ Eb;exact sq F TF fun cdv A outer s H E hr=>
  (rk (rB (AC (qX (Vw x6 rz (xq (qV 0) (B6 rz rz))) (qX (EY (sW (Bh (qV 0) rz) rz) (NV Du (L1 hr (qV 0) (B6 rz rz)))) rg)))))
theorem G9:FnScope ["hand","many","taken"] ["hand","many"] (rh (top 47)):=⟨rfl,rfl,rfl,by decide +kernel,rfl,by decide +kernel,by decide +kernel⟩
def BO:SV:=
  (rf (sIf (vT (v2 fGt (v2 fIx (be 0) (vC (.int 0))) (vC (.int 0))))
   (rf (rF (v2 Aa (v2 fIx (be 0) (vC (.int 0))) (be 1)) (qY 2))
   (rf (rF (v2 D0 (v2 fIx (be 0) (vC (.int 0))) (be 1)) (zE (be 0) (vC (.int 0))))
   (rn (be 2))))
   sNx)
  (rf (rF (v2 Aa (v2 vB (v2 fIx (be 0) (vC (.int 1))) (vC (.int 48271))) (vC (.int 2147483647))) (zE (be 0) (vC (.int 1))))
  (rn (v2 Aa (v2 D0 (v2 x9 (v2 rP (v2 fIx (be 0) (vC (.int 1))) (vC (.int 1))) (vC (.int 7))) (vC (.int 8))) (be 1)))))
def vM:C0:=rY 3 2 (BO)
theorem Oy{k:Nat}(F:Fun K "_law_take" "_law_take" (top 47) f fd):FnOk P w K mg base CX0 (k+1) f fd ["hand","many"] (spM K (vM)):=by
 unfold vM BO;exact sq F G9 fun cdv A outer s H E hr=>
  (rl (sr (Cf (sR (qV 0) rz) rz)
   (rl (sf (i:=2) G9.nd rfl (Or.inl rfl) (Bh (sR (qV 0) rz) (qV 1)))
   (rl (zJ (II (sR (qV 0) rz) (qV 1)) (J6 (qV 0) rz))
   (rk (rB (qV 2)))))
   so)
  (rl (zJ (Bh (EY (sR (qV 0) rz) rz) rz) (J6 (qV 0) rz))
  (rk (rB (Bh (II (B6 (sW (sR (qV 0) rz) rz) rz) rz) (qV 1))))))
theorem Cd:FnScope ["many","found","i"] ["many"] (rh (top 48)):=⟨rfl,rfl,rfl,by decide +kernel,rfl,by decide +kernel,by decide +kernel⟩
theorem VA:((["j"]:List Str)++([("i",2)]:List (Str×Nat)).map (·.1)).Nodup:=by decide +kernel
def Cp:SV:=
  (rf (rF (vL sG qZ) (qY 1))
  (rf (tF (ivR (be 0)) (qY 2)
   (rF (v2 rP (be 1) (sC ["j"] [("i",2)] (xX (v2 rP (be 2) (vC (.int 1))) (be 0)) (qY 0) rE (vL rX (qW (be 1) (qW (be 0) qZ))))) (qY 1)))
  (rn (be 1))))
def vq:C0:=rY 3 1 (Cp)
theorem Q0{k:Nat}(F:Fun K "_law_pairs" "_law_pairs" (top 48) f fd) (tj:mg "range"=none):FnOk P w K mg base CX0 (k+1) f fd ["many"] (spM K (vq)):=by
 unfold vq Cp;exact sq F Cd fun cdv A outer s H E hr=>
  (rl (sf (i:=1) Cd.nd rfl (Or.inl rfl) (uj rg))
  (rl (t8 Xl rfl (Ai tj (qV 0)) (rD (i:=2) Cd.nd rfl (Or.inr rfl))
   (rk (sf (i:=1) Cd.nd rfl (Or.inl rfl) (sW (qV 1) (u8 (own:=["j"]) (cap:=[("i",2)]) (tZ rfl) (GO tj (sW (qV 2) rz) (qV 0))
   (fun _ _ _ _ _=>(rD (i:=0) VA rfl (Or.inl rfl))) (fun _ _ _ _ _=>t9)
   (fun _ _ _ _ _=>(sM (qX (qV 1) (qX (qV 0) rg)))))))))
  (rk (rB (qV 1)))))
theorem MU:FnScope ["paper","asks"] ["paper","asks"] (rh (top 49)):=⟨rfl,rfl,rfl,by decide +kernel,rfl,by decide +kernel,by decide +kernel⟩
theorem Mn:((["alike","under"]:List Str)++([("asks",1)]:List (Str×Nat)).map (·.1)).Nodup:=by decide +kernel
def AX(uw:C0):SV:=
  (rf (sIf (vT (v2 fEq (be 1) (vC (.int 0))))
   (rn (vL rX qZ))
   sNx)
  (rn (sC ["alike","under"] [("asks",1)] (ivL (be 0)) (rT 2 (rm (qY 0) (rm (qY 1) si))) rE (vL rX (qW (be 0) (qW (vL uw (qW (be 1) (qW (v2 wu (be 2) (vC (.int 1))) qZ))) qZ))))))
def Ab(uw:C0):C0:=rY 2 2 (AX uw)
theorem M3{uw:C0}{zC k:Nat}(F:Fun K "_law_cut" "_law_cut" (top 49) f fd) (yv:Df P w K mg base zC "_law_cut" ["paper","asks"] (spM K uw)) (B0:zC<=k):FnOk P w K mg base CX0 (k+1) f fd ["paper","asks"] (spM K (Ab uw)):=by
 unfold Ab AX;exact sq F MU fun cdv A outer s H E hr=>
  (rl (sr (u6 hr (qV 1) rz)
   (rk (rB (sM rg)))
   so)
  (rk (rB (u8 (own:=["alike","under"]) (cap:=[("asks",1)]) (tZ rfl) (tR (qV 0))
   (fun _ _ _ _ _=>(tY (n:=2) (rZ (rD (i:=0) Mn rfl (Or.inl rfl)) (rZ (rD (i:=1) Mn rfl (Or.inl rfl)) tS)))) (fun _ _ _ _ _=>t9)
   (fun _ _ _ _ _=>(sM (qX (qV 0) (qX (rM yv (hr.mono B0) (qX (qV 1) (qX (xq (qV 2) rz) rg))) rg))))))))
theorem EC:FnScope ["many","paper","answers","pair","one"] ["many","paper","answers"] (rh (top 50)):=⟨rfl,rfl,rfl,by decide +kernel,rfl,by decide +kernel,by decide +kernel⟩
def Be(sd:C0)(sH:C0)(uS:C0)(uP:C0):SV:=
  (rf (sIf (tU (sD (vL sd (qW (be 0) (qW (be 2) qZ)))))
   (rn (vC (.bl false)))
   sNx)
  (rf (sIf (vT (v2 fEq (be 1) (vL rX qZ)))
   (rn (v2 fEq (vL sH (qW (be 0) (qW (be 2) qZ))) (vL rX (qW (vC (.str "open")) qZ))))
   sNx)
  (rf (tF (ivZ (vL uS (qW (be 0) qZ)) (be 1)) (rT 2 (rm (qY 3) (rm (qY 4) si)))
   (sIf (tU (sD (vL uP (qW (be 0) (qW (v2 fIx (be 4) (vC (.int 1))) (qW (v2 rP (be 2) (vL sG (qW (v2 rP (be 3) (vL rX (qW (v2 fIx (be 4) (vC (.int 0))) qZ))) qZ))) qZ))))))
    (rn (vC (.bl false)))
    sNx))
  (rn (vC (.bl true))))))
def z0(sd:C0)(sH:C0)(uS:C0)(uP:C0):C0:=rY 5 3 (Be sd sH uS uP)
theorem UN{sd sH uS uP:C0}{uq u5 zF zB k:Nat}(F:Fun K "_law_ends_open" "_law_ends_open" (top 50) f fd) (ud:Df P w K mg base uq "can_be" ["many","answers"] (spM K sd)) (wp:uq<=k) (uU:Df P w K mg base u5 "tells" ["many","answers"] (spM K sH)) (xS:u5<=k) (y7:Df P w K mg base zF "_law_pairs" ["many"] (spM K uS)) (D7:zF<=k) (Ak:Df P w K mg base zB "_law_ends_open" ["many","paper","answers"] (spM K uP)) (Dt:zB<=k) (y9:mg "zip"=none):FnOk P w K mg base CX0 (k+1) f fd ["many","paper","answers"] (spM K (z0 sd sH uS uP)):=by
 unfold z0 Be;exact sq F EC fun cdv A outer s H E hr=>
  (rl (sr (vz (uC (rM ud (hr.mono wp) (qX (qV 0) (qX (qV 2) rg)))))
   (rk (rB tV))
   so)
  (rl (sr (u6 hr (qV 1) (sM rg))
   (rk (rB (yw hr (rM uU (hr.mono xS) (qX (qV 0) (qX (qV 2) rg))) (sM (qX yI rg)))))
   so)
  (rl (t8 Xl rfl (Ll y9 (rM y7 (hr.mono D7) (qX (qV 0) rg)) (qV 1)) (tY (n:=2) (rZ (rD (i:=3) EC.nd rfl (Or.inl rfl)) (rZ (rD (i:=4) EC.nd rfl (Or.inl rfl)) tS)))
   (rk (sr (vz (uC (rM Ak (hr.mono Dt) (qX (qV 0) (qX (sR (qV 4) rz) (qX (sW (qV 2) (uj (qX (sW (qV 3) (sM (qX (sR (qV 4) rz) rg))) rg))) rg))))))
    (rk (rB tV))
    so)))
  (rk (rB tV)))))
theorem At:FnScope ["hand","many","paper","answers","at","alike"] ["hand","many","paper"] (rh (top 51)):=⟨rfl,rfl,rfl,by decide +kernel,rfl,by decide +kernel,by decide +kernel⟩
def EA(sZ:C0)(uS:C0):SV:=
  (rf (rF (vL uB qZ) (qY 3))
  (rf (w6 (vT (v2 fNe (be 2) (vL rX qZ)))
   (rf (rF (vL sZ (qW (be 0) (qW (v1 sg (be 2)) qZ))) (qY 4))
   (rf (rF (v2 fIx (be 2) (be 4)) (rT 2 (rm (qY 5) (rm (qY 2) si))))
   (uv (wa uL (be 3) (v2 rP (v2 fIx (vL uS (qW (be 1) qZ)) (be 4)) (vL rX (qW (be 5) qZ))))))) 1000000)
  (rn (zS (be 3)))))
def zN(sZ:C0)(uS:C0):C0:=rY 6 3 (EA sZ uS)
theorem QG{sZ uS:C0}{wO zF k:Nat}(F:Fun K "_law_way" "_law_way" (top 51) f fd) (vp:Df P w K mg base wO "_law_take" ["hand","many"] (spM K sZ)) (yy:wO<=k) (y7:Df P w K mg base zF "_law_pairs" ["many"] (spM K uS)) (D7:zF<=k) (sL:mg "len"=none):FnOk P w K mg base CX0 (k+1) f fd ["hand","many","paper"] (spM K (zN sZ uS)):=by
 unfold zN EA;exact sq F At fun cdv A outer s H E hr=>
  (rl (sf (i:=3) At.nd rfl (Or.inl rfl) (AC rg))
  (rl (Jw 1000000 Xl (yK hr (qV 2) (sM rg))
   (rl (sf (i:=4) At.nd rfl (Or.inl rfl) (rM vp (hr.mono yy) (qX (qV 0) (qX (vO sL (qV 2)) rg))))
   (rl (zJ (sR (qV 2) (qV 4)) (tY (n:=2) (rZ (rD (i:=5) At.nd rfl (Or.inl rfl)) (rZ (rD (i:=2) At.nd rfl (Or.inl rfl)) tS))))
   (rk (xI (CD (qV 3) (sW (sR (rM y7 (hr.mono D7) (qX (qV 1) rg)) (qV 4)) (sM (qX (qV 5) rg)))))))))
  (rk (rB (IK (qV 3))))))
theorem Bl:FnScope ["hand","paper","at","alike","under"] ["hand","paper"] (rh (top 52)):=⟨rfl,rfl,rfl,by decide +kernel,rfl,by decide +kernel,by decide +kernel⟩
def DO(sZ:C0)(uQ:C0):SV:=
  (rf (rF (vL sZ (qW (be 0) (qW (v1 sg (be 1)) qZ))) (qY 2))
  (rf (rF (v2 fIx (be 1) (be 2)) (rT 2 (rm (qY 3) (rm (qY 4) si))))
  (rf (sIf (bOr (vT (v2 fEq (be 4) (vL rX qZ))) (vT (v2 fEq (vL sZ (qW (be 0) (qW (vC (.int 2)) qZ))) (vC (.int 0)))))
   (rn (v2 rP (v2 rP (vSl (be 1) uy (uO (be 2))) (vL sG (qW (vL rX (qW (v1 yV (be 3)) (qW (be 4) qZ))) qZ))) (vSl (be 1) (uO (v2 rP (be 2) (vC (.int 1)))) uy)))
   sNx)
  (rn (v2 rP (v2 rP (vSl (be 1) uy (uO (be 2))) (vL sG (qW (vL rX (qW (be 3) (qW (vL uQ (qW (be 0) (qW (be 4) qZ))) qZ))) qZ))) (vSl (be 1) (uO (v2 rP (be 2) (vC (.int 1)))) uy))))))
def BS(sZ:C0)(uQ:C0):C0:=rY 5 2 (DO sZ uQ)
theorem S0{sZ uQ:C0}{wO zH k:Nat}(F:Fun K "_law_turned" "_law_turned" (top 52) f fd) (vp:Df P w K mg base wO "_law_take" ["hand","many"] (spM K sZ)) (yy:wO<=k) (Al:Df P w K mg base zH "_law_turned" ["hand","paper"] (spM K uQ)) (Fs:zH<=k) (sL:mg "len"=none):FnOk P w K mg base CX0 (k+1) f fd ["hand","paper"] (spM K (BS sZ uQ)):=by
 unfold BS DO;exact sq F Bl fun cdv A outer s H E hr=>
  (rl (sf (i:=2) Bl.nd rfl (Or.inl rfl) (rM vp (hr.mono yy) (qX (qV 0) (qX (vO sL (qV 1)) rg))))
  (rl (zJ (sR (qV 1) (qV 2)) (tY (n:=2) (rZ (rD (i:=3) Bl.nd rfl (Or.inl rfl)) (rZ (rD (i:=4) Bl.nd rfl (Or.inl rfl)) tS))))
  (rl (sr (PW.pt (zP (u6 hr (qV 4) (sM rg)) (zz (u6 hr (rM vp (hr.mono yy) (qX (qV 0) (qX rz rg))) rz))))
   (rk (rB (sW (sW (xG (qV 1) xZ (xR (qV 2))) (uj (qX (sM (qX (R1 (qV 3)) (qX (qV 4) rg))) rg))) (xG (qV 1) (xR (sW (qV 2) rz)) xZ))))
   so)
  (rk (rB (sW (sW (xG (qV 1) xZ (xR (qV 2))) (uj (qX (sM (qX (qV 3) (qX (rM Al (hr.mono Fs) (qX (qV 0) (qX (qV 4) rg))) rg))) rg))) (xG (qV 1) (xR (sW (qV 2) rz)) xZ)))))))
theorem vP:FnScope ["script","cell","hand","many","paper","asks","answers","k","small","turned"] ["script"] (rh (top 53)):=⟨rfl,rfl,rfl,by decide +kernel,rfl,by decide +kernel,by decide +kernel⟩
def DV(yn:C0)(sZ:C0)(yJ:C0)(uw:C0)(xz:C0)(zb:C0)(sd:C0)(sH:C0)(uQ:C0)(uP:C0):SV:=
  (rf (tF (ivL (v2 rP (vL sG (qW (v2 x9 (vC (.int 10)) (vC (.int 18))) qZ)) (vSl (be 0) uy (uO (vC (.int 8)))))) (qY 1)
   (rf (rF (vL yn (qW (be 1) qZ)) (qY 2))
   (rf (rF (v2 rP (vC (.int 3)) (vL sZ (qW (be 2) (qW (vC (.int 2)) qZ)))) (qY 3))
   (rf (rF (vL yJ (qW (be 3) qZ)) (qY 4))
   (rf (tF (ivR (be 3)) (qY 5)
    (sIf (vT (v2 zm (vL xz (qW (be 3) (qW (be 5) (qW (vL uw (qW (be 4) (qW (be 5) qZ))) qZ)))) (vC (.bl true))))
     (rn (vC (.bl false)))
     sNx))
   (rf (rF (vL zb (qW (be 2) (qW (be 3) (qW (be 4) qZ)))) (qY 6))
   (rf (tF (ivR (v2 rP (v1 sg (be 6)) (vC (.int 1)))) (qY 7)
    (sIf (bOr (tU (sD (vL sd (qW (be 3) (qW (vSl (be 6) uy (uO (be 7))) qZ))))) (vT (v2 fNe (vL sH (qW (be 3) (qW (vSl (be 6) uy (uO (be 7))) qZ))) (vL rX (qW (vC (.str "open")) qZ)))))
     (rn (vC (.bl false)))
     sNx))
   (rf (rF (vL uw (qW (be 4) (qW (vC (.int 2)) qZ))) (qY 8))
   (rf (rF (vL uQ (qW (be 2) (qW (be 8) qZ))) (qY 9))
   (sIf (vT (v2 fNe (vL xz (qW (be 3) (qW (vC (.int 2)) (qW (be 9) qZ)))) (vL uP (qW (be 3) (qW (be 9) (qW (vL sG qZ) qZ))))))
    (rn (vC (.bl false)))
    sNx))))))))))
  (rn (vC (.bl true))))
def Bg(yn:C0)(sZ:C0)(yJ:C0)(uw:C0)(xz:C0)(zb:C0)(sd:C0)(sH:C0)(uQ:C0)(uP:C0):C0:=rY 10 1 (DV yn sZ yJ uw xz zb sd sH uQ uP)
theorem P6{yn sZ yJ uw xz zb sd sH uQ uP:C0}{Hk wO J7 zC Le KI uq u5 zH zB k:Nat}(F:Fun K "law" "law" (top 53) f fd) (E9:Df P w K mg base Hk "_law_hand" ["cell"] (spM K yn)) (Uv:Hk<=k) (vp:Df P w K mg base wO "_law_take" ["hand","many"] (spM K sZ)) (yy:wO<=k) (EN:Df P w K mg base J7 "holding_paper" ["many"] (spM K yJ)) (PD:J7<=k) (yv:Df P w K mg base zC "_law_cut" ["paper","asks"] (spM K uw)) (B0:zC<=k) (A6:Df P w K mg base Le "holds" ["many","asks","paper"] (spM K xz)) (L9:Le<=k) (Fd:Df P w K mg base KI "_law_way" ["hand","many","paper"] (spM K zb)) (Sl:KI<=k) (ud:Df P w K mg base uq "can_be" ["many","answers"] (spM K sd)) (wp:uq<=k) (uU:Df P w K mg base u5 "tells" ["many","answers"] (spM K sH)) (xS:u5<=k) (Al:Df P w K mg base zH "_law_turned" ["hand","paper"] (spM K uQ)) (Fs:zH<=k) (Ak:Df P w K mg base zB "_law_ends_open" ["many","paper","answers"] (spM K uP)) (Dt:zB<=k) (tj:mg "range"=none) (sL:mg "len"=none):FnOk P w K mg base CX0 (k+1) f fd ["script"] (spM K (Bg yn sZ yJ uw xz zb sd sH uQ uP)):=by
 unfold Bg DV;exact sq F vP fun cdv A outer s H E hr=>
  (rl (t8 Xl rfl (tR (sW (uj (qX (B6 rz rz) rg)) (xG (qV 0) xZ (xR rz)))) (rD (i:=1) vP.nd rfl (Or.inl rfl))
   (rl (sf (i:=2) vP.nd rfl (Or.inl rfl) (rM E9 (hr.mono Uv) (qX (qV 1) rg)))
   (rl (sf (i:=3) vP.nd rfl (Or.inl rfl) (sW rz (rM vp (hr.mono yy) (qX (qV 2) (qX rz rg)))))
   (rl (sf (i:=4) vP.nd rfl (Or.inl rfl) (rM EN (hr.mono PD) (qX (qV 3) rg)))
   (rl (t8 Xl rfl (Ai tj (qV 3)) (rD (i:=5) vP.nd rfl (Or.inl rfl))
    (rk (sr (R9 (rM A6 (hr.mono L9) (qX (qV 3) (qX (qV 5) (qX (rM yv (hr.mono B0) (qX (qV 4) (qX (qV 5) rg))) rg)))) tV)
     (rk (rB tV))
     so)))
   (rl (sf (i:=6) vP.nd rfl (Or.inl rfl) (rM Fd (hr.mono Sl) (qX (qV 2) (qX (qV 3) (qX (qV 4) rg)))))
   (rl (t8 Xl rfl (Ai tj (sW (vO sL (qV 6)) rz)) (rD (i:=7) vP.nd rfl (Or.inl rfl))
    (rk (sr (PW.pt (zP (vz (uC (rM ud (hr.mono wp) (qX (qV 3) (qX (xG (qV 6) xZ (xR (qV 7))) rg))))) (zz (yK hr (rM uU (hr.mono xS) (qX (qV 3) (qX (xG (qV 6) xZ (xR (qV 7))) rg))) (sM (qX yI rg))))))
     (rk (rB tV))
     so)))
   (rl (sf (i:=8) vP.nd rfl (Or.inl rfl) (rM yv (hr.mono B0) (qX (qV 4) (qX rz rg))))
   (rl (sf (i:=9) vP.nd rfl (Or.inl rfl) (rM Al (hr.mono Fs) (qX (qV 2) (qX (qV 8) rg))))
   (rk (sr (yK hr (rM A6 (hr.mono L9) (qX (qV 3) (qX rz (qX (qV 9) rg)))) (rM Ak (hr.mono Dt) (qX (qV 3) (qX (qV 9) (qX (uj rg) rg)))))
    (rk (rB tV))
    so)))))))))))
  (rk (rB tV)))
end
def Hd(L:M)(k:Nat):Prop:=∃a b,L[k]?=some (some (.lst [.int a,.int b]))
def xm(L:M)(k:Nat)(a b:Int):M:=L.set k (some (.lst [.int a,.int b]))
def Dn(k:Nat)(L Z5:M):Prop:=∃a b,Z5=xm L k a b
def Hd.set{L:M}{k:Nat}(h:Hd L k)(a b:Int):(xm L k a b)[k]?=some (some (.lst [.int a,.int b])):=let ⟨_,_,e⟩:=h;tT e
def Dn.hd{L Z5:M}{k:Nat}(h:Hd L k)(d:Dn k L Z5):Hd Z5 k:=let ⟨a,b,e⟩:=d;⟨a,b,by rw[e];exact h.set a b⟩
def Dn.len{L Z5:M}{k:Nat}(d:Dn k L Z5):Z5.length=L.length:=let ⟨_,_,e⟩:=d;by rw[e];simp[xm]
def Dn.ne{L Z5:M}{k j:Nat}(d:Dn k L Z5)(h:j≠k):Z5[j]?=L[j]?:=let ⟨_,_,e⟩:=d;by rw[e];exact tM h
def B9{L:M}{k:Nat}{m:Int}(h:Hd L k)(h0:0<m)(h1:m<2^200):∃r Z5,vM [.ref k,.int m] L=some (.int r,Z5)/\Dn k L Z5/\0<=r/\r<m:=by
 obtain⟨a,b,hk⟩:=h;by_cases ha:0<a
 ·refine⟨a%m,xm L k (a/m) b,?_,⟨_,_,rfl⟩,Int.emod_nonneg _ (by omega),Int.emod_lt_of_pos _ h0⟩;have hq:vG a m:=h0;have hd:xu a m:=⟨h0,h1⟩
  simp[vM,BO,Di hk,zu hk,ha,hq,hd,xm]
 ·have hb1:=Int.emod_nonneg (b*48271) (b:=2147483647) (by decide);have hb2:=Int.emod_lt_of_pos (b*48271) (b:=2147483647) (by decide);refine⟨_,xm L k a (b*48271%2147483647),?_,⟨_,_,rfl⟩,Int.emod_nonneg ((b*48271%2147483647+1)^7/8) (by omega),Int.emod_lt_of_pos _ h0⟩;have hp:v6 (b*48271%2147483647+1) 7:=⟨by decide,by decide,by omega⟩
  have hm:CMul b 48271:=.inr ⟨by decide,by decide⟩;have hq:vG ((b*48271%2147483647+1)^7/8) m:=h0;have hq2:vG (b*48271) 2147483647:=by unfold vG;decide
  have hd:xu ((b*48271%2147483647+1)^7) 8:=by unfold xu;decide
  have hk2:=tT (y:=some (Z8.lst [.int a,.int (b*48271%2147483647)])) hk;simp[vM,BO,Di hk,zu hk,ha,hm,hp,hq,hq2,hd,Di hk2,xm]
def Tq(c:Int)(L:M):∃a b,yZ [.int c] L=some (.ref L.length,L++[some (.lst [.int a,.int b])]):=by
 have h1:v6 10 18:=by unfold v6;decide
 have h2:vG c 2147483629:=by unfold vG;decide
 have h3:∀(x:Int) (b:Bool),CMul x (if b then 1 else 0):=fun x b=>.inr (by cases b<;>decide);have h4:∀(x:Int) (p:Prop) [Decidable p],CMul x (if p then 1 else 0):=fun x p _=>.inr (by split<;>decide);have h5:∀(x:Int) (p:Prop) [Decidable p],CMul x (if p then 0 else 1):=fun x p _=>.inr (by split<;>decide);simp[yZ,Eb,h1,h2,h3,h4,h5]
def Tz{L:M}{a b:Int}:Hd (L++[some (.lst [.int a,.int b])]) L.length:=⟨a,b,by simp⟩
def VZ{i j:Nat}{O:G}{L:M}{ea eb:EV}{RI:List D×Ck->M->Prop}(h1:ea O L=some (.int ((i:Int)),L))(h2:eb O L=some (.int (j:Int),L))(hi:i<=1000)(hj:j<=1000)(h:RI ((List.range (j - i)).map fun k:Nat=>D.int ((i+k:Nat):Int),none) L):Wp (xX ea eb O L) RI:=by
 have hbb:((-1000000000:Int)<=(i:Int)/\(i:Int)<=1000000000)/\-1000000000<=(j:Int)/\(j:Int)<=1000000000:=by omega
 refine xL (L:=L) (a:=((List.range (j - i)).map fun k:Nat=>D.int ((i+k:Nat):Int),none)) ?_ h;rw[FT,h1,Hu,h2,JE,if_pos hbb];have e2:((j:Int) - (i:Int)).toNat=j - i:=by omega
 rw[e2];unfold rS;congr 4
def GS{n:Nat}{L:M}(hn:n<=100):vq [.int (n:Int)] L=some (.lst ((prs n).map dP),L):=by
 apply Au;unfold vq Cp;refine(sU rfl).mpr ?_;show Ws (rf _ _ [some (.int (n:Int)),none,none] L) _;simp!;rw[vh (by simp)];simp!;rw[Dq (by omega)];simp!;have plen:∀k,k<=n->(((List.range k).flatMap fun i=>(List.range (n - (i+1))).map fun j=>(i,i+1+j))).length<=k*100:=by
  intro k;induction k with
  |zero=>simp
  |succ k ih=>
   intro hk;rw[List.range_succ,List.flatMap_append,XA];have:=ih (by omega);have h2:(([k]:List Nat).flatMap fun i=>(List.range (n - (i+1))).map fun j=>(i,i+1+j)).length=n - (k+1):=by
    rw[List.flatMap_cons,List.flatMap_nil,XC,WQ,XL]
   omega
 refine EJ (fun k O Z5=>∃o2,O=[some (.int (n:Int)),some (.lst (((List.range k).flatMap fun i=>(List.range (n - (i+1))).map fun j=>(i,i+1+j)).map dP)),o2]/\Z5=L) ⟨_,rfl,rfl⟩ ?_ ?_
 ·rintro k O Z5 hk ⟨o2,rfl,rfl⟩;simp!;refine VZ (i:=k+1) (j:=n) rfl rfl (by omega) (by omega) ?_;rw[v3];refine⟨by simp;omega,?_⟩;refine xU (dn:=fun j:Nat=>D.int ((k+1+j:Nat):Int)) (keep:=fun _=>true) (val:=fun j=>dP (k,k+1+j)) (fun O=>∃o,O=[o,some (.int (k:Int))]) (show rJ none Z5 from trivial) (List.range (n - (k+1))) ⟨_,rfl⟩ ?_ ?_
  ·rintro j hj O ⟨o,rfl⟩;simp!;rw[sN (by simp)];simp!;exact⟨trivial,⟨_,rfl⟩,trivial,trivial,fun _=>⟨rfl,trivial⟩⟩
  ·rw[X3.mpr (by simp)];have:=plen k (by omega);simp!;rw[wg (by rw[WQ,WQ,XL];omega)];simp!;refine⟨some (.int (k:Int)),?_,by first|trivial|rfl⟩;rw[List.range_succ,List.flatMap_append,XI,List.flatMap_cons,List.flatMap_nil,XC,Xu];rfl
 ·rintro O Z5 ⟨o2,rfl,rfl⟩;simp!;exact⟨by first|trivial|rfl,by first|trivial|rfl⟩
def Cr{L:M}:fEq (.tup []) (.tup []) L=some (.bl true,L):=by
 show(eqD (.tup []) (.tup []) L).bind _=_;have:eqD (.tup []) (.tup []) L=some true:=by
  show((py 65 L (.tup [])).bind fun d=>(py 65 L (.tup [])).bind fun e=>if(d.canLay0&&e.canLay0&&decide (d.depth<=64))=true then some (PyData.eqv d e) else none)=_;have po:py 65 L (.tup [])=some (.tuple []):=rfl;rw[po];simp[PyData.canLay0,PyData.canLayAll0,PyData.depth,PyData.depthAll,PyData.eqv,PyData.eqvAll]
 rw[this];rfl
def pPp:(k:Nat)->Pap k->PyData
 |0,_=>.tuple []
 |k+1,(rows:List (Bool×Pap k))=>.list (rows.map fun r=>.tuple [.bool r.1,pPp k r.2])
theorem Jr{L:M}:∀(k:Nat) (p:Pap k) (j:Nat),2*k+1<=j->py j L (dPp k p)=some (pPp k p)
 |0,p,j,h=>by
  obtain⟨j,rfl⟩:∃i,j=i+1:=⟨j - 1,by omega⟩
  rfl
 |k+1,(rows:List (Bool×Pap k)),j,h=>by
  obtain⟨j,rfl⟩:∃i,j=i+2:=⟨j - 2,by omega⟩
  obtain⟨i,rfl⟩:∃i,j=i+1:=⟨j - 1,by omega⟩
  have:sB (py (i+2) L) (rows.map (dR k))=some (rows.map fun r=>PyData.tuple [.bool r.1,pPp k r.2]):=by
   refine xp fun r _=>?_;have ih:=Jr (L:=L) k r.2 (i+1) (by omega);show(sB (py (i+1) L) [.bl r.1,dPp k r.2]).bind _=_;have e:py (i+1) L (.bl r.1)=some (.bool r.1):=rfl;simp only[sB,ih,e,bs]
  show(sB (py (i+2) L) (rows.map (dR k))).bind _=_;rw[this];rfl
def lay_all{J:Type}{f:J->PyData}{l:List J}(h:∀x∈l,(f x).canLay0=true):PyData.canLayAll0 (l.map f)=true:=by
 induction l with
 |nil=>rfl
 |cons a l ih=>simp[PyData.canLayAll0,h a (by simp),ih fun x hx=>h x (by simp[hx])]
def dep_all{J:Type}{f:J->PyData}{b:Nat}{l:List J}(h:∀x∈l,(f x).depth<=b):PyData.depthAll (l.map f)<=b:=by
 induction l with
 |nil=>simp[PyData.depthAll]
 |cons a l ih=>
  have h1:=h a (by simp);have h2:=ih fun x hx=>h x (by simp[hx]);simp only[WT,PyData.depthAll];omega
theorem KQ:∀(k:Nat) (p:Pap k),(pPp k p).canLay0=true
 |0,_=>rfl
 |k+1,(rows:List (Bool×Pap k))=>by
  show PyData.canLayAll0 _=true;exact lay_all fun r _=>by simp[PyData.canLay0,PyData.canLayAll0,KQ k r.2]
theorem Io:∀(k:Nat) (p:Pap k),(pPp k p).depth<=2*k+1
 |0,_=>by simp[pPp,PyData.depth,PyData.depthAll]
 |k+1,(rows:List (Bool×Pap k))=>by
  have:=dep_all (f:=fun r:Bool×Pap k=>PyData.tuple [.bool r.1,pPp k r.2]) (b:=2*k+2) (l:=rows) fun r _=>by
   have:=Io k r.2;simp[PyData.depth,PyData.depthAll];omega
  show(PyData.list _).depth<=_;simp only[PyData.depth];omega
def Ea{k:Nat}{p:Pap (k+1)}{L:M}(hk:k<=20):fEq (dPp (k+1) p) (.tup []) L=some (.bl false,L):=by
 have e1:=Jr (L:=L) (k+1) p 65 (by omega);have e2:py 65 L (.tup [])=some (.tuple []):=rfl;have h1:=KQ (k+1) p;have h2:=Io (k+1) p;have:eqD (dPp (k+1) p) (.tup []) L=some false:=by
  show((py 65 L (dPp (k+1) p)).bind fun d=>(py 65 L (.tup [])).bind fun e=>if(d.canLay0&&e.canLay0&&decide (d.depth<=64))=true then some (PyData.eqv d e) else none)=_;rw[e1,e2,bs,bs,if_pos (by rw[h1];simp[PyData.canLay0,PyData.canLayAll0];omega)];rfl
 show(eqD (dPp (k+1) p) (.tup []) L).bind _=_;rw[this];rfl
def Ex{L Z5:M}{k:Nat}(h:Hd L k)(g:Gr L Z5):Hd Z5 k:=let ⟨a,b,e⟩:=h;⟨a,b,g.get e⟩
def mmC:Nat->List D->M->Fr
 |0=>fun _ _=>none
 |m+1=>Ab (mmC m)
theorem ED{n:Nat}(hp:(prs n).length<=1000):∀(K a:Nat) (p:Pap K) (L:M) (m:Nat),a<m->a<=K->Sh n K p->mmC m [dPp K p,.int (a:Int)] L=some (dPp a (v7 K a p),L)
 |K,0,p,L,m,hm,_,_=>by
  obtain⟨m,rfl⟩:∃j,m=j+1:=⟨m - 1,by omega⟩
  apply Au;unfold mmC Ab AX;refine(sU rfl).mpr ?_;show Ws (rf _ _ [some (dPp K p),some (.int ((0:Nat):Int))] L) _;have e1:decide (((0:Nat):Int)=0)=true:=by simp
  simp![e1];rw[sN (by simp)];simp!;refine⟨?_,by first|trivial|rfl⟩;cases K<;>rfl
 |0,a+1,_,_,_,_,h,_=>absurd h (by omega)
 |K+1,a+1,(rows:List (Bool×Pap K)),L,m,hm,h,⟨h1,h2⟩=>by
  obtain⟨m,rfl⟩:∃j,m=j+1:=⟨m - 1,by omega⟩
  apply Au;rw[yX];unfold mmC Ab AX;refine(sU rfl).mpr ?_;show Ws (rf _ _ [some (.lst (List.map (dR K) rows)),some (.int ((a+1:Nat):Int))] L) _;have e1:decide (((a+1:Nat):Int)=0)=false:=by simp;omega
  have ek:(((a+1:Nat):Int) - 1)=(a:Int):=by omega
  simp![e1];rw[v3];refine⟨by simp;omega,?_⟩;refine xU (dn:=dR K) (keep:=fun _=>true) (val:=fun r=>dR a (r.1,v7 K a r.2)) (fun O=>∃o o',O=[o,o',some (.int ((a+1:Nat):Int))]) (show rJ none L from trivial) rows ⟨_,_,rfl⟩ ?_ ?_
  ·rintro r hr O ⟨o,o',rfl⟩;show Wp (rT 2 _ (.tup [.bl r.1,dPp K r.2]) _ _) _;refine(vQ rfl).mpr ?_;simp![ek,ED hp K a r.2 L m (by omega) (by omega) (h2 r hr)];rw[sN (by simp)];simp!;exact⟨trivial,⟨_,_,rfl⟩,trivial,trivial,fun _=>⟨rfl,trivial⟩⟩
  ·rw[X3.mpr (by simp)];simp!;refine⟨?_,by first|trivial|rfl⟩;show _=D.lst ((rows.map fun r=>(r.1,v7 K a r.2)).map (dR a));rw[Xu];rfl
structure Kp (h:Nat) (L Z5:M):Prop where
 len:L.length<=Z5.length
 hd:Hd Z5 h
 at_:∀j,j<L.length->j≠h->Z5[j]?=L[j]?
def Kp.refl{h:Nat}{L:M}(d:Hd L h):Kp h L L:=⟨WJ _,d,fun _ _ _=>rfl⟩
def Kp.trans{h:Nat}{L Z5 Zc:M}(a:Kp h L Z5)(b:Kp h Z5 Zc):Kp h L Zc:=
 ⟨Xo a.len b.len,b.hd,fun j hj hn=>by rw[b.at_ j (WZ hj a.len) hn,a.at_ j hj hn]⟩
def Kp.dn{h:Nat}{L Z5:M}(d:Hd L h)(x:Dn h L Z5):Kp h L Z5:=⟨Nat.le_of_eq x.len.symm,Dn.hd d x,fun j _ hn=>x.ne hn⟩
def Hd.lt{L:M}{h:Nat}(d:Hd L h):h<L.length:=let ⟨_,_,e⟩:=d;(WL.mp e).1
def Kp.set{h a:Nat}{L Z5:M}{o:Option Z8}(k:Kp h L Z5)(ha:L.length<=a)(hh:h<L.length):Kp h L (Z5.set a o):=by
 refine⟨by rw[X0];exact k.len,?_,fun j hj hn=>?_⟩
 ·obtain⟨x,y,e⟩:=k.hd;exact⟨x,y,by rw[tM (by omega)];exact e⟩
 ·rw[tM (by omega)];exact k.at_ j hj hn
def Kp.app{h:Nat}{L:M}{o:Option Z8}(d:Hd L h):Kp h L (L++[o]):=by
 refine⟨by simp,?_,fun j hj _=>WV hj⟩;have:=d.lt;obtain⟨x,y,e⟩:=d;exact⟨x,y,by rw[WV this];exact e⟩
def Jy{ds:List D}{r:Nat}(h:r<=ds.length):t5 ds none (some (r:Int))=ds.take r:=by
 unfold t5;rw[HT.sIx_none,HT.sIx_nat,List.drop_zero,Nat.sub_zero,Nat.min_eq_left h]
def Pj{ds:List D}{r:Nat}(h:r<=ds.length):t5 ds (some (r:Int)) none=ds.drop r:=by
 unfold t5;rw[HT.sIx_none,HT.sIx_nat,Nat.min_eq_left h];exact List.take_of_length_le (by simp)
def ye{ds:List D}{lo hi:Option Int}{L:M}:fSl (.lst ds) lo hi L=some (.lst (t5 ds lo hi),L):=rfl
def mmT:Nat->List D->M->Fr
 |0=>fun _ _=>none
 |m+1=>BS vM (mmT m)
theorem FV{n k q:Nat}{rows:List (Bool×Pap k)}{x:Bool×Pap k}(hq:q<rows.length)(hl:rows.length=(prs n).length)(hs:∀r∈rows,Sh n k r.2)(hx:Sh n k x.2):
  Sh n (k+1) (rows.take q++[x]++rows.drop (q+1):List (Bool×Pap k))/\dPp (k+1) (rows.take q++[x]++rows.drop (q+1):List (Bool×Pap k))=.lst ((rows.map (dR k)).take q++[dR k x]++(rows.map (dR k)).drop (q+1)):=by
 refine⟨⟨?_,?_⟩,?_⟩
 ·simp;omega
 ·intro r hr;rcases Xb.mp hr with hr|hr
  ·rcases Xb.mp hr with hr|hr
   ·exact hs r (List.mem_of_mem_take hr)
   ·cases Xj.mp hr;exact hx
  ·exact hs r (List.mem_of_mem_drop hr)
 ·rw[yX,XI,XI,List.map_take,List.map_drop];rfl
section
variable {n h:Nat}
theorem T3(hp:1<=(prs n).length)(hp2:(prs n).length<=1000):∀(k:Nat) (p:Pap k) (L:M) (m:Nat),k<m->1<=k->k<=20->Sh n k p->Hd L h->Wp (mmT m [.ref h,dPp k p] L) fun d Z5=>Kp h L Z5/\∃p':Pap k,Sh n k p'/\d=dPp k p':=by
 intro k;induction k with
 |zero=>intro p L m hm hk;omega
 |succ k ih=>
  rintro(rows:List (Bool×Pap k)) L m hm _ hk20 ⟨hl,hs⟩ hd;obtain⟨m,rfl⟩:∃j,m=j+1:=⟨m - 1,by omega⟩
  rw[yX];unfold mmT BS DO;refine(sU rfl).mpr ?_;show Ws (rf _ _ [some (.ref h),some (.lst (rows.map (dR k))),none,none,none] L) _;generalize hF1:rn (v2 rP (v2 rP (vSl (be 1) uy (uO (be 2))) (vL sG (qW (vL rX (qW (v1 yV (be 3)) (qW (be 4) qZ))) qZ))) (vSl (be 1) (uO (v2 rP (be 2) (vC (.int 1)))) uy))=F1;generalize hF2:rn (v2 rP (v2 rP (vSl (be 1) uy (uO (be 2))) (vL sG (qW (vL rX (qW (be 3) (qW (vL (mmT m) (qW (be 0) (qW (be 4) qZ))) qZ))) qZ))) (vSl (be 1) (uO (v2 rP (be 2) (vC (.int 1)))) uy))=F2;have tl:∀L:M,sg (.lst (rows.map (dR k))) L=some (.int (rows.length:Int),L):=fun L=>by
   show some (D.int ((rows.map (dR k)).length:Int),L)=_;rw[WQ]
  obtain⟨t,Z4,e1,d1,t0,t1⟩:=B9 (m:=(rows.length:Int)) hd (by omega) (by omega);simp![tl,e1];obtain⟨q,rfl⟩:∃q:Nat,t=(q:Int):=⟨t.toNat,by omega⟩
  have hq:q<rows.length:=by omega
  have k1:=Kp.dn hd d1;have ex:∀L:M,fIx (.lst (rows.map (dR k))) (.int (q:Int)) L=some (dR k rows[q],L):=fun _=>Ev (by rw[WY,WP hq];rfl);have hx:=hs _ (Xv hq);generalize rows[q]=x at ex hx;have ht:((q:Int)+1)=((q+1:Nat):Int):=by omega
  have c1:t5 (rows.map (dR k)) none (some (q:Int))=(rows.map (dR k)).take q:=Jy (by rw[WQ];omega);have c2:t5 (rows.map (dR k)) (some ((q+1:Nat):Int)) none=(rows.map (dR k)).drop (q+1):=Pj (by rw[WQ];omega);have hl1:((rows.map (dR k)).take q).length<=1000:=by rw[X4,WQ];omega
  have hl2:((rows.map (dR k)).drop (q+1)).length<=1000:=by rw[List.length_drop,WQ];omega
  simp![ex];show Wp (rT 2 _ (.tup [.bl x.1,dPp k x.2]) _ _) _;refine(vQ rfl).mpr ?_;simp!;rw[sN (by simp)];simp!;have fin1:∀Z3,Kp h L Z3->Ws (F1 [some (.ref h),some (.lst (rows.map (dR k))),some (.int (q:Int)),some (.bl x.1),some (dPp k x.2)] Z3) fun o _ Z5=>∃p':Pap (k+1),o=.rt (dPp (k+1) p')/\Kp h L Z5/\Sh n (k+1) p':=by
   intro Z3 k2;rw[←hF1];simp![ye,c1];rw[sN (by simp)];simp!;rw[vh (by simp)];simp!;rw[wg (by simp at hl1⊢;omega)];simp![ye,ht,c2];rw[wg (by simp at hl1 hl2⊢;omega)];simp!;have hz:=FV (x:=(!x.1,x.2)) hq hl hs hx;exact⟨_,congrArg _ hz.2.symm,k2,hz.1⟩
  have fin2:1<=k->∀Z3,Kp h L Z3->Ws (F2 [some (.ref h),some (.lst (rows.map (dR k))),some (.int (q:Int)),some (.bl x.1),some (dPp k x.2)] Z3) fun o _ Z5=>∃p':Pap (k+1),o=.rt (dPp (k+1) p')/\Kp h L Z5/\Sh n (k+1) p':=by
   intro hk1 Z3 k2;rw[←hF2];simp![ye,c1];refine(ih x.2 Z3 m (by omega) (by omega) (by omega) hx k2.hd).imp ?_;rintro _ ZM ⟨k3,p',hp',rfl⟩;simp!;rw[sN (by simp)];simp!;rw[vh (by simp)];simp!;rw[wg (by simp at hl1⊢;omega)];simp![ye,ht,c2];rw[wg (by simp at hl1 hl2⊢;omega)];simp!;have hz:=FV (x:=(x.1,p')) hq hl hs hp';exact⟨_,congrArg _ hz.2.symm,k2.trans k3,hz.1⟩
  have end_:∀{F:SV} {O:G} {Z3:M} {sb:SV},(Ws (F O Z3) fun o _ Z5=>∃p':Pap (k+1),o=.rt (dPp (k+1) p')/\Kp h L Z5/\Sh n (k+1) p')->Ws (F O Z3) (qSq sb (zi fun d Z5=>Kp h L Z5/\∃p':Pap (k+1),Sh n (k+1) p'/\d=dPp (k+1) p')):=by
   intro F O Z3 sb w;refine w.imp ?_;rintro _ ZX Z5 ⟨p',rfl,hk,hsh⟩;simp!;exact⟨hk,p',hsh,rfl⟩
  have end2:∀{F:SV} {O:G} {Z3:M},(Ws (F O Z3) fun o _ Z5=>∃p':Pap (k+1),o=.rt (dPp (k+1) p')/\Kp h L Z5/\Sh n (k+1) p')->Ws (F O Z3) (zi fun d Z5=>Kp h L Z5/\∃p':Pap (k+1),Sh n (k+1) p'/\d=dPp (k+1) p'):=by
   intro F O Z3 w;refine w.imp ?_;rintro _ ZX Z5 ⟨p',rfl,hk,hsh⟩;simp!;exact⟨hk,p',hsh,rfl⟩
  cases k with
  |zero=>
   have heq0:∀L:M,fEq (dPp 0 x.2) (.tup []) L=some (.bl true,L):=fun L=>Cr;simp![heq0];exact end_ (fin1 Z4 k1)
  |succ k=>
   have heq0:∀L:M,fEq (dPp (k+1) x.2) (.tup []) L=some (.bl false,L):=fun L=>Ea (by omega);obtain⟨u,Z3,e2,d2,_,_⟩:=B9 (m:=2) k1.hd (by decide) (by decide);have k2:=k1.trans (Kp.dn k1.hd d2);simp![heq0,e2];cases decide (u=0) with
   |true=>
    simp!;exact end_ (fin1 Z3 k2)
   |false=>
    simp!;exact end2 (fin2 (by omega) Z3 k2)
end
def GU{a b:List D}{L:M}(h0:a≠[])(h:a.length+b.length<=1000000):rP (.tup a) (.tup b) L=some (.tup (a++b),L):=by
 simp only[rP,Aw,vg,bs];rw[if_pos ⟨h0,h⟩]
theorem NU{c:BV}{sb:SV}{O:G}{L:M}{Q:Out->G->M->Prop}(I:Nat->G->M->Prop)(m N:Nat)(h0:I m O L)(hN:m<N)
  (hs:∀m O L,I m O L->Wp (c O L) fun b Z4=>if b=true then Ws (sb O Z4) fun o ZW Z3=>match o with
   | .nx=>∃m',m'<m/\I m' ZW Z3
   | .ct=>∃m',m'<m/\I m' ZW Z3
   | .bk=>Q .nx ZW Z3
   | .rt d=>Q (.rt d) ZW Z3 else Q .nx O Z4):Ws (w6 c sb N O L) Q:=by
 induction N generalizing O L m with
 |zero=>omega
 |succ N ih=>
  refine ws_bind.mpr ((hs m O L h0).imp fun b Z4 h=>?_);cases b with
  |false=>exact ws_some.mpr h
  |true=>
   refine wss_bind.mpr (Ws.imp h fun o ZW Z3 h=>?_);cases o with
   |nx=>obtain⟨m',h1,h2⟩:=h;exact ih (O:=ZW) (L:=Z3) m' h2 (by omega)
   |ct=>obtain⟨m',h1,h2⟩:=h;exact ih (O:=ZW) (L:=Z3) m' h2 (by omega)
   |bk=>exact ws_some.mpr h
   |rt d=>exact ws_some.mpr h
section
variable {n:Nat} {C CF CT:Addr}
theorem J5{x y:D}{b:Bool}{L:M}(h:fEq x y L=some (.bl b,L)):fNe x y L=some (.bl (!b),L):=by
 unfold fEq at h;unfold fNe;cases he:eqD x y L with
 |none=>rw[he] at h;cases h
 |some c=>rw[he] at h;cases h;rfl
theorem Qt{k:Nat}{p:Pap k}{L:M}(hk:k<=20):fEq (dPp k p) (.tup []) L=some (.bl (k==0),L):=by
 cases k with
 |zero=>exact Cr
 |succ k=>exact Ea (by omega)
theorem Kf{o:Option (Option Int)}{L:M}:fEq (t6 o) (.tup [.str "open"]) L=some (.bl o.isNone,L):=by
 have h:eqD (t6 o) (.tup [.str "open"]) L=eqD (t6 o) se L:=by
  have p1:py 65 L (.tup [.str "open"])=some (.tuple [.str "open"]):=rfl;have p2:py 65 L se=some (.tuple [.str "open"]):=rfl;have h1:∀d:D,(∃ds,d=.tup ds)\/(∃ds,d=.gt ds)->∀y:D,eqD d y L=(py 65 L d).bind fun d=>(py 65 L y).bind fun e=>if(d.canLay0&&e.canLay0&&decide (d.depth<=64))=true then some (PyData.eqv d e) else none:=by
   rintro d (⟨ds,rfl⟩|⟨ds,rfl⟩) y<;>rfl
  have h2:(∃ds,t6 o=.tup ds)\/(∃ds,t6 o=.gt ds):=by
   rcases o with _|_|i
   ·exact .inr ⟨_,rfl⟩
   ·exact .inl ⟨_,rfl⟩
   ·exact .inl ⟨_,rfl⟩
  rw[h1 _ h2,h1 _ h2,p1,p2]
 have:=EU (L:=L) o;unfold fEq at this⊢;rw[h];exact this
def mmE(C CF CT:Addr):Nat->List D->M->Fr
 |0=>fun _ _=>none
 |m+1=>z0 (dn (vm C)) (dn (xr C CF CT)) vq (mmE C CF CT m)
theorem SA(hn:n<=7)(hp:(prs n).length<=1000):∀(k:Nat) (as:List An) (p:Pap k) (L:M) (m:Nat),k<m->k<=20->Ok2 n as->as.length+k<=100->Sh n k p->Wp (mmE C CF CT m [.int (n:Int),dPp k p,.lst (as.map dA)] L) fun d Z5=>d=.bl (tI n k as p)/\Gr L Z5:=by
 intro k;induction k with
 |zero=>
  intro as p L m hm _ hv hl _;obtain⟨m,rfl⟩:∃j,m=j+1:=⟨m - 1,by omega⟩
  unfold mmE z0 Be;refine(sU rfl).mpr ?_;show Ws (rf _ _ [some (.int (n:Int)),some (.tup []),some (.lst (as.map dA)),none,none] L) _;simp!;refine(xD hv (by omega)).imp ?_;rintro _ Z4 ⟨rfl,g1⟩;have hle:tI n 0 as p=(sj as&&(vd (sm n as)).isNone):=rfl;cases hc:sj as with
  |false=>
   simp![Xw];rw[hle,hc];exact⟨rfl,g1⟩
  |true=>
   simp![Xe];rw[sN (by simp)];simp![Cr];have hf:sm n as≠[]:=fun z=>by
    have:=(Ao (n:=n) (as:=as) (hv.inN)).mp z;rw[hc] at this;cases this
   refine(BA hv (by omega) hn hf).imp ?_;rintro _ Z3 ⟨rfl,g2⟩;simp!;rw[sN (by simp)];simp![Kf];rw[hle,hc];exact⟨rfl,g1.trans g2⟩
 |succ k ih=>
  rintro as (rows:List (Bool×Pap k)) L m hm hk hv hl ⟨hrl,hrs⟩;obtain⟨m,rfl⟩:∃j,m=j+1:=⟨m - 1,by omega⟩
  have hle:tI n (k+1) as rows=(sj as&&((prs n).zip (rows:List (Bool×Pap k))).all fun x=>tI n k (as++[(x.1.1,x.1.2,x.2.1)]) x.2.2):=rfl;generalize tI n (k+1) as rows=res at hle;have heq:∀L:M,fEq (.lst (List.map (dR k) rows)) (.tup []) L=some (.bl false,L):=fun L=>Ea (k:=k) (p:=rows) (by omega);rw[yX];unfold mmE z0 Be;refine(sU rfl).mpr ?_;show Ws (rf _ _ [some (.int (n:Int)),some (.lst (List.map (dR k) rows)),some (.lst (as.map dA)),none,none] L) _;simp!;refine(xD hv (by omega)).imp ?_;rintro _ Z4 ⟨rfl,g1⟩;cases hc:sj as with
  |false=>
   simp![Xw];rw[hle,hc];exact⟨rfl,g1⟩
  |true=>
   rw[hc,Bool.true_and] at hle;simp![Xe];rw[sN (by simp)];simp![heq];have hz:ivZ (vL vq (qW (be 0) qZ)) (be 1) [some (.int (n:Int)),some (.lst (List.map (dR k) rows)),some (.lst (as.map dA)),none,none] Z4=some ((((prs n).zip rows).map (dX k),none),Z4):=by
    have e:vL vq (qW (be 0) qZ) [some (.int (n:Int)),some (.lst (List.map (dR k) rows)),some (.lst (as.map dA)),none,none] Z4=some (.lst ((prs n).map dP),Z4):=GS (show n<=100 by omega);unfold ivZ;rw[e];show some ((tW ((prs n).map dP) (List.map (dR k) rows),none),Z4)=_;rw[Ed]
   refine xL hz ?_;simp!;refine wA (fun r O Z5=>Gr L Z5/\∃(l:List ((Nat×Nat)×(Bool×Pap k))) (o3 o4:Option D),r=l.map (dX k)/\O=[some (.int (n:Int)),some (.lst (List.map (dR k) rows)),some (.lst (as.map dA)),o3,o4]/\(∀x∈l,x∈(prs n).zip rows)/\res=l.all fun x=>tI n k (as++[(x.1.1,x.1.2,x.2.1)]) x.2.2) _ ⟨g1,_,_,_,rfl,rfl,fun x h=>h,hle⟩ ?_ ?_
   ·rintro d r O Z3 ⟨g2,l,o3,o4,hl2,rfl,hm2,hres⟩;cases l with
    |nil=>cases hl2
    |cons x l=>
     rw[WT] at hl2;injection hl2 with h1 h2
     subst h1 h2;have hx:=hm2 x (by simp);have hx1:=(Ya (a:=x.1) (b:=x.2) hx).1;have hx2:=(Ya (a:=x.1) (b:=x.2) hx).2;have ok:=BM hx1;show Wp (rT 2 _ (.tup [dP x.1,dR k x.2]) _ _) _;refine(vQ rfl).mpr ?_;have i1:∀L:M,fIx (dR k x.2) (.int 1) L=some (dPp k x.2.2,L):=fun _=>rfl;have i0:∀L:M,fIx (dR k x.2) (.int 0) L=some (.bl x.2.1,L):=fun _=>rfl;simp![i1,i0];rw[sN (by simp)];simp!;unfold dP;rw[GU (by simp) (by simp)];simp!;rw[vh (by simp)];simp!;rw[wg (by simp;omega)];simp!;have ea:as.map dA++[D.tup ([.int (x.1.1:Int),.int (x.1.2:Int)]++[.bl x.2.1])]=(as++[(x.1.1,x.1.2,x.2.1)]).map dA:=by simp[dA]
     rw[ea];have hv2:Ok2 n (as++[(x.1.1,x.1.2,x.2.1)]):=by
      intro a ha;rcases Xb.mp ha with h|h
      ·exact hv a h
      ·cases Xj.mp h;exact ok
     refine(ih (as++[(x.1.1,x.1.2,x.2.1)]) x.2.2 Z3 m (by omega) (by omega) hv2 (by simp;omega) (hrs x.2 hx2)).imp ?_;rintro _ ZM ⟨rfl,g3⟩;rw[List.all_cons] at hres;cases hb:tI n k (as++[(x.1.1,x.1.2,x.2.1)]) x.2.2 with
     |false=>
      simp![Xw];rw[hres,hb];exact⟨rfl,g2.trans g3⟩
     |true=>
      simp![Xe];rw[hb,Bool.true_and] at hres;exact⟨trivial,g2.trans g3,l,_,_,rfl,rfl,fun y hy=>hm2 y (by simp[hy]),hres⟩
   ·rintro O Z3 ⟨g2,l,o3,o4,hl2,rfl,hm2,hres⟩;cases l with
    |cons x l=>cases hl2
    |nil=>
     simp!;rw[hres];exact⟨rfl,g2⟩
theorem NX{n k q:Nat}{rows:List (Bool×Pap k)}(hl:rows.length=(prs n).length)(hq:q<rows.length):((prs n)[q]'(by omega),rows[q])∈(prs n).zip rows:=by
 have h:q<((prs n).zip rows).length:=by simp;omega
 have:=Xv h;rwa[List.getElem_zip] at this
theorem Os{n:Nat}{as:List An}{x:An}(h:∀j,j<=as.length->okA n (as.take j)=true)(h2:okA n (as++[x])=true):∀j,j<=(as++[x]).length->okA n ((as++[x]).take j)=true:=by
 intro j hj;rcases Nat.lt_or_ge as.length j with z|z
 ·rw[List.take_of_length_le (by simp;omega)];exact h2
 ·rw[List.take_append_of_le_length z];exact h j z
theorem Mv{n:Nat}:∀{k:Nat} {as:List An} {p:Pap k},vN n k as p=true->okA n as=true
 |0,_,_,h=>h
 |k+1,as,(rows:List (Bool×Pap k)),h=>by
  have hle:vN n (k+1) as rows=(okA n as&&((prs n).zip rows).all fun x=>vN n k (as++[(x.1.1,x.1.2,x.2.1)]) x.2.2):=rfl;rw[hle,Xg] at h;exact h.1
theorem Rc{h K:Nat}(hn:n<=7)(hp:1<=(prs n).length)(hp2:(prs n).length<=1000)(hK:K<=20){p:Pap K}{L:M}(hs:Sh n K p)(hw:vN n K [] p=true)(hd:Hd L h):Wp (zN vM vq [.ref h,.int (n:Int),dPp K p] L) fun d Z5=>Kp h L Z5/\∃as:List An,d=.lst (as.map dA)/\as.length<=K/\Ok2 n as/\∀j,j<=as.length->okA n (as.take j)=true:=by
 unfold zN EA;refine(sU rfl).mpr ?_;show Ws (rf _ _ [some (.ref h),some (.int (n:Int)),some (dPp K p),none,none,none] L) _;have hlt:=hd.lt;simp!;rw[L4 (by simp)];simp!;refine NU (fun k O Z5=>∃(as:List An) (p:Pap k) (o4 o5:Option D),O=[some (.ref h),some (.int (n:Int)),some (dPp k p),some (.ref L.length),o4,o5]/\Kp h L Z5/\Z5[L.length]?=some (some (.lst (as.map dA)))/\as.length+k=K/\Sh n k p/\vN n k as p=true/\Ok2 n as/\∀j,j<=as.length->okA n (as.take j)=true) K 1000000 ⟨[],p,_,_,rfl,Kp.app hd,by simp,by simp,hs,hw,fun a h=>by simp at h,fun j _=>by rw[List.take_nil];exact Mv hw⟩ (by omega) ?_;rintro k O Z4 ⟨as,p,o4,o5,rfl,k1,hrow,hlen,hs1,hw1,hv,hok⟩;simp!;rw[sN (by simp)];simp![J5 (Qt (show k<=20 by omega))];cases k with
 |zero=>
  rw[if_neg (show ¬(!((0:Nat)==0))=true by decide)];refine xL (L:=Z4.set L.length none) (a:=.lst (as.map dA)) ?_ ?_
  ·rw[KH];exact KG hrow
  ·simp!;exact⟨k1.set (WJ _) hlt,as,rfl,by omega,hv,hok⟩
 |succ k=>
  rw[if_pos (show(!((k+1:Nat)==0))=true by simp)];revert p
  rintro(rows:List (Bool×Pap k)) ⟨hl,hrs⟩ hw1;have tl:∀L:M,sg (.lst (List.map (dR k) rows)) L=some (.int (rows.length:Int),L):=fun L=>by
   show some (D.int ((List.map (dR k) rows).length:Int),L)=_;rw[WQ]
  obtain⟨t,Z3,e2,d2,t0,t1⟩:=B9 (m:=(rows.length:Int)) k1.hd (by omega) (by omega);rw[yX];simp![tl,e2];obtain⟨q,rfl⟩:∃q:Nat,t=(q:Int):=⟨t.toNat,by omega⟩
  have hq:q<rows.length:=by omega
  have ex:∀L:M,fIx (.lst (List.map (dR k) rows)) (.int (q:Int)) L=some (dR k rows[q],L):=fun _=>Ev (by rw[WY,WP hq];rfl);have hx:=hrs _ (Xv hq);have hz:=NX hl hq;have ep:∀L:M,fIx (.lst ((prs n).map dP)) (.int (q:Int)) L=some (dP ((prs n)[q]'(by omega)),L):=fun _=>Ev (by rw[WY,WP (by omega)];rfl);have ok:=BM (Xv (show q<(prs n).length by omega));have hle:vN n (k+1) as rows=(okA n as&&((prs n).zip rows).all fun x=>vN n k (as++[(x.1.1,x.1.2,x.2.1)]) x.2.2):=rfl;rw[hle,Xg,Xk] at hw1;have hw2:=hw1.2 _ hz;generalize rows[q]=x at ex hx hw2;generalize (prs n)[q]'(by omega)=y at ep hw2 ok;simp![ex];show Wp (rT 2 _ (.tup [.bl x.1,dPp k x.2]) _ _) _;refine(vQ rfl).mpr ?_;have k2:=k1.trans (Kp.dn k1.hd d2);have hrow2:Z3[L.length]?=some (some (.lst (as.map dA))):=by rw[d2.ne (by omega)];exact hrow
  simp!;rw[LU hrow2];simp![GS (show n<=100 by omega),ep];rw[sN (by simp)];simp!;unfold dP;rw[GU (by simp) (by simp)];simp!;rw[Hs hrow2 (by simp;omega)];simp!;refine⟨k,by omega,as++[(y.1,y.2,x.1)],x.2,_,_,rfl,k2.set (WJ _) hlt,?_,by simp;omega,hx,hw2,?_,Os hok (Mv hw2)⟩
  ·rw[tT hrow2,XI];rfl
  ·intro a ha;rcases Xb.mp ha with h|h
   ·exact hv a h
   ·cases Xj.mp h;exact ok
end
def Hh:C0:=zN vM vq
def DS(CS C CF CT:Addr):C0:=Bg yZ vM (A5 CS C CF CT) (mmC 10) (Bz C CF CT) Hh (dn (vm C)) (dn (xr C CF CT)) (mmT 10) (mmE C CF CT 10)
def Ok2.take{n:Nat}{as:List An}(h:Ok2 n as)(j:Nat):Ok2 n (as.take j):=fun a ha=>h a (List.mem_of_mem_take ha)
section
variable {CS C CF CT:Addr}
theorem Q2:∀n<5,(prs n).length<=1000:=by decide +kernel
theorem O0:∀n<5,2<=n->1<=(prs n).length:=by decide +kernel
theorem Uz(ns:List Int)(_:ns.length<=63):∃Z5,DS CS C CF CT [.scr (ns.map D.int)] []=some (.bl true,Z5):=by
 suffices h:Wp (DS CS C CF CT [.scr (ns.map D.int)] []) fun d _=>d=.bl true by
  obtain⟨d,Z5,e,rfl⟩:=h;exact⟨Z5,e⟩
 have hp:x9 (.int 10) (.int 18) []=some (.int (10^18),[]):=by
  have h1:v6 10 18:=by unfold v6;decide
  simp[h1]
 have hsl:fSl (.scr (ns.map D.int)) none (some 8) []=some (.lst ((ns.take 8).map D.int),[]):=by
  show some (D.lst (t5 (ns.map D.int) none (some 8)),([]:M))=_;unfold t5;rw[HT.sIx_none,show(some (8:Int))=some ((8:Nat):Int) from rfl,HT.sIx_nat,List.drop_zero,Nat.sub_zero,WQ,←List.map_take,List.take_eq_take_min (i:=8)]
 unfold DS Bg DV;refine(sU rfl).mpr ?_;show Ws (rf _ _ [some (.scr (ns.map D.int)),none,none,none,none,none,none,none,none,none] []) _;simp![hp];rw[vh (by simp)];simp![hsl];rw[wg (by simp;omega)];simp!;refine wA (fun r O _=>∃(l:List Int) (o1 o2 o3 o4 o5 o6 o7 o8 o9:Option D),r=l.map D.int/\O=[some (.scr (ns.map D.int)),o1,o2,o3,o4,o5,o6,o7,o8,o9]) _ ⟨(10^18:Int)::ns.take 8,_,_,_,_,_,_,_,_,_,rfl,rfl⟩ ?_ ?_
 ·rintro d r O L ⟨l,o1,o2,o3,o4,o5,o6,o7,o8,o9,hr,rfl⟩;cases l with
  |nil=>cases hr
  |cons c l=>
   rw[WT] at hr;injection hr with h3 h4
   subst h3 h4;simp!;obtain⟨a,b,eh⟩:=Tq c L;refine xL eh ?_;have d1:Hd (L++[some (.lst [.int a,.int b])]) L.length:=Tz;generalize L++[some (Z8.lst [.int a,.int b])]=Z4 at d1;generalize L.length=h at d1;obtain⟨t,Z3,e2,dn2,t0,t1⟩:=B9 (m:=2) d1 (by decide) (by decide);have d2:=Dn.hd d1 dn2;simp![e2];obtain⟨k,hn,hk⟩:∃k:Nat,3+t=((k+1:Nat):Int)/\(k=2\/k=3):=⟨(2+t).toNat,by omega,by omega⟩
   rw[hn];obtain⟨p,g⟩:∃p,Cg k p:=by
    rcases hk with rfl|rfl
    ·exact Lx Rq
    ·exact Lx OX
   have hs:=Mj k [] p g.is;have hk3:k<=3:=by omega
   have hp1:1<=(prs (k+1)).length:=O0 (k+1) (by omega) (by omega);have hp2:(prs (k+1)).length<=1000:=Q2 (k+1) (by omega);refine(VI hk g).imp ?_;rintro _ ZM ⟨rfl,g3⟩;have d3:=Ex d2 g3;simp!;rw[Dq (by omega)];simp!;refine EJ (fun _ O Z5=>∃(o5:Option D),O=[some (.scr (ns.map D.int)),some (.int c),some (.ref h),some (.int ((k+1:Nat):Int)),some (dPp k p),o5,o6,o7,o8,o9]/\Hd Z5 h) ⟨_,rfl,d3⟩ ?_ ?_
   ·rintro q O Zw hq ⟨o5,rfl,d4⟩;simp![ED hp2 k q p Zw 10 (by omega) (by omega) hs];refine(Jb (n:=k+1) (by omega) (by omega) hp2 (by omega) (Cn k q p (by omega) hs)).imp ?_;rintro _ Y6 ⟨rfl,g5⟩;have eb:∀L:M,zm (.bl true) (.bl true) L=some (.bl false,L):=fun _=>rfl;rw[g.cut q (by omega)];simp![eb];exact⟨_,rfl,Ex d4 g5⟩
   ·rintro O Zw ⟨o5,rfl,d4⟩;simp!;refine(Rc (by omega) hp1 hp2 (by omega) hs g.way d4).imp ?_;rintro _ Y6 ⟨k5,as,rfl,hal,hv,hok⟩;have d5:=k5.hd;simp![Rf,WQ];have el:(as.length:Int)+1=((as.length+1:Nat):Int):=by omega
    rw[el,Dq (by omega)];simp!;refine EJ (fun _ O Z5=>∃(o7:Option D),O=[some (.scr (ns.map D.int)),some (.int c),some (.ref h),some (.int ((k+1:Nat):Int)),some (dPp k p),o5,some (.lst (as.map dA)),o7,o8,o9]/\Hd Z5 h) ⟨_,rfl,d5⟩ ?_ ?_
    ·rintro j O Zi hj ⟨o7,rfl,d6⟩;have ok:=hok j (by omega);unfold okA at ok;rw[Xg] at ok;have hc:t5 (as.map dA) none (some (j:Int))=(as.take j).map dA:=by rw[Jy (by rw[WQ];omega),List.map_take]
     have hl:(as.take j).length<=1000:=by rw[X4];omega
     simp![ye,hc];refine(xD (hv.take j) hl).imp ?_;rintro _ Y5 ⟨rfl,g7⟩;rw[ok.1];simp![Xe,ye,hc];have hf:sm (k+1) (as.take j)≠[]:=fun z=>by
      have:=(Ao (n:=k+1) (as:=as.take j) ((hv.take j).inN)).mp z;rw[ok.1] at this;cases this
     refine(BA (hv.take j) hl (by omega) hf).imp ?_;rintro _ Zb ⟨rfl,g8⟩;simp!;rw[sN (by simp)];simp![J5 Kf,ok.2,Xe];exact⟨_,rfl,Ex d6 (g7.trans g8)⟩
    ·rintro O Zi ⟨o7,rfl,d6⟩;have e2:(2:Int)=((2:Nat):Int):=rfl;simp!;rw[e2,ED hp2 k 2 p Zi 10 (by omega) (by omega) hs];simp!;have hs2:=Cn k 2 p (by omega) hs;refine(T3 hp1 hp2 2 _ Zi 10 (by omega) (by omega) (by omega) hs2 d6).imp ?_;rintro _ Y5 ⟨k7,p',hs',rfl⟩;simp!;refine(Jb (n:=k+1) (k:=2) (by omega) (by omega) hp2 (by omega) hs').imp ?_;rintro _ Zb ⟨rfl,g8⟩;simp!;rw[vh (by simp)];simp!;refine(SA (n:=k+1) (by omega) hp2 2 [] p' Zb 10 (by omega) (by omega) (fun a h=>by simp at h) (by simp) hs').imp ?_;rintro _ Y2 ⟨rfl,g9⟩;have en:∀(b:Bool) (L:M),fNe (.bl b) (.bl b) L=some (.bl false,L):=fun b L=>by cases b<;>rfl
     simp![en];exact⟨trivial,l,_,_,_,_,_,_,_,_,_,rfl,rfl⟩
 ·rintro O L ⟨l,o1,o2,o3,o4,o5,o6,o7,o8,o9,hr,rfl⟩;simp!
end
@[elab_as_elim] theorem u3{J:Type}{P:List J->Prop}(us:List J)(h:us.length=1)(k:∀a,P [a]):P us:=match us,h with| [a],_=>k a
@[elab_as_elim] theorem uA{J:Type}{P:List J->Prop}(us:List J)(h:us.length=2)(k:∀a b,P [a,b]):P us:=match us,h with| [a,b],_=>k a b
@[elab_as_elim] theorem wt{J:Type}{P:List J->Prop}(us:List J)(h:us.length=3)(k:∀a b c,P [a,b,c]):P us:=match us,h with| [a,b,c],_=>k a b c
@[elab_as_elim] theorem FW{J:Type}{P:List J->Prop}(us:List J)(h:us.length=4)(k:∀a b c d,P [a,b,c,d]):P us:=match us,h with| [a,b,c,d],_=>k a b c d
theorem all_mk{l:PySem.W.OpenLaw}{w:World}{K:Frag}{h:Heap}{mg:Str->Option Value}{fa f1 f2 f3 f4 f5 f6 f7 f8 f9 dw cO cu cw cK dy cv ck cm cj cn eA dC cU cx cR eB cA di dq cD cF cI cT dF dr cV cQ cP aa ad af ae:Addr}(X:K.In h)(G:h.Ns mainGlobals mg)(oQ:mg "law"=some (.ref fa))
  {qq pk pZ pU nN qP m8 qG oJ pT nH nn pW mo oS on qk oX jW lZ kr jV lO gP jP jA kg kR gA gI h7 gD jc jY iy lz iD gC iC gK kB kd jH iS jg jS j8 iO jN iA jU gS jk ll kJ gx i6 ik i7 iX iH iz iB gq jb ke lV iY ly jl kN hX lq j9 kq cJ:Option Addr} {pM sl2 nJ qN oY my mJ mX mz jo jF jq gH iP gN gp gQ gO j6 j2 h9 iJ j3 kn ki kZ iF iV lf ip iI lM kY hV kW jE ku j0:Array (Option Value)} {oq kV1 pf oN eJ qd nI kV2 pO mF fr oP nl p0 qe pi fK oA nc qK qx nW fx p8 m7 qj qJ mi fB qf pR mq pj nu gb qp mf pF oR o0 fV m5 mS nK nL oC eN oH ni qO oI oi eV pK lw lY js jR dh gU ju kj gR ld cY jd iE lI kC jK dH jX jm i8 jB gJ eg iM lJ jf kz jn dg kA ja ln gB kt d9 gF lm kf iK lX dQ lE kU gE lK lD dZ ia lH j1 lR gX cH gW iQ iG ii gM cW iw gu lW iq kh df gG i9 iU ic gZ dY je io kK lr h8 dU lc ij jG kX hW dJ kP me lA im jp db lQ lh lN gw gn dc jO j7 jZ jz kF cz jC gL md jM jI dM ie lL j4 lB jQ cC j5 km iW lU lC d8 li lF lj hJ iN dD jT kH jL jy jJ cX kl i5 lS ig lP cN hU jw kM ko i4 dl lb iu ka lG kc dW ib jD gY kQ ir cB jx jt lg il jh cy jv lT kO gy gz d7 kE ji dz dk du bX cG:Value}
  (a1:nsIn K mainGlobals "check_things"=some (some (.ref f1)))
  (l1:K.lookup f1=some ⟨oq,qq,.func (fnOf "check_things" "check_things" (rQ (top 16)) (rN (top 16)) (rh (top 16)) .none kV1 pf oN pk eJ qd),pM⟩) (c1:codeIn K eJ "check_things"=true) (k1:keepIn K (.ref f1)=true)
  (a2:nsIn K mainGlobals "moved"=some (some (.ref f2)))
  (l2:K.lookup f2=some ⟨nI,pZ,.func (fnOf "moved" "moved" (rQ (top 17)) (rN (top 17)) (rh (top 17)) .none kV2 pO mF pU fr oP),sl2⟩) (c2:codeIn K fr "moved"=true) (k2:keepIn K (.ref f2)=true)
  (a3:nsIn K mainGlobals "homes_of"=some (some (.ref f3)))
  (l3:K.lookup f3=some ⟨nl,nN,.func (fnOf "homes_of" "homes_of" (rQ (top 18)) (rN (top 18)) (rh (top 18)) .none p0 qe pi qP fK oA),nJ⟩) (c3:codeIn K fK "homes_of"=true) (k3:keepIn K (.ref f3)=true)
  (a4:nsIn K mainGlobals "can_be"=some (some (.ref f4)))
  (l4:K.lookup f4=some ⟨nc,m8,.func (fnOf "can_be" "can_be" (rQ (top 19)) (rN (top 19)) (rh (top 19)) .none qK qx nW qG fx p8),qN⟩) (c4:codeIn K fx "can_be"=true) (k4:keepIn K (.ref f4)=true)
  (a5:nsIn K mainGlobals "check_right"=some (some (.ref f5)))
  (l5:K.lookup f5=some ⟨m7,oJ,.func (fnOf "check_right" "check_right" (rQ (top 20)) (rN (top 20)) (rh (top 20)) .none qj qJ mi pT fB qf),oY⟩) (c5:codeIn K fB "check_right"=true) (k5:keepIn K (.ref f5)=true)
  (a6:nsIn K mainGlobals "fits"=some (some (.ref f6)))
  (l6:K.lookup f6=some ⟨pR,nH,.func (fnOf "fits" "fits" (rQ (top 21)) (rN (top 21)) (rh (top 21)) .none mq pj nu nn gb qp),my⟩) (c6:codeIn K gb "fits"=true) (k6:keepIn K (.ref f6)=true)
  (a7:nsIn K mainGlobals "one_thing_more"=some (some (.ref f7)))
  (l7:K.lookup f7=some ⟨mf,pW,.func (fnOf "one_thing_more" "one_thing_more" (rQ (top 9)) (rN (top 9)) (rh (top 9)) .none pF oR o0 mo fV m5),mJ⟩) (c7:codeIn K fV "one_thing_more"=true) (k7:keepIn K (.ref f7)=true)
  (a8:nsIn K mainGlobals "all_sorts"=some (some (.ref f8)))
  (l8:K.lookup f8=some ⟨mS,oS,.func (fnOf "all_sorts" "all_sorts" (rQ (top 10)) (rN (top 10)) (rh (top 10)) .none nK nL oC on eN oH),mX⟩) (c8:codeIn K eN "all_sorts"=true) (k8:keepIn K (.ref f8)=true)
  (a9:nsIn K mainGlobals "sorts_that_fit"=some (some (.ref f9)))
  (l9:K.lookup f9=some ⟨ni,qk,.func (fnOf "sorts_that_fit" "sorts_that_fit" (rQ (top 22)) (rN (top 22)) (rh (top 22)) .none qO oI oi oX eV pK),mz⟩) (c9:codeIn K eV "sorts_that_fit"=true) (k9:keepIn K (.ref f9)=true)
  (qB:nsIn K mainGlobals "alike_things"=some (some (.ref dw)))
  (ph:K.lookup dw=some ⟨lw,jW,.func (fnOf "alike_things" "alike_things" (rQ (top 7)) (rN (top 7)) (rh (top 7)) .none lY js jR lZ dh gU),jo⟩) (pJ:codeIn K dh "alike_things"=true) (eZ:keepIn K (.ref dw)=true)
  (qw:nsIn K mainGlobals "more_than_half"=some (some (.ref cO)))
  (pY:K.lookup cO=some ⟨ju,kr,.func (fnOf "more_than_half" "more_than_half" (rQ (top 8)) (rN (top 8)) (rh (top 8)) .none kj gR ld jV cY jd),jF⟩) (pG:codeIn K cY "more_than_half"=true) (eK:keepIn K (.ref cO)=true)
  (mT:nsIn K mainGlobals "half_ends"=some (some (.ref cu)))
  (qH:K.lookup cu=some ⟨iE,lO,.func (fnOf "half_ends" "half_ends" (rQ (top 13)) (rN (top 13)) (rh (top 13)) .none lI kC jK gP dH jX),jq⟩) (nh:codeIn K dH "half_ends"=true) (fW:keepIn K (.ref cu)=true)
  (mB:nsIn K mainGlobals "common_end"=some (some (.ref cw)))
  (n0:K.lookup cw=some ⟨jm,jP,.func (fnOf "common_end" "common_end" (rQ (top 14)) (rN (top 14)) (rh (top 14)) .none i8 jB gJ jA eg iM),gH⟩) (mK:codeIn K eg "common_end"=true) (fP:keepIn K (.ref cw)=true)
  (nt:nsIn K mainGlobals "tells"=some (some (.ref cK)))
  (ou:K.lookup cK=some ⟨lJ,kg,.func (fnOf "tells" "tells" (rQ (top 23)) (rN (top 23)) (rh (top 23)) .none jf kz jn kR dg kA),iP⟩) (pw:codeIn K dg "tells"=true) (fL:keepIn K (.ref cK)=true)
  (m3:nsIn K mainGlobals "pairs_of"=some (some (.ref dy)))
  (mR:K.lookup dy=some ⟨ja,gA,.func (fnOf "pairs_of" "pairs_of" (rQ (top 25)) (rN (top 25)) (rh (top 25)) .none ln gB kt gI d9 gF),gN⟩) (mW:codeIn K d9 "pairs_of"=true) (fj:keepIn K (.ref dy)=true)
  (nP:nsIn K mainGlobals "check_many"=some (some (.ref cv)))
  (mn:K.lookup cv=some ⟨lm,h7,.func (fnOf "check_many" "check_many" (rQ (top 27)) (rN (top 27)) (rh (top 27)) .none kf iK lX gD dQ lE),gp⟩) (nr:codeIn K dQ "check_many"=true) (fA:keepIn K (.ref cv)=true)
  (nk:findIn K (.ref aa) "__init__"=some (some (.ref ck))) (ow:isFn K (.ref ck)=true)
  (pD:K.lookup ck=some ⟨kU,jc,.func (fnOf "__init__" "Search.__init__" (rQ (sQ (top 29) 0)) (rN (sQ (top 29) 0)) (rh (sQ (top 29) 0)) .none gE lK lD jY dZ ia),gQ⟩) (nT:codeIn K dZ "Search.__init__"=true) (p9:keepIn K (.ref ck)=true)
  (oK:findIn K (.ref aa) "tree_asking"=some (some (.ref cm))) (pc:isFn K (.ref cm)=true)
  (ny:K.lookup cm=some ⟨lH,iy,.func (fnOf "tree_asking" "Search.tree_asking" (rQ (sQ (top 29) 3)) (rN (sQ (top 29) 3)) (rh (sQ (top 29) 3)) .none j1 lR gX lz cH gW),gO⟩) (mj:codeIn K cH "Search.tree_asking"=true) (eO:keepIn K (.ref cm)=true)
  (oU:findIn K (.ref aa) "new_tree"=some (some (.ref cj))) (mI:isFn K (.ref cj)=true)
  (mU:K.lookup cj=some ⟨iQ,iD,.func (fnOf "new_tree" "Search.new_tree" (rQ (sQ (top 29) 2)) (rN (sQ (top 29) 2)) (rh (sQ (top 29) 2)) .none iG ii gM gC cW iw),j6⟩) (mP:codeIn K cW "Search.new_tree"=true) (fX:keepIn K (.ref cj)=true)
  (fb:findIn K (.ref aa) "tree_within"=some (some (.ref cn))) (gc:isFn K (.ref cn)=true)
  (nO:K.lookup cn=some ⟨gu,iC,.func (fnOf "tree_within" "Search.tree_within" (rQ (sQ (top 29) 1)) (rN (sQ (top 29) 1)) (rh (sQ (top 29) 1)) .none lW iq kh gK df gG),j2⟩) (m4:codeIn K df "Search.tree_within"=true) (dG:keepIn K (.ref cn)=true)
  (qt:nsIn K mainGlobals "fewest_asks"=some (some (.ref eA)))
  (qS:K.lookup eA=some ⟨i9,kB,.func (fnOf "fewest_asks" "fewest_asks" (rQ (top 30)) (rN (top 30)) (rh (top 30)) .none iU ic gZ kd dY je),h9⟩) (qg:codeIn K dY "fewest_asks"=true) (gh:keepIn K (.ref eA)=true)
  (nM:nsIn K mainGlobals "fewest_of"=some (some (.ref dC)))
  (qR:K.lookup dC=some ⟨io,jH,.func (fnOf "fewest_of" "fewest_of" (rQ (top 33)) (rN (top 33)) (rh (top 33)) .none kK lr h8 iS dU lc),iJ⟩) (nE:codeIn K dU "fewest_of"=true) (fw:keepIn K (.ref dC)=true)
  (nA:nsIn K mainGlobals "fewest"=some (some (.ref cU)))
  (pL:K.lookup cU=some ⟨ij,jg,.func (fnOf "fewest" "fewest" (rQ (top 34)) (rN (top 34)) (rh (top 34)) .none jG kX hW jS dJ kP),j3⟩) (nj:codeIn K dJ "fewest"=true) (fM:keepIn K (.ref cU)=true)
  (qh:nsIn K mainGlobals "is_row"=some (some (.ref cx)))
  (qF:K.lookup cx=some ⟨me,j8,.func (fnOf "is_row" "is_row" (rQ (top 38)) (rN (top 38)) (rh (top 38)) .none lA im jp iO db lQ),kn⟩) (nF:codeIn K db "is_row"=true) (fG:keepIn K (.ref cx)=true)
  (mZ:nsIn K mainGlobals "is_paper_of"=some (some (.ref cR)))
  (mh:K.lookup cR=some ⟨lh,jN,.func (fnOf "is_paper_of" "is_paper_of" (rQ (top 39)) (rN (top 39)) (rh (top 39)) .none lN gw gn iA dc jO),ki⟩) (nD:codeIn K dc "is_paper_of"=true) (fm:keepIn K (.ref cR)=true)
  (mM:nsIn K mainGlobals "is_let_by"=some (some (.ref eB)))
  (pC:K.lookup eB=some ⟨j7,jU,.func (fnOf "is_let_by" "is_let_by" (rQ (top 40)) (rN (top 40)) (rh (top 40)) .none jZ jz kF gS cz jC),kZ⟩) (oa:codeIn K cz "is_let_by"=true) (cS:keepIn K (.ref eB)=true)
  (oj:nsIn K mainGlobals "holds"=some (some (.ref cA)))
  (nv:K.lookup cA=some ⟨gL,jk,.func (fnOf "holds" "holds" (rQ (top 41)) (rN (top 41)) (rh (top 41)) .none md jM jI ll dM ie),iF⟩) (p6:codeIn K dM "holds"=true) (fq:keepIn K (.ref cA)=true)
  (mV:nsIn K mainGlobals "row_behind"=some (some (.ref di)))
  (nQ:K.lookup di=some ⟨lL,kJ,.func (fnOf "row_behind" "row_behind" (rQ (top 42)) (rN (top 42)) (rh (top 42)) .none j4 lB jQ gx cC j5),iV⟩) (mw:codeIn K cC "row_behind"=true) (fN:keepIn K (.ref di)=true)
  (oo:nsIn K mainGlobals "paper_behind"=some (some (.ref dq)))
  (nU:K.lookup dq=some ⟨km,i6,.func (fnOf "paper_behind" "paper_behind" (rQ (top 43)) (rN (top 43)) (rh (top 43)) .none iW lU lC ik d8 li),lf⟩) (pX:codeIn K d8 "paper_behind"=true) (dt:keepIn K (.ref dq)=true)
  (oG:nsIn K mainGlobals "holding_paper"=some (some (.ref cD)))
  (mY:K.lookup cD=some ⟨lF,i7,.func (fnOf "holding_paper" "holding_paper" (rQ (top 44)) (rN (top 44)) (rh (top 44)) .none lj hJ iN iX dD jT),ip⟩) (mD:codeIn K dD "holding_paper"=true) (ff:keepIn K (.ref cD)=true)
  (qb:nsIn K mainGlobals "_law_hand"=some (some (.ref cF)))
  (qo:K.lookup cF=some ⟨kH,iH,.func (fnOf "_law_hand" "_law_hand" (rQ (top 46)) (rN (top 46)) (rh (top 46)) .none jL jy jJ iz cX kl),iI⟩) (qy:codeIn K cX "_law_hand"=true) (gm:keepIn K (.ref cF)=true)
  (nV:nsIn K mainGlobals "_law_take"=some (some (.ref cI)))
  (pH:K.lookup cI=some ⟨i5,iB,.func (fnOf "_law_take" "_law_take" (rQ (top 47)) (rN (top 47)) (rh (top 47)) .none lS ig lP gq cN hU),lM⟩) (mO:codeIn K cN "_law_take"=true) (eX:keepIn K (.ref cI)=true)
  (mL:nsIn K mainGlobals "_law_pairs"=some (some (.ref cT)))
  (nw:K.lookup cT=some ⟨jw,jb,.func (fnOf "_law_pairs" "_law_pairs" (rQ (top 48)) (rN (top 48)) (rh (top 48)) .none kM ko i4 ke dl lb),kY⟩) (oZ:codeIn K dl "_law_pairs"=true) (eM:keepIn K (.ref cT)=true)
  (oB:nsIn K mainGlobals "_law_cut"=some (some (.ref dF)))
  (nZ:K.lookup dF=some ⟨iu,lV,.func (fnOf "_law_cut" "_law_cut" (rQ (top 49)) (rN (top 49)) (rh (top 49)) .none ka lG kc iY dW ib),hV⟩) (pN:codeIn K dW "_law_cut"=true) (dB:keepIn K (.ref dF)=true)
  (qD:nsIn K mainGlobals "_law_ends_open"=some (some (.ref dr)))
  (og:K.lookup dr=some ⟨jD,ly,.func (fnOf "_law_ends_open" "_law_ends_open" (rQ (top 50)) (rN (top 50)) (rh (top 50)) .none gY kQ ir jl cB jx),kW⟩) (mC:codeIn K cB "_law_ends_open"=true) (dL:keepIn K (.ref dr)=true)
  (qC:nsIn K mainGlobals "_law_way"=some (some (.ref cV)))
  (qa:K.lookup cV=some ⟨jt,kN,.func (fnOf "_law_way" "_law_way" (rQ (top 51)) (rN (top 51)) (rh (top 51)) .none lg il jh hX cy jv),jE⟩) (qv:codeIn K cy "_law_way"=true) (fc:keepIn K (.ref cV)=true)
  (mv:nsIn K mainGlobals "_law_turned"=some (some (.ref cQ)))
  (oF:K.lookup cQ=some ⟨lT,lq,.func (fnOf "_law_turned" "_law_turned" (rQ (top 52)) (rN (top 52)) (rh (top 52)) .none kO gy gz j9 d7 kE),ku⟩) (nS:codeIn K d7 "_law_turned"=true) (da:keepIn K (.ref cQ)=true)
  (qm:nsIn K mainGlobals "law"=some (some (.ref cP)))
  (oz:K.lookup cP=some ⟨ji,kq,.func (fnOf "law" "law" (rQ (top 53)) (rN (top 53)) (rh (top 53)) .none dz dk du cJ bX cG),j0⟩) (ot:codeIn K bX "law"=true) (px:keepIn K (.ref cP)=true)
  {dj:Tok} (aC:nsIn K mainGlobals "MOST_THINGS"=some (some (.int 7 dj)))
  {ag:Addr} {aw:Obj} {gk:Tok} {bI:Nat} (aI:nsIn K mainGlobals "OPEN"=some (some (.ref ag))) (aE:K.lookup ag=some aw) (aF:aw.cls=.type "tuple") (aH:aw.data=.seq #[.str "open" gk] bI)
  {cr:Tok} (au:nsIn K mainGlobals "MOST_SEARCHED"=some (some (.int 5 cr)))
  {dv:Tok} (ap:nsIn K mainGlobals "GREATEST_THINGS"=some (some (.int 4 dv)))
  {cM:Tok} (az:nsIn K mainGlobals "LEAST_THINGS"=some (some (.int 2 cM)))
  (eD:nsIn K mainGlobals "all"=some none)
  (eE:nsIn K mainGlobals "max"=some none)
  (eF:nsIn K mainGlobals "min"=some none)
  (cq:nsIn K mainGlobals "range"=some none)
  (aJ:nsIn K mainGlobals "enumerate"=some none)
  (cZ:nsIn K mainGlobals "list"=some none)
  (eC:nsIn K mainGlobals "len"=some none)
  (cp:nsIn K mainGlobals "tuple"=some none)
  (aD:nsIn K mainGlobals "isinstance"=some none)
  (de:nsIn K mainGlobals "bool"=some none)
  (eI:nsIn K mainGlobals "zip"=some none)
  (eG:nsIn K mainGlobals "int"=some none)
  (am:nsIn K mainGlobals "Search"=some (some (.ref aa)))
  (ah:nsIn K mainGlobals "NoThing"=some (some (.ref ad)))
  (aq:nsIn K mainGlobals "NoFit"=some (some (.ref af)))
  (ai:nsIn K mainGlobals "TooMany"=some (some (.ref ae)))
  (bL:PySem.W.plainGet K aa Str.empty=true) (bH:PySem.W.hasDictIn K aa=true) (bK:PySem.W.plainOver K aa=true) (bJ:findIn K (.ref aa) "__setattr__"=some (some (.builtin "object.__setattr__"))) (bN:PySem.W.makesIn K aa=true) (bM:keepIn K (.ref aa)=true)
  (ax:findIn K (.ref aa) "pairs"=some none)
  (ay:findIn K (.ref aa) "sorts"=some none)
  (aA:findIn K (.ref aa) "ends"=some none)
  (ao:findIn K (.ref aa) "searched"=some none)
  {cb bT aB bQ aG bO bV b0 bZ ci bU cf ca bY cg bW:_} (bS:K.lookup af=some (excClassObj cb bT af aB bQ aG bO bV b0 bZ ci bU cf ca bY cg bW "ValueError.__new__")) (bP:PySem.W.tailIn K zp aG=true) (bR:PySem.W.nsOkIn K aB=true) (ce:nsIn K aB "__init__"=some none)
  {aV bi aj bF av bu bw aR aT bn aM aN bf aO bd bD:_} (aX:K.lookup ad=some (excClassObj aV bi ad aj bF av bu bw aR aT bn aM aN bf aO bd bD "ValueError.__new__")) (aW:PySem.W.tailIn K zp av=true) (aQ:PySem.W.nsOkIn K aj=true) (aZ:nsIn K aj "__init__"=some none)
  {aU bE ak br ar bz bG aY aP bB bt bp aL bA bC aK:_} (bj:K.lookup ae=some (excClassObj aU bE ae ak br ar bz bG aY aP bB bt bp aL bA bC aK "ValueError.__new__")) (bh:PySem.W.tailIn K zp ar=true) (bg:PySem.W.nsOkIn K ak=true) (aS:nsIn K ak "__init__"=some none):
  ∃fd:FuncData,(∀(s:Shared) (v:Value),BindsTo s fd ⟨[v],[]⟩ [("script",v)])/\∀base:Heap,K.In base->base.Ns mainGlobals mg->FnOk l.prog w K mg base CX0 37 fa fd ["script"] (B8 K):=by
 have e:=oQ.symm.trans (mg_of X G qm);cases e;have F1:=rW (st:=(top 16)) l1 c1 k1;have b1:=F1.binds (ps:=["many","answers"]) fun _ _ _ _ _ _ us hl=>uA us hl fun _ _=>rfl;have g1:=mg_of X G a1;have F2:=rW (st:=(top 17)) l2 c2 k2;have b2:=F2.binds (ps:=["homes","old","new"]) fun _ _ _ _ _ _ us hl=>wt us hl fun _ _ _=>rfl;have g2:=mg_of X G a2;have F3:=rW (st:=(top 18)) l3 c3 k3;have b3:=F3.binds (ps:=["answers"]) fun _ _ _ _ _ _ us hl=>u3 us hl fun _=>rfl;have g3:=mg_of X G a3;have F4:=rW (st:=(top 19)) l4 c4 k4;have b4:=F4.binds (ps:=["many","answers"]) fun _ _ _ _ _ _ us hl=>uA us hl fun _ _=>rfl;have g4:=mg_of X G a4;have F5:=rW (st:=(top 20)) l5 c5 k5;have b5:=F5.binds (ps:=["many","answers"]) fun _ _ _ _ _ _ us hl=>uA us hl fun _ _=>rfl;have g5:=mg_of X G a5;have F6:=rW (st:=(top 21)) l6 c6 k6;have b6:=F6.binds (ps:=["kinds","answers"]) fun _ _ _ _ _ _ us hl=>uA us hl fun _ _=>rfl;have g6:=mg_of X G a6;have F7:=rW (st:=(top 9)) l7 c7 k7;have b7:=F7.binds (ps:=["sort","most"]) fun _ _ _ _ _ _ us hl=>uA us hl fun _ _=>rfl;have g7:=mg_of X G a7;have F8:=rW (st:=(top 10)) l8 c8 k8;have b8:=F8.binds (ps:=["many","most"]) fun _ _ _ _ _ _ us hl=>uA us hl fun _ _=>rfl;have g8:=mg_of X G a8;have F9:=rW (st:=(top 22)) l9 c9 k9;have b9:=F9.binds (ps:=["many","answers"]) fun _ _ _ _ _ _ us hl=>uA us hl fun _ _=>rfl;have g9:=mg_of X G a9;have eQ:=rW (st:=(top 7)) ph pJ eZ;have ql:=eQ.binds (ps:=["kinds"]) fun _ _ _ _ _ _ us hl=>u3 us hl fun _=>rfl;have pA:=mg_of X G qB;have eR:=rW (st:=(top 8)) pY pG eK;have pI:=eR.binds (ps:=["kinds"]) fun _ _ _ _ _ _ us hl=>u3 us hl fun _=>rfl;have oV:=mg_of X G qw;have fo:=rW (st:=(top 13)) qH nh fW;have oE:=fo.binds (ps:=["kinds"]) fun _ _ _ _ _ _ us hl=>u3 us hl fun _=>rfl;have mG:=mg_of X G mT;have fO:=rW (st:=(top 14)) n0 mK fP;have pz:=fO.binds (ps:=["ends"]) fun _ _ _ _ _ _ us hl=>u3 us hl fun _=>rfl;have m9:=mg_of X G mB;have fZ:=rW (st:=(top 23)) ou pw fL;have qM:=fZ.binds (ps:=["many","answers"]) fun _ _ _ _ _ _ us hl=>uA us hl fun _ _=>rfl;have ms:=mg_of X G nt;have eT:=rW (st:=(top 25)) mR mW fj;have p5:=eT.binds (ps:=["many"]) fun _ _ _ _ _ _ us hl=>u3 us hl fun _=>rfl;have qu:=mg_of X G m3;have fC:=rW (st:=(top 27)) mn nr fA;have mQ:=fC.binds (ps:=["many","least","greatest"]) fun _ _ _ _ _ _ us hl=>wt us hl fun _ _ _=>rfl;have pB:=mg_of X G nP;have ge:=rW (st:=(sQ (top 29) 0)) pD nT p9;have nB:=ge.binds (ps:=["self","many","sorts","ends"]) fun _ _ _ _ _ _ us hl=>FW us hl fun _ _ _ _=>rfl;have fH:=rW (st:=(sQ (top 29) 3)) ny mj eO;have oW:=fH.binds (ps:=["self","i","j","left","asks"]) fun _ _ _ _ _ _ us hl=>match us,hl with| [_,_,_,_,_],_=>rfl
 have fg:=rW (st:=(sQ (top 29) 2)) mU mP fX;have om:=fg.binds (ps:=["self","left","asks"]) fun _ _ _ _ _ _ us hl=>wt us hl fun _ _ _=>rfl;have eW:=rW (st:=(sQ (top 29) 1)) nO m4 dG;have fT:=eW.binds (ps:=["self","left","asks"]) fun _ _ _ _ _ _ us hl=>wt us hl fun _ _ _=>rfl;have eP:=rW (st:=(top 30)) qS qg gh;have oO:=eP.binds (ps:=["many","sorts","ends"]) fun _ _ _ _ _ _ us hl=>wt us hl fun _ _ _=>rfl;have mE:=mg_of X G qt;have ft:=rW (st:=(top 33)) qR nE fw;have qr:=ft.binds (ps:=["many","most"]) fun _ _ _ _ _ _ us hl=>uA us hl fun _ _=>rfl;have nG:=mg_of X G nM;have fR:=rW (st:=(top 34)) pL nj fM;have pS:=fR.binds (ps:=["many"]) fun _ _ _ _ _ _ us hl=>u3 us hl fun _=>rfl;have pV:=mg_of X G nA;have fk:=rW (st:=(top 38)) qF nF fG;have pQ:=fk.binds (ps:=["row"]) fun _ _ _ _ _ _ us hl=>u3 us hl fun _=>rfl;have oy:=mg_of X G qh;have gl:=rW (st:=(top 39)) mh nD fm;have qA:=gl.binds (ps:=["pairs","paper"]) fun _ _ _ _ _ _ us hl=>uA us hl fun _ _=>rfl;have qE:=mg_of X G mZ;have fD:=rW (st:=(top 40)) pC oa cS;have eY:=fD.binds (ps:=["many","answers","asks","paper"]) fun _ _ _ _ _ _ us hl=>FW us hl fun _ _ _ _=>rfl;have fE:=mg_of X G mM;have fS:=rW (st:=(top 41)) nv p6 fq;have mH:=fS.binds (ps:=["many","asks","paper"]) fun _ _ _ _ _ _ us hl=>wt us hl fun _ _ _=>rfl;have p7:=mg_of X G oj;have gg:=rW (st:=(top 42)) nQ mw fN;have pP:=gg.binds (ps:=["many","answers","asks","i","j"]) fun _ _ _ _ _ _ us hl=>match us,hl with| [_,_,_,_,_],_=>rfl
 have qU:=mg_of X G mV;have ga:=rW (st:=(top 43)) nU pX dt;have eS:=ga.binds (ps:=["many","answers","asks"]) fun _ _ _ _ _ _ us hl=>wt us hl fun _ _ _=>rfl;have fJ:=mg_of X G oo;have fu:=rW (st:=(top 44)) mY mD ff;have ng:=fu.binds (ps:=["many"]) fun _ _ _ _ _ _ us hl=>u3 us hl fun _=>rfl;have qi:=mg_of X G oG;have fz:=rW (st:=(top 46)) qo qy gm;have m6:=fz.binds (ps:=["cell"]) fun _ _ _ _ _ _ us hl=>u3 us hl fun _=>rfl;have nq:=mg_of X G qb;have gf:=rW (st:=(top 47)) pH mO eX;have qQ:=gf.binds (ps:=["hand","many"]) fun _ _ _ _ _ _ us hl=>uA us hl fun _ _=>rfl;have nR:=mg_of X G nV;have fe:=rW (st:=(top 48)) nw oZ eM;have nC:=fe.binds (ps:=["many"]) fun _ _ _ _ _ _ us hl=>u3 us hl fun _=>rfl;have oM:=mg_of X G mL;have eL:=rW (st:=(top 49)) nZ pN dB;have fh:=eL.binds (ps:=["paper","asks"]) fun _ _ _ _ _ _ us hl=>uA us hl fun _ _=>rfl;have fY:=mg_of X G oB;have fv:=rW (st:=(top 50)) og mC dL;have fF:=fv.binds (ps:=["many","paper","answers"]) fun _ _ _ _ _ _ us hl=>wt us hl fun _ _ _=>rfl;have fQ:=mg_of X G qD;have e9:=rW (st:=(top 51)) qa qv fc;have nY:=e9.binds (ps:=["hand","many","paper"]) fun _ _ _ _ _ _ us hl=>wt us hl fun _ _ _=>rfl;have qI:=mg_of X G qC;have fU:=rW (st:=(top 52)) oF nS da;have fy:=fU.binds (ps:=["hand","paper"]) fun _ _ _ _ _ _ us hl=>uA us hl fun _ _=>rfl;have eU:=mg_of X G mv;have nX:=rW (st:=(top 53)) oz ot px;have ac:Cls K aa:=⟨bL,bH,bK,bJ⟩
 have yN:FldC K aa "pairs":=⟨ac,ax⟩
 have vV:FldC K aa "sorts":=⟨ac,ay⟩
 have yH:FldC K aa "ends":=⟨ac,aA⟩
 have wC:FldC K aa "searched":=⟨ac,ao⟩
 have wm:=XZ X G eD;have x6:=XZ X G eE;have DK:=XZ X G eF;have tj:=XZ X G cq;have E5:=XZ X G aJ;have yR:=XZ X G cZ;have sL:=XZ X G eC;have uF:=XZ X G cp;have vA:=XZ X G aD;have EL:=XZ X G de;have y9:=XZ X G eI;have Du:=XZ X G eG;have wI:mg "MOST_THINGS"=some (.int 7 dj)/\RelV (.int 7) (.int 7 dj)/\∀W,DR K W (.int 7) (.int 7):=⟨mg_of X G aC,⟨_,rfl⟩,fun _=>.int _⟩
 have tp:mg "OPEN"=some (.ref ag)/\RelV (.ref ag) (.ref ag)/\∀W,DR K W (.gt [.str "open"]) (.ref ag):=⟨mg_of X G aI,rfl,fun _=>.gt (vs:=[.str "open"]) (.inr ⟨aw,_,bI,aE,aF,aH,(show 1<=sizeLine from vY (by decide)),.cons ⟨gk,rfl⟩ .nil⟩) (.cons (.str _) .nil)⟩
 have zT:mg "MOST_SEARCHED"=some (.int 5 cr)/\RelV (.int 5) (.int 5 cr)/\∀W,DR K W (.int 5) (.int 5):=⟨mg_of X G au,⟨_,rfl⟩,fun _=>.int _⟩
 have vy:mg "GREATEST_THINGS"=some (.int 4 dv)/\RelV (.int 4) (.int 4 dv)/\∀W,DR K W (.int 4) (.int 4):=⟨mg_of X G ap,⟨_,rfl⟩,fun _=>.int _⟩
 have vI:mg "LEAST_THINGS"=some (.int 2 cM)/\RelV (.int 2) (.int 2 cM)/\∀W,DR K W (.int 2) (.int 2):=⟨mg_of X G az,⟨_,rfl⟩,fun _=>.int _⟩
 have u0:mg "NoThing"=some (.ref ad)/\uW K ad:=⟨mg_of X G ah,_,_,_,_,_,_,_,_,_,_,_,_,_,_,_,_,aX,aW,aQ,aZ⟩
 have BB:mg "NoFit"=some (.ref af)/\uW K af:=⟨mg_of X G aq,_,_,_,_,_,_,_,_,_,_,_,_,_,_,_,_,bS,bP,bR,ce⟩
 have xg:mg "TooMany"=some (.ref ae)/\uW K ae:=⟨mg_of X G ai,_,_,_,_,_,_,_,_,_,_,_,_,_,_,_,_,bj,bh,bg,aS⟩
 refine⟨fnOf "law" "law" (rQ (top 53)) (rN (top 53)) (rh (top 53)) .none dz dk du cJ bX cG,fun s v=>.of_eq rfl,fun base _ _=>?_⟩;have EE:DfX l.prog w K mg base 1 "check_things" ["many","answers"] (spX K (Ac ad)):=⟨_,_,TH F1 u0,b1,k1,g1⟩
 have EM:Df l.prog w K mg base 1 "moved" ["homes","old","new"] (spM K (va)):=⟨_,_,UP F2,b2,k2,g2⟩
 have CW:Df l.prog w K mg base 2 "homes_of" ["answers"] (spM K (xP va)):=⟨_,_,S2 F3 (EM) (by omega),b3,k3,g3⟩
 have ud:DfX l.prog w K mg base 3 "can_be" ["many","answers"] (spX K (vm ad)):=⟨_,_,Tt F4 (CW) (by omega) (EE) (by omega) wm,b4,k4,g4⟩
 have Cs:DfX l.prog w K mg base 4 "check_right" ["many","answers"] (spX K (E7 ad af)):=⟨_,_,M8 F5 (ud) (by omega) BB,b5,k5,g5⟩
 have D4:Df l.prog w K mg base 1 "fits" ["kinds","answers"] (spM K (wS)):=⟨_,_,Oo F6,b6,k6,g6⟩
 have Ff:Df l.prog w K mg base 1 "one_thing_more" ["sort","most"] (spM K (uH)):=⟨_,_,Vp F7 x6 DK tj,b7,k7,g7⟩
 have y1:DfX l.prog w K mg base 2 "all_sorts" ["many","most"] (spX K (x4 uH (.int 7) ae)):=⟨_,_,Sq F8 (Ff) (by omega) wI xg tj,b8,k8,g8⟩
 have Cm:DfX l.prog w K mg base 5 "sorts_that_fit" ["many","answers"] (spX K (y8 ad af ae)):=⟨_,_,Vi F9 (D4) (by omega) (Cs) (by omega) (y1) (by omega),b9,k9,g9⟩
 have Fk:Df l.prog w K mg base 1 "alike_things" ["kinds"] (spM K (wJ)):=⟨_,_,U6 eQ E5 yR,ql,eZ,pA⟩
 have De:Df l.prog w K mg base 2 "more_than_half" ["kinds"] (spM K (xj)):=⟨_,_,Ng eR (Fk) (by omega) sL,pI,eK,oV⟩
 have yb:Df l.prog w K mg base 3 "half_ends" ["kinds"] (spM K (uZ)):=⟨_,_,SZ fo (De) (by omega),oE,fW,mG⟩
 have yf:Df l.prog w K mg base 1 "common_end" ["ends"] (spM K (vD se)):=⟨_,_,Sy fO tp wm,pz,fP,m9⟩
 have uU:DfX l.prog w K mg base 6 "tells" ["many","answers"] (spX K (xr ad af ae)):=⟨_,_,M0 fZ (yf) (by omega) (yb) (by omega) (Cm) (by omega),qM,fL,ms⟩
 have wn:Df l.prog w K mg base 1 "pairs_of" ["many"] (spM K (w9)):=⟨_,_,Sb eT tj,p5,fj,qu⟩
 have wx:DfX l.prog w K mg base 1 "check_many" ["many","least","greatest"] (spX K (wb ad ae)):=⟨_,_,O9 fC u0 xg,mQ,fA,pB⟩
 have EQ:MkC l.prog w K mg base CX0 2 aa "Search" ["self","many","sorts","ends"] (spM K (BQ aa)):=⟨mg_of X G am,⟨_,_,⟨bN,nk,ow,bM⟩,Uh ge (wn) (by omega) yN vV yH wC,nB⟩⟩
 have xE:∀n,MtC l.prog w K mg base CX0 (2+3*n) aa "tree_within" ["self","left","asks"] (spM K (xl aa n)):=fun n=>by
  induction n with
  |zero=>exact⟨ac,⟨_,_,⟨fb,gc,dG⟩,y0,fT⟩⟩
  |succ n ih=>
   have Eo:MtC l.prog w K mg base CX0 (2+3*n+1) aa "tree_asking" ["self","i","j","left","asks"] (spM K (yB (xl aa n) aa)):=⟨ac,⟨_,_,⟨oK,pc,eO⟩,We fH ih (by omega) vV uF,oW⟩⟩
   have DD:MtC l.prog w K mg base CX0 (2+3*n+2) aa "new_tree" ["self","left","asks"] (spM K (AV aa (xl aa n))):=⟨ac,⟨_,_,⟨oU,mI,fX⟩,RW fg (yf) (by omega) (Eo) (by omega) yH yN tp,om⟩⟩
   exact(show MtC l.prog w K mg base CX0 (2+3*n+3) aa "tree_within" ["self","left","asks"] (spM K (xl aa (n+1))) from⟨ac,⟨_,_,⟨fb,gc,dG⟩,R3 eW (DD) (by omega) wC,fT⟩⟩)
 have Es:Df l.prog w K mg base 33 "fewest_asks" ["many","sorts","ends"] (spM K (Ci aa)):=⟨_,_,UY eP (EQ) (by omega) (xE 10) (by omega) sL uF tj,oO,gh,mE⟩
 have Dw:DfX l.prog w K mg base 34 "fewest_of" ["many","most"] (spX K (AM aa ae)):=⟨_,_,RX ft (yb) (by omega) (Es) (by omega) (y1) (by omega),qr,fw,nG⟩
 have FB:DfX l.prog w K mg base 35 "fewest" ["many"] (spX K (Bn aa ad ae)):=⟨_,_,T0 fR (wx) (by omega) (Dw) (by omega) zT,pS,fM,pV⟩
 have Cq:Df l.prog w K mg base 1 "is_row" ["row"] (spM K (wq)):=⟨_,_,SY fk vA uF sL EL,pQ,fG,oy⟩
 have CP:Df l.prog w K mg base 2 "is_paper_of" ["pairs","paper"] (spM K (yo wq)):=⟨_,_,TY gl (Cq) (by omega) vA yR sL wm,qA,fm,qE⟩
 have Ag:∀n,Df l.prog w K mg base (7+n) "is_let_by" ["many","answers","asks","paper"] (spM K (mmL ad af ae n)):=fun n=>by
  induction n with
  |zero=>exact⟨_,_,y0,eY,cS,fE⟩
  |succ n ih=>exact(show Df l.prog w K mg base (7+n+1) "is_let_by" ["many","answers","asks","paper"] (spM K (mmL ad af ae (n+1))) from⟨_,_,Um fD (Df.dn (ud)) (by omega) (Df.dn (uU)) (by omega) (wn) (by omega) (CP) (by omega) ih (by omega) tp vA uF sL y9,eY,cS,fE⟩)
 have A6:Df l.prog w K mg base 18 "holds" ["many","asks","paper"] (spM K (Bz ad af ae)):=⟨_,_,Tp fS (Df.dn (wx)) (by omega) (Ag 10) (by omega) vy vI,mH,fq,p7⟩
 have zO:∀n,Df l.prog w K mg base (7+2*n) "paper_behind" ["many","answers","asks"] (spM K (mmB ad af ae n)):=fun n=>by
  induction n with
  |zero=>exact⟨_,_,y0,eS,dt,fJ⟩
  |succ n ih=>
   have DN:Df l.prog w K mg base (7+2*n+1) "row_behind" ["many","answers","asks","i","j"] (spM K (yW (mmB ad af ae n))):=⟨_,_,To gg ih (by omega),pP,fN,qU⟩
   exact(show Df l.prog w K mg base (7+2*n+2) "paper_behind" ["many","answers","asks"] (spM K (mmB ad af ae (n+1))) from⟨_,_,Sk ga (Df.dn (ud)) (by omega) (Df.dn (uU)) (by omega) (wn) (by omega) (DN) (by omega) tp,eS,dt,fJ⟩)
 have EN:Df l.prog w K mg base 36 "holding_paper" ["many"] (spM K (A5 aa ad af ae)):=⟨_,_,MW fu (Df.dn (wx)) (by omega) (Df.dn (FB)) (by omega) (zO 10) (by omega) vy vI,ng,ff,qi⟩
 have E9:Df l.prog w K mg base 1 "_law_hand" ["cell"] (spM K (yZ)):=⟨_,_,Qs fz Du x6,m6,gm,nq⟩
 have vp:Df l.prog w K mg base 1 "_law_take" ["hand","many"] (spM K (vM)):=⟨_,_,Oy gf,qQ,eX,nR⟩
 have y7:Df l.prog w K mg base 1 "_law_pairs" ["many"] (spM K (vq)):=⟨_,_,Q0 fe tj,nC,eM,oM⟩
 have yv:∀n,Df l.prog w K mg base (1+n) "_law_cut" ["paper","asks"] (spM K (mmC n)):=fun n=>by
  induction n with
  |zero=>exact⟨_,_,y0,fh,dB,fY⟩
  |succ n ih=>exact(show Df l.prog w K mg base (1+n+1) "_law_cut" ["paper","asks"] (spM K (mmC (n+1))) from⟨_,_,M3 eL ih (by omega),fh,dB,fY⟩)
 have Ak:∀n,Df l.prog w K mg base (7+n) "_law_ends_open" ["many","paper","answers"] (spM K (mmE ad af ae n)):=fun n=>by
  induction n with
  |zero=>exact⟨_,_,y0,fF,dL,fQ⟩
  |succ n ih=>exact(show Df l.prog w K mg base (7+n+1) "_law_ends_open" ["many","paper","answers"] (spM K (mmE ad af ae (n+1))) from⟨_,_,UN fv (Df.dn (ud)) (by omega) (Df.dn (uU)) (by omega) (y7) (by omega) ih (by omega) y9,fF,dL,fQ⟩)
 have Fd:Df l.prog w K mg base 2 "_law_way" ["hand","many","paper"] (spM K (Hh)):=⟨_,_,QG e9 (vp) (by omega) (y7) (by omega) sL,nY,fc,qI⟩
 have Al:∀n,Df l.prog w K mg base (2+n) "_law_turned" ["hand","paper"] (spM K (mmT n)):=fun n=>by
  induction n with
  |zero=>exact⟨_,_,y0,fy,da,eU⟩
  |succ n ih=>exact(show Df l.prog w K mg base (2+n+1) "_law_turned" ["hand","paper"] (spM K (mmT (n+1))) from⟨_,_,S0 fU (vp) (by omega) ih (by omega) sL,fy,da,eU⟩)
 exact RA (P6 nX (E9) (by omega) (vp) (by omega) (EN) (by omega) (yv 10) (by omega) (A6) (by omega) (Fd) (by omega) (Df.dn (ud)) (by omega) (Df.dn (uU)) (by omega) (Al 10) (by omega) (Ak 10) (by omega) tj sL) (Uz (CS:=aa) (C:=ad) (CF:=af) (CT:=ae))
theorem walk{l:PySem.W.OpenLaw}{q:Program}{loose:List Str}{XP:(Str->Option Value)->Heap->Prop}{YP:World->Heap->Prop}{d:DefRec}{K:Params->Frag}(hn:l.most=some 63)(hdf:d.params.defaults=[])
  (hY:∀(w:World) (h:Heap),YP w h->(K w.params).In h)
  (F:∀(w:World) (mg:Str->Option Value) (fa:Addr) (h:Heap),(K w.params).In h->h.Ns mainGlobals mg->mg d.name=some (.ref fa)->
   ∃fd:FuncData,(∀(s:Shared) (u:Value),BindsTo s fd ⟨[u],[]⟩ [("script",u)])/\∀base:Heap,(K w.params).In base->base.Ns mainGlobals mg->FnOk l.prog w (K w.params) mg base CX0 37 fa fd ["script"] (B8 (K w.params))):
  PySem.W.WalkO q loose XP YP l.row.toRowW d [] (fun f vs=>PySem.call f vs):=
 L2.walk_of (n:=63) (k:=37) (x:="script") (CX:=fun _=>CX0) (sp:=fun w=>B8 (K w.params)) hn (by decide) hdf ⟨rfl,by decide,by decide,rfl⟩ hY F (fun _ _ a ns hl hO hS=>⟨a,ns,rfl,hO,hS,hl,fun _=>rfl⟩) fun _ _ _ _ _ z=>z
end Law
namespace PySem.W.Fast
def tw10004695192772849981:=0
def tw10039526214828052263:=0
def tw10061540713632914775:=0
def tw10097545967591235325:=0
def tw10105715836332463134:=0
def tw10231787366691888363:=0
def tw1024371627893122531:=0
def tw10339231563282162947:=0
def tw10350185529543855702:=0
def tw10384493071397451081:=0
def tw10396011620198352284:=0
def tw10439716811421363262:=0
def tw10450267230023118708:=0
def tw10468488242509651370:=0
def tw10509821189019652002:=0
def tw10515439868996125582:=0
def tw10519030836188153075:=0
def tw10607564589131528994:=0
def tw10705312404832777711:=0
def tw10779708772434659081:=0
def tw10808598863345448828:=0
def tw10845385677587349032:=0
def tw10886589549535303789:=0
def tw10936834338625844501:=0
def tw11058546806485547044:=0
def tw11091700451478046383:=0
def tw11137393814326078598:=0
def tw11180334767438524905:=0
def tw11254847613021351847:=0
def tw11312845560358986289:=0
def tw11318993481449366796:=0
def tw11324633000603463939:=0
def tw11353780630076638654:=0
def tw1144505048655824613:=0
def tw1152926237484137487:=0
def tw1165770321968642309:=0
def tw11838920926336429032:=0
def tw1188111898739665393:=0
def tw11963193762930713994:=0
def tw12092812897916428718:=0
def tw12236812463774786516:=0
def tw12247485158493616617:=0
def tw12255096289455580966:=0
def tw12270981373338152666:=0
def tw12307585883820598019:=0
def tw12354214265150221235:=0
def tw12454290093509930861:=0
def tw12467409867930267348:=0
def tw1247244446442249530:=0
def tw12501950156474751184:=0
def tw126412241021786219:=0
def tw12681517950999986877:=0
def tw12711030342242985658:=0
def tw127365372640499216:=0
def tw12832628224603657689:=0
def tw12835505280976334558:=0
def tw12870408556358824905:=0
def tw12873915691604766841:=0
def tw12917451749200259520:=0
def tw12966875584528684314:=0
def tw13025544041702161372:=0
def tw13152586516810789363:=0
def tw13248728640348385522:=0
def tw13294785556590118813:=0
def tw13403661463811992745:=0
def tw1346653504929790686:=0
def tw13498039867986129882:=0
def tw13539401909819027934:=0
def tw1358565006031854532:=0
def tw13629342413031191546:=0
def tw13788503514589844847:=0
def tw1383388690778004080:=0
def tw13845264573264324876:=0
def tw14062438081292864579:=0
def tw14100069854188388721:=0
def tw14117009463912740560:=0
def tw14344712168202176605:=0
def tw1459163477000922376:=0
def tw14654886291563587025:=0
def tw14705669995883370371:=0
def tw14717180516699535599:=0
def tw14807173433099519930:=0
def tw14818087837347511967:=0
def tw14825280503020718946:=0
def tw14882967467414856151:=0
def tw14924339699936459402:=0
def tw14985987014272164249:=0
def tw15024117145517476097:=0
def tw15072666523117371944:=0
def tw15146214725786887899:=0
def tw15168318788586851818:=0
def tw15230220313613580266:=0
def tw15268403788945541570:=0
def tw1527508775494116694:=0
def tw15280184067335461398:=0
def tw15290907788787033926:=0
def tw15304140121232920503:=0
def tw15309935193623735694:=0
def tw15433462872642519656:=0
def tw15465017688240493046:=0
def tw15617365866283739193:=0
def tw15627172733006612687:=0
def tw15629427709966495143:=0
def tw15680897310142651691:=0
def tw15734471846669208300:=0
def tw15842586203860179395:=0
def tw1586870543719188483:=0
def tw15884675910126043135:=0
def tw16030948257277615687:=0
def tw16036393813233507919:=0
def tw16064713559901518892:=0
def tw16066998873182656791:=0
def tw16132501207130074887:=0
def tw16160425548887861499:=0
def tw16286657088394391326:=0
def tw16450103760306799241:=0
def tw16460562438383449888:=0
def tw16494475176180156786:=0
def tw16506252229597643849:=0
def tw16753911574125984606:=0
def tw16776609624983768287:=0
def tw16846766860546702927:=0
def tw16857584162776266470:=0
def tw16926744864531542781:=0
def tw170842589653496982:=0
def tw17113768458380578897:=0
def tw17193266995477703066:=0
def tw1734951656669045402:=0
def tw17366664488278234649:=0
def tw17420780181231424242:=0
def tw17447635986831854026:=0
def tw17514344362998527247:=0
def tw17521272638168191165:=0
def tw17541440384994235664:=0
def tw17629465976848184746:=0
def tw17676456020838682993:=0
def tw17789514430690534300:=0
def tw17813073179030747167:=0
def tw1786796834224924701:=0
def tw17874836556079149147:=0
def tw17969693858799300822:=0
def tw18049426657272548222:=0
def tw18090013505639635943:=0
def tw18125473200988101633:=0
def tw18153323672692642662:=0
def tw18237252158535489016:=0
def tw18242702738822390505:=0
def tw18256674113940426982:=0
def tw18257344852781678499:=0
def tw18409939595597971931:=0
def tw18413206957877649492:=0
def tw18426346718740825044:=0
def tw18432094132392489277:=0
def tw1961271310664554472:=0
def tw2029434898376358636:=0
def tw2132776083074494005:=0
def tw2159461659037616639:=0
def tw2257144955348812420:=0
def tw2261410329005973388:=0
def tw2267964714563053761:=0
def tw2317154986147090239:=0
def tw2376271895108172832:=0
def tw2486294957783598332:=0
def tw250843322444225998:=0
def tw2573581130534653512:=0
def tw2645780183499010402:=0
def tw2656248647258113176:=0
def tw2658188426416136666:=0
def tw2713220006485654527:=0
def tw28841926390405406:=0
def tw2886417398796132088:=0
def tw2916977894386959918:=0
def tw29321826113690499:=0
def tw3043404377778886147:=0
def tw3239362412730773609:=0
def tw3309176708227301701:=0
def tw3319722052737727903:=0
def tw3455679661344183693:=0
def tw3483627064917643530:=0
def tw3750266183924095475:=0
def tw3942097717405613933:=0
def tw4002212326273153892:=0
def tw4023999960954677218:=0
def tw4264671897772136327:=0
def tw4301025657984826169:=0
def tw4324410501986504073:=0
def tw4335914674344454046:=0
def tw4389613909221974643:=0
def tw444531790638563662:=0
def tw4603499402127628660:=0
def tw4610540853089910702:=0
def tw4662519942794076151:=0
def tw4675870070787909526:=0
def tw4762559931580692749:=0
def tw4771569595808031899:=0
def tw4780464063667251619:=0
def tw4803534642413864938:=0
def tw4809525344642795785:=0
def tw4818397030324479433:=0
def tw4835292528301847911:=0
def tw5006088360067623279:=0
def tw5045140012966534110:=0
def tw5058307084374590372:=0
def tw5222710506222065486:=0
def tw5232978299587168868:=0
def tw5237869825770780893:=0
def tw5257062311619078128:=0
def tw5257817833738054837:=0
def tw5271280379838896725:=0
def tw5300176135150840549:=0
def tw5327718813692862880:=0
def tw5344946305609609790:=0
def tw5364289161585007450:=0
def tw5415167012252564489:=0
def tw5523293906545244983:=0
def tw5569871000193930617:=0
def tw5574952296841546546:=0
def tw5592372471757366596:=0
def tw5610121306216744393:=0
def tw5617319135931178893:=0
def tw562596282469803596:=0
def tw5638506481848715249:=0
def tw5694914431090024184:=0
def tw5711964785959437551:=0
def tw5744478539266487014:=0
def tw5946050845163385303:=0
def tw6005702468978619264:=0
def tw6028696486058871204:=0
def tw6029595662380676261:=0
def tw6250569434138017673:=0
def tw6253457506584926081:=0
def tw6317586169563745889:=0
def tw64105963047068226:=0
def tw6432272015367732740:=0
def tw649949673948626199:=0
def tw6575565135091222582:=0
def tw6627926822421352782:=0
def tw6813832863387324085:=0
def tw6899061852076389869:=0
def tw6915495066978696398:=0
def tw6940240516845084943:=0
def tw6951368884679249725:=0
def tw6965744595840449092:=0
def tw6971598928080653793:=0
def tw7068433948967193664:=0
def tw7083978282152195628:=0
def tw7225645740096619580:=0
def tw7290523613815195880:=0
def tw7298092630789158529:=0
def tw7311822055179886122:=0
def tw7354376404093464803:=0
def tw7371439869979248333:=0
def tw7382309925198797059:=0
def tw7427651806081610063:=0
def tw7446129848650738895:=0
def tw7449133428795659956:=0
def tw7640882293313674950:=0
def tw7791041321446051572:=0
def tw7849563464213935666:=0
def tw7889270071981269868:=0
def tw7913197693082362118:=0
def tw7986417381844450650:=0
def tw7995135312388168630:=0
def tw8010941497532686005:=0
def tw8050750086905483076:=0
def tw8054497348803835385:=0
def tw8112669599688303965:=0
def tw8170524707066565753:=0
def tw8182021411326585772:=0
def tw8207608222220013929:=0
def tw8355847502787450900:=0
def tw8361138529930576612:=0
def tw8443157066312231797:=0
def tw8454684598537340745:=0
def tw8475569633257719567:=0
def tw8571110963587245870:=0
def tw8823026715020193256:=0
def tw8873643634384881885:=0
def tw8900867390024583025:=0
def tw9087032481899652036:=0
def tw9116805221060951850:=0
def tw914431831578681171:=0
def tw9208124066456281494:=0
def tw9315964370827544806:=0
def tw9387498514000806646:=0
def tw9452578532541095114:=0
def tw9504003374984940943:=0
def tw9602396123404556928:=0
def tw9624173220319402062:=0
def tw9660425248920941421:=0
def tw9686436110059661295:=0
def tw9851128145609700242:=0
def tw9883072938625637518:=0
def tw9935343898448810736:=0
def tw9946997806122342130:=0
end PySem.W.Fast
open PySem PySem.W PyProof.Rows
set_option maxRecDepth 100000 in
set_option maxHeartbeats 0 in
theorem PySem.Challenge.cw_morethanhalf_k30_whole_papers_cut_holds : PySem.Challenge.rw_morethanhalf_k30_whole_papers_cut.Holds := by
 w_on;o_law;k_head;(case hw=>w_witness2)
 k_fill
 refine Law.walk (l:=PySem.Challenge.rw_morethanhalf_k30_whole_papers_cut) rfl rfl (fun w h Y=>PySem.W.kIn_of Y) ?F
 case F=>
  intro w mg fa h KX G hmg;refine' Law.all_mk KX G hmg ?_ ?_ ?_ ?_ ?_ ?_ ?_ ?_ ?_ ?_ ?_ ?_ ?_ ?_ ?_ ?_ ?_ ?_ ?_ ?_ ?_ ?_ ?_ ?_ ?_ ?_ ?_ ?_ ?_ ?_ ?_ ?_ ?_ ?_ ?_ ?_ ?_ ?_ ?_ ?_ ?_ ?_ ?_ ?_ ?_ ?_ ?_ ?_ ?_ ?_ ?_ ?_ ?_ ?_ ?_ ?_ ?_ ?_ ?_ ?_ ?_ ?_ ?_ ?_ ?_ ?_ ?_ ?_ ?_ ?_ ?_ ?_ ?_ ?_ ?_ ?_ ?_ ?_ ?_ ?_ ?_ ?_ ?_ ?_ ?_ ?_ ?_ ?_ ?_ ?_ ?_ ?_ ?_ ?_ ?_ ?_ ?_ ?_ ?_ ?_ ?_ ?_ ?_ ?_ ?_ ?_ ?_ ?_ ?_ ?_ ?_ ?_ ?_ ?_ ?_ ?_ ?_ ?_ ?_ ?_ ?_ ?_ ?_ ?_ ?_ ?_ ?_ ?_ ?_ ?_ ?_ ?_ ?_ ?_ ?_ ?_ ?_ ?_ ?_ ?_ ?_ ?_ ?_ ?_ ?_ ?_ ?_ ?_ ?_ ?_ ?_ ?_ ?_ ?_ ?_ ?_ ?_ ?aI ?aE ?aF ?aH ?_ ?_ ?_ ?_ ?_ ?_ ?_ ?_ ?_ ?_ ?_ ?_ ?_ ?_ ?_ ?am ?ah ?aq ?ai ?_ ?_ ?_ ?_ ?_ ?_ ?_ ?_ ?_ ?_ ?_ ?_ ?_ ?_ ?_ ?_ ?_ ?_ ?_ ?_ ?_ ?_
  (case am=>k_is)
  (case ah=>k_is)
  (case aq=>k_is)
  (case ai=>k_is)
  (case aI=>k_is)
  (case aE=>k_is)
  (case aF=>rfl)
  (case aH=>rfl)
  all_goals(first|k_is|kit_is|kernel_rfl|skip)

