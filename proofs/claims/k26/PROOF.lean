import PyProof.Rows.All
import Wide.All
import OpenK.AllK
import Wide.FinOn
import Lean
import PyProof.EqAt
import PyProof.EqKinds
import PyProof.TupleCall
import PyProof.NsDelKeeps
import KE.KTryMore
import OpenK.KOwn
import PyProof.ExcBaseAll.ValueError
import PyProof.Rows.CountFlat
import PyProof.Rows.SeqMore2
import PyProof.SumWalkG
import PyProof.FitsBits
import PyProof.Rows.IntMath
import PyProof.P3Eq
import PyProof.ZipIter
import PyProof.TupleIter
import PyProof.TupleOfSeq
import PyProof.TupleOfGen
import PyProof.ListRange
import PyProof.Rows.SeqMore
import PySem.Challenge.RW_morethanhalf_k26_whole_ways_down_told_tr
set_option Elab.async false
set_option linter.all false
set_option compiler.extract_closed false
set_option maxRecDepth 100000
set_option maxHeartbeats 0
open PySem.W (Frag nsIn keepIn codeIn fnOf mg_of findIn mg_none_of isFn)
noncomputable section
abbrev QS:=List (PySem.Addr×PySem.Obj)
abbrev OK:=PySem.Value->PySem.Shared->Prop
theorem Xf:type_of% @PySem.wpAny_bind:=@PySem.wpAny_bind
theorem Xg:type_of% @PySem.Heap.get?_push_of_some:=@PySem.Heap.get?_push_of_some
theorem Xh:type_of% @Nat.le_refl:=@Nat.le_refl
theorem Xi:type_of% @List.getElem?_eq_some_iff.{0}:=@List.getElem?_eq_some_iff.{0}
theorem Xj:type_of% @PySem.wpAny_pure:=@PySem.wpAny_pure
theorem Xk:type_of% @List.getD_eq_getElem?_getD.{0}:=@List.getD_eq_getElem?_getD.{0}
theorem Xl:type_of% @PySem.wpAny_mono:=@PySem.wpAny_mono
theorem Xm:type_of% @List.getElem?_eq_getElem.{0}:=@List.getElem?_eq_getElem.{0}
theorem Xn:type_of% @List.length_map.{0,0}:=@List.length_map.{0,0}
theorem Xo:type_of% @PySem.Heap.lt_size:=@PySem.Heap.lt_size
theorem Xp:type_of% @PySem.Heap.get?_push_size:=@PySem.Heap.get?_push_size
theorem Xq:type_of% @decide_eq_false:=@decide_eq_false
theorem Xr:type_of% @List.map_cons.{0,0}:=@List.map_cons.{0,0}
theorem Xs:type_of% @List.mem_append_right.{0}:=@List.mem_append_right.{0}
theorem Xt:type_of% @List.find?_cons.{0}:=@List.find?_cons.{0}
theorem Xu:type_of% @List.size_toArray.{0}:=@List.size_toArray.{0}
theorem Xv:type_of% @List.getElem?_append_left.{0}:=@List.getElem?_append_left.{0}
theorem Xw:type_of% @List.mem_map.{0,0}:=@List.mem_map.{0,0}
theorem Xx:type_of% @decide_eq_true:=@decide_eq_true
theorem Xy:type_of% @List.mem_filter.{0}:=@List.mem_filter.{0}
theorem Xz:type_of% @Nat.ne_of_lt:=@Nat.ne_of_lt
theorem XA:type_of% @List.getElem?_map.{0,0}:=@List.getElem?_map.{0,0}
theorem XB:type_of% @Bool.false_eq_true:=@Bool.false_eq_true
theorem XC:type_of% @Nat.lt_of_lt_of_le:=@Nat.lt_of_lt_of_le
theorem XD:type_of% @Option.some.inj.{0}:=@Option.some.inj.{0}
theorem XE:type_of% @Bool.and_eq_true:=@Bool.and_eq_true
theorem XF:type_of% @List.lookup_cons.{0,0}:=@List.lookup_cons.{0,0}
theorem XG:type_of% @Bool.not_true:=@Bool.not_true
theorem XH:type_of% @List.length_append.{0}:=@List.length_append.{0}
theorem XI:type_of% @List.mem_cons.{0}:=@List.mem_cons.{0}
theorem XJ:type_of% @List.all_eq_true.{0}:=@List.all_eq_true.{0}
theorem XL:type_of% @Nat.le_trans:=@Nat.le_trans
theorem XM:type_of% @List.length_cons.{0}:=@List.length_cons.{0}
theorem XN:type_of% @List.mem_append.{0}:=@List.mem_append.{0}
theorem XO:type_of% @List.map_map.{0,0,0}:=@List.map_map.{0,0,0}
theorem XQ:type_of% @List.getElem?_set_ne.{0}:=@List.getElem?_set_ne.{0}
theorem XR:type_of% @List.getElem?_append_right.{0}:=@List.getElem?_append_right.{0}
theorem XS:type_of% @List.drop_eq_getElem_cons.{0}:=@List.drop_eq_getElem_cons.{0}
theorem XT:type_of% @List.mem_range:=@List.mem_range
theorem XU:type_of% @PySem.mem_of_lookup:=@PySem.mem_of_lookup
theorem XV:type_of% @List.mem_cons_of_mem.{0}:=@List.mem_cons_of_mem.{0}
theorem XW:type_of% @Bool.false_ne_true:=@Bool.false_ne_true
theorem XX:type_of% @List.mem_singleton.{0}:=@List.mem_singleton.{0}
theorem XY:type_of% @List.map_congr_left.{0,0}:=@List.map_congr_left.{0,0}
theorem XZ:type_of% @Classical.byContradiction:=@Classical.byContradiction
theorem X0:type_of% @List.append_nil.{0}:=@List.append_nil.{0}
theorem X1:type_of% @PySem.PassesOwn.never:=@PySem.PassesOwn.never
theorem X2:type_of% @PySem.wpAny_truthy_bool:=@PySem.wpAny_truthy_bool
theorem X3:type_of% @List.getElem_mem.{0}:=@List.getElem_mem.{0}
theorem X4:type_of% @decide_eq_true_eq:=@decide_eq_true_eq
theorem X5:type_of% @List.drop_eq_nil_of_le.{0}:=@List.drop_eq_nil_of_le.{0}
theorem X6:type_of% @List.map_append.{0,0}:=@List.map_append.{0,0}
theorem X7:type_of% @Nat.lt_irrefl:=@Nat.lt_irrefl
theorem X8:type_of% @Option.isSome_iff_exists.{0}:=@Option.isSome_iff_exists.{0}
theorem X9:type_of% @List.length_singleton.{0}:=@List.length_singleton.{0}
theorem Ya:type_of% @PyProof.Rows.callWith_type1:=@PyProof.Rows.callWith_type1
theorem Yb:type_of% @PySem.wpAny_newObj_type:=@PySem.wpAny_newObj_type
theorem Yc:type_of% @List.idxOf_lt_length_of_mem.{0}:=@List.idxOf_lt_length_of_mem.{0}
theorem Yd:type_of% @PySem.Heap.size_push:=@PySem.Heap.size_push
theorem Ye:type_of% @Nat.zero_le:=@Nat.zero_le
theorem Yf:type_of% @List.getElem?_of_mem.{0}:=@List.getElem?_of_mem.{0}
theorem Yg:type_of% @Bool.eq_iff_iff:=@Bool.eq_iff_iff
theorem Yh:type_of% @List.pairwise_iff_getElem.{0}:=@List.pairwise_iff_getElem.{0}
theorem Yi:type_of% @Bool.not_false:=@Bool.not_false
theorem Yj:type_of% @PySem.Around.under_plainId:=@PySem.Around.under_plainId
theorem Yk:type_of% @List.length_eq_zero_iff.{0}:=@List.length_eq_zero_iff.{0}
theorem Yl:type_of% @List.any_eq_true.{0}:=@List.any_eq_true.{0}
theorem Ym:type_of% @PySem.Heap.get?_update_other:=@PySem.Heap.get?_update_other
theorem Yn:type_of% @List.exists_cons_of_ne_nil.{0}:=@List.exists_cons_of_ne_nil.{0}
theorem Yo:type_of% @List.filter_eq_nil_iff.{0}:=@List.filter_eq_nil_iff.{0}
theorem Yp:type_of% @List.mem_of_find?_eq_some.{0}:=@List.mem_of_find?_eq_some.{0}
theorem Yq:type_of% @List.find?_eq_none.{0}:=@List.find?_eq_none.{0}
theorem Yr:type_of% @PySem.wpAny_holding:=@PySem.wpAny_holding
theorem Ys:type_of% @PySem.wpAny_standAt:=@PySem.wpAny_standAt
theorem Yt:type_of% @List.any_cons.{0}:=@List.any_cons.{0}
theorem Yu:type_of% @PySem.wpAny_comprehension_free:=@PySem.wpAny_comprehension_free
theorem Yv:type_of% @List.mem_of_getElem?.{0}:=@List.mem_of_getElem?.{0}
theorem Yw:type_of% @List.length_range:=@List.length_range
theorem Yx:type_of% @Array.length_toList.{0}:=@Array.length_toList.{0}
theorem Yy:type_of% @List.replicate_succ.{0}:=@List.replicate_succ.{0}
theorem Yz:type_of% @PySem.wpAny_Call_Name_kw:=@PySem.wpAny_Call_Name_kw
theorem YA:type_of% @List.length_filter_le.{0}:=@List.length_filter_le.{0}
theorem YB:type_of% @PySem.wpAny_passesOwn:=@PySem.wpAny_passesOwn
theorem YC:type_of% @PySem.wpAny_loadPart':=@PySem.wpAny_loadPart'
theorem YD:type_of% @List.length_set.{0}:=@List.length_set.{0}
theorem YE:type_of% @PySem.codeAny_builtin:=@PySem.codeAny_builtin
theorem YF:type_of% @PySem.sizeLine_eq:=@PySem.sizeLine_eq
theorem YG:type_of% @List.nodup_append.{0}:=@List.nodup_append.{0}
theorem YH:type_of% @Nat.zero_add:=@Nat.zero_add
theorem YI:type_of% @PySem.plainId_quiet:=@PySem.plainId_quiet
theorem YJ:type_of% @PySem.F.plain_max_loop:=@PySem.F.plain_max_loop
theorem YK:type_of% @List.filter_cons.{0}:=@List.filter_cons.{0}
theorem YL:type_of% @PySem.W.mg_none_of:=@PySem.W.mg_none_of
theorem YM:type_of% @List.find?_some.{0}:=@List.find?_some.{0}
theorem YN:type_of% @Nat.lt_succ_of_lt:=@Nat.lt_succ_of_lt
def bq{p:Prop}(h:¬p->False):p:=XZ h
namespace L2
open PySem PySem.Spec PyProof.Rows
abbrev Key:=Sum Int Str
def wN:Key->Value->Bool
 | .inl k,v=>Value.isInt k v
 | .inr x,v=>Value.isStrOf x v
def NA(w:World):Key->Int
 | .inl k=>hashInt k
 | .inr x=>hashStr w x
theorem u8:∀{k:Key} {v:Value},wN k v=true->(∃i t,k=Sum.inl i/\v=Value.int i t)\/(∃x t,k=Sum.inr x/\v=Value.str x t)
 | .inl i,v,h=>by
  obtain⟨t,e⟩:=Value.isInt_shape (k:=i) (v:=v) h;exact .inl ⟨i,t,rfl,e⟩
 | .inr x,v,h=>by
  obtain⟨t,e⟩:=Value.isStrOf_shape (x:=x) (v:=v) h;exact(.inr ⟨x,t,rfl,e⟩)
def znx(i:Int)(t:Tok):wN (.inl i) (.int i t)=true:=by simp[wN,Value.isInt]
def Ur(x:Str)(t:Tok):wN (.inr x) (.str x t)=true:=by simp[wN,Value.isStrOf]
def Os(a b:Int):decide ((Sum.inl a:Key)=Sum.inl b)=(a==b):=by
 by_cases e:a=b
 ·subst e;simp
 ·have h:¬(Sum.inl a:Key)=Sum.inl b:=fun q=>e (Sum.inl.inj q);rw[Xq h];exact(beq_eq_false_iff_ne.mpr e).symm
def y22(a b:Str):decide ((Sum.inr a:Key)=Sum.inr b)=decide (a=b):=by
 by_cases e:a=b
 ·subst e;simp
 ·have h:¬(Sum.inr a:Key)=Sum.inr b:=fun q=>e (Sum.inr.inj q);rw[Xq h,Xq e]
def y24(a:Int)(b:Str):decide ((Sum.inl a:Key)=Sum.inr b)=false:=Xq (fun q=>nomatch q)
def Rj(a:Str)(b:Int):decide ((Sum.inr a:Key)=Sum.inl b)=false:=Xq (fun q=>nomatch q)
def tI(prog:Program)(w:World):PySem.KeyKind prog w Key where
 is:=wN
 hash:=NA w
 inj:=fun v a b ha hb=>by
  rcases u8 ha with⟨i,t,rfl,rfl⟩|⟨x,t,rfl,rfl⟩
  ·rcases u8 hb with⟨j,u,rfl,e⟩|⟨y,u,rfl,e⟩
   ·injection e with e1 _;rw[e1]
   ·exact nomatch e
  ·rcases u8 hb with⟨j,u,rfl,e⟩|⟨y,u,rfl,e⟩
   ·exact nomatch e
   ·injection e with e1 _;rw[e1]
 byValue:=fun k v h=>by
  rcases u8 h with⟨i,t,rfl,rfl⟩|⟨x,t,rfl,rfl⟩<;>rfl
 pyHash:=fun hv h=>by
  rcases u8 hv with⟨i,t,rfl,rfl⟩|⟨x,t,rfl,rfl⟩
  ·exact wpAny_pyHash_int h
  ·exact wpAny_pyHash_str h
 eqBool:=fun hu hv h=>by
  rcases u8 hu with⟨i,t,rfl,rfl⟩|⟨x,t,rfl,rfl⟩
  ·rcases u8 hv with⟨j,u,rfl,rfl⟩|⟨y,u,rfl,rfl⟩
   ·rw[Os] at h;exact wpAny_eqBool_int h
   ·rw[y24] at h;exact SeqAt.EqAt.int_str i t y u _ _ _ _ h
  ·rcases u8 hv with⟨j,u,rfl,rfl⟩|⟨y,u,rfl,rfl⟩
   ·rw[Rj] at h;exact SeqAt.EqAt.str_int x t j u _ _ _ _ h
   ·rw[y22] at h;exact wpAny_eqBool_str h
 «strs»:=fun k x t v h=>by
  rcases u8 h with⟨i,u,rfl,e⟩|⟨y,u,rfl,e⟩
  ·exact nomatch e
  ·injection e with e1 _
   subst e1;cases v<;>rfl
def RU(prog:Program)(w:World)(i:Int)(t:Tok):(tI prog w).is (.inl i) (.int i t)=true:=znx i t
def Rk(prog:Program)(w:World)(x:Str)(t:Tok):(tI prog w).is (.inr x) (.str x t)=true:=Ur x t
inductive V where
 |non|bl (b:Bool)|int (i:Int)|str (x:Str)|byt (b:Array UInt8)|flt (b:UInt64)|ref (a:Addr)|ty (n:String)
 deriving DecidableEq
def RelV:V->Value->Prop
 | .non,u=>u=Value.none
 | .bl b,u=>u=Value.bool b
 | .int i,u=>∃t,u=Value.int i t
 | .str x,u=>∃t,u=Value.str x t
 | .byt b,u=>∃t,u=Value.bytes b t
 | .flt b,u=>∃t,u=Value.float b t
 | .ref a,u=>u=Value.ref a
 | .ty n,u=>u=Value.type n
abbrev Vals:List V->List Value->Prop:=Paired RelV
def Vals.length{xs:List V}{us:List Value}(r:Vals xs us):xs.length=us.length:=Paired.length r
theorem Vals.get:∀{xs:List V} {us:List Value} {i:Nat} {x:V},Vals xs us->xs[i]?=some x->∃u,us[i]?=some u/\RelV x u
 |_,_,_,_,.nil,e=>by simp at e
 |_,_,0,_,.cons r _,e=>by simp at e;subst e;exact⟨_,rfl,r⟩
 |_,_,i+1,x,.cons _ t,e=>by
  obtain⟨u,h1,h2⟩:=Vals.get (i:=i) (x:=x) t (by simpa using e);exact(⟨u,by simpa using h1,h2⟩)
theorem Vals.set{x:V}{u:Value}(r:RelV x u):∀{xs:List V} {us:List Value} (i:Nat),Vals xs us->Vals (xs.set i x) (us.set i u)
 |_,_,_,.nil=>.nil
 |_,_,0,.cons _ t=>.cons r t
 |_,_,i+1,.cons q t=>.cons q (Vals.set r i t)
theorem Vals.append:∀{xs ys:List V} {us ws:List Value},Vals xs us->Vals ys ws->Vals (xs++ys) (us++ws)
 |_,_,_,_,.nil,s=>s
 |_,_,_,_,.cons r t,s=>.cons r (Vals.append t s)
theorem Vals.take:∀{xs:List V} {us:List Value} (n:Nat),Vals xs us->Vals (xs.take n) (us.take n)
 |_,_,0,_=>.nil
 |_,_,_+1,.nil=>.nil
 |_,_,n+1,.cons r t=>.cons r (Vals.take n t)
theorem Vals.drop:∀{xs:List V} {us:List Value} (n:Nat),Vals xs us->Vals (xs.drop n) (us.drop n)
 |_,_,0,r=>r
 |_,_,_+1,.nil=>.nil
 |_,_,n+1,.cons _ t=>Vals.drop n t
def RelO:Option V->Option Value->Prop
 |some v,some u=>RelV v u
 |none,none=>True
 |_,_=>False
def KV{κ:Type}:List (κ×V)->List (κ×Value)->Prop:=Paired fun(p:κ×V) (q:κ×Value)=>p.1=q.1/\RelV p.2 q.2
def kV:Key->V
 | .inl i=>.int i
 | .inr x=>.str x
abbrev NK:=List Int×Int
section
variable {P:Program} {w:World}
def NkIs(P:Program)(w:World)(h:Heap)(k:NK)(a:Addr):Prop:=∃(o:Obj) (b:Addr) (t:Tok) (c:Nat),h.get? a=some o/\o.cls=.type "tuple"/\o.data=.seq #[.ref b,.int k.2 t] c/\IsTupleKey (intKind P w) h k.1 b
def DA(P:Program)(w:World)(k:NK):Int:=reduceHash (Builtin.Tuple.tupleHashOf [tupleKeyHash (intKind P w) k.1,hashInt k.2])
variable {A:Around} {E:OK} {s:Shared} {k m:NK} {a b:Addr}
theorem NkIs.ty(x:NkIs P w s.heap k a):s.TypeIs (.ref a) "tuple":=let ⟨o,_,_,_,h1,h2,_⟩:=x;⟨o,h1,h2⟩
theorem NkIs.inj{h:Heap}(x:NkIs P w h k a)(y:NkIs P w h m a):k=m:=by
 obtain⟨o,b,t,c,h1,_,h3,h4⟩:=x;obtain⟨o',b',t',c',g1,_,g3,g4⟩:=y;rw[h1] at g1;cases g1;rw[h3] at g3;obtain⟨k1,k2⟩:=k;obtain⟨m1,m2⟩:=m;simp only[Data.seq.injEq,Array.mk.injEq,List.cons.injEq,Value.ref.injEq,Value.int.injEq] at g3;obtain⟨⟨e1,⟨e2,_⟩,_⟩,_⟩:=g3;subst e1;subst e2;have:=h4.inj g4;simp only at this;subst this;rfl
theorem NkIs.keeps{h h':Heap}{d:Addr}{o:Obj}{es ep}(x:NkIs P w h k a)(ho:h.get? d=some o)(hd:o.data=.dict es ep)(hs:Heap.SameBut d h h'):NkIs P w h' k a:=by
 obtain⟨q,b,t,c,h1,h2,h3,h4⟩:=x;refine⟨q,b,t,c,(hs.2 a ?_).trans h1,h2,h3,h4.keeps ho hd hs⟩;intro e;subst e;rw[ho] at h1;cases h1;rw[h3] at hd;cases hd
theorem Wf{Q:Int->Shared->Prop}(hu:A.units+4<cLine)(x:NkIs P w s.heap k a)(h:Q (DA P w k) {s with toks:=s.toks+(k.1.length+3)}):wpAny (model P w) A (pyHash (.ref a)) Q E s:=by
 have hT:=x.ty;obtain⟨o,b,t,c,h1,_,h3,h4⟩:=x;unfold pyHash;first|unfold pyHashByItsType|skip
 first|refine Xf (wpAny_cRoomFor_or (.inr (by omega)) ?_)|skip
 refine Xf (wpAny_specialOf hT F.slot_tuple_hash.lookup ?_);show wpAny _ _ (if(some (Value.builtin "tuple.__hash__")==some Value.none)=true then _ else _) Q E s;rw[if_neg (by rw[beq_builtin_none];exact XW)];refine Xf (wpAny_specialOf hT F.slot_tuple_hash.lookup ?_);show wpAny _ _ (callSpecialIfBoundUnlessNone? (.ref a) "__hash__" _ >>= _) Q E s;refine Xf (wpAny_callSpecialIfBoundUnlessNone?_slot hT F.slot_tuple_hash (wpAny_call_entry F.slot_tuple_hash hT F.entry_tuple_hash ?_ (F.args_tuple_hash_1 _)));show wpAny _ _ (Builtin.Tuple.tupleItemsOf (.ref a) >>= _) _ _ s;refine Xf (wpAny_tupleItemsOf h1 h3 ?_);refine Xf ?_;rw[←Array.forIn_toList];show wpAny _ _ (forIn [Value.ref b,Value.int k.2 t] (#[]:Array Int) _) _ _ _;rw[List.forIn_cons];refine Xf (Xf (wpAny_pyHash_tuple (show A.in1.units<cLine by show A.units+1<cLine;omega) h4 (Xj ?_)));show wpAny _ _ (forIn [Value.int k.2 t] (#[tupleKeyHash (intKind P w) k.1]:Array Int) _) _ _ _;rw[List.forIn_cons];refine Xf (Xf ((intKind P w).pyHash (k:=k.2) (by simp[intKind,Value.isInt]) (Xj ?_)));show wpAny _ _ (forIn [] (#[tupleKeyHash (intKind P w) k.1,hashInt k.2]:Array Int) _) _ _ _;rw[List.forIn_nil];refine Xj ?_;show wpAny _ _ (retInt (Builtin.Tuple.tupleHashOf [tupleKeyHash (intKind P w) k.1,hashInt k.2])) _ _ _;refine wpAny_ret_mkInt ?_;have et:s.toks+(k.1.length+1)+1+1=s.toks+(k.1.length+3):=by omega
 unfold DA reduceHash at h;generalize Builtin.Tuple.tupleHashOf [tupleKeyHash (intKind P w) k.1,hashInt k.2]=z at h⊢;show wpAny _ _ (ite ((decide (-(2:Int)^63<=z)&&decide (z<2^63))=true) _ _) Q E _;rw[←et] at h;by_cases hr:(decide (-(2:Int)^63<=z)&&decide (z<2^63))=true
 ·rw[if_pos hr] at h⊢;exact Xj h
 ·rw[if_neg hr] at h⊢;exact Xf (wpAny_rule (Xj h))
theorem PK{Q:Fin->Shared->Prop}(hu:A.units<cLine)(x:NkIs P w s.heap k a)(y:NkIs P w s.heap m b)(h:Q (.done (.ret (.bool (decide (k=m))))) s):wpAny (model P w) A (Builtin.«tuple.__eq__» ⟨[.ref a,.ref b],[]⟩) Q E s:=by
 have hTb:=y.ty;obtain⟨o,b1,t,c,h1,_,h3,h4⟩:=x;obtain⟨o',b1',t',c',g1,_,g3,g4⟩:=y;show wpAny _ _ (isInstance (.ref b) (.type "tuple") >>= _) _ _ s;refine Xf (wpAny_isInstance hTb isSubtype_tuple_tuple ?_);simp only[XG,XB,if_false];refine Xf (wpAny_tupleItemsOf h1 h3 ?_);refine Xf (wpAny_tupleItemsOf g1 g3 ?_);refine Xf ?_;show wpAny _ _ (forIn [(Value.ref b1,Value.ref b1'),(Value.int k.2 t,Value.int m.2 t')] ((none:Option PySem.Fin),()) _) _ _ _;rw[List.forIn_cons];refine Xf (Xf (wpAny_eqBool_tuple hu h4 g4 ?_));by_cases e1:k.1=m.1
 ·rw[Xx e1];simp only[XG,XB,if_false];refine Xj ?_;show wpAny _ _ (forIn [(Value.int k.2 t,Value.int m.2 t')] ((none:Option PySem.Fin),()) _) _ _ _;rw[List.forIn_cons];refine Xf (Xf ((intKind P w).eqBool (a:=k.2) (b:=m.2) (by simp[intKind,Value.isInt]) (by simp[intKind,Value.isInt]) ?_));by_cases e2:k.2=m.2
  ·have e:k=m:=Prod.ext e1 e2;rw[Xx e] at h;rw[Xx e2];simp only[XG,XB,if_false];refine Xj ?_;show wpAny _ _ (forIn [] ((none:Option PySem.Fin),()) _) _ _ _;rw[List.forIn_nil];refine Xj ?_;exact Xj h
  ·have e:¬k=m:=fun z=>e2 (by rw[z]);rw[Xq e] at h;rw[Xq e2];simp only[Yi,if_true];exact Xf (Xj (Xj (Xj (Xj h))))
 ·have e:¬k=m:=fun z=>e1 (by rw[z]);rw[Xq e] at h;rw[Xq e1];simp only[Yi,if_true];exact Xf (Xj (Xj (Xj (Xj h))))
theorem WK{Q:Bool->Shared->Prop}(hu:A.units+4<cLine)(x:NkIs P w s.heap k a)(y:NkIs P w s.heap m b)(h:Q (decide (k=m)) s):wpAny (model P w) A (eqBool (.ref a) (.ref b)) Q E s:=by
 unfold eqBool;try with_reducible refine Yr ?_
 show wpAny _ _ (ite ((Value.ref a==Value.ref b)=true) _ _) Q E s;by_cases hab:a=b
 ·subst hab;rw[if_pos (by simp)];have:=x.inj y;subst this;exact Xf (wpAny_rule (Xj (by simpa using h)))
 ·rw[if_neg (by simpa using hab)];exact Xf (wpAny_richCompare_same_room (op:=.Eq) x.ty y.ty F.slot_tuple_eq (wpAny_call_entry F.slot_tuple_eq x.ty F.entry_tuple_eq (PK (by show A.units+1<cLine;omega) x y ⟨_,rfl,(fun e=>nomatch e),X2 h⟩) (F.args_tuple_eq_2 _ _)) (by omega))
theorem Qz{ks:List Int}{n:Nat}{Q:Bool->Shared->Prop}(x:IsTupleKey (intKind P w) s.heap ks a)(h:Q true s):wpAny (model P w) A (eqIsQuiet (n+1) (.ref a)) Q E s:=by
 have hT:=x.typeIs;obtain⟨o,items,c,h1,_,h3,h4⟩:=x;unfold eqIsQuiet;refine Xf (wpAny_specialOf hT F.slot_tuple_eq.lookup ?_);show wpAny _ _ (isInstance (.ref a) (.type "tuple") >>= _) _ _ s;refine Xf (wpAny_isInstance hT isSubtype_tuple_tuple ?_);simp only[XG,XB,if_false];refine Xf (wpAny_seqItems h1 h3 ?_);refine Xf ?_;show wpAny _ _ (forIn items _ _) _ _ s;rw[←Array.forIn_toList];refine wpAny_forIn_list _ (fun qO r s'=>r.1=none/\s'=s/\∀v∈qO,carriedByValue v=true) _ ?_ ?_ _ _ ⟨rfl,rfl,h4.byValue⟩
 ·intro v qO r s' q;obtain⟨_,e,q⟩:=q;subst e;rw[eqIsQuiet_byValue _ (q v (by simp))];refine Xf (Xj ?_);simp only[XG,XB,if_false];exact Xj ⟨rfl,rfl,fun u hu=>q u (by simp[hu])⟩
 ·intro r s' q;obtain⟨r1,r2⟩:=r;obtain⟨e1,e2,_⟩:=q;cases e1;subst e2;exact Xj h
theorem Vx{Q:Bool->Shared->Prop}(x:NkIs P w s.heap k a)(h:Q true s):wpAny (model P w) A (eqIsQuiet 8 (.ref a)) Q E s:=by
 have hT:=x.ty;obtain⟨o,b,t,c,h1,_,h3,h4⟩:=x;unfold eqIsQuiet;refine Xf (wpAny_specialOf hT F.slot_tuple_eq.lookup ?_);show wpAny _ _ (isInstance (.ref a) (.type "tuple") >>= _) _ _ s;refine Xf (wpAny_isInstance hT isSubtype_tuple_tuple ?_);simp only[XG,XB,if_false];refine Xf (wpAny_seqItems h1 h3 ?_);refine Xf ?_;rw[←Array.forIn_toList];show wpAny _ _ (forIn [Value.ref b,Value.int k.2 t] _ _) _ _ s;rw[List.forIn_cons];refine Xf (Xf (Qz h4 ?_));simp only[XG,XB,if_false];refine Xj ?_;show wpAny _ _ (forIn [Value.int k.2 t] _ _) _ _ s;rw[List.forIn_cons,eqIsQuiet_byValue _ rfl];refine Xf (Xf (Xj ?_));simp only[XG,XB,if_false];refine Xj ?_;show wpAny _ _ (forIn [] _ _) _ _ s;rw[List.forIn_nil];exact Xj (Xj h)
end
def xC(P:Program)(w:World):HeapKind P w NK where
 is:=NkIs P w
 hash:=DA P w
 draws:=fun k=>k.1.length+3
 room:=fun A=>A.units+4<cLine
 inj:=fun x y=>x.inj y
 keeps:=fun x h1 h2 h3=>x.keeps h1 h2 h3
 pyHash:=fun h x q=>Wf h x q
 eqBool:=fun h x y q=>WK h x y q
 quiet:=fun x q=>Vx x q
inductive HO where
 |lst (xs:List V)
 |tup (xs:List V)
 |dK (kvs:List (Key×V))|dT (kvs:List (NK×V))
 |set (S:Int->Bool) (n:Nat)
 |ins (C dx:Addr) (fs:List (Str×V))
 |own (x:Addr)
 |xd (fs:List (Str×V))
 |met (f x:Addr)
 |rng (lo hi:Int)
 |frz (o:Obj) (u:HO)
 |tbl (ps:Array Value)
 |ext (φ:Heap->Prop)
abbrev Hp:=Addr->Option HO
def NKey(H:Hp)(b:Addr)(k:NK):Prop:=∃c,H b=some (.tup [.ref c,.int k.2])/\H c=some (.tup (k.1.map V.int))
def NKey.up{H H':Hp}{b:Addr}{k:NK}(e:NKey H b k)(ht:∀b xs,H b=some (.tup xs)->H' b=some (.tup xs)):NKey H' b k:=let ⟨c,h1,h2⟩:=e;⟨c,ht _ _ h1,ht _ _ h2⟩
def upd(H:Hp)(a:Addr)(o:HO):Hp:=fun b=>if b=a then some o else H b
def rQ{H:Hp}{a:Addr}{o:HO}:upd H a o a=some o:=by unfold upd;rw[if_pos rfl]
def qW{H:Hp}{a b:Addr}{o:HO}(h:b≠a):upd H a o b=H b:=by unfold upd;rw[if_neg h]
def RF{H:Hp}{a b:Addr}{o u:HO}(h:H a=some o)(h':H b=some u)(d:o≠u):a≠b:=by
 intro e;subst e;rw[h] at h';exact d (XD h')
def sM{H:Hp}{a b:Addr}{o:HO}(h:H a=some o)(h':H b=none):a≠b:=by
 intro e;subst e;rw[h] at h';cases h'
section
variable (P:Program) (w:World)
def ObjOk(H:Hp)(h:Heap)(a:Addr):HO->Prop
 | .lst xs=>xs.length<=sizeLine/\∃(its:List Value) (n:Nat),Vals xs its/\h.get? a=some {cls:=.type "list",data:=.seq its.toArray n}
 | .tup xs=>xs.length<=sizeLine/\∃its:List Value,Vals xs its/\IsTup h a its.toArray
 | .dK kvs=>kvs.length<=sizeLine/\(a==sysModules)=false/\∃vs,KV kvs vs/\h.DictOf (tI P w) a vs
 | .dT kvs=>kvs.length<=sizeLine/\(a==sysModules)=false/\∃xs:List (NK×Addr×Value),
   Paired (fun(p:NK×V) (q:NK×Addr×Value)=>p.1=q.1/\NKey H q.2.1 p.1/\RelV p.2 q.2.2) kvs xs/\
   ∃o es ep,h.get? a=some o/\o.ExactDict/\o.data=.dict es ep/\es.toList=xs.map (entryOfKey (xC P w))/\(xs.map (·.1)).Nodup
 | .set S n=>h.SetOf (intKind P w) a S n
 | .ins C dx fs=>H dx=some (.own a)/\fs.length<=1000/\dx≠a/\h.get? a=some (PySem.W.instObj C dx)/\
   ∃mA,h.Ns1 dx mA/\(∀f,RelO (fs.lookup f) (mA f))/\PySem.Within mA (fs.map (·.1))
 | .own _=>∃o,h.get? a=some o
 | .xd fs=>∃mA,h.Ns1 a mA/\∀f,RelO (fs.lookup f) (mA f)
 | .rng lo hi=>∃t u v,h.get? a=some {cls:=.type "range",data:=.fields #[.int lo t,.int hi u,.int 1 v]}
 | .frz o u=>h.get? a=some o/\ObjOk H h a u
 | .tbl ps=>h.get? a=some {cls:=.none,data:=.fields ps}
 | .met f x=>h.get? a=some (PySem.W.methodObj (.ref f) (.ref x))
 | .ext φ=>φ h/\(∃o,h.get? a=some o)/\∀h1 h2:Heap,φ h1->(∀o,h1.get? a=some o->h2.get? a=some o)->φ h2
def HOk(H:Hp)(h:Heap):Prop:=∀a o,H a=some o->ObjOk P w H h a o
end
section
variable {P:Program} {w:World} {H H':Hp} {h h':Heap} {a:Addr} {o:HO}
theorem ObjOk.lt(x:ObjOk P w H h a o):a<h.objs.size:=by
 cases o with
 |lst xs=>obtain⟨_,_,_,_,e⟩:=x;exact Xo e
 |tup xs=>obtain⟨_,_,_,p⟩:=x;exact p.lt
 |dK kvs=>obtain⟨_,_,_,_,o,_,_,e,_⟩:=x;exact Xo e
 |dT kvs=>obtain⟨_,_,_,_,o,_,_,e,_⟩:=x;exact Xo e
 |set S n=>obtain⟨o,_,_,_,e,_⟩:=x;exact Xo e
 |ins C dx fs=>obtain⟨_,_,_,e,_⟩:=x;exact Xo e
 |own y=>obtain⟨_,e⟩:=x;exact Xo e
 |xd fs=>obtain⟨_,⟨_,_,_,e,_⟩,_⟩:=x;exact Xo e
 |rng lo hi=>obtain⟨_,_,_,e⟩:=x;exact Xo e
 |frz ob u=>obtain⟨e,_⟩:=x;exact Xo e
 |tbl ps=>exact Xo (show h.get? a=some _ from x)
 |met f y=>exact Xo (show h.get? a=some _ from x)
 |ext φ=>obtain⟨_,⟨_,e⟩,_⟩:=x;exact Xo e
theorem Paired.mapP{α β:Type}{F G:α->β->Prop}:∀{Zi:List α} {Zh:List β},Paired F Zi Zh->(∀a b,F a b->G a b)->Paired G Zi Zh
 |_,_,.nil,_=>.nil
 |_,_,.cons r t,f=>.cons (f _ _ r) (Paired.mapP t f)
theorem ObjOk.stay(x:ObjOk P w H h a o)(k:∀b u,(b=a\/H b=some (.own a))->h.get? b=some u->h'.get? b=some u)
  (ho:∀b,H b=some (.own a)->H' b=some (.own a)) (ht:∀b xs,H b=some (.tup xs)->H' b=some (.tup xs)):ObjOk P w H' h' a o:=by
 induction o with
 |lst xs=>obtain⟨z,its,n,r,e⟩:=x;exact⟨z,its,n,r,k _ _ (.inl rfl) e⟩
 |tup xs=>obtain⟨z,its,r,ob,e,c⟩:=x;exact⟨z,its,r,ob,k _ _ (.inl rfl) e,c⟩
 |dK kvs=>obtain⟨z,y,vs,r,ob,es,ep,e,c⟩:=x;exact⟨z,y,vs,r,ob,es,ep,k _ _ (.inl rfl) e,c⟩
 |dT kvs=>
  obtain⟨z,y,xs,r,ob,es,ep,e,c⟩:=x;exact⟨z,y,xs,Paired.mapP r fun p q z=>⟨z.1,z.2.1.up ht,z.2.2⟩,ob,es,ep,k _ _ (.inl rfl) e,c⟩
 |set S n=>obtain⟨ob,es,ep,t,e,c⟩:=x;exact⟨ob,es,ep,t,k _ _ (.inl rfl) e,c⟩
 |ins C dx fs=>
  obtain⟨d,z,ne,e,mA,⟨od,es,ep,e2,c⟩,r⟩:=x;exact⟨ho _ d,z,ne,k _ _ (.inl rfl) e,mA,⟨od,es,ep,k _ _ (.inr d) e2,c⟩,r⟩
 |own y=>obtain⟨ob,e⟩:=x;exact⟨ob,k _ _ (.inl rfl) e⟩
 |xd fs=>obtain⟨mA,⟨od,es,ep,e,c⟩,r⟩:=x;exact⟨mA,⟨od,es,ep,k _ _ (.inl rfl) e,c⟩,r⟩
 |rng lo hi=>obtain⟨t,u,v,e⟩:=x;exact⟨t,u,v,k _ _ (.inl rfl) e⟩
 |frz ob u ih=>obtain⟨e,q⟩:=x;exact⟨k _ _ (.inl rfl) e,ih q⟩
 |tbl ps=>
  have e:h.get? a=some {cls:=.none,data:=.fields ps}:=x;show h'.get? a=some {cls:=.none,data:=.fields ps};exact k a _ (.inl rfl) e
 |met f y=>
  have e:h.get? a=some (PySem.W.methodObj (.ref f) (.ref y)):=x;show h'.get? a=some (PySem.W.methodObj (.ref f) (.ref y));exact k a _ (.inl rfl) e
 |ext φ=>obtain⟨p,⟨o,e⟩,st⟩:=x;exact⟨st _ _ p fun o q=>k _ _ (.inl rfl) q,⟨o,k _ _ (.inl rfl) e⟩,st⟩
theorem HOk.lt(x:HOk P w H h)(e:H a=some o):a<h.objs.size:=(x a o e).lt
theorem HOk.fresh(x:HOk P w H h)(e:h.objs.size<=a):H a=none:=by
 cases q:H a with
 |none=>rfl
 |some u=>exact absurd (XC (x.lt q) e) (X7 _)
theorem HOk.kept(x:HOk P w H h)(k:∀b u,h.get? b=some u->h'.get? b=some u):HOk P w H h':=fun a o e=>
 (x a o e).stay (fun b u _ q=>k b u q) (fun _ q=>q) fun _ _ q=>q
theorem HOk.laid(x:HOk P w H h)(k:∀b u,h.get? b=some u->h'.get? b=some u)(hp:h.objs.size<=a)(new:ObjOk P w (upd H a o) h' a o):HOk P w (upd H a o) h':=fun b u e=>by
 have hn:=x.fresh hp;by_cases hb:b=a
 ·subst hb;rw[rQ] at e;cases e;exact new
 ·rw[qW hb] at e;exact(x b u e).stay (fun c v _ q=>k c v q) (fun c q=>by rw[qW (sM q hn)];exact q) fun c xs q=>by rw[qW (sM q hn)];exact q
end
def Rd(H:Hp)(a:Addr)(u:HO):Prop:=H a=some u\/∃o,H a=some (.frz o u)
def Rd.ok{P:Program}{w:World}{H:Hp}{h:Heap}{a:Addr}{u:HO}(r:Rd H a u)(x:HOk P w H h):ObjOk P w H h a u:=by
 rcases r with r|⟨o,r⟩
 ·exact x a u r
 ·obtain⟨_,q⟩:=x a _ r;exact q
def Mut:Option HO->Prop
 |some (.lst _)=>True
 |some (.dK _)=>True
 |some (.dT _)=>True
 |some (.set _ _)=>True
 |some (.ins _ _ _)=>True
 |some (.ext _)=>True
 |_=>False
section
variable {P:Program} {w:World} {H:Hp} {h h':Heap} {x e:Addr} {o':HO}
theorem HOk.write(ok:HOk P w H h)(mu:Mut (H x))(he:e=x\/H e=some (.own x))(k:∀b u,b≠e->h.get? b=some u->h'.get? b=some u)(heo:∃u,h'.get? e=some u)
  (new:ObjOk P w (upd H x o') h' x o'):HOk P w (upd H x o') h':=fun b u q=>by
 have nown:∀c y,H c=some (.own y)->c≠x:=fun c y r z=>by subst z;rw[r] at mu;exact mu
 have ntup:∀c xs,H c=some (.tup xs)->c≠x:=fun c xs r z=>by subst z;rw[r] at mu;exact mu
 by_cases hb:b=x
 ·subst hb;rw[rQ] at q;cases q;exact new
 ·rw[qW hb] at q;by_cases hbe:b=e
  ·have q':H b=some (.own x):=by
    rcases he with z|z
    ·exact absurd (hbe.trans z) hb
    ·rw[hbe];exact z
   rw[q] at q';cases q';obtain⟨v,hv⟩:=heo;exact⟨v,by rw[hbe];exact hv⟩
  ·refine(ok b u q).stay (fun c v hc r=>k c v ?_ r) (fun c r=>by rw[qW (nown c b r)];exact r) fun c xs r=>by rw[qW (ntup c xs r)];exact r
   rcases hc with rfl|hc
   ·exact hbe
   ·rintro rfl;rcases he with z|z
    ·exact nown c b hc z
    ·rw[hc] at z;cases z;exact hb rfl
end
structure Un (fs ex:List Addr) (H H':Hp) (h h':Heap):Prop where
 keep:∀b o,h.get? b=some o->H b=none->b∉fs->b∉ex->h'.get? b=some o
 slot:∀b o,h.get? b=some o->H b=none->b∈fs->b∉ex->∃sl,h'.get? b=some {o with slots:=sl}
 free:∀b o,h.get? b=some o->H b=none->b∉ex->H' b=none
 there:∀b o,h.get? b=some o->b∉ex->∃o',h'.get? b=some o'
 tups:∀b xs,H b=some (.tup xs)->H' b=some (.tup xs)
 frzs:∀b o u,H b=some (.frz o u)->H' b=some (.frz o u)
 tbls:∀b ps,H b=some (.tbl ps)->∃more,H' b=some (.tbl (ps++more))
section
variable {fs ex:List Addr} {H H1:Hp} {h h1 h':Heap} {a x e:Addr} {o:HO}
theorem Un.any(u:Un fs ex H H1 h h1){b:Addr}{ob:Obj}(q:h.get? b=some ob)(n:H b=none)(hx:b∉ex):∃sl,h1.get? b=some {ob with slots:=sl}:=by
 by_cases hb:b∈fs
 ·exact u.slot b ob q n hb hx
 ·exact⟨ob.slots,u.keep b ob q n hb hx⟩
theorem Un.kept(k:∀b u,h.get? b=some u->h'.get? b=some u):Un fs ex H H h h':=
 ⟨fun b ob q _ _ _=>k b ob q,fun b ob q _ _ _=>⟨ob.slots,k b ob q⟩,fun _ _ _ n _=>n,fun b ob q _=>⟨ob,k b ob q⟩,fun _ _ q=>q,fun _ _ _ q=>q,fun _ ps q=>⟨#[],by rw[q];simp⟩⟩
theorem Un.refl:Un fs ex H H h h:=Un.kept fun _ _ q=>q
theorem Un.laid(k:∀b u,h.get? b=some u->h'.get? b=some u)(hp:h.objs.size<=a)(hn:H a=none):Un fs ex H (upd H a o) h h' where
 keep:=fun b u q _ _ _=>k b u q
 slot:=fun b u q _ _ _=>⟨u.slots,k b u q⟩
 free:=fun b u q n _=>by rw[qW (Xz (XC (Xo q) hp))];exact n
 there:=fun b u q _=>⟨u,k b u q⟩
 tups:=fun b xs q=>by rw[qW (sM q hn)];exact q
 frzs:=fun b u xs q=>by rw[qW (sM q hn)];exact q
 tbls:=fun b ps q=>⟨#[],by rw[qW (sM q hn),q];simp⟩
theorem Un.write(mu:Mut (H x))(he:e=x\/H e=some (.own x))(k:∀b u,b≠e->h.get? b=some u->h'.get? b=some u)(heo:∃u,h'.get? e=some u):Un fs ex H (upd H x o) h h':=by
 have hx:∀b,H b=none->b≠x:=fun b n z=>by subst z;rw[n] at mu;exact mu
 have hb:∀b,H b=none->b≠e:=fun b n z=>by
  subst z;rcases he with r|r
  ·exact hx b n r
  ·rw[n] at r;cases r
 have hm:∀b u,H b=some u->¬Mut (some u)->b≠x:=fun b u q nm z=>by subst z;rw[q] at mu;exact nm mu
 refine⟨fun b u q n _ _=>k b u (hb b n) q,fun b u q n _ _=>⟨u.slots,k b u (hb b n) q⟩,fun b u q n _=>by rw[qW (hx b n)];exact n,fun b u q _=>?_,
  fun b xs q=>by rw[qW (hm b _ q fun z=>z)];exact q,fun b u xs q=>by rw[qW (hm b _ q fun z=>z)];exact q,fun b ps q=>⟨#[],by rw[qW (hm b _ q fun z=>z),q];simp⟩⟩
 by_cases hbe:b=e
 ·subst hbe;exact heo
 ·exact⟨u,k b u hbe q⟩
end
def trk(h:Heap)(H:Hp):List Addr:=(List.range h.objs.size).filter fun a=>(H a).isSome
def vQ(h:Heap)(H:Hp):Heap:=PySem.W.hideAll h (trk h H)
def R3(h:Heap)(H:Hp):(vQ h H).objs.size=h.objs.size:=PySem.W.hideAll_size _ _
def WH{h:Heap}{H:Hp}{b:Addr}{o:Obj}(e:h.get? b=some o)(n:H b=none):(vQ h H).get? b=some o:=
 PySem.W.hideAll_get _ e fun hm=>by
  have q:(H b).isSome=true:=(Xy.mp hm).2;rw[n] at q;simp at q
def zw9{h:Heap}{H:Hp}{b:Addr}{o:Obj}(e:(vQ h H).get? b=some o):h.get? b=some o/\H b=none:=by
 have e':h.get? b=some o:=PySem.W.of_hideAll (trk h H) e;refine⟨e',?_⟩;cases q:H b with
 |none=>rfl
 |some x=>
  have hm:b∈trk h H:=Xy.mpr ⟨XT.mpr (Xo e'),by simp[q]⟩;have z:(vQ h H).get? b=none:=PySem.W.hideAll_none (trk h H) hm;rw[z] at e;cases e
def Sg(g h:Heap)(L:Addr):QS:=(List.range h.objs.size).filterMap fun a=>if a=L\/(g.get? a).isSome=true then none else(h.get? a).map fun o=>(a,o)
def qO(g h:Heap)(L d:Addr):QS:=(Sg g h L).filter fun p=>decide (p.1≠d)
structure Mod (K:Frag) (mg:Str->Option Value) (base:Heap):Prop where
 kin:K.In base
 glob:base.Ns mainGlobals mg
 blt:∃mb,base.Ns builtinsNs mb/\∀x:Str,x≠"__name__"->mb x=bootBuiltins x
 nolimit:base.NoLimit
structure Cx where
 prog:Program
 w:World
 K:Frag
 mg:Str->Option Value
 base:Heap
 A:Around
 N:List Str
 Z3:Shared
 Z1:Hp
 env:Env
 outer:List Env
 stack:List Env
 ex:List Addr
 fn:Str->Bool
 calm:Bool
 pn:QS
 xe:Value->Shared->Prop
def frs(l:List Env):List Addr:=l.filterMap (·.frame)
abbrev Cx.fs(X:Cx):List Addr:=frs X.outer
def Vis(sc:Scope)(x:Str):Prop:=sc.names.lookup x=some .local\/sc.names.lookup x=some .cell\/sc.names.lookup x=some .free
def Loc(sc:Scope)(x:Str):Prop:=sc.names.lookup x=some .local\/sc.names.lookup x=some .cell
def VT(env:Env)(h:Heap)(m:Str->Option Value)(x:Str)(u:Value):Prop:=
 (env.kindOf x=some .local/\m x=some u)\/((env.kindOf x=some .cell\/env.kindOf x=some .free)/\∃c,env.cells.lookup x=some c/\h.IsCell c (some u))
structure Cx.Ok (X:Cx):Prop where
 mod:Mod X.K X.mg X.base
 kind:X.env.scope.kind=.function
 glob:X.env.globals=mainGlobals
 blt:X.env.builtins=builtinsNs
 above:X.Z3.heap.objs.size<=X.env.locals
 inj:∀x y c,X.env.cells.lookup x=some c->X.env.cells.lookup y=some c->x=y
 has:∀x,(X.env.kindOf x=some .cell\/X.env.kindOf x=some .free)->∃c,X.env.cells.lookup x=some c
 cab:∀x c,X.fn x=true->X.env.cells.lookup x=some c->X.Z3.heap.objs.size<=c
 hd:X.calm=true->X.A.handled=none
 frames:X.A.frames=some X.stack
 stk:X.stack=X.outer\/(X.stack=X.env::X.outer/\X.env.frame=some X.env.locals)
 exf:∀b∈X.ex,b≠X.env.locals/\∀x c,X.env.cells.lookup x=some c->c≠b
 bs:∀b o,X.base.get? b=some o->X.Z3.heap.get? b=some o/\X.Z1 b=none
 bsz:X.base.objs.size<=X.Z3.heap.objs.size
 noex:∀b o,X.base.get? b=some o->b∉X.ex
 exfs:∀b∈X.ex,b∉X.fs
 funs:X.Z3.heap.FunFrames X.base X.outer
 frf:∀b∈X.fs,X.Z1 b=none
structure Inv (X:Cx) (pins:QS) (J:List (Option V)) (H:Hp) (s:Shared):Prop where
 ok:X.Ok
 os:s.os=X.Z3.os
 bare:AllBare s.gens
 base:Un X.fs X.ex X.Z1 H X.Z3.heap s.heap
 loc:∃m,s.heap.Ns X.env.locals m/\∀(i:Nat) (x:Str) (v:V),X.N[i]?=some x->J[i]?=some (some v)->Vis X.env.scope x->∃u,RelV v u/\VT X.env s.heap m x u
 cell:∀x c,X.env.cells.lookup x=some c->∃v,s.heap.IsCell c v
 free:H X.env.locals=none
 freeC:∀x c,X.env.cells.lookup x=some c->H c=none
 pin:∀p∈X.pn++pins,s.heap.get? p.1=some p.2/\H p.1=none/\p.1≠X.env.locals/\p.1∉X.fs/\∀v,p.2.data≠.cell v
 hok:HOk X.prog X.w H s.heap
 len:J.length=X.N.length
section
variable {X:Cx} {pins:QS} {J:List (Option V)} {H H':Hp} {s:Shared} {h':Heap}
theorem Cx.Ok.nofr(ok:X.Ok){b:Addr}{o:Obj}(e:X.base.get? b=some o):b∉X.fs:=fun hb=>by
 have:=(ok.funs.mem hb).1;rw[e] at this;cases this
theorem Inv.bs(I:Inv X pins J H s):∀b o,X.base.get? b=some o->s.heap.get? b=some o/\H b=none:=fun b o e=>
 ⟨I.base.keep b o (I.ok.bs b o e).1 (I.ok.bs b o e).2 (I.ok.nofr e) (I.ok.noex b o e),I.base.free b o (I.ok.bs b o e).1 (I.ok.bs b o e).2 (I.ok.noex b o e)⟩
theorem Inv.bk(I:Inv X pins J H s):∀b o,X.base.get? b=some o->s.heap.get? b=some o:=fun b o e=>(I.bs b o e).1
theorem Inv.mod(I:Inv X pins J H s):Mod X.K X.mg X.base:=I.ok.mod
theorem Inv.kIn(I:Inv X pins J H s):X.K.In s.heap:=I.ok.mod.kin.keeps I.bk
theorem Inv.lt(I:Inv X pins J H s):X.env.locals<s.heap.objs.size:=let ⟨_,hn,_⟩:=I.loc;hn.lt
theorem Inv.sz(I:Inv X pins J H s):X.Z3.heap.objs.size<=s.heap.objs.size:=XL I.ok.above (Nat.le_of_lt I.lt)
theorem Inv.nofs(I:Inv X pins J H s){a:Addr}(h:s.heap.objs.size<=a):a∉X.fs:=fun hb=>by
 obtain⟨_,o,ho,_⟩:=I.ok.funs.mem hb;exact(absurd (XC (Xo ho) (XL I.sz h)) (X7 _))
theorem Inv.cne(I:Inv X pins J H s):∀x c,X.env.cells.lookup x=some c->c≠X.env.locals:=fun x c e z=>by
 obtain⟨v,o,ho,hd⟩:=I.cell x c e;obtain⟨m,⟨o',es,ep,ho',hd',_⟩,_⟩:=I.loc;rw[z,ho'] at ho;cases ho;rw[hd'] at hd;cases hd
theorem Inv.funs(I:Inv X pins J H s):s.heap.FunFrames X.base X.outer:=by
 have all:∀(l:List Env),(∀b∈frs l,b∈X.fs)->X.Z3.heap.FunFrames X.base l->s.heap.FunFrames X.base l:=by
  intro l;induction l with
  |nil=>intro _ _;trivial
  |cons env r ih=>
   intro hs hl;obtain⟨hk,⟨L,o,hf,hn,ho,hd⟩,hr⟩:=hl;have hL:L∈X.fs:=hs L (by unfold frs;rw[List.filterMap_cons,hf];exact List.mem_cons_self);obtain⟨sl,e⟩:=I.base.slot L o ho (I.ok.frf L hL) hL fun z=>I.ok.exfs L z hL;exact⟨hk,⟨L,_,hf,hn,e,hd⟩,ih (fun b hb=>hs b (by unfold frs;rw[List.filterMap_cons,hf];exact XV _ hb)) hr⟩
 exact all X.outer (fun _ hb=>hb) I.ok.funs
theorem Inv.stack(I:Inv X pins J H s):s.heap.FunFrames X.base X.stack:=by
 rcases I.ok.stk with e|⟨e,hf⟩
 ·rw[e];exact I.funs
 ·rw[e];obtain⟨m,hn,_⟩:=I.loc;refine .cons (by rw[I.ok.kind];decide) hf hn ?_ I.funs;exact Heap.get?_none_of_le (XL I.ok.bsz I.ok.above)
theorem Inv.stkSub(I:Inv X pins J H s):∀b∈frs X.stack,b∈X.env.locals::X.fs:=fun b hb=>by
 rcases I.ok.stk with e|⟨e,hf⟩
 ·rw[e] at hb;exact XV _ hb
 ·rw[e] at hb;unfold frs at hb;rw[List.filterMap_cons,hf] at hb;exact hb
theorem Inv.stkFree(I:Inv X pins J H s):∀b∈frs X.stack,H b=none:=fun b hb=>by
 rcases XI.mp (I.stkSub b hb) with e|hb
 ·rw[e];exact I.free
 ·obtain⟨_,o,ho,_⟩:=I.ok.funs.mem hb;exact I.base.free b o ho (I.ok.frf b hb) fun z=>I.ok.exfs b z hb
theorem Inv.step{g':Array GenState}{t':Nat}{d':Drawn}{ch:List Addr}(I:Inv X pins J H s)
  (hch:∀b∈ch,(b∈X.ex\/X.Z3.heap.objs.size<=b)/\b≠X.env.locals/\(∀x c,X.env.cells.lookup x=some c->c≠b)/\∀p∈X.pn++pins,p.1≠b)
  (keep:∀b o,b≠X.env.locals->b∉X.fs->b∉ch->s.heap.get? b=some o->H b=none->h'.get? b=some o)
  (slot:∀b o,b≠X.env.locals->b∈X.fs->b∉ch->s.heap.get? b=some o->H b=none->∃sl,h'.get? b=some {o with slots:=sl}) (free:∀b o,b∉ch->s.heap.get? b=some o->H b=none->H' b=none)
  (there:∀b o,b∉ch->s.heap.get? b=some o->∃o',h'.get? b=some o')
  (tups:∀b xs,H b=some (.tup xs)->H' b=some (.tup xs)) (frzs:∀b o u,H b=some (.frz o u)->H' b=some (.frz o u)) (tbls:∀b ps,H b=some (.tbl ps)->∃more,H' b=some (.tbl (ps++more)))
  (ns:∀m,s.heap.Ns X.env.locals m->h'.Ns X.env.locals m) (hok:HOk X.prog X.w H' h') (hg:AllBare g'):
  Inv X pins J H' {s with heap:=h',gens:=g',drawn:=d',toks:=t'}:=by
 have neL:∀b o,X.Z3.heap.get? b=some o->b≠X.env.locals:=fun b o e=>Xz (XC (Xo e) I.ok.above);have neC:∀b o,X.Z3.heap.get? b=some o->b∉X.ex->b∉ch:=fun b o e hx hb=>by
  rcases(hch b hb).1 with z|z
  ·exact hx z
  ·exact absurd (XC (Xo e) z) (X7 _)
 have cellK:∀x c,X.env.cells.lookup x=some c->∀v,s.heap.IsCell c v->h'.IsCell c v:=fun x c e v ⟨o,ho,hd⟩=>by
  have nch:c∉ch:=fun z=>(hch c z).2.2.1 x c e rfl;by_cases hc:c∈X.fs
  ·obtain⟨sl,q⟩:=slot c o (I.cne x c e) hc nch ho (I.freeC x c e);exact⟨_,q,hd⟩
  ·exact⟨o,keep c o (I.cne x c e) hc nch ho (I.freeC x c e),hd⟩
 refine⟨I.ok,I.os,hg,⟨fun b o e n hb hx=>?_,fun b o e n hb hx=>?_,fun b o e n hx=>?_,fun b o e hx=>?_,fun b xs e=>tups b xs (I.base.tups b xs e),fun b o xs e=>frzs b o xs (I.base.frzs b o xs e),fun b ps e=>?_⟩,?_,fun x c e=>?_,?_,fun x c e=>?_,fun p hp=>?_,hok,I.len⟩
 ·exact keep b o (neL b o e) hb (neC b o e hx) (I.base.keep b o e n hb hx) (I.base.free b o e n hx)
 ·obtain⟨sl,e1⟩:=I.base.slot b o e n hb hx;obtain⟨sl',e2⟩:=slot b _ (neL b o e) hb (neC b o e hx) e1 (I.base.free b o e n hx);exact(⟨sl',e2⟩)
 ·obtain⟨o',e1⟩:=I.base.there b o e hx;exact free b o' (neC b o e hx) e1 (I.base.free b o e n hx)
 ·obtain⟨o',e1⟩:=I.base.there b o e hx;exact there b o' (neC b o e hx) e1
 ·obtain⟨m1,e1⟩:=I.base.tbls b ps e;obtain⟨m2,e2⟩:=tbls b _ e1;exact(⟨m1++m2,by rw[e2,Array.append_assoc]⟩)
 ·obtain⟨m,hn,hl⟩:=I.loc;refine⟨m,ns m hn,fun i x v e1 e2 e3=>?_⟩;obtain⟨u,r,l⟩:=hl i x v e1 e2 e3;refine(⟨u,r,?_⟩);rcases l with l|⟨k,c,e,z⟩
  ·exact .inl l
  ·exact .inr ⟨k,c,e,cellK x c e _ z⟩
 ·obtain⟨v,z⟩:=I.cell x c e;exact⟨v,cellK x c e v z⟩
 ·obtain⟨m,⟨o,_,_,ho,_⟩,_⟩:=I.loc;exact free _ o (fun z=>(hch _ z).2.1 rfl) ho I.free
 ·obtain⟨v,o,ho,hd⟩:=I.cell x c e;exact free c o (fun z=>(hch c z).2.2.1 x c e rfl) ho (I.freeC x c e)
 ·obtain⟨e,n,ne,nf,d⟩:=I.pin p hp;have nch:p.1∉ch:=fun z=>(hch p.1 z).2.2.2 p hp rfl;exact⟨keep p.1 p.2 ne nf nch e n,free p.1 p.2 nch e n,ne,nf,d⟩
theorem Inv.un{t':Nat}(I:Inv X pins J H s)(u:Un X.fs [] H H' s.heap h')(hok:HOk X.prog X.w H' h'):Inv X pins J H' {s with heap:=h',toks:=t'}:=by
 obtain⟨m,⟨o,es,ep,ho,r⟩,_⟩:=id I.loc;obtain⟨sl,hL⟩:=u.any ho I.free (by simp);exact I.step (g':=s.gens) (d':=s.drawn) (ch:=[]) (fun _ z=>nomatch z) (fun b o _ hb _ e n=>u.keep b o e n hb (by simp)) (fun b o _ hb _ e n=>u.slot b o e n hb (by simp)) (fun b o _ e n=>u.free b o e n (by simp)) (fun b o _ e=>u.there b o e (by simp)) u.tups u.frzs u.tbls (fun m' hm=>by
  obtain⟨o',es',ep',ho',r'⟩:=hm;rw[ho] at ho';cases ho';exact⟨_,es',ep',hL,r'⟩) hok I.bare
theorem Inv.call{g':Array GenState}{t':Nat}{d':Drawn}{ch:List Addr}(I:Inv X pins J H s)(u:Un (frs X.stack) ch H H' s.heap h')(hok:HOk X.prog X.w H' h')(hg:AllBare g')
  (hch:∀b∈ch,(b∈X.ex\/X.Z3.heap.objs.size<=b)/\b≠X.env.locals/\(∀x c,X.env.cells.lookup x=some c->c≠b)/\∀p∈X.pn++pins,p.1≠b):
  Inv X pins J H' {s with heap:=h',gens:=g',drawn:=d',toks:=t'}:=by
 obtain⟨m,⟨o,es,ep,ho,r⟩,_⟩:=id I.loc;obtain⟨sl,hL⟩:=u.any ho I.free fun z=>(hch _ z).2.1 rfl;exact I.step (ch:=ch) hch (fun b o hL hb hc e n=>u.keep b o e n (fun z=>(XI.mp (I.stkSub b z)).elim hL hb) hc) (fun b o _ _ hc e n=>u.any e n hc) (fun b o hc e n=>u.free b o e n hc) (fun b o hc e=>u.there b o e hc) u.tups u.frzs u.tbls (fun m' hm=>by
  obtain⟨o',es',ep',ho',r'⟩:=hm;rw[ho] at ho';cases ho';exact⟨_,es',ep',hL,r'⟩) hok hg
theorem Inv.turned{t':Nat}{it:Addr}(I:Inv X pins J H s)(k:∀b o,b≠it->s.heap.get? b=some o->h'.get? b=some o)(hn:H it=none)(hL:it≠X.env.locals)
  (h1:it∈X.ex\/X.Z3.heap.objs.size<=it) (h2:∀x c,X.env.cells.lookup x=some c->c≠it) (h3:∀p∈X.pn++pins,p.1≠it):Inv X pins J H {s with heap:=h',toks:=t'}:=by
 have nit:∀b u,H b=some u->b≠it:=fun b u e z=>by rw[z,hn] at e;cases e
 refine I.step (g':=s.gens) (d':=s.drawn) (ch:=[it]) (fun b hb=>?_) (fun b o _ _ hc e _=>k b o (fun z=>hc (by simp[z])) e) (fun b o _ _ hc e _=>⟨o.slots,k b o (fun z=>hc (by simp[z])) e⟩) (fun _ _ _ _ n=>n)
  (fun b o hc e=>⟨o,k b o (fun z=>hc (by simp[z])) e⟩) (fun _ _ e=>e) (fun _ _ _ e=>e) (fun b ps e=>⟨#[],by rw[e];simp⟩) (fun m hm=>?_) (fun b u e=>?_) I.bare
 ·have e:b=it:=by simpa using hb
  subst e;exact⟨h1,hL,h2,h3⟩
 ·obtain⟨o,es,ep,ho,r⟩:=hm;exact⟨o,es,ep,k _ o (Ne.symm hL) ho,r⟩
 ·refine(I.hok b u e).stay (fun c v hc q=>k c v ?_ q) (fun _ q=>q) fun _ _ q=>q;rcases hc with z|z
  ·rw[z];exact nit b u e
  ·exact nit c _ z
theorem Inv.tok(I:Inv X pins J H s)(t:Nat):Inv X pins J H {s with toks:=t}:=I.un (h':=s.heap) (t':=t) Un.refl I.hok
theorem Inv.kept{t':Nat}(I:Inv X pins J H s)(k:∀b u,s.heap.get? b=some u->h'.get? b=some u):Inv X pins J H {s with heap:=h',toks:=t'}:=I.un (Un.kept k) (I.hok.kept k)
theorem Inv.laid{a:Addr}{o:HO}{t':Nat}(I:Inv X pins J H s)(k:∀b u,s.heap.get? b=some u->h'.get? b=some u)(hp:s.heap.objs.size<=a)(new:ObjOk X.prog X.w (upd H a o) h' a o):
  Inv X pins J (upd H a o) {s with heap:=h',toks:=t'}:=I.un (Un.laid k hp (I.hok.fresh hp)) (I.hok.laid k hp new)
theorem Inv.write{x e:Addr}{o:HO}{t':Nat}(I:Inv X pins J H s)(mu:Mut (H x))(he:e=x\/H e=some (.own x))(k:∀b u,b≠e->s.heap.get? b=some u->h'.get? b=some u)(heo:∃u,h'.get? e=some u)
  (new:ObjOk X.prog X.w (upd H x o) h' x o):Inv X pins J (upd H x o) {s with heap:=h',toks:=t'}:=I.un (Un.write mu he k heo) (I.hok.write mu he k heo new)
theorem Inv.pins_of{pins':QS}(I:Inv X pins J H s)(h:∀p∈pins',s.heap.get? p.1=some p.2/\H p.1=none/\p.1≠X.env.locals/\p.1∉X.fs/\∀v,p.2.data≠.cell v):Inv X pins' J H s:=
 ⟨I.ok,I.os,I.bare,I.base,I.loc,I.cell,I.free,I.freeC,fun p hp=>(XN.mp hp).elim (fun z=>I.pin p (List.mem_append_left _ z)) (h p),I.hok,I.len⟩
theorem G0{N:List Str}(hN:N.Nodup){i j:Nat}{x:Str}(a:N[i]?=some x)(b:N[j]?=some x):i=j:=by
 obtain⟨h1,e1⟩:=Xi.mp a;obtain⟨h2,e2⟩:=Xi.mp b;exact((List.getElem_inj hN).mp (e1.trans e2.symm))
theorem ME{M:Model}{A:Around}{E:OK}{i:Nat}{x:Str}{v:V}{u:Value}{Q:Unit->Shared->Prop}(I:Inv X pins J H s)(hN:X.N.Nodup)(hi:X.N[i]?=some x)(hx:Loc X.env.scope x)(r:RelV v u)
  (h:∀s',Inv X pins (J.set i (some v)) H s'->(∃a,Heap.SameBut a s.heap s'.heap/\(a=X.env.locals\/X.env.cells.lookup x=some a))->Q () s') (hf:X.fn x=true\/X.env.scope.names.lookup x=some .local:=by first|exact .inl rfl|exact .inr rfl|assumption):wpAny M A (storeName X.env x u) Q E s:=by
 obtain⟨m,hn,hl⟩:=id I.loc;have hcls:(X.env.scope.kind==.class||(X.env.scope.kind==.module&&X.env.locals !=X.env.globals))=false:=by rw[I.ok.kind];rfl
 have Zg:i<J.length:=by rw[I.len];exact(Xi.mp hi).1
 have cne:=I.cne;have tracked:∀{a:Addr} {h':Heap},(∃o,s.heap.get? a=some o/\H a=none)->Heap.SameBut a s.heap h'->HOk X.prog X.w H h':=fun{a h'} ha hs b ob e=>by
  obtain⟨_,_,hfree⟩:=ha;refine((I.hok b ob e).stay (fun c w' hc q=>(hs.2 c ?_).trans q) (fun _ q=>q) fun _ _ q=>q);rintro rfl;rcases hc with rfl|hc
  ·rw[hfree] at e;cases e
  ·rw[hfree] at hc;cases hc
 rcases hx with hk|hk
 ·refine wpAny_storeName_local hk hn (fun h' hn' hs=>?_) hcls;obtain⟨oL,_,_,hoL,_⟩:=id hn;refine(h _ ⟨I.ok,I.os,I.bare,⟨fun b o e n hb hx=>?_,fun b o e n hb hx=>?_,I.base.free,fun b o e hx=>?_,I.base.tups,I.base.frzs,I.base.tbls⟩,⟨_,hn',fun j y v' e1 e2 e3=>?_⟩,fun y c e=>?_,I.free,I.freeC,fun p hp=>?_,tracked ⟨oL,hoL,I.free⟩ hs,by simpa using I.len⟩ ⟨_,hs,.inl rfl⟩)
  ·exact(hs.2 b (Xz (XC (Xo e) I.ok.above))).trans (I.base.keep b o e n hb hx)
  ·obtain⟨sl,e1⟩:=I.base.slot b o e n hb hx;exact⟨sl,(hs.2 b (Xz (XC (Xo e) I.ok.above))).trans e1⟩
  ·obtain⟨o',e1⟩:=I.base.there b o e hx;exact⟨o',(hs.2 b (Xz (XC (Xo e) I.ok.above))).trans e1⟩
  ·by_cases hj:j=i
   ·subst hj;rw[hi] at e1;cases e1;rw[List.getElem?_set_self Zg] at e2;cases e2;exact⟨u,r,.inl ⟨hk,by simp⟩⟩
   ·rw[XQ (Ne.symm hj)] at e2;obtain⟨u',r',q⟩:=hl j y v' e1 e2 e3;refine(⟨u',r',?_⟩);rcases q with⟨k,e⟩|⟨k,c,e,z⟩
    ·refine .inl ⟨k,?_⟩;have:y≠x:=fun e=>hj (G0 hN e1 (e▸hi));simp[this,e]
    ·exact .inr ⟨k,c,e,z.sameBut hs (cne y c e)⟩
  ·obtain⟨w',z⟩:=I.cell y c e;exact⟨w',z.sameBut hs (cne y c e)⟩
  ·obtain⟨e,n,ne,nf,d⟩:=I.pin p hp;exact⟨(hs.2 p.1 ne).trans e,n,ne,nf,d⟩
 ·have hfn:X.fn x=true:=by
   rcases hf with z|z
   ·exact z
   ·rw[z] at hk;cases hk
  obtain⟨c,hc⟩:=I.ok.has x (.inl hk);obtain⟨w',z⟩:=I.cell x c hc;refine(wpAny_storeName_cell I.ok.kind hk hc z (fun h' hc' hs=>?_));obtain⟨oc,hoc,hocd⟩:=id z;refine(h {s with heap:=h'} ⟨I.ok,I.os,I.bare,⟨fun b o e n hb hx=>?_,fun b o e n hb hx=>?_,I.base.free,fun b o e hx=>?_,I.base.tups,I.base.frzs,I.base.tbls⟩,⟨m,hn.sameBut hs (Ne.symm (cne x c hc)),fun j y v' e1 e2 e3=>?_⟩,fun y c' e=>?_,I.free,I.freeC,fun p hp=>?_,tracked ⟨oc,hoc,I.freeC x c hc⟩ hs,by simpa using I.len⟩ ⟨c,hs,.inr hc⟩)
  ·exact(hs.2 b (Xz (XC (Xo e) (I.ok.cab x c hfn hc)))).trans (I.base.keep b o e n hb hx)
  ·obtain⟨sl,e1⟩:=I.base.slot b o e n hb hx;exact⟨sl,(hs.2 b (Xz (XC (Xo e) (I.ok.cab x c hfn hc)))).trans e1⟩
  ·obtain⟨o',e1⟩:=I.base.there b o e hx;exact⟨o',(hs.2 b (Xz (XC (Xo e) (I.ok.cab x c hfn hc)))).trans e1⟩
  ·by_cases hj:j=i
   ·subst hj;rw[hi] at e1;cases e1;rw[List.getElem?_set_self Zg] at e2;cases e2;exact⟨u,r,.inr ⟨.inl hk,c,hc,hc'⟩⟩
   ·rw[XQ (Ne.symm hj)] at e2;obtain⟨u',r',q⟩:=hl j y v' e1 e2 e3;refine(⟨u',r',?_⟩);rcases q with q|⟨k,c',e,z'⟩
    ·exact .inl q
    ·refine .inr ⟨k,c',e,z'.sameBut hs ?_⟩;rintro rfl;exact hj (G0 hN e1 (I.ok.inj _ _ _ e hc▸hi))
  ·by_cases hcc:c'=c
   ·subst hcc;exact⟨_,hc'⟩
   ·obtain⟨w2,z2⟩:=I.cell y c' e;exact⟨w2,z2.sameBut hs hcc⟩
  ·obtain⟨e,n,ne,nf,d⟩:=I.pin p hp;refine⟨(hs.2 p.1 ?_).trans e,n,ne,nf,d⟩;intro q;rw[q,hoc] at e;have q':oc=p.2:=XD e;exact d w' (by rw[←q'];exact hocd)
theorem Dy{M:Model}{A:Around}{E:OK}{i:Nat}{x:Str}{v:V}{u:Value}{Q:Unit->Shared->Prop}(I:Inv X pins J H s)(hN:X.N.Nodup)(hi:X.N[i]?=some x)(hx:Loc X.env.scope x)(r:RelV v u)
  (h:∀s',Inv X pins (J.set i (some v)) H s'->Q () s') (hf:X.fn x=true\/X.env.scope.names.lookup x=some .local:=by first|exact .inl rfl|exact .inr rfl|assumption):wpAny M A (storeName X.env x u) Q E s:=
 ME I hN hi hx r (fun s' I' _=>h s' I') hf
theorem Inv.call'{s':Shared}{ch:List Addr}(I:Inv X pins J H s)(ho:s'.os=s.os)(u:Un (frs X.stack) ch H H' s.heap s'.heap)(hok:HOk X.prog X.w H' s'.heap)(hg:AllBare s'.gens)
  (hch:∀b∈ch,(b∈X.ex\/X.Z3.heap.objs.size<=b)/\b≠X.env.locals/\(∀x c,X.env.cells.lookup x=some c->c≠b)/\∀p∈X.pn++pins,p.1≠b):Inv X pins J H' s':=by
 obtain⟨h',g',d',t',o'⟩:=s';have e:o'=s.os:=ho;subst e;exact(I.call (g':=g') (t':=t') (d':=d') u hok hg hch)
end
abbrev XK:=Value->Option Addr->Hp->Prop
abbrev St:=List (Option V)
abbrev VK:=V->Hp->Prop
abbrev TE:=St->Hp->VK->Prop
abbrev TT:=St->Hp->(Bool->Hp->Prop)->Prop
abbrev TA:=St->Hp->(List V->Hp->Prop)->Prop
structure Ends where
 nx:St->Hp->Prop
 rt:VK
 bk:St->Hp->Prop:=fun _ _=>False
 ct:St->Hp->Prop:=fun _ _=>False
abbrev TS:=Ends->St->Hp->Prop
def EP(X:Cx)(pins:QS)(J:St)(Q:VK)(u:Value)(s':Shared):Prop:=∃v H',Inv X pins J H' s'/\RelV v u/\Q v H'
def TP(X:Cx)(pins:QS)(J:St)(Q:Bool->Hp->Prop)(b:Bool)(s':Shared):Prop:=∃H',Inv X pins J H' s'/\Q b H'
def AP(X:Cx)(pins:QS)(J:St)(Q:List V->Hp->Prop)(us:List Value)(s':Shared):Prop:=∃vs H',Inv X pins J H' s'/\Vals vs us/\Q vs H'
def SP(X:Cx)(pins:QS)(D:Ends)(f:Flow)(s':Shared):Prop:=
 match f with
 | .next=>∃Z0 H',Inv X pins Z0 H' s'/\D.nx Z0 H'
 | .brk=>∃Z0 H',Inv X pins Z0 H' s'/\D.bk Z0 H'
 | .cont=>∃Z0 H',Inv X pins Z0 H' s'/\D.ct Z0 H'
 | .ret u=>∃v Z0 H',Inv X pins Z0 H' s'/\RelV v u/\D.rt v H'
def PE(X:Cx)(e:Expr)(t:TE):Prop:=
 ∀(pins:QS) (s:Shared) (J:St) (H:Hp) (Q:VK),Inv X pins J H s->t J H Q->wpAny (model X.prog X.w) X.A (eval e X.env) (EP X pins J Q) X.xe s
def PT(X:Cx)(e:Expr)(t:TT):Prop:=
 ∀(pins:QS) (s:Shared) (J:St) (H:Hp) (Q:Bool->Hp->Prop),Inv X pins J H s->t J H Q->wpAny (model X.prog X.w) X.A (isTrue e X.env (eval e X.env)) (TP X pins J Q) X.xe s
def PW(X:Cx)(e:Expr)(t:TT):Prop:=
 ∀(whole:Sem Value) (pins:QS) (s:Shared) (J:St) (H:Hp) (Q:Bool->Hp->Prop),Inv X pins J H s->t J H Q->wpAny (model X.prog X.w) X.A (isTrue e X.env whole) (TP X pins J Q) X.xe s
def PW.pt{X:Cx}{e:Expr}{t:TT}(h:PW X e t):PT X e t:=h _
def PA(X:Cx)(es:List Expr)(t:TA):Prop:=
 ∀(pos:Pos) (pins:QS) (s:Shared) (J:St) (H:Hp) (Q:List V->Hp->Prop),Inv X pins J H s->t J H Q->wpAny (model X.prog X.w) X.A (spliced (backTo pos (starEach es X.env))) (AP X pins J Q) X.xe s
def PS(X:Cx)(st:Stmt)(t:TS):Prop:=
 ∀(pins:QS) (s:Shared) (J:St) (H:Hp) (D:Ends),Inv X pins J H s->t D J H->wpAny (model X.prog X.w) X.A (exec st X.env) (SP X pins D) X.xe s
def PSs(X:Cx)(st:List Stmt)(t:TS):Prop:=
 ∀(pins:QS) (s:Shared) (J:St) (H:Hp) (D:Ends),Inv X pins J H s->t D J H->wpAny (model X.prog X.w) X.A (execs st X.env) (SP X pins D) X.xe s
def thn{α:Type}{t:Sem α}{Q Q':α->Shared->Prop}{M:Model}{A:Around}{E:OK}{s:Shared}(h:wpAny M A t Q E s)(hQ:∀a s,Q a s->Q' a s):wpAny M A t Q' E s:=Xl h hQ fun _ _ x=>x
section
variable {X:Cx}
def Kk(i:Nat):TE:=fun J H Q=>∃v,J[i]?=some (some v)/\Q v H
def tC(v:V):TE:=fun _ H Q=>Q v H
theorem Jf{i:Nat}{x:Str}{pos:Pos}(hN:X.N[i]?=some x)(hv:Vis X.env.scope x)(hd:(x==("__debug__":Str))=false:=by decide) (hcd:(x==("__classdict__":Str))=false:=by decide):PE X (.Name x pos) (Kk i):=by
 intro pins s J H Q I h;obtain⟨v,e,h⟩:=h;obtain⟨m,hn,hl⟩:=I.loc;obtain⟨u,r,l⟩:=hl i x v hN e hv;have fin:EP X pins J Q u s:=⟨v,H,I,r,h⟩
 rcases l with⟨hk,hm⟩|⟨hk,c,hc,hcell⟩
 ·exact wpAny_Name (wpAny_loadName_local I.ok.kind hk hn hm fin) hd
 ·rcases hk with hk|hk
  ·exact wpAny_Name (wpAny_loadName_cell I.ok.kind hk hc hcell fin) hd
  ·exact wpAny_Name (wpAny_loadName_free I.ok.kind hk hc hcell fin hcd) hd
theorem Og{i j pos}:PE X (.Constant (.int i) j pos) (tC (.int i)):=fun _ _ _ H _ I h=>wpAny_Constant_int ⟨.int i,H,I.tok _,⟨_,rfl⟩,h⟩
theorem Vk{b j pos}:PE X (.Constant (.bool b) j pos) (tC (.bl b)):=fun _ _ _ H _ I h=>Constant_bool ⟨.bl b,H,I,rfl,h⟩
theorem VZ{j pos}:PE X (.Constant .none j pos) (tC .non):=fun _ _ _ H _ I h=>Constant_none ⟨.non,H,I,rfl,h⟩
theorem IC{x j pos}:PE X (.Constant (.str x) j pos) (tC (.str x)):=fun _ _ _ H _ I h=>Calls.Constant_str ⟨.str x,H,I.tok _,⟨_,rfl⟩,h⟩
def Gl(X:Cx)(x:Str):Prop:=X.env.kindOf x=some .globalImplicit
theorem zw{E:OK}{pins:QS}{s:Shared}{J:St}{H:Hp}{x:Str}{u:Value}{pos:Pos}{Q:OK}(I:Inv X pins J H s)(hg:Gl X x)(hm:X.mg x=some u)(h:Q u s)
  (hd:(x==("__debug__":Str))=false:=by decide):wpAny (model X.prog X.w) X.A (eval (.Name x pos) X.env) Q E s:=
 Calls.Name_function_global I.ok.kind hg (Calls.loadGlobal_global (by rw[I.ok.glob];exact I.mod.glob.keeps I.bk) hm h) hd
theorem wq{E:OK}{pins:QS}{s:Shared}{J:St}{H:Hp}{x:Str}{u:Value}{pos:Pos}{Q:OK}(I:Inv X pins J H s)(hg:Gl X x)(hm:X.mg x=none)(hv:bootBuiltins x=some u)(h:Q u s)
  (hn:x≠"__name__":=by decide) (hd:(x==("__debug__":Str))=false:=by decide):wpAny (model X.prog X.w) X.A (eval (.Name x pos) X.env) Q E s:=by
 obtain⟨mb,h1,h2⟩:=I.mod.blt;exact Calls.Name_function_global I.ok.kind hg (Calls.loadGlobal_builtin (by rw[I.ok.glob];exact I.mod.glob.keeps I.bk) hm (by rw[I.ok.blt];exact h1.keeps I.bk) ((h2 x hn).trans hv) h) hd
theorem zvz{x:Str}{v:V}{u:Value}{pos:Pos}(hg:Gl X x)(hm:X.mg x=some u)(r:RelV v u)(hd:(x==("__debug__":Str))=false:=by decide):PE X (.Name x pos) (tC v):=
 fun _ _ _ H _ I h=>zw I hg hm ⟨v,H,I,r,h⟩ hd
variable {a b:Expr} {ta tb:TE} {pos:Pos}
def PC(X:Cx)(op:CmpOp)(a b:Expr)(t:TE):Prop:=
 ∀(pins:QS) (s:Shared) (J:St) (H:Hp) (Q:VK),Inv X pins J H s->t J H Q->
  wpAny (model X.prog X.w) X.A (eval a X.env) (fun v ZU=>wpAny (model X.prog X.w) X.A (eval b X.env) (fun u ZK=>wpAny (model X.prog X.w) X.A (compareOp op v u) (EP X pins J Q) X.xe ZK) X.xe ZU) X.xe s
theorem Qg(b:Expr){op:CmpOp}(h:op≠.In)(h2:op≠.NotIn):behindInMarks op b=false:=by
 have e1:(op==CmpOp.In)=false:=by cases op<;>first|rfl|exact absurd rfl h
 have e2:(op==CmpOp.NotIn)=false:=by cases op<;>first|rfl|exact absurd rfl h2
 cases b<;>simp[behindInMarks,e1,e2]
def tB(t:TE):TT:=fun J H Q=>t J H fun x H1=>∃c,x=.bl c/\Q c H1
theorem RV{op:CmpOp}{t:TE}(h:PC X op a b t)(h1:behindInMarks op b=false:=by first|exact Qg _ (by decide) (by decide)|rfl):PT X (.Compare a [op] [b] pos) (tB t):=by
 intro pins s J H Q I hw;refine wpAny_isTrue_Compare1 (thn (h pins s J H _ I hw) fun v s1 h1=>thn h1 fun u s2 h2=>thn h2 fun c s3 hm=>?_) h1;obtain⟨x,H1,I1,r1,q1⟩:=hm;obtain⟨d,rfl,q⟩:=q1;cases r1;exact(X2 ⟨H1,I1,q⟩)
theorem VP{e:Expr}{t:TE}(h:PE X e t)(he:∀whole,isTrue e X.env whole=(do let v ←whole;standAt e.pos;holding [v] (truthy v)):=by intro _;rfl):PT X e (tB t):=by
 intro pins s J H Q I hw;refine isTrue_plain (thn (h pins s J H _ I hw) fun v s1 hm=>?_) (he _);obtain⟨x,H1,I1,r1,q1⟩:=hm;obtain⟨d,rfl,q⟩:=q1;cases r1;exact(X2 ⟨H1,I1,q⟩)
variable {tA tB':TT} {qO:List Expr}
def Ge(t u:TT):TT:=fun J H Q=>t J H fun c H1=>if c=true then u J H1 Q else Q false H1
def tOr(t u:TT):TT:=fun J H Q=>t J H fun c H1=>if c=true then Q true H1 else u J H1 Q
def y8c(t:TT):TT:=fun J H Q=>t J H fun c H1=>Q (!c) H1
theorem zvj(ha:PT X a tA):PW X (.BoolOp .And [a] pos) tA:=by
 intro wh pins s J H Q I h;refine isTrue_and (thn (ha pins s J H Q I h) fun c s1 e=>?_);cases c with
 |true=>exact isTrue_and_nil e
 |false=>exact e
theorem PL(ha:PT X a tA):PW X (.BoolOp .Or [a] pos) tA:=by
 intro wh pins s J H Q I h;refine isTrue_or (thn (ha pins s J H Q I h) fun c s1 e=>?_);cases c with
 |false=>exact isTrue_or_nil e
 |true=>exact e
theorem WP(ha:PT X a tA)(hb:PW X (.BoolOp .And (b::qO) pos) tB'):PW X (.BoolOp .And (a::b::qO) pos) (Ge tA tB'):=by
 intro wh pins s J H Q I h;refine isTrue_and (thn (ha pins s J H _ I h) fun c s1 hm=>?_);obtain⟨H1,I1,q1⟩:=hm;cases c with
 |true=>exact hb wh pins s1 J H1 Q I1 q1
 |false=>exact⟨H1,I1,q1⟩
theorem Sk(ha:PT X a tA)(hb:PW X (.BoolOp .Or (b::qO) pos) tB'):PW X (.BoolOp .Or (a::b::qO) pos) (tOr tA tB'):=by
 intro wh pins s J H Q I h;refine isTrue_or (thn (ha pins s J H _ I h) fun c s1 hm=>?_);obtain⟨H1,I1,q1⟩:=hm;cases c with
 |true=>exact⟨H1,I1,q1⟩
 |false=>exact hb wh pins s1 J H1 Q I1 q1
theorem MQ(ha:PT X a tA):PT X (.UnaryOp .Not a pos) (y8c tA):=by
 intro pins s J H Q I h;exact isTrue_not (ha pins s J H (fun c H1=>Q (!c) H1) I h)
def y4o(ta tb:TE):TE:=fun J H Q=>ta J H fun x H1=>∃c,x=.bl c/\if c=true then tb J H1 Q else Q (.bl false) H1
def VM(ta tb:TE):TE:=fun J H Q=>ta J H fun x H1=>∃c,x=.bl c/\if c=true then Q (.bl true) H1 else tb J H1 Q
theorem QR{op}{t:TE}(h:PE X a t):PE X (.BoolOp op [a] pos) t:=fun pins s J H Q I hw=>BoolOp_one (h pins s J H Q I hw)
theorem US(ha:PE X a ta)(hb:PE X (.BoolOp .And (b::qO) pos) tb):PE X (.BoolOp .And (a::b::qO) pos) (y4o ta tb):=by
 intro pins s J H Q I h;refine BoolOp_and (thn (ha pins s J H _ I h) fun v s1 hm=>?_);obtain⟨x,H1,I1,r1,q1⟩:=hm;obtain⟨c,rfl,q1⟩:=q1;cases r1;refine(X2 ?_);cases c with
 |true=>exact hb pins s1 J H1 Q I1 q1
 |false=>exact⟨.bl false,H1,I1,rfl,q1⟩
theorem y51(ha:PE X a ta)(hb:PE X (.BoolOp .Or (b::qO) pos) tb):PE X (.BoolOp .Or (a::b::qO) pos) (VM ta tb):=by
 intro pins s J H Q I h;refine BoolOp_or (thn (ha pins s J H _ I h) fun v s1 hm=>?_);obtain⟨x,H1,I1,r1,q1⟩:=hm;obtain⟨c,rfl,q1⟩:=q1;cases r1;refine(X2 ?_);cases c with
 |false=>exact hb pins s1 J H1 Q I1 q1
 |true=>exact⟨.bl true,H1,I1,rfl,q1⟩
def tIf(t:TT)(ta tb:TE):TE:=fun J H Q=>t J H fun c H1=>if c=true then ta J H1 Q else tb J H1 Q
theorem Wn{c:Expr}(hc:PT X c tA)(ha:PE X a ta)(hb:PE X b tb):PE X (.IfExp c a b pos) (tIf tA ta tb):=by
 intro pins s J H Q I h;refine wpAny_IfExp (thn (hc pins s J H _ I h) fun d s1 hm=>?_);obtain⟨H1,I1,q1⟩:=hm;cases d with
 |true=>exact ha pins s1 J H1 Q I1 q1
 |false=>exact hb pins s1 J H1 Q I1 q1
end
def SqL(K:Frag)(H:Hp)(a:Addr)(xs:List V):Prop:=
 Rd H a (.lst xs)\/
  ∃(o:Obj) (its:Array Value) (n:Nat),K.lookup a=some o/\o.cls=.type "list"/\o.dict=none/\o.data=.seq its n/\its.size<=sizeLine/\Vals xs its.toList
def SqT(K:Frag)(H:Hp)(a:Addr)(xs:List V):Prop:=
 Rd H a (.tup xs)\/
  ∃(o:Obj) (its:Array Value) (n:Nat),K.lookup a=some o/\o.cls=.type "tuple"/\o.data=.seq its n/\its.size<=sizeLine/\Vals xs its.toList
def PZ:Value->Option V
 | .none=>some .non
 | .bool b=>some (.bl b)
 | .int i _=>some (.int i)
 | .str x _=>some (.str x)
 | .bytes b _=>some (.byt b)
 | .float b _=>some (.flt b)
 | .ref a=>some (.ref a)
 | .type n=>some (.ty n)
 |_=>none
def RelV.abs{x:V}{u:Value}(r:RelV x u):PZ u=some x:=by
 cases x with
 |non=>cases r;rfl
 |bl _=>cases r;rfl
 |int _=>obtain⟨t,rfl⟩:=r;rfl
 |str _=>obtain⟨t,rfl⟩:=r;rfl
 |byt _=>obtain⟨t,rfl⟩:=r;rfl
 |flt _=>obtain⟨t,rfl⟩:=r;rfl
 |ref _=>cases r;rfl
 |ty _=>cases r;rfl
def RelV.inj{x y:V}{u:Value}(r:RelV x u)(q:RelV y u):x=y:=XD (r.abs.symm.trans q.abs)
theorem Vals.inj:∀{xs ys:List V} {us:List Value},Vals xs us->Vals ys us->xs=ys
 |_,_,_,.nil,.nil=>rfl
 |_,_,_,.cons r t,.cons r' t'=>by rw[r.inj r',Vals.inj t t']
section
variable {X:Cx} {pins:QS} {J:St} {H:Hp} {s:Shared} {a:Addr} {xs ys:List V}
theorem SqL.of{K:Frag}(h:H a=some (.lst xs)):SqL K H a xs:=.inl (.inl h)
theorem SqT.of{K:Frag}(h:H a=some (.tup xs)):SqT K H a xs:=.inl (.inl h)
theorem Inv.list(I:Inv X pins J H s)(h:SqL X.K H a xs):∃its:List Value,Vals xs its/\PlainL s.heap a its.toArray/\xs.length<=sizeLine:=by
 rcases h with h|⟨o,its,n,hk,hc,hd,hs,hz,r⟩
 ·obtain⟨z,its,n,r,e⟩:=h.ok I.hok;exact⟨its,r,⟨_,n,e,rfl,rfl,rfl⟩,z⟩
 ·refine⟨its.toList,r,⟨o,n,I.kIn a o hk,hc,hd,by simpa using hs⟩,?_⟩;have e:=r.length;simp only[Yx] at e;omega
theorem Inv.tuple(I:Inv X pins J H s)(h:SqT X.K H a xs):∃its:List Value,Vals xs its/\IsTup s.heap a its.toArray/\xs.length<=sizeLine:=by
 rcases h with h|⟨o,its,n,hk,hc,hs,hz,r⟩
 ·obtain⟨z,its,r,p⟩:=h.ok I.hok;exact⟨its,r,p,z⟩
 ·refine⟨its.toList,r,⟨o,I.kIn a o hk,hc,n,by simpa using hs⟩,?_⟩;have e:=r.length;simp only[Yx] at e;omega
theorem Inv.list_inj(I:Inv X pins J H s)(h:SqL X.K H a xs)(h':SqL X.K H a ys):xs=ys:=by
 obtain⟨its,r,⟨o,n,e,_,_,d⟩,_⟩:=I.list h;obtain⟨its',r',⟨o',n',e',_,_,d'⟩,_⟩:=I.list h';rw[e] at e';cases e';rw[d] at d';injection d' with d1 _
 have:its=its':=by simpa using congrArg Array.toList d1
 subst this;exact r.inj r'
theorem Inv.tuple_inj(I:Inv X pins J H s)(h:SqT X.K H a xs)(h':SqT X.K H a ys):xs=ys:=by
 obtain⟨its,r,⟨o,e,_,n,d⟩,_⟩:=I.tuple h;obtain⟨its',r',⟨o',e',_,n',d'⟩,_⟩:=I.tuple h';rw[e] at e';cases e';rw[d] at d';injection d' with d1 _
 have:its=its':=by simpa using congrArg Array.toList d1
 subst this;exact r.inj r'
end
abbrev Cx.wish(X:Cx)(E:OK):Cx:={X with xe:=E}
abbrev Cx.nox(X:Cx):Cx:=X.wish fun _ _=>False
def Cx.Ok.wish{X:Cx}(ok:X.Ok)(E:OK):(X.wish E).Ok:=
 ⟨ok.mod,ok.kind,ok.glob,ok.blt,ok.above,ok.inj,ok.has,ok.cab,ok.hd,ok.frames,ok.stk,ok.exf,ok.bs,ok.bsz,ok.noex,ok.exfs,ok.funs,ok.frf⟩
def Cx.Ok.unwish{X:Cx}{E:OK}(ok:(X.wish E).Ok):X.Ok:=
 ⟨ok.mod,ok.kind,ok.glob,ok.blt,ok.above,ok.inj,ok.has,ok.cab,ok.hd,ok.frames,ok.stk,ok.exf,ok.bs,ok.bsz,ok.noex,ok.exfs,ok.funs,ok.frf⟩
section
variable {X:Cx} {pins:QS} {J:St} {H:Hp} {s:Shared} {E:OK}
theorem Inv.wish(I:Inv X pins J H s)(E:OK):Inv (X.wish E) pins J H s:=⟨I.ok.wish E,I.os,I.bare,I.base,I.loc,I.cell,I.free,I.freeC,I.pin,I.hok,I.len⟩
theorem Inv.unwish(I:Inv (X.wish E) pins J H s):Inv X pins J H s:=⟨I.ok.unwish,I.os,I.bare,I.base,I.loc,I.cell,I.free,I.freeC,I.pin,I.hok,I.len⟩
theorem SP.unwish{D:Ends}{f:Flow}{s':Shared}(h:SP (X.wish E) pins D f s'):SP X pins D f s':=by
 cases f with
 |next=>obtain⟨Z0,H',I,q⟩:=h;exact⟨Z0,H',I.unwish,q⟩
 |brk=>obtain⟨Z0,H',I,q⟩:=h;exact⟨Z0,H',I.unwish,q⟩
 |cont=>obtain⟨Z0,H',I,q⟩:=h;exact⟨Z0,H',I.unwish,q⟩
 |ret u=>obtain⟨v,Z0,H',I,r,q⟩:=h;exact⟨v,Z0,H',I.unwish,r,q⟩
theorem PE.nox{e:Expr}{t:TE}(h:PE X.nox e t):PE X e t:=fun pins s J H Q I hw=>
 Xl (h pins s J H Q (I.wish _) hw) (fun _ _ ⟨v,H',I',r,q⟩=>⟨v,H',I'.unwish,r,q⟩) fun _ _ z=>False.elim z
theorem PT.nox{e:Expr}{t:TT}(h:PT X.nox e t):PT X e t:=fun pins s J H Q I hw=>
 Xl (h pins s J H Q (I.wish _) hw) (fun _ _ ⟨H',I',q⟩=>⟨H',I'.unwish,q⟩) fun _ _ z=>False.elim z
theorem PSs.nox{st:List Stmt}{t:TS}(h:PSs X.nox st t):PSs X st t:=fun pins s J H D I hw=>
 Xl (h pins s J H D (I.wish _) hw) (fun _ _ q=>q.unwish) fun _ _ z=>False.elim z
end
section
variable {X:Cx} {st:Stmt} {qO:List Stmt} {t u:TS} {e:Expr} {te:TE} {pos:Pos}
def QT:TS:=fun D J H=>D.nx J H
def Nq(t u:TS):TS:=fun D J H=>t {D with nx:=u D} J H
theorem R7:PSs X [] QT:=fun _ _ J H _ I h=>wpAny_execs_nil ⟨J,H,I,h⟩
theorem Li(h1:PS X st t)(h2:PSs X qO u):PSs X (st::qO) (Nq t u):=by
 intro pins s J H D I h;refine wpAny_execs_cons (thn (h1 pins s J H {D with nx:=u D} I h) fun f s1 q=>?_);cases f with
 |next=>
  obtain⟨Z0,H',I',q⟩:=q;exact h2 pins s1 Z0 H' D I' q
 |ret v=>exact q
 |brk=>exact q
 |cont=>exact q
theorem J4(h1:PS X st t):PSs X [st] t:=by
 intro pins s J H D I h;refine wpAny_execs_cons (thn (h1 pins s J H D I h) fun f s1 q=>?_);cases f with
 |next=>exact wpAny_execs_nil q
 |ret v=>exact q
 |brk=>exact q
 |cont=>exact q
theorem Inv.quiet{pins:QS}{J:St}{H:Hp}{s:Shared}(I:Inv X pins J H s):interactive X.env=false:=by simp[interactive,I.ok.kind]
def SQ(te:TE):TS:=fun D J H=>te J H fun _ H1=>D.nx J H1
theorem F0(he:PE X e te)(hs:swapsWith e none pos.line X.env=pure false:=by rfl):PS X (.Expr e pos) (SQ te):=by
 intro pins s J H D I h;exact wpAny_Expr_any (thn (he pins s J H _ I h) fun v s1 ⟨x,H1,I1,r1,q1⟩=>⟨J,H1,I1,q1⟩) I.quiet hs
def Nu(te:TE):TS:=fun D J H=>te J H D.rt
theorem Nj(he:PE X e te):PS X (.Return (some e) pos) (Nu te):=by
 intro pins s J H D I h;exact wpAny_Return_some (thn (he pins s J H _ I h) fun v s1 ⟨x,H1,I1,r1,q1⟩=>⟨x,J,H1,I1,r1,q1⟩)
def QU(c:TT)(t u:TS):TS:=fun D J H=>c J H fun b H1=>if b=true then t D J H1 else u D J H1
theorem Ji{c:Expr}{a b:List Stmt}{tc:TT}(hc:PT X c tc)(ha:PSs X a t)(hb:PSs X b u):PS X (.If c a b pos) (QU tc t u):=by
 intro pins s J H D I h;refine wpAny_If (thn (hc pins s J H _ I h) fun d s1 hm=>?_);obtain⟨H1,I1,q1⟩:=hm;cases d with
 |true=>exact ha pins s1 J H1 D I1 q1
 |false=>exact hb pins s1 J H1 D I1 q1
end
abbrev TG:=V->St->Hp->(St->Hp->Prop)->Prop
abbrev TGs:=List V->St->Hp->(St->Hp->Prop)->Prop
def PG(X:Cx)(target:Expr)(t:TG):Prop:=
 ∀(pins:QS) (s:Shared) (J:St) (H:Hp) (v:V) (u:Value) (Q:St->Hp->Prop),Inv X pins J H s->RelV v u->t v J H Q->
  wpAny (model X.prog X.w) X.A (assign target X.env u) (fun _ s'=>∃Z0 H',Inv X pins Z0 H' s'/\Q Z0 H') X.xe s
def PGs(X:Cx)(ts:List Expr)(t:TGs):Prop:=
 ∀(pins:QS) (s:Shared) (J:St) (H:Hp) (vs:List V) (us:List Value) (Q:St->Hp->Prop),Inv X pins J H s->Vals vs us->t vs J H Q->
  wpAny (model X.prog X.w) X.A (assignInOrder ((assignEach ts X.env).map (·.2)) us) (fun _ s'=>∃Z0 H',Inv X pins Z0 H' s'/\Q Z0 H') X.xe s
abbrev Cj:=V->V->V->Hp->(Hp->Prop)->Prop
def HX(X:Cx)(t:Cj):Prop:=
 ∀(pins:QS) (s:Shared) (J:St) (H:Hp) (o i v:V) (ov iv u:Value) (Q:Hp->Prop),Inv X pins J H s->RelV o ov->RelV i iv->RelV v u->t o i v H Q->
  wpAny (model X.prog X.w) X.A (setItem ov iv u) (fun _ s'=>∃H',Inv X pins J H' s'/\Q H') X.xe s
abbrev TIp:=V->V->Hp->VK->Prop
def PIp(X:Cx)(op:Operator)(t:TIp):Prop:=
 ∀(pins:QS) (s:Shared) (J:St) (H:Hp) (x y:V) (v u:Value) (Q:VK),Inv X pins J H s->RelV x v->RelV y u->t x y H Q->
  wpAny (model X.prog X.w) X.A (inplaceOp op v u) (EP X pins J Q) X.xe s
section
variable {X:Cx} {pos:Pos}
def EJ(i:Nat):TG:=fun v J H Q=>Q (J.set i (some v)) H
theorem SC{i:Nat}{x:Str}(hN:X.N.Nodup)(hi:X.N[i]?=some x)(hx:Loc X.env.scope x)(hf:X.fn x=true\/X.env.scope.names.lookup x=some .local:=by first|exact .inl rfl|exact .inr rfl|assumption):PG X (.Name x pos) (EJ i):=by
 intro pins s J H v u Q I r h;exact wpAny_assign_Name (Dy I hN hi hx r (fun s' I'=>⟨_,H,I',h⟩) hf)
def Q5:TGs:=fun vs J H Q=>vs=[]/\Q J H
def Ud(t:TG)(u:TGs):TGs:=fun vs J H Q=>∃v r,vs=v::r/\t v J H fun Z0 H'=>u r Z0 H' Q
theorem WE:PGs X [] Q5:=by
 intro pins s J H vs us Q I r h;obtain⟨e,h⟩:=h;subst e;cases r;exact(assignInOrder_nil ⟨J,H,I,h⟩)
theorem QG{e:Expr}{es:List Expr}{t:TG}{u:TGs}(h1:PG X e t)(h2:PGs X es u)
  (hs:(assignEach (e::es) X.env).map (·.2)=assign e X.env::(assignEach es X.env).map (·.2):=by rfl):PGs X (e::es) (Ud t u):=by
 intro pins s J H vs us Q I r h;obtain⟨v,vr,e1,h⟩:=h;subst e1;cases r with
 |cons r rr=>
  rw[hs];refine assignInOrder_cons (thn (h1 pins s J H _ _ _ I r h) fun _ s1 hm=>?_);obtain⟨ZJ,H1,I1,q1⟩:=hm;exact(h2 pins s1 ZJ H1 _ _ Q I1 rr q1)
def HC(K:Frag)(n:Nat)(t:TGs):TG:=fun v J H Q=>∃a xs,v=.ref a/\SqT K H a xs/\xs.length=n/\t xs J H Q
theorem TQ{es:List Expr}{k:Nat}{t:TGs}{n:Nat}(hc:X.calm=true)(h:PGs X es t)
  (hn:(assignEach es X.env).length=n:=by rfl) (hst:(assignEach es X.env).findIdx? (·.1)=none:=by rfl):PG X (.Tuple es k pos) (HC X.K n t):=by
 intro pins s J H v u Q I r hw;obtain⟨a,xs,e1,hq,hl,hw⟩:=hw;subst e1;cases r;obtain⟨its,rv,ht,hz⟩:=I.tuple hq;refine(assign_Tuple_tuple (I.ok.hd hc) ht (by simp[hn,←hl,rv.length]) hst fun h' hx=>?_);have I1:Inv X pins J H {s with heap:=h'}:=I.kept (t':=s.toks) fun b o e=>hx b o (Xz (Xo e)) e;exact h pins _ J H xs _ Q I1 (by simpa using rv) hw
def NH(to ti:TE)(t:Cj):TG:=fun v J H Q=>to J H fun o H1=>ti J H1 fun i H2=>t o i v H2 fun H3=>Q J H3
theorem U5{o i:Expr}{to ti:TE}{t:Cj}(ho:PE X o to)(hi:PE X i ti)(hs:HX X t)
  (ha:∀v,assign (.Subscript o i pos) X.env v=(do
   let ov ←holding [v] (eval o X.env)
   let iv ←holding [v,ov] (eval i X.env)
   standAt pos
   holding [v,ov,iv] (setItem ov iv v)
   release [v,ov,iv] []):=by intro _;rfl):PG X (.Subscript o i pos) (NH to ti t):=by
 intro pins s J H v u Q I r h;rw[ha];refine Xf (Yr (thn (ho pins s J H _ I h) fun ov s1 hm=>?_));obtain⟨x,H1,I1,r1,q1⟩:=hm;refine(Xf (Yr (thn (hi pins s1 J H1 _ I1 q1) fun iv s2 hm=>?_)));obtain⟨y,H2,I2,r2,q2⟩:=hm;refine(Xf (Ys (Xf (Yr (thn (hs pins s2 J H2 x y v ov iv u _ I2 r1 r2 r q2) fun _ s3 hm=>?_)))));obtain⟨H3,I3,q3⟩:=hm;exact(wpAny_release ⟨J,H3,I3,q3⟩)
def C5(te:TE)(g:TG):TS:=fun D J H=>te J H fun x H1=>g x J H1 D.nx
theorem O4{tg e:Expr}{te:TE}{g:TG}(he:PE X e te)(hg:PG X tg g)(hs:swapsWithSole [tg] e pos.line X.env=pure false:=by rfl)(hw:swappedStores [tg] e X.env=pure none:=by rfl)
  (h1:(assignEach [tg] X.env).map (·.2)=[assign tg X.env]:=by rfl):PS X (.Assign [tg] e pos) (C5 te g):=by
 intro pins s J H D I h;refine wpAny_Assign_stores (thn (he pins s J H _ I h) fun v s1 hm=>?_) hs hw;obtain⟨x,H1,I1,r1,q1⟩:=hm;rw[h1];exact thn (hg pins s1 J H1 x v _ I1 r1 q1) fun _ s2 q=>q
theorem He{i:Nat}{x:Str}{e:Expr}{te:TE}{pos':Pos}(hN:X.N.Nodup)(hi:X.N[i]?=some x)(hx:Loc X.env.scope x)(he:PE X e te)(hs:swapsWith e (some (.Name x pos')) pos.line X.env=pure false:=by rfl)(hf:X.fn x=true\/X.env.scope.names.lookup x=some .local:=by first|exact .inl rfl|exact .inr rfl|assumption):
  PS X (.Assign [.Name x pos'] e pos) (C5 te (EJ i)):=by
 intro pins s J H D I h;refine wpAny_Assign_Name (thn (he pins s J H _ I h) fun v s1 hm=>?_) hs;obtain⟨y,H1,I1,r1,q1⟩:=hm;exact(Dy I1 hN hi hx r1 (fun s2 I2=>⟨_,H1,I2,q1⟩) hf)
def y8h(i:Nat)(te:TE)(ti:TIp):TS:=fun D J H=>∃x,J[i]?=some (some x)/\te J H fun y H1=>ti x y H1 fun z H2=>D.nx (J.set i (some z)) H2
theorem Pf{i:Nat}{x:Str}{e:Expr}{te:TE}{op:Operator}{ti:TIp}{pos':Pos}(hN:X.N.Nodup)(hi:X.N[i]?=some x)(hx:Loc X.env.scope x)(he:PE X e te)(ho:PIp X op ti)(hf:X.fn x=true\/X.env.scope.names.lookup x=some .local:=by first|exact .inl rfl|exact .inr rfl|assumption):
  PS X (.AugAssign (.Name x pos') op e pos) (y8h i te ti):=by
 intro pins s J H D I h;obtain⟨v,e1,h⟩:=h;obtain⟨m,hn,hl⟩:=I.loc;have vis:Vis X.env.scope x:=by rcases hx with k|k;exact .inl k;exact .inr (.inl k)
 obtain⟨u,r,l⟩:=hl i x v hi e1 vis;refine(wpAny_AugAssign_Name ?_);have go:wpAny (model X.prog X.w) X.A (eval e X.env) (fun w ZK=>wpAny (model X.prog X.w) X.A (inplaceOp op u w) (fun r ZM=>wpAny (model X.prog X.w) X.A (storeName X.env x r) (fun _=>SP X pins D .next) X.xe ZM) X.xe ZK) X.xe s:=by
  refine thn (he pins s J H _ I h) fun w s1 hm=>?_;obtain⟨y,H1,I1,r1,q1⟩:=hm;refine(thn (ho pins s1 J H1 v y u w _ I1 r r1 q1) fun z s2 hm=>?_);obtain⟨zv,H2,I2,r2,q2⟩:=hm;exact(Dy I2 hN hi hx r2 (fun s3 I3=>⟨_,H2,I3,q2⟩) hf)
 rcases l with⟨hk,hm⟩|⟨hk,c,hc,hcell⟩
 ·exact wpAny_loadName_local I.ok.kind hk hn hm go
 ·rcases hk with hk|hk
  ·exact wpAny_loadName_cell I.ok.kind hk hc hcell go
  ·rcases hx with k|k
   ·have:X.env.scope.names.lookup x=some .free:=hk;rw[k] at this;cases this
   ·have:X.env.scope.names.lookup x=some .free:=hk;rw[k] at this;cases this
def ipI(f:Int->Int->Int):TIp:=fun x y H Q=>∃i j,x=.int i/\y=.int j/\Q (.int (f i j)) H
theorem Q3:PIp X .Add (ipI fun i j=>i+j):=by
 intro pins s J H x y v u Q I r1 r2 h;obtain⟨i,j,e1,e2,q⟩:=h;subst e1;subst e2;obtain⟨t,rfl⟩:=r1;obtain⟨t',rfl⟩:=r2;exact(iadd_int ⟨.int _,H,I.tok _,⟨_,rfl⟩,q⟩)
end
section
variable {X:Cx} {pos:Pos}
def Pa(c:TT)(tb:TS):TS:=fun D J H=>∃W:Nat->St->Hp->Prop,(∃m,W m J H)/\∀m J H,W m J H->
 c J H fun b H1=>if b=true then ∃N:St->Hp->Prop,(∀Z0 H',N Z0 H'->∃m',m'<m/\W m' Z0 H')/\tb {D with nx:=N,ct:=N,bk:=D.nx} J H1 else D.nx J H1
theorem zqo{c:Expr}{body:List Stmt}{tc:TT}{tb:TS}(hp:PassesOwn (model X.prog X.w) X.A X.env X.xe)(hc:PT X c tc)(hb:PSs X body tb):PS X (.While c body [] pos) (Pa tc tb):=by
 intro pins s J H D I h;obtain⟨W,⟨m0,w0⟩,turn⟩:=h;refine(wpAny_While (codeAny_whileLoop (fun n s'=>∃Z0 H',Inv X pins Z0 H' s'/\W n Z0 H') ?_ m0 ⟨J,H,I,w0⟩));rintro n s1 ⟨ZJ,H1,I1,w1⟩;refine YB hp (thn (hc pins s1 ZJ H1 _ I1 (turn n ZJ H1 w1)) fun b s2 hm=>?_);obtain⟨H2,I2,q2⟩:=hm;cases b with
 |true=>
  obtain⟨N,hN,q2⟩:=q2;rw[if_pos rfl];refine YB hp (thn (hb pins s2 ZJ H2 _ I2 q2) fun f s3 q3=>?_);cases f with
  |next=>
   obtain⟨ZI,H3,I3,n3⟩:=q3;obtain⟨m',hm,w3⟩:=hN ZI H3 n3;exact⟨m',hm,ZI,H3,I3,w3⟩
  |cont=>
   obtain⟨ZI,H3,I3,n3⟩:=q3;obtain⟨m',hm,w3⟩:=hN ZI H3 n3;exact⟨m',hm,ZI,H3,I3,w3⟩
  |brk=>exact q3
  |ret v=>exact q3
 |false=>
  rw[if_neg XW];exact wpAny_execs_nil ⟨ZJ,H2,I2,q2⟩
end
structure It where
 go:Nat->Hp->Prop
 yld:Nat->Hp->V->Hp->Prop
 stop:Nat->Hp->Prop
def rP(X:Cx)(pins:QS)(H:Hp)(b:Addr):Prop:=
 H b=none/\b≠X.env.locals/\b∉X.fs/\(b∈X.ex\/X.Z3.heap.objs.size<=b)/\(∀x c,X.env.cells.lookup x=some c->c≠b)/\∀p∈X.pn++pins,p.1≠b
def Inv.fpOk{X:Cx}{pins:QS}{J:St}{H H':Hp}{s:Shared}{b:Addr}(I:Inv X pins J H s)(hb:s.heap.objs.size<=b)(hn:H' b=none):rP X pins H' b:=by
 refine⟨hn,Nat.ne_of_gt (XC I.lt hb),I.nofs hb,.inr (XL I.sz hb),fun x c e z=>?_,fun p hp z=>?_⟩
 ·obtain⟨v,q⟩:=I.cell x c e;exact absurd (XC q.lt (by rw[z];exact hb)) (X7 _)
 ·exact absurd (XC (Xo (I.pin p hp).1) (by rw[z];exact hb)) (X7 _)
structure Turn (P:Program) (w:World) (K:Frag) (tg:Expr) (Z7:It) (fp:List Addr) (it:Addr) (tn:Nat->Heap->Prop):Prop where
 mem:it∈fp
 obj:∀i h,tn i h->∀b∈fp,∃o,h.get? b=some o/\∀v,o.data≠.cell v
 keep:∀i h h',tn i h->(∀b∈fp,∀o,h.get? b=some o->h'.get? b=some o)->tn i h'
 item:∀(X:Cx),X.prog=P->X.w=w->X.K=K->X.calm=true->∀(i:Nat) (pins:QS) (s:Shared) (J:St) (H:Hp) (E:OK),Inv X pins J H s->(∀b∈fp,rP X pins H b)->tn i s.heap->Z7.go i H->
  wpAny (model P w) X.A (pyNext (.ref it)) (fun r s1=>∃u,r=some u/\
   wpAny (model P w) X.A (letOwnedTupleGo tg (.ref it) u) (fun _ s2=>∃x H',Inv X pins J H' s2/\RelV x u/\Z7.yld i H x H'/\tn (i+1) s2.heap/\∀b∈fp,H' b=none) E s1) E s
 done:∀(X:Cx),X.prog=P->X.w=w->X.K=K->X.calm=true->∀(i:Nat) (pins:QS) (s:Shared) (J:St) (H:Hp) (E:OK),Inv X pins J H s->(∀b∈fp,rP X pins H b)->tn i s.heap->Z7.stop i H->
  wpAny (model P w) X.A (pyNext (.ref it)) (fun r s1=>r=none/\Inv X pins J H s1) E s
 self:∀(A:Around) (i:Nat) (s:Shared) (Q:OK) (E:OK),tn i s.heap->Q (.ref it) s->wpAny (model P w) A (pyIter (.ref it)) Q E s
abbrev TI:=St->Hp->(It->Hp->Prop)->Prop
def PIE(X:Cx)(pins:QS)(J:St)(tg:Expr)(R:It->Hp->Prop)(itv:Value)(s2:Shared):Prop:=
 ∃(it:Addr) (fp:List Addr) (tn:Nat->Heap->Prop) (Z7:It) (H':Hp),itv=.ref it/\Inv X pins J H' s2/\Turn X.prog X.w X.K tg Z7 fp it tn/\tn 0 s2.heap/\(∀b∈fp,rP X pins H' b)/\R Z7 H'
def PI(X:Cx)(tg iter:Expr)(wi:TI):Prop:=
 ∀(pins:QS) (s:Shared) (J:St) (H:Hp) (R:It->Hp->Prop),Inv X pins J H s->wi J H R->
  wpAny (model X.prog X.w) X.A (eval iter X.env) (fun v s1=>wpAny (model X.prog X.w) X.A (pyIter v) (PIE X pins J tg R) X.xe s1) X.xe s
theorem Di{M:Model}{A:Around}{E:OK}{s:Shared}{tg:Expr}{it:Addr}{u:Value}{o:Obj}{n:String}{vs:Array Value}{Q:Unit->Shared->Prop}(ho:s.heap.get? it=some o)(hc:o.cls=.type n)(hd:o.data=.fields vs)
  (hn:["enumerate","zip","dict_itemiterator","dict_reverseitemiterator","odict_iterator","itertools.zip_longest","itertools.pairwise"].contains n=false) (hQ:Q () s):wpAny M A (letOwnedTupleGo tg (.ref it) u) Q E s:=by
 unfold letOwnedTupleGo;cases tg<;>first
  |exact Xj hQ
  |(cases u<;>first
    |exact Xj hQ
    |(refine Xf (wpAny_load ho ?_);rw[hc,hd];show wpAny M A (if(["enumerate","zip","dict_itemiterator","dict_reverseitemiterator","odict_iterator","itertools.zip_longest","itertools.pairwise"].contains n&&vs[0]?==some (rawInt _))=true then _ else _) Q E s;rw[if_neg (by intro h;rw[hn,Bool.false_and] at h;cases h)];exact Xj hQ))
def Itl(K:Frag)(a:Addr):It:=
 ⟨fun i H=>∃xs x,SqL K H a xs/\xs[i]?=some x,fun i H x H'=>H'=H/\∀xs,SqL K H a xs->xs[i]?=some x,fun i H=>∃xs,SqL K H a xs/\xs.length<=i⟩
def Itt(K:Frag)(a:Addr):It:=
 ⟨fun i H=>∃xs x,SqT K H a xs/\xs[i]?=some x,fun i H x H'=>H'=H/\∀xs,SqT K H a xs->xs[i]?=some x,fun i H=>∃xs,SqT K H a xs/\xs.length<=i⟩
def Itr(lo:Int)(n:Nat):It:=⟨fun i _=>i<n,fun i H x H'=>H'=H/\x=.int (lo+i),fun i _=>n<=i⟩
theorem UC{P:Program}{w:World}{K:Frag}{tg:Expr}(a it:Addr):Turn P w K tg (Itl K a) [it] it (fun i h=>h.IsListIter it a i) where
 mem:=by simp
 obj:=fun i h st b hb=>by
  have e:b=it:=by simpa using hb
  subst e;obtain⟨o,e,c,d⟩:=st;exact⟨o,e,fun v z=>by rw[d] at z;cases z⟩
 keep:=fun i h h' st k=>st.at fun o e=>k it (by simp) o e
 item:=by
  intro X hP hw hK hc i pins s J H E I hf st hg;subst hP hw hK;obtain⟨xs,x,hq,hx⟩:=hg;obtain⟨its,rv,p,hz⟩:=I.list hq;obtain⟨u,hu,ru⟩:=rv.get hx;obtain⟨f0,f1,f2,f3,f4,f5⟩:=hf it (by simp);refine(wpAny_pyNext_list_item st p.isList (x:=u) (by simpa using hu) fun h' st' sb=>?_);have I1:Inv X pins J H {s with heap:=h'}:=I.turned (t':=s.toks) (fun b o hb e=>(sb.2 b hb).trans e) f0 f1 f3 f4 f5;obtain⟨o,e,c,d⟩:=id st';exact⟨u,rfl,Di (s:={s with heap:=h'}) e c d (by decide) ⟨x,H,I1,ru,⟨rfl,fun ys hy=>by rw[I.list_inj hy hq];exact hx⟩,st',fun b hb=>(hf b hb).1⟩⟩
 done:=by
  intro X hP hw hK hc i pins s J H E I hf st hg;subst hP hw hK;obtain⟨xs,hq,hx⟩:=hg;obtain⟨its,rv,p,hz⟩:=I.list hq;obtain⟨f0,f1,f2,f3,f4,f5⟩:=hf it (by simp);have hl:=rv.length;exact wpAny_pyNext_list_end (I.ok.hd hc) st p.isList (by simp;omega) fun h' eb=>⟨rfl,I.turned (t':=s.toks) (fun b o hb e=>eb b o hb e) f0 f1 f3 f4 f5⟩
 self:=fun _ _ _ _ _ st h=>wpAny_pyIter_listiter st h
theorem SB{P:Program}{w:World}{K:Frag}{tg:Expr}(a it:Addr):Turn P w K tg (Itt K a) [it] it (fun i h=>h.IsTupleIter it a i) where
 mem:=by simp
 obj:=fun i h st b hb=>by
  have e:b=it:=by simpa using hb
  subst e;obtain⟨o,e,c,d⟩:=st;exact⟨o,e,fun v z=>by rw[d] at z;cases z⟩
 keep:=fun i h h' st k=>st.at fun o e=>k it (by simp) o e
 item:=by
  intro X hP hw hK hc i pins s J H E I hf st hg;subst hP hw hK;obtain⟨xs,x,hq,hx⟩:=hg;obtain⟨its,rv,p,hz⟩:=I.tuple hq;obtain⟨u,hu,ru⟩:=rv.get hx;obtain⟨f0,f1,f2,f3,f4,f5⟩:=hf it (by simp);refine(wpAny_pyNext_tuple_item st (show s.heap.IsTuple a its.toArray from p) (x:=u) (by simpa using hu) fun h' st' sb=>?_);have I1:Inv X pins J H {s with heap:=h'}:=I.turned (t':=s.toks) (fun b o hb e=>(sb.2 b hb).trans e) f0 f1 f3 f4 f5;obtain⟨o,e,c,d⟩:=id st';exact⟨u,rfl,Di (s:={s with heap:=h'}) e c d (by decide) ⟨x,H,I1,ru,⟨rfl,fun ys hy=>by rw[I.tuple_inj hy hq];exact hx⟩,st',fun b hb=>(hf b hb).1⟩⟩
 done:=by
  intro X hP hw hK hc i pins s J H E I hf st hg;subst hP hw hK;obtain⟨xs,hq,hx⟩:=hg;obtain⟨its,rv,p,hz⟩:=I.tuple hq;obtain⟨f0,f1,f2,f3,f4,f5⟩:=hf it (by simp);have hl:=rv.length;exact wpAny_pyNext_tuple_end (I.ok.hd hc) st (show s.heap.IsTuple a its.toArray from p) (by simp;omega) fun h' eb=>⟨rfl,I.turned (t':=s.toks) (fun b o hb e=>eb b o hb e) f0 f1 f3 f4 f5⟩
 self:=fun _ _ _ _ _ st h=>wpAny_pyIter_tupleiter st h
theorem Nc{P:Program}{w:World}{K:Frag}{tg:Expr}(it:Addr)(lo:Int)(n:Nat):Turn P w K tg (Itr lo n) [it] it (fun i h=>IsRangeIter h it (lo+(i:Nat)*1) ((n:Int) - (i:Nat)) 1) where
 mem:=by simp
 obj:=fun i h st b hb=>by
  have e:b=it:=by simpa using hb
  subst e;exact⟨_,st,fun v z=>by
   have z':Data.fields _=Data.cell v:=z;cases z'⟩
 keep:=fun i h h' st k=>k it (by simp) _ st
 item:=by
  intro X hP hw hK hc i pins s J H E I hf st hg;subst hP hw hK;obtain⟨f0,f1,f2,f3,f4,f5⟩:=hf it (by simp);have W:=Walks.range (prog:=X.prog) (w:=X.w) (I.ok.hd hc) it lo 1 n;refine(W.item i s _ _ hg st fun v h' tk hv st' kk=>?_);obtain⟨t,rfl⟩:=hv;have I1:Inv X pins J H {s with heap:=h',toks:=tk}:=I.turned (fun b o hb e=>kk b o (by simpa using hb) e) f0 f1 f3 f4 f5;refine(⟨_,rfl,Di (s:={s with heap:=h',toks:=tk}) (n:="range_iterator") st' rfl rfl (by decide) ⟨.int (lo+i),H,I1,⟨t,?_⟩,⟨rfl,rfl⟩,st',fun b hb=>(hf b hb).1⟩⟩);rw[Int.mul_one]
 done:=by
  intro X hP hw hK hc i pins s J H E I hf st hg;subst hP hw hK;obtain⟨f0,f1,f2,f3,f4,f5⟩:=hf it (by simp);exact wpAny_pyNext_range_end (I.ok.hd hc) st (by have:n<=i:=hg;omega) fun h' eb=>⟨rfl,I.turned (t':=s.toks) (fun b o hb e=>eb b o hb e) f0 f1 f3 f4 f5⟩
 self:=fun _ _ _ _ _ st h=>wpAny_pyIter_rangeiter st h
section
variable {X:Cx} {tg:Expr}
def Hh(K:Frag)(tl:TE):TI:=fun J H R=>tl J H fun x H1=>∃a,x=.ref a/\(∃xs,SqL K H1 a xs)/\R (Itl K a) H1
def LF(K:Frag)(tl:TE):TI:=fun J H R=>tl J H fun x H1=>∃a,x=.ref a/\(∃xs,SqT K H1 a xs)/\R (Itt K a) H1
theorem HE{l:Expr}{tl:TE}(hl:PE X l tl):PI X tg l (Hh X.K tl):=by
 intro pins s J H R I h;refine thn (hl pins s J H _ I h) fun v s1 hm=>?_;obtain⟨x,H1,I1,r1,q1⟩:=hm;obtain⟨a,e,⟨xs,hq⟩,q⟩:=q1;subst e;cases r1;obtain⟨its,rv,p,hz⟩:=I1.list hq;refine(wpAny_pyIter_list p.isList ?_);refine⟨s1.heap.objs.size,[s1.heap.objs.size],_,_,H1,rfl,I1.kept (t':=s1.toks) fun b o e=>Xg _ e,UC a _,⟨_,Xp _ rfl,rfl,rfl⟩,fun b hb=>?_,q⟩;have e:b=s1.heap.objs.size:=by simpa using hb
 subst e;exact I1.fpOk (Xh _) (I1.hok.fresh (Xh _))
theorem OW{l:Expr}{tl:TE}(hl:PE X l tl):PI X tg l (LF X.K tl):=by
 intro pins s J H R I h;refine thn (hl pins s J H _ I h) fun v s1 hm=>?_;obtain⟨x,H1,I1,r1,q1⟩:=hm;obtain⟨a,e,⟨xs,hq⟩,q⟩:=q1;subst e;cases r1;obtain⟨its,rv,p,hz⟩:=I1.tuple hq;refine(wpAny_pyIter_tuple (show s1.heap.IsTuple a its.toArray from p) ?_);refine⟨s1.heap.objs.size,[s1.heap.objs.size],_,_,H1,rfl,I1.kept (t':=s1.toks) fun b o e=>Xg _ e,SB a _,⟨_,Xp _ rfl,rfl,rfl⟩,fun b hb=>?_,q⟩;have e:b=s1.heap.objs.size:=by simpa using hb
 subst e;exact I1.fpOk (Xh _) (I1.hok.fresh (Xh _))
theorem CV{pins:QS}{J:St}{H:Hp}{s:Shared}{R:It->Hp->Prop}{E:OK}{lo hi:Int}{t u v:Tok}{tk:Nat}(I:Inv X pins J H s)(h1:-(2^62)<=lo)(h2:lo<2^62)(h3:-(2^62)<=hi)(h4:hi<2^62)
  (q:R (Itr lo (hi - lo).toNat) H):wpAny (model X.prog X.w) X.A (pyIter (.ref s.heap.objs.size)) (PIE X pins J tg R) E {s with heap:=s.heap.push {cls:=.type "range",data:=.fields #[.int lo t,.int hi u,.int 1 v]},toks:=tk}:=by
 refine wpAny_pyIter_range (IsRange.new ..) (small_one h1 h2 h3 h4) ?_;have I1:Inv X pins J H {s with heap:=s.heap.push {cls:=.type "range",data:=.fields #[.int lo t,.int hi u,.int 1 v]},toks:=tk}:=I.kept fun b o e=>Xg _ e;refine⟨(s.heap.push {cls:=.type "range",data:=.fields #[.int lo t,.int hi u,.int 1 v]}).objs.size,[(s.heap.push {cls:=.type "range",data:=.fields #[.int lo t,.int hi u,.int 1 v]}).objs.size],_,_,H,rfl,
  I1.kept (t':=tk) fun b o e=>Xg _ e,Nc _ lo (hi - lo).toNat,?_,fun b hb=>?_,q⟩
 ·have e1:lo+((0:Nat):Int)*1=lo:=by simp
  have e2:(((hi - lo).toNat:Nat):Int) - ((0:Nat):Int)=Builtin.Range.rangeSize lo hi 1:=by rw[rangeSize_one];split<;>omega
  show IsRangeIter _ _ (lo+((0:Nat):Int)*1) ((((hi - lo).toNat:Nat):Int) - ((0:Nat):Int)) 1;rw[e1,e2];exact Xp _ rfl
 ·have e:b=(s.heap.push {cls:=.type "range",data:=.fields #[.int lo t,.int hi u,.int 1 v]}).objs.size:=by simpa using hb
  subst e;exact I1.fpOk (Xh _) (I1.hok.fresh (Xh _))
def Kr(ta:TA):TI:=fun J H R=>ta J H fun vs H1=>∃j:Int,vs=[.int j]/\-(2^62)<=j/\j<2^62/\R (Itr 0 j.toNat) H1
def Le(ta:TA):TI:=fun J H R=>ta J H fun vs H1=>∃i j:Int,vs=[.int i,.int j]/\(-(2^62)<=i/\i<2^62/\-(2^62)<=j/\j<2^62)/\R (Itr i (j - i).toNat) H1
theorem Qd{a:Expr}{ta:TA}{p pos:Pos}(hg:Gl X "range") (hm:X.mg "range"=none) (ha:PA X [a] ta) (hs:starEach [a] X.env=[(false,eval a X.env)]:=by rfl):PI X tg (.Call (.Name "range" p) [a] [] pos) (Kr ta):=by
 intro pins s J H R I h;refine Call_ (wq I hg hm boot_range (Ya (thn (ha pos pins s J H _ I h) fun us s1 hm=>?_) hs rfl));obtain⟨vs,H1,I1,r1,q1⟩:=hm;obtain⟨j,e,q1,q2,q⟩:=q1;subst e;cases r1 with
 |cons r rr=>
  cases rr;obtain⟨t,rfl⟩:=r;exact(call_range_1 (CV I1 (by omega) (by omega) q1 q2 (by simpa using q)))
theorem WD{a b:Expr}{ta:TA}{p pos:Pos}(hg:Gl X "range") (hm:X.mg "range"=none) (ha:PA X [a,b] ta) (hs:starEach [a,b] X.env=[(false,eval a X.env),(false,eval b X.env)]:=by rfl) (hs2:starEach [b] X.env=[(false,eval b X.env)]:=by rfl):
  PI X tg (.Call (.Name "range" p) [a,b] [] pos) (Le ta):=by
 intro pins s J H R I h;refine Call_ (wq I hg hm boot_range (Ya (thn (ha pos pins s J H _ I h) fun us s1 hm=>?_) (by rw[hs,hs2]) (by rw[hs2];rfl)));obtain⟨vs,H1,I1,r1,q1⟩:=hm;obtain⟨i,j,e,⟨q1,q2,q3,q4⟩,q⟩:=q1;subst e;cases r1 with
 |cons r rr=>
  cases rr with
  |cons r' rr=>
   cases rr;obtain⟨t,rfl⟩:=r;obtain⟨t',rfl⟩:=r';exact(call_range_2 (CV I1 q1 q2 q3 q4 q))
def y8f(wi:TI)(g:TG)(tb:TS):TS:=fun D J H=>wi J H fun Z7 H1=>∃W:Nat->Nat->St->Hp->Prop,(∃m,W 0 m J H1)/\∀i m J H,W i m J H->
 (Z7.stop i H/\D.nx J H)\/(Z7.go i H/\∃N:St->Hp->Prop,(∀Z0 H',N Z0 H'->∃m',m'<m/\W (i+1) m' Z0 H')/\∀x H',Z7.yld i H x H'->g x J H' fun ZX H2=>tb {D with nx:=N,ct:=N,bk:=D.nx} ZX H2)
def v8(fp:List Addr)(h:Heap):QS:=fp.filterMap fun b=>(h.get? b).map fun o=>(b,o)
theorem vn{fp:List Addr}{h:Heap}{b:Addr}{o:Obj}(hb:b∈fp)(e:h.get? b=some o):(b,o)∈v8 fp h:=List.mem_filterMap.mpr ⟨b,hb,by rw[e];rfl⟩
theorem Pp{fp:List Addr}{h:Heap}{p:Addr×Obj}(hp:p∈v8 fp h):p.1∈fp/\h.get? p.1=some p.2:=by
 obtain⟨b,hb,e⟩:=List.mem_filterMap.mp hp;cases q:h.get? b with
 |none=>rw[q] at e;cases e
 |some o=>
  rw[q] at e;have e':(b,o)=p:=XD e;subst e';exact⟨hb,q⟩
theorem Inv.pinned{pins:QS}{J:St}{H:Hp}{s:Shared}{fp:List Addr}(I:Inv X pins J H s)(hf:∀b∈fp,rP X pins H b)(ho:∀b∈fp,∃o,s.heap.get? b=some o/\∀v,o.data≠.cell v):Inv X (pins++v8 fp s.heap) J H s:=
 I.pins_of fun p hp=>(XN.mp hp).elim (fun z=>I.pin p (Xs _ z)) fun z=>by
  obtain⟨hb,e⟩:=Pp z;obtain⟨f0,f1,f2,_⟩:=hf p.1 hb;obtain⟨o,e',d⟩:=ho p.1 hb;rw[e] at e';cases e';exact⟨e,f0,f1,f2,d⟩
theorem Inv.unpinned{pins pl:QS}{J:St}{H:Hp}{s:Shared}(I:Inv X (pins++pl) J H s):Inv X pins J H s:=I.pins_of fun p hp=>I.pin p (Xs _ (List.mem_append_left _ hp))
theorem K5{iter:Expr}{body:List Stmt}{wi:TI}{g:TG}{tb:TS}{pos:Pos}(hp:PassesOwn (model X.prog X.w) X.A X.env X.xe)(hc:X.calm=true)(hi:PI X tg iter wi)(hg:PG X tg g)(hb:PSs X body tb)
  (hs:∀x,foldedSetIterable iter X.env x=pure x:=by intro _;rfl):PS X (.For tg iter body [] pos) (y8f wi g tb):=by
 intro pins s J H D I h;refine wpAny_For (thn (hi pins s J H _ I h) fun v s1 h1=>thn h1 fun itv s2 h2=>?_) hs;obtain⟨it,fp,tn,Z7,H2,e,I2,T,st2,f2,W,⟨m0,w0⟩,turn⟩:=h2;subst e;have stat:∀{H':Hp},(∀b∈fp,H' b=none)->∀b∈fp,rP X pins H' b:=fun hn b hb=>⟨hn b hb,(f2 b hb).2⟩
 refine codeAny_forLoop_any (fun n s'=>∃i Z0 H',Inv X pins Z0 H' s'/\tn i s'.heap/\(∀b∈fp,H' b=none)/\W i n Z0 H') ?_ m0 ⟨0,J,H2,I2,st2,fun b hb=>(f2 b hb).1,w0⟩;rintro n s3 ⟨i,ZI,H3,I3,st3,fr3,w3⟩;rcases turn i n ZI H3 w3 with⟨stop,qn⟩|⟨go,N,hN,step⟩
 ·refine YB hp (thn (T.done X rfl rfl rfl hc i pins s3 ZI H3 X.xe I3 (stat fr3) st3 stop) fun r s4 ⟨hr,I4⟩=>?_);subst hr;exact wpAny_execs_nil ⟨ZI,H3,I4,qn⟩
 ·refine YB hp (thn (T.item X rfl rfl rfl hc i pins s3 ZI H3 X.xe I3 (stat fr3) st3 go) fun r s4 ⟨u,hr,h4⟩=>?_);subst hr;refine YB hp (thn h4 fun _ s5 hm=>?_);obtain⟨x,H5,I5,r5,y5,st5,fr5⟩:=hm;have I5':=I5.pinned (stat fr5) (T.obj _ _ st5);refine(YB hp (thn (hg _ s5 ZI H5 x u _ I5' r5 (step x H5 y5)) fun _ s6 hm=>?_));obtain⟨Zq,H6,I6,q6⟩:=hm;refine(YB hp (thn (hb _ s6 Zq H6 _ I6 q6) fun f s7 q7=>?_));have again:∀{ZT:St} {H7:Hp},Inv X (pins++v8 fp s5.heap) ZT H7 s7->N ZT H7->∃m,m<n/\∃i Z0 H',Inv X pins Z0 H' s7/\tn i s7.heap/\(∀b∈fp,H' b=none)/\W i m Z0 H':=fun{ZT H7} I7 n7=>by
   obtain⟨m',hm,w7⟩:=hN ZT H7 n7;refine(⟨m',hm,i+1,ZT,H7,I7.unpinned,T.keep _ _ _ st5 fun b hb o e=>(I7.pin (b,o) (Xs _ (Xs _ (vn hb e)))).1,fun b hb=>?_,w7⟩);obtain⟨o,e,d⟩:=T.obj _ _ st5 b hb;exact((I7.pin (b,o) (Xs _ (Xs _ (vn hb e)))).2.1)
  cases f with
  |next=>obtain⟨ZT,H7,I7,n7⟩:=q7;exact again I7 n7
  |cont=>obtain⟨ZT,H7,I7,n7⟩:=q7;exact again I7 n7
  |brk=>obtain⟨ZT,H7,I7,q7⟩:=q7;exact⟨ZT,H7,I7.unpinned,q7⟩
  |ret v=>obtain⟨x7,ZT,H7,I7,r7,q7⟩:=q7;exact⟨x7,ZT,H7,I7.unpinned,r7,q7⟩
end
abbrev R2:=V->V->Hp->VK->Prop
def OpR(X:Cx)(f:Value->Value->Sem Value)(r:R2):Prop:=
 ∀(pins:QS) (s:Shared) (J:St) (H:Hp) (x y:V) (v u:Value) (Q:VK),Inv X pins J H s->RelV x v->RelV y u->r x y H Q->
  wpAny (model X.prog X.w) X.A (f v u) (EP X pins J Q) X.xe s
def UnR(X:Cx)(f:Value->Sem Value)(r:V->Hp->VK->Prop):Prop:=
 ∀(pins:QS) (s:Shared) (J:St) (H:Hp) (x:V) (v:Value) (Q:VK),Inv X pins J H s->RelV x v->r x H Q->
  wpAny (model X.prog X.w) X.A (f v) (EP X pins J Q) X.xe s
def uO(X:Cx)(f:Value)(r:List V->Hp->VK->Prop):Prop:=
 ∀(pins:QS) (s:Shared) (J:St) (H:Hp) (xs:List V) (us:List Value) (Q:VK),Inv X pins J H s->Vals xs us->r xs H Q->
  wpAny (model X.prog X.w) X.A (call f us) (EP X pins J Q) X.xe s
def V6(X:Cx)(r:V->Hp->(Bool->Hp->Prop)->Prop):Prop:=
 ∀(pins:QS) (s:Shared) (J:St) (H:Hp) (x:V) (v:Value) (Q:Bool->Hp->Prop),Inv X pins J H s->RelV x v->r x H Q->
  wpAny (model X.prog X.w) X.A (truthy v) (TP X pins J Q) X.xe s
def tOp(r:R2)(ta tb:TE):TE:=fun J H Q=>ta J H fun x H1=>tb J H1 fun y H2=>r x y H2 Q
def tUn(r:V->Hp->VK->Prop)(ta:TE):TE:=fun J H Q=>ta J H fun x H1=>r x H1 Q
def rI(C:Int->Int->Prop)(g:Int->Int->V):R2:=fun x y H Q=>∃i j,x=.int i/\y=.int j/\C i j/\Q (g i j) H
def rI0(g:Int->Int->V):R2:=fun x y H Q=>∃i j,x=.int i/\y=.int j/\Q (g i j) H
def rU(g:Int->V):V->Hp->VK->Prop:=fun x H Q=>∃i,x=.int i/\Q (g i) H
section
variable {X:Cx} {a b:Expr} {ta tb:TE} {pos:Pos}
theorem FP(ha:PE X a ta)(hb:PE X b tb){pins:QS}{s:Shared}{J:St}{H:Hp}{R:V->V->Hp->Prop}(I:Inv X pins J H s)
  (h:ta J H fun x H1=>tb J H1 fun y H2=>R x y H2) {Q:OK} {f:Value->Value->Sem Value}
  (hf:∀v u s2 x y H2,Inv X pins J H2 s2->RelV x v->RelV y u->R x y H2->wpAny (model X.prog X.w) X.A (f v u) Q X.xe s2):
  wpAny (model X.prog X.w) X.A (eval a X.env) (fun v ZU=>wpAny (model X.prog X.w) X.A (eval b X.env) (fun u ZK=>wpAny (model X.prog X.w) X.A (f v u) Q X.xe ZK) X.xe ZU) X.xe s:=by
 refine thn (ha pins s J H _ I h) fun v s1 hm=>?_;obtain⟨x,H1,I1,r1,q1⟩:=hm;refine(thn (hb pins s1 J H1 _ I1 q1) fun u s2 hm=>?_);obtain⟨y,H2,I2,r2,q2⟩:=hm;exact(hf v u s2 x y H2 I2 r1 r2 q2)
theorem y52{op:Operator}{r:R2}(ho:OpR X (binaryOp op) r)(ha:PE X a ta)(hb:PE X b tb):PE X (.BinOp a op b pos) (tOp r ta tb):=by
 intro pins s J H Q I h;exact wpAny_BinOp (FP ha hb I h fun v u s2 x y H2 I2 rx ry q=>ho pins s2 J H2 x y v u Q I2 rx ry q)
theorem Uq{op:UnaryOp}{r:V->Hp->VK->Prop}(ho:UnR X (unaryOp op) r)(ha:PE X a ta):PE X (.UnaryOp op a pos) (tUn r ta):=by
 intro pins s J H Q I h;exact UnaryOp_ (thn (ha pins s J H _ I h) fun v s1 ⟨x,H1,I1,r1,q1⟩=>ho pins s1 J H1 x v Q I1 r1 q1)
theorem opI{f:Value->Value->Sem Value}{C:Int->Int->Prop}{g:Int->Int->Int}
  (rule:∀(i j:Int) (t u:Tok) (s:Shared) (Q:OK) (E:OK),C i j->Q (.int (g i j) s.toks) {s with toks:=s.toks+1}->wpAny (model X.prog X.w) X.A (f (.int i t) (.int j u)) Q E s):
  OpR X f (rI C fun i j=>.int (g i j)):=by
 intro pins s J H x y v u Q I rx ry h;obtain⟨i,j,rfl,rfl,hc,q⟩:=h;obtain⟨t,rfl⟩:=rx;obtain⟨t',rfl⟩:=ry;exact(rule i j t t' s _ _ hc ⟨.int (g i j),H,I.tok _,⟨_,rfl⟩,q⟩)
theorem LN{f:Value->Value->Sem Value}{g:Int->Int->Int}
  (rule:∀(i j:Int) (t u:Tok) (s:Shared) (Q:OK) (E:OK),Q (.int (g i j) s.toks) {s with toks:=s.toks+1}->wpAny (model X.prog X.w) X.A (f (.int i t) (.int j u)) Q E s):
  OpR X f (rI0 fun i j=>.int (g i j)):=by
 intro pins s J H x y v u Q I rx ry h;obtain⟨i,j,rfl,rfl,q⟩:=h;obtain⟨t,rfl⟩:=rx;obtain⟨t',rfl⟩:=ry;exact(rule i j t t' s _ _ ⟨.int (g i j),H,I.tok _,⟨_,rfl⟩,q⟩)
theorem Ep{f:Value->Value->Sem Value}{g:Int->Int->Bool}
  (rule:∀(i j:Int) (t u:Tok) (s:Shared) (Q:OK) (E:OK),Q (.bool (g i j)) s->wpAny (model X.prog X.w) X.A (f (.int i t) (.int j u)) Q E s):
  OpR X f (rI0 fun i j=>.bl (g i j)):=by
 intro pins s J H x y v u Q I rx ry h;obtain⟨i,j,rfl,rfl,q⟩:=h;obtain⟨t,rfl⟩:=rx;obtain⟨t',rfl⟩:=ry;exact(rule i j t t' s _ _ ⟨.bl (g i j),H,I,rfl,q⟩)
def ub(i j:Int):Prop:=0<=j/\j<=1000000/\i.natAbs<2^64
def CMul(i j:Int):Prop:=(-(2^64)<i/\i<2^64)\/(-(2^64)<j/\j<2^64)
theorem CMul.ok{i j:Int}(h:CMul i j):IntMulOk i j:=by
 rcases h with⟨h1,h2⟩|⟨h1,h2⟩
 ·exact .of_left (intBits_le_64 h1 h2)
 ·exact .of_right (intBits_le_64 h1 h2)
theorem op_add:OpR X (binaryOp .Add) (rI0 fun i j=>.int (i+j)):=LN fun _ _ _ _ _ _ _ q=>add_int q
theorem y1e:OpR X (binaryOp .Sub) (rI0 fun i j=>.int (i - j)):=LN fun _ _ _ _ _ _ _ q=>sub_int q
theorem op_mul:OpR X (binaryOp .Mult) (rI CMul fun i j=>.int (i*j)):=opI fun _ _ _ _ _ _ _ hc q=>mul_int q hc.ok
theorem Sh:OpR X (binaryOp .Mod) (rI (fun _ j=>0<j) fun i j=>.int (i%j)):=opI fun i j _ _ _ _ _ hc q=>by
 have h1:(0:Int)<j:=hc;exact mod_int' (by omega) (by rw[Int.fmod_eq_emod_of_nonneg i (by omega)];exact q)
theorem y1g:OpR X (binaryOp .Pow) (rI ub fun i j=>.int (i^j.toNat)):=opI fun _ _ _ _ _ _ _ hc q=>pow_int_small hc.1 hc.2.1 hc.2.2 q
theorem unI{f:Value->Sem Value}{g:Int->Int}
  (rule:∀(i:Int) (t:Tok) (s:Shared) (Q:OK) (E:OK),Q (.int (g i) s.toks) {s with toks:=s.toks+1}->wpAny (model X.prog X.w) X.A (f (.int i t)) Q E s):
  UnR X f (rU fun i=>.int (g i)):=by
 intro pins s J H x v Q I rx h;obtain⟨i,rfl,q⟩:=h;obtain⟨t,rfl⟩:=rx;exact(rule i t s _ _ ⟨.int (g i),H,I.tok _,⟨_,rfl⟩,q⟩)
theorem Oi:UnR X (unaryOp .USub) (rU fun i=>.int (-i)):=unI fun _ _ _ _ _ q=>neg_int q
end
section
variable {X:Cx} {a b c:Expr} {ta tb tc:TE} {pos:Pos}
theorem Dk{pins:QS}{J:St}{H:Hp}{s:Shared}{Q:VK}{k k':Bool}(I:Inv X pins J H s)(q:Q (.bl k) H)(e:k=k'):EP X pins J Q (.bool k') s:=by
 subst e;exact⟨.bl k,H,I,rfl,q⟩
theorem Bi:OpR X (compareOp .Lt) (rI0 fun i j=>.bl (decide (i<j))):=Ep fun _ _ _ _ _ _ _ q=>lt_int q
theorem BA:OpR X (compareOp .LtE) (rI0 fun i j=>.bl (decide (i<=j))):=Ep fun _ _ _ _ _ _ _ q=>le_int q
theorem Xa:OpR X (compareOp .Gt) (rI0 fun i j=>.bl (decide (j<i))):=Ep fun _ _ _ _ _ _ _ q=>gt_int q
theorem SS:OpR X (compareOp .Is) (fun x y H Q=>y=.non/\Q (.bl (decide (x=.non))) H):=by
 intro pins s J H x y v u Q I rx ry h;obtain⟨rfl,q⟩:=h;cases ry;refine(is_none_gen (Dk I q ?_));cases x<;>first
  |(cases rx;rfl)
  |(obtain⟨t,rfl⟩:=rx;rfl)
theorem Uw:OpR X (compareOp .IsNot) (fun x y H Q=>y=.non/\Q (.bl (!decide (x=.non))) H):=by
 intro pins s J H x y v u Q I rx ry h;obtain⟨rfl,q⟩:=h;cases ry;refine(isnot_none_gen (Dk I q ?_));cases x<;>first
  |(cases rx;rfl)
  |(obtain⟨t,rfl⟩:=rx;rfl)
theorem OpR.or{f:Value->Value->Sem Value}{r r':R2}(h:OpR X f r)(h':OpR X f r'):OpR X f (fun x y H Q=>r x y H Q\/r' x y H Q):=by
 intro pins s J H x y v u Q I rx ry q;rcases q with q|q
 ·exact h pins s J H x y v u Q I rx ry q
 ·exact h' pins s J H x y v u Q I rx ry q
theorem u3(b:Expr){op:CmpOp}(h:op≠.In:=by decide)(h2:op≠.NotIn:=by decide):behindInMarks op b=false:=by
 have e1:(op==CmpOp.In)=false:=by cases op<;>first|rfl|exact absurd rfl h
 have e2:(op==CmpOp.NotIn)=false:=by cases op<;>first|rfl|exact absurd rfl h2
 cases b<;>simp[behindInMarks,e1,e2]
theorem K7{op:CmpOp}{r:R2}(ho:OpR X (compareOp op) r)(ha:PE X a ta)(hb:PE X b tb)(hm:behindInMarks op b=false):PE X (.Compare a [op] [b] pos) (tOp r ta tb):=by
 intro pins s J H Q I h;exact wpAny_Compare1 (FP ha hb I h fun v u s2 x y H2 I2 rx ry q=>ho pins s2 J H2 x y v u Q I2 rx ry q) hm
def DM(t:TE):TT:=fun J H Q=>t J H fun x H'=>∃k,x=.bl k/\Q k H'
theorem Rp{op:CmpOp}{r:R2}(ho:OpR X (compareOp op) r)(ha:PE X a ta)(hb:PE X b tb)(hm:behindInMarks op b=false):PT X (.Compare a [op] [b] pos) (DM (tOp r ta tb)):=by
 intro pins s J H Q I h;refine wpAny_isTrue_Compare1 (thn (ha pins s J H _ I h) fun v s1 ⟨x,H1,I1,r1,q1⟩=>thn (hb pins s1 J H1 _ I1 q1) fun u s2 ⟨y,H2,I2,r2,q2⟩=>
  thn (ho pins s2 J H2 x y v u _ I2 r1 r2 q2) fun c s3 ⟨z,H3,I3,r3,k,e,q3⟩=>?_) hm
 subst e;cases r3;exact X2 ⟨H3,I3,q3⟩
def Co(r r':R2)(ta tb tc:TE):TE:=fun J H Q=>ta J H fun x H1=>tb J H1 fun y H2=>r x y H2 fun z H3=>∃k,z=.bl k/\
 (if k=true then tc J H3 fun w' H4=>r' y w' H4 Q else Q (.bl false) H3)
theorem Rz{op op':CmpOp}{r r':R2}(ho:OpR X (compareOp op) r)(ho':OpR X (compareOp op') r')(ha:PE X a ta)(hb:PE X b tb)(hc:PE X c tc)
  (hm:lastMarks [op,op'] [b,c]=false:=by with_unfolding_all rfl):PE X (.Compare a [op,op'] [b,c] pos) (Co r r' ta tb tc):=by
 intro pins s J H Q I h;refine Compare_chain (thn (ha pins s J H _ I h) fun v s1 ⟨x,H1,I1,r1,q1⟩=>chain_link (thn (hb pins s1 J H1 _ I1 q1) fun u s2 ⟨y,H2,I2,r2,q2⟩=>
  thn (ho pins s2 J H2 x y v u _ I2 r1 r2 q2) fun d s3 ⟨z,H3,I3,r3,k,e,q3⟩=>?_)) hm
 subst e;cases r3;refine X2 ?_;cases k with
 |false=>exact ite_ff ⟨.bl false,H3,I3,rfl,q3⟩
 |true=>exact ite_tt (chain_last (thn (hc pins s3 J H3 _ I3 q3) fun w' s4 ⟨z',H4,I4,r4,q4⟩=>ho' pins s4 J H4 y z' u w' Q I4 r2 r4 q4))
theorem SO{op op':CmpOp}{r r':R2}(ho:OpR X (compareOp op) r)(ho':OpR X (compareOp op') r')(ha:PE X a ta)(hb:PE X b tb)(hc:PE X c tc)
  (hm:lastMarks [op,op'] [b,c]=false:=by with_unfolding_all rfl):PT X (.Compare a [op,op'] [b,c] pos) (DM (Co r r' ta tb tc)):=by
 intro pins s J H Q I h;refine isTrue_chain (thn (ha pins s J H _ I h) fun v s1 ⟨x,H1,I1,r1,q1⟩=>test_link (thn (hb pins s1 J H1 _ I1 q1) fun u s2 ⟨y,H2,I2,r2,q2⟩=>
  thn (ho pins s2 J H2 x y v u _ I2 r1 r2 q2) fun d s3 ⟨z,H3,I3,r3,k,e,q3⟩=>?_)) hm
 subst e;cases r3;refine X2 ?_;cases k with
 |false=>
  obtain⟨k',e',q'⟩:=q3;cases e';exact ite_ff ⟨H3,I3,q'⟩
 |true=>
  refine ite_tt (test_last (thn (hc pins s3 J H3 _ I3 q3) fun w' s4 ⟨z',H4,I4,r4,q4⟩=>thn (ho' pins s4 J H4 y z' u w' _ I4 r2 r4 q4) fun d' s5 hm=>?_));obtain⟨z2,H5,I5,r5,k2,e2,q5⟩:=hm;subst e2;cases r5;exact(X2 ⟨H5,I5,q5⟩)
def C2(K:Frag)(x:V)(H:Hp)(k:Bool):Prop:=
 match x with
 | .non=>k=false
 | .bl b=>k=b
 | .int i=>k=(i !=0)
 | .str y=>y.length<=sizeLine/\k=((y.length:Int) !=0)
 | .byt y=>y.size<=sizeLine/\k=((y.size:Int) !=0)
 | .ref p=>(∃xs,SqL K H p xs/\k=!xs.isEmpty)\/(∃xs,SqT K H p xs/\k=!xs.isEmpty)\/∃kvs,H p=some (.dK kvs)/\k=!kvs.isEmpty
 |_=>False
theorem zky{κ:Type}{kvs:List (κ×V)}{vs:List (κ×Value)}(r:KV kvs vs):(!vs.isEmpty)=!kvs.isEmpty:=by
 cases r<;>rfl
theorem L6{xs:List V}{its:List Value}(r:Vals xs its):(!its.toArray.isEmpty)=!xs.isEmpty:=by
 cases r<;>simp
theorem yM:(sizeLine:Nat)<2^63:=by rw[YF];decide
theorem Qy:V6 X (fun x H Q=>∃k,C2 X.K x H k/\Q k H):=by
 intro pins s J H x v Q I rx h;obtain⟨k,e,q⟩:=h;have hl:=yM;have hs:sizeLine=16777216:=YF;cases x with
 |non=>
  cases rx;have e':k=false:=e;subst e';exact truthy_none ⟨H,I,q⟩
 |bl b=>
  cases rx;have e':k=b:=e;subst e';exact X2 ⟨H,I,q⟩
 |int i=>
  obtain⟨t,rfl⟩:=rx;have e':k=(i !=0):=e;subst e';exact PySem.P.truthy_int ⟨H,I,q⟩
 |str y=>
  obtain⟨t,rfl⟩:=rx;obtain⟨hy,e'⟩:y.length<=sizeLine/\k=((y.length:Int) !=0):=e;subst e';exact PySem.P.truthy_str (by omega) ⟨H,I.tok _,q⟩
 |byt y=>
  obtain⟨t,rfl⟩:=rx;obtain⟨hy,e'⟩:y.size<=sizeLine/\k=((y.size:Int) !=0):=e;subst e';exact PySem.W.truthy_bytes (by omega) ⟨H,I.tok _,q⟩
 |ref p=>
  cases rx;have e':(∃xs,SqL X.K H p xs/\k=!xs.isEmpty)\/(∃xs,SqT X.K H p xs/\k=!xs.isEmpty)\/∃kvs,H p=some (.dK kvs)/\k=!kvs.isEmpty:=e;rcases e' with⟨xs,hx,e'⟩|⟨xs,hx,e'⟩|⟨kvs,hx,e'⟩
  ·subst e';obtain⟨its,r,pl,hz⟩:=I.list hx;have hlen:=r.length;exact wpAny_truthy_list pl.isList (by simp only[Xu];omega) ⟨H,I.tok _,by rw[L6 r];exact q⟩
  ·subst e';obtain⟨its,r,pl,hz⟩:=I.tuple hx;have hlen:=r.length;exact truthy_tuple pl (by simp only[Xu];omega) ⟨H,I.tok _,by rw[L6 r];exact q⟩
  ·subst e';obtain⟨hz,hS,vs,r,m⟩:kvs.length<=sizeLine/\(p==sysModules)=false/\∃vs,KV kvs vs/\s.heap.DictOf (tI X.prog X.w) p vs:=I.hok p _ hx;have hlen:kvs.length=vs.length:=Paired.length r;exact wpAny_truthy_dict hS m (by omega) ⟨H,I.tok _,by rw[zky r];exact q⟩
 |_=>exact(show False from e).elim
theorem Si(ha:PE X a ta)(he:∀whole,isTrue a X.env whole=(do let v ←whole;standAt a.pos;holding [v] (truthy v))):
  PT X a (fun J H Q=>ta J H fun x H'=>∃k,C2 X.K x H' k/\Q k H'):=by
 intro pins s J H Q I h;exact isTrue_plain (thn (ha pins s J H _ I h) fun v s1 ⟨x,H1,I1,r1,q1⟩=>Qy pins s1 J H1 x v Q I1 r1 q1) (he _)
theorem wc{x:V}{us:List Value}(r:Vals [x] us):∃u,us=[u]/\RelV x u:=by
 cases r with
 |cons r1 r2=>cases r2;exact⟨_,rfl,r1⟩
theorem Gj{x y:V}{us:List Value}(r:Vals [x,y] us):∃u w',us=[u,w']/\RelV x u/\RelV y w':=by
 cases r with
 |cons r1 r2=>
  cases r2 with
  |cons r3 r4=>cases r4;exact⟨_,_,rfl,r1,r3⟩
theorem Vv(hc:X.calm=true):uO X (.builtin "max") (fun xs H Q=>∃i j,xs=[.int i,.int j]/\Q (.int (if j>i then j else i)) H):=by
 intro pins s J H xs us Q I r h;obtain⟨i,j,rfl,q⟩:=h;obtain⟨u,w',rfl,⟨t,rfl⟩,⟨t',rfl⟩⟩:=Gj r;refine(max_two_ints (I.ok.hd hc) fun h' tk k=>⟨_,H,I.kept k,?_,q⟩);by_cases hj:j>i
 ·rw[if_pos hj,if_pos hj];exact⟨_,rfl⟩
 ·rw[if_neg hj,if_neg hj];exact⟨_,rfl⟩
theorem OY(hc:X.calm=true):uO X (.builtin "min") (fun xs H Q=>∃i j,xs=[.int i,.int j]/\Q (.int (if j<i then j else i)) H):=by
 intro pins s J H xs us Q I r h;obtain⟨i,j,rfl,q⟩:=h;obtain⟨u,w',rfl,⟨t,rfl⟩,⟨t',rfl⟩⟩:=Gj r;refine(min_two_ints (I.ok.hd hc) fun h' tk k=>⟨_,H,I.kept k,?_,q⟩);by_cases hj:j<i
 ·rw[if_pos hj,if_pos hj];exact⟨_,rfl⟩
 ·rw[if_neg hj,if_neg hj];exact⟨_,rfl⟩
theorem Xe:uO X (.type "int") (fun xs H Q=>(∃i,xs=[.int i]/\Q (.int i) H)\/∃k,xs=[.bl k]/\Q (.int (if k then 1 else 0)) H):=by
 intro pins s J H xs us Q I r h;rcases h with⟨i,rfl,q⟩|⟨k,rfl,q⟩
 ·obtain⟨u,rfl,t,rfl⟩:=wc r;exact call_int_int ⟨.int i,H,I,⟨_,rfl⟩,q⟩
 ·obtain⟨u,rfl,r1⟩:=wc r;cases r1;exact call_int_bool ⟨.int (if k then 1 else 0),H,I.tok _,⟨_,rfl⟩,q⟩
end
structure ObjM (h:Heap) (x dx C:Addr) (mA:Str->Option Value):Prop where
 obj:h.get? x=some (PySem.W.instObj C dx)
 ns:h.Ns1 dx mA
 ne:dx≠x
def ON{h:Heap}{dx:Addr}{mA:Str->Option Value}(n:h.Ns1 dx mA):∃od,h.get? dx=some od/\∀name,PySem.W.lookIn name od=some (mA name):=by
 obtain⟨o,es,ep,ho,hd,hk,_,hm⟩:=n;refine(⟨o,ho,fun name=>?_⟩);have e:=hm name;unfold nsFind findBy at e;rw[←Array.find?_toList] at e;unfold PySem.W.lookIn;rw[hd];dsimp only;split
 ·rename_i y q;rw[q] at e;exact congrArg some e
 ·rename_i q;rw[q] at e;have a:es.toList.any (·.refKey)=false:=by
   rw[List.any_eq_false];intro y hy;obtain⟨z,t,hkey⟩:=hk y (Array.mem_toList_iff.mp hy);simp[DictEntry.refKey,hkey]
  have a':¬es.toList.any (·.refKey)=true:=by rw[a];exact XW
  rw[if_neg a'];exact congrArg some e
def ObjM.look{h:Heap}{x dx C:Addr}{mA:Str->Option Value}(I:ObjM h x dx C mA):∃od,PySem.W.InstAt h x (PySem.W.instObj C dx) C (some od)/\∀name,PySem.W.lookIn name od=some (mA name):=
 let ⟨od,ho,hl⟩:=ON I.ns
 ⟨od,⟨I.obj,rfl,rfl,ho⟩,hl⟩
section
variable {prog:Program} {w:World} {A:Around} {E:OK} {s:Shared} {K:Frag} {x dx C f:Addr} {mA:Str->Option Value} {name:Str} {v:Value}
theorem Wb{expr:Bool}{Q:OK}(X:K.In s.heap)(I:ObjM s.heap x dx C mA)(hg:PySem.W.plainGet K C name=true)(hh:PySem.W.hasDictIn K C=true)
  (ha:findIn K (.ref C) name=some none) (hv:mA name=some v) (hv':PySem.W.handedIn v=true) (h:Q v {s with toks:=s.toks+1}):
  wpAny (model prog w) A (getAttr (.ref x) name expr) Q E s:=by
 obtain⟨od,Z7,hl⟩:=I.look;exact(PySem.W.get_value X Z7 (PySem.W.plainGet_of hg).1 (PySem.W.findObj_own hh ha rfl (by rw[hl,hv])) hv' h)
theorem TZ{pl:Sem Bool}{Q:Value×List Value->Shared->Prop}(X:K.In s.heap)(I:ObjM s.heap x dx C mA)(hg:PySem.W.plainGet K C name=true)
  (hf:findIn K (.ref C) name=some (some (.ref f))) (ht:isFn K (.ref f)=true) (hv:mA name=none) (h:Q (.ref f,[.ref x]) s):
  wpAny (model prog w) A (getMethod (.ref x) name pl) Q E s:=by
 obtain⟨od,Z7,hl⟩:=I.look;exact PySem.W.method_fn X Z7 (PySem.W.plainGet_of hg).1 (PySem.W.plainGet_of hg).2 hf (beq_iff_eq.mp ht) (by show(PySem.W.lookIn name od).map (·.isSome)=some false;rw[hl,hv];rfl) h
theorem RD{ns:List Str}{Q:Unit->Shared->Prop}(X:K.In s.heap)(I:ObjM s.heap x dx C mA)
  (hs:findIn K (.ref C) "__setattr__"=some (some (.builtin "object.__setattr__"))) (hp:PySem.W.plainOver K C=true) (ht:PySem.W.takerIn K C name=some none) (hh:PySem.W.hasDictIn K C=true)
  (hw:PySem.Within mA ns) (hsz:ns.length<=sizeLine)
  (h:∀h',ObjM h' x dx C (fun y=>if y=name then some v else mA y)->Heap.SameBut dx s.heap h'->Q () {s with heap:=h',toks:=s.toks+2}):
  wpAny (model prog w) A (setAttr (.ref x) name v) Q E s:=by
 obtain⟨od,Z7,hl⟩:=I.look;refine(PySem.W.set_plain X Z7 hs (PySem.W.osa_open (s:={s with toks:=s.toks+1}) (r:=none) X Z7 hp ht fun b=>?_));obtain⟨cd,hc,hd'⟩:=PySem.W.any_some hh;have hx:s.heap.get? x=some ⟨.ref C,some dx,.plain,#[]⟩:=I.obj;refine(Xf (Xj (Xf (Xf (wpAny_loadPart hx (Xf (PySem.W.Looks.here (s:={s with toks:=s.toks+1}) (PySem.W.looks_clsIn X hc) ?_)))))));rw[hd'];refine Xj (a:=some dx) (Xf (Xj (Xf ?_)));refine wpAny_nsSet1 (s:={s with toks:=s.toks+1}) I.ns fun h' hn2 hs2=>?_;obtain⟨oD,esD,epD,hoD,hdD,hcD⟩:=hn2.count (PySem.Within.cons name v hw);refine Xf (wpAny_lookBehind hoD (by rw[hdD];exact pastItsLine_dict (XL hcD (by rw[XM];omega))) ?_);exact Xj (h _ ⟨(hs2.2 _ (Ne.symm I.ne)).trans I.obj,hn2,I.ne⟩ hs2)
theorem zrj{R:Result->Shared->Prop}{vs:List Value}{kw:List (Str×Value)}(X:K.In s.heap)(hm:PySem.W.makesIn K C=true)
  (hi:findIn K (.ref C) "__init__"=some (some (.ref f))) (hf:PySem.W.typeIn K (.ref f)=some (.type "function"))
  (h:codeAny (model prog w) (A.under (.builtin "type.__call__" ⟨.ref C::vs,kw⟩)) (.call (.ref f) ⟨.ref (s.heap.objs.size+1)::vs,kw⟩) (PySem.W.InitBack (s.heap.objs.size+1) R)
   {s with heap:=(s.heap.push PySem.W.emptyDict).push (PySem.W.instObj C s.heap.objs.size)}):
  codeAny (model prog w) A (.call (.ref C) ⟨vs,kw⟩) R s:=by
 obtain⟨hh,g,d,t,os⟩:=s;exact(PySem.W.make_core (PySem.W.makes_of X hm) (PySem.W.looks_findIn X hi) (fun self=>PySem.W.bind_fn X self hf) (.inl rfl) h)
end
def sA(f:Str)(v:V):List (Str×V)->List (Str×V)
 | []=>[(f,v)]
 |(g,x)::r=>if g=f then(g,v)::r else(g,x)::sA f v r
theorem G6(f g:Str)(v:V):∀fs:List (Str×V),(sA f v fs).lookup g=if g=f then some v else fs.lookup g
 | []=>by
  show List.lookup g [(f,v)]=_;by_cases h:g=f
  ·have hb:(g==f)=true:=beq_iff_eq.mpr h;simp only[List.lookup,hb,if_pos h]
  ·have hb:(g==f)=false:=beq_eq_false_iff_ne.mpr h;simp only[List.lookup,hb,if_neg h]
 |(k,x)::r=>by
  have ih:=G6 f g v r;rw[show sA f v ((k,x)::r)=(if k=f then(k,v)::r else(k,x)::sA f v r) from rfl];by_cases hk:k=f
  ·rw[if_pos hk];by_cases h:g=k
   ·have hb:(g==k)=true:=beq_iff_eq.mpr h;simp only[List.lookup,hb,if_pos (h.trans hk)]
   ·have hb:(g==k)=false:=beq_eq_false_iff_ne.mpr h;simp only[List.lookup,hb,if_neg (fun e:g=f=>h (e.trans hk.symm))]
  ·rw[if_neg hk];by_cases h:g=k
   ·have hb:(g==k)=true:=beq_iff_eq.mpr h;simp only[List.lookup,hb,if_neg (fun e:g=f=>hk (h.symm.trans e))]
   ·have hb:(g==k)=false:=beq_eq_false_iff_ne.mpr h;simp only[List.lookup,hb];exact ih
theorem Eu(f:Str)(v:V):∀fs:List (Str×V),f∈(sA f v fs).map (·.1)/\∀g,g∈fs.map (·.1)->g∈(sA f v fs).map (·.1)
 | []=>⟨by simp[sA],fun g h=>by simp at h⟩
 |(k,x)::r=>by
  obtain⟨i1,i2⟩:=Eu f v r;rw[show sA f v ((k,x)::r)=(if k=f then(k,v)::r else(k,x)::sA f v r) from rfl];by_cases hk:k=f
  ·rw[if_pos hk];subst hk;exact⟨by simp,fun g h=>by simpa using h⟩
  ·rw[if_neg hk];refine⟨?_,fun g h=>?_⟩
   ·rw[Xr];exact XV _ i1
   ·rw[Xr] at h⊢;rcases XI.mp h with e|e
    ·exact XI.mpr (.inl e)
    ·exact XV _ (i2 g e)
theorem Nf(f:Str)(v:V):∀fs:List (Str×V),(sA f v fs).length<=fs.length+1
 | []=>by simp[sA]
 |(k,x)::r=>by
  have ih:=Nf f v r;rw[show sA f v ((k,x)::r)=(if k=f then(k,v)::r else(k,x)::sA f v r) from rfl];by_cases hk:k=f
  ·rw[if_pos hk,XM,XM];omega
  ·rw[if_neg hk,XM,XM];omega
def RelO.some_of{v:V}{o:Option Value}(r:RelO (some v) o):∃u,o=some u/\RelV v u:=by
 cases o with
 |none=>exact(show False from r).elim
 |some u=>exact⟨u,rfl,r⟩
def RelO.none_of{o:Option Value}(r:RelO none o):o=none:=by
 cases o with
 |none=>rfl
 |some u=>exact(show False from r).elim
def NO{v:V}{u:Value}(r:RelV v u):PySem.W.handedIn u=true:=by
 cases v with
 |non=>cases (show u=Value.none from r);rfl
 |bl b=>cases (show u=Value.bool b from r);rfl
 |int i=>obtain⟨t,e⟩:=(show ∃t,u=Value.int i t from r);cases e;rfl
 |str x=>obtain⟨t,e⟩:=(show ∃t,u=Value.str x t from r);cases e;rfl
 |byt b=>obtain⟨t,e⟩:=(show ∃t,u=Value.bytes b t from r);cases e;rfl
 |flt b=>obtain⟨t,e⟩:=(show ∃t,u=Value.float b t from r);cases e;rfl
 |ref a=>cases (show u=Value.ref a from r);rfl
 |ty n=>cases (show u=Value.type n from r);rfl
section
variable {P:Program} {w:World} {H:Hp} {h:Heap} {a C dx:Addr} {fs:List (Str×V)}
theorem Fu(hok:HOk P w H h)(e:H a=some (.ins C dx fs)):∃mA,ObjM h a dx C mA/\(∀f,RelO (fs.lookup f) (mA f))/\PySem.Within mA (fs.map (·.1))/\fs.length<=1000/\H dx=some (.own a):=by
 obtain⟨d,z,ne,ob,mA,n,r,q⟩:=(show ObjOk P w H h a (.ins C dx fs) from hok a _ e)
 exact(⟨mA,⟨ob,n,ne⟩,r,q,z,d⟩)
end
structure Cls (K:Frag) (C:Addr):Prop where
 pg:PySem.W.plainGet K C Str.empty=true
 hd:PySem.W.hasDictIn K C=true
 po:PySem.W.plainOver K C=true
 sa:findIn K (.ref C) "__setattr__"=some (some (.builtin "object.__setattr__"))
def Cls.get{K:Frag}{C:Addr}(c:Cls K C)(f:Str):PySem.W.plainGet K C f=true:=c.pg
def NoAttr(K:Frag)(C:Addr)(f:Str):Prop:=findIn K (.ref C) f=some none
def NoAttr.taker{K:Frag}{C:Addr}{f:Str}(n:NoAttr K C f):PySem.W.takerIn K C f=some none:=by
 unfold PySem.W.takerIn;rw[show findIn K (.ref C) f=some none from n];rfl
structure Meth (K:Frag) (C:Addr) (m:Str) (f:Addr):Prop where
 at_:findIn K (.ref C) m=some (some (.ref f))
 fn:isFn K (.ref f)=true
 kp:keepIn K (.ref f)=true
section
variable {X:Cx} {pins:QS} {J:St} {H:Hp} {s:Shared} {a C dx:Addr} {fs:List (Str×V)} {f:Str} {v:V} {A:Around} {E:OK}
theorem Su{b:Bool}{Q:OK}(I:Inv X pins J H s)(e:H a=some (.ins C dx fs))(c:Cls X.K C)(n:NoAttr X.K C f)(l:fs.lookup f=some v)
  (h:∀u s',Inv X pins J H s'->RelV v u->Q u s'):wpAny (model X.prog X.w) A (getAttr (.ref a) f b) Q E s:=by
 obtain⟨mA,Z9,r,_,_,_⟩:=Fu I.hok e;obtain⟨u,hu,ru⟩:=RelO.some_of (v:=v) (o:=mA f) (by rw[←l];exact r f);exact(Wb I.kIn Z9 (c.get f) c.hd n hu (NO ru) (h u _ (I.tok _) ru))
theorem Lx{m:Str}{g:Addr}{pl:Sem Bool}{Q:Value×List Value->Shared->Prop}(I:Inv X pins J H s)(e:H a=some (.ins C dx fs))(c:Cls X.K C)(k:Meth X.K C m g)(l:fs.lookup m=none)
  (h:Q (.ref g,[.ref a]) s):wpAny (model X.prog X.w) A (getMethod (.ref a) m pl) Q E s:=by
 obtain⟨mA,Z9,r,_,_,_⟩:=Fu I.hok e;have hn:mA m=none:=RelO.none_of (by rw[←l];exact r m);exact(TZ I.kIn Z9 (c.get m) k.at_ k.fn hn h)
theorem Q8{y:V}{u:Value}{Q:Unit->Shared->Prop}(I:Inv X pins J H s)(e:H a=some (.ins C dx fs))(c:Cls X.K C)(n:NoAttr X.K C f)(hl:fs.length<1000)(ry:RelV y u)
  (h:∀s',Inv X pins J (upd H a (.ins C dx (sA f y fs))) s'->Q () s'):wpAny (model X.prog X.w) A (setAttr (.ref a) f u) Q E s:=by
 obtain⟨mA,Z9,r,wi,_,ho⟩:=Fu I.hok e;have hz:(fs.map (·.1)).length<=sizeLine:=by rw[Xn,YF];omega
 refine(RD I.kIn Z9 c.sa c.po n.taker c.hd wi hz fun h' O' sb=>h _ ?_);have hd:∃o,h'.get? dx=some o:=let ⟨o,_,_,e',_⟩:=O'.ns;⟨o,e'⟩
 refine I.write (x:=a) (e:=dx) (by rw[e];exact True.intro) (.inr ho) (fun b q hb z=>(sb.2 b hb).trans z) hd ?_;refine⟨by rw[qW Z9.ne];exact ho,?_,Z9.ne,O'.obj,_,O'.ns,fun g=>?_,fun g hg=>?_⟩
 ·have:=Nf f y fs;omega
 ·show RelO ((sA f y fs).lookup g) (if g=f then some u else mA g);rw[G6];by_cases q:g=f
  ·rw[if_pos q,if_pos q];exact ry
  ·rw[if_neg q,if_neg q];exact r g
 ·by_cases q:g=f
  ·rw[q];exact(Eu f y fs).1
  ·refine(Eu f y fs).2 g (wi g fun z=>hg ?_);show(if g=f then some u else mA g)=none;rw[if_neg q];exact z
theorem Inv.made(I:Inv X pins J H s):Inv X pins J (upd (upd H s.heap.objs.size (.own (s.heap.objs.size+1))) (s.heap.objs.size+1) (.ins C s.heap.objs.size []))
  {s with heap:=(s.heap.push PySem.W.emptyDict).push (PySem.W.instObj C s.heap.objs.size)}:=by
 have e1:(s.heap.push PySem.W.emptyDict).get? s.heap.objs.size=some PySem.W.emptyDict:=Xp s.heap rfl;have e2:((s.heap.push PySem.W.emptyDict).push (PySem.W.instObj C s.heap.objs.size)).get? (s.heap.objs.size+1)=some (PySem.W.instObj C s.heap.objs.size):=by
  have:=Xp (s.heap.push PySem.W.emptyDict) (o:=PySem.W.instObj C s.heap.objs.size) rfl;rwa[Yd] at this
 have e3:(s.heap.push PySem.W.emptyDict).Ns s.heap.objs.size (fun _=>none):=⟨PySem.W.emptyDict,#[],_,e1,rfl,(fun e he=>absurd he (by simp)),fun _=>rfl⟩
 have I1:=I.laid (a:=s.heap.objs.size) (o:=.own (s.heap.objs.size+1)) (h':=s.heap.push PySem.W.emptyDict) (t':=s.toks) (fun b u q=>Xg _ q) (Xh _) ⟨_,e1⟩;refine I1.laid (a:=s.heap.objs.size+1) (o:=.ins C s.heap.objs.size []) (t':=s.toks) (fun b u q=>Xg _ q) (Nat.le_of_eq (Yd _ _)) ?_;have ne:s.heap.objs.size≠s.heap.objs.size+1:=Xz (Nat.lt_succ_self _);refine⟨by rw[qW ne,rQ],Ye _,ne,e2,fun _=>none,(Heap.Ns1.of_empty e3).at fun o q=>Xg _ q,fun _=>True.intro,fun y hy=>absurd rfl hy⟩
theorem TC{prog:Program}{w:World}{env:Env}{e:Expr}{f:Str}{pos:Pos}{s:Shared}{Q:OK}(hb:attributeBase e f env (eval e env)=eval e env)
  (h:wpAny (model prog w) A (eval e env) (fun o ZU=>wpAny (model prog w) A (getAttr o f true) Q E ZU) E s):wpAny (model prog w) A (eval (.Attribute e f pos) env) Q E s:=
 Attribute_any_ h (by rw[arm_eval_Attribute,hb])
end
def Wv(K:Frag)(ta:TE)(f:Str):TE:=fun J H Q=>ta J H fun x H1=>∃a C dx fs v,x=.ref a/\H1 a=some (.ins C dx fs)/\Cls K C/\NoAttr K C f/\fs.lookup f=some v/\Q v H1
def Vc(K:Frag)(ta tv:TE)(f:Str):TS:=fun D J H=>tv J H fun y H1=>ta J H1 fun x H2=>∃a C dx fs,x=.ref a/\H2 a=some (.ins C dx fs)/\Cls K C/\NoAttr K C f/\fs.length<1000/\
 D.nx J (upd H2 a (.ins C dx (sA f y fs)))
section
variable {X:Cx} {o e value:Expr} {f:Str} {pos pos':Pos} {ta tv:TE}
theorem UB(he:PE X e ta)(hb:attributeBase e f X.env (eval e X.env)=eval e X.env):PE X (.Attribute e f pos) (Wv X.K ta f):=by
 intro pins s J H Q I h;refine TC hb (thn (he pins s J H _ I h) fun u s1 hm=>?_);obtain⟨x,H1,I1,rx,a,C,dx,fs,v,ex,ea,c,n,l,q⟩:=hm;subst ex;obtain rfl:u=Value.ref a:=rx;exact Su I1 ea c n l fun u' s2 I2 ru=>⟨v,H1,I2,ru,q⟩
theorem T2(ha:PE X o ta)(hv:PE X value tv)(hs:swapsWith value (some (.Attribute o f pos')) pos.line X.env=pure false):PS X (.Assign [.Attribute o f pos'] value pos) (Vc X.K ta tv f):=by
 intro pins s J H D I h;refine plainObj_wpAny_Assign_Attribute (thn (hv pins s J H _ I h) fun u s1 ⟨y,H1,I1,ry,q⟩=>thn (ha pins s1 J H1 _ I1 q) fun ov s2 hm=>?_) hs;obtain⟨x,H2,I2,rx,a,C,dx,fs,ex,ea,c,n,l,q2⟩:=hm;subst ex;obtain rfl:ov=Value.ref a:=rx;exact Q8 I2 ea c n l ry fun s3 I3=>⟨J,_,I3,q2⟩
theorem methcall_of{pl:Sem Bool}{m:Str}{apos:Pos}{args:List Expr}{pins:QS}{s:Shared}{J:St}{H:Hp}{Q:OK}{te:TE}(he:PE X e te)(I:Inv X pins J H s)
  (h:te J H fun x H1=>∃a C dx fs g,x=.ref a/\H1 a=some (.ins C dx fs)/\Cls X.K C/\Meth X.K C m g/\fs.lookup m=none/\
   ∀s1,Inv X pins J H1 s1->wpAny (model X.prog X.w) X.A (callWith pos (.ref g) [.ref a] (backTo pos (starEach args X.env)) (backToKw pos (keywordEach [] X.env))) Q X.xe s1)
  (ht:eval (.Call (.Attribute e m apos) args [] pos) X.env=(do
   let ov ←eval e X.env
   standAt apos.atName
   let (f,first) ←holding [ov] (getMethod ov m pl)
   callWith pos f first (backTo pos (starEach args X.env)) (backToKw pos (keywordEach [] X.env)))):
  wpAny (model X.prog X.w) X.A (eval (.Call (.Attribute e m apos) args [] pos) X.env) Q X.xe s:=by
 refine PySem.W.methodCall_KW (pl:=pl) (thn (he pins s J H _ I h) fun u s1 hm=>?_) ht;obtain⟨x,H1,I1,rx,a,C,dx,fs,g,ex,ea,c,k,l,q⟩:=hm;subst ex;obtain rfl:u=Value.ref a:=rx;exact Lx I1 ea c k l (q s1 I1)
end
structure Room (k:Nat) (A:Around):Prop where
 hd:A.handled=none
 dp:A.depth+3*k+5<recursionLimit
 un:A.units+16*k+200<cLine
 gd:A.guards=some []
def PN{A:Around}{C:Addr}{us:List Value}{kw:List (Str×Value)}:(A.under (.builtin "type.__call__" ⟨.ref C::us,kw⟩)).guards=A.guards:=by
 first|rfl|simp[Around.under,Code.isGuard,guardIds]
def Room.mono{j k:Nat}{A:Around}(r:Room k A)(h:j<=k):Room j A:=⟨r.hd,by have:=r.dp;omega,by have:=r.un;omega,r.gd⟩
def Room.deeper{k:Nat}{A:Around}(r:Room (k+1) A)(env:Env):Room k (A.deeper env):=
 ⟨r.hd,by have:=r.dp;show A.depth+1+3*k+5<_;omega,by have:=r.un;show A.units+3+16*k+200<_;omega,r.gd⟩
def UJ{A:Around}{C:Addr}{us:List Value}{kw:List (Str×Value)}:(A.under (.builtin "type.__call__" ⟨.ref C::us,kw⟩)).depth=A.depth+1:=by
 first|rfl|simp[Around.under,Code.weight,Code.isCreation,Code.isGuard,Code.isCaller,Code.frames,Code.isFrame,guardIds]
def RQ{A:Around}{C:Addr}{us:List Value}{kw:List (Str×Value)}:(A.under (.builtin "type.__call__" ⟨.ref C::us,kw⟩)).units=A.units+1:=by
 first|rfl|simp[Around.under,Code.cUnits,Code.frames,Code.isFrame]
def Room.make{k:Nat}{A:Around}(r:Room (k+1) A)(C:Addr)(us:List Value)(kw:List (Str×Value)):Room k (A.under (.builtin "type.__call__" ⟨.ref C::us,kw⟩)):=
 ⟨r.hd,by have:=r.dp;rw[UJ];omega,by have:=r.un;rw[RQ];omega,by rw[PN];exact r.gd⟩
def Room.depth{k:Nat}{A:Around}(r:Room k A):A.depth<recursionLimit:=by have:=r.dp;omega
def Room.units{k:Nat}{A:Around}(r:Room k A):A.units+64<cLine:=by have:=r.un;omega
def u5:TA:=fun _ H Q=>Q [] H
def t5(ta:TE)(tr:TA):TA:=fun J H Q=>ta J H fun x H1=>tr J H1 fun xs H2=>Q (x::xs) H2
section
variable {X:Cx} {e:Expr} {es:List Expr} {te:TE} {t:TA} {pos:Pos}
theorem sV:PA X [] u5:=fun _ _ _ _ H Q I h=>Calls.spliced_nil ⟨[],H,I,.nil,h⟩
theorem sq(ha:PE X e te)(hr:PA X es t)(hs:starEach (e::es) X.env=(false,eval e X.env)::starEach es X.env:=by rfl):PA X (e::es) (t5 te t):=by
 intro pos pins s J H Q I h;rw[hs];show wpAny _ _ (spliced ((false,eval e X.env)::backTo pos (starEach es X.env))) _ _ s;refine Calls.spliced_cons (thn (ha pins s J H _ I h) fun u s1 hm=>?_);obtain⟨x,H1,I1,r1,q1⟩:=hm;exact(thn (hr pos pins s1 J H1 _ I1 q1) fun us s2 ⟨xs,H2,I2,r2,q2⟩=>⟨x::xs,H2,I2,.cons r1 r2,q2⟩)
def T9(t:TA):TE:=fun J H Q=>t J H fun xs H1=>xs.length<=sizeLine/\∀p,H1 p=none->Q (.ref p) (upd H1 p (.tup xs))
def y8d(t:TA):TE:=fun J H Q=>t J H fun xs H1=>xs.length<=sizeLine/\∀p,H1 p=none->Q (.ref p) (upd H1 p (.lst xs))
theorem Qr{x1}(h:PA X es t):PE X (.Tuple es x1 pos) (T9 t):=by
 intro pins s J H Q I hq;refine wpAny_Tuple_spliced (thn (h pos pins s J H _ I hq) fun us s1 ⟨xs,H1,I1,r,z,q⟩=>⟨by rw[←r.length];exact z,?_⟩);have hf:H1 s1.heap.objs.size=none:=I1.hok.fresh (Xh _);refine⟨.ref s1.heap.objs.size,upd H1 s1.heap.objs.size (.tup xs),I1.laid (t':=s1.toks) (fun b u e=>Xg _ e) (Xh _) ?_,rfl,q _ hf⟩;exact⟨z,us,r,⟨_,Xp _ rfl,rfl,_,rfl⟩⟩
theorem K9(h:PA X es t):PE X (.List es pos) (y8d t):=by
 intro pins s J H Q I hq;refine wpAny_List_spliced (thn (h pos pins s J H _ I hq) fun us s1 ⟨xs,H1,I1,r,z,q⟩=>⟨by rw[←r.length];exact z,?_⟩);have hf:H1 s1.heap.objs.size=none:=I1.hok.fresh (Xh _);refine⟨.ref s1.heap.objs.size,upd H1 s1.heap.objs.size (.lst xs),I1.laid (t':=s1.toks) (fun b u e=>Xg _ e) (Xh _) ?_,rfl,q _ hf⟩;exact⟨z,us,0,r,Xp _ rfl⟩
end
abbrev Sp:=List V->Hp->VK->XK->Prop
abbrev CXT:=List Env->Hp->Shared->XK->Value->Shared->Prop
structure Env0 (P:Program) (w:World) (K:Frag) (mg:Str->Option Value) (base:Heap) (A:Around) (outer:List Env) (s:Shared) (H:Hp):Prop where
 frames:A.frames=some outer
 mod:Mod K mg base
 bs:∀b o,base.get? b=some o->s.heap.get? b=some o/\H b=none
 bsz:base.objs.size<=s.heap.objs.size
 funs:s.heap.FunFrames base outer
 frf:∀b∈frs outer,H b=none
 hok:HOk P w H s.heap
 bare:AllBare s.gens
def CE(outer:List Env)(P:Program)(w:World)(H:Hp)(s:Shared)(Q:VK)(u:Value)(s':Shared):Prop:=
 ∃v H',s'.os=s.os/\AllBare s'.gens/\Un (frs outer) [] H H' s.heap s'.heap/\HOk P w H' s'.heap/\RelV v u/\Q v H'
def CR(CX:CXT)(outer:List Env)(P:Program)(w:World)(H:Hp)(s:Shared)(Q:VK)(E:XK)(r:Result)(s':Shared):Prop:=
 match r with
 | .ok (.ret u)=>CE outer P w H s Q u s'
 | .ok _=>False
 | .error e=>CX outer H s E e s'
structure FnOk (P:Program) (w:World) (K:Frag) (mg:Str->Option Value) (base:Heap) (CX:CXT) (k:Nat) (f:Addr) (fd:FuncData) (ps:List Str) (sp:Sp):Prop where
 len:∀vs H Q E,sp vs H Q E->vs.length=ps.length
 run:∀(A:Around) (outer:List Env) (s:Shared) (H:Hp) (args:Args) (us:List Value) (vs:List V) (Q:VK) (E:XK),Room k A->Env0 P w K mg base A outer s H->BindsTo s fd args (ps.zip us)->Vals vs us->sp vs H Q E->
  codeAny (model P w) A (.call (.ref f) args) (CR CX outer P w H s Q E) s
theorem FnOk.imp{P:Program}{w:World}{K:Frag}{mg:Str->Option Value}{base:Heap}{CX:CXT}{k:Nat}{f:Addr}{fd:FuncData}{ps:List Str}{sp sp':Sp}(F:FnOk P w K mg base CX k f fd ps sp)
  (h:∀vs H Q E,sp' vs H Q E->sp vs H Q E):FnOk P w K mg base CX k f fd ps sp':=
 ⟨fun vs H Q E q=>F.len vs H Q E (h _ _ _ _ q),fun A outer s H args us vs Q E hr he hb hv hs=>F.run A outer s H args us vs Q E hr he hb hv (h _ _ _ _ hs)⟩
theorem Env0.make{P:Program}{w:World}{K:Frag}{mg:Str->Option Value}{base:Heap}{A:Around}{outer:List Env}{s:Shared}{H:Hp}(e:Env0 P w K mg base A outer s H)(C:Addr)(us:List Value)(kw:List (Str×Value)):
  Env0 P w K mg base (A.under (.builtin "type.__call__" ⟨.ref C::us,kw⟩)) outer s H:=⟨by first|exact e.frames|(simpa[Around.under,Code.envs,Code.isFrame,pushEnvs] using e.frames),e.mod,e.bs,e.bsz,e.funs,e.frf,e.hok,e.bare⟩
section
variable {X:Cx} {pins:QS} {J:St} {H:Hp} {s s':Shared}
theorem Inv.env0(I:Inv X pins J H s):Env0 X.prog X.w X.K X.mg X.base X.A X.stack s H:=
 ⟨I.ok.frames,I.ok.mod,I.bs,XL I.ok.bsz I.sz,I.stack,I.stkFree,I.hok,I.bare⟩
theorem Inv.after{Q:VK}{u:Value}(I:Inv X pins J H s)(h:CE X.stack X.prog X.w H s Q u s'):EP X pins J Q u s':=by
 obtain⟨v,H',os,bare,un,hok,r,q⟩:=h;obtain⟨hh,g,d,t,os'⟩:=s';obtain rfl:os'=s.os:=os;exact⟨v,H',I.call (h':=hh) (g':=g) (d':=d) (t':=t) (ch:=[]) un hok bare (fun b z=>absurd z (by simp)),r,q⟩
end
def KM(sp:Sp)(dvs:List V)(E:XK)(t:TA):TE:=fun J H Q=>t J H fun vs H1=>sp (vs++dvs) H1 Q E
def LK(C:Addr)(m:Str)(sp:Sp)(dvs:List V)(E:XK)(ta:TE)(t:TA):TE:=fun J H Q=>ta J H fun x H1=>∃a dx fs,x=.ref a/\H1 a=some (.ins C dx fs)/\fs.lookup m=none/\
 t J H1 fun vs H2=>sp (x::(vs++dvs)) H2 Q E
def Hu(C:Addr)(sp:Sp)(dvs:List V)(E:XK)(t:TA):TE:=fun J H Q=>t J H fun vs H1=>∀x dx,H1 x=none->H1 dx=none->dx≠x->
 sp (.ref x::(vs++dvs)) (upd (upd H1 dx (.own x)) x (.ins C dx [])) (fun v H2=>v=.non/\Q (.ref x) H2) E
def Binds(K:Frag)(fd:FuncData)(ps:List Str)(ds:List Value):Prop:=
 ∀(s:Shared) (us:List Value),K.In s.heap->(us++ds).length=ps.length->BindsTo s fd ⟨us,[]⟩ (ps.zip (us++ds))
def Binds.all{K:Frag}{fd:FuncData}{ps:List Str}(h:∀us:List Value,us.length=ps.length->bindArgs fd ⟨us,[]⟩=pure (ps.zip us)):Binds K fd ps []:=fun s us _ hl=>by
 rw[X0] at hl⊢;exact .of_eq (h us hl)
def wZ(CX:CXT)(X:Cx)(E:XK):Prop:=∀(pins:QS) (J:St) (H:Hp) (s:Shared) (e:Value) (s':Shared),Inv X pins J H s->CX X.stack H s E e s'->X.xe e s'
section
variable {X:Cx} {CX:CXT} {k:Nat} {f C:Addr} {fd:FuncData} {ps:List Str} {sp:Sp} {dvs:List V} {ds:List Value} {E:XK} {x m:Str} {p pos apos:Pos} {e o:Expr} {es:List Expr} {ta:TE} {t:TA}
theorem J6{pins:QS}{J:St}{H:Hp}{s:Shared}{Q:VK}{us:List Value}{vs:List V}(F:FnOk X.prog X.w X.K X.mg X.base CX k f fd ps sp)(hr:Room k X.A)(hb:Binds X.K fd ps ds)(hd:Vals dvs ds)(hx:wZ CX X E)
  (I:Inv X pins J H s) (r:Vals vs us) (h:sp (vs++dvs) H Q E):wpAny (model X.prog X.w) X.A (call (.ref f) us) (EP X pins J Q) X.xe s:=by
 have r2:Vals (vs++dvs) (us++ds):=r.append hd;have hl:(us++ds).length=ps.length:=by rw[←r2.length];exact F.len _ _ _ _ h
 refine wpAny_call (codeAny_mono (F.run X.A X.stack s H ⟨us,[]⟩ (us++ds) (vs++dvs) Q E hr I.env0 (hb s us I.kIn hl) r2 h) fun r s' hq=>?_);cases r with
 |error e=>exact hx pins J H s e s' I hq
 |ok fl=>
  cases fl with
  |ret u=>exact I.after hq
  |next=>exact False.elim hq
  |brk=>exact False.elim hq
  |cont=>exact False.elim hq
theorem zw1(F:FnOk X.prog X.w X.K X.mg X.base CX k f fd ps sp)(hr:Room k X.A)(hg:Gl X x)(hm:X.mg x=some (.ref f))(hk:keepIn X.K (.ref f)=true)(hb:Binds X.K fd ps ds)(hd:Vals dvs ds)(hx:wZ CX X E)
  (ha:PA X (e::es) t) (hdb:(x==("__debug__":Str))=false:=by decide) (he:starEach (e::es) X.env=(false,eval e X.env)::starEach es X.env:=by rfl) (hpl:(backTo pos (starEach es X.env)).any (·.1)=false:=by rfl):
  PE X (.Call (.Name x p) (e::es) [] pos) (KM sp dvs E t):=by
 intro pins s J H Q I h;refine Yz (zw I hg hm ?_ hdb);refine PySem.W.callWith_K (h₀:=X.base) I.ok.mod.kin hk (thn (ha pos pins s J H _ I h) fun us s1 ⟨vs,H1,I1,r,q⟩=>⟨I1.kIn,?_⟩) he hpl;exact J6 F hr hb hd hx I1 r q
theorem V5{pl:Sem Bool}(he:PE X o ta)(c:Cls X.K C)(hm:Meth X.K C m f)(F:FnOk X.prog X.w X.K X.mg X.base CX k f fd ps sp)(hr:Room k X.A)(hb:Binds X.K fd ps ds)(hd:Vals dvs ds)(hx:wZ CX X E)(ha:PA X (e::es) t)
  (hst:starEach (e::es) X.env=(false,eval e X.env)::starEach es X.env:=by rfl) (hpl:(backTo pos (starEach es X.env)).any (·.1)=false:=by rfl)
  (ht:eval (.Call (.Attribute o m apos) (e::es) [] pos) X.env=(do
   let ov ←eval o X.env
   standAt apos.atName
   let (f,first) ←holding [ov] (getMethod ov m pl)
   callWith pos f first (backTo pos (starEach (e::es) X.env)) (backToKw pos (keywordEach [] X.env))):=by rfl):
  PE X (.Call (.Attribute o m apos) (e::es) [] pos) (LK C m sp dvs E ta t):=by
 intro pins s J H Q I h;refine PySem.W.methodCall_KW (pl:=pl) (thn (he pins s J H _ I h) fun u s1 hm=>?_) ht;obtain⟨x,H1,I1,rx,a,dx,fs,ex,ea,l,q⟩:=hm;subst ex;obtain rfl:u=Value.ref a:=rx;refine Lx I1 ea c hm l ?_;refine PySem.W.callWith_K (first:=[.ref a]) (h₀:=X.base) I.ok.mod.kin hm.kp (thn (ha pos pins s1 J H1 _ I1 q) fun us s2 ⟨vs,H2,I2,r,q2⟩=>⟨I2.kIn,?_⟩) hst hpl;exact J6 (us:=.ref a::us) (vs:=.ref a::vs) F hr hb hd hx I2 (.cons rfl r) q2
structure Mk (K:Frag) (C f:Addr):Prop where
 makes:PySem.W.makesIn K C=true
 init:findIn K (.ref C) "__init__"=some (some (.ref f))
 fn:isFn K (.ref f)=true
 kp:keepIn K (.ref C)=true
theorem WY{pins:QS}{J:St}{H:Hp}{s:Shared}{Q:VK}{us:List Value}{vs:List V}(M:Mk X.K C f)(F:FnOk X.prog X.w X.K X.mg X.base CX k f fd ps sp)(hr:Room (k+1) X.A)(hb:Binds X.K fd ps ds)(hd:Vals dvs ds)
  (hx:wZ CX X E) (I:Inv X pins J H s) (r:Vals vs us)
  (h:∀x dx,H x=none->H dx=none->dx≠x->sp (.ref x::(vs++dvs)) (upd (upd H dx (.own x)) x (.ins C dx [])) (fun v H2=>v=.non/\Q (.ref x) H2) E):
  wpAny (model X.prog X.w) X.A (call (.ref C) us) (EP X pins J Q) X.xe s:=by
 have hq:=h (s.heap.objs.size+1) s.heap.objs.size (I.hok.fresh (Nat.le_succ _)) (I.hok.fresh (Xh _)) (Xz (Nat.lt_succ_self _));have I2:=Inv.made (C:=C) I;have r2:Vals (V.ref (s.heap.objs.size+1)::(vs++dvs)) (Value.ref (s.heap.objs.size+1)::(us++ds)):=.cons rfl (r.append hd);have hl:(Value.ref (s.heap.objs.size+1)::us++ds).length=ps.length:=by
  have e:=r2.length;rw[F.len _ _ _ _ hq] at e;exact e.symm
 refine wpAny_call (zrj (f:=f) I.kIn M.makes M.init (beq_iff_eq.mp M.fn) (codeAny_mono (F.run _ X.stack _ _ ⟨Value.ref (s.heap.objs.size+1)::us,[]⟩ (Value.ref (s.heap.objs.size+1)::(us++ds)) _ _ E (hr.make C us [])
  (I2.env0.make C us []) (hb _ (Value.ref (s.heap.objs.size+1)::us) I2.kIn hl) r2 hq) fun r s' hq'=>?_))
 cases r with
 |error e=>exact hx pins J _ _ e s' I2 hq'
 |ok fl=>
  cases fl with
  |ret u=>
   obtain⟨v,H',I3,rv,ev,q3⟩:=I2.after hq';subst ev;exact⟨rv,⟨V.ref (s.heap.objs.size+1),H',I3,rfl,q3⟩⟩
  |next=>exact False.elim hq'
  |brk=>exact False.elim hq'
  |cont=>exact False.elim hq'
theorem Oz(M:Mk X.K C f)(F:FnOk X.prog X.w X.K X.mg X.base CX k f fd ps sp)(hr:Room (k+1) X.A)(hg:Gl X x)(hm:X.mg x=some (.ref C))(hb:Binds X.K fd ps ds)(hd:Vals dvs ds)(hx:wZ CX X E)
  (ha:PA X (e::es) t) (hdb:(x==("__debug__":Str))=false:=by decide) (he:starEach (e::es) X.env=(false,eval e X.env)::starEach es X.env:=by rfl) (hpl:(backTo pos (starEach es X.env)).any (·.1)=false:=by rfl):
  PE X (.Call (.Name x p) (e::es) [] pos) (Hu C sp dvs E t):=by
 intro pins s J H Q I h;refine Yz (zw I hg hm ?_ hdb);refine PySem.W.callWith_K (h₀:=X.base) I.ok.mod.kin M.kp (thn (ha pos pins s J H _ I h) fun us s1 ⟨vs,H1,I1,r,q⟩=>⟨I1.kIn,?_⟩) he hpl;exact WY M F hr hb hd hx I1 r q
end
structure FnScope (N P:List Str) (sc:Scope):Prop where
 kind:sc.kind=.function
 co:sc.isCoroutine=false
 gen:sc.isGenerator=false
 nd:N.Nodup
 pre:N.take P.length=P
 par:∀x∈P,sc.names.lookup x=some .local\/sc.names.lookup x=some .cell
 nofree:∀y∈sc.names,y.2≠.free
theorem Md{kindOf:Str->Option NameKind}{x:Str}:∀{binds:List (Str×Value)} {m:Str->Option Value},(∀v,(x,v)∉binds)->bindL kindOf binds m x=m x
 | [],_,_=>rfl
 |(n,v)::r,m,h=>by
  unfold bindL;rw[Md fun w hw=>h w (XV _ hw)];split
  ·have:x≠n:=by rintro rfl;exact h v List.mem_cons_self
   simp[this]
  ·rfl
theorem KJ{kindOf:Str->Option NameKind}{x:Str}:∀{binds:List (Str×Value)} {m:Str->Option Value},(∀v,(x,v)∉binds)->bindC kindOf binds m x=m x
 | [],_,_=>rfl
 |(n,v)::r,m,h=>by
  unfold bindC;rw[KJ fun w hw=>h w (XV _ hw)];split
  ·rfl
  ·have:x≠n:=by rintro rfl;exact h v List.mem_cons_self
   simp[this]
theorem Kf{kindOf:Str->Option NameKind}{x:Str}{v:Value}:∀{P:List Str} {vs:List Value} {i:Nat} {m:Str->Option Value},P.Nodup->P[i]?=some x->vs[i]?=some v->kindOf x=some .local->
  bindL kindOf (P.zip vs) m x=some v
 | [],_,_,_,_,h,_,_=>by simp at h
 |_::_,[],_,_,_,_,h,_=>by simp at h
 |p::P,w::vs,0,m,nd,h1,h2,hk=>by
  simp at h1 h2;subst h1;subst h2;show bindL kindOf ((p,w)::P.zip vs) m p=_;unfold bindL;rw[Md fun v hv=>(List.nodup_cons.mp nd).1 (List.of_mem_zip hv).1,if_pos hk];simp
 |p::P,w::vs,i+1,m,nd,h1,h2,hk=>by
  show bindL kindOf ((p,w)::P.zip vs) m x=_;unfold bindL;exact Kf (i:=i) (List.nodup_cons.mp nd).2 (by simpa using h1) (by simpa using h2) hk
theorem Jy{kindOf:Str->Option NameKind}{x:Str}{v:Value}:∀{P:List Str} {vs:List Value} {i:Nat} {m:Str->Option Value},P.Nodup->P[i]?=some x->vs[i]?=some v->kindOf x≠some .local->
  bindC kindOf (P.zip vs) m x=some v
 | [],_,_,_,_,h,_,_=>by simp at h
 |_::_,[],_,_,_,_,h,_=>by simp at h
 |p::P,w::vs,0,m,nd,h1,h2,hk=>by
  simp at h1 h2;subst h1;subst h2;show bindC kindOf ((p,w)::P.zip vs) m p=_;unfold bindC;rw[KJ fun v hv=>(List.nodup_cons.mp nd).1 (List.of_mem_zip hv).1,if_neg hk];simp
 |p::P,w::vs,i+1,m,nd,h1,h2,hk=>by
  show bindC kindOf ((p,w)::P.zip vs) m x=_;unfold bindC;exact Jy (i:=i) (List.nodup_cons.mp nd).2 (by simpa using h1) (by simpa using h2) hk
def vA(N:List Str)(vs:List V):St:=vs.map some++List.replicate (N.length - vs.length) none
def rq(CX:CXT)(P:Program)(w:World)(K:Frag)(mg:Str->Option Value)(base:Heap)(N:List Str)(qual:Str)(scope:Scope)(f:Addr)(cd:Value)(A:Around)(outer:List Env)(s:Shared)(H:Hp)(E:XK):Cx where
 prog:=P
 w:=w
 K:=K
 mg:=mg
 base:=base
 A:=A.deeper (envOfC qual scope s.heap.objs.size f cd)
 N:=N
 Z3:=s
 Z1:=H
 env:=envOfC qual scope s.heap.objs.size f cd
 outer:=outer
 stack:=envOfC qual scope s.heap.objs.size f cd::outer
 ex:=[]
 calm:=true
 fn:=fun _=>true
 pn:=[]
 xe:=fun e s'=>wpAny (model P w) (A.deeper (envOfC qual scope s.heap.objs.size f cd)) (leaving (envOfC qual scope s.heap.objs.size f cd) e) (fun _ s''=>CX outer H s E e s'') (fun e' s''=>CX outer H s E e' s'') s'
def Jo{sc:Scope}{n:Nat}{x:Str}(h:sc.names.lookup x=some .cell):∃c,(cellsFrom n sc.names []).lookup x=some c:=by
 have q:=PySem.W.cellsFrom_some sc.names n [] (.inl h);exact X8.mp q
theorem Ul{CX:CXT}{P:Program}{w:World}{K:Frag}{mg:Str->Option Value}{base:Heap}{N ps:List Str}{qual:Str}{scope:Scope}{f:Addr}{cd:Value}{A:Around}{outer:List Env}{s s1:Shared}{H:Hp}{E:XK}{us:List Value}{vs:List V}
  (S:FnScope N ps scope) (hd:A.handled=none) (e0:Env0 P w K mg base A outer s H) (hl:vs.length=ps.length) (r:Vals vs us)
  (x:InCallC s s.heap.objs.size (bindL (envOfC qual scope s.heap.objs.size f cd).kindOf (ps.zip us) fun _=>none) (cellsFrom (s.heap.objs.size+1) scope.names []) (bindC (envOfC qual scope s.heap.objs.size f cd).kindOf (ps.zip us) fun _=>none) s1):
  Inv (rq CX P w K mg base N qual scope f cd A outer s H E) [] (vA N vs) H s1:=by
 have hpl:ps.length<=N.length:=by have:=congrArg List.length S.pre;rw[List.length_take] at this;omega
 obtain⟨h1,tk,rfl,hk⟩:=x.done;have noA:∀b:Addr,b∉(rq CX P w K mg base N qual scope f cd A outer s H E).ex:=fun b z=>absurd (show b∈([]:List Addr) from z) (by simp);refine⟨⟨e0.mod,S.kind,rfl,rfl,Xh _,fun y z c h1 h2=>?_,fun y hy=>?_,fun y c _ h=>?_,fun _=>hd,Around.frames_deeper e0.frames,.inr ⟨rfl,rfl⟩,fun b z=>absurd z (noA b),e0.bs,e0.bsz,fun b _ _=>noA b,fun b z=>absurd z (noA b),e0.funs,e0.frf⟩,
  rfl,e0.bare,Un.kept hk,⟨_,x.toInCall.ns,fun i y v h1 h2 h3=>?_⟩,fun y c h=>⟨_,x.cell y c h⟩,e0.hok.fresh (Xh _),fun y c h=>?_,fun p hp=>absurd (show p∈([]:QS) from hp) (by simp),e0.hok.kept hk,?_⟩
 ·exact name_of_addr x.apart (XU h1) (XU h2)
 ·have hy:scope.names.lookup y=some .cell\/scope.names.lookup y=some .free:=hy;rcases hy with hy|hy
  ·exact Jo hy
  ·exact absurd rfl (S.nofree _ (XU hy))
 ·exact Nat.le_of_lt (x.above y c (XU h))
 ·have hi:i<vs.length:=by
   unfold vA at h2;by_cases hi:i<vs.length
   ·exact hi
   ·rw[XR (by simpa using hi)] at h2;rw[List.getElem?_replicate] at h2;split at h2<;>cases h2
  have ha:vs[i]?=some v:=by
   unfold vA at h2;rw[Xv (by simpa using hi),XA] at h2;cases e:vs[i]? with
   |none=>rw[e] at h2;cases h2
   |some a=>rw[e] at h2;cases h2;rfl
  obtain⟨u,hu,rv⟩:=r.get ha;have hp:ps[i]?=some y:=by
   rw[←S.pre,List.getElem?_take_of_lt (by omega)];exact h1
  have ndP:ps.Nodup:=by rw[←S.pre];exact S.nd.sublist (List.take_sublist _ _)
  refine⟨u,rv,?_⟩;rcases S.par y (Yv hp) with k|k
  ·exact .inl ⟨k,Kf ndP hp hu k⟩
  ·obtain⟨c,e⟩:=Jo (n:=s.heap.objs.size+1) k;refine .inr ⟨.inl k,c,e,?_⟩;have q:=x.cell y c e;rw[Jy ndP hp hu (by show scope.names.lookup y≠_;rw[k];decide)] at q;exact q
 ·exact e0.hok.fresh (Nat.le_of_lt (x.above y c (XU h)))
 ·unfold vA;show _=N.length;rw[XH,Xn,List.length_replicate];omega
theorem HA{CX:CXT}{P:Program}{w:World}{K:Frag}{mg:Str->Option Value}{base:Heap}{k:Nat}{f:Addr}{name qual:Str}{params:Arguments}{body:List Stmt}{scope:Scope}{dV kV doc pm cdv ct oc:Value}{an od:Option Addr}
  {osl:Array (Option Value)} {N ps:List Str} {sp:Sp} (lk:K.lookup f=some ⟨oc,od,.func (fnOf name qual params body scope dV kV doc pm an cdv ct),osl⟩) (hcd:codeIn K cdv qual=true) (S:FnScope N ps scope)
  (len:∀vs H Q E,sp vs H Q E->vs.length=ps.length)
  (hbody:∀(A:Around) (outer:List Env) (s:Shared) (H:Hp) (vs:List V) (Q:VK) (E:XK),Room k (A.deeper (envOfC qual scope s.heap.objs.size f cdv))->sp vs H Q E->
   ∃t,PSs (rq CX P w K mg base N qual scope f cdv A outer s H E) body t/\t {nx:=fun _ H'=>Q .non H',rt:=Q} (vA N vs) H):
  FnOk P w K mg base CX (k+1) f (fnOf name qual params body scope dV kV doc pm an cdv ct) ps sp:=by
 refine⟨len,fun A outer s H args us vs Q E hr e0 hb r hsp=>?_⟩;have hl:=len _ _ _ _ hsp;have KX:K.In s.heap:=e0.mod.kin.keeps fun b o e=>(e0.bs b o e).1;have lim:s.heap.NoLimit:=e0.mod.nolimit.keeps fun b o e=>(e0.bs b o e).1;have hkind:∀y∈ps.zip us,scope.names.lookup y.1=some .local\/(scope.names.lookup y.1=some .cell/\((cellsFrom (s.heap.objs.size+1) scope.names []).lookup y.1).isSome=true):=fun⟨n,v⟩ hy=>by
  rcases S.par n (List.of_mem_zip hy).1 with q|q
  ·exact .inl q
  ·exact .inr ⟨q,PySem.W.cellsFrom_some _ _ _ (.inl q)⟩
 refine codeAny_call_function hr.depth (KX _ _ lk) rfl S.co S.gen rfl (PySem.W.codeRec_of KX hcd) (hb _ _ _ _ ?_);refine wpAny_newFunctionEnv_cells S.kind hkind fun env he s1 x=>?_;subst he;refine⟨lim.keeps x.toInCall.keep,codeAny_func ?_⟩;obtain⟨t,ht,hq⟩:=hbody A outer s H vs Q E (hr.deeper _) hsp;have I:Inv (rq CX P w K mg base N qual scope f cdv A outer s H E) [] (vA N vs) H s1:=Ul S hr.hd e0 hl r x;refine(Xl (ht [] s1 (vA N vs) H _ I hq) (fun fl s' hs=>?_) fun e s' hs=>hs);have fin:∀{Z0:St} {H':Hp} {v:V} {u:Value},Inv (rq CX P w K mg base N qual scope f cdv A outer s H E) [] Z0 H' s'->RelV v u->Q v H'->CE outer P w H s Q u s':=
  fun{Z0 H' v u} Z7 rv q=>⟨v,H',Z7.os,Z7.bare,Z7.base,Z7.hok,rv,q⟩
 cases fl with
 |ret u=>
  obtain⟨v,Z0,H',Z7,rv,q⟩:=hs;exact fin Z7 rv q
 |next=>
  obtain⟨Z0,H',Z7,q⟩:=hs;exact fin (v:=V.non) (u:=Value.none) Z7 rfl q
 |brk=>
  obtain⟨_,_,_,q⟩:=hs;exact False.elim q
 |cont=>
  obtain⟨_,_,_,q⟩:=hs;exact(False.elim q)
section
variable {X:Cx} {x:Str} {p pos:Pos} {e:Expr} {es:List Expr} {t:TA} {id T:String} {r:List V->Hp->VK->Prop}
def tCB(r:List V->Hp->VK->Prop)(t:TA):TE:=fun J H Q=>t J H fun vs H1=>r vs H1 Q
theorem BZ(hc:uO X (.builtin id) r)(hg:Gl X x)(hm:X.mg x=none)(hv:bootBuiltins x=some (.builtin id))(ha:PA X (e::es) t)(hn:x≠"__name__":=by decide) (hdb:(x==("__debug__":Str))=false:=by decide)
  (he:starEach (e::es) X.env=(false,eval e X.env)::starEach es X.env:=by rfl) (hpl:(backTo pos (starEach es X.env)).any (·.1)=false:=by rfl):PE X (.Call (.Name x p) (e::es) [] pos) (tCB r t):=by
 intro pins s J H Q I h;refine Yz (wq I hg hm hv ?_ hn hdb);exact PyProof.Rows.callWith_builtin1 (thn (ha pos pins s J H _ I h) fun us s1 ⟨vs,H1,I1,r1,q1⟩=>hc pins s1 J H1 vs us Q I1 r1 q1) he hpl
theorem AJ(hc:uO X (.type T) r)(hg:Gl X x)(hm:X.mg x=none)(hv:bootBuiltins x=some (.type T))(ha:PA X (e::es) t)(hn:x≠"__name__":=by decide) (hdb:(x==("__debug__":Str))=false:=by decide)
  (he:starEach (e::es) X.env=(false,eval e X.env)::starEach es X.env:=by rfl) (hpl:(backTo pos (starEach es X.env)).any (·.1)=false:=by rfl):PE X (.Call (.Name x p) (e::es) [] pos) (tCB r t):=by
 intro pins s J H Q I h;refine Yz (wq I hg hm hv ?_ hn hdb);exact Ya (thn (ha pos pins s J H _ I h) fun us s1 ⟨vs,H1,I1,r1,q1⟩=>hc pins s1 J H1 vs us Q I1 r1 q1) he hpl
end
end L2
namespace HT
open PySem PyProof.Rows
section
open PySem.SeqAt
open PySem.AutoSeq1 (wpAny_loadPart')
open PySem.MeetsSeq PySem.MeetsSeq2 PySem.MeetsSeq3
end
section
variable {prog:Program} {w:World} {A:Around} {E:OK} {s:Shared}
theorem cat_tup{t b:Addr}{vs ws:List Value}{Q:OK}(ht:IsTup s.heap t vs.toArray)(hb:IsTup s.heap b ws.toArray)(hv:vs≠[])
  (h1:ws=[]->Q (.ref t) s) (h2:ws≠[]->Q (.ref s.heap.objs.size) {s with heap:=s.heap.push {cls:=.type "tuple",data:=.seq (vs++ws).toArray}})
  (hsz:vs.length+ws.length<=sizeLine):wpAny (model prog w) A (binaryOp .Add (.ref t) (.ref b)) Q E s:=by
 obtain⟨⟨cls,dd,data,sl⟩,ho,hc,n,hd⟩:=id ht;obtain⟨⟨cls2,dd2,data2,sl2⟩,ho2,hc2,n2,hd2⟩:=id hb;simp only at hc hd hc2 hd2;subst hc hd hc2 hd2;have e:vs.toArray++ws.toArray=(vs++ws).toArray:=by simp
 by_cases hw:ws=[]
 ·exact concat_meets ⟨_,ho,rfl⟩ ⟨_,ho2,rfl⟩ noFill_tuple_add seq_tuple_add PySem.F.slot_tuple_add PySem.F.entry_tuple_add (PySem.F.args_tuple_add_2 _ _)
   (tuple_addW1 t b vs.toArray ws.toArray n n2 dd dd2 sl sl2 (by simpa using hv) (by simp[hw])) ⟨ho,ho2,h1 hw⟩
 ·refine concat_meets ⟨_,ho,rfl⟩ ⟨_,ho2,rfl⟩ noFill_tuple_add seq_tuple_add PySem.F.slot_tuple_add PySem.F.entry_tuple_add (PySem.F.args_tuple_add_2 _ _)
   (tuple_addW2 t b vs.toArray ws.toArray n n2 dd dd2 sl sl2 (by simpa using hv) (by simpa using hw) (by rw[Xu,Xu];exact hsz)) ⟨ho,ho2,?_⟩
  rw[e];exact h2 hw
def sIx(n d:Nat):Option Int->Nat
 |none=>d
 |some v=>if v<0 then(v+(n:Int)).toNat else min v.toNat n
theorem sIx_none(n d:Nat):sIx n d none=d:=rfl
theorem sIx_nat(n d k:Nat):sIx n d (some (k:Int))=min k n:=by
 show(if(k:Int)<0 then((k:Int)+(n:Int)).toNat else min (k:Int).toNat n)=min k n;rw[if_neg (by omega),Int.toNat_natCast]
theorem UX(n d:Nat)(hd:d<=n)(o:Option Int):sIx n d o<=n:=by
 cases o with
 |none=>exact hd
 |some v=>
  show(if v<0 then(v+(n:Int)).toNat else min v.toNat n)<=n;by_cases hv:v<0
  ·rw[if_pos hv];omega
  ·rw[if_neg hv];exact Nat.min_le_right _ _
theorem JT(v:Int)(n d:Nat):(if v<0 then max (v+(n:Int)) 0 else min v (n:Int))=((sIx n d (some v):Nat):Int):=by
 show(if v<0 then max (v+(n:Int)) 0 else min v (n:Int))=(((if v<0 then(v+(n:Int)).toNat else min v.toNat n):Nat):Int)
 by_cases hv:v<0
 ·simp only[if_pos hv];omega
 ·simp only[if_neg hv];omega
theorem So(lo hi:Option Int)(n:Nat):Builtin.Slice.sliceAdjust lo hi 1 (n:Int)=(((sIx n 0 lo:Nat):Int),((sIx n n hi:Nat):Int)):=by
 have h1:¬((1:Int)<0):=by omega
 unfold Builtin.Slice.sliceAdjust;simp only[h1,if_false];refine Prod.ext ?_ ?_
 ·cases lo with
  |none=>rfl
  |some v=>exact JT v n 0
 ·cases hi with
  |none=>rfl
  |some v=>exact JT v n n
theorem WN(i j:Nat):Builtin.Slice.slicePlaces (i:Int) (j:Int) 1=j - i:=by
 unfold Builtin.Slice.slicePlaces;have h1:(1:Int)>0:=by omega
 simp only[h1,if_true,Int.ediv_one];split<;>omega
theorem LW{v:Value}{o:Option Int}{Q:Option Int->Shared->Prop}(p:IsPart v o)(h:Q o s):wpAny (model prog w) A (Builtin.Slice.slicePartIndex v) Q E s:=by
 cases p with
 |none=>exact slicePart_none h
 |int i t=>exact slicePart_int h
theorem z9y{sl:Addr}{vl vu:Value}{lo hi:Option Int}{n:Nat}{Q:Int×Int×Nat->Shared->Prop}(hs:s.heap.IsSliceOf sl vl vu .none)(pl:IsPart vl lo)(pu:IsPart vu hi)
  (h:Q (((sIx n 0 lo:Nat):Int),1,sIx n n hi - sIx n 0 lo) s):wpAny (model prog w) A (Builtin.Slice.sliceApplied (.ref sl) (pure (n:Int))) Q E s:=by
 obtain⟨os,hos,hcs,hds⟩:=id hs;unfold Builtin.Slice.sliceApplied Builtin.Slice.sliceFields;refine Xf (Xf (wpAny_field hos hds (x:=vl) rfl (Xf (wpAny_field hos hds (x:=vu) rfl (Xf (wpAny_field hos hds (x:=.none) rfl (Xj ?_)))))));refine Xf (slicePart_none ?_);show wpAny _ _ (if((1:Int)==0)=true then _ else _) _ _ s;rw[if_neg (by decide)];refine Xf (LW pl (Xf (LW pu (Xf (Xj ?_)))));show wpAny _ _ (match Builtin.Slice.sliceAdjust lo hi 1 (n:Int) with|(lo,hi)=>pure (lo,(1:Int),Builtin.Slice.slicePlaces lo hi 1)) _ _ s;rw[So lo hi n];show wpAny _ _ (pure (((sIx n 0 lo:Nat):Int),(1:Int),Builtin.Slice.slicePlaces ((sIx n 0 lo:Nat):Int) ((sIx n n hi:Nat):Int) 1)) _ _ s;rw[WN];exact Xj h
theorem Qn(xs:Array Value)(i k:Nat):((List.range k).filterMap fun(m:Nat)=>xs[((i:Int)+(m:Int)*1).toNat]?).toArray=((xs.toList.drop i).take k).toArray:=by
 have e:(fun(m:Nat)=>xs[((i:Int)+(m:Int)*1).toNat]?)=fun m=>xs[i+m]?:=by
  funext m;have:((i:Int)+(m:Int)*1).toNat=i+m:=by omega
  rw[this]
 rw[e];have:=pick_run xs i k;rw[List.filterMap_map] at this;have e2:((fun x=>xs[x]?)∘fun x=>i+x)=fun m=>xs[i+m]?:=rfl;rw[e2] at this;rw[this]
theorem getItem_tuple_cut{t sl:Addr}{items:Array Value}{vl vu:Value}{lo hi:Option Int}{Q:OK}(ht:IsTup s.heap t items)(hs:s.heap.IsSliceOf sl vl vu .none)(pl:IsPart vl lo)(pu:IsPart vu hi)
  (hw:¬(sIx items.size 0 lo=0/\sIx items.size items.size hi=items.size))
  (h:Q (.ref s.heap.objs.size) {s with heap:=s.heap.push {cls:=.type "tuple",data:=.seq ((items.toList.drop (sIx items.size 0 lo)).take (sIx items.size items.size hi - sIx items.size 0 lo)).toArray}})
  (hsz:items.size<=sizeLine):wpAny (model prog w) A (getItem (.ref t) (.ref sl)) Q E s:=by
 have htake:sizeOk (.seq ((items.toList.drop (sIx items.size 0 lo)).take (sIx items.size items.size hi - sIx items.size 0 lo)).toArray):=by
  show((items.toList.drop (sIx items.size 0 lo)).take (sIx items.size items.size hi - sIx items.size 0 lo)).toArray.size<=sizeLine;rw[Xu,List.length_take,List.length_drop,Yx];omega
 have hj:sIx items.size items.size hi<=items.size:=UX _ _ (Xh _) hi;obtain⟨os,hos,hcs,hds⟩:=id hs;have hTs:s.TypeIs (.ref sl) "slice":=⟨os,hos,hcs⟩
 unfold getItem;try with_reducible refine Yr ?_
 first|refine Xf (Xj ?_)|skip
 refine Xf (wpAny_sequenceKey ht.typeIs (by decide) ?_);refine Xf (wpAny_callSpecial?_slot (name:=Str.ofString "__getitem__") ht.typeIs PyProof.Rows.slot_tuple_getitem
  (wpAny_call_entry PyProof.Rows.slot_tuple_getitem ht.typeIs entry_tuple_getitem ?_ (args_tuple_getitem _ _)))
 show wpAny _ _ (Builtin.Tuple.tupleItemsOf (.ref t) >>= _) _ _ s;refine Xf (tupleItemsOf_ ht ?_);refine Xf (wpAny_typeOf hTs ?_);rw[if_pos (by decide)];refine Xf (z9y hs pl pu ?_);have hno:¬((((sIx items.size 0 lo:Nat):Int)==0&&(1:Int)==1&&(sIx items.size items.size hi - sIx items.size 0 lo)==items.size)=true):=by
  intro q;rw[XE,XE] at q;have q1:((sIx items.size 0 lo:Nat):Int)=0:=eq_of_beq q.1.1;have q2:sIx items.size items.size hi - sIx items.size 0 lo=items.size:=eq_of_beq q.2;exact hw ⟨by omega,by omega⟩
 show wpAny _ _ (if(((sIx items.size 0 lo:Nat):Int)==0&&(1:Int)==1&&(sIx items.size items.size hi - sIx items.size 0 lo)==items.size)=true then _ else _) _ _ s;rw[if_neg hno,Qn];first
  |exact Xf (m:=Builtin.Tuple.tupleExact _) (Yb (Xj ⟨_,rfl,Xj h⟩) htake)
  |exact Xf (m:=Builtin.Tuple.tupleExact _) (Yb (Xf (Xj (Xj ⟨_,rfl,Xj h⟩))) htake)
  |exact Xf (Xf (m:=Builtin.Tuple.tupleExact _) (Yb (Xj (Xj ⟨_,rfl,Xj h⟩)) htake))
  |exact Xf (Xf (m:=Builtin.Tuple.tupleExact _) (Yb (Xj ⟨_,rfl,Xj h⟩) htake))
end
end HT
namespace L2
open PySem PySem.Spec PyProof.Rows
abbrev TO:=St->Hp->(Option Int->Hp->Prop)->Prop
def PO(X:Cx)(e:Option Expr)(t:TO):Prop:=
 ∀(pins:QS) (s:Shared) (J:St) (H:Hp) (Q:Option Int->Hp->Prop),Inv X pins J H s->t J H Q->
  wpAny (model X.prog X.w) X.A (evalPart e X.env) (fun u s'=>∃o H',Inv X pins J H' s'/\IsPart u o/\Q o H') X.xe s
def Ti:TO:=fun _ H Q=>Q none H
def SZ(t:TE):TO:=fun J H Q=>t J H fun x H1=>∃i,x=.int i/\Q (some i) H1
def Od{ns:List Int}:∀{us:List Value},Vals (ns.map V.int) us->IntsAre us ns:=by
 induction ns with
 |nil=>intro us r;rw[List.map_nil] at r;cases r;exact .nil
 |cons n ns ih=>
  intro us r;rw[Xr] at r;cases r with
  |cons r1 r2=>
   obtain⟨t,e⟩:=r1;subst e;exact(.cons n t (ih r2))
section
variable {X:Cx} {e:Expr} {te:TE} {lo hi:Option Expr} {tl th:TO} {pos p2:Pos}
theorem T6:PO X none Ti:=by
 intro pins s J H Q I h;rw[evalPart_none];exact Xj ⟨none,H,I,.none,h⟩
theorem P7(h:PE X e te):PO X (some e) (SZ te):=by
 intro pins s J H Q I hw;rw[evalPart_some];refine thn (h pins s J H _ I hw) fun u s1 hm=>?_;obtain⟨x,H1,I1,r1,q1⟩:=hm;obtain⟨i,rfl,q⟩:=q1;obtain⟨t,rfl⟩:=r1;exact(⟨some i,H1,I1,.int i t,q⟩)
def SlR(X:Cx)(r:V->Option Int->Option Int->Hp->VK->Prop):Prop:=
 ∀(pins:QS) (s:Shared) (J:St) (H:Hp) (x:V) (v vl vu:Value) (lo hi:Option Int) (sl:Addr) (Q:VK),Inv X pins J H s->RelV x v->s.heap.IsSliceOf sl vl vu .none->IsPart vl lo->IsPart vu hi->r x lo hi H Q->
  ∃T id,typeLookup (.type T) "__getitem__"=pure (some (.builtin id))/\s.TypeIs v T/\wpAny (model X.prog X.w) X.A (getItem v (.ref sl)) (EP X pins J Q) X.xe s
theorem SlR.or{r r':V->Option Int->Option Int->Hp->VK->Prop}(h:SlR X r)(h':SlR X r'):SlR X (fun x lo hi H Q=>r x lo hi H Q\/r' x lo hi H Q):=by
 intro pins s J H x v vl vu lo hi sl Q I rx hs pl pu q;rcases q with q|q
 ·exact h pins s J H x v vl vu lo hi sl Q I rx hs pl pu q
 ·exact h' pins s J H x v vl vu lo hi sl Q I rx hs pl pu q
def tSl(r:V->Option Int->Option Int->Hp->VK->Prop)(te:TE)(tl th:TO):TE:=fun J H Q=>te J H fun x H1=>tl J H1 fun l H2=>th J H2 fun u H3=>r x l u H3 Q
theorem TD{r:V->Option Int->Option Int->Hp->VK->Prop}(hr:SlR X r)(he:PE X e te)(hl:PO X lo tl)(hu:PO X hi th):PE X (.Subscript e (.Slice lo hi none p2) pos) (tSl r te tl th):=by
 intro pins s J H Q I h;refine Subscript_ (thn (he pins s J H _ I h) fun v s1 hm=>?_);obtain⟨x,H1,I1,r1,q1⟩:=hm;refine(wpAny_Slice (thn (hl pins s1 J H1 _ I1 q1) fun vl s2 ⟨l,H2,I2,pl,q2⟩=>thn (hu pins s2 J H2 _ I2 q2) fun vu s3 hm=>?_));obtain⟨u,H3,I3,pu,q3⟩:=hm;rw[evalPart_none];refine Xj ?_;have I4:Inv X pins J H3 {s3 with heap:=s3.heap.push {cls:=.type "slice",data:=.fields #[vl,vu,.none]}}:=I3.kept (t':=s3.toks) fun b ob q=>Xg _ q;obtain⟨T,id,hT,ht,hg⟩:=hr pins {s3 with heap:=s3.heap.push {cls:=.type "slice",data:=.fields #[vl,vu,.none]}} J H3 x v vl vu l u s3.heap.objs.size Q I4 r1 (Heap.IsSliceOf.new ..) pl pu q3;show wpAny (model X.prog X.w) X.A (subscriptTail e (.Slice lo hi none p2) v (.ref s3.heap.objs.size)) (EP X pins J Q) X.xe {s3 with heap:=s3.heap.push {cls:=.type "slice",data:=.fields #[vl,vu,.none]}};exact tail_any (ops:=[.ref s3.heap.objs.size,v]) ht hT hg (by with_unfolding_all rfl)
def uY(xs:List V)(lo hi:Option Int):List V:=(xs.drop (HT.sIx xs.length 0 lo)).take (HT.sIx xs.length xs.length hi - HT.sIx xs.length 0 lo)
theorem IP(xs:List V)(lo hi:Option Int):(uY xs lo hi).length<=xs.length:=by
 unfold uY;rw[List.length_take,List.length_drop];omega
def y8j(K:Frag):V->Option Int->Option Int->Hp->VK->Prop:=fun x lo hi H Q=>∃a xs,x=.ref a/\SqT K H a xs/\
 ¬(HT.sIx xs.length 0 lo=0/\HT.sIx xs.length xs.length hi=xs.length)/\∀p,H p=none->Q (.ref p) (upd H p (.tup (uY xs lo hi)))
theorem sl_tup:SlR X (y8j X.K):=by
 intro pins s J H x v vl vu lo hi sl Q I rx hs pl pu h;obtain⟨a,xs,rfl,hx,hw,q⟩:=h;cases rx;obtain⟨its,r,ht,hz⟩:=I.tuple hx;have hlen:its.toArray.size=xs.length:=by rw[Xu];exact r.length.symm
 refine(⟨"tuple",_,PyProof.Rows.slot_tuple_getitem.lookup,ht.typeIs,?_⟩);refine HT.getItem_tuple_cut ht hs pl pu (by rw[hlen];exact hw) ?_ (by rw[hlen];exact hz);rw[hlen];refine⟨.ref s.heap.objs.size,_,I.laid (t':=s.toks) (o:=.tup (uY xs lo hi)) (fun b ob q=>Xg _ q) (Xh _) ?_,rfl,q _ (I.hok.fresh (Xh _))⟩;exact⟨XL (IP xs lo hi) hz,_,(r.drop (HT.sIx xs.length 0 lo)).take (HT.sIx xs.length xs.length hi - HT.sIx xs.length 0 lo),IsTup.new _ _⟩
def JV(K:Frag):R2:=fun x y H Q=>∃a b xs ys,x=.ref a/\y=.ref b/\SqT K H a xs/\SqT K H b ys/\xs≠[]/\xs.length+ys.length<=sizeLine/\
 (ys=[]->Q (.ref a) H)/\(ys≠[]->∀p,H p=none->Q (.ref p) (upd H p (.tup (xs++ys))))
theorem Vals.nil_iff{xs:List V}{us:List Value}(r:Vals xs us):us=[]↔xs=[]:=by
 cases r with
 |nil=>simp
 |cons _ _=>simp
theorem UA:OpR X (binaryOp .Add) (JV X.K):=by
 intro pins s J H x y v u Q I rx ry h;obtain⟨a,b,xs,ys,rfl,rfl,ha,hb,hx,hz,q1,q2⟩:=h;cases rx;cases ry;obtain⟨its,r1,p1,_⟩:=I.tuple ha;obtain⟨its2,r2,p2,_⟩:=I.tuple hb;refine HT.cat_tup p1 p2 (fun z=>hx (r1.nil_iff.mp z)) (fun z=>⟨.ref a,H,I,rfl,q1 (r2.nil_iff.mp z)⟩) (fun z=>?_) (by rw[←r1.length,←r2.length];exact hz);refine⟨.ref s.heap.objs.size,_,I.laid (t':=s.toks) (o:=.tup (xs++ys)) (fun b ob q=>Xg _ q) (Xh _) ?_,rfl,q2 (fun w=>z (r2.nil_iff.mpr w)) _ (I.hok.fresh (Xh _))⟩;exact⟨by rw[XH];exact hz,_,r1.append r2,IsTup.new _ _⟩
end
def ixN(n:Nat)(i:Int):Option Nat:=if 0<=i then(if i<n then some i.toNat else none) else if -(n:Int)<=i then some (i+n).toNat else none
def atI{α:Type}(xs:List α)(i:Int):Option α:=(ixN xs.length i).bind fun j=>xs[j]?
def Hl{n:Nat}{i:Int}{j:Nat}(h:ixN n i=some j):seqIndex? i n=some j/\j<n/\-(n:Int)<=i/\i<n:=by
 unfold ixN at h;by_cases h0:0<=i
 ·rw[if_pos h0] at h;by_cases h1:i<n
  ·rw[if_pos h1] at h;have e:i.toNat=j:=XD h;exact⟨by rw[seqIndex_of h0 h1,e],by omega,by omega,h1⟩
  ·rw[if_neg h1] at h;cases h
 ·rw[if_neg h0] at h;by_cases h1:-(n:Int)<=i
  ·rw[if_pos h1] at h;have e:(i+n).toNat=j:=XD h;exact⟨by rw[seqIndex_neg (by omega) h1,e],by omega,h1,by omega⟩
  ·rw[if_neg h1] at h;cases h
def DW{α:Type}{xs:List α}{i:Int}{v:α}(h:atI xs i=some v):∃j,seqIndex? i xs.length=some j/\xs[j]?=some v/\j<xs.length/\-(xs.length:Int)<=i/\i<xs.length:=by
 unfold atI at h;cases e:ixN xs.length i with
 |none=>rw[e] at h;cases h
 |some j=>
  rw[e] at h;obtain⟨h1,h2,h3,h4⟩:=Hl e;exact(⟨j,h1,h,h2,h3,h4⟩)
def VI{α:Type}{xs:List α}{j:Nat}{v:α}(h:xs[j]?=some v):atI xs (j:Int)=some v:=by
 have hj:j<xs.length:=(Xi.mp h).1;have e:ixN xs.length (j:Int)=some j:=by
  unfold ixN;rw[if_pos (by omega),if_pos (by omega)];simp
 unfold atI;rw[e];exact h
def Mp(b:Expr):Prop:=∀o i,subscripted b false o i=operate [o,i] (getItem o i)
def IxR(X:Cx)(r:R2):Prop:=
 ∀(value slice:Expr) (pins:QS) (s:Shared) (J:St) (H:Hp) (x y:V) (v u:Value) (Q:VK),Inv X pins J H s->RelV x v->RelV y u->r x y H Q->
  subscripted slice false v u=operate [v,u] (getItem v u)->wpAny (model X.prog X.w) X.A (subscriptTail value slice v u) (EP X pins J Q) X.xe s
def MtR(X:Cx)(id:String)(r:V->List V->Hp->VK->Prop):Prop:=
 ∀(pins:QS) (s:Shared) (J:St) (H:Hp) (x:V) (xs:List V) (v:Value) (us:List Value) (Q:VK),Inv X pins J H s->RelV x v->Vals xs us->r x xs H Q->
  wpAny (model X.prog X.w) X.A (call (.builtin id) (v::us)) (EP X pins J Q) X.xe s
section
variable {X:Cx} {a b:Expr} {ta tb:TE} {pos:Pos}
theorem IxR.or{r r':R2}(h:IxR X r)(h':IxR X r'):IxR X (fun x y H Q=>r x y H Q\/r' x y H Q):=by
 intro value slice pins s J H x y v u Q I rx ry q hs;rcases q with q|q
 ·exact h value slice pins s J H x y v u Q I rx ry q hs
 ·exact h' value slice pins s J H x y v u Q I rx ry q hs
theorem Qh{r:R2}(hr:IxR X r)(ha:PE X a ta)(hb:PE X b tb)(hs:Mp b):PE X (.Subscript a b pos) (tOp r ta tb):=by
 intro pins s J H Q I h;exact Subscript_ (FP ha hb I h fun v u s2 x y H2 I2 rx ry q=>hr a b pins s2 J H2 x y v u Q I2 rx ry q (hs _ _))
def MO(K:Frag):R2:=fun x y H Q=>∃p xs i v,x=.ref p/\y=.int i/\SqL K H p xs/\atI xs i=some v/\Q v H
def KP(K:Frag):R2:=fun x y H Q=>∃p xs i v,x=.ref p/\y=.int i/\SqT K H p xs/\atI xs i=some v/\Q v H
def MM:R2:=fun x y H Q=>∃z i c,x=.str z/\y=.int i/\z.length<=sizeLine/\atI z.cps.toList i=some c/\Q (.str ⟨#[c]⟩) H
theorem ix_list:IxR X (MO X.K):=by
 intro value slice pins s J H x y v u Q I rx ry h hs;obtain⟨p,xs,i,z,rfl,rfl,hq,he,q⟩:=h;cases rx;obtain⟨t,rfl⟩:=ry;obtain⟨its,r,pl,hz⟩:=I.list hq;obtain⟨j,h1,h2,h3,h4,h5⟩:=DW he;obtain⟨w,ew,rw'⟩:=r.get h2;have hl:=r.length;have hn:=yM;have fin:EP X pins J Q w s:=⟨z,H,I,rw',q⟩
 by_cases h0:0<=i
 ·have hj:i.toNat=j:=by
   rw[seqIndex_of h0 h5] at h1;exact XD h1
  exact item_listR pl.isList h0 (by omega) (by rw[hj];simpa using ew) fin hs
 ·have hj:(i+(its.toArray.size:Int)).toNat=j:=by
   rw[seqIndex_neg (by omega) h4] at h1;rw[Xu,←hl];exact XD h1
  exact subscriptTail_builtinR (x:=w) pl.isList.typeIs slot_list_getitem.lookup
   (wpAny_getItem_list_neg (Q:=fun r s'=>r=w/\EP X pins J Q r s') pl.isList (by omega) (by rw[Xu]<;>omega) (by omega) (by rw[hj];simpa using ew) ⟨rfl,fin⟩) hs
theorem ix_tup:IxR X (KP X.K):=by
 intro value slice pins s J H x y v u Q I rx ry h hs;obtain⟨p,xs,i,z,rfl,rfl,hq,he,q⟩:=h;cases rx;obtain⟨t,rfl⟩:=ry;obtain⟨its,r,pl,hz⟩:=I.tuple hq;obtain⟨j,h1,h2,h3,h4,h5⟩:=DW he;obtain⟨w,ew,rw'⟩:=r.get h2;have hl:=r.length;have hn:=yM;have fin:EP X pins J Q w s:=⟨z,H,I,rw',q⟩
 exact subscriptTail_builtinR (x:=w) pl.typeIs slot_tuple_getitem.lookup
  (getItem_tuple (j:=j) (Q:=fun r s'=>r=w/\EP X pins J Q r s') pl (by omega) (by omega) (by rw[Xu,←hl];exact h1) (by simpa using ew) ⟨rfl,fin⟩) hs
theorem We:IxR X MM:=by
 intro value slice pins s J H x y v u Q I rx ry h hs;obtain⟨z,i,c,rfl,rfl,hz,he,q⟩:=h;obtain⟨t,rfl⟩:=rx;obtain⟨t',rfl⟩:=ry;obtain⟨j,h1,h2,h3,h4,h5⟩:=DW he;have hl:z.cps.toList.length=z.length:=by simp[Str.length]
 rw[hl] at h1 h4 h5;have hn:=yM;exact tail_any (typeIs_str s z t) slot_str_getitem.lookup (getItem_str (c:=c) (by
  have e1:decide (i< -(2^63:Int))=false:=Xq (by omega);have e2:decide (i>=2^63)=false:=Xq (by omega);rw[e1,e2,Bool.or_false]) (by rw[h1];simpa using h2) ⟨.str ⟨#[c]⟩,H,I.tok _,⟨_,rfl⟩,q⟩) hs
def rIx(K:Frag):R2:=fun x y H Q=>MO K x y H Q\/KP K x y H Q\/MM x y H Q
theorem Ph:IxR X (rIx X.K):=ix_list.or (ix_tup.or We)
theorem zkp(its:List Value)(n j:Nat)(u:Value):Obj.mapSeq (·.setIfInBounds j u) {cls:=.type "list",data:=.seq its.toArray n}={cls:=.type "list",data:=.seq (its.set j u).toArray n}:=by
 simp[Obj.mapSeq]
theorem Inv.lst{pins:QS}{J:St}{H:Hp}{s:Shared}{p:Addr}{xs:List V}(I:Inv X pins J H s)(h:H p=some (.lst xs)):
  ∃(its:List Value) (n:Nat),Vals xs its/\s.heap.get? p=some {cls:=.type "list",data:=.seq its.toArray n}/\xs.length<=sizeLine:=by
 obtain⟨z,its,n,r,e⟩:=I.hok p _ h;exact(⟨its,n,r,e,z⟩)
theorem Inv.lstUpd{pins:QS}{J:St}{H:Hp}{s:Shared}{p:Addr}{xs ys:List V}{its its':List Value}{n n':Nat}{f:Obj->Obj}(I:Inv X pins J H s)(h:H p=some (.lst xs))
  (ho:s.heap.get? p=some {cls:=.type "list",data:=.seq its.toArray n}) (hf:f {cls:=.type "list",data:=.seq its.toArray n}={cls:=.type "list",data:=.seq its'.toArray n'}) (r:Vals ys its') (hz:ys.length<=sizeLine) (t:Nat):
  Inv X pins J (upd H p (.lst ys)) {s with heap:=s.heap.update p f,toks:=t}:=by
 have e:(s.heap.update p f).get? p=some {cls:=.type "list",data:=.seq its'.toArray n'}:=by
  rw[Heap.get?_update_self f ho (by rw[hf]<;>rfl),hf]
 refine I.write (x:=p) (e:=p) (by rw[h];trivial) (.inl rfl) (fun b u hb q=>(Ym _ _ (Ne.symm hb)).trans q) ⟨_,e⟩ ?_;exact⟨hz,its',n',r,e⟩
def UD:V->V->V->Hp->(Hp->Prop)->Prop:=fun o i v H Q=>∃p xs k j,o=.ref p/\i=.int k/\H p=some (.lst xs)/\ixN xs.length k=some j/\Q (upd H p (.lst (xs.set j v)))
theorem zq6:HX X UD:=by
 intro pins s J H o i v ov iv u Q I ro ri rv h;obtain⟨p,xs,k,j,rfl,rfl,hp,hj,q⟩:=h;cases ro;obtain⟨t,rfl⟩:=ri;obtain⟨its,n,r,ho,hz⟩:=I.lst hp;obtain⟨h1,h2,h3,h4⟩:=Hl hj;have hl:=r.length;have hn:=yM;have I':Inv X pins J (upd H p (.lst (xs.set j v))) {s with heap:=s.heap.update p (Obj.mapSeq (·.setIfInBounds j u))}:=
  I.lstUpd hp ho (zkp its n j u) (r.set rv j) (by rw[YD];exact hz) s.toks
 by_cases h0:0<=k
 ·have hk:k.toNat=j:=by
   rw[seqIndex_of h0 h4] at h1;exact XD h1
  exact PySem.W.ki_setAt ho h0 (by omega) (by rw[Xu,←hl];exact h4) (by rw[hk];exact⟨_,I',q⟩)
 ·have hk:(k+(its.toArray.size:Int)).toNat=j:=by
   rw[seqIndex_neg (by omega) h3] at h1;rw[Xu,←hl];exact XD h1
  exact PySem.W.ki_setBack ho (by omega) (by rw[Xu,←hl];exact h3) (by omega) (by rw[hk];exact⟨_,I',q⟩)
theorem RJ(lo hi:Option Int)(n:Nat):(sliceBounds lo hi none n).1=((HT.sIx n 0 lo:Nat):Int)/\(sliceBounds lo hi none n).2.1=((HT.sIx n n hi:Nat):Int)/\(sliceBounds lo hi none n).2.2=1:=by
 refine⟨?_,?_,rfl⟩
 ·cases lo with
  |none=>simp[sliceBounds,HT.sIx]
  |some i=>
   simp only[sliceBounds,HT.sIx,Option.getD_none,show(1:Int)>0 by decide,if_true];by_cases h:i<0
   ·simp only[h,if_true]<;>omega
   ·simp only[h,if_false]<;>omega
 ·cases hi with
  |none=>simp[sliceBounds,HT.sIx]
  |some i=>
   simp only[sliceBounds,HT.sIx,Option.getD_none,show(1:Int)>0 by decide,if_true];by_cases h:i<0
   ·simp only[h,if_true]<;>omega
   ·simp only[h,if_false]<;>omega
theorem R9(its:List Value)(lo hi:Option Int):slicePick its.toArray lo hi none=((its.drop (HT.sIx its.length 0 lo)).take (HT.sIx its.length its.length hi - HT.sIx its.length 0 lo)).toArray:=by
 obtain⟨h1,h2,h3⟩:=RJ lo hi its.toArray.size;unfold slicePick;rw[h1,h2,h3];simp only[sliceRange_one,pick_run,Xu]<;>rfl
def y8k(K:Frag):V->Option Int->Option Int->Hp->VK->Prop:=fun x lo hi H Q=>∃a xs,x=.ref a/\SqL K H a xs/\∀p,H p=none->Q (.ref p) (upd H p (.lst (uY xs lo hi)))
theorem sl_list:SlR X (y8k X.K):=by
 intro pins s J H x v vl vu lo hi sl Q I rx hs pl pu h;obtain⟨a,xs,rfl,hx,q⟩:=h;cases rx;obtain⟨its,r,ht,hz⟩:=I.list hx;have hlen:=r.length;refine(⟨"list",_,slot_list_getitem.lookup,ht.isList.typeIs,?_⟩);refine wpAny_getItem_list_slice ht.isList hs pl pu .none (by simp) ?_ (by rw[Xu]<;>omega);rw[R9,←hlen];refine⟨.ref s.heap.objs.size,_,I.laid (t':=s.toks) (o:=.lst (uY xs lo hi)) (fun b ob q=>Xg _ q) (Xh _) ?_,rfl,q _ (I.hok.fresh (Xh _))⟩;exact⟨XL (IP xs lo hi) hz,_,0,(r.drop (HT.sIx xs.length 0 lo)).take (HT.sIx xs.length xs.length hi - HT.sIx xs.length 0 lo),Xp _ rfl⟩
def vd:V->Bool
 | .non=>true
 | .bl _=>true
 | .int _=>true
 | .str _=>true
 |_=>false
def eqV:V->V->Bool
 | .non,.non=>true
 | .bl a,.bl b=>a==b
 | .bl a,.int b=>(if a then 1 else 0)==b
 | .int a,.bl b=>a==(if b then 1 else 0)
 | .int a,.int b=>a==b
 | .str a,.str b=>a==b
 |_,_=>false
theorem y2z{A:Around}{s:Shared}{y x:V}{u v:Value}(ry:RelV y u)(rx:RelV x v)(fy:vd y=true)(fx:vd x=true):SeqAt.EqAt A s u v (eqV y x):=by
 cases y with
 |non=>
  cases ry;cases x with
  |non=>cases rx;exact SeqAt.EqAt.same _
  |bl b=>cases rx;exact SeqAt.EqAt.none_bool b
  |int b=>obtain⟨t,rfl⟩:=rx;exact SeqAt.EqAt.none_int b t
  |str b=>obtain⟨t,rfl⟩:=rx;exact SeqAt.EqAt.none_str b t
  |_=>exact absurd (show false=true from fx) XW
 |bl a=>
  cases ry;cases x with
  |non=>cases rx;exact SeqAt.EqAt.bool_none a
  |bl b=>cases rx;exact SeqAt.EqAt.bool_bool a b
  |int b=>obtain⟨t,rfl⟩:=rx;exact SeqAt.EqAt.bool_int a b t
  |str b=>obtain⟨t,rfl⟩:=rx;exact SeqAt.EqAt.bool_str a b t
  |_=>exact absurd (show false=true from fx) XW
 |int a=>
  obtain⟨t',rfl⟩:=ry;cases x with
  |non=>cases rx;exact SeqAt.EqAt.int_none a t'
  |bl b=>cases rx;exact SeqAt.EqAt.int_bool a t' b
  |int b=>obtain⟨t,rfl⟩:=rx;exact SeqAt.EqAt.int_int a t' b t
  |str b=>obtain⟨t,rfl⟩:=rx;exact SeqAt.EqAt.int_str a t' b t
  |_=>exact absurd (show false=true from fx) XW
 |str a=>
  obtain⟨t',rfl⟩:=ry;cases x with
  |non=>cases rx;exact SeqAt.EqAt.str_none a t'
  |bl b=>cases rx;exact SeqAt.EqAt.str_bool a t' b
  |int b=>obtain⟨t,rfl⟩:=rx;exact SeqAt.EqAt.str_int a t' b t
  |str b=>obtain⟨t,rfl⟩:=rx;exact SeqAt.EqAt.str_str a t' b t
  |_=>exact absurd (show false=true from fx) XW
 |_=>exact absurd (show false=true from fy) XW
def eqU(x:V)(u:Value):Bool:=match u with
 | .none=>eqV .non x
 | .bool b=>eqV (.bl b) x
 | .int i _=>eqV (.int i) x
 | .str z _=>eqV (.str z) x
 |_=>false
theorem Js{x y:V}{u:Value}(r:RelV y u)(f:vd y=true):eqU x u=eqV y x:=by
 cases y with
 |non=>cases r;rfl
 |bl b=>cases r;rfl
 |int i=>obtain⟨t,rfl⟩:=r;rfl
 |str z=>obtain⟨t,rfl⟩:=r;rfl
 |_=>exact absurd (show false=true from f) XW
theorem Fh{x:V}:∀{xs:List V} {us:List Value},Vals xs us->xs.all vd=true->us.any (eqU x)=xs.any fun y=>eqV y x
 |_,_,.nil,_=>rfl
 |y::xs,u::us,.cons r t,f=>by
  rw[List.all_cons,XE] at f;rw[Yt,Yt,Js r f.1,Fh t f.2]
theorem Eo{A:Around}{s:Shared}{x:V}{v:Value}(rx:RelV x v)(fx:vd x=true):∀{xs:List V} {us:List Value},Vals xs us->xs.all vd=true->∀u∈us,SeqAt.EqAt A s u v (eqU x u)
 |_,_,.nil,_=>fun u hu=>by cases hu
 |y::xs,u::us,.cons r t,f=>fun u' hu=>by
  rw[List.all_cons,XE] at f;rcases XI.mp hu with rfl|hu
  ·rw[Js r f.1];exact y2z r rx f.1 fx
  ·exact Eo rx fx t f.2 u' hu
def inV(x:V)(xs:List V):Bool:=xs.any fun y=>eqV y x
def rIn(K:Frag)(neg:Bool):R2:=fun x y H Q=>∃p xs,y=.ref p/\(SqL K H p xs\/SqT K H p xs)/\vd x=true/\xs.all vd=true/\Q (.bl (if neg then !inV x xs else inV x xs)) H
theorem SA:OpR X (compareOp .In) (rIn X.K false):=by
 intro pins s J H x y v u Q I rx ry h;obtain⟨p,xs,rfl,hq,fx,fs,q⟩:=h;cases ry;rcases hq with hq|hq
 ·obtain⟨its,r,pl,hz⟩:=I.list hq;refine SeqAt.in_listAt (eqU x) pl.isList (fun w hw=>Eo rx fx r fs w (by simpa using hw)) ⟨.bl _,H,I,rfl,?_⟩;rw[show its.toArray.any (eqU x)=its.any (eqU x) by simp,Fh r fs];exact q
 ·obtain⟨its,r,pl,hz⟩:=I.tuple hq;refine SeqAt.in_tupleAt (eqU x) pl (fun w hw=>Eo rx fx r fs w (by simpa using hw)) ⟨.bl _,H,I,rfl,?_⟩;rw[show its.toArray.any (eqU x)=its.any (eqU x) by simp,Fh r fs];exact q
theorem R6:uO X (.builtin "len") (fun xs H Q=>∃p ys,xs=[.ref p]/\(SqL X.K H p ys\/SqT X.K H p ys)/\Q (.int ys.length) H):=by
 intro pins s J H xs us Q I r h;obtain⟨p,ys,rfl,hq,q⟩:=h;obtain⟨u,rfl,rx⟩:=wc r;cases rx;have hn:=yM;rcases hq with hq|hq
 ·obtain⟨its,r',pl,hz⟩:=I.list hq;have hlen:=r'.length;exact Calls.call_len_list pl.isList (by simp only[Xu]<;>omega) ⟨.int ys.length,H,I.tok _,⟨s.toks+1,by rw[Xu,hlen]⟩,q⟩
 ·obtain⟨its,r',pl,hz⟩:=I.tuple hq;have hlen:=r'.length;exact len_tuple pl (by simp only[Xu]<;>omega) ⟨.int ys.length,H,I.tok _,⟨s.toks+1,by rw[Xu,hlen]⟩,q⟩
theorem Qt:uO X (.type "tuple") (fun xs H Q=>∃p ys,xs=[.ref p]/\((SqL X.K H p ys/\∀l,H l=none->Q (.ref l) (upd H l (.tup ys)))\/(SqT X.K H p ys/\Q (.ref p) H))):=by
 intro pins s J H xs us Q I r h;obtain⟨p,ys,rfl,h⟩:=h;obtain⟨u,rfl,rx⟩:=wc r;cases rx;rcases h with⟨hq,q⟩|⟨hq,q⟩
 ·obtain⟨its,r',pl,hz⟩:=I.list hq;have hlen:=r'.length;refine call_tuple_list pl.isList (fun h' kp=>?_) (by simp only[Xu]<;>omega);have I1:Inv X pins J H {s with heap:=h'}:=I.kept (t':=s.toks) kp;have I2:Inv X pins J (upd H h'.objs.size (.tup ys)) {s with heap:=h'.push {cls:=.type "tuple",data:=.seq its.toArray}}:=
   I1.laid (t':=s.toks) (fun b o e=>Xg _ e) (Xh _) (show ObjOk X.prog X.w _ _ _ (.tup ys) from⟨hz,its,r',IsTup.new _ _⟩)
  exact⟨.ref h'.objs.size,_,I2,rfl,q _ (I1.hok.fresh (Xh _))⟩
 ·obtain⟨its,r',pl,hz⟩:=I.tuple hq;exact call_tuple_same pl ⟨.ref p,H,I,rfl,q⟩
def tyV(K:Frag)(T:String)(x:V)(H:Hp):Prop:=match x with
 | .str _=>T="str"
 | .int _=>T="int"
 | .ref p=>(T="list"/\ ∃xs,SqL K H p xs)\/(T="tuple"/\ ∃o,K.lookup p=some o/\o.cls=.type "tuple"/\o.dict=none)\/
   (T="dict"/\((∃kvs,H p=some (.dK kvs))\/∃kvs,H p=some (.dT kvs)))\/(T="set"/\ ∃S n,H p=some (.set S n))
 |_=>False
theorem M4{pins:QS}{J:St}{H:Hp}{s:Shared}{T:String}{x:V}{v:Value}(I:Inv X pins J H s)(r:RelV x v)(ty:tyV X.K T x H):
  s.TypeIs v T/\∀a,v=.ref a->∃ob,s.heap.get? a=some ob/\ob.dict=none:=by
 cases x with
 |str z=>
  obtain⟨t,rfl⟩:=r;cases (show T="str" from ty);exact⟨typeIs_str s z t,fun _ e=>nomatch e⟩
 |int i=>
  obtain⟨t,rfl⟩:=r;cases (show T="int" from ty);exact⟨typeIs_int s i t,fun _ e=>nomatch e⟩
 |ref p=>
  cases r;rcases ty with⟨rfl,xs,hq⟩|⟨rfl,o,hk,hc,hd⟩|⟨rfl,hk⟩|⟨rfl,S,n,hk⟩
  ·obtain⟨its,_,pl,_⟩:=I.list hq;refine⟨pl.isList.typeIs,fun a e=>?_⟩;cases e;obtain⟨o,n,e,c,hd,_⟩:=pl;exact(⟨o,e,hd⟩)
  ·refine⟨⟨o,I.kIn p o hk,hc⟩,fun a e=>?_⟩;cases e;exact⟨o,I.kIn _ o hk,hd⟩
  ·have z:∃o,s.heap.get? p=some o/\o.ExactDict:=by
    rcases hk with⟨kvs,hk⟩|⟨kvs,hk⟩
    ·obtain⟨_,_,_,_,o,_,_,e,ex,_⟩:=I.hok p _ hk;exact⟨o,e,ex⟩
    ·obtain⟨_,_,_,_,o,_,_,e,ex,_⟩:=I.hok p _ hk;exact⟨o,e,ex⟩
   obtain⟨o,e,ex⟩:=z;refine(⟨⟨o,e,ex.1⟩,fun a e2=>?_⟩);cases e2;exact⟨o,e,ex.2.1⟩
  ·obtain⟨o,_,_,_,e,ex,_⟩:=I.hok p _ hk;refine⟨⟨o,e,ex.1⟩,fun a e2=>?_⟩;cases e2;exact⟨o,e,ex.2.1⟩
 |_=>exact False.elim ty
def Eg(K:Frag)(T:String)(r:V->List V->Hp->VK->Prop)(to:TE):TE:=fun J H Q=>to J H fun x H1=>tyV K T x H1/\r x [] H1 Q
def tBM(K:Frag)(T:String)(r:V->List V->Hp->VK->Prop)(to:TE)(t:TA):TE:=fun J H Q=>to J H fun x H1=>tyV K T x H1/\t J H1 fun xs H2=>r x xs H2 Q
variable {o e:Expr} {es:List Expr} {to:TE} {t:TA} {name:Str} {apos cpos:Pos} {T id:String} {r:V->List V->Hp->VK->Prop}
theorem Mj(pa:PlainAttrs T)(slot:Slot T name id)(hty:typeOf (.builtin id)=pure (.type "method_descriptor")) (hm:MtR X id r) (ho:PE X o to)
  (hbase:attributeBase o name X.env (eval o X.env)=eval o X.env:=by rfl) (hline:(apos.endLine==cpos.line)=true:=by rfl):PE X (.Call (.Attribute o name apos) [] [] cpos) (Eg X.K T r to):=by
 intro pins s J H Q I h;refine wpAny_Call_method0_late hbase hline (thn (ho pins s J H _ I h) fun v s1 hm=>?_);obtain⟨x,H1,I1,r1,ty,q1⟩:=hm;obtain⟨h1,h2⟩:=M4 I1 r1 ty;exact(⟨T,id,pa,slot,hty,h1,h2,Calls.callWith_builtin rfl (PySem.evalArgs_none (hm pins s1 J H1 x [] v [] Q I1 r1 .nil q1))⟩)
theorem JF(pa:PlainAttrs T)(slot:Slot T name id)(hty:typeOf (.builtin id)=pure (.type "method_descriptor")) (hm:MtR X id r) (ho:PE X o to) (ha:PA X (e::es) t)
  (hbase:attributeBase o name X.env (eval o X.env)=eval o X.env:=by rfl)
  (hfew:((backTo cpos (starEach (e::es) X.env)).all (fun x=>!x.1)&&(backToKw cpos (keywordEach [] X.env)).all (fun x=>x.1.isSome)
   &&decide ((e::es).length+([]:List Keyword).length+(if([]:List Keyword).isEmpty then 0 else 1)<30))=true:=by rfl)
  (hline:(apos.endLine==cpos.line)=true:=by rfl) (hs:starEach (e::es) X.env=(false,eval e X.env)::starEach es X.env:=by rfl) (hplain:(backTo cpos (starEach es X.env)).any (·.1)=false:=by rfl):
  PE X (.Call (.Attribute o name apos) (e::es) [] cpos) (tBM X.K T r to t):=by
 intro pins s J H Q I h;refine wpAny_Call_method_late hbase hfew hline rfl (thn (ho pins s J H _ I h) fun v s1 hm=>?_);obtain⟨x,H1,I1,r1,ty,q1⟩:=hm;obtain⟨h1,h2⟩:=M4 I1 r1 ty;refine(⟨T,id,pa,slot,hty,h1,h2,?_⟩);have hA:=ha cpos pins s1 J H1 _ I1 q1;rw[hs] at hA⊢;refine Calls.callWith_builtin (by show(false||(backTo cpos (starEach es X.env)).any (·.1))=false;rw[hplain]<;>rfl) (Calls.evalArgs_plain ?_);exact thn hA fun us s2 ⟨vs,H2,I2,r2,q2⟩=>hm pins s2 J H2 x vs v us Q I2 r1 r2 q2
end
def MtM(X:Cx)(id:String)(r:V->List V->Hp->VK->Prop):Prop:=
 ∀(pins:QS) (s:Shared) (J:St) (H:Hp) (x:V) (xs:List V) (v:Value) (us:List Value) (Q:VK),Inv X pins J H s->RelV x v->Vals xs us->r x xs H Q->
  wpAny (model X.prog X.w) X.A (call (.builtin id) (v::us)) (EP X pins J Q) X.xe s
def Vals.one{x:V}{us:List Value}(h:Vals [x] us):∃u,us=[u]/\RelV x u:=by
 cases h with|cons r t=>cases t;exact⟨_,rfl,r⟩
def Vals.two{x y:V}{us:List Value}(h:Vals [x,y] us):∃u v,us=[u,v]/\RelV x u/\RelV y v:=by
 cases h with|cons r t=>obtain⟨v,rfl,q⟩:=Vals.one t;exact⟨_,v,rfl,r,q⟩
theorem Vals.zero:∀{us:List Value},Vals [] us->us=[]
 |_,.nil=>rfl
theorem Vals.rep{xs:List V}{us:List Value}(h:Vals xs us):∀k:Nat,Vals (List.replicate k xs).flatten (List.replicate k us).flatten
 |0=>.nil
 |k+1=>by
  rw[Yy,Yy,List.flatten_cons,List.flatten_cons];exact Vals.append h (Vals.rep h k)
theorem KS(its:List Value):∀(k:Nat) (acc:List Value),
  List.foldl (fun x1 x2=>x1++x2) acc.toArray (List.replicate k its.toArray)=(acc++(List.replicate k its).flatten).toArray
 |0,acc=>by simp
 |k+1,acc=>by
  have e:acc.toArray++its.toArray=(acc++its).toArray:=by simp
  have e2:(acc++its)++(List.replicate k its).flatten=acc++(List.replicate (k+1) its).flatten:=by
   rw[Yy,List.flatten_cons,List.append_assoc]
  rw[←e2,←KS its k (acc++its),←e,Yy,List.foldl_cons]
section
variable {X:Cx} {pins:QS} {J:St} {H:Hp} {s:Shared} {l:Addr} {xs ys:List V}
theorem Inv.lset{its its':List Value}{n:Nat}{f:Array Value->Array Value}{t':Nat}(I:Inv X pins J H s)(hH:H l=some (.lst xs))
  (e:s.heap.get? l=some {cls:=.type "list",data:=.seq its.toArray n}) (hf:f its.toArray=its'.toArray) (hv:Vals ys its') (hz:ys.length<=sizeLine):
  Inv X pins J (upd H l (.lst ys)) {s with heap:=s.heap.update l (Obj.mapSeq f),toks:=t'}:=by
 have q:=PySem.IsL.update e f;rw[hf] at q;refine I.write (x:=l) (e:=l) (by rw[hH];exact trivial) (.inl rfl) (fun b' u hb hu=>(Ym s.heap (Obj.mapSeq f) (Ne.symm hb)).trans hu) ⟨_,q⟩ ?_;exact⟨hz,its',_,hv,q⟩
theorem Inv.lnew{its:List Value}{t':Nat}(I:Inv X pins J H s)(hv:Vals ys its)(hz:ys.length<=sizeLine):
  Inv X pins J (upd H s.heap.objs.size (.lst ys)) {s with heap:=s.heap.push {cls:=.type "list",data:=.seq its.toArray},toks:=t'}:=
 I.laid (fun _ _ q=>Xg _ q) (Xh _) ⟨hz,its,0,hv,Xp _ rfl⟩
theorem Inv.fresh(I:Inv X pins J H s):H s.heap.objs.size=none:=I.hok.fresh (Xh _)
theorem Inv.lstM(I:Inv X pins J H s)(hH:H l=some (.lst xs)):xs.length<=sizeLine/\∃(its:List Value) (n:Nat),Vals xs its/\xs.length=its.length/\s.heap.get? l=some {cls:=.type "list",data:=.seq its.toArray n}:=by
 obtain⟨z,its,n,r,e⟩:=I.hok l _ hH;exact(⟨z,its,n,r,r.length,e⟩)
theorem VR{n:Nat}(h:n<=sizeLine):Builtin.List.listTooLong n=false:=by
 unfold Builtin.List.listTooLong;exact Xq (by omega)
end
section
variable {X:Cx}
def G9:V->List V->Hp->VK->Prop:=fun x vs H Q=>∃l xs y,x=.ref l/\vs=[y]/\H l=some (.lst xs)/\xs.length<sizeLine/\Q .non (upd H l (.lst (xs++[y])))
theorem Dc:MtM X "list.append" G9:=by
 intro pins s J H x vs v us Q I rx rv h;obtain⟨l,xs,y,rfl,rfl,hH,hz,q⟩:=h;cases rx;obtain⟨u,rfl,ru⟩:=rv.one;obtain⟨z,its,n,r,hl,e⟩:=I.lstM hH;refine call_meets F.slot_list_append ⟨_,e,rfl⟩ F.entry_list_append (F.args_list_append_2 _ _) (PySem.list_append l its.toArray n u (by rw[Xu];omega)) ⟨e,?_⟩;refine⟨.non,_,I.lset (its':=its++[u]) hH e (by simp) (r.append (.cons ru .nil)) ?_,rfl,q⟩;rw[XH,X9];omega
def HJ:R2:=fun x y H Q=>∃l b xs zs,x=.ref l/\y=.ref b/\H l=some (.lst xs)/\H b=some (.lst zs)/\xs.length+zs.length<=sizeLine/\∀p,H p=none->Q (.ref p) (upd H p (.lst (xs++zs)))
theorem op_cat:OpR X (binaryOp .Add) HJ:=by
 intro pins s J H x y v u Q I rx ry h;obtain⟨l,b,xs,zs,rfl,rfl,hH,hB,hz,q⟩:=h;cases rx;cases ry;obtain⟨z,its,n,r,hl,e⟩:=I.lstM hH;obtain⟨z2,its2,n2,r2,hl2,e2⟩:=I.lstM hB;refine PySem.P.add_list e e2 ?_ (by rw[Xu,Xu];omega);have ea:its.toArray++its2.toArray=(its++its2).toArray:=by simp
 rw[ea];exact⟨.ref _,_,I.lnew (t':=s.toks) (r.append r2) (by rw[XH];omega),rfl,q _ I.fresh⟩
def KB:R2:=fun x y H Q=>∃l k xs,x=.ref l/\y=.int k/\H l=some (.lst xs)/\-(2^63)<=k/\k<2^63/\xs.length*k.toNat<=sizeLine/\
 ∀p,H p=none->Q (.ref p) (upd H p (.lst (List.replicate k.toNat xs).flatten))
theorem VQ{α:Type}(xs:List α)(k:Nat):(List.replicate k xs).flatten.length=k*xs.length:=by
 induction k with
 |zero=>simp
 |succ k ih=>rw[Yy,List.flatten_cons,XH,ih,Nat.succ_mul,Nat.add_comm]
theorem Sb:OpR X (binaryOp .Mult) KB:=by
 intro pins s J H x y v u Q I rx ry h;obtain⟨l,k,xs,rfl,rfl,hH,h1,h2,hz,q⟩:=h;cases rx;obtain⟨t,rfl⟩:=ry;obtain⟨z,its,n,r,hl,e⟩:=I.lstM hH;have hlen:its.toArray.size*k.toNat<=sizeLine:=by rw[Xu,←hl];exact hz
 have hcap:¬its.toArray.size*k.toNat>(2^63 - 1)/8:=by
  have:(sizeLine:Nat)<=(2^63 - 1)/8:=by decide
  omega
 have hfit:¬(!Builtin.List.listFitsIndex k)=true:=by
  rw[fitsIndex_both h1 h2];exact XW
 have hlong:¬Builtin.List.listTooLong (its.toArray.size*k.toNat)=true:=by
  rw[VR hlen];exact XW
 have hnew:List.foldl (fun x1 x2=>x1++x2) #[] (List.replicate (if its.toArray.isEmpty=true then 0 else k.toNat) its.toArray)=(List.replicate k.toNat its).flatten.toArray:=by
  have f0:∀m:Nat,List.foldl (fun x1 x2=>x1++x2) #[] (List.replicate m its.toArray)=(List.replicate m its).flatten.toArray:=fun m=>by
   have:=KS its m [];rw[List.nil_append] at this;exact this
  rw[f0];cases its with
  |nil=>simp
  |cons a r'=>rw[if_neg (by simp)]
 refine wpAny_binaryOp_repeat_ref (T:="list") (U:="int") (by decide) ⟨_,e,rfl⟩ (fun s'=>typeIs_int s' k t) noFill_list_mul F.fills_int_mul F.slot_int_rmul repeat_list F.slot_int_index.lookup
  (call_meets F.slot_int_rmul (typeIs_int s k t) F.entry_int_rmul (F.args_int_rmul_2 _ _) (int___rmul___int_list k t l its.toArray n)
   ⟨e,rfl,⟨_,e,rfl⟩,call_meets F.slot_list_mul ⟨_,e,rfl⟩ F.entry_list_mul (F.args_list_mul_2 _ _) (AutoListH.list___mul___list_int_3 l its.toArray n k t hfit hcap hlong) ⟨e,?_⟩⟩)
 rw[hnew];exact⟨.ref _,_,I.lnew (t':=s.toks) (r.rep k.toNat) (by rw[VQ,Nat.mul_comm];exact hz),rfl,q _ I.fresh⟩
end
section
variable {κ:Type} [DecidableEq κ]
def sE(kvs:List (κ×V))(k:κ):Option V:=(kvs.find? fun kv=>decide (kv.1=k)).map (·.2)
def rV(kvs:List (κ×V))(k:κ)(v:V):List (κ×V):=
 if(kvs.any fun kv=>decide (kv.1=k))=true then kvs.map (fun kv=>if kv.1=k then(kv.1,v) else kv) else kvs++[(k,v)]
theorem wH{p:κ×V}{r:List (κ×V)}{k:κ}(e:p.1=k):sE (p::r) k=some p.2:=by simp[sE,Xt,e]
theorem xn{p:κ×V}{r:List (κ×V)}{k:κ}(e:¬p.1=k):sE (p::r) k=sE r k:=by simp[sE,Xt,e]
theorem GC(k:κ):∀kvs:List (κ×V),(kvs.any fun kv=>decide (kv.1=k))=(sE kvs k).isSome
 | []=>rfl
 |p::r=>by
  rw[Yt];by_cases e:p.1=k
  ·simp only[wH e,Xx e,Bool.true_or,Option.isSome_some]
  ·rw[xn e,Xq e,Bool.false_or];exact GC k r
theorem A3(kvs:List (κ×V))(k:κ)(v:V):(rV kvs k v).length<=kvs.length+1:=by
 unfold rV;split
 ·rw[Xn];omega
 ·rw[XH,XM,List.length_nil];omega
theorem RelO.isSome_eq{o:Option V}{u:Option Value}(r:RelO o u):o.isSome=u.isSome:=by
 cases o with
 |none=>cases u with
  |none=>rfl
  |some _=>exact(show False from r).elim
 |some _=>cases u with
  |none=>exact(show False from r).elim
  |some _=>rfl
theorem KV.val{kvs:List (κ×V)}{vs:List (κ×Value)}(r:KV kvs vs)(k:κ):RelO (sE kvs k) (valueAt vs k):=by
 unfold KV at r;induction r with
 |nil=>exact True.intro
 | @cons p q ps qs h t ih=>
  obtain⟨h1,h2⟩:=h;by_cases e:p.1=k
  ·have e':q.1=k:=h1.symm.trans e;have b:valueAt (q::qs) k=some q.2:=by simp[valueAt,Xt,e']
   rw[wH e,b];exact h2
  ·have e':¬q.1=k:=fun z=>e (h1.trans z);have b:valueAt (q::qs) k=valueAt qs k:=by simp[valueAt,Xt,e']
   rw[xn e,b];exact ih
theorem KV.any{kvs:List (κ×V)}{vs:List (κ×Value)}(r:KV kvs vs)(k:κ):(kvs.any fun kv=>decide (kv.1=k))=vs.any fun kv=>decide (kv.1=k):=by
 unfold KV at r;induction r with
 |nil=>rfl
 |cons h t ih=>rw[Yt,Yt,ih,h.1]
theorem KV.repl{kvs:List (κ×V)}{vs:List (κ×Value)}(r:KV kvs vs)(k:κ){y:V}{u:Value}(ry:RelV y u):
  KV (kvs.map fun kv=>if kv.1=k then(kv.1,y) else kv) (vs.map fun kv=>if kv.1=k then(kv.1,u) else kv):=by
 unfold KV at r⊢;induction r with
 |nil=>exact .nil
 | @cons p q ps qs h t ih=>
  rw[Xr,Xr];refine .cons ?_ ih;obtain⟨h1,h2⟩:=h;by_cases e:p.1=k
  ·rw[if_pos e,if_pos (h1.symm.trans e)];exact⟨h1,ry⟩
  ·rw[if_neg e,if_neg (fun z=>e (h1.trans z))];exact⟨h1,h2⟩
theorem KV.put{kvs:List (κ×V)}{vs:List (κ×Value)}(r:KV kvs vs)(k:κ){y:V}{u:Value}(ry:RelV y u):KV (rV kvs k y) (stored vs k u):=by
 unfold rV stored;rw[r.any k];by_cases e:(vs.any fun kv=>decide (kv.1=k))=true
 ·rw[if_pos e,if_pos e];exact r.repl k ry
 ·rw[if_neg e,if_neg e];exact Paired.snoc r ⟨rfl,ry⟩
theorem KV.length{kvs:List (κ×V)}{vs:List (κ×Value)}(r:KV kvs vs):kvs.length=vs.length:=Paired.length r
end
def zW{P:Program}{w:World}{k:Key}{u:Value}(r:RelV (kV k) u):(tI P w).is k u=true:=by
 cases k with
 |inl i=>obtain⟨t,e⟩:=(show ∃t,u=Value.int i t from r);subst e;exact RU P w i t
 |inr x=>obtain⟨t,e⟩:=(show ∃t,u=Value.str x t from r);subst e;exact Rk P w x t
abbrev KT(H:Hp):List (NK×V)->List (NK×Addr×Value)->Prop:=Paired fun p q=>p.1=q.1/\NKey H q.2.1 p.1/\RelV p.2 q.2.2
def KT.val{H:Hp}{kvs:List (NK×V)}{xs:List (NK×Addr×Value)}(r:KT H kvs xs)(k:NK):RelO (sE kvs k) ((atKey xs k).map (·.2)):=by
 induction r with
 |nil=>exact True.intro
 | @cons p q ps qs h t ih=>
  obtain⟨h1,_,h2⟩:=h;by_cases e:p.1=k
  ·have e':q.1=k:=h1.symm.trans e;have b:atKey (q::qs) k=some q.2:=by simp[atKey,Xt,e']
   rw[wH e,b];exact h2
  ·have e':¬q.1=k:=fun z=>e (h1.trans z);have b:atKey (q::qs) k=atKey qs k:=by simp[atKey,Xt,e']
   rw[xn e,b];exact ih
theorem KT.repl{H:Hp}{kvs:List (NK×V)}{xs:List (NK×Addr×Value)}(r:KT H kvs xs)(k:NK){y:V}{u:Value}(ry:RelV y u):
  KT H (kvs.map fun kv=>if kv.1=k then(kv.1,y) else kv) (xs.map (putAt k u)):=by
 induction r with
 |nil=>exact .nil
 | @cons p q ps qs h t ih=>
  rw[Xr,Xr];refine .cons ?_ ih;obtain⟨h1,h2,h3⟩:=h;unfold putAt;by_cases e:p.1=k
  ·rw[if_pos e,if_pos (h1.symm.trans e)];exact⟨h1,h2,ry⟩
  ·rw[if_neg e,if_neg (fun z=>e (h1.trans z))];exact⟨h1,h2,h3⟩
theorem KT.put{H:Hp}{kvs:List (NK×V)}{xs:List (NK×Addr×Value)}(r:KT H kvs xs)(k:NK){b:Addr}{y:V}{u:Value}(hb:NKey H b k)(ry:RelV y u):
  KT H (rV kvs k y) (storedH xs k b u):=by
 have e:(kvs.any fun kv=>decide (kv.1=k))=(atKey xs k).isSome:=by
  rw[GC,(r.val k).isSome_eq,Option.isSome_map]
 unfold rV storedH;rw[e];by_cases q:(atKey xs k).isSome=true
 ·rw[if_pos q,if_pos q];exact r.repl k ry
 ·rw[if_neg q,if_neg q];exact Paired.snoc r ⟨rfl,hb,ry⟩
def KT.keeps{H H':Hp}{kvs:List (NK×V)}{xs:List (NK×Addr×Value)}(r:KT H kvs xs)(ht:∀b ys,H b=some (.tup ys)->H' b=some (.tup ys)):KT H' kvs xs:=
 Paired.mapP r fun _ _ z=>⟨z.1,z.2.1.up ht,z.2.2⟩
section
variable {P:Program} {w:World} {H:Hp} {h:Heap} {a:Addr}
theorem Gu{u:HO}(ok:HOk P w H h)(e:Rd H a u):ObjOk P w H h a u:=e.ok ok
theorem BN{kvs:List (Key×V)}(ok:HOk P w H h)(e:Rd H a (.dK kvs)):kvs.length<=sizeLine/\(a==sysModules)=false/\∃vs,KV kvs vs/\h.DictOf (tI P w) a vs:=
 show ObjOk P w H h a (.dK kvs) from Gu ok e
theorem xj{kvs:List (Key×V)}(ok:HOk P w H h)(e:H a=some (.dK kvs)):kvs.length<=sizeLine/\(a==sysModules)=false/\∃vs,KV kvs vs/\h.DictOf (tI P w) a vs:=BN ok (.inl e)
theorem Iv:∀{ks:List Int} {us:List Value},Vals (ks.map V.int) us->ItemsAre (intKind P w) ks us
 | [],_,r=>by rw[List.map_nil] at r;cases r;exact .nil
 |k::ks,_,r=>by
  rw[Xr] at r;cases r with
  |cons h t=>
   obtain⟨q,e⟩:=h;subst e;exact .cons (by simp[intKind,Value.isInt]) (Iv t)
theorem Ey{A:Around}(hu:A.units+9<cLine):(xC P w).room A.in1:=by show A.units+1+4<cLine;omega
theorem BR{k:NK}(ok:HOk P w H h)(e:NKey H a k):(xC P w).is h k a:=by
 obtain⟨c,e1,e2⟩:=e;obtain⟨_,its,r,o,h1,h2,n,h3⟩:=(show ObjOk P w H h a (.tup [.ref c,.int k.2]) from ok a _ e1)
 obtain⟨u1,u2,rfl,r1,t,r2⟩:=Vals.two r;obtain rfl:u1=Value.ref c:=r1;subst r2;obtain⟨_,its',r',o',g1,g2,n',g3⟩:=(show ObjOk P w H h c (.tup (k.1.map V.int)) from ok c _ e2)
 exact⟨o,c,t,n,h1,h2,h3,o',its'.toArray,n',g1,g2,g3,by simpa using Iv r'⟩
theorem BK{kvs:List (NK×V)}(ok:HOk P w H h)(e:Rd H a (.dT kvs)):kvs.length<=sizeLine/\(a==sysModules)=false/\
  ∃xs,KT H kvs xs/\h.DictOfH (xC P w) a xs:=by
 obtain⟨z,y,xs,r,o,es,ep,h1,h2,h3,h4,h5⟩:=(show ObjOk P w H h a (.dT kvs) from Gu ok e)
 refine(⟨z,y,xs,r,o,es,ep,h1,h2,h3,h4,fun x hx=>?_,h5⟩);have all:∀{l:List (NK×V)} {m:List (NK×Addr×Value)},KT H l m->∀x∈m,(xC P w).is h x.1 x.2.1:=by
  intro l m q;induction q with
  |nil=>intro x hx;exact nomatch hx
  | @cons p q ps qs hq t ih=>
   intro x hx;rcases XI.mp hx with e|hx
   ·subst e;exact BR ok (by rw[←hq.1];exact hq.2.1)
   ·exact ih x hx
 exact all r x hx
theorem y75{kvs:List (NK×V)}(ok:HOk P w H h)(e:H a=some (.dT kvs)):kvs.length<=sizeLine/\(a==sysModules)=false/\
  ∃xs,KT H kvs xs/\h.DictOfH (xC P w) a xs:=BK ok (.inl e)
end
def DGet(H:Hp)(a:Addr)(y:V)(r:Option V):Prop:=
 (∃kvs k,Rd H a (.dK kvs)/\y=kV k/\r=sE kvs k)\/∃kvs k b,Rd H a (.dT kvs)/\y=.ref b/\NKey H b k/\r=sE kvs k
def D5(H:Hp)(a:Addr)(y v:V)(H':Hp):Prop:=
 (∃kvs k,H a=some (.dK kvs)/\y=kV k/\kvs.length<sizeLine/\H'=upd H a (.dK (rV kvs k v)))\/
 ∃kvs k b,H a=some (.dT kvs)/\y=.ref b/\NKey H b k/\kvs.length<sizeLine/\H'=upd H a (.dT (rV kvs k v))
def DGet.k{H:Hp}{a:Addr}{kvs:List (Key×V)}{k:Key}(e:H a=some (.dK kvs)):DGet H a (kV k) (sE kvs k):=.inl ⟨kvs,k,.inl e,rfl,rfl⟩
section
variable {X:Cx} {pins:QS} {J:St} {H:Hp} {s:Shared} {a:Addr} {y v:V} {u r:Value} {o:Option V} {A:Around} {E:OK}
theorem Inv.big(I:Inv X pins J H s):sysModules<s.heap.objs.size:=by
 have h:mainGlobals<s.heap.objs.size:=(I.mod.glob.keeps I.bk).lt;exact Nat.lt_trans (by decide) h
theorem Rl{Q:OK}(hu:A.units+9<cLine)(I:Inv X pins J H s)(g:DGet H a y (some v))(ry:RelV y u)(h:∀w' s',Inv X pins J H s'->RelV v w'->Q w' s'):
  wpAny (model X.prog X.w) A (getItem (.ref a) u) Q E s:=by
 rcases g with⟨kvs,k,e,ey,l⟩|⟨kvs,k,b,e,ey,eb,l⟩
 ·subst ey;obtain⟨z,hd,vs,rel,dd⟩:=BN I.hok e;obtain⟨w',hw,rw'⟩:=RelO.some_of (v:=v) (o:=valueAt vs k) (by rw[l];exact rel.val k);exact(wpAny_getItem_of (zW ry) dd.mapOf hw (h w' _ (I.tok _) rw'))
 ·subst ey;cases (show u=Value.ref b from ry);obtain⟨z,hd,xs,rel,dd⟩:=BK I.hok e;obtain⟨w',hw,rw'⟩:=RelO.some_of (v:=v) (o:=(atKey xs k).map (·.2)) (by rw[l];exact rel.val k);obtain⟨p,hp,hp2⟩:=Option.map_eq_some_iff.mp hw;refine(wpAny_getItem_heap (Ey hu) (BR I.hok eb) dd hp ?_);rw[hp2];exact h w' _ (I.tok _) rw'
theorem SD{Q:OK}(hu:A.units+9<cLine)(I:Inv X pins J H s)(g:DGet H a y o)(ry:RelV y u)(h:∀s',Inv X pins J H s'->Q (.bool (!o.isSome)) s'):
  wpAny (model X.prog X.w) A (compareOp .NotIn u (.ref a)) Q E s:=by
 rcases g with⟨kvs,k,e,ey,l⟩|⟨kvs,k,b,e,ey,eb,l⟩
 ·subst ey;obtain⟨z,hd,vs,rel,dd⟩:=BN I.hok e;refine(wpAny_notIn_of (zW ry) hd dd.mapOf ?_);rw[←(rel.val k).isSome_eq,←l];exact h _ (I.tok _)
 ·subst ey;cases (show u=Value.ref b from ry);obtain⟨z,hd,xs,rel,dd⟩:=BK I.hok e;refine(wpAny_notIn_heap (Ey hu) (BR I.hok eb) hd dd ?_);have q:=(rel.val k).isSome_eq;rw[Option.isSome_map] at q;rw[←q,←l];exact h _ (I.tok _)
theorem At{h':Heap}{t':Nat}{ob:HO}(I:Inv X pins J H s)(mu:Mut (H a))(hs:Heap.SameBut a s.heap h')(he:∃q,h'.get? a=some q)(new:ObjOk X.prog X.w (upd H a ob) h' a ob):
  Inv X pins J (upd H a ob) {s with heap:=h',toks:=t'}:=
 I.write (x:=a) (e:=a) mu (.inl rfl) (fun b q hb z=>(hs.2 b hb).trans z) he new
theorem Du{P:Program}{w:World}{H':Hp}{h':Heap}{kvs:List (Key×V)}{vs:List (Key×Value)}(z:kvs.length<=sizeLine)(hd:(a==sysModules)=false)(rel:KV kvs vs)(dd:h'.DictOf (tI P w) a vs):
  ObjOk P w H' h' a (.dK kvs):=⟨z,hd,vs,rel,dd⟩
theorem zp3{H':Hp}{Q:Unit->Shared->Prop}(hu:A.units+9<cLine)(I:Inv X pins J H s)(g:D5 H a y v H')(ry:RelV y u)(rv:RelV v r)(h:∀s',Inv X pins J H' s'->Q () s'):
  wpAny (model X.prog X.w) A (setItem (.ref a) u r) Q E s:=by
 rcases g with⟨kvs,k,e,ey,l,eH⟩|⟨kvs,k,b,e,ey,eb,l,eH⟩
 ·subst ey eH;obtain⟨z,hd,vs,rel,dd⟩:=xj I.hok e;have hz:vs.length<=sizeLine:=by rw[←rel.length];exact z
  have hl:(rV kvs k v).length<=sizeLine:=by have:=A3 kvs k v;omega
  refine(wpAny_setItem_pairs (hsz:=hz) (zW ry) dd fun h' dd' hs=>h _ ?_);have he:∃q,h'.get? a=some q:=let ⟨q,_,_,hq,_⟩:=dd';⟨q,hq⟩
  exact At I (by rw[e];exact True.intro) hs he (Du hl hd (rel.put k rv) dd')
 ·subst ey eH;cases (show u=Value.ref b from ry);obtain⟨z,hd,xs,rel,dd⟩:=y75 I.hok e;have hz:xs.length<=sizeLine:=by rw[←Paired.length rel];exact z
  have hl:(rV kvs k v).length<=sizeLine:=by have:=A3 kvs k v;omega
  refine(wpAny_setItem_heap (hsz:=hz) (Ey hu) (BR I.hok eb) dd fun h' dd' hs=>h _ ?_);obtain⟨q,es,ep,hq,h2,h3,h4,_,h5⟩:=dd';refine At I (by rw[e];exact True.intro) hs ⟨q,hq⟩ ⟨hl,hd,_,(rel.put k eb rv).keeps fun c ys ec=>?_,q,es,ep,hq,h2,h3,h4,h5⟩;rw[qW (RF ec e (fun z=>nomatch z))];exact ec
end
def AB(i:Expr):Prop:=∀ov iv,subscripted i false ov iv=operate [ov,iv] (getItem ov iv)
theorem zut{prog:Program}{w:World}{A:Around}{E:OK}{s:Shared}{env:Env}{value slice:Expr}{pos:Pos}{T id:String}{Q:OK}
  (hl:typeLookup (.type T) "__getitem__"=pure (some (.builtin id))) (hs:AB slice)
  (h:wpAny (model prog w) A (eval value env) (fun o ZU=>wpAny (model prog w) A (eval slice env) (fun i ZK=>ZK.TypeIs o T/\wpAny (model prog w) A (getItem o i) Q E ZK) E ZU) E s):
  wpAny (model prog w) A (eval (.Subscript value slice pos) env) Q E s:=by
 refine Subscript_ (Xl h (fun o ZU ZR=>Xl ZR (fun i ZK ZB=>?_) fun _ _ x=>x) fun _ _ x=>x);obtain⟨hT,ZB⟩:=ZB;unfold subscriptTail;refine Xf ?_;rw[getitemInPython_of_ne hT.not_modules];refine Xf (wpAny_specialOf hT hl ?_);have fin:wpAny (model prog w) A (subscripted slice false o i) (fun r ZM=>wpAny (model prog w) A (letTemporaryGo value o r >>= fun _=>pure r) Q E ZM) E ZK:=by
  rw[hs o i];exact wpAny_operating (Xl ZB (fun r ZM ZE=>Xf (wpAny_letTemporaryGo (Xj ZE))) fun _ _ x=>x)
 first
  |exact Xj (Xf fin)
  |exact Xf (Xj (Xf fin))
  |exact Xf fin
def N2{X:Cx}{pins:QS}{J:St}{H:Hp}{s:Shared}{a:Addr}{y:V}{o:Option V}(I:Inv X pins J H s)(g:DGet H a y o):s.TypeIs (.ref a) "dict":=by
 rcases g with⟨kvs,k,e,_,_⟩|⟨kvs,k,b,e,_,_,_⟩
 ·obtain⟨_,_,vs,_,dd⟩:=BN I.hok e;exact dd.typeIs
 ·obtain⟨_,_,xs,_,dd⟩:=BK I.hok e;exact dd.typeIs
def Ww(td ty:TE):TE:=fun J H Q=>td J H fun x H1=>ty J H1 fun y H2=>∃a v,x=.ref a/\DGet H2 a y (some v)/\Q v H2
def U7(ty td:TE):TE:=fun J H Q=>ty J H fun y H1=>td J H1 fun x H2=>∃a o,x=.ref a/\DGet H2 a y o/\Q (.bl (!o.isSome)) H2
def Uy(td ty tv:TE):TS:=fun D J H=>tv J H fun v H1=>td J H1 fun x H2=>ty J H2 fun y H3=>∃a H4,x=.ref a/\D5 H3 a y v H4/\D.nx J H4
section
variable {X:Cx} {o i value:Expr} {pos pos':Pos} {td ty tv:TE}
theorem HL(hu:X.A.units+9<cLine)(ho:PE X o td)(hi:PE X i ty)(hs:AB i):PE X (.Subscript o i pos) (Ww td ty):=by
 intro pins s J H Q I h;refine zut PySem.F.slot_dict_getitem.lookup hs (thn (ho pins s J H _ I h) fun u s1 ⟨x,H1,I1,rx,q1⟩=>thn (hi pins s1 J H1 _ I1 q1) fun iv s2 hm=>?_);obtain⟨y,H2,I2,ry,a,v,ex,g,q2⟩:=hm;subst ex;obtain rfl:u=Value.ref a:=rx;exact⟨N2 I2 g,Rl hu I2 g ry fun w' s3 I3 rw'=>⟨v,H2,I3,rw',q2⟩⟩
theorem RS(hu:X.A.units+9<cLine)(hi:PE X i ty)(ho:PE X o td):PC X .NotIn i o (U7 ty td):=by
 intro pins s J H Q I h;refine thn (hi pins s J H _ I h) fun iv s1 ⟨y,H1,I1,ry,q1⟩=>thn (ho pins s1 J H1 _ I1 q1) fun u s2 hm=>?_;obtain⟨x,H2,I2,rx,a,ov,ex,g,q2⟩:=hm;subst ex;obtain rfl:u=Value.ref a:=rx;exact SD hu I2 g ry fun s3 I3=>⟨.bl (!ov.isSome),H2,I3,rfl,q2⟩
theorem Ts(hu:X.A.units+9<cLine)(ho:PE X o td)(hi:PE X i ty)(hv:PE X value tv)(hs:swapsWith value (some (.Subscript o i pos')) pos.line X.env=pure false):
  PS X (.Assign [.Subscript o i pos'] value pos) (Uy td ty tv):=by
 intro pins s J H D I h;refine wpAny_Assign_Subscript (thn (hv pins s J H _ I h) fun r s1 ⟨v,H1,I1,rv,q1⟩=>thn (ho pins s1 J H1 _ I1 q1) fun u s2 ⟨x,H2,I2,rx,q2⟩=>thn (hi pins s2 J H2 _ I2 q2) fun iv s3 hm=>?_) hs;obtain⟨y,H3,I3,ry,a,H4,ex,g,q3⟩:=hm;subst ex;obtain rfl:u=Value.ref a:=rx;exact zp3 hu I3 g ry rv fun s4 I4=>⟨J,H4,I4,q3⟩
end
def Rv{P:Program}{w:World}{H:Hp}(h:Heap)(hb:sysModules<h.objs.size):ObjOk P w H (h.push {cls:=.type "dict",data:=.dict #[]}) h.objs.size (.dK []):=
 ⟨Ye _,beq_eq_false_iff_ne.mpr (Ne.symm (Xz hb)),[],.nil,Heap.DictOf.new h⟩
def zs9{P:Program}{w:World}{H:Hp}(h:Heap)(hb:sysModules<h.objs.size):ObjOk P w H (h.push {cls:=.type "dict",data:=.dict #[]}) h.objs.size (.dT []):=
 ⟨Ye _,beq_eq_false_iff_ne.mpr (Ne.symm (Xz hb)),[],.nil,_,#[],0,Xp _ rfl,⟨rfl,rfl,rfl⟩,rfl,rfl,List.nodup_nil⟩
def Tg:TE:=fun _ H Q=>∀p,H p=none->Q (.ref p) (upd H p (.dK []))
def zzo:TE:=fun _ H Q=>∀p,H p=none->Q (.ref p) (upd H p (.dT []))
section
variable {X:Cx} {pos:Pos}
theorem VW:PE X (.Dict [] [] pos) Tg:=fun pins s J H Q I h=>
 wpAny_Dict_empty ⟨.ref s.heap.objs.size,_,I.laid (a:=s.heap.objs.size) (o:=.dK []) (t':=s.toks) (fun _ _ q=>Xg _ q) (Xh _) (Rv s.heap I.big),rfl,h _ (I.hok.fresh (Xh _))⟩
theorem zqu:PE X (.Dict [] [] pos) zzo:=fun pins s J H Q I h=>
 wpAny_Dict_empty ⟨.ref s.heap.objs.size,_,I.laid (a:=s.heap.objs.size) (o:=.dT []) (t':=s.toks) (fun _ _ q=>Xg _ q) (Xh _) (zs9 s.heap I.big),rfl,h _ (I.hok.fresh (Xh _))⟩
end
end L2
namespace Att
open PySem PySem.W PySem.Calls PyProof.Rows
def VC{P:Params}{h:Heap}:∀(ns:List Int) (vs:List Value),WellAll P h vs (ns.map WData.int)->IntsAre vs ns:=by
 intro ns;induction ns with
 |nil=>
  intro vs w;rw[List.map_nil] at w;cases w;exact .nil
 |cons n ns ih=>
  intro vs w;rw[Xr] at w;cases w with
  |cons a b=>
   cases a;exact .cons _ _ (ih _ b)
theorem zm4{l:OpenLaw}{n:Nat}(hn:l.most=some n){P:Params}{h:Heap}{args:List WData}{vals:List Value}
  (hpre:l.row.toRowW.claim.pre args=true) (hwl:WellAll P h vals args):
  ∃a vs ns,vals=[Value.ref a]/\args=[WData.list (ns.map WData.int)]/\h.get? a=some {cls:=.type "list",data:=.seq vs.toArray}/\IntsAre vs ns/\ns.length<=n:=by
 have hsh:WShape.hasAll [] args [.list .int]=true:=(pre_splitW hpre).1;have hc:l.pre.holds [] {args:=args}=true:=(pre_splitW hpre).2;obtain⟨d,r,rfl,h1,h2⟩:=hasAllW_cons hsh;obtain rfl:=hasAllW_nil h2;obtain⟨xs,rfl,h3⟩:=hasW_list h1;obtain⟨ns,rfl⟩:=items_int h3;have hlen:ns.length<=n:=by
  unfold OpenLaw.pre at hc;have h4:(WTm.not (.lt (.lit (.int (n:Int))) (.len (.arg 0)))).holds [] {args:=[.list (ns.map .int)]}=true:=by
   have h4:=(holds_andW hc).1;rw[hn] at h4;exact h4
  have h5:=condW_of h4 (w_not (w_lt w_lit (w_len_list (w_arg rfl))));rw[Xn] at h5;refine Nat.le_of_not_lt fun q=>?_;have q':(n:Int)<((ns.length:Nat):Int):=by omega
  first
   |(rw[Xx q'] at h5;exact absurd h5 (by decide))
   |(simp at h5;omega)
 cases hwl with
 |cons w1 w2=>
  cases w2;cases w1 with
  |list ho hall=>exact⟨_,_,ns,rfl,rfl,ho,VC ns _ hall,hlen⟩
def zmy(l:OpenLaw)(args:List WData):l.row.toRowW.claim.post args (.bool true) args=true:=
 postW_of (r:=l.row.toRowW) (X:=(true==true))
  (show WShape.has [] (.bool true) .bool=true by first|rfl|decide|simp[WShape.has,WShape.arms,WShape.armsAll])
  (show(WTm.eq .res (.lit (.bool true))).value [] {args:=args,res:=some (.bool true),after:=args}=some (.bool (true==true)) from w_eq_bool (w_res rfl) w_lit) rfl
theorem attach_call{l:OpenLaw}{n:Nat}{q:Program}{loose:List Str}{XP:(Str->Option Value)->Heap->Prop}{YP:World->Heap->Prop}{d:DefRec}
  (hn:l.most=some n) (hdf:d.params.defaults=[])
  (call:∀(w:World) (Z3 ZU:Shared) (mg mb:Str->Option Value) (fa:Addr) (o:Obj) (pm cd doc:Value) (a:Addr) (vs:List Value) (ns:List Int),
   Ground q loose [] XP w Z3 mg mb ZU.heap->YP w ZU.heap->
   ZU.heap.get? fa=some o->o.data=.func (docDef d.name d.params d.body d.scope pm cd doc)->ZU.heap.CodeRec cd d.name->mg d.name=some (.ref fa)->
   ZU.heap.get? a=some {cls:=.type "list",data:=.seq vs.toArray}->IntsAre vs ns->ns.length<=n->ZU.gens=#[]->
   codeAny (model l.prog w) callerA (.call (.ref fa) ⟨[.ref a],[]⟩) (fun r s'=>r=.ok (.ret (.bool true))/\OldK ZU.heap s'.heap/\s'.os=ZU.os/\AllBare s'.gens) ZU):
  WalkO q loose XP YP l.row.toRowW d [] (fun f vs=>PySem.call f vs):=by
 intro w Z3 ZU mg mb G Y fa o pm cd doc dV kV ho hd hcd hD hmg hg args vals as hpre hlay hrd hwl hlo;obtain rfl:dV=.none:=Dflts.none hD hdf;obtain rfl:kV=.none:=Dflts.noKw hD;obtain⟨a,vs,ns,rfl,rfl,hobj,hints,hlen⟩:=zm4 hn hpre hwl;refine(enter_call (codeAny_mono (call w Z3 ZU mg mb fa o pm cd doc a vs ns G Y ho (fd_plain hd) hcd hmg hobj hints hlen hg) fun r s' hq=>?_));obtain⟨rfl,h2,h3,h4⟩:=hq;exact(⟨.inl ⟨.bool true,.bool true,[],rfl,fun _=>rfl,.bool true,zmy l _,fun _=>⟨List.Pairwise.nil,fun _ hm=>(nomatch hm)⟩⟩,h2,h3,h4⟩)
end Att
namespace L2
open PySem PySem.Spec PyProof.Rows
theorem Lm:∀{vs:List Value} {ns:List Int},IntsAre vs ns->Vals (ns.map V.int) vs
 |_,_,.nil=>.nil
 |_,_,.cons n t h=>.cons ⟨t,rfl⟩ (Lm h)
def z8(H:Hp):Prop:=∀b,H b=none\/∃o xs,H b=some (.frz o (.lst xs))
theorem SL{P:Program}{w:World}{K:Frag}{mg mb:Str->Option Value}{CX:CXT}{k:Nat}{fa a:Addr}{fd:FuncData}{x:Str}{sp:Sp}{ZU:Shared}{vs:List Value}{ns:List Int}
  (KX:K.In ZU.heap) (hns:ZU.heap.Ns mainGlobals mg) (hb:ZU.heap.Ns builtinsNs mb) (hbb:∀x:Str,x≠"__name__"->mb x=bootBuiltins x) (hlim:ZU.heap.NoLimit) (hg:ZU.gens=#[])
  (ha:ZU.heap.get? a=some {cls:=.type "list",data:=.seq vs.toArray}) (hi:IntsAre vs ns) (hl:ns.length<=sizeLine) (hr:Room k callerA)
  (F:∀base:Heap,K.In base->base.Ns mainGlobals mg->FnOk P w K mg base CX k fa fd [x] sp) (hbind:∀(s:Shared) (u:Value),BindsTo s fd ⟨[u],[]⟩ [(x,u)])
  (hsp:∀H:Hp,z8 H->SqL K H a (ns.map V.int)->sp [.ref a] H (fun v _=>v=.bl true) fun _ _ _=>False)
  (hCX:∀H e s',CX [] H ZU (fun _ _ _=>False) e s'->False):
  codeAny (model P w) callerA (.call (.ref fa) ⟨[.ref a],[]⟩) (fun r s'=>r=.ok (.ret (.bool true))/\OldK ZU.heap s'.heap/\s'.os=ZU.os/\AllBare s'.gens) ZU:=by
 have rv:=Lm hi;have lenV:=hi.length;have core:∀H:Hp,z8 H->SqL K H a (ns.map V.int)->HOk P w H ZU.heap->(∀b,H b≠none->b=a)->(H a≠none->K.lookup a=none)->
   codeAny (model P w) callerA (.call (.ref fa) ⟨[.ref a],[]⟩) (fun r s'=>r=.ok (.ret (.bool true))/\OldK ZU.heap s'.heap/\s'.os=ZU.os/\AllBare s'.gens) ZU:=by
  intro H hO hS hok hA hK;have base_of:∀{b:Addr} {o:Obj},ZU.heap.get? b=some o->H b=none->(vQ ZU.heap H).get? b=some o:=fun e n=>WH e n;have noA:∀{b:Addr} {o:Obj} {es:Array DictEntry} {ep:Nat},ZU.heap.get? b=some o->o.data=.dict es ep->H b=none:=fun{b o es ep} e d=>by
   cases q:H b with
   |none=>rfl
   |some u=>
    have e':b=a:=hA b (by rw[q];simp);subst e';rw[ha] at e;cases e;have d':Data.seq vs.toArray _=Data.dict es ep:=d;cases d'
  have nsK:∀{b:Addr} {m:Str->Option Value},ZU.heap.Ns b m->(vQ ZU.heap H).Ns b m:=fun{b m} ⟨o,es,ep,e,d,r⟩=>⟨o,es,ep,base_of e (noA e d),d,r⟩
  have hKb:K.In (vQ ZU.heap H):=fun b o e=>base_of (KX b o e) (by
   cases q:H b with
   |none=>rfl
   |some u=>
    have e':b=a:=hA b (by rw[q];simp);subst e';rw[hK (by rw[q];simp)] at e;cases e)
  have hM:Mod K mg (vQ ZU.heap H):=⟨hKb,nsK hns,⟨mb,nsK hb,hbb⟩,let ⟨mc,h1,h2⟩:=hlim;⟨mc,nsK h1,h2⟩⟩
  have e0:Env0 P w K mg (vQ ZU.heap H) callerA [] ZU H:=⟨rfl,hM,fun b o e=>zw9 e,Nat.le_of_eq (R3 _ _),trivial,fun b hb=>absurd (show b∈([]:List Addr) from hb) (by simp),hok,.of_eq hg⟩
  refine codeAny_mono ((F _ hKb (nsK hns)).run callerA [] ZU H ⟨[.ref a],[]⟩ [.ref a] [.ref a] _ _ hr e0 (hbind ZU (.ref a)) (.cons rfl .nil) (hsp H hO hS)) fun r s' h=>?_;cases r with
  |error e=>exact(hCX H e s' h).elim
  |ok fl=>
   cases fl with
   |next=>exact False.elim h
   |brk=>exact False.elim h
   |cont=>exact False.elim h
   |ret u=>
    obtain⟨v,H',os,bare,un,hok',r',q⟩:=h;have q':v=.bl true:=q;subst q';obtain rfl:u=Value.bool true:=r';refine⟨rfl,OldK.of_keep fun b o e=>?_,os,bare⟩;cases q:H b with
    |none=>exact un.keep b o e q (by intro z;exact absurd (show b∈([]:List Addr) from z) (by simp)) (by simp)
    |some u=>
     rcases hO b with z|⟨ob,xs,z⟩
     ·rw[q] at z;cases z
     ·have z2:=un.frzs b ob _ z;obtain⟨e1,_⟩:=hok b _ z;obtain⟨e2,_⟩:=hok' b _ z2;rw[e] at e1;cases e1;exact e2
 cases hk:K.lookup a with
 |some o=>
  have e:=KX a o hk;rw[ha] at e;cases e;refine core (fun _=>none) (fun _=>.inl rfl) (.inr ⟨_,vs.toArray,_,hk,rfl,rfl,rfl,by rw[Xu,lenV];exact hl,by simpa using rv⟩) (fun b u z=>by have z':(none:Option HO)=some u:=z;cases z') (fun b z=>absurd rfl z) fun z=>absurd rfl z
 |none=>
  refine core (fun b=>if b=a then some (.frz {cls:=.type "list",data:=.seq vs.toArray} (.lst (ns.map V.int))) else none) (fun b=>?_) (.inl (.inr ⟨{cls:=.type "list",data:=.seq vs.toArray},if_pos rfl⟩)) (fun b u z=>?_) (fun b z=>?_) fun _=>hk
  ·by_cases hb:b=a
   ·exact .inr ⟨_,_,if_pos hb⟩
   ·exact .inl (if_neg hb)
  ·by_cases hb:b=a
   ·have z':=(if_pos hb).symm.trans z;cases z';subst hb;exact⟨ha,by rw[Xn];exact hl,vs,_,rv,ha⟩
   ·have z':=(if_neg hb).symm.trans z;cases z'
  ·by_cases hb:b=a
   ·exact hb
   ·exact absurd (if_neg hb) z
theorem walk_of{l:PySem.W.OpenLaw}{n k:Nat}{q:Program}{loose:List Str}{XP:(Str->Option Value)->Heap->Prop}{YP:World->Heap->Prop}{d:DefRec}{K:Params->Frag}{CX:World->CXT}{sp:World->Sp}{x:Str}
  (hn:l.most=some n) (hn2:n<=sizeLine) (hdf:d.params.defaults=[]) (hr:Room k callerA)
  (hY:∀(w:World) (h:Heap),YP w h->(K w.params).In h)
  (F:∀(w:World) (mg:Str->Option Value) (fa:Addr) (h:Heap),(K w.params).In h->h.Ns mainGlobals mg->mg d.name=some (.ref fa)->
   ∃fd:FuncData,(∀(s:Shared) (u:Value),BindsTo s fd ⟨[u],[]⟩ [(x,u)])/\
    ∀base:Heap,(K w.params).In base->base.Ns mainGlobals mg->FnOk l.prog w (K w.params) mg base (CX w) k fa fd [x] (sp w))
  (hsp:∀(w:World) (H:Hp) (a:Addr) (ns:List Int),ns.length<=n->z8 H->SqL (K w.params) H a (ns.map V.int)->sp w [.ref a] H (fun v _=>v=.bl true) fun _ _ _=>False)
  (hCX:∀(w:World) (H:Hp) (s:Shared) (e:Value) (s':Shared),CX w [] H s (fun _ _ _=>False) e s'->False):
  PySem.W.WalkO q loose XP YP l.row.toRowW d [] (fun f vs=>PySem.call f vs):=by
 refine Att.attach_call hn hdf fun w Z3 ZU mg mb fa o pm cd doc a vs ns G Y ho hd hcd hmg hobj hints hlen hg=>?_;have KX:=hY w _ Y;obtain⟨fd,hb,hF⟩:=F w mg fa _ KX G.T.g hmg;exact(SL KX G.T.g G.T.b G.T.builtins G.T.nolimit hg hobj hints (XL hlen hn2) hr hF hb (fun H hO hS=>hsp w H a ns hlen hO hS) fun H e s'=>hCX w H ZU e s')
def sg(s:Stmt)(j:Nat):Stmt:=match s with
 | .ClassDef _ _ _ body _ _ _ _ _ _ _=>body.getD j (.Pass ⟨0,0,0,0⟩)
 |_=>.Pass ⟨0,0,0,0⟩
def rm(s:Stmt):Arguments:=match s with
 | .FunctionDef _ a _ _ _ _ _ _ _ _=>a
 |_=>{posonlyargs:=[],args:=[],vararg:=none,kwonlyargs:=[],kw_defaults:=[],kwarg:=none,defaults:=[]}
def rc(s:Stmt):List Stmt:=match s with
 | .FunctionDef _ _ b _ _ _ _ _ _ _=>b
 |_=>[]
def qF(s:Stmt):Scope:=match s with
 | .FunctionDef _ _ _ _ _ _ sc _ _ _=>sc
 |_=>{kind:=.function,names:=[],isGenerator:=false,isCoroutine:=false}
abbrev CX0:CXT:=fun _ _ _ _ _ _=>False
abbrev E0:XK:=fun _ _ _=>False
def Ev{X:Cx}:wZ CX0 X E0:=fun _ _ _ _ _ _ _ h=>h.elim
structure Fun (K:Frag) (x qual:Str) (st:Stmt) (f:Addr) (fd:FuncData):Prop where
 ex:∃(oc:Value) (od:Option Addr) (kV doc pm:Value) (an:Option Addr) (cdv ct:Value) (osl:Array (Option Value)),
  fd=fnOf x qual (rm st) (rc st) (qF st) .none kV doc pm an cdv ct/\K.lookup f=some ⟨oc,od,.func fd,osl⟩/\codeIn K cdv qual=true
 kp:keepIn K (.ref f)=true
section
variable {P:Program} {w:World} {K:Frag} {mg:Str->Option Value} {base:Heap}
theorem Fun.ok{x qual:Str}{st:Stmt}{f:Addr}{fd:FuncData}{N ps:List Str}{k:Nat}{sp:Sp}(F:Fun K x qual st f fd)(S:FnScope N ps (qF st))(len:∀vs H Q E,sp vs H Q E->vs.length=ps.length)
  (hbody:∀(cdv:Value) (A:Around) (outer:List Env) (s:Shared) (H:Hp) (vs:List V) (Q:VK) (E:XK),Room k (A.deeper (envOfC qual (qF st) s.heap.objs.size f cdv))->sp vs H Q E->
   ∃t,PSs (rq CX0 P w K mg base N qual (qF st) f cdv A outer s H E).nox (rc st) t/\t {nx:=fun _ H'=>Q .non H',rt:=Q} (vA N vs) H):FnOk P w K mg base CX0 (k+1) f fd ps sp:=by
 obtain⟨oc,od,kV,doc,pm,an,cdv,ct,osl,rfl,lk,hcd⟩:=F.ex;refine(HA lk hcd S len fun A outer s H vs Q E hr hsp=>?_);obtain⟨t,h,q⟩:=hbody cdv A outer s H vs Q E hr hsp;exact(⟨t,h.nox,q⟩)
theorem Fun.binds{x qual:Str}{st:Stmt}{f:Addr}{fd:FuncData}{ps:List Str}(F:Fun K x qual st f fd)
  (h:∀(kV doc pm:Value) (an:Option Addr) (cdv ct:Value) (us:List Value),us.length=ps.length->bindArgs (fnOf x qual (rm st) (rc st) (qF st) .none kV doc pm an cdv ct) ⟨us,[]⟩=pure (ps.zip us)):Binds K fd ps []:=by
 obtain⟨oc,od,kV,doc,pm,an,cdv,ct,osl,rfl,lk,hcd⟩:=F.ex;exact(.all (h kV doc pm an cdv ct))
theorem rz{x qual:Str}{st:Stmt}{f:Addr}{oc:Value}{od an:Option Addr}{osl:Array (Option Value)}{kV doc pm cdv ct:Value}(l:K.lookup f=some ⟨oc,od,.func (fnOf x qual (rm st) (rc st) (qF st) .none kV doc pm an cdv ct),osl⟩)
  (c:codeIn K cdv qual=true) (k:keepIn K (.ref f)=true):Fun K x qual st f (fnOf x qual (rm st) (rc st) (qF st) .none kV doc pm an cdv ct):=⟨⟨oc,od,kV,doc,pm,an,cdv,ct,osl,rfl,l,c⟩,k⟩
end
section
variable {X:Cx}
theorem pv(i:Nat){x:Str}{pos:Pos}(hN:X.N[i]?=some x:=by rfl)(hv:Vis X.env.scope x:=by first|exact Or.inl rfl|exact Or.inr (Or.inl rfl)|exact Or.inr (Or.inr rfl))(hd:(x==("__debug__":Str))=false:=by decide)
  (hcd:(x==("__classdict__":Str))=false:=by decide):PE X (.Name x pos) (Kk i):=Jf hN hv hd hcd
end
def FD{A Z8:Prop}(h:Z8):if false=true then A else Z8:=by
 rw[if_neg XW];exact h
def Ct{A Z8:Prop}(h:A):if true=true then A else Z8:=by
 rw[if_pos rfl];exact h
def wx{c A Z8:Prop} [Decidable c](h1:c->A)(h2:¬c->Z8):if c then A else Z8:=by
 by_cases h:c
 ·rw[if_pos h];exact h1 h
 ·rw[if_neg h];exact h2 h
section
variable {κ:Type} [DecidableEq κ]
end
end L2
namespace Tim
open PySem PyProof.Rows
end Tim
namespace L2
open PySem PySem.Spec PyProof.Rows
def qM(X:Cx)(N':List Str)(scope:Scope)(cl:List (Str×Addr))(C:Addr)(Z3:Shared)(Z1:Hp)(ex:List Addr):Cx:=
 {X with N:=N',Z3:=Z3,Z1:=Z1,env:=compEnvC scope cl C X.env,outer:=X.stack,ex:=ex,fn:=fun x=>scope.names.lookup x==some NameKind.cell,pn:=[]}
theorem Fy{env:Env}:∀(names:List (Str×NameKind)) (acc:List (Str×Addr)),(∀y∈names,y.2=.free->∃c,env.cells.lookup y.1=some c)->
  (∀y c,acc.lookup y=some c->env.cells.lookup y=some c)->
  ∃cl,(forIn names acc fun x r=>if(x.2==NameKind.free)=true then do let c ←cellOf env x.1;pure (ForInStep.yield ((x.1,c)::r)) else pure (ForInStep.yield r):Sem (List (Str×Addr)))=pure cl/\
   (∀y c,cl.lookup y=some c->env.cells.lookup y=some c)/\(∀y,(y,NameKind.free)∈names->∃c,cl.lookup y=some c)/\∀y c,acc.lookup y=some c->∃c',cl.lookup y=some c'
 | [],acc,_,ha=>⟨acc,by simp,ha,fun _ h=>by simp at h,fun y c h=>⟨c,h⟩⟩
 |(n,k)::r,acc,h,ha=>by
  by_cases hk:k=.free
  ·subst hk;obtain⟨c,hc⟩:=h (n,.free) List.mem_cons_self rfl;have e:cellOf env n=pure c:=by unfold cellOf;rw[hc]
   obtain⟨cl,e1,h1,h2,h3⟩:=Fy r ((n,c)::acc) (fun y hy=>h y (XV _ hy)) (fun y d hd=>by
    rw[XF] at hd;split at hd
    ·rename_i hb;have:y=n:=by simpa using hb
     subst this;cases hd;exact hc
    ·exact ha y d hd)
   refine⟨cl,?_,h1,fun y hy=>?_,fun y d hd=>?_⟩
   ·rw[List.forIn_cons,e];simpa using e1
   ·rcases XI.mp hy with z|z
    ·cases z;exact h3 n c (by simp[XF])
    ·exact h2 y z
   ·by_cases hy:y=n
    ·subst hy;exact h3 y c (by simp[XF])
    ·have hb:(y==n)=false:=by simpa using hy
     exact h3 y d (by simp only[XF,hb];exact hd)
  ·have hb:(k==NameKind.free)=false:=by simpa using hk
   obtain⟨cl,e1,h1,h2,h3⟩:=Fy r acc (fun y hy=>h y (XV _ hy)) ha;refine(⟨cl,?_,h1,fun y hy=>?_,h3⟩)
   ·rw[List.forIn_cons];simpa[hb] using e1
   ·rcases XI.mp hy with z|z
    ·cases z;exact absurd rfl hk
    ·exact h2 y z
theorem zF{scope:Scope}{env:Env}(h:∀y∈scope.names,y.2=.free->∃c,env.cells.lookup y.1=some c):
  ∃cl,closureFor scope env=pure cl/\(∀y c,cl.lookup y=some c->env.cells.lookup y=some c)/\∀y,(y,NameKind.free)∈scope.names->∃c,cl.lookup y=some c:=by
 obtain⟨cl,e,h1,h2,_⟩:=Fy (env:=env) scope.names [] h (fun _ _ z=>by simp at z);refine(⟨cl,?_,h1,h2⟩);unfold closureFor;show((forIn scope.names [] fun x r=>if(x.2==NameKind.free)=true then do let c ←cellOf env x.1;pure (ForInStep.yield ((x.1,c)::r)) else pure (ForInStep.yield r):Sem (List (Str×Addr))) >>= fun cs=>pure cs)=pure cl;rw[e];rfl
section
variable {prog:Program} {w:World} {A:Around} {R:Result->Shared->Prop} {s:Shared}
theorem Om{elt target iter:Expr}{ifs:List Expr}{scope:Scope}{pos:Pos}{it acc:Value}{env:Env}(I:Nat->Shared->Prop)
  (turn:∀n s,I n s->wpAny (model prog w) A (pyNext it) (fun r ZU=>match r with
   |none=>R (.ok .next) ZU
   |some v=>wpAny (model prog w) A (letOwnedTupleGo target it v) (fun _ ZA=>wpAny (model prog w) A (assign target env v) (fun _ ZK=>
     wpAny (model prog w) A (forIn ifs true fun c r=>if r=true then do let ok ←isTrue c env (eval c env);pure (ForInStep.yield ok) else pure (ForInStep.yield r)) (fun ok ZM=>
      if ok=true then wpAny (model prog w) A (eval elt env) (fun x ZH=>
       wpAny (model prog w) A (call (.builtin "list.append") [acc,x]) (fun _ ZD=>∃m,m<n/\I m ZD) (fun _ _=>False) ZH) (fun _ _=>False) ZM
      else ∃m,m<n/\I m ZM) (fun _ _=>False) ZK) (fun _ _=>False) ZA) (fun _ _=>False) ZU) (fun _ _=>False) s)
  (n:Nat) (h:I n s):codeAny (model prog w) A (.compLoop (.ListComp elt [⟨target,iter,ifs,0⟩] scope pos) 0 it acc env) R s:=by
 refine codeAny_loop rfl I (fun n s hI=>?_) n h;show wpAny _ A ((compTurn (.ListComp elt [⟨target,iter,ifs,0⟩] scope pos) 0 it acc env).onRaise (fun x=>do noteFrame x env;theTreesLotGoes x)) _ _ s;refine wpAny_noted ?_;rw[compTurn_list];refine Xl (E:=fun _ _=>False) ?_ (fun _ _ x=>x) fun _ _ x=>x.elim;refine Xf (Ys (Xf (Xl (turn n s hI) (fun r ZU ZR=>?_) fun _ _ h'=>h')));cases r with
 |none=>exact Xj ZR
 |some v=>
  refine Xf (Xl ZR (fun _ ZA Zu=>?_) fun _ _ h'=>h');refine Xf (Xl Zu (fun _ ZK ZB=>Xf (Xl ZB (fun ok ZM ZE=>?_) fun _ _ h'=>h')) fun _ _ h'=>h');cases ok with
  |false=>exact Xj ⟨rfl,ZE⟩
  |true=>
   exact Xf (Xf (Xl ZE (fun x ZH Zt=>Xf (Xl Zt (fun _ ZD Zs=>Xj (Xj ⟨rfl,Zs⟩)) fun _ _ h'=>h')) fun _ _ h'=>h'))
end
theorem J1{env:Env}{x:Str}:∀{names:List (Str×NameKind)},names.lookup x=some .free->
  (names.map fun(n,k)=>if(k==NameKind.free&&env.scope.kind==.function&&env.kindOf n==some .cell) then(n,NameKind.cell) else(n,k)).lookup x=some .free\/
  (names.map fun(n,k)=>if(k==NameKind.free&&env.scope.kind==.function&&env.kindOf n==some .cell) then(n,NameKind.cell) else(n,k)).lookup x=some .cell
 | [],h=>by simp at h
 |(n,k)::r,h=>by
  have ih:=@J1 env x r;show List.lookup x ((if(k==NameKind.free&&env.scope.kind==.function&&env.kindOf n==some .cell)=true then(n,NameKind.cell) else(n,k))::_)=_\/List.lookup x ((if(k==NameKind.free&&env.scope.kind==.function&&env.kindOf n==some .cell)=true then(n,NameKind.cell) else(n,k))::_)=_;cases hx:x==n with
  |true=>
   simp only[XF,hx] at h;cases h;by_cases hc:(NameKind.free==NameKind.free&&env.scope.kind==.function&&env.kindOf n==some .cell)=true
   ·rw[if_pos hc];exact .inr (by simp[XF,hx])
   ·rw[if_neg hc];exact .inl (by simp[XF,hx])
  |false=>
   simp only[XF,hx] at h;by_cases hc:(k==NameKind.free&&env.scope.kind==.function&&env.kindOf n==some .cell)=true
   ·rw[if_pos hc];simp only[XF,hx];exact ih h
   ·rw[if_neg hc];simp only[XF,hx];exact ih h
theorem JM{env:Env}{x:Str}:∀{names:List (Str×NameKind)},
  ((names.map fun(n,k)=>if(k==NameKind.free&&env.scope.kind==.function&&env.kindOf n==some .cell) then(n,NameKind.cell) else(n,k)).lookup x=some .cell\/
   (names.map fun(n,k)=>if(k==NameKind.free&&env.scope.kind==.function&&env.kindOf n==some .cell) then(n,NameKind.cell) else(n,k)).lookup x=some .free)->names.lookup x=some .free\/names.lookup x=some .cell
 | [],h=>by simp at h
 |(n,k)::r,h=>by
  have ih:=@JM env x r;have h:List.lookup x ((if(k==NameKind.free&&env.scope.kind==.function&&env.kindOf n==some .cell)=true then(n,NameKind.cell) else(n,k))::(r.map fun(n,k)=>if(k==NameKind.free&&env.scope.kind==.function&&env.kindOf n==some .cell) then(n,NameKind.cell) else(n,k)))=some .cell\/
   List.lookup x ((if(k==NameKind.free&&env.scope.kind==.function&&env.kindOf n==some .cell)=true then(n,NameKind.cell) else(n,k))::(r.map fun(n,k)=>if(k==NameKind.free&&env.scope.kind==.function&&env.kindOf n==some .cell) then(n,NameKind.cell) else(n,k)))=some .free:=h
  cases hx:x==n with
  |true=>
   by_cases hc:(k==NameKind.free&&env.scope.kind==.function&&env.kindOf n==some .cell)=true
   ·have:k=.free:=by
     have z:=(Bool.and_eq_true_iff.mp (Bool.and_eq_true_iff.mp hc).1).1;simpa using z
    subst this;exact .inl (by simp[XF,hx])
   ·rw[if_neg hc] at h;simp only[XF,hx] at h⊢;exact h.symm
  |false=>
   have:∀p:NameKind,List.lookup x ((if(k==NameKind.free&&env.scope.kind==.function&&env.kindOf n==some .cell)=true then(n,NameKind.cell) else(n,k))::(r.map fun(n,k)=>if(k==NameKind.free&&env.scope.kind==.function&&env.kindOf n==some .cell) then(n,NameKind.cell) else(n,k)))=some p↔(r.map fun(n,k)=>if(k==NameKind.free&&env.scope.kind==.function&&env.kindOf n==some .cell) then(n,NameKind.cell) else(n,k)).lookup x=some p:=fun p=>by
    by_cases hc:(k==NameKind.free&&env.scope.kind==.function&&env.kindOf n==some .cell)=true
    ·rw[if_pos hc];simp only[XF,hx]
    ·rw[if_neg hc];simp only[XF,hx]
   rw[this .cell,this .free] at h;have:=ih h;simp only[XF,hx];exact this
theorem ve:∀(names:List (Str×NameKind)) (n:Nat) (acc:List (Str×Addr)),cellsFrom n names acc=cellsFrom n names []++acc
 | [],_,_=>rfl
 |(name,kind)::r,n,acc=>by
  unfold cellsFrom;split
  ·rw[ve r (n+1) ((name,n)::acc),ve r (n+1) [(name,n)],List.append_assoc];rfl
  ·exact ve r n acc
theorem Dw{x:Str}{c:Addr}:∀(names:List (Str×NameKind)) (n:Nat) (acc:List (Str×Addr)),(x,c)∈cellsFrom n names acc->(x,NameKind.cell)∈names\/(x,c)∈acc
 | [],_,_,h=>.inr h
 |(name,kind)::r,n,acc,h=>by
  unfold cellsFrom at h;split at h
  ·rename_i hk;have hk':kind=.cell:=by simpa using hk
   rcases Dw r (n+1) _ h with z|z
   ·exact .inl (XV _ z)
   ·rcases XI.mp z with z|z
    ·cases z;rw[hk'];exact .inl List.mem_cons_self
    ·exact .inr z
  ·rcases Dw r n acc h with z|z
   ·exact .inl (XV _ z)
   ·exact .inr z
structure CompScope (X:Cx) (N' own:List Str) (cap:List (Str×Nat)) (scope:Scope):Prop where
 kind:scope.kind=.function
 own1:∀y∈scope.names,y.2=.cell->scope.names.lookup y.1=some .cell
 free1:∀y∈scope.names,y.2=.free->scope.names.lookup y.1=some .free
 names:∀y∈scope.names,y.2=.local->scope.names.lookup y.1=some .local
 free:∀y∈scope.names,y.2=.free->X.env.kindOf y.1=some .cell\/X.env.kindOf y.1=some .free
 eq:N'=own++cap.map (·.1)
 cap:∀p∈cap,X.N[p.2]?=some p.1/\scope.names.lookup p.1=some .free/\(X.env.kindOf p.1=some .cell\/X.env.kindOf p.1=some .free)
def sI(own:List Str)(cap:List (Str×Nat))(J:St):St:=own.map (fun _=>none)++cap.map fun p=>(J[p.2]?).join
section
variable {X:Cx} {pins:QS} {J:St} {H:Hp} {s:Shared} {N' own:List Str} {cap:List (Str×Nat)} {scope:Scope} {cl:List (Str×Addr)} {fp:List Addr}
structure CellsAre (X:Cx) (scope:Scope) (C:Addr) (cl cs:List (Str×Addr)):Prop where
 old:∀y c,cs.lookup y=some c->(cl.lookup y=some c/\scope.names.lookup y≠some .cell)\/(C<c/\scope.names.lookup y=some .cell)
 free:∀y c,cl.lookup y=some c->scope.names.lookup y≠some .cell->cs.lookup y=some c
 has:∀y,scope.names.lookup y=some .cell->∃c,cs.lookup y=some c
 inj:∀x y c,C<c->cs.lookup x=some c->cs.lookup y=some c->x=y
theorem wo{α:Type}{x:Str}:∀{l r:List (Str×α)},(l++r).lookup x=(l.lookup x).or (r.lookup x)
 | [],r=>by simp
 |(k,v)::l,r=>by
  have ih:=@wo α x l r;rw[List.cons_append,XF,XF];cases x==k with
  |true=>rfl
  |false=>exact ih
theorem FH{h:Heap}{C:Addr}(hC:h.objs.size=C+1)(S:CompScope X N' own cap scope)(hcl:∀y c,cl.lookup y=some c->¬C<c):CellsAre X scope C cl (cellsFrom (C+1) scope.names cl):=by
 have ok:=cellsFrom_ok scope.names h (C+1) [] ⟨fun _ _ hm=>(nomatch hm),List.Pairwise.nil⟩ (by rw[hC];exact Xh _);rw[hC] at ok;have own:∀y c,(cellsFrom (C+1) scope.names []).lookup y=some c->C<c/\scope.names.lookup y=some .cell:=fun y c e=>by
  have m:=XU e;refine⟨(ok.empty y c m).2,?_⟩;rcases Dw _ _ _ m with z|z
  ·exact S.own1 _ z rfl
  ·simp at z
 have no:∀y,scope.names.lookup y≠some .cell->(cellsFrom (C+1) scope.names []).lookup y=none:=fun y hy=>by
  cases e:(cellsFrom (C+1) scope.names []).lookup y with
  |none=>rfl
  |some c=>exact absurd (own y c e).2 hy
 have has:∀y,scope.names.lookup y=some .cell->∃c,(cellsFrom (C+1) scope.names []).lookup y=some c:=fun y hy=>X8.mp (PySem.W.cellsFrom_some scope.names (C+1) [] (.inl hy));refine⟨fun y c e=>?_,fun y c e hy=>?_,fun y hy=>?_,fun x y c hc e1 e2=>?_⟩
 ·rw[ve,wo] at e;cases q:(cellsFrom (C+1) scope.names []).lookup y with
  |none=>
   rw[q] at e;refine .inl ⟨e,fun z=>?_⟩;obtain⟨c',e'⟩:=has y z;rw[q] at e';cases e'
  |some c'=>
   rw[q] at e;have:c'=c:=XD e;subst this;exact .inr (own y c' q)
 ·rw[ve,wo,no y hy];exact e
 ·obtain⟨c,e⟩:=has y hy;exact⟨c,by rw[ve,wo,e];rfl⟩
 ·have Ft:∀z,(cellsFrom (C+1) scope.names cl).lookup z=some c->(z,c)∈cellsFrom (C+1) scope.names []:=fun z e=>by
   rw[ve,wo] at e;cases q:(cellsFrom (C+1) scope.names []).lookup z with
   |none=>rw[q] at e;exact absurd hc (hcl z c e)
   |some c'=>
    rw[q] at e;have:c'=c:=XD e;subst this;exact XU q
  exact PySem.name_of_addr ok.apart (Ft x e1) (Ft y e2)
theorem Rm(I:Inv X pins J H s)(S:CompScope X N' own cap scope){cs:List (Str×Addr)}(A:CellsAre X scope s.heap.objs.size cl cs)(c1:∀y c,cl.lookup y=some c->X.env.cells.lookup y=some c)(c2:∀y,(y,NameKind.free)∈scope.names->∃c,cl.lookup y=some c)
  (hf:∀b∈fp,rP X pins H b) (hlt:∀b∈fp,b<s.heap.objs.size):(qM X N' scope cs s.heap.objs.size s H fp).Ok where
 mod:=I.ok.mod
 kind:=S.kind
 glob:=I.ok.glob
 blt:=I.ok.blt
 above:=Xh _
 inj:=fun x y c h1 h2=>by
  rcases A.old x c h1 with⟨a1,_⟩|⟨a1,_⟩
  ·rcases A.old y c h2 with⟨b1,_⟩|⟨b1,_⟩
   ·exact I.ok.inj x y c (c1 x c a1) (c1 y c b1)
   ·obtain⟨v,o,ho,_⟩:=I.cell x c (c1 x c a1);exact absurd (Nat.lt_trans b1 (Xo ho)) (X7 _)
  ·exact A.inj x y c a1 h1 h2
 has:=fun x h=>by
  rcases JM h with z|z
  ·obtain⟨c,e⟩:=c2 x (XU z);exact⟨c,A.free x c e (by rw[z];simp)⟩
  ·exact A.has x z
 cab:=fun x c h e=>by
  have h':scope.names.lookup x=some .cell:=by
   have:(scope.names.lookup x==some NameKind.cell)=true:=h;simpa using this
  rcases A.old x c e with⟨_,z⟩|⟨z,_⟩
  ·exact absurd h' z
  ·exact Nat.le_of_lt z
 hd:=I.ok.hd
 frames:=I.ok.frames
 stk:=.inl rfl
 exf:=fun b hb=>⟨Xz (hlt b hb),fun x c h=>by
  rcases A.old x c h with⟨z,_⟩|⟨z,_⟩
  ·exact(hf b hb).2.2.2.2.1 x c (c1 x c z)
  ·exact fun e=>absurd (Nat.lt_trans (e▸z) (hlt b hb)) (X7 _)⟩
 bs:=I.bs
 bsz:=XL I.ok.bsz I.sz
 noex:=fun b o e hb=>by
  rcases(hf b hb).2.2.2.1 with z|z
  ·exact I.ok.noex b o e z
  ·exact absurd (XC (Xo e) (XL I.ok.bsz z)) (X7 _)
 exfs:=fun b hb z=>by
  rcases XI.mp (I.stkSub b z) with q|q
  ·exact(hf b hb).2.1 q
  ·exact(hf b hb).2.2.1 q
 funs:=I.stack
 frf:=I.stkFree
theorem comp_inv{h':Heap}{t':Nat}{cs:List (Str×Addr)}(I:Inv X pins J H s)(S:CompScope X N' own cap scope)(A:CellsAre X scope s.heap.objs.size cl cs)(hA:∀y c,cs.lookup y=some c->s.heap.objs.size<c->h'.IsCell c none)
  (c1:∀y c,cl.lookup y=some c->X.env.cells.lookup y=some c) (c2:∀y,(y,NameKind.free)∈scope.names->∃c,cl.lookup y=some c)
  (hf:∀b∈fp,rP X pins H b) (hlt:∀b∈fp,b<s.heap.objs.size) (hk:∀b o,s.heap.get? b=some o->h'.get? b=some o) {m:Str->Option Value} (hn:h'.Ns s.heap.objs.size m):
  Inv (qM X N' scope cs s.heap.objs.size s H fp) [] (sI own cap J) H {s with heap:=h',toks:=t'}:=by
 refine⟨Rm I S A c1 c2 hf hlt,rfl,I.bare,Un.kept hk,⟨m,hn,fun i x v h1 h2 h3=>?_⟩,fun x c e=>?_,I.hok.fresh (Xh _),fun x c e=>?_,fun p hp=>absurd hp (by show p∉([]++[]:QS);simp),?_,?_⟩
 ·have hi:own.length<=i:=by
   by_cases hi:own.length<=i
   ·exact hi
   ·unfold sI at h2;rw[Xv (by rw[Xn];omega),XA] at h2;cases e:own[i]? with
    |none=>rw[e] at h2;cases h2
    |some a=>rw[e] at h2;cases h2
  have h1':(own++cap.map (·.1))[i]?=some x:=by rw[←S.eq];exact h1
  rw[XR hi,XA] at h1';unfold sI at h2;rw[XR (by rw[Xn];exact hi),Xn,XA] at h2;cases e:cap[i - own.length]? with
  |none=>rw[e] at h2;cases h2
  |some p=>
   rw[e] at h1' h2;have ex:p.1=x:=XD h1';have ev:(J[p.2]?).join=some v:=XD h2;have ev':J[p.2]?=some (some v):=by
    cases q:J[p.2]? with
    |none=>rw[q] at ev;cases ev
    |some z=>rw[q] at ev;exact congrArg some ev
   obtain⟨k1,k2,k3⟩:=S.cap p (Yv e);subst ex;obtain⟨m0,hn0,hl⟩:=I.loc;obtain⟨u,ru,lk⟩:=hl p.2 p.1 v k1 ev' (by rcases k3 with z|z;exact .inr (.inl z);exact .inr (.inr z));refine(⟨u,ru,?_⟩);rcases lk with⟨z,_⟩|⟨_,c,hc,hcell⟩
   ·rcases k3 with q|q<;>(rw[z] at q;cases q)
   ·refine .inr ⟨?_,c,?_,?_⟩
    ·rcases J1 (env:=X.env) k2 with q|q
     ·exact .inr q
     ·exact .inl q
    ·obtain⟨c',e'⟩:=c2 p.1 (XU k2);have:=c1 _ _ e';rw[hc] at this;cases this;exact A.free _ _ e' (by rw[k2];simp)
    ·obtain⟨o,ho,hd⟩:=hcell;exact⟨o,hk _ _ ho,hd⟩
 ·rcases A.old x c e with⟨z,_⟩|⟨z,_⟩
  ·obtain⟨v,o,ho,hd⟩:=I.cell x c (c1 x c z);exact⟨v,o,hk _ _ ho,hd⟩
  ·exact⟨none,hA x c e z⟩
 ·rcases A.old x c e with⟨z,_⟩|⟨z,_⟩
  ·exact I.freeC x c (c1 x c z)
  ·exact I.hok.fresh (Nat.le_of_lt z)
 ·exact I.hok.kept hk
 ·show(sI own cap J).length=N'.length;rw[S.eq];unfold sI;simp
end
def PIf(X:Cx)(ifs:List Expr)(t:TT):Prop:=
 ∀(pins:QS) (s:Shared) (J:St) (H:Hp) (Q:Bool->Hp->Prop),Inv X pins J H s->t J H Q->
  wpAny (model X.prog X.w) X.A (forIn ifs true fun c r=>if r=true then do let ok ←isTrue c X.env (eval c X.env);pure (ForInStep.yield ok) else pure (ForInStep.yield r)) (TP X pins J Q) X.xe s
def VV:TT:=fun _ H Q=>Q true H
def PP{X:Cx}:PIf X [] VV:=fun _ _ _ H _ I h=>wpAny_tests_nil ⟨H,I,h⟩
def zvr{X:Cx}{c:Expr}{t:TT}(h:PT X c t):PIf X [c] t:=fun pins s J H Q I hw=>wpAny_tests_one (h pins s J H Q I hw)
theorem E1{M:Model}{A:Around}{E:OK}{s:Shared}{scope:Scope}{globals:Addr}{cl:List (Str×Addr)}{qual:Str}{env:Env}{Q:Env->Shared->Prop}
  (hQ:∀h',h'.Ns s.heap.objs.size (fun _=>none)->(∀b o,s.heap.get? b=some o->h'.get? b=some o)->(∀n c,(n,c)∈cellsFrom (s.heap.objs.size+1) scope.names []->h'.IsCell c none)->
   Q (newEnv scope s.heap.objs.size globals (cellsFrom (s.heap.objs.size+1) scope.names cl) qual none .none (some env) builtinsNs) {s with heap:=h'}):
  wpAny M A (newFunctionEnv scope globals cl [] qual none .none (some env)) Q E s:=by
 simp only[newFunctionEnv,Option.isSome_some,if_true];refine Xf (wpAny_alloc ?_);refine Xf (wpAny_layCells _ (fun name kind cells=>by cases hkc:kind==NameKind.cell<;>simp[hkc]) _ _ _ _ ?_);have ok:=cellsFrom_ok scope.names (s.heap.push {cls:=.type "dict",data:=.dict #[]}) (s.heap.objs.size+1) [] ⟨fun _ _ hm=>(nomatch hm),List.Pairwise.nil⟩ (by rw[Yd];exact Xh _);rw[Yd] at ok;rw[show({s with heap:=s.heap.push {cls:=.type "dict",data:=.dict #[]}}:Shared).heap.objs.size=s.heap.objs.size+1 from Yd ..];rw[List.forIn_nil];refine Xf (Xj (Xj ?_));exact hQ _ ((Heap.Ns.new s.heap (.type "dict")).keeps (pushCells_keeps _ _)) (fun b o e=>pushCells_keeps _ _ b o (Xg _ e)) fun n c hm=>(ok.empty n c hm).1
def zK(Z7:It)(g:TG)(tc:TT)(te:TE)(D:Addr)(ZN:St)(H0:Hp)(Z:Hp->Prop):Prop:=
 ∃W:Nat->Nat->St->Hp->Prop,(∃m,W 0 m ZN (upd H0 D (.lst [])))/\∀i m J H,W i m J H->
  (Z7.stop i H/\Z H)\/(Z7.go i H/\∃N:St->Hp->Prop,(∀Z0 H',N Z0 H'->∃m',m'<m/\W (i+1) m' Z0 H')/\∀x H',Z7.yld i H x H'->g x J H' fun ZX H2=>tc ZX H2 fun b H3=>
   if b=true then te ZX H3 fun v H4=>∃ys,H4 D=some (.lst ys)/\ys.length<sizeLine/\N ZX (upd H4 D (.lst (ys++[v]))) else N ZX H3)
section
variable {X:Cx} {pins:QS} {J:St} {N' own:List Str} {cap:List (Str×Nat)} {scope:Scope} {tg iter elt:Expr} {ifs:List Expr} {pos:Pos} {g:TG} {tc:TT} {te:TE}
theorem UL{Y:Cx}{s:Shared}{ZN:St}{H2:Hp}{it D:Addr}{fp:List Addr}{tn:Nat->Heap->Prop}{Z7:It}{Z:Hp->Prop}{R:Result->Shared->Prop}
  (hx:∀e s,Y.xe e s->False) (hc:Y.calm=true) (hg:PG Y tg g) (ht:PIf Y ifs tc) (he:PE Y elt te)
  (T:Turn Y.prog Y.w Y.K tg Z7 fp it tn) (J0:Inv Y [] ZN (upd H2 D (.lst [])) s) (st3:tn 0 s.heap) (f3:∀b∈fp,upd H2 D (.lst []) b=none)
  (stat:∀{H':Hp},(∀b∈fp,H' b=none)->∀b∈fp,rP Y [] H' b) (h:zK Z7 g tc te D ZN H2 Z)
  (hR:∀ZP H4 s5,Inv Y [] ZP H4 s5->Z H4->R (.ok .next) s5):
  codeAny (model Y.prog Y.w) Y.A (.compLoop (.ListComp elt [⟨tg,iter,ifs,0⟩] scope pos) 0 (.ref it) (.ref D) Y.env) R s:=by
 obtain⟨W,⟨m0,w0⟩,turn⟩:=h;have noX:∀{α:Type} {t:Sem α} {Q:α->Shared->Prop} {s:Shared},wpAny (model Y.prog Y.w) Y.A t Q Y.xe s->wpAny (model Y.prog Y.w) Y.A t Q (fun _ _=>False) s:=fun q=>Xl q (fun _ _ z=>z) fun e s z=>hx e s z;obtain⟨P,hP⟩:∃P:Nat->Shared->Prop,∀n s',P n s'↔∃i Z0 H',Inv Y [] Z0 H' s'/\tn i s'.heap/\(∀b∈fp,H' b=none)/\W i n Z0 H':=⟨_,fun _ _=>Iff.rfl⟩
 refine Om P ?_ m0 ((hP _ _).2 ⟨0,_,_,J0,st3,f3,w0⟩);rintro n s4 h4;obtain⟨i,ZP,H4,I4,st4,fr4,w4⟩:=(hP _ _).1 h4;rcases turn i n ZP H4 w4 with⟨stop,qz⟩|⟨go,N,hN,step⟩
 ·refine Xl (T.done Y rfl rfl rfl hc i [] s4 ZP H4 (fun _ _=>False) I4 (stat fr4) st4 stop) (fun r s5 ⟨hr,I5⟩=>?_) fun _ _ z=>z;subst hr;exact hR ZP H4 s5 I5 qz
 ·refine Xl (T.item Y rfl rfl rfl hc i [] s4 ZP H4 (fun _ _=>False) I4 (stat fr4) st4 go) (fun r s5 ⟨u,hr,h5⟩=>?_) fun _ _ z=>z;subst hr;refine Xl h5 (fun _ s6 hm=>?_) fun _ _ z=>z;obtain⟨x,H6,I6,r6,y6,st6,fr6⟩:=hm;have I6':=I6.pinned (stat fr6) (T.obj _ _ st6);have again:∀{ZT:St} {H7:Hp} {s7:Shared},Inv Y ([]++v8 fp s6.heap) ZT H7 s7->N ZT H7->∃m,m<n/\P m s7:=fun{ZT H7 s7} I7 n7=>by
   obtain⟨m',hm,w7⟩:=hN ZT H7 n7;refine(⟨m',hm,(hP _ _).2 ⟨i+1,ZT,H7,I7.unpinned,T.keep _ _ _ st6 fun b hb o e=>(I7.pin (b,o) (Xs _ (Xs _ (vn hb e)))).1,fun b hb=>?_,w7⟩⟩);obtain⟨o,e,d⟩:=T.obj _ _ st6 b hb;exact((I7.pin (b,o) (Xs _ (Xs _ (vn hb e)))).2.1)
  refine noX (thn (hg _ s6 ZP H6 x u _ I6' r6 (step x H6 y6)) fun _ s7 hm=>?_);obtain⟨ZT,H7,I7,q7⟩:=hm;refine(noX (thn (ht _ s7 ZT H7 _ I7 q7) fun b s8 hm=>?_));obtain⟨H8,I8,q8⟩:=hm;cases b with
  |false=>
   show ∃m,_;exact again I8 q8
  |true=>
   show wpAny _ _ _ _ _ _;refine noX (thn (he _ s8 ZT H8 _ I8 q8) fun y s9 hm=>?_);obtain⟨v,H9,I9,r9,ys,hy,hz,q9⟩:=hm;refine(noX (thn (Dc (X:=Y) _ s9 ZT H9 (.ref D) [v] (.ref D) [y] (fun _ H'=>N ZT H') I9 rfl (.cons r9 .nil) ⟨_,ys,v,rfl,rfl,hy,hz,q9⟩) fun _ s10 hm=>?_));obtain⟨_,H10,I10,_,q10⟩:=hm;exact(again I10 q10)
theorem Hs{s2:Shared}{H2:Hp}{it:Addr}{fp:List Addr}{tn:Nat->Heap->Prop}{Z7:It}{cl:List (Str×Addr)}{Z:Addr->Hp->Prop}{RR:Value->Addr->Result->Shared->Prop}{E:OK}
  (hx:∀e s,X.xe e s->False) (hc:X.calm=true) (S:CompScope X N' own cap scope)
  (hg:∀cl C Z3 Z1 ex,PG (qM X N' scope cl C Z3 Z1 ex) tg g) (ht:∀cl C Z3 Z1 ex,PIf (qM X N' scope cl C Z3 Z1 ex) ifs tc) (he:∀cl C Z3 Z1 ex,PE (qM X N' scope cl C Z3 Z1 ex) elt te)
  (I2:Inv X pins J H2 s2) (T:Turn X.prog X.w X.K tg Z7 fp it tn) (st2:tn 0 s2.heap) (f2:∀b∈fp,rP X pins H2 b)
  (c1:∀y c,cl.lookup y=some c->X.env.cells.lookup y=some c) (c2:∀y,(y,NameKind.free)∈scope.names->∃c,cl.lookup y=some c)
  (h:∀D,H2 D=none->zK Z7 g tc te D (sI own cap J) H2 (Z D))
  (hRR:∀D C s' m' H',Inv X pins J H' s'->s'.heap.Ns C m'->rP X pins H' C->Z D H'->RR (.ref D) C (.ok .next) s'):
  wpAny (model X.prog X.w) X.A (newList []) (fun acc ZM=>wpAny (model X.prog X.w) X.A (newFunctionEnv scope X.env.globals cl [] X.env.qual none .none (some X.env)) (fun cenv ZH=>
   codeAny (model X.prog X.w) X.A (.compStart (.ListComp elt [⟨tg,iter,ifs,0⟩] scope pos) 0 (.ref it) acc {cenv with scope:=relabel scope X.env}) (RR acc cenv.locals) ZH) E ZM) E s2:=by
 have hlt:∀b∈fp,b<s2.heap.objs.size:=fun b hb=>by
  obtain⟨o,e,_⟩:=T.obj _ _ st2 b hb;exact(Xo e)
 have hD:H2 s2.heap.objs.size=none:=I2.hok.fresh (Xh _);refine Yb (E1 (fun ZR Zz Zy Zx=>?_));dsimp only at Zz Zy Zx⊢;have I3:Inv X pins J (upd H2 s2.heap.objs.size (.lst [])) {s2 with heap:=s2.heap.push {cls:=.type "list",dict:=none,data:=.seq ([]:List Value).toArray},toks:=s2.toks}:=
  I2.laid (fun b o e=>Xg _ e) (Xh _) ⟨Ye _,[],0,.nil,Xp _ rfl⟩
 generalize hs3:({s2 with heap:=s2.heap.push {cls:=.type "list",dict:=none,data:=.seq ([]:List Value).toArray},toks:=s2.toks}:Shared)=s3 at I3;have e3:s2.heap.push {cls:=.type "list",dict:=none,data:=.seq ([]:List Value).toArray}=s3.heap:=by rw[←hs3]
 have hsz:s3.heap.objs.size=s2.heap.objs.size+1:=by rw[←e3,Yd]
 rw[e3] at Zz Zy Zx⊢;have hk:=Zy;have hcl:∀y c,cl.lookup y=some c->¬s3.heap.objs.size<c:=fun y c e z=>by
  obtain⟨v,o,ho,_⟩:=I3.cell y c (c1 y c e);exact(X7 _ (Nat.lt_trans z (Xo ho)))
 have CA:CellsAre X scope s3.heap.objs.size cl (cellsFrom (s3.heap.objs.size+1) scope.names cl):=FH (h:=s3.heap.push {cls:=.type "dict",data:=.dict #[]}) (by rw[Yd]) S hcl;have hcell:∀y c,(cellsFrom (s3.heap.objs.size+1) scope.names cl).lookup y=some c->s3.heap.objs.size<c->ZR.IsCell c none:=fun y c e z=>by
  rw[ve,wo] at e;cases q:(cellsFrom (s3.heap.objs.size+1) scope.names []).lookup y with
  |none=>rw[q] at e;exact absurd z (hcl y c e)
  |some c'=>
   rw[q] at e;have:c'=c:=XD e;subst this;exact Zx y c' (XU q)
 generalize hcs:cellsFrom (s3.heap.objs.size+1) scope.names cl=cs at CA hcell⊢;have f3:∀b∈fp,rP X pins (upd H2 s2.heap.objs.size (.lst [])) b:=fun b hb=>⟨by rw[qW (Xz (hlt b hb))];exact(f2 b hb).1,(f2 b hb).2⟩
 have hlt3:∀b∈fp,b<s3.heap.objs.size:=fun b hb=>by rw[hsz];exact YN (hlt b hb)
 have st3:tn 0 ZR:=T.keep _ _ _ st2 fun b hb o e=>hk b o (by rw[←e3];exact Xg _ e);have J0:Inv (qM X N' scope cs s3.heap.objs.size s3 (upd H2 s2.heap.objs.size (.lst [])) fp) [] (sI own cap J) (upd H2 s2.heap.objs.size (.lst [])) {s3 with heap:=ZR,toks:=s2.toks}:=
  comp_inv I3 S CA hcell c1 c2 f3 hlt3 hk Zz
 have stat:∀{pl:QS} {H':Hp},pl=[]->(∀b∈fp,H' b=none)->∀b∈fp,rP (qM X N' scope cs s3.heap.objs.size s3 (upd H2 s2.heap.objs.size (.lst [])) fp) pl H' b:=fun{pl H'} hp hn b hb=>by
  subst hp;refine⟨hn b hb,Xz (hlt3 b hb),J0.ok.exfs b hb,.inl hb,fun x c e=>J0.ok.exf b hb |>.2 x c e,fun p hp=>absurd hp (by show p∉([]++[]:QS);simp)⟩
 have loop:codeAny (model X.prog X.w) X.A (.compLoop (.ListComp elt [⟨tg,iter,ifs,0⟩] scope pos) 0 (.ref it) (.ref s2.heap.objs.size) (compEnvC scope cs s3.heap.objs.size X.env)) (RR (.ref s2.heap.objs.size) s3.heap.objs.size)
   {s3 with heap:=ZR,toks:=s2.toks}:=UL (Y:=qM X N' scope cs s3.heap.objs.size s3 (upd H2 s2.heap.objs.size (.lst [])) fp) hx hc (hg _ _ _ _ _) (ht _ _ _ _ _) (he _ _ _ _ _) T J0 st3 (fun b hb=>(f3 b hb).1) (stat rfl) (h _ hD) fun ZP H4 s5 I5 qz=>by
  have I6:Inv X pins J H4 s5:=I3.call' (ch:=fp) I5.os I5.base I5.hok I5.bare fun b hb=>⟨(f3 b hb).2.2.2.1,(f3 b hb).2.1,(f3 b hb).2.2.2.2.1,(f3 b hb).2.2.2.2.2⟩
  obtain⟨m',hn',_⟩:=I5.loc;exact(hRR _ _ s5 m' H4 I6 hn' (I3.fpOk (Xh _) I5.free) qz)
 have lp:codeAny (model X.prog X.w) X.A (.compStart (.ListComp elt [⟨tg,iter,ifs,0⟩] scope pos) 0 (.ref it) (.ref s2.heap.objs.size) (compEnvC scope cs s3.heap.objs.size X.env)) (RR (.ref s2.heap.objs.size) s3.heap.objs.size)
   {s3 with heap:=ZR,toks:=s2.toks}:=codeAny_compStart_list loop (T.self _ 0 _ _ _ st3 loop)
 subst hs3;exact lp
end
def MY(own:List Str)(cap:List (Str×Nat))(wi:TI)(g:TG)(tc:TT)(te:TE):TE:=fun J H Q=>wi J H fun Z7 H1=>∀D,H1 D=none->zK Z7 g tc te D (sI own cap J) H1 (Q (.ref D))
section
variable {X:Cx} {N' own:List Str} {cap:List (Str×Nat)} {scope:Scope} {tg iter elt:Expr} {ifs:List Expr} {pos:Pos} {wi:TI} {g:TG} {tc:TT} {te:TE}
theorem Inv.letgo{pins:QS}{J:St}{H:Hp}{s:Shared}{h':Heap}{C:Addr}(I:Inv X pins J H s)(f:rP X pins H C)(hs:Heap.SameBut C s.heap h'):Inv X pins J H {s with heap:=h'}:=
 I.turned (t':=s.toks) (it:=C) (fun b o hb e=>(hs.2 b hb).trans e) f.1 f.2.1 f.2.2.2.1 f.2.2.2.2.1 f.2.2.2.2.2
theorem NG(S:CompScope X N' own cap scope)(hi:PI X tg iter wi)
  (hg:∀cl C Z3 Z1 ex,PG (qM X N' scope cl C Z3 Z1 ex) tg g) (ht:∀cl C Z3 Z1 ex,PIf (qM X N' scope cl C Z3 Z1 ex) ifs tc) (he:∀cl C Z3 Z1 ex,PE (qM X N' scope cl C Z3 Z1 ex) elt te)
  (hx:∀e s,X.xe e s->False:=by exact fun _ _ z=>z) (hc:X.calm=true:=by rfl) (hs:∀x,foldedSetIterable iter X.env x=pure x:=by intro _;rfl):
  PE X (.ListComp elt [⟨tg,iter,ifs,0⟩] scope pos) (MY own cap wi g tc te):=by
 intro pins s J H Q I h;rw[eval_ListComp];obtain⟨cl,hcl,c1,c2⟩:=zF (scope:=scope) (env:=X.env) fun y hy hk=>I.ok.has y.1 (S.free y hy hk);refine(Yu (use:=none) rfl hs hcl S.kind S.names (thn (hi pins s J H _ I h) fun v s1 h1=>thn h1 fun itv s2 h2=>?_));obtain⟨it,fp,tn,Z7,H2,e,I2,T,st2,f2,q⟩:=h2;subst e;refine(Hs (RR:=fun acc C=>compPost (model X.prog X.w) X.A X.xe none (EP X pins J Q) acc C) (Z:=fun D=>Q (.ref D)) hx hc S hg ht he I2 T st2 f2 c1 c2 q ?_);intro D C s' m' H' I' hn' f' z;exact⟨m',hn',fun h'' hs''=>⟨.ref D,H',I'.letgo f' hs'',rfl,z⟩⟩
end
section
variable {X:Cx} {pins:QS} {J:St} {H:Hp} {s:Shared} {h':Heap} {ch:List Addr}
theorem Inv.turns{t':Nat}(I:Inv X pins J H s)(hf:∀b∈ch,rP X pins H b)(k:∀b o,b∉ch->s.heap.get? b=some o->h'.get? b=some o):Inv X pins J H {s with heap:=h',toks:=t'}:=by
 have nit:∀b u,H b=some u->b∉ch:=fun b u e z=>by rw[(hf b z).1] at e;cases e
 refine I.step (g':=s.gens) (d':=s.drawn) (ch:=ch) (fun b hb=>?_) (fun b o _ _ hc e _=>k b o hc e) (fun b o _ _ hc e _=>⟨o.slots,k b o hc e⟩) (fun _ _ _ _ n=>n)
  (fun b o hc e=>⟨o,k b o hc e⟩) (fun _ _ e=>e) (fun _ _ _ e=>e) (fun b ps e=>⟨#[],by rw[e];simp⟩) (fun m hm=>?_) (fun b u e=>?_) I.bare
 ·obtain⟨f0,f1,f2,f3,f4,f5⟩:=hf b hb;exact⟨f3,f1,f4,f5⟩
 ·obtain⟨o,es,ep,ho,r⟩:=hm;exact⟨o,es,ep,k _ o (fun z=>(hf _ z).2.1 rfl) ho,r⟩
 ·refine(I.hok b u e).stay (fun c v hc q=>k c v ?_ q) (fun _ q=>q) fun _ _ q=>q;rcases hc with z|z
  ·rw[z];exact nit b u e
  ·exact nit c _ z
theorem Inv.turnLay{t':Nat}{T:Addr}{o:HO}(I:Inv X pins J H s)(hf:∀b∈ch,rP X pins H b)(k:∀b o,b∉ch->s.heap.get? b=some o->h'.get? b=some o)(hT:s.heap.objs.size<=T)
  (new:ObjOk X.prog X.w (upd H T o) h' T o):Inv X pins J (upd H T o) {s with heap:=h',toks:=t'}:=by
 have nit:∀b u,H b=some u->b∉ch:=fun b u e z=>by rw[(hf b z).1] at e;cases e
 have hn:H T=none:=I.hok.fresh hT;have ne:∀b o,s.heap.get? b=some o->b≠T:=fun b o e=>Xz (XC (Xo e) hT);refine I.step (g':=s.gens) (d':=s.drawn) (ch:=ch) (fun b hb=>?_) (fun b o _ _ hc e _=>k b o hc e) (fun b o _ _ hc e _=>⟨o.slots,k b o hc e⟩) (fun b o _ e n=>by rw[qW (ne b o e)];exact n)
  (fun b o hc e=>⟨o,k b o hc e⟩) (fun b xs e=>by rw[qW (sM e hn)];exact e) (fun b o u e=>by rw[qW (sM e hn)];exact e) (fun b ps e=>⟨#[],by rw[qW (sM e hn),e];simp⟩) (fun m hm=>?_) (fun b u e=>?_) I.bare
 ·obtain⟨f0,f1,f2,f3,f4,f5⟩:=hf b hb;exact⟨f3,f1,f4,f5⟩
 ·obtain⟨o,es,ep,ho,r⟩:=hm;exact⟨o,es,ep,k _ o (fun z=>(hf _ z).2.1 rfl) ho,r⟩
 ·by_cases hb:b=T
  ·subst hb;rw[rQ] at e;cases e;exact new
  ·rw[qW hb] at e;refine(I.hok b u e).stay (fun c v hc q=>k c v ?_ q) (fun c q=>by rw[qW (sM q hn)];exact q) fun c xs q=>by rw[qW (sM q hn)];exact q
   rcases hc with z|z
   ·rw[z];exact nit b u e
   ·exact nit c _ z
end
def Ite(K:Frag)(a:Addr):It:=
 ⟨fun i H=>∃xs x,SqL K H a xs/\xs[i]?=some x,fun i H x H'=>∃p v,x=.ref p/\H p=none/\H'=upd H p (.tup [.int (i:Nat),v])/\∀xs,SqL K H a xs->xs[i]?=some v,fun i H=>∃xs,SqL K H a xs/\xs.length<=i⟩
def Jc:2<=sizeLine:=by rw[YF];decide
theorem Ut{P:Program}{w:World}{K:Frag}{elts:List Expr}{k:Nat}{pos:Pos}(a e it:Addr)(hne:e≠it):
  Turn P w K (.Tuple elts k pos) (Ite K a) [e,it] e (fun i h=>(∃old,IsEnum h e it i old)/\h.IsListIter it a i) where
 mem:=by simp
 obj:=fun i h st b hb=>by
  obtain⟨⟨old,he⟩,o,e2,c,d⟩:=st;rcases XI.mp hb with rfl|hb
  ·exact⟨_,he,fun v z=>by cases z⟩
  ·rw[XX.mp hb];exact⟨o,e2,fun v z=>by rw[d] at z;cases z⟩
 keep:=fun i h h' st kk=>⟨let ⟨old,he⟩:=st.1;⟨old,kk e (by simp) _ he⟩,st.2.at fun o q=>kk it (by simp) o q⟩
 item:=by
  intro X hP hw hK hc i pins s J H E I hf st hg;subst hP hw hK;obtain⟨xs,x,hq,hx⟩:=hg;obtain⟨its,rv,p,hz⟩:=I.list hq;obtain⟨u,hu,ru⟩:=rv.get hx;obtain⟨⟨old,he⟩,hit⟩:=st;refine(wpAny_pyNext_enum_item he hit p.isList (x:=u) (by simpa using hu) hne fun h1 ho hit1 hT hsz hk=>?_);refine⟨_,rfl,wpAny_letOwnedTupleGo_enum ho fun h2 he2 hs2=>?_⟩;have hlt:e<s.heap.objs.size:=Xo he
  replace hs2:Heap.SameBut e h1 h2:=hs2
  have hT2:h2.get? s.heap.objs.size=some {cls:=.type "tuple",data:=.seq #[.int i s.toks,u]}:=(hs2.2 _ (Nat.ne_of_gt hlt)).trans hT;have hn:H s.heap.objs.size=none:=I.hok.fresh (Xh _);have I2:Inv X pins J (upd H s.heap.objs.size (.tup [.int (i:Nat),x])) {s with heap:=h2,toks:=s.toks+1}:=
   I.turnLay (ch:=[e,it]) hf (fun b o hb q=>(hs2.2 b (fun z=>hb (by simp[z]))).trans (hk b o (fun z=>hb (by simp[z])) (fun z=>hb (by simp[z])) q)) (Xh _)
    ⟨Jc,[.int i s.toks,u],.cons ⟨_,rfl⟩ (.cons ru .nil),⟨_,hT2,rfl,_,rfl⟩⟩
  have hit2:h2.IsListIter it a (i+1):=hit1.at fun o q=>(hs2.2 it (Ne.symm hne)).trans q;have f1:∀b∈[e,it],(upd H s.heap.objs.size (.tup [.int (i:Nat),x])) b=none:=fun b hb=>by
   have hlb:b<s.heap.objs.size:=by
    rcases XI.mp hb with rfl|hb
    ·exact hlt
    ·rw[XX.mp hb];obtain⟨o,q,_⟩:=hit;exact(Xo q)
   rw[qW (Xz hlb)];exact(hf b hb).1
  exact⟨.ref s.heap.objs.size,_,I2,rfl,⟨_,x,rfl,hn,rfl,fun ys hy=>by rw[I.list_inj hy hq];exact hx⟩,⟨⟨u,by simpa using he2⟩,hit2⟩,f1⟩
 done:=by
  intro X hP hw hK hc i pins s J H E I hf st hg;subst hP hw hK;obtain⟨xs,hq,hx⟩:=hg;obtain⟨its,rv,p,hz⟩:=I.list hq;obtain⟨⟨old,he⟩,hit⟩:=st;have hl:=rv.length;exact wpAny_pyNext_enum_end (I.ok.hd hc) he hit p.isList (by simp;omega) fun h' eb=>⟨rfl,I.turns (t':=s.toks) (ch:=[e,it]) hf fun b o hb q=>eb b o (fun z=>hb (by simp[z])) q⟩
 self:=fun _ _ _ _ _ st h=>by
  obtain⟨⟨old,he⟩,_⟩:=st;exact(wpAny_pyIter_enum he h)
def Nb(K:Frag)(ta:TA):TI:=fun J H R=>ta J H fun vs H1=>∃a,vs=[.ref a]/\(∃xs,SqL K H1 a xs)/\R (Ite K a) H1
section
variable {X:Cx}
theorem Qu{elts:List Expr}{k:Nat}{tpos:Pos}{a:Expr}{ta:TA}{p pos:Pos}(hg:Gl X "enumerate") (hm:X.mg "enumerate"=none) (ha:PA X [a] ta) (hs:starEach [a] X.env=[(false,eval a X.env)]:=by rfl):
  PI X (.Tuple elts k tpos) (.Call (.Name "enumerate" p) [a] [] pos) (Nb X.K ta):=by
 intro pins s J H R I h;refine Call_ (wq I hg hm boot_enumerate (Ya (thn (ha pos pins s J H _ I h) fun us s1 hm=>?_) hs rfl));obtain⟨vs,H1,I1,r1,q1⟩:=hm;obtain⟨l,e,⟨xs,hq⟩,q⟩:=q1;subst e;obtain⟨u,rfl,ru⟩:=wc r1;cases ru;obtain⟨its,rv,pl,hz⟩:=I1.list hq;refine(call_enumerate_list pl.isList fun h' he hit hsz hk=>wpAny_pyIter_enum he ?_);have I2:Inv X pins J H1 {s1 with heap:=h'}:=I1.kept (t':=s1.toks) hk;refine⟨_,[s1.heap.objs.size+1,s1.heap.objs.size],_,_,H1,rfl,I2,Ut l _ _ (Nat.succ_ne_self _),⟨⟨.none,he⟩,hit⟩,fun b hb=>?_,q⟩;have hb':s1.heap.objs.size<=b:=by
  rcases XI.mp hb with rfl|hb
  ·exact Nat.le_succ _
  ·rw[XX.mp hb];exact Xh _
 exact I1.fpOk hb' (I1.hok.fresh hb')
end
mutual
inductive Dp (K:Frag) (H:Hp):V->PyData->Prop where
 |non:Dp K H .non .none
 |bl (b:Bool):Dp K H (.bl b) (.bool b)
 |int (i:Int):Dp K H (.int i) (.int i)
 |str (x:Str):Dp K H (.str x) (.str x)
 |lst {a:Addr} {xs:List V} {ds:List PyData}:SqL K H a xs->Dps K H xs ds->Dp K H (.ref a) (.list ds)
 |tup {a:Addr} {xs:List V} {ds:List PyData}:SqT K H a xs->Dps K H xs ds->Dp K H (.ref a) (.tuple ds)
inductive Dps (K:Frag) (H:Hp):List V->List PyData->Prop where
 |nil:Dps K H [] []
 |cons {x:V} {d:PyData} {xs:List V} {ds:List PyData}:Dp K H x d->Dps K H xs ds->Dps K H (x::xs) (d::ds)
end
section
variable {X:Cx} {pins:QS} {J:St} {H:Hp} {s:Shared}
mutual
theorem Dp.reads(I:Inv X pins J H s):∀{v:V} {d:PyData} {u:Value},Dp X.K H v d->RelV v u->∃as,Reads s.heap u d as
 |_,_,_,.non,r=>by cases (show _=Value.none from r);exact⟨_,.none⟩
 |_,_,_,.bl b,r=>by cases (show _=Value.bool b from r);exact⟨_,.bool b⟩
 |_,_,_,.int i,r=>by obtain⟨t,rfl⟩:=r;exact⟨_,.int i t⟩
 |_,_,_,.str x,r=>by obtain⟨t,rfl⟩:=r;exact⟨_,.str x t⟩
 |_,_,_,.lst (a:=a) h hs,r=>by
  cases (show _=Value.ref a from r);obtain⟨its,rv,⟨o,n,h1,h2,_,h4⟩,_⟩:=I.list h;obtain⟨as,hr⟩:=Dps.reads I hs rv;exact⟨_,.list h1 h2 h4 (by simpa using hr)⟩
 |_,_,_,.tup (a:=a) h hs,r=>by
  cases (show _=Value.ref a from r);obtain⟨its,rv,⟨o,h1,h2,n,h4⟩,_⟩:=I.tuple h;obtain⟨as,hr⟩:=Dps.reads I hs rv;exact(⟨_,.tuple h1 h2 h4 (by simpa using hr)⟩)
theorem Dps.reads(I:Inv X pins J H s):∀{vs:List V} {ds:List PyData} {us:List Value},Dps X.K H vs ds->Vals vs us->∃as,ReadsAll s.heap us ds as
 |_,_,_,.nil,r=>by cases r;exact⟨_,.nil⟩
 |_,_,_,.cons h hs,r=>by
  cases r with
  |cons r1 r2=>
   obtain⟨as,h1⟩:=Dp.reads I h r1;obtain⟨bs,h2⟩:=Dps.reads I hs r2;exact(⟨_,.cons h1 h2⟩)
end
theorem L5(hu:X.A.units+64<cLine):OpR X (compareOp .Eq) (fun x y H Q=>∃d e,Dp X.K H x d/\Dp X.K H y e/\(d.canLay0&&e.canLay0&&decide (d.depth<=64))=true/\Q (.bl (PyData.eqv d e)) H):=by
 intro pins s J H x y v u Q I rx ry h;obtain⟨d,e,hd,he,hc,q⟩:=h;simp only[XE,X4] at hc;obtain⟨as,r1⟩:=hd.reads I rx;obtain⟨bs,r2⟩:=he.reads I ry;exact(SeqAt.compareEq_reads r1 r2 hc.1.1 hc.1.2 (by omega) ⟨.bl _,H,I,rfl,q⟩)
theorem Mn(hu:X.A.units+64<cLine):OpR X (compareOp .NotEq) (fun x y H Q=>∃d e,Dp X.K H x d/\Dp X.K H y e/\(d.canLay0&&e.canLay0&&decide (d.depth<=64))=true/\Q (.bl (!PyData.eqv d e)) H):=by
 intro pins s J H x y v u Q I rx ry h;obtain⟨d,e,hd,he,hc,q⟩:=h;simp only[XE,X4] at hc;obtain⟨as,r1⟩:=hd.reads I rx;obtain⟨bs,r2⟩:=he.reads I ry;exact(SeqAt.compareNe_reads r1 r2 hc.1.1 hc.1.2 (by omega) ⟨.bl _,H,I,rfl,q⟩)
end
section
variable {X:Cx}
def Jq:V->List V->Hp->VK->Prop:=fun x vs H Q=>∃(a:Addr) (kvs:List (Key×V)) (k:Key) (d:V),x=.ref a/\vs=[kV k,d]/\H a=some (.dK kvs)/\kvs.length<sizeLine/\
 (∀v,sE kvs k=some v->Q v H)/\(sE kvs k=none->Q d (upd H a (.dK (rV kvs k d))))
theorem QV:MtM X "dict.setdefault" Jq:=by
 intro pins s J H x vs v us Q I rx rv h;obtain⟨a,kvs,k,d,rfl,rfl,e,hl,h1,h2⟩:=h;cases rx;obtain⟨u,w',rfl,ru,rd⟩:=rv.two;obtain⟨z,hd,ws,rel,dd⟩:=xj I.hok e;refine call_meetsIn PySem.F.slot_dict_setdefault dd.typeIs PySem.F.entry_dict_setdefault (PySem.F.args_dict_setdefault_3 _ _ _) (kt_meets_setdefault (tI X.prog X.w) a (zW ru) hd w') ⟨ws,dd,by rw[←rel.length];exact z,fun y hy=>?_,fun hn h' dd' hs=>?_⟩
 ·have q:=rel.val k;rw[hy] at q;cases ev:sE kvs k with
  |none=>rw[ev] at q;exact q.elim
  |some v0=>
   rw[ev] at q;exact⟨v0,H,I.tok _,q,h1 v0 ev⟩
 ·have q:=rel.val k;rw[hn] at q;cases ev:sE kvs k with
  |some v0=>rw[ev] at q;exact q.elim
  |none=>
   have hz:(rV kvs k d).length<=sizeLine:=by have:=A3 kvs k d;omega
   have he:∃q,h'.get? a=some q:=let ⟨q,_,_,hq,_⟩:=dd';⟨q,hq⟩
   exact⟨d,_,At (t':=s.toks+1) I (by rw[e];exact True.intro) hs he (Du hz hd (rel.put k rd) dd'),rd,h2 ev⟩
theorem Qb{kvs:List (Key×V)}{ws:List (Key×Value)}(rel:KV kvs ws):Vals (kvs.map (·.2)) (ws.map (·.2)):=by
 induction rel with
 |nil=>exact .nil
 |cons r _ ih=>exact .cons r.2 ih
def vvO(v d:Addr):HO:=.ext fun h=>h.IsValuesView v d
def IF:V->List V->Hp->VK->Prop:=fun x vs H Q=>∃(a:Addr) (kvs:List (Key×V)),x=.ref a/\vs=[]/\H a=some (.dK kvs)/\∀v,H v=none->Q (.ref v) (upd H v (vvO v a))
theorem Up:MtM X "dict.values" IF:=by
 intro pins s J H x vs v us Q I rx rv h;obtain⟨a,kvs,rfl,rfl,e,q⟩:=h;cases rx;have:=rv.zero;subst this;obtain⟨z,hd,ws,rel,dd⟩:=xj I.hok e;refine(call_meetsIn PySem.F.slot_dict_values dd.typeIs PySem.F.entry_dict_values (PySem.F.args_dict_values_1 _) (meets_dict_values (tI X.prog X.w) a hd) ⟨⟨ws,dd⟩,?_⟩);have hv:(s.heap.push {cls:=.type "dict_values",data:=.fields #[.ref a]}).IsValuesView s.heap.objs.size a:=⟨_,Xp _ rfl,rfl,rfl⟩
 refine⟨.ref s.heap.objs.size,_,I.laid (t':=s.toks) (o:=vvO s.heap.objs.size a) (fun b o q=>Xg _ q) (Xh _) ?_,rfl,q _ (I.hok.fresh (Xh _))⟩;exact⟨hv,⟨_,Xp _ rfl⟩,fun h1 h2 p k=>let ⟨o,ho,r⟩:=p;⟨o,k o ho,r⟩⟩
theorem za6:uO X (.type "list") (fun xs H Q=>∃(v a:Addr) (kvs:List (Key×V)),xs=[.ref v]/\H v=some (vvO v a)/\H a=some (.dK kvs)/\X.calm=true/\∀l,H l=none->Q (.ref l) (upd H l (.lst (kvs.map (·.2))))):=by
 intro pins s J H xs us Q I r h;obtain⟨v,a,kvs,rfl,hv,e,hc,q⟩:=h;obtain⟨u,rfl,ru⟩:=wc r;cases ru;obtain⟨z,hd,ws,rel,dd⟩:=xj I.hok e;obtain⟨hvv,_,_⟩:s.heap.IsValuesView v a/\_/\_:=I.hok v _ hv;obtain⟨ep,hat⟩:=dd.dictAt;refine PySem.W.kdl_call (PySem.W.kdl_values (knd:=tI X.prog X.w) (kvs:=ws) (ep:=ep)) (I.ok.hd hc) ⟨hvv,hat⟩ (by rw[←rel.length];exact z) fun h' tk acc' c' hk hD hacc=>?_;have ev:acc'.toList=ws.map (·.2):=PySem.W.kdl_vals_eq acc'.toList (by rw[Yx];exact hacc.1) fun j v ej=>hacc.2 j v (by rw[←Array.getElem?_toList];exact ej);have rv:Vals (kvs.map (·.2)) (ws.map (·.2)):=Qb rel;refine⟨.ref s.heap.objs.size,_,I.laid (t':=tk) (o:=.lst (kvs.map (·.2))) hk (Xh _) ?_,rfl,q _ (I.hok.fresh (Xh _))⟩;refine⟨by rw[Xn];exact z,ws.map (·.2),c',rv,?_⟩;rw[←ev];exact hD
end
def Df(P:Program)(w:World)(K:Frag)(mg:Str->Option Value)(base:Heap)(k:Nat)(x:Str)(ps:List Str)(sp:Sp):Prop:=
 ∃f fd,FnOk P w K mg base CX0 k f fd ps sp/\Binds K fd ps []/\keepIn K (.ref f)=true/\mg x=some (.ref f)
section
variable {X:Cx} {k:Nat} {x:Str} {ps:List Str} {sp:Sp} {e:Expr} {es:List Expr} {t:TA} {p pos:Pos}
theorem JX(D:Df X.prog X.w X.K X.mg X.base k x ps sp)(hr:Room k X.A)(ha:PA X (e::es) t)(hg:Gl X x:=by rfl)(hdb:(x==("__debug__":Str))=false:=by decide)
  (he:starEach (e::es) X.env=(false,eval e X.env)::starEach es X.env:=by rfl) (hpl:(backTo pos (starEach es X.env)).any (·.1)=false:=by rfl):
  PE X (.Call (.Name x p) (e::es) [] pos) (fun J H Q=>t J H fun vs H1=>sp vs H1 Q E0):=by
 obtain⟨f,fd,F,hb,hk,hm⟩:=D;intro pins s J H Q I h;exact zw1 F hr hg hm hk hb .nil Ev ha hdb he hpl pins s J H Q I (by unfold KM;simpa using h)
end
def But(p:Addr)(H H':Hp):Prop:=∀b o,b≠p->H b=some o->H' b=some o
def vP{n:Nat}(h:n<=1000000):n<=sizeLine:=by rw[YF];omega
def zq{n:Nat}(h:n<=1000000):n<sizeLine:=by rw[YF];omega
def Gx(N:List Str)(names:List (Str×NameKind))(own:List Str)(cap:List (Str×Nat))(scope:Scope):Bool:=
 (scope.kind==.function)&&scope.names.all (fun y=>(y.2 != .cell||scope.names.lookup y.1==some .cell)&&(y.2 != .local||scope.names.lookup y.1==some .local)&&(y.2 != .free||scope.names.lookup y.1==some .free)&&(y.2 != .free||(names.lookup y.1==some .cell||names.lookup y.1==some .free)))
 &&cap.all fun p=>N[p.2]?==some p.1&&scope.names.lookup p.1==some .free&&(names.lookup p.1==some .cell||names.lookup p.1==some .free)
def sK{X:Cx}{own:List Str}{cap:List (Str×Nat)}{scope:Scope}(h:Gx X.N X.env.scope.names own cap scope=true):CompScope X (own++cap.map (·.1)) own cap scope:=by
 unfold Gx at h;simp only[XE,XJ,Bool.or_eq_true,bne_iff_ne,beq_iff_eq] at h;obtain⟨⟨h1,h2⟩,h3⟩:=h;exact(⟨h1,fun y hy hl=>(h2 y hy).1.1.1.resolve_left fun z=>z hl,fun y hy hl=>(h2 y hy).1.2.resolve_left fun z=>z hl,fun y hy hl=>(h2 y hy).1.1.2.resolve_left fun z=>z hl,fun y hy hl=>(h2 y hy).2.resolve_left fun z=>z hl,rfl,fun p hp=>⟨(h3 p hp).1.1,(h3 p hp).1.2,(h3 p hp).2⟩⟩)
section
variable {X:Cx} {a b o:Expr} {ta tb to:TE} {p pos:Pos}
theorem Wu(K:Frag)(ml:X.mg "len"=none) (ha:PE X a ta) (hg:Gl X "len":=by rfl) (hs:starEach [a] X.env=[(false,eval a X.env)]:=by rfl) (hK:X.K=K:=by rfl):
  PE X (.Call (.Name "len" p) [a] [] pos) (fun J H Q=>ta J H fun x H1=>∃p ys,[x]=[V.ref p]/\(SqL K H1 p ys\/SqT K H1 p ys)/\Q (.int ys.length) H1):=by
 subst hK;exact BZ R6 hg ml PySem.boot_len (sq ha sV hs) (he:=hs)
theorem Wc(ml:X.mg "min"=none) (ha:PE X a ta) (hb:PE X b tb) (hc:X.calm=true:=by rfl) (hg:Gl X "min":=by rfl) (hs:starEach [a,b] X.env=[(false,eval a X.env),(false,eval b X.env)]:=by rfl) (hs2:starEach [b] X.env=[(false,eval b X.env)]:=by rfl):
  PE X (.Call (.Name "min" p) [a,b] [] pos) (fun J H Q=>ta J H fun x H1=>tb J H1 fun y H2=>∃i j,[x,y]=[.int i,.int j]/\Q (.int (if j<i then j else i)) H2):=by
 exact BZ (OY hc) hg ml rfl (sq ha (sq hb sV hs2) (by rw[hs,hs2])) (he:=by rw[hs,hs2]) (hpl:=by rw[hs2];rfl)
theorem y8y(ml:X.mg "max"=none) (ha:PE X a ta) (hb:PE X b tb) (hc:X.calm=true:=by rfl) (hg:Gl X "max":=by rfl) (hs:starEach [a,b] X.env=[(false,eval a X.env),(false,eval b X.env)]:=by rfl) (hs2:starEach [b] X.env=[(false,eval b X.env)]:=by rfl):
  PE X (.Call (.Name "max" p) [a,b] [] pos) (fun J H Q=>ta J H fun x H1=>tb J H1 fun y H2=>∃i j,[x,y]=[.int i,.int j]/\Q (.int (if j>i then j else i)) H2):=by
 exact BZ (Vv hc) hg ml rfl (sq ha (sq hb sV hs2) (by rw[hs,hs2])) (he:=by rw[hs,hs2]) (hpl:=by rw[hs2];rfl)
theorem iL(K:Frag){tg:Expr}(ha:PE X a ta)(hK:X.K=K:=by rfl):PI X tg a (Hh K ta):=by subst hK;exact HE ha
theorem iT(K:Frag){tg:Expr}(ha:PE X a ta)(hK:X.K=K:=by rfl):PI X tg a (LF K ta):=by subst hK;exact OW ha
theorem iR(mr:X.mg "range"=none) {tg:Expr} (ha:PE X a ta) (hg:Gl X "range":=by rfl) (hs:starEach [a] X.env=[(false,eval a X.env)]:=by rfl):PI X tg (.Call (.Name "range" p) [a] [] pos) (Kr (t5 ta u5)):=Qd hg mr (sq ha sV hs) hs
theorem UF(K:Frag){apos:Pos}(ho:PE X o to)(ha:PE X a ta)(hs:starEach [a] X.env=[(false,eval a X.env)]:=by rfl)
  (hbase:attributeBase o "append" X.env (eval o X.env)=eval o X.env:=by rfl) (hline:(apos.endLine==pos.line)=true:=by rfl) (hK:X.K=K:=by rfl)
  (hfew:((backTo pos (starEach [a] X.env)).all (fun x=>!x.1)&&(backToKw pos (keywordEach [] X.env)).all (fun x=>x.1.isSome)
   &&decide ([a].length+([]:List Keyword).length+(if([]:List Keyword).isEmpty then 0 else 1)<30))=true:=by rfl):
  PE X (.Call (.Attribute o "append" apos) [a] [] pos) (tBM K "list" G9 to (t5 ta u5)):=by
 subst hK;exact JF PySem.F.plainAttrs_list PySem.F.slot_list_append PySem.F.type_list_append Dc ho (sq ha sV hs) hbase hfew hline hs
end
def Pot(H:Hp)(p:Addr):Prop:=∃a b c:Int,H p=some (.lst [.int a,.int b,.int c])
structure Drawn (p:Addr) (H H':Hp):Prop where
 but:But p H H'
 pot:Pot H' p
def OJ{xs:List V}{r:Int}(h0:0<=r)(h1:r<(xs.length:Int)):atI xs r=some (xs[r.toNat]'(by omega)):=by
 have hk:r.toNat<xs.length:=by omega
 have:=VI (xs:=xs) (j:=r.toNat) (v:=xs[r.toNat]) (by simp[hk]);have er:((r.toNat:Nat):Int)=r:=by omega
 rw[er] at this;exact this
section
variable {X:Cx} {a:Expr} {ta:TE} {p pos:Pos}
theorem gT(K:Frag){es:List Expr}{k:Nat}{t:TGs}{n:Nat}(h:PGs X es t)(hc:X.calm=true:=by rfl)(hn:(assignEach es X.env).length=n:=by rfl)(hst:(assignEach es X.env).findIdx? (·.1)=none:=by rfl)(hK:X.K=K:=by rfl):
  PG X (.Tuple es k pos) (HC K n t):=by subst hK;exact TQ hc h hn hst
theorem iEn(K:Frag)(ml:X.mg "enumerate"=none) {elts:List Expr} {k:Nat} {tpos:Pos} (ha:PE X a ta) (hg:Gl X "enumerate":=by rfl) (hs:starEach [a] X.env=[(false,eval a X.env)]:=by rfl) (hK:X.K=K:=by rfl):
  PI X (.Tuple elts k tpos) (.Call (.Name "enumerate" p) [a] [] pos) (Nb K (t5 ta u5)):=by
 subst hK;exact Qu hg ml (sq ha sV hs) hs
end
def Ft{xs:List V}{Pd:V->Prop}{r:Int}(h:∀x∈xs,Pd x)(h0:0<=r)(h1:r<(xs.length:Int)):∃v,atI xs r=some v/\Pd v:=
 ⟨_,OJ h0 h1,h _ (X3 _)⟩
section
variable {X:Cx} {a b o:Expr} {ta tb to:TE} {pos:Pos}
theorem RX(K:Frag){apos:Pos}(ho:PE X o to)(ha:PE X a ta)(hb:PE X b tb)(hs:starEach [a,b] X.env=[(false,eval a X.env),(false,eval b X.env)]:=by rfl)(hs2:starEach [b] X.env=[(false,eval b X.env)]:=by rfl)
  (hbase:attributeBase o "setdefault" X.env (eval o X.env)=eval o X.env:=by rfl) (hline:(apos.endLine==pos.line)=true:=by rfl) (hK:X.K=K:=by rfl)
  (hfew:((backTo pos (starEach [a,b] X.env)).all (fun x=>!x.1)&&(backToKw pos (keywordEach [] X.env)).all (fun x=>x.1.isSome)
   &&decide ([a,b].length+([]:List Keyword).length+(if([]:List Keyword).isEmpty then 0 else 1)<30))=true:=by rfl):
  PE X (.Call (.Attribute o "setdefault" apos) [a,b] [] pos) (tBM K "dict" Jq to (t5 ta (t5 tb u5))):=by
 subst hK;exact JF PySem.F.plainAttrs_dict PySem.F.slot_dict_setdefault PySem.F.type_dict_setdefault QV ho (sq ha (sq hb sV hs2) (by rw[hs,hs2])) hbase hfew hline (by rw[hs,hs2]) (by rw[hs2];rfl)
theorem Qo(K:Frag){apos:Pos}(ho:PE X o to)(hbase:attributeBase o "values" X.env (eval o X.env)=eval o X.env:=by rfl) (hline:(apos.endLine==pos.line)=true:=by rfl) (hK:X.K=K:=by rfl):
  PE X (.Call (.Attribute o "values" apos) [] [] pos) (Eg K "dict" IF to):=by
 subst hK;exact Mj PySem.F.plainAttrs_dict PySem.F.slot_dict_values PySem.F.type_dict_values Up ho hbase hline
end
abbrev Cel:=Int×List Int×Addr
def gs(cs:List Cel):List (Int×List Int):=cs.map fun c=>(c.1,c.2.1)
section
variable {K:Frag} {H:Hp}
theorem Dps.len:∀{vs:List V} {ds:List PyData},Dps K H vs ds->vs.length=ds.length
 |_,_,.nil=>rfl
 |_,_,.cons _ hs=>congrArg (·+1) (Dps.len hs)
theorem Dps.get:∀{vs:List V} {ds:List PyData} {i:Nat} {v:V},Dps K H vs ds->vs[i]?=some v->∃d,ds[i]?=some d/\Dp K H v d
 |_,_,_,_,.nil,h=>by simp at h
 |_,_,0,_,.cons (d:=d) h hs,e=>by
  have:_=_:=XD e;subst this;exact⟨d,rfl,h⟩
 |_,_,i+1,_,.cons h hs,e=>Dps.get (i:=i) hs e
end
def IsMax(M:Int)(l:List Int):Prop:=M∈l/\∀a∈l,a<=M
def IsMax.step{M x:Int}{l:List Int}(h:IsMax M l):IsMax (if x>M then x else M) (l++[x]):=by
 obtain⟨h1,h2⟩:=h;refine(⟨?_,fun a ha=>?_⟩)
 ·split
  ·simp
  ·exact List.mem_append_left _ h1
 ·rcases XN.mp ha with z|z
  ·have:=h2 a z;split<;>omega
  ·have:a=x:=by simpa using z
   subst this;split<;>omega
def Ib(ns:List Int)(j:Nat):Option Value->Prop
 |none=>j=0
 |some v=>∃M t,v=.int M t/\IsMax M (ns.take j)
def Gi:Option Value->Array Value
 |none=>#[]
 |some v=>#[v,v]
theorem LO:∀{vs:List Value} {ns:List Int} {j:Nat} {v:Value},IntsAre vs ns->vs[j]?=some v->∃t,v=.int (ns.getD j 0) t
 |_,_,_,_,.nil,h=>by simp at h
 |_,_,0,_,.cons n t _,h=>⟨t,(XD h).symm⟩
 |_,_,j+1,_,.cons n t r,h=>by
  obtain⟨t',e⟩:=LO (j:=j) r h;exact(⟨t',by simpa using e⟩)
def QK(a d:Value):argsOk "max" ⟨[a],[("default",d)]⟩:=by unfold argsOk;kernel_rfl
section
variable {prog:Program} {w:World} {A:Around} {R:Result->Shared->Prop} {I l:Addr} {items:Array Value} {ns:List Int} {d:Value}
theorem Oa(hh:A.in1.handled=none)(hne:l≠I)(hi:IntsAre items.toList ns)(S:Addr)(hSI:S≠I)(hSl:S≠l):
  ∀(k j:Nat) (s:Shared) (b:Option Value) (c:Nat),items.size - j=k->j<=items.size->s.heap.IsListIter I l j->s.heap.IsList l items->Ib ns j b->
   s.heap.get? S=some {cls:=.type "list",dict:=none,data:=.seq (Gi b) c,slots:=#[]}->
   (∀v h' tk,((ns=[]/\v=d)\/∃M t,v=.int M t/\IsMax M ns)->(∀x o,x≠I->x≠S->s.heap.get? x=some o->h'.get? x=some o)->R (.ok (.ret v)) {s with heap:=h',toks:=tk})->
   codeAny (model prog w) A (.builtin "max.loop" ⟨[.ref I,.none,.ref S],[("default",d)]⟩) R s:=by
 have hnm:(toString "max"++toString ".loop":String)="max.loop":=by decide
 have hlen:ns.length=items.size:=by have:=hi.length;rw[Yx] at this;omega
 have W:=Walks.list (prog:=prog) (w:=w) hh I l hne items;intro k;induction k with
 |zero=>
  intro j s b c hk hj st1 st2 hb hS hR;have ej:j=items.size:=by omega
  subst ej;refine YE (F.entry_max_loop) (by
   rw[Yj YJ];show wpAny _ A.in1 (seqItems? (.ref S) >>= fun _=>_) _ _ s;refine Xf (wpAny_seqItems hS rfl (?_:wpAny _ A.in1 (tryCatch (pyNext (.ref I)) (fun _=>_) >>= fun _=>_) _ _ s));refine Xf (wpAny_tryCatch (W.done s _ _ ⟨st1,st2⟩ fun h' tk keep=>?_));have kS:=keep S _ (by simpa using hSI) hS;cases b with
   |none=>
    have hb0:items.size=0:=hb;have hn:ns=[]:=Yk.mp (by omega);show wpAny _ A.in1 (rule _ >>= fun _=>ret d) _ _ _;exact Xf (wpAny_rule (Xj (hR d h' tk (.inl ⟨hn,rfl⟩) fun x o n1 _ e=>keep x o (by simpa using n1) e)))
   |some v=>
    obtain⟨M,t,rfl,hM⟩:=hb;have htk:ns.take items.size=ns:=List.take_of_length_le (by omega);rw[htk] at hM;show wpAny _ A.in1 (updateSeq S (fun _=>#[]) >>= fun _=>_) _ _ _;refine Xf (wpAny_updateSeq (hz:=by show 2<=sizeLine;decide) kS rfl (Xf (wpAny_letGo (Xj (hR _ _ tk (.inr ⟨M,t,rfl,hM⟩) fun x o n1 n2 e=>?_)))));exact(Ym _ _ (Ne.symm n2)).trans (keep x o (by simpa using n1) e))
 |succ k ih=>
  intro j s b c hk hj st1 st2 hb hS hR;have hlt:j<items.size:=by omega
  refine YE (F.entry_max_loop) (by
   rw[Yj YJ];show wpAny _ A.in1 (seqItems? (.ref S) >>= fun _=>_) _ _ s;refine Xf (wpAny_seqItems hS rfl (?_:wpAny _ A.in1 (tryCatch (pyNext (.ref I)) (fun _=>_) >>= fun _=>_) _ _ s));refine Xf (wpAny_tryCatch (W.item j s _ _ hlt ⟨st1,st2⟩ fun v h' tk hv st' keep=>?_));have kS:=keep S _ (by simpa using hSI) hS;have hx:∃t,v=.int (ns.getD j 0) t:=by
    exact LO hi (by rw[Array.getElem?_toList];exact hv)
   obtain⟨t,rfl⟩:=hx;have htk:ns.take (j+1)=ns.take j++[ns.getD j 0]:=by
    rw[List.take_add_one,Xk,Xm (by omega)];rfl
   have goOn:∀(b':Option Value) (h2:Heap) (c':Nat),Ib ns (j+1) b'->h2.get? S=some {cls:=.type "list",dict:=none,data:=.seq (Gi b') c',slots:=#[]}->
     (∀x o,x≠S->h'.get? x=some o->h2.get? x=some o)->codeAny (model prog w) A (.builtin "max.loop" ⟨[.ref I,.none,.ref S],[("default",d)]⟩) R {s with heap:=h2,toks:=tk}:=fun b' h2 c' hb' hS' k2=>by
    refine ih (j+1) _ b' c' (by omega) hlt (st'.1.at fun o e=>k2 I o (Ne.symm hSI) e) (st'.2.at fun o e=>k2 l o (Ne.symm hSl) e) hb' hS' fun v' h3 tk3 hv' k3=>hR v' h3 tk3 hv' fun x o n1 n2 e=>?_;exact k3 x o n1 n2 (k2 x o n2 (keep x o (by simpa using n1) e))
   cases b with
   |none=>
    have hb0:j=0:=hb;subst hb0;show wpAny _ A.in1 (updateSeq S (fun _=>#[Value.int (ns.getD 0 0) t,Value.int (ns.getD 0 0) t]) >>= fun _=>_) _ _ _;refine Xf (wpAny_updateSeq kS rfl ?_);rw[hnm];refine Xj ⟨YI YJ _,goOn (some (.int (ns.getD 0 0) t)) _ _ ⟨_,t,rfl,?_⟩ (Heap.get?_update_self _ kS rfl) fun x o n e=>(Ym _ _ (Ne.symm n)).trans e⟩;rw[htk];exact⟨by simp,fun a ha=>by
     have:a=ns.getD 0 0:=by simpa using ha
     omega⟩
   |some vb=>
    obtain⟨M,tb,rfl,hM⟩:=hb;show wpAny _ A.in1 (tryCatch (holding [Value.int (ns.getD j 0) t,Value.int (ns.getD j 0) t] (richCompare .Gt (.int (ns.getD j 0) t) (.int M tb) >>= fun _=>_)) (fun _=>_) >>= fun _=>_) _ _ _;refine Xf (wpAny_tryCatch (Yr (Xf ?_)));refine richCompare_gives (op:=.Gt) (typeIs_int _ _ t) (typeIs_int _ _ tb) F.slot_int_gt F.entry_int_gt (F.args_int_gt_2 _ _) (gives_int_gt _ _ t tb) (fun x=>nomatch x) ?_;refine Xf (Yr (X2 (Xf (wpAny_letGo (Xj ?_)))));have hst:=hM.step (x:=ns.getD j 0);rw[←htk] at hst;by_cases hgt:ns.getD j 0>M
    ·rw[if_pos hgt] at hst;rw[if_pos (Xx hgt)];refine Xf (wpAny_updateSeq (hz:=by show 2<=sizeLine;decide) kS rfl (Xf (wpAny_letGo ?_)));rw[hnm];exact Xj ⟨YI YJ _,goOn (some (.int (ns.getD j 0) t)) _ _ ⟨_,t,rfl,hst⟩ (Heap.get?_update_self _ kS rfl) fun x o n e=>(Ym _ _ (Ne.symm n)).trans e⟩
    ·rw[if_neg hgt] at hst;rw[if_neg (by simpa using hgt)];refine Xf (wpAny_letGo ?_);rw[hnm];exact Xj ⟨YI YJ _,goOn (some (.int M tb)) _ _ ⟨_,tb,rfl,hst⟩ kS fun x o _ e=>e⟩)
theorem SK{E:OK}{s:Shared}{Q:OK}{vs:List Value}(hh:A.handled=none)(hl:s.heap.IsList l vs.toArray)(hi:IntsAre vs ns)
  (h:∀v h' tk,((ns=[]/\v=d)\/∃M t,v=.int M t/\IsMax M ns)->(∀b o,s.heap.get? b=some o->h'.get? b=some o)->Q v {s with heap:=h',toks:=tk}):
  wpAny (model prog w) A (call (.builtin "max") [.ref l] [("default",d)]) Q E s:=by
 have hnm:(toString "max"++toString ".loop":String)="max.loop":=by decide
 obtain⟨ol,el,_⟩:=id hl;have llt:l<s.heap.objs.size:=Xo el;have body:wpAny (model prog w) A.in1 (Builtin.«max» ⟨[.ref l],[("default",d)]⟩) (fun fin s'=>match fin with
   | .done f=>(match(Except.ok f:Result) with| .ok (.ret v)=>Q v s'| .ok _=>False| .error e=>E e s')
   | .again c'=>c'.quiet=true/\codeAny (model prog w) A c' (fun r s'=>match r with| .ok (.ret v)=>Q v s'| .ok _=>False| .error e=>E e s') s') E s:=by
  show wpAny _ A.in1 (Builtin.Builtins.bindParams "max" ["key","default"] 0 ⟨[],[("default",d)]⟩ >>= fun _=>_) _ _ s;refine Xf (wpAny_of_eq (show Builtin.Builtins.bindParams "max" ["key","default"] 0 ⟨[],[("default",d)]⟩=pure [none,some d] from by with_unfolding_all rfl) (Xf (Xj ?_)));refine Xf (wpAny_pyIter_list hl ?_);refine Xf (Yb ?_);rw[hnm];refine Xj ⟨YI YJ _,?_⟩;have e1:(s.heap.push {cls:=.type "list_iterator",data:=.fields #[.ref l,.int 0 0]}).objs.size=s.heap.objs.size+1:=Yd ..;refine Oa (I:=s.heap.objs.size) (l:=l) (items:=vs.toArray) (ns:=ns) (d:=d) hh (Xz llt) (by simpa using hi) _ (by rw[e1];exact Nat.ne_of_gt (Nat.lt_succ_self _)) (by rw[e1];exact Nat.ne_of_gt (YN llt)) _ 0 _ none 0 rfl (Ye _)
   ⟨_,Xg _ (Xp _ rfl),rfl,rfl⟩ ((hl.push _).push _) rfl (Xp _ rfl) fun v h' tk hv kp=>?_
  refine h v h' tk hv fun b o e=>kp b o (Xz (Xo e)) (by rw[e1];exact Xz (YN (Xo e))) (Xg _ (Xg _ e))
 refine wpAny_call (codeAny_call_builtin F.plain_max F.entry_max ?_);simp only[checkBuiltinCall,F.kind_max];have ha:=QK (.ref l) d;cases hsig:Manifest.signature? "max" with
 |none=>exact Xj body
 |some sig=>
  simp only[argsOk,hsig] at ha;have h2:Bind.checkArgs "max" sig ⟨[.ref l],[("default",d)]⟩=pure ():=ha;show wpAny _ A.in1 (Bind.checkArgs "max" sig ⟨[.ref l],[("default",d)]⟩) _ _ s;rw[h2];exact Xj body
end
section
variable {X:Cx} {a b:Expr} {ta tb:TE} {p pos kp:Pos}
theorem PV(K:Frag)(mm:X.mg "max"=none) (ha:PE X a ta) (hb:PE X b tb) (hc:X.calm=true:=by rfl) (hg:Gl X "max":=by rfl) (hs:starEach [a] X.env=[(false,eval a X.env)]:=by rfl) (hK:X.K=K:=by rfl)
  (hall:(backToKw pos (keywordEach [⟨some "default",b,kp⟩] X.env)).all (·.1.isSome)=true:=by rfl) (hks:(backToKw pos (keywordEach [⟨some "default",b,kp⟩] X.env)).filterMap (·.1)=([Str.ofString "default"]:List Str):=by rfl)
  (hno:(backToKw pos (keywordEach [⟨some "default",b,kp⟩] X.env)).any (·.1.isNone)=false:=by rfl):
  PE X (.Call (.Name "max" p) [a] [⟨some "default",b,kp⟩] pos) (fun J H Q=>ta J H fun x H1=>tb J H1 fun y H2=>∃(q:Addr) (ns:List Int) (j:Int),x=.ref q/\y=.int j/\SqL K H2 q (ns.map V.int)/\(ns=[]->Q (.int j) H2)/\∀M,IsMax M ns->Q (.int M) H2):=by
 subst hK;intro pins s J H Q I h;have hb1:backTo pos (starEach [a] X.env)=[(false,eval a X.env)]:=by rw[hs];rfl
 refine Yz (wq I hg mm (u:=.builtin "max") rfl (callWith_builtin_kwB (by rw[hb1];rfl) hno ?_));rw[hb1];refine evalArgs_kwB hall (Calls.spliced_cons (thn (ha pins s J H _ I h) fun u s1 ⟨x,H1,I1,r1,q1⟩=>Calls.spliced_nil ?_));refine kws_cons (thn (hb pins s1 J H1 _ I1 q1) fun u2 s2 ⟨y,H2,I2,r2,q2⟩=>kws_nil ?_);obtain⟨q,ns,j,rfl,rfl,hq,hz,hm⟩:=q2;cases r1;obtain⟨t,rfl⟩:=r2;obtain⟨its,rv,pl,_⟩:=I2.list hq;rw[hks];refine SK (d:=.int j t) (I2.ok.hd hc) pl.isList (Od rv) fun v h' tk hv kp'=>?_;rcases hv with⟨e,rfl⟩|⟨M,t',rfl,hM⟩
 ·exact⟨.int j,H2,I2.kept kp',⟨_,rfl⟩,hz e⟩
 ·exact⟨.int M,H2,I2.kept kp',⟨_,rfl⟩,hm M hM⟩
end
section
variable {X:Cx} {a b:Expr} {ta tb:TE} {p pos:Pos}
theorem Rq:uO X (.type "int") (fun xs H Q=>∃k,xs=[V.bl k]/\Q (.int (if k then 1 else 0)) H):=fun pins s J H xs us Q I r h=>Xe pins s J H xs us Q I r (.inr h)
theorem Wy(ml:X.mg "int"=none) (ha:PE X a ta) (hg:Gl X "int":=by rfl) (hs:starEach [a] X.env=[(false,eval a X.env)]:=by rfl):
  PE X (.Call (.Name "int" p) [a] [] pos) (fun J H Q=>ta J H fun x H1=>∃k,[x]=[V.bl k]/\Q (.int (if k then 1 else 0)) H1):=
 AJ Rq hg ml rfl (sq ha sV hs) (he:=hs)
theorem iR2(mr:X.mg "range"=none) {tg:Expr} (ha:PE X a ta) (hb:PE X b tb) (hg:Gl X "range":=by rfl) (hs:starEach [a,b] X.env=[(false,eval a X.env),(false,eval b X.env)]:=by rfl) (hs2:starEach [b] X.env=[(false,eval b X.env)]:=by rfl):
  PI X tg (.Call (.Name "range" p) [a,b] [] pos) (Le (t5 ta (t5 tb u5))):=WD hg mr (sq ha (sq hb sV hs2) (by rw[hs,hs2])) hs hs2
theorem eIn(K:Frag)(ha:PE X a ta)(hb:PE X b tb)(hm:behindInMarks .In b=false:=by rfl)(hK:X.K=K:=by rfl):PE X (.Compare a [.In] [b] pos) (tOp (rIn K false) ta tb):=by
 subst hK;exact K7 SA ha hb hm
end
abbrev Ask:=Nat×Nat×Bool
section
variable {X:Cx}
theorem Ol:OpR X (binaryOp .FloorDiv) (rI (fun _ j=>0<j/\j<2^200) fun i j=>.int (i/j)):=opI fun i j _ _ _ _ _ hc q=>by
 obtain⟨h1,h2⟩:=hc;refine floordiv_int (by omega) (by rw[Int.fdiv_eq_ediv_of_nonneg i (by omega)];exact q) (.inl (PyProof.noPylong_of_log2 ?_));have h3:j.natAbs≠0:=by omega
 have h4:j.natAbs<2^200:=by
  have:((j.natAbs:Nat):Int)=j:=by omega
  have h5:((j.natAbs:Nat):Int)<((2^200:Nat):Int):=by rw[this];exact_mod_cast h2
  omega
 have:=(Nat.log2_lt h3).mpr h4;omega
end
inductive Tr where
 |none
 |one (i:Int)
 |ask (i j:Int) (a u:Tr)
theorem L1:∀{bs:List Bool} {us:List Value},Vals (bs.map V.bl) us->us=bs.map Value.bool
 | [],_,h=>by cases h;rfl
 |b::r,_,h=>by
  cases h with
  |cons h1 h2=>
   cases (show _=Value.bool b from h1);rw[L1 h2];rfl
section
variable {X:Cx} {a b o:Expr} {ta:TE} {p pos:Pos}
theorem Kc(K:Frag)(mm:X.mg "all"=none) (ha:PE X a ta) (hc:X.calm=true:=by rfl) (hg:Gl X "all":=by rfl) (hs:starEach [a] X.env=[(false,eval a X.env)]:=by rfl) (hK:X.K=K:=by rfl):
  PE X (.Call (.Name "all" p) [a] [] pos) (fun J H Q=>ta J H fun x H1=>∃(q:Addr) (bs:List Bool),[x]=[.ref q]/\SqL K H1 q (bs.map V.bl)/\Q (.bl (bs.all id)) H1):=by
 subst hK;have rule:uO X (.builtin "all") (fun xs H Q=>∃(q:Addr) (bs:List Bool),xs=[.ref q]/\SqL X.K H q (bs.map V.bl)/\Q (.bl (bs.all id)) H):=by
  intro pins s J H xs us Q I r h;obtain⟨q,bs,rfl,hq,k⟩:=h;obtain⟨u,rfl,ru⟩:=wc r;cases ru;obtain⟨its,rv,pl,hz⟩:=I.list hq;have ei:its=bs.map Value.bool:=L1 rv;subst ei;obtain⟨ol,el,_⟩:=id pl.isList;have qlt:q<s.heap.objs.size:=Xo el;refine(call_all_walk (wpAny_pyIter_list pl.isList ⟨_,_,_,_,_,_,fun i=>bs.getD i false,rfl,Walks.list (A:=X.A.in1) (I.ok.hd hc) _ q (Xz qlt) (bs.map Value.bool).toArray,⟨⟨_,Xp _ rfl,rfl,rfl⟩,pl.isList.push _⟩,?_,fun h' tk keep=>?_⟩))
  ·intro i v s' Q' E' hv hQ;have hv':(bs.map Value.bool)[i]?=some v:=by simpa using hv
   rw[XA] at hv';cases eb:bs[i]? with
   |none=>rw[eb] at hv';cases hv'
   |some b=>
    rw[eb] at hv';have:v=.bool b:=(XD hv').symm;subst this;have e2:bs.getD i false=b:=by rw[Xk,eb];rfl
    simp only[e2] at hQ;exact X2 hQ
  ·have ea:(List.range (bs.map Value.bool).toArray.size).all (fun i=>bs.getD i false)=bs.all id:=by
    rw[Yg,XJ,XJ];constructor
    ·intro hh b hb;obtain⟨i,hi⟩:=Yf hb;have:=hh i (by simp;exact(Xi.mp hi).1);rw[Xk,hi] at this;exact this
    ·intro hh i hi;have hi':i<bs.length:=by simpa using hi
     rw[Xk,Xm hi'];exact hh _ (X3 hi')
   rw[ea];have kp:∀b o,s.heap.get? b=some o->h'.get? b=some o:=fun b o e=>keep b o (fun hm=>absurd (XX.mp hm) (Xz (Xo e))) (Xg _ e);exact⟨.bl _,H,I.kept kp,rfl,k⟩
 exact BZ rule hg mm rfl (sq ha sV hs) (he:=hs)
def isInt(k:Int):Value->Bool
 | .int a _=>a==k
 |_=>false
end
def UI{k:Int}{ns:List Int}:inV (.int k) (ns.map V.int)=decide (k∈ns):=by
 unfold inV;rw[Yg,Yl];simp only[X4];constructor
 ·rintro⟨y,hy,e⟩;obtain⟨n,hn,rfl⟩:=Xw.mp hy;have:n=k:=by
   have e':eqV (.int n) (.int k)=true:=e;simpa[eqV] using e'
  rw[←this];exact hn
 ·intro h;exact⟨.int k,Xw.mpr ⟨k,h,rfl⟩,by simp[eqV]⟩
def TN(o:List Int)(k:Int):Nat:=if k∈o then o.idxOf k+1 else o.length
def U6(o:List Int)(fs:List Nat)(n:Nat)(k:Int)(m:Nat):List Ask:=(List.range m).map fun at_=>(fs.getD at_ 0,n,decide (o.getD at_ 0=k))
def ob(ks:List Int):Nat->List Int×List Nat×List Ask
 |0=>([],[],[])
 |n+1=>(if ks.getD n 0∈(ob ks n).1 then(ob ks n).1 else(ob ks n).1++[ks.getD n 0],
   if ks.getD n 0∈(ob ks n).1 then(ob ks n).2.1 else(ob ks n).2.1++[n],
   (ob ks n).2.2++U6 (ob ks n).1 (ob ks n).2.1 n (ks.getD n 0) (TN (ob ks n).1 (ks.getD n 0)))
section
variable {prog:Program} {w:World} {A:Around} {R:Result->Shared->Prop} {s:Shared}
theorem P5{kx vx target iter:Expr}{ifs:List Expr}{scope:Scope}{pos:Pos}{it:Value}{D:Addr}{env:Env}(I:Nat->Shared->Prop)
  (turn:∀n s,I n s->wpAny (model prog w) A (pyNext it) (fun r ZU=>match r with
   |none=>R (.ok .next) ZU
   |some v=>wpAny (model prog w) A (letOwnedTupleGo target it v) (fun _ ZA=>wpAny (model prog w) A (assign target env v) (fun _ ZK=>
     wpAny (model prog w) A (forIn ifs true fun c r=>if r=true then do let ok ←isTrue c env (eval c env);pure (ForInStep.yield ok) else pure (ForInStep.yield r)) (fun ok ZM=>
      if ok=true then wpAny (model prog w) A (eval kx env) (fun kv ZH=>wpAny (model prog w) A (eval vx env) (fun vv ZD=>
       wpAny (model prog w) A (dictSet D kv vv) (fun _ Zm=>∃m,m<n/\I m Zm) (fun _ _=>False) ZD) (fun _ _=>False) ZH) (fun _ _=>False) ZM
      else ∃m,m<n/\I m ZM) (fun _ _=>False) ZK) (fun _ _=>False) ZA) (fun _ _=>False) ZU) (fun _ _=>False) s)
  (n:Nat) (h:I n s):codeAny (model prog w) A (.compLoop (.DictComp kx vx [⟨target,iter,ifs,0⟩] scope pos) 0 it (.ref D) env) R s:=by
 refine codeAny_loop rfl I (fun n s hI=>?_) n h;show wpAny _ A ((compTurn (.DictComp kx vx [⟨target,iter,ifs,0⟩] scope pos) 0 it (.ref D) env).onRaise (fun x=>do noteFrame x env;theTreesLotGoes x)) _ _ s;refine wpAny_noted ?_;rw[compTurn_dict];refine Xl (E:=fun _ _=>False) ?_ (fun _ _ x=>x) fun _ _ x=>x.elim;refine Xf (Ys (Xf (Xl (turn n s hI) (fun r ZU ZR=>?_) fun _ _ h'=>h')));cases r with
 |none=>exact Xj ZR
 |some v=>
  refine Xf (Xl ZR (fun _ ZA Zu=>?_) fun _ _ h'=>h');refine Xf (Xl Zu (fun _ ZK ZB=>Xf (Xl ZB (fun ok ZM ZE=>?_) fun _ _ h'=>h')) fun _ _ h'=>h');cases ok with
  |false=>exact Xj ⟨rfl,ZE⟩
  |true=>
   exact Xf (Xf (Xl ZE (fun kv ZH Zt=>Xf (Yr (Xl Zt (fun vv ZD Zs=>Xf (Ys (Yr (Xl Zs (fun _ Zm Zk=>Xj ⟨rfl,Zk⟩) fun _ _ h'=>h')))) fun _ _ h'=>h'))) fun _ _ h'=>h'))
end
def Bm(Z7:It)(g:TG)(tc:TT)(tk tv:TE)(D:Addr)(ZN:St)(H0:Hp)(Z:Hp->Prop):Prop:=
 ∃W:Nat->Nat->St->Hp->Prop,(∃m,W 0 m ZN (upd H0 D (.dK [])))/\∀i m J H,W i m J H->
  (Z7.stop i H/\Z H)\/(Z7.go i H/\∃N:St->Hp->Prop,(∀Z0 H',N Z0 H'->∃m',m'<m/\W (i+1) m' Z0 H')/\∀x H',Z7.yld i H x H'->g x J H' fun ZX H2=>tc ZX H2 fun b H3=>
   if b=true then tk ZX H3 fun y H4=>tv ZX H4 fun v H5=>∃kvs k,H5 D=some (.dK kvs)/\kvs.length<sizeLine/\y=kV k/\N ZX (upd H5 D (.dK (rV kvs k v))) else N ZX H3)
section
variable {X:Cx} {pins:QS} {J:St} {N' own:List Str} {cap:List (Str×Nat)} {scope:Scope} {tg iter kx vx:Expr} {ifs:List Expr} {pos:Pos} {g:TG} {tc:TT} {tk tv:TE} {wi:TI}
theorem Ta{Y:Cx}{s:Shared}{ZN:St}{H2:Hp}{it D:Addr}{fp:List Addr}{tn:Nat->Heap->Prop}{Z7:It}{Z:Hp->Prop}{R:Result->Shared->Prop}
  (hx:∀e s,Y.xe e s->False) (hc:Y.calm=true) (hg:PG Y tg g) (ht:PIf Y ifs tc) (hk0:PE Y kx tk) (hv0:PE Y vx tv)
  (T:Turn Y.prog Y.w Y.K tg Z7 fp it tn) (J0:Inv Y [] ZN (upd H2 D (.dK [])) s) (st3:tn 0 s.heap) (f3:∀b∈fp,upd H2 D (.dK []) b=none)
  (stat:∀{H':Hp},(∀b∈fp,H' b=none)->∀b∈fp,rP Y [] H' b) (h:Bm Z7 g tc tk tv D ZN H2 Z)
  (hR:∀ZP H4 s5,Inv Y [] ZP H4 s5->Z H4->R (.ok .next) s5):
  codeAny (model Y.prog Y.w) Y.A (.compLoop (.DictComp kx vx [⟨tg,iter,ifs,0⟩] scope pos) 0 (.ref it) (.ref D) Y.env) R s:=by
 obtain⟨W,⟨m0,w0⟩,turn⟩:=h;have noX:∀{α:Type} {t:Sem α} {Q:α->Shared->Prop} {s:Shared},wpAny (model Y.prog Y.w) Y.A t Q Y.xe s->wpAny (model Y.prog Y.w) Y.A t Q (fun _ _=>False) s:=fun q=>Xl q (fun _ _ z=>z) fun e s z=>hx e s z;obtain⟨P,hP⟩:∃P:Nat->Shared->Prop,∀n s',P n s'↔∃i Z0 H',Inv Y [] Z0 H' s'/\tn i s'.heap/\(∀b∈fp,H' b=none)/\W i n Z0 H':=⟨_,fun _ _=>Iff.rfl⟩
 refine P5 P ?_ m0 ((hP _ _).2 ⟨0,_,_,J0,st3,f3,w0⟩);rintro n s4 h4;obtain⟨i,ZP,H4,I4,st4,fr4,w4⟩:=(hP _ _).1 h4;rcases turn i n ZP H4 w4 with⟨stop,qz⟩|⟨go,N,hN,step⟩
 ·refine Xl (T.done Y rfl rfl rfl hc i [] s4 ZP H4 (fun _ _=>False) I4 (stat fr4) st4 stop) (fun r s5 ⟨hr,I5⟩=>?_) fun _ _ z=>z;subst hr;exact hR ZP H4 s5 I5 qz
 ·refine Xl (T.item Y rfl rfl rfl hc i [] s4 ZP H4 (fun _ _=>False) I4 (stat fr4) st4 go) (fun r s5 ⟨u,hr,h5⟩=>?_) fun _ _ z=>z;subst hr;refine Xl h5 (fun _ s6 hm=>?_) fun _ _ z=>z;obtain⟨x,H6,I6,r6,y6,st6,fr6⟩:=hm;have I6':=I6.pinned (stat fr6) (T.obj _ _ st6);have again:∀{ZT:St} {H7:Hp} {s7:Shared},Inv Y ([]++v8 fp s6.heap) ZT H7 s7->N ZT H7->∃m,m<n/\P m s7:=fun{ZT H7 s7} I7 n7=>by
   obtain⟨m',hm,w7⟩:=hN ZT H7 n7;refine(⟨m',hm,(hP _ _).2 ⟨i+1,ZT,H7,I7.unpinned,T.keep _ _ _ st6 fun b hb o e=>(I7.pin (b,o) (Xs _ (Xs _ (vn hb e)))).1,fun b hb=>?_,w7⟩⟩);obtain⟨o,e,d⟩:=T.obj _ _ st6 b hb;exact((I7.pin (b,o) (Xs _ (Xs _ (vn hb e)))).2.1)
  refine noX (thn (hg _ s6 ZP H6 x u _ I6' r6 (step x H6 y6)) fun _ s7 hm=>?_);obtain⟨ZT,H7,I7,q7⟩:=hm;refine(noX (thn (ht _ s7 ZT H7 _ I7 q7) fun b s8 hm=>?_));obtain⟨H8,I8,q8⟩:=hm;cases b with
  |false=>
   show ∃m,_;exact again I8 q8
  |true=>
   show wpAny _ _ _ _ _ _;refine noX (thn (hk0 _ s8 ZT H8 _ I8 q8) fun kv s9 hm=>?_);obtain⟨vk,H9,I9,r9,q9⟩:=hm;refine(noX (thn (hv0 _ s9 ZT H9 _ I9 q9) fun vv s10 hm=>?_));obtain⟨v,H10,I10,r10,kvs,k,e10,hz,ek,q10⟩:=hm;subst ek;obtain⟨z,hd,vs,rel,dd⟩:=xj I10.hok e10;have hz':vs.length<=sizeLine:=by rw[←rel.length];exact z
   have hl:(rV kvs k v).length<=sizeLine:=by have:=A3 kvs k v;omega
   refine(wpAny_dictSet_pairs (hsz:=hz') (zW r9) dd fun h' dd' hs'=>?_);have heo:∃q,h'.get? D=some q:=let ⟨q,_,_,hq,_⟩:=dd';⟨q,hq⟩
   exact again (At (t':=s10.toks+1) I10 (by rw[e10];exact True.intro) hs' heo (Du hl hd (rel.put k r10) dd')) q10
theorem Nw{s2:Shared}{H2:Hp}{it:Addr}{fp:List Addr}{tn:Nat->Heap->Prop}{Z7:It}{cl:List (Str×Addr)}{Z:Addr->Hp->Prop}{RR:Value->Addr->Result->Shared->Prop}{E:OK}
  (hx:∀e s,X.xe e s->False) (hc:X.calm=true) (S:CompScope X N' own cap scope)
  (hg:∀cl C Z3 Z1 ex,PG (qM X N' scope cl C Z3 Z1 ex) tg g) (ht:∀cl C Z3 Z1 ex,PIf (qM X N' scope cl C Z3 Z1 ex) ifs tc) (hk0:∀cl C Z3 Z1 ex,PE (qM X N' scope cl C Z3 Z1 ex) kx tk) (hv0:∀cl C Z3 Z1 ex,PE (qM X N' scope cl C Z3 Z1 ex) vx tv)
  (I2:Inv X pins J H2 s2) (T:Turn X.prog X.w X.K tg Z7 fp it tn) (st2:tn 0 s2.heap) (f2:∀b∈fp,rP X pins H2 b)
  (c1:∀y c,cl.lookup y=some c->X.env.cells.lookup y=some c) (c2:∀y,(y,NameKind.free)∈scope.names->∃c,cl.lookup y=some c)
  (h:∀D,H2 D=none->Bm Z7 g tc tk tv D (sI own cap J) H2 (Z D))
  (hRR:∀D C s' m' H',Inv X pins J H' s'->s'.heap.Ns C m'->rP X pins H' C->Z D H'->RR (.ref D) C (.ok .next) s'):
  wpAny (model X.prog X.w) X.A (newDict) (fun acc ZM=>wpAny (model X.prog X.w) X.A (newFunctionEnv scope X.env.globals cl [] X.env.qual none .none (some X.env)) (fun cenv ZH=>
   codeAny (model X.prog X.w) X.A (.compStart (.DictComp kx vx [⟨tg,iter,ifs,0⟩] scope pos) 0 (.ref it) acc {cenv with scope:=relabel scope X.env}) (RR acc cenv.locals) ZH) E ZM) E s2:=by
 have hlt:∀b∈fp,b<s2.heap.objs.size:=fun b hb=>by
  obtain⟨o,e,_⟩:=T.obj _ _ st2 b hb;exact(Xo e)
 have hD:H2 s2.heap.objs.size=none:=I2.hok.fresh (Xh _);have hsys:(s2.heap.objs.size==sysModules)=false:=by
  have:=I2.big;rw[beq_eq_false_iff_ne];exact Nat.ne_of_gt this
 refine Yb (E1 (fun ZR Zz Zy Zx=>?_));dsimp only at Zz Zy Zx⊢;have I3:Inv X pins J (upd H2 s2.heap.objs.size (.dK [])) {s2 with heap:=s2.heap.push {cls:=.type "dict",dict:=none,data:=.dict #[]},toks:=s2.toks}:=
  I2.laid (fun b o e=>Xg _ e) (Xh _) ⟨Ye _,hsys,[],.nil,Heap.DictOf.new s2.heap⟩
 generalize hs3:({s2 with heap:=s2.heap.push {cls:=.type "dict",dict:=none,data:=.dict #[]},toks:=s2.toks}:Shared)=s3 at I3;have e3:s2.heap.push {cls:=.type "dict",dict:=none,data:=.dict #[]}=s3.heap:=by rw[←hs3]
 have hsz:s3.heap.objs.size=s2.heap.objs.size+1:=by rw[←e3,Yd]
 rw[e3] at Zz Zy Zx⊢;have hk:=Zy;have hcl:∀y c,cl.lookup y=some c->¬s3.heap.objs.size<c:=fun y c e z=>by
  obtain⟨v,o,ho,_⟩:=I3.cell y c (c1 y c e);exact(X7 _ (Nat.lt_trans z (Xo ho)))
 have CA:CellsAre X scope s3.heap.objs.size cl (cellsFrom (s3.heap.objs.size+1) scope.names cl):=FH (h:=s3.heap.push {cls:=.type "dict",data:=.dict #[]}) (by rw[Yd]) S hcl;have hcell:∀y c,(cellsFrom (s3.heap.objs.size+1) scope.names cl).lookup y=some c->s3.heap.objs.size<c->ZR.IsCell c none:=fun y c e z=>by
  rw[ve,wo] at e;cases q:(cellsFrom (s3.heap.objs.size+1) scope.names []).lookup y with
  |none=>rw[q] at e;exact absurd z (hcl y c e)
  |some c'=>
   rw[q] at e;have:c'=c:=XD e;subst this;exact Zx y c' (XU q)
 generalize hcs:cellsFrom (s3.heap.objs.size+1) scope.names cl=cs at CA hcell⊢;have f3:∀b∈fp,rP X pins (upd H2 s2.heap.objs.size (.dK [])) b:=fun b hb=>⟨by rw[qW (Xz (hlt b hb))];exact(f2 b hb).1,(f2 b hb).2⟩
 have hlt3:∀b∈fp,b<s3.heap.objs.size:=fun b hb=>by rw[hsz];exact YN (hlt b hb)
 have st3:tn 0 ZR:=T.keep _ _ _ st2 fun b hb o e=>hk b o (by rw[←e3];exact Xg _ e);have J0:Inv (qM X N' scope cs s3.heap.objs.size s3 (upd H2 s2.heap.objs.size (.dK [])) fp) [] (sI own cap J) (upd H2 s2.heap.objs.size (.dK [])) {s3 with heap:=ZR,toks:=s2.toks}:=
  comp_inv I3 S CA hcell c1 c2 f3 hlt3 hk Zz
 have stat:∀{pl:QS} {H':Hp},pl=[]->(∀b∈fp,H' b=none)->∀b∈fp,rP (qM X N' scope cs s3.heap.objs.size s3 (upd H2 s2.heap.objs.size (.dK [])) fp) pl H' b:=fun{pl H'} hp hn b hb=>by
  subst hp;refine⟨hn b hb,Xz (hlt3 b hb),J0.ok.exfs b hb,.inl hb,fun x c e=>J0.ok.exf b hb |>.2 x c e,fun p hp=>absurd hp (by show p∉([]++[]:QS);simp)⟩
 have loop:codeAny (model X.prog X.w) X.A (.compLoop (.DictComp kx vx [⟨tg,iter,ifs,0⟩] scope pos) 0 (.ref it) (.ref s2.heap.objs.size) (compEnvC scope cs s3.heap.objs.size X.env)) (RR (.ref s2.heap.objs.size) s3.heap.objs.size)
   {s3 with heap:=ZR,toks:=s2.toks}:=Ta (Y:=qM X N' scope cs s3.heap.objs.size s3 (upd H2 s2.heap.objs.size (.dK [])) fp) hx hc (hg _ _ _ _ _) (ht _ _ _ _ _) (hk0 _ _ _ _ _) (hv0 _ _ _ _ _) T J0 st3 (fun b hb=>(f3 b hb).1) (stat rfl) (h _ hD) fun ZP H4 s5 I5 qz=>by
  have I6:Inv X pins J H4 s5:=I3.call' (ch:=fp) I5.os I5.base I5.hok I5.bare fun b hb=>⟨(f3 b hb).2.2.2.1,(f3 b hb).2.1,(f3 b hb).2.2.2.2.1,(f3 b hb).2.2.2.2.2⟩
  obtain⟨m',hn',_⟩:=I5.loc;exact(hRR _ _ s5 m' H4 I6 hn' (I3.fpOk (Xh _) I5.free) qz)
 have lp:codeAny (model X.prog X.w) X.A (.compStart (.DictComp kx vx [⟨tg,iter,ifs,0⟩] scope pos) 0 (.ref it) (.ref s2.heap.objs.size) (compEnvC scope cs s3.heap.objs.size X.env)) (RR (.ref s2.heap.objs.size) s3.heap.objs.size)
   {s3 with heap:=ZR,toks:=s2.toks}:=codeAny_compStart_dict loop (T.self _ 0 _ _ _ st3 loop)
 subst hs3;exact lp
theorem Uk(S:CompScope X N' own cap scope)(hi:PI X tg iter wi)
  (hg:∀cl C Z3 Z1 ex,PG (qM X N' scope cl C Z3 Z1 ex) tg g) (ht:∀cl C Z3 Z1 ex,PIf (qM X N' scope cl C Z3 Z1 ex) ifs tc) (hk:∀cl C Z3 Z1 ex,PE (qM X N' scope cl C Z3 Z1 ex) kx tk) (hv:∀cl C Z3 Z1 ex,PE (qM X N' scope cl C Z3 Z1 ex) vx tv)
  (hx:∀e s,X.xe e s->False:=by exact fun _ _ z=>z) (hc:X.calm=true:=by rfl) (hs:∀x,foldedSetIterable iter X.env x=pure x:=by intro _;rfl):
  PE X (.DictComp kx vx [⟨tg,iter,ifs,0⟩] scope pos) (fun J H Q=>wi J H fun Z7 H1=>∀D,H1 D=none->Bm Z7 g tc tk tv D (sI own cap J) H1 (Q (.ref D))):=by
 intro pins s J H Q I h;rw[arm_eval_DictComp];obtain⟨cl,hcl,c1,c2⟩:=zF (scope:=scope) (env:=X.env) fun y hy hk=>I.ok.has y.1 (S.free y hy hk);refine(Yu (use:=none) rfl hs hcl S.kind S.names (thn (hi pins s J H _ I h) fun v s1 h1=>thn h1 fun itv s2 h2=>?_));obtain⟨it,fp,tn,Z7,H2,e,I2,T,st2,f2,q⟩:=h2;subst e;refine(Nw (RR:=fun acc C=>compPost (model X.prog X.w) X.A X.xe none (EP X pins J Q) acc C) (Z:=fun D=>Q (.ref D)) hx hc S hg ht hk hv I2 T st2 f2 c1 c2 q ?_);intro D C s' m' H' I' hn' f' z;exact⟨m',hn',fun h'' hs''=>⟨.ref D,H',I'.letgo f' hs'',rfl,z⟩⟩
end
def viO(v d:Addr):HO:=.ext fun h=>h.IsItemsView v d
def L8:V->List V->Hp->VK->Prop:=fun x vs H Q=>∃(a:Addr) (kvs:List (Key×V)),x=.ref a/\vs=[]/\H a=some (.dK kvs)/\∀v,H v=none->Q (.ref v) (upd H v (viO v a))
section
variable {X:Cx} {o:Expr} {to:TE} {pos:Pos}
theorem WT:MtM X "dict.items" L8:=by
 intro pins s J H x vs v us Q I rx rv h;obtain⟨a,kvs,rfl,rfl,e,q⟩:=h;cases rx;have:=rv.zero;subst this;obtain⟨z,hd,ws,rel,dd⟩:=xj I.hok e;refine(call_meetsIn PySem.F.slot_dict_items dd.typeIs PySem.F.entry_dict_items (PySem.F.args_dict_items_1 _) (meets_dict_items (tI X.prog X.w) a hd) ⟨⟨ws,dd⟩,?_⟩);have hv:(s.heap.push {cls:=.type "dict_items",data:=.fields #[.ref a]}).IsItemsView s.heap.objs.size a:=⟨_,Xp _ rfl,rfl,rfl⟩
 refine⟨.ref s.heap.objs.size,_,I.laid (t':=s.toks) (o:=viO s.heap.objs.size a) (fun b o q=>Xg _ q) (Xh _) ?_,rfl,q _ (I.hok.fresh (Xh _))⟩;exact⟨hv,⟨_,Xp _ rfl⟩,fun h1 h2 p k=>let ⟨o,ho,r⟩:=p;⟨o,k o ho,r⟩⟩
theorem Vz(K:Frag){apos:Pos}(ho:PE X o to)(hbase:attributeBase o "items" X.env (eval o X.env)=eval o X.env:=by rfl) (hline:(apos.endLine==pos.line)=true:=by rfl) (hK:X.K=K:=by rfl):
  PE X (.Call (.Attribute o "items" apos) [] [] pos) (Eg K "dict" L8 to):=by
 subst hK;exact Mj PySem.F.plainAttrs_dict PySem.F.slot_dict_items PySem.F.type_dict_items WT ho hbase hline
end
def Itd(d:Addr)(o:Obj)(kvs:List (Key×V)):It:=
 ⟨fun i H=>H d=some (.frz o (.dK kvs))/\i<kvs.length,fun i H x H'=>∃p k v,x=.ref p/\H p=none/\H'=upd H p (.tup [kV k,v])/\kvs[i]?=some (k,v),fun i H=>H d=some (.frz o (.dK kvs))/\kvs.length<=i⟩
def y26{k:Key}{u:Value}(h:wN k u=true):RelV (kV k) u:=by
 rcases u8 h with⟨i,t,rfl,rfl⟩|⟨x,t,rfl,rfl⟩
 ·exact⟨t,rfl⟩
 ·exact⟨t,rfl⟩
def KV.get{kvs:List (Key×V)}{ws:List (Key×Value)}(rel:KV kvs ws):∀{i:Nat} {k:Key} {v:V},kvs[i]?=some (k,v)->∃u,ws[i]?=some (k,u)/\RelV v u:=by
 induction rel with
 |nil=>intro i k v h;simp at h
 | @cons a b l r hd tl ih=>
  intro i k v h;cases i with
  |zero=>
   have:a=(k,v):=by simpa using h
   subst this;obtain⟨b1,b2⟩:=b;obtain⟨h1,h2⟩:=hd;have:k=b1:=h1;subst this;exact⟨b2,rfl,h2⟩
  |succ i=>
   obtain⟨u,h1,h2⟩:=ih (i:=i) (k:=k) (v:=v) (by simpa using h);exact(⟨u,by simpa using h1,h2⟩)
theorem SM{P:Program}{w:World}{K:Frag}{elts:List Expr}{k:Nat}{pos:Pos}{h0:Heap}{kvs:List (Key×V)}{ws:List (Key×Value)}{ep:Nat}{o:Obj}(d it:Addr)(rel:KV kvs ws)(ho:h0.get? d=some o)(hat:h0.DictAt (tI P w) d ws ep):
  Turn P w K (.Tuple elts k pos) (Itd d o kvs) [it] it (fun i h=>∃ok ov,IsItemIter h it d i ws.length ep ok ov) where
 mem:=by simp
 obj:=fun i h st b hb=>by
  obtain⟨ok,ov,he⟩:=st;rw[XX.mp hb];exact⟨_,he,fun v z=>by cases z⟩
 keep:=fun i h h' st kk=>let ⟨ok,ov,he⟩:=st;⟨ok,ov,kk it (by simp) _ he⟩
 item:=by
  intro X hP hw hK hc i pins s J H E I hf st hg;subst hP hw hK;obtain⟨hH,hi⟩:=hg;obtain⟨hgo,_⟩:s.heap.get? d=some o/\_:=I.hok d _ hH;have hm:s.heap.DictAt (tI X.prog X.w) d ws ep:=hat.at' fun o' e=>by rw[ho] at e;cases e;exact hgo
  obtain⟨kk,v⟩:Key×V:=kvs[i];obtain⟨⟨k1,v1⟩,hx⟩:∃p,kvs[i]?=some p:=⟨kvs[i],by simp[hi]⟩
  obtain⟨u,hu,ru⟩:=rel.get hx;obtain⟨ok,ov,he⟩:=st;refine(wpAny_pyNext_items_item he hm hu fun key h1 hkey hout hT hsz hk=>?_);refine⟨_,rfl,wpAny_letOwnedTupleGo_items hout fun h2 he2 hs2=>?_⟩;have hlt:it<s.heap.objs.size:=Xo he
  replace hs2:Heap.SameBut it h1 h2:=hs2
  have hT2:h2.get? s.heap.objs.size=some {cls:=.type "tuple",data:=.seq #[key,u]}:=(hs2.2 _ (Nat.ne_of_gt hlt)).trans hT;have hn:H s.heap.objs.size=none:=I.hok.fresh (Xh _);have I2:Inv X pins J (upd H s.heap.objs.size (.tup [kV k1,v1])) {s with heap:=h2,toks:=s.toks}:=
   I.turnLay (ch:=[it]) hf (fun b o hb q=>(hs2.2 b (fun z=>hb (by simp[z]))).trans (hk b o (fun z=>hb (by simp[z])) q)) (Xh _)
    ⟨Jc,[key,u],.cons (y26 hkey) (.cons ru .nil),⟨_,hT2,rfl,_,rfl⟩⟩
  have f1:∀b∈[it],(upd H s.heap.objs.size (.tup [kV k1,v1])) b=none:=fun b hb=>by
   rw[XX.mp hb,qW (Xz hlt)];exact(hf it (by simp)).1
  exact⟨.ref s.heap.objs.size,_,I2,rfl,⟨_,k1,v1,rfl,hn,rfl,hx⟩,⟨key,u,he2⟩,f1⟩
 done:=by
  intro X hP hw hK hc i pins s J H E I hf st hg;subst hP hw hK;obtain⟨hH,hi⟩:=hg;obtain⟨hgo,_⟩:s.heap.get? d=some o/\_:=I.hok d _ hH;have hm:s.heap.DictAt (tI X.prog X.w) d ws ep:=hat.at' fun o' e=>by rw[ho] at e;cases e;exact hgo
  obtain⟨ok,ov,he⟩:=st;have hl:kvs.length=ws.length:=rel.length;refine wpAny_pyNext_items_end (I.ok.hd hc) he hm (by simp;omega) fun h' eb=>⟨rfl,I.turns (t':=s.toks) (ch:=[it]) hf fun b o hb q=>eb b o (fun z=>hb (by simp[z])) q⟩
 self:=fun _ _ _ _ _ st h=>by
  obtain⟨ok,ov,he⟩:=st;exact(PySem.W.kcp_self he h)
def R1(te:TE):TI:=fun J H R=>te J H fun x H1=>∃v d kvs,x=.ref v/\H1 v=some (viO v d)/\H1 d=some (.dK kvs)/\∀o,R (Itd d o kvs) (upd H1 d (.frz o (.dK kvs)))
def P0{X:Cx}{e:Expr}{te:TE}{elts:List Expr}{k:Nat}{tpos:Pos}(he:PE X e te):PI X (.Tuple elts k tpos) e (R1 te):=by
 intro pins s J H R I h;refine thn (he pins s J H _ I h) fun u s1 hm=>?_;obtain⟨x,H1,I1,r1,v,d,kvs,ex,hv,hd,q⟩:=hm;subst ex;cases r1;obtain⟨z,hsys,ws,rel,dd⟩:=xj I1.hok hd;obtain⟨hvv,_,_⟩:s1.heap.IsItemsView v d/\_/\_:=I1.hok v _ hv;obtain⟨ep,hat⟩:=dd.dictAt;obtain⟨o,ho⟩:∃o,s1.heap.get? d=some o:=let ⟨o,_,_,h,_⟩:=dd;⟨o,h⟩
 refine(wpAny_pyIter_items hvv hat ?_);have nd:d≠s1.heap.objs.size:=Xz (Xo ho);have I2:Inv X pins J (upd H1 d (.frz o (.dK kvs))) {s1 with heap:=s1.heap.push {cls:=.type "dict_itemiterator",data:=.fields #[.none,.bool false,.ref d,.int 0 0,.int ws.length 0,.int ep 0,.none,.none]},toks:=s1.toks}:=
  I1.write (x:=d) (e:=d) (by rw[hd];exact True.intro) (.inl rfl) (fun b q _ z=>Xg _ z) ⟨o,Xg _ ho⟩
   ⟨Xg _ ho,z,hsys,ws,rel,dd.at fun o' e=>Xg _ e⟩
 refine⟨_,[s1.heap.objs.size],_,_,_,rfl,I2,SM d _ rel ho hat,⟨.none,.none,Xp _ rfl⟩,fun b hb=>?_,q o⟩;rw[XX.mp hb];exact I1.fpOk (Xh _) (by rw[qW (Ne.symm nd)];exact I1.hok.fresh (Xh _))
abbrev An:=Nat×Nat×Bool
def nb(as:List An)(x:Nat):List Nat:=as.flatMap fun a=>if a.2.2=true then(if x=a.1 then [a.2.1] else [])++(if x=a.2.1 then [a.1] else []) else []
def mem_nb{as:List An}{x y:Nat}:y∈nb as x↔(x,y,true)∈as\/(y,x,true)∈as:=by
 unfold nb;rw[List.mem_flatMap];constructor
 ·rintro⟨⟨i,j,b⟩,ha,h⟩;cases b with
  |false=>simp at h
  |true=>
   simp only[if_true,XN] at h;rcases h with h|h
   ·split at h
    ·rename_i e;have:y=j:=by simpa using h
     subst this e;exact .inl ha
    ·simp at h
   ·split at h
    ·rename_i e;have:y=i:=by simpa using h
     subst this e;exact .inr ha
    ·simp at h
 ·rintro(h|h)
  ·exact⟨_,h,by simp⟩
  ·exact⟨_,h,by simp⟩
def T5{as:List An}{x y:Nat}(h:y∈nb as x):x∈nb as y:=mem_nb.mpr (mem_nb.mp h).symm
inductive Conn (as:List An):Nat->Nat->Prop where
 |refl (x:Nat):Conn as x x
 |step {x y z:Nat}:Conn as x y->z∈nb as y->Conn as x z
def Conn.trans{as:List An}{x y z:Nat}(h:Conn as x y)(g:Conn as y z):Conn as x z:=by
 induction g with
 |refl=>exact h
 |step _ e ih=>exact .step ih e
def Conn.one{as:List An}{x y:Nat}(h:y∈nb as x):Conn as x y:=.step (.refl x) h
def Conn.symm{as:List An}{x y:Nat}(h:Conn as x y):Conn as y x:=by
 induction h with
 |refl=>exact .refl _
 |step _ e ih=>exact(Conn.one (T5 e)).trans ih
def Conn.mono{as bs:List An}{x y:Nat}(h:Conn as x y)(hm:∀a∈as,a∈bs):Conn bs x y:=by
 induction h with
 |refl=>exact .refl _
 |step _ e ih=>exact .step ih (mem_nb.mpr ((mem_nb.mp e).imp (hm _) (hm _)))
def qX(hs:List (Nat×Nat))(x:Nat):Option Nat:=(hs.find? fun p=>decide (p.1=x)).map (·.2)
def qZ(hs:List (Nat×Nat))(x:Nat):List (Nat×Nat):=if(qX hs x).isSome=true then hs else hs++[(x,x)]
def sh(hs:List (Nat×Nat))(o n:Nat):List (Nat×Nat):=hs.map fun p=>(p.1,if p.2=o then n else p.2)
def ug(hs:List (Nat×Nat))(a:An):List (Nat×Nat):=
 let h2:=qZ (qZ hs a.1) a.2.1
 if a.2.2=true then sh h2 ((qX h2 a.2.1).getD 0) ((qX h2 a.1).getD 0) else h2
def rZ(as:List An):List (Nat×Nat):=as.foldl ug []
def xb(hs:List (Nat×Nat))(x y:Nat):qX (qZ hs x) y=if y=x then some ((qX hs x).getD x) else qX hs y:=by
 unfold qZ;by_cases h:(qX hs x).isSome=true
 ·rw[if_pos h];obtain⟨v,e⟩:=X8.mp h;by_cases z:y=x
  ·subst z;rw[if_pos rfl,e];rfl
  ·rw[if_neg z]
 ·rw[if_neg h];have e:qX hs x=none:=by simpa using h
  unfold qX at e⊢;rw[List.find?_append];by_cases z:y=x
  ·subst z;rw[if_pos rfl];have e':hs.find? (fun p=>decide (p.1=y))=none:=by simpa using e
   rw[e'];simp
  ·rw[if_neg z];have:List.find? (fun p:Nat×Nat=>decide (p.1=y)) [(x,x)]=none:=by simp[Ne.symm z]
   rw[this];simp
def yZ(hs:List (Nat×Nat))(o n x:Nat):qX (sh hs o n) x=(qX hs x).map fun r=>if r=o then n else r:=by
 unfold qX sh;induction hs with
 |nil=>rfl
 |cons p r ih=>
  rw[Xr,Xt,Xt];by_cases z:p.1=x
  ·simp[z]
  ·simp only[z,decide_false];exact ih
structure HOkN (as:List An) (V:Nat->Option Nat):Prop where
 named:∀a∈as,(V a.1).isSome=true/\(V a.2.1).isSome=true
 con:∀x r,V x=some r->Conn as x r
 eq:∀x y,(x,y,true)∈as->V x=V y
def Ma(as:List An)(a:An):rZ (as++[a])=ug (rZ as) a:=by unfold rZ;rw[List.foldl_append];rfl
def Dh(as:List An):HOkN as (qX (rZ as)):=by
 have key:∀(n:Nat) (as:List An),as.length=n->HOkN as (qX (rZ as)):=by
  intro n;induction n with
  |zero=>
   intro as e;have:as=[]:=Yk.mp e;subst this;exact⟨fun _ h=>by simp at h,fun x r h=>by simp[rZ,qX] at h,fun _ _ h=>by simp at h⟩
  |succ n ih=>
   intro as e;have hne:as≠[]:=by intro z;subst z;simp at e
   obtain⟨bs,a,rfl⟩:∃bs a,as=bs++[a]:=⟨as.dropLast,as.getLast hne,(List.dropLast_concat_getLast hne).symm⟩
   have ih:=ih bs (by simpa using e);obtain⟨i,j,b⟩:=a;rw[Ma];generalize rZ bs=hs at ih;have v2:∀y,qX (qZ (qZ hs i) j) y=if y=j then some ((qX (qZ hs i) j).getD j) else if y=i then some ((qX hs i).getD i) else qX hs y:=fun y=>by rw[xb (qZ hs i) j y,xb hs i y]
   have old:∀y,(qX hs y).isSome=true->qX (qZ (qZ hs i) j) y=qX hs y:=fun y hy=>by
    obtain⟨r,er⟩:=X8.mp hy;rw[v2 y];split
    ·rename_i z;subst z;rw[xb];split
     ·rename_i z;subst z;rw[er];rfl
     ·rw[er];rfl
    ·split
     ·rename_i z;subst z;rw[er];rfl
     ·rfl
   have mono:∀x y,Conn bs x y->Conn (bs++[(i,j,b)]) x y:=fun x y h=>h.mono fun a ha=>List.mem_append_left _ ha;have con2:∀x r,qX (qZ (qZ hs i) j) x=some r->Conn (bs++[(i,j,b)]) x r:=fun x r h=>by
    rw[v2 x] at h;split at h
    ·rename_i z;subst z;have h:=XD h;rw[xb] at h;split at h
     ·rename_i z;subst z;cases e:qX hs x with
      |none=>rw[e] at h;rw[←h];exact .refl _
      |some r'=>rw[e] at h;have:r'=r:=h;subst this;exact mono _ _ (ih.con _ _ e)
     ·cases e:qX hs x with
      |none=>rw[e] at h;have:x=r:=h;subst this;exact .refl _
      |some r'=>rw[e] at h;have:r'=r:=h;subst this;exact mono _ _ (ih.con _ _ e)
    ·split at h
     ·rename_i z;subst z;have h:=XD h;cases e:qX hs x with
      |none=>rw[e] at h;have:x=r:=h;subst this;exact .refl _
      |some r'=>rw[e] at h;have:r'=r:=h;subst this;exact mono _ _ (ih.con _ _ e)
     ·exact mono _ _ (ih.con _ _ h)
   have n1:∃r,qX (qZ (qZ hs i) j) i=some r:=by
    rw[v2 i];split
    ·exact⟨_,rfl⟩
    ·exact⟨_,if_pos rfl⟩
   have n2:∃r,qX (qZ (qZ hs i) j) j=some r:=⟨_,by rw[v2 j,if_pos rfl]⟩
   have named2:∀a∈bs++[(i,j,b)],(qX (qZ (qZ hs i) j) a.1).isSome=true/\(qX (qZ (qZ hs i) j) a.2.1).isSome=true:=fun a ha=>by
    rcases XN.mp ha with z|z
    ·obtain⟨h1,h2⟩:=ih.named a z;rw[old _ h1,old _ h2];exact⟨h1,h2⟩
    ·have:a=(i,j,b):=by simpa using z
     subst this;obtain⟨r1,e1⟩:=n1;obtain⟨r2,e2⟩:=n2;exact⟨by rw[e1];rfl,by rw[e2];rfl⟩
   have eq2:∀x y,(x,y,true)∈bs->qX (qZ (qZ hs i) j) x=qX (qZ (qZ hs i) j) y:=fun x y h=>by
    obtain⟨h1,h2⟩:=ih.named _ h;rw[old x h1,old y h2];exact ih.eq x y h
   show HOkN _ (qX (if b=true then sh (qZ (qZ hs i) j) ((qX (qZ (qZ hs i) j) j).getD 0) ((qX (qZ (qZ hs i) j) i).getD 0) else qZ (qZ hs i) j));clear v2 old;generalize qZ (qZ hs i) j=h2 at*;cases b with
   |false=>
    refine⟨named2,con2,fun x y h=>?_⟩;rcases XN.mp h with z|z
    ·exact eq2 x y z
    ·simp at z
   |true=>
    obtain⟨r1,e1⟩:=n1;obtain⟨r2,e2⟩:=n2;simp only[if_true,e1,e2,Option.getD_some];have cij:Conn (bs++[(i,j,true)]) i j:=Conn.one (mem_nb.mpr (.inl (by simp)));refine⟨fun a ha=>?_,fun x r h=>?_,fun x y h=>?_⟩
    ·rw[yZ,yZ,Option.isSome_map,Option.isSome_map];exact named2 a ha
    ·rw[yZ] at h;obtain⟨r0,e0,er⟩:=Option.map_eq_some_iff.mp h;have c0:=con2 x r0 e0;split at er
     ·rename_i z;subst z er;exact c0.trans ((con2 j _ e2).symm.trans (cij.symm.trans (con2 i _ e1)))
     ·subst er;exact c0
    ·rw[yZ,yZ];rcases XN.mp h with z|z
     ·rw[eq2 x y z]
     ·have:x=i/\y=j:=by simpa using z
      obtain⟨rfl,rfl⟩:=this;rw[e1,e2];simp only[Option.map_some,if_true];split
      ·rfl
      ·rfl
 exact key _ as rfl
def HOkN.conn{as:List An}{V:Nat->Option Nat}(h:HOkN as V){x y:Nat}(c:Conn as x y):V x=V y:=by
 induction c with
 |refl=>rfl
 |step _ e ih=>
  rw[ih];rcases mem_nb.mp e with z|z
  ·exact h.eq _ _ z
  ·exact(h.eq _ _ z).symm
def HOkN.iff{as:List An}{V:Nat->Option Nat}(h:HOkN as V){x y:Nat}(hx:(V x).isSome=true):V x=V y↔Conn as x y:=by
 refine⟨fun e=>?_,h.conn⟩;obtain⟨r,er⟩:=X8.mp hx;exact(h.con x r er).trans (h.con y r (by rw[←e];exact er)).symm
def tN(as:List An):Bool:=as.all fun a=>a.2.2||!decide (qX (rZ as) a.1=qX (rZ as) a.2.1)
structure Out (as:List An) (n t:Nat) (F:Nat->Option Nat):Prop where
 con:∀x r,F x=some r->Conn as x r/\r<t
 fin:∀x r y,F x=some r->y∈nb as x->F y=some r
 all:∀x,x<t->(F x).isSome=true
def left(as:List An)(F:Nat->Option Nat):Nat->Nat
 |0=>0
 |n+1=>left as F n+(if(F n).isSome=true then 0 else(nb as n).length)
section
variable {X:Cx} {a b o:Expr} {ta:TE} {p pos:Pos}
theorem TU(mr:X.mg "range"=none) (ha:PE X a ta) (hg:Gl X "range":=by rfl) (hs:starEach [a] X.env=[(false,eval a X.env)]:=by rfl):
  PE X (.Call (.Name "range" p) [a] [] pos) (fun J H Q=>ta J H fun x H1=>∃j:Int,x=.int j/\∀r,H1 r=none->Q (.ref r) (upd H1 r (.rng 0 j))):=by
 intro pins s J H Q I h;refine Call_ (wq I hg mr boot_range (Ya (thn (sq ha sV hs pos pins s J H (fun vs H1=>∃x,vs=[x]/\∃j:Int,x=.int j/\∀r,H1 r=none->Q (.ref r) (upd H1 r (.rng 0 j))) I ?_) fun us s1 ⟨vs,H1,I1,r1,q1⟩=>?_) hs rfl))
 ·have:∀x H1,(∃j:Int,x=V.int j/\∀r,H1 r=none->Q (.ref r) (upd H1 r (.rng 0 j)))=(∃x',[x]=[x']/\∃j:Int,x'=V.int j/\∀r,H1 r=none->Q (.ref r) (upd H1 r (.rng 0 j))):=by
   intro x H1;exact propext ⟨fun q=>⟨x,rfl,q⟩,fun⟨x',e,q⟩=>by cases e;exact q⟩
  unfold t5 u5;simp only[←this];exact h
 obtain⟨x,e,j,ex,q⟩:=q1;subst e ex;cases r1 with
 |cons r rr=>
  cases rr;obtain⟨t,rfl⟩:=r;refine(call_range_1 ?_);refine⟨.ref s1.heap.objs.size,_,I1.laid (o:=.rng 0 j) (fun b o e=>Xg _ e) (Xh _) ?_,rfl,q _ (I1.hok.fresh (Xh _))⟩;exact⟨_,_,_,Xp _ rfl⟩
end
def hNd(hs:List (Nat×Nat)):Prop:=(hs.map (·.1)).Nodup
def hVal_none{hs:List (Nat×Nat)}{x:Nat}:qX hs x=none↔x∉hs.map (·.1):=by
 unfold qX;rw[Option.map_eq_none_iff,Yq];simp only[X4,Xw,not_exists,not_and]
def BF{hs:List (Nat×Nat)}(h:hNd hs)(x:Nat):hNd (qZ hs x):=by
 unfold qZ;split
 ·exact h
 ·rename_i e;have e:qX hs x=none:=by simpa using e
  unfold hNd;rw[X6,YG];refine⟨h,by simp,fun y hy z hz=>?_⟩;have:z=x:=by simpa using hz
  subst this;exact fun q=>hVal_none.mp e (q▸hy)
def Ht(hs:List (Nat×Nat))(o n:Nat):(sh hs o n).map (·.1)=hs.map (·.1):=by simp[sh]
def P3{hs:List (Nat×Nat)}(h:hNd hs)(a:An):hNd (ug hs a):=by
 have h2:=BF (BF h a.1) a.2.1;unfold ug;dsimp only;split
 ·unfold hNd;rw[Ht];exact h2
 ·exact h2
def AR(hs:List (Nat×Nat))(x:Nat):(qZ hs x).length<=hs.length+1:=by
 unfold qZ;split<;>simp
def Te(hs:List (Nat×Nat))(a:An):(ug hs a).length<=hs.length+2:=by
 have h1:=AR hs a.1;have h2:=AR (qZ hs a.1) a.2.1;unfold ug;dsimp only;split
 ·unfold sh;rw[Xn];omega
 ·omega
def zl0(as:List An)(n:Nat)(a:An)(h:as[n]?=some a):rZ (as.take (n+1))=ug (rZ (as.take n)) a:=by
 rw[List.take_succ,h];exact Ma _ _
def OC(as:List An):hNd (rZ as):=by
 have:∀(as:List An) (hs:List (Nat×Nat)),hNd hs->hNd (as.foldl ug hs):=by
  intro as;induction as with
  |nil=>exact fun _ h=>h
  |cons a r ih=>exact fun hs h=>ih _ (P3 h a)
 exact this as [] (by simp[hNd])
def Ps(as:List An):(rZ as).length<=2*as.length:=by
 have:∀(as:List An) (hs:List (Nat×Nat)),(as.foldl ug hs).length<=hs.length+2*as.length:=by
  intro as;induction as with
  |nil=>exact fun _=>by simp
  |cons a r ih=>
   intro hs;have h1:=ih (ug hs a);have h2:=Te hs a;simp only[List.foldl_cons,XM];omega
 have:=this as [];simpa[rZ] using this
def zr7{ps:List Addr}(h:ps.Nodup){i j:Nat}{p:Addr}(a:ps[i]?=some p)(b:ps[j]?=some p):i=j:=by
 obtain⟨l1,g1⟩:=Xi.mp a;obtain⟨l2,g2⟩:=Xi.mp b;rcases Nat.lt_trichotomy i j with z|z|z
 ·exact absurd (g1.trans g2.symm) ((Yh.mp h) i j l1 l2 z)
 ·exact z
 ·exact absurd (g2.trans g1.symm) ((Yh.mp h) j i l2 l1 z)
theorem zit(elt tg iter tg2 iter2:Expr)(ifs ifs2:List Expr)(scope:Scope)(pos:Pos)(it acc:Value)(env:Env):
  compTurn (.ListComp elt [⟨tg,iter,ifs,0⟩,⟨tg2,iter2,ifs2,0⟩] scope pos) 0 it acc env=(do
   standAt iter.pos
   match ←pyNext it with
   |none=>pure (.done .next)
   |some v=>
    letOwnedTupleGo tg it v
    assign tg env v
    let mut ok:=true
    for c in ifs do
     if ok then ok ←isTrue c env (eval c env)
    if ok then
     let x ←eval iter2 env
     standAt iter2.pos
     let x ←foldedSetIterable iter2 env x
     let _ ←runOwn (.compStart (.ListComp elt [⟨tg,iter,ifs,0⟩,⟨tg2,iter2,ifs2,0⟩] scope pos) 1 (←holding [x] (pyIter x)) acc env) env
    again (.compLoop (.ListComp elt [⟨tg,iter,ifs,0⟩,⟨tg2,iter2,ifs2,0⟩] scope pos) 0 it acc env)):=by rfl
theorem Re(elt tg iter tg2 iter2:Expr)(ifs ifs2:List Expr)(scope:Scope)(pos:Pos)(it acc:Value)(env:Env):
  compTurn (.ListComp elt [⟨tg,iter,ifs,0⟩,⟨tg2,iter2,ifs2,0⟩] scope pos) 1 it acc env=(do
   standAt iter2.pos
   match ←pyNext it with
   |none=>pure (.done .next)
   |some v=>
    letOwnedTupleGo tg2 it v
    assign tg2 env v
    let mut ok:=true
    for c in ifs2 do
     if ok then ok ←isTrue c env (eval c env)
    if ok then
     (do let _ ←call (.builtin "list.append") [acc,←eval elt env])
    again (.compLoop (.ListComp elt [⟨tg,iter,ifs,0⟩,⟨tg2,iter2,ifs2,0⟩] scope pos) 1 it acc env)):=by rfl
section
variable {prog:Program} {w:World} {A:Around} {R:Result->Shared->Prop} {s:Shared} {elt tg iter tg2 iter2:Expr} {ifs ifs2:List Expr} {scope:Scope} {pos:Pos} {it acc:Value} {env:Env}
theorem zff(hs2:∀x,foldedSetIterable iter2 env x=pure x)(I:Nat->Shared->Prop)
  (turn:∀n s,I n s->wpAny (model prog w) A (pyNext it) (fun r ZU=>match r with
   |none=>R (.ok .next) ZU
   |some v=>wpAny (model prog w) A (letOwnedTupleGo tg it v) (fun _ ZA=>wpAny (model prog w) A (assign tg env v) (fun _ ZK=>
     wpAny (model prog w) A (forIn ifs true fun c r=>if r=true then do let ok ←isTrue c env (eval c env);pure (ForInStep.yield ok) else pure (ForInStep.yield r)) (fun ok ZM=>
      if ok=true then wpAny (model prog w) A (eval iter2 env) (fun x ZH=>wpAny (model prog w) A (pyIter x) (fun it2 ZD=>
       wpAny (model prog w) A (runOwn (.compStart (.ListComp elt [⟨tg,iter,ifs,0⟩,⟨tg2,iter2,ifs2,0⟩] scope pos) 1 it2 acc env) env) (fun _ Zm=>∃m,m<n/\I m Zm) (fun _ _=>False) ZD) (fun _ _=>False) ZH) (fun _ _=>False) ZM
      else ∃m,m<n/\I m ZM) (fun _ _=>False) ZK) (fun _ _=>False) ZA) (fun _ _=>False) ZU) (fun _ _=>False) s)
  (n:Nat) (h:I n s):codeAny (model prog w) A (.compLoop (.ListComp elt [⟨tg,iter,ifs,0⟩,⟨tg2,iter2,ifs2,0⟩] scope pos) 0 it acc env) R s:=by
 refine codeAny_loop rfl I (fun n s hI=>?_) n h;show wpAny _ A ((compTurn (.ListComp elt [⟨tg,iter,ifs,0⟩,⟨tg2,iter2,ifs2,0⟩] scope pos) 0 it acc env).onRaise (fun x=>do noteFrame x env;theTreesLotGoes x)) _ _ s;refine wpAny_noted ?_;rw[zit];refine Xl (E:=fun _ _=>False) ?_ (fun _ _ x=>x) fun _ _ x=>x.elim;refine Xf (Ys (Xf (Xl (turn n s hI) (fun r ZU ZR=>?_) fun _ _ h'=>h')));cases r with
 |none=>exact Xj ZR
 |some v=>
  refine Xf (Xl ZR (fun _ ZA Zu=>?_) fun _ _ h'=>h');refine Xf (Xl Zu (fun _ ZK ZB=>Xf (Xl ZB (fun ok ZM ZE=>?_) fun _ _ h'=>h')) fun _ _ h'=>h');cases ok with
  |false=>exact Xj ⟨rfl,ZE⟩
  |true=>exact Xf (Xl ZE (fun x ZH Zt=>Xf (Ys (Xf (wpAny_of_eq (hs2 x) (Xf (Yr (Xl Zt (fun it2 ZD Zs=>Xf (Xl Zs (fun _ Zm Zk=>Xj ⟨rfl,Zk⟩) fun _ _ h'=>h')) fun _ _ h'=>h'))))))) fun _ _ h'=>h')
theorem Sv(I:Nat->Shared->Prop)
  (turn:∀n s,I n s->wpAny (model prog w) A (pyNext it) (fun r ZU=>match r with
   |none=>R (.ok .next) ZU
   |some v=>wpAny (model prog w) A (letOwnedTupleGo tg2 it v) (fun _ ZA=>wpAny (model prog w) A (assign tg2 env v) (fun _ ZK=>
     wpAny (model prog w) A (forIn ifs2 true fun c r=>if r=true then do let ok ←isTrue c env (eval c env);pure (ForInStep.yield ok) else pure (ForInStep.yield r)) (fun ok ZM=>
      if ok=true then wpAny (model prog w) A (eval elt env) (fun x ZH=>
       wpAny (model prog w) A (call (.builtin "list.append") [acc,x]) (fun _ ZD=>∃m,m<n/\I m ZD) (fun _ _=>False) ZH) (fun _ _=>False) ZM
      else ∃m,m<n/\I m ZM) (fun _ _=>False) ZK) (fun _ _=>False) ZA) (fun _ _=>False) ZU) (fun _ _=>False) s)
  (n:Nat) (h:I n s):codeAny (model prog w) A (.compLoop (.ListComp elt [⟨tg,iter,ifs,0⟩,⟨tg2,iter2,ifs2,0⟩] scope pos) 1 it acc env) R s:=by
 refine codeAny_loop rfl I (fun n s hI=>?_) n h;show wpAny _ A ((compTurn (.ListComp elt [⟨tg,iter,ifs,0⟩,⟨tg2,iter2,ifs2,0⟩] scope pos) 1 it acc env).onRaise (fun x=>do noteFrame x env;theTreesLotGoes x)) _ _ s;refine wpAny_noted ?_;rw[Re];refine Xl (E:=fun _ _=>False) ?_ (fun _ _ x=>x) fun _ _ x=>x.elim;refine Xf (Ys (Xf (Xl (turn n s hI) (fun r ZU ZR=>?_) fun _ _ h'=>h')));cases r with
 |none=>exact Xj ZR
 |some v=>
  refine Xf (Xl ZR (fun _ ZA Zu=>?_) fun _ _ h'=>h');refine Xf (Xl Zu (fun _ ZK ZB=>Xf (Xl ZB (fun ok ZM ZE=>?_) fun _ _ h'=>h')) fun _ _ h'=>h');cases ok with
  |false=>exact Xj ⟨rfl,ZE⟩
  |true=>
   exact Xf (Xf (Xl ZE (fun x ZH Zt=>Xf (Xl Zt (fun _ ZD Zs=>Xj (Xj ⟨rfl,Zs⟩)) fun _ _ h'=>h')) fun _ _ h'=>h'))
theorem NV(h0:codeAny (model prog w) A (.compLoop (.ListComp elt [⟨tg,iter,ifs,0⟩,⟨tg2,iter2,ifs2,0⟩] scope pos) 1 it acc env) R s)
  (h:wpAny (model prog w) A (pyIter it) (fun it' s'=>codeAny (model prog w) A (.compLoop (.ListComp elt [⟨tg,iter,ifs,0⟩,⟨tg2,iter2,ifs2,0⟩] scope pos) 1 it' acc env) R s')
   (notedBy (model prog w) A env fun x s'=>R (.error x) s') s):
  codeAny (model prog w) A (.compStart (.ListComp elt [⟨tg,iter,ifs,0⟩,⟨tg2,iter2,ifs2,0⟩] scope pos) 1 it acc env) R s:=by
 refine codeAny_of_tree ?_;show wpAny _ _ ((compStart (.ListComp elt [⟨tg,iter,ifs,0⟩,⟨tg2,iter2,ifs2,0⟩] scope pos) 1 it acc env).onRaise (fun x=>do noteFrame x env;standAt theWindowsPlace)) _ _ s;refine wpAny_notedAt ?_;unfold compStart;show wpAny _ _ (ask >>= _) _ _ s;refine Xf (wpAny_askSetting (wpAny_ite ?_));split
 ·first
   |exact Xf (Xj (Xj (And.intro rfl h0)))
   |exact Xj (And.intro rfl h0)
 ·first
   |exact Xf (wpAny_rule (Xf (Ys (Xf (Xl h (fun it' s' h'=>Xj (And.intro rfl h')) fun _ _ x=>x)))))
   |(refine Xf (wpAny_rule ?_);show wpAny _ _ (standAt iter2.pos >>= _) _ _ s;exact Xf (Ys (Xf (Xl h (fun it' s' h'=>Xj (And.intro rfl h')) fun _ _ x=>x))))
end
def Fa(Z7:It)(g:TG)(tc:TT)(te:TE)(D:Addr)(ZN:St)(H0:Hp)(Z:St->Hp->Prop):Prop:=
 ∃W:Nat->Nat->St->Hp->Prop,(∃m,W 0 m ZN H0)/\∀i m J H,W i m J H->
  (Z7.stop i H/\Z J H)\/(Z7.go i H/\∃N:St->Hp->Prop,(∀Z0 H',N Z0 H'->∃m',m'<m/\W (i+1) m' Z0 H')/\∀x H',Z7.yld i H x H'->g x J H' fun ZX H2=>tc ZX H2 fun b H3=>
   if b=true then te ZX H3 fun v H4=>∃ys,H4 D=some (.lst ys)/\ys.length<sizeLine/\N ZX (upd H4 D (.lst (ys++[v]))) else N ZX H3)
def yd(Z7:It)(g:TG)(tc:TT)(wi2:TI)(g2:TG)(tc2:TT)(te:TE)(D:Addr)(ZN:St)(H0:Hp)(Z:Hp->Prop):Prop:=
 ∃W:Nat->Nat->St->Hp->Prop,(∃m,W 0 m ZN (upd H0 D (.lst [])))/\∀i m J H,W i m J H->
  (Z7.stop i H/\Z H)\/(Z7.go i H/\∃N:St->Hp->Prop,(∀Z0 H',N Z0 H'->∃m',m'<m/\W (i+1) m' Z0 H')/\∀x H',Z7.yld i H x H'->g x J H' fun ZX H2=>tc ZX H2 fun b H3=>
   if b=true then wi2 ZX H3 fun J2 H4=>Fa J2 g2 tc2 te D ZX H4 N else N ZX H3)
section
variable {X:Cx} {pins:QS} {J:St} {N' own:List Str} {cap:List (Str×Nat)} {scope:Scope} {tg iter elt tg2 iter2:Expr} {ifs ifs2:List Expr} {pos:Pos} {g g2:TG} {tc tc2:TT} {te:TE} {wi wi2:TI}
theorem y2g{s:Shared}{H:Hp}{D:Addr}{Z:St->Hp->Prop}(hx:∀e s,X.xe e s->False)(hc:X.calm=true)(hi:PI X tg2 iter2 wi2)(hg:PG X tg2 g2)(ht:PIf X ifs2 tc2)(he:PE X elt te)
  (I:Inv X pins J H s) (h:wi2 J H fun Z7 H1=>Fa Z7 g2 tc2 te D J H1 Z):
  wpAny (model X.prog X.w) X.A (eval iter2 X.env) (fun x ZH=>wpAny (model X.prog X.w) X.A (pyIter x) (fun it2 ZD=>
   wpAny (model X.prog X.w) X.A (runOwn (.compStart (.ListComp elt [⟨tg,iter,ifs,0⟩,⟨tg2,iter2,ifs2,0⟩] scope pos) 1 it2 (.ref D) X.env) X.env) (fun _ s'=>∃Z0 H',Inv X pins Z0 H' s'/\Z Z0 H') (fun _ _=>False) ZD) (fun _ _=>False) ZH) (fun _ _=>False) s:=by
 have noX:∀{α:Type} {t:Sem α} {Q:α->Shared->Prop} {s:Shared},wpAny (model X.prog X.w) X.A t Q X.xe s->wpAny (model X.prog X.w) X.A t Q (fun _ _=>False) s:=fun q=>Xl q (fun _ _ z=>z) fun e s z=>hx e s z;refine noX (thn (hi pins s J H _ I h) fun v s1 h1=>?_);refine noX (thn h1 fun itv s2 h2=>?_);obtain⟨it,fp,tn,Z7,H2,e,I2,T,st2,f2,W,⟨m0,w0⟩,turn⟩:=h2;subst e;have stat:∀{H':Hp},(∀b∈fp,H' b=none)->∀b∈fp,rP X pins H' b:=fun hn b hb=>⟨hn b hb,(f2 b hb).2⟩
 refine(wpAny_runOwn ?_);have loop:codeAny (model X.prog X.w) X.A (.compLoop (.ListComp elt [⟨tg,iter,ifs,0⟩,⟨tg2,iter2,ifs2,0⟩] scope pos) 1 (.ref it) (.ref D) X.env)
   (fun r s'=>match r with| .ok f=>∃Z0 H',Inv X pins Z0 H' s'/\Z Z0 H'| .error e=>cameBackBy (model X.prog X.w) X.A X.env (fun _ _=>False) e s') s2:=by
  obtain⟨P,hP⟩:∃P:Nat->Shared->Prop,∀n s',P n s'↔∃i Z0 H',Inv X pins Z0 H' s'/\tn i s'.heap/\(∀b∈fp,H' b=none)/\W i n Z0 H':=⟨_,fun _ _=>Iff.rfl⟩
  refine Sv P ?_ m0 ((hP _ _).2 ⟨0,J,H2,I2,st2,fun b hb=>(f2 b hb).1,w0⟩);rintro n s3 h3;obtain⟨i,ZI,H3,I3,st3,fr3,w3⟩:=(hP _ _).1 h3;rcases turn i n ZI H3 w3 with⟨stop,qz⟩|⟨go,N,hN,step⟩
  ·refine Xl (T.done X rfl rfl rfl hc i pins s3 ZI H3 (fun _ _=>False) I3 (stat fr3) st3 stop) (fun r s4 ⟨hr,I4⟩=>?_) fun _ _ z=>z;subst hr;exact⟨ZI,H3,I4,qz⟩
  ·refine Xl (T.item X rfl rfl rfl hc i pins s3 ZI H3 (fun _ _=>False) I3 (stat fr3) st3 go) (fun r s4 ⟨u,hr,h4⟩=>?_) fun _ _ z=>z;subst hr;refine Xl h4 (fun _ s5 hm=>?_) fun _ _ z=>z;obtain⟨x,H5,I5,r5,y5,st5,fr5⟩:=hm;have I5':=I5.pinned (stat fr5) (T.obj _ _ st5);have again:∀{ZT:St} {H7:Hp} {s7:Shared},Inv X (pins++v8 fp s5.heap) ZT H7 s7->N ZT H7->∃m,m<n/\P m s7:=fun{ZT H7 s7} I7 n7=>by
    obtain⟨m',hm,w7⟩:=hN ZT H7 n7;refine(⟨m',hm,(hP _ _).2 ⟨i+1,ZT,H7,I7.unpinned,T.keep _ _ _ st5 fun b hb o e=>(I7.pin (b,o) (Xs _ (Xs _ (vn hb e)))).1,fun b hb=>?_,w7⟩⟩);obtain⟨o,e,d⟩:=T.obj _ _ st5 b hb;exact((I7.pin (b,o) (Xs _ (Xs _ (vn hb e)))).2.1)
   refine noX (thn (hg _ s5 ZI H5 x u _ I5' r5 (step x H5 y5)) fun _ s6 hm=>?_);obtain⟨Zq,H6,I6,q6⟩:=hm;refine(noX (thn (ht _ s6 Zq H6 _ I6 q6) fun b s7 hm=>?_));obtain⟨H7,I7,q7⟩:=hm;cases b with
   |false=>
    show ∃m,_;exact again I7 q7
   |true=>
    show wpAny _ _ _ _ _ _;refine noX (thn (he _ s7 Zq H7 _ I7 q7) fun y s8 hm=>?_);obtain⟨v,H8,I8,r8,ys,hy,hz,q8⟩:=hm;refine(noX (thn (Dc (X:=X) _ s8 Zq H8 (.ref D) [v] (.ref D) [y] (fun _ H'=>N Zq H') I8 rfl (.cons r8 .nil) ⟨_,ys,v,rfl,rfl,hy,hz,q8⟩) fun _ s9 hm=>?_));obtain⟨_,H9,I9,_,q9⟩:=hm;exact(again I9 q9)
 exact NV loop (T.self _ 0 _ _ _ st2 loop)
theorem Qi{Y:Cx}{s:Shared}{ZN:St}{H2:Hp}{it D:Addr}{fp:List Addr}{tn:Nat->Heap->Prop}{Z7:It}{Z:Hp->Prop}{R:Result->Shared->Prop}(hs2:∀x,foldedSetIterable iter2 Y.env x=pure x)
  (hx:∀e s,Y.xe e s->False) (hc:Y.calm=true) (hg:PG Y tg g) (ht:PIf Y ifs tc) (hi2:PI Y tg2 iter2 wi2) (hg2:PG Y tg2 g2) (ht2:PIf Y ifs2 tc2) (he:PE Y elt te)
  (T:Turn Y.prog Y.w Y.K tg Z7 fp it tn) (J0:Inv Y [] ZN (upd H2 D (.lst [])) s) (st3:tn 0 s.heap) (f3:∀b∈fp,upd H2 D (.lst []) b=none)
  (stat:∀{H':Hp},(∀b∈fp,H' b=none)->∀b∈fp,rP Y [] H' b) (h:yd Z7 g tc wi2 g2 tc2 te D ZN H2 Z)
  (hR:∀ZP H4 s5,Inv Y [] ZP H4 s5->Z H4->R (.ok .next) s5):
  codeAny (model Y.prog Y.w) Y.A (.compLoop (.ListComp elt [⟨tg,iter,ifs,0⟩,⟨tg2,iter2,ifs2,0⟩] scope pos) 0 (.ref it) (.ref D) Y.env) R s:=by
 obtain⟨W,⟨m0,w0⟩,turn⟩:=h;have noX:∀{α:Type} {t:Sem α} {Q:α->Shared->Prop} {s:Shared},wpAny (model Y.prog Y.w) Y.A t Q Y.xe s->wpAny (model Y.prog Y.w) Y.A t Q (fun _ _=>False) s:=fun q=>Xl q (fun _ _ z=>z) fun e s z=>hx e s z;obtain⟨P,hP⟩:∃P:Nat->Shared->Prop,∀n s',P n s'↔∃i Z0 H',Inv Y [] Z0 H' s'/\tn i s'.heap/\(∀b∈fp,H' b=none)/\W i n Z0 H':=⟨_,fun _ _=>Iff.rfl⟩
 refine zff hs2 P ?_ m0 ((hP _ _).2 ⟨0,_,_,J0,st3,f3,w0⟩);rintro n s4 h4;obtain⟨i,ZP,H4,I4,st4,fr4,w4⟩:=(hP _ _).1 h4;rcases turn i n ZP H4 w4 with⟨stop,qz⟩|⟨go,N,hN,step⟩
 ·refine Xl (T.done Y rfl rfl rfl hc i [] s4 ZP H4 (fun _ _=>False) I4 (stat fr4) st4 stop) (fun r s5 ⟨hr,I5⟩=>?_) fun _ _ z=>z;subst hr;exact hR ZP H4 s5 I5 qz
 ·refine Xl (T.item Y rfl rfl rfl hc i [] s4 ZP H4 (fun _ _=>False) I4 (stat fr4) st4 go) (fun r s5 ⟨u,hr,h5⟩=>?_) fun _ _ z=>z;subst hr;refine Xl h5 (fun _ s6 hm=>?_) fun _ _ z=>z;obtain⟨x,H6,I6,r6,y6,st6,fr6⟩:=hm;have I6':=I6.pinned (stat fr6) (T.obj _ _ st6);have again:∀{ZT:St} {H7:Hp} {s7:Shared},Inv Y ([]++v8 fp s6.heap) ZT H7 s7->N ZT H7->∃m,m<n/\P m s7:=fun{ZT H7 s7} I7 n7=>by
   obtain⟨m',hm,w7⟩:=hN ZT H7 n7;refine(⟨m',hm,(hP _ _).2 ⟨i+1,ZT,H7,I7.unpinned,T.keep _ _ _ st6 fun b hb o e=>(I7.pin (b,o) (Xs _ (Xs _ (vn hb e)))).1,fun b hb=>?_,w7⟩⟩);obtain⟨o,e,d⟩:=T.obj _ _ st6 b hb;exact((I7.pin (b,o) (Xs _ (Xs _ (vn hb e)))).2.1)
  refine noX (thn (hg _ s6 ZP H6 x u _ I6' r6 (step x H6 y6)) fun _ s7 hm=>?_);obtain⟨ZT,H7,I7,q7⟩:=hm;refine(noX (thn (ht _ s7 ZT H7 _ I7 q7) fun b s8 hm=>?_));obtain⟨H8,I8,q8⟩:=hm;cases b with
  |false=>
   show ∃m,_;exact again I8 q8
  |true=>
   show wpAny _ _ _ _ _ _;refine Xl (y2g (X:=Y) hx hc hi2 hg2 ht2 he I8 q8) (fun _ _ z=>Xl z (fun _ _ z=>Xl z (fun _ s9 ⟨Y8,H9,I9,q9⟩=>again I9 q9) fun _ _ z=>z) fun _ _ z=>z) fun _ _ z=>z
theorem KG{s2:Shared}{H2:Hp}{it:Addr}{fp:List Addr}{tn:Nat->Heap->Prop}{Z7:It}{cl:List (Str×Addr)}{Z:Addr->Hp->Prop}{RR:Value->Addr->Result->Shared->Prop}{E:OK}
  (hx:∀e s,X.xe e s->False) (hc:X.calm=true) (S:CompScope X N' own cap scope)
  (hg:∀cl C Z3 Z1 ex,PG (qM X N' scope cl C Z3 Z1 ex) tg g) (ht:∀cl C Z3 Z1 ex,PIf (qM X N' scope cl C Z3 Z1 ex) ifs tc) (hi2:∀cl C Z3 Z1 ex,PI (qM X N' scope cl C Z3 Z1 ex) tg2 iter2 wi2) (hg2:∀cl C Z3 Z1 ex,PG (qM X N' scope cl C Z3 Z1 ex) tg2 g2) (ht2:∀cl C Z3 Z1 ex,PIf (qM X N' scope cl C Z3 Z1 ex) ifs2 tc2) (he:∀cl C Z3 Z1 ex,PE (qM X N' scope cl C Z3 Z1 ex) elt te) (hs2:∀cl C x,foldedSetIterable iter2 (compEnvC scope cl C X.env) x=pure x)
  (I2:Inv X pins J H2 s2) (T:Turn X.prog X.w X.K tg Z7 fp it tn) (st2:tn 0 s2.heap) (f2:∀b∈fp,rP X pins H2 b)
  (c1:∀y c,cl.lookup y=some c->X.env.cells.lookup y=some c) (c2:∀y,(y,NameKind.free)∈scope.names->∃c,cl.lookup y=some c)
  (h:∀D,H2 D=none->yd Z7 g tc wi2 g2 tc2 te D (sI own cap J) H2 (Z D))
  (hRR:∀D C s' m' H',Inv X pins J H' s'->s'.heap.Ns C m'->rP X pins H' C->Z D H'->RR (.ref D) C (.ok .next) s'):
  wpAny (model X.prog X.w) X.A (newList []) (fun acc ZM=>wpAny (model X.prog X.w) X.A (newFunctionEnv scope X.env.globals cl [] X.env.qual none .none (some X.env)) (fun cenv ZH=>
   codeAny (model X.prog X.w) X.A (.compStart (.ListComp elt [⟨tg,iter,ifs,0⟩,⟨tg2,iter2,ifs2,0⟩] scope pos) 0 (.ref it) acc {cenv with scope:=relabel scope X.env}) (RR acc cenv.locals) ZH) E ZM) E s2:=by
 have hlt:∀b∈fp,b<s2.heap.objs.size:=fun b hb=>by
  obtain⟨o,e,_⟩:=T.obj _ _ st2 b hb;exact(Xo e)
 have hD:H2 s2.heap.objs.size=none:=I2.hok.fresh (Xh _);refine Yb (E1 (fun ZR Zz Zy Zx=>?_));dsimp only at Zz Zy Zx⊢;have I3:Inv X pins J (upd H2 s2.heap.objs.size (.lst [])) {s2 with heap:=s2.heap.push {cls:=.type "list",dict:=none,data:=.seq ([]:List Value).toArray},toks:=s2.toks}:=
  I2.laid (fun b o e=>Xg _ e) (Xh _) ⟨Ye _,[],0,.nil,Xp _ rfl⟩
 generalize hs3:({s2 with heap:=s2.heap.push {cls:=.type "list",dict:=none,data:=.seq ([]:List Value).toArray},toks:=s2.toks}:Shared)=s3 at I3;have e3:s2.heap.push {cls:=.type "list",dict:=none,data:=.seq ([]:List Value).toArray}=s3.heap:=by rw[←hs3]
 have hsz:s3.heap.objs.size=s2.heap.objs.size+1:=by rw[←e3,Yd]
 rw[e3] at Zz Zy Zx⊢;have hk:=Zy;have hcl:∀y c,cl.lookup y=some c->¬s3.heap.objs.size<c:=fun y c e z=>by
  obtain⟨v,o,ho,_⟩:=I3.cell y c (c1 y c e);exact(X7 _ (Nat.lt_trans z (Xo ho)))
 have CA:CellsAre X scope s3.heap.objs.size cl (cellsFrom (s3.heap.objs.size+1) scope.names cl):=FH (h:=s3.heap.push {cls:=.type "dict",data:=.dict #[]}) (by rw[Yd]) S hcl;have hcell:∀y c,(cellsFrom (s3.heap.objs.size+1) scope.names cl).lookup y=some c->s3.heap.objs.size<c->ZR.IsCell c none:=fun y c e z=>by
  rw[ve,wo] at e;cases q:(cellsFrom (s3.heap.objs.size+1) scope.names []).lookup y with
  |none=>rw[q] at e;exact absurd z (hcl y c e)
  |some c'=>
   rw[q] at e;have:c'=c:=XD e;subst this;exact Zx y c' (XU q)
 generalize hcs:cellsFrom (s3.heap.objs.size+1) scope.names cl=cs at CA hcell⊢;have f3:∀b∈fp,rP X pins (upd H2 s2.heap.objs.size (.lst [])) b:=fun b hb=>⟨by rw[qW (Xz (hlt b hb))];exact(f2 b hb).1,(f2 b hb).2⟩
 have hlt3:∀b∈fp,b<s3.heap.objs.size:=fun b hb=>by rw[hsz];exact YN (hlt b hb)
 have st3:tn 0 ZR:=T.keep _ _ _ st2 fun b hb o e=>hk b o (by rw[←e3];exact Xg _ e);have J0:Inv (qM X N' scope cs s3.heap.objs.size s3 (upd H2 s2.heap.objs.size (.lst [])) fp) [] (sI own cap J) (upd H2 s2.heap.objs.size (.lst [])) {s3 with heap:=ZR,toks:=s2.toks}:=
  comp_inv I3 S CA hcell c1 c2 f3 hlt3 hk Zz
 have stat:∀{pl:QS} {H':Hp},pl=[]->(∀b∈fp,H' b=none)->∀b∈fp,rP (qM X N' scope cs s3.heap.objs.size s3 (upd H2 s2.heap.objs.size (.lst [])) fp) pl H' b:=fun{pl H'} hp hn b hb=>by
  subst hp;refine⟨hn b hb,Xz (hlt3 b hb),J0.ok.exfs b hb,.inl hb,fun x c e=>J0.ok.exf b hb |>.2 x c e,fun p hp=>absurd hp (by show p∉([]++[]:QS);simp)⟩
 have loop:codeAny (model X.prog X.w) X.A (.compLoop (.ListComp elt [⟨tg,iter,ifs,0⟩,⟨tg2,iter2,ifs2,0⟩] scope pos) 0 (.ref it) (.ref s2.heap.objs.size) (compEnvC scope cs s3.heap.objs.size X.env)) (RR (.ref s2.heap.objs.size) s3.heap.objs.size)
   {s3 with heap:=ZR,toks:=s2.toks}:=Qi (Y:=qM X N' scope cs s3.heap.objs.size s3 (upd H2 s2.heap.objs.size (.lst [])) fp) (hs2 _ _) hx hc (hg _ _ _ _ _) (ht _ _ _ _ _) (hi2 _ _ _ _ _) (hg2 _ _ _ _ _) (ht2 _ _ _ _ _) (he _ _ _ _ _) T J0 st3 (fun b hb=>(f3 b hb).1) (stat rfl) (h _ hD) fun ZP H4 s5 I5 qz=>by
  have I6:Inv X pins J H4 s5:=I3.call' (ch:=fp) I5.os I5.base I5.hok I5.bare fun b hb=>⟨(f3 b hb).2.2.2.1,(f3 b hb).2.1,(f3 b hb).2.2.2.2.1,(f3 b hb).2.2.2.2.2⟩
  obtain⟨m',hn',_⟩:=I5.loc;exact(hRR _ _ s5 m' H4 I6 hn' (I3.fpOk (Xh _) I5.free) qz)
 have lp:codeAny (model X.prog X.w) X.A (.compStart (.ListComp elt [⟨tg,iter,ifs,0⟩,⟨tg2,iter2,ifs2,0⟩] scope pos) 0 (.ref it) (.ref s2.heap.objs.size) (compEnvC scope cs s3.heap.objs.size X.env)) (RR (.ref s2.heap.objs.size) s3.heap.objs.size)
   {s3 with heap:=ZR,toks:=s2.toks}:=codeAny_compStart_list loop (T.self _ 0 _ _ _ st3 loop)
 subst hs3;exact lp
theorem Rb(S:CompScope X N' own cap scope)(hi:PI X tg iter wi)
  (hg:∀cl C Z3 Z1 ex,PG (qM X N' scope cl C Z3 Z1 ex) tg g) (ht:∀cl C Z3 Z1 ex,PIf (qM X N' scope cl C Z3 Z1 ex) ifs tc)
  (hi2:∀cl C Z3 Z1 ex,PI (qM X N' scope cl C Z3 Z1 ex) tg2 iter2 wi2) (hg2:∀cl C Z3 Z1 ex,PG (qM X N' scope cl C Z3 Z1 ex) tg2 g2) (ht2:∀cl C Z3 Z1 ex,PIf (qM X N' scope cl C Z3 Z1 ex) ifs2 tc2)
  (he:∀cl C Z3 Z1 ex,PE (qM X N' scope cl C Z3 Z1 ex) elt te)
  (hx:∀e s,X.xe e s->False:=by exact fun _ _ z=>z) (hc:X.calm=true:=by rfl) (hs:∀x,foldedSetIterable iter X.env x=pure x:=by intro _;rfl) (hs2:∀cl C x,foldedSetIterable iter2 (compEnvC scope cl C X.env) x=pure x:=by intro _ _ _;rfl):
  PE X (.ListComp elt [⟨tg,iter,ifs,0⟩,⟨tg2,iter2,ifs2,0⟩] scope pos) (fun J H Q=>wi J H fun Z7 H1=>∀D,H1 D=none->yd Z7 g tc wi2 g2 tc2 te D (sI own cap J) H1 (Q (.ref D))):=by
 intro pins s J H Q I h;rw[eval_ListComp];obtain⟨cl,hcl,c1,c2⟩:=zF (scope:=scope) (env:=X.env) fun y hy hk=>I.ok.has y.1 (S.free y hy hk);refine(Yu (use:=none) rfl hs hcl S.kind S.names (thn (hi pins s J H _ I h) fun v s1 h1=>thn h1 fun itv s2 h2=>?_));obtain⟨it,fp,tn,Z7,H2,e,I2,T,st2,f2,q⟩:=h2;subst e;refine(KG (RR:=fun acc C=>compPost (model X.prog X.w) X.A X.xe none (EP X pins J Q) acc C) (Z:=fun D=>Q (.ref D)) hx hc S hg ht hi2 hg2 ht2 he hs2 I2 T st2 f2 c1 c2 q ?_);intro D C s' m' H' I' hn' f' z;exact⟨m',hn',fun h'' hs''=>⟨.ref D,H',I'.letgo f' hs'',rfl,z⟩⟩
theorem Pw{i:Nat}{y:Str}{py spos:Pos}(hN:X.N.Nodup)(hi':X.N[i]?=some y)(hy:X.env.scope.names.lookup y=some .local)(S:CompScope X N' own cap scope)(hi:PI X tg iter wi)
  (hg:∀cl C Z3 Z1 ex,PG (qM X N' scope cl C Z3 Z1 ex) tg g) (ht:∀cl C Z3 Z1 ex,PIf (qM X N' scope cl C Z3 Z1 ex) ifs tc)
  (hi2:∀cl C Z3 Z1 ex,PI (qM X N' scope cl C Z3 Z1 ex) tg2 iter2 wi2) (hg2:∀cl C Z3 Z1 ex,PG (qM X N' scope cl C Z3 Z1 ex) tg2 g2) (ht2:∀cl C Z3 Z1 ex,PIf (qM X N' scope cl C Z3 Z1 ex) ifs2 tc2)
  (he:∀cl C Z3 Z1 ex,PE (qM X N' scope cl C Z3 Z1 ex) elt te)
  (hsw:swapsWith (.ListComp elt [⟨tg,iter,ifs,0⟩,⟨tg2,iter2,ifs2,0⟩] scope pos) (some (.Name y py)) spos.line X.env=pure true:=by rfl)
  (hx:∀e s,X.xe e s->False:=by exact fun _ _ z=>z) (hc:X.calm=true:=by rfl) (hs:∀x,foldedSetIterable iter X.env x=pure x:=by intro _;rfl) (hs2:∀cl C x,foldedSetIterable iter2 (compEnvC scope cl C X.env) x=pure x:=by intro _ _ _;rfl):
  PS X (.Assign [.Name y py] (.ListComp elt [⟨tg,iter,ifs,0⟩,⟨tg2,iter2,ifs2,0⟩] scope pos) spos) (fun D J H=>wi J H fun Z7 H1=>∀p,H1 p=none->yd Z7 g tc wi2 g2 tc2 te p (sI own cap J) H1 (fun H2=>D.nx (J.set i (some (.ref p))) H2)):=by
 intro pins s J H D I h;obtain⟨cl,hcl,c1,c2⟩:=zF (scope:=scope) (env:=X.env) fun y hy hk=>I.ok.has y.1 (S.free y hy hk);rw[exec_Assign_Name_used _ _ _ _ hsw];refine Xf (Ys (Xf ?_));show wpAny _ _ (do let _ ←comprehension (.ListComp elt [⟨tg,iter,ifs,0⟩,⟨tg2,iter2,ifs2,0⟩] scope pos) scope X.env _ (newList []) false (eval iter X.env) (some (assign (.Name y py) X.env))) _ _ s;refine Xf (Xl (Yu (use:=some (assign (.Name y py) X.env)) (Q:=fun _ s'=>SP X pins D .next s') rfl hs hcl S.kind S.names
  (thn (hi pins s J H _ I h) fun v s1 h1=>thn h1 fun itv s2 h2=>?_)) (fun _ s' hq=>Xj (Xj hq)) fun _ _ e=>e)
 obtain⟨it,fp,tn,Z7,H2,e,I2,T,st2,f2,q⟩:=h2;subst e;refine(KG (RR:=fun acc C=>compPost (model X.prog X.w) X.A X.xe (some (assign (.Name y py) X.env)) (fun _ s'=>SP X pins D .next s') acc C) (Z:=fun p H2=>D.nx (J.set i (some (.ref p))) H2) hx hc S hg ht hi2 hg2 ht2 he hs2 I2 T st2 f2 c1 c2 q ?_);intro p C s' m' H' I' hn' f' z;show wpAny _ _ (assign (.Name y py) X.env (.ref p)) _ _ _;refine wpAny_assign_Name (ME I' hN hi' (.inl hy) (v:=.ref p) rfl (fun s'' I'' hm=>?_) (.inr hy));obtain⟨a,hsb,ha⟩:=hm;have hCa:C≠a:=by
  rcases ha with z|z
  ·rw[z];exact f'.2.1
  ·exact fun e=>f'.2.2.2.2.1 y a z e.symm
 refine⟨m',hn'.sameBut hsb hCa,fun h3 hs3=>?_⟩;exact⟨_,H',I''.letgo f' hs3,z⟩
end
def wl(ns:List Int):Nat:=(firstMet (fun i=>ns.getD i 0) ns.length).length
end L2
namespace L2
open PySem PySem.W PySem.Spec PySem.Calls PyProof.Rows PySem.Builtin PySem.Builtin.ObjectAttr PySem.Builtin.Getset_descriptor
def NY(e D:Addr):HO:=.ext fun h=>∃o,h.get? e=some o/\o.cls=.ref D
def PJ(X:Cx)(es:List Expr)(t:St->Hp->(Hp->Prop)->Prop):Prop:=
 ∀(pins:QS) (s:Shared) (J:St) (H:Hp) (Q:Hp->Prop) (acc:Str) (n:Nat),acc.length<=n->n+2000*es.length<=1000000->Inv X pins J H s->t J H Q->
  wpAny (model X.prog X.w) X.A (joinParts acc (evalEach es X.env)) (fun u s'=>∃z t H',u=.str z t/\Inv X pins J H' s'/\Q H') X.xe s
section
variable {X:Cx} {e e2:Expr} {es:List Expr} {te:TE} {t:St->Hp->(Hp->Prop)->Prop} {p pos:Pos}
theorem WB:PJ X [] (fun _ H Q=>Q H):=fun pins s J H Q acc n h1 h2 I h=>joinParts_nil ⟨acc,_,H,rfl,I.tok _,h⟩ (by rw[YF];simp at h2;omega)
theorem Q4{x:Str}{j:Nat}(hx:x.length<=2000)(hr:PJ X es t):PJ X (.Constant (.str x) j p::es) t:=by
 intro pins s J H Q acc n h1 h2 I h;have hl:(acc++x).length<=n+2000:=by rw[strLen_append];omega
 simp only[XM] at h2;show wpAny _ _ (joinParts acc (eval (.Constant (.str x) j p) X.env::evalEach es X.env)) _ _ s;refine joinParts_cons (thn (IC pins s J H (fun v H'=>v=.str x/\H'=H) I ⟨rfl,rfl⟩) fun u s1 hm=>?_);obtain⟨v,H1,I1,r1,e1,e2⟩:=hm;subst e1 e2;obtain⟨tk,rfl⟩:=r1;exact⟨by rw[YF];omega,hr pins s1 J _ Q _ (n+2000) hl (by omega) I1 h⟩
theorem Xb(he:PE X e te)(hr:PJ X es t):PJ X (.FormattedValue e (-1) none p::es) (fun J H Q=>te J H fun v H1=>∃i,v=.int i/\i.natAbs.log2<1920/\t J H1 Q):=by
 intro pins s J H Q acc n h1 h2 I h;simp only[XM] at h2;show wpAny _ _ (joinParts acc (eval (.FormattedValue e (-1) none p) X.env::evalEach es X.env)) _ _ s;refine joinParts_cons (FormattedValue_plain (thn (he pins s J H _ I h) fun u s1 hm=>?_));obtain⟨v,H1,I1,r1,i,ev,hi,q⟩:=hm;subst ev;obtain⟨tk,rfl⟩:=r1;refine(formatField_int_small hi ?_);have hz:=int_text_len_1921 hi;have hl:(acc++Str.ofString (toString i)).length<=n+2000:=by rw[strLen_append];omega
 exact⟨by rw[YF];omega,hr pins _ J H1 Q _ (n+2000) hl (by omega) (I1.tok _) q⟩
theorem Sa(h:PJ X (e::e2::es) t)(hl:(e::e2::es).length<=400:=by decide):PE X (.JoinedStr (e::e2::es) pos) (fun J H Q=>t J H fun H1=>∀z,Q (.str z) H1):=by
 intro pins s J H Q I q;refine JoinedStr_many ?_;refine thn (h pins s J H _ Str.empty 0 (Ye _) (by omega) I q) fun u s' hm=>?_;obtain⟨z,tk,H',eu,I',q'⟩:=hm;exact(⟨.str z,H',I',⟨tk,eu⟩,q' z⟩)
end
end L2
namespace L2
open PySem PySem.Spec PyProof.Rows
def ObjOk.there{P:Program}{w:World}{H:Hp}{h:Heap}{a:Addr}{o:HO}(x:ObjOk P w H h a o):∃ob,h.get? a=some ob:=by
 cases o with
 |lst xs=>obtain⟨_,_,_,_,e⟩:=x;exact⟨_,e⟩
 |tup xs=>obtain⟨_,_,_,p⟩:=x;obtain⟨ob,e,_⟩:=p;exact⟨_,e⟩
 |dK kvs=>obtain⟨_,_,_,_,o,_,_,e,_⟩:=x;exact⟨_,e⟩
 |dT kvs=>obtain⟨_,_,_,_,o,_,_,e,_⟩:=x;exact⟨_,e⟩
 |set S n=>obtain⟨o,_,_,_,e,_⟩:=x;exact⟨_,e⟩
 |ins C dx fs=>obtain⟨_,_,_,e,_⟩:=x;exact⟨_,e⟩
 |own y=>obtain⟨_,e⟩:=x;exact⟨_,e⟩
 |xd fs=>obtain⟨_,⟨_,_,_,e,_⟩,_⟩:=x;exact⟨_,e⟩
 |rng lo hi=>obtain⟨_,_,_,e⟩:=x;exact⟨_,e⟩
 |frz ob u=>obtain⟨e,_⟩:=x;exact⟨_,e⟩
 |tbl ps=>exact⟨_,(show h.get? a=some _ from x)⟩
 |met f y=>exact⟨_,(show h.get? a=some _ from x)⟩
 |ext φ=>obtain⟨_,e,_⟩:=x;exact e
structure Flew (P:Program) (w:World) (outer:List Env) (H H':Hp) (s:Shared) (e:Addr) (C:Value) (Z8:Heap) (s':Shared):Prop where
 os:s'.os=s.os
 bare:AllBare s'.gens
 un:Un (frs outer) [] H H' s.heap s'.heap
 hok:HOk P w H' s'.heap
 trk:∀b o,s'.heap.get? b=some o->H' b≠none->Z8.get? b=some o
 old:∀b o,s.heap.get? b=some o->H b=none->b∉frs outer->Z8.get? b=some o
 thr:∀b o,s.heap.get? b=some o->b∉frs outer->∃o',Z8.get? b=some o'
 frf:∀b∈frs outer,H b=none
 unt:H' e=none
 new:s.heap.get? e=none
 fly:∃a0,Heap.FlyingW Z8 outer e C a0 s'.heap
def CXr(P:Program)(w:World):CXT:=fun outer H s E e s'=>∃(a:Addr) (C:Value) (H':Hp) (Z8:Heap),e=.ref a/\Flew P w outer H H' s a C Z8 s'/\E C none H'
section
variable {P:Program} {w:World} {outer:List Env} {H H':Hp} {s s':Shared} {e:Addr} {C:Value} {Z8:Heap}
theorem Flew.to{h2:Heap}(F:Flew P w outer H H' s e C Z8 s')(hB:Z8.StaysIn h2)(hs:s'.heap.UpToSlots h2):Un (frs outer) [] H H' s.heap h2/\HOk P w H' h2/\∀b o,h2.get? b=some o->H' b≠none->Z8.get? b=some o:=by
 obtain⟨a0,fl⟩:=F.fly;have kp:∀b o,s.heap.get? b=some o->H b=none->b∉frs outer->h2.get? b=some o:=fun b o x n hb=>hB b o (F.old b o x n hb);have sl:∀b o,s.heap.get? b=some o->H b=none->b∈frs outer->∃sl,h2.get? b=some {o with slots:=sl}:=fun b o x n hb=>by
  obtain⟨sl,e1⟩:=F.un.slot b o x n hb (by simp);obtain⟨_,o',e2,d⟩:=fl.2.2.1.mem hb;rw[e1] at e2;cases e2;obtain⟨sl',e3⟩:=hs b {o with slots:=sl} e1 d;exact(⟨sl',e3⟩)
 refine⟨⟨fun b o x n hb _=>kp b o x n hb,fun b o x n hb _=>sl b o x n hb,F.un.free,fun b o x _=>?_,F.un.tups,F.un.frzs,F.un.tbls⟩,fun a u eu=>?_,fun b o x n=>?_⟩
 ·by_cases hb:b∈frs outer
  ·obtain⟨l,e1⟩:=sl b o x (F.frf b hb) hb;exact⟨_,e1⟩
  ·obtain⟨o',e1⟩:=F.thr b o x hb;exact⟨o',hB b o' e1⟩
 ·refine(F.hok a u eu).stay (fun b v hb q=>hB b v (F.trk b v q ?_)) (fun _ q=>q) fun _ _ q=>q;rcases hb with z|z
  ·rw[z,eu];simp
  ·rw[z];simp
 ·cases eu:H' b with
  |none=>exact absurd eu n
  |some u=>
   obtain⟨o1,e1⟩:=(F.hok b u eu).there;have e2:=F.trk b o1 e1 n;have e3:=hB b o1 e2;rw[x] at e3;cases e3;exact(e2)
theorem Flew.next{h2:Heap}(F:Flew P w outer H H' s e C Z8 s')(hs:s'.heap.UpToSlots h2)(fl:∃a0,Heap.FlyingW Z8 outer e C a0 h2):Flew P w outer H H' s e C Z8 {s' with heap:=h2}:=by
 obtain⟨a0,fl⟩:=fl;obtain⟨u,k,t⟩:=F.to fl.1 hs;exact(⟨F.os,F.bare,u,k,t,F.old,F.thr,F.frf,F.unt,F.new,a0,fl⟩)
theorem Flew.inv{X:Cx}{pins:QS}{J:St}(F:Flew X.prog X.w X.stack H H' s e C Z8 s')(I:Inv X pins J H s):Inv X pins J H' s':=
 I.call' (ch:=[]) F.os F.un F.hok F.bare fun _ z=>nomatch z
end
section
variable {P:Program} {w:World} {K:Frag} {mg:Str->Option Value} {base:Heap} {N:List Str} {qual:Str} {scope:Scope} {f:Addr} {cd:Value} {A:Around} {outer:List Env} {s s1:Shared} {H H1:Hp} {E E':XK}
 {pins:QS} {J:St}
theorem Pm{h':Heap}{e C:Addr}{vs:List Value}(I:Inv (rq (CXr P w) P w K mg base N qual scope f cd A outer s H E) pins J H1 s1)(hx:Heap.MadeExcOf s1.heap h' e (.ref C) vs)(hE:E (.ref C) none H1):
  (rq (CXr P w) P w K mg base N qual scope f cd A outer s H E).xe (.ref e) {s1 with heap:=h'}:=by
 have fs:∀b,b∈frs (envOfC qual scope s.heap.objs.size f cd::outer)->H1 b=none:=I.stkFree;have inn:∀b o,s1.heap.get? b=some o->b∉frs (envOfC qual scope s.heap.objs.size f cd::outer)->(PySem.W.hideAll s1.heap (frs (envOfC qual scope s.heap.objs.size f cd::outer))).get? b=some o:=fun b o e hb=>PySem.W.hideAll_get _ e hb;have out:∀b o,s.heap.get? b=some o->b∉frs outer->b∉frs (envOfC qual scope s.heap.objs.size f cd::outer):=fun b o e hb z=>by
  have z:b∈s.heap.objs.size::frs outer:=z;rcases XI.mp z with q|q
  ·rw[q] at e;exact X7 _ (Xo e)
  ·exact hb q
 have frf:∀b∈frs outer,H b=none:=I.ok.frf;have hin:∀env∈(envOfC qual scope s.heap.objs.size f cd::outer),∀a,env.frame=some a->a∈frs (envOfC qual scope s.heap.objs.size f cd::outer):=fun env he a ha=>List.mem_filterMap.mpr ⟨env,he,ha⟩;show wpAny (model P w) (A.deeper (envOfC qual scope s.heap.objs.size f cd)) (leaving (envOfC qual scope s.heap.objs.size f cd) (.ref e)) _ _ _;refine wpAny_leaves_madeW (base:=PySem.W.hideAll s1.heap (frs (envOfC qual scope s.heap.objs.size f cd::outer))) I.ok.frames rfl (fun b o q=>PySem.W.of_hideAll _ q) (PySem.W.funFrames_hide I.stack hin) hx fun h2 t fl _ _ ups=>?_;have hB:=fl.1;have sl:∀b o,s.heap.get? b=some o->H b=none->b∈frs outer->∃sl,h2.get? b=some {o with slots:=sl}:=fun b o x n hb=>by
  obtain⟨sl,e1⟩:=I.base.slot b o x n hb (by simp[rq]);obtain⟨_,o',e2,d⟩:=I.stack.mem (show b∈s.heap.objs.size::frs outer from XV _ hb);rw[e1] at e2;cases e2;obtain⟨sl',e3⟩:=ups b {o with slots:=sl} (hx.keeps b {o with slots:=sl} e1) d;exact(⟨sl',e3⟩)
 have old:∀b o,s.heap.get? b=some o->H b=none->b∉frs outer->(PySem.W.hideAll s1.heap (frs (envOfC qual scope s.heap.objs.size f cd::outer))).get? b=some o:=fun b o x n hb=>
  inn b o (I.base.keep b o x n hb (by simp[rq])) (out b o x hb)
 have thr:∀b o,s.heap.get? b=some o->b∉frs outer->∃o',(PySem.W.hideAll s1.heap (frs (envOfC qual scope s.heap.objs.size f cd::outer))).get? b=some o':=fun b o x hb=>by
  obtain⟨o',e1⟩:=I.base.there b o x (by simp[rq]);exact(⟨o',inn b o' e1 (out b o x hb)⟩)
 have nfr:∀b,H1 b≠none->b∉frs (envOfC qual scope s.heap.objs.size f cd::outer):=fun b n z=>n (fs b z);refine⟨e,.ref C,H1,_,rfl,⟨I.os,I.bare,⟨fun b o x n hb _=>hB b o (old b o x n hb),fun b o x n hb _=>sl b o x n hb,fun b o x n _=>I.base.free b o x n (by simp[rq]),fun b o x _=>?_,I.base.tups,I.base.frzs,I.base.tbls⟩,fun a u eu=>?_,fun b o x n=>?_,old,thr,frf,?_,?_,_,fl⟩,hE⟩
 ·by_cases hb:b∈frs outer
  ·obtain⟨l,e1⟩:=sl b o x (frf b hb) hb;exact⟨_,e1⟩
  ·obtain⟨o',e1⟩:=thr b o x hb;exact⟨o',hB b o' e1⟩
 ·refine(I.hok a u eu).stay (fun b v hb q=>hB b v (inn b v q (nfr b ?_))) (fun _ q=>q) fun _ _ q=>q;rcases hb with z|z
  ·rw[z,eu];simp
  ·rw[z];simp
 ·cases eu:H1 b with
  |none=>exact absurd eu n
  |some u=>
   obtain⟨o1,e1⟩:=(I.hok b u eu).there;have e2:=inn b o1 e1 (nfr b n);have e3:=hB b o1 e2;rw[x] at e3;cases e3;exact(e2)
 ·cases eu:H1 e with
  |none=>rfl
  |some u=>
   obtain⟨o1,e1⟩:=(I.hok e u eu).there;rw[hx.new] at e1;cases e1
 ·cases eo:s.heap.get? e with
  |none=>rfl
  |some o=>
   obtain⟨o1,e1⟩:=I.base.there e o eo (by simp[rq]);rw[hx.new] at e1;cases e1
theorem T4(hE:∀C d H',E' C d H'->E C d H'):wZ (CXr P w) (rq (CXr P w) P w K mg base N qual scope f cd A outer s H E) E':=by
 intro pins J H1 s1 e s' I hc;obtain⟨a,C,H',Z8,rfl,F,q⟩:=hc;have F:Flew P w (envOfC qual scope s.heap.objs.size f cd::outer) H1 H' s1 a C Z8 s':=F;obtain⟨a0,fl⟩:=F.fly;have I2:Inv (rq (CXr P w) P w K mg base N qual scope f cd A outer s H E) pins J H' s':=Flew.inv (X:=rq (CXr P w) P w K mg base N qual scope f cd A outer s H E) F I;have out:∀b o,s.heap.get? b=some o->b∉frs outer->b∉frs (envOfC qual scope s.heap.objs.size f cd::outer):=fun b o e hb z=>by
  have z:b∈s.heap.objs.size::frs outer:=z;rcases XI.mp z with q|q
  ·rw[q] at e;exact X7 _ (Xo e)
  ·exact hb q
 obtain⟨f1,f2,⟨_,_,f3⟩,f4⟩:=id fl;have G:Flew P w outer H H' s a C Z8 s':=by
  refine⟨I2.os,F.bare,⟨fun b o x n hb _=>I2.base.keep b o x n hb (by simp[rq]),fun b o x n hb _=>I2.base.slot b o x n hb (by simp[rq]),fun b o x n _=>I2.base.free b o x n (by simp[rq]),fun b o x _=>I2.base.there b o x (by simp[rq]),I2.base.tups,I2.base.frzs,I2.base.tbls⟩,F.hok,F.trk,
   fun b o x n hb=>F.old b o (I.base.keep b o x n hb (by simp[rq])) (I.base.free b o x n (by simp[rq])) (out b o x hb),fun b o x hb=>?_,I.ok.frf,F.unt,?_,a0,f1,f2,f3,f4⟩
  ·obtain⟨o1,e1⟩:=I.base.there b o x (by simp[rq]);exact F.thr b o1 e1 (out b o x hb)
  ·cases eo:s.heap.get? a with
   |none=>rfl
   |some o=>
    obtain⟨o1,e1⟩:=I.base.there a o eo (by simp[rq]);rw[F.new] at e1;cases e1
 show wpAny (model P w) (A.deeper (envOfC qual scope s.heap.objs.size f cd)) (leaving (envOfC qual scope s.heap.objs.size f cd) (.ref a)) _ _ _;exact wpAny_leaves_onW I.ok.frames rfl fl fun h2 fl2 ups=>⟨a,C,H',Z8,rfl,G.next ups ⟨_,fl2⟩,hE C none H' q⟩
end
end L2
namespace L3
open PySem PySem.Spec L2
inductive D where
 |non|bl (b:Bool)|int (i:Int)|str (x:Str)|lst (xs:List D)|scr (xs:List D)|tup (xs:List D)|gt (xs:List D)|ref (k:Nat)
inductive Z9 where
 |lst (xs:List D)|dK (kvs:List (Key×D))|dN (kvs:List (NK×D))|ins (C:Addr) (fs:List (Str×D))|exc (C:Addr)
abbrev M:=List (Option Z9)
abbrev Fr:=Option (D×M)
abbrev C0:=List D->M->Fr
abbrev G:=List (Option D)
structure Wd where
 ρ:List Addr
 O:M
 H:Hp
 hid:Addr->Prop
def SqF(K:Frag)(H:Hp)(a:Addr)(xs:List V):Prop:=(∃o,H a=some (.frz o (.lst xs)))\/
  ∃(o:Obj) (its:Array Value) (n:Nat),K.lookup a=some o/\o.cls=.type "list"/\o.dict=none/\o.data=.seq its n/\its.size<=sizeLine/\Vals xs its.toList
def SqF.seq{K:Frag}{H:Hp}{a:Addr}{xs:List V}(h:SqF K H a xs):SqL K H a xs:=by
 rcases h with h|h
 ·exact .inl (.inr h)
 ·exact .inr h
def RL(W:Wd)(a:Addr):Prop:=∃(k:Nat) (o:Z9),W.O[k]?=some (some o)/\W.ρ[k]?=some a
def zr(W:Wd)(a:Addr):Prop:=RL W a\/W.hid a
mutual
inductive DR (K:Frag) (W:Wd):D->V->Prop where
 |non:DR K W .non .non
 |bl (b:Bool):DR K W (.bl b) (.bl b)
 |int (i:Int):DR K W (.int i) (.int i)
 |str (x:Str):DR K W (.str x) (.str x)
 |ref {k:Nat} {a:Addr}:W.ρ[k]?=some a->DR K W (.ref k) (.ref a)
 |lst {a:Addr} {vs:List V} {ds:List D}:W.H a=some (.lst vs)->¬zr W a->DRs K W ds vs->DR K W (.lst ds) (.ref a)
 |scr {a:Addr} {vs:List V} {ds:List D}:SqF K W.H a vs->DRs K W ds vs->DR K W (.scr ds) (.ref a)
 |tup {a:Addr} {vs:List V} {ds:List D}:W.H a=some (.tup vs)->DRs K W ds vs->DR K W (.tup ds) (.ref a)
 |gt {a:Addr} {vs:List V} {ds:List D}:SqT K W.H a vs->DRs K W ds vs->DR K W (.gt ds) (.ref a)
inductive DRs (K:Frag) (W:Wd):List D->List V->Prop where
 |nil:DRs K W [] []
 |cons {d:D} {v:V} {ds:List D} {vs:List V}:DR K W d v->DRs K W ds vs->DRs K W (d::ds) (v::vs)
end
def KR(K:Frag)(W:Wd):List (Key×D)->List (Key×V)->Prop:=Paired fun p q=>p.1=q.1/\DR K W p.2 q.2
def NR(K:Frag)(W:Wd):List (NK×D)->List (NK×V)->Prop:=Paired fun p q=>p.1=q.1/\DR K W p.2 q.2
def FR(K:Frag)(W:Wd):List (Str×D)->List (Str×V)->Prop:=Paired fun p q=>p.1=q.1/\DR K W p.2 q.2
def OR(K:Frag)(W:Wd)(a:Addr):Z9->HO->Prop
 | .lst ds,ho=>∃vs,ho=.lst vs/\DRs K W ds vs
 | .dK kvs,ho=>∃vs,ho=.dK vs/\KR K W kvs vs
 | .dN kvs,ho=>∃vs,ho=.dT vs/\NR K W kvs vs
 | .ins C fs,ho=>∃vs,(∃dx,ho=.ins C dx vs)/\FR K W fs vs
 | .exc C,ho=>ho=NY a C
structure Ok (K:Frag) (W:Wd):Prop where
 len:W.ρ.length=W.O.length
 nd:W.ρ.Nodup
 rs:∀a∈W.ρ,W.H a≠none
 at_:∀(k:Nat) (o:Z9),W.O[k]?=some (some o)->∃a ho,W.ρ[k]?=some a/\W.H a=some ho/\OR K W a o ho
 hd0:∀a,W.hid a->W.H a≠none/\a∉W.ρ
def Ok.hd{K:Frag}{W:Wd}(ok:Ok K W):∀a,W.hid a->W.H a≠none/\¬RL W a:=fun a z=>⟨(ok.hd0 a z).1,fun⟨_,_,_,h⟩=>(ok.hd0 a z).2 (Yv h)⟩
structure Step (W W':Wd):Prop where
 ρ:∀(k:Nat) a,W.ρ[k]?=some a->W'.ρ[k]?=some a
 live:∀a,RL W' a->RL W a\/W.H a=none
 keep:∀a o,W.H a=some o->¬RL W a->W'.H a=some o
 hid:W'.hid=W.hid
 still:∀a,W.H a≠none->W'.H a≠none
structure EnvR (K:Frag) (W:Wd) (B:G) (J:St):Prop where
 len:B.length=J.length
 at_:∀(i:Nat) d,B[i]?=some (some d)->∃v,J[i]?=some (some v)/\DR K W d v
section
variable {K:Frag} {W W' W'':Wd} {B:G} {J:St}
theorem Step.refl:Step W W:=⟨fun _ _ h=>h,fun _ h=>.inl h,fun _ _ h _=>h,rfl,fun _ h=>h⟩
theorem Step.nlive(s:Step W W'){a:Addr}{o:HO}(h:W.H a=some o)(n:¬RL W a):¬RL W' a:=fun z=>by
 rcases s.live a z with z|z
 ·exact n z
 ·rw[h] at z;cases z
theorem Step.trans(s:Step W W')(t:Step W' W''):Step W W'' where
 ρ k a h:=t.ρ k a (s.ρ k a h)
 live a h:=by
  rcases t.live a h with z|z
  ·exact s.live a z
  ·exact .inr (XZ fun n=>s.still a n z)
 keep a o h n:=t.keep a o (s.keep a o h n) (s.nlive h n)
 hid:=t.hid.trans s.hid
 still a h:=t.still a (s.still a h)
theorem Step.nLive(s:Step W W'){a:Addr}{o:HO}(h:W.H a=some o)(n:¬zr W a):¬zr W' a:=fun z=>by
 rcases z with z|z
 ·exact s.nlive h (fun q=>n (.inl q)) z
 ·rw[s.hid] at z;exact n (.inr z)
theorem Wz(s:Step W W'){a:Addr}{u:HO}(n:¬RL W a)(r:Rd W.H a u):Rd W'.H a u:=by
 rcases r with h|⟨o,h⟩
 ·exact .inl (s.keep _ _ h n)
 ·exact .inr ⟨o,s.keep _ _ h n⟩
theorem Ok.notup(ok:Ok K W){a:Addr}{vs:List V}(r:Rd W.H a (.tup vs)):¬RL W a:=fun⟨k,o,hk,ha⟩=>by
 obtain⟨a',ho,h1,h2,h3⟩:=ok.at_ k o hk;rw[ha] at h1;cases h1;rcases r with h|⟨q,h⟩
 ·rw[h2] at h;cases o with
  |lst ds=>obtain⟨ws,rfl,_⟩:=h3;cases h
  |dK kvs=>obtain⟨ws,rfl,_⟩:=h3;cases h
  |dN kvs=>obtain⟨ws,rfl,_⟩:=h3;cases h
  |ins C fs=>obtain⟨ws,⟨dx,rfl⟩,_⟩:=h3;cases h
  |exc C=>cases (show _=_ from h3);cases h
 ·rw[h2] at h;cases o with
  |lst ds=>obtain⟨ws,rfl,_⟩:=h3;cases h
  |dK kvs=>obtain⟨ws,rfl,_⟩:=h3;cases h
  |dN kvs=>obtain⟨ws,rfl,_⟩:=h3;cases h
  |ins C fs=>obtain⟨ws,⟨dx,rfl⟩,_⟩:=h3;cases h
  |exc C=>cases (show _=_ from h3);cases h
theorem Gm(ok:Ok K W)(s:Step W W'){a:Addr}{vs:List V}(h:SqT K W.H a vs):SqT K W'.H a vs:=by
 rcases h with h|h
 ·exact .inl (Wz s (ok.notup h) h)
 ·exact .inr h
theorem Ok.nofrz(ok:Ok K W){a:Addr}{u:HO}{q:Obj}(h:W.H a=some (.frz q u)):¬RL W a:=fun⟨k,o,hk,ha⟩=>by
 obtain⟨a',ho,h1,h2,h3⟩:=ok.at_ k o hk;rw[ha] at h1;cases h1;rw[h2] at h;cases o with
 |lst ds=>obtain⟨ws,rfl,_⟩:=h3;cases h
 |dK kvs=>obtain⟨ws,rfl,_⟩:=h3;cases h
 |dN kvs=>obtain⟨ws,rfl,_⟩:=h3;cases h
 |ins C fs=>obtain⟨ws,⟨dx,rfl⟩,_⟩:=h3;cases h
 |exc C=>cases (show _=_ from h3);cases h
theorem Mc(ok:Ok K W)(s:Step W W'){a:Addr}{vs:List V}(h:SqF K W.H a vs):SqF K W'.H a vs:=by
 rcases h with⟨o,h⟩|h
 ·exact .inl ⟨o,s.keep _ _ h (ok.nofrz h)⟩
 ·exact .inr h
mutual
theorem DR.step(ok:Ok K W)(s:Step W W'):∀{d:D} {v:V},DR K W d v->DR K W' d v
 |_,_,.non=>.non
 |_,_,.bl b=>.bl b
 |_,_,.int i=>.int i
 |_,_,.str x=>.str x
 |_,_,.ref h=>.ref (s.ρ _ _ h)
 |_,_,.lst r n h=>.lst (s.keep _ _ r (fun z=>n (.inl z))) (s.nLive r n) (DRs.step ok s h)
 |_,_,.scr r h=>.scr (Mc ok s r) (DRs.step ok s h)
 |_,_,.tup r h=>.tup (s.keep _ _ r (ok.notup (.inl r))) (DRs.step ok s h)
 |_,_,.gt r h=>.gt (Gm ok s r) (DRs.step ok s h)
theorem DRs.step(ok:Ok K W)(s:Step W W'):∀{ds:List D} {vs:List V},DRs K W ds vs->DRs K W' ds vs
 |_,_,.nil=>.nil
 |_,_,.cons h t=>.cons (h.step ok s) (DRs.step ok s t)
end
theorem KR.step(ok:Ok K W)(s:Step W W'){kvs:List (Key×D)}{vs:List (Key×V)}(h:KR K W kvs vs):KR K W' kvs vs:=Paired.mapP h fun _ _ ⟨e,q⟩=>⟨e,q.step ok s⟩
theorem NR.step(ok:Ok K W)(s:Step W W'){kvs:List (NK×D)}{vs:List (NK×V)}(h:NR K W kvs vs):NR K W' kvs vs:=Paired.mapP h fun _ _ ⟨e,q⟩=>⟨e,q.step ok s⟩
theorem FR.step(ok:Ok K W)(s:Step W W'){kvs:List (Str×D)}{vs:List (Str×V)}(h:FR K W kvs vs):FR K W' kvs vs:=Paired.mapP h fun _ _ ⟨e,q⟩=>⟨e,q.step ok s⟩
theorem OR.step(ok:Ok K W)(s:Step W W'){a:Addr}{o:Z9}{ho:HO}(h:OR K W a o ho):OR K W' a o ho:=by
 cases o with
 |lst ds=>obtain⟨vs,e,q⟩:=h;exact⟨vs,e,q.step ok s⟩
 |dK kvs=>obtain⟨vs,e,q⟩:=h;exact⟨vs,e,q.step ok s⟩
 |dN kvs=>obtain⟨vs,e,q⟩:=h;exact⟨vs,e,q.step ok s⟩
 |ins C fs=>obtain⟨vs,e,q⟩:=h;exact⟨vs,e,q.step ok s⟩
 |exc C=>exact h
theorem EnvR.step(e:EnvR K W B J)(ok:Ok K W)(s:Step W W'):EnvR K W' B J:=⟨e.len,fun i d h=>let ⟨v,a,b⟩:=e.at_ i d h;⟨v,a,b.step ok s⟩⟩
theorem DRs.length:∀{ds:List D} {vs:List V},DRs K W ds vs->ds.length=vs.length
 |_,_,.nil=>rfl
 |_,_,.cons _ t=>by simp[t.length]
theorem DRs.get:∀{ds:List D} {vs:List V} {i:Nat} {d:D},DRs K W ds vs->ds[i]?=some d->∃v,vs[i]?=some v/\DR K W d v
 |_,_,_,_,.nil,e=>by simp at e
 |_,_,0,_,.cons h _,e=>by simp at e;subst e;exact⟨_,rfl,h⟩
 |_,_,i+1,d,.cons _ t,e=>by
  obtain⟨v,h1,h2⟩:=DRs.get (i:=i) (d:=d) t (by simpa using e);exact(⟨v,by simpa using h1,h2⟩)
theorem DRs.append:∀{ds es:List D} {vs us:List V},DRs K W ds vs->DRs K W es us->DRs K W (ds++es) (vs++us)
 |_,_,_,_,.nil,s=>s
 |_,_,_,_,.cons h t,s=>.cons h (DRs.append t s)
theorem DRs.take:∀{ds:List D} {vs:List V} (n:Nat),DRs K W ds vs->DRs K W (ds.take n) (vs.take n)
 |_,_,0,_=>.nil
 |_,_,_+1,.nil=>.nil
 |_,_,n+1,.cons r t=>.cons r (DRs.take n t)
theorem DRs.drop:∀{ds:List D} {vs:List V} (n:Nat),DRs K W ds vs->DRs K W (ds.drop n) (vs.drop n)
 |_,_,0,r=>r
 |_,_,_+1,.nil=>.nil
 |_,_,n+1,.cons _ t=>DRs.drop n t
theorem DRs.set{d:D}{v:V}(r:DR K W d v):∀{ds:List D} {vs:List V} (i:Nat),DRs K W ds vs->DRs K W (ds.set i d) (vs.set i v)
 |_,_,_,.nil=>.nil
 |_,_,0,.cons _ t=>.cons r t
 |_,_,i+1,.cons q t=>.cons q (DRs.set r i t)
theorem DRs.rep{ds:List D}{vs:List V}(h:DRs K W ds vs):∀n,DRs K W (List.replicate n ds).flatten (List.replicate n vs).flatten
 |0=>.nil
 |n+1=>by simp only[Yy,List.flatten_cons];exact h.append (DRs.rep h n)
end
section
variable {K:Frag} {W:Wd}
def Wd.lay(W:Wd)(p:Addr)(o:HO):Wd:={W with H:=upd W.H p o}
theorem zoi(ok:Ok K W){p:Addr}(h:W.H p=none):¬RL W p:=fun⟨k,o,_,ha⟩=>ok.rs p (Yv ha) h
theorem G5(ok:Ok K W){p:Addr}(h:W.H p=none):¬W.hid p:=fun z=>(ok.hd p z).1 h
theorem U8(ok:Ok K W){p:Addr}(h:W.H p=none):¬zr W p:=fun z=>z.elim (zoi ok h) (G5 ok h)
theorem rX{p:Addr}{o:HO}(h:W.H p=none):Step W (W.lay p o) where
 ρ _ _ h:=h
 live _ h:=.inl h
 keep a u e _:=by show upd W.H p o a=_;rw[qW (sM e h)];exact e
 hid:=rfl
 still a n:=by
  show upd W.H p o a≠none;by_cases e:a=p
  ·subst e;rw[rQ];simp
  ·rw[qW e];exact n
theorem tf(ok:Ok K W){p:Addr}{o:HO}(h:W.H p=none):Ok K (W.lay p o) where
 len:=ok.len
 nd:=ok.nd
 rs a m:=(rX h).still a (ok.rs a m)
 at_ k u e:=by
  obtain⟨a,ho,h1,h2,h3⟩:=ok.at_ k u e;refine(⟨a,ho,h1,?_,h3.step ok (rX h)⟩);show upd W.H p o a=_;rw[qW (sM h2 h)];exact h2
 hd0 a z:=⟨(rX h).still a (ok.hd a z).1,(ok.hd0 a z).2⟩
theorem V0(ok:Ok K W){p:Addr}{o:HO}(h:W.H p=none):¬zr (W.lay p o) p:=U8 ok h
theorem yU(ok:Ok K W){p:Addr}{ds:List D}{vs:List V}(h:W.H p=none)(r:DRs K W ds vs):DR K (W.lay p (.lst vs)) (.lst ds) (.ref p):=
 .lst rQ (V0 ok h) (r.step ok (rX h))
theorem w9(ok:Ok K W){p:Addr}{ds:List D}{vs:List V}(h:W.H p=none)(r:DRs K W ds vs):DR K (W.lay p (.tup vs)) (.tup ds) (.ref p):=
 .tup rQ (r.step ok (rX h))
def Wd.new(W:Wd)(p:Addr)(o:HO)(x:Z9):Wd:={W with H:=upd W.H p o,ρ:=W.ρ++[p],O:=W.O++[some x]}
theorem BC{α:Type}{l:List α}{x y:α}{k:Nat}(h:(l++[x])[k]?=some y):l[k]?=some y\/(k=l.length/\y=x):=by
 by_cases hk:k<l.length
 ·rw[Xv hk] at h;exact .inl h
 ·rw[XR (by omega)] at h;have:k - l.length=0:=by
   cases e:k - l.length with
   |zero=>rfl
   |succ n=>rw[e] at h;simp at h
  rw[this] at h;simp at h;exact .inr ⟨by omega,h.symm⟩
theorem WR(ok:Ok K W){p a:Addr}{o:HO}{x:Z9}(h:RL (W.new p o x) a):RL W a\/a=p:=by
 obtain⟨k,u,h1,h2⟩:=h;rcases BC h1 with z|⟨e,_⟩
 ·rcases BC h2 with y|⟨e,y⟩
  ·exact .inl ⟨k,u,z,y⟩
  ·have:=(Xi.mp z).1;rw[e,ok.len] at this;omega
 ·rcases BC h2 with y|⟨_,y⟩
  ·have:=(Xi.mp y).1;rw[e,←ok.len] at this;omega
  ·exact .inr y
theorem vo(ok:Ok K W){p:Addr}{o:HO}{x:Z9}(h:W.H p=none):Step W (W.new p o x) where
 ρ k a e:=by
  show(W.ρ++[p])[k]?=_;rw[Xv (Xi.mp e).1];exact e
 live a z:=by
  rcases WR ok z with z|rfl
  ·exact .inl z
  ·exact .inr h
 keep a u e _:=by show upd W.H p o a=_;rw[qW (sM e h)];exact e
 hid:=rfl
 still a n:=by
  show upd W.H p o a≠none;by_cases e:a=p
  ·subst e;rw[rQ];simp
  ·rw[qW e];exact n
theorem zH(ok:Ok K W){p:Addr}{o:HO}{x:Z9}(h:W.H p=none)(r:OR K W p x o):Ok K (W.new p o x) where
 len:=by show(W.ρ++[p]).length=(W.O++[some x]).length;simp[ok.len]
 nd:=by
  show(W.ρ++[p]).Nodup;rw[YG];refine⟨ok.nd,by simp,fun a ha b hb e=>?_⟩;simp at hb;subst hb e;exact ok.rs _ ha h
 rs a m:=by
  rcases XN.mp m with m|m
  ·exact(vo ok h).still a (ok.rs a m)
  ·simp at m;subst m;show upd W.H a o a≠none;rw[rQ];simp
 at_ k u e:=by
  rcases BC e with e|⟨e,y⟩
  ·obtain⟨a,ho,h1,h2,h3⟩:=ok.at_ k u e;refine⟨a,ho,(vo ok h).ρ k a h1,?_,h3.step ok (vo ok h)⟩;show upd W.H p o a=_;rw[qW (sM h2 h)];exact h2
  ·cases y;rename_i hk;refine⟨p,o,?_,rQ,r.step ok (vo ok h)⟩;show(W.ρ++[p])[k]?=_;rw[hk,←ok.len];simp
 hd0 a z:=by
  refine⟨(vo ok h).still a (ok.hd a z).1,fun q=>?_⟩;have q:a∈W.ρ++[p]:=q;rcases XN.mp q with q|q
  ·exact(ok.hd0 a z).2 q
  ·simp at q;subst q;exact(ok.hd a z).1 h
theorem zJ(ok:Ok K W){p:Addr}{o:HO}{x:Z9}:DR K (W.new p o x) (.ref W.O.length) (.ref p):=by
 refine .ref ?_;show(W.ρ++[p])[W.O.length]?=_;rw[←ok.len];simp
def Wd.put(W:Wd)(k:Nat)(a:Addr)(o:HO)(x:Z9):Wd:={W with H:=upd W.H a o,O:=W.O.set k (some x)}
theorem VF{k:Nat}{a b:Addr}{o:HO}{x y:Z9}(hk:W.O[k]?=some (some y)):RL (W.put k a o x) b↔RL W b:=by
 have hlt:=(Xi.mp hk).1;constructor
 ·rintro⟨j,u,h1,h2⟩;have h1:(W.O.set k (some x))[j]?=some (some u):=h1;by_cases e:j=k
  ·subst e;exact⟨j,y,hk,h2⟩
  ·rw[XQ (Ne.symm e)] at h1;exact⟨j,u,h1,h2⟩
 ·rintro⟨j,u,h1,h2⟩;by_cases e:j=k
  ·subst e;exact⟨j,x,by show(W.O.set j (some x))[j]?=_;simp[hlt],h2⟩
  ·exact⟨j,u,by show(W.O.set k (some x))[j]?=_;rw[XQ (Ne.symm e)];exact h1,h2⟩
theorem wd{k:Nat}{a:Addr}{o:HO}{x y:Z9}(hk:W.O[k]?=some (some y))(ha:W.ρ[k]?=some a):Step W (W.put k a o x) where
 ρ _ _ h:=h
 live b z:=.inl ((VF hk).mp z)
 keep b u e n:=by
  have hne:b≠a:=fun z=>n (by rw[z];exact⟨k,y,hk,ha⟩);show upd W.H a o b=_;rw[qW hne];exact e
 hid:=rfl
 still b n:=by
  show upd W.H a o b≠none;by_cases e:b=a
  ·subst e;rw[rQ];simp
  ·rw[qW e];exact n
theorem B1(ok:Ok K W){k:Nat}{a:Addr}{o:HO}{x y:Z9}(hk:W.O[k]?=some (some y))(ha:W.ρ[k]?=some a)(r:OR K W a x o):Ok K (W.put k a o x) where
 len:=by show W.ρ.length=(W.O.set k (some x)).length;simp[ok.len]
 nd:=ok.nd
 rs b m:=(wd hk ha).still b (ok.rs b m)
 at_ j u e:=by
  have e:(W.O.set k (some x))[j]?=some (some u):=e;by_cases z:j=k
  ·subst z;have hlt:=(Xi.mp hk).1;simp[hlt] at e;subst e;exact⟨a,o,ha,rQ,r.step ok (wd hk ha)⟩
  ·rw[XQ (Ne.symm z)] at e;obtain⟨b,ho,h1,h2,h3⟩:=ok.at_ j u e;refine(⟨b,ho,h1,?_,h3.step ok (wd hk ha)⟩);have hne:b≠a:=fun q=>z (zr7 ok.nd h1 (by rw[q];exact ha));show upd W.H a o b=_;rw[qW hne];exact h2
 hd0 b z:=⟨(wd hk ha).still b (ok.hd b z).1,(ok.hd0 b z).2⟩
def Wd.hide(W:Wd)(p:Addr)(o:HO):Wd:={W with H:=upd W.H p o,hid:=fun a=>a=p\/W.hid a}
end
abbrev EV:=G->M->Fr
abbrev BV:=G->M->Option (Bool×M)
abbrev LV:=G->M->Option (List D×M)
inductive Out where
 |nx|bk|ct|rt (d:D)
abbrev SV:=G->M->Option (Out×G×M)
section
variable (K:Frag)
def tD(ev:EV):TE:=fun J H Q=>∃(W:Wd) (B:G) (d:D) (Z6:M),W.H=H/\Ok K W/\EnvR K W B J/\ev B W.O=some (d,Z6)/\∀v W',W'.O=Z6->Ok K W'->Step W W'->DR K W' d v->Q v W'.H
def tDB(ev:BV):TT:=fun J H Q=>∃(W:Wd) (B:G) (b:Bool) (Z6:M),W.H=H/\Ok K W/\EnvR K W B J/\ev B W.O=some (b,Z6)/\∀W',W'.O=Z6->Ok K W'->Step W W'->Q b W'.H
def tDL(ev:LV):TA:=fun J H Q=>∃(W:Wd) (B:G) (ds:List D) (Z6:M),W.H=H/\Ok K W/\EnvR K W B J/\ev B W.O=some (ds,Z6)/\∀vs W',W'.O=Z6->Ok K W'->Step W W'->DRs K W' ds vs->Q vs W'.H
def fin(D:Ends)(W':Wd)(Z0:St):Out->Prop
 | .nx=>D.nx Z0 W'.H
 | .bk=>D.bk Z0 W'.H
 | .ct=>D.ct Z0 W'.H
 | .rt d=>∀v,DR K W' d v->D.rt v W'.H
def tDS(es:SV):TS:=fun D J H=>∃(W:Wd) (B:G) (out:Out) (ZY:G) (Z6:M),W.H=H/\Ok K W/\EnvR K W B J/\es B W.O=some (out,ZY,Z6)/\∀W' Z0,W'.O=Z6->Ok K W'->Step W W'->EnvR K W' ZY Z0->fin K D W' Z0 out
end
section
variable {X:Cx} {e:Expr}
theorem rf{t t':TE}(h:PE X e t)(hi:∀J H Q,t' J H Q->t J H Q):PE X e t':=fun pins s J H Q I hw=>h pins s J H Q I (hi _ _ _ hw)
theorem wD{t t':TT}(h:PT X e t)(hi:∀J H Q,t' J H Q->t J H Q):PT X e t':=fun pins s J H Q I hw=>h pins s J H Q I (hi _ _ _ hw)
theorem LY{t t':TT}(h:PW X e t)(hi:∀J H Q,t' J H Q->t J H Q):PW X e t':=fun wh pins s J H Q I hw=>h wh pins s J H Q I (hi _ _ _ hw)
theorem Bn{es:List Expr}{t t':TA}(h:PA X es t)(hi:∀J H Q,t' J H Q->t J H Q):PA X es t':=fun pos pins s J H Q I hw=>h pos pins s J H Q I (hi _ _ _ hw)
theorem sN{st:Stmt}{t t':TS}(h:PS X st t)(hi:∀D J H,t' D J H->t D J H):PS X st t':=fun pins s J H D I hw=>h pins s J H D I (hi _ _ _ hw)
theorem zL{st:List Stmt}{t t':TS}(h:PSs X st t)(hi:∀D J H,t' D J H->t D J H):PSs X st t':=fun pins s J H D I hw=>h pins s J H D I (hi _ _ _ hw)
end
def bnd{α β:Type}{x:Option α}{f:α->Option β}{b:β}(h:x.bind f=some b):∃a,x=some a/\f a=some b:=Option.bind_eq_some_iff.mp h
def el4{α:Type}{p:Wd->Prop}{q:Wd->G->Prop}{r s:Wd->G->α->M->Prop}{Z:Prop}{H:Hp}(h:∃(W:Wd) (B:G) (d:α) (Z6:M),W.H=H/\p W/\q W B/\r W B d Z6/\s W B d Z6)(k:∀W B d Z6,W.H=H->p W->q W B->r W B d Z6->s W B d Z6->Z):Z:=by
 obtain⟨W,B,d,Z6,rfl,a,b,c,e⟩:=h;exact(k W B d Z6 rfl a b c e)
def el5{α β:Type}{p:Wd->Prop}{q:Wd->G->Prop}{r s:Wd->G->α->β->M->Prop}{Z:Prop}{H:Hp}(h:∃(W:Wd) (B:G) (d:α) (b:β) (Z6:M),W.H=H/\p W/\q W B/\r W B d b Z6/\s W B d b Z6)(k:∀W B d b Z6,W.H=H->p W->q W B->r W B d b Z6->s W B d b Z6->Z):Z:=by
 obtain⟨W,B,d,x,Z6,rfl,a,b,c,e⟩:=h;exact(k W B d x Z6 rfl a b c e)
def qC{α β:Type}{x:Option α}{f:α->Option β}{b:β}{Z:Prop}(h:x.bind f=some b)(k:∀a,x=some a->f a=some b->Z):Z:=by
 obtain⟨a,h1,h2⟩:=bnd h;exact(k a h1 h2)
def rK(O:M):D->Option (List D)
 | .lst ds=>some ds
 | .scr ds=>some ds
 | .ref k=>match O[k]? with
  |some (some (.lst ds))=>some ds
  |_=>none
 |_=>none
def xm(O:M):D->Option (List D)
 | .lst ds=>some ds
 | .ref k=>match O[k]? with
  |some (some (.lst ds))=>some ds
  |_=>none
 |_=>none
def uU:D->Option (List D)
 | .tup ds=>some ds
 | .gt ds=>some ds
 |_=>none
section
variable {K:Frag} {W:Wd} {d:D} {ds:List D} {v:V}
theorem yH(ok:Ok K W){k:Nat}(h:W.O[k]?=some (some (.lst ds)))(r:DR K W (.ref k) v):∃a vs,v=.ref a/\W.ρ[k]?=some a/\W.H a=some (.lst vs)/\DRs K W ds vs:=by
 cases r with
 |ref ha=>
  obtain⟨a',ho,h1,h2,vs,rfl,r⟩:=ok.at_ k _ h;rw[ha] at h1;cases h1;exact(⟨_,vs,rfl,ha,h2,r⟩)
theorem FE(ok:Ok K W)(h:xm W.O d=some ds)(r:DR K W d v):∃a vs,v=.ref a/\W.H a=some (.lst vs)/\DRs K W ds vs:=by
 cases d with
 |lst xs=>
  cases h;cases r with
  |lst r n h=>exact⟨_,_,rfl,r,h⟩
 |ref k=>
  simp only[xm] at h;split at h
  ·rename_i xs hk;cases h;obtain⟨a,vs,e,_,e2,e3⟩:=yH ok hk r;exact(⟨a,vs,e,e2,e3⟩)
  ·cases h
 |_=>cases h
theorem va(ok:Ok K W)(h:rK W.O d=some ds)(r:DR K W d v):∃a vs,v=.ref a/\SqL K W.H a vs/\DRs K W ds vs:=by
 cases d with
 |lst xs=>
  cases h;cases r with
  |lst r n h=>exact⟨_,_,rfl,SqL.of r,h⟩
 |scr xs=>
  cases h;cases r with
  |scr r h=>exact⟨_,_,rfl,r.seq,h⟩
 |ref k=>
  simp only[rK] at h;split at h
  ·rename_i xs hk;cases h;obtain⟨a,vs,e,_,e2,e3⟩:=yH ok hk r;exact(⟨a,vs,e,SqL.of e2,e3⟩)
  ·cases h
 |_=>cases h
theorem vy(h:uU d=some ds)(r:DR K W d v):∃a vs,v=.ref a/\SqT K W.H a vs/\DRs K W ds vs:=by
 cases d with
 |tup xs=>
  cases h;cases r with
  |tup r h=>exact⟨_,_,rfl,SqT.of r,h⟩
 |gt xs=>
  cases h;cases r with
  |gt r h=>exact⟨_,_,rfl,r,h⟩
 |_=>cases h
theorem LI{vs:List V}{i:Int}(r:DRs K W ds vs)(h:atI ds i=some d):∃v,atI vs i=some v/\DR K W d v:=by
 unfold atI at h⊢;refine qC h fun j h1 h2=>?_;rw[r.length] at h1;obtain⟨v,e,q⟩:=r.get h2;exact⟨v,by rw[h1];exact e,q⟩
end
def be(i:Nat):EV:=fun B O=>match B[i]? with
 |some (some d)=>some (d,O)
 |_=>none
def vC(d:D):EV:=fun _ O=>some (d,O)
def v2(f:D->D->M->Fr)(ea eb:EV):EV:=fun B O=>(ea B O).bind fun p=>(eb B p.2).bind fun q=>f p.1 q.1 q.2
def v1(f:D->M->Fr)(ea:EV):EV:=fun B O=>(ea B O).bind fun p=>f p.1 p.2
def R2A(K:Frag)(r:R2)(f:D->D->M->Fr):Prop:=∀(W:Wd) (x y:V) (d e z:D) (Z6:M) (Q:VK),Ok K W->DR K W d x->DR K W e y->f d e W.O=some (z,Z6)->
 (∀v W',W'.O=Z6->Ok K W'->Step W W'->DR K W' z v->Q v W'.H)->r x y W.H Q
def R1A(K:Frag)(r:V->Hp->VK->Prop)(f:D->M->Fr):Prop:=∀(W:Wd) (x:V) (d z:D) (Z6:M) (Q:VK),Ok K W->DR K W d x->f d W.O=some (z,Z6)->
 (∀v W',W'.O=Z6->Ok K W'->Step W W'->DR K W' z v->Q v W'.H)->r x W.H Q
def vT(ev:EV):BV:=fun B O=>(ev B O).bind fun p=>match p.1 with
 | .bl b=>some (b,p.2)
 |_=>none
section
variable {X:Cx} {K:Frag} {a b:Expr} {ea eb:EV} {pos:Pos}
theorem qx(i:Nat){x:Str}(hN:X.N[i]?=some x:=by rfl)(hv:Vis X.env.scope x:=by first|exact Or.inl rfl|exact Or.inr (Or.inl rfl)|exact Or.inr (Or.inr rfl))(hd:(x==("__debug__":Str))=false:=by decide)
  (hcd:(x==("__classdict__":Str))=false:=by decide):PE X (.Name x pos) (tD K (be i)):=rf (Jf hN hv hd hcd) fun J H Q h=>by
 refine el4 h fun W B d Z6 eH ok en e q=>?_;subst eH;unfold be at e;split at e
 ·rename_i d' hd;cases e;obtain⟨v,hv,r⟩:=en.at_ i _ hd;exact(⟨v,hv,q v W rfl ok .refl r⟩)
 ·cases e
theorem y7{d:D}{v:V}(h:∀W,DR K W d v):∀J H Q,tD K (vC d) J H Q->tC v J H Q:=fun J H Q hh=>by
 obtain⟨W,B,d,Z6,rfl,ok,en,e,q⟩:=hh;cases e;exact(q v W rfl ok .refl (h W))
theorem qH{i j}:PE X (.Constant (.int i) j pos) (tD K (vC (.int i))):=rf Og (y7 fun _=>.int i)
theorem tF{b j}:PE X (.Constant (.bool b) j pos) (tD K (vC (.bl b))):=rf Vk (y7 fun _=>.bl b)
theorem vF{j}:PE X (.Constant .none j pos) (tD K (vC .non)):=rf VZ (y7 fun _=>.non)
theorem uZ{x j}:PE X (.Constant (.str x) j pos) (tD K (vC (.str x))):=rf IC (y7 fun _=>.str x)
theorem wV{x:Str}{d:D}{v:V}{u:Value}(hm:X.mg x=some u)(r:RelV v u)(h:∀W,DR K W d v)(hg:Gl X x:=by rfl)(hd:(x==("__debug__":Str))=false:=by decide):PE X (.Name x pos) (tD K (vC d)):=rf (zvz hg hm r hd) (y7 h)
theorem xp{r:R2}{f:D->D->M->Fr}(ra:R2A K r f):∀J H Q,tD K (v2 f ea eb) J H Q->tOp r (tD K ea) (tD K eb) J H Q:=fun J H Q h=>by
 refine el4 h fun W B d Z6 eH ok en e q=>?_;subst eH;refine qC e fun p1 e1 e=>?_;refine qC e fun p2 e2 e=>?_;refine⟨W,B,p1.1,p1.2,rfl,ok,en,e1,fun x W1 Z2 ok1 s1 r1=>⟨W1,B,p2.1,p2.2,rfl,ok1,en.step ok s1,by rw[Z2];exact e2,fun y W2 ZV ok2 s2 r2=>?_⟩⟩;exact ra W2 x y _ _ _ _ Q ok2 (r1.step ok1 s2) r2 (by rw[ZV];exact e) fun v W3 ZS ok3 s3 r3=>q v W3 ZS ok3 ((s1.trans s2).trans s3) r3
theorem xr{r:V->Hp->VK->Prop}{f:D->M->Fr}(ra:R1A K r f):∀J H Q,tD K (v1 f ea) J H Q->(fun J H Q=>tD K ea J H fun x H1=>r x H1 Q:TE) J H Q:=fun J H Q h=>by
 refine el4 h fun W B d Z6 eH ok en e q=>?_;subst eH;refine qC e fun p1 e1 e=>?_;refine⟨W,B,p1.1,p1.2,rfl,ok,en,e1,fun x W1 Z2 ok1 s1 r1=>?_⟩;exact ra W1 x _ _ _ Q ok1 r1 (by rw[Z2];exact e) fun v W3 ZS ok3 s3 r3=>q v W3 ZS ok3 (s1.trans s3) r3
theorem x4{op:Operator}{r:R2}{f:D->D->M->Fr}(ho:OpR X (binaryOp op) r)(ra:R2A K r f)(ha:PE X a (tD K ea))(hb:PE X b (tD K eb)):PE X (.BinOp a op b pos) (tD K (v2 f ea eb)):=rf (y52 ho ha hb) (xp ra)
theorem BW{op:CmpOp}{r:R2}{f:D->D->M->Fr}(ho:OpR X (compareOp op) r)(ra:R2A K r f)(ha:PE X a (tD K ea))(hb:PE X b (tD K eb))(hm:behindInMarks op b=false):PE X (.Compare a [op] [b] pos) (tD K (v2 f ea eb)):=rf (K7 ho ha hb hm) (xp ra)
theorem Fe{t:TE}(h:∀J H Q,tD K ea J H Q->t J H Q):∀J H Q,tDB K (vT ea) J H Q->DM t J H Q:=fun J H Q hh=>by
 obtain⟨W,B,k,Z6,rfl,ok,en,e,q⟩:=hh;refine qC e fun p1 e1 e=>?_;refine(h J _ _ ⟨W,B,p1.1,p1.2,rfl,ok,en,e1,fun x W1 Z2 ok1 s1 r1=>?_⟩);split at e
 ·rename_i k' hk;cases e;rw[hk] at r1;cases r1;exact⟨_,rfl,q W1 Z2 ok1 s1⟩
 ·cases e
theorem wX{op:CmpOp}{r:R2}{f:D->D->M->Fr}(ho:OpR X (compareOp op) r)(ra:R2A K r f)(ha:PE X a (tD K ea))(hb:PE X b (tD K eb))(hm:behindInMarks op b=false):PT X (.Compare a [op] [b] pos) (tDB K (vT (v2 f ea eb))):=wD (Rp ho ha hb hm) (Fe (xp ra))
end
def fI0(g:Int->Int->D):D->D->M->Fr
 | .int i,.int j,O=>some (g i j,O)
 |_,_,_=>none
def fI(C:Int->Int->Prop) [∀i j,Decidable (C i j)](g:Int->Int->D):D->D->M->Fr
 | .int i,.int j,O=>if C i j then some (g i j,O) else none
 |_,_,_=>none
section
variable {K:Frag}
theorem vI{g:Int->Int->V}{h:Int->Int->D}(hh:∀W i j,DR K W (h i j) (g i j)):R2A K (rI0 g) (fI0 h):=by
 intro W x y d e z Z6 Q ok r1 r2 hf q;unfold fI0 at hf;split at hf
 ·cases hf;cases r1;cases r2;exact⟨_,_,rfl,rfl,q _ W rfl ok .refl (hh W _ _)⟩
 ·cases hf
theorem Ac{C:Int->Int->Prop} [∀i j,Decidable (C i j)]{g:Int->Int->V}{h:Int->Int->D}(hh:∀W i j,DR K W (h i j) (g i j)):R2A K (rI C g) (fI C h):=by
 intro W x y d e z Z6 Q ok r1 r2 hf q;unfold fI at hf;split at hf
 ·split at hf
  ·rename_i hc;cases hf;cases r1;cases r2;exact⟨_,_,rfl,rfl,hc,q _ W rfl ok .refl (hh W _ _)⟩
  ·cases hf
 ·cases hf
end
noncomputable instance{i j:Int}:Decidable (CMul i j):=by unfold CMul;infer_instance
noncomputable instance{i j:Int}:Decidable (ub i j):=by unfold ub;infer_instance
def w6(_ j:Int):Prop:=0<j/\j<2^200
def uT(_ j:Int):Prop:=0<j
noncomputable instance{i j:Int}:Decidable (w6 i j):=by unfold w6;infer_instance
noncomputable instance{i j:Int}:Decidable (uT i j):=by unfold uT;infer_instance
section
variable {X:Cx} {K:Frag} {a b c:Expr} {ea eb:EV} {pos:Pos}
abbrev BS:=fI0 fun i j=>.int (i+j)
abbrev yl:=fI0 fun i j=>.int (i - j)
abbrev DP:=fI w6 fun i j=>.int (i/j)
abbrev zC:=fI uT fun i j=>.int (i%j)
abbrev vt:=fI ub fun i j=>.int (i^j.toNat)
abbrev fLt:=fI0 fun i j=>.bl (decide (i<j))
abbrev fLe:=fI0 fun i j=>.bl (decide (i<=j))
abbrev fGt:=fI0 fun i j=>.bl (decide (j<i))
abbrev fGe:=fI0 fun i j=>.bl (decide (j<=i))
theorem B2(ha:PE X a (tD K ea))(hb:PE X b (tD K eb)):PE X (.BinOp a .Sub b pos) (tD K (v2 yl ea eb)):=x4 y1e (vI fun _ _ _=>.int _) ha hb
theorem MK(ha:PE X a (tD K ea))(hb:PE X b (tD K eb)):PE X (.BinOp a .FloorDiv b pos) (tD K (v2 DP ea eb)):=x4 Ol (Ac (C:=w6) fun _ _ _=>.int _) ha hb
theorem AW(ha:PE X a (tD K ea))(hb:PE X b (tD K eb)):PE X (.BinOp a .Mod b pos) (tD K (v2 zC ea eb)):=x4 Sh (Ac (C:=uT) fun _ _ _=>.int _) ha hb
theorem xW(ha:PE X a (tD K ea))(hb:PE X b (tD K eb)):PE X (.BinOp a .Pow b pos) (tD K (v2 vt ea eb)):=x4 y1g (Ac fun _ _ _=>.int _) ha hb
theorem Tm(ha:PE X a (tD K ea))(hb:PE X b (tD K eb)):PE X (.Compare a [.LtE] [b] pos) (tD K (v2 fLe ea eb)):=BW BA (vI fun _ _ _=>.bl _) ha hb (u3 _)
theorem D7(ha:PE X a (tD K ea))(hb:PE X b (tD K eb)):PT X (.Compare a [.Lt] [b] pos) (tDB K (vT (v2 fLt ea eb))):=wX Bi (vI fun _ _ _=>.bl _) ha hb (u3 _)
theorem xi(ha:PE X a (tD K ea))(hb:PE X b (tD K eb)):PT X (.Compare a [.Gt] [b] pos) (tDB K (vT (v2 fGt ea eb))):=wX Xa (vI fun _ _ _=>.bl _) ha hb (u3 _)
def vO:D->M->Fr
 | .int i,O=>some (.int (-i),O)
 |_,_=>none
theorem Iz(ha:PE X a (tD K ea)):PE X (.UnaryOp .USub a pos) (tD K (v1 vO ea)):=rf (Uq Oi ha) (xr (by
 intro W x d z Z6 Q ok r1 hf q;unfold vO at hf;split at hf
 ·cases hf;cases r1;exact⟨_,rfl,q _ W rfl ok .refl (.int _)⟩
 ·cases hf))
def vU(t u:BV):BV:=fun B O=>(t B O).bind fun p=>if p.1=true then u B p.2 else some (false,p.2)
def bOr(t u:BV):BV:=fun B O=>(t B O).bind fun p=>if p.1=true then some (true,p.2) else u B p.2
def tm(t:BV):BV:=fun B O=>(t B O).bind fun p=>some (!p.1,p.2)
variable {ba bb:BV} {qO:List Expr}
theorem zsj:∀J H Q,tDB K (vU ba bb) J H Q->Ge (tDB K ba) (tDB K bb) J H Q:=fun J H Q h=>by
 refine el4 h fun W B k Z6 eH ok en e q=>?_;subst eH;refine qC e fun p1 e1 e=>?_;refine⟨W,B,p1.1,p1.2,rfl,ok,en,e1,fun W1 Z2 ok1 s1=>?_⟩;split at e
 ·rename_i hp;rw[if_pos hp];exact⟨W1,B,k,Z6,rfl,ok1,en.step ok s1,by rw[Z2];exact e,fun W2 ZV ok2 s2=>q W2 ZV ok2 (s1.trans s2)⟩
 ·rename_i hp;cases e;rw[if_neg hp];exact q W1 Z2 ok1 s1
theorem Ty:∀J H Q,tDB K (bOr ba bb) J H Q->tOr (tDB K ba) (tDB K bb) J H Q:=fun J H Q h=>by
 refine el4 h fun W B k Z6 eH ok en e q=>?_;subst eH;refine qC e fun p1 e1 e=>?_;refine⟨W,B,p1.1,p1.2,rfl,ok,en,e1,fun W1 Z2 ok1 s1=>?_⟩;split at e
 ·rename_i hp;cases e;rw[if_pos hp];exact q W1 Z2 ok1 s1
 ·rename_i hp;rw[if_neg hp];exact⟨W1,B,k,Z6,rfl,ok1,en.step ok s1,by rw[Z2];exact e,fun W2 ZV ok2 s2=>q W2 ZV ok2 (s1.trans s2)⟩
theorem JI(ha:PT X a (tDB K ba)):PW X (.BoolOp .And [a] pos) (tDB K ba):=zvj ha
theorem y1(ha:PT X a (tDB K ba)):PW X (.BoolOp .Or [a] pos) (tDB K ba):=PL ha
theorem Lo(ha:PT X a (tDB K ba))(hb:PW X (.BoolOp .And (b::qO) pos) (tDB K bb)):PW X (.BoolOp .And (a::b::qO) pos) (tDB K (vU ba bb)):=LY (WP ha hb) zsj
theorem wS(ha:PT X a (tDB K ba))(hb:PW X (.BoolOp .Or (b::qO) pos) (tDB K bb)):PW X (.BoolOp .Or (a::b::qO) pos) (tDB K (bOr ba bb)):=LY (Sk ha hb) Ty
theorem vg(ha:PT X a (tDB K ba)):PT X (.UnaryOp .Not a pos) (tDB K (tm ba)):=wD (MQ ha) fun J H Q h=>by
 refine el4 h fun W B k Z6 eH ok en e q=>?_;subst eH;refine qC e fun p1 e1 e=>?_;cases e;exact⟨W,B,p1.1,p1.2,rfl,ok,en,e1,fun W1 Z2 ok1 s1=>q W1 Z2 ok1 s1⟩
def vIf(t:BV)(ea eb:EV):EV:=fun B O=>(t B O).bind fun p=>if p.1=true then ea B p.2 else eb B p.2
theorem z7(hc:PT X c (tDB K ba))(ha:PE X a (tD K ea))(hb:PE X b (tD K eb)):PE X (.IfExp c a b pos) (tD K (vIf ba ea eb)):=rf (Wn hc ha hb) fun J H Q h=>by
 refine el4 h fun W B d Z6 eH ok en e q=>?_;subst eH;refine qC e fun p1 e1 e=>?_;refine⟨W,B,p1.1,p1.2,rfl,ok,en,e1,fun W1 Z2 ok1 s1=>?_⟩;split at e
 ·rename_i hp;rw[if_pos hp];exact⟨W1,B,d,Z6,rfl,ok1,en.step ok s1,by rw[Z2];exact e,fun v W2 ZV ok2 s2 r2=>q v W2 ZV ok2 (s1.trans s2) r2⟩
 ·rename_i hp;rw[if_neg hp];exact⟨W1,B,d,Z6,rfl,ok1,en.step ok s1,by rw[Z2];exact e,fun v W2 ZV ok2 s2 r2=>q v W2 ZV ok2 (s1.trans s2) r2⟩
def Fv(ea eb:EV):EV:=fun B O=>(ea B O).bind fun p=>match p.1 with
 | .bl true=>eb B p.2
 | .bl false=>some (.bl false,p.2)
 |_=>none
def vOr(ea eb:EV):EV:=fun B O=>(ea B O).bind fun p=>match p.1 with
 | .bl true=>some (.bl true,p.2)
 | .bl false=>eb B p.2
 |_=>none
def Jp:D->M->Fr
 | .bl b,O=>some (.bl (!b),O)
 |_,_=>none
theorem Fb{op}(h:PE X a (tD K ea)):PE X (.BoolOp op [a] pos) (tD K ea):=QR h
theorem SI(ha:PE X a (tD K ea))(hb:PE X (.BoolOp .And (b::qO) pos) (tD K eb)):PE X (.BoolOp .And (a::b::qO) pos) (tD K (Fv ea eb)):=rf (US ha hb) fun J H Q h=>by
 refine el4 h fun W B d Z6 eH ok en e q=>?_;subst eH;refine qC e fun p1 e1 e=>?_;refine⟨W,B,p1.1,p1.2,rfl,ok,en,e1,fun x W1 Z2 ok1 s1 r1=>?_⟩;split at e
 ·rename_i hp;rw[hp] at r1;cases r1;exact⟨true,rfl,Ct ⟨W1,B,d,Z6,rfl,ok1,en.step ok s1,by rw[Z2];exact e,fun v W2 ZV ok2 s2 r2=>q v W2 ZV ok2 (s1.trans s2) r2⟩⟩
 ·rename_i hp;rw[hp] at r1;cases r1;cases e;exact⟨false,rfl,FD (q _ W1 Z2 ok1 s1 (.bl _))⟩
 ·cases e
theorem MT(ha:PE X a (tD K ea))(hb:PE X (.BoolOp .Or (b::qO) pos) (tD K eb)):PE X (.BoolOp .Or (a::b::qO) pos) (tD K (vOr ea eb)):=rf (y51 ha hb) fun J H Q h=>by
 refine el4 h fun W B d Z6 eH ok en e q=>?_;subst eH;refine qC e fun p1 e1 e=>?_;refine⟨W,B,p1.1,p1.2,rfl,ok,en,e1,fun x W1 Z2 ok1 s1 r1=>?_⟩;split at e
 ·rename_i hp;rw[hp] at r1;cases r1;cases e;exact⟨true,rfl,Ct (q _ W1 Z2 ok1 s1 (.bl _))⟩
 ·rename_i hp;rw[hp] at r1;cases r1;exact⟨false,rfl,FD ⟨W1,B,d,Z6,rfl,ok1,en.step ok s1,by rw[Z2];exact e,fun v W2 ZV ok2 s2 r2=>q v W2 ZV ok2 (s1.trans s2) r2⟩⟩
 ·cases e
end
def rD{α β:Type}(f:α->Option β):List α->Option (List β)
 | []=>some []
 |x::r=>(f x).bind fun y=>(rD f r).bind fun ys=>some (y::ys)
section
variable {X:Cx} {K:Frag} {a b e:Expr} {ea eb:EV} {pos p:Pos} {es:List Expr} {el:LV}
def qD:LV:=fun _ O=>some ([],O)
def qy(ea:EV)(el:LV):LV:=fun B O=>(ea B O).bind fun p=>(el B p.2).bind fun q=>some (p.1::q.1,q.2)
theorem qG:PA X [] (tDL K qD):=Bn sV fun J H Q h=>by
 refine el4 h fun W B ds Z6 eH ok en e q=>?_;subst eH;cases e;exact q [] W rfl ok .refl .nil
theorem Sz:∀J H Q,tDL K (qy ea el) J H Q->t5 (tD K ea) (tDL K el) J H Q:=fun J H Q h=>by
 refine el4 h fun W B ds Z6 eH ok en e q=>?_;subst eH;refine qC e fun p1 e1 e=>?_;refine qC e fun p2 e2 e=>?_;cases e;exact⟨W,B,p1.1,p1.2,rfl,ok,en,e1,fun x W1 Z2 ok1 s1 r1=>⟨W1,B,p2.1,p2.2,rfl,ok1,en.step ok s1,by rw[Z2];exact e2,fun vs W2 ZV ok2 s2 r2=>q _ W2 ZV ok2 (s1.trans s2) (.cons (r1.step ok1 s2) r2)⟩⟩
theorem qB(ha:PE X e (tD K ea))(hr:PA X es (tDL K el))(hs:starEach (e::es) X.env=(false,eval e X.env)::starEach es X.env:=by rfl):PA X (e::es) (tDL K (qy ea el)):=Bn (sq ha hr hs) Sz
def RLA(K:Frag)(r:List V->Hp->VK->Prop)(f:C0):Prop:=∀(W:Wd) (xs:List V) (ds:List D) (z:D) (Z6:M) (Q:VK),Ok K W->DRs K W ds xs->f ds W.O=some (z,Z6)->
 (∀v W',W'.O=Z6->Ok K W'->Step W W'->DR K W' z v->Q v W'.H)->r xs W.H Q
def vL(f:C0)(el:LV):EV:=fun B O=>(el B O).bind fun p=>f p.1 p.2
theorem AG{r:List V->Hp->VK->Prop}{f:C0}(ra:RLA K r f):∀J H Q,tD K (vL f el) J H Q->(fun J H Q=>tDL K el J H fun vs H1=>r vs H1 Q:TE) J H Q:=fun J H Q h=>by
 refine el4 h fun W B d Z6 eH ok en e q=>?_;subst eH;refine qC e fun p1 e1 e=>?_;exact⟨W,B,p1.1,p1.2,rfl,ok,en,e1,fun vs W1 Z2 ok1 s1 r1=>ra W1 vs _ _ _ Q ok1 r1 (by rw[Z2];exact e) fun v W3 ZS ok3 s3 r3=>q v W3 ZS ok3 (s1.trans s3) r3⟩
def sd(ds:List D)(O:M):Fr:=if ds.length<=1000 then some (.lst ds,O) else none
def sj(ds:List D)(O:M):Fr:=if ds.length<=1000 then some (.tup ds,O) else none
def uz(ds:List D)(O:M):Fr:=if ds.length<=1000 then some (.ref O.length,O++[some (.lst ds)]) else none
theorem Tx:RLA K (fun xs H1 Q=>xs.length<=sizeLine/\∀p,H1 p=none->Q (.ref p) (upd H1 p (.lst xs))) sd:=by
 intro W xs ds z Z6 Q ok r hf q;unfold sd at hf;split at hf
 ·rename_i hl;cases hf;exact⟨vP (by rw[←r.length];omega),fun p hp=>q _ (W.lay p (.lst xs)) rfl (tf ok hp) (rX hp) (yU ok hp r)⟩
 ·cases hf
theorem OG:RLA K (fun xs H1 Q=>xs.length<=sizeLine/\∀p,H1 p=none->Q (.ref p) (upd H1 p (.tup xs))) sj:=by
 intro W xs ds z Z6 Q ok r hf q;unfold sj at hf;split at hf
 ·rename_i hl;cases hf;exact⟨vP (by rw[←r.length];omega),fun p hp=>q _ (W.lay p (.tup xs)) rfl (tf ok hp) (rX hp) (w9 ok hp r)⟩
 ·cases hf
theorem Oe:RLA K (fun xs H1 Q=>xs.length<=sizeLine/\∀p,H1 p=none->Q (.ref p) (upd H1 p (.lst xs))) uz:=by
 intro W xs ds z Z6 Q ok r hf q;unfold uz at hf;split at hf
 ·rename_i hl;cases hf;exact⟨vP (by rw[←r.length];omega),fun p hp=>q _ (W.new p (.lst xs) (.lst ds)) rfl (zH ok hp ⟨xs,rfl,r⟩) (vo ok hp) (zJ ok)⟩
 ·cases hf
theorem tS(h:PA X es (tDL K el)):PE X (.List es pos) (tD K (vL sd el)):=rf (K9 h) (AG Tx)
theorem FL(h:PA X es (tDL K el)):PE X (.List es pos) (tD K (vL uz el)):=rf (K9 h) (AG Oe)
theorem uN{k}(h:PA X es (tDL K el)):PE X (.Tuple es k pos) (tD K (vL sj el)):=rf (Qr h) (AG OG)
def fIx(x y:D)(O:M):Fr:=match y with
 | .int i=>match rK O x with
  |some ds=>(atI ds i).bind fun d=>some (d,O)
  |none=>match uU x with
   |some ds=>(atI ds i).bind fun d=>some (d,O)
   |none=>none
 |_=>none
theorem O8:R2A K (rIx K) fIx:=by
 intro W x y d e z Z6 Q ok r1 r2 hf q;unfold fIx at hf;split at hf
 ·cases r2;split at hf
  ·rename_i ds hd;refine qC hf fun u hu hf=>?_;cases hf;obtain⟨a,vs,rfl,hs,hv⟩:=va ok hd r1;obtain⟨v,hv1,hv2⟩:=LI hv hu;exact(.inl ⟨a,vs,_,v,rfl,rfl,hs,hv1,q v W rfl ok .refl hv2⟩)
  ·split at hf
   ·rename_i ds hd;refine qC hf fun u hu hf=>?_;cases hf;obtain⟨a,vs,rfl,hs,hv⟩:=vy hd r1;obtain⟨v,hv1,hv2⟩:=LI hv hu;exact(.inr (.inl ⟨a,vs,_,v,rfl,rfl,hs,hv1,q v W rfl ok .refl hv2⟩))
   ·cases hf
 ·cases hf
theorem rh(ha:PE X a (tD K ea))(hb:PE X b (tD K eb))(hs:Mp b:=by exact fun _ _=>rfl)(hK:X.K=K:=by rfl):PE X (.Subscript a b pos) (tD K (v2 fIx ea eb)):=by
 subst hK;exact rf (Qh Ph ha hb hs) (xp O8)
abbrev OV:=G->M->Option (Option Int×M)
def xV:OV:=fun _ O=>some (none,O)
def wR(ea:EV):OV:=fun B O=>(ea B O).bind fun p=>match p.1 with
 | .int i=>some (some i,p.2)
 |_=>none
def tDO(K:Frag)(ev:OV):TO:=fun J H Q=>∃(W:Wd) (B:G) (b:Option Int) (Z6:M),W.H=H/\Ok K W/\EnvR K W B J/\ev B W.O=some (b,Z6)/\∀W',W'.O=Z6->Ok K W'->Step W W'->Q b W'.H
theorem Mu{o:Option Expr}{t t':TO}(h:PO X o t)(hi:∀J H Q,t' J H Q->t J H Q):PO X o t':=fun pins s J H Q I hw=>h pins s J H Q I (hi _ _ _ hw)
theorem DS:PO X none (tDO K xV):=Mu T6 fun J H Q h=>by
 refine el4 h fun W B b Z6 eH ok en e q=>?_;subst eH;cases e;exact q W rfl ok .refl
theorem z6(h:PE X e (tD K ea)):PO X (some e) (tDO K (wR ea)):=Mu (P7 h) fun J H Q h=>by
 refine el4 h fun W B b Z6 eH ok en e q=>?_;subst eH;refine qC e fun p1 e1 e=>?_;refine⟨W,B,p1.1,p1.2,rfl,ok,en,e1,fun x W1 Z2 ok1 s1 r1=>?_⟩;split at e
 ·rename_i i hi;cases e;rw[hi] at r1;cases r1;exact⟨_,rfl,q W1 Z2 ok1 s1⟩
 ·cases e
def vV(xs:List D)(lo hi:Option Int):List D:=(xs.drop (HT.sIx xs.length 0 lo)).take (HT.sIx xs.length xs.length hi - HT.sIx xs.length 0 lo)
theorem IK{W:Wd}{ds:List D}{vs:List V}(r:DRs K W ds vs)(lo hi:Option Int):DRs K W (vV ds lo hi) (uY vs lo hi):=by
 unfold vV uY;rw[r.length];exact(r.drop _).take _
def fSl(x:D)(lo hi:Option Int)(O:M):Fr:=match rK O x with
 |some ds=>some (.lst (vV ds lo hi),O)
 |none=>match uU x with
  |some ds=>if HT.sIx ds.length 0 lo=0/\HT.sIx ds.length ds.length hi=ds.length then none else some (.tup (vV ds lo hi),O)
  |none=>none
def vSl(ea:EV)(lo hi:OV):EV:=fun B O=>(ea B O).bind fun p=>(lo B p.2).bind fun l=>(hi B l.2).bind fun h=>fSl p.1 l.1 h.1 h.2
theorem BO{lo hi:Option Expr}{ol oh:OV}{p2:Pos}(he:PE X e (tD K ea))(hl:PO X lo (tDO K ol))(hu:PO X hi (tDO K oh))(hK:X.K=K:=by rfl):PE X (.Subscript e (.Slice lo hi none p2) pos) (tD K (vSl ea ol oh)):=by
 subst hK;refine rf (TD (sl_list.or sl_tup) he hl hu) fun J H Q h=>?_;refine el4 h fun W B d Z6 eH ok en e q=>?_;subst eH;refine qC e fun p1 e1 e=>?_;refine qC e fun p2 e2 e=>?_;refine qC e fun p3 e3 e=>?_;refine⟨W,B,p1.1,p1.2,rfl,ok,en,e1,fun x W1 Z2 ok1 s1 r1=>⟨W1,B,p2.1,p2.2,rfl,ok1,en.step ok s1,by rw[Z2];exact e2,fun W2 ZV ok2 s2=>⟨W2,B,p3.1,p3.2,rfl,ok2,(en.step ok s1).step ok1 s2,by rw[ZV];exact e3,fun W3 ZS ok3 s3=>?_⟩⟩⟩;have r3:=(r1.step ok1 s2).step ok2 s3;have st:=(s1.trans s2).trans s3;unfold fSl at e;rw[←ZS] at e;split at e
 ·rename_i ds hd;cases e;obtain⟨a,vs,rfl,hs,hv⟩:=va ok3 hd r3;exact(.inl ⟨a,vs,rfl,hs,fun p hp=>q _ (W3.lay p (.lst (uY vs p2.1 p3.1))) rfl (tf ok3 hp) (st.trans (rX hp)) (yU ok3 hp (IK hv _ _))⟩)
 ·split at e
  ·rename_i ds hd;split at e
   ·cases e
   ·rename_i hn;cases e;obtain⟨a,vs,rfl,hs,hv⟩:=vy hd r3;rw[hv.length] at hn;exact(.inr ⟨a,vs,rfl,hs,hn,fun p hp=>q _ (W3.lay p (.tup (uY vs p2.1 p3.1))) rfl (tf ok3 hp) (st.trans (rX hp)) (w9 ok3 hp (IK hv _ _))⟩)
  ·cases e
def y0(x y:D)(O:M):Fr:=(xm O x).bind fun xs=>(xm O y).bind fun ys=>if xs.length+ys.length<=1000000 then some (.lst (xs++ys),O) else none
def Hf(x y:D)(O:M):Fr:=(xm O x).bind fun xs=>match y with
 | .int k=>if -1000000<=k/\k<=1000000/\xs.length*k.toNat<=1000000 then some (.lst (List.replicate k.toNat xs).flatten,O) else none
 |_=>none
def rN(x:D)(O:M):Fr:=match rK O x with
 |some ds=>some (.int ds.length,O)
 |none=>match uU x with
  |some ds=>some (.int ds.length,O)
  |none=>none
theorem uC(ml:X.mg "len"=none) (ha:PE X a (tD K ea)) (hg:Gl X "len":=by rfl) (hs:starEach [a] X.env=[(false,eval a X.env)]:=by rfl) (hK:X.K=K:=by rfl):PE X (.Call (.Name "len" p) [a] [] pos) (tD K (v1 rN ea)):=rf (Wu K ml ha hg hs hK) (xr (by
 intro W x d z Z6 Q ok r1 hf q;unfold rN at hf;split at hf
 ·rename_i ds hd;cases hf;obtain⟨a,vs,rfl,hs,hv⟩:=va ok hd r1;exact⟨a,vs,rfl,.inl hs,by rw[←hv.length];exact q _ W rfl ok .refl (.int _)⟩
 ·split at hf
  ·rename_i ds hd;cases hf;obtain⟨a,vs,rfl,hs,hv⟩:=vy hd r1;exact⟨a,vs,rfl,.inr hs,by rw[←hv.length];exact q _ W rfl ok .refl (.int _)⟩
  ·cases hf))
def zV(O:M)(x:D):Option (List D):=match rK O x with
 |some ds=>some ds
 |none=>uU x
theorem NZ{W:Wd}{d:D}{ds:List D}{v:V}(ok:Ok K W)(h:zV W.O d=some ds)(r:DR K W d v):∃a vs,v=.ref a/\(SqL K W.H a vs\/SqT K W.H a vs)/\DRs K W ds vs:=by
 unfold zV at h;split at h
 ·rename_i ds' hd;cases h;obtain⟨a,vs,e,hs,hv⟩:=va ok hd r;exact(⟨a,vs,e,.inl hs,hv⟩)
 ·obtain⟨a,vs,e,hs,hv⟩:=vy h r;exact⟨a,vs,e,.inr hs,hv⟩
abbrev zE:=fI0 fun i j=>.int (if j<i then j else i)
abbrev DI:=fI0 fun i j=>.int (if j>i then j else i)
theorem Nh{t:TE}{r:R2}{f:D->D->M->Fr}(ra:R2A K r f)(ht:∀J H Q,tOp r (tD K ea) (tD K eb) J H Q->t J H Q):∀J H Q,tD K (v2 f ea eb) J H Q->t J H Q:=fun J H Q h=>ht J H Q (xp ra J H Q h)
theorem Gh{x y:V}{g:Int->Int->V}{Q:VK}{H:Hp}:(∃i j,[x,y]=[V.int i,V.int j]/\Q (g i j) H)=(∃i j,x=V.int i/\y=V.int j/\Q (g i j) H):=propext ⟨fun⟨i,j,e,q⟩=>by cases e;exact⟨i,j,rfl,rfl,q⟩,fun⟨i,j,e1,e2,q⟩=>by cases e1;cases e2;exact⟨i,j,rfl,q⟩⟩
theorem R8(ml:X.mg "min"=none) (ha:PE X a (tD K ea)) (hb:PE X b (tD K eb)) (hc:X.calm=true:=by rfl) (hg:Gl X "min":=by rfl) (hs:starEach [a,b] X.env=[(false,eval a X.env),(false,eval b X.env)]:=by rfl) (hs2:starEach [b] X.env=[(false,eval b X.env)]:=by rfl):
  PE X (.Call (.Name "min" p) [a,b] [] pos) (tD K (v2 zE ea eb)):=rf (Wc ml ha hb hc hg hs hs2) (Nh (vI fun _ _ _=>.int _) fun J H Q h=>by simp only[Gh (g:=fun i j=>V.int (if j<i then j else i))];exact h)
theorem Q1(ml:X.mg "max"=none) (ha:PE X a (tD K ea)) (hb:PE X b (tD K eb)) (hc:X.calm=true:=by rfl) (hg:Gl X "max":=by rfl) (hs:starEach [a,b] X.env=[(false,eval a X.env),(false,eval b X.env)]:=by rfl) (hs2:starEach [b] X.env=[(false,eval b X.env)]:=by rfl):
  PE X (.Call (.Name "max" p) [a,b] [] pos) (tD K (v2 DI ea eb)):=rf (y8y ml ha hb hc hg hs hs2) (Nh (vI fun _ _ _=>.int _) fun J H Q h=>by simp only[Gh (g:=fun i j=>V.int (if j>i then j else i))];exact h)
def yc:D->M->Fr
 | .bl k,O=>some (.int (if k then 1 else 0),O)
 |_,_=>none
theorem Me(ml:X.mg "int"=none) (ha:PE X a (tD K ea)) (hg:Gl X "int":=by rfl) (hs:starEach [a] X.env=[(false,eval a X.env)]:=by rfl):PE X (.Call (.Name "int" p) [a] [] pos) (tD K (v1 yc ea)):=rf (Wy ml ha hg hs) (xr (by
 intro W x d z Z6 Q ok r1 hf q;unfold yc at hf;split at hf
 ·cases hf;cases r1;exact⟨_,rfl,q _ W rfl ok .refl (.int _)⟩
 ·cases hf))
end
def py:Nat->M->D->Option PyData
 |0,_,_=>none
 |n+1,O,d=>match d with
  | .non=>some .none
  | .bl b=>some (.bool b)
  | .int i=>some (.int i)
  | .str x=>some (.str x)
  | .lst xs=>(rD (py n O) xs).bind fun ys=>some (.list ys)
  | .scr xs=>(rD (py n O) xs).bind fun ys=>some (.list ys)
  | .tup xs=>(rD (py n O) xs).bind fun ys=>some (.tuple ys)
  | .gt xs=>(rD (py n O) xs).bind fun ys=>some (.tuple ys)
  | .ref k=>match O[k]? with
   |some (some (.lst xs))=>(rD (py n O) xs).bind fun ys=>some (.list ys)
   |_=>none
theorem xf{K:Frag}{W:Wd}{f:D->Option PyData}(h:∀d v pd,DR K W d v->f d=some pd->Dp K W.H v pd):∀{xs:List D} {vs:List V} {ys:List PyData},DRs K W xs vs->rD f xs=some ys->Dps K W.H vs ys
 |_,_,_,.nil,e=>by cases e;exact .nil
 |_,_,_,.cons r t,e=>by
  refine qC e fun y e1 e=>?_;refine qC e fun ys e2 e=>?_;cases e;exact .cons (h _ _ _ r e1) (xf h t e2)
theorem v4{K:Frag}{W:Wd}(ok:Ok K W):∀(n:Nat) (d:D) (v:V) (pd:PyData),DR K W d v->py n W.O d=some pd->Dp K W.H v pd
 |0,_,_,_,_,e=>by cases e
 |n+1,d,v,pd,r,e=>by
  cases d with
  |non=>cases e;cases r;exact .non
  |bl b=>cases e;cases r;exact .bl b
  |int i=>cases e;cases r;exact .int i
  |str x=>cases e;cases r;exact .str x
  |lst xs=>
   refine qC e fun ys e1 e=>?_;cases e;cases r with
   |lst h _ hs=>exact .lst (SqL.of h) (xf (v4 ok n) hs e1)
  |scr xs=>
   refine qC e fun ys e1 e=>?_;cases e;cases r with
   |scr h hs=>exact .lst h.seq (xf (v4 ok n) hs e1)
  |tup xs=>
   refine qC e fun ys e1 e=>?_;cases e;cases r with
   |tup h hs=>exact .tup (SqT.of h) (xf (v4 ok n) hs e1)
  |gt xs=>
   refine qC e fun ys e1 e=>?_;cases e;cases r with
   |gt h hs=>exact .tup h (xf (v4 ok n) hs e1)
  |ref k=>
   simp only[py] at e;split at e
   ·rename_i xs hk;refine qC e fun ys e1 e=>?_;cases e;obtain⟨a,vs,rfl,_,h,hs⟩:=yH ok hk r;exact(.lst (SqL.of h) (xf (v4 ok n) hs e1))
   ·cases e
def eqD(x y:D)(O:M):Option Bool:=match x,y with
 | .int i,.int j=>some (decide (i=j))
 | .str a,.str b=>if PyData.strOk a&&PyData.strOk b then some (decide (a=b)) else none
 |x,y=>(py 65 O x).bind fun d=>(py 65 O y).bind fun e=>if(d.canLay0&&e.canLay0&&decide (d.depth<=64))=true then some (PyData.eqv d e) else none
def HU{K:Frag}{W:Wd}{x y:D}{v u:V}{b:Bool}(ok:Ok K W)(rx:DR K W x v)(ry:DR K W y u)(h:eqD x y W.O=some b):∃d e,Dp K W.H v d/\Dp K W.H u e/\(d.canLay0&&e.canLay0&&decide (d.depth<=64))=true/\PyData.eqv d e=b:=by
 unfold eqD at h;split at h
 ·cases h;cases rx;cases ry;exact⟨_,_,.int _,.int _,by simp[PyData.canLay0,PyData.depth],by simp[PyData.eqv];rw[Yg];simp⟩
 ·split at h
  ·rename_i hs;cases h;cases rx;cases ry;refine⟨_,_,.str _,.str _,by simpa[PyData.canLay0,PyData.depth] using hs,by simp[PyData.eqv];rw[Yg];simp⟩
  ·cases h
 ·refine qC h fun d e1 h=>?_;refine qC h fun e e2 h=>?_;split at h
  ·rename_i hc;cases h;exact⟨d,e,v4 ok _ _ _ _ rx e1,v4 ok _ _ _ _ ry e2,hc,rfl⟩
  ·cases h
def fEq(x y:D)(O:M):Fr:=(eqD x y O).bind fun b=>some (.bl b,O)
def fNe(x y:D)(O:M):Fr:=(eqD x y O).bind fun b=>some (.bl (!b),O)
section
variable {X:Cx} {K:Frag} {a b e:Expr} {ea eb:EV} {pos p:Pos} {es:List Expr} {el:LV} {k:Nat}
theorem KQ:R2A K (fun x y H Q=>∃d e,Dp K H x d/\Dp K H y e/\(d.canLay0&&e.canLay0&&decide (d.depth<=64))=true/\Q (.bl (PyData.eqv d e)) H) fEq:=by
 intro W x y d e z Z6 Q ok r1 r2 hf q;refine qC hf fun b hb hf=>?_;cases hf;obtain⟨d',e',h1,h2,h3,h4⟩:=HU ok r1 r2 hb;exact⟨d',e',h1,h2,h3,by rw[h4];exact q _ W rfl ok .refl (.bl _)⟩
theorem MR:R2A K (fun x y H Q=>∃d e,Dp K H x d/\Dp K H y e/\(d.canLay0&&e.canLay0&&decide (d.depth<=64))=true/\Q (.bl (!PyData.eqv d e)) H) fNe:=by
 intro W x y d e z Z6 Q ok r1 r2 hf q;refine qC hf fun b hb hf=>?_;cases hf;obtain⟨d',e',h1,h2,h3,h4⟩:=HU ok r1 r2 hb;exact⟨d',e',h1,h2,h3,by rw[h4];exact q _ W rfl ok .refl (.bl _)⟩
theorem Ad(hr:Room k X.A)(ha:PE X a (tD K ea))(hb:PE X b (tD K eb))(hK:X.K=K:=by rfl):PE X (.Compare a [.Eq] [b] pos) (tD K (v2 fEq ea eb)):=by
 subst hK;exact BW (L5 hr.units) KQ ha hb (u3 _)
theorem Ll(hr:Room k X.A)(ha:PE X a (tD K ea))(hb:PE X b (tD K eb))(hK:X.K=K:=by rfl):PE X (.Compare a [.NotEq] [b] pos) (tD K (v2 fNe ea eb)):=by
 subst hK;exact BW (Mn hr.units) MR ha hb (u3 _)
theorem uE(hr:Room k X.A)(ha:PE X a (tD K ea))(hb:PE X b (tD K eb))(hK:X.K=K:=by rfl):PT X (.Compare a [.Eq] [b] pos) (tDB K (vT (v2 fEq ea eb))):=by
 subst hK;exact wX (L5 hr.units) KQ ha hb (u3 _)
theorem wQ(hr:Room k X.A)(ha:PE X a (tD K ea))(hb:PE X b (tD K eb))(hK:X.K=K:=by rfl):PT X (.Compare a [.NotEq] [b] pos) (tDB K (vT (v2 fNe ea eb))):=by
 subst hK;exact wX (Mn hr.units) MR ha hb (u3 _)
def wF(x y:D)(O:M):Fr:=match y with
 | .non=>some (.bl (match x with| .non=>true|_=>false),O)
 |_=>none
def yq(x y:D)(O:M):Fr:=match y with
 | .non=>some (.bl (match x with| .non=>false|_=>true),O)
 |_=>none
theorem N7:R2A K (fun x y H Q=>y=.non/\Q (.bl (decide (x=.non))) H) wF:=by
 intro W x y d e z Z6 Q ok r1 r2 hf q;unfold wF at hf;split at hf
 ·cases hf;cases r2;refine⟨rfl,?_⟩;have h:=q _ W rfl ok .refl (.bl _);cases r1<;>exact h
 ·cases hf
theorem VL:R2A K (fun x y H Q=>y=.non/\Q (.bl (!decide (x=.non))) H) yq:=by
 intro W x y d e z Z6 Q ok r1 r2 hf q;unfold yq at hf;split at hf
 ·cases hf;cases r2;refine⟨rfl,?_⟩;have h:=q _ W rfl ok .refl (.bl _);cases r1<;>exact h
 ·cases hf
theorem Ef(ha:PE X a (tD K ea))(hb:PE X b (tD K eb)):PT X (.Compare a [.Is] [b] pos) (tDB K (vT (v2 wF ea eb))):=wX SS N7 ha hb (u3 _)
theorem RT(ha:PE X a (tD K ea))(hb:PE X b (tD K eb)):PT X (.Compare a [.IsNot] [b] pos) (tDB K (vT (v2 yq ea eb))):=wX Uw VL ha hb (u3 _)
def flV:D->Option V
 | .non=>some .non
 | .bl b=>some (.bl b)
 | .int i=>some (.int i)
 | .str x=>some (.str x)
 |_=>none
theorem Mo{W:Wd}{d:D}{v u:V}(h:flV d=some u)(r:DR K W d v):v=u/\vd u=true:=by
 cases d<;>cases h<;>cases r<;>exact⟨rfl,rfl⟩
theorem GF{W:Wd}:∀{ds:List D} {vs us:List V},rD flV ds=some us->DRs K W ds vs->vs=us/\us.all vd=true
 |_,_,_,h,.nil=>by cases h;exact⟨rfl,rfl⟩
 |_,_,_,h,.cons r t=>by
  refine qC h fun u h1 h=>?_;refine qC h fun us h2 h=>?_;cases h;obtain⟨e1,f1⟩:=Mo h1 r;obtain⟨e2,f2⟩:=GF h2 t;exact(⟨by rw[e1,e2],by simp[f1,f2]⟩)
def fIn(neg:Bool)(x y:D)(O:M):Fr:=(flV x).bind fun v=>(zV O y).bind fun ds=>(rD flV ds).bind fun us=>some (.bl (if neg then !inV v us else inV v us),O)
theorem NC{neg:Bool}:R2A K (rIn K neg) (fIn neg):=by
 intro W x y d e z Z6 Q ok r1 r2 hf q;refine qC hf fun v h1 hf=>?_;refine qC hf fun ds h2 hf=>?_;refine qC hf fun us h3 hf=>?_;cases hf;obtain⟨rfl,f1⟩:=Mo h1 r1;obtain⟨a,vs,rfl,hs,hv⟩:=NZ ok h2 r2;obtain⟨rfl,f2⟩:=GF h3 hv;exact(⟨a,_,rfl,hs,f1,f2,q _ W rfl ok .refl (.bl _)⟩)
theorem Ka(ha:PE X a (tD K ea))(hb:PE X b (tD K eb))(hm:behindInMarks .In b=false:=by rfl)(hK:X.K=K:=by rfl):PE X (.Compare a [.In] [b] pos) (tD K (v2 (fIn false) ea eb)):=rf (eIn K ha hb hm hK) (xp NC)
def tru(O:M):D->Option Bool
 | .non=>some false
 | .bl b=>some b
 | .int i=>some (i !=0)
 | .tup ds=>some (!ds.isEmpty)
 | .gt ds=>some (!ds.isEmpty)
 | .lst ds=>some (!ds.isEmpty)
 | .scr ds=>some (!ds.isEmpty)
 | .ref k=>match O[k]? with
  |some (some (.lst ds))=>some (!ds.isEmpty)
  |some (some (.dK kvs))=>some (!kvs.isEmpty)
  |_=>none
 | .str _=>none
theorem DRs.empty{W:Wd}{ds:List D}{vs:List V}(r:DRs K W ds vs):ds.isEmpty=vs.isEmpty:=by cases r<;>rfl
theorem Oc{W:Wd}{d:D}{v:V}{b:Bool}(ok:Ok K W)(h:tru W.O d=some b)(r:DR K W d v):C2 K v W.H b:=by
 cases d with
 |non=>cases h;cases r;rfl
 |bl k=>cases h;cases r;rfl
 |int i=>cases h;cases r;rfl
 |str x=>cases h
 |tup ds=>
  cases h;cases r with
  |tup h hs=>exact .inr (.inl ⟨_,SqT.of h,by rw[DRs.empty hs]⟩)
 |gt ds=>
  cases h;cases r with
  |gt h hs=>exact .inr (.inl ⟨_,h,by rw[DRs.empty hs]⟩)
 |lst ds=>
  cases h;cases r with
  |lst h _ hs=>exact .inl ⟨_,SqL.of h,by rw[DRs.empty hs]⟩
 |scr ds=>
  cases h;cases r with
  |scr h hs=>exact .inl ⟨_,h.seq,by rw[DRs.empty hs]⟩
 |ref k=>
  simp only[tru] at h;split at h
  ·rename_i ds hk;cases h;obtain⟨a,vs,rfl,_,hh,hs⟩:=yH ok hk r;exact(.inl ⟨_,SqL.of hh,by rw[DRs.empty hs]⟩)
  ·rename_i kvs hk;cases h;cases r with
   |ref ha=>
    obtain⟨a',ho,h1,h2,vs,rfl,r⟩:=ok.at_ k _ hk;rw[ha] at h1;cases h1;exact .inr (.inr ⟨vs,h2,by cases r<;>rfl⟩)
  ·cases h
def rH(ea:EV):BV:=fun B O=>(ea B O).bind fun p=>(tru p.2 p.1).bind fun b=>some (b,p.2)
theorem tK(ha:PE X a (tD K ea))(he:∀whole,isTrue a X.env whole=(do let v ←whole;standAt a.pos;holding [v] (truthy v)):=by intro _;rfl)(hK:X.K=K:=by rfl):PT X a (tDB K (rH ea)):=by
 subst hK;refine wD (Si ha he) fun J H Q h=>?_;refine el4 h fun W B b Z6 eH ok en e q=>?_;subst eH;refine qC e fun p1 e1 e=>?_;refine qC e fun b1 e2 e=>?_;cases e;exact⟨W,B,p1.1,p1.2,rfl,ok,en,e1,fun x W1 Z2 ok1 s1 r1=>⟨b,Oc ok1 (by rw[Z2];exact e2) r1,q W1 Z2 ok1 s1⟩⟩
def vFrz(ea:EV):EV:=fun B O=>(ea B O).bind fun p=>match p.1 with
 | .ref k=>match p.2[k]? with
  |some (some (.lst ds))=>some (.lst ds,p.2.set k none)
  |_=>none
 |_=>none
def spM(K:Frag)(f:C0):Sp:=fun vs H Q _=>∃(W:Wd) (ds:List D) (d:D) (Z6:M),W.H=H/\Ok K W/\DRs K W ds vs/\f ds W.O=some (d,Z6)/\∀v W',W'.O=Z6->Ok K W'->Step W W'->DR K W' d v->Q v W'.H
theorem rk{x:Str}{ps:List Str}{f:C0}{e:Expr}(Df':Df X.prog X.w X.K X.mg X.base k x ps (spM K f))(hr:Room k X.A)(ha:PA X (e::es) (tDL K el))(hg:Gl X x:=by rfl)(hdb:(x==("__debug__":Str))=false:=by decide)
  (he:starEach (e::es) X.env=(false,eval e X.env)::starEach es X.env:=by rfl) (hpl:(backTo pos (starEach es X.env)).any (·.1)=false:=by rfl):PE X (.Call (.Name x p) (e::es) [] pos) (tD K (vL f el)):=rf (JX Df' hr ha hg hdb he hpl) (AG (by
 intro W xs ds z Z6 Q ok r hf q;exact⟨W,ds,z,Z6,rfl,ok,r,hf,q⟩))
def wE(f:D->D->M->Fr)(ea eb:EV):EV:=fun B O=>(ea B O).bind fun p=>(rK p.2 p.1).bind fun _=>(eb B p.2).bind fun q=>f p.1 q.1 q.2
theorem Py{W:Wd}{d:D}{ds:List D}{v:V}(ok:Ok K W)(h:rK W.O d=some ds)(r:DR K W d v):tyV K "list" v W.H:=by
 obtain⟨a,vs,rfl,hs,_⟩:=va ok h r;exact(.inl ⟨rfl,vs,hs⟩)
def RMA(K:Frag)(r:V->List V->Hp->VK->Prop)(f:D->D->M->Fr):Prop:=∀(W:Wd) (x y:V) (d e z:D) (Z6:M) (Q:VK),Ok K W->DR K W d x->DR K W e y->f d e W.O=some (z,Z6)->
 (∀v W',W'.O=Z6->Ok K W'->Step W W'->DR K W' z v->Q v W'.H)->r x [y] W.H Q
theorem OS{eo:EV}{r:V->List V->Hp->VK->Prop}{f:D->D->M->Fr}(ra:RMA K r f):∀J H Q,tD K (wE f eo ea) J H Q->tBM K "list" r (tD K eo) (t5 (tD K ea) u5) J H Q:=fun J H Q h=>by
 refine el4 h fun W B d Z6 eH ok en e q=>?_;subst eH;refine qC e fun p1 e1 e=>?_;refine qC e fun ds e0 e=>?_;refine qC e fun p2 e2 e=>?_;refine⟨W,B,p1.1,p1.2,rfl,ok,en,e1,fun x W1 Z2 ok1 s1 r1=>⟨Py ok1 (by rw[Z2];exact e0) r1,W1,B,p2.1,p2.2,rfl,ok1,en.step ok s1,by rw[Z2];exact e2,fun y W2 ZV ok2 s2 r2=>?_⟩⟩;exact ra W2 x y _ _ _ _ Q ok2 (r1.step ok1 s2) r2 (by rw[ZV];exact e) fun v W3 ZS ok3 s3 r3=>q v W3 ZS ok3 ((s1.trans s2).trans s3) r3
def onL(x:D)(O:M)(g:List D->Option (D×List D)):Fr:=match x with
 | .ref k=>match O[k]? with
  |some (some (.lst ds))=>(g ds).bind fun r=>some (r.1,O.set k (some (.lst r.2)))
  |_=>none
 |_=>none
theorem KL{W:Wd}{x z:D}{v:V}{Z6:M}{g:List D->Option (D×List D)}(ok:Ok K W)(h:onL x W.O g=some (z,Z6))(r:DR K W x v):
  ∃k a ds vs ds',x=.ref k/\v=.ref a/\W.O[k]?=some (some (.lst ds))/\W.ρ[k]?=some a/\W.H a=some (.lst vs)/\DRs K W ds vs/\g ds=some (z,ds')/\Z6=W.O.set k (some (.lst ds')):=by
 unfold onL at h;split at h
 ·rename_i k;split at h
  ·rename_i ds hk;refine qC h fun p e1 e=>?_;cases e;obtain⟨a,vs,rfl,ha,hh,hs⟩:=yH ok hk r;exact(⟨k,a,ds,vs,p.2,rfl,rfl,hk,ha,hh,hs,e1,rfl⟩)
  ·cases h
 ·cases h
theorem Kt{W:Wd}{k:Nat}{a:Addr}{ds ds':List D}{vs vs':List V}(ok:Ok K W)(hk:W.O[k]?=some (some (.lst ds)))(ha:W.ρ[k]?=some a)(hs:DRs K W ds' vs'):
  Ok K (W.put k a (.lst vs') (.lst ds'))/\Step W (W.put k a (.lst vs') (.lst ds')):=⟨B1 ok hk ha ⟨vs',rfl,hs⟩,wd hk ha⟩
def uB(x y:D)(O:M):Fr:=onL x O fun ds=>if ds.length<1000000 then some (.non,ds++[y]) else none
theorem LG{o:Expr}{eo:EV}{apos:Pos}(ho:PE X o (tD K eo))(ha:PE X a (tD K ea))(hs:starEach [a] X.env=[(false,eval a X.env)]:=by rfl)
  (hbase:attributeBase o "append" X.env (eval o X.env)=eval o X.env:=by rfl) (hline:(apos.endLine==pos.line)=true:=by rfl) (hK:X.K=K:=by rfl)
  (hfew:((backTo pos (starEach [a] X.env)).all (fun x=>!x.1)&&(backToKw pos (keywordEach [] X.env)).all (fun x=>x.1.isSome)
   &&decide ([a].length+([]:List Keyword).length+(if([]:List Keyword).isEmpty then 0 else 1)<30))=true:=by rfl):
  PE X (.Call (.Attribute o "append" apos) [a] [] pos) (tD K (wE uB eo ea)):=rf (UF K ho ha hs hbase hline hK hfew) (OS (by
 intro W x y d e z Z6 Q ok r1 r2 hf q;obtain⟨k,a,ds,vs,ds',rfl,rfl,hk,ha,hh,hs,hg,rfl⟩:=KL ok hf r1;split at hg
 ·rename_i hl;cases hg;obtain⟨o1,s1⟩:=Kt (vs:=vs) (vs':=vs++[y]) ok hk ha (hs.append (.cons r2 .nil));exact⟨a,vs,y,rfl,rfl,hh,zq (by rw[←hs.length];omega),q _ _ rfl o1 s1 .non⟩
 ·cases hg))
end
open Classical in
def chk{α:Type}(c:Prop)(x:Option α):Option α:=if c then x else none
def Fj{α:Type}{c:Prop}{x:Option α}{a:α}(h:chk c x=some a):c/\x=some a:=by
 unfold chk at h;split at h
 ·exact⟨by assumption,h⟩
 ·cases h
def uy{α:Type}{c:Prop}{x:Option α}{a:α}{Z:Prop}(h:chk c x=some a)(k:c->x=some a->Z):Z:=k (Fj h).1 (Fj h).2
def tU{α:Type}{c:Prop}{x:Option α}(h:c):chk c x=x:=by unfold chk;rw[if_pos h]
abbrev GV:=D->G->M->Option (G×M)
abbrev GsV:=List D->G->M->Option (G×M)
def tDG(K:Frag)(gv:GV):TG:=fun v J H Q=>∃(W:Wd) (B:G) (d:D) (ZY:G) (Z6:M),W.H=H/\Ok K W/\EnvR K W B J/\DR K W d v/\gv d B W.O=some (ZY,Z6)/\∀W' Z0,W'.O=Z6->Ok K W'->Step W W'->EnvR K W' ZY Z0->Q Z0 W'.H
def Al(K:Frag)(gv:GsV):TGs:=fun vs J H Q=>∃(W:Wd) (B:G) (ds:List D) (ZY:G) (Z6:M),W.H=H/\Ok K W/\EnvR K W B J/\DRs K W ds vs/\gv ds B W.O=some (ZY,Z6)/\∀W' Z0,W'.O=Z6->Ok K W'->Step W W'->EnvR K W' ZY Z0->Q Z0 W'.H
section
variable {X:Cx} {K:Frag} {pos:Pos}
theorem EE{tg:Expr}{t t':TG}(h:PG X tg t)(hi:∀v J H Q,t' v J H Q->t v J H Q):PG X tg t':=fun pins s J H v u Q I r hw=>h pins s J H v u Q I r (hi _ _ _ _ hw)
theorem FW{tg:List Expr}{t t':TGs}(h:PGs X tg t)(hi:∀v J H Q,t' v J H Q->t v J H Q):PGs X tg t':=fun pins s J H v u Q I r hw=>h pins s J H v u Q I r (hi _ _ _ _ hw)
theorem EnvR.set{W:Wd}{B:G}{J:St}(e:EnvR K W B J){d:D}{v:V}(r:DR K W d v)(i:Nat):EnvR K W (B.set i (some d)) (J.set i (some v)) where
 len:=by simp[e.len]
 at_ j d' h:=by
  by_cases hj:j=i
  ·subst hj;have hlt:j<B.length:=by have:=(Xi.mp h).1;simpa using this
   simp[hlt] at h;subst h;exact⟨v,by have:=e.len;simp[show j<J.length by omega],r⟩
  ·rw[XQ (Ne.symm hj)] at h;obtain⟨u,hu,q⟩:=e.at_ j d' h;exact⟨u,by rw[XQ (Ne.symm hj)];exact hu,q⟩
def qA(i:Nat):GV:=fun d B O=>some (B.set i (some d),O)
theorem PH{i:Nat}:∀v J H Q,tDG K (qA i) v J H Q->EJ i v J H Q:=fun v J H Q h=>by
 obtain⟨W,B,d,ZY,Z6,rfl,ok,en,r,e,q⟩:=h;cases e;exact(q W _ rfl ok .refl (en.set r i))
theorem qS{i:Nat}{x:Str}(hN:X.N.Nodup)(hi:X.N[i]?=some x)(hx:Loc X.env.scope x)(hf:X.fn x=true\/X.env.scope.names.lookup x=some .local:=by first|exact .inl rfl|exact .inr rfl|assumption):PG X (.Name x pos) (tDG K (qA i)):=EE (SC hN hi hx hf) PH
def rM:GsV:=fun ds B O=>match ds with
 | []=>some (B,O)
 |_::_=>none
def qN(g:GV)(gs:GsV):GsV:=fun ds B O=>match ds with
 | []=>none
 |d::r=>(g d B O).bind fun p=>gs r p.1 p.2
theorem ua:PGs X [] (Al K rM):=FW WE fun v J H Q h=>by
 obtain⟨W,B,d,ZY,Z6,rfl,ok,en,r,e,q⟩:=h;cases r with
 |nil=>cases e;exact⟨rfl,q W _ rfl ok .refl en⟩
 |cons _ _=>cases e
theorem rG{e:Expr}{es:List Expr}{g:GV}{gs:GsV}(h1:PG X e (tDG K g))(h2:PGs X es (Al K gs))
  (hs:(assignEach (e::es) X.env).map (·.2)=assign e X.env::(assignEach es X.env).map (·.2):=by rfl):PGs X (e::es) (Al K (qN g gs)):=FW (QG h1 h2 hs) fun v J H Q h=>by
 obtain⟨W,B,d,ZY,Z6,rfl,ok,en,r,e,q⟩:=h;cases r with
 |nil=>cases e
 |cons r rs=>
  refine qC e fun p1 e1 e=>?_;exact⟨_,_,rfl,W,B,_,p1.1,p1.2,rfl,ok,en,r,e1,fun W1 ZJ Z2 ok1 s1 en1=>⟨W1,p1.1,_,ZY,Z6,rfl,ok1,en1,rs.step ok s1,by rw[Z2];exact e,fun W2 ZX ZV ok2 s2 en2=>q W2 ZX ZV ok2 (s1.trans s2) en2⟩⟩
def rO(n:Nat)(gs:GsV):GV:=fun d B O=>(uU d).bind fun ds=>if ds.length=n then gs ds B O else none
theorem ud{es:List Expr}{k:Nat}{gs:GsV}{n:Nat}(h:PGs X es (Al K gs))(hc:X.calm=true:=by rfl)(hn:(assignEach es X.env).length=n:=by rfl)(hst:(assignEach es X.env).findIdx? (·.1)=none:=by rfl)(hK:X.K=K:=by rfl):PG X (.Tuple es k pos) (tDG K (rO n gs)):=EE (gT K h hc hn hst hK) fun v J H Q hh=>by
 obtain⟨W,B,d,ZY,Z6,rfl,ok,en,r,e,q⟩:=hh;refine qC e fun ds e1 e=>?_;split at e
 ·rename_i hl;obtain⟨a,vs,rfl,hs,hv⟩:=vy e1 r;exact⟨a,vs,rfl,hs,by rw[←hv.length];exact hl,W,B,ds,ZY,Z6,rfl,ok,en,hv,e,q⟩
 ·cases e
def zx(eo ei:EV):GV:=fun d B O=>(eo B O).bind fun p=>(ei B p.2).bind fun q=>match q.1 with
 | .int j=>(onL p.1 q.2 fun ds=>(ixN ds.length j).bind fun jj=>some (.non,ds.set jj d)).bind fun r=>some (B,r.2)
 |_=>none
theorem MS{o i:Expr}{eo ei:EV}(ho:PE X o (tD K eo))(hi:PE X i (tD K ei))(ha:∀v,assign (.Subscript o i pos) X.env v=(do
   let ov ←holding [v] (eval o X.env)
   let iv ←holding [v,ov] (eval i X.env)
   standAt pos
   holding [v,ov,iv] (setItem ov iv v)
   release [v,ov,iv] []):=by intro _;rfl):PG X (.Subscript o i pos) (tDG K (zx eo ei)):=EE (U5 ho hi zq6 ha) fun v J H Q hh=>by
 obtain⟨W,B,d,ZY,Z6,rfl,ok,en,r,e,q⟩:=hh;refine qC e fun p1 e1 e=>?_;refine qC e fun p2 e2 e=>?_;refine⟨W,B,p1.1,p1.2,rfl,ok,en,e1,fun x W1 Z2 ok1 s1 r1=>⟨W1,B,p2.1,p2.2,rfl,ok1,en.step ok s1,by rw[Z2];exact e2,fun y W2 ZV ok2 s2 r2=>?_⟩⟩;split at e
 ·rename_i j hj;rw[hj] at r2;cases r2;obtain⟨⟨z3,ZQ⟩,e3,e⟩:=bnd e;cases e;rw[←ZV] at e3;obtain⟨k,a,ds,vs,ds',h1,rfl,hk,ha,hh,hs,hg,h2⟩:=KL ok2 e3 (r1.step ok1 s2);refine qC hg fun jj hjj hg=>?_;cases hg;obtain⟨o1,st1⟩:=Kt (vs:=vs) (vs':=vs.set jj v) ok2 hk ha (hs.set ((r.step ok s1).step ok1 s2) jj);exact⟨a,vs,j,jj,rfl,rfl,hh,by rw[←hs.length];exact hjj,q _ _ h2.symm o1 ((s1.trans s2).trans st1) (((en.step ok s1).step ok1 s2).step ok2 st1)⟩
 ·cases e
end
section
variable {X:Cx} {K:Frag} {pos:Pos} {e:Expr} {ea:EV} {st:Stmt} {qO:List Stmt} {sa sb:SV}
def sNx:SV:=fun B O=>some (.nx,B,O)
def qE(a b:SV):SV:=fun B O=>(a B O).bind fun o=>match o.1 with
 | .nx=>b o.2.1 o.2.2
 | .bk=>some (.bk,o.2)
 | .ct=>some (.ct,o.2)
 | .rt d=>some (.rt d,o.2)
theorem se:PSs X [] (tDS K sNx):=zL R7 fun D J H h=>by
 refine el5 h fun W B o ZY Z6 eH ok en e q=>?_;subst eH;cases e;exact q W J rfl ok .refl en
theorem qP(h1:PS X st (tDS K sa)):PSs X [st] (tDS K sa):=J4 h1
theorem qI(h1:PS X st (tDS K sa))(h2:PSs X qO (tDS K sb)):PSs X (st::qO) (tDS K (qE sa sb)):=zL (Li h1 h2) fun D J H h=>by
 refine el5 h fun W B o ZY Z6 eH ok en e q=>?_;subst eH;obtain⟨⟨o1,ZZ,Z5⟩,e1,e⟩:=bnd e;refine(⟨W,B,o1,ZZ,Z5,rfl,ok,en,e1,fun W1 ZJ Z2 ok1 s1 en1=>?_⟩);cases o1 with
 |nx=>exact⟨W1,ZZ,o,ZY,Z6,rfl,ok1,en1,by rw[Z2];exact e,fun W2 ZX ZV ok2 s2 en2=>q W2 ZX ZV ok2 (s1.trans s2) en2⟩
 |bk=>cases e;exact q W1 ZJ Z2 ok1 s1 en1
 |ct=>cases e;exact q W1 ZJ Z2 ok1 s1 en1
 |rt d=>cases e;exact q W1 ZJ Z2 ok1 s1 en1
def uJ(ea:EV):SV:=fun B O=>(ea B O).bind fun p=>some (.nx,B,p.2)
theorem Ab(he:PE X e (tD K ea))(hs:swapsWith e none pos.line X.env=pure false:=by rfl):PS X (.Expr e pos) (tDS K (uJ ea)):=sN (F0 he hs) fun D J H h=>by
 refine el5 h fun W B o ZY Z6 eH ok en e q=>?_;subst eH;refine qC e fun p1 e1 e=>?_;cases e;exact⟨W,B,p1.1,p1.2,rfl,ok,en,e1,fun v W1 Z2 ok1 s1 r1=>q W1 J Z2 ok1 s1 (en.step ok s1)⟩
def qR(ea:EV):SV:=fun B O=>(ea B O).bind fun p=>some (.rt p.1,B,p.2)
theorem qY(he:PE X e (tD K ea)):PS X (.Return (some e) pos) (tDS K (qR ea)):=sN (Nj he) fun D J H h=>by
 refine el5 h fun W B o ZY Z6 eH ok en e q=>?_;subst eH;refine qC e fun p1 e1 e=>?_;cases e;exact⟨W,B,p1.1,p1.2,rfl,ok,en,e1,fun v W1 Z2 ok1 s1 r1=>q W1 J Z2 ok1 s1 (en.step ok s1) v r1⟩
def sIf(t:BV)(a b:SV):SV:=fun B O=>(t B O).bind fun p=>if p.1=true then a B p.2 else b B p.2
theorem si{c:Expr}{a b:List Stmt}{bc:BV}(hc:PT X c (tDB K bc))(ha:PSs X a (tDS K sa))(hb:PSs X b (tDS K sb)):PS X (.If c a b pos) (tDS K (sIf bc sa sb)):=sN (Ji hc ha hb) fun D J H h=>by
 refine el5 h fun W B o ZY Z6 eH ok en e q=>?_;subst eH;refine qC e fun p1 e1 e=>?_;refine⟨W,B,p1.1,p1.2,rfl,ok,en,e1,fun W1 Z2 ok1 s1=>?_⟩;split at e
 ·rename_i hp;rw[if_pos hp];exact⟨W1,B,o,ZY,Z6,rfl,ok1,en.step ok s1,by rw[Z2];exact e,fun W2 ZX ZV ok2 s2 en2=>q W2 ZX ZV ok2 (s1.trans s2) en2⟩
 ·rename_i hp;rw[if_neg hp];exact⟨W1,B,o,ZY,Z6,rfl,ok1,en.step ok s1,by rw[Z2];exact e,fun W2 ZX ZV ok2 s2 en2=>q W2 ZX ZV ok2 (s1.trans s2) en2⟩
def qQ(ea:EV)(g:GV):SV:=fun B O=>(ea B O).bind fun p=>(g p.1 B p.2).bind fun q=>some (.nx,q.1,q.2)
theorem zq9{g:GV}:∀D J H,tDS K (qQ ea g) D J H->C5 (tD K ea) (tDG K g) D J H:=fun D J H h=>by
 refine el5 h fun W B o ZY Z6 eH ok en e q=>?_;subst eH;refine qC e fun p1 e1 e=>?_;refine qC e fun p2 e2 e=>?_;cases e;exact⟨W,B,p1.1,p1.2,rfl,ok,en,e1,fun v W1 Z2 ok1 s1 r1=>⟨W1,B,p1.1,p2.1,p2.2,rfl,ok1,en.step ok s1,r1,by rw[Z2];exact e2,fun W2 ZX ZV ok2 s2 en2=>q W2 ZX ZV ok2 (s1.trans s2) en2⟩⟩
theorem wk{tg:Expr}{g:GV}(he:PE X e (tD K ea))(hg:PG X tg (tDG K g))(hs:swapsWithSole [tg] e pos.line X.env=pure false:=by rfl)(hw:swappedStores [tg] e X.env=pure none:=by rfl)
  (h1:(assignEach [tg] X.env).map (·.2)=[assign tg X.env]:=by rfl):PS X (.Assign [tg] e pos) (tDS K (qQ ea g)):=sN (O4 he hg hs hw h1) zq9
theorem rF{i:Nat}{x:Str}{pos':Pos}(hN:X.N.Nodup)(hi:X.N[i]?=some x)(hx:Loc X.env.scope x)(he:PE X e (tD K ea))(hs:swapsWith e (some (.Name x pos')) pos.line X.env=pure false:=by rfl)(hf:X.fn x=true\/X.env.scope.names.lookup x=some .local:=by first|exact .inl rfl|exact .inr rfl|assumption):
  PS X (.Assign [.Name x pos'] e pos) (tDS K (qQ ea (qA i))):=sN (He hN hi hx he hs hf) fun D J H h=>by
 refine el5 h fun W B o ZY Z6 eH ok en e q=>?_;subst eH;refine qC e fun p1 e1 e=>?_;cases e;exact⟨W,B,p1.1,p1.2,rfl,ok,en,e1,fun v W1 Z2 ok1 s1 r1=>q W1 _ Z2 ok1 s1 ((en.step ok s1).set r1 i)⟩
def xv(i:Nat)(f:D->D->M->Fr)(ea:EV):SV:=fun B O=>match B[i]? with
 |some (some x)=>(ea B O).bind fun p=>(f x p.1 p.2).bind fun q=>some (.nx,B.set i (some q.1),q.2)
 |_=>none
theorem PX{i:Nat}{x:Str}{op:Operator}{ti:TIp}{f:D->D->M->Fr}{pos':Pos}(hN:X.N.Nodup)(hi:X.N[i]?=some x)(hx:Loc X.env.scope x)(he:PE X e (tD K ea))(ho:PIp X op ti)(ra:R2A K ti f)(hf:X.fn x=true\/X.env.scope.names.lookup x=some .local:=by first|exact .inl rfl|exact .inr rfl|assumption):
  PS X (.AugAssign (.Name x pos') op e pos) (tDS K (xv i f ea)):=sN (Pf hN hi hx he ho hf) fun D J H h=>by
 refine el5 h fun W B o ZY Z6 eH ok en e q=>?_;subst eH;unfold xv at e;split at e
 ·rename_i x0 hx0;refine qC e fun p1 e1 e=>?_;refine qC e fun p2 e2 e=>?_;cases e;obtain⟨v,hv,r⟩:=en.at_ i _ hx0;refine(⟨v,hv,W,B,p1.1,p1.2,rfl,ok,en,e1,fun y W1 Z2 ok1 s1 r1=>?_⟩);exact ra W1 v y _ _ _ _ _ ok1 (r.step ok s1) r1 (by rw[Z2];exact e2) fun z W2 ZV ok2 s2 r2=>q W2 _ ZV ok2 (s1.trans s2) (((en.step ok s1).step ok1 s2).set r2 i)
 ·cases e
theorem S9{g:Int->Int->Int}:R2A K (ipI g) (fI0 fun i j=>.int (g i j)):=by
 intro W x y d e z Z6 Q ok r1 r2 hf q;unfold fI0 at hf;split at hf
 ·cases hf;cases r1;cases r2;exact⟨_,_,rfl,rfl,q _ W rfl ok .refl (.int _)⟩
 ·cases hf
theorem IM{i:Nat}{x:Str}{pos':Pos}(hN:X.N.Nodup)(hi:X.N[i]?=some x)(hx:Loc X.env.scope x)(he:PE X e (tD K ea))(hf:X.fn x=true\/X.env.scope.names.lookup x=some .local:=by first|exact .inl rfl|exact .inr rfl|assumption):
  PS X (.AugAssign (.Name x pos') .Add e pos) (tDS K (xv i BS ea)):=PX hN hi hx he Q3 S9 hf
def uF(c:BV)(body:SV):Nat->SV
 |0,_,_=>none
 |n+1,B,O=>(c B O).bind fun p=>if p.1=true then(body B p.2).bind fun o=>match o.1 with
   | .nx=>uF c body n o.2.1 o.2.2
   | .ct=>uF c body n o.2.1 o.2.2
   | .bk=>some (.nx,o.2)
   | .rt d=>some (.rt d,o.2)
  else some (.nx,B,p.2)
theorem zy{c:Expr}{body:List Stmt}{bc:BV}(n:Nat)(hp:PassesOwn (model X.prog X.w) X.A X.env X.xe)(hc:PT X c (tDB K bc))(hb:PSs X body (tDS K sb)):PS X (.While c body [] pos) (tDS K (uF bc sb n)):=sN (zqo hp hc hb) fun D J H h=>by
 refine el5 h fun W B o ZY Z6 eH ok en e q=>?_;subst eH;refine⟨fun m ZJ H1=>∃W1 ZZ,W1.H=H1/\Ok K W1/\Step W W1/\EnvR K W1 ZZ ZJ/\uF bc sb m ZZ W1.O=some (o,ZY,Z6),⟨n,W,B,rfl,ok,.refl,en,e⟩,?_⟩;rintro m ZJ H1 ⟨W1,ZZ,rfl,ok1,s1,en1,e1⟩;cases m with
 |zero=>cases e1
 |succ m=>
  refine qC e1 fun p1 ec e1=>?_;refine⟨W1,ZZ,p1.1,p1.2,rfl,ok1,en1,ec,fun W2 ZV ok2 s2=>?_⟩;split at e1
  ·rename_i hp1;rw[if_pos hp1];obtain⟨⟨o3,Zj,ZQ⟩,e3,e1⟩:=bnd e1;refine⟨_,fun Z0 H' h'=>⟨m,Nat.lt_succ_self m,h'⟩,W2,ZZ,o3,Zj,ZQ,rfl,ok2,en1.step ok1 s2,by rw[ZV];exact e3,fun W3 ZI ZS ok3 s3 en3=>?_⟩;cases o3 with
   |nx=>exact⟨W3,Zj,rfl,ok3,(s1.trans s2).trans s3,en3,by rw[ZS];exact e1⟩
   |ct=>exact⟨W3,Zj,rfl,ok3,(s1.trans s2).trans s3,en3,by rw[ZS];exact e1⟩
   |bk=>cases e1;exact q W3 ZI ZS ok3 ((s1.trans s2).trans s3) en3
   |rt d=>cases e1;exact q W3 ZI ZS ok3 ((s1.trans s2).trans s3) en3
  ·rename_i hp1;cases e1;rw[if_neg hp1];exact q W2 ZJ ZV ok2 (s1.trans s2) (en1.step ok1 s2)
abbrev Ck:=Option (Nat×List D)
def q0:Ck->M->Prop
 |none,_=>True
 |some (k,raw),O=>O[k]?=some (some (.lst raw))
abbrev IV:=G->M->Option ((List D×Ck)×M)
def JR(K:Frag)(W:Wd)(Z7:It)(its:List D)(c:Ck):Prop:=q0 c W.O/\∃ds vs,DRs K W ds vs/\∀(W2:Wd) (i:Nat),Ok K W2->q0 c W2.O->DRs K W2 ds vs->
 (its.length<=i->Z7.stop i W2.H)/\∀d,its[i]?=some d->Z7.go i W2.H/\∀x H',Z7.yld i W2.H x H'->∃W3,W3.H=H'/\W3.O=W2.O/\Ok K W3/\Step W2 W3/\DR K W3 d x
def tDI(K:Frag)(iv:IV):TI:=fun J H R=>∃(W:Wd) (B:G) (its:List D) (c:Ck) (Z6:M),W.H=H/\Ok K W/\EnvR K W B J/\iv B W.O=some ((its,c),Z6)/\∀Z7 W',W'.O=Z6->Ok K W'->Step W W'->JR K W' Z7 its c->R Z7 W'.H
theorem x8{tg iter:Expr}{t t':TI}(h:PI X tg iter t)(hi:∀J H R,t' J H R->t J H R):PI X tg iter t':=fun pins s J H R I hw=>h pins s J H R I (hi _ _ _ hw)
def lsC(O:M):D->Option (List D×Ck)
 | .lst ds=>some (ds,none)
 | .scr ds=>some (ds,none)
 | .ref k=>match O[k]? with
  |some (some (.lst ds))=>some (ds,some (k,ds))
  |_=>none
 |_=>none
theorem CD{W:Wd}{d:D}{ds:List D}{c:Ck}{v:V}(ok:Ok K W)(h:lsC W.O d=some (ds,c))(r:DR K W d v):
  q0 c W.O/\∃a,v=.ref a/\∀W2,Ok K W2->q0 c W2.O->DR K W2 d v->∃vs,SqL K W2.H a vs/\DRs K W2 ds vs:=by
 cases d with
 |lst xs=>
  cases h;cases r with
  |lst h n hs=>
   refine⟨trivial,_,rfl,fun W2 _ _ r2=>?_⟩;cases r2 with
   |lst h n hs=>exact⟨_,SqL.of h,hs⟩
 |scr xs=>
  cases h;cases r with
  |scr h hs=>
   refine⟨trivial,_,rfl,fun W2 _ _ r2=>?_⟩;cases r2 with
   |scr h hs=>exact⟨_,h.seq,hs⟩
 |ref k=>
  simp only[lsC] at h;split at h
  ·rename_i xs hk;cases h;refine⟨hk,?_⟩;cases r with
   |ref ha=>
    refine⟨_,rfl,fun W2 ok2 c2 r2=>?_⟩;obtain⟨a',vs,e,_,hh,hs⟩:=yH ok2 c2 r2;cases e;exact(⟨vs,SqL.of hh,hs⟩)
  ·cases h
 |_=>cases h
def ivL(ea:EV):IV:=fun B O=>(ea B O).bind fun p=>(lsC p.2 p.1).bind fun s=>some (s,p.2)
theorem sO{tg a:Expr}(ha:PE X a (tD K ea))(hK:X.K=K:=by rfl):PI X tg a (tDI K (ivL ea)):=x8 (iL K ha hK) fun J H R h=>by
 refine el5 h fun W B its c Z6 eH ok en e q=>?_;subst eH;refine qC e fun p1 e1 e=>?_;refine qC e fun s e2 e=>?_;cases e;refine⟨W,B,p1.1,p1.2,rfl,ok,en,e1,fun v W1 Z2 ok1 s1 r1=>?_⟩;obtain⟨c0,a,rfl,hh⟩:=CD ok1 (by rw[Z2];exact e2) r1;obtain⟨vs0,h0,_⟩:=hh W1 ok1 c0 r1;refine(⟨a,rfl,⟨_,h0⟩,q (Itl K a) W1 Z2 ok1 s1 ⟨c0,[p1.1],[.ref a],.cons r1 .nil,fun W2 i ok2 c2 r2=>?_⟩⟩);cases r2 with
 |cons r2 _=>
  obtain⟨vs,hs,hv⟩:=hh W2 ok2 c2 r2;refine⟨fun hi=>⟨vs,hs,by rw[←hv.length];exact hi⟩,fun d hd=>?_⟩;obtain⟨v,hv1,hv2⟩:=hv.get hd;refine(⟨⟨vs,v,hs,hv1⟩,fun x H' y=>?_⟩);obtain⟨rfl,y⟩:=y;have:=y vs hs;rw[hv1] at this;cases this;exact⟨W2,rfl,rfl,ok2,.refl,hv2⟩
def ivT(ea:EV):IV:=fun B O=>(ea B O).bind fun p=>(uU p.1).bind fun ds=>some ((ds,none),p.2)
theorem Aq{tg a:Expr}(ha:PE X a (tD K ea))(hK:X.K=K:=by rfl):PI X tg a (tDI K (ivT ea)):=x8 (iT K ha hK) fun J H R h=>by
 refine el5 h fun W B its c Z6 eH ok en e q=>?_;subst eH;refine qC e fun p1 e1 e=>?_;refine qC e fun s e2 e=>?_;cases e;refine⟨W,B,p1.1,p1.2,rfl,ok,en,e1,fun v W1 Z2 ok1 s1 r1=>?_⟩;obtain⟨a,vs0,rfl,h0,_⟩:=vy e2 r1;refine(⟨a,rfl,⟨_,h0⟩,q (Itt K a) W1 Z2 ok1 s1 ⟨trivial,[p1.1],[.ref a],.cons r1 .nil,fun W2 i ok2 c2 r2=>?_⟩⟩);cases r2 with
 |cons r2 _=>
  obtain⟨a',vs,e',hs,hv⟩:=vy e2 r2;cases e';refine⟨fun hi=>⟨vs,hs,by rw[←hv.length];exact hi⟩,fun d hd=>?_⟩;obtain⟨v,hv1,hv2⟩:=hv.get hd;refine(⟨⟨vs,v,hs,hv1⟩,fun x H' y=>?_⟩);obtain⟨rfl,y⟩:=y;have:=y vs hs;rw[hv1] at this;cases this;exact⟨W2,rfl,rfl,ok2,.refl,hv2⟩
def rl(lo:Int)(n:Nat):List D:=(List.range n).map fun k:Nat=>D.int (lo+k)
theorem DL{W:Wd}{lo:Int}{n:Nat}:JR K W (Itr lo n) (rl lo n) none:=by
 refine⟨trivial,[],[],.nil,fun W2 i ok2 _ _=>⟨fun hi=>?_,fun d hd=>?_⟩⟩
 ·show n<=i;simpa[rl] using hi
 ·have hlt:=(Xi.mp hd).1;simp[rl] at hlt;simp[rl,hlt] at hd;subst hd;refine⟨hlt,fun x H' y=>?_⟩;obtain⟨rfl,rfl⟩:=y;exact(⟨W2,rfl,rfl,ok2,.refl,.int _⟩)
def ivR(ea:EV):IV:=fun B O=>(ea B O).bind fun p=>match p.1 with
 | .int j=>if -1000000000<=j/\j<=1000000000 then some ((rl 0 j.toNat,none),p.2) else none
 |_=>none
theorem Ba(mr:X.mg "range"=none) {tg a:Expr} {p:Pos} (ha:PE X a (tD K ea)) (hg:Gl X "range":=by rfl) (hs:starEach [a] X.env=[(false,eval a X.env)]:=by rfl):PI X tg (.Call (.Name "range" p) [a] [] pos) (tDI K (ivR ea)):=x8 (iR mr ha hg hs) fun J H R h=>by
 refine el5 h fun W B its c Z6 eH ok en e q=>?_;subst eH;refine qC e fun p1 e1 e=>?_;split at e
 ·rename_i j hj;split at e
  ·rename_i hb;cases e;refine⟨W,B,p1.1,p1.2,rfl,ok,en,e1,fun v W1 Z2 ok1 s1 r1=>?_⟩;rw[hj] at r1;cases r1;exact⟨j,rfl,by omega,by omega,q _ W1 Z2 ok1 s1 DL⟩
  ·cases e
 ·cases e
def ze(ea eb:EV):IV:=fun B O=>(ea B O).bind fun p=>(eb B p.2).bind fun r=>match p.1,r.1 with
 | .int i,.int j=>if(-1000000000<=i/\i<=1000000000)/\-1000000000<=j/\j<=1000000000 then some ((rl i (j - i).toNat,none),r.2) else none
 |_,_=>none
theorem Pn(mr:X.mg "range"=none) {tg a b:Expr} {eb:EV} {p:Pos} (ha:PE X a (tD K ea)) (hb:PE X b (tD K eb)) (hg:Gl X "range":=by rfl) (hs:starEach [a,b] X.env=[(false,eval a X.env),(false,eval b X.env)]:=by rfl) (hs2:starEach [b] X.env=[(false,eval b X.env)]:=by rfl):
  PI X tg (.Call (.Name "range" p) [a,b] [] pos) (tDI K (ze ea eb)):=x8 (iR2 mr ha hb hg hs hs2) fun J H R h=>by
 refine el5 h fun W B its c Z6 eH ok en e q=>?_;subst eH;refine qC e fun p1 e1 e=>?_;refine qC e fun p2 e2 e=>?_;split at e
 ·rename_i i j hi hj;split at e
  ·rename_i hb;cases e;refine⟨W,B,p1.1,p1.2,rfl,ok,en,e1,fun v W1 Z2 ok1 s1 r1=>⟨W1,B,p2.1,p2.2,rfl,ok1,en.step ok s1,by rw[Z2];exact e2,fun y W2 ZV ok2 s2 r2=>?_⟩⟩;rw[hi] at r1;rw[hj] at r2;cases r1;cases r2;exact⟨i,j,rfl,⟨by omega,by omega,by omega,by omega⟩,q _ W2 ZV ok2 (s1.trans s2) DL⟩
  ·cases e
 ·cases e
def rJ(c:Ck)(g:GV)(body:SV):List D->SV
 | [],B,O=>some (.nx,B,O)
 |d::r,B,O=>(g d B O).bind fun p=>(body p.1 p.2).bind fun o=>match o.1 with
  | .nx=>chk (q0 c o.2.2) (rJ c g body r o.2.1 o.2.2)
  | .ct=>chk (q0 c o.2.2) (rJ c g body r o.2.1 o.2.2)
  | .bk=>some (.nx,o.2)
  | .rt d=>some (.rt d,o.2)
def uk(iv:IV)(g:GV)(body:SV):SV:=fun B O=>(iv B O).bind fun s=>rJ s.1.2 g body s.1.1 B s.2
theorem vR{tg iter:Expr}{body:List Stmt}{iv:IV}{g:GV}(hp:PassesOwn (model X.prog X.w) X.A X.env X.xe)(hc:X.calm=true)(hi:PI X tg iter (tDI K iv))(hg:PG X tg (tDG K g))(hb:PSs X body (tDS K sb))
  (hs:∀x,foldedSetIterable iter X.env x=pure x:=by intro _;rfl):PS X (.For tg iter body [] pos) (tDS K (uk iv g sb)):=sN (K5 hp hc hi hg hb hs) fun D J H h=>by
 refine el5 h fun W B o ZY Z6 eH ok en e q=>?_;subst eH;obtain⟨⟨⟨its,c⟩,Z5⟩,e1,e⟩:=bnd e;refine(⟨W,B,its,c,Z5,rfl,ok,en,e1,fun Z7 W1 ZL ok1 s1 jr=>?_⟩);obtain⟨c1,ds,vs,r1,hj⟩:=jr;obtain⟨P,hP⟩:∃P:Nat->St->Hp->Prop,∀i ZX H2,P i ZX H2↔(i<=its.length/\∃W2 ZW,W2.H=H2/\Ok K W2/\Step W1 W2/\EnvR K W2 ZW ZX/\q0 c W2.O/\rJ c g sb (its.drop i) ZW W2.O=some (o,ZY,Z6)):=⟨_,fun _ _ _=>Iff.rfl⟩
 refine⟨fun i m ZX H2=>m=its.length - i/\P i ZX H2,⟨its.length,by simp,(hP _ _ _).2 ⟨Ye _,W1,B,rfl,ok1,.refl,en.step ok s1,c1,by rw[ZL];exact e⟩⟩,?_⟩;rintro i m ZX H2 ⟨rfl,hi⟩;refine bq fun hG=>?_;obtain⟨hi,W2,ZW,rfl,ok2,s2,en2,c2,e2⟩:=(hP _ _ _).1 hi;obtain⟨hstop,hgo⟩:=hj W2 i ok2 c2 (r1.step ok1 s2);by_cases hlt:i<its.length
 ·have hd:its[i]?=some its[i]:=Xm hlt;obtain⟨h1,h2⟩:=hgo _ hd;rw[XS hlt] at e2;refine qC e2 fun p e3 e2=>?_;obtain⟨⟨o4,Zr,Zw⟩,e4,e2⟩:=bnd e2;refine(hG (.inr ⟨h1,P (i+1),fun Z0 H' hN=>⟨its.length - (i+1),by omega,rfl,hN⟩,fun x H' hy=>?_⟩));refine bq fun hF=>?_;obtain⟨W3,rfl,ZS,ok3,s3,r3⟩:=h2 x H' hy;refine hF ⟨W3,ZW,its[i],p.1,p.2,rfl,ok3,en2.step ok2 s3,r3,by rw[ZS];exact e3,fun W4 ZP ZC ok4 s4 en4=>⟨W4,p.1,o4,Zr,Zw,rfl,ok4,en4,by rw[ZC];exact e4,fun W5 Zp ZO ok5 s5 en5=>?_⟩⟩;have st:=s2.trans (s3.trans (s4.trans s5));cases o4 with
  |nx=>refine uy e2 fun hc5 e2=>?_;exact(hP _ _ _).2 ⟨hlt,W5,Zr,rfl,ok5,st,en5,by rw[ZO];exact hc5,by rw[ZO];exact e2⟩
  |ct=>refine uy e2 fun hc5 e2=>?_;exact(hP _ _ _).2 ⟨hlt,W5,Zr,rfl,ok5,st,en5,by rw[ZO];exact hc5,by rw[ZO];exact e2⟩
  |bk=>cases e2;exact q W5 Zp ZO ok5 (s1.trans st) en5
  |rt d=>cases e2;exact q W5 Zp ZO ok5 (s1.trans st) en5
 ·have e':i=its.length:=by omega
  subst e';rw[X5 (Xh _)] at e2;cases e2;exact hG (.inl ⟨hstop (Xh _),q W2 ZX rfl ok2 (s1.trans s2) en2⟩)
end
structure StepB (p:Addr) (W W':Wd):Prop where
 ρ:∀(k:Nat) a,W.ρ[k]?=some a->W'.ρ[k]?=some a
 live:∀a,RL W' a->RL W a\/W.H a=none
 keep:∀a o,a≠p->W.H a=some o->¬RL W a->W'.H a=some o
 hid:W'.hid=W.hid
 still:∀a,W.H a≠none->W'.H a≠none
section
variable {K:Frag} {W W' W'':Wd} {p:Addr}
theorem Step.b(s:Step W W'):StepB p W W':=⟨s.ρ,s.live,fun a o _ h n=>s.keep a o h n,s.hid,s.still⟩
theorem StepB.nlive(s:StepB p W W'){a:Addr}{o:HO}(h:W.H a=some o)(n:¬RL W a):¬RL W' a:=fun z=>by
 rcases s.live a z with z|z
 ·exact n z
 ·rw[h] at z;cases z
theorem StepB.trans(s:StepB p W W')(t:StepB p W' W''):StepB p W W'' where
 ρ k a h:=t.ρ k a (s.ρ k a h)
 live a h:=by
  rcases t.live a h with z|z
  ·exact s.live a z
  ·exact .inr (XZ fun n=>s.still a n z)
 keep a o hp h n:=t.keep a o hp (s.keep a o hp h n) (s.nlive h n)
 hid:=t.hid.trans s.hid
 still a h:=t.still a (s.still a h)
mutual
theorem DR.stepB(ok:Ok K W)(hp:W.hid p)(hl:∃ys,W.H p=some (.lst ys))(s:StepB p W W'):∀{d:D} {v:V},DR K W d v->DR K W' d v
 |_,_,.non=>.non
 |_,_,.bl b=>.bl b
 |_,_,.int i=>.int i
 |_,_,.str x=>.str x
 |_,_,.ref h=>.ref (s.ρ _ _ h)
 |_,_,.lst r n h=>.lst (s.keep _ _ (fun z=>n (.inr (by rw[z];exact hp))) r (fun z=>n (.inl z))) (fun z=>z.elim (s.nlive r (fun z=>n (.inl z))) (fun z=>n (.inr (by rw[s.hid] at z;exact z)))) (DRs.stepB ok hp hl s h)
 |_,_,.scr r h=>.scr (by
   rcases r with⟨o,r⟩|r
   ·obtain⟨ys,hl⟩:=hl;exact .inl ⟨o,s.keep _ _ (fun z=>by rw[z,hl] at r;cases r) r (ok.nofrz r)⟩
   ·exact .inr r) (DRs.stepB ok hp hl s h)
 |_,_,.tup r h=>.tup (by
   obtain⟨ys,hl⟩:=hl;exact s.keep _ _ (fun z=>by rw[z,hl] at r;cases r) r (ok.notup (.inl r))) (DRs.stepB ok hp hl s h)
 |_,_,.gt r h=>.gt (by
   rcases r with r|r
   ·have n:=ok.notup r;obtain⟨ys,hl⟩:=hl;rcases r with r|⟨o,r⟩
    ·exact .inl (.inl (s.keep _ _ (fun z=>by rw[z,hl] at r;cases r) r n))
    ·exact .inl (.inr ⟨o,s.keep _ _ (fun z=>by rw[z,hl] at r;cases r) r n⟩)
   ·exact .inr r) (DRs.stepB ok hp hl s h)
theorem DRs.stepB(ok:Ok K W)(hp:W.hid p)(hl:∃ys,W.H p=some (.lst ys))(s:StepB p W W'):∀{ds:List D} {vs:List V},DRs K W ds vs->DRs K W' ds vs
 |_,_,.nil=>.nil
 |_,_,.cons h t=>.cons (h.stepB ok hp hl s) (DRs.stepB ok hp hl s t)
end
theorem OR.stepB(ok:Ok K W)(hp:W.hid p)(hl:∃ys,W.H p=some (.lst ys))(s:StepB p W W'){a:Addr}{o:Z9}{ho:HO}(h:OR K W a o ho):OR K W' a o ho:=by
 cases o with
 |lst ds=>obtain⟨vs,e,q⟩:=h;exact⟨vs,e,q.stepB ok hp hl s⟩
 |dK kvs=>obtain⟨vs,e,q⟩:=h;exact⟨vs,e,Paired.mapP q fun _ _ ⟨e,q⟩=>⟨e,q.stepB ok hp hl s⟩⟩
 |dN kvs=>obtain⟨vs,e,q⟩:=h;exact⟨vs,e,Paired.mapP q fun _ _ ⟨e,q⟩=>⟨e,q.stepB ok hp hl s⟩⟩
 |ins C fs=>obtain⟨vs,e,q⟩:=h;exact⟨vs,e,Paired.mapP q fun _ _ ⟨e,q⟩=>⟨e,q.stepB ok hp hl s⟩⟩
 |exc C=>exact h
theorem EnvR.stepB{B:G}{J:St}(e:EnvR K W B J)(ok:Ok K W)(hp:W.hid p)(hl:∃ys,W.H p=some (.lst ys))(s:StepB p W W'):EnvR K W' B J:=⟨e.len,fun i d h=>let ⟨v,a,b⟩:=e.at_ i d h;⟨v,a,b.stepB ok hp hl s⟩⟩
def Wd.re(W:Wd)(p:Addr)(o:HO):Wd:={W with H:=upd W.H p o}
theorem vK{o:HO}:StepB p W (W.re p o) where
 ρ _ _ h:=h
 live _ h:=.inl h
 keep a u hp e _:=by show upd W.H p o a=_;rw[qW hp];exact e
 hid:=rfl
 still a n:=by
  show upd W.H p o a≠none;by_cases e:a=p
  ·subst e;rw[rQ];simp
  ·rw[qW e];exact n
theorem JS(ok:Ok K W)(hp:W.hid p)(hl:∃ys,W.H p=some (.lst ys)){o:HO}:Ok K (W.re p o) where
 len:=ok.len
 nd:=ok.nd
 rs a m:=(vK (W:=W) (p:=p) (o:=o)).still a (ok.rs a m)
 at_ k u e:=by
  obtain⟨a,ho,h1,h2,h3⟩:=ok.at_ k u e;have hne:a≠p:=fun z=>(ok.hd p hp).2 (z▸⟨k,u,e,h1⟩);exact⟨a,ho,h1,by show upd W.H p o a=_;rw[qW hne];exact h2,h3.stepB ok hp hl vK⟩
 hd0 a z:=⟨(vK (W:=W) (p:=p) (o:=o)).still a (ok.hd a z).1,(ok.hd0 a z).2⟩
mutual
theorem DR.hide(hp:W.H p=none)(ok:Ok K W){o:HO}:∀{d:D} {v:V},DR K W d v->DR K (W.hide p o) d v
 |_,_,.non=>.non
 |_,_,.bl b=>.bl b
 |_,_,.int i=>.int i
 |_,_,.str x=>.str x
 |_,_,.ref h=>.ref h
 |_,_,.lst r n h=>.lst (by show upd W.H p o _=_;rw[qW (sM r hp)];exact r) (fun z=>z.elim (fun z=>n (.inl z)) (fun z=>z.elim (fun z=>by rw[z,hp] at r;cases r) (fun z=>n (.inr z)))) (DRs.hide hp ok h)
 |_,_,.scr r h=>.scr (Mc ok (rX hp) r) (DRs.hide hp ok h)
 |_,_,.tup r h=>.tup (by show upd W.H p o _=_;rw[qW (sM r hp)];exact r) (DRs.hide hp ok h)
 |_,_,.gt r h=>.gt (Gm ok (rX hp) r) (DRs.hide hp ok h)
theorem DRs.hide(hp:W.H p=none)(ok:Ok K W){o:HO}:∀{ds:List D} {vs:List V},DRs K W ds vs->DRs K (W.hide p o) ds vs
 |_,_,.nil=>.nil
 |_,_,.cons h t=>.cons (h.hide hp ok) (DRs.hide hp ok t)
end
theorem OR.hide(hp:W.H p=none)(ok:Ok K W){o:HO}{a:Addr}{x:Z9}{ho:HO}(h:OR K W a x ho):OR K (W.hide p o) a x ho:=by
 cases x with
 |lst ds=>obtain⟨vs,e,q⟩:=h;exact⟨vs,e,q.hide hp ok⟩
 |dK kvs=>obtain⟨vs,e,q⟩:=h;exact⟨vs,e,Paired.mapP q fun _ _ ⟨e,q⟩=>⟨e,q.hide hp ok⟩⟩
 |dN kvs=>obtain⟨vs,e,q⟩:=h;exact⟨vs,e,Paired.mapP q fun _ _ ⟨e,q⟩=>⟨e,q.hide hp ok⟩⟩
 |ins C fs=>obtain⟨vs,e,q⟩:=h;exact⟨vs,e,Paired.mapP q fun _ _ ⟨e,q⟩=>⟨e,q.hide hp ok⟩⟩
 |exc C=>exact h
theorem EnvR.hide{B:G}{J:St}(e:EnvR K W B J)(hp:W.H p=none)(ok:Ok K W){o:HO}:EnvR K (W.hide p o) B J:=⟨e.len,fun i d h=>let ⟨v,a,b⟩:=e.at_ i d h;⟨v,a,b.hide hp ok⟩⟩
theorem Bk(ok:Ok K W)(hp:W.H p=none){o:HO}:Ok K (W.hide p o) where
 len:=ok.len
 nd:=ok.nd
 rs a m:=(rX (o:=o) hp).still a (ok.rs a m)
 at_ k u e:=by
  obtain⟨a,ho,h1,h2,h3⟩:=ok.at_ k u e;exact⟨a,ho,h1,by show upd W.H p o a=_;rw[qW (sM h2 hp)];exact h2,h3.hide hp ok⟩
 hd0 a z:=by
  rcases z with rfl|z
  ·exact⟨by show upd W.H a o a≠none;rw[rQ];simp,fun m=>ok.rs a m hp⟩
  ·exact⟨(rX (o:=o) hp).still a (ok.hd a z).1,(ok.hd0 a z).2⟩
def Wd.show(W:Wd)(h:Addr->Prop):Wd:={W with hid:=h}
mutual
theorem DR.show{h:Addr->Prop}(hs:∀a,h a->W.hid a):∀{d:D} {v:V},DR K W d v->DR K (W.show h) d v
 |_,_,.non=>.non
 |_,_,.bl b=>.bl b
 |_,_,.int i=>.int i
 |_,_,.str x=>.str x
 |_,_,.ref h=>.ref h
 |_,_,.lst r n h=>.lst r (fun z=>n (z.elim .inl (fun z=>.inr (hs _ z)))) (DRs.show hs h)
 |_,_,.scr r h=>.scr r (DRs.show hs h)
 |_,_,.tup r h=>.tup r (DRs.show hs h)
 |_,_,.gt r h=>.gt r (DRs.show hs h)
theorem DRs.show{h:Addr->Prop}(hs:∀a,h a->W.hid a):∀{ds:List D} {vs:List V},DRs K W ds vs->DRs K (W.show h) ds vs
 |_,_,.nil=>.nil
 |_,_,.cons h t=>.cons (h.show hs) (DRs.show hs t)
end
theorem Ug(ok:Ok K W){h:Addr->Prop}(hs:∀a,h a->W.hid a):Ok K (W.show h) where
 len:=ok.len
 nd:=ok.nd
 rs:=ok.rs
 at_ k u e:=by
  obtain⟨a,ho,h1,h2,h3⟩:=ok.at_ k u e;refine(⟨a,ho,h1,h2,?_⟩);cases u with
  |lst ds=>obtain⟨vs,e,q⟩:=h3;exact⟨vs,e,q.show hs⟩
  |dK kvs=>obtain⟨vs,e,q⟩:=h3;exact⟨vs,e,Paired.mapP q fun _ _ ⟨e,q⟩=>⟨e,q.show hs⟩⟩
  |dN kvs=>obtain⟨vs,e,q⟩:=h3;exact⟨vs,e,Paired.mapP q fun _ _ ⟨e,q⟩=>⟨e,q.show hs⟩⟩
  |ins C fs=>obtain⟨vs,e,q⟩:=h3;exact⟨vs,e,Paired.mapP q fun _ _ ⟨e,q⟩=>⟨e,q.show hs⟩⟩
  |exc C=>exact h3
 hd0 a z:=ok.hd0 a (hs a z)
theorem zhe{o:HO}(hp:W.H p=none)(s:StepB p (W.hide p o) W'):Step W (W'.show W.hid) where
 ρ k a h:=s.ρ k a h
 live a z:=by
  rcases s.live a z with z|z
  ·exact .inl z
  ·have z:upd W.H p o a=none:=z;by_cases e:a=p
   ·subst e;rw[rQ] at z;cases z
   ·rw[qW e] at z;exact .inr z
 keep a u e n:=s.keep a u (sM e hp) (by show upd W.H p o a=_;rw[qW (sM e hp)];exact e) n
 hid:=rfl
 still a n:=s.still a (by
  show upd W.H p o a≠none;by_cases e:a=p
  ·subst e;rw[rQ];simp
  ·rw[qW e];exact n)
theorem w5(ok:Ok K W)(hp:W.hid p):¬RL W p:=(ok.hd p hp).2
end
def rB(own:List Str)(cap:List (Str×Nat))(B:G):G:=own.map (fun _=>none)++cap.map fun p=>(B[p.2]?).join
theorem EnvR.cap{K:Frag}{W:Wd}{B:G}{J:St}(e:EnvR K W B J)(own:List Str)(cap:List (Str×Nat)):EnvR K W (rB own cap B) (sI own cap J) where
 len:=by simp[rB,sI]
 at_ i d h:=by
  unfold rB at h;unfold sI;by_cases hi:i<own.length
  ·rw[Xv (by simpa using hi)] at h;simp[hi] at h
  ·rw[XR (by simpa using hi)] at h⊢;simp only[Xn,XA] at h⊢;cases hc:cap[i - own.length]? with
   |none=>rw[hc] at h;cases h
   |some p=>
    rw[hc] at h;simp only[Option.map_some] at h⊢;cases hg:B[p.2]? with
    |none=>rw[hg] at h;cases h
    |some x=>
     rw[hg] at h;cases x with
     |none=>cases h
     |some d'=>
      cases h;obtain⟨v,hv,r⟩:=e.at_ _ _ hg;exact⟨v,by rw[hv];rfl,r⟩
def rE(c:Ck)(g:GV)(tc:BV)(te:EV):List D->G->M->Option (List D×M)
 | [],_,O=>some ([],O)
 |d::r,B,O=>(g d B O).bind fun p=>(tc p.1 p.2).bind fun t=>if t.1=true then(te p.1 t.2).bind fun v=>chk (q0 c v.2) ((rE c g tc te r p.1 v.2).bind fun q=>some (v.1::q.1,q.2)) else chk (q0 c t.2) (rE c g tc te r p.1 t.2)
def qJ:BV:=fun _ O=>some (true,O)
section
variable {X:Cx} {K:Frag} {N' own:List Str} {cap:List (Str×Nat)} {scope:Scope} {tg iter elt:Expr} {ifs:List Expr} {pos:Pos} {iv:IV} {g:GV} {tc:BV} {te:EV}
theorem OL{t t':TT}(h:PIf X ifs t)(hi:∀J H Q,t' J H Q->t J H Q):PIf X ifs t':=fun pins s J H Q I hw=>h pins s J H Q I (hi _ _ _ hw)
theorem sw:PIf X [] (tDB K qJ):=OL PP fun J H Q h=>by
 refine el4 h fun W B b Z6 eH ok en e q=>?_;subst eH;cases e;exact q W rfl ok .refl
theorem Dq{c:Expr}(h:PT X c (tDB K tc)):PIf X [c] (tDB K tc):=zvr h
theorem Ij{W1:Wd}{Z7:It}{its:List D}{c:Ck}{ZG:G}{ZN:St}{rs:List D}{Z6:M}{p:Addr}{Z:Hp->Prop}(ok1:Ok K W1)(hp:W1.H p=none)(jr:JR K W1 Z7 its c)(en:EnvR K W1 ZG ZN)(hl:its.length<=1000000)
  (e:rE c g tc te its ZG W1.O=some (rs,Z6)) (hZ:∀W' ys,W'.O=Z6->Ok K W'->StepB p (W1.hide p (.lst [])) W'->W'.hid p->W'.H p=some (.lst ys)->DRs K W' rs ys->Z W'.H):
  zK Z7 (tDG K g) (tDB K tc) (tD K te) p ZN W1.H Z:=by
 obtain⟨c1,ds,vs,r1,hj⟩:=jr;obtain⟨P,hP⟩:∃P:Nat->St->Hp->Prop,∀i ZX H2,P i ZX H2↔(i<=its.length/\∃W2 ZW done qO ys,W2.H=H2/\Ok K W2/\StepB p (W1.hide p (.lst [])) W2/\W2.hid p/\W2.H p=some (.lst ys)/\DRs K W2 done ys/\ys.length<=i/\EnvR K W2 ZW ZX/\q0 c W2.O/\rE c g tc te (its.drop i) ZW W2.O=some (qO,Z6)/\done++qO=rs):=⟨_,fun _ _ _=>Iff.rfl⟩
 refine⟨fun i m ZX H2=>m=its.length - i/\P i ZX H2,?_,?_⟩
 ·exact⟨its.length,by simp,(hP _ _ _).2 ⟨Ye _,W1.hide p (.lst []),ZG,[],rs,[],rfl,Bk ok1 hp,⟨fun _ _ h=>h,fun _ h=>.inl h,fun _ _ _ h _=>h,rfl,fun _ h=>h⟩,.inl rfl,rQ,.nil,Xh _,en.hide hp ok1,c1,e,rfl⟩⟩
 rintro i m ZX H2 ⟨rfl,hi⟩;refine bq fun hG=>?_;obtain⟨hi,W2,ZW,done,qO,ys,rfl,ok2,s2,hp2,hy2,rd,hyl,en2,c2,e2,ed⟩:=(hP _ _ _).1 hi;have rj:DRs K W2 ds vs:=(r1.hide hp ok1).stepB (Bk ok1 hp) (.inl rfl) ⟨[],rQ⟩ s2;obtain⟨hstop,hgo⟩:=hj W2 i ok2 c2 rj;by_cases hlt:i<its.length
 ·have hd:its[i]?=some its[i]:=Xm hlt;obtain⟨h1,h2⟩:=hgo _ hd;rw[XS hlt] at e2;refine qC e2 fun pg e3 e2=>?_;refine qC e2 fun pt e4 e2=>?_;refine(hG (.inr ⟨h1,P (i+1),fun Z0 H' hN=>⟨its.length - (i+1),by omega,rfl,hN⟩,fun x H' hy=>?_⟩));refine bq fun hF=>?_;obtain⟨W3,rfl,ZS,ok3,s3,r3⟩:=h2 x H' hy;refine hF ⟨W3,ZW,its[i],pg.1,pg.2,rfl,ok3,en2.step ok2 s3,r3,by rw[ZS];exact e3,fun W4 ZP ZC ok4 s4 en4=>⟨W4,pg.1,pt.1,pt.2,rfl,ok4,en4,by rw[ZC];exact e4,fun W5 ZO ok5 s5=>?_⟩⟩;have s25:=s3.trans (s4.trans s5);split at e2
  ·rename_i ht;refine qC e2 fun pv e5 e2=>?_;refine uy e2 fun c5 e2=>?_;refine qC e2 fun pq e6 e2=>?_;cases e2;refine wx (fun _=>?_) (fun n=>absurd ht n);refine⟨W5,pg.1,pv.1,pv.2,rfl,ok5,en4.step ok4 s5,by rw[ZO];exact e5,fun v W6 Zv ok6 s6 r6=>?_⟩;have s26:=s25.trans s6;have hp6:W6.hid p:=by rw[s26.hid];exact hp2
   have hy6:W6.H p=some (.lst ys):=s26.keep _ _ hy2 (w5 ok2 hp2);have rd6:=rd.step ok2 s26;refine⟨ys,hy6,zq (by omega),(hP _ _ _).2 ⟨hlt,W6.re p (.lst (ys++[v])),pg.1,done++[pv.1],pq.1,ys++[v],rfl,JS ok6 hp6 ⟨_,hy6⟩,(s2.trans s26.b).trans vK,hp6,rQ,?_,by simp;omega,(((en4.step ok4 s5).step ok5 s6).stepB ok6 hp6 ⟨_,hy6⟩ vK),by show q0 c W6.O;rw[Zv];exact c5,by show rE c g tc te _ _ W6.O=_;rw[Zv];exact e6,by simpa using ed⟩⟩;exact(rd6.append (.cons r6 .nil)).stepB ok6 hp6 ⟨_,hy6⟩ vK
  ·rename_i ht;refine uy e2 fun c5 e2=>?_;refine wx (fun n=>absurd n ht) (fun _=>?_);exact(hP _ _ _).2 ⟨hlt,W5,pg.1,done,qO,ys,rfl,ok5,s2.trans s25.b,by rw[s25.hid];exact hp2,s25.keep _ _ hy2 (w5 ok2 hp2),rd.step ok2 s25,by omega,en4.step ok4 s5,by rw[ZO];exact c5,by rw[ZO];exact e2,ed⟩
 ·have e':i=its.length:=by omega
  subst e';rw[X5 (Xh _)] at e2;cases e2;rw[X0] at ed;subst ed;exact hG (.inl ⟨hstop (Xh _),hZ W2 ys rfl ok2 s2 hp2 hy2 rd⟩)
def rL(own:List Str)(cap:List (Str×Nat))(iv:IV)(g:GV)(tc:BV)(te:EV):EV:=fun B O=>(iv B O).bind fun s=>if s.1.1.length<=1000000 then(rE s.1.2 g tc te s.1.1 (rB own cap B) s.2).bind fun q=>some (.lst q.1,q.2) else none
theorem EM{W W1 W':Wd}{p:Addr}{rs:List D}{ys:List V}(s1:Step W W1)(hp:W1.H p=none)(ok1:Ok K W1)(ok':Ok K W')(s:StepB p (W1.hide p (.lst [])) W')(hp':W'.hid p)(hy:W'.H p=some (.lst ys))(r:DRs K W' rs ys):
  Ok K (W'.show W1.hid)/\Step W (W'.show W1.hid)/\DR K (W'.show W1.hid) (.lst rs) (.ref p):=by
 have hs:∀a,W1.hid a->W'.hid a:=fun a z=>by rw[s.hid];exact .inr z
 refine⟨Ug ok' hs,s1.trans (zhe hp s),.lst hy (fun z=>?_) (r.show hs)⟩;rcases z with z|z
 ·exact w5 ok' hp' z
 ·exact G5 ok1 hp z
theorem P6{W:Wd}{B:G}{J:St}{d:D}{Z6:M}(ok:Ok K W)(en:EnvR K W B J)(e:rL own cap iv g tc te B W.O=some (d,Z6)){Z:Addr->Hp->Prop}(q:∀v W',W'.O=Z6->Ok K W'->Step W W'->DR K W' d v->∀p,v=.ref p->Z p W'.H):
  tDI K iv J W.H fun Z7 H1=>∀p,H1 p=none->zK Z7 (tDG K g) (tDB K tc) (tD K te) p (sI own cap J) H1 (Z p):=by
 obtain⟨⟨⟨its,c⟩,Z5⟩,e1,e⟩:=bnd e;refine(⟨W,B,its,c,Z5,rfl,ok,en,e1,fun Z7 W1 ZL ok1 s1 jr p hp=>?_⟩);split at e
 ·rename_i hl;obtain⟨⟨rs,Z4⟩,e2,e⟩:=bnd e;cases e;refine Ij ok1 hp jr ((en.step ok s1).cap own cap) hl (by rw[ZL];exact e2) fun W' ys Zl ok' s' hp' hy r=>?_;obtain⟨a1,a2,a3⟩:=EM s1 hp ok1 ok' s' hp' hy r;exact(q _ (W'.show W1.hid) Zl a1 a2 a3 p rfl)
 ·cases e
theorem uA(S:CompScope X N' own cap scope)(hi:PI X tg iter (tDI K iv))
  (hg:∀cl C Z3 Z1 ex,PG (qM X N' scope cl C Z3 Z1 ex) tg (tDG K g)) (ht:∀cl C Z3 Z1 ex,PIf (qM X N' scope cl C Z3 Z1 ex) ifs (tDB K tc)) (he:∀cl C Z3 Z1 ex,PE (qM X N' scope cl C Z3 Z1 ex) elt (tD K te))
  (hx:∀e s,X.xe e s->False:=by exact fun _ _ z=>z) (hc:X.calm=true:=by rfl) (hs:∀x,foldedSetIterable iter X.env x=pure x:=by intro _;rfl):
  PE X (.ListComp elt [⟨tg,iter,ifs,0⟩] scope pos) (tD K (rL own cap iv g tc te)):=rf (NG S hi hg ht he hx hc hs) fun J H Q h=>by
 refine el4 h fun W B d Z6 eH ok en e q=>?_;subst eH;exact P6 ok en e fun v W' h1 h2 h3 h4 p hv=>by subst hv;exact q _ W' h1 h2 h3 h4
end
open PyProof.Rows (envOfC)
def rC(n m:Nat)(es:SV):C0:=fun ds O=>if ds.length=m then(es (ds.map some++List.replicate (n - ds.length) none) O).bind fun o=>match o.1 with
  | .rt d=>some (d,o.2.2)
  | .nx=>some (.non,o.2.2)
  |_=>none
 else none
section
variable {P:Program} {w:World} {K:Frag} {mg:Str->Option Value} {base:Heap}
theorem HK{W:Wd}{ds:List D}{vs:List V}{n:Nat}(r:DRs K W ds vs):EnvR K W (ds.map some++List.replicate (n - ds.length) none) (vs.map some++List.replicate (n - vs.length) none) where
 len:=by simp[r.length]
 at_ i d h:=by
  by_cases hi:i<ds.length
  ·rw[Xv (by simpa using hi)] at h;rw[Xv (by simpa using r.length▸hi)];simp only[XA] at h⊢;cases hd:ds[i]? with
   |none=>rw[hd] at h;cases h
   |some d'=>
    rw[hd] at h;cases h;obtain⟨v,hv,q⟩:=r.get hd;exact⟨v,by rw[hv];rfl,q⟩
  ·rw[XR (by simpa using hi)] at h;simp[List.getElem?_replicate] at h
theorem rT{x qual:Str}{st:Stmt}{f:Addr}{fd:FuncData}{N ps:List Str}{k:Nat}{es:SV}(F:Fun K x qual st f fd)(S:FnScope N ps (qF st))
  (hb:∀(cdv:Value) (A:Around) (outer:List Env) (s:Shared) (H:Hp) (E:XK),Room k (A.deeper (envOfC qual (qF st) s.heap.objs.size f cdv))->PSs (rq CX0 P w K mg base N qual (qF st) f cdv A outer s H E).nox (rc st) (tDS K es)):
  FnOk P w K mg base CX0 (k+1) f fd ps (spM K (rC N.length ps.length es)):=by
 refine F.ok S (fun vs H Q E h=>?_) (fun cdv A outer s H vs Q E hr h=>?_)
 ·obtain⟨W,ds,d,Z6,_,_,r,e,_⟩:=h;unfold rC at e;split at e
  ·rename_i hl;rw[←r.length];exact hl
  ·cases e
 ·obtain⟨W,ds,d,Z6,rfl,ok,r,e,q⟩:=h;refine⟨_,hb cdv A outer s W.H E hr,?_⟩;unfold rC at e;split at e
  ·obtain⟨⟨o,ZY,Z4⟩,e1,e⟩:=bnd e;refine⟨W,_,o,ZY,Z4,rfl,ok,HK r,e1,fun W' Z0 Z2 ok' s' en'=>?_⟩;cases o with
   |rt z=>cases e;exact fun v rv=>q v W' Z2 ok' s' rv
   |nx=>cases e;exact q _ W' Z2 ok' s' .non
   |bk=>cases e
   |ct=>cases e
  ·cases e
end
section
variable {X:Cx} {K:Frag} {a b c e:Expr} {ea eb ec:EV} {pos p:Pos}
theorem R2A.or{r r':R2}{f g h:D->D->M->Fr}(ra:R2A K r f)(rb:R2A K r' g)(hh:∀x y O z,h x y O=some z->f x y O=some z\/g x y O=some z):R2A K (fun x y H Q=>r x y H Q\/r' x y H Q) h:=by
 intro W x y d e z Z6 Q ok r1 r2 hf q;rcases hh _ _ _ _ hf with hf|hf
 ·exact .inl (ra W x y d e z Z6 Q ok r1 r2 hf q)
 ·exact .inr (rb W x y d e z Z6 Q ok r1 r2 hf q)
theorem ra_cat:R2A K HJ y0:=by
 intro W x y d e z Z6 Q ok r1 r2 hf q;refine qC hf fun xs hx hf=>?_;refine qC hf fun ys hy hf=>?_;split at hf
 ·rename_i hl;cases hf;obtain⟨a,vs,rfl,ha,hv⟩:=FE ok hx r1;obtain⟨b,us,rfl,hb,hu⟩:=FE ok hy r2;exact⟨a,b,vs,us,rfl,rfl,ha,hb,vP (by rw[←hv.length,←hu.length];omega),fun p hp=>q _ (W.lay p (.lst (vs++us))) rfl (tf ok hp) (rX hp) (yU ok hp (hv.append hu))⟩
 ·cases hf
theorem Sf:R2A K KB Hf:=by
 intro W x y d e z Z6 Q ok r1 r2 hf q;refine qC hf fun xs hx hf=>?_;split at hf
 ·split at hf
  ·rename_i hl;cases hf;cases r2;obtain⟨a,vs,rfl,ha,hv⟩:=FE ok hx r1;exact⟨a,_,vs,rfl,rfl,ha,by omega,by omega,vP (by rw[←hv.length];omega),fun p hp=>q _ (W.lay p _) rfl (tf ok hp) (rX hp) (yU ok hp (hv.rep _))⟩
  ·cases hf
 ·cases hf
def BU(x y:D)(O:M):Fr:=match x with
 | .tup xs=>(uU y).bind fun ys=>if xs≠[]/\xs.length+ys.length<=1000000 then some (.tup (xs++ys),O) else none
 |_=>none
noncomputable instance{α:Type}{xs:List α}:Decidable (xs≠[]):=by cases xs<;>simp<;>infer_instance
theorem OD:R2A K (JV K) BU:=by
 intro W x y d e z Z6 Q ok r1 r2 hf q;unfold BU at hf;split at hf
 ·rename_i xs;refine qC hf fun ys hy hf=>?_;split at hf
  case isFalse=>cases hf
  rename_i hl;cases hf;have rr:=r1;obtain⟨a,vs,rfl,ha,hv⟩:=vy (ds:=xs) rfl r1;obtain⟨b,us,rfl,hb,hu⟩:=vy hy r2;refine⟨a,b,vs,us,rfl,rfl,ha,hb,fun z=>?_,vP (by rw[←hv.length,←hu.length];omega),fun z=>?_,fun _ p hp=>q _ (W.lay p (.tup (vs++us))) rfl (tf ok hp) (rX hp) (w9 ok hp (hv.append hu))⟩
  ·have:=hv.length;rw[z] at this;exact hl.1 (Yk.mp this)
  ·have h0:=hu.length;rw[z] at h0;have h1:=Yk.mp h0;subst h1;refine q _ W rfl ok .refl ?_;rw[X0];exact rr
 ·cases hf
def sf(x y:D)(O:M):Fr:=match x with
 | .int i=>match y with
  | .int j=>some (.int (i+j),O)
  |_=>none
 | .tup _=>BU x y O
 |_=>y0 x y O
theorem u6(ha:PE X a (tD K ea))(hb:PE X b (tD K eb))(hK:X.K=K:=by rfl):PE X (.BinOp a .Add b pos) (tD K (v2 sf ea eb)):=by
 subst hK;refine x4 (op_add.or (op_cat.or UA)) ((vI (h:=fun i j=>.int (i+j)) fun _ _ _=>.int _).or (ra_cat.or OD (h:=fun x y O=>match x with| .tup _=>BU x y O|_=>y0 x y O) fun x y O z h=>?_) fun x y O z h=>?_) ha hb
 ·split at h
  ·exact .inr h
  ·exact .inl h
 ·unfold sf at h;split at h
  ·split at h
   ·exact .inl h
   ·cases h
  ·exact .inr h
  ·rename_i h1 h2;refine .inr ?_;split
   ·exact absurd rfl (h2 _)
   ·exact h
def vp(x y:D)(O:M):Fr:=match x with
 | .int i=>match y with
  | .int j=>if CMul i j then some (.int (i*j),O) else none
  |_=>none
 |_=>Hf x y O
theorem EL(ha:PE X a (tD K ea))(hb:PE X b (tD K eb)):PE X (.BinOp a .Mult b pos) (tD K (v2 vp ea eb)):=by
 refine x4 (op_mul.or Sb) ((Ac (C:=CMul) (h:=fun i j=>.int (i*j)) fun _ _ _=>.int _).or Sf fun x y O z h=>?_) ha hb;unfold vp at h;split at h
 ·split at h
  ·exact .inl h
  ·cases h
 ·exact .inr h
def tY(f g:D->D->M->Fr)(ea eb ec:EV):EV:=fun B O=>(ea B O).bind fun p=>(eb B p.2).bind fun q=>(f p.1 q.1 q.2).bind fun t=>match t.1 with
 | .bl true=>(ec B t.2).bind fun r=>g q.1 r.1 r.2
 | .bl false=>some (.bl false,t.2)
 |_=>none
theorem Hj{r r':R2}{f g:D->D->M->Fr}(ra:R2A K r f)(rb:R2A K r' g):∀J H Q,tD K (tY f g ea eb ec) J H Q->Co r r' (tD K ea) (tD K eb) (tD K ec) J H Q:=fun J H Q h=>by
 refine el4 h fun W B d Z6 eH ok en e q=>?_;subst eH;refine qC e fun p1 e1 e=>?_;refine qC e fun p2 e2 e=>?_;refine qC e fun p3 e3 e=>?_;refine⟨W,B,p1.1,p1.2,rfl,ok,en,e1,fun x W1 Z2 ok1 s1 r1=>⟨W1,B,p2.1,p2.2,rfl,ok1,en.step ok s1,by rw[Z2];exact e2,fun y W2 ZV ok2 s2 r2=>?_⟩⟩;refine ra W2 x y _ _ _ _ _ ok2 (r1.step ok1 s2) r2 (by rw[ZV];exact e3) fun v W3 ZS ok3 s3 r3=>?_;split at e
 ·rename_i hp;rw[hp] at r3;cases r3;refine qC e fun p4 e4 e=>?_;refine⟨true,rfl,Ct ⟨W3,B,p4.1,p4.2,rfl,ok3,((en.step ok s1).step ok1 s2).step ok2 s3,by rw[ZS];exact e4,fun z W4 ZC ok4 s4 r4=>?_⟩⟩;exact rb W4 y z _ _ _ _ _ ok4 ((r2.step ok2 s3).step ok3 s4) r4 (by rw[ZC];exact e) fun v5 W5 ZO ok5 s5 r5=>q v5 W5 ZO ok5 (s1.trans (s2.trans (s3.trans (s4.trans s5)))) r5
 ·rename_i hp;rw[hp] at r3;cases r3;cases e;exact⟨false,rfl,FD (q _ W3 ZS ok3 (s1.trans (s2.trans s3)) (.bl _))⟩
 ·cases e
theorem VA{op op':CmpOp}{r r':R2}{f g:D->D->M->Fr}(ho:OpR X (compareOp op) r)(ra:R2A K r f)(ho':OpR X (compareOp op') r')(rb:R2A K r' g)(ha:PE X a (tD K ea))(hb:PE X b (tD K eb))(hc:PE X c (tD K ec))
  (hm:lastMarks [op,op'] [b,c]=false:=by with_unfolding_all rfl):PE X (.Compare a [op,op'] [b,c] pos) (tD K (tY f g ea eb ec)):=rf (Rz ho ho' ha hb hc hm) (Hj ra rb)
theorem Ie{op op':CmpOp}{r r':R2}{f g:D->D->M->Fr}(ho:OpR X (compareOp op) r)(ra:R2A K r f)(ho':OpR X (compareOp op') r')(rb:R2A K r' g)(ha:PE X a (tD K ea))(hb:PE X b (tD K eb))(hc:PE X c (tD K ec))
  (hm:lastMarks [op,op'] [b,c]=false:=by with_unfolding_all rfl):PT X (.Compare a [op,op'] [b,c] pos) (tDB K (vT (tY f g ea eb ec))):=wD (SO ho ho' ha hb hc hm) (Fe (Hj ra rb))
theorem FI:R2A K (rI0 fun i j=>.bl (decide (i<j))) fLt:=vI fun _ _ _=>.bl _
theorem Fl:R2A K (rI0 fun i j=>.bl (decide (i<=j))) fLe:=vI fun _ _ _=>.bl _
end
section
variable {X:Cx} {K:Frag} {ea:EV} {pos p:Pos}
def wz(ds:List D):List D:=ds.zipIdx.map fun x=>D.tup [.int (x.2:Nat),x.1]
theorem Wj{ds:List D}{i:Nat}{d:D}(h:(wz ds)[i]?=some d):∃x,ds[i]?=some x/\d=.tup [.int (i:Nat),x]:=by
 unfold wz at h;rw[XA] at h;simp only[List.getElem?_zipIdx] at h;cases hx:ds[i]? with
 |none=>rw[hx] at h;cases h
 |some x=>rw[hx] at h;simp at h;exact⟨x,rfl,h.symm⟩
def Cn(ea:EV):IV:=fun B O=>(ea B O).bind fun p=>(lsC p.2 p.1).bind fun s=>some ((wz s.1,s.2),p.2)
theorem Q6(ml:X.mg "enumerate"=none) {a:Expr} {elts:List Expr} {k:Nat} {tpos:Pos} (ha:PE X a (tD K ea)) (hg:Gl X "enumerate":=by rfl) (hs:starEach [a] X.env=[(false,eval a X.env)]:=by rfl) (hK:X.K=K:=by rfl):
  PI X (.Tuple elts k tpos) (.Call (.Name "enumerate" p) [a] [] pos) (tDI K (Cn ea)):=x8 (iEn K ml ha hg hs hK) fun J H R h=>by
 refine el5 h fun W B its c Z6 eH ok en e q=>?_;subst eH;refine qC e fun p1 e1 e=>?_;obtain⟨⟨ds,c'⟩,e2,e⟩:=bnd e;cases e;refine(⟨W,B,p1.1,p1.2,rfl,ok,en,e1,fun v W1 Z2 ok1 s1 r1=>?_⟩);obtain⟨c0,a,rfl,hh⟩:=CD ok1 (by rw[Z2];exact e2) r1;obtain⟨vs0,h0,_⟩:=hh W1 ok1 c0 r1;refine(⟨a,rfl,⟨_,h0⟩,q (Ite K a) W1 Z2 ok1 s1 ⟨c0,[p1.1],[.ref a],.cons r1 .nil,fun W2 i ok2 c2 r2=>?_⟩⟩);cases r2 with
 |cons r2 _=>
  obtain⟨vs,hs,hv⟩:=hh W2 ok2 c2 r2;refine⟨fun hi=>⟨vs,hs,by rw[←hv.length];simpa[wz] using hi⟩,fun d hd=>?_⟩;obtain⟨x,hx,rfl⟩:=Wj hd;obtain⟨v,hv1,hv2⟩:=hv.get hx;refine(⟨⟨vs,v,hs,hv1⟩,fun y H' hy=>?_⟩);obtain⟨p,u,rfl,hp,rfl,hu⟩:=hy;have:=hu vs hs;rw[hv1] at this;cases this;exact⟨W2.lay p _,rfl,rfl,tf ok2 hp,rX hp,w9 ok2 hp (.cons (.int _) (.cons hv2 .nil))⟩
end
def uX(c:Ck)(g:GV)(tc:BV)(te:EV):List D->G->M->Option (List D×G×M)
 | [],B,O=>some ([],B,O)
 |d::r,B,O=>(g d B O).bind fun p=>(tc p.1 p.2).bind fun t=>if t.1=true then(te p.1 t.2).bind fun v=>chk (q0 c v.2) ((uX c g tc te r p.1 v.2).bind fun q=>some (v.1::q.1,q.2)) else chk (q0 c t.2) (uX c g tc te r p.1 t.2)
def tp(c:Ck)(g:GV)(tc:BV)(iv2:IV)(g2:GV)(tc2:BV)(te:EV):List D->G->M->Option (List D×M)
 | [],_,O=>some ([],O)
 |d::r,B,O=>(g d B O).bind fun p=>(tc p.1 p.2).bind fun t=>if t.1=true then(iv2 p.1 t.2).bind fun s=>(uX s.1.2 g2 tc2 te s.1.1 p.1 s.2).bind fun q=>chk (q0 c q.2.2) ((tp c g tc iv2 g2 tc2 te r q.2.1 q.2.2).bind fun z=>some (q.1++z.1,z.2)) else chk (q0 c t.2) (tp c g tc iv2 g2 tc2 te r p.1 t.2)
section
variable {X:Cx} {K:Frag} {N' own:List Str} {cap:List (Str×Nat)} {scope:Scope} {tg iter elt tg2 iter2:Expr} {ifs ifs2:List Expr} {pos:Pos} {iv iv2:IV} {g g2:GV} {tc tc2:BV} {te:EV}
theorem zid{W:Wd}{Z7:It}{its:List D}{c:Ck}{ZG:G}{ZN:St}{done0 rs:List D}{ys0:List V}{ZY:G}{Z6:M}{p:Addr}{Z:St->Hp->Prop}(ok:Ok K W)(hp:W.hid p)(hy:W.H p=some (.lst ys0))(rd0:DRs K W done0 ys0)(jr:JR K W Z7 its c)(en:EnvR K W ZG ZN)
  (e:uX c g tc te its ZG W.O=some (rs,ZY,Z6)) (hl:done0.length+rs.length<=1000000) (hZ:∀W' Z0 ys,W'.O=Z6->Ok K W'->StepB p W W'->W'.hid p->W'.H p=some (.lst ys)->DRs K W' (done0++rs) ys->EnvR K W' ZY Z0->Z Z0 W'.H):
  Fa Z7 (tDG K g) (tDB K tc) (tD K te) p ZN W.H Z:=by
 obtain⟨c1,ds,vs,r1,hj⟩:=jr;obtain⟨P,hP⟩:∃P:Nat->St->Hp->Prop,∀i ZX H2,P i ZX H2↔(i<=its.length/\∃W2 ZW done qO ys,W2.H=H2/\Ok K W2/\StepB p W W2/\W2.hid p/\W2.H p=some (.lst ys)/\DRs K W2 done ys/\EnvR K W2 ZW ZX/\q0 c W2.O/\uX c g tc te (its.drop i) ZW W2.O=some (qO,ZY,Z6)/\done++qO=done0++rs):=⟨_,fun _ _ _=>Iff.rfl⟩
 refine⟨fun i m ZX H2=>m=its.length - i/\P i ZX H2,?_,?_⟩
 ·exact⟨its.length,by simp,(hP _ _ _).2 ⟨Ye _,W,ZG,done0,rs,ys0,rfl,ok,Step.refl.b,hp,hy,rd0,en,c1,e,rfl⟩⟩
 rintro i m ZX H2 ⟨rfl,hi⟩;refine bq fun hG=>?_;obtain⟨hi,W2,ZW,done,qO,ys,rfl,ok2,s2,hp2,hy2,rd,en2,c2,e2,ed⟩:=(hP _ _ _).1 hi;have rj:DRs K W2 ds vs:=r1.stepB ok hp ⟨_,hy⟩ s2;obtain⟨hstop,hgo⟩:=hj W2 i ok2 c2 rj;by_cases hlt:i<its.length
 ·have hd:its[i]?=some its[i]:=Xm hlt;obtain⟨h1,h2⟩:=hgo _ hd;rw[XS hlt] at e2;refine qC e2 fun pg e3 e2=>?_;refine qC e2 fun pt e4 e2=>?_;refine(hG (.inr ⟨h1,P (i+1),fun Z0 H' hN=>⟨its.length - (i+1),by omega,rfl,hN⟩,fun x H' hy=>?_⟩));refine bq fun hF=>?_;obtain⟨W3,rfl,ZS,ok3,s3,r3⟩:=h2 x H' hy;refine hF ⟨W3,ZW,its[i],pg.1,pg.2,rfl,ok3,en2.step ok2 s3,r3,by rw[ZS];exact e3,fun W4 ZP ZC ok4 s4 en4=>⟨W4,pg.1,pt.1,pt.2,rfl,ok4,en4,by rw[ZC];exact e4,fun W5 ZO ok5 s5=>?_⟩⟩;have s25:=s3.trans (s4.trans s5);split at e2
  ·rename_i ht;refine qC e2 fun pv e5 e2=>?_;refine uy e2 fun c5 e2=>?_;obtain⟨⟨q1,Zf,Zd⟩,e6,e2⟩:=bnd e2;cases e2;refine(wx (fun _=>?_) (fun n=>absurd ht n));refine⟨W5,pg.1,pv.1,pv.2,rfl,ok5,en4.step ok4 s5,by rw[ZO];exact e5,fun v W6 Zv ok6 s6 r6=>?_⟩;have s26:=s25.trans s6;have hp6:W6.hid p:=by rw[s26.hid];exact hp2
   have hy6:W6.H p=some (.lst ys):=s26.keep _ _ hy2 (w5 ok2 hp2);have rd6:=rd.step ok2 s26;have hlen:ys.length<1000000:=by
    have h1:=congrArg List.length ed;simp only[XH,XM] at h1;rw[←rd.length];omega
   refine⟨ys,hy6,zq (by omega),(hP _ _ _).2 ⟨hlt,W6.re p (.lst (ys++[v])),pg.1,done++[pv.1],q1,ys++[v],rfl,JS ok6 hp6 ⟨_,hy6⟩,(s2.trans s26.b).trans vK,hp6,rQ,?_,(((en4.step ok4 s5).step ok5 s6).stepB ok6 hp6 ⟨_,hy6⟩ vK),by show q0 c W6.O;rw[Zv];exact c5,by show uX c g tc te _ _ W6.O=_;rw[Zv];exact e6,by simpa using ed⟩⟩;exact(rd6.append (.cons r6 .nil)).stepB ok6 hp6 ⟨_,hy6⟩ vK
  ·rename_i ht;refine uy e2 fun c5 e2=>?_;refine wx (fun n=>absurd n ht) (fun _=>?_);exact(hP _ _ _).2 ⟨hlt,W5,pg.1,done,qO,ys,rfl,ok5,s2.trans s25.b,by rw[s25.hid];exact hp2,s25.keep _ _ hy2 (w5 ok2 hp2),rd.step ok2 s25,en4.step ok4 s5,by rw[ZO];exact c5,by rw[ZO];exact e2,ed⟩
 ·have e':i=its.length:=by omega
  subst e';rw[X5 (Xh _)] at e2;cases e2;rw[X0] at ed;subst ed;exact hG (.inl ⟨hstop (Xh _),hZ W2 ZX ys rfl ok2 s2 hp2 hy2 rd en2⟩)
theorem O1{W1:Wd}{Z7:It}{its:List D}{c:Ck}{ZG:G}{ZN:St}{rs:List D}{Z6:M}{p:Addr}{Z:Hp->Prop}(ok1:Ok K W1)(hp:W1.H p=none)(jr:JR K W1 Z7 its c)(en:EnvR K W1 ZG ZN)(hl:rs.length<=1000000)
  (e:tp c g tc iv2 g2 tc2 te its ZG W1.O=some (rs,Z6)) (hZ:∀W' ys,W'.O=Z6->Ok K W'->StepB p (W1.hide p (.lst [])) W'->W'.hid p->W'.H p=some (.lst ys)->DRs K W' rs ys->Z W'.H):
  yd Z7 (tDG K g) (tDB K tc) (tDI K iv2) (tDG K g2) (tDB K tc2) (tD K te) p ZN W1.H Z:=by
 obtain⟨c1,ds,vs,r1,hj⟩:=jr;obtain⟨P,hP⟩:∃P:Nat->St->Hp->Prop,∀i ZX H2,P i ZX H2↔(i<=its.length/\∃W2 ZW done qO ys,W2.H=H2/\Ok K W2/\StepB p (W1.hide p (.lst [])) W2/\W2.hid p/\W2.H p=some (.lst ys)/\DRs K W2 done ys/\EnvR K W2 ZW ZX/\q0 c W2.O/\tp c g tc iv2 g2 tc2 te (its.drop i) ZW W2.O=some (qO,Z6)/\done++qO=rs):=⟨_,fun _ _ _=>Iff.rfl⟩
 refine⟨fun i m ZX H2=>m=its.length - i/\P i ZX H2,?_,?_⟩
 ·exact⟨its.length,by simp,(hP _ _ _).2 ⟨Ye _,W1.hide p (.lst []),ZG,[],rs,[],rfl,Bk ok1 hp,⟨fun _ _ h=>h,fun _ h=>.inl h,fun _ _ _ h _=>h,rfl,fun _ h=>h⟩,.inl rfl,rQ,.nil,en.hide hp ok1,c1,e,rfl⟩⟩
 rintro i m ZX H2 ⟨rfl,hi⟩;refine bq fun hG=>?_;obtain⟨hi,W2,ZW,done,qO,ys,rfl,ok2,s2,hp2,hy2,rd,en2,c2,e2,ed⟩:=(hP _ _ _).1 hi;have rj:DRs K W2 ds vs:=(r1.hide hp ok1).stepB (Bk ok1 hp) (.inl rfl) ⟨[],rQ⟩ s2;obtain⟨hstop,hgo⟩:=hj W2 i ok2 c2 rj;by_cases hlt:i<its.length
 ·have hd:its[i]?=some its[i]:=Xm hlt;obtain⟨h1,h2⟩:=hgo _ hd;rw[XS hlt] at e2;refine qC e2 fun pg e3 e2=>?_;refine qC e2 fun pt e4 e2=>?_;refine(hG (.inr ⟨h1,P (i+1),fun Z0 H' hN=>⟨its.length - (i+1),by omega,rfl,hN⟩,fun x H' hy=>?_⟩));refine bq fun hF=>?_;obtain⟨W3,rfl,ZS,ok3,s3,r3⟩:=h2 x H' hy;refine hF ⟨W3,ZW,its[i],pg.1,pg.2,rfl,ok3,en2.step ok2 s3,r3,by rw[ZS];exact e3,fun W4 ZP ZC ok4 s4 en4=>⟨W4,pg.1,pt.1,pt.2,rfl,ok4,en4,by rw[ZC];exact e4,fun W5 ZO ok5 s5=>?_⟩⟩;have s25:=s3.trans (s4.trans s5);split at e2
  ·rename_i ht;obtain⟨⟨⟨its2,k2⟩,Zc⟩,e5,e2⟩:=bnd e2;obtain⟨⟨q1,Zf,Zd⟩,e6,e2⟩:=bnd e2;refine uy e2 fun c6 e2=>?_;refine qC e2 fun z e7 e2=>?_;cases e2;refine(wx (fun _=>?_) (fun n=>absurd ht n));refine⟨W5,pg.1,its2,k2,Zc,rfl,ok5,en4.step ok4 s5,by rw[ZO];exact e5,fun J2 W6 Zv ok6 s6 jr6=>?_⟩;have s26:=s25.trans s6;have hp6:W6.hid p:=by rw[s26.hid];exact hp2
   have hy6:W6.H p=some (.lst ys):=s26.keep _ _ hy2 (w5 ok2 hp2);have hlen:done.length+q1.length<=1000000:=by
    have h1:=congrArg List.length ed;simp only[XH] at h1;omega
   refine zid ok6 hp6 hy6 (rd.step ok2 s26) jr6 ((en4.step ok4 s5).step ok5 s6) (by rw[Zv];exact e6) hlen fun W7 ZT ys7 Zo ok7 s7 hp7 hy7 rd7 en7=>?_;exact(hP _ _ _).2 ⟨hlt,W7,Zf,done++q1,z.1,ys7,rfl,ok7,(s2.trans s26.b).trans s7,hp7,hy7,rd7,en7,by rw[Zo];exact c6,by rw[Zo];exact e7,by simpa using ed⟩
  ·rename_i ht;refine uy e2 fun c5 e2=>?_;refine wx (fun n=>absurd n ht) (fun _=>?_);exact(hP _ _ _).2 ⟨hlt,W5,pg.1,done,qO,ys,rfl,ok5,s2.trans s25.b,by rw[s25.hid];exact hp2,s25.keep _ _ hy2 (w5 ok2 hp2),rd.step ok2 s25,en4.step ok4 s5,by rw[ZO];exact c5,by rw[ZO];exact e2,ed⟩
 ·have e':i=its.length:=by omega
  subst e';rw[X5 (Xh _)] at e2;cases e2;rw[X0] at ed;subst ed;exact hG (.inl ⟨hstop (Xh _),hZ W2 ys rfl ok2 s2 hp2 hy2 rd⟩)
def uv(own:List Str)(cap:List (Str×Nat))(iv:IV)(g:GV)(tc:BV)(iv2:IV)(g2:GV)(tc2:BV)(te:EV):EV:=fun B O=>(iv B O).bind fun s=>(tp s.1.2 g tc iv2 g2 tc2 te s.1.1 (rB own cap B) s.2).bind fun q=>if q.1.length<=1000000 then some (.lst q.1,q.2) else none
theorem HD{W:Wd}{B:G}{J:St}{d:D}{Z6:M}(ok:Ok K W)(en:EnvR K W B J)(e:uv own cap iv g tc iv2 g2 tc2 te B W.O=some (d,Z6)){Z:Addr->Hp->Prop}(q:∀v W',W'.O=Z6->Ok K W'->Step W W'->DR K W' d v->∀p,v=.ref p->Z p W'.H):
  tDI K iv J W.H fun Z7 H1=>∀p,H1 p=none->yd Z7 (tDG K g) (tDB K tc) (tDI K iv2) (tDG K g2) (tDB K tc2) (tD K te) p (sI own cap J) H1 (Z p):=by
 obtain⟨⟨⟨its,c⟩,Z5⟩,e1,e⟩:=bnd e;refine(⟨W,B,its,c,Z5,rfl,ok,en,e1,fun Z7 W1 ZL ok1 s1 jr p hp=>?_⟩);obtain⟨⟨rs,Z4⟩,e2,e⟩:=bnd e;split at e
 ·rename_i hl;cases e;refine O1 ok1 hp jr ((en.step ok s1).cap own cap) hl (by rw[ZL];exact e2) fun W' ys Zl ok' s' hp' hy r=>?_;obtain⟨a1,a2,a3⟩:=EM s1 hp ok1 ok' s' hp' hy r;exact(q _ (W'.show W1.hid) Zl a1 a2 a3 p rfl)
 ·cases e
theorem zud(S:CompScope X N' own cap scope)(hi:PI X tg iter (tDI K iv))
  (hg:∀cl C Z3 Z1 ex,PG (qM X N' scope cl C Z3 Z1 ex) tg (tDG K g)) (ht:∀cl C Z3 Z1 ex,PIf (qM X N' scope cl C Z3 Z1 ex) ifs (tDB K tc))
  (hi2:∀cl C Z3 Z1 ex,PI (qM X N' scope cl C Z3 Z1 ex) tg2 iter2 (tDI K iv2)) (hg2:∀cl C Z3 Z1 ex,PG (qM X N' scope cl C Z3 Z1 ex) tg2 (tDG K g2)) (ht2:∀cl C Z3 Z1 ex,PIf (qM X N' scope cl C Z3 Z1 ex) ifs2 (tDB K tc2))
  (he:∀cl C Z3 Z1 ex,PE (qM X N' scope cl C Z3 Z1 ex) elt (tD K te))
  (hx:∀e s,X.xe e s->False:=by exact fun _ _ z=>z) (hc:X.calm=true:=by rfl) (hs:∀x,foldedSetIterable iter X.env x=pure x:=by intro _;rfl) (hs2:∀cl C x,foldedSetIterable iter2 (compEnvC scope cl C X.env) x=pure x:=by intro _ _ _;rfl):
  PE X (.ListComp elt [⟨tg,iter,ifs,0⟩,⟨tg2,iter2,ifs2,0⟩] scope pos) (tD K (uv own cap iv g tc iv2 g2 tc2 te)):=rf (Rb S hi hg ht hi2 hg2 ht2 he hx hc hs hs2) fun J H Q h=>by
 refine el4 h fun W B d Z6 eH ok en e q=>?_;subst eH;exact HD ok en e fun v W' h1 h2 h3 h4 p hv=>by subst hv;exact q _ W' h1 h2 h3 h4
theorem E7{i:Nat}{y:Str}{py spos:Pos}(hN:X.N.Nodup)(hi':X.N[i]?=some y)(hy:X.env.scope.names.lookup y=some .local)(S:CompScope X N' own cap scope)(hi:PI X tg iter (tDI K iv))
  (hg:∀cl C Z3 Z1 ex,PG (qM X N' scope cl C Z3 Z1 ex) tg (tDG K g)) (ht:∀cl C Z3 Z1 ex,PIf (qM X N' scope cl C Z3 Z1 ex) ifs (tDB K tc))
  (hi2:∀cl C Z3 Z1 ex,PI (qM X N' scope cl C Z3 Z1 ex) tg2 iter2 (tDI K iv2)) (hg2:∀cl C Z3 Z1 ex,PG (qM X N' scope cl C Z3 Z1 ex) tg2 (tDG K g2)) (ht2:∀cl C Z3 Z1 ex,PIf (qM X N' scope cl C Z3 Z1 ex) ifs2 (tDB K tc2))
  (he:∀cl C Z3 Z1 ex,PE (qM X N' scope cl C Z3 Z1 ex) elt (tD K te))
  (hsw:swapsWith (.ListComp elt [⟨tg,iter,ifs,0⟩,⟨tg2,iter2,ifs2,0⟩] scope pos) (some (.Name y py)) spos.line X.env=pure true:=by rfl)
  (hx:∀e s,X.xe e s->False:=by exact fun _ _ z=>z) (hc:X.calm=true:=by rfl) (hs:∀x,foldedSetIterable iter X.env x=pure x:=by intro _;rfl) (hs2:∀cl C x,foldedSetIterable iter2 (compEnvC scope cl C X.env) x=pure x:=by intro _ _ _;rfl):
  PS X (.Assign [.Name y py] (.ListComp elt [⟨tg,iter,ifs,0⟩,⟨tg2,iter2,ifs2,0⟩] scope pos) spos) (tDS K (qQ (uv own cap iv g tc iv2 g2 tc2 te) (qA i))):=sN (Pw hN hi' hy S hi hg ht hi2 hg2 ht2 he hsw hx hc hs hs2) fun D J H h=>by
 refine el5 h fun W B o ZY Z6 eH ok en e q=>?_;subst eH;refine qC e fun p1 e1 e=>?_;cases e;exact HD (Z:=fun p H2=>D.nx (J.set i (some (.ref p))) H2) ok en e1 fun v W' h1 h2 h3 h4 p hv=>by subst hv;exact q W' _ h1 h2 h3 ((en.step ok h3).set h4 i)
end
section
variable {n:Nat} {O:M}
theorem Tk{i:Int}:py (n+1) O (.int i)=some (.int i):=rfl
theorem O2{x:Str}:py (n+1) O (.str x)=some (.str x):=rfl
theorem Sd{xs:List D}:py (n+1) O (.lst xs)=(rD (py n O) xs).bind fun ys=>some (.list ys):=rfl
theorem bs{α β:Type}{a:α}{f:α->Option β}:(some a).bind f=f a:=rfl
theorem xl{α β γ:Type}{f:β->Option γ}{g:α->β}{h:α->γ}:∀{l:List α},(∀x∈l,f (g x)=some (h x))->rD f (l.map g)=some (l.map h)
 | [],_=>rfl
 |x::r,e=>by
  have e1:=e x (by simp);have e2:=xl (l:=r) fun y hy=>e y (by simp[hy]);simp only[Xr,rD,e1,e2,bs]
end
section
variable {B:G} {O Z5 Z4:M} {ea eb:EV} {x y d:D} {f:D->D->M->Fr} {f1:D->M->Fr} {i:Nat}
theorem HH(h:B[i]?=some (some d)):be i B O=some (d,O):=by unfold be;rw[h]
theorem e_2(h1:ea B O=some (x,Z5))(h2:eb B Z5=some (y,Z4)):v2 f ea eb B O=f x y Z4:=by unfold v2;rw[h1,bs,h2,bs]
theorem e_1(h1:ea B O=some (x,Z5)):v1 f1 ea B O=f1 x Z5:=by unfold v1;rw[h1,bs]
end
def xt(b:SV):Option (Out×G×M)->Option (Out×G×M)
 |some (.nx,B,O)=>b B O
 |x=>x
@[simp] theorem wg{b:SV}{B:G}{O:M}:xt b (some (.nx,B,O))=b B O:=rfl
@[simp] theorem kSeq_rt{b:SV}{d:D}{B:G}{O:M}:xt b (some (.rt d,B,O))=some (.rt d,B,O):=rfl
@[simp] theorem kSeq_bk{b:SV}{B:G}{O:M}:xt b (some (.bk,B,O))=some (.bk,B,O):=rfl
@[simp] theorem kSeq_ct{b:SV}{B:G}{O:M}:xt b (some (.ct,B,O))=some (.ct,B,O):=rfl
@[simp] theorem tz{a b:SV}{B:G}{O:M}:qE a b B O=xt b (a B O):=by
 unfold qE xt;cases h:a B O with
 |none=>rfl
 |some o=>obtain⟨o1,ZZ,Z5⟩:=o;cases o1<;>rfl
section
variable {B:G} {O:M} {ea eb ec:EV} {ba bb:BV} {el:LV} {sa sb:SV} {i j:Nat} {d x y:D} {ds:List D} {b:Bool}
@[simp] theorem vVar_eq:be i B O=match B[i]? with
 |some (some d)=>some (d,O)
 |_=>none:=rfl
@[simp] theorem vC_eq:vC d B O=some (d,O):=rfl
def kV1(f:D->M->Fr):Fr->Fr
 |some (x,O)=>f x O
 |none=>none
@[simp] theorem kV1_s{f:D->M->Fr}:kV1 f (some (x,O))=f x O:=rfl
@[simp] theorem v1_eq{f:D->M->Fr}:v1 f ea B O=kV1 f (ea B O):=by
 unfold v1 kV1;cases ea B O<;>rfl
def xg(f:D->D->M->Fr)(x:D):Fr->Fr
 |some (y,O)=>f x y O
 |none=>none
@[simp] theorem kV2b_s{f:D->D->M->Fr}:xg f x (some (y,O))=f x y O:=rfl
def kV2(f:D->D->M->Fr)(eb:EV)(B:G):Fr->Fr
 |some (x,O)=>xg f x (eb B O)
 |none=>none
@[simp] theorem kV2_s{f:D->D->M->Fr}:kV2 f eb B (some (x,O))=xg f x (eb B O):=rfl
@[simp] theorem v2_eq{f:D->D->M->Fr}:v2 f ea eb B O=kV2 f eb B (ea B O):=by
 unfold v2 kV2;cases ea B O with
 |none=>rfl
 |some p=>show(eb B p.2).bind _=xg f p.1 (eb B p.2);cases eb B p.2<;>rfl
def kT:Fr->Option (Bool×M)
 |some (.bl b,O)=>some (b,O)
 |_=>none
@[simp] theorem kT_s:kT (some (.bl b,O))=some (b,O):=rfl
@[simp] theorem GP:vT ea B O=kT (ea B O):=by
 unfold vT kT;cases ea B O with
 |none=>rfl
 |some p=>obtain⟨p1,p2⟩:=p;cases p1<;>rfl
def EG(bb:BV)(B:G):Option (Bool×M)->Option (Bool×M)
 |some (c,O)=>if c=true then bb B O else some (false,O)
 |none=>none
@[simp] theorem kAnd_s{c:Bool}:EG bb B (some (c,O))=if c=true then bb B O else some (false,O):=rfl
@[simp] theorem bAnd_eq:vU ba bb B O=EG bb B (ba B O):=by unfold vU EG;cases ba B O<;>rfl
def kOr(bb:BV)(B:G):Option (Bool×M)->Option (Bool×M)
 |some (c,O)=>if c=true then some (true,O) else bb B O
 |none=>none
@[simp] theorem kOr_s{c:Bool}:kOr bb B (some (c,O))=if c=true then some (true,O) else bb B O:=rfl
@[simp] theorem bOr_eq:bOr ba bb B O=kOr bb B (ba B O):=by unfold bOr kOr;cases ba B O<;>rfl
def B7:Option (Bool×M)->Option (Bool×M)
 |some (c,O)=>some (!c,O)
 |none=>none
@[simp] theorem kNot_s{c:Bool}:B7 (some (c,O))=some (!c,O):=rfl
@[simp] theorem bNot_eq:tm ba B O=B7 (ba B O):=by unfold tm B7;cases ba B O<;>rfl
def kIf(ea eb:EV)(B:G):Option (Bool×M)->Fr
 |some (c,O)=>if c=true then ea B O else eb B O
 |none=>none
@[simp] theorem kIf_s{c:Bool}:kIf ea eb B (some (c,O))=if c=true then ea B O else eb B O:=rfl
@[simp] theorem KW:vIf ba ea eb B O=kIf ea eb B (ba B O):=by unfold vIf kIf;cases ba B O<;>rfl
def Ch(sa sb:SV)(B:G):Option (Bool×M)->Option (Out×G×M)
 |some (c,O)=>if c=true then sa B O else sb B O
 |none=>none
@[simp] theorem kSIf_s{c:Bool}:Ch sa sb B (some (c,O))=if c=true then sa B O else sb B O:=rfl
@[simp] theorem wu:sIf ba sa sb B O=Ch sa sb B (ba B O):=by unfold sIf Ch;cases ba B O<;>rfl
def Bh(eb:EV)(B:G):Fr->Fr
 |some (.bl c,O)=>if c=true then some (.bl true,O) else eb B O
 |_=>none
@[simp] theorem kVOr_s{c:Bool}:Bh eb B (some (.bl c,O))=if c=true then some (.bl true,O) else eb B O:=rfl
@[simp] theorem Sc:vOr ea eb B O=Bh eb B (ea B O):=by
 unfold vOr Bh;cases ea B O with
 |none=>rfl
 |some p=>
  obtain⟨p1,p2⟩:=p;cases p1 with
  |bl c=>cases c<;>rfl
  |_=>rfl
@[simp] theorem lNil_eq:qD B O=some ([],O):=rfl
def Aw(x:D):Option (List D×M)->Option (List D×M)
 |some (r,O)=>some (x::r,O)
 |none=>none
@[simp] theorem kLc2_s{r:List D}:Aw x (some (r,O))=some (x::r,O):=rfl
def kLc(el:LV)(B:G):Fr->Option (List D×M)
 |some (x,O)=>Aw x (el B O)
 |none=>none
@[simp] theorem kLc_s:kLc el B (some (x,O))=Aw x (el B O):=rfl
@[simp] theorem lCons_eq:qy ea el B O=kLc el B (ea B O):=by
 unfold qy kLc;cases ea B O with
 |none=>rfl
 |some p=>show(el B p.2).bind _=Aw p.1 (el B p.2);cases el B p.2<;>rfl
def kL(f:C0):Option (List D×M)->Fr
 |some (r,O)=>f r O
 |none=>none
@[simp] theorem kL_s{f:C0}{r:List D}:kL f (some (r,O))=f r O:=rfl
@[simp] theorem vL_eq{f:C0}:vL f el B O=kL f (el B O):=by unfold vL kL;cases el B O<;>rfl
@[simp] theorem sNx_eq:sNx B O=some (.nx,B,O):=rfl
def kEx(B:G):Fr->Option (Out×G×M)
 |some (_,O)=>some (.nx,B,O)
 |none=>none
@[simp] theorem kEx_s:kEx B (some (x,O))=some (.nx,B,O):=rfl
@[simp] theorem Ap:uJ ea B O=kEx B (ea B O):=by unfold uJ kEx;cases ea B O<;>rfl
def kRt(B:G):Fr->Option (Out×G×M)
 |some (x,O)=>some (.rt x,B,O)
 |none=>none
@[simp] theorem kRt_s:kRt B (some (x,O))=some (.rt x,B,O):=rfl
@[simp] theorem xF:qR ea B O=kRt B (ea B O):=by unfold qR kRt;cases ea B O<;>rfl
def kG:Option (G×M)->Option (Out×G×M)
 |some (B,O)=>some (.nx,B,O)
 |none=>none
@[simp] theorem kG_s:kG (some (B,O))=some (.nx,B,O):=rfl
def kAs(g:GV)(B:G):Fr->Option (Out×G×M)
 |some (x,O)=>kG (g x B O)
 |none=>none
@[simp] theorem kAs_s{g:GV}:kAs g B (some (x,O))=kG (g x B O):=rfl
@[simp] theorem D1{g:GV}:qQ ea g B O=kAs g B (ea B O):=by
 unfold qQ kAs;cases ea B O with
 |none=>rfl
 |some p=>show(g p.1 B p.2).bind _=kG (g p.1 B p.2);cases g p.1 B p.2<;>rfl
@[simp] theorem gvName_eq:qA i d B O=some (B.set i (some d),O):=rfl
@[simp] theorem gvNil_eq:rM [] B O=some (B,O):=rfl
def kGs(gs:GsV)(ds:List D):Option (G×M)->Option (G×M)
 |some (B,O)=>gs ds B O
 |none=>none
@[simp] theorem kGs_s{gs:GsV}:kGs gs ds (some (B,O))=gs ds B O:=rfl
@[simp] theorem gvCons_eq{g:GV}{gs:GsV}:qN g gs (d::ds) B O=kGs gs ds (g d B O):=by
 show(g d B O).bind _=_;unfold kGs;cases g d B O<;>rfl
@[simp] theorem gvTup_eq{n:Nat}{gs:GsV}:rO n gs (.tup ds) B O=if ds.length=n then gs ds B O else none:=rfl
def kOn(O:M)(k:Nat):Option (D×List D)->Fr
 |some (d,l)=>some (d,O.set k (some (.lst l)))
 |none=>none
@[simp] theorem Ds{l:List D}:kOn O i (some (d,l))=some (d,O.set i (some (.lst l))):=rfl
def zc(B:G):Fr->Option (G×M)
 |some (_,O)=>some (B,O)
 |none=>none
@[simp] theorem kSb3_s:zc B (some (x,O))=some (B,O):=rfl
def sbF(d:D)(j:Int)(ds:List D):Option (D×List D):=(ixN ds.length j).bind fun jj=>some (.non,ds.set jj d)
theorem EF{j:Int}{jj:Nat}(h:ixN ds.length j=some jj):sbF d j ds=some (.non,ds.set jj d):=by unfold sbF;rw[h];rfl
@[simp] theorem sbF_0:sbF d 0 (x::ds)=some (.non,d::ds):=by
 refine EF (jj:=0) ?_;unfold ixN;rw[if_pos (by omega),if_pos (by simp only[XM];omega)];rfl
@[simp] theorem sbF_1:sbF d 1 (x::y::ds)=some (.non,x::d::ds):=by
 refine EF (jj:=1) ?_;unfold ixN;rw[if_pos (by omega),if_pos (by simp only[XM];omega)];rfl
@[simp] theorem sbF_2{z:D}:sbF d 2 (x::y::z::ds)=some (.non,x::y::d::ds):=by
 refine EF (jj:=2) ?_;unfold ixN;rw[if_pos (by omega),if_pos (by simp only[XM];omega)];rfl
def A8(d:D)(B:G)(o:D):Fr->Option (G×M)
 |some (.int j,O)=>zc B (onL o O (sbF d j))
 |_=>none
@[simp] theorem kSb2_s{j:Int}:A8 d B x (some (.int j,O))=zc B (onL x O (sbF d j)):=rfl
def kSb(d:D)(ei:EV)(B:G):Fr->Option (G×M)
 |some (o,O)=>A8 d B o (ei B O)
 |none=>none
@[simp] theorem kSb_s{ei:EV}:kSb d ei B (some (x,O))=A8 d B x (ei B O):=rfl
@[simp] theorem gvSub_eq{eo ei:EV}:zx eo ei d B O=kSb d ei B (eo B O):=by
 unfold zx kSb;cases eo B O with
 |none=>rfl
 |some p=>
  show(ei B p.2).bind _=A8 d B p.1 (ei B p.2);cases ei B p.2 with
  |none=>rfl
  |some q=>
   obtain⟨q1,q2⟩:=q;cases q1 with
   |int j=>
    show(onL p.1 q2 _).bind _=zc B (onL p.1 q2 (sbF d j));have e:(fun ds=>(ixN ds.length j).bind fun jj=>some (D.non,ds.set jj d))=sbF d j:=rfl;rw[e];unfold zc;cases onL p.1 q2 (sbF d j)<;>rfl
   |_=>rfl
@[simp] theorem oNone_eq:xV B O=some (none,O):=rfl
def kTr(O:M):Option Bool->Option (Bool×M)
 |some b=>some (b,O)
 |none=>none
@[simp] theorem kTr_s:kTr O (some b)=some (b,O):=rfl
def yW:Fr->Option (Bool×M)
 |some (x,O)=>kTr O (tru O x)
 |none=>none
@[simp] theorem kTru_s:yW (some (x,O))=kTr O (tru O x):=rfl
@[simp] theorem JD:rH ea B O=yW (ea B O):=by
 unfold rH yW;cases ea B O with
 |none=>rfl
 |some p=>show(tru p.2 p.1).bind _=kTr p.2 (tru p.2 p.1);cases tru p.2 p.1<;>rfl
def E5(g:GV)(body:SV)(B:G):Option ((List D×Ck)×M)->Option (Out×G×M)
 |some ((its,c),O)=>rJ c g body its B O
 |none=>none
@[simp] theorem xo{g:GV}{c:Ck}:E5 g sa B (some ((ds,c),O))=rJ c g sa ds B O:=rfl
@[simp] theorem wL{iv:IV}{g:GV}:uk iv g sa B O=E5 g sa B (iv B O):=by unfold uk E5;cases iv B O<;>rfl
def kI2(O:M):Option (List D×Ck)->Option ((List D×Ck)×M)
 |some s=>some (s,O)
 |none=>none
@[simp] theorem kI2_s{s:List D×Ck}:kI2 O (some s)=some (s,O):=rfl
def kI:Fr->Option ((List D×Ck)×M)
 |some (x,O)=>kI2 O (lsC O x)
 |none=>none
@[simp] theorem kI_s:kI (some (x,O))=kI2 O (lsC O x):=rfl
@[simp] theorem ivL_eq:ivL ea B O=kI (ea B O):=by
 unfold ivL kI;cases ea B O with
 |none=>rfl
 |some p=>show(lsC p.2 p.1).bind _=kI2 p.2 (lsC p.2 p.1);cases lsC p.2 p.1<;>rfl
def kIR:Fr->Option ((List D×Ck)×M)
 |some (.int j,O)=>if -1000000000<=j/\j<=1000000000 then some ((rl 0 j.toNat,none),O) else none
 |_=>none
@[simp] theorem kIR_s{j:Int}:kIR (some (.int j,O))=if -1000000000<=j/\j<=1000000000 then some ((rl 0 j.toNat,none),O) else none:=rfl
@[simp] theorem ivR_eq:ivR ea B O=kIR (ea B O):=by
 unfold ivR kIR;cases ea B O with
 |none=>rfl
 |some p=>obtain⟨p1,p2⟩:=p;cases p1<;>rfl
def AK(x:D):Fr->Option ((List D×Ck)×M)
 |some (y,O)=>match x,y with
  | .int i,.int j=>if(-1000000000<=i/\i<=1000000000)/\-1000000000<=j/\j<=1000000000 then some ((rl i (j - i).toNat,none),O) else none
  |_,_=>none
 |none=>none
@[simp] theorem UK{i j:Int}:AK (.int i) (some (.int j,O))=if(-1000000000<=i/\i<=1000000000)/\-1000000000<=j/\j<=1000000000 then some ((rl i (j - i).toNat,none),O) else none:=rfl
def Ee(eb:EV)(B:G):Fr->Option ((List D×Ck)×M)
 |some (x,O)=>AK x (eb B O)
 |none=>none
@[simp] theorem Rg:Ee eb B (some (x,O))=AK x (eb B O):=rfl
@[simp] theorem Rw:ze ea eb B O=Ee eb B (ea B O):=by
 unfold ze Ee;cases ea B O with
 |none=>rfl
 |some p=>show(eb B p.2).bind _=AK p.1 (eb B p.2);cases eb B p.2<;>rfl
@[simp] theorem bYes_eq:qJ B O=some (true,O):=rfl
def Af(g:D->D->M->Fr)(ec:EV)(B:G)(y:D):Fr->Fr
 |some (.bl c,O)=>if c=true then xg g y (ec B O) else some (.bl false,O)
 |_=>none
@[simp] theorem kCh3_s{g:D->D->M->Fr}{c:Bool}:Af g ec B y (some (.bl c,O))=if c=true then xg g y (ec B O) else some (.bl false,O):=rfl
def Bd(f g:D->D->M->Fr)(ec:EV)(B:G)(x:D):Fr->Fr
 |some (y,O)=>Af g ec B y (f x y O)
 |none=>none
@[simp] theorem kCh2_s{f g:D->D->M->Fr}:Bd f g ec B x (some (y,O))=Af g ec B y (f x y O):=rfl
def kCh(f g:D->D->M->Fr)(eb ec:EV)(B:G):Fr->Fr
 |some (x,O)=>Bd f g ec B x (eb B O)
 |none=>none
@[simp] theorem kCh_s{f g:D->D->M->Fr}:kCh f g eb ec B (some (x,O))=Bd f g ec B x (eb B O):=rfl
@[simp] theorem vChain_eq{f g:D->D->M->Fr}:tY f g ea eb ec B O=kCh f g eb ec B (ea B O):=by
 unfold tY kCh;cases ea B O with
 |none=>rfl
 |some p=>
  show(eb B p.2).bind _=Bd f g ec B p.1 (eb B p.2);cases eb B p.2 with
  |none=>rfl
  |some q=>
   show(f p.1 q.1 q.2).bind _=Af g ec B q.1 (f p.1 q.1 q.2);cases f p.1 q.1 q.2 with
   |none=>rfl
   |some t=>
    obtain⟨t1,t2⟩:=t;cases t1 with
    |bl c=>
     cases c with
     |true=>show(ec B t2).bind _=xg g q.1 (ec B t2);cases ec B t2<;>rfl
     |false=>rfl
    |_=>rfl
def kB(O:M):Option Bool->Fr
 |some b=>some (.bl b,O)
 |none=>none
@[simp] theorem kB_s:kB O (some b)=some (.bl b,O):=rfl
def kNB(O:M):Option Bool->Fr
 |some b=>some (.bl (!b),O)
 |none=>none
@[simp] theorem kNB_s:kNB O (some b)=some (.bl (!b),O):=rfl
def kD(O:M):Option D->Fr
 |some d=>some (d,O)
 |none=>none
@[simp] theorem kD_s:kD O (some d)=some (d,O):=rfl
@[simp] theorem fI0_eq{g:Int->Int->D}{i j:Int}:fI0 g (.int i) (.int j) O=some (g i j,O):=rfl
@[simp] theorem fI_eq{C:Int->Int->Prop} [∀i j,Decidable (C i j)]{g:Int->Int->D}{i j:Int}:fI C g (.int i) (.int j) O=if C i j then some (g i j,O) else none:=rfl
@[simp] theorem fNeg_eq{i:Int}:vO (.int i) O=some (.int (-i),O):=rfl
@[simp] theorem fNot_eq{b:Bool}:Jp (.bl b) O=some (.bl (!b),O):=rfl
@[simp] theorem fPlus_int{i j:Int}:sf (.int i) (.int j) O=some (.int (i+j),O):=rfl
@[simp] theorem fTimes_int{i j:Int}:vp (.int i) (.int j) O=if CMul i j then some (.int (i*j),O) else none:=rfl
@[simp] theorem zs4{b:Bool}:yc (.bl b) O=some (.int (if b then 1 else 0),O):=rfl
@[simp] theorem fEq_eq:fEq x y O=kB O (eqD x y O):=by unfold fEq kB;cases eqD x y O<;>rfl
@[simp] theorem fNe_eq:fNe x y O=kNB O (eqD x y O):=by unfold fNe kNB;cases eqD x y O<;>rfl
@[simp] theorem Iu{i j:Int}:eqD (.int i) (.int j) O=some (decide (i=j)):=rfl
@[simp] theorem eqD_str{a b:Str}:eqD (.str a) (.str b) O=if PyData.strOk a&&PyData.strOk b then some (decide (a=b)) else none:=rfl
@[simp] theorem lsOf_lst:rK O (.lst ds)=some ds:=rfl
@[simp] theorem lsOf_scr:rK O (.scr ds)=some ds:=rfl
@[simp] theorem lsOf_tup:rK O (.tup ds)=none:=rfl
@[simp] theorem tpOf_tup:uU (.tup ds)=some ds:=rfl
@[simp] theorem wlOf_lst:xm O (.lst ds)=some ds:=rfl
@[simp] theorem lsC_lst:lsC O (.lst ds)=some (ds,none):=rfl
@[simp] theorem lsC_scr:lsC O (.scr ds)=some (ds,none):=rfl
@[simp] theorem fLst_eq:sd ds O=if ds.length<=1000 then some (.lst ds,O) else none:=rfl
@[simp] theorem fTup_eq:sj ds O=if ds.length<=1000 then some (.tup ds,O) else none:=rfl
@[simp] theorem fNew_eq:uz ds O=if ds.length<=1000 then some (.ref O.length,O++[some (.lst ds)]) else none:=rfl
@[simp] theorem HI{i:Int}:fIx (.lst ds) (.int i) O=kD O (atI ds i):=by
 show(atI ds i).bind _=_;unfold kD;cases atI ds i<;>rfl
@[simp] theorem fIx_scr{i:Int}:fIx (.scr ds) (.int i) O=kD O (atI ds i):=by
 show(atI ds i).bind _=_;unfold kD;cases atI ds i<;>rfl
@[simp] theorem O7{i:Int}:fIx (.tup ds) (.int i) O=kD O (atI ds i):=by
 show(atI ds i).bind _=_;unfold kD;cases atI ds i<;>rfl
@[simp] theorem Vg:rN (.lst ds) O=some (.int ds.length,O):=rfl
@[simp] theorem fLen_tup:rN (.tup ds) O=some (.int ds.length,O):=rfl
@[simp] theorem fCat_lst{es:List D}:sf (.lst ds) (.lst es) O=if ds.length+es.length<=1000000 then some (.lst (ds++es),O) else none:=rfl
@[simp] theorem fSl_lst{lo hi:Option Int}:fSl (.lst ds) lo hi O=some (.lst (vV ds lo hi),O):=rfl
@[simp] theorem Ri{lo hi:Option Int}:fSl (.tup ds) lo hi O=if HT.sIx ds.length 0 lo=0/\HT.sIx ds.length ds.length hi=ds.length then none else some (.tup (vV ds lo hi),O):=rfl
@[simp] theorem tru_bl{b:Bool}:tru O (.bl b)=some b:=rfl
@[simp] theorem tru_lst:tru O (.lst ds)=some (!ds.isEmpty):=rfl
theorem u4{α:Type}{xs:List α}{j:Nat}{v:α}(h:xs[j]?=some v):atI xs (j:Int)=some v:=by
 have hlt:=(Xi.mp h).1;unfold atI ixN;rw[if_pos (by omega),if_pos (by omega)];simpa using h
@[simp] theorem atI_0{α:Type}{a:α}{l:List α}:atI (a::l) 0=some a:=u4 (j:=0) rfl
@[simp] theorem atI_1{α:Type}{a b:α}{l:List α}:atI (a::b::l) 1=some b:=u4 (j:=1) rfl
@[simp] theorem atI_2{α:Type}{a b c:α}{l:List α}:atI (a::b::c::l) 2=some c:=u4 (j:=2) rfl
@[simp] theorem atI_3{α:Type}{a b c d:α}{l:List α}:atI (a::b::c::d::l) 3=some d:=u4 (j:=3) rfl
end
def inI:D->Option Int
 | .int i=>some i
 |_=>none
def inB:D->Option Bool
 | .bl b=>some b
 |_=>none
section
variable {K:Frag} {W:Wd}
theorem GO:∀{ds:List D} {vs:List V} {ns:List Int},rD inI ds=some ns->DRs K W ds vs->vs=ns.map V.int
 |_,_,_,h,.nil=>by cases h;rfl
 |d::_,_,_,h,.cons r t=>by
  refine qC h fun u h1 h=>?_;refine qC h fun us h2 h=>?_;cases h;cases d<;>cases h1
  cases r;rw[GO h2 t];rfl
theorem DT:∀{ds:List D} {vs:List V} {ns:List Bool},rD inB ds=some ns->DRs K W ds vs->vs=ns.map V.bl
 |_,_,_,h,.nil=>by cases h;rfl
 |d::_,_,_,h,.cons r t=>by
  refine qC h fun u h1 h=>?_;refine qC h fun us h2 h=>?_;cases h;cases d<;>cases h1
  cases r;rw[DT h2 t];rfl
theorem Vq(ns:List Int):rD inI (ns.map D.int)=some ns:=by
 have:=xl (f:=inI) (g:=D.int) (h:=id) (l:=ns) fun x _=>rfl;simpa using this
theorem My(ns:List Bool):rD inB (ns.map D.bl)=some ns:=by
 have:=xl (f:=inB) (g:=D.bl) (h:=id) (l:=ns) fun x _=>rfl;simpa using this
end
def mx:Int->List Int->Int
 |a,[]=>a
 |a,b::r=>mx (if b>a then b else a) r
theorem Jd:∀(r l:List Int) (a:Int),IsMax a l->IsMax (mx a r) (l++r)
 | [],l,a,h=>by simpa[mx] using h
 |b::r,l,a,h=>by
  have:=Jd r (l++[b]) (if b>a then b else a) h.step;simpa[mx] using this
def zkx{a b:Int}{l:List Int}(h:IsMax a l)(g:IsMax b l):a=b:=by
 have h1:=h.2 b g.1;have h2:=g.2 a h.1;omega
def mxL:List Int->Option Int
 | []=>none
 |a::r=>some (mx a r)
def HW{l:List Int}{m:Int}(h:mxL l=some m):IsMax m l:=by
 cases l with
 |nil=>cases h
 |cons a r=>
  cases h;exact Jd r [a] a ⟨by simp,by simp⟩
section
variable {X:Cx} {K:Frag} {a b:Expr} {ea eb:EV} {pos p kp:Pos}
def yv(x y:D)(O:M):Fr:=match y with
 | .int j=>(rK O x).bind fun ds=>(rD inI ds).bind fun ns=>some (.int ((mxL ns).getD j),O)
 |_=>none
theorem zyv(mm:X.mg "max"=none) (ha:PE X a (tD K ea)) (hb:PE X b (tD K eb)) (hc:X.calm=true:=by rfl) (hg:Gl X "max":=by rfl) (hs:starEach [a] X.env=[(false,eval a X.env)]:=by rfl) (hK:X.K=K:=by rfl)
  (hall:(backToKw pos (keywordEach [⟨some "default",b,kp⟩] X.env)).all (·.1.isSome)=true:=by rfl) (hks:(backToKw pos (keywordEach [⟨some "default",b,kp⟩] X.env)).filterMap (·.1)=([Str.ofString "default"]:List Str):=by rfl)
  (hno:(backToKw pos (keywordEach [⟨some "default",b,kp⟩] X.env)).any (·.1.isNone)=false:=by rfl):PE X (.Call (.Name "max" p) [a] [⟨some "default",b,kp⟩] pos) (tD K (v2 yv ea eb)):=rf (PV K mm ha hb hc hg hs hK hall hks hno) (xp (by
 intro W x y d e z Z6 Q ok r1 r2 hf q;unfold yv at hf;split at hf
 ·cases r2;refine qC hf fun ds h1 hf=>?_;refine qC hf fun ns h2 hf=>?_;cases hf;obtain⟨a,vs,rfl,hs,hv⟩:=va ok h1 r1;have:=GO h2 hv;subst this;refine⟨a,ns,_,rfl,rfl,hs,fun z=>?_,fun M hM=>?_⟩
  ·subst z;exact q _ W rfl ok .refl (.int _)
  ·cases hn:mxL ns with
   |none=>
    cases ns with
    |nil=>exact absurd hM.1 (by simp)
    |cons _ _=>cases hn
   |some m=>
    rw[zkx hM (HW hn)];have:=q (.int m) W rfl ok .refl (by rw[hn];exact .int _);exact this
 ·cases hf))
def ul(x:D)(O:M):Fr:=(rK O x).bind fun ds=>(rD inB ds).bind fun bs=>some (.bl (bs.all id),O)
theorem AA(mm:X.mg "all"=none) (ha:PE X a (tD K ea)) (hc:X.calm=true:=by rfl) (hg:Gl X "all":=by rfl) (hs:starEach [a] X.env=[(false,eval a X.env)]:=by rfl) (hK:X.K=K:=by rfl):PE X (.Call (.Name "all" p) [a] [] pos) (tD K (v1 ul ea)):=rf (Kc K mm ha hc hg hs hK) (xr (by
 intro W x d z Z6 Q ok r1 hf q;refine qC hf fun ds h1 hf=>?_;refine qC hf fun ns h2 hf=>?_;cases hf;obtain⟨a,vs,rfl,hs,hv⟩:=va ok h1 r1;have:=DT h2 hv;subst this;exact⟨a,ns,rfl,hs,q _ W rfl ok .refl (.bl _)⟩))
end
def vX{α:Type}{O:M}{x:Option α}:chk (q0 none O) x=x:=tU trivial
section
variable {O:M} {k:Nat} {ds:List D}
def tL:Option (Out×G×M)->Fr
 |some (.rt d,_,O)=>some (d,O)
 |some (.nx,_,O)=>some (.non,O)
 |_=>none
@[simp] theorem kRun_rt{d:D}{B:G}:tL (some (.rt d,B,O))=some (d,O):=rfl
@[simp] theorem kRun_nx{B:G}:tL (some (.nx,B,O))=some (.non,O):=rfl
@[simp] theorem vw{n m:Nat}{es:SV}:rC n m es ds O=if ds.length=m then tL (es (ds.map some++List.replicate (n - ds.length) none) O) else none:=by
 unfold rC;split
 ·unfold tL;cases es (ds.map some++List.replicate (n - ds.length) none) O with
  |none=>rfl
  |some o=>obtain⟨o1,o2,o3⟩:=o;cases o1<;>rfl
 ·rfl
theorem tG{x y:Option Z9}(h:O[k]?=some x):(O.set k y)[k]?=some y:=by
 have hlt:=(Xi.mp h).1;simp[hlt]
theorem tW{j:Nat}{y:Option Z9}(h:j≠k):(O.set k y)[j]?=O[j]?:=XQ (Ne.symm h)
theorem xa(h:O[k]?=some (some (.lst ds))):rK O (.ref k)=some ds:=by simp only[rK,h]
theorem EK{i:Int}(h:O[k]?=some (some (.lst ds))):fIx (.ref k) (.int i) O=kD O (atI ds i):=by
 simp only[fIx,xa h];unfold kD;cases atI ds i<;>rfl
theorem ST(h:O[k]?=some (some (.lst ds))):rN (.ref k) O=some (.int ds.length,O):=by simp only[rN,xa h]
theorem zY{g:List D->Option (D×List D)}(h:O[k]?=some (some (.lst ds))):onL (.ref k) O g=kOn O k (g ds):=by
 simp only[onL,h];unfold kOn;cases g ds<;>rfl
theorem EB(h:O[k]?=some (some (.lst ds))):lsC O (.ref k)=some (ds,some (k,ds)):=by simp only[lsC,h]
@[simp] theorem ixN_0{n:Nat}:ixN (n+1) 0=some 0:=by unfold ixN;rw[if_pos (by omega),if_pos (by omega)];rfl
@[simp] theorem ixN_1{n:Nat}:ixN (n+2) 1=some 1:=by unfold ixN;rw[if_pos (by omega),if_pos (by omega)];rfl
@[simp] theorem ixN_2{n:Nat}:ixN (n+3) 2=some 2:=by unfold ixN;rw[if_pos (by omega),if_pos (by omega)];rfl
end
section
variable {P:Program} {w:World} {K:Frag} {mg:Str->Option Value} {base:Heap} {f:Addr} {fd:FuncData} {k:Nat}
theorem Rr{ps:List Str}:FnOk P w K mg base CX0 k f fd ps (spM K fun _ _=>none):=
 ⟨(fun vs H Q E h=>by obtain⟨_,_,_,_,_,_,_,z,_⟩:=h;cases z),(fun A outer s H args us vs Q E _ _ _ _ h=>by obtain⟨_,_,_,_,_,_,_,z,_⟩:=h;cases z)⟩
def A6(K:Frag):Sp:=fun vs H Q _=>∃(a:Addr) (ns:List Int),vs=[.ref a]/\z8 H/\SqL K H a (ns.map V.int)/\ns.length<=63/\∀H',Q (.bl true) H'
def W0(H:Hp):Wd:=⟨[],[],H,fun _=>False⟩
theorem y5j{H:Hp}:Ok K (W0 H) where
 len:=rfl
 nd:=by simp[W0]
 rs a h:=by simp[W0] at h
 at_ k o h:=by simp[W0] at h
 hd0 a h:=h.elim
theorem FQ{W:Wd}:∀ns:List Int,DRs K W (ns.map D.int) (ns.map V.int)
 | []=>.nil
 |n::r=>.cons (.int n) (FQ r)
theorem NE{g:C0}(F:FnOk P w K mg base CX0 k f fd ["script"] (spM K g)) (h:∀ns:List Int,ns.length<=63->∃Z6,g [.scr (ns.map D.int)] []=some (.bl true,Z6)):FnOk P w K mg base CX0 k f fd ["script"] (A6 K):=F.imp fun vs H Q E hh=>by
 obtain⟨a,ns,rfl,hO,hS,hl,q⟩:=hh;obtain⟨Z6,e⟩:=h ns hl;have hF:SqF K H a (ns.map V.int):=by
  rcases hS with(hS|hS)|hS
  ·rcases hO a with z|⟨o,xs,z⟩
   ·rw[z] at hS;cases hS
   ·rw[z] at hS;cases hS
  ·exact .inl hS
  ·exact .inr hS
 exact⟨W0 H,[.scr (ns.map D.int)],.bl true,Z6,rfl,y5j,.cons (.scr hF (FQ ns)) .nil,e,fun v W' _ _ _ r=>by cases r;exact q _⟩
end
theorem Br{c:Ck}{g:GV}{body:SV}(Pv:Nat->G->M->Prop):∀(its:List D) (i:Nat) (B:G) (O:M),Pv i B O->
  (∀j d B O,its[j]?=some d->Pv (i+j) B O->∃ZZ Z5 ZW Z4,g d B O=some (ZZ,Z5)/\body ZZ Z5=some (.nx,ZW,Z4)/\q0 c Z4/\Pv (i+j+1) ZW Z4)->∃ZY Z6,rJ c g body its B O=some (.nx,ZY,Z6)/\Pv (i+its.length) ZY Z6
 | [],i,B,O,h,_=>⟨B,O,rfl,h⟩
 |d::r,i,B,O,h,hs=>by
  obtain⟨ZZ,Z5,ZW,Z4,h1,h2,h3,h4⟩:=hs 0 d B O rfl h;obtain⟨ZY,Z6,h5,h6⟩:=Br Pv r (i+1) ZW Z4 h4 fun j d B O hj hp=>by
   have:=hs (j+1) d B O (by simpa using hj) (by rw[show i+(j+1)=i+1+j by omega];exact hp);rw[show i+(j+1)+1=i+1+j+1 by omega] at this;exact this
  refine⟨ZY,Z6,?_,by rw[XM,show i+(r.length+1)=i+1+r.length by omega];exact h6⟩;simp only[rJ,h1,bs,h2];rw[tU h3,h5]
def S4{lo:Int}{n j:Nat}{d:D}(h:(rl lo n)[j]?=some d):j<n/\d=.int (lo+j):=by
 have hlt:=(Xi.mp h).1;simp[rl] at hlt;simp[rl,hlt] at h;exact⟨hlt,h.symm⟩
def Vl{n j:Nat}{d:D}(h:(rl 0 n)[j]?=some d):j<n/\d=.int (j:Int):=by
 obtain⟨a,b⟩:=S4 h;exact(⟨a,by rw[b,Int.zero_add]⟩)
def Td{lo:Int}{n:Nat}:(rl lo n).length=n:=by simp[rl]
def Am:Option (List D×M)->Fr
 |some (rs,O)=>some (.lst rs,O)
 |none=>none
@[simp] theorem kLst_s{rs:List D}{O:M}:Am (some (rs,O))=some (.lst rs,O):=rfl
def Fc(own:List Str)(cap:List (Str×Nat))(g:GV)(tc:BV)(te:EV)(B:G):Option ((List D×Ck)×M)->Fr
 |some ((its,c),O)=>if its.length<=1000000 then Am (rE c g tc te its (rB own cap B) O) else none
 |none=>none
@[simp] theorem Ca{own:List Str}{cap:List (Str×Nat)}{g:GV}{tc:BV}{te:EV}{B:G}{its:List D}{c:Ck}{O:M}:Fc own cap g tc te B (some ((its,c),O))=if its.length<=1000000 then Am (rE c g tc te its (rB own cap B) O) else none:=rfl
@[simp] theorem B8{own:List Str}{cap:List (Str×Nat)}{iv:IV}{g:GV}{tc:BV}{te:EV}{B:G}{O:M}:rL own cap iv g tc te B O=Fc own cap g tc te B (iv B O):=by
 unfold rL Fc;cases iv B O with
 |none=>rfl
 |some s=>
  obtain⟨⟨its,c⟩,Z5⟩:=s;show(if its.length<=1000000 then(rE c g tc te its (rB own cap B) Z5).bind _ else none)=if its.length<=1000000 then Am (rE c g tc te its (rB own cap B) Z5) else none
  split
  ·cases rE c g tc te its (rB own cap B) Z5<;>rfl
  ·rfl
def Bc:Option (List D×M)->Fr
 |some (rs,O)=>if rs.length<=1000000 then some (.lst rs,O) else none
 |none=>none
@[simp] theorem Bx{rs:List D}{O:M}:Bc (some (rs,O))=if rs.length<=1000000 then some (.lst rs,O) else none:=rfl
def Fg(own:List Str)(cap:List (Str×Nat))(g:GV)(tc:BV)(iv2:IV)(g2:GV)(tc2:BV)(te:EV)(B:G):Option ((List D×Ck)×M)->Fr
 |some ((its,c),O)=>Bc (tp c g tc iv2 g2 tc2 te its (rB own cap B) O)
 |none=>none
@[simp] theorem BM{own:List Str}{cap:List (Str×Nat)}{iv2:IV}{g g2:GV}{tc tc2:BV}{te:EV}{B:G}{its:List D}{c:Ck}{O:M}:Fg own cap g tc iv2 g2 tc2 te B (some ((its,c),O))=Bc (tp c g tc iv2 g2 tc2 te its (rB own cap B) O):=rfl
@[simp] theorem BY{own:List Str}{cap:List (Str×Nat)}{iv iv2:IV}{g g2:GV}{tc tc2:BV}{te:EV}{B:G}{O:M}:uv own cap iv g tc iv2 g2 tc2 te B O=Fg own cap g tc iv2 g2 tc2 te B (iv B O):=by
 unfold uv Fg;cases iv B O with
 |none=>rfl
 |some s=>
  obtain⟨⟨its,c⟩,Z5⟩:=s;show(tp c g tc iv2 g2 tc2 te its (rB own cap B) Z5).bind _=Bc (tp c g tc iv2 g2 tc2 te its (rB own cap B) Z5);cases tp c g tc iv2 g2 tc2 te its (rB own cap B) Z5<;>rfl
def sS(kvs:List (Key×D))(k:Key):Option D:=(kvs.find? fun kv=>decide (kv.1=k)).map (·.2)
def tH(kvs:List (Key×D))(k:Key)(v:D):List (Key×D):=
 if(kvs.any fun kv=>decide (kv.1=k))=true then kvs.map (fun kv=>if kv.1=k then(kv.1,v) else kv) else kvs++[(k,v)]
def vc:D->Option Key
 | .int i=>some (.inl i)
 | .str x=>some (.inr x)
 |_=>none
def sB(O:M):D->Option (List (Key×D))
 | .ref k=>match O[k]? with
  |some (some (.dK kvs))=>some kvs
  |_=>none
 |_=>none
section
variable {K:Frag} {W:Wd}
theorem Fi{d:D}{k:Key}{v:V}(h:vc d=some k)(r:DR K W d v):v=kV k:=by
 cases d<;>simp only[vc] at h<;>cases h<;>cases r<;>rfl
theorem yG{d:D}{kvs:List (Key×D)}{v:V}(ok:Ok K W)(h:sB W.O d=some kvs)(r:DR K W d v):
  ∃k a vs,d=.ref k/\v=.ref a/\W.O[k]?=some (some (.dK kvs))/\W.ρ[k]?=some a/\W.H a=some (.dK vs)/\KR K W kvs vs:=by
 cases d with
 |ref k=>
  simp only[sB] at h;split at h
  ·rename_i kvs' hk;cases h;cases r with
   |ref ha=>
    obtain⟨a',ho,h1,h2,vs,rfl,r⟩:=ok.at_ k _ hk;rw[ha] at h1;cases h1;exact(⟨k,_,vs,rfl,rfl,hk,ha,h2,r⟩)
  ·cases h
 |_=>simp[sB] at h
theorem KR.len{kvs:List (Key×D)}{vs:List (Key×V)}(r:KR K W kvs vs):kvs.length=vs.length:=Paired.length r
theorem KR.any{kvs:List (Key×D)}{vs:List (Key×V)}(r:KR K W kvs vs)(k:Key):(kvs.any fun kv=>decide (kv.1=k))=vs.any fun kv=>decide (kv.1=k):=by
 unfold KR at r;induction r with
 |nil=>rfl
 |cons h t ih=>rw[Yt,Yt,ih,h.1]
theorem KR.val{kvs:List (Key×D)}{vs:List (Key×V)}(r:KR K W kvs vs)(k:Key):(sS kvs k).isSome=(sE vs k).isSome:=by
 unfold KR at r;induction r with
 |nil=>rfl
 | @cons p q ps qs h t ih=>
  by_cases e:p.1=k
  ·rw[wH (by rw[←h.1];exact e)];simp[sS,Xt,e]
  ·rw[xn (by rw[←h.1];exact e)];simp only[sS,Xt,e,decide_false] at ih⊢;exact ih
theorem KR.snoc{kvs:List (Key×D)}{vs:List (Key×V)}(r:KR K W kvs vs)(k:Key){d:D}{v:V}(rv:DR K W d v):KR K W (kvs++[(k,d)]) (vs++[(k,v)]):=Paired.snoc r ⟨rfl,rv⟩
theorem KR.repl{kvs:List (Key×D)}{vs:List (Key×V)}(r:KR K W kvs vs)(k:Key){d:D}{v:V}(rv:DR K W d v):
  KR K W (kvs.map fun kv=>if kv.1=k then(kv.1,d) else kv) (vs.map fun kv=>if kv.1=k then(kv.1,v) else kv):=by
 unfold KR at r⊢;induction r with
 |nil=>exact .nil
 | @cons p q ps qs h t ih=>
  refine .cons ?_ ih;show(if p.1=k then(p.1,d) else p).1=(if q.1=k then(q.1,v) else q).1/\DR K W (if p.1=k then(p.1,d) else p).2 (if q.1=k then(q.1,v) else q).2;by_cases e:p.1=k
  ·rw[if_pos e,if_pos (by rw[←h.1];exact e)];exact⟨h.1,rv⟩
  ·rw[if_neg e,if_neg (by rw[←h.1];exact e)];exact h
theorem KR.put{kvs:List (Key×D)}{vs:List (Key×V)}(r:KR K W kvs vs)(k:Key){d:D}{v:V}(rv:DR K W d v):KR K W (tH kvs k d) (rV vs k v):=by
 unfold tH rV;rw[r.any k];by_cases e:(vs.any fun kv=>decide (kv.1=k))=true
 ·rw[if_pos e,if_pos e];exact r.repl k rv
 ·rw[if_neg e,if_neg e];exact r.snoc k rv
theorem KR.vals{kvs:List (Key×D)}{vs:List (Key×V)}(r:KR K W kvs vs):DRs K W (kvs.map (·.2)) (vs.map (·.2)):=by
 unfold KR at r;induction r with
 |nil=>exact .nil
 |cons h t ih=>exact .cons h.2 ih
theorem JN{k:Nat}{a:Addr}{kvs kvs':List (Key×D)}{vs':List (Key×V)}(ok:Ok K W)(hk:W.O[k]?=some (some (.dK kvs)))(ha:W.ρ[k]?=some a)(hs:KR K W kvs' vs'):
  Ok K (W.put k a (.dK vs') (.dK kvs'))/\Step W (W.put k a (.dK vs') (.dK kvs')):=⟨B1 ok hk ha ⟨vs',rfl,hs⟩,wd hk ha⟩
theorem CP{d:D}{kvs:List (Key×D)}{v:V}(ok:Ok K W)(h:sB W.O d=some kvs)(r:DR K W d v):tyV K "dict" v W.H:=by
 obtain⟨k,a,vs,rfl,rfl,_,_,hh,_⟩:=yG ok h r;exact(.inr (.inr (.inl ⟨rfl,.inl ⟨vs,hh⟩⟩)))
end
def uS(n:Nat)(c:Ck)(g:GV)(tc:BV)(tk tv:EV):List D->G->M->Option M
 | [],_,O=>some O
 |d::r,B,O=>(g d B O).bind fun p=>(tc p.1 p.2).bind fun t=>if t.1=true then(tk p.1 t.2).bind fun y=>(tv p.1 y.2).bind fun v=>(vc y.1).bind fun k=>(sB v.2 (.ref n)).bind fun kvs=>
   chk (kvs.length<1000000/\q0 c (v.2.set n (some (.dK (tH kvs k v.1))))) (uS n c g tc tk tv r p.1 (v.2.set n (some (.dK (tH kvs k v.1))))) else chk (q0 c t.2) (uS n c g tc tk tv r p.1 t.2)
section
variable {X:Cx} {K:Frag} {a b e o:Expr} {ea eb eo:EV} {pos p apos pos1:Pos} {k:Nat}
def yY:EV:=fun _ O=>some (.ref O.length,O++[some (.dK [])])
theorem KA:PE X (.Dict [] [] pos) (tD K yY):=rf VW fun J H Q h=>by
 refine el4 h fun W B d Z6 eH ok en e q=>?_;subst eH;cases e;intro pa hp;exact q _ (W.new pa (.dK []) (.dK [])) rfl (zH ok hp ⟨[],rfl,.nil⟩) (vo ok hp) (zJ ok)
def tw(x y:D)(O:M):Fr:=(sB O x).bind fun kvs=>(vc y).bind fun k=>(sS kvs k).bind fun d=>some (d,O)
theorem KR.at{W:Wd}{kvs:List (Key×D)}{vs:List (Key×V)}(r:KR K W kvs vs){k:Key}{d:D}(h:sS kvs k=some d):∃v,sE vs k=some v/\DR K W d v:=by
 unfold KR at r;induction r with
 |nil=>cases h
 | @cons p q ps qs hd t ih=>
  by_cases e:p.1=k
  ·have:sS (p::ps) k=some p.2:=by simp[sS,Xt,e]
   rw[this] at h;cases h;exact⟨q.2,wH (by rw[←hd.1];exact e),hd.2⟩
  ·have:sS (p::ps) k=sS ps k:=by simp[sS,Xt,e]
   rw[this] at h;obtain⟨v,h1,h2⟩:=ih h;exact⟨v,by rw[xn (by rw[←hd.1];exact e)];exact h1,h2⟩
theorem Az(hr:Room k X.A)(ha:PE X a (tD K ea))(hb:PE X b (tD K eb))(hs:AB b:=by exact fun _ _=>rfl):PE X (.Subscript a b pos) (tD K (v2 tw ea eb)):=
 rf (HL (by have:=hr.units;omega) ha hb hs) fun J H Q h=>by
  refine el4 h fun W B d Z6 eH ok en e q=>?_;subst eH;refine qC e fun p1 e1 e=>?_;refine qC e fun p2 e2 e=>?_;refine qC e fun kvs e3 e=>?_;refine qC e fun ky e4 e=>?_;refine qC e fun d2 e5 e=>?_;cases e;refine⟨W,B,p1.1,p1.2,rfl,ok,en,e1,fun x W1 Z2 ok1 s1 r1=>⟨W1,B,p2.1,p2.2,rfl,ok1,en.step ok s1,by rw[Z2];exact e2,fun y W2 ZV ok2 s2 r2=>?_⟩⟩;rw[←ZV] at e3;obtain⟨n,a,vs,hd,rfl,hk,ha,hh,hs⟩:=yG ok2 e3 (r1.step ok1 s2);have:=Fi e4 r2;subst this;obtain⟨v,h1,h2⟩:=hs.at e5;exact⟨a,v,rfl,by rw[←h1];exact DGet.k hh,q _ W2 ZV ok2 (s1.trans s2) h2⟩
def Bu(x:D)(O:M):Fr:=(sB O x).bind fun kvs=>some (.lst (kvs.map (·.2)),O)
theorem Pt(ml:X.mg "list"=none) (ho:PE X o (tD K eo)) (hc:X.calm=true:=by rfl) (hg:Gl X "list":=by rfl) (hbase:attributeBase o "values" X.env (eval o X.env)=eval o X.env:=by rfl) (hline:(apos.endLine==pos1.line)=true:=by rfl)
  (hs:starEach [.Call (.Attribute o "values" apos) [] [] pos1] X.env=[(false,eval (.Call (.Attribute o "values" apos) [] [] pos1) X.env)]:=by rfl) (hK:X.K=K:=by rfl):
  PE X (.Call (.Name "list" p) [.Call (.Attribute o "values" apos) [] [] pos1] [] pos) (tD K (v1 Bu eo)):=by
 refine rf (AJ (p:=p) (pos:=pos) (za6 (X:=X)) hg ml rfl (sq (Qo K ho hbase hline hK) sV hs) (he:=hs)) fun J H Q h=>?_;refine el4 h fun W B d Z6 eH ok en e q=>?_;subst eH;refine qC e fun p1 e1 e=>?_;refine qC e fun kvs e2 e=>?_;cases e;refine⟨W,B,p1.1,p1.2,rfl,ok,en,e1,fun x W1 Z2 ok1 s1 r1=>?_⟩;rw[←Z2] at e2;obtain⟨k,a,vs,hd,rfl,hk,ha,hh,hs⟩:=yG ok1 e2 r1;refine(⟨CP ok1 e2 r1,a,vs,rfl,rfl,hh,fun v hv=>?_⟩);refine⟨v,a,vs,rfl,rQ,by rw[qW (fun z=>by rw[z,hv] at hh;cases hh)];exact hh,hc,fun l hl=>?_⟩;have ok2:=tf (o:=vvO v a) ok1 hv;have s2:=rX (o:=vvO v a) hv;have r2:=hs.vals.step ok1 s2;exact q _ ((W1.lay v (vvO v a)).lay l (.lst (vs.map (·.2)))) Z2 (tf ok2 hl) ((s1.trans s2).trans (rX hl)) (yU ok2 hl r2)
def uf(eo ek ed:EV):EV:=fun B O=>(eo B O).bind fun p=>(sB p.2 p.1).bind fun _=>(ek B p.2).bind fun q=>(ed B q.2).bind fun r=>(vc q.1).bind fun k=>(sB r.2 p.1).bind fun kvs=>match p.1 with
 | .ref n=>if kvs.length<1000000 then(match sS kvs k with
  |some d=>some (d,r.2)
  |none=>some (r.1,r.2.set n (some (.dK (tH kvs k r.1))))) else none
 |_=>none
theorem Dx(ho:PE X o (tD K eo))(ha:PE X a (tD K ea))(hb:PE X b (tD K eb))(hs:starEach [a,b] X.env=[(false,eval a X.env),(false,eval b X.env)]:=by rfl)(hs2:starEach [b] X.env=[(false,eval b X.env)]:=by rfl)
  (hbase:attributeBase o "setdefault" X.env (eval o X.env)=eval o X.env:=by rfl) (hline:(apos.endLine==pos.line)=true:=by rfl) (hK:X.K=K:=by rfl)
  (hfew:((backTo pos (starEach [a,b] X.env)).all (fun x=>!x.1)&&(backToKw pos (keywordEach [] X.env)).all (fun x=>x.1.isSome)
   &&decide ([a,b].length+([]:List Keyword).length+(if([]:List Keyword).isEmpty then 0 else 1)<30))=true:=by rfl):
  PE X (.Call (.Attribute o "setdefault" apos) [a,b] [] pos) (tD K (uf eo ea eb)):=rf (RX K ho ha hb hs hs2 hbase hline hK hfew) fun J H Q h=>by
 refine el4 h fun W B d Z6 eH ok en e q=>?_;subst eH;refine qC e fun p1 e1 e=>?_;refine qC e fun kv0 e0 e=>?_;refine qC e fun p2 e2 e=>?_;refine qC e fun p3 e3 e=>?_;refine qC e fun ky e4 e=>?_;refine qC e fun kvs e5 e=>?_;refine⟨W,B,p1.1,p1.2,rfl,ok,en,e1,fun x W1 Z2 ok1 s1 r1=>⟨CP ok1 (by rw[Z2];exact e0) r1,W1,B,p2.1,p2.2,rfl,ok1,en.step ok s1,by rw[Z2];exact e2,fun y W2 ZV ok2 s2 r2=>⟨W2,B,p3.1,p3.2,rfl,ok2,(en.step ok s1).step ok1 s2,by rw[ZV];exact e3,fun z W3 ZS ok3 s3 r3=>?_⟩⟩⟩;rw[←ZS] at e5;obtain⟨n,a1,vs,hd,rfl,hk,ha1,hh,hs1⟩:=yG ok3 e5 ((r1.step ok1 s2).step ok2 s3);have:=Fi e4 (r2.step ok2 s3);subst this;rw[hd] at e;simp only at e;split at e
 ·rename_i hl;refine⟨a1,vs,ky,z,rfl,rfl,hh,zq (by rw[←hs1.len];omega),fun v hv=>?_,fun hv=>?_⟩
  ·split at e
   ·rename_i d0 hd0;cases e;obtain⟨v',h1,h2⟩:=hs1.at hd0;rw[hv] at h1;cases h1;exact(q _ W3 ZS ok3 ((s1.trans s2).trans s3) h2)
   ·rename_i hd0;have:=hs1.val ky;rw[hd0,hv] at this;cases this
  ·split at e
   ·rename_i d0 hd0;have:=hs1.val ky;rw[hd0,hv] at this;cases this
   ·cases e;obtain⟨o4,s4⟩:=JN (vs':=rV vs ky z) (kvs':=tH kvs ky p3.1) ok3 hk ha1 (hs1.put ky r3);exact q _ (W3.put n a1 (.dK (rV vs ky z)) (.dK (tH kvs ky p3.1))) (by show W3.O.set _ _=_;rw[ZS]) o4 (((s1.trans s2).trans s3).trans s4) (r3.step ok3 s4)
 ·cases e
end
end L3
namespace L2
open PySem PySem.W PySem.Spec PyProof.Rows
structure FlewH (P:Program) (w:World) (outer:List Env) (L:Addr) (H H':Hp) (s:Shared) (e:Addr) (C:Value) (Z8:Heap) (s':Shared):Prop where
 os:s'.os=s.os
 bare:AllBare s'.gens
 un:Un (frs outer) [] H H' s.heap s'.heap
 hok:HOk P w H' s'.heap
 trk:∀b o,s'.heap.get? b=some o->H' b≠none->Z8.get? b=some o
 old:∀b o,s.heap.get? b=some o->H b=none->b∉frs outer->Z8.get? b=some o
 thr:∀b o,s.heap.get? b=some o->b∉frs outer->∃o',Z8.get? b=some o'
 frf:∀b∈frs outer,H b=none
 unt:H' e=none
 new:s.heap.get? e=none
 fly:∃a0,Heap.HeldW Z8 outer e C a0 L s'.heap
section
variable {P:Program} {w:World} {outer:List Env} {L:Addr} {H H':Hp} {s s':Shared} {e:Addr} {C:Value} {Z8:Heap}
theorem Flew.noted{h2:Heap}(F:Flew P w outer H H' s e C Z8 s')(hs:s'.heap.UpToSlots h2)(fl:∃a0,Heap.HeldW Z8 outer e C a0 L h2):FlewH P w outer L H H' s e C Z8 {s' with heap:=h2}:=by
 obtain⟨a0,fl⟩:=fl;obtain⟨u,k,t⟩:=F.to fl.1 hs;exact(⟨F.os,F.bare,u,k,t,F.old,F.thr,F.frf,F.unt,F.new,a0,fl⟩)
theorem FlewH.to{h2:Heap}(F:FlewH P w outer L H H' s e C Z8 s')(hB:Z8.StaysIn h2)(hs:s'.heap.UpToSlots h2):Un (frs outer) [] H H' s.heap h2/\HOk P w H' h2/\∀b o,h2.get? b=some o->H' b≠none->Z8.get? b=some o:=by
 obtain⟨a0,fl⟩:=F.fly;have kp:∀b o,s.heap.get? b=some o->H b=none->b∉frs outer->h2.get? b=some o:=fun b o x n hb=>hB b o (F.old b o x n hb);have sl:∀b o,s.heap.get? b=some o->H b=none->b∈frs outer->∃sl,h2.get? b=some {o with slots:=sl}:=fun b o x n hb=>by
  obtain⟨sl,e1⟩:=F.un.slot b o x n hb (by simp);obtain⟨_,o',e2,d⟩:=fl.2.2.1.mem hb;rw[e1] at e2;cases e2;obtain⟨sl',e3⟩:=hs b {o with slots:=sl} e1 d;exact(⟨sl',e3⟩)
 refine⟨⟨fun b o x n hb _=>kp b o x n hb,fun b o x n hb _=>sl b o x n hb,F.un.free,fun b o x _=>?_,F.un.tups,F.un.frzs,F.un.tbls⟩,fun a u eu=>?_,fun b o x n=>?_⟩
 ·by_cases hb:b∈frs outer
  ·obtain⟨l,e1⟩:=sl b o x (F.frf b hb) hb;exact⟨_,e1⟩
  ·obtain⟨o',e1⟩:=F.thr b o x hb;exact⟨o',hB b o' e1⟩
 ·refine(F.hok a u eu).stay (fun b v hb q=>hB b v (F.trk b v q ?_)) (fun _ q=>q) fun _ _ q=>q;rcases hb with z|z
  ·rw[z,eu];simp
  ·rw[z];simp
 ·cases eu:H' b with
  |none=>exact absurd eu n
  |some u=>
   obtain⟨o1,e1⟩:=(F.hok b u eu).there;have e2:=F.trk b o1 e1 n;have e3:=hB b o1 e2;rw[x] at e3;cases e3;exact(e2)
theorem FlewH.next{h2:Heap}(F:FlewH P w outer L H H' s e C Z8 s')(hs:s'.heap.UpToSlots h2)(fl:∃a0,Heap.HeldW Z8 outer e C a0 L h2):FlewH P w outer L H H' s e C Z8 {s' with heap:=h2}:=by
 obtain⟨a0,fl⟩:=fl;obtain⟨u,k,t⟩:=F.to fl.1 hs;exact(⟨F.os,F.bare,u,k,t,F.old,F.thr,F.frf,F.unt,F.new,a0,fl⟩)
theorem FlewH.lands{h2:Heap}(F:FlewH P w outer L H H' s e C Z8 s')(hs:s'.heap.UpToSlots h2)(fl:∃a0,Heap.FlyingW Z8 outer e C a0 h2):Flew P w outer H H' s e C Z8 {s' with heap:=h2}:=by
 obtain⟨a0,fl⟩:=fl;obtain⟨u,k,t⟩:=F.to fl.1 hs;exact(⟨F.os,F.bare,u,k,t,F.old,F.thr,F.frf,F.unt,F.new,a0,fl⟩)
end
theorem MD{M:Model}{A:Around}{E:OK}{s:Shared}{base:Heap}{l:List Env}{e L:Addr}{cls a0:Value}{Q:Unit->Shared->Prop}(R:Heap.HeldW base l e cls a0 L s.heap)
  (h:∀h',Heap.HeldW base l e cls a0 L h'->s.heap.UpToSlots h'->Q () {s with heap:=h'}):wpAny M A (setFlight (.ref e) (some L)) Q E s:=by
 obtain⟨hkb,hen,hl,oe,vs,T,oT,ts,he,hcls,hd,h1,hnT,hTe,hT,hdT,h3⟩:=R;have hsz3:3<ts.size:=(Array.getElem?_eq_some_iff.mp h3).1;have other:∀b,b≠T->(s.heap.update T (Obj.mapFields (·.setIfInBounds 3 ((some L).elim Value.none fun f=>rawInt f)))).get? b=s.heap.get? b:=
  fun b hb=>Ym _ _ (Ne.symm hb)
 have noRecord:∀b o,s.heap.get? b=some o->(∀vs,o.data≠.fields vs)->b≠T:=fun b o hb hnf q=>by
  rw[q,hT] at hb;injection hb with hb;subst hb;exact hnf ts hdT
 unfold setFlight;refine Xf (wpAny_field he hd h1 ?_);rw[if_pos (show(Value.ref T !=Value.none)=true from by simp)];refine wpAny_setField hT hdT hsz3 (h _ ⟨fun b o hbo=>(other b fun q=>by rw[q,hnT] at hbo;cases hbo).trans (hkb b o hbo),hen,
  hl.of_keeps fun b o hb hnf=>⟨o,(other b (noRecord b o hb hnf)).trans hb,rfl⟩,?_⟩ fun b o hb hnf=>⟨o.slots,(other b (noRecord b o hb hnf)).trans hb⟩)
 exact⟨oe,vs,T,_,_,(other e (Ne.symm hTe)).trans he,hcls,hd,h1,hnT,hTe,Heap.get?_update_self _ hT (Obj.isFreed_of_fields (Obj.data_mapFields hdT _)),Obj.data_mapFields hdT _,by simp[hsz3]⟩
theorem Nx{M:Model}{A:Around}{E:OK}{s:Shared}{base h:Heap}{env:Env}{outer:List Env}{L e:Addr}{cls:Value}{args:List Value}{Q:Unit->Shared->Prop}
  (hfr:A.frames=some (env::outer)) (hf:env.frame=some L) (hkb:base.StaysIn h) (hl:h.FunFrames base (env::outer)) (hx:Heap.MadeExcOf h s.heap e cls args)
  (hQ:∀h' a0,Heap.HeldW base (env::outer) e cls a0 L h'->s.heap.UpToSlots h'->Q () {s with heap:=h'}):wpAny M A (noteFrame (.ref e) env) Q E s:=by
 obtain⟨t,he,htn,ht⟩:=hx.there;have fresh:∀b,h.get? b=none->base.get? b=none:=fun b hb=>by
  cases hq:base.get? b with
  |none=>rfl
  |some o'=>have:=hkb b o' hq;rw[hb] at this;cases this
 unfold noteFrame;simp only[hf];refine Xf (wpAny_field he rfl (show(#[Value.ref t,.none,.none,.none,.bool false,.none]:Array Value)[1]?=some Value.none from rfl) ?_);rw[if_neg (show ¬((Value.none !=Value.none)=true) from by decide)];refine wpAny_entryW (a0:=.ref t) hfr (hl.of_keeps fun b o hb _=>⟨o,hx.keeps b o hb,rfl⟩) hf he (fun b o hb=>hx.keeps b o (hkb b o hb)) (fresh e hx.new) rfl (by simp) rfl fun h' hN=>?_;obtain⟨k1,k2,k3,k4⟩:=hN;exact(hQ h' _ ⟨k1,fresh e hx.new,k2,k3⟩ k4)
def Lv(X:Cx):Prop:=X.stack=X.env::X.outer/\X.env.frame=some X.env.locals
def FlX(X:Cx)(E:St->XK)(e:Value)(s':Shared):Prop:=∃(a:Addr) (C:Value) (pins:QS) (J:St) (H H':Hp) (s:Shared),e=.ref a/\Inv X pins J H s/\E J C none H'/\
 ((H'=H/\∃(D:Addr) (vs:List Value) (h':Heap),C=.ref D/\s'={s with heap:=h'}/\Heap.MadeExcOf s.heap h' a C vs)\/(∃Z8,Flew X.prog X.w X.stack H H' s a C Z8 s')\/(∃Z8,FlewH X.prog X.w X.stack X.env.locals H H' s a C Z8 s'))
section
variable {X:Cx} {E:St->XK} {pins:QS} {J:St} {H H':Hp} {s s':Shared} {a:Addr} {C:Value} {Z8:Heap}
theorem SH{M:Model}{A:Around}{E':OK}{D:Addr}{vs:List Value}{h':Heap}{Q:Unit->Shared->Prop}(lv:Lv X)(hA:A.frames=X.A.frames)(I:Inv X pins J H s)(hx:Heap.MadeExcOf s.heap h' a (.ref D) vs)
  (hQ:∀Z8 h2,FlewH X.prog X.w X.stack X.env.locals H H s a (.ref D) Z8 {s with heap:=h2}->Q () {s with heap:=h2}):wpAny M A (noteFrame (.ref a) X.env) Q E' {s with heap:=h'}:=by
 obtain⟨lv1,lv2⟩:=lv;have fs:∀b,b∈frs X.stack->H b=none:=I.stkFree;have inn:∀b o,s.heap.get? b=some o->b∉frs X.stack->(hideAll s.heap (frs X.stack)).get? b=some o:=fun b o e hb=>hideAll_get _ e hb;have hin:∀env∈X.stack,∀a,env.frame=some a->a∈frs X.stack:=fun env he a ha=>List.mem_filterMap.mpr ⟨env,he,ha⟩;have nfr:∀b,H b≠none->b∉frs X.stack:=fun b n z=>n (fs b z);refine Nx (base:=hideAll s.heap (frs X.stack)) (env:=X.env) (outer:=X.outer) (by rw[hA,I.ok.frames,lv1]) lv2 (fun b o q=>of_hideAll _ q) (by rw[←lv1];exact funFrames_hide I.stack hin) hx fun h2 a0 fl ups=>hQ (hideAll s.heap (frs X.stack)) h2 ?_;have hB:=fl.1;have hkeep:∀b o,s.heap.get? b=some o->b∉frs X.stack->h2.get? b=some o:=fun b o e hb=>hB b o (inn b o e hb);have hslot:∀b o,s.heap.get? b=some o->b∈frs X.stack->∃sl,h2.get? b=some {o with slots:=sl}:=fun b o e hb=>by
  obtain⟨_,o',e2,d⟩:=I.stack.mem hb;rw[e] at e2;cases e2;obtain⟨sl',e3⟩:=ups b o (hx.keeps b o e) d;exact(⟨sl',e3⟩)
 refine⟨rfl,I.bare,⟨fun b o x n hb _=>hkeep b o x hb,fun b o x n hb _=>hslot b o x hb,fun b o x n _=>n,fun b o x _=>?_,fun _ _ z=>z,fun _ _ _ z=>z,fun _ ps z=>⟨#[],by simpa using z⟩⟩,fun b u eu=>?_,fun b o x n=>?_,fun b o x n hb=>inn b o x hb,fun b o x hb=>⟨o,inn b o x hb⟩,fs,?_,hx.new,a0,?_⟩
 ·by_cases hb:b∈frs X.stack
  ·obtain⟨l,e1⟩:=hslot b o x hb;exact⟨_,e1⟩
  ·exact⟨o,hkeep b o x hb⟩
 ·refine(I.hok b u eu).stay (fun c v hb q=>hkeep c v q (nfr c ?_)) (fun _ q=>q) fun _ _ q=>q;rcases hb with z|z
  ·rw[z,eu];simp
  ·rw[z];simp
 ·cases eu:H b with
  |none=>exact absurd eu n
  |some u=>
   obtain⟨o1,e1⟩:=(I.hok b u eu).there;have e2:=inn b o1 e1 (nfr b n);have e3:=hB b o1 e2;rw[x] at e3;cases e3;exact(e2)
 ·cases eu:H a with
  |none=>rfl
  |some u=>
   obtain⟨o1,e1⟩:=(I.hok a u eu).there;rw[hx.new] at e1;cases e1
 ·rw[←lv1] at fl;exact fl
theorem T8{M:Model}{A:Around}{E':OK}{e:Value}{Q:Unit->Shared->Prop}(lv:Lv X)(hA:A.frames=X.A.frames)(h:FlX X E e s')
  (hQ:∀a C pins J H H' s Z8 s2,e=.ref a->Inv X pins J H s->E J C none H'->FlewH X.prog X.w X.stack X.env.locals H H' s a C Z8 s2->Q () s2):wpAny M A (noteFrame e X.env) Q E' s':=by
 obtain⟨a,C,pins,J,H,H',s,rfl,I,hE,h⟩:=h;rcases h with⟨rfl,D,vs,h',rfl,rfl,hx⟩|⟨Z8,F⟩|⟨Z8,F⟩
 ·exact SH lv hA I hx fun Z8 h2 F=>hQ _ _ _ _ _ _ _ _ _ rfl I hE F
 ·obtain⟨a0,fl⟩:=F.fly;have fl':Heap.FlyingW Z8 (X.env::X.outer) a C a0 s'.heap:=by rw[←lv.1];exact fl
  refine wpAny_looks_onW (by rw[hA,I.ok.frames,lv.1]) lv.2 fl' fun h2 hh hs=>hQ _ _ _ _ _ _ _ _ _ rfl I hE (F.noted hs ⟨a0,by rw[lv.1];exact hh⟩)
 ·obtain⟨a0,fl⟩:=F.fly;exact wpAny_noteFrame_againW lv.2 fl.2.2.2 (hQ _ _ _ _ _ _ _ _ _ rfl I hE F)
theorem Wh(lv:Lv X):PassesOwn (model X.prog X.w) X.A X.env (FlX X E):=fun e s' h=>by
 refine T8 lv rfl h fun a C pins J H H' s Z8 s2 he I hE F=>?_;subst he;obtain⟨a0,fl⟩:=F.fly;obtain⟨oe,vs,T,oT,ts,g1,_,g2,g3,_⟩:=id fl.2.2.2;show wpAny _ _ (do
  if(←field (.ref a) 1)==.none then unsupported "frame.own-activation:exception-without-traceback"
  setFlight (.ref a) X.env.frame) _ _ _
 refine Xf (wpAny_field g1 g2 g3 ?_);rw[if_neg (show ¬((Value.ref T==Value.none)=true) from by simp),lv.2];first
  |exact Xf (Xj (MD fl fun h2 hh hs=>⟨a,C,pins,J,H,H',s,rfl,I,hE,.inr (.inr ⟨Z8,F.next hs ⟨a0,hh⟩⟩)⟩))
  |exact MD fl fun h2 hh hs=>⟨a,C,pins,J,H,H',s,rfl,I,hE,.inr (.inr ⟨Z8,F.next hs ⟨a0,hh⟩⟩)⟩
end
section
variable {P:Program} {w:World} {K:Frag} {mg:Str->Option Value} {base:Heap} {N:List Str} {qual:Str} {scope:Scope} {f:Addr} {cd:Value} {A:Around} {outer:List Env} {s:Shared} {H:Hp} {E:XK}
theorem Tl{e:Value}{s':Shared}(h:FlX (rq (CXr P w) P w K mg base N qual scope f cd A outer s H E) (fun _=>E) e s'):(rq (CXr P w) P w K mg base N qual scope f cd A outer s H E).xe e s':=by
 obtain⟨a,C,pins,J,H1,H',s1,rfl,I,hE,h⟩:=h;rcases h with⟨rfl,D,vs,h',rfl,rfl,hx⟩|⟨Z8,F⟩|⟨Z8,F⟩
 ·exact Pm I hx hE
 ·exact T4 (E':=E) (fun _ _ _ z=>z) pins J H1 s1 _ s' I ⟨a,C,H',Z8,rfl,F,hE⟩
 ·obtain⟨a0,fl⟩:=F.fly;show wpAny (model P w) (A.deeper (envOfC qual scope s.heap.objs.size f cd)) (leaving (envOfC qual scope s.heap.objs.size f cd) (.ref a)) _ _ _;unfold leaving;refine Xf (wpAny_noteFrame_againW rfl fl.2.2.2 (wpAny_landsW fl fun h2 fl2 ups=>?_));have F2:=F.lands ups ⟨a0,fl2⟩;have I2:=Flew.inv (X:=rq (CXr P w) P w K mg base N qual scope f cd A outer s H E) F2 I;have out:∀b o,s.heap.get? b=some o->b∉frs outer->b∉frs (envOfC qual scope s.heap.objs.size f cd::outer):=fun b o e hb z=>by
   have z:b∈s.heap.objs.size::frs outer:=z;rcases XI.mp z with q|q
   ·rw[q] at e;exact X7 _ (Xo e)
   ·exact hb q
  obtain⟨f1,f2,⟨_,_,f3⟩,f4⟩:=id fl2;refine⟨a,C,H',Z8,rfl,⟨I2.os,F2.bare,⟨fun b o x n hb _=>I2.base.keep b o x n hb (by simp[rq]),fun b o x n hb _=>I2.base.slot b o x n hb (by simp[rq]),fun b o x n _=>I2.base.free b o x n (by simp[rq]),fun b o x _=>I2.base.there b o x (by simp[rq]),I2.base.tups,I2.base.frzs,I2.base.tbls⟩,F2.hok,F2.trk,
   fun b o x n hb=>F2.old b o (I.base.keep b o x n hb (by simp[rq])) (I.base.free b o x n (by simp[rq])) (out b o x hb),fun b o x hb=>?_,I.ok.frf,F2.unt,?_,a0,f1,f2,f3,f4⟩,hE⟩
  ·obtain⟨o1,e1⟩:=I.base.there b o x (by simp[rq]);exact F2.thr b o1 e1 (out b o x hb)
  ·cases eo:s.heap.get? a with
   |none=>rfl
   |some o=>
    obtain⟨o1,e1⟩:=I.base.there a o eo (by simp[rq]);rw[F2.new] at e1;cases e1
end
abbrev Cx.fl(X:Cx)(E:St->XK):Cx:=X.wish (FlX X E)
abbrev zZ:List Value:=[.type "ValueError",.type "Exception",.type "BaseException",.type "object"]
def uu(K:Frag)(C:Addr):Prop:=∃bm N nm q bs hdct sn sub ab col dd k0 k1 k2 k3 k5,
  K.lookup C=some (excClassObj nm q C N bs bm hdct sn sub ab col dd k0 k1 k2 k3 k5 "ValueError.__new__")/\tailIn K zZ bm=true/\nsOkIn K N=true/\nsIn K N "__init__"=some none
theorem Pl{K:Frag}{h:Heap}{C:Addr}{G:Prop}(X:K.In h)(q:uu K C)
  (k:∀bm N nm q bs hdct sn sub ab col dd k0 k1 k2 k3 k5 mN,h.get? C=some (excClassObj nm q C N bs bm hdct sn sub ab col dd k0 k1 k2 k3 k5 "ValueError.__new__")->h.Ns N mN->mN "__init__"=none->OwnTail h zZ bm->G):G:=by
 obtain⟨bm,N,nm,q,bs,hdct,sn,sub,ab,col,dd,k0,k1,k2,k3,k5,ho,ht,hok,hni⟩:=q;exact(k bm N nm q bs hdct sn sub ab col dd k0 k1 k2 k3 k5 _ (X _ _ ho) (.of_isNs (isNs_of_in X hok)) (nsMap_none_of_in X hok hni) (tail_of_in X ht))
def Qs{h h':Heap}{N:Addr}{m:Str->Option Value}(hN:h.Ns N m)(b:∀b o,h.get? b=some o->h'.get? b=some o):h'.Ns N m:=by
 obtain⟨o,es,ep,ho,hd,hs,hf⟩:=hN;exact(⟨o,es,ep,b _ _ ho,hd,hs,hf⟩)
section
variable {X:Cx} {E:St->XK} {e:Expr} {te:TE} {np cpos pos:Pos} {x:Str} {C:Addr}
theorem JH(he:PE (X.fl E) e te)(hg:Gl (X.fl E) x)(hm:X.mg x=some (.ref C))(hC:uu X.K C)(hc:X.calm=true)(hd:(x==("__debug__":Str))=false:=by decide)
  (hs:starEach [e] X.env=[(false,eval e X.env)]:=by rfl):PS (X.fl E) (.Raise (some (.Call (.Name x np) [e] [] cpos)) none pos) (fun _ J H=>te J H fun _ H1=>E J (.ref C) none H1):=by
 intro pins s J H D I h;have kb:X.K.In X.base:=I.ok.mod.kin;refine Pl kb hC fun tl N nm q bs hdct sn sub ab col dd k0 k1 k2 k3 k5 mN hCo hN hni T=>?_;have hpl:(backTo cpos (starEach [e] X.env)).any (·.1)=false:=by rw[hs];rfl
 refine wpAny_Raise_call_subT (C:=C) (nm:=nm) (q:=q) (N:=N) (bs:=bs) (bm:=tl) (hdct:=hdct) (sn:=sn) (sub:=sub) (ab:=ab) (col:=col) (dd:=dd) (k0:=k0) (k1:=k1) (k2:=k2) (k3:=k3) (k5:=k5)
  PySem.F.excBase_ValueError (mN:=mN) (T.hasType PySem.F.excBase_ValueError.hasBase) (I.ok.hd hc) hpl hni (zw I hg hm ⟨rfl,?_⟩ hd)
 show wpAny _ _ (evalArgs (.ref C) true (backTo cpos (starEach [e] X.env)) []) _ _ _;have hpa:PA (X.fl E) [e] (t5 te u5):=sq he sV (by show starEach [e] X.env=(false,eval e X.env)::starEach [] X.env;rw[hs];rfl);have hq:wpAny (model X.prog X.w) X.A (spliced (backTo cpos (starEach [e] X.env))) (AP (X.fl E) pins J (fun vs H1=>vs.length=1/\E J (.ref C) none H1)) (FlX X E) s:=hpa cpos pins s J H (fun vs H1=>vs.length=1/\E J (.ref C) none H1) I (by
  unfold t5 u5;have z:te J H (fun v H1=>E J (.ref C) none H1):=h;simpa using z)
 rw[hs] at hq⊢;refine Calls.evalArgs_plain (thn hq fun us s2 hm=>?_);obtain⟨vs,H2,I2,r,hl,hE⟩:=hm;have base:∀b o,X.base.get? b=some o->s2.heap.get? b=some o:=I2.bk;exact⟨rfl,by rw[←r.length,hl];decide,base _ _ hCo,Qs hN base,T.keeps base,fun h' a hx=>⟨a,.ref C,pins,J,H2,H2,s2,rfl,I2.unwish,hE,.inl ⟨rfl,C,us,h',rfl,rfl,hx⟩⟩⟩
end
def DfX(P:Program)(w:World)(K:Frag)(mg:Str->Option Value)(base:Heap)(k:Nat)(x:Str)(ps:List Str)(sp:Sp):Prop:=
 ∃f fd,FnOk P w K mg base (CXr P w) k f fd ps sp/\Binds K fd ps []/\keepIn K (.ref f)=true/\mg x=some (.ref f)
section
variable {X:Cx} {E:St->XK} {k:Nat} {x:Str} {ps:List Str} {sp:Sp} {e:Expr} {es:List Expr} {t:TA} {p pos:Pos} {f C:Addr} {fd:FuncData}
theorem O9{pins:QS}{J:St}{H:Hp}{s:Shared}{Q:VK}{us:List Value}{vs:List V}(F:FnOk X.prog X.w X.K X.mg X.base (CXr X.prog X.w) k f fd ps sp)(hr:Room k X.A)(hb:Binds X.K fd ps [])
  (I:Inv (X.fl E) pins J H s) (r:Vals vs us) (h:sp vs H Q (E J)):wpAny (model X.prog X.w) X.A (call (.ref f) us) (EP (X.fl E) pins J Q) (FlX X E) s:=by
 have hl:us.length=ps.length:=by rw[←r.length];exact F.len _ _ _ _ h
 have hb':=hb s us I.kIn (by simpa using hl);simp only[X0] at hb';refine wpAny_call (codeAny_mono (F.run X.A X.stack s H ⟨us,[]⟩ us vs Q (E J) hr I.env0 hb' r h) fun r s' hq=>?_);cases r with
 |error e=>
  obtain⟨a,C,H',Z8,rfl,F,hE⟩:=hq;exact⟨a,C,pins,J,H,H',s,rfl,I.unwish,hE,.inr (.inl ⟨Z8,F⟩)⟩
 |ok fl=>
  cases fl with
  |ret u=>exact I.after hq
  |next=>exact False.elim hq
  |brk=>exact False.elim hq
  |cont=>exact False.elim hq
theorem WV(D:DfX X.prog X.w X.K X.mg X.base k x ps sp)(hr:Room k X.A)(ha:PA (X.fl E) (e::es) t)(hg:Gl X x:=by rfl)(hdb:(x==("__debug__":Str))=false:=by decide)
  (he:starEach (e::es) X.env=(false,eval e X.env)::starEach es X.env:=by rfl) (hpl:(backTo pos (starEach es X.env)).any (·.1)=false:=by rfl):
  PE (X.fl E) (.Call (.Name x p) (e::es) [] pos) (fun J H Q=>t J H fun vs H1=>sp vs H1 Q (E J)):=by
 obtain⟨f,fd,F,hb,hk,hm⟩:=D;intro pins s J H Q I h;refine Yz (zw I hg hm ?_ hdb);refine PySem.W.callWith_K (h₀:=X.base) I.ok.mod.kin hk (thn (ha pos pins s J H _ I h) fun us s1 ⟨vs,H1,I1,r,q⟩=>⟨I1.kIn,?_⟩) he hpl;exact O9 F hr hb I1 r q
end
theorem Fun.okX{P:Program}{w:World}{K:Frag}{mg:Str->Option Value}{base:Heap}{x qual:Str}{st:Stmt}{f:Addr}{fd:FuncData}{N ps:List Str}{k:Nat}{sp:Sp}(F:Fun K x qual st f fd)(S:FnScope N ps (qF st))(len:∀vs H Q E,sp vs H Q E->vs.length=ps.length)
  (hbody:∀(cdv:Value) (A:Around) (outer:List Env) (s:Shared) (H:Hp) (vs:List V) (Q:VK) (E:XK),Room k (A.deeper (envOfC qual (qF st) s.heap.objs.size f cdv))->sp vs H Q E->
   ∃t,PSs ((rq (CXr P w) P w K mg base N qual (qF st) f cdv A outer s H E).fl fun _=>E) (rc st) t/\t {nx:=fun _ H'=>Q .non H',rt:=Q} (vA N vs) H):FnOk P w K mg base (CXr P w) (k+1) f fd ps sp:=by
 obtain⟨oc,od,kV,doc,pm,an,cdv,ct,osl,rfl,lk,hcd⟩:=F.ex;refine(HA lk hcd S len fun A outer s H vs Q E hr hsp=>?_);obtain⟨t,h,q⟩:=hbody cdv A outer s H vs Q E hr hsp;refine(⟨t,fun pins s J H D I hw=>?_,q⟩);exact Xl (h pins s J H D (I.wish _) hw) (fun _ _ z=>z.unwish) fun e s' z=>Tl z
end L2
namespace L3
open PySem PySem.Spec L2
open PyProof.Rows (envOfC)
inductive Rs (α:Type) where
 |ok (a:α)|ex (C:Addr)
abbrev EX:=G->M->Option (Rs D×M)
abbrev BX:=G->M->Option (Rs Bool×M)
abbrev LX:=G->M->Option (Rs (List D)×M)
abbrev FX:=List D->M->Option (Rs D×M)
inductive OutX where
 |nx|bk|ct|rt (d:D)|ex (C:Addr)
abbrev SX:=G->M->Option (OutX×G×M)
section
variable (K:Frag) (E:St->XK)
def KD(E:XK)(Q:VK)(W':Wd):Rs D->Prop
 | .ok d=>∀v,DR K W' d v->Q v W'.H
 | .ex C=>E (.ref C) none W'.H
def FS(E:XK)(Q:Bool->Hp->Prop)(W':Wd):Rs Bool->Prop
 | .ok b=>Q b W'.H
 | .ex C=>E (.ref C) none W'.H
def Vd(E:XK)(Q:List V->Hp->Prop)(W':Wd):Rs (List D)->Prop
 | .ok ds=>∀vs,DRs K W' ds vs->Q vs W'.H
 | .ex C=>E (.ref C) none W'.H
def Ro(D:Ends)(W':Wd)(Z0:St):OutX->Prop
 | .nx=>D.nx Z0 W'.H
 | .bk=>D.bk Z0 W'.H
 | .ct=>D.ct Z0 W'.H
 | .rt d=>∀v,DR K W' d v->D.rt v W'.H
 | .ex C=>E Z0 (.ref C) none W'.H
def tX(ev:EX):TE:=fun J H Q=>∃(W:Wd) (B:G) (r:Rs D) (Z6:M),W.H=H/\Ok K W/\EnvR K W B J/\ev B W.O=some (r,Z6)/\∀W',W'.O=Z6->Ok K W'->Step W W'->KD K (E J) Q W' r
def tXB(ev:BX):TT:=fun J H Q=>∃(W:Wd) (B:G) (r:Rs Bool) (Z6:M),W.H=H/\Ok K W/\EnvR K W B J/\ev B W.O=some (r,Z6)/\∀W',W'.O=Z6->Ok K W'->Step W W'->FS (E J) Q W' r
def tXL(ev:LX):TA:=fun J H Q=>∃(W:Wd) (B:G) (r:Rs (List D)) (Z6:M),W.H=H/\Ok K W/\EnvR K W B J/\ev B W.O=some (r,Z6)/\∀W',W'.O=Z6->Ok K W'->Step W W'->Vd K (E J) Q W' r
def tXS(es:SX):TS:=fun D J H=>∃(W:Wd) (B:G) (out:OutX) (ZY:G) (Z6:M),W.H=H/\Ok K W/\EnvR K W B J/\es B W.O=some (out,ZY,Z6)/\∀W' Z0,W'.O=Z6->Ok K W'->Step W W'->EnvR K W' ZY Z0->Ro K E D W' Z0 out
end
def upB(ev:BV):BX:=fun B O=>(ev B O).bind fun p=>some (.ok p.1,p.2)
def upL(ev:LV):LX:=fun B O=>(ev B O).bind fun p=>some (.ok p.1,p.2)
def upO:Out->OutX
 | .nx=>.nx
 | .bk=>.bk
 | .ct=>.ct
 | .rt d=>.rt d
def upS(es:SV):SX:=fun B O=>(es B O).bind fun o=>some (upO o.1,o.2)
def upF(f:C0):FX:=fun ds O=>(f ds O).bind fun p=>some (.ok p.1,p.2)
def y39{X:Cx}{st:Stmt}{t:TS}(h:PS X.nox st t):PS X st t:=fun pins s J H D I hw=>
 Xl (h pins s J H D (I.wish _) hw) (fun _ _ q=>q.unwish) fun _ _ z=>False.elim z
def QQ{X:Cx}{es:List Expr}{t:TA}(h:PA X.nox es t):PA X es t:=fun pos pins s J H Q I hw=>
 Xl (h pos pins s J H Q (I.wish _) hw) (fun _ _ ⟨v,H',I',r,q⟩=>⟨v,H',I'.unwish,r,q⟩) fun _ _ z=>False.elim z
def y3b{X:Cx}{tg:Expr}{t:TG}(h:PG X.nox tg t):PG X tg t:=fun pins s J H v u Q I r hw=>
 Xl (h pins s J H v u Q (I.wish _) r hw) (fun _ _ ⟨Z0,H',I',q⟩=>⟨Z0,H',I'.unwish,q⟩) fun _ _ z=>False.elim z
section
variable {X:Cx} {E:St->XK} {K:Frag} {e:Expr} {es:List Expr} {st:Stmt} {pos p:Pos} {ev:EV} {bv:BV} {lv:LV} {sv:SV}
theorem Xc:∀J H Q,tXB K E (upB bv) J H Q->tDB K bv J H Q:=fun J H Q h=>by
 refine el4 h fun W B r Z6 eH ok en e q=>?_;subst eH;refine qC e fun p e1 e=>?_;cases e;exact⟨W,B,p.1,p.2,rfl,ok,en,e1,fun W' h1 h2 h3=>q W' h1 h2 h3⟩
theorem UO:∀J H Q,tXL K E (upL lv) J H Q->tDL K lv J H Q:=fun J H Q h=>by
 refine el4 h fun W B r Z6 eH ok en e q=>?_;subst eH;refine qC e fun p e1 e=>?_;cases e;exact⟨W,B,p.1,p.2,rfl,ok,en,e1,fun v W' h1 h2 h3 h4=>q W' h1 h2 h3 v h4⟩
theorem CH:∀D J H,tXS K E (upS sv) D J H->tDS K sv D J H:=fun D J H h=>by
 refine el5 h fun W B o ZY Z6 eH ok en e q=>?_;subst eH;obtain⟨⟨o1,ZZ,Z5⟩,e1,e⟩:=bnd e;cases e;refine(⟨W,B,o1,_,_,rfl,ok,en,e1,fun W' Z0 h1 h2 h3 h4=>?_⟩);have:=q W' Z0 h1 h2 h3 h4;cases o1<;>exact this
theorem xz(h:PT X.nox e (tDB K bv)):PT X e (tXB K E (upB bv)):=wD h.nox Xc
theorem ui(h:PA X.nox es (tDL K lv)):PA X es (tXL K E (upL lv)):=Bn (QQ h) UO
theorem NT(h:PS X.nox st (tDS K sv)):PS X st (tXS K E (upS sv)):=sN (y39 h) CH
def AF(ea:EX)(el:LX):LX:=fun B O=>(ea B O).bind fun p=>match p.1 with
 | .ok d=>(el B p.2).bind fun q=>match q.1 with
  | .ok ds=>some (.ok (d::ds),q.2)
  | .ex C=>some (.ex C,q.2)
 | .ex C=>some (.ex C,p.2)
theorem S8{ea:EX}{el:LX}(ha:PE X e (tX K E ea))(hr:PA X es (tXL K E el))(hs:starEach (e::es) X.env=(false,eval e X.env)::starEach es X.env:=by rfl):PA X (e::es) (tXL K E (AF ea el)):=Bn (sq ha hr hs) fun J H Q h=>by
 refine el4 h fun W B r Z6 eH ok en e q=>?_;subst eH;obtain⟨⟨p1,p2⟩,e1,e⟩:=bnd e;refine(⟨W,B,p1,p2,rfl,ok,en,e1,fun W1 Z2 ok1 s1=>?_⟩);cases p1 with
 |ex C=>cases e;exact q W1 Z2 ok1 s1
 |ok d=>
  intro x rx;obtain⟨⟨q1,q2⟩,e2,e⟩:=bnd e;refine⟨W1,B,q1,q2,rfl,ok1,en.step ok s1,by rw[Z2];exact e2,fun W2 ZV ok2 s2=>?_⟩;cases q1 with
  |ex C=>cases e;exact q W2 ZV ok2 (s1.trans s2)
  |ok ds=>
   cases e;exact fun vs rvs=>q W2 ZV ok2 (s1.trans s2) (x::vs) (.cons (rx.step ok1 s2) rvs)
def spX(K:Frag)(f:FX):Sp:=fun vs H Q E=>∃(W:Wd) (ds:List D) (r:Rs D) (Z6:M),W.H=H/\Ok K W/\DRs K W ds vs/\f ds W.O=some (r,Z6)/\∀W',W'.O=Z6->Ok K W'->Step W W'->KD K E Q W' r
def vLX(f:FX)(el:LX):EX:=fun B O=>(el B O).bind fun p=>match p.1 with
 | .ok ds=>f ds p.2
 | .ex C=>some (.ex C,p.2)
theorem J8{f:FX}{el:LX}{r:List V->Hp->VK->XK->Prop}(ra:∀vs H Q E,spX K f vs H Q E->r vs H Q E):∀J H Q,tX K E (vLX f el) J H Q->tXL K E el J H fun vs H1=>r vs H1 Q (E J):=fun J H Q h=>by
 refine el4 h fun W B r Z6 eH ok en e q=>?_;subst eH;obtain⟨⟨p1,p2⟩,e1,e⟩:=bnd e;refine(⟨W,B,p1,p2,rfl,ok,en,e1,fun W1 Z2 ok1 s1=>?_⟩);cases p1 with
 |ex C=>cases e;exact q W1 Z2 ok1 s1
 |ok ds=>exact fun vs rv=>ra _ _ _ _ ⟨W1,ds,r,Z6,rfl,ok1,rv,by rw[Z2];exact e,fun W2 ZV ok2 s2=>q W2 ZV ok2 (s1.trans s2)⟩
theorem uw{x:Str}{ps:List Str}{f:FX}{k:Nat}{el:LX}(D:DfX X.prog X.w X.K X.mg X.base k x ps (spX K f))(hr:Room k X.A)(ha:PA (X.fl E) (e::es) (tXL K E el))(hg:Gl X x:=by rfl)(hdb:(x==("__debug__":Str))=false:=by decide)
  (he:starEach (e::es) X.env=(false,eval e X.env)::starEach es X.env:=by rfl) (hpl:(backTo pos (starEach es X.env)).any (·.1)=false:=by rfl):PE (X.fl E) (.Call (.Name x p) (e::es) [] pos) (tX K E (vLX f el)):=
 rf (WV D hr ha hg hdb he hpl) (J8 fun _ _ _ _ z=>z)
theorem OT{f:C0}:∀vs H Q E,spX K (upF f) vs H Q E->spM K f vs H Q E0:=fun vs H Q E h=>by
 obtain⟨W,ds,r,Z6,h1,h2,h3,e,q⟩:=h;obtain⟨⟨d,Z5⟩,e1,e⟩:=bnd e;cases e;exact(⟨W,ds,d,Z5,h1,h2,h3,e1,fun v W' a b c d=>q W' a b c v d⟩)
theorem Wq{x:Str}{ps:List Str}{f:C0}{k:Nat}{el:LX}(D:Df X.prog X.w X.K X.mg X.base k x ps (spM K f))(hr:Room k X.A)(ha:PA X (e::es) (tXL K E el))(hg:Gl X x:=by rfl)(hdb:(x==("__debug__":Str))=false:=by decide)
  (he:starEach (e::es) X.env=(false,eval e X.env)::starEach es X.env:=by rfl) (hpl:(backTo pos (starEach es X.env)).any (·.1)=false:=by rfl):PE X (.Call (.Name x p) (e::es) [] pos) (tX K E (vLX (upF f) el)):=
 rf (JX D hr ha hg hdb he hpl) (J8 (r:=fun vs H Q _=>spM K f vs H Q E0) OT)
def bTX(ev:EX):BX:=fun B O=>(ev B O).bind fun p=>match p.1 with
 | .ok (.bl b)=>some (.ok b,p.2)
 | .ok _=>none
 | .ex C=>some (.ex C,p.2)
theorem zym{ev:EX}(h:PE X e (tX K E ev))(he:∀whole,isTrue e X.env whole=(do let v ←whole;standAt e.pos;holding [v] (truthy v)):=by intro _;rfl):PT X e (tXB K E (bTX ev)):=wD (VP h he) fun J H Q h=>by
 refine el4 h fun W B r Z6 eH ok en e q=>?_;subst eH;obtain⟨⟨p1,p2⟩,e1,e⟩:=bnd e;refine(⟨W,B,p1,p2,rfl,ok,en,e1,fun W1 Z2 ok1 s1=>?_⟩);cases p1 with
 |ex C=>cases e;exact q W1 Z2 ok1 s1
 |ok d=>
  intro v rv;cases d with
  |bl b=>cases e;cases rv;exact⟨b,rfl,q W1 Z2 ok1 s1⟩
  |_=>cases e
def Bs(t:BX):BX:=fun B O=>(t B O).bind fun p=>match p.1 with
 | .ok b=>some (.ok (!b),p.2)
 | .ex C=>some (.ex C,p.2)
theorem TF{bx:BX}(h:PT X e (tXB K E bx)):PT X (.UnaryOp .Not e pos) (tXB K E (Bs bx)):=wD (MQ h) fun J H Q h=>by
 refine el4 h fun W B r Z6 eH ok en e q=>?_;subst eH;obtain⟨⟨p1,p2⟩,e1,e⟩:=bnd e;refine(⟨W,B,p1,p2,rfl,ok,en,e1,fun W1 Z2 ok1 s1=>?_⟩);cases p1 with
 |ex C=>cases e;exact q W1 Z2 ok1 s1
 |ok b=>cases e;exact q W1 Z2 ok1 s1
end
open PyProof.Rows (envOfC)
section
variable {X:Cx} {E:St->XK} {K:Frag} {e:Expr} {st:Stmt} {qO:List Stmt} {pos p:Pos} {sa sb:SX} {ex:EX}
def rY(a b:SX):SX:=fun B O=>(a B O).bind fun o=>match o.1 with
 | .nx=>b o.2.1 o.2.2
 |x=>some (x,o.2)
theorem xu:PSs X [] (tXS K E (upS sNx)):=zL se CH
theorem sZ(h1:PS X st (tXS K E sa)):PSs X [st] (tXS K E sa):=J4 h1
theorem uK(h1:PS X st (tXS K E sa))(h2:PSs X qO (tXS K E sb)):PSs X (st::qO) (tXS K E (rY sa sb)):=zL (Li h1 h2) fun D J H h=>by
 refine el5 h fun W B o ZY Z6 eH ok en e q=>?_;subst eH;obtain⟨⟨o1,ZZ,Z5⟩,e1,e⟩:=bnd e;refine(⟨W,B,o1,ZZ,Z5,rfl,ok,en,e1,fun W1 ZJ Z2 ok1 s1 en1=>?_⟩);cases o1 with
 |nx=>exact⟨W1,ZZ,o,ZY,Z6,rfl,ok1,en1,by rw[Z2];exact e,fun W2 ZX ZV ok2 s2 en2=>q W2 ZX ZV ok2 (s1.trans s2) en2⟩
 |bk=>cases e;exact q W1 ZJ Z2 ok1 s1 en1
 |ct=>cases e;exact q W1 ZJ Z2 ok1 s1 en1
 |rt d=>cases e;exact q W1 ZJ Z2 ok1 s1 en1
 |ex C=>cases e;exact q W1 ZJ Z2 ok1 s1 en1
def vG(ea:EX):SX:=fun B O=>(ea B O).bind fun p=>match p.1 with
 | .ok _=>some (.nx,B,p.2)
 | .ex C=>some (.ex C,B,p.2)
theorem zb(he:PE X e (tX K E ex))(hs:swapsWith e none pos.line X.env=pure false:=by rfl):PS X (.Expr e pos) (tXS K E (vG ex)):=sN (F0 he hs) fun D J H h=>by
 refine el5 h fun W B o ZY Z6 eH ok en e q=>?_;subst eH;obtain⟨⟨p1,p2⟩,e1,e⟩:=bnd e;refine(⟨W,B,p1,p2,rfl,ok,en,e1,fun W1 Z2 ok1 s1=>?_⟩);cases p1 with
 |ex C=>cases e;exact q W1 J Z2 ok1 s1 (en.step ok s1)
 |ok d=>cases e;exact fun v rv=>q W1 J Z2 ok1 s1 (en.step ok s1)
def u7(ea:EX):SX:=fun B O=>(ea B O).bind fun p=>match p.1 with
 | .ok d=>some (.rt d,B,p.2)
 | .ex C=>some (.ex C,B,p.2)
theorem zm(he:PE X e (tX K E ex)):PS X (.Return (some e) pos) (tXS K E (u7 ex)):=sN (Nj he) fun D J H h=>by
 refine el5 h fun W B o ZY Z6 eH ok en e q=>?_;subst eH;obtain⟨⟨p1,p2⟩,e1,e⟩:=bnd e;refine(⟨W,B,p1,p2,rfl,ok,en,e1,fun W1 Z2 ok1 s1=>?_⟩);cases p1 with
 |ex C=>cases e;exact q W1 J Z2 ok1 s1 (en.step ok s1)
 |ok d=>cases e;exact fun v rv=>q W1 J Z2 ok1 s1 (en.step ok s1) v rv
def tP(t:BX)(a b:SX):SX:=fun B O=>(t B O).bind fun p=>match p.1 with
 | .ok c=>if c=true then a B p.2 else b B p.2
 | .ex C=>some (.ex C,B,p.2)
theorem xq{c:Expr}{a b:List Stmt}{bc:BX}(hc:PT X c (tXB K E bc))(ha:PSs X a (tXS K E sa))(hb:PSs X b (tXS K E sb)):PS X (.If c a b pos) (tXS K E (tP bc sa sb)):=sN (Ji hc ha hb) fun D J H h=>by
 refine el5 h fun W B o ZY Z6 eH ok en e q=>?_;subst eH;obtain⟨⟨p1,p2⟩,e1,e⟩:=bnd e;refine(⟨W,B,p1,p2,rfl,ok,en,e1,fun W1 Z2 ok1 s1=>?_⟩);cases p1 with
 |ex C=>cases e;exact q W1 J Z2 ok1 s1 (en.step ok s1)
 |ok k=>
  cases k with
  |true=>
   simp only[FS,if_true];exact⟨W1,B,o,ZY,Z6,rfl,ok1,en.step ok s1,by rw[Z2];exact e,fun W2 ZX ZV ok2 s2 en2=>q W2 ZX ZV ok2 (s1.trans s2) en2⟩
  |false=>
   simp only[FS,XB,if_false];exact⟨W1,B,o,ZY,Z6,rfl,ok1,en.step ok s1,by rw[Z2];exact e,fun W2 ZX ZV ok2 s2 en2=>q W2 ZX ZV ok2 (s1.trans s2) en2⟩
def El(ea:EX)(g:GV):SX:=fun B O=>(ea B O).bind fun p=>match p.1 with
 | .ok d=>(g d B p.2).bind fun q=>some (.nx,q.1,q.2)
 | .ex C=>some (.ex C,B,p.2)
theorem zyo{i:Nat}{x:Str}{pos':Pos}(hN:X.N.Nodup)(hi:X.N[i]?=some x)(hx:Loc X.env.scope x)(he:PE X e (tX K E ex))(hs:swapsWith e (some (.Name x pos')) pos.line X.env=pure false:=by rfl)(hf:X.fn x=true\/X.env.scope.names.lookup x=some .local:=by first|exact .inl rfl|exact .inr rfl|assumption):
  PS X (.Assign [.Name x pos'] e pos) (tXS K E (El ex (qA i))):=sN (He hN hi hx he hs hf) fun D J H h=>by
 refine el5 h fun W B o ZY Z6 eH ok en e q=>?_;subst eH;obtain⟨⟨p1,p2⟩,e1,e⟩:=bnd e;refine(⟨W,B,p1,p2,rfl,ok,en,e1,fun W1 Z2 ok1 s1=>?_⟩);cases p1 with
 |ex C=>cases e;exact q W1 J Z2 ok1 s1 (en.step ok s1)
 |ok d=>cases e;exact fun v rv=>q W1 _ Z2 ok1 s1 ((en.step ok s1).set rv i)
def Nl(c:BX)(body:SX):Nat->SX
 |0,_,_=>none
 |n+1,B,O=>(c B O).bind fun p=>match p.1 with
  | .ok k=>if k=true then(body B p.2).bind fun o=>match o.1 with
    | .nx=>Nl c body n o.2.1 o.2.2
    | .ct=>Nl c body n o.2.1 o.2.2
    | .bk=>some (.nx,o.2)
    | .rt d=>some (.rt d,o.2)
    | .ex C=>some (.ex C,o.2)
   else some (.nx,B,p.2)
  | .ex C=>some (.ex C,B,p.2)
def vD(c:Ck)(g:GV)(body:SX):List D->SX
 | [],B,O=>some (.nx,B,O)
 |d::r,B,O=>(g d B O).bind fun p=>(body p.1 p.2).bind fun o=>match o.1 with
  | .nx=>chk (q0 c o.2.2) (vD c g body r o.2.1 o.2.2)
  | .ct=>chk (q0 c o.2.2) (vD c g body r o.2.1 o.2.2)
  | .bk=>some (.nx,o.2)
  | .rt d=>some (.rt d,o.2)
  | .ex C=>some (.ex C,o.2)
def Lg(iv:IV)(g:GV)(body:SX):SX:=fun B O=>(iv B O).bind fun s=>vD s.1.2 g body s.1.1 B s.2
theorem S6{tg iter:Expr}{body:List Stmt}{iv:IV}{g:GV}(hp:PassesOwn (model X.prog X.w) X.A X.env X.xe)(hc:X.calm=true)(hi:PI X tg iter (tDI K iv))(hg:PG X tg (tDG K g))(hb:PSs X body (tXS K E sb))
  (hs:∀x,foldedSetIterable iter X.env x=pure x:=by intro _;rfl):PS X (.For tg iter body [] pos) (tXS K E (Lg iv g sb)):=sN (K5 hp hc hi hg hb hs) fun D J H h=>by
 refine el5 h fun W B o ZY Z6 eH ok en e q=>?_;subst eH;obtain⟨⟨⟨its,c⟩,Z5⟩,e1,e⟩:=bnd e;refine(⟨W,B,its,c,Z5,rfl,ok,en,e1,fun Z7 W1 ZL ok1 s1 jr=>?_⟩);obtain⟨c1,ds,vs,r1,hj⟩:=jr;obtain⟨P,hP⟩:∃P:Nat->St->Hp->Prop,∀i ZX H2,P i ZX H2↔(i<=its.length/\∃W2 ZW,W2.H=H2/\Ok K W2/\Step W1 W2/\EnvR K W2 ZW ZX/\q0 c W2.O/\vD c g sb (its.drop i) ZW W2.O=some (o,ZY,Z6)):=⟨_,fun _ _ _=>Iff.rfl⟩
 refine⟨fun i m ZX H2=>m=its.length - i/\P i ZX H2,⟨its.length,by simp,(hP _ _ _).2 ⟨Ye _,W1,B,rfl,ok1,.refl,en.step ok s1,c1,by rw[ZL];exact e⟩⟩,?_⟩;rintro i m ZX H2 ⟨rfl,hi⟩;refine bq fun hG=>?_;obtain⟨hi,W2,ZW,rfl,ok2,s2,en2,c2,e2⟩:=(hP _ _ _).1 hi;obtain⟨hstop,hgo⟩:=hj W2 i ok2 c2 (r1.step ok1 s2);by_cases hlt:i<its.length
 ·have hd:its[i]?=some its[i]:=Xm hlt;obtain⟨h1,h2⟩:=hgo _ hd;rw[XS hlt] at e2;refine qC e2 fun p e3 e2=>?_;obtain⟨⟨o4,Zr,Zw⟩,e4,e2⟩:=bnd e2;refine(hG (.inr ⟨h1,P (i+1),fun Z0 H' hN=>⟨its.length - (i+1),by omega,rfl,hN⟩,fun x H' hy=>?_⟩));refine bq fun hF=>?_;obtain⟨W3,rfl,ZS,ok3,s3,r3⟩:=h2 x H' hy;refine hF ⟨W3,ZW,its[i],p.1,p.2,rfl,ok3,en2.step ok2 s3,r3,by rw[ZS];exact e3,fun W4 ZP ZC ok4 s4 en4=>⟨W4,p.1,o4,Zr,Zw,rfl,ok4,en4,by rw[ZC];exact e4,fun W5 Zp ZO ok5 s5 en5=>?_⟩⟩;have st:=s2.trans (s3.trans (s4.trans s5));cases o4 with
  |nx=>refine uy e2 fun hc5 e2=>?_;exact(hP _ _ _).2 ⟨hlt,W5,Zr,rfl,ok5,st,en5,by rw[ZO];exact hc5,by rw[ZO];exact e2⟩
  |ct=>refine uy e2 fun hc5 e2=>?_;exact(hP _ _ _).2 ⟨hlt,W5,Zr,rfl,ok5,st,en5,by rw[ZO];exact hc5,by rw[ZO];exact e2⟩
  |bk=>cases e2;exact q W5 Zp ZO ok5 (s1.trans st) en5
  |rt d=>cases e2;exact q W5 Zp ZO ok5 (s1.trans st) en5
  |ex C=>cases e2;exact q W5 Zp ZO ok5 (s1.trans st) en5
 ·have e':i=its.length:=by omega
  subst e';rw[X5 (Xh _)] at e2;cases e2;exact hG (.inl ⟨hstop (Xh _),q W2 ZX rfl ok2 (s1.trans s2) en2⟩)
def Jb(C:Addr)(ea:EV):SX:=fun B O=>(ea B O).bind fun p=>some (.ex C,B,p.2)
theorem Ow{ea:EV}{x:Str}{C:Addr}{np cpos:Pos}(he:PE (X.fl E).nox e (tD K ea))(hm:X.mg x=some (.ref C))(hC:uu X.K C)(hg:Gl X x:=by rfl)(hc:X.calm=true:=by rfl)(hd:(x==("__debug__":Str))=false:=by decide)
  (hs:starEach [e] X.env=[(false,eval e X.env)]:=by rfl):PS (X.fl E) (.Raise (some (.Call (.Name x np) [e] [] cpos)) none pos) (tXS K E (Jb C ea)):=sN (JH (te:=tD K ea) (PE.nox he) hg hm hC hc hd hs) fun D J H h=>by
 refine el5 h fun W B o ZY Z6 eH ok en e q=>?_;subst eH;refine qC e fun p1 e1 e=>?_;cases e;exact⟨W,B,p1.1,p1.2,rfl,ok,en,e1,fun v W1 Z2 ok1 s1 r1=>q W1 J Z2 ok1 s1 (en.step ok s1)⟩
end
def sF(n m:Nat)(es:SX):FX:=fun ds O=>if ds.length=m then(es (ds.map some++List.replicate (n - ds.length) none) O).bind fun o=>match o.1 with
  | .rt d=>some (.ok d,o.2.2)
  | .nx=>some (.ok .non,o.2.2)
  | .ex C=>some (.ex C,o.2.2)
  |_=>none
 else none
theorem uM{P:Program}{w:World}{K:Frag}{mg:Str->Option Value}{base:Heap}{x qual:Str}{st:Stmt}{f:Addr}{fd:FuncData}{N ps:List Str}{k:Nat}{es:SX}(F:Fun K x qual st f fd)(S:FnScope N ps (qF st))
  (hb:∀(cdv:Value) (A:Around) (outer:List Env) (s:Shared) (H:Hp) (E:XK),Room k (A.deeper (envOfC qual (qF st) s.heap.objs.size f cdv))->PSs ((rq (CXr P w) P w K mg base N qual (qF st) f cdv A outer s H E).fl fun _=>E) (rc st) (tXS K (fun _=>E) es)):
  FnOk P w K mg base (CXr P w) (k+1) f fd ps (spX K (sF N.length ps.length es)):=by
 refine F.okX S (fun vs H Q E h=>?_) (fun cdv A outer s H vs Q E hr h=>?_)
 ·obtain⟨W,ds,r,Z6,_,_,rr,e,_⟩:=h;unfold sF at e;split at e
  ·rename_i hl;rw[←rr.length];exact hl
  ·cases e
 ·obtain⟨W,ds,r,Z6,rfl,ok,rr,e,q⟩:=h;refine⟨_,hb cdv A outer s W.H E hr,?_⟩;unfold sF at e;split at e
  ·obtain⟨⟨o,ZY,Z4⟩,e1,e⟩:=bnd e;refine⟨W,_,o,ZY,Z4,rfl,ok,HK rr,e1,fun W' Z0 Z2 ok' s' en'=>?_⟩;cases o with
   |rt z=>cases e;exact q W' Z2 ok' s'
   |nx=>cases e;exact q W' Z2 ok' s' _ .non
   |ex C=>cases e;exact q W' Z2 ok' s'
   |bk=>cases e
   |ct=>cases e
  ·cases e
end L3
namespace L2
open PySem PySem.W PySem.Spec PyProof.Rows
end L2
namespace L3
open PySem PySem.Spec L2
def RY{X:Cx}{tg iter:Expr}{t:TI}(h:PI X.nox tg iter t):PI X tg iter t:=fun pins s J H R I hw=>
 Xl (h pins s J H R (I.wish _) hw) (fun v s1 z=>Xl z (fun itv s2 ⟨it,fp,tn,Z7,H2,e,I2,T,st2,f2,q⟩=>⟨it,fp,tn,Z7,H2,e,I2.unwish,T,st2,f2,q⟩) fun _ _ z=>False.elim z) fun _ _ z=>False.elim z
section
variable {X:Cx} {E:St->XK} {K:Frag} {e e2:Expr} {es:List Expr} {st:List Stmt} {pos p:Pos} {sv:SV}
theorem DV(h:PSs X.nox st (tDS K sv)):PSs X st (tXS K E (upS sv)):=zL h.nox CH
def BI:List EV->G->M->Option M
 | [],_,O=>some O
 |ea::r,B,O=>(ea B O).bind fun p=>match p.1 with
  | .int i=>if i.natAbs.log2<1920 then BI r B p.2 else none
  |_=>none
def tJ(K:Frag)(l:List EV):St->Hp->(Hp->Prop)->Prop:=fun J H Q=>∃(W:Wd) (B:G) (Z6:M),W.H=H/\Ok K W/\EnvR K W B J/\BI l B W.O=some Z6/\∀W',W'.O=Z6->Ok K W'->Step W W'->Q W'.H
theorem L9{t t':St->Hp->(Hp->Prop)->Prop}(h:PJ X es t)(hi:∀J H Q,t' J H Q->t J H Q):PJ X es t':=fun pins s J H Q acc n a b I hw=>h pins s J H Q acc n a b I (hi _ _ _ hw)
theorem pj0:PJ X [] (tJ K []):=L9 WB fun J H Q h=>by
 obtain⟨W,B,Z6,rfl,ok,en,e,q⟩:=h;cases e;exact(q W rfl ok .refl)
theorem tV{x:Str}{j:Nat}{l:List EV}(hx:x.length<=2000)(hr:PJ X es (tJ K l)):PJ X (.Constant (.str x) j p::es) (tJ K l):=Q4 hx hr
theorem uI{ea:EV}{l:List EV}(he:PE X e (tD K ea))(hr:PJ X es (tJ K l)):PJ X (.FormattedValue e (-1) none p::es) (tJ K (ea::l)):=L9 (Xb he hr) fun J H Q h=>by
 obtain⟨W,B,Z6,rfl,ok,en,e,q⟩:=h;refine qC e fun p1 e1 e=>?_;refine(⟨W,B,p1.1,p1.2,rfl,ok,en,e1,fun v W1 Z2 ok1 s1 r1=>?_⟩);split at e
 ·rename_i i hi;split at e
  ·rename_i hl;rw[hi] at r1;cases r1;exact⟨i,rfl,hl,W1,B,Z6,rfl,ok1,en.step ok s1,by rw[Z2];exact e,fun W2 ZV ok2 s2=>q W2 ZV ok2 (s1.trans s2)⟩
  ·cases e
 ·cases e
def CJ(K:Frag)(l:List EV):TE:=fun J H Q=>∃(W:Wd) (B:G) (Z6:M),W.H=H/\Ok K W/\EnvR K W B J/\BI l B W.O=some Z6/\∀v W',W'.O=Z6->Ok K W'->Step W W'->Q v W'.H
theorem xE{l:List EV}(h:PJ X (e::e2::es) (tJ K l))(hl:(e::e2::es).length<=400:=by decide):PE X (.JoinedStr (e::e2::es) pos) (CJ K l):=rf (Sa h hl) fun J H Q h=>by
 obtain⟨W,B,Z6,rfl,ok,en,e,q⟩:=h;exact(⟨W,B,Z6,rfl,ok,en,e,fun W' h1 h2 h3 z=>q _ W' h1 h2 h3⟩)
def vY(C:Addr)(l:List EV):SX:=fun B O=>(BI l B O).bind fun Z6=>some (.ex C,B,Z6)
theorem yF{l:List EV}{x:Str}{C:Addr}{np cpos:Pos}(he:PE (X.fl E).nox e (CJ K l))(hm:X.mg x=some (.ref C))(hC:uu X.K C)(hg:Gl X x:=by rfl)(hc:X.calm=true:=by rfl)(hd:(x==("__debug__":Str))=false:=by decide)
  (hs:starEach [e] X.env=[(false,eval e X.env)]:=by rfl):PS (X.fl E) (.Raise (some (.Call (.Name x np) [e] [] cpos)) none pos) (tXS K E (vY C l)):=sN (JH (te:=CJ K l) (PE.nox he) hg hm hC hc hd hs) fun D J H h=>by
 refine el5 h fun W B o ZY Z6 eH ok en e q=>?_;subst eH;refine qC e fun Z5 e1 e=>?_;cases e;exact⟨W,B,_,rfl,ok,en,e1,fun v W1 Z2 ok1 s1=>q W1 J Z2 ok1 s1 (en.step ok s1)⟩
end
end L3
namespace L2
open PySem PySem.W PySem.Spec PySem.Calls PyProof.Rows PySem.SeqAt
end L2
namespace L3
open PySem PySem.Spec L2
class Enc (α:Type) where
 d:α->D
 p:α->PyData
 k:Nat
 py_eq:∀(a:α) (O:M) (n:Nat),k<n->py n O (d a)=some (p a)
 lay:∀a,(p a).canLay0=true
 dep:∀a,(p a).depth<=k
 eqv:∀a b,PyData.eqv (p a) (p b)=true↔a=b
instance encInt:Enc Int where
 d i:=.int i
 p i:=.int i
 k:=0
 py_eq a O n h:=by cases n with|zero=>omega|succ n=>rfl
 lay a:=rfl
 dep a:=by simp[PyData.depth]
 eqv a b:=by simp[PyData.eqv]
instance encBool:Enc Bool where
 d i:=.bl i
 p i:=.bool i
 k:=0
 py_eq a O n h:=by cases n with|zero=>omega|succ n=>rfl
 lay a:=rfl
 dep a:=by simp[PyData.depth]
 eqv a b:=by cases a<;>cases b<;>simp[PyData.eqv]
section
variable {α β γ:Type} [Enc α] [Enc β] [Enc γ]
theorem BP{O:M}{n:Nat}(h:Enc.k α<n):∀l:List α,rD (py n O) (l.map Enc.d)=some (l.map Enc.p)
 | []=>rfl
 |a::r=>by simp only[Xr,rD,Enc.py_eq a O n h,BP h r,Option.bind_some]
theorem G7:∀l:List α,PyData.canLayAll0 (l.map Enc.p)=true
 | []=>rfl
 |a::r=>by simp only[Xr,PyData.canLayAll0,Enc.lay a,G7 r,Bool.and_self]
theorem Kh:∀l:List α,PyData.depthAll (l.map Enc.p)<=Enc.k α
 | []=>by simp[PyData.depthAll]
 |a::r=>by
  have h1:=Enc.dep a;have h2:=Kh r;simp only[Xr,PyData.depthAll];omega
theorem Hq:∀l m:List α,PyData.eqvAll (l.map Enc.p) (m.map Enc.p)=true↔l=m
 | [],[]=>by simp[PyData.eqvAll]
 | [],_::_=>by simp[PyData.eqvAll]
 |_::_,[]=>by simp[PyData.eqvAll]
 |a::r,b::s=>by
  have h1:=Enc.eqv a b;have h2:=Hq r s;simp only[Xr,PyData.eqvAll,XE,h1,h2,List.cons.injEq]
instance encList:Enc (List α) where
 d l:=.lst (l.map Enc.d)
 p l:=.list (l.map Enc.p)
 k:=Enc.k α+1
 py_eq l O n h:=by
  cases n with
  |zero=>omega
  |succ n=>rw[Sd,BP (by omega)];rfl
 lay l:=by simp only[PyData.canLay0];exact G7 l
 dep l:=by
  have:=Kh l;simp only[PyData.depth];omega
 eqv l m:=by simp only[PyData.eqv];exact Hq l m
end
section
variable {O:M} {x y:D} {a:PyData}
def isInt:D->Bool
 | .int _=>true
 |_=>false
def ye:D->Bool
 | .str _=>true
 |_=>false
theorem Tb(h:(isInt x&&isInt y)=false)(h2:(ye x&&ye y)=false):eqD x y O=(py 65 O x).bind fun d=>(py 65 O y).bind fun e=>if(d.canLay0&&e.canLay0&&decide (d.depth<=64))=true then some (PyData.eqv d e) else none:=by
 cases x<;>cases y<;>first|rfl|(simp[isInt] at h;done)|(simp[ye] at h2;done)
def Rds(O:M)(x:D)(α:Type) [Enc α](a:α):Prop:=py 65 O x=some (Enc.p a)
variable {α:Type} [Enc α] [DecidableEq α] {s t:α}
theorem Qx(hk:Enc.k α<=64)(h1:Rds O x α s)(h2:Rds O y α t)(h:(isInt x&&isInt y)=false)(h':(ye x&&ye y)=false):eqD x y O=some (decide (s=t)):=by
 rw[Tb h h',h1,h2];have l1:=Enc.lay s;have l2:=Enc.lay t;have l3:=Enc.dep s;simp only[Option.bind_some,l1,l2,Bool.and_self,Bool.true_and];rw[if_pos (by simp;omega)];congr 1;have:=Enc.eqv s t;by_cases e:s=t
 ·rw[this.mpr e,Xx e]
 ·rw[Xq e];cases hq:PyData.eqv (Enc.p s) (Enc.p t) with
  |false=>rfl
  |true=>exact absurd (this.mp hq) e
end
def Ub{α:Type} [Enc α]{O:M}(hk:Enc.k α<=64)(a:α):Rds O (Enc.d a) α a:=Enc.py_eq a O 65 (by omega)
def QB{n:Nat}{O:M}{k:Nat}{ds:List D}(h:O[k]?=some (some (.lst ds))):py (n+1) O (.ref k)=(rD (py n O) ds).bind fun ys=>some (.list ys):=by
 simp only[py,h]
def Th{n:Nat}{O:M}{ds:List D}:py (n+1) O (.scr ds)=(rD (py n O) ds).bind fun ys=>some (.list ys):=rfl
def zvb{α:Type} [Enc α]{O:M}{k:Nat}{l:List α}(hk:Enc.k α<=63)(h:O[k]?=some (some (.lst (l.map Enc.d)))):Rds O (.ref k) (List α) l:=by
 unfold Rds;rw[QB h,BP (by omega)];rfl
section
variable {B:G} {O:M}
theorem Ak{ev:BV}{b:Bool}{Z5:M}(h:ev B O=some (b,Z5)):upB ev B O=some (.ok b,Z5):=by unfold upB;rw[h];rfl
theorem zO{ev:LV}{ds:List D}{Z5:M}(h:ev B O=some (ds,Z5)):upL ev B O=some (.ok ds,Z5):=by unfold upL;rw[h];rfl
theorem wI{es:SV}{o:Out}{ZZ:G}{Z5:M}(h:es B O=some (o,ZZ,Z5)):upS es B O=some (upO o,ZZ,Z5):=by unfold upS;rw[h];rfl
theorem zh{a b:SX}{ZZ:G}{Z5:M}(h:a B O=some (.nx,ZZ,Z5)):rY a b B O=b ZZ Z5:=by unfold rY;rw[h];rfl
theorem zD{t:BX}{a b:SX}{Z5:M}(h:t B O=some (.ok false,Z5)):tP t a b B O=b B Z5:=by unfold tP;rw[h];rfl
theorem yL{f:FX}{el:LX}{ds:List D}{Z5:M}(h:el B O=some (.ok ds,Z5)):vLX f el B O=f ds Z5:=by unfold vLX;rw[h];rfl
theorem Lq{ea:EX}{d:D}{Z5:M}(h:ea B O=some (.ok d,Z5)):vG ea B O=some (.nx,B,Z5):=by unfold vG;rw[h];rfl
theorem Lz{ea:EX}{d:D}{Z5:M}(h:ea B O=some (.ok d,Z5)):u7 ea B O=some (.rt d,B,Z5):=by unfold u7;rw[h];rfl
theorem Ar{n m:Nat}{es:SX}{ds:List D}{d:D}{ZZ:G}{Z5:M}(hl:ds.length=m)(h:es (ds.map some++List.replicate (n - ds.length) none) O=some (.rt d,ZZ,Z5)):sF n m es ds O=some (.ok d,Z5):=by
 unfold sF;rw[if_pos hl,h];rfl
theorem Jn{n m:Nat}{es:SX}{ds:List D}{ZZ:G}{Z5:M}(hl:ds.length=m)(h:es (ds.map some++List.replicate (n - ds.length) none) O=some (.nx,ZZ,Z5)):sF n m es ds O=some (.ok .non,Z5):=by
 unfold sF;rw[if_pos hl,h];rfl
end
structure Kp (k:Nat) (O Z6:M):Prop where
 len:O.length<=Z6.length
 at_:∀j,j<O.length->j≠k->Z6[j]?=O[j]?
def Kp.refl{k:Nat}{O:M}:Kp k O O:=⟨Xh _,fun _ _ _=>rfl⟩
def Kp.trans{k:Nat}{O Z5 Z4:M}(h:Kp k O Z5)(g:Kp k Z5 Z4):Kp k O Z4:=⟨XL h.len g.len,fun j hj n=>(g.at_ j (XC hj h.len) n).trans (h.at_ j hj n)⟩
def y21{k:Nat}{O ex:M}:Kp k O (O++ex):=⟨by simp,fun j hj _=>Xv hj⟩
def yb{k:Nat}{O:M}{o:Option Z9}:Kp k O (O.set k o):=⟨by simp,fun j hj n=>XQ (Ne.symm n)⟩
structure Gr (O Z6:M):Prop where
 len:O.length<=Z6.length
 at_:∀j,j<O.length->Z6[j]?=O[j]?
def Gr.refl{O:M}:Gr O O:=⟨Xh _,fun _ _=>rfl⟩
def Gr.trans{O Z5 Z4:M}(h:Gr O Z5)(g:Gr Z5 Z4):Gr O Z4:=⟨XL h.len g.len,fun j hj=>(g.at_ j (XC hj h.len)).trans (h.at_ j hj)⟩
def Gr.get{j:Nat}{O Z6:M}{o:Option Z9}(h:Gr O Z6)(e:O[j]?=some o):Z6[j]?=some o:=(h.at_ j (Xi.mp e).1).trans e
def gr_app{O ex:M}:Gr O (O++ex):=⟨by simp,fun j hj=>Xv hj⟩
def Gr.setN{j:Nat}{O Z6:M}{o:Option Z9}(h:Gr O Z6)(hj:O.length<=j):Gr O (Z6.set j o):=⟨by simpa using h.len,fun i hi=>by
 rw[XQ (by omega)];exact h.at_ i hi⟩
end L3
namespace L2
open PySem PySem.Spec PyProof.Rows
end L2
namespace L3
open PySem PySem.Spec L2
def sr(f:Str)(d:D):List (Str×D)->List (Str×D)
 | []=>[(f,d)]
 |(g,e)::r=>if g=f then(g,d)::r else(g,e)::sr f d r
section
variable {K:Frag} {W:Wd}
theorem FR.get{f:Str}:∀{fs:List (Str×D)} {vs:List (Str×V)} {d:D},FR K W fs vs->fs.lookup f=some d->∃v,vs.lookup f=some v/\DR K W d v
 |_,_,_,.nil,h=>by cases h
 |(g,e)::r,(g',e')::r',d,.cons h t,q=>by
  obtain⟨h1,h2⟩:=h;have h1:g=g':=h1;subst h1;rw[XF] at q⊢;cases hb:f==g with
  |true=>rw[hb] at q;cases q;exact⟨e',rfl,h2⟩
  |false=>rw[hb] at q;exact FR.get t q
theorem FR.none{f:Str}:∀{fs:List (Str×D)} {vs:List (Str×V)},FR K W fs vs->fs.lookup f=none->vs.lookup f=none
 |_,_,.nil,h=>rfl
 |(g,e)::r,(g',e')::r',.cons h t,q=>by
  obtain⟨h1,h2⟩:=h;have h1:g=g':=h1;subst h1;rw[XF] at q⊢;cases hb:f==g with
  |true=>rw[hb] at q;cases q
  |false=>rw[hb] at q;exact FR.none t q
theorem FR.put{f:Str}{d:D}{v:V}(r:DR K W d v):∀{fs:List (Str×D)} {vs:List (Str×V)},FR K W fs vs->FR K W (sr f d fs) (sA f v vs)
 |_,_,.nil=>.cons ⟨rfl,r⟩ .nil
 |(g,e)::l,(g',e')::l',.cons h t=>by
  obtain⟨h1,h2⟩:=h;have h1:g=g':=h1;subst h1;simp only[sr,sA];split
  ·exact .cons ⟨rfl,r⟩ t
  ·exact .cons ⟨rfl,h2⟩ (FR.put r t)
theorem FR.len:∀{fs:List (Str×D)} {vs:List (Str×V)},FR K W fs vs->fs.length=vs.length
 |_,_,.nil=>rfl
 |_,_,.cons _ t=>by simp[FR.len t]
theorem DH{k:Nat}{C:Addr}{fs:List (Str×D)}{v:V}(ok:Ok K W)(h:W.O[k]?=some (some (.ins C fs)))(r:DR K W (.ref k) v):∃a dx vs,v=.ref a/\W.ρ[k]?=some a/\W.H a=some (.ins C dx vs)/\FR K W fs vs:=by
 cases r with
 |ref ha=>
  obtain⟨a',ho,h1,h2,vs,⟨dx,rfl⟩,r⟩:=ok.at_ k _ h;rw[ha] at h1;cases h1;exact(⟨_,dx,vs,rfl,ha,h2,r⟩)
end
structure FldC (K:Frag) (C:Addr) (f:Str):Prop where
 cl:Cls K C
 na:NoAttr K C f
def sW(C:Addr)(f:Str)(x:D)(O:M):Fr:=match x with
 | .ref k=>match O[k]? with
  |some (some (.ins C' fs))=>if C'=C then(fs.lookup f).bind fun d=>some (d,O) else none
  |_=>none
 |_=>none
def xJ(C:Addr)(f:Str)(eo ev:EV):SV:=fun B O=>(ev B O).bind fun p=>(eo B p.2).bind fun q=>match q.1 with
 | .ref k=>match q.2[k]? with
  |some (some (.ins C' fs))=>if C'=C/\fs.length<1000 then some (.nx,B,q.2.set k (some (.ins C (sr f p.1 fs)))) else none
  |_=>none
 |_=>none
section
variable {X:Cx} {K:Frag} {o e value:Expr} {es:List Expr} {f m:Str} {pos pos' apos p:Pos} {eo ev:EV} {el:LV} {C:Addr}
theorem vB(hC:FldC K C f)(he:PE X e (tD K eo))(hb:attributeBase e f X.env (eval e X.env)=eval e X.env:=by rfl)(hK:X.K=K:=by rfl):PE X (.Attribute e f pos) (tD K (v1 (sW C f) eo)):=by
 subst hK;refine rf (UB he hb) (xr ?_);intro W x d z Z6 Q ok r1 hf q;unfold sW at hf;split at hf
 ·split at hf
  ·rename_i k C' fs hk;split at hf
   ·rename_i hc;subst hc;obtain⟨d',hl,hf⟩:=bnd hf;cases hf;obtain⟨a,dx,vs,rfl,_,hh,hr⟩:=DH ok hk r1;obtain⟨v,hv,rv⟩:=hr.get hl;exact(⟨a,_,dx,vs,v,rfl,hh,hC.cl,hC.na,hv,q v W rfl ok .refl rv⟩)
   ·cases hf
  ·cases hf
 ·cases hf
theorem AD(hC:FldC K C f)(ho:PE X o (tD K eo))(hv:PE X value (tD K ev))(hs:swapsWith value (some (.Attribute o f pos')) pos.line X.env=pure false:=by rfl)(hK:X.K=K:=by rfl):PS X (.Assign [.Attribute o f pos'] value pos) (tDS K (xJ C f eo ev)):=by
 subst hK;refine sN (T2 ho hv hs) fun D J H h=>?_;refine el5 h fun W B out ZY Z6 eH ok en e q=>?_;subst eH;refine qC e fun p1 e1 e=>?_;refine qC e fun p2 e2 e=>?_;refine⟨W,B,p1.1,p1.2,rfl,ok,en,e1,fun y W1 ZL ok1 s1 r1=>⟨W1,B,p2.1,p2.2,rfl,ok1,en.step ok s1,by rw[ZL];exact e2,fun x W2 ZV ok2 s2 r2=>?_⟩⟩;split at e
 ·rename_i k hk;rw[hk] at r2;split at e
  ·rename_i C' fs hfs;split at e
   ·rename_i hc;obtain⟨hc,hl⟩:=hc;subst hc;cases e;rw[←ZV] at hfs;obtain⟨a,dx,vs,rfl,ha,hh,hr⟩:=DH ok2 hfs r2;have r1':=r1.step ok1 s2;have okp:=B1 (o:=.ins C' dx (sA f y vs)) (x:=.ins C' (sr f p1.1 fs)) ok2 hfs ha ⟨_,⟨dx,rfl⟩,hr.put r1'⟩;have sp:=wd (o:=.ins C' dx (sA f y vs)) (x:=.ins C' (sr f p1.1 fs)) hfs ha;refine⟨a,C',dx,vs,rfl,hh,hC.cl,hC.na,by rw[←hr.len];exact hl,?_⟩;exact q (W2.put k a (.ins C' dx (sA f y vs)) (.ins C' (sr f p1.1 fs))) J (by show W2.O.set _ _=_;rw[ZV]) okp ((s1.trans s2).trans sp) (((en.step ok s1).step ok1 s2).step ok2 sp)
   ·cases e
  ·cases e
 ·cases e
structure MtC (P:Program) (w:World) (K:Frag) (mg:Str->Option Value) (base:Heap) (CX:CXT) (k:Nat) (C:Addr) (m:Str) (ps:List Str) (sp:Sp):Prop where
 cl:Cls K C
 fn:∃f fd,Meth K C m f/\FnOk P w K mg base CX k f fd ps sp/\Binds K fd ps []
def noM(O:M)(C:Addr)(m:Str):D->Bool
 | .ref k=>match O[k]? with
  |some (some (.ins C' fs))=>decide (C'=C)&&(fs.lookup m).isNone
  |_=>false
 |_=>false
def vE(C:Addr)(m:Str)(g:C0)(eo:EV)(el:LV):EV:=fun B O=>(eo B O).bind fun p=>if noM p.2 C m p.1=true then(el B p.2).bind fun q=>g (p.1::q.1) q.2 else none
theorem WW{W:Wd}{d:D}{v:V}(ok:Ok K W)(h:noM W.O C m d=true)(r:DR K W d v):∃a dx fs,v=.ref a/\W.H a=some (.ins C dx fs)/\fs.lookup m=none:=by
 cases d with
 |ref k=>
  simp only[noM] at h;split at h
  ·rename_i C' fs hk;simp only[XE,X4,Option.isNone_iff_eq_none] at h;obtain⟨rfl,h2⟩:=h;obtain⟨a,dx,vs,e,_,hh,hr⟩:=DH ok hk r;exact(⟨a,dx,vs,e,hh,hr.none h2⟩)
  ·cases h
 |_=>cases h
theorem V7{g:C0}:∀J H Q,tD K (vE C m g eo el) J H Q->LK C m (spM K g) [] E0 (tD K eo) (tDL K el) J H Q:=fun J H Q h=>by
 refine el4 h fun W B d Z6 eH ok en e q=>?_;subst eH;refine qC e fun p1 e1 e=>?_;refine⟨W,B,p1.1,p1.2,rfl,ok,en,e1,fun x W1 ZL ok1 s1 r1=>?_⟩;split at e
 ·rename_i hn;refine qC e fun p2 e2 e=>?_;rw[←ZL] at hn;obtain⟨a,dx,fs,ex,hh,hl⟩:=WW ok1 hn r1;refine⟨a,dx,fs,ex,hh,hl,W1,B,p2.1,p2.2,rfl,ok1,en.step ok s1,by rw[ZL];exact e2,fun vs W2 ZV ok2 s2 r2=>?_⟩;show spM K g (x::(vs++[])) W2.H Q E0;rw[X0];exact⟨W2,p1.1::p2.1,d,Z6,rfl,ok2,.cons (r1.step ok1 s2) r2,by rw[ZV];exact e,fun v W3 ZS ok3 s3 r3=>q v W3 ZS ok3 ((s1.trans s2).trans s3) r3⟩
 ·cases e
theorem x3{k:Nat}{ps:List Str}{g:C0}{pl:Sem Bool}(M':MtC X.prog X.w X.K X.mg X.base CX0 k C m ps (spM K g))(hr:Room k X.A)(ho:PE X o (tD K eo))(ha:PA X (e::es) (tDL K el))
  (hst:starEach (e::es) X.env=(false,eval e X.env)::starEach es X.env:=by rfl) (hpl:(backTo pos (starEach es X.env)).any (·.1)=false:=by rfl)
  (ht:eval (.Call (.Attribute o m apos) (e::es) [] pos) X.env=(do
   let ov ←eval o X.env
   standAt apos.atName
   let (f,first) ←holding [ov] (getMethod ov m pl)
   callWith pos f first (backTo pos (starEach (e::es) X.env)) (backToKw pos (keywordEach [] X.env))):=by rfl):PE X (.Call (.Attribute o m apos) (e::es) [] pos) (tD K (vE C m g eo el)):=by
 obtain⟨f,fd,hm,F,hb⟩:=M'.fn;exact(rf (V5 ho M'.cl hm F hr hb .nil Ev ha hst hpl ht) V7)
structure MkC (P:Program) (w:World) (K:Frag) (mg:Str->Option Value) (base:Heap) (CX:CXT) (k:Nat) (C:Addr) (x:Str) (ps:List Str) (sp:Sp):Prop where
 mgx:mg x=some (.ref C)
 fn:∃f fd,Mk K C f/\FnOk P w K mg base CX k f fd ps sp/\Binds K fd ps []
def AZ(C:Addr)(g:C0)(el:LV):EV:=fun B O=>(el B O).bind fun p=>(g (.ref p.2.length::p.1) (p.2++[some (.ins C [])])).bind fun q=>match q.1 with
 | .non=>some (.ref p.2.length,q.2)
 |_=>none
theorem Q9{g:C0}:∀J H Q,tD K (AZ C g el) J H Q->Hu C (spM K g) [] E0 (tDL K el) J H Q:=fun J H Q h=>by
 refine el4 h fun W B d Z6 eH ok en e q=>?_;subst eH;refine qC e fun p1 e1 e=>?_;obtain⟨⟨d2,Z4⟩,e2,e⟩:=bnd e;refine(⟨W,B,p1.1,p1.2,rfl,ok,en,e1,fun vs W1 ZL ok1 s1 r1 x dx hx hdx hne=>?_⟩);rw[X0];have oka:=tf (o:=.own x) ok1 hdx;have sa:=rX (W:=W1) (o:=.own x) hdx;have hx2:(W1.lay dx (.own x)).H x=none:=by show upd W1.H dx _ x=none;rw[qW (Ne.symm hne)];exact hx
 have okb:=zH (x:=.ins C []) (o:=.ins C dx []) oka hx2 ⟨[],⟨dx,rfl⟩,.nil⟩;have sb:=vo (K:=K) (x:=.ins C []) (o:=.ins C dx []) oka hx2;have rb:=zJ (K:=K) (W:=W1.lay dx (.own x)) (p:=x) (o:=.ins C dx []) (x:=.ins C []) oka;have hl:(W1.lay dx (.own x)).O.length=p1.2.length:=by show W1.O.length=_;rw[ZL]
 rw[hl] at rb;cases d2 with
 |non=>
  have e:some (D.ref p1.2.length,Z4)=some (d,Z6):=e;obtain⟨hd,hm⟩:d=.ref p1.2.length/\Z6=Z4:=by cases e;exact⟨rfl,rfl⟩
  subst hd hm;refine⟨(W1.lay dx (.own x)).new x (.ins C dx []) (.ins C []),.ref p1.2.length::p1.1,.non,Z6,rfl,okb,.cons rb ((r1.step ok1 sa).step oka sb),?_,fun v W3 ZS ok3 s3 r3=>?_⟩
  ·show g _ (W1.O++_)=_;rw[ZL];exact e2
  ·cases r3;exact⟨rfl,q _ W3 ZS ok3 (((s1.trans sa).trans sb).trans s3) (rb.step okb s3)⟩
 |_=>cases e
theorem zyw{x:Str}{k:Nat}{ps:List Str}{g:C0}(M':MkC X.prog X.w X.K X.mg X.base CX0 k C x ps (spM K g))(hr:Room (k+1) X.A)(ha:PA X (e::es) (tDL K el))(hg:Gl X x:=by rfl)(hdb:(x==("__debug__":Str))=false:=by decide)
  (he:starEach (e::es) X.env=(false,eval e X.env)::starEach es X.env:=by rfl) (hpl:(backTo pos (starEach es X.env)).any (·.1)=false:=by rfl):PE X (.Call (.Name x p) (e::es) [] pos) (tD K (AZ C g el)):=by
 obtain⟨f,fd,mk,F,hb⟩:=M'.fn;exact(rf (Oz mk F hr hg M'.mgx hb .nil Ev ha hdb he hpl) Q9)
end
def dn(f:FX):C0:=fun ds O=>(f ds O).bind fun p=>match p.1 with
 | .ok d=>some (d,p.2)
 | .ex _=>none
section
variable {P:Program} {w:World} {K:Frag} {mg:Str->Option Value} {base:Heap} {k:Nat} {f:Addr} {fd:FuncData} {ps:List Str} {g:FX}
theorem M2:∀vs H Q E E',spM K (dn g) vs H Q E->spX K g vs H Q E':=fun vs H Q E E' h=>by
 obtain⟨W,ds,d,Z6,h1,h2,h3,e,q⟩:=h;obtain⟨⟨r,Z5⟩,e1,e⟩:=bnd e;cases r with
 |ok d'=>
  have e:some (d',Z5)=some (d,Z6):=e;obtain⟨rfl,rfl⟩:d'=d/\Z5=Z6:=by cases e;exact⟨rfl,rfl⟩
  exact⟨W,ds,.ok d',Z5,h1,h2,h3,e1,fun W' a b c v rv=>q v W' a b c rv⟩
 |ex C=>cases e
theorem SR(F:FnOk P w K mg base (CXr P w) k f fd ps (spX K g)):FnOk P w K mg base CX0 k f fd ps (spM K (dn g)):=by
 refine⟨fun vs H Q E h=>F.len vs H Q E (M2 vs H Q E E h),fun A outer s H args us vs Q E hr he hb hv hs=>?_⟩;refine codeAny_mono (F.run A outer s H args us vs Q (fun _ _ _=>False) hr he hb hv (M2 vs H Q E _ hs)) fun r s' h=>?_;cases r with
 |ok fl=>cases fl<;>exact h
 |error e=>
  obtain⟨a,C,H',Z8,_,_,z⟩:=h;exact(z.elim)
theorem Df.dn{x:Str}(D:DfX P w K mg base k x ps (spX K g)):Df P w K mg base k x ps (spM K (L3.dn g)):=let ⟨f,fd,F,r⟩:=D;⟨f,fd,SR F,r⟩
end
end L3
namespace L2
open PySem PySem.W PySem.Spec PyProof.Rows
end L2
namespace L3
open PySem PySem.Spec L2
end L3
namespace L2
open PySem PySem.W PySem.Spec PyProof.Rows
end L2
namespace L3
open PySem PySem.Spec L2
end L3
namespace L2
open PySem PySem.W PySem.Spec PyProof.Rows
end L2
namespace L3
open PySem PySem.Spec L2
open PyProof.Rows (envOfC)
end L3
namespace L2
open PySem PyProof.Rows
section
open PySem.SeqAt
open PySem.AutoSeq1 (wpAny_loadPart')
open PySem.MeetsSeq PySem.MeetsSeq2 PySem.MeetsSeq3
end
end L2
namespace L3
open PySem PySem.Spec L2
end L3
namespace L2
open PySem PySem.Spec PyProof.Rows
def slot_long_next:Slot "longrange_iterator" "__next__" "longrange_iterator.__next__":=
 .of (owner:="longrange_iterator") (n:="__next__") (by rw[typeLookup_type,builtinLookup_eq_fast];kernel_rfl) (by decide +kernel) (by decide +kernel) (by decide +kernel)
  (by first|exact .inl (by decide +kernel)|exact .inr (by decide +kernel)) (by rw[isSubtype_type];kernel_rfl)
def Sq:entryFor table "longrange_iterator.__next__"=some Builtin.«longrange_iterator.__next__»:=entryFor_of_tree (by kernel_rfl)
def JJ:Manifest.owners.lookup (String.ofList ['r','o','t','a','r','e','t','i','_','e','g','n','a','r','g','n','o','l'].reverse)=some Manifest.sig_longrange_iterator:=by kernel_rfl
def QN(a:Value):argsOk "longrange_iterator.__next__" ⟨[a],[]⟩:=by
 unfold argsOk;rw[signature?_of (id:="longrange_iterator.__next__") (n:=['_','_','t','x','e','n','_','_']) (o:=['r','o','t','a','r','e','t','i','_','e','g','n','a','r','g','n','o','l']) (by kernel_rfl) JJ];kernel_rfl
def Hi:Slot "longrange_iterator" "__iter__" "longrange_iterator.__iter__":=
 .of (owner:="longrange_iterator") (n:="__iter__") (by rw[typeLookup_type,builtinLookup_eq_fast];kernel_rfl) (by decide +kernel) (by decide +kernel) (by decide +kernel)
  (by first|exact .inl (by decide +kernel)|exact .inr (by decide +kernel)) (by rw[isSubtype_type];kernel_rfl)
def NU(a:Value):argsOk "longrange_iterator.__iter__" ⟨[a],[]⟩:=by
 unfold argsOk;rw[signature?_of (id:="longrange_iterator.__iter__") (n:=['_','_','r','e','t','i','_','_']) (o:=['r','o','t','a','r','e','t','i','_','e','g','n','a','r','g','n','o','l']) (by kernel_rfl) JJ];kernel_rfl
def PB:entryFor table "longrange_iterator.__iter__"=some Builtin.«dict_keyiterator.__iter__»:=
 entryFor_alias (id':="dict_keyiterator.__iter__") (by kernel_rfl) (by first|rfl|decide +kernel|(unfold String.splitOn;simp +decide [String.splitOnAux])) (by decide +kernel) (by kernel_rfl)
def B6(h:Heap)(it:Addr):Prop:=h.get? it=some {cls:=.type "longrange_iterator",dict:=none,data:=.fields #[rawInt 0,rawInt 0,rawInt 1],slots:=#[]}
section
variable {prog:Program} {w:World} {A:Around} {E:OK} {s:Shared}
theorem z99{r:Addr}{b:Int}{t u v:Tok}{Q:OK}(hr:IsRange s.heap r 0 b 1 t u v)(hb:b< -(2^62))(hsmall:Builtin.Range.small 0 b 1=false)
  (hQ:Q (.ref s.heap.objs.size) {s with heap:=s.heap.push {cls:=.type "longrange_iterator",data:=.fields #[rawInt 0,rawInt 0,rawInt 1]}}):
  wpAny (model prog w) A (pyIter (.ref r)) Q E s:=by
 have hT:s.TypeIs (.ref r) "range":=⟨_,hr,rfl⟩
 refine wpAny_pyIter_slot hT F.slot_range_iter (call_meets F.slot_range_iter hT F.entry_range_iter (F.args_range_iter_1 _)
  (AutoRange.range___iter___range_0 r 0 b 1 t u v (by unfold Builtin.Range.small at hsmall;rw[hsmall];rfl)) ⟨hr,?_⟩)
 unfold Builtin.Range.small at hsmall;have hz:Builtin.Range.rangeSize 0 b 1=0:=by rw[rangeSize_one];split<;>omega
 simp only[hsmall,XB,if_false];rw[hz];exact⟨"longrange_iterator",_,⟨_,Xp _ rfl,rfl⟩,slot_long_next.lookup,hQ⟩
theorem VB{it:Addr}{Q:OK}(hit:B6 s.heap it)(h:Q (.ref it) s):wpAny (model prog w) A (pyIter (.ref it)) Q E s:=by
 have hT:s.TypeIs (.ref it) "longrange_iterator":=⟨_,hit,rfl⟩
 refine wpAny_pyIter_slot hT Hi (wpAny_call_entry Hi hT PB ?_ (NU _));show wpAny _ _ (ret (.ref it)) _ _ s;exact Xj ⟨_,rfl,"longrange_iterator",_,hT,slot_long_next.lookup,h⟩
theorem UN{it:Addr}{Q:Option Value->Shared->Prop}(hh:A.handled=none)(hit:B6 s.heap it)
  (hQ:∀h',Heap.ExtBut it s.heap h'->Q none {s with heap:=h'}):wpAny (model prog w) A (pyNext (.ref it)) Q E s:=by
 have hT:s.TypeIs (.ref it) "longrange_iterator":=⟨_,hit,rfl⟩
 unfold pyNext;refine Xf (wpAny_attempt (wpAny_callSpecial?_slot (name:=Str.ofString "__next__") hT slot_long_next
  (wpAny_call_entry slot_long_next hT Sq ?_ (QN _))))
 unfold Builtin.«longrange_iterator.__next__»;wp_walk;simp only[raiseNew];refine Xf (wpAny_handled ?_);first|rw[show A.in1.handled=none from hh]|rw[hh]
 refine Xf (Xj (wpAny_throw ?_));refine Xf (wpAny_isInstance (T:="StopIteration") (b:=true) ⟨_,Xp _ rfl,rfl⟩ isSubtype_stop ?_);exact Xj (hQ _ (((Heap.ExtBut.refl it s.heap).push _).push _))
end
theorem QL{P:Program}{w:World}{K:Frag}{tg:Expr}(it:Addr):Turn P w K tg (Itr 0 0) [it] it (fun _ h=>B6 h it) where
 mem:=by simp
 obj:=fun i h st b hb=>by
  have e:b=it:=by simpa using hb
  subst e;exact⟨_,st,fun v z=>by
   have z':Data.fields _=Data.cell v:=z;cases z'⟩
 keep:=fun i h h' st k=>k it (by simp) _ st
 item:=by
  intro X hP hw hK hc i pins s J H E I hf st hg;exact absurd (show i<0 from hg) (Nat.not_lt_zero _)
 done:=by
  intro X hP hw hK hc i pins s J H E I hf st hg;subst hP hw hK;obtain⟨f0,f1,f2,f3,f4,f5⟩:=hf it (by simp);exact(UN (I.ok.hd hc) st fun h' eb=>⟨rfl,I.turned (t':=s.toks) (fun b o hb e=>eb b o hb e) f0 f1 f3 f4 f5⟩)
 self:=fun _ _ _ _ _ st h=>VB st h
section
variable {X:Cx} {tg:Expr}
theorem PR{pins:QS}{J:St}{H:Hp}{s:Shared}{R:It->Hp->Prop}{E:OK}{hi:Int}{t u v:Tok}{tk:Nat}(I:Inv X pins J H s)(h3:hi< -(2^62))(hs:Builtin.Range.small 0 hi 1=false)
  (q:R (Itr 0 0) H):wpAny (model X.prog X.w) X.A (pyIter (.ref s.heap.objs.size)) (PIE X pins J tg R) E {s with heap:=s.heap.push {cls:=.type "range",data:=.fields #[.int 0 t,.int hi u,.int 1 v]},toks:=tk}:=by
 refine z99 (IsRange.new ..) h3 hs ?_;have I1:Inv X pins J H {s with heap:=s.heap.push {cls:=.type "range",data:=.fields #[.int 0 t,.int hi u,.int 1 v]},toks:=tk}:=I.kept fun b o e=>Xg _ e;refine⟨(s.heap.push {cls:=.type "range",data:=.fields #[.int 0 t,.int hi u,.int 1 v]}).objs.size,[(s.heap.push {cls:=.type "range",data:=.fields #[.int 0 t,.int hi u,.int 1 v]}).objs.size],_,_,H,rfl,
  I1.kept (t':=tk) fun b o e=>Xg _ e,QL _,?_,fun b hb=>?_,q⟩
 ·exact Xp _ rfl
 ·have e:b=(s.heap.push {cls:=.type "range",data:=.fields #[.int 0 t,.int hi u,.int 1 v]}).objs.size:=by simpa using hb
  subst e;exact I1.fpOk (Xh _) (I1.hok.fresh (Xh _))
theorem Uc{pins:QS}{J:St}{H:Hp}{s:Shared}{R:It->Hp->Prop}{E:OK}{hi:Int}{t u v:Tok}{tk:Nat}(I:Inv X pins J H s)(h3:hi< -(2^62))(hs:Builtin.Range.small 0 hi 1=true)
  (q:R (Itr 0 0) H):wpAny (model X.prog X.w) X.A (pyIter (.ref s.heap.objs.size)) (PIE X pins J tg R) E {s with heap:=s.heap.push {cls:=.type "range",data:=.fields #[.int 0 t,.int hi u,.int 1 v]},toks:=tk}:=by
 refine wpAny_pyIter_range (IsRange.new ..) hs ?_;have I1:Inv X pins J H {s with heap:=s.heap.push {cls:=.type "range",data:=.fields #[.int 0 t,.int hi u,.int 1 v]},toks:=tk}:=I.kept fun b o e=>Xg _ e;refine⟨(s.heap.push {cls:=.type "range",data:=.fields #[.int 0 t,.int hi u,.int 1 v]}).objs.size,[(s.heap.push {cls:=.type "range",data:=.fields #[.int 0 t,.int hi u,.int 1 v]}).objs.size],_,_,H,rfl,
  I1.kept (t':=tk) fun b o e=>Xg _ e,Nc _ 0 0,?_,fun b hb=>?_,q⟩
 ·have e1:(0:Int)+((0:Nat):Int)*1=0:=by simp
  have e2:(((0:Nat):Nat):Int) - ((0:Nat):Int)=Builtin.Range.rangeSize 0 hi 1:=by rw[rangeSize_one];split<;>omega
  show IsRangeIter _ _ (0+((0:Nat):Int)*1) (((0:Nat):Int) - ((0:Nat):Int)) 1;rw[e1,e2];exact Xp _ rfl
 ·have e:b=(s.heap.push {cls:=.type "range",data:=.fields #[.int 0 t,.int hi u,.int 1 v]}).objs.size:=by simpa using hb
  subst e;exact I1.fpOk (Xh _) (I1.hok.fresh (Xh _))
def S7(ta:TA):TI:=fun J H R=>ta J H fun vs H1=>∃j:Int,vs=[.int j]/\j<2^62/\R (Itr 0 j.toNat) H1
theorem NM{a:Expr}{ta:TA}{p pos:Pos}(hg:Gl X "range") (hm:X.mg "range"=none) (ha:PA X [a] ta) (hs:starEach [a] X.env=[(false,eval a X.env)]:=by rfl):PI X tg (.Call (.Name "range" p) [a] [] pos) (S7 ta):=by
 intro pins s J H R I h;refine Call_ (wq I hg hm boot_range (Ya (thn (ha pos pins s J H _ I h) fun us s1 hm=>?_) hs rfl));obtain⟨vs,H1,I1,r1,q1⟩:=hm;obtain⟨j,e,q2,q⟩:=q1;subst e;cases r1 with
 |cons r rr=>
  cases rr;obtain⟨t,rfl⟩:=r;by_cases hj:-(2^62)<=j
  ·exact call_range_1 (CV I1 (by omega) (by omega) hj q2 (by simpa using q))
  ·have e0:j.toNat=0:=by omega
   rw[e0] at q;cases hsm:Builtin.Range.small 0 j 1 with
   |false=>exact call_range_1 (PR I1 (by omega) hsm q)
   |true=>exact call_range_1 (Uc I1 (by omega) hsm q)
end
end L2
namespace L3
open PySem PySem.Spec L2
section
variable {X:Cx} {K:Frag} {ea:EV} {pos:Pos}
def zu(ea:EV):IV:=fun B O=>(ea B O).bind fun p=>match p.1 with
 | .int j=>if j<=1000000000 then some ((rl 0 j.toNat,none),p.2) else none
 |_=>none
theorem TX(mr:X.mg "range"=none) {tg a:Expr} {p:Pos} (ha:PE X a (tD K ea)) (hg:Gl X "range":=by rfl) (hs:starEach [a] X.env=[(false,eval a X.env)]:=by rfl):PI X tg (.Call (.Name "range" p) [a] [] pos) (tDI K (zu ea)):=x8 (NM hg mr (sq ha sV hs) hs) fun J H R h=>by
 refine el5 h fun W B its c Z6 eH ok en e q=>?_;subst eH;refine qC e fun p1 e1 e=>?_;split at e
 ·rename_i j hj;split at e
  ·rename_i hb;cases e;refine⟨W,B,p1.1,p1.2,rfl,ok,en,e1,fun v W1 Z2 ok1 s1 r1=>?_⟩;rw[hj] at r1;cases r1;exact⟨j,rfl,by omega,q _ W1 Z2 ok1 s1 DL⟩
  ·cases e
 ·cases e
theorem Vy{B:G}{O Z5:M}{j:Int}(h:ea B O=some (.int j,Z5))(hj:j<=1000000000):zu ea B O=some ((rl 0 j.toNat,none),Z5):=by
 unfold zu;rw[h];show(if j<=1000000000 then _ else _)=_;rw[if_pos hj]
end
def Wd.ice(W:Wd)(k:Nat)(d:Addr)(u:HO):Wd:=⟨W.ρ,W.O.set k none,upd W.H d u,W.hid⟩
section
variable {K:Frag} {W:Wd} {k:Nat} {d:Addr} {x:Z9} {u:HO}
theorem Tn{a:Addr}(h:RL (W.ice k d u) a):∃j o,j≠k/\W.O[j]?=some (some o)/\W.ρ[j]?=some a:=by
 obtain⟨j,o,h1,h2⟩:=h;have h1:(W.O.set k none)[j]?=some (some o):=h1;by_cases e:j=k
 ·subst e;rw[List.getElem?_set] at h1;simp at h1
 ·rw[XQ (Ne.symm e)] at h1;exact⟨j,o,e,h1,h2⟩
theorem Bl(hk:W.O[k]?=some (some x))(ha:W.ρ[k]?=some d):Step W (W.ice k d u) where
 ρ _ _ h:=h
 live a h:=let ⟨j,o,_,h1,h2⟩:=Tn h;.inl ⟨j,o,h1,h2⟩
 keep a o e n:=by
  show upd W.H d u a=_;have hne:a≠d:=fun z=>n ⟨k,x,hk,by rw[z];exact ha⟩;rw[qW hne];exact e
 hid:=rfl
 still a h:=by
  show upd W.H d u a≠none;by_cases z:a=d
  ·subst z;rw[rQ];simp
  ·rw[qW z];exact h
theorem T1(ok:Ok K W)(hk:W.O[k]?=some (some x))(ha:W.ρ[k]?=some d):Ok K (W.ice k d u) where
 len:=by show W.ρ.length=(W.O.set k none).length;rw[YD];exact ok.len
 nd:=ok.nd
 rs a m:=(Bl (u:=u) hk ha).still a (ok.rs a m)
 at_ j o e:=by
  have e:(W.O.set k none)[j]?=some (some o):=e;have hj:j≠k:=fun z=>by subst z;rw[List.getElem?_set] at e;simp at e
  rw[XQ (Ne.symm hj)] at e;obtain⟨a,ho,h1,h2,h3⟩:=ok.at_ j o e;have hne:a≠d:=fun z=>by
   subst z;obtain⟨l1,g1⟩:=Xi.mp h1;obtain⟨l2,g2⟩:=Xi.mp ha;have hn:=Yh.mp ok.nd;rcases Nat.lt_trichotomy j k with z|z|z
   ·exact hn j k l1 l2 z (g1.trans g2.symm)
   ·exact hj z
   ·exact hn k j l2 l1 z (g2.trans g1.symm)
  refine⟨a,ho,h1,by show upd W.H d u a=_;rw[qW hne];exact h2,?_⟩;have st:=Bl (W:=W) (u:=u) hk ha;cases o with
  |lst ds=>obtain⟨vs,e,q⟩:=h3;exact⟨vs,e,q.step ok st⟩
  |dK kvs=>obtain⟨vs,e,q⟩:=h3;exact⟨vs,e,Paired.mapP q fun _ _ ⟨e,q⟩=>⟨e,q.step ok st⟩⟩
  |dN kvs=>obtain⟨vs,e,q⟩:=h3;exact⟨vs,e,Paired.mapP q fun _ _ ⟨e,q⟩=>⟨e,q.step ok st⟩⟩
  |ins C fs=>obtain⟨vs,e,q⟩:=h3;exact⟨vs,e,Paired.mapP q fun _ _ ⟨e,q⟩=>⟨e,q.step ok st⟩⟩
  |exc C=>exact h3
 hd0 a z:=⟨(Bl (u:=u) hk ha).still a (ok.hd0 a z).1,(ok.hd0 a z).2⟩
end
def z4:Key->D
 | .inl i=>.int i
 | .inr x=>.str x
def Vn{K:Frag}{W:Wd}(k:Key):DR K W (z4 k) (kV k):=by
 cases k with
 |inl i=>exact .int i
 |inr x=>exact .str x
def KR.get{K:Frag}{W:Wd}{kvs:List (Key×D)}{vs:List (Key×V)}(r:KR K W kvs vs):∀{i:Nat} {k:Key} {d:D} {k':Key} {v:V},kvs[i]?=some (k,d)->vs[i]?=some (k',v)->k=k'/\DR K W d v:=by
 induction r with
 |nil=>intro i k d k' v h;simp at h
 | @cons a b l r hd tl ih=>
  intro i k d k' v h h2;cases i with
  |zero=>
   simp at h h2;subst h h2;exact hd
  |succ i=>exact ih (by simpa using h) (by simpa using h2)
def AM(own:List Str)(cap:List (Str×Nat))(eo:EV)(g:GV)(tc:BV)(tk tv:EV):EV:=fun B O=>(eo B O).bind fun s=>(sB s.2 s.1).bind fun kvs=>match s.1 with
 | .ref n=>chk (kvs.length<=1000000) ((uS s.2.length none g tc tk tv (kvs.map fun kv=>.tup [z4 kv.1,kv.2]) (rB own cap B) (s.2.set n none++[some (.dK [])])).bind fun Z6=>some (.ref s.2.length,Z6))
 |_=>none
section
variable {X:Cx} {K:Frag} {N' own:List Str} {cap:List (Str×Nat)} {scope:Scope} {kx vx o:Expr} {ifs elts:List Expr} {pos apos cpos tpos:Pos} {eo:EV} {g:GV} {tc:BV} {tk tv:EV} {n:Nat}
theorem zgl{W1:Wd}{Z7:It}{its:List D}{c:Ck}{ZG:G}{ZN:St}{Z6:M}{p:Addr}{Z:Hp->Prop}(ok1:Ok K W1)(hp:W1.H p=none)(jr:q0 c W1.O/\∀(W2:Wd) (i:Nat),Ok K W2->q0 c W2.O->Step W1 W2->(its.length<=i->Z7.stop i W2.H)/\∀d,its[i]?=some d->Z7.go i W2.H/\∀x H',Z7.yld i W2.H x H'->∃W3,W3.H=H'/\W3.O=W2.O/\Ok K W3/\Step W2 W3/\DR K W3 d x)(en:EnvR K W1 ZG ZN)
  (c0:q0 c (W1.O++[some (.dK [])])) (e:uS W1.O.length c g tc tk tv its ZG (W1.O++[some (.dK [])])=some Z6) (hZ:∀W',W'.O=Z6->Ok K W'->Step W1 W'->DR K W' (.ref W1.O.length) (.ref p)->Z W'.H):
  Bm Z7 (tDG K g) (tDB K tc) (tD K tk) (tD K tv) p ZN W1.H Z:=by
 obtain⟨c1,hj⟩:=jr;have ok0:=zH (x:=.dK []) (o:=.dK []) ok1 hp ⟨[],rfl,.nil⟩;have s0:=vo (K:=K) (x:=.dK []) (o:=.dK []) ok1 hp;have r0:=zJ (K:=K) (W:=W1) (p:=p) (o:=.dK []) (x:=.dK []) ok1;obtain⟨P,hP⟩:∃P:Nat->St->Hp->Prop,∀i ZX H2,P i ZX H2↔(i<=its.length/\∃W2 ZW,W2.H=H2/\Ok K W2/\Step (W1.new p (.dK []) (.dK [])) W2/\EnvR K W2 ZW ZX/\q0 c W2.O/\uS W1.O.length c g tc tk tv (its.drop i) ZW W2.O=some Z6):=⟨_,fun _ _ _=>Iff.rfl⟩
 refine⟨fun i m ZX H2=>m=its.length - i/\P i ZX H2,?_,?_⟩
 ·exact⟨its.length,by simp,(hP _ _ _).2 ⟨Ye _,W1.new p (.dK []) (.dK []),ZG,rfl,ok0,.refl,en.step ok1 s0,c0,e⟩⟩
 rintro i m ZX H2 ⟨rfl,hi⟩;refine bq fun hG=>?_;obtain⟨hi,W2,ZW,rfl,ok2,s2,en2,c2,e2⟩:=(hP _ _ _).1 hi;obtain⟨hstop,hgo⟩:=hj W2 i ok2 c2 (s0.trans s2);by_cases hlt:i<its.length
 ·have hd:its[i]?=some its[i]:=Xm hlt;obtain⟨h1,h2⟩:=hgo _ hd;rw[XS hlt] at e2;refine qC e2 fun pg e3 e2=>?_;refine qC e2 fun pt e4 e2=>?_;refine(hG (.inr ⟨h1,P (i+1),fun Z0 H' hN=>⟨its.length - (i+1),by omega,rfl,hN⟩,fun x H' hy=>?_⟩));refine bq fun hF=>?_;obtain⟨W3,rfl,ZS,ok3,s3,r3⟩:=h2 x H' hy;refine hF ⟨W3,ZW,its[i],pg.1,pg.2,rfl,ok3,en2.step ok2 s3,r3,by rw[ZS];exact e3,fun W4 ZP ZC ok4 s4 en4=>⟨W4,pg.1,pt.1,pt.2,rfl,ok4,en4,by rw[ZC];exact e4,fun W5 ZO ok5 s5=>?_⟩⟩;have s25:=s3.trans (s4.trans s5);split at e2
  ·rename_i ht;refine qC e2 fun py e5 e2=>?_;refine qC e2 fun pv e6 e2=>?_;refine qC e2 fun k e7 e2=>?_;refine qC e2 fun kvs e8 e2=>?_;obtain⟨⟨hl,c5⟩,e2⟩:=Fj e2;refine(wx (fun _=>?_) (fun n=>absurd ht n));refine⟨W5,pg.1,py.1,py.2,rfl,ok5,en4.step ok4 s5,by rw[ZO];exact e5,fun y W6 Zv ok6 s6 r6=>⟨W6,pg.1,pv.1,pv.2,rfl,ok6,(en4.step ok4 s5).step ok5 s6,by rw[Zv];exact e6,fun v W7 Zo ok7 s7 r7=>?_⟩⟩;have s27:=(s25.trans s6).trans s7;rw[←Zo] at e8;have rp:DR K W7 (.ref W1.O.length) (.ref p):=(r0.step ok0 s2).step ok2 s27;obtain⟨n,a,us,hd,hv,hk,ha,hh,hs⟩:=yG ok7 e8 rp;cases hd;cases hv;obtain⟨o8,s8⟩:=JN (vs':=rV us k v) (kvs':=tH kvs k pv.1) ok7 hk ha (hs.put k r7);exact⟨us,k,hh,zq (by rw[←hs.len];omega),Fi e7 (r6.step ok6 s7),(hP _ _ _).2 ⟨hlt,W7.put W1.O.length p (.dK (rV us k v)) (.dK (tH kvs k pv.1)),pg.1,rfl,o8,(s2.trans s27).trans s8,(((en4.step ok4 s5).step ok5 s6).step ok6 s7).step ok7 s8,by show q0 c (W7.O.set _ _);rw[Zo];exact c5,by show uS _ c g tc tk tv _ _ (W7.O.set _ _)=_;rw[Zo];exact e2⟩⟩
  ·rename_i ht;refine uy e2 fun c5 e2=>?_;refine wx (fun n=>absurd n ht) (fun _=>?_);exact(hP _ _ _).2 ⟨hlt,W5,pg.1,rfl,ok5,s2.trans s25,en4.step ok4 s5,by rw[ZO];exact c5,by rw[ZO];exact e2⟩
 ·have e':i=its.length:=by omega
  subst e';rw[X5 (Xh _)] at e2;cases e2;exact hG (.inl ⟨hstop (Xh _),hZ W2 rfl ok2 (s0.trans s2) (r0.step ok0 s2)⟩)
theorem Oh(S:CompScope X N' own cap scope)(ho:PE X o (tD K eo))
  (hg:∀cl C Z3 Z1 ex,PG (qM X N' scope cl C Z3 Z1 ex) (.Tuple elts n tpos) (tDG K g)) (ht:∀cl C Z3 Z1 ex,PIf (qM X N' scope cl C Z3 Z1 ex) ifs (tDB K tc)) (hk:∀cl C Z3 Z1 ex,PE (qM X N' scope cl C Z3 Z1 ex) kx (tD K tk)) (hv:∀cl C Z3 Z1 ex,PE (qM X N' scope cl C Z3 Z1 ex) vx (tD K tv))
  (hx:∀e s,X.xe e s->False:=by exact fun _ _ z=>z) (hc:X.calm=true:=by rfl) (hs:∀x,foldedSetIterable (.Call (.Attribute o "items" apos) [] [] cpos) X.env x=pure x:=by intro _;rfl)
  (hbase:attributeBase o "items" X.env (eval o X.env)=eval o X.env:=by rfl) (hline:(apos.endLine==cpos.line)=true:=by rfl) (hK:X.K=K:=by rfl):
  PE X (.DictComp kx vx [⟨.Tuple elts n tpos,.Call (.Attribute o "items" apos) [] [] cpos,ifs,0⟩] scope pos) (tD K (AM own cap eo g tc tk tv)):=rf (Uk S (P0 (Vz K ho hbase hline hK)) hg ht hk hv hx hc hs) fun J H Q h=>by
 refine el4 h fun W B d Z6 eH ok en e q=>?_;subst eH;refine qC e fun p1 e1 e=>?_;refine qC e fun kvs e2 e=>?_;refine⟨W,B,p1.1,p1.2,rfl,ok,en,e1,fun x W1 ZL ok1 s1 r1=>?_⟩;rw[←ZL] at e2;obtain⟨k,a,vs,hd,rfl,hk1,ha1,hh,hs1⟩:=yG ok1 e2 r1;rw[hd] at e;refine uy e fun hl e=>?_;refine qC e fun Z4 e3 e=>?_;cases e;refine(⟨CP ok1 e2 r1,a,vs,rfl,rfl,hh,fun v hv=>?_⟩);have hav:a≠v:=fun z=>by rw[z,hv] at hh;cases hh
 refine⟨v,a,vs,rfl,rQ,by rw[qW hav];exact hh,fun ob p hp=>?_⟩;have okL:=tf (o:=viO v a) ok1 hv;have stL:=rX (W:=W1) (o:=viO v a) hv;have hkL:(W1.lay v (viO v a)).O[k]?=some (some (.dK kvs)):=hk1;have haL:(W1.lay v (viO v a)).ρ[k]?=some a:=ha1;have okI:=T1 (u:=.frz ob (.dK vs)) okL hkL haL;have stI:=Bl (W:=W1.lay v (viO v a)) (u:=.frz ob (.dK vs)) hkL haL;have krI:KR K ((W1.lay v (viO v a)).ice k a (.frz ob (.dK vs))) kvs vs:=Paired.mapP hs1 fun _ _ ⟨e,q⟩=>⟨e,(q.step ok1 stL).step okL stI⟩
 have hfI:((W1.lay v (viO v a)).ice k a (.frz ob (.dK vs))).H a=some (.frz ob (.dK vs)):=rQ;generalize hWI:(W1.lay v (viO v a)).ice k a (.frz ob (.dK vs))=WI at okI stI krI hfI;have Ze:WI.O=p1.2.set k none:=by rw[←hWI];show W1.O.set k none=_;rw[ZL]
 have hHI:WI.H=upd (upd W1.H v (viO v a)) a (.frz ob (.dK vs)):=by rw[←hWI];rfl
 have hlen:p1.2.length=WI.O.length:=by rw[Ze,YD]
 have stA:=(s1.trans stL).trans stI;rw[←hHI] at hp⊢;refine zgl (c:=none) (its:=kvs.map fun kv=>.tup [z4 kv.1,kv.2]) (ZG:=rB own cap B) okI hp ⟨trivial,fun W2 i ok2 _ s2=>?_⟩ ((en.step ok stA).cap own cap) trivial (Z6:=Z6) (by rw[←hlen,Ze];exact e3) fun W' h1 h2 h3 h4=>?_
 ·have hf2:W2.H a=some (.frz ob (.dK vs)):=s2.keep _ _ hfI (okI.nofrz hfI);have kr2:KR K W2 kvs vs:=Paired.mapP krI fun _ _ ⟨e,q⟩=>⟨e,q.step okI s2⟩
  refine⟨fun hi=>⟨hf2,by rw[Xn,krI.len] at hi;exact hi⟩,fun dd hdd=>?_⟩;rw[XA] at hdd;cases hkv:kvs[i]? with
  |none=>rw[hkv] at hdd;cases hdd
  |some kv=>
   rw[hkv] at hdd;simp at hdd;subst hdd;have hi:i<vs.length:=by rw[←krI.len];exact(Xi.mp hkv).1
   refine⟨⟨hf2,hi⟩,fun x H' hy=>?_⟩;obtain⟨pp,kk,vv,rfl,hpn,rfl,hvs⟩:=hy;obtain⟨ek,rv⟩:=kr2.get (k:=kv.1) (d:=kv.2) hkv hvs;refine(⟨W2.lay pp (.tup [kV kk,vv]),rfl,rfl,tf ok2 hpn,rX hpn,?_⟩);rw[ek];exact w9 ok2 hpn (.cons (Vn kk) (.cons rv .nil))
 ·refine q _ W' h1 h2 (stA.trans h3) ?_;rw[hlen];exact h4
end
end L3
namespace L2
open PySem PySem.Spec PyProof.Rows
section
open PySem.SeqAt
open PySem.AutoSeq1 (wpAny_loadPart')
open PySem.MeetsSeq PySem.MeetsSeq2 PySem.MeetsSeq3 PySem.SeqRoads2
theorem R5(l:Addr)(items:Array Value)(n:Nat)(dd:Option Addr)(sl:Array (Option Value))(x:Value)(e:Nat->Bool)(k:Nat):
  ∀i:Nat,items.size - i=k->Meets (Builtin.«list.__contains__.loop» ⟨[.ref l,x,rawInt i],[]⟩)
   (fun A R s=>s.heap.get? l=some {cls:=.type "list",dict:=dd,data:=.seq items n,slots:=sl}/\(∀j (h:j<items.size),EqAt A.in1 s items[j] x (e j))/\R (.ok (.ret (.bool (((List.range items.size).drop i).any e)))) s):=by
 induction k with
 |zero=>
  intro i hk prog w A R s h;obtain⟨hp,g,d,tk,os⟩:=s;obtain⟨hl,he,h⟩:=h;wp_walk using YC hl;have hi:items[((i:Nat):Int).toNat]?=none:=by simp;omega
  have hd:(List.range items.size).drop i=[]:=by simp;omega
  rw[hd] at h;rw[hi];wp_walk;exact h
 |succ k ih=>
  intro i hk prog w A R s h;obtain⟨hp,g,d,tk,os⟩:=s;obtain⟨hl,he,h⟩:=h;wp_walk using YC hl;have hlt:i<items.size:=by omega
  have hi:items[((i:Nat):Int).toNat]?=some items[i]:=by simp[hlt]
  have hd:(List.range items.size).drop i=i::(List.range items.size).drop (i+1):=by simp[XS,hlt]
  rw[hd,Yt] at h;rw[hi];refine Xf (he i hlt prog w _ _ ?_);cases hb:e i with
  |true=>
   rw[hb] at h;wp_walk;exact h
  |false=>
   rw[hb] at h;have hc:((i:Int)+1)=((i+1:Nat):Int):=by push_cast;rfl
   wp_walk;rw[hc];exact⟨YI plain_contains_loop _,YE entry_contains_loop (by
    rw[Yj plain_contains_loop _];exact ih (i+1) (by omega) prog w A R _ ⟨hl,he,by simpa using h⟩)⟩
theorem Vj(l:Addr)(items:Array Value)(n:Nat)(dd:Option Addr)(sl:Array (Option Value))(x:Value)(e:Nat->Bool):
  Meets (Builtin.«list.__contains__» ⟨[.ref l,x],[]⟩)
   (fun A R s=>s.heap.get? l=some {cls:=.type "list",dict:=dd,data:=.seq items n,slots:=sl}/\(∀j (h:j<items.size),EqAt A.in1 s items[j] x (e j))/\R (.ok (.ret (.bool ((List.range items.size).any e)))) s):=by
 intro prog w A R s h;obtain⟨hp,g,d,tk,os⟩:=s;obtain⟨hl,he,h⟩:=h;wp_walk using YC hl;exact⟨YI plain_contains_loop _,YE entry_contains_loop (by
  rw[Yj plain_contains_loop _];exact R5 l items n dd sl x e _ 0 rfl prog w A R _ ⟨hl,he,by simpa using h⟩)⟩
theorem zo6{prog:Program}{w:World}{A:Around}{E:OK}{s:Shared}{l:Addr}{items:Array Value}{x:Value}{Q:OK}(e:Nat->Bool)(hl:s.heap.IsList l items)(he:∀j (h:j<items.size),EqAt A.in1 s items[j] x (e j))
  (h:Q (.bool ((List.range items.size).any e)) s):wpAny (model prog w) A (compareOp .In x (.ref l)) Q E s:=by
 obtain⟨⟨cls,dd,data,sl⟩,ho,hc,n,hd⟩:=id hl;simp only at hc hd;subst hc hd;exact in_meets ⟨_,ho,rfl⟩ F.slot_list_contains F.entry_list_contains (F.args_list_contains_2 _ _) (Vj l items n dd sl x e) ⟨ho,he,_,rfl,h⟩
end
theorem Mz:∀{ds:List PyData} {i:Nat} {d:PyData},PyData.canLayAll0 ds=true->ds[i]?=some d->d.canLay0=true
 | [],i,d,_,h=>by simp at h
 |a::r,0,d,hl,h=>by simp[PyData.canLayAll0] at hl;simp at h;subst h;exact hl.1
 |a::r,i+1,d,hl,h=>by simp[PyData.canLayAll0] at hl;simp at h;exact Mz hl.2 h
def Tv{X:Cx}(hu:X.A.units+64<cLine):OpR X (compareOp .In) (fun x y H Q=>∃p xs ds d,y=.ref p/\SqL X.K H p xs/\Dps X.K H xs ds/\Dp X.K H x d/\(PyData.canLayAll0 ds&&d.canLay0&&decide (d.depth<=60))=true/\Q (.bl (ds.any fun e=>PyData.eqv e d)) H):=by
 intro pins s J H x y v u Q I rx ry h;obtain⟨p,xs,ds,d,rfl,hq,hs,hd,hc,q⟩:=h;simp only[XE,X4] at hc;cases ry;obtain⟨its,rv,pl,hz⟩:=I.list hq;obtain⟨as,r1⟩:=hd.reads I rx;have hl:=rv.length;have hl2:=hs.len;refine(zo6 (fun j=>PyData.eqv (ds.getD j .none) d) pl.isList (fun j hj=>?_) ?_)
 ·have hj':j<its.length:=by simpa using hj
  have hx:xs[j]?=some (xs[j]'(by omega)):=Xm (by omega);obtain⟨e,he,hde⟩:=hs.get hx;obtain⟨w,hw,rw'⟩:=rv.get hx;obtain⟨bs,r2⟩:=hde.reads I rw';have e1:its.toArray[j]=w:=by
   have:its[j]?=some (its[j]'hj'):=Xm hj';rw[this] at hw;cases hw;simp
  have e2:ds.getD j .none=e:=by simp[Xk,he]
  rw[e1,e2];refine SeqAt.eqAt_reads e d _ s _ _ _ _ r2 r1 (Mz hc.1.1 he) hc.1.2 ?_;have:X.A.in1.units<=X.A.units+1:=by simp[Around.in1]
  have:=Nat.min_le_right e.depth d.depth;omega
 ·have e:(List.range its.toArray.size).any (fun j=>PyData.eqv (ds.getD j .none) d)=ds.any fun e=>PyData.eqv e d:=by
   have hsz:its.toArray.size=ds.length:=by simp;omega
   rw[hsz,Yg];simp only[Yl,XT];constructor
   ·rintro⟨j,hj,e⟩;exact⟨ds[j],X3 _,by simpa[Xk,Xm hj] using e⟩
   ·rintro⟨e,hm,he⟩;obtain⟨j,hj⟩:=Yf hm;exact(⟨j,(Xi.mp hj).1,by simpa[Xk,hj] using he⟩)
  rw[e];exact⟨.bl _,H,I,rfl,q⟩
section
variable {X:Cx} {N' own:List Str} {cap:List (Str×Nat)} {scope:Scope} {tg iter elt:Expr} {ifs:List Expr} {pos:Pos} {wi:TI} {g:TG} {tc:TT} {te:TE}
theorem N6(S:CompScope X N' own cap scope)(hi:PI X tg iter wi)
  (hg:∀cl C Z3 Z1 ex,PG (qM X.nox N' scope cl C Z3 Z1 ex) tg g) (ht:∀cl C Z3 Z1 ex,PIf (qM X.nox N' scope cl C Z3 Z1 ex) ifs tc) (he:∀cl C Z3 Z1 ex,PE (qM X.nox N' scope cl C Z3 Z1 ex) elt te)
  (hc:X.calm=true:=by rfl) (hs:∀x,foldedSetIterable iter X.env x=pure x:=by intro _;rfl):
  PE X (.ListComp elt [⟨tg,iter,ifs,0⟩] scope pos) (MY own cap wi g tc te):=by
 intro pins s J H Q I h;rw[eval_ListComp];obtain⟨cl,hcl,c1,c2⟩:=zF (scope:=scope) (env:=X.env) fun y hy hk=>I.ok.has y.1 (S.free y hy hk);refine(Yu (use:=none) rfl hs hcl S.kind S.names (thn (hi pins s J H _ I h) fun v s1 h1=>thn h1 fun itv s2 h2=>?_));obtain⟨it,fp,tn,Z7,H2,e,I2,T,st2,f2,q⟩:=h2;subst e;have S':CompScope X.nox N' own cap scope:=⟨S.kind,S.own1,S.free1,S.names,S.free,S.eq,S.cap⟩
 refine(Hs (X:=X.nox) (RR:=fun acc C=>compPost (model X.prog X.w) X.A X.xe none (EP X pins J Q) acc C) (Z:=fun D=>Q (.ref D)) (fun _ _ z=>z) hc S' hg ht he (I2.wish _) T st2 f2 c1 c2 q ?_);intro D C s' m' H' I' hn' f' z;exact⟨m',hn',fun h'' hs''=>⟨.ref D,H',I'.unwish.letgo f' hs'',rfl,z⟩⟩
end
end L2
namespace L3
open PySem PySem.Spec L2
section
variable {X:Cx} {K:Frag} {a b:Expr} {ea eb:EV} {pos p:Pos} {k:Nat}
def uQ(neg:Bool)(x y:D)(O:M):Fr:=if neg=true then none else(rK O y).bind fun ds=>(rD (py 65 O) ds).bind fun es=>(py 65 O x).bind fun d=>if(PyData.canLayAll0 es&&d.canLay0&&decide (d.depth<=60))=true then some (.bl (es.any fun e=>PyData.eqv e d),O) else none
theorem To:R2A K (fun x y H Q=>∃p xs ds d,y=.ref p/\SqL K H p xs/\Dps K H xs ds/\Dp K H x d/\(PyData.canLayAll0 ds&&d.canLay0&&decide (d.depth<=60))=true/\Q (.bl (ds.any fun e=>PyData.eqv e d)) H) (uQ false):=by
 intro W x y d e z Z6 Q ok r1 r2 hf q;unfold uQ at hf;rw[if_neg (by simp)] at hf;refine qC hf fun ds h1 hf=>?_;refine qC hf fun es h2 hf=>?_;obtain⟨d',h3,hf⟩:=bnd hf;split at hf
 ·rename_i hc;cases hf;obtain⟨a,vs,rfl,hs,hv⟩:=va ok h1 r2;exact(⟨a,vs,es,d',rfl,hs,xf (v4 ok 65) hv h2,v4 ok _ _ _ _ r1 h3,hc,q _ W rfl ok .refl (.bl _)⟩)
 ·cases hf
theorem K0(hr:Room k X.A)(ha:PE X a (tD K ea))(hb:PE X b (tD K eb))(hm:behindInMarks .In b=false:=by rfl)(hK:X.K=K:=by rfl):PE X (.Compare a [.In] [b] pos) (tD K (v2 (uQ false) ea eb)):=by
 subst hK;exact BW (Tv hr.units) To ha hb hm
end
section
variable {X:Cx} {E:St->XK} {K:Frag} {N' own:List Str} {cap:List (Str×Nat)} {scope:Scope} {tg iter elt:Expr} {ifs:List Expr} {pos:Pos} {ex:EX} {g:GV} {tc:BV} {te:EV}
def vN(own:List Str)(cap:List (Str×Nat))(ex:EX)(g:GV)(tc:BV)(te:EV):EX:=fun B O=>(ex B O).bind fun p=>match p.1 with
 | .ok d=>(lsC p.2 d).bind fun s=>if s.1.length<=1000000 then(rE s.2 g tc te s.1 (rB own cap B) p.2).bind fun q=>some (.ok (.lst q.1),q.2) else none
 | .ex C=>some (.ex C,p.2)
theorem EI(S:CompScope X N' own cap scope)(hi:PE X iter (tX K E ex))
  (hg:∀cl C Z3 Z1 ex,PG (qM X.nox N' scope cl C Z3 Z1 ex) tg (tDG K g)) (ht:∀cl C Z3 Z1 ex,PIf (qM X.nox N' scope cl C Z3 Z1 ex) ifs (tDB K tc)) (he:∀cl C Z3 Z1 ex,PE (qM X.nox N' scope cl C Z3 Z1 ex) elt (tD K te))
  (hc:X.calm=true:=by rfl) (hs:∀x,foldedSetIterable iter X.env x=pure x:=by intro _;rfl) (hK:X.K=K:=by rfl):
  PE X (.ListComp elt [⟨tg,iter,ifs,0⟩] scope pos) (tX K E (vN own cap ex g tc te)):=by
 subst hK;refine rf (N6 S (HE hi) hg ht he hc hs) fun J H Q h=>?_;refine el4 h fun W B r Z6 eH ok en e q=>?_;subst eH;obtain⟨⟨r1,Z5⟩,e1,e⟩:=bnd e;refine(⟨W,B,r1,Z5,rfl,ok,en,e1,fun W1 ZL ok1 s1=>?_⟩);cases r1 with
 |ex C=>
  cases e;exact q W1 ZL ok1 s1
 |ok d=>
  intro v rv;obtain⟨⟨its,c⟩,e2,e⟩:=bnd e;split at e
  ·rename_i hl;obtain⟨⟨rs,Z4⟩,e3,e⟩:=bnd e;cases e;obtain⟨c0,a,rfl,hh⟩:=CD ok1 (by rw[ZL];exact e2) rv;obtain⟨vs0,h0,_⟩:=hh W1 ok1 c0 rv;refine(⟨a,rfl,⟨_,h0⟩,fun p hp=>?_⟩);have jr:JR X.K W1 (Itl X.K a) its c:=⟨c0,[d],[.ref a],.cons rv .nil,fun W2 i ok2 c2 r2=>by
    cases r2 with
    |cons r2 _=>
     obtain⟨vs,hs,hv⟩:=hh W2 ok2 c2 r2;refine⟨fun hi=>⟨vs,hs,by rw[←hv.length];exact hi⟩,fun d hd=>?_⟩;obtain⟨v,hv1,hv2⟩:=hv.get hd;refine(⟨⟨vs,v,hs,hv1⟩,fun x H' y=>?_⟩);obtain⟨rfl,y⟩:=y;have:=y vs hs;rw[hv1] at this;cases this;exact⟨W2,rfl,rfl,ok2,.refl,hv2⟩⟩
   refine Ij ok1 hp jr ((en.step ok s1).cap own cap) hl (by rw[ZL];exact e3) fun W' ys Zl ok' s' hp' hy r=>?_;obtain⟨a1,a2,a3⟩:=EM s1 hp ok1 ok' s' hp' hy r;exact(q (W'.show W1.hid) Zl a1 a2 _ a3)
  ·cases e
end
section
variable {K:Frag} {k:Nat}
theorem W9{W:Wd}(n:Nat):DRs K W (rl 0 n) ((List.range n).map fun k:Nat=>V.int (k:Int)):=by
 have h:=FQ (K:=K) (W:=W) ((List.range n).map fun k:Nat=>(k:Int));rw[XO,XO] at h;have e:rl 0 n=(List.range n).map (D.int∘fun k:Nat=>(k:Int)):=by
  unfold rl;exact XY fun k _=>by simp
 rw[e];exact h
end
end L3
namespace L2
open PySem PySem.Spec PyProof.Rows
end L2
namespace L3
open PySem PySem.Spec L2
def rS(kvs:List (NK×D))(k:NK):Option D:=(kvs.find? fun kv=>decide (kv.1=k)).map (·.2)
def t3(kvs:List (NK×D))(k:NK)(v:D):List (NK×D):=
 if(kvs.any fun kv=>decide (kv.1=k))=true then kvs.map (fun kv=>if kv.1=k then(kv.1,v) else kv) else kvs++[(k,v)]
def wj:D->Option NK
 | .tup [.tup ds,.int n]=>(rD inI ds).bind fun ns=>some (ns,n)
 |_=>none
def vz(O:M):D->Option (List (NK×D))
 | .ref k=>match O[k]? with
  |some (some (.dN kvs))=>some kvs
  |_=>none
 |_=>none
section
variable {K:Frag} {W:Wd}
theorem I0:∀{ds:List D} {vs:List V} {ns:List Int},rD inI ds=some ns->DRs K W ds vs->vs=ns.map V.int
 | [],_,ns,h,r=>by cases h;cases r;rfl
 |d::ds,_,ns,h,r=>by
  cases r with
  |cons r1 r2=>
   simp only[rD] at h;refine qC h fun i e1 h=>?_;refine qC h fun is e2 h=>?_;cases h;have:=I0 e2 r2;subst this;cases d<;>simp only[inI] at e1<;>cases e1
   cases r1;rfl
theorem Dl{d:D}{k:NK}{v:V}(h:wj d=some k)(r:DR K W d v):∃b,v=.ref b/\NKey W.H b k:=by
 unfold wj at h;split at h
 ·rename_i ds n;refine qC h fun ns e h=>?_;cases h;cases r with
  | @tup a vs _ hh rs=>
   cases rs with
   |cons r1 rs=>
    cases rs with
    |cons r2 rs=>
     cases rs;cases r2;cases r1 with
     | @tup b us _ hb ru=>
      have:=I0 e ru;subst this;exact⟨a,rfl,b,hh,hb⟩
 ·cases h
theorem DZ{d:D}{kvs:List (NK×D)}{v:V}(ok:Ok K W)(h:vz W.O d=some kvs)(r:DR K W d v):
  ∃k a vs,d=.ref k/\v=.ref a/\W.O[k]?=some (some (.dN kvs))/\W.ρ[k]?=some a/\W.H a=some (.dT vs)/\NR K W kvs vs:=by
 cases d with
 |ref k=>
  simp only[vz] at h;split at h
  ·rename_i kvs' hk;cases h;cases r with
   |ref ha=>
    obtain⟨a',ho,h1,h2,vs,rfl,r⟩:=ok.at_ k _ hk;rw[ha] at h1;cases h1;exact⟨k,_,vs,rfl,rfl,hk,ha,h2,r⟩
  ·cases h
 |_=>simp[vz] at h
theorem NR.len{kvs:List (NK×D)}{vs:List (NK×V)}(r:NR K W kvs vs):kvs.length=vs.length:=Paired.length r
theorem NR.any{kvs:List (NK×D)}{vs:List (NK×V)}(r:NR K W kvs vs)(k:NK):(kvs.any fun kv=>decide (kv.1=k))=vs.any fun kv=>decide (kv.1=k):=by
 unfold NR at r;induction r with
 |nil=>rfl
 |cons h t ih=>rw[Yt,Yt,ih,h.1]
theorem NR.val{kvs:List (NK×D)}{vs:List (NK×V)}(r:NR K W kvs vs)(k:NK):(rS kvs k).isSome=(sE vs k).isSome:=by
 unfold NR at r;induction r with
 |nil=>rfl
 | @cons p q ps qs h t ih=>
  by_cases e:p.1=k
  ·rw[wH (by rw[←h.1];exact e)];simp[rS,Xt,e]
  ·rw[xn (by rw[←h.1];exact e)];simp only[rS,Xt,e,decide_false] at ih⊢;exact ih
theorem NR.at{kvs:List (NK×D)}{vs:List (NK×V)}(r:NR K W kvs vs){k:NK}{d:D}(h:rS kvs k=some d):∃v,sE vs k=some v/\DR K W d v:=by
 unfold NR at r;induction r with
 |nil=>cases h
 | @cons p q ps qs hd t ih=>
  by_cases e:p.1=k
  ·have:rS (p::ps) k=some p.2:=by simp[rS,Xt,e]
   rw[this] at h;cases h;exact⟨q.2,wH (by rw[←hd.1];exact e),hd.2⟩
  ·have:rS (p::ps) k=rS ps k:=by simp[rS,Xt,e]
   rw[this] at h;obtain⟨v,h1,h2⟩:=ih h;exact⟨v,by rw[xn (by rw[←hd.1];exact e)];exact h1,h2⟩
theorem NR.put{kvs:List (NK×D)}{vs:List (NK×V)}(r:NR K W kvs vs)(k:NK){d:D}{v:V}(rv:DR K W d v):NR K W (t3 kvs k d) (rV vs k v):=by
 unfold t3 rV;rw[r.any k];by_cases e:(vs.any fun kv=>decide (kv.1=k))=true
 ·rw[if_pos e,if_pos e];unfold NR at r⊢;clear e;induction r with
  |nil=>exact .nil
  | @cons p q ps qs h t ih=>
   refine .cons ?_ ih;show(if p.1=k then(p.1,d) else p).1=(if q.1=k then(q.1,v) else q).1/\DR K W (if p.1=k then(p.1,d) else p).2 (if q.1=k then(q.1,v) else q).2;by_cases e:p.1=k
   ·rw[if_pos e,if_pos (by rw[←h.1];exact e)];exact⟨h.1,rv⟩
   ·rw[if_neg e,if_neg (by rw[←h.1];exact e)];exact h
 ·rw[if_neg e,if_neg e];exact Paired.snoc r ⟨rfl,rv⟩
theorem S5{k:Nat}{a:Addr}{kvs kvs':List (NK×D)}{vs':List (NK×V)}(ok:Ok K W)(hk:W.O[k]?=some (some (.dN kvs)))(ha:W.ρ[k]?=some a)(hs:NR K W kvs' vs'):
  Ok K (W.put k a (.dT vs') (.dN kvs'))/\Step W (W.put k a (.dT vs') (.dN kvs')):=⟨B1 ok hk ha ⟨vs',rfl,hs⟩,wd hk ha⟩
theorem Ih{H:Hp}{a b:Addr}{kvs:List (NK×V)}{k:NK}(e:H a=some (.dT kvs))(eb:NKey H b k):DGet H a (.ref b) (sE kvs k):=.inr ⟨kvs,k,b,.inl e,rfl,eb,rfl⟩
theorem Vo{H:Hp}{a b:Addr}{kvs:List (NK×V)}{k:NK}{v:V}(e:H a=some (.dT kvs))(eb:NKey H b k)(hl:kvs.length<sizeLine):D5 H a (.ref b) v (upd H a (.dT (rV kvs k v))):=.inr ⟨kvs,k,b,e,rfl,eb,hl,rfl⟩
end
section
variable {X:Cx} {K:Frag} {a b e o i value:Expr} {ea eb eo ei:EV} {pos p pos':Pos} {k:Nat}
def D8:EV:=fun _ O=>some (.ref O.length,O++[some (.dN [])])
theorem QH:PE X (.Dict [] [] pos) (tD K D8):=rf zqu fun J H Q h=>by
 refine el4 h fun W B d Z6 eH ok en e q=>?_;subst eH;cases e;intro pa hp;exact q _ (W.new pa (.dT []) (.dN [])) rfl (zH ok hp ⟨[],rfl,.nil⟩) (vo ok hp) (zJ ok)
def AU(x y:D)(O:M):Fr:=(vz O x).bind fun kvs=>(wj y).bind fun k=>(rS kvs k).bind fun d=>some (d,O)
theorem Pr(hr:Room k X.A)(ha:PE X a (tD K ea))(hb:PE X b (tD K eb))(hs:AB b:=by exact fun _ _=>rfl):PE X (.Subscript a b pos) (tD K (v2 AU ea eb)):=
 rf (HL (by have:=hr.un;omega) ha hb hs) fun J H Q h=>by
  refine el4 h fun W B d Z6 eH ok en e q=>?_;subst eH;refine qC e fun p1 e1 e=>?_;refine qC e fun p2 e2 e=>?_;refine qC e fun kvs e3 e=>?_;refine qC e fun ky e4 e=>?_;refine qC e fun d2 e5 e=>?_;cases e;refine⟨W,B,p1.1,p1.2,rfl,ok,en,e1,fun x W1 Z2 ok1 s1 r1=>⟨W1,B,p2.1,p2.2,rfl,ok1,en.step ok s1,by rw[Z2];exact e2,fun y W2 ZV ok2 s2 r2=>?_⟩⟩;rw[←ZV] at e3;obtain⟨n,a,vs,hd,rfl,hk,ha,hh,hs⟩:=DZ ok2 e3 (r1.step ok1 s2);obtain⟨b,rfl,hb⟩:=Dl e4 r2;obtain⟨v,h1,h2⟩:=hs.at e5;exact⟨a,v,rfl,by rw[←h1];exact Ih hh hb,q _ W2 ZV ok2 (s1.trans s2) h2⟩
def yV(neg:Bool)(y x:D)(O:M):Fr:=(wj y).bind fun k=>(vz O x).bind fun kvs=>some (.bl (xor neg (rS kvs k).isSome),O)
theorem O0(neg:Bool):∀J H Q,tD K (v2 (yV neg) ea eb) J H Q->(fun J H Q=>tD K ea J H fun y H1=>tD K eb J H1 fun x H2=>∃a ov,x=.ref a/\DGet H2 a y ov/\Q (.bl (xor neg ov.isSome)) H2:TE) J H Q:=fun J H Q h=>by
 refine el4 h fun W B d Z6 eH ok en e q=>?_;subst eH;refine qC e fun p1 e1 e=>?_;refine qC e fun p2 e2 e=>?_;refine qC e fun k e3 e=>?_;refine qC e fun kvs e4 e=>?_;cases e;refine⟨W,B,p1.1,p1.2,rfl,ok,en,e1,fun x W1 Z2 ok1 s1 r1=>⟨W1,B,p2.1,p2.2,rfl,ok1,en.step ok s1,by rw[Z2];exact e2,fun y W2 ZV ok2 s2 r2=>?_⟩⟩;rw[←ZV] at e4;obtain⟨n,a,vs,_,rfl,_,_,hh,hs⟩:=DZ ok2 e4 r2;obtain⟨b,rfl,hb⟩:=Dl e3 (r1.step ok1 s2);refine⟨a,_,rfl,Ih hh hb,?_⟩;rw[←hs.val k];exact q _ W2 ZV ok2 (s1.trans s2) (.bl _)
theorem zlm(hr:Room k X.A)(ha:PE X a (tD K ea))(hb:PE X b (tD K eb))(hm:behindInMarks .NotIn b=false:=by rfl):PT X (.Compare a [.NotIn] [b] pos) (tDB K (vT (v2 (yV true) ea eb))):=
 wD (RV (RS (by have:=hr.un;omega) ha hb) hm) (Fe fun J H Q h=>by
  have:=O0 true J H Q h;simp only[Bool.true_xor] at this;exact this)
def FO(eo ei ev:EV):SV:=fun B O=>(ev B O).bind fun v=>(eo B v.2).bind fun p=>(ei B p.2).bind fun q=>(wj q.1).bind fun k=>(vz q.2 p.1).bind fun kvs=>match p.1 with
 | .ref n=>if kvs.length<16000000 then some (.nx,B,q.2.set n (some (.dN (t3 kvs k v.1)))) else none
 |_=>none
theorem PY{ev:EV}(hr:Room k X.A)(ho:PE X o (tD K eo))(hi:PE X i (tD K ei))(hv:PE X value (tD K ev))(hs:swapsWith value (some (.Subscript o i pos')) pos.line X.env=pure false:=by rfl):
  PS X (.Assign [.Subscript o i pos'] value pos) (tDS K (FO eo ei ev)):=sN (Ts (by have:=hr.un;omega) ho hi hv hs) fun D J H h=>by
 refine el5 h fun W B o ZY Z6 eH ok en e q=>?_;subst eH;refine qC e fun v0 e0 e=>?_;refine qC e fun p1 e1 e=>?_;refine qC e fun p2 e2 e=>?_;refine qC e fun ky e3 e=>?_;refine qC e fun kvs e4 e=>?_;refine⟨W,B,v0.1,v0.2,rfl,ok,en,e0,fun z W0 Zb ok0 s0 r0=>⟨W0,B,p1.1,p1.2,rfl,ok0,en.step ok s0,by rw[Zb];exact e1,fun x W1 Z2 ok1 s1 r1=>⟨W1,B,p2.1,p2.2,rfl,ok1,(en.step ok s0).step ok0 s1,by rw[Z2];exact e2,fun y W2 ZV ok2 s2 r2=>?_⟩⟩⟩;rw[←ZV] at e4;obtain⟨n,a,vs,hd,rfl,hk,ha,hh,hs⟩:=DZ ok2 e4 (r1.step ok1 s2);rw[hd] at e;simp only at e;split at e
 ·rename_i hl;cases e;obtain⟨b,rfl,hb⟩:=Dl e3 r2;obtain⟨o3,s3⟩:=S5 (vs':=rV vs ky z) (kvs':=t3 kvs ky v0.1) ok2 hk ha (hs.put ky ((r0.step ok0 s1).step ok1 s2));refine⟨a,_,rfl,Vo hh hb (by rw[←hs.len,YF];omega),?_⟩;exact q (W2.put n a (.dT (rV vs ky z)) (.dN (t3 kvs ky v0.1))) J (by show W2.O.set _ _=_;rw[ZV]) o3 (((s0.trans s1).trans s2).trans s3) ((((en.step ok s0).step ok0 s1).step ok1 s2).step ok2 s3)
 ·cases e
end
end L3
namespace L2
open PySem PySem.Spec PyProof.Rows
section
variable {prog:Program} {w:World} {A:Around} {E:OK} {s:Shared}
theorem N5{Q:List Value->Shared->Prop}{r:Addr}{a b c:Int}{t u v:Tok}{n:Nat}(hh:A.handled=none)(hr:IsRange s.heap r a b c t u v)(hsmall:Builtin.Range.small a b c=true)(hn:Builtin.Range.rangeSize a b c=n)(hlen:n<=2^24)
  (hQ:∀(h':Heap) (tk:Nat) (acc:Array Value),(∀b o,s.heap.get? b=some o->h'.get? b=some o)->ItemsOf (fun i v=>∃t,v=.int (a+i*c) t) acc n->Q acc.toList {s with heap:=h',toks:=tk}):
  wpAny (model prog w) A (collect (.ref r)) Q E s:=by
 unfold collect;refine Xf (wpAny_runValue (YE F.entry_proto_collect ?_));rw[Yj F.plain_proto_collect _];show wpAny _ A.in1 (newList [] >>= fun l=>again (.builtin "list.__iadd__" ⟨[l,.ref r],[]⟩)) _ _ s;refine Xf (Yb ?_);refine Xj ⟨YI F.plain_list_iadd _,YE F.entry_list_iadd ?_⟩;rw[Yj F.plain_list_iadd _];show wpAny _ A.in1 (Builtin.List.listExtendWith (.ref s.heap.objs.size) (.ref r) (.ref s.heap.objs.size)) _ _ _;have hS:(s.heap.push {cls:=.type "list",data:=.seq ([]:List Value).toArray}).get? s.heap.objs.size=some {cls:=.type "list",data:=.seq #[] 0}:=Xp _ rfl;have hr1:=Xg {cls:=.type "list",data:=.seq ([]:List Value).toArray} hr;have fin:∀(h':Heap) (tk:Nat) (acc:Array Value) (c':Nat),(∀b o,b≠s.heap.objs.size->(s.heap.push {cls:=.type "list",data:=.seq ([]:List Value).toArray}).get? b=some o->h'.get? b=some o)->h'.get? s.heap.objs.size=some {cls:=.type "list",dict:=none,data:=.seq acc c',slots:=#[]}->
   ItemsOf (fun i v=>∃t,v=.int (a+i*c) t) acc n->wpAny (model prog w) A (match Value.ref s.heap.objs.size with
   |Value.ref a=>do
    match(←load a).data with
     |Data.seq xs _=>pure xs.toList
     |_=>unsupported "internal:collect"
   |_=>unsupported "internal:collect") Q E {s with heap:=h',toks:=tk}:=by
  intro h' tk acc c' hk hS' hacc;show wpAny _ A (load s.heap.objs.size >>= _) _ _ _;refine Xf (wpAny_load hS' ?_);exact Xj (hQ h' tk acc (fun b o hb=>hk b o (Xz (Xo hb)) (Xg _ hb)) hacc)
 refine Xl (wpAny_extend_range (A:=A) (s:={s with heap:=s.heap.push {cls:=.type "list",data:=.seq ([]:List Value).toArray}}) (R:=fun r' s'=>r'=.ok (.ret (.ref s.heap.objs.size))/\∃h' tk acc c',s'={s with heap:=h',toks:=tk}/\(∀b o,b≠s.heap.objs.size->(s.heap.push {cls:=.type "list",data:=.seq ([]:List Value).toArray}).get? b=some o->h'.get? b=some o)/\h'.get? s.heap.objs.size=some {cls:=.type "list",dict:=none,data:=.seq acc c',slots:=#[]}/\ItemsOf (fun i v=>∃t,v=.int (a+i*c) t) acc n)
  hh hr1 hsmall hn hlen s.heap.objs.size (.ref s.heap.objs.size) 0 hS (fun h' tk acc c' h1 h2 h3=>⟨rfl,h',tk,acc,c',rfl,h1,h2,h3⟩)) (fun fi s' h=>?_) (fun e s' h=>?_)
 ·cases fi with
  |done f=>
   obtain⟨e,h',tk,acc,c',rfl,h1,h2,h3⟩:=h;cases e;exact fin h' tk acc c' h1 h2 h3
  |again c2=>exact⟨h.1,codeAny_mono h.2 fun r s'' hr=>by obtain⟨rfl,h',tk,acc,c',rfl,h1,h2,h3⟩:=hr;exact fin h' tk acc c' h1 h2 h3⟩
 ·exact absurd h.1 (by simp)
theorem Ou{Q₁:OK}{r:Addr}{a b c:Int}{t u v:Tok}{n:Nat}(hh:A.handled=none)(hr:IsRange s.heap r a b c t u v)(hsmall:Builtin.Range.small a b c=true)(hn:Builtin.Range.rangeSize a b c=n)(hlen:n<=2^24)
  (h:∀(h':Heap) (tk:Nat) (acc:Array Value),(∀b o,s.heap.get? b=some o->h'.get? b=some o)->ItemsOf (fun i v=>∃t,v=.int (a+i*c) t) acc n->Q₁ (.ref h'.objs.size) {s with heap:=h'.push {cls:=.type "tuple",data:=.seq acc},toks:=tk}) (hsz:n<=sizeLine):
  codeAny (model prog w) A (.call (.builtin "tuple.__new__") ⟨[.type "tuple",.ref r],[]⟩) (wants Q₁ E) s:=by
 refine codeAny_of_tree ?_;show wpAny _ A.in1 (do checkBuiltinCall "tuple.__new__" ⟨[.type "tuple",.ref r],[]⟩;again (.builtin "tuple.__new__" ⟨[.type "tuple",.ref r],[]⟩)) _ _ s;refine Xf (wpAny_of_eq (F.newCall_tuple_1 _) (Xj ⟨YI F.plain_tuple_new _,YE F.entry_tuple_new ?_⟩));rw[Yj F.plain_tuple_new _];have hsub:=sub_tuple_self;have hinit:=init_tuple_lookup;have hmh:=madeHere_tuple;have hTI:s.TypeIs (.ref r) "range":=⟨_,hr,rfl⟩
 have hh1:A.in1.handled=none:=hh;wp_walk using wpAny_typeOf hTI,N5 hh1 hr hsmall hn hlen;intro h' tk acc hk hacc;show wpAny _ _ (Builtin.Tuple.tupleExact acc.toList.toArray >>= fun v=>ret v) _ _ _;unfold Builtin.Tuple.tupleExact;refine Xf (Yb ?_ (by show acc.toList.toArray.size<=sizeLine;simp only[Array.toArray_toList];rw[hacc.1];exact hsz));refine Xj ?_;have e:acc.toList.toArray=acc:=by simp
 rw[e];exact h h' tk acc hk hacc
theorem RH{Q:OK}{r:Addr}{a b c:Int}{t u v:Tok}{n:Nat}(hh:A.handled=none)(hr:IsRange s.heap r a b c t u v)(hsmall:Builtin.Range.small a b c=true)(hn:Builtin.Range.rangeSize a b c=n)(hlen:n<=2^24)
  (h:∀(h':Heap) (tk:Nat) (acc:Array Value),(∀b o,s.heap.get? b=some o->h'.get? b=some o)->ItemsOf (fun i v=>∃t,v=.int (a+i*c) t) acc n->Q (.ref h'.objs.size) {s with heap:=h'.push {cls:=.type "tuple",data:=.seq acc},toks:=tk}) (hsz:n<=sizeLine):
  wpAny (model prog w) A (call (.type "tuple") [.ref r]) Q E s:=by
 refine callType_codes (Q₁:=fun obj ZU=>ZU.TypeIs obj "tuple"/\Q obj ZU) F.called_tuple (F.typeCall_tuple_1 _) F.entry_object_init
  (Ou hh hr hsmall hn hlen (fun h' tk acc hk hacc=>⟨⟨_,Xp _ rfl,rfl⟩,h h' tk acc hk hacc⟩) hsz) fun obj ZU ZR=>?_
 exact⟨ZR.1,F.args_object_init_2 obj _,object_init_meets F.called_tuple.init.lookup F.called_tuple.made (by decide) prog w A.in1 _ ZU ⟨ZR.1,rfl,ZR.2⟩⟩
end
section
variable {X:Cx} {a:Expr} {ta:TE} {p pos:Pos}
theorem zkv{acc:Array Value}{n:Nat}(hacc:ItemsOf (fun i v=>∃t,v=.int (0+i*1) t) acc n):Vals ((List.range n).map fun k:Nat=>V.int (k:Int)) acc.toList:=by
 have hl:acc.toList.length=n:=by rw[Yx];exact hacc.1
 have key:∀(m:Nat) (l:List Value) (k0:Nat),l.length=m->(∀j v,l[j]?=some v->∃t,v=Value.int ((k0+j:Nat):Int) t)->Vals ((List.range' k0 m).map fun k:Nat=>V.int (k:Int)) l:=by
  intro m;induction m with
  |zero=>intro l k0 e _;have:=Yk.mp e;subst this;exact .nil
  |succ m ih=>
   intro l k0 e hj;cases l with
   |nil=>simp at e
   |cons x l=>
    rw[List.range'_succ,Xr];obtain⟨t,ex⟩:=hj 0 x rfl;refine .cons ⟨t,?_⟩ (ih l (k0+1) (by simpa using e) fun j v ev=>?_)
    ·rw[ex];simp
    ·obtain⟨t',e'⟩:=hj (j+1) v (by simpa using ev);exact⟨t',by rw[e'];congr 2;omega⟩
 rw[List.range_eq_range'];refine key n acc.toList 0 hl fun j v ev=>?_;obtain⟨t',e'⟩:=hacc.2 j v (by simpa using ev);exact⟨t',by rw[e'];simp⟩
theorem zbx(hc:X.calm=true):uO X (.type "tuple") (fun xs H Q=>∃(r:Addr) (n:Nat),xs=[.ref r]/\H r=some (.rng 0 (n:Int))/\n<=1000000/\∀l,H l=none->Q (.ref l) (upd H l (.tup ((List.range n).map fun k:Nat=>V.int (k:Int))))):=by
 intro pins s J H xs us Q I r h;obtain⟨r',n,rfl,e,hn,q⟩:=h;obtain⟨u,rfl,ru⟩:=wc r;cases ru;obtain⟨t,u,v,ho⟩:=(show ∃t u v,s.heap.get? r'=some {cls:=.type "range",data:=.fields #[.int 0 t,.int (n:Int) u,.int 1 v]} from I.hok r' _ e)
 refine RH (a:=0) (b:=n) (c:=1) (n:=n) (I.ok.hd hc) ho (small_one (by omega) (by omega) (by omega) (by omega)) (by rw[rangeSize_one];split<;>omega) (by omega) (fun h' tk acc hk hacc=>?_) (vP hn);have I1:Inv X pins J H {s with heap:=h',toks:=tk}:=I.kept (t':=tk) hk;have hv:=zkv hacc;have I2:Inv X pins J (upd H h'.objs.size (.tup ((List.range n).map fun k:Nat=>V.int (k:Int)))) {s with heap:=h'.push {cls:=.type "tuple",data:=.seq acc.toList.toArray},toks:=tk}:=
  I1.laid (t':=tk) (fun b o e=>Xg _ e) (Xh _) (show ObjOk X.prog X.w _ _ _ (.tup _) from⟨by rw[Xn,Yw];exact vP hn,acc.toList,hv,IsTup.new _ _⟩)
 have e2:acc.toList.toArray=acc:=by simp
 rw[e2] at I2;exact⟨.ref h'.objs.size,_,I2,rfl,q _ (I1.hok.fresh (Xh _))⟩
theorem Nv(ml:X.mg "tuple"=none) (ha:PE X a ta) (hg:Gl X "tuple":=by rfl) (hs:starEach [a] X.env=[(false,eval a X.env)]:=by rfl) (hc:X.calm=true:=by rfl):
  PE X (.Call (.Name "tuple" p) [a] [] pos) (fun J H Q=>ta J H fun x H1=>∃(r:Addr) (n:Nat),[x]=[.ref r]/\H1 r=some (.rng 0 (n:Int))/\n<=1000000/\∀l,H1 l=none->Q (.ref l) (upd H1 l (.tup ((List.range n).map fun k:Nat=>V.int (k:Int))))):=
 AJ (p:=p) (pos:=pos) (zbx hc) hg ml rfl (sq ha sV hs) (he:=hs)
theorem UZ(K:Frag)(ml:X.mg "tuple"=none) (ha:PE X a ta) (hg:Gl X "tuple":=by rfl) (hs:starEach [a] X.env=[(false,eval a X.env)]:=by rfl) (hK:X.K=K:=by rfl):
  PE X (.Call (.Name "tuple" p) [a] [] pos) (fun J H Q=>ta J H fun x H1=>∃p ys,[x]=[V.ref p]/\((SqL K H1 p ys/\∀l,H1 l=none->Q (.ref l) (upd H1 l (.tup ys)))\/(SqT K H1 p ys/\Q (.ref p) H1))):=by
 subst hK;exact AJ Qt hg ml rfl (sq ha sV hs) (he:=hs)
end
end L2
namespace L3
open PySem PySem.Spec L2
section
variable {X:Cx} {K:Frag} {a:Expr} {ea:EV} {pos p p2 pos2:Pos} {k:Nat}
def z5(x:D)(O:M):Fr:=match x with
 | .int j=>if 0<=j/\j<=1000000 then some (.tup (rl 0 j.toNat),O) else none
 |_=>none
theorem RN(ml:X.mg "tuple"=none) (mr:X.mg "range"=none) (ha:PE X a (tD K ea)) (hc:X.calm=true:=by rfl) (hg:Gl X "range":=by rfl) (hg2:Gl X "tuple":=by rfl) (hs:starEach [a] X.env=[(false,eval a X.env)]:=by rfl)
  (hs2:starEach [.Call (.Name "range" p2) [a] [] pos2] X.env=[(false,eval (.Call (.Name "range" p2) [a] [] pos2) X.env)]:=by rfl):
  PE X (.Call (.Name "tuple" p) [.Call (.Name "range" p2) [a] [] pos2] [] pos) (tD K (v1 z5 ea)):=rf (Nv ml (TU mr ha hg hs) hg2 hs2 hc) (xr (r:=fun x H1 Q=>∃j:Int,x=.int j/\∀r,H1 r=none->∃(r':Addr) (n:Nat),[V.ref r]=[.ref r']/\(upd H1 r (.rng 0 j)) r'=some (.rng 0 (n:Int))/\n<=1000000/\∀l,(upd H1 r (.rng 0 j)) l=none->Q (.ref l) (upd (upd H1 r (.rng 0 j)) l (.tup ((List.range n).map fun k:Nat=>V.int (k:Int))))) (by
 intro W x d z Z6 Q ok r1 hf q;unfold z5 at hf;split at hf
 ·rename_i j;split at hf
  ·rename_i hj;cases hf;cases r1;refine⟨j,rfl,fun r hr=>⟨r,j.toNat,rfl,by rw[rQ];congr 2;omega,by omega,fun l hl=>?_⟩⟩;have ok1:=tf (o:=.rng 0 j) ok hr;have hl1:(W.lay r (.rng 0 j)).H l=none:=hl;exact q _ ((W.lay r (.rng 0 j)).lay l (.tup ((List.range j.toNat).map fun k:Nat=>V.int (k:Int)))) rfl (tf ok1 hl1) ((rX hr).trans (rX hl1)) (w9 ok1 hl1 (W9 _))
  ·cases hf
 ·cases hf))
def A5(x:D)(O:M):Fr:=(rK O x).bind fun ds=>some (.tup ds,O)
theorem Ku(ml:X.mg "tuple"=none) (ha:PE X a (tD K ea)) (hg:Gl X "tuple":=by rfl) (hs:starEach [a] X.env=[(false,eval a X.env)]:=by rfl) (hK:X.K=K:=by rfl):PE X (.Call (.Name "tuple" p) [a] [] pos) (tD K (v1 A5 ea)):=rf (UZ K ml ha hg hs hK) (xr (by
 intro W x d z Z6 Q ok r1 hf q;refine qC hf fun ds hd hf=>?_;cases hf;obtain⟨a,vs,rfl,hs,hv⟩:=va ok hd r1;exact⟨a,vs,rfl,.inl ⟨hs,fun p hp=>q _ (W.lay p (.tup vs)) rfl (tf ok hp) (rX hp) (w9 ok hp hv)⟩⟩))
end
end L3
namespace Law
open PySem L2 L3
inductive Tr where
 |e (x:Option Int)|ask (i j:Nat) (a b:Tr)
def at2(ss:List (List Int))(x i:Nat):Int:=(ss.getD x []).getD i 0
def alk(ss:List (List Int))(i j:Nat)(left:List Nat):List Nat:=left.filter fun x=>decide (at2 ss x i=at2 ss x j)
def unl(ss:List (List Int))(i j:Nat)(left:List Nat):List Nat:=left.filter fun x=>!decide (at2 ss x i=at2 ss x j)
def cL(L:List (List (Option Int))):Option (Option Int):=(L.getD 0 []).find? fun t=>L.all fun l=>decide (t∈l)
def cE(es:List (List (Option Int)))(left:List Nat):Option (Option Int):=cL (left.map fun x=>es.getD x [])
def uH(ss:List (List Int))(f:List Nat->Option Tr)(left:List Nat)(p:Nat×Nat):Option Tr:=
 if alk ss p.1 p.2 left=[]\/unl ss p.1 p.2 left=[] then none else match f (alk ss p.1 p.2 left) with
  |none=>none
  |some a=>match f (unl ss p.1 p.2 left) with
   |none=>none
   |some b=>some (.ask p.1 p.2 a b)
def qV(ps:List (Nat×Nat))(ss:List (List Int))(es:List (List (Option Int))):Nat->List Nat->Option Tr
 |0,left=>(cE es left).map Tr.e
 |a+1,left=>match cE es left with
  |some x=>some (.e x)
  |none=>ps.findSome? (uH ss (qV ps ss es a) left)
def dep:Tr->Nat
 | .e _=>0
 | .ask _ _ a b=>1+max (dep a) (dep b)
def wf(ps:List (Nat×Nat)):Tr->Prop
 | .e _=>True
 | .ask i j a b=>(i,j)∈ps/\wf ps a/\wf ps b
def rA(s:List Int):Tr->Option Int
 | .e x=>x
 | .ask i j a b=>if s.getD i 0=s.getD j 0 then rA s a else rA s b
section
variable {ps:List (Nat×Nat)} {ss:List (List Int)} {es:List (List (Option Int))}
theorem A4{left:List Nat}{x:Option Int}(h:cE es left=some x):∀y∈left,x∈es.getD y []:=by
 intro y hy;unfold cE cL at h;have:=YM h;rw[XJ] at this;have:=this (es.getD y []) (Xw.mpr ⟨y,hy,rfl⟩);simpa using this
theorem M0{left:List Nat}(h:cE es left=none)(h0:left≠[])(x:Option Int):∃y∈left,x∉es.getD y []:=by
 refine XZ fun hn=>?_;have all:∀y∈left,x∈es.getD y []:=fun y hy=>XZ fun z=>hn ⟨y,hy,z⟩;obtain⟨y,r,rfl⟩:=Yn h0;unfold cE cL at h;have hx:x∈((y::r).map fun x=>es.getD x []).getD 0 []:=all y (by simp);have:=Yq.mp h x hx;apply this;rw[XJ];intro l hl;obtain⟨z,hz,rfl⟩:=Xw.mp hl;simpa using all z hz
theorem Cy{α β:Type}{f:α->Option β}:∀{l:List α},l.findSome? f=none->∀a∈l,f a=none
 | [],_,a,h=>by cases h
 |x::l,h,a,ha=>by
  rw[List.findSome?_cons] at h;cases hx:f x with
  |some b=>rw[hx] at h;cases h
  |none=>
   rw[hx] at h;rcases XI.mp ha with rfl|ha
   ·exact hx
   ·exact Cy h a ha
theorem C8{α β:Type}{f:α->Option β}{b:β}:∀{l:List α},l.findSome? f=some b->∃a∈l,f a=some b
 | [],h=>by cases h
 |x::l,h=>by
  rw[List.findSome?_cons] at h;cases hx:f x with
  |some c=>rw[hx] at h;cases h;exact⟨x,by simp,hx⟩
  |none=>
   rw[hx] at h;obtain⟨a,ha,e⟩:=C8 h;exact⟨a,by simp[ha],e⟩
theorem Hz{f:List Nat->Option Tr}{left:List Nat}{p:Nat×Nat}{t:Tr}(h:uH ss f left p=some t):alk ss p.1 p.2 left≠[]/\unl ss p.1 p.2 left≠[]/\∃a b,f (alk ss p.1 p.2 left)=some a/\f (unl ss p.1 p.2 left)=some b/\t=.ask p.1 p.2 a b:=by
 unfold uH at h;split at h
 ·cases h
 ·rename_i hn;split at h
  ·cases h
  ·rename_i a ha;split at h
   ·cases h
   ·rename_i b hb;cases h;exact⟨fun z=>hn (.inl z),fun z=>hn (.inr z),a,b,ha,hb,rfl⟩
theorem DE{f:List Nat->Option Tr}{left:List Nat}{p:Nat×Nat}:uH ss f left p=none↔alk ss p.1 p.2 left=[]\/unl ss p.1 p.2 left=[]\/f (alk ss p.1 p.2 left)=none\/f (unl ss p.1 p.2 left)=none:=by
 unfold uH;by_cases h1:alk ss p.1 p.2 left=[]
 ·simp[h1]
 ·by_cases h2:unl ss p.1 p.2 left=[]
  ·simp[h2]
  ·rw[if_neg (fun z=>z.elim h1 h2)];cases h3:f (alk ss p.1 p.2 left) with
   |none=>simp
   |some a=>
    cases h4:f (unl ss p.1 p.2 left) with
    |none=>simp
    |some b=>simp[h1,h2]
theorem VO:∀(a:Nat) (left:List Nat) (t:Tr),qV ps ss es a left=some t->wf ps t/\dep t<=a/\∀x∈left,rA (ss.getD x []) t∈es.getD x []:=by
 intro a;induction a with
 |zero=>
  intro left t h;simp only[qV,Option.map_eq_some_iff] at h;obtain⟨x,hx,rfl⟩:=h;exact⟨trivial,Xh _,A4 hx⟩
 |succ a ih=>
  intro left t h;simp only[qV] at h;split at h
  ·rename_i x hx;cases h;exact⟨trivial,Ye _,A4 hx⟩
  ·obtain⟨p,hp,e⟩:=C8 h;obtain⟨_,_,t1,t2,h1,h2,rfl⟩:=Hz e;obtain⟨w1,d1,l1⟩:=ih _ _ h1;obtain⟨w2,d2,l2⟩:=ih _ _ h2;refine⟨⟨hp,w1,w2⟩,by simp only[dep];omega,fun x hx=>?_⟩;show(if(ss.getD x []).getD p.1 0=(ss.getD x []).getD p.2 0 then _ else _)∈_;by_cases hq:(ss.getD x []).getD p.1 0=(ss.getD x []).getD p.2 0
   ·rw[if_pos hq];exact l1 x (Xy.mpr ⟨hx,by simpa[at2] using hq⟩)
   ·rw[if_neg hq];exact l2 x (Xy.mpr ⟨hx,by simpa[at2] using hq⟩)
theorem Na:∀(a:Nat) (left:List Nat),qV ps ss es (a+1) left=none->qV ps ss es a left=none:=by
 intro a;induction a with
 |zero=>
  intro left h;simp only[qV] at h⊢;split at h
  ·cases h
  ·rename_i hx;rw[hx];rfl
 |succ a ih=>
  intro left h;rw[qV] at h⊢;split at h
  ·cases h
  ·rename_i hx;rw[List.findSome?_eq_none_iff];intro p hp;have:=Cy h p hp;rw[DE] at this⊢;rcases this with z|z|z|z
   ·exact .inl z
   ·exact .inr (.inl z)
   ·exact .inr (.inr (.inl (ih _ z)))
   ·exact .inr (.inr (.inr (ih _ z)))
theorem L4:∀(a:Nat) (left:List Nat),left≠[]->qV ps ss es a left=none->∀t,wf ps t->dep t<=a->∃x∈left,rA (ss.getD x []) t∉es.getD x []:=by
 intro a;induction a with
 |zero=>
  intro left h0 h t w d;simp only[qV,Option.map_eq_none_iff] at h;cases t with
  |e x=>exact M0 h h0 x
  |ask i j t1 t2=>simp only[dep] at d;omega
 |succ a ih=>
  intro left h0 h t w d;have hm:=Na a left h;have h':=h;rw[qV] at h;split at h
  ·cases h
  ·rename_i hx;cases t with
   |e x=>exact M0 hx h0 x
   |ask i j t1 t2=>
    simp only[dep] at d;obtain⟨hp,w1,w2⟩:=w;have hq:=Cy h (i,j) hp;rw[DE] at hq;have la:∀x∈alk ss i j left,x∈left/\rA (ss.getD x []) (.ask i j t1 t2)=rA (ss.getD x []) t1:=fun x hx=>by
     obtain⟨q1,q2⟩:=Xy.mp hx;refine⟨q1,?_⟩;have:(ss.getD x []).getD i 0=(ss.getD x []).getD j 0:=by simpa[at2] using q2
     simp only[rA];rw[if_pos this]
    have lu:∀x∈unl ss i j left,x∈left/\rA (ss.getD x []) (.ask i j t1 t2)=rA (ss.getD x []) t2:=fun x hx=>by
     obtain⟨q1,q2⟩:=Xy.mp hx;refine⟨q1,?_⟩;have:¬(ss.getD x []).getD i 0=(ss.getD x []).getD j 0:=by simpa[at2] using q2
     simp only[rA];rw[if_neg this]
    have pick1:∀l,l≠[]->(∀x∈l,x∈left/\rA (ss.getD x []) (.ask i j t1 t2)=rA (ss.getD x []) t1)->qV ps ss es a l=none->∃x∈left,rA (ss.getD x []) (.ask i j t1 t2)∉es.getD x []:=fun l hl hm2 hn=>by
     obtain⟨x,hx,q⟩:=ih l hl hn t1 w1 (by omega);obtain⟨z1,z2⟩:=hm2 x hx;exact⟨x,z1,by rw[z2];exact q⟩
    have pick2:∀l,l≠[]->(∀x∈l,x∈left/\rA (ss.getD x []) (.ask i j t1 t2)=rA (ss.getD x []) t2)->qV ps ss es a l=none->∃x∈left,rA (ss.getD x []) (.ask i j t1 t2)∉es.getD x []:=fun l hl hm2 hn=>by
     obtain⟨x,hx,q⟩:=ih l hl hn t2 w2 (by omega);obtain⟨z1,z2⟩:=hm2 x hx;exact⟨x,z1,by rw[z2];exact q⟩
    by_cases ha:alk ss i j left=[]
    ·refine pick2 left h0 (fun x hx=>⟨hx,(lu x (Xy.mpr ⟨hx,?_⟩)).2⟩) hm;have:=Yo.mp ha x hx;simpa using this
    ·by_cases hu:unl ss i j left=[]
     ·refine pick1 left h0 (fun x hx=>⟨hx,(la x (Xy.mpr ⟨hx,?_⟩)).2⟩) hm;have:=Yo.mp hu x hx;simpa using this
     ·rcases hq with z|z|z|z
      ·exact absurd z ha
      ·exact absurd z hu
      ·exact pick1 _ ha la z
      ·exact pick2 _ hu lu z
def tR(pm:List (Nat×Nat))(em:List Nat):Nat->Nat->Bool
 |0,m=>em.all fun e=>m &&& e !=m
 |a+1,m=>(em.all fun e=>m &&& e !=m)&&pm.all fun p=>m &&& p.1==0||(m &&& p.2==0||(tR pm em a (m &&& p.2)||tR pm em a (m &&& p.1)))
def Ms(left:List Nat)(m:Nat):Prop:=∀x,x∈left↔m.testBit x=true
theorem Ms.zero{left:List Nat}{m:Nat}(h:Ms left m):left=[]↔m=0:=by
 constructor
 ·intro e;subst e;refine Nat.eq_of_testBit_eq fun i=>?_;have:=h i;simp at this;simp[this]
 ·intro e;subst e;refine List.eq_nil_iff_forall_not_mem.mpr fun x hx=>?_;have:=(h x).mp hx;simp at this
structure Mk (ps:List (Nat×Nat)) (ss:List (List Int)) (es:List (List (Option Int))) (pm:List (Nat×Nat)) (em:List Nat) (ends:List (Option Int)):Prop where
 pl:pm.length=ps.length
 p1:∀(k:Nat) (p q:Nat×Nat),ps[k]?=some p->pm[k]?=some q->∀x,x<ss.length->(q.1.testBit x=decide (at2 ss x p.1=at2 ss x p.2))/\(q.2.testBit x=!decide (at2 ss x p.1=at2 ss x p.2))
 el:em.length=ends.length
 e1:∀(k:Nat) (e:Option Int) (q:Nat),ends[k]?=some e->em[k]?=some q->∀x,x<ss.length->q.testBit x=decide (e∈es.getD x [])
 en:∀x,x<ss.length->∀e∈es.getD x [],e∈ends
theorem none_of{pm:List (Nat×Nat)}{em:List Nat}{ends:List (Option Int)}(K:Mk ps ss es pm em ends):∀(a:Nat) (left:List Nat) (m:Nat),Ms left m->(∀x∈left,x<ss.length)->left≠[]->tR pm em a m=true->qV ps ss es a left=none:=by
 have noend:∀(left:List Nat) (m:Nat),Ms left m->(∀x∈left,x<ss.length)->left≠[]->(em.all fun e=>m &&& e !=m)=true->cE es left=none:=by
  intro left m hm hl h0 he;cases hc:cE es left with
  |none=>rfl
  |some y=>
   have hs:=A4 hc;obtain⟨x0,r,rfl⟩:=Yn h0;have hy:=K.en x0 (hl x0 (by simp)) y (hs x0 (by simp));obtain⟨k,hk⟩:=Yf hy;have hkl:k<em.length:=by rw[K.el];exact(Xi.mp hk).1
   have hq:=Xm hkl;have:=XJ.mp he em[k] (X3 _);have e2:m &&& em[k]=m:=by
    refine Nat.eq_of_testBit_eq fun i=>?_;rw[Nat.testBit_and];cases hb:m.testBit i with
    |false=>rfl
    |true=>
     have hi:=(hm i).mpr hb;rw[K.e1 k y em[k] hk hq i (hl i hi)];simpa using hs i hi
   rw[e2] at this;simp at this
 intro a;induction a with
 |zero=>
  intro left m hm hl h0 h;rw[qV,noend left m hm hl h0 h];rfl
 |succ a ih=>
  intro left m hm hl h0 h;simp only[tR,XE] at h;rw[qV,noend left m hm hl h0 h.1];show ps.findSome? _=none;rw[List.findSome?_eq_none_iff];intro p hp;rw[DE];obtain⟨k,hk⟩:=Yf hp;have hkl:k<pm.length:=by rw[K.pl];exact(Xi.mp hk).1
  have hq:=Xm hkl;have hall:=XJ.mp h.2 pm[k] (X3 _);have hbit:=K.p1 k p pm[k] hk hq;have ma:Ms (alk ss p.1 p.2 left) (m &&& pm[k].1):=fun x=>by
   unfold alk;rw[Xy,Nat.testBit_and,XE];constructor
   ·rintro⟨h1,h2⟩;exact⟨(hm x).mp h1,by rw[(hbit x (hl x h1)).1];exact h2⟩
   ·rintro⟨h1,h2⟩;have:=(hm x).mpr h1;exact⟨this,by rw[(hbit x (hl x this)).1] at h2;exact h2⟩
  have mu:Ms (unl ss p.1 p.2 left) (m &&& pm[k].2):=fun x=>by
   unfold unl;rw[Xy,Nat.testBit_and,XE];constructor
   ·rintro⟨h1,h2⟩;exact⟨(hm x).mp h1,by rw[(hbit x (hl x h1)).2];exact h2⟩
   ·rintro⟨h1,h2⟩;have:=(hm x).mpr h1;exact⟨this,by rw[(hbit x (hl x this)).2] at h2;exact h2⟩
  by_cases ha:alk ss p.1 p.2 left=[]
  ·exact .inl ha
  ·by_cases hu:unl ss p.1 p.2 left=[]
   ·exact .inr (.inl hu)
   ·simp only[Bool.or_eq_true,beq_iff_eq] at hall;rcases hall with z|z|z|z
    ·exact absurd (ma.zero.mpr z) ha
    ·exact absurd (mu.zero.mpr z) hu
    ·exact .inr (.inr (.inr (ih _ _ mu (fun x hx=>hl x (Xy.mp hx).1) hu z)))
    ·exact .inr (.inr (.inl (ih _ _ ma (fun x hx=>hl x (Xy.mp hx).1) ha z)))
end
end Law
namespace L3
open PySem L2
end L3
namespace L2
open PySem PySem.Spec PyProof.Rows
end L2
namespace L3
open PySem L2
end L3
namespace L2
open PySem PySem.Spec PyProof.Rows
section
open PySem.SeqAt
open PySem.AutoSeq1 (wpAny_loadPart')
open PySem.MeetsSeq PySem.MeetsSeq2 PySem.MeetsSeq3 PySem.SeqRoads2
end
end L2
namespace L3
open PySem PySem.Spec L2
end L3
namespace L2
open PySem PySem.Spec PyProof.Rows
section
variable {X:Cx}
theorem Oo:OpR X (compareOp .IsNot) (fun x y H Q=>∃i j,x=.bl i/\y=.bl j/\Q (.bl (!decide (i=j))) H):=by
 intro pins s J H x y v u Q I rx ry h;obtain⟨i,j,rfl,rfl,q⟩:=h;cases rx;cases ry;exact wpAny_isNot_plain rfl (Dk I q (by cases i<;>cases j<;>rfl))
end
end L2
namespace L3
open PySem L2
section
variable {X:Cx} {K:Frag} {a b:Expr} {ea eb:EV} {pos:Pos}
def fIsB(x y:D)(O:M):Fr:=match x,y with
 | .bl i,.bl j=>some (.bl (decide (i=j)),O)
 |_,_=>none
def zB(x y:D)(O:M):Fr:=match x,y with
 | .bl i,.bl j=>some (.bl (!decide (i=j)),O)
 |_,_=>none
theorem QO:R2A K (fun x y H Q=>∃i j,x=.bl i/\y=.bl j/\Q (.bl (!decide (i=j))) H) zB:=by
 intro W x y d e z Z6 Q ok r1 r2 hf q;unfold zB at hf;split at hf
 ·cases hf;cases r1;cases r2;exact⟨_,_,rfl,rfl,q _ W rfl ok .refl (.bl _)⟩
 ·cases hf
theorem Oq(ha:PE X a (tD K ea))(hb:PE X b (tD K eb)):PT X (.Compare a [.IsNot] [b] pos) (tDB K (vT (v2 zB ea eb))):=wX Oo QO ha hb (u3 _)
def AE(f:D->M->Fr)(ev:EX):EX:=fun B O=>(ev B O).bind fun p=>match p.1 with
 | .ok d=>(f d p.2).bind fun q=>some (.ok q.1,q.2)
 | .ex C=>some (.ex C,p.2)
variable {E:St->XK} {ex:EX} {p:Pos}
theorem Uj{r:V->Hp->VK->Prop}{f:D->M->Fr}(ra:R1A K r f):∀J H Q,tX K E (AE f ex) J H Q->(fun J H Q=>tX K E ex J H fun x H1=>r x H1 Q:TE) J H Q:=fun J H Q h=>by
 refine el4 h fun W B rr Z6 eH ok en e q=>?_;subst eH;obtain⟨⟨p1,p2⟩,e1,e⟩:=bnd e;refine(⟨W,B,p1,p2,rfl,ok,en,e1,fun W1 Z2 ok1 s1=>?_⟩);cases p1 with
 |ex C=>cases e;exact q W1 Z2 ok1 s1
 |ok d=>
  intro v rv;obtain⟨⟨d2,Z4⟩,e2,e⟩:=bnd e;cases e;exact ra W1 v _ _ _ Q ok1 rv (by rw[Z2];exact e2) fun v W3 ZS ok3 s3 r3=>q W3 ZS ok3 (s1.trans s3) v r3
theorem Wx(mm:X.mg "all"=none) (ha:PE X a (tX K E ex)) (hc:X.calm=true:=by rfl) (hg:Gl X "all":=by rfl) (hs:starEach [a] X.env=[(false,eval a X.env)]:=by rfl) (hK:X.K=K:=by rfl):PE X (.Call (.Name "all" p) [a] [] pos) (tX K E (AE ul ex)):=rf (Kc K mm ha hc hg hs hK) (Uj (by
 intro W x d z Z6 Q ok r1 hf q;refine qC hf fun ds h1 hf=>?_;refine qC hf fun ns h2 hf=>?_;cases hf;obtain⟨a,vs,rfl,hs,hv⟩:=va ok h1 r1;have:=DT h2 hv;subst this;exact⟨a,ns,rfl,hs,q _ W rfl ok .refl (.bl _)⟩))
end
end L3
namespace L2
open PySem PySem.Spec PyProof.Rows HT
end L2
namespace L3
open PySem L2
end L3
namespace Law
open PySem L2 L3 PyProof.Rows
def Va{v v':Nat->Int}{i:Nat}(h:∀j,j<i->v j=v' j):firstMet v i=firstMet v' i:=by
 unfold firstMet;have:(List.range i).map v=(List.range i).map v':=XY fun j hj=>h j (XT.mp hj);rw[this]
def Qp(s:List Int)(x:Int):wl (s++[x])=if x∈s then wl s else wl s+1:=by
 unfold wl;rw[XH,X9,firstMet_succ,step_length];have e:firstMet (fun i=>(s++[x]).getD i 0) s.length=firstMet (fun i=>s.getD i 0) s.length:=Va fun j hj=>by
  simp[Xk,Xv hj]
 have ex:(s++[x]).getD s.length 0=x:=by simp[Xk]
 rw[e,ex,firstMet_any];have em:((List.range s.length).map fun i=>s.getD i 0)=s:=by
  apply List.ext_getElem
  ·simp
  ·intro i h1 h2;simp[Xk,Xm h2]
 rw[em];have eb:s.any (·==x)=decide (x∈s):=by
  rw[Yg];simp[Yl]
 rw[eb];by_cases h:x∈s<;>simp[h]
def Sx:Nat->Nat->List (List Int×Nat)
 |0,_=>[([],0)]
 |n+1,m=>(Sx n m).flatMap fun p=>(List.range (min (p.2+1) m)).map fun(i:Nat)=>(p.1++[(i:Int)],max p.2 (i+1))
structure Gd (n m:Nat) (p:List Int×Nat):Prop where
 len:p.1.length=n
 mem:∀x:Int,x∈p.1↔0<=x/\x<p.2
 dist:wl p.1=p.2
 le:p.2<=m
 len2:p.2<=n
 rise:∀(k:Nat) (x:Int),p.1[k]?=some x->0<=x/\x<=wl (p.1.take k)
theorem wU(m:Nat):∀(n:Nat) (p:List Int×Nat),p∈Sx n m->Gd n m p
 |0,p,h=>by
  simp[Sx] at h;subst h;exact⟨rfl,fun x=>by simp,rfl,Ye _,Xh _,fun k x e=>by simp at e⟩
 |n+1,p,h=>by
  simp only[Sx,List.mem_flatMap,Xw,XT] at h;obtain⟨q,hq,i,hi,rfl⟩:=h;have g:=wU m n q hq;have him:i<m:=by omega
  have hiu:i<=q.2:=by omega
  refine(⟨by simp[g.len],fun x=>?_,?_,?_,?_,?_⟩)
  ·simp only[XN,XX,g.mem];omega
  ·show wl (q.1++[(i:Int)])=max q.2 (i+1);rw[Qp,g.dist];by_cases hm:(i:Int)∈q.1
   ·rw[if_pos hm];have:=(g.mem _).mp hm;omega
   ·rw[if_neg hm];have:¬(i:Int)<q.2:=fun z=>hm ((g.mem _).mpr ⟨by omega,z⟩);omega
  ·have:=g.le;show max q.2 (i+1)<=m;omega
  ·have:=g.len2;show max q.2 (i+1)<=n+1;omega
  ·intro k x e;have e:(q.1++[(i:Int)])[k]?=some x:=e;show 0<=x/\x<=wl ((q.1++[(i:Int)]).take k);by_cases hk:k<q.1.length
   ·rw[Xv hk] at e;rw[List.take_append_of_le_length (by omega)];exact g.rise k x e
   ·rw[XR (by omega)] at e;have hz:k=q.1.length:=by
     have:=(Xi.mp e).1;simp at this;omega
    subst hz;simp at e;subst e;rw[List.take_append_of_le_length (by omega),List.take_length,g.dist];omega
def Gd.used{n m:Nat}{p:List Int×Nat}(g:Gd n m p):(mxL p.1).getD (-1)+1=(p.2:Int):=by
 cases hn:mxL p.1 with
 |none=>
  have:p.1=[]:=by cases h:p.1 with
   |nil=>rfl
   |cons a r=>rw[h] at hn;cases hn
  have h0:p.2=0:=by
   rcases Nat.eq_zero_or_pos p.2 with z|z
   ·exact z
   ·have:=(g.mem 0).mpr ⟨by omega,by omega⟩;rw[‹p.1=[]›] at this;cases this
  simp[h0]
 |some M=>
  have hM:=HW hn;have h1:=(g.mem M).mp hM.1;have h2:=hM.2 ((p.2:Int) - 1) ((g.mem _).mpr ⟨by omega,by omega⟩);simp only[Option.getD_some];omega
def SG(n:Nat){m:Nat}(h:8<=m):n<=7->Sx n m=Sx n 8:=by
 induction n with
 |zero=>intro _;rfl
 |succ n ih=>
  intro hn;rw[Sx,Sx,ih (by omega)];rw[List.flatMap_def,List.flatMap_def];congr 1;apply XY;intro p hp;have:=(wU 8 n p hp).len2;have e:min (p.2+1) m=min (p.2+1) 8:=by omega
  rw[e]
def Ko:∀n<8,∀m<9,(Sx n m).length<=877:=by decide +kernel
def zR{n:Nat}(hn:n<=7)(m:Nat):(Sx n m).length<=877:=by
 by_cases h:m<9
 ·exact Ko n (by omega) m h
 ·rw[SG n (by omega) hn];exact Ko n (by omega) 8 (by omega)
def sL(s:List Int)(as:List An):Bool:=as.all fun a=>decide (s.getD a.1 0=s.getD a.2.1 0)==a.2.2
def InN(n:Nat)(as:List An):Prop:=∀a∈as,a.1<n/\a.2.1<n
theorem Ii{α:Type}(f:Nat->α)(m:Nat):∀n,n<=m->∃p∈Sx n m,∀x y,x<n->y<n->(p.1.getD x 0=p.1.getD y 0↔f x=f y)
 |0,_=>⟨([],0),by simp[Sx],fun x y h=>by omega⟩
 |n+1,hn=>by
  obtain⟨p,hp,hf⟩:=Ii f m n (by omega);have g:=wU m n p hp;have hg:=g.len2;have lt_of:∀x,x<n->p.1.getD x 0∈p.1:=fun x hx=>by
   rw[Xk,Xm (by rw[g.len];exact hx)];exact X3 _
  obtain⟨i,hi,him⟩:∃i:Nat,i<min (p.2+1) m/\∀x,x<n->(p.1.getD x 0=(i:Int)↔f x=f n):=by
   by_cases h:∃x,x<n/\f x=f n
   ·obtain⟨x0,hx0,e0⟩:=h;have h1:=(g.mem _).mp (lt_of x0 hx0);refine⟨(p.1.getD x0 0).toNat,by have:=g.le;omega,fun x hx=>?_⟩;have e:((p.1.getD x0 0).toNat:Int)=p.1.getD x0 0:=by omega
    rw[e,←e0];exact hf x x0 hx hx0
   ·refine⟨p.2,by omega,fun x hx=>⟨fun e=>?_,fun e=>absurd ⟨x,hx,e⟩ h⟩⟩;have h1:=(g.mem _).mp (lt_of x hx);omega
  refine⟨(p.1++[(i:Int)],max p.2 (i+1)),?_,?_⟩
  ·simp only[Sx,List.mem_flatMap,Xw,XT];exact⟨p,hp,i,hi,rfl⟩
  ·have old:∀x,x<n->(p.1++[(i:Int)]).getD x 0=p.1.getD x 0:=fun x hx=>by
    simp[Xk,Xv (show x<p.1.length by rw[g.len];exact hx)]
   have new:(p.1++[(i:Int)]).getD n 0=(i:Int):=by
    have:n=p.1.length:=g.len.symm;simp[Xk,this]
   intro x y hx hy;show(p.1++[(i:Int)]).getD x 0=(p.1++[(i:Int)]).getD y 0↔_;rcases Nat.lt_succ_iff_lt_or_eq.mp hx with hx|rfl<;>rcases Nat.lt_succ_iff_lt_or_eq.mp hy with hy|rfl
   ·rw[old x hx,old y hy];exact hf x y hx hy
   ·rw[old x hx,new];exact him x hx
   ·rw[old y hy,new];have:=him y hy;constructor
    ·intro e;exact(this.mp e.symm).symm
    ·intro e;exact(this.mpr e.symm).symm
   ·simp
def WJ{n:Nat}{as:List An}(hv:InN n as)(h:tN as=true):∃p∈Sx n n,sL p.1 as=true:=by
 obtain⟨p,hp,hf⟩:=Ii (fun x=>Conn as x) n n (Xh _);have eqv:∀x y,Conn as x=Conn as y↔Conn as x y:=fun x y=>
  ⟨fun e=>by rw[e];exact .refl y,fun c=>funext fun z=>propext ⟨fun d=>c.symm.trans d,fun d=>c.trans d⟩⟩
 refine⟨p,hp,?_⟩;unfold sL;rw[XJ];intro a ha;obtain⟨h1,h2⟩:=hv a ha;have e:=(hf a.1 a.2.1 h1 h2).trans (eqv _ _);have ok:=Dh as;cases hb:a.2.2 with
 |true=>
  have hm:(a.1,a.2.1,true)∈as:=by
   have e0:(a.1,a.2.1,true)=a:=by rw[←hb]
   rw[e0];exact ha
  have:Conn as a.1 a.2.1:=Conn.one (mem_nb.mpr (.inl hm));rw[Xx (e.mpr this)];rfl
 |false=>
  have hc:=XJ.mp h a ha;rw[hb] at hc;simp at hc;have:¬Conn as a.1 a.2.1:=fun c=>hc (ok.conn c);rw[Xq (mt e.mp this)];rfl
def Cq{s:List Int}{as:List An}(h:sL s as=true):tN as=true:=by
 have hall:=XJ.mp h;have con:∀x y,Conn as x y->s.getD x 0=s.getD y 0:=by
  intro x y c;induction c with
  |refl=>rfl
  |step _ e ih=>
   rw[ih];rcases mem_nb.mp e with z|z
   ·have:=hall _ z;simpa using this
   ·have:=hall _ z;simp at this;exact this.symm
 unfold tN;rw[XJ];intro a ha;have ok:=Dh as;cases hb:a.2.2 with
 |true=>simp
 |false=>
  have h1:=hall a ha;rw[hb] at h1;simp only[Bool.false_or,Bool.not_eq_true',decide_eq_false_iff_not];intro e;have c:=(ok.iff (ok.named a ha).1).mp e;rw[con _ _ c] at h1;simp at h1
def sk(n:Nat)(as:List An):List (List Int):=((Sx n n).map (·.1)).filter fun s=>sL s as
def Op{n:Nat}{as:List An}(hv:InN n as):sk n as=[]↔tN as=false:=by
 constructor
 ·intro h;cases hc:tN as with
  |false=>rfl
  |true=>
   obtain⟨p,hp,hf⟩:=WJ hv hc;have:p.1∈sk n as:=Xy.mpr ⟨List.mem_map_of_mem hp,hf⟩;rw[h] at this;cases this
 ·intro h;unfold sk;rw[Yo];intro s hs hf;rw[Cq hf] at h;cases h
def sT(gs:List (Int×List Int))(k:Int)(t:Int):List (Int×List Int):=
 if(gs.any fun g=>decide (g.1=k))=true then gs.map fun g=>if g.1=k then(g.1,g.2++[t]) else g else gs++[(k,[t])]
def vh:Nat->List Int->List (Int×List Int)->List (Int×List Int)
 |_,[],gs=>gs
 |i,k::r,gs=>vh (i+1) r (sT gs k (i:Int))
def grp(s:List Int):List (Int×List Int):=vh 0 s []
end Law
namespace L3
open PySem PySem.Spec L2
def Wp{α:Type}(r:Option (α×M))(Q:α->M->Prop):Prop:=∃a O,r=some (a,O)/\Q a O
def Ws(r:Option (Out×G×M))(Q:Out->G->M->Prop):Prop:=∃o B O,r=some (o,B,O)/\Q o B O
section
variable {α β:Type} {B:G} {O:M} {ea eb:EV} {ba bb:BV} {el:LV} {sa sb:SV} {i j n m:Nat} {d x y:D} {ds:List D} {b:Bool} {g:GV} {gs:GsV} {o:Option D} {iv:IV} {lo hi:OV}
theorem Wp.imp{r:Option (α×M)}{Q R:α->M->Prop}(h:Wp r Q)(f:∀a O,Q a O->R a O):Wp r R:=let ⟨a,O,e,q⟩:=h;⟨a,O,e,f a O q⟩
theorem Ws.imp{r:Option (Out×G×M)}{Q R:Out->G->M->Prop}(h:Ws r Q)(f:∀o B O,Q o B O->R o B O):Ws r R:=let ⟨a,B,O,e,q⟩:=h;⟨a,B,O,e,f a B O q⟩
theorem wp_some{a:α}{Q:α->M->Prop}:Wp (some (a,O)) Q↔Q a O:=⟨fun⟨_,_,e,q⟩=>by cases e;exact q,fun q=>⟨_,_,rfl,q⟩⟩
theorem ws_some{out:Out}{Q:Out->G->M->Prop}:Ws (some (out,B,O)) Q↔Q out B O:=⟨fun⟨_,_,_,e,q⟩=>by cases e;exact q,fun q=>⟨_,_,_,rfl,q⟩⟩
theorem wp_bind{r:Option (α×M)}{f:α×M->Option (β×M)}{Q:β->M->Prop}:Wp (r.bind f) Q↔Wp r fun a O=>Wp (f (a,O)) Q:=by
 cases r with
 |none=>exact⟨fun⟨_,_,e,_⟩=>(by cases e),fun⟨_,_,e,_⟩=>(by cases e)⟩
 |some p=>exact⟨fun h=>⟨p.1,p.2,rfl,h⟩,fun⟨_,_,e,h⟩=>by cases e;exact h⟩
theorem ws_bind{r:Option (α×M)}{f:α×M->Option (Out×G×M)}{Q:Out->G->M->Prop}:Ws (r.bind f) Q↔Wp r fun a O=>Ws (f (a,O)) Q:=by
 cases r with
 |none=>exact⟨fun⟨_,_,_,e,_⟩=>(by cases e),fun⟨_,_,e,_⟩=>(by cases e)⟩
 |some p=>exact⟨fun h=>⟨p.1,p.2,rfl,h⟩,fun⟨_,_,e,h⟩=>by cases e;exact h⟩
theorem wss_bind{r:Option (Out×G×M)}{f:Out×G×M->Option (Out×G×M)}{Q:Out->G->M->Prop}:Ws (r.bind f) Q↔Ws r fun o B O=>Ws (f (o,B,O)) Q:=by
 cases r with
 |none=>exact⟨fun⟨_,_,_,e,_⟩=>(by cases e),fun⟨_,_,_,e,_⟩=>(by cases e)⟩
 |some p=>exact⟨fun h=>⟨p.1,p.2.1,p.2.2,rfl,h⟩,fun⟨_,_,_,e,h⟩=>by cases e;exact h⟩
theorem wps_bind{r:Option (Out×G×M)}{f:Out×G×M->Option (β×M)}{Q:β->M->Prop}:Wp (r.bind f) Q↔Ws r fun o B O=>Wp (f (o,B,O)) Q:=by
 cases r with
 |none=>exact⟨fun⟨_,_,e,_⟩=>(by cases e),fun⟨_,_,_,e,_⟩=>(by cases e)⟩
 |some p=>exact⟨fun h=>⟨p.1,p.2.1,p.2.2,rfl,h⟩,fun⟨_,_,_,e,h⟩=>by cases e;exact h⟩
theorem wpo_bind{r:Option α}{f:α->Option (β×M)}{Q:β->M->Prop}:Wp (r.bind f) Q↔∃a,r=some a/\Wp (f a) Q:=by
 cases r with
 |none=>exact⟨fun⟨_,_,e,_⟩=>(by cases e),fun⟨_,e,_⟩=>(by cases e)⟩
 |some p=>exact⟨fun h=>⟨p,rfl,h⟩,fun⟨_,e,h⟩=>by cases e;exact h⟩
theorem x5{r:Option (α×M)}{a:α}{Q:α->M->Prop}(e:r=some (a,O))(h:Q a O):Wp r Q:=⟨_,_,e,h⟩
variable {R:D->M->Prop} {RL:List D->M->Prop} {RB:Bool->M->Prop} {RG:G->M->Prop} {RI:List D×Ck->M->Prop} {RO:Option Int->M->Prop} {Q:Out->G->M->Prop}
theorem M5:Wp (be 0 (some d::B) O) R↔R d O:=wp_some
theorem Lr:Wp (be (i+1) (o::B) O) R↔Wp (be i B O) R:=Iff.rfl
theorem w_c:Wp (vC d B O) R↔R d O:=wp_some
def q1(f:D->M->Fr)(R:D->M->Prop):D->M->Prop:=fun x O=>Wp (f x O) R
theorem q1_{f:D->M->Fr}:q1 f R x O↔Wp (f x O) R:=Iff.rfl
theorem Lc{f:D->M->Fr}:Wp (v1 f ea B O) R↔Wp (ea B O) (q1 f R):=wp_bind
def q2b(f:D->D->M->Fr)(x:D)(R:D->M->Prop):D->M->Prop:=fun y O=>Wp (f x y O) R
theorem Ho{f:D->D->M->Fr}:q2b f x R y O↔Wp (f x y O) R:=Iff.rfl
def q2(f:D->D->M->Fr)(eb:EV)(B:G)(R:D->M->Prop):D->M->Prop:=fun x O=>Wp (eb B O) (q2b f x R)
theorem q2_{f:D->D->M->Fr}:q2 f eb B R x O↔Wp (eb B O) (q2b f x R):=Iff.rfl
theorem M3{f:D->D->M->Fr}:Wp (v2 f ea eb B O) R↔Wp (ea B O) (q2 f eb B R):=wp_bind.trans ⟨fun h=>h.imp fun _ _ q=>wp_bind.mp q,fun h=>h.imp fun _ _ q=>wp_bind.mpr q⟩
def qL(f:C0)(R:D->M->Prop):List D->M->Prop:=fun ds O=>Wp (f ds O) R
theorem qL_{f:C0}:qL f R ds O↔Wp (f ds O) R:=Iff.rfl
theorem Hm{f:C0}:Wp (vL f el B O) R↔Wp (el B O) (qL f R):=wp_bind
theorem LQ:Wp (qD B O) RL↔RL [] O:=wp_some
def qc2(x:D)(RL:List D->M->Prop):List D->M->Prop:=fun ds O=>RL (x::ds) O
theorem MJ:qc2 x RL ds O↔RL (x::ds) O:=Iff.rfl
def qc(el:LV)(B:G)(RL:List D->M->Prop):D->M->Prop:=fun x O=>Wp (el B O) (qc2 x RL)
theorem qc_:qc el B RL x O↔Wp (el B O) (qc2 x RL):=Iff.rfl
theorem Hk:Wp (qy ea el B O) RL↔Wp (ea B O) (qc el B RL):=wp_bind.trans ⟨fun h=>h.imp fun _ _ q=>(wp_bind.mp q).imp fun _ _ q=>(wp_some (Q:=RL)).mp q,fun h=>h.imp fun _ _ q=>wp_bind.mpr (q.imp fun _ _ q=>(wp_some (Q:=RL)).mpr q)⟩
def qT(RB:Bool->M->Prop):D->M->Prop:=fun d O=>∃b,d=.bl b/\RB b O
theorem qT_:qT RB (.bl b) O↔RB b O:=⟨fun⟨_,e,q⟩=>by cases e;exact q,fun q=>⟨_,rfl,q⟩⟩
theorem w_T:Wp (vT ea B O) RB↔Wp (ea B O) (qT RB):=wp_bind.trans ⟨fun h=>h.imp fun d O q=>by
  obtain⟨b,Z6,e,q⟩:=q;cases d<;>cases e
  exact⟨_,rfl,q⟩,fun h=>h.imp fun d O q=>by obtain⟨b,rfl,q⟩:=q;exact wp_some.mpr q⟩
def qTr(RB:Bool->M->Prop):D->M->Prop:=fun d O=>∃b,tru O d=some b/\RB b O
theorem GG:qTr RB (.bl b) O↔RB b O:=⟨fun⟨_,e,q⟩=>by cases e;exact q,fun q=>⟨_,rfl,q⟩⟩
theorem G4:Wp (rH ea B O) RB↔Wp (ea B O) (qTr RB):=wp_bind.trans ⟨fun h=>h.imp fun d O q=>by
  obtain⟨b,e,q⟩:=wpo_bind.mp q;exact⟨b,e,wp_some.mp q⟩,fun h=>h.imp fun d O ⟨b,e,q⟩=>wpo_bind.mpr ⟨b,e,wp_some.mpr q⟩⟩
def GS(RB:Bool->M->Prop):Bool->M->Prop:=fun b O=>RB (!b) O
theorem Iq:GS RB b O↔RB (!b) O:=Iff.rfl
theorem Lk:Wp (tm ba B O) RB↔Wp (ba B O) (GS RB):=wp_bind.trans ⟨fun h=>h.imp fun _ _ q=>(wp_some (Q:=RB)).mp q,fun h=>h.imp fun _ _ q=>(wp_some (Q:=RB)).mpr q⟩
def DG(bb:BV)(B:G)(RB:Bool->M->Prop):Bool->M->Prop:=fun b O=>if b=true then Wp (bb B O) RB else RB false O
theorem LL:DG bb B RB true O↔Wp (bb B O) RB:=Iff.rfl
theorem HB:DG bb B RB false O↔RB false O:=Iff.rfl
theorem KY:Wp (vU ba bb B O) RB↔Wp (ba B O) (DG bb B RB):=wp_bind.trans ⟨fun h=>h.imp fun b _ q=>by cases b;exact(wp_some (Q:=RB)).mp q;exact q,fun h=>h.imp fun b _ q=>by cases b;exact(wp_some (Q:=RB)).mpr q;exact q⟩
def qOr(bb:BV)(B:G)(RB:Bool->M->Prop):Bool->M->Prop:=fun b O=>if b=true then RB true O else Wp (bb B O) RB
theorem Jl:qOr bb B RB true O↔RB true O:=Iff.rfl
theorem Mh:qOr bb B RB false O↔Wp (bb B O) RB:=Iff.rfl
theorem Im:Wp (bOr ba bb B O) RB↔Wp (ba B O) (qOr bb B RB):=wp_bind.trans ⟨fun h=>h.imp fun b _ q=>by cases b;exact q;exact(wp_some (Q:=RB)).mp q,fun h=>h.imp fun b _ q=>by cases b;exact q;exact(wp_some (Q:=RB)).mpr q⟩
theorem w_Yes:Wp (qJ B O) RB↔RB true O:=wp_some
def qIf(ea eb:EV)(B:G)(R:D->M->Prop):Bool->M->Prop:=fun b O=>if b=true then Wp (ea B O) R else Wp (eb B O) R
theorem IS:qIf ea eb B R true O↔Wp (ea B O) R:=Iff.rfl
theorem KH:qIf ea eb B R false O↔Wp (eb B O) R:=Iff.rfl
theorem GJ:Wp (vIf ba ea eb B O) R↔Wp (ba B O) (qIf ea eb B R):=wp_bind.trans ⟨fun h=>h.imp fun b _ q=>by cases b<;>exact q,fun h=>h.imp fun b _ q=>by cases b<;>exact q⟩
def kVA(eb:EV)(B:G)(d:D)(O:M):Fr:=match d with
 | .bl true=>eb B O
 | .bl false=>some (.bl false,O)
 |_=>none
def qVA(eb:EV)(B:G)(R:D->M->Prop):D->M->Prop:=fun d O=>Wp (kVA eb B d O) R
theorem Ki:qVA eb B R (.bl true) O↔Wp (eb B O) R:=Iff.rfl
theorem JB:Wp (Fv ea eb B O) R↔Wp (ea B O) (qVA eb B R):=wp_bind
def SW(eb:EV)(B:G)(d:D)(O:M):Fr:=match d with
 | .bl true=>some (.bl true,O)
 | .bl false=>eb B O
 |_=>none
def qVO(eb:EV)(B:G)(R:D->M->Prop):D->M->Prop:=fun d O=>Wp (SW eb B d O) R
theorem IJ:qVO eb B R (.bl true) O↔R (.bl true) O:=wp_some
theorem Ml:qVO eb B R (.bl false) O↔Wp (eb B O) R:=Iff.rfl
theorem IQ:Wp (vOr ea eb B O) R↔Wp (ea B O) (qVO eb B R):=wp_bind
def qm2(f:D->D->M->Fr)(eb:EV)(B:G)(R:D->M->Prop):D->M->Prop:=fun x O=>(∃l,rK O x=some l)/\Wp (eb B O) (q2b f x R)
theorem GU{f:D->D->M->Fr}:Wp (wE f ea eb B O) R↔Wp (ea B O) (qm2 f eb B R):=wp_bind.trans ⟨fun h=>h.imp fun _ _ q=>by obtain⟨l,e,q⟩:=wpo_bind.mp q;exact⟨⟨l,e⟩,wp_bind.mp q⟩,fun h=>h.imp fun _ _ ⟨⟨l,e⟩,q⟩=>wpo_bind.mpr ⟨l,e,wp_bind.mpr q⟩⟩
theorem OE{f:D->D->M->Fr}{k:Nat}(h:O[k]?=some (some (.lst ds))):qm2 f eb B R (.ref k) O↔Wp (eb B O) (q2b f (.ref k) R):=⟨fun q=>q.2,fun q=>⟨⟨_,xa h⟩,q⟩⟩
theorem GD:Wp (xV B O) RO↔RO none O:=wp_some
def qoS(RO:Option Int->M->Prop):D->M->Prop:=fun d O=>∃k,d=.int k/\RO (some k) O
theorem IU{k:Int}:qoS RO (.int k) O↔RO (some k) O:=⟨fun⟨_,e,q⟩=>by cases e;exact q,fun q=>⟨_,rfl,q⟩⟩
theorem Jh:Wp (wR ea B O) RO↔Wp (ea B O) (qoS RO):=wp_bind.trans ⟨fun h=>h.imp fun d O q=>by
  obtain⟨b,Z6,e,q⟩:=q;cases d<;>cases e
  exact⟨_,rfl,q⟩,fun h=>h.imp fun d O q=>by obtain⟨b,rfl,q⟩:=q;exact wp_some.mpr q⟩
def qs3(x:D)(l:Option Int)(R:D->M->Prop):Option Int->M->Prop:=fun h O=>Wp (fSl x l h O) R
theorem LH{l h:Option Int}:qs3 x l R h O↔Wp (fSl x l h O) R:=Iff.rfl
def qs2(hi:OV)(B:G)(x:D)(R:D->M->Prop):Option Int->M->Prop:=fun l O=>Wp (hi B O) (qs3 x l R)
theorem Gq{l:Option Int}:qs2 hi B x R l O↔Wp (hi B O) (qs3 x l R):=Iff.rfl
def qs1(lo hi:OV)(B:G)(R:D->M->Prop):D->M->Prop:=fun x O=>Wp (lo B O) (qs2 hi B x R)
theorem GQ:qs1 lo hi B R x O↔Wp (lo B O) (qs2 hi B x R):=Iff.rfl
theorem Kb:Wp (vSl ea lo hi B O) R↔Wp (ea B O) (qs1 lo hi B R):=wp_bind.trans ⟨fun h=>h.imp fun _ _ q=>(wp_bind.mp q).imp fun _ _ q=>wp_bind.mp q,fun h=>h.imp fun _ _ q=>wp_bind.mpr (q.imp fun _ _ q=>wp_bind.mpr q)⟩
theorem Kl:Wp (qA i d B O) RG↔RG (B.set i (some d)) O:=wp_some
theorem Jz:Wp (rM [] B O) RG↔RG B O:=wp_some
def qgc(gs:GsV)(ds:List D)(RG:G->M->Prop):G->M->Prop:=fun B O=>Wp (gs ds B O) RG
theorem LM:qgc gs ds RG B O↔Wp (gs ds B O) RG:=Iff.rfl
theorem GR:Wp (qN g gs (d::ds) B O) RG↔Wp (g d B O) (qgc gs ds RG):=wp_bind
theorem wJ(h:ds.length=n):Wp (rO n gs (.tup ds) B O) RG↔Wp (gs ds B O) RG:=by
 show Wp (if ds.length=n then gs ds B O else none) RG↔_;rw[if_pos h]
def qSq(sb:SV)(Q:Out->G->M->Prop):Out->G->M->Prop:=fun o B O=>match o with
 | .nx=>Ws (sb B O) Q
 |o=>Q o B O
theorem J7:qSq sb Q .nx B O↔Ws (sb B O) Q:=Iff.rfl
theorem J5:qSq sb Q (.rt d) B O↔Q (.rt d) B O:=Iff.rfl
theorem LZ:qSq sb Q .bk B O↔Q .bk B O:=Iff.rfl
theorem JE:qSq sb Q .ct B O↔Q .ct B O:=Iff.rfl
theorem A1:Ws (qE sa sb B O) Q↔Ws (sa B O) (qSq sb Q):=wss_bind.trans ⟨fun h=>h.imp fun o _ _ q=>by cases o<;>first|exact q|exact(ws_some (Q:=Q)).mp q,fun h=>h.imp fun o _ _ q=>by cases o<;>first|exact q|exact(ws_some (Q:=Q)).mpr q⟩
theorem Jw:Ws (sNx B O) Q↔Q .nx B O:=ws_some
def qEx(B:G)(Q:Out->G->M->Prop):D->M->Prop:=fun _ O=>Q .nx B O
theorem Ga:qEx B Q d O↔Q .nx B O:=Iff.rfl
theorem GE:Ws (uJ ea B O) Q↔Wp (ea B O) (qEx B Q):=ws_bind.trans ⟨fun h=>h.imp fun _ _ q=>ws_some.mp q,fun h=>h.imp fun _ _ q=>ws_some.mpr q⟩
def qRt(B:G)(Q:Out->G->M->Prop):D->M->Prop:=fun d O=>Q (.rt d) B O
theorem GH:qRt B Q d O↔Q (.rt d) B O:=Iff.rfl
theorem MA:Ws (qR ea B O) Q↔Wp (ea B O) (qRt B Q):=ws_bind.trans ⟨fun h=>h.imp fun _ _ q=>ws_some.mp q,fun h=>h.imp fun _ _ q=>ws_some.mpr q⟩
def qSI(sa sb:SV)(B:G)(Q:Out->G->M->Prop):Bool->M->Prop:=fun b O=>if b=true then Ws (sa B O) Q else Ws (sb B O) Q
theorem LJ:qSI sa sb B Q true O↔Ws (sa B O) Q:=Iff.rfl
theorem Kj:qSI sa sb B Q false O↔Ws (sb B O) Q:=Iff.rfl
theorem IY:Ws (sIf ba sa sb B O) Q↔Wp (ba B O) (qSI sa sb B Q):=ws_bind.trans ⟨fun h=>h.imp fun b _ q=>by cases b<;>exact q,fun h=>h.imp fun b _ q=>by cases b<;>exact q⟩
def qNx(Q:Out->G->M->Prop):G->M->Prop:=fun B O=>Q .nx B O
theorem GL:qNx Q B O↔Q .nx B O:=Iff.rfl
def qAs(g:GV)(B:G)(Q:Out->G->M->Prop):D->M->Prop:=fun d O=>Wp (g d B O) (qNx Q)
theorem KO:qAs g B Q d O↔Wp (g d B O) (qNx Q):=Iff.rfl
theorem Fs:Ws (qQ ea g B O) Q↔Wp (ea B O) (qAs g B Q):=ws_bind.trans ⟨fun h=>h.imp fun _ _ q=>(ws_bind.mp q).imp fun _ _ q=>ws_some.mp q,fun h=>h.imp fun _ _ q=>ws_bind.mpr (q.imp fun _ _ q=>ws_some.mpr q)⟩
def qFo(g:GV)(sb:SV)(B:G)(Q:Out->G->M->Prop):List D×Ck->M->Prop:=fun s O=>Ws (rJ s.2 g sb s.1 B O) Q
theorem Ha{c:Ck}:qFo g sb B Q (ds,c) O↔Ws (rJ c g sb ds B O) Q:=Iff.rfl
theorem Ni:Ws (uk iv g sb B O) Q↔Wp (iv B O) (qFo g sb B Q):=ws_bind
def qIL(RI:List D×Ck->M->Prop):D->M->Prop:=fun d O=>∃s,lsC O d=some s/\RI s O
theorem Ik:Wp (ivL ea B O) RI↔Wp (ea B O) (qIL RI):=wp_bind.trans ⟨fun h=>h.imp fun d O q=>by
  obtain⟨b,e,q⟩:=wpo_bind.mp q;exact⟨b,e,wp_some.mp q⟩,fun h=>h.imp fun d O ⟨b,e,q⟩=>wpo_bind.mpr ⟨b,e,wp_some.mpr q⟩⟩
theorem Gz:qIL RI (.lst ds) O↔RI (ds,none) O:=⟨fun⟨_,e,q⟩=>by cases e;exact q,fun q=>⟨_,rfl,q⟩⟩
def qIR(RI:List D×Ck->M->Prop):D->M->Prop:=fun d O=>∃k,d=.int k/\Wp (ivR (vC (.int k)) [] O) RI
theorem GZ:Wp (ivR ea B O) RI↔Wp (ea B O) (qIR RI):=by
 refine wp_bind.trans ⟨fun h=>h.imp fun d O q=>?_,fun h=>h.imp fun d O q=>?_⟩
 ·obtain⟨b,Z6,e,q⟩:=q;cases d with
  |int k=>exact⟨_,rfl,_,_,e,q⟩
  |_=>cases e
 ·obtain⟨b,rfl,q⟩:=q;exact q
theorem Ao{c:Ck}(I:List D->G->M->Prop)(ds:List D)(h0:I ds B O)
  (hs:∀d r B O,I (d::r) B O->Wp (g d B O) fun ZZ Z5=>Ws (sb ZZ Z5) fun o ZW Z4=>match o with
   | .nx=>q0 c Z4/\I r ZW Z4
   | .ct=>q0 c Z4/\I r ZW Z4
   | .bk=>Q .nx ZW Z4
   | .rt d=>Q (.rt d) ZW Z4)
  (hq:∀B O,I [] B O->Q .nx B O):Ws (rJ c g sb ds B O) Q:=by
 induction ds generalizing B O with
 |nil=>exact ws_some.mpr (hq _ _ h0)
 |cons d r ih=>
  refine ws_bind.mpr ((hs d r B O h0).imp fun ZZ Z5 h=>wss_bind.mpr (h.imp fun o ZW Z4 h=>?_));cases o with
  |nx=>show Ws (chk _ _) Q;rw[tU h.1];exact ih h.2
  |ct=>show Ws (chk _ _) Q;rw[tU h.1];exact ih h.2
  |bk=>exact ws_some.mpr h
  |rt d=>exact ws_some.mpr h
theorem UR{c:BV}(I:G->M->Prop)(f:G->M->Nat)(N:Nat)(h0:I B O)(hN:f B O<N)
  (hs:∀B O,I B O->Wp (c B O) fun b Z5=>if b=true then Ws (sb B Z5) fun o ZW Z4=>match o with
   | .nx=>I ZW Z4/\f ZW Z4<f B O
   | .ct=>I ZW Z4/\f ZW Z4<f B O
   | .bk=>Q .nx ZW Z4
   | .rt d=>Q (.rt d) ZW Z4 else Q .nx B Z5):Ws (uF c sb N B O) Q:=by
 induction N generalizing B O with
 |zero=>omega
 |succ N ih=>
  refine ws_bind.mpr ((hs B O h0).imp fun b Z5 h=>?_);cases b with
  |false=>exact ws_some.mpr h
  |true=>
   refine wss_bind.mpr (Ws.imp h fun o ZW Z4 h=>?_);cases o with
   |nx=>exact ih (B:=ZW) (O:=Z4) h.1 (by have:=h.2;omega)
   |ct=>exact ih (B:=ZW) (O:=Z4) h.1 (by have:=h.2;omega)
   |bk=>exact ws_some.mpr h
   |rt d=>exact ws_some.mpr h
def qCo(own:List Str)(cap:List (Str×Nat))(g:GV)(tc:BV)(te:EV)(B:G)(R:D->M->Prop):List D×Ck->M->Prop:=fun s O=>s.1.length<=1000000/\Wp (rE s.2 g tc te s.1 (rB own cap B) O) fun rs O=>R (.lst rs) O
theorem u9{own:List Str}{cap:List (Str×Nat)}{c:Ck}{tc:BV}{te:EV}:qCo own cap g tc te B R (ds,c) O↔ds.length<=1000000/\Wp (rE c g tc te ds (rB own cap B) O) fun rs O=>R (.lst rs) O:=Iff.rfl
theorem KC{own:List Str}{cap:List (Str×Nat)}{tc:BV}{te:EV}:Wp (rL own cap iv g tc te B O) R↔Wp (iv B O) (qCo own cap g tc te B R):=by
 rw[B8];cases h:iv B O with
 |none=>exact⟨fun⟨_,_,e,_⟩=>(by cases e),fun⟨_,_,e,_⟩=>(by cases e)⟩
 |some p=>
  obtain⟨⟨its,c⟩,Z5⟩:=p;rw[wp_some,Ca,u9];by_cases hl:its.length<=1000000
  ·rw[if_pos hl];cases e:rE c g tc te its (rB own cap B) Z5 with
   |none=>exact⟨fun⟨_,_,e,_⟩=>(by cases e),fun⟨_,_,_,e,_⟩=>(by cases e)⟩
   |some q=>exact⟨fun⟨_,_,e,h⟩=>by cases e;exact⟨hl,_,_,rfl,h⟩,fun⟨_,_,_,e,h⟩=>by cases e;exact⟨_,_,rfl,h⟩⟩
  ·rw[if_neg hl];exact⟨fun⟨_,_,e,_⟩=>(by cases e),fun h=>absurd h.1 hl⟩
theorem comp_inv{c:Ck}{tc:BV}{te:EV}(I:List D->List D->G->M->Prop)(ds:List D){R:List D->M->Prop}(h0:I [] ds B O)
  (hs:∀done d r B O,I done (d::r) B O->Wp (g d B O) fun ZZ Z5=>Wp (tc ZZ Z5) fun b Z4=>if b=true then Wp (te ZZ Z4) fun x ZQ=>q0 c ZQ/\I (done++[x]) r ZZ ZQ else q0 c Z4/\I done r ZZ Z4)
  (hq:∀done B O,I done [] B O->R done O):Wp (rE c g tc te ds B O) R:=by
 suffices H:∀(ds done:List D) (B:G) (O:M),I done ds B O->Wp (rE c g tc te ds B O) fun rs O=>R (done++rs) O from(H ds [] B O h0).imp fun rs O h=>h
 intro ds;induction ds with
 |nil=>intro done B O h;exact wp_some.mpr (by simpa using hq _ _ _ h)
 |cons d r ih=>
  intro done B O h;refine wp_bind.mpr ((hs done d r B O h).imp fun ZZ Z5 h=>wp_bind.mpr (h.imp fun b Z4 h=>?_));cases b with
  |true=>
   refine wp_bind.mpr (Wp.imp h fun x ZQ h=>?_);show Wp (chk _ _) _;rw[tU h.1];refine wp_bind.mpr ((ih (done++[x]) ZZ ZQ h.2).imp fun rs Zw h=>wp_some.mpr ?_);simpa using h
  |false=>
   show Wp (chk _ _) _;have h:q0 c Z4/\I done r ZZ Z4:=h;rw[tU h.1];exact ih done ZZ Z4 h.2
def DX(R:D->M->Prop):Out->G->M->Prop:=fun o _ O=>match o with
 | .rt d=>R d O
 | .nx=>R .non O
 |_=>False
theorem Nm:DX R (.rt d) B O↔R d O:=Iff.rfl
theorem GT:DX R .nx B O↔R .non O:=Iff.rfl
theorem tj(h:ds.length=m):Wp (rC n m sa ds O) R↔Ws (sa (ds.map some++List.replicate (n - ds.length) none) O) (DX R):=by
 unfold rC;rw[if_pos h];refine wps_bind.trans ⟨fun h=>h.imp fun o _ _ q=>?_,fun h=>h.imp fun o _ _ q=>?_⟩
 ·cases o with
  |rt d=>exact(wp_some (Q:=R)).mp q
  |nx=>exact(wp_some (Q:=R)).mp q
  |bk=>obtain⟨_,_,e,_⟩:=q;cases e
  |ct=>obtain⟨_,_,e,_⟩:=q;cases e
 ·cases o with
  |rt d=>exact(wp_some (Q:=R)).mpr q
  |nx=>exact(wp_some (Q:=R)).mpr q
  |bk=>exact absurd q id
  |ct=>exact absurd q id
theorem Iw{k:Nat}(h:k<=1000000000):qIR RI (.int (k:Int)) O↔RI (rl 0 k,none) O:=by
 have e:ivR (vC (.int (k:Int))) [] O=some ((rl 0 k,none),O):=by
  show(if -1000000000<=(k:Int)/\(k:Int)<=1000000000 then some ((rl 0 ((k:Int).toNat),(none:Ck)),O) else none)=_;rw[if_pos (by omega)];rfl
 constructor
 ·rintro⟨_,e',q⟩;cases e';rw[e] at q;exact wp_some.mp q
 ·intro q;exact⟨_,rfl,by rw[e];exact wp_some.mpr q⟩
theorem Ix{k m:Nat}(h:k<m):(rl 0 m).drop k=.int (k:Int)::(rl 0 m).drop (k+1):=by
 have hl:(rl 0 m).length=m:=by simp[rl]
 rw[XS (by omega)];congr 1;simp[rl]
theorem SN{te:EV}(I:Nat->List D->G->M->Prop){m:Nat}{R:List D->M->Prop}(h0:I 0 [] B O)
  (hs:∀k done B O,k<m->I k done B O->Wp (g (.int (k:Int)) B O) fun ZZ Z5=>Wp (te ZZ Z5) fun x ZQ=>I (k+1) (done++[x]) ZZ ZQ)
  (hq:∀done B O,I m done B O->R done O):Wp (rE none g qJ te (rl 0 m) B O) R:=by
 have hl:(rl 0 m).length=m:=by simp[rl]
 refine comp_inv (fun done r B O=>∃k,k<=m/\r=(rl 0 m).drop k/\I k done B O) _ ⟨0,by omega,rfl,h0⟩ ?_ ?_
 ·rintro done d r B O ⟨k,hk,e,h⟩;have hk':k<m:=by
   rcases Nat.lt_or_ge k m with z|z
   ·exact z
   ·rw[X5 (by omega)] at e;cases e
  rw[Ix hk'] at e;cases e;refine(hs k done B O hk' h).imp fun ZZ Z5 h=>?_;refine w_Yes.mpr ?_;show Wp _ _;exact h.imp fun x ZQ h=>⟨trivial,k+1,hk',rfl,h⟩
 ·rintro done B O ⟨k,hk,e,h⟩;have:k=m:=by
   rcases Nat.lt_or_ge k m with z|z
   ·rw[Ix z] at e;cases e
   ·omega
  subst this;exact hq _ _ _ h
theorem FZ{i j:Int}:sf (.int i) (.int j) O=some (.int (i+j),O):=rfl
theorem GA{i j:Int}:yl (.int i) (.int j) O=some (.int (i - j),O):=rfl
theorem Km{i j:Int}:fGt (.int i) (.int j) O=some (.bl (decide (j<i)),O):=rfl
theorem Ic{i j:Int}:fLt (.int i) (.int j) O=some (.bl (decide (i<j)),O):=rfl
theorem Hv{i j:Int}:fGe (.int i) (.int j) O=some (.bl (decide (j<=i)),O):=rfl
theorem Ks{i j:Int}:fLe (.int i) (.int j) O=some (.bl (decide (i<=j)),O):=rfl
theorem K4{i j:Int}:fEq (.int i) (.int j) O=some (.bl (decide (i=j)),O):=by unfold fEq;rw[Iu];rfl
theorem EN{i j:Int}:fNe (.int i) (.int j) O=some (.bl (!decide (i=j)),O):=by unfold fNe;rw[Iu];rfl
theorem M8{i j:Int}:zE (.int i) (.int j) O=some (.int (if j<i then j else i),O):=rfl
theorem Ly{i j:Int}:DI (.int i) (.int j) O=some (.int (if j>i then j else i),O):=rfl
theorem KK{i:Int}:vO (.int i) O=some (.int (-i),O):=rfl
theorem Mt{b:Bool}:Jp (.bl b) O=some (.bl (!b),O):=rfl
theorem Hr{b:Bool}:yc (.bl b) O=some (.int (if b=true then 1 else 0),O):=zs4
theorem uW(h:ds.length<=1000):sj ds O=some (.tup ds,O):=if_pos h
theorem uV(h:ds.length<=1000):sd ds O=some (.lst ds,O):=if_pos h
theorem Vs(h:ds.length<=1000):uz ds O=some (.ref O.length,O++[some (.lst ds)]):=if_pos h
end
section
variable {B:G} {O:M} {ea eo ei ev:EV} {el:LV} {k n:Nat} {d x y:D} {ds:List D} {o:Option D} {C:Addr} {f m:Str} {fs:List (Str×D)} {g:C0}
variable {R:D->M->Prop} {RI:List D×Ck->M->Prop} {Q:Out->G->M->Prop}
def qIT(RI:List D×Ck->M->Prop):D->M->Prop:=fun d O=>∃s,uU d=some s/\RI (s,none) O
theorem IA:Wp (ivT ea B O) RI↔Wp (ea B O) (qIT RI):=wp_bind.trans ⟨fun h=>h.imp fun d O q=>by
  obtain⟨b,e,q⟩:=wpo_bind.mp q;exact⟨b,e,wp_some.mp q⟩,fun h=>h.imp fun d O ⟨b,e,q⟩=>wpo_bind.mpr ⟨b,e,wp_some.mpr q⟩⟩
theorem Jr:qIT RI (.tup ds) O↔RI (ds,none) O:=⟨fun⟨_,e,q⟩=>by cases e;exact q,fun q=>⟨_,rfl,q⟩⟩
theorem Ag(h:O[k]?=some (some (.ins C fs)))(hf:fs.lookup f=some d):sW C f (.ref k) O=some (d,O):=by
 unfold sW;simp only[h,if_true,hf];rfl
def HV(g:C0)(d:D)(R:D->M->Prop):List D->M->Prop:=fun ds O=>Wp (g (d::ds) O) R
theorem Jv:HV g d R ds O↔Wp (g (d::ds) O) R:=Iff.rfl
def qMe(C:Addr)(m:Str)(g:C0)(el:LV)(B:G)(R:D->M->Prop):D->M->Prop:=fun d O=>Wp (if noM O C m d=true then(el B O).bind fun q=>g (d::q.1) q.2 else none) R
theorem Gc:Wp (vE C m g eo el B O) R↔Wp (eo B O) (qMe C m g el B R):=wp_bind
theorem xK(h:O[k]?=some (some (.ins C fs)))(hf:fs.lookup m=none):qMe C m g el B R (.ref k) O↔Wp (el B O) (HV g (.ref k) R):=by
 have e:noM O C m (.ref k)=true:=by simp[noM,h,hf]
 unfold qMe;rw[if_pos e];exact wp_bind
def qMk(C:Addr)(g:C0)(R:D->M->Prop):List D->M->Prop:=fun ds O=>Wp (g (.ref O.length::ds) (O++[some (.ins C [])])) fun d Z6=>d=.non/\R (.ref O.length) Z6
theorem OI:qMk C g R ds O↔Wp (g (.ref O.length::ds) (O++[some (.ins C [])])) fun d Z6=>d=.non/\R (.ref O.length) Z6:=Iff.rfl
theorem Pj(h:Wp (el B O) (qMk C g R)):Wp (AZ C g el B O) R:=wp_bind.mpr (h.imp fun ds O q=>wp_bind.mpr (q.imp fun d Z6 ⟨e,q⟩=>by subst e;exact wp_some.mpr q))
def qF2(C:Addr)(f:Str)(x:D)(B:G)(Q:Out->G->M->Prop):D->M->Prop:=fun d O=>Ws (match d with
 | .ref k=>match O[k]? with
  |some (some (.ins C' fs))=>if C'=C/\fs.length<1000 then some (.nx,B,O.set k (some (.ins C (sr f x fs)))) else none
  |_=>none
 |_=>none) Q
def qF1(C:Addr)(f:Str)(eo:EV)(B:G)(Q:Out->G->M->Prop):D->M->Prop:=fun x O=>Wp (eo B O) (qF2 C f x B Q)
theorem LB:qF1 C f eo B Q x O↔Wp (eo B O) (qF2 C f x B Q):=Iff.rfl
theorem II:Ws (xJ C f eo ev B O) Q↔Wp (ev B O) (qF1 C f eo B Q):=ws_bind.trans ⟨fun h=>h.imp fun _ _ q=>ws_bind.mp q,fun h=>h.imp fun _ _ q=>ws_bind.mpr q⟩
theorem z9(h:O[k]?=some (some (.ins C fs)))(hl:fs.length<1000):qF2 C f x B Q (.ref k) O↔Q .nx B (O.set k (some (.ins C (sr f x fs)))):=by
 unfold qF2;simp only[h,hl,and_self,if_true];exact ws_some
def qN3(v o:D)(B:G)(Q:Out->G->M->Prop):D->M->Prop:=fun y O=>Ws ((wj y).bind fun k=>(vz O o).bind fun kvs=>match o with
 | .ref n=>if kvs.length<16000000 then some (.nx,B,O.set n (some (.dN (t3 kvs k v)))) else none
 |_=>none) Q
def qN2(ei:EV)(v:D)(B:G)(Q:Out->G->M->Prop):D->M->Prop:=fun o O=>Wp (ei B O) (qN3 v o B Q)
theorem HZ:qN2 ei x B Q d O↔Wp (ei B O) (qN3 x d B Q):=Iff.rfl
def qN1(eo ei:EV)(B:G)(Q:Out->G->M->Prop):D->M->Prop:=fun v O=>Wp (eo B O) (qN2 ei v B Q)
theorem Mw:qN1 eo ei B Q x O↔Wp (eo B O) (qN2 ei x B Q):=Iff.rfl
theorem MI:Ws (FO eo ei ev B O) Q↔Wp (ev B O) (qN1 eo ei B Q):=ws_bind.trans ⟨fun h=>h.imp fun _ _ q=>(ws_bind.mp q).imp fun _ _ q=>ws_bind.mp q,fun h=>h.imp fun _ _ q=>ws_bind.mpr (q.imp fun _ _ q=>ws_bind.mpr q)⟩
theorem Ff{kvs:List (NK×D)}(h:O[k]?=some (some (.dN kvs))):vz O (.ref k)=some kvs:=by simp only[vz,h]
theorem CI{ns:List Int}{i:Int}:wj (.tup [.tup (ns.map D.int),.int i])=some (ns,i):=by
 have:rD inI (ns.map D.int)=some ns:=by
  have:=xl (f:=inI) (g:=D.int) (h:=id) (l:=ns) (fun x _=>rfl);simpa using this
 simp only[wj,this];rfl
theorem W8{kvs:List (NK×D)}{ns:List Int}{i:Int}(h:O[k]?=some (some (.dN kvs)))(hl:kvs.length<16000000):qN3 x (.ref k) B Q (.tup [.tup (ns.map D.int),.int i]) O↔Q .nx B (O.set k (some (.dN (t3 kvs (ns,i) x)))):=by
 unfold qN3;rw[CI,Ff h];simp only[Option.bind_some,hl,if_true];exact ws_some
theorem Tp{kvs:List (NK×D)}{ns:List Int}{i:Int}(h:O[k]?=some (some (.dN kvs))):yV true (.tup [.tup (ns.map D.int),.int i]) (.ref k) O=some (.bl (!(rS kvs (ns,i)).isSome),O):=by
 unfold yV;rw[CI,Ff h];simp
theorem Db{kvs:List (NK×D)}{ns:List Int}{i:Int}(h:O[k]?=some (some (.dN kvs)))(hv:rS kvs (ns,i)=some d):AU (.ref k) (.tup [.tup (ns.map D.int),.int i]) O=some (d,O):=by
 unfold AU;rw[CI,Ff h];simp[hv]
theorem Pi{kvs:List (NK×D)}{k:NK}{d:D}(h:rS kvs k=none):rS (t3 kvs k d) k=some d/\(t3 kvs k d)=kvs++[(k,d)]:=by
 have hn:∀p∈kvs,p.1≠k:=fun p hp e=>by
  have:(kvs.find? fun kv=>decide (kv.1=k))=none:=by
   unfold rS at h;cases q:kvs.find? fun kv=>decide (kv.1=k) with
   |none=>rfl
   |some z=>rw[q] at h;cases h
  have:=Yq.mp this p hp;simp[e] at this
 have ha:(kvs.any fun kv=>decide (kv.1=k))=false:=by
  rw[List.any_eq_false];intro p hp;simpa using hn p hp
 have e:t3 kvs k d=kvs++[(k,d)]:=by unfold t3;rw[ha];rfl
 refine⟨?_,e⟩;rw[e];unfold rS;rw[List.find?_append];have:(kvs.find? fun kv=>decide (kv.1=k))=none:=Yq.mpr fun p hp=>by simpa using hn p hp
 rw[this];simp
theorem Cg{kvs:List (NK×D)}{k:NK}{d:D}(h:rS kvs k=some d):(k,d)∈kvs:=by
 unfold rS at h;cases q:kvs.find? fun kv=>decide (kv.1=k) with
 |none=>rw[q] at h;cases h
 |some z=>
  rw[q] at h;cases h;have h1:=Yp q;have h2:=YM q;simp at h2;rw[←h2];exact h1
end
def Wt(r:Option (OutX×G×M))(Q:OutX->G->M->Prop):Prop:=∃o B O,r=some (o,B,O)/\Q o B O
section
variable {α β:Type} {B:G} {O:M} {ex:EX} {bx:BX} {bv:BV} {el:LV} {lx:LX} {sx sy:SX} {sv:SV} {C:Addr} {d:D} {ds:List D} {b:Bool} {g:GV} {f:FX} {n m:Nat}
variable {R:Rs D->M->Prop} {RB:Rs Bool->M->Prop} {RL:Rs (List D)->M->Prop} {Q:OutX->G->M->Prop}
theorem Wt.imp{r:Option (OutX×G×M)}{Q R:OutX->G->M->Prop}(h:Wt r Q)(f:∀o B O,Q o B O->R o B O):Wt r R:=let ⟨a,B,O,e,q⟩:=h;⟨a,B,O,e,f a B O q⟩
theorem wt_some{o:OutX}:Wt (some (o,B,O)) Q↔Q o B O:=⟨fun⟨_,_,_,e,q⟩=>by cases e;exact q,fun q=>⟨_,_,_,rfl,q⟩⟩
theorem wtp_bind{r:Option (α×M)}{f:α×M->Option (OutX×G×M)}:Wt (r.bind f) Q↔Wp r fun a O=>Wt (f (a,O)) Q:=by
 cases r with
 |none=>exact⟨fun⟨_,_,_,e,_⟩=>(by cases e),fun⟨_,_,e,_⟩=>(by cases e)⟩
 |some p=>exact⟨fun h=>⟨p.1,p.2,rfl,h⟩,fun⟨_,_,e,h⟩=>by cases e;exact h⟩
theorem wtt_bind{r:Option (OutX×G×M)}{f:OutX×G×M->Option (OutX×G×M)}:Wt (r.bind f) Q↔Wt r fun o B O=>Wt (f (o,B,O)) Q:=by
 cases r with
 |none=>exact⟨fun⟨_,_,_,e,_⟩=>(by cases e),fun⟨_,_,_,e,_⟩=>(by cases e)⟩
 |some p=>exact⟨fun h=>⟨p.1,p.2.1,p.2.2,rfl,h⟩,fun⟨_,_,_,e,h⟩=>by cases e;exact h⟩
theorem wts_bind{r:Option (Out×G×M)}{f:Out×G×M->Option (OutX×G×M)}:Wt (r.bind f) Q↔Ws r fun o B O=>Wt (f (o,B,O)) Q:=by
 cases r with
 |none=>exact⟨fun⟨_,_,_,e,_⟩=>(by cases e),fun⟨_,_,_,e,_⟩=>(by cases e)⟩
 |some p=>exact⟨fun h=>⟨p.1,p.2.1,p.2.2,rfl,h⟩,fun⟨_,_,_,e,h⟩=>by cases e;exact h⟩
theorem wpt_bind{r:Option (OutX×G×M)}{f:OutX×G×M->Option (β×M)}{R:β->M->Prop}:Wp (r.bind f) R↔Wt r fun o B O=>Wp (f (o,B,O)) R:=by
 cases r with
 |none=>exact⟨fun⟨_,_,e,_⟩=>(by cases e),fun⟨_,_,_,e,_⟩=>(by cases e)⟩
 |some p=>exact⟨fun h=>⟨p.1,p.2.1,p.2.2,rfl,h⟩,fun⟨_,_,_,e,h⟩=>by cases e;exact h⟩
def qUp(R:Rs α->M->Prop):α->M->Prop:=fun a O=>R (.ok a) O
theorem Jg{a:α}{R:Rs α->M->Prop}:qUp R a O↔R (.ok a) O:=Iff.rfl
theorem Kw:Wp (upB bv B O) RB↔Wp (bv B O) (qUp RB):=wp_bind.trans ⟨fun h=>h.imp fun _ _ q=>(wp_some (Q:=RB)).mp q,fun h=>h.imp fun _ _ q=>(wp_some (Q:=RB)).mpr q⟩
theorem LS:Wp (upL el B O) RL↔Wp (el B O) (qUp RL):=wp_bind.trans ⟨fun h=>h.imp fun _ _ q=>(wp_some (Q:=RL)).mp q,fun h=>h.imp fun _ _ q=>(wp_some (Q:=RL)).mpr q⟩
def qUS(Q:OutX->G->M->Prop):Out->G->M->Prop:=fun o B O=>Q (upO o) B O
theorem Mv:qUS Q .nx B O↔Q .nx B O:=Iff.rfl
theorem Gk:qUS Q (.rt d) B O↔Q (.rt d) B O:=Iff.rfl
theorem Hw:Wt (upS sv B O) Q↔Ws (sv B O) (qUS Q):=wts_bind.trans ⟨fun h=>h.imp fun _ _ _ q=>(wt_some (Q:=Q)).mp q,fun h=>h.imp fun _ _ _ q=>(wt_some (Q:=Q)).mpr q⟩
def qLX(f:FX)(R:Rs D->M->Prop):Rs (List D)->M->Prop:=fun r O=>match r with
 | .ok ds=>Wp (f ds O) R
 | .ex C=>R (.ex C) O
theorem K2:qLX f R (.ok ds) O↔Wp (f ds O) R:=Iff.rfl
theorem Kd:qLX f R (.ex C) O↔R (.ex C) O:=Iff.rfl
theorem LD:Wp (vLX f lx B O) R↔Wp (lx B O) (qLX f R):=wp_bind.trans ⟨fun h=>h.imp fun r _ q=>by cases r;exact q;exact(wp_some (Q:=R)).mp q,fun h=>h.imp fun r _ q=>by cases r;exact q;exact(wp_some (Q:=R)).mpr q⟩
def Au(d:D)(RL:Rs (List D)->M->Prop):Rs (List D)->M->Prop:=fun r O=>match r with
 | .ok ds=>RL (.ok (d::ds)) O
 | .ex C=>RL (.ex C) O
theorem GK:Au d RL (.ok ds) O↔RL (.ok (d::ds)) O:=Iff.rfl
theorem KZ:Au d RL (.ex C) O↔RL (.ex C) O:=Iff.rfl
def qcX(lx:LX)(B:G)(RL:Rs (List D)->M->Prop):Rs D->M->Prop:=fun r O=>match r with
 | .ok d=>Wp (lx B O) (Au d RL)
 | .ex C=>RL (.ex C) O
theorem M1:qcX lx B RL (.ok d) O↔Wp (lx B O) (Au d RL):=Iff.rfl
theorem JA:qcX lx B RL (.ex C) O↔RL (.ex C) O:=Iff.rfl
def qNX(RB:Rs Bool->M->Prop):Rs Bool->M->Prop:=fun r O=>match r with
 | .ok b=>RB (.ok (!b)) O
 | .ex C=>RB (.ex C) O
theorem IE:qNX RB (.ok b) O↔RB (.ok (!b)) O:=Iff.rfl
theorem LU:qNX RB (.ex C) O↔RB (.ex C) O:=Iff.rfl
def qTX(RB:Rs Bool->M->Prop):Rs D->M->Prop:=fun r O=>match r with
 | .ok d=>∃b,d=.bl b/\RB (.ok b) O
 | .ex C=>RB (.ex C) O
theorem Jt:qTX RB (.ex C) O↔RB (.ex C) O:=Iff.rfl
def BD(sy:SX)(Q:OutX->G->M->Prop):OutX->G->M->Prop:=fun o B O=>match o with
 | .nx=>Wt (sy B O) Q
 |o=>Q o B O
theorem Lu:BD sy Q .nx B O↔Wt (sy B O) Q:=Iff.rfl
theorem K1:BD sy Q (.rt d) B O↔Q (.rt d) B O:=Iff.rfl
theorem J9:BD sy Q (.ex C) B O↔Q (.ex C) B O:=Iff.rfl
theorem MU:Wt (rY sx sy B O) Q↔Wt (sx B O) (BD sy Q):=wtt_bind.trans ⟨fun h=>h.imp fun o _ _ q=>by cases o<;>first|exact q|exact(wt_some (Q:=Q)).mp q,fun h=>h.imp fun o _ _ q=>by cases o<;>first|exact q|exact(wt_some (Q:=Q)).mpr q⟩
def qEX(B:G)(Q:OutX->G->M->Prop):Rs D->M->Prop:=fun r O=>match r with
 | .ok _=>Q .nx B O
 | .ex C=>Q (.ex C) B O
theorem Kx:qEX B Q (.ok d) O↔Q .nx B O:=Iff.rfl
theorem Hn:qEX B Q (.ex C) O↔Q (.ex C) B O:=Iff.rfl
theorem Mi:Wt (vG ex B O) Q↔Wp (ex B O) (qEX B Q):=wtp_bind.trans ⟨fun h=>h.imp fun r _ q=>by cases r<;>exact(wt_some (Q:=Q)).mp q,fun h=>h.imp fun r _ q=>by cases r<;>exact(wt_some (Q:=Q)).mpr q⟩
def qRX(B:G)(Q:OutX->G->M->Prop):Rs D->M->Prop:=fun r O=>match r with
 | .ok d=>Q (.rt d) B O
 | .ex C=>Q (.ex C) B O
theorem Ia:qRX B Q (.ok d) O↔Q (.rt d) B O:=Iff.rfl
theorem Mf:qRX B Q (.ex C) O↔Q (.ex C) B O:=Iff.rfl
theorem IX:Wt (u7 ex B O) Q↔Wp (ex B O) (qRX B Q):=wtp_bind.trans ⟨fun h=>h.imp fun r _ q=>by cases r<;>exact(wt_some (Q:=Q)).mp q,fun h=>h.imp fun r _ q=>by cases r<;>exact(wt_some (Q:=Q)).mpr q⟩
def qIX(sx sy:SX)(B:G)(Q:OutX->G->M->Prop):Rs Bool->M->Prop:=fun r O=>match r with
 | .ok c=>if c=true then Wt (sx B O) Q else Wt (sy B O) Q
 | .ex C=>Q (.ex C) B O
theorem M6:qIX sx sy B Q (.ok true) O↔Wt (sx B O) Q:=Iff.rfl
theorem HY:qIX sx sy B Q (.ok false) O↔Wt (sy B O) Q:=Iff.rfl
theorem LP:qIX sx sy B Q (.ex C) O↔Q (.ex C) B O:=Iff.rfl
theorem Np:Wt (tP bx sx sy B O) Q↔Wp (bx B O) (qIX sx sy B Q):=wtp_bind.trans ⟨fun h=>h.imp fun r _ q=>by
  cases r with
  |ok c=>cases c<;>exact q
  |ex C=>exact(wt_some (Q:=Q)).mp q,fun h=>h.imp fun r _ q=>by
  cases r with
  |ok c=>cases c<;>exact q
  |ex C=>exact(wt_some (Q:=Q)).mpr q⟩
def CC(Q:OutX->G->M->Prop):G->M->Prop:=fun B O=>Q .nx B O
theorem JU:CC Q B O↔Q .nx B O:=Iff.rfl
def qAX(g:GV)(B:G)(Q:OutX->G->M->Prop):Rs D->M->Prop:=fun r O=>match r with
 | .ok d=>Wp (g d B O) (CC Q)
 | .ex C=>Q (.ex C) B O
theorem ID:qAX g B Q (.ok d) O↔Wp (g d B O) (CC Q):=Iff.rfl
theorem Mg:qAX g B Q (.ex C) O↔Q (.ex C) B O:=Iff.rfl
theorem GW:Wt (El ex g B O) Q↔Wp (ex B O) (qAX g B Q):=by
 refine wtp_bind.trans ⟨fun h=>h.imp fun r O q=>?_,fun h=>h.imp fun r O q=>?_⟩
 ·cases r with
  |ok d=>exact(wtp_bind.mp q).imp fun _ _ q=>(wt_some (Q:=Q)).mp q
  |ex C=>exact(wt_some (Q:=Q)).mp q
 ·cases r with
  |ok d=>exact wtp_bind.mpr (Wp.imp q fun _ _ q=>(wt_some (Q:=Q)).mpr q)
  |ex C=>exact(wt_some (Q:=Q)).mpr q
def A2(R:Rs D->M->Prop):OutX->G->M->Prop:=fun o _ O=>match o with
 | .rt d=>R (.ok d) O
 | .nx=>R (.ok .non) O
 | .ex C=>R (.ex C) O
 |_=>False
theorem Hx:A2 R (.rt d) B O↔R (.ok d) O:=Iff.rfl
theorem Nd:A2 R .nx B O↔R (.ok .non) O:=Iff.rfl
theorem K3:A2 R (.ex C) B O↔R (.ex C) O:=Iff.rfl
theorem yP(h:ds.length=m):Wp (sF n m sx ds O) R↔Wt (sx (ds.map some++List.replicate (n - ds.length) none) O) (A2 R):=by
 unfold sF;rw[if_pos h];refine wpt_bind.trans ⟨fun h=>h.imp fun o _ _ q=>?_,fun h=>h.imp fun o _ _ q=>?_⟩
 ·cases o with
  |rt d=>exact(wp_some (Q:=R)).mp q
  |nx=>exact(wp_some (Q:=R)).mp q
  |ex C=>exact(wp_some (Q:=R)).mp q
  |bk=>obtain⟨_,_,e,_⟩:=q;cases e
  |ct=>obtain⟨_,_,e,_⟩:=q;cases e
 ·cases o with
  |rt d=>exact(wp_some (Q:=R)).mpr q
  |nx=>exact(wp_some (Q:=R)).mpr q
  |ex C=>exact(wp_some (Q:=R)).mpr q
  |bk=>exact absurd q id
  |ct=>exact absurd q id
theorem zQ{R:D->M->Prop}(h:Wp (f ds O) fun r O=>∃d,r=.ok d/\R d O):Wp (dn f ds O) R:=by
 obtain⟨_,Z6,e,d,rfl,q⟩:=h;unfold dn;rw[e];exact wp_some.mpr q
theorem forX_inv{c:Ck}(I:List D->G->M->Prop)(ds:List D)(h0:I ds B O)
  (hs:∀d r B O,I (d::r) B O->Wp (g d B O) fun ZZ Z5=>Wt (sx ZZ Z5) fun o ZW Z4=>match o with
   | .nx=>q0 c Z4/\I r ZW Z4
   | .ct=>q0 c Z4/\I r ZW Z4
   | .bk=>Q .nx ZW Z4
   | .rt d=>Q (.rt d) ZW Z4
   | .ex C=>Q (.ex C) ZW Z4)
  (hq:∀B O,I [] B O->Q .nx B O):Wt (vD c g sx ds B O) Q:=by
 induction ds generalizing B O with
 |nil=>exact wt_some.mpr (hq _ _ h0)
 |cons d r ih=>
  refine wtp_bind.mpr ((hs d r B O h0).imp fun ZZ Z5 h=>wtt_bind.mpr (h.imp fun o ZW Z4 h=>?_));cases o with
  |nx=>show Wt (chk _ _) Q;rw[tU h.1];exact ih h.2
  |ct=>show Wt (chk _ _) Q;rw[tU h.1];exact ih h.2
  |bk=>exact wt_some.mpr h
  |rt d=>exact wt_some.mpr h
  |ex C=>exact wt_some.mpr h
def qFX(g:GV)(sx:SX)(B:G)(Q:OutX->G->M->Prop):List D×Ck->M->Prop:=fun s O=>Wt (vD s.2 g sx s.1 B O) Q
theorem Ky{c:Ck}:qFX g sx B Q (ds,c) O↔Wt (vD c g sx ds B O) Q:=Iff.rfl
def qCX(own:List Str)(cap:List (Str×Nat))(g:GV)(tc:BV)(te:EV)(B:G)(R:Rs D->M->Prop):Rs D->M->Prop:=fun r O=>match r with
 | .ok d=>∃s,lsC O d=some s/\s.1.length<=1000000/\Wp (rE s.2 g tc te s.1 (rB own cap B) O) fun rs O=>R (.ok (.lst rs)) O
 | .ex C=>R (.ex C) O
theorem Rt{own:List Str}{cap:List (Str×Nat)}{tc:BV}{te:EV}(h:Wp (ex B O) (qCX own cap g tc te B R)):Wp (vN own cap ex g tc te B O) R:=by
 refine wp_bind.mpr (h.imp fun r O q=>?_);cases r with
 |ok d=>
  obtain⟨s,h1,h2,h3⟩:=q;show Wp ((lsC O d).bind _) R;rw[h1];show Wp (if s.1.length<=1000000 then _ else none) R;rw[if_pos h2];exact wp_bind.mpr (h3.imp fun _ _ q=>wp_some.mpr q)
 |ex C=>exact(wp_some (Q:=R)).mpr q
end
end L3
namespace Law
open PySem L2 L3
def top(i:Nat):Stmt:=PySem.Challenge.pw_morethanhalf_k26_whole_ways_down_told_tr.main.body.getD i (.Pass ⟨0,0,0,0⟩)
section
variable {P:Program} {w:World} {K:Frag} {mg:Str->Option Value} {base:Heap} {f:Addr} {fd:FuncData}
theorem BL:FnScope ["kinds","by_kind","thing","kind"] ["kinds"] (qF (top 9)):=⟨rfl,rfl,rfl,by decide +kernel,rfl,by decide +kernel,by decide +kernel⟩
def FF:SV:=
  (qE (qQ yY (qA 1))
  (qE (uk (Cn (be 0)) (rO 2 (qN (qA 2) (qN (qA 3) rM)))
   (uJ (wE uB (uf (be 1) (be 3) (vL uz qD)) (be 2))))
  (qR (v1 Bu (be 1)))))
def wn:C0:=rC 4 1 (FF)
theorem TV{k:Nat}(F:Fun K "alike_things" "alike_things" (top 9) f fd) (Cd:mg "enumerate"=none) (CB:mg "list"=none):FnOk P w K mg base CX0 (k+1) f fd ["kinds"] (spM K (wn)):=by
 unfold wn FF;exact rT F BL fun cdv A outer s H E hr=>
  (qI (rF (i:=1) BL.nd rfl (Or.inl rfl) KA)
  (qI (vR X1 rfl (Q6 Cd (qx 0)) (ud (n:=2) (rG (qS (i:=2) BL.nd rfl (Or.inl rfl)) (rG (qS (i:=3) BL.nd rfl (Or.inl rfl)) ua)))
   (qP (Ab (LG (Dx (qx 1) (qx 3) (FL qG)) (qx 2)))))
  (qP (qY (Pt CB (qx 1))))))
theorem Gv:FnScope ["kinds","things"] ["kinds"] (qF (top 10)):=⟨rfl,rfl,rfl,by decide +kernel,rfl,by decide +kernel,by decide +kernel⟩
def B0(xD:C0):SV:=
  (qE (uk (ivL (vL xD (qy (be 0) qD))) (qA 1)
   (sIf (vT (v2 fGt (v2 vp (vC (.int 2)) (v1 rN (be 1))) (v1 rN (be 0))))
    (qR (be 1))
    sNx))
  (qR (vL sd qD)))
def y2(xD:C0):C0:=rC 2 1 (B0 xD)
theorem N8{xD:C0}{Ip k:Nat}(F:Fun K "more_than_half" "more_than_half" (top 10) f fd) (FG:Df P w K mg base Ip "alike_things" ["kinds"] (spM K xD)) (Qc:Ip<=k) (sP:mg "len"=none):FnOk P w K mg base CX0 (k+1) f fd ["kinds"] (spM K (y2 xD)):=by
 unfold y2 B0;exact rT F Gv fun cdv A outer s H E hr=>
  (qI (vR X1 rfl (sO (rk FG (hr.mono Qc) (qB (qx 0) qG))) (qS (i:=1) Gv.nd rfl (Or.inl rfl))
   (qP (si (xi (EL qH (uC sP (qx 1))) (uC sP (qx 0)))
    (qP (qY (qx 1)))
    se)))
  (qP (qY (tS qG))))
theorem Jk:FnScope ["sort","most","used"] ["sort","most"] (qF (top 11)):=⟨rfl,rfl,rfl,by decide +kernel,rfl,by decide +kernel,by decide +kernel⟩
theorem z8e:((["number"]:List Str)++([("sort",0)]:List (Str×Nat)).map (·.1)).Nodup:=by decide +kernel
def DO:SV:=
  (qE (qQ (v2 sf (v2 yv (be 0) (v1 vO (vC (.int 1)))) (vC (.int 1))) (qA 2))
  (qR (rL ["number"] [("sort",0)] (zu (v2 zE (v2 sf (be 2) (vC (.int 1))) (be 1))) (qA 0) qJ (v2 sf (be 1) (vL sd (qy (be 0) qD))))))
def t7:C0:=rC 3 2 (DO)
theorem PQ{k:Nat}(F:Fun K "one_thing_more" "one_thing_more" (top 11) f fd) (xA:mg "max"=none) (CG:mg "min"=none) (sR:mg "range"=none):FnOk P w K mg base CX0 (k+1) f fd ["sort","most"] (spM K (t7)):=by
 unfold t7 DO;exact rT F Jk fun cdv A outer s H E hr=>
  (qI (rF (i:=2) Jk.nd rfl (Or.inl rfl) (u6 (zyv xA (qx 0) (Iz qH)) qH))
  (qP (qY (uA (own:=["number"]) (cap:=[("sort",0)]) (sK rfl) (TX sR (R8 CG (u6 (qx 2) qH) (qx 1)))
   (fun _ _ _ _ _=>(qS (i:=0) z8e rfl (Or.inl rfl))) (fun _ _ _ _ _=>sw)
   (fun _ _ _ _ _=>(u6 (qx 1) (tS (qB (qx 0) qG))))))))
theorem Bf:FnScope ["many","most","sorts","step"] ["many","most"] (qF (top 12)):=⟨rfl,rfl,rfl,by decide +kernel,rfl,by decide +kernel,by decide +kernel⟩
theorem Gw:((["sort","longer"]:List Str)++([("most",1)]:List (Str×Nat)).map (·.1)).Nodup:=by decide +kernel
def EQ(xX:C0)(tO:D)(tt:Addr):SX:=
  (rY (tP (upB (bOr (vT (v2 fLt (be 0) (vC (.int 0)))) (vT (v2 fGt (be 0) (vC tO)))))
   (vY tt ((vC tO)::((be 0)::[])))
   (upS sNx))
  (upS (qE (qQ (vL sd (qy (vL sd qD) qD)) (qA 2))
  (qE (uk (ivR (be 0)) (qA 3)
   (qQ (uv ["sort","longer"] [("most",1)] (ivL (be 2)) (qA 0) qJ (ivL (vL xX (qy (be 0) (qy (be 2) qD)))) (qA 1) qJ (be 1)) (qA 2)))
  (qR (be 2))))))
def wW(xX:C0)(tO:D)(tt:Addr):FX:=sF 4 2 (EQ xX tO tt)
theorem VJ{xX:C0}{Iy k:Nat}{tO:D}{v_MOST_THINGS:V}{u_MOST_THINGS:Value}{tt:Addr}(F:Fun K "all_sorts" "all_sorts" (top 12) f fd) (Fp:Df P w K mg base Iy "one_thing_more" ["sort","most"] (spM K xX)) (Ra:Iy<=k) (t4:mg "MOST_THINGS"=some u_MOST_THINGS/\RelV v_MOST_THINGS u_MOST_THINGS/\∀W,DR K W tO v_MOST_THINGS) (wv:mg "TooMany"=some (.ref tt)/\uu K tt) (sR:mg "range"=none):FnOk P w K mg base (CXr P w) (k+1) f fd ["many","most"] (spX K (wW xX tO tt)):=by
 unfold wW EQ;exact uM F Bf fun cdv A outer s H E hr=>
  (uK (xq (xz (PW.pt (wS (D7 (qx 0) qH) (y1 (xi (qx 0) (wV t4.1 t4.2.1 t4.2.2))))))
   (sZ (yF (xE (tV (by decide) (uI (wV t4.1 t4.2.1 t4.2.2) (tV (by decide) (uI (qx 0) pj0))))) wv.1 wv.2))
   xu)
  (DV (qI (rF (i:=2) Bf.nd rfl (Or.inl rfl) (tS (qB (tS qG) qG)))
  (qI (vR X1 rfl (Ba sR (qx 0)) (qS (i:=3) Bf.nd rfl (Or.inl rfl))
   (qP (E7 (i:=2) Bf.nd rfl rfl (own:=["sort","longer"]) (cap:=[("most",1)]) (sK rfl) (sO (qx 2))
   (fun _ _ _ _ _=>(qS (i:=0) Gw rfl (Or.inl rfl))) (fun _ _ _ _ _=>sw)
   (fun _ _ _ _ _=>(sO (rk Fp (hr.mono Ra) (qB (qx 0) (qB (qx 2) qG))))) (fun _ _ _ _ _=>(qS (i:=1) Gw rfl (Or.inl rfl))) (fun _ _ _ _ _=>sw)
   (fun _ _ _ _ _=>(qx 1)))))
  (qP (qY (qx 2)))))))
theorem Ju:FnScope ["kinds","things"] ["kinds"] (qF (top 15)):=⟨rfl,rfl,rfl,by decide +kernel,rfl,by decide +kernel,by decide +kernel⟩
theorem PM:((["thing"]:List Str)++([]:List (Str×Nat)).map (·.1)).Nodup:=by decide +kernel
def E2(sH:C0):SV:=
  (qE (qQ (vL sH (qy (be 0) qD)) (qA 1))
  (qR (vIf (rH (be 1)) (rL ["thing"] [] (ivL (be 1)) (qA 0) qJ (vL sj (qy (vC (.str "one")) (qy (be 0) qD)))) (vL sd (qy (vL sj (qy (vC (.str "none")) qD)) qD)))))
def BG(sH:C0):C0:=rC 2 1 (E2 sH)
theorem Of{sH:C0}{ww k:Nat}(F:Fun K "half_ends" "half_ends" (top 15) f fd) (vZ:Df P w K mg base ww "more_than_half" ["kinds"] (spM K sH)) (y4:ww<=k):FnOk P w K mg base CX0 (k+1) f fd ["kinds"] (spM K (BG sH)):=by
 unfold BG E2;exact rT F Ju fun cdv A outer s H E hr=>
  (qI (rF (i:=1) Ju.nd rfl (Or.inl rfl) (rk vZ (hr.mono y4) (qB (qx 0) qG)))
  (qP (qY (z7 (tK (qx 1)) (uA (own:=["thing"]) (cap:=[]) (sK rfl) (sO (qx 1))
   (fun _ _ _ _ _=>(qS (i:=0) PM rfl (Or.inl rfl))) (fun _ _ _ _ _=>sw)
   (fun _ _ _ _ _=>(uN (qB uZ (qB (qx 0) qG))))) (tS (qB (uN (qB uZ qG)) qG))))))
theorem Ke:FnScope ["ends","end"] ["ends"] (qF (top 16)):=⟨rfl,rfl,rfl,by decide +kernel,rfl,by decide +kernel,by decide +kernel⟩
theorem QE:((["others"]:List Str)++([("end",1)]:List (Str×Nat)).map (·.1)).Nodup:=by decide +kernel
def A9(t8:D):SV:=
  (qE (uk (ivL (v2 fIx (be 0) (vC (.int 0)))) (qA 1)
   (sIf (rH (v1 ul (rL ["others"] [("end",1)] (ivL (be 0)) (qA 0) qJ (v2 (uQ false) (be 1) (be 0)))))
    (qR (be 1))
    sNx))
  (qR (vC t8)))
def vq(t8:D):C0:=rC 2 1 (A9 t8)
theorem zet{k:Nat}{t8:D}{v_OPEN:V}{u_OPEN:Value}(F:Fun K "common_end" "common_end" (top 16) f fd) (vf:mg "OPEN"=some u_OPEN/\RelV v_OPEN u_OPEN/\∀W,DR K W t8 v_OPEN) (tq:mg "all"=none):FnOk P w K mg base CX0 (k+1) f fd ["ends"] (spM K (vq t8)):=by
 unfold vq A9;exact rT F Ke fun cdv A outer s H E hr=>
  (qI (vR X1 rfl (sO (rh (qx 0) qH)) (qS (i:=1) Ke.nd rfl (Or.inr rfl))
   (qP (si (tK (AA tq (uA (own:=["others"]) (cap:=[("end",1)]) (sK rfl) (sO (qx 0))
   (fun _ _ _ _ _=>(qS (i:=0) QE rfl (Or.inl rfl))) (fun _ _ _ _ _=>sw)
   (fun _ _ _ _ _=>(K0 hr (qx 1) (qx 0))))))
    (qP (qY (qx 1)))
    se)))
  (qP (qY (wV vf.1 vf.2.1 vf.2.2))))
theorem As:FnScope ["many","answers","i","j","alike"] ["many","answers"] (qF (top 35)):=⟨rfl,rfl,rfl,by decide +kernel,rfl,by decide +kernel,by decide +kernel⟩
def C3(sU:Addr):SX:=
  (rY (tP (upB (vT (v2 fLt (be 0) (vC (.int 0)))))
   (vY sU ((be 0)::[]))
   (upS sNx))
  (Lg (ivL (be 1)) (rO 3 (qN (qA 2) (qN (qA 3) (qN (qA 4) rM))))
   (rY (tP (upB (tm (vU (vT (tY fLe fLt (vC (.int 0)) (be 2) (be 0))) (vT (tY fLe fLt (vC (.int 0)) (be 3) (be 0))))))
    (vY sU ((be 2)::((be 3)::((be 0)::[]))))
    (upS sNx))
   (tP (upB (vT (v2 fEq (be 2) (be 3))))
    (vY sU ((be 2)::[]))
    (upS sNx)))))
def zS(sU:Addr):FX:=sF 5 2 (C3 sU)
theorem V9{k:Nat}{sU:Addr}(F:Fun K "check_things" "check_things" (top 35) f fd) (ux:mg "NoThing"=some (.ref sU)/\uu K sU):FnOk P w K mg base (CXr P w) (k+1) f fd ["many","answers"] (spX K (zS sU)):=by
 unfold zS C3;exact uM F As fun cdv A outer s H E hr=>
  (uK (xq (xz (D7 (qx 0) qH))
   (sZ (yF (xE (tV (by decide) (uI (qx 0) (tV (by decide) pj0)))) ux.1 ux.2))
   xu)
  (sZ (S6 (Wh ⟨rfl,rfl⟩) rfl (RY (sO (qx 1))) (y3b (ud (n:=3) (rG (qS (i:=2) As.nd rfl (Or.inl rfl)) (rG (qS (i:=3) As.nd rfl (Or.inl rfl)) (rG (qS (i:=4) As.nd rfl (Or.inl rfl)) ua)))))
   (uK (xq (xz (vg (PW.pt (Lo (Ie BA Fl Bi FI qH (qx 2) (qx 0)) (JI (Ie BA Fl Bi FI qH (qx 3) (qx 0)))))))
    (sZ (yF (xE (tV (by decide) (uI (qx 2) (tV (by decide) (uI (qx 3) (tV (by decide) (uI (qx 0) (tV (by decide) pj0)))))))) ux.1 ux.2))
    xu)
   (sZ (xq (xz (uE hr (qx 2) (qx 3)))
    (sZ (yF (xE (tV (by decide) (uI (qx 2) (tV (by decide) pj0)))) ux.1 ux.2))
    xu))))))
theorem R0:FnScope ["homes","old","new"] ["homes","old","new"] (qF (top 36)):=⟨rfl,rfl,rfl,by decide +kernel,rfl,by decide +kernel,by decide +kernel⟩
theorem M9:((["thing","home"]:List Str)++([("old",1),("new",2)]:List (Str×Nat)).map (·.1)).Nodup:=by decide +kernel
def Es:SV:=
  (qR (AM ["thing","home"] [("old",1),("new",2)] (be 0) (rO 2 (qN (qA 0) (qN (qA 1) rM))) qJ (be 0) (vIf (vT (v2 fEq (be 1) (be 2))) (be 3) (be 1))))
def uD:C0:=rC 3 3 (Es)
theorem P8{k:Nat}(F:Fun K "moved" "moved" (top 36) f fd):FnOk P w K mg base CX0 (k+1) f fd ["homes","old","new"] (spM K (uD)):=by
 unfold uD Es;exact rT F R0 fun cdv A outer s H E hr=>
  (qP (qY (Oh (own:=["thing","home"]) (cap:=[("old",1),("new",2)]) (sK rfl) (qx 0)
   (fun _ _ _ _ _=>(ud (n:=2) (rG (qS (i:=0) M9 rfl (Or.inl rfl)) (rG (qS (i:=1) M9 rfl (Or.inl rfl)) ua)))) (fun _ _ _ _ _=>sw)
   (fun _ _ _ _ _=>(qx 0)) (fun _ _ _ _ _=>(z7 (uE hr (qx 1) (qx 2)) (qx 3) (qx 1))))))
theorem xH:FnScope ["answers","homes","i","j","alike"] ["answers"] (qF (top 37)):=⟨rfl,rfl,rfl,by decide +kernel,rfl,by decide +kernel,by decide +kernel⟩
def Cm(xO:C0):SV:=
  (qE (qQ yY (qA 1))
  (qE (uk (ivL (be 0)) (rO 3 (qN (qA 2) (qN (qA 3) (qN (qA 4) rM))))
   (qE (uJ (uf (be 1) (be 2) (be 2)))
   (qE (uJ (uf (be 1) (be 3) (be 3)))
   (sIf (rH (be 4))
    (qQ (vL xO (qy (be 1) (qy (v2 tw (be 1) (be 3)) (qy (v2 tw (be 1) (be 2)) qD)))) (qA 1))
    sNx))))
  (qR (be 1))))
def wT(xO:C0):C0:=rC 5 1 (Cm xO)
theorem zhp{xO:C0}{GN k:Nat}(F:Fun K "homes_of" "homes_of" (top 37) f fd) (Cv:Df P w K mg base GN "moved" ["homes","old","new"] (spM K xO)) (NX:GN<=k):FnOk P w K mg base CX0 (k+1) f fd ["answers"] (spM K (wT xO)):=by
 unfold wT Cm;exact rT F xH fun cdv A outer s H E hr=>
  (qI (rF (i:=1) xH.nd rfl (Or.inl rfl) KA)
  (qI (vR X1 rfl (sO (qx 0)) (ud (n:=3) (rG (qS (i:=2) xH.nd rfl (Or.inl rfl)) (rG (qS (i:=3) xH.nd rfl (Or.inl rfl)) (rG (qS (i:=4) xH.nd rfl (Or.inl rfl)) ua))))
   (qI (Ab (Dx (qx 1) (qx 2) (qx 2)))
   (qI (Ab (Dx (qx 1) (qx 3) (qx 3)))
   (qP (si (tK (qx 4))
    (qP (rF (i:=1) xH.nd rfl (Or.inl rfl) (rk Cv (hr.mono NX) (qB (qx 1) (qB (Az hr (qx 1) (qx 3)) (qB (Az hr (qx 1) (qx 2)) qG))))))
    se)))))
  (qP (qY (qx 1)))))
theorem FY:FnScope ["many","answers","homes"] ["many","answers"] (qF (top 38)):=⟨rfl,rfl,rfl,by decide +kernel,rfl,by decide +kernel,by decide +kernel⟩
theorem B3:((["i","j","alike"]:List Str)++([("homes",2)]:List (Str×Nat)).map (·.1)).Nodup:=by decide +kernel
def E9(xL:C0)(yw:FX):SX:=
  (rY (vG (vLX yw (upL (qy (be 0) (qy (be 1) qD)))))
  (upS (qE (qQ (vL xL (qy (be 1) qD)) (qA 2))
  (qR (v1 ul (rL ["i","j","alike"] [("homes",2)] (ivL (be 1)) (rO 3 (qN (qA 0) (qN (qA 1) (qN (qA 2) rM)))) qJ (vOr (be 2) (v2 fNe (v2 tw (be 3) (be 0)) (v2 tw (be 3) (be 1))))))))))
def FU(xL:C0)(yw:FX):FX:=sF 3 2 (E9 xL yw)
theorem QZ{xL:C0}{yw:FX}{J3 MG k:Nat}(F:Fun K "can_be" "can_be" (top 38) f fd) (Fo:Df P w K mg base J3 "homes_of" ["answers"] (spM K xL)) (v3f:J3<=k) (Cu:DfX P w K mg base MG "check_things" ["many","answers"] (spX K yw)) (Vw:MG<=k) (tq:mg "all"=none):FnOk P w K mg base (CXr P w) (k+1) f fd ["many","answers"] (spX K (FU xL yw)):=by
 unfold FU E9;exact uM F FY fun cdv A outer s H E hr=>
  (uK (zb (uw Cu (hr.mono Vw) (ui (qB (qx 0) (qB (qx 1) qG)))))
  (DV (qI (rF (i:=2) FY.nd rfl (Or.inr rfl) (rk Fo (hr.mono v3f) (qB (qx 1) qG)))
  (qP (qY (AA tq (uA (own:=["i","j","alike"]) (cap:=[("homes",2)]) (sK rfl) (sO (qx 1))
   (fun _ _ _ _ _=>(ud (n:=3) (rG (qS (i:=0) B3 rfl (Or.inl rfl)) (rG (qS (i:=1) B3 rfl (Or.inl rfl)) (rG (qS (i:=2) B3 rfl (Or.inl rfl)) ua))))) (fun _ _ _ _ _=>sw)
   (fun _ _ _ _ _=>(MT (qx 2) (Fb (Ll hr (Az hr (qx 3) (qx 0)) (Az hr (qx 3) (qx 1)))))))))))))
theorem QP:FnScope ["many","answers"] ["many","answers"] (qF (top 39)):=⟨rfl,rfl,rfl,by decide +kernel,rfl,by decide +kernel,by decide +kernel⟩
def Fd(sJ:FX)(xh:Addr):SX:=
  (tP (Bs (bTX (vLX sJ (upL (qy (be 0) (qy (be 1) qD))))))
   (Jb xh (vC (.str "the answers cannot all be right")))
   (upS sNx))
def DK(sJ:FX)(xh:Addr):FX:=sF 2 2 (Fd sJ xh)
theorem Tq{sJ:FX}{v6 k:Nat}{xh:Addr}(F:Fun K "check_right" "check_right" (top 39) f fd) (vS:DfX P w K mg base v6 "can_be" ["many","answers"] (spX K sJ)) (zM:v6<=k) (AL:mg "NoFit"=some (.ref xh)/\uu K xh):FnOk P w K mg base (CXr P w) (k+1) f fd ["many","answers"] (spX K (DK sJ xh)):=by
 unfold DK Fd;exact uM F QP fun cdv A outer s H E hr=>
  (sZ (xq (TF (zym (uw vS (hr.mono zM) (ui (qB (qx 0) (qB (qx 1) qG))))))
   (sZ (Ow uZ AL.1 AL.2))
   xu))
theorem BT:FnScope ["kinds","answers","i","j","alike"] ["kinds","answers"] (qF (top 40)):=⟨rfl,rfl,rfl,by decide +kernel,rfl,by decide +kernel,by decide +kernel⟩
def EU:SV:=
  (qE (uk (ivL (be 1)) (rO 3 (qN (qA 2) (qN (qA 3) (qN (qA 4) rM))))
   (sIf (vT (v2 fNe (v2 fEq (v2 fIx (be 0) (be 2)) (v2 fIx (be 0) (be 3))) (be 4)))
    (qR (vC (.bl false)))
    sNx))
  (qR (vC (.bl true))))
def wC:C0:=rC 5 2 (EU)
theorem QX{k:Nat}(F:Fun K "fits" "fits" (top 40) f fd):FnOk P w K mg base CX0 (k+1) f fd ["kinds","answers"] (spM K (wC)):=by
 unfold wC EU;exact rT F BT fun cdv A outer s H E hr=>
  (qI (vR X1 rfl (sO (qx 1)) (ud (n:=3) (rG (qS (i:=2) BT.nd rfl (Or.inl rfl)) (rG (qS (i:=3) BT.nd rfl (Or.inl rfl)) (rG (qS (i:=4) BT.nd rfl (Or.inl rfl)) ua))))
   (qP (si (wQ hr (Ad hr (rh (qx 0) (qx 2)) (rh (qx 0) (qx 3))) (qx 4))
    (qP (qY tF))
    se)))
  (qP (qY tF)))
theorem SJ:FnScope ["many","answers"] ["many","answers"] (qF (top 41)):=⟨rfl,rfl,rfl,by decide +kernel,rfl,by decide +kernel,by decide +kernel⟩
theorem Nz:((["sort"]:List Str)++([("answers",1)]:List (Str×Nat)).map (·.1)).Nodup:=by decide +kernel
def DF(xU:C0)(yi:FX)(sG:FX):SX:=
  (rY (vG (vLX yi (upL (qy (be 0) (qy (be 1) qD)))))
  (u7 (vN ["sort"] [("answers",1)] (vLX sG (upL (qy (be 0) (qy (be 0) qD)))) (qA 0) (rH (vL xU (qy (be 0) (qy (be 1) qD)))) (be 0))))
def ES(xU:C0)(yi:FX)(sG:FX):FX:=sF 2 2 (DF xU yi sG)
theorem QC{xU:C0}{yi sG:FX}{Nn GM wa k:Nat}(F:Fun K "sorts_that_fit" "sorts_that_fit" (top 41) f fd) (D4:Df P w K mg base Nn "fits" ["kinds","answers"] (spM K xU)) (Us:Nn<=k) (De:DfX P w K mg base GM "check_right" ["many","answers"] (spX K yi)) (v25:GM<=k) (v3:DfX P w K mg base wa "all_sorts" ["many","most"] (spX K sG)) (yQ:wa<=k):FnOk P w K mg base (CXr P w) (k+1) f fd ["many","answers"] (spX K (ES xU yi sG)):=by
 unfold ES DF;exact uM F SJ fun cdv A outer s H E hr=>
  (uK (zb (uw De (hr.mono v25) (ui (qB (qx 0) (qB (qx 1) qG)))))
  (sZ (zm (EI (own:=["sort"]) (cap:=[("answers",1)]) (sK rfl) (uw v3 (hr.mono yQ) (ui (qB (qx 0) (qB (qx 0) qG))))
   (fun _ _ _ _ _=>(qS (i:=0) Nz rfl (Or.inl rfl))) (fun _ _ _ _ _=>(Dq (tK (rk D4 (hr.mono Us) (qB (qx 0) (qB (qx 1) qG))))))
   (fun _ _ _ _ _=>(qx 0))))))
theorem VY:FnScope ["many","answers"] ["many","answers"] (qF (top 42)):=⟨rfl,rfl,rfl,by decide +kernel,rfl,by decide +kernel,by decide +kernel⟩
theorem OF:((["sort"]:List Str)++([]:List (Str×Nat)).map (·.1)).Nodup:=by decide +kernel
def C9(uc:C0)(sC:C0)(yu:FX):SX:=
  (u7 (vLX (upF uc) (AF (vN ["sort"] [] (vLX yu (upL (qy (be 0) (qy (be 1) qD)))) (qA 0) qJ (vL sC (qy (be 0) qD))) (upL qD))))
def DU(uc:C0)(sC:C0)(yu:FX):FX:=sF 2 2 (C9 uc sC yu)
theorem zr3{uc sC:C0}{yu:FX}{zI we MZ k:Nat}(F:Fun K "tells" "tells" (top 42) f fd) (yD:Df P w K mg base zI "common_end" ["ends"] (spM K uc)) (B5:zI<=k) (vJ:Df P w K mg base we "half_ends" ["kinds"] (spM K sC)) (yR:we<=k) (Dt:DfX P w K mg base MZ "sorts_that_fit" ["many","answers"] (spX K yu)) (Vh:MZ<=k):FnOk P w K mg base (CXr P w) (k+1) f fd ["many","answers"] (spX K (DU uc sC yu)):=by
 unfold DU C9;exact uM F VY fun cdv A outer s H E hr=>
  (sZ (zm (Wq yD (hr.mono B5) (S8 (EI (own:=["sort"]) (cap:=[]) (sK rfl) (uw Dt (hr.mono Vh) (ui (qB (qx 0) (qB (qx 1) qG))))
   (fun _ _ _ _ _=>(qS (i:=0) OF rfl (Or.inl rfl))) (fun _ _ _ _ _=>sw)
   (fun _ _ _ _ _=>(rk vJ (hr.mono yR) (qB (qx 0) qG)))) (ui qG)))))
theorem zej:FnScope ["many","least","greatest"] ["many","least","greatest"] (qF (top 6)):=⟨rfl,rfl,rfl,by decide +kernel,rfl,by decide +kernel,by decide +kernel⟩
def Ec(sU:Addr)(tt:Addr):SX:=
  (rY (tP (upB (vT (v2 fLt (be 0) (be 1))))
   (vY sU ((be 1)::((be 0)::[])))
   (upS sNx))
  (tP (upB (vT (v2 fGt (be 0) (be 2))))
   (vY tt ((be 2)::((be 0)::[])))
   (upS sNx)))
def v9(sU:Addr)(tt:Addr):FX:=sF 3 3 (Ec sU tt)
theorem zeu{k:Nat}{sU:Addr}{tt:Addr}(F:Fun K "check_many" "check_many" (top 6) f fd) (ux:mg "NoThing"=some (.ref sU)/\uu K sU) (wv:mg "TooMany"=some (.ref tt)/\uu K tt):FnOk P w K mg base (CXr P w) (k+1) f fd ["many","least","greatest"] (spX K (v9 sU tt)):=by
 unfold v9 Ec;exact uM F zej fun cdv A outer s H E hr=>
  (uK (xq (xz (D7 (qx 0) (qx 1)))
   (sZ (yF (xE (tV (by decide) (uI (qx 1) (tV (by decide) (uI (qx 0) pj0))))) ux.1 ux.2))
   xu)
  (sZ (xq (xz (xi (qx 0) (qx 2)))
   (sZ (yF (xE (tV (by decide) (uI (qx 2) (tV (by decide) (uI (qx 0) pj0))))) wv.1 wv.2))
   xu)))
theorem QF:FnScope ["many"] ["many"] (qF (top 18)):=⟨rfl,rfl,rfl,by decide +kernel,rfl,by decide +kernel,by decide +kernel⟩
theorem HP:((["i","j"]:List Str)++([("many",0)]:List (Str×Nat)).map (·.1)).Nodup:=by decide +kernel
def Ea:SV:=
  (qR (uv ["i","j"] [("many",0)] (ivR (be 0)) (qA 0) qJ (ze (v2 sf (be 0) (vC (.int 1))) (be 2)) (qA 1) qJ (vL sj (qy (be 0) (qy (be 1) qD)))))
def xI:C0:=rC 1 1 (Ea)
theorem SE{k:Nat}(F:Fun K "pairs_of" "pairs_of" (top 18) f fd) (sR:mg "range"=none):FnOk P w K mg base CX0 (k+1) f fd ["many"] (spM K (xI)):=by
 unfold xI Ea;exact rT F QF fun cdv A outer s H E hr=>
  (qP (qY (zud (own:=["i","j"]) (cap:=[("many",0)]) (sK rfl) (Ba sR (qx 0))
   (fun _ _ _ _ _=>(qS (i:=0) HP rfl (Or.inl rfl))) (fun _ _ _ _ _=>sw)
   (fun _ _ _ _ _=>(Pn sR (u6 (qx 0) qH) (qx 2))) (fun _ _ _ _ _=>(qS (i:=1) HP rfl (Or.inl rfl))) (fun _ _ _ _ _=>sw)
   (fun _ _ _ _ _=>(uN (qB (qx 0) (qB (qx 1) qG)))))))
theorem WS:FnScope ["self","many","sorts","ends"] ["self","many","sorts","ends"] (qF (sg (top 20) 0)):=⟨rfl,rfl,rfl,by decide +kernel,rfl,by decide +kernel,by decide +kernel⟩
def Dm(yo:C0)(qU:Addr):SV:=
  (qE (xJ qU "pairs" (be 0) (vL yo (qy (be 1) qD)))
  (qE (xJ qU "sorts" (be 0) (be 2))
  (qE (xJ qU "ends" (be 0) (be 3))
  (xJ qU "searched" (be 0) D8))))
def Bt(yo:C0)(qU:Addr):C0:=rC 4 4 (Dm yo qU)
theorem TR{yo:C0}{LA k:Nat}{qU:Addr}(F:Fun K "__init__" "Search.__init__" (sg (top 20) 0) f fd) (Ej:Df P w K mg base LA "pairs_of" ["many"] (spM K yo)) (v3g:LA<=k) (xB:FldC K qU "pairs") (vH:FldC K qU "sorts") (xT:FldC K qU "ends") (wG:FldC K qU "searched"):FnOk P w K mg base CX0 (k+1) f fd ["self","many","sorts","ends"] (spM K (Bt yo qU)):=by
 unfold Bt Dm;exact rT F WS fun cdv A outer s H E hr=>
  (qI (AD xB (qx 0) (rk Ej (hr.mono v3g) (qB (qx 1) qG)))
  (qI (AD vH (qx 0) (qx 2))
  (qI (AD xT (qx 0) (qx 3))
  (qP (AD wG (qx 0) QH)))))
theorem zf:FnScope ["self","i","j","left","asks","alike","unlike","if_alike","if_unlike"] ["self","i","j","left","asks"] (qF (sg (top 20) 3)):=⟨rfl,rfl,rfl,by decide +kernel,rfl,by decide +kernel,by decide +kernel⟩
theorem WX:((["number"]:List Str)++([("self",0),("i",1),("j",2)]:List (Str×Nat)).map (·.1)).Nodup:=by decide +kernel
theorem Ql:((["number"]:List Str)++([("self",0),("i",1),("j",2)]:List (Str×Nat)).map (·.1)).Nodup:=by decide +kernel
def DN(tE:C0)(qU:Addr):SV:=
  (qE (qQ (v1 A5 (rL ["number"] [("self",0),("i",1),("j",2)] (ivT (be 3)) (qA 0) (vT (v2 fEq (v2 fIx (v2 fIx (v1 (sW qU "sorts") (be 1)) (be 0)) (be 2)) (v2 fIx (v2 fIx (v1 (sW qU "sorts") (be 1)) (be 0)) (be 3)))) (be 0))) (qA 5))
  (qE (qQ (v1 A5 (rL ["number"] [("self",0),("i",1),("j",2)] (ivT (be 3)) (qA 0) (vT (v2 fNe (v2 fIx (v2 fIx (v1 (sW qU "sorts") (be 1)) (be 0)) (be 2)) (v2 fIx (v2 fIx (v1 (sW qU "sorts") (be 1)) (be 0)) (be 3)))) (be 0))) (qA 6))
  (qE (sIf (bOr (tm (rH (be 5))) (tm (rH (be 6))))
   (qR (vC .non))
   sNx)
  (qE (qQ (vE qU "tree_within" tE (be 0) (qy (be 5) (qy (v2 yl (be 4) (vC (.int 1))) qD))) (qA 7))
  (qE (sIf (vT (v2 wF (be 7) (vC .non)))
   (qR (vC .non))
   sNx)
  (qE (qQ (vE qU "tree_within" tE (be 0) (qy (be 6) (qy (v2 yl (be 4) (vC (.int 1))) qD))) (qA 8))
  (qE (sIf (vT (v2 wF (be 8) (vC .non)))
   (qR (vC .non))
   sNx)
  (qR (vL sj (qy (vC (.str "ask")) (qy (be 1) (qy (be 2) (qy (be 7) (qy (be 8) qD))))))))))))))
def x6(tE:C0)(qU:Addr):C0:=rC 9 5 (DN tE qU)
theorem WO{tE:C0}{zn k:Nat}{qU:Addr}(F:Fun K "tree_asking" "Search.tree_asking" (sg (top 20) 3) f fd) (wK:MtC P w K mg base CX0 zn qU "tree_within" ["self","left","asks"] (spM K tE)) (zA:zn<=k) (vH:FldC K qU "sorts") (xw:mg "tuple"=none):FnOk P w K mg base CX0 (k+1) f fd ["self","i","j","left","asks"] (spM K (x6 tE qU)):=by
 unfold x6 DN;exact rT F zf fun cdv A outer s H E hr=>
  (qI (rF (i:=5) zf.nd rfl (Or.inl rfl) (Ku xw (uA (own:=["number"]) (cap:=[("self",0),("i",1),("j",2)]) (sK rfl) (Aq (qx 3))
   (fun _ _ _ _ _=>(qS (i:=0) WX rfl (Or.inl rfl))) (fun _ _ _ _ _=>(Dq (uE hr (rh (rh (vB vH (qx 1)) (qx 0)) (qx 2)) (rh (rh (vB vH (qx 1)) (qx 0)) (qx 3)))))
   (fun _ _ _ _ _=>(qx 0)))))
  (qI (rF (i:=6) zf.nd rfl (Or.inl rfl) (Ku xw (uA (own:=["number"]) (cap:=[("self",0),("i",1),("j",2)]) (sK rfl) (Aq (qx 3))
   (fun _ _ _ _ _=>(qS (i:=0) Ql rfl (Or.inl rfl))) (fun _ _ _ _ _=>(Dq (wQ hr (rh (rh (vB vH (qx 1)) (qx 0)) (qx 2)) (rh (rh (vB vH (qx 1)) (qx 0)) (qx 3)))))
   (fun _ _ _ _ _=>(qx 0)))))
  (qI (si (PW.pt (wS (vg (tK (qx 5))) (y1 (vg (tK (qx 6))))))
   (qP (qY vF))
   se)
  (qI (rF (i:=7) zf.nd rfl (Or.inl rfl) (x3 wK (hr.mono zA) (qx 0) (qB (qx 5) (qB (B2 (qx 4) qH) qG))))
  (qI (si (Ef (qx 7) vF)
   (qP (qY vF))
   se)
  (qI (rF (i:=8) zf.nd rfl (Or.inl rfl) (x3 wK (hr.mono zA) (qx 0) (qB (qx 6) (qB (B2 (qx 4) qH) qG))))
  (qI (si (Ef (qx 8) vF)
   (qP (qY vF))
   se)
  (qP (qY (uN (qB uZ (qB (qx 1) (qB (qx 2) (qB (qx 7) (qB (qx 8) qG)))))))))))))))
theorem zT:FnScope ["self","left","asks","end","i","j","tree"] ["self","left","asks"] (qF (sg (top 20) 2)):=⟨rfl,rfl,rfl,by decide +kernel,rfl,by decide +kernel,by decide +kernel⟩
theorem Ui:((["number"]:List Str)++([("self",0)]:List (Str×Nat)).map (·.1)).Nodup:=by decide +kernel
def E8(uc:C0)(yr:C0)(t8:D)(qU:Addr):SV:=
  (qE (qQ (vL uc (qy (rL ["number"] [("self",0)] (ivT (be 1)) (qA 0) qJ (v2 fIx (v1 (sW qU "ends") (be 1)) (be 0))) qD)) (qA 3))
  (qE (sIf (vT (v2 fNe (be 3) (vC t8)))
   (qR (be 3))
   sNx)
  (qE (sIf (vT (v2 fEq (be 2) (vC (.int 0))))
   (qR (vC .non))
   sNx)
  (qE (uk (ivL (v1 (sW qU "pairs") (be 0))) (rO 2 (qN (qA 4) (qN (qA 5) rM)))
   (qE (qQ (vE qU "tree_asking" yr (be 0) (qy (be 4) (qy (be 5) (qy (be 1) (qy (be 2) qD))))) (qA 6))
   (sIf (vT (v2 yq (be 6) (vC .non)))
    (qR (be 6))
    sNx)))
  (qR (vC .non))))))
def Bq(uc:C0)(yr:C0)(t8:D)(qU:Addr):C0:=rC 7 3 (E8 uc yr t8 qU)
theorem Nr{uc yr:C0}{zI Ln k:Nat}{t8:D}{v_OPEN:V}{u_OPEN:Value}{qU:Addr}(F:Fun K "new_tree" "Search.new_tree" (sg (top 20) 2) f fd) (yD:Df P w K mg base zI "common_end" ["ends"] (spM K uc)) (B5:zI<=k) (Cl:MtC P w K mg base CX0 Ln qU "tree_asking" ["self","i","j","left","asks"] (spM K yr)) (P2:Ln<=k) (xT:FldC K qU "ends") (xB:FldC K qU "pairs") (vf:mg "OPEN"=some u_OPEN/\RelV v_OPEN u_OPEN/\∀W,DR K W t8 v_OPEN):FnOk P w K mg base CX0 (k+1) f fd ["self","left","asks"] (spM K (Bq uc yr t8 qU)):=by
 unfold Bq E8;exact rT F zT fun cdv A outer s H E hr=>
  (qI (rF (i:=3) zT.nd rfl (Or.inl rfl) (rk yD (hr.mono B5) (qB (uA (own:=["number"]) (cap:=[("self",0)]) (sK rfl) (Aq (qx 1))
   (fun _ _ _ _ _=>(qS (i:=0) Ui rfl (Or.inl rfl))) (fun _ _ _ _ _=>sw)
   (fun _ _ _ _ _=>(rh (vB xT (qx 1)) (qx 0)))) qG)))
  (qI (si (wQ hr (qx 3) (wV vf.1 vf.2.1 vf.2.2))
   (qP (qY (qx 3)))
   se)
  (qI (si (uE hr (qx 2) qH)
   (qP (qY vF))
   se)
  (qI (vR X1 rfl (sO (vB xB (qx 0))) (ud (n:=2) (rG (qS (i:=4) zT.nd rfl (Or.inl rfl)) (rG (qS (i:=5) zT.nd rfl (Or.inl rfl)) ua)))
   (qI (rF (i:=6) zT.nd rfl (Or.inl rfl) (x3 Cl (hr.mono P2) (qx 0) (qB (qx 4) (qB (qx 5) (qB (qx 1) (qB (qx 2) qG))))))
   (qP (si (RT (qx 6) vF)
    (qP (qY (qx 6)))
    se))))
  (qP (qY vF))))))
theorem z7i:FnScope ["self","left","asks"] ["self","left","asks"] (qF (sg (top 20) 1)):=⟨rfl,rfl,rfl,by decide +kernel,rfl,by decide +kernel,by decide +kernel⟩
def Cc(yN:C0)(qU:Addr):SV:=
  (qE (sIf (vT (v2 (yV true) (vL sj (qy (be 1) (qy (be 2) qD))) (v1 (sW qU "searched") (be 0))))
   (FO (v1 (sW qU "searched") (be 0)) (vL sj (qy (be 1) (qy (be 2) qD))) (vE qU "new_tree" yN (be 0) (qy (be 1) (qy (be 2) qD))))
   sNx)
  (qR (v2 AU (v1 (sW qU "searched") (be 0)) (vL sj (qy (be 1) (qy (be 2) qD))))))
def AO(yN:C0)(qU:Addr):C0:=rC 3 3 (Cc yN qU)
theorem VX{yN:C0}{IL k:Nat}{qU:Addr}(F:Fun K "tree_within" "Search.tree_within" (sg (top 20) 1) f fd) (EA:MtC P w K mg base CX0 IL qU "new_tree" ["self","left","asks"] (spM K yN)) (Vb:IL<=k) (wG:FldC K qU "searched"):FnOk P w K mg base CX0 (k+1) f fd ["self","left","asks"] (spM K (AO yN qU)):=by
 unfold AO Cc;exact rT F z7i fun cdv A outer s H E hr=>
  (qI (si (zlm hr (uN (qB (qx 1) (qB (qx 2) qG))) (vB wG (qx 0)))
   (qP (PY hr (vB wG (qx 0)) (uN (qB (qx 1) (qB (qx 2) qG))) (x3 EA (hr.mono Vb) (qx 0) (qB (qx 1) (qB (qx 2) qG)))))
   se)
  (qP (qY (Pr hr (vB wG (qx 0)) (uN (qB (qx 1) (qB (qx 2) qG)))))))
theorem y9:FnScope ["many","sorts","ends","search","every","asks"] ["many","sorts","ends"] (qF (top 21)):=⟨rfl,rfl,rfl,by decide +kernel,rfl,by decide +kernel,by decide +kernel⟩
def FB(xM:C0)(tE:C0)(qU:Addr):SV:=
  (qE (qQ (AZ qU xM (qy (be 0) (qy (be 1) (qy (be 2) qD)))) (qA 3))
  (qE (qQ (v1 z5 (v1 rN (be 1))) (qA 4))
  (qE (qQ (vC (.int 0)) (qA 5))
  (qE (uF (vT (v2 wF (vE qU "tree_within" tE (be 3) (qy (be 4) (qy (be 5) qD))) (vC .non)))
   (xv 5 BS (vC (.int 1))) 1000000)
  (qR (vL sj (qy (be 5) (qy (vE qU "tree_within" tE (be 3) (qy (be 4) (qy (be 5) qD))) qD))))))))
def Ae(xM:C0)(tE:C0)(qU:Addr):C0:=rC 6 3 (FB xM tE qU)
theorem TK{xM tE:C0}{Kz zn k:Nat}{qU:Addr}(F:Fun K "fewest_asks" "fewest_asks" (top 21) f fd) (ET:MkC P w K mg base CX0 Kz qU "Search" ["self","many","sorts","ends"] (spM K xM)) (Sn:Kz+1<=k) (wK:MtC P w K mg base CX0 zn qU "tree_within" ["self","left","asks"] (spM K tE)) (zA:zn<=k) (sP:mg "len"=none) (xw:mg "tuple"=none) (sR:mg "range"=none):FnOk P w K mg base CX0 (k+1) f fd ["many","sorts","ends"] (spM K (Ae xM tE qU)):=by
 unfold Ae FB;exact rT F y9 fun cdv A outer s H E hr=>
  (qI (rF (i:=3) y9.nd rfl (Or.inl rfl) (zyw ET (hr.mono Sn) (qB (qx 0) (qB (qx 1) (qB (qx 2) qG)))))
  (qI (rF (i:=4) y9.nd rfl (Or.inl rfl) (RN xw sR (uC sP (qx 1))))
  (qI (rF (i:=5) y9.nd rfl (Or.inl rfl) qH)
  (qI (zy 1000000 X1 (Ef (x3 wK (hr.mono zA) (qx 3) (qB (qx 4) (qB (qx 5) qG))) vF)
   (qP (IM (i:=5) y9.nd rfl (Or.inl rfl) qH)))
  (qP (qY (uN (qB (qx 5) (qB (x3 wK (hr.mono zA) (qx 3) (qB (qx 4) (qB (qx 5) qG))) qG)))))))))
theorem IN:FnScope ["many","most","sorts"] ["many","most"] (qF (top 31)):=⟨rfl,rfl,rfl,by decide +kernel,rfl,by decide +kernel,by decide +kernel⟩
theorem QM:((["sort"]:List Str)++([]:List (Str×Nat)).map (·.1)).Nodup:=by decide +kernel
def C6(sC:C0)(yE:C0)(sG:FX):SX:=
  (rY (El (vLX sG (upL (qy (be 0) (qy (be 1) qD)))) (qA 2))
  (upS (qR (vL yE (qy (be 0) (qy (be 2) (qy (rL ["sort"] [] (ivL (be 2)) (qA 0) qJ (vL sC (qy (be 0) qD))) qD)))))))
def Ai(sC:C0)(yE:C0)(sG:FX):FX:=sF 3 2 (C6 sC yE sG)
theorem Po{sC yE:C0}{sG:FX}{we L7 wa k:Nat}(F:Fun K "fewest_of" "fewest_of" (top 31) f fd) (vJ:Df P w K mg base we "half_ends" ["kinds"] (spM K sC)) (yR:we<=k) (Dz:Df P w K mg base L7 "fewest_asks" ["many","sorts","ends"] (spM K yE)) (Ua:L7<=k) (v3:DfX P w K mg base wa "all_sorts" ["many","most"] (spX K sG)) (yQ:wa<=k):FnOk P w K mg base (CXr P w) (k+1) f fd ["many","most"] (spX K (Ai sC yE sG)):=by
 unfold Ai C6;exact uM F IN fun cdv A outer s H E hr=>
  (uK (zyo (i:=2) IN.nd rfl (Or.inl rfl) (uw v3 (hr.mono yQ) (ui (qB (qx 0) (qB (qx 1) qG)))))
  (DV (qP (qY (rk Dz (hr.mono Ua) (qB (qx 0) (qB (qx 2) (qB (uA (own:=["sort"]) (cap:=[]) (sK rfl) (sO (qx 2))
   (fun _ _ _ _ _=>(qS (i:=0) QM rfl (Or.inl rfl))) (fun _ _ _ _ _=>sw)
   (fun _ _ _ _ _=>(rk vJ (hr.mono yR) (qB (qx 0) qG)))) qG))))))))
theorem NQ:FnScope ["many"] ["many"] (qF (top 32)):=⟨rfl,rfl,rfl,by decide +kernel,rfl,by decide +kernel,by decide +kernel⟩
def Cw(sD:FX)(uj:FX)(xP:D):SX:=
  (rY (vG (vLX sD (upL (qy (be 0) (qy (vC (.int 1)) (qy (vC xP) qD))))))
  (u7 (vLX uj (upL (qy (be 0) (qy (be 0) qD))))))
def A7(sD:FX)(uj:FX)(xP:D):FX:=sF 1 1 (Cw sD uj xP)
theorem Vf{sD uj:FX}{wy zk k:Nat}{xP:D}{v_MOST_SEARCHED:V}{u_MOST_SEARCHED:Value}(F:Fun K "fewest" "fewest" (top 32) f fd) (vM:DfX P w K mg base wy "check_many" ["many","least","greatest"] (spX K sD)) (za:wy<=k) (yj:DfX P w K mg base zk "fewest_of" ["many","most"] (spX K uj)) (CQ:zk<=k) (zP:mg "MOST_SEARCHED"=some u_MOST_SEARCHED/\RelV v_MOST_SEARCHED u_MOST_SEARCHED/\∀W,DR K W xP v_MOST_SEARCHED):FnOk P w K mg base (CXr P w) (k+1) f fd ["many"] (spX K (A7 sD uj xP)):=by
 unfold A7 Cw;exact uM F NQ fun cdv A outer s H E hr=>
  (uK (zb (uw vM (hr.mono za) (ui (qB (qx 0) (qB qH (qB (wV zP.1 zP.2.1 zP.2.2) qG))))))
  (sZ (zm (uw yj (hr.mono CQ) (ui (qB (qx 0) (qB (qx 0) qG)))))))
theorem Qm:FnScope ["many"] ["many"] (qF (top 33)):=⟨rfl,rfl,rfl,by decide +kernel,rfl,by decide +kernel,by decide +kernel⟩
def EW(sD:FX)(uj:FX)(xZ:D):SX:=
  (rY (vG (vLX sD (upL (qy (be 0) (qy (vC (.int 1)) (qy (vC xZ) qD))))))
  (u7 (vLX uj (upL (qy (be 0) (qy (vC (.int 2)) qD))))))
def Bo(sD:FX)(uj:FX)(xZ:D):FX:=sF 1 1 (EW sD uj xZ)
theorem za4{sD uj:FX}{wy zk k:Nat}{xZ:D}{v_MOST_SEARCHED_OF_TWO:V}{u_MOST_SEARCHED_OF_TWO:Value}(F:Fun K "fewest_of_two" "fewest_of_two" (top 33) f fd) (vM:DfX P w K mg base wy "check_many" ["many","least","greatest"] (spX K sD)) (za:wy<=k) (yj:DfX P w K mg base zk "fewest_of" ["many","most"] (spX K uj)) (CQ:zk<=k) (yT:mg "MOST_SEARCHED_OF_TWO"=some u_MOST_SEARCHED_OF_TWO/\RelV v_MOST_SEARCHED_OF_TWO u_MOST_SEARCHED_OF_TWO/\∀W,DR K W xZ v_MOST_SEARCHED_OF_TWO):FnOk P w K mg base (CXr P w) (k+1) f fd ["many"] (spX K (Bo sD uj xZ)):=by
 unfold Bo EW;exact uM F Qm fun cdv A outer s H E hr=>
  (uK (zb (uw vM (hr.mono za) (ui (qB (qx 0) (qB qH (qB (wV yT.1 yT.2.1 yT.2.2) qG))))))
  (sZ (zm (uw yj (hr.mono CQ) (ui (qB (qx 0) (qB qH qG)))))))
theorem CM:FnScope ["tree","alike","unlike"] ["tree"] (qF (top 25)):=⟨rfl,rfl,rfl,by decide +kernel,rfl,by decide +kernel,by decide +kernel⟩
def Cz:SV:=
  (qE (sIf (vT (v2 fNe (v2 fIx (be 0) (vC (.int 0))) (vC (.str "ask"))))
   (qR (vL sd qD))
   sNx)
  (qE (qQ (vSl (be 0) (wR (vC (.int 3))) xV) (rO 2 (qN (qA 1) (qN (qA 2) rM))))
  (qR (vIf (vT (v2 fEq (be 1) (be 2))) (vL sd (qy (be 1) qD)) (vL sd (qy (be 1) (qy (be 2) qD)))))))
def ut:C0:=rC 3 1 (Cz)
theorem P9{k:Nat}(F:Fun K "branches" "branches" (top 25) f fd):FnOk P w K mg base CX0 (k+1) f fd ["tree"] (spM K (ut)):=by
 unfold ut Cz;exact rT F CM fun cdv A outer s H E hr=>
  (qI (si (wQ hr (rh (qx 0) qH) uZ)
   (qP (qY (tS qG)))
   se)
  (qI (wk (BO (qx 0) (z6 qH) DS) (ud (n:=2) (rG (qS (i:=1) CM.nd rfl (Or.inl rfl)) (rG (qS (i:=2) CM.nd rfl (Or.inl rfl)) ua))))
  (qP (qY (z7 (uE hr (qx 1) (qx 2)) (tS (qB (qx 1) qG)) (tS (qB (qx 1) (qB (qx 2) qG))))))))
theorem JO:FnScope ["many","tree","things"] ["many","tree"] (qF (top 26)):=⟨rfl,rfl,rfl,by decide +kernel,rfl,by decide +kernel,by decide +kernel⟩
theorem TJ:((["thing"]:List Str)++([("many",0)]:List (Str×Nat)).map (·.1)).Nodup:=by decide +kernel
def Ei:SV:=
  (qE (qQ (vSl (be 1) (wR (vC (.int 1))) (wR (vC (.int 3)))) (qA 2))
  (qE (sIf (vU (vT (v2 fEq (v2 fIx (be 1) (vC (.int 0))) (vC (.str "ask")))) (vT (v2 fEq (v2 fIx (be 2) (vC (.int 0))) (v2 fIx (be 2) (vC (.int 1))))))
   (qR (vC (.bl false)))
   sNx)
  (qR (v1 ul (rL ["thing"] [("many",0)] (ivT (be 2)) (qA 0) qJ (tY fLe fLt (vC (.int 0)) (be 0) (be 1)))))))
def yp:C0:=rC 3 2 (Ei)
theorem Ss{k:Nat}(F:Fun K "names_things" "names_things" (top 26) f fd) (tq:mg "all"=none):FnOk P w K mg base CX0 (k+1) f fd ["many","tree"] (spM K (yp)):=by
 unfold yp Ei;exact rT F JO fun cdv A outer s H E hr=>
  (qI (rF (i:=2) JO.nd rfl (Or.inl rfl) (BO (qx 1) (z6 qH) (z6 qH)))
  (qI (si (PW.pt (Lo (uE hr (rh (qx 1) qH) uZ) (JI (uE hr (rh (qx 2) qH) (rh (qx 2) qH)))))
   (qP (qY tF))
   se)
  (qP (qY (AA tq (uA (own:=["thing"]) (cap:=[("many",0)]) (sK rfl) (Aq (qx 2))
   (fun _ _ _ _ _=>(qS (i:=0) TJ rfl (Or.inl rfl))) (fun _ _ _ _ _=>sw)
   (fun _ _ _ _ _=>(VA BA Fl Bi FI qH (qx 0) (qx 1)))))))))
theorem ER:FnScope ["many","tree","level"] ["many","tree"] (qF (top 27)):=⟨rfl,rfl,rfl,by decide +kernel,rfl,by decide +kernel,by decide +kernel⟩
theorem Q0:((["part"]:List Str)++([("many",0)]:List (Str×Nat)).map (·.1)).Nodup:=by decide +kernel
theorem Ig:((["part","branch"]:List Str)++([]:List (Str×Nat)).map (·.1)).Nodup:=by decide +kernel
def D3(xQ:C0)(tZ:C0):SV:=
  (qE (qQ (vL sd (qy (be 1) qD)) (qA 2))
  (qE (uF (rH (be 2))
   (qE (sIf (tm (rH (v1 ul (rL ["part"] [("many",0)] (ivL (be 2)) (qA 0) qJ (vL xQ (qy (be 1) (qy (be 0) qD)))))))
    (qR (vC (.bl false)))
    sNx)
   (qQ (uv ["part","branch"] [] (ivL (be 2)) (qA 0) qJ (ivL (vL tZ (qy (be 0) qD))) (qA 1) qJ (be 1)) (qA 2))) 1000000)
  (qR (vC (.bl true)))))
def BQ(xQ:C0)(tZ:C0):C0:=rC 3 2 (D3 xQ tZ)
theorem Uf{xQ tZ:C0}{JG yX k:Nat}(F:Fun K "names_things_throughout" "names_things_throughout" (top 27) f fd) (DJ:Df P w K mg base JG "names_things" ["many","tree"] (spM K xQ)) (Tc:JG<=k) (wY:Df P w K mg base yX "branches" ["tree"] (spM K tZ)) (BH:yX<=k) (tq:mg "all"=none):FnOk P w K mg base CX0 (k+1) f fd ["many","tree"] (spM K (BQ xQ tZ)):=by
 unfold BQ D3;exact rT F ER fun cdv A outer s H E hr=>
  (qI (rF (i:=2) ER.nd rfl (Or.inl rfl) (tS (qB (qx 1) qG)))
  (qI (zy 1000000 X1 (tK (qx 2))
   (qI (si (vg (tK (AA tq (uA (own:=["part"]) (cap:=[("many",0)]) (sK rfl) (sO (qx 2))
   (fun _ _ _ _ _=>(qS (i:=0) Q0 rfl (Or.inl rfl))) (fun _ _ _ _ _=>sw)
   (fun _ _ _ _ _=>(rk DJ (hr.mono Tc) (qB (qx 1) (qB (qx 0) qG))))))))
    (qP (qY tF))
    se)
   (qP (E7 (i:=2) ER.nd rfl rfl (own:=["part","branch"]) (cap:=[]) (sK rfl) (sO (qx 2))
   (fun _ _ _ _ _=>(qS (i:=0) Ig rfl (Or.inl rfl))) (fun _ _ _ _ _=>sw)
   (fun _ _ _ _ _=>(sO (rk wY (hr.mono BH) (qB (qx 0) qG)))) (fun _ _ _ _ _=>(qS (i:=1) Ig rfl (Or.inl rfl))) (fun _ _ _ _ _=>sw)
   (fun _ _ _ _ _=>(qx 1))))))
  (qP (qY tF))))
theorem yO:FnScope ["tree","kinds","i","j","alike","unlike"] ["tree","kinds"] (qF (top 28)):=⟨rfl,rfl,rfl,by decide +kernel,rfl,by decide +kernel,by decide +kernel⟩
def Fq:SV:=
  (qE (uF (vT (v2 fEq (v2 fIx (be 0) (vC (.int 0))) (vC (.str "ask"))))
   (qE (qQ (vSl (be 0) (wR (vC (.int 1))) xV) (rO 4 (qN (qA 2) (qN (qA 3) (qN (qA 4) (qN (qA 5) rM))))))
   (qQ (vIf (vT (v2 fEq (v2 fIx (be 1) (be 2)) (v2 fIx (be 1) (be 3)))) (be 4) (be 5)) (qA 0))) 1000000)
  (qR (be 0)))
def w8:C0:=rC 6 2 (Fq)
theorem WM{k:Nat}(F:Fun K "end_for" "end_for" (top 28) f fd):FnOk P w K mg base CX0 (k+1) f fd ["tree","kinds"] (spM K (w8)):=by
 unfold w8 Fq;exact rT F yO fun cdv A outer s H E hr=>
  (qI (zy 1000000 X1 (uE hr (rh (qx 0) qH) uZ)
   (qI (wk (BO (qx 0) (z6 qH) DS) (ud (n:=4) (rG (qS (i:=2) yO.nd rfl (Or.inl rfl)) (rG (qS (i:=3) yO.nd rfl (Or.inl rfl)) (rG (qS (i:=4) yO.nd rfl (Or.inl rfl)) (rG (qS (i:=5) yO.nd rfl (Or.inl rfl)) ua))))))
   (qP (rF (i:=0) yO.nd rfl (Or.inl rfl) (z7 (uE hr (rh (qx 1) (qx 2)) (rh (qx 1) (qx 3))) (qx 4) (qx 5))))))
  (qP (qY (qx 0))))
theorem VH:FnScope ["many","tree"] ["many","tree"] (qF (top 29)):=⟨rfl,rfl,rfl,by decide +kernel,rfl,by decide +kernel,by decide +kernel⟩
theorem TY:((["sort"]:List Str)++([("tree",1)]:List (Str×Nat)).map (·.1)).Nodup:=by decide +kernel
def EY(xY:C0)(xS:C0)(sC:C0)(sD:FX)(sG:FX)(tO:D):SX:=
  (rY (vG (vLX sD (upL (qy (be 0) (qy (vC (.int 0)) (qy (vC tO) qD))))))
  (rY (upS (sIf (tm (rH (vL xY (qy (be 0) (qy (be 1) qD)))))
   (qR (vC (.bl false)))
   sNx))
  (u7 (AE ul (vN ["sort"] [("tree",1)] (vLX sG (upL (qy (be 0) (qy (be 0) qD)))) (qA 0) qJ (v2 (uQ false) (vL xS (qy (be 1) (qy (be 0) qD))) (vL sC (qy (be 0) qD))))))))
def AQ(xY:C0)(xS:C0)(sC:C0)(sD:FX)(sG:FX)(tO:D):FX:=sF 2 2 (EY xY xS sC sD sG tO)
theorem Rn{xY xS sC:C0}{sD sG:FX}{JL Mm we wy wa k:Nat}{tO:D}{v_MOST_THINGS:V}{u_MOST_THINGS:Value}(F:Fun K "finds_out" "finds_out" (top 29) f fd) (D9:Df P w K mg base JL "names_things_throughout" ["many","tree"] (spM K xY)) (OH:JL<=k) (Fx:Df P w K mg base Mm "end_for" ["tree","kinds"] (spM K xS)) (V1:Mm<=k) (vJ:Df P w K mg base we "half_ends" ["kinds"] (spM K sC)) (yR:we<=k) (vM:DfX P w K mg base wy "check_many" ["many","least","greatest"] (spX K sD)) (za:wy<=k) (v3:DfX P w K mg base wa "all_sorts" ["many","most"] (spX K sG)) (yQ:wa<=k) (t4:mg "MOST_THINGS"=some u_MOST_THINGS/\RelV v_MOST_THINGS u_MOST_THINGS/\∀W,DR K W tO v_MOST_THINGS) (tq:mg "all"=none):FnOk P w K mg base (CXr P w) (k+1) f fd ["many","tree"] (spX K (AQ xY xS sC sD sG tO)):=by
 unfold AQ EY;exact uM F VH fun cdv A outer s H E hr=>
  (uK (zb (uw vM (hr.mono za) (ui (qB (qx 0) (qB qH (qB (wV t4.1 t4.2.1 t4.2.2) qG))))))
  (uK (NT (si (vg (tK (rk D9 (hr.mono OH) (qB (qx 0) (qB (qx 1) qG)))))
   (qP (qY tF))
   se))
  (sZ (zm (Wx tq (EI (own:=["sort"]) (cap:=[("tree",1)]) (sK rfl) (uw v3 (hr.mono yQ) (ui (qB (qx 0) (qB (qx 0) qG))))
   (fun _ _ _ _ _=>(qS (i:=0) TY rfl (Or.inl rfl))) (fun _ _ _ _ _=>sw)
   (fun _ _ _ _ _=>(K0 hr (rk Fx (hr.mono V1) (qB (qx 1) (qB (qx 0) qG))) (rk vJ (hr.mono yR) (qB (qx 0) qG))))))))))
theorem yS:FnScope ["tree","asks","level"] ["tree"] (qF (top 30)):=⟨rfl,rfl,rfl,by decide +kernel,rfl,by decide +kernel,by decide +kernel⟩
theorem Mr:((["part","branch"]:List Str)++([]:List (Str×Nat)).map (·.1)).Nodup:=by decide +kernel
def DQ(tZ:C0):SV:=
  (qE (qQ (vC (.int 0)) (qA 1))
  (qE (qQ (vL tZ (qy (be 0) qD)) (qA 2))
  (qE (uF (rH (be 2))
   (qE (xv 1 BS (vC (.int 1)))
   (qQ (uv ["part","branch"] [] (ivL (be 2)) (qA 0) qJ (ivL (vL tZ (qy (be 0) qD))) (qA 1) qJ (be 1)) (qA 2))) 1000000)
  (qR (be 1)))))
def Aj(tZ:C0):C0:=rC 3 1 (DQ tZ)
theorem Ru{tZ:C0}{yX k:Nat}(F:Fun K "depth" "depth" (top 30) f fd) (wY:Df P w K mg base yX "branches" ["tree"] (spM K tZ)) (BH:yX<=k):FnOk P w K mg base CX0 (k+1) f fd ["tree"] (spM K (Aj tZ)):=by
 unfold Aj DQ;exact rT F yS fun cdv A outer s H E hr=>
  (qI (rF (i:=1) yS.nd rfl (Or.inl rfl) qH)
  (qI (rF (i:=2) yS.nd rfl (Or.inl rfl) (rk wY (hr.mono BH) (qB (qx 0) qG)))
  (qI (zy 1000000 X1 (tK (qx 2))
   (qI (IM (i:=1) yS.nd rfl (Or.inl rfl) qH)
   (qP (E7 (i:=2) yS.nd rfl rfl (own:=["part","branch"]) (cap:=[]) (sK rfl) (sO (qx 2))
   (fun _ _ _ _ _=>(qS (i:=0) Mr rfl (Or.inl rfl))) (fun _ _ _ _ _=>sw)
   (fun _ _ _ _ _=>(sO (rk wY (hr.mono BH) (qB (qx 0) qG)))) (fun _ _ _ _ _=>(qS (i:=1) Mr rfl (Or.inl rfl))) (fun _ _ _ _ _=>sw)
   (fun _ _ _ _ _=>(qx 1))))))
  (qP (qY (qx 1))))))
end
def dA(a:An):D:=.tup [.int (a.1:Int),.int (a.2.1:Int),.bl a.2.2]
def Ls(O:M)(d:D)(ds:List D):Prop:=rK O d=some ds/\∃c,lsC O d=some (ds,c)/\q0 c O/\∀Z6,Gr O Z6->q0 c Z6
def Ls.lst{O:M}{ds:List D}:Ls O (.lst ds) ds:=⟨rfl,none,rfl,trivial,fun _ _=>trivial⟩
def Ls.ref{O:M}{k:Nat}{ds:List D}(h:O[k]?=some (some (.lst ds))):Ls O (.ref k) ds:=⟨xa h,_,EB h,h,fun _ g=>g.get h⟩
def zd{O:M}{d:D}{ds:List D}(h:Ls O d ds):(∃k,d=.ref k/\O[k]?=some (some (.lst ds)))\/(d=.lst ds)\/d=.scr ds:=by
 obtain⟨h1,_⟩:=h;cases d with
 |lst xs=>cases h1;exact .inr (.inl rfl)
 |scr xs=>cases h1;exact .inr (.inr rfl)
 |ref k=>
  simp only[rK] at h1;split at h1
  ·rename_i xs hk;cases h1;exact .inl ⟨k,rfl,hk⟩
  ·cases h1
 |_=>cases h1
def Ls.gr{O Z6:M}{d:D}{ds:List D}(h:Ls O d ds)(g:Gr O Z6):Ls Z6 d ds:=by
 rcases zd h with⟨k,rfl,hk⟩|rfl|rfl
 ·exact .ref (g.get hk)
 ·exact .lst
 ·exact⟨rfl,none,rfl,trivial,fun _ _=>trivial⟩
theorem forX_inv{c:Ck}{g:GV}{body:SX}(Pv:G->M->Prop):∀(its:List D) (B:G) (O:M),Pv B O->
  (∀d∈its,∀B O,Pv B O->∃ZZ Z5 ZW Z4,g d B O=some (ZZ,Z5)/\body ZZ Z5=some (.nx,ZW,Z4)/\q0 c Z4/\Pv ZW Z4)->∃ZY Z6,vD c g body its B O=some (.nx,ZY,Z6)/\Pv ZY Z6
 | [],B,O,h,_=>⟨B,O,rfl,h⟩
 |d::r,B,O,h,hs=>by
  obtain⟨ZZ,Z5,ZW,Z4,h1,h2,h3,h4⟩:=hs d (by simp) B O h;obtain⟨ZY,Z6,h5,h6⟩:=forX_inv Pv r ZW Z4 h4 fun d hd=>hs d (by simp[hd]);refine⟨ZY,Z6,?_,h6⟩;simp only[vD,h1,bs,h2];rw[tU h3,h5]
def Ok2(n:Nat)(as:List An):Prop:=∀a∈as,a.1<n/\a.2.1<n/\a.1≠a.2.1
def Ok2.inN{n:Nat}{as:List An}(h:Ok2 n as):InN n as:=fun a ha=>⟨(h a ha).1,(h a ha).2.1⟩
def Q7{C:Addr}{n:Nat}{d:D}{as:List An}{O:M}(hl:Ls O d (as.map dA))(hv:Ok2 n as):zS C [.int (n:Int),d] O=some (.ok .non,O):=by
 obtain⟨h1,c,h2,h3,h4⟩:=hl;have main:=forX_inv (c:=c) (g:=(rO 3 (qN (qA 2) (qN (qA 3) (qN (qA 4) rM))))) (body:=(rY (tP (upB (tm (vU (vT (tY fLe fLt (vC (.int 0)) (be 2) (be 0))) (vT (tY fLe fLt (vC (.int 0)) (be 3) (be 0))))))
    (vY C ((be 2)::((be 3)::((be 0)::[]))))
    (upS sNx))
   (tP (upB (vT (v2 fEq (be 2) (be 3))))
    (vY C ((be 2)::[]))
    (upS sNx))))
  (fun B Z6=>Z6=O/\∃o2 o3 o4,B=[some (.int (n:Int)),some d,o2,o3,o4]) (as.map dA) [some (.int (n:Int)),some d,none,none,none] O ⟨rfl,_,_,_,rfl⟩ ?_
 ·obtain⟨ZY,Z6,e,rfl,o2,o3,o4,rfl⟩:=main;refine Jn (ZZ:=[some (.int (n:Int)),some d,o2,o3,o4]) rfl ?_;unfold C3;show rY _ _ [some (.int (n:Int)),some d,none,none,none] Z6=_;have t:vT (v2 fLt (be 0) (vC (.int 0))) [some (.int (n:Int)),some d,none,none,none] Z6=some (false,Z6):=by
   have:¬((n:Int)<0):=by omega
   simp[fLt,fI0,this]
  rw[zh (ZZ:=[some (.int (n:Int)),some d,none,none,none]) (Z5:=Z6) ((zD (Ak t)).trans (wI (o:=.nx) rfl))];have hi:ivL (be 1) [some (.int (n:Int)),some d,none,none,none] Z6=some ((as.map dA,c),Z6):=by
   simp[h2]
  show(ivL (be 1) _ Z6).bind _=_;rw[hi,bs];exact e
 ·rintro x hx B Z6 ⟨rfl,o2,o3,o4,rfl⟩;obtain⟨a,ha,rfl⟩:=Xw.mp hx;obtain⟨q1,q2,q3⟩:=hv a ha;refine⟨[some (.int (n:Int)),some d,some (.int (a.1:Int)),some (.int (a.2.1:Int)),some (.bl a.2.2)],Z6,[some (.int (n:Int)),some d,some (.int (a.1:Int)),some (.int (a.2.1:Int)),some (.bl a.2.2)],Z6,rfl,?_,h3,rfl,some (.int (a.1:Int)),some (.int (a.2.1:Int)),some (.bl a.2.2),rfl⟩;have t1:(tm (vU (vT (tY fLe fLt (vC (.int 0)) (be 2) (be 0))) (vT (tY fLe fLt (vC (.int 0)) (be 3) (be 0))))) [some (.int (n:Int)),some d,some (.int (a.1:Int)),some (.int (a.2.1:Int)),some (.bl a.2.2)] Z6=some (false,Z6):=by
   have b1:(0:Int)<=(a.1:Int):=by omega
   have b2:(0:Int)<=(a.2.1:Int):=by omega
   have b3:(a.1:Int)<(n:Int):=by omega
   have b4:(a.2.1:Int)<(n:Int):=by omega
   simp[fLe,fLt,fI0,b1,b2,b3,b4]
  have t2:vT (v2 fEq (be 2) (be 3)) [some (.int (n:Int)),some d,some (.int (a.1:Int)),some (.int (a.2.1:Int)),some (.bl a.2.2)] Z6=some (false,Z6):=by
   have:¬((a.1:Int)=(a.2.1:Int)):=by omega
   simp[fEq,eqD,this]
  rw[zh (ZZ:=[some (.int (n:Int)),some d,some (.int (a.1:Int)),some (.int (a.2.1:Int)),some (.bl a.2.2)]) (Z5:=Z6) ((zD (Ak t1)).trans (wI (o:=.nx) rfl))];exact(zD (Ak t2)).trans (wI (o:=.nx) rfl)
def kvH(hs:List (Nat×Nat)):List (Key×D):=hs.map fun p=>(Sum.inl (p.1:Int),D.int (p.2:Int))
def Fz(hs:List (Nat×Nat))(x:Nat):sS (kvH hs) (Sum.inl (x:Int))=(qX hs x).map fun r=>D.int (r:Int):=by
 unfold sS qX kvH;induction hs with
 |nil=>rfl
 |cons p r ih=>
  rw[Xr,Xt,Xt];by_cases z:p.1=x
  ·subst z;simp
  ·have z':¬((Sum.inl (p.1:Int):Key)=Sum.inl (x:Int)):=fun e=>z (by injection e with e;omega);simp only[z,z',decide_false];exact ih
def MB{kvs:List (Key×D)}{k:Key}(v:D)(h:sS kvs k=none):tH kvs k v=kvs++[(k,v)]:=by
 unfold tH;rw[if_neg];intro hc;obtain⟨kv,hm,he⟩:=Yl.mp hc;unfold sS at h;rw[Option.map_eq_none_iff,Yq] at h;exact h kv hm he
def MC{hs:List (Nat×Nat)}{k:Nat}(v:Nat)(h:k∉hs.map (·.1)):tH (kvH hs) (Sum.inl (k:Int)) (.int (v:Int))=kvH (hs++[(k,v)]):=by
 rw[MB _ (by rw[Fz,hVal_none.mpr h];rfl)];simp[kvH]
theorem Jx{o w:Nat}{n:Nat}:∀(hs done:List (Nat×Nat)) (o1 o2:Option D) (O:M),O[n]?=some (some (.dK (kvH (sh done o w))))->((done++hs).map (·.1)).Nodup->(done++hs).length<=100000->
  uS n none (rO 2 (qN (qA 0) (qN (qA 1) rM))) qJ (be 0) (vIf (vT (v2 fEq (be 1) (be 2))) (be 3) (be 1)) ((kvH hs).map fun kv=>.tup [z4 kv.1,kv.2]) [o1,o2,some (.int (o:Int)),some (.int (w:Int))] O
   =some (O.set n (some (.dK (kvH (sh (done++hs) o w)))))
 | [],done,o1,o2,O,h,_,_=>by
  simp only[kvH,List.map_nil,uS,X0];congr 1;apply List.ext_getElem?;intro j;by_cases e:j=n
  ·subst e;rw[h,tG h];rfl
  ·rw[tW e]
 |p::hs,done,o1,o2,O,h,hn,hl=>by
  have hp:p.1∉(sh done o w).map (·.1):=by
   rw[Ht];rw[X6,YG] at hn;exact fun hm=>hn.2.2 p.1 hm p.1 (by simp) rfl
  have e1:sh done o w++[(p.1,if p.2=o then w else p.2)]=sh (done++[p]) o w:=by simp[sh]
  have hset:=tG (y:=some (Z9.dK (kvH (sh (done++[p]) o w)))) h;have ih:=Jx (n:=n) (o:=o) (w:=w) hs (done++[p]) (some (.int (p.1:Int))) (some (.int (p.2:Int))) (O.set n (some (.dK (kvH (sh (done++[p]) o w))))) hset (by simpa using hn) (by simpa using hl);have hg:rO 2 (qN (qA 0) (qN (qA 1) rM)) (.tup [.int (p.1:Int),.int (p.2:Int)]) [o1,o2,some (.int (o:Int)),some (.int (w:Int))] O=some ([some (.int (p.1:Int)),some (.int (p.2:Int)),some (.int (o:Int)),some (.int (w:Int))],O):=rfl;have hv:vIf (vT (v2 fEq (be 1) (be 2))) (be 3) (be 1) [some (.int (p.1:Int)),some (.int (p.2:Int)),some (.int (o:Int)),some (.int (w:Int))] O=some (.int ((if p.2=o then w else p.2:Nat):Int),O):=by
   by_cases z:p.2=o
   ·subst z;simp[fEq,eqD]
   ·have z':¬((p.2:Int)=(o:Int)):=by omega
    simp[fEq,eqD,z,z']
  have hk:be 0 [some (.int (p.1:Int)),some (.int (p.2:Int)),some (.int (o:Int)),some (.int (w:Int))] O=some (.int (p.1:Int),O):=rfl;show uS n none _ qJ (be 0) _ (.tup [.int (p.1:Int),.int (p.2:Int)]::(kvH hs).map fun kv=>.tup [z4 kv.1,kv.2]) _ O=_;simp only[uS,hg,bs];show(qJ _ _).bind _=_;simp only[qJ,bs,if_true,hk,hv,vc,sB,h];rw[tU ⟨by simp[kvH,sh];simp at hl;omega,trivial⟩,MC _ hp,e1];rw[ih];congr 1;rw[List.set_set,List.append_assoc];rfl
theorem U2{h o w:Nat}{hs:List (Nat×Nat)}{O:M}(hh:O[h]?=some (some (.dK (kvH hs))))(hn:hNd hs)(hl:hs.length<=100000):
  uD [.ref h,.int (o:Int),.int (w:Int)] O=some (.ref O.length,O.set h none++[some (.dK (kvH (sh hs o w)))]):=by
 have hlen:(O.set h none).length=O.length:=YD ..;have h0:(O.set h none++[some (Z9.dK [])])[O.length]?=some (some (.dK (kvH (sh [] o w)))):=by
  rw[XR (by omega),hlen];simp[kvH,sh]
 have e:=Jx (o:=o) (w:=w) (n:=O.length) hs [] none none (O.set h none++[some (.dK [])]) h0 (by simpa[hNd] using hn) (by simpa using hl);have hv:AM ["thing","home"] [("old",1),("new",2)] (be 0) (rO 2 (qN (qA 0) (qN (qA 1) rM))) qJ (be 0) (vIf (vT (v2 fEq (be 1) (be 2))) (be 3) (be 1)) [some (.ref h),some (.int (o:Int)),some (.int (w:Int))] O=some (.ref O.length,O.set h none++[some (.dK (kvH (sh hs o w)))]):=by
  unfold AM;have hv0:be 0 [some (.ref h),some (.int (o:Int)),some (.int (w:Int))] O=some (.ref h,O):=rfl;rw[hv0,bs];show(sB O (.ref h)).bind _=_;simp only[sB,hh,bs];rw[tU (by simp[kvH];omega)];have hc:rB (["thing","home"]:List Str) [("old",1),("new",2)] [some (.ref h),some (.int (o:Int)),some (.int (w:Int))]=[none,none,some (.int (o:Int)),some (.int (w:Int))]:=rfl;rw[hc,e,bs];congr 2;have:(O.set h none++[some (Z9.dK [])]).set O.length (some (.dK (kvH (sh ([]++hs) o w))))=O.set h none++[some (.dK (kvH (sh hs o w)))]:=by
   rw[List.set_append_right _ _ (by omega),hlen];simp
  exact this
 unfold uD Es;rw[vw,if_pos (show [D.ref h,D.int (o:Int),D.int (w:Int)].length=3 from rfl)];show tL (qR _ [some (.ref h),some (.int (o:Int)),some (.int (w:Int))] O)=_;rw[xF,hv];rfl
structure On (s:Nat) (O Z6:M):Prop where
 len:Z6.length=O.length
 at_:∀j,j≠s->Z6[j]?=O[j]?
def On.refl{s:Nat}{O:M}:On s O O:=⟨rfl,fun _ _=>rfl⟩
def VG{s:Nat}{O:M}{o:Option Z9}:On s O (O.set s o):=⟨by simp,fun j n=>tW n⟩
def On.trans{s:Nat}{O Z5 Z4:M}(h:On s O Z5)(g:On s Z5 Z4):On s O Z4:=⟨g.len.trans h.len,fun j n=>(g.at_ j n).trans (h.at_ j n)⟩
def On.gr{s:Nat}{O Z5 Z4:M}(g:Gr O Z5)(h:On s Z5 Z4)(hs:O.length<=s):Gr O Z4:=⟨by rw[h.len];exact g.len,fun j hj=>by rw[h.at_ j (by omega)];exact g.at_ j hj⟩
theorem Kn{h x:Nat}{hs:List (Nat×Nat)}{O:M}{B:G}{ek:EV}(h0:B[1]?=some (some (.ref h)))(hk:ek B O=some (.int (x:Int),O))(hh:O[h]?=some (some (.dK (kvH hs))))(hl:hs.length<100000):
  ∃d Z6,uf (be 1) ek ek B O=some (d,Z6)/\Z6[h]?=some (some (.dK (kvH (qZ hs x))))/\On h O Z6:=by
 have hv:be 1 B O=some (.ref h,O):=HH h0;have hd:sB O (.ref h)=some (kvH hs):=by simp only[sB,hh]
 have hlen:(kvH hs).length<1000000:=by simp[kvH];omega
 unfold uf;rw[hv,bs];simp only[hd,bs,hk,vc,if_pos hlen,Fz];cases hx:qX hs x with
 |some r=>
  refine⟨.int (r:Int),O,rfl,?_,.refl⟩;unfold qZ;rw[hx];exact hh
 |none=>
  refine⟨.int (x:Int),O.set h (some (.dK (tH (kvH hs) (Sum.inl (x:Int)) (.int (x:Int))))),rfl,?_,VG⟩;rw[tG hh,MC _ (hVal_none.mp hx)];unfold qZ;rw[hx];rfl
def BJ{h x r:Nat}{hs:List (Nat×Nat)}{O:M}(hh:O[h]?=some (some (.dK (kvH hs))))(hx:qX hs x=some r):tw (.ref h) (.int (x:Int)) O=some (.int (r:Int),O):=by
 unfold tw;simp only[sB,hh,bs,vc,Fz,hx];rfl
abbrev Aa:SV:=(qE (uJ (uf (be 1) (be 2) (be 2)))
   (qE (uJ (uf (be 1) (be 3) (be 3)))
   (sIf (rH (be 4))
    (qQ (vL uD (qy (be 1) (qy (v2 tw (be 1) (be 3)) (qy (v2 tw (be 1) (be 2)) qD)))) (qA 1))
    sNx)))
theorem Nt{d:D}{h:Nat}{a:An}{hs:List (Nat×Nat)}{O:M}(hh:O[h]?=some (some (.dK (kvH hs))))(hn:hNd hs)(hl:hs.length<10000):
  ∃h' Z6,Aa [some d,some (.ref h),some (.int (a.1:Int)),some (.int (a.2.1:Int)),some (.bl a.2.2)] O=some (.nx,[some d,some (.ref h'),some (.int (a.1:Int)),some (.int (a.2.1:Int)),some (.bl a.2.2)],Z6)/\Z6[h']?=some (some (.dK (kvH (ug hs a))))/\(∀Zn,Gr Zn O->Zn.length<=h->Gr Zn Z6/\Zn.length<=h'):=by
 obtain⟨d1,Z5,e1,h1,o1⟩:=Kn (x:=a.1) (B:=[some d,some (.ref h),some (.int (a.1:Int)),some (.int (a.2.1:Int)),some (.bl a.2.2)]) (ek:=be 2) rfl rfl hh (by omega);have l1:=AR hs a.1;obtain⟨d2,Z4,e2,h2,o2⟩:=Kn (x:=a.2.1) (B:=[some d,some (.ref h),some (.int (a.1:Int)),some (.int (a.2.1:Int)),some (.bl a.2.2)]) (ek:=be 3) (O:=Z5) rfl rfl h1 (by omega);have l2:=AR (qZ hs a.1) a.2.1;have s12:Aa [some d,some (.ref h),some (.int (a.1:Int)),some (.int (a.2.1:Int)),some (.bl a.2.2)] O=sIf (rH (be 4)) (qQ (vL uD (qy (be 1) (qy (v2 tw (be 1) (be 3)) (qy (v2 tw (be 1) (be 2)) qD)))) (qA 1)) sNx [some d,some (.ref h),some (.int (a.1:Int)),some (.int (a.2.1:Int)),some (.bl a.2.2)] Z4:=by
  unfold Aa;rw[tz,Ap,e1];show xt _ (some (.nx,_,Z5))=_;rw[wg,tz,Ap,e2];rfl
 rw[s12];have hb:rH (be 4) [some d,some (.ref h),some (.int (a.1:Int)),some (.int (a.2.1:Int)),some (.bl a.2.2)] Z4=some (a.2.2,Z4):=by simp
 cases hc:a.2.2 with
 |false=>
  rw[hc] at hb;refine⟨h,Z4,by rw[wu,hb];rfl,?_,fun Zn g0 hle=>⟨On.gr g0 (o1.trans o2) hle,hle⟩⟩;rw[h2];unfold ug;simp[hc]
 |true=>
  rw[hc] at hb;have vi:∃r,qX (qZ (qZ hs a.1) a.2.1) a.1=some r:=by
   rw[xb];split
   ·exact⟨_,rfl⟩
   ·rw[xb,if_pos rfl];exact⟨_,rfl⟩
  have vj:∃r,qX (qZ (qZ hs a.1) a.2.1) a.2.1=some r:=by rw[xb,if_pos rfl];exact⟨_,rfl⟩
  obtain⟨ri,hi⟩:=vi;obtain⟨rj,hj⟩:=vj;have nd2:=BF (BF hn a.1) a.2.1;have em:=U2 (o:=rj) (w:=ri) h2 nd2 (by omega);refine⟨Z4.length,Z4.set h none++[some (.dK (kvH (sh (qZ (qZ hs a.1) a.2.1) rj ri)))],?_,?_,fun Zn g0 hle=>?_⟩
  ·rw[wu,hb];show qQ _ _ _ _=_;have gj:=BJ h2 hj;have gi:=BJ h2 hi;simp[gj,gi,em]
  ·have:(Z4.set h none).length=Z4.length:=YD ..;rw[XR (by omega),this];simp[ug,hc,hi,hj]
  ·have g2:=On.gr g0 (o1.trans o2) hle;refine⟨⟨by simp;have:=g2.len;omega,fun j hj'=>?_⟩,g2.len⟩;have hlt:j<Z4.length:=by have:=g2.len;omega
   rw[Xv (by simpa using hlt),tW (by omega)];exact g2.at_ j hj'
def Qa{d:D}{as:List An}{O:M}(hl:Ls O d (as.map dA))(hs:as.length<=1000):∃h Z6,wT uD [d] O=some (.ref h,Z6)/\Z6[h]?=some (some (.dK (kvH (rZ as))))/\Gr O Z6:=by
 obtain⟨h1,c,h2,h3,h4⟩:=hl;have main:=Br (c:=c) (g:=(rO 3 (qN (qA 2) (qN (qA 3) (qN (qA 4) rM))))) (body:=Aa)
  (fun i B Z6=>∃h o2 o3 o4,B=[some d,some (.ref h),o2,o3,o4]/\Z6[h]?=some (some (.dK (kvH (rZ (as.take i)))))/\Gr O Z6/\O.length<=h)
  (as.map dA) 0 [some d,some (.ref O.length),none,none,none] (O++[some (.dK [])]) ⟨O.length,_,_,_,rfl,by simp[kvH,rZ],gr_app,Xh _⟩ ?_
 ·obtain⟨ZY,Z6,e,h,o2,o3,o4,rfl,hh,g,_⟩:=main;rw[YH,Xn,List.take_length] at hh;refine⟨h,Z6,?_,hh,g⟩;unfold wT Cm;rw[vw,if_pos (show [d].length=1 from rfl)];show tL (qE _ _ [some d,none,none,none,none] O)=_;have s1:qQ yY (qA 1) [some d,none,none,none,none] O=some (.nx,[some d,some (.ref O.length),none,none,none],O++[some (.dK [])]):=rfl;have hi:ivL (be 0) [some d,some (.ref O.length),none,none,none] (O++[some (.dK [])])=some ((as.map dA,c),O++[some (.dK [])]):=by
   have hL:Ls (O++[some (.dK [])]) d (as.map dA):=Ls.gr ⟨h1,c,h2,h3,h4⟩ gr_app;have:lsC (O++[some (.dK [])]) d=some (as.map dA,c):=by
    cases d with
    |ref k=>
     rcases zd (O:=O) (d:=.ref k) ⟨h1,c,h2,h3,h4⟩ with⟨k',e,hk⟩|e|e
     ·cases e;rw[EB hk] at h2;rw[EB ((gr_app (ex:=[some (.dK [])])).get hk)];exact h2
     ·cases e
     ·cases e
    |_=>exact h2
   simp[this]
  rw[tz,s1,wg,tz,wL,hi,xo,e];rfl
 ·rintro j x B Z5 hx ⟨h,o2,o3,o4,rfl,hh,g,hle⟩;rw[YH] at hh;rw[XA] at hx;cases ha:as[j]? with
  |none=>rw[ha] at hx;cases hx
  |some a=>
   rw[ha] at hx;cases hx;have hlen:(rZ (as.take j)).length<10000:=by
    have:=Ps (as.take j);have:=List.length_take_le j as;rw[List.length_take] at*;omega
   obtain⟨h',Z4,e,hh2,hg⟩:=Nt (d:=d) (a:=a) hh (OC _) hlen;obtain⟨g2,hle2⟩:=hg O g hle;refine⟨[some d,some (.ref h),some (.int (a.1:Int)),some (.int (a.2.1:Int)),some (.bl a.2.2)],Z5,_,Z4,rfl,e,h4 _ g2,h',some (.int (a.1:Int)),some (.int (a.2.1:Int)),some (.bl a.2.2),rfl,?_,g2,hle2⟩;rw[hh2,YH,zl0 as j a ha]
theorem Ay{c:Ck}{g:GV}{tc:BV}{te:EV}{α:Type}{dn:α->D}{keep:α->Bool}{val:α->D}(Pv:G->Prop){O:M}(hc:q0 c O):∀(l:List α) (B:G),Pv B->
  (∀x∈l,∀B,Pv B->∃ZZ,g (dn x) B O=some (ZZ,O)/\tc ZZ O=some (keep x,O)/\(keep x=true->te ZZ O=some (val x,O))/\Pv ZZ)->
  rE c g tc te (l.map dn) B O=some ((l.filter keep).map val,O)
 | [],_,_,_=>rfl
 |x::r,B,h,hs=>by
  obtain⟨ZZ,h1,h2,h3,h4⟩:=hs x (by simp) B h;have ih:=Ay Pv hc r ZZ h4 fun x hx=>hs x (by simp[hx]);simp only[Xr,rE,h1,bs,h2];cases hk:keep x with
  |true=>simp only[if_true,h3 hk,bs,tU hc,ih,List.filter_cons_of_pos hk,Xr]
  |false=>simp only[XB,if_false,tU hc,ih,YK,hk]
def GX{α:Type}(l:List α):l.filter (fun _=>true)=l:=List.filter_eq_self.mpr (by simp)
section
variable {α:Type} {own:Str} {cap:List (Str×Nat)} {qO:G} {iv:IV} {tc:BV} {te:EV} {B:G} {O:M} {c:Ck} {l:List α} {dn:α->D}
theorem zsh{keep:α->Bool}{val:α->D}(hi:iv B O=some ((l.map dn,c),O))(hl:l.length<=1000000)(hc:q0 c O)(he:rB [own] cap B=none::qO)
  (ht:∀x∈l,tc (some (dn x)::qO) O=some (keep x,O)) (hv:∀x∈l,keep x=true->te (some (dn x)::qO) O=some (val x,O)):rL [own] cap iv (qA 0) tc te B O=some (.lst ((l.filter keep).map val),O):=by
 rw[B8,hi,Ca,if_pos (by simpa using hl),he];rw[Ay (g:=qA 0) (tc:=tc) (te:=te) (keep:=keep) (val:=val) (fun B=>∃o,B=o::qO) hc l (none::qO) ⟨none,rfl⟩ (by
  rintro x hx B ⟨o,rfl⟩;exact⟨some (dn x)::qO,rfl,ht x hx,hv x hx,_,rfl⟩)]
 rfl
theorem DC{val:α->D}(hi:iv B O=some ((l.map dn,c),O))(hl:l.length<=1000000)(hc:q0 c O)(he:rB [own] cap B=none::qO)
  (hv:∀x∈l,te (some (dn x)::qO) O=some (val x,O)):rL [own] cap iv (qA 0) qJ te B O=some (.lst (l.map val),O):=by
 rw[zsh (keep:=fun _=>true) (val:=val) hi hl hc he (fun _ _=>rfl) (fun x hx _=>hv x hx),GX]
end
def Ls.iv{O:M}{d:D}{ds:List D}{B:G}{i:Nat}(h:Ls O d ds)(Za:B[i]?=some (some d)):∃c,ivL (be i) B O=some ((ds,c),O)/\q0 c O/\∀Z6,Gr O Z6->q0 c Z6:=by
 obtain⟨h1,c,h2,h3,h4⟩:=h;exact⟨c,by unfold ivL;rw[HH Za,bs];show(lsC O d).bind _=_;rw[h2,bs],h3,h4⟩
section
variable {C CF:Addr} {n:Nat} {d:D} {as:List An} {O:M}
abbrev wB(C:Addr):FX:=FU (wT uD) (zS C)
abbrev B9(C CF:Addr):FX:=DK (wB C) CF
theorem La(hl:Ls O d (as.map dA))(hv:Ok2 n as)(hs:as.length<=1000):∃Z6,wB C [.int (n:Int),d] O=some (.ok (.bl (tN as)),Z6)/\Gr O Z6:=by
 obtain⟨h,Z5,e1,hh,g⟩:=Qa hl hs;refine⟨Z5,?_,g⟩;have hc1:=Q7 (C:=C) hl hv;obtain⟨c,hi,hck,_⟩:=(hl.gr g).iv (B:=[some (.int (n:Int)),some d,some (.ref h)]) (i:=1) rfl;have hcmp:rL ["i","j","alike"] [("homes",2)] (ivL (be 1)) (rO 3 (qN (qA 0) (qN (qA 1) (qN (qA 2) rM)))) qJ (vOr (be 2) (v2 fNe (v2 tw (be 3) (be 0)) (v2 tw (be 3) (be 1)))) [some (.int (n:Int)),some d,some (.ref h)] Z5=some (.lst ((as.map fun a=>a.2.2||!decide (qX (rZ as) a.1=qX (rZ as) a.2.1)).map D.bl),Z5):=by
  rw[B8,hi,Ca,if_pos (by simp;omega)];have ec:rB (["i","j","alike"]:List Str) [("homes",2)] [some (.int (n:Int)),some d,some (.ref h)]=[none,none,none,some (.ref h)]:=rfl;rw[ec,Ay (dn:=dA) (keep:=fun _=>true) (val:=fun a=>D.bl (a.2.2||!decide (qX (rZ as) a.1=qX (rZ as) a.2.1))) (fun B=>∃o1 o2 o3,B=[o1,o2,o3,some (.ref h)]) hck as _ ⟨_,_,_,rfl⟩ ?_,GX]
  ·simp
  ·rintro a ha B ⟨o1,o2,o3,rfl⟩;obtain⟨n1,n2⟩:=(Dh as).named a ha;obtain⟨r1,q1⟩:=X8.mp n1;obtain⟨r2,q2⟩:=X8.mp n2;have g1:=BJ hh q1;have g2:=BJ hh q2;refine⟨[some (.int (a.1:Int)),some (.int (a.2.1:Int)),some (.bl a.2.2),some (.ref h)],rfl,rfl,fun _=>?_,_,_,_,rfl⟩;have ht:v2 fNe (v2 tw (be 3) (be 0)) (v2 tw (be 3) (be 1)) [some (.int (a.1:Int)),some (.int (a.2.1:Int)),some (.bl a.2.2),some (.ref h)] Z5=some (.bl (!decide (qX (rZ as) a.1=qX (rZ as) a.2.1)),Z5):=by
    rw[e_2 (x:=.int (r1:Int)) (Z5:=Z5) (y:=.int (r2:Int)) (Z4:=Z5) (by rw[e_2 (x:=.ref h) (Z5:=Z5) (y:=.int (a.1:Int)) (Z4:=Z5) rfl rfl];exact g1) (by rw[e_2 (x:=.ref h) (Z5:=Z5) (y:=.int (a.2.1:Int)) (Z4:=Z5) rfl rfl];exact g2),q1,q2];simp[fNe,eqD];omega
   cases hb:a.2.2 with
   |true=>rfl
   |false=>
    rw[hb] at ht;rw[Sc];show Bh _ _ (some (.bl false,Z5))=_;exact ht
 refine Ar (ZZ:=[some (.int (n:Int)),some d,some (.ref h)]) rfl ?_;unfold E9;show rY _ _ [some (.int (n:Int)),some d,none] O=_;rw[zh (ZZ:=[some (.int (n:Int)),some d,none]) (Z5:=O) (Lq (d:=.non) (by rw[yL (ds:=[.int (n:Int),d]) (Z5:=O) (zO rfl)];exact hc1))];refine wI (o:=.rt _) ?_;have s1:qQ (vL (wT uD) (qy (be 1) qD)) (qA 2) [some (.int (n:Int)),some d,none] O=some (.nx,[some (.int (n:Int)),some d,some (.ref h)],Z5):=by
  simp[e1]
 rw[tz,s1,wg,xF,e_1 hcmp];simp only[ul,rK,bs,My];show some (Out.rt (.bl _),_,_)=_;congr 4;unfold tN;simp[List.all_map]
theorem PF(hl:Ls O d (as.map dA))(hv:Ok2 n as)(hs:as.length<=1000)(hc:tN as=true):∃Z6,B9 C CF [.int (n:Int),d] O=some (.ok .non,Z6)/\Gr O Z6:=by
 obtain⟨Z5,e,g⟩:=La (C:=C) hl hv hs;rw[hc] at e;refine⟨Z5,Jn (ZZ:=[some (.int (n:Int)),some d]) rfl ?_,g⟩;unfold Fd;show tP _ _ _ [some (.int (n:Int)),some d] O=_;have e2:vLX (wB C) (upL (qy (be 0) (qy (be 1) qD))) [some (.int (n:Int)),some d] O=some (.ok (.bl true),Z5):=by
  rw[yL (ds:=[.int (n:Int),d]) (Z5:=O) (zO rfl)];exact e
 have e3:Bs (bTX (vLX (wB C) (upL (qy (be 0) (qy (be 1) qD))))) [some (.int (n:Int)),some d] O=some (.ok false,Z5):=by
  unfold Bs bTX;rw[e2];rfl
 rw[zD e3];exact wI (o:=.nx) rfl
end
def dI(s:List Int):D:=.lst (s.map D.int)
def Q2(a b:Bool)(O:M):eqD (.bl a) (.bl b) O=some (a==b):=by
 cases a<;>cases b<;>rfl
abbrev wb:SV:=(sIf (vT (v2 fNe (v2 fEq (v2 fIx (be 0) (be 2)) (v2 fIx (be 0) (be 3))) (be 4)))
    (qR (vC (.bl false)))
    sNx)
theorem JP{s:List Int}{d:D}{c:Ck}{O:M}(hc:q0 c O):∀(as:List An) (o2 o3 o4:Option D),InN s.length as->
  (sL s as=true->∃o2' o3' o4',rJ c (rO 3 (qN (qA 2) (qN (qA 3) (qN (qA 4) rM)))) wb (as.map dA) [some (dI s),some d,o2,o3,o4] O=some (.nx,[some (dI s),some d,o2',o3',o4'],O))/\
  (sL s as=false->∃ZY,rJ c (rO 3 (qN (qA 2) (qN (qA 3) (qN (qA 4) rM)))) wb (as.map dA) [some (dI s),some d,o2,o3,o4] O=some (.rt (.bl false),ZY,O))
 | [],o2,o3,o4,_=>⟨fun _=>⟨o2,o3,o4,rfl⟩,fun h=>by cases h⟩
 |a::as,o2,o3,o4,hv=>by
  obtain⟨h1,h2⟩:=hv a (by simp);obtain⟨ih1,ih2⟩:=JP (s:=s) (d:=d) hc as (some (.int (a.1:Int))) (some (.int (a.2.1:Int))) (some (.bl a.2.2)) (fun x hx=>hv x (by simp[hx]));have hg:rO 3 (qN (qA 2) (qN (qA 3) (qN (qA 4) rM))) (dA a) [some (dI s),some d,o2,o3,o4] O=some ([some (dI s),some d,some (.int (a.1:Int)),some (.int (a.2.1:Int)),some (.bl a.2.2)],O):=rfl;have ix:∀x:Nat,x<s.length->fIx (dI s) (.int (x:Int)) O=some (.int (s.getD x 0),O):=fun x hx=>by
   simp only[fIx,dI,rK];rw[u4 (j:=x) (v:=.int (s.getD x 0)) (by rw[XA,Xk];simp[Xm hx])];rfl
  have t:vT (v2 fNe (v2 fEq (v2 fIx (be 0) (be 2)) (v2 fIx (be 0) (be 3))) (be 4)) [some (dI s),some d,some (.int (a.1:Int)),some (.int (a.2.1:Int)),some (.bl a.2.2)] O=some (!(decide (s.getD a.1 0=s.getD a.2.1 0)==a.2.2),O):=by
   rw[GP,e_2 (x:=.bl (decide (s.getD a.1 0=s.getD a.2.1 0))) (Z5:=O) (y:=.bl a.2.2) (Z4:=O) (by
    rw[e_2 (x:=.int (s.getD a.1 0)) (Z5:=O) (y:=.int (s.getD a.2.1 0)) (Z4:=O) (by rw[e_2 (x:=dI s) (Z5:=O) (y:=.int (a.1:Int)) (Z4:=O) rfl rfl];exact ix _ h1) (by rw[e_2 (x:=dI s) (Z5:=O) (y:=.int (a.2.1:Int)) (Z4:=O) rfl rfl];exact ix _ h2)];rfl) rfl]
   simp only[fNe,Q2,bs];rfl
  have ef:sL s (a::as)=((decide (s.getD a.1 0=s.getD a.2.1 0)==a.2.2)&&sL s as):=rfl;rw[ef];cases hb:(decide (s.getD a.1 0=s.getD a.2.1 0)==a.2.2) with
  |true=>
   rw[hb] at t;have hbd:wb [some (dI s),some d,some (.int (a.1:Int)),some (.int (a.2.1:Int)),some (.bl a.2.2)] O=some (.nx,[some (dI s),some d,some (.int (a.1:Int)),some (.int (a.2.1:Int)),some (.bl a.2.2)],O):=by
    unfold wb;rw[wu,t];rfl
   have step:rJ c (rO 3 (qN (qA 2) (qN (qA 3) (qN (qA 4) rM)))) wb ((a::as).map dA) [some (dI s),some d,o2,o3,o4] O=rJ c (rO 3 (qN (qA 2) (qN (qA 3) (qN (qA 4) rM)))) wb (as.map dA) [some (dI s),some d,some (.int (a.1:Int)),some (.int (a.2.1:Int)),some (.bl a.2.2)] O:=by
    rw[Xr];simp only[rJ,hg,bs,hbd];rw[tU hc]
   rw[step,Bool.true_and];exact⟨ih1,ih2⟩
  |false=>
   rw[hb] at t;have hbd:wb [some (dI s),some d,some (.int (a.1:Int)),some (.int (a.2.1:Int)),some (.bl a.2.2)] O=some (.rt (.bl false),[some (dI s),some d,some (.int (a.1:Int)),some (.int (a.2.1:Int)),some (.bl a.2.2)],O):=by
    unfold wb;rw[wu,t];rfl
   refine⟨fun z=>by simp at z,fun _=>⟨[some (dI s),some d,some (.int (a.1:Int)),some (.int (a.2.1:Int)),some (.bl a.2.2)],?_⟩⟩;rw[Xr];simp only[rJ,hg,bs,hbd]
def RW{s:List Int}{d:D}{as:List An}{O:M}(hl:Ls O d (as.map dA))(hv:InN s.length as):wC [dI s,d] O=some (.bl (sL s as),O):=by
 obtain⟨c,hi,hck,_⟩:=hl.iv (B:=[some (dI s),some d,none,none,none]) (i:=1) rfl;obtain⟨l1,l2⟩:=JP (s:=s) (d:=d) hck as none none none hv;unfold wC EU;rw[vw,if_pos (show [dI s,d].length=2 from rfl)];show tL (qE _ _ [some (dI s),some d,none,none,none] O)=_;rw[tz,wL,hi,xo];cases hb:sL s as with
 |true=>
  obtain⟨o2,o3,o4,e⟩:=l1 hb;rw[e];rfl
 |false=>
  obtain⟨ZY,e⟩:=l2 hb;rw[e];rfl
def ext(m:Nat)(p:List Int×Nat):List (List Int×Nat):=(List.range (min (p.2+1) m)).map fun(i:Nat)=>(p.1++[(i:Int)],max p.2 (i+1))
def dS(p:List Int×Nat):D:=dI p.1
def S1{O:M}{s:List Int×Nat}{k:Int}{n:Nat}(g:Gd n k.toNat s)(hn:n<=7):t7 [dS s,.int k] O=some (.lst ((ext k.toNat s).map dS),O):=by
 have hl:s.1.length<=1000:=by rw[g.len];omega
 have hu:=g.used;have h2:=g.len2;have s1:qQ (v2 sf (v2 yv (be 0) (v1 vO (vC (.int 1)))) (vC (.int 1))) (qA 2) [some (dS s),some (.int k),none] O=some (.nx,[some (dS s),some (.int k),some (.int (s.2:Int))],O):=by
  have e1:v2 yv (be 0) (v1 vO (vC (.int 1))) [some (dS s),some (.int k),none] O=some (.int ((mxL s.1).getD (-1)),O):=by
   rw[e_2 (x:=dS s) (Z5:=O) (y:=.int (-1)) (Z4:=O) rfl (by simp[vO])];simp only[yv,dS,dI,rK,bs,Vq]
  rw[D1,e_2 (x:=.int ((mxL s.1).getD (-1))) (Z5:=O) (y:=.int 1) (Z4:=O) e1 rfl];simp only[sf,hu];rfl
 have s2:v2 zE (v2 sf (be 2) (vC (.int 1))) (be 1) [some (dS s),some (.int k),some (.int (s.2:Int))] O=some (.int (min ((s.2:Int)+1) k),O):=by
  rw[e_2 (x:=.int ((s.2:Int)+1)) (Z5:=O) (y:=.int k) (Z4:=O) (by simp[sf]) rfl];show some (D.int (if k<(s.2:Int)+1 then k else(s.2:Int)+1),O)=_;have e0:(if k<(s.2:Int)+1 then k else(s.2:Int)+1)=min ((s.2:Int)+1) k:=by
   simp only[Int.min_def];split<;>split<;>omega
  rw[e0]
 have s3:rL ["number"] [("sort",0)] (zu (v2 zE (v2 sf (be 2) (vC (.int 1))) (be 1))) (qA 0) qJ (v2 sf (be 1) (vL sd (qy (be 0) qD))) [some (dS s),some (.int k),some (.int (s.2:Int))] O=some (.lst ((List.range (min (s.2+1) k.toNat)).map fun i:Nat=>dI (s.1++[(i:Int)])),O):=by
  refine DC (l:=List.range (min (s.2+1) k.toNat)) (dn:=fun i:Nat=>D.int (i:Int)) (c:=none) (qO:=[some (dS s)]) ?_ (by simp;omega) trivial rfl ?_
  ·rw[Vy s2 (by have:=Int.min_le_left ((s.2:Int)+1) k;omega)];have hm:(min ((s.2:Int)+1) k).toNat=min (s.2+1) k.toNat:=by simp only[Int.min_def,Nat.min_def];split<;>split<;>omega
   rw[hm];simp[rl]
  ·intro i _;rw[e_2 (x:=dS s) (Z5:=O) (y:=.lst [.int (i:Int)]) (Z4:=O) rfl rfl];show y0 (.lst (s.1.map D.int)) (.lst [.int (i:Int)]) O=_;unfold y0;simp only[xm,bs];rw[if_pos (by simp;omega)];simp[dI]
 unfold t7 DO;rw[vw,if_pos (show [dS s,D.int k].length=2 from rfl)];show tL (qE _ _ [some (dS s),some (.int k),none] O)=_;rw[tz,s1,wg,xF,s3];simp[ext,dS,Function.comp_def,tL,kRt]
theorem Je{α:Type}{f:α->D}{O:M}{k:D}:∀(l:List α) (a o:Option D),∃o',uX none (qA 1) qJ (be 1) (l.map f) [a,o,some k] O=some (l.map f,[a,o',some k],O)
 | [],a,o=>⟨o,rfl⟩
 |p::l,a,o=>by
  obtain⟨o',e⟩:=Je l a (some (f p));refine⟨o',?_⟩;have hg:qA 1 (f p) [a,o,some k] O=some ([a,some (f p),some k],O):=rfl;have hv:be 1 [a,some (f p),some k] O=some (f p,O):=rfl;simp only[Xr,uX,hg,bs];show(qJ _ _).bind _=_;simp only[qJ,bs,if_true,hv,vX];rw[e];rfl
theorem Il{n:Nat}{k:Int}{O:M}(hn:n<=7):∀(ps:List (List Int×Nat)) (a o:Option D),(∀p∈ps,Gd n k.toNat p)->
  tp none (qA 0) qJ (ivL (vL t7 (qy (be 0) (qy (be 2) qD)))) (qA 1) qJ (be 1) (ps.map dS) [a,o,some (.int k)] O=some ((ps.flatMap (ext k.toNat)).map dS,O)
 | [],a,o,_=>rfl
 |p::ps,a,o,hg=>by
  have e1:=S1 (O:=O) (hg p (by simp)) hn;obtain⟨o',e3⟩:=Je (f:=dS) (O:=O) (k:=.int k) (ext k.toNat p) (some (dS p)) o;have e4:=Il (O:=O) hn ps (some (dS p)) o' (fun q hq=>hg q (by simp[hq]));have h0:qA 0 (dS p) [a,o,some (.int k)] O=some ([some (dS p),o,some (.int k)],O):=rfl;have hv:ivL (vL t7 (qy (be 0) (qy (be 2) qD))) [some (dS p),o,some (.int k)] O=some (((ext k.toNat p).map dS,none),O):=by
   simp[e1,lsC]
  rw[Xr];simp only[tp,h0,bs];show(qJ _ _).bind _=_;simp only[qJ,bs,if_true,hv,vX];rw[e3];simp only[bs,vX];rw[e4];simp
def OO(n m:Nat):Sx (n+1) m=(Sx n m).flatMap (ext m):=rfl
def DY{O:M}{n:Nat}{k:Int}{C:Addr}(hn:n<=7):wW t7 (.int 7) C [.int (n:Int),.int k] O=some (.ok (.lst ((Sx n k.toNat).map dS)),O):=by
 have main:=Br (c:=none) (g:=qA 3) (body:=(qQ (uv ["sort","longer"] [("most",1)] (ivL (be 2)) (qA 0) qJ (ivL (vL t7 (qy (be 0) (qy (be 2) qD)))) (qA 1) qJ (be 1)) (qA 2)))
  (fun i B Z6=>∃(o:Option D),B=[some (.int (n:Int)),some (.int k),some (.lst ((Sx i k.toNat).map dS)),o]/\Z6=O)
  (rl 0 n) 0 [some (.int (n:Int)),some (.int k),some (.lst [.lst []]),none] O ⟨none,rfl,rfl⟩ ?_
 ·obtain⟨ZY,Z6,e,o,rfl,rfl⟩:=main;rw[Td,YH] at e;refine Ar (ZZ:=[some (.int (n:Int)),some (.int k),some (.lst ((Sx n k.toNat).map dS)),o]) rfl ?_;unfold EQ;show rY _ _ [some (.int (n:Int)),some (.int k),none,none] Z6=_;have t:(bOr (vT (v2 fLt (be 0) (vC (.int 0)))) (vT (v2 fGt (be 0) (vC (.int 7))))) [some (.int (n:Int)),some (.int k),none,none] Z6=some (false,Z6):=by
   have a1:¬((n:Int)<0):=by omega
   have a2:¬((7:Int)<n):=by omega
   simp[fLt,fGt,fI0,a1,a2]
  rw[zh (ZZ:=[some (.int (n:Int)),some (.int k),none,none]) (Z5:=Z6) ((zD (Ak t)).trans (wI (o:=.nx) rfl))];refine wI (o:=.rt _) ?_;have s1:qQ (vL sd (qy (vL sd qD) qD)) (qA 2) [some (.int (n:Int)),some (.int k),none,none] Z6=some (.nx,[some (.int (n:Int)),some (.int k),some (.lst [.lst []]),none],Z6):=rfl;have hr:ivR (be 0) [some (.int (n:Int)),some (.int k),some (.lst [.lst []]),none] Z6=some ((rl 0 n,none),Z6):=by
   have hb:(-1000000000:Int)<=(n:Int)/\(n:Int)<=1000000000:=by omega
   simp[hb]
  rw[tz,s1,wg,tz,wL,hr,xo,e];rfl
 ·rintro j d B Z5 hd ⟨o,rfl,rfl⟩;obtain⟨hjn,rfl⟩:=Vl hd;rw[YH];have e:=Il (n:=j) (k:=k) (O:=Z5) (by omega) (Sx j k.toNat) none none (fun p hp=>wU _ j p hp);rw[←OO] at e;have hl:((Sx (j+1) k.toNat).map dS).length<=1000000:=by
   have:=zR (n:=j+1) (by omega) k.toNat
   simp;omega
  refine⟨[some (.int (n:Int)),some (.int k),some (.lst ((Sx j k.toNat).map dS)),some (.int (j:Int))],Z5,[some (.int (n:Int)),some (.int k),some (.lst ((Sx (j+1) k.toNat).map dS)),some (.int (j:Int))],Z5,rfl,?_,trivial,some (.int (j:Int)),rfl,rfl⟩;have hv:ivL (be 2) [some (.int (n:Int)),some (.int k),some (.lst ((Sx j k.toNat).map dS)),some (.int (j:Int))] Z5=some (((Sx j k.toNat).map dS,none),Z5):=rfl;have hc:rB (["sort","longer"]:List Str) [("most",1)] [some (.int (n:Int)),some (.int k),some (.lst ((Sx j k.toNat).map dS)),some (.int (j:Int))]=[none,none,some (.int k)]:=rfl;rw[D1,BY,hv,BM,hc,e,Bx,if_pos hl];rfl
section
variable {C CF CT:Addr} {n:Nat} {d:D} {as:List An} {O:M}
abbrev yt(C CF CT:Addr):FX:=ES wC (B9 C CF) (wW t7 (.int 7) CT)
theorem Fm{n m:Nat}{s:List Int}(h:s∈(Sx n m).map (·.1)):s.length=n:=by
 obtain⟨p,hp,rfl⟩:=Xw.mp h;exact(wU m n p hp).len
theorem Sw(hl:Ls O d (as.map dA))(hv:Ok2 n as)(hs:as.length<=1000)(hn:n<=7)(hc:tN as=true):∃Z6,yt C CF CT [.int (n:Int),d] O=some (.ok (.lst ((sk n as).map dI)),Z6)/\Gr O Z6:=by
 obtain⟨Z5,e,g⟩:=PF (C:=C) (CF:=CF) hl hv hs hc;refine⟨Z5,?_,g⟩;refine Ar (ZZ:=[some (.int (n:Int)),some d]) rfl ?_;unfold DF;show rY _ _ [some (.int (n:Int)),some d] O=_;rw[zh (ZZ:=[some (.int (n:Int)),some d]) (Z5:=Z5) (Lq (d:=.non) (by rw[yL (ds:=[.int (n:Int),d]) (Z5:=O) (zO rfl)];exact e))];refine Lz ?_;have ea:vLX (wW t7 (.int 7) CT) (upL (qy (be 0) (qy (be 0) qD))) [some (.int (n:Int)),some d] Z5=some (.ok (.lst (((Sx n n).map (·.1)).map dI)),Z5):=by
  rw[yL (ds:=[.int (n:Int),.int (n:Int)]) (Z5:=Z5) (zO rfl),DY hn];simp[dS,Function.comp_def]
 have hlen:((Sx n n).map (·.1)).length<=1000000:=by have:=zR hn n;simp;omega
 have ec:rE none (qA 0) (rH (vL wC (qy (be 0) (qy (be 1) qD)))) (be 0) (((Sx n n).map (·.1)).map dI) [none,some d] Z5=some ((((Sx n n).map (·.1)).filter fun s=>sL s as).map dI,Z5):=by
  refine Ay (c:=none) (fun B=>∃o,B=[o,some d]) trivial _ _ ⟨none,rfl⟩ ?_;rintro s hs B ⟨o,rfl⟩;have hf:=RW (s:=s) (hl.gr g) (by rw[Fm hs];exact hv.inN);exact⟨[some (dI s),some d],rfl,by simp[hf],fun _=>rfl,_,rfl⟩
 unfold vN;rw[ea];show(if(((Sx n n).map (·.1)).map dI).length<=1000000 then _ else _)=_;rw[if_pos (by simpa using hlen)];have hcap:rB (["sort"]:List Str) [("answers",1)] [some (.int (n:Int)),some d]=[none,some d]:=rfl;show(rE none (qA 0) (rH (vL wC (qy (be 0) (qy (be 1) qD)))) (be 0) (((Sx n n).map (·.1)).map dI) (rB ["sort"] [("answers",1)] [some (.int (n:Int)),some d]) Z5).bind _=_;rw[hcap,ec];rfl
end
abbrev Gp:=Int×Nat×List Int
structure Gs (O:M) (lo:Nat) (b:Nat) (gs:List Gp):Prop where
 dic:O[b]?=some (some (.dK (gs.map fun g=>(Sum.inl g.1,D.ref g.2.1))))
 at_:∀g∈gs,O[g.2.1]?=some (some (.lst (g.2.2.map D.int)))
 key:(gs.map (·.1)).Nodup
 lo1:lo<=b
 lo2:∀g∈gs,lo<=g.2.1
 nd:(gs.map (·.2.1)).Nodup
 len:∀g∈gs,g.2.2.length<=1000
def sQ(gs:List Gp):List (Int×List Int):=gs.map fun g=>(g.1,g.2.2)
def Eh(gs:List Gp)(k:Int):sS (gs.map fun g=>((Sum.inl g.1:Key),D.ref g.2.1)) (Sum.inl k)=(gs.find? fun g=>decide (g.1=k)).map fun g=>D.ref g.2.1:=by
 unfold sS;induction gs with
 |nil=>rfl
 |cons p r ih=>
  rw[Xr,Xt,Xt];by_cases z:p.1=k
  ·simp[z]
  ·have z':¬((Sum.inl p.1:Key)=Sum.inl k):=fun e=>z (by injection e);simp only[z,z',decide_false];exact ih
theorem UP{gs:List Gp}{k t:Int}{g:Gp}(hk:(gs.map (·.1)).Nodup)(hf:gs.find? (fun g=>decide (g.1=k))=some g):
  sT (sQ gs) k t=sQ (gs.map fun x=>if x.1=k then(x.1,x.2.1,x.2.2++[t]) else x):=by
 have hm:=Yp hf;have he:g.1=k:=by simpa using YM hf
 unfold sT;rw[if_pos (by
  rw[Yl];exact⟨(g.1,g.2.2),Xw.mpr ⟨g,hm,rfl⟩,by simpa using he⟩)]
 unfold sQ;rw[XO,XO];apply XY;intro x _;simp only[Function.comp];split<;>rfl
def NS{gs:List Gp}{k t:Int}{r:Nat}(hf:gs.find? (fun g=>decide (g.1=k))=none):sT (sQ gs) k t=sQ (gs++[(k,r,[t])]):=by
 unfold sT;rw[if_neg]
 ·simp[sQ]
 ·intro hc;obtain⟨x,hx,e⟩:=Yl.mp hc;obtain⟨g,hg,rfl⟩:=Xw.mp hx;rw[Yq] at hf;exact hf g hg e
abbrev AV:SV:=(uJ (wE uB (uf (be 1) (be 3) (vL uz qD)) (be 2)))
theorem Um{d:D}{b lo:Nat}{gs:List Gp}{O:M}{t k:Int}(h:Gs O lo b gs)(hlo:lo<=O.length)(hl:gs.length<1000)(hlt:∀g∈gs,g.2.2.length<1000):
  ∃gs' Z6,AV [some d,some (.ref b),some (.int t),some (.int k)] O=some (.nx,[some d,some (.ref b),some (.int t),some (.int k)],Z6)/\Gs Z6 lo b gs'/\sQ gs'=sT (sQ gs) k t/\(∀j,j<lo->Z6[j]?=O[j]?)/\O.length<=Z6.length:=by
 have hb:b<O.length:=(Xi.mp h.dic).1;have hv1:be 1 [some d,some (.ref b),some (.int t),some (.int k)] O=some (.ref b,O):=rfl;have hd:sB O (.ref b)=some (gs.map fun g=>(Sum.inl g.1,D.ref g.2.1)):=by simp only[sB,h.dic]
 have g1:Gr O (O++[some (Z9.lst [])]):=gr_app;have hd2:sB (O++[some (Z9.lst [])]) (.ref b)=some (gs.map fun g=>(Sum.inl g.1,D.ref g.2.1)):=by simp only[sB,g1.get h.dic]
 have hv3:be 3 [some d,some (.ref b),some (.int t),some (.int k)] O=some (.int k,O):=rfl;have hnw:vL uz qD [some d,some (.ref b),some (.int t),some (.int k)] O=some (.ref O.length,O++[some (.lst [])]):=rfl;have hlen:(gs.map fun g=>((Sum.inl g.1:Key),D.ref g.2.1)).length<1000000:=by simp;omega
 cases hf:gs.find? (fun g=>decide (g.1=k)) with
 |some g=>
  have hm:=Yp hf;have he:g.1=k:=by simpa using YM hf
  have hs:uf (be 1) (be 3) (vL uz qD) [some d,some (.ref b),some (.int t),some (.int k)] O=some (.ref g.2.1,O++[some (.lst [])]):=by
   unfold uf;rw[hv1,bs];simp only[hd,bs,hv3,hnw,vc,hd2,if_pos hlen,Eh,hf];rfl
  have ha:=g1.get (h.at_ g hm);generalize ZL:O++[some (Z9.lst [])]=Z5 at hs g1 ha;have hlen1:Z5.length=O.length+1:=by rw[←ZL];simp
  have hap:uB (.ref g.2.1) (.int t) Z5=some (.non,Z5.set g.2.1 (some (.lst (g.2.2.map D.int++[.int t])))):=by
   have:=hlt g hm;simp only[uB,zY ha,if_pos (show(g.2.2.map D.int).length<1000000 by simp;omega),Ds]
  refine⟨gs.map fun x=>if x.1=k then(x.1,x.2.1,x.2.2++[t]) else x,Z5.set g.2.1 (some (.lst (g.2.2.map D.int++[.int t]))),?_,?_,(UP h.key hf).symm,fun j hj=>?_,by rw[YD,hlen1];omega⟩
  ·unfold AV;rw[Ap];unfold wE;rw[hs,bs];show kEx _ ((rK Z5 (.ref g.2.1)).bind _)=_;rw[xa ha,bs];show kEx _ (uB (.ref g.2.1) (.int t) Z5)=_;rw[hap];rfl
  ·have hkeys:(gs.map fun x=>if x.1=k then(x.1,x.2.1,x.2.2++[t]) else x).map (fun g=>((Sum.inl g.1:Key),D.ref g.2.1))=gs.map fun g=>(Sum.inl g.1,D.ref g.2.1):=by
    rw[XO];apply XY;intro x _;simp only[Function.comp];split<;>rfl
   have hk1:(gs.map fun x=>if x.1=k then(x.1,x.2.1,x.2.2++[t]) else x).map (·.1)=gs.map (·.1):=by
    rw[XO];apply XY;intro x _;simp only[Function.comp];split<;>rfl
   have hk2:(gs.map fun x=>if x.1=k then(x.1,x.2.1,x.2.2++[t]) else x).map (·.2.1)=gs.map (·.2.1):=by
    rw[XO];apply XY;intro x _;simp only[Function.comp];split<;>rfl
   have hbg:b≠g.2.1:=fun z=>by
    have h1:=h.dic;rw[z,h.at_ g hm] at h1;cases h1
   refine⟨?_,fun x hx=>?_,by rw[hk1];exact h.key,h.lo1,fun x hx=>?_,by rw[hk2];exact h.nd,fun x hx=>?_⟩
   ·rw[hkeys,tW hbg];exact g1.get h.dic
   ·obtain⟨y,hy,rfl⟩:=Xw.mp hx;by_cases hyk:y.1=k
    ·have:y=g:=by
      have hn:=h.key;obtain⟨i,hi⟩:=Yf hy;obtain⟨j,hj⟩:=Yf hm;have e1:(gs.map (·.1))[i]?=some k:=by rw[XA,hi];simp[hyk]
      have e2:(gs.map (·.1))[j]?=some k:=by rw[XA,hj];simp[he]
      obtain⟨l1,q1⟩:=Xi.mp e1;obtain⟨l2,q2⟩:=Xi.mp e2;have hp:=Yh.mp hn;rcases Nat.lt_trichotomy i j with z|z|z
      ·exact absurd (q1.trans q2.symm) (hp i j l1 l2 z)
      ·subst z;rw[hi] at hj;cases hj;rfl
      ·exact absurd (q2.trans q1.symm) (hp j i l2 l1 z)
     subst this;rw[if_pos hyk];show(Z5.set y.2.1 _)[y.2.1]?=_;rw[tG ha];simp
    ·rw[if_neg hyk];have hne:y.2.1≠g.2.1:=fun z=>by
      have hn:=h.nd;obtain⟨i,hi⟩:=Yf hy;obtain⟨j,hj⟩:=Yf hm;have e1:(gs.map (·.2.1))[i]?=some g.2.1:=by rw[XA,hi];simp[z]
      have e2:(gs.map (·.2.1))[j]?=some g.2.1:=by rw[XA,hj];simp
      obtain⟨l1,q1⟩:=Xi.mp e1;obtain⟨l2,q2⟩:=Xi.mp e2;have hp:=Yh.mp hn;rcases Nat.lt_trichotomy i j with w|w|w
      ·exact absurd (q1.trans q2.symm) (hp i j l1 l2 w)
      ·subst w;rw[hi] at hj;cases hj;exact hyk he
      ·exact absurd (q2.trans q1.symm) (hp j i l2 l1 w)
     rw[tW hne];exact g1.get (h.at_ y hy)
   ·obtain⟨y,hy,rfl⟩:=Xw.mp hx;split
    ·exact h.lo2 y hy
    ·exact h.lo2 y hy
   ·obtain⟨y,hy,rfl⟩:=Xw.mp hx;have:=hlt y hy;split
    ·simp;omega
    ·omega
  ·rw[tW (by have:=h.lo2 g hm;omega)];exact g1.at_ j (by omega)
 |none=>
  have hs:uf (be 1) (be 3) (vL uz qD) [some d,some (.ref b),some (.int t),some (.int k)] O=some (.ref O.length,(O++[some (Z9.lst [])]).set b (some (Z9.dK (tH (gs.map fun g=>((Sum.inl g.1:Key),D.ref g.2.1)) (Sum.inl k) (.ref O.length))))):=by
   unfold uf;rw[hv1,bs];simp only[hd,bs,hv3,hnw,vc,hd2,if_pos hlen,Eh,hf];rfl
  have hput:tH (gs.map fun g=>((Sum.inl g.1:Key),D.ref g.2.1)) (Sum.inl k) (.ref O.length)=(gs++[(k,O.length,[t])]).map fun g=>(Sum.inl g.1,D.ref g.2.1):=by
   rw[MB _ (by rw[Eh,hf];rfl)];simp
  rw[hput] at hs;have ha:((O++[some (Z9.lst [])]).set b (some (.dK ((gs++[(k,O.length,[t])]).map fun g=>(Sum.inl g.1,D.ref g.2.1)))))[O.length]?=some (some (.lst [])):=by
   rw[tW (by omega)];simp
  have hbk:((O++[some (Z9.lst [])]).set b (some (.dK ((gs++[(k,O.length,[t])]).map fun g=>(Sum.inl g.1,D.ref g.2.1)))))[b]?=some (some (.dK ((gs++[(k,O.length,[t])]).map fun g=>(Sum.inl g.1,D.ref g.2.1)))):=tG (g1.get h.dic);have hold:∀j,j<O.length->j≠b->((O++[some (Z9.lst [])]).set b (some (.dK ((gs++[(k,O.length,[t])]).map fun g=>(Sum.inl g.1,D.ref g.2.1)))))[j]?=O[j]?:=fun j hj hne=>by
   rw[tW hne];exact g1.at_ j hj
  have hlen1:((O++[some (Z9.lst [])]).set b (some (.dK ((gs++[(k,O.length,[t])]).map fun g=>(Sum.inl g.1,D.ref g.2.1))))).length=O.length+1:=by simp
  generalize ZL:(O++[some (Z9.lst [])]).set b (some (.dK ((gs++[(k,O.length,[t])]).map fun g=>(Sum.inl g.1,D.ref g.2.1))))=Z5 at hs ha hbk hold hlen1;have hap:uB (.ref O.length) (.int t) Z5=some (.non,Z5.set O.length (some (.lst [.int t]))):=by
   simp only[uB,zY ha,if_pos (show([]:List D).length<1000000 by decide),Ds];rfl
  refine⟨gs++[(k,O.length,[t])],Z5.set O.length (some (.lst [.int t])),?_,?_,(NS hf).symm,fun j hj=>?_,by rw[YD,hlen1];omega⟩
  ·unfold AV;rw[Ap];unfold wE;rw[hs,bs];show kEx _ ((rK Z5 (.ref O.length)).bind _)=_;rw[xa ha,bs];show kEx _ (uB (.ref O.length) (.int t) Z5)=_;rw[hap];rfl
  ·have hgl:∀g∈gs,g.2.1<O.length:=fun g hg=>(Xi.mp (h.at_ g hg)).1;refine⟨by rw[tW (by omega)];exact hbk,fun x hx=>?_,?_,h.lo1,fun x hx=>?_,?_,fun x hx=>?_⟩
   ·rcases XN.mp hx with hx|hx
    ·have hl1:=hgl x hx;have hxb:x.2.1≠b:=fun z=>by
      have h1:=h.dic;rw[←z,h.at_ x hx] at h1;cases h1
     rw[tW (by omega),hold _ hl1 hxb];exact h.at_ x hx
    ·have:x=(k,O.length,[t]):=by simpa using hx
     subst this;exact tG ha
   ·rw[X6,YG];refine⟨h.key,by simp,fun a ha1 c hc e=>?_⟩;have:c=k:=by simpa using hc
    subst this e;obtain⟨g,hg,rfl⟩:=Xw.mp ha1;rw[Yq] at hf;exact hf g hg (by simp)
   ·rcases XN.mp hx with hx|hx
    ·exact h.lo2 x hx
    ·have:x=(k,O.length,[t]):=by simpa using hx
     subst this;exact hlo
   ·rw[X6,YG];refine⟨h.nd,by simp,fun a ha1 c hc e=>?_⟩;have:c=O.length:=by simpa using hc
    subst this e;obtain⟨g,hg,e⟩:=Xw.mp ha1;have:=hgl g hg;omega
   ·rcases XN.mp hx with hx|hx
    ·exact h.len x hx
    ·have:x=(k,O.length,[t]):=by simpa using hx
     subst this;simp
  ·have hb2:=h.lo1;rw[tW (by omega)];exact hold j (by omega) (by omega)
theorem Hc:∀(l:List Int) (i:Nat) (k:Int) (gs:List (Int×List Int)),vh i (l++[k]) gs=sT (vh i l gs) k ((i+l.length:Nat):Int)
 | [],i,k,gs=>by simp[vh]
 |x::l,i,k,gs=>by
  rw[List.cons_append,vh,vh,Hc l (i+1) k];congr 2;simp;omega
def QD(gs:List (Int×List Int))(k t:Int):(sT gs k t).length<=gs.length+1:=by
 unfold sT;split<;>simp
def Vt{gs:List (Int×List Int)}{k t:Int}{m:Nat}(h:∀g∈gs,g.2.length<=m):∀g∈sT gs k t,g.2.length<=m+1:=by
 intro g hg;unfold sT at hg;split at hg
 ·obtain⟨x,hx,rfl⟩:=Xw.mp hg;have:=h x hx;split
  ·simp;omega
  ·omega
 ·rcases XN.mp hg with hg|hg
  ·have:=h g hg;omega
  ·have:g=(k,[t]):=by simpa using hg
   subst this;simp
def Uh{s:List Int}{O:M}(hs:s.length<=500):∃b gs Z6,wn [dI s] O=some (.lst (gs.map fun g:Gp=>D.ref g.2.1),Z6)/\Gs Z6 O.length b gs/\sQ gs=grp s/\Gr O Z6:=by
 have main:=Br (c:=none) (g:=(rO 2 (qN (qA 2) (qN (qA 3) rM)))) (body:=AV)
  (fun i B Z6=>∃(gs:List Gp) (o2 o3:Option D),B=[some (dI s),some (.ref O.length),o2,o3]/\Gs Z6 O.length O.length gs/\sQ gs=grp (s.take i)/\gs.length<=i/\(∀g∈gs,g.2.2.length<=i)/\Gr O Z6)
  ((List.range s.length).map fun i:Nat=>D.tup [.int (i:Int),.int (s.getD i 0)]) 0 [some (dI s),some (.ref O.length),none,none] (O++[some (.dK [])])
  ⟨[],none,none,rfl,⟨by simp,fun g h=>by simp at h,by simp,Xh _,fun g h=>by simp at h,by simp,fun g h=>by simp at h⟩,rfl,Xh _,fun g h=>by simp at h,gr_app⟩ ?_
 ·obtain⟨ZY,Z6,e,gs,o2,o3,rfl,G1,hst,_,_,gr⟩:=main;rw[YH,Xn,Yw,List.take_length] at hst;refine⟨O.length,gs,Z6,?_,G1,hst,gr⟩;unfold wn FF;rw[vw,if_pos (show [dI s].length=1 from rfl)];show tL (qE _ _ [some (dI s),none,none,none] O)=_;have s1:qQ yY (qA 1) [some (dI s),none,none,none] O=some (.nx,[some (dI s),some (.ref O.length),none,none],O++[some (.dK [])]):=rfl;have hi:Cn (be 0) [some (dI s),some (.ref O.length),none,none] (O++[some (.dK [])])=some (((List.range s.length).map fun i:Nat=>D.tup [.int (i:Int),.int (s.getD i 0)],none),O++[some (.dK [])]):=by
   have he:wz (s.map D.int)=(List.range s.length).map fun i:Nat=>D.tup [.int (i:Int),.int (s.getD i 0)]:=by
    apply List.ext_getElem?;intro i;by_cases hi:i<s.length
    ·simp[wz,hi]
    ·simp[wz];rw[List.getElem?_eq_none (by simpa using hi),List.getElem?_eq_none (by simpa using hi)];rfl
   show some ((wz (s.map D.int),none),_)=_;rw[he]
  rw[tz,s1,wg,tz,wL,hi,xo,e,wg,xF];have hv:v1 Bu (be 1) [some (dI s),some (.ref O.length),o2,o3] Z6=some (.lst (gs.map fun g:Gp=>D.ref g.2.1),Z6):=by
   rw[e_1 (x:=.ref O.length) (Z5:=Z6) rfl];unfold Bu;simp only[sB,G1.dic,bs,XO];rfl
  rw[hv];rfl
 ·rintro j x B Z5 hx ⟨gs,o2,o3,rfl,G1,hst,hl,hlt,gr⟩;rw[YH] at hst hl hlt;have hj:j<s.length:=by
   have:=(Xi.mp hx).1;simpa using this
  rw[XA,List.getElem?_range hj] at hx;simp at hx;subst hx;obtain⟨gs',Z4,e,G2,hst2,hold,hlen⟩:=Um (d:=dI s) (t:=(j:Int)) (k:=s.getD j 0) G1 gr.len (by omega) (fun g hg=>by have:=hlt g hg;omega);have hsj:s[j]?=some (s.getD j 0):=by rw[Xk,Xm hj];rfl
  have hgrp:grp (s.take (j+1))=sT (grp (s.take j)) (s.getD j 0) (j:Int):=by
   rw[List.take_succ,hsj];show vh 0 (s.take j++[s.getD j 0]) []=_;rw[Hc];have:(s.take j).length=j:=by rw[List.length_take];omega
   rw[this,YH];rfl
  refine⟨[some (dI s),some (.ref O.length),some (.int (j:Int)),some (.int (s.getD j 0))],Z5,_,Z4,?_,e,trivial,gs',_,_,rfl,G2,?_,?_,?_,?_⟩
  ·simp
  ·rw[YH,hst2,hst,hgrp]
  ·have:gs'.length=(sT (sQ gs) (s.getD j 0) (j:Int)).length:=by rw[←hst2];simp[sQ]
   have h2:=QD (sQ gs) (s.getD j 0) (j:Int);have:(sQ gs).length=gs.length:=by simp[sQ]
   omega
  ·intro g hg;have hm:(g.1,g.2.2)∈sT (sQ gs) (s.getD j 0) (j:Int):=by rw[←hst2];exact Xw.mpr ⟨g,hg,rfl⟩
   have:=Vt (m:=j) (fun x hx=>by
    obtain⟨y,hy,rfl⟩:=Xw.mp hx;exact hlt y hy) _ hm
   have:g.2.2.length<=j+1:=this;omega
  ·exact⟨XL gr.len hlen,fun i hi=>(hold i hi).trans (gr.at_ i hi)⟩
def rn(s:List Int):List Int:=match(grp s).find? fun g=>decide ((s.length:Int)<2*(g.2.length:Int)) with
 |some g=>g.2
 |none=>[]
def O3:∀n<8,∀p∈Sx n n,rn p.1=((List.range n).filter fun t:Nat=>decide ((t:Int)∈rn p.1)).map fun t:Nat=>(t:Int):=by decide +kernel
def Ls.intsR{O:M}{d:D}{ns:List Int}(h:Ls O d (ns.map D.int)):Rds O d (List Int) ns:=by
 rcases zd h with⟨k,rfl,hk⟩|rfl|rfl
 ·exact zvb (by decide) hk
 ·exact Ub (α:=List Int) (by decide) ns
 ·unfold Rds;rw[Th];have:=BP (α:=Int) (O:=O) (n:=64) (by decide) ns;have e:ns.map D.int=ns.map Enc.d:=rfl;rw[e,this];rfl
def Sm{O:M}{x y:D}{ns ms:List Int}(h1:Ls O x (ns.map D.int))(h2:Ls O y (ms.map D.int)):eqD x y O=some (decide (ns=ms)):=by
 have hi:∀{z:D} {ds:List D},Ls O z ds->isInt z=false/\ye z=false:=fun h=>by
  rcases zd h with⟨k,rfl,_⟩|rfl|rfl<;>exact⟨rfl,rfl⟩
 rw[Qx (α:=List Int) (by decide) h1.intsR h2.intsR (by simp[(hi h1).1]) (by simp[(hi h1).2])]
abbrev wm:SV:=(sIf (vT (v2 fGt (v2 vp (vC (.int 2)) (v1 rN (be 1))) (v1 rN (be 0)))) (qR (be 1)) sNx)
theorem K8{s:List Int}{O:M}(hs:s.length<=500):∀(gs:List Gp) (o:Option D),(∀g∈gs,O[g.2.1]?=some (some (.lst (g.2.2.map D.int))))->(∀g∈gs,g.2.2.length<=1000)->
  (∀g,gs.find? (fun g=>decide ((s.length:Int)<2*(g.2.2.length:Int)))=some g->∃ZY,rJ none (qA 1) wm (gs.map fun g:Gp=>D.ref g.2.1) [some (dI s),o] O=some (.rt (.ref g.2.1),ZY,O))/\
  (gs.find? (fun g=>decide ((s.length:Int)<2*(g.2.2.length:Int)))=none->∃o',rJ none (qA 1) wm (gs.map fun g:Gp=>D.ref g.2.1) [some (dI s),o] O=some (.nx,[some (dI s),o'],O))
 | [],o,_,_=>⟨(fun g h=>by cases h),fun _=>⟨o,rfl⟩⟩
 |g::gs,o,h,hl=>by
  have h0:=h g (by simp);have hl0:=hl g (by simp);obtain⟨i1,i2⟩:=K8 (s:=s) hs gs (some (.ref g.2.1)) (fun x hx=>h x (by simp[hx])) (fun x hx=>hl x (by simp[hx]));have hg:qA 1 (.ref g.2.1) [some (dI s),o] O=some ([some (dI s),some (.ref g.2.1)],O):=rfl;have t:vT (v2 fGt (v2 vp (vC (.int 2)) (v1 rN (be 1))) (v1 rN (be 0))) [some (dI s),some (.ref g.2.1)] O=some (decide ((s.length:Int)<2*(g.2.2.length:Int)),O):=by
   have a1:v1 rN (be 1) [some (dI s),some (.ref g.2.1)] O=some (.int (g.2.2.length:Int),O):=by
    rw[e_1 (x:=.ref g.2.1) (Z5:=O) rfl,ST h0];simp
   have a2:v1 rN (be 0) [some (dI s),some (.ref g.2.1)] O=some (.int (s.length:Int),O):=by
    rw[e_1 (x:=dI s) (Z5:=O) rfl];simp[dI,rN,rK]
   have a3:v2 vp (vC (.int 2)) (v1 rN (be 1)) [some (dI s),some (.ref g.2.1)] O=some (.int (2*(g.2.2.length:Int)),O):=by
    rw[e_2 (x:=.int 2) (Z5:=O) (y:=.int (g.2.2.length:Int)) (Z4:=O) rfl a1];have hc:CMul 2 (g.2.2.length:Int):=.inl ⟨by decide,by decide⟩;simp only[vp,if_pos hc]
   rw[GP,e_2 a3 a2];rfl
  rw[Xt];cases hb:decide ((s.length:Int)<2*(g.2.2.length:Int)) with
  |true=>
   rw[hb] at t;have hbd:wm [some (dI s),some (.ref g.2.1)] O=some (.rt (.ref g.2.1),[some (dI s),some (.ref g.2.1)],O):=by
    unfold wm;rw[wu,t];rfl
   refine⟨fun g' h=>?_,fun h=>by cases h⟩;cases h;refine⟨[some (dI s),some (.ref g.2.1)],?_⟩;rw[Xr];simp only[rJ,hg,bs,hbd]
  |false=>
   rw[hb] at t;have hbd:wm [some (dI s),some (.ref g.2.1)] O=some (.nx,[some (dI s),some (.ref g.2.1)],O):=by
    unfold wm;rw[wu,t];rfl
   have step:rJ none (qA 1) wm ((g::gs).map fun g:Gp=>D.ref g.2.1) [some (dI s),o] O=rJ none (qA 1) wm (gs.map fun g:Gp=>D.ref g.2.1) [some (dI s),some (.ref g.2.1)] O:=by
    rw[Xr];simp only[rJ,hg,bs,hbd,vX]
   rw[step];exact⟨i1,i2⟩
theorem UW{s:List Int}{gs:List Gp}(hst:sQ gs=grp s):rn s=match gs.find? (fun g=>decide ((s.length:Int)<2*(g.2.2.length:Int))) with
  |some g=>g.2.2
  |none=>[]:=by
 unfold rn;rw[←hst];unfold sQ;rw[List.find?_map];simp only[Function.comp_def];cases gs.find? fun g=>decide ((s.length:Int)<2*(g.2.2.length:Int))<;>rfl
abbrev uP:C0:=y2 wn
def E3{s:List Int}{O:M}(hs:s.length<=500):∃d Z6,uP [dI s] O=some (d,Z6)/\Ls Z6 d ((rn s).map D.int)/\Gr O Z6:=by
 obtain⟨b,gs,Z5,e,G1,hst,gr⟩:=Uh (O:=O) hs;obtain⟨l1,l2⟩:=K8 (s:=s) (O:=Z5) hs gs none G1.at_ G1.len;have hi:ivL (vL wn (qy (be 0) qD)) [some (dI s),none] O=some ((gs.map fun g:Gp=>D.ref g.2.1,none),Z5):=by
  have:vL wn (qy (be 0) qD) [some (dI s),none] O=some (.lst (gs.map fun g:Gp=>D.ref g.2.1),Z5):=e;unfold ivL;rw[this];rfl
 have hm:=UW hst;cases hf:gs.find? (fun g=>decide ((s.length:Int)<2*(g.2.2.length:Int))) with
 |some g=>
  rw[hf] at hm;obtain⟨ZY,e2⟩:=l1 g hf;refine⟨.ref g.2.1,Z5,?_,?_,gr⟩
  ·unfold uP y2 B0;rw[vw,if_pos (show [dI s].length=1 from rfl)];show tL (qE _ _ [some (dI s),none] O)=_;rw[tz,wL,hi,xo,e2];rfl
  ·rw[hm];exact .ref (G1.at_ g (Yp hf))
 |none=>
  rw[hf] at hm;obtain⟨o',e2⟩:=l2 hf;refine⟨.lst [],Z5,?_,by rw[hm];exact .lst,gr⟩;unfold uP y2 B0;rw[vw,if_pos (show [dI s].length=1 from rfl)];show tL (qE _ _ [some (dI s),none] O)=_;rw[tz,wL,hi,xo,e2];rfl
def dE(x:Option Int):D:=match x with
 |some t=>.tup [.str "one",.int t]
 |none=>.tup [.str "none"]
def hE(s:List Int):List (Option Int):=if rn s=[] then [none] else(rn s).map some
abbrev tT:C0:=BG uP
def E6{s:List Int}{O:M}(hs:s.length<=500)(hl:(rn s).length<=1000):∃Z6,tT [dI s] O=some (.lst ((hE s).map dE),Z6)/\Gr O Z6:=by
 obtain⟨d,Z5,e,hL,g⟩:=E3 (O:=O) hs;refine⟨Z5,?_,g⟩;have s1:qQ (vL uP (qy (be 0) qD)) (qA 1) [some (dI s),none] O=some (.nx,[some (dI s),some d],Z5):=by
  have:vL uP (qy (be 0) qD) [some (dI s),none] O=some (d,Z5):=e;rw[D1,this];rfl
 have t:rH (be 1) [some (dI s),some d] Z5=some (!decide (rn s=[]),Z5):=by
  rw[JD];show yW (some (d,Z5))=_;rcases zd hL with⟨k,rfl,hk⟩|rfl|rfl
  ·simp only[yW];cases hm:rn s with
   |nil=>rw[hm] at hk;simp[tru,hk,kTr]
   |cons a r=>rw[hm] at hk;simp[tru,hk,kTr]
  ·cases hm:rn s with
   |nil=>rfl
   |cons a r=>rfl
  ·cases hm:rn s with
   |nil=>rfl
   |cons a r=>rfl
 obtain⟨c,hi,hck,_⟩:=hL.iv (B:=[some (dI s),some d]) (i:=1) rfl;have c2:rL ["thing"] [] (ivL (be 1)) (qA 0) qJ (vL sj (qy (vC (.str "one")) (qy (be 0) qD))) [some (dI s),some d] Z5=some (.lst ((rn s).map fun t=>dE (some t)),Z5):=
  DC (l:=rn s) (dn:=D.int) (c:=c) (qO:=[]) hi (by omega) hck rfl fun t _=>rfl
 unfold tT BG E2;rw[vw,if_pos (show [dI s].length=1 from rfl)];show tL (qE _ _ [some (dI s),none] O)=_;rw[tz,s1,wg,xF];unfold hE;by_cases h0:rn s=[]
 ·rw[if_pos h0];rw[Xx h0] at t;have:vIf (rH (be 1)) (rL ["thing"] [] (ivL (be 1)) (qA 0) qJ (vL sj (qy (vC (.str "one")) (qy (be 0) qD)))) (vL sd (qy (vL sj (qy (vC (.str "none")) qD)) qD)) [some (dI s),some d] Z5=some (.lst ([none].map dE),Z5):=by
   rw[KW,t];rfl
  rw[this];rfl
 ·rw[if_neg h0];rw[Xq h0] at t;have:vIf (rH (be 1)) (rL ["thing"] [] (ivL (be 1)) (qA 0) qJ (vL sj (qy (vC (.str "one")) (qy (be 0) qD)))) (vL sd (qy (vL sj (qy (vC (.str "none")) qD)) qD)) [some (dI s),some d] Z5=some (.lst (((rn s).map some).map dE),Z5):=by
   rw[KW,t];show rL _ _ _ _ _ _ _ Z5=_;rw[c2,XO];rfl
  rw[this];rfl
def so1:PyData.strOk "one"=true:=by decide +kernel
def so2:PyData.strOk "none"=true:=by decide +kernel
def pE(x:Option Int):PyData:=match x with
 |some t=>.tuple [.str "one",.int t]
 |none=>.tuple [.str "none"]
def yK{O:M}(x:Option Int):py 65 O (dE x)=some (pE x):=by cases x<;>rfl
def yC(x:Option Int):(pE x).canLay0=true:=by cases x<;>simp[pE,PyData.canLay0,PyData.canLayAll0,so1,so2]
def A0(x:Option Int):(pE x).depth<=60:=by cases x<;>simp[pE,PyData.depth,PyData.depthAll]
def Eb(x y:Option Int):PyData.eqv (pE x) (pE y)=decide (x=y):=by
 rw[Yg];cases x<;>cases y<;>simp[pE,PyData.eqv,PyData.eqvAll]
theorem HM:∀l:List (Option Int),PyData.canLayAll0 (l.map pE)=true
 | []=>rfl
 |x::l=>by simp[PyData.canLayAll0,yC x,HM l]
def FN{O:M}(x:Option Int)(l:List (Option Int)):uQ false (dE x) (.lst (l.map dE)) O=some (.bl (decide (x∈l)),O):=by
 have h1:rD (py 65 O) (l.map dE)=some (l.map pE):=xl fun x _=>yK x;have h4:decide ((pE x).depth<=60)=true:=Xx (A0 x);have h5:(l.map pE).any (fun e=>PyData.eqv e (pE x))=decide (x∈l):=by
  rw[Yg,List.any_map,Yl];simp only[Function.comp,X4,Eb];constructor
  ·rintro⟨y,hy,rfl⟩;exact hy
  ·intro h;exact⟨x,h,rfl⟩
 unfold uQ;rw[if_neg (by simp)];simp only[rK,bs,h1,yK,HM,yC,h4,Bool.and_self,if_true,h5]
def xc(ss:List (List Int)):Option (Option Int):=(hE (ss.getD 0 [])).find? fun t=>ss.all fun s=>decide (t∈hE s)
def dEs(ss:List (List Int)):D:=.lst (ss.map fun s=>.lst ((hE s).map dE))
abbrev v7:SV:=(sIf (rH (v1 ul (rL ["others"] [("end",1)] (ivL (be 0)) (qA 0) qJ (v2 (uQ false) (be 1) (be 0)))))
    (qR (be 1))
    sNx)
theorem Mq{ss:List (List Int)}{O:M}(hl:ss.length<=1000000):∀(l:List (Option Int)) (o:Option D),
  (∀t,l.find? (fun t=>ss.all fun s=>decide (t∈hE s))=some t->∃ZY,rJ none (qA 1) v7 (l.map dE) [some (dEs ss),o] O=some (.rt (dE t),ZY,O))/\
  (l.find? (fun t=>ss.all fun s=>decide (t∈hE s))=none->∃o',rJ none (qA 1) v7 (l.map dE) [some (dEs ss),o] O=some (.nx,[some (dEs ss),o'],O))
 | [],o=>⟨(fun t h=>by cases h),fun _=>⟨o,rfl⟩⟩
 |t::l,o=>by
  obtain⟨i1,i2⟩:=Mq (ss:=ss) (O:=O) hl l (some (dE t));have hc:rL ["others"] [("end",1)] (ivL (be 0)) (qA 0) qJ (v2 (uQ false) (be 1) (be 0)) [some (dEs ss),some (dE t)] O=some (.lst (ss.map fun s=>D.bl (decide (t∈hE s))),O):=
   DC (l:=ss) (dn:=fun s=>D.lst ((hE s).map dE)) (c:=none) (qO:=[some (dE t)]) rfl hl trivial rfl fun s _=>by
    rw[e_2 (x:=dE t) (Z5:=O) (y:=.lst ((hE s).map dE)) (Z4:=O) rfl rfl];exact FN t (hE s)
  have ht:rH (v1 ul (rL ["others"] [("end",1)] (ivL (be 0)) (qA 0) qJ (v2 (uQ false) (be 1) (be 0)))) [some (dEs ss),some (dE t)] O=some (ss.all fun s=>decide (t∈hE s),O):=by
   rw[JD,e_1 hc];have:ss.map (fun s=>D.bl (decide (t∈hE s)))=(ss.map fun s=>decide (t∈hE s)).map D.bl:=by simp
   rw[this];simp only[ul,rK,bs,My,List.all_map];rfl
  have hg:qA 1 (dE t) [some (dEs ss),o] O=some ([some (dEs ss),some (dE t)],O):=rfl;rw[Xt];cases hb:ss.all fun s=>decide (t∈hE s) with
  |true=>
   rw[hb] at ht;have hbd:v7 [some (dEs ss),some (dE t)] O=some (.rt (dE t),[some (dEs ss),some (dE t)],O):=by
    unfold v7;rw[wu,ht];rfl
   refine⟨fun t' h=>?_,fun h=>by cases h⟩;cases h;refine⟨[some (dEs ss),some (dE t)],?_⟩;rw[Xr];simp only[rJ,hg,bs,hbd]
  |false=>
   rw[hb] at ht;have hbd:v7 [some (dEs ss),some (dE t)] O=some (.nx,[some (dEs ss),some (dE t)],O):=by
    unfold v7;rw[wu,ht];rfl
   have step:rJ none (qA 1) v7 ((t::l).map dE) [some (dEs ss),o] O=rJ none (qA 1) v7 (l.map dE) [some (dEs ss),some (dE t)] O:=by
    rw[Xr];simp only[rJ,hg,bs,hbd,vX]
   rw[step];exact⟨i1,i2⟩
def tQ:D:=.gt [.str "open"]
def tM(o:Option (Option Int)):D:=match o with
 |some t=>dE t
 |none=>tQ
def Pk{ss:List (List Int)}{O:M}(hl:ss.length<=1000000)(h0:ss≠[]):vq tQ [dEs ss] O=some (tM (xc ss),O):=by
 have hi:ivL (v2 fIx (be 0) (vC (.int 0))) [some (dEs ss),none] O=some (((hE (ss.getD 0 [])).map dE,none),O):=by
  cases ss with
  |nil=>exact absurd rfl h0
  |cons s ss=>
   have h1:v2 fIx (be 0) (vC (.int 0)) [some (dEs (s::ss)),none] O=some (.lst ((hE s).map dE),O):=by
    rw[e_2 (x:=dEs (s::ss)) (Z5:=O) (y:=.int 0) (Z4:=O) rfl rfl];simp only[fIx,dEs,rK];rw[show(0:Int)=((0:Nat):Int) from rfl,u4 (j:=0) (v:=.lst ((hE s).map dE)) rfl];rfl
   unfold ivL;rw[h1];rfl
 obtain⟨l1,l2⟩:=Mq (ss:=ss) (O:=O) hl (hE (ss.getD 0 [])) none;unfold vq A9;rw[vw,if_pos (show [dEs ss].length=1 from rfl)];show tL (qE _ _ [some (dEs ss),none] O)=_;rw[tz,wL,hi,xo];cases hc:xc ss with
 |some t=>
  obtain⟨ZY,e⟩:=l1 t hc;rw[e];rfl
 |none=>
  obtain⟨o',e⟩:=l2 hc;rw[e];rfl
def Ry{n:Nat}(hn:n<=7){s:List Int}(hs:s∈(Sx n n).map (·.1)):rn s=((List.range n).filter fun t:Nat=>decide ((t:Int)∈rn s)).map fun t:Nat=>(t:Int):=by
 obtain⟨p,hp,rfl⟩:=Xw.mp hs;exact O3 n (by omega) p hp
def FJ{n:Nat}(hn:n<=7){s:List Int}(hs:s∈(Sx n n).map (·.1)):(rn s).length<=n:=by
 rw[Ry hn hs,Xn];have:=YA (fun t:Nat=>decide ((t:Int)∈rn s)) (List.range n);simpa using this
section
variable {C CF CT:Addr} {n:Nat} {d:D} {as:List An} {O:M}
abbrev AS(C CF CT:Addr):FX:=DU (vq tQ) tT (yt C CF CT)
theorem Lf{n:Nat}(hn:n<=7):∀(l:List (List Int)) (o:Option D) (O:M),(∀s∈l,s∈(Sx n n).map (·.1))->
  ∃Z6,rE none (qA 0) qJ (vL tT (qy (be 0) qD)) (l.map dI) [o] O=some (l.map fun s=>.lst ((hE s).map dE),Z6)/\Gr O Z6
 | [],o,O,_=>⟨O,rfl,.refl⟩
 |s::l,o,O,h=>by
  have hs:=h s (by simp);have h1:=Fm hs;have h2:=FJ hn hs;obtain⟨Z5,e1,g1⟩:=E6 (s:=s) (O:=O) (by omega) (by omega);obtain⟨Z4,e2,g2⟩:=Lf hn l (some (dI s)) Z5 (fun x hx=>h x (by simp[hx]));refine⟨Z4,?_,g1.trans g2⟩;have hg:qA 0 (dI s) [o] O=some ([some (dI s)],O):=rfl;have hv:vL tT (qy (be 0) qD) [some (dI s)] O=some (.lst ((hE s).map dE),Z5):=e1;rw[Xr];simp only[rE,hg,bs];show(qJ _ _).bind _=_;simp only[qJ,bs,if_true,hv,vX];rw[e2];rfl
theorem RE{s:List Int}(h:s∈sk n as):s∈(Sx n n).map (·.1):=(Xy.mp h).1
theorem Wr(hn:n<=7):(sk n as).length<=1000:=by
 have h1:=YA (fun s=>sL s as) ((Sx n n).map (·.1));have:=zR hn n;unfold sk;rw[Xn] at h1;omega
theorem UV(hl:Ls O d (as.map dA))(hv:Ok2 n as)(hs:as.length<=1000)(hn:n<=7)(hf:sk n as≠[]):∃Z6,AS C CF CT [.int (n:Int),d] O=some (.ok (tM (xc (sk n as))),Z6)/\Gr O Z6:=by
 have hc:tN as=true:=by
  cases h:tN as with
  |true=>rfl
  |false=>exact absurd ((Op hv.inN).mpr h) hf
 obtain⟨Z5,e1,g1⟩:=Sw (C:=C) (CF:=CF) (CT:=CT) hl hv hs hn hc;obtain⟨Z4,e2,g2⟩:=Lf hn (sk n as) none Z5 (fun s h=>RE h);refine⟨Z4,?_,g1.trans g2⟩;have hlen:=Wr (as:=as) hn;refine Ar (ZZ:=[some (.int (n:Int)),some d]) rfl ?_;unfold C9;show u7 _ [some (.int (n:Int)),some d] O=_;have ec:vN ["sort"] [] (vLX (yt C CF CT) (upL (qy (be 0) (qy (be 1) qD)))) (qA 0) qJ (vL tT (qy (be 0) qD)) [some (.int (n:Int)),some d] O=some (.ok (dEs (sk n as)),Z4):=by
  have ea:vLX (yt C CF CT) (upL (qy (be 0) (qy (be 1) qD))) [some (.int (n:Int)),some d] O=some (.ok (.lst ((sk n as).map dI)),Z5):=by
   rw[yL (ds:=[.int (n:Int),d]) (Z5:=O) (zO rfl)];exact e1
  unfold vN;rw[ea];show(if((sk n as).map dI).length<=1000000 then _ else _)=_;rw[if_pos (by simp;omega)];have hcap:rB (["sort"]:List Str) [] [some (.int (n:Int)),some d]=[none]:=rfl;show(rE none (qA 0) qJ (vL tT (qy (be 0) qD)) ((sk n as).map dI) (rB ["sort"] [] [some (.int (n:Int)),some d]) Z5).bind _=_;rw[hcap,e2];rfl
 have el:AF (vN ["sort"] [] (vLX (yt C CF CT) (upL (qy (be 0) (qy (be 1) qD)))) (qA 0) qJ (vL tT (qy (be 0) qD))) (upL qD) [some (.int (n:Int)),some d] O=some (.ok [dEs (sk n as)],Z4):=by
  unfold AF;rw[ec];rfl
 refine Lz ?_;rw[yL el];show(upF (vq tQ)) _ _=_;have hco:=Pk (ss:=sk n as) (O:=Z4) (by omega) hf;unfold upF;rw[hco];rfl
end
def Qj{α:Type}{r:Option (α×M)}{a:α}{Z6:M}(h:Wp r fun d m=>d=a/\m=Z6):r=some (a,Z6):=by
 obtain⟨d,m,e,rfl,rfl⟩:=h;exact e
def dP(p:Nat×Nat):D:=.tup [.int (p.1:Int),.int (p.2:Int)]
theorem LR{β:Type}{g:GV}{te:EV}{dm:β->D}{val:β->D}(Qv:G->Prop){O:M}:∀(l:List β) (B:G),Qv B->(∀b∈l,∀B,Qv B->∃ZZ,g (dm b) B O=some (ZZ,O)/\te ZZ O=some (val b,O)/\Qv ZZ)->
  ∃ZY,uX none g qJ te (l.map dm) B O=some (l.map val,ZY,O)/\Qv ZY
 | [],B,h,_=>⟨B,rfl,h⟩
 |b::l,B,h,hs=>by
  obtain⟨ZZ,e1,e2,h1⟩:=hs b (by simp) B h;obtain⟨ZY,e3,h3⟩:=LR Qv l ZZ h1 fun b hb=>hs b (by simp[hb]);refine⟨ZY,?_,h3⟩;rw[Xr];simp only[uX,e1,bs,qJ,if_true,e2,vX,e3];rfl
theorem Bj{α β:Type}{g g2:GV}{iv2:IV}{te:EV}{dn:α->D}{dm:β->D}{inn:α->List β}{val:α->β->D}(Pv:G->Prop)(Qv:α->G->Prop){O:M}(hPQ:∀a B,Qv a B->Pv B):∀(l:List α) (B:G),Pv B->
  (∀a∈l,∀B,Pv B->∃ZZ,g (dn a) B O=some (ZZ,O)/\iv2 ZZ O=some (((inn a).map dm,none),O)/\Qv a ZZ)->
  (∀a∈l,∀b∈inn a,∀B,Qv a B->∃ZZ,g2 (dm b) B O=some (ZZ,O)/\te ZZ O=some (val a b,O)/\Qv a ZZ)->
  tp none g qJ iv2 g2 qJ te (l.map dn) B O=some (l.flatMap fun a=>(inn a).map (val a),O)
 | [],B,_,_,_=>rfl
 |a::l,B,h,hs,hi=>by
  obtain⟨ZZ,e1,e2,h1⟩:=hs a (by simp) B h;obtain⟨ZW,e3,h2⟩:=LR (Qv a) (inn a) ZZ h1 (hi a (by simp));have ih:=Bj (dm:=dm) (val:=val) Pv Qv hPQ l ZW (hPQ a _ h2) (fun a ha=>hs a (by simp[ha])) fun a ha=>hi a (by simp[ha]);rw[Xr];simp only[tp,e1,bs,qJ,if_true,e2,e3,vX];have ih':tp none g (fun _ O=>some (true,O)) iv2 g2 (fun _ O=>some (true,O)) te (l.map dn) ZW O=some (l.flatMap fun a=>(inn a).map (val a),O):=ih;rw[show(qJ:BV)=fun _ O=>some (true,O) from rfl] at*;rw[ih'];rfl
def prs(n:Nat):List (Nat×Nat):=(List.range n).flatMap fun i=>(List.range (n - (i+1))).map fun j=>(i,i+1+j)
def UH{n:Nat}{O:M}(hn:n<=100):xI [.int (n:Int)] O=some (.lst ((prs n).map dP),O):=by
 unfold xI Ea;rw[vw,if_pos (show [D.int (n:Int)].length=1 from rfl)];show tL (qR _ [some (.int (n:Int))] O)=_;have hb:(-1000000000:Int)<=(n:Int)/\(n:Int)<=1000000000:=by omega
 have hr:ivR (be 0) [some (.int (n:Int))] O=some (((List.range n).map fun i:Nat=>D.int (i:Int),none),O):=by
  simp[hb,rl]
 have hc:=Bj (g:=qA 0) (g2:=qA 1) (iv2:=ze (v2 sf (be 0) (vC (.int 1))) (be 2)) (te:=vL sj (qy (be 0) (qy (be 1) qD))) (dn:=fun i:Nat=>D.int (i:Int)) (dm:=fun j:Nat=>D.int (j:Int)) (inn:=fun i=>(List.range (n - (i+1))).map fun j=>i+1+j) (val:=fun i j=>dP (i,j))
  (fun B=>∃a b,B=[a,b,some (.int (n:Int))]) (fun i B=>∃b,B=[some (.int (i:Int)),b,some (.int (n:Int))]) (O:=O) (fun i B ⟨b,e⟩=>⟨_,_,e⟩) (List.range n) [none,none,some (.int (n:Int))] ⟨_,_,rfl⟩ ?_ ?_
 ·have hcap:rB (["i","j"]:List Str) [("many",0)] [some (.int (n:Int))]=[none,none,some (.int (n:Int))]:=rfl;have hlen:((List.range n).flatMap fun i=>((List.range (n - (i+1))).map fun j=>i+1+j).map (fun j=>dP (i,j))).length<=1000000:=by
   rw[List.length_flatMap];have:∀(l:List Nat),(l.map fun i=>(((List.range (n - (i+1))).map fun j=>i+1+j).map (fun j=>dP (i,j))).length).sum<=l.length*n:=by
    intro l;induction l with
    |nil=>simp
    |cons x l ih=>simp only[Xr,List.sum_cons,Xn,Yw,XM] at ih⊢;rw[Nat.add_mul];omega
   have:=this (List.range n);rw[Yw] at this;have h2:n*n<=100*100:=Nat.mul_le_mul hn hn;omega
  have e:((List.range n).flatMap fun i=>((List.range (n - (i+1))).map fun j=>i+1+j).map (fun j=>dP (i,j)))=(prs n).map dP:=by
   unfold prs;rw[List.map_flatMap];congr 1;funext i;rw[XO,XO];rfl
  rw[xF,BY,hr,BM,hcap,hc,Bx,if_pos hlen,e];rfl
 ·rintro i hi B ⟨a,b,rfl⟩;rw[XT] at hi;refine⟨[some (.int (i:Int)),b,some (.int (n:Int))],rfl,?_,⟨_,rfl⟩⟩;have hv:v2 sf (be 0) (vC (.int 1)) [some (.int (i:Int)),b,some (.int (n:Int))] O=some (.int ((i:Int)+1),O):=rfl;have hv2:be 2 [some (.int (i:Int)),b,some (.int (n:Int))] O=some (.int (n:Int),O):=rfl;have hbb:((-1000000000:Int)<=(i:Int)+1/\(i:Int)+1<=1000000000)/\-1000000000<=(n:Int)/\(n:Int)<=1000000000:=by omega
  rw[Rw,hv,Rg,hv2,UK,if_pos hbb];have e2:((n:Int) - ((i:Int)+1)).toNat=n - (i+1):=by omega
  rw[e2];unfold rl;rw[XO];congr 4
 ·rintro i hi j hj B ⟨b,rfl⟩;exact⟨[some (.int (i:Int)),some (.int (j:Int)),some (.int (n:Int))],rfl,rfl,⟨_,rfl⟩⟩
theorem xy{α:Type}{c:Ck}{g:GV}{tc:BV}{te:EV}{dn:α->D}{keep:α->Bool}{val:α->D}(Pv:G->Prop){O:M}{B:G}(hc:q0 c O)(l:List α)(h0:Pv B)
  (hs:∀a∈l,∀B,Pv B->Wp (g (dn a) B O) fun ZZ Z5=>Z5=O/\Pv ZZ/\Wp (tc ZZ O) fun b Z4=>b=keep a/\Z4=O/\(keep a=true->Wp (te ZZ O) fun x ZQ=>x=val a/\ZQ=O)) {R:List D->M->Prop} (hR:R ((l.filter keep).map val) O):Wp (rE c g tc te (l.map dn) B O) R:=by
 refine comp_inv (fun done r B Z6=>∃i,i<=l.length/\Z6=O/\Pv B/\r=(l.drop i).map dn/\done=((l.take i).filter keep).map val) _ ⟨0,by omega,rfl,h0,rfl,rfl⟩ ?_ ?_
 ·rintro done d r B Z6 ⟨i,hi,rfl,hp,e,rfl⟩;have hi':i<l.length:=by
   rcases Nat.lt_or_ge i l.length with z|z
   ·exact z
   ·rw[X5 z] at e;cases e
  rw[XS hi',Xr] at e;cases e;have ht:l.take (i+1)=l.take i++[l[i]]:=by rw[List.take_append_getElem hi']
  refine(hs l[i] (X3 hi') B hp).imp fun ZZ Z5 ⟨e,hp1,h⟩=>?_;subst e;refine h.imp fun b Z4 ⟨e1,e2,h⟩=>?_;subst e1;subst e2;cases hk:keep l[i] with
  |true=>
   show Wp _ _;refine(h hk).imp fun x ZQ ⟨e1,e2⟩=>?_;subst e1;subst e2;refine⟨hc,i+1,hi',rfl,hp1,rfl,?_⟩;rw[ht,List.filter_append,X6];simp[hk]
  |false=>
   show q0 c _/\_;refine⟨hc,i+1,hi',rfl,hp1,rfl,?_⟩;rw[ht,List.filter_append,X6];simp[hk]
 ·rintro done B Z6 ⟨i,hi,rfl,_,e,rfl⟩;have:l.length<=i:=by
   have:=congrArg List.length e;simp at this;omega
  rw[List.take_of_length_le this];exact hR
def xR{O:M}(l:List Bool):ul (.lst (l.map D.bl)) O=some (.bl (l.all id),O):=by
 have:rD inB (l.map D.bl)=some l:=by
  have:=xl (f:=inB) (g:=D.bl) (h:=id) (l:=l) (fun x _=>rfl);simpa using this
 unfold ul;show(rD inB (l.map D.bl)).bind _=_;rw[this];rfl
def O5{a b:List D}{O:M}(h:a.length+b.length<=1000000):sf (.lst a) (.lst b) O=some (.lst (a++b),O):=if_pos h
def yg{a:List D}{O:M}:rN (.lst a) O=some (.int (a.length:Int),O):=rfl
def Go{ds:List D}{j:Nat}{v:D}{O:M}(h:ds[j]?=some v):fIx (.lst ds) (.int (j:Int)) O=some (v,O):=by
 show(atI ds (j:Int)).bind _=_;rw[u4 h];rfl
def CU{n:Nat}{p:Nat×Nat}(h:p∈prs n):p.1<n/\p.2<n/\p.1≠p.2:=by
 unfold prs at h;obtain⟨i,hi,h⟩:=List.mem_flatMap.mp h;obtain⟨j,hj,rfl⟩:=Xw.mp h;have h1:=XT.mp hi;have h2:=XT.mp hj;refine⟨h1,?_,?_⟩<;>simp<;>omega
theorem wpA:type_of%(And.intro @A1 (And.intro @Fs (And.intro @IY (And.intro @MA (And.intro @GE (And.intro @Jw (And.intro @Ni (And.intro @Ik (And.intro @GZ (And.intro @KC (And.intro @Lc (And.intro @M3 (And.intro @Hm (And.intro @LQ (And.intro @Hk (And.intro @w_c (And.intro @M5 (And.intro @Lr (And.intro @w_T (And.intro @G4 (And.intro @Lk (And.intro @KY (And.intro @Im (And.intro @w_Yes (And.intro @GJ (And.intro @JB (And.intro @IQ (And.intro @GU (And.intro @GD (And.intro @Jh (And.intro @Kb (And.intro @Kl (And.intro @Jz (And.intro @GR (And.intro @q1_ (And.intro @q2_ (And.intro @Ho (And.intro @qL_ (And.intro @qc_ (And.intro @MJ (And.intro @qT_ (And.intro @GG (And.intro @Iq (And.intro @LL (And.intro @HB (And.intro @Jl (And.intro @Mh (And.intro @IS (And.intro @KH (And.intro @Ki (And.intro @IJ (And.intro @Ml (And.intro @IU (And.intro @GQ (And.intro @Gq (And.intro @LH (And.intro @LM (And.intro @J7 (And.intro @J5 (And.intro @LZ (And.intro @JE (And.intro @Ga (And.intro @GH (And.intro @LJ (And.intro @Kj (And.intro @KO (And.intro @GL (And.intro @Ha (And.intro @Gz (And.intro @Nm (And.intro @GT (And.intro @wp_some (And.intro @ws_some (And.intro @FZ (And.intro @GA (And.intro @Km (And.intro @Ic (And.intro @Hv (And.intro @Ks (And.intro @K4 (And.intro @EN (And.intro @M8 (And.intro @Ly (And.intro @KK (And.intro @Mt (And.intro @Hr (And.intro @IA (And.intro @Jr (And.intro @Gc (And.intro @Jv (And.intro @II (And.intro @LB (And.intro @MI (And.intro @Mw (And.intro @HZ (And.intro @Jg (And.intro @Kw (And.intro @LS (And.intro @Mv (And.intro @Gk (And.intro @Hw (And.intro @K2 (And.intro @Kd (And.intro @LD (And.intro @GK (And.intro @KZ (And.intro @M1 (And.intro @JA (And.intro @IE (And.intro @LU (And.intro @Jt (And.intro @Lu (And.intro @K1 (And.intro @J9 (And.intro @MU (And.intro @Kx (And.intro @Hn (And.intro @Mi (And.intro @Ia (And.intro @Mf (And.intro @IX (And.intro @M6 (And.intro @HY (And.intro @LP (And.intro @Np (And.intro @JU (And.intro @ID (And.intro @Mg (And.intro @GW (And.intro @Hx (And.intro @Nd (And.intro @K3 (And.intro @Ky (@wt_some)))))))))))))))))))))))))))))))))))))))))))))))))))))))))))))))))))))))))))))))))))))))))))))))))))))))))))))))))))))))))))))))))))))):=And.intro @A1 (And.intro @Fs (And.intro @IY (And.intro @MA (And.intro @GE (And.intro @Jw (And.intro @Ni (And.intro @Ik (And.intro @GZ (And.intro @KC (And.intro @Lc (And.intro @M3 (And.intro @Hm (And.intro @LQ (And.intro @Hk (And.intro @w_c (And.intro @M5 (And.intro @Lr (And.intro @w_T (And.intro @G4 (And.intro @Lk (And.intro @KY (And.intro @Im (And.intro @w_Yes (And.intro @GJ (And.intro @JB (And.intro @IQ (And.intro @GU (And.intro @GD (And.intro @Jh (And.intro @Kb (And.intro @Kl (And.intro @Jz (And.intro @GR (And.intro @q1_ (And.intro @q2_ (And.intro @Ho (And.intro @qL_ (And.intro @qc_ (And.intro @MJ (And.intro @qT_ (And.intro @GG (And.intro @Iq (And.intro @LL (And.intro @HB (And.intro @Jl (And.intro @Mh (And.intro @IS (And.intro @KH (And.intro @Ki (And.intro @IJ (And.intro @Ml (And.intro @IU (And.intro @GQ (And.intro @Gq (And.intro @LH (And.intro @LM (And.intro @J7 (And.intro @J5 (And.intro @LZ (And.intro @JE (And.intro @Ga (And.intro @GH (And.intro @LJ (And.intro @Kj (And.intro @KO (And.intro @GL (And.intro @Ha (And.intro @Gz (And.intro @Nm (And.intro @GT (And.intro @wp_some (And.intro @ws_some (And.intro @FZ (And.intro @GA (And.intro @Km (And.intro @Ic (And.intro @Hv (And.intro @Ks (And.intro @K4 (And.intro @EN (And.intro @M8 (And.intro @Ly (And.intro @KK (And.intro @Mt (And.intro @Hr (And.intro @IA (And.intro @Jr (And.intro @Gc (And.intro @Jv (And.intro @II (And.intro @LB (And.intro @MI (And.intro @Mw (And.intro @HZ (And.intro @Jg (And.intro @Kw (And.intro @LS (And.intro @Mv (And.intro @Gk (And.intro @Hw (And.intro @K2 (And.intro @Kd (And.intro @LD (And.intro @GK (And.intro @KZ (And.intro @M1 (And.intro @JA (And.intro @IE (And.intro @LU (And.intro @Jt (And.intro @Lu (And.intro @K1 (And.intro @J9 (And.intro @MU (And.intro @Kx (And.intro @Hn (And.intro @Mi (And.intro @Ia (And.intro @Mf (And.intro @IX (And.intro @M6 (And.intro @HY (And.intro @LP (And.intro @Np (And.intro @JU (And.intro @ID (And.intro @Mg (And.intro @GW (And.intro @Hx (And.intro @Nd (And.intro @K3 (And.intro @Ky (@wt_some)))))))))))))))))))))))))))))))))))))))))))))))))))))))))))))))))))))))))))))))))))))))))))))))))))))))))))))))))))))))))))))))))))))
local macro_rules | `(tactic| simp!)=>`(tactic| simp only [wpA,List.set_cons_zero,List.set_cons_succ])
local macro_rules | `(tactic| simp! [$ts,*])=>`(tactic| simp only [$ts,*,wpA,List.set_cons_zero,List.set_cons_succ])
def dEl(l:List (Option Int)):D:=.lst (l.map dE)
def so3:PyData.strOk "open"=true:=by decide +kernel
def VS{d:D}{ds:List D}{O:M}:fIx (.lst (d::ds)) (.int 0) O=some (d,O):=by
 rw[HI,show(0:Int)=((0:Nat):Int) from rfl,u4 (j:=0) (v:=d) rfl];rfl
def U9{L:List (List (Option Int))}{O:M}(h0:L≠[])(hl:L.length<=100000):Wp (vq tQ [.lst (L.map dEl)] O) fun d Z6=>d=tM (cL L)/\Z6=O:=by
 obtain⟨l0,r,rfl⟩:=Yn h0;unfold vq A9;refine(tj rfl).mpr ?_;show Ws (qE _ _ [some (.lst ((l0::r).map dEl)),none] O) _;simp![Xr];rw[VS];simp![dEl];generalize hL:l0::r=L at hl;have hLm:D.lst (l0.map dE)::r.map dEl=L.map dEl:=by rw[←hL];rfl
 refine Ao (fun rr B Z6=>Z6=O/\(∃o,B=[some (.lst (D.lst (l0.map dE)::r.map dEl)),o])/\∃q,rr=q.map dE/\cL L=q.find? fun t=>L.all fun l=>decide (t∈l)) _ ⟨rfl,⟨_,rfl⟩,l0,rfl,by rw[←hL];rfl⟩ ?_ ?_
 ·rintro d rr B Z6 ⟨rfl,⟨o,rfl⟩,q,e,hq⟩;cases q with
  |nil=>cases e
  |cons t q=>
   cases e;simp![u9];rw[hLm];refine⟨by simp;omega,?_⟩;show Wp (rE none _ _ _ _ [none,some (dE t)] _) _;refine xy (dn:=dEl) (fun B=>∃o,B=[o,some (dE t)]) (c:=none) trivial L ⟨_,rfl⟩ (keep:=fun _=>true) (val:=fun l=>D.bl (decide (t∈l))) ?_ ?_
   ·rintro l hl B ⟨o,rfl⟩;simp![dEl,FN];exact⟨trivial,⟨_,rfl⟩,trivial,trivial,fun _=>⟨trivial,trivial⟩⟩
   ·have ef:(L.filter fun _=>true).map (fun l=>D.bl (decide (t∈l)))=(L.map fun l=>decide (t∈l)).map D.bl:=by
     rw[List.filter_eq_self.mpr (fun _ _=>rfl),XO];rfl
    rw[ef];simp![xR];have ea:(L.map fun l=>decide (t∈l)).all id=L.all fun l=>decide (t∈l):=by rw[List.all_map];rfl
    rw[ea];rw[Xt] at hq;cases hb:L.all fun l=>decide (t∈l) with
    |true=>
     rw[hb] at hq;simp!;rw[hq];exact⟨rfl,trivial⟩
    |false=>
     rw[hb] at hq;simp!;exact⟨trivial,trivial,⟨_,rfl⟩,q,rfl,hq⟩
 ·rintro B Z6 ⟨rfl,⟨o,rfl⟩,q,e,hq⟩;cases q with
  |cons t q=>cases e
  |nil=>
   simp!;rw[hq];exact⟨rfl,trivial⟩
def dTr:Tr->D
 | .e x=>dE x
 | .ask i j a b=>.tup [.str "ask",.int (i:Int),.int (j:Int),dTr a,dTr b]
def dO:Option Tr->D
 |none=>.non
 |some t=>dTr t
def Gn(t:Tr):∃ds,dTr t=.tup ds:=by
 cases t with
 |e x=>cases x<;>exact⟨_,rfl⟩
 |ask i j a b=>exact⟨_,rfl⟩
def FT{o:Option Tr}{O:M}:wF (dO o) .non O=some (.bl o.isNone,O):=by
 cases o with
 |none=>rfl
 |some t=>obtain⟨ds,e⟩:=Gn t;show wF (dTr t) .non O=_;rw[e];rfl
def y1q{o:Option Tr}{O:M}:yq (dO o) .non O=some (.bl o.isSome,O):=by
 cases o with
 |none=>rfl
 |some t=>obtain⟨ds,e⟩:=Gn t;show yq (dTr t) .non O=_;rw[e];rfl
def dN(l:List Nat):D:=.tup ((l.map fun x:Nat=>(x:Int)).map D.int)
structure Sp (n:Nat) (ps:List (Nat×Nat)) (ss:List (List Int)) (es:List (List (Option Int))):Prop where
 len:es.length=ss.length
 few:ss.length<=2000
 sl:∀s∈ss,s.length=n
 pr:∀p∈ps,p.1<n/\p.2<n
 pl:ps.length<=1000
structure Sr (C:Addr) (ps:List (Nat×Nat)) (ss:List (List Int)) (es:List (List (Option Int))) (O:M) (k m:Nat) (kvs:List (NK×D)):Prop where
 obj:O[k]?=some (some (.ins C [("pairs",.lst (ps.map dP)),("sorts",.lst (ss.map fun s=>.lst (s.map D.int))),("ends",.lst (es.map dEl)),("searched",.ref m)]))
 dic:O[m]?=some (some (.dN kvs))
 good:∀p∈kvs,∃(left:List Nat) (a:Nat),p.1=(left.map (fun x:Nat=>(x:Int)),(a:Int))/\p.2=dO (qV ps ss es a left)
section
variable {C:Addr} {n:Nat} {ps:List (Nat×Nat)} {ss:List (List Int)} {es:List (List (Option Int))} {O Z6:M} {k m:Nat} {kvs:List (NK×D)}
theorem Sr.ne(h:Sr C ps ss es O k m kvs):k≠m:=fun e=>by
 have h1:=h.obj;rw[e,h.dic] at h1;cases h1
theorem Sr.f1(h:Sr C ps ss es O k m kvs):sW C "pairs" (.ref k) O=some (.lst (ps.map dP),O):=Ag h.obj rfl
theorem Sr.f2(h:Sr C ps ss es O k m kvs):sW C "sorts" (.ref k) O=some (.lst (ss.map fun s=>.lst (s.map D.int)),O):=Ag h.obj rfl
theorem Sr.f3(h:Sr C ps ss es O k m kvs):sW C "ends" (.ref k) O=some (.lst (es.map dEl),O):=Ag h.obj rfl
theorem Sr.f4(h:Sr C ps ss es O k m kvs):sW C "searched" (.ref k) O=some (.ref m,O):=Ag h.obj rfl
def cc:Nat->Nat->Nat
 |0,_=>1
 |a+1,o=>1+o*(2*cc a (o - 1))
def opn(ss:List (List Int))(left:List Nat)(p:Nat×Nat):Bool:=!decide (alk ss p.1 p.2 left=[])&&!decide (unl ss p.1 p.2 left=[])
def op(ps:List (Nat×Nat))(ss:List (List Int))(left:List Nat):Nat:=(ps.filter (opn ss left)).length
theorem Gb{α:Type}{f g:α->Bool}(h:∀x,f x=true->g x=true){p:α}(h1:f p=false)(h2:g p=true):∀{l:List α},p∈l->(l.filter f).length+1<=(l.filter g).length:=by
 have le:∀l:List α,(l.filter f).length<=(l.filter g).length:=by
  intro l;induction l with
  |nil=>simp
  |cons x l ih=>
   rw[YK,YK];cases hf:f x with
   |true=>rw[h x hf];simpa using ih
   |false=>cases hg:g x<;>simp<;>omega
 intro l;induction l with
 |nil=>intro m;cases m
 |cons x l ih=>
  intro m;rw[YK,YK];rcases XI.mp m with rfl|m
  ·rw[h1,h2];have:=le l;simp;omega
  ·have:=ih m;cases hf:f x with
   |true=>rw[h x hf];simp;omega
   |false=>cases hg:g x<;>simp<;>omega
theorem Lh{f:Nat->Bool}{l1 l2:List Nat}(hs:∀x∈l1,x∈l2)(h:l2.filter f=[]):l1.filter f=[]:=by
 rw[Yo] at h⊢;exact fun x hx=>h x (hs x hx)
theorem Hy{left l1:List Nat}(hs:∀x∈l1,x∈left)(p:Nat×Nat)(h:opn ss l1 p=true):opn ss left p=true:=by
 unfold opn at h⊢;simp only[XE,Bool.not_eq_true',decide_eq_false_iff_not] at h⊢;exact⟨fun e=>h.1 (Lh hs e),fun e=>h.2 (Lh hs e)⟩
theorem OA{left:List Nat}{p:Nat×Nat}(hp:p∈ps)(ho:opn ss left p=true):op ps ss (alk ss p.1 p.2 left)+1<=op ps ss left:=by
 refine Gb (Hy fun x hx=>(Xy.mp hx).1) ?_ ho hp;have:unl ss p.1 p.2 (alk ss p.1 p.2 left)=[]:=by
  unfold unl alk;rw[Yo];intro x hx;have:=(Xy.mp hx).2;simpa using this
 show opn ss (alk ss p.1 p.2 left) p=false;unfold opn;rw[Xx this];simp
theorem Pz{left:List Nat}{p:Nat×Nat}(hp:p∈ps)(ho:opn ss left p=true):op ps ss (unl ss p.1 p.2 left)+1<=op ps ss left:=by
 refine Gb (Hy fun x hx=>(Xy.mp hx).1) ?_ ho hp;have:alk ss p.1 p.2 (unl ss p.1 p.2 left)=[]:=by
  unfold unl alk;rw[Yo];intro x hx;have:=(Xy.mp hx).2;simpa using this
 show opn ss (unl ss p.1 p.2 left) p=false;unfold opn;rw[Xx this];rfl
theorem HN(a o:Nat):1<=cc a o:=by cases a<;>simp[cc]
theorem Bv:∀(a:Nat) {o o':Nat},o<=o'->cc a o<=cc a o'
 |0,_,_,_=>Xh _
 |a+1,o,o',h=>by
  show 1+o*(2*cc a (o - 1))<=1+o'*(2*cc a (o' - 1));have h1:=Bv a (show o - 1<=o' - 1 by omega);have:=Nat.mul_le_mul h (Nat.mul_le_mul_left 2 h1);omega
abbrev key(left:List Nat)(a:Nat):NK:=(left.map (fun x:Nat=>(x:Int)),(a:Int))
def Tw(C:Addr)(n:Nat)(ps:List (Nat×Nat))(ss:List (List Int))(es:List (List (Option Int)))(a:Nat)(f:C0):Prop:=
 ∀(left:List Nat) (k m:Nat) (kvs:List (NK×D)) (O:M),Sr C ps ss es O k m kvs->left≠[]->(∀x∈left,x<ss.length)->left.length<=2000->(rS kvs (key left a)=none->kvs.length+cc a (op ps ss left)<=15000000)->
  Wp (f [.ref k,dN left,.int (a:Int)] O) fun d Z6=>d=dO (qV ps ss es a left)/\∃kvs',Sr C ps ss es Z6 k m kvs'/\kvs'.length<=kvs.length+(if(rS kvs (key left a)).isSome then 0 else cc a (op ps ss left))/\(rS kvs' (key left a)).isSome=true/\Kp m O Z6
theorem Tw.le{c:Nat}{o:Option D}{a b:Nat}(h:a<=b+(if o.isSome then 0 else c)):a<=b+c:=by
 cases o<;>simp at h<;>omega
theorem EC{ds:List D}{j:Nat}{v:D}{O:M}(h:ds[j]?=some v):fIx (.lst ds) (.int (j:Int)) O=some (v,O):=by
 rw[HI,u4 h];rfl
theorem ix1{x:Nat}{O:M}(hx:x<ss.length):fIx (.lst (ss.map fun s=>.lst (s.map D.int))) (.int (x:Int)) O=some (.lst ((ss.getD x []).map D.int),O):=
 EC (by simp[hx,Xk])
theorem ix2{x i:Nat}{O:M}(S:Sp n ps ss es)(hx:x<ss.length)(hi:i<n):fIx (.lst ((ss.getD x []).map D.int)) (.int (i:Int)) O=some (.int (at2 ss x i),O):=by
 have hs:=S.sl _ (X3 hx);refine EC ?_;unfold at2;simp[Xk,hx,Xm (show i<(ss[x]).length by omega)]
theorem KI{ds:List D}{O:M}:A5 (.lst ds) O=some (.tup ds,O):=rfl
theorem KN{ds:List D}{O:M}{RB:Bool->M->Prop}:qTr RB (.tup ds) O↔RB (!ds.isEmpty) O:=⟨fun⟨_,e,q⟩=>by cases e;exact q,fun q=>⟨_,rfl,q⟩⟩
theorem zN{l:List Nat}:(l.map fun x:Nat=>(x:Int)).map D.int=l.map fun x:Nat=>D.int (x:Int):=by rw[XO];rfl
theorem isE{l:List Nat}:(!((l.map fun x:Nat=>(x:Int)).map D.int).isEmpty)=!decide (l=[]):=by cases l<;>rfl
theorem zkg{f:C0}{a:Nat}(S:Sp n ps ss es)(T:Tw C n ps ss es a f){left:List Nat}{p:Nat×Nat}(h:Sr C ps ss es O k m kvs)(hm:p∈ps)(hl:∀x∈left,x<ss.length)(hll:left.length<=2000)(hc:opn ss left p=true->kvs.length+2*cc a (op ps ss left - 1)<=15000000):
  Wp (x6 f C [.ref k,.int (p.1:Int),.int (p.2:Int),dN left,.int ((a+1:Nat):Int)] O) fun d Z6=>d=dO (uH ss (qV ps ss es a) left p)/\∃kvs',Sr C ps ss es Z6 k m kvs'/\kvs'.length<=kvs.length+(if opn ss left p=true then 2*cc a (op ps ss left - 1) else 0)/\Kp m O Z6:=by
 have hp:=S.pr p hm;unfold x6 DN;refine(tj rfl).mpr ?_;show Ws (qE _ _ [some (.ref k),some (.int (p.1:Int)),some (.int (p.2:Int)),some (dN left),some (.int ((a+1:Nat):Int)),none,none,none,none] O) _;unfold dN;simp![u9,Xn];refine⟨by omega,?_⟩;rw[zN];refine xy (dn:=fun x:Nat=>D.int (x:Int)) (fun B=>∃o,B=[o,some (.ref k),some (.int (p.1:Int)),some (.int (p.2:Int))]) (c:=none) trivial left ⟨_,rfl⟩ (keep:=fun x=>decide (at2 ss x p.1=at2 ss x p.2)) (val:=fun x:Nat=>D.int (x:Int)) ?_ ?_
 ·rintro x hx B ⟨o,rfl⟩;simp![h.f2,ix1 (hl x hx),ix2 S (hl x hx) hp.1,ix2 S (hl x hx) hp.2];exact⟨trivial,⟨_,rfl⟩,trivial,trivial,fun _=>⟨trivial,trivial⟩⟩
 have ea:(left.filter fun x=>decide (at2 ss x p.1=at2 ss x p.2)).map (fun x:Nat=>D.int (x:Int))=((alk ss p.1 p.2 left).map fun x:Nat=>(x:Int)).map D.int:=by rw[zN];rfl
 rw[ea];simp![KI,u9,Xn];refine⟨by omega,?_⟩;refine xy (dn:=fun x:Nat=>D.int (x:Int)) (fun B=>∃o,B=[o,some (.ref k),some (.int (p.1:Int)),some (.int (p.2:Int))]) (c:=none) trivial left ⟨_,rfl⟩ (keep:=fun x=>!decide (at2 ss x p.1=at2 ss x p.2)) (val:=fun x:Nat=>D.int (x:Int)) ?_ ?_
 ·rintro x hx B ⟨o,rfl⟩;simp![h.f2,ix1 (hl x hx),ix2 S (hl x hx) hp.1,ix2 S (hl x hx) hp.2];exact⟨trivial,⟨_,rfl⟩,trivial,trivial,fun _=>⟨trivial,trivial⟩⟩
 have eu:(left.filter fun x=>!decide (at2 ss x p.1=at2 ss x p.2)).map (fun x:Nat=>D.int (x:Int))=((unl ss p.1 p.2 left).map fun x:Nat=>(x:Int)).map D.int:=by rw[zN];rfl
 rw[eu];have la:(alk ss p.1 p.2 left).length<=2000:=XL (YA _ _) hll;have lu:(unl ss p.1 p.2 left).length<=2000:=XL (YA _ _) hll;have ma:∀x∈alk ss p.1 p.2 left,x<ss.length:=fun x hx=>hl x (Xy.mp hx).1;have mu:∀x∈unl ss p.1 p.2 left,x<ss.length:=fun x hx=>hl x (Xy.mp hx).1;simp![KI,KN,isE];unfold uH;have hop:opn ss left p=(!decide (alk ss p.1 p.2 left=[])&&!decide (unl ss p.1 p.2 left=[])):=rfl;have hoa:=OA (ss:=ss) (left:=left) hm;have hou:=Pz (ss:=ss) (left:=left) hm;generalize opn ss left p=bo at hop hoa hou hc;generalize alk ss p.1 p.2 left=al at la ma hop hoa;generalize unl ss p.1 p.2 left=un at lu mu hop hou;by_cases ha:al=[]
 ·rw[Xx ha,if_pos (.inl ha)];simp![XG,Yi];exact⟨rfl,kvs,h,by omega,.refl⟩
 ·rw[Xq ha];simp![XG,Yi,KN,isE];by_cases hu:un=[]
  ·rw[Xx hu,if_pos (.inr hu)];simp![XG,Yi];exact⟨rfl,kvs,h,by omega,.refl⟩
  ·rw[Xq hu,if_neg (fun z=>z.elim ha hu)];have hbo:bo=true:=by rw[hop,Xq ha,Xq hu];rfl
   subst hbo;have c0:=hc rfl;have c1:=Bv a (show op ps ss al<=op ps ss left - 1 by have:=hoa rfl;omega);have c2:=Bv a (show op ps ss un<=op ps ss left - 1 by have:=hou rfl;omega);rw[if_pos rfl];simp![XG,Yi];rw[xK h.obj rfl];simp!;have e1:((a+1:Nat):Int) - 1=(a:Int):=by omega
   rw[e1];refine(T al k m kvs O h ha ma la (fun _=>by omega)).imp ?_;rintro _ Z5 ⟨rfl,kvs1,h1,hl1,_,g1⟩;have hl1:=Tw.le hl1;simp![FT];cases hta:qV ps ss es a al with
   |none=>
    simp![Option.isNone_none];exact⟨rfl,kvs1,h1,by omega,g1⟩
   |some ta=>
    simp![Option.isNone_some];rw[xK h1.obj rfl];simp!;rw[e1];refine(T un k m kvs1 Z5 h1 hu mu lu (fun _=>by omega)).imp ?_;rintro _ Z4 ⟨rfl,kvs2,h2,hl2,_,g2⟩;have hl2:=Tw.le hl2;simp![FT];cases htu:qV ps ss es a un with
    |none=>
     simp![Option.isNone_none];exact⟨rfl,kvs2,h2,by omega,g1.trans g2⟩
    |some tu=>
     simp![Option.isNone_some];rw[uW (by simp)];simp!;exact⟨rfl,kvs2,h2,by omega,g1.trans g2⟩
end
def N1{o:Option (Option Int)}{O:M}:fNe (tM o) tQ O=some (.bl o.isSome,O):=by
 have key:∀(x:PyData),py 65 O (tM o)=some x->x.canLay0=true->x.depth<=64->PyData.eqv x (.tuple [.str "open"])=!o.isSome->fNe (tM o) tQ O=some (.bl o.isSome,O):=by
  intro x h1 h2 h3 h4;have e2:py 65 O tQ=some (.tuple [.str "open"]):=rfl;have l2:(PyData.tuple [.str "open"]).canLay0=true:=by simp[PyData.canLay0,PyData.canLayAll0,so3]
  have ee:eqD (tM o) tQ O=some (!o.isSome):=by
   have:eqD (tM o) tQ O=(py 65 O (tM o)).bind fun d=>(py 65 O tQ).bind fun e=>if(d.canLay0&&e.canLay0&&decide (d.depth<=64))=true then some (PyData.eqv d e) else none:=by
    cases o with
    |none=>rfl
    |some t=>cases t<;>rfl
   rw[this,h1,e2];simp only[Option.bind_some,h2,l2,Xx h3,Bool.and_self,if_true,h4]
  unfold fNe;rw[ee];simp
 cases o with
 |none=>exact key (.tuple [.str "open"]) rfl (by simp[PyData.canLay0,PyData.canLayAll0,so3]) (by simp[PyData.depth,PyData.depthAll]) (by simp[PyData.eqv,PyData.eqvAll])
 |some t=>
  refine key (pE t) (yK t) (yC t) (XL (A0 t) (by decide)) ?_;cases t with
  |none=>simp[pE,PyData.eqv,PyData.eqvAll];decide +kernel
  |some t=>simp[pE,PyData.eqv,PyData.eqvAll]
section
variable {C:Addr} {n:Nat} {ps:List (Nat×Nat)} {ss:List (List Int)} {es:List (List (Option Int))} {O Z6:M} {k m:Nat} {kvs:List (NK×D)}
theorem ix3{x:Nat}{O:M}(hx:x<es.length):fIx (.lst (es.map dEl)) (.int (x:Int)) O=some (dEl (es.getD x []),O):=EC (by simp[hx,Xk])
abbrev BB(C:Addr)(f:C0):C0:=Bq (vq tQ) (x6 f C) tQ C
theorem Oj{f:C0}{a:Nat}(S:Sp n ps ss es)(T:∀b,b+1=a->Tw C n ps ss es b f){left:List Nat}(h:Sr C ps ss es O k m kvs)(h0:left≠[])(hl:∀x∈left,x<ss.length)(hll:left.length<=2000)(hc:kvs.length+cc a (op ps ss left)<=15000000):
  Wp (BB C f [.ref k,dN left,.int (a:Int)] O) fun d Z6=>d=dO (qV ps ss es a left)/\∃kvs',Sr C ps ss es Z6 k m kvs'/\kvs'.length+1<=kvs.length+cc a (op ps ss left)/\Kp m O Z6:=by
 unfold BB Bq E8;refine(tj rfl).mpr ?_;show Ws (qE _ _ [some (.ref k),some (dN left),some (.int (a:Int)),none,none,none,none] O) _;unfold dN;simp![u9,Xn];refine⟨by omega,?_⟩;rw[zN];refine xy (dn:=fun x:Nat=>D.int (x:Int)) (fun B=>∃o,B=[o,some (.ref k)]) (c:=none) trivial left ⟨_,rfl⟩ (keep:=fun _=>true) (val:=fun x:Nat=>dEl (es.getD x [])) ?_ ?_
 ·rintro x hx B ⟨o,rfl⟩;simp![h.f3,ix3 (show x<es.length by rw[S.len];exact hl x hx)];exact⟨trivial,⟨_,rfl⟩,trivial,trivial,fun _=>⟨trivial,trivial⟩⟩
 have ev:(left.filter fun _=>true).map (fun x:Nat=>dEl (es.getD x []))=(left.map fun x=>es.getD x []).map dEl:=by
  rw[List.filter_eq_self.mpr (fun _ _=>rfl),XO];rfl
 rw[ev,←zN];refine(U9 (by simpa using h0) (by simp;omega)).imp ?_;rintro _ Z5 ⟨rfl,rfl⟩;simp![N1];have hcE:cL (left.map fun x=>es.getD x [])=cE es left:=rfl;rw[hcE];have hpos:=HN a (op ps ss left);cases he:cE es left with
 |some x=>
  simp![Option.isSome_some];have et:qV ps ss es a left=some (.e x):=by cases a<;>simp[qV,he]
  rw[et];exact⟨rfl,kvs,h,by omega,.refl⟩
 |none=>
  simp![Option.isSome_none];cases a with
  |zero=>
   have et:qV ps ss es 0 left=none:=by simp[qV,he]
   rw[et];simp![Int.natCast_zero,decide_true];exact⟨rfl,kvs,h,by omega,.refl⟩
  |succ a=>
   have ez:decide (((a+1:Nat):Int)=0)=false:=Xq (by omega);rw[ez];simp![h.f1];have et:qV ps ss es (a+1) left=ps.findSome? (uH ss (qV ps ss es a) left):=by simp[qV,he]
   rw[et];have hcc:cc (a+1) (op ps ss left)=1+op ps ss left*(2*cc a (op ps ss left - 1)):=rfl;rw[hcc] at hc⊢;generalize hq:cc a (op ps ss left - 1)=q at hc⊢;refine Ao (fun rr B Z6=>∃qs kvs' o3 o4 o5 o6,rr=qs.map dP/\(∀p∈qs,p∈ps)/\ps.findSome? (uH ss (qV ps ss es a) left)=qs.findSome? (uH ss (qV ps ss es a) left)/\B=[some (.ref k),some (.tup ((left.map fun x:Nat=>(x:Int)).map D.int)),some (.int ((a+1:Nat):Int)),o3,o4,o5,o6]/\Sr C ps ss es Z6 k m kvs'/\kvs'.length+op qs ss left*(2*q)<=kvs.length+op ps ss left*(2*q)/\Kp m Z5 Z6) _ ⟨ps,kvs,_,_,_,_,rfl,fun p h=>h,rfl,rfl,h,by omega,.refl⟩ ?_ ?_
   ·rintro d rr B Z4 ⟨qs,kvs2,o3,o4,o5,o6,e,hm,hf,rfl,h2,hl2,g2⟩;cases qs with
    |nil=>cases e
    |cons p qs=>
     cases e;have e3:op (p::qs) ss left*(2*q)=op qs ss left*(2*q)+(if opn ss left p=true then 2*q else 0):=by
      unfold op;rw[YK];cases opn ss left p with
      |true=>simp[Nat.add_mul]
      |false=>simp
     rw[e3] at hl2;unfold dP;rw[wJ (n:=2) rfl];simp!;rw[xK h2.obj rfl];simp!;refine(zkg S (T a rfl) (p:=p) h2 (hm p (by simp)) hl hll (fun ho=>by rw[hq];rw[if_pos ho] at hl2;omega)).imp ?_;rintro _ ZQ ⟨rfl,kvs3,h3,hl3,g3⟩;rw[hq] at hl3;simp![y1q];rw[List.findSome?_cons] at hf;cases ha:uH ss (qV ps ss es a) left p with
     |some t=>
      rw[ha] at hf;simp![Option.isSome_some];rw[hf];exact⟨rfl,kvs3,h3,by omega,g2.trans g3⟩
     |none=>
      rw[ha] at hf;simp![Option.isSome_none];exact⟨trivial,qs,kvs3,_,_,_,_,rfl,fun p h=>hm p (by simp[h]),hf,rfl,h3,by omega,g2.trans g3⟩
   ·rintro B Z4 ⟨qs,kvs2,o3,o4,o5,o6,e,hm,hf,rfl,h2,hl2,g2⟩;cases qs with
    |cons p qs=>cases e
    |nil=>
     simp!;rw[hf];refine⟨rfl,kvs2,h2,?_,g2⟩;omega
abbrev Cb(C:Addr)(f:C0):C0:=AO (BB C f) C
theorem MX{f:C0}{a:Nat}(S:Sp n ps ss es)(T:∀b,b+1=a->Tw C n ps ss es b f):Tw C n ps ss es a (Cb C f):=by
 intro left k m kvs O h h0 hl hll hc;have hpos:=HN a (op ps ss left);unfold Cb AO Cc;refine(tj rfl).mpr ?_;show Ws (qE _ _ [some (.ref k),some (dN left),some (.int (a:Int))] O) _;simp!;rw[uW (by simp)];simp![h.f4];unfold dN;rw[Tp h.dic];simp!;cases hv:rS kvs (left.map (fun x:Nat=>(x:Int)),(a:Int)) with
 |some d=>
  simp![Option.isSome_some,XG,h.f4];rw[uW (by simp)];simp!;rw[Db h.dic hv];simp!;obtain⟨left',a',e1,e2⟩:=h.good _ (Cg hv);have ea:a'=a:=by
   have:=congrArg Prod.snd e1;simp at this;omega
  have el:left'=left:=by
   have:=congrArg Prod.fst e1;simp only at this;exact(List.map_inj_right (fun x y e=>by have e:(x:Int)=(y:Int):=e;omega)).mp this.symm
  subst ea el;exact⟨e2,kvs,h,by simp,by rw[hv];rfl,.refl⟩
 |none=>
  simp![Option.isSome_none,Yi];rw[xK h.obj rfl];simp!;have hc:=hc hv;refine(Oj S T (left:=left) h h0 hl hll hc).imp ?_;rintro _ Z5 ⟨rfl,kvs1,h1,hl1,g1⟩;simp![h1.f4];rw[uW (by simp)];simp!;rw[W8 h1.dic (by omega)];simp!;cases hv1:rS kvs1 (left.map (fun x:Nat=>(x:Int)),(a:Int)) with
  |none=>
   obtain⟨w1,w2⟩:=Pi (d:=dO (qV ps ss es a left)) hv1;rw[w2] at w1;rw[w2];have h2:Sr C ps ss es (Z5.set m (some (.dN (kvs1++[((left.map (fun x:Nat=>(x:Int)),(a:Int)),dO (qV ps ss es a left))])))) k m (kvs1++[((left.map (fun x:Nat=>(x:Int)),(a:Int)),dO (qV ps ss es a left))]):=by
    refine⟨by rw[tW h1.ne];exact h1.obj,tG h1.dic,?_⟩;intro p hp;rcases XN.mp hp with hp|hp
    ·exact h1.good p hp
    ·rw[XX] at hp;subst hp;exact⟨left,a,rfl,rfl⟩
   simp![h2.f4];rw[uW (by simp)];simp!;rw[Db h2.dic w1];simp!;exact⟨trivial,_,h2,by simp;omega,by rw[w1];rfl,g1.trans yb⟩
  |some d1=>
   obtain⟨left',a',e1,e2⟩:=h1.good _ (Cg hv1);have ea:a'=a:=by
    have:=congrArg Prod.snd e1;simp at this;omega
   have el:left'=left:=by
    have:=congrArg Prod.fst e1;simp only at this;exact(List.map_inj_right (fun x y e=>by have e:(x:Int)=(y:Int):=e;omega)).mp this.symm
   subst ea el;have e2:d1=dO (qV ps ss es a' left'):=e2;subst e2;have hm1:=Cg hv1;generalize hK:((left'.map (fun x:Nat=>(x:Int)),(a':Int)):NK)=K at hv1 hm1;have hany:(kvs1.any fun kv=>decide (kv.1=K))=true:=by
    rw[Yl];exact⟨_,hm1,by simp⟩
   have hp2:t3 kvs1 K (dO (qV ps ss es a' left'))=kvs1.map fun kv=>if kv.1=K then(kv.1,dO (qV ps ss es a' left')) else kv:=by unfold t3;rw[if_pos hany]
   rw[hp2];have hval:rS (kvs1.map fun kv=>if kv.1=K then(kv.1,dO (qV ps ss es a' left')) else kv) K=some (dO (qV ps ss es a' left')):=by
    clear hp2 hany hm1 hl1 h1 hc;unfold rS at hv1⊢;induction kvs1 with
    |nil=>cases hv1
    |cons z r ih=>
     rw[Xr];by_cases hz:z.1=K
     ·simp[Xt,hz]
     ·simp only[Xt,hz,decide_false,if_false] at hv1⊢;exact ih hv1
   have h2:Sr C ps ss es (Z5.set m (some (.dN (kvs1.map fun kv=>if kv.1=K then(kv.1,dO (qV ps ss es a' left')) else kv)))) k m (kvs1.map fun kv=>if kv.1=K then(kv.1,dO (qV ps ss es a' left')) else kv):=by
    refine⟨by rw[tW h1.ne];exact h1.obj,tG h1.dic,?_⟩;intro p hp;obtain⟨z,hz,rfl⟩:=Xw.mp hp;by_cases e:z.1=K
    ·rw[if_pos e];exact⟨left',a',by rw[hK];exact e,rfl⟩
    ·rw[if_neg e];exact h1.good z hz
   simp![h2.f4];rw[uW (by simp)];simp!;rw[←hK] at hval h2⊢;rw[Db h2.dic hval];simp!;exact⟨trivial,_,h2,by simp;omega,by rw[hval];rfl,g1.trans yb⟩
def wO(C:Addr):Nat->List D->M->Fr
 |0=>fun _ _=>none
 |f+1=>Cb C (wO C f)
theorem Ng(S:Sp n ps ss es):∀(a f:Nat),a<f->Tw C n ps ss es a (wO C f)
 |a,0,h=>by omega
 |0,f+1,_=>MX S fun b e=>by omega
 |a+1,f+1,h=>MX S fun b e=>by
  have:b=a:=by omega
  subst this;exact Ng S b f (by omega)
end
def K6{n m:Nat}{s:List Int}(h:s∈(Sx n m).map (·.1)):s.length=n:=by
 obtain⟨p,hp,rfl⟩:=Xw.mp h;exact((wU m n p hp).len)
section
variable {C:Addr} {n:Nat} {ss:List (List Int)} {es:List (List (Option Int))} {O:M}
abbrev Av(C:Addr):C0:=Bt xI C
theorem pf2{d p:D}:sr "sorts" d [("pairs",p)]=([("pairs",p),("sorts",d)]:List (Str×D)):=by
 unfold sr;rw[if_neg (by decide +kernel)];rfl
theorem pf3{d p q:D}:sr "ends" d [("pairs",p),("sorts",q)]=([("pairs",p),("sorts",q),("ends",d)]:List (Str×D)):=by
 unfold sr;rw[if_neg (by decide +kernel)];unfold sr;rw[if_neg (by decide +kernel)];rfl
theorem pf4{d p q r:D}:sr "searched" d [("pairs",p),("sorts",q),("ends",r)]=([("pairs",p),("sorts",q),("ends",r),("searched",d)]:List (Str×D)):=by
 unfold sr;rw[if_neg (by decide +kernel)];unfold sr;rw[if_neg (by decide +kernel)];unfold sr;rw[if_neg (by decide +kernel)];rfl
theorem OU(hn:n<=100){k:Nat}(hk:O[k]?=some (some (.ins C []))):Wp (Av C [.ref k,.int (n:Int),.lst (ss.map dI),.lst (es.map dEl)] O) fun d Z6=>d=.non/\∃m,O.length<=m/\Sr C (prs n) ss es Z6 k m []/\Kp k O Z6:=by
 unfold Av Bt Dm;refine(tj rfl).mpr ?_;show Ws (qE _ _ [some (.ref k),some (.int (n:Int)),some (.lst (ss.map dI)),some (.lst (es.map dEl))] O) _;simp![UH hn];rw[z9 hk (by simp)];simp!;have h1:(O.set k (some (Z9.ins C (sr "pairs" (.lst ((prs n).map dP)) []))))[k]?=some (some (Z9.ins C [("pairs",.lst ((prs n).map dP))])):=tG hk;have g1:Kp k O (O.set k (some (Z9.ins C (sr "pairs" (.lst ((prs n).map dP)) [])))):=yb;generalize O.set k (some (Z9.ins C (sr "pairs" (.lst ((prs n).map dP)) [])))=Z5 at h1 g1;rw[z9 h1 (by simp)];simp!;rw[pf2];have h2:=tG (y:=some (Z9.ins C [("pairs",.lst ((prs n).map dP)),("sorts",.lst (ss.map dI))])) h1;have g2:Kp k Z5 (Z5.set k (some (Z9.ins C [("pairs",.lst ((prs n).map dP)),("sorts",.lst (ss.map dI))]))):=yb;generalize Z5.set k (some (Z9.ins C [("pairs",.lst ((prs n).map dP)),("sorts",.lst (ss.map dI))]))=Z4 at h2 g2;rw[z9 h2 (by simp)];simp!;rw[pf3];have h3:=tG (y:=some (Z9.ins C [("pairs",.lst ((prs n).map dP)),("sorts",.lst (ss.map dI)),("ends",.lst (es.map dEl))])) h2;have g3:Kp k Z4 (Z4.set k (some (Z9.ins C [("pairs",.lst ((prs n).map dP)),("sorts",.lst (ss.map dI)),("ends",.lst (es.map dEl))]))):=yb;generalize Z4.set k (some (Z9.ins C [("pairs",.lst ((prs n).map dP)),("sorts",.lst (ss.map dI)),("ends",.lst (es.map dEl))]))=ZQ at h3 g3;have g03:=(g1.trans g2).trans g3;have ev:D8 [some (.ref k),some (.int (n:Int)),some (.lst (ss.map dI)),some (.lst (es.map dEl))] ZQ=some (.ref ZQ.length,ZQ++[some (.dN [])]):=rfl;rw[ev];simp!;have h4:(ZQ++[some (Z9.dN [])])[k]?=some (some (Z9.ins C [("pairs",.lst ((prs n).map dP)),("sorts",.lst (ss.map dI)),("ends",.lst (es.map dEl))])):=gr_app.get h3;rw[z9 h4 (by simp)];simp!;rw[pf4];have hk3:k<ZQ.length:=(Xi.mp h3).1;refine⟨trivial,ZQ.length,g03.len,⟨tG h4,?_,fun p h=>by cases h⟩,(g03.trans y21).trans yb⟩;rw[tW (by omega)];simp
theorem Kg{B:G}{i:Nat}{x:Int}{Q:Out->G->M->Prop}(h:B[i]?=some (some (.int x)))(hQ:Q .nx (B.set i (some (.int (x+1)))) O):Ws (xv i BS (vC (.int 1)) B O) Q:=by
 unfold xv;rw[h];exact ws_some.mpr hQ
abbrev AY(C:Addr):C0:=Ae (Av C) (wO C 10) C
def cs(o:Nat):Nat->Nat
 |0=>0
 |a+1=>cs o a+cc a o
theorem zxu{o a b:Nat}(h:a<=b):cs o a<=cs o b:=by
 induction h with
 |refl=>exact Xh _
 |step _ ih=>exact XL ih (Nat.le_add_right _ _)
theorem QI{N:Nat}{t:Tr}(hn:n<=100)(S:Sp n (prs n) ss es)(h0:ss≠[])(hN:N<10)(ht:qV (prs n) ss es N (List.range ss.length)=some t)(hno:∀a,a<N->qV (prs n) ss es a (List.range ss.length)=none)(hcc:cs (prs n).length (N+1)<=15000000):
  Wp (AY C [.int (n:Int),.lst (ss.map dI),.lst (es.map dEl)] O) fun d Z6=>d=.tup [.int (N:Int),dTr t]/\Gr O Z6:=by
 unfold AY Ae FB;refine(tj rfl).mpr ?_;show Ws (qE _ _ [some (.int (n:Int)),some (.lst (ss.map dI)),some (.lst (es.map dEl)),none,none,none] O) _;rw[A1,Fs];refine Pj ?_;simp![OI];refine(OU (C:=C) (n:=n) (ss:=ss) (es:=es) (k:=O.length) hn (by simp)).imp ?_;rintro _ Z5 ⟨rfl,m,hml0,h1,g1⟩;have hml:O.length<=m:=by simp at hml0;omega
 have hG:Gr O Z5:=by
  refine⟨by have:=g1.len;simp at this;omega,fun j hj=>?_⟩;rw[g1.at_ j (by simp;omega) (by omega),Xv hj]
 have hlen:(List.range ss.length)≠[]:=by
  intro e;have:=congrArg List.length e;simp at this;exact h0 this
 have hlt:∀x∈List.range ss.length,x<ss.length:=fun x hx=>XT.mp hx;have hfew:(List.range ss.length).length<=2000:=by rw[Yw];exact S.few
 have e5:z5 (.int (ss.length:Int)) Z5=some (dN (List.range ss.length),Z5):=by
  have hb:(0:Int)<=(ss.length:Int)/\(ss.length:Int)<=1000000:=by have:=S.few;omega
  unfold z5;simp only;rw[if_pos hb];unfold dN rl;rw[XO];simp
 simp![Vg,Xn,e5];refine⟨trivial,?_⟩;refine UR (fun B Z6=>∃a kvs,a<=N/\B=[some (.int (n:Int)),some (.lst (ss.map dI)),some (.lst (es.map dEl)),some (.ref O.length),some (dN (List.range ss.length)),some (.int (a:Int))]/\Sr C (prs n) ss es Z6 O.length m kvs/\kvs.length<=cs (prs n).length a/\Gr O Z6) (fun B _=>match B with
  | [_,_,_,_,_,some (.int a)]=>N - a.toNat
  |_=>0) 1000000 ⟨0,[],by omega,rfl,h1,Xh _,hG⟩ (by show N - (0:Int).toNat<1000000;omega) ?_
 rintro B Z4 ⟨a,kvs,ha,rfl,h2,hl2,g2⟩;have hca:=zxu (o:=(prs n).length) (show a+1<=N+1 by omega);have hcs:cs (prs n).length (a+1)=cs (prs n).length a+cc a (prs n).length:=rfl;have hop:=Bv a (show op (prs n) ss (List.range ss.length)<=(prs n).length from YA _ _);have T:=Ng (C:=C) S a 10 (by omega);simp!;rw[xK h2.obj rfl];simp!;refine(T (List.range ss.length) O.length m kvs Z4 h2 hlen hlt hfew (fun _=>by omega)).imp ?_;rintro _ ZQ ⟨rfl,kvs3,h3,hl3,hk3,g3⟩;have hl3:=Tw.le hl3;have hG3:Gr O ZQ:=⟨XL g2.len g3.len,fun j hj=>by rw[g3.at_ j (by have:=g2.len;omega) (by omega)];exact g2.at_ j hj⟩
 simp![FT];by_cases hlt2:a<N
 ·rw[hno a hlt2];simp only[Option.isNone_none,if_true];refine Kg (x:=(a:Int)) rfl ?_;refine⟨⟨a+1,kvs3,by omega,by simp,h3,by omega,hG3⟩,?_⟩;show N - ((a:Int)+1).toNat<N - (a:Int).toNat
  omega
 ·have:a=N:=by omega
  subst this;rw[ht];simp![Option.isNone_some,XB,if_false];rw[xK h3.obj rfl];simp!;refine(T (List.range ss.length) O.length m kvs3 ZQ h3 hlen hlt hfew (fun z=>by rw[z] at hk3;cases hk3)).imp ?_;rintro _ Zw ⟨rfl,kvs4,h4,hl4,_,g4⟩;have hG4:Gr O Zw:=⟨XL hG3.len g4.len,fun j hj=>by rw[g4.at_ j (by have:=hG3.len;omega) (by omega)];exact hG3.at_ j hj⟩
  simp!;rw[uW (by simp)];simp!;rw[ht];exact⟨rfl,hG4⟩
end
def msk(f:Nat->Bool):Nat->Nat
 |0=>0
 |n+1=>msk f n|||(if f n then 2^n else 0)
theorem EH(f:Nat->Bool)(x:Nat):∀n,(msk f n).testBit x=(decide (x<n)&&f x)
 |0=>by simp[msk]
 |n+1=>by
  rw[msk,Nat.testBit_or,EH f x n];have h2:(if f n then 2^n else 0:Nat).testBit x=(decide (n=x)&&f n):=by
   cases f n with
   |true=>simp[Nat.testBit_two_pow]
   |false=>simp
  rw[h2];by_cases e:n=x
  ·subst e;simp
  ·by_cases h:x<n
   ·simp[e,h,show x<n+1 by omega]
   ·simp[e,h,show ¬x<n+1 by omega]
def pmO(ps:List (Nat×Nat))(ss:List (List Int)):List (Nat×Nat):=ps.map fun p=>(msk (fun x=>decide (at2 ss x p.1=at2 ss x p.2)) ss.length,msk (fun x=>!decide (at2 ss x p.1=at2 ss x p.2)) ss.length)
def emO(ends:List (Option Int))(es:List (List (Option Int)))(n:Nat):List Nat:=ends.map fun e=>msk (fun x=>decide (e∈es.getD x [])) n
def y5z(ps:List (Nat×Nat))(ss:List (List Int))(es:List (List (Option Int)))(ends:List (Option Int))(h:∀x,x<ss.length->∀e∈es.getD x [],e∈ends):Mk ps ss es (pmO ps ss) (emO ends es ss.length) ends:=by
 refine⟨by simp[pmO],?_,by simp[emO],?_,h⟩
 ·intro k p q hp hq x hx;simp only[pmO,XA,hp,Option.map_some,Option.some.injEq] at hq;subst hq;simp[EH,hx]
 ·intro k e q he hq x hx;simp only[emO,XA,he,Option.map_some,Option.some.injEq] at hq;subst hq;simp[EH,hx]
def qK(n m:Nat):List (List Int):=(Sx n m).map (·.1)
def rg(n m:Nat):List (List (Option Int)):=(qK n m).map hE
def rR(n:Nat):List (Option Int):=none::(List.range n).map fun t:Nat=>some (t:Int)
def RM(n:Nat):Ms (List.range n) (2^n - 1):=fun x=>by rw[XT,Nat.testBit_two_pow_sub_one];simp
def vW{n m a:Nat}{pm:List (Nat×Nat)}{em:List Nat}{L:Nat}(hL:(qK n m).length=L)(h0:0<L)(he:((rg n m).all fun l=>l.all fun e=>decide (e∈rR n))=true)(h1:pmO (prs n) (qK n m)=pm)(h2:emO (rR n) (rg n m) L=em)(h3:tR pm em a (2^L - 1)=true):∀b,b<=a->qV (prs n) (qK n m) (rg n m) b (List.range (qK n m).length)=none:=by
 have top:qV (prs n) (qK n m) (rg n m) a (List.range (qK n m).length)=none:=by
  have K:=y5z (prs n) (qK n m) (rg n m) (rR n) (fun x hx e h=>by
   have hx':x<(rg n m).length:=by simp[rg];exact hx
   have hm:(rg n m).getD x []∈rg n m:=by rw[Xk,Xm hx'];exact X3 _
   have:=XJ.mp (XJ.mp he _ hm) e h;simpa using this)
  rw[hL] at K;rw[h1,h2] at K;refine none_of K a _ _ (RM _) (fun x hx=>XT.mp hx) ?_ (by rw[hL];exact h3);intro e;have:=congrArg List.length e;rw[Yw,hL] at this;simp at this;omega
 intro b hb;have step:∀k,∀b,b+k=a->qV (prs n) (qK n m) (rg n m) b (List.range (qK n m).length)=none:=by
  intro k;induction k with
  |zero=>
   intro b e;have:b=a:=by omega
   subst this;exact top
  |succ k ih=>
   intro b e;exact Na _ _ (ih (b+1) (by omega))
 exact step (a - b) b (by omega)
def wfB(ps:List (Nat×Nat)):Tr->Bool
 | .e _=>true
 | .ask i j a b=>decide ((i,j)∈ps)&&(wfB ps a&&wfB ps b)
theorem Ez{ps:List (Nat×Nat)}:∀{t:Tr},wfB ps t=true->wf ps t
 | .e _,_=>trivial
 | .ask i j a b,h=>by
  simp only[wfB,XE,X4] at h;exact⟨h.1,Ez h.2.1,Ez h.2.2⟩
def um(n m N:Nat)(t:Tr):Bool:=wfB (prs n) t&&(decide (dep t<=N)&&((List.range (qK n m).length).all fun x=>decide (rA ((qK n m).getD x []) t∈(rg n m).getD x [])))
structure Few (n m N:Nat):Prop where
 pos:0<(qK n m).length
 yes:∃t,qV (prs n) (qK n m) (rg n m) N (List.range (qK n m).length)=some t
 no:∀a,a<N->qV (prs n) (qK n m) (rg n m) a (List.range (qK n m).length)=none
def D0{n m:Nat}(h:0<(qK n m).length):List.range (qK n m).length≠[]:=fun e=>by
 have:=congrArg List.length e;rw[Yw] at this;simp at this;rw[this] at h;exact absurd h (by decide)
def uG{n m N:Nat}(hp:0<(qK n m).length)(t:Tr)(h:um n m N t=true):∃t,qV (prs n) (qK n m) (rg n m) N (List.range (qK n m).length)=some t:=by
 simp only[um,XE,X4] at h;obtain⟨h1,h2,h3⟩:=h;cases ht:qV (prs n) (qK n m) (rg n m) N (List.range (qK n m).length) with
 |some t=>exact⟨t,rfl⟩
 |none=>
  obtain⟨x,hx,q⟩:=L4 N _ (D0 hp) ht t (Ez h1) h2;have:=XJ.mp h3 x hx;exact absurd (by simpa using this) q
def Few.tr{n m N:Nat}(F:Few n m N){t:Tr}(h:qV (prs n) (qK n m) (rg n m) N (List.range (qK n m).length)=some t):wf (prs n) t/\dep t=N/\∀s∈qK n m,rA s t∈hE s:=by
 obtain⟨h1,h2,h3⟩:=VO N _ _ h;refine⟨h1,?_,fun s hs=>?_⟩
 ·refine XZ fun hne=>?_;obtain⟨x,hx,q⟩:=L4 (dep t) _ (D0 F.pos) (F.no (dep t) (by omega)) t h1 (Xh _);exact q (h3 x hx)
 ·obtain⟨x,hx,rfl⟩:=List.getElem_of_mem hs;have:=h3 x (XT.mpr hx);have e1:(qK n m).getD x []=(qK n m)[x]:=by simp[Xk,hx]
  have e2:(rg n m).getD x []=hE (qK n m)[x]:=by simp[rg,Xk,hx]
  rw[e1,e2] at this;exact this
def MP:(qK 1 1).length=1:=by decide +kernel
def IB:Tr:=.e (some 0)
def NJ:um 1 1 0 IB=true:=by decide +kernel
def zxf:Few 1 1 0:=⟨by rw[MP];decide,uG (by rw[MP];decide) IB NJ,fun a ha=>absurd ha (Nat.not_lt_zero _)⟩
def Dd:(qK 2 2).length=2:=by decide +kernel
def IR:Tr:=.ask 0 1 (.e (some 0)) (.e none)
def OZ:um 2 2 1 IR=true:=by decide +kernel
def y72:((rg 2 2).all fun l=>l.all fun e=>decide (e∈rR 2))=true:=by decide +kernel
def Ot:pmO (prs 2) (qK 2 2)=[(1,2)]:=by decide +kernel
def Tf:emO (rR 2) (rg 2 2) 2=[2,1,1]:=by decide +kernel
def UU:tR [(1,2)] [2,1,1] 0 (2^2 - 1)=true:=by decide +kernel
def Kv:Few 2 2 1:=⟨by rw[Dd];decide,uG (by rw[Dd];decide) IR OZ,fun a ha=>vW Dd (by decide) y72 Ot Tf UU a (by omega)⟩
def Fn:(qK 3 3).length=5:=by decide +kernel
def Mb:Tr:=.ask 0 1 (.e (some 0)) (.ask 0 2 (.e (some 0)) (.ask 1 2 (.e (some 1)) (.e none)))
def RP:um 3 3 3 Mb=true:=by decide +kernel
def U3:((rg 3 3).all fun l=>l.all fun e=>decide (e∈rR 3))=true:=by decide +kernel
def R4:pmO (prs 3) (qK 3 3)=[(3,28),(5,26),(9,22)]:=by decide +kernel
def Oy:emO (rR 3) (rg 3 3) 5=[16,7,11,13]:=by decide +kernel
def y5w:tR [(3,28),(5,26),(9,22)] [16,7,11,13] 2 (2^5 - 1)=true:=by decide +kernel
def Sj:Few 3 3 3:=⟨by rw[Fn];decide,uG (by rw[Fn];decide) Mb RP,fun a ha=>vW Fn (by decide) U3 R4 Oy y5w a (by omega)⟩
def EO:(qK 4 4).length=15:=by decide +kernel
def JC:Tr:=.ask 0 1 (.ask 0 2 (.e (some 0)) (.ask 0 3 (.e (some 0)) (.e none))) (.ask 0 2 (.ask 0 3 (.e (some 0)) (.e none)) (.ask 1 2 (.ask 1 3 (.e (some 1)) (.e none)) (.e none)))
def ND:um 4 4 4 JC=true:=by decide +kernel
def Pe:((rg 4 4).all fun l=>l.all fun e=>decide (e∈rR 4))=true:=by decide +kernel
def Qk:pmO (prs 4) (qK 4 4)=[(31,32736),(227,32540),(2341,30426),(1795,30972),(4677,28090),(8745,24022)]:=by decide +kernel
def N4:emO (rR 4) (rg 4 4) 15=[32216,39,519,547,549]:=by decide +kernel
def y5u:tR [(31,32736),(227,32540),(2341,30426),(1795,30972),(4677,28090),(8745,24022)] [32216,39,519,547,549] 3 (2^15 - 1)=true:=by decide +kernel
def Rh:Few 4 4 4:=⟨by rw[EO];decide,uG (by rw[EO];decide) JC ND,fun a ha=>vW EO (by decide) Pe Qk N4 y5u a (by omega)⟩
def DB:(qK 5 5).length=52:=by decide +kernel
def MV:Tr:=.ask 0 1 (.ask 0 2 (.e (some 0)) (.ask 0 3 (.e (some 0)) (.ask 0 4 (.e (some 0)) (.ask 2 3 (.ask 2 4 (.e (some 2)) (.e none)) (.e none))))) (.ask 0 2 (.ask 0 3 (.e (some 0)) (.ask 0 4 (.e (some 0)) (.ask 1 3 (.ask 1 4 (.e (some 1)) (.e none)) (.e none)))) (.ask 1 3 (.ask 0 4 (.ask 1 2 (.e (some 1)) (.e none)) (.ask 1 2 (.e (some 1)) (.ask 1 4 (.e (some 1)) (.e none)))) (.ask 2 4 (.ask 1 2 (.e (some 1)) (.ask 2 3 (.e (some 2)) (.e none))) (.ask 0 3 (.ask 0 4 (.e (some 0)) (.e none)) (.e none)))))
def QA:um 5 5 6 MV=true:=by decide +kernel
def y6w:((rg 5 5).all fun l=>l.all fun e=>decide (e∈rR 5))=true:=by decide +kernel
def Pg:pmO (prs 5) (qK 5 5)=[(32767,4503599627337728),(33521695,4503599593848800),(515631186147,4503083996184348),(150120148797733,4353479478572762),(34326183967,4503565301186528),(8248218091747,4495351409278748),(300240297593125,4203359329777370),(131943274612483,4371656352758012),(600475689062981,3903123938307514),(1162227319611945,3341372307758550)]:=by decide +kernel
def O6:emO (rR 5) (rg 5 5) 52=[4467275106120704,34395884031,1105753278975,35190615802399,36320156812003,36323178875685]:=by decide +kernel
def Qf:tR [(32767,4503599627337728),(33521695,4503599593848800),(515631186147,4503083996184348),(150120148797733,4353479478572762),(34326183967,4503565301186528),(8248218091747,4495351409278748),(300240297593125,4203359329777370),(131943274612483,4371656352758012),(600475689062981,3903123938307514),(1162227319611945,3341372307758550)] [4467275106120704,34395884031,1105753278975,35190615802399,36320156812003,36323178875685] 5 (2^52 - 1)=true:=by decide +kernel
def Sy:Few 5 5 6:=⟨by rw[DB];decide,uG (by rw[DB];decide) MV QA,fun a ha=>vW DB (by decide) y6w Pg O6 Qf a (by omega)⟩
def LC:(qK 1 2).length=1:=by decide +kernel
def Io:Tr:=.e (some 0)
def N0:um 1 2 0 Io=true:=by decide +kernel
def WZ:Few 1 2 0:=⟨by rw[LC];decide,uG (by rw[LC];decide) Io N0,fun a ha=>absurd ha (Nat.not_lt_zero _)⟩
def CO:(qK 3 2).length=4:=by decide +kernel
def Nk:Tr:=.ask 0 1 (.e (some 0)) (.e (some 2))
def Ux:um 3 2 1 Nk=true:=by decide +kernel
def U1:((rg 3 2).all fun l=>l.all fun e=>decide (e∈rR 3))=true:=by decide +kernel
def UG:pmO (prs 3) (qK 3 2)=[(3,12),(5,10),(9,6)]:=by decide +kernel
def y69:emO (rR 3) (rg 3 2) 4=[0,7,11,13]:=by decide +kernel
def N9:tR [(3,12),(5,10),(9,6)] [0,7,11,13] 0 (2^4 - 1)=true:=by decide +kernel
def TL:Few 3 2 1:=⟨by rw[CO];decide,uG (by rw[CO];decide) Nk Ux,fun a ha=>vW CO (by decide) U1 UG y69 N9 a (by omega)⟩
def DD:(qK 4 2).length=8:=by decide +kernel
def JY:Tr:=.ask 0 1 (.ask 0 2 (.e (some 0)) (.ask 0 3 (.e (some 0)) (.e none))) (.ask 0 2 (.ask 0 3 (.e (some 0)) (.e none)) (.ask 0 3 (.e none) (.e (some 1))))
def NB:um 4 2 3 JY=true:=by decide +kernel
def Vp:((rg 4 2).all fun l=>l.all fun e=>decide (e∈rR 4))=true:=by decide +kernel
def N3:pmO (prs 4) (qK 4 2)=[(15,240),(51,204),(85,170),(195,60),(165,90),(153,102)]:=by decide +kernel
def Tu:emO (rR 4) (rg 4 2) 8=[104,23,135,147,149]:=by decide +kernel
def VU:tR [(15,240),(51,204),(85,170),(195,60),(165,90),(153,102)] [104,23,135,147,149] 2 (2^8 - 1)=true:=by decide +kernel
def Uz:Few 4 2 3:=⟨by rw[DD];decide,uG (by rw[DD];decide) JY NB,fun a ha=>vW DD (by decide) Vp N3 Tu VU a (by omega)⟩
def ED:(qK 5 2).length=16:=by decide +kernel
def M7:Tr:=.ask 0 1 (.ask 0 2 (.e (some 0)) (.ask 0 3 (.e (some 0)) (.e (some 4)))) (.ask 0 2 (.ask 0 3 (.e (some 0)) (.e (some 4))) (.ask 0 3 (.e (some 4)) (.e (some 1))))
def y44:um 5 2 3 M7=true:=by decide +kernel
def V2:((rg 5 2).all fun l=>l.all fun e=>decide (e∈rR 5))=true:=by decide +kernel
def PD:pmO (prs 5) (qK 5 2)=[(255,65280),(3855,61680),(13107,52428),(21845,43690),(61455,4080),(52275,13260),(43605,21930),(50115,15420),(42405,23130),(39321,26214)]:=by decide +kernel
def T3:emO (rR 5) (rg 5 2) 16=[0,6015,59519,59279,56243,48597]:=by decide +kernel
def Vm:tR [(255,65280),(3855,61680),(13107,52428),(21845,43690),(61455,4080),(52275,13260),(43605,21930),(50115,15420),(42405,23130),(39321,26214)] [0,6015,59519,59279,56243,48597] 2 (2^16 - 1)=true:=by decide +kernel
def UQ:Few 5 2 3:=⟨by rw[ED];decide,uG (by rw[ED];decide) M7 y44,fun a ha=>vW ED (by decide) V2 PD T3 Vm a (by omega)⟩
def Et:(qK 6 2).length=32:=by decide +kernel
def G8:Tr:=.ask 0 1 (.ask 2 3 (.ask 0 2 (.e (some 0)) (.ask 4 5 (.e (some 4)) (.e none))) (.ask 0 4 (.e (some 0)) (.ask 0 5 (.e (some 0)) (.e none)))) (.ask 2 3 (.ask 2 4 (.e (some 2)) (.ask 2 5 (.e (some 2)) (.e none))) (.ask 0 2 (.ask 4 5 (.e (some 4)) (.e none)) (.ask 4 5 (.e (some 4)) (.e none))))
def Ov:um 6 2 4 G8=true:=by decide +kernel
def Ve:((rg 6 2).all fun l=>l.all fun e=>decide (e∈rR 6))=true:=by decide +kernel
def WU:pmO (prs 6) (qK 6 2)=[(65535,4294901760),(16711935,4278255360),(252645135,4042322160),(858993459,3435973836),(1431655765,2863311530),(4278190335,16776960),(4042264335,252702960),(3435934515,859032780),(2863289685,1431677610),(4027576335,267390960),(3425946675,869020620),(2857740885,1437226410),(3284386755,1010580540),(2779096485,1515870810),(2576980377,1717986918)]:=by decide +kernel
def NI:emO (rR 6) (rg 6 2) 32=[375941248,18290559,3900708735,3893854335,3783755535,3381891891,2845152597]:=by decide +kernel
def SF:tR [(65535,4294901760),(16711935,4278255360),(252645135,4042322160),(858993459,3435973836),(1431655765,2863311530),(4278190335,16776960),(4042264335,252702960),(3435934515,859032780),(2863289685,1431677610),(4027576335,267390960),(3425946675,869020620),(2857740885,1437226410),(3284386755,1010580540),(2779096485,1515870810),(2576980377,1717986918)] [375941248,18290559,3900708735,3893854335,3783755535,3381891891,2845152597] 3 (2^32 - 1)=true:=by decide +kernel
def TB:Few 6 2 4:=⟨by rw[Et];decide,uG (by rw[Et];decide) G8 Ov,fun a ha=>vW Et (by decide) Ve WU NI SF a (by omega)⟩
def Ek:(qK 7 2).length=64:=by decide +kernel
def JQ:Tr:=.ask 0 1 (.ask 2 3 (.ask 0 2 (.e (some 0)) (.ask 4 5 (.e (some 4)) (.e (some 6)))) (.ask 0 4 (.e (some 0)) (.ask 0 5 (.e (some 0)) (.e (some 6))))) (.ask 2 3 (.ask 2 4 (.e (some 2)) (.ask 2 5 (.e (some 2)) (.e (some 6)))) (.ask 0 2 (.ask 4 5 (.e (some 4)) (.e (some 6))) (.ask 4 5 (.e (some 4)) (.e (some 6)))))
def Wg:um 7 2 4 JQ=true:=by decide +kernel
def S3:((rg 7 2).all fun l=>l.all fun e=>decide (e∈rR 7))=true:=by decide +kernel
def QW:pmO (prs 7) (qK 7 2)=[(4294967295,18446744069414584320),(281470681808895,18446462603027742720),(71777214294589695,18374966859414961920),(1085102592571150095,17361641481138401520),(3689348814741910323,14757395258967641292),(6148914691236517205,12297829382473034410),(18446462598732906495,281474976645120),(18374966855153418495,71777218556133120),(17361641477348724495,1085102596360827120),(14757395256390660915,3689348817318890700),(12297829381041378645,6148914692668172970),(18374687579166474495,72056494543077120),(17361393124654452495,1085350949055099120),(14757226376558555955,3689517697150995660),(12297735558912431445,6149008514797120170),(17298308644996116495,1148435428713435120),(14714328930390887475,3732415143318664140),(12273903644374837845,6172840429334713770),(14106333703424951235,4340410370284600380),(11936128518282651045,6510615555426900570),(11068046444225730969,7378697629483820646)]:=by decide +kernel
def y62:emO (rR 7) (rg 7 2) 64=[0,78557353124790271,18368186717078257663,18367956918359588863,18309358446157201663,17431155488012078863,14833691363206476595,12375256076794582357]:=by decide +kernel
def Pu:tR [(4294967295,18446744069414584320),(281470681808895,18446462603027742720),(71777214294589695,18374966859414961920),(1085102592571150095,17361641481138401520),(3689348814741910323,14757395258967641292),(6148914691236517205,12297829382473034410),(18446462598732906495,281474976645120),(18374966855153418495,71777218556133120),(17361641477348724495,1085102596360827120),(14757395256390660915,3689348817318890700),(12297829381041378645,6148914692668172970),(18374687579166474495,72056494543077120),(17361393124654452495,1085350949055099120),(14757226376558555955,3689517697150995660),(12297735558912431445,6149008514797120170),(17298308644996116495,1148435428713435120),(14714328930390887475,3732415143318664140),(12273903644374837845,6172840429334713770),(14106333703424951235,4340410370284600380),(11936128518282651045,6510615555426900570),(11068046444225730969,7378697629483820646)] [0,78557353124790271,18368186717078257663,18367956918359588863,18309358446157201663,17431155488012078863,14833691363206476595,12375256076794582357] 3 (2^64 - 1)=true:=by decide +kernel
def Pb:Few 7 2 4:=⟨by rw[Ek];decide,uG (by rw[Ek];decide) JQ Wg,fun a ha=>vW Ek (by decide) S3 QW y62 Pu a (by omega)⟩
def VN:∀n<8,∀p∈prs n,p.1<n/\p.2<n:=by decide +kernel
def Pq:∀n<8,(prs n).length<=1000:=by decide +kernel
def y4p{n m:Nat}(hn:n<=7):Sp n (prs n) (qK n m) (rg n m):=by
 refine⟨by simp[rg],?_,fun s hs=>K6 hs,fun p hp=>VN n (by omega) p hp,Pq n (by omega)⟩;have:=zR hn m;simp only[qK,Xn];omega
section
variable {C CN CT:Addr} {n m:Nat} {O:M}
abbrev FM(CT:Addr):FX:=wW t7 (.int 7) CT
theorem C1{lo hi:Int}(h1:lo<=(n:Int))(h2:(n:Int)<=hi):Wp (v9 CN CT [.int (n:Int),.int lo,.int hi] O) fun r Z6=>r=.ok .non/\Z6=O:=by
 unfold v9 Ec;refine(yP rfl).mpr ?_;show Wt (rY _ _ [some (.int (n:Int)),some (.int lo),some (.int hi)] O) _;simp!;rw[Xq (by omega)];simp!;rw[Xq (by omega)];simp!;exact⟨trivial,trivial⟩
theorem Ir(hm:∀s∈qK n m,(rn s).length<=1000)(hn:n<=7):∀(l:List (List Int)) (o:Option D) (O:M),(∀s∈l,s∈qK n m)->
  ∃Z6,rE none (qA 0) qJ (vL tT (qy (be 0) qD)) (l.map dI) [o] O=some ((l.map hE).map dEl,Z6)/\Gr O Z6
 | [],o,O,_=>⟨O,rfl,.refl⟩
 |s::l,o,O,h=>by
  have hs:=h s (by simp);obtain⟨Z5,e1,g1⟩:=E6 (s:=s) (O:=O) (by rw[K6 hs];omega) (hm s hs);obtain⟨Z4,e2,g2⟩:=Ir hm hn l (some (dI s)) Z5 (fun x hx=>h x (by simp[hx]));refine⟨Z4,?_,g1.trans g2⟩;have hg:qA 0 (dI s) [o] O=some ([some (dI s)],O):=rfl;have hv:vL tT (qy (be 0) qD) [some (dI s)] O=some (dEl (hE s),Z5):=e1;rw[Xr];simp only[rE,hg,bs];show(qJ _ _).bind _=_;simp only[qJ,bs,if_true,hv,vX];rw[e2];rfl
abbrev yh(C CT:Addr):FX:=Ai tT (AY C) (FM CT)
theorem Lb{N:Nat}{t:Tr}(hn:n<=7)(hN:N<10)(hm:∀s∈qK n m,(rn s).length<=1000)(F:Few n m N)(hcs:cs (prs n).length (N+1)<=15000000)(ht:qV (prs n) (qK n m) (rg n m) N (List.range (qK n m).length)=some t):
  Wp (yh C CT [.int (n:Int),.int (m:Int)] O) fun r Z6=>r=.ok (.tup [.int (N:Int),dTr t])/\Gr O Z6:=by
 unfold yh Ai C6;refine(yP rfl).mpr ?_;show Wt (rY _ _ [some (.int (n:Int)),some (.int (m:Int)),none] O) _;simp!;have ea:FM CT [.int (n:Int),.int (m:Int)] O=some (.ok (.lst ((qK n m).map dI)),O):=by
  have:=DY (O:=O) (n:=n) (k:=(m:Int)) (C:=CT) (by omega);rw[show((m:Int)).toNat=m by omega] at this;rw[show(qK n m).map dI=(Sx n m).map dS by simp[qK,dS,Function.comp_def]];exact this
 rw[ea];simp!;rw[u9];have S:=y4p (n:=n) (m:=m) hn;refine⟨by have:=S.few;(try simp);omega,?_⟩;obtain⟨Z5,e1,g1⟩:=Ir hm hn (qK n m) none O fun s hs=>hs;refine x5 e1 ?_;simp!;have hne:qK n m≠[]:=List.ne_nil_of_length_pos F.pos;refine(QI (C:=C) (O:=Z5) (by omega) S hne hN ht F.no hcs).imp ?_;rintro _ Z4 ⟨rfl,g2⟩;simp!;exact⟨trivial,g1.trans g2⟩
end
inductive Tz where
 |no|one (i:Int)|ask (i j:Int) (a b:Tz)
def kd(s:List Int)(i:Int):Int:=s.getD i.toNat 0
def led(s:List Int):Tz->Option Int
 | .no=>none
 | .one i=>some i
 | .ask i j a b=>if kd s i=kd s j then led s a else led s b
def dpz:Tz->Nat
 | .ask _ _ a b=>max (dpz a) (dpz b)+1
 |_=>0
def inr(n:Nat)(i:Int):Prop:=0<=i/\i<(n:Int)
def nmz(n:Nat):Tz->Prop
 | .no=>True
 | .one i=>inr n i
 | .ask i j a b=>(i≠j/\inr n i/\inr n j)/\nmz n a/\nmz n b
def so4:PyData.strOk "ask"=true:=by decide +kernel
def JZ:("none":Str)≠"ask":=by decide +kernel
def Jj:("one":Str)≠"ask":=by decide +kernel
def Ue:("one":Str)≠"none":=by decide +kernel
section
variable {O:M}
theorem C7:fEq (.str "ask") (.str "ask") O=some (.bl true,O):=by simp[so4]
theorem Dr:fEq (.str "none") (.str "ask") O=some (.bl false,O):=by simp[so4,so2,JZ]
theorem EZ:fEq (.str "one") (.str "ask") O=some (.bl false,O):=by simp[so4,so1,Jj]
theorem V8:fNe (.str "ask") (.str "ask") O=some (.bl false,O):=by simp[so4]
theorem T7:fNe (.str "none") (.str "ask") O=some (.bl true,O):=by simp[so4,so2,JZ]
theorem y5n:fNe (.str "one") (.str "ask") O=some (.bl true,O):=by simp[so4,so1,Jj]
theorem RC:fEq (.str "none") (.str "none") O=some (.bl true,O):=by simp[so2]
theorem y6s:fEq (.str "one") (.str "none") O=some (.bl false,O):=by simp[so2,so1,Ue]
theorem rW{ds:List D}{j:Nat}{v:D}(h:ds[j]?=some v):fIx (.tup ds) (.int (j:Int)) O=some (v,O):=by rw[O7,u4 h];rfl
theorem sl_tup{ds:List D}{lo hi:Option Int}(h:¬(HT.sIx ds.length 0 lo=0/\HT.sIx ds.length ds.length hi=ds.length)):fSl (.tup ds) lo hi O=some (.tup (vV ds lo hi),O):=by
 rw[Ri,if_neg h]
theorem CY{s:List Int}{i:Nat}(h:i<s.length):fIx (.lst (s.map D.int)) (.int (i:Int)) O=some (.int (s.getD i 0),O):=Go (by simp[h,Xk])
theorem HR{s:List Int}{i:Int}{n:Nat}(hs:s.length=n)(h:inr n i):fIx (.lst (s.map D.int)) (.int i) O=some (.int (kd s i),O):=by
 have:=CY (O:=O) (s:=s) (i:=i.toNat) (by have:=h.1;have:=h.2;omega);rw[Int.toNat_of_nonneg h.1] at this;exact this
theorem T0{f g:D->D->M->Fr}{ea eb ec:EV}{B:G}{R:D->M->Prop}(h:Wp (ea B O) fun x O=>Wp (eb B O) fun y O=>Wp (f x y O) fun b O=>(b=.bl true/\Wp (ec B O) fun z O=>Wp (g y z O) R)\/(b=.bl false/\R (.bl false) O)):Wp (tY f g ea eb ec B O) R:=by
 refine wp_bind.mpr (h.imp fun x O h=>wp_bind.mpr (h.imp fun y O h=>wp_bind.mpr (h.imp fun b O h=>?_)));rcases h with⟨rfl,h⟩|⟨rfl,h⟩
 ·exact wp_bind.mpr h
 ·exact wp_some.mpr h
theorem Hg{RB:Bool->M->Prop}{ds:List D}:qTr RB (.lst ds) O↔RB (!ds.isEmpty) O:=⟨fun⟨_,e,q⟩=>by cases e;exact q,fun q=>⟨_,rfl,q⟩⟩
end
def dZ:Tz->D
 | .no=>.tup [.str "none"]
 | .one i=>.tup [.str "one",.int i]
 | .ask i j a b=>.tup [.str "ask",.int i,.int j,dZ a,dZ b]
def pZ:Tz->PyData
 | .no=>.tuple [.str "none"]
 | .one i=>.tuple [.str "one",.int i]
 | .ask i j a b=>.tuple [.str "ask",.int i,.int j,pZ a,pZ b]
theorem AN(O:M):∀(t:Tz) (n:Nat),dpz t+2<=n->py n O (dZ t)=some (pZ t)
 | .no,n+2,_=>rfl
 | .one i,n+2,_=>rfl
 | .ask i j a u,n+3,h=>by
  simp only[dpz] at h;have ha:=AN O a (n+2) (by omega);have hu:=AN O u (n+2) (by omega);show(rD (py (n+2) O) [.str "ask",.int i,.int j,dZ a,dZ u]).bind _=_;simp only[rD,ha,hu,Tk,O2,bs,pZ]
 | .no,0,h=>by simp at h
 | .no,1,h=>by simp at h
 | .one _,0,h=>by simp at h
 | .one _,1,h=>by simp at h
 | .ask _ _ _ _,0,h=>by simp at h
 | .ask _ _ _ _,1,h=>by simp at h
 | .ask _ _ _ _,2,h=>by simp[dpz] at h
theorem Ci:∀t:Tz,(pZ t).canLay0=true
 | .no=>by simp[pZ,PyData.canLay0,PyData.canLayAll0,so2]
 | .one _=>by simp[pZ,PyData.canLay0,PyData.canLayAll0,so1]
 | .ask i j a u=>by simp[pZ,PyData.canLay0,PyData.canLayAll0,Ci a,Ci u,so4]
theorem Em:∀t:Tz,(pZ t).depth<=dpz t+1
 | .no=>by simp[pZ,PyData.depth,PyData.depthAll]
 | .one i=>by simp[pZ,PyData.depth,PyData.depthAll]
 | .ask i j a u=>by
  have ha:=Em a;have hu:=Em u;simp only[pZ,PyData.depth,PyData.depthAll,dpz];omega
theorem D6:∀t u:Tz,PyData.eqv (pZ t) (pZ u)=true↔t=u
 | .no,.no=>by simp[pZ,PyData.eqv,PyData.eqvAll]
 | .no,.one _=>by simp[pZ,PyData.eqv,PyData.eqvAll]
 | .no,.ask _ _ _ _=>by simp[pZ,PyData.eqv,PyData.eqvAll]
 | .one _,.no=>by simp[pZ,PyData.eqv,PyData.eqvAll]
 | .one _,.one _=>by simp[pZ,PyData.eqv,PyData.eqvAll]
 | .one _,.ask _ _ _ _=>by simp[pZ,PyData.eqv,PyData.eqvAll]
 | .ask _ _ _ _,.no=>by simp[pZ,PyData.eqv,PyData.eqvAll]
 | .ask _ _ _ _,.one _=>by simp[pZ,PyData.eqv,PyData.eqvAll]
 | .ask i j a b,.ask i' j' a' b'=>by
  have ha:=D6 a a';have hb:=D6 b b';simp only[pZ,PyData.eqv,PyData.eqvAll,XE,ha,hb];simp
open Classical in
def y8w{t u:Tz}{O:M}(ht:dpz t<=40)(hu:dpz u<=40):eqD (dZ t) (dZ u) O=some (decide (t=u)):=by
 have e:eqD (dZ t) (dZ u) O=(py 65 O (dZ t)).bind fun d=>(py 65 O (dZ u)).bind fun e=>if(d.canLay0&&e.canLay0&&decide (d.depth<=64))=true then some (PyData.eqv d e) else none:=by
  cases t<;>cases u<;>rfl
 have hd:=Em t;rw[e,AN O t 65 (by omega),AN O u 65 (by omega)];simp only[bs,Ci];rw[if_pos (by simp;omega)];congr 1;rw[Yg,D6,X4]
open Classical in
def SU{t u:Tz}{O:M}(ht:dpz t<=40)(hu:dpz u<=40):fEq (dZ t) (dZ u) O=some (.bl (decide (t=u)),O):=by
 unfold fEq;rw[y8w ht hu];rfl
section
variable {O:M} {i j:Int} {a b:Tz}
theorem z0:fIx (dZ (.ask i j a b)) (.int 0) O=some (.str "ask",O):=rW (j:=0) rfl
theorem z1:fIx (dZ (.ask i j a b)) (.int 1) O=some (.int i,O):=rW (j:=1) rfl
theorem z2:fIx (dZ (.ask i j a b)) (.int 2) O=some (.int j,O):=rW (j:=2) rfl
theorem z3:fIx (dZ (.ask i j a b)) (.int 3) O=some (dZ a,O):=rW (j:=3) rfl
theorem C4:fIx (dZ .no) (.int 0) O=some (.str "none",O):=rW (j:=0) rfl
theorem CK:fIx (dZ (.one i)) (.int 0) O=some (.str "one",O):=rW (j:=0) rfl
end
theorem AT{c:BV}{sb:SV}{B:G}{O:M}{Q:Out->G->M->Prop}(I:Nat->G->M->Prop)(m N:Nat)(h0:I m B O)(hN:m<N)
  (hs:∀m B O,I m B O->Wp (c B O) fun b Z5=>if b=true then Ws (sb B Z5) fun o ZW Z4=>match o with
   | .nx=>∃m',m'<m/\I m' ZW Z4
   | .ct=>∃m',m'<m/\I m' ZW Z4
   | .bk=>Q .nx ZW Z4
   | .rt d=>Q (.rt d) ZW Z4 else Q .nx B Z5):Ws (uF c sb N B O) Q:=by
 induction N generalizing B O m with
 |zero=>omega
 |succ N ih=>
  refine ws_bind.mpr ((hs m B O h0).imp fun b Z5 h=>?_);cases b with
  |false=>exact ws_some.mpr h
  |true=>
   refine wss_bind.mpr (Ws.imp h fun o ZW Z4 h=>?_);cases o with
   |nx=>obtain⟨m',h1,h2⟩:=h;exact ih (B:=ZW) (O:=Z4) m' h2 (by omega)
   |ct=>obtain⟨m',h1,h2⟩:=h;exact ih (B:=ZW) (O:=Z4) m' h2 (by omega)
   |bk=>exact ws_some.mpr h
   |rt d=>exact ws_some.mpr h
section
variable {n m:Nat} {O:M}
def sX:Tz->List Int
 | .no=>[]
 | .one i=>[i]
 | .ask i j _ _=>[i,j]
theorem Vu(t:Tz):fSl (dZ t) (some 1) (some 3) O=some (.tup ((sX t).map D.int),O):=by
 cases t<;>rfl
theorem RA{i j:Int}{a b:Tz}:fSl (dZ (.ask i j a b)) (some 3) none O=some (.tup [dZ a,dZ b],O):=by rfl
theorem OM{i j:Int}{a b:Tz}:fSl (dZ (.ask i j a b)) (some 1) none O=some (.tup [.int i,.int j,dZ a,dZ b],O):=by rfl
def inB(n:Nat)(i:Int):Bool:=decide (0<=i)&&decide (i<(n:Int))
def nmB(n:Nat):Tz->Bool
 | .ask i j _ _=>!decide (i=j)&&[i,j].all (inB n)
 |t=>(sX t).all (inB n)
theorem TH(t:Tz):Wp (yp [.int (n:Int),dZ t] O) fun d Z6=>d=.bl (nmB n t)/\Z6=O:=by
 unfold yp Ei;refine(tj rfl).mpr ?_;show Ws (qE _ _ [some (.int (n:Int)),some (dZ t),none] O) _;simp![Vu];have hl:(sX t).length<=2:=by cases t<;>simp[sX]
 have key:∀{R:D->M->Prop},R (.lst (((sX t).map (inB n)).map D.bl)) O->qCo ["thing"] [("many",0)] (qA 0) qJ (tY fLe fLt (vC (.int 0)) (be 0) (be 1)) [some (.int (n:Int)),some (dZ t),some (.tup ((sX t).map D.int))] R ((sX t).map D.int,none) O:=by
  intro R hR;rw[u9];refine⟨by simp;omega,?_⟩;refine xy (dn:=D.int) (fun B=>∃o,B=[o,some (.int (n:Int))]) (c:=none) trivial (sX t) ⟨_,rfl⟩ (keep:=fun _=>true) (val:=fun i=>D.bl (inB n i)) ?_ ?_
  ·rintro i hi B ⟨o,rfl⟩;simp!;refine⟨trivial,⟨_,rfl⟩,trivial,trivial,fun _=>?_⟩;refine T0 ?_;simp!;unfold inB;cases h:decide (0<=i) with
   |true=>refine .inl ⟨rfl,?_⟩;simp
   |false=>exact .inr ⟨rfl,by simp⟩
  ·rw[List.filter_eq_self.mpr (by simp)];rw[XO] at hR;exact hR
 cases t with
 |no=>
  simp![C4,Dr];refine key ?_;simp![xR];exact⟨rfl,trivial⟩
 |one i=>
  simp![CK,EZ];refine key ?_;simp![xR];refine⟨?_,trivial⟩;simp[nmB,sX]
 |ask i j a b=>
  have e0:fIx (.tup ((sX (.ask i j a b)).map D.int)) (.int 0) O=some (.int i,O):=rW (j:=0) rfl;have e1:fIx (.tup ((sX (.ask i j a b)).map D.int)) (.int 1) O=some (.int j,O):=rW (j:=1) rfl;simp![z0,C7,e0,e1];by_cases h:i=j
  ·rw[Xx h];simp!;exact⟨by simp[nmB,h],trivial⟩
  ·rw[Xq h];simp!;refine key ?_;simp![xR];refine⟨?_,trivial⟩;simp[nmB,sX,h]
open Classical in
def brn:Tz->List Tz
 | .ask _ _ a b=>if a=b then [a] else [a,b]
 |_=>[]
theorem MH(t:Tz):(brn t).length<=2:=by
 cases t<;>simp only[brn]<;>try split
 all_goals simp
open Classical in
theorem Cf{t:Tz}(h:dpz t<=40):Wp (ut [dZ t] O) fun d Z6=>d=.lst ((brn t).map dZ)/\Z6=O:=by
 unfold ut Cz;refine(tj rfl).mpr ?_;show Ws (qE _ _ [some (dZ t),none,none] O) _;cases t with
 |no=>
  simp![C4,T7];rw[uV (by simp)];simp!;exact⟨rfl,trivial⟩
 |one i=>
  simp![CK,y5n];rw[uV (by simp)];simp!;exact⟨rfl,trivial⟩
 |ask i j a b=>
  simp only[dpz] at h;simp![z0,V8,RA];rw[wJ (n:=2) rfl];simp!;rw[SU (by omega) (by omega)];simp!;by_cases e:a=b
  ·rw[Xx e];simp!;rw[uV (by simp)];simp!;exact⟨by simp only[brn,if_pos e];rfl,trivial⟩
  ·rw[Xq e];simp!;rw[uV (by simp)];simp!;exact⟨by simp only[brn,if_neg e];rfl,trivial⟩
theorem MF{i:Int}:inB n i=true↔inr n i:=by unfold inB inr;simp
theorem CW(t:Tz):nmz n t↔nmB n t=true/\∀u∈brn t,nmz n u:=by
 cases t with
 |no=>simp[nmz,nmB,sX,brn]
 |one i=>simp[nmz,nmB,sX,brn,MF]
 |ask i j a b=>
  have hb:(∀u∈brn (.ask i j a b),nmz n u)↔nmz n a/\nmz n b:=by
   simp only[brn];split
   ·rename_i e;subst e;simp
   ·simp
  rw[hb];simp[nmz,nmB,MF,and_assoc]
abbrev AH:C0:=BQ yp ut
theorem Rc{t u:Tz}{k:Nat}(h:dpz t<k)(hu:u∈brn t):dpz u<k - 1:=by
 cases t with
 |no=>cases hu
 |one i=>cases hu
 |ask i j a b=>
  simp only[dpz] at h;have:u=a\/u=b:=by
   simp only[brn] at hu;split at hu
   ·simp at hu;exact .inl hu
   ·simpa using hu
  rcases this with rfl|rfl<;>omega
theorem Bp(L:List Tz):(L.flatMap brn).length<=2*L.length:=by
 induction L with
 |nil=>simp
 |cons t L ih=>have:=MH t;simp only[List.flatMap_cons,XH,XM];omega
open Classical in
theorem RK{t:Tz}(h:dpz t<=18):Wp (AH [.int (n:Int),dZ t] O) fun d Z6=>d=.bl (decide (nmz n t))/\Z6=O:=by
 unfold AH BQ D3;refine(tj rfl).mpr ?_;show Ws (qE _ _ [some (.int (n:Int)),some (dZ t),none] O) _;simp!;rw[uV (by simp)];simp!;refine AT (fun k B Z6=>Z6=O/\∃L:List Tz,B=[some (.int (n:Int)),some (dZ t),some (.lst (L.map dZ))]/\(nmz n t↔∀u∈L,nmz n u)/\(∀u∈L,dpz u<k)/\L.length*2^k<=524288/\k<=19) (dpz t+1) 1000000 ⟨rfl,[t],rfl,by simp,by simp,?_,by omega⟩ (by omega) ?_
 ·have:2^(dpz t+1)<=2^19:=Nat.pow_le_pow_right (by decide) (by omega);simp only[X9];omega
 rintro k B Z6 ⟨rfl,L,rfl,hL,hd,hk,hk2⟩;have hp:1<=2^k:=Nat.one_le_two_pow;have hLl:L.length<=524288:=XL (Nat.le_mul_of_pos_right _ hp) hk;simp![Hg];cases L with
 |nil=>
  simp![List.map_nil,List.isEmpty_nil,XG,XB,if_false];exact⟨by rw[Xx (hL.mpr (by simp))],trivial⟩
 |cons u0 L0=>
  generalize hLe:u0::L0=L at*;have he:(L.map dZ).isEmpty=false:=by rw[←hLe];rfl
  have h0:0<k:=by have:=hd u0 (by rw[←hLe];simp);omega
  simp![he,Yi,if_true,u9];refine⟨by simp;omega,?_⟩;refine xy (dn:=dZ) (fun B=>∃o,B=[o,some (.int (n:Int))]) (c:=none) trivial L ⟨_,rfl⟩ (keep:=fun _=>true) (val:=fun u=>D.bl (nmB n u)) ?_ ?_
  ·rintro u hu B ⟨o,rfl⟩;simp!;refine⟨trivial,⟨_,rfl⟩,trivial,trivial,fun _=>?_⟩;exact TH u
  ·have e1:(L.filter fun _=>true).map (fun u=>D.bl (nmB n u))=(L.map (nmB n)).map D.bl:=by
    rw[List.filter_eq_self.mpr (by simp),XO];rfl
   rw[e1];simp![xR];cases hall:(L.map (nmB n)).all id with
   |false=>
    simp![Yi];refine⟨?_,trivial⟩;rw[Xq];intro hz;rw[List.all_eq_false] at hall;obtain⟨b,hb,hb2⟩:=hall;obtain⟨u,hu,rfl⟩:=Xw.mp hb;exact hb2 ((CW u).mp (hL.mp hz u hu)).1
   |true=>
    simp![XG];have hall2:∀u∈L,nmB n u=true:=by
     rw[XJ] at hall;exact fun u hu=>hall _ (Xw.mpr ⟨u,hu,rfl⟩)
    have hc:=Bj (g:=qA 0) (g2:=qA 1) (iv2:=ivL (vL ut (qy (be 0) qD))) (te:=be 1) (dn:=dZ) (dm:=dZ) (inn:=brn) (val:=fun _ u=>dZ u)
     (fun B=>∃a b,B=[a,b]) (fun u B=>∃b,B=[some (dZ u),b]) (O:=Z6) (fun i B ⟨b,e⟩=>⟨_,_,e⟩) L [none,none] ⟨_,_,rfl⟩ ?_ ?_
    ·have hlen:((L.flatMap fun a=>(brn a).map fun u=>dZ u):List D).length<=1000000:=by
      rw[←List.map_flatMap,Xn];have:=Bp L;have:2*L.length<=L.length*2^k:=by
       rw[Nat.mul_comm];exact Nat.mul_le_mul_left _ (XL (by decide:2<=2^1) (Nat.pow_le_pow_right (by decide) h0))
      omega
     have hr:ivL (be 2) [some (.int (n:Int)),some (dZ t),some (.lst (L.map dZ))] Z6=some ((L.map dZ,none),Z6):=rfl;have hcap:rB (["part","branch"]:List Str) [] [some (.int (n:Int)),some (dZ t),some (.lst (L.map dZ))]=[none,none]:=rfl;have hv:uv ["part","branch"] [] (ivL (be 2)) (qA 0) qJ (ivL (vL ut (qy (be 0) qD))) (qA 1) qJ (be 1) [some (.int (n:Int)),some (dZ t),some (.lst (L.map dZ))] Z6=some (.lst ((L.flatMap brn).map dZ),Z6):=by
      rw[BY,hr,BM,hcap,hc,Bx,if_pos hlen,←List.map_flatMap]
     rw[hv];simp!;refine⟨k - 1,by omega,trivial,L.flatMap brn,rfl,?_,?_,?_,by omega⟩
     ·rw[hL];constructor
      ·intro q u hu;obtain⟨v,hv1,hv2⟩:=List.mem_flatMap.mp hu;exact((CW v).mp (q v hv1)).2 u hv2
      ·intro q u hu;exact(CW u).mpr ⟨hall2 u hu,fun v hv=>q v (List.mem_flatMap.mpr ⟨u,hu,hv⟩)⟩
     ·intro u hu;obtain⟨v,hv1,hv2⟩:=List.mem_flatMap.mp hu;exact Rc (hd v hv1) hv2
     ·have h1:=Bp L;have h2:(L.flatMap brn).length*2^(k - 1)<=2*L.length*2^(k - 1):=Nat.mul_le_mul_right _ h1;have h3:2*L.length*2^(k - 1)=L.length*2^k:=by
       have:2^k=2*2^(k - 1):=by rw[←Nat.pow_succ'];congr 1;omega
       rw[this,Nat.mul_comm 2 L.length,Nat.mul_assoc]
      omega
    ·rintro u hu B ⟨a,b,rfl⟩;refine⟨[some (dZ u),b],rfl,?_,_,rfl⟩;obtain⟨d,Z4,e,rfl,rfl⟩:=Cf (O:=Z6) (t:=u) (by have:=hd u hu;omega);have e2:vL ut (qy (be 0) qD) [some (dZ u),b] Z4=some (.lst ((brn u).map dZ),Z4):=e;unfold ivL;rw[e2];rfl
    ·rintro u hu v hv B ⟨b,rfl⟩;exact⟨[some (dZ u),some (dZ v)],rfl,rfl,_,rfl⟩
theorem Uo{t:Tz}{s:List Int}(hs:s.length=n)(hw:nmz n t)(hd:dpz t<=40):Wp (w8 [dZ t,dI s] O) fun d Z6=>d=dE (led s t)/\Z6=O:=by
 unfold w8 Fq;refine(tj rfl).mpr ?_;show Ws (qE _ _ [some (dZ t),some (.lst (s.map D.int)),none,none,none,none] O) _;rw[A1];refine AT (fun m B Z6=>Z6=O/\∃u o2 o3 o4 o5,dpz u=m/\nmz n u/\led s u=led s t/\B=[some (dZ u),some (.lst (s.map D.int)),o2,o3,o4,o5]) (dpz t) 1000000 ⟨rfl,t,_,_,_,_,rfl,hw,rfl,rfl⟩ (by omega) ?_;rintro m B Z6 ⟨rfl,u,o2,o3,o4,o5,rfl,hu,he,rfl⟩;cases u with
 |no=>
  simp![C4,Dr,XB,if_false];simp only[led] at he;exact⟨by rw[←he];rfl,trivial⟩
 |one i=>
  simp![CK,EZ,XB,if_false];simp only[led] at he;exact⟨by rw[←he];rfl,trivial⟩
 |ask i j a b=>
  obtain⟨⟨_,hi,hj⟩,w1,w2⟩:=hu;simp![z0,C7,if_true,OM];rw[wJ (n:=4) rfl];simp![HR hs hi,HR hs hj];simp only[led] at he;by_cases hq:kd s i=kd s j
  ·rw[if_pos hq] at he;rw[Xx hq];simp!;exact⟨dpz a,by simp only[dpz];omega,trivial,a,_,_,_,_,rfl,w1,he,rfl⟩
  ·rw[if_neg hq] at he;rw[Xq hq];simp!;exact⟨dpz b,by simp only[dpz];omega,trivial,b,_,_,_,_,rfl,w2,he,rfl⟩
end
theorem UM{f:D->M->Fr}{ev:EX}{B:G}{O:M}{R:Rs D->M->Prop}(h:Wp (ev B O) fun r O=>match r with
  | .ok d=>Wp (f d O) fun x O=>R (.ok x) O
  | .ex C=>R (.ex C) O):Wp (AE f ev B O) R:=by
 refine wp_bind.mpr (h.imp fun r O q=>?_);cases r with
 |ok d=>exact wp_bind.mpr (Wp.imp q fun _ _ q=>(wp_some (Q:=R)).mpr q)
 |ex C=>exact(wp_some (Q:=R)).mpr q
def srt(n:Nat):List (List Int):=(Sx n n).map (·.1)
def UY{n:Nat}{s:List Int}(h:s∈srt n):s.length=n:=Fm h
def NF{n:Nat}(hn:n<=7):(srt n).length<=877:=by unfold srt;rw[Xn];exact zR hn n
def U4{n:Nat}(hn:n<=7){s:List Int}(h:s∈srt n):(rn s).length<=1000:=by
 have:=FJ hn h;omega
def Fnd(n:Nat)(t:Tz):Prop:=nmz n t/\∀s∈srt n,led s t∈hE s
section
variable {C CN CT:Addr} {n:Nat} {O:M}
theorem UE{t:Tz}(hn:n<=7)(hw:nmz n t)(hd:dpz t<=40){R:List D->M->Prop}(hR:∀Z6,Gr O Z6->R (((srt n).map fun s=>decide (led s t∈hE s)).map D.bl) Z6):Wp (rE none (qA 0) qJ (v2 (uQ false) (vL w8 (qy (be 1) (qy (be 0) qD))) (vL tT (qy (be 0) qD))) ((srt n).map dI) [none,some (dZ t)] O) R:=by
 refine comp_inv (fun done r B Z6=>∃l1 l2,srt n=l1++l2/\r=l2.map dI/\done=(l1.map fun s=>decide (led s t∈hE s)).map D.bl/\(∃o,B=[o,some (dZ t)])/\Gr O Z6) _ ⟨[],srt n,rfl,rfl,rfl,⟨_,rfl⟩,.refl⟩ ?_ ?_
 ·rintro done d r B Z5 ⟨l1,l2,hl,e,rfl,⟨o,rfl⟩,g1⟩;cases l2 with
  |nil=>cases e
  |cons s l2=>
   cases e;have hs:s∈srt n:=by rw[hl];simp
   have hl2:=UY hs;simp!;show Wp _ _;refine(Uo (n:=n) (t:=t) (s:=s) hl2 hw hd).imp ?_;rintro _ Z4 ⟨rfl,rfl⟩;simp!;obtain⟨ZQ,e3,g3⟩:=E6 (s:=s) (O:=Z4) (by omega) (U4 hn hs);refine x5 e3 ?_;simp![FN];refine⟨trivial,l1++[s],l2,by rw[hl];simp,rfl,?_,⟨_,rfl⟩,g1.trans g3⟩;simp
 ·rintro done B Z5 ⟨l1,l2,hl,e,rfl,_,g1⟩;cases l2 with
  |cons s l2=>cases e
  |nil=>
   rw[X0] at hl;rw[←hl];exact hR Z5 g1
abbrev Dj(CN CT:Addr):FX:=AQ AH w8 tT (v9 CN CT) (FM CT) (.int 7)
abbrev fFi(CN CT:Addr):C0:=dn (Dj CN CT)
open Classical in
theorem TM{t:Tz}(hn:n<=7)(hd:dpz t<=18):Wp (fFi CN CT [.int (n:Int),dZ t] O) fun d Z6=>d=.bl (decide (Fnd n t))/\Gr O Z6:=by
 refine zQ ?_;unfold Dj AQ EY;refine(yP rfl).mpr ?_;show Wt (rY _ _ [some (.int (n:Int)),some (dZ t)] O) _;simp!;refine(C1 (n:=n) (by omega) (by omega)).imp ?_;rintro _ O ⟨rfl,rfl⟩;simp!;refine(RK (n:=n) hd).imp ?_;rintro _ O ⟨rfl,rfl⟩;by_cases hw:nmz n t
 ·rw[Xx hw];simp![XG];refine UM (Rt ?_);simp!;refine x5 (DY (O:=O) (n:=n) (k:=(n:Int)) (C:=CT) hn) ?_;have e1:(Sx n ((n:Int).toNat)).map dS=(srt n).map dI:=by
   unfold srt;rw[Int.toNat_natCast,XO];rfl
  rw[e1];have hf:=NF hn;refine⟨_,rfl,by simp;omega,?_⟩;refine UE hn hw (by omega) fun Z6 g=>?_;simp![xR];refine⟨_,rfl,?_,g⟩;congr 1;rw[Yg,List.all_map,XJ,X4];constructor
  ·intro h;exact⟨hw,fun s hs=>by have:=h s hs;simpa using this⟩
  ·intro h s hs;simpa using h.2 s hs
 ·rw[Xq hw];simp![Yi];refine⟨_,rfl,?_,.refl⟩;rw[Xq fun h=>hw h.1]
end
def dlv:List Tz->Nat
 | []=>0
 |u::L=>max (dpz u+1) (dlv L)
theorem HQ:∀(l m:List Tz),dlv (l++m)=max (dlv l) (dlv m)
 | [],m=>by simp[dlv]
 |u::l,m=>by
  rw[List.cons_append];simp only[dlv,HQ l m];omega
def IW(t:Tz):dlv (brn t)=dpz t:=by
 cases t with
 |no=>rfl
 |one i=>rfl
 |ask i j a b=>
  simp only[brn];split
  ·rename_i e;subst e;simp[dlv,dpz]
  ·simp only[dlv,dpz];omega
theorem Hb:∀L:List Tz,dlv (L.flatMap brn)=dlv L - 1
 | []=>rfl
 |u::L=>by
  rw[List.flatMap_cons,HQ,IW,Hb L];simp only[dlv];omega
def VE{L:List Tz}{u:Tz}(h:u∈L):dpz u<dlv L:=by
 induction L with
 |nil=>cases h
 |cons v L ih=>
  simp only[dlv];rcases XI.mp h with rfl|h
  ·omega
  ·have:=ih h;omega
section
variable {O:M}
abbrev zo:C0:=Aj ut
theorem Lw{t:Tz}(h:dpz t<=18):Wp (zo [dZ t] O) fun d Z6=>d=.int (dpz t:Int)/\Z6=O:=by
 unfold zo Aj DQ;refine(tj rfl).mpr ?_;show Ws (qE _ _ [some (dZ t),none,none] O) _;simp!;refine(Cf (t:=t) (by omega)).imp ?_;rintro _ O ⟨rfl,rfl⟩;simp!;have hb:=MH t;refine AT (fun k B Z6=>Z6=O/\∃(L:List Tz) (c:Nat),B=[some (dZ t),some (.int (c:Int)),some (.lst (L.map dZ))]/\dlv L=k/\c+k=dpz t/\L.length*2^k<=524288/\k<=18) (dpz t) 1000000 ⟨rfl,brn t,0,rfl,IW t,by omega,?_,h⟩ (by omega) ?_
 ·have:2^(dpz t)<=2^18:=Nat.pow_le_pow_right (by decide) h;have h2:(brn t).length*2^(dpz t)<=2*2^18:=Nat.mul_le_mul hb this;omega
 rintro k B Z6 ⟨rfl,L,c,rfl,hL,hc,hk,hk2⟩;have hp:1<=2^k:=Nat.one_le_two_pow;have hLl:L.length<=524288:=XL (Nat.le_mul_of_pos_right _ hp) hk;simp![Hg];cases L with
 |nil=>
  simp![List.map_nil,List.isEmpty_nil,XG,XB,if_false];simp only[dlv] at hL;refine⟨?_,trivial⟩;congr 1;omega
 |cons u0 L0=>
  have h0:0<k:=by rw[←hL];simp only[dlv];omega
  generalize hLe:u0::L0=L at*;have he:(L.map dZ).isEmpty=false:=by rw[←hLe];rfl
  simp![he,Yi,if_true];refine Kg (x:=(c:Int)) rfl ?_;simp!;have hc2:=Bj (g:=qA 0) (g2:=qA 1) (iv2:=ivL (vL ut (qy (be 0) qD))) (te:=be 1) (dn:=dZ) (dm:=dZ) (inn:=brn) (val:=fun _ u=>dZ u)
   (fun B=>∃a b,B=[a,b]) (fun u B=>∃b,B=[some (dZ u),b]) (O:=Z6) (fun i B ⟨b,e⟩=>⟨_,_,e⟩) L [none,none] ⟨_,_,rfl⟩ ?_ ?_
  ·have hlen:((L.flatMap fun a=>(brn a).map fun u=>dZ u):List D).length<=1000000:=by
    rw[←List.map_flatMap,Xn];have:=Bp L;have:2*L.length<=L.length*2^k:=by
     rw[Nat.mul_comm];exact Nat.mul_le_mul_left _ (XL (by decide:2<=2^1) (Nat.pow_le_pow_right (by decide) h0))
    omega
   have ec:((c:Int)+1)=((c+1:Nat):Int):=by omega
   have hr:ivL (be 2) [some (dZ t),some (.int ((c+1:Nat):Int)),some (.lst (L.map dZ))] Z6=some ((L.map dZ,none),Z6):=rfl;have hcap:rB (["part","branch"]:List Str) [] [some (dZ t),some (.int ((c+1:Nat):Int)),some (.lst (L.map dZ))]=[none,none]:=rfl;have hv:uv ["part","branch"] [] (ivL (be 2)) (qA 0) qJ (ivL (vL ut (qy (be 0) qD))) (qA 1) qJ (be 1) [some (dZ t),some (.int ((c+1:Nat):Int)),some (.lst (L.map dZ))] Z6=some (.lst ((L.flatMap brn).map dZ),Z6):=by
    rw[BY,hr,BM,hcap,hc2,Bx,if_pos hlen,←List.map_flatMap]
   rw[ec,hv];simp!;refine⟨k - 1,by omega,trivial,L.flatMap brn,c+1,rfl,by rw[Hb,hL],by omega,?_,by omega⟩;have h1:=Bp L;have h2:(L.flatMap brn).length*2^(k - 1)<=2*L.length*2^(k - 1):=Nat.mul_le_mul_right _ h1;have h3:2*L.length*2^(k - 1)=L.length*2^k:=by
    have:2^k=2*2^(k - 1):=by rw[←Nat.pow_succ'];congr 1;omega
    rw[this,Nat.mul_comm 2 L.length,Nat.mul_assoc]
   omega
  ·rintro u hu B ⟨a,b,rfl⟩;refine⟨[some (dZ u),b],rfl,?_,_,rfl⟩;obtain⟨d,Z4,e,rfl,rfl⟩:=Cf (O:=Z6) (t:=u) (by have:=VE hu;omega);have e2:vL ut (qy (be 0) qD) [some (dZ u),b] Z4=some (.lst ((brn u).map dZ),Z4):=e;unfold ivL;rw[e2];rfl
  ·rintro u hu v hv B ⟨b,rfl⟩;exact⟨[some (dZ u),some (dZ v)],rfl,rfl,_,rfl⟩
end
def wp(acc:List Int):List Int->List Int
 | []=>acc
 |k::r=>wp (if k∈acc then acc else acc++[k]) r
def dd(s:List Int):List Int:=wp [] s
def Wi(l m:List Int):∀acc,wp acc (l++m)=wp (wp acc l) m:=by
 induction l with
 |nil=>intro acc;rfl
 |cons k r ih=>intro acc;exact ih _
def vm(s:List Int)(k:Int):dd (s++[k])=if k∈dd s then dd s else dd s++[k]:=by
 unfold dd;rw[Wi];rfl
def idx(s:List Int)(x:Int):List Int:=((List.range s.length).filter fun i=>decide (s[i]?=some x)).map fun i:Nat=>(i:Int)
def Ax(s:List Int)(k x:Int):idx (s++[k]) x=idx s x++if k=x then [(s.length:Int)] else []:=by
 unfold idx;rw[XH,X9,List.range_succ,List.filter_append,X6];congr 1
 ·congr 1;refine List.filter_congr fun i hi=>?_;rw[Xv (XT.mp hi)]
 ·have:(s++[k])[s.length]?=some k:=by simp
  by_cases h:k=x
  ·simp[h]
  ·simp[h]
def yJ{α:Type}{P:List α->Prop}(h0:P [])(h1:∀l a,P l->P (l++[a])):∀l,P l:=fun l=>by
 have:∀n,∀l:List α,l.length=n->P l:=fun n=>by
  induction n with
  |zero=>intro l hl;rw[Yk.mp hl];exact h0
  |succ n ih=>
   intro l hl;have hne:l≠[]:=by rintro rfl;cases hl
   rw[←List.dropLast_concat_getLast hne];exact h1 _ _ (ih _ (by rw[List.length_dropLast];omega))
 exact this _ l rfl
def uR(x:Int)(s:List Int):x∈dd s↔x∈s:=by
 refine yJ (P:=fun s=>x∈dd s↔x∈s) (by simp[dd,wp]) (fun l a ih=>?_) s;rw[vm,XN,XX];by_cases h:a∈dd l
 ·rw[if_pos h];constructor
  ·exact fun z=>.inl (ih.mp z)
  ·rintro(z|rfl)
   ·exact ih.mpr z
   ·exact h
 ·rw[if_neg h,XN,XX,ih]
def KU(s:List Int):(dd s).Nodup:=by
 refine yJ (P:=fun s=>(dd s).Nodup) (by simp[dd,wp]) (fun l a ih=>?_) s;rw[vm];by_cases h:a∈dd l
 ·rw[if_pos h];exact ih
 ·rw[if_neg h];refine YG.mpr ⟨ih,by simp,fun x hx y hy e=>?_⟩;have:y=a:=by simpa using hy
  subst this;subst e;exact h hx
def mem_idx{s:List Int}{x i:Int}:i∈idx s x↔∃j:Nat,i=(j:Int)/\s[j]?=some x:=by
 unfold idx;rw[Xw];constructor
 ·rintro⟨j,hj,rfl⟩;exact⟨j,rfl,by simpa using(Xy.mp hj).2⟩
 ·rintro⟨j,rfl,e⟩;refine⟨j,Xy.mpr ⟨XT.mpr (Xi.mp e).1,by simpa using e⟩,rfl⟩
def PU{s:List Int}{x:Int}(h:x∉s):idx s x=[]:=by
 refine List.eq_nil_iff_forall_not_mem.mpr fun i hi=>?_;obtain⟨j,rfl,e⟩:=mem_idx.mp hi;exact h (Yv e)
def gG(s:List Int):List (Int×List Int):=(dd s).map fun x=>(x,idx s x)
def Tj(s:List Int)(k:Int):sT (gG s) k (s.length:Int)=gG (s++[k]):=by
 have hany:((gG s).any fun g=>decide (g.1=k))=decide (k∈dd s):=by
  unfold gG;rw[List.any_map,Yg,Yl];simp
 unfold sT;rw[hany];by_cases h:k∈dd s
 ·rw[if_pos (by simpa using h)];unfold gG;rw[vm,if_pos h,XO];refine XY fun x hx=>?_;show(if x=k then(x,idx s x++[(s.length:Int)]) else(x,idx s x))=(x,idx (s++[k]) x)
  rw[Ax];by_cases e:x=k
  ·rw[if_pos e,if_pos e.symm]
  ·rw[if_neg e,if_neg (Ne.symm e),X0]
 ·rw[if_neg (by simpa using h)];unfold gG;rw[vm,if_neg h,X6];congr 1
  ·refine XY fun x hx=>?_;rw[Ax,if_neg (fun e=>h (by rw[e];exact hx)),X0]
  ·show [(k,[(s.length:Int)])]=[(k,idx (s++[k]) k)]
   rw[Ax,if_pos rfl,PU (fun z=>h ((uR k s).mpr z))];rfl
theorem Lj:∀(l s:List Int),vh s.length l (gG s)=gG (s++l)
 | [],s=>by rw[X0];rfl
 |k::r,s=>by
  show vh (s.length+1) r (sT (gG s) k (s.length:Int))=_;rw[Tj];have:=Lj r (s++[k]);rw[XH,X9,List.append_assoc] at this;exact this
def WG(s:List Int):grp s=gG s:=Lj s []
def gl(s:List Int):List (List Int):=(dd s).map (idx s)
def VD(s:List Int):(grp s).map (·.2)=gl s:=by rw[WG];unfold gG gl;rw[XO];rfl
def Da(s:List Int):rn s=((gl s).find? fun l=>decide ((s.length:Int)<2*(l.length:Int))).getD []:=by
 unfold rn;rw[←VD,List.find?_map];show _=(((grp s).find? fun g=>decide ((s.length:Int)<2*(g.2.length:Int))).map (·.2)).getD [];cases (grp s).find? fun g=>decide ((s.length:Int)<2*(g.2.length:Int))<;>rfl
def InjOn(f:Int->Int)(s:List Int):Prop:=∀x∈s,∀y∈s,f x=f y->x=y
def InjOn.left{f:Int->Int}{s t:List Int}(h:InjOn f (s++t)):InjOn f s:=fun x hx y hy=>h x (by simp[hx]) y (by simp[hy])
def P4{f:Int->Int}(s:List Int):InjOn f s->dd (s.map f)=(dd s).map f:=by
 refine yJ (P:=fun s=>InjOn f s->dd (s.map f)=(dd s).map f) (fun _=>rfl) (fun l a ih h=>?_) s;rw[X6,List.map_singleton,vm,vm,ih h.left];have hm:f a∈(dd l).map f↔a∈dd l:=by
  constructor
  ·intro z;obtain⟨y,hy,e⟩:=Xw.mp z;rw[←h y (by simp[(uR y l).mp hy]) a (by simp) e];exact hy
  ·exact fun z=>Xw.mpr ⟨a,z,rfl⟩
 by_cases z:a∈dd l
 ·rw[if_pos z,if_pos (hm.mpr z)]
 ·rw[if_neg z,if_neg (fun y=>z (hm.mp y)),X6,List.map_singleton]
def Px{f:Int->Int}{s:List Int}(h:InjOn f s){x:Int}(hx:x∈s):idx (s.map f) (f x)=idx s x:=by
 unfold idx;rw[Xn];congr 1;refine List.filter_congr fun i hi=>?_;have hi:=XT.mp hi;rw[XA,Xm hi];rw[decide_eq_decide];simp only[Option.map_some,Option.some.injEq];exact⟨fun e=>h _ (X3 hi) _ hx e,fun e=>by rw[e]⟩
def P1{f:Int->Int}{s:List Int}(h:InjOn f s):gl (s.map f)=gl s:=by
 unfold gl;rw[P4 s h,XO];exact XY fun x hx=>Px h ((uR x s).mp hx)
def so(s:List Int):List Int:=s.map fun x=>((dd s).idxOf x:Int)
def UT{l:List Int}{x y:Int}(hx:x∈l)(hy:y∈l)(e:l.idxOf x=l.idxOf y):x=y:=by
 have h1:=List.getElem_idxOf (Yc hx);have h2:=List.getElem_idxOf (Yc hy);rw[←h1,←h2];congr 1
def Kq(s:List Int):InjOn (fun x=>((dd s).idxOf x:Int)) s:=fun x hx y hy e=>UT ((uR x s).mpr hx) ((uR y s).mpr hy) (by
 have e:((dd s).idxOf x:Int)=((dd s).idxOf y:Int):=e;omega)
def zww(s:List Int)(x:Int):(idx s x).length=s.count x:=by
 refine yJ (P:=fun s=>(idx s x).length=s.count x) rfl (fun l a ih=>?_) s;rw[Ax,XH,List.count_append,ih];congr 1;by_cases h:a=x
 ·subst h;simp
 ·rw[if_neg h];simp[List.count_singleton,h]
def NL{s:List Int}{l:List Int}(h:l∈gl s):∃x∈s,l=idx s x:=by
 obtain⟨x,hx,rfl⟩:=Xw.mp h;exact⟨x,(uR x s).mp hx,rfl⟩
def V3{s:List Int}(h:rn s≠[]):∃x∈s,rn s=idx s x/\s.length<2*s.count x:=by
 rw[Da] at h⊢;cases hf:(gl s).find? fun l=>decide ((s.length:Int)<2*(l.length:Int)) with
 |none=>rw[hf] at h;exact absurd rfl h
 |some l=>
  obtain⟨x,hx,rfl⟩:=NL (Yp hf);have:=YM hf;rw[zww] at this;exact⟨x,hx,rfl,by have:=of_decide_eq_true this;omega⟩
def OP{f:Int->Int}{s:List Int}(h:InjOn f s):rn (s.map f)=rn s:=by
 rw[Da,Da,P1 h,Xn]
def Ox{l m:List Int}{x:Int}(h:x∈l):(l++m).idxOf x=l.idxOf x:=by
 rw[List.idxOf_append,if_pos h]
def SY(s:List Int)(k:Int):∃r:Nat,so (s++[k])=so s++[(r:Int)]/\r<=(dd s).length/\(dd (s++[k])).length=max (dd s).length (r+1):=by
 refine⟨(dd (s++[k])).idxOf k,?_,?_,?_⟩
 ·unfold so;rw[X6,List.map_singleton];congr 1;refine XY fun x hx=>?_;rw[vm];by_cases h:k∈dd s
  ·rw[if_pos h]
  ·rw[if_neg h,Ox ((uR x s).mpr hx)]
 ·rw[vm];by_cases h:k∈dd s
  ·rw[if_pos h];exact Nat.le_of_lt (Yc h)
  ·rw[if_neg h,List.idxOf_append,if_neg h];simp
 ·rw[vm];by_cases h:k∈dd s
  ·rw[if_pos h];have:=Yc h;omega
  ·rw[if_neg h,List.idxOf_append,if_neg h];simp
def OX{m:Nat}(s:List Int):(dd s).length<=m->(so s,(dd s).length)∈Sx s.length m:=by
 refine yJ (P:=fun s=>(dd s).length<=m->(so s,(dd s).length)∈Sx s.length m) (fun _=>by simp[so,dd,wp,Sx]) (fun l a ih h=>?_) s;obtain⟨r,e1,h1,h2⟩:=SY l a;rw[h2] at h⊢;rw[e1,XH,X9];show _∈(Sx l.length m).flatMap _;refine List.mem_flatMap.mpr ⟨_,ih (by omega),Xw.mpr ⟨r,XT.mpr ?_,rfl⟩⟩;show r<min ((dd l).length+1) m;omega
def QJ{s:List Int}{x:Int}:x∈so s↔0<=x/\x<((dd s).length:Int):=by
 unfold so;rw[Xw];constructor
 ·rintro⟨y,hy,rfl⟩;have:=Yc ((uR y s).mpr hy);omega
 ·rintro⟨h0,h1⟩;have hx:x.toNat<(dd s).length:=by omega
  refine⟨(dd s)[x.toNat],(uR _ s).mp (X3 hx),?_⟩;have e:(dd s).idxOf (dd s)[x.toNat]=x.toNat:=by
   refine XZ fun hne=>?_;have h2:=Yc (X3 hx);have h3:=List.getElem_idxOf h2;have hp:=Yh.mp (KU s);rcases Nat.lt_or_gt_of_ne hne with z|z
   ·exact hp _ _ h2 hx z h3
   ·exact hp _ _ hx h2 z h3.symm
  rw[e];omega
def so_in{s:List Int}{m:Nat}:so s∈(Sx s.length m).map (·.1)↔(dd s).length<=m:=by
 constructor
 ·intro h;obtain⟨p,hp,e⟩:=Xw.mp h;have g:=wU m _ p hp;have hle:=g.le;refine XZ fun z=>?_;have e:p.1=so s:=e;have:=(QJ (s:=s) (x:=(m:Int))).mpr ⟨by omega,by omega⟩;rw[←e] at this;have:=(g.mem _).mp this;omega
 ·exact fun h=>Xw.mpr ⟨_,OX s h,rfl⟩
def Uv(s:List Int):(dd s).length<=s.length:=by
 refine yJ (P:=fun s=>(dd s).length<=s.length) (Xh _) (fun l a ih=>?_) s;rw[vm,XH,X9];split
 ·omega
 ·rw[XH,X9];omega
def WF(s:List Int)(x:Int):(idx s x).Pairwise (·< ·):=by
 unfold idx;rw[List.pairwise_map];exact(List.pairwise_lt_range.filter _).imp fun h=>by omega
def toZ:Tr->Tz
 | .e none=>.no
 | .e (some i)=>.one i
 | .ask i j a b=>.ask (i:Int) (j:Int) (toZ a) (toZ b)
theorem AI:∀t:Tr,dTr t=dZ (toZ t)
 | .e none=>rfl
 | .e (some _)=>rfl
 | .ask i j a b=>by
  simp only[dTr,toZ,dZ,AI a,AI b]
theorem xk:∀t:Tr,dpz (toZ t)=dep t
 | .e none=>rfl
 | .e (some _)=>rfl
 | .ask i j a b=>by
  simp only[dep,toZ,dpz,xk a,xk b];omega
theorem Do(s:List Int):∀t:Tr,led s (toZ t)=rA s t
 | .e none=>rfl
 | .e (some _)=>rfl
 | .ask i j a b=>by
  simp only[toZ,led,rA,kd,Int.toNat_natCast,Do s a,Do s b]
def lv(P:Option Int->Prop):Tr->Prop
 | .e x=>P x
 | .ask _ _ a b=>lv P a/\lv P b
def Se{ps:List (Nat×Nat)}{ss:List (List Int)}{es:List (List (Option Int))}{P:Option Int->Prop}(hP:∀y,∀x∈es.getD y [],P x):∀(a:Nat) (left:List Nat) (t:Tr),left≠[]->qV ps ss es a left=some t->lv P t:=by
 have base:∀(left:List Nat) (x:Option Int),left≠[]->cE es left=some x->P x:=by
  intro left x h0 hx;obtain⟨y,r,rfl⟩:=Yn h0;exact hP y x (A4 hx y (by simp))
 intro a;induction a with
 |zero=>
  intro left t h0 h;simp only[qV,Option.map_eq_some_iff] at h;obtain⟨x,hx,rfl⟩:=h;exact base left x h0 hx
 |succ a ih=>
  intro left t h0 h;simp only[qV] at h;split at h
  ·rename_i x hx;cases h;exact base left x h0 hx
  ·obtain⟨p,hp,e⟩:=C8 h;obtain⟨n1,n2,t1,t2,h1,h2,rfl⟩:=Hz e;exact⟨ih _ _ n1 h1,ih _ _ n2 h2⟩
def inE(n:Nat)(x:Option Int):Prop:=match x with
 |none=>True
 |some i=>0<=i/\i<(n:Int)
theorem Dg{n:Nat}(hn:n<=7):∀t:Tr,wf (prs n) t->lv (inE n) t->nmz n (toZ t)
 | .e none,_,_=>trivial
 | .e (some _),_,h=>h
 | .ask i j a b,⟨hp,h1,h2⟩,⟨l1,l2⟩=>by
  have ok:=CU hp;refine⟨⟨?_,⟨by omega,by omega⟩,⟨by omega,by omega⟩⟩,Dg hn a h1 l1,Dg hn b h2 l2⟩;intro e;have e2:(i:Int)=(j:Int):=e;exact ok.2.2 (by show i=j;omega)
def Wm{n:Nat}{x:Option Int}(h:x∈rR n):inE n x:=by
 unfold rR at h;rcases XI.mp h with rfl|h
 ·trivial
 ·obtain⟨t,ht,rfl⟩:=Xw.mp h;have:=XT.mp ht;exact⟨by omega,by omega⟩
structure Tt (n m N:Nat) (t:Tr):Prop where
 is:qV (prs n) (qK n m) (rg n m) N (List.range (qK n m).length)=some t
 wf:wf (prs n) t
 dep:dep t=N
 led:∀s∈qK n m,rA s t∈hE s
 lv:lv (inE n) t
def Bg{n m N:Nat}(F:Few n m N)(he:∀l∈rg n m,∀e∈l,e∈rR n):∃t,Tt n m N t:=by
 obtain⟨t,ht⟩:=F.yes;obtain⟨h1,h2,h3⟩:=F.tr ht;refine⟨t,ht,h1,h2,h3,Se (fun y x hx=>?_) _ _ _ (D0 F.pos) ht⟩;rw[Xk] at hx;cases hy:(rg n m)[y]? with
 |none=>rw[hy] at hx;simp at hx
 |some l=>rw[hy] at hx;exact Wm (he l (Yv hy) x hx)
def su(s:List Int):Tr->List An
 | .e _=>[]
 | .ask i j a b=>(i,j,decide (s.getD i 0=s.getD j 0))::(if s.getD i 0=s.getD j 0 then su s a else su s b)
theorem Bz(s:List Int):∀t:Tr,(su s t).length<=dep t
 | .e _=>by simp[su,dep]
 | .ask i j a b=>by
  have h1:=Bz s a;have h2:=Bz s b;simp only[su,dep,XM];split<;>omega
theorem zi(s:List Int):∀t:Tr,sL s (su s t)=true
 | .e _=>rfl
 | .ask i j a b=>by
  have h1:=zi s a;have h2:=zi s b;unfold sL at*;simp only[su,List.all_cons,XE];refine⟨by simp,?_⟩;split
  ·exact h1
  ·exact h2
theorem zp{n:Nat}(s:List Int):∀t:Tr,wf (prs n) t->Ok2 n (su s t)
 | .e _,_=>fun a h=>by cases h
 | .ask i j a b,⟨hp,h1,h2⟩=>by
  intro x hx;simp only[su] at hx;rcases XI.mp hx with rfl|hx
  ·exact CU hp
  ·split at hx
   ·exact zp s a h1 x hx
   ·exact zp s b h2 x hx
theorem Be{s u:List Int}:∀t:Tr,sL u (su s t)=true->rA u t=rA s t
 | .e _,_=>rfl
 | .ask i j a b,h=>by
  unfold sL at h;simp only[su,List.all_cons,XE,beq_iff_eq] at h;obtain⟨h1,h2⟩:=h;simp only[rA];by_cases e:s.getD i 0=s.getD j 0
  ·rw[if_pos e] at h2⊢;have:u.getD i 0=u.getD j 0:=by rw[Xx e] at h1;simpa using h1
   rw[if_pos this];exact Be a h2
  ·rw[if_neg e] at h2⊢;have:¬u.getD i 0=u.getD j 0:=by rw[Xq e] at h1;simpa using h1
   rw[if_neg this];exact Be b h2
def WA{s:List Int}{i j:Nat}(hi:i<s.length)(hj:j<s.length):((so s).getD i 0=(so s).getD j 0)↔s.getD i 0=s.getD j 0:=by
 have e:∀k,k<s.length->(so s).getD k 0=((dd s).idxOf (s.getD k 0):Int):=by
  intro k hk;unfold so;simp[Xk,hk]
 rw[e i hi,e j hj];constructor
 ·intro h;refine Kq s _ ?_ _ ?_ h
  ·simp[Xk,hi]
  ·simp[Xk,hj]
 ·intro h;rw[h]
def Gy{s:List Int}{n:Nat}(hn:s.length=n){as:List An}(hv:Ok2 n as):sL (so s) as=sL s as:=by
 unfold sL;have:∀l:List An,(∀a∈l,a.1<n/\a.2.1<n/\a.1≠a.2.1)->(l.all fun a=>decide ((so s).getD a.1 0=(so s).getD a.2.1 0)==a.2.2)=l.all fun a=>decide (s.getD a.1 0=s.getD a.2.1 0)==a.2.2:=by
  intro l;induction l with
  |nil=>intro _;rfl
  |cons a l ih=>
   intro h;obtain⟨h1,h2,_⟩:=h a (by simp);rw[List.all_cons,List.all_cons,ih fun x hx=>h x (by simp[hx])];congr 2;rw[decide_eq_decide];exact WA (by omega) (by omega)
 exact this as hv
def Xd{s:List Int}{n:Nat}(hn:s.length=n)(t:Tr)(hw:wf (prs n) t):rA (so s) t=rA s t:=by
 refine Be t ?_;rw[Gy hn (zp s t hw)];exact zi s t
def JK(s:List Int):rn (so s)=rn s:=OP (Kq s)
def Jm(s:List Int):hE (so s)=hE s:=by unfold hE;rw[JK]
def FV{s:List Int}{m:Nat}(h:(dd s).length<=m):so s∈qK s.length m:=so_in.mpr h
def HS{n m N:Nat}{t:Tr}(T:Tt n m N t){s:List Int}(hn:s.length=n)(h:(dd s).length<=m):rA s t∈hE s:=by
 have:=T.led (so s) (by rw[←hn];exact FV h);rw[Xd hn t T.wf,Jm] at this;exact this
def Gg{s:List Int}(h:none∈hE s):rn s=[]/\hE s=[none]:=by
 unfold hE at*;split at h
 ·rename_i e;exact⟨e,if_pos e⟩
 ·simp at h
def Cs{s:List Int}{i:Int}(h:some i∈hE s):i∈rn s/\hE s=(rn s).map some:=by
 unfold hE at*;split at h
 ·simp at h
 ·rename_i e;rw[if_neg e];exact⟨by simpa using h,rfl⟩
def Qe{l:List Int}(hr:l.Pairwise (·< ·)){P:Option Int->Bool}{i:Int}(hi:i∈l)(hp:P (some i)=true):∃j,(l.map some).find? P=some (some j)/\j<=i:=by
 induction l with
 |nil=>cases hi
 |cons a l ih=>
  rw[Xr,Xt];cases ha:P (some a) with
  |true=>
   refine⟨a,rfl,?_⟩;rcases XI.mp hi with rfl|hi
   ·exact Int.le_refl _
   ·exact Int.le_of_lt (List.rel_of_pairwise_cons hr hi)
  |false=>
   rcases XI.mp hi with rfl|hi
   ·rw[ha] at hp;cases hp
   ·exact ih (List.Pairwise.of_cons hr) hi
def znj(s:List Int):(rn s).Pairwise (·< ·):=by
 by_cases h:rn s=[]
 ·rw[h];exact .nil
 ·obtain⟨x,_,e,_⟩:=V3 h;rw[e];exact WF s x
def zxy{ss:List (List Int)}{s:List Int}{e:Option Int}(hs:s∈ss)(h:∀u∈ss,e∈hE u):∃x,xc ss=some x/\x∈hE s/\(e=none->x=none)/\∀i,e=some i->∃j,x=some j/\j<=i:=by
 obtain⟨u,r,rfl⟩:=Yn (List.ne_nil_of_mem hs);have hu:=h u (by simp);have e0:xc (u::r)=(hE u).find? fun t=>(u::r).all fun s=>decide (t∈hE s):=rfl;have hall:((u::r).all fun s=>decide (e∈hE s))=true:=by
  rw[XJ];intro v hv;simpa using h v hv
 have mem:∀x,xc (u::r)=some x->x∈hE s:=by
  intro x hx;rw[e0] at hx;have:=YM hx;rw[XJ] at this;simpa using this s hs
 cases e with
 |none=>
  have h1:=Gg hu;refine⟨none,?_,?_,fun _=>rfl,fun i z=>by cases z⟩
  ·rw[e0,h1.2,Xt,hall]
  ·exact mem none (by rw[e0,h1.2,Xt,hall])
 |some i=>
  have h1:=Cs hu;obtain⟨j,hj,hle⟩:=Qe (znj u) (P:=fun t=>(u::r).all fun s=>decide (t∈hE s)) h1.1 hall;rw[←h1.2] at hj;exact⟨some j,hj,mem _ hj,(fun z=>by cases z),fun k z=>by cases z;exact⟨j,rfl,hle⟩⟩
section
variable {P:Program} {w:World} {K:Frag} {mg:Str->Option Value} {base:Heap} {f:Addr} {fd:FuncData}
theorem WL:FnScope ["cell"] ["cell"] (qF (top 44)):=⟨rfl,rfl,rfl,by decide +kernel,rfl,by decide +kernel,by decide +kernel⟩
def E4:SV:=
  (qR (vL uz (qy (v2 DI (vC (.int 0)) (v2 yl (be 0) (v2 vt (vC (.int 10)) (vC (.int 18))))) (qy (v2 vp (v2 sf (v2 zC (be 0) (vC (.int 2147483629))) (vC (.int 1))) (v1 yc (v2 fNe (be 0) (v2 vt (vC (.int 10)) (vC (.int 18)))))) qD))))
def yk:C0:=rC 1 1 (E4)
theorem OQ{k:Nat}(F:Fun K "_law_hand" "_law_hand" (top 44) f fd) (yz:mg "int"=none) (xA:mg "max"=none):FnOk P w K mg base CX0 (k+1) f fd ["cell"] (spM K (yk)):=by
 unfold yk E4;exact rT F WL fun cdv A outer s H E hr=>
  (qP (qY (FL (qB (Q1 xA qH (B2 (qx 0) (xW qH qH))) (qB (EL (u6 (AW (qx 0) qH) qH) (Me yz (Ll hr (qx 0) (xW qH qH)))) qG)))))
theorem KF:FnScope ["hand","many","taken"] ["hand","many"] (qF (top 45)):=⟨rfl,rfl,rfl,by decide +kernel,rfl,by decide +kernel,by decide +kernel⟩
def By:SV:=
  (qE (sIf (vT (v2 fGt (v2 fIx (be 0) (vC (.int 0))) (vC (.int 0))))
   (qE (qQ (v2 zC (v2 fIx (be 0) (vC (.int 0))) (be 1)) (qA 2))
   (qE (qQ (v2 DP (v2 fIx (be 0) (vC (.int 0))) (be 1)) (zx (be 0) (vC (.int 0))))
   (qR (be 2))))
   sNx)
  (qE (qQ (v2 zC (v2 vp (v2 fIx (be 0) (vC (.int 1))) (vC (.int 48271))) (vC (.int 2147483647))) (zx (be 0) (vC (.int 1))))
  (qR (v2 zC (v2 DP (v2 vt (v2 sf (v2 fIx (be 0) (vC (.int 1))) (vC (.int 1))) (vC (.int 7))) (vC (.int 8))) (be 1)))))
def uh:C0:=rC 3 2 (By)
theorem Rx{k:Nat}(F:Fun K "_law_take" "_law_take" (top 45) f fd):FnOk P w K mg base CX0 (k+1) f fd ["hand","many"] (spM K (uh)):=by
 unfold uh By;exact rT F KF fun cdv A outer s H E hr=>
  (qI (si (xi (rh (qx 0) qH) qH)
   (qI (rF (i:=2) KF.nd rfl (Or.inl rfl) (AW (rh (qx 0) qH) (qx 1)))
   (qI (wk (MK (rh (qx 0) qH) (qx 1)) (MS (qx 0) qH))
   (qP (qY (qx 2)))))
   se)
  (qI (wk (AW (EL (rh (qx 0) qH) qH) qH) (MS (qx 0) qH))
  (qP (qY (AW (MK (xW (u6 (rh (qx 0) qH) qH) qH) qH) (qx 1))))))
theorem AX:FnScope ["tree","kinds","answers","alike"] ["tree","kinds"] (qF (top 46)):=⟨rfl,rfl,rfl,by decide +kernel,rfl,by decide +kernel,by decide +kernel⟩
def CL:SV:=
  (qE (qQ (vL uz qD) (qA 2))
  (qE (uF (vT (v2 fEq (v2 fIx (be 0) (vC (.int 0))) (vC (.str "ask"))))
   (qE (qQ (v2 fEq (v2 fIx (be 1) (v2 fIx (be 0) (vC (.int 1)))) (v2 fIx (be 1) (v2 fIx (be 0) (vC (.int 2))))) (qA 3))
   (qE (uJ (wE uB (be 2) (vL sj (qy (v2 fIx (be 0) (vC (.int 1))) (qy (v2 fIx (be 0) (vC (.int 2))) (qy (be 3) qD))))))
   (qQ (v2 fIx (be 0) (v2 fIx (vL sd (qy (vC (.int 4)) (qy (vC (.int 3)) qD))) (v1 yc (be 3)))) (qA 0)))) 1000000)
  (qR (vL sj (qy (be 2) (qy (be 0) qD))))))
def wP:C0:=rC 4 2 (CL)
theorem Wa{k:Nat}(F:Fun K "_law_gone" "_law_gone" (top 46) f fd) (yz:mg "int"=none):FnOk P w K mg base CX0 (k+1) f fd ["tree","kinds"] (spM K (wP)):=by
 unfold wP CL;exact rT F AX fun cdv A outer s H E hr=>
  (qI (rF (i:=2) AX.nd rfl (Or.inl rfl) (FL qG))
  (qI (zy 1000000 X1 (uE hr (rh (qx 0) qH) uZ)
   (qI (rF (i:=3) AX.nd rfl (Or.inl rfl) (Ad hr (rh (qx 1) (rh (qx 0) qH)) (rh (qx 1) (rh (qx 0) qH))))
   (qI (Ab (LG (qx 2) (uN (qB (rh (qx 0) qH) (qB (rh (qx 0) qH) (qB (qx 3) qG))))))
   (qP (rF (i:=0) AX.nd rfl (Or.inl rfl) (rh (qx 0) (rh (tS (qB qH (qB qH qG))) (Me yz (qx 3)))))))))
  (qP (qY (uN (qB (qx 2) (qB (qx 0) qG)))))))
theorem Ny:FnScope ["end","things"] ["end","things"] (qF (top 47)):=⟨rfl,rfl,rfl,by decide +kernel,rfl,by decide +kernel,by decide +kernel⟩
def En:SV:=
  (qR (vIf (vT (v2 fEq (v2 fIx (be 0) (vC (.int 0))) (vC (.str "none")))) (v2 fEq (be 1) (vL sd qD)) (v2 (fIn false) (v2 fIx (be 0) (vC (.int 1))) (be 1))))
def wM:C0:=rC 2 2 (En)
theorem Uu{k:Nat}(F:Fun K "_law_is_end" "_law_is_end" (top 47) f fd):FnOk P w K mg base CX0 (k+1) f fd ["end","things"] (spM K (wM)):=by
 unfold wM En;exact rT F Ny fun cdv A outer s H E hr=>
  (qP (qY (z7 (uE hr (rh (qx 0) qH) uZ) (Ad hr (qx 1) (tS qG)) (Ka (rh (qx 0) qH) (qx 1)))))
theorem xx:FnScope ["kinds","number","tree","answers","end","things","said"] ["kinds"] (qF (top 48)):=⟨rfl,rfl,rfl,by decide +kernel,rfl,by decide +kernel,by decide +kernel⟩
def Ex(ue:C0)(uo:C0)(uq:C0)(sJ:C0)(sH:C0)(yA:C0)(ur:C0)(yy:C0):SV:=
  (qE (qQ (vL ue (qy (v1 rN (be 0)) qD)) (rO 2 (qN (qA 1) (qN (qA 2) rM))))
  (qE (qQ (vL uo (qy (be 2) (qy (be 0) qD))) (rO 2 (qN (qA 3) (qN (qA 4) rM))))
  (qE (sIf (bOr (vT (v2 fGt (v1 rN (be 3)) (be 1))) (bOr (vT (v2 fNe (vL uq (qy (be 2) qD)) (be 1))) (tm (rH (vL sJ (qy (v1 rN (be 0)) (qy (be 3) qD)))))))
   (qR (vC (.bl false)))
   sNx)
  (qE (qQ (vL sH (qy (be 0) qD)) (qA 5))
  (qE (qQ (vL yA (qy (v1 rN (be 0)) (qy (be 3) qD))) (qA 6))
  (qE (sIf (bOr (tm (rH (vL ur (qy (be 4) (qy (be 5) qD))))) (vT (v2 fNe (v2 fIx (be 6) (vC (.int 0))) (v2 fIx (be 4) (vC (.int 0))))))
   (qR (vC (.bl false)))
   sNx)
  (qE (sIf (vT (v2 zB (vL yy (qy (v1 rN (be 0)) (qy (be 2) qD))) (vC (.bl true))))
   (qR (vC (.bl false)))
   sNx)
  (qR (vOr (v2 fEq (be 6) (vL sj (qy (vC (.str "none")) qD))) (Fv (v2 (fIn false) (v2 fIx (be 6) (vC (.int 1))) (be 5)) (v2 fLe (v2 fIx (be 6) (vC (.int 1))) (v2 fIx (be 4) (vC (.int 1))))))))))))))
def BE(ue:C0)(uo:C0)(uq:C0)(sJ:C0)(sH:C0)(yA:C0)(ur:C0)(yy:C0):C0:=rC 7 1 (Ex ue uo uq sJ sH yA ur yy)
theorem TW{ue uo uq sJ sH yA ur yy:C0}{zl zX zj v6 ww ML zz HF k:Nat}(F:Fun K "_law_any_right" "_law_any_right" (top 48) f fd) (yf:Df P w K mg base zl "fewest" ["many"] (spM K ue)) (Ed:zl<=k) (yI:Df P w K mg base zX "_law_gone" ["tree","kinds"] (spM K uo)) (B4:zX<=k) (xG:Df P w K mg base zj "depth" ["tree"] (spM K uq)) (Dv:zj<=k) (vS:Df P w K mg base v6 "can_be" ["many","answers"] (spM K sJ)) (zM:v6<=k) (vZ:Df P w K mg base ww "more_than_half" ["kinds"] (spM K sH)) (y4:ww<=k) (Ew:Df P w K mg base ML "tells" ["many","answers"] (spM K yA)) (Pc:ML<=k) (ym:Df P w K mg base zz "_law_is_end" ["end","things"] (spM K ur)) (FA:zz<=k) (Fk:Df P w K mg base HF "finds_out" ["many","tree"] (spM K yy)) (V4:HF<=k) (sP:mg "len"=none):FnOk P w K mg base CX0 (k+1) f fd ["kinds"] (spM K (BE ue uo uq sJ sH yA ur yy)):=by
 unfold BE Ex;exact rT F xx fun cdv A outer s H E hr=>
  (qI (wk (rk yf (hr.mono Ed) (qB (uC sP (qx 0)) qG)) (ud (n:=2) (rG (qS (i:=1) xx.nd rfl (Or.inl rfl)) (rG (qS (i:=2) xx.nd rfl (Or.inl rfl)) ua))))
  (qI (wk (rk yI (hr.mono B4) (qB (qx 2) (qB (qx 0) qG))) (ud (n:=2) (rG (qS (i:=3) xx.nd rfl (Or.inl rfl)) (rG (qS (i:=4) xx.nd rfl (Or.inl rfl)) ua))))
  (qI (si (PW.pt (wS (xi (uC sP (qx 3)) (qx 1)) (wS (wQ hr (rk xG (hr.mono Dv) (qB (qx 2) qG)) (qx 1)) (y1 (vg (tK (rk vS (hr.mono zM) (qB (uC sP (qx 0)) (qB (qx 3) qG)))))))))
   (qP (qY tF))
   se)
  (qI (rF (i:=5) xx.nd rfl (Or.inl rfl) (rk vZ (hr.mono y4) (qB (qx 0) qG)))
  (qI (rF (i:=6) xx.nd rfl (Or.inl rfl) (rk Ew (hr.mono Pc) (qB (uC sP (qx 0)) (qB (qx 3) qG))))
  (qI (si (PW.pt (wS (vg (tK (rk ym (hr.mono FA) (qB (qx 4) (qB (qx 5) qG))))) (y1 (wQ hr (rh (qx 6) qH) (rh (qx 4) qH)))))
   (qP (qY tF))
   se)
  (qI (si (Oq (rk Fk (hr.mono V4) (qB (uC sP (qx 0)) (qB (qx 2) qG))) tF)
   (qP (qY tF))
   se)
  (qP (qY (MT (Ad hr (qx 6) (uN (qB uZ qG))) (Fb (SI (Ka (rh (qx 6) qH) (qx 5)) (Fb (Tm (rh (qx 6) qH) (rh (qx 4) qH)))))))))))))))
theorem y3:FnScope ["kinds","number","tree","answers","end"] ["kinds"] (qF (top 49)):=⟨rfl,rfl,rfl,by decide +kernel,rfl,by decide +kernel,by decide +kernel⟩
def FC(t9:C0)(uo:C0)(uq:C0)(sJ:C0)(sH:C0)(ur:C0):SV:=
  (qE (qQ (vL t9 (qy (v1 rN (be 0)) qD)) (rO 2 (qN (qA 1) (qN (qA 2) rM))))
  (qE (qQ (vL uo (qy (be 2) (qy (be 0) qD))) (rO 2 (qN (qA 3) (qN (qA 4) rM))))
  (qE (sIf (bOr (vT (v2 fGt (v1 rN (be 3)) (be 1))) (bOr (vT (v2 fNe (vL uq (qy (be 2) qD)) (be 1))) (tm (rH (vL sJ (qy (v1 rN (be 0)) (qy (be 3) qD)))))))
   (qR (vC (.bl false)))
   sNx)
  (qR (vL ur (qy (be 4) (qy (vL sH (qy (be 0) qD)) qD)))))))
def Bb(t9:C0)(uo:C0)(uq:C0)(sJ:C0)(sH:C0)(ur:C0):C0:=rC 5 1 (FC t9 uo uq sJ sH ur)
theorem RZ{t9 uo uq sJ sH ur:C0}{zg zX zj v6 ww zz k:Nat}(F:Fun K "_law_two_right" "_law_two_right" (top 49) f fd) (yx:Df P w K mg base zg "fewest_of_two" ["many"] (spM K t9)) (FK:zg<=k) (yI:Df P w K mg base zX "_law_gone" ["tree","kinds"] (spM K uo)) (B4:zX<=k) (xG:Df P w K mg base zj "depth" ["tree"] (spM K uq)) (Dv:zj<=k) (vS:Df P w K mg base v6 "can_be" ["many","answers"] (spM K sJ)) (zM:v6<=k) (vZ:Df P w K mg base ww "more_than_half" ["kinds"] (spM K sH)) (y4:ww<=k) (ym:Df P w K mg base zz "_law_is_end" ["end","things"] (spM K ur)) (FA:zz<=k) (sP:mg "len"=none):FnOk P w K mg base CX0 (k+1) f fd ["kinds"] (spM K (Bb t9 uo uq sJ sH ur)):=by
 unfold Bb FC;exact rT F y3 fun cdv A outer s H E hr=>
  (qI (wk (rk yx (hr.mono FK) (qB (uC sP (qx 0)) qG)) (ud (n:=2) (rG (qS (i:=1) y3.nd rfl (Or.inl rfl)) (rG (qS (i:=2) y3.nd rfl (Or.inl rfl)) ua))))
  (qI (wk (rk yI (hr.mono B4) (qB (qx 2) (qB (qx 0) qG))) (ud (n:=2) (rG (qS (i:=3) y3.nd rfl (Or.inl rfl)) (rG (qS (i:=4) y3.nd rfl (Or.inl rfl)) ua))))
  (qI (si (PW.pt (wS (xi (uC sP (qx 3)) (qx 1)) (wS (wQ hr (rk xG (hr.mono Dv) (qB (qx 2) qG)) (qx 1)) (y1 (vg (tK (rk vS (hr.mono zM) (qB (uC sP (qx 0)) (qB (qx 3) qG)))))))))
   (qP (qY tF))
   se)
  (qP (qY (rk ym (hr.mono FA) (qB (qx 4) (qB (rk vZ (hr.mono y4) (qB (qx 0) qG)) qG))))))))
theorem wA:FnScope ["script","cell","hand","many","some","few"] ["script"] (qF (top 50)):=⟨rfl,rfl,rfl,by decide +kernel,rfl,by decide +kernel,by decide +kernel⟩
theorem Wl:((["thing"]:List Str)++([("some",4),("hand",2),("few",5)]:List (Str×Nat)).map (·.1)).Nodup:=by decide +kernel
theorem NN:((["thing"]:List Str)++([("some",4),("hand",2)]:List (Str×Nat)).map (·.1)).Nodup:=by decide +kernel
def Cr(xN:C0)(uL:C0)(ya:C0)(yn:C0)(t9:C0)(ue:C0):SV:=
  (qE (uk (ivL (v2 sf (vL sd (qy (v2 vt (vC (.int 10)) (vC (.int 18))) qD)) (vSl (be 0) xV (wR (vC (.int 8)))))) (qA 1)
   (qE (qQ (vL xN (qy (be 1) qD)) (qA 2))
   (qE (qQ (v2 sf (vC (.int 1)) (vL uL (qy (be 2) (qy (vC (.int 5)) qD)))) (qA 3))
   (qE (qQ (vL sd (qy (v2 yl (vL uL (qy (be 2) (qy (v2 vt (vC (.int 10)) (vC (.int 30))) qD))) (v2 vt (vC (.int 10)) (vC (.int 29)))) (qy (vC (.int 3)) (qy (v1 vO (vC (.int 1))) (qy (vC (.int 0)) (qy (vC (.int 7)) qD)))))) (qA 4))
   (qE (qQ (v2 sf (vC (.int 1)) (vL uL (qy (be 2) (qy (vC (.int 5)) qD)))) (qA 5))
   (qE (sIf (tm (rH (vL ya (qy (rL ["thing"] [("some",4),("hand",2),("few",5)] (ivR (be 3)) (qA 0) qJ (v2 fIx (be 1) (vL uL (qy (be 2) (qy (be 3) qD))))) qD))))
    (qR (vC (.bl false)))
    sNx)
   (qE (qQ (v2 sf (vC (.int 1)) (vL uL (qy (be 2) (qy (vC (.int 7)) qD)))) (qA 3))
   (sIf (tm (rH (vL yn (qy (rL ["thing"] [("some",4),("hand",2)] (ivR (be 3)) (qA 0) qJ (v2 fIx (be 1) (vL uL (qy (be 2) (qy (vC (.int 2)) qD))))) qD))))
    (qR (vC (.bl false)))
    sNx))))))))
  (qE (uk (ivL (vL sd (qy (vC (.int 1)) (qy (vC (.int 2)) (qy (vC (.int 3)) (qy (vC (.int 4)) (qy (vC (.int 5)) qD))))))) (qA 3)
   (sIf (vT (v2 fGt (v2 fIx (vL t9 (qy (be 3) qD)) (vC (.int 0))) (v2 fIx (vL ue (qy (be 3) qD)) (vC (.int 0)))))
    (qR (vC (.bl false)))
    sNx))
  (qR (vC (.bl true)))))
def Ah(xN:C0)(uL:C0)(ya:C0)(yn:C0)(t9:C0)(ue:C0):C0:=rC 6 1 (Cr xN uL ya yn t9 ue)
theorem S2{xN uL ya yn t9 ue:C0}{IG IZ G3 Ld zg zl k:Nat}(F:Fun K "law" "law" (top 50) f fd) (Cp:Df P w K mg base IG "_law_hand" ["cell"] (spM K xN)) (v3i:IG<=k) (wt:Df P w K mg base IZ "_law_take" ["hand","many"] (spM K uL)) (x9:IZ<=k) (Fw:Df P w K mg base G3 "_law_any_right" ["kinds"] (spM K ya)) (Qq:G3<=k) (CZ:Df P w K mg base Ld "_law_two_right" ["kinds"] (spM K yn)) (Rf:Ld<=k) (yx:Df P w K mg base zg "fewest_of_two" ["many"] (spM K t9)) (FK:zg<=k) (yf:Df P w K mg base zl "fewest" ["many"] (spM K ue)) (Ed:zl<=k) (sR:mg "range"=none):FnOk P w K mg base CX0 (k+1) f fd ["script"] (spM K (Ah xN uL ya yn t9 ue)):=by
 unfold Ah Cr;exact rT F wA fun cdv A outer s H E hr=>
  (qI (vR X1 rfl (sO (u6 (tS (qB (xW qH qH) qG)) (BO (qx 0) DS (z6 qH)))) (qS (i:=1) wA.nd rfl (Or.inl rfl))
   (qI (rF (i:=2) wA.nd rfl (Or.inr rfl) (rk Cp (hr.mono v3i) (qB (qx 1) qG)))
   (qI (rF (i:=3) wA.nd rfl (Or.inl rfl) (u6 qH (rk wt (hr.mono x9) (qB (qx 2) (qB qH qG)))))
   (qI (rF (i:=4) wA.nd rfl (Or.inr rfl) (tS (qB (B2 (rk wt (hr.mono x9) (qB (qx 2) (qB (xW qH qH) qG))) (xW qH qH)) (qB qH (qB (Iz qH) (qB qH (qB qH qG)))))))
   (qI (rF (i:=5) wA.nd rfl (Or.inr rfl) (u6 qH (rk wt (hr.mono x9) (qB (qx 2) (qB qH qG)))))
   (qI (si (vg (tK (rk Fw (hr.mono Qq) (qB (uA (own:=["thing"]) (cap:=[("some",4),("hand",2),("few",5)]) (sK rfl) (Ba sR (qx 3))
   (fun _ _ _ _ _=>(qS (i:=0) Wl rfl (Or.inl rfl))) (fun _ _ _ _ _=>sw)
   (fun _ _ _ _ _=>(rh (qx 1) (rk wt (hr.mono x9) (qB (qx 2) (qB (qx 3) qG)))))) qG))))
    (qP (qY tF))
    se)
   (qI (rF (i:=3) wA.nd rfl (Or.inl rfl) (u6 qH (rk wt (hr.mono x9) (qB (qx 2) (qB qH qG)))))
   (qP (si (vg (tK (rk CZ (hr.mono Rf) (qB (uA (own:=["thing"]) (cap:=[("some",4),("hand",2)]) (sK rfl) (Ba sR (qx 3))
   (fun _ _ _ _ _=>(qS (i:=0) NN rfl (Or.inl rfl))) (fun _ _ _ _ _=>sw)
   (fun _ _ _ _ _=>(rh (qx 1) (rk wt (hr.mono x9) (qB (qx 2) (qB qH qG)))))) qG))))
    (qP (qY tF))
    se)))))))))
  (qI (vR X1 rfl (sO (tS (qB qH (qB qH (qB qH (qB qH (qB qH qG))))))) (qS (i:=3) wA.nd rfl (Or.inl rfl))
   (qP (si (xi (rh (rk yx (hr.mono FK) (qB (qx 3) qG)) qH) (rh (rk yf (hr.mono Ed) (qB (qx 3) qG)) qH))
    (qP (qY tF))
    se)))
  (qP (qY tF))))
end
def fnA:Nat->Nat
 |2=>1
 |3=>3
 |4=>4
 |5=>6
 |_=>0
def fnB:Nat->Nat
 |2=>1
 |3=>1
 |4=>3
 |5=>3
 |6=>4
 |7=>4
 |_=>0
def Er{n:Nat}(h1:1<=n)(h5:n<=5):Few n n (fnA n):=by
 have:n=1\/n=2\/n=3\/n=4\/n=5:=by omega
 rcases this with rfl|rfl|rfl|rfl|rfl
 ·exact zxf
 ·exact Kv
 ·exact Sj
 ·exact Rh
 ·exact Sy
def Ce{n:Nat}(h1:1<=n)(h5:n<=7):Few n 2 (fnB n):=by
 have:n=1\/n=2\/n=3\/n=4\/n=5\/n=6\/n=7:=by omega
 rcases this with rfl|rfl|rfl|rfl|rfl|rfl|rfl
 ·exact WZ
 ·exact Kv
 ·exact TL
 ·exact Uz
 ·exact UQ
 ·exact TB
 ·exact Pb
def JW:∀n<6,∀l∈rg n n,∀e∈l,e∈rR n:=by decide +kernel
def MN:∀n<8,∀l∈rg n 2,∀e∈l,e∈rR n:=by decide +kernel
def NW:∀n<6,∀s∈qK n n,(rn s).length<=1000:=by decide +kernel
def Wk:∀n<8,∀s∈qK n 2,(rn s).length<=1000:=by decide +kernel
def Sl:∀n<6,cs (prs n).length (fnA n+1)<=15000000:=by decide +kernel
def Vi:∀n<8,cs (prs n).length (fnB n+1)<=15000000:=by decide +kernel
def GY:∀n<6,fnA n<10:=by decide +kernel
def No:∀n<8,fnB n<10:=by decide +kernel
def Qw:∀n<6,fnB n<=fnA n:=by decide +kernel
def S0{O:M}{k:Nat}{ds:List D}{y:D}(h:O[k]?=some (some (.lst ds)))(hl:ds.length<1000000):uB (.ref k) y O=some (.non,O.set k (some (.lst (ds++[y])))):=by simp only[uB,zY h,if_pos hl,Ds]
section
variable {CS C CT:Addr} {n:Nat} {O:M}
abbrev y8(CS C CT:Addr):FX:=A7 (v9 C CT) (yh CS CT) (.int 5)
abbrev zU(CS C CT:Addr):FX:=Bo (v9 C CT) (yh CS CT) (.int 7)
theorem GI{t:Tr}(h1:1<=n)(h5:n<=5)(T:Tt n n (fnA n) t):Wp (dn (y8 CS C CT) [.int (n:Int)] O) fun d Z6=>d=.tup [.int (fnA n:Int),dTr t]/\Gr O Z6:=by
 refine zQ ?_;unfold y8 A7 Cw;refine(yP rfl).mpr ?_;show Wt (rY _ _ [some (.int (n:Int))] O) _;simp!;refine(C1 (by omega) (by omega)).imp ?_;rintro _ O ⟨rfl,rfl⟩;simp!;refine(Lb (C:=CS) (CT:=CT) (m:=n) (by omega) (GY n (by omega)) (NW n (by omega)) (Er h1 h5) (Sl n (by omega)) T.is).imp ?_;rintro _ Z4 ⟨rfl,g⟩;simp!;exact⟨_,rfl,rfl,g⟩
theorem MW{t:Tr}(h1:1<=n)(h5:n<=7)(T:Tt n 2 (fnB n) t):Wp (dn (zU CS C CT) [.int (n:Int)] O) fun d Z6=>d=.tup [.int (fnB n:Int),dTr t]/\Gr O Z6:=by
 refine zQ ?_;unfold zU Bo EW;refine(yP rfl).mpr ?_;show Wt (rY _ _ [some (.int (n:Int))] O) _;simp!;refine(C1 (by omega) (by omega)).imp ?_;rintro _ O ⟨rfl,rfl⟩;simp!;have h2:Wp (yh CS CT [.int (n:Int),.int 2] O) fun r Z6=>r=.ok (.tup [.int (fnB n:Int),dTr t])/\Gr O Z6:=Lb (C:=CS) (CT:=CT) (m:=2) (by omega) (No n (by omega)) (Wk n (by omega)) (Ce h1 h5) (Vi n (by omega)) T.is;refine h2.imp ?_;rintro _ Z4 ⟨rfl,g⟩;simp!;exact⟨_,rfl,rfl,g⟩
theorem IH{t:Tr}{s:List Int}(hn:n<=7)(hs:s.length=n)(hw:wf (prs n) t)(hd:dep t<=50):Wp (wP [dTr t,.lst (s.map D.int)] O) fun d Z6=>Gr O Z6/\∃a,d=.tup [.ref a,dE (rA s t)]/\Z6[a]?=some (some (.lst ((su s t).map dA))):=by
 unfold wP CL;refine(tj rfl).mpr ?_;show Ws (qE _ _ [some (dTr t),some (.lst (s.map D.int)),none,none] O) _;simp!;rw[Vs (by simp)];simp!;refine AT (fun m B Z6=>∃(u:Tr) (as:List An) (o3:Option D),dep u=m/\wf (prs n) u/\rA s u=rA s t/\su s t=as++su s u/\as.length+m<=100/\B=[some (dTr u),some (.lst (s.map D.int)),some (.ref O.length),o3]/\Gr O Z6/\Z6[O.length]?=some (some (.lst (as.map dA)))) (dep t) 1000000 ⟨t,[],_,rfl,hw,rfl,rfl,by simp;omega,rfl,gr_app,by simp⟩ (by omega) ?_;rintro m B Z5 ⟨u,as,o3,rfl,hu,he,hp,hl,rfl,g1,hrow⟩;cases u with
 |e x=>
  obtain⟨z,e0,e1⟩:∃z,fIx (dTr (.e x)) (.int 0) Z5=some (.str z,Z5)/\fEq (.str z) (.str "ask") Z5=some (.bl false,Z5):=by
   cases x
   ·exact⟨"none",rW (j:=0) rfl,Dr⟩
   ·exact⟨"one",rW (j:=0) rfl,EZ⟩
  simp![e0,e1,XB,if_false];rw[uW (by simp)];simp!;simp only[su,X0] at hp;rw[hp];exact⟨g1,_,by rw[←he];rfl,hrow⟩
 |ask i j a b=>
  obtain⟨hpr,w1,w2⟩:=hu;have hij:=CU hpr;have e0:∀O,fIx (dTr (.ask i j a b)) (.int 0) O=some (.str "ask",O):=fun _=>rW (j:=0) rfl;have e1:∀O,fIx (dTr (.ask i j a b)) (.int 1) O=some (.int (i:Int),O):=fun _=>rW (j:=1) rfl;have e2:∀O,fIx (dTr (.ask i j a b)) (.int 2) O=some (.int (j:Int),O):=fun _=>rW (j:=2) rfl;have e3:∀O,fIx (dTr (.ask i j a b)) (.int 3) O=some (dTr a,O):=fun _=>rW (j:=3) rfl;have e4:∀O,fIx (dTr (.ask i j a b)) (.int 4) O=some (dTr b,O):=fun _=>rW (j:=4) rfl;simp only at hij;simp![e0,C7,if_true,e1,e2,CY (show i<s.length by omega),CY (show j<s.length by omega)];rw[OE hrow];simp![e1,e2];rw[uW (by simp)];simp!;rw[S0 hrow (by simp;omega)];simp!;rw[uV (by simp)];simp!;simp only[su] at hp;simp only[rA] at he;simp only[dep] at hl⊢;have hset:(Z5.set O.length (some (.lst (as.map dA++[.tup [.int (i:Int),.int (j:Int),.bl (decide (s.getD i 0=s.getD j 0))]]))))[O.length]?=some (some (.lst ((as++[(i,j,decide (s.getD i 0=s.getD j 0))]).map dA))):=by
   rw[tG hrow,X6];rfl
  by_cases hq:s.getD i 0=s.getD j 0
  ·rw[if_pos hq] at he hp;rw[Xx hq] at hp hset⊢;have i3:∀O:M,fIx (.lst [.int 4,.int 3]) (.int 1) O=some (.int 3,O):=fun _=>rfl;simp![if_true,i3,e3];refine⟨dep a,by omega,a,as++[(i,j,true)],_,rfl,w1,he,by rw[hp];simp,by simp;omega,rfl,g1.setN (Xh _),hset⟩
  ·rw[if_neg hq] at he hp;rw[Xq hq] at hp hset⊢;have i4:∀O:M,fIx (.lst [.int 4,.int 3]) (.int 0) O=some (.int 4,O):=fun _=>rfl;simp![XB,if_false,i4,e4];refine⟨dep b,by omega,b,as++[(i,j,false)],_,rfl,w2,he,by rw[hp];simp,by simp;omega,rfl,g1.setN (Xh _),hset⟩
theorem HG{d:D}{i:Int}{l:List Int}(h:Ls O d (l.map D.int)):fIn false (.int i) d O=some (.bl (decide (i∈l)),O):=by
 have ho:rD flV (l.map D.int)=some (l.map V.int):=xl fun a _=>rfl;have hs:zV O d=some (l.map D.int):=by unfold zV;rw[h.1]
 have hf:flV (.int i)=some (.int i):=rfl;unfold fIn;rw[hf,bs,hs,bs,ho,bs,UI];rfl
def GB(x:Option Int)(l:List Int):Bool:=match x with
 |none=>decide (l=[])
 |some i=>decide (i∈l)
theorem IT{x:Option Int}{d:D}{l:List Int}(h:Ls O d (l.map D.int)):wM [dE x,d] O=some (.bl (GB x l),O):=by
 apply Qj;unfold wM En;refine(tj rfl).mpr ?_;show Ws (qR _ [some (dE x),some d] O) _;cases x with
 |none=>
  have e0:fIx (dE none) (.int 0) O=some (.str "none",O):=rW (j:=0) rfl;simp![e0,RC];rw[uV (by simp)];have he:fEq d (.lst []) O=some (.bl (decide (l=[])),O):=by
   have e:=Sm (ms:=[]) h Ls.lst;rw[List.map_nil] at e;unfold fEq;rw[e];rfl
  simp![he];exact⟨rfl,trivial⟩
 |some i=>
  have e0:fIx (dE (some i)) (.int 0) O=some (.str "one",O):=rW (j:=0) rfl;have e1:fIx (dE (some i)) (.int 1) O=some (.int i,O):=rW (j:=1) rfl;simp![e0,y6s,e1,HG h];exact⟨rfl,trivial⟩
theorem Gf{x:Option Int}{s:List Int}(h:x∈hE s):GB x (rn s)=true:=by
 cases x with
 |none=>exact Xx (Gg h).1
 |some i=>exact Xx (Cs h).1
end
section
variable {CS C CF CT:Addr} {n:Nat} {O:M}
theorem Mx{a:Nat}{ds:List D}(h:O[a]?=some (some (.lst ds))):rN (.ref a) O=some (.int (ds.length:Int),O):=by
 unfold rN;rw[xa h]
theorem NP{b:Bool}{O:M}:zB (.bl b) (.bl b) O=some (.bl false,O):=by cases b<;>rfl
def Bw(CS C CF CT:Addr):C0:=BE (dn (y8 CS C CT)) wP zo (dn (wB C)) uP (dn (AS C CF CT)) wM (fFi C CT)
def AC(CS C CT:Addr):C0:=Bb (dn (zU CS C CT)) wP zo (dn (wB C)) uP wM
theorem Lp{a:Nat}{as:List An}(hv:Ok2 n as)(hs:as.length<=1000)(h:O[a]?=some (some (.lst (as.map dA)))):Wp (dn (wB C) [.int (n:Int),.ref a] O) fun d Z6=>d=.bl (tN as)/\Gr O Z6:=by
 obtain⟨Z6,e,g⟩:=La (C:=C) (O:=O) (Ls.ref h) hv hs;exact zQ ⟨_,_,e,_,rfl,rfl,g⟩
theorem zpz{a:Nat}{as:List An}(hv:Ok2 n as)(hs:as.length<=1000)(hn:n<=7)(hf:sk n as≠[])(h:O[a]?=some (some (.lst (as.map dA)))):Wp (dn (AS C CF CT) [.int (n:Int),.ref a] O) fun d Z6=>d=tM (xc (sk n as))/\Gr O Z6:=by
 obtain⟨Z6,e,g⟩:=UV (C:=C) (CF:=CF) (CT:=CT) (O:=O) (Ls.ref h) hv hs hn hf;exact zQ ⟨_,_,e,_,rfl,rfl,g⟩
open Classical in
theorem QY{t:Tz}(hn:n<=7)(hd:dpz t<=18)(h:Fnd n t):Wp (fFi C CT [.int (n:Int),dZ t] O) fun d Z6=>d=.bl true/\Gr O Z6:=by
 have:=TM (CN:=C) (CT:=CT) (O:=O) hn hd;rw[Xx h] at this;exact this
theorem U0{s:List Int}(h1:1<=n)(h5:n<=5)(hs:s.length=n):Wp (Bw CS C CF CT [.lst (s.map D.int)] O) fun d Z6=>d=.bl true/\Gr O Z6:=by
 obtain⟨t,T⟩:=Bg (Er h1 h5) (JW n (by omega));have hN:=GY n (by omega);have hdd:(dd s).length<=n:=by rw[←hs];exact Uv s
 have hin:rA s t∈hE s:=HS T hs hdd;have hlen:=Bz s t;rw[T.dep] at hlen;have hok:=zp (n:=n) s t T.wf;have hfit:=zi s t;have hsoF:so s∈sk n (su s t):=by
  unfold sk;refine Xy.mpr ⟨?_,?_⟩
  ·rw[←hs];exact FV (by rw[hs];exact hdd)
  ·rw[Gy hs hok];exact hfit
 have hf:sk n (su s t)≠[]:=List.ne_nil_of_mem hsoF;have hcan:tN (su s t)=true:=Cq hfit;have hall:∀u∈sk n (su s t),rA s t∈hE u:=by
  intro u hu;obtain⟨hu1,hu2⟩:=Xy.mp hu;rw[←Be t hu2];exact T.led u hu1
 obtain⟨x,hx,hxin,hx0,hx1⟩:=zxy hsoF hall;rw[Jm] at hxin;have hmore:(rn s).length<=1000:=by
  have:=FJ (n:=n) (by omega) (s:=so s) (by rw[←hs];exact FV (by rw[hs];exact hdd));rw[JK] at this;omega
 have hfnd:Fnd n (toZ t):=⟨Dg (by omega) t T.wf T.lv,fun u hu=>by rw[Do];exact T.led u hu⟩
 unfold Bw BE Ex;refine(tj rfl).mpr ?_;show Ws (qE _ _ [some (.lst (s.map D.int)),none,none,none,none,none,none] O) _;simp![yg,Xn,hs];refine(GI h1 h5 T).imp ?_;rintro _ Z5 ⟨rfl,g1⟩;refine(wJ rfl).mpr ?_;simp!;refine(IH (n:=n) (by omega) hs T.wf (by rw[T.dep];omega)).imp ?_;rintro _ Z4 ⟨g2,a,rfl,ha⟩;refine(wJ rfl).mpr ?_;simp![Mx ha,Xn];rw[Xq (by omega)];simp!;rw[AI];refine(Lw (t:=toZ t) (by rw[xk,T.dep];omega)).imp ?_;rintro _ Z4 ⟨rfl,rfl⟩;rw[xk,T.dep];have en:∀(i:Int) (O:M),fNe (.int i) (.int i) O=some (.bl false,O):=fun i O=>by
  have:fNe (.int i) (.int i) O=some (.bl (!decide (i=i)),O):=EN;rw[this];simp
 simp![decide_true,XG,yg,Xn,hs];refine(Lp hok (by omega) ha).imp ?_;rintro _ ZQ ⟨rfl,g3⟩;rw[hcan];simp![XG];have ha3:=g3.get ha;obtain⟨dm,Zw,e4,hl4,g4⟩:=E3 (s:=s) (O:=ZQ) (by omega);have e4':uP [.lst (s.map D.int)] ZQ=some (dm,Zw):=e4;simp![e4',yg,Xn,hs];have ha4:=g4.get ha3;refine(zpz hok (by omega) (by omega) hf ha4).imp ?_;rintro _ Y9 ⟨rfl,g5⟩;have hl5:=hl4.gr g5;rw[hx];simp![IT hl5,Gf hin,XG];have hsame:∃z,(∀O:M,fIx (tM (some x)) (.int 0) O=some (.str z,O))/\(∀O:M,fIx (dE (rA s t)) (.int 0) O=some (.str z,O))/\∀O:M,fNe (.str z) (.str z) O=some (.bl false,O):=by
  cases hle:rA s t with
  |none=>
   rw[hx0 hle];exact⟨"none",fun _=>rW (j:=0) rfl,fun _=>rW (j:=0) rfl,fun _=>by simp[so2]⟩
  |some i=>
   obtain⟨j,rfl,_⟩:=hx1 i hle;exact⟨"one",fun _=>rW (j:=0) rfl,fun _=>rW (j:=0) rfl,fun _=>by simp[so1]⟩
 obtain⟨z,z1,z2,z3⟩:=hsame;simp![z1,z2,z3,yg,Xn,hs];refine(QY (n:=n) (t:=toZ t) (by omega) (by rw[xk,T.dep];omega) hfnd).imp ?_;rintro _ ZF ⟨rfl,g6⟩;simp![NP];have hl6:=hl5.gr g6;have gg:Gr O ZF:=g1.trans (g2.trans (g3.trans (g4.trans (g5.trans g6))));rw[uW (by simp)];cases hle:rA s t with
 |none=>
  rw[hx0 hle];have e:fEq (tM (some none)) (.tup [.str "none"]) ZF=some (.bl true,ZF):=by
   show(eqD (dE none) (dE none) ZF).bind _=_;have:eqD (dE none) (dE none) ZF=some true:=by
    show((py 65 ZF (dE none)).bind fun d=>(py 65 ZF (dE none)).bind fun e=>if(d.canLay0&&e.canLay0&&decide (d.depth<=64))=true then some (PyData.eqv d e) else none)=_;rw[yK,bs,bs,if_pos (by rw[yC];have:=A0 none;simp;omega),Eb];simp
   rw[this];rfl
  simp![e];exact⟨by first|trivial|rfl,gg⟩
 |some i=>
  obtain⟨j,rfl,hji⟩:=hx1 i hle;have e:fEq (tM (some (some j))) (.tup [.str "none"]) ZF=some (.bl false,ZF):=by
   show(eqD (dE (some j)) (dE none) ZF).bind _=_;have:eqD (dE (some j)) (dE none) ZF=some false:=by
    show((py 65 ZF (dE (some j))).bind fun d=>(py 65 ZF (dE none)).bind fun e=>if(d.canLay0&&e.canLay0&&decide (d.depth<=64))=true then some (PyData.eqv d e) else none)=_;rw[yK,yK,bs,bs,if_pos (by rw[yC,yC];have:=A0 (some j);simp;omega),Eb];simp
   rw[this];rfl
  have e1:∀O:M,fIx (tM (some (some j))) (.int 1) O=some (.int j,O):=fun _=>rW (j:=1) rfl;have e2:∀O:M,fIx (dE (some i)) (.int 1) O=some (.int i,O):=fun _=>rW (j:=1) rfl;simp![e,e1,e2,HG hl6];rw[Xx (Cs hxin).1];simp![e1,e2];rw[Xx hji];exact⟨by first|trivial|rfl,gg⟩
theorem Wo{s:List Int}(h1:1<=n)(h5:n<=7)(hs:s.length=n)(hdd:(dd s).length<=2):Wp (AC CS C CT [.lst (s.map D.int)] O) fun d Z6=>d=.bl true/\Gr O Z6:=by
 obtain⟨t,T⟩:=Bg (Ce h1 h5) (MN n (by omega));have hN:=No n (by omega);have hin:rA s t∈hE s:=HS T hs hdd;have hlen:=Bz s t;rw[T.dep] at hlen;have hok:=zp (n:=n) s t T.wf;have hcan:tN (su s t)=true:=Cq (zi s t);unfold AC Bb FC;refine(tj rfl).mpr ?_;show Ws (qE _ _ [some (.lst (s.map D.int)),none,none,none,none] O) _;simp![yg,Xn,hs];refine(MW h1 h5 T).imp ?_;rintro _ Z5 ⟨rfl,g1⟩;refine(wJ rfl).mpr ?_;simp!;refine(IH (n:=n) (by omega) hs T.wf (by rw[T.dep];omega)).imp ?_;rintro _ Z4 ⟨g2,a,rfl,ha⟩;refine(wJ rfl).mpr ?_;simp![Mx ha,Xn];rw[Xq (by omega)];simp!;rw[AI];refine(Lw (t:=toZ t) (by rw[xk,T.dep];omega)).imp ?_;rintro _ Z4 ⟨rfl,rfl⟩;rw[xk,T.dep];simp![decide_true,XG,yg,Xn,hs];refine(Lp hok (by omega) ha).imp ?_;rintro _ ZQ ⟨rfl,g3⟩;rw[hcan];simp![XG];obtain⟨dm,Zw,e4,hl4,g4⟩:=E3 (s:=s) (O:=ZQ) (by omega);have e4':uP [.lst (s.map D.int)] ZQ=some (dm,Zw):=e4;simp![e4',IT hl4,Gf hin];exact⟨by first|trivial|rfl,g1.trans (g2.trans (g3.trans g4))⟩
end
def Hd(O:M)(k:Nat):Prop:=∃a b,O[k]?=some (some (.lst [.int a,.int b]))
def yB(O:M)(k:Nat)(a b:Int):M:=O.set k (some (.lst [.int a,.int b]))
def Dn(k:Nat)(O Z6:M):Prop:=∃a b,Z6=yB O k a b
def Hd.set{O:M}{k:Nat}(h:Hd O k)(a b:Int):(yB O k a b)[k]?=some (some (.lst [.int a,.int b])):=let ⟨_,_,e⟩:=h;tG e
def Dn.hd{O Z6:M}{k:Nat}(h:Hd O k)(d:Dn k O Z6):Hd Z6 k:=let ⟨a,b,e⟩:=d;⟨a,b,by rw[e];exact h.set a b⟩
def zG{O:M}{k:Nat}{m:Int}(h:Hd O k)(h0:0<m)(h1:m<2^200):∃r Z6,uh [.ref k,.int m] O=some (.int r,Z6)/\Dn k O Z6/\0<=r/\r<m:=by
 obtain⟨a,b,hk⟩:=h;by_cases ha:0<a
 ·refine⟨a%m,yB O k (a/m) b,?_,⟨_,_,rfl⟩,Int.emod_nonneg _ (by omega),Int.emod_lt_of_pos _ h0⟩;have hq:uT a m:=h0;have hd:w6 a m:=⟨h0,h1⟩
  simp[uh,By,EK hk,zY hk,ha,hq,hd,yB]
 ·have hb1:=Int.emod_nonneg (b*48271) (b:=2147483647) (by decide);have hb2:=Int.emod_lt_of_pos (b*48271) (b:=2147483647) (by decide);refine⟨_,yB O k a (b*48271%2147483647),?_,⟨_,_,rfl⟩,Int.emod_nonneg ((b*48271%2147483647+1)^7/8) (by omega),Int.emod_lt_of_pos _ h0⟩;have hp:ub (b*48271%2147483647+1) 7:=⟨by decide,by decide,by omega⟩
  have hm:CMul b 48271:=.inr ⟨by decide,by decide⟩;have hq:uT ((b*48271%2147483647+1)^7/8) m:=h0;have hq2:uT (b*48271) 2147483647:=by unfold uT;decide
  have hd:w6 ((b*48271%2147483647+1)^7) 8:=by unfold w6;decide
  have hk2:=tG (y:=some (Z9.lst [.int a,.int (b*48271%2147483647)])) hk;simp[uh,By,EK hk,zY hk,ha,hm,hp,hq,hq2,hd,EK hk2,yB]
def Vr(c:Int)(O:M):∃a b,yk [.int c] O=some (.ref O.length,O++[some (.lst [.int a,.int b])]):=by
 have h1:ub 10 18:=by unfold ub;decide
 have h2:uT c 2147483629:=by unfold uT;decide
 have h3:∀(x:Int) (b:Bool),CMul x (if b then 1 else 0):=fun x b=>.inr (by cases b<;>decide);have h4:∀(x:Int) (p:Prop) [Decidable p],CMul x (if p then 1 else 0):=fun x p _=>.inr (by split<;>decide);have h5:∀(x:Int) (p:Prop) [Decidable p],CMul x (if p then 0 else 1):=fun x p _=>.inr (by split<;>decide);simp[yk,E4,h1,h2,h3,h4,h5]
def y2o{O:M}{a b:Int}:Hd (O++[some (.lst [.int a,.int b])]) O.length:=⟨a,b,by simp⟩
def OB{O Z6:M}{k:Nat}(h:Hd O k)(g:Gr O Z6):Hd Z6 k:=let ⟨a,b,e⟩:=h;⟨a,b,g.get e⟩
def D2(CS C CF CT:Addr):C0:=Ah yk uh (Bw CS C CF CT) (AC CS C CT) (dn (zU CS C CT)) (dn (y8 CS C CT))
theorem zun{a b:Int}:∀{l:List Int},l.Nodup->(∀x∈l,x=a\/x=b)->l.length<=2
 | [],_,_=>by simp
 | [_],_,_=>by simp
 | [_,_],_,_=>by simp
 |x::y::z::r,h,hm=>by
  have h1:=hm x (by simp);have h2:=hm y (by simp);have h3:=hm z (by simp);have n1:x≠y:=fun e=>by subst e;simp at h
  have n2:x≠z:=fun e=>by subst e;simp at h
  have n3:y≠z:=fun e=>by subst e;simp at h
  exact absurd True.intro (by rcases h1 with rfl|rfl<;>rcases h2 with rfl|rfl<;>rcases h3 with rfl|rfl<;>simp_all)
def WQ{s sm:List Int}{a b:Int}{r:List Int}(hsm:sm=a::b::r)(h:∀x∈s,x∈sm.take 2):(dd s).length<=2:=by
 refine zun (a:=a) (b:=b) (KU s) fun x hx=>?_;have:=h x ((uR x s).mp hx);rw[hsm] at this;simpa using this
section
variable {h:Nat} {O:M}
theorem Ja{sm:List Int}{f m:Nat}(hf:1<=f)(hf2:f<=sm.length)(hf3:f<=1000){te:EV}{qO:G}(hte:∀(o:Option D) (r:Nat) (O Z6:M),r<f->uh [.ref h,.int (f:Int)] O=some (.int (r:Int),Z6)->te (o::qO) O=fIx (.lst (sm.map D.int)) (.int (r:Int)) Z6)(hd:Hd O h){R:List D->M->Prop}
  (hR:∀(s:List Int) (Z6:M),s.length=m->(∀x∈s,x∈sm.take f)->Hd Z6 h->R (s.map D.int) Z6):Wp (rE none (qA 0) qJ te (rl 0 m) (none::qO) O) R:=by
 refine SN (fun k done B Z6=>∃s:List Int,done=s.map D.int/\s.length=k/\(∀x∈s,x∈sm.take f)/\(∃o,B=o::qO)/\Hd Z6 h) ⟨[],rfl,rfl,(fun x hx=>by cases hx),⟨_,rfl⟩,hd⟩ ?_ ?_
 ·rintro k done B Z5 hk ⟨s,rfl,hl,hs,⟨o,rfl⟩,d1⟩;have hg:qA 0 (.int (k:Int)) (o::qO) Z5=some (some (.int (k:Int))::qO,Z5):=rfl;refine x5 hg ?_;obtain⟨t,Z4,e2,d2,t0,t1⟩:=zG (m:=(f:Int)) d1 (by omega) (by omega);obtain⟨r,rfl⟩:∃r:Nat,t=(r:Int):=⟨t.toNat,by omega⟩
  have hr:r<f:=by omega
  have hx:fIx (.lst (sm.map D.int)) (.int (r:Int)) Z4=some (.int (sm[r]'(by omega)),Z4):=Go (by rw[XA,Xm (by omega)];rfl);refine x5 ((hte _ r Z5 Z4 hr e2).trans hx) ?_;refine⟨s++[sm[r]'(by omega)],by simp,by simp[hl],?_,⟨_,rfl⟩,Dn.hd d1 d2⟩;intro x hx;rcases XN.mp hx with hx|hx
  ·exact hs x hx
  ·cases XX.mp hx;rw[List.mem_iff_getElem?];exact⟨r,by rw[List.getElem?_take,if_pos hr,Xm (by omega)]⟩
 ·rintro done B Z5 ⟨s,rfl,hl,hs,_,d1⟩;exact hR s Z5 hl hs d1
end
section
variable {CS C CF CT:Addr}
theorem Ob(ns:List Int)(_:ns.length<=63):∃Z6,D2 CS C CF CT [.scr (ns.map D.int)] []=some (.bl true,Z6):=by
 suffices h:Wp (D2 CS C CF CT [.scr (ns.map D.int)] []) fun d _=>d=.bl true by
  obtain⟨d,Z6,e,rfl⟩:=h;exact⟨Z6,e⟩
 have hp:vt (.int 10) (.int 18) []=some (.int (10^18),[]):=by
  have h1:ub 10 18:=by unfold ub;decide
  simp[h1]
 have hp30:∀O:M,vt (.int 10) (.int 30) O=some (.int (10^30),O):=fun O=>by
  have h1:ub 10 30:=by unfold ub;decide
  simp[h1]
 have hp29:∀O:M,vt (.int 10) (.int 29) O=some (.int (10^29),O):=fun O=>by
  have h1:ub 10 29:=by unfold ub;decide
  simp[h1]
 have hsl:fSl (.scr (ns.map D.int)) none (some 8) []=some (.lst ((ns.take 8).map D.int),[]):=by
  show some (D.lst (vV (ns.map D.int) none (some 8)),([]:M))=_;unfold vV;rw[HT.sIx_none,show(some (8:Int))=some ((8:Nat):Int) from rfl,HT.sIx_nat,List.drop_zero,Nat.sub_zero,Xn,←List.map_take,List.take_eq_take_min (i:=8)]
 unfold D2 Ah Cr;refine(tj rfl).mpr ?_;show Ws (qE _ _ [some (.scr (ns.map D.int)),none,none,none,none,none] []) _;simp![hp];rw[uV (by simp)];simp![hsl];rw[O5 (by simp;omega)];simp!;refine Ao (fun r B _=>∃(l:List Int) (o1 o2 o3 o4 o5:Option D),r=l.map D.int/\B=[some (.scr (ns.map D.int)),o1,o2,o3,o4,o5]) _ ⟨(10^18:Int)::ns.take 8,_,_,_,_,_,rfl,rfl⟩ ?_ ?_
 ·rintro d r B O ⟨l,o1,o2,o3,o4,o5,hr,rfl⟩;cases l with
  |nil=>cases hr
  |cons c l=>
   rw[Xr] at hr;injection hr with h3 h4
   subst h3 h4;simp!;obtain⟨a,b,eh⟩:=Vr c O;refine x5 eh ?_;have d1:Hd (O++[some (.lst [.int a,.int b])]) O.length:=y2o;generalize O++[some (Z9.lst [.int a,.int b])]=Z5 at d1;generalize O.length=h at d1;obtain⟨t,Z4,e2,dn2,t0,t1⟩:=zG (m:=5) d1 (by decide) (by decide);have d2:=Dn.hd d1 dn2;simp![e2,hp30];obtain⟨n,hn,n1,n5⟩:∃n:Nat,1+t=(n:Int)/\1<=n/\n<=5:=⟨(1+t).toNat,by omega,by omega,by omega⟩
   rw[hn];obtain⟨v,ZQ,e3,dn3,v0,v1⟩:=zG (m:=10^30) d2 (by decide) (by decide);have d3:=Dn.hd d2 dn3;simp![e3,hp29];rw[uV (by simp)];simp!;obtain⟨w,Zw,e4,dn4,w0,w1⟩:=zG (m:=5) d3 (by decide) (by decide);have d4:=Dn.hd d3 dn4;simp![e4];obtain⟨f,hf,f1,f5⟩:∃f:Nat,1+w=(f:Int)/\1<=f/\f<=5:=⟨(1+w).toNat,by omega,by omega,by omega⟩
   rw[hf];have hsm:[D.int (v - 10^29),.int 3,.int (-1),.int 0,.int 7]=([v - 10^29,3,-1,0,7]:List Int).map D.int:=rfl;rw[hsm];obtain⟨sm,hsme⟩:∃sm:List Int,sm=[v - 10^29,3,-1,0,7]:=⟨_,rfl⟩
   rw[←hsme];have hsl5:sm.length=5:=by rw[hsme];rfl
   rw[Iw (by omega)];simp![u9];refine⟨by simp[rl];omega,?_⟩;refine Ja (h:=h) (sm:=sm) (f:=f) f1 (by omega) (by omega) (qO:=[some (.lst (sm.map D.int)),some (.ref h),some (.int (f:Int))]) ?_ d4 ?_
   ·intro o r O Z6 hr e;have ev:vL uh (qy (be 2) (qy (be 3) qD)) [o,some (.lst (sm.map D.int)),some (.ref h),some (.int (f:Int))] O=some (.int (r:Int),Z6):=e;show((be 1 [o,some (.lst (sm.map D.int)),some (.ref h),some (.int (f:Int))] O).bind fun p=>(vL uh (qy (be 2) (qy (be 3) qD)) [o,some (.lst (sm.map D.int)),some (.ref h),some (.int (f:Int))] p.2).bind fun q=>fIx p.1 q.1 q.2)=_;show((vL uh (qy (be 2) (qy (be 3) qD)) [o,some (.lst (sm.map D.int)),some (.ref h),some (.int (f:Int))] O).bind fun q=>fIx (.lst (sm.map D.int)) q.1 q.2)=_;rw[ev];rfl
   ·intro s Y9 hs _ d5;refine(U0 n1 n5 hs).imp ?_;rintro _ ZF ⟨rfl,g6⟩;have d6:=OB d5 g6;simp![XG];obtain⟨t2,Y6,e7,dn7,t20,t21⟩:=zG (m:=7) d6 (by decide) (by decide);have d7:=Dn.hd d6 dn7;simp![e7];obtain⟨n2,hn2,n21,n25⟩:∃n:Nat,1+t2=(n:Int)/\1<=n/\n<=7:=⟨(1+t2).toNat,by omega,by omega,by omega⟩
    rw[hn2,Iw (by omega)];simp![u9];refine⟨by simp[rl];omega,?_⟩;refine Ja (h:=h) (sm:=sm) (f:=2) (by omega) (by omega) (by omega) (qO:=[some (.lst (sm.map D.int)),some (.ref h)]) ?_ d7 ?_
    ·intro o r O Z6 hr e;have ev:vL uh (qy (be 2) (qy (vC (.int 2)) qD)) [o,some (.lst (sm.map D.int)),some (.ref h)] O=some (.int (r:Int),Z6):=e;show((vL uh (qy (be 2) (qy (vC (.int 2)) qD)) [o,some (.lst (sm.map D.int)),some (.ref h)] O).bind fun q=>fIx (.lst (sm.map D.int)) q.1 q.2)=_;rw[ev];rfl
    ·intro s2 Y5 hs2 hmem d8;refine(Wo n21 n25 hs2 (WQ hsme hmem)).imp ?_;rintro _ Y4 ⟨rfl,g9⟩;simp![XG];exact⟨trivial,l,_,_,_,_,_,rfl,rfl⟩
 ·rintro B O ⟨l,o1,o2,o3,o4,o5,hr,rfl⟩;simp!;rw[uV (by simp)];simp!;refine Ao (fun r B _=>∃(l:List Nat) (o3:Option D),r=l.map (fun w:Nat=>D.int (w:Int))/\(∀w∈l,1<=w/\w<=5)/\B=[some (.scr (ns.map D.int)),o1,o2,o3,o4,o5]) _ ⟨[1,2,3,4,5],_,rfl,by decide,rfl⟩ ?_ ?_
  ·rintro d r B Z5 ⟨l2,o3,hr,hl4,rfl⟩;cases l2 with
   |nil=>cases hr
   |cons w l2=>
    rw[Xr] at hr;injection hr with h5 h6
    subst h5 h6;obtain⟨w1,w2⟩:=hl4 w (by simp);obtain⟨t,T⟩:=Bg (Er w1 w2) (JW w (by omega));obtain⟨t',T'⟩:=Bg (Ce w1 (by omega:w<=7)) (MN w (by omega));simp!;refine(MW w1 (by omega) T').imp ?_;rintro _ Z4 ⟨rfl,g2⟩;have i0:∀(N:Int) (x:D) (O:M),fIx (.tup [.int N,x]) (.int 0) O=some (.int N,O):=fun _ _ _=>rW (j:=0) rfl;simp![i0];refine(GI w1 w2 T).imp ?_;rintro _ ZQ ⟨rfl,g3⟩;simp![i0];have:=Qw w (by omega);rw[Xq (by omega)];simp!;exact⟨trivial,l2,_,rfl,fun x hx=>hl4 x (by simp[hx]),rfl⟩
  ·rintro B Z5 ⟨l2,o3,hr,hl4,rfl⟩;simp!
end
@[elab_as_elim] theorem t6{α:Type}{P:List α->Prop}(us:List α)(h:us.length=1)(k:∀a,P [a]):P us:=match us,h with| [a],_=>k a
@[elab_as_elim] theorem sY{α:Type}{P:List α->Prop}(us:List α)(h:us.length=2)(k:∀a b,P [a,b]):P us:=match us,h with| [a,b],_=>k a b
@[elab_as_elim] theorem zt{α:Type}{P:List α->Prop}(us:List α)(h:us.length=3)(k:∀a b c,P [a,b,c]):P us:=match us,h with| [a,b,c],_=>k a b c
@[elab_as_elim] theorem WC{α:Type}{P:List α->Prop}(us:List α)(h:us.length=4)(k:∀a b c d,P [a,b,c,d]):P us:=match us,h with| [a,b,c,d],_=>k a b c d
theorem all_mk{l:PySem.W.OpenLaw}{w:World}{K:Frag}{h:Heap}{mg:Str->Option Value}{fa f1 f2 f3 f4 f5 f6 f7 f8 f9 dh dc cC cF dq cZ cu cg cj ci ck cP cv cG dH cA cN cW cy cK cY cx cq dy dg dw dL cS aa ad ap ae:Addr}(X:K.In h)(G:h.Ns mainGlobals mg)(oI:mg "law"=some (.ref fa))
  {mR oi qi nA oj o7 qa qf pb nk mw pT mo pW qj nc nh mj iW kf kH ii jZ jD gu i7 kt ir lq ie li ia ib jb gf lg iJ lA iS kq gA gK kU kh ki kW kz gN jw ku ig jm gm kc iA jh gL j2 jT jA gR h9 iM fW jV jH iE iw kF fZ iq j1 lb cr:Option Addr} {mh sl2 pk mz mK ni qv oJ nE j4 gI iG sX iF jc lC kK jU iP kY jg jE gM ji ga ke jQ kA fY iH fU hX iu io h7 iK ln:Array (Option Value)} {oC kV1 pQ nL eR nP nR kV2 oq oz eO lY oP nV n9 n6 ft oW pU pz oO px fH qb mF pG pK mL fw mH pO me mP om fh nq pV qg qt pL fg ph pX pS nQ lM fe pJ qr mv oE nB fN lQ ju gP iQ lG dv ij j6 kP kO gQ cJ ll jq gc gp iz dt jp jv kl gE jJ df gC gy i9 iV lB cw jd jX kr j7 lz dk im js lm lj jK cB ly kR lF lr ge db jP kQ i8 jS jl cz gY iY kJ ja gw da kX gU lE km j8 cR gz iZ gX iX iB cM jo jO jx ko gb du kC jz jY jt il dz gZ j9 hJ je iO dF iI fX lc jC jk cU gx jI gn iN jF dr j0 jR i6 gO gF dM gW kn lh j5 kj dD i5 ld kM iU hU cQ jN gH gB jn jW de ik ip iC jL gq dJ ka j3 hW jy gD cV kZ gJ lw lD kN cX h8 jM lf lH hV cH ic fV gh gS gk dC jf jB jG iD iy dj kg kE cT cO cI bZ dB:Value}
  (a1:nsIn K mainGlobals "check_things"=some (some (.ref f1)))
  (l1:K.lookup f1=some ⟨oC,mR,.func (fnOf "check_things" "check_things" (rm (top 35)) (rc (top 35)) (qF (top 35)) .none kV1 pQ nL oi eR nP),mh⟩) (c1:codeIn K eR "check_things"=true) (k1:keepIn K (.ref f1)=true)
  (a2:nsIn K mainGlobals "moved"=some (some (.ref f2)))
  (l2:K.lookup f2=some ⟨nR,qi,.func (fnOf "moved" "moved" (rm (top 36)) (rc (top 36)) (qF (top 36)) .none kV2 oq oz nA eO lY),sl2⟩) (c2:codeIn K eO "moved"=true) (k2:keepIn K (.ref f2)=true)
  (a3:nsIn K mainGlobals "homes_of"=some (some (.ref f3)))
  (l3:K.lookup f3=some ⟨oP,oj,.func (fnOf "homes_of" "homes_of" (rm (top 37)) (rc (top 37)) (qF (top 37)) .none nV n9 n6 o7 ft oW),pk⟩) (c3:codeIn K ft "homes_of"=true) (k3:keepIn K (.ref f3)=true)
  (a4:nsIn K mainGlobals "can_be"=some (some (.ref f4)))
  (l4:K.lookup f4=some ⟨pU,qa,.func (fnOf "can_be" "can_be" (rm (top 38)) (rc (top 38)) (qF (top 38)) .none pz oO px qf fH qb),mz⟩) (c4:codeIn K fH "can_be"=true) (k4:keepIn K (.ref f4)=true)
  (a5:nsIn K mainGlobals "check_right"=some (some (.ref f5)))
  (l5:K.lookup f5=some ⟨mF,pb,.func (fnOf "check_right" "check_right" (rm (top 39)) (rc (top 39)) (qF (top 39)) .none pG pK mL nk fw mH),mK⟩) (c5:codeIn K fw "check_right"=true) (k5:keepIn K (.ref f5)=true)
  (a6:nsIn K mainGlobals "fits"=some (some (.ref f6)))
  (l6:K.lookup f6=some ⟨pO,mw,.func (fnOf "fits" "fits" (rm (top 40)) (rc (top 40)) (qF (top 40)) .none me mP om pT fh nq),ni⟩) (c6:codeIn K fh "fits"=true) (k6:keepIn K (.ref f6)=true)
  (a7:nsIn K mainGlobals "one_thing_more"=some (some (.ref f7)))
  (l7:K.lookup f7=some ⟨pV,mo,.func (fnOf "one_thing_more" "one_thing_more" (rm (top 11)) (rc (top 11)) (qF (top 11)) .none qg qt pL pW fg ph),qv⟩) (c7:codeIn K fg "one_thing_more"=true) (k7:keepIn K (.ref f7)=true)
  (a8:nsIn K mainGlobals "all_sorts"=some (some (.ref f8)))
  (l8:K.lookup f8=some ⟨pX,qj,.func (fnOf "all_sorts" "all_sorts" (rm (top 12)) (rc (top 12)) (qF (top 12)) .none pS nQ lM nc fe pJ),oJ⟩) (c8:codeIn K fe "all_sorts"=true) (k8:keepIn K (.ref f8)=true)
  (a9:nsIn K mainGlobals "sorts_that_fit"=some (some (.ref f9)))
  (l9:K.lookup f9=some ⟨qr,nh,.func (fnOf "sorts_that_fit" "sorts_that_fit" (rm (top 41)) (rc (top 41)) (qF (top 41)) .none mv oE nB mj fN lQ),nE⟩) (c9:codeIn K fN "sorts_that_fit"=true) (k9:keepIn K (.ref f9)=true)
  (lP:nsIn K mainGlobals "alike_things"=some (some (.ref dh)))
  (lS:K.lookup dh=some ⟨ju,iW,.func (fnOf "alike_things" "alike_things" (rm (top 9)) (rc (top 9)) (qF (top 9)) .none gP iQ lG kf dv ij),j4⟩) (lN:codeIn K dv "alike_things"=true) (eF:keepIn K (.ref dh)=true)
  (mU:nsIn K mainGlobals "more_than_half"=some (some (.ref dc)))
  (nJ:K.lookup dc=some ⟨j6,kH,.func (fnOf "more_than_half" "more_than_half" (rm (top 10)) (rc (top 10)) (qF (top 10)) .none kP kO gQ ii cJ ll),gI⟩) (pF:codeIn K cJ "more_than_half"=true) (fC:keepIn K (.ref dc)=true)
  (pB:nsIn K mainGlobals "half_ends"=some (some (.ref cC)))
  (mf:K.lookup cC=some ⟨jq,jZ,.func (fnOf "half_ends" "half_ends" (rm (top 15)) (rc (top 15)) (qF (top 15)) .none gc gp iz jD dt jp),iG⟩) (p8:codeIn K dt "half_ends"=true) (fB:keepIn K (.ref cC)=true)
  (mO:nsIn K mainGlobals "common_end"=some (some (.ref cF)))
  (nS:K.lookup cF=some ⟨jv,gu,.func (fnOf "common_end" "common_end" (rm (top 16)) (rc (top 16)) (qF (top 16)) .none kl gE jJ i7 df gC),sX⟩) (nC:codeIn K df "common_end"=true) (fb:keepIn K (.ref cF)=true)
  (ow:nsIn K mainGlobals "tells"=some (some (.ref dq)))
  (m8:K.lookup dq=some ⟨gy,kt,.func (fnOf "tells" "tells" (rm (top 42)) (rc (top 42)) (qF (top 42)) .none i9 iV lB ir cw jd),iF⟩) (qp:codeIn K cw "tells"=true) (eG:keepIn K (.ref dq)=true)
  (lR:nsIn K mainGlobals "pairs_of"=some (some (.ref cZ)))
  (pH:K.lookup cZ=some ⟨jX,lq,.func (fnOf "pairs_of" "pairs_of" (rm (top 18)) (rc (top 18)) (qF (top 18)) .none kr j7 lz ie dk im),jc⟩) (pj:codeIn K dk "pairs_of"=true) (dY:keepIn K (.ref cZ)=true)
  (oR:nsIn K mainGlobals "check_many"=some (some (.ref cu)))
  (on:K.lookup cu=some ⟨js,li,.func (fnOf "check_many" "check_many" (rm (top 6)) (rc (top 6)) (qF (top 6)) .none lm lj jK ia cB ly),lC⟩) (lT:codeIn K cB "check_many"=true) (eY:keepIn K (.ref cu)=true)
  (nY:findIn K (.ref aa) "__init__"=some (some (.ref cg))) (nn:isFn K (.ref cg)=true)
  (m6:K.lookup cg=some ⟨kR,ib,.func (fnOf "__init__" "Search.__init__" (rm (sg (top 20) 0)) (rc (sg (top 20) 0)) (qF (sg (top 20) 0)) .none lF lr ge jb db jP),kK⟩) (nu:codeIn K db "Search.__init__"=true) (lU:keepIn K (.ref cg)=true)
  (qw:findIn K (.ref aa) "tree_asking"=some (some (.ref cj))) (qe:isFn K (.ref cj)=true)
  (md:K.lookup cj=some ⟨kQ,gf,.func (fnOf "tree_asking" "Search.tree_asking" (rm (sg (top 20) 3)) (rc (sg (top 20) 3)) (qF (sg (top 20) 3)) .none i8 jS jl lg cz gY),jU⟩) (m4:codeIn K cz "Search.tree_asking"=true) (fT:keepIn K (.ref cj)=true)
  (my:findIn K (.ref aa) "new_tree"=some (some (.ref ci))) (mS:isFn K (.ref ci)=true)
  (ot:K.lookup ci=some ⟨iY,iJ,.func (fnOf "new_tree" "Search.new_tree" (rm (sg (top 20) 2)) (rc (sg (top 20) 2)) (qF (sg (top 20) 2)) .none kJ ja gw lA da kX),iP⟩) (mG:codeIn K da "Search.new_tree"=true) (eW:keepIn K (.ref ci)=true)
  (eC:findIn K (.ref aa) "tree_within"=some (some (.ref ck))) (fJ:isFn K (.ref ck)=true)
  (mC:K.lookup ck=some ⟨gU,iS,.func (fnOf "tree_within" "Search.tree_within" (rm (sg (top 20) 1)) (rc (sg (top 20) 1)) (qF (sg (top 20) 1)) .none lE km j8 kq cR gz),kY⟩) (lL:codeIn K cR "Search.tree_within"=true) (cp:keepIn K (.ref ck)=true)
  (n0:nsIn K mainGlobals "fewest_asks"=some (some (.ref cP)))
  (nI:K.lookup cP=some ⟨iZ,gA,.func (fnOf "fewest_asks" "fewest_asks" (rm (top 21)) (rc (top 21)) (qF (top 21)) .none gX iX iB gK cM jo),jg⟩) (oS:codeIn K cM "fewest_asks"=true) (eM:keepIn K (.ref cP)=true)
  (oV:nsIn K mainGlobals "fewest_of"=some (some (.ref cv)))
  (pC:K.lookup cv=some ⟨jO,kU,.func (fnOf "fewest_of" "fewest_of" (rm (top 31)) (rc (top 31)) (qF (top 31)) .none jx ko gb kh du kC),jE⟩) (pD:codeIn K du "fewest_of"=true) (eI:keepIn K (.ref cv)=true)
  (lX:nsIn K mainGlobals "fewest"=some (some (.ref cG)))
  (lW:K.lookup cG=some ⟨jz,ki,.func (fnOf "fewest" "fewest" (rm (top 32)) (rc (top 32)) (qF (top 32)) .none jY jt il kW dz gZ),gM⟩) (oA:codeIn K dz "fewest"=true) (fm:keepIn K (.ref cG)=true)
  (mE:nsIn K mainGlobals "fewest_of_two"=some (some (.ref dH)))
  (o0:K.lookup dH=some ⟨j9,kz,.func (fnOf "fewest_of_two" "fewest_of_two" (rm (top 33)) (rc (top 33)) (qF (top 33)) .none hJ je iO gN dF iI),ji⟩) (mY:codeIn K dF "fewest_of_two"=true) (fQ:keepIn K (.ref dH)=true)
  (oa:nsIn K mainGlobals "branches"=some (some (.ref cA)))
  (nl:K.lookup cA=some ⟨fX,jw,.func (fnOf "branches" "branches" (rm (top 25)) (rc (top 25)) (qF (top 25)) .none lc jC jk ku cU gx),ga⟩) (oU:codeIn K cU "branches"=true) (eB:keepIn K (.ref cA)=true)
  (mi:nsIn K mainGlobals "names_things"=some (some (.ref cN)))
  (nW:K.lookup cN=some ⟨jI,ig,.func (fnOf "names_things" "names_things" (rm (top 26)) (rc (top 26)) (qF (top 26)) .none gn iN jF jm dr j0),ke⟩) (nK:codeIn K dr "names_things"=true) (ff:keepIn K (.ref cN)=true)
  (nj:nsIn K mainGlobals "names_things_throughout"=some (some (.ref cW)))
  (mV:K.lookup cW=some ⟨jR,gm,.func (fnOf "names_things_throughout" "names_things_throughout" (rm (top 27)) (rc (top 27)) (qF (top 27)) .none i6 gO gF kc dM gW),jQ⟩) (p5:codeIn K dM "names_things_throughout"=true) (fk:keepIn K (.ref cW)=true)
  (lZ:nsIn K mainGlobals "end_for"=some (some (.ref cy)))
  (ql:K.lookup cy=some ⟨kn,iA,.func (fnOf "end_for" "end_for" (rm (top 28)) (rc (top 28)) (qF (top 28)) .none lh j5 kj jh dD i5),kA⟩) (qu:codeIn K dD "end_for"=true) (fK:keepIn K (.ref cy)=true)
  (qk:nsIn K mainGlobals "finds_out"=some (some (.ref cK)))
  (m7:K.lookup cK=some ⟨ld,gL,.func (fnOf "finds_out" "finds_out" (rm (top 29)) (rc (top 29)) (qF (top 29)) .none kM iU hU j2 cQ jN),fY⟩) (nw:codeIn K cQ "finds_out"=true) (eX:keepIn K (.ref cK)=true)
  (p0:nsIn K mainGlobals "depth"=some (some (.ref cY)))
  (nG:K.lookup cY=some ⟨gH,jT,.func (fnOf "depth" "depth" (rm (top 30)) (rc (top 30)) (qF (top 30)) .none gB jn jW jA de ik),iH⟩) (p7:codeIn K de "depth"=true) (eU:keepIn K (.ref cY)=true)
  (p6:nsIn K mainGlobals "_law_hand"=some (some (.ref cx)))
  (lI:K.lookup cx=some ⟨ip,gR,.func (fnOf "_law_hand" "_law_hand" (rm (top 44)) (rc (top 44)) (qF (top 44)) .none iC jL gq h9 dJ ka),fU⟩) (oK:codeIn K dJ "_law_hand"=true) (eZ:keepIn K (.ref cx)=true)
  (mM:nsIn K mainGlobals "_law_take"=some (some (.ref cq)))
  (m9:K.lookup cq=some ⟨j3,iM,.func (fnOf "_law_take" "_law_take" (rm (top 45)) (rc (top 45)) (qF (top 45)) .none hW jy gD fW cV kZ),hX⟩) (pM:codeIn K cV "_law_take"=true) (eT:keepIn K (.ref cq)=true)
  (og:nsIn K mainGlobals "_law_gone"=some (some (.ref dy)))
  (oM:K.lookup dy=some ⟨gJ,jV,.func (fnOf "_law_gone" "_law_gone" (rm (top 46)) (rc (top 46)) (qF (top 46)) .none lw lD kN jH cX h8),iu⟩) (nD:codeIn K cX "_law_gone"=true) (fz:keepIn K (.ref dy)=true)
  (mI:nsIn K mainGlobals "_law_is_end"=some (some (.ref dg)))
  (pA:K.lookup dg=some ⟨jM,iE,.func (fnOf "_law_is_end" "_law_is_end" (rm (top 47)) (rc (top 47)) (qF (top 47)) .none lf lH hV iw cH ic),io⟩) (nO:codeIn K cH "_law_is_end"=true) (fF:keepIn K (.ref dg)=true)
  (qh:nsIn K mainGlobals "_law_any_right"=some (some (.ref dw)))
  (nZ:K.lookup dw=some ⟨fV,kF,.func (fnOf "_law_any_right" "_law_any_right" (rm (top 48)) (rc (top 48)) (qF (top 48)) .none gh gS gk fZ dC jf),h7⟩) (pc:codeIn K dC "_law_any_right"=true) (d9:keepIn K (.ref dw)=true)
  (mQ:nsIn K mainGlobals "_law_two_right"=some (some (.ref dL)))
  (pP:K.lookup dL=some ⟨jB,iq,.func (fnOf "_law_two_right" "_law_two_right" (rm (top 49)) (rc (top 49)) (qF (top 49)) .none jG iD iy j1 dj kg),iK⟩) (nN:codeIn K dj "_law_two_right"=true) (eQ:keepIn K (.ref dL)=true)
  (lO:nsIn K mainGlobals "law"=some (some (.ref cS)))
  (p9:K.lookup cS=some ⟨kE,lb,.func (fnOf "law" "law" (rm (top 50)) (rc (top 50)) (qF (top 50)) .none cT cO cI cr bZ dB),ln⟩) (oZ:codeIn K bZ "law"=true) (oQ:keepIn K (.ref cS)=true)
  {dl:Tok} (aB:nsIn K mainGlobals "MOST_THINGS"=some (some (.int 7 dl)))
  {ag:Addr} {ar:Obj} {fD:Tok} {bJ:Nat} (aE:nsIn K mainGlobals "OPEN"=some (some (.ref ag))) (aD:K.lookup ag=some ar) (aC:ar.cls=.type "tuple") (aG:ar.data=.seq #[.str "open" fD] bJ)
  {dG:Tok} (av:nsIn K mainGlobals "MOST_SEARCHED"=some (some (.int 5 dG)))
  {cD:Tok} (af:nsIn K mainGlobals "MOST_SEARCHED_OF_TWO"=some (some (.int 7 cD)))
  (dX:nsIn K mainGlobals "all"=some none)
  (dU:nsIn K mainGlobals "max"=some none)
  (dR:nsIn K mainGlobals "min"=some none)
  (cn:nsIn K mainGlobals "range"=some none)
  (aH:nsIn K mainGlobals "enumerate"=some none)
  (di:nsIn K mainGlobals "list"=some none)
  (dW:nsIn K mainGlobals "len"=some none)
  (cm:nsIn K mainGlobals "tuple"=some none)
  (dQ:nsIn K mainGlobals "int"=some none)
  (aj:nsIn K mainGlobals "Search"=some (some (.ref aa)))
  (ah:nsIn K mainGlobals "NoThing"=some (some (.ref ad)))
  (aq:nsIn K mainGlobals "NoFit"=some (some (.ref ap)))
  (ai:nsIn K mainGlobals "TooMany"=some (some (.ref ae)))
  (bI:PySem.W.plainGet K aa Str.empty=true) (bF:PySem.W.hasDictIn K aa=true) (bH:PySem.W.plainOver K aa=true) (bG:findIn K (.ref aa) "__setattr__"=some (some (.builtin "object.__setattr__"))) (bL:PySem.W.makesIn K aa=true) (bK:keepIn K (.ref aa)=true)
  (ay:findIn K (.ref aa) "pairs"=some none)
  (au:findIn K (.ref aa) "sorts"=some none)
  (az:findIn K (.ref aa) "ends"=some none)
  (am:findIn K (.ref aa) "searched"=some none)
  {ca bY aA ce aF bU bV bS cb bW bO bX b0 cf bN bM:_} (bR:K.lookup ap=some (excClassObj ca bY ap aA ce aF bU bV bS cb bW bO bX b0 cf bN bM "ValueError.__new__")) (bP:PySem.W.tailIn K zZ aF=true) (bT:PySem.W.nsOkIn K aA=true) (bQ:nsIn K aA "__init__"=some none)
  {bh aY ak bA aw bz bE bf bd aX aO bt aM bn aT aU:_} (aS:K.lookup ad=some (excClassObj bh aY ad ak bA aw bz bE bf bd aX aO bt aM bn aT aU "ValueError.__new__")) (bC:PySem.W.tailIn K zZ aw=true) (aI:PySem.W.nsOkIn K ak=true) (aZ:nsIn K ak "__init__"=some none)
  {bj bp ao bB ax bu aK bD bg aJ aR br aN aQ aP aL:_} (aV:K.lookup ae=some (excClassObj bj bp ae ao bB ax bu aK bD bg aJ aR br aN aQ aP aL "ValueError.__new__")) (bw:PySem.W.tailIn K zZ ax=true) (bi:PySem.W.nsOkIn K ao=true) (aW:nsIn K ao "__init__"=some none):
  ∃fd:FuncData,(∀(s:Shared) (v:Value),BindsTo s fd ⟨[v],[]⟩ [("script",v)])/\∀base:Heap,K.In base->base.Ns mainGlobals mg->FnOk l.prog w K mg base CX0 37 fa fd ["script"] (A6 K):=by
 have e:=oI.symm.trans (mg_of X G lO);cases e;have F1:=rz (st:=(top 35)) l1 c1 k1;have b1:=F1.binds (ps:=["many","answers"]) fun _ _ _ _ _ _ us hl=>sY us hl fun _ _=>rfl;have g1:=mg_of X G a1;have F2:=rz (st:=(top 36)) l2 c2 k2;have b2:=F2.binds (ps:=["homes","old","new"]) fun _ _ _ _ _ _ us hl=>zt us hl fun _ _ _=>rfl;have g2:=mg_of X G a2;have F3:=rz (st:=(top 37)) l3 c3 k3;have b3:=F3.binds (ps:=["answers"]) fun _ _ _ _ _ _ us hl=>t6 us hl fun _=>rfl;have g3:=mg_of X G a3;have F4:=rz (st:=(top 38)) l4 c4 k4;have b4:=F4.binds (ps:=["many","answers"]) fun _ _ _ _ _ _ us hl=>sY us hl fun _ _=>rfl;have g4:=mg_of X G a4;have F5:=rz (st:=(top 39)) l5 c5 k5;have b5:=F5.binds (ps:=["many","answers"]) fun _ _ _ _ _ _ us hl=>sY us hl fun _ _=>rfl;have g5:=mg_of X G a5;have F6:=rz (st:=(top 40)) l6 c6 k6;have b6:=F6.binds (ps:=["kinds","answers"]) fun _ _ _ _ _ _ us hl=>sY us hl fun _ _=>rfl;have g6:=mg_of X G a6;have F7:=rz (st:=(top 11)) l7 c7 k7;have b7:=F7.binds (ps:=["sort","most"]) fun _ _ _ _ _ _ us hl=>sY us hl fun _ _=>rfl;have g7:=mg_of X G a7;have F8:=rz (st:=(top 12)) l8 c8 k8;have b8:=F8.binds (ps:=["many","most"]) fun _ _ _ _ _ _ us hl=>sY us hl fun _ _=>rfl;have g8:=mg_of X G a8;have F9:=rz (st:=(top 41)) l9 c9 k9;have b9:=F9.binds (ps:=["many","answers"]) fun _ _ _ _ _ _ us hl=>sY us hl fun _ _=>rfl;have g9:=mg_of X G a9;have fL:=rz (st:=(top 9)) lS lN eF;have oy:=fL.binds (ps:=["kinds"]) fun _ _ _ _ _ _ us hl=>t6 us hl fun _=>rfl;have lV:=mg_of X G lP;have fP:=rz (st:=(top 10)) nJ pF fC;have lK:=fP.binds (ps:=["kinds"]) fun _ _ _ _ _ _ us hl=>t6 us hl fun _=>rfl;have nH:=mg_of X G mU;have fj:=rz (st:=(top 15)) mf p8 fB;have oH:=fj.binds (ps:=["kinds"]) fun _ _ _ _ _ _ us hl=>t6 us hl fun _=>rfl;have qm:=mg_of X G pB;have eg:=rz (st:=(top 16)) nS nC fb;have pI:=eg.binds (ps:=["ends"]) fun _ _ _ _ _ _ us hl=>t6 us hl fun _=>rfl;have m3:=mg_of X G mO;have eP:=rz (st:=(top 42)) m8 qp eG;have nX:=eP.binds (ps:=["many","answers"]) fun _ _ _ _ _ _ us hl=>sY us hl fun _ _=>rfl;have oG:=mg_of X G ow;have eE:=rz (st:=(top 18)) pH pj dY;have nt:=eE.binds (ps:=["many"]) fun _ _ _ _ _ _ us hl=>t6 us hl fun _=>rfl;have n8:=mg_of X G lR;have fu:=rz (st:=(top 6)) on lT eY;have oN:=fu.binds (ps:=["many","least","greatest"]) fun _ _ _ _ _ _ us hl=>zt us hl fun _ _ _=>rfl;have lJ:=mg_of X G oR;have fq:=rz (st:=(sg (top 20) 0)) m6 nu lU;have mJ:=fq.binds (ps:=["self","many","sorts","ends"]) fun _ _ _ _ _ _ us hl=>WC us hl fun _ _ _ _=>rfl;have eL:=rz (st:=(sg (top 20) 3)) md m4 fT;have qq:=eL.binds (ps:=["self","i","j","left","asks"]) fun _ _ _ _ _ _ us hl=>match us,hl with| [_,_,_,_,_],_=>rfl
 have eN:=rz (st:=(sg (top 20) 2)) ot mG eW;have oF:=eN.binds (ps:=["self","left","asks"]) fun _ _ _ _ _ _ us hl=>zt us hl fun _ _ _=>rfl;have eA:=rz (st:=(sg (top 20) 1)) mC lL cp;have fr:=eA.binds (ps:=["self","left","asks"]) fun _ _ _ _ _ _ us hl=>zt us hl fun _ _ _=>rfl;have fo:=rz (st:=(top 21)) nI oS eM;have oB:=fo.binds (ps:=["many","sorts","ends"]) fun _ _ _ _ _ _ us hl=>zt us hl fun _ _ _=>rfl;have qo:=mg_of X G n0;have fO:=rz (st:=(top 31)) pC pD eI;have oo:=fO.binds (ps:=["many","most"]) fun _ _ _ _ _ _ us hl=>sY us hl fun _ _=>rfl;have mX:=mg_of X G oV;have eJ:=rz (st:=(top 32)) lW oA fm;have oX:=eJ.binds (ps:=["many"]) fun _ _ _ _ _ _ us hl=>t6 us hl fun _=>rfl;have mD:=mg_of X G lX;have fE:=rz (st:=(top 33)) o0 mY fQ;have nT:=fE.binds (ps:=["many"]) fun _ _ _ _ _ _ us hl=>t6 us hl fun _=>rfl;have pY:=mg_of X G mE;have fA:=rz (st:=(top 25)) nl oU eB;have nU:=fA.binds (ps:=["tree"]) fun _ _ _ _ _ _ us hl=>t6 us hl fun _=>rfl;have m5:=mg_of X G oa;have fv:=rz (st:=(top 26)) nW nK ff;have mB:=fv.binds (ps:=["many","tree"]) fun _ _ _ _ _ _ us hl=>sY us hl fun _ _=>rfl;have mZ:=mg_of X G mi;have eD:=rz (st:=(top 27)) mV p5 fk;have ng:=eD.binds (ps:=["many","tree"]) fun _ _ _ _ _ _ us hl=>sY us hl fun _ _=>rfl;have pi:=mg_of X G nj;have fG:=rz (st:=(top 28)) ql qu fK;have pR:=fG.binds (ps:=["tree","kinds"]) fun _ _ _ _ _ _ us hl=>sY us hl fun _ _=>rfl;have nz:=mg_of X G lZ;have fc:=rz (st:=(top 29)) m7 nw eX;have nr:=fc.binds (ps:=["many","tree"]) fun _ _ _ _ _ _ us hl=>sY us hl fun _ _=>rfl;have ny:=mg_of X G qk;have e9:=rz (st:=(top 30)) nG p7 eU;have nM:=e9.binds (ps:=["tree"]) fun _ _ _ _ _ _ us hl=>t6 us hl fun _=>rfl;have nv:=mg_of X G p0;have fR:=rz (st:=(top 44)) lI oK eZ;have o9:=fR.binds (ps:=["cell"]) fun _ _ _ _ _ _ us hl=>t6 us hl fun _=>rfl;have nF:=mg_of X G p6;have eS:=rz (st:=(top 45)) m9 pM eT;have pN:=eS.binds (ps:=["hand","many"]) fun _ _ _ _ _ _ us hl=>sY us hl fun _ _=>rfl;have pw:=mg_of X G mM;have fM:=rz (st:=(top 46)) oM nD fz;have n4:=fM.binds (ps:=["tree","kinds"]) fun _ _ _ _ _ _ us hl=>sY us hl fun _ _=>rfl;have mT:=mg_of X G og;have eV:=rz (st:=(top 47)) pA nO fF;have oY:=eV.binds (ps:=["end","things"]) fun _ _ _ _ _ _ us hl=>sY us hl fun _ _=>rfl;have mq:=mg_of X G mI;have eK:=rz (st:=(top 48)) nZ pc d9;have ou:=eK.binds (ps:=["kinds"]) fun _ _ _ _ _ _ us hl=>t6 us hl fun _=>rfl;have mW:=mg_of X G qh;have fS:=rz (st:=(top 49)) pP nN eQ;have mn:=fS.binds (ps:=["kinds"]) fun _ _ _ _ _ _ us hl=>t6 us hl fun _=>rfl;have pf:=mg_of X G mQ;have qd:=rz (st:=(top 50)) p9 oZ oQ;have ac:Cls K aa:=⟨bI,bF,bH,bG⟩
 have xB:FldC K aa "pairs":=⟨ac,ay⟩
 have vH:FldC K aa "sorts":=⟨ac,au⟩
 have xT:FldC K aa "ends":=⟨ac,az⟩
 have wG:FldC K aa "searched":=⟨ac,am⟩
 have tq:=YL X G dX;have xA:=YL X G dU;have CG:=YL X G dR;have sR:=YL X G cn;have Cd:=YL X G aH;have CB:=YL X G di;have sP:=YL X G dW;have xw:=YL X G cm;have yz:=YL X G dQ;have t4:mg "MOST_THINGS"=some (.int 7 dl)/\RelV (.int 7) (.int 7 dl)/\∀W,DR K W (.int 7) (.int 7):=⟨mg_of X G aB,⟨_,rfl⟩,fun _=>.int _⟩
 have vf:mg "OPEN"=some (.ref ag)/\RelV (.ref ag) (.ref ag)/\∀W,DR K W (.gt [.str "open"]) (.ref ag):=⟨mg_of X G aE,rfl,fun _=>.gt (vs:=[.str "open"]) (.inr ⟨ar,_,bJ,aD,aC,aG,(show 1<=sizeLine from vP (by decide)),.cons ⟨fD,rfl⟩ .nil⟩) (.cons (.str _) .nil)⟩
 have zP:mg "MOST_SEARCHED"=some (.int 5 dG)/\RelV (.int 5) (.int 5 dG)/\∀W,DR K W (.int 5) (.int 5):=⟨mg_of X G av,⟨_,rfl⟩,fun _=>.int _⟩
 have yT:mg "MOST_SEARCHED_OF_TWO"=some (.int 7 cD)/\RelV (.int 7) (.int 7 cD)/\∀W,DR K W (.int 7) (.int 7):=⟨mg_of X G af,⟨_,rfl⟩,fun _=>.int _⟩
 have ux:mg "NoThing"=some (.ref ad)/\uu K ad:=⟨mg_of X G ah,_,_,_,_,_,_,_,_,_,_,_,_,_,_,_,_,aS,bC,aI,aZ⟩
 have AL:mg "NoFit"=some (.ref ap)/\uu K ap:=⟨mg_of X G aq,_,_,_,_,_,_,_,_,_,_,_,_,_,_,_,_,bR,bP,bT,bQ⟩
 have wv:mg "TooMany"=some (.ref ae)/\uu K ae:=⟨mg_of X G ai,_,_,_,_,_,_,_,_,_,_,_,_,_,_,_,_,aV,bw,bi,aW⟩
 refine⟨fnOf "law" "law" (rm (top 50)) (rc (top 50)) (qF (top 50)) .none cT cO cI cr bZ dB,fun s v=>.of_eq rfl,fun base _ _=>?_⟩;have Cu:DfX l.prog w K mg base 1 "check_things" ["many","answers"] (spX K (zS ad)):=⟨_,_,V9 F1 ux,b1,k1,g1⟩
 have Cv:Df l.prog w K mg base 1 "moved" ["homes","old","new"] (spM K (uD)):=⟨_,_,P8 F2,b2,k2,g2⟩
 have Fo:Df l.prog w K mg base 2 "homes_of" ["answers"] (spM K (wT uD)):=⟨_,_,zhp F3 (Cv) (by omega),b3,k3,g3⟩
 have vS:DfX l.prog w K mg base 3 "can_be" ["many","answers"] (spX K (wB ad)):=⟨_,_,QZ F4 (Fo) (by omega) (Cu) (by omega) tq,b4,k4,g4⟩
 have De:DfX l.prog w K mg base 4 "check_right" ["many","answers"] (spX K (B9 ad ap)):=⟨_,_,Tq F5 (vS) (by omega) AL,b5,k5,g5⟩
 have D4:Df l.prog w K mg base 1 "fits" ["kinds","answers"] (spM K (wC)):=⟨_,_,QX F6,b6,k6,g6⟩
 have Fp:Df l.prog w K mg base 1 "one_thing_more" ["sort","most"] (spM K (t7)):=⟨_,_,PQ F7 xA CG sR,b7,k7,g7⟩
 have v3:DfX l.prog w K mg base 2 "all_sorts" ["many","most"] (spX K (wW t7 (.int 7) ae)):=⟨_,_,VJ F8 (Fp) (by omega) t4 wv sR,b8,k8,g8⟩
 have Dt:DfX l.prog w K mg base 5 "sorts_that_fit" ["many","answers"] (spX K (yt ad ap ae)):=⟨_,_,QC F9 (D4) (by omega) (De) (by omega) (v3) (by omega),b9,k9,g9⟩
 have FG:Df l.prog w K mg base 1 "alike_things" ["kinds"] (spM K (wn)):=⟨_,_,TV fL Cd CB,oy,eF,lV⟩
 have vZ:Df l.prog w K mg base 2 "more_than_half" ["kinds"] (spM K (uP)):=⟨_,_,N8 fP (FG) (by omega) sP,lK,fC,nH⟩
 have vJ:Df l.prog w K mg base 3 "half_ends" ["kinds"] (spM K (tT)):=⟨_,_,Of fj (vZ) (by omega),oH,fB,qm⟩
 have yD:Df l.prog w K mg base 1 "common_end" ["ends"] (spM K (vq tQ)):=⟨_,_,zet eg vf tq,pI,fb,m3⟩
 have Ew:DfX l.prog w K mg base 6 "tells" ["many","answers"] (spX K (AS ad ap ae)):=⟨_,_,zr3 eP (yD) (by omega) (vJ) (by omega) (Dt) (by omega),nX,eG,oG⟩
 have Ej:Df l.prog w K mg base 1 "pairs_of" ["many"] (spM K (xI)):=⟨_,_,SE eE sR,nt,dY,n8⟩
 have vM:DfX l.prog w K mg base 1 "check_many" ["many","least","greatest"] (spX K (v9 ad ae)):=⟨_,_,zeu fu ux wv,oN,eY,lJ⟩
 have ET:MkC l.prog w K mg base CX0 2 aa "Search" ["self","many","sorts","ends"] (spM K (Av aa)):=⟨mg_of X G aj,⟨_,_,⟨bL,nY,nn,bK⟩,TR fq (Ej) (by omega) xB vH xT wG,mJ⟩⟩
 have wK:∀n,MtC l.prog w K mg base CX0 (2+3*n) aa "tree_within" ["self","left","asks"] (spM K (wO aa n)):=fun n=>by
  induction n with
  |zero=>exact⟨ac,⟨_,_,⟨eC,fJ,cp⟩,Rr,fr⟩⟩
  |succ n ih=>
   have Cl:MtC l.prog w K mg base CX0 (2+3*n+1) aa "tree_asking" ["self","i","j","left","asks"] (spM K (x6 (wO aa n) aa)):=⟨ac,⟨_,_,⟨qw,qe,fT⟩,WO eL ih (by omega) vH xw,qq⟩⟩
   have EA:MtC l.prog w K mg base CX0 (2+3*n+2) aa "new_tree" ["self","left","asks"] (spM K (BB aa (wO aa n))):=⟨ac,⟨_,_,⟨my,mS,eW⟩,Nr eN (yD) (by omega) (Cl) (by omega) xT xB vf,oF⟩⟩
   exact(show MtC l.prog w K mg base CX0 (2+3*n+3) aa "tree_within" ["self","left","asks"] (spM K (wO aa (n+1))) from⟨ac,⟨_,_,⟨eC,fJ,cp⟩,VX eA (EA) (by omega) wG,fr⟩⟩)
 have Dz:Df l.prog w K mg base 33 "fewest_asks" ["many","sorts","ends"] (spM K (AY aa)):=⟨_,_,TK fo (ET) (by omega) (wK 10) (by omega) sP xw sR,oB,eM,qo⟩
 have yj:DfX l.prog w K mg base 34 "fewest_of" ["many","most"] (spX K (yh aa ae)):=⟨_,_,Po fO (vJ) (by omega) (Dz) (by omega) (v3) (by omega),oo,eI,mX⟩
 have yf:DfX l.prog w K mg base 35 "fewest" ["many"] (spX K (y8 aa ad ae)):=⟨_,_,Vf eJ (vM) (by omega) (yj) (by omega) zP,oX,fm,mD⟩
 have yx:DfX l.prog w K mg base 35 "fewest_of_two" ["many"] (spX K (zU aa ad ae)):=⟨_,_,za4 fE (vM) (by omega) (yj) (by omega) yT,nT,fQ,pY⟩
 have wY:Df l.prog w K mg base 1 "branches" ["tree"] (spM K (ut)):=⟨_,_,P9 fA,nU,eB,m5⟩
 have DJ:Df l.prog w K mg base 1 "names_things" ["many","tree"] (spM K (yp)):=⟨_,_,Ss fv tq,mB,ff,mZ⟩
 have D9:Df l.prog w K mg base 2 "names_things_throughout" ["many","tree"] (spM K (AH)):=⟨_,_,Uf eD (DJ) (by omega) (wY) (by omega) tq,ng,fk,pi⟩
 have Fx:Df l.prog w K mg base 1 "end_for" ["tree","kinds"] (spM K (w8)):=⟨_,_,WM fG,pR,fK,nz⟩
 have Fk:DfX l.prog w K mg base 4 "finds_out" ["many","tree"] (spX K (Dj ad ae)):=⟨_,_,Rn fc (D9) (by omega) (Fx) (by omega) (vJ) (by omega) (vM) (by omega) (v3) (by omega) t4 tq,nr,eX,ny⟩
 have xG:Df l.prog w K mg base 2 "depth" ["tree"] (spM K (zo)):=⟨_,_,Ru e9 (wY) (by omega),nM,eU,nv⟩
 have Cp:Df l.prog w K mg base 1 "_law_hand" ["cell"] (spM K (yk)):=⟨_,_,OQ fR yz xA,o9,eZ,nF⟩
 have wt:Df l.prog w K mg base 1 "_law_take" ["hand","many"] (spM K (uh)):=⟨_,_,Rx eS,pN,eT,pw⟩
 have yI:Df l.prog w K mg base 1 "_law_gone" ["tree","kinds"] (spM K (wP)):=⟨_,_,Wa fM yz,n4,fz,mT⟩
 have ym:Df l.prog w K mg base 1 "_law_is_end" ["end","things"] (spM K (wM)):=⟨_,_,Uu eV,oY,fF,mq⟩
 have Fw:Df l.prog w K mg base 36 "_law_any_right" ["kinds"] (spM K (Bw aa ad ap ae)):=⟨_,_,TW eK (Df.dn (yf)) (by omega) (yI) (by omega) (xG) (by omega) (Df.dn (vS)) (by omega) (vZ) (by omega) (Df.dn (Ew)) (by omega) (ym) (by omega) (Df.dn (Fk)) (by omega) sP,ou,d9,mW⟩
 have CZ:Df l.prog w K mg base 36 "_law_two_right" ["kinds"] (spM K (AC aa ad ae)):=⟨_,_,RZ fS (Df.dn (yx)) (by omega) (yI) (by omega) (xG) (by omega) (Df.dn (vS)) (by omega) (vZ) (by omega) (ym) (by omega) sP,mn,eQ,pf⟩
 exact NE (S2 qd (Cp) (by omega) (wt) (by omega) (Fw) (by omega) (CZ) (by omega) (Df.dn (yx)) (by omega) (Df.dn (yf)) (by omega) sR) (Ob (CS:=aa) (C:=ad) (CF:=ap) (CT:=ae))
theorem walk{l:PySem.W.OpenLaw}{q:Program}{loose:List Str}{XP:(Str->Option Value)->Heap->Prop}{YP:World->Heap->Prop}{d:DefRec}{K:Params->Frag}(hn:l.most=some 63)(hdf:d.params.defaults=[])
  (hY:∀(w:World) (h:Heap),YP w h->(K w.params).In h)
  (F:∀(w:World) (mg:Str->Option Value) (fa:Addr) (h:Heap),(K w.params).In h->h.Ns mainGlobals mg->mg d.name=some (.ref fa)->
   ∃fd:FuncData,(∀(s:Shared) (u:Value),BindsTo s fd ⟨[u],[]⟩ [("script",u)])/\∀base:Heap,(K w.params).In base->base.Ns mainGlobals mg->FnOk l.prog w (K w.params) mg base CX0 37 fa fd ["script"] (A6 (K w.params))):
  PySem.W.WalkO q loose XP YP l.row.toRowW d [] (fun f vs=>PySem.call f vs):=
 L2.walk_of (n:=63) (k:=37) (x:="script") (CX:=fun _=>CX0) (sp:=fun w=>A6 (K w.params)) hn (by decide) hdf ⟨rfl,by decide,by decide,rfl⟩ hY F (fun _ _ a ns hl hO hS=>⟨a,ns,rfl,hO,hS,hl,fun _=>rfl⟩) fun _ _ _ _ _ z=>z
end Law
namespace PySem.W.Fast
def tw10282542781234031528:=0
def tw10332848947415177011:=0
def tw10345479332523539072:=0
def tw10348077247237327355:=0
def tw10395829845661142521:=0
def tw10407998468928694465:=0
def tw10441776201659842469:=0
def tw10523608279179395737:=0
def tw10525739863849649808:=0
def tw1060777986673504115:=0
def tw10623946621659887859:=0
def tw10691056827714208563:=0
def tw10741490850324155151:=0
def tw10827778889007191388:=0
def tw1091233688962117775:=0
def tw10922369576177486790:=0
def tw11057968774463241910:=0
def tw11118768718981303637:=0
def tw11195936016766113287:=0
def tw11267378846929309567:=0
def tw11296750889036021838:=0
def tw11309220051503207902:=0
def tw11375154234966421075:=0
def tw11513919908289787595:=0
def tw1153029810764826917:=0
def tw1153911271068993417:=0
def tw11542011250370562420:=0
def tw11616776971404545155:=0
def tw11694869452497386884:=0
def tw11708279961271649608:=0
def tw11708499102836011396:=0
def tw11746461805689317139:=0
def tw11765580802914593961:=0
def tw11867801180554735297:=0
def tw11882791925492495080:=0
def tw11993580869074904518:=0
def tw12068187952250734861:=0
def tw12138331511295557696:=0
def tw12148924047600275898:=0
def tw12171136417465074911:=0
def tw12183093490484591997:=0
def tw12248778420057381733:=0
def tw12259478098903976421:=0
def tw12281015782608688158:=0
def tw12459646956716997664:=0
def tw1251697209320675364:=0
def tw12520997578106077500:=0
def tw12547218270512348921:=0
def tw12717660641691453778:=0
def tw12757680715226686590:=0
def tw12831599496477236694:=0
def tw12885355285833960150:=0
def tw12906239400394689987:=0
def tw13034633096157082153:=0
def tw13048701636259352374:=0
def tw13085088146859336229:=0
def tw13119910820534049482:=0
def tw13147531241369791759:=0
def tw1317509175273119415:=0
def tw13266303360278693381:=0
def tw13313548966732509884:=0
def tw1337431516650465147:=0
def tw13486373632663578402:=0
def tw13555000130443352960:=0
def tw1359557320030797357:=0
def tw13739928764643735582:=0
def tw13778430201559196032:=0
def tw13847658653236725596:=0
def tw1387196628562428629:=0
def tw13953269767918061020:=0
def tw13975341469504953084:=0
def tw14003603099159522288:=0
def tw14087947090021863806:=0
def tw14103591385996073908:=0
def tw14145324287070131756:=0
def tw14190068974868380045:=0
def tw14225383030367292339:=0
def tw14226357199431967024:=0
def tw14249973225113120712:=0
def tw14481375602258003124:=0
def tw14580847253203901402:=0
def tw14583806288138435138:=0
def tw14616855276658734702:=0
def tw14638089192494153526:=0
def tw14658723861978250411:=0
def tw14722638115885297388:=0
def tw14748439390264438336:=0
def tw14784301371111083008:=0
def tw14800965478933406467:=0
def tw14853488088691818693:=0
def tw14859793670069378377:=0
def tw14931881668561221862:=0
def tw1493593446057551680:=0
def tw14940016528770587654:=0
def tw15033108945647551577:=0
def tw15072919830371203649:=0
def tw15137574461675904374:=0
def tw15183650000145299831:=0
def tw15294655025098632384:=0
def tw15299350914048004805:=0
def tw15396390634674108143:=0
def tw15506265885883349524:=0
def tw15539276761034255983:=0
def tw15545427281905903601:=0
def tw1555980726877693752:=0
def tw15634590297759590593:=0
def tw1576973577488729676:=0
def tw15771562810998002481:=0
def tw15851005863331637475:=0
def tw15853995876041057167:=0
def tw15882140254990851584:=0
def tw15988076828295144100:=0
def tw15997352384171878967:=0
def tw16033449510779123286:=0
def tw16103392371493799992:=0
def tw16107852248702952141:=0
def tw16131649925472156730:=0
def tw16248168336041252704:=0
def tw16286132059343313783:=0
def tw16303090508522697646:=0
def tw16342714947465039278:=0
def tw16410920834130246961:=0
def tw1658098036983503165:=0
def tw16652273148842677946:=0
def tw16748139763499367040:=0
def tw16791597488152991558:=0
def tw16867210213068273493:=0
def tw16882170705021186068:=0
def tw16923242707388486720:=0
def tw17033338631452630776:=0
def tw17081445088620608945:=0
def tw17174200401855512359:=0
def tw17213972279988110831:=0
def tw1725139321848298412:=0
def tw17253385645323577651:=0
def tw17254908297937526804:=0
def tw17392910016094755752:=0
def tw17409111764960819127:=0
def tw17414334649209419712:=0
def tw1742407319552869891:=0
def tw17426661265827461029:=0
def tw17427200680733542442:=0
def tw1743736522591759130:=0
def tw1745043539377437399:=0
def tw17563559209224575367:=0
def tw17618400744661486303:=0
def tw17727512261552455864:=0
def tw17804088916488523548:=0
def tw17841165810144285843:=0
def tw17924510427599368032:=0
def tw17971099022803710423:=0
def tw17973075659072045167:=0
def tw18062147947880193746:=0
def tw1819383680855015414:=0
def tw18193899232851187994:=0
def tw18217948649297106185:=0
def tw18227714893266859399:=0
def tw1827288329956800999:=0
def tw1840806924652340491:=0
def tw192937777223652974:=0
def tw1961225113263516247:=0
def tw2052882009804081471:=0
def tw2105534984575454394:=0
def tw2115596650649221692:=0
def tw2125230585745832959:=0
def tw2195674906835187701:=0
def tw2236629476514905854:=0
def tw2242615238205450156:=0
def tw2255915563729726437:=0
def tw2358688278316600237:=0
def tw2459104408191754478:=0
def tw2612645941906816047:=0
def tw2635575654769792063:=0
def tw286173572050224670:=0
def tw2923567812005342755:=0
def tw3106469030648316913:=0
def tw3334087973186138171:=0
def tw3335896949486545336:=0
def tw3347948089124003607:=0
def tw3366580868309574729:=0
def tw3578397169857378272:=0
def tw3585451469595365370:=0
def tw3702855999104818888:=0
def tw3826422543682636572:=0
def tw4021921773396097839:=0
def tw4050254757538924323:=0
def tw4081418667855739467:=0
def tw4139024044960131032:=0
def tw4143249854526234949:=0
def tw4184181574560621190:=0
def tw4242350307914885070:=0
def tw4244909621221508999:=0
def tw4290501965753269982:=0
def tw4292944733437693973:=0
def tw4512714166512546806:=0
def tw4653424883058435335:=0
def tw4794360399562309517:=0
def tw4798296947285906125:=0
def tw4904365015557567782:=0
def tw5003235311614948940:=0
def tw5027340113793702862:=0
def tw5028927707855993198:=0
def tw507707748412368602:=0
def tw5164943783268849953:=0
def tw5229820561734215738:=0
def tw5233238379843876781:=0
def tw5280360750506293166:=0
def tw5331028326540904:=0
def tw5366126396364847056:=0
def tw5404210164973561200:=0
def tw5435344725084354821:=0
def tw5442322510071568274:=0
def tw5448849988181697550:=0
def tw5594591957699148919:=0
def tw5597066532445205291:=0
def tw5684706296767323354:=0
def tw5705267548873199469:=0
def tw5732583236457057:=0
def tw5941247684779009757:=0
def tw5978175866504576541:=0
def tw6265447306335634439:=0
def tw6283911120829188159:=0
def tw6305579726909527907:=0
def tw6375726171417810339:=0
def tw6439412831802646064:=0
def tw6505977080008750175:=0
def tw6562940035596543535:=0
def tw6592566766000361839:=0
def tw6627860635569874989:=0
def tw6631610507749818259:=0
def tw6635058079483231933:=0
def tw6732857380790291931:=0
def tw6852450769413682981:=0
def tw6915543718679901230:=0
def tw6958359987171639336:=0
def tw7016123278185558256:=0
def tw7123626934086643532:=0
def tw7410809800062116392:=0
def tw7431271014108126656:=0
def tw7439459139201434320:=0
def tw7444404273942763313:=0
def tw7465697116548739056:=0
def tw7481507315718420090:=0
def tw7495552121141544819:=0
def tw7578278083864807395:=0
def tw7580330454690833609:=0
def tw7605996487363676398:=0
def tw7633610051249662066:=0
def tw7662899992785845452:=0
def tw7859585820844820275:=0
def tw7928473514790002240:=0
def tw7976364577695761567:=0
def tw8002184013501336390:=0
def tw801368521879735541:=0
def tw8024076708269941010:=0
def tw8068774334287563882:=0
def tw8111632237575828187:=0
def tw8158200638899293390:=0
def tw8233158357623016036:=0
def tw8242480267184950374:=0
def tw8246440143670907235:=0
def tw8296866652682533910:=0
def tw8331064747478425537:=0
def tw8343845917453675598:=0
def tw8382805968322797027:=0
def tw8452042708437998286:=0
def tw8664079176660615842:=0
def tw8775702282946583891:=0
def tw8793358494029822635:=0
def tw8908096274484635282:=0
def tw8957639217879440505:=0
def tw8996120841893853820:=0
def tw9016687844950433001:=0
def tw9136185212275230650:=0
def tw921963814685668773:=0
def tw9313135341854762033:=0
def tw938141252905759399:=0
def tw9562449543559561095:=0
def tw9583049786017231737:=0
def tw9602869614266014311:=0
def tw9603965120258427690:=0
def tw9619149068297005498:=0
def tw9772818326648819112:=0
def tw9877080377345124534:=0
def tw9937214454879397557:=0
end PySem.W.Fast
open PySem PySem.W PyProof.Rows
set_option maxRecDepth 100000 in
set_option maxHeartbeats 0 in
theorem PySem.Challenge.cw_morethanhalf_k26_whole_ways_down_told_tr_holds : PySem.Challenge.rw_morethanhalf_k26_whole_ways_down_told_tr.Holds := by
 w_on;o_law;k_head;(case hw=>w_witness2)
 k_fill
 refine Law.walk (l:=PySem.Challenge.rw_morethanhalf_k26_whole_ways_down_told_tr) rfl rfl (fun w h Y=>PySem.W.kIn_of Y) ?F
 case F=>
  intro w mg fa h KX G hmg;refine' Law.all_mk KX G hmg ?_ ?_ ?_ ?_ ?_ ?_ ?_ ?_ ?_ ?_ ?_ ?_ ?_ ?_ ?_ ?_ ?_ ?_ ?_ ?_ ?_ ?_ ?_ ?_ ?_ ?_ ?_ ?_ ?_ ?_ ?_ ?_ ?_ ?_ ?_ ?_ ?_ ?_ ?_ ?_ ?_ ?_ ?_ ?_ ?_ ?_ ?_ ?_ ?_ ?_ ?_ ?_ ?_ ?_ ?_ ?_ ?_ ?_ ?_ ?_ ?_ ?_ ?_ ?_ ?_ ?_ ?_ ?_ ?_ ?_ ?_ ?_ ?_ ?_ ?_ ?_ ?_ ?_ ?_ ?_ ?_ ?_ ?_ ?_ ?_ ?_ ?_ ?_ ?_ ?_ ?_ ?_ ?_ ?_ ?_ ?_ ?_ ?_ ?_ ?_ ?_ ?_ ?_ ?_ ?_ ?_ ?_ ?_ ?_ ?_ ?_ ?_ ?_ ?_ ?_ ?_ ?_ ?_ ?_ ?_ ?_ ?_ ?_ ?_ ?_ ?_ ?_ ?_ ?_ ?_ ?_ ?_ ?_ ?_ ?_ ?_ ?_ ?_ ?_ ?_ ?_ ?_ ?_ ?_ ?_ ?_ ?_ ?_ ?_ ?_ ?_ ?_ ?_ ?aE ?aD ?aC ?aG ?_ ?_ ?_ ?_ ?_ ?_ ?_ ?_ ?_ ?_ ?_ ?aj ?ah ?aq ?ai ?_ ?_ ?_ ?_ ?_ ?_ ?_ ?_ ?_ ?_ ?_ ?_ ?_ ?_ ?_ ?_ ?_ ?_ ?_ ?_ ?_ ?_
  (case aj=>k_is)
  (case ah=>k_is)
  (case aq=>k_is)
  (case ai=>k_is)
  (case aE=>k_is)
  (case aD=>k_is)
  (case aC=>rfl)
  (case aG=>rfl)
  all_goals(first|k_is|kit_is|kernel_rfl|skip)

