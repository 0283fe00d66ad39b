import PyProof.Rows.All
import Wide.All
import OpenK.AllK
import Wide.FinOn
import Lean
import PyProof.EqAt
import PyProof.EqKinds
import PyProof.TupleCall
import PyProof.NsDelKeeps
import KE.KTryMore
import OpenK.KOwn
import PyProof.ExcBaseAll.ValueError
import PyProof.Rows.CountFlat
import PyProof.Rows.SeqMore2
import PyProof.SumWalkG
import PyProof.FitsBits
import PyProof.Rows.IntMath
import PyProof.P3Eq
import PyProof.ZipIter
import PyProof.TupleIter
import PyProof.TupleOfSeq
import PyProof.TupleOfGen
import PyProof.ListRange
import PyProof.Rows.SeqMore
import PySem.Challenge.RW_morethanhalf_k25_papers_of_another_shape
set_option Elab.async false
set_option linter.all false
set_option compiler.extract_closed false
set_option maxRecDepth 100000
set_option maxHeartbeats 0
open PySem.W (Frag nsIn keepIn codeIn fnOf mg_of findIn mg_none_of isFn)
noncomputable section
abbrev QS:=List (PySem.Addr×PySem.Obj)
abbrev OK:=PySem.Value->PySem.Shared->Prop
theorem Vt:type_of% @PySem.wpAny_bind:=@PySem.wpAny_bind
theorem Vu:type_of% @PySem.Heap.get?_push_of_some:=@PySem.Heap.get?_push_of_some
theorem Vv:type_of% @Nat.le_refl:=@Nat.le_refl
theorem Vw:type_of% @List.getElem?_eq_some_iff.{0}:=@List.getElem?_eq_some_iff.{0}
theorem Vx:type_of% @PySem.wpAny_pure:=@PySem.wpAny_pure
theorem Vy:type_of% @PySem.Heap.lt_size:=@PySem.Heap.lt_size
theorem Vz:type_of% @PySem.wpAny_mono:=@PySem.wpAny_mono
theorem VA:type_of% @List.getElem?_eq_getElem.{0}:=@List.getElem?_eq_getElem.{0}
theorem VB:type_of% @List.map_cons.{0,0}:=@List.map_cons.{0,0}
theorem VC:type_of% @PySem.Heap.get?_push_size:=@PySem.Heap.get?_push_size
theorem VD:type_of% @List.getD_eq_getElem?_getD.{0}:=@List.getD_eq_getElem?_getD.{0}
theorem VE:type_of% @List.mem_append_right.{0}:=@List.mem_append_right.{0}
theorem VF:type_of% @List.length_map.{0,0}:=@List.length_map.{0,0}
theorem VG:type_of% @decide_eq_false:=@decide_eq_false
theorem VH:type_of% @List.size_toArray.{0}:=@List.size_toArray.{0}
theorem VI:type_of% @List.mem_cons.{0}:=@List.mem_cons.{0}
theorem VJ:type_of% @List.find?_cons.{0}:=@List.find?_cons.{0}
theorem VL:type_of% @List.getElem?_append_left.{0}:=@List.getElem?_append_left.{0}
theorem VM:type_of% @Nat.lt_of_lt_of_le:=@Nat.lt_of_lt_of_le
theorem VN:type_of% @Nat.ne_of_lt:=@Nat.ne_of_lt
theorem VO:type_of% @List.mem_singleton.{0}:=@List.mem_singleton.{0}
theorem VP:type_of% @Option.some.inj.{0}:=@Option.some.inj.{0}
theorem VQ:type_of% @List.mem_append.{0}:=@List.mem_append.{0}
theorem VR:type_of% @List.getElem?_map.{0,0}:=@List.getElem?_map.{0,0}
theorem VS:type_of% @List.lookup_cons.{0,0}:=@List.lookup_cons.{0,0}
theorem VT:type_of% @List.getElem?_set_ne.{0}:=@List.getElem?_set_ne.{0}
theorem VU:type_of% @List.mem_filter.{0}:=@List.mem_filter.{0}
theorem VV:type_of% @List.getElem?_append_right.{0}:=@List.getElem?_append_right.{0}
theorem VW:type_of% @List.mem_map.{0,0}:=@List.mem_map.{0,0}
theorem VX:type_of% @decide_eq_true:=@decide_eq_true
theorem VY:type_of% @List.length_cons.{0}:=@List.length_cons.{0}
theorem VZ:type_of% @Bool.not_true:=@Bool.not_true
theorem V0:type_of% @Nat.le_trans:=@Nat.le_trans
theorem V1:type_of% @Nat.lt_irrefl:=@Nat.lt_irrefl
theorem V2:type_of% @PySem.mem_of_lookup:=@PySem.mem_of_lookup
theorem V3:type_of% @List.mem_cons_of_mem.{0}:=@List.mem_cons_of_mem.{0}
theorem V4:type_of% @List.all_eq_true.{0}:=@List.all_eq_true.{0}
theorem V5:type_of% @List.getElem_mem.{0}:=@List.getElem_mem.{0}
theorem V6:type_of% @PySem.PassesOwn.never:=@PySem.PassesOwn.never
theorem V7:type_of% @Bool.false_eq_true:=@Bool.false_eq_true
theorem V8:type_of% @List.drop_eq_getElem_cons.{0}:=@List.drop_eq_getElem_cons.{0}
theorem V9:type_of% @Bool.and_eq_true:=@Bool.and_eq_true
theorem Wa:type_of% @PyProof.Rows.callWith_type1:=@PyProof.Rows.callWith_type1
theorem Wb:type_of% @List.map_map.{0,0,0}:=@List.map_map.{0,0,0}
theorem Wc:type_of% @Bool.not_false:=@Bool.not_false
theorem We:type_of% @PySem.wpAny_truthy_bool:=@PySem.wpAny_truthy_bool
theorem Wf:type_of% @Option.isSome_iff_exists.{0}:=@Option.isSome_iff_exists.{0}
theorem Wg:type_of% @PySem.wpAny_newObj_type:=@PySem.wpAny_newObj_type
theorem Wh:type_of% @List.mem_range:=@List.mem_range
theorem Wi:type_of% @PySem.Heap.size_push:=@PySem.Heap.size_push
theorem Wj:type_of% @List.length_append.{0}:=@List.length_append.{0}
theorem Wk:type_of% @List.getElem?_of_mem.{0}:=@List.getElem?_of_mem.{0}
theorem Wl:type_of% @List.drop_eq_nil_of_le.{0}:=@List.drop_eq_nil_of_le.{0}
theorem Wm:type_of% @Nat.zero_le:=@Nat.zero_le
theorem Wn:type_of% @List.append_nil.{0}:=@List.append_nil.{0}
theorem Wo:type_of% @PySem.Around.under_plainId:=@PySem.Around.under_plainId
theorem Wq:type_of% @PySem.Heap.get?_update_other:=@PySem.Heap.get?_update_other
theorem Wr:type_of% @decide_eq_true_eq:=@decide_eq_true_eq
theorem Wu:type_of% @List.filter_eq_nil_iff.{0}:=@List.filter_eq_nil_iff.{0}
theorem Wv:type_of% @List.map_congr_left.{0,0}:=@List.map_congr_left.{0,0}
theorem Ww:type_of% @Classical.byContradiction:=@Classical.byContradiction
theorem Wx:type_of% @List.pairwise_iff_getElem.{0}:=@List.pairwise_iff_getElem.{0}
theorem Wy:type_of% @Bool.false_ne_true:=@Bool.false_ne_true
theorem Wz:type_of% @List.length_take.{0}:=@List.length_take.{0}
theorem WA:type_of% @Option.isSome_some.{0}:=@Option.isSome_some.{0}
theorem WB:type_of% @List.not_mem_nil.{0}:=@List.not_mem_nil.{0}
theorem WC:type_of% @List.find?_eq_none.{0}:=@List.find?_eq_none.{0}
theorem WD:type_of% @PySem.wpAny_holding:=@PySem.wpAny_holding
theorem WE:type_of% @PySem.wpAny_standAt:=@PySem.wpAny_standAt
theorem WF:type_of% @PySem.wpAny_comprehension_free:=@PySem.wpAny_comprehension_free
theorem WG:type_of% @List.length_eq_zero_iff.{0}:=@List.length_eq_zero_iff.{0}
theorem WH:type_of% @List.length_range:=@List.length_range
theorem WJ:type_of% @PySem.W.mg_none_of:=@PySem.W.mg_none_of
theorem WK:type_of% @Array.length_toList.{0}:=@Array.length_toList.{0}
theorem WL:type_of% @List.replicate_succ.{0}:=@List.replicate_succ.{0}
theorem WM:type_of% @PySem.sizeLine_eq:=@PySem.sizeLine_eq
theorem WN:type_of% @List.any_eq_true.{0}:=@List.any_eq_true.{0}
theorem WO:type_of% @PySem.wpAny_Call_Name_kw:=@PySem.wpAny_Call_Name_kw
theorem WP:type_of% @Bool.and_false:=@Bool.and_false
theorem WQ:type_of% @List.length_filter_le.{0}:=@List.length_filter_le.{0}
theorem WR:type_of% @PySem.wpAny_passesOwn:=@PySem.wpAny_passesOwn
theorem WS:type_of% @PySem.wpAny_loadPart':=@PySem.wpAny_loadPart'
theorem WT:type_of% @List.length_set.{0}:=@List.length_set.{0}
theorem WU:type_of% @PySem.W.kia_one:=@PySem.W.kia_one
theorem WV:type_of% @PySem.codeAny_builtin:=@PySem.codeAny_builtin
theorem WW:type_of% @Bool.eq_iff_iff:=@Bool.eq_iff_iff
theorem WX:type_of% @List.map_append.{0,0}:=@List.map_append.{0,0}
theorem WY:type_of% @Nat.zero_add:=@Nat.zero_add
theorem WZ:type_of% @List.any_cons.{0}:=@List.any_cons.{0}
theorem W8:type_of% @PySem.plainId_quiet:=@PySem.plainId_quiet
theorem W9:type_of% @PySem.F.plain_max_loop:=@PySem.F.plain_max_loop
theorem Xa:type_of% @List.filter_cons.{0}:=@List.filter_cons.{0}
theorem Xb:type_of% @Nat.lt_succ_of_lt:=@Nat.lt_succ_of_lt
theorem Xc:type_of% @Nat.ne_of_gt:=@Nat.ne_of_gt
def bq{p:Prop}(h:¬p->False):p:=Ww h
namespace L2
open PySem PySem.Spec PyProof.Rows
abbrev Key:=Sum Int Str
def v9:Key->Value->Bool
 | .inl k,v=>Value.isInt k v
 | .inr x,v=>Value.isStrOf x v
def ND(w:World):Key->Int
 | .inl k=>hashInt k
 | .inr x=>hashStr w x
theorem ui:∀{k:Key} {v:Value},v9 k v=true->(∃i t,k=Sum.inl i/\v=Value.int i t)\/(∃x t,k=Sum.inr x/\v=Value.str x t)
 | .inl i,v,h=>by
  obtain⟨t,e⟩:=Value.isInt_shape (k:=i) (v:=v) h;exact .inl ⟨i,t,rfl,e⟩
 | .inr x,v,h=>by
  obtain⟨t,e⟩:=Value.isStrOf_shape (x:=x) (v:=v) h;exact(.inr ⟨x,t,rfl,e⟩)
def RU(i:Int)(t:Tok):v9 (.inl i) (.int i t)=true:=by simp[v9,Value.isInt]
def UL(x:Str)(t:Tok):v9 (.inr x) (.str x t)=true:=by simp[v9,Value.isStrOf]
def S5(a b:Int):decide ((Sum.inl a:Key)=Sum.inl b)=(a==b):=by
 by_cases e:a=b
 ·subst e;simp
 ·have h:¬(Sum.inl a:Key)=Sum.inl b:=fun q=>e (Sum.inl.inj q);rw[VG h];exact(beq_eq_false_iff_ne.mpr e).symm
def R6(a b:Str):decide ((Sum.inr a:Key)=Sum.inr b)=decide (a=b):=by
 by_cases e:a=b
 ·subst e;simp
 ·have h:¬(Sum.inr a:Key)=Sum.inr b:=fun q=>e (Sum.inr.inj q);rw[VG h,VG e]
def Te(a:Int)(b:Str):decide ((Sum.inl a:Key)=Sum.inr b)=false:=VG (fun q=>nomatch q)
def UC(a:Str)(b:Int):decide ((Sum.inr a:Key)=Sum.inl b)=false:=VG (fun q=>nomatch q)
def si(prog:Program)(w:World):PySem.KeyKind prog w Key where
 is:=v9
 hash:=ND w
 inj:=fun v a b ha hb=>by
  rcases ui ha with⟨i,t,rfl,rfl⟩|⟨x,t,rfl,rfl⟩
  ·rcases ui hb with⟨j,u,rfl,e⟩|⟨y,u,rfl,e⟩
   ·injection e with e1 _;rw[e1]
   ·exact nomatch e
  ·rcases ui hb with⟨j,u,rfl,e⟩|⟨y,u,rfl,e⟩
   ·exact nomatch e
   ·injection e with e1 _;rw[e1]
 byValue:=fun k v h=>by
  rcases ui h with⟨i,t,rfl,rfl⟩|⟨x,t,rfl,rfl⟩<;>rfl
 pyHash:=fun hv h=>by
  rcases ui hv with⟨i,t,rfl,rfl⟩|⟨x,t,rfl,rfl⟩
  ·exact wpAny_pyHash_int h
  ·exact wpAny_pyHash_str h
 eqBool:=fun hu hv h=>by
  rcases ui hu with⟨i,t,rfl,rfl⟩|⟨x,t,rfl,rfl⟩
  ·rcases ui hv with⟨j,u,rfl,rfl⟩|⟨y,u,rfl,rfl⟩
   ·rw[S5] at h;exact wpAny_eqBool_int h
   ·rw[Te] at h;exact SeqAt.EqAt.int_str i t y u _ _ _ _ h
  ·rcases ui hv with⟨j,u,rfl,rfl⟩|⟨y,u,rfl,rfl⟩
   ·rw[UC] at h;exact SeqAt.EqAt.str_int x t j u _ _ _ _ h
   ·rw[R6] at h;exact wpAny_eqBool_str h
 «strs»:=fun k x t v h=>by
  rcases ui h with⟨i,u,rfl,e⟩|⟨y,u,rfl,e⟩
  ·exact nomatch e
  ·injection e with e1 _
   subst e1;cases v<;>rfl
def RY(prog:Program)(w:World)(i:Int)(t:Tok):(si prog w).is (.inl i) (.int i t)=true:=RU i t
def PU(prog:Program)(w:World)(x:Str)(t:Tok):(si prog w).is (.inr x) (.str x t)=true:=UL x t
inductive V where
 |non|bl (b:Bool)|int (i:Int)|str (x:Str)|byt (b:Array UInt8)|flt (b:UInt64)|ref (a:Addr)|ty (n:String)
 deriving DecidableEq
def RelV:V->Value->Prop
 | .non,u=>u=Value.none
 | .bl b,u=>u=Value.bool b
 | .int i,u=>∃t,u=Value.int i t
 | .str x,u=>∃t,u=Value.str x t
 | .byt b,u=>∃t,u=Value.bytes b t
 | .flt b,u=>∃t,u=Value.float b t
 | .ref a,u=>u=Value.ref a
 | .ty n,u=>u=Value.type n
abbrev Vals:List V->List Value->Prop:=Paired RelV
def Vals.length{xs:List V}{us:List Value}(r:Vals xs us):xs.length=us.length:=Paired.length r
theorem Vals.get:∀{xs:List V} {us:List Value} {i:Nat} {x:V},Vals xs us->xs[i]?=some x->∃u,us[i]?=some u/\RelV x u
 |_,_,_,_,.nil,e=>by simp at e
 |_,_,0,_,.cons r _,e=>by simp at e;subst e;exact⟨_,rfl,r⟩
 |_,_,i+1,x,.cons _ t,e=>by
  obtain⟨u,h1,h2⟩:=Vals.get (i:=i) (x:=x) t (by simpa using e);exact(⟨u,by simpa using h1,h2⟩)
theorem Vals.set{x:V}{u:Value}(r:RelV x u):∀{xs:List V} {us:List Value} (i:Nat),Vals xs us->Vals (xs.set i x) (us.set i u)
 |_,_,_,.nil=>.nil
 |_,_,0,.cons _ t=>.cons r t
 |_,_,i+1,.cons q t=>.cons q (Vals.set r i t)
theorem Vals.append:∀{xs ys:List V} {us ws:List Value},Vals xs us->Vals ys ws->Vals (xs++ys) (us++ws)
 |_,_,_,_,.nil,s=>s
 |_,_,_,_,.cons r t,s=>.cons r (Vals.append t s)
theorem Vals.take:∀{xs:List V} {us:List Value} (n:Nat),Vals xs us->Vals (xs.take n) (us.take n)
 |_,_,0,_=>.nil
 |_,_,_+1,.nil=>.nil
 |_,_,n+1,.cons r t=>.cons r (Vals.take n t)
theorem Vals.drop:∀{xs:List V} {us:List Value} (n:Nat),Vals xs us->Vals (xs.drop n) (us.drop n)
 |_,_,0,r=>r
 |_,_,_+1,.nil=>.nil
 |_,_,n+1,.cons _ t=>Vals.drop n t
def RelO:Option V->Option Value->Prop
 |some v,some u=>RelV v u
 |none,none=>True
 |_,_=>False
def KV{κ:Type}:List (κ×V)->List (κ×Value)->Prop:=Paired fun(p:κ×V) (q:κ×Value)=>p.1=q.1/\RelV p.2 q.2
def kV:Key->V
 | .inl i=>.int i
 | .inr x=>.str x
abbrev NK:=List Int×Int
section
variable {P:Program} {w:World}
def NkIs(P:Program)(w:World)(h:Heap)(k:NK)(a:Addr):Prop:=∃(o:Obj) (b:Addr) (t:Tok) (c:Nat),h.get? a=some o/\o.cls=.type "tuple"/\o.data=.seq #[.ref b,.int k.2 t] c/\IsTupleKey (intKind P w) h k.1 b
def Ce(P:Program)(w:World)(k:NK):Int:=reduceHash (Builtin.Tuple.tupleHashOf [tupleKeyHash (intKind P w) k.1,hashInt k.2])
variable {A:Around} {E:OK} {s:Shared} {k m:NK} {a b:Addr}
theorem NkIs.ty(x:NkIs P w s.heap k a):s.TypeIs (.ref a) "tuple":=let ⟨o,_,_,_,h1,h2,_⟩:=x;⟨o,h1,h2⟩
theorem NkIs.inj{h:Heap}(x:NkIs P w h k a)(y:NkIs P w h m a):k=m:=by
 obtain⟨o,b,t,c,h1,_,h3,h4⟩:=x;obtain⟨o',b',t',c',g1,_,g3,g4⟩:=y;rw[h1] at g1;cases g1;rw[h3] at g3;obtain⟨k1,k2⟩:=k;obtain⟨m1,m2⟩:=m;simp only[Data.seq.injEq,Array.mk.injEq,List.cons.injEq,Value.ref.injEq,Value.int.injEq] at g3;obtain⟨⟨e1,⟨e2,_⟩,_⟩,_⟩:=g3;subst e1;subst e2;have:=h4.inj g4;simp only at this;subst this;rfl
theorem NkIs.keeps{h h':Heap}{d:Addr}{o:Obj}{es ep}(x:NkIs P w h k a)(ho:h.get? d=some o)(hd:o.data=.dict es ep)(hs:Heap.SameBut d h h'):NkIs P w h' k a:=by
 obtain⟨q,b,t,c,h1,h2,h3,h4⟩:=x;refine⟨q,b,t,c,(hs.2 a ?_).trans h1,h2,h3,h4.keeps ho hd hs⟩;intro e;subst e;rw[ho] at h1;cases h1;rw[h3] at hd;cases hd
theorem MU{Q:Int->Shared->Prop}(hu:A.units+4<cLine)(x:NkIs P w s.heap k a)(h:Q (Ce P w k) {s with toks:=s.toks+(k.1.length+3)}):wpAny (model P w) A (pyHash (.ref a)) Q E s:=by
 have hT:=x.ty;obtain⟨o,b,t,c,h1,_,h3,h4⟩:=x;unfold pyHash;first|unfold pyHashByItsType|skip
 first|refine Vt (wpAny_cRoomFor_or (.inr (by omega)) ?_)|skip
 refine Vt (wpAny_specialOf hT F.slot_tuple_hash.lookup ?_);show wpAny _ _ (if(some (Value.builtin "tuple.__hash__")==some Value.none)=true then _ else _) Q E s;rw[if_neg (by rw[beq_builtin_none];exact Wy)];refine Vt (wpAny_specialOf hT F.slot_tuple_hash.lookup ?_);show wpAny _ _ (callSpecialIfBoundUnlessNone? (.ref a) "__hash__" _ >>= _) Q E s;refine Vt (wpAny_callSpecialIfBoundUnlessNone?_slot hT F.slot_tuple_hash (wpAny_call_entry F.slot_tuple_hash hT F.entry_tuple_hash ?_ (F.args_tuple_hash_1 _)));show wpAny _ _ (Builtin.Tuple.tupleItemsOf (.ref a) >>= _) _ _ s;refine Vt (wpAny_tupleItemsOf h1 h3 ?_);refine Vt ?_;rw[←Array.forIn_toList];show wpAny _ _ (forIn [Value.ref b,Value.int k.2 t] (#[]:Array Int) _) _ _ _;rw[List.forIn_cons];refine Vt (Vt (wpAny_pyHash_tuple (show A.in1.units<cLine by show A.units+1<cLine;omega) h4 (Vx ?_)));show wpAny _ _ (forIn [Value.int k.2 t] (#[tupleKeyHash (intKind P w) k.1]:Array Int) _) _ _ _;rw[List.forIn_cons];refine Vt (Vt ((intKind P w).pyHash (k:=k.2) (by simp[intKind,Value.isInt]) (Vx ?_)));show wpAny _ _ (forIn [] (#[tupleKeyHash (intKind P w) k.1,hashInt k.2]:Array Int) _) _ _ _;rw[List.forIn_nil];refine Vx ?_;show wpAny _ _ (retInt (Builtin.Tuple.tupleHashOf [tupleKeyHash (intKind P w) k.1,hashInt k.2])) _ _ _;refine wpAny_ret_mkInt ?_;have et:s.toks+(k.1.length+1)+1+1=s.toks+(k.1.length+3):=by omega
 unfold Ce reduceHash at h;generalize Builtin.Tuple.tupleHashOf [tupleKeyHash (intKind P w) k.1,hashInt k.2]=z at h⊢;show wpAny _ _ (ite ((decide (-(2:Int)^63<=z)&&decide (z<2^63))=true) _ _) Q E _;rw[←et] at h;by_cases hr:(decide (-(2:Int)^63<=z)&&decide (z<2^63))=true
 ·rw[if_pos hr] at h⊢;exact Vx h
 ·rw[if_neg hr] at h⊢;exact Vt (wpAny_rule (Vx h))
theorem Nx{Q:Fin->Shared->Prop}(hu:A.units<cLine)(x:NkIs P w s.heap k a)(y:NkIs P w s.heap m b)(h:Q (.done (.ret (.bool (decide (k=m))))) s):wpAny (model P w) A (Builtin.«tuple.__eq__» ⟨[.ref a,.ref b],[]⟩) Q E s:=by
 have hTb:=y.ty;obtain⟨o,b1,t,c,h1,_,h3,h4⟩:=x;obtain⟨o',b1',t',c',g1,_,g3,g4⟩:=y;show wpAny _ _ (isInstance (.ref b) (.type "tuple") >>= _) _ _ s;refine Vt (wpAny_isInstance hTb isSubtype_tuple_tuple ?_);simp only[VZ,V7,if_false];refine Vt (wpAny_tupleItemsOf h1 h3 ?_);refine Vt (wpAny_tupleItemsOf g1 g3 ?_);refine Vt ?_;show wpAny _ _ (forIn [(Value.ref b1,Value.ref b1'),(Value.int k.2 t,Value.int m.2 t')] ((none:Option PySem.Fin),()) _) _ _ _;rw[List.forIn_cons];refine Vt (Vt (wpAny_eqBool_tuple hu h4 g4 ?_));by_cases e1:k.1=m.1
 ·rw[VX e1];simp only[VZ,V7,if_false];refine Vx ?_;show wpAny _ _ (forIn [(Value.int k.2 t,Value.int m.2 t')] ((none:Option PySem.Fin),()) _) _ _ _;rw[List.forIn_cons];refine Vt (Vt ((intKind P w).eqBool (a:=k.2) (b:=m.2) (by simp[intKind,Value.isInt]) (by simp[intKind,Value.isInt]) ?_));by_cases e2:k.2=m.2
  ·have e:k=m:=Prod.ext e1 e2;rw[VX e] at h;rw[VX e2];simp only[VZ,V7,if_false];refine Vx ?_;show wpAny _ _ (forIn [] ((none:Option PySem.Fin),()) _) _ _ _;rw[List.forIn_nil];refine Vx ?_;exact Vx h
  ·have e:¬k=m:=fun z=>e2 (by rw[z]);rw[VG e] at h;rw[VG e2];simp only[Wc,if_true];exact Vt (Vx (Vx (Vx (Vx h))))
 ·have e:¬k=m:=fun z=>e1 (by rw[z]);rw[VG e] at h;rw[VG e1];simp only[Wc,if_true];exact Vt (Vx (Vx (Vx (Vx h))))
theorem QX{Q:Bool->Shared->Prop}(hu:A.units+4<cLine)(x:NkIs P w s.heap k a)(y:NkIs P w s.heap m b)(h:Q (decide (k=m)) s):wpAny (model P w) A (eqBool (.ref a) (.ref b)) Q E s:=by
 unfold eqBool;try with_reducible refine WD ?_
 show wpAny _ _ (ite ((Value.ref a==Value.ref b)=true) _ _) Q E s;by_cases hab:a=b
 ·subst hab;rw[if_pos (by simp)];have:=x.inj y;subst this;exact Vt (wpAny_rule (Vx (by simpa using h)))
 ·rw[if_neg (by simpa using hab)];exact Vt (wpAny_richCompare_same_room (op:=.Eq) x.ty y.ty F.slot_tuple_eq (wpAny_call_entry F.slot_tuple_eq x.ty F.entry_tuple_eq (Nx (by show A.units+1<cLine;omega) x y ⟨_,rfl,(fun e=>nomatch e),We h⟩) (F.args_tuple_eq_2 _ _)) (by omega))
theorem NS{ks:List Int}{n:Nat}{Q:Bool->Shared->Prop}(x:IsTupleKey (intKind P w) s.heap ks a)(h:Q true s):wpAny (model P w) A (eqIsQuiet (n+1) (.ref a)) Q E s:=by
 have hT:=x.typeIs;obtain⟨o,items,c,h1,_,h3,h4⟩:=x;unfold eqIsQuiet;refine Vt (wpAny_specialOf hT F.slot_tuple_eq.lookup ?_);show wpAny _ _ (isInstance (.ref a) (.type "tuple") >>= _) _ _ s;refine Vt (wpAny_isInstance hT isSubtype_tuple_tuple ?_);simp only[VZ,V7,if_false];refine Vt (wpAny_seqItems h1 h3 ?_);refine Vt ?_;show wpAny _ _ (forIn items _ _) _ _ s;rw[←Array.forIn_toList];refine wpAny_forIn_list _ (fun pU r s'=>r.1=none/\s'=s/\∀v∈pU,carriedByValue v=true) _ ?_ ?_ _ _ ⟨rfl,rfl,h4.byValue⟩
 ·intro v pU r s' q;obtain⟨_,e,q⟩:=q;subst e;rw[eqIsQuiet_byValue _ (q v (by simp))];refine Vt (Vx ?_);simp only[VZ,V7,if_false];exact Vx ⟨rfl,rfl,fun u hu=>q u (by simp[hu])⟩
 ·intro r s' q;obtain⟨r1,r2⟩:=r;obtain⟨e1,e2,_⟩:=q;cases e1;subst e2;exact Vx h
theorem R3{Q:Bool->Shared->Prop}(x:NkIs P w s.heap k a)(h:Q true s):wpAny (model P w) A (eqIsQuiet 8 (.ref a)) Q E s:=by
 have hT:=x.ty;obtain⟨o,b,t,c,h1,_,h3,h4⟩:=x;unfold eqIsQuiet;refine Vt (wpAny_specialOf hT F.slot_tuple_eq.lookup ?_);show wpAny _ _ (isInstance (.ref a) (.type "tuple") >>= _) _ _ s;refine Vt (wpAny_isInstance hT isSubtype_tuple_tuple ?_);simp only[VZ,V7,if_false];refine Vt (wpAny_seqItems h1 h3 ?_);refine Vt ?_;rw[←Array.forIn_toList];show wpAny _ _ (forIn [Value.ref b,Value.int k.2 t] _ _) _ _ s;rw[List.forIn_cons];refine Vt (Vt (NS h4 ?_));simp only[VZ,V7,if_false];refine Vx ?_;show wpAny _ _ (forIn [Value.int k.2 t] _ _) _ _ s;rw[List.forIn_cons,eqIsQuiet_byValue _ rfl];refine Vt (Vt (Vx ?_));simp only[VZ,V7,if_false];refine Vx ?_;show wpAny _ _ (forIn [] _ _) _ _ s;rw[List.forIn_nil];exact Vx (Vx h)
end
def xS(P:Program)(w:World):HeapKind P w NK where
 is:=NkIs P w
 hash:=Ce P w
 draws:=fun k=>k.1.length+3
 room:=fun A=>A.units+4<cLine
 inj:=fun x y=>x.inj y
 keeps:=fun x h1 h2 h3=>x.keeps h1 h2 h3
 pyHash:=fun h x q=>MU h x q
 eqBool:=fun h x y q=>QX h x y q
 quiet:=fun x q=>R3 x q
inductive HO where
 |lst (xs:List V)
 |tup (xs:List V)
 |dK (kvs:List (Key×V))|dT (kvs:List (NK×V))
 |set (S:Int->Bool) (n:Nat)
 |ins (C dx:Addr) (fs:List (Str×V))
 |own (x:Addr)
 |xd (fs:List (Str×V))
 |met (f x:Addr)
 |rng (lo hi:Int)
 |frz (o:Obj) (u:HO)
 |tbl (ps:Array Value)
 |ext (φ:Heap->Prop)
abbrev Hp:=Addr->Option HO
def NKey(H:Hp)(b:Addr)(k:NK):Prop:=∃c,H b=some (.tup [.ref c,.int k.2])/\H c=some (.tup (k.1.map V.int))
def NKey.up{H H':Hp}{b:Addr}{k:NK}(e:NKey H b k)(ht:∀b xs,H b=some (.tup xs)->H' b=some (.tup xs)):NKey H' b k:=let ⟨c,h1,h2⟩:=e;⟨c,ht _ _ h1,ht _ _ h2⟩
def upd(H:Hp)(a:Addr)(o:HO):Hp:=fun b=>if b=a then some o else H b
def qG{H:Hp}{a:Addr}{o:HO}:upd H a o a=some o:=by unfold upd;rw[if_pos rfl]
def pW{H:Hp}{a b:Addr}{o:HO}(h:b≠a):upd H a o b=H b:=by unfold upd;rw[if_neg h]
def Ri{H:Hp}{a b:Addr}{o u:HO}(h:H a=some o)(h':H b=some u)(d:o≠u):a≠b:=by
 intro e;subst e;rw[h] at h';exact d (VP h')
def rF{H:Hp}{a b:Addr}{o:HO}(h:H a=some o)(h':H b=none):a≠b:=by
 intro e;subst e;rw[h] at h';cases h'
section
variable (P:Program) (w:World)
def ObjOk(H:Hp)(h:Heap)(a:Addr):HO->Prop
 | .lst xs=>xs.length<=sizeLine/\∃(its:List Value) (n:Nat),Vals xs its/\h.get? a=some {cls:=.type "list",data:=.seq its.toArray n}
 | .tup xs=>xs.length<=sizeLine/\∃its:List Value,Vals xs its/\IsTup h a its.toArray
 | .dK kvs=>kvs.length<=sizeLine/\(a==sysModules)=false/\∃vs,KV kvs vs/\h.DictOf (si P w) a vs
 | .dT kvs=>kvs.length<=sizeLine/\(a==sysModules)=false/\∃xs:List (NK×Addr×Value),
   Paired (fun(p:NK×V) (q:NK×Addr×Value)=>p.1=q.1/\NKey H q.2.1 p.1/\RelV p.2 q.2.2) kvs xs/\
   ∃o es ep,h.get? a=some o/\o.ExactDict/\o.data=.dict es ep/\es.toList=xs.map (entryOfKey (xS P w))/\(xs.map (·.1)).Nodup
 | .set S n=>h.SetOf (intKind P w) a S n
 | .ins C dx fs=>H dx=some (.own a)/\fs.length<=1000/\dx≠a/\h.get? a=some (PySem.W.instObj C dx)/\
   ∃mA,h.Ns1 dx mA/\(∀f,RelO (fs.lookup f) (mA f))/\PySem.Within mA (fs.map (·.1))
 | .own _=>∃o,h.get? a=some o
 | .xd fs=>∃mA,h.Ns1 a mA/\∀f,RelO (fs.lookup f) (mA f)
 | .rng lo hi=>∃t u v,h.get? a=some {cls:=.type "range",data:=.fields #[.int lo t,.int hi u,.int 1 v]}
 | .frz o u=>h.get? a=some o/\ObjOk H h a u
 | .tbl ps=>h.get? a=some {cls:=.none,data:=.fields ps}
 | .met f x=>h.get? a=some (PySem.W.methodObj (.ref f) (.ref x))
 | .ext φ=>φ h/\(∃o,h.get? a=some o)/\∀h1 h2:Heap,φ h1->(∀o,h1.get? a=some o->h2.get? a=some o)->φ h2
def HOk(H:Hp)(h:Heap):Prop:=∀a o,H a=some o->ObjOk P w H h a o
end
section
variable {P:Program} {w:World} {H H':Hp} {h h':Heap} {a:Addr} {o:HO}
theorem ObjOk.lt(x:ObjOk P w H h a o):a<h.objs.size:=by
 cases o with
 |lst xs=>obtain⟨_,_,_,_,e⟩:=x;exact Vy e
 |tup xs=>obtain⟨_,_,_,p⟩:=x;exact p.lt
 |dK kvs=>obtain⟨_,_,_,_,o,_,_,e,_⟩:=x;exact Vy e
 |dT kvs=>obtain⟨_,_,_,_,o,_,_,e,_⟩:=x;exact Vy e
 |set S n=>obtain⟨o,_,_,_,e,_⟩:=x;exact Vy e
 |ins C dx fs=>obtain⟨_,_,_,e,_⟩:=x;exact Vy e
 |own y=>obtain⟨_,e⟩:=x;exact Vy e
 |xd fs=>obtain⟨_,⟨_,_,_,e,_⟩,_⟩:=x;exact Vy e
 |rng lo hi=>obtain⟨_,_,_,e⟩:=x;exact Vy e
 |frz ob u=>obtain⟨e,_⟩:=x;exact Vy e
 |tbl ps=>exact Vy (show h.get? a=some _ from x)
 |met f y=>exact Vy (show h.get? a=some _ from x)
 |ext φ=>obtain⟨_,⟨_,e⟩,_⟩:=x;exact Vy e
theorem Paired.mapP{J β:Type}{F G:J->β->Prop}:∀{Zg:List J} {Zf:List β},Paired F Zg Zf->(∀a b,F a b->G a b)->Paired G Zg Zf
 |_,_,.nil,_=>.nil
 |_,_,.cons r t,f=>.cons (f _ _ r) (Paired.mapP t f)
theorem ObjOk.stay(x:ObjOk P w H h a o)(k:∀b u,(b=a\/H b=some (.own a))->h.get? b=some u->h'.get? b=some u)
  (ho:∀b,H b=some (.own a)->H' b=some (.own a)) (ht:∀b xs,H b=some (.tup xs)->H' b=some (.tup xs)):ObjOk P w H' h' a o:=by
 induction o with
 |lst xs=>obtain⟨z,its,n,r,e⟩:=x;exact⟨z,its,n,r,k _ _ (.inl rfl) e⟩
 |tup xs=>obtain⟨z,its,r,ob,e,c⟩:=x;exact⟨z,its,r,ob,k _ _ (.inl rfl) e,c⟩
 |dK kvs=>obtain⟨z,y,vs,r,ob,es,ep,e,c⟩:=x;exact⟨z,y,vs,r,ob,es,ep,k _ _ (.inl rfl) e,c⟩
 |dT kvs=>
  obtain⟨z,y,xs,r,ob,es,ep,e,c⟩:=x;exact⟨z,y,xs,Paired.mapP r fun p q z=>⟨z.1,z.2.1.up ht,z.2.2⟩,ob,es,ep,k _ _ (.inl rfl) e,c⟩
 |set S n=>obtain⟨ob,es,ep,t,e,c⟩:=x;exact⟨ob,es,ep,t,k _ _ (.inl rfl) e,c⟩
 |ins C dx fs=>
  obtain⟨d,z,ne,e,mA,⟨od,es,ep,e2,c⟩,r⟩:=x;exact⟨ho _ d,z,ne,k _ _ (.inl rfl) e,mA,⟨od,es,ep,k _ _ (.inr d) e2,c⟩,r⟩
 |own y=>obtain⟨ob,e⟩:=x;exact⟨ob,k _ _ (.inl rfl) e⟩
 |xd fs=>obtain⟨mA,⟨od,es,ep,e,c⟩,r⟩:=x;exact⟨mA,⟨od,es,ep,k _ _ (.inl rfl) e,c⟩,r⟩
 |rng lo hi=>obtain⟨t,u,v,e⟩:=x;exact⟨t,u,v,k _ _ (.inl rfl) e⟩
 |frz ob u ih=>obtain⟨e,q⟩:=x;exact⟨k _ _ (.inl rfl) e,ih q⟩
 |tbl ps=>
  have e:h.get? a=some {cls:=.none,data:=.fields ps}:=x;show h'.get? a=some {cls:=.none,data:=.fields ps};exact k a _ (.inl rfl) e
 |met f y=>
  have e:h.get? a=some (PySem.W.methodObj (.ref f) (.ref y)):=x;show h'.get? a=some (PySem.W.methodObj (.ref f) (.ref y));exact k a _ (.inl rfl) e
 |ext φ=>obtain⟨p,⟨o,e⟩,st⟩:=x;exact⟨st _ _ p fun o q=>k _ _ (.inl rfl) q,⟨o,k _ _ (.inl rfl) e⟩,st⟩
theorem HOk.lt(x:HOk P w H h)(e:H a=some o):a<h.objs.size:=(x a o e).lt
theorem HOk.fresh(x:HOk P w H h)(e:h.objs.size<=a):H a=none:=by
 cases q:H a with
 |none=>rfl
 |some u=>exact absurd (VM (x.lt q) e) (V1 _)
theorem HOk.kept(x:HOk P w H h)(k:∀b u,h.get? b=some u->h'.get? b=some u):HOk P w H h':=fun a o e=>
 (x a o e).stay (fun b u _ q=>k b u q) (fun _ q=>q) fun _ _ q=>q
theorem HOk.laid(x:HOk P w H h)(k:∀b u,h.get? b=some u->h'.get? b=some u)(hp:h.objs.size<=a)(new:ObjOk P w (upd H a o) h' a o):HOk P w (upd H a o) h':=fun b u e=>by
 have hn:=x.fresh hp;by_cases hb:b=a
 ·subst hb;rw[qG] at e;cases e;exact new
 ·rw[pW hb] at e;exact(x b u e).stay (fun c v _ q=>k c v q) (fun c q=>by rw[pW (rF q hn)];exact q) fun c xs q=>by rw[pW (rF q hn)];exact q
end
def Rd(H:Hp)(a:Addr)(u:HO):Prop:=H a=some u\/∃o,H a=some (.frz o u)
def Rd.ok{P:Program}{w:World}{H:Hp}{h:Heap}{a:Addr}{u:HO}(r:Rd H a u)(x:HOk P w H h):ObjOk P w H h a u:=by
 rcases r with r|⟨o,r⟩
 ·exact x a u r
 ·obtain⟨_,q⟩:=x a _ r;exact q
def Mut:Option HO->Prop
 |some (.lst _)=>True
 |some (.dK _)=>True
 |some (.dT _)=>True
 |some (.set _ _)=>True
 |some (.ins _ _ _)=>True
 |some (.ext _)=>True
 |_=>False
section
variable {P:Program} {w:World} {H:Hp} {h h':Heap} {x e:Addr} {o':HO}
theorem HOk.write(ok:HOk P w H h)(mu:Mut (H x))(he:e=x\/H e=some (.own x))(k:∀b u,b≠e->h.get? b=some u->h'.get? b=some u)(heo:∃u,h'.get? e=some u)
  (new:ObjOk P w (upd H x o') h' x o'):HOk P w (upd H x o') h':=fun b u q=>by
 have nown:∀c y,H c=some (.own y)->c≠x:=fun c y r z=>by subst z;rw[r] at mu;exact mu
 have ntup:∀c xs,H c=some (.tup xs)->c≠x:=fun c xs r z=>by subst z;rw[r] at mu;exact mu
 by_cases hb:b=x
 ·subst hb;rw[qG] at q;cases q;exact new
 ·rw[pW hb] at q;by_cases hbe:b=e
  ·have q':H b=some (.own x):=by
    rcases he with z|z
    ·exact absurd (hbe.trans z) hb
    ·rw[hbe];exact z
   rw[q] at q';cases q';obtain⟨v,hv⟩:=heo;exact⟨v,by rw[hbe];exact hv⟩
  ·refine(ok b u q).stay (fun c v hc r=>k c v ?_ r) (fun c r=>by rw[pW (nown c b r)];exact r) fun c xs r=>by rw[pW (ntup c xs r)];exact r
   rcases hc with rfl|hc
   ·exact hbe
   ·rintro rfl;rcases he with z|z
    ·exact nown c b hc z
    ·rw[hc] at z;cases z;exact hb rfl
end
structure Un (fs ex:List Addr) (H H':Hp) (h h':Heap):Prop where
 keep:∀b o,h.get? b=some o->H b=none->b∉fs->b∉ex->h'.get? b=some o
 slot:∀b o,h.get? b=some o->H b=none->b∈fs->b∉ex->∃sl,h'.get? b=some {o with slots:=sl}
 free:∀b o,h.get? b=some o->H b=none->b∉ex->H' b=none
 there:∀b o,h.get? b=some o->b∉ex->∃o',h'.get? b=some o'
 tups:∀b xs,H b=some (.tup xs)->H' b=some (.tup xs)
 frzs:∀b o u,H b=some (.frz o u)->H' b=some (.frz o u)
 tbls:∀b ps,H b=some (.tbl ps)->∃more,H' b=some (.tbl (ps++more))
section
variable {fs ex:List Addr} {H H1:Hp} {h h1 h':Heap} {a x e:Addr} {o:HO}
theorem Un.any(u:Un fs ex H H1 h h1){b:Addr}{ob:Obj}(q:h.get? b=some ob)(n:H b=none)(hx:b∉ex):∃sl,h1.get? b=some {ob with slots:=sl}:=by
 by_cases hb:b∈fs
 ·exact u.slot b ob q n hb hx
 ·exact⟨ob.slots,u.keep b ob q n hb hx⟩
theorem Un.kept(k:∀b u,h.get? b=some u->h'.get? b=some u):Un fs ex H H h h':=
 ⟨fun b ob q _ _ _=>k b ob q,fun b ob q _ _ _=>⟨ob.slots,k b ob q⟩,fun _ _ _ n _=>n,fun b ob q _=>⟨ob,k b ob q⟩,fun _ _ q=>q,fun _ _ _ q=>q,fun _ ps q=>⟨#[],by rw[q];simp⟩⟩
theorem Un.refl:Un fs ex H H h h:=Un.kept fun _ _ q=>q
theorem Un.laid(k:∀b u,h.get? b=some u->h'.get? b=some u)(hp:h.objs.size<=a)(hn:H a=none):Un fs ex H (upd H a o) h h' where
 keep:=fun b u q _ _ _=>k b u q
 slot:=fun b u q _ _ _=>⟨u.slots,k b u q⟩
 free:=fun b u q n _=>by rw[pW (VN (VM (Vy q) hp))];exact n
 there:=fun b u q _=>⟨u,k b u q⟩
 tups:=fun b xs q=>by rw[pW (rF q hn)];exact q
 frzs:=fun b u xs q=>by rw[pW (rF q hn)];exact q
 tbls:=fun b ps q=>⟨#[],by rw[pW (rF q hn),q];simp⟩
theorem Un.write(mu:Mut (H x))(he:e=x\/H e=some (.own x))(k:∀b u,b≠e->h.get? b=some u->h'.get? b=some u)(heo:∃u,h'.get? e=some u):Un fs ex H (upd H x o) h h':=by
 have hx:∀b,H b=none->b≠x:=fun b n z=>by subst z;rw[n] at mu;exact mu
 have hb:∀b,H b=none->b≠e:=fun b n z=>by
  subst z;rcases he with r|r
  ·exact hx b n r
  ·rw[n] at r;cases r
 have hm:∀b u,H b=some u->¬Mut (some u)->b≠x:=fun b u q nm z=>by subst z;rw[q] at mu;exact nm mu
 refine⟨fun b u q n _ _=>k b u (hb b n) q,fun b u q n _ _=>⟨u.slots,k b u (hb b n) q⟩,fun b u q n _=>by rw[pW (hx b n)];exact n,fun b u q _=>?_,
  fun b xs q=>by rw[pW (hm b _ q fun z=>z)];exact q,fun b u xs q=>by rw[pW (hm b _ q fun z=>z)];exact q,fun b ps q=>⟨#[],by rw[pW (hm b _ q fun z=>z),q];simp⟩⟩
 by_cases hbe:b=e
 ·subst hbe;exact heo
 ·exact⟨u,k b u hbe q⟩
end
def trk(h:Heap)(H:Hp):List Addr:=(List.range h.objs.size).filter fun a=>(H a).isSome
def u4(h:Heap)(H:Hp):Heap:=PySem.W.hideAll h (trk h H)
def Sa(h:Heap)(H:Hp):(u4 h H).objs.size=h.objs.size:=PySem.W.hideAll_size _ _
def Tp{h:Heap}{H:Hp}{b:Addr}{o:Obj}(e:h.get? b=some o)(n:H b=none):(u4 h H).get? b=some o:=
 PySem.W.hideAll_get _ e fun hm=>by
  have q:(H b).isSome=true:=(VU.mp hm).2;rw[n] at q;simp at q
def M0{h:Heap}{H:Hp}{b:Addr}{o:Obj}(e:(u4 h H).get? b=some o):h.get? b=some o/\H b=none:=by
 have e':h.get? b=some o:=PySem.W.of_hideAll (trk h H) e;refine⟨e',?_⟩;cases q:H b with
 |none=>rfl
 |some x=>
  have hm:b∈trk h H:=VU.mpr ⟨Wh.mpr (Vy e'),by simp[q]⟩;have z:(u4 h H).get? b=none:=PySem.W.hideAll_none (trk h H) hm;rw[z] at e;cases e
def QM(g h:Heap)(Z9:Addr):QS:=(List.range h.objs.size).filterMap fun a=>if a=Z9\/(g.get? a).isSome=true then none else(h.get? a).map fun o=>(a,o)
def pU(g h:Heap)(Z9 d:Addr):QS:=(QM g h Z9).filter fun p=>decide (p.1≠d)
structure Mod (K:Frag) (mg:Str->Option Value) (base:Heap):Prop where
 kin:K.In base
 glob:base.Ns mainGlobals mg
 blt:∃mb,base.Ns builtinsNs mb/\∀x:Str,x≠"__name__"->mb x=bootBuiltins x
 nolimit:base.NoLimit
structure Cx where
 prog:Program
 w:World
 K:Frag
 mg:Str->Option Value
 base:Heap
 A:Around
 N:List Str
 Z2:Shared
 Z0:Hp
 env:Env
 outer:List Env
 stack:List Env
 ex:List Addr
 fn:Str->Bool
 calm:Bool
 pn:QS
 xe:Value->Shared->Prop
def frs(l:List Env):List Addr:=l.filterMap (·.frame)
abbrev Cx.fs(X:Cx):List Addr:=frs X.outer
def Vis(sc:Scope)(x:Str):Prop:=sc.names.lookup x=some .local\/sc.names.lookup x=some .cell\/sc.names.lookup x=some .free
def Loc(sc:Scope)(x:Str):Prop:=sc.names.lookup x=some .local\/sc.names.lookup x=some .cell
def Rz(env:Env)(h:Heap)(m:Str->Option Value)(x:Str)(u:Value):Prop:=
 (env.kindOf x=some .local/\m x=some u)\/((env.kindOf x=some .cell\/env.kindOf x=some .free)/\∃c,env.cells.lookup x=some c/\h.IsCell c (some u))
structure Cx.Ok (X:Cx):Prop where
 mod:Mod X.K X.mg X.base
 kind:X.env.scope.kind=.function
 glob:X.env.globals=mainGlobals
 blt:X.env.builtins=builtinsNs
 above:X.Z2.heap.objs.size<=X.env.locals
 inj:∀x y c,X.env.cells.lookup x=some c->X.env.cells.lookup y=some c->x=y
 has:∀x,(X.env.kindOf x=some .cell\/X.env.kindOf x=some .free)->∃c,X.env.cells.lookup x=some c
 cab:∀x c,X.fn x=true->X.env.cells.lookup x=some c->X.Z2.heap.objs.size<=c
 hd:X.calm=true->X.A.handled=none
 frames:X.A.frames=some X.stack
 stk:X.stack=X.outer\/(X.stack=X.env::X.outer/\X.env.frame=some X.env.locals)
 exf:∀b∈X.ex,b≠X.env.locals/\∀x c,X.env.cells.lookup x=some c->c≠b
 bs:∀b o,X.base.get? b=some o->X.Z2.heap.get? b=some o/\X.Z0 b=none
 bsz:X.base.objs.size<=X.Z2.heap.objs.size
 noex:∀b o,X.base.get? b=some o->b∉X.ex
 exfs:∀b∈X.ex,b∉X.fs
 funs:X.Z2.heap.FunFrames X.base X.outer
 frf:∀b∈X.fs,X.Z0 b=none
structure Inv (X:Cx) (pins:QS) (B:List (Option V)) (H:Hp) (s:Shared):Prop where
 ok:X.Ok
 os:s.os=X.Z2.os
 bare:AllBare s.gens
 base:Un X.fs X.ex X.Z0 H X.Z2.heap s.heap
 loc:∃m,s.heap.Ns X.env.locals m/\∀(i:Nat) (x:Str) (v:V),X.N[i]?=some x->B[i]?=some (some v)->Vis X.env.scope x->∃u,RelV v u/\Rz X.env s.heap m x u
 cell:∀x c,X.env.cells.lookup x=some c->∃v,s.heap.IsCell c v
 free:H X.env.locals=none
 freeC:∀x c,X.env.cells.lookup x=some c->H c=none
 pin:∀p∈X.pn++pins,s.heap.get? p.1=some p.2/\H p.1=none/\p.1≠X.env.locals/\p.1∉X.fs/\∀v,p.2.data≠.cell v
 hok:HOk X.prog X.w H s.heap
 len:B.length=X.N.length
section
variable {X:Cx} {pins:QS} {B:List (Option V)} {H H':Hp} {s:Shared} {h':Heap}
theorem Cx.Ok.nofr(ok:X.Ok){b:Addr}{o:Obj}(e:X.base.get? b=some o):b∉X.fs:=fun hb=>by
 have:=(ok.funs.mem hb).1;rw[e] at this;cases this
theorem Inv.bs(I:Inv X pins B H s):∀b o,X.base.get? b=some o->s.heap.get? b=some o/\H b=none:=fun b o e=>
 ⟨I.base.keep b o (I.ok.bs b o e).1 (I.ok.bs b o e).2 (I.ok.nofr e) (I.ok.noex b o e),I.base.free b o (I.ok.bs b o e).1 (I.ok.bs b o e).2 (I.ok.noex b o e)⟩
theorem Inv.bk(I:Inv X pins B H s):∀b o,X.base.get? b=some o->s.heap.get? b=some o:=fun b o e=>(I.bs b o e).1
theorem Inv.mod(I:Inv X pins B H s):Mod X.K X.mg X.base:=I.ok.mod
theorem Inv.kIn(I:Inv X pins B H s):X.K.In s.heap:=I.ok.mod.kin.keeps I.bk
theorem Inv.lt(I:Inv X pins B H s):X.env.locals<s.heap.objs.size:=let ⟨_,hn,_⟩:=I.loc;hn.lt
theorem Inv.sz(I:Inv X pins B H s):X.Z2.heap.objs.size<=s.heap.objs.size:=V0 I.ok.above (Nat.le_of_lt I.lt)
theorem Inv.nofs(I:Inv X pins B H s){a:Addr}(h:s.heap.objs.size<=a):a∉X.fs:=fun hb=>by
 obtain⟨_,o,ho,_⟩:=I.ok.funs.mem hb;exact(absurd (VM (Vy ho) (V0 I.sz h)) (V1 _))
theorem Inv.cne(I:Inv X pins B H s):∀x c,X.env.cells.lookup x=some c->c≠X.env.locals:=fun x c e z=>by
 obtain⟨v,o,ho,hd⟩:=I.cell x c e;obtain⟨m,⟨o',es,ep,ho',hd',_⟩,_⟩:=I.loc;rw[z,ho'] at ho;cases ho;rw[hd'] at hd;cases hd
theorem Inv.funs(I:Inv X pins B H s):s.heap.FunFrames X.base X.outer:=by
 have all:∀(l:List Env),(∀b∈frs l,b∈X.fs)->X.Z2.heap.FunFrames X.base l->s.heap.FunFrames X.base l:=by
  intro l;induction l with
  |nil=>intro _ _;trivial
  |cons env r ih=>
   intro hs hl;obtain⟨hk,⟨Z9,o,hf,hn,ho,hd⟩,hr⟩:=hl;have hL:Z9∈X.fs:=hs Z9 (by unfold frs;rw[List.filterMap_cons,hf];exact List.mem_cons_self);obtain⟨sl,e⟩:=I.base.slot Z9 o ho (I.ok.frf Z9 hL) hL fun z=>I.ok.exfs Z9 z hL;exact⟨hk,⟨Z9,_,hf,hn,e,hd⟩,ih (fun b hb=>hs b (by unfold frs;rw[List.filterMap_cons,hf];exact V3 _ hb)) hr⟩
 exact all X.outer (fun _ hb=>hb) I.ok.funs
theorem Inv.stack(I:Inv X pins B H s):s.heap.FunFrames X.base X.stack:=by
 rcases I.ok.stk with e|⟨e,hf⟩
 ·rw[e];exact I.funs
 ·rw[e];obtain⟨m,hn,_⟩:=I.loc;refine .cons (by rw[I.ok.kind];decide) hf hn ?_ I.funs;exact Heap.get?_none_of_le (V0 I.ok.bsz I.ok.above)
theorem Inv.stkSub(I:Inv X pins B H s):∀b∈frs X.stack,b∈X.env.locals::X.fs:=fun b hb=>by
 rcases I.ok.stk with e|⟨e,hf⟩
 ·rw[e] at hb;exact V3 _ hb
 ·rw[e] at hb;unfold frs at hb;rw[List.filterMap_cons,hf] at hb;exact hb
theorem Inv.stkFree(I:Inv X pins B H s):∀b∈frs X.stack,H b=none:=fun b hb=>by
 rcases VI.mp (I.stkSub b hb) with e|hb
 ·rw[e];exact I.free
 ·obtain⟨_,o,ho,_⟩:=I.ok.funs.mem hb;exact I.base.free b o ho (I.ok.frf b hb) fun z=>I.ok.exfs b z hb
theorem Inv.step{g':Array GenState}{t':Nat}{d':Drawn}{ch:List Addr}(I:Inv X pins B H s)
  (hch:∀b∈ch,(b∈X.ex\/X.Z2.heap.objs.size<=b)/\b≠X.env.locals/\(∀x c,X.env.cells.lookup x=some c->c≠b)/\∀p∈X.pn++pins,p.1≠b)
  (keep:∀b o,b≠X.env.locals->b∉X.fs->b∉ch->s.heap.get? b=some o->H b=none->h'.get? b=some o)
  (slot:∀b o,b≠X.env.locals->b∈X.fs->b∉ch->s.heap.get? b=some o->H b=none->∃sl,h'.get? b=some {o with slots:=sl}) (free:∀b o,b∉ch->s.heap.get? b=some o->H b=none->H' b=none)
  (there:∀b o,b∉ch->s.heap.get? b=some o->∃o',h'.get? b=some o')
  (tups:∀b xs,H b=some (.tup xs)->H' b=some (.tup xs)) (frzs:∀b o u,H b=some (.frz o u)->H' b=some (.frz o u)) (tbls:∀b ps,H b=some (.tbl ps)->∃more,H' b=some (.tbl (ps++more)))
  (ns:∀m,s.heap.Ns X.env.locals m->h'.Ns X.env.locals m) (hok:HOk X.prog X.w H' h') (hg:AllBare g'):
  Inv X pins B H' {s with heap:=h',gens:=g',drawn:=d',toks:=t'}:=by
 have neL:∀b o,X.Z2.heap.get? b=some o->b≠X.env.locals:=fun b o e=>VN (VM (Vy e) I.ok.above);have neC:∀b o,X.Z2.heap.get? b=some o->b∉X.ex->b∉ch:=fun b o e hx hb=>by
  rcases(hch b hb).1 with z|z
  ·exact hx z
  ·exact absurd (VM (Vy e) z) (V1 _)
 have cellK:∀x c,X.env.cells.lookup x=some c->∀v,s.heap.IsCell c v->h'.IsCell c v:=fun x c e v ⟨o,ho,hd⟩=>by
  have nch:c∉ch:=fun z=>(hch c z).2.2.1 x c e rfl;by_cases hc:c∈X.fs
  ·obtain⟨sl,q⟩:=slot c o (I.cne x c e) hc nch ho (I.freeC x c e);exact⟨_,q,hd⟩
  ·exact⟨o,keep c o (I.cne x c e) hc nch ho (I.freeC x c e),hd⟩
 refine⟨I.ok,I.os,hg,⟨fun b o e n hb hx=>?_,fun b o e n hb hx=>?_,fun b o e n hx=>?_,fun b o e hx=>?_,fun b xs e=>tups b xs (I.base.tups b xs e),fun b o xs e=>frzs b o xs (I.base.frzs b o xs e),fun b ps e=>?_⟩,?_,fun x c e=>?_,?_,fun x c e=>?_,fun p hp=>?_,hok,I.len⟩
 ·exact keep b o (neL b o e) hb (neC b o e hx) (I.base.keep b o e n hb hx) (I.base.free b o e n hx)
 ·obtain⟨sl,e1⟩:=I.base.slot b o e n hb hx;obtain⟨sl',e2⟩:=slot b _ (neL b o e) hb (neC b o e hx) e1 (I.base.free b o e n hx);exact(⟨sl',e2⟩)
 ·obtain⟨o',e1⟩:=I.base.there b o e hx;exact free b o' (neC b o e hx) e1 (I.base.free b o e n hx)
 ·obtain⟨o',e1⟩:=I.base.there b o e hx;exact there b o' (neC b o e hx) e1
 ·obtain⟨m1,e1⟩:=I.base.tbls b ps e;obtain⟨m2,e2⟩:=tbls b _ e1;exact(⟨m1++m2,by rw[e2,Array.append_assoc]⟩)
 ·obtain⟨m,hn,hl⟩:=I.loc;refine⟨m,ns m hn,fun i x v e1 e2 e3=>?_⟩;obtain⟨u,r,l⟩:=hl i x v e1 e2 e3;refine(⟨u,r,?_⟩);rcases l with l|⟨k,c,e,z⟩
  ·exact .inl l
  ·exact .inr ⟨k,c,e,cellK x c e _ z⟩
 ·obtain⟨v,z⟩:=I.cell x c e;exact⟨v,cellK x c e v z⟩
 ·obtain⟨m,⟨o,_,_,ho,_⟩,_⟩:=I.loc;exact free _ o (fun z=>(hch _ z).2.1 rfl) ho I.free
 ·obtain⟨v,o,ho,hd⟩:=I.cell x c e;exact free c o (fun z=>(hch c z).2.2.1 x c e rfl) ho (I.freeC x c e)
 ·obtain⟨e,n,ne,nf,d⟩:=I.pin p hp;have nch:p.1∉ch:=fun z=>(hch p.1 z).2.2.2 p hp rfl;exact⟨keep p.1 p.2 ne nf nch e n,free p.1 p.2 nch e n,ne,nf,d⟩
theorem Inv.un{t':Nat}(I:Inv X pins B H s)(u:Un X.fs [] H H' s.heap h')(hok:HOk X.prog X.w H' h'):Inv X pins B H' {s with heap:=h',toks:=t'}:=by
 obtain⟨m,⟨o,es,ep,ho,r⟩,_⟩:=id I.loc;obtain⟨sl,hL⟩:=u.any ho I.free (by simp);exact I.step (g':=s.gens) (d':=s.drawn) (ch:=[]) (fun _ z=>nomatch z) (fun b o _ hb _ e n=>u.keep b o e n hb (by simp)) (fun b o _ hb _ e n=>u.slot b o e n hb (by simp)) (fun b o _ e n=>u.free b o e n (by simp)) (fun b o _ e=>u.there b o e (by simp)) u.tups u.frzs u.tbls (fun m' hm=>by
  obtain⟨o',es',ep',ho',r'⟩:=hm;rw[ho] at ho';cases ho';exact⟨_,es',ep',hL,r'⟩) hok I.bare
theorem Inv.call{g':Array GenState}{t':Nat}{d':Drawn}{ch:List Addr}(I:Inv X pins B H s)(u:Un (frs X.stack) ch H H' s.heap h')(hok:HOk X.prog X.w H' h')(hg:AllBare g')
  (hch:∀b∈ch,(b∈X.ex\/X.Z2.heap.objs.size<=b)/\b≠X.env.locals/\(∀x c,X.env.cells.lookup x=some c->c≠b)/\∀p∈X.pn++pins,p.1≠b):
  Inv X pins B H' {s with heap:=h',gens:=g',drawn:=d',toks:=t'}:=by
 obtain⟨m,⟨o,es,ep,ho,r⟩,_⟩:=id I.loc;obtain⟨sl,hL⟩:=u.any ho I.free fun z=>(hch _ z).2.1 rfl;exact I.step (ch:=ch) hch (fun b o hL hb hc e n=>u.keep b o e n (fun z=>(VI.mp (I.stkSub b z)).elim hL hb) hc) (fun b o _ _ hc e n=>u.any e n hc) (fun b o hc e n=>u.free b o e n hc) (fun b o hc e=>u.there b o e hc) u.tups u.frzs u.tbls (fun m' hm=>by
  obtain⟨o',es',ep',ho',r'⟩:=hm;rw[ho] at ho';cases ho';exact⟨_,es',ep',hL,r'⟩) hok hg
theorem Inv.turned{t':Nat}{it:Addr}(I:Inv X pins B H s)(k:∀b o,b≠it->s.heap.get? b=some o->h'.get? b=some o)(hn:H it=none)(hL:it≠X.env.locals)
  (h1:it∈X.ex\/X.Z2.heap.objs.size<=it) (h2:∀x c,X.env.cells.lookup x=some c->c≠it) (h3:∀p∈X.pn++pins,p.1≠it):Inv X pins B H {s with heap:=h',toks:=t'}:=by
 have nit:∀b u,H b=some u->b≠it:=fun b u e z=>by rw[z,hn] at e;cases e
 refine I.step (g':=s.gens) (d':=s.drawn) (ch:=[it]) (fun b hb=>?_) (fun b o _ _ hc e _=>k b o (fun z=>hc (by simp[z])) e) (fun b o _ _ hc e _=>⟨o.slots,k b o (fun z=>hc (by simp[z])) e⟩) (fun _ _ _ _ n=>n)
  (fun b o hc e=>⟨o,k b o (fun z=>hc (by simp[z])) e⟩) (fun _ _ e=>e) (fun _ _ _ e=>e) (fun b ps e=>⟨#[],by rw[e];simp⟩) (fun m hm=>?_) (fun b u e=>?_) I.bare
 ·have e:b=it:=by simpa using hb
  subst e;exact⟨h1,hL,h2,h3⟩
 ·obtain⟨o,es,ep,ho,r⟩:=hm;exact⟨o,es,ep,k _ o (Ne.symm hL) ho,r⟩
 ·refine(I.hok b u e).stay (fun c v hc q=>k c v ?_ q) (fun _ q=>q) fun _ _ q=>q;rcases hc with z|z
  ·rw[z];exact nit b u e
  ·exact nit c _ z
theorem Inv.tok(I:Inv X pins B H s)(t:Nat):Inv X pins B H {s with toks:=t}:=I.un (h':=s.heap) (t':=t) Un.refl I.hok
theorem Inv.kept{t':Nat}(I:Inv X pins B H s)(k:∀b u,s.heap.get? b=some u->h'.get? b=some u):Inv X pins B H {s with heap:=h',toks:=t'}:=I.un (Un.kept k) (I.hok.kept k)
theorem Inv.laid{a:Addr}{o:HO}{t':Nat}(I:Inv X pins B H s)(k:∀b u,s.heap.get? b=some u->h'.get? b=some u)(hp:s.heap.objs.size<=a)(new:ObjOk X.prog X.w (upd H a o) h' a o):
  Inv X pins B (upd H a o) {s with heap:=h',toks:=t'}:=I.un (Un.laid k hp (I.hok.fresh hp)) (I.hok.laid k hp new)
theorem Inv.write{x e:Addr}{o:HO}{t':Nat}(I:Inv X pins B H s)(mu:Mut (H x))(he:e=x\/H e=some (.own x))(k:∀b u,b≠e->s.heap.get? b=some u->h'.get? b=some u)(heo:∃u,h'.get? e=some u)
  (new:ObjOk X.prog X.w (upd H x o) h' x o):Inv X pins B (upd H x o) {s with heap:=h',toks:=t'}:=I.un (Un.write mu he k heo) (I.hok.write mu he k heo new)
theorem Inv.pins_of{pins':QS}(I:Inv X pins B H s)(h:∀p∈pins',s.heap.get? p.1=some p.2/\H p.1=none/\p.1≠X.env.locals/\p.1∉X.fs/\∀v,p.2.data≠.cell v):Inv X pins' B H s:=
 ⟨I.ok,I.os,I.bare,I.base,I.loc,I.cell,I.free,I.freeC,fun p hp=>(VQ.mp hp).elim (fun z=>I.pin p (List.mem_append_left _ z)) (h p),I.hok,I.len⟩
theorem KO{N:List Str}(hN:N.Nodup){i j:Nat}{x:Str}(a:N[i]?=some x)(b:N[j]?=some x):i=j:=by
 obtain⟨h1,e1⟩:=Vw.mp a;obtain⟨h2,e2⟩:=Vw.mp b;exact((List.getElem_inj hN).mp (e1.trans e2.symm))
theorem Fx{M:Model}{A:Around}{E:OK}{i:Nat}{x:Str}{v:V}{u:Value}{Q:Unit->Shared->Prop}(I:Inv X pins B H s)(hN:X.N.Nodup)(hi:X.N[i]?=some x)(hx:Loc X.env.scope x)(r:RelV v u)
  (h:∀s',Inv X pins (B.set i (some v)) H s'->(∃a,Heap.SameBut a s.heap s'.heap/\(a=X.env.locals\/X.env.cells.lookup x=some a))->Q () s') (hf:X.fn x=true\/X.env.scope.names.lookup x=some .local:=by first|exact .inl rfl|exact .inr rfl|assumption):wpAny M A (storeName X.env x u) Q E s:=by
 obtain⟨m,hn,hl⟩:=id I.loc;have hcls:(X.env.scope.kind==.class||(X.env.scope.kind==.module&&X.env.locals !=X.env.globals))=false:=by rw[I.ok.kind];rfl
 have Ze:i<B.length:=by rw[I.len];exact(Vw.mp hi).1
 have cne:=I.cne;have tracked:∀{a:Addr} {h':Heap},(∃o,s.heap.get? a=some o/\H a=none)->Heap.SameBut a s.heap h'->HOk X.prog X.w H h':=fun{a h'} ha hs b ob e=>by
  obtain⟨_,_,hfree⟩:=ha;refine((I.hok b ob e).stay (fun c w' hc q=>(hs.2 c ?_).trans q) (fun _ q=>q) fun _ _ q=>q);rintro rfl;rcases hc with rfl|hc
  ·rw[hfree] at e;cases e
  ·rw[hfree] at hc;cases hc
 rcases hx with hk|hk
 ·refine wpAny_storeName_local hk hn (fun h' hn' hs=>?_) hcls;obtain⟨oL,_,_,hoL,_⟩:=id hn;refine(h _ ⟨I.ok,I.os,I.bare,⟨fun b o e n hb hx=>?_,fun b o e n hb hx=>?_,I.base.free,fun b o e hx=>?_,I.base.tups,I.base.frzs,I.base.tbls⟩,⟨_,hn',fun j y v' e1 e2 e3=>?_⟩,fun y c e=>?_,I.free,I.freeC,fun p hp=>?_,tracked ⟨oL,hoL,I.free⟩ hs,by simpa using I.len⟩ ⟨_,hs,.inl rfl⟩)
  ·exact(hs.2 b (VN (VM (Vy e) I.ok.above))).trans (I.base.keep b o e n hb hx)
  ·obtain⟨sl,e1⟩:=I.base.slot b o e n hb hx;exact⟨sl,(hs.2 b (VN (VM (Vy e) I.ok.above))).trans e1⟩
  ·obtain⟨o',e1⟩:=I.base.there b o e hx;exact⟨o',(hs.2 b (VN (VM (Vy e) I.ok.above))).trans e1⟩
  ·by_cases hj:j=i
   ·subst hj;rw[hi] at e1;cases e1;rw[List.getElem?_set_self Ze] at e2;cases e2;exact⟨u,r,.inl ⟨hk,by simp⟩⟩
   ·rw[VT (Ne.symm hj)] at e2;obtain⟨u',r',q⟩:=hl j y v' e1 e2 e3;refine(⟨u',r',?_⟩);rcases q with⟨k,e⟩|⟨k,c,e,z⟩
    ·refine .inl ⟨k,?_⟩;have:y≠x:=fun e=>hj (KO hN e1 (e▸hi));simp[this,e]
    ·exact .inr ⟨k,c,e,z.sameBut hs (cne y c e)⟩
  ·obtain⟨w',z⟩:=I.cell y c e;exact⟨w',z.sameBut hs (cne y c e)⟩
  ·obtain⟨e,n,ne,nf,d⟩:=I.pin p hp;exact⟨(hs.2 p.1 ne).trans e,n,ne,nf,d⟩
 ·have hfn:X.fn x=true:=by
   rcases hf with z|z
   ·exact z
   ·rw[z] at hk;cases hk
  obtain⟨c,hc⟩:=I.ok.has x (.inl hk);obtain⟨w',z⟩:=I.cell x c hc;refine(wpAny_storeName_cell I.ok.kind hk hc z (fun h' hc' hs=>?_));obtain⟨oc,hoc,hocd⟩:=id z;refine(h {s with heap:=h'} ⟨I.ok,I.os,I.bare,⟨fun b o e n hb hx=>?_,fun b o e n hb hx=>?_,I.base.free,fun b o e hx=>?_,I.base.tups,I.base.frzs,I.base.tbls⟩,⟨m,hn.sameBut hs (Ne.symm (cne x c hc)),fun j y v' e1 e2 e3=>?_⟩,fun y c' e=>?_,I.free,I.freeC,fun p hp=>?_,tracked ⟨oc,hoc,I.freeC x c hc⟩ hs,by simpa using I.len⟩ ⟨c,hs,.inr hc⟩)
  ·exact(hs.2 b (VN (VM (Vy e) (I.ok.cab x c hfn hc)))).trans (I.base.keep b o e n hb hx)
  ·obtain⟨sl,e1⟩:=I.base.slot b o e n hb hx;exact⟨sl,(hs.2 b (VN (VM (Vy e) (I.ok.cab x c hfn hc)))).trans e1⟩
  ·obtain⟨o',e1⟩:=I.base.there b o e hx;exact⟨o',(hs.2 b (VN (VM (Vy e) (I.ok.cab x c hfn hc)))).trans e1⟩
  ·by_cases hj:j=i
   ·subst hj;rw[hi] at e1;cases e1;rw[List.getElem?_set_self Ze] at e2;cases e2;exact⟨u,r,.inr ⟨.inl hk,c,hc,hc'⟩⟩
   ·rw[VT (Ne.symm hj)] at e2;obtain⟨u',r',q⟩:=hl j y v' e1 e2 e3;refine(⟨u',r',?_⟩);rcases q with q|⟨k,c',e,z'⟩
    ·exact .inl q
    ·refine .inr ⟨k,c',e,z'.sameBut hs ?_⟩;rintro rfl;exact hj (KO hN e1 (I.ok.inj _ _ _ e hc▸hi))
  ·by_cases hcc:c'=c
   ·subst hcc;exact⟨_,hc'⟩
   ·obtain⟨w2,z2⟩:=I.cell y c' e;exact⟨w2,z2.sameBut hs hcc⟩
  ·obtain⟨e,n,ne,nf,d⟩:=I.pin p hp;refine⟨(hs.2 p.1 ?_).trans e,n,ne,nf,d⟩;intro q;rw[q,hoc] at e;have q':oc=p.2:=VP e;exact d w' (by rw[←q'];exact hocd)
theorem CI{M:Model}{A:Around}{E:OK}{i:Nat}{x:Str}{v:V}{u:Value}{Q:Unit->Shared->Prop}(I:Inv X pins B H s)(hN:X.N.Nodup)(hi:X.N[i]?=some x)(hx:Loc X.env.scope x)(r:RelV v u)
  (h:∀s',Inv X pins (B.set i (some v)) H s'->Q () s') (hf:X.fn x=true\/X.env.scope.names.lookup x=some .local:=by first|exact .inl rfl|exact .inr rfl|assumption):wpAny M A (storeName X.env x u) Q E s:=
 Fx I hN hi hx r (fun s' I' _=>h s' I') hf
theorem Inv.call'{s':Shared}{ch:List Addr}(I:Inv X pins B H s)(ho:s'.os=s.os)(u:Un (frs X.stack) ch H H' s.heap s'.heap)(hok:HOk X.prog X.w H' s'.heap)(hg:AllBare s'.gens)
  (hch:∀b∈ch,(b∈X.ex\/X.Z2.heap.objs.size<=b)/\b≠X.env.locals/\(∀x c,X.env.cells.lookup x=some c->c≠b)/\∀p∈X.pn++pins,p.1≠b):Inv X pins B H' s':=by
 obtain⟨h',g',d',t',o'⟩:=s';have e:o'=s.os:=ho;subst e;exact(I.call (g':=g') (t':=t') (d':=d') u hok hg hch)
end
abbrev XK:=Value->Option Addr->Hp->Prop
abbrev St:=List (Option V)
abbrev VK:=V->Hp->Prop
abbrev TE:=St->Hp->VK->Prop
abbrev TT:=St->Hp->(Bool->Hp->Prop)->Prop
abbrev TA:=St->Hp->(List V->Hp->Prop)->Prop
structure Ends where
 nx:St->Hp->Prop
 rt:VK
 bk:St->Hp->Prop:=fun _ _=>False
 ct:St->Hp->Prop:=fun _ _=>False
abbrev TS:=Ends->St->Hp->Prop
def EP(X:Cx)(pins:QS)(B:St)(Q:VK)(u:Value)(s':Shared):Prop:=∃v H',Inv X pins B H' s'/\RelV v u/\Q v H'
def TP(X:Cx)(pins:QS)(B:St)(Q:Bool->Hp->Prop)(b:Bool)(s':Shared):Prop:=∃H',Inv X pins B H' s'/\Q b H'
def AP(X:Cx)(pins:QS)(B:St)(Q:List V->Hp->Prop)(us:List Value)(s':Shared):Prop:=∃vs H',Inv X pins B H' s'/\Vals vs us/\Q vs H'
def SP(X:Cx)(pins:QS)(D:Ends)(f:Flow)(s':Shared):Prop:=
 match f with
 | .next=>∃ZZ H',Inv X pins ZZ H' s'/\D.nx ZZ H'
 | .brk=>∃ZZ H',Inv X pins ZZ H' s'/\D.bk ZZ H'
 | .cont=>∃ZZ H',Inv X pins ZZ H' s'/\D.ct ZZ H'
 | .ret u=>∃v ZZ H',Inv X pins ZZ H' s'/\RelV v u/\D.rt v H'
def PE(X:Cx)(e:Expr)(t:TE):Prop:=
 ∀(pins:QS) (s:Shared) (B:St) (H:Hp) (Q:VK),Inv X pins B H s->t B H Q->wpAny (model X.prog X.w) X.A (eval e X.env) (EP X pins B Q) X.xe s
def PT(X:Cx)(e:Expr)(t:TT):Prop:=
 ∀(pins:QS) (s:Shared) (B:St) (H:Hp) (Q:Bool->Hp->Prop),Inv X pins B H s->t B H Q->wpAny (model X.prog X.w) X.A (isTrue e X.env (eval e X.env)) (TP X pins B Q) X.xe s
def PW(X:Cx)(e:Expr)(t:TT):Prop:=
 ∀(whole:Sem Value) (pins:QS) (s:Shared) (B:St) (H:Hp) (Q:Bool->Hp->Prop),Inv X pins B H s->t B H Q->wpAny (model X.prog X.w) X.A (isTrue e X.env whole) (TP X pins B Q) X.xe s
def PW.pt{X:Cx}{e:Expr}{t:TT}(h:PW X e t):PT X e t:=h _
def PA(X:Cx)(es:List Expr)(t:TA):Prop:=
 ∀(pos:Pos) (pins:QS) (s:Shared) (B:St) (H:Hp) (Q:List V->Hp->Prop),Inv X pins B H s->t B H Q->wpAny (model X.prog X.w) X.A (spliced (backTo pos (starEach es X.env))) (AP X pins B Q) X.xe s
def PS(X:Cx)(st:Stmt)(t:TS):Prop:=
 ∀(pins:QS) (s:Shared) (B:St) (H:Hp) (D:Ends),Inv X pins B H s->t D B H->wpAny (model X.prog X.w) X.A (exec st X.env) (SP X pins D) X.xe s
def PSs(X:Cx)(st:List Stmt)(t:TS):Prop:=
 ∀(pins:QS) (s:Shared) (B:St) (H:Hp) (D:Ends),Inv X pins B H s->t D B H->wpAny (model X.prog X.w) X.A (execs st X.env) (SP X pins D) X.xe s
def thn{J:Type}{t:Sem J}{Q Q':J->Shared->Prop}{M:Model}{A:Around}{E:OK}{s:Shared}(h:wpAny M A t Q E s)(hQ:∀a s,Q a s->Q' a s):wpAny M A t Q' E s:=Vz h hQ fun _ _ x=>x
section
variable {X:Cx}
def GO(i:Nat):TE:=fun B H Q=>∃v,B[i]?=some (some v)/\Q v H
def tC(v:V):TE:=fun _ H Q=>Q v H
theorem Ij{i:Nat}{x:Str}{pos:Pos}(hN:X.N[i]?=some x)(hv:Vis X.env.scope x)(hd:(x==("__debug__":Str))=false:=by decide) (hcd:(x==("__classdict__":Str))=false:=by decide):PE X (.Name x pos) (GO i):=by
 intro pins s B H Q I h;obtain⟨v,e,h⟩:=h;obtain⟨m,hn,hl⟩:=I.loc;obtain⟨u,r,l⟩:=hl i x v hN e hv;have fin:EP X pins B Q u s:=⟨v,H,I,r,h⟩
 rcases l with⟨hk,hm⟩|⟨hk,c,hc,hcell⟩
 ·exact wpAny_Name (wpAny_loadName_local I.ok.kind hk hn hm fin) hd
 ·rcases hk with hk|hk
  ·exact wpAny_Name (wpAny_loadName_cell I.ok.kind hk hc hcell fin) hd
  ·exact wpAny_Name (wpAny_loadName_free I.ok.kind hk hc hcell fin hcd) hd
theorem O1{i j pos}:PE X (.Constant (.int i) j pos) (tC (.int i)):=fun _ _ _ H _ I h=>wpAny_Constant_int ⟨.int i,H,I.tok _,⟨_,rfl⟩,h⟩
theorem Uv{b j pos}:PE X (.Constant (.bool b) j pos) (tC (.bl b)):=fun _ _ _ H _ I h=>Constant_bool ⟨.bl b,H,I,rfl,h⟩
theorem MJ{j pos}:PE X (.Constant .none j pos) (tC .non):=fun _ _ _ H _ I h=>Constant_none ⟨.non,H,I,rfl,h⟩
theorem J7{x j pos}:PE X (.Constant (.str x) j pos) (tC (.str x)):=fun _ _ _ H _ I h=>Calls.Constant_str ⟨.str x,H,I.tok _,⟨_,rfl⟩,h⟩
def Gl(X:Cx)(x:Str):Prop:=X.env.kindOf x=some .globalImplicit
theorem y4{E:OK}{pins:QS}{s:Shared}{B:St}{H:Hp}{x:Str}{u:Value}{pos:Pos}{Q:OK}(I:Inv X pins B H s)(hg:Gl X x)(hm:X.mg x=some u)(h:Q u s)
  (hd:(x==("__debug__":Str))=false:=by decide):wpAny (model X.prog X.w) X.A (eval (.Name x pos) X.env) Q E s:=
 Calls.Name_function_global I.ok.kind hg (Calls.loadGlobal_global (by rw[I.ok.glob];exact I.mod.glob.keeps I.bk) hm h) hd
theorem t6{E:OK}{pins:QS}{s:Shared}{B:St}{H:Hp}{x:Str}{u:Value}{pos:Pos}{Q:OK}(I:Inv X pins B H s)(hg:Gl X x)(hm:X.mg x=none)(hv:bootBuiltins x=some u)(h:Q u s)
  (hn:x≠"__name__":=by decide) (hd:(x==("__debug__":Str))=false:=by decide):wpAny (model X.prog X.w) X.A (eval (.Name x pos) X.env) Q E s:=by
 obtain⟨mb,h1,h2⟩:=I.mod.blt;exact Calls.Name_function_global I.ok.kind hg (Calls.loadGlobal_builtin (by rw[I.ok.glob];exact I.mod.glob.keeps I.bk) hm (by rw[I.ok.blt];exact h1.keeps I.bk) ((h2 x hn).trans hv) h) hd
theorem Tm{x:Str}{v:V}{u:Value}{pos:Pos}(hg:Gl X x)(hm:X.mg x=some u)(r:RelV v u)(hd:(x==("__debug__":Str))=false:=by decide):PE X (.Name x pos) (tC v):=
 fun _ _ _ H _ I h=>y4 I hg hm ⟨v,H,I,r,h⟩ hd
theorem AZ{x:Str}{v:V}{u:Value}{pos:Pos}(hg:Gl X x)(hm:X.mg x=none)(hv:bootBuiltins x=some u)(r:RelV v u)(hn:x≠"__name__":=by decide) (hd:(x==("__debug__":Str))=false:=by decide):PE X (.Name x pos) (tC v):=
 fun _ _ _ H _ I h=>t6 I hg hm hv ⟨v,H,I,r,h⟩ hn hd
variable {a b:Expr} {ta tb:TE} {pos:Pos}
def PC(X:Cx)(op:CmpOp)(a b:Expr)(t:TE):Prop:=
 ∀(pins:QS) (s:Shared) (B:St) (H:Hp) (Q:VK),Inv X pins B H s->t B H Q->
  wpAny (model X.prog X.w) X.A (eval a X.env) (fun v ZU=>wpAny (model X.prog X.w) X.A (eval b X.env) (fun u ZJ=>wpAny (model X.prog X.w) X.A (compareOp op v u) (EP X pins B Q) X.xe ZJ) X.xe ZU) X.xe s
theorem Tc(b:Expr){op:CmpOp}(h:op≠.In)(h2:op≠.NotIn):behindInMarks op b=false:=by
 have e1:(op==CmpOp.In)=false:=by cases op<;>first|rfl|exact absurd rfl h
 have e2:(op==CmpOp.NotIn)=false:=by cases op<;>first|rfl|exact absurd rfl h2
 cases b<;>simp[behindInMarks,e1,e2]
def tB(t:TE):TT:=fun B H Q=>t B H fun x H1=>∃c,x=.bl c/\Q c H1
theorem P2{op:CmpOp}{t:TE}(h:PC X op a b t)(h1:behindInMarks op b=false:=by first|exact Tc _ (by decide) (by decide)|rfl):PT X (.Compare a [op] [b] pos) (tB t):=by
 intro pins s B H Q I hw;refine wpAny_isTrue_Compare1 (thn (h pins s B H _ I hw) fun v s1 h1=>thn h1 fun u s2 h2=>thn h2 fun c s3 hm=>?_) h1;obtain⟨x,H1,I1,r1,q1⟩:=hm;obtain⟨d,rfl,q⟩:=q1;cases r1;exact(We ⟨H1,I1,q⟩)
theorem NU{e:Expr}{t:TE}(h:PE X e t)(he:∀whole,isTrue e X.env whole=(do let v ←whole;standAt e.pos;holding [v] (truthy v)):=by intro _;rfl):PT X e (tB t):=by
 intro pins s B H Q I hw;refine isTrue_plain (thn (h pins s B H _ I hw) fun v s1 hm=>?_) (he _);obtain⟨x,H1,I1,r1,q1⟩:=hm;obtain⟨d,rfl,q⟩:=q1;cases r1;exact(We ⟨H1,I1,q⟩)
variable {tA tB':TT} {pU:List Expr}
def Kn(t u:TT):TT:=fun B H Q=>t B H fun c H1=>if c=true then u B H1 Q else Q false H1
def tOr(t u:TT):TT:=fun B H Q=>t B H fun c H1=>if c=true then Q true H1 else u B H1 Q
def Sj(t:TT):TT:=fun B H Q=>t B H fun c H1=>Q (!c) H1
theorem R4(ha:PT X a tA):PW X (.BoolOp .And [a] pos) tA:=by
 intro wh pins s B H Q I h;refine isTrue_and (thn (ha pins s B H Q I h) fun c s1 e=>?_);cases c with
 |true=>exact isTrue_and_nil e
 |false=>exact e
theorem R9(ha:PT X a tA):PW X (.BoolOp .Or [a] pos) tA:=by
 intro wh pins s B H Q I h;refine isTrue_or (thn (ha pins s B H Q I h) fun c s1 e=>?_);cases c with
 |false=>exact isTrue_or_nil e
 |true=>exact e
theorem Mb(ha:PT X a tA)(hb:PW X (.BoolOp .And (b::pU) pos) tB'):PW X (.BoolOp .And (a::b::pU) pos) (Kn tA tB'):=by
 intro wh pins s B H Q I h;refine isTrue_and (thn (ha pins s B H _ I h) fun c s1 hm=>?_);obtain⟨H1,I1,q1⟩:=hm;cases c with
 |true=>exact hb wh pins s1 B H1 Q I1 q1
 |false=>exact⟨H1,I1,q1⟩
theorem Oy(ha:PT X a tA)(hb:PW X (.BoolOp .Or (b::pU) pos) tB'):PW X (.BoolOp .Or (a::b::pU) pos) (tOr tA tB'):=by
 intro wh pins s B H Q I h;refine isTrue_or (thn (ha pins s B H _ I h) fun c s1 hm=>?_);obtain⟨H1,I1,q1⟩:=hm;cases c with
 |true=>exact⟨H1,I1,q1⟩
 |false=>exact hb wh pins s1 B H1 Q I1 q1
theorem EJ(ha:PT X a tA):PT X (.UnaryOp .Not a pos) (Sj tA):=by
 intro pins s B H Q I h;exact isTrue_not (ha pins s B H (fun c H1=>Q (!c) H1) I h)
def Mz(ta tb:TE):TE:=fun B H Q=>ta B H fun x H1=>∃c,x=.bl c/\if c=true then tb B H1 Q else Q (.bl false) H1
def T3(ta tb:TE):TE:=fun B H Q=>ta B H fun x H1=>∃c,x=.bl c/\if c=true then Q (.bl true) H1 else tb B H1 Q
theorem Pb{op}{t:TE}(h:PE X a t):PE X (.BoolOp op [a] pos) t:=fun pins s B H Q I hw=>BoolOp_one (h pins s B H Q I hw)
theorem T0(ha:PE X a ta)(hb:PE X (.BoolOp .And (b::pU) pos) tb):PE X (.BoolOp .And (a::b::pU) pos) (Mz ta tb):=by
 intro pins s B H Q I h;refine BoolOp_and (thn (ha pins s B H _ I h) fun v s1 hm=>?_);obtain⟨x,H1,I1,r1,q1⟩:=hm;obtain⟨c,rfl,q1⟩:=q1;cases r1;refine(We ?_);cases c with
 |true=>exact hb pins s1 B H1 Q I1 q1
 |false=>exact⟨.bl false,H1,I1,rfl,q1⟩
theorem Q0(ha:PE X a ta)(hb:PE X (.BoolOp .Or (b::pU) pos) tb):PE X (.BoolOp .Or (a::b::pU) pos) (T3 ta tb):=by
 intro pins s B H Q I h;refine BoolOp_or (thn (ha pins s B H _ I h) fun v s1 hm=>?_);obtain⟨x,H1,I1,r1,q1⟩:=hm;obtain⟨c,rfl,q1⟩:=q1;cases r1;refine(We ?_);cases c with
 |false=>exact hb pins s1 B H1 Q I1 q1
 |true=>exact⟨.bl true,H1,I1,rfl,q1⟩
def tIf(t:TT)(ta tb:TE):TE:=fun B H Q=>t B H fun c H1=>if c=true then ta B H1 Q else tb B H1 Q
theorem Tv{c:Expr}(hc:PT X c tA)(ha:PE X a ta)(hb:PE X b tb):PE X (.IfExp c a b pos) (tIf tA ta tb):=by
 intro pins s B H Q I h;refine wpAny_IfExp (thn (hc pins s B H _ I h) fun d s1 hm=>?_);obtain⟨H1,I1,q1⟩:=hm;cases d with
 |true=>exact ha pins s1 B H1 Q I1 q1
 |false=>exact hb pins s1 B H1 Q I1 q1
end
def SqL(K:Frag)(H:Hp)(a:Addr)(xs:List V):Prop:=
 Rd H a (.lst xs)\/
  ∃(o:Obj) (its:Array Value) (n:Nat),K.lookup a=some o/\o.cls=.type "list"/\o.dict=none/\o.data=.seq its n/\its.size<=sizeLine/\Vals xs its.toList
def SqT(K:Frag)(H:Hp)(a:Addr)(xs:List V):Prop:=
 Rd H a (.tup xs)\/
  ∃(o:Obj) (its:Array Value) (n:Nat),K.lookup a=some o/\o.cls=.type "tuple"/\o.data=.seq its n/\its.size<=sizeLine/\Vals xs its.toList
def Nu:Value->Option V
 | .none=>some .non
 | .bool b=>some (.bl b)
 | .int i _=>some (.int i)
 | .str x _=>some (.str x)
 | .bytes b _=>some (.byt b)
 | .float b _=>some (.flt b)
 | .ref a=>some (.ref a)
 | .type n=>some (.ty n)
 |_=>none
def RelV.abs{x:V}{u:Value}(r:RelV x u):Nu u=some x:=by
 cases x with
 |non=>cases r;rfl
 |bl _=>cases r;rfl
 |int _=>obtain⟨t,rfl⟩:=r;rfl
 |str _=>obtain⟨t,rfl⟩:=r;rfl
 |byt _=>obtain⟨t,rfl⟩:=r;rfl
 |flt _=>obtain⟨t,rfl⟩:=r;rfl
 |ref _=>cases r;rfl
 |ty _=>cases r;rfl
def RelV.inj{x y:V}{u:Value}(r:RelV x u)(q:RelV y u):x=y:=VP (r.abs.symm.trans q.abs)
theorem Vals.inj:∀{xs ys:List V} {us:List Value},Vals xs us->Vals ys us->xs=ys
 |_,_,_,.nil,.nil=>rfl
 |_,_,_,.cons r t,.cons r' t'=>by rw[r.inj r',Vals.inj t t']
section
variable {X:Cx} {pins:QS} {B:St} {H:Hp} {s:Shared} {a:Addr} {xs ys:List V}
theorem SqL.of{K:Frag}(h:H a=some (.lst xs)):SqL K H a xs:=.inl (.inl h)
theorem SqT.of{K:Frag}(h:H a=some (.tup xs)):SqT K H a xs:=.inl (.inl h)
theorem Inv.list(I:Inv X pins B H s)(h:SqL X.K H a xs):∃its:List Value,Vals xs its/\PlainL s.heap a its.toArray/\xs.length<=sizeLine:=by
 rcases h with h|⟨o,its,n,hk,hc,hd,hs,hz,r⟩
 ·obtain⟨z,its,n,r,e⟩:=h.ok I.hok;exact⟨its,r,⟨_,n,e,rfl,rfl,rfl⟩,z⟩
 ·refine⟨its.toList,r,⟨o,n,I.kIn a o hk,hc,hd,by simpa using hs⟩,?_⟩;have e:=r.length;simp only[WK] at e;omega
theorem Inv.tuple(I:Inv X pins B H s)(h:SqT X.K H a xs):∃its:List Value,Vals xs its/\IsTup s.heap a its.toArray/\xs.length<=sizeLine:=by
 rcases h with h|⟨o,its,n,hk,hc,hs,hz,r⟩
 ·obtain⟨z,its,r,p⟩:=h.ok I.hok;exact⟨its,r,p,z⟩
 ·refine⟨its.toList,r,⟨o,I.kIn a o hk,hc,n,by simpa using hs⟩,?_⟩;have e:=r.length;simp only[WK] at e;omega
theorem Inv.list_inj(I:Inv X pins B H s)(h:SqL X.K H a xs)(h':SqL X.K H a ys):xs=ys:=by
 obtain⟨its,r,⟨o,n,e,_,_,d⟩,_⟩:=I.list h;obtain⟨its',r',⟨o',n',e',_,_,d'⟩,_⟩:=I.list h';rw[e] at e';cases e';rw[d] at d';injection d' with d1 _
 have:its=its':=by simpa using congrArg Array.toList d1
 subst this;exact r.inj r'
theorem Inv.tuple_inj(I:Inv X pins B H s)(h:SqT X.K H a xs)(h':SqT X.K H a ys):xs=ys:=by
 obtain⟨its,r,⟨o,e,_,n,d⟩,_⟩:=I.tuple h;obtain⟨its',r',⟨o',e',_,n',d'⟩,_⟩:=I.tuple h';rw[e] at e';cases e';rw[d] at d';injection d' with d1 _
 have:its=its':=by simpa using congrArg Array.toList d1
 subst this;exact r.inj r'
end
abbrev Cx.wish(X:Cx)(E:OK):Cx:={X with xe:=E}
abbrev Cx.nox(X:Cx):Cx:=X.wish fun _ _=>False
def Cx.Ok.wish{X:Cx}(ok:X.Ok)(E:OK):(X.wish E).Ok:=
 ⟨ok.mod,ok.kind,ok.glob,ok.blt,ok.above,ok.inj,ok.has,ok.cab,ok.hd,ok.frames,ok.stk,ok.exf,ok.bs,ok.bsz,ok.noex,ok.exfs,ok.funs,ok.frf⟩
def Cx.Ok.unwish{X:Cx}{E:OK}(ok:(X.wish E).Ok):X.Ok:=
 ⟨ok.mod,ok.kind,ok.glob,ok.blt,ok.above,ok.inj,ok.has,ok.cab,ok.hd,ok.frames,ok.stk,ok.exf,ok.bs,ok.bsz,ok.noex,ok.exfs,ok.funs,ok.frf⟩
section
variable {X:Cx} {pins:QS} {B:St} {H:Hp} {s:Shared} {E:OK}
theorem Inv.wish(I:Inv X pins B H s)(E:OK):Inv (X.wish E) pins B H s:=⟨I.ok.wish E,I.os,I.bare,I.base,I.loc,I.cell,I.free,I.freeC,I.pin,I.hok,I.len⟩
theorem Inv.unwish(I:Inv (X.wish E) pins B H s):Inv X pins B H s:=⟨I.ok.unwish,I.os,I.bare,I.base,I.loc,I.cell,I.free,I.freeC,I.pin,I.hok,I.len⟩
theorem SP.unwish{D:Ends}{f:Flow}{s':Shared}(h:SP (X.wish E) pins D f s'):SP X pins D f s':=by
 cases f with
 |next=>obtain⟨ZZ,H',I,q⟩:=h;exact⟨ZZ,H',I.unwish,q⟩
 |brk=>obtain⟨ZZ,H',I,q⟩:=h;exact⟨ZZ,H',I.unwish,q⟩
 |cont=>obtain⟨ZZ,H',I,q⟩:=h;exact⟨ZZ,H',I.unwish,q⟩
 |ret u=>obtain⟨v,ZZ,H',I,r,q⟩:=h;exact⟨v,ZZ,H',I.unwish,r,q⟩
theorem PE.nox{e:Expr}{t:TE}(h:PE X.nox e t):PE X e t:=fun pins s B H Q I hw=>
 Vz (h pins s B H Q (I.wish _) hw) (fun _ _ ⟨v,H',I',r,q⟩=>⟨v,H',I'.unwish,r,q⟩) fun _ _ z=>False.elim z
theorem PT.nox{e:Expr}{t:TT}(h:PT X.nox e t):PT X e t:=fun pins s B H Q I hw=>
 Vz (h pins s B H Q (I.wish _) hw) (fun _ _ ⟨H',I',q⟩=>⟨H',I'.unwish,q⟩) fun _ _ z=>False.elim z
theorem PSs.nox{st:List Stmt}{t:TS}(h:PSs X.nox st t):PSs X st t:=fun pins s B H D I hw=>
 Vz (h pins s B H D (I.wish _) hw) (fun _ _ q=>q.unwish) fun _ _ z=>False.elim z
end
section
variable {X:Cx} {st:Stmt} {pU:List Stmt} {t u:TS} {e:Expr} {te:TE} {pos:Pos}
def Qf:TS:=fun D B H=>D.nx B H
def TQ(t u:TS):TS:=fun D B H=>t {D with nx:=u D} B H
theorem Lz:PSs X [] Qf:=fun _ _ B H _ I h=>wpAny_execs_nil ⟨B,H,I,h⟩
theorem IM(h1:PS X st t)(h2:PSs X pU u):PSs X (st::pU) (TQ t u):=by
 intro pins s B H D I h;refine wpAny_execs_cons (thn (h1 pins s B H {D with nx:=u D} I h) fun f s1 q=>?_);cases f with
 |next=>
  obtain⟨ZZ,H',I',q⟩:=q;exact h2 pins s1 ZZ H' D I' q
 |ret v=>exact q
 |brk=>exact q
 |cont=>exact q
theorem KB(h1:PS X st t):PSs X [st] t:=by
 intro pins s B H D I h;refine wpAny_execs_cons (thn (h1 pins s B H D I h) fun f s1 q=>?_);cases f with
 |next=>exact wpAny_execs_nil q
 |ret v=>exact q
 |brk=>exact q
 |cont=>exact q
theorem Inv.quiet{pins:QS}{B:St}{H:Hp}{s:Shared}(I:Inv X pins B H s):interactive X.env=false:=by simp[interactive,I.ok.kind]
def Ta(te:TE):TS:=fun D B H=>te B H fun _ H1=>D.nx B H1
theorem Fw(he:PE X e te)(hs:swapsWith e none pos.line X.env=pure false:=by rfl):PS X (.Expr e pos) (Ta te):=by
 intro pins s B H D I h;exact wpAny_Expr_any (thn (he pins s B H _ I h) fun v s1 ⟨x,H1,I1,r1,q1⟩=>⟨B,H1,I1,q1⟩) I.quiet hs
def TD(te:TE):TS:=fun D B H=>te B H D.rt
theorem Kf(he:PE X e te):PS X (.Return (some e) pos) (TD te):=by
 intro pins s B H D I h;exact wpAny_Return_some (thn (he pins s B H _ I h) fun v s1 ⟨x,H1,I1,r1,q1⟩=>⟨x,B,H1,I1,r1,q1⟩)
def Ni(c:TT)(t u:TS):TS:=fun D B H=>c B H fun b H1=>if b=true then t D B H1 else u D B H1
theorem K4{c:Expr}{a b:List Stmt}{tc:TT}(hc:PT X c tc)(ha:PSs X a t)(hb:PSs X b u):PS X (.If c a b pos) (Ni tc t u):=by
 intro pins s B H D I h;refine wpAny_If (thn (hc pins s B H _ I h) fun d s1 hm=>?_);obtain⟨H1,I1,q1⟩:=hm;cases d with
 |true=>exact ha pins s1 B H1 D I1 q1
 |false=>exact hb pins s1 B H1 D I1 q1
end
abbrev TG:=V->St->Hp->(St->Hp->Prop)->Prop
abbrev TGs:=List V->St->Hp->(St->Hp->Prop)->Prop
def PG(X:Cx)(target:Expr)(t:TG):Prop:=
 ∀(pins:QS) (s:Shared) (B:St) (H:Hp) (v:V) (u:Value) (Q:St->Hp->Prop),Inv X pins B H s->RelV v u->t v B H Q->
  wpAny (model X.prog X.w) X.A (assign target X.env u) (fun _ s'=>∃ZZ H',Inv X pins ZZ H' s'/\Q ZZ H') X.xe s
def PGs(X:Cx)(ts:List Expr)(t:TGs):Prop:=
 ∀(pins:QS) (s:Shared) (B:St) (H:Hp) (vs:List V) (us:List Value) (Q:St->Hp->Prop),Inv X pins B H s->Vals vs us->t vs B H Q->
  wpAny (model X.prog X.w) X.A (assignInOrder ((assignEach ts X.env).map (·.2)) us) (fun _ s'=>∃ZZ H',Inv X pins ZZ H' s'/\Q ZZ H') X.xe s
abbrev Cb:=V->V->V->Hp->(Hp->Prop)->Prop
def Ev(X:Cx)(t:Cb):Prop:=
 ∀(pins:QS) (s:Shared) (B:St) (H:Hp) (o i v:V) (ov iv u:Value) (Q:Hp->Prop),Inv X pins B H s->RelV o ov->RelV i iv->RelV v u->t o i v H Q->
  wpAny (model X.prog X.w) X.A (setItem ov iv u) (fun _ s'=>∃H',Inv X pins B H' s'/\Q H') X.xe s
abbrev TIp:=V->V->Hp->VK->Prop
def PIp(X:Cx)(op:Operator)(t:TIp):Prop:=
 ∀(pins:QS) (s:Shared) (B:St) (H:Hp) (x y:V) (v u:Value) (Q:VK),Inv X pins B H s->RelV x v->RelV y u->t x y H Q->
  wpAny (model X.prog X.w) X.A (inplaceOp op v u) (EP X pins B Q) X.xe s
section
variable {X:Cx} {pos:Pos}
def CZ(i:Nat):TG:=fun v B H Q=>Q (B.set i (some v)) H
theorem OX{i:Nat}{x:Str}(hN:X.N.Nodup)(hi:X.N[i]?=some x)(hx:Loc X.env.scope x)(hf:X.fn x=true\/X.env.scope.names.lookup x=some .local:=by first|exact .inl rfl|exact .inr rfl|assumption):PG X (.Name x pos) (CZ i):=by
 intro pins s B H v u Q I r h;exact wpAny_assign_Name (CI I hN hi hx r (fun s' I'=>⟨_,H,I',h⟩) hf)
def TF:TGs:=fun vs B H Q=>vs=[]/\Q B H
def MD(t:TG)(u:TGs):TGs:=fun vs B H Q=>∃v r,vs=v::r/\t v B H fun ZZ H'=>u r ZZ H' Q
theorem Rt:PGs X [] TF:=by
 intro pins s B H vs us Q I r h;obtain⟨e,h⟩:=h;subst e;cases r;exact(assignInOrder_nil ⟨B,H,I,h⟩)
theorem Nf{e:Expr}{es:List Expr}{t:TG}{u:TGs}(h1:PG X e t)(h2:PGs X es u)
  (hs:(assignEach (e::es) X.env).map (·.2)=assign e X.env::(assignEach es X.env).map (·.2):=by rfl):PGs X (e::es) (MD t u):=by
 intro pins s B H vs us Q I r h;obtain⟨v,vr,e1,h⟩:=h;subst e1;cases r with
 |cons r rr=>
  rw[hs];refine assignInOrder_cons (thn (h1 pins s B H _ _ _ I r h) fun _ s1 hm=>?_);obtain⟨ZI,H1,I1,q1⟩:=hm;exact(h2 pins s1 ZI H1 _ _ Q I1 rr q1)
def EA(K:Frag)(n:Nat)(t:TGs):TG:=fun v B H Q=>∃a xs,v=.ref a/\SqT K H a xs/\xs.length=n/\t xs B H Q
theorem Sg{es:List Expr}{k:Nat}{t:TGs}{n:Nat}(hc:X.calm=true)(h:PGs X es t)
  (hn:(assignEach es X.env).length=n:=by rfl) (hst:(assignEach es X.env).findIdx? (·.1)=none:=by rfl):PG X (.Tuple es k pos) (EA X.K n t):=by
 intro pins s B H v u Q I r hw;obtain⟨a,xs,e1,hq,hl,hw⟩:=hw;subst e1;cases r;obtain⟨its,rv,ht,hz⟩:=I.tuple hq;refine(assign_Tuple_tuple (I.ok.hd hc) ht (by simp[hn,←hl,rv.length]) hst fun h' hx=>?_);have I1:Inv X pins B H {s with heap:=h'}:=I.kept (t':=s.toks) fun b o e=>hx b o (VN (Vy e)) e;exact h pins _ B H xs _ Q I1 (by simpa using rv) hw
def Um(to ti:TE)(t:Cb):TG:=fun v B H Q=>to B H fun o H1=>ti B H1 fun i H2=>t o i v H2 fun H3=>Q B H3
theorem P7{o i:Expr}{to ti:TE}{t:Cb}(ho:PE X o to)(hi:PE X i ti)(hs:Ev X t)
  (ha:∀v,assign (.Subscript o i pos) X.env v=(do
   let ov ←holding [v] (eval o X.env)
   let iv ←holding [v,ov] (eval i X.env)
   standAt pos
   holding [v,ov,iv] (setItem ov iv v)
   release [v,ov,iv] []):=by intro _;rfl):PG X (.Subscript o i pos) (Um to ti t):=by
 intro pins s B H v u Q I r h;rw[ha];refine Vt (WD (thn (ho pins s B H _ I h) fun ov s1 hm=>?_));obtain⟨x,H1,I1,r1,q1⟩:=hm;refine(Vt (WD (thn (hi pins s1 B H1 _ I1 q1) fun iv s2 hm=>?_)));obtain⟨y,H2,I2,r2,q2⟩:=hm;refine(Vt (WE (Vt (WD (thn (hs pins s2 B H2 x y v ov iv u _ I2 r1 r2 r q2) fun _ s3 hm=>?_)))));obtain⟨H3,I3,q3⟩:=hm;exact(wpAny_release ⟨B,H3,I3,q3⟩)
def Bw(te:TE)(g:TG):TS:=fun D B H=>te B H fun x H1=>g x B H1 D.nx
theorem OU{tg e:Expr}{te:TE}{g:TG}(he:PE X e te)(hg:PG X tg g)(hs:swapsWithSole [tg] e pos.line X.env=pure false:=by rfl)(hw:swappedStores [tg] e X.env=pure none:=by rfl)
  (h1:(assignEach [tg] X.env).map (·.2)=[assign tg X.env]:=by rfl):PS X (.Assign [tg] e pos) (Bw te g):=by
 intro pins s B H D I h;refine wpAny_Assign_stores (thn (he pins s B H _ I h) fun v s1 hm=>?_) hs hw;obtain⟨x,H1,I1,r1,q1⟩:=hm;rw[h1];exact thn (hg pins s1 B H1 x v _ I1 r1 q1) fun _ s2 q=>q
theorem GT{i:Nat}{x:Str}{e:Expr}{te:TE}{pos':Pos}(hN:X.N.Nodup)(hi:X.N[i]?=some x)(hx:Loc X.env.scope x)(he:PE X e te)(hs:swapsWith e (some (.Name x pos')) pos.line X.env=pure false:=by rfl)(hf:X.fn x=true\/X.env.scope.names.lookup x=some .local:=by first|exact .inl rfl|exact .inr rfl|assumption):
  PS X (.Assign [.Name x pos'] e pos) (Bw te (CZ i)):=by
 intro pins s B H D I h;refine wpAny_Assign_Name (thn (he pins s B H _ I h) fun v s1 hm=>?_) hs;obtain⟨y,H1,I1,r1,q1⟩:=hm;exact(CI I1 hN hi hx r1 (fun s2 I2=>⟨_,H1,I2,q1⟩) hf)
def Mw(i:Nat)(te:TE)(ti:TIp):TS:=fun D B H=>∃x,B[i]?=some (some x)/\te B H fun y H1=>ti x y H1 fun z H2=>D.nx (B.set i (some z)) H2
theorem O3{i:Nat}{x:Str}{e:Expr}{te:TE}{op:Operator}{ti:TIp}{pos':Pos}(hN:X.N.Nodup)(hi:X.N[i]?=some x)(hx:Loc X.env.scope x)(he:PE X e te)(ho:PIp X op ti)(hf:X.fn x=true\/X.env.scope.names.lookup x=some .local:=by first|exact .inl rfl|exact .inr rfl|assumption):
  PS X (.AugAssign (.Name x pos') op e pos) (Mw i te ti):=by
 intro pins s B H D I h;obtain⟨v,e1,h⟩:=h;obtain⟨m,hn,hl⟩:=I.loc;have vis:Vis X.env.scope x:=by rcases hx with k|k;exact .inl k;exact .inr (.inl k)
 obtain⟨u,r,l⟩:=hl i x v hi e1 vis;refine(wpAny_AugAssign_Name ?_);have go:wpAny (model X.prog X.w) X.A (eval e X.env) (fun w ZJ=>wpAny (model X.prog X.w) X.A (inplaceOp op u w) (fun r ZL=>wpAny (model X.prog X.w) X.A (storeName X.env x r) (fun _=>SP X pins D .next) X.xe ZL) X.xe ZJ) X.xe s:=by
  refine thn (he pins s B H _ I h) fun w s1 hm=>?_;obtain⟨y,H1,I1,r1,q1⟩:=hm;refine(thn (ho pins s1 B H1 v y u w _ I1 r r1 q1) fun z s2 hm=>?_);obtain⟨zv,H2,I2,r2,q2⟩:=hm;exact(CI I2 hN hi hx r2 (fun s3 I3=>⟨_,H2,I3,q2⟩) hf)
 rcases l with⟨hk,hm⟩|⟨hk,c,hc,hcell⟩
 ·exact wpAny_loadName_local I.ok.kind hk hn hm go
 ·rcases hk with hk|hk
  ·exact wpAny_loadName_cell I.ok.kind hk hc hcell go
  ·rcases hx with k|k
   ·have:X.env.scope.names.lookup x=some .free:=hk;rw[k] at this;cases this
   ·have:X.env.scope.names.lookup x=some .free:=hk;rw[k] at this;cases this
def ipI(f:Int->Int->Int):TIp:=fun x y H Q=>∃i j,x=.int i/\y=.int j/\Q (.int (f i j)) H
theorem M4:PIp X .Add (ipI fun i j=>i+j):=by
 intro pins s B H x y v u Q I r1 r2 h;obtain⟨i,j,e1,e2,q⟩:=h;subst e1;subst e2;obtain⟨t,rfl⟩:=r1;obtain⟨t',rfl⟩:=r2;exact(iadd_int ⟨.int _,H,I.tok _,⟨_,rfl⟩,q⟩)
end
section
variable {X:Cx} {pos:Pos}
def OB(c:TT)(tb:TS):TS:=fun D B H=>∃W:Nat->St->Hp->Prop,(∃m,W m B H)/\∀m B H,W m B H->
 c B H fun b H1=>if b=true then ∃N:St->Hp->Prop,(∀ZZ H',N ZZ H'->∃m',m'<m/\W m' ZZ H')/\tb {D with nx:=N,ct:=N,bk:=D.nx} B H1 else D.nx B H1
theorem U9{c:Expr}{body:List Stmt}{tc:TT}{tb:TS}(hp:PassesOwn (model X.prog X.w) X.A X.env X.xe)(hc:PT X c tc)(hb:PSs X body tb):PS X (.While c body [] pos) (OB tc tb):=by
 intro pins s B H D I h;obtain⟨W,⟨m0,w0⟩,turn⟩:=h;refine(wpAny_While (codeAny_whileLoop (fun n s'=>∃ZZ H',Inv X pins ZZ H' s'/\W n ZZ H') ?_ m0 ⟨B,H,I,w0⟩));rintro n s1 ⟨ZI,H1,I1,w1⟩;refine WR hp (thn (hc pins s1 ZI H1 _ I1 (turn n ZI H1 w1)) fun b s2 hm=>?_);obtain⟨H2,I2,q2⟩:=hm;cases b with
 |true=>
  obtain⟨N,hN,q2⟩:=q2;rw[if_pos rfl];refine WR hp (thn (hb pins s2 ZI H2 _ I2 q2) fun f s3 q3=>?_);cases f with
  |next=>
   obtain⟨ZH,H3,I3,n3⟩:=q3;obtain⟨m',hm,w3⟩:=hN ZH H3 n3;exact⟨m',hm,ZH,H3,I3,w3⟩
  |cont=>
   obtain⟨ZH,H3,I3,n3⟩:=q3;obtain⟨m',hm,w3⟩:=hN ZH H3 n3;exact⟨m',hm,ZH,H3,I3,w3⟩
  |brk=>exact q3
  |ret v=>exact q3
 |false=>
  rw[if_neg Wy];exact wpAny_execs_nil ⟨ZI,H2,I2,q2⟩
end
structure It where
 go:Nat->Hp->Prop
 yld:Nat->Hp->V->Hp->Prop
 stop:Nat->Hp->Prop
def qK(X:Cx)(pins:QS)(H:Hp)(b:Addr):Prop:=
 H b=none/\b≠X.env.locals/\b∉X.fs/\(b∈X.ex\/X.Z2.heap.objs.size<=b)/\(∀x c,X.env.cells.lookup x=some c->c≠b)/\∀p∈X.pn++pins,p.1≠b
def Inv.fpOk{X:Cx}{pins:QS}{B:St}{H H':Hp}{s:Shared}{b:Addr}(I:Inv X pins B H s)(hb:s.heap.objs.size<=b)(hn:H' b=none):qK X pins H' b:=by
 refine⟨hn,Xc (VM I.lt hb),I.nofs hb,.inr (V0 I.sz hb),fun x c e z=>?_,fun p hp z=>?_⟩
 ·obtain⟨v,q⟩:=I.cell x c e;exact absurd (VM q.lt (by rw[z];exact hb)) (V1 _)
 ·exact absurd (VM (Vy (I.pin p hp).1) (by rw[z];exact hb)) (V1 _)
structure Turn (P:Program) (w:World) (K:Frag) (tg:Expr) (Z6:It) (fp:List Addr) (it:Addr) (tn:Nat->Heap->Prop):Prop where
 mem:it∈fp
 obj:∀i h,tn i h->∀b∈fp,∃o,h.get? b=some o/\∀v,o.data≠.cell v
 keep:∀i h h',tn i h->(∀b∈fp,∀o,h.get? b=some o->h'.get? b=some o)->tn i h'
 item:∀(X:Cx),X.prog=P->X.w=w->X.K=K->X.calm=true->∀(i:Nat) (pins:QS) (s:Shared) (B:St) (H:Hp) (E:OK),Inv X pins B H s->(∀b∈fp,qK X pins H b)->tn i s.heap->Z6.go i H->
  wpAny (model P w) X.A (pyNext (.ref it)) (fun r s1=>∃u,r=some u/\
   wpAny (model P w) X.A (letOwnedTupleGo tg (.ref it) u) (fun _ s2=>∃x H',Inv X pins B H' s2/\RelV x u/\Z6.yld i H x H'/\tn (i+1) s2.heap/\∀b∈fp,H' b=none) E s1) E s
 done:∀(X:Cx),X.prog=P->X.w=w->X.K=K->X.calm=true->∀(i:Nat) (pins:QS) (s:Shared) (B:St) (H:Hp) (E:OK),Inv X pins B H s->(∀b∈fp,qK X pins H b)->tn i s.heap->Z6.stop i H->
  wpAny (model P w) X.A (pyNext (.ref it)) (fun r s1=>r=none/\Inv X pins B H s1) E s
 self:∀(A:Around) (i:Nat) (s:Shared) (Q:OK) (E:OK),tn i s.heap->Q (.ref it) s->wpAny (model P w) A (pyIter (.ref it)) Q E s
abbrev TI:=St->Hp->(It->Hp->Prop)->Prop
def PIE(X:Cx)(pins:QS)(B:St)(tg:Expr)(R:It->Hp->Prop)(itv:Value)(s2:Shared):Prop:=
 ∃(it:Addr) (fp:List Addr) (tn:Nat->Heap->Prop) (Z6:It) (H':Hp),itv=.ref it/\Inv X pins B H' s2/\Turn X.prog X.w X.K tg Z6 fp it tn/\tn 0 s2.heap/\(∀b∈fp,qK X pins H' b)/\R Z6 H'
def PI(X:Cx)(tg iter:Expr)(wi:TI):Prop:=
 ∀(pins:QS) (s:Shared) (B:St) (H:Hp) (R:It->Hp->Prop),Inv X pins B H s->wi B H R->
  wpAny (model X.prog X.w) X.A (eval iter X.env) (fun v s1=>wpAny (model X.prog X.w) X.A (pyIter v) (PIE X pins B tg R) X.xe s1) X.xe s
theorem Cy{M:Model}{A:Around}{E:OK}{s:Shared}{tg:Expr}{it:Addr}{u:Value}{o:Obj}{n:String}{vs:Array Value}{Q:Unit->Shared->Prop}(ho:s.heap.get? it=some o)(hc:o.cls=.type n)(hd:o.data=.fields vs)
  (hn:["enumerate","zip","dict_itemiterator","dict_reverseitemiterator","odict_iterator","itertools.zip_longest","itertools.pairwise"].contains n=false) (hQ:Q () s):wpAny M A (letOwnedTupleGo tg (.ref it) u) Q E s:=by
 unfold letOwnedTupleGo;cases tg<;>first
  |exact Vx hQ
  |(cases u<;>first
    |exact Vx hQ
    |(refine Vt (wpAny_load ho ?_);rw[hc,hd];show wpAny M A (if(["enumerate","zip","dict_itemiterator","dict_reverseitemiterator","odict_iterator","itertools.zip_longest","itertools.pairwise"].contains n&&vs[0]?==some (rawInt _))=true then _ else _) Q E s;rw[if_neg (by intro h;rw[hn,Bool.false_and] at h;cases h)];exact Vx hQ))
def Itl(K:Frag)(a:Addr):It:=
 ⟨fun i H=>∃xs x,SqL K H a xs/\xs[i]?=some x,fun i H x H'=>H'=H/\∀xs,SqL K H a xs->xs[i]?=some x,fun i H=>∃xs,SqL K H a xs/\xs.length<=i⟩
def Itt(K:Frag)(a:Addr):It:=
 ⟨fun i H=>∃xs x,SqT K H a xs/\xs[i]?=some x,fun i H x H'=>H'=H/\∀xs,SqT K H a xs->xs[i]?=some x,fun i H=>∃xs,SqT K H a xs/\xs.length<=i⟩
def Itr(lo:Int)(n:Nat):It:=⟨fun i _=>i<n,fun i H x H'=>H'=H/\x=.int (lo+i),fun i _=>n<=i⟩
theorem NI{P:Program}{w:World}{K:Frag}{tg:Expr}(a it:Addr):Turn P w K tg (Itl K a) [it] it (fun i h=>h.IsListIter it a i) where
 mem:=by simp
 obj:=fun i h st b hb=>by
  have e:b=it:=by simpa using hb
  subst e;obtain⟨o,e,c,d⟩:=st;exact⟨o,e,fun v z=>by rw[d] at z;cases z⟩
 keep:=fun i h h' st k=>st.at fun o e=>k it (by simp) o e
 item:=by
  intro X hP hw hK hc i pins s B H E I hf st hg;subst hP hw hK;obtain⟨xs,x,hq,hx⟩:=hg;obtain⟨its,rv,p,hz⟩:=I.list hq;obtain⟨u,hu,ru⟩:=rv.get hx;obtain⟨f0,f1,f2,f3,f4,f5⟩:=hf it (by simp);refine(wpAny_pyNext_list_item st p.isList (x:=u) (by simpa using hu) fun h' st' sb=>?_);have I1:Inv X pins B H {s with heap:=h'}:=I.turned (t':=s.toks) (fun b o hb e=>(sb.2 b hb).trans e) f0 f1 f3 f4 f5;obtain⟨o,e,c,d⟩:=id st';exact⟨u,rfl,Cy (s:={s with heap:=h'}) e c d (by decide) ⟨x,H,I1,ru,⟨rfl,fun ys hy=>by rw[I.list_inj hy hq];exact hx⟩,st',fun b hb=>(hf b hb).1⟩⟩
 done:=by
  intro X hP hw hK hc i pins s B H E I hf st hg;subst hP hw hK;obtain⟨xs,hq,hx⟩:=hg;obtain⟨its,rv,p,hz⟩:=I.list hq;obtain⟨f0,f1,f2,f3,f4,f5⟩:=hf it (by simp);have hl:=rv.length;exact wpAny_pyNext_list_end (I.ok.hd hc) st p.isList (by simp;omega) fun h' eb=>⟨rfl,I.turned (t':=s.toks) (fun b o hb e=>eb b o hb e) f0 f1 f3 f4 f5⟩
 self:=fun _ _ _ _ _ st h=>wpAny_pyIter_listiter st h
theorem SB{P:Program}{w:World}{K:Frag}{tg:Expr}(a it:Addr):Turn P w K tg (Itt K a) [it] it (fun i h=>h.IsTupleIter it a i) where
 mem:=by simp
 obj:=fun i h st b hb=>by
  have e:b=it:=by simpa using hb
  subst e;obtain⟨o,e,c,d⟩:=st;exact⟨o,e,fun v z=>by rw[d] at z;cases z⟩
 keep:=fun i h h' st k=>st.at fun o e=>k it (by simp) o e
 item:=by
  intro X hP hw hK hc i pins s B H E I hf st hg;subst hP hw hK;obtain⟨xs,x,hq,hx⟩:=hg;obtain⟨its,rv,p,hz⟩:=I.tuple hq;obtain⟨u,hu,ru⟩:=rv.get hx;obtain⟨f0,f1,f2,f3,f4,f5⟩:=hf it (by simp);refine(wpAny_pyNext_tuple_item st (show s.heap.IsTuple a its.toArray from p) (x:=u) (by simpa using hu) fun h' st' sb=>?_);have I1:Inv X pins B H {s with heap:=h'}:=I.turned (t':=s.toks) (fun b o hb e=>(sb.2 b hb).trans e) f0 f1 f3 f4 f5;obtain⟨o,e,c,d⟩:=id st';exact⟨u,rfl,Cy (s:={s with heap:=h'}) e c d (by decide) ⟨x,H,I1,ru,⟨rfl,fun ys hy=>by rw[I.tuple_inj hy hq];exact hx⟩,st',fun b hb=>(hf b hb).1⟩⟩
 done:=by
  intro X hP hw hK hc i pins s B H E I hf st hg;subst hP hw hK;obtain⟨xs,hq,hx⟩:=hg;obtain⟨its,rv,p,hz⟩:=I.tuple hq;obtain⟨f0,f1,f2,f3,f4,f5⟩:=hf it (by simp);have hl:=rv.length;exact wpAny_pyNext_tuple_end (I.ok.hd hc) st (show s.heap.IsTuple a its.toArray from p) (by simp;omega) fun h' eb=>⟨rfl,I.turned (t':=s.toks) (fun b o hb e=>eb b o hb e) f0 f1 f3 f4 f5⟩
 self:=fun _ _ _ _ _ st h=>wpAny_pyIter_tupleiter st h
theorem GJ{P:Program}{w:World}{K:Frag}{tg:Expr}(it:Addr)(lo:Int)(n:Nat):Turn P w K tg (Itr lo n) [it] it (fun i h=>IsRangeIter h it (lo+(i:Nat)*1) ((n:Int) - (i:Nat)) 1) where
 mem:=by simp
 obj:=fun i h st b hb=>by
  have e:b=it:=by simpa using hb
  subst e;exact⟨_,st,fun v z=>by
   have z':Data.fields _=Data.cell v:=z;cases z'⟩
 keep:=fun i h h' st k=>k it (by simp) _ st
 item:=by
  intro X hP hw hK hc i pins s B H E I hf st hg;subst hP hw hK;obtain⟨f0,f1,f2,f3,f4,f5⟩:=hf it (by simp);have W:=Walks.range (prog:=X.prog) (w:=X.w) (I.ok.hd hc) it lo 1 n;refine(W.item i s _ _ hg st fun v h' tk hv st' kk=>?_);obtain⟨t,rfl⟩:=hv;have I1:Inv X pins B H {s with heap:=h',toks:=tk}:=I.turned (fun b o hb e=>kk b o (by simpa using hb) e) f0 f1 f3 f4 f5;refine(⟨_,rfl,Cy (s:={s with heap:=h',toks:=tk}) (n:="range_iterator") st' rfl rfl (by decide) ⟨.int (lo+i),H,I1,⟨t,?_⟩,⟨rfl,rfl⟩,st',fun b hb=>(hf b hb).1⟩⟩);rw[Int.mul_one]
 done:=by
  intro X hP hw hK hc i pins s B H E I hf st hg;subst hP hw hK;obtain⟨f0,f1,f2,f3,f4,f5⟩:=hf it (by simp);exact wpAny_pyNext_range_end (I.ok.hd hc) st (by have:n<=i:=hg;omega) fun h' eb=>⟨rfl,I.turned (t':=s.toks) (fun b o hb e=>eb b o hb e) f0 f1 f3 f4 f5⟩
 self:=fun _ _ _ _ _ st h=>wpAny_pyIter_rangeiter st h
section
variable {X:Cx} {tg:Expr}
def IH(K:Frag)(tl:TE):TI:=fun B H R=>tl B H fun x H1=>∃a,x=.ref a/\(∃xs,SqL K H1 a xs)/\R (Itl K a) H1
def Hi(K:Frag)(tl:TE):TI:=fun B H R=>tl B H fun x H1=>∃a,x=.ref a/\(∃xs,SqT K H1 a xs)/\R (Itt K a) H1
theorem GZ{l:Expr}{tl:TE}(hl:PE X l tl):PI X tg l (IH X.K tl):=by
 intro pins s B H R I h;refine thn (hl pins s B H _ I h) fun v s1 hm=>?_;obtain⟨x,H1,I1,r1,q1⟩:=hm;obtain⟨a,e,⟨xs,hq⟩,q⟩:=q1;subst e;cases r1;obtain⟨its,rv,p,hz⟩:=I1.list hq;refine(wpAny_pyIter_list p.isList ?_);refine⟨s1.heap.objs.size,[s1.heap.objs.size],_,_,H1,rfl,I1.kept (t':=s1.toks) fun b o e=>Vu _ e,NI a _,⟨_,VC _ rfl,rfl,rfl⟩,fun b hb=>?_,q⟩;have e:b=s1.heap.objs.size:=by simpa using hb
 subst e;exact I1.fpOk (Vv _) (I1.hok.fresh (Vv _))
theorem OC{l:Expr}{tl:TE}(hl:PE X l tl):PI X tg l (Hi X.K tl):=by
 intro pins s B H R I h;refine thn (hl pins s B H _ I h) fun v s1 hm=>?_;obtain⟨x,H1,I1,r1,q1⟩:=hm;obtain⟨a,e,⟨xs,hq⟩,q⟩:=q1;subst e;cases r1;obtain⟨its,rv,p,hz⟩:=I1.tuple hq;refine(wpAny_pyIter_tuple (show s1.heap.IsTuple a its.toArray from p) ?_);refine⟨s1.heap.objs.size,[s1.heap.objs.size],_,_,H1,rfl,I1.kept (t':=s1.toks) fun b o e=>Vu _ e,SB a _,⟨_,VC _ rfl,rfl,rfl⟩,fun b hb=>?_,q⟩;have e:b=s1.heap.objs.size:=by simpa using hb
 subst e;exact I1.fpOk (Vv _) (I1.hok.fresh (Vv _))
theorem Dd{pins:QS}{B:St}{H:Hp}{s:Shared}{R:It->Hp->Prop}{E:OK}{lo hi:Int}{t u v:Tok}{tk:Nat}(I:Inv X pins B H s)(h1:-(2^62)<=lo)(h2:lo<2^62)(h3:-(2^62)<=hi)(h4:hi<2^62)
  (q:R (Itr lo (hi - lo).toNat) H):wpAny (model X.prog X.w) X.A (pyIter (.ref s.heap.objs.size)) (PIE X pins B tg R) E {s with heap:=s.heap.push {cls:=.type "range",data:=.fields #[.int lo t,.int hi u,.int 1 v]},toks:=tk}:=by
 refine wpAny_pyIter_range (IsRange.new ..) (small_one h1 h2 h3 h4) ?_;have I1:Inv X pins B H {s with heap:=s.heap.push {cls:=.type "range",data:=.fields #[.int lo t,.int hi u,.int 1 v]},toks:=tk}:=I.kept fun b o e=>Vu _ e;refine⟨(s.heap.push {cls:=.type "range",data:=.fields #[.int lo t,.int hi u,.int 1 v]}).objs.size,[(s.heap.push {cls:=.type "range",data:=.fields #[.int lo t,.int hi u,.int 1 v]}).objs.size],_,_,H,rfl,
  I1.kept (t':=tk) fun b o e=>Vu _ e,GJ _ lo (hi - lo).toNat,?_,fun b hb=>?_,q⟩
 ·have e1:lo+((0:Nat):Int)*1=lo:=by simp
  have e2:(((hi - lo).toNat:Nat):Int) - ((0:Nat):Int)=Builtin.Range.rangeSize lo hi 1:=by rw[rangeSize_one];split<;>omega
  show IsRangeIter _ _ (lo+((0:Nat):Int)*1) ((((hi - lo).toNat:Nat):Int) - ((0:Nat):Int)) 1;rw[e1,e2];exact VC _ rfl
 ·have e:b=(s.heap.push {cls:=.type "range",data:=.fields #[.int lo t,.int hi u,.int 1 v]}).objs.size:=by simpa using hb
  subst e;exact I1.fpOk (Vv _) (I1.hok.fresh (Vv _))
def Ig(ta:TA):TI:=fun B H R=>ta B H fun vs H1=>∃j:Int,vs=[.int j]/\-(2^62)<=j/\j<2^62/\R (Itr 0 j.toNat) H1
def KL(ta:TA):TI:=fun B H R=>ta B H fun vs H1=>∃i j:Int,vs=[.int i,.int j]/\(-(2^62)<=i/\i<2^62/\-(2^62)<=j/\j<2^62)/\R (Itr i (j - i).toNat) H1
theorem O6{a:Expr}{ta:TA}{p pos:Pos}(hg:Gl X "range") (hm:X.mg "range"=none) (ha:PA X [a] ta) (hs:starEach [a] X.env=[(false,eval a X.env)]:=by rfl):PI X tg (.Call (.Name "range" p) [a] [] pos) (Ig ta):=by
 intro pins s B H R I h;refine Call_ (t6 I hg hm boot_range (Wa (thn (ha pos pins s B H _ I h) fun us s1 hm=>?_) hs rfl));obtain⟨vs,H1,I1,r1,q1⟩:=hm;obtain⟨j,e,q1,q2,q⟩:=q1;subst e;cases r1 with
 |cons r rr=>
  cases rr;obtain⟨t,rfl⟩:=r;exact(call_range_1 (Dd I1 (by omega) (by omega) q1 q2 (by simpa using q)))
theorem U4{a b:Expr}{ta:TA}{p pos:Pos}(hg:Gl X "range") (hm:X.mg "range"=none) (ha:PA X [a,b] ta) (hs:starEach [a,b] X.env=[(false,eval a X.env),(false,eval b X.env)]:=by rfl) (hs2:starEach [b] X.env=[(false,eval b X.env)]:=by rfl):
  PI X tg (.Call (.Name "range" p) [a,b] [] pos) (KL ta):=by
 intro pins s B H R I h;refine Call_ (t6 I hg hm boot_range (Wa (thn (ha pos pins s B H _ I h) fun us s1 hm=>?_) (by rw[hs,hs2]) (by rw[hs2];rfl)));obtain⟨vs,H1,I1,r1,q1⟩:=hm;obtain⟨i,j,e,⟨q1,q2,q3,q4⟩,q⟩:=q1;subst e;cases r1 with
 |cons r rr=>
  cases rr with
  |cons r' rr=>
   cases rr;obtain⟨t,rfl⟩:=r;obtain⟨t',rfl⟩:=r';exact(call_range_2 (Dd I1 q1 q2 q3 q4 q))
def Ql(wi:TI)(g:TG)(tb:TS):TS:=fun D B H=>wi B H fun Z6 H1=>∃W:Nat->Nat->St->Hp->Prop,(∃m,W 0 m B H1)/\∀i m B H,W i m B H->
 (Z6.stop i H/\D.nx B H)\/(Z6.go i H/\∃N:St->Hp->Prop,(∀ZZ H',N ZZ H'->∃m',m'<m/\W (i+1) m' ZZ H')/\∀x H',Z6.yld i H x H'->g x B H' fun ZW H2=>tb {D with nx:=N,ct:=N,bk:=D.nx} ZW H2)
def vd(fp:List Addr)(h:Heap):QS:=fp.filterMap fun b=>(h.get? b).map fun o=>(b,o)
theorem uu{fp:List Addr}{h:Heap}{b:Addr}{o:Obj}(hb:b∈fp)(e:h.get? b=some o):(b,o)∈vd fp h:=List.mem_filterMap.mpr ⟨b,hb,by rw[e];rfl⟩
theorem UI{fp:List Addr}{h:Heap}{p:Addr×Obj}(hp:p∈vd fp h):p.1∈fp/\h.get? p.1=some p.2:=by
 obtain⟨b,hb,e⟩:=List.mem_filterMap.mp hp;cases q:h.get? b with
 |none=>rw[q] at e;cases e
 |some o=>
  rw[q] at e;have e':(b,o)=p:=VP e;subst e';exact⟨hb,q⟩
theorem Inv.pinned{pins:QS}{B:St}{H:Hp}{s:Shared}{fp:List Addr}(I:Inv X pins B H s)(hf:∀b∈fp,qK X pins H b)(ho:∀b∈fp,∃o,s.heap.get? b=some o/\∀v,o.data≠.cell v):Inv X (pins++vd fp s.heap) B H s:=
 I.pins_of fun p hp=>(VQ.mp hp).elim (fun z=>I.pin p (VE _ z)) fun z=>by
  obtain⟨hb,e⟩:=UI z;obtain⟨f0,f1,f2,_⟩:=hf p.1 hb;obtain⟨o,e',d⟩:=ho p.1 hb;rw[e] at e';cases e';exact⟨e,f0,f1,f2,d⟩
theorem Inv.unpinned{pins pl:QS}{B:St}{H:Hp}{s:Shared}(I:Inv X (pins++pl) B H s):Inv X pins B H s:=I.pins_of fun p hp=>I.pin p (VE _ (List.mem_append_left _ hp))
theorem HN{iter:Expr}{body:List Stmt}{wi:TI}{g:TG}{tb:TS}{pos:Pos}(hp:PassesOwn (model X.prog X.w) X.A X.env X.xe)(hc:X.calm=true)(hi:PI X tg iter wi)(hg:PG X tg g)(hb:PSs X body tb)
  (hs:∀x,foldedSetIterable iter X.env x=pure x:=by intro _;rfl):PS X (.For tg iter body [] pos) (Ql wi g tb):=by
 intro pins s B H D I h;refine wpAny_For (thn (hi pins s B H _ I h) fun v s1 h1=>thn h1 fun itv s2 h2=>?_) hs;obtain⟨it,fp,tn,Z6,H2,e,I2,T,st2,f2,W,⟨m0,w0⟩,turn⟩:=h2;subst e;have stat:∀{H':Hp},(∀b∈fp,H' b=none)->∀b∈fp,qK X pins H' b:=fun hn b hb=>⟨hn b hb,(f2 b hb).2⟩
 refine codeAny_forLoop_any (fun n s'=>∃i ZZ H',Inv X pins ZZ H' s'/\tn i s'.heap/\(∀b∈fp,H' b=none)/\W i n ZZ H') ?_ m0 ⟨0,B,H2,I2,st2,fun b hb=>(f2 b hb).1,w0⟩;rintro n s3 ⟨i,ZH,H3,I3,st3,fr3,w3⟩;rcases turn i n ZH H3 w3 with⟨stop,qn⟩|⟨go,N,hN,step⟩
 ·refine WR hp (thn (T.done X rfl rfl rfl hc i pins s3 ZH H3 X.xe I3 (stat fr3) st3 stop) fun r s4 ⟨hr,I4⟩=>?_);subst hr;exact wpAny_execs_nil ⟨ZH,H3,I4,qn⟩
 ·refine WR hp (thn (T.item X rfl rfl rfl hc i pins s3 ZH H3 X.xe I3 (stat fr3) st3 go) fun r s4 ⟨u,hr,h4⟩=>?_);subst hr;refine WR hp (thn h4 fun _ s5 hm=>?_);obtain⟨x,H5,I5,r5,y5,st5,fr5⟩:=hm;have I5':=I5.pinned (stat fr5) (T.obj _ _ st5);refine(WR hp (thn (hg _ s5 ZH H5 x u _ I5' r5 (step x H5 y5)) fun _ s6 hm=>?_));obtain⟨Zo,H6,I6,q6⟩:=hm;refine(WR hp (thn (hb _ s6 Zo H6 _ I6 q6) fun f s7 q7=>?_));have again:∀{ZS:St} {H7:Hp},Inv X (pins++vd fp s5.heap) ZS H7 s7->N ZS H7->∃m,m<n/\∃i ZZ H',Inv X pins ZZ H' s7/\tn i s7.heap/\(∀b∈fp,H' b=none)/\W i m ZZ H':=fun{ZS H7} I7 n7=>by
   obtain⟨m',hm,w7⟩:=hN ZS H7 n7;refine(⟨m',hm,i+1,ZS,H7,I7.unpinned,T.keep _ _ _ st5 fun b hb o e=>(I7.pin (b,o) (VE _ (VE _ (uu hb e)))).1,fun b hb=>?_,w7⟩);obtain⟨o,e,d⟩:=T.obj _ _ st5 b hb;exact((I7.pin (b,o) (VE _ (VE _ (uu hb e)))).2.1)
  cases f with
  |next=>obtain⟨ZS,H7,I7,n7⟩:=q7;exact again I7 n7
  |cont=>obtain⟨ZS,H7,I7,n7⟩:=q7;exact again I7 n7
  |brk=>obtain⟨ZS,H7,I7,q7⟩:=q7;exact⟨ZS,H7,I7.unpinned,q7⟩
  |ret v=>obtain⟨x7,ZS,H7,I7,r7,q7⟩:=q7;exact⟨x7,ZS,H7,I7.unpinned,r7,q7⟩
end
abbrev R2:=V->V->Hp->VK->Prop
def OpR(X:Cx)(f:Value->Value->Sem Value)(r:R2):Prop:=
 ∀(pins:QS) (s:Shared) (B:St) (H:Hp) (x y:V) (v u:Value) (Q:VK),Inv X pins B H s->RelV x v->RelV y u->r x y H Q->
  wpAny (model X.prog X.w) X.A (f v u) (EP X pins B Q) X.xe s
def UnR(X:Cx)(f:Value->Sem Value)(r:V->Hp->VK->Prop):Prop:=
 ∀(pins:QS) (s:Shared) (B:St) (H:Hp) (x:V) (v:Value) (Q:VK),Inv X pins B H s->RelV x v->r x H Q->
  wpAny (model X.prog X.w) X.A (f v) (EP X pins B Q) X.xe s
def tz(X:Cx)(f:Value)(r:List V->Hp->VK->Prop):Prop:=
 ∀(pins:QS) (s:Shared) (B:St) (H:Hp) (xs:List V) (us:List Value) (Q:VK),Inv X pins B H s->Vals xs us->r xs H Q->
  wpAny (model X.prog X.w) X.A (call f us) (EP X pins B Q) X.xe s
def Ui(X:Cx)(r:V->Hp->(Bool->Hp->Prop)->Prop):Prop:=
 ∀(pins:QS) (s:Shared) (B:St) (H:Hp) (x:V) (v:Value) (Q:Bool->Hp->Prop),Inv X pins B H s->RelV x v->r x H Q->
  wpAny (model X.prog X.w) X.A (truthy v) (TP X pins B Q) X.xe s
def tOp(r:R2)(ta tb:TE):TE:=fun B H Q=>ta B H fun x H1=>tb B H1 fun y H2=>r x y H2 Q
def tUn(r:V->Hp->VK->Prop)(ta:TE):TE:=fun B H Q=>ta B H fun x H1=>r x H1 Q
def rI(C:Int->Int->Prop)(g:Int->Int->V):R2:=fun x y H Q=>∃i j,x=.int i/\y=.int j/\C i j/\Q (g i j) H
def rI0(g:Int->Int->V):R2:=fun x y H Q=>∃i j,x=.int i/\y=.int j/\Q (g i j) H
def rU(g:Int->V):V->Hp->VK->Prop:=fun x H Q=>∃i,x=.int i/\Q (g i) H
section
variable {X:Cx} {a b:Expr} {ta tb:TE} {pos:Pos}
theorem DU(ha:PE X a ta)(hb:PE X b tb){pins:QS}{s:Shared}{B:St}{H:Hp}{R:V->V->Hp->Prop}(I:Inv X pins B H s)
  (h:ta B H fun x H1=>tb B H1 fun y H2=>R x y H2) {Q:OK} {f:Value->Value->Sem Value}
  (hf:∀v u s2 x y H2,Inv X pins B H2 s2->RelV x v->RelV y u->R x y H2->wpAny (model X.prog X.w) X.A (f v u) Q X.xe s2):
  wpAny (model X.prog X.w) X.A (eval a X.env) (fun v ZU=>wpAny (model X.prog X.w) X.A (eval b X.env) (fun u ZJ=>wpAny (model X.prog X.w) X.A (f v u) Q X.xe ZJ) X.xe ZU) X.xe s:=by
 refine thn (ha pins s B H _ I h) fun v s1 hm=>?_;obtain⟨x,H1,I1,r1,q1⟩:=hm;refine(thn (hb pins s1 B H1 _ I1 q1) fun u s2 hm=>?_);obtain⟨y,H2,I2,r2,q2⟩:=hm;exact(hf v u s2 x y H2 I2 r1 r2 q2)
theorem UY{op:Operator}{r:R2}(ho:OpR X (binaryOp op) r)(ha:PE X a ta)(hb:PE X b tb):PE X (.BinOp a op b pos) (tOp r ta tb):=by
 intro pins s B H Q I h;exact wpAny_BinOp (DU ha hb I h fun v u s2 x y H2 I2 rx ry q=>ho pins s2 B H2 x y v u Q I2 rx ry q)
theorem PM{op:UnaryOp}{r:V->Hp->VK->Prop}(ho:UnR X (unaryOp op) r)(ha:PE X a ta):PE X (.UnaryOp op a pos) (tUn r ta):=by
 intro pins s B H Q I h;exact UnaryOp_ (thn (ha pins s B H _ I h) fun v s1 ⟨x,H1,I1,r1,q1⟩=>ho pins s1 B H1 x v Q I1 r1 q1)
theorem opI{f:Value->Value->Sem Value}{C:Int->Int->Prop}{g:Int->Int->Int}
  (rule:∀(i j:Int) (t u:Tok) (s:Shared) (Q:OK) (E:OK),C i j->Q (.int (g i j) s.toks) {s with toks:=s.toks+1}->wpAny (model X.prog X.w) X.A (f (.int i t) (.int j u)) Q E s):
  OpR X f (rI C fun i j=>.int (g i j)):=by
 intro pins s B H x y v u Q I rx ry h;obtain⟨i,j,rfl,rfl,hc,q⟩:=h;obtain⟨t,rfl⟩:=rx;obtain⟨t',rfl⟩:=ry;exact(rule i j t t' s _ _ hc ⟨.int (g i j),H,I.tok _,⟨_,rfl⟩,q⟩)
theorem EE{f:Value->Value->Sem Value}{g:Int->Int->Int}
  (rule:∀(i j:Int) (t u:Tok) (s:Shared) (Q:OK) (E:OK),Q (.int (g i j) s.toks) {s with toks:=s.toks+1}->wpAny (model X.prog X.w) X.A (f (.int i t) (.int j u)) Q E s):
  OpR X f (rI0 fun i j=>.int (g i j)):=by
 intro pins s B H x y v u Q I rx ry h;obtain⟨i,j,rfl,rfl,q⟩:=h;obtain⟨t,rfl⟩:=rx;obtain⟨t',rfl⟩:=ry;exact(rule i j t t' s _ _ ⟨.int (g i j),H,I.tok _,⟨_,rfl⟩,q⟩)
theorem Dy{f:Value->Value->Sem Value}{g:Int->Int->Bool}
  (rule:∀(i j:Int) (t u:Tok) (s:Shared) (Q:OK) (E:OK),Q (.bool (g i j)) s->wpAny (model X.prog X.w) X.A (f (.int i t) (.int j u)) Q E s):
  OpR X f (rI0 fun i j=>.bl (g i j)):=by
 intro pins s B H x y v u Q I rx ry h;obtain⟨i,j,rfl,rfl,q⟩:=h;obtain⟨t,rfl⟩:=rx;obtain⟨t',rfl⟩:=ry;exact(rule i j t t' s _ _ ⟨.bl (g i j),H,I,rfl,q⟩)
def uZ(i j:Int):Prop:=0<=j/\j<=1000000/\i.natAbs<2^64
def CMul(i j:Int):Prop:=(-(2^64)<i/\i<2^64)\/(-(2^64)<j/\j<2^64)
theorem CMul.ok{i j:Int}(h:CMul i j):IntMulOk i j:=by
 rcases h with⟨h1,h2⟩|⟨h1,h2⟩
 ·exact .of_left (intBits_le_64 h1 h2)
 ·exact .of_right (intBits_le_64 h1 h2)
theorem op_add:OpR X (binaryOp .Add) (rI0 fun i j=>.int (i+j)):=EE fun _ _ _ _ _ _ _ q=>add_int q
theorem Ml:OpR X (binaryOp .Sub) (rI0 fun i j=>.int (i - j)):=EE fun _ _ _ _ _ _ _ q=>sub_int q
theorem op_mul:OpR X (binaryOp .Mult) (rI CMul fun i j=>.int (i*j)):=opI fun _ _ _ _ _ _ _ hc q=>mul_int q hc.ok
theorem Pn:OpR X (binaryOp .Mod) (rI (fun _ j=>0<j) fun i j=>.int (i%j)):=opI fun i j _ _ _ _ _ hc q=>by
 have h1:(0:Int)<j:=hc;exact mod_int' (by omega) (by rw[Int.fmod_eq_emod_of_nonneg i (by omega)];exact q)
theorem U7:OpR X (binaryOp .Pow) (rI uZ fun i j=>.int (i^j.toNat)):=opI fun _ _ _ _ _ _ _ hc q=>pow_int_small hc.1 hc.2.1 hc.2.2 q
theorem unI{f:Value->Sem Value}{g:Int->Int}
  (rule:∀(i:Int) (t:Tok) (s:Shared) (Q:OK) (E:OK),Q (.int (g i) s.toks) {s with toks:=s.toks+1}->wpAny (model X.prog X.w) X.A (f (.int i t)) Q E s):
  UnR X f (rU fun i=>.int (g i)):=by
 intro pins s B H x v Q I rx h;obtain⟨i,rfl,q⟩:=h;obtain⟨t,rfl⟩:=rx;exact(rule i t s _ _ ⟨.int (g i),H,I.tok _,⟨_,rfl⟩,q⟩)
theorem Ul:UnR X (unaryOp .USub) (rU fun i=>.int (-i)):=unI fun _ _ _ _ _ q=>neg_int q
end
section
variable {X:Cx} {a b c:Expr} {ta tb tc:TE} {pos:Pos}
theorem zI{pins:QS}{B:St}{H:Hp}{s:Shared}{Q:VK}{k k':Bool}(I:Inv X pins B H s)(q:Q (.bl k) H)(e:k=k'):EP X pins B Q (.bool k') s:=by
 subst e;exact⟨.bl k,H,I,rfl,q⟩
theorem D8:OpR X (compareOp .Lt) (rI0 fun i j=>.bl (decide (i<j))):=Dy fun _ _ _ _ _ _ _ q=>lt_int q
theorem Gy:OpR X (compareOp .LtE) (rI0 fun i j=>.bl (decide (i<=j))):=Dy fun _ _ _ _ _ _ _ q=>le_int q
theorem PL:OpR X (compareOp .Gt) (rI0 fun i j=>.bl (decide (j<i))):=Dy fun _ _ _ _ _ _ _ q=>gt_int q
theorem Vj:OpR X (compareOp .Is) (fun x y H Q=>y=.non/\Q (.bl (decide (x=.non))) H):=by
 intro pins s B H x y v u Q I rx ry h;obtain⟨rfl,q⟩:=h;cases ry;refine(is_none_gen (zI I q ?_));cases x<;>first
  |(cases rx;rfl)
  |(obtain⟨t,rfl⟩:=rx;rfl)
theorem Nw:OpR X (compareOp .IsNot) (fun x y H Q=>y=.non/\Q (.bl (!decide (x=.non))) H):=by
 intro pins s B H x y v u Q I rx ry h;obtain⟨rfl,q⟩:=h;cases ry;refine(isnot_none_gen (zI I q ?_));cases x<;>first
  |(cases rx;rfl)
  |(obtain⟨t,rfl⟩:=rx;rfl)
theorem OpR.or{f:Value->Value->Sem Value}{r r':R2}(h:OpR X f r)(h':OpR X f r'):OpR X f (fun x y H Q=>r x y H Q\/r' x y H Q):=by
 intro pins s B H x y v u Q I rx ry q;rcases q with q|q
 ·exact h pins s B H x y v u Q I rx ry q
 ·exact h' pins s B H x y v u Q I rx ry q
theorem uc(b:Expr){op:CmpOp}(h:op≠.In:=by decide)(h2:op≠.NotIn:=by decide):behindInMarks op b=false:=by
 have e1:(op==CmpOp.In)=false:=by cases op<;>first|rfl|exact absurd rfl h
 have e2:(op==CmpOp.NotIn)=false:=by cases op<;>first|rfl|exact absurd rfl h2
 cases b<;>simp[behindInMarks,e1,e2]
theorem MF{op:CmpOp}{r:R2}(ho:OpR X (compareOp op) r)(ha:PE X a ta)(hb:PE X b tb)(hm:behindInMarks op b=false):PE X (.Compare a [op] [b] pos) (tOp r ta tb):=by
 intro pins s B H Q I h;exact wpAny_Compare1 (DU ha hb I h fun v u s2 x y H2 I2 rx ry q=>ho pins s2 B H2 x y v u Q I2 rx ry q) hm
def CV(t:TE):TT:=fun B H Q=>t B H fun x H'=>∃k,x=.bl k/\Q k H'
theorem RT{op:CmpOp}{r:R2}(ho:OpR X (compareOp op) r)(ha:PE X a ta)(hb:PE X b tb)(hm:behindInMarks op b=false):PT X (.Compare a [op] [b] pos) (CV (tOp r ta tb)):=by
 intro pins s B H Q I h;refine wpAny_isTrue_Compare1 (thn (ha pins s B H _ I h) fun v s1 ⟨x,H1,I1,r1,q1⟩=>thn (hb pins s1 B H1 _ I1 q1) fun u s2 ⟨y,H2,I2,r2,q2⟩=>
  thn (ho pins s2 B H2 x y v u _ I2 r1 r2 q2) fun c s3 ⟨z,H3,I3,r3,k,e,q3⟩=>?_) hm
 subst e;cases r3;exact We ⟨H3,I3,q3⟩
def Ht(r r':R2)(ta tb tc:TE):TE:=fun B H Q=>ta B H fun x H1=>tb B H1 fun y H2=>r x y H2 fun z H3=>∃k,z=.bl k/\
 (if k=true then tc B H3 fun w' H4=>r' y w' H4 Q else Q (.bl false) H3)
theorem UZ{op op':CmpOp}{r r':R2}(ho:OpR X (compareOp op) r)(ho':OpR X (compareOp op') r')(ha:PE X a ta)(hb:PE X b tb)(hc:PE X c tc)
  (hm:lastMarks [op,op'] [b,c]=false:=by with_unfolding_all rfl):PT X (.Compare a [op,op'] [b,c] pos) (CV (Ht r r' ta tb tc)):=by
 intro pins s B H Q I h;refine isTrue_chain (thn (ha pins s B H _ I h) fun v s1 ⟨x,H1,I1,r1,q1⟩=>test_link (thn (hb pins s1 B H1 _ I1 q1) fun u s2 ⟨y,H2,I2,r2,q2⟩=>
  thn (ho pins s2 B H2 x y v u _ I2 r1 r2 q2) fun d s3 ⟨z,H3,I3,r3,k,e,q3⟩=>?_)) hm
 subst e;cases r3;refine We ?_;cases k with
 |false=>
  obtain⟨k',e',q'⟩:=q3;cases e';exact ite_ff ⟨H3,I3,q'⟩
 |true=>
  refine ite_tt (test_last (thn (hc pins s3 B H3 _ I3 q3) fun w' s4 ⟨z',H4,I4,r4,q4⟩=>thn (ho' pins s4 B H4 y z' u w' _ I4 r2 r4 q4) fun d' s5 hm=>?_));obtain⟨z2,H5,I5,r5,k2,e2,q5⟩:=hm;subst e2;cases r5;exact(We ⟨H5,I5,q5⟩)
def CW(K:Frag)(x:V)(H:Hp)(k:Bool):Prop:=
 match x with
 | .non=>k=false
 | .bl b=>k=b
 | .int i=>k=(i !=0)
 | .str y=>y.length<=sizeLine/\k=((y.length:Int) !=0)
 | .byt y=>y.size<=sizeLine/\k=((y.size:Int) !=0)
 | .ref p=>(∃xs,SqL K H p xs/\k=!xs.isEmpty)\/(∃xs,SqT K H p xs/\k=!xs.isEmpty)\/∃kvs,H p=some (.dK kvs)/\k=!kvs.isEmpty
 |_=>False
theorem TH{κ:Type}{kvs:List (κ×V)}{vs:List (κ×Value)}(r:KV kvs vs):(!vs.isEmpty)=!kvs.isEmpty:=by
 cases r<;>rfl
theorem Hn{xs:List V}{its:List Value}(r:Vals xs its):(!its.toArray.isEmpty)=!xs.isEmpty:=by
 cases r<;>simp
theorem x4:(sizeLine:Nat)<2^63:=by rw[WM];decide
theorem Og:Ui X (fun x H Q=>∃k,CW X.K x H k/\Q k H):=by
 intro pins s B H x v Q I rx h;obtain⟨k,e,q⟩:=h;have hl:=x4;have hs:sizeLine=16777216:=WM;cases x with
 |non=>
  cases rx;have e':k=false:=e;subst e';exact truthy_none ⟨H,I,q⟩
 |bl b=>
  cases rx;have e':k=b:=e;subst e';exact We ⟨H,I,q⟩
 |int i=>
  obtain⟨t,rfl⟩:=rx;have e':k=(i !=0):=e;subst e';exact PySem.P.truthy_int ⟨H,I,q⟩
 |str y=>
  obtain⟨t,rfl⟩:=rx;obtain⟨hy,e'⟩:y.length<=sizeLine/\k=((y.length:Int) !=0):=e;subst e';exact PySem.P.truthy_str (by omega) ⟨H,I.tok _,q⟩
 |byt y=>
  obtain⟨t,rfl⟩:=rx;obtain⟨hy,e'⟩:y.size<=sizeLine/\k=((y.size:Int) !=0):=e;subst e';exact PySem.W.truthy_bytes (by omega) ⟨H,I.tok _,q⟩
 |ref p=>
  cases rx;have e':(∃xs,SqL X.K H p xs/\k=!xs.isEmpty)\/(∃xs,SqT X.K H p xs/\k=!xs.isEmpty)\/∃kvs,H p=some (.dK kvs)/\k=!kvs.isEmpty:=e;rcases e' with⟨xs,hx,e'⟩|⟨xs,hx,e'⟩|⟨kvs,hx,e'⟩
  ·subst e';obtain⟨its,r,pl,hz⟩:=I.list hx;have hlen:=r.length;exact wpAny_truthy_list pl.isList (by simp only[VH];omega) ⟨H,I.tok _,by rw[Hn r];exact q⟩
  ·subst e';obtain⟨its,r,pl,hz⟩:=I.tuple hx;have hlen:=r.length;exact truthy_tuple pl (by simp only[VH];omega) ⟨H,I.tok _,by rw[Hn r];exact q⟩
  ·subst e';obtain⟨hz,hS,vs,r,m⟩:kvs.length<=sizeLine/\(p==sysModules)=false/\∃vs,KV kvs vs/\s.heap.DictOf (si X.prog X.w) p vs:=I.hok p _ hx;have hlen:kvs.length=vs.length:=Paired.length r;exact wpAny_truthy_dict hS m (by omega) ⟨H,I.tok _,by rw[TH r];exact q⟩
 |_=>exact(show False from e).elim
theorem Uk(ha:PE X a ta)(he:∀whole,isTrue a X.env whole=(do let v ←whole;standAt a.pos;holding [v] (truthy v))):
  PT X a (fun B H Q=>ta B H fun x H'=>∃k,CW X.K x H' k/\Q k H'):=by
 intro pins s B H Q I h;exact isTrue_plain (thn (ha pins s B H _ I h) fun v s1 ⟨x,H1,I1,r1,q1⟩=>Og pins s1 B H1 x v Q I1 r1 q1) (he _)
theorem vE{x:V}{us:List Value}(r:Vals [x] us):∃u,us=[u]/\RelV x u:=by
 cases r with
 |cons r1 r2=>cases r2;exact⟨_,rfl,r1⟩
theorem AN{x y:V}{us:List Value}(r:Vals [x,y] us):∃u w',us=[u,w']/\RelV x u/\RelV y w':=by
 cases r with
 |cons r1 r2=>
  cases r2 with
  |cons r3 r4=>cases r4;exact⟨_,_,rfl,r1,r3⟩
theorem SQ(hc:X.calm=true):tz X (.builtin "max") (fun xs H Q=>∃i j,xs=[.int i,.int j]/\Q (.int (if j>i then j else i)) H):=by
 intro pins s B H xs us Q I r h;obtain⟨i,j,rfl,q⟩:=h;obtain⟨u,w',rfl,⟨t,rfl⟩,⟨t',rfl⟩⟩:=AN r;refine(max_two_ints (I.ok.hd hc) fun h' tk k=>⟨_,H,I.kept k,?_,q⟩);by_cases hj:j>i
 ·rw[if_pos hj,if_pos hj];exact⟨_,rfl⟩
 ·rw[if_neg hj,if_neg hj];exact⟨_,rfl⟩
theorem To(hc:X.calm=true):tz X (.builtin "min") (fun xs H Q=>∃i j,xs=[.int i,.int j]/\Q (.int (if j<i then j else i)) H):=by
 intro pins s B H xs us Q I r h;obtain⟨i,j,rfl,q⟩:=h;obtain⟨u,w',rfl,⟨t,rfl⟩,⟨t',rfl⟩⟩:=AN r;refine(min_two_ints (I.ok.hd hc) fun h' tk k=>⟨_,H,I.kept k,?_,q⟩);by_cases hj:j<i
 ·rw[if_pos hj,if_pos hj];exact⟨_,rfl⟩
 ·rw[if_neg hj,if_neg hj];exact⟨_,rfl⟩
theorem Ux:tz X (.type "int") (fun xs H Q=>(∃i,xs=[.int i]/\Q (.int i) H)\/∃k,xs=[.bl k]/\Q (.int (if k then 1 else 0)) H):=by
 intro pins s B H xs us Q I r h;rcases h with⟨i,rfl,q⟩|⟨k,rfl,q⟩
 ·obtain⟨u,rfl,t,rfl⟩:=vE r;exact call_int_int ⟨.int i,H,I,⟨_,rfl⟩,q⟩
 ·obtain⟨u,rfl,r1⟩:=vE r;cases r1;exact call_int_bool ⟨.int (if k then 1 else 0),H,I.tok _,⟨_,rfl⟩,q⟩
end
structure ObjM (h:Heap) (x dx C:Addr) (mA:Str->Option Value):Prop where
 obj:h.get? x=some (PySem.W.instObj C dx)
 ns:h.Ns1 dx mA
 ne:dx≠x
def Qt{h:Heap}{dx:Addr}{mA:Str->Option Value}(n:h.Ns1 dx mA):∃od,h.get? dx=some od/\∀name,PySem.W.lookIn name od=some (mA name):=by
 obtain⟨o,es,ep,ho,hd,hk,_,hm⟩:=n;refine(⟨o,ho,fun name=>?_⟩);have e:=hm name;unfold nsFind findBy at e;rw[←Array.find?_toList] at e;unfold PySem.W.lookIn;rw[hd];dsimp only;split
 ·rename_i y q;rw[q] at e;exact congrArg some e
 ·rename_i q;rw[q] at e;have a:es.toList.any (·.refKey)=false:=by
   rw[List.any_eq_false];intro y hy;obtain⟨z,t,hkey⟩:=hk y (Array.mem_toList_iff.mp hy);simp[DictEntry.refKey,hkey]
  have a':¬es.toList.any (·.refKey)=true:=by rw[a];exact Wy
  rw[if_neg a'];exact congrArg some e
def ObjM.look{h:Heap}{x dx C:Addr}{mA:Str->Option Value}(I:ObjM h x dx C mA):∃od,PySem.W.InstAt h x (PySem.W.instObj C dx) C (some od)/\∀name,PySem.W.lookIn name od=some (mA name):=
 let ⟨od,ho,hl⟩:=Qt I.ns
 ⟨od,⟨I.obj,rfl,rfl,ho⟩,hl⟩
section
variable {prog:Program} {w:World} {A:Around} {E:OK} {s:Shared} {K:Frag} {x dx C f:Addr} {mA:Str->Option Value} {name:Str} {v:Value}
theorem QH{expr:Bool}{Q:OK}(X:K.In s.heap)(I:ObjM s.heap x dx C mA)(hg:PySem.W.plainGet K C name=true)(hh:PySem.W.hasDictIn K C=true)
  (ha:findIn K (.ref C) name=some none) (hv:mA name=some v) (hv':PySem.W.handedIn v=true) (h:Q v {s with toks:=s.toks+1}):
  wpAny (model prog w) A (getAttr (.ref x) name expr) Q E s:=by
 obtain⟨od,Z6,hl⟩:=I.look;exact(PySem.W.get_value X Z6 (PySem.W.plainGet_of hg).1 (PySem.W.findObj_own hh ha rfl (by rw[hl,hv])) hv' h)
theorem Oa{pl:Sem Bool}{Q:Value×List Value->Shared->Prop}(X:K.In s.heap)(I:ObjM s.heap x dx C mA)(hg:PySem.W.plainGet K C name=true)
  (hf:findIn K (.ref C) name=some (some (.ref f))) (ht:isFn K (.ref f)=true) (hv:mA name=none) (h:Q (.ref f,[.ref x]) s):
  wpAny (model prog w) A (getMethod (.ref x) name pl) Q E s:=by
 obtain⟨od,Z6,hl⟩:=I.look;exact PySem.W.method_fn X Z6 (PySem.W.plainGet_of hg).1 (PySem.W.plainGet_of hg).2 hf (beq_iff_eq.mp ht) (by show(PySem.W.lookIn name od).map (·.isSome)=some false;rw[hl,hv];rfl) h
theorem Rp{ns:List Str}{Q:Unit->Shared->Prop}(X:K.In s.heap)(I:ObjM s.heap x dx C mA)
  (hs:findIn K (.ref C) "__setattr__"=some (some (.builtin "object.__setattr__"))) (hp:PySem.W.plainOver K C=true) (ht:PySem.W.takerIn K C name=some none) (hh:PySem.W.hasDictIn K C=true)
  (hw:PySem.Within mA ns) (hsz:ns.length<=sizeLine)
  (h:∀h',ObjM h' x dx C (fun y=>if y=name then some v else mA y)->Heap.SameBut dx s.heap h'->Q () {s with heap:=h',toks:=s.toks+2}):
  wpAny (model prog w) A (setAttr (.ref x) name v) Q E s:=by
 obtain⟨od,Z6,hl⟩:=I.look;refine(PySem.W.set_plain X Z6 hs (PySem.W.osa_open (s:={s with toks:=s.toks+1}) (r:=none) X Z6 hp ht fun b=>?_));obtain⟨cd,hc,hd'⟩:=PySem.W.any_some hh;have hx:s.heap.get? x=some ⟨.ref C,some dx,.plain,#[]⟩:=I.obj;refine(Vt (Vx (Vt (Vt (wpAny_loadPart hx (Vt (PySem.W.Looks.here (s:={s with toks:=s.toks+1}) (PySem.W.looks_clsIn X hc) ?_)))))));rw[hd'];refine Vx (a:=some dx) (Vt (Vx (Vt ?_)));refine wpAny_nsSet1 (s:={s with toks:=s.toks+1}) I.ns fun h' hn2 hs2=>?_;obtain⟨oD,esD,epD,hoD,hdD,hcD⟩:=hn2.count (PySem.Within.cons name v hw);refine Vt (wpAny_lookBehind hoD (by rw[hdD];exact pastItsLine_dict (V0 hcD (by rw[VY];omega))) ?_);exact Vx (h _ ⟨(hs2.2 _ (Ne.symm I.ne)).trans I.obj,hn2,I.ne⟩ hs2)
theorem N1{R:Result->Shared->Prop}{vs:List Value}{kw:List (Str×Value)}(X:K.In s.heap)(hm:PySem.W.makesIn K C=true)
  (hi:findIn K (.ref C) "__init__"=some (some (.ref f))) (hf:PySem.W.typeIn K (.ref f)=some (.type "function"))
  (h:codeAny (model prog w) (A.under (.builtin "type.__call__" ⟨.ref C::vs,kw⟩)) (.call (.ref f) ⟨.ref (s.heap.objs.size+1)::vs,kw⟩) (PySem.W.InitBack (s.heap.objs.size+1) R)
   {s with heap:=(s.heap.push PySem.W.emptyDict).push (PySem.W.instObj C s.heap.objs.size)}):
  codeAny (model prog w) A (.call (.ref C) ⟨vs,kw⟩) R s:=by
 obtain⟨hh,g,d,t,os⟩:=s;exact(PySem.W.make_core (PySem.W.makes_of X hm) (PySem.W.looks_findIn X hi) (fun self=>PySem.W.bind_fn X self hf) (.inl rfl) h)
end
def rk(f:Str)(v:V):List (Str×V)->List (Str×V)
 | []=>[(f,v)]
 |(g,x)::r=>if g=f then(g,v)::r else(g,x)::rk f v r
theorem K5(f g:Str)(v:V):∀fs:List (Str×V),(rk f v fs).lookup g=if g=f then some v else fs.lookup g
 | []=>by
  show List.lookup g [(f,v)]=_;by_cases h:g=f
  ·have hb:(g==f)=true:=beq_iff_eq.mpr h;simp only[List.lookup,hb,if_pos h]
  ·have hb:(g==f)=false:=beq_eq_false_iff_ne.mpr h;simp only[List.lookup,hb,if_neg h]
 |(k,x)::r=>by
  have ih:=K5 f g v r;rw[show rk f v ((k,x)::r)=(if k=f then(k,v)::r else(k,x)::rk f v r) from rfl];by_cases hk:k=f
  ·rw[if_pos hk];by_cases h:g=k
   ·have hb:(g==k)=true:=beq_iff_eq.mpr h;simp only[List.lookup,hb,if_pos (h.trans hk)]
   ·have hb:(g==k)=false:=beq_eq_false_iff_ne.mpr h;simp only[List.lookup,hb,if_neg (fun e:g=f=>h (e.trans hk.symm))]
  ·rw[if_neg hk];by_cases h:g=k
   ·have hb:(g==k)=true:=beq_iff_eq.mpr h;simp only[List.lookup,hb,if_neg (fun e:g=f=>hk (h.symm.trans e))]
   ·have hb:(g==k)=false:=beq_eq_false_iff_ne.mpr h;simp only[List.lookup,hb];exact ih
theorem Bg(f:Str)(v:V):∀fs:List (Str×V),f∈(rk f v fs).map (·.1)/\∀g,g∈fs.map (·.1)->g∈(rk f v fs).map (·.1)
 | []=>⟨by simp[rk],fun g h=>by simp at h⟩
 |(k,x)::r=>by
  obtain⟨i1,i2⟩:=Bg f v r;rw[show rk f v ((k,x)::r)=(if k=f then(k,v)::r else(k,x)::rk f v r) from rfl];by_cases hk:k=f
  ·rw[if_pos hk];subst hk;exact⟨by simp,fun g h=>by simpa using h⟩
  ·rw[if_neg hk];refine⟨?_,fun g h=>?_⟩
   ·rw[VB];exact V3 _ i1
   ·rw[VB] at h⊢;rcases VI.mp h with e|e
    ·exact VI.mpr (.inl e)
    ·exact V3 _ (i2 g e)
theorem Ki(f:Str)(v:V):∀fs:List (Str×V),(rk f v fs).length<=fs.length+1
 | []=>by simp[rk]
 |(k,x)::r=>by
  have ih:=Ki f v r;rw[show rk f v ((k,x)::r)=(if k=f then(k,v)::r else(k,x)::rk f v r) from rfl];by_cases hk:k=f
  ·rw[if_pos hk,VY,VY];omega
  ·rw[if_neg hk,VY,VY];omega
def RelO.some_of{v:V}{o:Option Value}(r:RelO (some v) o):∃u,o=some u/\RelV v u:=by
 cases o with
 |none=>exact(show False from r).elim
 |some u=>exact⟨u,rfl,r⟩
def RelO.none_of{o:Option Value}(r:RelO none o):o=none:=by
 cases o with
 |none=>rfl
 |some u=>exact(show False from r).elim
def Sz{v:V}{u:Value}(r:RelV v u):PySem.W.handedIn u=true:=by
 cases v with
 |non=>cases (show u=Value.none from r);rfl
 |bl b=>cases (show u=Value.bool b from r);rfl
 |int i=>obtain⟨t,e⟩:=(show ∃t,u=Value.int i t from r);cases e;rfl
 |str x=>obtain⟨t,e⟩:=(show ∃t,u=Value.str x t from r);cases e;rfl
 |byt b=>obtain⟨t,e⟩:=(show ∃t,u=Value.bytes b t from r);cases e;rfl
 |flt b=>obtain⟨t,e⟩:=(show ∃t,u=Value.float b t from r);cases e;rfl
 |ref a=>cases (show u=Value.ref a from r);rfl
 |ty n=>cases (show u=Value.type n from r);rfl
section
variable {P:Program} {w:World} {H:Hp} {h:Heap} {a C dx:Addr} {fs:List (Str×V)}
theorem BR(hok:HOk P w H h)(e:H a=some (.ins C dx fs)):∃mA,ObjM h a dx C mA/\(∀f,RelO (fs.lookup f) (mA f))/\PySem.Within mA (fs.map (·.1))/\fs.length<=1000/\H dx=some (.own a):=by
 obtain⟨d,z,ne,ob,mA,n,r,q⟩:=(show ObjOk P w H h a (.ins C dx fs) from hok a _ e)
 exact(⟨mA,⟨ob,n,ne⟩,r,q,z,d⟩)
end
structure Cls (K:Frag) (C:Addr):Prop where
 pg:PySem.W.plainGet K C Str.empty=true
 hd:PySem.W.hasDictIn K C=true
 po:PySem.W.plainOver K C=true
 sa:findIn K (.ref C) "__setattr__"=some (some (.builtin "object.__setattr__"))
def Cls.get{K:Frag}{C:Addr}(c:Cls K C)(f:Str):PySem.W.plainGet K C f=true:=c.pg
def NoAttr(K:Frag)(C:Addr)(f:Str):Prop:=findIn K (.ref C) f=some none
def NoAttr.taker{K:Frag}{C:Addr}{f:Str}(n:NoAttr K C f):PySem.W.takerIn K C f=some none:=by
 unfold PySem.W.takerIn;rw[show findIn K (.ref C) f=some none from n];rfl
structure Meth (K:Frag) (C:Addr) (m:Str) (f:Addr):Prop where
 at_:findIn K (.ref C) m=some (some (.ref f))
 fn:isFn K (.ref f)=true
 kp:keepIn K (.ref f)=true
section
variable {X:Cx} {pins:QS} {B:St} {H:Hp} {s:Shared} {a C dx:Addr} {fs:List (Str×V)} {f:Str} {v:V} {A:Around} {E:OK}
theorem Tk{b:Bool}{Q:OK}(I:Inv X pins B H s)(e:H a=some (.ins C dx fs))(c:Cls X.K C)(n:NoAttr X.K C f)(l:fs.lookup f=some v)
  (h:∀u s',Inv X pins B H s'->RelV v u->Q u s'):wpAny (model X.prog X.w) A (getAttr (.ref a) f b) Q E s:=by
 obtain⟨mA,Z8,r,_,_,_⟩:=BR I.hok e;obtain⟨u,hu,ru⟩:=RelO.some_of (v:=v) (o:=mA f) (by rw[←l];exact r f);exact(QH I.kIn Z8 (c.get f) c.hd n hu (Sz ru) (h u _ (I.tok _) ru))
theorem Ip{m:Str}{g:Addr}{pl:Sem Bool}{Q:Value×List Value->Shared->Prop}(I:Inv X pins B H s)(e:H a=some (.ins C dx fs))(c:Cls X.K C)(k:Meth X.K C m g)(l:fs.lookup m=none)
  (h:Q (.ref g,[.ref a]) s):wpAny (model X.prog X.w) A (getMethod (.ref a) m pl) Q E s:=by
 obtain⟨mA,Z8,r,_,_,_⟩:=BR I.hok e;have hn:mA m=none:=RelO.none_of (by rw[←l];exact r m);exact(Oa I.kIn Z8 (c.get m) k.at_ k.fn hn h)
theorem T2{y:V}{u:Value}{Q:Unit->Shared->Prop}(I:Inv X pins B H s)(e:H a=some (.ins C dx fs))(c:Cls X.K C)(n:NoAttr X.K C f)(hl:fs.length<1000)(ry:RelV y u)
  (h:∀s',Inv X pins B (upd H a (.ins C dx (rk f y fs))) s'->Q () s'):wpAny (model X.prog X.w) A (setAttr (.ref a) f u) Q E s:=by
 obtain⟨mA,Z8,r,wi,_,ho⟩:=BR I.hok e;have hz:(fs.map (·.1)).length<=sizeLine:=by rw[VF,WM];omega
 refine(Rp I.kIn Z8 c.sa c.po n.taker c.hd wi hz fun h' O' sb=>h _ ?_);have hd:∃o,h'.get? dx=some o:=let ⟨o,_,_,e',_⟩:=O'.ns;⟨o,e'⟩
 refine I.write (x:=a) (e:=dx) (by rw[e];exact True.intro) (.inr ho) (fun b q hb z=>(sb.2 b hb).trans z) hd ?_;refine⟨by rw[pW Z8.ne];exact ho,?_,Z8.ne,O'.obj,_,O'.ns,fun g=>?_,fun g hg=>?_⟩
 ·have:=Ki f y fs;omega
 ·show RelO ((rk f y fs).lookup g) (if g=f then some u else mA g);rw[K5];by_cases q:g=f
  ·rw[if_pos q,if_pos q];exact ry
  ·rw[if_neg q,if_neg q];exact r g
 ·by_cases q:g=f
  ·rw[q];exact(Bg f y fs).1
  ·refine(Bg f y fs).2 g (wi g fun z=>hg ?_);show(if g=f then some u else mA g)=none;rw[if_neg q];exact z
theorem Inv.made(I:Inv X pins B H s):Inv X pins B (upd (upd H s.heap.objs.size (.own (s.heap.objs.size+1))) (s.heap.objs.size+1) (.ins C s.heap.objs.size []))
  {s with heap:=(s.heap.push PySem.W.emptyDict).push (PySem.W.instObj C s.heap.objs.size)}:=by
 have e1:(s.heap.push PySem.W.emptyDict).get? s.heap.objs.size=some PySem.W.emptyDict:=VC s.heap rfl;have e2:((s.heap.push PySem.W.emptyDict).push (PySem.W.instObj C s.heap.objs.size)).get? (s.heap.objs.size+1)=some (PySem.W.instObj C s.heap.objs.size):=by
  have:=VC (s.heap.push PySem.W.emptyDict) (o:=PySem.W.instObj C s.heap.objs.size) rfl;rwa[Wi] at this
 have e3:(s.heap.push PySem.W.emptyDict).Ns s.heap.objs.size (fun _=>none):=⟨PySem.W.emptyDict,#[],_,e1,rfl,(fun e he=>absurd he (by simp)),fun _=>rfl⟩
 have I1:=I.laid (a:=s.heap.objs.size) (o:=.own (s.heap.objs.size+1)) (h':=s.heap.push PySem.W.emptyDict) (t':=s.toks) (fun b u q=>Vu _ q) (Vv _) ⟨_,e1⟩;refine I1.laid (a:=s.heap.objs.size+1) (o:=.ins C s.heap.objs.size []) (t':=s.toks) (fun b u q=>Vu _ q) (Nat.le_of_eq (Wi _ _)) ?_;have ne:s.heap.objs.size≠s.heap.objs.size+1:=VN (Nat.lt_succ_self _);refine⟨by rw[pW ne,qG],Wm _,ne,e2,fun _=>none,(Heap.Ns1.of_empty e3).at fun o q=>Vu _ q,fun _=>True.intro,fun y hy=>absurd rfl hy⟩
theorem Oi{prog:Program}{w:World}{env:Env}{e:Expr}{f:Str}{pos:Pos}{s:Shared}{Q:OK}(hb:attributeBase e f env (eval e env)=eval e env)
  (h:wpAny (model prog w) A (eval e env) (fun o ZU=>wpAny (model prog w) A (getAttr o f true) Q E ZU) E s):wpAny (model prog w) A (eval (.Attribute e f pos) env) Q E s:=
 Attribute_any_ h (by rw[arm_eval_Attribute,hb])
end
def UE(K:Frag)(ta:TE)(f:Str):TE:=fun B H Q=>ta B H fun x H1=>∃a C dx fs v,x=.ref a/\H1 a=some (.ins C dx fs)/\Cls K C/\NoAttr K C f/\fs.lookup f=some v/\Q v H1
def PH(K:Frag)(ta tv:TE)(f:Str):TS:=fun D B H=>tv B H fun y H1=>ta B H1 fun x H2=>∃a C dx fs,x=.ref a/\H2 a=some (.ins C dx fs)/\Cls K C/\NoAttr K C f/\fs.length<1000/\
 D.nx B (upd H2 a (.ins C dx (rk f y fs)))
section
variable {X:Cx} {o e value:Expr} {f:Str} {pos pos':Pos} {ta tv:TE}
theorem OL(he:PE X e ta)(hb:attributeBase e f X.env (eval e X.env)=eval e X.env):PE X (.Attribute e f pos) (UE X.K ta f):=by
 intro pins s B H Q I h;refine Oi hb (thn (he pins s B H _ I h) fun u s1 hm=>?_);obtain⟨x,H1,I1,rx,a,C,dx,fs,v,ex,ea,c,n,l,q⟩:=hm;subst ex;obtain rfl:u=Value.ref a:=rx;exact Tk I1 ea c n l fun u' s2 I2 ru=>⟨v,H1,I2,ru,q⟩
theorem Vi(ha:PE X o ta)(hv:PE X value tv)(hs:swapsWith value (some (.Attribute o f pos')) pos.line X.env=pure false):PS X (.Assign [.Attribute o f pos'] value pos) (PH X.K ta tv f):=by
 intro pins s B H D I h;refine plainObj_wpAny_Assign_Attribute (thn (hv pins s B H _ I h) fun u s1 ⟨y,H1,I1,ry,q⟩=>thn (ha pins s1 B H1 _ I1 q) fun ov s2 hm=>?_) hs;obtain⟨x,H2,I2,rx,a,C,dx,fs,ex,ea,c,n,l,q2⟩:=hm;subst ex;obtain rfl:ov=Value.ref a:=rx;exact T2 I2 ea c n l ry fun s3 I3=>⟨B,_,I3,q2⟩
theorem methcall_of{pl:Sem Bool}{m:Str}{apos:Pos}{args:List Expr}{pins:QS}{s:Shared}{B:St}{H:Hp}{Q:OK}{te:TE}(he:PE X e te)(I:Inv X pins B H s)
  (h:te B H fun x H1=>∃a C dx fs g,x=.ref a/\H1 a=some (.ins C dx fs)/\Cls X.K C/\Meth X.K C m g/\fs.lookup m=none/\
   ∀s1,Inv X pins B H1 s1->wpAny (model X.prog X.w) X.A (callWith pos (.ref g) [.ref a] (backTo pos (starEach args X.env)) (backToKw pos (keywordEach [] X.env))) Q X.xe s1)
  (ht:eval (.Call (.Attribute e m apos) args [] pos) X.env=(do
   let ov ←eval e X.env
   standAt apos.atName
   let (f,first) ←holding [ov] (getMethod ov m pl)
   callWith pos f first (backTo pos (starEach args X.env)) (backToKw pos (keywordEach [] X.env)))):
  wpAny (model X.prog X.w) X.A (eval (.Call (.Attribute e m apos) args [] pos) X.env) Q X.xe s:=by
 refine PySem.W.methodCall_KW (pl:=pl) (thn (he pins s B H _ I h) fun u s1 hm=>?_) ht;obtain⟨x,H1,I1,rx,a,C,dx,fs,g,ex,ea,c,k,l,q⟩:=hm;subst ex;obtain rfl:u=Value.ref a:=rx;exact Ip I1 ea c k l (q s1 I1)
end
structure Room (k:Nat) (A:Around):Prop where
 hd:A.handled=none
 dp:A.depth+3*k+5<recursionLimit
 un:A.units+16*k+200<cLine
 gd:A.guards=some []
def MV{A:Around}{C:Addr}{us:List Value}{kw:List (Str×Value)}:(A.under (.builtin "type.__call__" ⟨.ref C::us,kw⟩)).guards=A.guards:=by
 first|rfl|simp[Around.under,Code.isGuard,guardIds]
def Room.mono{j k:Nat}{A:Around}(r:Room k A)(h:j<=k):Room j A:=⟨r.hd,by have:=r.dp;omega,by have:=r.un;omega,r.gd⟩
def Room.deeper{k:Nat}{A:Around}(r:Room (k+1) A)(env:Env):Room k (A.deeper env):=
 ⟨r.hd,by have:=r.dp;show A.depth+1+3*k+5<_;omega,by have:=r.un;show A.units+3+16*k+200<_;omega,r.gd⟩
def Qn{A:Around}{C:Addr}{us:List Value}{kw:List (Str×Value)}:(A.under (.builtin "type.__call__" ⟨.ref C::us,kw⟩)).depth=A.depth+1:=by
 first|rfl|simp[Around.under,Code.weight,Code.isCreation,Code.isGuard,Code.isCaller,Code.frames,Code.isFrame,guardIds]
def Mi{A:Around}{C:Addr}{us:List Value}{kw:List (Str×Value)}:(A.under (.builtin "type.__call__" ⟨.ref C::us,kw⟩)).units=A.units+1:=by
 first|rfl|simp[Around.under,Code.cUnits,Code.frames,Code.isFrame]
def Room.make{k:Nat}{A:Around}(r:Room (k+1) A)(C:Addr)(us:List Value)(kw:List (Str×Value)):Room k (A.under (.builtin "type.__call__" ⟨.ref C::us,kw⟩)):=
 ⟨r.hd,by have:=r.dp;rw[Qn];omega,by have:=r.un;rw[Mi];omega,by rw[MV];exact r.gd⟩
def Room.depth{k:Nat}{A:Around}(r:Room k A):A.depth<recursionLimit:=by have:=r.dp;omega
def Room.units{k:Nat}{A:Around}(r:Room k A):A.units+64<cLine:=by have:=r.un;omega
def tQ:TA:=fun _ H Q=>Q [] H
def sm(ta:TE)(tr:TA):TA:=fun B H Q=>ta B H fun x H1=>tr B H1 fun xs H2=>Q (x::xs) H2
section
variable {X:Cx} {e:Expr} {es:List Expr} {te:TE} {t:TA} {pos:Pos}
theorem rG:PA X [] tQ:=fun _ _ _ _ H Q I h=>Calls.spliced_nil ⟨[],H,I,.nil,h⟩
theorem qM(ha:PE X e te)(hr:PA X es t)(hs:starEach (e::es) X.env=(false,eval e X.env)::starEach es X.env:=by rfl):PA X (e::es) (sm te t):=by
 intro pos pins s B H Q I h;rw[hs];show wpAny _ _ (spliced ((false,eval e X.env)::backTo pos (starEach es X.env))) _ _ s;refine Calls.spliced_cons (thn (ha pins s B H _ I h) fun u s1 hm=>?_);obtain⟨x,H1,I1,r1,q1⟩:=hm;exact(thn (hr pos pins s1 B H1 _ I1 q1) fun us s2 ⟨xs,H2,I2,r2,q2⟩=>⟨x::xs,H2,I2,.cons r1 r2,q2⟩)
def Rf(t:TA):TE:=fun B H Q=>t B H fun xs H1=>xs.length<=sizeLine/\∀p,H1 p=none->Q (.ref p) (upd H1 p (.tup xs))
def Qz(t:TA):TE:=fun B H Q=>t B H fun xs H1=>xs.length<=sizeLine/\∀p,H1 p=none->Q (.ref p) (upd H1 p (.lst xs))
theorem MW{x1}(h:PA X es t):PE X (.Tuple es x1 pos) (Rf t):=by
 intro pins s B H Q I hq;refine wpAny_Tuple_spliced (thn (h pos pins s B H _ I hq) fun us s1 ⟨xs,H1,I1,r,z,q⟩=>⟨by rw[←r.length];exact z,?_⟩);have hf:H1 s1.heap.objs.size=none:=I1.hok.fresh (Vv _);refine⟨.ref s1.heap.objs.size,upd H1 s1.heap.objs.size (.tup xs),I1.laid (t':=s1.toks) (fun b u e=>Vu _ e) (Vv _) ?_,rfl,q _ hf⟩;exact⟨z,us,r,⟨_,VC _ rfl,rfl,_,rfl⟩⟩
theorem Ex(h:PA X es t):PE X (.List es pos) (Qz t):=by
 intro pins s B H Q I hq;refine wpAny_List_spliced (thn (h pos pins s B H _ I hq) fun us s1 ⟨xs,H1,I1,r,z,q⟩=>⟨by rw[←r.length];exact z,?_⟩);have hf:H1 s1.heap.objs.size=none:=I1.hok.fresh (Vv _);refine⟨.ref s1.heap.objs.size,upd H1 s1.heap.objs.size (.lst xs),I1.laid (t':=s1.toks) (fun b u e=>Vu _ e) (Vv _) ?_,rfl,q _ hf⟩;exact⟨z,us,0,r,VC _ rfl⟩
end
abbrev Sp:=List V->Hp->VK->XK->Prop
abbrev CXT:=List Env->Hp->Shared->XK->Value->Shared->Prop
structure Env0 (P:Program) (w:World) (K:Frag) (mg:Str->Option Value) (base:Heap) (A:Around) (outer:List Env) (s:Shared) (H:Hp):Prop where
 frames:A.frames=some outer
 mod:Mod K mg base
 bs:∀b o,base.get? b=some o->s.heap.get? b=some o/\H b=none
 bsz:base.objs.size<=s.heap.objs.size
 funs:s.heap.FunFrames base outer
 frf:∀b∈frs outer,H b=none
 hok:HOk P w H s.heap
 bare:AllBare s.gens
def CE(outer:List Env)(P:Program)(w:World)(H:Hp)(s:Shared)(Q:VK)(u:Value)(s':Shared):Prop:=
 ∃v H',s'.os=s.os/\AllBare s'.gens/\Un (frs outer) [] H H' s.heap s'.heap/\HOk P w H' s'.heap/\RelV v u/\Q v H'
def CR(CX:CXT)(outer:List Env)(P:Program)(w:World)(H:Hp)(s:Shared)(Q:VK)(E:XK)(r:Result)(s':Shared):Prop:=
 match r with
 | .ok (.ret u)=>CE outer P w H s Q u s'
 | .ok _=>False
 | .error e=>CX outer H s E e s'
structure FnOk (P:Program) (w:World) (K:Frag) (mg:Str->Option Value) (base:Heap) (CX:CXT) (k:Nat) (f:Addr) (fd:FuncData) (ps:List Str) (sp:Sp):Prop where
 len:∀vs H Q E,sp vs H Q E->vs.length=ps.length
 run:∀(A:Around) (outer:List Env) (s:Shared) (H:Hp) (args:Args) (us:List Value) (vs:List V) (Q:VK) (E:XK),Room k A->Env0 P w K mg base A outer s H->BindsTo s fd args (ps.zip us)->Vals vs us->sp vs H Q E->
  codeAny (model P w) A (.call (.ref f) args) (CR CX outer P w H s Q E) s
theorem FnOk.imp{P:Program}{w:World}{K:Frag}{mg:Str->Option Value}{base:Heap}{CX:CXT}{k:Nat}{f:Addr}{fd:FuncData}{ps:List Str}{sp sp':Sp}(F:FnOk P w K mg base CX k f fd ps sp)
  (h:∀vs H Q E,sp' vs H Q E->sp vs H Q E):FnOk P w K mg base CX k f fd ps sp':=
 ⟨fun vs H Q E q=>F.len vs H Q E (h _ _ _ _ q),fun A outer s H args us vs Q E hr he hb hv hs=>F.run A outer s H args us vs Q E hr he hb hv (h _ _ _ _ hs)⟩
theorem Env0.make{P:Program}{w:World}{K:Frag}{mg:Str->Option Value}{base:Heap}{A:Around}{outer:List Env}{s:Shared}{H:Hp}(e:Env0 P w K mg base A outer s H)(C:Addr)(us:List Value)(kw:List (Str×Value)):
  Env0 P w K mg base (A.under (.builtin "type.__call__" ⟨.ref C::us,kw⟩)) outer s H:=⟨by first|exact e.frames|(simpa[Around.under,Code.envs,Code.isFrame,pushEnvs] using e.frames),e.mod,e.bs,e.bsz,e.funs,e.frf,e.hok,e.bare⟩
section
variable {X:Cx} {pins:QS} {B:St} {H:Hp} {s s':Shared}
theorem Inv.env0(I:Inv X pins B H s):Env0 X.prog X.w X.K X.mg X.base X.A X.stack s H:=
 ⟨I.ok.frames,I.ok.mod,I.bs,V0 I.ok.bsz I.sz,I.stack,I.stkFree,I.hok,I.bare⟩
theorem Inv.after{Q:VK}{u:Value}(I:Inv X pins B H s)(h:CE X.stack X.prog X.w H s Q u s'):EP X pins B Q u s':=by
 obtain⟨v,H',os,bare,un,hok,r,q⟩:=h;obtain⟨hh,g,d,t,os'⟩:=s';obtain rfl:os'=s.os:=os;exact⟨v,H',I.call (h':=hh) (g':=g) (d':=d) (t':=t) (ch:=[]) un hok bare (fun b z=>absurd z (by simp)),r,q⟩
end
def IF(sp:Sp)(dvs:List V)(E:XK)(t:TA):TE:=fun B H Q=>t B H fun vs H1=>sp (vs++dvs) H1 Q E
def Fv(C:Addr)(m:Str)(sp:Sp)(dvs:List V)(E:XK)(ta:TE)(t:TA):TE:=fun B H Q=>ta B H fun x H1=>∃a dx fs,x=.ref a/\H1 a=some (.ins C dx fs)/\fs.lookup m=none/\
 t B H1 fun vs H2=>sp (x::(vs++dvs)) H2 Q E
def JZ(C:Addr)(sp:Sp)(dvs:List V)(E:XK)(t:TA):TE:=fun B H Q=>t B H fun vs H1=>∀x dx,H1 x=none->H1 dx=none->dx≠x->
 sp (.ref x::(vs++dvs)) (upd (upd H1 dx (.own x)) x (.ins C dx [])) (fun v H2=>v=.non/\Q (.ref x) H2) E
def Binds(K:Frag)(fd:FuncData)(ps:List Str)(ds:List Value):Prop:=
 ∀(s:Shared) (us:List Value),K.In s.heap->(us++ds).length=ps.length->BindsTo s fd ⟨us,[]⟩ (ps.zip (us++ds))
def Binds.all{K:Frag}{fd:FuncData}{ps:List Str}(h:∀us:List Value,us.length=ps.length->bindArgs fd ⟨us,[]⟩=pure (ps.zip us)):Binds K fd ps []:=fun s us _ hl=>by
 rw[Wn] at hl⊢;exact .of_eq (h us hl)
def wF(CX:CXT)(X:Cx)(E:XK):Prop:=∀(pins:QS) (B:St) (H:Hp) (s:Shared) (e:Value) (s':Shared),Inv X pins B H s->CX X.stack H s E e s'->X.xe e s'
section
variable {X:Cx} {CX:CXT} {k:Nat} {f C:Addr} {fd:FuncData} {ps:List Str} {sp:Sp} {dvs:List V} {ds:List Value} {E:XK} {x m:Str} {p pos apos:Pos} {e o:Expr} {es:List Expr} {ta:TE} {t:TA}
theorem EI{pins:QS}{B:St}{H:Hp}{s:Shared}{Q:VK}{us:List Value}{vs:List V}(F:FnOk X.prog X.w X.K X.mg X.base CX k f fd ps sp)(hr:Room k X.A)(hb:Binds X.K fd ps ds)(hd:Vals dvs ds)(hx:wF CX X E)
  (I:Inv X pins B H s) (r:Vals vs us) (h:sp (vs++dvs) H Q E):wpAny (model X.prog X.w) X.A (call (.ref f) us) (EP X pins B Q) X.xe s:=by
 have r2:Vals (vs++dvs) (us++ds):=r.append hd;have hl:(us++ds).length=ps.length:=by rw[←r2.length];exact F.len _ _ _ _ h
 refine wpAny_call (codeAny_mono (F.run X.A X.stack s H ⟨us,[]⟩ (us++ds) (vs++dvs) Q E hr I.env0 (hb s us I.kIn hl) r2 h) fun r s' hq=>?_);cases r with
 |error e=>exact hx pins B H s e s' I hq
 |ok fl=>
  cases fl with
  |ret u=>exact I.after hq
  |next=>exact False.elim hq
  |brk=>exact False.elim hq
  |cont=>exact False.elim hq
theorem Q1(F:FnOk X.prog X.w X.K X.mg X.base CX k f fd ps sp)(hr:Room k X.A)(hg:Gl X x)(hm:X.mg x=some (.ref f))(hk:keepIn X.K (.ref f)=true)(hb:Binds X.K fd ps ds)(hd:Vals dvs ds)(hx:wF CX X E)
  (ha:PA X (e::es) t) (hdb:(x==("__debug__":Str))=false:=by decide) (he:starEach (e::es) X.env=(false,eval e X.env)::starEach es X.env:=by rfl) (hpl:(backTo pos (starEach es X.env)).any (·.1)=false:=by rfl):
  PE X (.Call (.Name x p) (e::es) [] pos) (IF sp dvs E t):=by
 intro pins s B H Q I h;refine WO (y4 I hg hm ?_ hdb);refine PySem.W.callWith_K (h₀:=X.base) I.ok.mod.kin hk (thn (ha pos pins s B H _ I h) fun us s1 ⟨vs,H1,I1,r,q⟩=>⟨I1.kIn,?_⟩) he hpl;exact EI F hr hb hd hx I1 r q
theorem Pa{pl:Sem Bool}(he:PE X o ta)(c:Cls X.K C)(hm:Meth X.K C m f)(F:FnOk X.prog X.w X.K X.mg X.base CX k f fd ps sp)(hr:Room k X.A)(hb:Binds X.K fd ps ds)(hd:Vals dvs ds)(hx:wF CX X E)(ha:PA X (e::es) t)
  (hst:starEach (e::es) X.env=(false,eval e X.env)::starEach es X.env:=by rfl) (hpl:(backTo pos (starEach es X.env)).any (·.1)=false:=by rfl)
  (ht:eval (.Call (.Attribute o m apos) (e::es) [] pos) X.env=(do
   let ov ←eval o X.env
   standAt apos.atName
   let (f,first) ←holding [ov] (getMethod ov m pl)
   callWith pos f first (backTo pos (starEach (e::es) X.env)) (backToKw pos (keywordEach [] X.env))):=by rfl):
  PE X (.Call (.Attribute o m apos) (e::es) [] pos) (Fv C m sp dvs E ta t):=by
 intro pins s B H Q I h;refine PySem.W.methodCall_KW (pl:=pl) (thn (he pins s B H _ I h) fun u s1 hm=>?_) ht;obtain⟨x,H1,I1,rx,a,dx,fs,ex,ea,l,q⟩:=hm;subst ex;obtain rfl:u=Value.ref a:=rx;refine Ip I1 ea c hm l ?_;refine PySem.W.callWith_K (first:=[.ref a]) (h₀:=X.base) I.ok.mod.kin hm.kp (thn (ha pos pins s1 B H1 _ I1 q) fun us s2 ⟨vs,H2,I2,r,q2⟩=>⟨I2.kIn,?_⟩) hst hpl;exact EI (us:=.ref a::us) (vs:=.ref a::vs) F hr hb hd hx I2 (.cons rfl r) q2
structure Mk (K:Frag) (C f:Addr):Prop where
 makes:PySem.W.makesIn K C=true
 init:findIn K (.ref C) "__init__"=some (some (.ref f))
 fn:isFn K (.ref f)=true
 kp:keepIn K (.ref C)=true
theorem LG{pins:QS}{B:St}{H:Hp}{s:Shared}{Q:VK}{us:List Value}{vs:List V}(M:Mk X.K C f)(F:FnOk X.prog X.w X.K X.mg X.base CX k f fd ps sp)(hr:Room (k+1) X.A)(hb:Binds X.K fd ps ds)(hd:Vals dvs ds)
  (hx:wF CX X E) (I:Inv X pins B H s) (r:Vals vs us)
  (h:∀x dx,H x=none->H dx=none->dx≠x->sp (.ref x::(vs++dvs)) (upd (upd H dx (.own x)) x (.ins C dx [])) (fun v H2=>v=.non/\Q (.ref x) H2) E):
  wpAny (model X.prog X.w) X.A (call (.ref C) us) (EP X pins B Q) X.xe s:=by
 have hq:=h (s.heap.objs.size+1) s.heap.objs.size (I.hok.fresh (Nat.le_succ _)) (I.hok.fresh (Vv _)) (VN (Nat.lt_succ_self _));have I2:=Inv.made (C:=C) I;have r2:Vals (V.ref (s.heap.objs.size+1)::(vs++dvs)) (Value.ref (s.heap.objs.size+1)::(us++ds)):=.cons rfl (r.append hd);have hl:(Value.ref (s.heap.objs.size+1)::us++ds).length=ps.length:=by
  have e:=r2.length;rw[F.len _ _ _ _ hq] at e;exact e.symm
 refine wpAny_call (N1 (f:=f) I.kIn M.makes M.init (beq_iff_eq.mp M.fn) (codeAny_mono (F.run _ X.stack _ _ ⟨Value.ref (s.heap.objs.size+1)::us,[]⟩ (Value.ref (s.heap.objs.size+1)::(us++ds)) _ _ E (hr.make C us [])
  (I2.env0.make C us []) (hb _ (Value.ref (s.heap.objs.size+1)::us) I2.kIn hl) r2 hq) fun r s' hq'=>?_))
 cases r with
 |error e=>exact hx pins B _ _ e s' I2 hq'
 |ok fl=>
  cases fl with
  |ret u=>
   obtain⟨v,H',I3,rv,ev,q3⟩:=I2.after hq';subst ev;exact⟨rv,⟨V.ref (s.heap.objs.size+1),H',I3,rfl,q3⟩⟩
  |next=>exact False.elim hq'
  |brk=>exact False.elim hq'
  |cont=>exact False.elim hq'
theorem Su(M:Mk X.K C f)(F:FnOk X.prog X.w X.K X.mg X.base CX k f fd ps sp)(hr:Room (k+1) X.A)(hg:Gl X x)(hm:X.mg x=some (.ref C))(hb:Binds X.K fd ps ds)(hd:Vals dvs ds)(hx:wF CX X E)
  (ha:PA X (e::es) t) (hdb:(x==("__debug__":Str))=false:=by decide) (he:starEach (e::es) X.env=(false,eval e X.env)::starEach es X.env:=by rfl) (hpl:(backTo pos (starEach es X.env)).any (·.1)=false:=by rfl):
  PE X (.Call (.Name x p) (e::es) [] pos) (JZ C sp dvs E t):=by
 intro pins s B H Q I h;refine WO (y4 I hg hm ?_ hdb);refine PySem.W.callWith_K (h₀:=X.base) I.ok.mod.kin M.kp (thn (ha pos pins s B H _ I h) fun us s1 ⟨vs,H1,I1,r,q⟩=>⟨I1.kIn,?_⟩) he hpl;exact LG M F hr hb hd hx I1 r q
end
structure FnScope (N P:List Str) (sc:Scope):Prop where
 kind:sc.kind=.function
 co:sc.isCoroutine=false
 gen:sc.isGenerator=false
 nd:N.Nodup
 pre:N.take P.length=P
 par:∀x∈P,sc.names.lookup x=some .local\/sc.names.lookup x=some .cell
 nofree:∀y∈sc.names,y.2≠.free
theorem Ej{kindOf:Str->Option NameKind}{x:Str}:∀{binds:List (Str×Value)} {m:Str->Option Value},(∀v,(x,v)∉binds)->bindL kindOf binds m x=m x
 | [],_,_=>rfl
 |(n,v)::r,m,h=>by
  unfold bindL;rw[Ej fun w hw=>h w (V3 _ hw)];split
  ·have:x≠n:=by rintro rfl;exact h v List.mem_cons_self
   simp[this]
  ·rfl
theorem Fp{kindOf:Str->Option NameKind}{x:Str}:∀{binds:List (Str×Value)} {m:Str->Option Value},(∀v,(x,v)∉binds)->bindC kindOf binds m x=m x
 | [],_,_=>rfl
 |(n,v)::r,m,h=>by
  unfold bindC;rw[Fp fun w hw=>h w (V3 _ hw)];split
  ·rfl
  ·have:x≠n:=by rintro rfl;exact h v List.mem_cons_self
   simp[this]
theorem GE{kindOf:Str->Option NameKind}{x:Str}{v:Value}:∀{P:List Str} {vs:List Value} {i:Nat} {m:Str->Option Value},P.Nodup->P[i]?=some x->vs[i]?=some v->kindOf x=some .local->
  bindL kindOf (P.zip vs) m x=some v
 | [],_,_,_,_,h,_,_=>by simp at h
 |_::_,[],_,_,_,_,h,_=>by simp at h
 |p::P,w::vs,0,m,nd,h1,h2,hk=>by
  simp at h1 h2;subst h1;subst h2;show bindL kindOf ((p,w)::P.zip vs) m p=_;unfold bindL;rw[Ej fun v hv=>(List.nodup_cons.mp nd).1 (List.of_mem_zip hv).1,if_pos hk];simp
 |p::P,w::vs,i+1,m,nd,h1,h2,hk=>by
  show bindL kindOf ((p,w)::P.zip vs) m x=_;unfold bindL;exact GE (i:=i) (List.nodup_cons.mp nd).2 (by simpa using h1) (by simpa using h2) hk
theorem GR{kindOf:Str->Option NameKind}{x:Str}{v:Value}:∀{P:List Str} {vs:List Value} {i:Nat} {m:Str->Option Value},P.Nodup->P[i]?=some x->vs[i]?=some v->kindOf x≠some .local->
  bindC kindOf (P.zip vs) m x=some v
 | [],_,_,_,_,h,_,_=>by simp at h
 |_::_,[],_,_,_,_,h,_=>by simp at h
 |p::P,w::vs,0,m,nd,h1,h2,hk=>by
  simp at h1 h2;subst h1;subst h2;show bindC kindOf ((p,w)::P.zip vs) m p=_;unfold bindC;rw[Fp fun v hv=>(List.nodup_cons.mp nd).1 (List.of_mem_zip hv).1,if_neg hk];simp
 |p::P,w::vs,i+1,m,nd,h1,h2,hk=>by
  show bindC kindOf ((p,w)::P.zip vs) m x=_;unfold bindC;exact GR (i:=i) (List.nodup_cons.mp nd).2 (by simpa using h1) (by simpa using h2) hk
def uA(N:List Str)(vs:List V):St:=vs.map some++List.replicate (N.length - vs.length) none
def qh(CX:CXT)(P:Program)(w:World)(K:Frag)(mg:Str->Option Value)(base:Heap)(N:List Str)(qual:Str)(scope:Scope)(f:Addr)(cd:Value)(A:Around)(outer:List Env)(s:Shared)(H:Hp)(E:XK):Cx where
 prog:=P
 w:=w
 K:=K
 mg:=mg
 base:=base
 A:=A.deeper (envOfC qual scope s.heap.objs.size f cd)
 N:=N
 Z2:=s
 Z0:=H
 env:=envOfC qual scope s.heap.objs.size f cd
 outer:=outer
 stack:=envOfC qual scope s.heap.objs.size f cd::outer
 ex:=[]
 calm:=true
 fn:=fun _=>true
 pn:=[]
 xe:=fun e s'=>wpAny (model P w) (A.deeper (envOfC qual scope s.heap.objs.size f cd)) (leaving (envOfC qual scope s.heap.objs.size f cd) e) (fun _ s''=>CX outer H s E e s'') (fun e' s''=>CX outer H s E e' s'') s'
def GA{sc:Scope}{n:Nat}{x:Str}(h:sc.names.lookup x=some .cell):∃c,(cellsFrom n sc.names []).lookup x=some c:=by
 have q:=PySem.W.cellsFrom_some sc.names n [] (.inl h);exact Wf.mp q
theorem Nn{CX:CXT}{P:Program}{w:World}{K:Frag}{mg:Str->Option Value}{base:Heap}{N ps:List Str}{qual:Str}{scope:Scope}{f:Addr}{cd:Value}{A:Around}{outer:List Env}{s s1:Shared}{H:Hp}{E:XK}{us:List Value}{vs:List V}
  (S:FnScope N ps scope) (hd:A.handled=none) (e0:Env0 P w K mg base A outer s H) (hl:vs.length=ps.length) (r:Vals vs us)
  (x:InCallC s s.heap.objs.size (bindL (envOfC qual scope s.heap.objs.size f cd).kindOf (ps.zip us) fun _=>none) (cellsFrom (s.heap.objs.size+1) scope.names []) (bindC (envOfC qual scope s.heap.objs.size f cd).kindOf (ps.zip us) fun _=>none) s1):
  Inv (qh CX P w K mg base N qual scope f cd A outer s H E) [] (uA N vs) H s1:=by
 have hpl:ps.length<=N.length:=by have:=congrArg List.length S.pre;rw[Wz] at this;omega
 obtain⟨h1,tk,rfl,hk⟩:=x.done;have noA:∀b:Addr,b∉(qh CX P w K mg base N qual scope f cd A outer s H E).ex:=fun b z=>absurd (show b∈([]:List Addr) from z) (by simp);refine⟨⟨e0.mod,S.kind,rfl,rfl,Vv _,fun y z c h1 h2=>?_,fun y hy=>?_,fun y c _ h=>?_,fun _=>hd,Around.frames_deeper e0.frames,.inr ⟨rfl,rfl⟩,fun b z=>absurd z (noA b),e0.bs,e0.bsz,fun b _ _=>noA b,fun b z=>absurd z (noA b),e0.funs,e0.frf⟩,
  rfl,e0.bare,Un.kept hk,⟨_,x.toInCall.ns,fun i y v h1 h2 h3=>?_⟩,fun y c h=>⟨_,x.cell y c h⟩,e0.hok.fresh (Vv _),fun y c h=>?_,fun p hp=>absurd (show p∈([]:QS) from hp) (by simp),e0.hok.kept hk,?_⟩
 ·exact name_of_addr x.apart (V2 h1) (V2 h2)
 ·have hy:scope.names.lookup y=some .cell\/scope.names.lookup y=some .free:=hy;rcases hy with hy|hy
  ·exact GA hy
  ·exact absurd rfl (S.nofree _ (V2 hy))
 ·exact Nat.le_of_lt (x.above y c (V2 h))
 ·have hi:i<vs.length:=by
   unfold uA at h2;by_cases hi:i<vs.length
   ·exact hi
   ·rw[VV (by simpa using hi)] at h2;rw[List.getElem?_replicate] at h2;split at h2<;>cases h2
  have ha:vs[i]?=some v:=by
   unfold uA at h2;rw[VL (by simpa using hi),VR] at h2;cases e:vs[i]? with
   |none=>rw[e] at h2;cases h2
   |some a=>rw[e] at h2;cases h2;rfl
  obtain⟨u,hu,rv⟩:=r.get ha;have hp:ps[i]?=some y:=by
   rw[←S.pre,List.getElem?_take_of_lt (by omega)];exact h1
  have ndP:ps.Nodup:=by rw[←S.pre];exact S.nd.sublist (List.take_sublist _ _)
  refine⟨u,rv,?_⟩;rcases S.par y (List.mem_of_getElem? hp) with k|k
  ·exact .inl ⟨k,GE ndP hp hu k⟩
  ·obtain⟨c,e⟩:=GA (n:=s.heap.objs.size+1) k;refine .inr ⟨.inl k,c,e,?_⟩;have q:=x.cell y c e;rw[GR ndP hp hu (by show scope.names.lookup y≠_;rw[k];decide)] at q;exact q
 ·exact e0.hok.fresh (Nat.le_of_lt (x.above y c (V2 h)))
 ·unfold uA;show _=N.length;rw[Wj,VF,List.length_replicate];omega
theorem Gk{CX:CXT}{P:Program}{w:World}{K:Frag}{mg:Str->Option Value}{base:Heap}{k:Nat}{f:Addr}{name qual:Str}{params:Arguments}{body:List Stmt}{scope:Scope}{dV kV doc pm cdv ct oc:Value}{an od:Option Addr}
  {osl:Array (Option Value)} {N ps:List Str} {sp:Sp} (lk:K.lookup f=some ⟨oc,od,.func (fnOf name qual params body scope dV kV doc pm an cdv ct),osl⟩) (hcd:codeIn K cdv qual=true) (S:FnScope N ps scope)
  (len:∀vs H Q E,sp vs H Q E->vs.length=ps.length)
  (hbody:∀(A:Around) (outer:List Env) (s:Shared) (H:Hp) (vs:List V) (Q:VK) (E:XK),Room k (A.deeper (envOfC qual scope s.heap.objs.size f cdv))->sp vs H Q E->
   ∃t,PSs (qh CX P w K mg base N qual scope f cdv A outer s H E) body t/\t {nx:=fun _ H'=>Q .non H',rt:=Q} (uA N vs) H):
  FnOk P w K mg base CX (k+1) f (fnOf name qual params body scope dV kV doc pm an cdv ct) ps sp:=by
 refine⟨len,fun A outer s H args us vs Q E hr e0 hb r hsp=>?_⟩;have hl:=len _ _ _ _ hsp;have KX:K.In s.heap:=e0.mod.kin.keeps fun b o e=>(e0.bs b o e).1;have lim:s.heap.NoLimit:=e0.mod.nolimit.keeps fun b o e=>(e0.bs b o e).1;have hkind:∀y∈ps.zip us,scope.names.lookup y.1=some .local\/(scope.names.lookup y.1=some .cell/\((cellsFrom (s.heap.objs.size+1) scope.names []).lookup y.1).isSome=true):=fun⟨n,v⟩ hy=>by
  rcases S.par n (List.of_mem_zip hy).1 with q|q
  ·exact .inl q
  ·exact .inr ⟨q,PySem.W.cellsFrom_some _ _ _ (.inl q)⟩
 refine codeAny_call_function hr.depth (KX _ _ lk) rfl S.co S.gen rfl (PySem.W.codeRec_of KX hcd) (hb _ _ _ _ ?_);refine wpAny_newFunctionEnv_cells S.kind hkind fun env he s1 x=>?_;subst he;refine⟨lim.keeps x.toInCall.keep,codeAny_func ?_⟩;obtain⟨t,ht,hq⟩:=hbody A outer s H vs Q E (hr.deeper _) hsp;have I:Inv (qh CX P w K mg base N qual scope f cdv A outer s H E) [] (uA N vs) H s1:=Nn S hr.hd e0 hl r x;refine(Vz (ht [] s1 (uA N vs) H _ I hq) (fun fl s' hs=>?_) fun e s' hs=>hs);have fin:∀{ZZ:St} {H':Hp} {v:V} {u:Value},Inv (qh CX P w K mg base N qual scope f cdv A outer s H E) [] ZZ H' s'->RelV v u->Q v H'->CE outer P w H s Q u s':=
  fun{ZZ H' v u} Z6 rv q=>⟨v,H',Z6.os,Z6.bare,Z6.base,Z6.hok,rv,q⟩
 cases fl with
 |ret u=>
  obtain⟨v,ZZ,H',Z6,rv,q⟩:=hs;exact fin Z6 rv q
 |next=>
  obtain⟨ZZ,H',Z6,q⟩:=hs;exact fin (v:=V.non) (u:=Value.none) Z6 rfl q
 |brk=>
  obtain⟨_,_,_,q⟩:=hs;exact False.elim q
 |cont=>
  obtain⟨_,_,_,q⟩:=hs;exact(False.elim q)
section
variable {X:Cx} {x:Str} {p pos:Pos} {e:Expr} {es:List Expr} {t:TA} {id T:String} {r:List V->Hp->VK->Prop}
def tCB(r:List V->Hp->VK->Prop)(t:TA):TE:=fun B H Q=>t B H fun vs H1=>r vs H1 Q
theorem zb(hc:tz X (.builtin id) r)(hg:Gl X x)(hm:X.mg x=none)(hv:bootBuiltins x=some (.builtin id))(ha:PA X (e::es) t)(hn:x≠"__name__":=by decide) (hdb:(x==("__debug__":Str))=false:=by decide)
  (he:starEach (e::es) X.env=(false,eval e X.env)::starEach es X.env:=by rfl) (hpl:(backTo pos (starEach es X.env)).any (·.1)=false:=by rfl):PE X (.Call (.Name x p) (e::es) [] pos) (tCB r t):=by
 intro pins s B H Q I h;refine WO (t6 I hg hm hv ?_ hn hdb);exact PyProof.Rows.callWith_builtin1 (thn (ha pos pins s B H _ I h) fun us s1 ⟨vs,H1,I1,r1,q1⟩=>hc pins s1 B H1 vs us Q I1 r1 q1) he hpl
theorem Au(hc:tz X (.type T) r)(hg:Gl X x)(hm:X.mg x=none)(hv:bootBuiltins x=some (.type T))(ha:PA X (e::es) t)(hn:x≠"__name__":=by decide) (hdb:(x==("__debug__":Str))=false:=by decide)
  (he:starEach (e::es) X.env=(false,eval e X.env)::starEach es X.env:=by rfl) (hpl:(backTo pos (starEach es X.env)).any (·.1)=false:=by rfl):PE X (.Call (.Name x p) (e::es) [] pos) (tCB r t):=by
 intro pins s B H Q I h;refine WO (t6 I hg hm hv ?_ hn hdb);exact Wa (thn (ha pos pins s B H _ I h) fun us s1 ⟨vs,H1,I1,r1,q1⟩=>hc pins s1 B H1 vs us Q I1 r1 q1) he hpl
end
end L2
namespace HT
open PySem PyProof.Rows
section
open PySem.SeqAt
open PySem.AutoSeq1 (wpAny_loadPart')
open PySem.MeetsSeq PySem.MeetsSeq2 PySem.MeetsSeq3
end
section
variable {prog:Program} {w:World} {A:Around} {E:OK} {s:Shared}
theorem cat_tup{t b:Addr}{vs ws:List Value}{Q:OK}(ht:IsTup s.heap t vs.toArray)(hb:IsTup s.heap b ws.toArray)(hv:vs≠[])
  (h1:ws=[]->Q (.ref t) s) (h2:ws≠[]->Q (.ref s.heap.objs.size) {s with heap:=s.heap.push {cls:=.type "tuple",data:=.seq (vs++ws).toArray}})
  (hsz:vs.length+ws.length<=sizeLine):wpAny (model prog w) A (binaryOp .Add (.ref t) (.ref b)) Q E s:=by
 obtain⟨⟨cls,dd,data,sl⟩,ho,hc,n,hd⟩:=id ht;obtain⟨⟨cls2,dd2,data2,sl2⟩,ho2,hc2,n2,hd2⟩:=id hb;simp only at hc hd hc2 hd2;subst hc hd hc2 hd2;have e:vs.toArray++ws.toArray=(vs++ws).toArray:=by simp
 by_cases hw:ws=[]
 ·exact concat_meets ⟨_,ho,rfl⟩ ⟨_,ho2,rfl⟩ noFill_tuple_add seq_tuple_add PySem.F.slot_tuple_add PySem.F.entry_tuple_add (PySem.F.args_tuple_add_2 _ _)
   (tuple_addW1 t b vs.toArray ws.toArray n n2 dd dd2 sl sl2 (by simpa using hv) (by simp[hw])) ⟨ho,ho2,h1 hw⟩
 ·refine concat_meets ⟨_,ho,rfl⟩ ⟨_,ho2,rfl⟩ noFill_tuple_add seq_tuple_add PySem.F.slot_tuple_add PySem.F.entry_tuple_add (PySem.F.args_tuple_add_2 _ _)
   (tuple_addW2 t b vs.toArray ws.toArray n n2 dd dd2 sl sl2 (by simpa using hv) (by simpa using hw) (by rw[VH,VH];exact hsz)) ⟨ho,ho2,?_⟩
  rw[e];exact h2 hw
def sIx(n d:Nat):Option Int->Nat
 |none=>d
 |some v=>if v<0 then(v+(n:Int)).toNat else min v.toNat n
theorem sIx_none(n d:Nat):sIx n d none=d:=rfl
theorem sIx_nat(n d k:Nat):sIx n d (some (k:Int))=min k n:=by
 show(if(k:Int)<0 then((k:Int)+(n:Int)).toNat else min (k:Int).toNat n)=min k n;rw[if_neg (by omega),Int.toNat_natCast]
theorem QY(n d:Nat)(hd:d<=n)(o:Option Int):sIx n d o<=n:=by
 cases o with
 |none=>exact hd
 |some v=>
  show(if v<0 then(v+(n:Int)).toNat else min v.toNat n)<=n;by_cases hv:v<0
  ·rw[if_pos hv];omega
  ·rw[if_neg hv];exact Nat.min_le_right _ _
theorem Jw(v:Int)(n d:Nat):(if v<0 then max (v+(n:Int)) 0 else min v (n:Int))=((sIx n d (some v):Nat):Int):=by
 show(if v<0 then max (v+(n:Int)) 0 else min v (n:Int))=(((if v<0 then(v+(n:Int)).toNat else min v.toNat n):Nat):Int)
 by_cases hv:v<0
 ·simp only[if_pos hv];omega
 ·simp only[if_neg hv];omega
theorem R0(lo hi:Option Int)(n:Nat):Builtin.Slice.sliceAdjust lo hi 1 (n:Int)=(((sIx n 0 lo:Nat):Int),((sIx n n hi:Nat):Int)):=by
 have h1:¬((1:Int)<0):=by omega
 unfold Builtin.Slice.sliceAdjust;simp only[h1,if_false];refine Prod.ext ?_ ?_
 ·cases lo with
  |none=>rfl
  |some v=>exact Jw v n 0
 ·cases hi with
  |none=>rfl
  |some v=>exact Jw v n n
theorem Uc(i j:Nat):Builtin.Slice.slicePlaces (i:Int) (j:Int) 1=j - i:=by
 unfold Builtin.Slice.slicePlaces;have h1:(1:Int)>0:=by omega
 simp only[h1,if_true,Int.ediv_one];split<;>omega
theorem GS{v:Value}{o:Option Int}{Q:Option Int->Shared->Prop}(p:IsPart v o)(h:Q o s):wpAny (model prog w) A (Builtin.Slice.slicePartIndex v) Q E s:=by
 cases p with
 |none=>exact slicePart_none h
 |int i t=>exact slicePart_int h
theorem RJ{sl:Addr}{vl vu:Value}{lo hi:Option Int}{n:Nat}{Q:Int×Int×Nat->Shared->Prop}(hs:s.heap.IsSliceOf sl vl vu .none)(pl:IsPart vl lo)(pu:IsPart vu hi)
  (h:Q (((sIx n 0 lo:Nat):Int),1,sIx n n hi - sIx n 0 lo) s):wpAny (model prog w) A (Builtin.Slice.sliceApplied (.ref sl) (pure (n:Int))) Q E s:=by
 obtain⟨os,hos,hcs,hds⟩:=id hs;unfold Builtin.Slice.sliceApplied Builtin.Slice.sliceFields;refine Vt (Vt (wpAny_field hos hds (x:=vl) rfl (Vt (wpAny_field hos hds (x:=vu) rfl (Vt (wpAny_field hos hds (x:=.none) rfl (Vx ?_)))))));refine Vt (slicePart_none ?_);show wpAny _ _ (if((1:Int)==0)=true then _ else _) _ _ s;rw[if_neg (by decide)];refine Vt (GS pl (Vt (GS pu (Vt (Vx ?_)))));show wpAny _ _ (match Builtin.Slice.sliceAdjust lo hi 1 (n:Int) with|(lo,hi)=>pure (lo,(1:Int),Builtin.Slice.slicePlaces lo hi 1)) _ _ s;rw[R0 lo hi n];show wpAny _ _ (pure (((sIx n 0 lo:Nat):Int),(1:Int),Builtin.Slice.slicePlaces ((sIx n 0 lo:Nat):Int) ((sIx n n hi:Nat):Int) 1)) _ _ s;rw[Uc];exact Vx h
theorem Vr(xs:Array Value)(i k:Nat):((List.range k).filterMap fun(m:Nat)=>xs[((i:Int)+(m:Int)*1).toNat]?).toArray=((xs.toList.drop i).take k).toArray:=by
 have e:(fun(m:Nat)=>xs[((i:Int)+(m:Int)*1).toNat]?)=fun m=>xs[i+m]?:=by
  funext m;have:((i:Int)+(m:Int)*1).toNat=i+m:=by omega
  rw[this]
 rw[e];have:=pick_run xs i k;rw[List.filterMap_map] at this;have e2:((fun x=>xs[x]?)∘fun x=>i+x)=fun m=>xs[i+m]?:=rfl;rw[e2] at this;rw[this]
theorem getItem_tuple_cut{t sl:Addr}{items:Array Value}{vl vu:Value}{lo hi:Option Int}{Q:OK}(ht:IsTup s.heap t items)(hs:s.heap.IsSliceOf sl vl vu .none)(pl:IsPart vl lo)(pu:IsPart vu hi)
  (hw:¬(sIx items.size 0 lo=0/\sIx items.size items.size hi=items.size))
  (h:Q (.ref s.heap.objs.size) {s with heap:=s.heap.push {cls:=.type "tuple",data:=.seq ((items.toList.drop (sIx items.size 0 lo)).take (sIx items.size items.size hi - sIx items.size 0 lo)).toArray}})
  (hsz:items.size<=sizeLine):wpAny (model prog w) A (getItem (.ref t) (.ref sl)) Q E s:=by
 have htake:sizeOk (.seq ((items.toList.drop (sIx items.size 0 lo)).take (sIx items.size items.size hi - sIx items.size 0 lo)).toArray):=by
  show((items.toList.drop (sIx items.size 0 lo)).take (sIx items.size items.size hi - sIx items.size 0 lo)).toArray.size<=sizeLine;rw[VH,Wz,List.length_drop,WK];omega
 have hj:sIx items.size items.size hi<=items.size:=QY _ _ (Vv _) hi;obtain⟨os,hos,hcs,hds⟩:=id hs;have hTs:s.TypeIs (.ref sl) "slice":=⟨os,hos,hcs⟩
 unfold getItem;try with_reducible refine WD ?_
 first|refine Vt (Vx ?_)|skip
 refine Vt (wpAny_sequenceKey ht.typeIs (by decide) ?_);refine Vt (wpAny_callSpecial?_slot (name:=Str.ofString "__getitem__") ht.typeIs PyProof.Rows.slot_tuple_getitem
  (wpAny_call_entry PyProof.Rows.slot_tuple_getitem ht.typeIs entry_tuple_getitem ?_ (args_tuple_getitem _ _)))
 show wpAny _ _ (Builtin.Tuple.tupleItemsOf (.ref t) >>= _) _ _ s;refine Vt (tupleItemsOf_ ht ?_);refine Vt (wpAny_typeOf hTs ?_);rw[if_pos (by decide)];refine Vt (RJ hs pl pu ?_);have hno:¬((((sIx items.size 0 lo:Nat):Int)==0&&(1:Int)==1&&(sIx items.size items.size hi - sIx items.size 0 lo)==items.size)=true):=by
  intro q;rw[V9,V9] at q;have q1:((sIx items.size 0 lo:Nat):Int)=0:=eq_of_beq q.1.1;have q2:sIx items.size items.size hi - sIx items.size 0 lo=items.size:=eq_of_beq q.2;exact hw ⟨by omega,by omega⟩
 show wpAny _ _ (if(((sIx items.size 0 lo:Nat):Int)==0&&(1:Int)==1&&(sIx items.size items.size hi - sIx items.size 0 lo)==items.size)=true then _ else _) _ _ s;rw[if_neg hno,Vr];first
  |exact Vt (m:=Builtin.Tuple.tupleExact _) (Wg (Vx ⟨_,rfl,Vx h⟩) htake)
  |exact Vt (m:=Builtin.Tuple.tupleExact _) (Wg (Vt (Vx (Vx ⟨_,rfl,Vx h⟩))) htake)
  |exact Vt (Vt (m:=Builtin.Tuple.tupleExact _) (Wg (Vx (Vx ⟨_,rfl,Vx h⟩)) htake))
  |exact Vt (Vt (m:=Builtin.Tuple.tupleExact _) (Wg (Vx ⟨_,rfl,Vx h⟩) htake))
end
end HT
namespace L2
open PySem PySem.Spec PyProof.Rows
abbrev TO:=St->Hp->(Option Int->Hp->Prop)->Prop
def PO(X:Cx)(e:Option Expr)(t:TO):Prop:=
 ∀(pins:QS) (s:Shared) (B:St) (H:Hp) (Q:Option Int->Hp->Prop),Inv X pins B H s->t B H Q->
  wpAny (model X.prog X.w) X.A (evalPart e X.env) (fun u s'=>∃o H',Inv X pins B H' s'/\IsPart u o/\Q o H') X.xe s
def T4:TO:=fun _ H Q=>Q none H
def TL(t:TE):TO:=fun B H Q=>t B H fun x H1=>∃i,x=.int i/\Q (some i) H1
def MS{ns:List Int}:∀{us:List Value},Vals (ns.map V.int) us->IntsAre us ns:=by
 induction ns with
 |nil=>intro us r;rw[List.map_nil] at r;cases r;exact .nil
 |cons n ns ih=>
  intro us r;rw[VB] at r;cases r with
  |cons r1 r2=>
   obtain⟨t,e⟩:=r1;subst e;exact(.cons n t (ih r2))
section
variable {X:Cx} {e:Expr} {te:TE} {lo hi:Option Expr} {tl th:TO} {pos p2:Pos}
theorem OH:PO X none T4:=by
 intro pins s B H Q I h;rw[evalPart_none];exact Vx ⟨none,H,I,.none,h⟩
theorem Ur(h:PE X e te):PO X (some e) (TL te):=by
 intro pins s B H Q I hw;rw[evalPart_some];refine thn (h pins s B H _ I hw) fun u s1 hm=>?_;obtain⟨x,H1,I1,r1,q1⟩:=hm;obtain⟨i,rfl,q⟩:=q1;obtain⟨t,rfl⟩:=r1;exact(⟨some i,H1,I1,.int i t,q⟩)
def SlR(X:Cx)(r:V->Option Int->Option Int->Hp->VK->Prop):Prop:=
 ∀(pins:QS) (s:Shared) (B:St) (H:Hp) (x:V) (v vl vu:Value) (lo hi:Option Int) (sl:Addr) (Q:VK),Inv X pins B H s->RelV x v->s.heap.IsSliceOf sl vl vu .none->IsPart vl lo->IsPart vu hi->r x lo hi H Q->
  ∃T id,typeLookup (.type T) "__getitem__"=pure (some (.builtin id))/\s.TypeIs v T/\wpAny (model X.prog X.w) X.A (getItem v (.ref sl)) (EP X pins B Q) X.xe s
theorem SlR.or{r r':V->Option Int->Option Int->Hp->VK->Prop}(h:SlR X r)(h':SlR X r'):SlR X (fun x lo hi H Q=>r x lo hi H Q\/r' x lo hi H Q):=by
 intro pins s B H x v vl vu lo hi sl Q I rx hs pl pu q;rcases q with q|q
 ·exact h pins s B H x v vl vu lo hi sl Q I rx hs pl pu q
 ·exact h' pins s B H x v vl vu lo hi sl Q I rx hs pl pu q
def tSl(r:V->Option Int->Option Int->Hp->VK->Prop)(te:TE)(tl th:TO):TE:=fun B H Q=>te B H fun x H1=>tl B H1 fun l H2=>th B H2 fun u H3=>r x l u H3 Q
theorem Nd{r:V->Option Int->Option Int->Hp->VK->Prop}(hr:SlR X r)(he:PE X e te)(hl:PO X lo tl)(hu:PO X hi th):PE X (.Subscript e (.Slice lo hi none p2) pos) (tSl r te tl th):=by
 intro pins s B H Q I h;refine Subscript_ (thn (he pins s B H _ I h) fun v s1 hm=>?_);obtain⟨x,H1,I1,r1,q1⟩:=hm;refine(wpAny_Slice (thn (hl pins s1 B H1 _ I1 q1) fun vl s2 ⟨l,H2,I2,pl,q2⟩=>thn (hu pins s2 B H2 _ I2 q2) fun vu s3 hm=>?_));obtain⟨u,H3,I3,pu,q3⟩:=hm;rw[evalPart_none];refine Vx ?_;have I4:Inv X pins B H3 {s3 with heap:=s3.heap.push {cls:=.type "slice",data:=.fields #[vl,vu,.none]}}:=I3.kept (t':=s3.toks) fun b ob q=>Vu _ q;obtain⟨T,id,hT,ht,hg⟩:=hr pins {s3 with heap:=s3.heap.push {cls:=.type "slice",data:=.fields #[vl,vu,.none]}} B H3 x v vl vu l u s3.heap.objs.size Q I4 r1 (Heap.IsSliceOf.new ..) pl pu q3;show wpAny (model X.prog X.w) X.A (subscriptTail e (.Slice lo hi none p2) v (.ref s3.heap.objs.size)) (EP X pins B Q) X.xe {s3 with heap:=s3.heap.push {cls:=.type "slice",data:=.fields #[vl,vu,.none]}};exact tail_any (ops:=[.ref s3.heap.objs.size,v]) ht hT hg (by with_unfolding_all rfl)
def uq(xs:List V)(lo hi:Option Int):List V:=(xs.drop (HT.sIx xs.length 0 lo)).take (HT.sIx xs.length xs.length hi - HT.sIx xs.length 0 lo)
theorem Ii(xs:List V)(lo hi:Option Int):(uq xs lo hi).length<=xs.length:=by
 unfold uq;rw[Wz,List.length_drop];omega
def Qc(K:Frag):V->Option Int->Option Int->Hp->VK->Prop:=fun x lo hi H Q=>∃a xs,x=.ref a/\SqT K H a xs/\
 ¬(HT.sIx xs.length 0 lo=0/\HT.sIx xs.length xs.length hi=xs.length)/\∀p,H p=none->Q (.ref p) (upd H p (.tup (uq xs lo hi)))
theorem SZ:SlR X (Qc X.K):=by
 intro pins s B H x v vl vu lo hi sl Q I rx hs pl pu h;obtain⟨a,xs,rfl,hx,hw,q⟩:=h;cases rx;obtain⟨its,r,ht,hz⟩:=I.tuple hx;have hlen:its.toArray.size=xs.length:=by rw[VH];exact r.length.symm
 refine(⟨"tuple",_,PyProof.Rows.slot_tuple_getitem.lookup,ht.typeIs,?_⟩);refine HT.getItem_tuple_cut ht hs pl pu (by rw[hlen];exact hw) ?_ (by rw[hlen];exact hz);rw[hlen];refine⟨.ref s.heap.objs.size,_,I.laid (t':=s.toks) (o:=.tup (uq xs lo hi)) (fun b ob q=>Vu _ q) (Vv _) ?_,rfl,q _ (I.hok.fresh (Vv _))⟩;exact⟨V0 (Ii xs lo hi) hz,_,(r.drop (HT.sIx xs.length 0 lo)).take (HT.sIx xs.length xs.length hi - HT.sIx xs.length 0 lo),IsTup.new _ _⟩
def FO(K:Frag):R2:=fun x y H Q=>∃a b xs ys,x=.ref a/\y=.ref b/\SqT K H a xs/\SqT K H b ys/\xs≠[]/\xs.length+ys.length<=sizeLine/\
 (ys=[]->Q (.ref a) H)/\(ys≠[]->∀p,H p=none->Q (.ref p) (upd H p (.tup (xs++ys))))
theorem Vals.nil_iff{xs:List V}{us:List Value}(r:Vals xs us):us=[]↔xs=[]:=by
 cases r with
 |nil=>simp
 |cons _ _=>simp
theorem QO:OpR X (binaryOp .Add) (FO X.K):=by
 intro pins s B H x y v u Q I rx ry h;obtain⟨a,b,xs,ys,rfl,rfl,ha,hb,hx,hz,q1,q2⟩:=h;cases rx;cases ry;obtain⟨its,r1,p1,_⟩:=I.tuple ha;obtain⟨its2,r2,p2,_⟩:=I.tuple hb;refine HT.cat_tup p1 p2 (fun z=>hx (r1.nil_iff.mp z)) (fun z=>⟨.ref a,H,I,rfl,q1 (r2.nil_iff.mp z)⟩) (fun z=>?_) (by rw[←r1.length,←r2.length];exact hz);refine⟨.ref s.heap.objs.size,_,I.laid (t':=s.toks) (o:=.tup (xs++ys)) (fun b ob q=>Vu _ q) (Vv _) ?_,rfl,q2 (fun w=>z (r2.nil_iff.mpr w)) _ (I.hok.fresh (Vv _))⟩;exact⟨by rw[Wj];exact hz,_,r1.append r2,IsTup.new _ _⟩
end
def ixN(n:Nat)(i:Int):Option Nat:=if 0<=i then(if i<n then some i.toNat else none) else if -(n:Int)<=i then some (i+n).toNat else none
def atI{J:Type}(xs:List J)(i:Int):Option J:=(ixN xs.length i).bind fun j=>xs[j]?
def Lh{n:Nat}{i:Int}{j:Nat}(h:ixN n i=some j):seqIndex? i n=some j/\j<n/\-(n:Int)<=i/\i<n:=by
 unfold ixN at h;by_cases h0:0<=i
 ·rw[if_pos h0] at h;by_cases h1:i<n
  ·rw[if_pos h1] at h;have e:i.toNat=j:=VP h;exact⟨by rw[seqIndex_of h0 h1,e],by omega,by omega,h1⟩
  ·rw[if_neg h1] at h;cases h
 ·rw[if_neg h0] at h;by_cases h1:-(n:Int)<=i
  ·rw[if_pos h1] at h;have e:(i+n).toNat=j:=VP h;exact⟨by rw[seqIndex_neg (by omega) h1,e],by omega,h1,by omega⟩
  ·rw[if_neg h1] at h;cases h
def CP{J:Type}{xs:List J}{i:Int}{v:J}(h:atI xs i=some v):∃j,seqIndex? i xs.length=some j/\xs[j]?=some v/\j<xs.length/\-(xs.length:Int)<=i/\i<xs.length:=by
 unfold atI at h;cases e:ixN xs.length i with
 |none=>rw[e] at h;cases h
 |some j=>
  rw[e] at h;obtain⟨h1,h2,h3,h4⟩:=Lh e;exact(⟨j,h1,h,h2,h3,h4⟩)
def N0{J:Type}{xs:List J}{j:Nat}{v:J}(h:xs[j]?=some v):atI xs (j:Int)=some v:=by
 have hj:j<xs.length:=(Vw.mp h).1;have e:ixN xs.length (j:Int)=some j:=by
  unfold ixN;rw[if_pos (by omega),if_pos (by omega)];simp
 unfold atI;rw[e];exact h
def JB(b:Expr):Prop:=∀o i,subscripted b false o i=operate [o,i] (getItem o i)
def IxR(X:Cx)(r:R2):Prop:=
 ∀(value slice:Expr) (pins:QS) (s:Shared) (B:St) (H:Hp) (x y:V) (v u:Value) (Q:VK),Inv X pins B H s->RelV x v->RelV y u->r x y H Q->
  subscripted slice false v u=operate [v,u] (getItem v u)->wpAny (model X.prog X.w) X.A (subscriptTail value slice v u) (EP X pins B Q) X.xe s
def MtR(X:Cx)(id:String)(r:V->List V->Hp->VK->Prop):Prop:=
 ∀(pins:QS) (s:Shared) (B:St) (H:Hp) (x:V) (xs:List V) (v:Value) (us:List Value) (Q:VK),Inv X pins B H s->RelV x v->Vals xs us->r x xs H Q->
  wpAny (model X.prog X.w) X.A (call (.builtin id) (v::us)) (EP X pins B Q) X.xe s
section
variable {X:Cx} {a b:Expr} {ta tb:TE} {pos:Pos}
theorem IxR.or{r r':R2}(h:IxR X r)(h':IxR X r'):IxR X (fun x y H Q=>r x y H Q\/r' x y H Q):=by
 intro value slice pins s B H x y v u Q I rx ry q hs;rcases q with q|q
 ·exact h value slice pins s B H x y v u Q I rx ry q hs
 ·exact h' value slice pins s B H x y v u Q I rx ry q hs
theorem Ot{r:R2}(hr:IxR X r)(ha:PE X a ta)(hb:PE X b tb)(hs:JB b):PE X (.Subscript a b pos) (tOp r ta tb):=by
 intro pins s B H Q I h;exact Subscript_ (DU ha hb I h fun v u s2 x y H2 I2 rx ry q=>hr a b pins s2 B H2 x y v u Q I2 rx ry q (hs _ _))
def Gf(K:Frag):R2:=fun x y H Q=>∃p xs i v,x=.ref p/\y=.int i/\SqL K H p xs/\atI xs i=some v/\Q v H
def Kj(K:Frag):R2:=fun x y H Q=>∃p xs i v,x=.ref p/\y=.int i/\SqT K H p xs/\atI xs i=some v/\Q v H
def HG:R2:=fun x y H Q=>∃z i c,x=.str z/\y=.int i/\z.length<=sizeLine/\atI z.cps.toList i=some c/\Q (.str ⟨#[c]⟩) H
theorem ix_list:IxR X (Gf X.K):=by
 intro value slice pins s B H x y v u Q I rx ry h hs;obtain⟨p,xs,i,z,rfl,rfl,hq,he,q⟩:=h;cases rx;obtain⟨t,rfl⟩:=ry;obtain⟨its,r,pl,hz⟩:=I.list hq;obtain⟨j,h1,h2,h3,h4,h5⟩:=CP he;obtain⟨w,ew,rw'⟩:=r.get h2;have hl:=r.length;have hn:=x4;have fin:EP X pins B Q w s:=⟨z,H,I,rw',q⟩
 by_cases h0:0<=i
 ·have hj:i.toNat=j:=by
   rw[seqIndex_of h0 h5] at h1;exact VP h1
  exact item_listR pl.isList h0 (by omega) (by rw[hj];simpa using ew) fin hs
 ·have hj:(i+(its.toArray.size:Int)).toNat=j:=by
   rw[seqIndex_neg (by omega) h4] at h1;rw[VH,←hl];exact VP h1
  exact subscriptTail_builtinR (x:=w) pl.isList.typeIs slot_list_getitem.lookup
   (wpAny_getItem_list_neg (Q:=fun r s'=>r=w/\EP X pins B Q r s') pl.isList (by omega) (by rw[VH]<;>omega) (by omega) (by rw[hj];simpa using ew) ⟨rfl,fin⟩) hs
theorem ix_tup:IxR X (Kj X.K):=by
 intro value slice pins s B H x y v u Q I rx ry h hs;obtain⟨p,xs,i,z,rfl,rfl,hq,he,q⟩:=h;cases rx;obtain⟨t,rfl⟩:=ry;obtain⟨its,r,pl,hz⟩:=I.tuple hq;obtain⟨j,h1,h2,h3,h4,h5⟩:=CP he;obtain⟨w,ew,rw'⟩:=r.get h2;have hl:=r.length;have hn:=x4;have fin:EP X pins B Q w s:=⟨z,H,I,rw',q⟩
 exact subscriptTail_builtinR (x:=w) pl.typeIs slot_tuple_getitem.lookup
  (getItem_tuple (j:=j) (Q:=fun r s'=>r=w/\EP X pins B Q r s') pl (by omega) (by omega) (by rw[VH,←hl];exact h1) (by simpa using ew) ⟨rfl,fin⟩) hs
theorem LZ:IxR X HG:=by
 intro value slice pins s B H x y v u Q I rx ry h hs;obtain⟨z,i,c,rfl,rfl,hz,he,q⟩:=h;obtain⟨t,rfl⟩:=rx;obtain⟨t',rfl⟩:=ry;obtain⟨j,h1,h2,h3,h4,h5⟩:=CP he;have hl:z.cps.toList.length=z.length:=by simp[Str.length]
 rw[hl] at h1 h4 h5;have hn:=x4;exact tail_any (typeIs_str s z t) slot_str_getitem.lookup (getItem_str (c:=c) (by
  have e1:decide (i< -(2^63:Int))=false:=VG (by omega);have e2:decide (i>=2^63)=false:=VG (by omega);rw[e1,e2,Bool.or_false]) (by rw[h1];simpa using h2) ⟨.str ⟨#[c]⟩,H,I.tok _,⟨_,rfl⟩,q⟩) hs
def rIx(K:Frag):R2:=fun x y H Q=>Gf K x y H Q\/Kj K x y H Q\/HG x y H Q
theorem Ru:IxR X (rIx X.K):=ix_list.or (ix_tup.or LZ)
theorem P1(its:List Value)(n j:Nat)(u:Value):Obj.mapSeq (·.setIfInBounds j u) {cls:=.type "list",data:=.seq its.toArray n}={cls:=.type "list",data:=.seq (its.set j u).toArray n}:=by
 simp[Obj.mapSeq]
theorem Inv.lst{pins:QS}{B:St}{H:Hp}{s:Shared}{p:Addr}{xs:List V}(I:Inv X pins B H s)(h:H p=some (.lst xs)):
  ∃(its:List Value) (n:Nat),Vals xs its/\s.heap.get? p=some {cls:=.type "list",data:=.seq its.toArray n}/\xs.length<=sizeLine:=by
 obtain⟨z,its,n,r,e⟩:=I.hok p _ h;exact(⟨its,n,r,e,z⟩)
theorem Inv.lstUpd{pins:QS}{B:St}{H:Hp}{s:Shared}{p:Addr}{xs ys:List V}{its its':List Value}{n n':Nat}{f:Obj->Obj}(I:Inv X pins B H s)(h:H p=some (.lst xs))
  (ho:s.heap.get? p=some {cls:=.type "list",data:=.seq its.toArray n}) (hf:f {cls:=.type "list",data:=.seq its.toArray n}={cls:=.type "list",data:=.seq its'.toArray n'}) (r:Vals ys its') (hz:ys.length<=sizeLine) (t:Nat):
  Inv X pins B (upd H p (.lst ys)) {s with heap:=s.heap.update p f,toks:=t}:=by
 have e:(s.heap.update p f).get? p=some {cls:=.type "list",data:=.seq its'.toArray n'}:=by
  rw[Heap.get?_update_self f ho (by rw[hf]<;>rfl),hf]
 refine I.write (x:=p) (e:=p) (by rw[h];trivial) (.inl rfl) (fun b u hb q=>(Wq _ _ (Ne.symm hb)).trans q) ⟨_,e⟩ ?_;exact⟨hz,its',n',r,e⟩
def Ph:V->V->V->Hp->(Hp->Prop)->Prop:=fun o i v H Q=>∃p xs k j,o=.ref p/\i=.int k/\H p=some (.lst xs)/\ixN xs.length k=some j/\Q (upd H p (.lst (xs.set j v)))
theorem Q8:Ev X Ph:=by
 intro pins s B H o i v ov iv u Q I ro ri rv h;obtain⟨p,xs,k,j,rfl,rfl,hp,hj,q⟩:=h;cases ro;obtain⟨t,rfl⟩:=ri;obtain⟨its,n,r,ho,hz⟩:=I.lst hp;obtain⟨h1,h2,h3,h4⟩:=Lh hj;have hl:=r.length;have hn:=x4;have I':Inv X pins B (upd H p (.lst (xs.set j v))) {s with heap:=s.heap.update p (Obj.mapSeq (·.setIfInBounds j u))}:=
  I.lstUpd hp ho (P1 its n j u) (r.set rv j) (by rw[WT];exact hz) s.toks
 by_cases h0:0<=k
 ·have hk:k.toNat=j:=by
   rw[seqIndex_of h0 h4] at h1;exact VP h1
  exact PySem.W.ki_setAt ho h0 (by omega) (by rw[VH,←hl];exact h4) (by rw[hk];exact⟨_,I',q⟩)
 ·have hk:(k+(its.toArray.size:Int)).toNat=j:=by
   rw[seqIndex_neg (by omega) h3] at h1;rw[VH,←hl];exact VP h1
  exact PySem.W.ki_setBack ho (by omega) (by rw[VH,←hl];exact h3) (by omega) (by rw[hk];exact⟨_,I',q⟩)
theorem LW(lo hi:Option Int)(n:Nat):(sliceBounds lo hi none n).1=((HT.sIx n 0 lo:Nat):Int)/\(sliceBounds lo hi none n).2.1=((HT.sIx n n hi:Nat):Int)/\(sliceBounds lo hi none n).2.2=1:=by
 refine⟨?_,?_,rfl⟩
 ·cases lo with
  |none=>simp[sliceBounds,HT.sIx]
  |some i=>
   simp only[sliceBounds,HT.sIx,Option.getD_none,show(1:Int)>0 by decide,if_true];by_cases h:i<0
   ·simp only[h,if_true]<;>omega
   ·simp only[h,if_false]<;>omega
 ·cases hi with
  |none=>simp[sliceBounds,HT.sIx]
  |some i=>
   simp only[sliceBounds,HT.sIx,Option.getD_none,show(1:Int)>0 by decide,if_true];by_cases h:i<0
   ·simp only[h,if_true]<;>omega
   ·simp only[h,if_false]<;>omega
theorem RK(its:List Value)(lo hi:Option Int):slicePick its.toArray lo hi none=((its.drop (HT.sIx its.length 0 lo)).take (HT.sIx its.length its.length hi - HT.sIx its.length 0 lo)).toArray:=by
 obtain⟨h1,h2,h3⟩:=LW lo hi its.toArray.size;unfold slicePick;rw[h1,h2,h3];simp only[sliceRange_one,pick_run,VH]<;>rfl
def Sl(K:Frag):V->Option Int->Option Int->Hp->VK->Prop:=fun x lo hi H Q=>∃a xs,x=.ref a/\SqL K H a xs/\∀p,H p=none->Q (.ref p) (upd H p (.lst (uq xs lo hi)))
theorem sl_list:SlR X (Sl X.K):=by
 intro pins s B H x v vl vu lo hi sl Q I rx hs pl pu h;obtain⟨a,xs,rfl,hx,q⟩:=h;cases rx;obtain⟨its,r,ht,hz⟩:=I.list hx;have hlen:=r.length;refine(⟨"list",_,slot_list_getitem.lookup,ht.isList.typeIs,?_⟩);refine wpAny_getItem_list_slice ht.isList hs pl pu .none (by simp) ?_ (by rw[VH]<;>omega);rw[RK,←hlen];refine⟨.ref s.heap.objs.size,_,I.laid (t':=s.toks) (o:=.lst (uq xs lo hi)) (fun b ob q=>Vu _ q) (Vv _) ?_,rfl,q _ (I.hok.fresh (Vv _))⟩;exact⟨V0 (Ii xs lo hi) hz,_,0,(r.drop (HT.sIx xs.length 0 lo)).take (HT.sIx xs.length xs.length hi - HT.sIx xs.length 0 lo),VC _ rfl⟩
theorem R1:tz X (.builtin "len") (fun xs H Q=>∃p ys,xs=[.ref p]/\(SqL X.K H p ys\/SqT X.K H p ys)/\Q (.int ys.length) H):=by
 intro pins s B H xs us Q I r h;obtain⟨p,ys,rfl,hq,q⟩:=h;obtain⟨u,rfl,rx⟩:=vE r;cases rx;have hn:=x4;rcases hq with hq|hq
 ·obtain⟨its,r',pl,hz⟩:=I.list hq;have hlen:=r'.length;exact Calls.call_len_list pl.isList (by simp only[VH]<;>omega) ⟨.int ys.length,H,I.tok _,⟨s.toks+1,by rw[VH,hlen]⟩,q⟩
 ·obtain⟨its,r',pl,hz⟩:=I.tuple hq;have hlen:=r'.length;exact len_tuple pl (by simp only[VH]<;>omega) ⟨.int ys.length,H,I.tok _,⟨s.toks+1,by rw[VH,hlen]⟩,q⟩
theorem L9:tz X (.type "tuple") (fun xs H Q=>∃p ys,xs=[.ref p]/\((SqL X.K H p ys/\∀l,H l=none->Q (.ref l) (upd H l (.tup ys)))\/(SqT X.K H p ys/\Q (.ref p) H))):=by
 intro pins s B H xs us Q I r h;obtain⟨p,ys,rfl,h⟩:=h;obtain⟨u,rfl,rx⟩:=vE r;cases rx;rcases h with⟨hq,q⟩|⟨hq,q⟩
 ·obtain⟨its,r',pl,hz⟩:=I.list hq;have hlen:=r'.length;refine call_tuple_list pl.isList (fun h' kp=>?_) (by simp only[VH]<;>omega);have I1:Inv X pins B H {s with heap:=h'}:=I.kept (t':=s.toks) kp;have I2:Inv X pins B (upd H h'.objs.size (.tup ys)) {s with heap:=h'.push {cls:=.type "tuple",data:=.seq its.toArray}}:=
   I1.laid (t':=s.toks) (fun b o e=>Vu _ e) (Vv _) (show ObjOk X.prog X.w _ _ _ (.tup ys) from⟨hz,its,r',IsTup.new _ _⟩)
  exact⟨.ref h'.objs.size,_,I2,rfl,q _ (I1.hok.fresh (Vv _))⟩
 ·obtain⟨its,r',pl,hz⟩:=I.tuple hq;exact call_tuple_same pl ⟨.ref p,H,I,rfl,q⟩
def tyV(K:Frag)(T:String)(x:V)(H:Hp):Prop:=match x with
 | .str _=>T="str"
 | .int _=>T="int"
 | .ref p=>(T="list"/\ ∃xs,SqL K H p xs)\/(T="tuple"/\ ∃o,K.lookup p=some o/\o.cls=.type "tuple"/\o.dict=none)\/
   (T="dict"/\((∃kvs,H p=some (.dK kvs))\/∃kvs,H p=some (.dT kvs)))\/(T="set"/\ ∃S n,H p=some (.set S n))
 |_=>False
theorem G7{pins:QS}{B:St}{H:Hp}{s:Shared}{T:String}{x:V}{v:Value}(I:Inv X pins B H s)(r:RelV x v)(ty:tyV X.K T x H):
  s.TypeIs v T/\∀a,v=.ref a->∃ob,s.heap.get? a=some ob/\ob.dict=none:=by
 cases x with
 |str z=>
  obtain⟨t,rfl⟩:=r;cases (show T="str" from ty);exact⟨typeIs_str s z t,fun _ e=>nomatch e⟩
 |int i=>
  obtain⟨t,rfl⟩:=r;cases (show T="int" from ty);exact⟨typeIs_int s i t,fun _ e=>nomatch e⟩
 |ref p=>
  cases r;rcases ty with⟨rfl,xs,hq⟩|⟨rfl,o,hk,hc,hd⟩|⟨rfl,hk⟩|⟨rfl,S,n,hk⟩
  ·obtain⟨its,_,pl,_⟩:=I.list hq;refine⟨pl.isList.typeIs,fun a e=>?_⟩;cases e;obtain⟨o,n,e,c,hd,_⟩:=pl;exact(⟨o,e,hd⟩)
  ·refine⟨⟨o,I.kIn p o hk,hc⟩,fun a e=>?_⟩;cases e;exact⟨o,I.kIn _ o hk,hd⟩
  ·have z:∃o,s.heap.get? p=some o/\o.ExactDict:=by
    rcases hk with⟨kvs,hk⟩|⟨kvs,hk⟩
    ·obtain⟨_,_,_,_,o,_,_,e,ex,_⟩:=I.hok p _ hk;exact⟨o,e,ex⟩
    ·obtain⟨_,_,_,_,o,_,_,e,ex,_⟩:=I.hok p _ hk;exact⟨o,e,ex⟩
   obtain⟨o,e,ex⟩:=z;refine(⟨⟨o,e,ex.1⟩,fun a e2=>?_⟩);cases e2;exact⟨o,e,ex.2.1⟩
  ·obtain⟨o,_,_,_,e,ex,_⟩:=I.hok p _ hk;refine⟨⟨o,e,ex.1⟩,fun a e2=>?_⟩;cases e2;exact⟨o,e,ex.2.1⟩
 |_=>exact False.elim ty
def Bb(K:Frag)(T:String)(r:V->List V->Hp->VK->Prop)(to:TE):TE:=fun B H Q=>to B H fun x H1=>tyV K T x H1/\r x [] H1 Q
def tBM(K:Frag)(T:String)(r:V->List V->Hp->VK->Prop)(to:TE)(t:TA):TE:=fun B H Q=>to B H fun x H1=>tyV K T x H1/\t B H1 fun xs H2=>r x xs H2 Q
variable {o e:Expr} {es:List Expr} {to:TE} {t:TA} {name:Str} {apos cpos:Pos} {T id:String} {r:V->List V->Hp->VK->Prop}
theorem Js(pa:PlainAttrs T)(slot:Slot T name id)(hty:typeOf (.builtin id)=pure (.type "method_descriptor")) (hm:MtR X id r) (ho:PE X o to)
  (hbase:attributeBase o name X.env (eval o X.env)=eval o X.env:=by rfl) (hline:(apos.endLine==cpos.line)=true:=by rfl):PE X (.Call (.Attribute o name apos) [] [] cpos) (Bb X.K T r to):=by
 intro pins s B H Q I h;refine wpAny_Call_method0_late hbase hline (thn (ho pins s B H _ I h) fun v s1 hm=>?_);obtain⟨x,H1,I1,r1,ty,q1⟩:=hm;obtain⟨h1,h2⟩:=G7 I1 r1 ty;exact(⟨T,id,pa,slot,hty,h1,h2,Calls.callWith_builtin rfl (PySem.evalArgs_none (hm pins s1 B H1 x [] v [] Q I1 r1 .nil q1))⟩)
theorem J4(pa:PlainAttrs T)(slot:Slot T name id)(hty:typeOf (.builtin id)=pure (.type "method_descriptor")) (hm:MtR X id r) (ho:PE X o to) (ha:PA X (e::es) t)
  (hbase:attributeBase o name X.env (eval o X.env)=eval o X.env:=by rfl)
  (hfew:((backTo cpos (starEach (e::es) X.env)).all (fun x=>!x.1)&&(backToKw cpos (keywordEach [] X.env)).all (fun x=>x.1.isSome)
   &&decide ((e::es).length+([]:List Keyword).length+(if([]:List Keyword).isEmpty then 0 else 1)<30))=true:=by rfl)
  (hline:(apos.endLine==cpos.line)=true:=by rfl) (hs:starEach (e::es) X.env=(false,eval e X.env)::starEach es X.env:=by rfl) (hplain:(backTo cpos (starEach es X.env)).any (·.1)=false:=by rfl):
  PE X (.Call (.Attribute o name apos) (e::es) [] cpos) (tBM X.K T r to t):=by
 intro pins s B H Q I h;refine wpAny_Call_method_late hbase hfew hline rfl (thn (ho pins s B H _ I h) fun v s1 hm=>?_);obtain⟨x,H1,I1,r1,ty,q1⟩:=hm;obtain⟨h1,h2⟩:=G7 I1 r1 ty;refine(⟨T,id,pa,slot,hty,h1,h2,?_⟩);have hA:=ha cpos pins s1 B H1 _ I1 q1;rw[hs] at hA⊢;refine Calls.callWith_builtin (by show(false||(backTo cpos (starEach es X.env)).any (·.1))=false;rw[hplain]<;>rfl) (Calls.evalArgs_plain ?_);exact thn hA fun us s2 ⟨vs,H2,I2,r2,q2⟩=>hm pins s2 B H2 x vs v us Q I2 r1 r2 q2
end
def MtM(X:Cx)(id:String)(r:V->List V->Hp->VK->Prop):Prop:=
 ∀(pins:QS) (s:Shared) (B:St) (H:Hp) (x:V) (xs:List V) (v:Value) (us:List Value) (Q:VK),Inv X pins B H s->RelV x v->Vals xs us->r x xs H Q->
  wpAny (model X.prog X.w) X.A (call (.builtin id) (v::us)) (EP X pins B Q) X.xe s
def Vals.one{x:V}{us:List Value}(h:Vals [x] us):∃u,us=[u]/\RelV x u:=by
 cases h with|cons r t=>cases t;exact⟨_,rfl,r⟩
def Vals.two{x y:V}{us:List Value}(h:Vals [x,y] us):∃u v,us=[u,v]/\RelV x u/\RelV y v:=by
 cases h with|cons r t=>obtain⟨v,rfl,q⟩:=Vals.one t;exact⟨_,v,rfl,r,q⟩
theorem Vals.zero:∀{us:List Value},Vals [] us->us=[]
 |_,.nil=>rfl
theorem Vals.rep{xs:List V}{us:List Value}(h:Vals xs us):∀k:Nat,Vals (List.replicate k xs).flatten (List.replicate k us).flatten
 |0=>.nil
 |k+1=>by
  rw[WL,WL,List.flatten_cons,List.flatten_cons];exact Vals.append h (Vals.rep h k)
theorem CL(its:List Value):∀(k:Nat) (acc:List Value),
  List.foldl (fun x1 x2=>x1++x2) acc.toArray (List.replicate k its.toArray)=(acc++(List.replicate k its).flatten).toArray
 |0,acc=>by simp
 |k+1,acc=>by
  have e:acc.toArray++its.toArray=(acc++its).toArray:=by simp
  have e2:(acc++its)++(List.replicate k its).flatten=acc++(List.replicate (k+1) its).flatten:=by
   rw[WL,List.flatten_cons,List.append_assoc]
  rw[←e2,←CL its k (acc++its),←e,WL,List.foldl_cons]
section
variable {X:Cx} {pins:QS} {B:St} {H:Hp} {s:Shared} {l:Addr} {xs ys:List V}
theorem Inv.lset{its its':List Value}{n:Nat}{f:Array Value->Array Value}{t':Nat}(I:Inv X pins B H s)(hH:H l=some (.lst xs))
  (e:s.heap.get? l=some {cls:=.type "list",data:=.seq its.toArray n}) (hf:f its.toArray=its'.toArray) (hv:Vals ys its') (hz:ys.length<=sizeLine):
  Inv X pins B (upd H l (.lst ys)) {s with heap:=s.heap.update l (Obj.mapSeq f),toks:=t'}:=by
 have q:=PySem.IsL.update e f;rw[hf] at q;refine I.write (x:=l) (e:=l) (by rw[hH];exact trivial) (.inl rfl) (fun b' u hb hu=>(Wq s.heap (Obj.mapSeq f) (Ne.symm hb)).trans hu) ⟨_,q⟩ ?_;exact⟨hz,its',_,hv,q⟩
theorem Inv.lnew{its:List Value}{t':Nat}(I:Inv X pins B H s)(hv:Vals ys its)(hz:ys.length<=sizeLine):
  Inv X pins B (upd H s.heap.objs.size (.lst ys)) {s with heap:=s.heap.push {cls:=.type "list",data:=.seq its.toArray},toks:=t'}:=
 I.laid (fun _ _ q=>Vu _ q) (Vv _) ⟨hz,its,0,hv,VC _ rfl⟩
theorem Inv.fresh(I:Inv X pins B H s):H s.heap.objs.size=none:=I.hok.fresh (Vv _)
theorem Inv.lstM(I:Inv X pins B H s)(hH:H l=some (.lst xs)):xs.length<=sizeLine/\∃(its:List Value) (n:Nat),Vals xs its/\xs.length=its.length/\s.heap.get? l=some {cls:=.type "list",data:=.seq its.toArray n}:=by
 obtain⟨z,its,n,r,e⟩:=I.hok l _ hH;exact(⟨z,its,n,r,r.length,e⟩)
theorem Uo{n:Nat}(h:n<=sizeLine):Builtin.List.listTooLong n=false:=by
 unfold Builtin.List.listTooLong;exact VG (by omega)
end
section
variable {X:Cx}
def Ko:V->List V->Hp->VK->Prop:=fun x vs H Q=>∃l xs y,x=.ref l/\vs=[y]/\H l=some (.lst xs)/\xs.length<sizeLine/\Q .non (upd H l (.lst (xs++[y])))
theorem CB:MtM X "list.append" Ko:=by
 intro pins s B H x vs v us Q I rx rv h;obtain⟨l,xs,y,rfl,rfl,hH,hz,q⟩:=h;cases rx;obtain⟨u,rfl,ru⟩:=rv.one;obtain⟨z,its,n,r,hl,e⟩:=I.lstM hH;refine call_meets F.slot_list_append ⟨_,e,rfl⟩ F.entry_list_append (F.args_list_append_2 _ _) (PySem.list_append l its.toArray n u (by rw[VH];omega)) ⟨e,?_⟩;refine⟨.non,_,I.lset (its':=its++[u]) hH e (by simp) (r.append (.cons ru .nil)) ?_,rfl,q⟩;rw[Wj,List.length_singleton];omega
def Jm:R2:=fun x y H Q=>∃l b xs zs,x=.ref l/\y=.ref b/\H l=some (.lst xs)/\H b=some (.lst zs)/\xs.length+zs.length<=sizeLine/\∀p,H p=none->Q (.ref p) (upd H p (.lst (xs++zs)))
theorem op_cat:OpR X (binaryOp .Add) Jm:=by
 intro pins s B H x y v u Q I rx ry h;obtain⟨l,b,xs,zs,rfl,rfl,hH,hB,hz,q⟩:=h;cases rx;cases ry;obtain⟨z,its,n,r,hl,e⟩:=I.lstM hH;obtain⟨z2,its2,n2,r2,hl2,e2⟩:=I.lstM hB;refine PySem.P.add_list e e2 ?_ (by rw[VH,VH];omega);have ea:its.toArray++its2.toArray=(its++its2).toArray:=by simp
 rw[ea];exact⟨.ref _,_,I.lnew (t':=s.toks) (r.append r2) (by rw[Wj];omega),rfl,q _ I.fresh⟩
def Fk:R2:=fun x y H Q=>∃l k xs,x=.ref l/\y=.int k/\H l=some (.lst xs)/\-(2^63)<=k/\k<2^63/\xs.length*k.toNat<=sizeLine/\
 ∀p,H p=none->Q (.ref p) (upd H p (.lst (List.replicate k.toNat xs).flatten))
theorem K3{J:Type}(xs:List J)(k:Nat):(List.replicate k xs).flatten.length=k*xs.length:=by
 induction k with
 |zero=>simp
 |succ k ih=>rw[WL,List.flatten_cons,Wj,ih,Nat.succ_mul,Nat.add_comm]
theorem Mo:OpR X (binaryOp .Mult) Fk:=by
 intro pins s B H x y v u Q I rx ry h;obtain⟨l,k,xs,rfl,rfl,hH,h1,h2,hz,q⟩:=h;cases rx;obtain⟨t,rfl⟩:=ry;obtain⟨z,its,n,r,hl,e⟩:=I.lstM hH;have hlen:its.toArray.size*k.toNat<=sizeLine:=by rw[VH,←hl];exact hz
 have hcap:¬its.toArray.size*k.toNat>(2^63 - 1)/8:=by
  have:(sizeLine:Nat)<=(2^63 - 1)/8:=by decide
  omega
 have hfit:¬(!Builtin.List.listFitsIndex k)=true:=by
  rw[fitsIndex_both h1 h2];exact Wy
 have hlong:¬Builtin.List.listTooLong (its.toArray.size*k.toNat)=true:=by
  rw[Uo hlen];exact Wy
 have hnew:List.foldl (fun x1 x2=>x1++x2) #[] (List.replicate (if its.toArray.isEmpty=true then 0 else k.toNat) its.toArray)=(List.replicate k.toNat its).flatten.toArray:=by
  have f0:∀m:Nat,List.foldl (fun x1 x2=>x1++x2) #[] (List.replicate m its.toArray)=(List.replicate m its).flatten.toArray:=fun m=>by
   have:=CL its m [];rw[List.nil_append] at this;exact this
  rw[f0];cases its with
  |nil=>simp
  |cons a r'=>rw[if_neg (by simp)]
 refine wpAny_binaryOp_repeat_ref (T:="list") (U:="int") (by decide) ⟨_,e,rfl⟩ (fun s'=>typeIs_int s' k t) noFill_list_mul F.fills_int_mul F.slot_int_rmul repeat_list F.slot_int_index.lookup
  (call_meets F.slot_int_rmul (typeIs_int s k t) F.entry_int_rmul (F.args_int_rmul_2 _ _) (int___rmul___int_list k t l its.toArray n)
   ⟨e,rfl,⟨_,e,rfl⟩,call_meets F.slot_list_mul ⟨_,e,rfl⟩ F.entry_list_mul (F.args_list_mul_2 _ _) (AutoListH.list___mul___list_int_3 l its.toArray n k t hfit hcap hlong) ⟨e,?_⟩⟩)
 rw[hnew];exact⟨.ref _,_,I.lnew (t':=s.toks) (r.rep k.toNat) (by rw[K3,Nat.mul_comm];exact hz),rfl,q _ I.fresh⟩
end
section
variable {κ:Type} [DecidableEq κ]
def rz(kvs:List (κ×V))(k:κ):Option V:=(kvs.find? fun kv=>decide (kv.1=k)).map (·.2)
def qP(kvs:List (κ×V))(k:κ)(v:V):List (κ×V):=
 if(kvs.any fun kv=>decide (kv.1=k))=true then kvs.map (fun kv=>if kv.1=k then(kv.1,v) else kv) else kvs++[(k,v)]
theorem v8{p:κ×V}{r:List (κ×V)}{k:κ}(e:p.1=k):rz (p::r) k=some p.2:=by simp[rz,VJ,e]
theorem wt{p:κ×V}{r:List (κ×V)}{k:κ}(e:¬p.1=k):rz (p::r) k=rz r k:=by simp[rz,VJ,e]
theorem Gb(k:κ):∀kvs:List (κ×V),(kvs.any fun kv=>decide (kv.1=k))=(rz kvs k).isSome
 | []=>rfl
 |p::r=>by
  rw[WZ];by_cases e:p.1=k
  ·simp only[v8 e,VX e,Bool.true_or,WA]
  ·rw[wt e,VG e,Bool.false_or];exact Gb k r
theorem zV(kvs:List (κ×V))(k:κ)(v:V):(qP kvs k v).length<=kvs.length+1:=by
 unfold qP;split
 ·rw[VF];omega
 ·rw[Wj,VY,List.length_nil];omega
theorem RelO.isSome_eq{o:Option V}{u:Option Value}(r:RelO o u):o.isSome=u.isSome:=by
 cases o with
 |none=>cases u with
  |none=>rfl
  |some _=>exact(show False from r).elim
 |some _=>cases u with
  |none=>exact(show False from r).elim
  |some _=>rfl
theorem KV.val{kvs:List (κ×V)}{vs:List (κ×Value)}(r:KV kvs vs)(k:κ):RelO (rz kvs k) (valueAt vs k):=by
 unfold KV at r;induction r with
 |nil=>exact True.intro
 | @cons p q ps qs h t ih=>
  obtain⟨h1,h2⟩:=h;by_cases e:p.1=k
  ·have e':q.1=k:=h1.symm.trans e;have b:valueAt (q::qs) k=some q.2:=by simp[valueAt,VJ,e']
   rw[v8 e,b];exact h2
  ·have e':¬q.1=k:=fun z=>e (h1.trans z);have b:valueAt (q::qs) k=valueAt qs k:=by simp[valueAt,VJ,e']
   rw[wt e,b];exact ih
theorem KV.any{kvs:List (κ×V)}{vs:List (κ×Value)}(r:KV kvs vs)(k:κ):(kvs.any fun kv=>decide (kv.1=k))=vs.any fun kv=>decide (kv.1=k):=by
 unfold KV at r;induction r with
 |nil=>rfl
 |cons h t ih=>rw[WZ,WZ,ih,h.1]
theorem KV.repl{kvs:List (κ×V)}{vs:List (κ×Value)}(r:KV kvs vs)(k:κ){y:V}{u:Value}(ry:RelV y u):
  KV (kvs.map fun kv=>if kv.1=k then(kv.1,y) else kv) (vs.map fun kv=>if kv.1=k then(kv.1,u) else kv):=by
 unfold KV at r⊢;induction r with
 |nil=>exact .nil
 | @cons p q ps qs h t ih=>
  rw[VB,VB];refine .cons ?_ ih;obtain⟨h1,h2⟩:=h;by_cases e:p.1=k
  ·rw[if_pos e,if_pos (h1.symm.trans e)];exact⟨h1,ry⟩
  ·rw[if_neg e,if_neg (fun z=>e (h1.trans z))];exact⟨h1,h2⟩
theorem KV.put{kvs:List (κ×V)}{vs:List (κ×Value)}(r:KV kvs vs)(k:κ){y:V}{u:Value}(ry:RelV y u):KV (qP kvs k y) (stored vs k u):=by
 unfold qP stored;rw[r.any k];by_cases e:(vs.any fun kv=>decide (kv.1=k))=true
 ·rw[if_pos e,if_pos e];exact r.repl k ry
 ·rw[if_neg e,if_neg e];exact Paired.snoc r ⟨rfl,ry⟩
theorem KV.length{kvs:List (κ×V)}{vs:List (κ×Value)}(r:KV kvs vs):kvs.length=vs.length:=Paired.length r
end
def yM{P:Program}{w:World}{k:Key}{u:Value}(r:RelV (kV k) u):(si P w).is k u=true:=by
 cases k with
 |inl i=>obtain⟨t,e⟩:=(show ∃t,u=Value.int i t from r);subst e;exact RY P w i t
 |inr x=>obtain⟨t,e⟩:=(show ∃t,u=Value.str x t from r);subst e;exact PU P w x t
abbrev KT(H:Hp):List (NK×V)->List (NK×Addr×Value)->Prop:=Paired fun p q=>p.1=q.1/\NKey H q.2.1 p.1/\RelV p.2 q.2.2
def KT.val{H:Hp}{kvs:List (NK×V)}{xs:List (NK×Addr×Value)}(r:KT H kvs xs)(k:NK):RelO (rz kvs k) ((atKey xs k).map (·.2)):=by
 induction r with
 |nil=>exact True.intro
 | @cons p q ps qs h t ih=>
  obtain⟨h1,_,h2⟩:=h;by_cases e:p.1=k
  ·have e':q.1=k:=h1.symm.trans e;have b:atKey (q::qs) k=some q.2:=by simp[atKey,VJ,e']
   rw[v8 e,b];exact h2
  ·have e':¬q.1=k:=fun z=>e (h1.trans z);have b:atKey (q::qs) k=atKey qs k:=by simp[atKey,VJ,e']
   rw[wt e,b];exact ih
theorem KT.repl{H:Hp}{kvs:List (NK×V)}{xs:List (NK×Addr×Value)}(r:KT H kvs xs)(k:NK){y:V}{u:Value}(ry:RelV y u):
  KT H (kvs.map fun kv=>if kv.1=k then(kv.1,y) else kv) (xs.map (putAt k u)):=by
 induction r with
 |nil=>exact .nil
 | @cons p q ps qs h t ih=>
  rw[VB,VB];refine .cons ?_ ih;obtain⟨h1,h2,h3⟩:=h;unfold putAt;by_cases e:p.1=k
  ·rw[if_pos e,if_pos (h1.symm.trans e)];exact⟨h1,h2,ry⟩
  ·rw[if_neg e,if_neg (fun z=>e (h1.trans z))];exact⟨h1,h2,h3⟩
theorem KT.put{H:Hp}{kvs:List (NK×V)}{xs:List (NK×Addr×Value)}(r:KT H kvs xs)(k:NK){b:Addr}{y:V}{u:Value}(hb:NKey H b k)(ry:RelV y u):
  KT H (qP kvs k y) (storedH xs k b u):=by
 have e:(kvs.any fun kv=>decide (kv.1=k))=(atKey xs k).isSome:=by
  rw[Gb,(r.val k).isSome_eq,Option.isSome_map]
 unfold qP storedH;rw[e];by_cases q:(atKey xs k).isSome=true
 ·rw[if_pos q,if_pos q];exact r.repl k ry
 ·rw[if_neg q,if_neg q];exact Paired.snoc r ⟨rfl,hb,ry⟩
def KT.keeps{H H':Hp}{kvs:List (NK×V)}{xs:List (NK×Addr×Value)}(r:KT H kvs xs)(ht:∀b ys,H b=some (.tup ys)->H' b=some (.tup ys)):KT H' kvs xs:=
 Paired.mapP r fun _ _ z=>⟨z.1,z.2.1.up ht,z.2.2⟩
section
variable {P:Program} {w:World} {H:Hp} {h:Heap} {a:Addr}
theorem Km{u:HO}(ok:HOk P w H h)(e:Rd H a u):ObjOk P w H h a u:=e.ok ok
theorem Af{kvs:List (Key×V)}(ok:HOk P w H h)(e:Rd H a (.dK kvs)):kvs.length<=sizeLine/\(a==sysModules)=false/\∃vs,KV kvs vs/\h.DictOf (si P w) a vs:=
 show ObjOk P w H h a (.dK kvs) from Km ok e
theorem wc{kvs:List (Key×V)}(ok:HOk P w H h)(e:H a=some (.dK kvs)):kvs.length<=sizeLine/\(a==sysModules)=false/\∃vs,KV kvs vs/\h.DictOf (si P w) a vs:=Af ok (.inl e)
theorem Kr:∀{ks:List Int} {us:List Value},Vals (ks.map V.int) us->ItemsAre (intKind P w) ks us
 | [],_,r=>by rw[List.map_nil] at r;cases r;exact .nil
 |k::ks,_,r=>by
  rw[VB] at r;cases r with
  |cons h t=>
   obtain⟨q,e⟩:=h;subst e;exact .cons (by simp[intKind,Value.isInt]) (Kr t)
theorem Cw{A:Around}(hu:A.units+9<cLine):(xS P w).room A.in1:=by show A.units+1+4<cLine;omega
theorem zi{k:NK}(ok:HOk P w H h)(e:NKey H a k):(xS P w).is h k a:=by
 obtain⟨c,e1,e2⟩:=e;obtain⟨_,its,r,o,h1,h2,n,h3⟩:=(show ObjOk P w H h a (.tup [.ref c,.int k.2]) from ok a _ e1)
 obtain⟨u1,u2,rfl,r1,t,r2⟩:=Vals.two r;obtain rfl:u1=Value.ref c:=r1;subst r2;obtain⟨_,its',r',o',g1,g2,n',g3⟩:=(show ObjOk P w H h c (.tup (k.1.map V.int)) from ok c _ e2)
 exact⟨o,c,t,n,h1,h2,h3,o',its'.toArray,n',g1,g2,g3,by simpa using Kr r'⟩
theorem zW{kvs:List (NK×V)}(ok:HOk P w H h)(e:Rd H a (.dT kvs)):kvs.length<=sizeLine/\(a==sysModules)=false/\
  ∃xs,KT H kvs xs/\h.DictOfH (xS P w) a xs:=by
 obtain⟨z,y,xs,r,o,es,ep,h1,h2,h3,h4,h5⟩:=(show ObjOk P w H h a (.dT kvs) from Km ok e)
 refine(⟨z,y,xs,r,o,es,ep,h1,h2,h3,h4,fun x hx=>?_,h5⟩);have all:∀{l:List (NK×V)} {m:List (NK×Addr×Value)},KT H l m->∀x∈m,(xS P w).is h x.1 x.2.1:=by
  intro l m q;induction q with
  |nil=>intro x hx;exact nomatch hx
  | @cons p q ps qs hq t ih=>
   intro x hx;rcases VI.mp hx with e|hx
   ·subst e;exact zi ok (by rw[←hq.1];exact hq.2.1)
   ·exact ih x hx
 exact all r x hx
theorem Vd{kvs:List (NK×V)}(ok:HOk P w H h)(e:H a=some (.dT kvs)):kvs.length<=sizeLine/\(a==sysModules)=false/\
  ∃xs,KT H kvs xs/\h.DictOfH (xS P w) a xs:=zW ok (.inl e)
end
def DGet(H:Hp)(a:Addr)(y:V)(r:Option V):Prop:=
 (∃kvs k,Rd H a (.dK kvs)/\y=kV k/\r=rz kvs k)\/∃kvs k b,Rd H a (.dT kvs)/\y=.ref b/\NKey H b k/\r=rz kvs k
def Dj(H:Hp)(a:Addr)(y v:V)(H':Hp):Prop:=
 (∃kvs k,H a=some (.dK kvs)/\y=kV k/\kvs.length<sizeLine/\H'=upd H a (.dK (qP kvs k v)))\/
 ∃kvs k b,H a=some (.dT kvs)/\y=.ref b/\NKey H b k/\kvs.length<sizeLine/\H'=upd H a (.dT (qP kvs k v))
def DGet.k{H:Hp}{a:Addr}{kvs:List (Key×V)}{k:Key}(e:H a=some (.dK kvs)):DGet H a (kV k) (rz kvs k):=.inl ⟨kvs,k,.inl e,rfl,rfl⟩
section
variable {X:Cx} {pins:QS} {B:St} {H:Hp} {s:Shared} {a:Addr} {y v:V} {u r:Value} {o:Option V} {A:Around} {E:OK}
theorem Inv.big(I:Inv X pins B H s):sysModules<s.heap.objs.size:=by
 have h:mainGlobals<s.heap.objs.size:=(I.mod.glob.keeps I.bk).lt;exact Nat.lt_trans (by decide) h
theorem Nq{Q:OK}(hu:A.units+9<cLine)(I:Inv X pins B H s)(g:DGet H a y (some v))(ry:RelV y u)(h:∀w' s',Inv X pins B H s'->RelV v w'->Q w' s'):
  wpAny (model X.prog X.w) A (getItem (.ref a) u) Q E s:=by
 rcases g with⟨kvs,k,e,ey,l⟩|⟨kvs,k,b,e,ey,eb,l⟩
 ·subst ey;obtain⟨z,hd,vs,rel,dd⟩:=Af I.hok e;obtain⟨w',hw,rw'⟩:=RelO.some_of (v:=v) (o:=valueAt vs k) (by rw[l];exact rel.val k);exact(wpAny_getItem_of (yM ry) dd.mapOf hw (h w' _ (I.tok _) rw'))
 ·subst ey;cases (show u=Value.ref b from ry);obtain⟨z,hd,xs,rel,dd⟩:=zW I.hok e;obtain⟨w',hw,rw'⟩:=RelO.some_of (v:=v) (o:=(atKey xs k).map (·.2)) (by rw[l];exact rel.val k);obtain⟨p,hp,hp2⟩:=Option.map_eq_some_iff.mp hw;refine(wpAny_getItem_heap (Cw hu) (zi I.hok eb) dd hp ?_);rw[hp2];exact h w' _ (I.tok _) rw'
theorem UM{Q:OK}(hu:A.units+9<cLine)(I:Inv X pins B H s)(g:DGet H a y o)(ry:RelV y u)(h:∀s',Inv X pins B H s'->Q (.bool (!o.isSome)) s'):
  wpAny (model X.prog X.w) A (compareOp .NotIn u (.ref a)) Q E s:=by
 rcases g with⟨kvs,k,e,ey,l⟩|⟨kvs,k,b,e,ey,eb,l⟩
 ·subst ey;obtain⟨z,hd,vs,rel,dd⟩:=Af I.hok e;refine(wpAny_notIn_of (yM ry) hd dd.mapOf ?_);rw[←(rel.val k).isSome_eq,←l];exact h _ (I.tok _)
 ·subst ey;cases (show u=Value.ref b from ry);obtain⟨z,hd,xs,rel,dd⟩:=zW I.hok e;refine(wpAny_notIn_heap (Cw hu) (zi I.hok eb) hd dd ?_);have q:=(rel.val k).isSome_eq;rw[Option.isSome_map] at q;rw[←q,←l];exact h _ (I.tok _)
theorem Aj{h':Heap}{t':Nat}{ob:HO}(I:Inv X pins B H s)(mu:Mut (H a))(hs:Heap.SameBut a s.heap h')(he:∃q,h'.get? a=some q)(new:ObjOk X.prog X.w (upd H a ob) h' a ob):
  Inv X pins B (upd H a ob) {s with heap:=h',toks:=t'}:=
 I.write (x:=a) (e:=a) mu (.inl rfl) (fun b q hb z=>(hs.2 b hb).trans z) he new
theorem Bt{P:Program}{w:World}{H':Hp}{h':Heap}{kvs:List (Key×V)}{vs:List (Key×Value)}(z:kvs.length<=sizeLine)(hd:(a==sysModules)=false)(rel:KV kvs vs)(dd:h'.DictOf (si P w) a vs):
  ObjOk P w H' h' a (.dK kvs):=⟨z,hd,vs,rel,dd⟩
theorem Tj{H':Hp}{Q:Unit->Shared->Prop}(hu:A.units+9<cLine)(I:Inv X pins B H s)(g:Dj H a y v H')(ry:RelV y u)(rv:RelV v r)(h:∀s',Inv X pins B H' s'->Q () s'):
  wpAny (model X.prog X.w) A (setItem (.ref a) u r) Q E s:=by
 rcases g with⟨kvs,k,e,ey,l,eH⟩|⟨kvs,k,b,e,ey,eb,l,eH⟩
 ·subst ey eH;obtain⟨z,hd,vs,rel,dd⟩:=wc I.hok e;have hz:vs.length<=sizeLine:=by rw[←rel.length];exact z
  have hl:(qP kvs k v).length<=sizeLine:=by have:=zV kvs k v;omega
  refine(wpAny_setItem_pairs (hsz:=hz) (yM ry) dd fun h' dd' hs=>h _ ?_);have he:∃q,h'.get? a=some q:=let ⟨q,_,_,hq,_⟩:=dd';⟨q,hq⟩
  exact Aj I (by rw[e];exact True.intro) hs he (Bt hl hd (rel.put k rv) dd')
 ·subst ey eH;cases (show u=Value.ref b from ry);obtain⟨z,hd,xs,rel,dd⟩:=Vd I.hok e;have hz:xs.length<=sizeLine:=by rw[←Paired.length rel];exact z
  have hl:(qP kvs k v).length<=sizeLine:=by have:=zV kvs k v;omega
  refine(wpAny_setItem_heap (hsz:=hz) (Cw hu) (zi I.hok eb) dd fun h' dd' hs=>h _ ?_);obtain⟨q,es,ep,hq,h2,h3,h4,_,h5⟩:=dd';refine Aj I (by rw[e];exact True.intro) hs ⟨q,hq⟩ ⟨hl,hd,_,(rel.put k eb rv).keeps fun c ys ec=>?_,q,es,ep,hq,h2,h3,h4,h5⟩;rw[pW (Ri ec e (fun z=>nomatch z))];exact ec
end
def AY(i:Expr):Prop:=∀ov iv,subscripted i false ov iv=operate [ov,iv] (getItem ov iv)
theorem Np{prog:Program}{w:World}{A:Around}{E:OK}{s:Shared}{env:Env}{value slice:Expr}{pos:Pos}{T id:String}{Q:OK}
  (hl:typeLookup (.type T) "__getitem__"=pure (some (.builtin id))) (hs:AY slice)
  (h:wpAny (model prog w) A (eval value env) (fun o ZU=>wpAny (model prog w) A (eval slice env) (fun i ZJ=>ZJ.TypeIs o T/\wpAny (model prog w) A (getItem o i) Q E ZJ) E ZU) E s):
  wpAny (model prog w) A (eval (.Subscript value slice pos) env) Q E s:=by
 refine Subscript_ (Vz h (fun o ZU ZQ=>Vz ZQ (fun i ZJ ZB=>?_) fun _ _ x=>x) fun _ _ x=>x);obtain⟨hT,ZB⟩:=ZB;unfold subscriptTail;refine Vt ?_;rw[getitemInPython_of_ne hT.not_modules];refine Vt (wpAny_specialOf hT hl ?_);have fin:wpAny (model prog w) A (subscripted slice false o i) (fun r ZL=>wpAny (model prog w) A (letTemporaryGo value o r >>= fun _=>pure r) Q E ZL) E ZJ:=by
  rw[hs o i];exact wpAny_operating (Vz ZB (fun r ZL ZE=>Vt (wpAny_letTemporaryGo (Vx ZE))) fun _ _ x=>x)
 first
  |exact Vx (Vt fin)
  |exact Vt (Vx (Vt fin))
  |exact Vt fin
def Qq{X:Cx}{pins:QS}{B:St}{H:Hp}{s:Shared}{a:Addr}{y:V}{o:Option V}(I:Inv X pins B H s)(g:DGet H a y o):s.TypeIs (.ref a) "dict":=by
 rcases g with⟨kvs,k,e,_,_⟩|⟨kvs,k,b,e,_,_,_⟩
 ·obtain⟨_,_,vs,_,dd⟩:=Af I.hok e;exact dd.typeIs
 ·obtain⟨_,_,xs,_,dd⟩:=zW I.hok e;exact dd.typeIs
def MB(td ty:TE):TE:=fun B H Q=>td B H fun x H1=>ty B H1 fun y H2=>∃a v,x=.ref a/\DGet H2 a y (some v)/\Q v H2
def PK(ty td:TE):TE:=fun B H Q=>ty B H fun y H1=>td B H1 fun x H2=>∃a o,x=.ref a/\DGet H2 a y o/\Q (.bl (!o.isSome)) H2
def T6(td ty tv:TE):TS:=fun D B H=>tv B H fun v H1=>td B H1 fun x H2=>ty B H2 fun y H3=>∃a H4,x=.ref a/\Dj H3 a y v H4/\D.nx B H4
section
variable {X:Cx} {o i value:Expr} {pos pos':Pos} {td ty tv:TE}
theorem GB(hu:X.A.units+9<cLine)(ho:PE X o td)(hi:PE X i ty)(hs:AY i):PE X (.Subscript o i pos) (MB td ty):=by
 intro pins s B H Q I h;refine Np PySem.F.slot_dict_getitem.lookup hs (thn (ho pins s B H _ I h) fun u s1 ⟨x,H1,I1,rx,q1⟩=>thn (hi pins s1 B H1 _ I1 q1) fun iv s2 hm=>?_);obtain⟨y,H2,I2,ry,a,v,ex,g,q2⟩:=hm;subst ex;obtain rfl:u=Value.ref a:=rx;exact⟨Qq I2 g,Nq hu I2 g ry fun w' s3 I3 rw'=>⟨v,H2,I3,rw',q2⟩⟩
theorem MH(hu:X.A.units+9<cLine)(hi:PE X i ty)(ho:PE X o td):PC X .NotIn i o (PK ty td):=by
 intro pins s B H Q I h;refine thn (hi pins s B H _ I h) fun iv s1 ⟨y,H1,I1,ry,q1⟩=>thn (ho pins s1 B H1 _ I1 q1) fun u s2 hm=>?_;obtain⟨x,H2,I2,rx,a,ov,ex,g,q2⟩:=hm;subst ex;obtain rfl:u=Value.ref a:=rx;exact UM hu I2 g ry fun s3 I3=>⟨.bl (!ov.isSome),H2,I3,rfl,q2⟩
theorem Sb(hu:X.A.units+9<cLine)(ho:PE X o td)(hi:PE X i ty)(hv:PE X value tv)(hs:swapsWith value (some (.Subscript o i pos')) pos.line X.env=pure false):
  PS X (.Assign [.Subscript o i pos'] value pos) (T6 td ty tv):=by
 intro pins s B H D I h;refine wpAny_Assign_Subscript (thn (hv pins s B H _ I h) fun r s1 ⟨v,H1,I1,rv,q1⟩=>thn (ho pins s1 B H1 _ I1 q1) fun u s2 ⟨x,H2,I2,rx,q2⟩=>thn (hi pins s2 B H2 _ I2 q2) fun iv s3 hm=>?_) hs;obtain⟨y,H3,I3,ry,a,H4,ex,g,q3⟩:=hm;subst ex;obtain rfl:u=Value.ref a:=rx;exact Tj hu I3 g ry rv fun s4 I4=>⟨B,H4,I4,q3⟩
end
def M3{P:Program}{w:World}{H:Hp}(h:Heap)(hb:sysModules<h.objs.size):ObjOk P w H (h.push {cls:=.type "dict",data:=.dict #[]}) h.objs.size (.dK []):=
 ⟨Wm _,beq_eq_false_iff_ne.mpr (Ne.symm (VN hb)),[],.nil,Heap.DictOf.new h⟩
def TC{P:Program}{w:World}{H:Hp}(h:Heap)(hb:sysModules<h.objs.size):ObjOk P w H (h.push {cls:=.type "dict",data:=.dict #[]}) h.objs.size (.dT []):=
 ⟨Wm _,beq_eq_false_iff_ne.mpr (Ne.symm (VN hb)),[],.nil,_,#[],0,VC _ rfl,⟨rfl,rfl,rfl⟩,rfl,rfl,List.nodup_nil⟩
def Nc:TE:=fun _ H Q=>∀p,H p=none->Q (.ref p) (upd H p (.dK []))
def NM:TE:=fun _ H Q=>∀p,H p=none->Q (.ref p) (upd H p (.dT []))
section
variable {X:Cx} {pos:Pos}
theorem SW:PE X (.Dict [] [] pos) Nc:=fun pins s B H Q I h=>
 wpAny_Dict_empty ⟨.ref s.heap.objs.size,_,I.laid (a:=s.heap.objs.size) (o:=.dK []) (t':=s.toks) (fun _ _ q=>Vu _ q) (Vv _) (M3 s.heap I.big),rfl,h _ (I.hok.fresh (Vv _))⟩
theorem Mp:PE X (.Dict [] [] pos) NM:=fun pins s B H Q I h=>
 wpAny_Dict_empty ⟨.ref s.heap.objs.size,_,I.laid (a:=s.heap.objs.size) (o:=.dT []) (t':=s.toks) (fun _ _ q=>Vu _ q) (Vv _) (TC s.heap I.big),rfl,h _ (I.hok.fresh (Vv _))⟩
end
end L2
namespace Att
open PySem PySem.W PySem.Calls PyProof.Rows
def Pg{P:Params}{h:Heap}:∀(ns:List Int) (vs:List Value),WellAll P h vs (ns.map WData.int)->IntsAre vs ns:=by
 intro ns;induction ns with
 |nil=>
  intro vs w;rw[List.map_nil] at w;cases w;exact .nil
 |cons n ns ih=>
  intro vs w;rw[VB] at w;cases w with
  |cons a b=>
   cases a;exact .cons _ _ (ih _ b)
theorem U1{l:OpenLaw}{n:Nat}(hn:l.most=some n){P:Params}{h:Heap}{args:List WData}{vals:List Value}
  (hpre:l.row.toRowW.claim.pre args=true) (hwl:WellAll P h vals args):
  ∃a vs ns,vals=[Value.ref a]/\args=[WData.list (ns.map WData.int)]/\h.get? a=some {cls:=.type "list",data:=.seq vs.toArray}/\IntsAre vs ns/\ns.length<=n:=by
 have hsh:WShape.hasAll [] args [.list .int]=true:=(pre_splitW hpre).1;have hc:l.pre.holds [] {args:=args}=true:=(pre_splitW hpre).2;obtain⟨d,r,rfl,h1,h2⟩:=hasAllW_cons hsh;obtain rfl:=hasAllW_nil h2;obtain⟨xs,rfl,h3⟩:=hasW_list h1;obtain⟨ns,rfl⟩:=items_int h3;have hlen:ns.length<=n:=by
  unfold OpenLaw.pre at hc;have h4:(WTm.not (.lt (.lit (.int (n:Int))) (.len (.arg 0)))).holds [] {args:=[.list (ns.map .int)]}=true:=by
   have h4:=(holds_andW hc).1;rw[hn] at h4;exact h4
  have h5:=condW_of h4 (w_not (w_lt w_lit (w_len_list (w_arg rfl))));rw[VF] at h5;refine Nat.le_of_not_lt fun q=>?_;have q':(n:Int)<((ns.length:Nat):Int):=by omega
  first
   |(rw[VX q'] at h5;exact absurd h5 (by decide))
   |(simp at h5;omega)
 cases hwl with
 |cons w1 w2=>
  cases w2;cases w1 with
  |list ho hall=>exact⟨_,_,ns,rfl,rfl,ho,Pg ns _ hall,hlen⟩
def Rw(l:OpenLaw)(args:List WData):l.row.toRowW.claim.post args (.bool true) args=true:=
 postW_of (r:=l.row.toRowW) (X:=(true==true))
  (show WShape.has [] (.bool true) .bool=true by first|rfl|decide|simp[WShape.has,WShape.arms,WShape.armsAll])
  (show(WTm.eq .res (.lit (.bool true))).value [] {args:=args,res:=some (.bool true),after:=args}=some (.bool (true==true)) from w_eq_bool (w_res rfl) w_lit) rfl
theorem attach_call{l:OpenLaw}{n:Nat}{q:Program}{loose:List Str}{XP:(Str->Option Value)->Heap->Prop}{YP:World->Heap->Prop}{d:DefRec}
  (hn:l.most=some n) (hdf:d.params.defaults=[])
  (call:∀(w:World) (Z2 ZU:Shared) (mg mb:Str->Option Value) (fa:Addr) (o:Obj) (pm cd doc:Value) (a:Addr) (vs:List Value) (ns:List Int),
   Ground q loose [] XP w Z2 mg mb ZU.heap->YP w ZU.heap->
   ZU.heap.get? fa=some o->o.data=.func (docDef d.name d.params d.body d.scope pm cd doc)->ZU.heap.CodeRec cd d.name->mg d.name=some (.ref fa)->
   ZU.heap.get? a=some {cls:=.type "list",data:=.seq vs.toArray}->IntsAre vs ns->ns.length<=n->ZU.gens=#[]->
   codeAny (model l.prog w) callerA (.call (.ref fa) ⟨[.ref a],[]⟩) (fun r s'=>r=.ok (.ret (.bool true))/\OldK ZU.heap s'.heap/\s'.os=ZU.os/\AllBare s'.gens) ZU):
  WalkO q loose XP YP l.row.toRowW d [] (fun f vs=>PySem.call f vs):=by
 intro w Z2 ZU mg mb G Y fa o pm cd doc dV kV ho hd hcd hD hmg hg args vals as hpre hlay hrd hwl hlo;obtain rfl:dV=.none:=Dflts.none hD hdf;obtain rfl:kV=.none:=Dflts.noKw hD;obtain⟨a,vs,ns,rfl,rfl,hobj,hints,hlen⟩:=U1 hn hpre hwl;refine(enter_call (codeAny_mono (call w Z2 ZU mg mb fa o pm cd doc a vs ns G Y ho (fd_plain hd) hcd hmg hobj hints hlen hg) fun r s' hq=>?_));obtain⟨rfl,h2,h3,h4⟩:=hq;exact(⟨.inl ⟨.bool true,.bool true,[],rfl,fun _=>rfl,.bool true,Rw l _,fun _=>⟨List.Pairwise.nil,fun _ hm=>(nomatch hm)⟩⟩,h2,h3,h4⟩)
end Att
namespace L2
open PySem PySem.Spec PyProof.Rows
theorem Hu:∀{vs:List Value} {ns:List Int},IntsAre vs ns->Vals (ns.map V.int) vs
 |_,_,.nil=>.nil
 |_,_,.cons n t h=>.cons ⟨t,rfl⟩ (Hu h)
def zP(H:Hp):Prop:=∀b,H b=none\/∃o xs,H b=some (.frz o (.lst xs))
theorem Pk{P:Program}{w:World}{K:Frag}{mg mb:Str->Option Value}{CX:CXT}{k:Nat}{fa a:Addr}{fd:FuncData}{x:Str}{sp:Sp}{ZU:Shared}{vs:List Value}{ns:List Int}
  (KX:K.In ZU.heap) (hns:ZU.heap.Ns mainGlobals mg) (hb:ZU.heap.Ns builtinsNs mb) (hbb:∀x:Str,x≠"__name__"->mb x=bootBuiltins x) (hlim:ZU.heap.NoLimit) (hg:ZU.gens=#[])
  (ha:ZU.heap.get? a=some {cls:=.type "list",data:=.seq vs.toArray}) (hi:IntsAre vs ns) (hl:ns.length<=sizeLine) (hr:Room k callerA)
  (F:∀base:Heap,K.In base->base.Ns mainGlobals mg->FnOk P w K mg base CX k fa fd [x] sp) (hbind:∀(s:Shared) (u:Value),BindsTo s fd ⟨[u],[]⟩ [(x,u)])
  (hsp:∀H:Hp,zP H->SqL K H a (ns.map V.int)->sp [.ref a] H (fun v _=>v=.bl true) fun _ _ _=>False)
  (hCX:∀H e s',CX [] H ZU (fun _ _ _=>False) e s'->False):
  codeAny (model P w) callerA (.call (.ref fa) ⟨[.ref a],[]⟩) (fun r s'=>r=.ok (.ret (.bool true))/\OldK ZU.heap s'.heap/\s'.os=ZU.os/\AllBare s'.gens) ZU:=by
 have rv:=Hu hi;have lenV:=hi.length;have core:∀H:Hp,zP H->SqL K H a (ns.map V.int)->HOk P w H ZU.heap->(∀b,H b≠none->b=a)->(H a≠none->K.lookup a=none)->
   codeAny (model P w) callerA (.call (.ref fa) ⟨[.ref a],[]⟩) (fun r s'=>r=.ok (.ret (.bool true))/\OldK ZU.heap s'.heap/\s'.os=ZU.os/\AllBare s'.gens) ZU:=by
  intro H hO hS hok hA hK;have base_of:∀{b:Addr} {o:Obj},ZU.heap.get? b=some o->H b=none->(u4 ZU.heap H).get? b=some o:=fun e n=>Tp e n;have noA:∀{b:Addr} {o:Obj} {es:Array DictEntry} {ep:Nat},ZU.heap.get? b=some o->o.data=.dict es ep->H b=none:=fun{b o es ep} e d=>by
   cases q:H b with
   |none=>rfl
   |some u=>
    have e':b=a:=hA b (by rw[q];simp);subst e';rw[ha] at e;cases e;have d':Data.seq vs.toArray _=Data.dict es ep:=d;cases d'
  have nsK:∀{b:Addr} {m:Str->Option Value},ZU.heap.Ns b m->(u4 ZU.heap H).Ns b m:=fun{b m} ⟨o,es,ep,e,d,r⟩=>⟨o,es,ep,base_of e (noA e d),d,r⟩
  have hKb:K.In (u4 ZU.heap H):=fun b o e=>base_of (KX b o e) (by
   cases q:H b with
   |none=>rfl
   |some u=>
    have e':b=a:=hA b (by rw[q];simp);subst e';rw[hK (by rw[q];simp)] at e;cases e)
  have hM:Mod K mg (u4 ZU.heap H):=⟨hKb,nsK hns,⟨mb,nsK hb,hbb⟩,let ⟨mc,h1,h2⟩:=hlim;⟨mc,nsK h1,h2⟩⟩
  have e0:Env0 P w K mg (u4 ZU.heap H) callerA [] ZU H:=⟨rfl,hM,fun b o e=>M0 e,Nat.le_of_eq (Sa _ _),trivial,fun b hb=>absurd (show b∈([]:List Addr) from hb) (by simp),hok,.of_eq hg⟩
  refine codeAny_mono ((F _ hKb (nsK hns)).run callerA [] ZU H ⟨[.ref a],[]⟩ [.ref a] [.ref a] _ _ hr e0 (hbind ZU (.ref a)) (.cons rfl .nil) (hsp H hO hS)) fun r s' h=>?_;cases r with
  |error e=>exact(hCX H e s' h).elim
  |ok fl=>
   cases fl with
   |next=>exact False.elim h
   |brk=>exact False.elim h
   |cont=>exact False.elim h
   |ret u=>
    obtain⟨v,H',os,bare,un,hok',r',q⟩:=h;have q':v=.bl true:=q;subst q';obtain rfl:u=Value.bool true:=r';refine⟨rfl,OldK.of_keep fun b o e=>?_,os,bare⟩;cases q:H b with
    |none=>exact un.keep b o e q (by intro z;exact absurd (show b∈([]:List Addr) from z) (by simp)) (by simp)
    |some u=>
     rcases hO b with z|⟨ob,xs,z⟩
     ·rw[q] at z;cases z
     ·have z2:=un.frzs b ob _ z;obtain⟨e1,_⟩:=hok b _ z;obtain⟨e2,_⟩:=hok' b _ z2;rw[e] at e1;cases e1;exact e2
 cases hk:K.lookup a with
 |some o=>
  have e:=KX a o hk;rw[ha] at e;cases e;refine core (fun _=>none) (fun _=>.inl rfl) (.inr ⟨_,vs.toArray,_,hk,rfl,rfl,rfl,by rw[VH,lenV];exact hl,by simpa using rv⟩) (fun b u z=>by have z':(none:Option HO)=some u:=z;cases z') (fun b z=>absurd rfl z) fun z=>absurd rfl z
 |none=>
  refine core (fun b=>if b=a then some (.frz {cls:=.type "list",data:=.seq vs.toArray} (.lst (ns.map V.int))) else none) (fun b=>?_) (.inl (.inr ⟨{cls:=.type "list",data:=.seq vs.toArray},if_pos rfl⟩)) (fun b u z=>?_) (fun b z=>?_) fun _=>hk
  ·by_cases hb:b=a
   ·exact .inr ⟨_,_,if_pos hb⟩
   ·exact .inl (if_neg hb)
  ·by_cases hb:b=a
   ·have z':=(if_pos hb).symm.trans z;cases z';subst hb;exact⟨ha,by rw[VF];exact hl,vs,_,rv,ha⟩
   ·have z':=(if_neg hb).symm.trans z;cases z'
  ·by_cases hb:b=a
   ·exact hb
   ·exact absurd (if_neg hb) z
theorem walk_of{l:PySem.W.OpenLaw}{n k:Nat}{q:Program}{loose:List Str}{XP:(Str->Option Value)->Heap->Prop}{YP:World->Heap->Prop}{d:DefRec}{K:Params->Frag}{CX:World->CXT}{sp:World->Sp}{x:Str}
  (hn:l.most=some n) (hn2:n<=sizeLine) (hdf:d.params.defaults=[]) (hr:Room k callerA)
  (hY:∀(w:World) (h:Heap),YP w h->(K w.params).In h)
  (F:∀(w:World) (mg:Str->Option Value) (fa:Addr) (h:Heap),(K w.params).In h->h.Ns mainGlobals mg->mg d.name=some (.ref fa)->
   ∃fd:FuncData,(∀(s:Shared) (u:Value),BindsTo s fd ⟨[u],[]⟩ [(x,u)])/\
    ∀base:Heap,(K w.params).In base->base.Ns mainGlobals mg->FnOk l.prog w (K w.params) mg base (CX w) k fa fd [x] (sp w))
  (hsp:∀(w:World) (H:Hp) (a:Addr) (ns:List Int),ns.length<=n->zP H->SqL (K w.params) H a (ns.map V.int)->sp w [.ref a] H (fun v _=>v=.bl true) fun _ _ _=>False)
  (hCX:∀(w:World) (H:Hp) (s:Shared) (e:Value) (s':Shared),CX w [] H s (fun _ _ _=>False) e s'->False):
  PySem.W.WalkO q loose XP YP l.row.toRowW d [] (fun f vs=>PySem.call f vs):=by
 refine Att.attach_call hn hdf fun w Z2 ZU mg mb fa o pm cd doc a vs ns G Y ho hd hcd hmg hobj hints hlen hg=>?_;have KX:=hY w _ Y;obtain⟨fd,hb,hF⟩:=F w mg fa _ KX G.T.g hmg;exact(Pk KX G.T.g G.T.b G.T.builtins G.T.nolimit hg hobj hints (V0 hlen hn2) hr hF hb (fun H hO hS=>hsp w H a ns hlen hO hS) fun H e s'=>hCX w H ZU e s')
def qU(s:Stmt)(j:Nat):Stmt:=match s with
 | .ClassDef _ _ _ body _ _ _ _ _ _ _=>body.getD j (.Pass ⟨0,0,0,0⟩)
 |_=>.Pass ⟨0,0,0,0⟩
def qg(s:Stmt):Arguments:=match s with
 | .FunctionDef _ a _ _ _ _ _ _ _ _=>a
 |_=>{posonlyargs:=[],args:=[],vararg:=none,kwonlyargs:=[],kw_defaults:=[],kwarg:=none,defaults:=[]}
def qf(s:Stmt):List Stmt:=match s with
 | .FunctionDef _ _ b _ _ _ _ _ _ _=>b
 |_=>[]
def pN(s:Stmt):Scope:=match s with
 | .FunctionDef _ _ _ _ _ _ sc _ _ _=>sc
 |_=>{kind:=.function,names:=[],isGenerator:=false,isCoroutine:=false}
abbrev CX0:CXT:=fun _ _ _ _ _ _=>False
abbrev E0:XK:=fun _ _ _=>False
def Bn{X:Cx}:wF CX0 X E0:=fun _ _ _ _ _ _ _ h=>h.elim
structure Fun (K:Frag) (x qual:Str) (st:Stmt) (f:Addr) (fd:FuncData):Prop where
 ex:∃(oc:Value) (od:Option Addr) (kV doc pm:Value) (an:Option Addr) (cdv ct:Value) (osl:Array (Option Value)),
  fd=fnOf x qual (qg st) (qf st) (pN st) .none kV doc pm an cdv ct/\K.lookup f=some ⟨oc,od,.func fd,osl⟩/\codeIn K cdv qual=true
 kp:keepIn K (.ref f)=true
section
variable {P:Program} {w:World} {K:Frag} {mg:Str->Option Value} {base:Heap}
theorem Fun.ok{x qual:Str}{st:Stmt}{f:Addr}{fd:FuncData}{N ps:List Str}{k:Nat}{sp:Sp}(F:Fun K x qual st f fd)(S:FnScope N ps (pN st))(len:∀vs H Q E,sp vs H Q E->vs.length=ps.length)
  (hbody:∀(cdv:Value) (A:Around) (outer:List Env) (s:Shared) (H:Hp) (vs:List V) (Q:VK) (E:XK),Room k (A.deeper (envOfC qual (pN st) s.heap.objs.size f cdv))->sp vs H Q E->
   ∃t,PSs (qh CX0 P w K mg base N qual (pN st) f cdv A outer s H E).nox (qf st) t/\t {nx:=fun _ H'=>Q .non H',rt:=Q} (uA N vs) H):FnOk P w K mg base CX0 (k+1) f fd ps sp:=by
 obtain⟨oc,od,kV,doc,pm,an,cdv,ct,osl,rfl,lk,hcd⟩:=F.ex;refine(Gk lk hcd S len fun A outer s H vs Q E hr hsp=>?_);obtain⟨t,h,q⟩:=hbody cdv A outer s H vs Q E hr hsp;exact(⟨t,h.nox,q⟩)
theorem Fun.binds{x qual:Str}{st:Stmt}{f:Addr}{fd:FuncData}{ps:List Str}(F:Fun K x qual st f fd)
  (h:∀(kV doc pm:Value) (an:Option Addr) (cdv ct:Value) (us:List Value),us.length=ps.length->bindArgs (fnOf x qual (qg st) (qf st) (pN st) .none kV doc pm an cdv ct) ⟨us,[]⟩=pure (ps.zip us)):Binds K fd ps []:=by
 obtain⟨oc,od,kV,doc,pm,an,cdv,ct,osl,rfl,lk,hcd⟩:=F.ex;exact(.all (h kV doc pm an cdv ct))
theorem qk{x qual:Str}{st:Stmt}{f:Addr}{oc:Value}{od an:Option Addr}{osl:Array (Option Value)}{kV doc pm cdv ct:Value}(l:K.lookup f=some ⟨oc,od,.func (fnOf x qual (qg st) (qf st) (pN st) .none kV doc pm an cdv ct),osl⟩)
  (c:codeIn K cdv qual=true) (k:keepIn K (.ref f)=true):Fun K x qual st f (fnOf x qual (qg st) (qf st) (pN st) .none kV doc pm an cdv ct):=⟨⟨oc,od,kV,doc,pm,an,cdv,ct,osl,rfl,l,c⟩,k⟩
end
section
variable {X:Cx}
theorem pv(i:Nat){x:Str}{pos:Pos}(hN:X.N[i]?=some x:=by rfl)(hv:Vis X.env.scope x:=by first|exact Or.inl rfl|exact Or.inr (Or.inl rfl)|exact Or.inr (Or.inr rfl))(hd:(x==("__debug__":Str))=false:=by decide)
  (hcd:(x==("__classdict__":Str))=false:=by decide):PE X (.Name x pos) (GO i):=Ij hN hv hd hcd
end
def DT{A Z7:Prop}(h:Z7):if false=true then A else Z7:=by
 rw[if_neg Wy];exact h
def C4{A Z7:Prop}(h:A):if true=true then A else Z7:=by
 rw[if_pos rfl];exact h
def vD{c A Z7:Prop} [Decidable c](h1:c->A)(h2:¬c->Z7):if c then A else Z7:=by
 by_cases h:c
 ·rw[if_pos h];exact h1 h
 ·rw[if_neg h];exact h2 h
section
variable {κ:Type} [DecidableEq κ]
end
end L2
namespace Tim
open PySem PyProof.Rows
def z7(p:Keyed):Prop:=∃n t,p.1=.int n t/\p.2=p.1
end Tim
namespace L2
open PySem PySem.Spec PyProof.Rows
def pR(X:Cx)(N':List Str)(scope:Scope)(cl:List (Str×Addr))(C:Addr)(Z2:Shared)(Z0:Hp)(ex:List Addr):Cx:=
 {X with N:=N',Z2:=Z2,Z0:=Z0,env:=compEnvC scope cl C X.env,outer:=X.stack,ex:=ex,fn:=fun x=>scope.names.lookup x==some NameKind.cell,pn:=[]}
theorem Bz{env:Env}:∀(names:List (Str×NameKind)) (acc:List (Str×Addr)),(∀y∈names,y.2=.free->∃c,env.cells.lookup y.1=some c)->
  (∀y c,acc.lookup y=some c->env.cells.lookup y=some c)->
  ∃cl,(forIn names acc fun x r=>if(x.2==NameKind.free)=true then do let c ←cellOf env x.1;pure (ForInStep.yield ((x.1,c)::r)) else pure (ForInStep.yield r):Sem (List (Str×Addr)))=pure cl/\
   (∀y c,cl.lookup y=some c->env.cells.lookup y=some c)/\(∀y,(y,NameKind.free)∈names->∃c,cl.lookup y=some c)/\∀y c,acc.lookup y=some c->∃c',cl.lookup y=some c'
 | [],acc,_,ha=>⟨acc,by simp,ha,fun _ h=>by simp at h,fun y c h=>⟨c,h⟩⟩
 |(n,k)::r,acc,h,ha=>by
  by_cases hk:k=.free
  ·subst hk;obtain⟨c,hc⟩:=h (n,.free) List.mem_cons_self rfl;have e:cellOf env n=pure c:=by unfold cellOf;rw[hc]
   obtain⟨cl,e1,h1,h2,h3⟩:=Bz r ((n,c)::acc) (fun y hy=>h y (V3 _ hy)) (fun y d hd=>by
    rw[VS] at hd;split at hd
    ·rename_i hb;have:y=n:=by simpa using hb
     subst this;cases hd;exact hc
    ·exact ha y d hd)
   refine⟨cl,?_,h1,fun y hy=>?_,fun y d hd=>?_⟩
   ·rw[List.forIn_cons,e];simpa using e1
   ·rcases VI.mp hy with z|z
    ·cases z;exact h3 n c (by simp[VS])
    ·exact h2 y z
   ·by_cases hy:y=n
    ·subst hy;exact h3 y c (by simp[VS])
    ·have hb:(y==n)=false:=by simpa using hy
     exact h3 y d (by simp only[VS,hb];exact hd)
  ·have hb:(k==NameKind.free)=false:=by simpa using hk
   obtain⟨cl,e1,h1,h2,h3⟩:=Bz r acc (fun y hy=>h y (V3 _ hy)) ha;refine(⟨cl,?_,h1,fun y hy=>?_,h3⟩)
   ·rw[List.forIn_cons];simpa[hb] using e1
   ·rcases VI.mp hy with z|z
    ·cases z;exact absurd rfl hk
    ·exact h2 y z
theorem zd{scope:Scope}{env:Env}(h:∀y∈scope.names,y.2=.free->∃c,env.cells.lookup y.1=some c):
  ∃cl,closureFor scope env=pure cl/\(∀y c,cl.lookup y=some c->env.cells.lookup y=some c)/\∀y,(y,NameKind.free)∈scope.names->∃c,cl.lookup y=some c:=by
 obtain⟨cl,e,h1,h2,_⟩:=Bz (env:=env) scope.names [] h (fun _ _ z=>by simp at z);refine(⟨cl,?_,h1,h2⟩);unfold closureFor;show((forIn scope.names [] fun x r=>if(x.2==NameKind.free)=true then do let c ←cellOf env x.1;pure (ForInStep.yield ((x.1,c)::r)) else pure (ForInStep.yield r):Sem (List (Str×Addr))) >>= fun cs=>pure cs)=pure cl;rw[e];rfl
section
variable {prog:Program} {w:World} {A:Around} {R:Result->Shared->Prop} {s:Shared}
theorem Ut{elt target iter:Expr}{ifs:List Expr}{scope:Scope}{pos:Pos}{it acc:Value}{env:Env}(I:Nat->Shared->Prop)
  (turn:∀n s,I n s->wpAny (model prog w) A (pyNext it) (fun r ZU=>match r with
   |none=>R (.ok .next) ZU
   |some v=>wpAny (model prog w) A (letOwnedTupleGo target it v) (fun _ ZA=>wpAny (model prog w) A (assign target env v) (fun _ ZJ=>
     wpAny (model prog w) A (forIn ifs true fun c r=>if r=true then do let ok ←isTrue c env (eval c env);pure (ForInStep.yield ok) else pure (ForInStep.yield r)) (fun ok ZL=>
      if ok=true then wpAny (model prog w) A (eval elt env) (fun x ZG=>
       wpAny (model prog w) A (call (.builtin "list.append") [acc,x]) (fun _ ZD=>∃m,m<n/\I m ZD) (fun _ _=>False) ZG) (fun _ _=>False) ZL
      else ∃m,m<n/\I m ZL) (fun _ _=>False) ZJ) (fun _ _=>False) ZA) (fun _ _=>False) ZU) (fun _ _=>False) s)
  (n:Nat) (h:I n s):codeAny (model prog w) A (.compLoop (.ListComp elt [⟨target,iter,ifs,0⟩] scope pos) 0 it acc env) R s:=by
 refine codeAny_loop rfl I (fun n s hI=>?_) n h;show wpAny _ A ((compTurn (.ListComp elt [⟨target,iter,ifs,0⟩] scope pos) 0 it acc env).onRaise (fun x=>do noteFrame x env;theTreesLotGoes x)) _ _ s;refine wpAny_noted ?_;rw[compTurn_list];refine Vz (E:=fun _ _=>False) ?_ (fun _ _ x=>x) fun _ _ x=>x.elim;refine Vt (WE (Vt (Vz (turn n s hI) (fun r ZU ZQ=>?_) fun _ _ h'=>h')));cases r with
 |none=>exact Vx ZQ
 |some v=>
  refine Vt (Vz ZQ (fun _ ZA Zu=>?_) fun _ _ h'=>h');refine Vt (Vz Zu (fun _ ZJ ZB=>Vt (Vz ZB (fun ok ZL ZE=>?_) fun _ _ h'=>h')) fun _ _ h'=>h');cases ok with
  |false=>exact Vx ⟨rfl,ZE⟩
  |true=>
   exact Vt (Vt (Vz ZE (fun x ZG Zt=>Vt (Vz Zt (fun _ ZD Zs=>Vx (Vx ⟨rfl,Zs⟩)) fun _ _ h'=>h')) fun _ _ h'=>h'))
end
theorem Ew{env:Env}{x:Str}:∀{names:List (Str×NameKind)},names.lookup x=some .free->
  (names.map fun(n,k)=>if(k==NameKind.free&&env.scope.kind==.function&&env.kindOf n==some .cell) then(n,NameKind.cell) else(n,k)).lookup x=some .free\/
  (names.map fun(n,k)=>if(k==NameKind.free&&env.scope.kind==.function&&env.kindOf n==some .cell) then(n,NameKind.cell) else(n,k)).lookup x=some .cell
 | [],h=>by simp at h
 |(n,k)::r,h=>by
  have ih:=@Ew env x r;show List.lookup x ((if(k==NameKind.free&&env.scope.kind==.function&&env.kindOf n==some .cell)=true then(n,NameKind.cell) else(n,k))::_)=_\/List.lookup x ((if(k==NameKind.free&&env.scope.kind==.function&&env.kindOf n==some .cell)=true then(n,NameKind.cell) else(n,k))::_)=_;cases hx:x==n with
  |true=>
   simp only[VS,hx] at h;cases h;by_cases hc:(NameKind.free==NameKind.free&&env.scope.kind==.function&&env.kindOf n==some .cell)=true
   ·rw[if_pos hc];exact .inr (by simp[VS,hx])
   ·rw[if_neg hc];exact .inl (by simp[VS,hx])
  |false=>
   simp only[VS,hx] at h;by_cases hc:(k==NameKind.free&&env.scope.kind==.function&&env.kindOf n==some .cell)=true
   ·rw[if_pos hc];simp only[VS,hx];exact ih h
   ·rw[if_neg hc];simp only[VS,hx];exact ih h
theorem K6{env:Env}{x:Str}:∀{names:List (Str×NameKind)},
  ((names.map fun(n,k)=>if(k==NameKind.free&&env.scope.kind==.function&&env.kindOf n==some .cell) then(n,NameKind.cell) else(n,k)).lookup x=some .cell\/
   (names.map fun(n,k)=>if(k==NameKind.free&&env.scope.kind==.function&&env.kindOf n==some .cell) then(n,NameKind.cell) else(n,k)).lookup x=some .free)->names.lookup x=some .free\/names.lookup x=some .cell
 | [],h=>by simp at h
 |(n,k)::r,h=>by
  have ih:=@K6 env x r;have h:List.lookup x ((if(k==NameKind.free&&env.scope.kind==.function&&env.kindOf n==some .cell)=true then(n,NameKind.cell) else(n,k))::(r.map fun(n,k)=>if(k==NameKind.free&&env.scope.kind==.function&&env.kindOf n==some .cell) then(n,NameKind.cell) else(n,k)))=some .cell\/
   List.lookup x ((if(k==NameKind.free&&env.scope.kind==.function&&env.kindOf n==some .cell)=true then(n,NameKind.cell) else(n,k))::(r.map fun(n,k)=>if(k==NameKind.free&&env.scope.kind==.function&&env.kindOf n==some .cell) then(n,NameKind.cell) else(n,k)))=some .free:=h
  cases hx:x==n with
  |true=>
   by_cases hc:(k==NameKind.free&&env.scope.kind==.function&&env.kindOf n==some .cell)=true
   ·have:k=.free:=by
     have z:=(Bool.and_eq_true_iff.mp (Bool.and_eq_true_iff.mp hc).1).1;simpa using z
    subst this;exact .inl (by simp[VS,hx])
   ·rw[if_neg hc] at h;simp only[VS,hx] at h⊢;exact h.symm
  |false=>
   have:∀p:NameKind,List.lookup x ((if(k==NameKind.free&&env.scope.kind==.function&&env.kindOf n==some .cell)=true then(n,NameKind.cell) else(n,k))::(r.map fun(n,k)=>if(k==NameKind.free&&env.scope.kind==.function&&env.kindOf n==some .cell) then(n,NameKind.cell) else(n,k)))=some p↔(r.map fun(n,k)=>if(k==NameKind.free&&env.scope.kind==.function&&env.kindOf n==some .cell) then(n,NameKind.cell) else(n,k)).lookup x=some p:=fun p=>by
    by_cases hc:(k==NameKind.free&&env.scope.kind==.function&&env.kindOf n==some .cell)=true
    ·rw[if_pos hc];simp only[VS,hx]
    ·rw[if_neg hc];simp only[VS,hx]
   rw[this .cell,this .free] at h;have:=ih h;simp only[VS,hx];exact this
theorem t9:∀(names:List (Str×NameKind)) (n:Nat) (acc:List (Str×Addr)),cellsFrom n names acc=cellsFrom n names []++acc
 | [],_,_=>rfl
 |(name,kind)::r,n,acc=>by
  unfold cellsFrom;split
  ·rw[t9 r (n+1) ((name,n)::acc),t9 r (n+1) [(name,n)],List.append_assoc];rfl
  ·exact t9 r n acc
theorem CC{x:Str}{c:Addr}:∀(names:List (Str×NameKind)) (n:Nat) (acc:List (Str×Addr)),(x,c)∈cellsFrom n names acc->(x,NameKind.cell)∈names\/(x,c)∈acc
 | [],_,_,h=>.inr h
 |(name,kind)::r,n,acc,h=>by
  unfold cellsFrom at h;split at h
  ·rename_i hk;have hk':kind=.cell:=by simpa using hk
   rcases CC r (n+1) _ h with z|z
   ·exact .inl (V3 _ z)
   ·rcases VI.mp z with z|z
    ·cases z;rw[hk'];exact .inl List.mem_cons_self
    ·exact .inr z
  ·rcases CC r n acc h with z|z
   ·exact .inl (V3 _ z)
   ·exact .inr z
structure CompScope (X:Cx) (N' own:List Str) (cap:List (Str×Nat)) (scope:Scope):Prop where
 kind:scope.kind=.function
 own1:∀y∈scope.names,y.2=.cell->scope.names.lookup y.1=some .cell
 free1:∀y∈scope.names,y.2=.free->scope.names.lookup y.1=some .free
 names:∀y∈scope.names,y.2=.local->scope.names.lookup y.1=some .local
 free:∀y∈scope.names,y.2=.free->X.env.kindOf y.1=some .cell\/X.env.kindOf y.1=some .free
 eq:N'=own++cap.map (·.1)
 cap:∀p∈cap,X.N[p.2]?=some p.1/\scope.names.lookup p.1=some .free/\(X.env.kindOf p.1=some .cell\/X.env.kindOf p.1=some .free)
def rD(own:List Str)(cap:List (Str×Nat))(B:St):St:=own.map (fun _=>none)++cap.map fun p=>(B[p.2]?).join
section
variable {X:Cx} {pins:QS} {B:St} {H:Hp} {s:Shared} {N' own:List Str} {cap:List (Str×Nat)} {scope:Scope} {cl:List (Str×Addr)} {fp:List Addr}
structure CellsAre (X:Cx) (scope:Scope) (C:Addr) (cl cs:List (Str×Addr)):Prop where
 old:∀y c,cs.lookup y=some c->(cl.lookup y=some c/\scope.names.lookup y≠some .cell)\/(C<c/\scope.names.lookup y=some .cell)
 free:∀y c,cl.lookup y=some c->scope.names.lookup y≠some .cell->cs.lookup y=some c
 has:∀y,scope.names.lookup y=some .cell->∃c,cs.lookup y=some c
 inj:∀x y c,C<c->cs.lookup x=some c->cs.lookup y=some c->x=y
theorem vG{J:Type}{x:Str}:∀{l r:List (Str×J)},(l++r).lookup x=(l.lookup x).or (r.lookup x)
 | [],r=>by simp
 |(k,v)::l,r=>by
  have ih:=@vG J x l r;rw[List.cons_append,VS,VS];cases x==k with
  |true=>rfl
  |false=>exact ih
theorem DP{h:Heap}{C:Addr}(hC:h.objs.size=C+1)(S:CompScope X N' own cap scope)(hcl:∀y c,cl.lookup y=some c->¬C<c):CellsAre X scope C cl (cellsFrom (C+1) scope.names cl):=by
 have ok:=cellsFrom_ok scope.names h (C+1) [] ⟨fun _ _ hm=>(nomatch hm),List.Pairwise.nil⟩ (by rw[hC];exact Vv _);rw[hC] at ok;have own:∀y c,(cellsFrom (C+1) scope.names []).lookup y=some c->C<c/\scope.names.lookup y=some .cell:=fun y c e=>by
  have m:=V2 e;refine⟨(ok.empty y c m).2,?_⟩;rcases CC _ _ _ m with z|z
  ·exact S.own1 _ z rfl
  ·simp at z
 have no:∀y,scope.names.lookup y≠some .cell->(cellsFrom (C+1) scope.names []).lookup y=none:=fun y hy=>by
  cases e:(cellsFrom (C+1) scope.names []).lookup y with
  |none=>rfl
  |some c=>exact absurd (own y c e).2 hy
 have has:∀y,scope.names.lookup y=some .cell->∃c,(cellsFrom (C+1) scope.names []).lookup y=some c:=fun y hy=>Wf.mp (PySem.W.cellsFrom_some scope.names (C+1) [] (.inl hy));refine⟨fun y c e=>?_,fun y c e hy=>?_,fun y hy=>?_,fun x y c hc e1 e2=>?_⟩
 ·rw[t9,vG] at e;cases q:(cellsFrom (C+1) scope.names []).lookup y with
  |none=>
   rw[q] at e;refine .inl ⟨e,fun z=>?_⟩;obtain⟨c',e'⟩:=has y z;rw[q] at e';cases e'
  |some c'=>
   rw[q] at e;have:c'=c:=VP e;subst this;exact .inr (own y c' q)
 ·rw[t9,vG,no y hy];exact e
 ·obtain⟨c,e⟩:=has y hy;exact⟨c,by rw[t9,vG,e];rfl⟩
 ·have Cs:∀z,(cellsFrom (C+1) scope.names cl).lookup z=some c->(z,c)∈cellsFrom (C+1) scope.names []:=fun z e=>by
   rw[t9,vG] at e;cases q:(cellsFrom (C+1) scope.names []).lookup z with
   |none=>rw[q] at e;exact absurd hc (hcl z c e)
   |some c'=>
    rw[q] at e;have:c'=c:=VP e;subst this;exact V2 q
  exact PySem.name_of_addr ok.apart (Cs x e1) (Cs y e2)
theorem L1(I:Inv X pins B H s)(S:CompScope X N' own cap scope){cs:List (Str×Addr)}(A:CellsAre X scope s.heap.objs.size cl cs)(c1:∀y c,cl.lookup y=some c->X.env.cells.lookup y=some c)(c2:∀y,(y,NameKind.free)∈scope.names->∃c,cl.lookup y=some c)
  (hf:∀b∈fp,qK X pins H b) (hlt:∀b∈fp,b<s.heap.objs.size):(pR X N' scope cs s.heap.objs.size s H fp).Ok where
 mod:=I.ok.mod
 kind:=S.kind
 glob:=I.ok.glob
 blt:=I.ok.blt
 above:=Vv _
 inj:=fun x y c h1 h2=>by
  rcases A.old x c h1 with⟨a1,_⟩|⟨a1,_⟩
  ·rcases A.old y c h2 with⟨b1,_⟩|⟨b1,_⟩
   ·exact I.ok.inj x y c (c1 x c a1) (c1 y c b1)
   ·obtain⟨v,o,ho,_⟩:=I.cell x c (c1 x c a1);exact absurd (Nat.lt_trans b1 (Vy ho)) (V1 _)
  ·exact A.inj x y c a1 h1 h2
 has:=fun x h=>by
  rcases K6 h with z|z
  ·obtain⟨c,e⟩:=c2 x (V2 z);exact⟨c,A.free x c e (by rw[z];simp)⟩
  ·exact A.has x z
 cab:=fun x c h e=>by
  have h':scope.names.lookup x=some .cell:=by
   have:(scope.names.lookup x==some NameKind.cell)=true:=h;simpa using this
  rcases A.old x c e with⟨_,z⟩|⟨z,_⟩
  ·exact absurd h' z
  ·exact Nat.le_of_lt z
 hd:=I.ok.hd
 frames:=I.ok.frames
 stk:=.inl rfl
 exf:=fun b hb=>⟨VN (hlt b hb),fun x c h=>by
  rcases A.old x c h with⟨z,_⟩|⟨z,_⟩
  ·exact(hf b hb).2.2.2.2.1 x c (c1 x c z)
  ·exact fun e=>absurd (Nat.lt_trans (e▸z) (hlt b hb)) (V1 _)⟩
 bs:=I.bs
 bsz:=V0 I.ok.bsz I.sz
 noex:=fun b o e hb=>by
  rcases(hf b hb).2.2.2.1 with z|z
  ·exact I.ok.noex b o e z
  ·exact absurd (VM (Vy e) (V0 I.ok.bsz z)) (V1 _)
 exfs:=fun b hb z=>by
  rcases VI.mp (I.stkSub b z) with q|q
  ·exact(hf b hb).2.1 q
  ·exact(hf b hb).2.2.1 q
 funs:=I.stack
 frf:=I.stkFree
theorem comp_inv{h':Heap}{t':Nat}{cs:List (Str×Addr)}(I:Inv X pins B H s)(S:CompScope X N' own cap scope)(A:CellsAre X scope s.heap.objs.size cl cs)(hA:∀y c,cs.lookup y=some c->s.heap.objs.size<c->h'.IsCell c none)
  (c1:∀y c,cl.lookup y=some c->X.env.cells.lookup y=some c) (c2:∀y,(y,NameKind.free)∈scope.names->∃c,cl.lookup y=some c)
  (hf:∀b∈fp,qK X pins H b) (hlt:∀b∈fp,b<s.heap.objs.size) (hk:∀b o,s.heap.get? b=some o->h'.get? b=some o) {m:Str->Option Value} (hn:h'.Ns s.heap.objs.size m):
  Inv (pR X N' scope cs s.heap.objs.size s H fp) [] (rD own cap B) H {s with heap:=h',toks:=t'}:=by
 refine⟨L1 I S A c1 c2 hf hlt,rfl,I.bare,Un.kept hk,⟨m,hn,fun i x v h1 h2 h3=>?_⟩,fun x c e=>?_,I.hok.fresh (Vv _),fun x c e=>?_,fun p hp=>absurd hp (by show p∉([]++[]:QS);simp),?_,?_⟩
 ·have hi:own.length<=i:=by
   by_cases hi:own.length<=i
   ·exact hi
   ·unfold rD at h2;rw[VL (by rw[VF];omega),VR] at h2;cases e:own[i]? with
    |none=>rw[e] at h2;cases h2
    |some a=>rw[e] at h2;cases h2
  have h1':(own++cap.map (·.1))[i]?=some x:=by rw[←S.eq];exact h1
  rw[VV hi,VR] at h1';unfold rD at h2;rw[VV (by rw[VF];exact hi),VF,VR] at h2;cases e:cap[i - own.length]? with
  |none=>rw[e] at h2;cases h2
  |some p=>
   rw[e] at h1' h2;have ex:p.1=x:=VP h1';have ev:(B[p.2]?).join=some v:=VP h2;have ev':B[p.2]?=some (some v):=by
    cases q:B[p.2]? with
    |none=>rw[q] at ev;cases ev
    |some z=>rw[q] at ev;exact congrArg some ev
   obtain⟨k1,k2,k3⟩:=S.cap p (List.mem_of_getElem? e);subst ex;obtain⟨m0,hn0,hl⟩:=I.loc;obtain⟨u,ru,lk⟩:=hl p.2 p.1 v k1 ev' (by rcases k3 with z|z;exact .inr (.inl z);exact .inr (.inr z));refine(⟨u,ru,?_⟩);rcases lk with⟨z,_⟩|⟨_,c,hc,hcell⟩
   ·rcases k3 with q|q<;>(rw[z] at q;cases q)
   ·refine .inr ⟨?_,c,?_,?_⟩
    ·rcases Ew (env:=X.env) k2 with q|q
     ·exact .inr q
     ·exact .inl q
    ·obtain⟨c',e'⟩:=c2 p.1 (V2 k2);have:=c1 _ _ e';rw[hc] at this;cases this;exact A.free _ _ e' (by rw[k2];simp)
    ·obtain⟨o,ho,hd⟩:=hcell;exact⟨o,hk _ _ ho,hd⟩
 ·rcases A.old x c e with⟨z,_⟩|⟨z,_⟩
  ·obtain⟨v,o,ho,hd⟩:=I.cell x c (c1 x c z);exact⟨v,o,hk _ _ ho,hd⟩
  ·exact⟨none,hA x c e z⟩
 ·rcases A.old x c e with⟨z,_⟩|⟨z,_⟩
  ·exact I.freeC x c (c1 x c z)
  ·exact I.hok.fresh (Nat.le_of_lt z)
 ·exact I.hok.kept hk
 ·show(rD own cap B).length=N'.length;rw[S.eq];unfold rD;simp
end
def PIf(X:Cx)(ifs:List Expr)(t:TT):Prop:=
 ∀(pins:QS) (s:Shared) (B:St) (H:Hp) (Q:Bool->Hp->Prop),Inv X pins B H s->t B H Q->
  wpAny (model X.prog X.w) X.A (forIn ifs true fun c r=>if r=true then do let ok ←isTrue c X.env (eval c X.env);pure (ForInStep.yield ok) else pure (ForInStep.yield r)) (TP X pins B Q) X.xe s
def PR:TT:=fun _ H Q=>Q true H
def LS{X:Cx}:PIf X [] PR:=fun _ _ _ H _ I h=>wpAny_tests_nil ⟨H,I,h⟩
def QT{X:Cx}{c:Expr}{t:TT}(h:PT X c t):PIf X [c] t:=fun pins s B H Q I hw=>wpAny_tests_one (h pins s B H Q I hw)
theorem BP{M:Model}{A:Around}{E:OK}{s:Shared}{scope:Scope}{globals:Addr}{cl:List (Str×Addr)}{qual:Str}{env:Env}{Q:Env->Shared->Prop}
  (hQ:∀h',h'.Ns s.heap.objs.size (fun _=>none)->(∀b o,s.heap.get? b=some o->h'.get? b=some o)->(∀n c,(n,c)∈cellsFrom (s.heap.objs.size+1) scope.names []->h'.IsCell c none)->
   Q (newEnv scope s.heap.objs.size globals (cellsFrom (s.heap.objs.size+1) scope.names cl) qual none .none (some env) builtinsNs) {s with heap:=h'}):
  wpAny M A (newFunctionEnv scope globals cl [] qual none .none (some env)) Q E s:=by
 simp only[newFunctionEnv,WA,if_true];refine Vt (wpAny_alloc ?_);refine Vt (wpAny_layCells _ (fun name kind cells=>by cases hkc:kind==NameKind.cell<;>simp[hkc]) _ _ _ _ ?_);have ok:=cellsFrom_ok scope.names (s.heap.push {cls:=.type "dict",data:=.dict #[]}) (s.heap.objs.size+1) [] ⟨fun _ _ hm=>(nomatch hm),List.Pairwise.nil⟩ (by rw[Wi];exact Vv _);rw[Wi] at ok;rw[show({s with heap:=s.heap.push {cls:=.type "dict",data:=.dict #[]}}:Shared).heap.objs.size=s.heap.objs.size+1 from Wi ..];rw[List.forIn_nil];refine Vt (Vx (Vx ?_));exact hQ _ ((Heap.Ns.new s.heap (.type "dict")).keeps (pushCells_keeps _ _)) (fun b o e=>pushCells_keeps _ _ b o (Vu _ e)) fun n c hm=>(ok.empty n c hm).1
def yS(Z6:It)(g:TG)(tc:TT)(te:TE)(D:Addr)(ZM:St)(H0:Hp)(Z:Hp->Prop):Prop:=
 ∃W:Nat->Nat->St->Hp->Prop,(∃m,W 0 m ZM (upd H0 D (.lst [])))/\∀i m B H,W i m B H->
  (Z6.stop i H/\Z H)\/(Z6.go i H/\∃N:St->Hp->Prop,(∀ZZ H',N ZZ H'->∃m',m'<m/\W (i+1) m' ZZ H')/\∀x H',Z6.yld i H x H'->g x B H' fun ZW H2=>tc ZW H2 fun b H3=>
   if b=true then te ZW H3 fun v H4=>∃ys,H4 D=some (.lst ys)/\ys.length<sizeLine/\N ZW (upd H4 D (.lst (ys++[v]))) else N ZW H3)
section
variable {X:Cx} {pins:QS} {B:St} {N' own:List Str} {cap:List (Str×Nat)} {scope:Scope} {tg iter elt:Expr} {ifs:List Expr} {pos:Pos} {g:TG} {tc:TT} {te:TE}
theorem RM{Y:Cx}{s:Shared}{ZM:St}{H2:Hp}{it D:Addr}{fp:List Addr}{tn:Nat->Heap->Prop}{Z6:It}{Z:Hp->Prop}{R:Result->Shared->Prop}
  (hx:∀e s,Y.xe e s->False) (hc:Y.calm=true) (hg:PG Y tg g) (ht:PIf Y ifs tc) (he:PE Y elt te)
  (T:Turn Y.prog Y.w Y.K tg Z6 fp it tn) (J0:Inv Y [] ZM (upd H2 D (.lst [])) s) (st3:tn 0 s.heap) (f3:∀b∈fp,upd H2 D (.lst []) b=none)
  (stat:∀{H':Hp},(∀b∈fp,H' b=none)->∀b∈fp,qK Y [] H' b) (h:yS Z6 g tc te D ZM H2 Z)
  (hR:∀ZP H4 s5,Inv Y [] ZP H4 s5->Z H4->R (.ok .next) s5):
  codeAny (model Y.prog Y.w) Y.A (.compLoop (.ListComp elt [⟨tg,iter,ifs,0⟩] scope pos) 0 (.ref it) (.ref D) Y.env) R s:=by
 obtain⟨W,⟨m0,w0⟩,turn⟩:=h;have noX:∀{J:Type} {t:Sem J} {Q:J->Shared->Prop} {s:Shared},wpAny (model Y.prog Y.w) Y.A t Q Y.xe s->wpAny (model Y.prog Y.w) Y.A t Q (fun _ _=>False) s:=fun q=>Vz q (fun _ _ z=>z) fun e s z=>hx e s z;obtain⟨P,hP⟩:∃P:Nat->Shared->Prop,∀n s',P n s'↔∃i ZZ H',Inv Y [] ZZ H' s'/\tn i s'.heap/\(∀b∈fp,H' b=none)/\W i n ZZ H':=⟨_,fun _ _=>Iff.rfl⟩
 refine Ut P ?_ m0 ((hP _ _).2 ⟨0,_,_,J0,st3,f3,w0⟩);rintro n s4 h4;obtain⟨i,ZP,H4,I4,st4,fr4,w4⟩:=(hP _ _).1 h4;rcases turn i n ZP H4 w4 with⟨stop,qz⟩|⟨go,N,hN,step⟩
 ·refine Vz (T.done Y rfl rfl rfl hc i [] s4 ZP H4 (fun _ _=>False) I4 (stat fr4) st4 stop) (fun r s5 ⟨hr,I5⟩=>?_) fun _ _ z=>z;subst hr;exact hR ZP H4 s5 I5 qz
 ·refine Vz (T.item Y rfl rfl rfl hc i [] s4 ZP H4 (fun _ _=>False) I4 (stat fr4) st4 go) (fun r s5 ⟨u,hr,h5⟩=>?_) fun _ _ z=>z;subst hr;refine Vz h5 (fun _ s6 hm=>?_) fun _ _ z=>z;obtain⟨x,H6,I6,r6,y6,st6,fr6⟩:=hm;have I6':=I6.pinned (stat fr6) (T.obj _ _ st6);have again:∀{ZS:St} {H7:Hp} {s7:Shared},Inv Y ([]++vd fp s6.heap) ZS H7 s7->N ZS H7->∃m,m<n/\P m s7:=fun{ZS H7 s7} I7 n7=>by
   obtain⟨m',hm,w7⟩:=hN ZS H7 n7;refine(⟨m',hm,(hP _ _).2 ⟨i+1,ZS,H7,I7.unpinned,T.keep _ _ _ st6 fun b hb o e=>(I7.pin (b,o) (VE _ (VE _ (uu hb e)))).1,fun b hb=>?_,w7⟩⟩);obtain⟨o,e,d⟩:=T.obj _ _ st6 b hb;exact((I7.pin (b,o) (VE _ (VE _ (uu hb e)))).2.1)
  refine noX (thn (hg _ s6 ZP H6 x u _ I6' r6 (step x H6 y6)) fun _ s7 hm=>?_);obtain⟨ZS,H7,I7,q7⟩:=hm;refine(noX (thn (ht _ s7 ZS H7 _ I7 q7) fun b s8 hm=>?_));obtain⟨H8,I8,q8⟩:=hm;cases b with
  |false=>
   show ∃m,_;exact again I8 q8
  |true=>
   show wpAny _ _ _ _ _ _;refine noX (thn (he _ s8 ZS H8 _ I8 q8) fun y s9 hm=>?_);obtain⟨v,H9,I9,r9,ys,hy,hz,q9⟩:=hm;refine(noX (thn (CB (X:=Y) _ s9 ZS H9 (.ref D) [v] (.ref D) [y] (fun _ H'=>N ZS H') I9 rfl (.cons r9 .nil) ⟨_,ys,v,rfl,rfl,hy,hz,q9⟩) fun _ s10 hm=>?_));obtain⟨_,H10,I10,_,q10⟩:=hm;exact(again I10 q10)
theorem Ha{s2:Shared}{H2:Hp}{it:Addr}{fp:List Addr}{tn:Nat->Heap->Prop}{Z6:It}{cl:List (Str×Addr)}{Z:Addr->Hp->Prop}{RR:Value->Addr->Result->Shared->Prop}{E:OK}
  (hx:∀e s,X.xe e s->False) (hc:X.calm=true) (S:CompScope X N' own cap scope)
  (hg:∀cl C Z2 Z0 ex,PG (pR X N' scope cl C Z2 Z0 ex) tg g) (ht:∀cl C Z2 Z0 ex,PIf (pR X N' scope cl C Z2 Z0 ex) ifs tc) (he:∀cl C Z2 Z0 ex,PE (pR X N' scope cl C Z2 Z0 ex) elt te)
  (I2:Inv X pins B H2 s2) (T:Turn X.prog X.w X.K tg Z6 fp it tn) (st2:tn 0 s2.heap) (f2:∀b∈fp,qK X pins H2 b)
  (c1:∀y c,cl.lookup y=some c->X.env.cells.lookup y=some c) (c2:∀y,(y,NameKind.free)∈scope.names->∃c,cl.lookup y=some c)
  (h:∀D,H2 D=none->yS Z6 g tc te D (rD own cap B) H2 (Z D))
  (hRR:∀D C s' m' H',Inv X pins B H' s'->s'.heap.Ns C m'->qK X pins H' C->Z D H'->RR (.ref D) C (.ok .next) s'):
  wpAny (model X.prog X.w) X.A (newList []) (fun acc ZL=>wpAny (model X.prog X.w) X.A (newFunctionEnv scope X.env.globals cl [] X.env.qual none .none (some X.env)) (fun cenv ZG=>
   codeAny (model X.prog X.w) X.A (.compStart (.ListComp elt [⟨tg,iter,ifs,0⟩] scope pos) 0 (.ref it) acc {cenv with scope:=relabel scope X.env}) (RR acc cenv.locals) ZG) E ZL) E s2:=by
 have hlt:∀b∈fp,b<s2.heap.objs.size:=fun b hb=>by
  obtain⟨o,e,_⟩:=T.obj _ _ st2 b hb;exact(Vy e)
 have hD:H2 s2.heap.objs.size=none:=I2.hok.fresh (Vv _);refine Wg (BP (fun ZQ Zz Zy Zx=>?_));dsimp only at Zz Zy Zx⊢;have I3:Inv X pins B (upd H2 s2.heap.objs.size (.lst [])) {s2 with heap:=s2.heap.push {cls:=.type "list",dict:=none,data:=.seq ([]:List Value).toArray},toks:=s2.toks}:=
  I2.laid (fun b o e=>Vu _ e) (Vv _) ⟨Wm _,[],0,.nil,VC _ rfl⟩
 generalize hs3:({s2 with heap:=s2.heap.push {cls:=.type "list",dict:=none,data:=.seq ([]:List Value).toArray},toks:=s2.toks}:Shared)=s3 at I3;have e3:s2.heap.push {cls:=.type "list",dict:=none,data:=.seq ([]:List Value).toArray}=s3.heap:=by rw[←hs3]
 have hsz:s3.heap.objs.size=s2.heap.objs.size+1:=by rw[←e3,Wi]
 rw[e3] at Zz Zy Zx⊢;have hk:=Zy;have hcl:∀y c,cl.lookup y=some c->¬s3.heap.objs.size<c:=fun y c e z=>by
  obtain⟨v,o,ho,_⟩:=I3.cell y c (c1 y c e);exact(V1 _ (Nat.lt_trans z (Vy ho)))
 have CA:CellsAre X scope s3.heap.objs.size cl (cellsFrom (s3.heap.objs.size+1) scope.names cl):=DP (h:=s3.heap.push {cls:=.type "dict",data:=.dict #[]}) (by rw[Wi]) S hcl;have hcell:∀y c,(cellsFrom (s3.heap.objs.size+1) scope.names cl).lookup y=some c->s3.heap.objs.size<c->ZQ.IsCell c none:=fun y c e z=>by
  rw[t9,vG] at e;cases q:(cellsFrom (s3.heap.objs.size+1) scope.names []).lookup y with
  |none=>rw[q] at e;exact absurd z (hcl y c e)
  |some c'=>
   rw[q] at e;have:c'=c:=VP e;subst this;exact Zx y c' (V2 q)
 generalize hcs:cellsFrom (s3.heap.objs.size+1) scope.names cl=cs at CA hcell⊢;have f3:∀b∈fp,qK X pins (upd H2 s2.heap.objs.size (.lst [])) b:=fun b hb=>⟨by rw[pW (VN (hlt b hb))];exact(f2 b hb).1,(f2 b hb).2⟩
 have hlt3:∀b∈fp,b<s3.heap.objs.size:=fun b hb=>by rw[hsz];exact Xb (hlt b hb)
 have st3:tn 0 ZQ:=T.keep _ _ _ st2 fun b hb o e=>hk b o (by rw[←e3];exact Vu _ e);have J0:Inv (pR X N' scope cs s3.heap.objs.size s3 (upd H2 s2.heap.objs.size (.lst [])) fp) [] (rD own cap B) (upd H2 s2.heap.objs.size (.lst [])) {s3 with heap:=ZQ,toks:=s2.toks}:=
  comp_inv I3 S CA hcell c1 c2 f3 hlt3 hk Zz
 have stat:∀{pl:QS} {H':Hp},pl=[]->(∀b∈fp,H' b=none)->∀b∈fp,qK (pR X N' scope cs s3.heap.objs.size s3 (upd H2 s2.heap.objs.size (.lst [])) fp) pl H' b:=fun{pl H'} hp hn b hb=>by
  subst hp;refine⟨hn b hb,VN (hlt3 b hb),J0.ok.exfs b hb,.inl hb,fun x c e=>J0.ok.exf b hb |>.2 x c e,fun p hp=>absurd hp (by show p∉([]++[]:QS);simp)⟩
 have loop:codeAny (model X.prog X.w) X.A (.compLoop (.ListComp elt [⟨tg,iter,ifs,0⟩] scope pos) 0 (.ref it) (.ref s2.heap.objs.size) (compEnvC scope cs s3.heap.objs.size X.env)) (RR (.ref s2.heap.objs.size) s3.heap.objs.size)
   {s3 with heap:=ZQ,toks:=s2.toks}:=RM (Y:=pR X N' scope cs s3.heap.objs.size s3 (upd H2 s2.heap.objs.size (.lst [])) fp) hx hc (hg _ _ _ _ _) (ht _ _ _ _ _) (he _ _ _ _ _) T J0 st3 (fun b hb=>(f3 b hb).1) (stat rfl) (h _ hD) fun ZP H4 s5 I5 qz=>by
  have I6:Inv X pins B H4 s5:=I3.call' (ch:=fp) I5.os I5.base I5.hok I5.bare fun b hb=>⟨(f3 b hb).2.2.2.1,(f3 b hb).2.1,(f3 b hb).2.2.2.2.1,(f3 b hb).2.2.2.2.2⟩
  obtain⟨m',hn',_⟩:=I5.loc;exact(hRR _ _ s5 m' H4 I6 hn' (I3.fpOk (Vv _) I5.free) qz)
 have lp:codeAny (model X.prog X.w) X.A (.compStart (.ListComp elt [⟨tg,iter,ifs,0⟩] scope pos) 0 (.ref it) (.ref s2.heap.objs.size) (compEnvC scope cs s3.heap.objs.size X.env)) (RR (.ref s2.heap.objs.size) s3.heap.objs.size)
   {s3 with heap:=ZQ,toks:=s2.toks}:=codeAny_compStart_list loop (T.self _ 0 _ _ _ st3 loop)
 subst hs3;exact lp
end
def G0(own:List Str)(cap:List (Str×Nat))(wi:TI)(g:TG)(tc:TT)(te:TE):TE:=fun B H Q=>wi B H fun Z6 H1=>∀D,H1 D=none->yS Z6 g tc te D (rD own cap B) H1 (Q (.ref D))
section
variable {X:Cx} {N' own:List Str} {cap:List (Str×Nat)} {scope:Scope} {tg iter elt:Expr} {ifs:List Expr} {pos:Pos} {wi:TI} {g:TG} {tc:TT} {te:TE}
theorem Inv.letgo{pins:QS}{B:St}{H:Hp}{s:Shared}{h':Heap}{C:Addr}(I:Inv X pins B H s)(f:qK X pins H C)(hs:Heap.SameBut C s.heap h'):Inv X pins B H {s with heap:=h'}:=
 I.turned (t':=s.toks) (it:=C) (fun b o hb e=>(hs.2 b hb).trans e) f.1 f.2.1 f.2.2.2.1 f.2.2.2.2.1 f.2.2.2.2.2
theorem P3(S:CompScope X N' own cap scope)(hi:PI X tg iter wi)
  (hg:∀cl C Z2 Z0 ex,PG (pR X N' scope cl C Z2 Z0 ex) tg g) (ht:∀cl C Z2 Z0 ex,PIf (pR X N' scope cl C Z2 Z0 ex) ifs tc) (he:∀cl C Z2 Z0 ex,PE (pR X N' scope cl C Z2 Z0 ex) elt te)
  (hx:∀e s,X.xe e s->False:=by exact fun _ _ z=>z) (hc:X.calm=true:=by rfl) (hs:∀x,foldedSetIterable iter X.env x=pure x:=by intro _;rfl):
  PE X (.ListComp elt [⟨tg,iter,ifs,0⟩] scope pos) (G0 own cap wi g tc te):=by
 intro pins s B H Q I h;rw[eval_ListComp];obtain⟨cl,hcl,c1,c2⟩:=zd (scope:=scope) (env:=X.env) fun y hy hk=>I.ok.has y.1 (S.free y hy hk);refine(WF (use:=none) rfl hs hcl S.kind S.names (thn (hi pins s B H _ I h) fun v s1 h1=>thn h1 fun itv s2 h2=>?_));obtain⟨it,fp,tn,Z6,H2,e,I2,T,st2,f2,q⟩:=h2;subst e;refine(Ha (RR:=fun acc C=>compPost (model X.prog X.w) X.A X.xe none (EP X pins B Q) acc C) (Z:=fun D=>Q (.ref D)) hx hc S hg ht he I2 T st2 f2 c1 c2 q ?_);intro D C s' m' H' I' hn' f' z;exact⟨m',hn',fun h'' hs''=>⟨.ref D,H',I'.letgo f' hs'',rfl,z⟩⟩
end
section
variable {X:Cx} {pins:QS} {B:St} {H:Hp} {s:Shared} {h':Heap} {ch:List Addr}
theorem Inv.turns{t':Nat}(I:Inv X pins B H s)(hf:∀b∈ch,qK X pins H b)(k:∀b o,b∉ch->s.heap.get? b=some o->h'.get? b=some o):Inv X pins B H {s with heap:=h',toks:=t'}:=by
 have nit:∀b u,H b=some u->b∉ch:=fun b u e z=>by rw[(hf b z).1] at e;cases e
 refine I.step (g':=s.gens) (d':=s.drawn) (ch:=ch) (fun b hb=>?_) (fun b o _ _ hc e _=>k b o hc e) (fun b o _ _ hc e _=>⟨o.slots,k b o hc e⟩) (fun _ _ _ _ n=>n)
  (fun b o hc e=>⟨o,k b o hc e⟩) (fun _ _ e=>e) (fun _ _ _ e=>e) (fun b ps e=>⟨#[],by rw[e];simp⟩) (fun m hm=>?_) (fun b u e=>?_) I.bare
 ·obtain⟨f0,f1,f2,f3,f4,f5⟩:=hf b hb;exact⟨f3,f1,f4,f5⟩
 ·obtain⟨o,es,ep,ho,r⟩:=hm;exact⟨o,es,ep,k _ o (fun z=>(hf _ z).2.1 rfl) ho,r⟩
 ·refine(I.hok b u e).stay (fun c v hc q=>k c v ?_ q) (fun _ q=>q) fun _ _ q=>q;rcases hc with z|z
  ·rw[z];exact nit b u e
  ·exact nit c _ z
theorem Inv.turnLay{t':Nat}{T:Addr}{o:HO}(I:Inv X pins B H s)(hf:∀b∈ch,qK X pins H b)(k:∀b o,b∉ch->s.heap.get? b=some o->h'.get? b=some o)(hT:s.heap.objs.size<=T)
  (new:ObjOk X.prog X.w (upd H T o) h' T o):Inv X pins B (upd H T o) {s with heap:=h',toks:=t'}:=by
 have nit:∀b u,H b=some u->b∉ch:=fun b u e z=>by rw[(hf b z).1] at e;cases e
 have hn:H T=none:=I.hok.fresh hT;have ne:∀b o,s.heap.get? b=some o->b≠T:=fun b o e=>VN (VM (Vy e) hT);refine I.step (g':=s.gens) (d':=s.drawn) (ch:=ch) (fun b hb=>?_) (fun b o _ _ hc e _=>k b o hc e) (fun b o _ _ hc e _=>⟨o.slots,k b o hc e⟩) (fun b o _ e n=>by rw[pW (ne b o e)];exact n)
  (fun b o hc e=>⟨o,k b o hc e⟩) (fun b xs e=>by rw[pW (rF e hn)];exact e) (fun b o u e=>by rw[pW (rF e hn)];exact e) (fun b ps e=>⟨#[],by rw[pW (rF e hn),e];simp⟩) (fun m hm=>?_) (fun b u e=>?_) I.bare
 ·obtain⟨f0,f1,f2,f3,f4,f5⟩:=hf b hb;exact⟨f3,f1,f4,f5⟩
 ·obtain⟨o,es,ep,ho,r⟩:=hm;exact⟨o,es,ep,k _ o (fun z=>(hf _ z).2.1 rfl) ho,r⟩
 ·by_cases hb:b=T
  ·subst hb;rw[qG] at e;cases e;exact new
  ·rw[pW hb] at e;refine(I.hok b u e).stay (fun c v hc q=>k c v ?_ q) (fun c q=>by rw[pW (rF q hn)];exact q) fun c xs q=>by rw[pW (rF q hn)];exact q
   rcases hc with z|z
   ·rw[z];exact nit b u e
   ·exact nit c _ z
end
def Ite(K:Frag)(a:Addr):It:=
 ⟨fun i H=>∃xs x,SqL K H a xs/\xs[i]?=some x,fun i H x H'=>∃p v,x=.ref p/\H p=none/\H'=upd H p (.tup [.int (i:Nat),v])/\∀xs,SqL K H a xs->xs[i]?=some v,fun i H=>∃xs,SqL K H a xs/\xs.length<=i⟩
def D2:2<=sizeLine:=by rw[WM];decide
theorem P8{P:Program}{w:World}{K:Frag}{elts:List Expr}{k:Nat}{pos:Pos}(a e it:Addr)(hne:e≠it):
  Turn P w K (.Tuple elts k pos) (Ite K a) [e,it] e (fun i h=>(∃old,IsEnum h e it i old)/\h.IsListIter it a i) where
 mem:=by simp
 obj:=fun i h st b hb=>by
  obtain⟨⟨old,he⟩,o,e2,c,d⟩:=st;rcases VI.mp hb with rfl|hb
  ·exact⟨_,he,fun v z=>by cases z⟩
  ·rw[VO.mp hb];exact⟨o,e2,fun v z=>by rw[d] at z;cases z⟩
 keep:=fun i h h' st kk=>⟨let ⟨old,he⟩:=st.1;⟨old,kk e (by simp) _ he⟩,st.2.at fun o q=>kk it (by simp) o q⟩
 item:=by
  intro X hP hw hK hc i pins s B H E I hf st hg;subst hP hw hK;obtain⟨xs,x,hq,hx⟩:=hg;obtain⟨its,rv,p,hz⟩:=I.list hq;obtain⟨u,hu,ru⟩:=rv.get hx;obtain⟨⟨old,he⟩,hit⟩:=st;refine(wpAny_pyNext_enum_item he hit p.isList (x:=u) (by simpa using hu) hne fun h1 ho hit1 hT hsz hk=>?_);refine⟨_,rfl,wpAny_letOwnedTupleGo_enum ho fun h2 he2 hs2=>?_⟩;have hlt:e<s.heap.objs.size:=Vy he
  replace hs2:Heap.SameBut e h1 h2:=hs2
  have hT2:h2.get? s.heap.objs.size=some {cls:=.type "tuple",data:=.seq #[.int i s.toks,u]}:=(hs2.2 _ (Xc hlt)).trans hT;have hn:H s.heap.objs.size=none:=I.hok.fresh (Vv _);have I2:Inv X pins B (upd H s.heap.objs.size (.tup [.int (i:Nat),x])) {s with heap:=h2,toks:=s.toks+1}:=
   I.turnLay (ch:=[e,it]) hf (fun b o hb q=>(hs2.2 b (fun z=>hb (by simp[z]))).trans (hk b o (fun z=>hb (by simp[z])) (fun z=>hb (by simp[z])) q)) (Vv _)
    ⟨D2,[.int i s.toks,u],.cons ⟨_,rfl⟩ (.cons ru .nil),⟨_,hT2,rfl,_,rfl⟩⟩
  have hit2:h2.IsListIter it a (i+1):=hit1.at fun o q=>(hs2.2 it (Ne.symm hne)).trans q;have f1:∀b∈[e,it],(upd H s.heap.objs.size (.tup [.int (i:Nat),x])) b=none:=fun b hb=>by
   have hlb:b<s.heap.objs.size:=by
    rcases VI.mp hb with rfl|hb
    ·exact hlt
    ·rw[VO.mp hb];obtain⟨o,q,_⟩:=hit;exact(Vy q)
   rw[pW (VN hlb)];exact(hf b hb).1
  exact⟨.ref s.heap.objs.size,_,I2,rfl,⟨_,x,rfl,hn,rfl,fun ys hy=>by rw[I.list_inj hy hq];exact hx⟩,⟨⟨u,by simpa using he2⟩,hit2⟩,f1⟩
 done:=by
  intro X hP hw hK hc i pins s B H E I hf st hg;subst hP hw hK;obtain⟨xs,hq,hx⟩:=hg;obtain⟨its,rv,p,hz⟩:=I.list hq;obtain⟨⟨old,he⟩,hit⟩:=st;have hl:=rv.length;exact wpAny_pyNext_enum_end (I.ok.hd hc) he hit p.isList (by simp;omega) fun h' eb=>⟨rfl,I.turns (t':=s.toks) (ch:=[e,it]) hf fun b o hb q=>eb b o (fun z=>hb (by simp[z])) q⟩
 self:=fun _ _ _ _ _ st h=>by
  obtain⟨⟨old,he⟩,_⟩:=st;exact(wpAny_pyIter_enum he h)
def Iw(K:Frag)(ta:TA):TI:=fun B H R=>ta B H fun vs H1=>∃a,vs=[.ref a]/\(∃xs,SqL K H1 a xs)/\R (Ite K a) H1
section
variable {X:Cx}
theorem Qh{elts:List Expr}{k:Nat}{tpos:Pos}{a:Expr}{ta:TA}{p pos:Pos}(hg:Gl X "enumerate") (hm:X.mg "enumerate"=none) (ha:PA X [a] ta) (hs:starEach [a] X.env=[(false,eval a X.env)]:=by rfl):
  PI X (.Tuple elts k tpos) (.Call (.Name "enumerate" p) [a] [] pos) (Iw X.K ta):=by
 intro pins s B H R I h;refine Call_ (t6 I hg hm boot_enumerate (Wa (thn (ha pos pins s B H _ I h) fun us s1 hm=>?_) hs rfl));obtain⟨vs,H1,I1,r1,q1⟩:=hm;obtain⟨l,e,⟨xs,hq⟩,q⟩:=q1;subst e;obtain⟨u,rfl,ru⟩:=vE r1;cases ru;obtain⟨its,rv,pl,hz⟩:=I1.list hq;refine(call_enumerate_list pl.isList fun h' he hit hsz hk=>wpAny_pyIter_enum he ?_);have I2:Inv X pins B H1 {s1 with heap:=h'}:=I1.kept (t':=s1.toks) hk;refine⟨_,[s1.heap.objs.size+1,s1.heap.objs.size],_,_,H1,rfl,I2,P8 l _ _ (Nat.succ_ne_self _),⟨⟨.none,he⟩,hit⟩,fun b hb=>?_,q⟩;have hb':s1.heap.objs.size<=b:=by
  rcases VI.mp hb with rfl|hb
  ·exact Nat.le_succ _
  ·rw[VO.mp hb];exact Vv _
 exact I1.fpOk hb' (I1.hok.fresh hb')
end
def Itz(K:Frag)(a b:Addr):It:=
 ⟨fun i H=>∃xs ys x y,SqL K H a xs/\SqL K H b ys/\xs[i]?=some x/\ys[i]?=some y,
  fun i H x H'=>∃p v u,x=.ref p/\H p=none/\H'=upd H p (.tup [v,u])/\(∀xs,SqL K H a xs->xs[i]?=some v)/\∀ys,SqL K H b ys->ys[i]?=some u,
  fun i H=>∃xs ys,SqL K H a xs/\SqL K H b ys/\(xs.length<=i\/ys.length<=i)⟩
theorem LJ{P:Program}{w:World}{K:Frag}{elts:List Expr}{k:Nat}{pos:Pos}(a b z TI TO i1 i2:Addr)
  (n1:TI≠z) (n2:TO≠z) (n3:i1≠z) (n4:i2≠z) (n5:TI≠TO) (n6:TI≠i1) (n7:TI≠i2) (n8:TO≠i1) (n9:TO≠i2) (n10:i1≠i2):
  Turn P w K (.Tuple elts k pos) (Itz K a b) [z,TI,TO,i1,i2] z (fun i h=>IsZip h z TI TO .none/\IsPair h TI (.ref i1) (.ref i2)/\(∃a b,IsPair h TO a b)/\h.IsListIter i1 a i/\h.IsListIter i2 b i) where
 mem:=by simp
 obj:=fun i h st c hc=>by
  obtain⟨hz,hTI,⟨u,v,hTO⟩,⟨o1,e1,c1,d1⟩,⟨o2,e2,c2,d2⟩⟩:=st;simp only[VI,WB,or_false] at hc;rcases hc with rfl|rfl|rfl|rfl|rfl
  ·exact⟨_,hz,fun v z=>by cases z⟩
  ·exact⟨_,hTI,fun v z=>by cases z⟩
  ·exact⟨_,hTO,fun v z=>by cases z⟩
  ·exact⟨o1,e1,fun v z=>by rw[d1] at z;cases z⟩
  ·exact⟨o2,e2,fun v z=>by rw[d2] at z;cases z⟩
 keep:=fun i h h' st kk=>by
  obtain⟨hz,hTI,⟨u,v,hTO⟩,h1,h2⟩:=st;exact(⟨kk z (by simp) _ hz,kk TI (by simp) _ hTI,⟨u,v,kk TO (by simp) _ hTO⟩,h1.at fun o q=>kk i1 (by simp) o q,h2.at fun o q=>kk i2 (by simp) o q⟩)
 item:=by
  intro X hP hw hK hc i pins s B H E I hf st hg;subst hP hw hK;obtain⟨xs,ys,x,y,hq,hq2,hx,hy⟩:=hg;obtain⟨its,rv,p,hz'⟩:=I.list hq;obtain⟨its2,rv2,p2,hz2⟩:=I.list hq2;obtain⟨u,hu,ru⟩:=rv.get hx;obtain⟨u2,hu2,ru2⟩:=rv2.get hy;obtain⟨hz,hTI,⟨c,d,hTO⟩,h1,h2⟩:=id st;have trk:∀{l:Addr} {zs:List V},SqL X.K H l zs->∀c∈[z,TI,TO,i1,i2],l≠c:=fun{l zs} hl c hcm e=>by
   subst e;obtain⟨jts,_,⟨o,n,eo,co,_,dd⟩,_⟩:=I.list hl;simp only[VI,WB,or_false] at hcm;rcases hcm with rfl|rfl|rfl|rfl|rfl
   ·rw[hz] at eo;cases eo;exact absurd co (by show ¬(Value.type "zip"=Value.type "list");decide)
   ·rw[hTI] at eo;cases eo;exact absurd co (by show ¬(Value.type "tuple"=Value.type "list");decide)
   ·rw[hTO] at eo;cases eo;exact absurd co (by show ¬(Value.type "tuple"=Value.type "list");decide)
   ·obtain⟨o1,e1,c1,_⟩:=h1;rw[e1] at eo;cases eo;rw[c1] at co;exact absurd co (by decide)
   ·obtain⟨o1,e1,c1,_⟩:=h2;rw[e1] at eo;cases eo;rw[c1] at co;exact absurd co (by decide)
  have D:ZipApart z TI TO i1 i2 a b:=by
   constructor<;>first|assumption|(apply Ne.symm;assumption)|exact trk hq _ (by simp)|exact trk hq2 _ (by simp)|exact(trk hq _ (by simp)).symm|exact(trk hq2 _ (by simp)).symm
  refine wpAny_pyNext_zip_item D hz hTI hTO h1 h2 p.isList p2.isList (x:=u) (y:=u2) (by simpa using hu) (by simpa using hu2) fun h' a1 a2 a3 a4 a5 a6 hk=>?_;refine⟨_,rfl,wpAny_letOwnedTupleGo_zip a1 fun h3 hz3 hs3=>?_⟩
  replace hs3:Heap.SameBut z h' h3:=hs3
  have hlt:z<s.heap.objs.size:=Vy hz;have hT2:h3.get? s.heap.objs.size=some {cls:=.type "tuple",data:=.seq #[u,u2]}:=(hs3.2 _ (Xc hlt)).trans a5;have hn:H s.heap.objs.size=none:=I.hok.fresh (Vv _);have I2:Inv X pins B (upd H s.heap.objs.size (.tup [x,y])) {s with heap:=h3,toks:=s.toks}:=
   I.turnLay (ch:=[z,TI,TO,i1,i2]) hf (fun b o hb q=>(hs3.2 b (fun e=>hb (by simp[e]))).trans (hk b o (fun e=>hb (by simp[e])) (fun e=>hb (by simp[e])) (fun e=>hb (by simp[e])) (fun e=>hb (by simp[e])) q)) (Vv _)
    ⟨D2,[u,u2],.cons ru (.cons ru2 .nil),⟨_,hT2,rfl,_,rfl⟩⟩
  have f1:∀b∈[z,TI,TO,i1,i2],(upd H s.heap.objs.size (.tup [x,y])) b=none:=fun b hb=>by
   have hne:b≠s.heap.objs.size:=by
    rintro rfl;obtain⟨hz,hTI,⟨c,d,hTO⟩,⟨o1,e1,_⟩,⟨o2,e2,_⟩⟩:=st;simp only[VI,WB,or_false] at hb;rcases hb with e|e|e|e|e
    ·rw[←e] at hz;exact absurd (Vy hz) (V1 _)
    ·rw[←e] at hTI;exact absurd (Vy hTI) (V1 _)
    ·rw[←e] at hTO;exact absurd (Vy hTO) (V1 _)
    ·rw[←e] at e1;exact absurd (Vy e1) (V1 _)
    ·rw[←e] at e2;exact absurd (Vy e2) (V1 _)
   rw[pW hne];exact(hf b hb).1
  refine⟨.ref s.heap.objs.size,_,I2,rfl,⟨_,x,y,rfl,hn,rfl,fun zs hy'=>by rw[I.list_inj hy' hq];exact hx,fun zs hy'=>by rw[I.list_inj hy' hq2];exact hy⟩,⟨hz3,?_,⟨u,u2,?_⟩,?_,?_⟩,f1⟩
  ·exact(hs3.2 _ n1).trans (hk _ _ n1 n5 n6 n7 hTI)
  ·exact(hs3.2 _ n2).trans a2
  ·exact a3.at fun o q=>(hs3.2 _ n3).trans q
  ·exact a4.at fun o q=>(hs3.2 _ n4).trans q
 done:=by
  intro X hP hw hK hc i pins s B H E I hf st hg;subst hP hw hK;obtain⟨xs,ys,hq,hq2,hx⟩:=hg;obtain⟨its,rv,p,hz'⟩:=I.list hq;obtain⟨its2,rv2,p2,hz2⟩:=I.list hq2;have l1:=rv.length;have l2:=rv2.length;obtain⟨hz,hTI,⟨c,d,hTO⟩,h1,h2⟩:=id st;have trk:∀{l:Addr} {zs:List V},SqL X.K H l zs->∀c∈[z,TI,TO,i1,i2],l≠c:=fun{l zs} hl c hcm e=>by
   subst e;obtain⟨jts,_,⟨o,n,eo,co,_,dd⟩,_⟩:=I.list hl;simp only[VI,WB,or_false] at hcm;rcases hcm with rfl|rfl|rfl|rfl|rfl
   ·rw[hz] at eo;cases eo;exact absurd co (by show ¬(Value.type "zip"=Value.type "list");decide)
   ·rw[hTI] at eo;cases eo;exact absurd co (by show ¬(Value.type "tuple"=Value.type "list");decide)
   ·rw[hTO] at eo;cases eo;exact absurd co (by show ¬(Value.type "tuple"=Value.type "list");decide)
   ·obtain⟨o1,e1,c1,_⟩:=h1;rw[e1] at eo;cases eo;rw[c1] at co;exact absurd co (by decide)
   ·obtain⟨o1,e1,c1,_⟩:=h2;rw[e1] at eo;cases eo;rw[c1] at co;exact absurd co (by decide)
  have D:ZipApart z TI TO i1 i2 a b:=by
   constructor<;>first|assumption|(apply Ne.symm;assumption)|exact trk hq _ (by simp)|exact trk hq2 _ (by simp)|exact(trk hq _ (by simp)).symm|exact(trk hq2 _ (by simp)).symm
  exact wpAny_pyNext_zip_end (I.ok.hd hc) D hz hTI hTO h1 h2 p.isList p2.isList (by rcases hx with q|q;exact .inl (by simp;omega);exact .inr (by simp;omega)) fun h' hk=>
   ⟨rfl,I.turns (t':=s.toks) (ch:=[z,TI,TO,i1,i2]) hf fun b o hb q=>hk b o (fun e=>hb (by simp[e])) (fun e=>hb (by simp[e])) (fun e=>hb (by simp[e])) (fun e=>hb (by simp[e])) q⟩
 self:=fun _ _ _ _ _ st h=>wpAny_pyIter_zip st.1 h
def nz{n i j:Nat}(h:i≠j):n+i≠n+j:=fun e=>h (Nat.add_left_cancel e)
def IU(K:Frag)(ta:TA):TI:=fun B H R=>ta B H fun vs H1=>∃a b,vs=[.ref a,.ref b]/\(∃xs,SqL K H1 a xs)/\(∃ys,SqL K H1 b ys)/\R (Itz K a b) H1
section
variable {X:Cx}
theorem No{elts:List Expr}{k:Nat}{tpos:Pos}{a b:Expr}{ta:TA}{p pos:Pos}(hg:Gl X "zip") (hm:X.mg "zip"=none) (ha:PA X [a,b] ta) (hs:starEach [a,b] X.env=[(false,eval a X.env),(false,eval b X.env)]:=by rfl) (hs2:starEach [b] X.env=[(false,eval b X.env)]:=by rfl):
  PI X (.Tuple elts k tpos) (.Call (.Name "zip" p) [a,b] [] pos) (IU X.K ta):=by
 intro pins s B H R I h;refine Call_ (t6 I hg hm boot_zip (Wa (thn (ha pos pins s B H _ I h) fun us s1 hm=>?_) (by rw[hs,hs2]) (by rw[hs2];rfl)));obtain⟨vs,H1,I1,r1,q1⟩:=hm;obtain⟨l,l2,e,⟨xs,hq⟩,⟨ys,hq2⟩,q⟩:=q1;subst e;obtain⟨u,u2,rfl,ru,ru2⟩:=AN r1;cases ru;cases ru2;obtain⟨its,rv,pl,hz⟩:=I1.list hq;obtain⟨its2,rv2,pl2,hz2⟩:=I1.list hq2;refine(call_zip_2 pl.isList pl2.isList fun h' a1 a2 a3 a4 a5 a6 hk=>wpAny_pyIter_zip a1 ?_);have I2:Inv X pins B H1 {s1 with heap:=h'}:=I1.kept (t':=s1.toks) hk;refine⟨_,[s1.heap.objs.size+4,s1.heap.objs.size+2,s1.heap.objs.size+3,s1.heap.objs.size,s1.heap.objs.size+1],_,_,H1,rfl,I2,
  LJ l l2 _ _ _ _ _ (nz (by decide)) (nz (by decide)) (nz (i:=0) (by decide)) (nz (by decide)) (nz (by decide)) (nz (j:=0) (by decide)) (nz (by decide)) (nz (j:=0) (by decide)) (nz (by decide)) (nz (i:=0) (by decide)),⟨a1,a2,⟨_,_,a3⟩,a4,a5⟩,fun b hb=>?_,q⟩
 have hb':s1.heap.objs.size<=b:=by
  simp only[VI,WB,or_false] at hb;rcases hb with rfl|rfl|rfl|rfl|rfl
  ·exact Nat.le_add_right _ _
  ·exact Nat.le_add_right _ _
  ·exact Nat.le_add_right _ _
  ·exact Vv _
  ·exact Nat.le_add_right _ _
 exact I1.fpOk hb' (I1.hok.fresh hb')
end
def AT:List String:=["int","bool","str","NoneType","list","tuple","dict"]
def clNames:List String:=["int","bool","str","list","tuple","dict"]
def x9(t c:String):Bool:=t==c||(t=="bool"&&c=="int")
def Nh{K:Frag}{t c:String}(ht:t∈AT)(hc:c∈clNames):PySem.W.kitOne K (.type t) (.type c)=some (x9 t c):=by
 simp only[AT,clNames,VI,WB,or_false] at ht hc;rcases ht with rfl|rfl|rfl|rfl|rfl|rfl|rfl<;>rcases hc with rfl|rfl|rfl|rfl|rfl|rfl<;>first|rfl|decide|(with_unfolding_all rfl)
inductive TyN (K:Frag) (H:Hp):V->String->Prop where
 |non:TyN K H .non "NoneType"
 |bl (x:Bool):TyN K H (.bl x) "bool"
 |int (i:Int):TyN K H (.int i) "int"
 |str (x:Str):TyN K H (.str x) "str"
 |lst {a:Addr} {xs:List V} (e:SqL K H a xs):TyN K H (.ref a) "list"
 |tup {a:Addr} {xs:List V} (e:SqT K H a xs):TyN K H (.ref a) "tuple"
 |dK {a:Addr} {kvs:List (Key×V)} (e:H a=some (.dK kvs)):TyN K H (.ref a) "dict"
def TyN.mem{K:Frag}{H:Hp}{x:V}{t:String}(h:TyN K H x t):t∈AT:=by cases h<;>simp[AT]
section
variable {X:Cx}
theorem SA:tz X (.builtin "isinstance") (fun xs H Q=>∃(x:V) (t:String) (c:String),xs=[x,.ty c]/\TyN X.K H x t/\clNames.contains c=true/\Q (.bl (x9 t c)) H):=by
 intro pins s B H xs us Q I r h;obtain⟨x,t,c,rfl,ty,hc,q⟩:=h;obtain⟨u,w',rfl,rx,rc⟩:=AN r;cases (show w'=Value.type c from rc);have e:=Nh (K:=X.K) ty.mem (by simpa using hc:c∈clNames);have fin:∀tk,EP X pins B Q (.bool (x9 t c)) {s with toks:=tk}:=fun tk=>⟨.bl _,H,I.tok _,rfl,q⟩
 cases ty with
 |non=>cases (show u=Value.none from rx);exact WU PySem.W.kitx_none I.kIn True.intro e (fun z=>nomatch z) fin
 |bl y=>cases (show u=Value.bool y from rx);exact WU PySem.W.kitx_bool I.kIn True.intro e (fun z=>nomatch z) fin
 |int i=>obtain⟨t,q⟩:=(show ∃t,u=Value.int i t from rx);cases q;exact WU PySem.W.kitx_int I.kIn True.intro e (fun z=>nomatch z) fin
 |str y=>obtain⟨t,q⟩:=(show ∃t,u=Value.str y t from rx);cases q;exact WU PySem.W.kitx_str I.kIn True.intro e (fun z=>nomatch z) fin
 | @lst a xs ea=>
  cases (show u=Value.ref a from rx);obtain⟨its,_,⟨o,n,h1,h2,_⟩,_⟩:=I.list ea;exact WU PySem.W.kitx_list I.kIn ⟨o,h1,h2⟩ e (fun z=>nomatch z) fin
 | @tup a xs ea=>
  cases (show u=Value.ref a from rx);obtain⟨its,_,⟨o,h1,h2,_⟩,_⟩:=I.tuple ea;exact WU PySem.W.kitx_tuple I.kIn ⟨o,h1,h2⟩ e (fun z=>nomatch z) fin
 | @dK a kvs ea=>
  cases (show u=Value.ref a from rx);obtain⟨_,_,vs,_,p⟩:=(show ObjOk X.prog X.w H s.heap a (.dK kvs) from I.hok a _ ea)
  obtain⟨o,es,ep,h1,h2,_⟩:=p;exact(WU PySem.W.kitx_dict I.kIn ⟨o,h1,h2.1⟩ e (fun z=>nomatch z) fin)
end
mutual
inductive Dp (K:Frag) (H:Hp):V->PyData->Prop where
 |non:Dp K H .non .none
 |bl (b:Bool):Dp K H (.bl b) (.bool b)
 |int (i:Int):Dp K H (.int i) (.int i)
 |str (x:Str):Dp K H (.str x) (.str x)
 |lst {a:Addr} {xs:List V} {ds:List PyData}:SqL K H a xs->Dps K H xs ds->Dp K H (.ref a) (.list ds)
 |tup {a:Addr} {xs:List V} {ds:List PyData}:SqT K H a xs->Dps K H xs ds->Dp K H (.ref a) (.tuple ds)
inductive Dps (K:Frag) (H:Hp):List V->List PyData->Prop where
 |nil:Dps K H [] []
 |cons {x:V} {d:PyData} {xs:List V} {ds:List PyData}:Dp K H x d->Dps K H xs ds->Dps K H (x::xs) (d::ds)
end
section
variable {X:Cx} {pins:QS} {B:St} {H:Hp} {s:Shared}
mutual
theorem Dp.reads(I:Inv X pins B H s):∀{v:V} {d:PyData} {u:Value},Dp X.K H v d->RelV v u->∃as,Reads s.heap u d as
 |_,_,_,.non,r=>by cases (show _=Value.none from r);exact⟨_,.none⟩
 |_,_,_,.bl b,r=>by cases (show _=Value.bool b from r);exact⟨_,.bool b⟩
 |_,_,_,.int i,r=>by obtain⟨t,rfl⟩:=r;exact⟨_,.int i t⟩
 |_,_,_,.str x,r=>by obtain⟨t,rfl⟩:=r;exact⟨_,.str x t⟩
 |_,_,_,.lst (a:=a) h hs,r=>by
  cases (show _=Value.ref a from r);obtain⟨its,rv,⟨o,n,h1,h2,_,h4⟩,_⟩:=I.list h;obtain⟨as,hr⟩:=Dps.reads I hs rv;exact⟨_,.list h1 h2 h4 (by simpa using hr)⟩
 |_,_,_,.tup (a:=a) h hs,r=>by
  cases (show _=Value.ref a from r);obtain⟨its,rv,⟨o,h1,h2,n,h4⟩,_⟩:=I.tuple h;obtain⟨as,hr⟩:=Dps.reads I hs rv;exact(⟨_,.tuple h1 h2 h4 (by simpa using hr)⟩)
theorem Dps.reads(I:Inv X pins B H s):∀{vs:List V} {ds:List PyData} {us:List Value},Dps X.K H vs ds->Vals vs us->∃as,ReadsAll s.heap us ds as
 |_,_,_,.nil,r=>by cases r;exact⟨_,.nil⟩
 |_,_,_,.cons h hs,r=>by
  cases r with
  |cons r1 r2=>
   obtain⟨as,h1⟩:=Dp.reads I h r1;obtain⟨bs,h2⟩:=Dps.reads I hs r2;exact(⟨_,.cons h1 h2⟩)
end
theorem K2(hu:X.A.units+64<cLine):OpR X (compareOp .Eq) (fun x y H Q=>∃d e,Dp X.K H x d/\Dp X.K H y e/\(d.canLay0&&e.canLay0&&decide (d.depth<=64))=true/\Q (.bl (PyData.eqv d e)) H):=by
 intro pins s B H x y v u Q I rx ry h;obtain⟨d,e,hd,he,hc,q⟩:=h;simp only[V9,Wr] at hc;obtain⟨as,r1⟩:=hd.reads I rx;obtain⟨bs,r2⟩:=he.reads I ry;exact(SeqAt.compareEq_reads r1 r2 hc.1.1 hc.1.2 (by omega) ⟨.bl _,H,I,rfl,q⟩)
theorem He(hu:X.A.units+64<cLine):OpR X (compareOp .NotEq) (fun x y H Q=>∃d e,Dp X.K H x d/\Dp X.K H y e/\(d.canLay0&&e.canLay0&&decide (d.depth<=64))=true/\Q (.bl (!PyData.eqv d e)) H):=by
 intro pins s B H x y v u Q I rx ry h;obtain⟨d,e,hd,he,hc,q⟩:=h;simp only[V9,Wr] at hc;obtain⟨as,r1⟩:=hd.reads I rx;obtain⟨bs,r2⟩:=he.reads I ry;exact(SeqAt.compareNe_reads r1 r2 hc.1.1 hc.1.2 (by omega) ⟨.bl _,H,I,rfl,q⟩)
end
section
variable {X:Cx}
def HK:V->List V->Hp->VK->Prop:=fun x vs H Q=>∃(a:Addr) (kvs:List (Key×V)) (k:Key) (d:V),x=.ref a/\vs=[kV k,d]/\H a=some (.dK kvs)/\kvs.length<sizeLine/\
 (∀v,rz kvs k=some v->Q v H)/\(rz kvs k=none->Q d (upd H a (.dK (qP kvs k d))))
theorem QG:MtM X "dict.setdefault" HK:=by
 intro pins s B H x vs v us Q I rx rv h;obtain⟨a,kvs,k,d,rfl,rfl,e,hl,h1,h2⟩:=h;cases rx;obtain⟨u,w',rfl,ru,rd⟩:=rv.two;obtain⟨z,hd,ws,rel,dd⟩:=wc I.hok e;refine call_meetsIn PySem.F.slot_dict_setdefault dd.typeIs PySem.F.entry_dict_setdefault (PySem.F.args_dict_setdefault_3 _ _ _) (kt_meets_setdefault (si X.prog X.w) a (yM ru) hd w') ⟨ws,dd,by rw[←rel.length];exact z,fun y hy=>?_,fun hn h' dd' hs=>?_⟩
 ·have q:=rel.val k;rw[hy] at q;cases ev:rz kvs k with
  |none=>rw[ev] at q;exact q.elim
  |some v0=>
   rw[ev] at q;exact⟨v0,H,I.tok _,q,h1 v0 ev⟩
 ·have q:=rel.val k;rw[hn] at q;cases ev:rz kvs k with
  |some v0=>rw[ev] at q;exact q.elim
  |none=>
   have hz:(qP kvs k d).length<=sizeLine:=by have:=zV kvs k d;omega
   have he:∃q,h'.get? a=some q:=let ⟨q,_,_,hq,_⟩:=dd';⟨q,hq⟩
   exact⟨d,_,Aj (t':=s.toks+1) I (by rw[e];exact True.intro) hs he (Bt hz hd (rel.put k rd) dd'),rd,h2 ev⟩
theorem Pf{kvs:List (Key×V)}{ws:List (Key×Value)}(rel:KV kvs ws):Vals (kvs.map (·.2)) (ws.map (·.2)):=by
 induction rel with
 |nil=>exact .nil
 |cons r _ ih=>exact .cons r.2 ih
def vvO(v d:Addr):HO:=.ext fun h=>h.IsValuesView v d
def Hj:V->List V->Hp->VK->Prop:=fun x vs H Q=>∃(a:Addr) (kvs:List (Key×V)),x=.ref a/\vs=[]/\H a=some (.dK kvs)/\∀v,H v=none->Q (.ref v) (upd H v (vvO v a))
theorem NG:MtM X "dict.values" Hj:=by
 intro pins s B H x vs v us Q I rx rv h;obtain⟨a,kvs,rfl,rfl,e,q⟩:=h;cases rx;have:=rv.zero;subst this;obtain⟨z,hd,ws,rel,dd⟩:=wc I.hok e;refine(call_meetsIn PySem.F.slot_dict_values dd.typeIs PySem.F.entry_dict_values (PySem.F.args_dict_values_1 _) (meets_dict_values (si X.prog X.w) a hd) ⟨⟨ws,dd⟩,?_⟩);have hv:(s.heap.push {cls:=.type "dict_values",data:=.fields #[.ref a]}).IsValuesView s.heap.objs.size a:=⟨_,VC _ rfl,rfl,rfl⟩
 refine⟨.ref s.heap.objs.size,_,I.laid (t':=s.toks) (o:=vvO s.heap.objs.size a) (fun b o q=>Vu _ q) (Vv _) ?_,rfl,q _ (I.hok.fresh (Vv _))⟩;exact⟨hv,⟨_,VC _ rfl⟩,fun h1 h2 p k=>let ⟨o,ho,r⟩:=p;⟨o,k o ho,r⟩⟩
theorem Td:tz X (.type "list") (fun xs H Q=>∃(v a:Addr) (kvs:List (Key×V)),xs=[.ref v]/\H v=some (vvO v a)/\H a=some (.dK kvs)/\X.calm=true/\∀l,H l=none->Q (.ref l) (upd H l (.lst (kvs.map (·.2))))):=by
 intro pins s B H xs us Q I r h;obtain⟨v,a,kvs,rfl,hv,e,hc,q⟩:=h;obtain⟨u,rfl,ru⟩:=vE r;cases ru;obtain⟨z,hd,ws,rel,dd⟩:=wc I.hok e;obtain⟨hvv,_,_⟩:s.heap.IsValuesView v a/\_/\_:=I.hok v _ hv;obtain⟨ep,hat⟩:=dd.dictAt;refine PySem.W.kdl_call (PySem.W.kdl_values (knd:=si X.prog X.w) (kvs:=ws) (ep:=ep)) (I.ok.hd hc) ⟨hvv,hat⟩ (by rw[←rel.length];exact z) fun h' tk acc' c' hk hD hacc=>?_;have ev:acc'.toList=ws.map (·.2):=PySem.W.kdl_vals_eq acc'.toList (by rw[WK];exact hacc.1) fun j v ej=>hacc.2 j v (by rw[←Array.getElem?_toList];exact ej);have rv:Vals (kvs.map (·.2)) (ws.map (·.2)):=Pf rel;refine⟨.ref s.heap.objs.size,_,I.laid (t':=tk) (o:=.lst (kvs.map (·.2))) hk (Vv _) ?_,rfl,q _ (I.hok.fresh (Vv _))⟩;refine⟨by rw[VF];exact z,ws.map (·.2),c',rv,?_⟩;rw[←ev];exact hD
end
def Df(P:Program)(w:World)(K:Frag)(mg:Str->Option Value)(base:Heap)(k:Nat)(x:Str)(ps:List Str)(sp:Sp):Prop:=
 ∃f fd,FnOk P w K mg base CX0 k f fd ps sp/\Binds K fd ps []/\keepIn K (.ref f)=true/\mg x=some (.ref f)
section
variable {X:Cx} {k:Nat} {x:Str} {ps:List Str} {sp:Sp} {e:Expr} {es:List Expr} {t:TA} {p pos:Pos}
theorem JO(D:Df X.prog X.w X.K X.mg X.base k x ps sp)(hr:Room k X.A)(ha:PA X (e::es) t)(hg:Gl X x:=by rfl)(hdb:(x==("__debug__":Str))=false:=by decide)
  (he:starEach (e::es) X.env=(false,eval e X.env)::starEach es X.env:=by rfl) (hpl:(backTo pos (starEach es X.env)).any (·.1)=false:=by rfl):
  PE X (.Call (.Name x p) (e::es) [] pos) (fun B H Q=>t B H fun vs H1=>sp vs H1 Q E0):=by
 obtain⟨f,fd,F,hb,hk,hm⟩:=D;intro pins s B H Q I h;exact Q1 F hr hg hm hk hb .nil Bn ha hdb he hpl pins s B H Q I (by unfold IF;simpa using h)
end
def But(p:Addr)(H H':Hp):Prop:=∀b o,b≠p->H b=some o->H' b=some o
def tP{n:Nat}(h:n<=1000000):n<=sizeLine:=by rw[WM];omega
def yi{n:Nat}(h:n<=1000000):n<sizeLine:=by rw[WM];omega
def GX(N:List Str)(names:List (Str×NameKind))(own:List Str)(cap:List (Str×Nat))(scope:Scope):Bool:=
 (scope.kind==.function)&&scope.names.all (fun y=>(y.2 != .cell||scope.names.lookup y.1==some .cell)&&(y.2 != .local||scope.names.lookup y.1==some .local)&&(y.2 != .free||scope.names.lookup y.1==some .free)&&(y.2 != .free||(names.lookup y.1==some .cell||names.lookup y.1==some .free)))
 &&cap.all fun p=>N[p.2]?==some p.1&&scope.names.lookup p.1==some .free&&(names.lookup p.1==some .cell||names.lookup p.1==some .free)
def sf{X:Cx}{own:List Str}{cap:List (Str×Nat)}{scope:Scope}(h:GX X.N X.env.scope.names own cap scope=true):CompScope X (own++cap.map (·.1)) own cap scope:=by
 unfold GX at h;simp only[V9,V4,Bool.or_eq_true,bne_iff_ne,beq_iff_eq] at h;obtain⟨⟨h1,h2⟩,h3⟩:=h;exact(⟨h1,fun y hy hl=>(h2 y hy).1.1.1.resolve_left fun z=>z hl,fun y hy hl=>(h2 y hy).1.2.resolve_left fun z=>z hl,fun y hy hl=>(h2 y hy).1.1.2.resolve_left fun z=>z hl,fun y hy hl=>(h2 y hy).2.resolve_left fun z=>z hl,rfl,fun p hp=>⟨(h3 p hp).1.1,(h3 p hp).1.2,(h3 p hp).2⟩⟩)
section
variable {X:Cx} {a b o:Expr} {ta tb to:TE} {p pos:Pos}
theorem U0(K:Frag)(ml:X.mg "len"=none) (ha:PE X a ta) (hg:Gl X "len":=by rfl) (hs:starEach [a] X.env=[(false,eval a X.env)]:=by rfl) (hK:X.K=K:=by rfl):
  PE X (.Call (.Name "len" p) [a] [] pos) (fun B H Q=>ta B H fun x H1=>∃p ys,[x]=[V.ref p]/\(SqL K H1 p ys\/SqT K H1 p ys)/\Q (.int ys.length) H1):=by
 subst hK;exact zb R1 hg ml PySem.boot_len (qM ha rG hs) (he:=hs)
theorem Rc(ml:X.mg "min"=none) (ha:PE X a ta) (hb:PE X b tb) (hc:X.calm=true:=by rfl) (hg:Gl X "min":=by rfl) (hs:starEach [a,b] X.env=[(false,eval a X.env),(false,eval b X.env)]:=by rfl) (hs2:starEach [b] X.env=[(false,eval b X.env)]:=by rfl):
  PE X (.Call (.Name "min" p) [a,b] [] pos) (fun B H Q=>ta B H fun x H1=>tb B H1 fun y H2=>∃i j,[x,y]=[.int i,.int j]/\Q (.int (if j<i then j else i)) H2):=by
 exact zb (To hc) hg ml rfl (qM ha (qM hb rG hs2) (by rw[hs,hs2])) (he:=by rw[hs,hs2]) (hpl:=by rw[hs2];rfl)
theorem Va(ml:X.mg "max"=none) (ha:PE X a ta) (hb:PE X b tb) (hc:X.calm=true:=by rfl) (hg:Gl X "max":=by rfl) (hs:starEach [a,b] X.env=[(false,eval a X.env),(false,eval b X.env)]:=by rfl) (hs2:starEach [b] X.env=[(false,eval b X.env)]:=by rfl):
  PE X (.Call (.Name "max" p) [a,b] [] pos) (fun B H Q=>ta B H fun x H1=>tb B H1 fun y H2=>∃i j,[x,y]=[.int i,.int j]/\Q (.int (if j>i then j else i)) H2):=by
 exact zb (SQ hc) hg ml rfl (qM ha (qM hb rG hs2) (by rw[hs,hs2])) (he:=by rw[hs,hs2]) (hpl:=by rw[hs2];rfl)
theorem iL(K:Frag){tg:Expr}(ha:PE X a ta)(hK:X.K=K:=by rfl):PI X tg a (IH K ta):=by subst hK;exact GZ ha
theorem iT(K:Frag){tg:Expr}(ha:PE X a ta)(hK:X.K=K:=by rfl):PI X tg a (Hi K ta):=by subst hK;exact OC ha
theorem iR(mr:X.mg "range"=none) {tg:Expr} (ha:PE X a ta) (hg:Gl X "range":=by rfl) (hs:starEach [a] X.env=[(false,eval a X.env)]:=by rfl):PI X tg (.Call (.Name "range" p) [a] [] pos) (Ig (sm ta tQ)):=O6 hg mr (qM ha rG hs) hs
theorem Mc(K:Frag){apos:Pos}(ho:PE X o to)(ha:PE X a ta)(hs:starEach [a] X.env=[(false,eval a X.env)]:=by rfl)
  (hbase:attributeBase o "append" X.env (eval o X.env)=eval o X.env:=by rfl) (hline:(apos.endLine==pos.line)=true:=by rfl) (hK:X.K=K:=by rfl)
  (hfew:((backTo pos (starEach [a] X.env)).all (fun x=>!x.1)&&(backToKw pos (keywordEach [] X.env)).all (fun x=>x.1.isSome)
   &&decide ([a].length+([]:List Keyword).length+(if([]:List Keyword).isEmpty then 0 else 1)<30))=true:=by rfl):
  PE X (.Call (.Attribute o "append" apos) [a] [] pos) (tBM K "list" Ko to (sm ta tQ)):=by
 subst hK;exact J4 PySem.F.plainAttrs_list PySem.F.slot_list_append PySem.F.type_list_append CB ho (qM ha rG hs) hbase hfew hline hs
end
def Pot(H:Hp)(p:Addr):Prop:=∃a b c:Int,H p=some (.lst [.int a,.int b,.int c])
structure Drawn (p:Addr) (H H':Hp):Prop where
 but:But p H H'
 pot:Pot H' p
def NP{xs:List V}{r:Int}(h0:0<=r)(h1:r<(xs.length:Int)):atI xs r=some (xs[r.toNat]'(by omega)):=by
 have hk:r.toNat<xs.length:=by omega
 have:=N0 (xs:=xs) (j:=r.toNat) (v:=xs[r.toNat]) (by simp[hk]);have er:((r.toNat:Nat):Int)=r:=by omega
 rw[er] at this;exact this
section
variable {X:Cx} {a:Expr} {ta:TE} {p pos:Pos}
theorem So(K:Frag)(ml:X.mg "isinstance"=none) {b:Expr} {tb:TE} (ha:PE X a ta) (hb:PE X b tb) (hg:Gl X "isinstance":=by rfl) (hs:starEach [a,b] X.env=[(false,eval a X.env),(false,eval b X.env)]:=by rfl) (hs2:starEach [b] X.env=[(false,eval b X.env)]:=by rfl) (hK:X.K=K:=by rfl):
  PE X (.Call (.Name "isinstance" p) [a,b] [] pos) (fun B H Q=>ta B H fun x H1=>tb B H1 fun y H2=>∃(x':V) (t:String) (c:String),[x,y]=[x',.ty c]/\TyN K H2 x' t/\clNames.contains c=true/\Q (.bl (x9 t c)) H2):=by
 subst hK;exact zb SA hg ml rfl (qM ha (qM hb rG hs2) (by rw[hs,hs2])) (he:=by rw[hs,hs2]) (hpl:=by rw[hs2];rfl)
theorem gT(K:Frag){es:List Expr}{k:Nat}{t:TGs}{n:Nat}(h:PGs X es t)(hc:X.calm=true:=by rfl)(hn:(assignEach es X.env).length=n:=by rfl)(hst:(assignEach es X.env).findIdx? (·.1)=none:=by rfl)(hK:X.K=K:=by rfl):
  PG X (.Tuple es k pos) (EA K n t):=by subst hK;exact Sg hc h hn hst
theorem iEn(K:Frag)(ml:X.mg "enumerate"=none) {elts:List Expr} {k:Nat} {tpos:Pos} (ha:PE X a ta) (hg:Gl X "enumerate":=by rfl) (hs:starEach [a] X.env=[(false,eval a X.env)]:=by rfl) (hK:X.K=K:=by rfl):
  PI X (.Tuple elts k tpos) (.Call (.Name "enumerate" p) [a] [] pos) (Iw K (sm ta tQ)):=by
 subst hK;exact Qh hg ml (qM ha rG hs) hs
theorem iZ(K:Frag)(ml:X.mg "zip"=none) {b:Expr} {tb:TE} {elts:List Expr} {k:Nat} {tpos:Pos} (ha:PE X a ta) (hb:PE X b tb) (hg:Gl X "zip":=by rfl) (hs:starEach [a,b] X.env=[(false,eval a X.env),(false,eval b X.env)]:=by rfl) (hs2:starEach [b] X.env=[(false,eval b X.env)]:=by rfl) (hK:X.K=K:=by rfl):
  PI X (.Tuple elts k tpos) (.Call (.Name "zip" p) [a,b] [] pos) (IU K (sm ta (sm tb tQ))):=by
 subst hK;exact No hg ml (qM ha (qM hb rG hs2) (by rw[hs,hs2])) hs hs2
end
def Cs{xs:List V}{Pd:V->Prop}{r:Int}(h:∀x∈xs,Pd x)(h0:0<=r)(h1:r<(xs.length:Int)):∃v,atI xs r=some v/\Pd v:=
 ⟨_,NP h0 h1,h _ (V5 _)⟩
section
variable {X:Cx} {a b o:Expr} {ta tb to:TE} {pos:Pos}
theorem PV(K:Frag){apos:Pos}(ho:PE X o to)(ha:PE X a ta)(hb:PE X b tb)(hs:starEach [a,b] X.env=[(false,eval a X.env),(false,eval b X.env)]:=by rfl)(hs2:starEach [b] X.env=[(false,eval b X.env)]:=by rfl)
  (hbase:attributeBase o "setdefault" X.env (eval o X.env)=eval o X.env:=by rfl) (hline:(apos.endLine==pos.line)=true:=by rfl) (hK:X.K=K:=by rfl)
  (hfew:((backTo pos (starEach [a,b] X.env)).all (fun x=>!x.1)&&(backToKw pos (keywordEach [] X.env)).all (fun x=>x.1.isSome)
   &&decide ([a,b].length+([]:List Keyword).length+(if([]:List Keyword).isEmpty then 0 else 1)<30))=true:=by rfl):
  PE X (.Call (.Attribute o "setdefault" apos) [a,b] [] pos) (tBM K "dict" HK to (sm ta (sm tb tQ))):=by
 subst hK;exact J4 PySem.F.plainAttrs_dict PySem.F.slot_dict_setdefault PySem.F.type_dict_setdefault QG ho (qM ha (qM hb rG hs2) (by rw[hs,hs2])) hbase hfew hline (by rw[hs,hs2]) (by rw[hs2];rfl)
theorem Px(K:Frag){apos:Pos}(ho:PE X o to)(hbase:attributeBase o "values" X.env (eval o X.env)=eval o X.env:=by rfl) (hline:(apos.endLine==pos.line)=true:=by rfl) (hK:X.K=K:=by rfl):
  PE X (.Call (.Attribute o "values" apos) [] [] pos) (Bb K "dict" Hj to):=by
 subst hK;exact Js PySem.F.plainAttrs_dict PySem.F.slot_dict_values PySem.F.type_dict_values NG ho hbase hline
end
abbrev Cel:=Int×List Int×Addr
def gs(cs:List Cel):List (Int×List Int):=cs.map fun c=>(c.1,c.2.1)
section
variable {K:Frag} {H:Hp}
theorem Dps.len:∀{vs:List V} {ds:List PyData},Dps K H vs ds->vs.length=ds.length
 |_,_,.nil=>rfl
 |_,_,.cons _ hs=>congrArg (·+1) (Dps.len hs)
theorem Dps.get:∀{vs:List V} {ds:List PyData} {i:Nat} {v:V},Dps K H vs ds->vs[i]?=some v->∃d,ds[i]?=some d/\Dp K H v d
 |_,_,_,_,.nil,h=>by simp at h
 |_,_,0,_,.cons (d:=d) h hs,e=>by
  have:_=_:=VP e;subst this;exact⟨d,rfl,h⟩
 |_,_,i+1,_,.cons h hs,e=>Dps.get (i:=i) hs e
end
def IsMax(M:Int)(l:List Int):Prop:=M∈l/\∀a∈l,a<=M
def IsMax.step{M x:Int}{l:List Int}(h:IsMax M l):IsMax (if x>M then x else M) (l++[x]):=by
 obtain⟨h1,h2⟩:=h;refine(⟨?_,fun a ha=>?_⟩)
 ·split
  ·simp
  ·exact List.mem_append_left _ h1
 ·rcases VQ.mp ha with z|z
  ·have:=h2 a z;split<;>omega
  ·have:a=x:=by simpa using z
   subst this;split<;>omega
def Gc(ns:List Int)(j:Nat):Option Value->Prop
 |none=>j=0
 |some v=>∃M t,v=.int M t/\IsMax M (ns.take j)
def Ku:Option Value->Array Value
 |none=>#[]
 |some v=>#[v,v]
theorem KF:∀{vs:List Value} {ns:List Int} {j:Nat} {v:Value},IntsAre vs ns->vs[j]?=some v->∃t,v=.int (ns.getD j 0) t
 |_,_,_,_,.nil,h=>by simp at h
 |_,_,0,_,.cons n t _,h=>⟨t,(VP h).symm⟩
 |_,_,j+1,_,.cons n t r,h=>by
  obtain⟨t',e⟩:=KF (j:=j) r h;exact(⟨t',by simpa using e⟩)
def Uh(a d:Value):argsOk "max" ⟨[a],[("default",d)]⟩:=by unfold argsOk;kernel_rfl
section
variable {prog:Program} {w:World} {A:Around} {R:Result->Shared->Prop} {I l:Addr} {items:Array Value} {ns:List Int} {d:Value}
theorem SJ(hh:A.in1.handled=none)(hne:l≠I)(hi:IntsAre items.toList ns)(S:Addr)(hSI:S≠I)(hSl:S≠l):
  ∀(k j:Nat) (s:Shared) (b:Option Value) (c:Nat),items.size - j=k->j<=items.size->s.heap.IsListIter I l j->s.heap.IsList l items->Gc ns j b->
   s.heap.get? S=some {cls:=.type "list",dict:=none,data:=.seq (Ku b) c,slots:=#[]}->
   (∀v h' tk,((ns=[]/\v=d)\/∃M t,v=.int M t/\IsMax M ns)->(∀x o,x≠I->x≠S->s.heap.get? x=some o->h'.get? x=some o)->R (.ok (.ret v)) {s with heap:=h',toks:=tk})->
   codeAny (model prog w) A (.builtin "max.loop" ⟨[.ref I,.none,.ref S],[("default",d)]⟩) R s:=by
 have hnm:(toString "max"++toString ".loop":String)="max.loop":=by decide
 have hlen:ns.length=items.size:=by have:=hi.length;rw[WK] at this;omega
 have W:=Walks.list (prog:=prog) (w:=w) hh I l hne items;intro k;induction k with
 |zero=>
  intro j s b c hk hj st1 st2 hb hS hR;have ej:j=items.size:=by omega
  subst ej;refine WV (F.entry_max_loop) (by
   rw[Wo W9];show wpAny _ A.in1 (seqItems? (.ref S) >>= fun _=>_) _ _ s;refine Vt (wpAny_seqItems hS rfl (?_:wpAny _ A.in1 (tryCatch (pyNext (.ref I)) (fun _=>_) >>= fun _=>_) _ _ s));refine Vt (wpAny_tryCatch (W.done s _ _ ⟨st1,st2⟩ fun h' tk keep=>?_));have kS:=keep S _ (by simpa using hSI) hS;cases b with
   |none=>
    have hb0:items.size=0:=hb;have hn:ns=[]:=WG.mp (by omega);show wpAny _ A.in1 (rule _ >>= fun _=>ret d) _ _ _;exact Vt (wpAny_rule (Vx (hR d h' tk (.inl ⟨hn,rfl⟩) fun x o n1 _ e=>keep x o (by simpa using n1) e)))
   |some v=>
    obtain⟨M,t,rfl,hM⟩:=hb;have htk:ns.take items.size=ns:=List.take_of_length_le (by omega);rw[htk] at hM;show wpAny _ A.in1 (updateSeq S (fun _=>#[]) >>= fun _=>_) _ _ _;refine Vt (wpAny_updateSeq (hz:=by show 2<=sizeLine;decide) kS rfl (Vt (wpAny_letGo (Vx (hR _ _ tk (.inr ⟨M,t,rfl,hM⟩) fun x o n1 n2 e=>?_)))));exact(Wq _ _ (Ne.symm n2)).trans (keep x o (by simpa using n1) e))
 |succ k ih=>
  intro j s b c hk hj st1 st2 hb hS hR;have hlt:j<items.size:=by omega
  refine WV (F.entry_max_loop) (by
   rw[Wo W9];show wpAny _ A.in1 (seqItems? (.ref S) >>= fun _=>_) _ _ s;refine Vt (wpAny_seqItems hS rfl (?_:wpAny _ A.in1 (tryCatch (pyNext (.ref I)) (fun _=>_) >>= fun _=>_) _ _ s));refine Vt (wpAny_tryCatch (W.item j s _ _ hlt ⟨st1,st2⟩ fun v h' tk hv st' keep=>?_));have kS:=keep S _ (by simpa using hSI) hS;have hx:∃t,v=.int (ns.getD j 0) t:=by
    exact KF hi (by rw[Array.getElem?_toList];exact hv)
   obtain⟨t,rfl⟩:=hx;have htk:ns.take (j+1)=ns.take j++[ns.getD j 0]:=by
    rw[List.take_add_one,VD,VA (by omega)];rfl
   have goOn:∀(b':Option Value) (h2:Heap) (c':Nat),Gc ns (j+1) b'->h2.get? S=some {cls:=.type "list",dict:=none,data:=.seq (Ku b') c',slots:=#[]}->
     (∀x o,x≠S->h'.get? x=some o->h2.get? x=some o)->codeAny (model prog w) A (.builtin "max.loop" ⟨[.ref I,.none,.ref S],[("default",d)]⟩) R {s with heap:=h2,toks:=tk}:=fun b' h2 c' hb' hS' k2=>by
    refine ih (j+1) _ b' c' (by omega) hlt (st'.1.at fun o e=>k2 I o (Ne.symm hSI) e) (st'.2.at fun o e=>k2 l o (Ne.symm hSl) e) hb' hS' fun v' h3 tk3 hv' k3=>hR v' h3 tk3 hv' fun x o n1 n2 e=>?_;exact k3 x o n1 n2 (k2 x o n2 (keep x o (by simpa using n1) e))
   cases b with
   |none=>
    have hb0:j=0:=hb;subst hb0;show wpAny _ A.in1 (updateSeq S (fun _=>#[Value.int (ns.getD 0 0) t,Value.int (ns.getD 0 0) t]) >>= fun _=>_) _ _ _;refine Vt (wpAny_updateSeq kS rfl ?_);rw[hnm];refine Vx ⟨W8 W9 _,goOn (some (.int (ns.getD 0 0) t)) _ _ ⟨_,t,rfl,?_⟩ (Heap.get?_update_self _ kS rfl) fun x o n e=>(Wq _ _ (Ne.symm n)).trans e⟩;rw[htk];exact⟨by simp,fun a ha=>by
     have:a=ns.getD 0 0:=by simpa using ha
     omega⟩
   |some vb=>
    obtain⟨M,tb,rfl,hM⟩:=hb;show wpAny _ A.in1 (tryCatch (holding [Value.int (ns.getD j 0) t,Value.int (ns.getD j 0) t] (richCompare .Gt (.int (ns.getD j 0) t) (.int M tb) >>= fun _=>_)) (fun _=>_) >>= fun _=>_) _ _ _;refine Vt (wpAny_tryCatch (WD (Vt ?_)));refine richCompare_gives (op:=.Gt) (typeIs_int _ _ t) (typeIs_int _ _ tb) F.slot_int_gt F.entry_int_gt (F.args_int_gt_2 _ _) (gives_int_gt _ _ t tb) (fun x=>nomatch x) ?_;refine Vt (WD (We (Vt (wpAny_letGo (Vx ?_)))));have hst:=hM.step (x:=ns.getD j 0);rw[←htk] at hst;by_cases hgt:ns.getD j 0>M
    ·rw[if_pos hgt] at hst;rw[if_pos (VX hgt)];refine Vt (wpAny_updateSeq (hz:=by show 2<=sizeLine;decide) kS rfl (Vt (wpAny_letGo ?_)));rw[hnm];exact Vx ⟨W8 W9 _,goOn (some (.int (ns.getD j 0) t)) _ _ ⟨_,t,rfl,hst⟩ (Heap.get?_update_self _ kS rfl) fun x o n e=>(Wq _ _ (Ne.symm n)).trans e⟩
    ·rw[if_neg hgt] at hst;rw[if_neg (by simpa using hgt)];refine Vt (wpAny_letGo ?_);rw[hnm];exact Vx ⟨W8 W9 _,goOn (some (.int M tb)) _ _ ⟨_,tb,rfl,hst⟩ kS fun x o _ e=>e⟩)
theorem Vk{E:OK}{s:Shared}{Q:OK}{vs:List Value}(hh:A.handled=none)(hl:s.heap.IsList l vs.toArray)(hi:IntsAre vs ns)
  (h:∀v h' tk,((ns=[]/\v=d)\/∃M t,v=.int M t/\IsMax M ns)->(∀b o,s.heap.get? b=some o->h'.get? b=some o)->Q v {s with heap:=h',toks:=tk}):
  wpAny (model prog w) A (call (.builtin "max") [.ref l] [("default",d)]) Q E s:=by
 have hnm:(toString "max"++toString ".loop":String)="max.loop":=by decide
 obtain⟨ol,el,_⟩:=id hl;have llt:l<s.heap.objs.size:=Vy el;have body:wpAny (model prog w) A.in1 (Builtin.«max» ⟨[.ref l],[("default",d)]⟩) (fun fin s'=>match fin with
   | .done f=>(match(Except.ok f:Result) with| .ok (.ret v)=>Q v s'| .ok _=>False| .error e=>E e s')
   | .again c'=>c'.quiet=true/\codeAny (model prog w) A c' (fun r s'=>match r with| .ok (.ret v)=>Q v s'| .ok _=>False| .error e=>E e s') s') E s:=by
  show wpAny _ A.in1 (Builtin.Builtins.bindParams "max" ["key","default"] 0 ⟨[],[("default",d)]⟩ >>= fun _=>_) _ _ s;refine Vt (wpAny_of_eq (show Builtin.Builtins.bindParams "max" ["key","default"] 0 ⟨[],[("default",d)]⟩=pure [none,some d] from by with_unfolding_all rfl) (Vt (Vx ?_)));refine Vt (wpAny_pyIter_list hl ?_);refine Vt (Wg ?_);rw[hnm];refine Vx ⟨W8 W9 _,?_⟩;have e1:(s.heap.push {cls:=.type "list_iterator",data:=.fields #[.ref l,.int 0 0]}).objs.size=s.heap.objs.size+1:=Wi ..;refine SJ (I:=s.heap.objs.size) (l:=l) (items:=vs.toArray) (ns:=ns) (d:=d) hh (VN llt) (by simpa using hi) _ (by rw[e1];exact Xc (Nat.lt_succ_self _)) (by rw[e1];exact Xc (Xb llt)) _ 0 _ none 0 rfl (Wm _)
   ⟨_,Vu _ (VC _ rfl),rfl,rfl⟩ ((hl.push _).push _) rfl (VC _ rfl) fun v h' tk hv kp=>?_
  refine h v h' tk hv fun b o e=>kp b o (VN (Vy e)) (by rw[e1];exact VN (Xb (Vy e))) (Vu _ (Vu _ e))
 refine wpAny_call (codeAny_call_builtin F.plain_max F.entry_max ?_);simp only[checkBuiltinCall,F.kind_max];have ha:=Uh (.ref l) d;cases hsig:Manifest.signature? "max" with
 |none=>exact Vx body
 |some sig=>
  simp only[argsOk,hsig] at ha;have h2:Bind.checkArgs "max" sig ⟨[.ref l],[("default",d)]⟩=pure ():=ha;show wpAny _ A.in1 (Bind.checkArgs "max" sig ⟨[.ref l],[("default",d)]⟩) _ _ s;rw[h2];exact Vx body
end
section
variable {X:Cx} {a b:Expr} {ta tb:TE} {p pos kp:Pos}
theorem OM(K:Frag)(mm:X.mg "max"=none) (ha:PE X a ta) (hb:PE X b tb) (hc:X.calm=true:=by rfl) (hg:Gl X "max":=by rfl) (hs:starEach [a] X.env=[(false,eval a X.env)]:=by rfl) (hK:X.K=K:=by rfl)
  (hall:(backToKw pos (keywordEach [⟨some "default",b,kp⟩] X.env)).all (·.1.isSome)=true:=by rfl) (hks:(backToKw pos (keywordEach [⟨some "default",b,kp⟩] X.env)).filterMap (·.1)=([Str.ofString "default"]:List Str):=by rfl)
  (hno:(backToKw pos (keywordEach [⟨some "default",b,kp⟩] X.env)).any (·.1.isNone)=false:=by rfl):
  PE X (.Call (.Name "max" p) [a] [⟨some "default",b,kp⟩] pos) (fun B H Q=>ta B H fun x H1=>tb B H1 fun y H2=>∃(q:Addr) (ns:List Int) (j:Int),x=.ref q/\y=.int j/\SqL K H2 q (ns.map V.int)/\(ns=[]->Q (.int j) H2)/\∀M,IsMax M ns->Q (.int M) H2):=by
 subst hK;intro pins s B H Q I h;have hb1:backTo pos (starEach [a] X.env)=[(false,eval a X.env)]:=by rw[hs];rfl
 refine WO (t6 I hg mm (u:=.builtin "max") rfl (callWith_builtin_kwB (by rw[hb1];rfl) hno ?_));rw[hb1];refine evalArgs_kwB hall (Calls.spliced_cons (thn (ha pins s B H _ I h) fun u s1 ⟨x,H1,I1,r1,q1⟩=>Calls.spliced_nil ?_));refine kws_cons (thn (hb pins s1 B H1 _ I1 q1) fun u2 s2 ⟨y,H2,I2,r2,q2⟩=>kws_nil ?_);obtain⟨q,ns,j,rfl,rfl,hq,hz,hm⟩:=q2;cases r1;obtain⟨t,rfl⟩:=r2;obtain⟨its,rv,pl,_⟩:=I2.list hq;rw[hks];refine Vk (d:=.int j t) (I2.ok.hd hc) pl.isList (MS rv) fun v h' tk hv kp'=>?_;rcases hv with⟨e,rfl⟩|⟨M,t',rfl,hM⟩
 ·exact⟨.int j,H2,I2.kept kp',⟨_,rfl⟩,hz e⟩
 ·exact⟨.int M,H2,I2.kept kp',⟨_,rfl⟩,hm M hM⟩
end
section
variable {X:Cx} {a b:Expr} {ta tb:TE} {p pos:Pos}
theorem Ts:tz X (.type "int") (fun xs H Q=>∃k,xs=[V.bl k]/\Q (.int (if k then 1 else 0)) H):=fun pins s B H xs us Q I r h=>Ux pins s B H xs us Q I r (.inr h)
theorem Q6(ml:X.mg "int"=none) (ha:PE X a ta) (hg:Gl X "int":=by rfl) (hs:starEach [a] X.env=[(false,eval a X.env)]:=by rfl):
  PE X (.Call (.Name "int" p) [a] [] pos) (fun B H Q=>ta B H fun x H1=>∃k,[x]=[V.bl k]/\Q (.int (if k then 1 else 0)) H1):=
 Au Ts hg ml rfl (qM ha rG hs) (he:=hs)
theorem iR2(mr:X.mg "range"=none) {tg:Expr} (ha:PE X a ta) (hb:PE X b tb) (hg:Gl X "range":=by rfl) (hs:starEach [a,b] X.env=[(false,eval a X.env),(false,eval b X.env)]:=by rfl) (hs2:starEach [b] X.env=[(false,eval b X.env)]:=by rfl):
  PI X tg (.Call (.Name "range" p) [a,b] [] pos) (KL (sm ta (sm tb tQ))):=U4 hg mr (qM ha (qM hb rG hs2) (by rw[hs,hs2])) hs hs2
end
abbrev Ask:=Nat×Nat×Bool
section
variable {X:Cx}
theorem Nk:OpR X (binaryOp .FloorDiv) (rI (fun _ j=>0<j/\j<2^200) fun i j=>.int (i/j)):=opI fun i j _ _ _ _ _ hc q=>by
 obtain⟨h1,h2⟩:=hc;refine floordiv_int (by omega) (by rw[Int.fdiv_eq_ediv_of_nonneg i (by omega)];exact q) (.inl (PyProof.noPylong_of_log2 ?_));have h3:j.natAbs≠0:=by omega
 have h4:j.natAbs<2^200:=by
  have:((j.natAbs:Nat):Int)=j:=by omega
  have h5:((j.natAbs:Nat):Int)<((2^200:Nat):Int):=by rw[this];exact_mod_cast h2
  omega
 have:=(Nat.log2_lt h3).mpr h4;omega
end
inductive Tr where
 |none
 |one (i:Int)
 |ask (i j:Int) (a u:Tr)
theorem Gx:∀{bs:List Bool} {us:List Value},Vals (bs.map V.bl) us->us=bs.map Value.bool
 | [],_,h=>by cases h;rfl
 |b::r,_,h=>by
  cases h with
  |cons h1 h2=>
   cases (show _=Value.bool b from h1);rw[Gx h2];rfl
section
variable {X:Cx} {a b o:Expr} {ta:TE} {p pos:Pos}
theorem SK(K:Frag)(mm:X.mg "all"=none) (ha:PE X a ta) (hc:X.calm=true:=by rfl) (hg:Gl X "all":=by rfl) (hs:starEach [a] X.env=[(false,eval a X.env)]:=by rfl) (hK:X.K=K:=by rfl):
  PE X (.Call (.Name "all" p) [a] [] pos) (fun B H Q=>ta B H fun x H1=>∃(q:Addr) (bs:List Bool),[x]=[.ref q]/\SqL K H1 q (bs.map V.bl)/\Q (.bl (bs.all id)) H1):=by
 subst hK;have rule:tz X (.builtin "all") (fun xs H Q=>∃(q:Addr) (bs:List Bool),xs=[.ref q]/\SqL X.K H q (bs.map V.bl)/\Q (.bl (bs.all id)) H):=by
  intro pins s B H xs us Q I r h;obtain⟨q,bs,rfl,hq,k⟩:=h;obtain⟨u,rfl,ru⟩:=vE r;cases ru;obtain⟨its,rv,pl,hz⟩:=I.list hq;have ei:its=bs.map Value.bool:=Gx rv;subst ei;obtain⟨ol,el,_⟩:=id pl.isList;have qlt:q<s.heap.objs.size:=Vy el;refine(call_all_walk (wpAny_pyIter_list pl.isList ⟨_,_,_,_,_,_,fun i=>bs.getD i false,rfl,Walks.list (A:=X.A.in1) (I.ok.hd hc) _ q (VN qlt) (bs.map Value.bool).toArray,⟨⟨_,VC _ rfl,rfl,rfl⟩,pl.isList.push _⟩,?_,fun h' tk keep=>?_⟩))
  ·intro i v s' Q' E' hv hQ;have hv':(bs.map Value.bool)[i]?=some v:=by simpa using hv
   rw[VR] at hv';cases eb:bs[i]? with
   |none=>rw[eb] at hv';cases hv'
   |some b=>
    rw[eb] at hv';have:v=.bool b:=(VP hv').symm;subst this;have e2:bs.getD i false=b:=by rw[VD,eb];rfl
    simp only[e2] at hQ;exact We hQ
  ·have ea:(List.range (bs.map Value.bool).toArray.size).all (fun i=>bs.getD i false)=bs.all id:=by
    rw[WW,V4,V4];constructor
    ·intro hh b hb;obtain⟨i,hi⟩:=Wk hb;have:=hh i (by simp;exact(Vw.mp hi).1);rw[VD,hi] at this;exact this
    ·intro hh i hi;have hi':i<bs.length:=by simpa using hi
     rw[VD,VA hi'];exact hh _ (V5 hi')
   rw[ea];have kp:∀b o,s.heap.get? b=some o->h'.get? b=some o:=fun b o e=>keep b o (fun hm=>absurd (VO.mp hm) (VN (Vy e))) (Vu _ e);exact⟨.bl _,H,I.kept kp,rfl,k⟩
 exact zb rule hg mm rfl (qM ha rG hs) (he:=hs)
end
def QU(o:List Int)(k:Int):Nat:=if k∈o then o.idxOf k+1 else o.length
def OZ(o:List Int)(fs:List Nat)(n:Nat)(k:Int)(m:Nat):List Ask:=(List.range m).map fun at_=>(fs.getD at_ 0,n,decide (o.getD at_ 0=k))
def ob(ks:List Int):Nat->List Int×List Nat×List Ask
 |0=>([],[],[])
 |n+1=>(if ks.getD n 0∈(ob ks n).1 then(ob ks n).1 else(ob ks n).1++[ks.getD n 0],
   if ks.getD n 0∈(ob ks n).1 then(ob ks n).2.1 else(ob ks n).2.1++[n],
   (ob ks n).2.2++OZ (ob ks n).1 (ob ks n).2.1 n (ks.getD n 0) (QU (ob ks n).1 (ks.getD n 0)))
section
variable {prog:Program} {w:World} {A:Around} {R:Result->Shared->Prop} {s:Shared}
theorem Lr{kx vx target iter:Expr}{ifs:List Expr}{scope:Scope}{pos:Pos}{it:Value}{D:Addr}{env:Env}(I:Nat->Shared->Prop)
  (turn:∀n s,I n s->wpAny (model prog w) A (pyNext it) (fun r ZU=>match r with
   |none=>R (.ok .next) ZU
   |some v=>wpAny (model prog w) A (letOwnedTupleGo target it v) (fun _ ZA=>wpAny (model prog w) A (assign target env v) (fun _ ZJ=>
     wpAny (model prog w) A (forIn ifs true fun c r=>if r=true then do let ok ←isTrue c env (eval c env);pure (ForInStep.yield ok) else pure (ForInStep.yield r)) (fun ok ZL=>
      if ok=true then wpAny (model prog w) A (eval kx env) (fun kv ZG=>wpAny (model prog w) A (eval vx env) (fun vv ZD=>
       wpAny (model prog w) A (dictSet D kv vv) (fun _ Zl=>∃m,m<n/\I m Zl) (fun _ _=>False) ZD) (fun _ _=>False) ZG) (fun _ _=>False) ZL
      else ∃m,m<n/\I m ZL) (fun _ _=>False) ZJ) (fun _ _=>False) ZA) (fun _ _=>False) ZU) (fun _ _=>False) s)
  (n:Nat) (h:I n s):codeAny (model prog w) A (.compLoop (.DictComp kx vx [⟨target,iter,ifs,0⟩] scope pos) 0 it (.ref D) env) R s:=by
 refine codeAny_loop rfl I (fun n s hI=>?_) n h;show wpAny _ A ((compTurn (.DictComp kx vx [⟨target,iter,ifs,0⟩] scope pos) 0 it (.ref D) env).onRaise (fun x=>do noteFrame x env;theTreesLotGoes x)) _ _ s;refine wpAny_noted ?_;rw[compTurn_dict];refine Vz (E:=fun _ _=>False) ?_ (fun _ _ x=>x) fun _ _ x=>x.elim;refine Vt (WE (Vt (Vz (turn n s hI) (fun r ZU ZQ=>?_) fun _ _ h'=>h')));cases r with
 |none=>exact Vx ZQ
 |some v=>
  refine Vt (Vz ZQ (fun _ ZA Zu=>?_) fun _ _ h'=>h');refine Vt (Vz Zu (fun _ ZJ ZB=>Vt (Vz ZB (fun ok ZL ZE=>?_) fun _ _ h'=>h')) fun _ _ h'=>h');cases ok with
  |false=>exact Vx ⟨rfl,ZE⟩
  |true=>
   exact Vt (Vt (Vz ZE (fun kv ZG Zt=>Vt (WD (Vz Zt (fun vv ZD Zs=>Vt (WE (WD (Vz Zs (fun _ Zl Zi=>Vx ⟨rfl,Zi⟩) fun _ _ h'=>h')))) fun _ _ h'=>h'))) fun _ _ h'=>h'))
end
def zu(Z6:It)(g:TG)(tc:TT)(tk tv:TE)(D:Addr)(ZM:St)(H0:Hp)(Z:Hp->Prop):Prop:=
 ∃W:Nat->Nat->St->Hp->Prop,(∃m,W 0 m ZM (upd H0 D (.dK [])))/\∀i m B H,W i m B H->
  (Z6.stop i H/\Z H)\/(Z6.go i H/\∃N:St->Hp->Prop,(∀ZZ H',N ZZ H'->∃m',m'<m/\W (i+1) m' ZZ H')/\∀x H',Z6.yld i H x H'->g x B H' fun ZW H2=>tc ZW H2 fun b H3=>
   if b=true then tk ZW H3 fun y H4=>tv ZW H4 fun v H5=>∃kvs k,H5 D=some (.dK kvs)/\kvs.length<sizeLine/\y=kV k/\N ZW (upd H5 D (.dK (qP kvs k v))) else N ZW H3)
section
variable {X:Cx} {pins:QS} {B:St} {N' own:List Str} {cap:List (Str×Nat)} {scope:Scope} {tg iter kx vx:Expr} {ifs:List Expr} {pos:Pos} {g:TG} {tc:TT} {tk tv:TE} {wi:TI}
theorem UP{Y:Cx}{s:Shared}{ZM:St}{H2:Hp}{it D:Addr}{fp:List Addr}{tn:Nat->Heap->Prop}{Z6:It}{Z:Hp->Prop}{R:Result->Shared->Prop}
  (hx:∀e s,Y.xe e s->False) (hc:Y.calm=true) (hg:PG Y tg g) (ht:PIf Y ifs tc) (hk0:PE Y kx tk) (hv0:PE Y vx tv)
  (T:Turn Y.prog Y.w Y.K tg Z6 fp it tn) (J0:Inv Y [] ZM (upd H2 D (.dK [])) s) (st3:tn 0 s.heap) (f3:∀b∈fp,upd H2 D (.dK []) b=none)
  (stat:∀{H':Hp},(∀b∈fp,H' b=none)->∀b∈fp,qK Y [] H' b) (h:zu Z6 g tc tk tv D ZM H2 Z)
  (hR:∀ZP H4 s5,Inv Y [] ZP H4 s5->Z H4->R (.ok .next) s5):
  codeAny (model Y.prog Y.w) Y.A (.compLoop (.DictComp kx vx [⟨tg,iter,ifs,0⟩] scope pos) 0 (.ref it) (.ref D) Y.env) R s:=by
 obtain⟨W,⟨m0,w0⟩,turn⟩:=h;have noX:∀{J:Type} {t:Sem J} {Q:J->Shared->Prop} {s:Shared},wpAny (model Y.prog Y.w) Y.A t Q Y.xe s->wpAny (model Y.prog Y.w) Y.A t Q (fun _ _=>False) s:=fun q=>Vz q (fun _ _ z=>z) fun e s z=>hx e s z;obtain⟨P,hP⟩:∃P:Nat->Shared->Prop,∀n s',P n s'↔∃i ZZ H',Inv Y [] ZZ H' s'/\tn i s'.heap/\(∀b∈fp,H' b=none)/\W i n ZZ H':=⟨_,fun _ _=>Iff.rfl⟩
 refine Lr P ?_ m0 ((hP _ _).2 ⟨0,_,_,J0,st3,f3,w0⟩);rintro n s4 h4;obtain⟨i,ZP,H4,I4,st4,fr4,w4⟩:=(hP _ _).1 h4;rcases turn i n ZP H4 w4 with⟨stop,qz⟩|⟨go,N,hN,step⟩
 ·refine Vz (T.done Y rfl rfl rfl hc i [] s4 ZP H4 (fun _ _=>False) I4 (stat fr4) st4 stop) (fun r s5 ⟨hr,I5⟩=>?_) fun _ _ z=>z;subst hr;exact hR ZP H4 s5 I5 qz
 ·refine Vz (T.item Y rfl rfl rfl hc i [] s4 ZP H4 (fun _ _=>False) I4 (stat fr4) st4 go) (fun r s5 ⟨u,hr,h5⟩=>?_) fun _ _ z=>z;subst hr;refine Vz h5 (fun _ s6 hm=>?_) fun _ _ z=>z;obtain⟨x,H6,I6,r6,y6,st6,fr6⟩:=hm;have I6':=I6.pinned (stat fr6) (T.obj _ _ st6);have again:∀{ZS:St} {H7:Hp} {s7:Shared},Inv Y ([]++vd fp s6.heap) ZS H7 s7->N ZS H7->∃m,m<n/\P m s7:=fun{ZS H7 s7} I7 n7=>by
   obtain⟨m',hm,w7⟩:=hN ZS H7 n7;refine(⟨m',hm,(hP _ _).2 ⟨i+1,ZS,H7,I7.unpinned,T.keep _ _ _ st6 fun b hb o e=>(I7.pin (b,o) (VE _ (VE _ (uu hb e)))).1,fun b hb=>?_,w7⟩⟩);obtain⟨o,e,d⟩:=T.obj _ _ st6 b hb;exact((I7.pin (b,o) (VE _ (VE _ (uu hb e)))).2.1)
  refine noX (thn (hg _ s6 ZP H6 x u _ I6' r6 (step x H6 y6)) fun _ s7 hm=>?_);obtain⟨ZS,H7,I7,q7⟩:=hm;refine(noX (thn (ht _ s7 ZS H7 _ I7 q7) fun b s8 hm=>?_));obtain⟨H8,I8,q8⟩:=hm;cases b with
  |false=>
   show ∃m,_;exact again I8 q8
  |true=>
   show wpAny _ _ _ _ _ _;refine noX (thn (hk0 _ s8 ZS H8 _ I8 q8) fun kv s9 hm=>?_);obtain⟨vk,H9,I9,r9,q9⟩:=hm;refine(noX (thn (hv0 _ s9 ZS H9 _ I9 q9) fun vv s10 hm=>?_));obtain⟨v,H10,I10,r10,kvs,k,e10,hz,ek,q10⟩:=hm;subst ek;obtain⟨z,hd,vs,rel,dd⟩:=wc I10.hok e10;have hz':vs.length<=sizeLine:=by rw[←rel.length];exact z
   have hl:(qP kvs k v).length<=sizeLine:=by have:=zV kvs k v;omega
   refine(wpAny_dictSet_pairs (hsz:=hz') (yM r9) dd fun h' dd' hs'=>?_);have heo:∃q,h'.get? D=some q:=let ⟨q,_,_,hq,_⟩:=dd';⟨q,hq⟩
   exact again (Aj (t':=s10.toks+1) I10 (by rw[e10];exact True.intro) hs' heo (Bt hl hd (rel.put k r10) dd')) q10
theorem L4{s2:Shared}{H2:Hp}{it:Addr}{fp:List Addr}{tn:Nat->Heap->Prop}{Z6:It}{cl:List (Str×Addr)}{Z:Addr->Hp->Prop}{RR:Value->Addr->Result->Shared->Prop}{E:OK}
  (hx:∀e s,X.xe e s->False) (hc:X.calm=true) (S:CompScope X N' own cap scope)
  (hg:∀cl C Z2 Z0 ex,PG (pR X N' scope cl C Z2 Z0 ex) tg g) (ht:∀cl C Z2 Z0 ex,PIf (pR X N' scope cl C Z2 Z0 ex) ifs tc) (hk0:∀cl C Z2 Z0 ex,PE (pR X N' scope cl C Z2 Z0 ex) kx tk) (hv0:∀cl C Z2 Z0 ex,PE (pR X N' scope cl C Z2 Z0 ex) vx tv)
  (I2:Inv X pins B H2 s2) (T:Turn X.prog X.w X.K tg Z6 fp it tn) (st2:tn 0 s2.heap) (f2:∀b∈fp,qK X pins H2 b)
  (c1:∀y c,cl.lookup y=some c->X.env.cells.lookup y=some c) (c2:∀y,(y,NameKind.free)∈scope.names->∃c,cl.lookup y=some c)
  (h:∀D,H2 D=none->zu Z6 g tc tk tv D (rD own cap B) H2 (Z D))
  (hRR:∀D C s' m' H',Inv X pins B H' s'->s'.heap.Ns C m'->qK X pins H' C->Z D H'->RR (.ref D) C (.ok .next) s'):
  wpAny (model X.prog X.w) X.A (newDict) (fun acc ZL=>wpAny (model X.prog X.w) X.A (newFunctionEnv scope X.env.globals cl [] X.env.qual none .none (some X.env)) (fun cenv ZG=>
   codeAny (model X.prog X.w) X.A (.compStart (.DictComp kx vx [⟨tg,iter,ifs,0⟩] scope pos) 0 (.ref it) acc {cenv with scope:=relabel scope X.env}) (RR acc cenv.locals) ZG) E ZL) E s2:=by
 have hlt:∀b∈fp,b<s2.heap.objs.size:=fun b hb=>by
  obtain⟨o,e,_⟩:=T.obj _ _ st2 b hb;exact(Vy e)
 have hD:H2 s2.heap.objs.size=none:=I2.hok.fresh (Vv _);have hsys:(s2.heap.objs.size==sysModules)=false:=by
  have:=I2.big;rw[beq_eq_false_iff_ne];exact Xc this
 refine Wg (BP (fun ZQ Zz Zy Zx=>?_));dsimp only at Zz Zy Zx⊢;have I3:Inv X pins B (upd H2 s2.heap.objs.size (.dK [])) {s2 with heap:=s2.heap.push {cls:=.type "dict",dict:=none,data:=.dict #[]},toks:=s2.toks}:=
  I2.laid (fun b o e=>Vu _ e) (Vv _) ⟨Wm _,hsys,[],.nil,Heap.DictOf.new s2.heap⟩
 generalize hs3:({s2 with heap:=s2.heap.push {cls:=.type "dict",dict:=none,data:=.dict #[]},toks:=s2.toks}:Shared)=s3 at I3;have e3:s2.heap.push {cls:=.type "dict",dict:=none,data:=.dict #[]}=s3.heap:=by rw[←hs3]
 have hsz:s3.heap.objs.size=s2.heap.objs.size+1:=by rw[←e3,Wi]
 rw[e3] at Zz Zy Zx⊢;have hk:=Zy;have hcl:∀y c,cl.lookup y=some c->¬s3.heap.objs.size<c:=fun y c e z=>by
  obtain⟨v,o,ho,_⟩:=I3.cell y c (c1 y c e);exact(V1 _ (Nat.lt_trans z (Vy ho)))
 have CA:CellsAre X scope s3.heap.objs.size cl (cellsFrom (s3.heap.objs.size+1) scope.names cl):=DP (h:=s3.heap.push {cls:=.type "dict",data:=.dict #[]}) (by rw[Wi]) S hcl;have hcell:∀y c,(cellsFrom (s3.heap.objs.size+1) scope.names cl).lookup y=some c->s3.heap.objs.size<c->ZQ.IsCell c none:=fun y c e z=>by
  rw[t9,vG] at e;cases q:(cellsFrom (s3.heap.objs.size+1) scope.names []).lookup y with
  |none=>rw[q] at e;exact absurd z (hcl y c e)
  |some c'=>
   rw[q] at e;have:c'=c:=VP e;subst this;exact Zx y c' (V2 q)
 generalize hcs:cellsFrom (s3.heap.objs.size+1) scope.names cl=cs at CA hcell⊢;have f3:∀b∈fp,qK X pins (upd H2 s2.heap.objs.size (.dK [])) b:=fun b hb=>⟨by rw[pW (VN (hlt b hb))];exact(f2 b hb).1,(f2 b hb).2⟩
 have hlt3:∀b∈fp,b<s3.heap.objs.size:=fun b hb=>by rw[hsz];exact Xb (hlt b hb)
 have st3:tn 0 ZQ:=T.keep _ _ _ st2 fun b hb o e=>hk b o (by rw[←e3];exact Vu _ e);have J0:Inv (pR X N' scope cs s3.heap.objs.size s3 (upd H2 s2.heap.objs.size (.dK [])) fp) [] (rD own cap B) (upd H2 s2.heap.objs.size (.dK [])) {s3 with heap:=ZQ,toks:=s2.toks}:=
  comp_inv I3 S CA hcell c1 c2 f3 hlt3 hk Zz
 have stat:∀{pl:QS} {H':Hp},pl=[]->(∀b∈fp,H' b=none)->∀b∈fp,qK (pR X N' scope cs s3.heap.objs.size s3 (upd H2 s2.heap.objs.size (.dK [])) fp) pl H' b:=fun{pl H'} hp hn b hb=>by
  subst hp;refine⟨hn b hb,VN (hlt3 b hb),J0.ok.exfs b hb,.inl hb,fun x c e=>J0.ok.exf b hb |>.2 x c e,fun p hp=>absurd hp (by show p∉([]++[]:QS);simp)⟩
 have loop:codeAny (model X.prog X.w) X.A (.compLoop (.DictComp kx vx [⟨tg,iter,ifs,0⟩] scope pos) 0 (.ref it) (.ref s2.heap.objs.size) (compEnvC scope cs s3.heap.objs.size X.env)) (RR (.ref s2.heap.objs.size) s3.heap.objs.size)
   {s3 with heap:=ZQ,toks:=s2.toks}:=UP (Y:=pR X N' scope cs s3.heap.objs.size s3 (upd H2 s2.heap.objs.size (.dK [])) fp) hx hc (hg _ _ _ _ _) (ht _ _ _ _ _) (hk0 _ _ _ _ _) (hv0 _ _ _ _ _) T J0 st3 (fun b hb=>(f3 b hb).1) (stat rfl) (h _ hD) fun ZP H4 s5 I5 qz=>by
  have I6:Inv X pins B H4 s5:=I3.call' (ch:=fp) I5.os I5.base I5.hok I5.bare fun b hb=>⟨(f3 b hb).2.2.2.1,(f3 b hb).2.1,(f3 b hb).2.2.2.2.1,(f3 b hb).2.2.2.2.2⟩
  obtain⟨m',hn',_⟩:=I5.loc;exact(hRR _ _ s5 m' H4 I6 hn' (I3.fpOk (Vv _) I5.free) qz)
 have lp:codeAny (model X.prog X.w) X.A (.compStart (.DictComp kx vx [⟨tg,iter,ifs,0⟩] scope pos) 0 (.ref it) (.ref s2.heap.objs.size) (compEnvC scope cs s3.heap.objs.size X.env)) (RR (.ref s2.heap.objs.size) s3.heap.objs.size)
   {s3 with heap:=ZQ,toks:=s2.toks}:=codeAny_compStart_dict loop (T.self _ 0 _ _ _ st3 loop)
 subst hs3;exact lp
theorem SD(S:CompScope X N' own cap scope)(hi:PI X tg iter wi)
  (hg:∀cl C Z2 Z0 ex,PG (pR X N' scope cl C Z2 Z0 ex) tg g) (ht:∀cl C Z2 Z0 ex,PIf (pR X N' scope cl C Z2 Z0 ex) ifs tc) (hk:∀cl C Z2 Z0 ex,PE (pR X N' scope cl C Z2 Z0 ex) kx tk) (hv:∀cl C Z2 Z0 ex,PE (pR X N' scope cl C Z2 Z0 ex) vx tv)
  (hx:∀e s,X.xe e s->False:=by exact fun _ _ z=>z) (hc:X.calm=true:=by rfl) (hs:∀x,foldedSetIterable iter X.env x=pure x:=by intro _;rfl):
  PE X (.DictComp kx vx [⟨tg,iter,ifs,0⟩] scope pos) (fun B H Q=>wi B H fun Z6 H1=>∀D,H1 D=none->zu Z6 g tc tk tv D (rD own cap B) H1 (Q (.ref D))):=by
 intro pins s B H Q I h;rw[arm_eval_DictComp];obtain⟨cl,hcl,c1,c2⟩:=zd (scope:=scope) (env:=X.env) fun y hy hk=>I.ok.has y.1 (S.free y hy hk);refine(WF (use:=none) rfl hs hcl S.kind S.names (thn (hi pins s B H _ I h) fun v s1 h1=>thn h1 fun itv s2 h2=>?_));obtain⟨it,fp,tn,Z6,H2,e,I2,T,st2,f2,q⟩:=h2;subst e;refine(L4 (RR:=fun acc C=>compPost (model X.prog X.w) X.A X.xe none (EP X pins B Q) acc C) (Z:=fun D=>Q (.ref D)) hx hc S hg ht hk hv I2 T st2 f2 c1 c2 q ?_);intro D C s' m' H' I' hn' f' z;exact⟨m',hn',fun h'' hs''=>⟨.ref D,H',I'.letgo f' hs'',rfl,z⟩⟩
end
def viO(v d:Addr):HO:=.ext fun h=>h.IsItemsView v d
def Ff:V->List V->Hp->VK->Prop:=fun x vs H Q=>∃(a:Addr) (kvs:List (Key×V)),x=.ref a/\vs=[]/\H a=some (.dK kvs)/\∀v,H v=none->Q (.ref v) (upd H v (viO v a))
section
variable {X:Cx} {o:Expr} {to:TE} {pos:Pos}
theorem TZ:MtM X "dict.items" Ff:=by
 intro pins s B H x vs v us Q I rx rv h;obtain⟨a,kvs,rfl,rfl,e,q⟩:=h;cases rx;have:=rv.zero;subst this;obtain⟨z,hd,ws,rel,dd⟩:=wc I.hok e;refine(call_meetsIn PySem.F.slot_dict_items dd.typeIs PySem.F.entry_dict_items (PySem.F.args_dict_items_1 _) (meets_dict_items (si X.prog X.w) a hd) ⟨⟨ws,dd⟩,?_⟩);have hv:(s.heap.push {cls:=.type "dict_items",data:=.fields #[.ref a]}).IsItemsView s.heap.objs.size a:=⟨_,VC _ rfl,rfl,rfl⟩
 refine⟨.ref s.heap.objs.size,_,I.laid (t':=s.toks) (o:=viO s.heap.objs.size a) (fun b o q=>Vu _ q) (Vv _) ?_,rfl,q _ (I.hok.fresh (Vv _))⟩;exact⟨hv,⟨_,VC _ rfl⟩,fun h1 h2 p k=>let ⟨o,ho,r⟩:=p;⟨o,k o ho,r⟩⟩
theorem R7(K:Frag){apos:Pos}(ho:PE X o to)(hbase:attributeBase o "items" X.env (eval o X.env)=eval o X.env:=by rfl) (hline:(apos.endLine==pos.line)=true:=by rfl) (hK:X.K=K:=by rfl):
  PE X (.Call (.Attribute o "items" apos) [] [] pos) (Bb K "dict" Ff to):=by
 subst hK;exact Js PySem.F.plainAttrs_dict PySem.F.slot_dict_items PySem.F.type_dict_items TZ ho hbase hline
end
def Itd(d:Addr)(o:Obj)(kvs:List (Key×V)):It:=
 ⟨fun i H=>H d=some (.frz o (.dK kvs))/\i<kvs.length,fun i H x H'=>∃p k v,x=.ref p/\H p=none/\H'=upd H p (.tup [kV k,v])/\kvs[i]?=some (k,v),fun i H=>H d=some (.frz o (.dK kvs))/\kvs.length<=i⟩
def TN{k:Key}{u:Value}(h:v9 k u=true):RelV (kV k) u:=by
 rcases ui h with⟨i,t,rfl,rfl⟩|⟨x,t,rfl,rfl⟩
 ·exact⟨t,rfl⟩
 ·exact⟨t,rfl⟩
def KV.get{kvs:List (Key×V)}{ws:List (Key×Value)}(rel:KV kvs ws):∀{i:Nat} {k:Key} {v:V},kvs[i]?=some (k,v)->∃u,ws[i]?=some (k,u)/\RelV v u:=by
 induction rel with
 |nil=>intro i k v h;simp at h
 | @cons a b l r hd tl ih=>
  intro i k v h;cases i with
  |zero=>
   have:a=(k,v):=by simpa using h
   subst this;obtain⟨b1,b2⟩:=b;obtain⟨h1,h2⟩:=hd;have:k=b1:=h1;subst this;exact⟨b2,rfl,h2⟩
  |succ i=>
   obtain⟨u,h1,h2⟩:=ih (i:=i) (k:=k) (v:=v) (by simpa using h);exact(⟨u,by simpa using h1,h2⟩)
theorem Vb{P:Program}{w:World}{K:Frag}{elts:List Expr}{k:Nat}{pos:Pos}{h0:Heap}{kvs:List (Key×V)}{ws:List (Key×Value)}{ep:Nat}{o:Obj}(d it:Addr)(rel:KV kvs ws)(ho:h0.get? d=some o)(hat:h0.DictAt (si P w) d ws ep):
  Turn P w K (.Tuple elts k pos) (Itd d o kvs) [it] it (fun i h=>∃ok ov,IsItemIter h it d i ws.length ep ok ov) where
 mem:=by simp
 obj:=fun i h st b hb=>by
  obtain⟨ok,ov,he⟩:=st;rw[VO.mp hb];exact⟨_,he,fun v z=>by cases z⟩
 keep:=fun i h h' st kk=>let ⟨ok,ov,he⟩:=st;⟨ok,ov,kk it (by simp) _ he⟩
 item:=by
  intro X hP hw hK hc i pins s B H E I hf st hg;subst hP hw hK;obtain⟨hH,hi⟩:=hg;obtain⟨hgo,_⟩:s.heap.get? d=some o/\_:=I.hok d _ hH;have hm:s.heap.DictAt (si X.prog X.w) d ws ep:=hat.at' fun o' e=>by rw[ho] at e;cases e;exact hgo
  obtain⟨kk,v⟩:Key×V:=kvs[i];obtain⟨⟨k1,v1⟩,hx⟩:∃p,kvs[i]?=some p:=⟨kvs[i],by simp[hi]⟩
  obtain⟨u,hu,ru⟩:=rel.get hx;obtain⟨ok,ov,he⟩:=st;refine(wpAny_pyNext_items_item he hm hu fun key h1 hkey hout hT hsz hk=>?_);refine⟨_,rfl,wpAny_letOwnedTupleGo_items hout fun h2 he2 hs2=>?_⟩;have hlt:it<s.heap.objs.size:=Vy he
  replace hs2:Heap.SameBut it h1 h2:=hs2
  have hT2:h2.get? s.heap.objs.size=some {cls:=.type "tuple",data:=.seq #[key,u]}:=(hs2.2 _ (Xc hlt)).trans hT;have hn:H s.heap.objs.size=none:=I.hok.fresh (Vv _);have I2:Inv X pins B (upd H s.heap.objs.size (.tup [kV k1,v1])) {s with heap:=h2,toks:=s.toks}:=
   I.turnLay (ch:=[it]) hf (fun b o hb q=>(hs2.2 b (fun z=>hb (by simp[z]))).trans (hk b o (fun z=>hb (by simp[z])) q)) (Vv _)
    ⟨D2,[key,u],.cons (TN hkey) (.cons ru .nil),⟨_,hT2,rfl,_,rfl⟩⟩
  have f1:∀b∈[it],(upd H s.heap.objs.size (.tup [kV k1,v1])) b=none:=fun b hb=>by
   rw[VO.mp hb,pW (VN hlt)];exact(hf it (by simp)).1
  exact⟨.ref s.heap.objs.size,_,I2,rfl,⟨_,k1,v1,rfl,hn,rfl,hx⟩,⟨key,u,he2⟩,f1⟩
 done:=by
  intro X hP hw hK hc i pins s B H E I hf st hg;subst hP hw hK;obtain⟨hH,hi⟩:=hg;obtain⟨hgo,_⟩:s.heap.get? d=some o/\_:=I.hok d _ hH;have hm:s.heap.DictAt (si X.prog X.w) d ws ep:=hat.at' fun o' e=>by rw[ho] at e;cases e;exact hgo
  obtain⟨ok,ov,he⟩:=st;have hl:kvs.length=ws.length:=rel.length;refine wpAny_pyNext_items_end (I.ok.hd hc) he hm (by simp;omega) fun h' eb=>⟨rfl,I.turns (t':=s.toks) (ch:=[it]) hf fun b o hb q=>eb b o (fun z=>hb (by simp[z])) q⟩
 self:=fun _ _ _ _ _ st h=>by
  obtain⟨ok,ov,he⟩:=st;exact(PySem.W.kcp_self he h)
def Ro(te:TE):TI:=fun B H R=>te B H fun x H1=>∃v d kvs,x=.ref v/\H1 v=some (viO v d)/\H1 d=some (.dK kvs)/\∀o,R (Itd d o kvs) (upd H1 d (.frz o (.dK kvs)))
def Qe{X:Cx}{e:Expr}{te:TE}{elts:List Expr}{k:Nat}{tpos:Pos}(he:PE X e te):PI X (.Tuple elts k tpos) e (Ro te):=by
 intro pins s B H R I h;refine thn (he pins s B H _ I h) fun u s1 hm=>?_;obtain⟨x,H1,I1,r1,v,d,kvs,ex,hv,hd,q⟩:=hm;subst ex;cases r1;obtain⟨z,hsys,ws,rel,dd⟩:=wc I1.hok hd;obtain⟨hvv,_,_⟩:s1.heap.IsItemsView v d/\_/\_:=I1.hok v _ hv;obtain⟨ep,hat⟩:=dd.dictAt;obtain⟨o,ho⟩:∃o,s1.heap.get? d=some o:=let ⟨o,_,_,h,_⟩:=dd;⟨o,h⟩
 refine(wpAny_pyIter_items hvv hat ?_);have nd:d≠s1.heap.objs.size:=VN (Vy ho);have I2:Inv X pins B (upd H1 d (.frz o (.dK kvs))) {s1 with heap:=s1.heap.push {cls:=.type "dict_itemiterator",data:=.fields #[.none,.bool false,.ref d,.int 0 0,.int ws.length 0,.int ep 0,.none,.none]},toks:=s1.toks}:=
  I1.write (x:=d) (e:=d) (by rw[hd];exact True.intro) (.inl rfl) (fun b q _ z=>Vu _ z) ⟨o,Vu _ ho⟩
   ⟨Vu _ ho,z,hsys,ws,rel,dd.at fun o' e=>Vu _ e⟩
 refine⟨_,[s1.heap.objs.size],_,_,_,rfl,I2,Vb d _ rel ho hat,⟨.none,.none,VC _ rfl⟩,fun b hb=>?_,q o⟩;rw[VO.mp hb];exact I1.fpOk (Vv _) (by rw[pW (Ne.symm nd)];exact I1.hok.fresh (Vv _))
abbrev An:=Nat×Nat×Bool
def nb(as:List An)(x:Nat):List Nat:=as.flatMap fun a=>if a.2.2=true then(if x=a.1 then [a.2.1] else [])++(if x=a.2.1 then [a.1] else []) else []
def mem_nb{as:List An}{x y:Nat}:y∈nb as x↔(x,y,true)∈as\/(y,x,true)∈as:=by
 unfold nb;rw[List.mem_flatMap];constructor
 ·rintro⟨⟨i,j,b⟩,ha,h⟩;cases b with
  |false=>simp at h
  |true=>
   simp only[if_true,VQ] at h;rcases h with h|h
   ·split at h
    ·rename_i e;have:y=j:=by simpa using h
     subst this e;exact .inl ha
    ·simp at h
   ·split at h
    ·rename_i e;have:y=i:=by simpa using h
     subst this e;exact .inr ha
    ·simp at h
 ·rintro(h|h)
  ·exact⟨_,h,by simp⟩
  ·exact⟨_,h,by simp⟩
def MZ{as:List An}{x y:Nat}(h:y∈nb as x):x∈nb as y:=mem_nb.mpr (mem_nb.mp h).symm
inductive Conn (as:List An):Nat->Nat->Prop where
 |refl (x:Nat):Conn as x x
 |step {x y z:Nat}:Conn as x y->z∈nb as y->Conn as x z
def Conn.trans{as:List An}{x y z:Nat}(h:Conn as x y)(g:Conn as y z):Conn as x z:=by
 induction g with
 |refl=>exact h
 |step _ e ih=>exact .step ih e
def Conn.one{as:List An}{x y:Nat}(h:y∈nb as x):Conn as x y:=.step (.refl x) h
def Conn.symm{as:List An}{x y:Nat}(h:Conn as x y):Conn as y x:=by
 induction h with
 |refl=>exact .refl _
 |step _ e ih=>exact(Conn.one (MZ e)).trans ih
def Conn.mono{as bs:List An}{x y:Nat}(h:Conn as x y)(hm:∀a∈as,a∈bs):Conn bs x y:=by
 induction h with
 |refl=>exact .refl _
 |step _ e ih=>exact .step ih (mem_nb.mpr ((mem_nb.mp e).imp (hm _) (hm _)))
def p0(hs:List (Nat×Nat))(x:Nat):Option Nat:=(hs.find? fun p=>decide (p.1=x)).map (·.2)
def p7(hs:List (Nat×Nat))(x:Nat):List (Nat×Nat):=if(p0 hs x).isSome=true then hs else hs++[(x,x)]
def qX(hs:List (Nat×Nat))(o n:Nat):List (Nat×Nat):=hs.map fun p=>(p.1,if p.2=o then n else p.2)
def sO(hs:List (Nat×Nat))(a:An):List (Nat×Nat):=
 let h2:=p7 (p7 hs a.1) a.2.1
 if a.2.2=true then qX h2 ((p0 h2 a.2.1).getD 0) ((p0 h2 a.1).getD 0) else h2
def qR(as:List An):List (Nat×Nat):=as.foldl sO []
def v3(hs:List (Nat×Nat))(x y:Nat):p0 (p7 hs x) y=if y=x then some ((p0 hs x).getD x) else p0 hs y:=by
 unfold p7;by_cases h:(p0 hs x).isSome=true
 ·rw[if_pos h];obtain⟨v,e⟩:=Wf.mp h;by_cases z:y=x
  ·subst z;rw[if_pos rfl,e];rfl
  ·rw[if_neg z]
 ·rw[if_neg h];have e:p0 hs x=none:=by simpa using h
  unfold p0 at e⊢;rw[List.find?_append];by_cases z:y=x
  ·subst z;rw[if_pos rfl];have e':hs.find? (fun p=>decide (p.1=y))=none:=by simpa using e
   rw[e'];simp
  ·rw[if_neg z];have:List.find? (fun p:Nat×Nat=>decide (p.1=y)) [(x,x)]=none:=by simp[Ne.symm z]
   rw[this];simp
def yd(hs:List (Nat×Nat))(o n x:Nat):p0 (qX hs o n) x=(p0 hs x).map fun r=>if r=o then n else r:=by
 unfold p0 qX;induction hs with
 |nil=>rfl
 |cons p r ih=>
  rw[VB,VJ,VJ];by_cases z:p.1=x
  ·simp[z]
  ·simp only[z,decide_false];exact ih
structure HOkN (as:List An) (V:Nat->Option Nat):Prop where
 named:∀a∈as,(V a.1).isSome=true/\(V a.2.1).isSome=true
 con:∀x r,V x=some r->Conn as x r
 eq:∀x y,(x,y,true)∈as->V x=V y
def HY(as:List An)(a:An):qR (as++[a])=sO (qR as) a:=by unfold qR;rw[List.foldl_append];rfl
def Bo(as:List An):HOkN as (p0 (qR as)):=by
 have key:∀(n:Nat) (as:List An),as.length=n->HOkN as (p0 (qR as)):=by
  intro n;induction n with
  |zero=>
   intro as e;have:as=[]:=WG.mp e;subst this;exact⟨fun _ h=>by simp at h,fun x r h=>by simp[qR,p0] at h,fun _ _ h=>by simp at h⟩
  |succ n ih=>
   intro as e;have hne:as≠[]:=by intro z;subst z;simp at e
   obtain⟨bs,a,rfl⟩:∃bs a,as=bs++[a]:=⟨as.dropLast,as.getLast hne,(List.dropLast_concat_getLast hne).symm⟩
   have ih:=ih bs (by simpa using e);obtain⟨i,j,b⟩:=a;rw[HY];generalize qR bs=hs at ih;have v2:∀y,p0 (p7 (p7 hs i) j) y=if y=j then some ((p0 (p7 hs i) j).getD j) else if y=i then some ((p0 hs i).getD i) else p0 hs y:=fun y=>by rw[v3 (p7 hs i) j y,v3 hs i y]
   have old:∀y,(p0 hs y).isSome=true->p0 (p7 (p7 hs i) j) y=p0 hs y:=fun y hy=>by
    obtain⟨r,er⟩:=Wf.mp hy;rw[v2 y];split
    ·rename_i z;subst z;rw[v3];split
     ·rename_i z;subst z;rw[er];rfl
     ·rw[er];rfl
    ·split
     ·rename_i z;subst z;rw[er];rfl
     ·rfl
   have mono:∀x y,Conn bs x y->Conn (bs++[(i,j,b)]) x y:=fun x y h=>h.mono fun a ha=>List.mem_append_left _ ha;have con2:∀x r,p0 (p7 (p7 hs i) j) x=some r->Conn (bs++[(i,j,b)]) x r:=fun x r h=>by
    rw[v2 x] at h;split at h
    ·rename_i z;subst z;have h:=VP h;rw[v3] at h;split at h
     ·rename_i z;subst z;cases e:p0 hs x with
      |none=>rw[e] at h;rw[←h];exact .refl _
      |some r'=>rw[e] at h;have:r'=r:=h;subst this;exact mono _ _ (ih.con _ _ e)
     ·cases e:p0 hs x with
      |none=>rw[e] at h;have:x=r:=h;subst this;exact .refl _
      |some r'=>rw[e] at h;have:r'=r:=h;subst this;exact mono _ _ (ih.con _ _ e)
    ·split at h
     ·rename_i z;subst z;have h:=VP h;cases e:p0 hs x with
      |none=>rw[e] at h;have:x=r:=h;subst this;exact .refl _
      |some r'=>rw[e] at h;have:r'=r:=h;subst this;exact mono _ _ (ih.con _ _ e)
     ·exact mono _ _ (ih.con _ _ h)
   have n1:∃r,p0 (p7 (p7 hs i) j) i=some r:=by
    rw[v2 i];split
    ·exact⟨_,rfl⟩
    ·exact⟨_,if_pos rfl⟩
   have n2:∃r,p0 (p7 (p7 hs i) j) j=some r:=⟨_,by rw[v2 j,if_pos rfl]⟩
   have named2:∀a∈bs++[(i,j,b)],(p0 (p7 (p7 hs i) j) a.1).isSome=true/\(p0 (p7 (p7 hs i) j) a.2.1).isSome=true:=fun a ha=>by
    rcases VQ.mp ha with z|z
    ·obtain⟨h1,h2⟩:=ih.named a z;rw[old _ h1,old _ h2];exact⟨h1,h2⟩
    ·have:a=(i,j,b):=by simpa using z
     subst this;obtain⟨r1,e1⟩:=n1;obtain⟨r2,e2⟩:=n2;exact⟨by rw[e1];rfl,by rw[e2];rfl⟩
   have eq2:∀x y,(x,y,true)∈bs->p0 (p7 (p7 hs i) j) x=p0 (p7 (p7 hs i) j) y:=fun x y h=>by
    obtain⟨h1,h2⟩:=ih.named _ h;rw[old x h1,old y h2];exact ih.eq x y h
   show HOkN _ (p0 (if b=true then qX (p7 (p7 hs i) j) ((p0 (p7 (p7 hs i) j) j).getD 0) ((p0 (p7 (p7 hs i) j) i).getD 0) else p7 (p7 hs i) j));clear v2 old;generalize p7 (p7 hs i) j=h2 at*;cases b with
   |false=>
    refine⟨named2,con2,fun x y h=>?_⟩;rcases VQ.mp h with z|z
    ·exact eq2 x y z
    ·simp at z
   |true=>
    obtain⟨r1,e1⟩:=n1;obtain⟨r2,e2⟩:=n2;simp only[if_true,e1,e2,Option.getD_some];have cij:Conn (bs++[(i,j,true)]) i j:=Conn.one (mem_nb.mpr (.inl (by simp)));refine⟨fun a ha=>?_,fun x r h=>?_,fun x y h=>?_⟩
    ·rw[yd,yd,Option.isSome_map,Option.isSome_map];exact named2 a ha
    ·rw[yd] at h;obtain⟨r0,e0,er⟩:=Option.map_eq_some_iff.mp h;have c0:=con2 x r0 e0;split at er
     ·rename_i z;subst z er;exact c0.trans ((con2 j _ e2).symm.trans (cij.symm.trans (con2 i _ e1)))
     ·subst er;exact c0
    ·rw[yd,yd];rcases VQ.mp h with z|z
     ·rw[eq2 x y z]
     ·have:x=i/\y=j:=by simpa using z
      obtain⟨rfl,rfl⟩:=this;rw[e1,e2];simp only[Option.map_some,if_true];split
      ·rfl
      ·rfl
 exact key _ as rfl
def HOkN.conn{as:List An}{V:Nat->Option Nat}(h:HOkN as V){x y:Nat}(c:Conn as x y):V x=V y:=by
 induction c with
 |refl=>rfl
 |step _ e ih=>
  rw[ih];rcases mem_nb.mp e with z|z
  ·exact h.eq _ _ z
  ·exact(h.eq _ _ z).symm
def HOkN.iff{as:List An}{V:Nat->Option Nat}(h:HOkN as V){x y:Nat}(hx:(V x).isSome=true):V x=V y↔Conn as x y:=by
 refine⟨fun e=>?_,h.conn⟩;obtain⟨r,er⟩:=Wf.mp hx;exact(h.con x r er).trans (h.con y r (by rw[←e];exact er)).symm
def qj(as:List An):Bool:=as.all fun a=>a.2.2||!decide (p0 (qR as) a.1=p0 (qR as) a.2.1)
structure Out (as:List An) (n t:Nat) (F:Nat->Option Nat):Prop where
 con:∀x r,F x=some r->Conn as x r/\r<t
 fin:∀x r y,F x=some r->y∈nb as x->F y=some r
 all:∀x,x<t->(F x).isSome=true
def left(as:List An)(F:Nat->Option Nat):Nat->Nat
 |0=>0
 |n+1=>left as F n+(if(F n).isSome=true then 0 else(nb as n).length)
section
variable {X:Cx} {a b o:Expr} {ta:TE} {p pos:Pos}
theorem Uf(mr:X.mg "range"=none) (ha:PE X a ta) (hg:Gl X "range":=by rfl) (hs:starEach [a] X.env=[(false,eval a X.env)]:=by rfl):
  PE X (.Call (.Name "range" p) [a] [] pos) (fun B H Q=>ta B H fun x H1=>∃j:Int,x=.int j/\∀r,H1 r=none->Q (.ref r) (upd H1 r (.rng 0 j))):=by
 intro pins s B H Q I h;refine Call_ (t6 I hg mr boot_range (Wa (thn (qM ha rG hs pos pins s B H (fun vs H1=>∃x,vs=[x]/\∃j:Int,x=.int j/\∀r,H1 r=none->Q (.ref r) (upd H1 r (.rng 0 j))) I ?_) fun us s1 ⟨vs,H1,I1,r1,q1⟩=>?_) hs rfl))
 ·have:∀x H1,(∃j:Int,x=V.int j/\∀r,H1 r=none->Q (.ref r) (upd H1 r (.rng 0 j)))=(∃x',[x]=[x']/\∃j:Int,x'=V.int j/\∀r,H1 r=none->Q (.ref r) (upd H1 r (.rng 0 j))):=by
   intro x H1;exact propext ⟨fun q=>⟨x,rfl,q⟩,fun⟨x',e,q⟩=>by cases e;exact q⟩
  unfold sm tQ;simp only[←this];exact h
 obtain⟨x,e,j,ex,q⟩:=q1;subst e ex;cases r1 with
 |cons r rr=>
  cases rr;obtain⟨t,rfl⟩:=r;refine(call_range_1 ?_);refine⟨.ref s1.heap.objs.size,_,I1.laid (o:=.rng 0 j) (fun b o e=>Vu _ e) (Vv _) ?_,rfl,q _ (I1.hok.fresh (Vv _))⟩;exact⟨_,_,_,VC _ rfl⟩
end
def hNd(hs:List (Nat×Nat)):Prop:=(hs.map (·.1)).Nodup
def hVal_none{hs:List (Nat×Nat)}{x:Nat}:p0 hs x=none↔x∉hs.map (·.1):=by
 unfold p0;rw[Option.map_eq_none_iff,WC];simp only[Wr,VW,not_exists,not_and]
def AH{hs:List (Nat×Nat)}(h:hNd hs)(x:Nat):hNd (p7 hs x):=by
 unfold p7;split
 ·exact h
 ·rename_i e;have e:p0 hs x=none:=by simpa using e
  unfold hNd;rw[WX,List.nodup_append];refine⟨h,by simp,fun y hy z hz=>?_⟩;have:z=x:=by simpa using hz
  subst this;exact fun q=>hVal_none.mp e (q▸hy)
def Im(hs:List (Nat×Nat))(o n:Nat):(qX hs o n).map (·.1)=hs.map (·.1):=by simp[qX]
def PY{hs:List (Nat×Nat)}(h:hNd hs)(a:An):hNd (sO hs a):=by
 have h2:=AH (AH h a.1) a.2.1;unfold sO;dsimp only;split
 ·unfold hNd;rw[Im];exact h2
 ·exact h2
def Ah(hs:List (Nat×Nat))(x:Nat):(p7 hs x).length<=hs.length+1:=by
 unfold p7;split<;>simp
def P0(hs:List (Nat×Nat))(a:An):(sO hs a).length<=hs.length+2:=by
 have h1:=Ah hs a.1;have h2:=Ah (p7 hs a.1) a.2.1;unfold sO;dsimp only;split
 ·unfold qX;rw[VF];omega
 ·omega
def TR(as:List An)(n:Nat)(a:An)(h:as[n]?=some a):qR (as.take (n+1))=sO (qR (as.take n)) a:=by
 rw[List.take_succ,h];exact HY _ _
def UQ(as:List An):hNd (qR as):=by
 have:∀(as:List An) (hs:List (Nat×Nat)),hNd hs->hNd (as.foldl sO hs):=by
  intro as;induction as with
  |nil=>exact fun _ h=>h
  |cons a r ih=>exact fun hs h=>ih _ (PY h a)
 exact this as [] (by simp[hNd])
def LN(as:List An):(qR as).length<=2*as.length:=by
 have:∀(as:List An) (hs:List (Nat×Nat)),(as.foldl sO hs).length<=hs.length+2*as.length:=by
  intro as;induction as with
  |nil=>exact fun _=>by simp
  |cons a r ih=>
   intro hs;have h1:=ih (sO hs a);have h2:=P0 hs a;simp only[List.foldl_cons,VY];omega
 have:=this as [];simpa[qR] using this
def IL{ps:List Addr}(h:ps.Nodup){i j:Nat}{p:Addr}(a:ps[i]?=some p)(b:ps[j]?=some p):i=j:=by
 obtain⟨l1,g1⟩:=Vw.mp a;obtain⟨l2,g2⟩:=Vw.mp b;rcases Nat.lt_trichotomy i j with z|z|z
 ·exact absurd (g1.trans g2.symm) ((Wx.mp h) i j l1 l2 z)
 ·exact z
 ·exact absurd (g2.trans g1.symm) ((Wx.mp h) j i l2 l1 z)
theorem QA(elt tg iter tg2 iter2:Expr)(ifs ifs2:List Expr)(scope:Scope)(pos:Pos)(it acc:Value)(env:Env):
  compTurn (.ListComp elt [⟨tg,iter,ifs,0⟩,⟨tg2,iter2,ifs2,0⟩] scope pos) 0 it acc env=(do
   standAt iter.pos
   match ←pyNext it with
   |none=>pure (.done .next)
   |some v=>
    letOwnedTupleGo tg it v
    assign tg env v
    let mut ok:=true
    for c in ifs do
     if ok then ok ←isTrue c env (eval c env)
    if ok then
     let x ←eval iter2 env
     standAt iter2.pos
     let x ←foldedSetIterable iter2 env x
     let _ ←runOwn (.compStart (.ListComp elt [⟨tg,iter,ifs,0⟩,⟨tg2,iter2,ifs2,0⟩] scope pos) 1 (←holding [x] (pyIter x)) acc env) env
    again (.compLoop (.ListComp elt [⟨tg,iter,ifs,0⟩,⟨tg2,iter2,ifs2,0⟩] scope pos) 0 it acc env)):=by rfl
theorem Qo(elt tg iter tg2 iter2:Expr)(ifs ifs2:List Expr)(scope:Scope)(pos:Pos)(it acc:Value)(env:Env):
  compTurn (.ListComp elt [⟨tg,iter,ifs,0⟩,⟨tg2,iter2,ifs2,0⟩] scope pos) 1 it acc env=(do
   standAt iter2.pos
   match ←pyNext it with
   |none=>pure (.done .next)
   |some v=>
    letOwnedTupleGo tg2 it v
    assign tg2 env v
    let mut ok:=true
    for c in ifs2 do
     if ok then ok ←isTrue c env (eval c env)
    if ok then
     (do let _ ←call (.builtin "list.append") [acc,←eval elt env])
    again (.compLoop (.ListComp elt [⟨tg,iter,ifs,0⟩,⟨tg2,iter2,ifs2,0⟩] scope pos) 1 it acc env)):=by rfl
section
variable {prog:Program} {w:World} {A:Around} {R:Result->Shared->Prop} {s:Shared} {elt tg iter tg2 iter2:Expr} {ifs ifs2:List Expr} {scope:Scope} {pos:Pos} {it acc:Value} {env:Env}
theorem Pm(hs2:∀x,foldedSetIterable iter2 env x=pure x)(I:Nat->Shared->Prop)
  (turn:∀n s,I n s->wpAny (model prog w) A (pyNext it) (fun r ZU=>match r with
   |none=>R (.ok .next) ZU
   |some v=>wpAny (model prog w) A (letOwnedTupleGo tg it v) (fun _ ZA=>wpAny (model prog w) A (assign tg env v) (fun _ ZJ=>
     wpAny (model prog w) A (forIn ifs true fun c r=>if r=true then do let ok ←isTrue c env (eval c env);pure (ForInStep.yield ok) else pure (ForInStep.yield r)) (fun ok ZL=>
      if ok=true then wpAny (model prog w) A (eval iter2 env) (fun x ZG=>wpAny (model prog w) A (pyIter x) (fun it2 ZD=>
       wpAny (model prog w) A (runOwn (.compStart (.ListComp elt [⟨tg,iter,ifs,0⟩,⟨tg2,iter2,ifs2,0⟩] scope pos) 1 it2 acc env) env) (fun _ Zl=>∃m,m<n/\I m Zl) (fun _ _=>False) ZD) (fun _ _=>False) ZG) (fun _ _=>False) ZL
      else ∃m,m<n/\I m ZL) (fun _ _=>False) ZJ) (fun _ _=>False) ZA) (fun _ _=>False) ZU) (fun _ _=>False) s)
  (n:Nat) (h:I n s):codeAny (model prog w) A (.compLoop (.ListComp elt [⟨tg,iter,ifs,0⟩,⟨tg2,iter2,ifs2,0⟩] scope pos) 0 it acc env) R s:=by
 refine codeAny_loop rfl I (fun n s hI=>?_) n h;show wpAny _ A ((compTurn (.ListComp elt [⟨tg,iter,ifs,0⟩,⟨tg2,iter2,ifs2,0⟩] scope pos) 0 it acc env).onRaise (fun x=>do noteFrame x env;theTreesLotGoes x)) _ _ s;refine wpAny_noted ?_;rw[QA];refine Vz (E:=fun _ _=>False) ?_ (fun _ _ x=>x) fun _ _ x=>x.elim;refine Vt (WE (Vt (Vz (turn n s hI) (fun r ZU ZQ=>?_) fun _ _ h'=>h')));cases r with
 |none=>exact Vx ZQ
 |some v=>
  refine Vt (Vz ZQ (fun _ ZA Zu=>?_) fun _ _ h'=>h');refine Vt (Vz Zu (fun _ ZJ ZB=>Vt (Vz ZB (fun ok ZL ZE=>?_) fun _ _ h'=>h')) fun _ _ h'=>h');cases ok with
  |false=>exact Vx ⟨rfl,ZE⟩
  |true=>exact Vt (Vz ZE (fun x ZG Zt=>Vt (WE (Vt (wpAny_of_eq (hs2 x) (Vt (WD (Vz Zt (fun it2 ZD Zs=>Vt (Vz Zs (fun _ Zl Zi=>Vx ⟨rfl,Zi⟩) fun _ _ h'=>h')) fun _ _ h'=>h'))))))) fun _ _ h'=>h')
theorem N3(I:Nat->Shared->Prop)
  (turn:∀n s,I n s->wpAny (model prog w) A (pyNext it) (fun r ZU=>match r with
   |none=>R (.ok .next) ZU
   |some v=>wpAny (model prog w) A (letOwnedTupleGo tg2 it v) (fun _ ZA=>wpAny (model prog w) A (assign tg2 env v) (fun _ ZJ=>
     wpAny (model prog w) A (forIn ifs2 true fun c r=>if r=true then do let ok ←isTrue c env (eval c env);pure (ForInStep.yield ok) else pure (ForInStep.yield r)) (fun ok ZL=>
      if ok=true then wpAny (model prog w) A (eval elt env) (fun x ZG=>
       wpAny (model prog w) A (call (.builtin "list.append") [acc,x]) (fun _ ZD=>∃m,m<n/\I m ZD) (fun _ _=>False) ZG) (fun _ _=>False) ZL
      else ∃m,m<n/\I m ZL) (fun _ _=>False) ZJ) (fun _ _=>False) ZA) (fun _ _=>False) ZU) (fun _ _=>False) s)
  (n:Nat) (h:I n s):codeAny (model prog w) A (.compLoop (.ListComp elt [⟨tg,iter,ifs,0⟩,⟨tg2,iter2,ifs2,0⟩] scope pos) 1 it acc env) R s:=by
 refine codeAny_loop rfl I (fun n s hI=>?_) n h;show wpAny _ A ((compTurn (.ListComp elt [⟨tg,iter,ifs,0⟩,⟨tg2,iter2,ifs2,0⟩] scope pos) 1 it acc env).onRaise (fun x=>do noteFrame x env;theTreesLotGoes x)) _ _ s;refine wpAny_noted ?_;rw[Qo];refine Vz (E:=fun _ _=>False) ?_ (fun _ _ x=>x) fun _ _ x=>x.elim;refine Vt (WE (Vt (Vz (turn n s hI) (fun r ZU ZQ=>?_) fun _ _ h'=>h')));cases r with
 |none=>exact Vx ZQ
 |some v=>
  refine Vt (Vz ZQ (fun _ ZA Zu=>?_) fun _ _ h'=>h');refine Vt (Vz Zu (fun _ ZJ ZB=>Vt (Vz ZB (fun ok ZL ZE=>?_) fun _ _ h'=>h')) fun _ _ h'=>h');cases ok with
  |false=>exact Vx ⟨rfl,ZE⟩
  |true=>
   exact Vt (Vt (Vz ZE (fun x ZG Zt=>Vt (Vz Zt (fun _ ZD Zs=>Vx (Vx ⟨rfl,Zs⟩)) fun _ _ h'=>h')) fun _ _ h'=>h'))
theorem M5(h0:codeAny (model prog w) A (.compLoop (.ListComp elt [⟨tg,iter,ifs,0⟩,⟨tg2,iter2,ifs2,0⟩] scope pos) 1 it acc env) R s)
  (h:wpAny (model prog w) A (pyIter it) (fun it' s'=>codeAny (model prog w) A (.compLoop (.ListComp elt [⟨tg,iter,ifs,0⟩,⟨tg2,iter2,ifs2,0⟩] scope pos) 1 it' acc env) R s')
   (notedBy (model prog w) A env fun x s'=>R (.error x) s') s):
  codeAny (model prog w) A (.compStart (.ListComp elt [⟨tg,iter,ifs,0⟩,⟨tg2,iter2,ifs2,0⟩] scope pos) 1 it acc env) R s:=by
 refine codeAny_of_tree ?_;show wpAny _ _ ((compStart (.ListComp elt [⟨tg,iter,ifs,0⟩,⟨tg2,iter2,ifs2,0⟩] scope pos) 1 it acc env).onRaise (fun x=>do noteFrame x env;standAt theWindowsPlace)) _ _ s;refine wpAny_notedAt ?_;unfold compStart;show wpAny _ _ (ask >>= _) _ _ s;refine Vt (wpAny_askSetting (wpAny_ite ?_));split
 ·first
   |exact Vt (Vx (Vx (And.intro rfl h0)))
   |exact Vx (And.intro rfl h0)
 ·first
   |exact Vt (wpAny_rule (Vt (WE (Vt (Vz h (fun it' s' h'=>Vx (And.intro rfl h')) fun _ _ x=>x)))))
   |(refine Vt (wpAny_rule ?_);show wpAny _ _ (standAt iter2.pos >>= _) _ _ s;exact Vt (WE (Vt (Vz h (fun it' s' h'=>Vx (And.intro rfl h')) fun _ _ x=>x))))
end
def Co(Z6:It)(g:TG)(tc:TT)(te:TE)(D:Addr)(ZM:St)(H0:Hp)(Z:St->Hp->Prop):Prop:=
 ∃W:Nat->Nat->St->Hp->Prop,(∃m,W 0 m ZM H0)/\∀i m B H,W i m B H->
  (Z6.stop i H/\Z B H)\/(Z6.go i H/\∃N:St->Hp->Prop,(∀ZZ H',N ZZ H'->∃m',m'<m/\W (i+1) m' ZZ H')/\∀x H',Z6.yld i H x H'->g x B H' fun ZW H2=>tc ZW H2 fun b H3=>
   if b=true then te ZW H3 fun v H4=>∃ys,H4 D=some (.lst ys)/\ys.length<sizeLine/\N ZW (upd H4 D (.lst (ys++[v]))) else N ZW H3)
def xh(Z6:It)(g:TG)(tc:TT)(wi2:TI)(g2:TG)(tc2:TT)(te:TE)(D:Addr)(ZM:St)(H0:Hp)(Z:Hp->Prop):Prop:=
 ∃W:Nat->Nat->St->Hp->Prop,(∃m,W 0 m ZM (upd H0 D (.lst [])))/\∀i m B H,W i m B H->
  (Z6.stop i H/\Z H)\/(Z6.go i H/\∃N:St->Hp->Prop,(∀ZZ H',N ZZ H'->∃m',m'<m/\W (i+1) m' ZZ H')/\∀x H',Z6.yld i H x H'->g x B H' fun ZW H2=>tc ZW H2 fun b H3=>
   if b=true then wi2 ZW H3 fun J2 H4=>Co J2 g2 tc2 te D ZW H4 N else N ZW H3)
section
variable {X:Cx} {pins:QS} {B:St} {N' own:List Str} {cap:List (Str×Nat)} {scope:Scope} {tg iter elt tg2 iter2:Expr} {ifs ifs2:List Expr} {pos:Pos} {g g2:TG} {tc tc2:TT} {te:TE} {wi wi2:TI}
theorem P9{s:Shared}{H:Hp}{D:Addr}{Z:St->Hp->Prop}(hx:∀e s,X.xe e s->False)(hc:X.calm=true)(hi:PI X tg2 iter2 wi2)(hg:PG X tg2 g2)(ht:PIf X ifs2 tc2)(he:PE X elt te)
  (I:Inv X pins B H s) (h:wi2 B H fun Z6 H1=>Co Z6 g2 tc2 te D B H1 Z):
  wpAny (model X.prog X.w) X.A (eval iter2 X.env) (fun x ZG=>wpAny (model X.prog X.w) X.A (pyIter x) (fun it2 ZD=>
   wpAny (model X.prog X.w) X.A (runOwn (.compStart (.ListComp elt [⟨tg,iter,ifs,0⟩,⟨tg2,iter2,ifs2,0⟩] scope pos) 1 it2 (.ref D) X.env) X.env) (fun _ s'=>∃ZZ H',Inv X pins ZZ H' s'/\Z ZZ H') (fun _ _=>False) ZD) (fun _ _=>False) ZG) (fun _ _=>False) s:=by
 have noX:∀{J:Type} {t:Sem J} {Q:J->Shared->Prop} {s:Shared},wpAny (model X.prog X.w) X.A t Q X.xe s->wpAny (model X.prog X.w) X.A t Q (fun _ _=>False) s:=fun q=>Vz q (fun _ _ z=>z) fun e s z=>hx e s z;refine noX (thn (hi pins s B H _ I h) fun v s1 h1=>?_);refine noX (thn h1 fun itv s2 h2=>?_);obtain⟨it,fp,tn,Z6,H2,e,I2,T,st2,f2,W,⟨m0,w0⟩,turn⟩:=h2;subst e;have stat:∀{H':Hp},(∀b∈fp,H' b=none)->∀b∈fp,qK X pins H' b:=fun hn b hb=>⟨hn b hb,(f2 b hb).2⟩
 refine(wpAny_runOwn ?_);have loop:codeAny (model X.prog X.w) X.A (.compLoop (.ListComp elt [⟨tg,iter,ifs,0⟩,⟨tg2,iter2,ifs2,0⟩] scope pos) 1 (.ref it) (.ref D) X.env)
   (fun r s'=>match r with| .ok f=>∃ZZ H',Inv X pins ZZ H' s'/\Z ZZ H'| .error e=>cameBackBy (model X.prog X.w) X.A X.env (fun _ _=>False) e s') s2:=by
  obtain⟨P,hP⟩:∃P:Nat->Shared->Prop,∀n s',P n s'↔∃i ZZ H',Inv X pins ZZ H' s'/\tn i s'.heap/\(∀b∈fp,H' b=none)/\W i n ZZ H':=⟨_,fun _ _=>Iff.rfl⟩
  refine N3 P ?_ m0 ((hP _ _).2 ⟨0,B,H2,I2,st2,fun b hb=>(f2 b hb).1,w0⟩);rintro n s3 h3;obtain⟨i,ZH,H3,I3,st3,fr3,w3⟩:=(hP _ _).1 h3;rcases turn i n ZH H3 w3 with⟨stop,qz⟩|⟨go,N,hN,step⟩
  ·refine Vz (T.done X rfl rfl rfl hc i pins s3 ZH H3 (fun _ _=>False) I3 (stat fr3) st3 stop) (fun r s4 ⟨hr,I4⟩=>?_) fun _ _ z=>z;subst hr;exact⟨ZH,H3,I4,qz⟩
  ·refine Vz (T.item X rfl rfl rfl hc i pins s3 ZH H3 (fun _ _=>False) I3 (stat fr3) st3 go) (fun r s4 ⟨u,hr,h4⟩=>?_) fun _ _ z=>z;subst hr;refine Vz h4 (fun _ s5 hm=>?_) fun _ _ z=>z;obtain⟨x,H5,I5,r5,y5,st5,fr5⟩:=hm;have I5':=I5.pinned (stat fr5) (T.obj _ _ st5);have again:∀{ZS:St} {H7:Hp} {s7:Shared},Inv X (pins++vd fp s5.heap) ZS H7 s7->N ZS H7->∃m,m<n/\P m s7:=fun{ZS H7 s7} I7 n7=>by
    obtain⟨m',hm,w7⟩:=hN ZS H7 n7;refine(⟨m',hm,(hP _ _).2 ⟨i+1,ZS,H7,I7.unpinned,T.keep _ _ _ st5 fun b hb o e=>(I7.pin (b,o) (VE _ (VE _ (uu hb e)))).1,fun b hb=>?_,w7⟩⟩);obtain⟨o,e,d⟩:=T.obj _ _ st5 b hb;exact((I7.pin (b,o) (VE _ (VE _ (uu hb e)))).2.1)
   refine noX (thn (hg _ s5 ZH H5 x u _ I5' r5 (step x H5 y5)) fun _ s6 hm=>?_);obtain⟨Zo,H6,I6,q6⟩:=hm;refine(noX (thn (ht _ s6 Zo H6 _ I6 q6) fun b s7 hm=>?_));obtain⟨H7,I7,q7⟩:=hm;cases b with
   |false=>
    show ∃m,_;exact again I7 q7
   |true=>
    show wpAny _ _ _ _ _ _;refine noX (thn (he _ s7 Zo H7 _ I7 q7) fun y s8 hm=>?_);obtain⟨v,H8,I8,r8,ys,hy,hz,q8⟩:=hm;refine(noX (thn (CB (X:=X) _ s8 Zo H8 (.ref D) [v] (.ref D) [y] (fun _ H'=>N Zo H') I8 rfl (.cons r8 .nil) ⟨_,ys,v,rfl,rfl,hy,hz,q8⟩) fun _ s9 hm=>?_));obtain⟨_,H9,I9,_,q9⟩:=hm;exact(again I9 q9)
 exact M5 loop (T.self _ 0 _ _ _ st2 loop)
theorem UR{Y:Cx}{s:Shared}{ZM:St}{H2:Hp}{it D:Addr}{fp:List Addr}{tn:Nat->Heap->Prop}{Z6:It}{Z:Hp->Prop}{R:Result->Shared->Prop}(hs2:∀x,foldedSetIterable iter2 Y.env x=pure x)
  (hx:∀e s,Y.xe e s->False) (hc:Y.calm=true) (hg:PG Y tg g) (ht:PIf Y ifs tc) (hi2:PI Y tg2 iter2 wi2) (hg2:PG Y tg2 g2) (ht2:PIf Y ifs2 tc2) (he:PE Y elt te)
  (T:Turn Y.prog Y.w Y.K tg Z6 fp it tn) (J0:Inv Y [] ZM (upd H2 D (.lst [])) s) (st3:tn 0 s.heap) (f3:∀b∈fp,upd H2 D (.lst []) b=none)
  (stat:∀{H':Hp},(∀b∈fp,H' b=none)->∀b∈fp,qK Y [] H' b) (h:xh Z6 g tc wi2 g2 tc2 te D ZM H2 Z)
  (hR:∀ZP H4 s5,Inv Y [] ZP H4 s5->Z H4->R (.ok .next) s5):
  codeAny (model Y.prog Y.w) Y.A (.compLoop (.ListComp elt [⟨tg,iter,ifs,0⟩,⟨tg2,iter2,ifs2,0⟩] scope pos) 0 (.ref it) (.ref D) Y.env) R s:=by
 obtain⟨W,⟨m0,w0⟩,turn⟩:=h;have noX:∀{J:Type} {t:Sem J} {Q:J->Shared->Prop} {s:Shared},wpAny (model Y.prog Y.w) Y.A t Q Y.xe s->wpAny (model Y.prog Y.w) Y.A t Q (fun _ _=>False) s:=fun q=>Vz q (fun _ _ z=>z) fun e s z=>hx e s z;obtain⟨P,hP⟩:∃P:Nat->Shared->Prop,∀n s',P n s'↔∃i ZZ H',Inv Y [] ZZ H' s'/\tn i s'.heap/\(∀b∈fp,H' b=none)/\W i n ZZ H':=⟨_,fun _ _=>Iff.rfl⟩
 refine Pm hs2 P ?_ m0 ((hP _ _).2 ⟨0,_,_,J0,st3,f3,w0⟩);rintro n s4 h4;obtain⟨i,ZP,H4,I4,st4,fr4,w4⟩:=(hP _ _).1 h4;rcases turn i n ZP H4 w4 with⟨stop,qz⟩|⟨go,N,hN,step⟩
 ·refine Vz (T.done Y rfl rfl rfl hc i [] s4 ZP H4 (fun _ _=>False) I4 (stat fr4) st4 stop) (fun r s5 ⟨hr,I5⟩=>?_) fun _ _ z=>z;subst hr;exact hR ZP H4 s5 I5 qz
 ·refine Vz (T.item Y rfl rfl rfl hc i [] s4 ZP H4 (fun _ _=>False) I4 (stat fr4) st4 go) (fun r s5 ⟨u,hr,h5⟩=>?_) fun _ _ z=>z;subst hr;refine Vz h5 (fun _ s6 hm=>?_) fun _ _ z=>z;obtain⟨x,H6,I6,r6,y6,st6,fr6⟩:=hm;have I6':=I6.pinned (stat fr6) (T.obj _ _ st6);have again:∀{ZS:St} {H7:Hp} {s7:Shared},Inv Y ([]++vd fp s6.heap) ZS H7 s7->N ZS H7->∃m,m<n/\P m s7:=fun{ZS H7 s7} I7 n7=>by
   obtain⟨m',hm,w7⟩:=hN ZS H7 n7;refine(⟨m',hm,(hP _ _).2 ⟨i+1,ZS,H7,I7.unpinned,T.keep _ _ _ st6 fun b hb o e=>(I7.pin (b,o) (VE _ (VE _ (uu hb e)))).1,fun b hb=>?_,w7⟩⟩);obtain⟨o,e,d⟩:=T.obj _ _ st6 b hb;exact((I7.pin (b,o) (VE _ (VE _ (uu hb e)))).2.1)
  refine noX (thn (hg _ s6 ZP H6 x u _ I6' r6 (step x H6 y6)) fun _ s7 hm=>?_);obtain⟨ZS,H7,I7,q7⟩:=hm;refine(noX (thn (ht _ s7 ZS H7 _ I7 q7) fun b s8 hm=>?_));obtain⟨H8,I8,q8⟩:=hm;cases b with
  |false=>
   show ∃m,_;exact again I8 q8
  |true=>
   show wpAny _ _ _ _ _ _;refine Vz (P9 (X:=Y) hx hc hi2 hg2 ht2 he I8 q8) (fun _ _ z=>Vz z (fun _ _ z=>Vz z (fun _ s9 ⟨Y2,H9,I9,q9⟩=>again I9 q9) fun _ _ z=>z) fun _ _ z=>z) fun _ _ z=>z
theorem KW{s2:Shared}{H2:Hp}{it:Addr}{fp:List Addr}{tn:Nat->Heap->Prop}{Z6:It}{cl:List (Str×Addr)}{Z:Addr->Hp->Prop}{RR:Value->Addr->Result->Shared->Prop}{E:OK}
  (hx:∀e s,X.xe e s->False) (hc:X.calm=true) (S:CompScope X N' own cap scope)
  (hg:∀cl C Z2 Z0 ex,PG (pR X N' scope cl C Z2 Z0 ex) tg g) (ht:∀cl C Z2 Z0 ex,PIf (pR X N' scope cl C Z2 Z0 ex) ifs tc) (hi2:∀cl C Z2 Z0 ex,PI (pR X N' scope cl C Z2 Z0 ex) tg2 iter2 wi2) (hg2:∀cl C Z2 Z0 ex,PG (pR X N' scope cl C Z2 Z0 ex) tg2 g2) (ht2:∀cl C Z2 Z0 ex,PIf (pR X N' scope cl C Z2 Z0 ex) ifs2 tc2) (he:∀cl C Z2 Z0 ex,PE (pR X N' scope cl C Z2 Z0 ex) elt te) (hs2:∀cl C x,foldedSetIterable iter2 (compEnvC scope cl C X.env) x=pure x)
  (I2:Inv X pins B H2 s2) (T:Turn X.prog X.w X.K tg Z6 fp it tn) (st2:tn 0 s2.heap) (f2:∀b∈fp,qK X pins H2 b)
  (c1:∀y c,cl.lookup y=some c->X.env.cells.lookup y=some c) (c2:∀y,(y,NameKind.free)∈scope.names->∃c,cl.lookup y=some c)
  (h:∀D,H2 D=none->xh Z6 g tc wi2 g2 tc2 te D (rD own cap B) H2 (Z D))
  (hRR:∀D C s' m' H',Inv X pins B H' s'->s'.heap.Ns C m'->qK X pins H' C->Z D H'->RR (.ref D) C (.ok .next) s'):
  wpAny (model X.prog X.w) X.A (newList []) (fun acc ZL=>wpAny (model X.prog X.w) X.A (newFunctionEnv scope X.env.globals cl [] X.env.qual none .none (some X.env)) (fun cenv ZG=>
   codeAny (model X.prog X.w) X.A (.compStart (.ListComp elt [⟨tg,iter,ifs,0⟩,⟨tg2,iter2,ifs2,0⟩] scope pos) 0 (.ref it) acc {cenv with scope:=relabel scope X.env}) (RR acc cenv.locals) ZG) E ZL) E s2:=by
 have hlt:∀b∈fp,b<s2.heap.objs.size:=fun b hb=>by
  obtain⟨o,e,_⟩:=T.obj _ _ st2 b hb;exact(Vy e)
 have hD:H2 s2.heap.objs.size=none:=I2.hok.fresh (Vv _);refine Wg (BP (fun ZQ Zz Zy Zx=>?_));dsimp only at Zz Zy Zx⊢;have I3:Inv X pins B (upd H2 s2.heap.objs.size (.lst [])) {s2 with heap:=s2.heap.push {cls:=.type "list",dict:=none,data:=.seq ([]:List Value).toArray},toks:=s2.toks}:=
  I2.laid (fun b o e=>Vu _ e) (Vv _) ⟨Wm _,[],0,.nil,VC _ rfl⟩
 generalize hs3:({s2 with heap:=s2.heap.push {cls:=.type "list",dict:=none,data:=.seq ([]:List Value).toArray},toks:=s2.toks}:Shared)=s3 at I3;have e3:s2.heap.push {cls:=.type "list",dict:=none,data:=.seq ([]:List Value).toArray}=s3.heap:=by rw[←hs3]
 have hsz:s3.heap.objs.size=s2.heap.objs.size+1:=by rw[←e3,Wi]
 rw[e3] at Zz Zy Zx⊢;have hk:=Zy;have hcl:∀y c,cl.lookup y=some c->¬s3.heap.objs.size<c:=fun y c e z=>by
  obtain⟨v,o,ho,_⟩:=I3.cell y c (c1 y c e);exact(V1 _ (Nat.lt_trans z (Vy ho)))
 have CA:CellsAre X scope s3.heap.objs.size cl (cellsFrom (s3.heap.objs.size+1) scope.names cl):=DP (h:=s3.heap.push {cls:=.type "dict",data:=.dict #[]}) (by rw[Wi]) S hcl;have hcell:∀y c,(cellsFrom (s3.heap.objs.size+1) scope.names cl).lookup y=some c->s3.heap.objs.size<c->ZQ.IsCell c none:=fun y c e z=>by
  rw[t9,vG] at e;cases q:(cellsFrom (s3.heap.objs.size+1) scope.names []).lookup y with
  |none=>rw[q] at e;exact absurd z (hcl y c e)
  |some c'=>
   rw[q] at e;have:c'=c:=VP e;subst this;exact Zx y c' (V2 q)
 generalize hcs:cellsFrom (s3.heap.objs.size+1) scope.names cl=cs at CA hcell⊢;have f3:∀b∈fp,qK X pins (upd H2 s2.heap.objs.size (.lst [])) b:=fun b hb=>⟨by rw[pW (VN (hlt b hb))];exact(f2 b hb).1,(f2 b hb).2⟩
 have hlt3:∀b∈fp,b<s3.heap.objs.size:=fun b hb=>by rw[hsz];exact Xb (hlt b hb)
 have st3:tn 0 ZQ:=T.keep _ _ _ st2 fun b hb o e=>hk b o (by rw[←e3];exact Vu _ e);have J0:Inv (pR X N' scope cs s3.heap.objs.size s3 (upd H2 s2.heap.objs.size (.lst [])) fp) [] (rD own cap B) (upd H2 s2.heap.objs.size (.lst [])) {s3 with heap:=ZQ,toks:=s2.toks}:=
  comp_inv I3 S CA hcell c1 c2 f3 hlt3 hk Zz
 have stat:∀{pl:QS} {H':Hp},pl=[]->(∀b∈fp,H' b=none)->∀b∈fp,qK (pR X N' scope cs s3.heap.objs.size s3 (upd H2 s2.heap.objs.size (.lst [])) fp) pl H' b:=fun{pl H'} hp hn b hb=>by
  subst hp;refine⟨hn b hb,VN (hlt3 b hb),J0.ok.exfs b hb,.inl hb,fun x c e=>J0.ok.exf b hb |>.2 x c e,fun p hp=>absurd hp (by show p∉([]++[]:QS);simp)⟩
 have loop:codeAny (model X.prog X.w) X.A (.compLoop (.ListComp elt [⟨tg,iter,ifs,0⟩,⟨tg2,iter2,ifs2,0⟩] scope pos) 0 (.ref it) (.ref s2.heap.objs.size) (compEnvC scope cs s3.heap.objs.size X.env)) (RR (.ref s2.heap.objs.size) s3.heap.objs.size)
   {s3 with heap:=ZQ,toks:=s2.toks}:=UR (Y:=pR X N' scope cs s3.heap.objs.size s3 (upd H2 s2.heap.objs.size (.lst [])) fp) (hs2 _ _) hx hc (hg _ _ _ _ _) (ht _ _ _ _ _) (hi2 _ _ _ _ _) (hg2 _ _ _ _ _) (ht2 _ _ _ _ _) (he _ _ _ _ _) T J0 st3 (fun b hb=>(f3 b hb).1) (stat rfl) (h _ hD) fun ZP H4 s5 I5 qz=>by
  have I6:Inv X pins B H4 s5:=I3.call' (ch:=fp) I5.os I5.base I5.hok I5.bare fun b hb=>⟨(f3 b hb).2.2.2.1,(f3 b hb).2.1,(f3 b hb).2.2.2.2.1,(f3 b hb).2.2.2.2.2⟩
  obtain⟨m',hn',_⟩:=I5.loc;exact(hRR _ _ s5 m' H4 I6 hn' (I3.fpOk (Vv _) I5.free) qz)
 have lp:codeAny (model X.prog X.w) X.A (.compStart (.ListComp elt [⟨tg,iter,ifs,0⟩,⟨tg2,iter2,ifs2,0⟩] scope pos) 0 (.ref it) (.ref s2.heap.objs.size) (compEnvC scope cs s3.heap.objs.size X.env)) (RR (.ref s2.heap.objs.size) s3.heap.objs.size)
   {s3 with heap:=ZQ,toks:=s2.toks}:=codeAny_compStart_list loop (T.self _ 0 _ _ _ st3 loop)
 subst hs3;exact lp
theorem U6(S:CompScope X N' own cap scope)(hi:PI X tg iter wi)
  (hg:∀cl C Z2 Z0 ex,PG (pR X N' scope cl C Z2 Z0 ex) tg g) (ht:∀cl C Z2 Z0 ex,PIf (pR X N' scope cl C Z2 Z0 ex) ifs tc)
  (hi2:∀cl C Z2 Z0 ex,PI (pR X N' scope cl C Z2 Z0 ex) tg2 iter2 wi2) (hg2:∀cl C Z2 Z0 ex,PG (pR X N' scope cl C Z2 Z0 ex) tg2 g2) (ht2:∀cl C Z2 Z0 ex,PIf (pR X N' scope cl C Z2 Z0 ex) ifs2 tc2)
  (he:∀cl C Z2 Z0 ex,PE (pR X N' scope cl C Z2 Z0 ex) elt te)
  (hx:∀e s,X.xe e s->False:=by exact fun _ _ z=>z) (hc:X.calm=true:=by rfl) (hs:∀x,foldedSetIterable iter X.env x=pure x:=by intro _;rfl) (hs2:∀cl C x,foldedSetIterable iter2 (compEnvC scope cl C X.env) x=pure x:=by intro _ _ _;rfl):
  PE X (.ListComp elt [⟨tg,iter,ifs,0⟩,⟨tg2,iter2,ifs2,0⟩] scope pos) (fun B H Q=>wi B H fun Z6 H1=>∀D,H1 D=none->xh Z6 g tc wi2 g2 tc2 te D (rD own cap B) H1 (Q (.ref D))):=by
 intro pins s B H Q I h;rw[eval_ListComp];obtain⟨cl,hcl,c1,c2⟩:=zd (scope:=scope) (env:=X.env) fun y hy hk=>I.ok.has y.1 (S.free y hy hk);refine(WF (use:=none) rfl hs hcl S.kind S.names (thn (hi pins s B H _ I h) fun v s1 h1=>thn h1 fun itv s2 h2=>?_));obtain⟨it,fp,tn,Z6,H2,e,I2,T,st2,f2,q⟩:=h2;subst e;refine(KW (RR:=fun acc C=>compPost (model X.prog X.w) X.A X.xe none (EP X pins B Q) acc C) (Z:=fun D=>Q (.ref D)) hx hc S hg ht hi2 hg2 ht2 he hs2 I2 T st2 f2 c1 c2 q ?_);intro D C s' m' H' I' hn' f' z;exact⟨m',hn',fun h'' hs''=>⟨.ref D,H',I'.letgo f' hs'',rfl,z⟩⟩
theorem NN{i:Nat}{y:Str}{py spos:Pos}(hN:X.N.Nodup)(hi':X.N[i]?=some y)(hy:X.env.scope.names.lookup y=some .local)(S:CompScope X N' own cap scope)(hi:PI X tg iter wi)
  (hg:∀cl C Z2 Z0 ex,PG (pR X N' scope cl C Z2 Z0 ex) tg g) (ht:∀cl C Z2 Z0 ex,PIf (pR X N' scope cl C Z2 Z0 ex) ifs tc)
  (hi2:∀cl C Z2 Z0 ex,PI (pR X N' scope cl C Z2 Z0 ex) tg2 iter2 wi2) (hg2:∀cl C Z2 Z0 ex,PG (pR X N' scope cl C Z2 Z0 ex) tg2 g2) (ht2:∀cl C Z2 Z0 ex,PIf (pR X N' scope cl C Z2 Z0 ex) ifs2 tc2)
  (he:∀cl C Z2 Z0 ex,PE (pR X N' scope cl C Z2 Z0 ex) elt te)
  (hsw:swapsWith (.ListComp elt [⟨tg,iter,ifs,0⟩,⟨tg2,iter2,ifs2,0⟩] scope pos) (some (.Name y py)) spos.line X.env=pure true:=by rfl)
  (hx:∀e s,X.xe e s->False:=by exact fun _ _ z=>z) (hc:X.calm=true:=by rfl) (hs:∀x,foldedSetIterable iter X.env x=pure x:=by intro _;rfl) (hs2:∀cl C x,foldedSetIterable iter2 (compEnvC scope cl C X.env) x=pure x:=by intro _ _ _;rfl):
  PS X (.Assign [.Name y py] (.ListComp elt [⟨tg,iter,ifs,0⟩,⟨tg2,iter2,ifs2,0⟩] scope pos) spos) (fun D B H=>wi B H fun Z6 H1=>∀p,H1 p=none->xh Z6 g tc wi2 g2 tc2 te p (rD own cap B) H1 (fun H2=>D.nx (B.set i (some (.ref p))) H2)):=by
 intro pins s B H D I h;obtain⟨cl,hcl,c1,c2⟩:=zd (scope:=scope) (env:=X.env) fun y hy hk=>I.ok.has y.1 (S.free y hy hk);rw[exec_Assign_Name_used _ _ _ _ hsw];refine Vt (WE (Vt ?_));show wpAny _ _ (do let _ ←comprehension (.ListComp elt [⟨tg,iter,ifs,0⟩,⟨tg2,iter2,ifs2,0⟩] scope pos) scope X.env _ (newList []) false (eval iter X.env) (some (assign (.Name y py) X.env))) _ _ s;refine Vt (Vz (WF (use:=some (assign (.Name y py) X.env)) (Q:=fun _ s'=>SP X pins D .next s') rfl hs hcl S.kind S.names
  (thn (hi pins s B H _ I h) fun v s1 h1=>thn h1 fun itv s2 h2=>?_)) (fun _ s' hq=>Vx (Vx hq)) fun _ _ e=>e)
 obtain⟨it,fp,tn,Z6,H2,e,I2,T,st2,f2,q⟩:=h2;subst e;refine(KW (RR:=fun acc C=>compPost (model X.prog X.w) X.A X.xe (some (assign (.Name y py) X.env)) (fun _ s'=>SP X pins D .next s') acc C) (Z:=fun p H2=>D.nx (B.set i (some (.ref p))) H2) hx hc S hg ht hi2 hg2 ht2 he hs2 I2 T st2 f2 c1 c2 q ?_);intro p C s' m' H' I' hn' f' z;show wpAny _ _ (assign (.Name y py) X.env (.ref p)) _ _ _;refine wpAny_assign_Name (Fx I' hN hi' (.inl hy) (v:=.ref p) rfl (fun s'' I'' hm=>?_) (.inr hy));obtain⟨a,hsb,ha⟩:=hm;have hCa:C≠a:=by
  rcases ha with z|z
  ·rw[z];exact f'.2.1
  ·exact fun e=>f'.2.2.2.2.1 y a z e.symm
 refine⟨m',hn'.sameBut hsb hCa,fun h3 hs3=>?_⟩;exact⟨_,H',I''.letgo f' hs3,z⟩
end
def vm(ns:List Int):Nat:=(firstMet (fun i=>ns.getD i 0) ns.length).length
end L2
namespace L2
open PySem PySem.W PySem.Spec PySem.Calls PyProof.Rows PySem.Builtin PySem.Builtin.ObjectAttr PySem.Builtin.Getset_descriptor
def Pj(e D:Addr):HO:=.ext fun h=>∃o,h.get? e=some o/\o.cls=.ref D
def PJ(X:Cx)(es:List Expr)(t:St->Hp->(Hp->Prop)->Prop):Prop:=
 ∀(pins:QS) (s:Shared) (B:St) (H:Hp) (Q:Hp->Prop) (acc:Str) (n:Nat),acc.length<=n->n+2000*es.length<=1000000->Inv X pins B H s->t B H Q->
  wpAny (model X.prog X.w) X.A (joinParts acc (evalEach es X.env)) (fun u s'=>∃z t H',u=.str z t/\Inv X pins B H' s'/\Q H') X.xe s
section
variable {X:Cx} {e e2:Expr} {es:List Expr} {te:TE} {t:St->Hp->(Hp->Prop)->Prop} {p pos:Pos}
theorem Ty:PJ X [] (fun _ H Q=>Q H):=fun pins s B H Q acc n h1 h2 I h=>joinParts_nil ⟨acc,_,H,rfl,I.tok _,h⟩ (by rw[WM];simp at h2;omega)
theorem Rq{x:Str}{j:Nat}(hx:x.length<=2000)(hr:PJ X es t):PJ X (.Constant (.str x) j p::es) t:=by
 intro pins s B H Q acc n h1 h2 I h;have hl:(acc++x).length<=n+2000:=by rw[strLen_append];omega
 simp only[VY] at h2;show wpAny _ _ (joinParts acc (eval (.Constant (.str x) j p) X.env::evalEach es X.env)) _ _ s;refine joinParts_cons (thn (J7 pins s B H (fun v H'=>v=.str x/\H'=H) I ⟨rfl,rfl⟩) fun u s1 hm=>?_);obtain⟨v,H1,I1,r1,e1,e2⟩:=hm;subst e1 e2;obtain⟨tk,rfl⟩:=r1;exact⟨by rw[WM];omega,hr pins s1 B _ Q _ (n+2000) hl (by omega) I1 h⟩
theorem S9(he:PE X e te)(hr:PJ X es t):PJ X (.FormattedValue e (-1) none p::es) (fun B H Q=>te B H fun v H1=>∃i,v=.int i/\i.natAbs.log2<1920/\t B H1 Q):=by
 intro pins s B H Q acc n h1 h2 I h;simp only[VY] at h2;show wpAny _ _ (joinParts acc (eval (.FormattedValue e (-1) none p) X.env::evalEach es X.env)) _ _ s;refine joinParts_cons (FormattedValue_plain (thn (he pins s B H _ I h) fun u s1 hm=>?_));obtain⟨v,H1,I1,r1,i,ev,hi,q⟩:=hm;subst ev;obtain⟨tk,rfl⟩:=r1;refine(formatField_int_small hi ?_);have hz:=int_text_len_1921 hi;have hl:(acc++Str.ofString (toString i)).length<=n+2000:=by rw[strLen_append];omega
 exact⟨by rw[WM];omega,hr pins _ B H1 Q _ (n+2000) hl (by omega) (I1.tok _) q⟩
theorem Lu(h:PJ X (e::e2::es) t)(hl:(e::e2::es).length<=400:=by decide):PE X (.JoinedStr (e::e2::es) pos) (fun B H Q=>t B H fun H1=>∀z,Q (.str z) H1):=by
 intro pins s B H Q I q;refine JoinedStr_many ?_;refine thn (h pins s B H _ Str.empty 0 (Wm _) (by omega) I q) fun u s' hm=>?_;obtain⟨z,tk,H',eu,I',q'⟩:=hm;exact(⟨.str z,H',I',⟨tk,eu⟩,q' z⟩)
end
end L2
namespace L2
open PySem PySem.Spec PyProof.Rows
def ObjOk.there{P:Program}{w:World}{H:Hp}{h:Heap}{a:Addr}{o:HO}(x:ObjOk P w H h a o):∃ob,h.get? a=some ob:=by
 cases o with
 |lst xs=>obtain⟨_,_,_,_,e⟩:=x;exact⟨_,e⟩
 |tup xs=>obtain⟨_,_,_,p⟩:=x;obtain⟨ob,e,_⟩:=p;exact⟨_,e⟩
 |dK kvs=>obtain⟨_,_,_,_,o,_,_,e,_⟩:=x;exact⟨_,e⟩
 |dT kvs=>obtain⟨_,_,_,_,o,_,_,e,_⟩:=x;exact⟨_,e⟩
 |set S n=>obtain⟨o,_,_,_,e,_⟩:=x;exact⟨_,e⟩
 |ins C dx fs=>obtain⟨_,_,_,e,_⟩:=x;exact⟨_,e⟩
 |own y=>obtain⟨_,e⟩:=x;exact⟨_,e⟩
 |xd fs=>obtain⟨_,⟨_,_,_,e,_⟩,_⟩:=x;exact⟨_,e⟩
 |rng lo hi=>obtain⟨_,_,_,e⟩:=x;exact⟨_,e⟩
 |frz ob u=>obtain⟨e,_⟩:=x;exact⟨_,e⟩
 |tbl ps=>exact⟨_,(show h.get? a=some _ from x)⟩
 |met f y=>exact⟨_,(show h.get? a=some _ from x)⟩
 |ext φ=>obtain⟨_,e,_⟩:=x;exact e
structure Flew (P:Program) (w:World) (outer:List Env) (H H':Hp) (s:Shared) (e:Addr) (C:Value) (Z7:Heap) (s':Shared):Prop where
 os:s'.os=s.os
 bare:AllBare s'.gens
 un:Un (frs outer) [] H H' s.heap s'.heap
 hok:HOk P w H' s'.heap
 trk:∀b o,s'.heap.get? b=some o->H' b≠none->Z7.get? b=some o
 old:∀b o,s.heap.get? b=some o->H b=none->b∉frs outer->Z7.get? b=some o
 thr:∀b o,s.heap.get? b=some o->b∉frs outer->∃o',Z7.get? b=some o'
 frf:∀b∈frs outer,H b=none
 unt:H' e=none
 new:s.heap.get? e=none
 fly:∃a0,Heap.FlyingW Z7 outer e C a0 s'.heap
def CXr(P:Program)(w:World):CXT:=fun outer H s E e s'=>∃(a:Addr) (C:Value) (H':Hp) (Z7:Heap),e=.ref a/\Flew P w outer H H' s a C Z7 s'/\E C none H'
section
variable {P:Program} {w:World} {outer:List Env} {H H':Hp} {s s':Shared} {e:Addr} {C:Value} {Z7:Heap}
theorem Flew.to{h2:Heap}(F:Flew P w outer H H' s e C Z7 s')(hB:Z7.StaysIn h2)(hs:s'.heap.UpToSlots h2):Un (frs outer) [] H H' s.heap h2/\HOk P w H' h2/\∀b o,h2.get? b=some o->H' b≠none->Z7.get? b=some o:=by
 obtain⟨a0,fl⟩:=F.fly;have kp:∀b o,s.heap.get? b=some o->H b=none->b∉frs outer->h2.get? b=some o:=fun b o x n hb=>hB b o (F.old b o x n hb);have sl:∀b o,s.heap.get? b=some o->H b=none->b∈frs outer->∃sl,h2.get? b=some {o with slots:=sl}:=fun b o x n hb=>by
  obtain⟨sl,e1⟩:=F.un.slot b o x n hb (by simp);obtain⟨_,o',e2,d⟩:=fl.2.2.1.mem hb;rw[e1] at e2;cases e2;obtain⟨sl',e3⟩:=hs b {o with slots:=sl} e1 d;exact(⟨sl',e3⟩)
 refine⟨⟨fun b o x n hb _=>kp b o x n hb,fun b o x n hb _=>sl b o x n hb,F.un.free,fun b o x _=>?_,F.un.tups,F.un.frzs,F.un.tbls⟩,fun a u eu=>?_,fun b o x n=>?_⟩
 ·by_cases hb:b∈frs outer
  ·obtain⟨l,e1⟩:=sl b o x (F.frf b hb) hb;exact⟨_,e1⟩
  ·obtain⟨o',e1⟩:=F.thr b o x hb;exact⟨o',hB b o' e1⟩
 ·refine(F.hok a u eu).stay (fun b v hb q=>hB b v (F.trk b v q ?_)) (fun _ q=>q) fun _ _ q=>q;rcases hb with z|z
  ·rw[z,eu];simp
  ·rw[z];simp
 ·cases eu:H' b with
  |none=>exact absurd eu n
  |some u=>
   obtain⟨o1,e1⟩:=(F.hok b u eu).there;have e2:=F.trk b o1 e1 n;have e3:=hB b o1 e2;rw[x] at e3;cases e3;exact(e2)
theorem Flew.next{h2:Heap}(F:Flew P w outer H H' s e C Z7 s')(hs:s'.heap.UpToSlots h2)(fl:∃a0,Heap.FlyingW Z7 outer e C a0 h2):Flew P w outer H H' s e C Z7 {s' with heap:=h2}:=by
 obtain⟨a0,fl⟩:=fl;obtain⟨u,k,t⟩:=F.to fl.1 hs;exact(⟨F.os,F.bare,u,k,t,F.old,F.thr,F.frf,F.unt,F.new,a0,fl⟩)
theorem Flew.inv{X:Cx}{pins:QS}{B:St}(F:Flew X.prog X.w X.stack H H' s e C Z7 s')(I:Inv X pins B H s):Inv X pins B H' s':=
 I.call' (ch:=[]) F.os F.un F.hok F.bare fun _ z=>nomatch z
end
section
variable {P:Program} {w:World} {K:Frag} {mg:Str->Option Value} {base:Heap} {N:List Str} {qual:Str} {scope:Scope} {f:Addr} {cd:Value} {A:Around} {outer:List Env} {s s1:Shared} {H H1:Hp} {E E':XK}
 {pins:QS} {B:St}
theorem Ud{h':Heap}{e C:Addr}{vs:List Value}(I:Inv (qh (CXr P w) P w K mg base N qual scope f cd A outer s H E) pins B H1 s1)(hx:Heap.MadeExcOf s1.heap h' e (.ref C) vs)(hE:E (.ref C) none H1):
  (qh (CXr P w) P w K mg base N qual scope f cd A outer s H E).xe (.ref e) {s1 with heap:=h'}:=by
 have fs:∀b,b∈frs (envOfC qual scope s.heap.objs.size f cd::outer)->H1 b=none:=I.stkFree;have inn:∀b o,s1.heap.get? b=some o->b∉frs (envOfC qual scope s.heap.objs.size f cd::outer)->(PySem.W.hideAll s1.heap (frs (envOfC qual scope s.heap.objs.size f cd::outer))).get? b=some o:=fun b o e hb=>PySem.W.hideAll_get _ e hb;have out:∀b o,s.heap.get? b=some o->b∉frs outer->b∉frs (envOfC qual scope s.heap.objs.size f cd::outer):=fun b o e hb z=>by
  have z:b∈s.heap.objs.size::frs outer:=z;rcases VI.mp z with q|q
  ·rw[q] at e;exact V1 _ (Vy e)
  ·exact hb q
 have frf:∀b∈frs outer,H b=none:=I.ok.frf;have hin:∀env∈(envOfC qual scope s.heap.objs.size f cd::outer),∀a,env.frame=some a->a∈frs (envOfC qual scope s.heap.objs.size f cd::outer):=fun env he a ha=>List.mem_filterMap.mpr ⟨env,he,ha⟩;show wpAny (model P w) (A.deeper (envOfC qual scope s.heap.objs.size f cd)) (leaving (envOfC qual scope s.heap.objs.size f cd) (.ref e)) _ _ _;refine wpAny_leaves_madeW (base:=PySem.W.hideAll s1.heap (frs (envOfC qual scope s.heap.objs.size f cd::outer))) I.ok.frames rfl (fun b o q=>PySem.W.of_hideAll _ q) (PySem.W.funFrames_hide I.stack hin) hx fun h2 t fl _ _ ups=>?_;have hB:=fl.1;have sl:∀b o,s.heap.get? b=some o->H b=none->b∈frs outer->∃sl,h2.get? b=some {o with slots:=sl}:=fun b o x n hb=>by
  obtain⟨sl,e1⟩:=I.base.slot b o x n hb (by simp[qh]);obtain⟨_,o',e2,d⟩:=I.stack.mem (show b∈s.heap.objs.size::frs outer from V3 _ hb);rw[e1] at e2;cases e2;obtain⟨sl',e3⟩:=ups b {o with slots:=sl} (hx.keeps b {o with slots:=sl} e1) d;exact(⟨sl',e3⟩)
 have old:∀b o,s.heap.get? b=some o->H b=none->b∉frs outer->(PySem.W.hideAll s1.heap (frs (envOfC qual scope s.heap.objs.size f cd::outer))).get? b=some o:=fun b o x n hb=>
  inn b o (I.base.keep b o x n hb (by simp[qh])) (out b o x hb)
 have thr:∀b o,s.heap.get? b=some o->b∉frs outer->∃o',(PySem.W.hideAll s1.heap (frs (envOfC qual scope s.heap.objs.size f cd::outer))).get? b=some o':=fun b o x hb=>by
  obtain⟨o',e1⟩:=I.base.there b o x (by simp[qh]);exact(⟨o',inn b o' e1 (out b o x hb)⟩)
 have nfr:∀b,H1 b≠none->b∉frs (envOfC qual scope s.heap.objs.size f cd::outer):=fun b n z=>n (fs b z);refine⟨e,.ref C,H1,_,rfl,⟨I.os,I.bare,⟨fun b o x n hb _=>hB b o (old b o x n hb),fun b o x n hb _=>sl b o x n hb,fun b o x n _=>I.base.free b o x n (by simp[qh]),fun b o x _=>?_,I.base.tups,I.base.frzs,I.base.tbls⟩,fun a u eu=>?_,fun b o x n=>?_,old,thr,frf,?_,?_,_,fl⟩,hE⟩
 ·by_cases hb:b∈frs outer
  ·obtain⟨l,e1⟩:=sl b o x (frf b hb) hb;exact⟨_,e1⟩
  ·obtain⟨o',e1⟩:=thr b o x hb;exact⟨o',hB b o' e1⟩
 ·refine(I.hok a u eu).stay (fun b v hb q=>hB b v (inn b v q (nfr b ?_))) (fun _ q=>q) fun _ _ q=>q;rcases hb with z|z
  ·rw[z,eu];simp
  ·rw[z];simp
 ·cases eu:H1 b with
  |none=>exact absurd eu n
  |some u=>
   obtain⟨o1,e1⟩:=(I.hok b u eu).there;have e2:=inn b o1 e1 (nfr b n);have e3:=hB b o1 e2;rw[x] at e3;cases e3;exact(e2)
 ·cases eu:H1 e with
  |none=>rfl
  |some u=>
   obtain⟨o1,e1⟩:=(I.hok e u eu).there;rw[hx.new] at e1;cases e1
 ·cases eo:s.heap.get? e with
  |none=>rfl
  |some o=>
   obtain⟨o1,e1⟩:=I.base.there e o eo (by simp[qh]);rw[hx.new] at e1;cases e1
theorem T1(hE:∀C d H',E' C d H'->E C d H'):wF (CXr P w) (qh (CXr P w) P w K mg base N qual scope f cd A outer s H E) E':=by
 intro pins B H1 s1 e s' I hc;obtain⟨a,C,H',Z7,rfl,F,q⟩:=hc;have F:Flew P w (envOfC qual scope s.heap.objs.size f cd::outer) H1 H' s1 a C Z7 s':=F;obtain⟨a0,fl⟩:=F.fly;have I2:Inv (qh (CXr P w) P w K mg base N qual scope f cd A outer s H E) pins B H' s':=Flew.inv (X:=qh (CXr P w) P w K mg base N qual scope f cd A outer s H E) F I;have out:∀b o,s.heap.get? b=some o->b∉frs outer->b∉frs (envOfC qual scope s.heap.objs.size f cd::outer):=fun b o e hb z=>by
  have z:b∈s.heap.objs.size::frs outer:=z;rcases VI.mp z with q|q
  ·rw[q] at e;exact V1 _ (Vy e)
  ·exact hb q
 obtain⟨f1,f2,⟨_,_,f3⟩,f4⟩:=id fl;have G:Flew P w outer H H' s a C Z7 s':=by
  refine⟨I2.os,F.bare,⟨fun b o x n hb _=>I2.base.keep b o x n hb (by simp[qh]),fun b o x n hb _=>I2.base.slot b o x n hb (by simp[qh]),fun b o x n _=>I2.base.free b o x n (by simp[qh]),fun b o x _=>I2.base.there b o x (by simp[qh]),I2.base.tups,I2.base.frzs,I2.base.tbls⟩,F.hok,F.trk,
   fun b o x n hb=>F.old b o (I.base.keep b o x n hb (by simp[qh])) (I.base.free b o x n (by simp[qh])) (out b o x hb),fun b o x hb=>?_,I.ok.frf,F.unt,?_,a0,f1,f2,f3,f4⟩
  ·obtain⟨o1,e1⟩:=I.base.there b o x (by simp[qh]);exact F.thr b o1 e1 (out b o x hb)
  ·cases eo:s.heap.get? a with
   |none=>rfl
   |some o=>
    obtain⟨o1,e1⟩:=I.base.there a o eo (by simp[qh]);rw[F.new] at e1;cases e1
 show wpAny (model P w) (A.deeper (envOfC qual scope s.heap.objs.size f cd)) (leaving (envOfC qual scope s.heap.objs.size f cd) (.ref a)) _ _ _;exact wpAny_leaves_onW I.ok.frames rfl fl fun h2 fl2 ups=>⟨a,C,H',Z7,rfl,G.next ups ⟨_,fl2⟩,hE C none H' q⟩
end
end L2
namespace L3
open PySem PySem.Spec L2
inductive D where
 |non|bl (b:Bool)|int (i:Int)|str (x:Str)|lst (xs:List D)|scr (xs:List D)|tup (xs:List D)|gt (xs:List D)|ref (k:Nat)
inductive Z8 where
 |lst (xs:List D)|dK (kvs:List (Key×D))|dN (kvs:List (NK×D))|ins (C:Addr) (fs:List (Str×D))|exc (C:Addr)
abbrev M:=List (Option Z8)
abbrev Fr:=Option (D×M)
abbrev C0:=List D->M->Fr
abbrev G:=List (Option D)
structure Wd where
 ρ:List Addr
 L:M
 H:Hp
 hid:Addr->Prop
def SqF(K:Frag)(H:Hp)(a:Addr)(xs:List V):Prop:=(∃o,H a=some (.frz o (.lst xs)))\/
  ∃(o:Obj) (its:Array Value) (n:Nat),K.lookup a=some o/\o.cls=.type "list"/\o.dict=none/\o.data=.seq its n/\its.size<=sizeLine/\Vals xs its.toList
def SqF.seq{K:Frag}{H:Hp}{a:Addr}{xs:List V}(h:SqF K H a xs):SqL K H a xs:=by
 rcases h with h|h
 ·exact .inl (.inr h)
 ·exact .inr h
def RL(W:Wd)(a:Addr):Prop:=∃(k:Nat) (o:Z8),W.L[k]?=some (some o)/\W.ρ[k]?=some a
def yx(W:Wd)(a:Addr):Prop:=RL W a\/W.hid a
mutual
inductive DR (K:Frag) (W:Wd):D->V->Prop where
 |non:DR K W .non .non
 |bl (b:Bool):DR K W (.bl b) (.bl b)
 |int (i:Int):DR K W (.int i) (.int i)
 |str (x:Str):DR K W (.str x) (.str x)
 |ref {k:Nat} {a:Addr}:W.ρ[k]?=some a->DR K W (.ref k) (.ref a)
 |lst {a:Addr} {vs:List V} {ds:List D}:W.H a=some (.lst vs)->¬yx W a->DRs K W ds vs->DR K W (.lst ds) (.ref a)
 |scr {a:Addr} {vs:List V} {ds:List D}:SqF K W.H a vs->DRs K W ds vs->DR K W (.scr ds) (.ref a)
 |tup {a:Addr} {vs:List V} {ds:List D}:W.H a=some (.tup vs)->DRs K W ds vs->DR K W (.tup ds) (.ref a)
 |gt {a:Addr} {vs:List V} {ds:List D}:SqT K W.H a vs->DRs K W ds vs->DR K W (.gt ds) (.ref a)
inductive DRs (K:Frag) (W:Wd):List D->List V->Prop where
 |nil:DRs K W [] []
 |cons {d:D} {v:V} {ds:List D} {vs:List V}:DR K W d v->DRs K W ds vs->DRs K W (d::ds) (v::vs)
end
def KR(K:Frag)(W:Wd):List (Key×D)->List (Key×V)->Prop:=Paired fun p q=>p.1=q.1/\DR K W p.2 q.2
def NR(K:Frag)(W:Wd):List (NK×D)->List (NK×V)->Prop:=Paired fun p q=>p.1=q.1/\DR K W p.2 q.2
def FR(K:Frag)(W:Wd):List (Str×D)->List (Str×V)->Prop:=Paired fun p q=>p.1=q.1/\DR K W p.2 q.2
def OR(K:Frag)(W:Wd)(a:Addr):Z8->HO->Prop
 | .lst ds,ho=>∃vs,ho=.lst vs/\DRs K W ds vs
 | .dK kvs,ho=>∃vs,ho=.dK vs/\KR K W kvs vs
 | .dN kvs,ho=>∃vs,ho=.dT vs/\NR K W kvs vs
 | .ins C fs,ho=>∃vs,(∃dx,ho=.ins C dx vs)/\FR K W fs vs
 | .exc C,ho=>ho=Pj a C
structure Ok (K:Frag) (W:Wd):Prop where
 len:W.ρ.length=W.L.length
 nd:W.ρ.Nodup
 rs:∀a∈W.ρ,W.H a≠none
 at_:∀(k:Nat) (o:Z8),W.L[k]?=some (some o)->∃a ho,W.ρ[k]?=some a/\W.H a=some ho/\OR K W a o ho
 hd0:∀a,W.hid a->W.H a≠none/\a∉W.ρ
def Ok.hd{K:Frag}{W:Wd}(ok:Ok K W):∀a,W.hid a->W.H a≠none/\¬RL W a:=fun a z=>⟨(ok.hd0 a z).1,fun⟨_,_,_,h⟩=>(ok.hd0 a z).2 (List.mem_of_getElem? h)⟩
structure Step (W W':Wd):Prop where
 ρ:∀(k:Nat) a,W.ρ[k]?=some a->W'.ρ[k]?=some a
 live:∀a,RL W' a->RL W a\/W.H a=none
 keep:∀a o,W.H a=some o->¬RL W a->W'.H a=some o
 hid:W'.hid=W.hid
 still:∀a,W.H a≠none->W'.H a≠none
structure EnvR (K:Frag) (W:Wd) (O:G) (B:St):Prop where
 len:O.length=B.length
 at_:∀(i:Nat) d,O[i]?=some (some d)->∃v,B[i]?=some (some v)/\DR K W d v
section
variable {K:Frag} {W W' W'':Wd} {O:G} {B:St}
theorem Step.refl:Step W W:=⟨fun _ _ h=>h,fun _ h=>.inl h,fun _ _ h _=>h,rfl,fun _ h=>h⟩
theorem Step.nlive(s:Step W W'){a:Addr}{o:HO}(h:W.H a=some o)(n:¬RL W a):¬RL W' a:=fun z=>by
 rcases s.live a z with z|z
 ·exact n z
 ·rw[h] at z;cases z
theorem Step.trans(s:Step W W')(t:Step W' W''):Step W W'' where
 ρ k a h:=t.ρ k a (s.ρ k a h)
 live a h:=by
  rcases t.live a h with z|z
  ·exact s.live a z
  ·exact .inr (Ww fun n=>s.still a n z)
 keep a o h n:=t.keep a o (s.keep a o h n) (s.nlive h n)
 hid:=t.hid.trans s.hid
 still a h:=t.still a (s.still a h)
theorem Step.nLive(s:Step W W'){a:Addr}{o:HO}(h:W.H a=some o)(n:¬yx W a):¬yx W' a:=fun z=>by
 rcases z with z|z
 ·exact s.nlive h (fun q=>n (.inl q)) z
 ·rw[s.hid] at z;exact n (.inr z)
theorem QJ(s:Step W W'){a:Addr}{u:HO}(n:¬RL W a)(r:Rd W.H a u):Rd W'.H a u:=by
 rcases r with h|⟨o,h⟩
 ·exact .inl (s.keep _ _ h n)
 ·exact .inr ⟨o,s.keep _ _ h n⟩
theorem Ok.notup(ok:Ok K W){a:Addr}{vs:List V}(r:Rd W.H a (.tup vs)):¬RL W a:=fun⟨k,o,hk,ha⟩=>by
 obtain⟨a',ho,h1,h2,h3⟩:=ok.at_ k o hk;rw[ha] at h1;cases h1;rcases r with h|⟨q,h⟩
 ·rw[h2] at h;cases o with
  |lst ds=>obtain⟨ws,rfl,_⟩:=h3;cases h
  |dK kvs=>obtain⟨ws,rfl,_⟩:=h3;cases h
  |dN kvs=>obtain⟨ws,rfl,_⟩:=h3;cases h
  |ins C fs=>obtain⟨ws,⟨dx,rfl⟩,_⟩:=h3;cases h
  |exc C=>cases (show _=_ from h3);cases h
 ·rw[h2] at h;cases o with
  |lst ds=>obtain⟨ws,rfl,_⟩:=h3;cases h
  |dK kvs=>obtain⟨ws,rfl,_⟩:=h3;cases h
  |dN kvs=>obtain⟨ws,rfl,_⟩:=h3;cases h
  |ins C fs=>obtain⟨ws,⟨dx,rfl⟩,_⟩:=h3;cases h
  |exc C=>cases (show _=_ from h3);cases h
theorem Hq(ok:Ok K W)(s:Step W W'){a:Addr}{vs:List V}(h:SqT K W.H a vs):SqT K W'.H a vs:=by
 rcases h with h|h
 ·exact .inl (QJ s (ok.notup h) h)
 ·exact .inr h
theorem Ok.nofrz(ok:Ok K W){a:Addr}{u:HO}{q:Obj}(h:W.H a=some (.frz q u)):¬RL W a:=fun⟨k,o,hk,ha⟩=>by
 obtain⟨a',ho,h1,h2,h3⟩:=ok.at_ k o hk;rw[ha] at h1;cases h1;rw[h2] at h;cases o with
 |lst ds=>obtain⟨ws,rfl,_⟩:=h3;cases h
 |dK kvs=>obtain⟨ws,rfl,_⟩:=h3;cases h
 |dN kvs=>obtain⟨ws,rfl,_⟩:=h3;cases h
 |ins C fs=>obtain⟨ws,⟨dx,rfl⟩,_⟩:=h3;cases h
 |exc C=>cases (show _=_ from h3);cases h
theorem KM(ok:Ok K W)(s:Step W W'){a:Addr}{vs:List V}(h:SqF K W.H a vs):SqF K W'.H a vs:=by
 rcases h with⟨o,h⟩|h
 ·exact .inl ⟨o,s.keep _ _ h (ok.nofrz h)⟩
 ·exact .inr h
mutual
theorem DR.step(ok:Ok K W)(s:Step W W'):∀{d:D} {v:V},DR K W d v->DR K W' d v
 |_,_,.non=>.non
 |_,_,.bl b=>.bl b
 |_,_,.int i=>.int i
 |_,_,.str x=>.str x
 |_,_,.ref h=>.ref (s.ρ _ _ h)
 |_,_,.lst r n h=>.lst (s.keep _ _ r (fun z=>n (.inl z))) (s.nLive r n) (DRs.step ok s h)
 |_,_,.scr r h=>.scr (KM ok s r) (DRs.step ok s h)
 |_,_,.tup r h=>.tup (s.keep _ _ r (ok.notup (.inl r))) (DRs.step ok s h)
 |_,_,.gt r h=>.gt (Hq ok s r) (DRs.step ok s h)
theorem DRs.step(ok:Ok K W)(s:Step W W'):∀{ds:List D} {vs:List V},DRs K W ds vs->DRs K W' ds vs
 |_,_,.nil=>.nil
 |_,_,.cons h t=>.cons (h.step ok s) (DRs.step ok s t)
end
theorem KR.step(ok:Ok K W)(s:Step W W'){kvs:List (Key×D)}{vs:List (Key×V)}(h:KR K W kvs vs):KR K W' kvs vs:=Paired.mapP h fun _ _ ⟨e,q⟩=>⟨e,q.step ok s⟩
theorem NR.step(ok:Ok K W)(s:Step W W'){kvs:List (NK×D)}{vs:List (NK×V)}(h:NR K W kvs vs):NR K W' kvs vs:=Paired.mapP h fun _ _ ⟨e,q⟩=>⟨e,q.step ok s⟩
theorem FR.step(ok:Ok K W)(s:Step W W'){kvs:List (Str×D)}{vs:List (Str×V)}(h:FR K W kvs vs):FR K W' kvs vs:=Paired.mapP h fun _ _ ⟨e,q⟩=>⟨e,q.step ok s⟩
theorem OR.step(ok:Ok K W)(s:Step W W'){a:Addr}{o:Z8}{ho:HO}(h:OR K W a o ho):OR K W' a o ho:=by
 cases o with
 |lst ds=>obtain⟨vs,e,q⟩:=h;exact⟨vs,e,q.step ok s⟩
 |dK kvs=>obtain⟨vs,e,q⟩:=h;exact⟨vs,e,q.step ok s⟩
 |dN kvs=>obtain⟨vs,e,q⟩:=h;exact⟨vs,e,q.step ok s⟩
 |ins C fs=>obtain⟨vs,e,q⟩:=h;exact⟨vs,e,q.step ok s⟩
 |exc C=>exact h
theorem EnvR.step(e:EnvR K W O B)(ok:Ok K W)(s:Step W W'):EnvR K W' O B:=⟨e.len,fun i d h=>let ⟨v,a,b⟩:=e.at_ i d h;⟨v,a,b.step ok s⟩⟩
theorem DRs.length:∀{ds:List D} {vs:List V},DRs K W ds vs->ds.length=vs.length
 |_,_,.nil=>rfl
 |_,_,.cons _ t=>by simp[t.length]
theorem DRs.get:∀{ds:List D} {vs:List V} {i:Nat} {d:D},DRs K W ds vs->ds[i]?=some d->∃v,vs[i]?=some v/\DR K W d v
 |_,_,_,_,.nil,e=>by simp at e
 |_,_,0,_,.cons h _,e=>by simp at e;subst e;exact⟨_,rfl,h⟩
 |_,_,i+1,d,.cons _ t,e=>by
  obtain⟨v,h1,h2⟩:=DRs.get (i:=i) (d:=d) t (by simpa using e);exact(⟨v,by simpa using h1,h2⟩)
theorem DRs.append:∀{ds es:List D} {vs us:List V},DRs K W ds vs->DRs K W es us->DRs K W (ds++es) (vs++us)
 |_,_,_,_,.nil,s=>s
 |_,_,_,_,.cons h t,s=>.cons h (DRs.append t s)
theorem DRs.take:∀{ds:List D} {vs:List V} (n:Nat),DRs K W ds vs->DRs K W (ds.take n) (vs.take n)
 |_,_,0,_=>.nil
 |_,_,_+1,.nil=>.nil
 |_,_,n+1,.cons r t=>.cons r (DRs.take n t)
theorem DRs.drop:∀{ds:List D} {vs:List V} (n:Nat),DRs K W ds vs->DRs K W (ds.drop n) (vs.drop n)
 |_,_,0,r=>r
 |_,_,_+1,.nil=>.nil
 |_,_,n+1,.cons _ t=>DRs.drop n t
theorem DRs.set{d:D}{v:V}(r:DR K W d v):∀{ds:List D} {vs:List V} (i:Nat),DRs K W ds vs->DRs K W (ds.set i d) (vs.set i v)
 |_,_,_,.nil=>.nil
 |_,_,0,.cons _ t=>.cons r t
 |_,_,i+1,.cons q t=>.cons q (DRs.set r i t)
theorem DRs.rep{ds:List D}{vs:List V}(h:DRs K W ds vs):∀n,DRs K W (List.replicate n ds).flatten (List.replicate n vs).flatten
 |0=>.nil
 |n+1=>by simp only[WL,List.flatten_cons];exact h.append (DRs.rep h n)
end
section
variable {K:Frag} {W:Wd}
def Wd.lay(W:Wd)(p:Addr)(o:HO):Wd:={W with H:=upd W.H p o}
theorem Lx(ok:Ok K W){p:Addr}(h:W.H p=none):¬RL W p:=fun⟨k,o,_,ha⟩=>ok.rs p (List.mem_of_getElem? ha) h
theorem HI(ok:Ok K W){p:Addr}(h:W.H p=none):¬W.hid p:=fun z=>(ok.hd p z).1 h
theorem O5(ok:Ok K W){p:Addr}(h:W.H p=none):¬yx W p:=fun z=>z.elim (Lx ok h) (HI ok h)
theorem qJ{p:Addr}{o:HO}(h:W.H p=none):Step W (W.lay p o) where
 ρ _ _ h:=h
 live _ h:=.inl h
 keep a u e _:=by show upd W.H p o a=_;rw[pW (rF e h)];exact e
 hid:=rfl
 still a n:=by
  show upd W.H p o a≠none;by_cases e:a=p
  ·subst e;rw[qG];simp
  ·rw[pW e];exact n
theorem rL(ok:Ok K W){p:Addr}{o:HO}(h:W.H p=none):Ok K (W.lay p o) where
 len:=ok.len
 nd:=ok.nd
 rs a m:=(qJ h).still a (ok.rs a m)
 at_ k u e:=by
  obtain⟨a,ho,h1,h2,h3⟩:=ok.at_ k u e;refine(⟨a,ho,h1,?_,h3.step ok (qJ h)⟩);show upd W.H p o a=_;rw[pW (rF h2 h)];exact h2
 hd0 a z:=⟨(qJ h).still a (ok.hd a z).1,(ok.hd0 a z).2⟩
theorem MN(ok:Ok K W){p:Addr}{o:HO}(h:W.H p=none):¬yx (W.lay p o) p:=O5 ok h
theorem ym(ok:Ok K W){p:Addr}{ds:List D}{vs:List V}(h:W.H p=none)(r:DRs K W ds vs):DR K (W.lay p (.lst vs)) (.lst ds) (.ref p):=
 .lst qG (MN ok h) (r.step ok (qJ h))
theorem uG(ok:Ok K W){p:Addr}{ds:List D}{vs:List V}(h:W.H p=none)(r:DRs K W ds vs):DR K (W.lay p (.tup vs)) (.tup ds) (.ref p):=
 .tup qG (r.step ok (qJ h))
def Wd.new(W:Wd)(p:Addr)(o:HO)(x:Z8):Wd:={W with H:=upd W.H p o,ρ:=W.ρ++[p],L:=W.L++[some x]}
theorem Ax{J:Type}{l:List J}{x y:J}{k:Nat}(h:(l++[x])[k]?=some y):l[k]?=some y\/(k=l.length/\y=x):=by
 by_cases hk:k<l.length
 ·rw[VL hk] at h;exact .inl h
 ·rw[VV (by omega)] at h;have:k - l.length=0:=by
   cases e:k - l.length with
   |zero=>rfl
   |succ n=>rw[e] at h;simp at h
  rw[this] at h;simp at h;exact .inr ⟨by omega,h.symm⟩
theorem NA(ok:Ok K W){p a:Addr}{o:HO}{x:Z8}(h:RL (W.new p o x) a):RL W a\/a=p:=by
 obtain⟨k,u,h1,h2⟩:=h;rcases Ax h1 with z|⟨e,_⟩
 ·rcases Ax h2 with y|⟨e,y⟩
  ·exact .inl ⟨k,u,z,y⟩
  ·have:=(Vw.mp z).1;rw[e,ok.len] at this;omega
 ·rcases Ax h2 with y|⟨_,y⟩
  ·have:=(Vw.mp y).1;rw[e,←ok.len] at this;omega
  ·exact .inr y
theorem ud(ok:Ok K W){p:Addr}{o:HO}{x:Z8}(h:W.H p=none):Step W (W.new p o x) where
 ρ k a e:=by
  show(W.ρ++[p])[k]?=_;rw[VL (Vw.mp e).1];exact e
 live a z:=by
  rcases NA ok z with z|rfl
  ·exact .inl z
  ·exact .inr h
 keep a u e _:=by show upd W.H p o a=_;rw[pW (rF e h)];exact e
 hid:=rfl
 still a n:=by
  show upd W.H p o a≠none;by_cases e:a=p
  ·subst e;rw[qG];simp
  ·rw[pW e];exact n
theorem yl(ok:Ok K W){p:Addr}{o:HO}{x:Z8}(h:W.H p=none)(r:OR K W p x o):Ok K (W.new p o x) where
 len:=by show(W.ρ++[p]).length=(W.L++[some x]).length;simp[ok.len]
 nd:=by
  show(W.ρ++[p]).Nodup;rw[List.nodup_append];refine⟨ok.nd,by simp,fun a ha b hb e=>?_⟩;simp at hb;subst hb e;exact ok.rs _ ha h
 rs a m:=by
  rcases VQ.mp m with m|m
  ·exact(ud ok h).still a (ok.rs a m)
  ·simp at m;subst m;show upd W.H a o a≠none;rw[qG];simp
 at_ k u e:=by
  rcases Ax e with e|⟨e,y⟩
  ·obtain⟨a,ho,h1,h2,h3⟩:=ok.at_ k u e;refine⟨a,ho,(ud ok h).ρ k a h1,?_,h3.step ok (ud ok h)⟩;show upd W.H p o a=_;rw[pW (rF h2 h)];exact h2
  ·cases y;rename_i hk;refine⟨p,o,?_,qG,r.step ok (ud ok h)⟩;show(W.ρ++[p])[k]?=_;rw[hk,←ok.len];simp
 hd0 a z:=by
  refine⟨(ud ok h).still a (ok.hd a z).1,fun q=>?_⟩;have q:a∈W.ρ++[p]:=q;rcases VQ.mp q with q|q
  ·exact(ok.hd0 a z).2 q
  ·simp at q;subst q;exact(ok.hd a z).1 h
theorem yf(ok:Ok K W){p:Addr}{o:HO}{x:Z8}:DR K (W.new p o x) (.ref W.L.length) (.ref p):=by
 refine .ref ?_;show(W.ρ++[p])[W.L.length]?=_;rw[←ok.len];simp
def Wd.put(W:Wd)(k:Nat)(a:Addr)(o:HO)(x:Z8):Wd:={W with H:=upd W.H a o,L:=W.L.set k (some x)}
theorem R5{k:Nat}{a b:Addr}{o:HO}{x y:Z8}(hk:W.L[k]?=some (some y)):RL (W.put k a o x) b↔RL W b:=by
 have hlt:=(Vw.mp hk).1;constructor
 ·rintro⟨j,u,h1,h2⟩;have h1:(W.L.set k (some x))[j]?=some (some u):=h1;by_cases e:j=k
  ·subst e;exact⟨j,y,hk,h2⟩
  ·rw[VT (Ne.symm e)] at h1;exact⟨j,u,h1,h2⟩
 ·rintro⟨j,u,h1,h2⟩;by_cases e:j=k
  ·subst e;exact⟨j,x,by show(W.L.set j (some x))[j]?=_;simp[hlt],h2⟩
  ·exact⟨j,u,by show(W.L.set k (some x))[j]?=_;rw[VT (Ne.symm e)];exact h1,h2⟩
theorem vN{k:Nat}{a:Addr}{o:HO}{x y:Z8}(hk:W.L[k]?=some (some y))(ha:W.ρ[k]?=some a):Step W (W.put k a o x) where
 ρ _ _ h:=h
 live b z:=.inl ((R5 hk).mp z)
 keep b u e n:=by
  have hne:b≠a:=fun z=>n (by rw[z];exact⟨k,y,hk,ha⟩);show upd W.H a o b=_;rw[pW hne];exact e
 hid:=rfl
 still b n:=by
  show upd W.H a o b≠none;by_cases e:b=a
  ·subst e;rw[qG];simp
  ·rw[pW e];exact n
theorem zC(ok:Ok K W){k:Nat}{a:Addr}{o:HO}{x y:Z8}(hk:W.L[k]?=some (some y))(ha:W.ρ[k]?=some a)(r:OR K W a x o):Ok K (W.put k a o x) where
 len:=by show W.ρ.length=(W.L.set k (some x)).length;simp[ok.len]
 nd:=ok.nd
 rs b m:=(vN hk ha).still b (ok.rs b m)
 at_ j u e:=by
  have e:(W.L.set k (some x))[j]?=some (some u):=e;by_cases z:j=k
  ·subst z;have hlt:=(Vw.mp hk).1;simp[hlt] at e;subst e;exact⟨a,o,ha,qG,r.step ok (vN hk ha)⟩
  ·rw[VT (Ne.symm z)] at e;obtain⟨b,ho,h1,h2,h3⟩:=ok.at_ j u e;refine(⟨b,ho,h1,?_,h3.step ok (vN hk ha)⟩);have hne:b≠a:=fun q=>z (IL ok.nd h1 (by rw[q];exact ha));show upd W.H a o b=_;rw[pW hne];exact h2
 hd0 b z:=⟨(vN hk ha).still b (ok.hd b z).1,(ok.hd0 b z).2⟩
def Wd.frz(W:Wd)(k:Nat):Wd:={W with L:=W.L.set k none}
theorem Ix{k:Nat}{b:Addr}(h:RL (W.frz k) b):RL W b/\∀a,W.ρ[k]?=some a->W.ρ.Nodup->b≠a:=by
 obtain⟨j,u,h1,h2⟩:=h;have h1:(W.L.set k none)[j]?=some (some u):=h1;by_cases e:j=k
 ·subst e;by_cases hl:j<W.L.length
  ·simp[hl] at h1
  ·rw[List.getElem?_eq_none_iff.mpr (by simpa using hl)] at h1;cases h1
 ·rw[VT (Ne.symm e)] at h1;exact⟨⟨j,u,h1,h2⟩,fun a ha nd z=>e (IL nd (show W.ρ[j]?=some b from h2) (z▸ha))⟩
theorem DY{k:Nat}:Step W (W.frz k) where
 ρ _ _ h:=h
 live b z:=.inl (Ix z).1
 keep b u e _:=e
 hid:=rfl
 still b n:=n
theorem OJ(ok:Ok K W){k:Nat}:Ok K (W.frz k) where
 len:=by show W.ρ.length=(W.L.set k none).length;simp[ok.len]
 nd:=ok.nd
 rs:=ok.rs
 at_ j u e:=by
  have e:(W.L.set k none)[j]?=some (some u):=e;by_cases z:j=k
  ·subst z;by_cases hl:j<W.L.length
   ·simp[hl] at e
   ·rw[List.getElem?_eq_none_iff.mpr (by simpa using hl)] at e;cases e
  ·rw[VT (Ne.symm z)] at e;obtain⟨b,ho,h1,h2,h3⟩:=ok.at_ j u e;exact(⟨b,ho,h1,h2,h3.step ok DY⟩)
 hd0 b z:=⟨(ok.hd b z).1,(ok.hd0 b z).2⟩
theorem Rk(ok:Ok K W){k:Nat}{ds:List D}(hk:W.L[k]?=some (some (.lst ds))){v:V}(h:DR K W (.ref k) v):DR K (W.frz k) (.lst ds) v:=by
 cases h with
 |ref ha=>
  obtain⟨a',ho,h1,h2,vs,rfl,r⟩:=ok.at_ k _ hk;rw[ha] at h1;cases h1;refine(.lst h2 (fun z=>?_) (r.step ok DY));rcases z with z|z
  ·exact(Ix z).2 _ ha ok.nd rfl
  ·exact(ok.hd _ z).2 ⟨k,_,hk,ha⟩
def Wd.hide(W:Wd)(p:Addr)(o:HO):Wd:={W with H:=upd W.H p o,hid:=fun a=>a=p\/W.hid a}
end
abbrev EV:=G->M->Fr
abbrev BV:=G->M->Option (Bool×M)
abbrev LV:=G->M->Option (List D×M)
inductive Out where
 |nx|bk|ct|rt (d:D)
abbrev SV:=G->M->Option (Out×G×M)
section
variable (K:Frag)
def tD(ev:EV):TE:=fun B H Q=>∃(W:Wd) (O:G) (d:D) (Z5:M),W.H=H/\Ok K W/\EnvR K W O B/\ev O W.L=some (d,Z5)/\∀v W',W'.L=Z5->Ok K W'->Step W W'->DR K W' d v->Q v W'.H
def tDB(ev:BV):TT:=fun B H Q=>∃(W:Wd) (O:G) (b:Bool) (Z5:M),W.H=H/\Ok K W/\EnvR K W O B/\ev O W.L=some (b,Z5)/\∀W',W'.L=Z5->Ok K W'->Step W W'->Q b W'.H
def tDL(ev:LV):TA:=fun B H Q=>∃(W:Wd) (O:G) (ds:List D) (Z5:M),W.H=H/\Ok K W/\EnvR K W O B/\ev O W.L=some (ds,Z5)/\∀vs W',W'.L=Z5->Ok K W'->Step W W'->DRs K W' ds vs->Q vs W'.H
def fin(D:Ends)(W':Wd)(ZZ:St):Out->Prop
 | .nx=>D.nx ZZ W'.H
 | .bk=>D.bk ZZ W'.H
 | .ct=>D.ct ZZ W'.H
 | .rt d=>∀v,DR K W' d v->D.rt v W'.H
def tDS(es:SV):TS:=fun D B H=>∃(W:Wd) (O:G) (out:Out) (ZY:G) (Z5:M),W.H=H/\Ok K W/\EnvR K W O B/\es O W.L=some (out,ZY,Z5)/\∀W' ZZ,W'.L=Z5->Ok K W'->Step W W'->EnvR K W' ZY ZZ->fin K D W' ZZ out
end
section
variable {X:Cx} {e:Expr}
theorem qb{t t':TE}(h:PE X e t)(hi:∀B H Q,t' B H Q->t B H Q):PE X e t':=fun pins s B H Q I hw=>h pins s B H Q I (hi _ _ _ hw)
theorem vo{t t':TT}(h:PT X e t)(hi:∀B H Q,t' B H Q->t B H Q):PT X e t':=fun pins s B H Q I hw=>h pins s B H Q I (hi _ _ _ hw)
theorem EF{t t':TT}(h:PW X e t)(hi:∀B H Q,t' B H Q->t B H Q):PW X e t':=fun wh pins s B H Q I hw=>h wh pins s B H Q I (hi _ _ _ hw)
theorem Aq{es:List Expr}{t t':TA}(h:PA X es t)(hi:∀B H Q,t' B H Q->t B H Q):PA X es t':=fun pos pins s B H Q I hw=>h pos pins s B H Q I (hi _ _ _ hw)
theorem rH{st:Stmt}{t t':TS}(h:PS X st t)(hi:∀D B H,t' D B H->t D B H):PS X st t':=fun pins s B H D I hw=>h pins s B H D I (hi _ _ _ hw)
theorem ya{st:List Stmt}{t t':TS}(h:PSs X st t)(hi:∀D B H,t' D B H->t D B H):PSs X st t':=fun pins s B H D I hw=>h pins s B H D I (hi _ _ _ hw)
end
def bnd{J β:Type}{x:Option J}{f:J->Option β}{b:β}(h:x.bind f=some b):∃a,x=some a/\f a=some b:=Option.bind_eq_some_iff.mp h
def el4{J:Type}{p:Wd->Prop}{q:Wd->G->Prop}{r s:Wd->G->J->M->Prop}{Z:Prop}{H:Hp}(h:∃(W:Wd) (O:G) (d:J) (Z5:M),W.H=H/\p W/\q W O/\r W O d Z5/\s W O d Z5)(k:∀W O d Z5,W.H=H->p W->q W O->r W O d Z5->s W O d Z5->Z):Z:=by
 obtain⟨W,O,d,Z5,rfl,a,b,c,e⟩:=h;exact(k W O d Z5 rfl a b c e)
def el5{J β:Type}{p:Wd->Prop}{q:Wd->G->Prop}{r s:Wd->G->J->β->M->Prop}{Z:Prop}{H:Hp}(h:∃(W:Wd) (O:G) (d:J) (b:β) (Z5:M),W.H=H/\p W/\q W O/\r W O d b Z5/\s W O d b Z5)(k:∀W O d b Z5,W.H=H->p W->q W O->r W O d b Z5->s W O d b Z5->Z):Z:=by
 obtain⟨W,O,d,x,Z5,rfl,a,b,c,e⟩:=h;exact(k W O d x Z5 rfl a b c e)
def pK{J β:Type}{x:Option J}{f:J->Option β}{b:β}{Z:Prop}(h:x.bind f=some b)(k:∀a,x=some a->f a=some b->Z):Z:=by
 obtain⟨a,h1,h2⟩:=bnd h;exact(k a h1 h2)
def qE(L:M):D->Option (List D)
 | .lst ds=>some ds
 | .scr ds=>some ds
 | .ref k=>match L[k]? with
  |some (some (.lst ds))=>some ds
  |_=>none
 |_=>none
def wq(L:M):D->Option (List D)
 | .lst ds=>some ds
 | .ref k=>match L[k]? with
  |some (some (.lst ds))=>some ds
  |_=>none
 |_=>none
def uB:D->Option (List D)
 | .tup ds=>some ds
 | .gt ds=>some ds
 |_=>none
section
variable {K:Frag} {W:Wd} {d:D} {ds:List D} {v:V}
theorem wJ(ok:Ok K W){k:Nat}(h:W.L[k]?=some (some (.lst ds)))(r:DR K W (.ref k) v):∃a vs,v=.ref a/\W.ρ[k]?=some a/\W.H a=some (.lst vs)/\DRs K W ds vs:=by
 cases r with
 |ref ha=>
  obtain⟨a',ho,h1,h2,vs,rfl,r⟩:=ok.at_ k _ h;rw[ha] at h1;cases h1;exact(⟨_,vs,rfl,ha,h2,r⟩)
theorem CY(ok:Ok K W)(h:wq W.L d=some ds)(r:DR K W d v):∃a vs,v=.ref a/\W.H a=some (.lst vs)/\DRs K W ds vs:=by
 cases d with
 |lst xs=>
  cases h;cases r with
  |lst r n h=>exact⟨_,_,rfl,r,h⟩
 |ref k=>
  simp only[wq] at h;split at h
  ·rename_i xs hk;cases h;obtain⟨a,vs,e,_,e2,e3⟩:=wJ ok hk r;exact(⟨a,vs,e,e2,e3⟩)
  ·cases h
 |_=>cases h
theorem vf(ok:Ok K W)(h:qE W.L d=some ds)(r:DR K W d v):∃a vs,v=.ref a/\SqL K W.H a vs/\DRs K W ds vs:=by
 cases d with
 |lst xs=>
  cases h;cases r with
  |lst r n h=>exact⟨_,_,rfl,SqL.of r,h⟩
 |scr xs=>
  cases h;cases r with
  |scr r h=>exact⟨_,_,rfl,r.seq,h⟩
 |ref k=>
  simp only[qE] at h;split at h
  ·rename_i xs hk;cases h;obtain⟨a,vs,e,_,e2,e3⟩:=wJ ok hk r;exact(⟨a,vs,e,SqL.of e2,e3⟩)
  ·cases h
 |_=>cases h
theorem u5(h:uB d=some ds)(r:DR K W d v):∃a vs,v=.ref a/\SqT K W.H a vs/\DRs K W ds vs:=by
 cases d with
 |tup xs=>
  cases h;cases r with
  |tup r h=>exact⟨_,_,rfl,SqT.of r,h⟩
 |gt xs=>
  cases h;cases r with
  |gt r h=>exact⟨_,_,rfl,r,h⟩
 |_=>cases h
theorem IN{vs:List V}{i:Int}(r:DRs K W ds vs)(h:atI ds i=some d):∃v,atI vs i=some v/\DR K W d v:=by
 unfold atI at h⊢;refine pK h fun j h1 h2=>?_;rw[r.length] at h1;obtain⟨v,e,q⟩:=r.get h2;exact⟨v,by rw[h1];exact e,q⟩
end
def be(i:Nat):EV:=fun O L=>match O[i]? with
 |some (some d)=>some (d,L)
 |_=>none
def vC(d:D):EV:=fun _ L=>some (d,L)
def v2(f:D->D->M->Fr)(ea eb:EV):EV:=fun O L=>(ea O L).bind fun p=>(eb O p.2).bind fun q=>f p.1 q.1 q.2
def v1(f:D->M->Fr)(ea:EV):EV:=fun O L=>(ea O L).bind fun p=>f p.1 p.2
def R2A(K:Frag)(r:R2)(f:D->D->M->Fr):Prop:=∀(W:Wd) (x y:V) (d e z:D) (Z5:M) (Q:VK),Ok K W->DR K W d x->DR K W e y->f d e W.L=some (z,Z5)->
 (∀v W',W'.L=Z5->Ok K W'->Step W W'->DR K W' z v->Q v W'.H)->r x y W.H Q
def R1A(K:Frag)(r:V->Hp->VK->Prop)(f:D->M->Fr):Prop:=∀(W:Wd) (x:V) (d z:D) (Z5:M) (Q:VK),Ok K W->DR K W d x->f d W.L=some (z,Z5)->
 (∀v W',W'.L=Z5->Ok K W'->Step W W'->DR K W' z v->Q v W'.H)->r x W.H Q
def vT(ev:EV):BV:=fun O L=>(ev O L).bind fun p=>match p.1 with
 | .bl b=>some (b,p.2)
 |_=>none
section
variable {X:Cx} {K:Frag} {a b:Expr} {ea eb:EV} {pos:Pos}
theorem pF(i:Nat){x:Str}(hN:X.N[i]?=some x:=by rfl)(hv:Vis X.env.scope x:=by first|exact Or.inl rfl|exact Or.inr (Or.inl rfl)|exact Or.inr (Or.inr rfl))(hd:(x==("__debug__":Str))=false:=by decide)
  (hcd:(x==("__classdict__":Str))=false:=by decide):PE X (.Name x pos) (tD K (be i)):=qb (Ij hN hv hd hcd) fun B H Q h=>by
 refine el4 h fun W O d Z5 eH ok en e q=>?_;subst eH;unfold be at e;split at e
 ·rename_i d' hd;cases e;obtain⟨v,hv,r⟩:=en.at_ i _ hd;exact(⟨v,hv,q v W rfl ok .refl r⟩)
 ·cases e
theorem yj{d:D}{v:V}(h:∀W,DR K W d v):∀B H Q,tD K (vC d) B H Q->tC v B H Q:=fun B H Q hh=>by
 obtain⟨W,O,d,Z5,rfl,ok,en,e,q⟩:=hh;cases e;exact(q v W rfl ok .refl (h W))
theorem pO{i j}:PE X (.Constant (.int i) j pos) (tD K (vC (.int i))):=qb O1 (yj fun _=>.int i)
theorem qI{b j}:PE X (.Constant (.bool b) j pos) (tD K (vC (.bl b))):=qb Uv (yj fun _=>.bl b)
theorem rT{j}:PE X (.Constant .none j pos) (tD K (vC .non)):=qb MJ (yj fun _=>.non)
theorem wT{x j}:PE X (.Constant (.str x) j pos) (tD K (vC (.str x))):=qb J7 (yj fun _=>.str x)
theorem tW{x:Str}{d:D}{v:V}{u:Value}(hm:X.mg x=some u)(r:RelV v u)(h:∀W,DR K W d v)(hg:Gl X x:=by rfl)(hd:(x==("__debug__":Str))=false:=by decide):PE X (.Name x pos) (tD K (vC d)):=qb (Tm hg hm r hd) (yj h)
theorem w9{r:R2}{f:D->D->M->Fr}(ra:R2A K r f):∀B H Q,tD K (v2 f ea eb) B H Q->tOp r (tD K ea) (tD K eb) B H Q:=fun B H Q h=>by
 refine el4 h fun W O d Z5 eH ok en e q=>?_;subst eH;refine pK e fun p1 e1 e=>?_;refine pK e fun p2 e2 e=>?_;refine⟨W,O,p1.1,p1.2,rfl,ok,en,e1,fun x W1 Z1 ok1 s1 r1=>⟨W1,O,p2.1,p2.2,rfl,ok1,en.step ok s1,by rw[Z1];exact e2,fun y W2 ZV ok2 s2 r2=>?_⟩⟩;exact ra W2 x y _ _ _ _ Q ok2 (r1.step ok1 s2) r2 (by rw[ZV];exact e) fun v W3 ZR ok3 s3 r3=>q v W3 ZR ok3 ((s1.trans s2).trans s3) r3
theorem vt{r:V->Hp->VK->Prop}{f:D->M->Fr}(ra:R1A K r f):∀B H Q,tD K (v1 f ea) B H Q->(fun B H Q=>tD K ea B H fun x H1=>r x H1 Q:TE) B H Q:=fun B H Q h=>by
 refine el4 h fun W O d Z5 eH ok en e q=>?_;subst eH;refine pK e fun p1 e1 e=>?_;refine⟨W,O,p1.1,p1.2,rfl,ok,en,e1,fun x W1 Z1 ok1 s1 r1=>?_⟩;exact ra W1 x _ _ _ Q ok1 r1 (by rw[Z1];exact e) fun v W3 ZR ok3 s3 r3=>q v W3 ZR ok3 (s1.trans s3) r3
theorem wC{op:Operator}{r:R2}{f:D->D->M->Fr}(ho:OpR X (binaryOp op) r)(ra:R2A K r f)(ha:PE X a (tD K ea))(hb:PE X b (tD K eb)):PE X (.BinOp a op b pos) (tD K (v2 f ea eb)):=qb (UY ho ha hb) (w9 ra)
theorem Ac{op:CmpOp}{r:R2}{f:D->D->M->Fr}(ho:OpR X (compareOp op) r)(ra:R2A K r f)(ha:PE X a (tD K ea))(hb:PE X b (tD K eb))(hm:behindInMarks op b=false):PE X (.Compare a [op] [b] pos) (tD K (v2 f ea eb)):=qb (MF ho ha hb hm) (w9 ra)
theorem Cm{t:TE}(h:∀B H Q,tD K ea B H Q->t B H Q):∀B H Q,tDB K (vT ea) B H Q->CV t B H Q:=fun B H Q hh=>by
 obtain⟨W,O,k,Z5,rfl,ok,en,e,q⟩:=hh;refine pK e fun p1 e1 e=>?_;refine(h B _ _ ⟨W,O,p1.1,p1.2,rfl,ok,en,e1,fun x W1 Z1 ok1 s1 r1=>?_⟩);split at e
 ·rename_i k' hk;cases e;rw[hk] at r1;cases r1;exact⟨_,rfl,q W1 Z1 ok1 s1⟩
 ·cases e
theorem wx{op:CmpOp}{r:R2}{f:D->D->M->Fr}(ho:OpR X (compareOp op) r)(ra:R2A K r f)(ha:PE X a (tD K ea))(hb:PE X b (tD K eb))(hm:behindInMarks op b=false):PT X (.Compare a [op] [b] pos) (tDB K (vT (v2 f ea eb))):=vo (RT ho ha hb hm) (Cm (w9 ra))
end
def fI0(g:Int->Int->D):D->D->M->Fr
 | .int i,.int j,L=>some (g i j,L)
 |_,_,_=>none
def fI(C:Int->Int->Prop) [∀i j,Decidable (C i j)](g:Int->Int->D):D->D->M->Fr
 | .int i,.int j,L=>if C i j then some (g i j,L) else none
 |_,_,_=>none
section
variable {K:Frag}
theorem vP{g:Int->Int->V}{h:Int->Int->D}(hh:∀W i j,DR K W (h i j) (g i j)):R2A K (rI0 g) (fI0 h):=by
 intro W x y d e z Z5 Q ok r1 r2 hf q;unfold fI0 at hf;split at hf
 ·cases hf;cases r1;cases r2;exact⟨_,_,rfl,rfl,q _ W rfl ok .refl (hh W _ _)⟩
 ·cases hf
theorem AG{C:Int->Int->Prop} [∀i j,Decidable (C i j)]{g:Int->Int->V}{h:Int->Int->D}(hh:∀W i j,DR K W (h i j) (g i j)):R2A K (rI C g) (fI C h):=by
 intro W x y d e z Z5 Q ok r1 r2 hf q;unfold fI at hf;split at hf
 ·split at hf
  ·rename_i hc;cases hf;cases r1;cases r2;exact⟨_,_,rfl,rfl,hc,q _ W rfl ok .refl (hh W _ _)⟩
  ·cases hf
 ·cases hf
end
noncomputable instance{i j:Int}:Decidable (CMul i j):=by unfold CMul;infer_instance
noncomputable instance{i j:Int}:Decidable (uZ i j):=by unfold uZ;infer_instance
def wz(_ j:Int):Prop:=0<j/\j<2^200
def t7(_ j:Int):Prop:=0<j
noncomputable instance{i j:Int}:Decidable (wz i j):=by unfold wz;infer_instance
noncomputable instance{i j:Int}:Decidable (t7 i j):=by unfold t7;infer_instance
section
variable {X:Cx} {K:Frag} {a b c:Expr} {ea eb:EV} {pos:Pos}
abbrev Da:=fI0 fun i j=>.int (i+j)
abbrev uR:=fI0 fun i j=>.int (i - j)
abbrev BB:=fI wz fun i j=>.int (i/j)
abbrev yn:=fI t7 fun i j=>.int (i%j)
abbrev xf:=fI uZ fun i j=>.int (i^j.toNat)
abbrev fLt:=fI0 fun i j=>.bl (decide (i<j))
abbrev fLe:=fI0 fun i j=>.bl (decide (i<=j))
abbrev fGt:=fI0 fun i j=>.bl (decide (j<i))
abbrev fGe:=fI0 fun i j=>.bl (decide (j<=i))
theorem wp(ha:PE X a (tD K ea))(hb:PE X b (tD K eb)):PE X (.BinOp a .Sub b pos) (tD K (v2 uR ea eb)):=wC Ml (vP fun _ _ _=>.int _) ha hb
theorem HU(ha:PE X a (tD K ea))(hb:PE X b (tD K eb)):PE X (.BinOp a .FloorDiv b pos) (tD K (v2 BB ea eb)):=wC Nk (AG (C:=wz) fun _ _ _=>.int _) ha hb
theorem z4(ha:PE X a (tD K ea))(hb:PE X b (tD K eb)):PE X (.BinOp a .Mod b pos) (tD K (v2 yn ea eb)):=wC Pn (AG (C:=t7) fun _ _ _=>.int _) ha hb
theorem A4(ha:PE X a (tD K ea))(hb:PE X b (tD K eb)):PE X (.BinOp a .Pow b pos) (tD K (v2 xf ea eb)):=wC U7 (AG fun _ _ _=>.int _) ha hb
theorem yV(ha:PE X a (tD K ea))(hb:PE X b (tD K eb)):PT X (.Compare a [.Lt] [b] pos) (tDB K (vT (v2 fLt ea eb))):=wx D8 (vP fun _ _ _=>.bl _) ha hb (uc _)
theorem Ae(ha:PE X a (tD K ea))(hb:PE X b (tD K eb)):PT X (.Compare a [.Gt] [b] pos) (tDB K (vT (v2 fGt ea eb))):=wx PL (vP fun _ _ _=>.bl _) ha hb (uc _)
def vw:D->M->Fr
 | .int i,L=>some (.int (-i),L)
 |_,_=>none
theorem Os(ha:PE X a (tD K ea)):PE X (.UnaryOp .USub a pos) (tD K (v1 vw ea)):=qb (PM Ul ha) (vt (by
 intro W x d z Z5 Q ok r1 hf q;unfold vw at hf;split at hf
 ·cases hf;cases r1;exact⟨_,rfl,q _ W rfl ok .refl (.int _)⟩
 ·cases hf))
def tm(t u:BV):BV:=fun O L=>(t O L).bind fun p=>if p.1=true then u O p.2 else some (false,p.2)
def bOr(t u:BV):BV:=fun O L=>(t O L).bind fun p=>if p.1=true then some (true,p.2) else u O p.2
def sR(t:BV):BV:=fun O L=>(t O L).bind fun p=>some (!p.1,p.2)
variable {ba bb:BV} {pU:List Expr}
theorem Qy:∀B H Q,tDB K (tm ba bb) B H Q->Kn (tDB K ba) (tDB K bb) B H Q:=fun B H Q h=>by
 refine el4 h fun W O k Z5 eH ok en e q=>?_;subst eH;refine pK e fun p1 e1 e=>?_;refine⟨W,O,p1.1,p1.2,rfl,ok,en,e1,fun W1 Z1 ok1 s1=>?_⟩;split at e
 ·rename_i hp;rw[if_pos hp];exact⟨W1,O,k,Z5,rfl,ok1,en.step ok s1,by rw[Z1];exact e,fun W2 ZV ok2 s2=>q W2 ZV ok2 (s1.trans s2)⟩
 ·rename_i hp;cases e;rw[if_neg hp];exact q W1 Z1 ok1 s1
theorem TJ:∀B H Q,tDB K (bOr ba bb) B H Q->tOr (tDB K ba) (tDB K bb) B H Q:=fun B H Q h=>by
 refine el4 h fun W O k Z5 eH ok en e q=>?_;subst eH;refine pK e fun p1 e1 e=>?_;refine⟨W,O,p1.1,p1.2,rfl,ok,en,e1,fun W1 Z1 ok1 s1=>?_⟩;split at e
 ·rename_i hp;cases e;rw[if_pos hp];exact q W1 Z1 ok1 s1
 ·rename_i hp;rw[if_neg hp];exact⟨W1,O,k,Z5,rfl,ok1,en.step ok s1,by rw[Z1];exact e,fun W2 ZV ok2 s2=>q W2 ZV ok2 (s1.trans s2)⟩
theorem zt(ha:PT X a (tDB K ba)):PW X (.BoolOp .And [a] pos) (tDB K ba):=R4 ha
theorem xn(ha:PT X a (tDB K ba)):PW X (.BoolOp .Or [a] pos) (tDB K ba):=R9 ha
theorem Ag(ha:PT X a (tDB K ba))(hb:PW X (.BoolOp .And (b::pU) pos) (tDB K bb)):PW X (.BoolOp .And (a::b::pU) pos) (tDB K (tm ba bb)):=EF (Mb ha hb) Qy
theorem xH(ha:PT X a (tDB K ba))(hb:PW X (.BoolOp .Or (b::pU) pos) (tDB K bb)):PW X (.BoolOp .Or (a::b::pU) pos) (tDB K (bOr ba bb)):=EF (Oy ha hb) TJ
theorem wH(ha:PT X a (tDB K ba)):PT X (.UnaryOp .Not a pos) (tDB K (sR ba)):=vo (EJ ha) fun B H Q h=>by
 refine el4 h fun W O k Z5 eH ok en e q=>?_;subst eH;refine pK e fun p1 e1 e=>?_;cases e;exact⟨W,O,p1.1,p1.2,rfl,ok,en,e1,fun W1 Z1 ok1 s1=>q W1 Z1 ok1 s1⟩
def vIf(t:BV)(ea eb:EV):EV:=fun O L=>(t O L).bind fun p=>if p.1=true then ea O p.2 else eb O p.2
theorem BJ(hc:PT X c (tDB K ba))(ha:PE X a (tD K ea))(hb:PE X b (tD K eb)):PE X (.IfExp c a b pos) (tD K (vIf ba ea eb)):=qb (Tv hc ha hb) fun B H Q h=>by
 refine el4 h fun W O d Z5 eH ok en e q=>?_;subst eH;refine pK e fun p1 e1 e=>?_;refine⟨W,O,p1.1,p1.2,rfl,ok,en,e1,fun W1 Z1 ok1 s1=>?_⟩;split at e
 ·rename_i hp;rw[if_pos hp];exact⟨W1,O,d,Z5,rfl,ok1,en.step ok s1,by rw[Z1];exact e,fun v W2 ZV ok2 s2 r2=>q v W2 ZV ok2 (s1.trans s2) r2⟩
 ·rename_i hp;rw[if_neg hp];exact⟨W1,O,d,Z5,rfl,ok1,en.step ok s1,by rw[Z1];exact e,fun v W2 ZV ok2 s2 r2=>q v W2 ZV ok2 (s1.trans s2) r2⟩
def uh(ea eb:EV):EV:=fun O L=>(ea O L).bind fun p=>match p.1 with
 | .bl true=>eb O p.2
 | .bl false=>some (.bl false,p.2)
 |_=>none
def vOr(ea eb:EV):EV:=fun O L=>(ea O L).bind fun p=>match p.1 with
 | .bl true=>some (.bl true,p.2)
 | .bl false=>eb O p.2
 |_=>none
def Gj:D->M->Fr
 | .bl b,L=>some (.bl (!b),L)
 |_,_=>none
theorem yk{op}(h:PE X a (tD K ea)):PE X (.BoolOp op [a] pos) (tD K ea):=Pb h
theorem vS(ha:PE X a (tD K ea))(hb:PE X (.BoolOp .And (b::pU) pos) (tD K eb)):PE X (.BoolOp .And (a::b::pU) pos) (tD K (uh ea eb)):=qb (T0 ha hb) fun B H Q h=>by
 refine el4 h fun W O d Z5 eH ok en e q=>?_;subst eH;refine pK e fun p1 e1 e=>?_;refine⟨W,O,p1.1,p1.2,rfl,ok,en,e1,fun x W1 Z1 ok1 s1 r1=>?_⟩;split at e
 ·rename_i hp;rw[hp] at r1;cases r1;exact⟨true,rfl,C4 ⟨W1,O,d,Z5,rfl,ok1,en.step ok s1,by rw[Z1];exact e,fun v W2 ZV ok2 s2 r2=>q v W2 ZV ok2 (s1.trans s2) r2⟩⟩
 ·rename_i hp;rw[hp] at r1;cases r1;cases e;exact⟨false,rfl,DT (q _ W1 Z1 ok1 s1 (.bl _))⟩
 ·cases e
theorem Qg(ha:PE X a (tD K ea))(hb:PE X (.BoolOp .Or (b::pU) pos) (tD K eb)):PE X (.BoolOp .Or (a::b::pU) pos) (tD K (vOr ea eb)):=qb (Q0 ha hb) fun B H Q h=>by
 refine el4 h fun W O d Z5 eH ok en e q=>?_;subst eH;refine pK e fun p1 e1 e=>?_;refine⟨W,O,p1.1,p1.2,rfl,ok,en,e1,fun x W1 Z1 ok1 s1 r1=>?_⟩;split at e
 ·rename_i hp;rw[hp] at r1;cases r1;cases e;exact⟨true,rfl,C4 (q _ W1 Z1 ok1 s1 (.bl _))⟩
 ·rename_i hp;rw[hp] at r1;cases r1;exact⟨false,rfl,DT ⟨W1,O,d,Z5,rfl,ok1,en.step ok s1,by rw[Z1];exact e,fun v W2 ZV ok2 s2 r2=>q v W2 ZV ok2 (s1.trans s2) r2⟩⟩
 ·cases e
end
def qd{J β:Type}(f:J->Option β):List J->Option (List β)
 | []=>some []
 |x::r=>(f x).bind fun y=>(qd f r).bind fun ys=>some (y::ys)
section
variable {X:Cx} {K:Frag} {a b e:Expr} {ea eb:EV} {pos p:Pos} {es:List Expr} {el:LV}
def pI:LV:=fun _ L=>some ([],L)
def pG(ea:EV)(el:LV):LV:=fun O L=>(ea O L).bind fun p=>(el O p.2).bind fun q=>some (p.1::q.1,q.2)
theorem pL:PA X [] (tDL K pI):=Aq rG fun B H Q h=>by
 refine el4 h fun W O ds Z5 eH ok en e q=>?_;subst eH;cases e;exact q [] W rfl ok .refl .nil
theorem OG:∀B H Q,tDL K (pG ea el) B H Q->sm (tD K ea) (tDL K el) B H Q:=fun B H Q h=>by
 refine el4 h fun W O ds Z5 eH ok en e q=>?_;subst eH;refine pK e fun p1 e1 e=>?_;refine pK e fun p2 e2 e=>?_;cases e;exact⟨W,O,p1.1,p1.2,rfl,ok,en,e1,fun x W1 Z1 ok1 s1 r1=>⟨W1,O,p2.1,p2.2,rfl,ok1,en.step ok s1,by rw[Z1];exact e2,fun vs W2 ZV ok2 s2 r2=>q _ W2 ZV ok2 (s1.trans s2) (.cons (r1.step ok1 s2) r2)⟩⟩
theorem pH(ha:PE X e (tD K ea))(hr:PA X es (tDL K el))(hs:starEach (e::es) X.env=(false,eval e X.env)::starEach es X.env:=by rfl):PA X (e::es) (tDL K (pG ea el)):=Aq (qM ha hr hs) OG
def RLA(K:Frag)(r:List V->Hp->VK->Prop)(f:C0):Prop:=∀(W:Wd) (xs:List V) (ds:List D) (z:D) (Z5:M) (Q:VK),Ok K W->DRs K W ds xs->f ds W.L=some (z,Z5)->
 (∀v W',W'.L=Z5->Ok K W'->Step W W'->DR K W' z v->Q v W'.H)->r xs W.H Q
def vL(f:C0)(el:LV):EV:=fun O L=>(el O L).bind fun p=>f p.1 p.2
theorem A3{r:List V->Hp->VK->Prop}{f:C0}(ra:RLA K r f):∀B H Q,tD K (vL f el) B H Q->(fun B H Q=>tDL K el B H fun vs H1=>r vs H1 Q:TE) B H Q:=fun B H Q h=>by
 refine el4 h fun W O d Z5 eH ok en e q=>?_;subst eH;refine pK e fun p1 e1 e=>?_;exact⟨W,O,p1.1,p1.2,rfl,ok,en,e1,fun vs W1 Z1 ok1 s1 r1=>ra W1 vs _ _ _ Q ok1 r1 (by rw[Z1];exact e) fun v W3 ZR ok3 s3 r3=>q v W3 ZR ok3 (s1.trans s3) r3⟩
def qo(ds:List D)(L:M):Fr:=if ds.length<=1000 then some (.lst ds,L) else none
def p9(ds:List D)(L:M):Fr:=if ds.length<=1000 then some (.tup ds,L) else none
def tw(ds:List D)(L:M):Fr:=if ds.length<=1000 then some (.ref L.length,L++[some (.lst ds)]) else none
theorem O7:RLA K (fun xs H1 Q=>xs.length<=sizeLine/\∀p,H1 p=none->Q (.ref p) (upd H1 p (.lst xs))) qo:=by
 intro W xs ds z Z5 Q ok r hf q;unfold qo at hf;split at hf
 ·rename_i hl;cases hf;exact⟨tP (by rw[←r.length];omega),fun p hp=>q _ (W.lay p (.lst xs)) rfl (rL ok hp) (qJ hp) (ym ok hp r)⟩
 ·cases hf
theorem OS:RLA K (fun xs H1 Q=>xs.length<=sizeLine/\∀p,H1 p=none->Q (.ref p) (upd H1 p (.tup xs))) p9:=by
 intro W xs ds z Z5 Q ok r hf q;unfold p9 at hf;split at hf
 ·rename_i hl;cases hf;exact⟨tP (by rw[←r.length];omega),fun p hp=>q _ (W.lay p (.tup xs)) rfl (rL ok hp) (qJ hp) (uG ok hp r)⟩
 ·cases hf
theorem Ti:RLA K (fun xs H1 Q=>xs.length<=sizeLine/\∀p,H1 p=none->Q (.ref p) (upd H1 p (.lst xs))) tw:=by
 intro W xs ds z Z5 Q ok r hf q;unfold tw at hf;split at hf
 ·rename_i hl;cases hf;exact⟨tP (by rw[←r.length];omega),fun p hp=>q _ (W.new p (.lst xs) (.lst ds)) rfl (yl ok hp ⟨xs,rfl,r⟩) (ud ok hp) (yf ok)⟩
 ·cases hf
theorem q0(h:PA X es (tDL K el)):PE X (.List es pos) (tD K (vL qo el)):=qb (Ex h) (A3 O7)
theorem DH(h:PA X es (tDL K el)):PE X (.List es pos) (tD K (vL tw el)):=qb (Ex h) (A3 Ti)
theorem ql{k}(h:PA X es (tDL K el)):PE X (.Tuple es k pos) (tD K (vL p9 el)):=qb (MW h) (A3 OS)
def fIx(x y:D)(L:M):Fr:=match y with
 | .int i=>match qE L x with
  |some ds=>(atI ds i).bind fun d=>some (d,L)
  |none=>match uB x with
   |some ds=>(atI ds i).bind fun d=>some (d,L)
   |none=>none
 |_=>none
theorem O4:R2A K (rIx K) fIx:=by
 intro W x y d e z Z5 Q ok r1 r2 hf q;unfold fIx at hf;split at hf
 ·cases r2;split at hf
  ·rename_i ds hd;refine pK hf fun u hu hf=>?_;cases hf;obtain⟨a,vs,rfl,hs,hv⟩:=vf ok hd r1;obtain⟨v,hv1,hv2⟩:=IN hv hu;exact(.inl ⟨a,vs,_,v,rfl,rfl,hs,hv1,q v W rfl ok .refl hv2⟩)
  ·split at hf
   ·rename_i ds hd;refine pK hf fun u hu hf=>?_;cases hf;obtain⟨a,vs,rfl,hs,hv⟩:=u5 hd r1;obtain⟨v,hv1,hv2⟩:=IN hv hu;exact(.inr (.inl ⟨a,vs,_,v,rfl,rfl,hs,hv1,q v W rfl ok .refl hv2⟩))
   ·cases hf
 ·cases hf
theorem rf(ha:PE X a (tD K ea))(hb:PE X b (tD K eb))(hs:JB b:=by exact fun _ _=>rfl)(hK:X.K=K:=by rfl):PE X (.Subscript a b pos) (tD K (v2 fIx ea eb)):=by
 subst hK;exact qb (Ot Ru ha hb hs) (w9 O4)
abbrev OV:=G->M->Option (Option Int×M)
def sB:OV:=fun _ L=>some (none,L)
def sV(ea:EV):OV:=fun O L=>(ea O L).bind fun p=>match p.1 with
 | .int i=>some (some i,p.2)
 |_=>none
def tDO(K:Frag)(ev:OV):TO:=fun B H Q=>∃(W:Wd) (O:G) (b:Option Int) (Z5:M),W.H=H/\Ok K W/\EnvR K W O B/\ev O W.L=some (b,Z5)/\∀W',W'.L=Z5->Ok K W'->Step W W'->Q b W'.H
theorem Ie{o:Option Expr}{t t':TO}(h:PO X o t)(hi:∀B H Q,t' B H Q->t B H Q):PO X o t':=fun pins s B H Q I hw=>h pins s B H Q I (hi _ _ _ hw)
theorem uN:PO X none (tDO K sB):=Ie OH fun B H Q h=>by
 refine el4 h fun W O b Z5 eH ok en e q=>?_;subst eH;cases e;exact q W rfl ok .refl
theorem uJ(h:PE X e (tD K ea)):PO X (some e) (tDO K (sV ea)):=Ie (Ur h) fun B H Q h=>by
 refine el4 h fun W O b Z5 eH ok en e q=>?_;subst eH;refine pK e fun p1 e1 e=>?_;refine⟨W,O,p1.1,p1.2,rfl,ok,en,e1,fun x W1 Z1 ok1 s1 r1=>?_⟩;split at e
 ·rename_i i hi;cases e;rw[hi] at r1;cases r1;exact⟨_,rfl,q W1 Z1 ok1 s1⟩
 ·cases e
def rV(xs:List D)(lo hi:Option Int):List D:=(xs.drop (HT.sIx xs.length 0 lo)).take (HT.sIx xs.length xs.length hi - HT.sIx xs.length 0 lo)
theorem I0{W:Wd}{ds:List D}{vs:List V}(r:DRs K W ds vs)(lo hi:Option Int):DRs K W (rV ds lo hi) (uq vs lo hi):=by
 unfold rV uq;rw[r.length];exact(r.drop _).take _
def fSl(x:D)(lo hi:Option Int)(L:M):Fr:=match qE L x with
 |some ds=>some (.lst (rV ds lo hi),L)
 |none=>match uB x with
  |some ds=>if HT.sIx ds.length 0 lo=0/\HT.sIx ds.length ds.length hi=ds.length then none else some (.tup (rV ds lo hi),L)
  |none=>none
def vSl(ea:EV)(lo hi:OV):EV:=fun O L=>(ea O L).bind fun p=>(lo O p.2).bind fun l=>(hi O l.2).bind fun h=>fSl p.1 l.1 h.1 h.2
theorem uK{lo hi:Option Expr}{ol oh:OV}{p2:Pos}(he:PE X e (tD K ea))(hl:PO X lo (tDO K ol))(hu:PO X hi (tDO K oh))(hK:X.K=K:=by rfl):PE X (.Subscript e (.Slice lo hi none p2) pos) (tD K (vSl ea ol oh)):=by
 subst hK;refine qb (Nd (sl_list.or SZ) he hl hu) fun B H Q h=>?_;refine el4 h fun W O d Z5 eH ok en e q=>?_;subst eH;refine pK e fun p1 e1 e=>?_;refine pK e fun p2 e2 e=>?_;refine pK e fun p3 e3 e=>?_;refine⟨W,O,p1.1,p1.2,rfl,ok,en,e1,fun x W1 Z1 ok1 s1 r1=>⟨W1,O,p2.1,p2.2,rfl,ok1,en.step ok s1,by rw[Z1];exact e2,fun W2 ZV ok2 s2=>⟨W2,O,p3.1,p3.2,rfl,ok2,(en.step ok s1).step ok1 s2,by rw[ZV];exact e3,fun W3 ZR ok3 s3=>?_⟩⟩⟩;have r3:=(r1.step ok1 s2).step ok2 s3;have st:=(s1.trans s2).trans s3;unfold fSl at e;rw[←ZR] at e;split at e
 ·rename_i ds hd;cases e;obtain⟨a,vs,rfl,hs,hv⟩:=vf ok3 hd r3;exact(.inl ⟨a,vs,rfl,hs,fun p hp=>q _ (W3.lay p (.lst (uq vs p2.1 p3.1))) rfl (rL ok3 hp) (st.trans (qJ hp)) (ym ok3 hp (I0 hv _ _))⟩)
 ·split at e
  ·rename_i ds hd;split at e
   ·cases e
   ·rename_i hn;cases e;obtain⟨a,vs,rfl,hs,hv⟩:=u5 hd r3;rw[hv.length] at hn;exact(.inr ⟨a,vs,rfl,hs,hn,fun p hp=>q _ (W3.lay p (.tup (uq vs p2.1 p3.1))) rfl (rL ok3 hp) (st.trans (qJ hp)) (uG ok3 hp (I0 hv _ _))⟩)
  ·cases e
def yu(x y:D)(L:M):Fr:=(wq L x).bind fun xs=>(wq L y).bind fun ys=>if xs.length+ys.length<=1000000 then some (.lst (xs++ys),L) else none
def KJ(x y:D)(L:M):Fr:=(wq L x).bind fun xs=>match y with
 | .int k=>if -1000000<=k/\k<=1000000/\xs.length*k.toNat<=1000000 then some (.lst (List.replicate k.toNat xs).flatten,L) else none
 |_=>none
def qy(x:D)(L:M):Fr:=match qE L x with
 |some ds=>some (.int ds.length,L)
 |none=>match uB x with
  |some ds=>some (.int ds.length,L)
  |none=>none
theorem vB(ml:X.mg "len"=none) (ha:PE X a (tD K ea)) (hg:Gl X "len":=by rfl) (hs:starEach [a] X.env=[(false,eval a X.env)]:=by rfl) (hK:X.K=K:=by rfl):PE X (.Call (.Name "len" p) [a] [] pos) (tD K (v1 qy ea)):=qb (U0 K ml ha hg hs hK) (vt (by
 intro W x d z Z5 Q ok r1 hf q;unfold qy at hf;split at hf
 ·rename_i ds hd;cases hf;obtain⟨a,vs,rfl,hs,hv⟩:=vf ok hd r1;exact⟨a,vs,rfl,.inl hs,by rw[←hv.length];exact q _ W rfl ok .refl (.int _)⟩
 ·split at hf
  ·rename_i ds hd;cases hf;obtain⟨a,vs,rfl,hs,hv⟩:=u5 hd r1;exact⟨a,vs,rfl,.inr hs,by rw[←hv.length];exact q _ W rfl ok .refl (.int _)⟩
  ·cases hf))
abbrev yy:=fI0 fun i j=>.int (if j<i then j else i)
abbrev D3:=fI0 fun i j=>.int (if j>i then j else i)
theorem KQ{t:TE}{r:R2}{f:D->D->M->Fr}(ra:R2A K r f)(ht:∀B H Q,tOp r (tD K ea) (tD K eb) B H Q->t B H Q):∀B H Q,tD K (v2 f ea eb) B H Q->t B H Q:=fun B H Q h=>ht B H Q (w9 ra B H Q h)
theorem FF{x y:V}{g:Int->Int->V}{Q:VK}{H:Hp}:(∃i j,[x,y]=[V.int i,V.int j]/\Q (g i j) H)=(∃i j,x=V.int i/\y=V.int j/\Q (g i j) H):=propext ⟨fun⟨i,j,e,q⟩=>by cases e;exact⟨i,j,rfl,rfl,q⟩,fun⟨i,j,e1,e2,q⟩=>by cases e1;cases e2;exact⟨i,j,rfl,q⟩⟩
theorem Mq(ml:X.mg "min"=none) (ha:PE X a (tD K ea)) (hb:PE X b (tD K eb)) (hc:X.calm=true:=by rfl) (hg:Gl X "min":=by rfl) (hs:starEach [a,b] X.env=[(false,eval a X.env),(false,eval b X.env)]:=by rfl) (hs2:starEach [b] X.env=[(false,eval b X.env)]:=by rfl):
  PE X (.Call (.Name "min" p) [a,b] [] pos) (tD K (v2 yy ea eb)):=qb (Rc ml ha hb hc hg hs hs2) (KQ (vP fun _ _ _=>.int _) fun B H Q h=>by simp only[FF (g:=fun i j=>V.int (if j<i then j else i))];exact h)
theorem Tb(ml:X.mg "max"=none) (ha:PE X a (tD K ea)) (hb:PE X b (tD K eb)) (hc:X.calm=true:=by rfl) (hg:Gl X "max":=by rfl) (hs:starEach [a,b] X.env=[(false,eval a X.env),(false,eval b X.env)]:=by rfl) (hs2:starEach [b] X.env=[(false,eval b X.env)]:=by rfl):
  PE X (.Call (.Name "max" p) [a,b] [] pos) (tD K (v2 D3 ea eb)):=qb (Va ml ha hb hc hg hs hs2) (KQ (vP fun _ _ _=>.int _) fun B H Q h=>by simp only[FF (g:=fun i j=>V.int (if j>i then j else i))];exact h)
def xY:D->M->Fr
 | .bl k,L=>some (.int (if k then 1 else 0),L)
 |_,_=>none
theorem GU(ml:X.mg "int"=none) (ha:PE X a (tD K ea)) (hg:Gl X "int":=by rfl) (hs:starEach [a] X.env=[(false,eval a X.env)]:=by rfl):PE X (.Call (.Name "int" p) [a] [] pos) (tD K (v1 xY ea)):=qb (Q6 ml ha hg hs) (vt (by
 intro W x d z Z5 Q ok r1 hf q;unfold xY at hf;split at hf
 ·cases hf;cases r1;exact⟨_,rfl,q _ W rfl ok .refl (.int _)⟩
 ·cases hf))
end
def py:Nat->M->D->Option PyData
 |0,_,_=>none
 |n+1,L,d=>match d with
  | .non=>some .none
  | .bl b=>some (.bool b)
  | .int i=>some (.int i)
  | .str x=>some (.str x)
  | .lst xs=>(qd (py n L) xs).bind fun ys=>some (.list ys)
  | .scr xs=>(qd (py n L) xs).bind fun ys=>some (.list ys)
  | .tup xs=>(qd (py n L) xs).bind fun ys=>some (.tuple ys)
  | .gt xs=>(qd (py n L) xs).bind fun ys=>some (.tuple ys)
  | .ref k=>match L[k]? with
   |some (some (.lst xs))=>(qd (py n L) xs).bind fun ys=>some (.list ys)
   |_=>none
theorem v6{K:Frag}{W:Wd}{f:D->Option PyData}(h:∀d v pd,DR K W d v->f d=some pd->Dp K W.H v pd):∀{xs:List D} {vs:List V} {ys:List PyData},DRs K W xs vs->qd f xs=some ys->Dps K W.H vs ys
 |_,_,_,.nil,e=>by cases e;exact .nil
 |_,_,_,.cons r t,e=>by
  refine pK e fun y e1 e=>?_;refine pK e fun ys e2 e=>?_;cases e;exact .cons (h _ _ _ r e1) (v6 h t e2)
theorem uY{K:Frag}{W:Wd}(ok:Ok K W):∀(n:Nat) (d:D) (v:V) (pd:PyData),DR K W d v->py n W.L d=some pd->Dp K W.H v pd
 |0,_,_,_,_,e=>by cases e
 |n+1,d,v,pd,r,e=>by
  cases d with
  |non=>cases e;cases r;exact .non
  |bl b=>cases e;cases r;exact .bl b
  |int i=>cases e;cases r;exact .int i
  |str x=>cases e;cases r;exact .str x
  |lst xs=>
   refine pK e fun ys e1 e=>?_;cases e;cases r with
   |lst h _ hs=>exact .lst (SqL.of h) (v6 (uY ok n) hs e1)
  |scr xs=>
   refine pK e fun ys e1 e=>?_;cases e;cases r with
   |scr h hs=>exact .lst h.seq (v6 (uY ok n) hs e1)
  |tup xs=>
   refine pK e fun ys e1 e=>?_;cases e;cases r with
   |tup h hs=>exact .tup (SqT.of h) (v6 (uY ok n) hs e1)
  |gt xs=>
   refine pK e fun ys e1 e=>?_;cases e;cases r with
   |gt h hs=>exact .tup h (v6 (uY ok n) hs e1)
  |ref k=>
   simp only[py] at e;split at e
   ·rename_i xs hk;refine pK e fun ys e1 e=>?_;cases e;obtain⟨a,vs,rfl,_,h,hs⟩:=wJ ok hk r;exact(.lst (SqL.of h) (v6 (uY ok n) hs e1))
   ·cases e
def eqD(x y:D)(L:M):Option Bool:=match x,y with
 | .int i,.int j=>some (decide (i=j))
 | .str a,.str b=>if PyData.strOk a&&PyData.strOk b then some (decide (a=b)) else none
 |x,y=>(py 65 L x).bind fun d=>(py 65 L y).bind fun e=>if(d.canLay0&&e.canLay0&&decide (d.depth<=64))=true then some (PyData.eqv d e) else none
def IP{K:Frag}{W:Wd}{x y:D}{v u:V}{b:Bool}(ok:Ok K W)(rx:DR K W x v)(ry:DR K W y u)(h:eqD x y W.L=some b):∃d e,Dp K W.H v d/\Dp K W.H u e/\(d.canLay0&&e.canLay0&&decide (d.depth<=64))=true/\PyData.eqv d e=b:=by
 unfold eqD at h;split at h
 ·cases h;cases rx;cases ry;exact⟨_,_,.int _,.int _,by simp[PyData.canLay0,PyData.depth],by simp[PyData.eqv];rw[WW];simp⟩
 ·split at h
  ·rename_i hs;cases h;cases rx;cases ry;refine⟨_,_,.str _,.str _,by simpa[PyData.canLay0,PyData.depth] using hs,by simp[PyData.eqv];rw[WW];simp⟩
  ·cases h
 ·refine pK h fun d e1 h=>?_;refine pK h fun e e2 h=>?_;split at h
  ·rename_i hc;cases h;exact⟨d,e,uY ok _ _ _ _ rx e1,uY ok _ _ _ _ ry e2,hc,rfl⟩
  ·cases h
def fEq(x y:D)(L:M):Fr:=(eqD x y L).bind fun b=>some (.bl b,L)
def fNe(x y:D)(L:M):Fr:=(eqD x y L).bind fun b=>some (.bl (!b),L)
section
variable {X:Cx} {K:Frag} {a b c e:Expr} {ea eb:EV} {pos p:Pos} {es:List Expr} {el:LV} {k:Nat}
theorem Kh:R2A K (fun x y H Q=>∃d e,Dp K H x d/\Dp K H y e/\(d.canLay0&&e.canLay0&&decide (d.depth<=64))=true/\Q (.bl (PyData.eqv d e)) H) fEq:=by
 intro W x y d e z Z5 Q ok r1 r2 hf q;refine pK hf fun b hb hf=>?_;cases hf;obtain⟨d',e',h1,h2,h3,h4⟩:=IP ok r1 r2 hb;exact⟨d',e',h1,h2,h3,by rw[h4];exact q _ W rfl ok .refl (.bl _)⟩
theorem HV:R2A K (fun x y H Q=>∃d e,Dp K H x d/\Dp K H y e/\(d.canLay0&&e.canLay0&&decide (d.depth<=64))=true/\Q (.bl (!PyData.eqv d e)) H) fNe:=by
 intro W x y d e z Z5 Q ok r1 r2 hf q;refine pK hf fun b hb hf=>?_;cases hf;obtain⟨d',e',h1,h2,h3,h4⟩:=IP ok r1 r2 hb;exact⟨d',e',h1,h2,h3,by rw[h4];exact q _ W rfl ok .refl (.bl _)⟩
theorem yY(hr:Room k X.A)(ha:PE X a (tD K ea))(hb:PE X b (tD K eb))(hK:X.K=K:=by rfl):PE X (.Compare a [.Eq] [b] pos) (tD K (v2 fEq ea eb)):=by
 subst hK;exact Ac (K2 hr.units) Kh ha hb (uc _)
theorem Hv(hr:Room k X.A)(ha:PE X a (tD K ea))(hb:PE X b (tD K eb))(hK:X.K=K:=by rfl):PE X (.Compare a [.NotEq] [b] pos) (tD K (v2 fNe ea eb)):=by
 subst hK;exact Ac (He hr.units) HV ha hb (uc _)
theorem sA(hr:Room k X.A)(ha:PE X a (tD K ea))(hb:PE X b (tD K eb))(hK:X.K=K:=by rfl):PT X (.Compare a [.Eq] [b] pos) (tDB K (vT (v2 fEq ea eb))):=by
 subst hK;exact wx (K2 hr.units) Kh ha hb (uc _)
theorem Ay(hr:Room k X.A)(ha:PE X a (tD K ea))(hb:PE X b (tD K eb))(hK:X.K=K:=by rfl):PT X (.Compare a [.NotEq] [b] pos) (tDB K (vT (v2 fNe ea eb))):=by
 subst hK;exact wx (He hr.units) HV ha hb (uc _)
def tV(x y:D)(L:M):Fr:=match y with
 | .non=>some (.bl (match x with| .non=>true|_=>false),L)
 |_=>none
def u7(x y:D)(L:M):Fr:=match y with
 | .non=>some (.bl (match x with| .non=>false|_=>true),L)
 |_=>none
theorem Sy:R2A K (fun x y H Q=>y=.non/\Q (.bl (decide (x=.non))) H) tV:=by
 intro W x y d e z Z5 Q ok r1 r2 hf q;unfold tV at hf;split at hf
 ·cases hf;cases r2;refine⟨rfl,?_⟩;have h:=q _ W rfl ok .refl (.bl _);cases r1<;>exact h
 ·cases hf
theorem MO:R2A K (fun x y H Q=>y=.non/\Q (.bl (!decide (x=.non))) H) u7:=by
 intro W x y d e z Z5 Q ok r1 r2 hf q;unfold u7 at hf;split at hf
 ·cases hf;cases r2;refine⟨rfl,?_⟩;have h:=q _ W rfl ok .refl (.bl _);cases r1<;>exact h
 ·cases hf
theorem zD(ha:PE X a (tD K ea))(hb:PE X b (tD K eb)):PT X (.Compare a [.Is] [b] pos) (tDB K (vT (v2 tV ea eb))):=wx Vj Sy ha hb (uc _)
theorem Eu(ha:PE X a (tD K ea))(hb:PE X b (tD K eb)):PT X (.Compare a [.IsNot] [b] pos) (tDB K (vT (v2 u7 ea eb))):=wx Nw MO ha hb (uc _)
def tru(L:M):D->Option Bool
 | .non=>some false
 | .bl b=>some b
 | .int i=>some (i !=0)
 | .tup ds=>some (!ds.isEmpty)
 | .gt ds=>some (!ds.isEmpty)
 | .lst ds=>some (!ds.isEmpty)
 | .scr ds=>some (!ds.isEmpty)
 | .ref k=>match L[k]? with
  |some (some (.lst ds))=>some (!ds.isEmpty)
  |some (some (.dK kvs))=>some (!kvs.isEmpty)
  |_=>none
 | .str _=>none
theorem DRs.empty{W:Wd}{ds:List D}{vs:List V}(r:DRs K W ds vs):ds.isEmpty=vs.isEmpty:=by cases r<;>rfl
theorem Ny{W:Wd}{d:D}{v:V}{b:Bool}(ok:Ok K W)(h:tru W.L d=some b)(r:DR K W d v):CW K v W.H b:=by
 cases d with
 |non=>cases h;cases r;rfl
 |bl k=>cases h;cases r;rfl
 |int i=>cases h;cases r;rfl
 |str x=>cases h
 |tup ds=>
  cases h;cases r with
  |tup h hs=>exact .inr (.inl ⟨_,SqT.of h,by rw[DRs.empty hs]⟩)
 |gt ds=>
  cases h;cases r with
  |gt h hs=>exact .inr (.inl ⟨_,h,by rw[DRs.empty hs]⟩)
 |lst ds=>
  cases h;cases r with
  |lst h _ hs=>exact .inl ⟨_,SqL.of h,by rw[DRs.empty hs]⟩
 |scr ds=>
  cases h;cases r with
  |scr h hs=>exact .inl ⟨_,h.seq,by rw[DRs.empty hs]⟩
 |ref k=>
  simp only[tru] at h;split at h
  ·rename_i ds hk;cases h;obtain⟨a,vs,rfl,_,hh,hs⟩:=wJ ok hk r;exact(.inl ⟨_,SqL.of hh,by rw[DRs.empty hs]⟩)
  ·rename_i kvs hk;cases h;cases r with
   |ref ha=>
    obtain⟨a',ho,h1,h2,vs,rfl,r⟩:=ok.at_ k _ hk;rw[ha] at h1;cases h1;exact .inr (.inr ⟨vs,h2,by cases r<;>rfl⟩)
  ·cases h
def qS(ea:EV):BV:=fun O L=>(ea O L).bind fun p=>(tru p.2 p.1).bind fun b=>some (b,p.2)
theorem ua(ha:PE X a (tD K ea))(he:∀whole,isTrue a X.env whole=(do let v ←whole;standAt a.pos;holding [v] (truthy v)):=by intro _;rfl)(hK:X.K=K:=by rfl):PT X a (tDB K (qS ea)):=by
 subst hK;refine vo (Uk ha he) fun B H Q h=>?_;refine el4 h fun W O b Z5 eH ok en e q=>?_;subst eH;refine pK e fun p1 e1 e=>?_;refine pK e fun b1 e2 e=>?_;cases e;exact⟨W,O,p1.1,p1.2,rfl,ok,en,e1,fun x W1 Z1 ok1 s1 r1=>⟨b,Ny ok1 (by rw[Z1];exact e2) r1,q W1 Z1 ok1 s1⟩⟩
def tyD(L:M):D->Option String
 | .non=>some "NoneType"
 | .bl _=>some "bool"
 | .int _=>some "int"
 | .str _=>some "str"
 | .tup _=>some "tuple"
 | .gt _=>some "tuple"
 | .lst _=>some "list"
 | .scr _=>some "list"
 | .ref k=>match L[k]? with
  |some (some (.lst _))=>some "list"
  |some (some (.dK _))=>some "dict"
  |_=>none
theorem LD{W:Wd}{d:D}{v:V}{t:String}(ok:Ok K W)(h:tyD W.L d=some t)(r:DR K W d v):TyN K W.H v t:=by
 cases d with
 |non=>cases h;cases r;exact .non
 |bl k=>cases h;cases r;exact .bl _
 |int i=>cases h;cases r;exact .int _
 |str x=>cases h;cases r;exact .str _
 |tup ds=>
  cases h;cases r with
  |tup h hs=>exact .tup (SqT.of h)
 |gt ds=>
  cases h;cases r with
  |gt h hs=>exact .tup h
 |lst ds=>
  cases h;cases r with
  |lst h _ hs=>exact .lst (SqL.of h)
 |scr ds=>
  cases h;cases r with
  |scr h hs=>exact .lst h.seq
 |ref k=>
  simp only[tyD] at h;split at h
  ·rename_i ds hk;cases h;obtain⟨a,vs,rfl,_,hh,hs⟩:=wJ ok hk r;exact(.lst (SqL.of hh))
  ·rename_i kvs hk;cases h;cases r with
   |ref ha=>
    obtain⟨a',ho,h1,h2,vs,rfl,r⟩:=ok.at_ k _ hk;rw[ha] at h1;cases h1;exact(.dK h2)
  ·cases h
def ul(c:String)(x:D)(L:M):Fr:=(tyD L x).bind fun t=>some (.bl (x9 t c),L)
theorem zH(c:String)(ml:X.mg "isinstance"=none) (ha:PE X a (tD K ea)) (hb:PE X b (tC (.ty c))) (hc:clNames.contains c=true:=by decide) (hg:Gl X "isinstance":=by rfl) (hs:starEach [a,b] X.env=[(false,eval a X.env),(false,eval b X.env)]:=by rfl) (hs2:starEach [b] X.env=[(false,eval b X.env)]:=by rfl) (hK:X.K=K:=by rfl):
  PE X (.Call (.Name "isinstance" p) [a,b] [] pos) (tD K (v1 (ul c) ea)):=qb (So K ml ha hb hg hs hs2 hK) (vt (by
 intro W x d z Z5 Q ok r1 hf q;refine pK hf fun t ht hf=>?_;cases hf;exact⟨x,t,c,rfl,LD ok ht r1,hc,q _ W rfl ok .refl (.bl _)⟩))
def zX(ea:EV):EV:=fun O L=>(ea O L).bind fun p=>match p.1 with
 | .ref k=>match p.2[k]? with
  |some (some (.lst ds))=>some (.lst ds,p.2.set k none)
  |_=>none
 |_=>none
theorem TX(ha:PE X a (tD K ea)):PE X a (tD K (zX ea)):=qb ha fun B H Q h=>by
 refine el4 h fun W O d Z5 eH ok en e q=>?_;subst eH;refine pK e fun p1 e1 e=>?_;refine⟨W,O,p1.1,p1.2,rfl,ok,en,e1,fun x W1 Z1 ok1 s1 r1=>?_⟩;split at e
 ·rename_i k hk;rw[hk] at r1;split at e
  ·rename_i ds hd;cases e;rw[←Z1] at hd;exact q x (W1.frz k) (by show W1.L.set k none=_;rw[Z1]) (OJ ok1) (s1.trans DY) (Rk ok1 hd r1)
  ·cases e
 ·cases e
def spM(K:Frag)(f:C0):Sp:=fun vs H Q _=>∃(W:Wd) (ds:List D) (d:D) (Z5:M),W.H=H/\Ok K W/\DRs K W ds vs/\f ds W.L=some (d,Z5)/\∀v W',W'.L=Z5->Ok K W'->Step W W'->DR K W' d v->Q v W'.H
theorem qa{x:Str}{ps:List Str}{f:C0}{e:Expr}(Df':Df X.prog X.w X.K X.mg X.base k x ps (spM K f))(hr:Room k X.A)(ha:PA X (e::es) (tDL K el))(hg:Gl X x:=by rfl)(hdb:(x==("__debug__":Str))=false:=by decide)
  (he:starEach (e::es) X.env=(false,eval e X.env)::starEach es X.env:=by rfl) (hpl:(backTo pos (starEach es X.env)).any (·.1)=false:=by rfl):PE X (.Call (.Name x p) (e::es) [] pos) (tD K (vL f el)):=qb (JO Df' hr ha hg hdb he hpl) (A3 (by
 intro W xs ds z Z5 Q ok r hf q;exact⟨W,ds,z,Z5,rfl,ok,r,hf,q⟩))
def vY(f:D->D->M->Fr)(ea eb:EV):EV:=fun O L=>(ea O L).bind fun p=>(qE p.2 p.1).bind fun _=>(eb O p.2).bind fun q=>f p.1 q.1 q.2
theorem UB{W:Wd}{d:D}{ds:List D}{v:V}(ok:Ok K W)(h:qE W.L d=some ds)(r:DR K W d v):tyV K "list" v W.H:=by
 obtain⟨a,vs,rfl,hs,_⟩:=vf ok h r;exact(.inl ⟨rfl,vs,hs⟩)
def RMA(K:Frag)(r:V->List V->Hp->VK->Prop)(f:D->D->M->Fr):Prop:=∀(W:Wd) (x y:V) (d e z:D) (Z5:M) (Q:VK),Ok K W->DR K W d x->DR K W e y->f d e W.L=some (z,Z5)->
 (∀v W',W'.L=Z5->Ok K W'->Step W W'->DR K W' z v->Q v W'.H)->r x [y] W.H Q
theorem QE{eo:EV}{r:V->List V->Hp->VK->Prop}{f:D->D->M->Fr}(ra:RMA K r f):∀B H Q,tD K (vY f eo ea) B H Q->tBM K "list" r (tD K eo) (sm (tD K ea) tQ) B H Q:=fun B H Q h=>by
 refine el4 h fun W O d Z5 eH ok en e q=>?_;subst eH;refine pK e fun p1 e1 e=>?_;refine pK e fun ds e0 e=>?_;refine pK e fun p2 e2 e=>?_;refine⟨W,O,p1.1,p1.2,rfl,ok,en,e1,fun x W1 Z1 ok1 s1 r1=>⟨UB ok1 (by rw[Z1];exact e0) r1,W1,O,p2.1,p2.2,rfl,ok1,en.step ok s1,by rw[Z1];exact e2,fun y W2 ZV ok2 s2 r2=>?_⟩⟩;exact ra W2 x y _ _ _ _ Q ok2 (r1.step ok1 s2) r2 (by rw[ZV];exact e) fun v W3 ZR ok3 s3 r3=>q v W3 ZR ok3 ((s1.trans s2).trans s3) r3
def onL(x:D)(L:M)(g:List D->Option (D×List D)):Fr:=match x with
 | .ref k=>match L[k]? with
  |some (some (.lst ds))=>(g ds).bind fun r=>some (r.1,L.set k (some (.lst r.2)))
  |_=>none
 |_=>none
theorem EC{W:Wd}{x z:D}{v:V}{Z5:M}{g:List D->Option (D×List D)}(ok:Ok K W)(h:onL x W.L g=some (z,Z5))(r:DR K W x v):
  ∃k a ds vs ds',x=.ref k/\v=.ref a/\W.L[k]?=some (some (.lst ds))/\W.ρ[k]?=some a/\W.H a=some (.lst vs)/\DRs K W ds vs/\g ds=some (z,ds')/\Z5=W.L.set k (some (.lst ds')):=by
 unfold onL at h;split at h
 ·rename_i k;split at h
  ·rename_i ds hk;refine pK h fun p e1 e=>?_;cases e;obtain⟨a,vs,rfl,ha,hh,hs⟩:=wJ ok hk r;exact(⟨k,a,ds,vs,p.2,rfl,rfl,hk,ha,hh,hs,e1,rfl⟩)
  ·cases h
 ·cases h
theorem Hc{W:Wd}{k:Nat}{a:Addr}{ds ds':List D}{vs vs':List V}(ok:Ok K W)(hk:W.L[k]?=some (some (.lst ds)))(ha:W.ρ[k]?=some a)(hs:DRs K W ds' vs'):
  Ok K (W.put k a (.lst vs') (.lst ds'))/\Step W (W.put k a (.lst vs') (.lst ds')):=⟨zC ok hk ha ⟨vs',rfl,hs⟩,vN hk ha⟩
def tE(x y:D)(L:M):Fr:=onL x L fun ds=>if ds.length<1000000 then some (.non,ds++[y]) else none
theorem IS{o:Expr}{eo:EV}{apos:Pos}(ho:PE X o (tD K eo))(ha:PE X a (tD K ea))(hs:starEach [a] X.env=[(false,eval a X.env)]:=by rfl)
  (hbase:attributeBase o "append" X.env (eval o X.env)=eval o X.env:=by rfl) (hline:(apos.endLine==pos.line)=true:=by rfl) (hK:X.K=K:=by rfl)
  (hfew:((backTo pos (starEach [a] X.env)).all (fun x=>!x.1)&&(backToKw pos (keywordEach [] X.env)).all (fun x=>x.1.isSome)
   &&decide ([a].length+([]:List Keyword).length+(if([]:List Keyword).isEmpty then 0 else 1)<30))=true:=by rfl):
  PE X (.Call (.Attribute o "append" apos) [a] [] pos) (tD K (vY tE eo ea)):=qb (Mc K ho ha hs hbase hline hK hfew) (QE (by
 intro W x y d e z Z5 Q ok r1 r2 hf q;obtain⟨k,a,ds,vs,ds',rfl,rfl,hk,ha,hh,hs,hg,rfl⟩:=EC ok hf r1;split at hg
 ·rename_i hl;cases hg;obtain⟨o1,s1⟩:=Hc (vs:=vs) (vs':=vs++[y]) ok hk ha (hs.append (.cons r2 .nil));exact⟨a,vs,y,rfl,rfl,hh,yi (by rw[←hs.length];omega),q _ _ rfl o1 s1 .non⟩
 ·cases hg))
end
open Classical in
def chk{J:Type}(c:Prop)(x:Option J):Option J:=if c then x else none
def D7{J:Type}{c:Prop}{x:Option J}{a:J}(h:chk c x=some a):c/\x=some a:=by
 unfold chk at h;split at h
 ·exact⟨by assumption,h⟩
 ·cases h
def tq{J:Type}{c:Prop}{x:Option J}{a:J}{Z:Prop}(h:chk c x=some a)(k:c->x=some a->Z):Z:=k (D7 h).1 (D7 h).2
def sF{J:Type}{c:Prop}{x:Option J}(h:c):chk c x=x:=by unfold chk;rw[if_pos h]
abbrev GV:=D->G->M->Option (G×M)
abbrev GsV:=List D->G->M->Option (G×M)
def tDG(K:Frag)(gv:GV):TG:=fun v B H Q=>∃(W:Wd) (O:G) (d:D) (ZY:G) (Z5:M),W.H=H/\Ok K W/\EnvR K W O B/\DR K W d v/\gv d O W.L=some (ZY,Z5)/\∀W' ZZ,W'.L=Z5->Ok K W'->Step W W'->EnvR K W' ZY ZZ->Q ZZ W'.H
def A7(K:Frag)(gv:GsV):TGs:=fun vs B H Q=>∃(W:Wd) (O:G) (ds:List D) (ZY:G) (Z5:M),W.H=H/\Ok K W/\EnvR K W O B/\DRs K W ds vs/\gv ds O W.L=some (ZY,Z5)/\∀W' ZZ,W'.L=Z5->Ok K W'->Step W W'->EnvR K W' ZY ZZ->Q ZZ W'.H
section
variable {X:Cx} {K:Frag} {pos:Pos}
theorem Du{tg:Expr}{t t':TG}(h:PG X tg t)(hi:∀v B H Q,t' v B H Q->t v B H Q):PG X tg t':=fun pins s B H v u Q I r hw=>h pins s B H v u Q I r (hi _ _ _ _ hw)
theorem Hx{tg:List Expr}{t t':TGs}(h:PGs X tg t)(hi:∀v B H Q,t' v B H Q->t v B H Q):PGs X tg t':=fun pins s B H v u Q I r hw=>h pins s B H v u Q I r (hi _ _ _ _ hw)
theorem EnvR.set{W:Wd}{O:G}{B:St}(e:EnvR K W O B){d:D}{v:V}(r:DR K W d v)(i:Nat):EnvR K W (O.set i (some d)) (B.set i (some v)) where
 len:=by simp[e.len]
 at_ j d' h:=by
  by_cases hj:j=i
  ·subst hj;have hlt:j<O.length:=by have:=(Vw.mp h).1;simpa using this
   simp[hlt] at h;subst h;exact⟨v,by have:=e.len;simp[show j<B.length by omega],r⟩
  ·rw[VT (Ne.symm hj)] at h;obtain⟨u,hu,q⟩:=e.at_ j d' h;exact⟨u,by rw[VT (Ne.symm hj)];exact hu,q⟩
def pJ(i:Nat):GV:=fun d O L=>some (O.set i (some d),L)
theorem SN{i:Nat}:∀v B H Q,tDG K (pJ i) v B H Q->CZ i v B H Q:=fun v B H Q h=>by
 obtain⟨W,O,d,ZY,Z5,rfl,ok,en,r,e,q⟩:=h;cases e;exact(q W _ rfl ok .refl (en.set r i))
theorem p5{i:Nat}{x:Str}(hN:X.N.Nodup)(hi:X.N[i]?=some x)(hx:Loc X.env.scope x)(hf:X.fn x=true\/X.env.scope.names.lookup x=some .local:=by first|exact .inl rfl|exact .inr rfl|assumption):PG X (.Name x pos) (tDG K (pJ i)):=Du (OX hN hi hx hf) SN
def qA:GsV:=fun ds O L=>match ds with
 | []=>some (O,L)
 |_::_=>none
def pS(g:GV)(gs:GsV):GsV:=fun ds O L=>match ds with
 | []=>none
 |d::r=>(g d O L).bind fun p=>gs r p.1 p.2
theorem sU:PGs X [] (A7 K qA):=Hx Rt fun v B H Q h=>by
 obtain⟨W,O,d,ZY,Z5,rfl,ok,en,r,e,q⟩:=h;cases r with
 |nil=>cases e;exact⟨rfl,q W _ rfl ok .refl en⟩
 |cons _ _=>cases e
theorem qu{e:Expr}{es:List Expr}{g:GV}{gs:GsV}(h1:PG X e (tDG K g))(h2:PGs X es (A7 K gs))
  (hs:(assignEach (e::es) X.env).map (·.2)=assign e X.env::(assignEach es X.env).map (·.2):=by rfl):PGs X (e::es) (A7 K (pS g gs)):=Hx (Nf h1 h2 hs) fun v B H Q h=>by
 obtain⟨W,O,d,ZY,Z5,rfl,ok,en,r,e,q⟩:=h;cases r with
 |nil=>cases e
 |cons r rs=>
  refine pK e fun p1 e1 e=>?_;exact⟨_,_,rfl,W,O,_,p1.1,p1.2,rfl,ok,en,r,e1,fun W1 ZI Z1 ok1 s1 en1=>⟨W1,p1.1,_,ZY,Z5,rfl,ok1,en1,rs.step ok s1,by rw[Z1];exact e,fun W2 ZW ZV ok2 s2 en2=>q W2 ZW ZV ok2 (s1.trans s2) en2⟩⟩
def qm(n:Nat)(gs:GsV):GV:=fun d O L=>(uB d).bind fun ds=>if ds.length=n then gs ds O L else none
theorem sT{es:List Expr}{k:Nat}{gs:GsV}{n:Nat}(h:PGs X es (A7 K gs))(hc:X.calm=true:=by rfl)(hn:(assignEach es X.env).length=n:=by rfl)(hst:(assignEach es X.env).findIdx? (·.1)=none:=by rfl)(hK:X.K=K:=by rfl):PG X (.Tuple es k pos) (tDG K (qm n gs)):=Du (gT K h hc hn hst hK) fun v B H Q hh=>by
 obtain⟨W,O,d,ZY,Z5,rfl,ok,en,r,e,q⟩:=hh;refine pK e fun ds e1 e=>?_;split at e
 ·rename_i hl;obtain⟨a,vs,rfl,hs,hv⟩:=u5 e1 r;exact⟨a,vs,rfl,hs,by rw[←hv.length];exact hl,W,O,ds,ZY,Z5,rfl,ok,en,hv,e,q⟩
 ·cases e
def yh(eo ei:EV):GV:=fun d O L=>(eo O L).bind fun p=>(ei O p.2).bind fun q=>match q.1 with
 | .int j=>(onL p.1 q.2 fun ds=>(ixN ds.length j).bind fun jj=>some (.non,ds.set jj d)).bind fun r=>some (O,r.2)
 |_=>none
theorem F0{o i:Expr}{eo ei:EV}(ho:PE X o (tD K eo))(hi:PE X i (tD K ei))(ha:∀v,assign (.Subscript o i pos) X.env v=(do
   let ov ←holding [v] (eval o X.env)
   let iv ←holding [v,ov] (eval i X.env)
   standAt pos
   holding [v,ov,iv] (setItem ov iv v)
   release [v,ov,iv] []):=by intro _;rfl):PG X (.Subscript o i pos) (tDG K (yh eo ei)):=Du (P7 ho hi Q8 ha) fun v B H Q hh=>by
 obtain⟨W,O,d,ZY,Z5,rfl,ok,en,r,e,q⟩:=hh;refine pK e fun p1 e1 e=>?_;refine pK e fun p2 e2 e=>?_;refine⟨W,O,p1.1,p1.2,rfl,ok,en,e1,fun x W1 Z1 ok1 s1 r1=>⟨W1,O,p2.1,p2.2,rfl,ok1,en.step ok s1,by rw[Z1];exact e2,fun y W2 ZV ok2 s2 r2=>?_⟩⟩;split at e
 ·rename_i j hj;rw[hj] at r2;cases r2;obtain⟨⟨z3,ZN⟩,e3,e⟩:=bnd e;cases e;rw[←ZV] at e3;obtain⟨k,a,ds,vs,ds',h1,rfl,hk,ha,hh,hs,hg,h2⟩:=EC ok2 e3 (r1.step ok1 s2);refine pK hg fun jj hjj hg=>?_;cases hg;obtain⟨o1,st1⟩:=Hc (vs:=vs) (vs':=vs.set jj v) ok2 hk ha (hs.set ((r.step ok s1).step ok1 s2) jj);exact⟨a,vs,j,jj,rfl,rfl,hh,by rw[←hs.length];exact hjj,q _ _ h2.symm o1 ((s1.trans s2).trans st1) (((en.step ok s1).step ok1 s2).step ok2 st1)⟩
 ·cases e
end
section
variable {X:Cx} {K:Frag} {pos:Pos} {e:Expr} {ea:EV} {st:Stmt} {pU:List Stmt} {sa sb:SV}
def sNx:SV:=fun O L=>some (.nx,O,L)
def pM(a b:SV):SV:=fun O L=>(a O L).bind fun o=>match o.1 with
 | .nx=>b o.2.1 o.2.2
 | .bk=>some (.bk,o.2)
 | .ct=>some (.ct,o.2)
 | .rt d=>some (.rt d,o.2)
theorem qx:PSs X [] (tDS K sNx):=ya Lz fun D B H h=>by
 refine el5 h fun W O o ZY Z5 eH ok en e q=>?_;subst eH;cases e;exact q W B rfl ok .refl en
theorem pP(h1:PS X st (tDS K sa)):PSs X [st] (tDS K sa):=KB h1
theorem pQ(h1:PS X st (tDS K sa))(h2:PSs X pU (tDS K sb)):PSs X (st::pU) (tDS K (pM sa sb)):=ya (IM h1 h2) fun D B H h=>by
 refine el5 h fun W O o ZY Z5 eH ok en e q=>?_;subst eH;obtain⟨⟨o1,ZX,Z4⟩,e1,e⟩:=bnd e;refine(⟨W,O,o1,ZX,Z4,rfl,ok,en,e1,fun W1 ZI Z1 ok1 s1 en1=>?_⟩);cases o1 with
 |nx=>exact⟨W1,ZX,o,ZY,Z5,rfl,ok1,en1,by rw[Z1];exact e,fun W2 ZW ZV ok2 s2 en2=>q W2 ZW ZV ok2 (s1.trans s2) en2⟩
 |bk=>cases e;exact q W1 ZI Z1 ok1 s1 en1
 |ct=>cases e;exact q W1 ZI Z1 ok1 s1 en1
 |rt d=>cases e;exact q W1 ZI Z1 ok1 s1 en1
def sK(ea:EV):SV:=fun O L=>(ea O L).bind fun p=>some (.nx,O,p.2)
theorem xa(he:PE X e (tD K ea))(hs:swapsWith e none pos.line X.env=pure false:=by rfl):PS X (.Expr e pos) (tDS K (sK ea)):=rH (Fw he hs) fun D B H h=>by
 refine el5 h fun W O o ZY Z5 eH ok en e q=>?_;subst eH;refine pK e fun p1 e1 e=>?_;cases e;exact⟨W,O,p1.1,p1.2,rfl,ok,en,e1,fun v W1 Z1 ok1 s1 r1=>q W1 B Z1 ok1 s1 (en.step ok s1)⟩
def pT(ea:EV):SV:=fun O L=>(ea O L).bind fun p=>some (.rt p.1,O,p.2)
theorem pZ(he:PE X e (tD K ea)):PS X (.Return (some e) pos) (tDS K (pT ea)):=rH (Kf he) fun D B H h=>by
 refine el5 h fun W O o ZY Z5 eH ok en e q=>?_;subst eH;refine pK e fun p1 e1 e=>?_;cases e;exact⟨W,O,p1.1,p1.2,rfl,ok,en,e1,fun v W1 Z1 ok1 s1 r1=>q W1 B Z1 ok1 s1 (en.step ok s1) v r1⟩
def sIf(t:BV)(a b:SV):SV:=fun O L=>(t O L).bind fun p=>if p.1=true then a O p.2 else b O p.2
theorem qD{c:Expr}{a b:List Stmt}{bc:BV}(hc:PT X c (tDB K bc))(ha:PSs X a (tDS K sa))(hb:PSs X b (tDS K sb)):PS X (.If c a b pos) (tDS K (sIf bc sa sb)):=rH (K4 hc ha hb) fun D B H h=>by
 refine el5 h fun W O o ZY Z5 eH ok en e q=>?_;subst eH;refine pK e fun p1 e1 e=>?_;refine⟨W,O,p1.1,p1.2,rfl,ok,en,e1,fun W1 Z1 ok1 s1=>?_⟩;split at e
 ·rename_i hp;rw[if_pos hp];exact⟨W1,O,o,ZY,Z5,rfl,ok1,en.step ok s1,by rw[Z1];exact e,fun W2 ZW ZV ok2 s2 en2=>q W2 ZW ZV ok2 (s1.trans s2) en2⟩
 ·rename_i hp;rw[if_neg hp];exact⟨W1,O,o,ZY,Z5,rfl,ok1,en.step ok s1,by rw[Z1];exact e,fun W2 ZW ZV ok2 s2 en2=>q W2 ZW ZV ok2 (s1.trans s2) en2⟩
def pX(ea:EV)(g:GV):SV:=fun O L=>(ea O L).bind fun p=>(g p.1 O p.2).bind fun q=>some (.nx,q.1,q.2)
theorem LK{g:GV}:∀D B H,tDS K (pX ea g) D B H->Bw (tD K ea) (tDG K g) D B H:=fun D B H h=>by
 refine el5 h fun W O o ZY Z5 eH ok en e q=>?_;subst eH;refine pK e fun p1 e1 e=>?_;refine pK e fun p2 e2 e=>?_;cases e;exact⟨W,O,p1.1,p1.2,rfl,ok,en,e1,fun v W1 Z1 ok1 s1 r1=>⟨W1,O,p1.1,p2.1,p2.2,rfl,ok1,en.step ok s1,r1,by rw[Z1];exact e2,fun W2 ZW ZV ok2 s2 en2=>q W2 ZW ZV ok2 (s1.trans s2) en2⟩⟩
theorem zm{tg:Expr}{g:GV}(he:PE X e (tD K ea))(hg:PG X tg (tDG K g))(hs:swapsWithSole [tg] e pos.line X.env=pure false:=by rfl)(hw:swappedStores [tg] e X.env=pure none:=by rfl)
  (h1:(assignEach [tg] X.env).map (·.2)=[assign tg X.env]:=by rfl):PS X (.Assign [tg] e pos) (tDS K (pX ea g)):=rH (OU he hg hs hw h1) LK
theorem qC{i:Nat}{x:Str}{pos':Pos}(hN:X.N.Nodup)(hi:X.N[i]?=some x)(hx:Loc X.env.scope x)(he:PE X e (tD K ea))(hs:swapsWith e (some (.Name x pos')) pos.line X.env=pure false:=by rfl)(hf:X.fn x=true\/X.env.scope.names.lookup x=some .local:=by first|exact .inl rfl|exact .inr rfl|assumption):
  PS X (.Assign [.Name x pos'] e pos) (tDS K (pX ea (pJ i))):=rH (GT hN hi hx he hs hf) fun D B H h=>by
 refine el5 h fun W O o ZY Z5 eH ok en e q=>?_;subst eH;refine pK e fun p1 e1 e=>?_;cases e;exact⟨W,O,p1.1,p1.2,rfl,ok,en,e1,fun v W1 Z1 ok1 s1 r1=>q W1 _ Z1 ok1 s1 ((en.step ok s1).set r1 i)⟩
def xU(i:Nat)(f:D->D->M->Fr)(ea:EV):SV:=fun O L=>match O[i]? with
 |some (some x)=>(ea O L).bind fun p=>(f x p.1 p.2).bind fun q=>some (.nx,O.set i (some q.1),q.2)
 |_=>none
theorem UH{i:Nat}{x:Str}{op:Operator}{ti:TIp}{f:D->D->M->Fr}{pos':Pos}(hN:X.N.Nodup)(hi:X.N[i]?=some x)(hx:Loc X.env.scope x)(he:PE X e (tD K ea))(ho:PIp X op ti)(ra:R2A K ti f)(hf:X.fn x=true\/X.env.scope.names.lookup x=some .local:=by first|exact .inl rfl|exact .inr rfl|assumption):
  PS X (.AugAssign (.Name x pos') op e pos) (tDS K (xU i f ea)):=rH (O3 hN hi hx he ho hf) fun D B H h=>by
 refine el5 h fun W O o ZY Z5 eH ok en e q=>?_;subst eH;unfold xU at e;split at e
 ·rename_i x0 hx0;refine pK e fun p1 e1 e=>?_;refine pK e fun p2 e2 e=>?_;cases e;obtain⟨v,hv,r⟩:=en.at_ i _ hx0;refine(⟨v,hv,W,O,p1.1,p1.2,rfl,ok,en,e1,fun y W1 Z1 ok1 s1 r1=>?_⟩);exact ra W1 v y _ _ _ _ _ ok1 (r.step ok s1) r1 (by rw[Z1];exact e2) fun z W2 ZV ok2 s2 r2=>q W2 _ ZV ok2 (s1.trans s2) (((en.step ok s1).step ok1 s2).set r2 i)
 ·cases e
theorem RA{g:Int->Int->Int}:R2A K (ipI g) (fI0 fun i j=>.int (g i j)):=by
 intro W x y d e z Z5 Q ok r1 r2 hf q;unfold fI0 at hf;split at hf
 ·cases hf;cases r1;cases r2;exact⟨_,_,rfl,rfl,q _ W rfl ok .refl (.int _)⟩
 ·cases hf
theorem Th{i:Nat}{x:Str}{pos':Pos}(hN:X.N.Nodup)(hi:X.N[i]?=some x)(hx:Loc X.env.scope x)(he:PE X e (tD K ea))(hf:X.fn x=true\/X.env.scope.names.lookup x=some .local:=by first|exact .inl rfl|exact .inr rfl|assumption):
  PS X (.AugAssign (.Name x pos') .Add e pos) (tDS K (xU i Da ea)):=UH hN hi hx he M4 RA hf
def xi(c:BV)(body:SV):Nat->SV
 |0,_,_=>none
 |n+1,O,L=>(c O L).bind fun p=>if p.1=true then(body O p.2).bind fun o=>match o.1 with
   | .nx=>xi c body n o.2.1 o.2.2
   | .ct=>xi c body n o.2.1 o.2.2
   | .bk=>some (.nx,o.2)
   | .rt d=>some (.rt d,o.2)
  else some (.nx,O,p.2)
theorem Ue{c:Expr}{body:List Stmt}{bc:BV}(n:Nat)(hp:PassesOwn (model X.prog X.w) X.A X.env X.xe)(hc:PT X c (tDB K bc))(hb:PSs X body (tDS K sb)):PS X (.While c body [] pos) (tDS K (xi bc sb n)):=rH (U9 hp hc hb) fun D B H h=>by
 refine el5 h fun W O o ZY Z5 eH ok en e q=>?_;subst eH;refine⟨fun m ZI H1=>∃W1 ZX,W1.H=H1/\Ok K W1/\Step W W1/\EnvR K W1 ZX ZI/\xi bc sb m ZX W1.L=some (o,ZY,Z5),⟨n,W,O,rfl,ok,.refl,en,e⟩,?_⟩;rintro m ZI H1 ⟨W1,ZX,rfl,ok1,s1,en1,e1⟩;cases m with
 |zero=>cases e1
 |succ m=>
  refine pK e1 fun p1 ec e1=>?_;refine⟨W1,ZX,p1.1,p1.2,rfl,ok1,en1,ec,fun W2 ZV ok2 s2=>?_⟩;split at e1
  ·rename_i hp1;rw[if_pos hp1];obtain⟨⟨o3,Zh,ZN⟩,e3,e1⟩:=bnd e1;refine⟨_,fun ZZ H' h'=>⟨m,Nat.lt_succ_self m,h'⟩,W2,ZX,o3,Zh,ZN,rfl,ok2,en1.step ok1 s2,by rw[ZV];exact e3,fun W3 ZH ZR ok3 s3 en3=>?_⟩;cases o3 with
   |nx=>exact⟨W3,Zh,rfl,ok3,(s1.trans s2).trans s3,en3,by rw[ZR];exact e1⟩
   |ct=>exact⟨W3,Zh,rfl,ok3,(s1.trans s2).trans s3,en3,by rw[ZR];exact e1⟩
   |bk=>cases e1;exact q W3 ZH ZR ok3 ((s1.trans s2).trans s3) en3
   |rt d=>cases e1;exact q W3 ZH ZR ok3 ((s1.trans s2).trans s3) en3
  ·rename_i hp1;cases e1;rw[if_neg hp1];exact q W2 ZI ZV ok2 (s1.trans s2) (en1.step ok1 s2)
abbrev Ck:=Option (Nat×List D)
def p8:Ck->M->Prop
 |none,_=>True
 |some (k,raw),L=>L[k]?=some (some (.lst raw))
abbrev IV:=G->M->Option ((List D×Ck)×M)
def JR(K:Frag)(W:Wd)(Z6:It)(its:List D)(c:Ck):Prop:=p8 c W.L/\∃ds vs,DRs K W ds vs/\∀(W2:Wd) (i:Nat),Ok K W2->p8 c W2.L->DRs K W2 ds vs->
 (its.length<=i->Z6.stop i W2.H)/\∀d,its[i]?=some d->Z6.go i W2.H/\∀x H',Z6.yld i W2.H x H'->∃W3,W3.H=H'/\W3.L=W2.L/\Ok K W3/\Step W2 W3/\DR K W3 d x
def tDI(K:Frag)(iv:IV):TI:=fun B H R=>∃(W:Wd) (O:G) (its:List D) (c:Ck) (Z5:M),W.H=H/\Ok K W/\EnvR K W O B/\iv O W.L=some ((its,c),Z5)/\∀Z6 W',W'.L=Z5->Ok K W'->Step W W'->JR K W' Z6 its c->R Z6 W'.H
theorem wB{tg iter:Expr}{t t':TI}(h:PI X tg iter t)(hi:∀B H R,t' B H R->t B H R):PI X tg iter t':=fun pins s B H R I hw=>h pins s B H R I (hi _ _ _ hw)
def lsC(L:M):D->Option (List D×Ck)
 | .lst ds=>some (ds,none)
 | .scr ds=>some (ds,none)
 | .ref k=>match L[k]? with
  |some (some (.lst ds))=>some (ds,some (k,ds))
  |_=>none
 |_=>none
theorem Eg{W:Wd}{d:D}{ds:List D}{c:Ck}{v:V}(ok:Ok K W)(h:lsC W.L d=some (ds,c))(r:DR K W d v):
  p8 c W.L/\∃a,v=.ref a/\∀W2,Ok K W2->p8 c W2.L->DR K W2 d v->∃vs,SqL K W2.H a vs/\DRs K W2 ds vs:=by
 cases d with
 |lst xs=>
  cases h;cases r with
  |lst h n hs=>
   refine⟨trivial,_,rfl,fun W2 _ _ r2=>?_⟩;cases r2 with
   |lst h n hs=>exact⟨_,SqL.of h,hs⟩
 |scr xs=>
  cases h;cases r with
  |scr h hs=>
   refine⟨trivial,_,rfl,fun W2 _ _ r2=>?_⟩;cases r2 with
   |scr h hs=>exact⟨_,h.seq,hs⟩
 |ref k=>
  simp only[lsC] at h;split at h
  ·rename_i xs hk;cases h;refine⟨hk,?_⟩;cases r with
   |ref ha=>
    refine⟨_,rfl,fun W2 ok2 c2 r2=>?_⟩;obtain⟨a',vs,e,_,hh,hs⟩:=wJ ok2 c2 r2;cases e;exact(⟨vs,SqL.of hh,hs⟩)
  ·cases h
 |_=>cases h
def ivL(ea:EV):IV:=fun O L=>(ea O L).bind fun p=>(lsC p.2 p.1).bind fun s=>some (s,p.2)
theorem rM{tg a:Expr}(ha:PE X a (tD K ea))(hK:X.K=K:=by rfl):PI X tg a (tDI K (ivL ea)):=wB (iL K ha hK) fun B H R h=>by
 refine el5 h fun W O its c Z5 eH ok en e q=>?_;subst eH;refine pK e fun p1 e1 e=>?_;refine pK e fun s e2 e=>?_;cases e;refine⟨W,O,p1.1,p1.2,rfl,ok,en,e1,fun v W1 Z1 ok1 s1 r1=>?_⟩;obtain⟨c0,a,rfl,hh⟩:=Eg ok1 (by rw[Z1];exact e2) r1;obtain⟨vs0,h0,_⟩:=hh W1 ok1 c0 r1;refine(⟨a,rfl,⟨_,h0⟩,q (Itl K a) W1 Z1 ok1 s1 ⟨c0,[p1.1],[.ref a],.cons r1 .nil,fun W2 i ok2 c2 r2=>?_⟩⟩);cases r2 with
 |cons r2 _=>
  obtain⟨vs,hs,hv⟩:=hh W2 ok2 c2 r2;refine⟨fun hi=>⟨vs,hs,by rw[←hv.length];exact hi⟩,fun d hd=>?_⟩;obtain⟨v,hv1,hv2⟩:=hv.get hd;refine(⟨⟨vs,v,hs,hv1⟩,fun x H' y=>?_⟩);obtain⟨rfl,y⟩:=y;have:=y vs hs;rw[hv1] at this;cases this;exact⟨W2,rfl,rfl,ok2,.refl,hv2⟩
def ivT(ea:EV):IV:=fun O L=>(ea O L).bind fun p=>(uB p.1).bind fun ds=>some ((ds,none),p.2)
theorem Am{tg a:Expr}(ha:PE X a (tD K ea))(hK:X.K=K:=by rfl):PI X tg a (tDI K (ivT ea)):=wB (iT K ha hK) fun B H R h=>by
 refine el5 h fun W O its c Z5 eH ok en e q=>?_;subst eH;refine pK e fun p1 e1 e=>?_;refine pK e fun s e2 e=>?_;cases e;refine⟨W,O,p1.1,p1.2,rfl,ok,en,e1,fun v W1 Z1 ok1 s1 r1=>?_⟩;obtain⟨a,vs0,rfl,h0,_⟩:=u5 e2 r1;refine(⟨a,rfl,⟨_,h0⟩,q (Itt K a) W1 Z1 ok1 s1 ⟨trivial,[p1.1],[.ref a],.cons r1 .nil,fun W2 i ok2 c2 r2=>?_⟩⟩);cases r2 with
 |cons r2 _=>
  obtain⟨a',vs,e',hs,hv⟩:=u5 e2 r2;cases e';refine⟨fun hi=>⟨vs,hs,by rw[←hv.length];exact hi⟩,fun d hd=>?_⟩;obtain⟨v,hv1,hv2⟩:=hv.get hd;refine(⟨⟨vs,v,hs,hv1⟩,fun x H' y=>?_⟩);obtain⟨rfl,y⟩:=y;have:=y vs hs;rw[hv1] at this;cases this;exact⟨W2,rfl,rfl,ok2,.refl,hv2⟩
def qq(lo:Int)(n:Nat):List D:=(List.range n).map fun k:Nat=>D.int (lo+k)
theorem DE{W:Wd}{lo:Int}{n:Nat}:JR K W (Itr lo n) (qq lo n) none:=by
 refine⟨trivial,[],[],.nil,fun W2 i ok2 _ _=>⟨fun hi=>?_,fun d hd=>?_⟩⟩
 ·show n<=i;simpa[qq] using hi
 ·have hlt:=(Vw.mp hd).1;simp[qq] at hlt;simp[qq,hlt] at hd;subst hd;refine⟨hlt,fun x H' y=>?_⟩;obtain⟨rfl,rfl⟩:=y;exact(⟨W2,rfl,rfl,ok2,.refl,.int _⟩)
def ivR(ea:EV):IV:=fun O L=>(ea O L).bind fun p=>match p.1 with
 | .int j=>if -1000000000<=j/\j<=1000000000 then some ((qq 0 j.toNat,none),p.2) else none
 |_=>none
theorem Ds(mr:X.mg "range"=none) {tg a:Expr} {p:Pos} (ha:PE X a (tD K ea)) (hg:Gl X "range":=by rfl) (hs:starEach [a] X.env=[(false,eval a X.env)]:=by rfl):PI X tg (.Call (.Name "range" p) [a] [] pos) (tDI K (ivR ea)):=wB (iR mr ha hg hs) fun B H R h=>by
 refine el5 h fun W O its c Z5 eH ok en e q=>?_;subst eH;refine pK e fun p1 e1 e=>?_;split at e
 ·rename_i j hj;split at e
  ·rename_i hb;cases e;refine⟨W,O,p1.1,p1.2,rfl,ok,en,e1,fun v W1 Z1 ok1 s1 r1=>?_⟩;rw[hj] at r1;cases r1;exact⟨j,rfl,by omega,by omega,q _ W1 Z1 ok1 s1 DE⟩
  ·cases e
 ·cases e
def yF(ea eb:EV):IV:=fun O L=>(ea O L).bind fun p=>(eb O p.2).bind fun r=>match p.1,r.1 with
 | .int i,.int j=>if(-1000000000<=i/\i<=1000000000)/\-1000000000<=j/\j<=1000000000 then some ((qq i (j - i).toNat,none),r.2) else none
 |_,_=>none
theorem MQ(mr:X.mg "range"=none) {tg a b:Expr} {eb:EV} {p:Pos} (ha:PE X a (tD K ea)) (hb:PE X b (tD K eb)) (hg:Gl X "range":=by rfl) (hs:starEach [a,b] X.env=[(false,eval a X.env),(false,eval b X.env)]:=by rfl) (hs2:starEach [b] X.env=[(false,eval b X.env)]:=by rfl):
  PI X tg (.Call (.Name "range" p) [a,b] [] pos) (tDI K (yF ea eb)):=wB (iR2 mr ha hb hg hs hs2) fun B H R h=>by
 refine el5 h fun W O its c Z5 eH ok en e q=>?_;subst eH;refine pK e fun p1 e1 e=>?_;refine pK e fun p2 e2 e=>?_;split at e
 ·rename_i i j hi hj;split at e
  ·rename_i hb;cases e;refine⟨W,O,p1.1,p1.2,rfl,ok,en,e1,fun v W1 Z1 ok1 s1 r1=>⟨W1,O,p2.1,p2.2,rfl,ok1,en.step ok s1,by rw[Z1];exact e2,fun y W2 ZV ok2 s2 r2=>?_⟩⟩;rw[hi] at r1;rw[hj] at r2;cases r1;cases r2;exact⟨i,j,rfl,⟨by omega,by omega,by omega,by omega⟩,q _ W2 ZV ok2 (s1.trans s2) DE⟩
  ·cases e
 ·cases e
def qB(c:Ck)(g:GV)(body:SV):List D->SV
 | [],O,L=>some (.nx,O,L)
 |d::r,O,L=>(g d O L).bind fun p=>(body p.1 p.2).bind fun o=>match o.1 with
  | .nx=>chk (p8 c o.2.2) (qB c g body r o.2.1 o.2.2)
  | .ct=>chk (p8 c o.2.2) (qB c g body r o.2.1 o.2.2)
  | .bk=>some (.nx,o.2)
  | .rt d=>some (.rt d,o.2)
def rK(iv:IV)(g:GV)(body:SV):SV:=fun O L=>(iv O L).bind fun s=>qB s.1.2 g body s.1.1 O s.2
theorem sH{tg iter:Expr}{body:List Stmt}{iv:IV}{g:GV}(hp:PassesOwn (model X.prog X.w) X.A X.env X.xe)(hc:X.calm=true)(hi:PI X tg iter (tDI K iv))(hg:PG X tg (tDG K g))(hb:PSs X body (tDS K sb))
  (hs:∀x,foldedSetIterable iter X.env x=pure x:=by intro _;rfl):PS X (.For tg iter body [] pos) (tDS K (rK iv g sb)):=rH (HN hp hc hi hg hb hs) fun D B H h=>by
 refine el5 h fun W O o ZY Z5 eH ok en e q=>?_;subst eH;obtain⟨⟨⟨its,c⟩,Z4⟩,e1,e⟩:=bnd e;refine(⟨W,O,its,c,Z4,rfl,ok,en,e1,fun Z6 W1 ZK ok1 s1 jr=>?_⟩);obtain⟨c1,ds,vs,r1,hj⟩:=jr;obtain⟨P,hP⟩:∃P:Nat->St->Hp->Prop,∀i ZW H2,P i ZW H2↔(i<=its.length/\∃W2 ZT,W2.H=H2/\Ok K W2/\Step W1 W2/\EnvR K W2 ZT ZW/\p8 c W2.L/\qB c g sb (its.drop i) ZT W2.L=some (o,ZY,Z5)):=⟨_,fun _ _ _=>Iff.rfl⟩
 refine⟨fun i m ZW H2=>m=its.length - i/\P i ZW H2,⟨its.length,by simp,(hP _ _ _).2 ⟨Wm _,W1,O,rfl,ok1,.refl,en.step ok s1,c1,by rw[ZK];exact e⟩⟩,?_⟩;rintro i m ZW H2 ⟨rfl,hi⟩;refine bq fun hG=>?_;obtain⟨hi,W2,ZT,rfl,ok2,s2,en2,c2,e2⟩:=(hP _ _ _).1 hi;obtain⟨hstop,hgo⟩:=hj W2 i ok2 c2 (r1.step ok1 s2);by_cases hlt:i<its.length
 ·have hd:its[i]?=some its[i]:=VA hlt;obtain⟨h1,h2⟩:=hgo _ hd;rw[V8 hlt] at e2;refine pK e2 fun p e3 e2=>?_;obtain⟨⟨o4,Zr,Zq⟩,e4,e2⟩:=bnd e2;refine(hG (.inr ⟨h1,P (i+1),fun ZZ H' hN=>⟨its.length - (i+1),by omega,rfl,hN⟩,fun x H' hy=>?_⟩));refine bq fun hF=>?_;obtain⟨W3,rfl,ZR,ok3,s3,r3⟩:=h2 x H' hy;refine hF ⟨W3,ZT,its[i],p.1,p.2,rfl,ok3,en2.step ok2 s3,r3,by rw[ZR];exact e3,fun W4 ZP ZC ok4 s4 en4=>⟨W4,p.1,o4,Zr,Zq,rfl,ok4,en4,by rw[ZC];exact e4,fun W5 Zn ZO ok5 s5 en5=>?_⟩⟩;have st:=s2.trans (s3.trans (s4.trans s5));cases o4 with
  |nx=>refine tq e2 fun hc5 e2=>?_;exact(hP _ _ _).2 ⟨hlt,W5,Zr,rfl,ok5,st,en5,by rw[ZO];exact hc5,by rw[ZO];exact e2⟩
  |ct=>refine tq e2 fun hc5 e2=>?_;exact(hP _ _ _).2 ⟨hlt,W5,Zr,rfl,ok5,st,en5,by rw[ZO];exact hc5,by rw[ZO];exact e2⟩
  |bk=>cases e2;exact q W5 Zn ZO ok5 (s1.trans st) en5
  |rt d=>cases e2;exact q W5 Zn ZO ok5 (s1.trans st) en5
 ·have e':i=its.length:=by omega
  subst e';rw[Wl (Vv _)] at e2;cases e2;exact hG (.inl ⟨hstop (Vv _),q W2 ZW rfl ok2 (s1.trans s2) en2⟩)
end
structure StepB (p:Addr) (W W':Wd):Prop where
 ρ:∀(k:Nat) a,W.ρ[k]?=some a->W'.ρ[k]?=some a
 live:∀a,RL W' a->RL W a\/W.H a=none
 keep:∀a o,a≠p->W.H a=some o->¬RL W a->W'.H a=some o
 hid:W'.hid=W.hid
 still:∀a,W.H a≠none->W'.H a≠none
section
variable {K:Frag} {W W' W'':Wd} {p:Addr}
theorem Step.b(s:Step W W'):StepB p W W':=⟨s.ρ,s.live,fun a o _ h n=>s.keep a o h n,s.hid,s.still⟩
theorem StepB.nlive(s:StepB p W W'){a:Addr}{o:HO}(h:W.H a=some o)(n:¬RL W a):¬RL W' a:=fun z=>by
 rcases s.live a z with z|z
 ·exact n z
 ·rw[h] at z;cases z
theorem StepB.trans(s:StepB p W W')(t:StepB p W' W''):StepB p W W'' where
 ρ k a h:=t.ρ k a (s.ρ k a h)
 live a h:=by
  rcases t.live a h with z|z
  ·exact s.live a z
  ·exact .inr (Ww fun n=>s.still a n z)
 keep a o hp h n:=t.keep a o hp (s.keep a o hp h n) (s.nlive h n)
 hid:=t.hid.trans s.hid
 still a h:=t.still a (s.still a h)
mutual
theorem DR.stepB(ok:Ok K W)(hp:W.hid p)(hl:∃ys,W.H p=some (.lst ys))(s:StepB p W W'):∀{d:D} {v:V},DR K W d v->DR K W' d v
 |_,_,.non=>.non
 |_,_,.bl b=>.bl b
 |_,_,.int i=>.int i
 |_,_,.str x=>.str x
 |_,_,.ref h=>.ref (s.ρ _ _ h)
 |_,_,.lst r n h=>.lst (s.keep _ _ (fun z=>n (.inr (by rw[z];exact hp))) r (fun z=>n (.inl z))) (fun z=>z.elim (s.nlive r (fun z=>n (.inl z))) (fun z=>n (.inr (by rw[s.hid] at z;exact z)))) (DRs.stepB ok hp hl s h)
 |_,_,.scr r h=>.scr (by
   rcases r with⟨o,r⟩|r
   ·obtain⟨ys,hl⟩:=hl;exact .inl ⟨o,s.keep _ _ (fun z=>by rw[z,hl] at r;cases r) r (ok.nofrz r)⟩
   ·exact .inr r) (DRs.stepB ok hp hl s h)
 |_,_,.tup r h=>.tup (by
   obtain⟨ys,hl⟩:=hl;exact s.keep _ _ (fun z=>by rw[z,hl] at r;cases r) r (ok.notup (.inl r))) (DRs.stepB ok hp hl s h)
 |_,_,.gt r h=>.gt (by
   rcases r with r|r
   ·have n:=ok.notup r;obtain⟨ys,hl⟩:=hl;rcases r with r|⟨o,r⟩
    ·exact .inl (.inl (s.keep _ _ (fun z=>by rw[z,hl] at r;cases r) r n))
    ·exact .inl (.inr ⟨o,s.keep _ _ (fun z=>by rw[z,hl] at r;cases r) r n⟩)
   ·exact .inr r) (DRs.stepB ok hp hl s h)
theorem DRs.stepB(ok:Ok K W)(hp:W.hid p)(hl:∃ys,W.H p=some (.lst ys))(s:StepB p W W'):∀{ds:List D} {vs:List V},DRs K W ds vs->DRs K W' ds vs
 |_,_,.nil=>.nil
 |_,_,.cons h t=>.cons (h.stepB ok hp hl s) (DRs.stepB ok hp hl s t)
end
theorem OR.stepB(ok:Ok K W)(hp:W.hid p)(hl:∃ys,W.H p=some (.lst ys))(s:StepB p W W'){a:Addr}{o:Z8}{ho:HO}(h:OR K W a o ho):OR K W' a o ho:=by
 cases o with
 |lst ds=>obtain⟨vs,e,q⟩:=h;exact⟨vs,e,q.stepB ok hp hl s⟩
 |dK kvs=>obtain⟨vs,e,q⟩:=h;exact⟨vs,e,Paired.mapP q fun _ _ ⟨e,q⟩=>⟨e,q.stepB ok hp hl s⟩⟩
 |dN kvs=>obtain⟨vs,e,q⟩:=h;exact⟨vs,e,Paired.mapP q fun _ _ ⟨e,q⟩=>⟨e,q.stepB ok hp hl s⟩⟩
 |ins C fs=>obtain⟨vs,e,q⟩:=h;exact⟨vs,e,Paired.mapP q fun _ _ ⟨e,q⟩=>⟨e,q.stepB ok hp hl s⟩⟩
 |exc C=>exact h
theorem EnvR.stepB{O:G}{B:St}(e:EnvR K W O B)(ok:Ok K W)(hp:W.hid p)(hl:∃ys,W.H p=some (.lst ys))(s:StepB p W W'):EnvR K W' O B:=⟨e.len,fun i d h=>let ⟨v,a,b⟩:=e.at_ i d h;⟨v,a,b.stepB ok hp hl s⟩⟩
def Wd.re(W:Wd)(p:Addr)(o:HO):Wd:={W with H:=upd W.H p o}
theorem uI{o:HO}:StepB p W (W.re p o) where
 ρ _ _ h:=h
 live _ h:=.inl h
 keep a u hp e _:=by show upd W.H p o a=_;rw[pW hp];exact e
 hid:=rfl
 still a n:=by
  show upd W.H p o a≠none;by_cases e:a=p
  ·subst e;rw[qG];simp
  ·rw[pW e];exact n
theorem Lb(ok:Ok K W)(hp:W.hid p)(hl:∃ys,W.H p=some (.lst ys)){o:HO}:Ok K (W.re p o) where
 len:=ok.len
 nd:=ok.nd
 rs a m:=(uI (W:=W) (p:=p) (o:=o)).still a (ok.rs a m)
 at_ k u e:=by
  obtain⟨a,ho,h1,h2,h3⟩:=ok.at_ k u e;have hne:a≠p:=fun z=>(ok.hd p hp).2 (z▸⟨k,u,e,h1⟩);exact⟨a,ho,h1,by show upd W.H p o a=_;rw[pW hne];exact h2,h3.stepB ok hp hl uI⟩
 hd0 a z:=⟨(uI (W:=W) (p:=p) (o:=o)).still a (ok.hd a z).1,(ok.hd0 a z).2⟩
mutual
theorem DR.hide(hp:W.H p=none)(ok:Ok K W){o:HO}:∀{d:D} {v:V},DR K W d v->DR K (W.hide p o) d v
 |_,_,.non=>.non
 |_,_,.bl b=>.bl b
 |_,_,.int i=>.int i
 |_,_,.str x=>.str x
 |_,_,.ref h=>.ref h
 |_,_,.lst r n h=>.lst (by show upd W.H p o _=_;rw[pW (rF r hp)];exact r) (fun z=>z.elim (fun z=>n (.inl z)) (fun z=>z.elim (fun z=>by rw[z,hp] at r;cases r) (fun z=>n (.inr z)))) (DRs.hide hp ok h)
 |_,_,.scr r h=>.scr (KM ok (qJ hp) r) (DRs.hide hp ok h)
 |_,_,.tup r h=>.tup (by show upd W.H p o _=_;rw[pW (rF r hp)];exact r) (DRs.hide hp ok h)
 |_,_,.gt r h=>.gt (Hq ok (qJ hp) r) (DRs.hide hp ok h)
theorem DRs.hide(hp:W.H p=none)(ok:Ok K W){o:HO}:∀{ds:List D} {vs:List V},DRs K W ds vs->DRs K (W.hide p o) ds vs
 |_,_,.nil=>.nil
 |_,_,.cons h t=>.cons (h.hide hp ok) (DRs.hide hp ok t)
end
theorem OR.hide(hp:W.H p=none)(ok:Ok K W){o:HO}{a:Addr}{x:Z8}{ho:HO}(h:OR K W a x ho):OR K (W.hide p o) a x ho:=by
 cases x with
 |lst ds=>obtain⟨vs,e,q⟩:=h;exact⟨vs,e,q.hide hp ok⟩
 |dK kvs=>obtain⟨vs,e,q⟩:=h;exact⟨vs,e,Paired.mapP q fun _ _ ⟨e,q⟩=>⟨e,q.hide hp ok⟩⟩
 |dN kvs=>obtain⟨vs,e,q⟩:=h;exact⟨vs,e,Paired.mapP q fun _ _ ⟨e,q⟩=>⟨e,q.hide hp ok⟩⟩
 |ins C fs=>obtain⟨vs,e,q⟩:=h;exact⟨vs,e,Paired.mapP q fun _ _ ⟨e,q⟩=>⟨e,q.hide hp ok⟩⟩
 |exc C=>exact h
theorem EnvR.hide{O:G}{B:St}(e:EnvR K W O B)(hp:W.H p=none)(ok:Ok K W){o:HO}:EnvR K (W.hide p o) O B:=⟨e.len,fun i d h=>let ⟨v,a,b⟩:=e.at_ i d h;⟨v,a,b.hide hp ok⟩⟩
theorem zk(ok:Ok K W)(hp:W.H p=none){o:HO}:Ok K (W.hide p o) where
 len:=ok.len
 nd:=ok.nd
 rs a m:=(qJ (o:=o) hp).still a (ok.rs a m)
 at_ k u e:=by
  obtain⟨a,ho,h1,h2,h3⟩:=ok.at_ k u e;exact⟨a,ho,h1,by show upd W.H p o a=_;rw[pW (rF h2 hp)];exact h2,h3.hide hp ok⟩
 hd0 a z:=by
  rcases z with rfl|z
  ·exact⟨by show upd W.H a o a≠none;rw[qG];simp,fun m=>ok.rs a m hp⟩
  ·exact⟨(qJ (o:=o) hp).still a (ok.hd a z).1,(ok.hd0 a z).2⟩
def Wd.show(W:Wd)(h:Addr->Prop):Wd:={W with hid:=h}
mutual
theorem DR.show{h:Addr->Prop}(hs:∀a,h a->W.hid a):∀{d:D} {v:V},DR K W d v->DR K (W.show h) d v
 |_,_,.non=>.non
 |_,_,.bl b=>.bl b
 |_,_,.int i=>.int i
 |_,_,.str x=>.str x
 |_,_,.ref h=>.ref h
 |_,_,.lst r n h=>.lst r (fun z=>n (z.elim .inl (fun z=>.inr (hs _ z)))) (DRs.show hs h)
 |_,_,.scr r h=>.scr r (DRs.show hs h)
 |_,_,.tup r h=>.tup r (DRs.show hs h)
 |_,_,.gt r h=>.gt r (DRs.show hs h)
theorem DRs.show{h:Addr->Prop}(hs:∀a,h a->W.hid a):∀{ds:List D} {vs:List V},DRs K W ds vs->DRs K (W.show h) ds vs
 |_,_,.nil=>.nil
 |_,_,.cons h t=>.cons (h.show hs) (DRs.show hs t)
end
theorem UN(ok:Ok K W){h:Addr->Prop}(hs:∀a,h a->W.hid a):Ok K (W.show h) where
 len:=ok.len
 nd:=ok.nd
 rs:=ok.rs
 at_ k u e:=by
  obtain⟨a,ho,h1,h2,h3⟩:=ok.at_ k u e;refine(⟨a,ho,h1,h2,?_⟩);cases u with
  |lst ds=>obtain⟨vs,e,q⟩:=h3;exact⟨vs,e,q.show hs⟩
  |dK kvs=>obtain⟨vs,e,q⟩:=h3;exact⟨vs,e,Paired.mapP q fun _ _ ⟨e,q⟩=>⟨e,q.show hs⟩⟩
  |dN kvs=>obtain⟨vs,e,q⟩:=h3;exact⟨vs,e,Paired.mapP q fun _ _ ⟨e,q⟩=>⟨e,q.show hs⟩⟩
  |ins C fs=>obtain⟨vs,e,q⟩:=h3;exact⟨vs,e,Paired.mapP q fun _ _ ⟨e,q⟩=>⟨e,q.show hs⟩⟩
  |exc C=>exact h3
 hd0 a z:=ok.hd0 a (hs a z)
theorem Uy{o:HO}(hp:W.H p=none)(s:StepB p (W.hide p o) W'):Step W (W'.show W.hid) where
 ρ k a h:=s.ρ k a h
 live a z:=by
  rcases s.live a z with z|z
  ·exact .inl z
  ·have z:upd W.H p o a=none:=z;by_cases e:a=p
   ·subst e;rw[qG] at z;cases z
   ·rw[pW e] at z;exact .inr z
 keep a u e n:=s.keep a u (rF e hp) (by show upd W.H p o a=_;rw[pW (rF e hp)];exact e) n
 hid:=rfl
 still a n:=s.still a (by
  show upd W.H p o a≠none;by_cases e:a=p
  ·subst e;rw[qG];simp
  ·rw[pW e];exact n)
theorem wu(ok:Ok K W)(hp:W.hid p):¬RL W p:=(ok.hd p hp).2
end
def qt(own:List Str)(cap:List (Str×Nat))(O:G):G:=own.map (fun _=>none)++cap.map fun p=>(O[p.2]?).join
theorem EnvR.cap{K:Frag}{W:Wd}{O:G}{B:St}(e:EnvR K W O B)(own:List Str)(cap:List (Str×Nat)):EnvR K W (qt own cap O) (rD own cap B) where
 len:=by simp[qt,rD]
 at_ i d h:=by
  unfold qt at h;unfold rD;by_cases hi:i<own.length
  ·rw[VL (by simpa using hi)] at h;simp[hi] at h
  ·rw[VV (by simpa using hi)] at h⊢;simp only[VF,VR] at h⊢;cases hc:cap[i - own.length]? with
   |none=>rw[hc] at h;cases h
   |some p=>
    rw[hc] at h;simp only[Option.map_some] at h⊢;cases hg:O[p.2]? with
    |none=>rw[hg] at h;cases h
    |some x=>
     rw[hg] at h;cases x with
     |none=>cases h
     |some d'=>
      cases h;obtain⟨v,hv,r⟩:=e.at_ _ _ hg;exact⟨v,by rw[hv];rfl,r⟩
def qF(c:Ck)(g:GV)(tc:BV)(te:EV):List D->G->M->Option (List D×M)
 | [],_,L=>some ([],L)
 |d::r,O,L=>(g d O L).bind fun p=>(tc p.1 p.2).bind fun t=>if t.1=true then(te p.1 t.2).bind fun v=>chk (p8 c v.2) ((qF c g tc te r p.1 v.2).bind fun q=>some (v.1::q.1,q.2)) else chk (p8 c t.2) (qF c g tc te r p.1 t.2)
def pY:BV:=fun _ L=>some (true,L)
section
variable {X:Cx} {K:Frag} {N' own:List Str} {cap:List (Str×Nat)} {scope:Scope} {tg iter elt:Expr} {ifs:List Expr} {pos:Pos} {iv:IV} {g:GV} {tc:BV} {te:EV}
theorem PP{t t':TT}(h:PIf X ifs t)(hi:∀B H Q,t' B H Q->t B H Q):PIf X ifs t':=fun pins s B H Q I hw=>h pins s B H Q I (hi _ _ _ hw)
theorem sY:PIf X [] (tDB K pY):=PP LS fun B H Q h=>by
 refine el4 h fun W O b Z5 eH ok en e q=>?_;subst eH;cases e;exact q W rfl ok .refl
theorem zU{c:Expr}(h:PT X c (tDB K tc)):PIf X [c] (tDB K tc):=QT h
theorem IR{W1:Wd}{Z6:It}{its:List D}{c:Ck}{ZF:G}{ZM:St}{rs:List D}{Z5:M}{p:Addr}{Z:Hp->Prop}(ok1:Ok K W1)(hp:W1.H p=none)(jr:JR K W1 Z6 its c)(en:EnvR K W1 ZF ZM)(hl:its.length<=1000000)
  (e:qF c g tc te its ZF W1.L=some (rs,Z5)) (hZ:∀W' ys,W'.L=Z5->Ok K W'->StepB p (W1.hide p (.lst [])) W'->W'.hid p->W'.H p=some (.lst ys)->DRs K W' rs ys->Z W'.H):
  yS Z6 (tDG K g) (tDB K tc) (tD K te) p ZM W1.H Z:=by
 obtain⟨c1,ds,vs,r1,hj⟩:=jr;obtain⟨P,hP⟩:∃P:Nat->St->Hp->Prop,∀i ZW H2,P i ZW H2↔(i<=its.length/\∃W2 ZT done pU ys,W2.H=H2/\Ok K W2/\StepB p (W1.hide p (.lst [])) W2/\W2.hid p/\W2.H p=some (.lst ys)/\DRs K W2 done ys/\ys.length<=i/\EnvR K W2 ZT ZW/\p8 c W2.L/\qF c g tc te (its.drop i) ZT W2.L=some (pU,Z5)/\done++pU=rs):=⟨_,fun _ _ _=>Iff.rfl⟩
 refine⟨fun i m ZW H2=>m=its.length - i/\P i ZW H2,?_,?_⟩
 ·exact⟨its.length,by simp,(hP _ _ _).2 ⟨Wm _,W1.hide p (.lst []),ZF,[],rs,[],rfl,zk ok1 hp,⟨fun _ _ h=>h,fun _ h=>.inl h,fun _ _ _ h _=>h,rfl,fun _ h=>h⟩,.inl rfl,qG,.nil,Vv _,en.hide hp ok1,c1,e,rfl⟩⟩
 rintro i m ZW H2 ⟨rfl,hi⟩;refine bq fun hG=>?_;obtain⟨hi,W2,ZT,done,pU,ys,rfl,ok2,s2,hp2,hy2,rd,hyl,en2,c2,e2,ed⟩:=(hP _ _ _).1 hi;have rj:DRs K W2 ds vs:=(r1.hide hp ok1).stepB (zk ok1 hp) (.inl rfl) ⟨[],qG⟩ s2;obtain⟨hstop,hgo⟩:=hj W2 i ok2 c2 rj;by_cases hlt:i<its.length
 ·have hd:its[i]?=some its[i]:=VA hlt;obtain⟨h1,h2⟩:=hgo _ hd;rw[V8 hlt] at e2;refine pK e2 fun pg e3 e2=>?_;refine pK e2 fun pt e4 e2=>?_;refine(hG (.inr ⟨h1,P (i+1),fun ZZ H' hN=>⟨its.length - (i+1),by omega,rfl,hN⟩,fun x H' hy=>?_⟩));refine bq fun hF=>?_;obtain⟨W3,rfl,ZR,ok3,s3,r3⟩:=h2 x H' hy;refine hF ⟨W3,ZT,its[i],pg.1,pg.2,rfl,ok3,en2.step ok2 s3,r3,by rw[ZR];exact e3,fun W4 ZP ZC ok4 s4 en4=>⟨W4,pg.1,pt.1,pt.2,rfl,ok4,en4,by rw[ZC];exact e4,fun W5 ZO ok5 s5=>?_⟩⟩;have s25:=s3.trans (s4.trans s5);split at e2
  ·rename_i ht;refine pK e2 fun pv e5 e2=>?_;refine tq e2 fun c5 e2=>?_;refine pK e2 fun pq e6 e2=>?_;cases e2;refine vD (fun _=>?_) (fun n=>absurd ht n);refine⟨W5,pg.1,pv.1,pv.2,rfl,ok5,en4.step ok4 s5,by rw[ZO];exact e5,fun v W6 Zw ok6 s6 r6=>?_⟩;have s26:=s25.trans s6;have hp6:W6.hid p:=by rw[s26.hid];exact hp2
   have hy6:W6.H p=some (.lst ys):=s26.keep _ _ hy2 (wu ok2 hp2);have rd6:=rd.step ok2 s26;refine⟨ys,hy6,yi (by omega),(hP _ _ _).2 ⟨hlt,W6.re p (.lst (ys++[v])),pg.1,done++[pv.1],pq.1,ys++[v],rfl,Lb ok6 hp6 ⟨_,hy6⟩,(s2.trans s26.b).trans uI,hp6,qG,?_,by simp;omega,(((en4.step ok4 s5).step ok5 s6).stepB ok6 hp6 ⟨_,hy6⟩ uI),by show p8 c W6.L;rw[Zw];exact c5,by show qF c g tc te _ _ W6.L=_;rw[Zw];exact e6,by simpa using ed⟩⟩;exact(rd6.append (.cons r6 .nil)).stepB ok6 hp6 ⟨_,hy6⟩ uI
  ·rename_i ht;refine tq e2 fun c5 e2=>?_;refine vD (fun n=>absurd n ht) (fun _=>?_);exact(hP _ _ _).2 ⟨hlt,W5,pg.1,done,pU,ys,rfl,ok5,s2.trans s25.b,by rw[s25.hid];exact hp2,s25.keep _ _ hy2 (wu ok2 hp2),rd.step ok2 s25,by omega,en4.step ok4 s5,by rw[ZO];exact c5,by rw[ZO];exact e2,ed⟩
 ·have e':i=its.length:=by omega
  subst e';rw[Wl (Vv _)] at e2;cases e2;rw[Wn] at ed;subst ed;exact hG (.inl ⟨hstop (Vv _),hZ W2 ys rfl ok2 s2 hp2 hy2 rd⟩)
def qO(own:List Str)(cap:List (Str×Nat))(iv:IV)(g:GV)(tc:BV)(te:EV):EV:=fun O L=>(iv O L).bind fun s=>if s.1.1.length<=1000000 then(qF s.1.2 g tc te s.1.1 (qt own cap O) s.2).bind fun q=>some (.lst q.1,q.2) else none
theorem Cv{W W1 W':Wd}{p:Addr}{rs:List D}{ys:List V}(s1:Step W W1)(hp:W1.H p=none)(ok1:Ok K W1)(ok':Ok K W')(s:StepB p (W1.hide p (.lst [])) W')(hp':W'.hid p)(hy:W'.H p=some (.lst ys))(r:DRs K W' rs ys):
  Ok K (W'.show W1.hid)/\Step W (W'.show W1.hid)/\DR K (W'.show W1.hid) (.lst rs) (.ref p):=by
 have hs:∀a,W1.hid a->W'.hid a:=fun a z=>by rw[s.hid];exact .inr z
 refine⟨UN ok' hs,s1.trans (Uy hp s),.lst hy (fun z=>?_) (r.show hs)⟩;rcases z with z|z
 ·exact wu ok' hp' z
 ·exact HI ok1 hp z
theorem Mx{W:Wd}{O:G}{B:St}{d:D}{Z5:M}(ok:Ok K W)(en:EnvR K W O B)(e:qO own cap iv g tc te O W.L=some (d,Z5)){Z:Addr->Hp->Prop}(q:∀v W',W'.L=Z5->Ok K W'->Step W W'->DR K W' d v->∀p,v=.ref p->Z p W'.H):
  tDI K iv B W.H fun Z6 H1=>∀p,H1 p=none->yS Z6 (tDG K g) (tDB K tc) (tD K te) p (rD own cap B) H1 (Z p):=by
 obtain⟨⟨⟨its,c⟩,Z4⟩,e1,e⟩:=bnd e;refine(⟨W,O,its,c,Z4,rfl,ok,en,e1,fun Z6 W1 ZK ok1 s1 jr p hp=>?_⟩);split at e
 ·rename_i hl;obtain⟨⟨rs,Z3⟩,e2,e⟩:=bnd e;cases e;refine IR ok1 hp jr ((en.step ok s1).cap own cap) hl (by rw[ZK];exact e2) fun W' ys Zk ok' s' hp' hy r=>?_;obtain⟨a1,a2,a3⟩:=Cv s1 hp ok1 ok' s' hp' hy r;exact(q _ (W'.show W1.hid) Zk a1 a2 a3 p rfl)
 ·cases e
theorem ub(S:CompScope X N' own cap scope)(hi:PI X tg iter (tDI K iv))
  (hg:∀cl C Z2 Z0 ex,PG (pR X N' scope cl C Z2 Z0 ex) tg (tDG K g)) (ht:∀cl C Z2 Z0 ex,PIf (pR X N' scope cl C Z2 Z0 ex) ifs (tDB K tc)) (he:∀cl C Z2 Z0 ex,PE (pR X N' scope cl C Z2 Z0 ex) elt (tD K te))
  (hx:∀e s,X.xe e s->False:=by exact fun _ _ z=>z) (hc:X.calm=true:=by rfl) (hs:∀x,foldedSetIterable iter X.env x=pure x:=by intro _;rfl):
  PE X (.ListComp elt [⟨tg,iter,ifs,0⟩] scope pos) (tD K (qO own cap iv g tc te)):=qb (P3 S hi hg ht he hx hc hs) fun B H Q h=>by
 refine el4 h fun W O d Z5 eH ok en e q=>?_;subst eH;exact Mx ok en e fun v W' h1 h2 h3 h4 p hv=>by subst hv;exact q _ W' h1 h2 h3 h4
end
open PyProof.Rows (envOfC)
def qr(n m:Nat)(es:SV):C0:=fun ds L=>if ds.length=m then(es (ds.map some++List.replicate (n - ds.length) none) L).bind fun o=>match o.1 with
  | .rt d=>some (d,o.2.2)
  | .nx=>some (.non,o.2.2)
  |_=>none
 else none
section
variable {P:Program} {w:World} {K:Frag} {mg:Str->Option Value} {base:Heap}
theorem GW{W:Wd}{ds:List D}{vs:List V}{n:Nat}(r:DRs K W ds vs):EnvR K W (ds.map some++List.replicate (n - ds.length) none) (vs.map some++List.replicate (n - vs.length) none) where
 len:=by simp[r.length]
 at_ i d h:=by
  by_cases hi:i<ds.length
  ·rw[VL (by simpa using hi)] at h;rw[VL (by simpa using r.length▸hi)];simp only[VR] at h⊢;cases hd:ds[i]? with
   |none=>rw[hd] at h;cases h
   |some d'=>
    rw[hd] at h;cases h;obtain⟨v,hv,q⟩:=r.get hd;exact⟨v,by rw[hv];rfl,q⟩
  ·rw[VV (by simpa using hi)] at h;simp[List.getElem?_replicate] at h
theorem qQ{x qual:Str}{st:Stmt}{f:Addr}{fd:FuncData}{N ps:List Str}{k:Nat}{es:SV}(F:Fun K x qual st f fd)(S:FnScope N ps (pN st))
  (hb:∀(cdv:Value) (A:Around) (outer:List Env) (s:Shared) (H:Hp) (E:XK),Room k (A.deeper (envOfC qual (pN st) s.heap.objs.size f cdv))->PSs (qh CX0 P w K mg base N qual (pN st) f cdv A outer s H E).nox (qf st) (tDS K es)):
  FnOk P w K mg base CX0 (k+1) f fd ps (spM K (qr N.length ps.length es)):=by
 refine F.ok S (fun vs H Q E h=>?_) (fun cdv A outer s H vs Q E hr h=>?_)
 ·obtain⟨W,ds,d,Z5,_,_,r,e,_⟩:=h;unfold qr at e;split at e
  ·rename_i hl;rw[←r.length];exact hl
  ·cases e
 ·obtain⟨W,ds,d,Z5,rfl,ok,r,e,q⟩:=h;refine⟨_,hb cdv A outer s W.H E hr,?_⟩;unfold qr at e;split at e
  ·obtain⟨⟨o,ZY,Z3⟩,e1,e⟩:=bnd e;refine⟨W,_,o,ZY,Z3,rfl,ok,GW r,e1,fun W' ZZ Z1 ok' s' en'=>?_⟩;cases o with
   |rt z=>cases e;exact fun v rv=>q v W' Z1 ok' s' rv
   |nx=>cases e;exact q _ W' Z1 ok' s' .non
   |bk=>cases e
   |ct=>cases e
  ·cases e
end
section
variable {X:Cx} {K:Frag} {a b c e:Expr} {ea eb ec:EV} {pos p:Pos}
theorem R2A.or{r r':R2}{f g h:D->D->M->Fr}(ra:R2A K r f)(rb:R2A K r' g)(hh:∀x y L z,h x y L=some z->f x y L=some z\/g x y L=some z):R2A K (fun x y H Q=>r x y H Q\/r' x y H Q) h:=by
 intro W x y d e z Z5 Q ok r1 r2 hf q;rcases hh _ _ _ _ hf with hf|hf
 ·exact .inl (ra W x y d e z Z5 Q ok r1 r2 hf q)
 ·exact .inr (rb W x y d e z Z5 Q ok r1 r2 hf q)
theorem ra_cat:R2A K Jm yu:=by
 intro W x y d e z Z5 Q ok r1 r2 hf q;refine pK hf fun xs hx hf=>?_;refine pK hf fun ys hy hf=>?_;split at hf
 ·rename_i hl;cases hf;obtain⟨a,vs,rfl,ha,hv⟩:=CY ok hx r1;obtain⟨b,us,rfl,hb,hu⟩:=CY ok hy r2;exact⟨a,b,vs,us,rfl,rfl,ha,hb,tP (by rw[←hv.length,←hu.length];omega),fun p hp=>q _ (W.lay p (.lst (vs++us))) rfl (rL ok hp) (qJ hp) (ym ok hp (hv.append hu))⟩
 ·cases hf
theorem Vf:R2A K Fk KJ:=by
 intro W x y d e z Z5 Q ok r1 r2 hf q;refine pK hf fun xs hx hf=>?_;split at hf
 ·split at hf
  ·rename_i hl;cases hf;cases r2;obtain⟨a,vs,rfl,ha,hv⟩:=CY ok hx r1;exact⟨a,_,vs,rfl,rfl,ha,by omega,by omega,tP (by rw[←hv.length];omega),fun p hp=>q _ (W.lay p _) rfl (rL ok hp) (qJ hp) (ym ok hp (hv.rep _))⟩
  ·cases hf
 ·cases hf
def zp(x y:D)(L:M):Fr:=match x with
 | .tup xs=>(uB y).bind fun ys=>if xs≠[]/\xs.length+ys.length<=1000000 then some (.tup (xs++ys),L) else none
 |_=>none
noncomputable instance{J:Type}{xs:List J}:Decidable (xs≠[]):=by cases xs<;>simp<;>infer_instance
theorem LP:R2A K (FO K) zp:=by
 intro W x y d e z Z5 Q ok r1 r2 hf q;unfold zp at hf;split at hf
 ·rename_i xs;refine pK hf fun ys hy hf=>?_;split at hf
  case isFalse=>cases hf
  rename_i hl;cases hf;have rr:=r1;obtain⟨a,vs,rfl,ha,hv⟩:=u5 (ds:=xs) rfl r1;obtain⟨b,us,rfl,hb,hu⟩:=u5 hy r2;refine⟨a,b,vs,us,rfl,rfl,ha,hb,fun z=>?_,tP (by rw[←hv.length,←hu.length];omega),fun z=>?_,fun _ p hp=>q _ (W.lay p (.tup (vs++us))) rfl (rL ok hp) (qJ hp) (uG ok hp (hv.append hu))⟩
  ·have:=hv.length;rw[z] at this;exact hl.1 (WG.mp this)
  ·have h0:=hu.length;rw[z] at h0;have h1:=WG.mp h0;subst h1;refine q _ W rfl ok .refl ?_;rw[Wn];exact rr
 ·cases hf
def qi(x y:D)(L:M):Fr:=match x with
 | .int i=>match y with
  | .int j=>some (.int (i+j),L)
  |_=>none
 | .tup _=>zp x y L
 |_=>yu x y L
theorem rm(ha:PE X a (tD K ea))(hb:PE X b (tD K eb))(hK:X.K=K:=by rfl):PE X (.BinOp a .Add b pos) (tD K (v2 qi ea eb)):=by
 subst hK;refine wC (op_add.or (op_cat.or QO)) ((vP (h:=fun i j=>.int (i+j)) fun _ _ _=>.int _).or (ra_cat.or LP (h:=fun x y L=>match x with| .tup _=>zp x y L|_=>yu x y L) fun x y L z h=>?_) fun x y L z h=>?_) ha hb
 ·split at h
  ·exact .inr h
  ·exact .inl h
 ·unfold qi at h;split at h
  ·split at h
   ·exact .inl h
   ·cases h
  ·exact .inr h
  ·rename_i h1 h2;refine .inr ?_;split
   ·exact absurd rfl (h2 _)
   ·exact h
def tF(x y:D)(L:M):Fr:=match x with
 | .int i=>match y with
  | .int j=>if CMul i j then some (.int (i*j),L) else none
  |_=>none
 |_=>KJ x y L
theorem zY(ha:PE X a (tD K ea))(hb:PE X b (tD K eb)):PE X (.BinOp a .Mult b pos) (tD K (v2 tF ea eb)):=by
 refine wC (op_mul.or Mo) ((AG (C:=CMul) (h:=fun i j=>.int (i*j)) fun _ _ _=>.int _).or Vf fun x y L z h=>?_) ha hb;unfold tF at h;split at h
 ·split at h
  ·exact .inl h
  ·cases h
 ·exact .inr h
def uj(f g:D->D->M->Fr)(ea eb ec:EV):EV:=fun O L=>(ea O L).bind fun p=>(eb O p.2).bind fun q=>(f p.1 q.1 q.2).bind fun t=>match t.1 with
 | .bl true=>(ec O t.2).bind fun r=>g q.1 r.1 r.2
 | .bl false=>some (.bl false,t.2)
 |_=>none
theorem Mm{r r':R2}{f g:D->D->M->Fr}(ra:R2A K r f)(rb:R2A K r' g):∀B H Q,tD K (uj f g ea eb ec) B H Q->Ht r r' (tD K ea) (tD K eb) (tD K ec) B H Q:=fun B H Q h=>by
 refine el4 h fun W O d Z5 eH ok en e q=>?_;subst eH;refine pK e fun p1 e1 e=>?_;refine pK e fun p2 e2 e=>?_;refine pK e fun p3 e3 e=>?_;refine⟨W,O,p1.1,p1.2,rfl,ok,en,e1,fun x W1 Z1 ok1 s1 r1=>⟨W1,O,p2.1,p2.2,rfl,ok1,en.step ok s1,by rw[Z1];exact e2,fun y W2 ZV ok2 s2 r2=>?_⟩⟩;refine ra W2 x y _ _ _ _ _ ok2 (r1.step ok1 s2) r2 (by rw[ZV];exact e3) fun v W3 ZR ok3 s3 r3=>?_;split at e
 ·rename_i hp;rw[hp] at r3;cases r3;refine pK e fun p4 e4 e=>?_;refine⟨true,rfl,C4 ⟨W3,O,p4.1,p4.2,rfl,ok3,((en.step ok s1).step ok1 s2).step ok2 s3,by rw[ZR];exact e4,fun z W4 ZC ok4 s4 r4=>?_⟩⟩;exact rb W4 y z _ _ _ _ _ ok4 ((r2.step ok2 s3).step ok3 s4) r4 (by rw[ZC];exact e) fun v5 W5 ZO ok5 s5 r5=>q v5 W5 ZO ok5 (s1.trans (s2.trans (s3.trans (s4.trans s5)))) r5
 ·rename_i hp;rw[hp] at r3;cases r3;cases e;exact⟨false,rfl,DT (q _ W3 ZR ok3 (s1.trans (s2.trans s3)) (.bl _))⟩
 ·cases e
theorem Ga{op op':CmpOp}{r r':R2}{f g:D->D->M->Fr}(ho:OpR X (compareOp op) r)(ra:R2A K r f)(ho':OpR X (compareOp op') r')(rb:R2A K r' g)(ha:PE X a (tD K ea))(hb:PE X b (tD K eb))(hc:PE X c (tD K ec))
  (hm:lastMarks [op,op'] [b,c]=false:=by with_unfolding_all rfl):PT X (.Compare a [op,op'] [b,c] pos) (tDB K (vT (uj f g ea eb ec))):=vo (UZ ho ho' ha hb hc hm) (Cm (Mm ra rb))
theorem JP:R2A K (rI0 fun i j=>.bl (decide (i<j))) fLt:=vP fun _ _ _=>.bl _
theorem HC:R2A K (rI0 fun i j=>.bl (decide (i<=j))) fLe:=vP fun _ _ _=>.bl _
end
section
variable {X:Cx} {K:Frag} {ea eb:EV} {pos p:Pos}
def vc(ds:List D):List D:=ds.zipIdx.map fun x=>D.tup [.int (x.2:Nat),x.1]
theorem UU{ds:List D}{i:Nat}{d:D}(h:(vc ds)[i]?=some d):∃x,ds[i]?=some x/\d=.tup [.int (i:Nat),x]:=by
 unfold vc at h;rw[VR] at h;simp only[List.getElem?_zipIdx] at h;cases hx:ds[i]? with
 |none=>rw[hx] at h;cases h
 |some x=>rw[hx] at h;simp at h;exact⟨x,rfl,h.symm⟩
def Ct(ea:EV):IV:=fun O L=>(ea O L).bind fun p=>(lsC p.2 p.1).bind fun s=>some ((vc s.1,s.2),p.2)
theorem Pc(ml:X.mg "enumerate"=none) {a:Expr} {elts:List Expr} {k:Nat} {tpos:Pos} (ha:PE X a (tD K ea)) (hg:Gl X "enumerate":=by rfl) (hs:starEach [a] X.env=[(false,eval a X.env)]:=by rfl) (hK:X.K=K:=by rfl):
  PI X (.Tuple elts k tpos) (.Call (.Name "enumerate" p) [a] [] pos) (tDI K (Ct ea)):=wB (iEn K ml ha hg hs hK) fun B H R h=>by
 refine el5 h fun W O its c Z5 eH ok en e q=>?_;subst eH;refine pK e fun p1 e1 e=>?_;obtain⟨⟨ds,c'⟩,e2,e⟩:=bnd e;cases e;refine(⟨W,O,p1.1,p1.2,rfl,ok,en,e1,fun v W1 Z1 ok1 s1 r1=>?_⟩);obtain⟨c0,a,rfl,hh⟩:=Eg ok1 (by rw[Z1];exact e2) r1;obtain⟨vs0,h0,_⟩:=hh W1 ok1 c0 r1;refine(⟨a,rfl,⟨_,h0⟩,q (Ite K a) W1 Z1 ok1 s1 ⟨c0,[p1.1],[.ref a],.cons r1 .nil,fun W2 i ok2 c2 r2=>?_⟩⟩);cases r2 with
 |cons r2 _=>
  obtain⟨vs,hs,hv⟩:=hh W2 ok2 c2 r2;refine⟨fun hi=>⟨vs,hs,by rw[←hv.length];simpa[vc] using hi⟩,fun d hd=>?_⟩;obtain⟨x,hx,rfl⟩:=UU hd;obtain⟨v,hv1,hv2⟩:=hv.get hx;refine(⟨⟨vs,v,hs,hv1⟩,fun y H' hy=>?_⟩);obtain⟨p,u,rfl,hp,rfl,hu⟩:=hy;have:=hu vs hs;rw[hv1] at this;cases this;exact⟨W2.lay p _,rfl,rfl,rL ok2 hp,qJ hp,uG ok2 hp (.cons (.int _) (.cons hv2 .nil))⟩
def so:List D->List D->List D
 |x::xs,y::ys=>.tup [x,y]::so xs ys
 |_,_=>[]
theorem HL:∀{xs ys:List D} {i:Nat} {d:D},(so xs ys)[i]?=some d->∃x y,xs[i]?=some x/\ys[i]?=some y/\d=.tup [x,y]
 | [],_,_,_,h=>by simp[so] at h
 |_::_,[],_,_,h=>by simp[so] at h
 |x::xs,y::ys,0,d,h=>by simp[so] at h;exact⟨x,y,rfl,rfl,h.symm⟩
 |x::xs,y::ys,i+1,d,h=>by simp only[so,List.getElem?_cons_succ] at h⊢;exact HL h
theorem FY:∀{xs ys:List D} {i:Nat},(so xs ys).length<=i->xs.length<=i\/ys.length<=i
 | [],_,_,_=>by simp
 |_::_,[],_,_=>by simp
 |x::xs,y::ys,0,h=>by simp[so] at h
 |x::xs,y::ys,i+1,h=>by
  simp only[so,VY,Nat.add_le_add_iff_right] at h⊢;exact FY h
def ivZ(ea eb:EV):IV:=fun O L=>(ea O L).bind fun p=>(eb O p.2).bind fun q=>match p.1,q.1 with
 | .lst xs,.lst ys=>some ((so xs ys,none),q.2)
 |_,_=>none
theorem TY(ml:X.mg "zip"=none) {a b:Expr} {elts:List Expr} {k:Nat} {tpos:Pos} (ha:PE X a (tD K ea)) (hb:PE X b (tD K eb)) (hg:Gl X "zip":=by rfl) (hs:starEach [a,b] X.env=[(false,eval a X.env),(false,eval b X.env)]:=by rfl) (hs2:starEach [b] X.env=[(false,eval b X.env)]:=by rfl) (hK:X.K=K:=by rfl):
  PI X (.Tuple elts k tpos) (.Call (.Name "zip" p) [a,b] [] pos) (tDI K (ivZ ea eb)):=wB (iZ K ml ha hb hg hs hs2 hK) fun B H R h=>by
 refine el5 h fun W O its c Z5 eH ok en e q=>?_;subst eH;refine pK e fun p1 e1 e=>?_;refine pK e fun p2 e2 e=>?_;split at e
 ·rename_i xs ys hx hy;cases e;refine⟨W,O,p1.1,p1.2,rfl,ok,en,e1,fun v W1 Z1 ok1 s1 r1=>⟨W1,O,p2.1,p2.2,rfl,ok1,en.step ok s1,by rw[Z1];exact e2,fun u W2 ZV ok2 s2 r2=>?_⟩⟩;rw[hx] at r1;rw[hy] at r2;have r1:=r1.step ok1 s2;have rr1:=r1;have rr2:=r2;cases r1 with
  |lst h1 n1 hs1=>
   cases r2 with
   |lst h2 n2 hs2=>
    rename_i a1 vs1 a2 vs2;refine⟨a1,a2,rfl,⟨_,SqL.of h1⟩,⟨_,SqL.of h2⟩,q (Itz K a1 a2) W2 ZV ok2 (s1.trans s2) ⟨trivial,[.lst xs,.lst ys],[.ref a1,.ref a2],.cons rr1 (.cons rr2 .nil),fun W3 i ok3 _ r3=>?_⟩⟩;cases r3 with
    |cons q1 r3=>
     cases r3 with
     |cons q2 _=>
      cases q1 with
      |lst g1 _ k1=>
       cases q2 with
       |lst g2 _ k2=>
        refine⟨fun hi=>⟨_,_,SqL.of g1,SqL.of g2,by rw[←k1.length,←k2.length];exact FY hi⟩,fun d hd=>?_⟩;obtain⟨x,y,hx1,hy1,rfl⟩:=HL hd;obtain⟨v1,hv1,rv1⟩:=k1.get hx1;obtain⟨v2,hv2,rv2⟩:=k2.get hy1;refine(⟨⟨_,_,v1,v2,SqL.of g1,SqL.of g2,hv1,hv2⟩,fun z H' hz=>?_⟩);obtain⟨p,w1,w2,rfl,hp,rfl,hw1,hw2⟩:=hz;have t1:=hw1 _ (SqL.of g1);have t2:=hw2 _ (SqL.of g2);rw[hv1] at t1;rw[hv2] at t2;cases t1;cases t2;exact(⟨W3.lay p _,rfl,rfl,rL ok3 hp,qJ hp,uG ok3 hp (.cons rv1 (.cons rv2 .nil))⟩)
 ·cases e
end
def t8(c:Ck)(g:GV)(tc:BV)(te:EV):List D->G->M->Option (List D×G×M)
 | [],O,L=>some ([],O,L)
 |d::r,O,L=>(g d O L).bind fun p=>(tc p.1 p.2).bind fun t=>if t.1=true then(te p.1 t.2).bind fun v=>chk (p8 c v.2) ((t8 c g tc te r p.1 v.2).bind fun q=>some (v.1::q.1,q.2)) else chk (p8 c t.2) (t8 c g tc te r p.1 t.2)
def su(c:Ck)(g:GV)(tc:BV)(iv2:IV)(g2:GV)(tc2:BV)(te:EV):List D->G->M->Option (List D×M)
 | [],_,L=>some ([],L)
 |d::r,O,L=>(g d O L).bind fun p=>(tc p.1 p.2).bind fun t=>if t.1=true then(iv2 p.1 t.2).bind fun s=>(t8 s.1.2 g2 tc2 te s.1.1 p.1 s.2).bind fun q=>chk (p8 c q.2.2) ((su c g tc iv2 g2 tc2 te r q.2.1 q.2.2).bind fun z=>some (q.1++z.1,z.2)) else chk (p8 c t.2) (su c g tc iv2 g2 tc2 te r p.1 t.2)
section
variable {X:Cx} {K:Frag} {N' own:List Str} {cap:List (Str×Nat)} {scope:Scope} {tg iter elt tg2 iter2:Expr} {ifs ifs2:List Expr} {pos:Pos} {iv iv2:IV} {g g2:GV} {tc tc2:BV} {te:EV}
theorem S7{W:Wd}{Z6:It}{its:List D}{c:Ck}{ZF:G}{ZM:St}{done0 rs:List D}{ys0:List V}{ZY:G}{Z5:M}{p:Addr}{Z:St->Hp->Prop}(ok:Ok K W)(hp:W.hid p)(hy:W.H p=some (.lst ys0))(rd0:DRs K W done0 ys0)(jr:JR K W Z6 its c)(en:EnvR K W ZF ZM)
  (e:t8 c g tc te its ZF W.L=some (rs,ZY,Z5)) (hl:done0.length+rs.length<=1000000) (hZ:∀W' ZZ ys,W'.L=Z5->Ok K W'->StepB p W W'->W'.hid p->W'.H p=some (.lst ys)->DRs K W' (done0++rs) ys->EnvR K W' ZY ZZ->Z ZZ W'.H):
  Co Z6 (tDG K g) (tDB K tc) (tD K te) p ZM W.H Z:=by
 obtain⟨c1,ds,vs,r1,hj⟩:=jr;obtain⟨P,hP⟩:∃P:Nat->St->Hp->Prop,∀i ZW H2,P i ZW H2↔(i<=its.length/\∃W2 ZT done pU ys,W2.H=H2/\Ok K W2/\StepB p W W2/\W2.hid p/\W2.H p=some (.lst ys)/\DRs K W2 done ys/\EnvR K W2 ZT ZW/\p8 c W2.L/\t8 c g tc te (its.drop i) ZT W2.L=some (pU,ZY,Z5)/\done++pU=done0++rs):=⟨_,fun _ _ _=>Iff.rfl⟩
 refine⟨fun i m ZW H2=>m=its.length - i/\P i ZW H2,?_,?_⟩
 ·exact⟨its.length,by simp,(hP _ _ _).2 ⟨Wm _,W,ZF,done0,rs,ys0,rfl,ok,Step.refl.b,hp,hy,rd0,en,c1,e,rfl⟩⟩
 rintro i m ZW H2 ⟨rfl,hi⟩;refine bq fun hG=>?_;obtain⟨hi,W2,ZT,done,pU,ys,rfl,ok2,s2,hp2,hy2,rd,en2,c2,e2,ed⟩:=(hP _ _ _).1 hi;have rj:DRs K W2 ds vs:=r1.stepB ok hp ⟨_,hy⟩ s2;obtain⟨hstop,hgo⟩:=hj W2 i ok2 c2 rj;by_cases hlt:i<its.length
 ·have hd:its[i]?=some its[i]:=VA hlt;obtain⟨h1,h2⟩:=hgo _ hd;rw[V8 hlt] at e2;refine pK e2 fun pg e3 e2=>?_;refine pK e2 fun pt e4 e2=>?_;refine(hG (.inr ⟨h1,P (i+1),fun ZZ H' hN=>⟨its.length - (i+1),by omega,rfl,hN⟩,fun x H' hy=>?_⟩));refine bq fun hF=>?_;obtain⟨W3,rfl,ZR,ok3,s3,r3⟩:=h2 x H' hy;refine hF ⟨W3,ZT,its[i],pg.1,pg.2,rfl,ok3,en2.step ok2 s3,r3,by rw[ZR];exact e3,fun W4 ZP ZC ok4 s4 en4=>⟨W4,pg.1,pt.1,pt.2,rfl,ok4,en4,by rw[ZC];exact e4,fun W5 ZO ok5 s5=>?_⟩⟩;have s25:=s3.trans (s4.trans s5);split at e2
  ·rename_i ht;refine pK e2 fun pv e5 e2=>?_;refine tq e2 fun c5 e2=>?_;obtain⟨⟨q1,Zd,Y8⟩,e6,e2⟩:=bnd e2;cases e2;refine(vD (fun _=>?_) (fun n=>absurd ht n));refine⟨W5,pg.1,pv.1,pv.2,rfl,ok5,en4.step ok4 s5,by rw[ZO];exact e5,fun v W6 Zw ok6 s6 r6=>?_⟩;have s26:=s25.trans s6;have hp6:W6.hid p:=by rw[s26.hid];exact hp2
   have hy6:W6.H p=some (.lst ys):=s26.keep _ _ hy2 (wu ok2 hp2);have rd6:=rd.step ok2 s26;have hlen:ys.length<1000000:=by
    have h1:=congrArg List.length ed;simp only[Wj,VY] at h1;rw[←rd.length];omega
   refine⟨ys,hy6,yi (by omega),(hP _ _ _).2 ⟨hlt,W6.re p (.lst (ys++[v])),pg.1,done++[pv.1],q1,ys++[v],rfl,Lb ok6 hp6 ⟨_,hy6⟩,(s2.trans s26.b).trans uI,hp6,qG,?_,(((en4.step ok4 s5).step ok5 s6).stepB ok6 hp6 ⟨_,hy6⟩ uI),by show p8 c W6.L;rw[Zw];exact c5,by show t8 c g tc te _ _ W6.L=_;rw[Zw];exact e6,by simpa using ed⟩⟩;exact(rd6.append (.cons r6 .nil)).stepB ok6 hp6 ⟨_,hy6⟩ uI
  ·rename_i ht;refine tq e2 fun c5 e2=>?_;refine vD (fun n=>absurd n ht) (fun _=>?_);exact(hP _ _ _).2 ⟨hlt,W5,pg.1,done,pU,ys,rfl,ok5,s2.trans s25.b,by rw[s25.hid];exact hp2,s25.keep _ _ hy2 (wu ok2 hp2),rd.step ok2 s25,en4.step ok4 s5,by rw[ZO];exact c5,by rw[ZO];exact e2,ed⟩
 ·have e':i=its.length:=by omega
  subst e';rw[Wl (Vv _)] at e2;cases e2;rw[Wn] at ed;subst ed;exact hG (.inl ⟨hstop (Vv _),hZ W2 ZW ys rfl ok2 s2 hp2 hy2 rd en2⟩)
theorem T7{W1:Wd}{Z6:It}{its:List D}{c:Ck}{ZF:G}{ZM:St}{rs:List D}{Z5:M}{p:Addr}{Z:Hp->Prop}(ok1:Ok K W1)(hp:W1.H p=none)(jr:JR K W1 Z6 its c)(en:EnvR K W1 ZF ZM)(hl:rs.length<=1000000)
  (e:su c g tc iv2 g2 tc2 te its ZF W1.L=some (rs,Z5)) (hZ:∀W' ys,W'.L=Z5->Ok K W'->StepB p (W1.hide p (.lst [])) W'->W'.hid p->W'.H p=some (.lst ys)->DRs K W' rs ys->Z W'.H):
  xh Z6 (tDG K g) (tDB K tc) (tDI K iv2) (tDG K g2) (tDB K tc2) (tD K te) p ZM W1.H Z:=by
 obtain⟨c1,ds,vs,r1,hj⟩:=jr;obtain⟨P,hP⟩:∃P:Nat->St->Hp->Prop,∀i ZW H2,P i ZW H2↔(i<=its.length/\∃W2 ZT done pU ys,W2.H=H2/\Ok K W2/\StepB p (W1.hide p (.lst [])) W2/\W2.hid p/\W2.H p=some (.lst ys)/\DRs K W2 done ys/\EnvR K W2 ZT ZW/\p8 c W2.L/\su c g tc iv2 g2 tc2 te (its.drop i) ZT W2.L=some (pU,Z5)/\done++pU=rs):=⟨_,fun _ _ _=>Iff.rfl⟩
 refine⟨fun i m ZW H2=>m=its.length - i/\P i ZW H2,?_,?_⟩
 ·exact⟨its.length,by simp,(hP _ _ _).2 ⟨Wm _,W1.hide p (.lst []),ZF,[],rs,[],rfl,zk ok1 hp,⟨fun _ _ h=>h,fun _ h=>.inl h,fun _ _ _ h _=>h,rfl,fun _ h=>h⟩,.inl rfl,qG,.nil,en.hide hp ok1,c1,e,rfl⟩⟩
 rintro i m ZW H2 ⟨rfl,hi⟩;refine bq fun hG=>?_;obtain⟨hi,W2,ZT,done,pU,ys,rfl,ok2,s2,hp2,hy2,rd,en2,c2,e2,ed⟩:=(hP _ _ _).1 hi;have rj:DRs K W2 ds vs:=(r1.hide hp ok1).stepB (zk ok1 hp) (.inl rfl) ⟨[],qG⟩ s2;obtain⟨hstop,hgo⟩:=hj W2 i ok2 c2 rj;by_cases hlt:i<its.length
 ·have hd:its[i]?=some its[i]:=VA hlt;obtain⟨h1,h2⟩:=hgo _ hd;rw[V8 hlt] at e2;refine pK e2 fun pg e3 e2=>?_;refine pK e2 fun pt e4 e2=>?_;refine(hG (.inr ⟨h1,P (i+1),fun ZZ H' hN=>⟨its.length - (i+1),by omega,rfl,hN⟩,fun x H' hy=>?_⟩));refine bq fun hF=>?_;obtain⟨W3,rfl,ZR,ok3,s3,r3⟩:=h2 x H' hy;refine hF ⟨W3,ZT,its[i],pg.1,pg.2,rfl,ok3,en2.step ok2 s3,r3,by rw[ZR];exact e3,fun W4 ZP ZC ok4 s4 en4=>⟨W4,pg.1,pt.1,pt.2,rfl,ok4,en4,by rw[ZC];exact e4,fun W5 ZO ok5 s5=>?_⟩⟩;have s25:=s3.trans (s4.trans s5);split at e2
  ·rename_i ht;obtain⟨⟨⟨its2,k2⟩,Y7⟩,e5,e2⟩:=bnd e2;obtain⟨⟨q1,Zd,Y8⟩,e6,e2⟩:=bnd e2;refine tq e2 fun c6 e2=>?_;refine pK e2 fun z e7 e2=>?_;cases e2;refine(vD (fun _=>?_) (fun n=>absurd ht n));refine⟨W5,pg.1,its2,k2,Y7,rfl,ok5,en4.step ok4 s5,by rw[ZO];exact e5,fun J2 W6 Zw ok6 s6 jr6=>?_⟩;have s26:=s25.trans s6;have hp6:W6.hid p:=by rw[s26.hid];exact hp2
   have hy6:W6.H p=some (.lst ys):=s26.keep _ _ hy2 (wu ok2 hp2);have hlen:done.length+q1.length<=1000000:=by
    have h1:=congrArg List.length ed;simp only[Wj] at h1;omega
   refine S7 ok6 hp6 hy6 (rd.step ok2 s26) jr6 ((en4.step ok4 s5).step ok5 s6) (by rw[Zw];exact e6) hlen fun W7 ZS ys7 Zm ok7 s7 hp7 hy7 rd7 en7=>?_;exact(hP _ _ _).2 ⟨hlt,W7,Zd,done++q1,z.1,ys7,rfl,ok7,(s2.trans s26.b).trans s7,hp7,hy7,rd7,en7,by rw[Zm];exact c6,by rw[Zm];exact e7,by simpa using ed⟩
  ·rename_i ht;refine tq e2 fun c5 e2=>?_;refine vD (fun n=>absurd n ht) (fun _=>?_);exact(hP _ _ _).2 ⟨hlt,W5,pg.1,done,pU,ys,rfl,ok5,s2.trans s25.b,by rw[s25.hid];exact hp2,s25.keep _ _ hy2 (wu ok2 hp2),rd.step ok2 s25,en4.step ok4 s5,by rw[ZO];exact c5,by rw[ZO];exact e2,ed⟩
 ·have e':i=its.length:=by omega
  subst e';rw[Wl (Vv _)] at e2;cases e2;rw[Wn] at ed;subst ed;exact hG (.inl ⟨hstop (Vv _),hZ W2 ys rfl ok2 s2 hp2 hy2 rd⟩)
def vg(own:List Str)(cap:List (Str×Nat))(iv:IV)(g:GV)(tc:BV)(iv2:IV)(g2:GV)(tc2:BV)(te:EV):EV:=fun O L=>(iv O L).bind fun s=>(su s.1.2 g tc iv2 g2 tc2 te s.1.1 (qt own cap O) s.2).bind fun q=>if q.1.length<=1000000 then some (.lst q.1,q.2) else none
theorem Jd{W:Wd}{O:G}{B:St}{d:D}{Z5:M}(ok:Ok K W)(en:EnvR K W O B)(e:vg own cap iv g tc iv2 g2 tc2 te O W.L=some (d,Z5)){Z:Addr->Hp->Prop}(q:∀v W',W'.L=Z5->Ok K W'->Step W W'->DR K W' d v->∀p,v=.ref p->Z p W'.H):
  tDI K iv B W.H fun Z6 H1=>∀p,H1 p=none->xh Z6 (tDG K g) (tDB K tc) (tDI K iv2) (tDG K g2) (tDB K tc2) (tD K te) p (rD own cap B) H1 (Z p):=by
 obtain⟨⟨⟨its,c⟩,Z4⟩,e1,e⟩:=bnd e;refine(⟨W,O,its,c,Z4,rfl,ok,en,e1,fun Z6 W1 ZK ok1 s1 jr p hp=>?_⟩);obtain⟨⟨rs,Z3⟩,e2,e⟩:=bnd e;split at e
 ·rename_i hl;cases e;refine T7 ok1 hp jr ((en.step ok s1).cap own cap) hl (by rw[ZK];exact e2) fun W' ys Zk ok' s' hp' hy r=>?_;obtain⟨a1,a2,a3⟩:=Cv s1 hp ok1 ok' s' hp' hy r;exact(q _ (W'.show W1.hid) Zk a1 a2 a3 p rfl)
 ·cases e
theorem Vq(S:CompScope X N' own cap scope)(hi:PI X tg iter (tDI K iv))
  (hg:∀cl C Z2 Z0 ex,PG (pR X N' scope cl C Z2 Z0 ex) tg (tDG K g)) (ht:∀cl C Z2 Z0 ex,PIf (pR X N' scope cl C Z2 Z0 ex) ifs (tDB K tc))
  (hi2:∀cl C Z2 Z0 ex,PI (pR X N' scope cl C Z2 Z0 ex) tg2 iter2 (tDI K iv2)) (hg2:∀cl C Z2 Z0 ex,PG (pR X N' scope cl C Z2 Z0 ex) tg2 (tDG K g2)) (ht2:∀cl C Z2 Z0 ex,PIf (pR X N' scope cl C Z2 Z0 ex) ifs2 (tDB K tc2))
  (he:∀cl C Z2 Z0 ex,PE (pR X N' scope cl C Z2 Z0 ex) elt (tD K te))
  (hx:∀e s,X.xe e s->False:=by exact fun _ _ z=>z) (hc:X.calm=true:=by rfl) (hs:∀x,foldedSetIterable iter X.env x=pure x:=by intro _;rfl) (hs2:∀cl C x,foldedSetIterable iter2 (compEnvC scope cl C X.env) x=pure x:=by intro _ _ _;rfl):
  PE X (.ListComp elt [⟨tg,iter,ifs,0⟩,⟨tg2,iter2,ifs2,0⟩] scope pos) (tD K (vg own cap iv g tc iv2 g2 tc2 te)):=qb (U6 S hi hg ht hi2 hg2 ht2 he hx hc hs hs2) fun B H Q h=>by
 refine el4 h fun W O d Z5 eH ok en e q=>?_;subst eH;exact Jd ok en e fun v W' h1 h2 h3 h4 p hv=>by subst hv;exact q _ W' h1 h2 h3 h4
theorem Uq{i:Nat}{y:Str}{py spos:Pos}(hN:X.N.Nodup)(hi':X.N[i]?=some y)(hy:X.env.scope.names.lookup y=some .local)(S:CompScope X N' own cap scope)(hi:PI X tg iter (tDI K iv))
  (hg:∀cl C Z2 Z0 ex,PG (pR X N' scope cl C Z2 Z0 ex) tg (tDG K g)) (ht:∀cl C Z2 Z0 ex,PIf (pR X N' scope cl C Z2 Z0 ex) ifs (tDB K tc))
  (hi2:∀cl C Z2 Z0 ex,PI (pR X N' scope cl C Z2 Z0 ex) tg2 iter2 (tDI K iv2)) (hg2:∀cl C Z2 Z0 ex,PG (pR X N' scope cl C Z2 Z0 ex) tg2 (tDG K g2)) (ht2:∀cl C Z2 Z0 ex,PIf (pR X N' scope cl C Z2 Z0 ex) ifs2 (tDB K tc2))
  (he:∀cl C Z2 Z0 ex,PE (pR X N' scope cl C Z2 Z0 ex) elt (tD K te))
  (hsw:swapsWith (.ListComp elt [⟨tg,iter,ifs,0⟩,⟨tg2,iter2,ifs2,0⟩] scope pos) (some (.Name y py)) spos.line X.env=pure true:=by rfl)
  (hx:∀e s,X.xe e s->False:=by exact fun _ _ z=>z) (hc:X.calm=true:=by rfl) (hs:∀x,foldedSetIterable iter X.env x=pure x:=by intro _;rfl) (hs2:∀cl C x,foldedSetIterable iter2 (compEnvC scope cl C X.env) x=pure x:=by intro _ _ _;rfl):
  PS X (.Assign [.Name y py] (.ListComp elt [⟨tg,iter,ifs,0⟩,⟨tg2,iter2,ifs2,0⟩] scope pos) spos) (tDS K (pX (vg own cap iv g tc iv2 g2 tc2 te) (pJ i))):=rH (NN hN hi' hy S hi hg ht hi2 hg2 ht2 he hsw hx hc hs hs2) fun D B H h=>by
 refine el5 h fun W O o ZY Z5 eH ok en e q=>?_;subst eH;refine pK e fun p1 e1 e=>?_;cases e;exact Jd (Z:=fun p H2=>D.nx (B.set i (some (.ref p))) H2) ok en e1 fun v W' h1 h2 h3 h4 p hv=>by subst hv;exact q W' _ h1 h2 h3 ((en.step ok h3).set h4 i)
end
def bs{J β:Type}{a:J}{f:J->Option β}:(some a).bind f=f a:=rfl
theorem vh{J β γ:Type}{f:β->Option γ}{g:J->β}{h:J->γ}:∀{l:List J},(∀x∈l,f (g x)=some (h x))->qd f (l.map g)=some (l.map h)
 | [],_=>rfl
 |x::r,e=>by
  have e1:=e x (by simp);have e2:=vh (l:=r) fun y hy=>e y (by simp[hy]);simp only[VB,qd,e1,e2,bs]
section
variable {O:G} {L Z4 Z3:M} {ea eb:EV} {x y d:D} {f:D->D->M->Fr} {f1:D->M->Fr} {i:Nat}
theorem Kz(h:O[i]?=some (some d)):be i O L=some (d,L):=by unfold be;rw[h]
theorem e_2(h1:ea O L=some (x,Z4))(h2:eb O Z4=some (y,Z3)):v2 f ea eb O L=f x y Z3:=by unfold v2;rw[h1,bs,h2,bs]
theorem e_1(h1:ea O L=some (x,Z4)):v1 f1 ea O L=f1 x Z4:=by unfold v1;rw[h1,bs]
end
def wy(b:SV):Option (Out×G×M)->Option (Out×G×M)
 |some (.nx,O,L)=>b O L
 |x=>x
@[simp] theorem vX{b:SV}{O:G}{L:M}:wy b (some (.nx,O,L))=b O L:=rfl
@[simp] theorem kSeq_rt{b:SV}{d:D}{O:G}{L:M}:wy b (some (.rt d,O,L))=some (.rt d,O,L):=rfl
@[simp] theorem kSeq_bk{b:SV}{O:G}{L:M}:wy b (some (.bk,O,L))=some (.bk,O,L):=rfl
@[simp] theorem kSeq_ct{b:SV}{O:G}{L:M}:wy b (some (.ct,O,L))=some (.ct,O,L):=rfl
@[simp] theorem sk{a b:SV}{O:G}{L:M}:pM a b O L=wy b (a O L):=by
 unfold pM wy;cases h:a O L with
 |none=>rfl
 |some o=>obtain⟨o1,ZX,Z4⟩:=o;cases o1<;>rfl
section
variable {O:G} {L:M} {ea eb ec:EV} {ba bb:BV} {el:LV} {sa sb:SV} {i j:Nat} {d x y:D} {ds:List D} {b:Bool}
@[simp] theorem vVar_eq:be i O L=match O[i]? with
 |some (some d)=>some (d,L)
 |_=>none:=rfl
@[simp] theorem vC_eq:vC d O L=some (d,L):=rfl
def kV1(f:D->M->Fr):Fr->Fr
 |some (x,L)=>f x L
 |none=>none
@[simp] theorem kV1_s{f:D->M->Fr}:kV1 f (some (x,L))=f x L:=rfl
@[simp] theorem v1_eq{f:D->M->Fr}:v1 f ea O L=kV1 f (ea O L):=by
 unfold v1 kV1;cases ea O L<;>rfl
def wE(f:D->D->M->Fr)(x:D):Fr->Fr
 |some (y,L)=>f x y L
 |none=>none
@[simp] theorem kV2b_s{f:D->D->M->Fr}:wE f x (some (y,L))=f x y L:=rfl
def kV2(f:D->D->M->Fr)(eb:EV)(O:G):Fr->Fr
 |some (x,L)=>wE f x (eb O L)
 |none=>none
@[simp] theorem kV2_s{f:D->D->M->Fr}:kV2 f eb O (some (x,L))=wE f x (eb O L):=rfl
@[simp] theorem v2_eq{f:D->D->M->Fr}:v2 f ea eb O L=kV2 f eb O (ea O L):=by
 unfold v2 kV2;cases ea O L with
 |none=>rfl
 |some p=>show(eb O p.2).bind _=wE f p.1 (eb O p.2);cases eb O p.2<;>rfl
def kT:Fr->Option (Bool×M)
 |some (.bl b,L)=>some (b,L)
 |_=>none
@[simp] theorem kT_s:kT (some (.bl b,L))=some (b,L):=rfl
@[simp] theorem Jx:vT ea O L=kT (ea O L):=by
 unfold vT kT;cases ea O L with
 |none=>rfl
 |some p=>obtain⟨p1,p2⟩:=p;cases p1<;>rfl
def Dr(bb:BV)(O:G):Option (Bool×M)->Option (Bool×M)
 |some (c,L)=>if c=true then bb O L else some (false,L)
 |none=>none
@[simp] theorem kAnd_s{c:Bool}:Dr bb O (some (c,L))=if c=true then bb O L else some (false,L):=rfl
@[simp] theorem bAnd_eq:tm ba bb O L=Dr bb O (ba O L):=by unfold tm Dr;cases ba O L<;>rfl
def kOr(bb:BV)(O:G):Option (Bool×M)->Option (Bool×M)
 |some (c,L)=>if c=true then some (true,L) else bb O L
 |none=>none
@[simp] theorem kOr_s{c:Bool}:kOr bb O (some (c,L))=if c=true then some (true,L) else bb O L:=rfl
@[simp] theorem bOr_eq:bOr ba bb O L=kOr bb O (ba O L):=by unfold bOr kOr;cases ba O L<;>rfl
def BC:Option (Bool×M)->Option (Bool×M)
 |some (c,L)=>some (!c,L)
 |none=>none
@[simp] theorem kNot_s{c:Bool}:BC (some (c,L))=some (!c,L):=rfl
@[simp] theorem bNot_eq:sR ba O L=BC (ba O L):=by unfold sR BC;cases ba O L<;>rfl
def kIf(ea eb:EV)(O:G):Option (Bool×M)->Fr
 |some (c,L)=>if c=true then ea O L else eb O L
 |none=>none
@[simp] theorem kIf_s{c:Bool}:kIf ea eb O (some (c,L))=if c=true then ea O L else eb O L:=rfl
@[simp] theorem HD:vIf ba ea eb O L=kIf ea eb O (ba O L):=by unfold vIf kIf;cases ba O L<;>rfl
def BY(sa sb:SV)(O:G):Option (Bool×M)->Option (Out×G×M)
 |some (c,L)=>if c=true then sa O L else sb O L
 |none=>none
@[simp] theorem kSIf_s{c:Bool}:BY sa sb O (some (c,L))=if c=true then sa O L else sb O L:=rfl
@[simp] theorem vU:sIf ba sa sb O L=BY sa sb O (ba O L):=by unfold sIf BY;cases ba O L<;>rfl
def AX(eb:EV)(O:G):Fr->Fr
 |some (.bl c,L)=>if c=true then some (.bl true,L) else eb O L
 |_=>none
@[simp] theorem kVOr_s{c:Bool}:AX eb O (some (.bl c,L))=if c=true then some (.bl true,L) else eb O L:=rfl
@[simp] theorem MI:vOr ea eb O L=AX eb O (ea O L):=by
 unfold vOr AX;cases ea O L with
 |none=>rfl
 |some p=>
  obtain⟨p1,p2⟩:=p;cases p1 with
  |bl c=>cases c<;>rfl
  |_=>rfl
@[simp] theorem lNil_eq:pI O L=some ([],L):=rfl
def Av(x:D):Option (List D×M)->Option (List D×M)
 |some (r,L)=>some (x::r,L)
 |none=>none
@[simp] theorem kLc2_s{r:List D}:Av x (some (r,L))=some (x::r,L):=rfl
def kLc(el:LV)(O:G):Fr->Option (List D×M)
 |some (x,L)=>Av x (el O L)
 |none=>none
@[simp] theorem kLc_s:kLc el O (some (x,L))=Av x (el O L):=rfl
@[simp] theorem lCons_eq:pG ea el O L=kLc el O (ea O L):=by
 unfold pG kLc;cases ea O L with
 |none=>rfl
 |some p=>show(el O p.2).bind _=Av p.1 (el O p.2);cases el O p.2<;>rfl
def kL(f:C0):Option (List D×M)->Fr
 |some (r,L)=>f r L
 |none=>none
@[simp] theorem kL_s{f:C0}{r:List D}:kL f (some (r,L))=f r L:=rfl
@[simp] theorem vL_eq{f:C0}:vL f el O L=kL f (el O L):=by unfold vL kL;cases el O L<;>rfl
@[simp] theorem sNx_eq:sNx O L=some (.nx,O,L):=rfl
def kEx(O:G):Fr->Option (Out×G×M)
 |some (_,L)=>some (.nx,O,L)
 |none=>none
@[simp] theorem kEx_s:kEx O (some (x,L))=some (.nx,O,L):=rfl
@[simp] theorem zO:sK ea O L=kEx O (ea O L):=by unfold sK kEx;cases ea O L<;>rfl
def kRt(O:G):Fr->Option (Out×G×M)
 |some (x,L)=>some (.rt x,O,L)
 |none=>none
@[simp] theorem kRt_s:kRt O (some (x,L))=some (.rt x,O,L):=rfl
@[simp] theorem xt:pT ea O L=kRt O (ea O L):=by unfold pT kRt;cases ea O L<;>rfl
def kG:Option (G×M)->Option (Out×G×M)
 |some (O,L)=>some (.nx,O,L)
 |none=>none
@[simp] theorem kG_s:kG (some (O,L))=some (.nx,O,L):=rfl
def kAs(g:GV)(O:G):Fr->Option (Out×G×M)
 |some (x,L)=>kG (g x O L)
 |none=>none
@[simp] theorem kAs_s{g:GV}:kAs g O (some (x,L))=kG (g x O L):=rfl
@[simp] theorem Ci{g:GV}:pX ea g O L=kAs g O (ea O L):=by
 unfold pX kAs;cases ea O L with
 |none=>rfl
 |some p=>show(g p.1 O p.2).bind _=kG (g p.1 O p.2);cases g p.1 O p.2<;>rfl
@[simp] theorem gvName_eq:pJ i d O L=some (O.set i (some d),L):=rfl
@[simp] theorem gvNil_eq:qA [] O L=some (O,L):=rfl
def kGs(gs:GsV)(ds:List D):Option (G×M)->Option (G×M)
 |some (O,L)=>gs ds O L
 |none=>none
@[simp] theorem kGs_s{gs:GsV}:kGs gs ds (some (O,L))=gs ds O L:=rfl
@[simp] theorem gvCons_eq{g:GV}{gs:GsV}:pS g gs (d::ds) O L=kGs gs ds (g d O L):=by
 show(g d O L).bind _=_;unfold kGs;cases g d O L<;>rfl
@[simp] theorem gvTup_eq{n:Nat}{gs:GsV}:qm n gs (.tup ds) O L=if ds.length=n then gs ds O L else none:=rfl
def kOn(L:M)(k:Nat):Option (D×List D)->Fr
 |some (d,l)=>some (d,L.set k (some (.lst l)))
 |none=>none
@[simp] theorem B2{l:List D}:kOn L i (some (d,l))=some (d,L.set i (some (.lst l))):=rfl
def yB(O:G):Fr->Option (G×M)
 |some (_,L)=>some (O,L)
 |none=>none
@[simp] theorem kSb3_s:yB O (some (x,L))=some (O,L):=rfl
def sbF(d:D)(j:Int)(ds:List D):Option (D×List D):=(ixN ds.length j).bind fun jj=>some (.non,ds.set jj d)
theorem BS{j:Int}{jj:Nat}(h:ixN ds.length j=some jj):sbF d j ds=some (.non,ds.set jj d):=by unfold sbF;rw[h];rfl
@[simp] theorem sbF_0:sbF d 0 (x::ds)=some (.non,d::ds):=by
 refine BS (jj:=0) ?_;unfold ixN;rw[if_pos (by omega),if_pos (by simp only[VY];omega)];rfl
@[simp] theorem sbF_1:sbF d 1 (x::y::ds)=some (.non,x::d::ds):=by
 refine BS (jj:=1) ?_;unfold ixN;rw[if_pos (by omega),if_pos (by simp only[VY];omega)];rfl
@[simp] theorem sbF_2{z:D}:sbF d 2 (x::y::z::ds)=some (.non,x::y::d::ds):=by
 refine BS (jj:=2) ?_;unfold ixN;rw[if_pos (by omega),if_pos (by simp only[VY];omega)];rfl
def zl(d:D)(O:G)(o:D):Fr->Option (G×M)
 |some (.int j,L)=>yB O (onL o L (sbF d j))
 |_=>none
@[simp] theorem kSb2_s{j:Int}:zl d O x (some (.int j,L))=yB O (onL x L (sbF d j)):=rfl
def kSb(d:D)(ei:EV)(O:G):Fr->Option (G×M)
 |some (o,L)=>zl d O o (ei O L)
 |none=>none
@[simp] theorem kSb_s{ei:EV}:kSb d ei O (some (x,L))=zl d O x (ei O L):=rfl
@[simp] theorem gvSub_eq{eo ei:EV}:yh eo ei d O L=kSb d ei O (eo O L):=by
 unfold yh kSb;cases eo O L with
 |none=>rfl
 |some p=>
  show(ei O p.2).bind _=zl d O p.1 (ei O p.2);cases ei O p.2 with
  |none=>rfl
  |some q=>
   obtain⟨q1,q2⟩:=q;cases q1 with
   |int j=>
    show(onL p.1 q2 _).bind _=yB O (onL p.1 q2 (sbF d j));have e:(fun ds=>(ixN ds.length j).bind fun jj=>some (D.non,ds.set jj d))=sbF d j:=rfl;rw[e];unfold yB;cases onL p.1 q2 (sbF d j)<;>rfl
   |_=>rfl
@[simp] theorem oNone_eq:sB O L=some (none,L):=rfl
def kTr(L:M):Option Bool->Option (Bool×M)
 |some b=>some (b,L)
 |none=>none
@[simp] theorem kTr_s:kTr L (some b)=some (b,L):=rfl
def yJ:Fr->Option (Bool×M)
 |some (x,L)=>kTr L (tru L x)
 |none=>none
@[simp] theorem kTru_s:yJ (some (x,L))=kTr L (tru L x):=rfl
@[simp] theorem KK:qS ea O L=yJ (ea O L):=by
 unfold qS yJ;cases ea O L with
 |none=>rfl
 |some p=>show(tru p.2 p.1).bind _=kTr p.2 (tru p.2 p.1);cases tru p.2 p.1<;>rfl
def AF:Fr->Fr
 |some (.ref k,L)=>match L[k]? with
  |some (some (.lst ds))=>some (.lst ds,L.set k none)
  |_=>none
 |_=>none
theorem N6(h:L[i]?=some (some (.lst ds))):AF (some (.ref i,L))=some (.lst ds,L.set i none):=by simp only[AF,h]
@[simp] theorem Md:zX ea O L=AF (ea O L):=by
 unfold zX AF;cases ea O L with
 |none=>rfl
 |some p=>obtain⟨p1,p2⟩:=p;cases p1<;>rfl
def DW(g:GV)(body:SV)(O:G):Option ((List D×Ck)×M)->Option (Out×G×M)
 |some ((its,c),L)=>qB c g body its O L
 |none=>none
@[simp] theorem wG{g:GV}{c:Ck}:DW g sa O (some ((ds,c),L))=qB c g sa ds O L:=rfl
@[simp] theorem wb{iv:IV}{g:GV}:rK iv g sa O L=DW g sa O (iv O L):=by unfold rK DW;cases iv O L<;>rfl
def kI2(L:M):Option (List D×Ck)->Option ((List D×Ck)×M)
 |some s=>some (s,L)
 |none=>none
@[simp] theorem kI2_s{s:List D×Ck}:kI2 L (some s)=some (s,L):=rfl
def kI:Fr->Option ((List D×Ck)×M)
 |some (x,L)=>kI2 L (lsC L x)
 |none=>none
@[simp] theorem kI_s:kI (some (x,L))=kI2 L (lsC L x):=rfl
@[simp] theorem ivL_eq:ivL ea O L=kI (ea O L):=by
 unfold ivL kI;cases ea O L with
 |none=>rfl
 |some p=>show(lsC p.2 p.1).bind _=kI2 p.2 (lsC p.2 p.1);cases lsC p.2 p.1<;>rfl
def kIR:Fr->Option ((List D×Ck)×M)
 |some (.int j,L)=>if -1000000000<=j/\j<=1000000000 then some ((qq 0 j.toNat,none),L) else none
 |_=>none
@[simp] theorem kIR_s{j:Int}:kIR (some (.int j,L))=if -1000000000<=j/\j<=1000000000 then some ((qq 0 j.toNat,none),L) else none:=rfl
@[simp] theorem ivR_eq:ivR ea O L=kIR (ea O L):=by
 unfold ivR kIR;cases ea O L with
 |none=>rfl
 |some p=>obtain⟨p1,p2⟩:=p;cases p1<;>rfl
def zR(x:D):Fr->Option ((List D×Ck)×M)
 |some (y,L)=>match x,y with
  | .int i,.int j=>if(-1000000000<=i/\i<=1000000000)/\-1000000000<=j/\j<=1000000000 then some ((qq i (j - i).toNat,none),L) else none
  |_,_=>none
 |none=>none
@[simp] theorem RW{i j:Int}:zR (.int i) (some (.int j,L))=if(-1000000000<=i/\i<=1000000000)/\-1000000000<=j/\j<=1000000000 then some ((qq i (j - i).toNat,none),L) else none:=rfl
def Cp(eb:EV)(O:G):Fr->Option ((List D×Ck)×M)
 |some (x,L)=>zR x (eb O L)
 |none=>none
@[simp] theorem SS:Cp eb O (some (x,L))=zR x (eb O L):=rfl
@[simp] theorem NB:yF ea eb O L=Cp eb O (ea O L):=by
 unfold yF Cp;cases ea O L with
 |none=>rfl
 |some p=>show(eb O p.2).bind _=zR p.1 (eb O p.2);cases eb O p.2<;>rfl
@[simp] theorem bYes_eq:pY O L=some (true,L):=rfl
def A5(g:D->D->M->Fr)(ec:EV)(O:G)(y:D):Fr->Fr
 |some (.bl c,L)=>if c=true then wE g y (ec O L) else some (.bl false,L)
 |_=>none
@[simp] theorem kCh3_s{g:D->D->M->Fr}{c:Bool}:A5 g ec O y (some (.bl c,L))=if c=true then wE g y (ec O L) else some (.bl false,L):=rfl
def AS(f g:D->D->M->Fr)(ec:EV)(O:G)(x:D):Fr->Fr
 |some (y,L)=>A5 g ec O y (f x y L)
 |none=>none
@[simp] theorem kCh2_s{f g:D->D->M->Fr}:AS f g ec O x (some (y,L))=A5 g ec O y (f x y L):=rfl
def kCh(f g:D->D->M->Fr)(eb ec:EV)(O:G):Fr->Fr
 |some (x,L)=>AS f g ec O x (eb O L)
 |none=>none
@[simp] theorem kCh_s{f g:D->D->M->Fr}:kCh f g eb ec O (some (x,L))=AS f g ec O x (eb O L):=rfl
@[simp] theorem vChain_eq{f g:D->D->M->Fr}:uj f g ea eb ec O L=kCh f g eb ec O (ea O L):=by
 unfold uj kCh;cases ea O L with
 |none=>rfl
 |some p=>
  show(eb O p.2).bind _=AS f g ec O p.1 (eb O p.2);cases eb O p.2 with
  |none=>rfl
  |some q=>
   show(f p.1 q.1 q.2).bind _=A5 g ec O q.1 (f p.1 q.1 q.2);cases f p.1 q.1 q.2 with
   |none=>rfl
   |some t=>
    obtain⟨t1,t2⟩:=t;cases t1 with
    |bl c=>
     cases c with
     |true=>show(ec O t2).bind _=wE g q.1 (ec O t2);cases ec O t2<;>rfl
     |false=>rfl
    |_=>rfl
def kNB(L:M):Option Bool->Fr
 |some b=>some (.bl (!b),L)
 |none=>none
@[simp] theorem kNB_s:kNB L (some b)=some (.bl (!b),L):=rfl
def kD(L:M):Option D->Fr
 |some d=>some (d,L)
 |none=>none
@[simp] theorem kD_s:kD L (some d)=some (d,L):=rfl
@[simp] theorem fI0_eq{g:Int->Int->D}{i j:Int}:fI0 g (.int i) (.int j) L=some (g i j,L):=rfl
@[simp] theorem fI_eq{C:Int->Int->Prop} [∀i j,Decidable (C i j)]{g:Int->Int->D}{i j:Int}:fI C g (.int i) (.int j) L=if C i j then some (g i j,L) else none:=rfl
@[simp] theorem fNeg_eq{i:Int}:vw (.int i) L=some (.int (-i),L):=rfl
@[simp] theorem fNot_eq{b:Bool}:Gj (.bl b) L=some (.bl (!b),L):=rfl
@[simp] theorem fPlus_int{i j:Int}:qi (.int i) (.int j) L=some (.int (i+j),L):=rfl
@[simp] theorem fTimes_int{i j:Int}:tF (.int i) (.int j) L=if CMul i j then some (.int (i*j),L) else none:=rfl
@[simp] theorem QW{b:Bool}:xY (.bl b) L=some (.int (if b then 1 else 0),L):=rfl
@[simp] theorem fNe_eq:fNe x y L=kNB L (eqD x y L):=by unfold fNe kNB;cases eqD x y L<;>rfl
@[simp] theorem KN{i j:Int}:eqD (.int i) (.int j) L=some (decide (i=j)):=rfl
@[simp] theorem eqD_str{a b:Str}:eqD (.str a) (.str b) L=if PyData.strOk a&&PyData.strOk b then some (decide (a=b)) else none:=rfl
@[simp] theorem lsOf_lst:qE L (.lst ds)=some ds:=rfl
@[simp] theorem lsOf_scr:qE L (.scr ds)=some ds:=rfl
@[simp] theorem lsOf_tup:qE L (.tup ds)=none:=rfl
@[simp] theorem tpOf_tup:uB (.tup ds)=some ds:=rfl
@[simp] theorem wlOf_lst:wq L (.lst ds)=some ds:=rfl
@[simp] theorem lsC_lst:lsC L (.lst ds)=some (ds,none):=rfl
@[simp] theorem lsC_scr:lsC L (.scr ds)=some (ds,none):=rfl
@[simp] theorem fLst_eq:qo ds L=if ds.length<=1000 then some (.lst ds,L) else none:=rfl
@[simp] theorem fTup_eq:p9 ds L=if ds.length<=1000 then some (.tup ds,L) else none:=rfl
@[simp] theorem fNew_eq:tw ds L=if ds.length<=1000 then some (.ref L.length,L++[some (.lst ds)]) else none:=rfl
@[simp] theorem FP{i:Int}:fIx (.lst ds) (.int i) L=kD L (atI ds i):=by
 show(atI ds i).bind _=_;unfold kD;cases atI ds i<;>rfl
@[simp] theorem fIx_scr{i:Int}:fIx (.scr ds) (.int i) L=kD L (atI ds i):=by
 show(atI ds i).bind _=_;unfold kD;cases atI ds i<;>rfl
@[simp] theorem fIx_tup{i:Int}:fIx (.tup ds) (.int i) L=kD L (atI ds i):=by
 show(atI ds i).bind _=_;unfold kD;cases atI ds i<;>rfl
@[simp] theorem Re:qy (.lst ds) L=some (.int ds.length,L):=rfl
@[simp] theorem fLen_tup:qy (.tup ds) L=some (.int ds.length,L):=rfl
@[simp] theorem fCat_lst{es:List D}:qi (.lst ds) (.lst es) L=if ds.length+es.length<=1000000 then some (.lst (ds++es),L) else none:=rfl
@[simp] theorem fSl_lst{lo hi:Option Int}:fSl (.lst ds) lo hi L=some (.lst (rV ds lo hi),L):=rfl
@[simp] theorem fSl_tup{lo hi:Option Int}:fSl (.tup ds) lo hi L=if HT.sIx ds.length 0 lo=0/\HT.sIx ds.length ds.length hi=ds.length then none else some (.tup (rV ds lo hi),L):=rfl
@[simp] theorem tru_bl{b:Bool}:tru L (.bl b)=some b:=rfl
@[simp] theorem tru_lst:tru L (.lst ds)=some (!ds.isEmpty):=rfl
theorem uX{J:Type}{xs:List J}{j:Nat}{v:J}(h:xs[j]?=some v):atI xs (j:Int)=some v:=by
 have hlt:=(Vw.mp h).1;unfold atI ixN;rw[if_pos (by omega),if_pos (by omega)];simpa using h
@[simp] theorem atI_0{J:Type}{a:J}{l:List J}:atI (a::l) 0=some a:=uX (j:=0) rfl
@[simp] theorem atI_1{J:Type}{a b:J}{l:List J}:atI (a::b::l) 1=some b:=uX (j:=1) rfl
@[simp] theorem atI_2{J:Type}{a b c:J}{l:List J}:atI (a::b::c::l) 2=some c:=uX (j:=2) rfl
@[simp] theorem atI_3{J:Type}{a b c d:J}{l:List J}:atI (a::b::c::d::l) 3=some d:=uX (j:=3) rfl
end
def inI:D->Option Int
 | .int i=>some i
 |_=>none
def inB:D->Option Bool
 | .bl b=>some b
 |_=>none
section
variable {K:Frag} {W:Wd}
theorem G4:∀{ds:List D} {vs:List V} {ns:List Int},qd inI ds=some ns->DRs K W ds vs->vs=ns.map V.int
 |_,_,_,h,.nil=>by cases h;rfl
 |d::_,_,_,h,.cons r t=>by
  refine pK h fun u h1 h=>?_;refine pK h fun us h2 h=>?_;cases h;cases d<;>cases h1
  cases r;rw[G4 h2 t];rfl
theorem Fn:∀{ds:List D} {vs:List V} {ns:List Bool},qd inB ds=some ns->DRs K W ds vs->vs=ns.map V.bl
 |_,_,_,h,.nil=>by cases h;rfl
 |d::_,_,_,h,.cons r t=>by
  refine pK h fun u h1 h=>?_;refine pK h fun us h2 h=>?_;cases h;cases d<;>cases h1
  cases r;rw[Fn h2 t];rfl
theorem Rb(ns:List Int):qd inI (ns.map D.int)=some ns:=by
 have:=vh (f:=inI) (g:=D.int) (h:=id) (l:=ns) fun x _=>rfl;simpa using this
theorem Iu(ns:List Bool):qd inB (ns.map D.bl)=some ns:=by
 have:=vh (f:=inB) (g:=D.bl) (h:=id) (l:=ns) fun x _=>rfl;simpa using this
end
def mx:Int->List Int->Int
 |a,[]=>a
 |a,b::r=>mx (if b>a then b else a) r
theorem Ia:∀(r l:List Int) (a:Int),IsMax a l->IsMax (mx a r) (l++r)
 | [],l,a,h=>by simpa[mx] using h
 |b::r,l,a,h=>by
  have:=Ia r (l++[b]) (if b>a then b else a) h.step;simpa[mx] using this
def Ub{a b:Int}{l:List Int}(h:IsMax a l)(g:IsMax b l):a=b:=by
 have h1:=h.2 b g.1;have h2:=g.2 a h.1;omega
def mxL:List Int->Option Int
 | []=>none
 |a::r=>some (mx a r)
def E5{l:List Int}{m:Int}(h:mxL l=some m):IsMax m l:=by
 cases l with
 |nil=>cases h
 |cons a r=>
  cases h;exact Ia r [a] a ⟨by simp,by simp⟩
section
variable {X:Cx} {K:Frag} {a b:Expr} {ea eb:EV} {pos p kp:Pos}
def xK(x y:D)(L:M):Fr:=match y with
 | .int j=>(qE L x).bind fun ds=>(qd inI ds).bind fun ns=>some (.int ((mxL ns).getD j),L)
 |_=>none
theorem L5(mm:X.mg "max"=none) (ha:PE X a (tD K ea)) (hb:PE X b (tD K eb)) (hc:X.calm=true:=by rfl) (hg:Gl X "max":=by rfl) (hs:starEach [a] X.env=[(false,eval a X.env)]:=by rfl) (hK:X.K=K:=by rfl)
  (hall:(backToKw pos (keywordEach [⟨some "default",b,kp⟩] X.env)).all (·.1.isSome)=true:=by rfl) (hks:(backToKw pos (keywordEach [⟨some "default",b,kp⟩] X.env)).filterMap (·.1)=([Str.ofString "default"]:List Str):=by rfl)
  (hno:(backToKw pos (keywordEach [⟨some "default",b,kp⟩] X.env)).any (·.1.isNone)=false:=by rfl):PE X (.Call (.Name "max" p) [a] [⟨some "default",b,kp⟩] pos) (tD K (v2 xK ea eb)):=qb (OM K mm ha hb hc hg hs hK hall hks hno) (w9 (by
 intro W x y d e z Z5 Q ok r1 r2 hf q;unfold xK at hf;split at hf
 ·cases r2;refine pK hf fun ds h1 hf=>?_;refine pK hf fun ns h2 hf=>?_;cases hf;obtain⟨a,vs,rfl,hs,hv⟩:=vf ok h1 r1;have:=G4 h2 hv;subst this;refine⟨a,ns,_,rfl,rfl,hs,fun z=>?_,fun M hM=>?_⟩
  ·subst z;exact q _ W rfl ok .refl (.int _)
  ·cases hn:mxL ns with
   |none=>
    cases ns with
    |nil=>exact absurd hM.1 (by simp)
    |cons _ _=>cases hn
   |some m=>
    rw[Ub hM (E5 hn)];have:=q (.int m) W rfl ok .refl (by rw[hn];exact .int _);exact this
 ·cases hf))
def uf(x:D)(L:M):Fr:=(qE L x).bind fun ds=>(qd inB ds).bind fun bs=>some (.bl (bs.all id),L)
theorem Dk(mm:X.mg "all"=none) (ha:PE X a (tD K ea)) (hc:X.calm=true:=by rfl) (hg:Gl X "all":=by rfl) (hs:starEach [a] X.env=[(false,eval a X.env)]:=by rfl) (hK:X.K=K:=by rfl):PE X (.Call (.Name "all" p) [a] [] pos) (tD K (v1 uf ea)):=qb (SK K mm ha hc hg hs hK) (vt (by
 intro W x d z Z5 Q ok r1 hf q;refine pK hf fun ds h1 hf=>?_;refine pK hf fun ns h2 hf=>?_;cases hf;obtain⟨a,vs,rfl,hs,hv⟩:=vf ok h1 r1;have:=Fn h2 hv;subst this;exact⟨a,ns,rfl,hs,q _ W rfl ok .refl (.bl _)⟩))
end
def uO{J:Type}{L:M}{x:Option J}:chk (p8 none L) x=x:=sF trivial
section
variable {L:M} {k:Nat} {ds:List D}
def sg:Option (Out×G×M)->Fr
 |some (.rt d,_,L)=>some (d,L)
 |some (.nx,_,L)=>some (.non,L)
 |_=>none
@[simp] theorem kRun_rt{d:D}{O:G}:sg (some (.rt d,O,L))=some (d,L):=rfl
@[simp] theorem kRun_nx{O:G}:sg (some (.nx,O,L))=some (.non,L):=rfl
@[simp] theorem t5{n m:Nat}{es:SV}:qr n m es ds L=if ds.length=m then sg (es (ds.map some++List.replicate (n - ds.length) none) L) else none:=by
 unfold qr;split
 ·unfold sg;cases es (ds.map some++List.replicate (n - ds.length) none) L with
  |none=>rfl
  |some o=>obtain⟨o1,o2,o3⟩:=o;cases o1<;>rfl
 ·rfl
theorem sj{x y:Option Z8}(h:L[k]?=some x):(L.set k y)[k]?=some y:=by
 have hlt:=(Vw.mp h).1;simp[hlt]
theorem sr{j:Nat}{y:Option Z8}(h:j≠k):(L.set k y)[j]?=L[j]?:=VT (Ne.symm h)
theorem xB(h:L[k]?=some (some (.lst ds))):qE L (.ref k)=some ds:=by simp only[qE,h]
theorem Cl{i:Int}(h:L[k]?=some (some (.lst ds))):fIx (.ref k) (.int i) L=kD L (atI ds i):=by
 simp only[fIx,xB h];unfold kD;cases atI ds i<;>rfl
theorem OY(h:L[k]?=some (some (.lst ds))):qy (.ref k) L=some (.int ds.length,L):=by simp only[qy,xB h]
theorem yU{g:List D->Option (D×List D)}(h:L[k]?=some (some (.lst ds))):onL (.ref k) L g=kOn L k (g ds):=by
 simp only[onL,h];unfold kOn;cases g ds<;>rfl
theorem B8(h:L[k]?=some (some (.lst ds))):lsC L (.ref k)=some (ds,some (k,ds)):=by simp only[lsC,h]
@[simp] theorem ixN_0{n:Nat}:ixN (n+1) 0=some 0:=by unfold ixN;rw[if_pos (by omega),if_pos (by omega)];rfl
@[simp] theorem ixN_1{n:Nat}:ixN (n+2) 1=some 1:=by unfold ixN;rw[if_pos (by omega),if_pos (by omega)];rfl
@[simp] theorem ixN_2{n:Nat}:ixN (n+3) 2=some 2:=by unfold ixN;rw[if_pos (by omega),if_pos (by omega)];rfl
end
section
variable {P:Program} {w:World} {K:Frag} {mg:Str->Option Value} {base:Heap} {f:Addr} {fd:FuncData} {k:Nat}
theorem zn{ps:List Str}:FnOk P w K mg base CX0 k f fd ps (spM K fun _ _=>none):=
 ⟨(fun vs H Q E h=>by obtain⟨_,_,_,_,_,_,_,z,_⟩:=h;cases z),(fun A outer s H args us vs Q E _ _ _ _ h=>by obtain⟨_,_,_,_,_,_,_,z,_⟩:=h;cases z)⟩
def z0(K:Frag):Sp:=fun vs H Q _=>∃(a:Addr) (ns:List Int),vs=[.ref a]/\zP H/\SqL K H a (ns.map V.int)/\ns.length<=63/\∀H',Q (.bl true) H'
def W0(H:Hp):Wd:=⟨[],[],H,fun _=>False⟩
theorem Tx{H:Hp}:Ok K (W0 H) where
 len:=rfl
 nd:=by simp[W0]
 rs a h:=by simp[W0] at h
 at_ k o h:=by simp[W0] at h
 hd0 a h:=h.elim
theorem Cf{W:Wd}:∀ns:List Int,DRs K W (ns.map D.int) (ns.map V.int)
 | []=>.nil
 |n::r=>.cons (.int n) (Cf r)
theorem OT{g:C0}(F:FnOk P w K mg base CX0 k f fd ["script"] (spM K g)) (h:∀ns:List Int,ns.length<=63->∃Z5,g [.scr (ns.map D.int)] []=some (.bl true,Z5)):FnOk P w K mg base CX0 k f fd ["script"] (z0 K):=F.imp fun vs H Q E hh=>by
 obtain⟨a,ns,rfl,hO,hS,hl,q⟩:=hh;obtain⟨Z5,e⟩:=h ns hl;have hF:SqF K H a (ns.map V.int):=by
  rcases hS with(hS|hS)|hS
  ·rcases hO a with z|⟨o,xs,z⟩
   ·rw[z] at hS;cases hS
   ·rw[z] at hS;cases hS
  ·exact .inl hS
  ·exact .inr hS
 exact⟨W0 H,[.scr (ns.map D.int)],.bl true,Z5,rfl,Tx,.cons (.scr hF (Cf ns)) .nil,e,fun v W' _ _ _ r=>by cases r;exact q _⟩
end
theorem Az{c:Ck}{g:GV}{body:SV}(Pv:Nat->G->M->Prop):∀(its:List D) (i:Nat) (O:G) (L:M),Pv i O L->
  (∀j d O L,its[j]?=some d->Pv (i+j) O L->∃ZX Z4 ZT Z3,g d O L=some (ZX,Z4)/\body ZX Z4=some (.nx,ZT,Z3)/\p8 c Z3/\Pv (i+j+1) ZT Z3)->∃ZY Z5,qB c g body its O L=some (.nx,ZY,Z5)/\Pv (i+its.length) ZY Z5
 | [],i,O,L,h,_=>⟨O,L,rfl,h⟩
 |d::r,i,O,L,h,hs=>by
  obtain⟨ZX,Z4,ZT,Z3,h1,h2,h3,h4⟩:=hs 0 d O L rfl h;obtain⟨ZY,Z5,h5,h6⟩:=Az Pv r (i+1) ZT Z3 h4 fun j d O L hj hp=>by
   have:=hs (j+1) d O L (by simpa using hj) (by rw[show i+(j+1)=i+1+j by omega];exact hp);rw[show i+(j+1)+1=i+1+j+1 by omega] at this;exact this
  refine⟨ZY,Z5,?_,by rw[VY,show i+(r.length+1)=i+1+r.length by omega];exact h6⟩;simp only[qB,h1,bs,h2];rw[sF h3,h5]
def SM{lo:Int}{n j:Nat}{d:D}(h:(qq lo n)[j]?=some d):j<n/\d=.int (lo+j):=by
 have hlt:=(Vw.mp h).1;simp[qq] at hlt;simp[qq,hlt] at h;exact⟨hlt,h.symm⟩
def Oz{n j:Nat}{d:D}(h:(qq 0 n)[j]?=some d):j<n/\d=.int (j:Int):=by
 obtain⟨a,b⟩:=SM h;exact(⟨a,by rw[b,Int.zero_add]⟩)
def MK{lo:Int}{n:Nat}:(qq lo n).length=n:=by simp[qq]
def zj:Option (List D×M)->Fr
 |some (rs,L)=>some (.lst rs,L)
 |none=>none
@[simp] theorem kLst_s{rs:List D}{L:M}:zj (some (rs,L))=some (.lst rs,L):=rfl
def Cg(own:List Str)(cap:List (Str×Nat))(g:GV)(tc:BV)(te:EV)(O:G):Option ((List D×Ck)×M)->Fr
 |some ((its,c),L)=>if its.length<=1000000 then zj (qF c g tc te its (qt own cap O) L) else none
 |none=>none
@[simp] theorem Cq{own:List Str}{cap:List (Str×Nat)}{g:GV}{tc:BV}{te:EV}{O:G}{its:List D}{c:Ck}{L:M}:Cg own cap g tc te O (some ((its,c),L))=if its.length<=1000000 then zj (qF c g tc te its (qt own cap O) L) else none:=rfl
@[simp] theorem Dm{own:List Str}{cap:List (Str×Nat)}{iv:IV}{g:GV}{tc:BV}{te:EV}{O:G}{L:M}:qO own cap iv g tc te O L=Cg own cap g tc te O (iv O L):=by
 unfold qO Cg;cases iv O L with
 |none=>rfl
 |some s=>
  obtain⟨⟨its,c⟩,Z4⟩:=s;show(if its.length<=1000000 then(qF c g tc te its (qt own cap O) Z4).bind _ else none)=if its.length<=1000000 then zj (qF c g tc te its (qt own cap O) Z4) else none
  split
  ·cases qF c g tc te its (qt own cap O) Z4<;>rfl
  ·rfl
def AU:Option (List D×M)->Fr
 |some (rs,L)=>if rs.length<=1000000 then some (.lst rs,L) else none
 |none=>none
@[simp] theorem HB{rs:List D}{L:M}:AU (some (rs,L))=if rs.length<=1000000 then some (.lst rs,L) else none:=rfl
def Eb(own:List Str)(cap:List (Str×Nat))(g:GV)(tc:BV)(iv2:IV)(g2:GV)(tc2:BV)(te:EV)(O:G):Option ((List D×Ck)×M)->Fr
 |some ((its,c),L)=>AU (su c g tc iv2 g2 tc2 te its (qt own cap O) L)
 |none=>none
@[simp] theorem Jj{own:List Str}{cap:List (Str×Nat)}{iv2:IV}{g g2:GV}{tc tc2:BV}{te:EV}{O:G}{its:List D}{c:Ck}{L:M}:Eb own cap g tc iv2 g2 tc2 te O (some ((its,c),L))=AU (su c g tc iv2 g2 tc2 te its (qt own cap O) L):=rfl
@[simp] theorem G5{own:List Str}{cap:List (Str×Nat)}{iv iv2:IV}{g g2:GV}{tc tc2:BV}{te:EV}{O:G}{L:M}:vg own cap iv g tc iv2 g2 tc2 te O L=Eb own cap g tc iv2 g2 tc2 te O (iv O L):=by
 unfold vg Eb;cases iv O L with
 |none=>rfl
 |some s=>
  obtain⟨⟨its,c⟩,Z4⟩:=s;show(su c g tc iv2 g2 tc2 te its (qt own cap O) Z4).bind _=AU (su c g tc iv2 g2 tc2 te its (qt own cap O) Z4);cases su c g tc iv2 g2 tc2 te its (qt own cap O) Z4<;>rfl
def rS(kvs:List (Key×D))(k:Key):Option D:=(kvs.find? fun kv=>decide (kv.1=k)).map (·.2)
def sq(kvs:List (Key×D))(k:Key)(v:D):List (Key×D):=
 if(kvs.any fun kv=>decide (kv.1=k))=true then kvs.map (fun kv=>if kv.1=k then(kv.1,v) else kv) else kvs++[(k,v)]
def uw:D->Option Key
 | .int i=>some (.inl i)
 | .str x=>some (.inr x)
 |_=>none
def rl(L:M):D->Option (List (Key×D))
 | .ref k=>match L[k]? with
  |some (some (.dK kvs))=>some kvs
  |_=>none
 |_=>none
section
variable {K:Frag} {W:Wd}
theorem Cn{d:D}{k:Key}{v:V}(h:uw d=some k)(r:DR K W d v):v=kV k:=by
 cases d<;>simp only[uw] at h<;>cases h<;>cases r<;>rfl
theorem xJ{d:D}{kvs:List (Key×D)}{v:V}(ok:Ok K W)(h:rl W.L d=some kvs)(r:DR K W d v):
  ∃k a vs,d=.ref k/\v=.ref a/\W.L[k]?=some (some (.dK kvs))/\W.ρ[k]?=some a/\W.H a=some (.dK vs)/\KR K W kvs vs:=by
 cases d with
 |ref k=>
  simp only[rl] at h;split at h
  ·rename_i kvs' hk;cases h;cases r with
   |ref ha=>
    obtain⟨a',ho,h1,h2,vs,rfl,r⟩:=ok.at_ k _ hk;rw[ha] at h1;cases h1;exact(⟨k,_,vs,rfl,rfl,hk,ha,h2,r⟩)
  ·cases h
 |_=>simp[rl] at h
theorem KR.len{kvs:List (Key×D)}{vs:List (Key×V)}(r:KR K W kvs vs):kvs.length=vs.length:=Paired.length r
theorem KR.any{kvs:List (Key×D)}{vs:List (Key×V)}(r:KR K W kvs vs)(k:Key):(kvs.any fun kv=>decide (kv.1=k))=vs.any fun kv=>decide (kv.1=k):=by
 unfold KR at r;induction r with
 |nil=>rfl
 |cons h t ih=>rw[WZ,WZ,ih,h.1]
theorem KR.val{kvs:List (Key×D)}{vs:List (Key×V)}(r:KR K W kvs vs)(k:Key):(rS kvs k).isSome=(rz vs k).isSome:=by
 unfold KR at r;induction r with
 |nil=>rfl
 | @cons p q ps qs h t ih=>
  by_cases e:p.1=k
  ·rw[v8 (by rw[←h.1];exact e)];simp[rS,VJ,e]
  ·rw[wt (by rw[←h.1];exact e)];simp only[rS,VJ,e,decide_false] at ih⊢;exact ih
theorem KR.snoc{kvs:List (Key×D)}{vs:List (Key×V)}(r:KR K W kvs vs)(k:Key){d:D}{v:V}(rv:DR K W d v):KR K W (kvs++[(k,d)]) (vs++[(k,v)]):=Paired.snoc r ⟨rfl,rv⟩
theorem KR.repl{kvs:List (Key×D)}{vs:List (Key×V)}(r:KR K W kvs vs)(k:Key){d:D}{v:V}(rv:DR K W d v):
  KR K W (kvs.map fun kv=>if kv.1=k then(kv.1,d) else kv) (vs.map fun kv=>if kv.1=k then(kv.1,v) else kv):=by
 unfold KR at r⊢;induction r with
 |nil=>exact .nil
 | @cons p q ps qs h t ih=>
  refine .cons ?_ ih;show(if p.1=k then(p.1,d) else p).1=(if q.1=k then(q.1,v) else q).1/\DR K W (if p.1=k then(p.1,d) else p).2 (if q.1=k then(q.1,v) else q).2;by_cases e:p.1=k
  ·rw[if_pos e,if_pos (by rw[←h.1];exact e)];exact⟨h.1,rv⟩
  ·rw[if_neg e,if_neg (by rw[←h.1];exact e)];exact h
theorem KR.put{kvs:List (Key×D)}{vs:List (Key×V)}(r:KR K W kvs vs)(k:Key){d:D}{v:V}(rv:DR K W d v):KR K W (sq kvs k d) (qP vs k v):=by
 unfold sq qP;rw[r.any k];by_cases e:(vs.any fun kv=>decide (kv.1=k))=true
 ·rw[if_pos e,if_pos e];exact r.repl k rv
 ·rw[if_neg e,if_neg e];exact r.snoc k rv
theorem KR.vals{kvs:List (Key×D)}{vs:List (Key×V)}(r:KR K W kvs vs):DRs K W (kvs.map (·.2)) (vs.map (·.2)):=by
 unfold KR at r;induction r with
 |nil=>exact .nil
 |cons h t ih=>exact .cons h.2 ih
theorem K0{k:Nat}{a:Addr}{kvs kvs':List (Key×D)}{vs':List (Key×V)}(ok:Ok K W)(hk:W.L[k]?=some (some (.dK kvs)))(ha:W.ρ[k]?=some a)(hs:KR K W kvs' vs'):
  Ok K (W.put k a (.dK vs') (.dK kvs'))/\Step W (W.put k a (.dK vs') (.dK kvs')):=⟨zC ok hk ha ⟨vs',rfl,hs⟩,vN hk ha⟩
theorem BI{d:D}{kvs:List (Key×D)}{v:V}(ok:Ok K W)(h:rl W.L d=some kvs)(r:DR K W d v):tyV K "dict" v W.H:=by
 obtain⟨k,a,vs,rfl,rfl,_,_,hh,_⟩:=xJ ok h r;exact(.inr (.inr (.inl ⟨rfl,.inl ⟨vs,hh⟩⟩)))
end
def tZ(n:Nat)(c:Ck)(g:GV)(tc:BV)(tk tv:EV):List D->G->M->Option M
 | [],_,L=>some L
 |d::r,O,L=>(g d O L).bind fun p=>(tc p.1 p.2).bind fun t=>if t.1=true then(tk p.1 t.2).bind fun y=>(tv p.1 y.2).bind fun v=>(uw y.1).bind fun k=>(rl v.2 (.ref n)).bind fun kvs=>
   chk (kvs.length<1000000/\p8 c (v.2.set n (some (.dK (sq kvs k v.1))))) (tZ n c g tc tk tv r p.1 (v.2.set n (some (.dK (sq kvs k v.1))))) else chk (p8 c t.2) (tZ n c g tc tk tv r p.1 t.2)
section
variable {X:Cx} {K:Frag} {a b e o:Expr} {ea eb eo:EV} {pos p apos pos1:Pos} {k:Nat}
def wd:EV:=fun _ L=>some (.ref L.length,L++[some (.dK [])])
theorem Do:PE X (.Dict [] [] pos) (tD K wd):=qb SW fun B H Q h=>by
 refine el4 h fun W O d Z5 eH ok en e q=>?_;subst eH;cases e;intro pa hp;exact q _ (W.new pa (.dK []) (.dK [])) rfl (yl ok hp ⟨[],rfl,.nil⟩) (ud ok hp) (yf ok)
def sh(x y:D)(L:M):Fr:=(rl L x).bind fun kvs=>(uw y).bind fun k=>(rS kvs k).bind fun d=>some (d,L)
theorem KR.at{W:Wd}{kvs:List (Key×D)}{vs:List (Key×V)}(r:KR K W kvs vs){k:Key}{d:D}(h:rS kvs k=some d):∃v,rz vs k=some v/\DR K W d v:=by
 unfold KR at r;induction r with
 |nil=>cases h
 | @cons p q ps qs hd t ih=>
  by_cases e:p.1=k
  ·have:rS (p::ps) k=some p.2:=by simp[rS,VJ,e]
   rw[this] at h;cases h;exact⟨q.2,v8 (by rw[←hd.1];exact e),hd.2⟩
  ·have:rS (p::ps) k=rS ps k:=by simp[rS,VJ,e]
   rw[this] at h;obtain⟨v,h1,h2⟩:=ih h;exact⟨v,by rw[wt (by rw[←hd.1];exact e)];exact h1,h2⟩
theorem AA(hr:Room k X.A)(ha:PE X a (tD K ea))(hb:PE X b (tD K eb))(hs:AY b:=by exact fun _ _=>rfl):PE X (.Subscript a b pos) (tD K (v2 sh ea eb)):=
 qb (GB (by have:=hr.units;omega) ha hb hs) fun B H Q h=>by
  refine el4 h fun W O d Z5 eH ok en e q=>?_;subst eH;refine pK e fun p1 e1 e=>?_;refine pK e fun p2 e2 e=>?_;refine pK e fun kvs e3 e=>?_;refine pK e fun ky e4 e=>?_;refine pK e fun d2 e5 e=>?_;cases e;refine⟨W,O,p1.1,p1.2,rfl,ok,en,e1,fun x W1 Z1 ok1 s1 r1=>⟨W1,O,p2.1,p2.2,rfl,ok1,en.step ok s1,by rw[Z1];exact e2,fun y W2 ZV ok2 s2 r2=>?_⟩⟩;rw[←ZV] at e3;obtain⟨n,a,vs,hd,rfl,hk,ha,hh,hs⟩:=xJ ok2 e3 (r1.step ok1 s2);have:=Cn e4 r2;subst this;obtain⟨v,h1,h2⟩:=hs.at e5;exact⟨a,v,rfl,by rw[←h1];exact DGet.k hh,q _ W2 ZV ok2 (s1.trans s2) h2⟩
def Ar(x:D)(L:M):Fr:=(rl L x).bind fun kvs=>some (.lst (kvs.map (·.2)),L)
theorem QN(ml:X.mg "list"=none) (ho:PE X o (tD K eo)) (hc:X.calm=true:=by rfl) (hg:Gl X "list":=by rfl) (hbase:attributeBase o "values" X.env (eval o X.env)=eval o X.env:=by rfl) (hline:(apos.endLine==pos1.line)=true:=by rfl)
  (hs:starEach [.Call (.Attribute o "values" apos) [] [] pos1] X.env=[(false,eval (.Call (.Attribute o "values" apos) [] [] pos1) X.env)]:=by rfl) (hK:X.K=K:=by rfl):
  PE X (.Call (.Name "list" p) [.Call (.Attribute o "values" apos) [] [] pos1] [] pos) (tD K (v1 Ar eo)):=by
 refine qb (Au (p:=p) (pos:=pos) (Td (X:=X)) hg ml rfl (qM (Px K ho hbase hline hK) rG hs) (he:=hs)) fun B H Q h=>?_;refine el4 h fun W O d Z5 eH ok en e q=>?_;subst eH;refine pK e fun p1 e1 e=>?_;refine pK e fun kvs e2 e=>?_;cases e;refine⟨W,O,p1.1,p1.2,rfl,ok,en,e1,fun x W1 Z1 ok1 s1 r1=>?_⟩;rw[←Z1] at e2;obtain⟨k,a,vs,hd,rfl,hk,ha,hh,hs⟩:=xJ ok1 e2 r1;refine(⟨BI ok1 e2 r1,a,vs,rfl,rfl,hh,fun v hv=>?_⟩);refine⟨v,a,vs,rfl,qG,by rw[pW (fun z=>by rw[z,hv] at hh;cases hh)];exact hh,hc,fun l hl=>?_⟩;have ok2:=rL (o:=vvO v a) ok1 hv;have s2:=qJ (o:=vvO v a) hv;have r2:=hs.vals.step ok1 s2;exact q _ ((W1.lay v (vvO v a)).lay l (.lst (vs.map (·.2)))) Z1 (rL ok2 hl) ((s1.trans s2).trans (qJ hl)) (ym ok2 hl r2)
def sJ(eo ek ed:EV):EV:=fun O L=>(eo O L).bind fun p=>(rl p.2 p.1).bind fun _=>(ek O p.2).bind fun q=>(ed O q.2).bind fun r=>(uw q.1).bind fun k=>(rl r.2 p.1).bind fun kvs=>match p.1 with
 | .ref n=>if kvs.length<1000000 then(match rS kvs k with
  |some d=>some (d,r.2)
  |none=>some (r.1,r.2.set n (some (.dK (sq kvs k r.1))))) else none
 |_=>none
theorem C2(ho:PE X o (tD K eo))(ha:PE X a (tD K ea))(hb:PE X b (tD K eb))(hs:starEach [a,b] X.env=[(false,eval a X.env),(false,eval b X.env)]:=by rfl)(hs2:starEach [b] X.env=[(false,eval b X.env)]:=by rfl)
  (hbase:attributeBase o "setdefault" X.env (eval o X.env)=eval o X.env:=by rfl) (hline:(apos.endLine==pos.line)=true:=by rfl) (hK:X.K=K:=by rfl)
  (hfew:((backTo pos (starEach [a,b] X.env)).all (fun x=>!x.1)&&(backToKw pos (keywordEach [] X.env)).all (fun x=>x.1.isSome)
   &&decide ([a,b].length+([]:List Keyword).length+(if([]:List Keyword).isEmpty then 0 else 1)<30))=true:=by rfl):
  PE X (.Call (.Attribute o "setdefault" apos) [a,b] [] pos) (tD K (sJ eo ea eb)):=qb (PV K ho ha hb hs hs2 hbase hline hK hfew) fun B H Q h=>by
 refine el4 h fun W O d Z5 eH ok en e q=>?_;subst eH;refine pK e fun p1 e1 e=>?_;refine pK e fun kv0 e0 e=>?_;refine pK e fun p2 e2 e=>?_;refine pK e fun p3 e3 e=>?_;refine pK e fun ky e4 e=>?_;refine pK e fun kvs e5 e=>?_;refine⟨W,O,p1.1,p1.2,rfl,ok,en,e1,fun x W1 Z1 ok1 s1 r1=>⟨BI ok1 (by rw[Z1];exact e0) r1,W1,O,p2.1,p2.2,rfl,ok1,en.step ok s1,by rw[Z1];exact e2,fun y W2 ZV ok2 s2 r2=>⟨W2,O,p3.1,p3.2,rfl,ok2,(en.step ok s1).step ok1 s2,by rw[ZV];exact e3,fun z W3 ZR ok3 s3 r3=>?_⟩⟩⟩;rw[←ZR] at e5;obtain⟨n,a1,vs,hd,rfl,hk,ha1,hh,hs1⟩:=xJ ok3 e5 ((r1.step ok1 s2).step ok2 s3);have:=Cn e4 (r2.step ok2 s3);subst this;rw[hd] at e;simp only at e;split at e
 ·rename_i hl;refine⟨a1,vs,ky,z,rfl,rfl,hh,yi (by rw[←hs1.len];omega),fun v hv=>?_,fun hv=>?_⟩
  ·split at e
   ·rename_i d0 hd0;cases e;obtain⟨v',h1,h2⟩:=hs1.at hd0;rw[hv] at h1;cases h1;exact(q _ W3 ZR ok3 ((s1.trans s2).trans s3) h2)
   ·rename_i hd0;have:=hs1.val ky;rw[hd0,hv] at this;cases this
  ·split at e
   ·rename_i d0 hd0;have:=hs1.val ky;rw[hd0,hv] at this;cases this
   ·cases e;obtain⟨o4,s4⟩:=K0 (vs':=qP vs ky z) (kvs':=sq kvs ky p3.1) ok3 hk ha1 (hs1.put ky r3);exact q _ (W3.put n a1 (.dK (qP vs ky z)) (.dK (sq kvs ky p3.1))) (by show W3.L.set _ _=_;rw[ZR]) o4 (((s1.trans s2).trans s3).trans s4) (r3.step ok3 s4)
 ·cases e
end
end L3
namespace L2
open PySem PySem.W PySem.Spec PyProof.Rows
structure FlewH (P:Program) (w:World) (outer:List Env) (Z9:Addr) (H H':Hp) (s:Shared) (e:Addr) (C:Value) (Z7:Heap) (s':Shared):Prop where
 os:s'.os=s.os
 bare:AllBare s'.gens
 un:Un (frs outer) [] H H' s.heap s'.heap
 hok:HOk P w H' s'.heap
 trk:∀b o,s'.heap.get? b=some o->H' b≠none->Z7.get? b=some o
 old:∀b o,s.heap.get? b=some o->H b=none->b∉frs outer->Z7.get? b=some o
 thr:∀b o,s.heap.get? b=some o->b∉frs outer->∃o',Z7.get? b=some o'
 frf:∀b∈frs outer,H b=none
 unt:H' e=none
 new:s.heap.get? e=none
 fly:∃a0,Heap.HeldW Z7 outer e C a0 Z9 s'.heap
section
variable {P:Program} {w:World} {outer:List Env} {Z9:Addr} {H H':Hp} {s s':Shared} {e:Addr} {C:Value} {Z7:Heap}
theorem Flew.noted{h2:Heap}(F:Flew P w outer H H' s e C Z7 s')(hs:s'.heap.UpToSlots h2)(fl:∃a0,Heap.HeldW Z7 outer e C a0 Z9 h2):FlewH P w outer Z9 H H' s e C Z7 {s' with heap:=h2}:=by
 obtain⟨a0,fl⟩:=fl;obtain⟨u,k,t⟩:=F.to fl.1 hs;exact(⟨F.os,F.bare,u,k,t,F.old,F.thr,F.frf,F.unt,F.new,a0,fl⟩)
theorem FlewH.to{h2:Heap}(F:FlewH P w outer Z9 H H' s e C Z7 s')(hB:Z7.StaysIn h2)(hs:s'.heap.UpToSlots h2):Un (frs outer) [] H H' s.heap h2/\HOk P w H' h2/\∀b o,h2.get? b=some o->H' b≠none->Z7.get? b=some o:=by
 obtain⟨a0,fl⟩:=F.fly;have kp:∀b o,s.heap.get? b=some o->H b=none->b∉frs outer->h2.get? b=some o:=fun b o x n hb=>hB b o (F.old b o x n hb);have sl:∀b o,s.heap.get? b=some o->H b=none->b∈frs outer->∃sl,h2.get? b=some {o with slots:=sl}:=fun b o x n hb=>by
  obtain⟨sl,e1⟩:=F.un.slot b o x n hb (by simp);obtain⟨_,o',e2,d⟩:=fl.2.2.1.mem hb;rw[e1] at e2;cases e2;obtain⟨sl',e3⟩:=hs b {o with slots:=sl} e1 d;exact(⟨sl',e3⟩)
 refine⟨⟨fun b o x n hb _=>kp b o x n hb,fun b o x n hb _=>sl b o x n hb,F.un.free,fun b o x _=>?_,F.un.tups,F.un.frzs,F.un.tbls⟩,fun a u eu=>?_,fun b o x n=>?_⟩
 ·by_cases hb:b∈frs outer
  ·obtain⟨l,e1⟩:=sl b o x (F.frf b hb) hb;exact⟨_,e1⟩
  ·obtain⟨o',e1⟩:=F.thr b o x hb;exact⟨o',hB b o' e1⟩
 ·refine(F.hok a u eu).stay (fun b v hb q=>hB b v (F.trk b v q ?_)) (fun _ q=>q) fun _ _ q=>q;rcases hb with z|z
  ·rw[z,eu];simp
  ·rw[z];simp
 ·cases eu:H' b with
  |none=>exact absurd eu n
  |some u=>
   obtain⟨o1,e1⟩:=(F.hok b u eu).there;have e2:=F.trk b o1 e1 n;have e3:=hB b o1 e2;rw[x] at e3;cases e3;exact(e2)
theorem FlewH.next{h2:Heap}(F:FlewH P w outer Z9 H H' s e C Z7 s')(hs:s'.heap.UpToSlots h2)(fl:∃a0,Heap.HeldW Z7 outer e C a0 Z9 h2):FlewH P w outer Z9 H H' s e C Z7 {s' with heap:=h2}:=by
 obtain⟨a0,fl⟩:=fl;obtain⟨u,k,t⟩:=F.to fl.1 hs;exact(⟨F.os,F.bare,u,k,t,F.old,F.thr,F.frf,F.unt,F.new,a0,fl⟩)
theorem FlewH.lands{h2:Heap}(F:FlewH P w outer Z9 H H' s e C Z7 s')(hs:s'.heap.UpToSlots h2)(fl:∃a0,Heap.FlyingW Z7 outer e C a0 h2):Flew P w outer H H' s e C Z7 {s' with heap:=h2}:=by
 obtain⟨a0,fl⟩:=fl;obtain⟨u,k,t⟩:=F.to fl.1 hs;exact(⟨F.os,F.bare,u,k,t,F.old,F.thr,F.frf,F.unt,F.new,a0,fl⟩)
end
theorem JG{M:Model}{A:Around}{E:OK}{s:Shared}{base:Heap}{l:List Env}{e Z9:Addr}{cls a0:Value}{Q:Unit->Shared->Prop}(R:Heap.HeldW base l e cls a0 Z9 s.heap)
  (h:∀h',Heap.HeldW base l e cls a0 Z9 h'->s.heap.UpToSlots h'->Q () {s with heap:=h'}):wpAny M A (setFlight (.ref e) (some Z9)) Q E s:=by
 obtain⟨hkb,hen,hl,oe,vs,T,oT,ts,he,hcls,hd,h1,hnT,hTe,hT,hdT,h3⟩:=R;have hsz3:3<ts.size:=(Array.getElem?_eq_some_iff.mp h3).1;have other:∀b,b≠T->(s.heap.update T (Obj.mapFields (·.setIfInBounds 3 ((some Z9).elim Value.none fun f=>rawInt f)))).get? b=s.heap.get? b:=
  fun b hb=>Wq _ _ (Ne.symm hb)
 have noRecord:∀b o,s.heap.get? b=some o->(∀vs,o.data≠.fields vs)->b≠T:=fun b o hb hnf q=>by
  rw[q,hT] at hb;injection hb with hb;subst hb;exact hnf ts hdT
 unfold setFlight;refine Vt (wpAny_field he hd h1 ?_);rw[if_pos (show(Value.ref T !=Value.none)=true from by simp)];refine wpAny_setField hT hdT hsz3 (h _ ⟨fun b o hbo=>(other b fun q=>by rw[q,hnT] at hbo;cases hbo).trans (hkb b o hbo),hen,
  hl.of_keeps fun b o hb hnf=>⟨o,(other b (noRecord b o hb hnf)).trans hb,rfl⟩,?_⟩ fun b o hb hnf=>⟨o.slots,(other b (noRecord b o hb hnf)).trans hb⟩)
 exact⟨oe,vs,T,_,_,(other e (Ne.symm hTe)).trans he,hcls,hd,h1,hnT,hTe,Heap.get?_update_self _ hT (Obj.isFreed_of_fields (Obj.data_mapFields hdT _)),Obj.data_mapFields hdT _,by simp[hsz3]⟩
theorem L7{M:Model}{A:Around}{E:OK}{s:Shared}{base h:Heap}{env:Env}{outer:List Env}{Z9 e:Addr}{cls:Value}{args:List Value}{Q:Unit->Shared->Prop}
  (hfr:A.frames=some (env::outer)) (hf:env.frame=some Z9) (hkb:base.StaysIn h) (hl:h.FunFrames base (env::outer)) (hx:Heap.MadeExcOf h s.heap e cls args)
  (hQ:∀h' a0,Heap.HeldW base (env::outer) e cls a0 Z9 h'->s.heap.UpToSlots h'->Q () {s with heap:=h'}):wpAny M A (noteFrame (.ref e) env) Q E s:=by
 obtain⟨t,he,htn,ht⟩:=hx.there;have fresh:∀b,h.get? b=none->base.get? b=none:=fun b hb=>by
  cases hq:base.get? b with
  |none=>rfl
  |some o'=>have:=hkb b o' hq;rw[hb] at this;cases this
 unfold noteFrame;simp only[hf];refine Vt (wpAny_field he rfl (show(#[Value.ref t,.none,.none,.none,.bool false,.none]:Array Value)[1]?=some Value.none from rfl) ?_);rw[if_neg (show ¬((Value.none !=Value.none)=true) from by decide)];refine wpAny_entryW (a0:=.ref t) hfr (hl.of_keeps fun b o hb _=>⟨o,hx.keeps b o hb,rfl⟩) hf he (fun b o hb=>hx.keeps b o (hkb b o hb)) (fresh e hx.new) rfl (by simp) rfl fun h' hN=>?_;obtain⟨k1,k2,k3,k4⟩:=hN;exact(hQ h' _ ⟨k1,fresh e hx.new,k2,k3⟩ k4)
def Lv(X:Cx):Prop:=X.stack=X.env::X.outer/\X.env.frame=some X.env.locals
def FlX(X:Cx)(E:St->XK)(e:Value)(s':Shared):Prop:=∃(a:Addr) (C:Value) (pins:QS) (B:St) (H H':Hp) (s:Shared),e=.ref a/\Inv X pins B H s/\E B C none H'/\
 ((H'=H/\∃(D:Addr) (vs:List Value) (h':Heap),C=.ref D/\s'={s with heap:=h'}/\Heap.MadeExcOf s.heap h' a C vs)\/(∃Z7,Flew X.prog X.w X.stack H H' s a C Z7 s')\/(∃Z7,FlewH X.prog X.w X.stack X.env.locals H H' s a C Z7 s'))
section
variable {X:Cx} {E:St->XK} {pins:QS} {B:St} {H H':Hp} {s s':Shared} {a:Addr} {C:Value} {Z7:Heap}
theorem NW{M:Model}{A:Around}{E':OK}{D:Addr}{vs:List Value}{h':Heap}{Q:Unit->Shared->Prop}(lv:Lv X)(hA:A.frames=X.A.frames)(I:Inv X pins B H s)(hx:Heap.MadeExcOf s.heap h' a (.ref D) vs)
  (hQ:∀Z7 h2,FlewH X.prog X.w X.stack X.env.locals H H s a (.ref D) Z7 {s with heap:=h2}->Q () {s with heap:=h2}):wpAny M A (noteFrame (.ref a) X.env) Q E' {s with heap:=h'}:=by
 obtain⟨lv1,lv2⟩:=lv;have fs:∀b,b∈frs X.stack->H b=none:=I.stkFree;have inn:∀b o,s.heap.get? b=some o->b∉frs X.stack->(hideAll s.heap (frs X.stack)).get? b=some o:=fun b o e hb=>hideAll_get _ e hb;have hin:∀env∈X.stack,∀a,env.frame=some a->a∈frs X.stack:=fun env he a ha=>List.mem_filterMap.mpr ⟨env,he,ha⟩;have nfr:∀b,H b≠none->b∉frs X.stack:=fun b n z=>n (fs b z);refine L7 (base:=hideAll s.heap (frs X.stack)) (env:=X.env) (outer:=X.outer) (by rw[hA,I.ok.frames,lv1]) lv2 (fun b o q=>of_hideAll _ q) (by rw[←lv1];exact funFrames_hide I.stack hin) hx fun h2 a0 fl ups=>hQ (hideAll s.heap (frs X.stack)) h2 ?_;have hB:=fl.1;have hkeep:∀b o,s.heap.get? b=some o->b∉frs X.stack->h2.get? b=some o:=fun b o e hb=>hB b o (inn b o e hb);have hslot:∀b o,s.heap.get? b=some o->b∈frs X.stack->∃sl,h2.get? b=some {o with slots:=sl}:=fun b o e hb=>by
  obtain⟨_,o',e2,d⟩:=I.stack.mem hb;rw[e] at e2;cases e2;obtain⟨sl',e3⟩:=ups b o (hx.keeps b o e) d;exact(⟨sl',e3⟩)
 refine⟨rfl,I.bare,⟨fun b o x n hb _=>hkeep b o x hb,fun b o x n hb _=>hslot b o x hb,fun b o x n _=>n,fun b o x _=>?_,fun _ _ z=>z,fun _ _ _ z=>z,fun _ ps z=>⟨#[],by simpa using z⟩⟩,fun b u eu=>?_,fun b o x n=>?_,fun b o x n hb=>inn b o x hb,fun b o x hb=>⟨o,inn b o x hb⟩,fs,?_,hx.new,a0,?_⟩
 ·by_cases hb:b∈frs X.stack
  ·obtain⟨l,e1⟩:=hslot b o x hb;exact⟨_,e1⟩
  ·exact⟨o,hkeep b o x hb⟩
 ·refine(I.hok b u eu).stay (fun c v hb q=>hkeep c v q (nfr c ?_)) (fun _ q=>q) fun _ _ q=>q;rcases hb with z|z
  ·rw[z,eu];simp
  ·rw[z];simp
 ·cases eu:H b with
  |none=>exact absurd eu n
  |some u=>
   obtain⟨o1,e1⟩:=(I.hok b u eu).there;have e2:=inn b o1 e1 (nfr b n);have e3:=hB b o1 e2;rw[x] at e3;cases e3;exact(e2)
 ·cases eu:H a with
  |none=>rfl
  |some u=>
   obtain⟨o1,e1⟩:=(I.hok a u eu).there;rw[hx.new] at e1;cases e1
 ·rw[←lv1] at fl;exact fl
theorem MX{M:Model}{A:Around}{E':OK}{e:Value}{Q:Unit->Shared->Prop}(lv:Lv X)(hA:A.frames=X.A.frames)(h:FlX X E e s')
  (hQ:∀a C pins B H H' s Z7 s2,e=.ref a->Inv X pins B H s->E B C none H'->FlewH X.prog X.w X.stack X.env.locals H H' s a C Z7 s2->Q () s2):wpAny M A (noteFrame e X.env) Q E' s':=by
 obtain⟨a,C,pins,B,H,H',s,rfl,I,hE,h⟩:=h;rcases h with⟨rfl,D,vs,h',rfl,rfl,hx⟩|⟨Z7,F⟩|⟨Z7,F⟩
 ·exact NW lv hA I hx fun Z7 h2 F=>hQ _ _ _ _ _ _ _ _ _ rfl I hE F
 ·obtain⟨a0,fl⟩:=F.fly;have fl':Heap.FlyingW Z7 (X.env::X.outer) a C a0 s'.heap:=by rw[←lv.1];exact fl
  refine wpAny_looks_onW (by rw[hA,I.ok.frames,lv.1]) lv.2 fl' fun h2 hh hs=>hQ _ _ _ _ _ _ _ _ _ rfl I hE (F.noted hs ⟨a0,by rw[lv.1];exact hh⟩)
 ·obtain⟨a0,fl⟩:=F.fly;exact wpAny_noteFrame_againW lv.2 fl.2.2.2 (hQ _ _ _ _ _ _ _ _ _ rfl I hE F)
theorem SU(lv:Lv X):PassesOwn (model X.prog X.w) X.A X.env (FlX X E):=fun e s' h=>by
 refine MX lv rfl h fun a C pins B H H' s Z7 s2 he I hE F=>?_;subst he;obtain⟨a0,fl⟩:=F.fly;obtain⟨oe,vs,T,oT,ts,g1,_,g2,g3,_⟩:=id fl.2.2.2;show wpAny _ _ (do
  if(←field (.ref a) 1)==.none then unsupported "frame.own-activation:exception-without-traceback"
  setFlight (.ref a) X.env.frame) _ _ _
 refine Vt (wpAny_field g1 g2 g3 ?_);rw[if_neg (show ¬((Value.ref T==Value.none)=true) from by simp),lv.2];first
  |exact Vt (Vx (JG fl fun h2 hh hs=>⟨a,C,pins,B,H,H',s,rfl,I,hE,.inr (.inr ⟨Z7,F.next hs ⟨a0,hh⟩⟩)⟩))
  |exact JG fl fun h2 hh hs=>⟨a,C,pins,B,H,H',s,rfl,I,hE,.inr (.inr ⟨Z7,F.next hs ⟨a0,hh⟩⟩)⟩
end
section
variable {P:Program} {w:World} {K:Frag} {mg:Str->Option Value} {base:Heap} {N:List Str} {qual:Str} {scope:Scope} {f:Addr} {cd:Value} {A:Around} {outer:List Env} {s:Shared} {H:Hp} {E:XK}
theorem NE{e:Value}{s':Shared}(h:FlX (qh (CXr P w) P w K mg base N qual scope f cd A outer s H E) (fun _=>E) e s'):(qh (CXr P w) P w K mg base N qual scope f cd A outer s H E).xe e s':=by
 obtain⟨a,C,pins,B,H1,H',s1,rfl,I,hE,h⟩:=h;rcases h with⟨rfl,D,vs,h',rfl,rfl,hx⟩|⟨Z7,F⟩|⟨Z7,F⟩
 ·exact Ud I hx hE
 ·exact T1 (E':=E) (fun _ _ _ z=>z) pins B H1 s1 _ s' I ⟨a,C,H',Z7,rfl,F,hE⟩
 ·obtain⟨a0,fl⟩:=F.fly;show wpAny (model P w) (A.deeper (envOfC qual scope s.heap.objs.size f cd)) (leaving (envOfC qual scope s.heap.objs.size f cd) (.ref a)) _ _ _;unfold leaving;refine Vt (wpAny_noteFrame_againW rfl fl.2.2.2 (wpAny_landsW fl fun h2 fl2 ups=>?_));have F2:=F.lands ups ⟨a0,fl2⟩;have I2:=Flew.inv (X:=qh (CXr P w) P w K mg base N qual scope f cd A outer s H E) F2 I;have out:∀b o,s.heap.get? b=some o->b∉frs outer->b∉frs (envOfC qual scope s.heap.objs.size f cd::outer):=fun b o e hb z=>by
   have z:b∈s.heap.objs.size::frs outer:=z;rcases VI.mp z with q|q
   ·rw[q] at e;exact V1 _ (Vy e)
   ·exact hb q
  obtain⟨f1,f2,⟨_,_,f3⟩,f4⟩:=id fl2;refine⟨a,C,H',Z7,rfl,⟨I2.os,F2.bare,⟨fun b o x n hb _=>I2.base.keep b o x n hb (by simp[qh]),fun b o x n hb _=>I2.base.slot b o x n hb (by simp[qh]),fun b o x n _=>I2.base.free b o x n (by simp[qh]),fun b o x _=>I2.base.there b o x (by simp[qh]),I2.base.tups,I2.base.frzs,I2.base.tbls⟩,F2.hok,F2.trk,
   fun b o x n hb=>F2.old b o (I.base.keep b o x n hb (by simp[qh])) (I.base.free b o x n (by simp[qh])) (out b o x hb),fun b o x hb=>?_,I.ok.frf,F2.unt,?_,a0,f1,f2,f3,f4⟩,hE⟩
  ·obtain⟨o1,e1⟩:=I.base.there b o x (by simp[qh]);exact F2.thr b o1 e1 (out b o x hb)
  ·cases eo:s.heap.get? a with
   |none=>rfl
   |some o=>
    obtain⟨o1,e1⟩:=I.base.there a o eo (by simp[qh]);rw[F2.new] at e1;cases e1
end
abbrev Cx.fl(X:Cx)(E:St->XK):Cx:=X.wish (FlX X E)
abbrev yR:List Value:=[.type "ValueError",.type "Exception",.type "BaseException",.type "object"]
def tI(K:Frag)(C:Addr):Prop:=∃bm N nm q bs hdct sn sub ab col dd k0 k1 k2 k3 k5,
  K.lookup C=some (excClassObj nm q C N bs bm hdct sn sub ab col dd k0 k1 k2 k3 k5 "ValueError.__new__")/\tailIn K yR bm=true/\nsOkIn K N=true/\nsIn K N "__init__"=some none
theorem NT{K:Frag}{h:Heap}{C:Addr}{G:Prop}(X:K.In h)(q:tI K C)
  (k:∀bm N nm q bs hdct sn sub ab col dd k0 k1 k2 k3 k5 mN,h.get? C=some (excClassObj nm q C N bs bm hdct sn sub ab col dd k0 k1 k2 k3 k5 "ValueError.__new__")->h.Ns N mN->mN "__init__"=none->OwnTail h yR bm->G):G:=by
 obtain⟨bm,N,nm,q,bs,hdct,sn,sub,ab,col,dd,k0,k1,k2,k3,k5,ho,ht,hok,hni⟩:=q;exact(k bm N nm q bs hdct sn sub ab col dd k0 k1 k2 k3 k5 _ (X _ _ ho) (.of_isNs (isNs_of_in X hok)) (nsMap_none_of_in X hok hni) (tail_of_in X ht))
def Pe{h h':Heap}{N:Addr}{m:Str->Option Value}(hN:h.Ns N m)(b:∀b o,h.get? b=some o->h'.get? b=some o):h'.Ns N m:=by
 obtain⟨o,es,ep,ho,hd,hs,hf⟩:=hN;exact(⟨o,es,ep,b _ _ ho,hd,hs,hf⟩)
section
variable {X:Cx} {E:St->XK} {e:Expr} {te:TE} {np cpos pos:Pos} {x:Str} {C:Addr}
theorem JD(he:PE (X.fl E) e te)(hg:Gl (X.fl E) x)(hm:X.mg x=some (.ref C))(hC:tI X.K C)(hc:X.calm=true)(hd:(x==("__debug__":Str))=false:=by decide)
  (hs:starEach [e] X.env=[(false,eval e X.env)]:=by rfl):PS (X.fl E) (.Raise (some (.Call (.Name x np) [e] [] cpos)) none pos) (fun _ B H=>te B H fun _ H1=>E B (.ref C) none H1):=by
 intro pins s B H D I h;have kb:X.K.In X.base:=I.ok.mod.kin;refine NT kb hC fun tl N nm q bs hdct sn sub ab col dd k0 k1 k2 k3 k5 mN hCo hN hni T=>?_;have hpl:(backTo cpos (starEach [e] X.env)).any (·.1)=false:=by rw[hs];rfl
 refine wpAny_Raise_call_subT (C:=C) (nm:=nm) (q:=q) (N:=N) (bs:=bs) (bm:=tl) (hdct:=hdct) (sn:=sn) (sub:=sub) (ab:=ab) (col:=col) (dd:=dd) (k0:=k0) (k1:=k1) (k2:=k2) (k3:=k3) (k5:=k5)
  PySem.F.excBase_ValueError (mN:=mN) (T.hasType PySem.F.excBase_ValueError.hasBase) (I.ok.hd hc) hpl hni (y4 I hg hm ⟨rfl,?_⟩ hd)
 show wpAny _ _ (evalArgs (.ref C) true (backTo cpos (starEach [e] X.env)) []) _ _ _;have hpa:PA (X.fl E) [e] (sm te tQ):=qM he rG (by show starEach [e] X.env=(false,eval e X.env)::starEach [] X.env;rw[hs];rfl);have hq:wpAny (model X.prog X.w) X.A (spliced (backTo cpos (starEach [e] X.env))) (AP (X.fl E) pins B (fun vs H1=>vs.length=1/\E B (.ref C) none H1)) (FlX X E) s:=hpa cpos pins s B H (fun vs H1=>vs.length=1/\E B (.ref C) none H1) I (by
  unfold sm tQ;have z:te B H (fun v H1=>E B (.ref C) none H1):=h;simpa using z)
 rw[hs] at hq⊢;refine Calls.evalArgs_plain (thn hq fun us s2 hm=>?_);obtain⟨vs,H2,I2,r,hl,hE⟩:=hm;have base:∀b o,X.base.get? b=some o->s2.heap.get? b=some o:=I2.bk;exact⟨rfl,by rw[←r.length,hl];decide,base _ _ hCo,Pe hN base,T.keeps base,fun h' a hx=>⟨a,.ref C,pins,B,H2,H2,s2,rfl,I2.unwish,hE,.inl ⟨rfl,C,us,h',rfl,rfl,hx⟩⟩⟩
end
def DfX(P:Program)(w:World)(K:Frag)(mg:Str->Option Value)(base:Heap)(k:Nat)(x:Str)(ps:List Str)(sp:Sp):Prop:=
 ∃f fd,FnOk P w K mg base (CXr P w) k f fd ps sp/\Binds K fd ps []/\keepIn K (.ref f)=true/\mg x=some (.ref f)
section
variable {X:Cx} {E:St->XK} {k:Nat} {x:Str} {ps:List Str} {sp:Sp} {e:Expr} {es:List Expr} {t:TA} {p pos:Pos} {f C:Addr} {fd:FuncData}
theorem UD{pins:QS}{B:St}{H:Hp}{s:Shared}{Q:VK}{us:List Value}{vs:List V}(F:FnOk X.prog X.w X.K X.mg X.base (CXr X.prog X.w) k f fd ps sp)(hr:Room k X.A)(hb:Binds X.K fd ps [])
  (I:Inv (X.fl E) pins B H s) (r:Vals vs us) (h:sp vs H Q (E B)):wpAny (model X.prog X.w) X.A (call (.ref f) us) (EP (X.fl E) pins B Q) (FlX X E) s:=by
 have hl:us.length=ps.length:=by rw[←r.length];exact F.len _ _ _ _ h
 have hb':=hb s us I.kIn (by simpa using hl);simp only[Wn] at hb';refine wpAny_call (codeAny_mono (F.run X.A X.stack s H ⟨us,[]⟩ us vs Q (E B) hr I.env0 hb' r h) fun r s' hq=>?_);cases r with
 |error e=>
  obtain⟨a,C,H',Z7,rfl,F,hE⟩:=hq;exact⟨a,C,pins,B,H,H',s,rfl,I.unwish,hE,.inr (.inl ⟨Z7,F⟩)⟩
 |ok fl=>
  cases fl with
  |ret u=>exact I.after hq
  |next=>exact False.elim hq
  |brk=>exact False.elim hq
  |cont=>exact False.elim hq
theorem Rr(D:DfX X.prog X.w X.K X.mg X.base k x ps sp)(hr:Room k X.A)(ha:PA (X.fl E) (e::es) t)(hg:Gl X x:=by rfl)(hdb:(x==("__debug__":Str))=false:=by decide)
  (he:starEach (e::es) X.env=(false,eval e X.env)::starEach es X.env:=by rfl) (hpl:(backTo pos (starEach es X.env)).any (·.1)=false:=by rfl):
  PE (X.fl E) (.Call (.Name x p) (e::es) [] pos) (fun B H Q=>t B H fun vs H1=>sp vs H1 Q (E B)):=by
 obtain⟨f,fd,F,hb,hk,hm⟩:=D;intro pins s B H Q I h;refine WO (y4 I hg hm ?_ hdb);refine PySem.W.callWith_K (h₀:=X.base) I.ok.mod.kin hk (thn (ha pos pins s B H _ I h) fun us s1 ⟨vs,H1,I1,r,q⟩=>⟨I1.kIn,?_⟩) he hpl;exact UD F hr hb I1 r q
end
theorem Fun.okX{P:Program}{w:World}{K:Frag}{mg:Str->Option Value}{base:Heap}{x qual:Str}{st:Stmt}{f:Addr}{fd:FuncData}{N ps:List Str}{k:Nat}{sp:Sp}(F:Fun K x qual st f fd)(S:FnScope N ps (pN st))(len:∀vs H Q E,sp vs H Q E->vs.length=ps.length)
  (hbody:∀(cdv:Value) (A:Around) (outer:List Env) (s:Shared) (H:Hp) (vs:List V) (Q:VK) (E:XK),Room k (A.deeper (envOfC qual (pN st) s.heap.objs.size f cdv))->sp vs H Q E->
   ∃t,PSs ((qh (CXr P w) P w K mg base N qual (pN st) f cdv A outer s H E).fl fun _=>E) (qf st) t/\t {nx:=fun _ H'=>Q .non H',rt:=Q} (uA N vs) H):FnOk P w K mg base (CXr P w) (k+1) f fd ps sp:=by
 obtain⟨oc,od,kV,doc,pm,an,cdv,ct,osl,rfl,lk,hcd⟩:=F.ex;refine(Gk lk hcd S len fun A outer s H vs Q E hr hsp=>?_);obtain⟨t,h,q⟩:=hbody cdv A outer s H vs Q E hr hsp;refine(⟨t,fun pins s B H D I hw=>?_,q⟩);exact Vz (h pins s B H D (I.wish _) hw) (fun _ _ z=>z.unwish) fun e s' z=>NE z
end L2
namespace L3
open PySem PySem.Spec L2
open PyProof.Rows (envOfC)
inductive Rs (J:Type) where
 |ok (a:J)|ex (C:Addr)
abbrev EX:=G->M->Option (Rs D×M)
abbrev BX:=G->M->Option (Rs Bool×M)
abbrev LX:=G->M->Option (Rs (List D)×M)
abbrev FX:=List D->M->Option (Rs D×M)
inductive OutX where
 |nx|bk|ct|rt (d:D)|ex (C:Addr)
abbrev SX:=G->M->Option (OutX×G×M)
section
variable (K:Frag) (E:St->XK)
def HE(E:XK)(Q:VK)(W':Wd):Rs D->Prop
 | .ok d=>∀v,DR K W' d v->Q v W'.H
 | .ex C=>E (.ref C) none W'.H
def B4(E:XK)(Q:Bool->Hp->Prop)(W':Wd):Rs Bool->Prop
 | .ok b=>Q b W'.H
 | .ex C=>E (.ref C) none W'.H
def Uw(E:XK)(Q:List V->Hp->Prop)(W':Wd):Rs (List D)->Prop
 | .ok ds=>∀vs,DRs K W' ds vs->Q vs W'.H
 | .ex C=>E (.ref C) none W'.H
def Nj(D:Ends)(W':Wd)(ZZ:St):OutX->Prop
 | .nx=>D.nx ZZ W'.H
 | .bk=>D.bk ZZ W'.H
 | .ct=>D.ct ZZ W'.H
 | .rt d=>∀v,DR K W' d v->D.rt v W'.H
 | .ex C=>E ZZ (.ref C) none W'.H
def tX(ev:EX):TE:=fun B H Q=>∃(W:Wd) (O:G) (r:Rs D) (Z5:M),W.H=H/\Ok K W/\EnvR K W O B/\ev O W.L=some (r,Z5)/\∀W',W'.L=Z5->Ok K W'->Step W W'->HE K (E B) Q W' r
def tXB(ev:BX):TT:=fun B H Q=>∃(W:Wd) (O:G) (r:Rs Bool) (Z5:M),W.H=H/\Ok K W/\EnvR K W O B/\ev O W.L=some (r,Z5)/\∀W',W'.L=Z5->Ok K W'->Step W W'->B4 (E B) Q W' r
def tXL(ev:LX):TA:=fun B H Q=>∃(W:Wd) (O:G) (r:Rs (List D)) (Z5:M),W.H=H/\Ok K W/\EnvR K W O B/\ev O W.L=some (r,Z5)/\∀W',W'.L=Z5->Ok K W'->Step W W'->Uw K (E B) Q W' r
def tXS(es:SX):TS:=fun D B H=>∃(W:Wd) (O:G) (out:OutX) (ZY:G) (Z5:M),W.H=H/\Ok K W/\EnvR K W O B/\es O W.L=some (out,ZY,Z5)/\∀W' ZZ,W'.L=Z5->Ok K W'->Step W W'->EnvR K W' ZY ZZ->Nj K E D W' ZZ out
end
def upB(ev:BV):BX:=fun O L=>(ev O L).bind fun p=>some (.ok p.1,p.2)
def upL(ev:LV):LX:=fun O L=>(ev O L).bind fun p=>some (.ok p.1,p.2)
def upO:Out->OutX
 | .nx=>.nx
 | .bk=>.bk
 | .ct=>.ct
 | .rt d=>.rt d
def upS(es:SV):SX:=fun O L=>(es O L).bind fun o=>some (upO o.1,o.2)
def upF(f:C0):FX:=fun ds L=>(f ds L).bind fun p=>some (.ok p.1,p.2)
def Vm{X:Cx}{es:List Expr}{t:TA}(h:PA X.nox es t):PA X es t:=fun pos pins s B H Q I hw=>
 Vz (h pos pins s B H Q (I.wish _) hw) (fun _ _ ⟨v,H',I',r,q⟩=>⟨v,H',I'.unwish,r,q⟩) fun _ _ z=>False.elim z
def UJ{X:Cx}{tg:Expr}{t:TG}(h:PG X.nox tg t):PG X tg t:=fun pins s B H v u Q I r hw=>
 Vz (h pins s B H v u Q (I.wish _) r hw) (fun _ _ ⟨ZZ,H',I',q⟩=>⟨ZZ,H',I'.unwish,q⟩) fun _ _ z=>False.elim z
section
variable {X:Cx} {E:St->XK} {K:Frag} {e:Expr} {es:List Expr} {pos p:Pos} {ev:EV} {bv:BV} {lv:LV} {sv:SV}
theorem QC:∀B H Q,tXB K E (upB bv) B H Q->tDB K bv B H Q:=fun B H Q h=>by
 refine el4 h fun W O r Z5 eH ok en e q=>?_;subst eH;refine pK e fun p e1 e=>?_;cases e;exact⟨W,O,p.1,p.2,rfl,ok,en,e1,fun W' h1 h2 h3=>q W' h1 h2 h3⟩
theorem Tf:∀B H Q,tXL K E (upL lv) B H Q->tDL K lv B H Q:=fun B H Q h=>by
 refine el4 h fun W O r Z5 eH ok en e q=>?_;subst eH;refine pK e fun p e1 e=>?_;cases e;exact⟨W,O,p.1,p.2,rfl,ok,en,e1,fun v W' h1 h2 h3 h4=>q W' h1 h2 h3 v h4⟩
theorem IB:∀D B H,tXS K E (upS sv) D B H->tDS K sv D B H:=fun D B H h=>by
 refine el5 h fun W O o ZY Z5 eH ok en e q=>?_;subst eH;obtain⟨⟨o1,ZX,Z4⟩,e1,e⟩:=bnd e;cases e;refine(⟨W,O,o1,_,_,rfl,ok,en,e1,fun W' ZZ h1 h2 h3 h4=>?_⟩);have:=q W' ZZ h1 h2 h3 h4;cases o1<;>exact this
theorem xI(h:PT X.nox e (tDB K bv)):PT X e (tXB K E (upB bv)):=vo h.nox QC
theorem uD(h:PA X.nox es (tDL K lv)):PA X es (tXL K E (upL lv)):=Aq (Vm h) Tf
def Ao(ea:EX)(el:LX):LX:=fun O L=>(ea O L).bind fun p=>match p.1 with
 | .ok d=>(el O p.2).bind fun q=>match q.1 with
  | .ok ds=>some (.ok (d::ds),q.2)
  | .ex C=>some (.ex C,q.2)
 | .ex C=>some (.ex C,p.2)
theorem MG{ea:EX}{el:LX}(ha:PE X e (tX K E ea))(hr:PA X es (tXL K E el))(hs:starEach (e::es) X.env=(false,eval e X.env)::starEach es X.env:=by rfl):PA X (e::es) (tXL K E (Ao ea el)):=Aq (qM ha hr hs) fun B H Q h=>by
 refine el4 h fun W O r Z5 eH ok en e q=>?_;subst eH;obtain⟨⟨p1,p2⟩,e1,e⟩:=bnd e;refine(⟨W,O,p1,p2,rfl,ok,en,e1,fun W1 Z1 ok1 s1=>?_⟩);cases p1 with
 |ex C=>cases e;exact q W1 Z1 ok1 s1
 |ok d=>
  intro x rx;obtain⟨⟨q1,q2⟩,e2,e⟩:=bnd e;refine⟨W1,O,q1,q2,rfl,ok1,en.step ok s1,by rw[Z1];exact e2,fun W2 ZV ok2 s2=>?_⟩;cases q1 with
  |ex C=>cases e;exact q W2 ZV ok2 (s1.trans s2)
  |ok ds=>
   cases e;exact fun vs rvs=>q W2 ZV ok2 (s1.trans s2) (x::vs) (.cons (rx.step ok1 s2) rvs)
def spX(K:Frag)(f:FX):Sp:=fun vs H Q E=>∃(W:Wd) (ds:List D) (r:Rs D) (Z5:M),W.H=H/\Ok K W/\DRs K W ds vs/\f ds W.L=some (r,Z5)/\∀W',W'.L=Z5->Ok K W'->Step W W'->HE K E Q W' r
def vLX(f:FX)(el:LX):EX:=fun O L=>(el O L).bind fun p=>match p.1 with
 | .ok ds=>f ds p.2
 | .ex C=>some (.ex C,p.2)
theorem Jk{f:FX}{el:LX}{r:List V->Hp->VK->XK->Prop}(ra:∀vs H Q E,spX K f vs H Q E->r vs H Q E):∀B H Q,tX K E (vLX f el) B H Q->tXL K E el B H fun vs H1=>r vs H1 Q (E B):=fun B H Q h=>by
 refine el4 h fun W O r Z5 eH ok en e q=>?_;subst eH;obtain⟨⟨p1,p2⟩,e1,e⟩:=bnd e;refine(⟨W,O,p1,p2,rfl,ok,en,e1,fun W1 Z1 ok1 s1=>?_⟩);cases p1 with
 |ex C=>cases e;exact q W1 Z1 ok1 s1
 |ok ds=>exact fun vs rv=>ra _ _ _ _ ⟨W1,ds,r,Z5,rfl,ok1,rv,by rw[Z1];exact e,fun W2 ZV ok2 s2=>q W2 ZV ok2 (s1.trans s2)⟩
theorem vO{x:Str}{ps:List Str}{f:FX}{k:Nat}{el:LX}(D:DfX X.prog X.w X.K X.mg X.base k x ps (spX K f))(hr:Room k X.A)(ha:PA (X.fl E) (e::es) (tXL K E el))(hg:Gl X x:=by rfl)(hdb:(x==("__debug__":Str))=false:=by decide)
  (he:starEach (e::es) X.env=(false,eval e X.env)::starEach es X.env:=by rfl) (hpl:(backTo pos (starEach es X.env)).any (·.1)=false:=by rfl):PE (X.fl E) (.Call (.Name x p) (e::es) [] pos) (tX K E (vLX f el)):=
 qb (Rr D hr ha hg hdb he hpl) (Jk fun _ _ _ _ z=>z)
theorem MC{f:C0}:∀vs H Q E,spX K (upF f) vs H Q E->spM K f vs H Q E0:=fun vs H Q E h=>by
 obtain⟨W,ds,r,Z5,h1,h2,h3,e,q⟩:=h;obtain⟨⟨d,Z4⟩,e1,e⟩:=bnd e;cases e;exact(⟨W,ds,d,Z4,h1,h2,h3,e1,fun v W' a b c d=>q W' a b c v d⟩)
theorem LI{x:Str}{ps:List Str}{f:C0}{k:Nat}{el:LX}(D:Df X.prog X.w X.K X.mg X.base k x ps (spM K f))(hr:Room k X.A)(ha:PA X (e::es) (tXL K E el))(hg:Gl X x:=by rfl)(hdb:(x==("__debug__":Str))=false:=by decide)
  (he:starEach (e::es) X.env=(false,eval e X.env)::starEach es X.env:=by rfl) (hpl:(backTo pos (starEach es X.env)).any (·.1)=false:=by rfl):PE X (.Call (.Name x p) (e::es) [] pos) (tX K E (vLX (upF f) el)):=
 qb (JO D hr ha hg hdb he hpl) (Jk (r:=fun vs H Q _=>spM K f vs H Q E0) MC)
def bTX(ev:EX):BX:=fun O L=>(ev O L).bind fun p=>match p.1 with
 | .ok (.bl b)=>some (.ok b,p.2)
 | .ok _=>none
 | .ex C=>some (.ex C,p.2)
theorem LF{ev:EX}(h:PE X e (tX K E ev))(he:∀whole,isTrue e X.env whole=(do let v ←whole;standAt e.pos;holding [v] (truthy v)):=by intro _;rfl):PT X e (tXB K E (bTX ev)):=vo (NU h he) fun B H Q h=>by
 refine el4 h fun W O r Z5 eH ok en e q=>?_;subst eH;obtain⟨⟨p1,p2⟩,e1,e⟩:=bnd e;refine(⟨W,O,p1,p2,rfl,ok,en,e1,fun W1 Z1 ok1 s1=>?_⟩);cases p1 with
 |ex C=>cases e;exact q W1 Z1 ok1 s1
 |ok d=>
  intro v rv;cases d with
  |bl b=>cases e;cases rv;exact⟨b,rfl,q W1 Z1 ok1 s1⟩
  |_=>cases e
def zw(t:BX):BX:=fun O L=>(t O L).bind fun p=>match p.1 with
 | .ok b=>some (.ok (!b),p.2)
 | .ex C=>some (.ex C,p.2)
theorem Sf{bx:BX}(h:PT X e (tXB K E bx)):PT X (.UnaryOp .Not e pos) (tXB K E (zw bx)):=vo (EJ h) fun B H Q h=>by
 refine el4 h fun W O r Z5 eH ok en e q=>?_;subst eH;obtain⟨⟨p1,p2⟩,e1,e⟩:=bnd e;refine(⟨W,O,p1,p2,rfl,ok,en,e1,fun W1 Z1 ok1 s1=>?_⟩);cases p1 with
 |ex C=>cases e;exact q W1 Z1 ok1 s1
 |ok b=>cases e;exact q W1 Z1 ok1 s1
end
open PyProof.Rows (envOfC)
section
variable {X:Cx} {E:St->XK} {K:Frag} {e:Expr} {st:Stmt} {pU:List Stmt} {pos p:Pos} {sa sb:SX} {ex:EX}
def rg(a b:SX):SX:=fun O L=>(a O L).bind fun o=>match o.1 with
 | .nx=>b o.2.1 o.2.2
 |x=>some (x,o.2)
theorem v4:PSs X [] (tXS K E (upS sNx)):=ya qx IB
theorem sw(h1:PS X st (tXS K E sa)):PSs X [st] (tXS K E sa):=KB h1
theorem vy(h1:PS X st (tXS K E sa))(h2:PSs X pU (tXS K E sb)):PSs X (st::pU) (tXS K E (rg sa sb)):=ya (IM h1 h2) fun D B H h=>by
 refine el5 h fun W O o ZY Z5 eH ok en e q=>?_;subst eH;obtain⟨⟨o1,ZX,Z4⟩,e1,e⟩:=bnd e;refine(⟨W,O,o1,ZX,Z4,rfl,ok,en,e1,fun W1 ZI Z1 ok1 s1 en1=>?_⟩);cases o1 with
 |nx=>exact⟨W1,ZX,o,ZY,Z5,rfl,ok1,en1,by rw[Z1];exact e,fun W2 ZW ZV ok2 s2 en2=>q W2 ZW ZV ok2 (s1.trans s2) en2⟩
 |bk=>cases e;exact q W1 ZI Z1 ok1 s1 en1
 |ct=>cases e;exact q W1 ZI Z1 ok1 s1 en1
 |rt d=>cases e;exact q W1 ZI Z1 ok1 s1 en1
 |ex C=>cases e;exact q W1 ZI Z1 ok1 s1 en1
def wn(ea:EX):SX:=fun O L=>(ea O L).bind fun p=>match p.1 with
 | .ok _=>some (.nx,O,p.2)
 | .ex C=>some (.ex C,O,p.2)
theorem BF(he:PE X e (tX K E ex))(hs:swapsWith e none pos.line X.env=pure false:=by rfl):PS X (.Expr e pos) (tXS K E (wn ex)):=rH (Fw he hs) fun D B H h=>by
 refine el5 h fun W O o ZY Z5 eH ok en e q=>?_;subst eH;obtain⟨⟨p1,p2⟩,e1,e⟩:=bnd e;refine(⟨W,O,p1,p2,rfl,ok,en,e1,fun W1 Z1 ok1 s1=>?_⟩);cases p1 with
 |ex C=>cases e;exact q W1 B Z1 ok1 s1 (en.step ok s1)
 |ok d=>cases e;exact fun v rv=>q W1 B Z1 ok1 s1 (en.step ok s1)
def vz(ea:EX):SX:=fun O L=>(ea O L).bind fun p=>match p.1 with
 | .ok d=>some (.rt d,O,p.2)
 | .ex C=>some (.ex C,O,p.2)
theorem CQ(he:PE X e (tX K E ex)):PS X (.Return (some e) pos) (tXS K E (vz ex)):=rH (Kf he) fun D B H h=>by
 refine el5 h fun W O o ZY Z5 eH ok en e q=>?_;subst eH;obtain⟨⟨p1,p2⟩,e1,e⟩:=bnd e;refine(⟨W,O,p1,p2,rfl,ok,en,e1,fun W1 Z1 ok1 s1=>?_⟩);cases p1 with
 |ex C=>cases e;exact q W1 B Z1 ok1 s1 (en.step ok s1)
 |ok d=>cases e;exact fun v rv=>q W1 B Z1 ok1 s1 (en.step ok s1) v rv
def sC(t:BX)(a b:SX):SX:=fun O L=>(t O L).bind fun p=>match p.1 with
 | .ok c=>if c=true then a O p.2 else b O p.2
 | .ex C=>some (.ex C,O,p.2)
theorem wL{c:Expr}{a b:List Stmt}{bc:BX}(hc:PT X c (tXB K E bc))(ha:PSs X a (tXS K E sa))(hb:PSs X b (tXS K E sb)):PS X (.If c a b pos) (tXS K E (sC bc sa sb)):=rH (K4 hc ha hb) fun D B H h=>by
 refine el5 h fun W O o ZY Z5 eH ok en e q=>?_;subst eH;obtain⟨⟨p1,p2⟩,e1,e⟩:=bnd e;refine(⟨W,O,p1,p2,rfl,ok,en,e1,fun W1 Z1 ok1 s1=>?_⟩);cases p1 with
 |ex C=>cases e;exact q W1 B Z1 ok1 s1 (en.step ok s1)
 |ok k=>
  cases k with
  |true=>
   simp only[B4,if_true];exact⟨W1,O,o,ZY,Z5,rfl,ok1,en.step ok s1,by rw[Z1];exact e,fun W2 ZW ZV ok2 s2 en2=>q W2 ZW ZV ok2 (s1.trans s2) en2⟩
  |false=>
   simp only[B4,V7,if_false];exact⟨W1,O,o,ZY,Z5,rfl,ok1,en.step ok s1,by rw[Z1];exact e,fun W2 ZW ZV ok2 s2 en2=>q W2 ZW ZV ok2 (s1.trans s2) en2⟩
def Di(ea:EX)(g:GV):SX:=fun O L=>(ea O L).bind fun p=>match p.1 with
 | .ok d=>(g d O p.2).bind fun q=>some (.nx,q.1,q.2)
 | .ex C=>some (.ex C,O,p.2)
theorem Sm{i:Nat}{x:Str}{pos':Pos}(hN:X.N.Nodup)(hi:X.N[i]?=some x)(hx:Loc X.env.scope x)(he:PE X e (tX K E ex))(hs:swapsWith e (some (.Name x pos')) pos.line X.env=pure false:=by rfl)(hf:X.fn x=true\/X.env.scope.names.lookup x=some .local:=by first|exact .inl rfl|exact .inr rfl|assumption):
  PS X (.Assign [.Name x pos'] e pos) (tXS K E (Di ex (pJ i))):=rH (GT hN hi hx he hs hf) fun D B H h=>by
 refine el5 h fun W O o ZY Z5 eH ok en e q=>?_;subst eH;obtain⟨⟨p1,p2⟩,e1,e⟩:=bnd e;refine(⟨W,O,p1,p2,rfl,ok,en,e1,fun W1 Z1 ok1 s1=>?_⟩);cases p1 with
 |ex C=>cases e;exact q W1 B Z1 ok1 s1 (en.step ok s1)
 |ok d=>cases e;exact fun v rv=>q W1 _ Z1 ok1 s1 ((en.step ok s1).set rv i)
def KH(c:BX)(body:SX):Nat->SX
 |0,_,_=>none
 |n+1,O,L=>(c O L).bind fun p=>match p.1 with
  | .ok k=>if k=true then(body O p.2).bind fun o=>match o.1 with
    | .nx=>KH c body n o.2.1 o.2.2
    | .ct=>KH c body n o.2.1 o.2.2
    | .bk=>some (.nx,o.2)
    | .rt d=>some (.rt d,o.2)
    | .ex C=>some (.ex C,o.2)
   else some (.nx,O,p.2)
  | .ex C=>some (.ex C,O,p.2)
def uE(c:Ck)(g:GV)(body:SX):List D->SX
 | [],O,L=>some (.nx,O,L)
 |d::r,O,L=>(g d O L).bind fun p=>(body p.1 p.2).bind fun o=>match o.1 with
  | .nx=>chk (p8 c o.2.2) (uE c g body r o.2.1 o.2.2)
  | .ct=>chk (p8 c o.2.2) (uE c g body r o.2.1 o.2.2)
  | .bk=>some (.nx,o.2)
  | .rt d=>some (.rt d,o.2)
  | .ex C=>some (.ex C,o.2)
def IY(iv:IV)(g:GV)(body:SX):SX:=fun O L=>(iv O L).bind fun s=>uE s.1.2 g body s.1.1 O s.2
theorem My{tg iter:Expr}{body:List Stmt}{iv:IV}{g:GV}(hp:PassesOwn (model X.prog X.w) X.A X.env X.xe)(hc:X.calm=true)(hi:PI X tg iter (tDI K iv))(hg:PG X tg (tDG K g))(hb:PSs X body (tXS K E sb))
  (hs:∀x,foldedSetIterable iter X.env x=pure x:=by intro _;rfl):PS X (.For tg iter body [] pos) (tXS K E (IY iv g sb)):=rH (HN hp hc hi hg hb hs) fun D B H h=>by
 refine el5 h fun W O o ZY Z5 eH ok en e q=>?_;subst eH;obtain⟨⟨⟨its,c⟩,Z4⟩,e1,e⟩:=bnd e;refine(⟨W,O,its,c,Z4,rfl,ok,en,e1,fun Z6 W1 ZK ok1 s1 jr=>?_⟩);obtain⟨c1,ds,vs,r1,hj⟩:=jr;obtain⟨P,hP⟩:∃P:Nat->St->Hp->Prop,∀i ZW H2,P i ZW H2↔(i<=its.length/\∃W2 ZT,W2.H=H2/\Ok K W2/\Step W1 W2/\EnvR K W2 ZT ZW/\p8 c W2.L/\uE c g sb (its.drop i) ZT W2.L=some (o,ZY,Z5)):=⟨_,fun _ _ _=>Iff.rfl⟩
 refine⟨fun i m ZW H2=>m=its.length - i/\P i ZW H2,⟨its.length,by simp,(hP _ _ _).2 ⟨Wm _,W1,O,rfl,ok1,.refl,en.step ok s1,c1,by rw[ZK];exact e⟩⟩,?_⟩;rintro i m ZW H2 ⟨rfl,hi⟩;refine bq fun hG=>?_;obtain⟨hi,W2,ZT,rfl,ok2,s2,en2,c2,e2⟩:=(hP _ _ _).1 hi;obtain⟨hstop,hgo⟩:=hj W2 i ok2 c2 (r1.step ok1 s2);by_cases hlt:i<its.length
 ·have hd:its[i]?=some its[i]:=VA hlt;obtain⟨h1,h2⟩:=hgo _ hd;rw[V8 hlt] at e2;refine pK e2 fun p e3 e2=>?_;obtain⟨⟨o4,Zr,Zq⟩,e4,e2⟩:=bnd e2;refine(hG (.inr ⟨h1,P (i+1),fun ZZ H' hN=>⟨its.length - (i+1),by omega,rfl,hN⟩,fun x H' hy=>?_⟩));refine bq fun hF=>?_;obtain⟨W3,rfl,ZR,ok3,s3,r3⟩:=h2 x H' hy;refine hF ⟨W3,ZT,its[i],p.1,p.2,rfl,ok3,en2.step ok2 s3,r3,by rw[ZR];exact e3,fun W4 ZP ZC ok4 s4 en4=>⟨W4,p.1,o4,Zr,Zq,rfl,ok4,en4,by rw[ZC];exact e4,fun W5 Zn ZO ok5 s5 en5=>?_⟩⟩;have st:=s2.trans (s3.trans (s4.trans s5));cases o4 with
  |nx=>refine tq e2 fun hc5 e2=>?_;exact(hP _ _ _).2 ⟨hlt,W5,Zr,rfl,ok5,st,en5,by rw[ZO];exact hc5,by rw[ZO];exact e2⟩
  |ct=>refine tq e2 fun hc5 e2=>?_;exact(hP _ _ _).2 ⟨hlt,W5,Zr,rfl,ok5,st,en5,by rw[ZO];exact hc5,by rw[ZO];exact e2⟩
  |bk=>cases e2;exact q W5 Zn ZO ok5 (s1.trans st) en5
  |rt d=>cases e2;exact q W5 Zn ZO ok5 (s1.trans st) en5
  |ex C=>cases e2;exact q W5 Zn ZO ok5 (s1.trans st) en5
 ·have e':i=its.length:=by omega
  subst e';rw[Wl (Vv _)] at e2;cases e2;exact hG (.inl ⟨hstop (Vv _),q W2 ZW rfl ok2 (s1.trans s2) en2⟩)
def Kk(C:Addr)(ea:EV):SX:=fun O L=>(ea O L).bind fun p=>some (.ex C,O,p.2)
theorem Od{ea:EV}{x:Str}{C:Addr}{np cpos:Pos}(he:PE (X.fl E).nox e (tD K ea))(hm:X.mg x=some (.ref C))(hC:tI X.K C)(hg:Gl X x:=by rfl)(hc:X.calm=true:=by rfl)(hd:(x==("__debug__":Str))=false:=by decide)
  (hs:starEach [e] X.env=[(false,eval e X.env)]:=by rfl):PS (X.fl E) (.Raise (some (.Call (.Name x np) [e] [] cpos)) none pos) (tXS K E (Kk C ea)):=rH (JD (te:=tD K ea) (PE.nox he) hg hm hC hc hd hs) fun D B H h=>by
 refine el5 h fun W O o ZY Z5 eH ok en e q=>?_;subst eH;refine pK e fun p1 e1 e=>?_;cases e;exact⟨W,O,p1.1,p1.2,rfl,ok,en,e1,fun v W1 Z1 ok1 s1 r1=>q W1 B Z1 ok1 s1 (en.step ok s1)⟩
end
def rO(n m:Nat)(es:SX):FX:=fun ds L=>if ds.length=m then(es (ds.map some++List.replicate (n - ds.length) none) L).bind fun o=>match o.1 with
  | .rt d=>some (.ok d,o.2.2)
  | .nx=>some (.ok .non,o.2.2)
  | .ex C=>some (.ex C,o.2.2)
  |_=>none
 else none
theorem uM{P:Program}{w:World}{K:Frag}{mg:Str->Option Value}{base:Heap}{x qual:Str}{st:Stmt}{f:Addr}{fd:FuncData}{N ps:List Str}{k:Nat}{es:SX}(F:Fun K x qual st f fd)(S:FnScope N ps (pN st))
  (hb:∀(cdv:Value) (A:Around) (outer:List Env) (s:Shared) (H:Hp) (E:XK),Room k (A.deeper (envOfC qual (pN st) s.heap.objs.size f cdv))->PSs ((qh (CXr P w) P w K mg base N qual (pN st) f cdv A outer s H E).fl fun _=>E) (qf st) (tXS K (fun _=>E) es)):
  FnOk P w K mg base (CXr P w) (k+1) f fd ps (spX K (rO N.length ps.length es)):=by
 refine F.okX S (fun vs H Q E h=>?_) (fun cdv A outer s H vs Q E hr h=>?_)
 ·obtain⟨W,ds,r,Z5,_,_,rr,e,_⟩:=h;unfold rO at e;split at e
  ·rename_i hl;rw[←rr.length];exact hl
  ·cases e
 ·obtain⟨W,ds,r,Z5,rfl,ok,rr,e,q⟩:=h;refine⟨_,hb cdv A outer s W.H E hr,?_⟩;unfold rO at e;split at e
  ·obtain⟨⟨o,ZY,Z3⟩,e1,e⟩:=bnd e;refine⟨W,_,o,ZY,Z3,rfl,ok,GW rr,e1,fun W' ZZ Z1 ok' s' en'=>?_⟩;cases o with
   |rt z=>cases e;exact q W' Z1 ok' s'
   |nx=>cases e;exact q W' Z1 ok' s' _ .non
   |ex C=>cases e;exact q W' Z1 ok' s'
   |bk=>cases e
   |ct=>cases e
  ·cases e
end L3
namespace L2
open PySem PySem.W PySem.Spec PyProof.Rows
end L2
namespace L3
open PySem PySem.Spec L2
def Nt{X:Cx}{tg iter:Expr}{t:TI}(h:PI X.nox tg iter t):PI X tg iter t:=fun pins s B H R I hw=>
 Vz (h pins s B H R (I.wish _) hw) (fun v s1 z=>Vz z (fun itv s2 ⟨it,fp,tn,Z6,H2,e,I2,T,st2,f2,q⟩=>⟨it,fp,tn,Z6,H2,e,I2.unwish,T,st2,f2,q⟩) fun _ _ z=>False.elim z) fun _ _ z=>False.elim z
section
variable {X:Cx} {E:St->XK} {K:Frag} {e e2:Expr} {es:List Expr} {st:List Stmt} {pos p:Pos} {sv:SV}
theorem BZ(h:PSs X.nox st (tDS K sv)):PSs X st (tXS K E (upS sv)):=ya h.nox IB
def AC:List EV->G->M->Option M
 | [],_,L=>some L
 |ea::r,O,L=>(ea O L).bind fun p=>match p.1 with
  | .int i=>if i.natAbs.log2<1920 then AC r O p.2 else none
  |_=>none
def tJ(K:Frag)(l:List EV):St->Hp->(Hp->Prop)->Prop:=fun B H Q=>∃(W:Wd) (O:G) (Z5:M),W.H=H/\Ok K W/\EnvR K W O B/\AC l O W.L=some Z5/\∀W',W'.L=Z5->Ok K W'->Step W W'->Q W'.H
theorem E7{t t':St->Hp->(Hp->Prop)->Prop}(h:PJ X es t)(hi:∀B H Q,t' B H Q->t B H Q):PJ X es t':=fun pins s B H Q acc n a b I hw=>h pins s B H Q acc n a b I (hi _ _ _ hw)
theorem pj0:PJ X [] (tJ K []):=E7 Ty fun B H Q h=>by
 obtain⟨W,O,Z5,rfl,ok,en,e,q⟩:=h;cases e;exact(q W rfl ok .refl)
theorem sD{x:Str}{j:Nat}{l:List EV}(hx:x.length<=2000)(hr:PJ X es (tJ K l)):PJ X (.Constant (.str x) j p::es) (tJ K l):=Rq hx hr
theorem tR{ea:EV}{l:List EV}(he:PE X e (tD K ea))(hr:PJ X es (tJ K l)):PJ X (.FormattedValue e (-1) none p::es) (tJ K (ea::l)):=E7 (S9 he hr) fun B H Q h=>by
 obtain⟨W,O,Z5,rfl,ok,en,e,q⟩:=h;refine pK e fun p1 e1 e=>?_;refine(⟨W,O,p1.1,p1.2,rfl,ok,en,e1,fun v W1 Z1 ok1 s1 r1=>?_⟩);split at e
 ·rename_i i hi;split at e
  ·rename_i hl;rw[hi] at r1;cases r1;exact⟨i,rfl,hl,W1,O,Z5,rfl,ok1,en.step ok s1,by rw[Z1];exact e,fun W2 ZV ok2 s2=>q W2 ZV ok2 (s1.trans s2)⟩
  ·cases e
 ·cases e
def Cz(K:Frag)(l:List EV):TE:=fun B H Q=>∃(W:Wd) (O:G) (Z5:M),W.H=H/\Ok K W/\EnvR K W O B/\AC l O W.L=some Z5/\∀v W',W'.L=Z5->Ok K W'->Step W W'->Q v W'.H
theorem wR{l:List EV}(h:PJ X (e::e2::es) (tJ K l))(hl:(e::e2::es).length<=400:=by decide):PE X (.JoinedStr (e::e2::es) pos) (Cz K l):=qb (Lu h hl) fun B H Q h=>by
 obtain⟨W,O,Z5,rfl,ok,en,e,q⟩:=h;exact(⟨W,O,Z5,rfl,ok,en,e,fun W' h1 h2 h3 z=>q _ W' h1 h2 h3⟩)
def uV(C:Addr)(l:List EV):SX:=fun O L=>(AC l O L).bind fun Z5=>some (.ex C,O,Z5)
theorem w8{l:List EV}{x:Str}{C:Addr}{np cpos:Pos}(he:PE (X.fl E).nox e (Cz K l))(hm:X.mg x=some (.ref C))(hC:tI X.K C)(hg:Gl X x:=by rfl)(hc:X.calm=true:=by rfl)(hd:(x==("__debug__":Str))=false:=by decide)
  (hs:starEach [e] X.env=[(false,eval e X.env)]:=by rfl):PS (X.fl E) (.Raise (some (.Call (.Name x np) [e] [] cpos)) none pos) (tXS K E (uV C l)):=rH (JD (te:=Cz K l) (PE.nox he) hg hm hC hc hd hs) fun D B H h=>by
 refine el5 h fun W O o ZY Z5 eH ok en e q=>?_;subst eH;refine pK e fun Z4 e1 e=>?_;cases e;exact⟨W,O,_,rfl,ok,en,e1,fun v W1 Z1 ok1 s1=>q W1 B Z1 ok1 s1 (en.step ok s1)⟩
end
end L3
namespace L2
open PySem PySem.W PySem.Spec PySem.Calls PyProof.Rows PySem.SeqAt
end L2
namespace L3
open PySem PySem.Spec L2
class Enc (J:Type) where
 d:J->D
 p:J->PyData
 k:Nat
 py_eq:∀(a:J) (L:M) (n:Nat),k<n->py n L (d a)=some (p a)
 lay:∀a,(p a).canLay0=true
 dep:∀a,(p a).depth<=k
 eqv:∀a b,PyData.eqv (p a) (p b)=true↔a=b
instance encInt:Enc Int where
 d i:=.int i
 p i:=.int i
 k:=0
 py_eq a L n h:=by cases n with|zero=>omega|succ n=>rfl
 lay a:=rfl
 dep a:=by simp[PyData.depth]
 eqv a b:=by simp[PyData.eqv]
instance encBool:Enc Bool where
 d i:=.bl i
 p i:=.bool i
 k:=0
 py_eq a L n h:=by cases n with|zero=>omega|succ n=>rfl
 lay a:=rfl
 dep a:=by simp[PyData.depth]
 eqv a b:=by cases a<;>cases b<;>simp[PyData.eqv]
section
variable {J β γ:Type} [Enc J] [Enc β] [Enc γ]
theorem lay_all:∀l:List J,PyData.canLayAll0 (l.map Enc.p)=true
 | []=>rfl
 |a::r=>by simp only[VB,PyData.canLayAll0,Enc.lay a,lay_all r,Bool.and_self]
theorem dep_all:∀l:List J,PyData.depthAll (l.map Enc.p)<=Enc.k J
 | []=>by simp[PyData.depthAll]
 |a::r=>by
  have h1:=Enc.dep a;have h2:=dep_all r;simp only[VB,PyData.depthAll];omega
end
section
variable {J:Type} [Enc J] [DecidableEq J]
end
section
variable {O:G} {L:M}
theorem A1{ev:BV}{b:Bool}{Z4:M}(h:ev O L=some (b,Z4)):upB ev O L=some (.ok b,Z4):=by unfold upB;rw[h];rfl
theorem zg{ev:LV}{ds:List D}{Z4:M}(h:ev O L=some (ds,Z4)):upL ev O L=some (.ok ds,Z4):=by unfold upL;rw[h];rfl
theorem wl{es:SV}{o:Out}{ZX:G}{Z4:M}(h:es O L=some (o,ZX,Z4)):upS es O L=some (upO o,ZX,Z4):=by unfold upS;rw[h];rfl
theorem yK{a b:SX}{ZX:G}{Z4:M}(h:a O L=some (.nx,ZX,Z4)):rg a b O L=b ZX Z4:=by unfold rg;rw[h];rfl
theorem yD{t:BX}{a b:SX}{Z4:M}(h:t O L=some (.ok false,Z4)):sC t a b O L=b O Z4:=by unfold sC;rw[h];rfl
theorem xQ{f:FX}{el:LX}{ds:List D}{Z4:M}(h:el O L=some (.ok ds,Z4)):vLX f el O L=f ds Z4:=by unfold vLX;rw[h];rfl
theorem Kq{ea:EX}{d:D}{Z4:M}(h:ea O L=some (.ok d,Z4)):wn ea O L=some (.nx,O,Z4):=by unfold wn;rw[h];rfl
theorem Fq{ea:EX}{d:D}{Z4:M}(h:ea O L=some (.ok d,Z4)):vz ea O L=some (.rt d,O,Z4):=by unfold vz;rw[h];rfl
theorem zQ{n m:Nat}{es:SX}{ds:List D}{d:D}{ZX:G}{Z4:M}(hl:ds.length=m)(h:es (ds.map some++List.replicate (n - ds.length) none) L=some (.rt d,ZX,Z4)):rO n m es ds L=some (.ok d,Z4):=by
 unfold rO;rw[if_pos hl,h];rfl
theorem Et{n m:Nat}{es:SX}{ds:List D}{ZX:G}{Z4:M}(hl:ds.length=m)(h:es (ds.map some++List.replicate (n - ds.length) none) L=some (.nx,ZX,Z4)):rO n m es ds L=some (.ok .non,Z4):=by
 unfold rO;rw[if_pos hl,h];rfl
end
structure Kp (k:Nat) (L Z5:M):Prop where
 len:L.length<=Z5.length
 at_:∀j,j<L.length->j≠k->Z5[j]?=L[j]?
def Kp.refl{k:Nat}{L:M}:Kp k L L:=⟨Vv _,fun _ _ _=>rfl⟩
def Kp.trans{k:Nat}{L Z4 Z3:M}(h:Kp k L Z4)(g:Kp k Z4 Z3):Kp k L Z3:=⟨V0 h.len g.len,fun j hj n=>(g.at_ j (VM hj h.len) n).trans (h.at_ j hj n)⟩
def NY{k:Nat}{L ex:M}:Kp k L (L++ex):=⟨by simp,fun j hj _=>VL hj⟩
def xm{k:Nat}{L:M}{o:Option Z8}:Kp k L (L.set k o):=⟨by simp,fun j hj n=>VT (Ne.symm n)⟩
structure Gr (L Z5:M):Prop where
 len:L.length<=Z5.length
 at_:∀j,j<L.length->Z5[j]?=L[j]?
def Gr.refl{L:M}:Gr L L:=⟨Vv _,fun _ _=>rfl⟩
def Gr.trans{L Z4 Z3:M}(h:Gr L Z4)(g:Gr Z4 Z3):Gr L Z3:=⟨V0 h.len g.len,fun j hj=>(g.at_ j (VM hj h.len)).trans (h.at_ j hj)⟩
def Gr.get{j:Nat}{L Z5:M}{o:Option Z8}(h:Gr L Z5)(e:L[j]?=some o):Z5[j]?=some o:=(h.at_ j (Vw.mp e).1).trans e
def gr_app{L ex:M}:Gr L (L++ex):=⟨by simp,fun j hj=>VL hj⟩
def Gr.setN{j:Nat}{L Z5:M}{o:Option Z8}(h:Gr L Z5)(hj:L.length<=j):Gr L (Z5.set j o):=⟨by simpa using h.len,fun i hi=>by
 rw[VT (by omega)];exact h.at_ i hi⟩
end L3
namespace L2
open PySem PySem.Spec PyProof.Rows
end L2
namespace L3
open PySem PySem.Spec L2
def rh(f:Str)(d:D):List (Str×D)->List (Str×D)
 | []=>[(f,d)]
 |(g,e)::r=>if g=f then(g,d)::r else(g,e)::rh f d r
section
variable {K:Frag} {W:Wd}
theorem FR.get{f:Str}:∀{fs:List (Str×D)} {vs:List (Str×V)} {d:D},FR K W fs vs->fs.lookup f=some d->∃v,vs.lookup f=some v/\DR K W d v
 |_,_,_,.nil,h=>by cases h
 |(g,e)::r,(g',e')::r',d,.cons h t,q=>by
  obtain⟨h1,h2⟩:=h;have h1:g=g':=h1;subst h1;rw[VS] at q⊢;cases hb:f==g with
  |true=>rw[hb] at q;cases q;exact⟨e',rfl,h2⟩
  |false=>rw[hb] at q;exact FR.get t q
theorem FR.none{f:Str}:∀{fs:List (Str×D)} {vs:List (Str×V)},FR K W fs vs->fs.lookup f=none->vs.lookup f=none
 |_,_,.nil,h=>rfl
 |(g,e)::r,(g',e')::r',.cons h t,q=>by
  obtain⟨h1,h2⟩:=h;have h1:g=g':=h1;subst h1;rw[VS] at q⊢;cases hb:f==g with
  |true=>rw[hb] at q;cases q
  |false=>rw[hb] at q;exact FR.none t q
theorem FR.put{f:Str}{d:D}{v:V}(r:DR K W d v):∀{fs:List (Str×D)} {vs:List (Str×V)},FR K W fs vs->FR K W (rh f d fs) (rk f v vs)
 |_,_,.nil=>.cons ⟨rfl,r⟩ .nil
 |(g,e)::l,(g',e')::l',.cons h t=>by
  obtain⟨h1,h2⟩:=h;have h1:g=g':=h1;subst h1;simp only[rh,rk];split
  ·exact .cons ⟨rfl,r⟩ t
  ·exact .cons ⟨rfl,h2⟩ (FR.put r t)
theorem FR.len:∀{fs:List (Str×D)} {vs:List (Str×V)},FR K W fs vs->fs.length=vs.length
 |_,_,.nil=>rfl
 |_,_,.cons _ t=>by simp[FR.len t]
theorem BL{k:Nat}{C:Addr}{fs:List (Str×D)}{v:V}(ok:Ok K W)(h:W.L[k]?=some (some (.ins C fs)))(r:DR K W (.ref k) v):∃a dx vs,v=.ref a/\W.ρ[k]?=some a/\W.H a=some (.ins C dx vs)/\FR K W fs vs:=by
 cases r with
 |ref ha=>
  obtain⟨a',ho,h1,h2,vs,⟨dx,rfl⟩,r⟩:=ok.at_ k _ h;rw[ha] at h1;cases h1;exact(⟨_,dx,vs,rfl,ha,h2,r⟩)
end
structure FldC (K:Frag) (C:Addr) (f:Str):Prop where
 cl:Cls K C
 na:NoAttr K C f
def rQ(C:Addr)(f:Str)(x:D)(L:M):Fr:=match x with
 | .ref k=>match L[k]? with
  |some (some (.ins C' fs))=>if C'=C then(fs.lookup f).bind fun d=>some (d,L) else none
  |_=>none
 |_=>none
def w6(C:Addr)(f:Str)(eo ev:EV):SV:=fun O L=>(ev O L).bind fun p=>(eo O p.2).bind fun q=>match q.1 with
 | .ref k=>match q.2[k]? with
  |some (some (.ins C' fs))=>if C'=C/\fs.length<1000 then some (.nx,O,q.2.set k (some (.ins C (rh f p.1 fs)))) else none
  |_=>none
 |_=>none
section
variable {X:Cx} {K:Frag} {o e value:Expr} {es:List Expr} {f m:Str} {pos pos' apos p:Pos} {eo ev:EV} {el:LV} {C:Addr}
theorem uC(hC:FldC K C f)(he:PE X e (tD K eo))(hb:attributeBase e f X.env (eval e X.env)=eval e X.env:=by rfl)(hK:X.K=K:=by rfl):PE X (.Attribute e f pos) (tD K (v1 (rQ C f) eo)):=by
 subst hK;refine qb (OL he hb) (vt ?_);intro W x d z Z5 Q ok r1 hf q;unfold rQ at hf;split at hf
 ·split at hf
  ·rename_i k C' fs hk;split at hf
   ·rename_i hc;subst hc;obtain⟨d',hl,hf⟩:=bnd hf;cases hf;obtain⟨a,dx,vs,rfl,_,hh,hr⟩:=BL ok hk r1;obtain⟨v,hv,rv⟩:=hr.get hl;exact(⟨a,_,dx,vs,v,rfl,hh,hC.cl,hC.na,hv,q v W rfl ok .refl rv⟩)
   ·cases hf
  ·cases hf
 ·cases hf
theorem AD(hC:FldC K C f)(ho:PE X o (tD K eo))(hv:PE X value (tD K ev))(hs:swapsWith value (some (.Attribute o f pos')) pos.line X.env=pure false:=by rfl)(hK:X.K=K:=by rfl):PS X (.Assign [.Attribute o f pos'] value pos) (tDS K (w6 C f eo ev)):=by
 subst hK;refine rH (Vi ho hv hs) fun D B H h=>?_;refine el5 h fun W O out ZY Z5 eH ok en e q=>?_;subst eH;refine pK e fun p1 e1 e=>?_;refine pK e fun p2 e2 e=>?_;refine⟨W,O,p1.1,p1.2,rfl,ok,en,e1,fun y W1 ZK ok1 s1 r1=>⟨W1,O,p2.1,p2.2,rfl,ok1,en.step ok s1,by rw[ZK];exact e2,fun x W2 ZV ok2 s2 r2=>?_⟩⟩;split at e
 ·rename_i k hk;rw[hk] at r2;split at e
  ·rename_i C' fs hfs;split at e
   ·rename_i hc;obtain⟨hc,hl⟩:=hc;subst hc;cases e;rw[←ZV] at hfs;obtain⟨a,dx,vs,rfl,ha,hh,hr⟩:=BL ok2 hfs r2;have r1':=r1.step ok1 s2;have okp:=zC (o:=.ins C' dx (rk f y vs)) (x:=.ins C' (rh f p1.1 fs)) ok2 hfs ha ⟨_,⟨dx,rfl⟩,hr.put r1'⟩;have sp:=vN (o:=.ins C' dx (rk f y vs)) (x:=.ins C' (rh f p1.1 fs)) hfs ha;refine⟨a,C',dx,vs,rfl,hh,hC.cl,hC.na,by rw[←hr.len];exact hl,?_⟩;exact q (W2.put k a (.ins C' dx (rk f y vs)) (.ins C' (rh f p1.1 fs))) B (by show W2.L.set _ _=_;rw[ZV]) okp ((s1.trans s2).trans sp) (((en.step ok s1).step ok1 s2).step ok2 sp)
   ·cases e
  ·cases e
 ·cases e
structure MtC (P:Program) (w:World) (K:Frag) (mg:Str->Option Value) (base:Heap) (CX:CXT) (k:Nat) (C:Addr) (m:Str) (ps:List Str) (sp:Sp):Prop where
 cl:Cls K C
 fn:∃f fd,Meth K C m f/\FnOk P w K mg base CX k f fd ps sp/\Binds K fd ps []
def noM(L:M)(C:Addr)(m:Str):D->Bool
 | .ref k=>match L[k]? with
  |some (some (.ins C' fs))=>decide (C'=C)&&(fs.lookup m).isNone
  |_=>false
 |_=>false
def uH(C:Addr)(m:Str)(g:C0)(eo:EV)(el:LV):EV:=fun O L=>(eo O L).bind fun p=>if noM p.2 C m p.1=true then(el O p.2).bind fun q=>g (p.1::q.1) q.2 else none
theorem ME{W:Wd}{d:D}{v:V}(ok:Ok K W)(h:noM W.L C m d=true)(r:DR K W d v):∃a dx fs,v=.ref a/\W.H a=some (.ins C dx fs)/\fs.lookup m=none:=by
 cases d with
 |ref k=>
  simp only[noM] at h;split at h
  ·rename_i C' fs hk;simp only[V9,Wr,Option.isNone_iff_eq_none] at h;obtain⟨rfl,h2⟩:=h;obtain⟨a,dx,vs,e,_,hh,hr⟩:=BL ok hk r;exact(⟨a,dx,vs,e,hh,hr.none h2⟩)
  ·cases h
 |_=>cases h
theorem OF{g:C0}:∀B H Q,tD K (uH C m g eo el) B H Q->Fv C m (spM K g) [] E0 (tD K eo) (tDL K el) B H Q:=fun B H Q h=>by
 refine el4 h fun W O d Z5 eH ok en e q=>?_;subst eH;refine pK e fun p1 e1 e=>?_;refine⟨W,O,p1.1,p1.2,rfl,ok,en,e1,fun x W1 ZK ok1 s1 r1=>?_⟩;split at e
 ·rename_i hn;refine pK e fun p2 e2 e=>?_;rw[←ZK] at hn;obtain⟨a,dx,fs,ex,hh,hl⟩:=ME ok1 hn r1;refine⟨a,dx,fs,ex,hh,hl,W1,O,p2.1,p2.2,rfl,ok1,en.step ok s1,by rw[ZK];exact e2,fun vs W2 ZV ok2 s2 r2=>?_⟩;show spM K g (x::(vs++[])) W2.H Q E0;rw[Wn];exact⟨W2,p1.1::p2.1,d,Z5,rfl,ok2,.cons (r1.step ok1 s2) r2,by rw[ZV];exact e,fun v W3 ZR ok3 s3 r3=>q v W3 ZR ok3 ((s1.trans s2).trans s3) r3⟩
 ·cases e
theorem x8{k:Nat}{ps:List Str}{g:C0}{pl:Sem Bool}(M':MtC X.prog X.w X.K X.mg X.base CX0 k C m ps (spM K g))(hr:Room k X.A)(ho:PE X o (tD K eo))(ha:PA X (e::es) (tDL K el))
  (hst:starEach (e::es) X.env=(false,eval e X.env)::starEach es X.env:=by rfl) (hpl:(backTo pos (starEach es X.env)).any (·.1)=false:=by rfl)
  (ht:eval (.Call (.Attribute o m apos) (e::es) [] pos) X.env=(do
   let ov ←eval o X.env
   standAt apos.atName
   let (f,first) ←holding [ov] (getMethod ov m pl)
   callWith pos f first (backTo pos (starEach (e::es) X.env)) (backToKw pos (keywordEach [] X.env))):=by rfl):PE X (.Call (.Attribute o m apos) (e::es) [] pos) (tD K (uH C m g eo el)):=by
 obtain⟨f,fd,hm,F,hb⟩:=M'.fn;exact(qb (Pa ho M'.cl hm F hr hb .nil Bn ha hst hpl ht) OF)
structure MkC (P:Program) (w:World) (K:Frag) (mg:Str->Option Value) (base:Heap) (CX:CXT) (k:Nat) (C:Addr) (x:Str) (ps:List Str) (sp:Sp):Prop where
 mgx:mg x=some (.ref C)
 fn:∃f fd,Mk K C f/\FnOk P w K mg base CX k f fd ps sp/\Binds K fd ps []
def zJ(C:Addr)(g:C0)(el:LV):EV:=fun O L=>(el O L).bind fun p=>(g (.ref p.2.length::p.1) (p.2++[some (.ins C [])])).bind fun q=>match q.1 with
 | .non=>some (.ref p.2.length,q.2)
 |_=>none
theorem SY{g:C0}:∀B H Q,tD K (zJ C g el) B H Q->JZ C (spM K g) [] E0 (tDL K el) B H Q:=fun B H Q h=>by
 refine el4 h fun W O d Z5 eH ok en e q=>?_;subst eH;refine pK e fun p1 e1 e=>?_;obtain⟨⟨d2,Z3⟩,e2,e⟩:=bnd e;refine(⟨W,O,p1.1,p1.2,rfl,ok,en,e1,fun vs W1 ZK ok1 s1 r1 x dx hx hdx hne=>?_⟩);rw[Wn];have oka:=rL (o:=.own x) ok1 hdx;have sa:=qJ (W:=W1) (o:=.own x) hdx;have hx2:(W1.lay dx (.own x)).H x=none:=by show upd W1.H dx _ x=none;rw[pW (Ne.symm hne)];exact hx
 have okb:=yl (x:=.ins C []) (o:=.ins C dx []) oka hx2 ⟨[],⟨dx,rfl⟩,.nil⟩;have sb:=ud (K:=K) (x:=.ins C []) (o:=.ins C dx []) oka hx2;have rb:=yf (K:=K) (W:=W1.lay dx (.own x)) (p:=x) (o:=.ins C dx []) (x:=.ins C []) oka;have hl:(W1.lay dx (.own x)).L.length=p1.2.length:=by show W1.L.length=_;rw[ZK]
 rw[hl] at rb;cases d2 with
 |non=>
  have e:some (D.ref p1.2.length,Z3)=some (d,Z5):=e;obtain⟨hd,hm⟩:d=.ref p1.2.length/\Z5=Z3:=by cases e;exact⟨rfl,rfl⟩
  subst hd hm;refine⟨(W1.lay dx (.own x)).new x (.ins C dx []) (.ins C []),.ref p1.2.length::p1.1,.non,Z5,rfl,okb,.cons rb ((r1.step ok1 sa).step oka sb),?_,fun v W3 ZR ok3 s3 r3=>?_⟩
  ·show g _ (W1.L++_)=_;rw[ZK];exact e2
  ·cases r3;exact⟨rfl,q _ W3 ZR ok3 (((s1.trans sa).trans sb).trans s3) (rb.step okb s3)⟩
 |_=>cases e
theorem Vs{x:Str}{k:Nat}{ps:List Str}{g:C0}(M':MkC X.prog X.w X.K X.mg X.base CX0 k C x ps (spM K g))(hr:Room (k+1) X.A)(ha:PA X (e::es) (tDL K el))(hg:Gl X x:=by rfl)(hdb:(x==("__debug__":Str))=false:=by decide)
  (he:starEach (e::es) X.env=(false,eval e X.env)::starEach es X.env:=by rfl) (hpl:(backTo pos (starEach es X.env)).any (·.1)=false:=by rfl):PE X (.Call (.Name x p) (e::es) [] pos) (tD K (zJ C g el)):=by
 obtain⟨f,fd,mk,F,hb⟩:=M'.fn;exact(qb (Su mk F hr hg M'.mgx hb .nil Bn ha hdb he hpl) SY)
end
def dn(f:FX):C0:=fun ds L=>(f ds L).bind fun p=>match p.1 with
 | .ok d=>some (d,p.2)
 | .ex _=>none
section
variable {P:Program} {w:World} {K:Frag} {mg:Str->Option Value} {base:Heap} {k:Nat} {f:Addr} {fd:FuncData} {ps:List Str} {g:FX}
theorem Iy:∀vs H Q E E',spM K (dn g) vs H Q E->spX K g vs H Q E':=fun vs H Q E E' h=>by
 obtain⟨W,ds,d,Z5,h1,h2,h3,e,q⟩:=h;obtain⟨⟨r,Z4⟩,e1,e⟩:=bnd e;cases r with
 |ok d'=>
  have e:some (d',Z4)=some (d,Z5):=e;obtain⟨rfl,rfl⟩:d'=d/\Z4=Z5:=by cases e;exact⟨rfl,rfl⟩
  exact⟨W,ds,.ok d',Z4,h1,h2,h3,e1,fun W' a b c v rv=>q v W' a b c rv⟩
 |ex C=>cases e
theorem Vn(F:FnOk P w K mg base (CXr P w) k f fd ps (spX K g)):FnOk P w K mg base CX0 k f fd ps (spM K (dn g)):=by
 refine⟨fun vs H Q E h=>F.len vs H Q E (Iy vs H Q E E h),fun A outer s H args us vs Q E hr he hb hv hs=>?_⟩;refine codeAny_mono (F.run A outer s H args us vs Q (fun _ _ _=>False) hr he hb hv (Iy vs H Q E _ hs)) fun r s' h=>?_;cases r with
 |ok fl=>cases fl<;>exact h
 |error e=>
  obtain⟨a,C,H',Z7,_,_,z⟩:=h;exact(z.elim)
theorem Df.dn{x:Str}(D:DfX P w K mg base k x ps (spX K g)):Df P w K mg base k x ps (spM K (L3.dn g)):=let ⟨f,fd,F,r⟩:=D;⟨f,fd,Vn F,r⟩
end
end L3
namespace L2
open PySem PySem.W PySem.Spec PyProof.Rows
end L2
namespace L3
open PySem PySem.Spec L2
end L3
namespace L2
open PySem PySem.W PySem.Spec PyProof.Rows
end L2
namespace L3
open PySem PySem.Spec L2
end L3
namespace L2
open PySem PySem.W PySem.Spec PyProof.Rows
end L2
namespace L3
open PySem PySem.Spec L2
open PyProof.Rows (envOfC)
end L3
namespace L2
open PySem PyProof.Rows
section
open PySem.SeqAt
open PySem.AutoSeq1 (wpAny_loadPart')
open PySem.MeetsSeq PySem.MeetsSeq2 PySem.MeetsSeq3
end
end L2
namespace L3
open PySem PySem.Spec L2
end L3
namespace L2
open PySem PySem.Spec PyProof.Rows
def slot_long_next:Slot "longrange_iterator" "__next__" "longrange_iterator.__next__":=
 .of (owner:="longrange_iterator") (n:="__next__") (by rw[typeLookup_type,builtinLookup_eq_fast];kernel_rfl) (by decide +kernel) (by decide +kernel) (by decide +kernel)
  (by first|exact .inl (by decide +kernel)|exact .inr (by decide +kernel)) (by rw[isSubtype_type];kernel_rfl)
def N5:entryFor table "longrange_iterator.__next__"=some Builtin.«longrange_iterator.__next__»:=entryFor_of_tree (by kernel_rfl)
def IT:Manifest.owners.lookup (String.ofList ['r','o','t','a','r','e','t','i','_','e','g','n','a','r','g','n','o','l'].reverse)=some Manifest.sig_longrange_iterator:=by kernel_rfl
def UT(a:Value):argsOk "longrange_iterator.__next__" ⟨[a],[]⟩:=by
 unfold argsOk;rw[signature?_of (id:="longrange_iterator.__next__") (n:=['_','_','t','x','e','n','_','_']) (o:=['r','o','t','a','r','e','t','i','_','e','g','n','a','r','g','n','o','l']) (by kernel_rfl) IT];kernel_rfl
def Ir:Slot "longrange_iterator" "__iter__" "longrange_iterator.__iter__":=
 .of (owner:="longrange_iterator") (n:="__iter__") (by rw[typeLookup_type,builtinLookup_eq_fast];kernel_rfl) (by decide +kernel) (by decide +kernel) (by decide +kernel)
  (by first|exact .inl (by decide +kernel)|exact .inr (by decide +kernel)) (by rw[isSubtype_type];kernel_rfl)
def PZ(a:Value):argsOk "longrange_iterator.__iter__" ⟨[a],[]⟩:=by
 unfold argsOk;rw[signature?_of (id:="longrange_iterator.__iter__") (n:=['_','_','r','e','t','i','_','_']) (o:=['r','o','t','a','r','e','t','i','_','e','g','n','a','r','g','n','o','l']) (by kernel_rfl) IT];kernel_rfl
def N4:entryFor table "longrange_iterator.__iter__"=some Builtin.«dict_keyiterator.__iter__»:=
 entryFor_alias (id':="dict_keyiterator.__iter__") (by kernel_rfl) (by first|rfl|decide +kernel|(unfold String.splitOn;simp +decide [String.splitOnAux])) (by decide +kernel) (by kernel_rfl)
def D1(h:Heap)(it:Addr):Prop:=h.get? it=some {cls:=.type "longrange_iterator",dict:=none,data:=.fields #[rawInt 0,rawInt 0,rawInt 1],slots:=#[]}
section
variable {prog:Program} {w:World} {A:Around} {E:OK} {s:Shared}
theorem Rl{r:Addr}{b:Int}{t u v:Tok}{Q:OK}(hr:IsRange s.heap r 0 b 1 t u v)(hb:b< -(2^62))(hsmall:Builtin.Range.small 0 b 1=false)
  (hQ:Q (.ref s.heap.objs.size) {s with heap:=s.heap.push {cls:=.type "longrange_iterator",data:=.fields #[rawInt 0,rawInt 0,rawInt 1]}}):
  wpAny (model prog w) A (pyIter (.ref r)) Q E s:=by
 have hT:s.TypeIs (.ref r) "range":=⟨_,hr,rfl⟩
 refine wpAny_pyIter_slot hT F.slot_range_iter (call_meets F.slot_range_iter hT F.entry_range_iter (F.args_range_iter_1 _)
  (AutoRange.range___iter___range_0 r 0 b 1 t u v (by unfold Builtin.Range.small at hsmall;rw[hsmall];rfl)) ⟨hr,?_⟩)
 unfold Builtin.Range.small at hsmall;have hz:Builtin.Range.rangeSize 0 b 1=0:=by rw[rangeSize_one];split<;>omega
 simp only[hsmall,V7,if_false];rw[hz];exact⟨"longrange_iterator",_,⟨_,VC _ rfl,rfl⟩,slot_long_next.lookup,hQ⟩
theorem Oh{it:Addr}{Q:OK}(hit:D1 s.heap it)(h:Q (.ref it) s):wpAny (model prog w) A (pyIter (.ref it)) Q E s:=by
 have hT:s.TypeIs (.ref it) "longrange_iterator":=⟨_,hit,rfl⟩
 refine wpAny_pyIter_slot hT Ir (wpAny_call_entry Ir hT N4 ?_ (PZ _));show wpAny _ _ (ret (.ref it)) _ _ s;exact Vx ⟨_,rfl,"longrange_iterator",_,hT,slot_long_next.lookup,h⟩
theorem Ln{it:Addr}{Q:Option Value->Shared->Prop}(hh:A.handled=none)(hit:D1 s.heap it)
  (hQ:∀h',Heap.ExtBut it s.heap h'->Q none {s with heap:=h'}):wpAny (model prog w) A (pyNext (.ref it)) Q E s:=by
 have hT:s.TypeIs (.ref it) "longrange_iterator":=⟨_,hit,rfl⟩
 unfold pyNext;refine Vt (wpAny_attempt (wpAny_callSpecial?_slot (name:=Str.ofString "__next__") hT slot_long_next
  (wpAny_call_entry slot_long_next hT N5 ?_ (UT _))))
 unfold Builtin.«longrange_iterator.__next__»;wp_walk;simp only[raiseNew];refine Vt (wpAny_handled ?_);first|rw[show A.in1.handled=none from hh]|rw[hh]
 refine Vt (Vx (wpAny_throw ?_));refine Vt (wpAny_isInstance (T:="StopIteration") (b:=true) ⟨_,VC _ rfl,rfl⟩ isSubtype_stop ?_);exact Vx (hQ _ (((Heap.ExtBut.refl it s.heap).push _).push _))
end
theorem T8{P:Program}{w:World}{K:Frag}{tg:Expr}(it:Addr):Turn P w K tg (Itr 0 0) [it] it (fun _ h=>D1 h it) where
 mem:=by simp
 obj:=fun i h st b hb=>by
  have e:b=it:=by simpa using hb
  subst e;exact⟨_,st,fun v z=>by
   have z':Data.fields _=Data.cell v:=z;cases z'⟩
 keep:=fun i h h' st k=>k it (by simp) _ st
 item:=by
  intro X hP hw hK hc i pins s B H E I hf st hg;exact absurd (show i<0 from hg) (Nat.not_lt_zero _)
 done:=by
  intro X hP hw hK hc i pins s B H E I hf st hg;subst hP hw hK;obtain⟨f0,f1,f2,f3,f4,f5⟩:=hf it (by simp);exact(Ln (I.ok.hd hc) st fun h' eb=>⟨rfl,I.turned (t':=s.toks) (fun b o hb e=>eb b o hb e) f0 f1 f3 f4 f5⟩)
 self:=fun _ _ _ _ _ st h=>Oh st h
section
variable {X:Cx} {tg:Expr}
theorem S3{pins:QS}{B:St}{H:Hp}{s:Shared}{R:It->Hp->Prop}{E:OK}{hi:Int}{t u v:Tok}{tk:Nat}(I:Inv X pins B H s)(h3:hi< -(2^62))(hs:Builtin.Range.small 0 hi 1=false)
  (q:R (Itr 0 0) H):wpAny (model X.prog X.w) X.A (pyIter (.ref s.heap.objs.size)) (PIE X pins B tg R) E {s with heap:=s.heap.push {cls:=.type "range",data:=.fields #[.int 0 t,.int hi u,.int 1 v]},toks:=tk}:=by
 refine Rl (IsRange.new ..) h3 hs ?_;have I1:Inv X pins B H {s with heap:=s.heap.push {cls:=.type "range",data:=.fields #[.int 0 t,.int hi u,.int 1 v]},toks:=tk}:=I.kept fun b o e=>Vu _ e;refine⟨(s.heap.push {cls:=.type "range",data:=.fields #[.int 0 t,.int hi u,.int 1 v]}).objs.size,[(s.heap.push {cls:=.type "range",data:=.fields #[.int 0 t,.int hi u,.int 1 v]}).objs.size],_,_,H,rfl,
  I1.kept (t':=tk) fun b o e=>Vu _ e,T8 _,?_,fun b hb=>?_,q⟩
 ·exact VC _ rfl
 ·have e:b=(s.heap.push {cls:=.type "range",data:=.fields #[.int 0 t,.int hi u,.int 1 v]}).objs.size:=by simpa using hb
  subst e;exact I1.fpOk (Vv _) (I1.hok.fresh (Vv _))
theorem Ob{pins:QS}{B:St}{H:Hp}{s:Shared}{R:It->Hp->Prop}{E:OK}{hi:Int}{t u v:Tok}{tk:Nat}(I:Inv X pins B H s)(h3:hi< -(2^62))(hs:Builtin.Range.small 0 hi 1=true)
  (q:R (Itr 0 0) H):wpAny (model X.prog X.w) X.A (pyIter (.ref s.heap.objs.size)) (PIE X pins B tg R) E {s with heap:=s.heap.push {cls:=.type "range",data:=.fields #[.int 0 t,.int hi u,.int 1 v]},toks:=tk}:=by
 refine wpAny_pyIter_range (IsRange.new ..) hs ?_;have I1:Inv X pins B H {s with heap:=s.heap.push {cls:=.type "range",data:=.fields #[.int 0 t,.int hi u,.int 1 v]},toks:=tk}:=I.kept fun b o e=>Vu _ e;refine⟨(s.heap.push {cls:=.type "range",data:=.fields #[.int 0 t,.int hi u,.int 1 v]}).objs.size,[(s.heap.push {cls:=.type "range",data:=.fields #[.int 0 t,.int hi u,.int 1 v]}).objs.size],_,_,H,rfl,
  I1.kept (t':=tk) fun b o e=>Vu _ e,GJ _ 0 0,?_,fun b hb=>?_,q⟩
 ·have e1:(0:Int)+((0:Nat):Int)*1=0:=by simp
  have e2:(((0:Nat):Nat):Int) - ((0:Nat):Int)=Builtin.Range.rangeSize 0 hi 1:=by rw[rangeSize_one];split<;>omega
  show IsRangeIter _ _ (0+((0:Nat):Int)*1) (((0:Nat):Int) - ((0:Nat):Int)) 1;rw[e1,e2];exact VC _ rfl
 ·have e:b=(s.heap.push {cls:=.type "range",data:=.fields #[.int 0 t,.int hi u,.int 1 v]}).objs.size:=by simpa using hb
  subst e;exact I1.fpOk (Vv _) (I1.hok.fresh (Vv _))
def Qk(ta:TA):TI:=fun B H R=>ta B H fun vs H1=>∃j:Int,vs=[.int j]/\j<2^62/\R (Itr 0 j.toNat) H1
theorem Q4{a:Expr}{ta:TA}{p pos:Pos}(hg:Gl X "range") (hm:X.mg "range"=none) (ha:PA X [a] ta) (hs:starEach [a] X.env=[(false,eval a X.env)]:=by rfl):PI X tg (.Call (.Name "range" p) [a] [] pos) (Qk ta):=by
 intro pins s B H R I h;refine Call_ (t6 I hg hm boot_range (Wa (thn (ha pos pins s B H _ I h) fun us s1 hm=>?_) hs rfl));obtain⟨vs,H1,I1,r1,q1⟩:=hm;obtain⟨j,e,q2,q⟩:=q1;subst e;cases r1 with
 |cons r rr=>
  cases rr;obtain⟨t,rfl⟩:=r;by_cases hj:-(2^62)<=j
  ·exact call_range_1 (Dd I1 (by omega) (by omega) hj q2 (by simpa using q))
  ·have e0:j.toNat=0:=by omega
   rw[e0] at q;cases hsm:Builtin.Range.small 0 j 1 with
   |false=>exact call_range_1 (S3 I1 (by omega) hsm q)
   |true=>exact call_range_1 (Ob I1 (by omega) hsm q)
end
end L2
namespace L3
open PySem PySem.Spec L2
section
variable {X:Cx} {K:Frag} {ea:EV} {pos:Pos}
def yQ(ea:EV):IV:=fun O L=>(ea O L).bind fun p=>match p.1 with
 | .int j=>if j<=1000000000 then some ((qq 0 j.toNat,none),p.2) else none
 |_=>none
theorem NF(mr:X.mg "range"=none) {tg a:Expr} {p:Pos} (ha:PE X a (tD K ea)) (hg:Gl X "range":=by rfl) (hs:starEach [a] X.env=[(false,eval a X.env)]:=by rfl):PI X tg (.Call (.Name "range" p) [a] [] pos) (tDI K (yQ ea)):=wB (Q4 hg mr (qM ha rG hs) hs) fun B H R h=>by
 refine el5 h fun W O its c Z5 eH ok en e q=>?_;subst eH;refine pK e fun p1 e1 e=>?_;split at e
 ·rename_i j hj;split at e
  ·rename_i hb;cases e;refine⟨W,O,p1.1,p1.2,rfl,ok,en,e1,fun v W1 Z1 ok1 s1 r1=>?_⟩;rw[hj] at r1;cases r1;exact⟨j,rfl,by omega,q _ W1 Z1 ok1 s1 DE⟩
  ·cases e
 ·cases e
theorem R8{O:G}{L Z4:M}{j:Int}(h:ea O L=some (.int j,Z4))(hj:j<=1000000000):yQ ea O L=some ((qq 0 j.toNat,none),Z4):=by
 unfold yQ;rw[h];show(if j<=1000000000 then _ else _)=_;rw[if_pos hj]
end
def Wd.ice(W:Wd)(k:Nat)(d:Addr)(u:HO):Wd:=⟨W.ρ,W.L.set k none,upd W.H d u,W.hid⟩
section
variable {K:Frag} {W:Wd} {k:Nat} {d:Addr} {x:Z8} {u:HO}
theorem S2{a:Addr}(h:RL (W.ice k d u) a):∃j o,j≠k/\W.L[j]?=some (some o)/\W.ρ[j]?=some a:=by
 obtain⟨j,o,h1,h2⟩:=h;have h1:(W.L.set k none)[j]?=some (some o):=h1;by_cases e:j=k
 ·subst e;rw[List.getElem?_set] at h1;simp at h1
 ·rw[VT (Ne.symm e)] at h1;exact⟨j,o,e,h1,h2⟩
theorem A9(hk:W.L[k]?=some (some x))(ha:W.ρ[k]?=some d):Step W (W.ice k d u) where
 ρ _ _ h:=h
 live a h:=let ⟨j,o,_,h1,h2⟩:=S2 h;.inl ⟨j,o,h1,h2⟩
 keep a o e n:=by
  show upd W.H d u a=_;have hne:a≠d:=fun z=>n ⟨k,x,hk,by rw[z];exact ha⟩;rw[pW hne];exact e
 hid:=rfl
 still a h:=by
  show upd W.H d u a≠none;by_cases z:a=d
  ·subst z;rw[qG];simp
  ·rw[pW z];exact h
theorem U8(ok:Ok K W)(hk:W.L[k]?=some (some x))(ha:W.ρ[k]?=some d):Ok K (W.ice k d u) where
 len:=by show W.ρ.length=(W.L.set k none).length;rw[WT];exact ok.len
 nd:=ok.nd
 rs a m:=(A9 (u:=u) hk ha).still a (ok.rs a m)
 at_ j o e:=by
  have e:(W.L.set k none)[j]?=some (some o):=e;have hj:j≠k:=fun z=>by subst z;rw[List.getElem?_set] at e;simp at e
  rw[VT (Ne.symm hj)] at e;obtain⟨a,ho,h1,h2,h3⟩:=ok.at_ j o e;have hne:a≠d:=fun z=>by
   subst z;obtain⟨l1,g1⟩:=Vw.mp h1;obtain⟨l2,g2⟩:=Vw.mp ha;have hn:=Wx.mp ok.nd;rcases Nat.lt_trichotomy j k with z|z|z
   ·exact hn j k l1 l2 z (g1.trans g2.symm)
   ·exact hj z
   ·exact hn k j l2 l1 z (g2.trans g1.symm)
  refine⟨a,ho,h1,by show upd W.H d u a=_;rw[pW hne];exact h2,?_⟩;have st:=A9 (W:=W) (u:=u) hk ha;cases o with
  |lst ds=>obtain⟨vs,e,q⟩:=h3;exact⟨vs,e,q.step ok st⟩
  |dK kvs=>obtain⟨vs,e,q⟩:=h3;exact⟨vs,e,Paired.mapP q fun _ _ ⟨e,q⟩=>⟨e,q.step ok st⟩⟩
  |dN kvs=>obtain⟨vs,e,q⟩:=h3;exact⟨vs,e,Paired.mapP q fun _ _ ⟨e,q⟩=>⟨e,q.step ok st⟩⟩
  |ins C fs=>obtain⟨vs,e,q⟩:=h3;exact⟨vs,e,Paired.mapP q fun _ _ ⟨e,q⟩=>⟨e,q.step ok st⟩⟩
  |exc C=>exact h3
 hd0 a z:=⟨(A9 (u:=u) hk ha).still a (ok.hd0 a z).1,(ok.hd0 a z).2⟩
end
def y3:Key->D
 | .inl i=>.int i
 | .inr x=>.str x
def M6{K:Frag}{W:Wd}(k:Key):DR K W (y3 k) (kV k):=by
 cases k with
 |inl i=>exact .int i
 |inr x=>exact .str x
def KR.get{K:Frag}{W:Wd}{kvs:List (Key×D)}{vs:List (Key×V)}(r:KR K W kvs vs):∀{i:Nat} {k:Key} {d:D} {k':Key} {v:V},kvs[i]?=some (k,d)->vs[i]?=some (k',v)->k=k'/\DR K W d v:=by
 induction r with
 |nil=>intro i k d k' v h;simp at h
 | @cons a b l r hd tl ih=>
  intro i k d k' v h h2;cases i with
  |zero=>
   simp at h h2;subst h h2;exact hd
  |succ i=>exact ih (by simpa using h) (by simpa using h2)
def A6(own:List Str)(cap:List (Str×Nat))(eo:EV)(g:GV)(tc:BV)(tk tv:EV):EV:=fun O L=>(eo O L).bind fun s=>(rl s.2 s.1).bind fun kvs=>match s.1 with
 | .ref n=>chk (kvs.length<=1000000) ((tZ s.2.length none g tc tk tv (kvs.map fun kv=>.tup [y3 kv.1,kv.2]) (qt own cap O) (s.2.set n none++[some (.dK [])])).bind fun Z5=>some (.ref s.2.length,Z5))
 |_=>none
section
variable {X:Cx} {K:Frag} {N' own:List Str} {cap:List (Str×Nat)} {scope:Scope} {kx vx o:Expr} {ifs elts:List Expr} {pos apos cpos tpos:Pos} {eo:EV} {g:GV} {tc:BV} {tk tv:EV} {n:Nat}
theorem PD{W1:Wd}{Z6:It}{its:List D}{c:Ck}{ZF:G}{ZM:St}{Z5:M}{p:Addr}{Z:Hp->Prop}(ok1:Ok K W1)(hp:W1.H p=none)(jr:p8 c W1.L/\∀(W2:Wd) (i:Nat),Ok K W2->p8 c W2.L->Step W1 W2->(its.length<=i->Z6.stop i W2.H)/\∀d,its[i]?=some d->Z6.go i W2.H/\∀x H',Z6.yld i W2.H x H'->∃W3,W3.H=H'/\W3.L=W2.L/\Ok K W3/\Step W2 W3/\DR K W3 d x)(en:EnvR K W1 ZF ZM)
  (c0:p8 c (W1.L++[some (.dK [])])) (e:tZ W1.L.length c g tc tk tv its ZF (W1.L++[some (.dK [])])=some Z5) (hZ:∀W',W'.L=Z5->Ok K W'->Step W1 W'->DR K W' (.ref W1.L.length) (.ref p)->Z W'.H):
  zu Z6 (tDG K g) (tDB K tc) (tD K tk) (tD K tv) p ZM W1.H Z:=by
 obtain⟨c1,hj⟩:=jr;have ok0:=yl (x:=.dK []) (o:=.dK []) ok1 hp ⟨[],rfl,.nil⟩;have s0:=ud (K:=K) (x:=.dK []) (o:=.dK []) ok1 hp;have r0:=yf (K:=K) (W:=W1) (p:=p) (o:=.dK []) (x:=.dK []) ok1;obtain⟨P,hP⟩:∃P:Nat->St->Hp->Prop,∀i ZW H2,P i ZW H2↔(i<=its.length/\∃W2 ZT,W2.H=H2/\Ok K W2/\Step (W1.new p (.dK []) (.dK [])) W2/\EnvR K W2 ZT ZW/\p8 c W2.L/\tZ W1.L.length c g tc tk tv (its.drop i) ZT W2.L=some Z5):=⟨_,fun _ _ _=>Iff.rfl⟩
 refine⟨fun i m ZW H2=>m=its.length - i/\P i ZW H2,?_,?_⟩
 ·exact⟨its.length,by simp,(hP _ _ _).2 ⟨Wm _,W1.new p (.dK []) (.dK []),ZF,rfl,ok0,.refl,en.step ok1 s0,c0,e⟩⟩
 rintro i m ZW H2 ⟨rfl,hi⟩;refine bq fun hG=>?_;obtain⟨hi,W2,ZT,rfl,ok2,s2,en2,c2,e2⟩:=(hP _ _ _).1 hi;obtain⟨hstop,hgo⟩:=hj W2 i ok2 c2 (s0.trans s2);by_cases hlt:i<its.length
 ·have hd:its[i]?=some its[i]:=VA hlt;obtain⟨h1,h2⟩:=hgo _ hd;rw[V8 hlt] at e2;refine pK e2 fun pg e3 e2=>?_;refine pK e2 fun pt e4 e2=>?_;refine(hG (.inr ⟨h1,P (i+1),fun ZZ H' hN=>⟨its.length - (i+1),by omega,rfl,hN⟩,fun x H' hy=>?_⟩));refine bq fun hF=>?_;obtain⟨W3,rfl,ZR,ok3,s3,r3⟩:=h2 x H' hy;refine hF ⟨W3,ZT,its[i],pg.1,pg.2,rfl,ok3,en2.step ok2 s3,r3,by rw[ZR];exact e3,fun W4 ZP ZC ok4 s4 en4=>⟨W4,pg.1,pt.1,pt.2,rfl,ok4,en4,by rw[ZC];exact e4,fun W5 ZO ok5 s5=>?_⟩⟩;have s25:=s3.trans (s4.trans s5);split at e2
  ·rename_i ht;refine pK e2 fun py e5 e2=>?_;refine pK e2 fun pv e6 e2=>?_;refine pK e2 fun k e7 e2=>?_;refine pK e2 fun kvs e8 e2=>?_;obtain⟨⟨hl,c5⟩,e2⟩:=D7 e2;refine(vD (fun _=>?_) (fun n=>absurd ht n));refine⟨W5,pg.1,py.1,py.2,rfl,ok5,en4.step ok4 s5,by rw[ZO];exact e5,fun y W6 Zw ok6 s6 r6=>⟨W6,pg.1,pv.1,pv.2,rfl,ok6,(en4.step ok4 s5).step ok5 s6,by rw[Zw];exact e6,fun v W7 Zm ok7 s7 r7=>?_⟩⟩;have s27:=(s25.trans s6).trans s7;rw[←Zm] at e8;have rp:DR K W7 (.ref W1.L.length) (.ref p):=(r0.step ok0 s2).step ok2 s27;obtain⟨n,a,us,hd,hv,hk,ha,hh,hs⟩:=xJ ok7 e8 rp;cases hd;cases hv;obtain⟨o8,s8⟩:=K0 (vs':=qP us k v) (kvs':=sq kvs k pv.1) ok7 hk ha (hs.put k r7);exact⟨us,k,hh,yi (by rw[←hs.len];omega),Cn e7 (r6.step ok6 s7),(hP _ _ _).2 ⟨hlt,W7.put W1.L.length p (.dK (qP us k v)) (.dK (sq kvs k pv.1)),pg.1,rfl,o8,(s2.trans s27).trans s8,(((en4.step ok4 s5).step ok5 s6).step ok6 s7).step ok7 s8,by show p8 c (W7.L.set _ _);rw[Zm];exact c5,by show tZ _ c g tc tk tv _ _ (W7.L.set _ _)=_;rw[Zm];exact e2⟩⟩
  ·rename_i ht;refine tq e2 fun c5 e2=>?_;refine vD (fun n=>absurd n ht) (fun _=>?_);exact(hP _ _ _).2 ⟨hlt,W5,pg.1,rfl,ok5,s2.trans s25,en4.step ok4 s5,by rw[ZO];exact c5,by rw[ZO];exact e2⟩
 ·have e':i=its.length:=by omega
  subst e';rw[Wl (Vv _)] at e2;cases e2;exact hG (.inl ⟨hstop (Vv _),hZ W2 rfl ok2 (s0.trans s2) (r0.step ok0 s2)⟩)
theorem Qb(S:CompScope X N' own cap scope)(ho:PE X o (tD K eo))
  (hg:∀cl C Z2 Z0 ex,PG (pR X N' scope cl C Z2 Z0 ex) (.Tuple elts n tpos) (tDG K g)) (ht:∀cl C Z2 Z0 ex,PIf (pR X N' scope cl C Z2 Z0 ex) ifs (tDB K tc)) (hk:∀cl C Z2 Z0 ex,PE (pR X N' scope cl C Z2 Z0 ex) kx (tD K tk)) (hv:∀cl C Z2 Z0 ex,PE (pR X N' scope cl C Z2 Z0 ex) vx (tD K tv))
  (hx:∀e s,X.xe e s->False:=by exact fun _ _ z=>z) (hc:X.calm=true:=by rfl) (hs:∀x,foldedSetIterable (.Call (.Attribute o "items" apos) [] [] cpos) X.env x=pure x:=by intro _;rfl)
  (hbase:attributeBase o "items" X.env (eval o X.env)=eval o X.env:=by rfl) (hline:(apos.endLine==cpos.line)=true:=by rfl) (hK:X.K=K:=by rfl):
  PE X (.DictComp kx vx [⟨.Tuple elts n tpos,.Call (.Attribute o "items" apos) [] [] cpos,ifs,0⟩] scope pos) (tD K (A6 own cap eo g tc tk tv)):=qb (SD S (Qe (R7 K ho hbase hline hK)) hg ht hk hv hx hc hs) fun B H Q h=>by
 refine el4 h fun W O d Z5 eH ok en e q=>?_;subst eH;refine pK e fun p1 e1 e=>?_;refine pK e fun kvs e2 e=>?_;refine⟨W,O,p1.1,p1.2,rfl,ok,en,e1,fun x W1 ZK ok1 s1 r1=>?_⟩;rw[←ZK] at e2;obtain⟨k,a,vs,hd,rfl,hk1,ha1,hh,hs1⟩:=xJ ok1 e2 r1;rw[hd] at e;refine tq e fun hl e=>?_;refine pK e fun Z3 e3 e=>?_;cases e;refine(⟨BI ok1 e2 r1,a,vs,rfl,rfl,hh,fun v hv=>?_⟩);have hav:a≠v:=fun z=>by rw[z,hv] at hh;cases hh
 refine⟨v,a,vs,rfl,qG,by rw[pW hav];exact hh,fun ob p hp=>?_⟩;have okL:=rL (o:=viO v a) ok1 hv;have stL:=qJ (W:=W1) (o:=viO v a) hv;have hkL:(W1.lay v (viO v a)).L[k]?=some (some (.dK kvs)):=hk1;have haL:(W1.lay v (viO v a)).ρ[k]?=some a:=ha1;have okI:=U8 (u:=.frz ob (.dK vs)) okL hkL haL;have stI:=A9 (W:=W1.lay v (viO v a)) (u:=.frz ob (.dK vs)) hkL haL;have krI:KR K ((W1.lay v (viO v a)).ice k a (.frz ob (.dK vs))) kvs vs:=Paired.mapP hs1 fun _ _ ⟨e,q⟩=>⟨e,(q.step ok1 stL).step okL stI⟩
 have hfI:((W1.lay v (viO v a)).ice k a (.frz ob (.dK vs))).H a=some (.frz ob (.dK vs)):=qG;generalize hWI:(W1.lay v (viO v a)).ice k a (.frz ob (.dK vs))=WI at okI stI krI hfI;have Zc:WI.L=p1.2.set k none:=by rw[←hWI];show W1.L.set k none=_;rw[ZK]
 have hHI:WI.H=upd (upd W1.H v (viO v a)) a (.frz ob (.dK vs)):=by rw[←hWI];rfl
 have hlen:p1.2.length=WI.L.length:=by rw[Zc,WT]
 have stA:=(s1.trans stL).trans stI;rw[←hHI] at hp⊢;refine PD (c:=none) (its:=kvs.map fun kv=>.tup [y3 kv.1,kv.2]) (ZF:=qt own cap O) okI hp ⟨trivial,fun W2 i ok2 _ s2=>?_⟩ ((en.step ok stA).cap own cap) trivial (Z5:=Z5) (by rw[←hlen,Zc];exact e3) fun W' h1 h2 h3 h4=>?_
 ·have hf2:W2.H a=some (.frz ob (.dK vs)):=s2.keep _ _ hfI (okI.nofrz hfI);have kr2:KR K W2 kvs vs:=Paired.mapP krI fun _ _ ⟨e,q⟩=>⟨e,q.step okI s2⟩
  refine⟨fun hi=>⟨hf2,by rw[VF,krI.len] at hi;exact hi⟩,fun dd hdd=>?_⟩;rw[VR] at hdd;cases hkv:kvs[i]? with
  |none=>rw[hkv] at hdd;cases hdd
  |some kv=>
   rw[hkv] at hdd;simp at hdd;subst hdd;have hi:i<vs.length:=by rw[←krI.len];exact(Vw.mp hkv).1
   refine⟨⟨hf2,hi⟩,fun x H' hy=>?_⟩;obtain⟨pp,kk,vv,rfl,hpn,rfl,hvs⟩:=hy;obtain⟨ek,rv⟩:=kr2.get (k:=kv.1) (d:=kv.2) hkv hvs;refine(⟨W2.lay pp (.tup [kV kk,vv]),rfl,rfl,rL ok2 hpn,qJ hpn,?_⟩);rw[ek];exact uG ok2 hpn (.cons (M6 kk) (.cons rv .nil))
 ·refine q _ W' h1 h2 (stA.trans h3) ?_;rw[hlen];exact h4
end
end L3
namespace L2
open PySem PySem.Spec PyProof.Rows
section
open PySem.SeqAt
open PySem.AutoSeq1 (wpAny_loadPart')
open PySem.MeetsSeq PySem.MeetsSeq2 PySem.MeetsSeq3 PySem.SeqRoads2
theorem PF(l:Addr)(items:Array Value)(n:Nat)(dd:Option Addr)(sl:Array (Option Value))(x:Value)(e:Nat->Bool)(k:Nat):
  ∀i:Nat,items.size - i=k->Meets (Builtin.«list.__contains__.loop» ⟨[.ref l,x,rawInt i],[]⟩)
   (fun A R s=>s.heap.get? l=some {cls:=.type "list",dict:=dd,data:=.seq items n,slots:=sl}/\(∀j (h:j<items.size),EqAt A.in1 s items[j] x (e j))/\R (.ok (.ret (.bool (((List.range items.size).drop i).any e)))) s):=by
 induction k with
 |zero=>
  intro i hk prog w A R s h;obtain⟨hp,g,d,tk,os⟩:=s;obtain⟨hl,he,h⟩:=h;wp_walk using WS hl;have hi:items[((i:Nat):Int).toNat]?=none:=by simp;omega
  have hd:(List.range items.size).drop i=[]:=by simp;omega
  rw[hd] at h;rw[hi];wp_walk;exact h
 |succ k ih=>
  intro i hk prog w A R s h;obtain⟨hp,g,d,tk,os⟩:=s;obtain⟨hl,he,h⟩:=h;wp_walk using WS hl;have hlt:i<items.size:=by omega
  have hi:items[((i:Nat):Int).toNat]?=some items[i]:=by simp[hlt]
  have hd:(List.range items.size).drop i=i::(List.range items.size).drop (i+1):=by simp[V8,hlt]
  rw[hd,WZ] at h;rw[hi];refine Vt (he i hlt prog w _ _ ?_);cases hb:e i with
  |true=>
   rw[hb] at h;wp_walk;exact h
  |false=>
   rw[hb] at h;have hc:((i:Int)+1)=((i+1:Nat):Int):=by push_cast;rfl
   wp_walk;rw[hc];exact⟨W8 plain_contains_loop _,WV entry_contains_loop (by
    rw[Wo plain_contains_loop _];exact ih (i+1) (by omega) prog w A R _ ⟨hl,he,by simpa using h⟩)⟩
theorem Nr(l:Addr)(items:Array Value)(n:Nat)(dd:Option Addr)(sl:Array (Option Value))(x:Value)(e:Nat->Bool):
  Meets (Builtin.«list.__contains__» ⟨[.ref l,x],[]⟩)
   (fun A R s=>s.heap.get? l=some {cls:=.type "list",dict:=dd,data:=.seq items n,slots:=sl}/\(∀j (h:j<items.size),EqAt A.in1 s items[j] x (e j))/\R (.ok (.ret (.bool ((List.range items.size).any e)))) s):=by
 intro prog w A R s h;obtain⟨hp,g,d,tk,os⟩:=s;obtain⟨hl,he,h⟩:=h;wp_walk using WS hl;exact⟨W8 plain_contains_loop _,WV entry_contains_loop (by
  rw[Wo plain_contains_loop _];exact PF l items n dd sl x e _ 0 rfl prog w A R _ ⟨hl,he,by simpa using h⟩)⟩
theorem NC{prog:Program}{w:World}{A:Around}{E:OK}{s:Shared}{l:Addr}{items:Array Value}{x:Value}{Q:OK}(e:Nat->Bool)(hl:s.heap.IsList l items)(he:∀j (h:j<items.size),EqAt A.in1 s items[j] x (e j))
  (h:Q (.bool ((List.range items.size).any e)) s):wpAny (model prog w) A (compareOp .In x (.ref l)) Q E s:=by
 obtain⟨⟨cls,dd,data,sl⟩,ho,hc,n,hd⟩:=id hl;simp only at hc hd;subst hc hd;exact in_meets ⟨_,ho,rfl⟩ F.slot_list_contains F.entry_list_contains (F.args_list_contains_2 _ _) (Nr l items n dd sl x e) ⟨ho,he,_,rfl,h⟩
end
theorem Ic:∀{ds:List PyData} {i:Nat} {d:PyData},PyData.canLayAll0 ds=true->ds[i]?=some d->d.canLay0=true
 | [],i,d,_,h=>by simp at h
 |a::r,0,d,hl,h=>by simp[PyData.canLayAll0] at hl;simp at h;subst h;exact hl.1
 |a::r,i+1,d,hl,h=>by simp[PyData.canLayAll0] at hl;simp at h;exact Ic hl.2 h
def RS{X:Cx}(hu:X.A.units+64<cLine):OpR X (compareOp .In) (fun x y H Q=>∃p xs ds d,y=.ref p/\SqL X.K H p xs/\Dps X.K H xs ds/\Dp X.K H x d/\(PyData.canLayAll0 ds&&d.canLay0&&decide (d.depth<=60))=true/\Q (.bl (ds.any fun e=>PyData.eqv e d)) H):=by
 intro pins s B H x y v u Q I rx ry h;obtain⟨p,xs,ds,d,rfl,hq,hs,hd,hc,q⟩:=h;simp only[V9,Wr] at hc;cases ry;obtain⟨its,rv,pl,hz⟩:=I.list hq;obtain⟨as,r1⟩:=hd.reads I rx;have hl:=rv.length;have hl2:=hs.len;refine(NC (fun j=>PyData.eqv (ds.getD j .none) d) pl.isList (fun j hj=>?_) ?_)
 ·have hj':j<its.length:=by simpa using hj
  have hx:xs[j]?=some (xs[j]'(by omega)):=VA (by omega);obtain⟨e,he,hde⟩:=hs.get hx;obtain⟨w,hw,rw'⟩:=rv.get hx;obtain⟨bs,r2⟩:=hde.reads I rw';have e1:its.toArray[j]=w:=by
   have:its[j]?=some (its[j]'hj'):=VA hj';rw[this] at hw;cases hw;simp
  have e2:ds.getD j .none=e:=by simp[VD,he]
  rw[e1,e2];refine SeqAt.eqAt_reads e d _ s _ _ _ _ r2 r1 (Ic hc.1.1 he) hc.1.2 ?_;have:X.A.in1.units<=X.A.units+1:=by simp[Around.in1]
  have:=Nat.min_le_right e.depth d.depth;omega
 ·have e:(List.range its.toArray.size).any (fun j=>PyData.eqv (ds.getD j .none) d)=ds.any fun e=>PyData.eqv e d:=by
   have hsz:its.toArray.size=ds.length:=by simp;omega
   rw[hsz,WW];simp only[WN,Wh];constructor
   ·rintro⟨j,hj,e⟩;exact⟨ds[j],V5 _,by simpa[VD,VA hj] using e⟩
   ·rintro⟨e,hm,he⟩;obtain⟨j,hj⟩:=Wk hm;exact(⟨j,(Vw.mp hj).1,by simpa[VD,hj] using he⟩)
  rw[e];exact⟨.bl _,H,I,rfl,q⟩
section
variable {X:Cx} {N' own:List Str} {cap:List (Str×Nat)} {scope:Scope} {tg iter elt:Expr} {ifs:List Expr} {pos:Pos} {wi:TI} {g:TG} {tc:TT} {te:TE}
theorem Qw(S:CompScope X N' own cap scope)(hi:PI X tg iter wi)
  (hg:∀cl C Z2 Z0 ex,PG (pR X.nox N' scope cl C Z2 Z0 ex) tg g) (ht:∀cl C Z2 Z0 ex,PIf (pR X.nox N' scope cl C Z2 Z0 ex) ifs tc) (he:∀cl C Z2 Z0 ex,PE (pR X.nox N' scope cl C Z2 Z0 ex) elt te)
  (hc:X.calm=true:=by rfl) (hs:∀x,foldedSetIterable iter X.env x=pure x:=by intro _;rfl):
  PE X (.ListComp elt [⟨tg,iter,ifs,0⟩] scope pos) (G0 own cap wi g tc te):=by
 intro pins s B H Q I h;rw[eval_ListComp];obtain⟨cl,hcl,c1,c2⟩:=zd (scope:=scope) (env:=X.env) fun y hy hk=>I.ok.has y.1 (S.free y hy hk);refine(WF (use:=none) rfl hs hcl S.kind S.names (thn (hi pins s B H _ I h) fun v s1 h1=>thn h1 fun itv s2 h2=>?_));obtain⟨it,fp,tn,Z6,H2,e,I2,T,st2,f2,q⟩:=h2;subst e;have S':CompScope X.nox N' own cap scope:=⟨S.kind,S.own1,S.free1,S.names,S.free,S.eq,S.cap⟩
 refine(Ha (X:=X.nox) (RR:=fun acc C=>compPost (model X.prog X.w) X.A X.xe none (EP X pins B Q) acc C) (Z:=fun D=>Q (.ref D)) (fun _ _ z=>z) hc S' hg ht he (I2.wish _) T st2 f2 c1 c2 q ?_);intro D C s' m' H' I' hn' f' z;exact⟨m',hn',fun h'' hs''=>⟨.ref D,H',I'.unwish.letgo f' hs'',rfl,z⟩⟩
end
end L2
namespace L3
open PySem PySem.Spec L2
section
variable {X:Cx} {K:Frag} {a b:Expr} {ea eb:EV} {pos p:Pos} {k:Nat}
def uP(neg:Bool)(x y:D)(L:M):Fr:=if neg=true then none else(qE L y).bind fun ds=>(qd (py 65 L) ds).bind fun es=>(py 65 L x).bind fun d=>if(PyData.canLayAll0 es&&d.canLay0&&decide (d.depth<=60))=true then some (.bl (es.any fun e=>PyData.eqv e d),L) else none
theorem QZ:R2A K (fun x y H Q=>∃p xs ds d,y=.ref p/\SqL K H p xs/\Dps K H xs ds/\Dp K H x d/\(PyData.canLayAll0 ds&&d.canLay0&&decide (d.depth<=60))=true/\Q (.bl (ds.any fun e=>PyData.eqv e d)) H) (uP false):=by
 intro W x y d e z Z5 Q ok r1 r2 hf q;unfold uP at hf;rw[if_neg (by simp)] at hf;refine pK hf fun ds h1 hf=>?_;refine pK hf fun es h2 hf=>?_;obtain⟨d',h3,hf⟩:=bnd hf;split at hf
 ·rename_i hc;cases hf;obtain⟨a,vs,rfl,hs,hv⟩:=vf ok h1 r2;exact(⟨a,vs,es,d',rfl,hs,v6 (uY ok 65) hv h2,uY ok _ _ _ _ r1 h3,hc,q _ W rfl ok .refl (.bl _)⟩)
 ·cases hf
theorem Tq(hr:Room k X.A)(ha:PE X a (tD K ea))(hb:PE X b (tD K eb))(hm:behindInMarks .In b=false:=by rfl)(hK:X.K=K:=by rfl):PE X (.Compare a [.In] [b] pos) (tD K (v2 (uP false) ea eb)):=by
 subst hK;exact Ac (RS hr.units) QZ ha hb hm
end
section
variable {X:Cx} {E:St->XK} {K:Frag} {N' own:List Str} {cap:List (Str×Nat)} {scope:Scope} {tg iter elt:Expr} {ifs:List Expr} {pos:Pos} {ex:EX} {g:GV} {tc:BV} {te:EV}
def wk(own:List Str)(cap:List (Str×Nat))(ex:EX)(g:GV)(tc:BV)(te:EV):EX:=fun O L=>(ex O L).bind fun p=>match p.1 with
 | .ok d=>(lsC p.2 d).bind fun s=>if s.1.length<=1000000 then(qF s.2 g tc te s.1 (qt own cap O) p.2).bind fun q=>some (.ok (.lst q.1),q.2) else none
 | .ex C=>some (.ex C,p.2)
theorem FD(S:CompScope X N' own cap scope)(hi:PE X iter (tX K E ex))
  (hg:∀cl C Z2 Z0 ex,PG (pR X.nox N' scope cl C Z2 Z0 ex) tg (tDG K g)) (ht:∀cl C Z2 Z0 ex,PIf (pR X.nox N' scope cl C Z2 Z0 ex) ifs (tDB K tc)) (he:∀cl C Z2 Z0 ex,PE (pR X.nox N' scope cl C Z2 Z0 ex) elt (tD K te))
  (hc:X.calm=true:=by rfl) (hs:∀x,foldedSetIterable iter X.env x=pure x:=by intro _;rfl) (hK:X.K=K:=by rfl):
  PE X (.ListComp elt [⟨tg,iter,ifs,0⟩] scope pos) (tX K E (wk own cap ex g tc te)):=by
 subst hK;refine qb (Qw S (GZ hi) hg ht he hc hs) fun B H Q h=>?_;refine el4 h fun W O r Z5 eH ok en e q=>?_;subst eH;obtain⟨⟨r1,Z4⟩,e1,e⟩:=bnd e;refine(⟨W,O,r1,Z4,rfl,ok,en,e1,fun W1 ZK ok1 s1=>?_⟩);cases r1 with
 |ex C=>
  cases e;exact q W1 ZK ok1 s1
 |ok d=>
  intro v rv;obtain⟨⟨its,c⟩,e2,e⟩:=bnd e;split at e
  ·rename_i hl;obtain⟨⟨rs,Z3⟩,e3,e⟩:=bnd e;cases e;obtain⟨c0,a,rfl,hh⟩:=Eg ok1 (by rw[ZK];exact e2) rv;obtain⟨vs0,h0,_⟩:=hh W1 ok1 c0 rv;refine(⟨a,rfl,⟨_,h0⟩,fun p hp=>?_⟩);have jr:JR X.K W1 (Itl X.K a) its c:=⟨c0,[d],[.ref a],.cons rv .nil,fun W2 i ok2 c2 r2=>by
    cases r2 with
    |cons r2 _=>
     obtain⟨vs,hs,hv⟩:=hh W2 ok2 c2 r2;refine⟨fun hi=>⟨vs,hs,by rw[←hv.length];exact hi⟩,fun d hd=>?_⟩;obtain⟨v,hv1,hv2⟩:=hv.get hd;refine(⟨⟨vs,v,hs,hv1⟩,fun x H' y=>?_⟩);obtain⟨rfl,y⟩:=y;have:=y vs hs;rw[hv1] at this;cases this;exact⟨W2,rfl,rfl,ok2,.refl,hv2⟩⟩
   refine IR ok1 hp jr ((en.step ok s1).cap own cap) hl (by rw[ZK];exact e3) fun W' ys Zk ok' s' hp' hy r=>?_;obtain⟨a1,a2,a3⟩:=Cv s1 hp ok1 ok' s' hp' hy r;exact(q (W'.show W1.hid) Zk a1 a2 _ a3)
  ·cases e
end
section
variable {K:Frag} {k:Nat}
theorem Qp{W:Wd}(n:Nat):DRs K W (qq 0 n) ((List.range n).map fun k:Nat=>V.int (k:Int)):=by
 have h:=Cf (K:=K) (W:=W) ((List.range n).map fun k:Nat=>(k:Int));rw[Wb,Wb] at h;have e:qq 0 n=(List.range n).map (D.int∘fun k:Nat=>(k:Int)):=by
  unfold qq;exact Wv fun k _=>by simp
 rw[e];exact h
end
end L3
namespace L2
open PySem PySem.Spec PyProof.Rows
end L2
namespace L3
open PySem PySem.Spec L2
def qN(kvs:List (NK×D))(k:NK):Option D:=(kvs.find? fun kv=>decide (kv.1=k)).map (·.2)
def sZ(kvs:List (NK×D))(k:NK)(v:D):List (NK×D):=
 if(kvs.any fun kv=>decide (kv.1=k))=true then kvs.map (fun kv=>if kv.1=k then(kv.1,v) else kv) else kvs++[(k,v)]
def vF:D->Option NK
 | .tup [.tup ds,.int n]=>(qd inI ds).bind fun ns=>some (ns,n)
 |_=>none
def uT(L:M):D->Option (List (NK×D))
 | .ref k=>match L[k]? with
  |some (some (.dN kvs))=>some kvs
  |_=>none
 |_=>none
section
variable {K:Frag} {W:Wd}
theorem IZ:∀{ds:List D} {vs:List V} {ns:List Int},qd inI ds=some ns->DRs K W ds vs->vs=ns.map V.int
 | [],_,ns,h,r=>by cases h;cases r;rfl
 |d::ds,_,ns,h,r=>by
  cases r with
  |cons r1 r2=>
   simp only[qd] at h;refine pK h fun i e1 h=>?_;refine pK h fun is e2 h=>?_;cases h;have:=IZ e2 r2;subst this;cases d<;>simp only[inI] at e1<;>cases e1
   cases r1;rfl
theorem BQ{d:D}{k:NK}{v:V}(h:vF d=some k)(r:DR K W d v):∃b,v=.ref b/\NKey W.H b k:=by
 unfold vF at h;split at h
 ·rename_i ds n;refine pK h fun ns e h=>?_;cases h;cases r with
  | @tup a vs _ hh rs=>
   cases rs with
   |cons r1 rs=>
    cases rs with
    |cons r2 rs=>
     cases rs;cases r2;cases r1 with
     | @tup b us _ hb ru=>
      have:=IZ e ru;subst this;exact⟨a,rfl,b,hh,hb⟩
 ·cases h
theorem BG{d:D}{kvs:List (NK×D)}{v:V}(ok:Ok K W)(h:uT W.L d=some kvs)(r:DR K W d v):
  ∃k a vs,d=.ref k/\v=.ref a/\W.L[k]?=some (some (.dN kvs))/\W.ρ[k]?=some a/\W.H a=some (.dT vs)/\NR K W kvs vs:=by
 cases d with
 |ref k=>
  simp only[uT] at h;split at h
  ·rename_i kvs' hk;cases h;cases r with
   |ref ha=>
    obtain⟨a',ho,h1,h2,vs,rfl,r⟩:=ok.at_ k _ hk;rw[ha] at h1;cases h1;exact⟨k,_,vs,rfl,rfl,hk,ha,h2,r⟩
  ·cases h
 |_=>simp[uT] at h
theorem NR.len{kvs:List (NK×D)}{vs:List (NK×V)}(r:NR K W kvs vs):kvs.length=vs.length:=Paired.length r
theorem NR.any{kvs:List (NK×D)}{vs:List (NK×V)}(r:NR K W kvs vs)(k:NK):(kvs.any fun kv=>decide (kv.1=k))=vs.any fun kv=>decide (kv.1=k):=by
 unfold NR at r;induction r with
 |nil=>rfl
 |cons h t ih=>rw[WZ,WZ,ih,h.1]
theorem NR.val{kvs:List (NK×D)}{vs:List (NK×V)}(r:NR K W kvs vs)(k:NK):(qN kvs k).isSome=(rz vs k).isSome:=by
 unfold NR at r;induction r with
 |nil=>rfl
 | @cons p q ps qs h t ih=>
  by_cases e:p.1=k
  ·rw[v8 (by rw[←h.1];exact e)];simp[qN,VJ,e]
  ·rw[wt (by rw[←h.1];exact e)];simp only[qN,VJ,e,decide_false] at ih⊢;exact ih
theorem NR.at{kvs:List (NK×D)}{vs:List (NK×V)}(r:NR K W kvs vs){k:NK}{d:D}(h:qN kvs k=some d):∃v,rz vs k=some v/\DR K W d v:=by
 unfold NR at r;induction r with
 |nil=>cases h
 | @cons p q ps qs hd t ih=>
  by_cases e:p.1=k
  ·have:qN (p::ps) k=some p.2:=by simp[qN,VJ,e]
   rw[this] at h;cases h;exact⟨q.2,v8 (by rw[←hd.1];exact e),hd.2⟩
  ·have:qN (p::ps) k=qN ps k:=by simp[qN,VJ,e]
   rw[this] at h;obtain⟨v,h1,h2⟩:=ih h;exact⟨v,by rw[wt (by rw[←hd.1];exact e)];exact h1,h2⟩
theorem NR.put{kvs:List (NK×D)}{vs:List (NK×V)}(r:NR K W kvs vs)(k:NK){d:D}{v:V}(rv:DR K W d v):NR K W (sZ kvs k d) (qP vs k v):=by
 unfold sZ qP;rw[r.any k];by_cases e:(vs.any fun kv=>decide (kv.1=k))=true
 ·rw[if_pos e,if_pos e];unfold NR at r⊢;clear e;induction r with
  |nil=>exact .nil
  | @cons p q ps qs h t ih=>
   refine .cons ?_ ih;show(if p.1=k then(p.1,d) else p).1=(if q.1=k then(q.1,v) else q).1/\DR K W (if p.1=k then(p.1,d) else p).2 (if q.1=k then(q.1,v) else q).2;by_cases e:p.1=k
   ·rw[if_pos e,if_pos (by rw[←h.1];exact e)];exact⟨h.1,rv⟩
   ·rw[if_neg e,if_neg (by rw[←h.1];exact e)];exact h
 ·rw[if_neg e,if_neg e];exact Paired.snoc r ⟨rfl,rv⟩
theorem UV{k:Nat}{a:Addr}{kvs kvs':List (NK×D)}{vs':List (NK×V)}(ok:Ok K W)(hk:W.L[k]?=some (some (.dN kvs)))(ha:W.ρ[k]?=some a)(hs:NR K W kvs' vs'):
  Ok K (W.put k a (.dT vs') (.dN kvs'))/\Step W (W.put k a (.dT vs') (.dN kvs')):=⟨zC ok hk ha ⟨vs',rfl,hs⟩,vN hk ha⟩
theorem Go{H:Hp}{a b:Addr}{kvs:List (NK×V)}{k:NK}(e:H a=some (.dT kvs))(eb:NKey H b k):DGet H a (.ref b) (rz kvs k):=.inr ⟨kvs,k,b,.inl e,rfl,eb,rfl⟩
theorem S4{H:Hp}{a b:Addr}{kvs:List (NK×V)}{k:NK}{v:V}(e:H a=some (.dT kvs))(eb:NKey H b k)(hl:kvs.length<sizeLine):Dj H a (.ref b) v (upd H a (.dT (qP kvs k v))):=.inr ⟨kvs,k,b,e,rfl,eb,hl,rfl⟩
end
section
variable {X:Cx} {K:Frag} {a b e o i value:Expr} {ea eb eo ei:EV} {pos p pos':Pos} {k:Nat}
def DB:EV:=fun _ L=>some (.ref L.length,L++[some (.dN [])])
theorem MM:PE X (.Dict [] [] pos) (tD K DB):=qb Mp fun B H Q h=>by
 refine el4 h fun W O d Z5 eH ok en e q=>?_;subst eH;cases e;intro pa hp;exact q _ (W.new pa (.dT []) (.dN [])) rfl (yl ok hp ⟨[],rfl,.nil⟩) (ud ok hp) (yf ok)
def zT(x y:D)(L:M):Fr:=(uT L x).bind fun kvs=>(vF y).bind fun k=>(qN kvs k).bind fun d=>some (d,L)
theorem L0(hr:Room k X.A)(ha:PE X a (tD K ea))(hb:PE X b (tD K eb))(hs:AY b:=by exact fun _ _=>rfl):PE X (.Subscript a b pos) (tD K (v2 zT ea eb)):=
 qb (GB (by have:=hr.un;omega) ha hb hs) fun B H Q h=>by
  refine el4 h fun W O d Z5 eH ok en e q=>?_;subst eH;refine pK e fun p1 e1 e=>?_;refine pK e fun p2 e2 e=>?_;refine pK e fun kvs e3 e=>?_;refine pK e fun ky e4 e=>?_;refine pK e fun d2 e5 e=>?_;cases e;refine⟨W,O,p1.1,p1.2,rfl,ok,en,e1,fun x W1 Z1 ok1 s1 r1=>⟨W1,O,p2.1,p2.2,rfl,ok1,en.step ok s1,by rw[Z1];exact e2,fun y W2 ZV ok2 s2 r2=>?_⟩⟩;rw[←ZV] at e3;obtain⟨n,a,vs,hd,rfl,hk,ha,hh,hs⟩:=BG ok2 e3 (r1.step ok1 s2);obtain⟨b,rfl,hb⟩:=BQ e4 r2;obtain⟨v,h1,h2⟩:=hs.at e5;exact⟨a,v,rfl,by rw[←h1];exact Go hh hb,q _ W2 ZV ok2 (s1.trans s2) h2⟩
def yH(neg:Bool)(y x:D)(L:M):Fr:=(vF y).bind fun k=>(uT L x).bind fun kvs=>some (.bl (xor neg (qN kvs k).isSome),L)
theorem Pw(neg:Bool):∀B H Q,tD K (v2 (yH neg) ea eb) B H Q->(fun B H Q=>tD K ea B H fun y H1=>tD K eb B H1 fun x H2=>∃a ov,x=.ref a/\DGet H2 a y ov/\Q (.bl (xor neg ov.isSome)) H2:TE) B H Q:=fun B H Q h=>by
 refine el4 h fun W O d Z5 eH ok en e q=>?_;subst eH;refine pK e fun p1 e1 e=>?_;refine pK e fun p2 e2 e=>?_;refine pK e fun k e3 e=>?_;refine pK e fun kvs e4 e=>?_;cases e;refine⟨W,O,p1.1,p1.2,rfl,ok,en,e1,fun x W1 Z1 ok1 s1 r1=>⟨W1,O,p2.1,p2.2,rfl,ok1,en.step ok s1,by rw[Z1];exact e2,fun y W2 ZV ok2 s2 r2=>?_⟩⟩;rw[←ZV] at e4;obtain⟨n,a,vs,_,rfl,_,_,hh,hs⟩:=BG ok2 e4 r2;obtain⟨b,rfl,hb⟩:=BQ e3 (r1.step ok1 s2);refine⟨a,_,rfl,Go hh hb,?_⟩;rw[←hs.val k];exact q _ W2 ZV ok2 (s1.trans s2) (.bl _)
theorem L6(hr:Room k X.A)(ha:PE X a (tD K ea))(hb:PE X b (tD K eb))(hm:behindInMarks .NotIn b=false:=by rfl):PT X (.Compare a [.NotIn] [b] pos) (tDB K (vT (v2 (yH true) ea eb))):=
 vo (P2 (MH (by have:=hr.un;omega) ha hb) hm) (Cm fun B H Q h=>by
  have:=Pw true B H Q h;simp only[Bool.true_xor] at this;exact this)
def De(eo ei ev:EV):SV:=fun O L=>(ev O L).bind fun v=>(eo O v.2).bind fun p=>(ei O p.2).bind fun q=>(vF q.1).bind fun k=>(uT q.2 p.1).bind fun kvs=>match p.1 with
 | .ref n=>if kvs.length<16000000 then some (.nx,O,q.2.set n (some (.dN (sZ kvs k v.1)))) else none
 |_=>none
theorem Rn{ev:EV}(hr:Room k X.A)(ho:PE X o (tD K eo))(hi:PE X i (tD K ei))(hv:PE X value (tD K ev))(hs:swapsWith value (some (.Subscript o i pos')) pos.line X.env=pure false:=by rfl):
  PS X (.Assign [.Subscript o i pos'] value pos) (tDS K (De eo ei ev)):=rH (Sb (by have:=hr.un;omega) ho hi hv hs) fun D B H h=>by
 refine el5 h fun W O o ZY Z5 eH ok en e q=>?_;subst eH;refine pK e fun v0 e0 e=>?_;refine pK e fun p1 e1 e=>?_;refine pK e fun p2 e2 e=>?_;refine pK e fun ky e3 e=>?_;refine pK e fun kvs e4 e=>?_;refine⟨W,O,v0.1,v0.2,rfl,ok,en,e0,fun z W0 Y6 ok0 s0 r0=>⟨W0,O,p1.1,p1.2,rfl,ok0,en.step ok s0,by rw[Y6];exact e1,fun x W1 Z1 ok1 s1 r1=>⟨W1,O,p2.1,p2.2,rfl,ok1,(en.step ok s0).step ok0 s1,by rw[Z1];exact e2,fun y W2 ZV ok2 s2 r2=>?_⟩⟩⟩;rw[←ZV] at e4;obtain⟨n,a,vs,hd,rfl,hk,ha,hh,hs⟩:=BG ok2 e4 (r1.step ok1 s2);rw[hd] at e;simp only at e;split at e
 ·rename_i hl;cases e;obtain⟨b,rfl,hb⟩:=BQ e3 r2;obtain⟨o3,s3⟩:=UV (vs':=qP vs ky z) (kvs':=sZ kvs ky v0.1) ok2 hk ha (hs.put ky ((r0.step ok0 s1).step ok1 s2));refine⟨a,_,rfl,S4 hh hb (by rw[←hs.len,WM];omega),?_⟩;exact q (W2.put n a (.dT (qP vs ky z)) (.dN (sZ kvs ky v0.1))) B (by show W2.L.set _ _=_;rw[ZV]) o3 (((s0.trans s1).trans s2).trans s3) ((((en.step ok s0).step ok0 s1).step ok1 s2).step ok2 s3)
 ·cases e
end
end L3
namespace L2
open PySem PySem.Spec PyProof.Rows
section
variable {prog:Program} {w:World} {A:Around} {E:OK} {s:Shared}
theorem Oo{Q:List Value->Shared->Prop}{r:Addr}{a b c:Int}{t u v:Tok}{n:Nat}(hh:A.handled=none)(hr:IsRange s.heap r a b c t u v)(hsmall:Builtin.Range.small a b c=true)(hn:Builtin.Range.rangeSize a b c=n)(hlen:n<=2^24)
  (hQ:∀(h':Heap) (tk:Nat) (acc:Array Value),(∀b o,s.heap.get? b=some o->h'.get? b=some o)->ItemsOf (fun i v=>∃t,v=.int (a+i*c) t) acc n->Q acc.toList {s with heap:=h',toks:=tk}):
  wpAny (model prog w) A (collect (.ref r)) Q E s:=by
 unfold collect;refine Vt (wpAny_runValue (WV F.entry_proto_collect ?_));rw[Wo F.plain_proto_collect _];show wpAny _ A.in1 (newList [] >>= fun l=>again (.builtin "list.__iadd__" ⟨[l,.ref r],[]⟩)) _ _ s;refine Vt (Wg ?_);refine Vx ⟨W8 F.plain_list_iadd _,WV F.entry_list_iadd ?_⟩;rw[Wo F.plain_list_iadd _];show wpAny _ A.in1 (Builtin.List.listExtendWith (.ref s.heap.objs.size) (.ref r) (.ref s.heap.objs.size)) _ _ _;have hS:(s.heap.push {cls:=.type "list",data:=.seq ([]:List Value).toArray}).get? s.heap.objs.size=some {cls:=.type "list",data:=.seq #[] 0}:=VC _ rfl;have hr1:=Vu {cls:=.type "list",data:=.seq ([]:List Value).toArray} hr;have fin:∀(h':Heap) (tk:Nat) (acc:Array Value) (c':Nat),(∀b o,b≠s.heap.objs.size->(s.heap.push {cls:=.type "list",data:=.seq ([]:List Value).toArray}).get? b=some o->h'.get? b=some o)->h'.get? s.heap.objs.size=some {cls:=.type "list",dict:=none,data:=.seq acc c',slots:=#[]}->
   ItemsOf (fun i v=>∃t,v=.int (a+i*c) t) acc n->wpAny (model prog w) A (match Value.ref s.heap.objs.size with
   |Value.ref a=>do
    match(←load a).data with
     |Data.seq xs _=>pure xs.toList
     |_=>unsupported "internal:collect"
   |_=>unsupported "internal:collect") Q E {s with heap:=h',toks:=tk}:=by
  intro h' tk acc c' hk hS' hacc;show wpAny _ A (load s.heap.objs.size >>= _) _ _ _;refine Vt (wpAny_load hS' ?_);exact Vx (hQ h' tk acc (fun b o hb=>hk b o (VN (Vy hb)) (Vu _ hb)) hacc)
 refine Vz (wpAny_extend_range (A:=A) (s:={s with heap:=s.heap.push {cls:=.type "list",data:=.seq ([]:List Value).toArray}}) (R:=fun r' s'=>r'=.ok (.ret (.ref s.heap.objs.size))/\∃h' tk acc c',s'={s with heap:=h',toks:=tk}/\(∀b o,b≠s.heap.objs.size->(s.heap.push {cls:=.type "list",data:=.seq ([]:List Value).toArray}).get? b=some o->h'.get? b=some o)/\h'.get? s.heap.objs.size=some {cls:=.type "list",dict:=none,data:=.seq acc c',slots:=#[]}/\ItemsOf (fun i v=>∃t,v=.int (a+i*c) t) acc n)
  hh hr1 hsmall hn hlen s.heap.objs.size (.ref s.heap.objs.size) 0 hS (fun h' tk acc c' h1 h2 h3=>⟨rfl,h',tk,acc,c',rfl,h1,h2,h3⟩)) (fun fi s' h=>?_) (fun e s' h=>?_)
 ·cases fi with
  |done f=>
   obtain⟨e,h',tk,acc,c',rfl,h1,h2,h3⟩:=h;cases e;exact fin h' tk acc c' h1 h2 h3
  |again c2=>exact⟨h.1,codeAny_mono h.2 fun r s'' hr=>by obtain⟨rfl,h',tk,acc,c',rfl,h1,h2,h3⟩:=hr;exact fin h' tk acc c' h1 h2 h3⟩
 ·exact absurd h.1 (by simp)
theorem Up{Q₁:OK}{r:Addr}{a b c:Int}{t u v:Tok}{n:Nat}(hh:A.handled=none)(hr:IsRange s.heap r a b c t u v)(hsmall:Builtin.Range.small a b c=true)(hn:Builtin.Range.rangeSize a b c=n)(hlen:n<=2^24)
  (h:∀(h':Heap) (tk:Nat) (acc:Array Value),(∀b o,s.heap.get? b=some o->h'.get? b=some o)->ItemsOf (fun i v=>∃t,v=.int (a+i*c) t) acc n->Q₁ (.ref h'.objs.size) {s with heap:=h'.push {cls:=.type "tuple",data:=.seq acc},toks:=tk}) (hsz:n<=sizeLine):
  codeAny (model prog w) A (.call (.builtin "tuple.__new__") ⟨[.type "tuple",.ref r],[]⟩) (wants Q₁ E) s:=by
 refine codeAny_of_tree ?_;show wpAny _ A.in1 (do checkBuiltinCall "tuple.__new__" ⟨[.type "tuple",.ref r],[]⟩;again (.builtin "tuple.__new__" ⟨[.type "tuple",.ref r],[]⟩)) _ _ s;refine Vt (wpAny_of_eq (F.newCall_tuple_1 _) (Vx ⟨W8 F.plain_tuple_new _,WV F.entry_tuple_new ?_⟩));rw[Wo F.plain_tuple_new _];have hsub:=sub_tuple_self;have hinit:=init_tuple_lookup;have hmh:=madeHere_tuple;have hTI:s.TypeIs (.ref r) "range":=⟨_,hr,rfl⟩
 have hh1:A.in1.handled=none:=hh;wp_walk using wpAny_typeOf hTI,Oo hh1 hr hsmall hn hlen;intro h' tk acc hk hacc;show wpAny _ _ (Builtin.Tuple.tupleExact acc.toList.toArray >>= fun v=>ret v) _ _ _;unfold Builtin.Tuple.tupleExact;refine Vt (Wg ?_ (by show acc.toList.toArray.size<=sizeLine;simp only[Array.toArray_toList];rw[hacc.1];exact hsz));refine Vx ?_;have e:acc.toList.toArray=acc:=by simp
 rw[e];exact h h' tk acc hk hacc
theorem Rg{Q:OK}{r:Addr}{a b c:Int}{t u v:Tok}{n:Nat}(hh:A.handled=none)(hr:IsRange s.heap r a b c t u v)(hsmall:Builtin.Range.small a b c=true)(hn:Builtin.Range.rangeSize a b c=n)(hlen:n<=2^24)
  (h:∀(h':Heap) (tk:Nat) (acc:Array Value),(∀b o,s.heap.get? b=some o->h'.get? b=some o)->ItemsOf (fun i v=>∃t,v=.int (a+i*c) t) acc n->Q (.ref h'.objs.size) {s with heap:=h'.push {cls:=.type "tuple",data:=.seq acc},toks:=tk}) (hsz:n<=sizeLine):
  wpAny (model prog w) A (call (.type "tuple") [.ref r]) Q E s:=by
 refine callType_codes (Q₁:=fun obj ZU=>ZU.TypeIs obj "tuple"/\Q obj ZU) F.called_tuple (F.typeCall_tuple_1 _) F.entry_object_init
  (Up hh hr hsmall hn hlen (fun h' tk acc hk hacc=>⟨⟨_,VC _ rfl,rfl⟩,h h' tk acc hk hacc⟩) hsz) fun obj ZU ZQ=>?_
 exact⟨ZQ.1,F.args_object_init_2 obj _,object_init_meets F.called_tuple.init.lookup F.called_tuple.made (by decide) prog w A.in1 _ ZU ⟨ZQ.1,rfl,ZQ.2⟩⟩
end
section
variable {X:Cx} {a:Expr} {ta:TE} {p pos:Pos}
theorem Nz{acc:Array Value}{n:Nat}(hacc:ItemsOf (fun i v=>∃t,v=.int (0+i*1) t) acc n):Vals ((List.range n).map fun k:Nat=>V.int (k:Int)) acc.toList:=by
 have hl:acc.toList.length=n:=by rw[WK];exact hacc.1
 have key:∀(m:Nat) (l:List Value) (k0:Nat),l.length=m->(∀j v,l[j]?=some v->∃t,v=Value.int ((k0+j:Nat):Int) t)->Vals ((List.range' k0 m).map fun k:Nat=>V.int (k:Int)) l:=by
  intro m;induction m with
  |zero=>intro l k0 e _;have:=WG.mp e;subst this;exact .nil
  |succ m ih=>
   intro l k0 e hj;cases l with
   |nil=>simp at e
   |cons x l=>
    rw[List.range'_succ,VB];obtain⟨t,ex⟩:=hj 0 x rfl;refine .cons ⟨t,?_⟩ (ih l (k0+1) (by simpa using e) fun j v ev=>?_)
    ·rw[ex];simp
    ·obtain⟨t',e'⟩:=hj (j+1) v (by simpa using ev);exact⟨t',by rw[e'];congr 2;omega⟩
 rw[List.range_eq_range'];refine key n acc.toList 0 hl fun j v ev=>?_;obtain⟨t',e'⟩:=hacc.2 j v (by simpa using ev);exact⟨t',by rw[e'];simp⟩
theorem Us(hc:X.calm=true):tz X (.type "tuple") (fun xs H Q=>∃(r:Addr) (n:Nat),xs=[.ref r]/\H r=some (.rng 0 (n:Int))/\n<=1000000/\∀l,H l=none->Q (.ref l) (upd H l (.tup ((List.range n).map fun k:Nat=>V.int (k:Int))))):=by
 intro pins s B H xs us Q I r h;obtain⟨r',n,rfl,e,hn,q⟩:=h;obtain⟨u,rfl,ru⟩:=vE r;cases ru;obtain⟨t,u,v,ho⟩:=(show ∃t u v,s.heap.get? r'=some {cls:=.type "range",data:=.fields #[.int 0 t,.int (n:Int) u,.int 1 v]} from I.hok r' _ e)
 refine Rg (a:=0) (b:=n) (c:=1) (n:=n) (I.ok.hd hc) ho (small_one (by omega) (by omega) (by omega) (by omega)) (by rw[rangeSize_one];split<;>omega) (by omega) (fun h' tk acc hk hacc=>?_) (tP hn);have I1:Inv X pins B H {s with heap:=h',toks:=tk}:=I.kept (t':=tk) hk;have hv:=Nz hacc;have I2:Inv X pins B (upd H h'.objs.size (.tup ((List.range n).map fun k:Nat=>V.int (k:Int)))) {s with heap:=h'.push {cls:=.type "tuple",data:=.seq acc.toList.toArray},toks:=tk}:=
  I1.laid (t':=tk) (fun b o e=>Vu _ e) (Vv _) (show ObjOk X.prog X.w _ _ _ (.tup _) from⟨by rw[VF,WH];exact tP hn,acc.toList,hv,IsTup.new _ _⟩)
 have e2:acc.toList.toArray=acc:=by simp
 rw[e2] at I2;exact⟨.ref h'.objs.size,_,I2,rfl,q _ (I1.hok.fresh (Vv _))⟩
theorem Q7(ml:X.mg "tuple"=none) (ha:PE X a ta) (hg:Gl X "tuple":=by rfl) (hs:starEach [a] X.env=[(false,eval a X.env)]:=by rfl) (hc:X.calm=true:=by rfl):
  PE X (.Call (.Name "tuple" p) [a] [] pos) (fun B H Q=>ta B H fun x H1=>∃(r:Addr) (n:Nat),[x]=[.ref r]/\H1 r=some (.rng 0 (n:Int))/\n<=1000000/\∀l,H1 l=none->Q (.ref l) (upd H1 l (.tup ((List.range n).map fun k:Nat=>V.int (k:Int))))):=
 Au (p:=p) (pos:=pos) (Us hc) hg ml rfl (qM ha rG hs) (he:=hs)
theorem Mh(K:Frag)(ml:X.mg "tuple"=none) (ha:PE X a ta) (hg:Gl X "tuple":=by rfl) (hs:starEach [a] X.env=[(false,eval a X.env)]:=by rfl) (hK:X.K=K:=by rfl):
  PE X (.Call (.Name "tuple" p) [a] [] pos) (fun B H Q=>ta B H fun x H1=>∃p ys,[x]=[V.ref p]/\((SqL K H1 p ys/\∀l,H1 l=none->Q (.ref l) (upd H1 l (.tup ys)))\/(SqT K H1 p ys/\Q (.ref p) H1))):=by
 subst hK;exact Au L9 hg ml rfl (qM ha rG hs) (he:=hs)
end
end L2
namespace L3
open PySem PySem.Spec L2
section
variable {X:Cx} {K:Frag} {a:Expr} {ea:EV} {pos p p2 pos2:Pos} {k:Nat}
def yL(x:D)(L:M):Fr:=match x with
 | .int j=>if 0<=j/\j<=1000000 then some (.tup (qq 0 j.toNat),L) else none
 |_=>none
theorem QL(ml:X.mg "tuple"=none) (mr:X.mg "range"=none) (ha:PE X a (tD K ea)) (hc:X.calm=true:=by rfl) (hg:Gl X "range":=by rfl) (hg2:Gl X "tuple":=by rfl) (hs:starEach [a] X.env=[(false,eval a X.env)]:=by rfl)
  (hs2:starEach [.Call (.Name "range" p2) [a] [] pos2] X.env=[(false,eval (.Call (.Name "range" p2) [a] [] pos2) X.env)]:=by rfl):
  PE X (.Call (.Name "tuple" p) [.Call (.Name "range" p2) [a] [] pos2] [] pos) (tD K (v1 yL ea)):=qb (Q7 ml (Uf mr ha hg hs) hg2 hs2 hc) (vt (r:=fun x H1 Q=>∃j:Int,x=.int j/\∀r,H1 r=none->∃(r':Addr) (n:Nat),[V.ref r]=[.ref r']/\(upd H1 r (.rng 0 j)) r'=some (.rng 0 (n:Int))/\n<=1000000/\∀l,(upd H1 r (.rng 0 j)) l=none->Q (.ref l) (upd (upd H1 r (.rng 0 j)) l (.tup ((List.range n).map fun k:Nat=>V.int (k:Int))))) (by
 intro W x d z Z5 Q ok r1 hf q;unfold yL at hf;split at hf
 ·rename_i j;split at hf
  ·rename_i hj;cases hf;cases r1;refine⟨j,rfl,fun r hr=>⟨r,j.toNat,rfl,by rw[qG];congr 2;omega,by omega,fun l hl=>?_⟩⟩;have ok1:=rL (o:=.rng 0 j) ok hr;have hl1:(W.lay r (.rng 0 j)).H l=none:=hl;exact q _ ((W.lay r (.rng 0 j)).lay l (.tup ((List.range j.toNat).map fun k:Nat=>V.int (k:Int)))) rfl (rL ok1 hl1) ((qJ hr).trans (qJ hl1)) (uG ok1 hl1 (Qp _))
  ·cases hf
 ·cases hf))
def zE(x:D)(L:M):Fr:=(qE L x).bind fun ds=>some (.tup ds,L)
theorem HX(ml:X.mg "tuple"=none) (ha:PE X a (tD K ea)) (hg:Gl X "tuple":=by rfl) (hs:starEach [a] X.env=[(false,eval a X.env)]:=by rfl) (hK:X.K=K:=by rfl):PE X (.Call (.Name "tuple" p) [a] [] pos) (tD K (v1 zE ea)):=qb (Mh K ml ha hg hs hK) (vt (by
 intro W x d z Z5 Q ok r1 hf q;refine pK hf fun ds hd hf=>?_;cases hf;obtain⟨a,vs,rfl,hs,hv⟩:=vf ok hd r1;exact⟨a,vs,rfl,.inl ⟨hs,fun p hp=>q _ (W.lay p (.tup vs)) rfl (rL ok hp) (qJ hp) (uG ok hp hv)⟩⟩))
end
end L3
namespace Law
open PySem L2 L3
inductive Tr where
 |e (x:Option Int)|ask (i j:Nat) (a b:Tr)
def at2(ss:List (List Int))(x i:Nat):Int:=(ss.getD x []).getD i 0
def alk(ss:List (List Int))(i j:Nat)(left:List Nat):List Nat:=left.filter fun x=>decide (at2 ss x i=at2 ss x j)
def unl(ss:List (List Int))(i j:Nat)(left:List Nat):List Nat:=left.filter fun x=>!decide (at2 ss x i=at2 ss x j)
def cL(Z9:List (List (Option Int))):Option (Option Int):=(Z9.getD 0 []).find? fun t=>Z9.all fun l=>decide (t∈l)
def cE(es:List (List (Option Int)))(left:List Nat):Option (Option Int):=cL (left.map fun x=>es.getD x [])
def uW(ss:List (List Int))(f:List Nat->Option Tr)(left:List Nat)(p:Nat×Nat):Option Tr:=
 if alk ss p.1 p.2 left=[]\/unl ss p.1 p.2 left=[] then none else match f (alk ss p.1 p.2 left) with
  |none=>none
  |some a=>match f (unl ss p.1 p.2 left) with
   |none=>none
   |some b=>some (.ask p.1 p.2 a b)
def p6(ps:List (Nat×Nat))(ss:List (List Int))(es:List (List (Option Int))):Nat->List Nat->Option Tr
 |0,left=>(cE es left).map Tr.e
 |a+1,left=>match cE es left with
  |some x=>some (.e x)
  |none=>ps.findSome? (uW ss (p6 ps ss es a) left)
def dep:Tr->Nat
 | .e _=>0
 | .ask _ _ a b=>1+max (dep a) (dep b)
def wf(ps:List (Nat×Nat)):Tr->Prop
 | .e _=>True
 | .ask i j a b=>(i,j)∈ps/\wf ps a/\wf ps b
def rX(s:List Int):Tr->Option Int
 | .e x=>x
 | .ask i j a b=>if s.getD i 0=s.getD j 0 then rX s a else rX s b
section
variable {ps:List (Nat×Nat)} {ss:List (List Int)} {es:List (List (Option Int))}
theorem SF{left:List Nat}{x:Option Int}(h:cE es left=some x):∀y∈left,x∈es.getD y []:=by
 intro y hy;unfold cE cL at h;have:=List.find?_some h;rw[V4] at this;have:=this (es.getD y []) (VW.mpr ⟨y,hy,rfl⟩);simpa using this
theorem Jt{left:List Nat}(h:cE es left=none)(h0:left≠[])(x:Option Int):∃y∈left,x∉es.getD y []:=by
 refine Ww fun hn=>?_;have all:∀y∈left,x∈es.getD y []:=fun y hy=>Ww fun z=>hn ⟨y,hy,z⟩;obtain⟨y,r,rfl⟩:=List.exists_cons_of_ne_nil h0;unfold cE cL at h;have hx:x∈((y::r).map fun x=>es.getD x []).getD 0 []:=all y (by simp);have:=WC.mp h x hx;apply this;rw[V4];intro l hl;obtain⟨z,hz,rfl⟩:=VW.mp hl;simpa using all z hz
theorem CD{J β:Type}{f:J->Option β}:∀{l:List J},l.findSome? f=none->∀a∈l,f a=none
 | [],_,a,h=>by cases h
 |x::l,h,a,ha=>by
  rw[List.findSome?_cons] at h;cases hx:f x with
  |some b=>rw[hx] at h;cases h
  |none=>
   rw[hx] at h;rcases VI.mp ha with rfl|ha
   ·exact hx
   ·exact CD h a ha
theorem BE{f:List Nat->Option Tr}{left:List Nat}{p:Nat×Nat}:uW ss f left p=none↔alk ss p.1 p.2 left=[]\/unl ss p.1 p.2 left=[]\/f (alk ss p.1 p.2 left)=none\/f (unl ss p.1 p.2 left)=none:=by
 unfold uW;by_cases h1:alk ss p.1 p.2 left=[]
 ·simp[h1]
 ·by_cases h2:unl ss p.1 p.2 left=[]
  ·simp[h2]
  ·rw[if_neg (fun z=>z.elim h1 h2)];cases h3:f (alk ss p.1 p.2 left) with
   |none=>simp
   |some a=>
    cases h4:f (unl ss p.1 p.2 left) with
    |none=>simp
    |some b=>simp[h1,h2]
theorem FU:∀(a:Nat) (left:List Nat),p6 ps ss es (a+1) left=none->p6 ps ss es a left=none:=by
 intro a;induction a with
 |zero=>
  intro left h;simp only[p6] at h⊢;split at h
  ·cases h
  ·rename_i hx;rw[hx];rfl
 |succ a ih=>
  intro left h;rw[p6] at h⊢;split at h
  ·cases h
  ·rename_i hx;rw[List.findSome?_eq_none_iff];intro p hp;have:=CD h p hp;rw[BE] at this⊢;rcases this with z|z|z|z
   ·exact .inl z
   ·exact .inr (.inl z)
   ·exact .inr (.inr (.inl (ih _ z)))
   ·exact .inr (.inr (.inr (ih _ z)))
theorem Ow:∀(a:Nat) (left:List Nat),left≠[]->p6 ps ss es a left=none->∀t,wf ps t->dep t<=a->∃x∈left,rX (ss.getD x []) t∉es.getD x []:=by
 intro a;induction a with
 |zero=>
  intro left h0 h t w d;simp only[p6,Option.map_eq_none_iff] at h;cases t with
  |e x=>exact Jt h h0 x
  |ask i j t1 t2=>simp only[dep] at d;omega
 |succ a ih=>
  intro left h0 h t w d;have hm:=FU a left h;have h':=h;rw[p6] at h;split at h
  ·cases h
  ·rename_i hx;cases t with
   |e x=>exact Jt hx h0 x
   |ask i j t1 t2=>
    simp only[dep] at d;obtain⟨hp,w1,w2⟩:=w;have hq:=CD h (i,j) hp;rw[BE] at hq;have la:∀x∈alk ss i j left,x∈left/\rX (ss.getD x []) (.ask i j t1 t2)=rX (ss.getD x []) t1:=fun x hx=>by
     obtain⟨q1,q2⟩:=VU.mp hx;refine⟨q1,?_⟩;have:(ss.getD x []).getD i 0=(ss.getD x []).getD j 0:=by simpa[at2] using q2
     simp only[rX];rw[if_pos this]
    have lu:∀x∈unl ss i j left,x∈left/\rX (ss.getD x []) (.ask i j t1 t2)=rX (ss.getD x []) t2:=fun x hx=>by
     obtain⟨q1,q2⟩:=VU.mp hx;refine⟨q1,?_⟩;have:¬(ss.getD x []).getD i 0=(ss.getD x []).getD j 0:=by simpa[at2] using q2
     simp only[rX];rw[if_neg this]
    have pick1:∀l,l≠[]->(∀x∈l,x∈left/\rX (ss.getD x []) (.ask i j t1 t2)=rX (ss.getD x []) t1)->p6 ps ss es a l=none->∃x∈left,rX (ss.getD x []) (.ask i j t1 t2)∉es.getD x []:=fun l hl hm2 hn=>by
     obtain⟨x,hx,q⟩:=ih l hl hn t1 w1 (by omega);obtain⟨z1,z2⟩:=hm2 x hx;exact⟨x,z1,by rw[z2];exact q⟩
    have pick2:∀l,l≠[]->(∀x∈l,x∈left/\rX (ss.getD x []) (.ask i j t1 t2)=rX (ss.getD x []) t2)->p6 ps ss es a l=none->∃x∈left,rX (ss.getD x []) (.ask i j t1 t2)∉es.getD x []:=fun l hl hm2 hn=>by
     obtain⟨x,hx,q⟩:=ih l hl hn t2 w2 (by omega);obtain⟨z1,z2⟩:=hm2 x hx;exact⟨x,z1,by rw[z2];exact q⟩
    by_cases ha:alk ss i j left=[]
    ·refine pick2 left h0 (fun x hx=>⟨hx,(lu x (VU.mpr ⟨hx,?_⟩)).2⟩) hm;have:=Wu.mp ha x hx;simpa using this
    ·by_cases hu:unl ss i j left=[]
     ·refine pick1 left h0 (fun x hx=>⟨hx,(la x (VU.mpr ⟨hx,?_⟩)).2⟩) hm;have:=Wu.mp hu x hx;simpa using this
     ·rcases hq with z|z|z|z
      ·exact absurd z ha
      ·exact absurd z hu
      ·exact pick1 _ ha la z
      ·exact pick2 _ hu lu z
def wj(pm:List (Nat×Nat))(em:List Nat):Nat->Nat->Bool
 |0,m=>em.all fun e=>m &&& e !=m
 |a+1,m=>(em.all fun e=>m &&& e !=m)&&pm.all fun p=>m &&& p.1==0||(m &&& p.2==0||(wj pm em a (m &&& p.2)||wj pm em a (m &&& p.1)))
def Ms(left:List Nat)(m:Nat):Prop:=∀x,x∈left↔m.testBit x=true
theorem Ms.zero{left:List Nat}{m:Nat}(h:Ms left m):left=[]↔m=0:=by
 constructor
 ·intro e;subst e;refine Nat.eq_of_testBit_eq fun i=>?_;have:=h i;simp at this;simp[this]
 ·intro e;subst e;refine List.eq_nil_iff_forall_not_mem.mpr fun x hx=>?_;have:=(h x).mp hx;simp at this
structure Mk (ps:List (Nat×Nat)) (ss:List (List Int)) (es:List (List (Option Int))) (pm:List (Nat×Nat)) (em:List Nat) (ends:List (Option Int)):Prop where
 pl:pm.length=ps.length
 p1:∀(k:Nat) (p q:Nat×Nat),ps[k]?=some p->pm[k]?=some q->∀x,x<ss.length->(q.1.testBit x=decide (at2 ss x p.1=at2 ss x p.2))/\(q.2.testBit x=!decide (at2 ss x p.1=at2 ss x p.2))
 el:em.length=ends.length
 e1:∀(k:Nat) (e:Option Int) (q:Nat),ends[k]?=some e->em[k]?=some q->∀x,x<ss.length->q.testBit x=decide (e∈es.getD x [])
 en:∀x,x<ss.length->∀e∈es.getD x [],e∈ends
theorem none_of{pm:List (Nat×Nat)}{em:List Nat}{ends:List (Option Int)}(K:Mk ps ss es pm em ends):∀(a:Nat) (left:List Nat) (m:Nat),Ms left m->(∀x∈left,x<ss.length)->left≠[]->wj pm em a m=true->p6 ps ss es a left=none:=by
 have noend:∀(left:List Nat) (m:Nat),Ms left m->(∀x∈left,x<ss.length)->left≠[]->(em.all fun e=>m &&& e !=m)=true->cE es left=none:=by
  intro left m hm hl h0 he;cases hc:cE es left with
  |none=>rfl
  |some y=>
   have hs:=SF hc;obtain⟨x0,r,rfl⟩:=List.exists_cons_of_ne_nil h0;have hy:=K.en x0 (hl x0 (by simp)) y (hs x0 (by simp));obtain⟨k,hk⟩:=Wk hy;have hkl:k<em.length:=by rw[K.el];exact(Vw.mp hk).1
   have hq:=VA hkl;have:=V4.mp he em[k] (V5 _);have e2:m &&& em[k]=m:=by
    refine Nat.eq_of_testBit_eq fun i=>?_;rw[Nat.testBit_and];cases hb:m.testBit i with
    |false=>rfl
    |true=>
     have hi:=(hm i).mpr hb;rw[K.e1 k y em[k] hk hq i (hl i hi)];simpa using hs i hi
   rw[e2] at this;simp at this
 intro a;induction a with
 |zero=>
  intro left m hm hl h0 h;rw[p6,noend left m hm hl h0 h];rfl
 |succ a ih=>
  intro left m hm hl h0 h;simp only[wj,V9] at h;rw[p6,noend left m hm hl h0 h.1];show ps.findSome? _=none;rw[List.findSome?_eq_none_iff];intro p hp;rw[BE];obtain⟨k,hk⟩:=Wk hp;have hkl:k<pm.length:=by rw[K.pl];exact(Vw.mp hk).1
  have hq:=VA hkl;have hall:=V4.mp h.2 pm[k] (V5 _);have hbit:=K.p1 k p pm[k] hk hq;have ma:Ms (alk ss p.1 p.2 left) (m &&& pm[k].1):=fun x=>by
   unfold alk;rw[VU,Nat.testBit_and,V9];constructor
   ·rintro⟨h1,h2⟩;exact⟨(hm x).mp h1,by rw[(hbit x (hl x h1)).1];exact h2⟩
   ·rintro⟨h1,h2⟩;have:=(hm x).mpr h1;exact⟨this,by rw[(hbit x (hl x this)).1] at h2;exact h2⟩
  have mu:Ms (unl ss p.1 p.2 left) (m &&& pm[k].2):=fun x=>by
   unfold unl;rw[VU,Nat.testBit_and,V9];constructor
   ·rintro⟨h1,h2⟩;exact⟨(hm x).mp h1,by rw[(hbit x (hl x h1)).2];exact h2⟩
   ·rintro⟨h1,h2⟩;have:=(hm x).mpr h1;exact⟨this,by rw[(hbit x (hl x this)).2] at h2;exact h2⟩
  by_cases ha:alk ss p.1 p.2 left=[]
  ·exact .inl ha
  ·by_cases hu:unl ss p.1 p.2 left=[]
   ·exact .inr (.inl hu)
   ·simp only[Bool.or_eq_true,beq_iff_eq] at hall;rcases hall with z|z|z|z
    ·exact absurd (ma.zero.mpr z) ha
    ·exact absurd (mu.zero.mpr z) hu
    ·exact .inr (.inr (.inr (ih _ _ mu (fun x hx=>hl x (VU.mp hx).1) hu z)))
    ·exact .inr (.inr (.inl (ih _ _ ma (fun x hx=>hl x (VU.mp hx).1) ha z)))
end
end Law
namespace L3
open PySem L2
end L3
namespace L2
open PySem PySem.Spec PyProof.Rows
end L2
namespace L3
open PySem L2
end L3
namespace L2
open PySem PySem.Spec PyProof.Rows
section
open PySem.SeqAt
open PySem.AutoSeq1 (wpAny_loadPart')
open PySem.MeetsSeq PySem.MeetsSeq2 PySem.MeetsSeq3 PySem.SeqRoads2
end
end L2
namespace L3
open PySem PySem.Spec L2
end L3
namespace Law
open PySem L2 L3 PyProof.Rows
def Nb{v v':Nat->Int}{i:Nat}(h:∀j,j<i->v j=v' j):firstMet v i=firstMet v' i:=by
 unfold firstMet;have:(List.range i).map v=(List.range i).map v':=Wv fun j hj=>h j (Wh.mp hj);rw[this]
def MY(s:List Int)(x:Int):vm (s++[x])=if x∈s then vm s else vm s+1:=by
 unfold vm;rw[Wj,List.length_singleton,firstMet_succ,step_length];have e:firstMet (fun i=>(s++[x]).getD i 0) s.length=firstMet (fun i=>s.getD i 0) s.length:=Nb fun j hj=>by
  simp[VD,VL hj]
 have ex:(s++[x]).getD s.length 0=x:=by simp[VD]
 rw[e,ex,firstMet_any];have em:((List.range s.length).map fun i=>s.getD i 0)=s:=by
  apply List.ext_getElem
  ·simp
  ·intro i h1 h2;simp[VD,VA h2]
 rw[em];have eb:s.any (·==x)=decide (x∈s):=by
  rw[WW];simp[WN]
 rw[eb];by_cases h:x∈s<;>simp[h]
def Sx:Nat->Nat->List (List Int×Nat)
 |0,_=>[([],0)]
 |n+1,m=>(Sx n m).flatMap fun p=>(List.range (min (p.2+1) m)).map fun(i:Nat)=>(p.1++[(i:Int)],max p.2 (i+1))
structure Gd (n m:Nat) (p:List Int×Nat):Prop where
 len:p.1.length=n
 mem:∀x:Int,x∈p.1↔0<=x/\x<p.2
 dist:vm p.1=p.2
 le:p.2<=m
 len2:p.2<=n
 rise:∀(k:Nat) (x:Int),p.1[k]?=some x->0<=x/\x<=vm (p.1.take k)
theorem xE(m:Nat):∀(n:Nat) (p:List Int×Nat),p∈Sx n m->Gd n m p
 |0,p,h=>by
  simp[Sx] at h;subst h;exact⟨rfl,fun x=>by simp,rfl,Wm _,Vv _,fun k x e=>by simp at e⟩
 |n+1,p,h=>by
  simp only[Sx,List.mem_flatMap,VW,Wh] at h;obtain⟨q,hq,i,hi,rfl⟩:=h;have g:=xE m n q hq;have him:i<m:=by omega
  have hiu:i<=q.2:=by omega
  refine(⟨by simp[g.len],fun x=>?_,?_,?_,?_,?_⟩)
  ·simp only[VQ,VO,g.mem];omega
  ·show vm (q.1++[(i:Int)])=max q.2 (i+1);rw[MY,g.dist];by_cases hm:(i:Int)∈q.1
   ·rw[if_pos hm];have:=(g.mem _).mp hm;omega
   ·rw[if_neg hm];have:¬(i:Int)<q.2:=fun z=>hm ((g.mem _).mpr ⟨by omega,z⟩);omega
  ·have:=g.le;show max q.2 (i+1)<=m;omega
  ·have:=g.len2;show max q.2 (i+1)<=n+1;omega
  ·intro k x e;have e:(q.1++[(i:Int)])[k]?=some x:=e;show 0<=x/\x<=vm ((q.1++[(i:Int)]).take k);by_cases hk:k<q.1.length
   ·rw[VL hk] at e;rw[List.take_append_of_le_length (by omega)];exact g.rise k x e
   ·rw[VV (by omega)] at e;have hz:k=q.1.length:=by
     have:=(Vw.mp e).1;simp at this;omega
    subst hz;simp at e;subst e;rw[List.take_append_of_le_length (by omega),List.take_length,g.dist];omega
def Gd.used{n m:Nat}{p:List Int×Nat}(g:Gd n m p):(mxL p.1).getD (-1)+1=(p.2:Int):=by
 cases hn:mxL p.1 with
 |none=>
  have:p.1=[]:=by cases h:p.1 with
   |nil=>rfl
   |cons a r=>rw[h] at hn;cases hn
  have h0:p.2=0:=by
   rcases Nat.eq_zero_or_pos p.2 with z|z
   ·exact z
   ·have:=(g.mem 0).mpr ⟨by omega,by omega⟩;rw[‹p.1=[]›] at this;cases this
  simp[h0]
 |some M=>
  have hM:=E5 hn;have h1:=(g.mem M).mp hM.1;have h2:=hM.2 ((p.2:Int) - 1) ((g.mem _).mpr ⟨by omega,by omega⟩);simp only[Option.getD_some];omega
def U3(n:Nat){m:Nat}(h:8<=m):n<=7->Sx n m=Sx n 8:=by
 induction n with
 |zero=>intro _;rfl
 |succ n ih=>
  intro hn;rw[Sx,Sx,ih (by omega)];rw[List.flatMap_def,List.flatMap_def];congr 1;apply Wv;intro p hp;have:=(xE 8 n p hp).len2;have e:min (p.2+1) m=min (p.2+1) 8:=by omega
  rw[e]
def Jr:∀n<8,∀m<9,(Sx n m).length<=877:=by decide +kernel
def zr{n:Nat}(hn:n<=7)(m:Nat):(Sx n m).length<=877:=by
 by_cases h:m<9
 ·exact Jr n (by omega) m h
 ·rw[U3 n (by omega) hn];exact Jr n (by omega) 8 (by omega)
def tK(s:List Int)(as:List An):Bool:=as.all fun a=>decide (s.getD a.1 0=s.getD a.2.1 0)==a.2.2
def InN(n:Nat)(as:List An):Prop:=∀a∈as,a.1<n/\a.2.1<n
theorem IK{J:Type}(f:Nat->J)(m:Nat):∀n,n<=m->∃p∈Sx n m,∀x y,x<n->y<n->(p.1.getD x 0=p.1.getD y 0↔f x=f y)
 |0,_=>⟨([],0),by simp[Sx],fun x y h=>by omega⟩
 |n+1,hn=>by
  obtain⟨p,hp,hf⟩:=IK f m n (by omega);have g:=xE m n p hp;have hg:=g.len2;have lt_of:∀x,x<n->p.1.getD x 0∈p.1:=fun x hx=>by
   rw[VD,VA (by rw[g.len];exact hx)];exact V5 _
  obtain⟨i,hi,him⟩:∃i:Nat,i<min (p.2+1) m/\∀x,x<n->(p.1.getD x 0=(i:Int)↔f x=f n):=by
   by_cases h:∃x,x<n/\f x=f n
   ·obtain⟨x0,hx0,e0⟩:=h;have h1:=(g.mem _).mp (lt_of x0 hx0);refine⟨(p.1.getD x0 0).toNat,by have:=g.le;omega,fun x hx=>?_⟩;have e:((p.1.getD x0 0).toNat:Int)=p.1.getD x0 0:=by omega
    rw[e,←e0];exact hf x x0 hx hx0
   ·refine⟨p.2,by omega,fun x hx=>⟨fun e=>?_,fun e=>absurd ⟨x,hx,e⟩ h⟩⟩;have h1:=(g.mem _).mp (lt_of x hx);omega
  refine⟨(p.1++[(i:Int)],max p.2 (i+1)),?_,?_⟩
  ·simp only[Sx,List.mem_flatMap,VW,Wh];exact⟨p,hp,i,hi,rfl⟩
  ·have old:∀x,x<n->(p.1++[(i:Int)]).getD x 0=p.1.getD x 0:=fun x hx=>by
    simp[VD,VL (show x<p.1.length by rw[g.len];exact hx)]
   have new:(p.1++[(i:Int)]).getD n 0=(i:Int):=by
    have:n=p.1.length:=g.len.symm;simp[VD,this]
   intro x y hx hy;show(p.1++[(i:Int)]).getD x 0=(p.1++[(i:Int)]).getD y 0↔_;rcases Nat.lt_succ_iff_lt_or_eq.mp hx with hx|rfl<;>rcases Nat.lt_succ_iff_lt_or_eq.mp hy with hy|rfl
   ·rw[old x hx,old y hy];exact hf x y hx hy
   ·rw[old x hx,new];exact him x hx
   ·rw[old y hy,new];have:=him y hy;constructor
    ·intro e;exact(this.mp e.symm).symm
    ·intro e;exact(this.mpr e.symm).symm
   ·simp
def Rv{n:Nat}{as:List An}(hv:InN n as)(h:qj as=true):∃p∈Sx n n,tK p.1 as=true:=by
 obtain⟨p,hp,hf⟩:=IK (fun x=>Conn as x) n n (Vv _);have eqv:∀x y,Conn as x=Conn as y↔Conn as x y:=fun x y=>
  ⟨fun e=>by rw[e];exact .refl y,fun c=>funext fun z=>propext ⟨fun d=>c.symm.trans d,fun d=>c.trans d⟩⟩
 refine⟨p,hp,?_⟩;unfold tK;rw[V4];intro a ha;obtain⟨h1,h2⟩:=hv a ha;have e:=(hf a.1 a.2.1 h1 h2).trans (eqv _ _);have ok:=Bo as;cases hb:a.2.2 with
 |true=>
  have hm:(a.1,a.2.1,true)∈as:=by
   have e0:(a.1,a.2.1,true)=a:=by rw[←hb]
   rw[e0];exact ha
  have:Conn as a.1 a.2.1:=Conn.one (mem_nb.mpr (.inl hm));rw[VX (e.mpr this)];rfl
 |false=>
  have hc:=V4.mp h a ha;rw[hb] at hc;simp at hc;have:¬Conn as a.1 a.2.1:=fun c=>hc (ok.conn c);rw[VG (mt e.mp this)];rfl
def SE{s:List Int}{as:List An}(h:tK s as=true):qj as=true:=by
 have hall:=V4.mp h;have con:∀x y,Conn as x y->s.getD x 0=s.getD y 0:=by
  intro x y c;induction c with
  |refl=>rfl
  |step _ e ih=>
   rw[ih];rcases mem_nb.mp e with z|z
   ·have:=hall _ z;simpa using this
   ·have:=hall _ z;simp at this;exact this.symm
 unfold qj;rw[V4];intro a ha;have ok:=Bo as;cases hb:a.2.2 with
 |true=>simp
 |false=>
  have h1:=hall a ha;rw[hb] at h1;simp only[Bool.false_or,Bool.not_eq_true',decide_eq_false_iff_not];intro e;have c:=(ok.iff (ok.named a ha).1).mp e;rw[con _ _ c] at h1;simp at h1
def qv(n:Nat)(as:List An):List (List Int):=((Sx n n).map (·.1)).filter fun s=>tK s as
def DX{n:Nat}{as:List An}(hv:InN n as):qv n as=[]↔qj as=false:=by
 constructor
 ·intro h;cases hc:qj as with
  |false=>rfl
  |true=>
   obtain⟨p,hp,hf⟩:=Rv hv hc;have:p.1∈qv n as:=VU.mpr ⟨List.mem_map_of_mem hp,hf⟩;rw[h] at this;cases this
 ·intro h;unfold qv;rw[Wu];intro s hs hf;rw[SE hf] at h;cases h
def sG(gs:List (Int×List Int))(k:Int)(t:Int):List (Int×List Int):=
 if(gs.any fun g=>decide (g.1=k))=true then gs.map fun g=>if g.1=k then(g.1,g.2++[t]) else g else gs++[(k,[t])]
def vW:Nat->List Int->List (Int×List Int)->List (Int×List Int)
 |_,[],gs=>gs
 |i,k::r,gs=>vW (i+1) r (sG gs k (i:Int))
def grp(s:List Int):List (Int×List Int):=vW 0 s []
end Law
namespace L3
open PySem PySem.Spec L2
def Wp{J:Type}(r:Option (J×M))(Q:J->M->Prop):Prop:=∃a L,r=some (a,L)/\Q a L
def Ws(r:Option (Out×G×M))(Q:Out->G->M->Prop):Prop:=∃o O L,r=some (o,O,L)/\Q o O L
section
variable {J β:Type} {O:G} {L:M} {ea eb:EV} {ba bb:BV} {el:LV} {sa sb:SV} {i j n m:Nat} {d x y:D} {ds:List D} {b:Bool} {g:GV} {gs:GsV} {o:Option D} {iv:IV} {lo hi:OV}
theorem Wp.imp{r:Option (J×M)}{Q R:J->M->Prop}(h:Wp r Q)(f:∀a L,Q a L->R a L):Wp r R:=let ⟨a,L,e,q⟩:=h;⟨a,L,e,f a L q⟩
theorem Ws.imp{r:Option (Out×G×M)}{Q R:Out->G->M->Prop}(h:Ws r Q)(f:∀o O L,Q o O L->R o O L):Ws r R:=let ⟨a,O,L,e,q⟩:=h;⟨a,O,L,e,f a O L q⟩
theorem wp_some{a:J}{Q:J->M->Prop}:Wp (some (a,L)) Q↔Q a L:=⟨fun⟨_,_,e,q⟩=>by cases e;exact q,fun q=>⟨_,_,rfl,q⟩⟩
theorem ws_some{out:Out}{Q:Out->G->M->Prop}:Ws (some (out,O,L)) Q↔Q out O L:=⟨fun⟨_,_,_,e,q⟩=>by cases e;exact q,fun q=>⟨_,_,_,rfl,q⟩⟩
theorem wp_bind{r:Option (J×M)}{f:J×M->Option (β×M)}{Q:β->M->Prop}:Wp (r.bind f) Q↔Wp r fun a L=>Wp (f (a,L)) Q:=by
 cases r with
 |none=>exact⟨fun⟨_,_,e,_⟩=>(by cases e),fun⟨_,_,e,_⟩=>(by cases e)⟩
 |some p=>exact⟨fun h=>⟨p.1,p.2,rfl,h⟩,fun⟨_,_,e,h⟩=>by cases e;exact h⟩
theorem ws_bind{r:Option (J×M)}{f:J×M->Option (Out×G×M)}{Q:Out->G->M->Prop}:Ws (r.bind f) Q↔Wp r fun a L=>Ws (f (a,L)) Q:=by
 cases r with
 |none=>exact⟨fun⟨_,_,_,e,_⟩=>(by cases e),fun⟨_,_,e,_⟩=>(by cases e)⟩
 |some p=>exact⟨fun h=>⟨p.1,p.2,rfl,h⟩,fun⟨_,_,e,h⟩=>by cases e;exact h⟩
theorem wss_bind{r:Option (Out×G×M)}{f:Out×G×M->Option (Out×G×M)}{Q:Out->G->M->Prop}:Ws (r.bind f) Q↔Ws r fun o O L=>Ws (f (o,O,L)) Q:=by
 cases r with
 |none=>exact⟨fun⟨_,_,_,e,_⟩=>(by cases e),fun⟨_,_,_,e,_⟩=>(by cases e)⟩
 |some p=>exact⟨fun h=>⟨p.1,p.2.1,p.2.2,rfl,h⟩,fun⟨_,_,_,e,h⟩=>by cases e;exact h⟩
theorem wps_bind{r:Option (Out×G×M)}{f:Out×G×M->Option (β×M)}{Q:β->M->Prop}:Wp (r.bind f) Q↔Ws r fun o O L=>Wp (f (o,O,L)) Q:=by
 cases r with
 |none=>exact⟨fun⟨_,_,e,_⟩=>(by cases e),fun⟨_,_,_,e,_⟩=>(by cases e)⟩
 |some p=>exact⟨fun h=>⟨p.1,p.2.1,p.2.2,rfl,h⟩,fun⟨_,_,_,e,h⟩=>by cases e;exact h⟩
theorem wpo_bind{r:Option J}{f:J->Option (β×M)}{Q:β->M->Prop}:Wp (r.bind f) Q↔∃a,r=some a/\Wp (f a) Q:=by
 cases r with
 |none=>exact⟨fun⟨_,_,e,_⟩=>(by cases e),fun⟨_,e,_⟩=>(by cases e)⟩
 |some p=>exact⟨fun h=>⟨p,rfl,h⟩,fun⟨_,e,h⟩=>by cases e;exact h⟩
theorem Aw{r:Option (J×M)}{a:J}{Q:J->M->Prop}(e:r=some (a,L))(h:Q a L):Wp r Q:=⟨_,_,e,h⟩
variable {R:D->M->Prop} {RL:List D->M->Prop} {RB:Bool->M->Prop} {RG:G->M->Prop} {RI:List D×Ck->M->Prop} {RO:Option Int->M->Prop} {Q:Out->G->M->Prop}
theorem FE:Wp (be 0 (some d::O) L) R↔R d L:=wp_some
theorem G9:Wp (be (i+1) (o::O) L) R↔Wp (be i O L) R:=Iff.rfl
theorem w_c:Wp (vC d O L) R↔R d L:=wp_some
def q1(f:D->M->Fr)(R:D->M->Prop):D->M->Prop:=fun x L=>Wp (f x L) R
theorem q1_{f:D->M->Fr}:q1 f R x L↔Wp (f x L) R:=Iff.rfl
theorem IQ{f:D->M->Fr}:Wp (v1 f ea O L) R↔Wp (ea O L) (q1 f R):=wp_bind
def q2b(f:D->D->M->Fr)(x:D)(R:D->M->Prop):D->M->Prop:=fun y L=>Wp (f x y L) R
theorem Jl{f:D->D->M->Fr}:q2b f x R y L↔Wp (f x y L) R:=Iff.rfl
def q2(f:D->D->M->Fr)(eb:EV)(O:G)(R:D->M->Prop):D->M->Prop:=fun x L=>Wp (eb O L) (q2b f x R)
theorem q2_{f:D->D->M->Fr}:q2 f eb O R x L↔Wp (eb O L) (q2b f x R):=Iff.rfl
theorem Es{f:D->D->M->Fr}:Wp (v2 f ea eb O L) R↔Wp (ea O L) (q2 f eb O R):=wp_bind.trans ⟨fun h=>h.imp fun _ _ q=>wp_bind.mp q,fun h=>h.imp fun _ _ q=>wp_bind.mpr q⟩
def qL(f:C0)(R:D->M->Prop):List D->M->Prop:=fun ds L=>Wp (f ds L) R
theorem qL_{f:C0}:qL f R ds L↔Wp (f ds L) R:=Iff.rfl
theorem HJ{f:C0}:Wp (vL f el O L) R↔Wp (el O L) (qL f R):=wp_bind
theorem J9:Wp (pI O L) RL↔RL [] L:=wp_some
def qc2(x:D)(RL:List D->M->Prop):List D->M->Prop:=fun ds L=>RL (x::ds) L
theorem HZ:qc2 x RL ds L↔RL (x::ds) L:=Iff.rfl
def qc(el:LV)(O:G)(RL:List D->M->Prop):D->M->Prop:=fun x L=>Wp (el O L) (qc2 x RL)
theorem qc_:qc el O RL x L↔Wp (el O L) (qc2 x RL):=Iff.rfl
theorem Le:Wp (pG ea el O L) RL↔Wp (ea O L) (qc el O RL):=wp_bind.trans ⟨fun h=>h.imp fun _ _ q=>(wp_bind.mp q).imp fun _ _ q=>(wp_some (Q:=RL)).mp q,fun h=>h.imp fun _ _ q=>wp_bind.mpr (q.imp fun _ _ q=>(wp_some (Q:=RL)).mpr q)⟩
def qT(RB:Bool->M->Prop):D->M->Prop:=fun d L=>∃b,d=.bl b/\RB b L
theorem qT_:qT RB (.bl b) L↔RB b L:=⟨fun⟨_,e,q⟩=>by cases e;exact q,fun q=>⟨_,rfl,q⟩⟩
theorem w_T:Wp (vT ea O L) RB↔Wp (ea O L) (qT RB):=wp_bind.trans ⟨fun h=>h.imp fun d L q=>by
  obtain⟨b,Z5,e,q⟩:=q;cases d<;>cases e
  exact⟨_,rfl,q⟩,fun h=>h.imp fun d L q=>by obtain⟨b,rfl,q⟩:=q;exact wp_some.mpr q⟩
def qTr(RB:Bool->M->Prop):D->M->Prop:=fun d L=>∃b,tru L d=some b/\RB b L
theorem HP:qTr RB (.bl b) L↔RB b L:=⟨fun⟨_,e,q⟩=>by cases e;exact q,fun q=>⟨_,rfl,q⟩⟩
theorem FL:Wp (qS ea O L) RB↔Wp (ea O L) (qTr RB):=wp_bind.trans ⟨fun h=>h.imp fun d L q=>by
  obtain⟨b,e,q⟩:=wpo_bind.mp q;exact⟨b,e,wp_some.mp q⟩,fun h=>h.imp fun d L ⟨b,e,q⟩=>wpo_bind.mpr ⟨b,e,wp_some.mpr q⟩⟩
def Hw(RB:Bool->M->Prop):Bool->M->Prop:=fun b L=>RB (!b) L
theorem FC:Hw RB b L↔RB (!b) L:=Iff.rfl
theorem EW:Wp (sR ba O L) RB↔Wp (ba O L) (Hw RB):=wp_bind.trans ⟨fun h=>h.imp fun _ _ q=>(wp_some (Q:=RB)).mp q,fun h=>h.imp fun _ _ q=>(wp_some (Q:=RB)).mpr q⟩
def Ea(bb:BV)(O:G)(RB:Bool->M->Prop):Bool->M->Prop:=fun b L=>if b=true then Wp (bb O L) RB else RB false L
theorem Hr:Ea bb O RB true L↔Wp (bb O L) RB:=Iff.rfl
theorem GI:Ea bb O RB false L↔RB false L:=Iff.rfl
theorem GL:Wp (tm ba bb O L) RB↔Wp (ba O L) (Ea bb O RB):=wp_bind.trans ⟨fun h=>h.imp fun b _ q=>by cases b;exact(wp_some (Q:=RB)).mp q;exact q,fun h=>h.imp fun b _ q=>by cases b;exact(wp_some (Q:=RB)).mpr q;exact q⟩
def qOr(bb:BV)(O:G)(RB:Bool->M->Prop):Bool->M->Prop:=fun b L=>if b=true then RB true L else Wp (bb O L) RB
theorem IE:qOr bb O RB true L↔RB true L:=Iff.rfl
theorem JM:qOr bb O RB false L↔Wp (bb O L) RB:=Iff.rfl
theorem K8:Wp (bOr ba bb O L) RB↔Wp (ba O L) (qOr bb O RB):=wp_bind.trans ⟨fun h=>h.imp fun b _ q=>by cases b;exact q;exact(wp_some (Q:=RB)).mp q,fun h=>h.imp fun b _ q=>by cases b;exact q;exact(wp_some (Q:=RB)).mpr q⟩
theorem ER:Wp (pY O L) RB↔RB true L:=wp_some
def qIf(ea eb:EV)(O:G)(R:D->M->Prop):Bool->M->Prop:=fun b L=>if b=true then Wp (ea O L) R else Wp (eb O L) R
theorem Hb:qIf ea eb O R true L↔Wp (ea O L) R:=Iff.rfl
theorem EZ:qIf ea eb O R false L↔Wp (eb O L) R:=Iff.rfl
theorem Fj:Wp (vIf ba ea eb O L) R↔Wp (ba O L) (qIf ea eb O R):=wp_bind.trans ⟨fun h=>h.imp fun b _ q=>by cases b<;>exact q,fun h=>h.imp fun b _ q=>by cases b<;>exact q⟩
def kVA(eb:EV)(O:G)(d:D)(L:M):Fr:=match d with
 | .bl true=>eb O L
 | .bl false=>some (.bl false,L)
 |_=>none
def qVA(eb:EV)(O:G)(R:D->M->Prop):D->M->Prop:=fun d L=>Wp (kVA eb O d L) R
theorem Jb:qVA eb O R (.bl true) L↔Wp (eb O L) R:=Iff.rfl
theorem J1:qVA eb O R (.bl false) L↔R (.bl false) L:=wp_some
theorem El:Wp (uh ea eb O L) R↔Wp (ea O L) (qVA eb O R):=wp_bind
def RX(eb:EV)(O:G)(d:D)(L:M):Fr:=match d with
 | .bl true=>some (.bl true,L)
 | .bl false=>eb O L
 |_=>none
def qVO(eb:EV)(O:G)(R:D->M->Prop):D->M->Prop:=fun d L=>Wp (RX eb O d L) R
theorem Iz:qVO eb O R (.bl false) L↔Wp (eb O L) R:=Iff.rfl
def qm2(f:D->D->M->Fr)(eb:EV)(O:G)(R:D->M->Prop):D->M->Prop:=fun x L=>(∃l,qE L x=some l)/\Wp (eb O L) (q2b f x R)
theorem Fz{f:D->D->M->Fr}:Wp (vY f ea eb O L) R↔Wp (ea O L) (qm2 f eb O R):=wp_bind.trans ⟨fun h=>h.imp fun _ _ q=>by obtain⟨l,e,q⟩:=wpo_bind.mp q;exact⟨⟨l,e⟩,wp_bind.mp q⟩,fun h=>h.imp fun _ _ ⟨⟨l,e⟩,q⟩=>wpo_bind.mpr ⟨l,e,wp_bind.mpr q⟩⟩
theorem Me{f:D->D->M->Fr}{k:Nat}(h:L[k]?=some (some (.lst ds))):qm2 f eb O R (.ref k) L↔Wp (eb O L) (q2b f (.ref k) R):=⟨fun q=>q.2,fun q=>⟨⟨_,xB h⟩,q⟩⟩
theorem Ja:Wp (sB O L) RO↔RO none L:=wp_some
def qoS(RO:Option Int->M->Prop):D->M->Prop:=fun d L=>∃k,d=.int k/\RO (some k) L
theorem G3{k:Int}:qoS RO (.int k) L↔RO (some k) L:=⟨fun⟨_,e,q⟩=>by cases e;exact q,fun q=>⟨_,rfl,q⟩⟩
theorem FZ:Wp (sV ea O L) RO↔Wp (ea O L) (qoS RO):=wp_bind.trans ⟨fun h=>h.imp fun d L q=>by
  obtain⟨b,Z5,e,q⟩:=q;cases d<;>cases e
  exact⟨_,rfl,q⟩,fun h=>h.imp fun d L q=>by obtain⟨b,rfl,q⟩:=q;exact wp_some.mpr q⟩
def qs3(x:D)(l:Option Int)(R:D->M->Prop):Option Int->M->Prop:=fun h L=>Wp (fSl x l h L) R
theorem E6{l h:Option Int}:qs3 x l R h L↔Wp (fSl x l h L) R:=Iff.rfl
def qs2(hi:OV)(O:G)(x:D)(R:D->M->Prop):Option Int->M->Prop:=fun l L=>Wp (hi O L) (qs3 x l R)
theorem Eh{l:Option Int}:qs2 hi O x R l L↔Wp (hi O L) (qs3 x l R):=Iff.rfl
def qs1(lo hi:OV)(O:G)(R:D->M->Prop):D->M->Prop:=fun x L=>Wp (lo O L) (qs2 hi O x R)
theorem EL:qs1 lo hi O R x L↔Wp (lo O L) (qs2 hi O x R):=Iff.rfl
theorem FM:Wp (vSl ea lo hi O L) R↔Wp (ea O L) (qs1 lo hi O R):=wp_bind.trans ⟨fun h=>h.imp fun _ _ q=>(wp_bind.mp q).imp fun _ _ q=>wp_bind.mp q,fun h=>h.imp fun _ _ q=>wp_bind.mpr (q.imp fun _ _ q=>wp_bind.mpr q)⟩
theorem Hk:Wp (pJ i d O L) RG↔RG (O.set i (some d)) L:=wp_some
theorem Hg:Wp (qA [] O L) RG↔RG O L:=wp_some
def qgc(gs:GsV)(ds:List D)(RG:G->M->Prop):G->M->Prop:=fun O L=>Wp (gs ds O L) RG
theorem JY:qgc gs ds RG O L↔Wp (gs ds O L) RG:=Iff.rfl
theorem EK:Wp (pS g gs (d::ds) O L) RG↔Wp (g d O L) (qgc gs ds RG):=wp_bind
theorem wg(h:ds.length=n):Wp (qm n gs (.tup ds) O L) RG↔Wp (gs ds O L) RG:=by
 show Wp (if ds.length=n then gs ds O L else none) RG↔_;rw[if_pos h]
def qSq(sb:SV)(Q:Out->G->M->Prop):Out->G->M->Prop:=fun o O L=>match o with
 | .nx=>Ws (sb O L) Q
 |o=>Q o O L
theorem IX:qSq sb Q .nx O L↔Ws (sb O L) Q:=Iff.rfl
theorem Kl:qSq sb Q (.rt d) O L↔Q (.rt d) O L:=Iff.rfl
theorem FB:qSq sb Q .bk O L↔Q .bk O L:=Iff.rfl
theorem Gu:qSq sb Q .ct O L↔Q .ct O L:=Iff.rfl
theorem Dx:Ws (pM sa sb O L) Q↔Ws (sa O L) (qSq sb Q):=wss_bind.trans ⟨fun h=>h.imp fun o _ _ q=>by cases o<;>first|exact q|exact(ws_some (Q:=Q)).mp q,fun h=>h.imp fun o _ _ q=>by cases o<;>first|exact q|exact(ws_some (Q:=Q)).mpr q⟩
theorem Jp:Ws (sNx O L) Q↔Q .nx O L:=ws_some
def qEx(O:G)(Q:Out->G->M->Prop):D->M->Prop:=fun _ L=>Q .nx O L
theorem JA:qEx O Q d L↔Q .nx O L:=Iff.rfl
theorem IC:Ws (sK ea O L) Q↔Wp (ea O L) (qEx O Q):=ws_bind.trans ⟨fun h=>h.imp fun _ _ q=>ws_some.mp q,fun h=>h.imp fun _ _ q=>ws_some.mpr q⟩
def qRt(O:G)(Q:Out->G->M->Prop):D->M->Prop:=fun d L=>Q (.rt d) O L
theorem FV:qRt O Q d L↔Q (.rt d) O L:=Iff.rfl
theorem Jv:Ws (pT ea O L) Q↔Wp (ea O L) (qRt O Q):=ws_bind.trans ⟨fun h=>h.imp fun _ _ q=>ws_some.mp q,fun h=>h.imp fun _ _ q=>ws_some.mpr q⟩
def qSI(sa sb:SV)(O:G)(Q:Out->G->M->Prop):Bool->M->Prop:=fun b L=>if b=true then Ws (sa O L) Q else Ws (sb O L) Q
theorem Er:qSI sa sb O Q true L↔Ws (sa O L) Q:=Iff.rfl
theorem Em:qSI sa sb O Q false L↔Ws (sb O L) Q:=Iff.rfl
theorem KP:Ws (sIf ba sa sb O L) Q↔Wp (ba O L) (qSI sa sb O Q):=ws_bind.trans ⟨fun h=>h.imp fun b _ q=>by cases b<;>exact q,fun h=>h.imp fun b _ q=>by cases b<;>exact q⟩
def qNx(Q:Out->G->M->Prop):G->M->Prop:=fun O L=>Q .nx O L
theorem JL:qNx Q O L↔Q .nx O L:=Iff.rfl
def qAs(g:GV)(O:G)(Q:Out->G->M->Prop):D->M->Prop:=fun d L=>Wp (g d O L) (qNx Q)
theorem Jh:qAs g O Q d L↔Wp (g d O L) (qNx Q):=Iff.rfl
theorem BW:Ws (pX ea g O L) Q↔Wp (ea O L) (qAs g O Q):=ws_bind.trans ⟨fun h=>h.imp fun _ _ q=>(ws_bind.mp q).imp fun _ _ q=>ws_some.mp q,fun h=>h.imp fun _ _ q=>ws_bind.mpr (q.imp fun _ _ q=>ws_some.mpr q)⟩
def qFo(g:GV)(sb:SV)(O:G)(Q:Out->G->M->Prop):List D×Ck->M->Prop:=fun s L=>Ws (qB s.2 g sb s.1 O L) Q
theorem Ep{c:Ck}:qFo g sb O Q (ds,c) L↔Ws (qB c g sb ds O L) Q:=Iff.rfl
theorem Fc:Ws (rK iv g sb O L) Q↔Wp (iv O L) (qFo g sb O Q):=ws_bind
def qIL(RI:List D×Ck->M->Prop):D->M->Prop:=fun d L=>∃s,lsC L d=some s/\RI s L
theorem GP:Wp (ivL ea O L) RI↔Wp (ea O L) (qIL RI):=wp_bind.trans ⟨fun h=>h.imp fun d L q=>by
  obtain⟨b,e,q⟩:=wpo_bind.mp q;exact⟨b,e,wp_some.mp q⟩,fun h=>h.imp fun d L ⟨b,e,q⟩=>wpo_bind.mpr ⟨b,e,wp_some.mpr q⟩⟩
theorem Jq:qIL RI (.lst ds) L↔RI (ds,none) L:=⟨fun⟨_,e,q⟩=>by cases e;exact q,fun q=>⟨_,rfl,q⟩⟩
def qIR(RI:List D×Ck->M->Prop):D->M->Prop:=fun d L=>∃k,d=.int k/\Wp (ivR (vC (.int k)) [] L) RI
theorem Ho:Wp (ivR ea O L) RI↔Wp (ea O L) (qIR RI):=by
 refine wp_bind.trans ⟨fun h=>h.imp fun d L q=>?_,fun h=>h.imp fun d L q=>?_⟩
 ·obtain⟨b,Z5,e,q⟩:=q;cases d with
  |int k=>exact⟨_,rfl,_,_,e,q⟩
  |_=>cases e
 ·obtain⟨b,rfl,q⟩:=q;exact q
theorem uL{c:Ck}(I:List D->G->M->Prop)(ds:List D)(h0:I ds O L)
  (hs:∀d r O L,I (d::r) O L->Wp (g d O L) fun ZX Z4=>Ws (sb ZX Z4) fun o ZT Z3=>match o with
   | .nx=>p8 c Z3/\I r ZT Z3
   | .ct=>p8 c Z3/\I r ZT Z3
   | .bk=>Q .nx ZT Z3
   | .rt d=>Q (.rt d) ZT Z3)
  (hq:∀O L,I [] O L->Q .nx O L):Ws (qB c g sb ds O L) Q:=by
 induction ds generalizing O L with
 |nil=>exact ws_some.mpr (hq _ _ h0)
 |cons d r ih=>
  refine ws_bind.mpr ((hs d r O L h0).imp fun ZX Z4 h=>wss_bind.mpr (h.imp fun o ZT Z3 h=>?_));cases o with
  |nx=>show Ws (chk _ _) Q;rw[sF h.1];exact ih h.2
  |ct=>show Ws (chk _ _) Q;rw[sF h.1];exact ih h.2
  |bk=>exact ws_some.mpr h
  |rt d=>exact ws_some.mpr h
theorem S6{c:BV}(I:G->M->Prop)(f:G->M->Nat)(N:Nat)(h0:I O L)(hN:f O L<N)
  (hs:∀O L,I O L->Wp (c O L) fun b Z4=>if b=true then Ws (sb O Z4) fun o ZT Z3=>match o with
   | .nx=>I ZT Z3/\f ZT Z3<f O L
   | .ct=>I ZT Z3/\f ZT Z3<f O L
   | .bk=>Q .nx ZT Z3
   | .rt d=>Q (.rt d) ZT Z3 else Q .nx O Z4):Ws (xi c sb N O L) Q:=by
 induction N generalizing O L with
 |zero=>omega
 |succ N ih=>
  refine ws_bind.mpr ((hs O L h0).imp fun b Z4 h=>?_);cases b with
  |false=>exact ws_some.mpr h
  |true=>
   refine wss_bind.mpr (Ws.imp h fun o ZT Z3 h=>?_);cases o with
   |nx=>exact ih (O:=ZT) (L:=Z3) h.1 (by have:=h.2;omega)
   |ct=>exact ih (O:=ZT) (L:=Z3) h.1 (by have:=h.2;omega)
   |bk=>exact ws_some.mpr h
   |rt d=>exact ws_some.mpr h
def qCo(own:List Str)(cap:List (Str×Nat))(g:GV)(tc:BV)(te:EV)(O:G)(R:D->M->Prop):List D×Ck->M->Prop:=fun s L=>s.1.length<=1000000/\Wp (qF s.2 g tc te s.1 (qt own cap O) L) fun rs L=>R (.lst rs) L
theorem ve{own:List Str}{cap:List (Str×Nat)}{c:Ck}{tc:BV}{te:EV}:qCo own cap g tc te O R (ds,c) L↔ds.length<=1000000/\Wp (qF c g tc te ds (qt own cap O) L) fun rs L=>R (.lst rs) L:=Iff.rfl
theorem Fm{own:List Str}{cap:List (Str×Nat)}{tc:BV}{te:EV}:Wp (qO own cap iv g tc te O L) R↔Wp (iv O L) (qCo own cap g tc te O R):=by
 rw[Dm];cases h:iv O L with
 |none=>exact⟨fun⟨_,_,e,_⟩=>(by cases e),fun⟨_,_,e,_⟩=>(by cases e)⟩
 |some p=>
  obtain⟨⟨its,c⟩,Z4⟩:=p;rw[wp_some,Cq,ve];by_cases hl:its.length<=1000000
  ·rw[if_pos hl];cases e:qF c g tc te its (qt own cap O) Z4 with
   |none=>exact⟨fun⟨_,_,e,_⟩=>(by cases e),fun⟨_,_,_,e,_⟩=>(by cases e)⟩
   |some q=>exact⟨fun⟨_,_,e,h⟩=>by cases e;exact⟨hl,_,_,rfl,h⟩,fun⟨_,_,_,e,h⟩=>by cases e;exact⟨_,_,rfl,h⟩⟩
  ·rw[if_neg hl];exact⟨fun⟨_,_,e,_⟩=>(by cases e),fun h=>absurd h.1 hl⟩
theorem comp_inv{c:Ck}{tc:BV}{te:EV}(I:List D->List D->G->M->Prop)(ds:List D){R:List D->M->Prop}(h0:I [] ds O L)
  (hs:∀done d r O L,I done (d::r) O L->Wp (g d O L) fun ZX Z4=>Wp (tc ZX Z4) fun b Z3=>if b=true then Wp (te ZX Z3) fun x ZN=>p8 c ZN/\I (done++[x]) r ZX ZN else p8 c Z3/\I done r ZX Z3)
  (hq:∀done O L,I done [] O L->R done L):Wp (qF c g tc te ds O L) R:=by
 suffices H:∀(ds done:List D) (O:G) (L:M),I done ds O L->Wp (qF c g tc te ds O L) fun rs L=>R (done++rs) L from(H ds [] O L h0).imp fun rs L h=>h
 intro ds;induction ds with
 |nil=>intro done O L h;exact wp_some.mpr (by simpa using hq _ _ _ h)
 |cons d r ih=>
  intro done O L h;refine wp_bind.mpr ((hs done d r O L h).imp fun ZX Z4 h=>wp_bind.mpr (h.imp fun b Z3 h=>?_));cases b with
  |true=>
   refine wp_bind.mpr (Wp.imp h fun x ZN h=>?_);show Wp (chk _ _) _;rw[sF h.1];refine wp_bind.mpr ((ih (done++[x]) ZX ZN h.2).imp fun rs Zq h=>wp_some.mpr ?_);simpa using h
  |false=>
   show Wp (chk _ _) _;have h:p8 c Z3/\I done r ZX Z3:=h;rw[sF h.1];exact ih done ZX Z3 h.2
def xw(R:D->M->Prop):Out->G->M->Prop:=fun o _ L=>match o with
 | .rt d=>R d L
 | .nx=>R .non L
 |_=>False
theorem Fi:xw R (.rt d) O L↔R d L:=Iff.rfl
theorem FN:xw R .nx O L↔R .non L:=Iff.rfl
theorem rA(h:ds.length=m):Wp (qr n m sa ds L) R↔Ws (sa (ds.map some++List.replicate (n - ds.length) none) L) (xw R):=by
 unfold qr;rw[if_pos h];refine wps_bind.trans ⟨fun h=>h.imp fun o _ _ q=>?_,fun h=>h.imp fun o _ _ q=>?_⟩
 ·cases o with
  |rt d=>exact(wp_some (Q:=R)).mp q
  |nx=>exact(wp_some (Q:=R)).mp q
  |bk=>obtain⟨_,_,e,_⟩:=q;cases e
  |ct=>obtain⟨_,_,e,_⟩:=q;cases e
 ·cases o with
  |rt d=>exact(wp_some (Q:=R)).mpr q
  |nx=>exact(wp_some (Q:=R)).mpr q
  |bk=>exact absurd q id
  |ct=>exact absurd q id
theorem TM{k:Nat}(h:k<=1000000000):qIR RI (.int (k:Int)) L↔RI (qq 0 k,none) L:=by
 have e:ivR (vC (.int (k:Int))) [] L=some ((qq 0 k,none),L):=by
  show(if -1000000000<=(k:Int)/\(k:Int)<=1000000000 then some ((qq 0 ((k:Int).toNat),(none:Ck)),L) else none)=_;rw[if_pos (by omega)];rfl
 constructor
 ·rintro⟨_,e',q⟩;cases e';rw[e] at q;exact wp_some.mp q
 ·intro q;exact⟨_,rfl,by rw[e];exact wp_some.mpr q⟩
theorem GM{i j:Int}:qi (.int i) (.int j) L=some (.int (i+j),L):=rfl
theorem Gv{i j:Int}:uR (.int i) (.int j) L=some (.int (i - j),L):=rfl
theorem Hz{i j:Int}:fGt (.int i) (.int j) L=some (.bl (decide (j<i)),L):=rfl
theorem Lf{i j:Int}:fLt (.int i) (.int j) L=some (.bl (decide (i<j)),L):=rfl
theorem JC{i j:Int}:fGe (.int i) (.int j) L=some (.bl (decide (j<=i)),L):=rfl
theorem Iq{i j:Int}:fLe (.int i) (.int j) L=some (.bl (decide (i<=j)),L):=rfl
theorem JE{i j:Int}:fEq (.int i) (.int j) L=some (.bl (decide (i=j)),L):=by unfold fEq;rw[KN];rfl
theorem FS{i j:Int}:fNe (.int i) (.int j) L=some (.bl (!decide (i=j)),L):=by unfold fNe;rw[KN];rfl
theorem Hm{i j:Int}:yy (.int i) (.int j) L=some (.int (if j<i then j else i),L):=rfl
theorem Fu{i j:Int}:D3 (.int i) (.int j) L=some (.int (if j>i then j else i),L):=rfl
theorem Ge{i:Int}:vw (.int i) L=some (.int (-i),L):=rfl
theorem Ik{b:Bool}:Gj (.bl b) L=some (.bl (!b),L):=rfl
theorem Fo{b:Bool}:xY (.bl b) L=some (.int (if b=true then 1 else 0),L):=QW
theorem qp(h:ds.length<=1000):p9 ds L=some (.tup ds,L):=if_pos h
theorem rR(h:ds.length<=1000):qo ds L=some (.lst ds,L):=if_pos h
theorem T9(h:ds.length<=1000):tw ds L=some (.ref L.length,L++[some (.lst ds)]):=if_pos h
end
section
variable {O:G} {L:M} {ea eo ei ev:EV} {el:LV} {k n:Nat} {d x y:D} {ds:List D} {o:Option D} {C:Addr} {f m:Str} {fs:List (Str×D)} {g:C0}
variable {R:D->M->Prop} {RI:List D×Ck->M->Prop} {Q:Out->G->M->Prop}
def qIT(RI:List D×Ck->M->Prop):D->M->Prop:=fun d L=>∃s,uB d=some s/\RI (s,none) L
theorem ET:Wp (ivT ea O L) RI↔Wp (ea O L) (qIT RI):=wp_bind.trans ⟨fun h=>h.imp fun d L q=>by
  obtain⟨b,e,q⟩:=wpo_bind.mp q;exact⟨b,e,wp_some.mp q⟩,fun h=>h.imp fun d L ⟨b,e,q⟩=>wpo_bind.mpr ⟨b,e,wp_some.mpr q⟩⟩
theorem E2:qIT RI (.tup ds) L↔RI (ds,none) L:=⟨fun⟨_,e,q⟩=>by cases e;exact q,fun q=>⟨_,rfl,q⟩⟩
theorem AK(h:L[k]?=some (some (.ins C fs)))(hf:fs.lookup f=some d):rQ C f (.ref k) L=some (d,L):=by
 unfold rQ;simp only[h,if_true,hf];rfl
def Ey(g:C0)(d:D)(R:D->M->Prop):List D->M->Prop:=fun ds L=>Wp (g (d::ds) L) R
theorem Fb:Ey g d R ds L↔Wp (g (d::ds) L) R:=Iff.rfl
def qMe(C:Addr)(m:Str)(g:C0)(el:LV)(O:G)(R:D->M->Prop):D->M->Prop:=fun d L=>Wp (if noM L C m d=true then(el O L).bind fun q=>g (d::q.1) q.2 else none) R
theorem GK:Wp (uH C m g eo el O L) R↔Wp (eo O L) (qMe C m g el O R):=wp_bind
theorem xo(h:L[k]?=some (some (.ins C fs)))(hf:fs.lookup m=none):qMe C m g el O R (.ref k) L↔Wp (el O L) (Ey g (.ref k) R):=by
 have e:noM L C m (.ref k)=true:=by simp[noM,h,hf]
 unfold qMe;rw[if_pos e];exact wp_bind
def qMk(C:Addr)(g:C0)(R:D->M->Prop):List D->M->Prop:=fun ds L=>Wp (g (.ref L.length::ds) (L++[some (.ins C [])])) fun d Z5=>d=.non/\R (.ref L.length) Z5
theorem Ng:qMk C g R ds L↔Wp (g (.ref L.length::ds) (L++[some (.ins C [])])) fun d Z5=>d=.non/\R (.ref L.length) Z5:=Iff.rfl
theorem OA(h:Wp (el O L) (qMk C g R)):Wp (zJ C g el O L) R:=wp_bind.mpr (h.imp fun ds L q=>wp_bind.mpr (q.imp fun d Z5 ⟨e,q⟩=>by subst e;exact wp_some.mpr q))
def qF2(C:Addr)(f:Str)(x:D)(O:G)(Q:Out->G->M->Prop):D->M->Prop:=fun d L=>Ws (match d with
 | .ref k=>match L[k]? with
  |some (some (.ins C' fs))=>if C'=C/\fs.length<1000 then some (.nx,O,L.set k (some (.ins C (rh f x fs)))) else none
  |_=>none
 |_=>none) Q
def qF1(C:Addr)(f:Str)(eo:EV)(O:G)(Q:Out->G->M->Prop):D->M->Prop:=fun x L=>Wp (eo O L) (qF2 C f x O Q)
theorem IJ:qF1 C f eo O Q x L↔Wp (eo O L) (qF2 C f x O Q):=Iff.rfl
theorem Fs:Ws (w6 C f eo ev O L) Q↔Wp (ev O L) (qF1 C f eo O Q):=ws_bind.trans ⟨fun h=>h.imp fun _ _ q=>ws_bind.mp q,fun h=>h.imp fun _ _ q=>ws_bind.mpr q⟩
theorem AE(h:L[k]?=some (some (.ins C fs)))(hl:fs.length<1000):qF2 C f x O Q (.ref k) L↔Q .nx O (L.set k (some (.ins C (rh f x fs)))):=by
 unfold qF2;simp only[h,hl,and_self,if_true];exact ws_some
def qN3(v o:D)(O:G)(Q:Out->G->M->Prop):D->M->Prop:=fun y L=>Ws ((vF y).bind fun k=>(uT L o).bind fun kvs=>match o with
 | .ref n=>if kvs.length<16000000 then some (.nx,O,L.set n (some (.dN (sZ kvs k v)))) else none
 |_=>none) Q
def qN2(ei:EV)(v:D)(O:G)(Q:Out->G->M->Prop):D->M->Prop:=fun o L=>Wp (ei O L) (qN3 v o O Q)
theorem E1:qN2 ei x O Q d L↔Wp (ei O L) (qN3 x d O Q):=Iff.rfl
def qN1(eo ei:EV)(O:G)(Q:Out->G->M->Prop):D->M->Prop:=fun v L=>Wp (eo O L) (qN2 ei v O Q)
theorem EH:qN1 eo ei O Q x L↔Wp (eo O L) (qN2 ei x O Q):=Iff.rfl
theorem Kc:Ws (De eo ei ev O L) Q↔Wp (ev O L) (qN1 eo ei O Q):=ws_bind.trans ⟨fun h=>h.imp fun _ _ q=>(ws_bind.mp q).imp fun _ _ q=>ws_bind.mp q,fun h=>h.imp fun _ _ q=>ws_bind.mpr (q.imp fun _ _ q=>ws_bind.mpr q)⟩
theorem Cc{kvs:List (NK×D)}(h:L[k]?=some (some (.dN kvs))):uT L (.ref k)=some kvs:=by simp only[uT,h]
theorem B5{ns:List Int}{i:Int}:vF (.tup [.tup (ns.map D.int),.int i])=some (ns,i):=by
 have:qd inI (ns.map D.int)=some ns:=by
  have:=vh (f:=inI) (g:=D.int) (h:=id) (l:=ns) (fun x _=>rfl);simpa using this
 simp only[vF,this];rfl
theorem Tz{kvs:List (NK×D)}{ns:List Int}{i:Int}(h:L[k]?=some (some (.dN kvs)))(hl:kvs.length<16000000):qN3 x (.ref k) O Q (.tup [.tup (ns.map D.int),.int i]) L↔Q .nx O (L.set k (some (.dN (sZ kvs (ns,i) x)))):=by
 unfold qN3;rw[B5,Cc h];simp only[Option.bind_some,hl,if_true];exact ws_some
theorem Si{kvs:List (NK×D)}{ns:List Int}{i:Int}(h:L[k]?=some (some (.dN kvs))):yH true (.tup [.tup (ns.map D.int),.int i]) (.ref k) L=some (.bl (!(qN kvs (ns,i)).isSome),L):=by
 unfold yH;rw[B5,Cc h];simp
theorem CO{kvs:List (NK×D)}{ns:List Int}{i:Int}(h:L[k]?=some (some (.dN kvs)))(hv:qN kvs (ns,i)=some d):zT (.ref k) (.tup [.tup (ns.map D.int),.int i]) L=some (d,L):=by
 unfold zT;rw[B5,Cc h];simp[hv]
theorem Vp{kvs:List (NK×D)}{k:NK}{d:D}(h:qN kvs k=none):qN (sZ kvs k d) k=some d/\(sZ kvs k d)=kvs++[(k,d)]:=by
 have hn:∀p∈kvs,p.1≠k:=fun p hp e=>by
  have:(kvs.find? fun kv=>decide (kv.1=k))=none:=by
   unfold qN at h;cases q:kvs.find? fun kv=>decide (kv.1=k) with
   |none=>rfl
   |some z=>rw[q] at h;cases h
  have:=WC.mp this p hp;simp[e] at this
 have ha:(kvs.any fun kv=>decide (kv.1=k))=false:=by
  rw[List.any_eq_false];intro p hp;simpa using hn p hp
 have e:sZ kvs k d=kvs++[(k,d)]:=by unfold sZ;rw[ha];rfl
 refine⟨?_,e⟩;rw[e];unfold qN;rw[List.find?_append];have:(kvs.find? fun kv=>decide (kv.1=k))=none:=WC.mpr fun p hp=>by simpa using hn p hp
 rw[this];simp
theorem DO{kvs:List (NK×D)}{k:NK}{d:D}(h:qN kvs k=some d):(k,d)∈kvs:=by
 unfold qN at h;cases q:kvs.find? fun kv=>decide (kv.1=k) with
 |none=>rw[q] at h;cases h
 |some z=>
  rw[q] at h;cases h;have h1:=List.mem_of_find?_eq_some q;have h2:=List.find?_some q;simp at h2;rw[←h2];exact h1
end
def Wt(r:Option (OutX×G×M))(Q:OutX->G->M->Prop):Prop:=∃o O L,r=some (o,O,L)/\Q o O L
section
variable {J β:Type} {O:G} {L:M} {ex:EX} {bx:BX} {bv:BV} {el:LV} {lx:LX} {sx sy:SX} {sv:SV} {C:Addr} {d:D} {ds:List D} {b:Bool} {g:GV} {f:FX} {n m:Nat}
variable {R:Rs D->M->Prop} {RB:Rs Bool->M->Prop} {RL:Rs (List D)->M->Prop} {Q:OutX->G->M->Prop}
theorem Wt.imp{r:Option (OutX×G×M)}{Q R:OutX->G->M->Prop}(h:Wt r Q)(f:∀o O L,Q o O L->R o O L):Wt r R:=let ⟨a,O,L,e,q⟩:=h;⟨a,O,L,e,f a O L q⟩
theorem wt_some{o:OutX}:Wt (some (o,O,L)) Q↔Q o O L:=⟨fun⟨_,_,_,e,q⟩=>by cases e;exact q,fun q=>⟨_,_,_,rfl,q⟩⟩
theorem wtp_bind{r:Option (J×M)}{f:J×M->Option (OutX×G×M)}:Wt (r.bind f) Q↔Wp r fun a L=>Wt (f (a,L)) Q:=by
 cases r with
 |none=>exact⟨fun⟨_,_,_,e,_⟩=>(by cases e),fun⟨_,_,e,_⟩=>(by cases e)⟩
 |some p=>exact⟨fun h=>⟨p.1,p.2,rfl,h⟩,fun⟨_,_,e,h⟩=>by cases e;exact h⟩
theorem wtt_bind{r:Option (OutX×G×M)}{f:OutX×G×M->Option (OutX×G×M)}:Wt (r.bind f) Q↔Wt r fun o O L=>Wt (f (o,O,L)) Q:=by
 cases r with
 |none=>exact⟨fun⟨_,_,_,e,_⟩=>(by cases e),fun⟨_,_,_,e,_⟩=>(by cases e)⟩
 |some p=>exact⟨fun h=>⟨p.1,p.2.1,p.2.2,rfl,h⟩,fun⟨_,_,_,e,h⟩=>by cases e;exact h⟩
theorem wts_bind{r:Option (Out×G×M)}{f:Out×G×M->Option (OutX×G×M)}:Wt (r.bind f) Q↔Ws r fun o O L=>Wt (f (o,O,L)) Q:=by
 cases r with
 |none=>exact⟨fun⟨_,_,_,e,_⟩=>(by cases e),fun⟨_,_,_,e,_⟩=>(by cases e)⟩
 |some p=>exact⟨fun h=>⟨p.1,p.2.1,p.2.2,rfl,h⟩,fun⟨_,_,_,e,h⟩=>by cases e;exact h⟩
theorem wpt_bind{r:Option (OutX×G×M)}{f:OutX×G×M->Option (β×M)}{R:β->M->Prop}:Wp (r.bind f) R↔Wt r fun o O L=>Wp (f (o,O,L)) R:=by
 cases r with
 |none=>exact⟨fun⟨_,_,e,_⟩=>(by cases e),fun⟨_,_,_,e,_⟩=>(by cases e)⟩
 |some p=>exact⟨fun h=>⟨p.1,p.2.1,p.2.2,rfl,h⟩,fun⟨_,_,_,e,h⟩=>by cases e;exact h⟩
def qUp(R:Rs J->M->Prop):J->M->Prop:=fun a L=>R (.ok a) L
theorem Fd{a:J}{R:Rs J->M->Prop}:qUp R a L↔R (.ok a) L:=Iff.rfl
theorem Kd:Wp (upB bv O L) RB↔Wp (bv O L) (qUp RB):=wp_bind.trans ⟨fun h=>h.imp fun _ _ q=>(wp_some (Q:=RB)).mp q,fun h=>h.imp fun _ _ q=>(wp_some (Q:=RB)).mpr q⟩
theorem K7:Wp (upL el O L) RL↔Wp (el O L) (qUp RL):=wp_bind.trans ⟨fun h=>h.imp fun _ _ q=>(wp_some (Q:=RL)).mp q,fun h=>h.imp fun _ _ q=>(wp_some (Q:=RL)).mpr q⟩
def qUS(Q:OutX->G->M->Prop):Out->G->M->Prop:=fun o O L=>Q (upO o) O L
theorem Iv:qUS Q .nx O L↔Q .nx O L:=Iff.rfl
theorem EG:qUS Q (.rt d) O L↔Q (.rt d) O L:=Iff.rfl
theorem Gq:Wt (upS sv O L) Q↔Ws (sv O L) (qUS Q):=wts_bind.trans ⟨fun h=>h.imp fun _ _ _ q=>(wt_some (Q:=Q)).mp q,fun h=>h.imp fun _ _ _ q=>(wt_some (Q:=Q)).mpr q⟩
def qLX(f:FX)(R:Rs D->M->Prop):Rs (List D)->M->Prop:=fun r L=>match r with
 | .ok ds=>Wp (f ds L) R
 | .ex C=>R (.ex C) L
theorem E8:qLX f R (.ok ds) L↔Wp (f ds L) R:=Iff.rfl
theorem K1:qLX f R (.ex C) L↔R (.ex C) L:=Iff.rfl
theorem Kb:Wp (vLX f lx O L) R↔Wp (lx O L) (qLX f R):=wp_bind.trans ⟨fun h=>h.imp fun r _ q=>by cases r;exact q;exact(wp_some (Q:=R)).mp q,fun h=>h.imp fun r _ q=>by cases r;exact q;exact(wp_some (Q:=R)).mpr q⟩
def Ab(d:D)(RL:Rs (List D)->M->Prop):Rs (List D)->M->Prop:=fun r L=>match r with
 | .ok ds=>RL (.ok (d::ds)) L
 | .ex C=>RL (.ex C) L
theorem KY:Ab d RL (.ok ds) L↔RL (.ok (d::ds)) L:=Iff.rfl
theorem JU:Ab d RL (.ex C) L↔RL (.ex C) L:=Iff.rfl
def qcX(lx:LX)(O:G)(RL:Rs (List D)->M->Prop):Rs D->M->Prop:=fun r L=>match r with
 | .ok d=>Wp (lx O L) (Ab d RL)
 | .ex C=>RL (.ex C) L
theorem KA:qcX lx O RL (.ok d) L↔Wp (lx O L) (Ab d RL):=Iff.rfl
theorem Jg:qcX lx O RL (.ex C) L↔RL (.ex C) L:=Iff.rfl
def qNX(RB:Rs Bool->M->Prop):Rs Bool->M->Prop:=fun r L=>match r with
 | .ok b=>RB (.ok (!b)) L
 | .ex C=>RB (.ex C) L
theorem En:qNX RB (.ok b) L↔RB (.ok (!b)) L:=Iff.rfl
theorem HW:qNX RB (.ex C) L↔RB (.ex C) L:=Iff.rfl
def qTX(RB:Rs Bool->M->Prop):Rs D->M->Prop:=fun r L=>match r with
 | .ok d=>∃b,d=.bl b/\RB (.ok b) L
 | .ex C=>RB (.ex C) L
theorem E4:qTX RB (.ex C) L↔RB (.ex C) L:=Iff.rfl
def z9(sy:SX)(Q:OutX->G->M->Prop):OutX->G->M->Prop:=fun o O L=>match o with
 | .nx=>Wt (sy O L) Q
 |o=>Q o O L
theorem FW:z9 sy Q .nx O L↔Wt (sy O L) Q:=Iff.rfl
theorem Fg:z9 sy Q (.rt d) O L↔Q (.rt d) O L:=Iff.rfl
theorem Ks:z9 sy Q (.ex C) O L↔Q (.ex C) O L:=Iff.rfl
theorem EQ:Wt (rg sx sy O L) Q↔Wt (sx O L) (z9 sy Q):=wtt_bind.trans ⟨fun h=>h.imp fun o _ _ q=>by cases o<;>first|exact q|exact(wt_some (Q:=Q)).mp q,fun h=>h.imp fun o _ _ q=>by cases o<;>first|exact q|exact(wt_some (Q:=Q)).mpr q⟩
def qEX(O:G)(Q:OutX->G->M->Prop):Rs D->M->Prop:=fun r L=>match r with
 | .ok _=>Q .nx O L
 | .ex C=>Q (.ex C) O L
theorem EM:qEX O Q (.ok d) L↔Q .nx O L:=Iff.rfl
theorem GD:qEX O Q (.ex C) L↔Q (.ex C) O L:=Iff.rfl
theorem J3:Wt (wn ex O L) Q↔Wp (ex O L) (qEX O Q):=wtp_bind.trans ⟨fun h=>h.imp fun r _ q=>by cases r<;>exact(wt_some (Q:=Q)).mp q,fun h=>h.imp fun r _ q=>by cases r<;>exact(wt_some (Q:=Q)).mpr q⟩
def qRX(O:G)(Q:OutX->G->M->Prop):Rs D->M->Prop:=fun r L=>match r with
 | .ok d=>Q (.rt d) O L
 | .ex C=>Q (.ex C) O L
theorem JJ:qRX O Q (.ok d) L↔Q (.rt d) O L:=Iff.rfl
theorem KZ:qRX O Q (.ex C) L↔Q (.ex C) O L:=Iff.rfl
theorem La:Wt (vz ex O L) Q↔Wp (ex O L) (qRX O Q):=wtp_bind.trans ⟨fun h=>h.imp fun r _ q=>by cases r<;>exact(wt_some (Q:=Q)).mp q,fun h=>h.imp fun r _ q=>by cases r<;>exact(wt_some (Q:=Q)).mpr q⟩
def qIX(sx sy:SX)(O:G)(Q:OutX->G->M->Prop):Rs Bool->M->Prop:=fun r L=>match r with
 | .ok c=>if c=true then Wt (sx O L) Q else Wt (sy O L) Q
 | .ex C=>Q (.ex C) O L
theorem GC:qIX sx sy O Q (.ok true) L↔Wt (sx O L) Q:=Iff.rfl
theorem HA:qIX sx sy O Q (.ok false) L↔Wt (sy O L) Q:=Iff.rfl
theorem Jf:qIX sx sy O Q (.ex C) L↔Q (.ex C) O L:=Iff.rfl
theorem G6:Wt (sC bx sx sy O L) Q↔Wp (bx O L) (qIX sx sy O Q):=wtp_bind.trans ⟨fun h=>h.imp fun r _ q=>by
  cases r with
  |ok c=>cases c<;>exact q
  |ex C=>exact(wt_some (Q:=Q)).mp q,fun h=>h.imp fun r _ q=>by
  cases r with
  |ok c=>cases c<;>exact q
  |ex C=>exact(wt_some (Q:=Q)).mpr q⟩
def Bi(Q:OutX->G->M->Prop):G->M->Prop:=fun O L=>Q .nx O L
theorem Ky:Bi Q O L↔Q .nx O L:=Iff.rfl
def qAX(g:GV)(O:G)(Q:OutX->G->M->Prop):Rs D->M->Prop:=fun r L=>match r with
 | .ok d=>Wp (g d O L) (Bi Q)
 | .ex C=>Q (.ex C) O L
theorem FK:qAX g O Q (.ok d) L↔Wp (g d O L) (Bi Q):=Iff.rfl
theorem E3:qAX g O Q (.ex C) L↔Q (.ex C) O L:=Iff.rfl
theorem J5:Wt (Di ex g O L) Q↔Wp (ex O L) (qAX g O Q):=by
 refine wtp_bind.trans ⟨fun h=>h.imp fun r L q=>?_,fun h=>h.imp fun r L q=>?_⟩
 ·cases r with
  |ok d=>exact(wtp_bind.mp q).imp fun _ _ q=>(wt_some (Q:=Q)).mp q
  |ex C=>exact(wt_some (Q:=Q)).mp q
 ·cases r with
  |ok d=>exact wtp_bind.mpr (Wp.imp q fun _ _ q=>(wt_some (Q:=Q)).mpr q)
  |ex C=>exact(wt_some (Q:=Q)).mpr q
def A8(R:Rs D->M->Prop):OutX->G->M->Prop:=fun o _ L=>match o with
 | .rt d=>R (.ok d) L
 | .nx=>R (.ok .non) L
 | .ex C=>R (.ex C) L
 |_=>False
theorem Ju:A8 R (.rt d) O L↔R (.ok d) L:=Iff.rfl
theorem Io:A8 R .nx O L↔R (.ok .non) L:=Iff.rfl
theorem Kt:A8 R (.ex C) O L↔R (.ex C) L:=Iff.rfl
theorem z6(h:ds.length=m):Wp (rO n m sx ds L) R↔Wt (sx (ds.map some++List.replicate (n - ds.length) none) L) (A8 R):=by
 unfold rO;rw[if_pos h];refine wpt_bind.trans ⟨fun h=>h.imp fun o _ _ q=>?_,fun h=>h.imp fun o _ _ q=>?_⟩
 ·cases o with
  |rt d=>exact(wp_some (Q:=R)).mp q
  |nx=>exact(wp_some (Q:=R)).mp q
  |ex C=>exact(wp_some (Q:=R)).mp q
  |bk=>obtain⟨_,_,e,_⟩:=q;cases e
  |ct=>obtain⟨_,_,e,_⟩:=q;cases e
 ·cases o with
  |rt d=>exact(wp_some (Q:=R)).mpr q
  |nx=>exact(wp_some (Q:=R)).mpr q
  |ex C=>exact(wp_some (Q:=R)).mpr q
  |bk=>exact absurd q id
  |ct=>exact absurd q id
theorem yw{R:D->M->Prop}(h:Wp (f ds L) fun r L=>∃d,r=.ok d/\R d L):Wp (dn f ds L) R:=by
 obtain⟨_,Z5,e,d,rfl,q⟩:=h;unfold dn;rw[e];exact wp_some.mpr q
theorem forX_inv{c:Ck}(I:List D->G->M->Prop)(ds:List D)(h0:I ds O L)
  (hs:∀d r O L,I (d::r) O L->Wp (g d O L) fun ZX Z4=>Wt (sx ZX Z4) fun o ZT Z3=>match o with
   | .nx=>p8 c Z3/\I r ZT Z3
   | .ct=>p8 c Z3/\I r ZT Z3
   | .bk=>Q .nx ZT Z3
   | .rt d=>Q (.rt d) ZT Z3
   | .ex C=>Q (.ex C) ZT Z3)
  (hq:∀O L,I [] O L->Q .nx O L):Wt (uE c g sx ds O L) Q:=by
 induction ds generalizing O L with
 |nil=>exact wt_some.mpr (hq _ _ h0)
 |cons d r ih=>
  refine wtp_bind.mpr ((hs d r O L h0).imp fun ZX Z4 h=>wtt_bind.mpr (h.imp fun o ZT Z3 h=>?_));cases o with
  |nx=>show Wt (chk _ _) Q;rw[sF h.1];exact ih h.2
  |ct=>show Wt (chk _ _) Q;rw[sF h.1];exact ih h.2
  |bk=>exact wt_some.mpr h
  |rt d=>exact wt_some.mpr h
  |ex C=>exact wt_some.mpr h
def qFX(g:GV)(sx:SX)(O:G)(Q:OutX->G->M->Prop):List D×Ck->M->Prop:=fun s L=>Wt (uE s.2 g sx s.1 O L) Q
theorem K9{c:Ck}:qFX g sx O Q (ds,c) L↔Wt (uE c g sx ds O L) Q:=Iff.rfl
end
end L3
namespace L2
open PySem PySem.Spec PyProof.Rows
section
variable {X:Cx}
theorem RH:OpR X (compareOp .Is) (fun x y H Q=>∃i j,x=.bl i/\y=.bl j/\Q (.bl (decide (i=j))) H):=by
 intro pins s B H x y v u Q I rx ry h;obtain⟨i,j,rfl,rfl,q⟩:=h;cases rx;cases ry;exact wpAny_is_plain rfl (zI I q (by cases i<;>cases j<;>rfl))
theorem Lo:OpR X (compareOp .IsNot) (fun x y H Q=>∃i j,x=.bl i/\y=.bl j/\Q (.bl (!decide (i=j))) H):=by
 intro pins s B H x y v u Q I rx ry h;obtain⟨i,j,rfl,rfl,q⟩:=h;cases rx;cases ry;exact wpAny_isNot_plain rfl (zI I q (by cases i<;>cases j<;>rfl))
end
end L2
namespace L3
open PySem L2
section
variable {X:Cx} {K:Frag} {a b:Expr} {ea eb:EV} {pos:Pos}
def wN(x y:D)(L:M):Fr:=match x,y with
 | .bl i,.bl j=>some (.bl (decide (i=j)),L)
 |_,_=>none
def ue(x y:D)(L:M):Fr:=match x,y with
 | .bl i,.bl j=>some (.bl (!decide (i=j)),L)
 |_,_=>none
theorem Mj:R2A K (fun x y H Q=>∃i j,x=.bl i/\y=.bl j/\Q (.bl (decide (i=j))) H) wN:=by
 intro W x y d e z Z5 Q ok r1 r2 hf q;unfold wN at hf;split at hf
 ·cases hf;cases r1;cases r2;exact⟨_,_,rfl,rfl,q _ W rfl ok .refl (.bl _)⟩
 ·cases hf
theorem M7:R2A K (fun x y H Q=>∃i j,x=.bl i/\y=.bl j/\Q (.bl (!decide (i=j))) H) ue:=by
 intro W x y d e z Z5 Q ok r1 r2 hf q;unfold ue at hf;split at hf
 ·cases hf;cases r1;cases r2;exact⟨_,_,rfl,rfl,q _ W rfl ok .refl (.bl _)⟩
 ·cases hf
theorem Bd(ha:PE X a (tD K ea))(hb:PE X b (tD K eb)):PE X (.Compare a [.Is] [b] pos) (tD K (v2 wN ea eb)):=Ac RH Mj ha hb (uc _)
theorem xb(ha:PE X a (tD K ea))(hb:PE X b (tD K eb)):PT X (.Compare a [.IsNot] [b] pos) (tDB K (vT (v2 ue ea eb))):=wx Lo M7 ha hb (uc _)
end
end L3
namespace L2
open PySem PySem.Spec PyProof.Rows
def RD:fillsNumberSlot (.type "tuple") "mul"=pure false:=
 PySem.fillsNumberSlot_seq (id:="tuple.__mul__") (r:=some (.builtin "tuple.__rmul__")) PySem.F.slot_tuple_mul.lookup (by decide +kernel) (by rw[typeLookup_type,builtinLookup_eq_fast];kernel_rfl) (by decide +kernel)
def Mt:seqRepeat? (.type "tuple")=pure (some (.builtin "tuple.__mul__")):=by
 unfold seqRepeat?;rw[PySem.seqSlot_of (T:="tuple") (name:="__mul__") (id:="tuple.__mul__") PySem.F.slot_tuple_mul.lookup (by decide +kernel),PySem.seqSlot_of (T:="tuple") (name:="__rmul__") (id:="tuple.__rmul__") (by rw[typeLookup_type,builtinLookup_eq_fast];kernel_rfl) (by decide +kernel)];rfl
theorem M1(a:Int)(t:Tok)(l:Addr)(items:Array Value)(n:Nat)(dd:Option Addr)(sl:Array (Option Value)):
  Meets (Builtin.«int.__rmul__» ⟨[.int a t,.ref l],[]⟩) (fun _ R s=>s.heap.get? l=some {cls:=.type "tuple",dict:=dd,data:=.seq items n,slots:=sl}/\R (.ok (.ret Value.notImplemented)) s):=
 .of_wp fun prog w A R s h=>by obtain⟨hp,g,d,tk,os⟩:=s;obtain⟨hl,h⟩:=h;wp_walk;exact⟨_,rfl,h⟩
theorem Nm(l:Addr)(items:Array Value)(n:Nat)(dd:Option Addr)(sl:Array (Option Value))(x:Int)(u:Tok)(he:items≠#[])(hx:2<=x)(hx2:x<1000)(hz:items.size*x.toNat<=1000000):
  Meets (Builtin.«tuple.__mul__» ⟨[.ref l,.int x u],[]⟩) (fun _ R s=>s.heap.get? l=some {cls:=.type "tuple",dict:=dd,data:=.seq items n,slots:=sl}/\R (.ok (.ret (Value.ref s.heap.objs.size))) {s with heap:=s.heap.push {cls:=Value.type "tuple",data:=Data.seq (List.foldl (fun x1 x2=>x1++x2) #[] (List.replicate x.toNat items))},toks:=s.toks}):=
 .of_wp fun prog w A R s h=>by
  obtain⟨hp,g,d,tk,os⟩:=s;obtain⟨hl,h⟩:=h;have f1:=AutoSeq1.idx_int;have f2:=AutoSeq1.sub_tuple_tuple;have hz':(items.size:Int)*x<=1000000:=by
   obtain⟨m,rfl⟩:∃m:Nat,x=(m:Int):=⟨x.toNat,by omega⟩
   rw[Int.toNat_natCast] at hz;rw[←Int.natCast_mul];omega
  have a1:¬x< -9223372036854775808:=by omega
  have a2:¬9223372036854775808<=x:=by omega
  have a3:¬x<=0:=by omega
  have a4:¬x=1:=by omega
  have a6:¬(1152921504606846975<(items.size:Int)*x):=by omega
  have a7:Builtin.Tuple.tupleTooMany (items.size*x)=false:=by
   unfold Builtin.Tuple.tupleTooMany;rw[WM];simp;omega
  have hsz:(List.foldl (fun x1 x2=>x1++x2) #[] (List.replicate x.toNat items)).size<=sizeLine:=by
   rw[AutoSeq1.size_joined,Nat.mul_comm];exact tP (by simp;omega)
  wp_walk using AutoSeq1.wpAny_loadPart' hl;exact⟨_,rfl,h⟩
def JN(K:Frag):R2:=fun x y H Q=>∃l k xs,x=.ref l/\y=.int k/\SqT K H l xs/\xs≠[]/\2<=k/\k<1000/\xs.length*k.toNat<=1000000/\
 ∀p,H p=none->Q (.ref p) (upd H p (.tup (List.replicate k.toNat xs).flatten))
section
variable {X:Cx}
theorem Q9:OpR X (binaryOp .Mult) (JN X.K):=by
 intro pins s B H x y v u Q I rx ry h;obtain⟨l,k,xs,rfl,rfl,hH,h0,h1,h2,hz,q⟩:=h;cases rx;obtain⟨t,rfl⟩:=ry;obtain⟨its,r,p1,_⟩:=I.tuple hH;obtain⟨⟨cls,dd,data,sl⟩,ho,hc,n,hd⟩:=id p1;simp only at hc hd;subst hc hd;have hne:its.toArray≠#[]:=fun z=>h0 (r.nil_iff.mp (by simpa using z));have hlen:its.toArray.size*k.toNat<=1000000:=by rw[VH,←r.length];exact hz
 have hnew:List.foldl (fun x1 x2=>x1++x2) #[] (List.replicate k.toNat its.toArray)=(List.replicate k.toNat its).flatten.toArray:=by
  have:=CL its k.toNat []
  rw[List.nil_append] at this;exact this
 refine wpAny_binaryOp_repeat_ref (T:="tuple") (U:="int") (by decide) ⟨_,ho,rfl⟩ (fun s'=>typeIs_int s' k t) RD PySem.F.fills_int_mul PySem.F.slot_int_rmul Mt PySem.F.slot_int_index.lookup
  (call_meets PySem.F.slot_int_rmul (typeIs_int s k t) PySem.F.entry_int_rmul (PySem.F.args_int_rmul_2 _ _) (M1 k t l its.toArray n dd sl)
   ⟨ho,rfl,⟨_,ho,rfl⟩,call_meets PySem.F.slot_tuple_mul ⟨_,ho,rfl⟩ PySem.F.entry_tuple_mul (PySem.F.args_tuple_mul_2 _ _) (Nm l its.toArray n dd sl k t hne h1 h2 hlen) ⟨ho,?_⟩⟩)
 rw[hnew];refine⟨.ref s.heap.objs.size,_,I.laid (t':=s.toks) (o:=.tup (List.replicate k.toNat xs).flatten) (fun b ob q=>Vu _ q) (Vv _) ?_,rfl,q _ (I.hok.fresh (Vv _))⟩;exact⟨by rw[K3,Nat.mul_comm];exact tP (by omega),_,r.rep k.toNat,IsTup.new _ _⟩
end
end L2
namespace L3
open PySem PySem.Spec PyProof.Rows L2
section
variable {X:Cx} {K:Frag} {a b:Expr} {ea eb:EV} {pos:Pos}
def yI(x y:D)(L:M):Fr:=match x,y with
 | .tup (z::xs),.int k=>if 2<=k/\k<1000/\(z::xs).length*k.toNat<=1000000 then some (.tup (List.replicate k.toNat (z::xs)).flatten,L) else none
 |_,_=>none
theorem U2:R2A K (JN K) yI:=by
 intro W x y d e z Z5 Q ok r1 r2 hf q;unfold yI at hf;split at hf
 ·split at hf
  ·rename_i hl;cases hf;cases r2;obtain⟨a,vs,rfl,ha,hv⟩:=u5 (ds:=_::_) rfl r1;refine⟨a,_,vs,rfl,rfl,ha,fun z=>?_,by omega,by omega,by rw[←hv.length];omega,fun p hp=>q _ (W.lay p _) rfl (rL ok hp) (qJ hp) (uG ok hp (hv.rep _))⟩;have:=hv.length;rw[z] at this;cases this
  ·cases hf
 ·cases hf
theorem QF(ha:PE X a (tD K ea))(hb:PE X b (tD K eb))(hK:X.K=K:=by rfl):PE X (.BinOp a .Mult b pos) (tD K (v2 yI ea eb)):=by
 subst hK;exact wC Q9 U2 ha hb
end
end L3
namespace Law
open PySem L2 L3
def top(i:Nat):Stmt:=PySem.Challenge.pw_morethanhalf_k25_papers_of_another_shape.main.body.getD i (.Pass ⟨0,0,0,0⟩)
section
variable {P:Program} {w:World} {K:Frag} {mg:Str->Option Value} {base:Heap} {f:Addr} {fd:FuncData}
theorem A0:FnScope ["kinds","by_kind","thing","kind"] ["kinds"] (pN (top 7)):=⟨rfl,rfl,rfl,by decide +kernel,rfl,by decide +kernel,by decide +kernel⟩
def BO:SV:=
  (pM (pX wd (pJ 1))
  (pM (rK (Ct (be 0)) (qm 2 (pS (pJ 2) (pS (pJ 3) qA)))
   (sK (vY tE (sJ (be 1) (be 3) (vL tw pI)) (be 2))))
  (pT (v1 Ar (be 1)))))
def u8:C0:=qr 4 1 (BO)
theorem SH{k:Nat}(F:Fun K "alike_things" "alike_things" (top 7) f fd) (DV:mg "enumerate"=none) (xG:mg "list"=none):FnOk P w K mg base CX0 (k+1) f fd ["kinds"] (spM K (u8)):=by
 unfold u8 BO;exact qQ F A0 fun cdv A outer s H E hr=>
  (pQ (qC (i:=1) A0.nd rfl (Or.inl rfl) Do)
  (pQ (sH V6 rfl (Pc DV (pF 0)) (sT (n:=2) (qu (p5 (i:=2) A0.nd rfl (Or.inl rfl)) (qu (p5 (i:=3) A0.nd rfl (Or.inl rfl)) sU)))
   (pP (xa (IS (C2 (pF 1) (pF 3) (DH pL)) (pF 2)))))
  (pP (pZ (QN xG (pF 1))))))
theorem HQ:FnScope ["kinds","things"] ["kinds"] (pN (top 8)):=⟨rfl,rfl,rfl,by decide +kernel,rfl,by decide +kernel,by decide +kernel⟩
def AM(xg:C0):SV:=
  (pM (rK (ivL (vL xg (pG (be 0) pI))) (pJ 1)
   (sIf (vT (v2 fGt (v2 tF (vC (.int 2)) (v1 qy (be 1))) (v1 qy (be 0))))
    (pT (be 1))
    sNx))
  (pT (vL qo pI)))
def yO(xg:C0):C0:=qr 2 1 (AM xg)
theorem Tn{xg:C0}{FQ k:Nat}(F:Fun K "more_than_half" "more_than_half" (top 8) f fd) (BA:Df P w K mg base FQ "alike_things" ["kinds"] (spM K xg)) (OQ:FQ<=k) (rq:mg "len"=none):FnOk P w K mg base CX0 (k+1) f fd ["kinds"] (spM K (yO xg)):=by
 unfold yO AM;exact qQ F HQ fun cdv A outer s H E hr=>
  (pQ (sH V6 rfl (rM (qa BA (hr.mono OQ) (pH (pF 0) pL))) (p5 (i:=1) HQ.nd rfl (Or.inl rfl))
   (pP (qD (Ae (zY pO (vB rq (pF 1))) (vB rq (pF 0)))
    (pP (pZ (pF 1)))
    qx)))
  (pP (pZ (q0 pL))))
theorem II:FnScope ["sort","most","used"] ["sort","most"] (pN (top 9)):=⟨rfl,rfl,rfl,by decide +kernel,rfl,by decide +kernel,by decide +kernel⟩
theorem Om:((["number"]:List Str)++([("sort",0)]:List (Str×Nat)).map (·.1)).Nodup:=by decide +kernel
def Cr:SV:=
  (pM (pX (v2 qi (v2 xK (be 0) (v1 vw (vC (.int 1)))) (vC (.int 1))) (pJ 2))
  (pT (qO ["number"] [("sort",0)] (yQ (v2 yy (v2 qi (be 2) (vC (.int 1))) (be 1))) (pJ 0) pY (v2 qi (be 1) (vL qo (pG (be 0) pI))))))
def tj:C0:=qr 3 2 (Cr)
theorem M8{k:Nat}(F:Fun K "one_thing_more" "one_thing_more" (top 9) f fd) (wS:mg "max"=none) (Ca:mg "min"=none) (rY:mg "range"=none):FnOk P w K mg base CX0 (k+1) f fd ["sort","most"] (spM K (tj)):=by
 unfold tj Cr;exact qQ F II fun cdv A outer s H E hr=>
  (pQ (qC (i:=2) II.nd rfl (Or.inl rfl) (rm (L5 wS (pF 0) (Os pO)) pO))
  (pP (pZ (ub (own:=["number"]) (cap:=[("sort",0)]) (sf rfl) (NF rY (Mq Ca (rm (pF 2) pO) (pF 1)))
   (fun _ _ _ _ _=>(p5 (i:=0) Om rfl (Or.inl rfl))) (fun _ _ _ _ _=>sY)
   (fun _ _ _ _ _=>(rm (pF 1) (q0 (pH (pF 0) pL))))))))
theorem zo:FnScope ["many","most","sorts","step"] ["many","most"] (pN (top 10)):=⟨rfl,rfl,rfl,by decide +kernel,rfl,by decide +kernel,by decide +kernel⟩
theorem Ek:((["sort","longer"]:List Str)++([("most",1)]:List (Str×Nat)).map (·.1)).Nodup:=by decide +kernel
def Dg(xW:C0)(wv:D)(sd:Addr):SX:=
  (rg (sC (upB (bOr (vT (v2 fLt (be 0) (vC (.int 0)))) (vT (v2 fGt (be 0) (vC wv)))))
   (uV sd ((vC wv)::((be 0)::[])))
   (upS sNx))
  (upS (pM (pX (vL qo (pG (vL qo pI) pI)) (pJ 2))
  (pM (rK (ivR (be 0)) (pJ 3)
   (pX (vg ["sort","longer"] [("most",1)] (ivL (be 2)) (pJ 0) pY (ivL (vL xW (pG (be 0) (pG (be 2) pI)))) (pJ 1) pY (be 1)) (pJ 2)))
  (pT (be 2))))))
def wK(xW:C0)(wv:D)(sd:Addr):FX:=rO 4 2 (Dg xW wv sd)
theorem Lp{xW:C0}{Jc k:Nat}{wv:D}{v_MOST_THINGS:V}{u_MOST_THINGS:Value}{sd:Addr}(F:Fun K "all_sorts" "all_sorts" (top 10) f fd) (Ef:Df P w K mg base Jc "one_thing_more" ["sort","most"] (spM K xW)) (Nl:Jc<=k) (vq:mg "MOST_THINGS"=some u_MOST_THINGS/\RelV v_MOST_THINGS u_MOST_THINGS/\∀W,DR K W wv v_MOST_THINGS) (vZ:mg "TooMany"=some (.ref sd)/\tI K sd) (rY:mg "range"=none):FnOk P w K mg base (CXr P w) (k+1) f fd ["many","most"] (spX K (wK xW wv sd)):=by
 unfold wK Dg;exact uM F zo fun cdv A outer s H E hr=>
  (vy (wL (xI (PW.pt (xH (yV (pF 0) pO) (xn (Ae (pF 0) (tW vq.1 vq.2.1 vq.2.2))))))
   (sw (w8 (wR (sD (by decide) (tR (tW vq.1 vq.2.1 vq.2.2) (sD (by decide) (tR (pF 0) pj0))))) vZ.1 vZ.2))
   v4)
  (BZ (pQ (qC (i:=2) zo.nd rfl (Or.inl rfl) (q0 (pH (q0 pL) pL)))
  (pQ (sH V6 rfl (Ds rY (pF 0)) (p5 (i:=3) zo.nd rfl (Or.inl rfl))
   (pP (Uq (i:=2) zo.nd rfl rfl (own:=["sort","longer"]) (cap:=[("most",1)]) (sf rfl) (rM (pF 2))
   (fun _ _ _ _ _=>(p5 (i:=0) Ek rfl (Or.inl rfl))) (fun _ _ _ _ _=>sY)
   (fun _ _ _ _ _=>(rM (qa Ef (hr.mono Nl) (pH (pF 0) (pH (pF 2) pL))))) (fun _ _ _ _ _=>(p5 (i:=1) Ek rfl (Or.inl rfl))) (fun _ _ _ _ _=>sY)
   (fun _ _ _ _ _=>(pF 1)))))
  (pP (pZ (pF 2)))))))
theorem Ll:FnScope ["kinds","things"] ["kinds"] (pN (top 13)):=⟨rfl,rfl,rfl,by decide +kernel,rfl,by decide +kernel,by decide +kernel⟩
theorem LR:((["thing"]:List Str)++([]:List (Str×Nat)).map (·.1)).Nodup:=by decide +kernel
def DG(xV:C0):SV:=
  (pM (pX (vL xV (pG (be 0) pI)) (pJ 1))
  (pT (vIf (qS (be 1)) (qO ["thing"] [] (ivL (be 1)) (pJ 0) pY (vL p9 (pG (vC (.str "one")) (pG (be 0) pI)))) (vL qo (pG (vL p9 (pG (vC (.str "none")) pI)) pI)))))
def z8(xV:C0):C0:=qr 2 1 (DG xV)
theorem Qu{xV:C0}{EB k:Nat}(F:Fun K "half_ends" "half_ends" (top 13) f fd) (D9:Df P w K mg base EB "more_than_half" ["kinds"] (spM K xV)) (PQ:EB<=k):FnOk P w K mg base CX0 (k+1) f fd ["kinds"] (spM K (z8 xV)):=by
 unfold z8 DG;exact qQ F Ll fun cdv A outer s H E hr=>
  (pQ (qC (i:=1) Ll.nd rfl (Or.inl rfl) (qa D9 (hr.mono PQ) (pH (pF 0) pL)))
  (pP (pZ (BJ (ua (pF 1)) (ub (own:=["thing"]) (cap:=[]) (sf rfl) (rM (pF 1))
   (fun _ _ _ _ _=>(p5 (i:=0) LR rfl (Or.inl rfl))) (fun _ _ _ _ _=>sY)
   (fun _ _ _ _ _=>(ql (pH wT (pH (pF 0) pL))))) (q0 (pH (ql (pH wT pL)) pL))))))
theorem Il:FnScope ["ends","end"] ["ends"] (pN (top 14)):=⟨rfl,rfl,rfl,by decide +kernel,rfl,by decide +kernel,by decide +kernel⟩
theorem Ma:((["others"]:List Str)++([("end",1)]:List (Str×Nat)).map (·.1)).Nodup:=by decide +kernel
def Ad(qH:D):SV:=
  (pM (rK (ivL (v2 fIx (be 0) (vC (.int 0)))) (pJ 1)
   (sIf (qS (v1 uf (qO ["others"] [("end",1)] (ivL (be 0)) (pJ 0) pY (v2 (uP false) (be 1) (be 0)))))
    (pT (be 1))
    sNx))
  (pT (vC qH)))
def uo(qH:D):C0:=qr 2 1 (Ad qH)
theorem QP{k:Nat}{qH:D}{v_OPEN:V}{u_OPEN:Value}(F:Fun K "common_end" "common_end" (top 14) f fd) (rE:mg "OPEN"=some u_OPEN/\RelV v_OPEN u_OPEN/\∀W,DR K W qH v_OPEN) (u3:mg "all"=none):FnOk P w K mg base CX0 (k+1) f fd ["ends"] (spM K (uo qH)):=by
 unfold uo Ad;exact qQ F Il fun cdv A outer s H E hr=>
  (pQ (sH V6 rfl (rM (rf (pF 0) pO)) (p5 (i:=1) Il.nd rfl (Or.inr rfl))
   (pP (qD (ua (Dk u3 (ub (own:=["others"]) (cap:=[("end",1)]) (sf rfl) (rM (pF 0))
   (fun _ _ _ _ _=>(p5 (i:=0) Ma rfl (Or.inl rfl))) (fun _ _ _ _ _=>sY)
   (fun _ _ _ _ _=>(Tq hr (pF 1) (pF 0))))))
    (pP (pZ (pF 1)))
    qx)))
  (pP (pZ (tW rE.1 rE.2.1 rE.2.2))))
theorem AI:FnScope ["many","answers","i","j","alike"] ["many","answers"] (pN (top 16)):=⟨rfl,rfl,rfl,by decide +kernel,rfl,by decide +kernel,by decide +kernel⟩
def Dh(rP:Addr):SX:=
  (rg (sC (upB (vT (v2 fLt (be 0) (vC (.int 0)))))
   (uV rP ((be 0)::[]))
   (upS sNx))
  (IY (ivL (be 1)) (qm 3 (pS (pJ 2) (pS (pJ 3) (pS (pJ 4) qA))))
   (rg (sC (upB (sR (tm (vT (uj fLe fLt (vC (.int 0)) (be 2) (be 0))) (vT (uj fLe fLt (vC (.int 0)) (be 3) (be 0))))))
    (uV rP ((be 2)::((be 3)::((be 0)::[]))))
    (upS sNx))
   (sC (upB (vT (v2 fEq (be 2) (be 3))))
    (uV rP ((be 2)::[]))
    (upS sNx)))))
def zf(rP:Addr):FX:=rO 5 2 (Dh rP)
theorem Ss{k:Nat}{rP:Addr}(F:Fun K "check_things" "check_things" (top 16) f fd) (tL:mg "NoThing"=some (.ref rP)/\tI K rP):FnOk P w K mg base (CXr P w) (k+1) f fd ["many","answers"] (spX K (zf rP)):=by
 unfold zf Dh;exact uM F AI fun cdv A outer s H E hr=>
  (vy (wL (xI (yV (pF 0) pO))
   (sw (w8 (wR (sD (by decide) (tR (pF 0) (sD (by decide) pj0)))) tL.1 tL.2))
   v4)
  (sw (My (SU ⟨rfl,rfl⟩) rfl (Nt (rM (pF 1))) (UJ (sT (n:=3) (qu (p5 (i:=2) AI.nd rfl (Or.inl rfl)) (qu (p5 (i:=3) AI.nd rfl (Or.inl rfl)) (qu (p5 (i:=4) AI.nd rfl (Or.inl rfl)) sU)))))
   (vy (wL (xI (wH (PW.pt (Ag (Ga Gy HC D8 JP pO (pF 2) (pF 0)) (zt (Ga Gy HC D8 JP pO (pF 3) (pF 0)))))))
    (sw (w8 (wR (sD (by decide) (tR (pF 2) (sD (by decide) (tR (pF 3) (sD (by decide) (tR (pF 0) (sD (by decide) pj0)))))))) tL.1 tL.2))
    v4)
   (sw (wL (xI (sA hr (pF 2) (pF 3)))
    (sw (w8 (wR (sD (by decide) (tR (pF 2) (sD (by decide) pj0)))) tL.1 tL.2))
    v4))))))
theorem Sk:FnScope ["homes","old","new"] ["homes","old","new"] (pN (top 17)):=⟨rfl,rfl,rfl,by decide +kernel,rfl,by decide +kernel,by decide +kernel⟩
theorem KU:((["thing","home"]:List Str)++([("old",1),("new",2)]:List (Str×Nat)).map (·.1)).Nodup:=by decide +kernel
def Bv:SV:=
  (pT (A6 ["thing","home"] [("old",1),("new",2)] (be 0) (qm 2 (pS (pJ 0) (pS (pJ 1) qA))) pY (be 0) (vIf (vT (v2 fEq (be 1) (be 2))) (be 3) (be 1))))
def tY:C0:=qr 3 3 (Bv)
theorem RP{k:Nat}(F:Fun K "moved" "moved" (top 17) f fd):FnOk P w K mg base CX0 (k+1) f fd ["homes","old","new"] (spM K (tY)):=by
 unfold tY Bv;exact qQ F Sk fun cdv A outer s H E hr=>
  (pP (pZ (Qb (own:=["thing","home"]) (cap:=[("old",1),("new",2)]) (sf rfl) (pF 0)
   (fun _ _ _ _ _=>(sT (n:=2) (qu (p5 (i:=0) KU rfl (Or.inl rfl)) (qu (p5 (i:=1) KU rfl (Or.inl rfl)) sU)))) (fun _ _ _ _ _=>sY)
   (fun _ _ _ _ _=>(pF 0)) (fun _ _ _ _ _=>(BJ (sA hr (pF 1) (pF 2)) (pF 3) (pF 1))))))
theorem xj:FnScope ["answers","homes","i","j","alike"] ["answers"] (pN (top 18)):=⟨rfl,rfl,rfl,by decide +kernel,rfl,by decide +kernel,by decide +kernel⟩
def Ec(xv:C0):SV:=
  (pM (pX wd (pJ 1))
  (pM (rK (ivL (be 0)) (qm 3 (pS (pJ 2) (pS (pJ 3) (pS (pJ 4) qA))))
   (pM (sK (sJ (be 1) (be 2) (be 2)))
   (pM (sK (sJ (be 1) (be 3) (be 3)))
   (sIf (qS (be 4))
    (pX (vL xv (pG (be 1) (pG (v2 sh (be 1) (be 3)) (pG (v2 sh (be 1) (be 2)) pI)))) (pJ 1))
    sNx))))
  (pT (be 1))))
def we(xv:C0):C0:=qr 5 1 (Ec xv)
theorem OE{xv:C0}{Kw k:Nat}(F:Fun K "homes_of" "homes_of" (top 18) f fd) (DN:Df P w K mg base Kw "moved" ["homes","old","new"] (spM K xv)) (NH:Kw<=k):FnOk P w K mg base CX0 (k+1) f fd ["answers"] (spM K (we xv)):=by
 unfold we Ec;exact qQ F xj fun cdv A outer s H E hr=>
  (pQ (qC (i:=1) xj.nd rfl (Or.inl rfl) Do)
  (pQ (sH V6 rfl (rM (pF 0)) (sT (n:=3) (qu (p5 (i:=2) xj.nd rfl (Or.inl rfl)) (qu (p5 (i:=3) xj.nd rfl (Or.inl rfl)) (qu (p5 (i:=4) xj.nd rfl (Or.inl rfl)) sU))))
   (pQ (xa (C2 (pF 1) (pF 2) (pF 2)))
   (pQ (xa (C2 (pF 1) (pF 3) (pF 3)))
   (pP (qD (ua (pF 4))
    (pP (qC (i:=1) xj.nd rfl (Or.inl rfl) (qa DN (hr.mono NH) (pH (pF 1) (pH (AA hr (pF 1) (pF 3)) (pH (AA hr (pF 1) (pF 2)) pL))))))
    qx)))))
  (pP (pZ (pF 1)))))
theorem HM:FnScope ["many","answers","homes"] ["many","answers"] (pN (top 19)):=⟨rfl,rfl,rfl,by decide +kernel,rfl,by decide +kernel,by decide +kernel⟩
theorem C9:((["i","j","alike"]:List Str)++([("homes",2)]:List (Str×Nat)).map (·.1)).Nodup:=by decide +kernel
def Bc(wZ:C0)(xq:FX):SX:=
  (rg (wn (vLX xq (upL (pG (be 0) (pG (be 1) pI)))))
  (upS (pM (pX (vL wZ (pG (be 1) pI)) (pJ 2))
  (pT (v1 uf (qO ["i","j","alike"] [("homes",2)] (ivL (be 1)) (qm 3 (pS (pJ 0) (pS (pJ 1) (pS (pJ 2) qA)))) pY (vOr (be 2) (v2 fNe (v2 sh (be 3) (be 0)) (v2 sh (be 3) (be 1))))))))))
def Bq(wZ:C0)(xq:FX):FX:=rO 3 2 (Bc wZ xq)
theorem SI{wZ:C0}{xq:FX}{ID JQ k:Nat}(F:Fun K "can_be" "can_be" (top 19) f fd) (Ee:Df P w K mg base ID "homes_of" ["answers"] (spM K wZ)) (Nv:ID<=k) (DJ:DfX P w K mg base JQ "check_things" ["many","answers"] (spX K xq)) (QV:JQ<=k) (u3:mg "all"=none):FnOk P w K mg base (CXr P w) (k+1) f fd ["many","answers"] (spX K (Bq wZ xq)):=by
 unfold Bq Bc;exact uM F HM fun cdv A outer s H E hr=>
  (vy (BF (vO DJ (hr.mono QV) (uD (pH (pF 0) (pH (pF 1) pL)))))
  (BZ (pQ (qC (i:=2) HM.nd rfl (Or.inr rfl) (qa Ee (hr.mono Nv) (pH (pF 1) pL)))
  (pP (pZ (Dk u3 (ub (own:=["i","j","alike"]) (cap:=[("homes",2)]) (sf rfl) (rM (pF 1))
   (fun _ _ _ _ _=>(sT (n:=3) (qu (p5 (i:=0) C9 rfl (Or.inl rfl)) (qu (p5 (i:=1) C9 rfl (Or.inl rfl)) (qu (p5 (i:=2) C9 rfl (Or.inl rfl)) sU))))) (fun _ _ _ _ _=>sY)
   (fun _ _ _ _ _=>(Qg (pF 2) (yk (Hv hr (AA hr (pF 3) (pF 0)) (AA hr (pF 3) (pF 1)))))))))))))
theorem Lq:FnScope ["many","answers"] ["many","answers"] (pN (top 20)):=⟨rfl,rfl,rfl,by decide +kernel,rfl,by decide +kernel,by decide +kernel⟩
def CK(rC:FX)(ww:Addr):SX:=
  (sC (zw (bTX (vLX rC (upL (pG (be 0) (pG (be 1) pI))))))
   (Kk ww (vC (.str "the answers cannot all be right")))
   (upS sNx))
def BN(rC:FX)(ww:Addr):FX:=rO 2 2 (CK rC ww)
theorem P6{rC:FX}{vp k:Nat}{ww:Addr}(F:Fun K "check_right" "check_right" (top 20) f fd) (uz:DfX P w K mg base vp "can_be" ["many","answers"] (spX K rC)) (ye:vp<=k) (AJ:mg "NoFit"=some (.ref ww)/\tI K ww):FnOk P w K mg base (CXr P w) (k+1) f fd ["many","answers"] (spX K (BN rC ww)):=by
 unfold BN CK;exact uM F Lq fun cdv A outer s H E hr=>
  (sw (wL (Sf (LF (vO uz (hr.mono ye) (uD (pH (pF 0) (pH (pF 1) pL))))))
   (sw (Od wT AJ.1 AJ.2))
   v4))
theorem zy:FnScope ["kinds","answers","i","j","alike"] ["kinds","answers"] (pN (top 21)):=⟨rfl,rfl,rfl,by decide +kernel,rfl,by decide +kernel,by decide +kernel⟩
def Dq:SV:=
  (pM (rK (ivL (be 1)) (qm 3 (pS (pJ 2) (pS (pJ 3) (pS (pJ 4) qA))))
   (sIf (vT (v2 fNe (v2 fEq (v2 fIx (be 0) (be 2)) (v2 fIx (be 0) (be 3))) (be 4)))
    (pT (vC (.bl false)))
    sNx))
  (pT (vC (.bl true))))
def vM:C0:=qr 5 2 (Dq)
theorem RV{k:Nat}(F:Fun K "fits" "fits" (top 21) f fd):FnOk P w K mg base CX0 (k+1) f fd ["kinds","answers"] (spM K (vM)):=by
 unfold vM Dq;exact qQ F zy fun cdv A outer s H E hr=>
  (pQ (sH V6 rfl (rM (pF 1)) (sT (n:=3) (qu (p5 (i:=2) zy.nd rfl (Or.inl rfl)) (qu (p5 (i:=3) zy.nd rfl (Or.inl rfl)) (qu (p5 (i:=4) zy.nd rfl (Or.inl rfl)) sU))))
   (pP (qD (Ay hr (yY hr (rf (pF 0) (pF 2)) (rf (pF 0) (pF 3))) (pF 4))
    (pP (pZ qI))
    qx)))
  (pP (pZ qI)))
theorem NJ:FnScope ["many","answers"] ["many","answers"] (pN (top 22)):=⟨rfl,rfl,rfl,by decide +kernel,rfl,by decide +kernel,by decide +kernel⟩
theorem OP:((["sort"]:List Str)++([("answers",1)]:List (Str×Nat)).map (·.1)).Nodup:=by decide +kernel
def Db(xx:C0)(xL:FX)(sW:FX):SX:=
  (rg (wn (vLX xL (upL (pG (be 0) (pG (be 1) pI)))))
  (vz (wk ["sort"] [("answers",1)] (vLX sW (upL (pG (be 0) (pG (be 0) pI)))) (pJ 0) (qS (vL xx (pG (be 0) (pG (be 1) pI)))) (be 0))))
def B9(xx:C0)(xL:FX)(sW:FX):FX:=rO 2 2 (Db xx xL sW)
theorem LA{xx:C0}{xL sW:FX}{Ft KS yA k:Nat}(F:Fun K "sorts_that_fit" "sorts_that_fit" (top 22) f fd) (Bf:Df P w K mg base Ft "fits" ["kinds","answers"] (spM K xx)) (OO:Ft<=k) (C1:DfX P w K mg base KS "check_right" ["many","answers"] (spX K xL)) (Pu:KS<=k) (wY:DfX P w K mg base yA "all_sorts" ["many","most"] (spX K sW)) (DL:yA<=k):FnOk P w K mg base (CXr P w) (k+1) f fd ["many","answers"] (spX K (B9 xx xL sW)):=by
 unfold B9 Db;exact uM F NJ fun cdv A outer s H E hr=>
  (vy (BF (vO C1 (hr.mono Pu) (uD (pH (pF 0) (pH (pF 1) pL)))))
  (sw (CQ (FD (own:=["sort"]) (cap:=[("answers",1)]) (sf rfl) (vO wY (hr.mono DL) (uD (pH (pF 0) (pH (pF 0) pL))))
   (fun _ _ _ _ _=>(p5 (i:=0) OP rfl (Or.inl rfl))) (fun _ _ _ _ _=>(zU (ua (qa Bf (hr.mono OO) (pH (pF 0) (pH (pF 1) pL))))))
   (fun _ _ _ _ _=>(pF 0))))))
theorem Vg:FnScope ["many","answers"] ["many","answers"] (pN (top 23)):=⟨rfl,rfl,rfl,by decide +kernel,rfl,by decide +kernel,by decide +kernel⟩
theorem Mf:((["sort"]:List Str)++([]:List (Str×Nat)).map (·.1)).Nodup:=by decide +kernel
def Bx(tp:C0)(sQ:C0)(xR:FX):SX:=
  (vz (vLX (upF tp) (Ao (wk ["sort"] [] (vLX xR (upL (pG (be 0) (pG (be 1) pI)))) (pJ 0) pY (vL sQ (pG (be 0) pI))) (upL pI))))
def DS(tp:C0)(sQ:C0)(xR:FX):FX:=rO 2 2 (Bx tp sQ xR)
theorem Ps{tp sQ:C0}{xR:FX}{y2 yZ HF k:Nat}(F:Fun K "tells" "tells" (top 23) f fd) (wP:Df P w K mg base y2 "common_end" ["ends"] (spM K tp)) (B1:y2<=k) (xN:Df P w K mg base yZ "half_ends" ["kinds"] (spM K sQ)) (C6:yZ<=k) (DQ:DfX P w K mg base HF "sorts_that_fit" ["many","answers"] (spX K xR)) (Oq:HF<=k):FnOk P w K mg base (CXr P w) (k+1) f fd ["many","answers"] (spX K (DS tp sQ xR)):=by
 unfold DS Bx;exact uM F Vg fun cdv A outer s H E hr=>
  (sw (CQ (LI wP (hr.mono B1) (MG (FD (own:=["sort"]) (cap:=[]) (sf rfl) (vO DQ (hr.mono Oq) (uD (pH (pF 0) (pH (pF 1) pL))))
   (fun _ _ _ _ _=>(p5 (i:=0) Mf rfl (Or.inl rfl))) (fun _ _ _ _ _=>sY)
   (fun _ _ _ _ _=>(qa xN (hr.mono C6) (pH (pF 0) pL)))) (uD pL)))))
theorem LU:FnScope ["many"] ["many"] (pN (top 25)):=⟨rfl,rfl,rfl,by decide +kernel,rfl,by decide +kernel,by decide +kernel⟩
theorem FJ:((["i","j"]:List Str)++([("many",0)]:List (Str×Nat)).map (·.1)).Nodup:=by decide +kernel
def B7:SV:=
  (pT (vg ["i","j"] [("many",0)] (ivR (be 0)) (pJ 0) pY (yF (v2 qi (be 0) (vC (.int 1))) (be 2)) (pJ 1) pY (vL p9 (pG (be 0) (pG (be 1) pI)))))
def vJ:C0:=qr 1 1 (B7)
theorem LM{k:Nat}(F:Fun K "pairs_of" "pairs_of" (top 25) f fd) (rY:mg "range"=none):FnOk P w K mg base CX0 (k+1) f fd ["many"] (spM K (vJ)):=by
 unfold vJ B7;exact qQ F LU fun cdv A outer s H E hr=>
  (pP (pZ (Vq (own:=["i","j"]) (cap:=[("many",0)]) (sf rfl) (Ds rY (pF 0))
   (fun _ _ _ _ _=>(p5 (i:=0) FJ rfl (Or.inl rfl))) (fun _ _ _ _ _=>sY)
   (fun _ _ _ _ _=>(MQ rY (rm (pF 0) pO) (pF 2))) (fun _ _ _ _ _=>(p5 (i:=1) FJ rfl (Or.inl rfl))) (fun _ _ _ _ _=>sY)
   (fun _ _ _ _ _=>(ql (pH (pF 0) (pH (pF 1) pL)))))))
theorem N9:FnScope ["many","least","greatest"] ["many","least","greatest"] (pN (top 27)):=⟨rfl,rfl,rfl,by decide +kernel,rfl,by decide +kernel,by decide +kernel⟩
def zx(rP:Addr)(sd:Addr):SX:=
  (rg (sC (upB (vT (v2 fLt (be 0) (be 1))))
   (uV rP ((be 1)::((be 0)::[])))
   (upS sNx))
  (sC (upB (vT (v2 fGt (be 0) (be 2))))
   (uV sd ((be 2)::((be 0)::[])))
   (upS sNx)))
def uU(rP:Addr)(sd:Addr):FX:=rO 3 3 (zx rP sd)
theorem Uz{k:Nat}{rP:Addr}{sd:Addr}(F:Fun K "check_many" "check_many" (top 27) f fd) (tL:mg "NoThing"=some (.ref rP)/\tI K rP) (vZ:mg "TooMany"=some (.ref sd)/\tI K sd):FnOk P w K mg base (CXr P w) (k+1) f fd ["many","least","greatest"] (spX K (uU rP sd)):=by
 unfold uU zx;exact uM F N9 fun cdv A outer s H E hr=>
  (vy (wL (xI (yV (pF 0) (pF 1)))
   (sw (w8 (wR (sD (by decide) (tR (pF 1) (sD (by decide) (tR (pF 0) pj0))))) tL.1 tL.2))
   v4)
  (sw (wL (xI (Ae (pF 0) (pF 2)))
   (sw (w8 (wR (sD (by decide) (tR (pF 2) (sD (by decide) (tR (pF 0) pj0))))) vZ.1 vZ.2))
   v4)))
theorem Pz:FnScope ["self","many","sorts","ends"] ["self","many","sorts","ends"] (pN (qU (top 29) 0)):=⟨rfl,rfl,rfl,by decide +kernel,rfl,by decide +kernel,by decide +kernel⟩
def DK(rn:C0)(pV:Addr):SV:=
  (pM (w6 pV "pairs" (be 0) (vL rn (pG (be 1) pI)))
  (pM (w6 pV "sorts" (be 0) (be 2))
  (pM (w6 pV "ends" (be 0) (be 3))
  (w6 pV "searched" (be 0) DB))))
def zA(rn:C0)(pV:Addr):C0:=qr 4 4 (DK rn pV)
theorem M2{rn:C0}{vn k:Nat}{pV:Addr}(F:Fun K "__init__" "Search.__init__" (qU (top 29) 0) f fd) (uy:Df P w K mg base vn "pairs_of" ["many"] (spM K rn)) (yN:vn<=k) (wU:FldC K pV "pairs") (ux:FldC K pV "sorts") (xO:FldC K pV "ends") (vV:FldC K pV "searched"):FnOk P w K mg base CX0 (k+1) f fd ["self","many","sorts","ends"] (spM K (zA rn pV)):=by
 unfold zA DK;exact qQ F Pz fun cdv A outer s H E hr=>
  (pQ (AD wU (pF 0) (qa uy (hr.mono yN) (pH (pF 1) pL)))
  (pQ (AD ux (pF 0) (pF 2))
  (pQ (AD xO (pF 0) (pF 3))
  (pP (AD vV (pF 0) MM)))))
theorem Tg:FnScope ["self","left","asks"] ["self","left","asks"] (pN (qU (top 29) 1)):=⟨rfl,rfl,rfl,by decide +kernel,rfl,by decide +kernel,by decide +kernel⟩
def B0(xp:C0)(pV:Addr):SV:=
  (pM (sIf (vT (v2 (yH true) (vL p9 (pG (be 1) (pG (be 2) pI))) (v1 (rQ pV "searched") (be 0))))
   (De (v1 (rQ pV "searched") (be 0)) (vL p9 (pG (be 1) (pG (be 2) pI))) (uH pV "new_tree" xp (be 0) (pG (be 1) (pG (be 2) pI))))
   sNx)
  (pT (v2 zT (v1 (rQ pV "searched") (be 0)) (vL p9 (pG (be 1) (pG (be 2) pI))))))
def AL(xp:C0)(pV:Addr):C0:=qr 3 3 (B0 xp pV)
theorem QR{xp:C0}{KG k:Nat}{pV:Addr}(F:Fun K "tree_within" "Search.tree_within" (qU (top 29) 1) f fd) (BK:MtC P w K mg base CX0 KG pV "new_tree" ["self","left","asks"] (spM K xp)) (Sn:KG<=k) (vV:FldC K pV "searched"):FnOk P w K mg base CX0 (k+1) f fd ["self","left","asks"] (spM K (AL xp pV)):=by
 unfold AL B0;exact qQ F Tg fun cdv A outer s H E hr=>
  (pQ (qD (L6 hr (ql (pH (pF 1) (pH (pF 2) pL))) (uC vV (pF 0)))
   (pP (Rn hr (uC vV (pF 0)) (ql (pH (pF 1) (pH (pF 2) pL))) (x8 BK (hr.mono Sn) (pF 0) (pH (pF 1) (pH (pF 2) pL)))))
   qx)
  (pP (pZ (L0 hr (uC vV (pF 0)) (ql (pH (pF 1) (pH (pF 2) pL)))))))
theorem ze:FnScope ["self","left","asks","end","i","j","tree"] ["self","left","asks"] (pN (qU (top 29) 2)):=⟨rfl,rfl,rfl,by decide +kernel,rfl,by decide +kernel,by decide +kernel⟩
theorem SR:((["number"]:List Str)++([("self",0)]:List (Str×Nat)).map (·.1)).Nodup:=by decide +kernel
def C7(tp:C0)(xy:C0)(qH:D)(pV:Addr):SV:=
  (pM (pX (vL tp (pG (qO ["number"] [("self",0)] (ivT (be 1)) (pJ 0) pY (v2 fIx (v1 (rQ pV "ends") (be 1)) (be 0))) pI)) (pJ 3))
  (pM (sIf (vT (v2 fNe (be 3) (vC qH)))
   (pT (be 3))
   sNx)
  (pM (sIf (vT (v2 fEq (be 2) (vC (.int 0))))
   (pT (vC .non))
   sNx)
  (pM (rK (ivL (v1 (rQ pV "pairs") (be 0))) (qm 2 (pS (pJ 4) (pS (pJ 5) qA)))
   (pM (pX (uH pV "tree_asking" xy (be 0) (pG (be 4) (pG (be 5) (pG (be 1) (pG (be 2) pI))))) (pJ 6))
   (sIf (vT (v2 u7 (be 6) (vC .non)))
    (pT (be 6))
    sNx)))
  (pT (vC .non))))))
def AV(tp:C0)(xy:C0)(qH:D)(pV:Addr):C0:=qr 7 3 (C7 tp xy qH pV)
theorem SC{tp xy:C0}{y2 Fy k:Nat}{qH:D}{v_OPEN:V}{u_OPEN:Value}{pV:Addr}(F:Fun K "new_tree" "Search.new_tree" (qU (top 29) 2) f fd) (wP:Df P w K mg base y2 "common_end" ["ends"] (spM K tp)) (B1:y2<=k) (BD:MtC P w K mg base CX0 Fy pV "tree_asking" ["self","i","j","left","asks"] (spM K xy)) (Ug:Fy<=k) (xO:FldC K pV "ends") (wU:FldC K pV "pairs") (rE:mg "OPEN"=some u_OPEN/\RelV v_OPEN u_OPEN/\∀W,DR K W qH v_OPEN):FnOk P w K mg base CX0 (k+1) f fd ["self","left","asks"] (spM K (AV tp xy qH pV)):=by
 unfold AV C7;exact qQ F ze fun cdv A outer s H E hr=>
  (pQ (qC (i:=3) ze.nd rfl (Or.inl rfl) (qa wP (hr.mono B1) (pH (ub (own:=["number"]) (cap:=[("self",0)]) (sf rfl) (Am (pF 1))
   (fun _ _ _ _ _=>(p5 (i:=0) SR rfl (Or.inl rfl))) (fun _ _ _ _ _=>sY)
   (fun _ _ _ _ _=>(rf (uC xO (pF 1)) (pF 0)))) pL)))
  (pQ (qD (Ay hr (pF 3) (tW rE.1 rE.2.1 rE.2.2))
   (pP (pZ (pF 3)))
   qx)
  (pQ (qD (sA hr (pF 2) pO)
   (pP (pZ rT))
   qx)
  (pQ (sH V6 rfl (rM (uC wU (pF 0))) (sT (n:=2) (qu (p5 (i:=4) ze.nd rfl (Or.inl rfl)) (qu (p5 (i:=5) ze.nd rfl (Or.inl rfl)) sU)))
   (pQ (qC (i:=6) ze.nd rfl (Or.inl rfl) (x8 BD (hr.mono Ug) (pF 0) (pH (pF 4) (pH (pF 5) (pH (pF 1) (pH (pF 2) pL))))))
   (pP (qD (Eu (pF 6) rT)
    (pP (pZ (pF 6)))
    qx))))
  (pP (pZ rT))))))
theorem yv:FnScope ["self","i","j","left","asks","alike","unlike","if_alike","if_unlike"] ["self","i","j","left","asks"] (pN (qU (top 29) 3)):=⟨rfl,rfl,rfl,by decide +kernel,rfl,by decide +kernel,by decide +kernel⟩
theorem TV:((["number"]:List Str)++([("self",0),("i",1),("j",2)]:List (Str×Nat)).map (·.1)).Nodup:=by decide +kernel
theorem Qd:((["number"]:List Str)++([("self",0),("i",1),("j",2)]:List (Str×Nat)).map (·.1)).Nodup:=by decide +kernel
def DM(rZ:C0)(pV:Addr):SV:=
  (pM (pX (v1 zE (qO ["number"] [("self",0),("i",1),("j",2)] (ivT (be 3)) (pJ 0) (vT (v2 fEq (v2 fIx (v2 fIx (v1 (rQ pV "sorts") (be 1)) (be 0)) (be 2)) (v2 fIx (v2 fIx (v1 (rQ pV "sorts") (be 1)) (be 0)) (be 3)))) (be 0))) (pJ 5))
  (pM (pX (v1 zE (qO ["number"] [("self",0),("i",1),("j",2)] (ivT (be 3)) (pJ 0) (vT (v2 fNe (v2 fIx (v2 fIx (v1 (rQ pV "sorts") (be 1)) (be 0)) (be 2)) (v2 fIx (v2 fIx (v1 (rQ pV "sorts") (be 1)) (be 0)) (be 3)))) (be 0))) (pJ 6))
  (pM (sIf (bOr (sR (qS (be 5))) (sR (qS (be 6))))
   (pT (vC .non))
   sNx)
  (pM (pX (uH pV "tree_within" rZ (be 0) (pG (be 5) (pG (v2 uR (be 4) (vC (.int 1))) pI))) (pJ 7))
  (pM (sIf (vT (v2 tV (be 7) (vC .non)))
   (pT (vC .non))
   sNx)
  (pM (pX (uH pV "tree_within" rZ (be 0) (pG (be 6) (pG (v2 uR (be 4) (vC (.int 1))) pI))) (pJ 8))
  (pM (sIf (vT (v2 tV (be 8) (vC .non)))
   (pT (vC .non))
   sNx)
  (pT (vL p9 (pG (vC (.str "ask")) (pG (be 1) (pG (be 2) (pG (be 7) (pG (be 8) pI))))))))))))))
def wV(rZ:C0)(pV:Addr):C0:=qr 9 5 (DM rZ pV)
theorem U5{rZ:C0}{yX k:Nat}{pV:Addr}(F:Fun K "tree_asking" "Search.tree_asking" (qU (top 29) 3) f fd) (wD:MtC P w K mg base CX0 yX pV "tree_within" ["self","left","asks"] (spM K rZ)) (yo:yX<=k) (ux:FldC K pV "sorts") (sN:mg "tuple"=none):FnOk P w K mg base CX0 (k+1) f fd ["self","i","j","left","asks"] (spM K (wV rZ pV)):=by
 unfold wV DM;exact qQ F yv fun cdv A outer s H E hr=>
  (pQ (qC (i:=5) yv.nd rfl (Or.inl rfl) (HX sN (ub (own:=["number"]) (cap:=[("self",0),("i",1),("j",2)]) (sf rfl) (Am (pF 3))
   (fun _ _ _ _ _=>(p5 (i:=0) TV rfl (Or.inl rfl))) (fun _ _ _ _ _=>(zU (sA hr (rf (rf (uC ux (pF 1)) (pF 0)) (pF 2)) (rf (rf (uC ux (pF 1)) (pF 0)) (pF 3)))))
   (fun _ _ _ _ _=>(pF 0)))))
  (pQ (qC (i:=6) yv.nd rfl (Or.inl rfl) (HX sN (ub (own:=["number"]) (cap:=[("self",0),("i",1),("j",2)]) (sf rfl) (Am (pF 3))
   (fun _ _ _ _ _=>(p5 (i:=0) Qd rfl (Or.inl rfl))) (fun _ _ _ _ _=>(zU (Ay hr (rf (rf (uC ux (pF 1)) (pF 0)) (pF 2)) (rf (rf (uC ux (pF 1)) (pF 0)) (pF 3)))))
   (fun _ _ _ _ _=>(pF 0)))))
  (pQ (qD (PW.pt (xH (wH (ua (pF 5))) (xn (wH (ua (pF 6))))))
   (pP (pZ rT))
   qx)
  (pQ (qC (i:=7) yv.nd rfl (Or.inl rfl) (x8 wD (hr.mono yo) (pF 0) (pH (pF 5) (pH (wp (pF 4) pO) pL))))
  (pQ (qD (zD (pF 7) rT)
   (pP (pZ rT))
   qx)
  (pQ (qC (i:=8) yv.nd rfl (Or.inl rfl) (x8 wD (hr.mono yo) (pF 0) (pH (pF 6) (pH (wp (pF 4) pO) pL))))
  (pQ (qD (zD (pF 8) rT)
   (pP (pZ rT))
   qx)
  (pP (pZ (ql (pH wT (pH (pF 1) (pH (pF 2) (pH (pF 7) (pH (pF 8) pL)))))))))))))))
theorem yP:FnScope ["many","sorts","ends","search","every","asks"] ["many","sorts","ends"] (pN (top 30)):=⟨rfl,rfl,rfl,by decide +kernel,rfl,by decide +kernel,by decide +kernel⟩
def Bm(xT:C0)(rZ:C0)(pV:Addr):SV:=
  (pM (pX (zJ pV xT (pG (be 0) (pG (be 1) (pG (be 2) pI)))) (pJ 3))
  (pM (pX (v1 yL (v1 qy (be 1))) (pJ 4))
  (pM (pX (vC (.int 0)) (pJ 5))
  (pM (xi (vT (v2 tV (uH pV "tree_within" rZ (be 3) (pG (be 4) (pG (be 5) pI))) (vC .non)))
   (xU 5 Da (vC (.int 1))) 1000000)
  (pT (vL p9 (pG (be 5) (pG (uH pV "tree_within" rZ (be 3) (pG (be 4) (pG (be 5) pI))) pI))))))))
def Aa(xT:C0)(rZ:C0)(pV:Addr):C0:=qr 6 3 (Bm xT rZ pV)
theorem QD{xT rZ:C0}{J8 yX k:Nat}{pV:Addr}(F:Fun K "fewest_asks" "fewest_asks" (top 30) f fd) (Bk:MkC P w K mg base CX0 J8 pV "Search" ["self","many","sorts","ends"] (spM K xT)) (UK:J8+1<=k) (wD:MtC P w K mg base CX0 yX pV "tree_within" ["self","left","asks"] (spM K rZ)) (yo:yX<=k) (rq:mg "len"=none) (sN:mg "tuple"=none) (rY:mg "range"=none):FnOk P w K mg base CX0 (k+1) f fd ["many","sorts","ends"] (spM K (Aa xT rZ pV)):=by
 unfold Aa Bm;exact qQ F yP fun cdv A outer s H E hr=>
  (pQ (qC (i:=3) yP.nd rfl (Or.inl rfl) (Vs Bk (hr.mono UK) (pH (pF 0) (pH (pF 1) (pH (pF 2) pL)))))
  (pQ (qC (i:=4) yP.nd rfl (Or.inl rfl) (QL sN rY (vB rq (pF 1))))
  (pQ (qC (i:=5) yP.nd rfl (Or.inl rfl) pO)
  (pQ (Ue 1000000 V6 (zD (x8 wD (hr.mono yo) (pF 3) (pH (pF 4) (pH (pF 5) pL))) rT)
   (pP (Th (i:=5) yP.nd rfl (Or.inl rfl) pO)))
  (pP (pZ (ql (pH (pF 5) (pH (x8 wD (hr.mono yo) (pF 3) (pH (pF 4) (pH (pF 5) pL))) pL)))))))))
theorem EN:FnScope ["many","most","sorts"] ["many","most"] (pN (top 33)):=⟨rfl,rfl,rfl,by decide +kernel,rfl,by decide +kernel,by decide +kernel⟩
theorem UA:((["sort"]:List Str)++([]:List (Str×Nat)).map (·.1)).Nodup:=by decide +kernel
def BM(sQ:C0)(xl:C0)(sW:FX):SX:=
  (rg (Di (vLX sW (upL (pG (be 0) (pG (be 1) pI)))) (pJ 2))
  (upS (pT (vL xl (pG (be 0) (pG (be 2) (pG (qO ["sort"] [] (ivL (be 2)) (pJ 0) pY (vL sQ (pG (be 0) pI))) pI)))))))
def z5(sQ:C0)(xl:C0)(sW:FX):FX:=rO 3 2 (BM sQ xl sW)
theorem O2{sQ xl:C0}{sW:FX}{yZ Ji yA k:Nat}(F:Fun K "fewest_of" "fewest_of" (top 33) f fd) (xN:Df P w K mg base yZ "half_ends" ["kinds"] (spM K sQ)) (C6:yZ<=k) (Dz:Df P w K mg base Ji "fewest_asks" ["many","sorts","ends"] (spM K xl)) (Na:Ji<=k) (wY:DfX P w K mg base yA "all_sorts" ["many","most"] (spX K sW)) (DL:yA<=k):FnOk P w K mg base (CXr P w) (k+1) f fd ["many","most"] (spX K (z5 sQ xl sW)):=by
 unfold z5 BM;exact uM F EN fun cdv A outer s H E hr=>
  (vy (Sm (i:=2) EN.nd rfl (Or.inl rfl) (vO wY (hr.mono DL) (uD (pH (pF 0) (pH (pF 1) pL)))))
  (BZ (pP (pZ (qa Dz (hr.mono Na) (pH (pF 0) (pH (pF 2) (pH (ub (own:=["sort"]) (cap:=[]) (sf rfl) (rM (pF 2))
   (fun _ _ _ _ _=>(p5 (i:=0) UA rfl (Or.inl rfl))) (fun _ _ _ _ _=>sY)
   (fun _ _ _ _ _=>(qa xN (hr.mono C6) (pH (pF 0) pL)))) pL))))))))
theorem QB:FnScope ["many"] ["many"] (pN (top 34)):=⟨rfl,rfl,rfl,by decide +kernel,rfl,by decide +kernel,by decide +kernel⟩
def DZ(rB:FX)(xD:FX)(x6:D):SX:=
  (rg (wn (vLX rB (upL (pG (be 0) (pG (vC (.int 1)) (pG (vC x6) pI))))))
  (vz (vLX xD (upL (pG (be 0) (pG (be 0) pI))))))
def Ai(rB:FX)(xD:FX)(x6:D):FX:=rO 1 1 (DZ rB xD x6)
theorem MA{rB xD:FX}{vK Lj k:Nat}{x6:D}{v_MOST_SEARCHED:V}{u_MOST_SEARCHED:Value}(F:Fun K "fewest" "fewest" (top 34) f fd) (uQ:DfX P w K mg base vK "check_many" ["many","least","greatest"] (spX K rB)) (yW:vK<=k) (CH:DfX P w K mg base Lj "fewest_of" ["many","most"] (spX K xD)) (Of:Lj<=k) (yC:mg "MOST_SEARCHED"=some u_MOST_SEARCHED/\RelV v_MOST_SEARCHED u_MOST_SEARCHED/\∀W,DR K W x6 v_MOST_SEARCHED):FnOk P w K mg base (CXr P w) (k+1) f fd ["many"] (spX K (Ai rB xD x6)):=by
 unfold Ai DZ;exact uM F QB fun cdv A outer s H E hr=>
  (vy (BF (vO uQ (hr.mono yW) (uD (pH (pF 0) (pH pO (pH (tW yC.1 yC.2.1 yC.2.2) pL))))))
  (sw (CQ (vO CH (hr.mono Of) (uD (pH (pF 0) (pH (pF 0) pL)))))))
theorem Ly:FnScope ["row"] ["row"] (pN (top 38)):=⟨rfl,rfl,rfl,by decide +kernel,rfl,by decide +kernel,by decide +kernel⟩
def D4:SV:=
  (pT (uh (v1 (ul "tuple") (be 0)) (uh (v2 fEq (v1 qy (be 0)) (vC (.int 2))) (v1 (ul "bool") (v2 fIx (be 0) (vC (.int 0)))))))
def ur:C0:=qr 1 1 (D4)
theorem LQ{k:Nat}(F:Fun K "is_row" "is_row" (top 38) f fd) (ut:mg "isinstance"=none) (sN:mg "tuple"=none) (rq:mg "len"=none) (DA:mg "bool"=none):FnOk P w K mg base CX0 (k+1) f fd ["row"] (spM K (ur)):=by
 unfold ur D4;exact qQ F Ly fun cdv A outer s H E hr=>
  (pP (pZ (vS (zH "tuple" ut (pF 0) (AZ rfl sN rfl (v:=.ty "tuple") rfl)) (vS (yY hr (vB rq (pF 0)) pO) (yk (zH "bool" ut (rf (pF 0) pO) (AZ rfl DA rfl (v:=.ty "bool") rfl)))))))
theorem NZ:FnScope ["pairs","paper"] ["pairs","paper"] (pN (top 39)):=⟨rfl,rfl,rfl,by decide +kernel,rfl,by decide +kernel,by decide +kernel⟩
theorem RQ:((["row"]:List Str)++([]:List (Str×Nat)).map (·.1)).Nodup:=by decide +kernel
def At(xc:C0):SV:=
  (pT (uh (v1 (ul "list") (be 1)) (uh (v2 fEq (v1 qy (be 1)) (v1 qy (be 0))) (v1 uf (qO ["row"] [] (ivL (be 1)) (pJ 0) pY (vL xc (pG (be 0) pI)))))))
def va(xc:C0):C0:=qr 2 2 (At xc)
theorem TU{xc:C0}{Gh k:Nat}(F:Fun K "is_paper_of" "is_paper_of" (top 39) f fd) (Bp:Df P w K mg base Gh "is_row" ["row"] (spM K xc)) (Qr:Gh<=k) (ut:mg "isinstance"=none) (xG:mg "list"=none) (rq:mg "len"=none) (u3:mg "all"=none):FnOk P w K mg base CX0 (k+1) f fd ["pairs","paper"] (spM K (va xc)):=by
 unfold va At;exact qQ F NZ fun cdv A outer s H E hr=>
  (pP (pZ (vS (zH "list" ut (pF 1) (AZ rfl xG rfl (v:=.ty "list") rfl)) (vS (yY hr (vB rq (pF 1)) (vB rq (pF 0))) (yk (Dk u3 (ub (own:=["row"]) (cap:=[]) (sf rfl) (rM (pF 1))
   (fun _ _ _ _ _=>(p5 (i:=0) RQ rfl (Or.inl rfl))) (fun _ _ _ _ _=>sY)
   (fun _ _ _ _ _=>(qa Bp (hr.mono Qr) (pH (pF 0) pL))))))))))
theorem wX:FnScope ["many","answers","asks","paper","pairs","i","j","alike","rest"] ["many","answers","asks","paper"] (pN (top 40)):=⟨rfl,rfl,rfl,by decide +kernel,rfl,by decide +kernel,by decide +kernel⟩
def yE(rC:C0)(sM:C0)(rn:C0)(xX:C0)(sS:C0)(qH:D):SV:=
  (pM (sIf (bOr (vT (v2 fLt (be 2) (vC (.int 0)))) (sR (qS (vL rC (pG (be 0) (pG (be 1) pI))))))
   (pT (vC (.bl false)))
   sNx)
  (pM (sIf (vT (v2 fEq (be 2) (vC (.int 0))))
   (pT (uh (v1 (ul "tuple") (be 3)) (uh (v2 fEq (v1 qy (be 3)) (vC (.int 0))) (v2 fEq (vL sM (pG (be 0) (pG (be 1) pI))) (vC qH)))))
   sNx)
  (pM (pX (vL rn (pG (be 0) pI)) (pJ 4))
  (pM (sIf (sR (qS (vL xX (pG (be 4) (pG (be 3) pI)))))
   (pT (vC (.bl false)))
   sNx)
  (pM (rK (ivZ (be 4) (be 3)) (qm 2 (pS (qm 2 (pS (pJ 5) (pS (pJ 6) qA))) (pS (qm 2 (pS (pJ 7) (pS (pJ 8) qA))) qA)))
   (sIf (sR (qS (vL sS (pG (be 0) (pG (v2 qi (be 1) (vL qo (pG (vL p9 (pG (be 5) (pG (be 6) (pG (be 7) pI)))) pI))) (pG (v2 uR (be 2) (vC (.int 1))) (pG (be 8) pI)))))))
    (pT (vC (.bl false)))
    sNx))
  (pT (vC (.bl true))))))))
def xu(rC:C0)(sM:C0)(rn:C0)(xX:C0)(sS:C0)(qH:D):C0:=qr 9 4 (yE rC sM rn xX sS qH)
theorem NX{rC sM rn xX sS:C0}{vp yG vn GN zc k:Nat}{qH:D}{v_OPEN:V}{u_OPEN:Value}(F:Fun K "is_let_by" "is_let_by" (top 40) f fd) (uz:Df P w K mg base vp "can_be" ["many","answers"] (spM K rC)) (ye:vp<=k) (wO:Df P w K mg base yG "tells" ["many","answers"] (spM K sM)) (CG:yG<=k) (uy:Df P w K mg base vn "pairs_of" ["many"] (spM K rn)) (yN:vn<=k) (D6:Df P w K mg base GN "is_paper_of" ["pairs","paper"] (spM K xX)) (LL:GN<=k) (yc:Df P w K mg base zc "is_let_by" ["many","answers","asks","paper"] (spM K sS)) (B3:zc<=k) (rE:mg "OPEN"=some u_OPEN/\RelV v_OPEN u_OPEN/\∀W,DR K W qH v_OPEN) (ut:mg "isinstance"=none) (sN:mg "tuple"=none) (rq:mg "len"=none) (By:mg "zip"=none):FnOk P w K mg base CX0 (k+1) f fd ["many","answers","asks","paper"] (spM K (xu rC sM rn xX sS qH)):=by
 unfold xu yE;exact qQ F wX fun cdv A outer s H E hr=>
  (pQ (qD (PW.pt (xH (yV (pF 2) pO) (xn (wH (ua (qa uz (hr.mono ye) (pH (pF 0) (pH (pF 1) pL))))))))
   (pP (pZ qI))
   qx)
  (pQ (qD (sA hr (pF 2) pO)
   (pP (pZ (vS (zH "tuple" ut (pF 3) (AZ rfl sN rfl (v:=.ty "tuple") rfl)) (vS (yY hr (vB rq (pF 3)) pO) (yk (yY hr (qa wO (hr.mono CG) (pH (pF 0) (pH (pF 1) pL))) (tW rE.1 rE.2.1 rE.2.2)))))))
   qx)
  (pQ (qC (i:=4) wX.nd rfl (Or.inl rfl) (qa uy (hr.mono yN) (pH (pF 0) pL)))
  (pQ (qD (wH (ua (qa D6 (hr.mono LL) (pH (pF 4) (pH (pF 3) pL)))))
   (pP (pZ qI))
   qx)
  (pQ (sH V6 rfl (TY By (pF 4) (pF 3)) (sT (n:=2) (qu (sT (n:=2) (qu (p5 (i:=5) wX.nd rfl (Or.inl rfl)) (qu (p5 (i:=6) wX.nd rfl (Or.inl rfl)) sU))) (qu (sT (n:=2) (qu (p5 (i:=7) wX.nd rfl (Or.inl rfl)) (qu (p5 (i:=8) wX.nd rfl (Or.inl rfl)) sU))) sU)))
   (pP (qD (wH (ua (qa yc (hr.mono B3) (pH (pF 0) (pH (rm (pF 1) (q0 (pH (ql (pH (pF 5) (pH (pF 6) (pH (pF 7) pL)))) pL))) (pH (wp (pF 2) pO) (pH (pF 8) pL)))))))
    (pP (pZ qI))
    qx)))
  (pP (pZ qI)))))))
theorem Tu:FnScope ["many","asks","paper"] ["many","asks","paper"] (pN (top 41)):=⟨rfl,rfl,rfl,by decide +kernel,rfl,by decide +kernel,by decide +kernel⟩
def C3(rB:C0)(sS:C0)(sX:D)(sL:D):SV:=
  (pM (sK (vL rB (pG (be 0) (pG (vC sL) (pG (vC sX) pI)))))
  (pT (vL sS (pG (be 0) (pG (vL qo pI) (pG (be 1) (pG (be 2) pI)))))))
def zZ(rB:C0)(sS:C0)(sX:D)(sL:D):C0:=qr 3 3 (C3 rB sS sX sL)
theorem UW{rB sS:C0}{vK zc k:Nat}{sX:D}{v_GREATEST_THINGS:V}{u_GREATEST_THINGS:Value}{sL:D}{v_LEAST_THINGS:V}{u_LEAST_THINGS:Value}(F:Fun K "holds" "holds" (top 41) f fd) (uQ:Df P w K mg base vK "check_many" ["many","least","greatest"] (spM K rB)) (yW:vK<=k) (yc:Df P w K mg base zc "is_let_by" ["many","answers","asks","paper"] (spM K sS)) (B3:zc<=k) (um:mg "GREATEST_THINGS"=some u_GREATEST_THINGS/\RelV v_GREATEST_THINGS u_GREATEST_THINGS/\∀W,DR K W sX v_GREATEST_THINGS) (uv:mg "LEAST_THINGS"=some u_LEAST_THINGS/\RelV v_LEAST_THINGS u_LEAST_THINGS/\∀W,DR K W sL v_LEAST_THINGS):FnOk P w K mg base CX0 (k+1) f fd ["many","asks","paper"] (spM K (zZ rB sS sX sL)):=by
 unfold zZ C3;exact qQ F Tu fun cdv A outer s H E hr=>
  (pQ (xa (qa uQ (hr.mono yW) (pH (pF 0) (pH (tW uv.1 uv.2.1 uv.2.2) (pH (tW um.1 um.2.1 um.2.2) pL)))))
  (pP (pZ (qa yc (hr.mono B3) (pH (pF 0) (pH (q0 pL) (pH (pF 1) (pH (pF 2) pL))))))))
theorem Br:FnScope ["many","answers","asks","i","j","alike","rest"] ["many","answers","asks","i","j"] (pN (top 42)):=⟨rfl,rfl,rfl,by decide +kernel,rfl,by decide +kernel,by decide +kernel⟩
def DI(sP:C0):SV:=
  (pM (rK (ivT (vL p9 (pG (vC (.bl true)) (pG (vC (.bl false)) pI)))) (pJ 5)
   (pM (pX (vL sP (pG (be 0) (pG (v2 qi (be 1) (vL qo (pG (vL p9 (pG (be 3) (pG (be 4) (pG (be 5) pI)))) pI))) (pG (v2 uR (be 2) (vC (.int 1))) pI)))) (pJ 6))
   (sIf (vT (v2 u7 (be 6) (vC .non)))
    (pT (vL p9 (pG (be 5) (pG (be 6) pI))))
    sNx)))
  (pT (vC .non)))
def xA(sP:C0):C0:=qr 7 5 (DI sP)
theorem MT{sP:C0}{yz k:Nat}(F:Fun K "row_behind" "row_behind" (top 42) f fd) (y9:Df P w K mg base yz "paper_behind" ["many","answers","asks"] (spM K sP)) (DD:yz<=k):FnOk P w K mg base CX0 (k+1) f fd ["many","answers","asks","i","j"] (spM K (xA sP)):=by
 unfold xA DI;exact qQ F Br fun cdv A outer s H E hr=>
  (pQ (sH V6 rfl (Am (ql (pH qI (pH qI pL)))) (p5 (i:=5) Br.nd rfl (Or.inl rfl))
   (pQ (qC (i:=6) Br.nd rfl (Or.inl rfl) (qa y9 (hr.mono DD) (pH (pF 0) (pH (rm (pF 1) (q0 (pH (ql (pH (pF 3) (pH (pF 4) (pH (pF 5) pL)))) pL))) (pH (wp (pF 2) pO) pL)))))
   (pP (qD (Eu (pF 6) rT)
    (pP (pZ (ql (pH (pF 5) (pH (pF 6) pL)))))
    qx))))
  (pP (pZ rT)))
theorem yr:FnScope ["many","answers","asks","paper","i","j","row"] ["many","answers","asks"] (pN (top 43)):=⟨rfl,rfl,rfl,by decide +kernel,rfl,by decide +kernel,by decide +kernel⟩
def Al(rC:C0)(sM:C0)(rn:C0)(xC:C0)(qH:D):SV:=
  (pM (sIf (sR (qS (vL rC (pG (be 0) (pG (be 1) pI)))))
   (pT (vC .non))
   sNx)
  (pM (sIf (vT (v2 fEq (be 2) (vC (.int 0))))
   (pT (vIf (vT (v2 fEq (vL sM (pG (be 0) (pG (be 1) pI))) (vC qH))) (vL p9 pI) (vC .non)))
   sNx)
  (pM (pX (vL tw pI) (pJ 3))
  (pM (rK (ivL (vL rn (pG (be 0) pI))) (qm 2 (pS (pJ 4) (pS (pJ 5) qA)))
   (pM (pX (vL xC (pG (be 0) (pG (be 1) (pG (be 2) (pG (be 4) (pG (be 5) pI)))))) (pJ 6))
   (pM (sIf (vT (v2 tV (be 6) (vC .non)))
    (pT (vC .non))
    sNx)
   (sK (vY tE (be 3) (be 6))))))
  (pT (zX (be 3)))))))
def yb(rC:C0)(sM:C0)(rn:C0)(xC:C0)(qH:D):C0:=qr 7 3 (Al rC sM rn xC qH)
theorem Sd{rC sM rn xC:C0}{vp yG vn JX k:Nat}{qH:D}{v_OPEN:V}{u_OPEN:Value}(F:Fun K "paper_behind" "paper_behind" (top 43) f fd) (uz:Df P w K mg base vp "can_be" ["many","answers"] (spM K rC)) (ye:vp<=k) (wO:Df P w K mg base yG "tells" ["many","answers"] (spM K sM)) (CG:yG<=k) (uy:Df P w K mg base vn "pairs_of" ["many"] (spM K rn)) (yN:vn<=k) (Ed:Df P w K mg base JX "row_behind" ["many","answers","asks","i","j"] (spM K xC)) (Mg:JX<=k) (rE:mg "OPEN"=some u_OPEN/\RelV v_OPEN u_OPEN/\∀W,DR K W qH v_OPEN):FnOk P w K mg base CX0 (k+1) f fd ["many","answers","asks"] (spM K (yb rC sM rn xC qH)):=by
 unfold yb Al;exact qQ F yr fun cdv A outer s H E hr=>
  (pQ (qD (wH (ua (qa uz (hr.mono ye) (pH (pF 0) (pH (pF 1) pL)))))
   (pP (pZ rT))
   qx)
  (pQ (qD (sA hr (pF 2) pO)
   (pP (pZ (BJ (sA hr (qa wO (hr.mono CG) (pH (pF 0) (pH (pF 1) pL))) (tW rE.1 rE.2.1 rE.2.2)) (ql pL) rT)))
   qx)
  (pQ (qC (i:=3) yr.nd rfl (Or.inl rfl) (DH pL))
  (pQ (sH V6 rfl (rM (qa uy (hr.mono yN) (pH (pF 0) pL))) (sT (n:=2) (qu (p5 (i:=4) yr.nd rfl (Or.inl rfl)) (qu (p5 (i:=5) yr.nd rfl (Or.inl rfl)) sU)))
   (pQ (qC (i:=6) yr.nd rfl (Or.inl rfl) (qa Ed (hr.mono Mg) (pH (pF 0) (pH (pF 1) (pH (pF 2) (pH (pF 4) (pH (pF 5) pL)))))))
   (pQ (qD (zD (pF 6) rT)
    (pP (pZ rT))
    qx)
   (pP (xa (IS (pF 3) (pF 6)))))))
  (pP (pZ (TX (pF 3))))))))
theorem BU:FnScope ["many","asks","tree"] ["many"] (pN (top 44)):=⟨rfl,rfl,rfl,by decide +kernel,rfl,by decide +kernel,by decide +kernel⟩
def DF(rB:C0)(x5:C0)(sP:C0)(sX:D)(sL:D):SV:=
  (pM (sK (vL rB (pG (be 0) (pG (vC sL) (pG (vC sX) pI)))))
  (pM (pX (vL x5 (pG (be 0) pI)) (qm 2 (pS (pJ 1) (pS (pJ 2) qA))))
  (pT (vL sP (pG (be 0) (pG (vL qo pI) (pG (v2 uR (be 1) (vC (.int 1))) pI)))))))
def Ap(rB:C0)(x5:C0)(sP:C0)(sX:D)(sL:D):C0:=qr 3 1 (DF rB x5 sP sX sL)
theorem RN{rB x5 sP:C0}{vK JV yz k:Nat}{sX:D}{v_GREATEST_THINGS:V}{u_GREATEST_THINGS:Value}{sL:D}{v_LEAST_THINGS:V}{u_LEAST_THINGS:Value}(F:Fun K "holding_paper" "holding_paper" (top 44) f fd) (uQ:Df P w K mg base vK "check_many" ["many","least","greatest"] (spM K rB)) (yW:vK<=k) (DC:Df P w K mg base JV "fewest" ["many"] (spM K x5)) (Pi:JV<=k) (y9:Df P w K mg base yz "paper_behind" ["many","answers","asks"] (spM K sP)) (DD:yz<=k) (um:mg "GREATEST_THINGS"=some u_GREATEST_THINGS/\RelV v_GREATEST_THINGS u_GREATEST_THINGS/\∀W,DR K W sX v_GREATEST_THINGS) (uv:mg "LEAST_THINGS"=some u_LEAST_THINGS/\RelV v_LEAST_THINGS u_LEAST_THINGS/\∀W,DR K W sL v_LEAST_THINGS):FnOk P w K mg base CX0 (k+1) f fd ["many"] (spM K (Ap rB x5 sP sX sL)):=by
 unfold Ap DF;exact qQ F BU fun cdv A outer s H E hr=>
  (pQ (xa (qa uQ (hr.mono yW) (pH (pF 0) (pH (tW uv.1 uv.2.1 uv.2.2) (pH (tW um.1 um.2.1 um.2.2) pL)))))
  (pQ (zm (qa DC (hr.mono Pi) (pH (pF 0) pL)) (sT (n:=2) (qu (p5 (i:=1) BU.nd rfl (Or.inl rfl)) (qu (p5 (i:=2) BU.nd rfl (Or.inl rfl)) sU))))
  (pP (pZ (qa y9 (hr.mono DD) (pH (pF 0) (pH (q0 pL) (pH (wp (pF 1) pO) pL))))))))
end
def dA(a:An):D:=.tup [.int (a.1:Int),.int (a.2.1:Int),.bl a.2.2]
def Ls(L:M)(d:D)(ds:List D):Prop:=qE L d=some ds/\∃c,lsC L d=some (ds,c)/\p8 c L/\∀Z5,Gr L Z5->p8 c Z5
def Ls.lst{L:M}{ds:List D}:Ls L (.lst ds) ds:=⟨rfl,none,rfl,trivial,fun _ _=>trivial⟩
def Ls.ref{L:M}{k:Nat}{ds:List D}(h:L[k]?=some (some (.lst ds))):Ls L (.ref k) ds:=⟨xB h,_,B8 h,h,fun _ g=>g.get h⟩
def Bu{L:M}{d:D}{ds:List D}(h:Ls L d ds):(∃k,d=.ref k/\L[k]?=some (some (.lst ds)))\/(d=.lst ds)\/d=.scr ds:=by
 obtain⟨h1,_⟩:=h;cases d with
 |lst xs=>cases h1;exact .inr (.inl rfl)
 |scr xs=>cases h1;exact .inr (.inr rfl)
 |ref k=>
  simp only[qE] at h1;split at h1
  ·rename_i xs hk;cases h1;exact .inl ⟨k,rfl,hk⟩
  ·cases h1
 |_=>cases h1
def Ls.gr{L Z5:M}{d:D}{ds:List D}(h:Ls L d ds)(g:Gr L Z5):Ls Z5 d ds:=by
 rcases Bu h with⟨k,rfl,hk⟩|rfl|rfl
 ·exact .ref (g.get hk)
 ·exact .lst
 ·exact⟨rfl,none,rfl,trivial,fun _ _=>trivial⟩
theorem forX_inv{c:Ck}{g:GV}{body:SX}(Pv:G->M->Prop):∀(its:List D) (O:G) (L:M),Pv O L->
  (∀d∈its,∀O L,Pv O L->∃ZX Z4 ZT Z3,g d O L=some (ZX,Z4)/\body ZX Z4=some (.nx,ZT,Z3)/\p8 c Z3/\Pv ZT Z3)->∃ZY Z5,uE c g body its O L=some (.nx,ZY,Z5)/\Pv ZY Z5
 | [],O,L,h,_=>⟨O,L,rfl,h⟩
 |d::r,O,L,h,hs=>by
  obtain⟨ZX,Z4,ZT,Z3,h1,h2,h3,h4⟩:=hs d (by simp) O L h;obtain⟨ZY,Z5,h5,h6⟩:=forX_inv Pv r ZT Z3 h4 fun d hd=>hs d (by simp[hd]);refine⟨ZY,Z5,?_,h6⟩;simp only[uE,h1,bs,h2];rw[sF h3,h5]
def Ok2(n:Nat)(as:List An):Prop:=∀a∈as,a.1<n/\a.2.1<n/\a.1≠a.2.1
def Ok2.inN{n:Nat}{as:List An}(h:Ok2 n as):InN n as:=fun a ha=>⟨(h a ha).1,(h a ha).2.1⟩
def OI{C:Addr}{n:Nat}{d:D}{as:List An}{L:M}(hl:Ls L d (as.map dA))(hv:Ok2 n as):zf C [.int (n:Int),d] L=some (.ok .non,L):=by
 obtain⟨h1,c,h2,h3,h4⟩:=hl;have main:=forX_inv (c:=c) (g:=(qm 3 (pS (pJ 2) (pS (pJ 3) (pS (pJ 4) qA))))) (body:=(rg (sC (upB (sR (tm (vT (uj fLe fLt (vC (.int 0)) (be 2) (be 0))) (vT (uj fLe fLt (vC (.int 0)) (be 3) (be 0))))))
    (uV C ((be 2)::((be 3)::((be 0)::[]))))
    (upS sNx))
   (sC (upB (vT (v2 fEq (be 2) (be 3))))
    (uV C ((be 2)::[]))
    (upS sNx))))
  (fun O Z5=>Z5=L/\∃o2 o3 o4,O=[some (.int (n:Int)),some d,o2,o3,o4]) (as.map dA) [some (.int (n:Int)),some d,none,none,none] L ⟨rfl,_,_,_,rfl⟩ ?_
 ·obtain⟨ZY,Z5,e,rfl,o2,o3,o4,rfl⟩:=main;refine Et (ZX:=[some (.int (n:Int)),some d,o2,o3,o4]) rfl ?_;unfold Dh;show rg _ _ [some (.int (n:Int)),some d,none,none,none] Z5=_;have t:vT (v2 fLt (be 0) (vC (.int 0))) [some (.int (n:Int)),some d,none,none,none] Z5=some (false,Z5):=by
   have:¬((n:Int)<0):=by omega
   simp[fLt,fI0,this]
  rw[yK (ZX:=[some (.int (n:Int)),some d,none,none,none]) (Z4:=Z5) ((yD (A1 t)).trans (wl (o:=.nx) rfl))];have hi:ivL (be 1) [some (.int (n:Int)),some d,none,none,none] Z5=some ((as.map dA,c),Z5):=by
   simp[h2]
  show(ivL (be 1) _ Z5).bind _=_;rw[hi,bs];exact e
 ·rintro x hx O Z5 ⟨rfl,o2,o3,o4,rfl⟩;obtain⟨a,ha,rfl⟩:=VW.mp hx;obtain⟨q1,q2,q3⟩:=hv a ha;refine⟨[some (.int (n:Int)),some d,some (.int (a.1:Int)),some (.int (a.2.1:Int)),some (.bl a.2.2)],Z5,[some (.int (n:Int)),some d,some (.int (a.1:Int)),some (.int (a.2.1:Int)),some (.bl a.2.2)],Z5,rfl,?_,h3,rfl,some (.int (a.1:Int)),some (.int (a.2.1:Int)),some (.bl a.2.2),rfl⟩;have t1:(sR (tm (vT (uj fLe fLt (vC (.int 0)) (be 2) (be 0))) (vT (uj fLe fLt (vC (.int 0)) (be 3) (be 0))))) [some (.int (n:Int)),some d,some (.int (a.1:Int)),some (.int (a.2.1:Int)),some (.bl a.2.2)] Z5=some (false,Z5):=by
   have b1:(0:Int)<=(a.1:Int):=by omega
   have b2:(0:Int)<=(a.2.1:Int):=by omega
   have b3:(a.1:Int)<(n:Int):=by omega
   have b4:(a.2.1:Int)<(n:Int):=by omega
   simp[fLe,fLt,fI0,b1,b2,b3,b4]
  have t2:vT (v2 fEq (be 2) (be 3)) [some (.int (n:Int)),some d,some (.int (a.1:Int)),some (.int (a.2.1:Int)),some (.bl a.2.2)] Z5=some (false,Z5):=by
   have:¬((a.1:Int)=(a.2.1:Int)):=by omega
   simp[fEq,eqD,this]
  rw[yK (ZX:=[some (.int (n:Int)),some d,some (.int (a.1:Int)),some (.int (a.2.1:Int)),some (.bl a.2.2)]) (Z4:=Z5) ((yD (A1 t1)).trans (wl (o:=.nx) rfl))];exact(yD (A1 t2)).trans (wl (o:=.nx) rfl)
def kvH(hs:List (Nat×Nat)):List (Key×D):=hs.map fun p=>(Sum.inl (p.1:Int),D.int (p.2:Int))
def CJ(hs:List (Nat×Nat))(x:Nat):rS (kvH hs) (Sum.inl (x:Int))=(p0 hs x).map fun r=>D.int (r:Int):=by
 unfold rS p0 kvH;induction hs with
 |nil=>rfl
 |cons p r ih=>
  rw[VB,VJ,VJ];by_cases z:p.1=x
  ·subst z;simp
  ·have z':¬((Sum.inl (p.1:Int):Key)=Sum.inl (x:Int)):=fun e=>z (by injection e with e;omega);simp only[z,z',decide_false];exact ih
def FI{kvs:List (Key×D)}{k:Key}(v:D)(h:rS kvs k=none):sq kvs k v=kvs++[(k,v)]:=by
 unfold sq;rw[if_neg];intro hc;obtain⟨kv,hm,he⟩:=WN.mp hc;unfold rS at h;rw[Option.map_eq_none_iff,WC] at h;exact h kv hm he
def Gm{hs:List (Nat×Nat)}{k:Nat}(v:Nat)(h:k∉hs.map (·.1)):sq (kvH hs) (Sum.inl (k:Int)) (.int (v:Int))=kvH (hs++[(k,v)]):=by
 rw[FI _ (by rw[CJ,hVal_none.mpr h];rfl)];simp[kvH]
theorem JW{o w:Nat}{n:Nat}:∀(hs done:List (Nat×Nat)) (o1 o2:Option D) (L:M),L[n]?=some (some (.dK (kvH (qX done o w))))->((done++hs).map (·.1)).Nodup->(done++hs).length<=100000->
  tZ n none (qm 2 (pS (pJ 0) (pS (pJ 1) qA))) pY (be 0) (vIf (vT (v2 fEq (be 1) (be 2))) (be 3) (be 1)) ((kvH hs).map fun kv=>.tup [y3 kv.1,kv.2]) [o1,o2,some (.int (o:Int)),some (.int (w:Int))] L
   =some (L.set n (some (.dK (kvH (qX (done++hs) o w)))))
 | [],done,o1,o2,L,h,_,_=>by
  simp only[kvH,List.map_nil,tZ,Wn];congr 1;apply List.ext_getElem?;intro j;by_cases e:j=n
  ·subst e;rw[h,sj h];rfl
  ·rw[sr e]
 |p::hs,done,o1,o2,L,h,hn,hl=>by
  have hp:p.1∉(qX done o w).map (·.1):=by
   rw[Im];rw[WX,List.nodup_append] at hn;exact fun hm=>hn.2.2 p.1 hm p.1 (by simp) rfl
  have e1:qX done o w++[(p.1,if p.2=o then w else p.2)]=qX (done++[p]) o w:=by simp[qX]
  have hset:=sj (y:=some (Z8.dK (kvH (qX (done++[p]) o w)))) h;have ih:=JW (n:=n) (o:=o) (w:=w) hs (done++[p]) (some (.int (p.1:Int))) (some (.int (p.2:Int))) (L.set n (some (.dK (kvH (qX (done++[p]) o w))))) hset (by simpa using hn) (by simpa using hl);have hg:qm 2 (pS (pJ 0) (pS (pJ 1) qA)) (.tup [.int (p.1:Int),.int (p.2:Int)]) [o1,o2,some (.int (o:Int)),some (.int (w:Int))] L=some ([some (.int (p.1:Int)),some (.int (p.2:Int)),some (.int (o:Int)),some (.int (w:Int))],L):=rfl;have hv:vIf (vT (v2 fEq (be 1) (be 2))) (be 3) (be 1) [some (.int (p.1:Int)),some (.int (p.2:Int)),some (.int (o:Int)),some (.int (w:Int))] L=some (.int ((if p.2=o then w else p.2:Nat):Int),L):=by
   by_cases z:p.2=o
   ·subst z;simp[fEq,eqD]
   ·have z':¬((p.2:Int)=(o:Int)):=by omega
    simp[fEq,eqD,z,z']
  have hk:be 0 [some (.int (p.1:Int)),some (.int (p.2:Int)),some (.int (o:Int)),some (.int (w:Int))] L=some (.int (p.1:Int),L):=rfl;show tZ n none _ pY (be 0) _ (.tup [.int (p.1:Int),.int (p.2:Int)]::(kvH hs).map fun kv=>.tup [y3 kv.1,kv.2]) _ L=_;simp only[tZ,hg,bs];show(pY _ _).bind _=_;simp only[pY,bs,if_true,hk,hv,uw,rl,h];rw[sF ⟨by simp[kvH,qX];simp at hl;omega,trivial⟩,Gm _ hp,e1];rw[ih];congr 1;rw[List.set_set,List.append_assoc];rfl
theorem Mr{h o w:Nat}{hs:List (Nat×Nat)}{L:M}(hh:L[h]?=some (some (.dK (kvH hs))))(hn:hNd hs)(hl:hs.length<=100000):
  tY [.ref h,.int (o:Int),.int (w:Int)] L=some (.ref L.length,L.set h none++[some (.dK (kvH (qX hs o w)))]):=by
 have hlen:(L.set h none).length=L.length:=WT ..;have h0:(L.set h none++[some (Z8.dK [])])[L.length]?=some (some (.dK (kvH (qX [] o w)))):=by
  rw[VV (by omega),hlen];simp[kvH,qX]
 have e:=JW (o:=o) (w:=w) (n:=L.length) hs [] none none (L.set h none++[some (.dK [])]) h0 (by simpa[hNd] using hn) (by simpa using hl);have hv:A6 ["thing","home"] [("old",1),("new",2)] (be 0) (qm 2 (pS (pJ 0) (pS (pJ 1) qA))) pY (be 0) (vIf (vT (v2 fEq (be 1) (be 2))) (be 3) (be 1)) [some (.ref h),some (.int (o:Int)),some (.int (w:Int))] L=some (.ref L.length,L.set h none++[some (.dK (kvH (qX hs o w)))]):=by
  unfold A6;have hv0:be 0 [some (.ref h),some (.int (o:Int)),some (.int (w:Int))] L=some (.ref h,L):=rfl;rw[hv0,bs];show(rl L (.ref h)).bind _=_;simp only[rl,hh,bs];rw[sF (by simp[kvH];omega)];have hc:qt (["thing","home"]:List Str) [("old",1),("new",2)] [some (.ref h),some (.int (o:Int)),some (.int (w:Int))]=[none,none,some (.int (o:Int)),some (.int (w:Int))]:=rfl;rw[hc,e,bs];congr 2;have:(L.set h none++[some (Z8.dK [])]).set L.length (some (.dK (kvH (qX ([]++hs) o w))))=L.set h none++[some (.dK (kvH (qX hs o w)))]:=by
   rw[List.set_append_right _ _ (by omega),hlen];simp
  exact this
 unfold tY Bv;rw[t5,if_pos (show [D.ref h,D.int (o:Int),D.int (w:Int)].length=3 from rfl)];show sg (pT _ [some (.ref h),some (.int (o:Int)),some (.int (w:Int))] L)=_;rw[xt,hv];rfl
structure On (s:Nat) (L Z5:M):Prop where
 len:Z5.length=L.length
 at_:∀j,j≠s->Z5[j]?=L[j]?
def On.refl{s:Nat}{L:M}:On s L L:=⟨rfl,fun _ _=>rfl⟩
def Qm{s:Nat}{L:M}{o:Option Z8}:On s L (L.set s o):=⟨by simp,fun j n=>sr n⟩
def On.trans{s:Nat}{L Z4 Z3:M}(h:On s L Z4)(g:On s Z4 Z3):On s L Z3:=⟨g.len.trans h.len,fun j n=>(g.at_ j n).trans (h.at_ j n)⟩
def On.gr{s:Nat}{L Z4 Z3:M}(g:Gr L Z4)(h:On s Z4 Z3)(hs:L.length<=s):Gr L Z3:=⟨by rw[h.len];exact g.len,fun j hj=>by rw[h.at_ j (by omega)];exact g.at_ j hj⟩
theorem Lg{h x:Nat}{hs:List (Nat×Nat)}{L:M}{O:G}{ek:EV}(h0:O[1]?=some (some (.ref h)))(hk:ek O L=some (.int (x:Int),L))(hh:L[h]?=some (some (.dK (kvH hs))))(hl:hs.length<100000):
  ∃d Z5,sJ (be 1) ek ek O L=some (d,Z5)/\Z5[h]?=some (some (.dK (kvH (p7 hs x))))/\On h L Z5:=by
 have hv:be 1 O L=some (.ref h,L):=Kz h0;have hd:rl L (.ref h)=some (kvH hs):=by simp only[rl,hh]
 have hlen:(kvH hs).length<1000000:=by simp[kvH];omega
 unfold sJ;rw[hv,bs];simp only[hd,bs,hk,uw,if_pos hlen,CJ];cases hx:p0 hs x with
 |some r=>
  refine⟨.int (r:Int),L,rfl,?_,.refl⟩;unfold p7;rw[hx];exact hh
 |none=>
  refine⟨.int (x:Int),L.set h (some (.dK (sq (kvH hs) (Sum.inl (x:Int)) (.int (x:Int))))),rfl,?_,Qm⟩;rw[sj hh,Gm _ (hVal_none.mp hx)];unfold p7;rw[hx];rfl
def zL{h x r:Nat}{hs:List (Nat×Nat)}{L:M}(hh:L[h]?=some (some (.dK (kvH hs))))(hx:p0 hs x=some r):sh (.ref h) (.int (x:Int)) L=some (.int (r:Int),L):=by
 unfold sh;simp only[rl,hh,bs,uw,CJ,hx];rfl
abbrev A2:SV:=(pM (sK (sJ (be 1) (be 2) (be 2)))
   (pM (sK (sJ (be 1) (be 3) (be 3)))
   (sIf (qS (be 4))
    (pX (vL tY (pG (be 1) (pG (v2 sh (be 1) (be 3)) (pG (v2 sh (be 1) (be 2)) pI)))) (pJ 1))
    sNx)))
theorem Rj{d:D}{h:Nat}{a:An}{hs:List (Nat×Nat)}{L:M}(hh:L[h]?=some (some (.dK (kvH hs))))(hn:hNd hs)(hl:hs.length<10000):
  ∃h' Z5,A2 [some d,some (.ref h),some (.int (a.1:Int)),some (.int (a.2.1:Int)),some (.bl a.2.2)] L=some (.nx,[some d,some (.ref h'),some (.int (a.1:Int)),some (.int (a.2.1:Int)),some (.bl a.2.2)],Z5)/\Z5[h']?=some (some (.dK (kvH (sO hs a))))/\(∀Zv,Gr Zv L->Zv.length<=h->Gr Zv Z5/\Zv.length<=h'):=by
 obtain⟨d1,Z4,e1,h1,o1⟩:=Lg (x:=a.1) (O:=[some d,some (.ref h),some (.int (a.1:Int)),some (.int (a.2.1:Int)),some (.bl a.2.2)]) (ek:=be 2) rfl rfl hh (by omega);have l1:=Ah hs a.1;obtain⟨d2,Z3,e2,h2,o2⟩:=Lg (x:=a.2.1) (O:=[some d,some (.ref h),some (.int (a.1:Int)),some (.int (a.2.1:Int)),some (.bl a.2.2)]) (ek:=be 3) (L:=Z4) rfl rfl h1 (by omega);have l2:=Ah (p7 hs a.1) a.2.1;have s12:A2 [some d,some (.ref h),some (.int (a.1:Int)),some (.int (a.2.1:Int)),some (.bl a.2.2)] L=sIf (qS (be 4)) (pX (vL tY (pG (be 1) (pG (v2 sh (be 1) (be 3)) (pG (v2 sh (be 1) (be 2)) pI)))) (pJ 1)) sNx [some d,some (.ref h),some (.int (a.1:Int)),some (.int (a.2.1:Int)),some (.bl a.2.2)] Z3:=by
  unfold A2;rw[sk,zO,e1];show wy _ (some (.nx,_,Z4))=_;rw[vX,sk,zO,e2];rfl
 rw[s12];have hb:qS (be 4) [some d,some (.ref h),some (.int (a.1:Int)),some (.int (a.2.1:Int)),some (.bl a.2.2)] Z3=some (a.2.2,Z3):=by simp
 cases hc:a.2.2 with
 |false=>
  rw[hc] at hb;refine⟨h,Z3,by rw[vU,hb];rfl,?_,fun Zv g0 hle=>⟨On.gr g0 (o1.trans o2) hle,hle⟩⟩;rw[h2];unfold sO;simp[hc]
 |true=>
  rw[hc] at hb;have vi:∃r,p0 (p7 (p7 hs a.1) a.2.1) a.1=some r:=by
   rw[v3];split
   ·exact⟨_,rfl⟩
   ·rw[v3,if_pos rfl];exact⟨_,rfl⟩
  have vj:∃r,p0 (p7 (p7 hs a.1) a.2.1) a.2.1=some r:=by rw[v3,if_pos rfl];exact⟨_,rfl⟩
  obtain⟨ri,hi⟩:=vi;obtain⟨rj,hj⟩:=vj;have nd2:=AH (AH hn a.1) a.2.1;have em:=Mr (o:=rj) (w:=ri) h2 nd2 (by omega);refine⟨Z3.length,Z3.set h none++[some (.dK (kvH (qX (p7 (p7 hs a.1) a.2.1) rj ri)))],?_,?_,fun Zv g0 hle=>?_⟩
  ·rw[vU,hb];show pX _ _ _ _=_;have gj:=zL h2 hj;have gi:=zL h2 hi;simp[gj,gi,em]
  ·have:(Z3.set h none).length=Z3.length:=WT ..;rw[VV (by omega),this];simp[sO,hc,hi,hj]
  ·have g2:=On.gr g0 (o1.trans o2) hle;refine⟨⟨by simp;have:=g2.len;omega,fun j hj'=>?_⟩,g2.len⟩;have hlt:j<Z3.length:=by have:=g2.len;omega
   rw[VL (by simpa using hlt),sr (by omega)];exact g2.at_ j hj'
def Oc{d:D}{as:List An}{L:M}(hl:Ls L d (as.map dA))(hs:as.length<=1000):∃h Z5,we tY [d] L=some (.ref h,Z5)/\Z5[h]?=some (some (.dK (kvH (qR as))))/\Gr L Z5:=by
 obtain⟨h1,c,h2,h3,h4⟩:=hl;have main:=Az (c:=c) (g:=(qm 3 (pS (pJ 2) (pS (pJ 3) (pS (pJ 4) qA))))) (body:=A2)
  (fun i O Z5=>∃h o2 o3 o4,O=[some d,some (.ref h),o2,o3,o4]/\Z5[h]?=some (some (.dK (kvH (qR (as.take i)))))/\Gr L Z5/\L.length<=h)
  (as.map dA) 0 [some d,some (.ref L.length),none,none,none] (L++[some (.dK [])]) ⟨L.length,_,_,_,rfl,by simp[kvH,qR],gr_app,Vv _⟩ ?_
 ·obtain⟨ZY,Z5,e,h,o2,o3,o4,rfl,hh,g,_⟩:=main;rw[WY,VF,List.take_length] at hh;refine⟨h,Z5,?_,hh,g⟩;unfold we Ec;rw[t5,if_pos (show [d].length=1 from rfl)];show sg (pM _ _ [some d,none,none,none,none] L)=_;have s1:pX wd (pJ 1) [some d,none,none,none,none] L=some (.nx,[some d,some (.ref L.length),none,none,none],L++[some (.dK [])]):=rfl;have hi:ivL (be 0) [some d,some (.ref L.length),none,none,none] (L++[some (.dK [])])=some ((as.map dA,c),L++[some (.dK [])]):=by
   have hL:Ls (L++[some (.dK [])]) d (as.map dA):=Ls.gr ⟨h1,c,h2,h3,h4⟩ gr_app;have:lsC (L++[some (.dK [])]) d=some (as.map dA,c):=by
    cases d with
    |ref k=>
     rcases Bu (L:=L) (d:=.ref k) ⟨h1,c,h2,h3,h4⟩ with⟨k',e,hk⟩|e|e
     ·cases e;rw[B8 hk] at h2;rw[B8 ((gr_app (ex:=[some (.dK [])])).get hk)];exact h2
     ·cases e
     ·cases e
    |_=>exact h2
   simp[this]
  rw[sk,s1,vX,sk,wb,hi,wG,e];rfl
 ·rintro j x O Z4 hx ⟨h,o2,o3,o4,rfl,hh,g,hle⟩;rw[WY] at hh;rw[VR] at hx;cases ha:as[j]? with
  |none=>rw[ha] at hx;cases hx
  |some a=>
   rw[ha] at hx;cases hx;have hlen:(qR (as.take j)).length<10000:=by
    have:=LN (as.take j);have:=List.length_take_le j as;rw[Wz] at*;omega
   obtain⟨h',Z3,e,hh2,hg⟩:=Rj (d:=d) (a:=a) hh (UQ _) hlen;obtain⟨g2,hle2⟩:=hg L g hle;refine⟨[some d,some (.ref h),some (.int (a.1:Int)),some (.int (a.2.1:Int)),some (.bl a.2.2)],Z4,_,Z3,rfl,e,h4 _ g2,h',some (.int (a.1:Int)),some (.int (a.2.1:Int)),some (.bl a.2.2),rfl,?_,g2,hle2⟩;rw[hh2,WY,TR as j a ha]
theorem AO{c:Ck}{g:GV}{tc:BV}{te:EV}{J:Type}{dn:J->D}{keep:J->Bool}{val:J->D}(Pv:G->Prop){L:M}(hc:p8 c L):∀(l:List J) (O:G),Pv O->
  (∀x∈l,∀O,Pv O->∃ZX,g (dn x) O L=some (ZX,L)/\tc ZX L=some (keep x,L)/\(keep x=true->te ZX L=some (val x,L))/\Pv ZX)->
  qF c g tc te (l.map dn) O L=some ((l.filter keep).map val,L)
 | [],_,_,_=>rfl
 |x::r,O,h,hs=>by
  obtain⟨ZX,h1,h2,h3,h4⟩:=hs x (by simp) O h;have ih:=AO Pv hc r ZX h4 fun x hx=>hs x (by simp[hx]);simp only[VB,qF,h1,bs,h2];cases hk:keep x with
  |true=>simp only[if_true,h3 hk,bs,sF hc,ih,List.filter_cons_of_pos hk,VB]
  |false=>simp only[V7,if_false,sF hc,ih,Xa,hk]
def HR{J:Type}(l:List J):l.filter (fun _=>true)=l:=List.filter_eq_self.mpr (by simp)
section
variable {J:Type} {own:Str} {cap:List (Str×Nat)} {pU:G} {iv:IV} {tc:BV} {te:EV} {O:G} {L:M} {c:Ck} {l:List J} {dn:J->D}
theorem N8{keep:J->Bool}{val:J->D}(hi:iv O L=some ((l.map dn,c),L))(hl:l.length<=1000000)(hc:p8 c L)(he:qt [own] cap O=none::pU)
  (ht:∀x∈l,tc (some (dn x)::pU) L=some (keep x,L)) (hv:∀x∈l,keep x=true->te (some (dn x)::pU) L=some (val x,L)):qO [own] cap iv (pJ 0) tc te O L=some (.lst ((l.filter keep).map val),L):=by
 rw[Dm,hi,Cq,if_pos (by simpa using hl),he];rw[AO (g:=pJ 0) (tc:=tc) (te:=te) (keep:=keep) (val:=val) (fun O=>∃o,O=o::pU) hc l (none::pU) ⟨none,rfl⟩ (by
  rintro x hx O ⟨o,rfl⟩;exact⟨some (dn x)::pU,rfl,ht x hx,hv x hx,_,rfl⟩)]
 rfl
theorem Dv{val:J->D}(hi:iv O L=some ((l.map dn,c),L))(hl:l.length<=1000000)(hc:p8 c L)(he:qt [own] cap O=none::pU)
  (hv:∀x∈l,te (some (dn x)::pU) L=some (val x,L)):qO [own] cap iv (pJ 0) pY te O L=some (.lst (l.map val),L):=by
 rw[N8 (keep:=fun _=>true) (val:=val) hi hl hc he (fun _ _=>rfl) (fun x hx _=>hv x hx),HR]
end
def Ls.iv{L:M}{d:D}{ds:List D}{O:G}{i:Nat}(h:Ls L d ds)(Y5:O[i]?=some (some d)):∃c,ivL (be i) O L=some ((ds,c),L)/\p8 c L/\∀Z5,Gr L Z5->p8 c Z5:=by
 obtain⟨h1,c,h2,h3,h4⟩:=h;exact⟨c,by unfold ivL;rw[Kz Y5,bs];show(lsC L d).bind _=_;rw[h2,bs],h3,h4⟩
section
variable {C CF:Addr} {n:Nat} {d:D} {as:List An} {L:M}
abbrev vA(C:Addr):FX:=Bq (we tY) (zf C)
abbrev C5(C CF:Addr):FX:=BN (vA C) CF
theorem E9(hl:Ls L d (as.map dA))(hv:Ok2 n as)(hs:as.length<=1000):∃Z5,vA C [.int (n:Int),d] L=some (.ok (.bl (qj as)),Z5)/\Gr L Z5:=by
 obtain⟨h,Z4,e1,hh,g⟩:=Oc hl hs;refine⟨Z4,?_,g⟩;have hc1:=OI (C:=C) hl hv;obtain⟨c,hi,hck,_⟩:=(hl.gr g).iv (O:=[some (.int (n:Int)),some d,some (.ref h)]) (i:=1) rfl;have hcmp:qO ["i","j","alike"] [("homes",2)] (ivL (be 1)) (qm 3 (pS (pJ 0) (pS (pJ 1) (pS (pJ 2) qA)))) pY (vOr (be 2) (v2 fNe (v2 sh (be 3) (be 0)) (v2 sh (be 3) (be 1)))) [some (.int (n:Int)),some d,some (.ref h)] Z4=some (.lst ((as.map fun a=>a.2.2||!decide (p0 (qR as) a.1=p0 (qR as) a.2.1)).map D.bl),Z4):=by
  rw[Dm,hi,Cq,if_pos (by simp;omega)];have ec:qt (["i","j","alike"]:List Str) [("homes",2)] [some (.int (n:Int)),some d,some (.ref h)]=[none,none,none,some (.ref h)]:=rfl;rw[ec,AO (dn:=dA) (keep:=fun _=>true) (val:=fun a=>D.bl (a.2.2||!decide (p0 (qR as) a.1=p0 (qR as) a.2.1))) (fun O=>∃o1 o2 o3,O=[o1,o2,o3,some (.ref h)]) hck as _ ⟨_,_,_,rfl⟩ ?_,HR]
  ·simp
  ·rintro a ha O ⟨o1,o2,o3,rfl⟩;obtain⟨n1,n2⟩:=(Bo as).named a ha;obtain⟨r1,q1⟩:=Wf.mp n1;obtain⟨r2,q2⟩:=Wf.mp n2;have g1:=zL hh q1;have g2:=zL hh q2;refine⟨[some (.int (a.1:Int)),some (.int (a.2.1:Int)),some (.bl a.2.2),some (.ref h)],rfl,rfl,fun _=>?_,_,_,_,rfl⟩;have ht:v2 fNe (v2 sh (be 3) (be 0)) (v2 sh (be 3) (be 1)) [some (.int (a.1:Int)),some (.int (a.2.1:Int)),some (.bl a.2.2),some (.ref h)] Z4=some (.bl (!decide (p0 (qR as) a.1=p0 (qR as) a.2.1)),Z4):=by
    rw[e_2 (x:=.int (r1:Int)) (Z4:=Z4) (y:=.int (r2:Int)) (Z3:=Z4) (by rw[e_2 (x:=.ref h) (Z4:=Z4) (y:=.int (a.1:Int)) (Z3:=Z4) rfl rfl];exact g1) (by rw[e_2 (x:=.ref h) (Z4:=Z4) (y:=.int (a.2.1:Int)) (Z3:=Z4) rfl rfl];exact g2),q1,q2];simp[fNe,eqD];omega
   cases hb:a.2.2 with
   |true=>rfl
   |false=>
    rw[hb] at ht;rw[MI];show AX _ _ (some (.bl false,Z4))=_;exact ht
 refine zQ (ZX:=[some (.int (n:Int)),some d,some (.ref h)]) rfl ?_;unfold Bc;show rg _ _ [some (.int (n:Int)),some d,none] L=_;rw[yK (ZX:=[some (.int (n:Int)),some d,none]) (Z4:=L) (Kq (d:=.non) (by rw[xQ (ds:=[.int (n:Int),d]) (Z4:=L) (zg rfl)];exact hc1))];refine wl (o:=.rt _) ?_;have s1:pX (vL (we tY) (pG (be 1) pI)) (pJ 2) [some (.int (n:Int)),some d,none] L=some (.nx,[some (.int (n:Int)),some d,some (.ref h)],Z4):=by
  simp[e1]
 rw[sk,s1,vX,xt,e_1 hcmp];simp only[uf,qE,bs,Iu];show some (Out.rt (.bl _),_,_)=_;congr 4;unfold qj;simp[List.all_map]
theorem SL(hl:Ls L d (as.map dA))(hv:Ok2 n as)(hs:as.length<=1000)(hc:qj as=true):∃Z5,C5 C CF [.int (n:Int),d] L=some (.ok .non,Z5)/\Gr L Z5:=by
 obtain⟨Z4,e,g⟩:=E9 (C:=C) hl hv hs;rw[hc] at e;refine⟨Z4,Et (ZX:=[some (.int (n:Int)),some d]) rfl ?_,g⟩;unfold CK;show sC _ _ _ [some (.int (n:Int)),some d] L=_;have e2:vLX (vA C) (upL (pG (be 0) (pG (be 1) pI))) [some (.int (n:Int)),some d] L=some (.ok (.bl true),Z4):=by
  rw[xQ (ds:=[.int (n:Int),d]) (Z4:=L) (zg rfl)];exact e
 have e3:zw (bTX (vLX (vA C) (upL (pG (be 0) (pG (be 1) pI))))) [some (.int (n:Int)),some d] L=some (.ok false,Z4):=by
  unfold zw bTX;rw[e2];rfl
 rw[yD e3];exact wl (o:=.nx) rfl
end
def dI(s:List Int):D:=.lst (s.map D.int)
def RC(a b:Bool)(L:M):eqD (.bl a) (.bl b) L=some (a==b):=by
 cases a<;>cases b<;>rfl
abbrev vR:SV:=(sIf (vT (v2 fNe (v2 fEq (v2 fIx (be 0) (be 2)) (v2 fIx (be 0) (be 3))) (be 4)))
    (pT (vC (.bl false)))
    sNx)
theorem Kv{s:List Int}{d:D}{c:Ck}{L:M}(hc:p8 c L):∀(as:List An) (o2 o3 o4:Option D),InN s.length as->
  (tK s as=true->∃o2' o3' o4',qB c (qm 3 (pS (pJ 2) (pS (pJ 3) (pS (pJ 4) qA)))) vR (as.map dA) [some (dI s),some d,o2,o3,o4] L=some (.nx,[some (dI s),some d,o2',o3',o4'],L))/\
  (tK s as=false->∃ZY,qB c (qm 3 (pS (pJ 2) (pS (pJ 3) (pS (pJ 4) qA)))) vR (as.map dA) [some (dI s),some d,o2,o3,o4] L=some (.rt (.bl false),ZY,L))
 | [],o2,o3,o4,_=>⟨fun _=>⟨o2,o3,o4,rfl⟩,fun h=>by cases h⟩
 |a::as,o2,o3,o4,hv=>by
  obtain⟨h1,h2⟩:=hv a (by simp);obtain⟨ih1,ih2⟩:=Kv (s:=s) (d:=d) hc as (some (.int (a.1:Int))) (some (.int (a.2.1:Int))) (some (.bl a.2.2)) (fun x hx=>hv x (by simp[hx]));have hg:qm 3 (pS (pJ 2) (pS (pJ 3) (pS (pJ 4) qA))) (dA a) [some (dI s),some d,o2,o3,o4] L=some ([some (dI s),some d,some (.int (a.1:Int)),some (.int (a.2.1:Int)),some (.bl a.2.2)],L):=rfl;have ix:∀x:Nat,x<s.length->fIx (dI s) (.int (x:Int)) L=some (.int (s.getD x 0),L):=fun x hx=>by
   simp only[fIx,dI,qE];rw[uX (j:=x) (v:=.int (s.getD x 0)) (by rw[VR,VD];simp[VA hx])];rfl
  have t:vT (v2 fNe (v2 fEq (v2 fIx (be 0) (be 2)) (v2 fIx (be 0) (be 3))) (be 4)) [some (dI s),some d,some (.int (a.1:Int)),some (.int (a.2.1:Int)),some (.bl a.2.2)] L=some (!(decide (s.getD a.1 0=s.getD a.2.1 0)==a.2.2),L):=by
   rw[Jx,e_2 (x:=.bl (decide (s.getD a.1 0=s.getD a.2.1 0))) (Z4:=L) (y:=.bl a.2.2) (Z3:=L) (by
    rw[e_2 (x:=.int (s.getD a.1 0)) (Z4:=L) (y:=.int (s.getD a.2.1 0)) (Z3:=L) (by rw[e_2 (x:=dI s) (Z4:=L) (y:=.int (a.1:Int)) (Z3:=L) rfl rfl];exact ix _ h1) (by rw[e_2 (x:=dI s) (Z4:=L) (y:=.int (a.2.1:Int)) (Z3:=L) rfl rfl];exact ix _ h2)];rfl) rfl]
   simp only[fNe,RC,bs];rfl
  have ef:tK s (a::as)=((decide (s.getD a.1 0=s.getD a.2.1 0)==a.2.2)&&tK s as):=rfl;rw[ef];cases hb:(decide (s.getD a.1 0=s.getD a.2.1 0)==a.2.2) with
  |true=>
   rw[hb] at t;have hbd:vR [some (dI s),some d,some (.int (a.1:Int)),some (.int (a.2.1:Int)),some (.bl a.2.2)] L=some (.nx,[some (dI s),some d,some (.int (a.1:Int)),some (.int (a.2.1:Int)),some (.bl a.2.2)],L):=by
    unfold vR;rw[vU,t];rfl
   have step:qB c (qm 3 (pS (pJ 2) (pS (pJ 3) (pS (pJ 4) qA)))) vR ((a::as).map dA) [some (dI s),some d,o2,o3,o4] L=qB c (qm 3 (pS (pJ 2) (pS (pJ 3) (pS (pJ 4) qA)))) vR (as.map dA) [some (dI s),some d,some (.int (a.1:Int)),some (.int (a.2.1:Int)),some (.bl a.2.2)] L:=by
    rw[VB];simp only[qB,hg,bs,hbd];rw[sF hc]
   rw[step,Bool.true_and];exact⟨ih1,ih2⟩
  |false=>
   rw[hb] at t;have hbd:vR [some (dI s),some d,some (.int (a.1:Int)),some (.int (a.2.1:Int)),some (.bl a.2.2)] L=some (.rt (.bl false),[some (dI s),some d,some (.int (a.1:Int)),some (.int (a.2.1:Int)),some (.bl a.2.2)],L):=by
    unfold vR;rw[vU,t];rfl
   refine⟨fun z=>by simp at z,fun _=>⟨[some (dI s),some d,some (.int (a.1:Int)),some (.int (a.2.1:Int)),some (.bl a.2.2)],?_⟩⟩;rw[VB];simp only[qB,hg,bs,hbd]
def Ox{s:List Int}{d:D}{as:List An}{L:M}(hl:Ls L d (as.map dA))(hv:InN s.length as):vM [dI s,d] L=some (.bl (tK s as),L):=by
 obtain⟨c,hi,hck,_⟩:=hl.iv (O:=[some (dI s),some d,none,none,none]) (i:=1) rfl;obtain⟨l1,l2⟩:=Kv (s:=s) (d:=d) hck as none none none hv;unfold vM Dq;rw[t5,if_pos (show [dI s,d].length=2 from rfl)];show sg (pM _ _ [some (dI s),some d,none,none,none] L)=_;rw[sk,wb,hi,wG];cases hb:tK s as with
 |true=>
  obtain⟨o2,o3,o4,e⟩:=l1 hb;rw[e];rfl
 |false=>
  obtain⟨ZY,e⟩:=l2 hb;rw[e];rfl
def ext(m:Nat)(p:List Int×Nat):List (List Int×Nat):=(List.range (min (p.2+1) m)).map fun(i:Nat)=>(p.1++[(i:Int)],max p.2 (i+1))
def dS(p:List Int×Nat):D:=dI p.1
def O8{L:M}{s:List Int×Nat}{k:Int}{n:Nat}(g:Gd n k.toNat s)(hn:n<=7):tj [dS s,.int k] L=some (.lst ((ext k.toNat s).map dS),L):=by
 have hl:s.1.length<=1000:=by rw[g.len];omega
 have hu:=g.used;have h2:=g.len2;have s1:pX (v2 qi (v2 xK (be 0) (v1 vw (vC (.int 1)))) (vC (.int 1))) (pJ 2) [some (dS s),some (.int k),none] L=some (.nx,[some (dS s),some (.int k),some (.int (s.2:Int))],L):=by
  have e1:v2 xK (be 0) (v1 vw (vC (.int 1))) [some (dS s),some (.int k),none] L=some (.int ((mxL s.1).getD (-1)),L):=by
   rw[e_2 (x:=dS s) (Z4:=L) (y:=.int (-1)) (Z3:=L) rfl (by simp[vw])];simp only[xK,dS,dI,qE,bs,Rb]
  rw[Ci,e_2 (x:=.int ((mxL s.1).getD (-1))) (Z4:=L) (y:=.int 1) (Z3:=L) e1 rfl];simp only[qi,hu];rfl
 have s2:v2 yy (v2 qi (be 2) (vC (.int 1))) (be 1) [some (dS s),some (.int k),some (.int (s.2:Int))] L=some (.int (min ((s.2:Int)+1) k),L):=by
  rw[e_2 (x:=.int ((s.2:Int)+1)) (Z4:=L) (y:=.int k) (Z3:=L) (by simp[qi]) rfl];show some (D.int (if k<(s.2:Int)+1 then k else(s.2:Int)+1),L)=_;have e0:(if k<(s.2:Int)+1 then k else(s.2:Int)+1)=min ((s.2:Int)+1) k:=by
   simp only[Int.min_def];split<;>split<;>omega
  rw[e0]
 have s3:qO ["number"] [("sort",0)] (yQ (v2 yy (v2 qi (be 2) (vC (.int 1))) (be 1))) (pJ 0) pY (v2 qi (be 1) (vL qo (pG (be 0) pI))) [some (dS s),some (.int k),some (.int (s.2:Int))] L=some (.lst ((List.range (min (s.2+1) k.toNat)).map fun i:Nat=>dI (s.1++[(i:Int)])),L):=by
  refine Dv (l:=List.range (min (s.2+1) k.toNat)) (dn:=fun i:Nat=>D.int (i:Int)) (c:=none) (pU:=[some (dS s)]) ?_ (by simp;omega) trivial rfl ?_
  ·rw[R8 s2 (by have:=Int.min_le_left ((s.2:Int)+1) k;omega)];have hm:(min ((s.2:Int)+1) k).toNat=min (s.2+1) k.toNat:=by simp only[Int.min_def,Nat.min_def];split<;>split<;>omega
   rw[hm];simp[qq]
  ·intro i _;rw[e_2 (x:=dS s) (Z4:=L) (y:=.lst [.int (i:Int)]) (Z3:=L) rfl rfl];show yu (.lst (s.1.map D.int)) (.lst [.int (i:Int)]) L=_;unfold yu;simp only[wq,bs];rw[if_pos (by simp;omega)];simp[dI]
 unfold tj Cr;rw[t5,if_pos (show [dS s,D.int k].length=2 from rfl)];show sg (pM _ _ [some (dS s),some (.int k),none] L)=_;rw[sk,s1,vX,xt,s3];simp[ext,dS,Function.comp_def,sg,kRt]
theorem GF{J:Type}{f:J->D}{L:M}{k:D}:∀(l:List J) (a o:Option D),∃o',t8 none (pJ 1) pY (be 1) (l.map f) [a,o,some k] L=some (l.map f,[a,o',some k],L)
 | [],a,o=>⟨o,rfl⟩
 |p::l,a,o=>by
  obtain⟨o',e⟩:=GF l a (some (f p));refine⟨o',?_⟩;have hg:pJ 1 (f p) [a,o,some k] L=some ([a,some (f p),some k],L):=rfl;have hv:be 1 [a,some (f p),some k] L=some (f p,L):=rfl;simp only[VB,t8,hg,bs];show(pY _ _).bind _=_;simp only[pY,bs,if_true,hv,uO];rw[e];rfl
theorem FT{n:Nat}{k:Int}{L:M}(hn:n<=7):∀(ps:List (List Int×Nat)) (a o:Option D),(∀p∈ps,Gd n k.toNat p)->
  su none (pJ 0) pY (ivL (vL tj (pG (be 0) (pG (be 2) pI)))) (pJ 1) pY (be 1) (ps.map dS) [a,o,some (.int k)] L=some ((ps.flatMap (ext k.toNat)).map dS,L)
 | [],a,o,_=>rfl
 |p::ps,a,o,hg=>by
  have e1:=O8 (L:=L) (hg p (by simp)) hn;obtain⟨o',e3⟩:=GF (f:=dS) (L:=L) (k:=.int k) (ext k.toNat p) (some (dS p)) o;have e4:=FT (L:=L) hn ps (some (dS p)) o' (fun q hq=>hg q (by simp[hq]));have h0:pJ 0 (dS p) [a,o,some (.int k)] L=some ([some (dS p),o,some (.int k)],L):=rfl;have hv:ivL (vL tj (pG (be 0) (pG (be 2) pI))) [some (dS p),o,some (.int k)] L=some (((ext k.toNat p).map dS,none),L):=by
   simp[e1,lsC]
  rw[VB];simp only[su,h0,bs];show(pY _ _).bind _=_;simp only[pY,bs,if_true,hv,uO];rw[e3];simp only[bs,uO];rw[e4];simp
def PB(n m:Nat):Sx (n+1) m=(Sx n m).flatMap (ext m):=rfl
def HH{L:M}{n:Nat}{k:Int}{C:Addr}(hn:n<=7):wK tj (.int 7) C [.int (n:Int),.int k] L=some (.ok (.lst ((Sx n k.toNat).map dS)),L):=by
 have main:=Az (c:=none) (g:=pJ 3) (body:=(pX (vg ["sort","longer"] [("most",1)] (ivL (be 2)) (pJ 0) pY (ivL (vL tj (pG (be 0) (pG (be 2) pI)))) (pJ 1) pY (be 1)) (pJ 2)))
  (fun i O Z5=>∃(o:Option D),O=[some (.int (n:Int)),some (.int k),some (.lst ((Sx i k.toNat).map dS)),o]/\Z5=L)
  (qq 0 n) 0 [some (.int (n:Int)),some (.int k),some (.lst [.lst []]),none] L ⟨none,rfl,rfl⟩ ?_
 ·obtain⟨ZY,Z5,e,o,rfl,rfl⟩:=main;rw[MK,WY] at e;refine zQ (ZX:=[some (.int (n:Int)),some (.int k),some (.lst ((Sx n k.toNat).map dS)),o]) rfl ?_;unfold Dg;show rg _ _ [some (.int (n:Int)),some (.int k),none,none] Z5=_;have t:(bOr (vT (v2 fLt (be 0) (vC (.int 0)))) (vT (v2 fGt (be 0) (vC (.int 7))))) [some (.int (n:Int)),some (.int k),none,none] Z5=some (false,Z5):=by
   have a1:¬((n:Int)<0):=by omega
   have a2:¬((7:Int)<n):=by omega
   simp[fLt,fGt,fI0,a1,a2]
  rw[yK (ZX:=[some (.int (n:Int)),some (.int k),none,none]) (Z4:=Z5) ((yD (A1 t)).trans (wl (o:=.nx) rfl))];refine wl (o:=.rt _) ?_;have s1:pX (vL qo (pG (vL qo pI) pI)) (pJ 2) [some (.int (n:Int)),some (.int k),none,none] Z5=some (.nx,[some (.int (n:Int)),some (.int k),some (.lst [.lst []]),none],Z5):=rfl;have hr:ivR (be 0) [some (.int (n:Int)),some (.int k),some (.lst [.lst []]),none] Z5=some ((qq 0 n,none),Z5):=by
   have hb:(-1000000000:Int)<=(n:Int)/\(n:Int)<=1000000000:=by omega
   simp[hb]
  rw[sk,s1,vX,sk,wb,hr,wG,e];rfl
 ·rintro j d O Z4 hd ⟨o,rfl,rfl⟩;obtain⟨hjn,rfl⟩:=Oz hd;rw[WY];have e:=FT (n:=j) (k:=k) (L:=Z4) (by omega) (Sx j k.toNat) none none (fun p hp=>xE _ j p hp);rw[←PB] at e;have hl:((Sx (j+1) k.toNat).map dS).length<=1000000:=by
   have:=zr (n:=j+1) (by omega) k.toNat
   simp;omega
  refine⟨[some (.int (n:Int)),some (.int k),some (.lst ((Sx j k.toNat).map dS)),some (.int (j:Int))],Z4,[some (.int (n:Int)),some (.int k),some (.lst ((Sx (j+1) k.toNat).map dS)),some (.int (j:Int))],Z4,rfl,?_,trivial,some (.int (j:Int)),rfl,rfl⟩;have hv:ivL (be 2) [some (.int (n:Int)),some (.int k),some (.lst ((Sx j k.toNat).map dS)),some (.int (j:Int))] Z4=some (((Sx j k.toNat).map dS,none),Z4):=rfl;have hc:qt (["sort","longer"]:List Str) [("most",1)] [some (.int (n:Int)),some (.int k),some (.lst ((Sx j k.toNat).map dS)),some (.int (j:Int))]=[none,none,some (.int k)]:=rfl;rw[Ci,G5,hv,Jj,hc,e,HB,if_pos hl];rfl
section
variable {C CF CT:Addr} {n:Nat} {d:D} {as:List An} {L:M}
abbrev x3(C CF CT:Addr):FX:=B9 vM (C5 C CF) (wK tj (.int 7) CT)
theorem J6{n m:Nat}{s:List Int}(h:s∈(Sx n m).map (·.1)):s.length=n:=by
 obtain⟨p,hp,rfl⟩:=VW.mp h;exact(xE m n p hp).len
theorem Qx(hl:Ls L d (as.map dA))(hv:Ok2 n as)(hs:as.length<=1000)(hn:n<=7)(hc:qj as=true):∃Z5,x3 C CF CT [.int (n:Int),d] L=some (.ok (.lst ((qv n as).map dI)),Z5)/\Gr L Z5:=by
 obtain⟨Z4,e,g⟩:=SL (C:=C) (CF:=CF) hl hv hs hc;refine⟨Z4,?_,g⟩;refine zQ (ZX:=[some (.int (n:Int)),some d]) rfl ?_;unfold Db;show rg _ _ [some (.int (n:Int)),some d] L=_;rw[yK (ZX:=[some (.int (n:Int)),some d]) (Z4:=Z4) (Kq (d:=.non) (by rw[xQ (ds:=[.int (n:Int),d]) (Z4:=L) (zg rfl)];exact e))];refine Fq ?_;have ea:vLX (wK tj (.int 7) CT) (upL (pG (be 0) (pG (be 0) pI))) [some (.int (n:Int)),some d] Z4=some (.ok (.lst (((Sx n n).map (·.1)).map dI)),Z4):=by
  rw[xQ (ds:=[.int (n:Int),.int (n:Int)]) (Z4:=Z4) (zg rfl),HH hn];simp[dS,Function.comp_def]
 have hlen:((Sx n n).map (·.1)).length<=1000000:=by have:=zr hn n;simp;omega
 have ec:qF none (pJ 0) (qS (vL vM (pG (be 0) (pG (be 1) pI)))) (be 0) (((Sx n n).map (·.1)).map dI) [none,some d] Z4=some ((((Sx n n).map (·.1)).filter fun s=>tK s as).map dI,Z4):=by
  refine AO (c:=none) (fun O=>∃o,O=[o,some d]) trivial _ _ ⟨none,rfl⟩ ?_;rintro s hs O ⟨o,rfl⟩;have hf:=Ox (s:=s) (hl.gr g) (by rw[J6 hs];exact hv.inN);exact⟨[some (dI s),some d],rfl,by simp[hf],fun _=>rfl,_,rfl⟩
 unfold wk;rw[ea];show(if(((Sx n n).map (·.1)).map dI).length<=1000000 then _ else _)=_;rw[if_pos (by simpa using hlen)];have hcap:qt (["sort"]:List Str) [("answers",1)] [some (.int (n:Int)),some d]=[none,some d]:=rfl;show(qF none (pJ 0) (qS (vL vM (pG (be 0) (pG (be 1) pI)))) (be 0) (((Sx n n).map (·.1)).map dI) (qt ["sort"] [("answers",1)] [some (.int (n:Int)),some d]) Z4).bind _=_;rw[hcap,ec];rfl
end
abbrev Gp:=Int×Nat×List Int
structure Gs (L:M) (lo:Nat) (b:Nat) (gs:List Gp):Prop where
 dic:L[b]?=some (some (.dK (gs.map fun g=>(Sum.inl g.1,D.ref g.2.1))))
 at_:∀g∈gs,L[g.2.1]?=some (some (.lst (g.2.2.map D.int)))
 key:(gs.map (·.1)).Nodup
 lo1:lo<=b
 lo2:∀g∈gs,lo<=g.2.1
 nd:(gs.map (·.2.1)).Nodup
 len:∀g∈gs,g.2.2.length<=1000
def rN(gs:List Gp):List (Int×List Int):=gs.map fun g=>(g.1,g.2.2)
def Cu(gs:List Gp)(k:Int):rS (gs.map fun g=>((Sum.inl g.1:Key),D.ref g.2.1)) (Sum.inl k)=(gs.find? fun g=>decide (g.1=k)).map fun g=>D.ref g.2.1:=by
 unfold rS;induction gs with
 |nil=>rfl
 |cons p r ih=>
  rw[VB,VJ,VJ];by_cases z:p.1=k
  ·simp[z]
  ·have z':¬((Sum.inl p.1:Key)=Sum.inl k):=fun e=>z (by injection e);simp only[z,z',decide_false];exact ih
theorem NQ{gs:List Gp}{k t:Int}{g:Gp}(hk:(gs.map (·.1)).Nodup)(hf:gs.find? (fun g=>decide (g.1=k))=some g):
  sG (rN gs) k t=rN (gs.map fun x=>if x.1=k then(x.1,x.2.1,x.2.2++[t]) else x):=by
 have hm:=List.mem_of_find?_eq_some hf;have he:g.1=k:=by simpa using List.find?_some hf
 unfold sG;rw[if_pos (by
  rw[WN];exact⟨(g.1,g.2.2),VW.mpr ⟨g,hm,rfl⟩,by simpa using he⟩)]
 unfold rN;rw[Wb,Wb];apply Wv;intro x _;simp only[Function.comp];split<;>rfl
def Rh{gs:List Gp}{k t:Int}{r:Nat}(hf:gs.find? (fun g=>decide (g.1=k))=none):sG (rN gs) k t=rN (gs++[(k,r,[t])]):=by
 unfold sG;rw[if_neg]
 ·simp[rN]
 ·intro hc;obtain⟨x,hx,e⟩:=WN.mp hc;obtain⟨g,hg,rfl⟩:=VW.mp hx;rw[WC] at hf;exact hf g hg e
abbrev zz:SV:=(sK (vY tE (sJ (be 1) (be 3) (vL tw pI)) (be 2)))
theorem S0{d:D}{b lo:Nat}{gs:List Gp}{L:M}{t k:Int}(h:Gs L lo b gs)(hlo:lo<=L.length)(hl:gs.length<1000)(hlt:∀g∈gs,g.2.2.length<1000):
  ∃gs' Z5,zz [some d,some (.ref b),some (.int t),some (.int k)] L=some (.nx,[some d,some (.ref b),some (.int t),some (.int k)],Z5)/\Gs Z5 lo b gs'/\rN gs'=sG (rN gs) k t/\(∀j,j<lo->Z5[j]?=L[j]?)/\L.length<=Z5.length:=by
 have hb:b<L.length:=(Vw.mp h.dic).1;have hv1:be 1 [some d,some (.ref b),some (.int t),some (.int k)] L=some (.ref b,L):=rfl;have hd:rl L (.ref b)=some (gs.map fun g=>(Sum.inl g.1,D.ref g.2.1)):=by simp only[rl,h.dic]
 have g1:Gr L (L++[some (Z8.lst [])]):=gr_app;have hd2:rl (L++[some (Z8.lst [])]) (.ref b)=some (gs.map fun g=>(Sum.inl g.1,D.ref g.2.1)):=by simp only[rl,g1.get h.dic]
 have hv3:be 3 [some d,some (.ref b),some (.int t),some (.int k)] L=some (.int k,L):=rfl;have hnw:vL tw pI [some d,some (.ref b),some (.int t),some (.int k)] L=some (.ref L.length,L++[some (.lst [])]):=rfl;have hlen:(gs.map fun g=>((Sum.inl g.1:Key),D.ref g.2.1)).length<1000000:=by simp;omega
 cases hf:gs.find? (fun g=>decide (g.1=k)) with
 |some g=>
  have hm:=List.mem_of_find?_eq_some hf;have he:g.1=k:=by simpa using List.find?_some hf
  have hs:sJ (be 1) (be 3) (vL tw pI) [some d,some (.ref b),some (.int t),some (.int k)] L=some (.ref g.2.1,L++[some (.lst [])]):=by
   unfold sJ;rw[hv1,bs];simp only[hd,bs,hv3,hnw,uw,hd2,if_pos hlen,Cu,hf];rfl
  have ha:=g1.get (h.at_ g hm);generalize ZK:L++[some (Z8.lst [])]=Z4 at hs g1 ha;have hlen1:Z4.length=L.length+1:=by rw[←ZK];simp
  have hap:tE (.ref g.2.1) (.int t) Z4=some (.non,Z4.set g.2.1 (some (.lst (g.2.2.map D.int++[.int t])))):=by
   have:=hlt g hm;simp only[tE,yU ha,if_pos (show(g.2.2.map D.int).length<1000000 by simp;omega),B2]
  refine⟨gs.map fun x=>if x.1=k then(x.1,x.2.1,x.2.2++[t]) else x,Z4.set g.2.1 (some (.lst (g.2.2.map D.int++[.int t]))),?_,?_,(NQ h.key hf).symm,fun j hj=>?_,by rw[WT,hlen1];omega⟩
  ·unfold zz;rw[zO];unfold vY;rw[hs,bs];show kEx _ ((qE Z4 (.ref g.2.1)).bind _)=_;rw[xB ha,bs];show kEx _ (tE (.ref g.2.1) (.int t) Z4)=_;rw[hap];rfl
  ·have hkeys:(gs.map fun x=>if x.1=k then(x.1,x.2.1,x.2.2++[t]) else x).map (fun g=>((Sum.inl g.1:Key),D.ref g.2.1))=gs.map fun g=>(Sum.inl g.1,D.ref g.2.1):=by
    rw[Wb];apply Wv;intro x _;simp only[Function.comp];split<;>rfl
   have hk1:(gs.map fun x=>if x.1=k then(x.1,x.2.1,x.2.2++[t]) else x).map (·.1)=gs.map (·.1):=by
    rw[Wb];apply Wv;intro x _;simp only[Function.comp];split<;>rfl
   have hk2:(gs.map fun x=>if x.1=k then(x.1,x.2.1,x.2.2++[t]) else x).map (·.2.1)=gs.map (·.2.1):=by
    rw[Wb];apply Wv;intro x _;simp only[Function.comp];split<;>rfl
   have hbg:b≠g.2.1:=fun z=>by
    have h1:=h.dic;rw[z,h.at_ g hm] at h1;cases h1
   refine⟨?_,fun x hx=>?_,by rw[hk1];exact h.key,h.lo1,fun x hx=>?_,by rw[hk2];exact h.nd,fun x hx=>?_⟩
   ·rw[hkeys,sr hbg];exact g1.get h.dic
   ·obtain⟨y,hy,rfl⟩:=VW.mp hx;by_cases hyk:y.1=k
    ·have:y=g:=by
      have hn:=h.key;obtain⟨i,hi⟩:=Wk hy;obtain⟨j,hj⟩:=Wk hm;have e1:(gs.map (·.1))[i]?=some k:=by rw[VR,hi];simp[hyk]
      have e2:(gs.map (·.1))[j]?=some k:=by rw[VR,hj];simp[he]
      obtain⟨l1,q1⟩:=Vw.mp e1;obtain⟨l2,q2⟩:=Vw.mp e2;have hp:=Wx.mp hn;rcases Nat.lt_trichotomy i j with z|z|z
      ·exact absurd (q1.trans q2.symm) (hp i j l1 l2 z)
      ·subst z;rw[hi] at hj;cases hj;rfl
      ·exact absurd (q2.trans q1.symm) (hp j i l2 l1 z)
     subst this;rw[if_pos hyk];show(Z4.set y.2.1 _)[y.2.1]?=_;rw[sj ha];simp
    ·rw[if_neg hyk];have hne:y.2.1≠g.2.1:=fun z=>by
      have hn:=h.nd;obtain⟨i,hi⟩:=Wk hy;obtain⟨j,hj⟩:=Wk hm;have e1:(gs.map (·.2.1))[i]?=some g.2.1:=by rw[VR,hi];simp[z]
      have e2:(gs.map (·.2.1))[j]?=some g.2.1:=by rw[VR,hj];simp
      obtain⟨l1,q1⟩:=Vw.mp e1;obtain⟨l2,q2⟩:=Vw.mp e2;have hp:=Wx.mp hn;rcases Nat.lt_trichotomy i j with w|w|w
      ·exact absurd (q1.trans q2.symm) (hp i j l1 l2 w)
      ·subst w;rw[hi] at hj;cases hj;exact hyk he
      ·exact absurd (q2.trans q1.symm) (hp j i l2 l1 w)
     rw[sr hne];exact g1.get (h.at_ y hy)
   ·obtain⟨y,hy,rfl⟩:=VW.mp hx;split
    ·exact h.lo2 y hy
    ·exact h.lo2 y hy
   ·obtain⟨y,hy,rfl⟩:=VW.mp hx;have:=hlt y hy;split
    ·simp;omega
    ·omega
  ·rw[sr (by have:=h.lo2 g hm;omega)];exact g1.at_ j (by omega)
 |none=>
  have hs:sJ (be 1) (be 3) (vL tw pI) [some d,some (.ref b),some (.int t),some (.int k)] L=some (.ref L.length,(L++[some (Z8.lst [])]).set b (some (Z8.dK (sq (gs.map fun g=>((Sum.inl g.1:Key),D.ref g.2.1)) (Sum.inl k) (.ref L.length))))):=by
   unfold sJ;rw[hv1,bs];simp only[hd,bs,hv3,hnw,uw,hd2,if_pos hlen,Cu,hf];rfl
  have hput:sq (gs.map fun g=>((Sum.inl g.1:Key),D.ref g.2.1)) (Sum.inl k) (.ref L.length)=(gs++[(k,L.length,[t])]).map fun g=>(Sum.inl g.1,D.ref g.2.1):=by
   rw[FI _ (by rw[Cu,hf];rfl)];simp
  rw[hput] at hs;have ha:((L++[some (Z8.lst [])]).set b (some (.dK ((gs++[(k,L.length,[t])]).map fun g=>(Sum.inl g.1,D.ref g.2.1)))))[L.length]?=some (some (.lst [])):=by
   rw[sr (by omega)];simp
  have hbk:((L++[some (Z8.lst [])]).set b (some (.dK ((gs++[(k,L.length,[t])]).map fun g=>(Sum.inl g.1,D.ref g.2.1)))))[b]?=some (some (.dK ((gs++[(k,L.length,[t])]).map fun g=>(Sum.inl g.1,D.ref g.2.1)))):=sj (g1.get h.dic);have hold:∀j,j<L.length->j≠b->((L++[some (Z8.lst [])]).set b (some (.dK ((gs++[(k,L.length,[t])]).map fun g=>(Sum.inl g.1,D.ref g.2.1)))))[j]?=L[j]?:=fun j hj hne=>by
   rw[sr hne];exact g1.at_ j hj
  have hlen1:((L++[some (Z8.lst [])]).set b (some (.dK ((gs++[(k,L.length,[t])]).map fun g=>(Sum.inl g.1,D.ref g.2.1))))).length=L.length+1:=by simp
  generalize ZK:(L++[some (Z8.lst [])]).set b (some (.dK ((gs++[(k,L.length,[t])]).map fun g=>(Sum.inl g.1,D.ref g.2.1))))=Z4 at hs ha hbk hold hlen1;have hap:tE (.ref L.length) (.int t) Z4=some (.non,Z4.set L.length (some (.lst [.int t]))):=by
   simp only[tE,yU ha,if_pos (show([]:List D).length<1000000 by decide),B2];rfl
  refine⟨gs++[(k,L.length,[t])],Z4.set L.length (some (.lst [.int t])),?_,?_,(Rh hf).symm,fun j hj=>?_,by rw[WT,hlen1];omega⟩
  ·unfold zz;rw[zO];unfold vY;rw[hs,bs];show kEx _ ((qE Z4 (.ref L.length)).bind _)=_;rw[xB ha,bs];show kEx _ (tE (.ref L.length) (.int t) Z4)=_;rw[hap];rfl
  ·have hgl:∀g∈gs,g.2.1<L.length:=fun g hg=>(Vw.mp (h.at_ g hg)).1;refine⟨by rw[sr (by omega)];exact hbk,fun x hx=>?_,?_,h.lo1,fun x hx=>?_,?_,fun x hx=>?_⟩
   ·rcases VQ.mp hx with hx|hx
    ·have hl1:=hgl x hx;have hxb:x.2.1≠b:=fun z=>by
      have h1:=h.dic;rw[←z,h.at_ x hx] at h1;cases h1
     rw[sr (by omega),hold _ hl1 hxb];exact h.at_ x hx
    ·have:x=(k,L.length,[t]):=by simpa using hx
     subst this;exact sj ha
   ·rw[WX,List.nodup_append];refine⟨h.key,by simp,fun a ha1 c hc e=>?_⟩;have:c=k:=by simpa using hc
    subst this e;obtain⟨g,hg,rfl⟩:=VW.mp ha1;rw[WC] at hf;exact hf g hg (by simp)
   ·rcases VQ.mp hx with hx|hx
    ·exact h.lo2 x hx
    ·have:x=(k,L.length,[t]):=by simpa using hx
     subst this;exact hlo
   ·rw[WX,List.nodup_append];refine⟨h.nd,by simp,fun a ha1 c hc e=>?_⟩;have:c=L.length:=by simpa using hc
    subst this e;obtain⟨g,hg,e⟩:=VW.mp ha1;have:=hgl g hg;omega
   ·rcases VQ.mp hx with hx|hx
    ·exact h.len x hx
    ·have:x=(k,L.length,[t]):=by simpa using hx
     subst this;simp
  ·have hb2:=h.lo1;rw[sr (by omega)];exact hold j (by omega) (by omega)
theorem Kx:∀(l:List Int) (i:Nat) (k:Int) (gs:List (Int×List Int)),vW i (l++[k]) gs=sG (vW i l gs) k ((i+l.length:Nat):Int)
 | [],i,k,gs=>by simp[vW]
 |x::l,i,k,gs=>by
  rw[List.cons_append,vW,vW,Kx l (i+1) k];congr 2;simp;omega
def Qi(gs:List (Int×List Int))(k t:Int):(sG gs k t).length<=gs.length+1:=by
 unfold sG;split<;>simp
def RE{gs:List (Int×List Int)}{k t:Int}{m:Nat}(h:∀g∈gs,g.2.length<=m):∀g∈sG gs k t,g.2.length<=m+1:=by
 intro g hg;unfold sG at hg;split at hg
 ·obtain⟨x,hx,rfl⟩:=VW.mp hg;have:=h x hx;split
  ·simp;omega
  ·omega
 ·rcases VQ.mp hg with hg|hg
  ·have:=h g hg;omega
  ·have:g=(k,[t]):=by simpa using hg
   subst this;simp
def Uj{s:List Int}{L:M}(hs:s.length<=500):∃b gs Z5,u8 [dI s] L=some (.lst (gs.map fun g:Gp=>D.ref g.2.1),Z5)/\Gs Z5 L.length b gs/\rN gs=grp s/\Gr L Z5:=by
 have main:=Az (c:=none) (g:=(qm 2 (pS (pJ 2) (pS (pJ 3) qA)))) (body:=zz)
  (fun i O Z5=>∃(gs:List Gp) (o2 o3:Option D),O=[some (dI s),some (.ref L.length),o2,o3]/\Gs Z5 L.length L.length gs/\rN gs=grp (s.take i)/\gs.length<=i/\(∀g∈gs,g.2.2.length<=i)/\Gr L Z5)
  ((List.range s.length).map fun i:Nat=>D.tup [.int (i:Int),.int (s.getD i 0)]) 0 [some (dI s),some (.ref L.length),none,none] (L++[some (.dK [])])
  ⟨[],none,none,rfl,⟨by simp,fun g h=>by simp at h,by simp,Vv _,fun g h=>by simp at h,by simp,fun g h=>by simp at h⟩,rfl,Vv _,fun g h=>by simp at h,gr_app⟩ ?_
 ·obtain⟨ZY,Z5,e,gs,o2,o3,rfl,G1,hst,_,_,gr⟩:=main;rw[WY,VF,WH,List.take_length] at hst;refine⟨L.length,gs,Z5,?_,G1,hst,gr⟩;unfold u8 BO;rw[t5,if_pos (show [dI s].length=1 from rfl)];show sg (pM _ _ [some (dI s),none,none,none] L)=_;have s1:pX wd (pJ 1) [some (dI s),none,none,none] L=some (.nx,[some (dI s),some (.ref L.length),none,none],L++[some (.dK [])]):=rfl;have hi:Ct (be 0) [some (dI s),some (.ref L.length),none,none] (L++[some (.dK [])])=some (((List.range s.length).map fun i:Nat=>D.tup [.int (i:Int),.int (s.getD i 0)],none),L++[some (.dK [])]):=by
   have he:vc (s.map D.int)=(List.range s.length).map fun i:Nat=>D.tup [.int (i:Int),.int (s.getD i 0)]:=by
    apply List.ext_getElem?;intro i;by_cases hi:i<s.length
    ·simp[vc,hi]
    ·simp[vc];rw[List.getElem?_eq_none (by simpa using hi),List.getElem?_eq_none (by simpa using hi)];rfl
   show some ((vc (s.map D.int),none),_)=_;rw[he]
  rw[sk,s1,vX,sk,wb,hi,wG,e,vX,xt];have hv:v1 Ar (be 1) [some (dI s),some (.ref L.length),o2,o3] Z5=some (.lst (gs.map fun g:Gp=>D.ref g.2.1),Z5):=by
   rw[e_1 (x:=.ref L.length) (Z4:=Z5) rfl];unfold Ar;simp only[rl,G1.dic,bs,Wb];rfl
  rw[hv];rfl
 ·rintro j x O Z4 hx ⟨gs,o2,o3,rfl,G1,hst,hl,hlt,gr⟩;rw[WY] at hst hl hlt;have hj:j<s.length:=by
   have:=(Vw.mp hx).1;simpa using this
  rw[VR,List.getElem?_range hj] at hx;simp at hx;subst hx;obtain⟨gs',Z3,e,G2,hst2,hold,hlen⟩:=S0 (d:=dI s) (t:=(j:Int)) (k:=s.getD j 0) G1 gr.len (by omega) (fun g hg=>by have:=hlt g hg;omega);have hsj:s[j]?=some (s.getD j 0):=by rw[VD,VA hj];rfl
  have hgrp:grp (s.take (j+1))=sG (grp (s.take j)) (s.getD j 0) (j:Int):=by
   rw[List.take_succ,hsj];show vW 0 (s.take j++[s.getD j 0]) []=_;rw[Kx];have:(s.take j).length=j:=by rw[Wz];omega
   rw[this,WY];rfl
  refine⟨[some (dI s),some (.ref L.length),some (.int (j:Int)),some (.int (s.getD j 0))],Z4,_,Z3,?_,e,trivial,gs',_,_,rfl,G2,?_,?_,?_,?_⟩
  ·simp
  ·rw[WY,hst2,hst,hgrp]
  ·have:gs'.length=(sG (rN gs) (s.getD j 0) (j:Int)).length:=by rw[←hst2];simp[rN]
   have h2:=Qi (rN gs) (s.getD j 0) (j:Int);have:(rN gs).length=gs.length:=by simp[rN]
   omega
  ·intro g hg;have hm:(g.1,g.2.2)∈sG (rN gs) (s.getD j 0) (j:Int):=by rw[←hst2];exact VW.mpr ⟨g,hg,rfl⟩
   have:=RE (m:=j) (fun x hx=>by
    obtain⟨y,hy,rfl⟩:=VW.mp hx;exact hlt y hy) _ hm
   have:g.2.2.length<=j+1:=this;omega
  ·exact⟨V0 gr.len hlen,fun i hi=>(hold i hi).trans (gr.at_ i hi)⟩
def qV(s:List Int):List Int:=match(grp s).find? fun g=>decide ((s.length:Int)<2*(g.2.length:Int)) with
 |some g=>g.2
 |none=>[]
def Oe:∀n<8,∀p∈Sx n n,qV p.1=((List.range n).filter fun t:Nat=>decide ((t:Int)∈qV p.1)).map fun t:Nat=>(t:Int):=by decide +kernel
abbrev u9:SV:=(sIf (vT (v2 fGt (v2 tF (vC (.int 2)) (v1 qy (be 1))) (v1 qy (be 0)))) (pT (be 1)) sNx)
theorem GH{s:List Int}{L:M}(hs:s.length<=500):∀(gs:List Gp) (o:Option D),(∀g∈gs,L[g.2.1]?=some (some (.lst (g.2.2.map D.int))))->(∀g∈gs,g.2.2.length<=1000)->
  (∀g,gs.find? (fun g=>decide ((s.length:Int)<2*(g.2.2.length:Int)))=some g->∃ZY,qB none (pJ 1) u9 (gs.map fun g:Gp=>D.ref g.2.1) [some (dI s),o] L=some (.rt (.ref g.2.1),ZY,L))/\
  (gs.find? (fun g=>decide ((s.length:Int)<2*(g.2.2.length:Int)))=none->∃o',qB none (pJ 1) u9 (gs.map fun g:Gp=>D.ref g.2.1) [some (dI s),o] L=some (.nx,[some (dI s),o'],L))
 | [],o,_,_=>⟨(fun g h=>by cases h),fun _=>⟨o,rfl⟩⟩
 |g::gs,o,h,hl=>by
  have h0:=h g (by simp);have hl0:=hl g (by simp);obtain⟨i1,i2⟩:=GH (s:=s) hs gs (some (.ref g.2.1)) (fun x hx=>h x (by simp[hx])) (fun x hx=>hl x (by simp[hx]));have hg:pJ 1 (.ref g.2.1) [some (dI s),o] L=some ([some (dI s),some (.ref g.2.1)],L):=rfl;have t:vT (v2 fGt (v2 tF (vC (.int 2)) (v1 qy (be 1))) (v1 qy (be 0))) [some (dI s),some (.ref g.2.1)] L=some (decide ((s.length:Int)<2*(g.2.2.length:Int)),L):=by
   have a1:v1 qy (be 1) [some (dI s),some (.ref g.2.1)] L=some (.int (g.2.2.length:Int),L):=by
    rw[e_1 (x:=.ref g.2.1) (Z4:=L) rfl,OY h0];simp
   have a2:v1 qy (be 0) [some (dI s),some (.ref g.2.1)] L=some (.int (s.length:Int),L):=by
    rw[e_1 (x:=dI s) (Z4:=L) rfl];simp[dI,qy,qE]
   have a3:v2 tF (vC (.int 2)) (v1 qy (be 1)) [some (dI s),some (.ref g.2.1)] L=some (.int (2*(g.2.2.length:Int)),L):=by
    rw[e_2 (x:=.int 2) (Z4:=L) (y:=.int (g.2.2.length:Int)) (Z3:=L) rfl a1];have hc:CMul 2 (g.2.2.length:Int):=.inl ⟨by decide,by decide⟩;simp only[tF,if_pos hc]
   rw[Jx,e_2 a3 a2];rfl
  rw[VJ];cases hb:decide ((s.length:Int)<2*(g.2.2.length:Int)) with
  |true=>
   rw[hb] at t;have hbd:u9 [some (dI s),some (.ref g.2.1)] L=some (.rt (.ref g.2.1),[some (dI s),some (.ref g.2.1)],L):=by
    unfold u9;rw[vU,t];rfl
   refine⟨fun g' h=>?_,fun h=>by cases h⟩;cases h;refine⟨[some (dI s),some (.ref g.2.1)],?_⟩;rw[VB];simp only[qB,hg,bs,hbd]
  |false=>
   rw[hb] at t;have hbd:u9 [some (dI s),some (.ref g.2.1)] L=some (.nx,[some (dI s),some (.ref g.2.1)],L):=by
    unfold u9;rw[vU,t];rfl
   have step:qB none (pJ 1) u9 ((g::gs).map fun g:Gp=>D.ref g.2.1) [some (dI s),o] L=qB none (pJ 1) u9 (gs.map fun g:Gp=>D.ref g.2.1) [some (dI s),some (.ref g.2.1)] L:=by
    rw[VB];simp only[qB,hg,bs,hbd,uO]
   rw[step];exact⟨i1,i2⟩
theorem LH{s:List Int}{gs:List Gp}(hst:rN gs=grp s):qV s=match gs.find? (fun g=>decide ((s.length:Int)<2*(g.2.2.length:Int))) with
  |some g=>g.2.2
  |none=>[]:=by
 unfold qV;rw[←hst];unfold rN;rw[List.find?_map];simp only[Function.comp_def];cases gs.find? fun g=>decide ((s.length:Int)<2*(g.2.2.length:Int))<;>rfl
abbrev wa:C0:=yO u8
def Ve{s:List Int}{L:M}(hs:s.length<=500):∃d Z5,wa [dI s] L=some (d,Z5)/\Ls Z5 d ((qV s).map D.int)/\Gr L Z5:=by
 obtain⟨b,gs,Z4,e,G1,hst,gr⟩:=Uj (L:=L) hs;obtain⟨l1,l2⟩:=GH (s:=s) (L:=Z4) hs gs none G1.at_ G1.len;have hi:ivL (vL u8 (pG (be 0) pI)) [some (dI s),none] L=some ((gs.map fun g:Gp=>D.ref g.2.1,none),Z4):=by
  have:vL u8 (pG (be 0) pI) [some (dI s),none] L=some (.lst (gs.map fun g:Gp=>D.ref g.2.1),Z4):=e;unfold ivL;rw[this];rfl
 have hm:=LH hst;cases hf:gs.find? (fun g=>decide ((s.length:Int)<2*(g.2.2.length:Int))) with
 |some g=>
  rw[hf] at hm;obtain⟨ZY,e2⟩:=l1 g hf;refine⟨.ref g.2.1,Z4,?_,?_,gr⟩
  ·unfold wa yO AM;rw[t5,if_pos (show [dI s].length=1 from rfl)];show sg (pM _ _ [some (dI s),none] L)=_;rw[sk,wb,hi,wG,e2];rfl
  ·rw[hm];exact .ref (G1.at_ g (List.mem_of_find?_eq_some hf))
 |none=>
  rw[hf] at hm;obtain⟨o',e2⟩:=l2 hf;refine⟨.lst [],Z4,?_,by rw[hm];exact .lst,gr⟩;unfold wa yO AM;rw[t5,if_pos (show [dI s].length=1 from rfl)];show sg (pM _ _ [some (dI s),none] L)=_;rw[sk,wb,hi,wG,e2];rfl
def dE(x:Option Int):D:=match x with
 |some t=>.tup [.str "one",.int t]
 |none=>.tup [.str "none"]
def hE(s:List Int):List (Option Int):=if qV s=[] then [none] else(qV s).map some
abbrev tG:C0:=z8 wa
def GQ{s:List Int}{L:M}(hs:s.length<=500)(hl:(qV s).length<=1000):∃Z5,tG [dI s] L=some (.lst ((hE s).map dE),Z5)/\Gr L Z5:=by
 obtain⟨d,Z4,e,hL,g⟩:=Ve (L:=L) hs;refine⟨Z4,?_,g⟩;have s1:pX (vL wa (pG (be 0) pI)) (pJ 1) [some (dI s),none] L=some (.nx,[some (dI s),some d],Z4):=by
  have:vL wa (pG (be 0) pI) [some (dI s),none] L=some (d,Z4):=e;rw[Ci,this];rfl
 have t:qS (be 1) [some (dI s),some d] Z4=some (!decide (qV s=[]),Z4):=by
  rw[KK];show yJ (some (d,Z4))=_;rcases Bu hL with⟨k,rfl,hk⟩|rfl|rfl
  ·simp only[yJ];cases hm:qV s with
   |nil=>rw[hm] at hk;simp[tru,hk,kTr]
   |cons a r=>rw[hm] at hk;simp[tru,hk,kTr]
  ·cases hm:qV s with
   |nil=>rfl
   |cons a r=>rfl
  ·cases hm:qV s with
   |nil=>rfl
   |cons a r=>rfl
 obtain⟨c,hi,hck,_⟩:=hL.iv (O:=[some (dI s),some d]) (i:=1) rfl;have c2:qO ["thing"] [] (ivL (be 1)) (pJ 0) pY (vL p9 (pG (vC (.str "one")) (pG (be 0) pI))) [some (dI s),some d] Z4=some (.lst ((qV s).map fun t=>dE (some t)),Z4):=
  Dv (l:=qV s) (dn:=D.int) (c:=c) (pU:=[]) hi (by omega) hck rfl fun t _=>rfl
 unfold tG z8 DG;rw[t5,if_pos (show [dI s].length=1 from rfl)];show sg (pM _ _ [some (dI s),none] L)=_;rw[sk,s1,vX,xt];unfold hE;by_cases h0:qV s=[]
 ·rw[if_pos h0];rw[VX h0] at t;have:vIf (qS (be 1)) (qO ["thing"] [] (ivL (be 1)) (pJ 0) pY (vL p9 (pG (vC (.str "one")) (pG (be 0) pI)))) (vL qo (pG (vL p9 (pG (vC (.str "none")) pI)) pI)) [some (dI s),some d] Z4=some (.lst ([none].map dE),Z4):=by
   rw[HD,t];rfl
  rw[this];rfl
 ·rw[if_neg h0];rw[VG h0] at t;have:vIf (qS (be 1)) (qO ["thing"] [] (ivL (be 1)) (pJ 0) pY (vL p9 (pG (vC (.str "one")) (pG (be 0) pI)))) (vL qo (pG (vL p9 (pG (vC (.str "none")) pI)) pI)) [some (dI s),some d] Z4=some (.lst (((qV s).map some).map dE),Z4):=by
   rw[HD,t];show qO _ _ _ _ _ _ _ Z4=_;rw[c2,Wb];rfl
  rw[this];rfl
def so1:PyData.strOk "one"=true:=by decide +kernel
def so2:PyData.strOk "none"=true:=by decide +kernel
def pE(x:Option Int):PyData:=match x with
 |some t=>.tuple [.str "one",.int t]
 |none=>.tuple [.str "none"]
def yT{L:M}(x:Option Int):py 65 L (dE x)=some (pE x):=by cases x<;>rfl
def BT(x:Option Int):(pE x).canLay0=true:=by cases x<;>simp[pE,PyData.canLay0,PyData.canLayAll0,so1,so2]
def Gw(x:Option Int):(pE x).depth<=60:=by cases x<;>simp[pE,PyData.depth,PyData.depthAll]
def RF(x y:Option Int):PyData.eqv (pE x) (pE y)=decide (x=y):=by
 rw[WW];cases x<;>cases y<;>simp[pE,PyData.eqv,PyData.eqvAll]
theorem Ka:∀l:List (Option Int),PyData.canLayAll0 (l.map pE)=true
 | []=>rfl
 |x::l=>by simp[PyData.canLayAll0,BT x,Ka l]
def FH{L:M}(x:Option Int)(l:List (Option Int)):uP false (dE x) (.lst (l.map dE)) L=some (.bl (decide (x∈l)),L):=by
 have h1:qd (py 65 L) (l.map dE)=some (l.map pE):=vh fun x _=>yT x;have h4:decide ((pE x).depth<=60)=true:=VX (Gw x);have h5:(l.map pE).any (fun e=>PyData.eqv e (pE x))=decide (x∈l):=by
  rw[WW,List.any_map,WN];simp only[Function.comp,Wr,RF];constructor
  ·rintro⟨y,hy,rfl⟩;exact hy
  ·intro h;exact⟨x,h,rfl⟩
 unfold uP;rw[if_neg (by simp)];simp only[qE,bs,h1,yT,Ka,BT,h4,Bool.and_self,if_true,h5]
def sI(ss:List (List Int)):Option (Option Int):=(hE (ss.getD 0 [])).find? fun t=>ss.all fun s=>decide (t∈hE s)
def dEs(ss:List (List Int)):D:=.lst (ss.map fun s=>.lst ((hE s).map dE))
abbrev vH:SV:=(sIf (qS (v1 uf (qO ["others"] [("end",1)] (ivL (be 0)) (pJ 0) pY (v2 (uP false) (be 1) (be 0)))))
    (pT (be 1))
    sNx)
theorem EO{ss:List (List Int)}{L:M}(hl:ss.length<=1000000):∀(l:List (Option Int)) (o:Option D),
  (∀t,l.find? (fun t=>ss.all fun s=>decide (t∈hE s))=some t->∃ZY,qB none (pJ 1) vH (l.map dE) [some (dEs ss),o] L=some (.rt (dE t),ZY,L))/\
  (l.find? (fun t=>ss.all fun s=>decide (t∈hE s))=none->∃o',qB none (pJ 1) vH (l.map dE) [some (dEs ss),o] L=some (.nx,[some (dEs ss),o'],L))
 | [],o=>⟨(fun t h=>by cases h),fun _=>⟨o,rfl⟩⟩
 |t::l,o=>by
  obtain⟨i1,i2⟩:=EO (ss:=ss) (L:=L) hl l (some (dE t));have hc:qO ["others"] [("end",1)] (ivL (be 0)) (pJ 0) pY (v2 (uP false) (be 1) (be 0)) [some (dEs ss),some (dE t)] L=some (.lst (ss.map fun s=>D.bl (decide (t∈hE s))),L):=
   Dv (l:=ss) (dn:=fun s=>D.lst ((hE s).map dE)) (c:=none) (pU:=[some (dE t)]) rfl hl trivial rfl fun s _=>by
    rw[e_2 (x:=dE t) (Z4:=L) (y:=.lst ((hE s).map dE)) (Z3:=L) rfl rfl];exact FH t (hE s)
  have ht:qS (v1 uf (qO ["others"] [("end",1)] (ivL (be 0)) (pJ 0) pY (v2 (uP false) (be 1) (be 0)))) [some (dEs ss),some (dE t)] L=some (ss.all fun s=>decide (t∈hE s),L):=by
   rw[KK,e_1 hc];have:ss.map (fun s=>D.bl (decide (t∈hE s)))=(ss.map fun s=>decide (t∈hE s)).map D.bl:=by simp
   rw[this];simp only[uf,qE,bs,Iu,List.all_map];rfl
  have hg:pJ 1 (dE t) [some (dEs ss),o] L=some ([some (dEs ss),some (dE t)],L):=rfl;rw[VJ];cases hb:ss.all fun s=>decide (t∈hE s) with
  |true=>
   rw[hb] at ht;have hbd:vH [some (dEs ss),some (dE t)] L=some (.rt (dE t),[some (dEs ss),some (dE t)],L):=by
    unfold vH;rw[vU,ht];rfl
   refine⟨fun t' h=>?_,fun h=>by cases h⟩;cases h;refine⟨[some (dEs ss),some (dE t)],?_⟩;rw[VB];simp only[qB,hg,bs,hbd]
  |false=>
   rw[hb] at ht;have hbd:vH [some (dEs ss),some (dE t)] L=some (.nx,[some (dEs ss),some (dE t)],L):=by
    unfold vH;rw[vU,ht];rfl
   have step:qB none (pJ 1) vH ((t::l).map dE) [some (dEs ss),o] L=qB none (pJ 1) vH (l.map dE) [some (dEs ss),some (dE t)] L:=by
    rw[VB];simp only[qB,hg,bs,hbd,uO]
   rw[step];exact⟨i1,i2⟩
def qw:D:=.gt [.str "open"]
def tT(o:Option (Option Int)):D:=match o with
 |some t=>dE t
 |none=>qw
def Op{ss:List (List Int)}{L:M}(hl:ss.length<=1000000)(h0:ss≠[]):uo qw [dEs ss] L=some (tT (sI ss),L):=by
 have hi:ivL (v2 fIx (be 0) (vC (.int 0))) [some (dEs ss),none] L=some (((hE (ss.getD 0 [])).map dE,none),L):=by
  cases ss with
  |nil=>exact absurd rfl h0
  |cons s ss=>
   have h1:v2 fIx (be 0) (vC (.int 0)) [some (dEs (s::ss)),none] L=some (.lst ((hE s).map dE),L):=by
    rw[e_2 (x:=dEs (s::ss)) (Z4:=L) (y:=.int 0) (Z3:=L) rfl rfl];simp only[fIx,dEs,qE];rw[show(0:Int)=((0:Nat):Int) from rfl,uX (j:=0) (v:=.lst ((hE s).map dE)) rfl];rfl
   unfold ivL;rw[h1];rfl
 obtain⟨l1,l2⟩:=EO (ss:=ss) (L:=L) hl (hE (ss.getD 0 [])) none;unfold uo Ad;rw[t5,if_pos (show [dEs ss].length=1 from rfl)];show sg (pM _ _ [some (dEs ss),none] L)=_;rw[sk,wb,hi,wG];cases hc:sI ss with
 |some t=>
  obtain⟨ZY,e⟩:=l1 t hc;rw[e];rfl
 |none=>
  obtain⟨o',e⟩:=l2 hc;rw[e];rfl
def Q2{n:Nat}(hn:n<=7){s:List Int}(hs:s∈(Sx n n).map (·.1)):qV s=((List.range n).filter fun t:Nat=>decide ((t:Int)∈qV s)).map fun t:Nat=>(t:Int):=by
 obtain⟨p,hp,rfl⟩:=VW.mp hs;exact Oe n (by omega) p hp
def Pq{n:Nat}(hn:n<=7){s:List Int}(hs:s∈(Sx n n).map (·.1)):(qV s).length<=n:=by
 rw[Q2 hn hs,VF];have:=WQ (fun t:Nat=>decide ((t:Int)∈qV s)) (List.range n);simpa using this
section
variable {C CF CT:Addr} {n:Nat} {d:D} {as:List An} {L:M}
abbrev za(C CF CT:Addr):FX:=DS (uo qw) tG (x3 C CF CT)
theorem EU{n:Nat}(hn:n<=7):∀(l:List (List Int)) (o:Option D) (L:M),(∀s∈l,s∈(Sx n n).map (·.1))->
  ∃Z5,qF none (pJ 0) pY (vL tG (pG (be 0) pI)) (l.map dI) [o] L=some (l.map fun s=>.lst ((hE s).map dE),Z5)/\Gr L Z5
 | [],o,L,_=>⟨L,rfl,.refl⟩
 |s::l,o,L,h=>by
  have hs:=h s (by simp);have h1:=J6 hs;have h2:=Pq hn hs;obtain⟨Z4,e1,g1⟩:=GQ (s:=s) (L:=L) (by omega) (by omega);obtain⟨Z3,e2,g2⟩:=EU hn l (some (dI s)) Z4 (fun x hx=>h x (by simp[hx]));refine⟨Z3,?_,g1.trans g2⟩;have hg:pJ 0 (dI s) [o] L=some ([some (dI s)],L):=rfl;have hv:vL tG (pG (be 0) pI) [some (dI s)] L=some (.lst ((hE s).map dE),Z4):=e1;rw[VB];simp only[qF,hg,bs];show(pY _ _).bind _=_;simp only[pY,bs,if_true,hv,uO];rw[e2];rfl
theorem TB{s:List Int}(h:s∈qv n as):s∈(Sx n n).map (·.1):=(VU.mp h).1
theorem OW(hn:n<=7):(qv n as).length<=1000:=by
 have h1:=WQ (fun s=>tK s as) ((Sx n n).map (·.1));have:=zr hn n;unfold qv;rw[VF] at h1;omega
theorem QQ(hl:Ls L d (as.map dA))(hv:Ok2 n as)(hs:as.length<=1000)(hn:n<=7)(hf:qv n as≠[]):∃Z5,za C CF CT [.int (n:Int),d] L=some (.ok (tT (sI (qv n as))),Z5)/\Gr L Z5:=by
 have hc:qj as=true:=by
  cases h:qj as with
  |true=>rfl
  |false=>exact absurd ((DX hv.inN).mpr h) hf
 obtain⟨Z4,e1,g1⟩:=Qx (C:=C) (CF:=CF) (CT:=CT) hl hv hs hn hc;obtain⟨Z3,e2,g2⟩:=EU hn (qv n as) none Z4 (fun s h=>TB h);refine⟨Z3,?_,g1.trans g2⟩;have hlen:=OW (as:=as) hn;refine zQ (ZX:=[some (.int (n:Int)),some d]) rfl ?_;unfold Bx;show vz _ [some (.int (n:Int)),some d] L=_;have ec:wk ["sort"] [] (vLX (x3 C CF CT) (upL (pG (be 0) (pG (be 1) pI)))) (pJ 0) pY (vL tG (pG (be 0) pI)) [some (.int (n:Int)),some d] L=some (.ok (dEs (qv n as)),Z3):=by
  have ea:vLX (x3 C CF CT) (upL (pG (be 0) (pG (be 1) pI))) [some (.int (n:Int)),some d] L=some (.ok (.lst ((qv n as).map dI)),Z4):=by
   rw[xQ (ds:=[.int (n:Int),d]) (Z4:=L) (zg rfl)];exact e1
  unfold wk;rw[ea];show(if((qv n as).map dI).length<=1000000 then _ else _)=_;rw[if_pos (by simp;omega)];have hcap:qt (["sort"]:List Str) [] [some (.int (n:Int)),some d]=[none]:=rfl;show(qF none (pJ 0) pY (vL tG (pG (be 0) pI)) ((qv n as).map dI) (qt ["sort"] [] [some (.int (n:Int)),some d]) Z4).bind _=_;rw[hcap,e2];rfl
 have el:Ao (wk ["sort"] [] (vLX (x3 C CF CT) (upL (pG (be 0) (pG (be 1) pI)))) (pJ 0) pY (vL tG (pG (be 0) pI))) (upL pI) [some (.int (n:Int)),some d] L=some (.ok [dEs (qv n as)],Z3):=by
  unfold Ao;rw[ec];rfl
 refine Fq ?_;rw[xQ el];show(upF (uo qw)) _ _=_;have hco:=Op (ss:=qv n as) (L:=Z3) (by omega) hf;unfold upF;rw[hco];rfl
end
def Bl{J:Type}{r:Option (J×M)}{a:J}{Z5:M}(h:Wp r fun d m=>d=a/\m=Z5):r=some (a,Z5):=by
 obtain⟨d,m,e,rfl,rfl⟩:=h;exact e
def dP(p:Nat×Nat):D:=.tup [.int (p.1:Int),.int (p.2:Int)]
theorem ES{β:Type}{g:GV}{te:EV}{dm:β->D}{val:β->D}(Qv:G->Prop){L:M}:∀(l:List β) (O:G),Qv O->(∀b∈l,∀O,Qv O->∃ZX,g (dm b) O L=some (ZX,L)/\te ZX L=some (val b,L)/\Qv ZX)->
  ∃ZY,t8 none g pY te (l.map dm) O L=some (l.map val,ZY,L)/\Qv ZY
 | [],O,h,_=>⟨O,rfl,h⟩
 |b::l,O,h,hs=>by
  obtain⟨ZX,e1,e2,h1⟩:=hs b (by simp) O h;obtain⟨ZY,e3,h3⟩:=ES Qv l ZX h1 fun b hb=>hs b (by simp[hb]);refine⟨ZY,?_,h3⟩;rw[VB];simp only[t8,e1,bs,pY,if_true,e2,uO,e3];rfl
theorem Ez{J β:Type}{g g2:GV}{iv2:IV}{te:EV}{dn:J->D}{dm:β->D}{inn:J->List β}{val:J->β->D}(Pv:G->Prop)(Qv:J->G->Prop){L:M}(hPQ:∀a O,Qv a O->Pv O):∀(l:List J) (O:G),Pv O->
  (∀a∈l,∀O,Pv O->∃ZX,g (dn a) O L=some (ZX,L)/\iv2 ZX L=some (((inn a).map dm,none),L)/\Qv a ZX)->
  (∀a∈l,∀b∈inn a,∀O,Qv a O->∃ZX,g2 (dm b) O L=some (ZX,L)/\te ZX L=some (val a b,L)/\Qv a ZX)->
  su none g pY iv2 g2 pY te (l.map dn) O L=some (l.flatMap fun a=>(inn a).map (val a),L)
 | [],O,_,_,_=>rfl
 |a::l,O,h,hs,hi=>by
  obtain⟨ZX,e1,e2,h1⟩:=hs a (by simp) O h;obtain⟨ZT,e3,h2⟩:=ES (Qv a) (inn a) ZX h1 (hi a (by simp));have ih:=Ez (dm:=dm) (val:=val) Pv Qv hPQ l ZT (hPQ a _ h2) (fun a ha=>hs a (by simp[ha])) fun a ha=>hi a (by simp[ha]);rw[VB];simp only[su,e1,bs,pY,if_true,e2,e3,uO];have ih':su none g (fun _ L=>some (true,L)) iv2 g2 (fun _ L=>some (true,L)) te (l.map dn) ZT L=some (l.flatMap fun a=>(inn a).map (val a),L):=ih;rw[show(pY:BV)=fun _ L=>some (true,L) from rfl] at*;rw[ih'];rfl
def prs(n:Nat):List (Nat×Nat):=(List.range n).flatMap fun i=>(List.range (n - (i+1))).map fun j=>(i,i+1+j)
def zG{n:Nat}{L:M}(hn:n<=100):vJ [.int (n:Int)] L=some (.lst ((prs n).map dP),L):=by
 unfold vJ B7;rw[t5,if_pos (show [D.int (n:Int)].length=1 from rfl)];show sg (pT _ [some (.int (n:Int))] L)=_;have hb:(-1000000000:Int)<=(n:Int)/\(n:Int)<=1000000000:=by omega
 have hr:ivR (be 0) [some (.int (n:Int))] L=some (((List.range n).map fun i:Nat=>D.int (i:Int),none),L):=by
  simp[hb,qq]
 have hc:=Ez (g:=pJ 0) (g2:=pJ 1) (iv2:=yF (v2 qi (be 0) (vC (.int 1))) (be 2)) (te:=vL p9 (pG (be 0) (pG (be 1) pI))) (dn:=fun i:Nat=>D.int (i:Int)) (dm:=fun j:Nat=>D.int (j:Int)) (inn:=fun i=>(List.range (n - (i+1))).map fun j=>i+1+j) (val:=fun i j=>dP (i,j))
  (fun O=>∃a b,O=[a,b,some (.int (n:Int))]) (fun i O=>∃b,O=[some (.int (i:Int)),b,some (.int (n:Int))]) (L:=L) (fun i O ⟨b,e⟩=>⟨_,_,e⟩) (List.range n) [none,none,some (.int (n:Int))] ⟨_,_,rfl⟩ ?_ ?_
 ·have hcap:qt (["i","j"]:List Str) [("many",0)] [some (.int (n:Int))]=[none,none,some (.int (n:Int))]:=rfl;have hlen:((List.range n).flatMap fun i=>((List.range (n - (i+1))).map fun j=>i+1+j).map (fun j=>dP (i,j))).length<=1000000:=by
   rw[List.length_flatMap];have:∀(l:List Nat),(l.map fun i=>(((List.range (n - (i+1))).map fun j=>i+1+j).map (fun j=>dP (i,j))).length).sum<=l.length*n:=by
    intro l;induction l with
    |nil=>simp
    |cons x l ih=>simp only[VB,List.sum_cons,VF,WH,VY] at ih⊢;rw[Nat.add_mul];omega
   have:=this (List.range n);rw[WH] at this;have h2:n*n<=100*100:=Nat.mul_le_mul hn hn;omega
  have e:((List.range n).flatMap fun i=>((List.range (n - (i+1))).map fun j=>i+1+j).map (fun j=>dP (i,j)))=(prs n).map dP:=by
   unfold prs;rw[List.map_flatMap];congr 1;funext i;rw[Wb,Wb];rfl
  rw[xt,G5,hr,Jj,hcap,hc,HB,if_pos hlen,e];rfl
 ·rintro i hi O ⟨a,b,rfl⟩;rw[Wh] at hi;refine⟨[some (.int (i:Int)),b,some (.int (n:Int))],rfl,?_,⟨_,rfl⟩⟩;have hv:v2 qi (be 0) (vC (.int 1)) [some (.int (i:Int)),b,some (.int (n:Int))] L=some (.int ((i:Int)+1),L):=rfl;have hv2:be 2 [some (.int (i:Int)),b,some (.int (n:Int))] L=some (.int (n:Int),L):=rfl;have hbb:((-1000000000:Int)<=(i:Int)+1/\(i:Int)+1<=1000000000)/\-1000000000<=(n:Int)/\(n:Int)<=1000000000:=by omega
  rw[NB,hv,SS,hv2,RW,if_pos hbb];have e2:((n:Int) - ((i:Int)+1)).toNat=n - (i+1):=by omega
  rw[e2];unfold qq;rw[Wb];congr 4
 ·rintro i hi j hj O ⟨b,rfl⟩;exact⟨[some (.int (i:Int)),some (.int (j:Int)),some (.int (n:Int))],rfl,rfl,⟨_,rfl⟩⟩
theorem xP{J:Type}{c:Ck}{g:GV}{tc:BV}{te:EV}{dn:J->D}{keep:J->Bool}{val:J->D}(Pv:G->Prop){L:M}{O:G}(hc:p8 c L)(l:List J)(h0:Pv O)
  (hs:∀a∈l,∀O,Pv O->Wp (g (dn a) O L) fun ZX Z4=>Z4=L/\Pv ZX/\Wp (tc ZX L) fun b Z3=>b=keep a/\Z3=L/\(keep a=true->Wp (te ZX L) fun x ZN=>x=val a/\ZN=L)) {R:List D->M->Prop} (hR:R ((l.filter keep).map val) L):Wp (qF c g tc te (l.map dn) O L) R:=by
 refine comp_inv (fun done r O Z5=>∃i,i<=l.length/\Z5=L/\Pv O/\r=(l.drop i).map dn/\done=((l.take i).filter keep).map val) _ ⟨0,by omega,rfl,h0,rfl,rfl⟩ ?_ ?_
 ·rintro done d r O Z5 ⟨i,hi,rfl,hp,e,rfl⟩;have hi':i<l.length:=by
   rcases Nat.lt_or_ge i l.length with z|z
   ·exact z
   ·rw[Wl z] at e;cases e
  rw[V8 hi',VB] at e;cases e;have ht:l.take (i+1)=l.take i++[l[i]]:=by rw[List.take_append_getElem hi']
  refine(hs l[i] (V5 hi') O hp).imp fun ZX Z4 ⟨e,hp1,h⟩=>?_;subst e;refine h.imp fun b Z3 ⟨e1,e2,h⟩=>?_;subst e1;subst e2;cases hk:keep l[i] with
  |true=>
   show Wp _ _;refine(h hk).imp fun x ZN ⟨e1,e2⟩=>?_;subst e1;subst e2;refine⟨hc,i+1,hi',rfl,hp1,rfl,?_⟩;rw[ht,List.filter_append,WX];simp[hk]
  |false=>
   show p8 c _/\_;refine⟨hc,i+1,hi',rfl,hp1,rfl,?_⟩;rw[ht,List.filter_append,WX];simp[hk]
 ·rintro done O Z5 ⟨i,hi,rfl,_,e,rfl⟩;have:l.length<=i:=by
   have:=congrArg List.length e;simp at this;omega
  rw[List.take_of_length_le this];exact hR
def Ib{L:M}(l:List Bool):uf (.lst (l.map D.bl)) L=some (.bl (l.all id),L):=by
 have:qd inB (l.map D.bl)=some l:=by
  have:=vh (f:=inB) (g:=D.bl) (h:=id) (l:=l) (fun x _=>rfl);simpa using this
 unfold uf;show(qd inB (l.map D.bl)).bind _=_;rw[this];rfl
def uk{a b:List D}{L:M}(h:a.length+b.length<=1000000):qi (.lst a) (.lst b) L=some (.lst (a++b),L):=if_pos h
def Be{ds:List D}{j:Nat}{v:D}{L:M}(h:ds[j]?=some v):fIx (.lst ds) (.int (j:Int)) L=some (v,L):=by
 show(atI ds (j:Int)).bind _=_;rw[uX h];rfl
def Pap:Nat->Type
 |0=>Unit
 |k+1=>List (Bool×Pap k)
def dPp:(k:Nat)->Pap k->D
 |0,_=>.tup []
 |k+1,(rows:List (Bool×Pap k))=>.lst (rows.map fun r=>.tup [.bl r.1,dPp k r.2])
def Sh(n:Nat):(k:Nat)->Pap k->Prop
 |0,_=>True
 |k+1,(rows:List (Bool×Pap k))=>rows.length=(prs n).length/\∀r∈rows,Sh n k r.2
def v7(n:Nat):(k:Nat)->List An->Pap k->Bool
 |0,as,_=>qj as&&(sI (qv n as)).isNone
 |k+1,as,(rows:List (Bool×Pap k))=>qj as&&((prs n).zip rows).all fun x=>v7 n k (as++[(x.1.1,x.1.2,x.2.1)]) x.2.2
def dR(k:Nat)(r:Bool×Pap k):D:=.tup [.bl r.1,dPp k r.2]
def Ba{k:Nat}(rows:List (Bool×Pap k)):dPp (k+1) rows=.lst (rows.map (dR k)):=rfl
def G8{n:Nat}{p:Nat×Nat}(h:p∈prs n):p.1<n/\p.2<n/\p.1≠p.2:=by
 unfold prs at h;obtain⟨i,hi,h⟩:=List.mem_flatMap.mp h;obtain⟨j,hj,rfl⟩:=VW.mp h;have h1:=Wh.mp hi;have h2:=Wh.mp hj;refine⟨h1,?_,?_⟩<;>simp<;>omega
theorem wpA:type_of%(And.intro @Dx (And.intro @BW (And.intro @KP (And.intro @Jv (And.intro @IC (And.intro @Jp (And.intro @Fc (And.intro @GP (And.intro @Ho (And.intro @Fm (And.intro @IQ (And.intro @Es (And.intro @HJ (And.intro @J9 (And.intro @Le (And.intro @w_c (And.intro @FE (And.intro @G9 (And.intro @w_T (And.intro @FL (And.intro @EW (And.intro @GL (And.intro @K8 (And.intro @ER (And.intro @Fj (And.intro @El (And.intro @Fz (And.intro @Ja (And.intro @FZ (And.intro @FM (And.intro @Hk (And.intro @Hg (And.intro @EK (And.intro @q1_ (And.intro @q2_ (And.intro @Jl (And.intro @qL_ (And.intro @qc_ (And.intro @HZ (And.intro @qT_ (And.intro @HP (And.intro @FC (And.intro @Hr (And.intro @GI (And.intro @IE (And.intro @JM (And.intro @Hb (And.intro @EZ (And.intro @Jb (And.intro @J1 (And.intro @Iz (And.intro @G3 (And.intro @EL (And.intro @Eh (And.intro @E6 (And.intro @JY (And.intro @IX (And.intro @Kl (And.intro @FB (And.intro @Gu (And.intro @JA (And.intro @FV (And.intro @Er (And.intro @Em (And.intro @Jh (And.intro @JL (And.intro @Ep (And.intro @Jq (And.intro @Fi (And.intro @FN (And.intro @wp_some (And.intro @ws_some (And.intro @GM (And.intro @Gv (And.intro @Hz (And.intro @Lf (And.intro @JC (And.intro @Iq (And.intro @JE (And.intro @FS (And.intro @Hm (And.intro @Fu (And.intro @Ge (And.intro @Ik (And.intro @Fo (And.intro @ET (And.intro @E2 (And.intro @GK (And.intro @Fb (And.intro @Fs (And.intro @IJ (And.intro @Kc (And.intro @EH (And.intro @E1 (And.intro @Fd (And.intro @Kd (And.intro @K7 (And.intro @Iv (And.intro @EG (And.intro @Gq (And.intro @E8 (And.intro @K1 (And.intro @Kb (And.intro @KY (And.intro @JU (And.intro @KA (And.intro @Jg (And.intro @En (And.intro @HW (And.intro @E4 (And.intro @FW (And.intro @Fg (And.intro @Ks (And.intro @EQ (And.intro @EM (And.intro @GD (And.intro @J3 (And.intro @JJ (And.intro @KZ (And.intro @La (And.intro @GC (And.intro @HA (And.intro @Jf (And.intro @G6 (And.intro @Ky (And.intro @FK (And.intro @E3 (And.intro @J5 (And.intro @Ju (And.intro @Io (And.intro @Kt (And.intro @K9 (@wt_some))))))))))))))))))))))))))))))))))))))))))))))))))))))))))))))))))))))))))))))))))))))))))))))))))))))))))))))))))))))))))))))))))))):=And.intro @Dx (And.intro @BW (And.intro @KP (And.intro @Jv (And.intro @IC (And.intro @Jp (And.intro @Fc (And.intro @GP (And.intro @Ho (And.intro @Fm (And.intro @IQ (And.intro @Es (And.intro @HJ (And.intro @J9 (And.intro @Le (And.intro @w_c (And.intro @FE (And.intro @G9 (And.intro @w_T (And.intro @FL (And.intro @EW (And.intro @GL (And.intro @K8 (And.intro @ER (And.intro @Fj (And.intro @El (And.intro @Fz (And.intro @Ja (And.intro @FZ (And.intro @FM (And.intro @Hk (And.intro @Hg (And.intro @EK (And.intro @q1_ (And.intro @q2_ (And.intro @Jl (And.intro @qL_ (And.intro @qc_ (And.intro @HZ (And.intro @qT_ (And.intro @HP (And.intro @FC (And.intro @Hr (And.intro @GI (And.intro @IE (And.intro @JM (And.intro @Hb (And.intro @EZ (And.intro @Jb (And.intro @J1 (And.intro @Iz (And.intro @G3 (And.intro @EL (And.intro @Eh (And.intro @E6 (And.intro @JY (And.intro @IX (And.intro @Kl (And.intro @FB (And.intro @Gu (And.intro @JA (And.intro @FV (And.intro @Er (And.intro @Em (And.intro @Jh (And.intro @JL (And.intro @Ep (And.intro @Jq (And.intro @Fi (And.intro @FN (And.intro @wp_some (And.intro @ws_some (And.intro @GM (And.intro @Gv (And.intro @Hz (And.intro @Lf (And.intro @JC (And.intro @Iq (And.intro @JE (And.intro @FS (And.intro @Hm (And.intro @Fu (And.intro @Ge (And.intro @Ik (And.intro @Fo (And.intro @ET (And.intro @E2 (And.intro @GK (And.intro @Fb (And.intro @Fs (And.intro @IJ (And.intro @Kc (And.intro @EH (And.intro @E1 (And.intro @Fd (And.intro @Kd (And.intro @K7 (And.intro @Iv (And.intro @EG (And.intro @Gq (And.intro @E8 (And.intro @K1 (And.intro @Kb (And.intro @KY (And.intro @JU (And.intro @KA (And.intro @Jg (And.intro @En (And.intro @HW (And.intro @E4 (And.intro @FW (And.intro @Fg (And.intro @Ks (And.intro @EQ (And.intro @EM (And.intro @GD (And.intro @J3 (And.intro @JJ (And.intro @KZ (And.intro @La (And.intro @GC (And.intro @HA (And.intro @Jf (And.intro @G6 (And.intro @Ky (And.intro @FK (And.intro @E3 (And.intro @J5 (And.intro @Ju (And.intro @Io (And.intro @Kt (And.intro @K9 (@wt_some))))))))))))))))))))))))))))))))))))))))))))))))))))))))))))))))))))))))))))))))))))))))))))))))))))))))))))))))))))))))))))))))))))
local macro_rules | `(tactic| simp!)=>`(tactic| simp only [wpA,List.set_cons_zero,List.set_cons_succ])
local macro_rules | `(tactic| simp! [$ts,*])=>`(tactic| simp only [$ts,*,wpA,List.set_cons_zero,List.set_cons_succ])
section
variable {L:M} {n k:Nat} {C CF CT:Addr}
theorem EY(o:Option (Option Int)):fEq (tT o) qw L=some (.bl o.isNone,L):=by
 have h1:("open":Str)≠"none":=by decide +kernel
 have h2:PyData.strOk "open"=true:=by decide +kernel
 have po:py 65 L qw=some (.tuple [.str "open"]):=rfl;rcases o with _|_|i
 ·show(eqD qw qw L).bind _=_;have:eqD qw qw L=some true:=by
   show((py 65 L qw).bind fun d=>(py 65 L qw).bind fun e=>if(d.canLay0&&e.canLay0&&decide (d.depth<=64))=true then some (PyData.eqv d e) else none)=_;rw[po];simp[PyData.canLay0,PyData.canLayAll0,PyData.depth,PyData.depthAll,PyData.eqv,PyData.eqvAll,h2]
  rw[this];rfl
 ·show(eqD (dE none) qw L).bind _=_;have:eqD (dE none) qw L=some false:=by
   show((py 65 L (dE none)).bind fun d=>(py 65 L qw).bind fun e=>if(d.canLay0&&e.canLay0&&decide (d.depth<=64))=true then some (PyData.eqv d e) else none)=_;rw[po,yT];simp[pE,PyData.canLay0,PyData.canLayAll0,PyData.depth,PyData.depthAll,PyData.eqv,PyData.eqvAll,h2,so2,h1,h1.symm]
  rw[this];rfl
 ·show(eqD (dE (some i)) qw L).bind _=_;have:eqD (dE (some i)) qw L=some false:=by
   show((py 65 L (dE (some i))).bind fun d=>(py 65 L qw).bind fun e=>if(d.canLay0&&e.canLay0&&decide (d.depth<=64))=true then some (PyData.eqv d e) else none)=_;rw[po,yT];simp[pE,PyData.canLay0,PyData.canLayAll0,PyData.depth,PyData.depthAll,PyData.eqv,PyData.eqvAll,h2,so1]
  rw[this];rfl
def tyO:D->Bool
 | .ref _=>false
 | .scr _=>false
 | .gt _=>false
 |_=>true
def isT:D->Bool
 | .tup _=>true
 |_=>false
def isB:D->Bool
 | .bl _=>true
 |_=>false
def qY:D->Option (Bool×D)
 | .tup [.bl b,x]=>some (b,x)
 |_=>none
def Jy:D->Bool
 | .tup []=>true
 |_=>false
def lsD:D->Option (List D)
 | .lst ds=>some ds
 |_=>none
def rW(n:Nat)(d:D):Option (List (Bool×D)):=match lsD d with
 |none=>none
 |some ds=>if ds.length=(prs n).length then qd qY ds else none
def qZ(n:Nat):Nat->List An->D->Bool
 |0,as,d=>qj as&&(Jy d&&(sI (qv n as)).isNone)
 |k+1,as,d=>qj as&&match rW n d with
  |none=>false
  |some rows=>((prs n).zip rows).all fun x=>qZ n k (as++[(x.1.1,x.1.2,x.2.1)]) x.2.2
def Pl:Nat->D->Prop
 |0,d=>tyO d=true
 |k+1,d=>tyO d=true/\∀ds,d=.lst ds->ds.length<=1000/\∀r∈ds,tyO r=true/\∀xs,r=.tup xs->∀x∈xs,tyO x=true/\Pl k x
theorem Fh{r:D}(h:tyO r=true):ul "tuple" r L=some (.bl (isT r),L):=by cases r<;>first|rfl|cases h
theorem LY{r:D}(h:tyO r=true):ul "bool" r L=some (.bl (isB r),L):=by cases r<;>first|rfl|cases h
theorem Lm{r:D}(h:tyO r=true):ul "list" r L=some (.bl (lsD r).isSome,L):=by cases r<;>first|rfl|cases h
theorem Q3{r:D}(h1:tyO r=true)(h2:∀xs,r=.tup xs->∀x∈xs,tyO x=true):ur [r] L=some (.bl (qY r).isSome,L):=by
 apply Bl;unfold ur D4;refine(rA rfl).mpr ?_;show Ws (pT _ [some r] L) _;simp![Fh h1];cases ht:isT r with
 |false=>
  simp!;cases r<;>first|exact⟨rfl,trivial⟩|cases ht
 |true=>
  obtain⟨xs,rfl⟩:∃xs,r=.tup xs:=by cases r<;>first|exact⟨_,rfl⟩|cases ht
  have t2:qy (.tup xs) L=some (.int (xs.length:Int),L):=rfl;simp![t2];match xs with
  | []=>
   rw[VG (by simp)];simp!;exact⟨rfl,trivial⟩
  | [x]=>
   rw[VG (by simp)];simp!;exact⟨by simp[qY],trivial⟩
  |_::_::_::l=>
   rw[VG (by simp;omega)];simp!;refine⟨?_,trivial⟩;simp[qY]
  | [x,y]=>
   have t3:fIx (.tup [x,y]) (.int 0) L=some (x,L):=rfl;have t4:=LY (L:=L) (h2 _ rfl x (by simp));rw[VX (by simp)];simp![t3,t4];refine⟨?_,by first|trivial|rfl⟩;cases x<;>rfl
theorem Kg{f:D->Option (Bool×D)}:∀ds:List D,(ds.map fun r=>(f r).isSome).all id=(qd f ds).isSome
 | []=>rfl
 |d::ds=>by
  have ih:=Kg (f:=f) ds;rw[VB,List.all_cons,ih];simp only[qd];cases f d with
  |none=>rfl
  |some y=>cases qd f ds<;>rfl
theorem NV{d:D}{j:Nat}(hp:(prs n).length<=1000)(hd:Pl (j+1) d):va ur [.lst ((prs n).map dP),d] L=some (.bl (rW n d).isSome,L):=by
 apply Bl;unfold va At;refine(rA rfl).mpr ?_;show Ws (pT _ [some (.lst ((prs n).map dP)),some d] L) _;simp![Lm hd.1];cases hl:lsD d with
 |none=>
  simp![Option.isSome_none];unfold rW;rw[hl];exact⟨rfl,trivial⟩
 |some ds=>
  obtain rfl:d=.lst ds:=by cases d<;>first|(cases hl;rfl)|cases hl
  have t2:qy (.lst ds) L=some (.int (ds.length:Int),L):=rfl;have t3:qy (.lst ((prs n).map dP)) L=some (.int ((prs n).length:Int),L):=by
   show some (D.int (((prs n).map dP).length:Int),L)=_;simp
  simp![WA,t2,t3];have hr:rW n (.lst ds)=if ds.length=(prs n).length then qd qY ds else none:=rfl
  obtain⟨hds,hd2⟩:=hd.2 ds rfl;by_cases he:ds.length=(prs n).length
  ·rw[VX (by omega),hr,if_pos he];simp!;rw[ve];refine⟨by omega,?_⟩;have em:ds.map id=ds:=by simp
   rw[←em];refine xP (dn:=id) (keep:=fun _=>true) (val:=fun r=>D.bl (qY r).isSome) (fun O=>∃o,O=[o]) (show p8 none L from trivial) ds ⟨_,rfl⟩ ?_ ?_
   ·rintro r hr O ⟨o,rfl⟩;simp!;refine⟨trivial,⟨_,rfl⟩,trivial,trivial,fun _=>?_⟩;have:ur [id r] L=some (.bl (qY r).isSome,L):=Q3 (hd2 r hr).1 fun xs e x hx=>((hd2 r hr).2 xs e x hx).1;rw[this];simp!;exact⟨trivial,trivial⟩
   ·have ea:((ds.filter fun _=>true).map fun r=>D.bl (qY r).isSome)=(ds.map fun r=>(qY r).isSome).map D.bl:=by rw[List.filter_eq_self.mpr (by simp),Wb];rfl
    rw[ea];simp![Ib,Kg];rw[em];exact⟨by first|trivial|rfl,by first|trivial|rfl⟩
  ·rw[VG (by omega),hr,if_neg he];simp!;exact⟨rfl,trivial⟩
theorem Dw{J β:Type}{f:J->Option β}:∀{l:List J} {r:List β},qd f l=some r->r.length=l.length/\∀(q:Nat) (x:J),l[q]?=some x->∃y,f x=some y/\r[q]?=some y
 | [],r,h=>by cases h;exact⟨rfl,fun q x e=>by simp at e⟩
 |a::l,r,h=>by
  simp only[qd] at h;cases hf:f a with
  |none=>rw[hf] at h;cases h
  |some b=>
   rw[hf,bs] at h;cases hm:qd f l with
   |none=>rw[hm] at h;cases h
   |some q=>
    rw[hm,bs] at h;cases h;obtain⟨h1,h2⟩:=Dw hm;refine⟨by simp[h1],fun i x e=>?_⟩;cases i with
    |zero=>simp at e;subst e;exact⟨b,hf,rfl⟩
    |succ i=>exact h2 i x (by simpa using e)
def dXD(x:(Nat×Nat)×(Bool×D)):D:=.tup [dP x.1,.tup [.bl x.2.1,x.2.2]]
theorem HS{r:D}{y:Bool×D}(h:qY r=some y):r=.tup [.bl y.1,y.2]:=by
 unfold qY at h;split at h
 ·cases h;rfl
 ·cases h
theorem Hf:∀(ps:List (Nat×Nat)) (ds:List D) (rows:List (Bool×D)),qd qY ds=some rows->so (ps.map dP) ds=(ps.zip rows).map dXD
 | [],_,_,_=>by simp[so]
 |_::_,[],_,h=>by cases h;simp[so]
 |p::ps,d::ds,rows,h=>by
  simp only[qd] at h;cases hf:qY d with
  |none=>rw[hf] at h;cases h
  |some b=>
   rw[hf,bs] at h;cases hm:qd qY ds with
   |none=>rw[hm] at h;cases h
   |some q=>
    rw[hm,bs] at h;cases h;rw[HS hf];simp[so,dXD,Hf ps ds q hm]
theorem Mn{d:D}{rows:List (Bool×D)}(h:rW n d=some rows):∃ds,d=.lst ds/\ds.length=(prs n).length/\qd qY ds=some rows:=by
 unfold rW at h;cases hl:lsD d with
 |none=>rw[hl] at h;cases h
 |some ds=>
  rw[hl] at h;obtain rfl:d=.lst ds:=by cases d<;>first|(cases hl;rfl)|cases hl
  by_cases he:ds.length=(prs n).length
  ·simp only[if_pos he] at h;exact⟨ds,rfl,he,h⟩
  ·simp only[if_neg he] at h;cases h
def mmL(C CF CT:Addr):Nat->List D->M->Fr
 |0=>fun _ _=>none
 |m+1=>xu (dn (vA C)) (dn (za C CF CT)) vJ (va ur) (mmL C CF CT m) qw
theorem yg{as:List An}(hv:Ok2 n as)(hs:as.length<=1000):Wp (dn (vA C) [.int (n:Int),.lst (as.map dA)] L) fun d Z5=>d=.bl (qj as)/\Gr L Z5:=by
 obtain⟨Z5,e,g⟩:=E9 (C:=C) (L:=L) Ls.lst hv hs;exact yw ⟨_,_,e,_,rfl,rfl,g⟩
theorem IA{as:List An}(hv:Ok2 n as)(hs:as.length<=1000)(hn:n<=7)(hf:qv n as≠[]):Wp (dn (za C CF CT) [.int (n:Int),.lst (as.map dA)] L) fun d Z5=>d=tT (sI (qv n as))/\Gr L Z5:=by
 obtain⟨Z5,e,g⟩:=QQ (C:=C) (CF:=CF) (CT:=CT) (L:=L) Ls.lst hv hs hn hf;exact yw ⟨_,_,e,_,rfl,rfl,g⟩
theorem L8(hn:n<=7)(hp:(prs n).length<=1000):∀(k:Nat) (as:List An) (p:D) (L:M) (m:Nat),k<m->Ok2 n as->as.length+k<=100->Pl k p->Wp (mmL C CF CT m [.int (n:Int),.lst (as.map dA),.int (k:Int),p] L) fun d Z5=>d=.bl (qZ n k as p)/\Gr L Z5:=by
 intro k;induction k with
 |zero=>
  intro as p L m hm hv hl hpl;obtain⟨m,rfl⟩:∃j,m=j+1:=⟨m - 1,by omega⟩
  unfold mmL xu yE;refine(rA rfl).mpr ?_;show Ws (pM _ _ [some (.int (n:Int)),some (.lst (as.map dA)),some (.int ((0:Nat):Int)),some p,none,none,none,none,none] L) _;have e0:decide (((0:Nat):Int)<0)=false:=by simp
  have e1:decide (((0:Nat):Int)=0)=true:=by simp
  simp![e0];refine(yg hv (by omega)).imp ?_;rintro _ Z4 ⟨rfl,g1⟩;have hle:qZ n 0 as p=(qj as&&(Jy p&&(sI (qv n as)).isNone)):=rfl;cases hc:qj as with
  |false=>
   simp![Wc];rw[hle,hc];exact⟨rfl,g1⟩
  |true=>
   simp![VZ,e1,Fh hpl];cases ht:isT p with
   |false=>
    simp!;rw[hle,hc];refine⟨?_,g1⟩;cases p<;>first|rfl|cases ht
   |true=>
    obtain⟨xs,rfl⟩:∃xs,p=.tup xs:=by cases p<;>first|exact⟨_,rfl⟩|cases ht
    have t2:∀L:M,qy (.tup xs) L=some (.int (xs.length:Int),L):=fun _=>rfl;simp![t2];cases xs with
    |cons x xs=>
     rw[VG (by simp;omega)];simp!;rw[hle,hc];exact⟨rfl,g1⟩
    |nil=>
     rw[VX (by simp)];simp!;have hf:qv n as≠[]:=fun z=>by
      have:=(DX (n:=n) (as:=as) (hv.inN)).mp z;rw[hc] at this;cases this
     refine(IA hv (by omega) hn hf).imp ?_;rintro _ Z3 ⟨rfl,g2⟩;simp![EY];rw[hle,hc];exact⟨rfl,g1.trans g2⟩
 |succ k ih=>
  intro as p L m hm hv hl hpl;obtain⟨m,rfl⟩:∃j,m=j+1:=⟨m - 1,by omega⟩
  have hle:qZ n (k+1) as p=(qj as&&match rW n p with
   |none=>false
   |some rows=>((prs n).zip rows).all fun x=>qZ n k (as++[(x.1.1,x.1.2,x.2.1)]) x.2.2):=rfl
  generalize qZ n (k+1) as p=res at hle;unfold mmL xu yE;refine(rA rfl).mpr ?_;show Ws (pM _ _ [some (.int (n:Int)),some (.lst (as.map dA)),some (.int ((k+1:Nat):Int)),some p,none,none,none,none,none] L) _;have e0:decide (((k+1:Nat):Int)<0)=false:=by simp;omega
  have e1:decide (((k+1:Nat):Int)=0)=false:=by simp;omega
  simp![e0];refine(yg hv (by omega)).imp ?_;rintro _ Z4 ⟨rfl,g1⟩;cases hc:qj as with
  |false=>
   simp![Wc];rw[hle,hc];exact⟨rfl,g1⟩
  |true=>
   rw[hc,Bool.true_and] at hle;simp![VZ,e1,zG (show n<=100 by omega),NV hp hpl];cases hro:rW n p with
   |none=>
    rw[hro] at hle;simp![Option.isSome_none,Wc];rw[hle];exact⟨rfl,g1⟩
   |some rows=>
    rw[hro] at hle;simp![WA,VZ];obtain⟨ds,rfl,hdl,hop⟩:=Mn hro;have hz:ivZ (be 4) (be 3) [some (.int (n:Int)),some (.lst (as.map dA)),some (.int ((k+1:Nat):Int)),some (.lst ds),some (.lst ((prs n).map dP)),none,none,none,none] Z4=some ((((prs n).zip rows).map dXD,none),Z4):=by
     show some ((so ((prs n).map dP) ds,none),Z4)=_;rw[Hf _ _ _ hop]
    have hrs:∀x∈rows,Pl k x.2:=by
     intro x hx;obtain⟨q,hq,rfl⟩:=List.getElem_of_mem hx;obtain⟨o1,o2⟩:=Dw hop;have hq2:q<ds.length:=by omega
     obtain⟨y,hy1,hy2⟩:=o2 q ds[q] (VA hq2);rw[VA hq] at hy2;cases hy2;exact((((hpl.2 ds rfl).2 _ (V5 hq2)).2 _ (HS hy1)) _ (by simp)).2
    refine Aw hz ?_;simp!;refine uL (fun r O Z5=>Gr L Z5/\∃(l:List ((Nat×Nat)×(Bool×D))) (o5 o6 o7 o8:Option D),r=l.map dXD/\O=[some (.int (n:Int)),some (.lst (as.map dA)),some (.int ((k+1:Nat):Int)),some (.lst ds),some (.lst ((prs n).map dP)),o5,o6,o7,o8]/\(∀x∈l,x∈(prs n).zip rows)/\res=l.all fun x=>qZ n k (as++[(x.1.1,x.1.2,x.2.1)]) x.2.2) _ ⟨g1,_,_,_,_,_,rfl,rfl,fun x h=>h,hle⟩ ?_ ?_
    ·rintro d r O Z3 ⟨g2,l,o5,o6,o7,o8,hl2,rfl,hm2,hres⟩;cases l with
     |nil=>cases hl2
     |cons x l=>
      rw[VB] at hl2;injection hl2 with h1 h2
      subst h1 h2;have hx:=hm2 x (by simp);have hx1:=(List.of_mem_zip (a:=x.1) (b:=x.2) hx).1;have hx2:=(List.of_mem_zip (a:=x.1) (b:=x.2) hx).2;have ok:=G8 hx1;show Wp (qm 2 _ (.tup [dP x.1,.tup [.bl x.2.1,x.2.2]]) _ _) _;refine(wg rfl).mpr ?_;simp!;show Wp (qm 2 _ (.tup [.int (x.1.1:Int),.int (x.1.2:Int)]) _ _) _;refine(wg rfl).mpr ?_;simp!;show Wp (qm 2 _ (.tup [.bl x.2.1,x.2.2]) _ _) _;refine(wg rfl).mpr ?_;simp!;rw[qp (by simp)];simp!;rw[rR (by simp)];simp!;rw[uk (by simp;omega)];simp!;have ea:as.map dA++[D.tup [.int (x.1.1:Int),.int (x.1.2:Int),.bl x.2.1]]=(as++[(x.1.1,x.1.2,x.2.1)]).map dA:=by simp[dA]
      have ek:(((k+1:Nat):Int) - 1)=(k:Int):=by omega
      rw[ea,ek];have hv2:Ok2 n (as++[(x.1.1,x.1.2,x.2.1)]):=by
       intro a ha;rcases VQ.mp ha with h|h
       ·exact hv a h
       ·cases VO.mp h;exact ok
      refine(ih (as++[(x.1.1,x.1.2,x.2.1)]) x.2.2 Z3 m (by omega) hv2 (by simp;omega) (hrs x.2 hx2)).imp ?_;rintro _ ZN ⟨rfl,g3⟩;rw[List.all_cons] at hres;cases hb:qZ n k (as++[(x.1.1,x.1.2,x.2.1)]) x.2.2 with
      |false=>
       simp![Wc];rw[hres,hb];exact⟨rfl,g2.trans g3⟩
      |true=>
       simp![VZ];rw[hb,Bool.true_and] at hres;exact⟨trivial,g2.trans g3,l,_,_,_,_,rfl,rfl,fun y hy=>hm2 y (by simp[hy]),hres⟩
    ·rintro O Z3 ⟨g2,l,o5,o6,o7,o8,hl2,rfl,hm2,hres⟩;cases l with
     |cons x l=>cases hl2
     |nil=>
      simp!;rw[hres];exact⟨rfl,g2⟩
theorem S8(hn:n<=7){j:Nat}{kv:List (Key×D)}{m:Nat}(h:L[j]?=some (some (.dK kv))):Wp (mmL C CF CT (m+1) [.int (n:Int),.lst [],.int ((k+1:Nat):Int),.ref j] L) fun d Z5=>d=.bl false/\Gr L Z5:=by
 unfold mmL xu yE;refine(rA rfl).mpr ?_;show Ws (pM _ _ [some (.int (n:Int)),some (.lst (([]:List An).map dA)),some (.int ((k+1:Nat):Int)),some (.ref j),none,none,none,none,none] L) _;have e0:decide (((k+1:Nat):Int)<0)=false:=by simp;omega
 have e1:decide (((k+1:Nat):Int)=0)=false:=by simp;omega
 simp![e0];refine(yg (n:=n) (as:=[]) (fun a h=>by simp at h) (by simp)).imp ?_;rintro _ Z4 ⟨rfl,g1⟩;have hc:qj []=true:=rfl;rw[hc];have hl:ul "list" (.ref j) Z4=some (.bl false,Z4):=by
  unfold ul;have:tyD Z4 (.ref j)=some "dict":=by
   simp only[tyD,g1.get h]
  rw[this];rfl
 have hi:va ur [.lst ((prs n).map dP),.ref j] Z4=some (.bl false,Z4):=by
  apply Bl;unfold va At;refine(rA rfl).mpr ?_;show Ws (pT _ [some (.lst ((prs n).map dP)),some (.ref j)] Z4) _;simp![hl];exact⟨trivial,trivial⟩
 simp![VZ,e1,zG (show n<=100 by omega),hi,Wc];exact⟨trivial,g1⟩
def tS(C CF CT:Addr):C0:=zZ (dn (uU C CT)) (mmL C CF CT 10) (.int 4) (.int 2)
theorem Ih{p:D}{Q:D->M->Prop}(h1:2<=n)(h2:n<=4)(h:∀Z5,Z5=L->Wp (mmL C CF CT 10 [.int (n:Int),.lst [],.int (k:Int),p] Z5) Q):Wp (tS C CF CT [.int (n:Int),.int (k:Int),p] L) Q:=by
 unfold tS zZ C3;refine(rA rfl).mpr ?_;show Ws (pM _ _ [some (.int (n:Int)),some (.int (k:Int)),some p] L) _;simp!;refine yw ?_;unfold uU zx;refine(z6 rfl).mpr ?_;show Wt (rg _ _ [some (.int (n:Int)),some (.int 2),some (.int 4)] L) _;have e0:decide ((n:Int)<2)=false:=by simp;omega
 have e1:decide ((4:Int)<(n:Int))=false:=by simp;omega
 simp![e0,e1];refine⟨_,rfl,?_⟩;rw[rR (by simp)];simp!;exact h _ rfl
theorem u6(h1:2<=n)(h2:n<=4)(hp:(prs n).length<=1000){p:D}(hk:k<=8)(hs:Pl k p):Wp (tS C CF CT [.int (n:Int),.int (k:Int),p] L) fun d Z5=>d=.bl (qZ n k [] p)/\Gr L Z5:=by
 refine Ih h1 h2 ?_;rintro _ rfl;exact L8 (by omega) hp k [] p _ 10 (by omega) (fun a h=>by simp at h) (by simp;omega) hs
theorem RZ(h1:2<=n)(h2:n<=4){j:Nat}{kv:List (Key×D)}(h:L[j]?=some (some (.dK kv))):Wp (tS C CF CT [.int (n:Int),.int ((k+1:Nat):Int),.ref j] L) fun d Z5=>d=.bl false/\Gr L Z5:=by
 refine Ih h1 h2 ?_;rintro _ rfl;exact S8 (by omega) h
end
def dEl(l:List (Option Int)):D:=.lst (l.map dE)
def so3:PyData.strOk "open"=true:=by decide +kernel
def NO{d:D}{ds:List D}{L:M}:fIx (.lst (d::ds)) (.int 0) L=some (d,L):=by
 rw[FP,show(0:Int)=((0:Nat):Int) from rfl,uX (j:=0) (v:=d) rfl];rfl
def LB{Z9:List (List (Option Int))}{L:M}(h0:Z9≠[])(hl:Z9.length<=100000):Wp (uo qw [.lst (Z9.map dEl)] L) fun d Z5=>d=tT (cL Z9)/\Z5=L:=by
 obtain⟨l0,r,rfl⟩:=List.exists_cons_of_ne_nil h0;unfold uo Ad;refine(rA rfl).mpr ?_;show Ws (pM _ _ [some (.lst ((l0::r).map dEl)),none] L) _;simp![VB];rw[NO];simp![dEl];generalize hL:l0::r=Z9 at hl;have hLm:D.lst (l0.map dE)::r.map dEl=Z9.map dEl:=by rw[←hL];rfl
 refine uL (fun rr O Z5=>Z5=L/\(∃o,O=[some (.lst (D.lst (l0.map dE)::r.map dEl)),o])/\∃q,rr=q.map dE/\cL Z9=q.find? fun t=>Z9.all fun l=>decide (t∈l)) _ ⟨rfl,⟨_,rfl⟩,l0,rfl,by rw[←hL];rfl⟩ ?_ ?_
 ·rintro d rr O Z5 ⟨rfl,⟨o,rfl⟩,q,e,hq⟩;cases q with
  |nil=>cases e
  |cons t q=>
   cases e;simp![ve];rw[hLm];refine⟨by simp;omega,?_⟩;show Wp (qF none _ _ _ _ [none,some (dE t)] _) _;refine xP (dn:=dEl) (fun O=>∃o,O=[o,some (dE t)]) (c:=none) trivial Z9 ⟨_,rfl⟩ (keep:=fun _=>true) (val:=fun l=>D.bl (decide (t∈l))) ?_ ?_
   ·rintro l hl O ⟨o,rfl⟩;simp![dEl,FH];exact⟨trivial,⟨_,rfl⟩,trivial,trivial,fun _=>⟨trivial,trivial⟩⟩
   ·have ef:(Z9.filter fun _=>true).map (fun l=>D.bl (decide (t∈l)))=(Z9.map fun l=>decide (t∈l)).map D.bl:=by
     rw[List.filter_eq_self.mpr (fun _ _=>rfl),Wb];rfl
    rw[ef];simp![Ib];have ea:(Z9.map fun l=>decide (t∈l)).all id=Z9.all fun l=>decide (t∈l):=by rw[List.all_map];rfl
    rw[ea];rw[VJ] at hq;cases hb:Z9.all fun l=>decide (t∈l) with
    |true=>
     rw[hb] at hq;simp!;rw[hq];exact⟨rfl,trivial⟩
    |false=>
     rw[hb] at hq;simp!;exact⟨trivial,trivial,⟨_,rfl⟩,q,rfl,hq⟩
 ·rintro O Z5 ⟨rfl,⟨o,rfl⟩,q,e,hq⟩;cases q with
  |cons t q=>cases e
  |nil=>
   simp!;rw[hq];exact⟨rfl,trivial⟩
def dTr:Tr->D
 | .e x=>dE x
 | .ask i j a b=>.tup [.str "ask",.int (i:Int),.int (j:Int),dTr a,dTr b]
def dO:Option Tr->D
 |none=>.non
 |some t=>dTr t
def FG(t:Tr):∃ds,dTr t=.tup ds:=by
 cases t with
 |e x=>cases x<;>exact⟨_,rfl⟩
 |ask i j a b=>exact⟨_,rfl⟩
def Bh{o:Option Tr}{L:M}:tV (dO o) .non L=some (.bl o.isNone,L):=by
 cases o with
 |none=>rfl
 |some t=>obtain⟨ds,e⟩:=FG t;show tV (dTr t) .non L=_;rw[e];rfl
def Se{o:Option Tr}{L:M}:u7 (dO o) .non L=some (.bl o.isSome,L):=by
 cases o with
 |none=>rfl
 |some t=>obtain⟨ds,e⟩:=FG t;show u7 (dTr t) .non L=_;rw[e];rfl
def dN(l:List Nat):D:=.tup ((l.map fun x:Nat=>(x:Int)).map D.int)
structure Sp (n:Nat) (ps:List (Nat×Nat)) (ss:List (List Int)) (es:List (List (Option Int))):Prop where
 len:es.length=ss.length
 few:ss.length<=2000
 sl:∀s∈ss,s.length=n
 pr:∀p∈ps,p.1<n/\p.2<n
 pl:ps.length<=1000
structure Sr (C:Addr) (ps:List (Nat×Nat)) (ss:List (List Int)) (es:List (List (Option Int))) (L:M) (k m:Nat) (kvs:List (NK×D)):Prop where
 obj:L[k]?=some (some (.ins C [("pairs",.lst (ps.map dP)),("sorts",.lst (ss.map fun s=>.lst (s.map D.int))),("ends",.lst (es.map dEl)),("searched",.ref m)]))
 dic:L[m]?=some (some (.dN kvs))
 good:∀p∈kvs,∃(left:List Nat) (a:Nat),p.1=(left.map (fun x:Nat=>(x:Int)),(a:Int))/\p.2=dO (p6 ps ss es a left)
section
variable {C:Addr} {n:Nat} {ps:List (Nat×Nat)} {ss:List (List Int)} {es:List (List (Option Int))} {L Z5:M} {k m:Nat} {kvs:List (NK×D)}
theorem Sr.ne(h:Sr C ps ss es L k m kvs):k≠m:=fun e=>by
 have h1:=h.obj;rw[e,h.dic] at h1;cases h1
theorem Sr.f1(h:Sr C ps ss es L k m kvs):rQ C "pairs" (.ref k) L=some (.lst (ps.map dP),L):=AK h.obj rfl
theorem Sr.f2(h:Sr C ps ss es L k m kvs):rQ C "sorts" (.ref k) L=some (.lst (ss.map fun s=>.lst (s.map D.int)),L):=AK h.obj rfl
theorem Sr.f3(h:Sr C ps ss es L k m kvs):rQ C "ends" (.ref k) L=some (.lst (es.map dEl),L):=AK h.obj rfl
theorem Sr.f4(h:Sr C ps ss es L k m kvs):rQ C "searched" (.ref k) L=some (.ref m,L):=AK h.obj rfl
def cc:Nat->Nat->Nat
 |0,_=>1
 |a+1,o=>1+o*(2*cc a (o - 1))
def opn(ss:List (List Int))(left:List Nat)(p:Nat×Nat):Bool:=!decide (alk ss p.1 p.2 left=[])&&!decide (unl ss p.1 p.2 left=[])
def op(ps:List (Nat×Nat))(ss:List (List Int))(left:List Nat):Nat:=(ps.filter (opn ss left)).length
theorem JT{J:Type}{f g:J->Bool}(h:∀x,f x=true->g x=true){p:J}(h1:f p=false)(h2:g p=true):∀{l:List J},p∈l->(l.filter f).length+1<=(l.filter g).length:=by
 have le:∀l:List J,(l.filter f).length<=(l.filter g).length:=by
  intro l;induction l with
  |nil=>simp
  |cons x l ih=>
   rw[Xa,Xa];cases hf:f x with
   |true=>rw[h x hf];simpa using ih
   |false=>cases hg:g x<;>simp<;>omega
 intro l;induction l with
 |nil=>intro m;cases m
 |cons x l ih=>
  intro m;rw[Xa,Xa];rcases VI.mp m with rfl|m
  ·rw[h1,h2];have:=le l;simp;omega
  ·have:=ih m;cases hf:f x with
   |true=>rw[h x hf];simp;omega
   |false=>cases hg:g x<;>simp<;>omega
theorem GG{f:Nat->Bool}{l1 l2:List Nat}(hs:∀x∈l1,x∈l2)(h:l2.filter f=[]):l1.filter f=[]:=by
 rw[Wu] at h⊢;exact fun x hx=>h x (hs x hx)
theorem JI{left l1:List Nat}(hs:∀x∈l1,x∈left)(p:Nat×Nat)(h:opn ss l1 p=true):opn ss left p=true:=by
 unfold opn at h⊢;simp only[V9,Bool.not_eq_true',decide_eq_false_iff_not] at h⊢;exact⟨fun e=>h.1 (GG hs e),fun e=>h.2 (GG hs e)⟩
theorem S1{left:List Nat}{p:Nat×Nat}(hp:p∈ps)(ho:opn ss left p=true):op ps ss (alk ss p.1 p.2 left)+1<=op ps ss left:=by
 refine JT (JI fun x hx=>(VU.mp hx).1) ?_ ho hp;have:unl ss p.1 p.2 (alk ss p.1 p.2 left)=[]:=by
  unfold unl alk;rw[Wu];intro x hx;have:=(VU.mp hx).2;simpa using this
 show opn ss (alk ss p.1 p.2 left) p=false;unfold opn;rw[VX this];simp
theorem Sv{left:List Nat}{p:Nat×Nat}(hp:p∈ps)(ho:opn ss left p=true):op ps ss (unl ss p.1 p.2 left)+1<=op ps ss left:=by
 refine JT (JI fun x hx=>(VU.mp hx).1) ?_ ho hp;have:alk ss p.1 p.2 (unl ss p.1 p.2 left)=[]:=by
  unfold unl alk;rw[Wu];intro x hx;have:=(VU.mp hx).2;simpa using this
 show opn ss (unl ss p.1 p.2 left) p=false;unfold opn;rw[VX this];rfl
theorem Eo(a o:Nat):1<=cc a o:=by cases a<;>simp[cc]
theorem zN:∀(a:Nat) {o o':Nat},o<=o'->cc a o<=cc a o'
 |0,_,_,_=>Vv _
 |a+1,o,o',h=>by
  show 1+o*(2*cc a (o - 1))<=1+o'*(2*cc a (o' - 1));have h1:=zN a (show o - 1<=o' - 1 by omega);have:=Nat.mul_le_mul h (Nat.mul_le_mul_left 2 h1);omega
abbrev key(left:List Nat)(a:Nat):NK:=(left.map (fun x:Nat=>(x:Int)),(a:Int))
def Tw(C:Addr)(n:Nat)(ps:List (Nat×Nat))(ss:List (List Int))(es:List (List (Option Int)))(a:Nat)(f:C0):Prop:=
 ∀(left:List Nat) (k m:Nat) (kvs:List (NK×D)) (L:M),Sr C ps ss es L k m kvs->left≠[]->(∀x∈left,x<ss.length)->left.length<=2000->(qN kvs (key left a)=none->kvs.length+cc a (op ps ss left)<=15000000)->
  Wp (f [.ref k,dN left,.int (a:Int)] L) fun d Z5=>d=dO (p6 ps ss es a left)/\∃kvs',Sr C ps ss es Z5 k m kvs'/\kvs'.length<=kvs.length+(if(qN kvs (key left a)).isSome then 0 else cc a (op ps ss left))/\(qN kvs' (key left a)).isSome=true/\Kp m L Z5
theorem Tw.le{c:Nat}{o:Option D}{a b:Nat}(h:a<=b+(if o.isSome then 0 else c)):a<=b+c:=by
 cases o<;>simp at h<;>omega
theorem CU{ds:List D}{j:Nat}{v:D}{L:M}(h:ds[j]?=some v):fIx (.lst ds) (.int (j:Int)) L=some (v,L):=by
 rw[FP,uX h];rfl
theorem ix1{x:Nat}{L:M}(hx:x<ss.length):fIx (.lst (ss.map fun s=>.lst (s.map D.int))) (.int (x:Int)) L=some (.lst ((ss.getD x []).map D.int),L):=
 CU (by simp[hx,VD])
theorem ix2{x i:Nat}{L:M}(S:Sp n ps ss es)(hx:x<ss.length)(hi:i<n):fIx (.lst ((ss.getD x []).map D.int)) (.int (i:Int)) L=some (.int (at2 ss x i),L):=by
 have hs:=S.sl _ (V5 hx);refine CU ?_;unfold at2;simp[VD,hx,VA (show i<(ss[x]).length by omega)]
theorem ED{ds:List D}{L:M}:zE (.lst ds) L=some (.tup ds,L):=rfl
theorem IG{ds:List D}{L:M}{RB:Bool->M->Prop}:qTr RB (.tup ds) L↔RB (!ds.isEmpty) L:=⟨fun⟨_,e,q⟩=>by cases e;exact q,fun q=>⟨_,rfl,q⟩⟩
theorem y1{l:List Nat}:(l.map fun x:Nat=>(x:Int)).map D.int=l.map fun x:Nat=>D.int (x:Int):=by rw[Wb];rfl
theorem isE{l:List Nat}:(!((l.map fun x:Nat=>(x:Int)).map D.int).isEmpty)=!decide (l=[]):=by cases l<;>rfl
theorem Uu{f:C0}{a:Nat}(S:Sp n ps ss es)(T:Tw C n ps ss es a f){left:List Nat}{p:Nat×Nat}(h:Sr C ps ss es L k m kvs)(hm:p∈ps)(hl:∀x∈left,x<ss.length)(hll:left.length<=2000)(hc:opn ss left p=true->kvs.length+2*cc a (op ps ss left - 1)<=15000000):
  Wp (wV f C [.ref k,.int (p.1:Int),.int (p.2:Int),dN left,.int ((a+1:Nat):Int)] L) fun d Z5=>d=dO (uW ss (p6 ps ss es a) left p)/\∃kvs',Sr C ps ss es Z5 k m kvs'/\kvs'.length<=kvs.length+(if opn ss left p=true then 2*cc a (op ps ss left - 1) else 0)/\Kp m L Z5:=by
 have hp:=S.pr p hm;unfold wV DM;refine(rA rfl).mpr ?_;show Ws (pM _ _ [some (.ref k),some (.int (p.1:Int)),some (.int (p.2:Int)),some (dN left),some (.int ((a+1:Nat):Int)),none,none,none,none] L) _;unfold dN;simp![ve,VF];refine⟨by omega,?_⟩;rw[y1];refine xP (dn:=fun x:Nat=>D.int (x:Int)) (fun O=>∃o,O=[o,some (.ref k),some (.int (p.1:Int)),some (.int (p.2:Int))]) (c:=none) trivial left ⟨_,rfl⟩ (keep:=fun x=>decide (at2 ss x p.1=at2 ss x p.2)) (val:=fun x:Nat=>D.int (x:Int)) ?_ ?_
 ·rintro x hx O ⟨o,rfl⟩;simp![h.f2,ix1 (hl x hx),ix2 S (hl x hx) hp.1,ix2 S (hl x hx) hp.2];exact⟨trivial,⟨_,rfl⟩,trivial,trivial,fun _=>⟨trivial,trivial⟩⟩
 have ea:(left.filter fun x=>decide (at2 ss x p.1=at2 ss x p.2)).map (fun x:Nat=>D.int (x:Int))=((alk ss p.1 p.2 left).map fun x:Nat=>(x:Int)).map D.int:=by rw[y1];rfl
 rw[ea];simp![ED,ve,VF];refine⟨by omega,?_⟩;refine xP (dn:=fun x:Nat=>D.int (x:Int)) (fun O=>∃o,O=[o,some (.ref k),some (.int (p.1:Int)),some (.int (p.2:Int))]) (c:=none) trivial left ⟨_,rfl⟩ (keep:=fun x=>!decide (at2 ss x p.1=at2 ss x p.2)) (val:=fun x:Nat=>D.int (x:Int)) ?_ ?_
 ·rintro x hx O ⟨o,rfl⟩;simp![h.f2,ix1 (hl x hx),ix2 S (hl x hx) hp.1,ix2 S (hl x hx) hp.2];exact⟨trivial,⟨_,rfl⟩,trivial,trivial,fun _=>⟨trivial,trivial⟩⟩
 have eu:(left.filter fun x=>!decide (at2 ss x p.1=at2 ss x p.2)).map (fun x:Nat=>D.int (x:Int))=((unl ss p.1 p.2 left).map fun x:Nat=>(x:Int)).map D.int:=by rw[y1];rfl
 rw[eu];have la:(alk ss p.1 p.2 left).length<=2000:=V0 (WQ _ _) hll;have lu:(unl ss p.1 p.2 left).length<=2000:=V0 (WQ _ _) hll;have ma:∀x∈alk ss p.1 p.2 left,x<ss.length:=fun x hx=>hl x (VU.mp hx).1;have mu:∀x∈unl ss p.1 p.2 left,x<ss.length:=fun x hx=>hl x (VU.mp hx).1;simp![ED,IG,isE];unfold uW;have hop:opn ss left p=(!decide (alk ss p.1 p.2 left=[])&&!decide (unl ss p.1 p.2 left=[])):=rfl;have hoa:=S1 (ss:=ss) (left:=left) hm;have hou:=Sv (ss:=ss) (left:=left) hm;generalize opn ss left p=bo at hop hoa hou hc;generalize alk ss p.1 p.2 left=al at la ma hop hoa;generalize unl ss p.1 p.2 left=un at lu mu hop hou;by_cases ha:al=[]
 ·rw[VX ha,if_pos (.inl ha)];simp![VZ,Wc];exact⟨rfl,kvs,h,by omega,.refl⟩
 ·rw[VG ha];simp![VZ,Wc,IG,isE];by_cases hu:un=[]
  ·rw[VX hu,if_pos (.inr hu)];simp![VZ,Wc];exact⟨rfl,kvs,h,by omega,.refl⟩
  ·rw[VG hu,if_neg (fun z=>z.elim ha hu)];have hbo:bo=true:=by rw[hop,VG ha,VG hu];rfl
   subst hbo;have c0:=hc rfl;have c1:=zN a (show op ps ss al<=op ps ss left - 1 by have:=hoa rfl;omega);have c2:=zN a (show op ps ss un<=op ps ss left - 1 by have:=hou rfl;omega);rw[if_pos rfl];simp![VZ,Wc];rw[xo h.obj rfl];simp!;have e1:((a+1:Nat):Int) - 1=(a:Int):=by omega
   rw[e1];refine(T al k m kvs L h ha ma la (fun _=>by omega)).imp ?_;rintro _ Z4 ⟨rfl,kvs1,h1,hl1,_,g1⟩;have hl1:=Tw.le hl1;simp![Bh];cases hta:p6 ps ss es a al with
   |none=>
    simp![Option.isNone_none];exact⟨rfl,kvs1,h1,by omega,g1⟩
   |some ta=>
    simp![Option.isNone_some];rw[xo h1.obj rfl];simp!;rw[e1];refine(T un k m kvs1 Z4 h1 hu mu lu (fun _=>by omega)).imp ?_;rintro _ Z3 ⟨rfl,kvs2,h2,hl2,_,g2⟩;have hl2:=Tw.le hl2;simp![Bh];cases htu:p6 ps ss es a un with
    |none=>
     simp![Option.isNone_none];exact⟨rfl,kvs2,h2,by omega,g1.trans g2⟩
    |some tu=>
     simp![Option.isNone_some];rw[qp (by simp)];simp!;exact⟨rfl,kvs2,h2,by omega,g1.trans g2⟩
end
def ML{o:Option (Option Int)}{L:M}:fNe (tT o) qw L=some (.bl o.isSome,L):=by
 have key:∀(x:PyData),py 65 L (tT o)=some x->x.canLay0=true->x.depth<=64->PyData.eqv x (.tuple [.str "open"])=!o.isSome->fNe (tT o) qw L=some (.bl o.isSome,L):=by
  intro x h1 h2 h3 h4;have e2:py 65 L qw=some (.tuple [.str "open"]):=rfl;have l2:(PyData.tuple [.str "open"]).canLay0=true:=by simp[PyData.canLay0,PyData.canLayAll0,so3]
  have ee:eqD (tT o) qw L=some (!o.isSome):=by
   have:eqD (tT o) qw L=(py 65 L (tT o)).bind fun d=>(py 65 L qw).bind fun e=>if(d.canLay0&&e.canLay0&&decide (d.depth<=64))=true then some (PyData.eqv d e) else none:=by
    cases o with
    |none=>rfl
    |some t=>cases t<;>rfl
   rw[this,h1,e2];simp only[Option.bind_some,h2,l2,VX h3,Bool.and_self,if_true,h4]
  unfold fNe;rw[ee];simp
 cases o with
 |none=>exact key (.tuple [.str "open"]) rfl (by simp[PyData.canLay0,PyData.canLayAll0,so3]) (by simp[PyData.depth,PyData.depthAll]) (by simp[PyData.eqv,PyData.eqvAll])
 |some t=>
  refine key (pE t) (yT t) (BT t) (V0 (Gw t) (by decide)) ?_;cases t with
  |none=>simp[pE,PyData.eqv,PyData.eqvAll];decide +kernel
  |some t=>simp[pE,PyData.eqv,PyData.eqvAll]
section
variable {C:Addr} {n:Nat} {ps:List (Nat×Nat)} {ss:List (List Int)} {es:List (List (Option Int))} {L Z5:M} {k m:Nat} {kvs:List (NK×D)}
theorem ix3{x:Nat}{L:M}(hx:x<es.length):fIx (.lst (es.map dEl)) (.int (x:Int)) L=some (dEl (es.getD x []),L):=CU (by simp[hx,VD])
abbrev zB(C:Addr)(f:C0):C0:=AV (uo qw) (wV f C) qw C
theorem UO{f:C0}{a:Nat}(S:Sp n ps ss es)(T:∀b,b+1=a->Tw C n ps ss es b f){left:List Nat}(h:Sr C ps ss es L k m kvs)(h0:left≠[])(hl:∀x∈left,x<ss.length)(hll:left.length<=2000)(hc:kvs.length+cc a (op ps ss left)<=15000000):
  Wp (zB C f [.ref k,dN left,.int (a:Int)] L) fun d Z5=>d=dO (p6 ps ss es a left)/\∃kvs',Sr C ps ss es Z5 k m kvs'/\kvs'.length+1<=kvs.length+cc a (op ps ss left)/\Kp m L Z5:=by
 unfold zB AV C7;refine(rA rfl).mpr ?_;show Ws (pM _ _ [some (.ref k),some (dN left),some (.int (a:Int)),none,none,none,none] L) _;unfold dN;simp![ve,VF];refine⟨by omega,?_⟩;rw[y1];refine xP (dn:=fun x:Nat=>D.int (x:Int)) (fun O=>∃o,O=[o,some (.ref k)]) (c:=none) trivial left ⟨_,rfl⟩ (keep:=fun _=>true) (val:=fun x:Nat=>dEl (es.getD x [])) ?_ ?_
 ·rintro x hx O ⟨o,rfl⟩;simp![h.f3,ix3 (show x<es.length by rw[S.len];exact hl x hx)];exact⟨trivial,⟨_,rfl⟩,trivial,trivial,fun _=>⟨trivial,trivial⟩⟩
 have ev:(left.filter fun _=>true).map (fun x:Nat=>dEl (es.getD x []))=(left.map fun x=>es.getD x []).map dEl:=by
  rw[List.filter_eq_self.mpr (fun _ _=>rfl),Wb];rfl
 rw[ev,←y1];refine(LB (by simpa using h0) (by simp;omega)).imp ?_;rintro _ Z4 ⟨rfl,rfl⟩;simp![ML];have hcE:cL (left.map fun x=>es.getD x [])=cE es left:=rfl;rw[hcE];have hpos:=Eo a (op ps ss left);cases he:cE es left with
 |some x=>
  simp![WA];have et:p6 ps ss es a left=some (.e x):=by cases a<;>simp[p6,he]
  rw[et];exact⟨rfl,kvs,h,by omega,.refl⟩
 |none=>
  simp![Option.isSome_none];cases a with
  |zero=>
   have et:p6 ps ss es 0 left=none:=by simp[p6,he]
   rw[et];simp![Int.natCast_zero,decide_true];exact⟨rfl,kvs,h,by omega,.refl⟩
  |succ a=>
   have ez:decide (((a+1:Nat):Int)=0)=false:=VG (by omega);rw[ez];simp![h.f1];have et:p6 ps ss es (a+1) left=ps.findSome? (uW ss (p6 ps ss es a) left):=by simp[p6,he]
   rw[et];have hcc:cc (a+1) (op ps ss left)=1+op ps ss left*(2*cc a (op ps ss left - 1)):=rfl;rw[hcc] at hc⊢;generalize hq:cc a (op ps ss left - 1)=q at hc⊢;refine uL (fun rr O Z5=>∃qs kvs' o3 o4 o5 o6,rr=qs.map dP/\(∀p∈qs,p∈ps)/\ps.findSome? (uW ss (p6 ps ss es a) left)=qs.findSome? (uW ss (p6 ps ss es a) left)/\O=[some (.ref k),some (.tup ((left.map fun x:Nat=>(x:Int)).map D.int)),some (.int ((a+1:Nat):Int)),o3,o4,o5,o6]/\Sr C ps ss es Z5 k m kvs'/\kvs'.length+op qs ss left*(2*q)<=kvs.length+op ps ss left*(2*q)/\Kp m Z4 Z5) _ ⟨ps,kvs,_,_,_,_,rfl,fun p h=>h,rfl,rfl,h,by omega,.refl⟩ ?_ ?_
   ·rintro d rr O Z3 ⟨qs,kvs2,o3,o4,o5,o6,e,hm,hf,rfl,h2,hl2,g2⟩;cases qs with
    |nil=>cases e
    |cons p qs=>
     cases e;have e3:op (p::qs) ss left*(2*q)=op qs ss left*(2*q)+(if opn ss left p=true then 2*q else 0):=by
      unfold op;rw[Xa];cases opn ss left p with
      |true=>simp[Nat.add_mul]
      |false=>simp
     rw[e3] at hl2;unfold dP;rw[wg (n:=2) rfl];simp!;rw[xo h2.obj rfl];simp!;refine(Uu S (T a rfl) (p:=p) h2 (hm p (by simp)) hl hll (fun ho=>by rw[hq];rw[if_pos ho] at hl2;omega)).imp ?_;rintro _ ZN ⟨rfl,kvs3,h3,hl3,g3⟩;rw[hq] at hl3;simp![Se];rw[List.findSome?_cons] at hf;cases ha:uW ss (p6 ps ss es a) left p with
     |some t=>
      rw[ha] at hf;simp![WA];rw[hf];exact⟨rfl,kvs3,h3,by omega,g2.trans g3⟩
     |none=>
      rw[ha] at hf;simp![Option.isSome_none];exact⟨trivial,qs,kvs3,_,_,_,_,rfl,fun p h=>hm p (by simp[h]),hf,rfl,h3,by omega,g2.trans g3⟩
   ·rintro O Z3 ⟨qs,kvs2,o3,o4,o5,o6,e,hm,hf,rfl,h2,hl2,g2⟩;cases qs with
    |cons p qs=>cases e
    |nil=>
     simp!;rw[hf];refine⟨rfl,kvs2,h2,?_,g2⟩;omega
abbrev CM(C:Addr)(f:C0):C0:=AL (zB C f) C
theorem Lc{f:C0}{a:Nat}(S:Sp n ps ss es)(T:∀b,b+1=a->Tw C n ps ss es b f):Tw C n ps ss es a (CM C f):=by
 intro left k m kvs L h h0 hl hll hc;have hpos:=Eo a (op ps ss left);unfold CM AL B0;refine(rA rfl).mpr ?_;show Ws (pM _ _ [some (.ref k),some (dN left),some (.int (a:Int))] L) _;simp!;rw[qp (by simp)];simp![h.f4];unfold dN;rw[Si h.dic];simp!;cases hv:qN kvs (left.map (fun x:Nat=>(x:Int)),(a:Int)) with
 |some d=>
  simp![WA,VZ,h.f4];rw[qp (by simp)];simp!;rw[CO h.dic hv];simp!;obtain⟨left',a',e1,e2⟩:=h.good _ (DO hv);have ea:a'=a:=by
   have:=congrArg Prod.snd e1;simp at this;omega
  have el:left'=left:=by
   have:=congrArg Prod.fst e1;simp only at this;exact(List.map_inj_right (fun x y e=>by have e:(x:Int)=(y:Int):=e;omega)).mp this.symm
  subst ea el;exact⟨e2,kvs,h,by simp,by rw[hv];rfl,.refl⟩
 |none=>
  simp![Option.isSome_none,Wc];rw[xo h.obj rfl];simp!;have hc:=hc hv;refine(UO S T (left:=left) h h0 hl hll hc).imp ?_;rintro _ Z4 ⟨rfl,kvs1,h1,hl1,g1⟩;simp![h1.f4];rw[qp (by simp)];simp!;rw[Tz h1.dic (by omega)];simp!;cases hv1:qN kvs1 (left.map (fun x:Nat=>(x:Int)),(a:Int)) with
  |none=>
   obtain⟨w1,w2⟩:=Vp (d:=dO (p6 ps ss es a left)) hv1;rw[w2] at w1;rw[w2];have h2:Sr C ps ss es (Z4.set m (some (.dN (kvs1++[((left.map (fun x:Nat=>(x:Int)),(a:Int)),dO (p6 ps ss es a left))])))) k m (kvs1++[((left.map (fun x:Nat=>(x:Int)),(a:Int)),dO (p6 ps ss es a left))]):=by
    refine⟨by rw[sr h1.ne];exact h1.obj,sj h1.dic,?_⟩;intro p hp;rcases VQ.mp hp with hp|hp
    ·exact h1.good p hp
    ·rw[VO] at hp;subst hp;exact⟨left,a,rfl,rfl⟩
   simp![h2.f4];rw[qp (by simp)];simp!;rw[CO h2.dic w1];simp!;exact⟨trivial,_,h2,by simp;omega,by rw[w1];rfl,g1.trans xm⟩
  |some d1=>
   obtain⟨left',a',e1,e2⟩:=h1.good _ (DO hv1);have ea:a'=a:=by
    have:=congrArg Prod.snd e1;simp at this;omega
   have el:left'=left:=by
    have:=congrArg Prod.fst e1;simp only at this;exact(List.map_inj_right (fun x y e=>by have e:(x:Int)=(y:Int):=e;omega)).mp this.symm
   subst ea el;have e2:d1=dO (p6 ps ss es a' left'):=e2;subst e2;have hm1:=DO hv1;generalize hK:((left'.map (fun x:Nat=>(x:Int)),(a':Int)):NK)=K at hv1 hm1;have hany:(kvs1.any fun kv=>decide (kv.1=K))=true:=by
    rw[WN];exact⟨_,hm1,by simp⟩
   have hp2:sZ kvs1 K (dO (p6 ps ss es a' left'))=kvs1.map fun kv=>if kv.1=K then(kv.1,dO (p6 ps ss es a' left')) else kv:=by unfold sZ;rw[if_pos hany]
   rw[hp2];have hval:qN (kvs1.map fun kv=>if kv.1=K then(kv.1,dO (p6 ps ss es a' left')) else kv) K=some (dO (p6 ps ss es a' left')):=by
    clear hp2 hany hm1 hl1 h1 hc;unfold qN at hv1⊢;induction kvs1 with
    |nil=>cases hv1
    |cons z r ih=>
     rw[VB];by_cases hz:z.1=K
     ·simp[VJ,hz]
     ·simp only[VJ,hz,decide_false,if_false] at hv1⊢;exact ih hv1
   have h2:Sr C ps ss es (Z4.set m (some (.dN (kvs1.map fun kv=>if kv.1=K then(kv.1,dO (p6 ps ss es a' left')) else kv)))) k m (kvs1.map fun kv=>if kv.1=K then(kv.1,dO (p6 ps ss es a' left')) else kv):=by
    refine⟨by rw[sr h1.ne];exact h1.obj,sj h1.dic,?_⟩;intro p hp;obtain⟨z,hz,rfl⟩:=VW.mp hp;by_cases e:z.1=K
    ·rw[if_pos e];exact⟨left',a',by rw[hK];exact e,rfl⟩
    ·rw[if_neg e];exact h1.good z hz
   simp![h2.f4];rw[qp (by simp)];simp!;rw[←hK] at hval h2⊢;rw[CO h2.dic hval];simp!;exact⟨trivial,_,h2,by simp;omega,by rw[hval];rfl,g1.trans xm⟩
def wA(C:Addr):Nat->List D->M->Fr
 |0=>fun _ _=>none
 |f+1=>CM C (wA C f)
theorem Jn(S:Sp n ps ss es):∀(a f:Nat),a<f->Tw C n ps ss es a (wA C f)
 |a,0,h=>by omega
 |0,f+1,_=>Lc S fun b e=>by omega
 |a+1,f+1,h=>Lc S fun b e=>by
  have:b=a:=by omega
  subst this;exact Jn S b f (by omega)
end
def Lk{n m:Nat}{s:List Int}(h:s∈(Sx n m).map (·.1)):s.length=n:=by
 obtain⟨p,hp,rfl⟩:=VW.mp h;exact((xE m n p hp).len)
section
variable {C:Addr} {n:Nat} {ss:List (List Int)} {es:List (List (Option Int))} {L:M}
abbrev zF(C:Addr):C0:=zA vJ C
theorem pf2{d p:D}:rh "sorts" d [("pairs",p)]=([("pairs",p),("sorts",d)]:List (Str×D)):=by
 unfold rh;rw[if_neg (by decide +kernel)];rfl
theorem pf3{d p q:D}:rh "ends" d [("pairs",p),("sorts",q)]=([("pairs",p),("sorts",q),("ends",d)]:List (Str×D)):=by
 unfold rh;rw[if_neg (by decide +kernel)];unfold rh;rw[if_neg (by decide +kernel)];rfl
theorem pf4{d p q r:D}:rh "searched" d [("pairs",p),("sorts",q),("ends",r)]=([("pairs",p),("sorts",q),("ends",r),("searched",d)]:List (Str×D)):=by
 unfold rh;rw[if_neg (by decide +kernel)];unfold rh;rw[if_neg (by decide +kernel)];unfold rh;rw[if_neg (by decide +kernel)];rfl
theorem LO(hn:n<=100){k:Nat}(hk:L[k]?=some (some (.ins C []))):Wp (zF C [.ref k,.int (n:Int),.lst (ss.map dI),.lst (es.map dEl)] L) fun d Z5=>d=.non/\∃m,L.length<=m/\Sr C (prs n) ss es Z5 k m []/\Kp k L Z5:=by
 unfold zF zA DK;refine(rA rfl).mpr ?_;show Ws (pM _ _ [some (.ref k),some (.int (n:Int)),some (.lst (ss.map dI)),some (.lst (es.map dEl))] L) _;simp![zG hn];rw[AE hk (by simp)];simp!;have h1:(L.set k (some (Z8.ins C (rh "pairs" (.lst ((prs n).map dP)) []))))[k]?=some (some (Z8.ins C [("pairs",.lst ((prs n).map dP))])):=sj hk;have g1:Kp k L (L.set k (some (Z8.ins C (rh "pairs" (.lst ((prs n).map dP)) [])))):=xm;generalize L.set k (some (Z8.ins C (rh "pairs" (.lst ((prs n).map dP)) [])))=Z4 at h1 g1;rw[AE h1 (by simp)];simp!;rw[pf2];have h2:=sj (y:=some (Z8.ins C [("pairs",.lst ((prs n).map dP)),("sorts",.lst (ss.map dI))])) h1;have g2:Kp k Z4 (Z4.set k (some (Z8.ins C [("pairs",.lst ((prs n).map dP)),("sorts",.lst (ss.map dI))]))):=xm;generalize Z4.set k (some (Z8.ins C [("pairs",.lst ((prs n).map dP)),("sorts",.lst (ss.map dI))]))=Z3 at h2 g2;rw[AE h2 (by simp)];simp!;rw[pf3];have h3:=sj (y:=some (Z8.ins C [("pairs",.lst ((prs n).map dP)),("sorts",.lst (ss.map dI)),("ends",.lst (es.map dEl))])) h2;have g3:Kp k Z3 (Z3.set k (some (Z8.ins C [("pairs",.lst ((prs n).map dP)),("sorts",.lst (ss.map dI)),("ends",.lst (es.map dEl))]))):=xm;generalize Z3.set k (some (Z8.ins C [("pairs",.lst ((prs n).map dP)),("sorts",.lst (ss.map dI)),("ends",.lst (es.map dEl))]))=ZN at h3 g3;have g03:=(g1.trans g2).trans g3;have ev:DB [some (.ref k),some (.int (n:Int)),some (.lst (ss.map dI)),some (.lst (es.map dEl))] ZN=some (.ref ZN.length,ZN++[some (.dN [])]):=rfl;rw[ev];simp!;have h4:(ZN++[some (Z8.dN [])])[k]?=some (some (Z8.ins C [("pairs",.lst ((prs n).map dP)),("sorts",.lst (ss.map dI)),("ends",.lst (es.map dEl))])):=gr_app.get h3;rw[AE h4 (by simp)];simp!;rw[pf4];have hk3:k<ZN.length:=(Vw.mp h3).1;refine⟨trivial,ZN.length,g03.len,⟨sj h4,?_,fun p h=>by cases h⟩,(g03.trans NY).trans xm⟩;rw[sr (by omega)];simp
theorem SO{O:G}{i:Nat}{x:Int}{Q:Out->G->M->Prop}(h:O[i]?=some (some (.int x)))(hQ:Q .nx (O.set i (some (.int (x+1)))) L):Ws (xU i Da (vC (.int 1)) O L) Q:=by
 unfold xU;rw[h];exact ws_some.mpr hQ
abbrev AR(C:Addr):C0:=Aa (zF C) (wA C 10) C
def cs(o:Nat):Nat->Nat
 |0=>0
 |a+1=>cs o a+cc a o
theorem Sc{o a b:Nat}(h:a<=b):cs o a<=cs o b:=by
 induction h with
 |refl=>exact Vv _
 |step _ ih=>exact V0 ih (Nat.le_add_right _ _)
theorem US{N:Nat}{t:Tr}(hn:n<=100)(S:Sp n (prs n) ss es)(h0:ss≠[])(hN:N<10)(ht:p6 (prs n) ss es N (List.range ss.length)=some t)(hno:∀a,a<N->p6 (prs n) ss es a (List.range ss.length)=none)(hcc:cs (prs n).length (N+1)<=15000000):
  Wp (AR C [.int (n:Int),.lst (ss.map dI),.lst (es.map dEl)] L) fun d Z5=>d=.tup [.int (N:Int),dTr t]/\Gr L Z5:=by
 unfold AR Aa Bm;refine(rA rfl).mpr ?_;show Ws (pM _ _ [some (.int (n:Int)),some (.lst (ss.map dI)),some (.lst (es.map dEl)),none,none,none] L) _;rw[Dx,BW];refine OA ?_;simp![Ng];refine(LO (C:=C) (n:=n) (ss:=ss) (es:=es) (k:=L.length) hn (by simp)).imp ?_;rintro _ Z4 ⟨rfl,m,hml0,h1,g1⟩;have hml:L.length<=m:=by simp at hml0;omega
 have hG:Gr L Z4:=by
  refine⟨by have:=g1.len;simp at this;omega,fun j hj=>?_⟩;rw[g1.at_ j (by simp;omega) (by omega),VL hj]
 have hlen:(List.range ss.length)≠[]:=by
  intro e;have:=congrArg List.length e;simp at this;exact h0 this
 have hlt:∀x∈List.range ss.length,x<ss.length:=fun x hx=>Wh.mp hx;have hfew:(List.range ss.length).length<=2000:=by rw[WH];exact S.few
 have e5:yL (.int (ss.length:Int)) Z4=some (dN (List.range ss.length),Z4):=by
  have hb:(0:Int)<=(ss.length:Int)/\(ss.length:Int)<=1000000:=by have:=S.few;omega
  unfold yL;simp only;rw[if_pos hb];unfold dN qq;rw[Wb];simp
 simp![Re,VF,e5];refine⟨trivial,?_⟩;refine S6 (fun O Z5=>∃a kvs,a<=N/\O=[some (.int (n:Int)),some (.lst (ss.map dI)),some (.lst (es.map dEl)),some (.ref L.length),some (dN (List.range ss.length)),some (.int (a:Int))]/\Sr C (prs n) ss es Z5 L.length m kvs/\kvs.length<=cs (prs n).length a/\Gr L Z5) (fun O _=>match O with
  | [_,_,_,_,_,some (.int a)]=>N - a.toNat
  |_=>0) 1000000 ⟨0,[],by omega,rfl,h1,Vv _,hG⟩ (by show N - (0:Int).toNat<1000000;omega) ?_
 rintro O Z3 ⟨a,kvs,ha,rfl,h2,hl2,g2⟩;have hca:=Sc (o:=(prs n).length) (show a+1<=N+1 by omega);have hcs:cs (prs n).length (a+1)=cs (prs n).length a+cc a (prs n).length:=rfl;have hop:=zN a (show op (prs n) ss (List.range ss.length)<=(prs n).length from WQ _ _);have T:=Jn (C:=C) S a 10 (by omega);simp!;rw[xo h2.obj rfl];simp!;refine(T (List.range ss.length) L.length m kvs Z3 h2 hlen hlt hfew (fun _=>by omega)).imp ?_;rintro _ ZN ⟨rfl,kvs3,h3,hl3,hk3,g3⟩;have hl3:=Tw.le hl3;have hG3:Gr L ZN:=⟨V0 g2.len g3.len,fun j hj=>by rw[g3.at_ j (by have:=g2.len;omega) (by omega)];exact g2.at_ j hj⟩
 simp![Bh];by_cases hlt2:a<N
 ·rw[hno a hlt2];simp only[Option.isNone_none,if_true];refine SO (x:=(a:Int)) rfl ?_;refine⟨⟨a+1,kvs3,by omega,by simp,h3,by omega,hG3⟩,?_⟩;show N - ((a:Int)+1).toNat<N - (a:Int).toNat
  omega
 ·have:a=N:=by omega
  subst this;rw[ht];simp![Option.isNone_some,V7,if_false];rw[xo h3.obj rfl];simp!;refine(T (List.range ss.length) L.length m kvs3 ZN h3 hlen hlt hfew (fun z=>by rw[z] at hk3;cases hk3)).imp ?_;rintro _ Zq ⟨rfl,kvs4,h4,hl4,_,g4⟩;have hG4:Gr L Zq:=⟨V0 hG3.len g4.len,fun j hj=>by rw[g4.at_ j (by have:=hG3.len;omega) (by omega)];exact hG3.at_ j hj⟩
  simp!;rw[qp (by simp)];simp!;rw[ht];exact⟨rfl,hG4⟩
end
def msk(f:Nat->Bool):Nat->Nat
 |0=>0
 |n+1=>msk f n|||(if f n then 2^n else 0)
theorem Dl(f:Nat->Bool)(x:Nat):∀n,(msk f n).testBit x=(decide (x<n)&&f x)
 |0=>by simp[msk]
 |n+1=>by
  rw[msk,Nat.testBit_or,Dl f x n];have h2:(if f n then 2^n else 0:Nat).testBit x=(decide (n=x)&&f n):=by
   cases f n with
   |true=>simp[Nat.testBit_two_pow]
   |false=>simp
  rw[h2];by_cases e:n=x
  ·subst e;simp
  ·by_cases h:x<n
   ·simp[e,h,show x<n+1 by omega]
   ·simp[e,h,show ¬x<n+1 by omega]
def pmO(ps:List (Nat×Nat))(ss:List (List Int)):List (Nat×Nat):=ps.map fun p=>(msk (fun x=>decide (at2 ss x p.1=at2 ss x p.2)) ss.length,msk (fun x=>!decide (at2 ss x p.1=at2 ss x p.2)) ss.length)
def emO(ends:List (Option Int))(es:List (List (Option Int)))(n:Nat):List Nat:=ends.map fun e=>msk (fun x=>decide (e∈es.getD x [])) n
def Qs(ps:List (Nat×Nat))(ss:List (List Int))(es:List (List (Option Int)))(ends:List (Option Int))(h:∀x,x<ss.length->∀e∈es.getD x [],e∈ends):Mk ps ss es (pmO ps ss) (emO ends es ss.length) ends:=by
 refine⟨by simp[pmO],?_,by simp[emO],?_,h⟩
 ·intro k p q hp hq x hx;simp only[pmO,VR,hp,Option.map_some,Option.some.injEq] at hq;subst hq;simp[Dl,hx]
 ·intro k e q he hq x hx;simp only[emO,VR,he,Option.map_some,Option.some.injEq] at hq;subst hq;simp[Dl,hx]
def qe(n m:Nat):List (List Int):=(Sx n m).map (·.1)
def qW(n m:Nat):List (List (Option Int)):=(qe n m).map hE
def wm(n:Nat):List (Option Int):=none::(List.range n).map fun t:Nat=>some (t:Int)
def MR(n:Nat):Ms (List.range n) (2^n - 1):=fun x=>by rw[Wh,Nat.testBit_two_pow_sub_one];simp
def KD{n m a:Nat}{pm:List (Nat×Nat)}{em:List Nat}{Z9:Nat}(hL:(qe n m).length=Z9)(h0:0<Z9)(he:((qW n m).all fun l=>l.all fun e=>decide (e∈wm n))=true)(h1:pmO (prs n) (qe n m)=pm)(h2:emO (wm n) (qW n m) Z9=em)(h3:wj pm em a (2^Z9 - 1)=true):∀b,b<=a->p6 (prs n) (qe n m) (qW n m) b (List.range (qe n m).length)=none:=by
 have top:p6 (prs n) (qe n m) (qW n m) a (List.range (qe n m).length)=none:=by
  have K:=Qs (prs n) (qe n m) (qW n m) (wm n) (fun x hx e h=>by
   have hx':x<(qW n m).length:=by simp[qW];exact hx
   have hm:(qW n m).getD x []∈qW n m:=by rw[VD,VA hx'];exact V5 _
   have:=V4.mp (V4.mp he _ hm) e h;simpa using this)
  rw[hL] at K;rw[h1,h2] at K;refine none_of K a _ _ (MR _) (fun x hx=>Wh.mp hx) ?_ (by rw[hL];exact h3);intro e;have:=congrArg List.length e;rw[WH,hL] at this;simp at this;omega
 intro b hb;have step:∀k,∀b,b+k=a->p6 (prs n) (qe n m) (qW n m) b (List.range (qe n m).length)=none:=by
  intro k;induction k with
  |zero=>
   intro b e;have:b=a:=by omega
   subst this;exact top
  |succ k ih=>
   intro b e;exact FU _ _ (ih (b+1) (by omega))
 exact step (a - b) b (by omega)
def wfB(ps:List (Nat×Nat)):Tr->Bool
 | .e _=>true
 | .ask i j a b=>decide ((i,j)∈ps)&&(wfB ps a&&wfB ps b)
theorem Dt{ps:List (Nat×Nat)}:∀{t:Tr},wfB ps t=true->wf ps t
 | .e _,_=>trivial
 | .ask i j a b,h=>by
  simp only[wfB,V9,Wr] at h;exact⟨h.1,Dt h.2.1,Dt h.2.2⟩
def AB(n m N:Nat)(t:Tr):Bool:=wfB (prs n) t&&(decide (dep t<=N)&&((List.range (qe n m).length).all fun x=>decide (rX ((qe n m).getD x []) t∈(qW n m).getD x [])))
structure Few (n m N:Nat):Prop where
 pos:0<(qe n m).length
 yes:∃t,p6 (prs n) (qe n m) (qW n m) N (List.range (qe n m).length)=some t
 no:∀a,a<N->p6 (prs n) (qe n m) (qW n m) a (List.range (qe n m).length)=none
def ST{n m:Nat}(h:0<(qe n m).length):List.range (qe n m).length≠[]:=fun e=>by
 have:=congrArg List.length e;rw[WH] at this;simp at this;rw[this] at h;exact absurd h (by decide)
def Hh{n m N:Nat}(hp:0<(qe n m).length)(t:Tr)(h:AB n m N t=true):∃t,p6 (prs n) (qe n m) (qW n m) N (List.range (qe n m).length)=some t:=by
 simp only[AB,V9,Wr] at h;obtain⟨h1,h2,h3⟩:=h;cases ht:p6 (prs n) (qe n m) (qW n m) N (List.range (qe n m).length) with
 |some t=>exact⟨t,rfl⟩
 |none=>
  obtain⟨x,hx,q⟩:=Ow N _ (ST hp) ht t (Dt h1) h2;have:=V4.mp h3 x hx;exact absurd (by simpa using this) q
def C8:(qe 3 3).length=5:=by decide +kernel
def Ei:Tr:=.ask 0 1 (.e (some 0)) (.ask 0 2 (.e (some 0)) (.ask 1 2 (.e (some 1)) (.e none)))
def T5:AB 3 3 3 Ei=true:=by decide +kernel
def UF:((qW 3 3).all fun l=>l.all fun e=>decide (e∈wm 3))=true:=by decide +kernel
def Ou:pmO (prs 3) (qe 3 3)=[(3,28),(5,26),(9,22)]:=by decide +kernel
def O0:emO (wm 3) (qW 3 3) 5=[16,7,11,13]:=by decide +kernel
def TK:wj [(3,28),(5,26),(9,22)] [16,7,11,13] 2 (2^5 - 1)=true:=by decide +kernel
def Pp:Few 3 3 3:=⟨by rw[C8];decide,Hh (by rw[C8];decide) Ei T5,fun a ha=>KD C8 (by decide) UF Ou O0 TK a (by omega)⟩
def Ch:(qe 4 4).length=15:=by decide +kernel
def KC:Tr:=.ask 0 1 (.ask 0 2 (.e (some 0)) (.ask 0 3 (.e (some 0)) (.e none))) (.ask 0 2 (.ask 0 3 (.e (some 0)) (.e none)) (.ask 1 2 (.ask 1 3 (.e (some 1)) (.e none)) (.e none)))
def NL:AB 4 4 4 KC=true:=by decide +kernel
def TW:((qW 4 4).all fun l=>l.all fun e=>decide (e∈wm 4))=true:=by decide +kernel
def OD:pmO (prs 4) (qe 4 4)=[(31,32736),(227,32540),(2341,30426),(1795,30972),(4677,28090),(8745,24022)]:=by decide +kernel
def N2:emO (wm 4) (qW 4 4) 15=[32216,39,519,547,549]:=by decide +kernel
def Q5:wj [(31,32736),(227,32540),(2341,30426),(1795,30972),(4677,28090),(8745,24022)] [32216,39,519,547,549] 3 (2^15 - 1)=true:=by decide +kernel
def LC:Few 4 4 4:=⟨by rw[Ch];decide,Hh (by rw[Ch];decide) KC NL,fun a ha=>KD Ch (by decide) TW OD N2 Q5 a (by omega)⟩
def Sw:∀n<8,∀p∈prs n,p.1<n/\p.2<n:=by decide +kernel
def Jo:∀n<8,(prs n).length<=1000:=by decide +kernel
def Po{n m:Nat}(hn:n<=7):Sp n (prs n) (qe n m) (qW n m):=by
 refine⟨by simp[qW],?_,fun s hs=>Lk hs,fun p hp=>Sw n (by omega) p hp,Jo n (by omega)⟩;have:=zr hn m;simp only[qe,VF];omega
section
variable {C CN CT:Addr} {n m:Nat} {L:M}
abbrev JF(CT:Addr):FX:=wK tj (.int 7) CT
theorem Gi{lo hi:Int}(h1:lo<=(n:Int))(h2:(n:Int)<=hi):Wp (uU CN CT [.int (n:Int),.int lo,.int hi] L) fun r Z5=>r=.ok .non/\Z5=L:=by
 unfold uU zx;refine(z6 rfl).mpr ?_;show Wt (rg _ _ [some (.int (n:Int)),some (.int lo),some (.int hi)] L) _;simp!;rw[VG (by omega)];simp!;rw[VG (by omega)];simp!;exact⟨trivial,trivial⟩
theorem Jz(hm:∀s∈qe n m,(qV s).length<=1000)(hn:n<=7):∀(l:List (List Int)) (o:Option D) (L:M),(∀s∈l,s∈qe n m)->
  ∃Z5,qF none (pJ 0) pY (vL tG (pG (be 0) pI)) (l.map dI) [o] L=some ((l.map hE).map dEl,Z5)/\Gr L Z5
 | [],o,L,_=>⟨L,rfl,.refl⟩
 |s::l,o,L,h=>by
  have hs:=h s (by simp);obtain⟨Z4,e1,g1⟩:=GQ (s:=s) (L:=L) (by rw[Lk hs];omega) (hm s hs);obtain⟨Z3,e2,g2⟩:=Jz hm hn l (some (dI s)) Z4 (fun x hx=>h x (by simp[hx]));refine⟨Z3,?_,g1.trans g2⟩;have hg:pJ 0 (dI s) [o] L=some ([some (dI s)],L):=rfl;have hv:vL tG (pG (be 0) pI) [some (dI s)] L=some (dEl (hE s),Z4):=e1;rw[VB];simp only[qF,hg,bs];show(pY _ _).bind _=_;simp only[pY,bs,if_true,hv,uO];rw[e2];rfl
abbrev Ak(C CT:Addr):FX:=z5 tG (AR C) (JF CT)
theorem Tt{N:Nat}{t:Tr}(hn:n<=7)(hN:N<10)(hm:∀s∈qe n m,(qV s).length<=1000)(F:Few n m N)(hcs:cs (prs n).length (N+1)<=15000000)(ht:p6 (prs n) (qe n m) (qW n m) N (List.range (qe n m).length)=some t):
  Wp (Ak C CT [.int (n:Int),.int (m:Int)] L) fun r Z5=>r=.ok (.tup [.int (N:Int),dTr t])/\Gr L Z5:=by
 unfold Ak z5 BM;refine(z6 rfl).mpr ?_;show Wt (rg _ _ [some (.int (n:Int)),some (.int (m:Int)),none] L) _;simp!;have ea:JF CT [.int (n:Int),.int (m:Int)] L=some (.ok (.lst ((qe n m).map dI)),L):=by
  have:=HH (L:=L) (n:=n) (k:=(m:Int)) (C:=CT) (by omega);rw[show((m:Int)).toNat=m by omega] at this;rw[show(qe n m).map dI=(Sx n m).map dS by simp[qe,dS,Function.comp_def]];exact this
 rw[ea];simp!;rw[ve];have S:=Po (n:=n) (m:=m) hn;refine⟨by have:=S.few;(try simp);omega,?_⟩;obtain⟨Z4,e1,g1⟩:=Jz hm hn (qe n m) none L fun s hs=>hs;refine Aw e1 ?_;simp!;have hne:qe n m≠[]:=List.ne_nil_of_length_pos F.pos;refine(US (C:=C) (L:=Z4) (by omega) S hne hN ht F.no hcs).imp ?_;rintro _ Z3 ⟨rfl,g2⟩;simp!;exact⟨trivial,g1.trans g2⟩
end
def se{β:Type}(f:Bool->Option β):Option (Bool×β):=match f true with
 |some r=>some (true,r)
 |none=>match f false with
  |some r=>some (false,r)
  |none=>none
def tH{J β:Type}(f:J->Option β):List J->Option (List β)
 | []=>some []
 |a::l=>match f a with
  |none=>none
  |some b=>match tH f l with
   |none=>none
   |some r=>some (b::r)
def pb(n:Nat):(k:Nat)->List An->Option (Pap k)
 |0,as=>if qj as&&(sI (qv n as)).isNone then some () else none
 |k+1,as=>if qj as then(tH (fun p=>se fun b=>pb n k (as++[(p.1,p.2,b)])) (prs n):Option (List (Bool×Pap k))) else none
def dPo(k:Nat)(o:Option (Pap k)):D:=match o with
 |some p=>dPp k p
 |none=>.non
def dRo(k:Nat)(o:Option (Bool×Pap k)):D:=match o with
 |some r=>dR k r
 |none=>.non
def Lw{L:M}:tV .non .non L=some (.bl true,L):=rfl
def Rm{k:Nat}{p:Pap k}{L:M}:u7 (dPp k p) .non L=some (.bl true,L):=by cases k<;>rfl
def Ua{L:M}:u7 .non .non L=some (.bl false,L):=rfl
def Vl{L:M}{k:Nat}{ds:List D}{y:D}(h:L[k]?=some (some (.lst ds)))(hl:ds.length<1000000):tE (.ref k) y L=some (.non,L.set k (some (.lst (ds++[y])))):=by simp only[tE,yU h,if_pos hl,B2]
section
variable {n:Nat} {C CF CT:Addr}
theorem Ol{k:Nat}{as:List An}{i j:Nat}{F:C0}{f:Bool->Option (Pap k)}(hl:as.length<=100)
  (hF:∀(b:Bool) (L:M),Wp (F [.int (n:Int),.lst ((as++[(i,j,b)]).map dA),.int (k:Int)] L) fun d Z5=>d=dPo k (f b)/\Gr L Z5) (L:M):
  Wp (xA F [.int (n:Int),.lst (as.map dA),.int ((k+1:Nat):Int),.int (i:Int),.int (j:Int)] L) fun d Z5=>d=dRo k (se f)/\Gr L Z5:=by
 unfold xA DI;refine(rA rfl).mpr ?_;show Ws (pM _ _ [some (.int (n:Int)),some (.lst (as.map dA)),some (.int ((k+1:Nat):Int)),some (.int (i:Int)),some (.int (j:Int)),none,none] L) _;have ek:(((k+1:Nat):Int) - 1)=(k:Int):=by omega
 have ea:∀b:Bool,as.map dA++[D.tup [.int (i:Int),.int (j:Int),.bl b]]=(as++[(i,j,b)]).map dA:=fun b=>by simp[dA]
 simp!;rw[qp (by simp)];simp!;refine uL (fun r O Z5=>∃(l:List Bool) (o5 o6:Option D),r=l.map D.bl/\O=[some (.int (n:Int)),some (.lst (as.map dA)),some (.int ((k+1:Nat):Int)),some (.int (i:Int)),some (.int (j:Int)),o5,o6]/\Gr L Z5/\(l=[true,false]\/(l=[false]/\f true=none)\/(l=[]/\f true=none/\f false=none))) _ ⟨[true,false],_,_,rfl,rfl,.refl,.inl rfl⟩ ?_ ?_
 ·rintro d r O Z4 ⟨l,o5,o6,hr,rfl,g1,hl3⟩;cases l with
  |nil=>cases hr
  |cons b l=>
   rw[VB] at hr;injection hr with h1 h2
   subst h1 h2;simp!;rw[qp (by simp)];simp!;rw[rR (by simp)];simp!;rw[uk (by simp;omega)];simp!;rw[ea,ek];refine(hF b Z4).imp ?_;rintro _ Z3 ⟨rfl,g2⟩;have g:=g1.trans g2;cases hf:f b with
   |some p=>
    have e:se f=some (b,p):=by
     rcases hl3 with h|⟨h,h'⟩|⟨h,_⟩
     ·injection h with h1 _
      subst h1;simp only[se,hf]
     ·injection h with h1 _
      subst h1;simp only[se,h',hf]
     ·cases h
    simp![dPo,Rm];rw[qp (by simp)];simp!;rw[e];exact⟨rfl,g⟩
   |none=>
    simp![dPo,Ua];refine⟨trivial,l,_,_,rfl,rfl,g,?_⟩;rcases hl3 with h|⟨h,h'⟩|⟨h,_⟩
    ·injection h with h1 h2
     subst h1 h2;exact .inr (.inl ⟨rfl,hf⟩)
    ·injection h with h1 h2
     subst h1 h2;exact .inr (.inr ⟨rfl,h',hf⟩)
    ·cases h
 ·rintro O Z4 ⟨l,o5,o6,hr,rfl,g1,hl3⟩;cases l with
  |cons b l=>cases hr
  |nil=>
   simp!;have e:se f=none:=by
    rcases hl3 with h|⟨h,_⟩|⟨_,h1,h2⟩
    ·cases h
    ·cases h
    ·simp only[se,h1,h2]
   rw[e];exact⟨rfl,g1⟩
def mmB(C CF CT:Addr):Nat->List D->M->Fr
 |0=>fun _ _=>none
 |m+1=>yb (dn (vA C)) (dn (za C CF CT)) vJ (xA (mmB C CF CT m)) qw
theorem Mu(hn:n<=7)(hp:(prs n).length<=1000):∀(k:Nat) (as:List An) (L:M) (m:Nat),k<m->Ok2 n as->as.length+k<=100->Wp (mmB C CF CT m [.int (n:Int),.lst (as.map dA),.int (k:Int)] L) fun d Z5=>d=dPo k (pb n k as)/\Gr L Z5:=by
 intro k;induction k with
 |zero=>
  intro as L m hm hv hl;obtain⟨m,rfl⟩:∃j,m=j+1:=⟨m - 1,by omega⟩
  unfold mmB yb Al;refine(rA rfl).mpr ?_;show Ws (pM _ _ [some (.int (n:Int)),some (.lst (as.map dA)),some (.int ((0:Nat):Int)),none,none,none,none] L) _;have e1:decide (((0:Nat):Int)=0)=true:=by simp
  simp!;refine(yg hv (by omega)).imp ?_;rintro _ Z4 ⟨rfl,g1⟩;have hle:pb n 0 as=if qj as&&(sI (qv n as)).isNone then some () else none:=rfl
  cases hc:qj as with
  |false=>
   simp![Wc];rw[hle,hc];exact⟨rfl,g1⟩
  |true=>
   simp![VZ,e1];have hf:qv n as≠[]:=fun z=>by
    have:=(DX (n:=n) (as:=as) (hv.inN)).mp z;rw[hc] at this;cases this
   refine(IA hv (by omega) hn hf).imp ?_;rintro _ Z3 ⟨rfl,g2⟩;have g:=g1.trans g2;simp![EY];rw[hle,hc];cases (sI (qv n as)).isNone with
   |true=>
    simp!;rw[qp (by simp)];simp!;exact⟨rfl,g⟩
   |false=>
    simp!;exact⟨rfl,g⟩
 |succ k ih=>
  intro as L m hm hv hl;obtain⟨m,rfl⟩:∃j,m=j+1:=⟨m - 1,by omega⟩
  unfold mmB yb Al;refine(rA rfl).mpr ?_;show Ws (pM _ _ [some (.int (n:Int)),some (.lst (as.map dA)),some (.int ((k+1:Nat):Int)),none,none,none,none] L) _;have e1:decide (((k+1:Nat):Int)=0)=false:=by simp;omega
  simp!;refine(yg hv (by omega)).imp ?_;rintro _ Z4 ⟨rfl,g1⟩;have hle:pb n (k+1) as=if qj as then(tH (fun p=>se fun b=>pb n k (as++[(p.1,p.2,b)])) (prs n):Option (List (Bool×Pap k))) else none:=rfl
  generalize pb n (k+1) as=res at hle;cases hc:qj as with
  |false=>
   simp![Wc];rw[hle,hc];exact⟨rfl,g1⟩
  |true=>
   rw[hc,if_pos rfl] at hle;simp![VZ,e1];rw[T9 (by simp)];simp![zG (show n<=100 by omega)];refine uL (fun r O Z5=>∃(l:List (Nat×Nat)) (rows:List (Bool×Pap k)) (o4 o5 o6:Option D),r=l.map dP/\O=[some (.int (n:Int)),some (.lst (as.map dA)),some (.int ((k+1:Nat):Int)),some (.ref Z4.length),o4,o5,o6]/\Gr Z4 Z5/\Z5[Z4.length]?=some (some (.lst (rows.map (dR k))))/\rows.length+l.length=(prs n).length/\(∀x∈l,x∈prs n)/\res=match tH (fun p=>se fun b=>pb n k (as++[(p.1,p.2,b)])) l with
    |none=>none
    |some r=>some (rows++r:List (Bool×Pap k))) _ ⟨_,[],_,_,_,rfl,rfl,gr_app,by simp,by simp,fun x h=>h,?_⟩ ?_ ?_
   ·rw[hle];cases tH (fun p=>se fun b=>pb n k (as++[(p.1,p.2,b)])) (prs n)<;>rfl
   ·rintro d r O Z3 ⟨l,rows,o4,o5,o6,hr,rfl,g2,hrow,hlen,hin,hres⟩;cases l with
    |nil=>cases hr
    |cons x l=>
     rw[VB] at hr;injection hr with h1 h2
     subst h1 h2;have ok:=G8 (hin x (by simp));show Wp (qm 2 _ (.tup [.int (x.1:Int),.int (x.2:Int)]) _ _) _;refine(wg rfl).mpr ?_;simp!;have hv2:∀b,Ok2 n (as++[(x.1,x.2,b)]):=by
      intro b a ha;rcases VQ.mp ha with h|h
      ·exact hv a h
      ·cases VO.mp h;exact ok
     refine(Ol (f:=fun b=>pb n k (as++[(x.1,x.2,b)])) (by omega) (fun b L=>ih (as++[(x.1,x.2,b)]) L m (by omega) (hv2 b) (by simp;omega)) Z3).imp ?_;rintro _ ZN ⟨rfl,g3⟩;have hrow3:ZN[Z4.length]?=some (some (.lst (rows.map (dR k)))):=g3.get hrow;simp only[tH] at hres;cases hb:se (fun b=>pb n k (as++[(x.1,x.2,b)])) with
     |none=>
      rw[hb] at hres;simp![dRo,Lw];rw[hres];exact⟨rfl,g1.trans (g2.trans g3)⟩
     |some q=>
      rw[hb] at hres;have hq:∀L:M,tV (dR k q) .non L=some (.bl false,L):=fun _=>rfl;simp![dRo,hq];rw[Me hrow3];simp!;rw[Vl hrow3 (by simp at hlen⊢;omega)];simp!;refine⟨trivial,l,rows++[q],_,_,_,rfl,rfl,(g2.trans g3).setN (Vv _),?_,by simp at hlen⊢;omega,fun y hy=>hin y (by simp[hy]),?_⟩
      ·rw[sj hrow3,WX];rfl
      ·rw[hres];cases tH (fun p=>se fun b=>pb n k (as++[(p.1,p.2,b)])) l with
       |none=>rfl
       |some r=>simp
   ·rintro O Z3 ⟨l,rows,o4,o5,o6,hr,rfl,g2,hrow,hlen,hin,hres⟩;cases l with
    |cons x l=>cases hr
    |nil=>
     simp!;refine Aw (L:=Z3.set Z4.length none) (a:=.lst (rows.map (dR k))) ?_ ?_
     ·rw[Md];exact N6 hrow
     ·simp!;simp only[tH,Wn] at hres;rw[hres];exact⟨rfl,g1.trans (g2.setN (Vv _))⟩
end
def zM(n k:Nat):Bool:=match pb n k [] with
 |none=>false
 |some p=>v7 n k [] p
def Vo:zM 3 2=true:=by decide +kernel
def MP:zM 4 3=true:=by decide +kernel
theorem JS{J β:Type}{f:J->Option β}:∀{l:List J} {r:List β},tH f l=some r->r.length=l.length/\∀y∈r,∃a∈l,f a=some y
 | [],r,h=>by cases h;exact⟨rfl,fun y hy=>by cases hy⟩
 |a::l,r,h=>by
  simp only[tH] at h;cases hf:f a with
  |none=>rw[hf] at h;cases h
  |some b=>
   rw[hf] at h;cases hm:tH f l with
   |none=>rw[hm] at h;cases h
   |some q=>
    rw[hm] at h;cases h;obtain⟨h1,h2⟩:=JS hm;refine⟨by simp[h1],fun y hy=>?_⟩;rcases VI.mp hy with rfl|hy
    ·exact⟨a,by simp,hf⟩
    ·obtain⟨c,hc,e⟩:=h2 y hy;exact⟨c,by simp[hc],e⟩
def QI{β:Type}{f:Bool->Option β}{x:Bool×β}(h:se f=some x):f x.1=some x.2:=by
 unfold se at h;cases h1:f true with
 |some r=>rw[h1] at h;cases h;exact h1
 |none=>
  rw[h1] at h;cases h2:f false with
  |some r=>rw[h2] at h;cases h;exact h2
  |none=>rw[h2] at h;cases h
theorem Fa{n:Nat}:∀(k:Nat) (as:List An) (p:Pap k),pb n k as=some p->Sh n k p
 |0,_,_,_=>trivial
 |k+1,as,(p:List (Bool×Pap k)),h=>by
  have hle:pb n (k+1) as=if qj as then(tH (fun p=>se fun b=>pb n k (as++[(p.1,p.2,b)])) (prs n):Option (List (Bool×Pap k))) else none:=rfl
  rw[hle] at h;cases hc:qj as with
  |false=>rw[hc] at h;cases h
  |true=>
   rw[hc,if_pos rfl] at h;obtain⟨h1,h2⟩:=JS h;refine⟨h1,fun r hr=>?_⟩;obtain⟨a,_,e⟩:=h2 r hr;exact Fa k _ _ (QI e)
def QK:∀n<5,∀s∈qe n n,(qV s).length<=1000:=by decide +kernel
def Ry:cs (prs 3).length 4<=15000000:=by decide +kernel
def O9:cs (prs 4).length 5<=15000000:=by decide +kernel
section
variable {CS C CF CT:Addr} {n:Nat} {L:M}
abbrev AW(CS C CT:Addr):FX:=Ai (uU C CT) (Ak CS CT) (.int 5)
theorem PN{t:Tr}(h1:1<=n)(h5:n<=4)(F:Few n n n)(hc:cs (prs n).length (n+1)<=15000000)(ht:p6 (prs n) (qe n n) (qW n n) n (List.range (qe n n).length)=some t):Wp (dn (AW CS C CT) [.int (n:Int)] L) fun d Z5=>d=.tup [.int (n:Int),dTr t]/\Gr L Z5:=by
 refine yw ?_;unfold AW Ai DZ;refine(z6 rfl).mpr ?_;show Wt (rg _ _ [some (.int (n:Int))] L) _;simp!;refine(Gi (by omega) (by omega)).imp ?_;rintro _ L ⟨rfl,rfl⟩;simp!;refine(Tt (C:=CS) (CT:=CT) (m:=n) (by omega) (by omega) (QK n (by omega)) F hc ht).imp ?_;rintro _ Z3 ⟨rfl,g⟩;simp!;exact⟨_,rfl,rfl,g⟩
def zK(CS C CF CT:Addr):C0:=Ap (dn (uU C CT)) (dn (AW CS C CT)) (mmB C CF CT 10) (.int 4) (.int 2)
structure z7 (k:Nat) (p:Pap k):Prop where
 is:pb (k+1) k []=some p
 let_:v7 (k+1) k [] p=true
theorem JH{k:Nat}(h:zM (k+1) k=true):∃p,z7 k p:=by
 unfold zM at h;cases hp:pb (k+1) k [] with
 |none=>rw[hp] at h;cases h
 |some p=>
  rw[hp] at h;exact⟨p,hp,h⟩
theorem UX{k:Nat}{p:Pap k}(h:k=2\/k=3)(g:z7 k p):Wp (zK CS C CF CT [.int ((k+1:Nat):Int)] L) fun d Z5=>d=dPp k p/\Gr L Z5:=by
 have hF:Few (k+1) (k+1) (k+1)/\cs (prs (k+1)).length (k+1+1)<=15000000:=by
  rcases h with rfl|rfl
  ·exact⟨Pp,Ry⟩
  ·exact⟨LC,O9⟩
 obtain⟨t,ht⟩:=hF.1.yes;have hk:k<=3:=by omega
 unfold zK Ap DF;refine(rA rfl).mpr ?_;show Ws (pM _ _ [some (.int ((k+1:Nat):Int)),none,none] L) _;simp!;refine yw ((Gi (CN:=C) (CT:=CT) (n:=k+1) (L:=L) (lo:=2) (hi:=4) (by omega) (by omega)).imp ?_);rintro _ Z4 ⟨rfl,rfl⟩;refine⟨_,rfl,?_⟩;simp!;refine(PN (by omega) (by omega) hF.1 hF.2 ht).imp ?_;rintro _ Z3 ⟨rfl,g2⟩;refine(wg rfl).mpr ?_;simp!;rw[rR (by simp)];simp!;have ek:(((k+1:Nat):Int) - 1)=(k:Int):=by omega
 rw[ek];refine(Mu (n:=k+1) (by omega) (Jo (k+1) (by omega)) k [] Z3 10 (by omega) (fun a h=>by simp at h) (by simp;omega)).imp ?_;rintro _ ZN ⟨rfl,g3⟩;simp!;rw[g.is];exact⟨rfl,g2.trans g3⟩
end
section
variable {P:Program} {w:World} {K:Frag} {mg:Str->Option Value} {base:Heap} {f:Addr} {fd:FuncData}
theorem SG:FnScope ["cell"] ["cell"] (pN (top 46)):=⟨rfl,rfl,rfl,by decide +kernel,rfl,by decide +kernel,by decide +kernel⟩
def Bj:SV:=
  (pT (vL tw (pG (v2 D3 (vC (.int 0)) (v2 uR (be 0) (v2 xf (vC (.int 10)) (vC (.int 18))))) (pG (v2 tF (v2 qi (v2 yn (be 0) (vC (.int 2147483629))) (vC (.int 1))) (v1 xY (v2 fNe (be 0) (v2 xf (vC (.int 10)) (vC (.int 18)))))) pI))))
def xF:C0:=qr 1 1 (Bj)
theorem Oj{k:Nat}(F:Fun K "_law_hand" "_law_hand" (top 46) f fd) (wQ:mg "int"=none) (wS:mg "max"=none):FnOk P w K mg base CX0 (k+1) f fd ["cell"] (spM K (xF)):=by
 unfold xF Bj;exact qQ F SG fun cdv A outer s H E hr=>
  (pP (pZ (DH (pH (Tb wS pO (wp (pF 0) (A4 pO pO))) (pH (zY (rm (z4 (pF 0) pO) pO) (GU wQ (Hv hr (pF 0) (A4 pO pO)))) pL)))))
theorem Fl:FnScope ["hand","many","taken"] ["hand","many"] (pN (top 47)):=⟨rfl,rfl,rfl,by decide +kernel,rfl,by decide +kernel,by decide +kernel⟩
def zS:SV:=
  (pM (sIf (vT (v2 fGt (v2 fIx (be 0) (vC (.int 0))) (vC (.int 0))))
   (pM (pX (v2 yn (v2 fIx (be 0) (vC (.int 0))) (be 1)) (pJ 2))
   (pM (pX (v2 BB (v2 fIx (be 0) (vC (.int 0))) (be 1)) (yh (be 0) (vC (.int 0))))
   (pT (be 2))))
   sNx)
  (pM (pX (v2 yn (v2 tF (v2 fIx (be 0) (vC (.int 1))) (vC (.int 48271))) (vC (.int 2147483647))) (yh (be 0) (vC (.int 1))))
  (pT (v2 yn (v2 BB (v2 xf (v2 qi (v2 fIx (be 0) (vC (.int 1))) (vC (.int 1))) (vC (.int 7))) (vC (.int 8))) (be 1)))))
def tM:C0:=qr 3 2 (zS)
theorem Pt{k:Nat}(F:Fun K "_law_take" "_law_take" (top 47) f fd):FnOk P w K mg base CX0 (k+1) f fd ["hand","many"] (spM K (tM)):=by
 unfold tM zS;exact qQ F Fl fun cdv A outer s H E hr=>
  (pQ (qD (Ae (rf (pF 0) pO) pO)
   (pQ (qC (i:=2) Fl.nd rfl (Or.inl rfl) (z4 (rf (pF 0) pO) (pF 1)))
   (pQ (zm (HU (rf (pF 0) pO) (pF 1)) (F0 (pF 0) pO))
   (pP (pZ (pF 2)))))
   qx)
  (pQ (zm (z4 (zY (rf (pF 0) pO) pO) pO) (F0 (pF 0) pO))
  (pP (pZ (z4 (HU (A4 (rm (rf (pF 0) pO) pO) pO) pO) (pF 1))))))
theorem xM:FnScope ["hand","paper","way","at","alike","under","odd","more"] ["hand","paper","way"] (pN (top 48)):=⟨rfl,rfl,rfl,by decide +kernel,rfl,by decide +kernel,by decide +kernel⟩
def zq(rJ:C0)(tf:C0):SV:=
  (pM (sIf (tm (vT (v2 fEq (be 2) (vC (.int 3)))) (vT (v2 fEq (be 1) (vL p9 pI))))
   (pT (v2 tF (vL qo (pG (vL p9 (pG (vC (.bl true)) (pG (vL p9 pI) pI))) pI)) (vL rJ (pG (be 0) (pG (vC (.int 4)) pI)))))
   sNx)
  (pM (pX (vL rJ (pG (be 0) (pG (v1 qy (be 1)) pI))) (pJ 3))
  (pM (pX (v2 fIx (be 1) (be 3)) (qm 2 (pS (pJ 4) (pS (pJ 5) qA))))
  (pM (sIf (tm (vT (v2 fEq (be 2) (vC (.int 4)))) (bOr (vT (v2 fEq (be 5) (vL p9 pI))) (vT (v2 fEq (vL rJ (pG (be 0) (pG (vC (.int 2)) pI))) (vC (.int 0))))))
   (pM (pX (vL qo (pG (vL qo (pG (be 4) (pG (be 5) pI))) (pG (vL p9 (pG (be 4) pI)) (pG (vL p9 (pG (be 4) (pG (be 5) (pG (be 5) pI)))) (pG (vC .non) (pG (vC (.int 0)) (pG (vC (.str "")) (pG (vL p9 (pG (v1 xY (be 4)) (pG (be 5) pI))) (pG (vL p9 pI) (pG (vL p9 (pG (be 5) (pG (be 4) pI))) pI)))))))))) (pJ 6))
   (pT (v2 qi (v2 qi (vSl (be 1) sB (sV (be 3))) (vL qo (pG (v2 fIx (be 6) (vL rJ (pG (be 0) (pG (vC (.int 9)) pI)))) pI))) (vSl (be 1) (sV (v2 qi (be 3) (vC (.int 1)))) sB))))
   sNx)
  (pM (sIf (tm (vT (v2 fLt (be 2) (vC (.int 3)))) (bOr (vT (v2 fEq (be 5) (vL p9 pI))) (vT (v2 fEq (vL rJ (pG (be 0) (pG (vC (.int 2)) pI))) (vC (.int 0))))))
   (pM (pX (v2 qi (v2 qi (vSl (be 1) sB (sV (be 3))) (vL qo (pG (v2 fIx (be 1) (be 3)) pI))) (vSl (be 1) (sV (be 3)) sB)) (pJ 7))
   (pT (v2 fIx (vL qo (pG (v2 qi (vSl (be 1) sB (sV (be 3))) (vSl (be 1) (sV (v2 qi (be 3) (vC (.int 1)))) sB)) (pG (be 7) (pG (vL p9 pI) pI)))) (be 2))))
   sNx)
  (pT (v2 qi (v2 qi (vSl (be 1) sB (sV (be 3))) (vL qo (pG (vL p9 (pG (be 4) (pG (vL tf (pG (be 0) (pG (be 5) (pG (be 2) pI)))) pI))) pI))) (vSl (be 1) (sV (v2 qi (be 3) (vC (.int 1)))) sB))))))))
def yp(rJ:C0)(tf:C0):C0:=qr 8 3 (zq rJ tf)
theorem P4{rJ tf:C0}{yq y7 k:Nat}(F:Fun K "_law_spoilt" "_law_spoilt" (top 48) f fd) (tO:Df P w K mg base yq "_law_take" ["hand","many"] (spM K rJ)) (vQ:yq<=k) (yt:Df P w K mg base y7 "_law_spoilt" ["hand","paper","way"] (spM K tf)) (B6:y7<=k) (rq:mg "len"=none) (wQ:mg "int"=none):FnOk P w K mg base CX0 (k+1) f fd ["hand","paper","way"] (spM K (yp rJ tf)):=by
 unfold yp zq;refine qQ F xM fun cdv A outer s H E hr=>?_;refine pQ ?_ ?_
 ·refine qD ?_ ?_ ?_
  ·exact(PW.pt (Ag (sA hr (pF 2) pO) (zt (sA hr (pF 1) (ql pL)))))
  ·refine pP ?_;refine pZ ?_;exact(zY (q0 (pH (ql (pH qI (pH (ql pL) pL))) pL)) (qa tO (hr.mono vQ) (pH (pF 0) (pH pO pL))))
  exact qx
 refine pQ ?_ ?_
 ·refine qC (i:=3) ?_ ?_ ?_ ?_
  ·exact xM.nd
  ·exact rfl
  ·exact(Or.inl rfl)
  exact(qa tO (hr.mono vQ) (pH (pF 0) (pH (vB rq (pF 1)) pL)))
 refine pQ ?_ ?_
 ·exact(zm (rf (pF 1) (pF 3)) (sT (n:=2) (qu (p5 (i:=4) xM.nd rfl (Or.inl rfl)) (qu (p5 (i:=5) xM.nd rfl (Or.inl rfl)) sU))))
 refine pQ ?_ ?_
 ·refine qD ?_ ?_ ?_
  ·exact(PW.pt (Ag (sA hr (pF 2) pO) (zt (PW.pt (xH (sA hr (pF 5) (ql pL)) (xn (sA hr (qa tO (hr.mono vQ) (pH (pF 0) (pH pO pL))) pO)))))))
  ·refine pQ ?_ ?_
   ·refine qC (i:=6) ?_ ?_ ?_ ?_
    ·exact xM.nd
    ·exact rfl
    ·exact(Or.inl rfl)
    refine q0 ?_;refine pH ?_ ?_
    ·refine q0 ?_;refine pH ?_ ?_
     ·exact(pF 4)
     refine pH ?_ ?_
     ·exact(pF 5)
     exact pL
    refine pH ?_ ?_
    ·refine ql ?_;refine pH ?_ ?_
     ·exact(pF 4)
     exact pL
    refine pH ?_ ?_
    ·refine ql ?_;refine pH ?_ ?_
     ·exact(pF 4)
     refine pH ?_ ?_
     ·exact(pF 5)
     refine pH ?_ ?_
     ·exact(pF 5)
     exact pL
    refine pH ?_ ?_
    ·exact rT
    refine pH ?_ ?_
    ·exact pO
    refine pH ?_ ?_
    ·exact wT
    refine pH ?_ ?_
    ·refine ql ?_;refine pH ?_ ?_
     ·exact(GU wQ (pF 4))
     refine pH ?_ ?_
     ·exact(pF 5)
     exact pL
    refine pH ?_ ?_
    ·refine ql ?_;exact pL
    refine pH ?_ ?_
    ·refine ql ?_;refine pH ?_ ?_
     ·exact(pF 5)
     refine pH ?_ ?_
     ·exact(pF 4)
     exact pL
    exact pL
   refine pP ?_;refine pZ ?_;refine rm ?_ ?_
   ·refine rm ?_ ?_
    ·exact(uK (pF 1) uN (uJ (pF 3)))
    refine q0 ?_;refine pH ?_ ?_
    ·exact(rf (pF 6) (qa tO (hr.mono vQ) (pH (pF 0) (pH pO pL))))
    exact pL
   exact(uK (pF 1) (uJ (rm (pF 3) pO)) uN)
  exact qx
 refine pQ ?_ ?_
 ·refine qD ?_ ?_ ?_
  ·exact(PW.pt (Ag (yV (pF 2) pO) (zt (PW.pt (xH (sA hr (pF 5) (ql pL)) (xn (sA hr (qa tO (hr.mono vQ) (pH (pF 0) (pH pO pL))) pO)))))))
  ·refine pQ ?_ ?_
   ·refine qC (i:=7) ?_ ?_ ?_ ?_
    ·exact xM.nd
    ·exact rfl
    ·exact(Or.inl rfl)
    refine rm ?_ ?_
    ·refine rm ?_ ?_
     ·exact(uK (pF 1) uN (uJ (pF 3)))
     refine q0 ?_;refine pH ?_ ?_
     ·exact(rf (pF 1) (pF 3))
     exact pL
    exact(uK (pF 1) (uJ (pF 3)) uN)
   refine pP ?_;refine pZ ?_;exact(rf (q0 (pH (rm (uK (pF 1) uN (uJ (pF 3))) (uK (pF 1) (uJ (rm (pF 3) pO)) uN)) (pH (pF 7) (pH (ql pL) pL)))) (pF 2))
  exact qx
 refine pP ?_;refine pZ ?_;refine rm ?_ ?_
 ·refine rm ?_ ?_
  ·exact(uK (pF 1) uN (uJ (pF 3)))
  refine q0 ?_;refine pH ?_ ?_
  ·refine ql ?_;refine pH ?_ ?_
   ·exact(pF 4)
   refine pH ?_ ?_
   ·exact(qa yt (hr.mono B6) (pH (pF 0) (pH (pF 5) (pH (pF 2) pL))))
   exact pL
  exact pL
 exact(uK (pF 1) (uJ (rm (pF 3) pO)) uN)
theorem uS:FnScope ["script","cell","hand","many","paper","asks","way","odd","other"] ["script"] (pN (top 49)):=⟨rfl,rfl,rfl,by decide +kernel,rfl,by decide +kernel,by decide +kernel⟩
theorem Qj:((["k"]:List Str)++([("asks",5)]:List (Str×Nat)).map (·.1)).Nodup:=by decide +kernel
def Cd(w5:C0)(rJ:C0)(wW:C0)(sE:C0)(tf:C0):SV:=
  (pM (rK (ivL (v2 qi (vL qo (pG (v2 xf (vC (.int 10)) (vC (.int 18))) pI)) (vSl (be 0) sB (sV (vC (.int 8)))))) (pJ 1)
   (pM (pX (vL w5 (pG (be 1) pI)) (pJ 2))
   (pM (pX (v2 qi (vC (.int 3)) (vL rJ (pG (be 2) (pG (vC (.int 2)) pI)))) (pJ 3))
   (pM (pX (vL wW (pG (be 3) pI)) (pJ 4))
   (pM (pX (v2 uR (be 3) (vC (.int 1))) (pJ 5))
   (pM (sIf (vT (v2 ue (vL sE (pG (be 3) (pG (be 5) (pG (be 4) pI)))) (vC (.bl true))))
    (pT (vC (.bl false)))
    sNx)
   (pM (rK (ivL (vL qo (pG (vC (.int 0)) (pG (vC (.int 1)) (pG (vC (.int 2)) (pG (vC (.int 3)) (pG (vC (.int 4)) (pG (vC (.int 4)) (pG (vC (.int 4)) pI))))))))) (pJ 6)
    (sIf (vT (v2 ue (vL sE (pG (be 3) (pG (be 5) (pG (vL tf (pG (be 2) (pG (be 4) (pG (be 6) pI)))) pI)))) (vC (.bl false))))
     (pT (vC (.bl false)))
     sNx))
   (pM (rK (ivL (vL qo (pG (vC .non) (pG (vC (.int 0)) (pG (vC (.str "")) (pG (vC (.bl true)) (pG wd (pG (v2 yI (vL p9 (pG (vL p9 (pG (vC (.bl true)) (pG (vL p9 pI) pI))) pI)) (vC (.int 3))) pI)))))))) (pJ 7)
    (sIf (vT (v2 ue (vL sE (pG (be 3) (pG (be 5) (pG (be 7) pI)))) (vC (.bl false))))
     (pT (vC (.bl false)))
     sNx))
   (pM (rK (ivL (qO ["k"] [("asks",5)] (ivR (vC (.int 5))) (pJ 0) (vT (v2 fNe (be 0) (be 1))) (be 0))) (pJ 8)
    (sIf (vT (v2 ue (vL sE (pG (be 3) (pG (be 8) (pG (be 4) pI)))) (vC (.bl false))))
     (pT (vC (.bl false)))
     sNx))
   (sIf (bOr (vT (v2 ue (vL sE (pG (be 3) (pG (v2 qi (vC (.int 1)) (vL rJ (pG (be 2) (pG (vC (.int 4)) pI)))) (pG (vL p9 pI) pI)))) (vC (.bl false)))) (vT (v2 ue (vL sE (pG (be 3) (pG (vC (.int 0)) (pG (vL qo pI) pI)))) (vC (.bl false)))))
    (pT (vC (.bl false)))
    sNx))))))))))
  (pT (uh (v2 wN (vL sE (pG (vC (.int 2)) (pG (vC (.int 0)) (pG (vL p9 pI) pI)))) (vC (.bl true))) (uh (v2 wN (vL sE (pG (vC (.int 2)) (pG (vC (.int 1)) (pG (vL qo (pG (vL p9 (pG (vC (.bl true)) (pG (vL p9 pI) pI))) pI)) pI)))) (vC (.bl false))) (v2 wN (vL sE (pG (vC (.int 2)) (pG (vC (.int 1)) (pG (vL qo (pG (vL p9 (pG (vC (.bl false)) (pG (vL p9 pI) pI))) pI)) pI)))) (vC (.bl false)))))))
def As(w5:C0)(rJ:C0)(wW:C0)(sE:C0)(tf:C0):C0:=qr 9 1 (Cd w5 rJ wW sE tf)
theorem PX{w5 rJ wW sE tf:C0}{Gg yq Hl GY y7 k:Nat}(F:Fun K "law" "law" (top 49) f fd) (D5:Df P w K mg base Gg "_law_hand" ["cell"] (spM K w5)) (Rx:Gg<=k) (tO:Df P w K mg base yq "_law_take" ["hand","many"] (spM K rJ)) (vQ:yq<=k) (D0:Df P w K mg base Hl "holding_paper" ["many"] (spM K wW)) (Tl:Hl<=k) (tU:Df P w K mg base GY "holds" ["many","asks","paper"] (spM K sE)) (uF:GY<=k) (yt:Df P w K mg base y7 "_law_spoilt" ["hand","paper","way"] (spM K tf)) (B6:y7<=k) (rY:mg "range"=none):FnOk P w K mg base CX0 (k+1) f fd ["script"] (spM K (As w5 rJ wW sE tf)):=by
 unfold As Cd;refine qQ F uS fun cdv A outer s H E hr=>?_;refine pQ ?_ ?_
 ·refine sH ?_ ?_ ?_ ?_ ?_
  ·exact V6
  ·exact rfl
  ·refine rM ?_;refine rm ?_ ?_
   ·refine q0 ?_;refine pH ?_ ?_
    ·exact(A4 pO pO)
    exact pL
   exact(uK (pF 0) uN (uJ pO))
  ·exact(p5 (i:=1) uS.nd rfl (Or.inl rfl))
  refine pQ ?_ ?_
  ·refine qC (i:=2) ?_ ?_ ?_ ?_
   ·exact uS.nd
   ·exact rfl
   ·exact(Or.inl rfl)
   exact(qa D5 (hr.mono Rx) (pH (pF 1) pL))
  refine pQ ?_ ?_
  ·refine qC (i:=3) ?_ ?_ ?_ ?_
   ·exact uS.nd
   ·exact rfl
   ·exact(Or.inl rfl)
   refine rm ?_ ?_
   ·exact pO
   exact(qa tO (hr.mono vQ) (pH (pF 2) (pH pO pL)))
  refine pQ ?_ ?_
  ·refine qC (i:=4) ?_ ?_ ?_ ?_
   ·exact uS.nd
   ·exact rfl
   ·exact(Or.inl rfl)
   exact(qa D0 (hr.mono Tl) (pH (pF 3) pL))
  refine pQ ?_ ?_
  ·refine qC (i:=5) ?_ ?_ ?_ ?_
   ·exact uS.nd
   ·exact rfl
   ·exact(Or.inr rfl)
   exact(wp (pF 3) pO)
  refine pQ ?_ ?_
  ·refine qD ?_ ?_ ?_
   ·exact(xb (qa tU (hr.mono uF) (pH (pF 3) (pH (pF 5) (pH (pF 4) pL)))) qI)
   ·refine pP ?_;refine pZ ?_;exact qI
   exact qx
  refine pQ ?_ ?_
  ·refine sH ?_ ?_ ?_ ?_ ?_
   ·exact V6
   ·exact rfl
   ·refine rM ?_;refine q0 ?_;refine pH ?_ ?_
    ·exact pO
    refine pH ?_ ?_
    ·exact pO
    refine pH ?_ ?_
    ·exact pO
    refine pH ?_ ?_
    ·exact pO
    refine pH ?_ ?_
    ·exact pO
    refine pH ?_ ?_
    ·exact pO
    refine pH ?_ ?_
    ·exact pO
    exact pL
   ·exact(p5 (i:=6) uS.nd rfl (Or.inl rfl))
   refine pP ?_;refine qD ?_ ?_ ?_
   ·exact(xb (qa tU (hr.mono uF) (pH (pF 3) (pH (pF 5) (pH (qa yt (hr.mono B6) (pH (pF 2) (pH (pF 4) (pH (pF 6) pL)))) pL)))) qI)
   ·refine pP ?_;refine pZ ?_;exact qI
   exact qx
  refine pQ ?_ ?_
  ·refine sH ?_ ?_ ?_ ?_ ?_
   ·exact V6
   ·exact rfl
   ·refine rM ?_;refine q0 ?_;refine pH ?_ ?_
    ·exact rT
    refine pH ?_ ?_
    ·exact pO
    refine pH ?_ ?_
    ·exact wT
    refine pH ?_ ?_
    ·exact qI
    refine pH ?_ ?_
    ·exact Do
    refine pH ?_ ?_
    ·exact(QF (ql (pH (ql (pH qI (pH (ql pL) pL))) pL)) pO)
    exact pL
   ·exact(p5 (i:=7) uS.nd rfl (Or.inl rfl))
   refine pP ?_;refine qD ?_ ?_ ?_
   ·exact(xb (qa tU (hr.mono uF) (pH (pF 3) (pH (pF 5) (pH (pF 7) pL)))) qI)
   ·refine pP ?_;refine pZ ?_;exact qI
   exact qx
  refine pQ ?_ ?_
  ·refine sH ?_ ?_ ?_ ?_ ?_
   ·exact V6
   ·exact rfl
   ·refine rM ?_;exact(ub (own:=["k"]) (cap:=[("asks",5)]) (sf rfl) (Ds rY pO) (fun _ _ _ _ _=>(p5 (i:=0) Qj rfl (Or.inl rfl))) (fun _ _ _ _ _=>(zU (Ay hr (pF 0) (pF 1)))) (fun _ _ _ _ _=>(pF 0)))
   ·exact(p5 (i:=8) uS.nd rfl (Or.inl rfl))
   refine pP ?_;refine qD ?_ ?_ ?_
   ·exact(xb (qa tU (hr.mono uF) (pH (pF 3) (pH (pF 8) (pH (pF 4) pL)))) qI)
   ·refine pP ?_;refine pZ ?_;exact qI
   exact qx
  refine pP ?_;refine qD ?_ ?_ ?_
  ·exact(PW.pt (xH (xb (qa tU (hr.mono uF) (pH (pF 3) (pH (rm pO (qa tO (hr.mono vQ) (pH (pF 2) (pH pO pL)))) (pH (ql pL) pL)))) qI) (xn (xb (qa tU (hr.mono uF) (pH (pF 3) (pH pO (pH (q0 pL) pL)))) qI))))
  ·refine pP ?_;refine pZ ?_;exact qI
  exact qx
 refine pP ?_;refine pZ ?_;exact(vS (Bd (qa tU (hr.mono uF) (pH pO (pH pO (pH (ql pL) pL)))) qI) (vS (Bd (qa tU (hr.mono uF) (pH pO (pH pO (pH (q0 (pH (ql (pH qI (pH (ql pL) pL))) pL)) pL)))) qI) (yk (Bd (qa tU (hr.mono uF) (pH pO (pH pO (pH (q0 (pH (ql (pH qI (pH (ql pL) pL))) pL)) pL)))) qI))))
end
def Hd(L:M)(k:Nat):Prop:=∃a b,L[k]?=some (some (.lst [.int a,.int b]))
def wI(L:M)(k:Nat)(a b:Int):M:=L.set k (some (.lst [.int a,.int b]))
def Dn(k:Nat)(L Z5:M):Prop:=∃a b,Z5=wI L k a b
def Hd.set{L:M}{k:Nat}(h:Hd L k)(a b:Int):(wI L k a b)[k]?=some (some (.lst [.int a,.int b])):=let ⟨_,_,e⟩:=h;sj e
def Dn.hd{L Z5:M}{k:Nat}(h:Hd L k)(d:Dn k L Z5):Hd Z5 k:=let ⟨a,b,e⟩:=d;⟨a,b,by rw[e];exact h.set a b⟩
def Dn.len{L Z5:M}{k:Nat}(d:Dn k L Z5):Z5.length=L.length:=let ⟨_,_,e⟩:=d;by rw[e];simp[wI]
def Dn.ne{L Z5:M}{k j:Nat}(d:Dn k L Z5)(h:j≠k):Z5[j]?=L[j]?:=let ⟨_,_,e⟩:=d;by rw[e];exact sr h
def xk{L:M}{k:Nat}{m:Int}(h:Hd L k)(h0:0<m)(h1:m<2^200):∃r Z5,tM [.ref k,.int m] L=some (.int r,Z5)/\Dn k L Z5/\0<=r/\r<m:=by
 obtain⟨a,b,hk⟩:=h;by_cases ha:0<a
 ·refine⟨a%m,wI L k (a/m) b,?_,⟨_,_,rfl⟩,Int.emod_nonneg _ (by omega),Int.emod_lt_of_pos _ h0⟩;have hq:t7 a m:=h0;have hd:wz a m:=⟨h0,h1⟩
  simp[tM,zS,Cl hk,yU hk,ha,hq,hd,wI]
 ·have hb1:=Int.emod_nonneg (b*48271) (b:=2147483647) (by decide);have hb2:=Int.emod_lt_of_pos (b*48271) (b:=2147483647) (by decide);refine⟨_,wI L k a (b*48271%2147483647),?_,⟨_,_,rfl⟩,Int.emod_nonneg ((b*48271%2147483647+1)^7/8) (by omega),Int.emod_lt_of_pos _ h0⟩;have hp:uZ (b*48271%2147483647+1) 7:=⟨by decide,by decide,by omega⟩
  have hm:CMul b 48271:=.inr ⟨by decide,by decide⟩;have hq:t7 ((b*48271%2147483647+1)^7/8) m:=h0;have hq2:t7 (b*48271) 2147483647:=by unfold t7;decide
  have hd:wz ((b*48271%2147483647+1)^7) 8:=by unfold wz;decide
  have hk2:=sj (y:=some (Z8.lst [.int a,.int (b*48271%2147483647)])) hk;simp[tM,zS,Cl hk,yU hk,ha,hm,hp,hq,hq2,hd,Cl hk2,wI]
def Qa(c:Int)(L:M):∃a b,xF [.int c] L=some (.ref L.length,L++[some (.lst [.int a,.int b])]):=by
 have h1:uZ 10 18:=by unfold uZ;decide
 have h2:t7 c 2147483629:=by unfold t7;decide
 have h3:∀(x:Int) (b:Bool),CMul x (if b then 1 else 0):=fun x b=>.inr (by cases b<;>decide);have h4:∀(x:Int) (p:Prop) [Decidable p],CMul x (if p then 1 else 0):=fun x p _=>.inr (by split<;>decide);have h5:∀(x:Int) (p:Prop) [Decidable p],CMul x (if p then 0 else 1):=fun x p _=>.inr (by split<;>decide);simp[xF,Bj,h1,h2,h3,h4,h5]
def M9{L:M}{a b:Int}:Hd (L++[some (.lst [.int a,.int b])]) L.length:=⟨a,b,by simp⟩
def JK{L:M}:fEq (.tup []) (.tup []) L=some (.bl true,L):=by
 show(eqD (.tup []) (.tup []) L).bind _=_;have:eqD (.tup []) (.tup []) L=some true:=by
  show((py 65 L (.tup [])).bind fun d=>(py 65 L (.tup [])).bind fun e=>if(d.canLay0&&e.canLay0&&decide (d.depth<=64))=true then some (PyData.eqv d e) else none)=_;have po:py 65 L (.tup [])=some (.tuple []):=rfl;rw[po];simp[PyData.canLay0,PyData.canLayAll0,PyData.depth,PyData.depthAll,PyData.eqv,PyData.eqvAll]
 rw[this];rfl
def pPp:(k:Nat)->Pap k->PyData
 |0,_=>.tuple []
 |k+1,(rows:List (Bool×Pap k))=>.list (rows.map fun r=>.tuple [.bool r.1,pPp k r.2])
theorem Li{L:M}:∀(k:Nat) (p:Pap k) (j:Nat),2*k+1<=j->py j L (dPp k p)=some (pPp k p)
 |0,p,j,h=>by
  obtain⟨j,rfl⟩:∃i,j=i+1:=⟨j - 1,by omega⟩
  rfl
 |k+1,(rows:List (Bool×Pap k)),j,h=>by
  obtain⟨j,rfl⟩:∃i,j=i+2:=⟨j - 2,by omega⟩
  obtain⟨i,rfl⟩:∃i,j=i+1:=⟨j - 1,by omega⟩
  have:qd (py (i+2) L) (rows.map (dR k))=some (rows.map fun r=>PyData.tuple [.bool r.1,pPp k r.2]):=by
   refine vh fun r _=>?_;have ih:=Li (L:=L) k r.2 (i+1) (by omega);show(qd (py (i+1) L) [.bl r.1,dPp k r.2]).bind _=_;have e:py (i+1) L (.bl r.1)=some (.bool r.1):=rfl;simp only[qd,ih,e,bs]
  show(qd (py (i+2) L) (rows.map (dR k))).bind _=_;rw[this];rfl
def lay_all{J:Type}{f:J->PyData}{l:List J}(h:∀x∈l,(f x).canLay0=true):PyData.canLayAll0 (l.map f)=true:=by
 induction l with
 |nil=>rfl
 |cons a l ih=>simp[PyData.canLayAll0,h a (by simp),ih fun x hx=>h x (by simp[hx])]
def dep_all{J:Type}{f:J->PyData}{b:Nat}{l:List J}(h:∀x∈l,(f x).depth<=b):PyData.depthAll (l.map f)<=b:=by
 induction l with
 |nil=>simp[PyData.depthAll]
 |cons a l ih=>
  have h1:=h a (by simp);have h2:=ih fun x hx=>h x (by simp[hx]);simp only[VB,PyData.depthAll];omega
theorem Hy:∀(k:Nat) (p:Pap k),(pPp k p).canLay0=true
 |0,_=>rfl
 |k+1,(rows:List (Bool×Pap k))=>by
  show PyData.canLayAll0 _=true;exact lay_all fun r _=>by simp[PyData.canLay0,PyData.canLayAll0,Hy k r.2]
theorem Gn:∀(k:Nat) (p:Pap k),(pPp k p).depth<=2*k+1
 |0,_=>by simp[pPp,PyData.depth,PyData.depthAll]
 |k+1,(rows:List (Bool×Pap k))=>by
  have:=dep_all (f:=fun r:Bool×Pap k=>PyData.tuple [.bool r.1,pPp k r.2]) (b:=2*k+2) (l:=rows) fun r _=>by
   have:=Gn k r.2;simp[PyData.depth,PyData.depthAll];omega
  show(PyData.list _).depth<=_;simp only[PyData.depth];omega
def IW{k:Nat}{p:Pap (k+1)}{L:M}(hk:k<=20):fEq (dPp (k+1) p) (.tup []) L=some (.bl false,L):=by
 have e1:=Li (L:=L) (k+1) p 65 (by omega);have e2:py 65 L (.tup [])=some (.tuple []):=rfl;have h1:=Hy (k+1) p;have h2:=Gn (k+1) p;have:eqD (dPp (k+1) p) (.tup []) L=some false:=by
  show((py 65 L (dPp (k+1) p)).bind fun d=>(py 65 L (.tup [])).bind fun e=>if(d.canLay0&&e.canLay0&&decide (d.depth<=64))=true then some (PyData.eqv d e) else none)=_;rw[e1,e2,bs,bs,if_pos (by rw[h1];simp[PyData.canLay0,PyData.canLayAll0];omega)];rfl
 show(eqD (dPp (k+1) p) (.tup []) L).bind _=_;rw[this];rfl
def xz{L Z5:M}{k:Nat}(h:Hd L k)(g:Gr L Z5):Hd Z5 k:=let ⟨a,b,e⟩:=h;⟨a,b,g.get e⟩
structure Kp (h:Nat) (L Z5:M):Prop where
 len:L.length<=Z5.length
 hd:Hd Z5 h
 at_:∀j,j<L.length->j≠h->Z5[j]?=L[j]?
def Kp.refl{h:Nat}{L:M}(d:Hd L h):Kp h L L:=⟨Vv _,d,fun _ _ _=>rfl⟩
def Kp.trans{h:Nat}{L Z5 Zb:M}(a:Kp h L Z5)(b:Kp h Z5 Zb):Kp h L Zb:=
 ⟨V0 a.len b.len,b.hd,fun j hj hn=>by rw[b.at_ j (VM hj a.len) hn,a.at_ j hj hn]⟩
def Kp.dn{h:Nat}{L Z5:M}(d:Hd L h)(x:Dn h L Z5):Kp h L Z5:=⟨Nat.le_of_eq x.len.symm,Dn.hd d x,fun j _ hn=>x.ne hn⟩
def Vc{ds:List D}{r:Nat}(h:r<=ds.length):rV ds none (some (r:Int))=ds.take r:=by
 unfold rV;rw[HT.sIx_none,HT.sIx_nat,List.drop_zero,Nat.sub_zero,Nat.min_eq_left h]
def KI{ds:List D}{r:Nat}(h:r<=ds.length):rV ds (some (r:Int)) none=ds.drop r:=by
 unfold rV;rw[HT.sIx_none,HT.sIx_nat,Nat.min_eq_left h];exact List.take_of_length_le (by simp)
def wo{ds:List D}{lo hi:Option Int}{L:M}:fSl (.lst ds) lo hi L=some (.lst (rV ds lo hi),L):=rfl
def Mv{k:Nat}{p:Pap k}{L:M}(hk:k<=20):fEq (dPp k p) (.tup []) L=some (.bl (k==0),L):=by
 cases k with
 |zero=>exact JK
 |succ k=>exact IW (by omega)
section
variable {n:Nat}
theorem Gz{k:Nat}{rows:List (Bool×Pap k)}(h:rows.length=(prs n).length):rW n (.lst (rows.map (dR k)))=some (rows.map fun r=>(r.1,dPp k r.2)):=by
 have:rW n (.lst (rows.map (dR k)))=if(rows.map (dR k)).length=(prs n).length then qd qY (rows.map (dR k)) else none:=rfl
 rw[this,if_pos (by rw[VF];exact h)];exact vh fun x _=>rfl
theorem y8{k:Nat}{as:List An}{d:D}:qZ n (k+1) as d=(qj as&&match rW n d with
  |none=>false
  |some rows=>((prs n).zip rows).all fun x=>qZ n k (as++[(x.1.1,x.1.2,x.2.1)]) x.2.2):=rfl
theorem Hs:∀(k:Nat) (as:List An) (p:Pap k),Sh n k p->qZ n k as (dPp k p)=v7 n k as p
 |0,as,p,_=>by
  show(qj as&&(true&&(sI (qv n as)).isNone))=(qj as&&(sI (qv n as)).isNone)
  rw[Bool.true_and]
 |k+1,as,(rows:List (Bool×Pap k)),⟨h1,h2⟩=>by
  have hle:v7 n (k+1) as rows=(qj as&&((prs n).zip (rows:List (Bool×Pap k))).all fun x=>v7 n k (as++[(x.1.1,x.1.2,x.2.1)]) x.2.2):=rfl;rw[hle,Ba,y8,Gz h1];have ht:∀(ps:List (Nat×Nat)) (rows:List (Bool×Pap k)),(∀r∈rows,Sh n k r.2)->((ps.zip (rows.map fun r=>(r.1,dPp k r.2))).all fun x=>qZ n k (as++[(x.1.1,x.1.2,x.2.1)]) x.2.2)=(ps.zip rows).all fun x=>v7 n k (as++[(x.1.1,x.1.2,x.2.1)]) x.2.2:=by
   intro ps;induction ps with
   |nil=>intro rows _;rfl
   |cons p ps ih=>
    intro rows hr;cases rows with
    |nil=>rfl
    |cons r rows=>
     rw[VB,List.zip_cons_cons,List.zip_cons_cons,List.all_cons,List.all_cons,ih rows fun x hx=>hr x (by simp[hx]),Hs k _ r.2 (hr r (by simp))]
  simp only[ht (prs n) rows h2]
theorem Ke(hp:1<=(prs n).length):∀(j k:Nat) (as:List An) (p:Pap k),j≠k->Sh n k p->qZ n j as (dPp k p)=false
 |0,0,_,_,h,_=>absurd rfl h
 |0,k+1,as,(rows:List (Bool×Pap k)),_,_=>by
  show(qj as&&(false&&(sI (qv n as)).isNone))=false;rw[Bool.false_and,WP]
 |j+1,0,as,_,_,_=>by
  show(qj as&&false)=false;rw[WP]
 |j+1,k+1,as,(rows:List (Bool×Pap k)),h,⟨h1,h2⟩=>by
  rw[Ba,y8,Gz h1];cases hps:prs n with
  |nil=>rw[hps] at hp;simp at hp
  |cons a ps=>
   rw[hps] at h1;cases rows with
   |nil=>simp at h1
   |cons r rows=>
    show(qj as&&((a::ps).zip ((r.1,dPp k r.2)::rows.map fun r=>(r.1,dPp k r.2))).all fun x=>qZ n j (as++[(x.1.1,x.1.2,x.2.1)]) x.2.2)=false;rw[List.zip_cons_cons,List.all_cons,Ke hp j k _ r.2 (by omega) (h2 r (by simp)),Bool.false_and,WP]
theorem xZ{j:Nat}{d:D}(h:tyO d=true)(hl:∀ds,d≠.lst ds):Pl j d:=by
 cases j with
 |zero=>exact h
 |succ j=>exact⟨h,fun ds e=>absurd e (hl ds)⟩
def Pr(k:Nat)(r:D):Prop:=tyO r=true/\∀xs,r=.tup xs->∀x∈xs,tyO x=true/\Pl k x
theorem zh{k:Nat}{p:Pap k}:tyO (dPp k p)=true:=by cases k<;>rfl
theorem y0(hp:(prs n).length<=1000):∀(j k:Nat) (p:Pap k),Sh n k p->Pl j (dPp k p)
 |0,k,p,_=>zh
 |j+1,0,p,_=>⟨rfl,fun ds e=>by cases e⟩
 |j+1,k+1,(rows:List (Bool×Pap k)),⟨h1,h2⟩=>by
  refine⟨rfl,fun ds e=>?_⟩;rw[Ba] at e;cases e;refine⟨by rw[VF];omega,fun r hr=>?_⟩;obtain⟨x,hx,rfl⟩:=VW.mp hr;refine⟨rfl,fun xs e y hy=>?_⟩;cases e;rcases VI.mp hy with rfl|hy
  ·exact⟨rfl,xZ rfl fun _ e=>by cases e⟩
  ·cases VO.mp hy;exact⟨zh,y0 hp j k x.2 (h2 x hx)⟩
theorem Sq(hp:(prs n).length<=1000){k:Nat}{x:Bool×Pap k}(h:Sh n k x.2):Pr k (dR k x):=by
 refine⟨rfl,fun xs e y hy=>?_⟩;cases e;rcases VI.mp hy with rfl|hy
 ·exact⟨rfl,xZ rfl fun _ e=>by cases e⟩
 ·cases VO.mp hy;exact⟨zh,y0 hp k k x.2 h⟩
structure Bad (n k:Nat) (d:D):Prop where
 pl:Pl k d
 no:∀as,qZ n k as d=false
theorem Bs{k:Nat}{d:D}(h:tyO d=true)(hl:∀ds,d≠.lst ds):Bad n (k+1) d:=by
 refine⟨xZ h hl,fun as=>?_⟩;rw[y8];have:rW n d=none:=by
  unfold rW;have:lsD d=none:=by cases d<;>first|rfl|exact absurd rfl (hl _)
  rw[this]
 rw[this,WP]
theorem Fe{k:Nat}{ds:List D}(h1:ds.length<=1000)(h2:ds.length≠(prs n).length)(h3:∀r∈ds,Pr k r):Bad n (k+1) (.lst ds):=by
 refine⟨⟨rfl,fun es e=>by cases e;exact⟨h1,h3⟩⟩,fun as=>?_⟩;rw[y8];have:rW n (.lst ds)=if ds.length=(prs n).length then qd qY ds else none:=rfl
 rw[this,if_neg h2,WP]
theorem Ld{k q:Nat}{ds:List D}{r:D}(hp:(prs n).length<=1000)(h1:ds.length=(prs n).length)(hq:q<ds.length)(h3:∀r∈ds,Pr k r)(h4:Pr k r)(h5:∀y,qY r=some y->∀as,qZ n k as y.2=false):Bad n (k+1) (.lst (ds.take q++[r]++ds.drop (q+1))):=by
 have hlen:(ds.take q++[r]++ds.drop (q+1)).length=(prs n).length:=by simp;omega
 have hat:(ds.take q++[r]++ds.drop (q+1))[q]?=some r:=by
  rw[List.append_assoc,VV (by rw[Wz];omega),Wz,Nat.min_eq_left (by omega),Nat.sub_self];rfl
 have hall:∀x∈ds.take q++[r]++ds.drop (q+1),Pr k x:=by
  intro x hx;rcases VQ.mp hx with hx|hx
  ·rcases VQ.mp hx with hx|hx
   ·exact h3 x (List.mem_of_mem_take hx)
   ·cases VO.mp hx;exact h4
  ·exact h3 x (List.mem_of_mem_drop hx)
 generalize ds.take q++[r]++ds.drop (q+1)=es at hlen hat hall;refine⟨⟨rfl,fun _ e=>by cases e;exact⟨by omega,hall⟩⟩,fun as=>?_⟩;rw[y8];have he:rW n (.lst es)=qd qY es:=by
  have:rW n (.lst es)=if es.length=(prs n).length then qd qY es else none:=rfl
  rw[this,if_pos hlen]
 rw[he];cases ho:qd qY es with
 |none=>rw[WP]
 |some rows=>
  obtain⟨o1,o2⟩:=Dw ho;obtain⟨y,hy,hr⟩:=o2 q r hat
  have hq2:q<((prs n).zip rows).length:=by rw[List.length_zip];omega
  have hm:=V5 hq2;rw[List.getElem_zip] at hm;have hrq:rows[q]'(by rw[List.length_zip] at hq2;omega)=y:=by
   obtain⟨_,e⟩:=Vw.mp hr;exact e
  have:(((prs n).zip rows).all fun x=>qZ n k (as++[(x.1.1,x.1.2,x.2.1)]) x.2.2)=false:=by
   rw[List.all_eq_false];refine⟨_,hm,?_⟩;show ¬qZ n k _ (rows[q]'_).2=true;rw[hrq,h5 y hy];exact Wy
  simp only[this,WP]
end
def mmS:Nat->List D->M->Fr
 |0=>fun _ _=>none
 |m+1=>yp tM (mmS m)
def Py{xs:List D}{j:Nat}{L:M}(h:j<=1000)(h2:xs.length*j<=1000000):tF (.lst xs) (.int (j:Int)) L=some (.lst (List.replicate j xs).flatten,L):=by
 show(if -1000000<=(j:Int)/\(j:Int)<=1000000/\xs.length*(j:Int).toNat<=1000000 then some (D.lst (List.replicate (j:Int).toNat xs).flatten,L) else none)=_;rw[if_pos ⟨by omega,by omega,by simpa using h2⟩,Int.toNat_natCast]
section
variable {n h:Nat}
theorem Cj{x:Option (Out×G×M)}{R:D->M->Prop}(w:Ws x fun o _ Z5=>∃d,o=.rt d/\R d Z5):Ws x (xw R):=w.imp fun o O L ⟨d,e,r⟩=>by subst e;exact r
theorem AQ{x:Option (Out×G×M)}{R:D->M->Prop}{sb:SV}(w:Ws x fun o _ Z5=>∃d,o=.rt d/\R d Z5):Ws x (qSq sb (xw R)):=w.imp fun o O L ⟨d,e,r⟩=>by subst e;exact r
def wM(k:Nat)(x:Bool×Pap k):List D:=[.lst [.bl x.1,dPp k x.2],.tup [.bl x.1],.tup [.bl x.1,dPp k x.2,dPp k x.2],.non,.int 0,.str "",.tup [.int (if x.1 then 1 else 0),dPp k x.2],.tup [],.tup [dPp k x.2,.bl x.1]]
theorem N7(hp:(prs n).length<=1000){k:Nat}{x:Bool×Pap k}(h:Sh n k x.2):∀o∈wM k x,Pr k o/\qY o=none:=by
 have pb:∀b,tyO (.bl b)=true/\Pl k (.bl b):=fun b=>⟨rfl,xZ rfl fun _ e=>by cases e⟩
 have pi:∀i,tyO (.int i)=true/\Pl k (.int i):=fun b=>⟨rfl,xZ rfl fun _ e=>by cases e⟩
 have pp:tyO (dPp k x.2)=true/\Pl k (dPp k x.2):=⟨zh,y0 hp k k x.2 h⟩
 have tt:∀ys:List D,(∀y∈ys,tyO y=true/\Pl k y)->Pr k (.tup ys):=fun ys hy=>⟨rfl,fun xs e y hm=>by cases e;exact hy y hm⟩
 have no:∀o:D,tyO o=true->(∀xs,o≠.tup xs)->Pr k o:=fun o ho hn=>⟨ho,fun xs e=>absurd e (hn xs)⟩
 intro o ho;simp only[wM,VI,WB,or_false] at ho;rcases ho with rfl|rfl|rfl|rfl|rfl|rfl|rfl|rfl|rfl
 ·exact⟨no _ rfl (fun _ e=>by cases e),rfl⟩
 ·exact⟨tt _ (by simpa using pb _),rfl⟩
 ·exact⟨tt _ (by simp;exact⟨pb _,pp⟩),rfl⟩
 ·exact⟨no _ rfl (fun _ e=>by cases e),rfl⟩
 ·exact⟨no _ rfl (fun _ e=>by cases e),rfl⟩
 ·exact⟨no _ rfl (fun _ e=>by cases e),rfl⟩
 ·exact⟨tt _ (by simp;exact⟨pi _,pp⟩),rfl⟩
 ·exact⟨tt _ (by simp),rfl⟩
 ·exact⟨tt _ (by simp;exact⟨pp,pb _⟩),by cases k<;>rfl⟩
theorem P5(hp1:1<=(prs n).length)(hp2:(prs n).length<=900)(way:Nat)(hw:way<=4):∀(k:Nat) (p:Pap k) (L:M) (m:Nat),k<m->k<=20->(k=0->way=3)->Sh n k p->Hd L h->Wp (mmS m [.ref h,dPp k p,.int (way:Int)] L) fun d Z5=>Kp h L Z5/\Bad n k d:=by
 intro k;induction k with
 |zero=>
  intro p L m hm _ h0 hs hd;obtain rfl:=h0 rfl;obtain⟨m,rfl⟩:∃j,m=j+1:=⟨m - 1,by omega⟩
  unfold mmS yp zq;refine(rA rfl).mpr ?_;show Ws (pM _ _ [some (.ref h),some (.tup []),some (.int ((3:Nat):Int)),none,none,none,none,none] L) _;have e3:decide (((3:Nat):Int)=3)=true:=by decide
  obtain⟨t,Z4,e1,d1,t0,t1⟩:=xk (m:=4) hd (by decide) (by decide);obtain⟨q,rfl⟩:∃q:Nat,t=(q:Int):=⟨t.toNat,by omega⟩
  simp![e3];rw[qp (by simp)];simp![JK];rw[qp (by simp)];simp!;rw[qp (by simp)];simp!;rw[rR (by simp)];simp![e1];rw[Py (by omega) (by simp;omega)];simp!;refine⟨Kp.dn hd d1,rfl,fun as=>?_⟩;show(qj as&&(false&&(sI (qv n as)).isNone))=false;rw[Bool.false_and,WP]
 |succ k ih=>
  rintro(rows:List (Bool×Pap k)) L m hm hk20 _ ⟨hl,hs⟩ hd;obtain⟨m,rfl⟩:∃j,m=j+1:=⟨m - 1,by omega⟩
  have heq:∀L:M,fEq (.lst (rows.map (dR k))) (.tup []) L=some (.bl false,L):=fun L=>IW (k:=k) (p:=rows) (by omega);rw[Ba];unfold mmS yp zq;refine(rA rfl).mpr ?_;show Ws (pM _ _ [some (.ref h),some (.lst (rows.map (dR k))),some (.int (way:Int)),none,none,none,none,none] L) _;generalize hF1:pM (pX (vL qo _) (pJ 6)) _=F1;generalize hF2:pM (pX _ (pJ 7)) _=F2;generalize hF3:pT (v2 qi (v2 qi (vSl (be 1) sB (sV (be 3))) (vL qo (pG (vL p9 (pG (be 4) (pG (vL (mmS m) (pG (be 0) (pG (be 5) (pG (be 2) pI)))) pI))) pI))) (vSl (be 1) (sV (v2 qi (be 3) (vC (.int 1)))) sB))=F3;have tl:∀L:M,qy (.lst (rows.map (dR k))) L=some (.int (rows.length:Int),L):=fun L=>by
   show some (D.int ((rows.map (dR k)).length:Int),L)=_;rw[VF]
  obtain⟨t,Z4,e1,d1,t0,t1⟩:=xk (m:=(rows.length:Int)) hd (by omega) (by omega);obtain⟨q,rfl⟩:∃q:Nat,t=(q:Int):=⟨t.toNat,by omega⟩
  have hq:q<rows.length:=by omega
  have k1:=Kp.dn hd d1;have ex:∀L:M,fIx (.lst (rows.map (dR k))) (.int (q:Int)) L=some (dR k rows[q],L):=fun _=>Be (by rw[VR,VA hq];rfl);have hx:=hs _ (V5 hq);have hmem:dR k rows[q]∈rows.map (dR k):=VW.mpr ⟨_,V5 hq,rfl⟩;generalize rows[q]=x at ex hx hmem;have ht:((q:Int)+1)=((q+1:Nat):Int):=by omega
  have c1:rV (rows.map (dR k)) none (some (q:Int))=(rows.map (dR k)).take q:=Vc (by rw[VF];omega);have c2:rV (rows.map (dR k)) (some ((q+1:Nat):Int)) none=(rows.map (dR k)).drop (q+1):=KI (by rw[VF];omega);have c3:rV (rows.map (dR k)) (some (q:Int)) none=(rows.map (dR k)).drop q:=KI (by rw[VF];omega);have hpr:∀r∈rows.map (dR k),Pr k r:=fun r hr=>by
   obtain⟨y,hy,rfl⟩:=VW.mp hr;exact Sq (by omega) (hs y hy)
  have hdl:(rows.map (dR k)).length=(prs n).length:=by rw[VF];exact hl
  have hq2:q<(rows.map (dR k)).length:=by rw[VF];exact hq
  generalize hds:rows.map (dR k)=ds at*;have hl1:(ds.take q).length<=1000:=by rw[Wz];omega
  have hl2:(ds.drop (q+1)).length<=1000:=by rw[List.length_drop];omega
  have hl3:(ds.drop q).length<=1000:=by rw[List.length_drop];omega
  have fin1:∀Z3 o6 o7,Kp h L Z3->Ws (F1 [some (.ref h),some (.lst ds),some (.int (way:Int)),some (.int (q:Int)),some (.bl x.1),some (dPp k x.2),o6,o7] Z3) (fun o _ Z5=>∃d,o=.rt d/\Kp h L Z5/\Bad n (k+1) d):=by
   intro Z3 o6 o7 k2;rw[←hF1];obtain⟨u,ZN,e3,d3,u0,u1⟩:=xk (m:=9) k2.hd (by decide) (by decide);obtain⟨v,rfl⟩:∃v:Nat,u=(v:Int):=⟨u.toNat,by omega⟩
   have hv:v<(wM k x).length:=by show v<9;omega
   have eo:fIx (.lst (wM k x)) (.int (v:Int)) ZN=some ((wM k x)[v],ZN):=Be (VA hv);have ho:=N7 (n:=n) (by omega) hx _ (V5 hv);generalize (wM k x)[v]=od at eo ho;simp!;rw[rR (by simp)];simp!;rw[qp (by simp)];simp!;rw[qp (by simp)];simp!;rw[qp (by simp)];simp!;rw[qp (by simp)];simp!;rw[qp (by simp)];simp!;rw[rR (by simp)];simp![wo,c1,e3];unfold wM at eo;rw[eo];simp!;rw[rR (by simp)];simp!;rw[uk (by simp at hl1⊢;omega)];simp![wo,ht,c2];rw[uk (by simp at hl1 hl2⊢;omega)];simp!;exact⟨_,rfl,k2.trans (Kp.dn k2.hd d3),Ld (by omega) hdl hq2 hpr ho.1 fun y hy=>by rw[ho.2] at hy;cases hy⟩
  have fin2:way<3->∀Z3 o6 o7,Kp h L Z3->Ws (F2 [some (.ref h),some (.lst ds),some (.int (way:Int)),some (.int (q:Int)),some (.bl x.1),some (dPp k x.2),o6,o7] Z3) (fun o _ Z5=>∃d,o=.rt d/\Kp h L Z5/\Bad n (k+1) d):=by
   intro hw3 Z3 o6 o7 k2;rw[←hF2];simp![wo,c1,ex];rw[rR (by simp)];simp!;rw[uk (by simp at hl1⊢;omega)];simp![wo,c3];rw[uk (by simp at hl1 hl3⊢;omega)];simp![wo,c1,ht,c2];rw[uk (by simp at hl1 hl2⊢;omega)];simp!;rw[qp (by simp)];simp!;rw[rR (by simp)];simp!;have b0:Bad n (k+1) (.lst (ds.take q++ds.drop (q+1))):=Fe (by simp at hl1 hl2⊢;omega) (by simp;omega) fun r hr=>by
    rcases VQ.mp hr with hr|hr
    ·exact hpr r (List.mem_of_mem_take hr)
    ·exact hpr r (List.mem_of_mem_drop hr)
   have b1:Bad n (k+1) (.lst (ds.take q++[dR k x]++ds.drop q)):=Fe (by simp;omega) (by simp;omega) fun r hr=>by
    rcases VQ.mp hr with hr|hr
    ·rcases VQ.mp hr with hr|hr
     ·exact hpr r (List.mem_of_mem_take hr)
     ·cases VO.mp hr;exact hpr _ hmem
    ·exact hpr r (List.mem_of_mem_drop hr)
   have b2:Bad n (k+1) (.tup []):=Bs rfl fun _ e=>by cases e
   obtain⟨d,hd3,hb⟩:∃d,([.lst (ds.take q++ds.drop (q+1)),.lst (ds.take q++[dR k x]++ds.drop q),.tup []]:List D)[way]?=some d/\Bad n (k+1) d:=by
    have:way=0\/way=1\/way=2:=by omega
    rcases this with rfl|rfl|rfl
    ·exact⟨_,rfl,b0⟩
    ·exact⟨_,rfl,b1⟩
    ·exact⟨_,rfl,b2⟩
   rw[Be hd3];simp!;exact⟨_,rfl,k2,hb⟩
  have fin3:(k=0->way=3)->∀Z3 o6 o7,Kp h L Z3->Ws (F3 [some (.ref h),some (.lst ds),some (.int (way:Int)),some (.int (q:Int)),some (.bl x.1),some (dPp k x.2),o6,o7] Z3) (fun o _ Z5=>∃d,o=.rt d/\Kp h L Z5/\Bad n (k+1) d):=by
   intro hk0 Z3 o6 o7 k2;rw[←hF3];simp![wo,c1];refine(ih x.2 Z3 m (by omega) (by omega) hk0 hx k2.hd).imp ?_;rintro d ZN ⟨k3,hb⟩;simp!;rw[qp (by simp)];simp!;rw[rR (by simp)];simp!;rw[uk (by simp at hl1⊢;omega)];simp![wo,ht,c2];rw[uk (by simp at hl1 hl2⊢;omega)];simp!;have ty:tyO d=true:=by
    have:=hb.pl;cases k with
    |zero=>exact this
    |succ k=>exact this.1
   refine⟨_,rfl,k2.trans k3,Ld (by omega) hdl hq2 hpr ⟨rfl,fun xs e y hy=>?_⟩ fun y hy as=>?_⟩
   ·cases e;rcases VI.mp hy with rfl|hy
    ·exact⟨rfl,xZ rfl fun _ e=>by cases e⟩
    ·cases VO.mp hy;exact⟨ty,hb.pl⟩
   ·cases hy;exact hb.no as
  have go:∀Zv,Zv=L->Ws (pM (pX (vL tM (pG (be 0) (pG (v1 qy (be 1)) pI))) (pJ 3)) (pM (pX (v2 fIx (be 1) (be 3)) (qm 2 (pS (pJ 4) (pS (pJ 5) qA)))) (pM (sIf (tm (vT (v2 fEq (be 2) (vC (.int 4)))) (bOr (vT (v2 fEq (be 5) (vL p9 pI))) (vT (v2 fEq (vL tM (pG (be 0) (pG (vC (.int 2)) pI))) (vC (.int 0)))))) F1 sNx) (pM (sIf (tm (vT (v2 fLt (be 2) (vC (.int 3)))) (bOr (vT (v2 fEq (be 5) (vL p9 pI))) (vT (v2 fEq (vL tM (pG (be 0) (pG (vC (.int 2)) pI))) (vC (.int 0)))))) F2 sNx) F3))) [some (.ref h),some (.lst ds),some (.int (way:Int)),none,none,none,none,none] Zv) (xw fun d Z5=>Kp h L Z5/\Bad n (k+1) d):=by
   rintro _ rfl;simp![tl,e1,ex];show Wp (qm 2 _ (.tup [.bl x.1,dPp k x.2]) _ _) _;refine(wg rfl).mpr ?_;simp!;have hu:fEq (dPp k x.2) (.tup []) Z4=some (.bl (k==0),Z4):=Mv (by omega);obtain⟨u,Z3,e2,d2,_,_⟩:=xk (m:=2) k1.hd (by decide) (by decide);have k2:=k1.trans (Kp.dn k1.hd d2);have hw5:way<3\/way=3\/way=4:=by omega
   rcases hw5 with hw5|hw5|hw5
   ·rw[VG (show ¬(way:Int)=4 by omega)];simp!;rw[VX (show(way:Int)<3 by omega)];simp!;rw[qp (by simp)];simp![hu];cases hk:k==0 with
    |true=>
     simp!;exact AQ (fin2 hw5 Z4 _ _ k1)
    |false=>
     simp![e2];cases decide (u=0) with
     |true=>
      simp!;exact AQ (fin2 hw5 Z3 _ _ k2)
     |false=>
      simp!;exact Cj (fin3 (fun z=>by subst z;cases hk) Z3 _ _ k2)
   ·rw[VG (show ¬(way:Int)=4 by omega)];simp!;rw[VG (show ¬(way:Int)<3 by omega)];simp!;exact Cj (fin3 (fun _=>hw5) Z4 _ _ k1)
   ·rw[VX (show(way:Int)=4 by omega)];simp!;rw[qp (by simp)];simp![hu];cases hk:k==0 with
    |true=>
     simp!;exact AQ (fin1 Z4 _ _ k1)
    |false=>
     simp![e2];cases decide (u=0) with
     |true=>
      simp!;exact AQ (fin1 Z3 _ _ k2)
     |false=>
      simp!;rw[VG (show ¬(way:Int)<3 by omega)];simp!;exact Cj (fin3 (fun z=>by subst z;cases hk) Z3 _ _ k2)
  have hgo:=go L rfl;generalize pM (pX (vL tM (pG (be 0) (pG (v1 qy (be 1)) pI))) (pJ 3)) _=REST at hgo⊢;simp!;cases hw3:decide ((way:Int)=3) with
  |false=>
   simp!;exact hgo
  |true=>
   simp!;rw[qp (by simp)];simp![heq];exact hgo
end
def Dc(CS C CF CT:Addr):C0:=As xF tM (zK CS C CF CT) (tS C CF CT) (mmS 10)
def UG{O:G}{L:M}{R:D->M->Prop}:Wp (wd O L) R↔R (.ref L.length) (L++[some (.dK [])]):=wp_some
def Ov(n:Nat):qq 0 n=(List.range n).map fun i:Nat=>D.int (i:Int):=by simp[qq]
def d20:qZ 2 0 [] (.tup [])=true:=by decide +kernel
def d21:qZ 2 1 [] (.lst [.tup [.bl true,.tup []]])=false:=by decide +kernel
def d22:qZ 2 1 [] (.lst [.tup [.bl false,.tup []]])=false:=by decide +kernel
def xr{b:Bool}{L:M}:ue (.bl b) (.bl b) L=some (.bl false,L):=by cases b<;>rfl
def BH{b:Bool}{L:M}:wN (.bl b) (.bl b) L=some (.bl true,L):=by cases b<;>rfl
section
variable {CS C CF CT:Addr}
theorem Ra:∀n<5,(prs n).length<=900:=by decide +kernel
theorem ON:∀n<5,2<=n->1<=(prs n).length:=by decide +kernel
theorem Je{b:Bool}:Pl 1 (.lst [.tup [.bl b,.tup []]]):=by
 refine⟨rfl,fun ds e=>?_⟩;cases e;refine⟨by simp,fun r hr=>?_⟩;cases VO.mp hr;refine⟨rfl,fun xs e x hx=>?_⟩;cases e;rcases VI.mp hx with rfl|hx
 ·exact⟨rfl,rfl⟩
 ·cases VO.mp hx;exact⟨rfl,rfl⟩
theorem Vh(ns:List Int)(_:ns.length<=63):∃Z5,Dc CS C CF CT [.scr (ns.map D.int)] []=some (.bl true,Z5):=by
 suffices h:Wp (Dc CS C CF CT [.scr (ns.map D.int)] []) fun d _=>d=.bl true by
  obtain⟨d,Z5,e,rfl⟩:=h;exact⟨Z5,e⟩
 have hp:xf (.int 10) (.int 18) []=some (.int (10^18),[]):=by
  have h1:uZ 10 18:=by unfold uZ;decide
  simp[h1]
 have hsl:fSl (.scr (ns.map D.int)) none (some 8) []=some (.lst ((ns.take 8).map D.int),[]):=by
  show some (D.lst (rV (ns.map D.int) none (some 8)),([]:M))=_;unfold rV;rw[HT.sIx_none,show(some (8:Int))=some ((8:Nat):Int) from rfl,HT.sIx_nat,List.drop_zero,Nat.sub_zero,VF,←List.map_take,List.take_eq_take_min (i:=8)]
 unfold Dc As Cd;refine(rA rfl).mpr ?_;show Ws (pM _ _ [some (.scr (ns.map D.int)),none,none,none,none,none,none,none,none] []) _;simp![hp];rw[rR (by simp)];simp![hsl];rw[uk (by simp;omega)];simp!;refine uL (fun r O _=>∃(l:List Int) (o1 o2 o3 o4 o5 o6 o7 o8:Option D),r=l.map D.int/\O=[some (.scr (ns.map D.int)),o1,o2,o3,o4,o5,o6,o7,o8]) _ ⟨(10^18:Int)::ns.take 8,_,_,_,_,_,_,_,_,rfl,rfl⟩ ?_ ?_
 ·rintro d r O L ⟨l,o1,o2,o3,o4,o5,o6,o7,o8,hr,rfl⟩;cases l with
  |nil=>cases hr
  |cons c l=>
   rw[VB] at hr;injection hr with h3 h4
   subst h3 h4;simp!;obtain⟨a,b,eh⟩:=Qa c L;refine Aw eh ?_;have d1:Hd (L++[some (.lst [.int a,.int b])]) L.length:=M9;generalize L++[some (Z8.lst [.int a,.int b])]=Z4 at d1;generalize L.length=h at d1;obtain⟨t,Z3,e2,dn2,t0,t1⟩:=xk (m:=2) d1 (by decide) (by decide);have d2:=Dn.hd d1 dn2;simp![e2];obtain⟨k,hn,hk⟩:∃k:Nat,3+t=((k+1:Nat):Int)/\(k=2\/k=3):=⟨(2+t).toNat,by omega,by omega⟩
   rw[hn];obtain⟨p,g⟩:∃p,z7 k p:=by
    rcases hk with rfl|rfl
    ·exact JH Vo
    ·exact JH MP
   have hs:=Fa k [] p g.is;have hk3:k<=3:=by omega
   have hp1:1<=(prs (k+1)).length:=ON (k+1) (by omega) (by omega);have hp2:(prs (k+1)).length<=900:=Ra (k+1) (by omega);refine(UX hk g).imp ?_;rintro _ ZN ⟨rfl,g3⟩;have d3:=xz d2 g3;have ek:(((k+1:Nat):Int) - 1)=(k:Int):=by omega
   simp![ek];refine(u6 (n:=k+1) (by omega) (by omega) (by omega) (by omega) (y0 (n:=k+1) (by omega) k k p hs)).imp ?_;rintro _ Zq ⟨rfl,g4⟩;have d4:=xz d3 g4;rw[Hs k [] p hs,g.let_];simp![xr];rw[rR (by simp)];simp!;refine uL (fun r O Z5=>∃(l:List Nat) (o6:Option D),r=l.map (fun w:Nat=>D.int (w:Int))/\(∀w∈l,w<=4)/\O=[some (.scr (ns.map D.int)),some (.int c),some (.ref h),some (.int ((k+1:Nat):Int)),some (dPp k p),some (.int (k:Int)),o6,o7,o8]/\Hd Z5 h) _ ⟨[0,1,2,3,4,4,4],_,rfl,by decide,rfl,d4⟩ ?_ ?_
   ·rintro d r O Zp ⟨l2,o6,hr,hl4,rfl,d5⟩;cases l2 with
    |nil=>cases hr
    |cons w l2=>
     rw[VB] at hr;injection hr with h5 h6
     subst h5 h6;simp!;refine(P5 hp1 hp2 w (hl4 w (by simp)) k p Zp 10 (by omega) (by omega) (fun z=>by omega) hs d5).imp ?_;rintro d Y4 ⟨k6,hb⟩;simp!;refine(u6 (n:=k+1) (by omega) (by omega) (by omega) (by omega) hb.pl).imp ?_;rintro _ Zj ⟨rfl,g7⟩;rw[hb.no []];simp![xr];exact⟨trivial,l2,_,rfl,fun x hx=>hl4 x (by simp[hx]),rfl,xz k6.hd g7⟩
   ·rintro O Zp ⟨l2,o6,hr,hl4,rfl,d5⟩;simp![UG];rw[qp (by simp)];simp!;rw[qp (by simp)];simp!;rw[qp (by simp)];simp!;have ht3:∀L:M,yI (.tup [.tup [.bl true,.tup []]]) (.int 3) L=some (.tup [.tup [.bl true,.tup []],.tup [.bl true,.tup []],.tup [.bl true,.tup []]],L):=fun _=>rfl;simp![ht3];rw[rR (by simp)];simp!;have d6:Hd (Zp++[some (.dK [])]) h:=xz d5 gr_app;have hdk:(Zp++[some (Z8.dK [])])[Zp.length]?=some (some (.dK [])):=by simp
    generalize Zp++[some (Z8.dK [])]=Y4 at d6 hdk;generalize Zp.length=j at hdk;refine uL (fun r O Z5=>∃(o7:Option D),(∀d∈r,d=.ref j\/(tyO d=true/\∀ds,d≠.lst ds))/\O=[some (.scr (ns.map D.int)),some (.int c),some (.ref h),some (.int ((k+1:Nat):Int)),some (dPp k p),some (.int (k:Int)),o6,o7,o8]/\Hd Z5 h/\Z5[j]?=some (some (.dK []))) _ ⟨_,?_,rfl,d6,hdk⟩ ?_ ?_
    ·intro d hd;simp only[VI,WB,or_false] at hd;rcases hd with rfl|rfl|rfl|rfl|rfl|rfl
     ·exact .inr ⟨rfl,fun _ e=>by cases e⟩
     ·exact .inr ⟨rfl,fun _ e=>by cases e⟩
     ·exact .inr ⟨rfl,fun _ e=>by cases e⟩
     ·exact .inr ⟨rfl,fun _ e=>by cases e⟩
     ·exact .inl rfl
     ·exact .inr ⟨rfl,fun _ e=>by cases e⟩
    ·rintro d r O Zj ⟨o7,hall,rfl,d7,hdk7⟩;simp!;have hr:Wp (tS C CF CT [.int ((k+1:Nat):Int),.int (k:Int),d] Zj) fun x Z5=>x=.bl false/\Gr Zj Z5:=by
      obtain⟨q,rfl⟩:∃q,k=q+1:=⟨k - 1,by omega⟩
      rcases hall d (by simp) with rfl|⟨h1,h2⟩
      ·exact RZ (by omega) (by omega) hdk7
      ·have hb:Bad (q+1+1) (q+1) d:=Bs h1 h2;have:=u6 (C:=C) (CF:=CF) (CT:=CT) (L:=Zj) (n:=q+1+1) (by omega) (by omega) (by omega) (by omega) hb.pl;rw[hb.no []] at this;exact this
     refine hr.imp ?_;rintro _ Za ⟨rfl,g8⟩;simp![xr];exact⟨trivial,_,fun x hx=>hall x (by simp[hx]),rfl,xz d7 g8,g8.get hdk7⟩
    ·rintro O Zj ⟨o7,hall,rfl,d7,hdk7⟩;simp!;rw[show(5:Int)=((5:Nat):Int) from rfl,TM (by decide),Ov];simp![ve];refine⟨by simp,?_⟩;refine xP (dn:=fun i:Nat=>D.int (i:Int)) (fun O=>∃o,O=[o,some (.int (k:Int))]) (c:=none) trivial (List.range 5) ⟨_,rfl⟩ (keep:=fun i=>!decide ((i:Int)=(k:Int))) (val:=fun i:Nat=>D.int (i:Int)) ?_ ?_
     ·rintro i hi O ⟨o,rfl⟩;simp!;exact⟨trivial,⟨_,rfl⟩,trivial,trivial,fun _=>⟨trivial,trivial⟩⟩
     ·refine uL (fun r O Z5=>∃(l:List Nat) (o8:Option D),r=l.map (fun w:Nat=>D.int (w:Int))/\(∀w∈l,w≠k/\w<5)/\O=[some (.scr (ns.map D.int)),some (.int c),some (.ref h),some (.int ((k+1:Nat):Int)),some (dPp k p),some (.int (k:Int)),o6,o7,o8]/\Hd Z5 h) _ ⟨_,_,rfl,?_,rfl,d7⟩ ?_ ?_
      ·intro w hw;obtain⟨h1,h2⟩:=VU.mp hw;have h3:=Wh.mp h1;have h4:¬(w:Int)=(k:Int):=by simpa using h2
       exact⟨by omega,h3⟩
      ·rintro d r O Za ⟨l2,o8,hr,hl4,rfl,d8⟩;cases l2 with
       |nil=>cases hr
       |cons w l2=>
        rw[VB] at hr;injection hr with h5 h6
        subst h5 h6;obtain⟨w1,w2⟩:=hl4 w (by simp);simp!;refine(u6 (n:=k+1) (by omega) (by omega) (by omega) (by omega) (y0 (n:=k+1) (by omega) w k p hs)).imp ?_;rintro _ Y3 ⟨rfl,g9⟩;rw[Ke hp1 w k [] p w1 hs];simp![xr];exact⟨trivial,l2,_,rfl,fun x hx=>hl4 x (by simp[hx]),rfl,xz d8 g9⟩
      ·rintro O Za ⟨l2,o8,hr,hl4,rfl,d8⟩;obtain⟨u,Y3,e9,dn9,u0,u1⟩:=xk (m:=4) d8 (by decide) (by decide);obtain⟨v,rfl⟩:∃v:Nat,u=(v:Int):=⟨u.toNat,by omega⟩
       have ev:(1:Int)+(v:Int)=((v+1:Nat):Int):=by omega
       simp![e9,ev];rw[qp (by simp)];simp!;have hb:Bad (k+1) (v+1) (.tup []):=Bs rfl fun _ e=>by cases e
       refine(u6 (n:=k+1) (by omega) (by omega) (by omega) (by omega) hb.pl).imp ?_;rintro _ Y9 ⟨rfl,g10⟩;rw[hb.no []];simp![xr];rw[rR (by simp)];simp!;have h0:Wp (tS C CF CT [.int ((k+1:Nat):Int),.int 0,.lst []] Y9) fun x Z5=>x=.bl false/\Gr Y9 Z5:=u6 (n:=k+1) (k:=0) (p:=.lst []) (by omega) (by omega) (by omega) (by omega) rfl;refine h0.imp ?_;rintro _ Y0 ⟨rfl,g11⟩;simp![xr];exact⟨trivial,l,_,_,_,_,_,_,_,_,rfl,rfl⟩
 ·rintro O L ⟨l,o1,o2,o3,o4,o5,o6,o7,o8,hr,rfl⟩;have h20:∀L:M,Wp (tS C CF CT [.int 2,.int 0,.tup []] L) fun x Z5=>x=.bl true/\Gr L Z5:=fun L=>by
   have:=u6 (C:=C) (CF:=CF) (CT:=CT) (L:=L) (n:=2) (k:=0) (p:=.tup []) (by omega) (by omega) (by decide +kernel) (by omega) rfl;rw[d20] at this;exact this
  have h21:∀L:M,Wp (tS C CF CT [.int 2,.int 1,.lst [.tup [.bl true,.tup []]]] L) fun x Z5=>x=.bl false/\Gr L Z5:=fun L=>by
   have:=u6 (C:=C) (CF:=CF) (CT:=CT) (L:=L) (n:=2) (k:=1) (by omega) (by omega) (by decide +kernel) (by omega) (Je (b:=true));rw[d21] at this;exact this
  have h22:∀L:M,Wp (tS C CF CT [.int 2,.int 1,.lst [.tup [.bl false,.tup []]]] L) fun x Z5=>x=.bl false/\Gr L Z5:=fun L=>by
   have:=u6 (C:=C) (CF:=CF) (CT:=CT) (L:=L) (n:=2) (k:=1) (by omega) (by omega) (by decide +kernel) (by omega) (Je (b:=false));rw[d22] at this;exact this
  simp!;rw[qp (by simp)];simp!;refine(h20 _).imp ?_;rintro _ Z4 ⟨rfl,g1⟩;simp![BH];rw[qp (by simp)];simp!;rw[qp (by simp)];simp!;rw[rR (by simp)];simp!;refine(h21 _).imp ?_;rintro _ Z3 ⟨rfl,g2⟩;simp![BH];rw[qp (by simp)];simp!;rw[qp (by simp)];simp!;rw[rR (by simp)];simp!;refine(h22 _).imp ?_;rintro _ ZN ⟨rfl,g3⟩;simp![BH]
end
@[elab_as_elim] theorem ug{J:Type}{P:List J->Prop}(us:List J)(h:us.length=1)(k:∀a,P [a]):P us:=match us,h with| [a],_=>k a
@[elab_as_elim] theorem tN{J:Type}{P:List J->Prop}(us:List J)(h:us.length=2)(k:∀a b,P [a,b]):P us:=match us,h with| [a,b],_=>k a b
@[elab_as_elim] theorem vI{J:Type}{P:List J->Prop}(us:List J)(h:us.length=3)(k:∀a b c,P [a,b,c]):P us:=match us,h with| [a,b,c],_=>k a b c
@[elab_as_elim] theorem FA{J:Type}{P:List J->Prop}(us:List J)(h:us.length=4)(k:∀a b c d,P [a,b,c,d]):P us:=match us,h with| [a,b,c,d],_=>k a b c d
theorem all_mk{l:PySem.W.OpenLaw}{w:World}{K:Frag}{h:Heap}{mg:Str->Option Value}{fa f1 f2 f3 f4 f5 f6 f7 f8 f9 cu dB cw dy cG di dM cn cp ck cm cy cz dr dj dH cN cY cO cP db du cS cQ dl aa ad af ae:Addr}(X:K.In h)(G:h.Ns mainGlobals mg)(mI:mg "law"=some (.ref fa))
  {nG lR nw pk mZ nT lJ mR pD nr oC ph nE oR nH nB nn o9 kN iN gJ jl iQ jM jn im il ib jd gb iX gC kB jf ko gO kK hJ fX jU km gM iW jW iq kj jL gG gQ jN jV jY gF jX kz iV jb iJ je iA gl kr gc iU gn fY iS dk:Option Addr} {oG sl2 nV pc lW mf oN mh oZ gI jA jv gq kh gY gL gP jm hX jz kn ge j7 h8 gw kc jR jw iD gu gW gh fW j6:Array (Option Value)} {oS kV1 mM oQ fw nY lb kV2 lm pz fG mX mo mL mG lw fx mF mU oP mY nl eG oE m6 m5 mJ lY eA mv oX oJ nK ou eC mQ ln mC nD li eV nj oW lf nc mj fh nZ nL mP nq oi eB nt i4 ja jD kd df js gm jk ka fZ dg iI hV jQ jy jG cK gS jE j5 jh kJ cA ga iw hW gD j2 cM gx gR jT jx ip dU j8 i5 iy jS jK cF gz gU jo kQ kq cH jF ij iF kM fT cR i0 jJ kP iu ju dz jt hU iK i9 io dv h7 fV iG iE gE dJ jO ik i6 i7 iO cv jB kC j3 j0 j9 dt gy j1 jH gA kg cB gK iP gk ki jg de j4 kE kt iC jI dG gB jc gH gN gf cT iH iz iM kA iB cW i8 iY ig jp jC dh gp jP ie kf gg dL gX ia ir jZ h9 dQ kl kH ke kF ii dw ku ic ji kO gZ dC fU jq cx cC cJ bY cX:Value}
  (a1:nsIn K mainGlobals "check_things"=some (some (.ref f1)))
  (l1:K.lookup f1=some ⟨oS,nG,.func (fnOf "check_things" "check_things" (qg (top 16)) (qf (top 16)) (pN (top 16)) .none kV1 mM oQ lR fw nY),oG⟩) (c1:codeIn K fw "check_things"=true) (k1:keepIn K (.ref f1)=true)
  (a2:nsIn K mainGlobals "moved"=some (some (.ref f2)))
  (l2:K.lookup f2=some ⟨lb,nw,.func (fnOf "moved" "moved" (qg (top 17)) (qf (top 17)) (pN (top 17)) .none kV2 lm pz pk fG mX),sl2⟩) (c2:codeIn K fG "moved"=true) (k2:keepIn K (.ref f2)=true)
  (a3:nsIn K mainGlobals "homes_of"=some (some (.ref f3)))
  (l3:K.lookup f3=some ⟨mo,mZ,.func (fnOf "homes_of" "homes_of" (qg (top 18)) (qf (top 18)) (pN (top 18)) .none mL mG lw nT fx mF),nV⟩) (c3:codeIn K fx "homes_of"=true) (k3:keepIn K (.ref f3)=true)
  (a4:nsIn K mainGlobals "can_be"=some (some (.ref f4)))
  (l4:K.lookup f4=some ⟨mU,lJ,.func (fnOf "can_be" "can_be" (qg (top 19)) (qf (top 19)) (pN (top 19)) .none oP mY nl mR eG oE),pc⟩) (c4:codeIn K eG "can_be"=true) (k4:keepIn K (.ref f4)=true)
  (a5:nsIn K mainGlobals "check_right"=some (some (.ref f5)))
  (l5:K.lookup f5=some ⟨m6,pD,.func (fnOf "check_right" "check_right" (qg (top 20)) (qf (top 20)) (pN (top 20)) .none m5 mJ lY nr eA mv),lW⟩) (c5:codeIn K eA "check_right"=true) (k5:keepIn K (.ref f5)=true)
  (a6:nsIn K mainGlobals "fits"=some (some (.ref f6)))
  (l6:K.lookup f6=some ⟨oX,oC,.func (fnOf "fits" "fits" (qg (top 21)) (qf (top 21)) (pN (top 21)) .none oJ nK ou ph eC mQ),mf⟩) (c6:codeIn K eC "fits"=true) (k6:keepIn K (.ref f6)=true)
  (a7:nsIn K mainGlobals "one_thing_more"=some (some (.ref f7)))
  (l7:K.lookup f7=some ⟨ln,nE,.func (fnOf "one_thing_more" "one_thing_more" (qg (top 9)) (qf (top 9)) (pN (top 9)) .none mC nD li oR eV nj),oN⟩) (c7:codeIn K eV "one_thing_more"=true) (k7:keepIn K (.ref f7)=true)
  (a8:nsIn K mainGlobals "all_sorts"=some (some (.ref f8)))
  (l8:K.lookup f8=some ⟨oW,nH,.func (fnOf "all_sorts" "all_sorts" (qg (top 10)) (qf (top 10)) (pN (top 10)) .none lf nc mj nB fh nZ),mh⟩) (c8:codeIn K fh "all_sorts"=true) (k8:keepIn K (.ref f8)=true)
  (a9:nsIn K mainGlobals "sorts_that_fit"=some (some (.ref f9)))
  (l9:K.lookup f9=some ⟨nL,nn,.func (fnOf "sorts_that_fit" "sorts_that_fit" (qg (top 22)) (qf (top 22)) (pN (top 22)) .none mP nq oi o9 eB nt),oZ⟩) (c9:codeIn K eB "sorts_that_fit"=true) (k9:keepIn K (.ref f9)=true)
  (lK:nsIn K mainGlobals "alike_things"=some (some (.ref cu)))
  (mE:K.lookup cu=some ⟨i4,kN,.func (fnOf "alike_things" "alike_things" (qg (top 7)) (qf (top 7)) (pN (top 7)) .none ja jD kd iN df js),gI⟩) (oV:codeIn K df "alike_things"=true) (fe:keepIn K (.ref cu)=true)
  (nu:nsIn K mainGlobals "more_than_half"=some (some (.ref dB)))
  (m7:K.lookup dB=some ⟨gm,gJ,.func (fnOf "more_than_half" "more_than_half" (qg (top 8)) (qf (top 8)) (pN (top 8)) .none jk ka fZ jl dg iI),jA⟩) (kX:codeIn K dg "more_than_half"=true) (fM:keepIn K (.ref dB)=true)
  (oI:nsIn K mainGlobals "half_ends"=some (some (.ref cw)))
  (lT:K.lookup cw=some ⟨hV,iQ,.func (fnOf "half_ends" "half_ends" (qg (top 13)) (qf (top 13)) (pN (top 13)) .none jQ jy jG jM cK gS),jv⟩) (nh:codeIn K cK "half_ends"=true) (eN:keepIn K (.ref cw)=true)
  (kW:nsIn K mainGlobals "common_end"=some (some (.ref dy)))
  (mV:K.lookup dy=some ⟨jE,jn,.func (fnOf "common_end" "common_end" (qg (top 14)) (qf (top 14)) (pN (top 14)) .none j5 jh kJ im cA ga),gq⟩) (mK:codeIn K cA "common_end"=true) (ft:keepIn K (.ref dy)=true)
  (m9:nsIn K mainGlobals "tells"=some (some (.ref cG)))
  (lX:K.lookup cG=some ⟨iw,il,.func (fnOf "tells" "tells" (qg (top 23)) (qf (top 23)) (pN (top 23)) .none hW gD j2 ib cM gx),kh⟩) (ng:codeIn K cM "tells"=true) (fO:keepIn K (.ref cG)=true)
  (m8:nsIn K mainGlobals "pairs_of"=some (some (.ref di)))
  (mz:K.lookup di=some ⟨gR,jd,.func (fnOf "pairs_of" "pairs_of" (qg (top 25)) (qf (top 25)) (pN (top 25)) .none jT jx ip gb dU j8),gY⟩) (lA:codeIn K dU "pairs_of"=true) (fg:keepIn K (.ref di)=true)
  (lL:nsIn K mainGlobals "check_many"=some (some (.ref dM)))
  (lF:K.lookup dM=some ⟨i5,iX,.func (fnOf "check_many" "check_many" (qg (top 27)) (qf (top 27)) (pN (top 27)) .none iy jS jK gC cF gz),gL⟩) (pA:codeIn K cF "check_many"=true) (fj:keepIn K (.ref dM)=true)
  (oj:findIn K (.ref aa) "__init__"=some (some (.ref cn))) (oO:isFn K (.ref cn)=true)
  (lz:K.lookup cn=some ⟨gU,kB,.func (fnOf "__init__" "Search.__init__" (qg (qU (top 29) 0)) (qf (qU (top 29) 0)) (pN (qU (top 29) 0)) .none jo kQ kq jf cH jF),gP⟩) (oA:codeIn K cH "Search.__init__"=true) (lC:keepIn K (.ref cn)=true)
  (kZ:findIn K (.ref aa) "tree_asking"=some (some (.ref cp))) (nS:isFn K (.ref cp)=true)
  (nI:K.lookup cp=some ⟨ij,ko,.func (fnOf "tree_asking" "Search.tree_asking" (qg (qU (top 29) 3)) (qf (qU (top 29) 3)) (pN (qU (top 29) 3)) .none iF kM fT gO cR i0),jm⟩) (lh:codeIn K cR "Search.tree_asking"=true) (fo:keepIn K (.ref cp)=true)
  (oz:findIn K (.ref aa) "new_tree"=some (some (.ref ck))) (nU:isFn K (.ref ck)=true)
  (oB:K.lookup ck=some ⟨jJ,kK,.func (fnOf "new_tree" "Search.new_tree" (qg (qU (top 29) 2)) (qf (qU (top 29) 2)) (pN (qU (top 29) 2)) .none kP iu ju hJ dz jt),hX⟩) (mH:codeIn K dz "Search.new_tree"=true) (fB:keepIn K (.ref ck)=true)
  (eQ:findIn K (.ref aa) "tree_within"=some (some (.ref cm))) (fL:isFn K (.ref cm)=true)
  (kY:K.lookup cm=some ⟨hU,fX,.func (fnOf "tree_within" "Search.tree_within" (qg (qU (top 29) 1)) (qf (qU (top 29) 1)) (pN (qU (top 29) 1)) .none iK i9 io jU dv h7),jz⟩) (o0:codeIn K dv "Search.tree_within"=true) (cZ:keepIn K (.ref cm)=true)
  (oK:nsIn K mainGlobals "fewest_asks"=some (some (.ref cy)))
  (ld:K.lookup cy=some ⟨fV,km,.func (fnOf "fewest_asks" "fewest_asks" (qg (top 30)) (qf (top 30)) (pN (top 30)) .none iG iE gE gM dJ jO),kn⟩) (oM:codeIn K dJ "fewest_asks"=true) (fE:keepIn K (.ref cy)=true)
  (mn:nsIn K mainGlobals "fewest_of"=some (some (.ref cz)))
  (ni:K.lookup cz=some ⟨ik,iW,.func (fnOf "fewest_of" "fewest_of" (qg (top 33)) (qf (top 33)) (pN (top 33)) .none i6 i7 iO jW cv jB),ge⟩) (nR:codeIn K cv "fewest_of"=true) (fc:keepIn K (.ref cz)=true)
  (ll:nsIn K mainGlobals "fewest"=some (some (.ref dr)))
  (lq:K.lookup dr=some ⟨kC,iq,.func (fnOf "fewest" "fewest" (qg (top 34)) (qf (top 34)) (pN (top 34)) .none j3 j0 j9 kj dt gy),j7⟩) (my:codeIn K dt "fewest"=true) (fC:keepIn K (.ref dr)=true)
  (md:nsIn K mainGlobals "is_row"=some (some (.ref dj)))
  (oy:K.lookup dj=some ⟨j1,jL,.func (fnOf "is_row" "is_row" (qg (top 38)) (qf (top 38)) (pN (top 38)) .none jH gA kg gG cB gK),h8⟩) (oa:codeIn K cB "is_row"=true) (eT:keepIn K (.ref dj)=true)
  (lV:nsIn K mainGlobals "is_paper_of"=some (some (.ref dH)))
  (mO:K.lookup dH=some ⟨iP,gQ,.func (fnOf "is_paper_of" "is_paper_of" (qg (top 39)) (qf (top 39)) (pN (top 39)) .none gk ki jg jN de j4),gw⟩) (kU:codeIn K de "is_paper_of"=true) (eM:keepIn K (.ref dH)=true)
  (lr:nsIn K mainGlobals "is_let_by"=some (some (.ref cN)))
  (mW:K.lookup cN=some ⟨kE,jV,.func (fnOf "is_let_by" "is_let_by" (qg (top 40)) (qf (top 40)) (pN (top 40)) .none kt iC jI jY dG gB),kc⟩) (nW:codeIn K dG "is_let_by"=true) (cV:keepIn K (.ref cN)=true)
  (pC:nsIn K mainGlobals "holds"=some (some (.ref cY)))
  (me:K.lookup cY=some ⟨jc,gF,.func (fnOf "holds" "holds" (qg (top 41)) (qf (top 41)) (pN (top 41)) .none gH gN gf jX cT iH),jR⟩) (nN:codeIn K cT "holds"=true) (fH:keepIn K (.ref cY)=true)
  (oU:nsIn K mainGlobals "row_behind"=some (some (.ref cO)))
  (lH:K.lookup cO=some ⟨iz,kz,.func (fnOf "row_behind" "row_behind" (qg (top 42)) (qf (top 42)) (pN (top 42)) .none iM kA iB iV cW i8),jw⟩) (oH:codeIn K cW "row_behind"=true) (eO:keepIn K (.ref cO)=true)
  (pj:nsIn K mainGlobals "paper_behind"=some (some (.ref cP)))
  (lS:K.lookup cP=some ⟨iY,jb,.func (fnOf "paper_behind" "paper_behind" (qg (top 43)) (qf (top 43)) (pN (top 43)) .none ig jp jC iJ dh gp),iD⟩) (lg:codeIn K dh "paper_behind"=true) (cU:keepIn K (.ref cP)=true)
  (lM:nsIn K mainGlobals "holding_paper"=some (some (.ref db)))
  (oo:K.lookup db=some ⟨jP,je,.func (fnOf "holding_paper" "holding_paper" (qg (top 44)) (qf (top 44)) (pN (top 44)) .none ie kf gg iA dL gX),gu⟩) (nX:codeIn K dL "holding_paper"=true) (fm:keepIn K (.ref db)=true)
  (mT:nsIn K mainGlobals "_law_hand"=some (some (.ref du)))
  (lO:K.lookup du=some ⟨ia,gl,.func (fnOf "_law_hand" "_law_hand" (qg (top 46)) (qf (top 46)) (pN (top 46)) .none ir jZ h9 kr dQ kl),gW⟩) (lI:codeIn K dQ "_law_hand"=true) (fu:keepIn K (.ref du)=true)
  (pf:nsIn K mainGlobals "_law_take"=some (some (.ref cS)))
  (lU:K.lookup cS=some ⟨kH,gc,.func (fnOf "_law_take" "_law_take" (qg (top 47)) (qf (top 47)) (pN (top 47)) .none ke kF ii iU dw ku),gh⟩) (ly:codeIn K dw "_law_take"=true) (eL:keepIn K (.ref cS)=true)
  (og:nsIn K mainGlobals "_law_spoilt"=some (some (.ref cQ)))
  (lj:K.lookup cQ=some ⟨ic,gn,.func (fnOf "_law_spoilt" "_law_spoilt" (qg (top 48)) (qf (top 48)) (pN (top 48)) .none ji kO gZ fY dC fU),fW⟩) (lB:codeIn K dC "_law_spoilt"=true) (dF:keepIn K (.ref cQ)=true)
  (lP:nsIn K mainGlobals "law"=some (some (.ref dl)))
  (nQ:K.lookup dl=some ⟨jq,iS,.func (fnOf "law" "law" (qg (top 49)) (qf (top 49)) (pN (top 49)) .none cx cC cJ dk bY cX),j6⟩) (lZ:codeIn K bY "law"=true) (mS:keepIn K (.ref dl)=true)
  {dq:Tok} (aC:nsIn K mainGlobals "MOST_THINGS"=some (some (.int 7 dq)))
  {ag:Addr} {ar:Obj} {eU:Tok} {bK:Nat} (aI:nsIn K mainGlobals "OPEN"=some (some (.ref ag))) (aF:K.lookup ag=some ar) (aE:ar.cls=.type "tuple") (aG:ar.data=.seq #[.str "open" eU] bK)
  {dD:Tok} (av:nsIn K mainGlobals "MOST_SEARCHED"=some (some (.int 5 dD)))
  {cI:Tok} (ap:nsIn K mainGlobals "GREATEST_THINGS"=some (some (.int 4 cI)))
  {da:Tok} (aB:nsIn K mainGlobals "LEAST_THINGS"=some (some (.int 2 da)))
  (eg:nsIn K mainGlobals "all"=some none)
  (dW:nsIn K mainGlobals "max"=some none)
  (dZ:nsIn K mainGlobals "min"=some none)
  (cq:nsIn K mainGlobals "range"=some none)
  (aJ:nsIn K mainGlobals "enumerate"=some none)
  (cD:nsIn K mainGlobals "list"=some none)
  (dY:nsIn K mainGlobals "len"=some none)
  (cr:nsIn K mainGlobals "tuple"=some none)
  (aH:nsIn K mainGlobals "isinstance"=some none)
  (dc:nsIn K mainGlobals "bool"=some none)
  (d9:nsIn K mainGlobals "zip"=some none)
  (dX:nsIn K mainGlobals "int"=some none)
  (ak:nsIn K mainGlobals "Search"=some (some (.ref aa)))
  (ai:nsIn K mainGlobals "NoThing"=some (some (.ref ad)))
  (aq:nsIn K mainGlobals "NoFit"=some (some (.ref af)))
  (ah:nsIn K mainGlobals "TooMany"=some (some (.ref ae)))
  (bM:PySem.W.plainGet K aa Str.empty=true) (bN:PySem.W.hasDictIn K aa=true) (bL:PySem.W.plainOver K aa=true) (bI:findIn K (.ref aa) "__setattr__"=some (some (.builtin "object.__setattr__"))) (bJ:PySem.W.makesIn K aa=true) (bH:keepIn K (.ref aa)=true)
  (ay:findIn K (.ref aa) "pairs"=some none)
  (aw:findIn K (.ref aa) "sorts"=some none)
  (az:findIn K (.ref aa) "ends"=some none)
  (ao:findIn K (.ref aa) "searched"=some none)
  {bR bZ aA cb aD bQ ce cg bP bV cf bW bU ci bO bS:_} (cj:K.lookup af=some (excClassObj bR bZ af aA cb aD bQ ce cg bP bV cf bW bU ci bO bS "ValueError.__new__")) (ca:PySem.W.tailIn K yR aD=true) (bT:PySem.W.nsOkIn K aA=true) (bX:nsIn K aA "__init__"=some none)
  {aO bt am bD au aU bp bC aZ bF bi aM aR bw bG aY:_} (aL:K.lookup ad=some (excClassObj aO bt ad am bD au aU bp bC aZ bF bi aM aR bw bG aY "ValueError.__new__")) (aK:PySem.W.tailIn K yR au=true) (aW:PySem.W.nsOkIn K am=true) (aV:nsIn K am "__init__"=some none)
  {aQ bA aj bh ax bf bE bg bB bn aP br bj bz bd bu:_} (aS:K.lookup ae=some (excClassObj aQ bA ae aj bh ax bf bE bg bB bn aP br bj bz bd bu "ValueError.__new__")) (aX:PySem.W.tailIn K yR ax=true) (aN:PySem.W.nsOkIn K aj=true) (aT:nsIn K aj "__init__"=some none):
  ∃fd:FuncData,(∀(s:Shared) (v:Value),BindsTo s fd ⟨[v],[]⟩ [("script",v)])/\∀base:Heap,K.In base->base.Ns mainGlobals mg->FnOk l.prog w K mg base CX0 37 fa fd ["script"] (z0 K):=by
 have e:=mI.symm.trans (mg_of X G lP);cases e;have F1:=qk (st:=(top 16)) l1 c1 k1;have b1:=F1.binds (ps:=["many","answers"]) fun _ _ _ _ _ _ us hl=>tN us hl fun _ _=>rfl;have g1:=mg_of X G a1;have F2:=qk (st:=(top 17)) l2 c2 k2;have b2:=F2.binds (ps:=["homes","old","new"]) fun _ _ _ _ _ _ us hl=>vI us hl fun _ _ _=>rfl;have g2:=mg_of X G a2;have F3:=qk (st:=(top 18)) l3 c3 k3;have b3:=F3.binds (ps:=["answers"]) fun _ _ _ _ _ _ us hl=>ug us hl fun _=>rfl;have g3:=mg_of X G a3;have F4:=qk (st:=(top 19)) l4 c4 k4;have b4:=F4.binds (ps:=["many","answers"]) fun _ _ _ _ _ _ us hl=>tN us hl fun _ _=>rfl;have g4:=mg_of X G a4;have F5:=qk (st:=(top 20)) l5 c5 k5;have b5:=F5.binds (ps:=["many","answers"]) fun _ _ _ _ _ _ us hl=>tN us hl fun _ _=>rfl;have g5:=mg_of X G a5;have F6:=qk (st:=(top 21)) l6 c6 k6;have b6:=F6.binds (ps:=["kinds","answers"]) fun _ _ _ _ _ _ us hl=>tN us hl fun _ _=>rfl;have g6:=mg_of X G a6;have F7:=qk (st:=(top 9)) l7 c7 k7;have b7:=F7.binds (ps:=["sort","most"]) fun _ _ _ _ _ _ us hl=>tN us hl fun _ _=>rfl;have g7:=mg_of X G a7;have F8:=qk (st:=(top 10)) l8 c8 k8;have b8:=F8.binds (ps:=["many","most"]) fun _ _ _ _ _ _ us hl=>tN us hl fun _ _=>rfl;have g8:=mg_of X G a8;have F9:=qk (st:=(top 22)) l9 c9 k9;have b9:=F9.binds (ps:=["many","answers"]) fun _ _ _ _ _ _ us hl=>tN us hl fun _ _=>rfl;have g9:=mg_of X G a9;have eR:=qk (st:=(top 7)) mE oV fe;have oq:=eR.binds (ps:=["kinds"]) fun _ _ _ _ _ _ us hl=>ug us hl fun _=>rfl;have g10:=mg_of X G lK;have eF:=qk (st:=(top 8)) m7 kX fM;have n0:=eF.binds (ps:=["kinds"]) fun _ _ _ _ _ _ us hl=>ug us hl fun _=>rfl;have g11:=mg_of X G nu;have fz:=qk (st:=(top 13)) lT nh eN;have pB:=fz.binds (ps:=["kinds"]) fun _ _ _ _ _ _ us hl=>ug us hl fun _=>rfl;have px:=mg_of X G oI;have fJ:=qk (st:=(top 14)) mV mK ft;have oY:=fJ.binds (ps:=["ends"]) fun _ _ _ _ _ _ us hl=>ug us hl fun _=>rfl;have mq:=mg_of X G kW;have ff:=qk (st:=(top 23)) lX ng fO;have mD:=ff.binds (ps:=["many","answers"]) fun _ _ _ _ _ _ us hl=>tN us hl fun _ _=>rfl;have lN:=mg_of X G m9;have fq:=qk (st:=(top 25)) mz lA fg;have ny:=fq.binds (ps:=["many"]) fun _ _ _ _ _ _ us hl=>ug us hl fun _=>rfl;have om:=mg_of X G m8;have fb:=qk (st:=(top 27)) lF pA fj;have lc:=fb.binds (ps:=["many","least","greatest"]) fun _ _ _ _ _ _ us hl=>vI us hl fun _ _ _=>rfl;have pw:=mg_of X G lL;have fA:=qk (st:=(qU (top 29) 0)) lz oA lC;have mw:=fA.binds (ps:=["self","many","sorts","ends"]) fun _ _ _ _ _ _ us hl=>FA us hl fun _ _ _ _=>rfl;have eD:=qk (st:=(qU (top 29) 3)) nI lh fo;have lQ:=eD.binds (ps:=["self","i","j","left","asks"]) fun _ _ _ _ _ _ us hl=>match us,hl with| [_,_,_,_,_],_=>rfl
 have eY:=qk (st:=(qU (top 29) 2)) oB mH fB;have kR:=eY.binds (ps:=["self","left","asks"]) fun _ _ _ _ _ _ us hl=>vI us hl fun _ _ _=>rfl;have fK:=qk (st:=(qU (top 29) 1)) kY o0 cZ;have fP:=fK.binds (ps:=["self","left","asks"]) fun _ _ _ _ _ _ us hl=>vI us hl fun _ _ _=>rfl;have eP:=qk (st:=(top 30)) ld oM fE;have nM:=eP.binds (ps:=["many","sorts","ends"]) fun _ _ _ _ _ _ us hl=>vI us hl fun _ _ _=>rfl;have lG:=mg_of X G oK;have fv:=qk (st:=(top 33)) ni nR fc;have oF:=fv.binds (ps:=["many","most"]) fun _ _ _ _ _ _ us hl=>tN us hl fun _ _=>rfl;have mB:=mg_of X G mn;have fr:=qk (st:=(top 34)) lq my fC;have mi:=fr.binds (ps:=["many"]) fun _ _ _ _ _ _ us hl=>ug us hl fun _=>rfl;have nk:=mg_of X G ll;have fS:=qk (st:=(top 38)) oy oa eT;have ot:=fS.binds (ps:=["row"]) fun _ _ _ _ _ _ us hl=>ug us hl fun _=>rfl;have lD:=mg_of X G md;have fR:=qk (st:=(top 39)) mO kU eM;have nF:=fR.binds (ps:=["pairs","paper"]) fun _ _ _ _ _ _ us hl=>tN us hl fun _ _=>rfl;have on:=mg_of X G lV;have eS:=qk (st:=(top 40)) mW nW cV;have fD:=eS.binds (ps:=["many","answers","asks","paper"]) fun _ _ _ _ _ _ us hl=>FA us hl fun _ _ _ _=>rfl;have fy:=mg_of X G lr;have eZ:=qk (st:=(top 41)) me nN fH;have nv:=eZ.binds (ps:=["many","asks","paper"]) fun _ _ _ _ _ _ us hl=>vI us hl fun _ _ _=>rfl;have m3:=mg_of X G pC;have eK:=qk (st:=(top 42)) lH oH eO;have nJ:=eK.binds (ps:=["many","answers","asks","i","j"]) fun _ _ _ _ _ _ us hl=>match us,hl with| [_,_,_,_,_],_=>rfl
 have nP:=mg_of X G oU;have eE:=qk (st:=(top 43)) lS lg cU;have fN:=eE.binds (ps:=["many","answers","asks"]) fun _ _ _ _ _ _ us hl=>vI us hl fun _ _ _=>rfl;have fk:=mg_of X G pj;have eI:=qk (st:=(top 44)) oo nX fm;have lE:=eI.binds (ps:=["many"]) fun _ _ _ _ _ _ us hl=>ug us hl fun _=>rfl;have ms:=mg_of X G lM;have eW:=qk (st:=(top 46)) lO lI fu;have ow:=eW.binds (ps:=["cell"]) fun _ _ _ _ _ _ us hl=>ug us hl fun _=>rfl;have nO:=mg_of X G mT;have eX:=qk (st:=(top 47)) lU ly eL;have m4:=eX.binds (ps:=["hand","many"]) fun _ _ _ _ _ _ us hl=>tN us hl fun _ _=>rfl;have nC:=mg_of X G pf;have fF:=qk (st:=(top 48)) lj lB dF;have eJ:=fF.binds (ps:=["hand","paper","way"]) fun _ _ _ _ _ _ us hl=>vI us hl fun _ _ _=>rfl;have fQ:=mg_of X G og;have nA:=qk (st:=(top 49)) nQ lZ mS;have ac:Cls K aa:=⟨bM,bN,bL,bI⟩
 have wU:FldC K aa "pairs":=⟨ac,ay⟩
 have ux:FldC K aa "sorts":=⟨ac,aw⟩
 have xO:FldC K aa "ends":=⟨ac,az⟩
 have vV:FldC K aa "searched":=⟨ac,ao⟩
 have u3:=WJ X G eg;have wS:=WJ X G dW;have Ca:=WJ X G dZ;have rY:=WJ X G cq;have DV:=WJ X G aJ;have xG:=WJ X G cD;have rq:=WJ X G dY;have sN:=WJ X G cr;have ut:=WJ X G aH;have DA:=WJ X G dc;have By:=WJ X G d9;have wQ:=WJ X G dX;have vq:mg "MOST_THINGS"=some (.int 7 dq)/\RelV (.int 7) (.int 7 dq)/\∀W,DR K W (.int 7) (.int 7):=⟨mg_of X G aC,⟨_,rfl⟩,fun _=>.int _⟩
 have rE:mg "OPEN"=some (.ref ag)/\RelV (.ref ag) (.ref ag)/\∀W,DR K W (.gt [.str "open"]) (.ref ag):=⟨mg_of X G aI,rfl,fun _=>.gt (vs:=[.str "open"]) (.inr ⟨ar,_,bK,aF,aE,aG,(show 1<=sizeLine from tP (by decide)),.cons ⟨eU,rfl⟩ .nil⟩) (.cons (.str _) .nil)⟩
 have yC:mg "MOST_SEARCHED"=some (.int 5 dD)/\RelV (.int 5) (.int 5 dD)/\∀W,DR K W (.int 5) (.int 5):=⟨mg_of X G av,⟨_,rfl⟩,fun _=>.int _⟩
 have um:mg "GREATEST_THINGS"=some (.int 4 cI)/\RelV (.int 4) (.int 4 cI)/\∀W,DR K W (.int 4) (.int 4):=⟨mg_of X G ap,⟨_,rfl⟩,fun _=>.int _⟩
 have uv:mg "LEAST_THINGS"=some (.int 2 da)/\RelV (.int 2) (.int 2 da)/\∀W,DR K W (.int 2) (.int 2):=⟨mg_of X G aB,⟨_,rfl⟩,fun _=>.int _⟩
 have tL:mg "NoThing"=some (.ref ad)/\tI K ad:=⟨mg_of X G ai,_,_,_,_,_,_,_,_,_,_,_,_,_,_,_,_,aL,aK,aW,aV⟩
 have AJ:mg "NoFit"=some (.ref af)/\tI K af:=⟨mg_of X G aq,_,_,_,_,_,_,_,_,_,_,_,_,_,_,_,_,cj,ca,bT,bX⟩
 have vZ:mg "TooMany"=some (.ref ae)/\tI K ae:=⟨mg_of X G ah,_,_,_,_,_,_,_,_,_,_,_,_,_,_,_,_,aS,aX,aN,aT⟩
 refine⟨fnOf "law" "law" (qg (top 49)) (qf (top 49)) (pN (top 49)) .none cx cC cJ dk bY cX,fun s v=>.of_eq rfl,fun base _ _=>?_⟩;have DJ:DfX l.prog w K mg base 1 "check_things" ["many","answers"] (spX K (zf ad)):=⟨_,_,Ss F1 tL,b1,k1,g1⟩
 have DN:Df l.prog w K mg base 1 "moved" ["homes","old","new"] (spM K (tY)):=⟨_,_,RP F2,b2,k2,g2⟩
 have Ee:Df l.prog w K mg base 2 "homes_of" ["answers"] (spM K (we tY)):=⟨_,_,OE F3 (DN) (by omega),b3,k3,g3⟩
 have uz:DfX l.prog w K mg base 3 "can_be" ["many","answers"] (spX K (vA ad)):=⟨_,_,SI F4 (Ee) (by omega) (DJ) (by omega) u3,b4,k4,g4⟩
 have C1:DfX l.prog w K mg base 4 "check_right" ["many","answers"] (spX K (C5 ad af)):=⟨_,_,P6 F5 (uz) (by omega) AJ,b5,k5,g5⟩
 have Bf:Df l.prog w K mg base 1 "fits" ["kinds","answers"] (spM K (vM)):=⟨_,_,RV F6,b6,k6,g6⟩
 have Ef:Df l.prog w K mg base 1 "one_thing_more" ["sort","most"] (spM K (tj)):=⟨_,_,M8 F7 wS Ca rY,b7,k7,g7⟩
 have wY:DfX l.prog w K mg base 2 "all_sorts" ["many","most"] (spX K (wK tj (.int 7) ae)):=⟨_,_,Lp F8 (Ef) (by omega) vq vZ rY,b8,k8,g8⟩
 have DQ:DfX l.prog w K mg base 5 "sorts_that_fit" ["many","answers"] (spX K (x3 ad af ae)):=⟨_,_,LA F9 (Bf) (by omega) (C1) (by omega) (wY) (by omega),b9,k9,g9⟩
 have BA:Df l.prog w K mg base 1 "alike_things" ["kinds"] (spM K (u8)):=⟨_,_,SH eR DV xG,oq,fe,g10⟩
 have D9:Df l.prog w K mg base 2 "more_than_half" ["kinds"] (spM K (wa)):=⟨_,_,Tn eF (BA) (by omega) rq,n0,fM,g11⟩
 have xN:Df l.prog w K mg base 3 "half_ends" ["kinds"] (spM K (tG)):=⟨_,_,Qu fz (D9) (by omega),pB,eN,px⟩
 have wP:Df l.prog w K mg base 1 "common_end" ["ends"] (spM K (uo qw)):=⟨_,_,QP fJ rE u3,oY,ft,mq⟩
 have wO:DfX l.prog w K mg base 6 "tells" ["many","answers"] (spX K (za ad af ae)):=⟨_,_,Ps ff (wP) (by omega) (xN) (by omega) (DQ) (by omega),mD,fO,lN⟩
 have uy:Df l.prog w K mg base 1 "pairs_of" ["many"] (spM K (vJ)):=⟨_,_,LM fq rY,ny,fg,om⟩
 have uQ:DfX l.prog w K mg base 1 "check_many" ["many","least","greatest"] (spX K (uU ad ae)):=⟨_,_,Uz fb tL vZ,lc,fj,pw⟩
 have Bk:MkC l.prog w K mg base CX0 2 aa "Search" ["self","many","sorts","ends"] (spM K (zF aa)):=⟨mg_of X G ak,⟨_,_,⟨bJ,oj,oO,bH⟩,M2 fA (uy) (by omega) wU ux xO vV,mw⟩⟩
 have wD:∀n,MtC l.prog w K mg base CX0 (2+3*n) aa "tree_within" ["self","left","asks"] (spM K (wA aa n)):=fun n=>by
  induction n with
  |zero=>exact⟨ac,⟨_,_,⟨eQ,fL,cZ⟩,zn,fP⟩⟩
  |succ n ih=>
   have BD:MtC l.prog w K mg base CX0 (2+3*n+1) aa "tree_asking" ["self","i","j","left","asks"] (spM K (wV (wA aa n) aa)):=⟨ac,⟨_,_,⟨kZ,nS,fo⟩,U5 eD ih (by omega) ux sN,lQ⟩⟩
   have BK:MtC l.prog w K mg base CX0 (2+3*n+2) aa "new_tree" ["self","left","asks"] (spM K (zB aa (wA aa n))):=⟨ac,⟨_,_,⟨oz,nU,fB⟩,SC eY (wP) (by omega) (BD) (by omega) xO wU rE,kR⟩⟩
   exact(show MtC l.prog w K mg base CX0 (2+3*n+3) aa "tree_within" ["self","left","asks"] (spM K (wA aa (n+1))) from⟨ac,⟨_,_,⟨eQ,fL,cZ⟩,QR fK (BK) (by omega) vV,fP⟩⟩)
 have Dz:Df l.prog w K mg base 33 "fewest_asks" ["many","sorts","ends"] (spM K (AR aa)):=⟨_,_,QD eP (Bk) (by omega) (wD 10) (by omega) rq sN rY,nM,fE,lG⟩
 have CH:DfX l.prog w K mg base 34 "fewest_of" ["many","most"] (spX K (Ak aa ae)):=⟨_,_,O2 fv (xN) (by omega) (Dz) (by omega) (wY) (by omega),oF,fc,mB⟩
 have DC:DfX l.prog w K mg base 35 "fewest" ["many"] (spX K (AW aa ad ae)):=⟨_,_,MA fr (uQ) (by omega) (CH) (by omega) yC,mi,fC,nk⟩
 have Bp:Df l.prog w K mg base 1 "is_row" ["row"] (spM K (ur)):=⟨_,_,LQ fS ut sN rq DA,ot,eT,lD⟩
 have D6:Df l.prog w K mg base 2 "is_paper_of" ["pairs","paper"] (spM K (va ur)):=⟨_,_,TU fR (Bp) (by omega) ut xG rq u3,nF,eM,on⟩
 have yc:∀n,Df l.prog w K mg base (7+n) "is_let_by" ["many","answers","asks","paper"] (spM K (mmL ad af ae n)):=fun n=>by
  induction n with
  |zero=>exact⟨_,_,zn,fD,cV,fy⟩
  |succ n ih=>exact(show Df l.prog w K mg base (7+n+1) "is_let_by" ["many","answers","asks","paper"] (spM K (mmL ad af ae (n+1))) from⟨_,_,NX eS (Df.dn (uz)) (by omega) (Df.dn (wO)) (by omega) (uy) (by omega) (D6) (by omega) ih (by omega) rE ut sN rq By,fD,cV,fy⟩)
 have tU:Df l.prog w K mg base 18 "holds" ["many","asks","paper"] (spM K (tS ad af ae)):=⟨_,_,UW eZ (Df.dn (uQ)) (by omega) (yc 10) (by omega) um uv,nv,fH,m3⟩
 have y9:∀n,Df l.prog w K mg base (7+2*n) "paper_behind" ["many","answers","asks"] (spM K (mmB ad af ae n)):=fun n=>by
  induction n with
  |zero=>exact⟨_,_,zn,fN,cU,fk⟩
  |succ n ih=>
   have Ed:Df l.prog w K mg base (7+2*n+1) "row_behind" ["many","answers","asks","i","j"] (spM K (xA (mmB ad af ae n))):=⟨_,_,MT eK ih (by omega),nJ,eO,nP⟩
   exact(show Df l.prog w K mg base (7+2*n+2) "paper_behind" ["many","answers","asks"] (spM K (mmB ad af ae (n+1))) from⟨_,_,Sd eE (Df.dn (uz)) (by omega) (Df.dn (wO)) (by omega) (uy) (by omega) (Ed) (by omega) rE,fN,cU,fk⟩)
 have D0:Df l.prog w K mg base 36 "holding_paper" ["many"] (spM K (zK aa ad af ae)):=⟨_,_,RN eI (Df.dn (uQ)) (by omega) (Df.dn (DC)) (by omega) (y9 10) (by omega) um uv,lE,fm,ms⟩
 have D5:Df l.prog w K mg base 1 "_law_hand" ["cell"] (spM K (xF)):=⟨_,_,Oj eW wQ wS,ow,fu,nO⟩
 have tO:Df l.prog w K mg base 1 "_law_take" ["hand","many"] (spM K (tM)):=⟨_,_,Pt eX,m4,eL,nC⟩
 have yt:∀n,Df l.prog w K mg base (2+n) "_law_spoilt" ["hand","paper","way"] (spM K (mmS n)):=fun n=>by
  induction n with
  |zero=>exact⟨_,_,zn,eJ,dF,fQ⟩
  |succ n ih=>exact(show Df l.prog w K mg base (2+n+1) "_law_spoilt" ["hand","paper","way"] (spM K (mmS (n+1))) from⟨_,_,P4 fF (tO) (by omega) ih (by omega) rq wQ,eJ,dF,fQ⟩)
 exact OT (PX nA (D5) (by omega) (tO) (by omega) (D0) (by omega) (tU) (by omega) (yt 10) (by omega) rY) (Vh (CS:=aa) (C:=ad) (CF:=af) (CT:=ae))
theorem walk{l:PySem.W.OpenLaw}{q:Program}{loose:List Str}{XP:(Str->Option Value)->Heap->Prop}{YP:World->Heap->Prop}{d:DefRec}{K:Params->Frag}(hn:l.most=some 63)(hdf:d.params.defaults=[])
  (hY:∀(w:World) (h:Heap),YP w h->(K w.params).In h)
  (F:∀(w:World) (mg:Str->Option Value) (fa:Addr) (h:Heap),(K w.params).In h->h.Ns mainGlobals mg->mg d.name=some (.ref fa)->
   ∃fd:FuncData,(∀(s:Shared) (u:Value),BindsTo s fd ⟨[u],[]⟩ [("script",u)])/\∀base:Heap,(K w.params).In base->base.Ns mainGlobals mg->FnOk l.prog w (K w.params) mg base CX0 37 fa fd ["script"] (z0 (K w.params))):
  PySem.W.WalkO q loose XP YP l.row.toRowW d [] (fun f vs=>PySem.call f vs):=
 L2.walk_of (n:=63) (k:=37) (x:="script") (CX:=fun _=>CX0) (sp:=fun w=>z0 (K w.params)) hn (by decide) hdf ⟨rfl,by decide,by decide,rfl⟩ hY F (fun _ _ a ns hl hO hS=>⟨a,ns,rfl,hO,hS,hl,fun _=>rfl⟩) fun _ _ _ _ _ z=>z
end Law
namespace PySem.W.Fast
def tw10037818647382387628:=0
def tw10067689202350446894:=0
def tw10128700859791927166:=0
def tw10285761789047292959:=0
def tw10308621162422688856:=0
def tw10332169393847357741:=0
def tw10387658455198213437:=0
def tw10417748941161396529:=0
def tw10621186378125698763:=0
def tw10647947288927759856:=0
def tw1066275863415492405:=0
def tw1068773311432101747:=0
def tw1075334540164456646:=0
def tw10787796529995372903:=0
def tw1079237886171628992:=0
def tw10812023795870953497:=0
def tw10843524307004527032:=0
def tw10902914347440433769:=0
def tw10913033457609759045:=0
def tw10934586538671047004:=0
def tw11088532424134010486:=0
def tw1125360022619832904:=0
def tw11256163122256388321:=0
def tw11383377860910074937:=0
def tw11716612885662378620:=0
def tw11735756891767544867:=0
def tw11837488144119572631:=0
def tw11893478463335908159:=0
def tw12084730485710142185:=0
def tw12277272123319344328:=0
def tw12297970625960869148:=0
def tw12510047933539048939:=0
def tw12649508030851682814:=0
def tw12744709199335005605:=0
def tw12899671343916314761:=0
def tw12907021204959882345:=0
def tw13017683246808025709:=0
def tw13190478130907839187:=0
def tw13240190644130710237:=0
def tw13245563004161637910:=0
def tw13368214389150041310:=0
def tw13427750127154985823:=0
def tw13461710894058486579:=0
def tw13602287961037626731:=0
def tw13629494123081375014:=0
def tw13666380598868721902:=0
def tw13684205863292090933:=0
def tw13688387949207898416:=0
def tw13848227619385423930:=0
def tw1411864252661298577:=0
def tw14164668096774463262:=0
def tw14191360122868267907:=0
def tw14235850481071581391:=0
def tw14289218183779391447:=0
def tw14301030578804581408:=0
def tw14400378877605403546:=0
def tw14434195785297538633:=0
def tw14536972579868748338:=0
def tw14715822706565059030:=0
def tw14760287459742320523:=0
def tw14832376804125479648:=0
def tw14840671219838783468:=0
def tw14848619594904090213:=0
def tw1485031052997032589:=0
def tw14883334345514772647:=0
def tw14941612973761196460:=0
def tw14967342125537553012:=0
def tw15102103962811834111:=0
def tw15196714613519482267:=0
def tw15343094954658578665:=0
def tw15590596110833271699:=0
def tw15593384754657203099:=0
def tw15594668255170464552:=0
def tw15702783834971256934:=0
def tw15834376950064157995:=0
def tw15842660069979900618:=0
def tw15874029587228468983:=0
def tw16152384957836610275:=0
def tw16296792632957229029:=0
def tw16337884753320373734:=0
def tw1639680369650365994:=0
def tw16449826674259662813:=0
def tw16479635939644663309:=0
def tw16481064109780838607:=0
def tw1649117928816128920:=0
def tw16542792582857891742:=0
def tw16561769377147956742:=0
def tw16648727520665628869:=0
def tw16767948259540130144:=0
def tw16811701750750396839:=0
def tw16822139191268460010:=0
def tw16870451339598843052:=0
def tw17001002773615894713:=0
def tw17024392634564565183:=0
def tw17029441658219942178:=0
def tw17262484249172700340:=0
def tw17324201217070724841:=0
def tw17355755102216663058:=0
def tw17391729167825835837:=0
def tw17428719080019775729:=0
def tw17467208424368776246:=0
def tw17522183959218451210:=0
def tw17672435610676575662:=0
def tw17793023876066105783:=0
def tw17879630265227117700:=0
def tw17994325639107280286:=0
def tw18120277431882777742:=0
def tw18186910451943737720:=0
def tw18249584879116530751:=0
def tw18267348102192230913:=0
def tw1828641319265089334:=0
def tw18297935457892929560:=0
def tw18305028757937129146:=0
def tw1870785710738881533:=0
def tw1873228684268068582:=0
def tw1886920923109429621:=0
def tw1887624742819877241:=0
def tw1898442004024788779:=0
def tw1908990365516466500:=0
def tw1949685623782679569:=0
def tw1987728843523148330:=0
def tw2003905951484204902:=0
def tw2010135141862470082:=0
def tw2047588671241442621:=0
def tw2091868239450854891:=0
def tw2194499677944228216:=0
def tw2216146531919534945:=0
def tw2246217815881184839:=0
def tw2281610139907855338:=0
def tw2288574940073389488:=0
def tw2294039378709432754:=0
def tw2439228167175063201:=0
def tw246954519191148352:=0
def tw2499030933670517170:=0
def tw2528751814576505923:=0
def tw2610087740565919989:=0
def tw2672053285244551595:=0
def tw2687211631697295409:=0
def tw2701153264913434269:=0
def tw2779539313197219841:=0
def tw2838889969487716250:=0
def tw290204060232032152:=0
def tw3033388532809715590:=0
def tw3069354591783425539:=0
def tw3203438818017646896:=0
def tw3211023518169449478:=0
def tw3229444982539866758:=0
def tw323160690615604057:=0
def tw329891804090965499:=0
def tw3496824421120719137:=0
def tw3558598160133363697:=0
def tw3616911217443763896:=0
def tw3702301033820058705:=0
def tw3738134313200037770:=0
def tw3783699245204823421:=0
def tw3798927123606166572:=0
def tw3901094198643103406:=0
def tw3927931456804839811:=0
def tw3959597642622512447:=0
def tw3966105079691420773:=0
def tw3985746387969798936:=0
def tw3991643936597036945:=0
def tw4024290742483824824:=0
def tw4027703582935750859:=0
def tw4129396557247689835:=0
def tw4259726766060238561:=0
def tw4372541474806738861:=0
def tw4390652684476199308:=0
def tw4424896672545887802:=0
def tw45410307360872162:=0
def tw45551900536880907:=0
def tw4594759547792468490:=0
def tw4641181358305429238:=0
def tw4853404827439263943:=0
def tw4901940958063269695:=0
def tw4935989419773946732:=0
def tw5001849195676142245:=0
def tw5038593511161677403:=0
def tw5062800227463705163:=0
def tw5093248419853946986:=0
def tw5130490098228701985:=0
def tw5227867750424230121:=0
def tw5309006600486472070:=0
def tw5380788643243297837:=0
def tw5406424321619746034:=0
def tw5478303826398909362:=0
def tw5494001578487242703:=0
def tw554751338080293095:=0
def tw556123297480899704:=0
def tw5574972585524375389:=0
def tw5611308331674201374:=0
def tw5644853946477282499:=0
def tw5875729012196109996:=0
def tw5951737889862624232:=0
def tw6027048884754292608:=0
def tw6107022047658605876:=0
def tw6153998338826461401:=0
def tw6180582879503069313:=0
def tw6228631312893740534:=0
def tw6280686311725269066:=0
def tw6483395587762391496:=0
def tw6522519380588571681:=0
def tw6565068414513609585:=0
def tw6572335725706945820:=0
def tw6646882264178132349:=0
def tw6787464598781139917:=0
def tw6796922633871095241:=0
def tw6927825714538865208:=0
def tw6939335749200356873:=0
def tw6964397725731506872:=0
def tw7003968559336816123:=0
def tw7071181180079431696:=0
def tw7130981535532458486:=0
def tw7134577965118530071:=0
def tw7289887418524650188:=0
def tw7512734937902560640:=0
def tw7631545730520878362:=0
def tw76471577549037306:=0
def tw7670830264994944195:=0
def tw7699800086423065880:=0
def tw7718756937356976665:=0
def tw7885660798896998896:=0
def tw7916297424295537504:=0
def tw7988604334365504998:=0
def tw8086016805446051297:=0
def tw8154725204446345030:=0
def tw8161135128139691010:=0
def tw8184775444224929492:=0
def tw8213756081813436358:=0
def tw8253640829141410559:=0
def tw8254696616194452894:=0
def tw8333900850956028695:=0
def tw8342723627559407981:=0
def tw8419479323239164155:=0
def tw8424548392564370432:=0
def tw8447800021881234064:=0
def tw8474027141163747532:=0
def tw8547737206843881365:=0
def tw8551361172340475835:=0
def tw8554333602735520482:=0
def tw8561329200096832301:=0
def tw85634494449441806:=0
def tw8618572250108565687:=0
def tw862474621934145564:=0
def tw8631078654594187000:=0
def tw8637778500001460843:=0
def tw8669676744660879144:=0
def tw8692243835749958810:=0
def tw8701954355015099856:=0
def tw8735204272678786886:=0
def tw8878054928989184121:=0
def tw8913412856955012120:=0
def tw8939514596827742069:=0
def tw8965061075091069197:=0
def tw9014580385822833324:=0
def tw9064142008412476259:=0
def tw9067206707204520753:=0
def tw9097713214270473629:=0
def tw9137727529572673164:=0
def tw9253564071691421356:=0
def tw9263717532729970287:=0
def tw9347857291903991690:=0
def tw9451213929795063348:=0
def tw9554253099904984481:=0
def tw9577084003264074182:=0
def tw9600682900166976196:=0
def tw9612820846275525037:=0
def tw9802584606718242683:=0
def tw9825435452538864409:=0
def tw9828136593597463051:=0
def tw9962720203476804481:=0
def tw9979855527462578639:=0
def tw9993612587628034606:=0
end PySem.W.Fast
open PySem PySem.W PyProof.Rows
set_option maxRecDepth 100000 in
set_option maxHeartbeats 0 in
theorem PySem.Challenge.cw_morethanhalf_k25_papers_of_another_shape_holds : PySem.Challenge.rw_morethanhalf_k25_papers_of_another_shape.Holds := by
 w_on;o_law;k_head;(case hw=>w_witness2)
 k_fill
 refine Law.walk (l:=PySem.Challenge.rw_morethanhalf_k25_papers_of_another_shape) rfl rfl (fun w h Y=>PySem.W.kIn_of Y) ?F
 case F=>
  intro w mg fa h KX G hmg;refine' Law.all_mk KX G hmg ?_ ?_ ?_ ?_ ?_ ?_ ?_ ?_ ?_ ?_ ?_ ?_ ?_ ?_ ?_ ?_ ?_ ?_ ?_ ?_ ?_ ?_ ?_ ?_ ?_ ?_ ?_ ?_ ?_ ?_ ?_ ?_ ?_ ?_ ?_ ?_ ?_ ?_ ?_ ?_ ?_ ?_ ?_ ?_ ?_ ?_ ?_ ?_ ?_ ?_ ?_ ?_ ?_ ?_ ?_ ?_ ?_ ?_ ?_ ?_ ?_ ?_ ?_ ?_ ?_ ?_ ?_ ?_ ?_ ?_ ?_ ?_ ?_ ?_ ?_ ?_ ?_ ?_ ?_ ?_ ?_ ?_ ?_ ?_ ?_ ?_ ?_ ?_ ?_ ?_ ?_ ?_ ?_ ?_ ?_ ?_ ?_ ?_ ?_ ?_ ?_ ?_ ?_ ?_ ?_ ?_ ?_ ?_ ?_ ?_ ?_ ?_ ?_ ?_ ?_ ?_ ?_ ?_ ?_ ?_ ?_ ?_ ?_ ?_ ?_ ?_ ?_ ?_ ?_ ?_ ?_ ?_ ?_ ?_ ?_ ?_ ?_ ?_ ?_ ?_ ?_ ?aI ?aF ?aE ?aG ?_ ?_ ?_ ?_ ?_ ?_ ?_ ?_ ?_ ?_ ?_ ?_ ?_ ?_ ?_ ?ak ?ai ?aq ?ah ?_ ?_ ?_ ?_ ?_ ?_ ?_ ?_ ?_ ?_ ?_ ?_ ?_ ?_ ?_ ?_ ?_ ?_ ?_ ?_ ?_ ?_
  (case ak=>k_is)
  (case ai=>k_is)
  (case aq=>k_is)
  (case ah=>k_is)
  (case aI=>k_is)
  (case aF=>k_is)
  (case aE=>rfl)
  (case aG=>rfl)
  all_goals(first|k_is|kit_is|kernel_rfl|skip)

