import PyProof.Rows.All
import Wide.All
import OpenK.AllK
import Wide.FinOn
import Lean
import PyProof.EqAt
import PyProof.EqKinds
import PyProof.TupleCall
import PyProof.NsDelKeeps
import KE.KTryMore
import OpenK.KOwn
import PyProof.ExcBaseAll.ValueError
import PyProof.Rows.CountFlat
import PyProof.Rows.SeqMore2
import PyProof.SumWalkG
import PyProof.FitsBits
import PyProof.Rows.IntMath
import PyProof.P3Eq
import PyProof.ZipIter
import PyProof.TupleIter
import PyProof.TupleOfSeq
import PyProof.TupleOfGen
import PyProof.ListRange
import PyProof.Rows.SeqMore
import PySem.Challenge.RW_morethanhalf_k29_whole_rows_and_fewest
set_option Elab.async false
set_option linter.all false
set_option compiler.extract_closed false
set_option maxRecDepth 100000
set_option maxHeartbeats 0
open PySem.W (Frag nsIn keepIn codeIn fnOf findIn isFn)
noncomputable section
abbrev QS:=List (PySem.Addr×PySem.Obj)
abbrev OK:=PySem.Value->PySem.Shared->Prop
def P2:=@PySem.wpAny_bind
def P3:=@Nat.le_refl
def P4:=@PySem.Heap.get?_push_of_some
def P5:=@List.getElem?_eq_some_iff.{0}
def P6:=@PySem.wpAny_pure
def P7:=@List.getD_eq_getElem?_getD.{0}
def P8:=@PySem.wpAny_mono
def P9:=@List.getElem?_eq_getElem.{0}
def Qa:=@PySem.Heap.lt_size
def Qb:=@List.length_map.{0,0}
def Qc:=@List.map_cons.{0,0}
def Qd:=@PySem.Heap.get?_push_size
def Qe:=@List.getElem?_append_left.{0}
def Qf:=@List.mem_append_right.{0}
def Qg:=@Iff.rfl
def Qh:=@List.size_toArray.{0}
def Qi:=@List.mem_map.{0,0}
def Qj:=@List.length_cons.{0}
def Qk:=@Nat.ne_of_lt
def Ql:=@List.find?_cons.{0}
def Qm:=@List.getElem?_map.{0,0}
def Qn:=@decide_eq_false
def Qo:=@Bool.false_eq_true
def Qp:=@List.length_append.{0}
def Qq:=@List.mem_filter.{0}
def Qr:=@List.mem_append.{0}
def Qs:=@Bool.and_eq_true
def Qt:=@Nat.lt_of_lt_of_le
def Qu:=@List.mem_singleton.{0}
def Qw:=@Bool.not_true
def Qx:=@Option.some.inj.{0}
def Qy:=@List.lookup_cons.{0,0}
def Qz:=@List.mem_cons.{0}
def QA:=@List.length_eq_zero_iff.{0}
def QB:=@List.drop_eq_getElem_cons.{0}
def QC:=@decide_eq_true
def QD:=@List.getElem?_append_right.{0}
def QE:=@List.all_eq_true.{0}
def QF:=@Bool.false_ne_true
def QG:=@PySem.PassesOwn.never
def QH:=@Bool.not_false
def QI:=@List.mem_range
def QJ:=@PySem.mem_of_lookup
def QK:=@List.map_congr_left.{0,0}
def QL:=@Nat.le_trans
def QM:=@List.drop_eq_nil_of_le.{0}
def QN:=@List.map_map.{0,0,0}
def QO:=@List.mem_cons_of_mem.{0}
def QP:=@List.getElem?_set_ne.{0}
def QQ:=@decide_eq_true_eq
def QR:=@List.length_singleton.{0}
def QT:=@Classical.byContradiction
def QU:=@List.append_nil.{0}
def QV:=@List.map_append.{0,0}
def QW:=@PySem.wpAny_newObj_type
def QX:=@List.getElem_mem.{0}
def QY:=@Nat.lt_irrefl
def QZ:=@Nat.zero_le
def Q0:=@PySem.Around.under_plainId
def Q1:=@PySem.Heap.get?_update_other
def Q2:=@PySem.Heap.size_push
def Q3:=@Option.isSome_iff_exists.{0}
def Q4:=@List.length_filter_le.{0}
def Q5:=@PySem.wpAny_truthy_bool
def Q6:=@PyProof.Rows.callWith_type1
def Q7:=@List.idxOf_lt_length_of_mem.{0}
def Q8:=@List.getElem?_of_mem.{0}
def Q9:=@Bool.eq_iff_iff
def Ra:=@List.pairwise_iff_getElem.{0}
def Rb:=@List.any_eq_true.{0}
def Rc:=@PySem.wpAny_standAt
def Re:=@List.any_cons.{0}
def Rf:=@List.filter_eq_nil_iff.{0}
def Rg:=@Array.length_toList.{0}
def Rh:=@PySem.codeAny_builtin
def Ri:=@List.mem_of_find?_eq_some.{0}
def Rj:=@List.find?_eq_none.{0}
def Rk:=@Option.bind_some.{0,0}
def Rl:=@PySem.wpAny_holding
def Rn:=@PySem.wpAny_comprehension_free
def Ro:=@PySem.plainId_quiet
def Rp:=@PySem.sizeLine_eq
def Rq:=@List.mem_of_getElem?.{0}
def Rr:=@List.nodup_append.{0}
def Rt:=@List.length_range
def Ru:=@List.replicate_succ.{0}
def Rv:=@Nat.zero_add
def Rw:=@PySem.wpAny_isInstance
def Rx:=@List.filter_cons.{0}
def Ry:=@List.isEmpty_nil.{0}
def Rz:=@PySem.wpAny_Call_Name_kw
def RA:=@List.exists_cons_of_ne_nil.{0}
def RC:=@PySem.Heap.get?_update_self
def RD:=@PySem.wpAny_passesOwn
def RE:=@PySem.wpAny_loadPart'
def RF:=@List.length_set.{0}
def RH:=@Nat.lt_succ_of_lt
def RJ:=@List.length_take.{0}
def RK:=@PySem.F.plainAttrs_dict
def RM:=@PySem.F.plain_max_loop
def RN:=@List.mem_cons_self.{0}
def RP:=@List.map_nil.{0,0}
def RQ:=@Option.isSome_some.{0}
def RS:=@List.nodup_cons.{0}
def RT:=@List.length_nil.{0}
def RU:=@List.flatten_cons.{0}
def RV:=@List.isEmpty_cons.{0}
def RW:=@PySem.wpAny_seqItems
def RX:=@List.mem_append_left.{0}
def RY:=@PySem.wpAny_call_entry
def RZ:=@Nat.lt_succ_self
def R0:=@PySem.codeAny_mono
def R1:=@List.mem_flatMap.{0,0}
def R3:=@decide_false
def R4:=@PySem.Paired.length
def R5:=@List.all_cons.{0}
def R6:=@PySem.wpAny_specialOf
def R7:=@Option.map_some.{0,0}
def R8:=@List.find?_some.{0}
def R9:=@List.mem_filterMap.{0,0}
def Sa:=@PySem.W.callWith_K
def Sb:=@PySem.typeIs_int
def Sc:=@Nat.le_of_lt
def Sd:=@Nat.ne_of_gt
def Se:=@PySem.W.cellsFrom_some
def Sf:=@Int.toNat_natCast
def Sg:=@List.append_assoc.{0}
def Sh:=@Option.isSome_map.{0,0}
def Si:=@Nat.lt_trans
def Sj:=@PySem.wpAny_tryCatch
def Sk:=@Option.map_eq_none_iff.{0,0}
def Sl:=@Nat.lt_trichotomy
def Sm:=@PySem.isSubtype_tuple_tuple
def Sn:=@Array.getElem?_toList.{0}
def So:=@PySem.F.plain_sum_loop
def Sq:=@List.take_length.{0}
def Ss:=@decide_eq_decide
def Su:=@PySem.wpAny_field
def Sv:=@PySem.wpAny_execs_nil
def Sw:=@PySem.wpAny_updateSeq
def Sy:=@List.filterMap_cons.{0,0}
def Sz:=@PySem.W.plainGet_of
def SA:=@List.findSome?_cons.{0,0}
def SB:=@List.filter_eq_self.{0}
def SC:=@PySem.call_range_1
def SD:=@Nat.lt_or_ge
def SE:=@PySem.wpAny_tupleItemsOf
def SF:=@Array.forIn_toList.{0,0,0}
def SG:=@PySem.wpAny_rule
def SH:=@PyProof.Rows.assignInOrder_cons
def SI:=@List.filter_append.{0}
def SJ:=@Option.isNone_none.{0}
def SK:=@Option.isNone_some.{0}
def SL:=@Option.isSome_none.{0}
def SM:=@List.map_singleton.{0,0}
def SN:=@List.getElem_idxOf.{0}
def SO:=@Int.emod_lt_of_pos
def SQ:=@PySem.wpAny_pyIter_list
def SR:=@List.ext_getElem?.{0}
def SS:=@decide_true
def SU:=@Option.some.injEq.{0}
def SW:=@List.idxOf_append.{0}
def SY:=@PySem.rangeSize_one
def SZ:=@List.length_drop.{0}
def S0:=@PySem.call_meets
def S1:=@PySem.codeAny_loop
def S2:=@PySem.call_meetsIn
def S3:=@List.set_set.{0}
def S4:=@List.of_mem_zip.{0,0}
def S5:=@Nat.testBit_and
def S6:=@Int.emod_nonneg
def S7:=@PySem.Paired.snoc
def S8:=@PySem.wpAny_noted
def S9:=@PySem.wpAny_letGo
def Ta:=@PySem.wpAny_of_eq
def Tb:=@PySem.eval_ListComp
def Tc:=@Bool.true_xor
def Td:=@PySem.wpAny_call
def bq{p:Prop}(h:¬p->False):p:=QT h
namespace L2
open PySem PySem.Spec PyProof.Rows
abbrev Key:=Sum Int Str
def jX:Key->Value->Bool
 | .inl k,v=>Value.isInt k v
 | .inr x,v=>Value.isStrOf x v
def JV(w:World):Key->Int
 | .inl k=>hashInt k
 | .inr x=>hashStr w x
theorem ib:∀{k:Key} {v:Value},jX k v=true->(∃i t,k=Sum.inl i/\v=Value.int i t)\/(∃x t,k=Sum.inr x/\v=Value.str x t)
 | .inl i,v,h=>by
  obtain⟨t,e⟩:=Value.isInt_shape (k:=i) (v:=v) h;exact .inl ⟨i,t,rfl,e⟩
 | .inr x,v,h=>by
  obtain⟨t,e⟩:=Value.isStrOf_shape (x:=x) (v:=v) h;exact(.inr ⟨x,t,rfl,e⟩)
def KU(i:Int)(t:Tok):jX (.inl i) (.int i t)=true:=by simp[jX,Value.isInt]
def GI(x:Str)(t:Tok):jX (.inr x) (.str x t)=true:=by simp[jX,Value.isStrOf]
def IC(a b:Int):decide ((Sum.inl a:Key)=Sum.inl b)=(a==b):=by
 by_cases e:a=b
 .subst e;simp
 .have h:¬(Sum.inl a:Key)=Sum.inl b:=fun q=>e (Sum.inl.inj q);rw[Qn h];exact(beq_eq_false_iff_ne.mpr e).symm
def Of(a b:Str):decide ((Sum.inr a:Key)=Sum.inr b)=decide (a=b):=by
 by_cases e:a=b
 .subst e;simp
 .have h:¬(Sum.inr a:Key)=Sum.inr b:=fun q=>e (Sum.inr.inj q);rw[Qn h,Qn e]
def Jl(a:Int)(b:Str):decide ((Sum.inl a:Key)=Sum.inr b)=false:=Qn (fun q=>nomatch q)
def O5(a:Str)(b:Int):decide ((Sum.inr a:Key)=Sum.inl b)=false:=Qn (fun q=>nomatch q)
def fv(prog:Program)(w:World):PySem.KeyKind prog w Key where
 is:=jX
 hash:=JV w
 inj:=fun v a b ha hb=>by
  rcases ib ha with⟨i,t,rfl,rfl⟩|⟨x,t,rfl,rfl⟩
  .rcases ib hb with⟨j,u,rfl,e⟩|⟨y,u,rfl,e⟩
   .injection e with e1 _;rw[e1]
   .exact nomatch e
  .rcases ib hb with⟨j,u,rfl,e⟩|⟨y,u,rfl,e⟩
   .exact nomatch e
   .injection e with e1 _;rw[e1]
 byValue:=fun k v h=>by
  rcases ib h with⟨i,t,rfl,rfl⟩|⟨x,t,rfl,rfl⟩<;>rfl
 pyHash:=fun hv h=>by
  rcases ib hv with⟨i,t,rfl,rfl⟩|⟨x,t,rfl,rfl⟩
  .exact wpAny_pyHash_int h
  .exact wpAny_pyHash_str h
 eqBool:=fun hu hv h=>by
  rcases ib hu with⟨i,t,rfl,rfl⟩|⟨x,t,rfl,rfl⟩
  .rcases ib hv with⟨j,u,rfl,rfl⟩|⟨y,u,rfl,rfl⟩
   .rw[IC] at h;exact wpAny_eqBool_int h
   .rw[Jl] at h;exact SeqAt.EqAt.int_str i t y u _ _ _ _ h
  .rcases ib hv with⟨j,u,rfl,rfl⟩|⟨y,u,rfl,rfl⟩
   .rw[O5] at h;exact SeqAt.EqAt.str_int x t j u _ _ _ _ h
   .rw[Of] at h;exact wpAny_eqBool_str h
 «strs»:=fun k x t v h=>by
  rcases ib h with⟨i,u,rfl,e⟩|⟨y,u,rfl,e⟩
  .exact nomatch e
  .injection e with e1 _
   subst e1;cases v<;>rfl
def FB(prog:Program)(w:World)(i:Int)(t:Tok):(fv prog w).is (.inl i) (.int i t)=true:=KU i t
def KQ(prog:Program)(w:World)(x:Str)(t:Tok):(fv prog w).is (.inr x) (.str x t)=true:=GI x t
inductive V where
 |non|bl (b:Bool)|int (i:Int)|str (x:Str)|byt (b:Array UInt8)|flt (b:UInt64)|ref (a:Addr)|ty (n:String)
 deriving DecidableEq
def RelV:V->Value->Prop
 | .non,u=>u=Value.none
 | .bl b,u=>u=Value.bool b
 | .int i,u=>∃t,u=Value.int i t
 | .str x,u=>∃t,u=Value.str x t
 | .byt b,u=>∃t,u=Value.bytes b t
 | .flt b,u=>∃t,u=Value.float b t
 | .ref a,u=>u=Value.ref a
 | .ty n,u=>u=Value.type n
abbrev Vals:List V->List Value->Prop:=Paired RelV
def Vals.length{xs:List V}{us:List Value}(r:Vals xs us):xs.length=us.length:=R4 r
theorem Vals.get:∀{xs:List V} {us:List Value} {i:Nat} {x:V},Vals xs us->xs[i]?=some x->∃u,us[i]?=some u/\RelV x u
 |_,_,_,_,.nil,e=>by simp at e
 |_,_,0,_,.cons r _,e=>by simp at e;subst e;exact⟨_,rfl,r⟩
 |_,_,i+1,x,.cons _ t,e=>by
  obtain⟨u,h1,h2⟩:=Vals.get (i:=i) (x:=x) t (by simpa using e);exact(⟨u,by simpa using h1,h2⟩)
theorem Vals.set{x:V}{u:Value}(r:RelV x u):∀{xs:List V} {us:List Value} (i:Nat),Vals xs us->Vals (xs.set i x) (us.set i u)
 |_,_,_,.nil=>.nil
 |_,_,0,.cons _ t=>.cons r t
 |_,_,i+1,.cons q t=>.cons q (Vals.set r i t)
theorem Vals.append:∀{xs ys:List V} {us ws:List Value},Vals xs us->Vals ys ws->Vals (xs++ys) (us++ws)
 |_,_,_,_,.nil,s=>s
 |_,_,_,_,.cons r t,s=>.cons r (Vals.append t s)
theorem Vals.take:∀{xs:List V} {us:List Value} (n:Nat),Vals xs us->Vals (xs.take n) (us.take n)
 |_,_,0,_=>.nil
 |_,_,_+1,.nil=>.nil
 |_,_,n+1,.cons r t=>.cons r (Vals.take n t)
theorem Vals.drop:∀{xs:List V} {us:List Value} (n:Nat),Vals xs us->Vals (xs.drop n) (us.drop n)
 |_,_,0,r=>r
 |_,_,_+1,.nil=>.nil
 |_,_,n+1,.cons _ t=>Vals.drop n t
def Ub:Option V->Option Value->Prop
 |some v,some u=>RelV v u
 |none,none=>True
 |_,_=>False
def KV{κ:Type}:List (κ×V)->List (κ×Value)->Prop:=Paired fun(p:κ×V) (q:κ×Value)=>p.1=q.1/\RelV p.2 q.2
def kV:Key->V
 | .inl i=>.int i
 | .inr x=>.str x
abbrev NK:=List Int×Int
section
variable {P:Program} {w:World}
def Uk(P:Program)(w:World)(h:Heap)(k:NK)(a:Addr):Prop:=∃(o:Obj) (b:Addr) (t:Tok) (c:Nat),h.get? a=some o/\o.cls=.type "tuple"/\o.data=.seq #[.ref b,.int k.2 t] c/\IsTupleKey (intKind P w) h k.1 b
def rW(P:Program)(w:World)(k:NK):Int:=reduceHash (Builtin.Tuple.tupleHashOf [tupleKeyHash (intKind P w) k.1,hashInt k.2])
variable {A:Around} {E:OK} {s:Shared} {k m:NK} {a b:Addr}
theorem Uk.ty(x:Uk P w s.heap k a):s.TypeIs (.ref a) "tuple":=let ⟨o,_,_,_,h1,h2,_⟩:=x;⟨o,h1,h2⟩
theorem Uk.inj{h:Heap}(x:Uk P w h k a)(y:Uk P w h m a):k=m:=by
 obtain⟨o,b,t,c,h1,_,h3,h4⟩:=x;obtain⟨o',b',t',c',g1,_,g3,g4⟩:=y;rw[h1] at g1;cases g1;rw[h3] at g3;obtain⟨k1,k2⟩:=k;obtain⟨m1,m2⟩:=m;simp only[Data.seq.injEq,Array.mk.injEq,List.cons.injEq,Value.ref.injEq,Value.int.injEq] at g3;obtain⟨⟨e1,⟨e2,_⟩,_⟩,_⟩:=g3;subst e1;subst e2;have:=h4.inj g4;simp only at this;subst this;rfl
theorem Uk.keeps{h h':Heap}{d:Addr}{o:Obj}{es ep}(x:Uk P w h k a)(ho:h.get? d=some o)(hd:o.data=.dict es ep)(hs:Heap.SameBut d h h'):Uk P w h' k a:=by
 obtain⟨q,b,t,c,h1,h2,h3,h4⟩:=x;refine⟨q,b,t,c,(hs.2 a ?_).trans h1,h2,h3,h4.keeps ho hd hs⟩;intro e;subst e;rw[ho] at h1;cases h1;rw[h3] at hd;cases hd
theorem CK{Q:Int->Shared->Prop}(hu:A.units+4<cLine)(x:Uk P w s.heap k a)(h:Q (rW P w k) {s with toks:=s.toks+(k.1.length+3)}):wpAny (model P w) A (pyHash (.ref a)) Q E s:=by
 have hT:=x.ty;obtain⟨o,b,t,c,h1,_,h3,h4⟩:=x;unfold pyHash;first|unfold pyHashByItsType|skip
 first|refine P2 (wpAny_cRoomFor_or (.inr (by omega)) ?_)|skip
 refine P2 (R6 hT F.slot_tuple_hash.lookup ?_);show wpAny _ _ (if(some (Value.builtin "tuple.__hash__")==some Value.none)=true then _ else _) Q E s;rw[if_neg (by rw[beq_builtin_none];exact QF)];refine P2 (R6 hT F.slot_tuple_hash.lookup ?_);show wpAny _ _ (callSpecialIfBoundUnlessNone? (.ref a) "__hash__" _ >>= _) Q E s;refine P2 (wpAny_callSpecialIfBoundUnlessNone?_slot hT F.slot_tuple_hash (RY F.slot_tuple_hash hT F.entry_tuple_hash ?_ (F.args_tuple_hash_1 _)));show wpAny _ _ (Builtin.Tuple.tupleItemsOf (.ref a) >>= _) _ _ s;refine P2 (SE h1 h3 ?_);refine P2 ?_;rw[←SF];show wpAny _ _ (forIn [Value.ref b,Value.int k.2 t] (#[]:Array Int) _) _ _ _;rw[List.forIn_cons];refine P2 (P2 (wpAny_pyHash_tuple (show A.in1.units<cLine by show A.units+1<cLine;omega) h4 (P6 ?_)));show wpAny _ _ (forIn [Value.int k.2 t] (#[tupleKeyHash (intKind P w) k.1]:Array Int) _) _ _ _;rw[List.forIn_cons];refine P2 (P2 ((intKind P w).pyHash (k:=k.2) (by simp[intKind,Value.isInt]) (P6 ?_)));show wpAny _ _ (forIn [] (#[tupleKeyHash (intKind P w) k.1,hashInt k.2]:Array Int) _) _ _ _;rw[List.forIn_nil];refine P6 ?_;show wpAny _ _ (retInt (Builtin.Tuple.tupleHashOf [tupleKeyHash (intKind P w) k.1,hashInt k.2])) _ _ _;refine wpAny_ret_mkInt ?_;have et:s.toks+(k.1.length+1)+1+1=s.toks+(k.1.length+3):=by omega
 unfold rW reduceHash at h;generalize Builtin.Tuple.tupleHashOf [tupleKeyHash (intKind P w) k.1,hashInt k.2]=z at h⊢;show wpAny _ _ (ite ((decide (-(2:Int)^63<=z)&&decide (z<2^63))=true) _ _) Q E _;rw[←et] at h;by_cases hr:(decide (-(2:Int)^63<=z)&&decide (z<2^63))=true
 .rw[if_pos hr] at h⊢;exact P6 h
 .rw[if_neg hr] at h⊢;exact P2 (SG (P6 h))
theorem Oh{Q:Fin->Shared->Prop}(hu:A.units<cLine)(x:Uk P w s.heap k a)(y:Uk P w s.heap m b)(h:Q (.done (.ret (.bool (decide (k=m))))) s):wpAny (model P w) A (Builtin.«tuple.__eq__» ⟨[.ref a,.ref b],[]⟩) Q E s:=by
 have hTb:=y.ty;obtain⟨o,b1,t,c,h1,_,h3,h4⟩:=x;obtain⟨o',b1',t',c',g1,_,g3,g4⟩:=y;show wpAny _ _ (isInstance (.ref b) (.type "tuple") >>= _) _ _ s;refine P2 (Rw hTb Sm ?_);simp only[Qw,Qo,if_false];refine P2 (SE h1 h3 ?_);refine P2 (SE g1 g3 ?_);refine P2 ?_;show wpAny _ _ (forIn [(Value.ref b1,Value.ref b1'),(Value.int k.2 t,Value.int m.2 t')] ((none:Option PySem.Fin),()) _) _ _ _;rw[List.forIn_cons];refine P2 (P2 (wpAny_eqBool_tuple hu h4 g4 ?_));by_cases e1:k.1=m.1
 .rw[QC e1];simp only[Qw,Qo,if_false];refine P6 ?_;show wpAny _ _ (forIn [(Value.int k.2 t,Value.int m.2 t')] ((none:Option PySem.Fin),()) _) _ _ _;rw[List.forIn_cons];refine P2 (P2 ((intKind P w).eqBool (a:=k.2) (b:=m.2) (by simp[intKind,Value.isInt]) (by simp[intKind,Value.isInt]) ?_));by_cases e2:k.2=m.2
  .have e:k=m:=Prod.ext e1 e2;rw[QC e] at h;rw[QC e2];simp only[Qw,Qo,if_false];refine P6 ?_;show wpAny _ _ (forIn [] ((none:Option PySem.Fin),()) _) _ _ _;rw[List.forIn_nil];refine P6 ?_;exact P6 h
  .have e:¬k=m:=fun z=>e2 (by rw[z]);rw[Qn e] at h;rw[Qn e2];simp only[QH,if_true];exact P2 (P6 (P6 (P6 (P6 h))))
 .have e:¬k=m:=fun z=>e1 (by rw[z]);rw[Qn e] at h;rw[Qn e1];simp only[QH,if_true];exact P2 (P6 (P6 (P6 (P6 h))))
theorem Ep{Q:Bool->Shared->Prop}(hu:A.units+4<cLine)(x:Uk P w s.heap k a)(y:Uk P w s.heap m b)(h:Q (decide (k=m)) s):wpAny (model P w) A (eqBool (.ref a) (.ref b)) Q E s:=by
 unfold eqBool;try with_reducible refine Rl ?_
 show wpAny _ _ (ite ((Value.ref a==Value.ref b)=true) _ _) Q E s;by_cases YV:a=b
 .subst YV;rw[if_pos (by simp)];have:=x.inj y;subst this;exact P2 (SG (P6 (by simpa using h)))
 .rw[if_neg (by simpa using YV)];exact P2 (wpAny_richCompare_same_room (op:=.Eq) x.ty y.ty F.slot_tuple_eq (RY F.slot_tuple_eq x.ty F.entry_tuple_eq (Oh (by show A.units+1<cLine;omega) x y ⟨_,rfl,(fun e=>nomatch e),Q5 h⟩) (F.args_tuple_eq_2 _ _)) (by omega))
theorem Nf{ks:List Int}{n:Nat}{Q:Bool->Shared->Prop}(x:IsTupleKey (intKind P w) s.heap ks a)(h:Q true s):wpAny (model P w) A (eqIsQuiet (n+1) (.ref a)) Q E s:=by
 have hT:=x.typeIs;obtain⟨o,items,c,h1,_,h3,h4⟩:=x;unfold eqIsQuiet;refine P2 (R6 hT F.slot_tuple_eq.lookup ?_);show wpAny _ _ (isInstance (.ref a) (.type "tuple") >>= _) _ _ s;refine P2 (Rw hT Sm ?_);simp only[Qw,Qo,if_false];refine P2 (RW h1 h3 ?_);refine P2 ?_;show wpAny _ _ (forIn items _ _) _ _ s;rw[←SF];refine wpAny_forIn_list _ (fun di r s'=>r.1=none/\s'=s/\∀v∈di,carriedByValue v=true) _ ?_ ?_ _ _ ⟨rfl,rfl,h4.byValue⟩
 .intro v di r s' q;obtain⟨_,e,q⟩:=q;subst e;rw[eqIsQuiet_byValue _ (q v (by simp))];refine P2 (P6 ?_);simp only[Qw,Qo,if_false];exact P6 ⟨rfl,rfl,fun u hu=>q u (by simp[hu])⟩
 .intro r s' q;obtain⟨r1,r2⟩:=r;obtain⟨e1,e2,_⟩:=q;cases e1;subst e2;exact P6 h
theorem Gq{Q:Bool->Shared->Prop}(x:Uk P w s.heap k a)(h:Q true s):wpAny (model P w) A (eqIsQuiet 8 (.ref a)) Q E s:=by
 have hT:=x.ty;obtain⟨o,b,t,c,h1,_,h3,h4⟩:=x;unfold eqIsQuiet;refine P2 (R6 hT F.slot_tuple_eq.lookup ?_);show wpAny _ _ (isInstance (.ref a) (.type "tuple") >>= _) _ _ s;refine P2 (Rw hT Sm ?_);simp only[Qw,Qo,if_false];refine P2 (RW h1 h3 ?_);refine P2 ?_;rw[←SF];show wpAny _ _ (forIn [Value.ref b,Value.int k.2 t] _ _) _ _ s;rw[List.forIn_cons];refine P2 (P2 (Nf h4 ?_));simp only[Qw,Qo,if_false];refine P6 ?_;show wpAny _ _ (forIn [Value.int k.2 t] _ _) _ _ s;rw[List.forIn_cons,eqIsQuiet_byValue _ rfl];refine P2 (P2 (P6 ?_));simp only[Qw,Qo,if_false];refine P6 ?_;show wpAny _ _ (forIn [] _ _) _ _ s;rw[List.forIn_nil];exact P6 (P6 h)
end
def kP(P:Program)(w:World):HeapKind P w NK where
 is:=Uk P w
 hash:=rW P w
 draws:=fun k=>k.1.length+3
 room:=fun A=>A.units+4<cLine
 inj:=fun x y=>x.inj y
 keeps:=fun x h1 h2 h3=>x.keeps h1 h2 h3
 pyHash:=fun h x q=>CK h x q
 eqBool:=fun h x y q=>Ep h x y q
 quiet:=fun x q=>Gq x q
inductive HO where
 |lst (xs:List V)
 |tup (xs:List V)
 |dK (kvs:List (Key×V))|dT (kvs:List (NK×V))
 |set (S:Int->Bool) (n:Nat)
 |ins (C dx:Addr) (fs:List (Str×V))
 |own (x:Addr)
 |xd (fs:List (Str×V))
 |met (f x:Addr)
 |rng (lo hi:Int)
 |frz (o:Obj) (u:HO)
 |tbl (ps:Array Value)
 |ext (φ:Heap->Prop)
abbrev Hp:=Addr->Option HO
def VA(H:Hp)(b:Addr)(k:NK):Prop:=∃c,H b=some (.tup [.ref c,.int k.2])/\H c=some (.tup (k.1.map V.int))
def VA.up{H H':Hp}{b:Addr}{k:NK}(e:VA H b k)(ht:∀b xs,H b=some (.tup xs)->H' b=some (.tup xs)):VA H' b k:=let ⟨c,h1,h2⟩:=e;⟨c,ht _ _ h1,ht _ _ h2⟩
def upd(H:Hp)(a:Addr)(o:HO):Hp:=fun b=>if b=a then some o else H b
def eC{H:Hp}{a:Addr}{o:HO}:upd H a o a=some o:=by unfold upd;rw[if_pos rfl]
def dg{H:Hp}{a b:Addr}{o:HO}(h:b≠a):upd H a o b=H b:=by unfold upd;rw[if_neg h]
def GE{H:Hp}{a b:Addr}{o u:HO}(h:H a=some o)(h':H b=some u)(d:o≠u):a≠b:=by
 intro e;subst e;rw[h] at h';exact d (Qx h')
def fk{H:Hp}{a b:Addr}{o:HO}(h:H a=some o)(h':H b=none):a≠b:=by
 intro e;subst e;rw[h] at h';cases h'
section
variable (P:Program) (w:World)
def Tf(H:Hp)(h:Heap)(a:Addr):HO->Prop
 | .lst xs=>xs.length<=sizeLine/\∃(its:List Value) (n:Nat),Vals xs its/\h.get? a=some {cls:=.type "list",data:=.seq its.toArray n}
 | .tup xs=>xs.length<=sizeLine/\∃its:List Value,Vals xs its/\IsTup h a its.toArray
 | .dK kvs=>kvs.length<=sizeLine/\(a==sysModules)=false/\∃vs,KV kvs vs/\h.DictOf (fv P w) a vs
 | .dT kvs=>kvs.length<=sizeLine/\(a==sysModules)=false/\∃xs:List (NK×Addr×Value),
   Paired (fun(p:NK×V) (q:NK×Addr×Value)=>p.1=q.1/\VA H q.2.1 p.1/\RelV p.2 q.2.2) kvs xs/\
   ∃o es ep,h.get? a=some o/\o.ExactDict/\o.data=.dict es ep/\es.toList=xs.map (entryOfKey (kP P w))/\(xs.map (·.1)).Nodup
 | .set S n=>h.SetOf (intKind P w) a S n
 | .ins C dx fs=>H dx=some (.own a)/\fs.length<=1000/\dx≠a/\h.get? a=some (PySem.W.instObj C dx)/\
   ∃mA,h.Ns1 dx mA/\(∀f,Ub (fs.lookup f) (mA f))/\PySem.Within mA (fs.map (·.1))
 | .own _=>∃o,h.get? a=some o
 | .xd fs=>∃mA,h.Ns1 a mA/\∀f,Ub (fs.lookup f) (mA f)
 | .rng lo hi=>∃t u v,h.get? a=some {cls:=.type "range",data:=.fields #[.int lo t,.int hi u,.int 1 v]}
 | .frz o u=>h.get? a=some o/\Tf H h a u
 | .tbl ps=>h.get? a=some {cls:=.none,data:=.fields ps}
 | .met f x=>h.get? a=some (PySem.W.methodObj (.ref f) (.ref x))
 | .ext φ=>φ h/\(∃o,h.get? a=some o)/\∀h1 h2:Heap,φ h1->(∀o,h1.get? a=some o->h2.get? a=some o)->φ h2
def Ua(H:Hp)(h:Heap):Prop:=∀a o,H a=some o->Tf P w H h a o
end
section
variable {P:Program} {w:World} {H H':Hp} {h h':Heap} {a:Addr} {o:HO}
theorem Tf.lt(x:Tf P w H h a o):a<h.objs.size:=by
 cases o with
 |lst xs=>obtain⟨_,_,_,_,e⟩:=x;exact Qa e
 |tup xs=>obtain⟨_,_,_,p⟩:=x;exact p.lt
 |dK kvs=>obtain⟨_,_,_,_,o,_,_,e,_⟩:=x;exact Qa e
 |dT kvs=>obtain⟨_,_,_,_,o,_,_,e,_⟩:=x;exact Qa e
 |set S n=>obtain⟨o,_,_,_,e,_⟩:=x;exact Qa e
 |ins C dx fs=>obtain⟨_,_,_,e,_⟩:=x;exact Qa e
 |own y=>obtain⟨_,e⟩:=x;exact Qa e
 |xd fs=>obtain⟨_,⟨_,_,_,e,_⟩,_⟩:=x;exact Qa e
 |rng lo hi=>obtain⟨_,_,_,e⟩:=x;exact Qa e
 |frz ob u=>obtain⟨e,_⟩:=x;exact Qa e
 |tbl ps=>exact Qa (show h.get? a=some _ from x)
 |met f y=>exact Qa (show h.get? a=some _ from x)
 |ext φ=>obtain⟨_,⟨_,e⟩,_⟩:=x;exact Qa e
theorem Paired.mapP{J β:Type}{F G:J->β->Prop}:∀{Ze:List J} {Zd:List β},Paired F Ze Zd->(∀a b,F a b->G a b)->Paired G Ze Zd
 |_,_,.nil,_=>.nil
 |_,_,.cons r t,f=>.cons (f _ _ r) (Paired.mapP t f)
theorem Tf.stay(x:Tf P w H h a o)(k:∀b u,(b=a\/H b=some (.own a))->h.get? b=some u->h'.get? b=some u)
  (ho:∀b,H b=some (.own a)->H' b=some (.own a)) (ht:∀b xs,H b=some (.tup xs)->H' b=some (.tup xs)):Tf P w H' h' a o:=by
 induction o with
 |lst xs=>obtain⟨z,its,n,r,e⟩:=x;exact⟨z,its,n,r,k _ _ (.inl rfl) e⟩
 |tup xs=>obtain⟨z,its,r,ob,e,c⟩:=x;exact⟨z,its,r,ob,k _ _ (.inl rfl) e,c⟩
 |dK kvs=>obtain⟨z,y,vs,r,ob,es,ep,e,c⟩:=x;exact⟨z,y,vs,r,ob,es,ep,k _ _ (.inl rfl) e,c⟩
 |dT kvs=>
  obtain⟨z,y,xs,r,ob,es,ep,e,c⟩:=x;exact⟨z,y,xs,Paired.mapP r fun p q z=>⟨z.1,z.2.1.up ht,z.2.2⟩,ob,es,ep,k _ _ (.inl rfl) e,c⟩
 |set S n=>obtain⟨ob,es,ep,t,e,c⟩:=x;exact⟨ob,es,ep,t,k _ _ (.inl rfl) e,c⟩
 |ins C dx fs=>
  obtain⟨d,z,ne,e,mA,⟨od,es,ep,e2,c⟩,r⟩:=x;exact⟨ho _ d,z,ne,k _ _ (.inl rfl) e,mA,⟨od,es,ep,k _ _ (.inr d) e2,c⟩,r⟩
 |own y=>obtain⟨ob,e⟩:=x;exact⟨ob,k _ _ (.inl rfl) e⟩
 |xd fs=>obtain⟨mA,⟨od,es,ep,e,c⟩,r⟩:=x;exact⟨mA,⟨od,es,ep,k _ _ (.inl rfl) e,c⟩,r⟩
 |rng lo hi=>obtain⟨t,u,v,e⟩:=x;exact⟨t,u,v,k _ _ (.inl rfl) e⟩
 |frz ob u ih=>obtain⟨e,q⟩:=x;exact⟨k _ _ (.inl rfl) e,ih q⟩
 |tbl ps=>
  have e:h.get? a=some {cls:=.none,data:=.fields ps}:=x;show h'.get? a=some {cls:=.none,data:=.fields ps};exact k a _ (.inl rfl) e
 |met f y=>
  have e:h.get? a=some (PySem.W.methodObj (.ref f) (.ref y)):=x;show h'.get? a=some (PySem.W.methodObj (.ref f) (.ref y));exact k a _ (.inl rfl) e
 |ext φ=>obtain⟨p,⟨o,e⟩,st⟩:=x;exact⟨st _ _ p fun o q=>k _ _ (.inl rfl) q,⟨o,k _ _ (.inl rfl) e⟩,st⟩
theorem Ua.lt(x:Ua P w H h)(e:H a=some o):a<h.objs.size:=(x a o e).lt
theorem Ua.fresh(x:Ua P w H h)(e:h.objs.size<=a):H a=none:=by
 cases q:H a with
 |none=>rfl
 |some u=>exact absurd (Qt (x.lt q) e) (QY _)
theorem Ua.kept(x:Ua P w H h)(k:∀b u,h.get? b=some u->h'.get? b=some u):Ua P w H h':=fun a o e=>
 (x a o e).stay (fun b u _ q=>k b u q) (fun _ q=>q) fun _ _ q=>q
theorem Ua.laid(x:Ua P w H h)(k:∀b u,h.get? b=some u->h'.get? b=some u)(hp:h.objs.size<=a)(new:Tf P w (upd H a o) h' a o):Ua P w (upd H a o) h':=fun b u e=>by
 have hn:=x.fresh hp;by_cases hb:b=a
 .subst hb;rw[eC] at e;cases e;exact new
 .rw[dg hb] at e;exact(x b u e).stay (fun c v _ q=>k c v q) (fun c q=>by rw[dg (fk q hn)];exact q) fun c xs q=>by rw[dg (fk q hn)];exact q
end
def Rd(H:Hp)(a:Addr)(u:HO):Prop:=H a=some u\/∃o,H a=some (.frz o u)
def Rd.ok{P:Program}{w:World}{H:Hp}{h:Heap}{a:Addr}{u:HO}(r:Rd H a u)(x:Ua P w H h):Tf P w H h a u:=by
 rcases r with r|⟨o,r⟩
 .exact x a u r
 .obtain⟨_,q⟩:=x a _ r;exact q
def Ρ:Option HO->Prop
 |some (.lst _)=>True
 |some (.dK _)=>True
 |some (.dT _)=>True
 |some (.set _ _)=>True
 |some (.ins _ _ _)=>True
 |some (.ext _)=>True
 |_=>False
section
variable {P:Program} {w:World} {H:Hp} {h h':Heap} {x e:Addr} {o':HO}
theorem Ua.write(ok:Ua P w H h)(mu:Ρ (H x))(he:e=x\/H e=some (.own x))(k:∀b u,b≠e->h.get? b=some u->h'.get? b=some u)(X0:∃u,h'.get? e=some u)
  (new:Tf P w (upd H x o') h' x o'):Ua P w (upd H x o') h':=fun b u q=>by
 have tx:∀c y,H c=some (.own y)->c≠x:=fun c y r z=>by subst z;rw[r] at mu;exact mu
 have Y':∀c xs,H c=some (.tup xs)->c≠x:=fun c xs r z=>by subst z;rw[r] at mu;exact mu
 by_cases hb:b=x
 .subst hb;rw[eC] at q;cases q;exact new
 .rw[dg hb] at q;by_cases YT:b=e
  .have q':H b=some (.own x):=by
    rcases he with z|z
    .exact absurd (YT.trans z) hb
    .rw[YT];exact z
   rw[q] at q';cases q';obtain⟨v,hv⟩:=X0;exact⟨v,by rw[YT];exact hv⟩
  .refine(ok b u q).stay (fun c v hc r=>k c v ?_ r) (fun c r=>by rw[dg (tx c b r)];exact r) fun c xs r=>by rw[dg (Y' c xs r)];exact r
   rcases hc with rfl|hc
   .exact YT
   .rintro rfl;rcases he with z|z
    .exact tx c b hc z
    .rw[hc] at z;cases z;exact hb rfl
end
structure Un (fs ex:List Addr) (H H':Hp) (h h':Heap):Prop where
 keep:∀b o,h.get? b=some o->H b=none->b∉fs->b∉ex->h'.get? b=some o
 slot:∀b o,h.get? b=some o->H b=none->b∈fs->b∉ex->∃sl,h'.get? b=some {o with slots:=sl}
 free:∀b o,h.get? b=some o->H b=none->b∉ex->H' b=none
 there:∀b o,h.get? b=some o->b∉ex->∃o',h'.get? b=some o'
 tups:∀b xs,H b=some (.tup xs)->H' b=some (.tup xs)
 frzs:∀b o u,H b=some (.frz o u)->H' b=some (.frz o u)
 tbls:∀b ps,H b=some (.tbl ps)->∃more,H' b=some (.tbl (ps++more))
section
variable {fs ex:List Addr} {H H1:Hp} {h h1 h':Heap} {a x e:Addr} {o:HO}
theorem Un.any(u:Un fs ex H H1 h h1){b:Addr}{ob:Obj}(q:h.get? b=some ob)(n:H b=none)(hx:b∉ex):∃sl,h1.get? b=some {ob with slots:=sl}:=by
 by_cases hb:b∈fs
 .exact u.slot b ob q n hb hx
 .exact⟨ob.slots,u.keep b ob q n hb hx⟩
theorem Un.kept(k:∀b u,h.get? b=some u->h'.get? b=some u):Un fs ex H H h h':=
 ⟨fun b ob q _ _ _=>k b ob q,fun b ob q _ _ _=>⟨ob.slots,k b ob q⟩,fun _ _ _ n _=>n,fun b ob q _=>⟨ob,k b ob q⟩,fun _ _ q=>q,fun _ _ _ q=>q,fun _ ps q=>⟨#[],by rw[q];simp⟩⟩
theorem Un.refl:Un fs ex H H h h:=Un.kept fun _ _ q=>q
theorem Un.laid(k:∀b u,h.get? b=some u->h'.get? b=some u)(hp:h.objs.size<=a)(hn:H a=none):Un fs ex H (upd H a o) h h' where
 keep:=fun b u q _ _ _=>k b u q
 slot:=fun b u q _ _ _=>⟨u.slots,k b u q⟩
 free:=fun b u q n _=>by rw[dg (Qk (Qt (Qa q) hp))];exact n
 there:=fun b u q _=>⟨u,k b u q⟩
 tups:=fun b xs q=>by rw[dg (fk q hn)];exact q
 frzs:=fun b u xs q=>by rw[dg (fk q hn)];exact q
 tbls:=fun b ps q=>⟨#[],by rw[dg (fk q hn),q];simp⟩
theorem Un.write(mu:Ρ (H x))(he:e=x\/H e=some (.own x))(k:∀b u,b≠e->h.get? b=some u->h'.get? b=some u)(X0:∃u,h'.get? e=some u):Un fs ex H (upd H x o) h h':=by
 have hx:∀b,H b=none->b≠x:=fun b n z=>by subst z;rw[n] at mu;exact mu
 have hb:∀b,H b=none->b≠e:=fun b n z=>by
  subst z;rcases he with r|r
  .exact hx b n r
  .rw[n] at r;cases r
 have hm:∀b u,H b=some u->¬Ρ (some u)->b≠x:=fun b u q nm z=>by subst z;rw[q] at mu;exact nm mu
 refine⟨fun b u q n _ _=>k b u (hb b n) q,fun b u q n _ _=>⟨u.slots,k b u (hb b n) q⟩,fun b u q n _=>by rw[dg (hx b n)];exact n,fun b u q _=>?_,
  fun b xs q=>by rw[dg (hm b _ q fun z=>z)];exact q,fun b u xs q=>by rw[dg (hm b _ q fun z=>z)];exact q,fun b ps q=>⟨#[],by rw[dg (hm b _ q fun z=>z),q];simp⟩⟩
 by_cases YT:b=e
 .subst YT;exact X0
 .exact⟨u,k b u YT q⟩
end
def trk(h:Heap)(H:Hp):List Addr:=(List.range h.objs.size).filter fun a=>(H a).isSome
def jg(h:Heap)(H:Hp):Heap:=PySem.W.hideAll h (trk h H)
def J6(h:Heap)(H:Hp):(jg h H).objs.size=h.objs.size:=PySem.W.hideAll_size _ _
def M0{h:Heap}{H:Hp}{b:Addr}{o:Obj}(e:h.get? b=some o)(n:H b=none):(jg h H).get? b=some o:=
 PySem.W.hideAll_get _ e fun hm=>by
  have q:(H b).isSome=true:=(Qq.mp hm).2;rw[n] at q;simp at q
def NF{h:Heap}{H:Hp}{b:Addr}{o:Obj}(e:(jg h H).get? b=some o):h.get? b=some o/\H b=none:=by
 have e':h.get? b=some o:=PySem.W.of_hideAll (trk h H) e;refine⟨e',?_⟩;cases q:H b with
 |none=>rfl
 |some x=>
  have hm:b∈trk h H:=Qq.mpr ⟨QI.mpr (Qa e'),by simp[q]⟩;have z:(jg h H).get? b=none:=PySem.W.hideAll_none (trk h H) hm;rw[z] at e;cases e
def LU(g h:Heap)(Z9:Addr):QS:=(List.range h.objs.size).filterMap fun a=>if a=Z9\/(g.get? a).isSome=true then none else(h.get? a).map fun o=>(a,o)
def di(g h:Heap)(Z9 d:Addr):QS:=(LU g h Z9).filter fun p=>decide (p.1≠d)
structure Mod (K:Frag) (mg:Str->Option Value) (base:Heap):Prop where
 kin:K.In base
 glob:base.Ns mainGlobals mg
 blt:∃mb,base.Ns builtinsNs mb/\∀x:Str,x≠"__name__"->mb x=bootBuiltins x
 nolimit:base.NoLimit
structure Cx where
 prog:Program
 w:World
 K:Frag
 mg:Str->Option Value
 base:Heap
 A:Around
 N:List Str
 Z1:Shared
 Z0:Hp
 env:Env
 outer:List Env
 stack:List Env
 ex:List Addr
 fn:Str->Bool
 calm:Bool
 pn:QS
 xe:Value->Shared->Prop
def To(l:List Env):List Addr:=l.filterMap (·.frame)
abbrev Cx.fs(X:Cx):List Addr:=To X.outer
def Ο(sc:Scope)(x:Str):Prop:=sc.names.lookup x=some .local\/sc.names.lookup x=some .cell\/sc.names.lookup x=some .free
def Loc(sc:Scope)(x:Str):Prop:=sc.names.lookup x=some .local\/sc.names.lookup x=some .cell
def PZ(env:Env)(h:Heap)(m:Str->Option Value)(x:Str)(u:Value):Prop:=
 (env.kindOf x=some .local/\m x=some u)\/((env.kindOf x=some .cell\/env.kindOf x=some .free)/\∃c,env.cells.lookup x=some c/\h.IsCell c (some u))
structure Cx.Ok (X:Cx):Prop where
 mod:Mod X.K X.mg X.base
 kind:X.env.scope.kind=.function
 glob:X.env.globals=mainGlobals
 blt:X.env.builtins=builtinsNs
 above:X.Z1.heap.objs.size<=X.env.locals
 inj:∀x y c,X.env.cells.lookup x=some c->X.env.cells.lookup y=some c->x=y
 has:∀x,(X.env.kindOf x=some .cell\/X.env.kindOf x=some .free)->∃c,X.env.cells.lookup x=some c
 cab:∀x c,X.fn x=true->X.env.cells.lookup x=some c->X.Z1.heap.objs.size<=c
 hd:X.calm=true->X.A.handled=none
 frames:X.A.frames=some X.stack
 stk:X.stack=X.outer\/(X.stack=X.env::X.outer/\X.env.frame=some X.env.locals)
 exf:∀b∈X.ex,b≠X.env.locals/\∀x c,X.env.cells.lookup x=some c->c≠b
 bs:∀b o,X.base.get? b=some o->X.Z1.heap.get? b=some o/\X.Z0 b=none
 bsz:X.base.objs.size<=X.Z1.heap.objs.size
 noex:∀b o,X.base.get? b=some o->b∉X.ex
 exfs:∀b∈X.ex,b∉X.fs
 funs:X.Z1.heap.FunFrames X.base X.outer
 frf:∀b∈X.fs,X.Z0 b=none
structure Inv (X:Cx) (pins:QS) (O:List (Option V)) (H:Hp) (s:Shared):Prop where
 ok:X.Ok
 os:s.os=X.Z1.os
 bare:AllBare s.gens
 base:Un X.fs X.ex X.Z0 H X.Z1.heap s.heap
 loc:∃m,s.heap.Ns X.env.locals m/\∀(i:Nat) (x:Str) (v:V),X.N[i]?=some x->O[i]?=some (some v)->Ο X.env.scope x->∃u,RelV v u/\PZ X.env s.heap m x u
 cell:∀x c,X.env.cells.lookup x=some c->∃v,s.heap.IsCell c v
 free:H X.env.locals=none
 freeC:∀x c,X.env.cells.lookup x=some c->H c=none
 pin:∀p∈X.pn++pins,s.heap.get? p.1=some p.2/\H p.1=none/\p.1≠X.env.locals/\p.1∉X.fs/\∀v,p.2.data≠.cell v
 hok:Ua X.prog X.w H s.heap
 len:O.length=X.N.length
section
variable {X:Cx} {pins:QS} {O:List (Option V)} {H H':Hp} {s:Shared} {h':Heap}
theorem Cx.Ok.nofr(ok:X.Ok){b:Addr}{o:Obj}(e:X.base.get? b=some o):b∉X.fs:=fun hb=>by
 have:=(ok.funs.mem hb).1;rw[e] at this;cases this
theorem Inv.bs(I:Inv X pins O H s):∀b o,X.base.get? b=some o->s.heap.get? b=some o/\H b=none:=fun b o e=>
 ⟨I.base.keep b o (I.ok.bs b o e).1 (I.ok.bs b o e).2 (I.ok.nofr e) (I.ok.noex b o e),I.base.free b o (I.ok.bs b o e).1 (I.ok.bs b o e).2 (I.ok.noex b o e)⟩
theorem Inv.bk(I:Inv X pins O H s):∀b o,X.base.get? b=some o->s.heap.get? b=some o:=fun b o e=>(I.bs b o e).1
theorem Inv.mod(I:Inv X pins O H s):Mod X.K X.mg X.base:=I.ok.mod
theorem Inv.kIn(I:Inv X pins O H s):X.K.In s.heap:=I.ok.mod.kin.keeps I.bk
theorem Inv.lt(I:Inv X pins O H s):X.env.locals<s.heap.objs.size:=let ⟨_,hn,_⟩:=I.loc;hn.lt
theorem Inv.sz(I:Inv X pins O H s):X.Z1.heap.objs.size<=s.heap.objs.size:=QL I.ok.above (Sc I.lt)
theorem Inv.nofs(I:Inv X pins O H s){a:Addr}(h:s.heap.objs.size<=a):a∉X.fs:=fun hb=>by
 obtain⟨_,o,ho,_⟩:=I.ok.funs.mem hb;exact(absurd (Qt (Qa ho) (QL I.sz h)) (QY _))
theorem Inv.cne(I:Inv X pins O H s):∀x c,X.env.cells.lookup x=some c->c≠X.env.locals:=fun x c e z=>by
 obtain⟨v,o,ho,hd⟩:=I.cell x c e;obtain⟨m,⟨o',es,ep,Wo,_u,_⟩,_⟩:=I.loc;rw[z,Wo] at ho;cases ho;rw[_u] at hd;cases hd
theorem Inv.funs(I:Inv X pins O H s):s.heap.FunFrames X.base X.outer:=by
 have all:∀(l:List Env),(∀b∈To l,b∈X.fs)->X.Z1.heap.FunFrames X.base l->s.heap.FunFrames X.base l:=by
  intro l;induction l with
  |nil=>intro _ _;trivial
  |cons env r ih=>
   intro hs hl;obtain⟨hk,⟨Z9,o,hf,hn,ho,hd⟩,hr⟩:=hl;have hL:Z9∈X.fs:=hs Z9 (by unfold To;rw[Sy,hf];exact RN);obtain⟨sl,e⟩:=I.base.slot Z9 o ho (I.ok.frf Z9 hL) hL fun z=>I.ok.exfs Z9 z hL;exact⟨hk,⟨Z9,_,hf,hn,e,hd⟩,ih (fun b hb=>hs b (by unfold To;rw[Sy,hf];exact QO _ hb)) hr⟩
 exact all X.outer (fun _ hb=>hb) I.ok.funs
theorem Inv.stack(I:Inv X pins O H s):s.heap.FunFrames X.base X.stack:=by
 rcases I.ok.stk with e|⟨e,hf⟩
 .rw[e];exact I.funs
 .rw[e];obtain⟨m,hn,_⟩:=I.loc;refine .cons (by rw[I.ok.kind];decide) hf hn ?_ I.funs;exact Heap.get?_none_of_le (QL I.ok.bsz I.ok.above)
theorem Inv.stkSub(I:Inv X pins O H s):∀b∈To X.stack,b∈X.env.locals::X.fs:=fun b hb=>by
 rcases I.ok.stk with e|⟨e,hf⟩
 .rw[e] at hb;exact QO _ hb
 .rw[e] at hb;unfold To at hb;rw[Sy,hf] at hb;exact hb
theorem Inv.stkFree(I:Inv X pins O H s):∀b∈To X.stack,H b=none:=fun b hb=>by
 rcases Qz.mp (I.stkSub b hb) with e|hb
 .rw[e];exact I.free
 .obtain⟨_,o,ho,_⟩:=I.ok.funs.mem hb;exact I.base.free b o ho (I.ok.frf b hb) fun z=>I.ok.exfs b z hb
theorem Inv.step{g':Array GenState}{t':Nat}{d':Drawn}{ch:List Addr}(I:Inv X pins O H s)
  (XH:∀b∈ch,(b∈X.ex\/X.Z1.heap.objs.size<=b)/\b≠X.env.locals/\(∀x c,X.env.cells.lookup x=some c->c≠b)/\∀p∈X.pn++pins,p.1≠b)
  (keep:∀b o,b≠X.env.locals->b∉X.fs->b∉ch->s.heap.get? b=some o->H b=none->h'.get? b=some o)
  (slot:∀b o,b≠X.env.locals->b∈X.fs->b∉ch->s.heap.get? b=some o->H b=none->∃sl,h'.get? b=some {o with slots:=sl}) (free:∀b o,b∉ch->s.heap.get? b=some o->H b=none->H' b=none)
  (there:∀b o,b∉ch->s.heap.get? b=some o->∃o',h'.get? b=some o')
  (tups:∀b xs,H b=some (.tup xs)->H' b=some (.tup xs)) (frzs:∀b o u,H b=some (.frz o u)->H' b=some (.frz o u)) (tbls:∀b ps,H b=some (.tbl ps)->∃more,H' b=some (.tbl (ps++more)))
  (ns:∀m,s.heap.Ns X.env.locals m->h'.Ns X.env.locals m) (hok:Ua X.prog X.w H' h') (hg:AllBare g'):
  Inv X pins O H' {s with heap:=h',gens:=g',drawn:=d',toks:=t'}:=by
 have neL:∀b o,X.Z1.heap.get? b=some o->b≠X.env.locals:=fun b o e=>Qk (Qt (Qa e) I.ok.above);have ϑ:∀b o,X.Z1.heap.get? b=some o->b∉X.ex->b∉ch:=fun b o e hx hb=>by
  rcases(XH b hb).1 with z|z
  .exact hx z
  .exact absurd (Qt (Qa e) z) (QY _)
 have cellK:∀x c,X.env.cells.lookup x=some c->∀v,s.heap.IsCell c v->h'.IsCell c v:=fun x c e v ⟨o,ho,hd⟩=>by
  have ζ:c∉ch:=fun z=>(XH c z).2.2.1 x c e rfl;by_cases hc:c∈X.fs
  .obtain⟨sl,q⟩:=slot c o (I.cne x c e) hc ζ ho (I.freeC x c e);exact⟨_,q,hd⟩
  .exact⟨o,keep c o (I.cne x c e) hc ζ ho (I.freeC x c e),hd⟩
 refine⟨I.ok,I.os,hg,⟨fun b o e n hb hx=>?_,fun b o e n hb hx=>?_,fun b o e n hx=>?_,fun b o e hx=>?_,fun b xs e=>tups b xs (I.base.tups b xs e),fun b o xs e=>frzs b o xs (I.base.frzs b o xs e),fun b ps e=>?_⟩,?_,fun x c e=>?_,?_,fun x c e=>?_,fun p hp=>?_,hok,I.len⟩
 .exact keep b o (neL b o e) hb (ϑ b o e hx) (I.base.keep b o e n hb hx) (I.base.free b o e n hx)
 .obtain⟨sl,e1⟩:=I.base.slot b o e n hb hx;obtain⟨XU,e2⟩:=slot b _ (neL b o e) hb (ϑ b o e hx) e1 (I.base.free b o e n hx);exact(⟨XU,e2⟩)
 .obtain⟨o',e1⟩:=I.base.there b o e hx;exact free b o' (ϑ b o e hx) e1 (I.base.free b o e n hx)
 .obtain⟨o',e1⟩:=I.base.there b o e hx;exact there b o' (ϑ b o e hx) e1
 .obtain⟨m1,e1⟩:=I.base.tbls b ps e;obtain⟨m2,e2⟩:=tbls b _ e1;exact(⟨m1++m2,by rw[e2,Array.append_assoc]⟩)
 .obtain⟨m,hn,hl⟩:=I.loc;refine⟨m,ns m hn,fun i x v e1 e2 e3=>?_⟩;obtain⟨u,r,l⟩:=hl i x v e1 e2 e3;refine(⟨u,r,?_⟩);rcases l with l|⟨k,c,e,z⟩
  .exact .inl l
  .exact .inr ⟨k,c,e,cellK x c e _ z⟩
 .obtain⟨v,z⟩:=I.cell x c e;exact⟨v,cellK x c e v z⟩
 .obtain⟨m,⟨o,_,_,ho,_⟩,_⟩:=I.loc;exact free _ o (fun z=>(XH _ z).2.1 rfl) ho I.free
 .obtain⟨v,o,ho,hd⟩:=I.cell x c e;exact free c o (fun z=>(XH c z).2.2.1 x c e rfl) ho (I.freeC x c e)
 .obtain⟨e,n,ne,nf,d⟩:=I.pin p hp;have ζ:p.1∉ch:=fun z=>(XH p.1 z).2.2.2 p hp rfl;exact⟨keep p.1 p.2 ne nf ζ e n,free p.1 p.2 ζ e n,ne,nf,d⟩
theorem Inv.un{t':Nat}(I:Inv X pins O H s)(u:Un X.fs [] H H' s.heap h')(hok:Ua X.prog X.w H' h'):Inv X pins O H' {s with heap:=h',toks:=t'}:=by
 obtain⟨m,⟨o,es,ep,ho,r⟩,_⟩:=id I.loc;obtain⟨sl,hL⟩:=u.any ho I.free (by simp);exact I.step (g':=s.gens) (d':=s.drawn) (ch:=[]) (fun _ z=>nomatch z) (fun b o _ hb _ e n=>u.keep b o e n hb (by simp)) (fun b o _ hb _ e n=>u.slot b o e n hb (by simp)) (fun b o _ e n=>u.free b o e n (by simp)) (fun b o _ e=>u.there b o e (by simp)) u.tups u.frzs u.tbls (fun m' hm=>by
  obtain⟨o',es',ep',Wo,r'⟩:=hm;rw[ho] at Wo;cases Wo;exact⟨_,es',ep',hL,r'⟩) hok I.bare
theorem Inv.call{g':Array GenState}{t':Nat}{d':Drawn}{ch:List Addr}(I:Inv X pins O H s)(u:Un (To X.stack) ch H H' s.heap h')(hok:Ua X.prog X.w H' h')(hg:AllBare g')
  (XH:∀b∈ch,(b∈X.ex\/X.Z1.heap.objs.size<=b)/\b≠X.env.locals/\(∀x c,X.env.cells.lookup x=some c->c≠b)/\∀p∈X.pn++pins,p.1≠b):
  Inv X pins O H' {s with heap:=h',gens:=g',drawn:=d',toks:=t'}:=by
 obtain⟨m,⟨o,es,ep,ho,r⟩,_⟩:=id I.loc;obtain⟨sl,hL⟩:=u.any ho I.free fun z=>(XH _ z).2.1 rfl;exact I.step (ch:=ch) XH (fun b o hL hb hc e n=>u.keep b o e n (fun z=>(Qz.mp (I.stkSub b z)).elim hL hb) hc) (fun b o _ _ hc e n=>u.any e n hc) (fun b o hc e n=>u.free b o e n hc) (fun b o hc e=>u.there b o e hc) u.tups u.frzs u.tbls (fun m' hm=>by
  obtain⟨o',es',ep',Wo,r'⟩:=hm;rw[ho] at Wo;cases Wo;exact⟨_,es',ep',hL,r'⟩) hok hg
theorem Inv.turned{t':Nat}{it:Addr}(I:Inv X pins O H s)(k:∀b o,b≠it->s.heap.get? b=some o->h'.get? b=some o)(hn:H it=none)(hL:it≠X.env.locals)
  (h1:it∈X.ex\/X.Z1.heap.objs.size<=it) (h2:∀x c,X.env.cells.lookup x=some c->c≠it) (h3:∀p∈X.pn++pins,p.1≠it):Inv X pins O H {s with heap:=h',toks:=t'}:=by
 have Xt:∀b u,H b=some u->b≠it:=fun b u e z=>by rw[z,hn] at e;cases e
 refine I.step (g':=s.gens) (d':=s.drawn) (ch:=[it]) (fun b hb=>?_) (fun b o _ _ hc e _=>k b o (fun z=>hc (by simp[z])) e) (fun b o _ _ hc e _=>⟨o.slots,k b o (fun z=>hc (by simp[z])) e⟩) (fun _ _ _ _ n=>n)
  (fun b o hc e=>⟨o,k b o (fun z=>hc (by simp[z])) e⟩) (fun _ _ e=>e) (fun _ _ _ e=>e) (fun b ps e=>⟨#[],by rw[e];simp⟩) (fun m hm=>?_) (fun b u e=>?_) I.bare
 .have e:b=it:=by simpa using hb
  subst e;exact⟨h1,hL,h2,h3⟩
 .obtain⟨o,es,ep,ho,r⟩:=hm;exact⟨o,es,ep,k _ o (Ne.symm hL) ho,r⟩
 .refine(I.hok b u e).stay (fun c v hc q=>k c v ?_ q) (fun _ q=>q) fun _ _ q=>q;rcases hc with z|z
  .rw[z];exact Xt b u e
  .exact Xt c _ z
theorem Inv.tok(I:Inv X pins O H s)(t:Nat):Inv X pins O H {s with toks:=t}:=I.un (h':=s.heap) (t':=t) Un.refl I.hok
theorem Inv.kept(I:Inv X pins O H s)(k:∀b u,s.heap.get? b=some u->h'.get? b=some u):Inv X pins O H {s with heap:=h',toks:=t'}:=I.un (Un.kept k) (I.hok.kept k)
theorem Inv.laid{a:Addr}{o:HO}{t':Nat}(I:Inv X pins O H s)(k:∀b u,s.heap.get? b=some u->h'.get? b=some u)(hp:s.heap.objs.size<=a)(new:Tf X.prog X.w (upd H a o) h' a o):
  Inv X pins O (upd H a o) {s with heap:=h',toks:=t'}:=I.un (Un.laid k hp (I.hok.fresh hp)) (I.hok.laid k hp new)
theorem Inv.write{x e:Addr}{o:HO}{t':Nat}(I:Inv X pins O H s)(mu:Ρ (H x))(he:e=x\/H e=some (.own x))(k:∀b u,b≠e->s.heap.get? b=some u->h'.get? b=some u)(X0:∃u,h'.get? e=some u)
  (new:Tf X.prog X.w (upd H x o) h' x o):Inv X pins O (upd H x o) {s with heap:=h',toks:=t'}:=I.un (Un.write mu he k X0) (I.hok.write mu he k X0 new)
theorem Inv.pins_of(I:Inv X pins O H s)(h:∀p∈pe,s.heap.get? p.1=some p.2/\H p.1=none/\p.1≠X.env.locals/\p.1∉X.fs/\∀v,p.2.data≠.cell v):Inv X pe O H s:=
 ⟨I.ok,I.os,I.bare,I.base,I.loc,I.cell,I.free,I.freeC,fun p hp=>(Qr.mp hp).elim (fun z=>I.pin p (RX _ z)) (h p),I.hok,I.len⟩
theorem Bi{N:List Str}(hN:N.Nodup){i j:Nat}{x:Str}(a:N[i]?=some x)(b:N[j]?=some x):i=j:=by
 obtain⟨h1,e1⟩:=P5.mp a;obtain⟨h2,e2⟩:=P5.mp b;exact((List.getElem_inj hN).mp (e1.trans e2.symm))
theorem zB{M:Model}{A:Around}{E:OK}{i:Nat}{x:Str}{v:V}{u:Value}{Q:Unit->Shared->Prop}(I:Inv X pins O H s)(hN:X.N.Nodup)(hi:X.N[i]?=some x)(hx:Loc X.env.scope x)(r:RelV v u)
  (h:∀s',Inv X pins (O.set i (some v)) H s'->(∃a,Heap.SameBut a s.heap s'.heap/\(a=X.env.locals\/X.env.cells.lookup x=some a))->Q () s') (hf:X.fn x=true\/X.env.scope.names.lookup x=some .local:=by first|exact .inl rfl|exact .inr rfl|assumption):wpAny M A (storeName X.env x u) Q E s:=by
 obtain⟨m,hn,hl⟩:=id I.loc;have YQ:(X.env.scope.kind==.class||(X.env.scope.kind==.module&&X.env.locals !=X.env.globals))=false:=by rw[I.ok.kind];rfl
 have Zc:i<O.length:=by rw[I.len];exact(P5.mp hi).1
 have cne:=I.cne;have tracked:∀{a:Addr} {h':Heap},(∃o,s.heap.get? a=some o/\H a=none)->Heap.SameBut a s.heap h'->Ua X.prog X.w H h':=fun{a h'} ha hs b ob e=>by
  obtain⟨_,_,Xz⟩:=ha;refine((I.hok b ob e).stay (fun c w' hc q=>(hs.2 c ?_).trans q) (fun _ q=>q) fun _ _ q=>q);rintro rfl;rcases hc with rfl|hc
  .rw[Xz] at e;cases e
  .rw[Xz] at hc;cases hc
 rcases hx with hk|hk
 .refine wpAny_storeName_local hk hn (fun h' Vm hs=>?_) YQ;obtain⟨oL,_,_,hoL,_⟩:=id hn;refine(h _ ⟨I.ok,I.os,I.bare,⟨fun b o e n hb hx=>?_,fun b o e n hb hx=>?_,I.base.free,fun b o e hx=>?_,I.base.tups,I.base.frzs,I.base.tbls⟩,⟨_,Vm,fun j y v' e1 e2 e3=>?_⟩,fun y c e=>?_,I.free,I.freeC,fun p hp=>?_,tracked ⟨oL,hoL,I.free⟩ hs,by simpa using I.len⟩ ⟨_,hs,.inl rfl⟩)
  .exact(hs.2 b (Qk (Qt (Qa e) I.ok.above))).trans (I.base.keep b o e n hb hx)
  .obtain⟨sl,e1⟩:=I.base.slot b o e n hb hx;exact⟨sl,(hs.2 b (Qk (Qt (Qa e) I.ok.above))).trans e1⟩
  .obtain⟨o',e1⟩:=I.base.there b o e hx;exact⟨o',(hs.2 b (Qk (Qt (Qa e) I.ok.above))).trans e1⟩
  .by_cases hj:j=i
   .subst hj;rw[hi] at e1;cases e1;rw[List.getElem?_set_self Zc] at e2;cases e2;exact⟨u,r,.inl ⟨hk,by simp⟩⟩
   .rw[QP (Ne.symm hj)] at e2;obtain⟨u',r',q⟩:=hl j y v' e1 e2 e3;refine(⟨u',r',?_⟩);rcases q with⟨k,e⟩|⟨k,c,e,z⟩
    .refine .inl ⟨k,?_⟩;have:y≠x:=fun e=>hj (Bi hN e1 (e▸hi));simp[this,e]
    .exact .inr ⟨k,c,e,z.sameBut hs (cne y c e)⟩
  .obtain⟨w',z⟩:=I.cell y c e;exact⟨w',z.sameBut hs (cne y c e)⟩
  .obtain⟨e,n,ne,nf,d⟩:=I.pin p hp;exact⟨(hs.2 p.1 ne).trans e,n,ne,nf,d⟩
 .have _p:X.fn x=true:=by
   rcases hf with z|z
   .exact z
   .rw[z] at hk;cases hk
  obtain⟨c,hc⟩:=I.ok.has x (.inl hk);obtain⟨w',z⟩:=I.cell x c hc;refine(wpAny_storeName_cell I.ok.kind hk hc z (fun h' hc' hs=>?_));obtain⟨oc,hoc,_Z⟩:=id z;refine(h {s with heap:=h'} ⟨I.ok,I.os,I.bare,⟨fun b o e n hb hx=>?_,fun b o e n hb hx=>?_,I.base.free,fun b o e hx=>?_,I.base.tups,I.base.frzs,I.base.tbls⟩,⟨m,hn.sameBut hs (Ne.symm (cne x c hc)),fun j y v' e1 e2 e3=>?_⟩,fun y c' e=>?_,I.free,I.freeC,fun p hp=>?_,tracked ⟨oc,hoc,I.freeC x c hc⟩ hs,by simpa using I.len⟩ ⟨c,hs,.inr hc⟩)
  .exact(hs.2 b (Qk (Qt (Qa e) (I.ok.cab x c _p hc)))).trans (I.base.keep b o e n hb hx)
  .obtain⟨sl,e1⟩:=I.base.slot b o e n hb hx;exact⟨sl,(hs.2 b (Qk (Qt (Qa e) (I.ok.cab x c _p hc)))).trans e1⟩
  .obtain⟨o',e1⟩:=I.base.there b o e hx;exact⟨o',(hs.2 b (Qk (Qt (Qa e) (I.ok.cab x c _p hc)))).trans e1⟩
  .by_cases hj:j=i
   .subst hj;rw[hi] at e1;cases e1;rw[List.getElem?_set_self Zc] at e2;cases e2;exact⟨u,r,.inr ⟨.inl hk,c,hc,hc'⟩⟩
   .rw[QP (Ne.symm hj)] at e2;obtain⟨u',r',q⟩:=hl j y v' e1 e2 e3;refine(⟨u',r',?_⟩);rcases q with q|⟨k,c',e,z'⟩
    .exact .inl q
    .refine .inr ⟨k,c',e,z'.sameBut hs ?_⟩;rintro rfl;exact hj (Bi hN e1 (I.ok.inj _ _ _ e hc▸hi))
  .by_cases Β:c'=c
   .subst Β;exact⟨_,hc'⟩
   .obtain⟨w2,z2⟩:=I.cell y c' e;exact⟨w2,z2.sameBut hs Β⟩
  .obtain⟨e,n,ne,nf,d⟩:=I.pin p hp;refine⟨(hs.2 p.1 ?_).trans e,n,ne,nf,d⟩;intro q;rw[q,hoc] at e;have q':oc=p.2:=Qx e;exact d w' (by rw[←q'];exact _Z)
theorem mQ{M:Model}{A:Around}{E:OK}{i:Nat}{x:Str}{v:V}{u:Value}{Q:Unit->Shared->Prop}(I:Inv X pins O H s)(hN:X.N.Nodup)(hi:X.N[i]?=some x)(hx:Loc X.env.scope x)(r:RelV v u)
  (h:∀s',Inv X pins (O.set i (some v)) H s'->Q () s') (hf:X.fn x=true\/X.env.scope.names.lookup x=some .local:=by first|exact .inl rfl|exact .inr rfl|assumption):wpAny M A (storeName X.env x u) Q E s:=
 zB I hN hi hx r (fun s' I' _=>h s' I') hf
theorem Inv.call'{s':Shared}{ch:List Addr}(I:Inv X pins O H s)(ho:s'.os=s.os)(u:Un (To X.stack) ch H H' s.heap s'.heap)(hok:Ua X.prog X.w H' s'.heap)(hg:AllBare s'.gens)
  (XH:∀b∈ch,(b∈X.ex\/X.Z1.heap.objs.size<=b)/\b≠X.env.locals/\(∀x c,X.env.cells.lookup x=some c->c≠b)/\∀p∈X.pn++pins,p.1≠b):Inv X pins O H' s':=by
 obtain⟨h',g',d',t',o'⟩:=s';have e:o'=s.os:=ho;subst e;exact(I.call (g':=g') (t':=t') (d':=d') u hok hg XH)
end
abbrev XK:=Value->Option Addr->Hp->Prop
abbrev St:=List (Option V)
abbrev VK:=V->Hp->Prop
abbrev TE:=St->Hp->VK->Prop
abbrev TT:=St->Hp->(Bool->Hp->Prop)->Prop
abbrev TA:=St->Hp->(List V->Hp->Prop)->Prop
structure Ends where
 nx:St->Hp->Prop
 rt:VK
 bk:St->Hp->Prop:=fun _ _=>False
 ct:St->Hp->Prop:=fun _ _=>False
abbrev TS:=Ends->St->Hp->Prop
def EP(X:Cx)(pins:QS)(O:St)(Q:VK)(u:Value)(s':Shared):Prop:=∃v H',Inv X pins O H' s'/\RelV v u/\Q v H'
def TP(X:Cx)(pins:QS)(O:St)(Q:Bool->Hp->Prop)(b:Bool)(s':Shared):Prop:=∃H',Inv X pins O H' s'/\Q b H'
def AP(X:Cx)(pins:QS)(O:St)(Q:List V->Hp->Prop)(us:List Value)(s':Shared):Prop:=∃vs H',Inv X pins O H' s'/\Vals vs us/\Q vs H'
def SP(X:Cx)(pins:QS)(D:Ends)(f:Flow)(s':Shared):Prop:=
 match f with
 | .next=>∃ZZ H',Inv X pins ZZ H' s'/\D.nx ZZ H'
 | .brk=>∃ZZ H',Inv X pins ZZ H' s'/\D.bk ZZ H'
 | .cont=>∃ZZ H',Inv X pins ZZ H' s'/\D.ct ZZ H'
 | .ret u=>∃v ZZ H',Inv X pins ZZ H' s'/\RelV v u/\D.rt v H'
def PE(X:Cx)(e:Expr)(t:TE):Prop:=
 ∀(pins:QS) (s:Shared) (O:St) (H:Hp) (Q:VK),Inv X pins O H s->t O H Q->wpAny (model X.prog X.w) X.A (eval e X.env) (EP X pins O Q) X.xe s
def PT(X:Cx)(e:Expr)(t:TT):Prop:=
 ∀(pins:QS) (s:Shared) (O:St) (H:Hp) (Q:Bool->Hp->Prop),Inv X pins O H s->t O H Q->wpAny (model X.prog X.w) X.A (isTrue e X.env (eval e X.env)) (TP X pins O Q) X.xe s
def PW(X:Cx)(e:Expr)(t:TT):Prop:=
 ∀(whole:Sem Value) (pins:QS) (s:Shared) (O:St) (H:Hp) (Q:Bool->Hp->Prop),Inv X pins O H s->t O H Q->wpAny (model X.prog X.w) X.A (isTrue e X.env whole) (TP X pins O Q) X.xe s
def PW.pt{X:Cx}{e:Expr}{t:TT}(h:PW X e t):PT X e t:=h _
def PA(X:Cx)(es:List Expr)(t:TA):Prop:=
 ∀(pos:Pos) (pins:QS) (s:Shared) (O:St) (H:Hp) (Q:List V->Hp->Prop),Inv X pins O H s->t O H Q->wpAny (model X.prog X.w) X.A (spliced (backTo pos (starEach es X.env))) (AP X pins O Q) X.xe s
def PS(X:Cx)(st:Stmt)(t:TS):Prop:=
 ∀(pins:QS) (s:Shared) (O:St) (H:Hp) (D:Ends),Inv X pins O H s->t D O H->wpAny (model X.prog X.w) X.A (exec st X.env) (SP X pins D) X.xe s
def UT(X:Cx)(st:List Stmt)(t:TS):Prop:=
 ∀(pins:QS) (s:Shared) (O:St) (H:Hp) (D:Ends),Inv X pins O H s->t D O H->wpAny (model X.prog X.w) X.A (execs st X.env) (SP X pins D) X.xe s
def TM{J:Type}{t:Sem J}{Q Q':J->Shared->Prop}{M:Model}{A:Around}{E:OK}{s:Shared}(h:wpAny M A t Q E s)(hQ:∀a s,Q a s->Q' a s):wpAny M A t Q' E s:=P8 h hQ fun _ _ x=>x
section
variable {X:Cx}
def AW(i:Nat):TE:=fun O H Q=>∃v,O[i]?=some (some v)/\Q v H
def tC(v:V):TE:=fun _ H Q=>Q v H
theorem za{i:Nat}{x:Str}{pos:Pos}(hN:X.N[i]?=some x)(hv:Ο X.env.scope x)(hd:(x==("__debug__":Str))=false:=by decide) (V2:(x==("__classdict__":Str))=false:=by decide):PE X (.Name x pos) (AW i):=by
 intro pins s O H Q I h;obtain⟨v,e,h⟩:=h;obtain⟨m,hn,hl⟩:=I.loc;obtain⟨u,r,l⟩:=hl i x v hN e hv;have fin:EP X pins O Q u s:=⟨v,H,I,r,h⟩
 rcases l with⟨hk,hm⟩|⟨hk,c,hc,T6⟩
 .exact wpAny_Name (wpAny_loadName_local I.ok.kind hk hn hm fin) hd
 .rcases hk with hk|hk
  .exact wpAny_Name (wpAny_loadName_cell I.ok.kind hk hc T6 fin) hd
  .exact wpAny_Name (wpAny_loadName_free I.ok.kind hk hc T6 fin V2) hd
theorem DC{i j pos}:PE X (.Constant (.int i) j pos) (tC (.int i)):=fun _ _ _ H _ I h=>wpAny_Constant_int ⟨.int i,H,I.tok _,⟨_,rfl⟩,h⟩
theorem C2{b j pos}:PE X (.Constant (.bool b) j pos) (tC (.bl b)):=fun _ _ _ H _ I h=>Constant_bool ⟨.bl b,H,I,rfl,h⟩
theorem HN{j pos}:PE X (.Constant .none j pos) (tC .non):=fun _ _ _ H _ I h=>Constant_none ⟨.non,H,I,rfl,h⟩
theorem zg{x j pos}:PE X (.Constant (.str x) j pos) (tC (.str x)):=fun _ _ _ H _ I h=>Calls.Constant_str ⟨.str x,H,I.tok _,⟨_,rfl⟩,h⟩
def Gl(X:Cx)(x:Str):Prop:=X.env.kindOf x=some .globalImplicit
theorem mU{E:OK}{pins:QS}{s:Shared}{O:St}{H:Hp}{x:Str}{u:Value}{pos:Pos}{Q:OK}(I:Inv X pins O H s)(hg:Gl X x)(hm:X.mg x=some u)(h:Q u s)
  (hd:(x==("__debug__":Str))=false:=by decide):wpAny (model X.prog X.w) X.A (eval (.Name x pos) X.env) Q E s:=
 Calls.Name_function_global I.ok.kind hg (Calls.loadGlobal_global (by rw[I.ok.glob];exact I.mod.glob.keeps I.bk) hm h) hd
theorem jI{E:OK}{pins:QS}{s:Shared}{O:St}{H:Hp}{x:Str}{u:Value}{pos:Pos}{Q:OK}(I:Inv X pins O H s)(hg:Gl X x)(hm:X.mg x=none)(hv:bootBuiltins x=some u)(h:Q u s)
  (hn:x≠"__name__":=by decide) (hd:(x==("__debug__":Str))=false:=by decide):wpAny (model X.prog X.w) X.A (eval (.Name x pos) X.env) Q E s:=by
 obtain⟨mb,h1,h2⟩:=I.mod.blt;exact Calls.Name_function_global I.ok.kind hg (Calls.loadGlobal_builtin (by rw[I.ok.glob];exact I.mod.glob.keeps I.bk) hm (by rw[I.ok.blt];exact h1.keeps I.bk) ((h2 x hn).trans hv) h) hd
theorem Iv{x:Str}{v:V}{u:Value}{pos:Pos}(hg:Gl X x)(hm:X.mg x=some u)(r:RelV v u)(hd:(x==("__debug__":Str))=false:=by decide):PE X (.Name x pos) (tC v):=
 fun _ _ _ H _ I h=>mU I hg hm ⟨v,H,I,r,h⟩ hd
variable {a b:Expr} {ta tb:TE} {pos:Pos}
def PC(X:Cx)(op:CmpOp)(a b:Expr)(t:TE):Prop:=
 ∀(pins:QS) (s:Shared) (O:St) (H:Hp) (Q:VK),Inv X pins O H s->t O H Q->
  wpAny (model X.prog X.w) X.A (eval a X.env) (fun v ZT=>wpAny (model X.prog X.w) X.A (eval b X.env) (fun u ZM=>wpAny (model X.prog X.w) X.A (compareOp op v u) (EP X pins O Q) X.xe ZM) X.xe ZT) X.xe s
theorem GC(b:Expr)(h:op≠.In)(h2:op≠.NotIn):behindInMarks op b=false:=by
 have e1:(op==CmpOp.In)=false:=by cases op<;>first|rfl|exact absurd rfl h
 have e2:(op==CmpOp.NotIn)=false:=by cases op<;>first|rfl|exact absurd rfl h2
 cases b<;>simp[behindInMarks,e1,e2]
def tB(t:TE):TT:=fun O H Q=>t O H fun x H1=>∃c,x=.bl c/\Q c H1
theorem Ad{op:CmpOp}{t:TE}(h:PC X op a b t)(h1:behindInMarks op b=false:=by first|exact GC _ (by decide) (by decide)|rfl):PT X (.Compare a [op] [b] pos) (tB t):=by
 intro pins s O H Q I hw;refine wpAny_isTrue_Compare1 (TM (h pins s O H _ I hw) fun v s1 h1=>TM h1 fun u s2 h2=>TM h2 fun c s3 hm=>?_) h1;obtain⟨x,H1,I1,r1,q1⟩:=hm;obtain⟨d,rfl,q⟩:=q1;cases r1;exact(Q5 ⟨H1,I1,q⟩)
theorem Mq{e:Expr}{t:TE}(h:PE X e t)(he:∀whole,isTrue e X.env whole=(do let v ←whole;standAt e.pos;holding [v] (truthy v)):=by intro _;rfl):PT X e (tB t):=by
 intro pins s O H Q I hw;refine isTrue_plain (TM (h pins s O H _ I hw) fun v s1 hm=>?_) (he _);obtain⟨x,H1,I1,r1,q1⟩:=hm;obtain⟨d,rfl,q⟩:=q1;cases r1;exact(Q5 ⟨H1,I1,q⟩)
variable {tA Ψ:TT} {di:List Expr}
def Bg(t u:TT):TT:=fun O H Q=>t O H fun c H1=>if c=true then u O H1 Q else Q false H1
def tOr(t u:TT):TT:=fun O H Q=>t O H fun c H1=>if c=true then Q true H1 else u O H1 Q
def C9(t:TT):TT:=fun O H Q=>t O H fun c H1=>Q (!c) H1
theorem Po(ha:PT X a tA):PW X (.BoolOp .And [a] pos) tA:=by
 intro wh pins s O H Q I h;refine isTrue_and (TM (ha pins s O H Q I h) fun c s1 e=>?_);cases c with
 |true=>exact isTrue_and_nil e
 |false=>exact e
theorem MN(ha:PT X a tA):PW X (.BoolOp .Or [a] pos) tA:=by
 intro wh pins s O H Q I h;refine isTrue_or (TM (ha pins s O H Q I h) fun c s1 e=>?_);cases c with
 |false=>exact isTrue_or_nil e
 |true=>exact e
theorem LC(ha:PT X a tA)(hb:PW X (.BoolOp .And (b::di) pos) Ψ):PW X (.BoolOp .And (a::b::di) pos) (Bg tA Ψ):=by
 intro wh pins s O H Q I h;refine isTrue_and (TM (ha pins s O H _ I h) fun c s1 hm=>?_);obtain⟨H1,I1,q1⟩:=hm;cases c with
 |true=>exact hb wh pins s1 O H1 Q I1 q1
 |false=>exact⟨H1,I1,q1⟩
theorem OA(ha:PT X a tA)(hb:PW X (.BoolOp .Or (b::di) pos) Ψ):PW X (.BoolOp .Or (a::b::di) pos) (tOr tA Ψ):=by
 intro wh pins s O H Q I h;refine isTrue_or (TM (ha pins s O H _ I h) fun c s1 hm=>?_);obtain⟨H1,I1,q1⟩:=hm;cases c with
 |true=>exact⟨H1,I1,q1⟩
 |false=>exact hb wh pins s1 O H1 Q I1 q1
theorem xf(ha:PT X a tA):PT X (.UnaryOp .Not a pos) (C9 tA):=by
 intro pins s O H Q I h;exact isTrue_not (ha pins s O H (fun c H1=>Q (!c) H1) I h)
def Me(ta tb:TE):TE:=fun O H Q=>ta O H fun x H1=>∃c,x=.bl c/\if c=true then Q (.bl true) H1 else tb O H1 Q
theorem CP{op}{t:TE}(h:PE X a t):PE X (.BoolOp op [a] pos) t:=fun pins s O H Q I hw=>BoolOp_one (h pins s O H Q I hw)
theorem Ek(ha:PE X a ta)(hb:PE X (.BoolOp .Or (b::di) pos) tb):PE X (.BoolOp .Or (a::b::di) pos) (Me ta tb):=by
 intro pins s O H Q I h;refine BoolOp_or (TM (ha pins s O H _ I h) fun v s1 hm=>?_);obtain⟨x,H1,I1,r1,q1⟩:=hm;obtain⟨c,rfl,q1⟩:=q1;cases r1;refine(Q5 ?_);cases c with
 |false=>exact hb pins s1 O H1 Q I1 q1
 |true=>exact⟨.bl true,H1,I1,rfl,q1⟩
def tIf(t:TT)(ta tb:TE):TE:=fun O H Q=>t O H fun c H1=>if c=true then ta O H1 Q else tb O H1 Q
theorem KA{c:Expr}(hc:PT X c tA)(ha:PE X a ta)(hb:PE X b tb):PE X (.IfExp c a b pos) (tIf tA ta tb):=by
 intro pins s O H Q I h;refine wpAny_IfExp (TM (hc pins s O H _ I h) fun d s1 hm=>?_);obtain⟨H1,I1,q1⟩:=hm;cases d with
 |true=>exact ha pins s1 O H1 Q I1 q1
 |false=>exact hb pins s1 O H1 Q I1 q1
end
def T9(K:Frag)(H:Hp)(a:Addr)(xs:List V):Prop:=
 Rd H a (.lst xs)\/
  ∃(o:Obj) (its:Array Value) (n:Nat),K.lookup a=some o/\o.cls=.type "list"/\o.dict=none/\o.data=.seq its n/\its.size<=sizeLine/\Vals xs its.toList
def Uo(K:Frag)(H:Hp)(a:Addr)(xs:List V):Prop:=
 Rd H a (.tup xs)\/
  ∃(o:Obj) (its:Array Value) (n:Nat),K.lookup a=some o/\o.cls=.type "tuple"/\o.data=.seq its n/\its.size<=sizeLine/\Vals xs its.toList
def Lq:Value->Option V
 | .none=>some .non
 | .bool b=>some (.bl b)
 | .int i _=>some (.int i)
 | .str x _=>some (.str x)
 | .bytes b _=>some (.byt b)
 | .float b _=>some (.flt b)
 | .ref a=>some (.ref a)
 | .type n=>some (.ty n)
 |_=>none
def RelV.abs{x:V}{u:Value}(r:RelV x u):Lq u=some x:=by
 cases x with
 |non=>cases r;rfl
 |bl _=>cases r;rfl
 |int _=>obtain⟨t,rfl⟩:=r;rfl
 |str _=>obtain⟨t,rfl⟩:=r;rfl
 |byt _=>obtain⟨t,rfl⟩:=r;rfl
 |flt _=>obtain⟨t,rfl⟩:=r;rfl
 |ref _=>cases r;rfl
 |ty _=>cases r;rfl
def RelV.inj{x y:V}{u:Value}(r:RelV x u)(q:RelV y u):x=y:=Qx (r.abs.symm.trans q.abs)
theorem Vals.inj:∀{xs ys:List V} {us:List Value},Vals xs us->Vals ys us->xs=ys
 |_,_,_,.nil,.nil=>rfl
 |_,_,_,.cons r t,.cons r' t'=>by rw[r.inj r',Vals.inj t t']
section
variable {X:Cx} {pins:QS} {O:St} {H:Hp} {s:Shared} {a:Addr} {xs ys:List V}
theorem T9.of{K:Frag}(h:H a=some (.lst xs)):T9 K H a xs:=.inl (.inl h)
theorem Uo.of{K:Frag}(h:H a=some (.tup xs)):Uo K H a xs:=.inl (.inl h)
theorem Inv.list(I:Inv X pins O H s)(h:T9 X.K H a xs):∃its:List Value,Vals xs its/\PlainL s.heap a its.toArray/\xs.length<=sizeLine:=by
 rcases h with h|⟨o,its,n,hk,hc,hd,hs,hz,r⟩
 .obtain⟨z,its,n,r,e⟩:=h.ok I.hok;exact⟨its,r,⟨_,n,e,rfl,rfl,rfl⟩,z⟩
 .refine⟨its.toList,r,⟨o,n,I.kIn a o hk,hc,hd,by simpa using hs⟩,?_⟩;have e:=r.length;simp only[Rg] at e;omega
theorem Inv.tuple(I:Inv X pins O H s)(h:Uo X.K H a xs):∃its:List Value,Vals xs its/\IsTup s.heap a its.toArray/\xs.length<=sizeLine:=by
 rcases h with h|⟨o,its,n,hk,hc,hs,hz,r⟩
 .obtain⟨z,its,r,p⟩:=h.ok I.hok;exact⟨its,r,p,z⟩
 .refine⟨its.toList,r,⟨o,I.kIn a o hk,hc,n,by simpa using hs⟩,?_⟩;have e:=r.length;simp only[Rg] at e;omega
theorem Inv.list_inj(I:Inv X pins O H s)(h:T9 X.K H a xs)(h':T9 X.K H a ys):xs=ys:=by
 obtain⟨its,r,⟨o,n,e,_,_,d⟩,_⟩:=I.list h;obtain⟨its',r',⟨o',n',e',_,_,d'⟩,_⟩:=I.list h';rw[e] at e';cases e';rw[d] at d';injection d' with d1 _
 have:its=its':=by simpa using congrArg Array.toList d1
 subst this;exact r.inj r'
theorem Inv.tuple_inj(I:Inv X pins O H s)(h:Uo X.K H a xs)(h':Uo X.K H a ys):xs=ys:=by
 obtain⟨its,r,⟨o,e,_,n,d⟩,_⟩:=I.tuple h;obtain⟨its',r',⟨o',e',_,n',d'⟩,_⟩:=I.tuple h';rw[e] at e';cases e';rw[d] at d';injection d' with d1 _
 have:its=its':=by simpa using congrArg Array.toList d1
 subst this;exact r.inj r'
end
abbrev Cx.wish(X:Cx)(E:OK):Cx:={X with xe:=E}
abbrev Cx.nox(X:Cx):Cx:=X.wish fun _ _=>False
def Cx.Ok.wish{X:Cx}(ok:X.Ok)(E:OK):(X.wish E).Ok:=
 ⟨ok.mod,ok.kind,ok.glob,ok.blt,ok.above,ok.inj,ok.has,ok.cab,ok.hd,ok.frames,ok.stk,ok.exf,ok.bs,ok.bsz,ok.noex,ok.exfs,ok.funs,ok.frf⟩
def Cx.Ok.unwish{X:Cx}{E:OK}(ok:(X.wish E).Ok):X.Ok:=
 ⟨ok.mod,ok.kind,ok.glob,ok.blt,ok.above,ok.inj,ok.has,ok.cab,ok.hd,ok.frames,ok.stk,ok.exf,ok.bs,ok.bsz,ok.noex,ok.exfs,ok.funs,ok.frf⟩
section
variable {X:Cx} {pins:QS} {O:St} {H:Hp} {s:Shared} {E:OK}
theorem Inv.wish(I:Inv X pins O H s)(E:OK):Inv (X.wish E) pins O H s:=⟨I.ok.wish E,I.os,I.bare,I.base,I.loc,I.cell,I.free,I.freeC,I.pin,I.hok,I.len⟩
theorem Inv.unwish(I:Inv (X.wish E) pins O H s):Inv X pins O H s:=⟨I.ok.unwish,I.os,I.bare,I.base,I.loc,I.cell,I.free,I.freeC,I.pin,I.hok,I.len⟩
theorem SP.unwish{D:Ends}{f:Flow}{s':Shared}(h:SP (X.wish E) pins D f s'):SP X pins D f s':=by
 cases f with
 |next=>obtain⟨ZZ,H',I,q⟩:=h;exact⟨ZZ,H',I.unwish,q⟩
 |brk=>obtain⟨ZZ,H',I,q⟩:=h;exact⟨ZZ,H',I.unwish,q⟩
 |cont=>obtain⟨ZZ,H',I,q⟩:=h;exact⟨ZZ,H',I.unwish,q⟩
 |ret u=>obtain⟨v,ZZ,H',I,r,q⟩:=h;exact⟨v,ZZ,H',I.unwish,r,q⟩
theorem PE.nox{e:Expr}{t:TE}(h:PE X.nox e t):PE X e t:=fun pins s O H Q I hw=>
 P8 (h pins s O H Q (I.wish _) hw) (fun _ _ ⟨v,H',I',r,q⟩=>⟨v,H',I'.unwish,r,q⟩) fun _ _ z=>False.elim z
theorem PT.nox{e:Expr}{t:TT}(h:PT X.nox e t):PT X e t:=fun pins s O H Q I hw=>
 P8 (h pins s O H Q (I.wish _) hw) (fun _ _ ⟨H',I',q⟩=>⟨H',I'.unwish,q⟩) fun _ _ z=>False.elim z
theorem UT.nox{st:List Stmt}{t:TS}(h:UT X.nox st t):UT X st t:=fun pins s O H D I hw=>
 P8 (h pins s O H D (I.wish _) hw) (fun _ _ q=>q.unwish) fun _ _ z=>False.elim z
end
section
variable {X:Cx} {st:Stmt} {di:List Stmt} {t u:TS} {e:Expr} {te:TE} {pos:Pos}
def K3:TS:=fun D O H=>D.nx O H
def Mu(t u:TS):TS:=fun D O H=>t {D with nx:=u D} O H
theorem Di:UT X [] K3:=fun _ _ O H _ I h=>Sv ⟨O,H,I,h⟩
theorem wV(h1:PS X st t)(h2:UT X di u):UT X (st::di) (Mu t u):=by
 intro pins s O H D I h;refine wpAny_execs_cons (TM (h1 pins s O H {D with nx:=u D} I h) fun f s1 q=>?_);cases f with
 |next=>
  obtain⟨ZZ,H',I',q⟩:=q;exact h2 pins s1 ZZ H' D I' q
 |ret v=>exact q
 |brk=>exact q
 |cont=>exact q
theorem Ar(h1:PS X st t):UT X [st] t:=by
 intro pins s O H D I h;refine wpAny_execs_cons (TM (h1 pins s O H D I h) fun f s1 q=>?_);cases f with
 |next=>exact Sv q
 |ret v=>exact q
 |brk=>exact q
 |cont=>exact q
def Li:TS:=fun D O H=>D.bk O H
theorem IQ:PS X (.Break pos) Li:=fun _ _ O H _ I h=>wpAny_Break ⟨O,H,I,h⟩
theorem Inv.quiet{pins:QS}{O:St}{H:Hp}{s:Shared}(I:Inv X pins O H s):interactive X.env=false:=by simp[interactive,I.ok.kind]
def Ld(te:TE):TS:=fun D O H=>te O H fun _ H1=>D.nx O H1
theorem yR(he:PE X e te)(hs:swapsWith e none pos.line X.env=pure false:=by rfl):PS X (.Expr e pos) (Ld te):=by
 intro pins s O H D I h;exact wpAny_Expr_any (TM (he pins s O H _ I h) fun v s1 ⟨x,H1,I1,r1,q1⟩=>⟨O,H1,I1,q1⟩) I.quiet hs
def DP(te:TE):TS:=fun D O H=>te O H D.rt
theorem Ag(he:PE X e te):PS X (.Return (some e) pos) (DP te):=by
 intro pins s O H D I h;exact wpAny_Return_some (TM (he pins s O H _ I h) fun v s1 ⟨x,H1,I1,r1,q1⟩=>⟨x,O,H1,I1,r1,q1⟩)
def La(c:TT)(t u:TS):TS:=fun D O H=>c O H fun b H1=>if b=true then t D O H1 else u D O H1
theorem Ai{c:Expr}{a b:List Stmt}{tc:TT}(hc:PT X c tc)(ha:UT X a t)(hb:UT X b u):PS X (.If c a b pos) (La tc t u):=by
 intro pins s O H D I h;refine wpAny_If (TM (hc pins s O H _ I h) fun d s1 hm=>?_);obtain⟨H1,I1,q1⟩:=hm;cases d with
 |true=>exact ha pins s1 O H1 D I1 q1
 |false=>exact hb pins s1 O H1 D I1 q1
end
abbrev TG:=V->St->Hp->(St->Hp->Prop)->Prop
abbrev X5:=List V->St->Hp->(St->Hp->Prop)->Prop
def PG(X:Cx)(target:Expr)(t:TG):Prop:=
 ∀(pins:QS) (s:Shared) (O:St) (H:Hp) (v:V) (u:Value) (Q:St->Hp->Prop),Inv X pins O H s->RelV v u->t v O H Q->
  wpAny (model X.prog X.w) X.A (assign target X.env u) (fun _ s'=>∃ZZ H',Inv X pins ZZ H' s'/\Q ZZ H') X.xe s
def W9(X:Cx)(ts:List Expr)(t:X5):Prop:=
 ∀(pins:QS) (s:Shared) (O:St) (H:Hp) (vs:List V) (us:List Value) (Q:St->Hp->Prop),Inv X pins O H s->Vals vs us->t vs O H Q->
  wpAny (model X.prog X.w) X.A (assignInOrder ((assignEach ts X.env).map (·.2)) us) (fun _ s'=>∃ZZ H',Inv X pins ZZ H' s'/\Q ZZ H') X.xe s
abbrev vh:=V->V->V->Hp->(Hp->Prop)->Prop
def yC(X:Cx)(t:vh):Prop:=
 ∀(pins:QS) (s:Shared) (O:St) (H:Hp) (o i v:V) (ov iv u:Value) (Q:Hp->Prop),Inv X pins O H s->RelV o ov->RelV i iv->RelV v u->t o i v H Q->
  wpAny (model X.prog X.w) X.A (setItem ov iv u) (fun _ s'=>∃H',Inv X pins O H' s'/\Q H') X.xe s
abbrev Ϭ:=V->V->Hp->VK->Prop
def ϯ(X:Cx)(op:Operator)(t:Ϭ):Prop:=
 ∀(pins:QS) (s:Shared) (O:St) (H:Hp) (x y:V) (v u:Value) (Q:VK),Inv X pins O H s->RelV x v->RelV y u->t x y H Q->
  wpAny (model X.prog X.w) X.A (inplaceOp op v u) (EP X pins O Q) X.xe s
section
variable {X:Cx} {pos:Pos}
def sD(i:Nat):TG:=fun v O H Q=>Q (O.set i (some v)) H
theorem rm{i:Nat}{x:Str}(hN:X.N.Nodup)(hi:X.N[i]?=some x)(hx:Loc X.env.scope x)(hf:X.fn x=true\/X.env.scope.names.lookup x=some .local:=by first|exact .inl rfl|exact .inr rfl|assumption):PG X (.Name x pos) (sD i):=by
 intro pins s O H v u Q I r h;exact wpAny_assign_Name (mQ I hN hi hx r (fun s' I'=>⟨_,H,I',h⟩) hf)
def F8:X5:=fun vs O H Q=>vs=[]/\Q O H
def C8(t:TG)(u:X5):X5:=fun vs O H Q=>∃v r,vs=v::r/\t v O H fun ZZ H'=>u r ZZ H' Q
theorem Md:W9 X [] F8:=by
 intro pins s O H vs us Q I r h;obtain⟨e,h⟩:=h;subst e;cases r;exact(assignInOrder_nil ⟨O,H,I,h⟩)
theorem Cj{e:Expr}{es:List Expr}{t:TG}{u:X5}(h1:PG X e t)(h2:W9 X es u)
  (hs:(assignEach (e::es) X.env).map (·.2)=assign e X.env::(assignEach es X.env).map (·.2):=by rfl):W9 X (e::es) (C8 t u):=by
 intro pins s O H vs us Q I r h;obtain⟨v,vr,e1,h⟩:=h;subst e1;cases r with
 |cons r rr=>
  rw[hs];refine SH (TM (h1 pins s O H _ _ _ I r h) fun _ s1 hm=>?_);obtain⟨ZI,H1,I1,q1⟩:=hm;exact(h2 pins s1 ZI H1 _ _ Q I1 rr q1)
def zW(K:Frag)(n:Nat)(t:X5):TG:=fun v O H Q=>∃a xs,v=.ref a/\Uo K H a xs/\xs.length=n/\t xs O H Q
theorem Hy{es:List Expr}{k:Nat}{t:X5}{n:Nat}(hc:X.calm=true)(h:W9 X es t)
  (hn:(assignEach es X.env).length=n:=by rfl) (hst:(assignEach es X.env).findIdx? (·.1)=none:=by rfl):PG X (.Tuple es k pos) (zW X.K n t):=by
 intro pins s O H v u Q I r hw;obtain⟨a,xs,e1,hq,hl,hw⟩:=hw;subst e1;cases r;obtain⟨its,rv,ht,hz⟩:=I.tuple hq;refine(assign_Tuple_tuple (I.ok.hd hc) ht (by simp[hn,←hl,rv.length]) hst fun h' hx=>?_);have I1:Inv X pins O H {s with heap:=h'}:=I.kept (t':=s.toks) fun b o e=>hx b o (Qk (Qa e)) e;exact h pins _ O H xs _ Q I1 (by simpa using rv) hw
def Kw(to ti:TE)(t:vh):TG:=fun v O H Q=>to O H fun o H1=>ti O H1 fun i H2=>t o i v H2 fun H3=>Q O H3
theorem Cr{o i:Expr}{to ti:TE}{t:vh}(ho:PE X o to)(hi:PE X i ti)(hs:yC X t)
  (ha:∀v,assign (.Subscript o i pos) X.env v=(do
   let ov ←holding [v] (eval o X.env)
   let iv ←holding [v,ov] (eval i X.env)
   standAt pos
   holding [v,ov,iv] (setItem ov iv v)
   release [v,ov,iv] []):=by intro _;rfl):PG X (.Subscript o i pos) (Kw to ti t):=by
 intro pins s O H v u Q I r h;rw[ha];refine P2 (Rl (TM (ho pins s O H _ I h) fun ov s1 hm=>?_));obtain⟨x,H1,I1,r1,q1⟩:=hm;refine(P2 (Rl (TM (hi pins s1 O H1 _ I1 q1) fun iv s2 hm=>?_)));obtain⟨y,H2,I2,r2,q2⟩:=hm;refine(P2 (Rc (P2 (Rl (TM (hs pins s2 O H2 x y v ov iv u _ I2 r1 r2 r q2) fun _ s3 hm=>?_)))));obtain⟨H3,I3,q3⟩:=hm;exact(wpAny_release ⟨O,H3,I3,q3⟩)
def v7(te:TE)(g:TG):TS:=fun D O H=>te O H fun x H1=>g x O H1 D.nx
theorem EW{tg e:Expr}{te:TE}{g:TG}(he:PE X e te)(hg:PG X tg g)(hs:swapsWithSole [tg] e pos.line X.env=pure false:=by rfl)(hw:swappedStores [tg] e X.env=pure none:=by rfl)
  (h1:(assignEach [tg] X.env).map (·.2)=[assign tg X.env]:=by rfl):PS X (.Assign [tg] e pos) (v7 te g):=by
 intro pins s O H D I h;refine wpAny_Assign_stores (TM (he pins s O H _ I h) fun v s1 hm=>?_) hs hw;obtain⟨x,H1,I1,r1,q1⟩:=hm;rw[h1];exact TM (hg pins s1 O H1 x v _ I1 r1 q1) fun _ s2 q=>q
theorem x3{i:Nat}{x:Str}{e:Expr}{te:TE}{pos':Pos}(hN:X.N.Nodup)(hi:X.N[i]?=some x)(hx:Loc X.env.scope x)(he:PE X e te)(hs:swapsWith e (some (.Name x pos')) pos.line X.env=pure false:=by rfl)(hf:X.fn x=true\/X.env.scope.names.lookup x=some .local:=by first|exact .inl rfl|exact .inr rfl|assumption):
  PS X (.Assign [.Name x pos'] e pos) (v7 te (sD i)):=by
 intro pins s O H D I h;refine wpAny_Assign_Name (TM (he pins s O H _ I h) fun v s1 hm=>?_) hs;obtain⟨y,H1,I1,r1,q1⟩:=hm;exact(mQ I1 hN hi hx r1 (fun s2 I2=>⟨_,H1,I2,q1⟩) hf)
def zc(i j:Nat)(ta:TA):TS:=fun D O H=>ta O H fun vs H1=>∃v w,vs=[v,w]/\D.nx ((O.set i (some v)).set j (some w)) H1
theorem Il{i j:Nat}{x y:Str}{a b:Expr}{ta:TA}{px py pt:Pos}{kt k2 YA}(hc:X.calm=true)(hN:X.N.Nodup)(hi:X.N[i]?=some x)(hj:X.N[j]?=some y)(_m:i≠j)
  (hx:X.env.scope.names.lookup x=some .local) (hy:X.env.scope.names.lookup y=some .local) (ha:PA X [a,b] ta)
  (hw:swappedStores [.Tuple [.Name x px,.Name y py] kt pt] (.Tuple [a,b] k2 YA) X.env=pure (some [x,y]))
  (hs:swapsWithSole [.Tuple [.Name x px,.Name y py] kt pt] (.Tuple [a,b] k2 YA) pos.line X.env=pure false:=by rfl):
  PS X (.Assign [.Tuple [.Name x px,.Name y py] kt pt] (.Tuple [a,b] k2 YA) pos) (zc i j ta):=by
 intro pins s O H D I h;rw[exec_Assign_arm];refine P2 (Rc ?_);rw[hs];refine P2 (P6 ?_);rw[if_neg (by decide)];refine P2 (Tuple_ (TM (ha _ pins s O H _ I h) fun us s1 hm=>?_));obtain⟨vs,H1,I1,r1,q1⟩:=hm;obtain⟨v,w,e1,q1⟩:=q1;subst e1;obtain⟨u1,u2,rfl,rv,WE⟩:∃u1 u2,us=[u1,u2]/\RelV v u1/\RelV w u2:=by
  cases r1 with
  |cons p q=>
   cases q with
   |cons p' q'=>
    cases q';exact⟨_,_,rfl,p,p'⟩
 refine QW ?_ (by show 2<=sizeLine;decide);have I2:Inv X pins O H1 {s1 with heap:=s1.heap.push {cls:=.type "tuple",data:=.seq [u1,u2].toArray}}:=I1.kept (t':=s1.toks) fun b o e=>P4 _ e;rw[hw];refine P2 (P6 ?_);show wpAny (model X.prog X.w) X.A (do rule "assign.swapped-stores";let items ←unpackItems (.ref s1.heap.objs.size) 2 none;assignInOrder [fun v=>bindName X.env y v,fun v=>bindName X.env x v] items.reverse;pure Flow.next) _ _ _;refine P2 (SG (P2 (unpackItems_tuple (items:=#[u1,u2]) (I.ok.hd hc) (IsTup.new s1.heap _) fun h' _O=>?_)));have I3:=I2.kept (h':=h') (t':=s1.toks) fun b o e=>_O b o (Qk (Qa e)) e;show wpAny _ _ (assignInOrder [fun v=>bindName X.env y v,fun v=>bindName X.env x v] [u2,u1] >>= fun _=>pure Flow.next) _ _ _;refine P2 (SH (wpAny_bindName (mQ I3 hN hj (.inl hy) WE (fun s2 I4=>?_) (.inr hy))));refine SH (wpAny_bindName (mQ I4 hN hi (.inl hx) rv (fun s3 I5=>assignInOrder_nil (P6 ?_)) (.inr hx)));rw[List.set_comm _ _ (Ne.symm _m)] at I5;exact⟨_,H1,I5,q1⟩
def Jc(i:Nat)(te:TE)(ti:Ϭ):TS:=fun D O H=>∃x,O[i]?=some (some x)/\te O H fun y H1=>ti x y H1 fun z H2=>D.nx (O.set i (some z)) H2
theorem Cl{i:Nat}{x:Str}{e:Expr}{te:TE}{op:Operator}{ti:Ϭ}{pos':Pos}(hN:X.N.Nodup)(hi:X.N[i]?=some x)(hx:Loc X.env.scope x)(he:PE X e te)(ho:ϯ X op ti)(hf:X.fn x=true\/X.env.scope.names.lookup x=some .local:=by first|exact .inl rfl|exact .inr rfl|assumption):
  PS X (.AugAssign (.Name x pos') op e pos) (Jc i te ti):=by
 intro pins s O H D I h;obtain⟨v,e1,h⟩:=h;obtain⟨m,hn,hl⟩:=I.loc;have vis:Ο X.env.scope x:=by rcases hx with k|k;exact .inl k;exact .inr (.inl k)
 obtain⟨u,r,l⟩:=hl i x v hi e1 vis;refine(wpAny_AugAssign_Name ?_);have go:wpAny (model X.prog X.w) X.A (eval e X.env) (fun w ZM=>wpAny (model X.prog X.w) X.A (inplaceOp op u w) (fun r ZJ=>wpAny (model X.prog X.w) X.A (storeName X.env x r) (fun _=>SP X pins D .next) X.xe ZJ) X.xe ZM) X.xe s:=by
  refine TM (he pins s O H _ I h) fun w s1 hm=>?_;obtain⟨y,H1,I1,r1,q1⟩:=hm;refine(TM (ho pins s1 O H1 v y u w _ I1 r r1 q1) fun z s2 hm=>?_);obtain⟨zv,H2,I2,r2,q2⟩:=hm;exact(mQ I2 hN hi hx r2 (fun s3 I3=>⟨_,H2,I3,q2⟩) hf)
 rcases l with⟨hk,hm⟩|⟨hk,c,hc,T6⟩
 .exact wpAny_loadName_local I.ok.kind hk hn hm go
 .rcases hk with hk|hk
  .exact wpAny_loadName_cell I.ok.kind hk hc T6 go
  .rcases hx with k|k
   .have:X.env.scope.names.lookup x=some .free:=hk;rw[k] at this;cases this
   .have:X.env.scope.names.lookup x=some .free:=hk;rw[k] at this;cases this
def _M(f:Int->Int->Int):Ϭ:=fun x y H Q=>∃i j,x=.int i/\y=.int j/\Q (.int (f i j)) H
theorem LO:ϯ X .Add (_M fun i j=>i+j):=by
 intro pins s O H x y v u Q I r1 r2 h;obtain⟨i,j,e1,e2,q⟩:=h;subst e1;subst e2;obtain⟨t,rfl⟩:=r1;obtain⟨t',rfl⟩:=r2;exact(iadd_int ⟨.int _,H,I.tok _,⟨_,rfl⟩,q⟩)
theorem HR:ϯ X .Sub (_M fun i j=>i - j):=by
 intro pins s O H x y v u Q I r1 r2 h;obtain⟨i,j,e1,e2,q⟩:=h;subst e1;subst e2;obtain⟨t,rfl⟩:=r1;obtain⟨t',rfl⟩:=r2;exact(isub_int ⟨.int _,H,I.tok _,⟨_,rfl⟩,q⟩)
end
section
variable {X:Cx} {pos:Pos}
def NT(c:TT)(tb:TS):TS:=fun D O H=>∃W:Nat->St->Hp->Prop,(∃m,W m O H)/\∀m O H,W m O H->
 c O H fun b H1=>if b=true then ∃N:St->Hp->Prop,(∀ZZ H',N ZZ H'->∃m',m'<m/\W m' ZZ H')/\tb {D with nx:=N,ct:=N,bk:=D.nx} O H1 else D.nx O H1
theorem Ht{c:Expr}{body:List Stmt}{tc:TT}{tb:TS}(hp:PassesOwn (model X.prog X.w) X.A X.env X.xe)(hc:PT X c tc)(hb:UT X body tb):PS X (.While c body [] pos) (NT tc tb):=by
 intro pins s O H D I h;obtain⟨W,⟨m0,w0⟩,turn⟩:=h;refine(wpAny_While (codeAny_whileLoop (fun n s'=>∃ZZ H',Inv X pins ZZ H' s'/\W n ZZ H') ?_ m0 ⟨O,H,I,w0⟩));rintro n s1 ⟨ZI,H1,I1,w1⟩;refine RD hp (TM (hc pins s1 ZI H1 _ I1 (turn n ZI H1 w1)) fun b s2 hm=>?_);obtain⟨H2,I2,q2⟩:=hm;cases b with
 |true=>
  obtain⟨N,hN,q2⟩:=q2;rw[if_pos rfl];refine RD hp (TM (hb pins s2 ZI H2 _ I2 q2) fun f s3 q3=>?_);cases f with
  |next=>
   obtain⟨ZH,H3,I3,n3⟩:=q3;obtain⟨m',hm,w3⟩:=hN ZH H3 n3;exact⟨m',hm,ZH,H3,I3,w3⟩
  |cont=>
   obtain⟨ZH,H3,I3,n3⟩:=q3;obtain⟨m',hm,w3⟩:=hN ZH H3 n3;exact⟨m',hm,ZH,H3,I3,w3⟩
  |brk=>exact q3
  |ret v=>exact q3
 |false=>
  rw[if_neg QF];exact Sv ⟨ZI,H2,I2,q2⟩
end
structure It where
 go:Nat->Hp->Prop
 yld:Nat->Hp->V->Hp->Prop
 stop:Nat->Hp->Prop
def eE(X:Cx)(pins:QS)(H:Hp)(b:Addr):Prop:=
 H b=none/\b≠X.env.locals/\b∉X.fs/\(b∈X.ex\/X.Z1.heap.objs.size<=b)/\(∀x c,X.env.cells.lookup x=some c->c≠b)/\∀p∈X.pn++pins,p.1≠b
def Inv.fpOk{X:Cx}{pins:QS}{O:St}{H H':Hp}{s:Shared}{b:Addr}(I:Inv X pins O H s)(hb:s.heap.objs.size<=b)(hn:H' b=none):eE X pins H' b:=by
 refine⟨hn,Sd (Qt I.lt hb),I.nofs hb,.inr (QL I.sz hb),fun x c e z=>?_,fun p hp z=>?_⟩
 .obtain⟨v,q⟩:=I.cell x c e;exact absurd (Qt q.lt (by rw[z];exact hb)) (QY _)
 .exact absurd (Qt (Qa (I.pin p hp).1) (by rw[z];exact hb)) (QY _)
structure Turn (P:Program) (w:World) (K:Frag) (tg:Expr) (Z6:It) (fp:List Addr) (it:Addr) (tn:Nat->Heap->Prop):Prop where
 mem:it∈fp
 obj:∀i h,tn i h->∀b∈fp,∃o,h.get? b=some o/\∀v,o.data≠.cell v
 keep:∀i h h',tn i h->(∀b∈fp,∀o,h.get? b=some o->h'.get? b=some o)->tn i h'
 item:∀(X:Cx),X.prog=P->X.w=w->X.K=K->X.calm=true->∀(i:Nat) (pins:QS) (s:Shared) (O:St) (H:Hp) (E:OK),Inv X pins O H s->(∀b∈fp,eE X pins H b)->tn i s.heap->Z6.go i H->
  wpAny (model P w) X.A (pyNext (.ref it)) (fun r s1=>∃u,r=some u/\
   wpAny (model P w) X.A (letOwnedTupleGo tg (.ref it) u) (fun _ s2=>∃x H',Inv X pins O H' s2/\RelV x u/\Z6.yld i H x H'/\tn (i+1) s2.heap/\∀b∈fp,H' b=none) E s1) E s
 done:∀(X:Cx),X.prog=P->X.w=w->X.K=K->X.calm=true->∀(i:Nat) (pins:QS) (s:Shared) (O:St) (H:Hp) (E:OK),Inv X pins O H s->(∀b∈fp,eE X pins H b)->tn i s.heap->Z6.stop i H->
  wpAny (model P w) X.A (pyNext (.ref it)) (fun r s1=>r=none/\Inv X pins O H s1) E s
 self:∀(A:Around) (i:Nat) (s:Shared) (Q:OK) (E:OK),tn i s.heap->Q (.ref it) s->wpAny (model P w) A (pyIter (.ref it)) Q E s
abbrev TI:=St->Hp->(It->Hp->Prop)->Prop
def ϰ(X:Cx)(pins:QS)(O:St)(tg:Expr)(R:It->Hp->Prop)(Xa:Value)(s2:Shared):Prop:=
 ∃(it:Addr) (fp:List Addr) (tn:Nat->Heap->Prop) (Z6:It) (H':Hp),Xa=.ref it/\Inv X pins O H' s2/\Turn X.prog X.w X.K tg Z6 fp it tn/\tn 0 s2.heap/\(∀b∈fp,eE X pins H' b)/\R Z6 H'
def PI(X:Cx)(tg iter:Expr)(wi:TI):Prop:=
 ∀(pins:QS) (s:Shared) (O:St) (H:Hp) (R:It->Hp->Prop),Inv X pins O H s->wi O H R->
  wpAny (model X.prog X.w) X.A (eval iter X.env) (fun v s1=>wpAny (model X.prog X.w) X.A (pyIter v) (ϰ X pins O tg R) X.xe s1) X.xe s
theorem uP{M:Model}{A:Around}{E:OK}{s:Shared}{tg:Expr}{it:Addr}{u:Value}{o:Obj}{n:String}{vs:Array Value}{Q:Unit->Shared->Prop}(ho:s.heap.get? it=some o)(hc:o.cls=.type n)(hd:o.data=.fields vs)
  (hn:["enumerate","zip","dict_itemiterator","dict_reverseitemiterator","odict_iterator","itertools.zip_longest","itertools.pairwise"].contains n=false) (hQ:Q () s):wpAny M A (letOwnedTupleGo tg (.ref it) u) Q E s:=by
 unfold letOwnedTupleGo;cases tg<;>first
  |exact P6 hQ
  |(cases u<;>first
    |exact P6 hQ
    |(refine P2 (wpAny_load ho ?_);rw[hc,hd];show wpAny M A (if(["enumerate","zip","dict_itemiterator","dict_reverseitemiterator","odict_iterator","itertools.zip_longest","itertools.pairwise"].contains n&&vs[0]?==some (rawInt _))=true then _ else _) Q E s;rw[if_neg (by intro h;rw[hn,Bool.false_and] at h;cases h)];exact P6 hQ))
def ϱ(K:Frag)(a:Addr):It:=
 ⟨fun i H=>∃xs x,T9 K H a xs/\xs[i]?=some x,fun i H x H'=>H'=H/\∀xs,T9 K H a xs->xs[i]?=some x,fun i H=>∃xs,T9 K H a xs/\xs.length<=i⟩
def Itt(K:Frag)(a:Addr):It:=
 ⟨fun i H=>∃xs x,Uo K H a xs/\xs[i]?=some x,fun i H x H'=>H'=H/\∀xs,Uo K H a xs->xs[i]?=some x,fun i H=>∃xs,Uo K H a xs/\xs.length<=i⟩
def Xj(lo:Int)(n:Nat):It:=⟨fun i _=>i<n,fun i H x H'=>H'=H/\x=.int (lo+i),fun i _=>n<=i⟩
theorem K8{P:Program}{w:World}{K:Frag}{tg:Expr}(a it:Addr):Turn P w K tg (ϱ K a) [it] it (fun i h=>h.IsListIter it a i) where
 mem:=by simp
 obj:=fun i h st b hb=>by
  have e:b=it:=by simpa using hb
  subst e;obtain⟨o,e,c,d⟩:=st;exact⟨o,e,fun v z=>by rw[d] at z;cases z⟩
 keep:=fun i h h' st k=>st.at fun o e=>k it (by simp) o e
 item:=by
  intro X hP hw hK hc i pins s O H E I hf st hg;subst hP hw hK;obtain⟨xs,x,hq,hx⟩:=hg;obtain⟨its,rv,p,hz⟩:=I.list hq;obtain⟨u,hu,ru⟩:=rv.get hx;obtain⟨f0,f1,f2,f3,f4,f5⟩:=hf it (by simp);refine(wpAny_pyNext_list_item st p.isList (x:=u) (by simpa using hu) fun h' Wc sb=>?_);have I1:Inv X pins O H {s with heap:=h'}:=I.turned (t':=s.toks) (fun b o hb e=>(sb.2 b hb).trans e) f0 f1 f3 f4 f5;obtain⟨o,e,c,d⟩:=id Wc;exact⟨u,rfl,uP (s:={s with heap:=h'}) e c d (by decide) ⟨x,H,I1,ru,⟨rfl,fun ys hy=>by rw[I.list_inj hy hq];exact hx⟩,Wc,fun b hb=>(hf b hb).1⟩⟩
 done:=by
  intro X hP hw hK hc i pins s O H E I hf st hg;subst hP hw hK;obtain⟨xs,hq,hx⟩:=hg;obtain⟨its,rv,p,hz⟩:=I.list hq;obtain⟨f0,f1,f2,f3,f4,f5⟩:=hf it (by simp);have hl:=rv.length;exact wpAny_pyNext_list_end (I.ok.hd hc) st p.isList (by simp;omega) fun h' eb=>⟨rfl,I.turned (t':=s.toks) (fun b o hb e=>eb b o hb e) f0 f1 f3 f4 f5⟩
 self:=fun _ _ _ _ _ st h=>wpAny_pyIter_listiter st h
theorem Ec{P:Program}{w:World}{K:Frag}{tg:Expr}(a it:Addr):Turn P w K tg (Itt K a) [it] it (fun i h=>h.IsTupleIter it a i) where
 mem:=by simp
 obj:=fun i h st b hb=>by
  have e:b=it:=by simpa using hb
  subst e;obtain⟨o,e,c,d⟩:=st;exact⟨o,e,fun v z=>by rw[d] at z;cases z⟩
 keep:=fun i h h' st k=>st.at fun o e=>k it (by simp) o e
 item:=by
  intro X hP hw hK hc i pins s O H E I hf st hg;subst hP hw hK;obtain⟨xs,x,hq,hx⟩:=hg;obtain⟨its,rv,p,hz⟩:=I.tuple hq;obtain⟨u,hu,ru⟩:=rv.get hx;obtain⟨f0,f1,f2,f3,f4,f5⟩:=hf it (by simp);refine(wpAny_pyNext_tuple_item st (show s.heap.IsTuple a its.toArray from p) (x:=u) (by simpa using hu) fun h' Wc sb=>?_);have I1:Inv X pins O H {s with heap:=h'}:=I.turned (t':=s.toks) (fun b o hb e=>(sb.2 b hb).trans e) f0 f1 f3 f4 f5;obtain⟨o,e,c,d⟩:=id Wc;exact⟨u,rfl,uP (s:={s with heap:=h'}) e c d (by decide) ⟨x,H,I1,ru,⟨rfl,fun ys hy=>by rw[I.tuple_inj hy hq];exact hx⟩,Wc,fun b hb=>(hf b hb).1⟩⟩
 done:=by
  intro X hP hw hK hc i pins s O H E I hf st hg;subst hP hw hK;obtain⟨xs,hq,hx⟩:=hg;obtain⟨its,rv,p,hz⟩:=I.tuple hq;obtain⟨f0,f1,f2,f3,f4,f5⟩:=hf it (by simp);have hl:=rv.length;exact wpAny_pyNext_tuple_end (I.ok.hd hc) st (show s.heap.IsTuple a its.toArray from p) (by simp;omega) fun h' eb=>⟨rfl,I.turned (t':=s.toks) (fun b o hb e=>eb b o hb e) f0 f1 f3 f4 f5⟩
 self:=fun _ _ _ _ _ st h=>wpAny_pyIter_tupleiter st h
theorem BO{P:Program}{w:World}{K:Frag}{tg:Expr}(it:Addr)(lo:Int)(n:Nat):Turn P w K tg (Xj lo n) [it] it (fun i h=>IsRangeIter h it (lo+(i:Nat)*1) ((n:Int) - (i:Nat)) 1) where
 mem:=by simp
 obj:=fun i h st b hb=>by
  have e:b=it:=by simpa using hb
  subst e;exact⟨_,st,fun v z=>by
   have z':Data.fields _=Data.cell v:=z;cases z'⟩
 keep:=fun i h h' st k=>k it (by simp) _ st
 item:=by
  intro X hP hw hK hc i pins s O H E I hf st hg;subst hP hw hK;obtain⟨f0,f1,f2,f3,f4,f5⟩:=hf it (by simp);have W:=Walks.range (prog:=X.prog) (w:=X.w) (I.ok.hd hc) it lo 1 n;refine(W.item i s _ _ hg st fun v h' tk hv Wc kk=>?_);obtain⟨t,rfl⟩:=hv;have I1:Inv X pins O H {s with heap:=h',toks:=tk}:=I.turned (fun b o hb e=>kk b o (by simpa using hb) e) f0 f1 f3 f4 f5;refine(⟨_,rfl,uP (s:={s with heap:=h',toks:=tk}) (n:="range_iterator") Wc rfl rfl (by decide) ⟨.int (lo+i),H,I1,⟨t,?_⟩,⟨rfl,rfl⟩,Wc,fun b hb=>(hf b hb).1⟩⟩);rw[Int.mul_one]
 done:=by
  intro X hP hw hK hc i pins s O H E I hf st hg;subst hP hw hK;obtain⟨f0,f1,f2,f3,f4,f5⟩:=hf it (by simp);exact wpAny_pyNext_range_end (I.ok.hd hc) st (by have:n<=i:=hg;omega) fun h' eb=>⟨rfl,I.turned (t':=s.toks) (fun b o hb e=>eb b o hb e) f0 f1 f3 f4 f5⟩
 self:=fun _ _ _ _ _ st h=>wpAny_pyIter_rangeiter st h
section
variable {X:Cx} {tg:Expr}
def Bj(K:Frag)(tl:TE):TI:=fun O H R=>tl O H fun x H1=>∃a,x=.ref a/\(∃xs,T9 K H1 a xs)/\R (ϱ K a) H1
def xH(K:Frag)(tl:TE):TI:=fun O H R=>tl O H fun x H1=>∃a,x=.ref a/\(∃xs,Uo K H1 a xs)/\R (Itt K a) H1
theorem zl{l:Expr}{tl:TE}(hl:PE X l tl):PI X tg l (Bj X.K tl):=by
 intro pins s O H R I h;refine TM (hl pins s O H _ I h) fun v s1 hm=>?_;obtain⟨x,H1,I1,r1,q1⟩:=hm;obtain⟨a,e,⟨xs,hq⟩,q⟩:=q1;subst e;cases r1;obtain⟨its,rv,p,hz⟩:=I1.list hq;refine(SQ p.isList ?_);refine⟨s1.heap.objs.size,[s1.heap.objs.size],_,_,H1,rfl,I1.kept (t':=s1.toks) fun b o e=>P4 _ e,K8 a _,⟨_,Qd _ rfl,rfl,rfl⟩,fun b hb=>?_,q⟩;have e:b=s1.heap.objs.size:=by simpa using hb
 subst e;exact I1.fpOk (P3 _) (I1.hok.fresh (P3 _))
theorem CD{l:Expr}{tl:TE}(hl:PE X l tl):PI X tg l (xH X.K tl):=by
 intro pins s O H R I h;refine TM (hl pins s O H _ I h) fun v s1 hm=>?_;obtain⟨x,H1,I1,r1,q1⟩:=hm;obtain⟨a,e,⟨xs,hq⟩,q⟩:=q1;subst e;cases r1;obtain⟨its,rv,p,hz⟩:=I1.tuple hq;refine(wpAny_pyIter_tuple (show s1.heap.IsTuple a its.toArray from p) ?_);refine⟨s1.heap.objs.size,[s1.heap.objs.size],_,_,H1,rfl,I1.kept (t':=s1.toks) fun b o e=>P4 _ e,Ec a _,⟨_,Qd _ rfl,rfl,rfl⟩,fun b hb=>?_,q⟩;have e:b=s1.heap.objs.size:=by simpa using hb
 subst e;exact I1.fpOk (P3 _) (I1.hok.fresh (P3 _))
theorem vN{pins:QS}{O:St}{H:Hp}{s:Shared}{R:It->Hp->Prop}{E:OK}{lo hi:Int}{t u v:Tok}{tk:Nat}(I:Inv X pins O H s)(h1:-(2^62)<=lo)(h2:lo<2^62)(h3:-(2^62)<=hi)(h4:hi<2^62)
  (q:R (Xj lo (hi - lo).toNat) H):wpAny (model X.prog X.w) X.A (pyIter (.ref s.heap.objs.size)) (ϰ X pins O tg R) E {s with heap:=s.heap.push {cls:=.type "range",data:=.fields #[.int lo t,.int hi u,.int 1 v]},toks:=tk}:=by
 refine wpAny_pyIter_range (IsRange.new ..) (small_one h1 h2 h3 h4) ?_;have I1:Inv X pins O H {s with heap:=s.heap.push {cls:=.type "range",data:=.fields #[.int lo t,.int hi u,.int 1 v]},toks:=tk}:=I.kept fun b o e=>P4 _ e;refine⟨(s.heap.push {cls:=.type "range",data:=.fields #[.int lo t,.int hi u,.int 1 v]}).objs.size,[(s.heap.push {cls:=.type "range",data:=.fields #[.int lo t,.int hi u,.int 1 v]}).objs.size],_,_,H,rfl,
  I1.kept (t':=tk) fun b o e=>P4 _ e,BO _ lo (hi - lo).toNat,?_,fun b hb=>?_,q⟩
 .have e1:lo+((0:Nat):Int)*1=lo:=by simp
  have e2:(((hi - lo).toNat:Nat):Int) - ((0:Nat):Int)=Builtin.Range.rangeSize lo hi 1:=by rw[SY];split<;>omega
  show IsRangeIter _ _ (lo+((0:Nat):Int)*1) ((((hi - lo).toNat:Nat):Int) - ((0:Nat):Int)) 1;rw[e1,e2];exact Qd _ rfl
 .have e:b=(s.heap.push {cls:=.type "range",data:=.fields #[.int lo t,.int hi u,.int 1 v]}).objs.size:=by simpa using hb
  subst e;exact I1.fpOk (P3 _) (I1.hok.fresh (P3 _))
def Ak(ta:TA):TI:=fun O H R=>ta O H fun vs H1=>∃j:Int,vs=[.int j]/\-(2^62)<=j/\j<2^62/\R (Xj 0 j.toNat) H1
def BG(ta:TA):TI:=fun O H R=>ta O H fun vs H1=>∃i j:Int,vs=[.int i,.int j]/\(-(2^62)<=i/\i<2^62/\-(2^62)<=j/\j<2^62)/\R (Xj i (j - i).toNat) H1
theorem Je{a:Expr}{ta:TA}{p pos:Pos}(hg:Gl X "range") (hm:X.mg "range"=none) (ha:PA X [a] ta) (hs:starEach [a] X.env=[(false,eval a X.env)]:=by rfl):PI X tg (.Call (.Name "range" p) [a] [] pos) (Ak ta):=by
 intro pins s O H R I h;refine Call_ (jI I hg hm boot_range (Q6 (TM (ha pos pins s O H _ I h) fun us s1 hm=>?_) hs rfl));obtain⟨vs,H1,I1,r1,q1⟩:=hm;obtain⟨j,e,q1,q2,q⟩:=q1;subst e;cases r1 with
 |cons r rr=>
  cases rr;obtain⟨t,rfl⟩:=r;exact(SC (vN I1 (by omega) (by omega) q1 q2 (by simpa using q)))
theorem Ii{a b:Expr}{ta:TA}{p pos:Pos}(hg:Gl X "range") (hm:X.mg "range"=none) (ha:PA X [a,b] ta) (hs:starEach [a,b] X.env=[(false,eval a X.env),(false,eval b X.env)]:=by rfl) (Tj:starEach [b] X.env=[(false,eval b X.env)]:=by rfl):
  PI X tg (.Call (.Name "range" p) [a,b] [] pos) (BG ta):=by
 intro pins s O H R I h;refine Call_ (jI I hg hm boot_range (Q6 (TM (ha pos pins s O H _ I h) fun us s1 hm=>?_) (by rw[hs,Tj]) (by rw[Tj];rfl)));obtain⟨vs,H1,I1,r1,q1⟩:=hm;obtain⟨i,j,e,⟨q1,q2,q3,q4⟩,q⟩:=q1;subst e;cases r1 with
 |cons r rr=>
  cases rr with
  |cons r' rr=>
   cases rr;obtain⟨t,rfl⟩:=r;obtain⟨t',rfl⟩:=r';exact(call_range_2 (vN I1 q1 q2 q3 q4 q))
def OP(wi:TI)(g:TG)(tb:TS):TS:=fun D O H=>wi O H fun Z6 H1=>∃W:Nat->Nat->St->Hp->Prop,(∃m,W 0 m O H1)/\∀i m O H,W i m O H->
 (Z6.stop i H/\D.nx O H)\/(Z6.go i H/\∃N:St->Hp->Prop,(∀ZZ H',N ZZ H'->∃m',m'<m/\W (i+1) m' ZZ H')/\∀x H',Z6.yld i H x H'->g x O H' fun ZV H2=>tb {D with nx:=N,ct:=N,bk:=D.nx} ZV H2)
def jN(fp:List Addr)(h:Heap):QS:=fp.filterMap fun b=>(h.get? b).map fun o=>(b,o)
theorem hV{fp:List Addr}{h:Heap}{b:Addr}{o:Obj}(hb:b∈fp)(e:h.get? b=some o):(b,o)∈jN fp h:=R9.mpr ⟨b,hb,by rw[e];rfl⟩
theorem L7{fp:List Addr}{h:Heap}{p:Addr×Obj}(hp:p∈jN fp h):p.1∈fp/\h.get? p.1=some p.2:=by
 obtain⟨b,hb,e⟩:=R9.mp hp;cases q:h.get? b with
 |none=>rw[q] at e;cases e
 |some o=>
  rw[q] at e;have e':(b,o)=p:=Qx e;subst e';exact⟨hb,q⟩
theorem Inv.pinned{pins:QS}{O:St}{H:Hp}{s:Shared}{fp:List Addr}(I:Inv X pins O H s)(hf:∀b∈fp,eE X pins H b)(ho:∀b∈fp,∃o,s.heap.get? b=some o/\∀v,o.data≠.cell v):Inv X (pins++jN fp s.heap) O H s:=
 I.pins_of fun p hp=>(Qr.mp hp).elim (fun z=>I.pin p (Qf _ z)) fun z=>by
  obtain⟨hb,e⟩:=L7 z;obtain⟨f0,f1,f2,_⟩:=hf p.1 hb;obtain⟨o,e',d⟩:=ho p.1 hb;rw[e] at e';cases e';exact⟨e,f0,f1,f2,d⟩
theorem Inv.unpinned{pins pl:QS}{O:St}{H:Hp}{s:Shared}(I:Inv X (pins++pl) O H s):Inv X pins O H s:=I.pins_of fun p hp=>I.pin p (Qf _ (RX _ hp))
theorem wX{iter:Expr}{body:List Stmt}{wi:TI}{g:TG}{tb:TS}{pos:Pos}(hp:PassesOwn (model X.prog X.w) X.A X.env X.xe)(hc:X.calm=true)(hi:PI X tg iter wi)(hg:PG X tg g)(hb:UT X body tb)
  (hs:∀x,foldedSetIterable iter X.env x=pure x:=by intro _;rfl):PS X (.For tg iter body [] pos) (OP wi g tb):=by
 intro pins s O H D I h;refine wpAny_For (TM (hi pins s O H _ I h) fun v s1 h1=>TM h1 fun Xa s2 h2=>?_) hs;obtain⟨it,fp,tn,Z6,H2,e,I2,T,Ur,f2,W,⟨m0,w0⟩,turn⟩:=h2;subst e;have Tx:∀{H':Hp},(∀b∈fp,H' b=none)->∀b∈fp,eE X pins H' b:=fun hn b hb=>⟨hn b hb,(f2 b hb).2⟩
 refine codeAny_forLoop_any (fun n s'=>∃i ZZ H',Inv X pins ZZ H' s'/\tn i s'.heap/\(∀b∈fp,H' b=none)/\W i n ZZ H') ?_ m0 ⟨0,O,H2,I2,Ur,fun b hb=>(f2 b hb).1,w0⟩;rintro n s3 ⟨i,ZH,H3,I3,VN,Κ,w3⟩;rcases turn i n ZH H3 w3 with⟨stop,qn⟩|⟨go,N,hN,step⟩
 .refine RD hp (TM (T.done X rfl rfl rfl hc i pins s3 ZH H3 X.xe I3 (Tx Κ) VN stop) fun r s4 ⟨hr,I4⟩=>?_);subst hr;exact Sv ⟨ZH,H3,I4,qn⟩
 .refine RD hp (TM (T.item X rfl rfl rfl hc i pins s3 ZH H3 X.xe I3 (Tx Κ) VN go) fun r s4 ⟨u,hr,h4⟩=>?_);subst hr;refine RD hp (TM h4 fun _ s5 hm=>?_);obtain⟨x,H5,I5,r5,y5,X8,fr5⟩:=hm;have I5':=I5.pinned (Tx fr5) (T.obj _ _ X8);refine(RD hp (TM (hg _ s5 ZH H5 x u _ I5' r5 (step x H5 y5)) fun _ s6 hm=>?_));obtain⟨Zp,H6,I6,q6⟩:=hm;refine(RD hp (TM (hb _ s6 Zp H6 _ I6 q6) fun f s7 q7=>?_));have again:∀{ZS:St} {H7:Hp},Inv X (pins++jN fp s5.heap) ZS H7 s7->N ZS H7->∃m,m<n/\∃i ZZ H',Inv X pins ZZ H' s7/\tn i s7.heap/\(∀b∈fp,H' b=none)/\W i m ZZ H':=fun{ZS H7} I7 n7=>by
   obtain⟨m',hm,w7⟩:=hN ZS H7 n7;refine(⟨m',hm,i+1,ZS,H7,I7.unpinned,T.keep _ _ _ X8 fun b hb o e=>(I7.pin (b,o) (Qf _ (Qf _ (hV hb e)))).1,fun b hb=>?_,w7⟩);obtain⟨o,e,d⟩:=T.obj _ _ X8 b hb;exact((I7.pin (b,o) (Qf _ (Qf _ (hV hb e)))).2.1)
  cases f with
  |next=>obtain⟨ZS,H7,I7,n7⟩:=q7;exact again I7 n7
  |cont=>obtain⟨ZS,H7,I7,n7⟩:=q7;exact again I7 n7
  |brk=>obtain⟨ZS,H7,I7,q7⟩:=q7;exact⟨ZS,H7,I7.unpinned,q7⟩
  |ret v=>obtain⟨x7,ZS,H7,I7,r7,q7⟩:=q7;exact⟨x7,ZS,H7,I7.unpinned,r7,q7⟩
end
abbrev R2:=V->V->Hp->VK->Prop
def UU(X:Cx)(f:Value->Value->Sem Value)(r:R2):Prop:=
 ∀(pins:QS) (s:Shared) (O:St) (H:Hp) (x y:V) (v u:Value) (Q:VK),Inv X pins O H s->RelV x v->RelV y u->r x y H Q->
  wpAny (model X.prog X.w) X.A (f v u) (EP X pins O Q) X.xe s
def UnR(X:Cx)(f:Value->Sem Value)(r:V->Hp->VK->Prop):Prop:=
 ∀(pins:QS) (s:Shared) (O:St) (H:Hp) (x:V) (v:Value) (Q:VK),Inv X pins O H s->RelV x v->r x H Q->
  wpAny (model X.prog X.w) X.A (f v) (EP X pins O Q) X.xe s
def gb(X:Cx)(f:Value)(r:List V->Hp->VK->Prop):Prop:=
 ∀(pins:QS) (s:Shared) (O:St) (H:Hp) (xs:List V) (us:List Value) (Q:VK),Inv X pins O H s->Vals xs us->r xs H Q->
  wpAny (model X.prog X.w) X.A (call f us) (EP X pins O Q) X.xe s
def CI(X:Cx)(r:V->Hp->(Bool->Hp->Prop)->Prop):Prop:=
 ∀(pins:QS) (s:Shared) (O:St) (H:Hp) (x:V) (v:Value) (Q:Bool->Hp->Prop),Inv X pins O H s->RelV x v->r x H Q->
  wpAny (model X.prog X.w) X.A (truthy v) (TP X pins O Q) X.xe s
def X7(r:R2)(ta tb:TE):TE:=fun O H Q=>ta O H fun x H1=>tb O H1 fun y H2=>r x y H2 Q
def tUn(r:V->Hp->VK->Prop)(ta:TE):TE:=fun O H Q=>ta O H fun x H1=>r x H1 Q
def rI(C:Int->Int->Prop)(g:Int->Int->V):R2:=fun x y H Q=>∃i j,x=.int i/\y=.int j/\C i j/\Q (g i j) H
def XC(g:Int->Int->V):R2:=fun x y H Q=>∃i j,x=.int i/\y=.int j/\Q (g i j) H
def rU(g:Int->V):V->Hp->VK->Prop:=fun x H Q=>∃i,x=.int i/\Q (g i) H
section
variable {X:Cx} {a b:Expr} {ta tb:TE} {pos:Pos}
theorem rN(ha:PE X a ta)(hb:PE X b tb){pins:QS}{s:Shared}{O:St}{H:Hp}{R:V->V->Hp->Prop}(I:Inv X pins O H s)
  (h:ta O H fun x H1=>tb O H1 fun y H2=>R x y H2) {Q:OK} {f:Value->Value->Sem Value}
  (hf:∀v u s2 x y H2,Inv X pins O H2 s2->RelV x v->RelV y u->R x y H2->wpAny (model X.prog X.w) X.A (f v u) Q X.xe s2):
  wpAny (model X.prog X.w) X.A (eval a X.env) (fun v ZT=>wpAny (model X.prog X.w) X.A (eval b X.env) (fun u ZM=>wpAny (model X.prog X.w) X.A (f v u) Q X.xe ZM) X.xe ZT) X.xe s:=by
 refine TM (ha pins s O H _ I h) fun v s1 hm=>?_;obtain⟨x,H1,I1,r1,q1⟩:=hm;refine(TM (hb pins s1 O H1 _ I1 q1) fun u s2 hm=>?_);obtain⟨y,H2,I2,r2,q2⟩:=hm;exact(hf v u s2 x y H2 I2 r1 r2 q2)
theorem DE{op:Operator}{r:R2}(ho:UU X (binaryOp op) r)(ha:PE X a ta)(hb:PE X b tb):PE X (.BinOp a op b pos) (X7 r ta tb):=by
 intro pins s O H Q I h;exact wpAny_BinOp (rN ha hb I h fun v u s2 x y H2 I2 rx ry q=>ho pins s2 O H2 x y v u Q I2 rx ry q)
theorem Nu{op:UnaryOp}{r:V->Hp->VK->Prop}(ho:UnR X (unaryOp op) r)(ha:PE X a ta):PE X (.UnaryOp op a pos) (tUn r ta):=by
 intro pins s O H Q I h;exact UnaryOp_ (TM (ha pins s O H _ I h) fun v s1 ⟨x,H1,I1,r1,q1⟩=>ho pins s1 O H1 x v Q I1 r1 q1)
theorem ώ{f:Value->Value->Sem Value}{C:Int->Int->Prop}{g:Int->Int->Int}
  (rule:∀(i j:Int) (t u:Tok) (s:Shared) (Q:OK) (E:OK),C i j->Q (.int (g i j) s.toks) {s with toks:=s.toks+1}->wpAny (model X.prog X.w) X.A (f (.int i t) (.int j u)) Q E s):
  UU X f (rI C fun i j=>.int (g i j)):=by
 intro pins s O H x y v u Q I rx ry h;obtain⟨i,j,rfl,rfl,hc,q⟩:=h;obtain⟨t,rfl⟩:=rx;obtain⟨t',rfl⟩:=ry;exact(rule i j t t' s _ _ hc ⟨.int (g i j),H,I.tok _,⟨_,rfl⟩,q⟩)
theorem zE{f:Value->Value->Sem Value}{g:Int->Int->Int}
  (rule:∀(i j:Int) (t u:Tok) (s:Shared) (Q:OK) (E:OK),Q (.int (g i j) s.toks) {s with toks:=s.toks+1}->wpAny (model X.prog X.w) X.A (f (.int i t) (.int j u)) Q E s):
  UU X f (XC fun i j=>.int (g i j)):=by
 intro pins s O H x y v u Q I rx ry h;obtain⟨i,j,rfl,rfl,q⟩:=h;obtain⟨t,rfl⟩:=rx;obtain⟨t',rfl⟩:=ry;exact(rule i j t t' s _ _ ⟨.int (g i j),H,I.tok _,⟨_,rfl⟩,q⟩)
theorem rH{f:Value->Value->Sem Value}{g:Int->Int->Bool}
  (rule:∀(i j:Int) (t u:Tok) (s:Shared) (Q:OK) (E:OK),Q (.bool (g i j)) s->wpAny (model X.prog X.w) X.A (f (.int i t) (.int j u)) Q E s):
  UU X f (XC fun i j=>.bl (g i j)):=by
 intro pins s O H x y v u Q I rx ry h;obtain⟨i,j,rfl,rfl,q⟩:=h;obtain⟨t,rfl⟩:=rx;obtain⟨t',rfl⟩:=ry;exact(rule i j t t' s _ _ ⟨.bl (g i j),H,I,rfl,q⟩)
def jf(i j:Int):Prop:=0<=j/\j<=1000000/\i.natAbs<2^64
def Ul(i j:Int):Prop:=(-(2^64)<i/\i<2^64)\/(-(2^64)<j/\j<2^64)
theorem Ul.ok{i j:Int}(h:Ul i j):IntMulOk i j:=by
 rcases h with⟨h1,h2⟩|⟨h1,h2⟩
 .exact .of_left (intBits_le_64 h1 h2)
 .exact .of_right (intBits_le_64 h1 h2)
theorem YE:UU X (binaryOp .Add) (XC fun i j=>.int (i+j)):=zE fun _ _ _ _ _ _ _ q=>add_int q
theorem Hw:UU X (binaryOp .Sub) (XC fun i j=>.int (i - j)):=zE fun _ _ _ _ _ _ _ q=>sub_int q
theorem YC:UU X (binaryOp .Mult) (rI Ul fun i j=>.int (i*j)):=ώ fun _ _ _ _ _ _ _ hc q=>mul_int q hc.ok
theorem EO:UU X (binaryOp .Mod) (rI (fun _ j=>0<j) fun i j=>.int (i%j)):=ώ fun i j _ _ _ _ _ hc q=>by
 have h1:(0:Int)<j:=hc;exact mod_int' (by omega) (by rw[Int.fmod_eq_emod_of_nonneg i (by omega)];exact q)
theorem Oj:UU X (binaryOp .Pow) (rI jf fun i j=>.int (i^j.toNat)):=ώ fun _ _ _ _ _ _ _ hc q=>pow_int_small hc.1 hc.2.1 hc.2.2 q
theorem unI{f:Value->Sem Value}{g:Int->Int}
  (rule:∀(i:Int) (t:Tok) (s:Shared) (Q:OK) (E:OK),Q (.int (g i) s.toks) {s with toks:=s.toks+1}->wpAny (model X.prog X.w) X.A (f (.int i t)) Q E s):
  UnR X f (rU fun i=>.int (g i)):=by
 intro pins s O H x v Q I rx h;obtain⟨i,rfl,q⟩:=h;obtain⟨t,rfl⟩:=rx;exact(rule i t s _ _ ⟨.int (g i),H,I.tok _,⟨_,rfl⟩,q⟩)
theorem LL:UnR X (unaryOp .USub) (rU fun i=>.int (-i)):=unI fun _ _ _ _ _ q=>neg_int q
end
section
variable {X:Cx} {a b c:Expr} {ta tb tc:TE} {pos:Pos}
theorem wH{pins:QS}{O:St}{H:Hp}{s:Shared}{Q:VK}{k k':Bool}(I:Inv X pins O H s)(q:Q (.bl k) H)(e:k=k'):EP X pins O Q (.bool k') s:=by
 subst e;exact⟨.bl k,H,I,rfl,q⟩
theorem we:UU X (compareOp .Lt) (XC fun i j=>.bl (decide (i<j))):=rH fun _ _ _ _ _ _ _ q=>lt_int q
theorem qV:UU X (compareOp .LtE) (XC fun i j=>.bl (decide (i<=j))):=rH fun _ _ _ _ _ _ _ q=>le_int q
theorem yI:UU X (compareOp .Gt) (XC fun i j=>.bl (decide (j<i))):=rH fun _ _ _ _ _ _ _ q=>gt_int q
theorem Oz:UU X (compareOp .Is) (fun x y H Q=>y=.non/\Q (.bl (decide (x=.non))) H):=by
 intro pins s O H x y v u Q I rx ry h;obtain⟨rfl,q⟩:=h;cases ry;refine(is_none_gen (wH I q ?_));cases x<;>first
  |(cases rx;rfl)
  |(obtain⟨t,rfl⟩:=rx;rfl)
theorem Mn:UU X (compareOp .IsNot) (fun x y H Q=>y=.non/\Q (.bl (!decide (x=.non))) H):=by
 intro pins s O H x y v u Q I rx ry h;obtain⟨rfl,q⟩:=h;cases ry;refine(isnot_none_gen (wH I q ?_));cases x<;>first
  |(cases rx;rfl)
  |(obtain⟨t,rfl⟩:=rx;rfl)
theorem UU.or{f:Value->Value->Sem Value}{r r':R2}(h:UU X f r)(h':UU X f r'):UU X f (fun x y H Q=>r x y H Q\/r' x y H Q):=by
 intro pins s O H x y v u Q I rx ry q;rcases q with q|q
 .exact h pins s O H x y v u Q I rx ry q
 .exact h' pins s O H x y v u Q I rx ry q
theorem iu(b:Expr)(h:op≠.In:=by decide)(h2:op≠.NotIn:=by decide):behindInMarks op b=false:=by
 have e1:(op==CmpOp.In)=false:=by cases op<;>first|rfl|exact absurd rfl h
 have e2:(op==CmpOp.NotIn)=false:=by cases op<;>first|rfl|exact absurd rfl h2
 cases b<;>simp[behindInMarks,e1,e2]
theorem LG{op:CmpOp}{r:R2}(ho:UU X (compareOp op) r)(ha:PE X a ta)(hb:PE X b tb)(hm:behindInMarks op b=false):PE X (.Compare a [op] [b] pos) (X7 r ta tb):=by
 intro pins s O H Q I h;exact wpAny_Compare1 (rN ha hb I h fun v u s2 x y H2 I2 rx ry q=>ho pins s2 O H2 x y v u Q I2 rx ry q) hm
def o7(t:TE):TT:=fun O H Q=>t O H fun x H'=>∃k,x=.bl k/\Q k H'
theorem zr{op:CmpOp}{r:R2}(ho:UU X (compareOp op) r)(ha:PE X a ta)(hb:PE X b tb)(hm:behindInMarks op b=false):PT X (.Compare a [op] [b] pos) (o7 (X7 r ta tb)):=by
 intro pins s O H Q I h;refine wpAny_isTrue_Compare1 (TM (ha pins s O H _ I h) fun v s1 ⟨x,H1,I1,r1,q1⟩=>TM (hb pins s1 O H1 _ I1 q1) fun u s2 ⟨y,H2,I2,r2,q2⟩=>
  TM (ho pins s2 O H2 x y v u _ I2 r1 r2 q2) fun c s3 ⟨z,H3,I3,r3,k,e,q3⟩=>?_) hm
 subst e;cases r3;exact Q5 ⟨H3,I3,q3⟩
def zD(r r':R2)(ta tb tc:TE):TE:=fun O H Q=>ta O H fun x H1=>tb O H1 fun y H2=>r x y H2 fun z H3=>∃k,z=.bl k/\
 (if k=true then tc O H3 fun w' H4=>r' y w' H4 Q else Q (.bl false) H3)
theorem FE{op Yf:CmpOp}{r r':R2}(ho:UU X (compareOp op) r)(Wo:UU X (compareOp Yf) r')(ha:PE X a ta)(hb:PE X b tb)(hc:PE X c tc)
  (hm:lastMarks [op,Yf] [b,c]=false:=by with_unfolding_all rfl):PT X (.Compare a [op,Yf] [b,c] pos) (o7 (zD r r' ta tb tc)):=by
 intro pins s O H Q I h;refine isTrue_chain (TM (ha pins s O H _ I h) fun v s1 ⟨x,H1,I1,r1,q1⟩=>test_link (TM (hb pins s1 O H1 _ I1 q1) fun u s2 ⟨y,H2,I2,r2,q2⟩=>
  TM (ho pins s2 O H2 x y v u _ I2 r1 r2 q2) fun d s3 ⟨z,H3,I3,r3,k,e,q3⟩=>?_)) hm
 subst e;cases r3;refine Q5 ?_;cases k with
 |false=>
  obtain⟨k',e',q'⟩:=q3;cases e';exact ite_ff ⟨H3,I3,q'⟩
 |true=>
  refine ite_tt (test_last (TM (hc pins s3 O H3 _ I3 q3) fun w' s4 ⟨z',H4,I4,r4,q4⟩=>TM (Wo pins s4 O H4 y z' u w' _ I4 r2 r4 q4) fun d' s5 hm=>?_));obtain⟨z2,H5,I5,r5,k2,e2,q5⟩:=hm;subst e2;cases r5;exact(Q5 ⟨H5,I5,q5⟩)
def ve(K:Frag)(x:V)(H:Hp)(k:Bool):Prop:=
 match x with
 | .non=>k=false
 | .bl b=>k=b
 | .int i=>k=(i !=0)
 | .str y=>y.length<=sizeLine/\k=((y.length:Int) !=0)
 | .byt y=>y.size<=sizeLine/\k=((y.size:Int) !=0)
 | .ref p=>(∃xs,T9 K H p xs/\k=!xs.isEmpty)\/(∃xs,Uo K H p xs/\k=!xs.isEmpty)\/∃kvs,H p=some (.dK kvs)/\k=!kvs.isEmpty
 |_=>False
theorem B9{κ:Type}{kvs:List (κ×V)}{vs:List (κ×Value)}(r:KV kvs vs):(!vs.isEmpty)=!kvs.isEmpty:=by
 cases r<;>rfl
theorem At{xs:List V}{its:List Value}(r:Vals xs its):(!its.toArray.isEmpty)=!xs.isEmpty:=by
 cases r<;>simp
theorem jO:(sizeLine:Nat)<2^63:=by rw[Rp];decide
theorem PX:CI X (fun x H Q=>∃k,ve X.K x H k/\Q k H):=by
 intro pins s O H x v Q I rx h;obtain⟨k,e,q⟩:=h;have hl:=jO;have hs:sizeLine=16777216:=Rp;cases x with
 |non=>
  cases rx;have e':k=false:=e;subst e';exact truthy_none ⟨H,I,q⟩
 |bl b=>
  cases rx;have e':k=b:=e;subst e';exact Q5 ⟨H,I,q⟩
 |int i=>
  obtain⟨t,rfl⟩:=rx;have e':k=(i !=0):=e;subst e';exact PySem.P.truthy_int ⟨H,I,q⟩
 |str y=>
  obtain⟨t,rfl⟩:=rx;obtain⟨hy,e'⟩:y.length<=sizeLine/\k=((y.length:Int) !=0):=e;subst e';exact PySem.P.truthy_str (by omega) ⟨H,I.tok _,q⟩
 |byt y=>
  obtain⟨t,rfl⟩:=rx;obtain⟨hy,e'⟩:y.size<=sizeLine/\k=((y.size:Int) !=0):=e;subst e';exact PySem.W.truthy_bytes (by omega) ⟨H,I.tok _,q⟩
 |ref p=>
  cases rx;have e':(∃xs,T9 X.K H p xs/\k=!xs.isEmpty)\/(∃xs,Uo X.K H p xs/\k=!xs.isEmpty)\/∃kvs,H p=some (.dK kvs)/\k=!kvs.isEmpty:=e;rcases e' with⟨xs,hx,e'⟩|⟨xs,hx,e'⟩|⟨kvs,hx,e'⟩
  .subst e';obtain⟨its,r,pl,hz⟩:=I.list hx;have hlen:=r.length;exact wpAny_truthy_list pl.isList (by simp only[Qh];omega) ⟨H,I.tok _,by rw[At r];exact q⟩
  .subst e';obtain⟨its,r,pl,hz⟩:=I.tuple hx;have hlen:=r.length;exact truthy_tuple pl (by simp only[Qh];omega) ⟨H,I.tok _,by rw[At r];exact q⟩
  .subst e';obtain⟨hz,hS,vs,r,m⟩:kvs.length<=sizeLine/\(p==sysModules)=false/\∃vs,KV kvs vs/\s.heap.DictOf (fv X.prog X.w) p vs:=I.hok p _ hx;have hlen:kvs.length=vs.length:=R4 r;exact wpAny_truthy_dict hS m (by omega) ⟨H,I.tok _,by rw[B9 r];exact q⟩
 |_=>exact(show False from e).elim
theorem Pu(ha:PE X a ta)(he:∀whole,isTrue a X.env whole=(do let v ←whole;standAt a.pos;holding [v] (truthy v))):
  PT X a (fun O H Q=>ta O H fun x H'=>∃k,ve X.K x H' k/\Q k H'):=by
 intro pins s O H Q I h;exact isTrue_plain (TM (ha pins s O H _ I h) fun v s1 ⟨x,H1,I1,r1,q1⟩=>PX pins s1 O H1 x v Q I1 r1 q1) (he _)
theorem gK{x:V}{us:List Value}(r:Vals [x] us):∃u,us=[u]/\RelV x u:=by
 cases r with
 |cons r1 r2=>cases r2;exact⟨_,rfl,r1⟩
theorem BE{x y:V}{us:List Value}(r:Vals [x,y] us):∃u w',us=[u,w']/\RelV x u/\RelV y w':=by
 cases r with
 |cons r1 r2=>
  cases r2 with
  |cons r3 r4=>cases r4;exact⟨_,_,rfl,r1,r3⟩
theorem IE(hc:X.calm=true):gb X (.builtin "max") (fun xs H Q=>∃i j,xs=[.int i,.int j]/\Q (.int (if j>i then j else i)) H):=by
 intro pins s O H xs us Q I r h;obtain⟨i,j,rfl,q⟩:=h;obtain⟨u,w',rfl,⟨t,rfl⟩,⟨t',rfl⟩⟩:=BE r;refine(max_two_ints (I.ok.hd hc) fun h' tk k=>⟨_,H,I.kept k,?_,q⟩);by_cases hj:j>i
 .rw[if_pos hj,if_pos hj];exact⟨_,rfl⟩
 .rw[if_neg hj,if_neg hj];exact⟨_,rfl⟩
theorem K2(hc:X.calm=true):gb X (.builtin "min") (fun xs H Q=>∃i j,xs=[.int i,.int j]/\Q (.int (if j<i then j else i)) H):=by
 intro pins s O H xs us Q I r h;obtain⟨i,j,rfl,q⟩:=h;obtain⟨u,w',rfl,⟨t,rfl⟩,⟨t',rfl⟩⟩:=BE r;refine(min_two_ints (I.ok.hd hc) fun h' tk k=>⟨_,H,I.kept k,?_,q⟩);by_cases hj:j<i
 .rw[if_pos hj,if_pos hj];exact⟨_,rfl⟩
 .rw[if_neg hj,if_neg hj];exact⟨_,rfl⟩
theorem F5:gb X (.type "int") (fun xs H Q=>(∃i,xs=[.int i]/\Q (.int i) H)\/∃k,xs=[.bl k]/\Q (.int (if k then 1 else 0)) H):=by
 intro pins s O H xs us Q I r h;rcases h with⟨i,rfl,q⟩|⟨k,rfl,q⟩
 .obtain⟨u,rfl,t,rfl⟩:=gK r;exact call_int_int ⟨.int i,H,I,⟨_,rfl⟩,q⟩
 .obtain⟨u,rfl,r1⟩:=gK r;cases r1;exact call_int_bool ⟨.int (if k then 1 else 0),H,I.tok _,⟨_,rfl⟩,q⟩
end
structure V4 (h:Heap) (x dx C:Addr) (mA:Str->Option Value):Prop where
 obj:h.get? x=some (PySem.W.instObj C dx)
 ns:h.Ns1 dx mA
 ne:dx≠x
def Es{h:Heap}{dx:Addr}{mA:Str->Option Value}(n:h.Ns1 dx mA):∃od,h.get? dx=some od/\∀name,PySem.W.lookIn name od=some (mA name):=by
 obtain⟨o,es,ep,ho,hd,hk,_,hm⟩:=n;refine(⟨o,ho,fun name=>?_⟩);have e:=hm name;unfold nsFind findBy at e;rw[←Array.find?_toList] at e;unfold PySem.W.lookIn;rw[hd];dsimp only;split
 .rename_i y q;rw[q] at e;exact congrArg some e
 .rename_i q;rw[q] at e;have a:es.toList.any (·.refKey)=false:=by
   rw[List.any_eq_false];intro y hy;obtain⟨z,t,hkey⟩:=hk y (Array.mem_toList_iff.mp hy);simp[DictEntry.refKey,hkey]
  have a':¬es.toList.any (·.refKey)=true:=by rw[a];exact QF
  rw[if_neg a'];exact congrArg some e
def V4.look{h:Heap}{x dx C:Addr}{mA:Str->Option Value}(I:V4 h x dx C mA):∃od,PySem.W.InstAt h x (PySem.W.instObj C dx) C (some od)/\∀name,PySem.W.lookIn name od=some (mA name):=
 let ⟨od,ho,hl⟩:=Es I.ns
 ⟨od,⟨I.obj,rfl,rfl,ho⟩,hl⟩
section
variable {prog:Program} {w:World} {A:Around} {E:OK} {s:Shared} {K:Frag} {x dx C f:Addr} {mA:Str->Option Value} {name:Str} {v:Value}
theorem NQ{expr:Bool}{Q:OK}(X:K.In s.heap)(I:V4 s.heap x dx C mA)(hg:PySem.W.plainGet K C name=true)(hh:PySem.W.hasDictIn K C=true)
  (ha:findIn K (.ref C) name=some none) (hv:mA name=some v) (Xb:PySem.W.handedIn v=true) (h:Q v {s with toks:=s.toks+1}):
  wpAny (model prog w) A (getAttr (.ref x) name expr) Q E s:=by
 obtain⟨od,Z6,hl⟩:=I.look;exact(PySem.W.get_value X Z6 (Sz hg).1 (PySem.W.findObj_own hh ha rfl (by rw[hl,hv])) Xb h)
theorem Pk{pl:Sem Bool}{Q:Value×List Value->Shared->Prop}(X:K.In s.heap)(I:V4 s.heap x dx C mA)(hg:PySem.W.plainGet K C name=true)
  (hf:findIn K (.ref C) name=some (some (.ref f))) (ht:isFn K (.ref f)=true) (hv:mA name=none) (h:Q (.ref f,[.ref x]) s):
  wpAny (model prog w) A (getMethod (.ref x) name pl) Q E s:=by
 obtain⟨od,Z6,hl⟩:=I.look;exact PySem.W.method_fn X Z6 (Sz hg).1 (Sz hg).2 hf (beq_iff_eq.mp ht) (by show(PySem.W.lookIn name od).map (·.isSome)=some false;rw[hl,hv];rfl) h
theorem Op{ns:List Str}{Q:Unit->Shared->Prop}(X:K.In s.heap)(I:V4 s.heap x dx C mA)
  (hs:findIn K (.ref C) "__setattr__"=some (some (.builtin "object.__setattr__"))) (hp:PySem.W.plainOver K C=true) (ht:PySem.W.takerIn K C name=some none) (hh:PySem.W.hasDictIn K C=true)
  (hw:PySem.Within mA ns) (hsz:ns.length<=sizeLine)
  (h:∀h',V4 h' x dx C (fun y=>if y=name then some v else mA y)->Heap.SameBut dx s.heap h'->Q () {s with heap:=h',toks:=s.toks+2}):
  wpAny (model prog w) A (setAttr (.ref x) name v) Q E s:=by
 obtain⟨od,Z6,hl⟩:=I.look;refine(PySem.W.set_plain X Z6 hs (PySem.W.osa_open (s:={s with toks:=s.toks+1}) (r:=none) X Z6 hp ht fun b=>?_));obtain⟨cd,hc,_u⟩:=PySem.W.any_some hh;have hx:s.heap.get? x=some ⟨.ref C,some dx,.plain,#[]⟩:=I.obj;refine(P2 (P6 (P2 (P2 (wpAny_loadPart hx (P2 (PySem.W.Looks.here (s:={s with toks:=s.toks+1}) (PySem.W.looks_clsIn X hc) ?_)))))));rw[_u];refine P6 (a:=some dx) (P2 (P6 (P2 ?_)));refine wpAny_nsSet1 (s:={s with toks:=s.toks+1}) I.ns fun h' Ϝ Tj=>?_;obtain⟨oD,esD,epD,hoD,hdD,hcD⟩:=Ϝ.count (PySem.Within.cons name v hw);refine P2 (wpAny_lookBehind hoD (by rw[hdD];exact pastItsLine_dict (QL hcD (by rw[Qj];omega))) ?_);exact P6 (h _ ⟨(Tj.2 _ (Ne.symm I.ne)).trans I.obj,Ϝ,I.ne⟩ Tj)
theorem I0(X:K.In s.heap)(hm:PySem.W.makesIn K C=true)
  (hi:findIn K (.ref C) "__init__"=some (some (.ref f))) (hf:PySem.W.typeIn K (.ref f)=some (.type "function"))
  (h:codeAny (model prog w) (A.under (.builtin "type.__call__" ⟨.ref C::vs,kw⟩)) (.call (.ref f) ⟨.ref (s.heap.objs.size+1)::vs,kw⟩) (PySem.W.InitBack (s.heap.objs.size+1) R)
   {s with heap:=(s.heap.push PySem.W.emptyDict).push (PySem.W.instObj C s.heap.objs.size)}):
  codeAny (model prog w) A (.call (.ref C) ⟨vs,kw⟩) R s:=by
 obtain⟨hh,g,d,t,os⟩:=s;exact(PySem.W.make_core (PySem.W.makes_of X hm) (PySem.W.looks_findIn X hi) (fun self=>PySem.W.bind_fn X self hf) (.inl rfl) h)
end
def fc(f:Str)(v:V):List (Str×V)->List (Str×V)
 | []=>[(f,v)]
 |(g,x)::r=>if g=f then(g,v)::r else(g,x)::fc f v r
theorem xy(f g:Str)(v:V):∀fs:List (Str×V),(fc f v fs).lookup g=if g=f then some v else fs.lookup g
 | []=>by
  show List.lookup g [(f,v)]=_;by_cases h:g=f
  .have hb:(g==f)=true:=beq_iff_eq.mpr h;simp only[List.lookup,hb,if_pos h]
  .have hb:(g==f)=false:=beq_eq_false_iff_ne.mpr h;simp only[List.lookup,hb,if_neg h]
 |(k,x)::r=>by
  have ih:=xy f g v r;rw[show fc f v ((k,x)::r)=(if k=f then(k,v)::r else(k,x)::fc f v r) from rfl];by_cases hk:k=f
  .rw[if_pos hk];by_cases h:g=k
   .have hb:(g==k)=true:=beq_iff_eq.mpr h;simp only[List.lookup,hb,if_pos (h.trans hk)]
   .have hb:(g==k)=false:=beq_eq_false_iff_ne.mpr h;simp only[List.lookup,hb,if_neg (fun e:g=f=>h (e.trans hk.symm))]
  .rw[if_neg hk];by_cases h:g=k
   .have hb:(g==k)=true:=beq_iff_eq.mpr h;simp only[List.lookup,hb,if_neg (fun e:g=f=>hk (h.symm.trans e))]
   .have hb:(g==k)=false:=beq_eq_false_iff_ne.mpr h;simp only[List.lookup,hb];exact ih
theorem qR(f:Str)(v:V):∀fs:List (Str×V),f∈(fc f v fs).map (·.1)/\∀g,g∈fs.map (·.1)->g∈(fc f v fs).map (·.1)
 | []=>⟨by simp[fc],fun g h=>by simp at h⟩
 |(k,x)::r=>by
  obtain⟨i1,i2⟩:=qR f v r;rw[show fc f v ((k,x)::r)=(if k=f then(k,v)::r else(k,x)::fc f v r) from rfl];by_cases hk:k=f
  .rw[if_pos hk];subst hk;exact⟨by simp,fun g h=>by simpa using h⟩
  .rw[if_neg hk];refine⟨?_,fun g h=>?_⟩
   .rw[Qc];exact QO _ i1
   .rw[Qc] at h⊢;rcases Qz.mp h with e|e
    .exact Qz.mpr (.inl e)
    .exact QO _ (i2 g e)
theorem zm(f:Str)(v:V):∀fs:List (Str×V),(fc f v fs).length<=fs.length+1
 | []=>by simp[fc]
 |(k,x)::r=>by
  have ih:=zm f v r;rw[show fc f v ((k,x)::r)=(if k=f then(k,v)::r else(k,x)::fc f v r) from rfl];by_cases hk:k=f
  .rw[if_pos hk,Qj,Qj];omega
  .rw[if_neg hk,Qj,Qj];omega
def Ub.some_of{v:V}{o:Option Value}(r:Ub (some v) o):∃u,o=some u/\RelV v u:=by
 cases o with
 |none=>exact(show False from r).elim
 |some u=>exact⟨u,rfl,r⟩
def Ub.none_of{o:Option Value}(r:Ub none o):o=none:=by
 cases o with
 |none=>rfl
 |some u=>exact(show False from r).elim
def Kz{v:V}{u:Value}(r:RelV v u):PySem.W.handedIn u=true:=by
 cases v with
 |non=>cases (show u=Value.none from r);rfl
 |bl b=>cases (show u=Value.bool b from r);rfl
 |int i=>obtain⟨t,e⟩:=(show ∃t,u=Value.int i t from r);cases e;rfl
 |str x=>obtain⟨t,e⟩:=(show ∃t,u=Value.str x t from r);cases e;rfl
 |byt b=>obtain⟨t,e⟩:=(show ∃t,u=Value.bytes b t from r);cases e;rfl
 |flt b=>obtain⟨t,e⟩:=(show ∃t,u=Value.float b t from r);cases e;rfl
 |ref a=>cases (show u=Value.ref a from r);rfl
 |ty n=>cases (show u=Value.type n from r);rfl
section
variable {P:Program} {w:World} {H:Hp} {h:Heap} {a C dx:Addr} {fs:List (Str×V)}
theorem uF(hok:Ua P w H h)(e:H a=some (.ins C dx fs)):∃mA,V4 h a dx C mA/\(∀f,Ub (fs.lookup f) (mA f))/\PySem.Within mA (fs.map (·.1))/\fs.length<=1000/\H dx=some (.own a):=by
 obtain⟨d,z,ne,ob,mA,n,r,q⟩:=(show Tf P w H h a (.ins C dx fs) from hok a _ e)
 exact(⟨mA,⟨ob,n,ne⟩,r,q,z,d⟩)
end
structure WO (K:Frag) (C:Addr):Prop where
 pg:PySem.W.plainGet K C Str.empty=true
 hd:PySem.W.hasDictIn K C=true
 po:PySem.W.plainOver K C=true
 sa:findIn K (.ref C) "__setattr__"=some (some (.builtin "object.__setattr__"))
def WO.get{K:Frag}{C:Addr}(c:WO K C)(f:Str):PySem.W.plainGet K C f=true:=c.pg
def Uj(K:Frag)(C:Addr)(f:Str):Prop:=findIn K (.ref C) f=some none
def Uj.taker{K:Frag}{C:Addr}{f:Str}(n:Uj K C f):PySem.W.takerIn K C f=some none:=by
 unfold PySem.W.takerIn;rw[show findIn K (.ref C) f=some none from n];rfl
structure Meth (K:Frag) (C:Addr) (m:Str) (f:Addr):Prop where
 at_:findIn K (.ref C) m=some (some (.ref f))
 fn:isFn K (.ref f)=true
 kp:keepIn K (.ref f)=true
section
variable {X:Cx} {pins:QS} {O:St} {H:Hp} {s:Shared} {a C dx:Addr} {fs:List (Str×V)} {f:Str} {v:V} {A:Around} {E:OK}
theorem Lh{b:Bool}{Q:OK}(I:Inv X pins O H s)(e:H a=some (.ins C dx fs))(c:WO X.K C)(n:Uj X.K C f)(l:fs.lookup f=some v)
  (h:∀u s',Inv X pins O H s'->RelV v u->Q u s'):wpAny (model X.prog X.w) A (getAttr (.ref a) f b) Q E s:=by
 obtain⟨mA,Z7,r,_,_,_⟩:=uF I.hok e;obtain⟨u,hu,ru⟩:=Ub.some_of (v:=v) (o:=mA f) (by rw[←l];exact r f);exact(NQ I.kIn Z7 (c.get f) c.hd n hu (Kz ru) (h u _ (I.tok _) ru))
theorem w8{m:Str}{g:Addr}{pl:Sem Bool}{Q:Value×List Value->Shared->Prop}(I:Inv X pins O H s)(e:H a=some (.ins C dx fs))(c:WO X.K C)(k:Meth X.K C m g)(l:fs.lookup m=none)
  (h:Q (.ref g,[.ref a]) s):wpAny (model X.prog X.w) A (getMethod (.ref a) m pl) Q E s:=by
 obtain⟨mA,Z7,r,_,_,_⟩:=uF I.hok e;have hn:mA m=none:=Ub.none_of (by rw[←l];exact r m);exact(Pk I.kIn Z7 (c.get m) k.at_ k.fn hn h)
theorem Ha{y:V}{u:Value}{Q:Unit->Shared->Prop}(I:Inv X pins O H s)(e:H a=some (.ins C dx fs))(c:WO X.K C)(n:Uj X.K C f)(hl:fs.length<1000)(ry:RelV y u)
  (h:∀s',Inv X pins O (upd H a (.ins C dx (fc f y fs))) s'->Q () s'):wpAny (model X.prog X.w) A (setAttr (.ref a) f u) Q E s:=by
 obtain⟨mA,Z7,r,wi,_,ho⟩:=uF I.hok e;have hz:(fs.map (·.1)).length<=sizeLine:=by rw[Qb,Rp];omega
 refine(Op I.kIn Z7 c.sa c.po n.taker c.hd wi hz fun h' O' sb=>h _ ?_);have hd:∃o,h'.get? dx=some o:=let ⟨o,_,_,e',_⟩:=O'.ns;⟨o,e'⟩
 refine I.write (x:=a) (e:=dx) (by rw[e];exact True.intro) (.inr ho) (fun b q hb z=>(sb.2 b hb).trans z) hd ?_;refine⟨by rw[dg Z7.ne];exact ho,?_,Z7.ne,O'.obj,_,O'.ns,fun g=>?_,fun g hg=>?_⟩
 .have:=zm f y fs;omega
 .show Ub ((fc f y fs).lookup g) (if g=f then some u else mA g);rw[xy];by_cases q:g=f
  .rw[if_pos q,if_pos q];exact ry
  .rw[if_neg q,if_neg q];exact r g
 .by_cases q:g=f
  .rw[q];exact(qR f y fs).1
  .refine(qR f y fs).2 g (wi g fun z=>hg ?_);show(if g=f then some u else mA g)=none;rw[if_neg q];exact z
theorem Inv.made(I:Inv X pins O H s):Inv X pins O (upd (upd H s.heap.objs.size (.own (s.heap.objs.size+1))) (s.heap.objs.size+1) (.ins C s.heap.objs.size []))
  {s with heap:=(s.heap.push PySem.W.emptyDict).push (PySem.W.instObj C s.heap.objs.size)}:=by
 have e1:(s.heap.push PySem.W.emptyDict).get? s.heap.objs.size=some PySem.W.emptyDict:=Qd s.heap rfl;have e2:((s.heap.push PySem.W.emptyDict).push (PySem.W.instObj C s.heap.objs.size)).get? (s.heap.objs.size+1)=some (PySem.W.instObj C s.heap.objs.size):=by
  have:=Qd (s.heap.push PySem.W.emptyDict) (o:=PySem.W.instObj C s.heap.objs.size) rfl;rwa[Q2] at this
 have e3:(s.heap.push PySem.W.emptyDict).Ns s.heap.objs.size (fun _=>none):=⟨PySem.W.emptyDict,#[],_,e1,rfl,(fun e he=>absurd he (by simp)),fun _=>rfl⟩
 have I1:=I.laid (a:=s.heap.objs.size) (o:=.own (s.heap.objs.size+1)) (h':=s.heap.push PySem.W.emptyDict) (t':=s.toks) (fun b u q=>P4 _ q) (P3 _) ⟨_,e1⟩;refine I1.laid (a:=s.heap.objs.size+1) (o:=.ins C s.heap.objs.size []) (t':=s.toks) (fun b u q=>P4 _ q) (Nat.le_of_eq (Q2 _ _)) ?_;have ne:s.heap.objs.size≠s.heap.objs.size+1:=Qk (RZ _);refine⟨by rw[dg ne,eC],QZ _,ne,e2,fun _=>none,(Heap.Ns1.of_empty e3).at fun o q=>P4 _ q,fun _=>True.intro,fun y hy=>absurd rfl hy⟩
theorem C5{prog:Program}{w:World}{env:Env}{e:Expr}{f:Str}{pos:Pos}{s:Shared}{Q:OK}(hb:attributeBase e f env (eval e env)=eval e env)
  (h:wpAny (model prog w) A (eval e env) (fun o ZT=>wpAny (model prog w) A (getAttr o f true) Q E ZT) E s):wpAny (model prog w) A (eval (.Attribute e f pos) env) Q E s:=
 Attribute_any_ h (by rw[arm_eval_Attribute,hb])
end
def J9(K:Frag)(ta:TE)(f:Str):TE:=fun O H Q=>ta O H fun x H1=>∃a C dx fs v,x=.ref a/\H1 a=some (.ins C dx fs)/\WO K C/\Uj K C f/\fs.lookup f=some v/\Q v H1
def N1(K:Frag)(ta tv:TE)(f:Str):TS:=fun D O H=>tv O H fun y H1=>ta O H1 fun x H2=>∃a C dx fs,x=.ref a/\H2 a=some (.ins C dx fs)/\WO K C/\Uj K C f/\fs.length<1000/\
 D.nx O (upd H2 a (.ins C dx (fc f y fs)))
section
variable {X:Cx} {o e value:Expr} {f:Str} {pos pos':Pos} {ta tv:TE}
theorem Gk(he:PE X e ta)(hb:attributeBase e f X.env (eval e X.env)=eval e X.env):PE X (.Attribute e f pos) (J9 X.K ta f):=by
 intro pins s O H Q I h;refine C5 hb (TM (he pins s O H _ I h) fun u s1 hm=>?_);obtain⟨x,H1,I1,rx,a,C,dx,fs,v,ex,ea,c,n,l,q⟩:=hm;subst ex;obtain rfl:u=Value.ref a:=rx;exact Lh I1 ea c n l fun u' s2 I2 ru=>⟨v,H1,I2,ru,q⟩
theorem Mp(ha:PE X o ta)(hv:PE X value tv)(hs:swapsWith value (some (.Attribute o f pos')) pos.line X.env=pure false):PS X (.Assign [.Attribute o f pos'] value pos) (N1 X.K ta tv f):=by
 intro pins s O H D I h;refine plainObj_wpAny_Assign_Attribute (TM (hv pins s O H _ I h) fun u s1 ⟨y,H1,I1,ry,q⟩=>TM (ha pins s1 O H1 _ I1 q) fun ov s2 hm=>?_) hs;obtain⟨x,H2,I2,rx,a,C,dx,fs,ex,ea,c,n,l,q2⟩:=hm;subst ex;obtain rfl:ov=Value.ref a:=rx;exact Ha I2 ea c n l ry fun s3 I3=>⟨O,_,I3,q2⟩
theorem methcall_of{pl:Sem Bool}{m:Str}{apos:Pos}{args:List Expr}{pins:QS}{s:Shared}{O:St}{H:Hp}{Q:OK}{te:TE}(he:PE X e te)(I:Inv X pins O H s)
  (h:te O H fun x H1=>∃a C dx fs g,x=.ref a/\H1 a=some (.ins C dx fs)/\WO X.K C/\Meth X.K C m g/\fs.lookup m=none/\
   ∀s1,Inv X pins O H1 s1->wpAny (model X.prog X.w) X.A (callWith pos (.ref g) [.ref a] (backTo pos (starEach args X.env)) (backToKw pos (keywordEach [] X.env))) Q X.xe s1)
  (ht:eval (.Call (.Attribute e m apos) args [] pos) X.env=(do
   let ov ←eval e X.env
   standAt apos.atName
   let (f,first) ←holding [ov] (getMethod ov m pl)
   callWith pos f first (backTo pos (starEach args X.env)) (backToKw pos (keywordEach [] X.env)))):
  wpAny (model X.prog X.w) X.A (eval (.Call (.Attribute e m apos) args [] pos) X.env) Q X.xe s:=by
 refine PySem.W.methodCall_KW (pl:=pl) (TM (he pins s O H _ I h) fun u s1 hm=>?_) ht;obtain⟨x,H1,I1,rx,a,C,dx,fs,g,ex,ea,c,k,l,q⟩:=hm;subst ex;obtain rfl:u=Value.ref a:=rx;exact w8 I1 ea c k l (q s1 I1)
end
structure TU (k:Nat) (A:Around):Prop where
 hd:A.handled=none
 dp:A.depth+3*k+5<recursionLimit
 un:A.units+16*k+200<cLine
 gd:A.guards=some []
def Py{A:Around}{C:Addr}{us:List Value}{kw:List (Str×Value)}:(A.under (.builtin "type.__call__" ⟨.ref C::us,kw⟩)).guards=A.guards:=by
 first|rfl|simp[Around.under,Code.isGuard,guardIds]
def TU.mono{j k:Nat}{A:Around}(r:TU k A)(h:j<=k):TU j A:=⟨r.hd,by have:=r.dp;omega,by have:=r.un;omega,r.gd⟩
def TU.deeper{k:Nat}{A:Around}(r:TU (k+1) A)(env:Env):TU k (A.deeper env):=
 ⟨r.hd,by have:=r.dp;show A.depth+1+3*k+5<_;omega,by have:=r.un;show A.units+3+16*k+200<_;omega,r.gd⟩
def Et{A:Around}{C:Addr}{us:List Value}{kw:List (Str×Value)}:(A.under (.builtin "type.__call__" ⟨.ref C::us,kw⟩)).depth=A.depth+1:=by
 first|rfl|simp[Around.under,Code.weight,Code.isCreation,Code.isGuard,Code.isCaller,Code.frames,Code.isFrame,guardIds]
def GS{A:Around}{C:Addr}{us:List Value}{kw:List (Str×Value)}:(A.under (.builtin "type.__call__" ⟨.ref C::us,kw⟩)).units=A.units+1:=by
 first|rfl|simp[Around.under,Code.cUnits,Code.frames,Code.isFrame]
def TU.make{k:Nat}{A:Around}(r:TU (k+1) A)(C:Addr)(us:List Value)(kw:List (Str×Value)):TU k (A.under (.builtin "type.__call__" ⟨.ref C::us,kw⟩)):=
 ⟨r.hd,by have:=r.dp;rw[Et];omega,by have:=r.un;rw[GS];omega,by rw[Py];exact r.gd⟩
def TU.depth{k:Nat}{A:Around}(r:TU k A):A.depth<recursionLimit:=by have:=r.dp;omega
def TU.units{k:Nat}{A:Around}(r:TU k A):A.units+64<cLine:=by have:=r.un;omega
def h8:TA:=fun _ H Q=>Q [] H
def gq(ta:TE)(tr:TA):TA:=fun O H Q=>ta O H fun x H1=>tr O H1 fun xs H2=>Q (x::xs) H2
section
variable {X:Cx} {e:Expr} {es:List Expr} {te:TE} {t:TA} {pos:Pos}
theorem eZ:PA X [] h8:=fun _ _ _ _ H Q I h=>Calls.spliced_nil ⟨[],H,I,.nil,h⟩
theorem eJ(ha:PE X e te)(hr:PA X es t)(hs:starEach (e::es) X.env=(false,eval e X.env)::starEach es X.env:=by rfl):PA X (e::es) (gq te t):=by
 intro pos pins s O H Q I h;rw[hs];show wpAny _ _ (spliced ((false,eval e X.env)::backTo pos (starEach es X.env))) _ _ s;refine Calls.spliced_cons (TM (ha pins s O H _ I h) fun u s1 hm=>?_);obtain⟨x,H1,I1,r1,q1⟩:=hm;exact(TM (hr pos pins s1 O H1 _ I1 q1) fun us s2 ⟨xs,H2,I2,r2,q2⟩=>⟨x::xs,H2,I2,.cons r1 r2,q2⟩)
def DV(t:TA):TE:=fun O H Q=>t O H fun xs H1=>xs.length<=sizeLine/\∀p,H1 p=none->Q (.ref p) (upd H1 p (.tup xs))
def Fz(t:TA):TE:=fun O H Q=>t O H fun xs H1=>xs.length<=sizeLine/\∀p,H1 p=none->Q (.ref p) (upd H1 p (.lst xs))
theorem Lw{x1}(h:PA X es t):PE X (.Tuple es x1 pos) (DV t):=by
 intro pins s O H Q I hq;refine wpAny_Tuple_spliced (TM (h pos pins s O H _ I hq) fun us s1 ⟨xs,H1,I1,r,z,q⟩=>⟨by rw[←r.length];exact z,?_⟩);have hf:H1 s1.heap.objs.size=none:=I1.hok.fresh (P3 _);refine⟨.ref s1.heap.objs.size,upd H1 s1.heap.objs.size (.tup xs),I1.laid (t':=s1.toks) (fun b u e=>P4 _ e) (P3 _) ?_,rfl,q _ hf⟩;exact⟨z,us,r,⟨_,Qd _ rfl,rfl,_,rfl⟩⟩
theorem AI(h:PA X es t):PE X (.List es pos) (Fz t):=by
 intro pins s O H Q I hq;refine wpAny_List_spliced (TM (h pos pins s O H _ I hq) fun us s1 ⟨xs,H1,I1,r,z,q⟩=>⟨by rw[←r.length];exact z,?_⟩);have hf:H1 s1.heap.objs.size=none:=I1.hok.fresh (P3 _);refine⟨.ref s1.heap.objs.size,upd H1 s1.heap.objs.size (.lst xs),I1.laid (t':=s1.toks) (fun b u e=>P4 _ e) (P3 _) ?_,rfl,q _ hf⟩;exact⟨z,us,0,r,Qd _ rfl⟩
end
abbrev Sp:=List V->Hp->VK->XK->Prop
abbrev V7:=List Env->Hp->Shared->XK->Value->Shared->Prop
structure V6 (P:Program) (w:World) (K:Frag) (mg:Str->Option Value) (base:Heap) (A:Around) (outer:List Env) (s:Shared) (H:Hp):Prop where
 frames:A.frames=some outer
 mod:Mod K mg base
 bs:∀b o,base.get? b=some o->s.heap.get? b=some o/\H b=none
 bsz:base.objs.size<=s.heap.objs.size
 funs:s.heap.FunFrames base outer
 frf:∀b∈To outer,H b=none
 hok:Ua P w H s.heap
 bare:AllBare s.gens
def CE(outer:List Env)(P:Program)(w:World)(H:Hp)(s:Shared)(Q:VK)(u:Value)(s':Shared):Prop:=
 ∃v H',s'.os=s.os/\AllBare s'.gens/\Un (To outer) [] H H' s.heap s'.heap/\Ua P w H' s'.heap/\RelV v u/\Q v H'
def CR(CX:V7)(outer:List Env)(P:Program)(w:World)(H:Hp)(s:Shared)(Q:VK)(E:XK)(r:Result)(s':Shared):Prop:=
 match r with
 | .ok (.ret u)=>CE outer P w H s Q u s'
 | .ok _=>False
 | .error e=>CX outer H s E e s'
structure TJ (P:Program) (w:World) (K:Frag) (mg:Str->Option Value) (base:Heap) (CX:V7) (k:Nat) (f:Addr) (fd:FuncData) (ps:List Str) (sp:Sp):Prop where
 len:∀vs H Q E,sp vs H Q E->vs.length=ps.length
 run:∀(A:Around) (outer:List Env) (s:Shared) (H:Hp) (args:Args) (us:List Value) (vs:List V) (Q:VK) (E:XK),TU k A->V6 P w K mg base A outer s H->BindsTo s fd args (ps.zip us)->Vals vs us->sp vs H Q E->
  codeAny (model P w) A (.call (.ref f) args) (CR CX outer P w H s Q E) s
theorem TJ.imp{P:Program}{w:World}{K:Frag}{mg:Str->Option Value}{base:Heap}{CX:V7}{k:Nat}{f:Addr}{fd:FuncData}{ps:List Str}{sp sp':Sp}(F:TJ P w K mg base CX k f fd ps sp)
  (h:∀vs H Q E,sp' vs H Q E->sp vs H Q E):TJ P w K mg base CX k f fd ps sp':=
 ⟨fun vs H Q E q=>F.len vs H Q E (h _ _ _ _ q),fun A outer s H args us vs Q E hr he hb hv hs=>F.run A outer s H args us vs Q E hr he hb hv (h _ _ _ _ hs)⟩
theorem V6.make{P:Program}{w:World}{K:Frag}{mg:Str->Option Value}{base:Heap}{A:Around}{outer:List Env}{s:Shared}{H:Hp}(e:V6 P w K mg base A outer s H)(C:Addr)(us:List Value)(kw:List (Str×Value)):
  V6 P w K mg base (A.under (.builtin "type.__call__" ⟨.ref C::us,kw⟩)) outer s H:=⟨by first|exact e.frames|(simpa[Around.under,Code.envs,Code.isFrame,pushEnvs] using e.frames),e.mod,e.bs,e.bsz,e.funs,e.frf,e.hok,e.bare⟩
section
variable {X:Cx} {pins:QS} {O:St} {H:Hp} {s s':Shared}
theorem Inv.env0(I:Inv X pins O H s):V6 X.prog X.w X.K X.mg X.base X.A X.stack s H:=
 ⟨I.ok.frames,I.ok.mod,I.bs,QL I.ok.bsz I.sz,I.stack,I.stkFree,I.hok,I.bare⟩
theorem Inv.after{Q:VK}{u:Value}(I:Inv X pins O H s)(h:CE X.stack X.prog X.w H s Q u s'):EP X pins O Q u s':=by
 obtain⟨v,H',os,bare,un,hok,r,q⟩:=h;obtain⟨hh,g,d,t,os'⟩:=s';obtain rfl:os'=s.os:=os;exact⟨v,H',I.call (h':=hh) (g':=g) (d':=d) (t':=t) (ch:=[]) un hok bare (fun b z=>absurd z (by simp)),r,q⟩
end
def BR(sp:Sp)(Va:List V)(E:XK)(t:TA):TE:=fun O H Q=>t O H fun vs H1=>sp (vs++Va) H1 Q E
def z7(C:Addr)(m:Str)(sp:Sp)(Va:List V)(E:XK)(ta:TE)(t:TA):TE:=fun O H Q=>ta O H fun x H1=>∃a dx fs,x=.ref a/\H1 a=some (.ins C dx fs)/\fs.lookup m=none/\
 t O H1 fun vs H2=>sp (x::(vs++Va)) H2 Q E
def xl(C:Addr)(sp:Sp)(Va:List V)(E:XK)(t:TA):TE:=fun O H Q=>t O H fun vs H1=>∀x dx,H1 x=none->H1 dx=none->dx≠x->
 sp (.ref x::(vs++Va)) (upd (upd H1 dx (.own x)) x (.ins C dx [])) (fun v H2=>v=.non/\Q (.ref x) H2) E
def Binds(K:Frag)(fd:FuncData)(ps:List Str)(ds:List Value):Prop:=
 ∀(s:Shared) (us:List Value),K.In s.heap->(us++ds).length=ps.length->BindsTo s fd ⟨us,[]⟩ (ps.zip (us++ds))
def Binds.all{K:Frag}{fd:FuncData}{ps:List Str}(h:∀us:List Value,us.length=ps.length->bindArgs fd ⟨us,[]⟩=pure (ps.zip us)):Binds K fd ps []:=fun s us _ hl=>by
 rw[QU] at hl⊢;exact .of_eq (h us hl)
def jT(CX:V7)(X:Cx)(E:XK):Prop:=∀(pins:QS) (O:St) (H:Hp) (s:Shared) (e:Value) (s':Shared),Inv X pins O H s->CX X.stack H s E e s'->X.xe e s'
section
variable {X:Cx} {CX:V7} {k:Nat} {f C:Addr} {fd:FuncData} {ps:List Str} {sp:Sp} {Va:List V} {ds:List Value} {E:XK} {x m:Str} {p pos apos:Pos} {e o:Expr} {es:List Expr} {ta:TE} {t:TA}
theorem z8{pins:QS}{O:St}{H:Hp}{s:Shared}{Q:VK}{us:List Value}{vs:List V}(F:TJ X.prog X.w X.K X.mg X.base CX k f fd ps sp)(hr:TU k X.A)(hb:Binds X.K fd ps ds)(hd:Vals Va ds)(hx:jT CX X E)
  (I:Inv X pins O H s) (r:Vals vs us) (h:sp (vs++Va) H Q E):wpAny (model X.prog X.w) X.A (call (.ref f) us) (EP X pins O Q) X.xe s:=by
 have r2:Vals (vs++Va) (us++ds):=r.append hd;have hl:(us++ds).length=ps.length:=by rw[←r2.length];exact F.len _ _ _ _ h
 refine Td (R0 (F.run X.A X.stack s H ⟨us,[]⟩ (us++ds) (vs++Va) Q E hr I.env0 (hb s us I.kIn hl) r2 h) fun r s' hq=>?_);cases r with
 |error e=>exact hx pins O H s e s' I hq
 |ok fl=>
  cases fl with
  |ret u=>exact I.after hq
  |next=>exact False.elim hq
  |brk=>exact False.elim hq
  |cont=>exact False.elim hq
theorem O4(F:TJ X.prog X.w X.K X.mg X.base CX k f fd ps sp)(hr:TU k X.A)(hg:Gl X x)(hm:X.mg x=some (.ref f))(hk:keepIn X.K (.ref f)=true)(hb:Binds X.K fd ps ds)(hd:Vals Va ds)(hx:jT CX X E)
  (ha:PA X (e::es) t) (VX:(x==("__debug__":Str))=false:=by decide) (he:starEach (e::es) X.env=(false,eval e X.env)::starEach es X.env:=by rfl) (hpl:(backTo pos (starEach es X.env)).any (·.1)=false:=by rfl):
  PE X (.Call (.Name x p) (e::es) [] pos) (BR sp Va E t):=by
 intro pins s O H Q I h;refine Rz (mU I hg hm ?_ VX);refine Sa (h₀:=X.base) I.ok.mod.kin hk (TM (ha pos pins s O H _ I h) fun us s1 ⟨vs,H1,I1,r,q⟩=>⟨I1.kIn,?_⟩) he hpl;exact z8 F hr hb hd hx I1 r q
theorem MO(he:PE X o ta)(c:WO X.K C)(hm:Meth X.K C m f)(F:TJ X.prog X.w X.K X.mg X.base CX k f fd ps sp)(hr:TU k X.A)(hb:Binds X.K fd ps ds)(hd:Vals Va ds)(hx:jT CX X E)(ha:PA X (e::es) t)
  (hst:starEach (e::es) X.env=(false,eval e X.env)::starEach es X.env:=by rfl) (hpl:(backTo pos (starEach es X.env)).any (·.1)=false:=by rfl)
  (ht:eval (.Call (.Attribute o m apos) (e::es) [] pos) X.env=(do
   let ov ←eval o X.env
   standAt apos.atName
   let (f,first) ←holding [ov] (getMethod ov m pl)
   callWith pos f first (backTo pos (starEach (e::es) X.env)) (backToKw pos (keywordEach [] X.env))):=by rfl):
  PE X (.Call (.Attribute o m apos) (e::es) [] pos) (z7 C m sp Va E ta t):=by
 intro pins s O H Q I h;refine PySem.W.methodCall_KW (pl:=pl) (TM (he pins s O H _ I h) fun u s1 hm=>?_) ht;obtain⟨x,H1,I1,rx,a,dx,fs,ex,ea,l,q⟩:=hm;subst ex;obtain rfl:u=Value.ref a:=rx;refine w8 I1 ea c hm l ?_;refine Sa (first:=[.ref a]) (h₀:=X.base) I.ok.mod.kin hm.kp (TM (ha pos pins s1 O H1 _ I1 q) fun us s2 ⟨vs,H2,I2,r,q2⟩=>⟨I2.kIn,?_⟩) hst hpl;exact z8 (us:=.ref a::us) (vs:=.ref a::vs) F hr hb hd hx I2 (.cons rfl r) q2
structure Mk (K:Frag) (C f:Addr):Prop where
 makes:PySem.W.makesIn K C=true
 init:findIn K (.ref C) "__init__"=some (some (.ref f))
 fn:isFn K (.ref f)=true
 kp:keepIn K (.ref C)=true
theorem DT{pins:QS}{O:St}{H:Hp}{s:Shared}{Q:VK}{us:List Value}{vs:List V}(M:Mk X.K C f)(F:TJ X.prog X.w X.K X.mg X.base CX k f fd ps sp)(hr:TU (k+1) X.A)(hb:Binds X.K fd ps ds)(hd:Vals Va ds)
  (hx:jT CX X E) (I:Inv X pins O H s) (r:Vals vs us)
  (h:∀x dx,H x=none->H dx=none->dx≠x->sp (.ref x::(vs++Va)) (upd (upd H dx (.own x)) x (.ins C dx [])) (fun v H2=>v=.non/\Q (.ref x) H2) E):
  wpAny (model X.prog X.w) X.A (call (.ref C) us) (EP X pins O Q) X.xe s:=by
 have hq:=h (s.heap.objs.size+1) s.heap.objs.size (I.hok.fresh (Nat.le_succ _)) (I.hok.fresh (P3 _)) (Qk (RZ _));have I2:=Inv.made (C:=C) I;have r2:Vals (V.ref (s.heap.objs.size+1)::(vs++Va)) (Value.ref (s.heap.objs.size+1)::(us++ds)):=.cons rfl (r.append hd);have hl:(Value.ref (s.heap.objs.size+1)::us++ds).length=ps.length:=by
  have e:=r2.length;rw[F.len _ _ _ _ hq] at e;exact e.symm
 refine Td (I0 (f:=f) I.kIn M.makes M.init (beq_iff_eq.mp M.fn) (R0 (F.run _ X.stack _ _ ⟨Value.ref (s.heap.objs.size+1)::us,[]⟩ (Value.ref (s.heap.objs.size+1)::(us++ds)) _ _ E (hr.make C us [])
  (I2.env0.make C us []) (hb _ (Value.ref (s.heap.objs.size+1)::us) I2.kIn hl) r2 hq) fun r s' ξ=>?_))
 cases r with
 |error e=>exact hx pins O _ _ e s' I2 ξ
 |ok fl=>
  cases fl with
  |ret u=>
   obtain⟨v,H',I3,rv,ev,q3⟩:=I2.after ξ;subst ev;exact⟨rv,⟨V.ref (s.heap.objs.size+1),H',I3,rfl,q3⟩⟩
  |next=>exact False.elim ξ
  |brk=>exact False.elim ξ
  |cont=>exact False.elim ξ
theorem EG(M:Mk X.K C f)(F:TJ X.prog X.w X.K X.mg X.base CX k f fd ps sp)(hr:TU (k+1) X.A)(hg:Gl X x)(hm:X.mg x=some (.ref C))(hb:Binds X.K fd ps ds)(hd:Vals Va ds)(hx:jT CX X E)
  (ha:PA X (e::es) t) (VX:(x==("__debug__":Str))=false:=by decide) (he:starEach (e::es) X.env=(false,eval e X.env)::starEach es X.env:=by rfl) (hpl:(backTo pos (starEach es X.env)).any (·.1)=false:=by rfl):
  PE X (.Call (.Name x p) (e::es) [] pos) (xl C sp Va E t):=by
 intro pins s O H Q I h;refine Rz (mU I hg hm ?_ VX);refine Sa (h₀:=X.base) I.ok.mod.kin M.kp (TM (ha pos pins s O H _ I h) fun us s1 ⟨vs,H1,I1,r,q⟩=>⟨I1.kIn,?_⟩) he hpl;exact DT M F hr hb hd hx I1 r q
end
structure TC (N P:List Str) (sc:Scope):Prop where
 kind:sc.kind=.function
 co:sc.isCoroutine=false
 gen:sc.isGenerator=false
 nd:N.Nodup
 pre:N.take P.length=P
 par:∀x∈P,sc.names.lookup x=some .local\/sc.names.lookup x=some .cell
 nofree:∀y∈sc.names,y.2≠.free
theorem yJ{kindOf:Str->Option NameKind}{x:Str}:∀{binds:List (Str×Value)} {m:Str->Option Value},(∀v,(x,v)∉binds)->bindL kindOf binds m x=m x
 | [],_,_=>rfl
 |(n,v)::r,m,h=>by
  unfold bindL;rw[yJ fun w hw=>h w (QO _ hw)];split
  .have:x≠n:=by rintro rfl;exact h v RN
   simp[this]
  .rfl
theorem xK{kindOf:Str->Option NameKind}{x:Str}:∀{binds:List (Str×Value)} {m:Str->Option Value},(∀v,(x,v)∉binds)->bindC kindOf binds m x=m x
 | [],_,_=>rfl
 |(n,v)::r,m,h=>by
  unfold bindC;rw[xK fun w hw=>h w (QO _ hw)];split
  .rfl
  .have:x≠n:=by rintro rfl;exact h v RN
   simp[this]
theorem Ay{kindOf:Str->Option NameKind}{x:Str}{v:Value}:∀{P:List Str} {vs:List Value} {i:Nat} {m:Str->Option Value},P.Nodup->P[i]?=some x->vs[i]?=some v->kindOf x=some .local->
  bindL kindOf (P.zip vs) m x=some v
 | [],_,_,_,_,h,_,_=>by simp at h
 |_::_,[],_,_,_,_,h,_=>by simp at h
 |p::P,w::vs,0,m,nd,h1,h2,hk=>by
  simp at h1 h2;subst h1;subst h2;show bindL kindOf ((p,w)::P.zip vs) m p=_;unfold bindL;rw[yJ fun v hv=>(RS.mp nd).1 (S4 hv).1,if_pos hk];simp
 |p::P,w::vs,i+1,m,nd,h1,h2,hk=>by
  show bindL kindOf ((p,w)::P.zip vs) m x=_;unfold bindL;exact Ay (i:=i) (RS.mp nd).2 (by simpa using h1) (by simpa using h2) hk
theorem yx{kindOf:Str->Option NameKind}{x:Str}{v:Value}:∀{P:List Str} {vs:List Value} {i:Nat} {m:Str->Option Value},P.Nodup->P[i]?=some x->vs[i]?=some v->kindOf x≠some .local->
  bindC kindOf (P.zip vs) m x=some v
 | [],_,_,_,_,h,_,_=>by simp at h
 |_::_,[],_,_,_,_,h,_=>by simp at h
 |p::P,w::vs,0,m,nd,h1,h2,hk=>by
  simp at h1 h2;subst h1;subst h2;show bindC kindOf ((p,w)::P.zip vs) m p=_;unfold bindC;rw[xK fun v hv=>(RS.mp nd).1 (S4 hv).1,if_neg hk];simp
 |p::P,w::vs,i+1,m,nd,h1,h2,hk=>by
  show bindC kindOf ((p,w)::P.zip vs) m x=_;unfold bindC;exact yx (i:=i) (RS.mp nd).2 (by simpa using h1) (by simpa using h2) hk
def iD(N:List Str)(vs:List V):St:=vs.map some++List.replicate (N.length - vs.length) none
def dB(CX:V7)(P:Program)(w:World)(K:Frag)(mg:Str->Option Value)(base:Heap)(N:List Str)(qual:Str)(scope:Scope)(f:Addr)(cd:Value)(A:Around)(outer:List Env)(s:Shared)(H:Hp)(E:XK):Cx where
 prog:=P
 w:=w
 K:=K
 mg:=mg
 base:=base
 A:=A.deeper (envOfC qual scope s.heap.objs.size f cd)
 N:=N
 Z1:=s
 Z0:=H
 env:=envOfC qual scope s.heap.objs.size f cd
 outer:=outer
 stack:=envOfC qual scope s.heap.objs.size f cd::outer
 ex:=[]
 calm:=true
 fn:=fun _=>true
 pn:=[]
 xe:=fun e s'=>wpAny (model P w) (A.deeper (envOfC qual scope s.heap.objs.size f cd)) (leaving (envOfC qual scope s.heap.objs.size f cd) e) (fun _ Y5=>CX outer H s E e Y5) (fun e' Y5=>CX outer H s E e' Y5) s'
def Bw{sc:Scope}{n:Nat}{x:Str}(h:sc.names.lookup x=some .cell):∃c,(cellsFrom n sc.names []).lookup x=some c:=by
 have q:=Se sc.names n [] (.inl h);exact Q3.mp q
theorem CW{CX:V7}{P:Program}{w:World}{K:Frag}{mg:Str->Option Value}{base:Heap}{N ps:List Str}{qual:Str}{scope:Scope}{f:Addr}{cd:Value}{A:Around}{outer:List Env}{s s1:Shared}{H:Hp}{E:XK}{us:List Value}{vs:List V}
  (S:TC N ps scope) (hd:A.handled=none) (e0:V6 P w K mg base A outer s H) (hl:vs.length=ps.length) (r:Vals vs us)
  (x:InCallC s s.heap.objs.size (bindL (envOfC qual scope s.heap.objs.size f cd).kindOf (ps.zip us) fun _=>none) (cellsFrom (s.heap.objs.size+1) scope.names []) (bindC (envOfC qual scope s.heap.objs.size f cd).kindOf (ps.zip us) fun _=>none) s1):
  Inv (dB CX P w K mg base N qual scope f cd A outer s H E) [] (iD N vs) H s1:=by
 have hpl:ps.length<=N.length:=by have:=congrArg List.length S.pre;rw[RJ] at this;omega
 obtain⟨h1,tk,rfl,hk⟩:=x.done;have α:∀b:Addr,b∉(dB CX P w K mg base N qual scope f cd A outer s H E).ex:=fun b z=>absurd (show b∈([]:List Addr) from z) (by simp);refine⟨⟨e0.mod,S.kind,rfl,rfl,P3 _,fun y z c h1 h2=>?_,fun y hy=>?_,fun y c _ h=>?_,fun _=>hd,Around.frames_deeper e0.frames,.inr ⟨rfl,rfl⟩,fun b z=>absurd z (α b),e0.bs,e0.bsz,fun b _ _=>α b,fun b z=>absurd z (α b),e0.funs,e0.frf⟩,
  rfl,e0.bare,Un.kept hk,⟨_,x.toInCall.ns,fun i y v h1 h2 h3=>?_⟩,fun y c h=>⟨_,x.cell y c h⟩,e0.hok.fresh (P3 _),fun y c h=>?_,fun p hp=>absurd (show p∈([]:QS) from hp) (by simp),e0.hok.kept hk,?_⟩
 .exact name_of_addr x.apart (QJ h1) (QJ h2)
 .have hy:scope.names.lookup y=some .cell\/scope.names.lookup y=some .free:=hy;rcases hy with hy|hy
  .exact Bw hy
  .exact absurd rfl (S.nofree _ (QJ hy))
 .exact Sc (x.above y c (QJ h))
 .have hi:i<vs.length:=by
   unfold iD at h2;by_cases hi:i<vs.length
   .exact hi
   .rw[QD (by simpa using hi)] at h2;rw[List.getElem?_replicate] at h2;split at h2<;>cases h2
  have ha:vs[i]?=some v:=by
   unfold iD at h2;rw[Qe (by simpa using hi),Qm] at h2;cases e:vs[i]? with
   |none=>rw[e] at h2;cases h2
   |some a=>rw[e] at h2;cases h2;rfl
  obtain⟨u,hu,rv⟩:=r.get ha;have hp:ps[i]?=some y:=by
   rw[←S.pre,List.getElem?_take_of_lt (by omega)];exact h1
  have ndP:ps.Nodup:=by rw[←S.pre];exact S.nd.sublist (List.take_sublist _ _)
  refine⟨u,rv,?_⟩;rcases S.par y (Rq hp) with k|k
  .exact .inl ⟨k,Ay ndP hp hu k⟩
  .obtain⟨c,e⟩:=Bw (n:=s.heap.objs.size+1) k;refine .inr ⟨.inl k,c,e,?_⟩;have q:=x.cell y c e;rw[yx ndP hp hu (by show scope.names.lookup y≠_;rw[k];decide)] at q;exact q
 .exact e0.hok.fresh (Sc (x.above y c (QJ h)))
 .unfold iD;show _=N.length;rw[Qp,Qb,List.length_replicate];omega
theorem y8{CX:V7}{P:Program}{w:World}{K:Frag}{mg:Str->Option Value}{base:Heap}{k:Nat}{f:Addr}{name qual:Str}{params:Arguments}{body:List Stmt}{scope:Scope}{dV kV doc pm cdv ct oc:Value}{an od:Option Addr}
  {osl:Array (Option Value)} {N ps:List Str} {sp:Sp} (lk:K.lookup f=some ⟨oc,od,.func (fnOf name qual params body scope dV kV doc pm an cdv ct),osl⟩) (V2:codeIn K cdv qual=true) (S:TC N ps scope)
  (len:∀vs H Q E,sp vs H Q E->vs.length=ps.length)
  (Vp:∀(A:Around) (outer:List Env) (s:Shared) (H:Hp) (vs:List V) (Q:VK) (E:XK),TU k (A.deeper (envOfC qual scope s.heap.objs.size f cdv))->sp vs H Q E->
   ∃t,UT (dB CX P w K mg base N qual scope f cdv A outer s H E) body t/\t {nx:=fun _ H'=>Q .non H',rt:=Q} (iD N vs) H):
  TJ P w K mg base CX (k+1) f (fnOf name qual params body scope dV kV doc pm an cdv ct) ps sp:=by
 refine⟨len,fun A outer s H args us vs Q E hr e0 hb r XE=>?_⟩;have hl:=len _ _ _ _ XE;have KX:K.In s.heap:=e0.mod.kin.keeps fun b o e=>(e0.bs b o e).1;have lim:s.heap.NoLimit:=e0.mod.nolimit.keeps fun b o e=>(e0.bs b o e).1;have τ:∀y∈ps.zip us,scope.names.lookup y.1=some .local\/(scope.names.lookup y.1=some .cell/\((cellsFrom (s.heap.objs.size+1) scope.names []).lookup y.1).isSome=true):=fun⟨n,v⟩ hy=>by
  rcases S.par n (S4 hy).1 with q|q
  .exact .inl q
  .exact .inr ⟨q,Se _ _ _ (.inl q)⟩
 refine codeAny_call_function hr.depth (KX _ _ lk) rfl S.co S.gen rfl (PySem.W.codeRec_of KX V2) (hb _ _ _ _ ?_);refine wpAny_newFunctionEnv_cells S.kind τ fun env he s1 x=>?_;subst he;refine⟨lim.keeps x.toInCall.keep,codeAny_func ?_⟩;obtain⟨t,ht,hq⟩:=Vp A outer s H vs Q E (hr.deeper _) XE;have I:Inv (dB CX P w K mg base N qual scope f cdv A outer s H E) [] (iD N vs) H s1:=CW S hr.hd e0 hl r x;refine(P8 (ht [] s1 (iD N vs) H _ I hq) (fun fl s' hs=>?_) fun e s' hs=>hs);have fin:∀{ZZ:St} {H':Hp} {v:V} {u:Value},Inv (dB CX P w K mg base N qual scope f cdv A outer s H E) [] ZZ H' s'->RelV v u->Q v H'->CE outer P w H s Q u s':=
  fun{ZZ H' v u} Z6 rv q=>⟨v,H',Z6.os,Z6.bare,Z6.base,Z6.hok,rv,q⟩
 cases fl with
 |ret u=>
  obtain⟨v,ZZ,H',Z6,rv,q⟩:=hs;exact fin Z6 rv q
 |next=>
  obtain⟨ZZ,H',Z6,q⟩:=hs;exact fin (v:=V.non) (u:=Value.none) Z6 rfl q
 |brk=>
  obtain⟨_,_,_,q⟩:=hs;exact False.elim q
 |cont=>
  obtain⟨_,_,_,q⟩:=hs;exact(False.elim q)
section
variable {X:Cx} {x:Str} {p pos:Pos} {e:Expr} {es:List Expr} {t:TA} {id T:String} {r:List V->Hp->VK->Prop}
def tCB(r:List V->Hp->VK->Prop)(t:TA):TE:=fun O H Q=>t O H fun vs H1=>r vs H1 Q
theorem jY(hc:gb X (.builtin id) r)(hg:Gl X x)(hm:X.mg x=none)(hv:bootBuiltins x=some (.builtin id))(ha:PA X (e::es) t)(hn:x≠"__name__":=by decide) (VX:(x==("__debug__":Str))=false:=by decide)
  (he:starEach (e::es) X.env=(false,eval e X.env)::starEach es X.env:=by rfl) (hpl:(backTo pos (starEach es X.env)).any (·.1)=false:=by rfl):PE X (.Call (.Name x p) (e::es) [] pos) (tCB r t):=by
 intro pins s O H Q I h;refine Rz (jI I hg hm hv ?_ hn VX);exact PyProof.Rows.callWith_builtin1 (TM (ha pos pins s O H _ I h) fun us s1 ⟨vs,H1,I1,r1,q1⟩=>hc pins s1 O H1 vs us Q I1 r1 q1) he hpl
theorem oI(hc:gb X (.type T) r)(hg:Gl X x)(hm:X.mg x=none)(hv:bootBuiltins x=some (.type T))(ha:PA X (e::es) t)(hn:x≠"__name__":=by decide) (VX:(x==("__debug__":Str))=false:=by decide)
  (he:starEach (e::es) X.env=(false,eval e X.env)::starEach es X.env:=by rfl) (hpl:(backTo pos (starEach es X.env)).any (·.1)=false:=by rfl):PE X (.Call (.Name x p) (e::es) [] pos) (tCB r t):=by
 intro pins s O H Q I h;refine Rz (jI I hg hm hv ?_ hn VX);exact Q6 (TM (ha pos pins s O H _ I h) fun us s1 ⟨vs,H1,I1,r1,q1⟩=>hc pins s1 O H1 vs us Q I1 r1 q1) he hpl
end
end L2
namespace HT
open PySem PyProof.Rows
section
open PySem.SeqAt
open PySem.AutoSeq1 (wpAny_loadPart')
open PySem.MeetsSeq PySem.MeetsSeq2 PySem.MeetsSeq3
end
section
variable {prog:Program} {w:World} {A:Around} {E:OK} {s:Shared}
theorem cat_tup{t b:Addr}{vs ws:List Value}{Q:OK}(ht:IsTup s.heap t vs.toArray)(hb:IsTup s.heap b ws.toArray)(hv:vs≠[])
  (h1:ws=[]->Q (.ref t) s) (h2:ws≠[]->Q (.ref s.heap.objs.size) {s with heap:=s.heap.push {cls:=.type "tuple",data:=.seq (vs++ws).toArray}})
  (hsz:vs.length+ws.length<=sizeLine):wpAny (model prog w) A (binaryOp .Add (.ref t) (.ref b)) Q E s:=by
 obtain⟨⟨cls,dd,data,sl⟩,ho,hc,n,hd⟩:=id ht;obtain⟨⟨cls2,Ϫ,data2,sl2⟩,ϛ,hc2,n2,hd2⟩:=id hb;simp only at hc hd hc2 hd2;subst hc hd hc2 hd2;have e:vs.toArray++ws.toArray=(vs++ws).toArray:=by simp
 by_cases hw:ws=[]
 .exact concat_meets ⟨_,ho,rfl⟩ ⟨_,ϛ,rfl⟩ noFill_tuple_add seq_tuple_add PySem.F.slot_tuple_add PySem.F.entry_tuple_add (PySem.F.args_tuple_add_2 _ _)
   (tuple_addW1 t b vs.toArray ws.toArray n n2 dd Ϫ sl sl2 (by simpa using hv) (by simp[hw])) ⟨ho,ϛ,h1 hw⟩
 .refine concat_meets ⟨_,ho,rfl⟩ ⟨_,ϛ,rfl⟩ noFill_tuple_add seq_tuple_add PySem.F.slot_tuple_add PySem.F.entry_tuple_add (PySem.F.args_tuple_add_2 _ _)
   (tuple_addW2 t b vs.toArray ws.toArray n n2 dd Ϫ sl sl2 (by simpa using hv) (by simpa using hw) (by rw[Qh,Qh];exact hsz)) ⟨ho,ϛ,?_⟩
  rw[e];exact h2 hw
def sIx(n d:Nat):Option Int->Nat
 |none=>d
 |some v=>if v<0 then(v+(n:Int)).toNat else min v.toNat n
theorem sIx_none(n d:Nat):sIx n d none=d:=rfl
theorem sIx_nat(n d k:Nat):sIx n d (some (k:Int))=min k n:=by
 show(if(k:Int)<0 then((k:Int)+(n:Int)).toNat else min (k:Int).toNat n)=min k n;rw[if_neg (by omega),Sf]
theorem FL(n d:Nat)(hd:d<=n)(o:Option Int):sIx n d o<=n:=by
 cases o with
 |none=>exact hd
 |some v=>
  show(if v<0 then(v+(n:Int)).toNat else min v.toNat n)<=n;by_cases hv:v<0
  .rw[if_pos hv];omega
  .rw[if_neg hv];exact Nat.min_le_right _ _
theorem yo(v:Int)(n d:Nat):(if v<0 then max (v+(n:Int)) 0 else min v (n:Int))=((sIx n d (some v):Nat):Int):=by
 show(if v<0 then max (v+(n:Int)) 0 else min v (n:Int))=(((if v<0 then(v+(n:Int)).toNat else min v.toNat n):Nat):Int)
 by_cases hv:v<0
 .simp only[if_pos hv];omega
 .simp only[if_neg hv];omega
theorem Jg(lo hi:Option Int)(n:Nat):Builtin.Slice.sliceAdjust lo hi 1 (n:Int)=(((sIx n 0 lo:Nat):Int),((sIx n n hi:Nat):Int)):=by
 have h1:¬((1:Int)<0):=by omega
 unfold Builtin.Slice.sliceAdjust;simp only[h1,if_false];refine Prod.ext ?_ ?_
 .cases lo with
  |none=>rfl
  |some v=>exact yo v n 0
 .cases hi with
  |none=>rfl
  |some v=>exact yo v n n
theorem JE(i j:Nat):Builtin.Slice.slicePlaces (i:Int) (j:Int) 1=j - i:=by
 unfold Builtin.Slice.slicePlaces;have h1:(1:Int)>0:=by omega
 simp only[h1,if_true,Int.ediv_one];split<;>omega
theorem xv{v:Value}{o:Option Int}{Q:Option Int->Shared->Prop}(p:IsPart v o)(h:Q o s):wpAny (model prog w) A (Builtin.Slice.slicePartIndex v) Q E s:=by
 cases p with
 |none=>exact slicePart_none h
 |int i t=>exact slicePart_int h
theorem GJ{sl:Addr}{vl vu:Value}{lo hi:Option Int}{n:Nat}{Q:Int×Int×Nat->Shared->Prop}(hs:s.heap.IsSliceOf sl vl vu .none)(pl:IsPart vl lo)(pu:IsPart vu hi)
  (h:Q (((sIx n 0 lo:Nat):Int),1,sIx n n hi - sIx n 0 lo) s):wpAny (model prog w) A (Builtin.Slice.sliceApplied (.ref sl) (pure (n:Int))) Q E s:=by
 obtain⟨os,ο,X1,ϣ⟩:=id hs;unfold Builtin.Slice.sliceApplied Builtin.Slice.sliceFields;refine P2 (P2 (Su ο ϣ (x:=vl) rfl (P2 (Su ο ϣ (x:=vu) rfl (P2 (Su ο ϣ (x:=.none) rfl (P6 ?_)))))));refine P2 (slicePart_none ?_);show wpAny _ _ (if((1:Int)==0)=true then _ else _) _ _ s;rw[if_neg (by decide)];refine P2 (xv pl (P2 (xv pu (P2 (P6 ?_)))));show wpAny _ _ (match Builtin.Slice.sliceAdjust lo hi 1 (n:Int) with|(lo,hi)=>pure (lo,(1:Int),Builtin.Slice.slicePlaces lo hi 1)) _ _ s;rw[Jg lo hi n];show wpAny _ _ (pure (((sIx n 0 lo:Nat):Int),(1:Int),Builtin.Slice.slicePlaces ((sIx n 0 lo:Nat):Int) ((sIx n n hi:Nat):Int) 1)) _ _ s;rw[JE];exact P6 h
theorem Pt(xs:Array Value)(i k:Nat):((List.range k).filterMap fun(m:Nat)=>xs[((i:Int)+(m:Int)*1).toNat]?).toArray=((xs.toList.drop i).take k).toArray:=by
 have e:(fun(m:Nat)=>xs[((i:Int)+(m:Int)*1).toNat]?)=fun m=>xs[i+m]?:=by
  funext m;have:((i:Int)+(m:Int)*1).toNat=i+m:=by omega
  rw[this]
 rw[e];have:=pick_run xs i k;rw[List.filterMap_map] at this;have e2:((fun x=>xs[x]?)∘fun x=>i+x)=fun m=>xs[i+m]?:=rfl;rw[e2] at this;rw[this]
theorem getItem_tuple_cut{t sl:Addr}{items:Array Value}{vl vu:Value}{lo hi:Option Int}{Q:OK}(ht:IsTup s.heap t items)(hs:s.heap.IsSliceOf sl vl vu .none)(pl:IsPart vl lo)(pu:IsPart vu hi)
  (hw:¬(sIx items.size 0 lo=0/\sIx items.size items.size hi=items.size))
  (h:Q (.ref s.heap.objs.size) {s with heap:=s.heap.push {cls:=.type "tuple",data:=.seq ((items.toList.drop (sIx items.size 0 lo)).take (sIx items.size items.size hi - sIx items.size 0 lo)).toArray}})
  (hsz:items.size<=sizeLine):wpAny (model prog w) A (getItem (.ref t) (.ref sl)) Q E s:=by
 have V9:sizeOk (.seq ((items.toList.drop (sIx items.size 0 lo)).take (sIx items.size items.size hi - sIx items.size 0 lo)).toArray):=by
  show((items.toList.drop (sIx items.size 0 lo)).take (sIx items.size items.size hi - sIx items.size 0 lo)).toArray.size<=sizeLine;rw[Qh,RJ,SZ,Rg];omega
 have hj:sIx items.size items.size hi<=items.size:=FL _ _ (P3 _) hi;obtain⟨os,ο,X1,ϣ⟩:=id hs;have hTs:s.TypeIs (.ref sl) "slice":=⟨os,ο,X1⟩
 unfold getItem;try with_reducible refine Rl ?_
 first|refine P2 (P6 ?_)|skip
 refine P2 (wpAny_sequenceKey ht.typeIs (by decide) ?_);refine P2 (wpAny_callSpecial?_slot (name:=Str.ofString "__getitem__") ht.typeIs PyProof.Rows.slot_tuple_getitem
  (RY PyProof.Rows.slot_tuple_getitem ht.typeIs entry_tuple_getitem ?_ (args_tuple_getitem _ _)))
 show wpAny _ _ (Builtin.Tuple.tupleItemsOf (.ref t) >>= _) _ _ s;refine P2 (tupleItemsOf_ ht ?_);refine P2 (wpAny_typeOf hTs ?_);rw[if_pos (by decide)];refine P2 (GJ hs pl pu ?_);have YN:¬((((sIx items.size 0 lo:Nat):Int)==0&&(1:Int)==1&&(sIx items.size items.size hi - sIx items.size 0 lo)==items.size)=true):=by
  intro q;rw[Qs,Qs] at q;have q1:((sIx items.size 0 lo:Nat):Int)=0:=eq_of_beq q.1.1;have q2:sIx items.size items.size hi - sIx items.size 0 lo=items.size:=eq_of_beq q.2;exact hw ⟨by omega,by omega⟩
 show wpAny _ _ (if(((sIx items.size 0 lo:Nat):Int)==0&&(1:Int)==1&&(sIx items.size items.size hi - sIx items.size 0 lo)==items.size)=true then _ else _) _ _ s;rw[if_neg YN,Pt];first
  |exact P2 (m:=Builtin.Tuple.tupleExact _) (QW (P6 ⟨_,rfl,P6 h⟩) V9)
  |exact P2 (m:=Builtin.Tuple.tupleExact _) (QW (P2 (P6 (P6 ⟨_,rfl,P6 h⟩))) V9)
  |exact P2 (P2 (m:=Builtin.Tuple.tupleExact _) (QW (P6 (P6 ⟨_,rfl,P6 h⟩)) V9))
  |exact P2 (P2 (m:=Builtin.Tuple.tupleExact _) (QW (P6 ⟨_,rfl,P6 h⟩) V9))
end
end HT
namespace L2
open PySem PySem.Spec PyProof.Rows
abbrev TO:=St->Hp->(Option Int->Hp->Prop)->Prop
def PO(X:Cx)(e:Option Expr)(t:TO):Prop:=
 ∀(pins:QS) (s:Shared) (O:St) (H:Hp) (Q:Option Int->Hp->Prop),Inv X pins O H s->t O H Q->
  wpAny (model X.prog X.w) X.A (evalPart e X.env) (fun u s'=>∃o H',Inv X pins O H' s'/\IsPart u o/\Q o H') X.xe s
def Nz:TO:=fun _ H Q=>Q none H
def J4(t:TE):TO:=fun O H Q=>t O H fun x H1=>∃i,x=.int i/\Q (some i) H1
def wU:∀{us:List Value},Vals (ns.map V.int) us->IntsAre us ns:=by
 induction ns with
 |nil=>intro us r;rw[RP] at r;cases r;exact .nil
 |cons n ns ih=>
  intro us r;rw[Qc] at r;cases r with
  |cons r1 r2=>
   obtain⟨t,e⟩:=r1;subst e;exact(.cons n t (ih r2))
section
variable {X:Cx} {e:Expr} {te:TE} {lo hi:Option Expr} {tl th:TO} {pos p2:Pos}
theorem Jp:PO X none Nz:=by
 intro pins s O H Q I h;rw[evalPart_none];exact P6 ⟨none,H,I,.none,h⟩
theorem CV(h:PE X e te):PO X (some e) (J4 te):=by
 intro pins s O H Q I hw;rw[evalPart_some];refine TM (h pins s O H _ I hw) fun u s1 hm=>?_;obtain⟨x,H1,I1,r1,q1⟩:=hm;obtain⟨i,rfl,q⟩:=q1;obtain⟨t,rfl⟩:=r1;exact(⟨some i,H1,I1,.int i t,q⟩)
def YY(X:Cx)(r:V->Option Int->Option Int->Hp->VK->Prop):Prop:=
 ∀(pins:QS) (s:Shared) (O:St) (H:Hp) (x:V) (v vl vu:Value) (lo hi:Option Int) (sl:Addr) (Q:VK),Inv X pins O H s->RelV x v->s.heap.IsSliceOf sl vl vu .none->IsPart vl lo->IsPart vu hi->r x lo hi H Q->
  ∃T id,typeLookup (.type T) "__getitem__"=pure (some (.builtin id))/\s.TypeIs v T/\wpAny (model X.prog X.w) X.A (getItem v (.ref sl)) (EP X pins O Q) X.xe s
theorem YY.or{r r':V->Option Int->Option Int->Hp->VK->Prop}(h:YY X r)(h':YY X r'):YY X (fun x lo hi H Q=>r x lo hi H Q\/r' x lo hi H Q):=by
 intro pins s O H x v vl vu lo hi sl Q I rx hs pl pu q;rcases q with q|q
 .exact h pins s O H x v vl vu lo hi sl Q I rx hs pl pu q
 .exact h' pins s O H x v vl vu lo hi sl Q I rx hs pl pu q
def tSl(r:V->Option Int->Option Int->Hp->VK->Prop)(te:TE)(tl th:TO):TE:=fun O H Q=>te O H fun x H1=>tl O H1 fun l H2=>th O H2 fun u H3=>r x l u H3 Q
theorem PQ{r:V->Option Int->Option Int->Hp->VK->Prop}(hr:YY X r)(he:PE X e te)(hl:PO X lo tl)(hu:PO X hi th):PE X (.Subscript e (.Slice lo hi none p2) pos) (tSl r te tl th):=by
 intro pins s O H Q I h;refine Subscript_ (TM (he pins s O H _ I h) fun v s1 hm=>?_);obtain⟨x,H1,I1,r1,q1⟩:=hm;refine(wpAny_Slice (TM (hl pins s1 O H1 _ I1 q1) fun vl s2 ⟨l,H2,I2,pl,q2⟩=>TM (hu pins s2 O H2 _ I2 q2) fun vu s3 hm=>?_));obtain⟨u,H3,I3,pu,q3⟩:=hm;rw[evalPart_none];refine P6 ?_;have I4:Inv X pins O H3 {s3 with heap:=s3.heap.push {cls:=.type "slice",data:=.fields #[vl,vu,.none]}}:=I3.kept (t':=s3.toks) fun b ob q=>P4 _ q;obtain⟨T,id,hT,ht,hg⟩:=hr pins {s3 with heap:=s3.heap.push {cls:=.type "slice",data:=.fields #[vl,vu,.none]}} O H3 x v vl vu l u s3.heap.objs.size Q I4 r1 (Heap.IsSliceOf.new ..) pl pu q3;show wpAny (model X.prog X.w) X.A (subscriptTail e (.Slice lo hi none p2) v (.ref s3.heap.objs.size)) (EP X pins O Q) X.xe {s3 with heap:=s3.heap.push {cls:=.type "slice",data:=.fields #[vl,vu,.none]}};exact tail_any (ops:=[.ref s3.heap.objs.size,v]) ht hT hg (by with_unfolding_all rfl)
def hW(xs:List V)(lo hi:Option Int):List V:=(xs.drop (HT.sIx xs.length 0 lo)).take (HT.sIx xs.length xs.length hi - HT.sIx xs.length 0 lo)
theorem Aj(xs:List V)(lo hi:Option Int):(hW xs lo hi).length<=xs.length:=by
 unfold hW;rw[RJ,SZ];omega
def Ka(K:Frag):V->Option Int->Option Int->Hp->VK->Prop:=fun x lo hi H Q=>∃a xs,x=.ref a/\Uo K H a xs/\
 ¬(HT.sIx xs.length 0 lo=0/\HT.sIx xs.length xs.length hi=xs.length)/\∀p,H p=none->Q (.ref p) (upd H p (.tup (hW xs lo hi)))
theorem We:YY X (Ka X.K):=by
 intro pins s O H x v vl vu lo hi sl Q I rx hs pl pu h;obtain⟨a,xs,rfl,hx,hw,q⟩:=h;cases rx;obtain⟨its,r,ht,hz⟩:=I.tuple hx;have hlen:its.toArray.size=xs.length:=by rw[Qh];exact r.length.symm
 refine(⟨"tuple",_,PyProof.Rows.slot_tuple_getitem.lookup,ht.typeIs,?_⟩);refine HT.getItem_tuple_cut ht hs pl pu (by rw[hlen];exact hw) ?_ (by rw[hlen];exact hz);rw[hlen];refine⟨.ref s.heap.objs.size,_,I.laid (t':=s.toks) (o:=.tup (hW xs lo hi)) (fun b ob q=>P4 _ q) (P3 _) ?_,rfl,q _ (I.hok.fresh (P3 _))⟩;exact⟨QL (Aj xs lo hi) hz,_,(r.drop (HT.sIx xs.length 0 lo)).take (HT.sIx xs.length xs.length hi - HT.sIx xs.length 0 lo),IsTup.new _ _⟩
def zO(K:Frag):R2:=fun x y H Q=>∃a b xs ys,x=.ref a/\y=.ref b/\Uo K H a xs/\Uo K H b ys/\xs≠[]/\xs.length+ys.length<=sizeLine/\
 (ys=[]->Q (.ref a) H)/\(ys≠[]->∀p,H p=none->Q (.ref p) (upd H p (.tup (xs++ys))))
theorem Vals.nil_iff{xs:List V}{us:List Value}(r:Vals xs us):us=[]↔xs=[]:=by
 cases r with
 |nil=>simp
 |cons _ _=>simp
theorem IK:UU X (binaryOp .Add) (zO X.K):=by
 intro pins s O H x y v u Q I rx ry h;obtain⟨a,b,xs,ys,rfl,rfl,ha,hb,hx,hz,q1,q2⟩:=h;cases rx;cases ry;obtain⟨its,r1,p1,_⟩:=I.tuple ha;obtain⟨Wi,r2,p2,_⟩:=I.tuple hb;refine HT.cat_tup p1 p2 (fun z=>hx (r1.nil_iff.mp z)) (fun z=>⟨.ref a,H,I,rfl,q1 (r2.nil_iff.mp z)⟩) (fun z=>?_) (by rw[←r1.length,←r2.length];exact hz);refine⟨.ref s.heap.objs.size,_,I.laid (t':=s.toks) (o:=.tup (xs++ys)) (fun b ob q=>P4 _ q) (P3 _) ?_,rfl,q2 (fun w=>z (r2.nil_iff.mpr w)) _ (I.hok.fresh (P3 _))⟩;exact⟨by rw[Qp];exact hz,_,r1.append r2,IsTup.new _ _⟩
end
def VF(n:Nat)(i:Int):Option Nat:=if 0<=i then(if i<n then some i.toNat else none) else if -(n:Int)<=i then some (i+n).toNat else none
def UZ{J:Type}(xs:List J)(i:Int):Option J:=(VF xs.length i).bind fun j=>xs[j]?
def AE{n:Nat}{i:Int}{j:Nat}(h:VF n i=some j):seqIndex? i n=some j/\j<n/\-(n:Int)<=i/\i<n:=by
 unfold VF at h;by_cases h0:0<=i
 .rw[if_pos h0] at h;by_cases h1:i<n
  .rw[if_pos h1] at h;have e:i.toNat=j:=Qx h;exact⟨by rw[seqIndex_of h0 h1,e],by omega,by omega,h1⟩
  .rw[if_neg h1] at h;cases h
 .rw[if_neg h0] at h;by_cases h1:-(n:Int)<=i
  .rw[if_pos h1] at h;have e:(i+n).toNat=j:=Qx h;exact⟨by rw[seqIndex_neg (by omega) h1,e],by omega,h1,by omega⟩
  .rw[if_neg h1] at h;cases h
def t3{J:Type}{xs:List J}{i:Int}{v:J}(h:UZ xs i=some v):∃j,seqIndex? i xs.length=some j/\xs[j]?=some v/\j<xs.length/\-(xs.length:Int)<=i/\i<xs.length:=by
 unfold UZ at h;cases e:VF xs.length i with
 |none=>rw[e] at h;cases h
 |some j=>
  rw[e] at h;obtain⟨h1,h2,h3,h4⟩:=AE e;exact(⟨j,h1,h,h2,h3,h4⟩)
def M5{J:Type}{xs:List J}{j:Nat}{v:J}(h:xs[j]?=some v):UZ xs (j:Int)=some v:=by
 have hj:j<xs.length:=(P5.mp h).1;have e:VF xs.length (j:Int)=some j:=by
  unfold VF;rw[if_pos (by omega),if_pos (by omega)];simp
 unfold UZ;rw[e];exact h
def x4(b:Expr):Prop:=∀o i,subscripted b false o i=operate [o,i] (getItem o i)
def Xi(X:Cx)(r:R2):Prop:=
 ∀(value slice:Expr) (pins:QS) (s:Shared) (O:St) (H:Hp) (x y:V) (v u:Value) (Q:VK),Inv X pins O H s->RelV x v->RelV y u->r x y H Q->
  subscripted slice false v u=operate [v,u] (getItem v u)->wpAny (model X.prog X.w) X.A (subscriptTail value slice v u) (EP X pins O Q) X.xe s
def MtR(X:Cx)(id:String)(r:V->List V->Hp->VK->Prop):Prop:=
 ∀(pins:QS) (s:Shared) (O:St) (H:Hp) (x:V) (xs:List V) (v:Value) (us:List Value) (Q:VK),Inv X pins O H s->RelV x v->Vals xs us->r x xs H Q->
  wpAny (model X.prog X.w) X.A (call (.builtin id) (v::us)) (EP X pins O Q) X.xe s
section
variable {X:Cx} {a b:Expr} {ta tb:TE} {pos:Pos}
theorem Xi.or{r r':R2}(h:Xi X r)(h':Xi X r'):Xi X (fun x y H Q=>r x y H Q\/r' x y H Q):=by
 intro value slice pins s O H x y v u Q I rx ry q hs;rcases q with q|q
 .exact h value slice pins s O H x y v u Q I rx ry q hs
 .exact h' value slice pins s O H x y v u Q I rx ry q hs
theorem FI{r:R2}(hr:Xi X r)(ha:PE X a ta)(hb:PE X b tb)(hs:x4 b):PE X (.Subscript a b pos) (X7 r ta tb):=by
 intro pins s O H Q I h;exact Subscript_ (rN ha hb I h fun v u s2 x y H2 I2 rx ry q=>hr a b pins s2 O H2 x y v u Q I2 rx ry q (hs _ _))
def yB(K:Frag):R2:=fun x y H Q=>∃p xs i v,x=.ref p/\y=.int i/\T9 K H p xs/\UZ xs i=some v/\Q v H
def yY(K:Frag):R2:=fun x y H Q=>∃p xs i v,x=.ref p/\y=.int i/\Uo K H p xs/\UZ xs i=some v/\Q v H
def yO:R2:=fun x y H Q=>∃z i c,x=.str z/\y=.int i/\z.length<=sizeLine/\UZ z.cps.toList i=some c/\Q (.str ⟨#[c]⟩) H
theorem XZ:Xi X (yB X.K):=by
 intro value slice pins s O H x y v u Q I rx ry h hs;obtain⟨p,xs,i,z,rfl,rfl,hq,he,q⟩:=h;cases rx;obtain⟨t,rfl⟩:=ry;obtain⟨its,r,pl,hz⟩:=I.list hq;obtain⟨j,h1,h2,h3,h4,h5⟩:=t3 he;obtain⟨w,ew,WE⟩:=r.get h2;have hl:=r.length;have hn:=jO;have fin:EP X pins O Q w s:=⟨z,H,I,WE,q⟩
 by_cases h0:0<=i
 .have hj:i.toNat=j:=by
   rw[seqIndex_of h0 h5] at h1;exact Qx h1
  exact item_listR pl.isList h0 (by omega) (by rw[hj];simpa using ew) fin hs
 .have hj:(i+(its.toArray.size:Int)).toNat=j:=by
   rw[seqIndex_neg (by omega) h4] at h1;rw[Qh,←hl];exact Qx h1
  exact subscriptTail_builtinR (x:=w) pl.isList.typeIs slot_list_getitem.lookup
   (wpAny_getItem_list_neg (Q:=fun r s'=>r=w/\EP X pins O Q r s') pl.isList (by omega) (by rw[Qh]<;>omega) (by omega) (by rw[hj];simpa using ew) ⟨rfl,fin⟩) hs
theorem YG:Xi X (yY X.K):=by
 intro value slice pins s O H x y v u Q I rx ry h hs;obtain⟨p,xs,i,z,rfl,rfl,hq,he,q⟩:=h;cases rx;obtain⟨t,rfl⟩:=ry;obtain⟨its,r,pl,hz⟩:=I.tuple hq;obtain⟨j,h1,h2,h3,h4,h5⟩:=t3 he;obtain⟨w,ew,WE⟩:=r.get h2;have hl:=r.length;have hn:=jO;have fin:EP X pins O Q w s:=⟨z,H,I,WE,q⟩
 exact subscriptTail_builtinR (x:=w) pl.typeIs slot_tuple_getitem.lookup
  (getItem_tuple (j:=j) (Q:=fun r s'=>r=w/\EP X pins O Q r s') pl (by omega) (by omega) (by rw[Qh,←hl];exact h1) (by simpa using ew) ⟨rfl,fin⟩) hs
theorem LR:Xi X yO:=by
 intro value slice pins s O H x y v u Q I rx ry h hs;obtain⟨z,i,c,rfl,rfl,hz,he,q⟩:=h;obtain⟨t,rfl⟩:=rx;obtain⟨t',rfl⟩:=ry;obtain⟨j,h1,h2,h3,h4,h5⟩:=t3 he;have hl:z.cps.toList.length=z.length:=by simp[Str.length]
 rw[hl] at h1 h4 h5;have hn:=jO;exact tail_any (typeIs_str s z t) slot_str_getitem.lookup (getItem_str (c:=c) (by
  have e1:decide (i< -(2^63:Int))=false:=Qn (by omega);have e2:decide (i>=2^63)=false:=Qn (by omega);rw[e1,e2,Bool.or_false]) (by rw[h1];simpa using h2) ⟨.str ⟨#[c]⟩,H,I.tok _,⟨_,rfl⟩,q⟩) hs
def rIx(K:Frag):R2:=fun x y H Q=>yB K x y H Q\/yY K x y H Q\/yO x y H Q
theorem E8:Xi X (rIx X.K):=XZ.or (YG.or LR)
theorem IB(its:List Value)(n j:Nat)(u:Value):Obj.mapSeq (·.setIfInBounds j u) {cls:=.type "list",data:=.seq its.toArray n}={cls:=.type "list",data:=.seq (its.set j u).toArray n}:=by
 simp[Obj.mapSeq]
theorem Inv.lst{pins:QS}{O:St}{H:Hp}{s:Shared}{p:Addr}{xs:List V}(I:Inv X pins O H s)(h:H p=some (.lst xs)):
  ∃(its:List Value) (n:Nat),Vals xs its/\s.heap.get? p=some {cls:=.type "list",data:=.seq its.toArray n}/\xs.length<=sizeLine:=by
 obtain⟨z,its,n,r,e⟩:=I.hok p _ h;exact(⟨its,n,r,e,z⟩)
theorem Inv.lstUpd{pins:QS}{O:St}{H:Hp}{s:Shared}{p:Addr}{xs ys:List V}{its its':List Value}{n n':Nat}{f:Obj->Obj}(I:Inv X pins O H s)(h:H p=some (.lst xs))
  (ho:s.heap.get? p=some {cls:=.type "list",data:=.seq its.toArray n}) (hf:f {cls:=.type "list",data:=.seq its.toArray n}={cls:=.type "list",data:=.seq its'.toArray n'}) (r:Vals ys its') (hz:ys.length<=sizeLine) (t:Nat):
  Inv X pins O (upd H p (.lst ys)) {s with heap:=s.heap.update p f,toks:=t}:=by
 have e:(s.heap.update p f).get? p=some {cls:=.type "list",data:=.seq its'.toArray n'}:=by
  rw[RC f ho (by rw[hf]<;>rfl),hf]
 refine I.write (x:=p) (e:=p) (by rw[h];trivial) (.inl rfl) (fun b u hb q=>(Q1 _ _ (Ne.symm hb)).trans q) ⟨_,e⟩ ?_;exact⟨hz,its',n',r,e⟩
def LF:V->V->V->Hp->(Hp->Prop)->Prop:=fun o i v H Q=>∃p xs k j,o=.ref p/\i=.int k/\H p=some (.lst xs)/\VF xs.length k=some j/\Q (upd H p (.lst (xs.set j v)))
theorem MK:yC X LF:=by
 intro pins s O H o i v ov iv u Q I ro ri rv h;obtain⟨p,xs,k,j,rfl,rfl,hp,hj,q⟩:=h;cases ro;obtain⟨t,rfl⟩:=ri;obtain⟨its,n,r,ho,hz⟩:=I.lst hp;obtain⟨h1,h2,h3,h4⟩:=AE hj;have hl:=r.length;have hn:=jO;have I':Inv X pins O (upd H p (.lst (xs.set j v))) {s with heap:=s.heap.update p (Obj.mapSeq (·.setIfInBounds j u))}:=
  I.lstUpd hp ho (IB its n j u) (r.set rv j) (by rw[RF];exact hz) s.toks
 by_cases h0:0<=k
 .have hk:k.toNat=j:=by
   rw[seqIndex_of h0 h4] at h1;exact Qx h1
  exact PySem.W.ki_setAt ho h0 (by omega) (by rw[Qh,←hl];exact h4) (by rw[hk];exact⟨_,I',q⟩)
 .have hk:(k+(its.toArray.size:Int)).toNat=j:=by
   rw[seqIndex_neg (by omega) h3] at h1;rw[Qh,←hl];exact Qx h1
  exact PySem.W.ki_setBack ho (by omega) (by rw[Qh,←hl];exact h3) (by omega) (by rw[hk];exact⟨_,I',q⟩)
theorem HA(lo hi:Option Int)(n:Nat):(sliceBounds lo hi none n).1=((HT.sIx n 0 lo:Nat):Int)/\(sliceBounds lo hi none n).2.1=((HT.sIx n n hi:Nat):Int)/\(sliceBounds lo hi none n).2.2=1:=by
 refine⟨?_,?_,rfl⟩
 .cases lo with
  |none=>simp[sliceBounds,HT.sIx]
  |some i=>
   simp only[sliceBounds,HT.sIx,Option.getD_none,show(1:Int)>0 by decide,if_true];by_cases h:i<0
   .simp only[h,if_true]<;>omega
   .simp only[h,if_false]<;>omega
 .cases hi with
  |none=>simp[sliceBounds,HT.sIx]
  |some i=>
   simp only[sliceBounds,HT.sIx,Option.getD_none,show(1:Int)>0 by decide,if_true];by_cases h:i<0
   .simp only[h,if_true]<;>omega
   .simp only[h,if_false]<;>omega
theorem JM(its:List Value)(lo hi:Option Int):slicePick its.toArray lo hi none=((its.drop (HT.sIx its.length 0 lo)).take (HT.sIx its.length its.length hi - HT.sIx its.length 0 lo)).toArray:=by
 obtain⟨h1,h2,h3⟩:=HA lo hi its.toArray.size;unfold slicePick;rw[h1,h2,h3];simp only[sliceRange_one,pick_run,Qh]<;>rfl
def DJ(K:Frag):V->Option Int->Option Int->Hp->VK->Prop:=fun x lo hi H Q=>∃a xs,x=.ref a/\T9 K H a xs/\∀p,H p=none->Q (.ref p) (upd H p (.lst (hW xs lo hi)))
theorem XT:YY X (DJ X.K):=by
 intro pins s O H x v vl vu lo hi sl Q I rx hs pl pu h;obtain⟨a,xs,rfl,hx,q⟩:=h;cases rx;obtain⟨its,r,ht,hz⟩:=I.list hx;have hlen:=r.length;refine(⟨"list",_,slot_list_getitem.lookup,ht.isList.typeIs,?_⟩);refine wpAny_getItem_list_slice ht.isList hs pl pu .none (by simp) ?_ (by rw[Qh]<;>omega);rw[JM,←hlen];refine⟨.ref s.heap.objs.size,_,I.laid (t':=s.toks) (o:=.lst (hW xs lo hi)) (fun b ob q=>P4 _ q) (P3 _) ?_,rfl,q _ (I.hok.fresh (P3 _))⟩;exact⟨QL (Aj xs lo hi) hz,_,0,(r.drop (HT.sIx xs.length 0 lo)).take (HT.sIx xs.length xs.length hi - HT.sIx xs.length 0 lo),Qd _ rfl⟩
def iw:V->Bool
 | .non=>true
 | .bl _=>true
 | .int _=>true
 | .str _=>true
 |_=>false
def Wz:V->V->Bool
 | .non,.non=>true
 | .bl a,.bl b=>a==b
 | .bl a,.int b=>(if a then 1 else 0)==b
 | .int a,.bl b=>a==(if b then 1 else 0)
 | .int a,.int b=>a==b
 | .str a,.str b=>a==b
 |_,_=>false
theorem Kq{A:Around}{s:Shared}{y x:V}{u v:Value}(ry:RelV y u)(rx:RelV x v)(fy:iw y=true)(fx:iw x=true):SeqAt.EqAt A s u v (Wz y x):=by
 cases y with
 |non=>
  cases ry;cases x with
  |non=>cases rx;exact SeqAt.EqAt.same _
  |bl b=>cases rx;exact SeqAt.EqAt.none_bool b
  |int b=>obtain⟨t,rfl⟩:=rx;exact SeqAt.EqAt.none_int b t
  |str b=>obtain⟨t,rfl⟩:=rx;exact SeqAt.EqAt.none_str b t
  |_=>exact absurd (show false=true from fx) QF
 |bl a=>
  cases ry;cases x with
  |non=>cases rx;exact SeqAt.EqAt.bool_none a
  |bl b=>cases rx;exact SeqAt.EqAt.bool_bool a b
  |int b=>obtain⟨t,rfl⟩:=rx;exact SeqAt.EqAt.bool_int a b t
  |str b=>obtain⟨t,rfl⟩:=rx;exact SeqAt.EqAt.bool_str a b t
  |_=>exact absurd (show false=true from fx) QF
 |int a=>
  obtain⟨t',rfl⟩:=ry;cases x with
  |non=>cases rx;exact SeqAt.EqAt.int_none a t'
  |bl b=>cases rx;exact SeqAt.EqAt.int_bool a t' b
  |int b=>obtain⟨t,rfl⟩:=rx;exact SeqAt.EqAt.int_int a t' b t
  |str b=>obtain⟨t,rfl⟩:=rx;exact SeqAt.EqAt.int_str a t' b t
  |_=>exact absurd (show false=true from fx) QF
 |str a=>
  obtain⟨t',rfl⟩:=ry;cases x with
  |non=>cases rx;exact SeqAt.EqAt.str_none a t'
  |bl b=>cases rx;exact SeqAt.EqAt.str_bool a t' b
  |int b=>obtain⟨t,rfl⟩:=rx;exact SeqAt.EqAt.str_int a t' b t
  |str b=>obtain⟨t,rfl⟩:=rx;exact SeqAt.EqAt.str_str a t' b t
  |_=>exact absurd (show false=true from fx) QF
 |_=>exact absurd (show false=true from fy) QF
def Xg(x:V)(u:Value):Bool:=match u with
 | .none=>Wz .non x
 | .bool b=>Wz (.bl b) x
 | .int i _=>Wz (.int i) x
 | .str z _=>Wz (.str z) x
 |_=>false
theorem yl{x y:V}{u:Value}(r:RelV y u)(f:iw y=true):Xg x u=Wz y x:=by
 cases y with
 |non=>cases r;rfl
 |bl b=>cases r;rfl
 |int i=>obtain⟨t,rfl⟩:=r;rfl
 |str z=>obtain⟨t,rfl⟩:=r;rfl
 |_=>exact absurd (show false=true from f) QF
theorem uA{x:V}:∀{xs:List V} {us:List Value},Vals xs us->xs.all iw=true->us.any (Xg x)=xs.any fun y=>Wz y x
 |_,_,.nil,_=>rfl
 |y::xs,u::us,.cons r t,f=>by
  rw[R5,Qs] at f;rw[Re,Re,yl r f.1,uA t f.2]
theorem vH{A:Around}{s:Shared}{x:V}{v:Value}(rx:RelV x v)(fx:iw x=true):∀{xs:List V} {us:List Value},Vals xs us->xs.all iw=true->∀u∈us,SeqAt.EqAt A s u v (Xg x u)
 |_,_,.nil,_=>fun u hu=>by cases hu
 |y::xs,u::us,.cons r t,f=>fun u' hu=>by
  rw[R5,Qs] at f;rcases Qz.mp hu with rfl|hu
  .rw[yl r f.1];exact Kq r rx f.1 fx
  .exact vH rx fx t f.2 u' hu
def Yj(x:V)(xs:List V):Bool:=xs.any fun y=>Wz y x
def ϸ(K:Frag)(neg:Bool):R2:=fun x y H Q=>∃p xs,y=.ref p/\(T9 K H p xs\/Uo K H p xs)/\iw x=true/\xs.all iw=true/\Q (.bl (if neg then !Yj x xs else Yj x xs)) H
theorem Kh:UU X (compareOp .NotIn) (ϸ X.K true):=by
 intro pins s O H x y v u Q I rx ry h;obtain⟨p,xs,rfl,hq,fx,fs,q⟩:=h;cases ry;rcases hq with hq|hq
 .obtain⟨its,r,pl,hz⟩:=I.list hq;refine SeqAt.notIn_listAt (Xg x) pl.isList (fun w hw=>vH rx fx r fs w (by simpa using hw)) ⟨.bl _,H,I,rfl,?_⟩;rw[show its.toArray.any (Xg x)=its.any (Xg x) by simp,uA r fs];exact q
 .obtain⟨its,r,pl,hz⟩:=I.tuple hq;refine SeqAt.notIn_tupleAt (Xg x) pl (fun w hw=>vH rx fx r fs w (by simpa using hw)) ⟨.bl _,H,I,rfl,?_⟩;rw[show its.toArray.any (Xg x)=its.any (Xg x) by simp,uA r fs];exact q
theorem CY:gb X (.builtin "len") (fun xs H Q=>∃p ys,xs=[.ref p]/\(T9 X.K H p ys\/Uo X.K H p ys)/\Q (.int ys.length) H):=by
 intro pins s O H xs us Q I r h;obtain⟨p,ys,rfl,hq,q⟩:=h;obtain⟨u,rfl,rx⟩:=gK r;cases rx;have hn:=jO;rcases hq with hq|hq
 .obtain⟨its,r',pl,hz⟩:=I.list hq;have hlen:=r'.length;exact Calls.call_len_list pl.isList (by simp only[Qh]<;>omega) ⟨.int ys.length,H,I.tok _,⟨s.toks+1,by rw[Qh,hlen]⟩,q⟩
 .obtain⟨its,r',pl,hz⟩:=I.tuple hq;have hlen:=r'.length;exact len_tuple pl (by simp only[Qh]<;>omega) ⟨.int ys.length,H,I.tok _,⟨s.toks+1,by rw[Qh,hlen]⟩,q⟩
theorem Du:gb X (.type "tuple") (fun xs H Q=>∃p ys,xs=[.ref p]/\((T9 X.K H p ys/\∀l,H l=none->Q (.ref l) (upd H l (.tup ys)))\/(Uo X.K H p ys/\Q (.ref p) H))):=by
 intro pins s O H xs us Q I r h;obtain⟨p,ys,rfl,h⟩:=h;obtain⟨u,rfl,rx⟩:=gK r;cases rx;rcases h with⟨hq,q⟩|⟨hq,q⟩
 .obtain⟨its,r',pl,hz⟩:=I.list hq;have hlen:=r'.length;refine call_tuple_list pl.isList (fun h' kp=>?_) (by simp only[Qh]<;>omega);have I1:Inv X pins O H {s with heap:=h'}:=I.kept (t':=s.toks) kp;have I2:Inv X pins O (upd H h'.objs.size (.tup ys)) {s with heap:=h'.push {cls:=.type "tuple",data:=.seq its.toArray}}:=
   I1.laid (t':=s.toks) (fun b o e=>P4 _ e) (P3 _) (show Tf X.prog X.w _ _ _ (.tup ys) from⟨hz,its,r',IsTup.new _ _⟩)
  exact⟨.ref h'.objs.size,_,I2,rfl,q _ (I1.hok.fresh (P3 _))⟩
 .obtain⟨its,r',pl,hz⟩:=I.tuple hq;exact call_tuple_same pl ⟨.ref p,H,I,rfl,q⟩
def Y2(K:Frag)(T:String)(x:V)(H:Hp):Prop:=match x with
 | .str _=>T="str"
 | .int _=>T="int"
 | .ref p=>(T="list"/\ ∃xs,T9 K H p xs)\/(T="tuple"/\ ∃o,K.lookup p=some o/\o.cls=.type "tuple"/\o.dict=none)\/
   (T="dict"/\((∃kvs,H p=some (.dK kvs))\/∃kvs,H p=some (.dT kvs)))\/(T="set"/\ ∃S n,H p=some (.set S n))
 |_=>False
theorem zA{pins:QS}{O:St}{H:Hp}{s:Shared}{T:String}{x:V}{v:Value}(I:Inv X pins O H s)(r:RelV x v)(ty:Y2 X.K T x H):
  s.TypeIs v T/\∀a,v=.ref a->∃ob,s.heap.get? a=some ob/\ob.dict=none:=by
 cases x with
 |str z=>
  obtain⟨t,rfl⟩:=r;cases (show T="str" from ty);exact⟨typeIs_str s z t,fun _ e=>nomatch e⟩
 |int i=>
  obtain⟨t,rfl⟩:=r;cases (show T="int" from ty);exact⟨Sb s i t,fun _ e=>nomatch e⟩
 |ref p=>
  cases r;rcases ty with⟨rfl,xs,hq⟩|⟨rfl,o,hk,hc,hd⟩|⟨rfl,hk⟩|⟨rfl,S,n,hk⟩
  .obtain⟨its,_,pl,_⟩:=I.list hq;refine⟨pl.isList.typeIs,fun a e=>?_⟩;cases e;obtain⟨o,n,e,c,hd,_⟩:=pl;exact(⟨o,e,hd⟩)
  .refine⟨⟨o,I.kIn p o hk,hc⟩,fun a e=>?_⟩;cases e;exact⟨o,I.kIn _ o hk,hd⟩
  .have z:∃o,s.heap.get? p=some o/\o.ExactDict:=by
    rcases hk with⟨kvs,hk⟩|⟨kvs,hk⟩
    .obtain⟨_,_,_,_,o,_,_,e,ex,_⟩:=I.hok p _ hk;exact⟨o,e,ex⟩
    .obtain⟨_,_,_,_,o,_,_,e,ex,_⟩:=I.hok p _ hk;exact⟨o,e,ex⟩
   obtain⟨o,e,ex⟩:=z;refine(⟨⟨o,e,ex.1⟩,fun a e2=>?_⟩);cases e2;exact⟨o,e,ex.2.1⟩
  .obtain⟨o,_,_,_,e,ex,_⟩:=I.hok p _ hk;refine⟨⟨o,e,ex.1⟩,fun a e2=>?_⟩;cases e2;exact⟨o,e,ex.2.1⟩
 |_=>exact False.elim ty
def m4(K:Frag)(T:String)(r:V->List V->Hp->VK->Prop)(to:TE):TE:=fun O H Q=>to O H fun x H1=>Y2 K T x H1/\r x [] H1 Q
def Χ(K:Frag)(T:String)(r:V->List V->Hp->VK->Prop)(to:TE)(t:TA):TE:=fun O H Q=>to O H fun x H1=>Y2 K T x H1/\t O H1 fun xs H2=>r x xs H2 Q
variable {o e:Expr} {es:List Expr} {to:TE} {t:TA} {name:Str} {apos UH:Pos} {T id:String} {r:V->List V->Hp->VK->Prop}
theorem rL(pa:PlainAttrs T)(slot:Slot T name id)(_P:typeOf (.builtin id)=pure (.type "method_descriptor")) (hm:MtR X id r) (ho:PE X o to)
  (TZ:attributeBase o name X.env (eval o X.env)=eval o X.env:=by rfl) (TY:(apos.endLine==UH.line)=true:=by rfl):PE X (.Call (.Attribute o name apos) [] [] UH) (m4 X.K T r to):=by
 intro pins s O H Q I h;refine wpAny_Call_method0_late TZ TY (TM (ho pins s O H _ I h) fun v s1 hm=>?_);obtain⟨x,H1,I1,r1,ty,q1⟩:=hm;obtain⟨h1,h2⟩:=zA I1 r1 ty;exact(⟨T,id,pa,slot,_P,h1,h2,Calls.callWith_builtin rfl (PySem.evalArgs_none (hm pins s1 O H1 x [] v [] Q I1 r1 .nil q1))⟩)
theorem vz(pa:PlainAttrs T)(slot:Slot T name id)(_P:typeOf (.builtin id)=pure (.type "method_descriptor")) (hm:MtR X id r) (ho:PE X o to) (ha:PA X (e::es) t)
  (TZ:attributeBase o name X.env (eval o X.env)=eval o X.env:=by rfl)
  (Uu:((backTo UH (starEach (e::es) X.env)).all (fun x=>!x.1)&&(backToKw UH (keywordEach [] X.env)).all (fun x=>x.1.isSome)
   &&decide ((e::es).length+([]:List Keyword).length+(if([]:List Keyword).isEmpty then 0 else 1)<30))=true:=by rfl)
  (TY:(apos.endLine==UH.line)=true:=by rfl) (hs:starEach (e::es) X.env=(false,eval e X.env)::starEach es X.env:=by rfl) (YK:(backTo UH (starEach es X.env)).any (·.1)=false:=by rfl):
  PE X (.Call (.Attribute o name apos) (e::es) [] UH) (Χ X.K T r to t):=by
 intro pins s O H Q I h;refine wpAny_Call_method_late TZ Uu TY rfl (TM (ho pins s O H _ I h) fun v s1 hm=>?_);obtain⟨x,H1,I1,r1,ty,q1⟩:=hm;obtain⟨h1,h2⟩:=zA I1 r1 ty;refine(⟨T,id,pa,slot,_P,h1,h2,?_⟩);have hA:=ha UH pins s1 O H1 _ I1 q1;rw[hs] at hA⊢;refine Calls.callWith_builtin (by show(false||(backTo UH (starEach es X.env)).any (·.1))=false;rw[YK]<;>rfl) (Calls.evalArgs_plain ?_);exact TM hA fun us s2 ⟨vs,H2,I2,r2,q2⟩=>hm pins s2 O H2 x vs v us Q I2 r1 r2 q2
end
def Yy(X:Cx)(id:String)(r:V->List V->Hp->VK->Prop):Prop:=
 ∀(pins:QS) (s:Shared) (O:St) (H:Hp) (x:V) (xs:List V) (v:Value) (us:List Value) (Q:VK),Inv X pins O H s->RelV x v->Vals xs us->r x xs H Q->
  wpAny (model X.prog X.w) X.A (call (.builtin id) (v::us)) (EP X pins O Q) X.xe s
def Vals.one{x:V}{us:List Value}(h:Vals [x] us):∃u,us=[u]/\RelV x u:=by
 cases h with|cons r t=>cases t;exact⟨_,rfl,r⟩
def Vals.two{x y:V}{us:List Value}(h:Vals [x,y] us):∃u v,us=[u,v]/\RelV x u/\RelV y v:=by
 cases h with|cons r t=>obtain⟨v,rfl,q⟩:=Vals.one t;exact⟨_,v,rfl,r,q⟩
theorem Vals.zero:∀{us:List Value},Vals [] us->us=[]
 |_,.nil=>rfl
def Vals.dropLast{xs:List V}{us:List Value}(h:Vals xs us):Vals xs.dropLast us.dropLast:=by
 induction h with
 |nil=>exact .nil
 |cons r t ih=>
  cases t with
  |nil=>exact .nil
  |cons q t'=>exact .cons r ih
theorem Vals.rep{xs:List V}{us:List Value}(h:Vals xs us):∀k:Nat,Vals (List.replicate k xs).flatten (List.replicate k us).flatten
 |0=>.nil
 |k+1=>by
  rw[Ru,Ru,RU,RU];exact Vals.append h (Vals.rep h k)
def LB{J:Type}(l:List J):l.eraseIdx (l.length - 1)=l.dropLast:=by
 induction l with
 |nil=>rfl
 |cons a r ih=>
  cases r with
  |nil=>rfl
  |cons b r=>
   have e:(a::b::r).length - 1=((b::r).length - 1)+1:=by
    have h1:(a::b::r).length=r.length+2:=rfl;have h2:(b::r).length=r.length+1:=rfl;omega
   rw[e,List.eraseIdx_cons_succ,ih];all_goals rfl
theorem xJ(its:List Value):∀(k:Nat) (acc:List Value),
  List.foldl (fun x1 x2=>x1++x2) acc.toArray (List.replicate k its.toArray)=(acc++(List.replicate k its).flatten).toArray
 |0,acc=>by simp
 |k+1,acc=>by
  have e:acc.toArray++its.toArray=(acc++its).toArray:=by simp
  have e2:(acc++its)++(List.replicate k its).flatten=acc++(List.replicate (k+1) its).flatten:=by
   rw[Ru,RU,Sg]
  rw[←e2,←xJ its k (acc++its),←e,Ru,List.foldl_cons]
section
variable {X:Cx} {pins:QS} {O:St} {H:Hp} {s:Shared} {l:Addr} {xs ys:List V}
theorem Inv.lset{its its':List Value}{n:Nat}{f:Array Value->Array Value}{t':Nat}(I:Inv X pins O H s)(hH:H l=some (.lst xs))
  (e:s.heap.get? l=some {cls:=.type "list",data:=.seq its.toArray n}) (hf:f its.toArray=its'.toArray) (hv:Vals ys its') (hz:ys.length<=sizeLine):
  Inv X pins O (upd H l (.lst ys)) {s with heap:=s.heap.update l (Obj.mapSeq f),toks:=t'}:=by
 have q:=PySem.IsL.update e f;rw[hf] at q;refine I.write (x:=l) (e:=l) (by rw[hH];exact trivial) (.inl rfl) (fun b' u hb hu=>(Q1 s.heap (Obj.mapSeq f) (Ne.symm hb)).trans hu) ⟨_,q⟩ ?_;exact⟨hz,its',_,hv,q⟩
theorem Inv.lnew(I:Inv X pins O H s)(hv:Vals ys its)(hz:ys.length<=sizeLine):
  Inv X pins O (upd H s.heap.objs.size (.lst ys)) {s with heap:=s.heap.push {cls:=.type "list",data:=.seq its.toArray},toks:=t'}:=
 I.laid (fun _ _ q=>P4 _ q) (P3 _) ⟨hz,its,0,hv,Qd _ rfl⟩
theorem Inv.fresh(I:Inv X pins O H s):H s.heap.objs.size=none:=I.hok.fresh (P3 _)
theorem Inv.lstM(I:Inv X pins O H s)(hH:H l=some (.lst xs)):xs.length<=sizeLine/\∃(its:List Value) (n:Nat),Vals xs its/\xs.length=its.length/\s.heap.get? l=some {cls:=.type "list",data:=.seq its.toArray n}:=by
 obtain⟨z,its,n,r,e⟩:=I.hok l _ hH;exact(⟨z,its,n,r,r.length,e⟩)
theorem J7(h:n<=sizeLine):Builtin.List.listTooLong n=false:=by
 unfold Builtin.List.listTooLong;exact Qn (by omega)
end
section
variable {X:Cx}
def yr:V->List V->Hp->VK->Prop:=fun x vs H Q=>∃l xs y,x=.ref l/\vs=[y]/\H l=some (.lst xs)/\xs.length<sizeLine/\Q .non (upd H l (.lst (xs++[y])))
theorem vJ:Yy X "list.append" yr:=by
 intro pins s O H x vs v us Q I rx rv h;obtain⟨l,xs,y,rfl,rfl,hH,hz,q⟩:=h;cases rx;obtain⟨u,rfl,ru⟩:=rv.one;obtain⟨z,its,n,r,hl,e⟩:=I.lstM hH;refine S0 F.slot_list_append ⟨_,e,rfl⟩ F.entry_list_append (F.args_list_append_2 _ _) (PySem.list_append l its.toArray n u (by rw[Qh];omega)) ⟨e,?_⟩;refine⟨.non,_,I.lset (its':=its++[u]) hH e (by simp) (r.append (.cons ru .nil)) ?_,rfl,q⟩;rw[Qp,QR];omega
def w5:V->List V->Hp->VK->Prop:=fun x vs H Q=>∃l xs y,x=.ref l/\vs=[]/\H l=some (.lst xs)/\xs[xs.length - 1]?=some y/\Q y (upd H l (.lst xs.dropLast))
theorem Oa:Yy X "list.pop" w5:=by
 intro pins s O H x vs v us Q I rx rv h;obtain⟨l,xs,y,rfl,rfl,hH,hy,q⟩:=h;cases rx;have hus:=rv.zero;subst hus;obtain⟨z,its,n,r,hl,e⟩:=I.lstM hH;obtain⟨u,hu,ru⟩:=r.get hy;have hy':its.toArray[its.toArray.size - 1]?=some u:=by
  show its.toArray[its.length - 1]?=some u;rw[←Sn,←hl];exact hu
 refine S0 F.slot_list_pop ⟨_,e,rfl⟩ F.entry_list_pop (F.args_list_pop_1 _) (MeetsSeq.list_pop_last l its.toArray n u hy' (by rw[Qh];omega)) ⟨e,?_⟩;refine⟨y,_,I.lset (its':=its.dropLast) hH e ?_ r.dropLast ?_,ru,q⟩
 .show its.toArray.eraseIdxIfInBounds (its.toArray.size - 1)=its.dropLast.toArray;rw[Qh,List.eraseIdxIfInBounds_toArray,LB]
 .rw[List.length_dropLast];omega
def Br:R2:=fun x y H Q=>∃l b xs zs,x=.ref l/\y=.ref b/\H l=some (.lst xs)/\H b=some (.lst zs)/\xs.length+zs.length<=sizeLine/\∀p,H p=none->Q (.ref p) (upd H p (.lst (xs++zs)))
theorem YD:UU X (binaryOp .Add) Br:=by
 intro pins s O H x y v u Q I rx ry h;obtain⟨l,b,xs,zs,rfl,rfl,hH,hB,hz,q⟩:=h;cases rx;cases ry;obtain⟨z,its,n,r,hl,e⟩:=I.lstM hH;obtain⟨z2,Wi,n2,r2,hl2,e2⟩:=I.lstM hB;refine PySem.P.add_list e e2 ?_ (by rw[Qh,Qh];omega);have ea:its.toArray++Wi.toArray=(its++Wi).toArray:=by simp
 rw[ea];exact⟨.ref _,_,I.lnew (t':=s.toks) (r.append r2) (by rw[Qp];omega),rfl,q _ I.fresh⟩
def wx:R2:=fun x y H Q=>∃l k xs,x=.ref l/\y=.int k/\H l=some (.lst xs)/\-(2^63)<=k/\k<2^63/\xs.length*k.toNat<=sizeLine/\
 ∀p,H p=none->Q (.ref p) (upd H p (.lst (List.replicate k.toNat xs).flatten))
theorem FJ{J:Type}(xs:List J)(k:Nat):(List.replicate k xs).flatten.length=k*xs.length:=by
 induction k with
 |zero=>simp
 |succ k ih=>rw[Ru,RU,Qp,ih,Nat.succ_mul,Nat.add_comm]
theorem Pc:UU X (binaryOp .Mult) wx:=by
 intro pins s O H x y v u Q I rx ry h;obtain⟨l,k,xs,rfl,rfl,hH,h1,h2,hz,q⟩:=h;cases rx;obtain⟨t,rfl⟩:=ry;obtain⟨z,its,n,r,hl,e⟩:=I.lstM hH;have hlen:its.toArray.size*k.toNat<=sizeLine:=by rw[Qh,←hl];exact hz
 have VY:¬its.toArray.size*k.toNat>(2^63 - 1)/8:=by
  have:(sizeLine:Nat)<=(2^63 - 1)/8:=by decide
  omega
 have Ww:¬(!Builtin.List.listFitsIndex k)=true:=by
  rw[fitsIndex_both h1 h2];exact QF
 have ς:¬Builtin.List.listTooLong (its.toArray.size*k.toNat)=true:=by
  rw[J7 hlen];exact QF
 have Wq:List.foldl (fun x1 x2=>x1++x2) #[] (List.replicate (if its.toArray.isEmpty=true then 0 else k.toNat) its.toArray)=(List.replicate k.toNat its).flatten.toArray:=by
  have f0:∀m:Nat,List.foldl (fun x1 x2=>x1++x2) #[] (List.replicate m its.toArray)=(List.replicate m its).flatten.toArray:=fun m=>by
   have:=xJ its m [];rw[List.nil_append] at this;exact this
  rw[f0];cases its with
  |nil=>simp
  |cons a r'=>rw[if_neg (by simp)]
 refine wpAny_binaryOp_repeat_ref (T:="list") (U:="int") (by decide) ⟨_,e,rfl⟩ (fun s'=>Sb s' k t) noFill_list_mul F.fills_int_mul F.slot_int_rmul repeat_list F.slot_int_index.lookup
  (S0 F.slot_int_rmul (Sb s k t) F.entry_int_rmul (F.args_int_rmul_2 _ _) (int___rmul___int_list k t l its.toArray n)
   ⟨e,rfl,⟨_,e,rfl⟩,S0 F.slot_list_mul ⟨_,e,rfl⟩ F.entry_list_mul (F.args_list_mul_2 _ _) (AutoListH.list___mul___list_int_3 l its.toArray n k t Ww VY ς) ⟨e,?_⟩⟩)
 rw[Wq];exact⟨.ref _,_,I.lnew (t':=s.toks) (r.rep k.toNat) (by rw[FJ,Nat.mul_comm];exact hz),rfl,q _ I.fresh⟩
end
section
variable {κ:Type} [DecidableEq κ]
def fh(kvs:List (κ×V))(k:κ):Option V:=(kvs.find? fun kv=>decide (kv.1=k)).map (·.2)
def dG(kvs:List (κ×V))(k:κ)(v:V):List (κ×V):=
 if(kvs.any fun kv=>decide (kv.1=k))=true then kvs.map (fun kv=>if kv.1=k then(kv.1,v) else kv) else kvs++[(k,v)]
theorem ku{p:κ×V}{r:List (κ×V)}{k:κ}(e:p.1=k):fh (p::r) k=some p.2:=by simp[fh,Ql,e]
theorem kC{p:κ×V}{r:List (κ×V)}{k:κ}(e:¬p.1=k):fh (p::r) k=fh r k:=by simp[fh,Ql,e]
theorem wA(k:κ):∀kvs:List (κ×V),(kvs.any fun kv=>decide (kv.1=k))=(fh kvs k).isSome
 | []=>rfl
 |p::r=>by
  rw[Re];by_cases e:p.1=k
  .simp only[ku e,QC e,Bool.true_or,RQ]
  .rw[kC e,Qn e,Bool.false_or];exact wA k r
theorem nL(kvs:List (κ×V))(k:κ)(v:V):(dG kvs k v).length<=kvs.length+1:=by
 unfold dG;split
 .rw[Qb];omega
 .rw[Qp,Qj,RT];omega
theorem Ub.isSome_eq{o:Option V}{u:Option Value}(r:Ub o u):o.isSome=u.isSome:=by
 cases o with
 |none=>cases u with
  |none=>rfl
  |some _=>exact(show False from r).elim
 |some _=>cases u with
  |none=>exact(show False from r).elim
  |some _=>rfl
theorem KV.val{kvs:List (κ×V)}{vs:List (κ×Value)}(r:KV kvs vs)(k:κ):Ub (fh kvs k) (valueAt vs k):=by
 unfold KV at r;induction r with
 |nil=>exact True.intro
 | @cons p q ps qs h t ih=>
  obtain⟨h1,h2⟩:=h;by_cases e:p.1=k
  .have e':q.1=k:=h1.symm.trans e;have b:valueAt (q::qs) k=some q.2:=by simp[valueAt,Ql,e']
   rw[ku e,b];exact h2
  .have e':¬q.1=k:=fun z=>e (h1.trans z);have b:valueAt (q::qs) k=valueAt qs k:=by simp[valueAt,Ql,e']
   rw[kC e,b];exact ih
theorem KV.any{kvs:List (κ×V)}{vs:List (κ×Value)}(r:KV kvs vs)(k:κ):(kvs.any fun kv=>decide (kv.1=k))=vs.any fun kv=>decide (kv.1=k):=by
 unfold KV at r;induction r with
 |nil=>rfl
 |cons h t ih=>rw[Re,Re,ih,h.1]
theorem KV.repl{kvs:List (κ×V)}{vs:List (κ×Value)}(r:KV kvs vs)(k:κ){y:V}{u:Value}(ry:RelV y u):
  KV (kvs.map fun kv=>if kv.1=k then(kv.1,y) else kv) (vs.map fun kv=>if kv.1=k then(kv.1,u) else kv):=by
 unfold KV at r⊢;induction r with
 |nil=>exact .nil
 | @cons p q ps qs h t ih=>
  rw[Qc,Qc];refine .cons ?_ ih;obtain⟨h1,h2⟩:=h;by_cases e:p.1=k
  .rw[if_pos e,if_pos (h1.symm.trans e)];exact⟨h1,ry⟩
  .rw[if_neg e,if_neg (fun z=>e (h1.trans z))];exact⟨h1,h2⟩
theorem KV.put{kvs:List (κ×V)}{vs:List (κ×Value)}(r:KV kvs vs)(k:κ){y:V}{u:Value}(ry:RelV y u):KV (dG kvs k y) (stored vs k u):=by
 unfold dG stored;rw[r.any k];by_cases e:(vs.any fun kv=>decide (kv.1=k))=true
 .rw[if_pos e,if_pos e];exact r.repl k ry
 .rw[if_neg e,if_neg e];exact S7 r ⟨rfl,ry⟩
theorem KV.length{kvs:List (κ×V)}{vs:List (κ×Value)}(r:KV kvs vs):kvs.length=vs.length:=R4 r
end
def lf{P:Program}{w:World}{k:Key}{u:Value}(r:RelV (kV k) u):(fv P w).is k u=true:=by
 cases k with
 |inl i=>obtain⟨t,e⟩:=(show ∃t,u=Value.int i t from r);subst e;exact FB P w i t
 |inr x=>obtain⟨t,e⟩:=(show ∃t,u=Value.str x t from r);subst e;exact KQ P w x t
abbrev KT(H:Hp):List (NK×V)->List (NK×Addr×Value)->Prop:=Paired fun p q=>p.1=q.1/\VA H q.2.1 p.1/\RelV p.2 q.2.2
def KT.val{H:Hp}{kvs:List (NK×V)}{xs:List (NK×Addr×Value)}(r:KT H kvs xs)(k:NK):Ub (fh kvs k) ((atKey xs k).map (·.2)):=by
 induction r with
 |nil=>exact True.intro
 | @cons p q ps qs h t ih=>
  obtain⟨h1,_,h2⟩:=h;by_cases e:p.1=k
  .have e':q.1=k:=h1.symm.trans e;have b:atKey (q::qs) k=some q.2:=by simp[atKey,Ql,e']
   rw[ku e,b];exact h2
  .have e':¬q.1=k:=fun z=>e (h1.trans z);have b:atKey (q::qs) k=atKey qs k:=by simp[atKey,Ql,e']
   rw[kC e,b];exact ih
theorem KT.repl{H:Hp}{kvs:List (NK×V)}{xs:List (NK×Addr×Value)}(r:KT H kvs xs)(k:NK){y:V}{u:Value}(ry:RelV y u):
  KT H (kvs.map fun kv=>if kv.1=k then(kv.1,y) else kv) (xs.map (putAt k u)):=by
 induction r with
 |nil=>exact .nil
 | @cons p q ps qs h t ih=>
  rw[Qc,Qc];refine .cons ?_ ih;obtain⟨h1,h2,h3⟩:=h;unfold putAt;by_cases e:p.1=k
  .rw[if_pos e,if_pos (h1.symm.trans e)];exact⟨h1,h2,ry⟩
  .rw[if_neg e,if_neg (fun z=>e (h1.trans z))];exact⟨h1,h2,h3⟩
theorem KT.put{H:Hp}{kvs:List (NK×V)}{xs:List (NK×Addr×Value)}(r:KT H kvs xs)(k:NK){b:Addr}{y:V}{u:Value}(hb:VA H b k)(ry:RelV y u):
  KT H (dG kvs k y) (storedH xs k b u):=by
 have e:(kvs.any fun kv=>decide (kv.1=k))=(atKey xs k).isSome:=by
  rw[wA,(r.val k).isSome_eq,Sh]
 unfold dG storedH;rw[e];by_cases q:(atKey xs k).isSome=true
 .rw[if_pos q,if_pos q];exact r.repl k ry
 .rw[if_neg q,if_neg q];exact S7 r ⟨rfl,hb,ry⟩
def KT.keeps{H H':Hp}{kvs:List (NK×V)}{xs:List (NK×Addr×Value)}(r:KT H kvs xs)(ht:∀b ys,H b=some (.tup ys)->H' b=some (.tup ys)):KT H' kvs xs:=
 Paired.mapP r fun _ _ z=>⟨z.1,z.2.1.up ht,z.2.2⟩
section
variable {P:Program} {w:World} {H:Hp} {h:Heap} {a:Addr}
theorem xM{u:HO}(ok:Ua P w H h)(e:Rd H a u):Tf P w H h a u:=e.ok ok
theorem nk{kvs:List (Key×V)}(ok:Ua P w H h)(e:Rd H a (.dK kvs)):kvs.length<=sizeLine/\(a==sysModules)=false/\∃vs,KV kvs vs/\h.DictOf (fv P w) a vs:=
 show Tf P w H h a (.dK kvs) from xM ok e
theorem gO{kvs:List (Key×V)}(ok:Ua P w H h)(e:H a=some (.dK kvs)):kvs.length<=sizeLine/\(a==sysModules)=false/\∃vs,KV kvs vs/\h.DictOf (fv P w) a vs:=nk ok (.inl e)
theorem xm:∀{ks:List Int} {us:List Value},Vals (ks.map V.int) us->ItemsAre (intKind P w) ks us
 | [],_,r=>by rw[RP] at r;cases r;exact .nil
 |k::ks,_,r=>by
  rw[Qc] at r;cases r with
  |cons h t=>
   obtain⟨q,e⟩:=h;subst e;exact .cons (by simp[intKind,Value.isInt]) (xm t)
theorem rD{A:Around}(hu:A.units+9<cLine):(kP P w).room A.in1:=by show A.units+1+4<cLine;omega
theorem ow{k:NK}(ok:Ua P w H h)(e:VA H a k):(kP P w).is h k a:=by
 obtain⟨c,e1,e2⟩:=e;obtain⟨_,its,r,o,h1,h2,n,h3⟩:=(show Tf P w H h a (.tup [.ref c,.int k.2]) from ok a _ e1)
 obtain⟨u1,u2,rfl,r1,t,r2⟩:=Vals.two r;obtain rfl:u1=Value.ref c:=r1;subst r2;obtain⟨_,its',r',o',g1,g2,n',g3⟩:=(show Tf P w H h c (.tup (k.1.map V.int)) from ok c _ e2)
 exact⟨o,c,t,n,h1,h2,h3,o',its'.toArray,n',g1,g2,g3,by simpa using xm r'⟩
theorem pj{kvs:List (NK×V)}(ok:Ua P w H h)(e:Rd H a (.dT kvs)):kvs.length<=sizeLine/\(a==sysModules)=false/\
  ∃xs,KT H kvs xs/\h.DictOfH (kP P w) a xs:=by
 obtain⟨z,y,xs,r,o,es,ep,h1,h2,h3,h4,h5⟩:=(show Tf P w H h a (.dT kvs) from xM ok e)
 refine(⟨z,y,xs,r,o,es,ep,h1,h2,h3,h4,fun x hx=>?_,h5⟩);have all:∀{l:List (NK×V)} {m:List (NK×Addr×Value)},KT H l m->∀x∈m,(kP P w).is h x.1 x.2.1:=by
  intro l m q;induction q with
  |nil=>intro x hx;exact nomatch hx
  | @cons p q ps qs hq t ih=>
   intro x hx;rcases Qz.mp hx with e|hx
   .subst e;exact ow ok (by rw[←hq.1];exact hq.2.1)
   .exact ih x hx
 exact all r x hx
theorem Lo{kvs:List (NK×V)}(ok:Ua P w H h)(e:H a=some (.dT kvs)):kvs.length<=sizeLine/\(a==sysModules)=false/\
  ∃xs,KT H kvs xs/\h.DictOfH (kP P w) a xs:=pj ok (.inl e)
end
def U3(H:Hp)(a:Addr)(y:V)(r:Option V):Prop:=
 (∃kvs k,Rd H a (.dK kvs)/\y=kV k/\r=fh kvs k)\/∃kvs k b,Rd H a (.dT kvs)/\y=.ref b/\VA H b k/\r=fh kvs k
def WN(H:Hp)(a:Addr)(y v:V)(H':Hp):Prop:=
 (∃kvs k,H a=some (.dK kvs)/\y=kV k/\kvs.length<sizeLine/\H'=upd H a (.dK (dG kvs k v)))\/
 ∃kvs k b,H a=some (.dT kvs)/\y=.ref b/\VA H b k/\kvs.length<sizeLine/\H'=upd H a (.dT (dG kvs k v))
def U3.k{H:Hp}{a:Addr}{kvs:List (Key×V)}{k:Key}(e:H a=some (.dK kvs)):U3 H a (kV k) (fh kvs k):=.inl ⟨kvs,k,.inl e,rfl,rfl⟩
def WN.k{H:Hp}{a:Addr}{kvs:List (Key×V)}{k:Key}{v:V}(e:H a=some (.dK kvs))(hl:kvs.length<sizeLine):WN H a (kV k) v (upd H a (.dK (dG kvs k v))):=.inl ⟨kvs,k,e,rfl,hl,rfl⟩
section
variable {X:Cx} {pins:QS} {O:St} {H:Hp} {s:Shared} {a:Addr} {y v:V} {u r:Value} {o:Option V} {A:Around} {E:OK}
theorem Inv.big(I:Inv X pins O H s):sysModules<s.heap.objs.size:=by
 have h:mainGlobals<s.heap.objs.size:=(I.mod.glob.keeps I.bk).lt;exact Si (by decide) h
theorem Pf{Q:OK}(hu:A.units+9<cLine)(I:Inv X pins O H s)(g:U3 H a y (some v))(ry:RelV y u)(h:∀w' s',Inv X pins O H s'->RelV v w'->Q w' s'):
  wpAny (model X.prog X.w) A (getItem (.ref a) u) Q E s:=by
 rcases g with⟨kvs,k,e,ey,l⟩|⟨kvs,k,b,e,ey,eb,l⟩
 .subst ey;obtain⟨z,hd,vs,rel,dd⟩:=nk I.hok e;obtain⟨w',hw,WE⟩:=Ub.some_of (v:=v) (o:=valueAt vs k) (by rw[l];exact rel.val k);exact(wpAny_getItem_of (lf ry) dd.mapOf hw (h w' _ (I.tok _) WE))
 .subst ey;cases (show u=Value.ref b from ry);obtain⟨z,hd,xs,rel,dd⟩:=pj I.hok e;obtain⟨w',hw,WE⟩:=Ub.some_of (v:=v) (o:=(atKey xs k).map (·.2)) (by rw[l];exact rel.val k);obtain⟨p,hp,VI⟩:=Option.map_eq_some_iff.mp hw;refine(wpAny_getItem_heap (rD hu) (ow I.hok eb) dd hp ?_);rw[VI];exact h w' _ (I.tok _) WE
theorem ED{Q:OK}(hu:A.units+9<cLine)(I:Inv X pins O H s)(g:U3 H a y o)(ry:RelV y u)(h:∀s',Inv X pins O H s'->Q (.bool (!o.isSome)) s'):
  wpAny (model X.prog X.w) A (compareOp .NotIn u (.ref a)) Q E s:=by
 rcases g with⟨kvs,k,e,ey,l⟩|⟨kvs,k,b,e,ey,eb,l⟩
 .subst ey;obtain⟨z,hd,vs,rel,dd⟩:=nk I.hok e;refine(wpAny_notIn_of (lf ry) hd dd.mapOf ?_);rw[←(rel.val k).isSome_eq,←l];exact h _ (I.tok _)
 .subst ey;cases (show u=Value.ref b from ry);obtain⟨z,hd,xs,rel,dd⟩:=pj I.hok e;refine(wpAny_notIn_heap (rD hu) (ow I.hok eb) hd dd ?_);have q:=(rel.val k).isSome_eq;rw[Sh] at q;rw[←q,←l];exact h _ (I.tok _)
theorem lz{h':Heap}{t':Nat}{ob:HO}(I:Inv X pins O H s)(mu:Ρ (H a))(hs:Heap.SameBut a s.heap h')(he:∃q,h'.get? a=some q)(new:Tf X.prog X.w (upd H a ob) h' a ob):
  Inv X pins O (upd H a ob) {s with heap:=h',toks:=t'}:=
 I.write (x:=a) (e:=a) mu (.inl rfl) (fun b q hb z=>(hs.2 b hb).trans z) he new
theorem mS{P:Program}{w:World}{H':Hp}{h':Heap}{kvs:List (Key×V)}{vs:List (Key×Value)}(z:kvs.length<=sizeLine)(hd:(a==sysModules)=false)(rel:KV kvs vs)(dd:h'.DictOf (fv P w) a vs):
  Tf P w H' h' a (.dK kvs):=⟨z,hd,vs,rel,dd⟩
theorem Ie{H':Hp}{Q:Unit->Shared->Prop}(hu:A.units+9<cLine)(I:Inv X pins O H s)(g:WN H a y v H')(ry:RelV y u)(rv:RelV v r)(h:∀s',Inv X pins O H' s'->Q () s'):
  wpAny (model X.prog X.w) A (setItem (.ref a) u r) Q E s:=by
 rcases g with⟨kvs,k,e,ey,l,eH⟩|⟨kvs,k,b,e,ey,eb,l,eH⟩
 .subst ey eH;obtain⟨z,hd,vs,rel,dd⟩:=gO I.hok e;have hz:vs.length<=sizeLine:=by rw[←rel.length];exact z
  have hl:(dG kvs k v).length<=sizeLine:=by have:=nL kvs k v;omega
  refine(wpAny_setItem_pairs (hsz:=hz) (lf ry) dd fun h' Vw hs=>h _ ?_);have he:∃q,h'.get? a=some q:=let ⟨q,_,_,hq,_⟩:=Vw;⟨q,hq⟩
  exact lz I (by rw[e];exact True.intro) hs he (mS hl hd (rel.put k rv) Vw)
 .subst ey eH;cases (show u=Value.ref b from ry);obtain⟨z,hd,xs,rel,dd⟩:=Lo I.hok e;have hz:xs.length<=sizeLine:=by rw[←R4 rel];exact z
  have hl:(dG kvs k v).length<=sizeLine:=by have:=nL kvs k v;omega
  refine(wpAny_setItem_heap (hsz:=hz) (rD hu) (ow I.hok eb) dd fun h' Vw hs=>h _ ?_);obtain⟨q,es,ep,hq,h2,h3,h4,_,h5⟩:=Vw;refine lz I (by rw[e];exact True.intro) hs ⟨q,hq⟩ ⟨hl,hd,_,(rel.put k eb rv).keeps fun c ys ec=>?_,q,es,ep,hq,h2,h3,h4,h5⟩;rw[dg (GE ec e (fun z=>nomatch z))];exact ec
end
section
variable {X:Cx} {pins:QS} {O:St} {H:Hp} {s:Shared} {a:Addr} {kvs:List (Key×V)} {A:Around} {E:OK}
theorem L1{Q:OK}(I:Inv X pins O H s)(e:Rd H a (.dK kvs))(h:∀t s',Inv X pins O H s'->Q (.int kvs.length t) s'):wpAny (model X.prog X.w) A (call (.builtin "len") [.ref a]) Q E s:=by
 obtain⟨z,hd,vs,rel,dd⟩:=nk I.hok e;refine call_len_dict hd dd (by rw[←rel.length];rw[Rp] at z;omega) ?_;rw[←rel.length];exact h _ _ (I.tok _)
end
def qG(i:Expr):Prop:=∀ov iv,subscripted i false ov iv=operate [ov,iv] (getItem ov iv)
theorem Pm{prog:Program}{w:World}{A:Around}{E:OK}{s:Shared}{env:Env}{value slice:Expr}{pos:Pos}{T id:String}{Q:OK}
  (hl:typeLookup (.type T) "__getitem__"=pure (some (.builtin id))) (hs:qG slice)
  (h:wpAny (model prog w) A (eval value env) (fun o ZT=>wpAny (model prog w) A (eval slice env) (fun i ZM=>ZM.TypeIs o T/\wpAny (model prog w) A (getItem o i) Q E ZM) E ZT) E s):
  wpAny (model prog w) A (eval (.Subscript value slice pos) env) Q E s:=by
 refine Subscript_ (P8 h (fun o ZT ZO=>P8 ZO (fun i ZM ZC=>?_) fun _ _ x=>x) fun _ _ x=>x);obtain⟨hT,ZC⟩:=ZC;unfold subscriptTail;refine P2 ?_;rw[getitemInPython_of_ne hT.not_modules];refine P2 (R6 hT hl ?_);have fin:wpAny (model prog w) A (subscripted slice false o i) (fun r ZJ=>wpAny (model prog w) A (letTemporaryGo value o r >>= fun _=>pure r) Q E ZJ) E ZM:=by
  rw[hs o i];exact wpAny_operating (P8 ZC (fun r ZJ ZB=>P2 (wpAny_letTemporaryGo (P6 ZB))) fun _ _ x=>x)
 first
  |exact P6 (P2 fin)
  |exact P2 (P6 (P2 fin))
  |exact P2 fin
def N6{X:Cx}{pins:QS}{O:St}{H:Hp}{s:Shared}{a:Addr}{y:V}{o:Option V}(I:Inv X pins O H s)(g:U3 H a y o):s.TypeIs (.ref a) "dict":=by
 rcases g with⟨kvs,k,e,_,_⟩|⟨kvs,k,b,e,_,_,_⟩
 .obtain⟨_,_,vs,_,dd⟩:=nk I.hok e;exact dd.typeIs
 .obtain⟨_,_,xs,_,dd⟩:=pj I.hok e;exact dd.typeIs
def OF(td ty:TE):TE:=fun O H Q=>td O H fun x H1=>ty O H1 fun y H2=>∃a v,x=.ref a/\U3 H2 a y (some v)/\Q v H2
def HI(ty td:TE):TE:=fun O H Q=>ty O H fun y H1=>td O H1 fun x H2=>∃a o,x=.ref a/\U3 H2 a y o/\Q (.bl (!o.isSome)) H2
def Em(td ty tv:TE):TS:=fun D O H=>tv O H fun v H1=>td O H1 fun x H2=>ty O H2 fun y H3=>∃a H4,x=.ref a/\WN H3 a y v H4/\D.nx O H4
section
variable {X:Cx} {o i value:Expr} {pos pos':Pos} {td ty tv:TE}
theorem wt(hu:X.A.units+9<cLine)(ho:PE X o td)(hi:PE X i ty)(hs:qG i):PE X (.Subscript o i pos) (OF td ty):=by
 intro pins s O H Q I h;refine Pm PySem.F.slot_dict_getitem.lookup hs (TM (ho pins s O H _ I h) fun u s1 ⟨x,H1,I1,rx,q1⟩=>TM (hi pins s1 O H1 _ I1 q1) fun iv s2 hm=>?_);obtain⟨y,H2,I2,ry,a,v,ex,g,q2⟩:=hm;subst ex;obtain rfl:u=Value.ref a:=rx;exact⟨N6 I2 g,Pf hu I2 g ry fun w' s3 I3 WE=>⟨v,H2,I3,WE,q2⟩⟩
theorem wF(hu:X.A.units+9<cLine)(hi:PE X i ty)(ho:PE X o td):PC X .NotIn i o (HI ty td):=by
 intro pins s O H Q I h;refine TM (hi pins s O H _ I h) fun iv s1 ⟨y,H1,I1,ry,q1⟩=>TM (ho pins s1 O H1 _ I1 q1) fun u s2 hm=>?_;obtain⟨x,H2,I2,rx,a,ov,ex,g,q2⟩:=hm;subst ex;obtain rfl:u=Value.ref a:=rx;exact ED hu I2 g ry fun s3 I3=>⟨.bl (!ov.isSome),H2,I3,rfl,q2⟩
theorem wu(hu:X.A.units+9<cLine)(ho:PE X o td)(hi:PE X i ty)(hv:PE X value tv)(hs:swapsWith value (some (.Subscript o i pos')) pos.line X.env=pure false):
  PS X (.Assign [.Subscript o i pos'] value pos) (Em td ty tv):=by
 intro pins s O H D I h;refine wpAny_Assign_Subscript (TM (hv pins s O H _ I h) fun r s1 ⟨v,H1,I1,rv,q1⟩=>TM (ho pins s1 O H1 _ I1 q1) fun u s2 ⟨x,H2,I2,rx,q2⟩=>TM (hi pins s2 O H2 _ I2 q2) fun iv s3 hm=>?_) hs;obtain⟨y,H3,I3,ry,a,H4,ex,g,q3⟩:=hm;subst ex;obtain rfl:u=Value.ref a:=rx;exact Ie hu I3 g ry rv fun s4 I4=>⟨O,H4,I4,q3⟩
end
def zT{P:Program}{w:World}{H:Hp}(h:Heap)(hb:sysModules<h.objs.size):Tf P w H (h.push {cls:=.type "dict",data:=.dict #[]}) h.objs.size (.dK []):=
 ⟨QZ _,beq_eq_false_iff_ne.mpr (Ne.symm (Qk hb)),[],.nil,Heap.DictOf.new h⟩
def Og{P:Program}{w:World}{H:Hp}(h:Heap)(hb:sysModules<h.objs.size):Tf P w H (h.push {cls:=.type "dict",data:=.dict #[]}) h.objs.size (.dT []):=
 ⟨QZ _,beq_eq_false_iff_ne.mpr (Ne.symm (Qk hb)),[],.nil,_,#[],0,Qd _ rfl,⟨rfl,rfl,rfl⟩,rfl,rfl,List.nodup_nil⟩
def F7:TE:=fun _ H Q=>∀p,H p=none->Q (.ref p) (upd H p (.dK []))
def NG:TE:=fun _ H Q=>∀p,H p=none->Q (.ref p) (upd H p (.dT []))
section
variable {X:Cx} {pos:Pos}
theorem HP:PE X (.Dict [] [] pos) F7:=fun pins s O H Q I h=>
 wpAny_Dict_empty ⟨.ref s.heap.objs.size,_,I.laid (a:=s.heap.objs.size) (o:=.dK []) (t':=s.toks) (fun _ _ q=>P4 _ q) (P3 _) (zT s.heap I.big),rfl,h _ (I.hok.fresh (P3 _))⟩
theorem LD:PE X (.Dict [] [] pos) NG:=fun pins s O H Q I h=>
 wpAny_Dict_empty ⟨.ref s.heap.objs.size,_,I.laid (a:=s.heap.objs.size) (o:=.dT []) (t':=s.toks) (fun _ _ q=>P4 _ q) (P3 _) (Og s.heap I.big),rfl,h _ (I.hok.fresh (P3 _))⟩
end
def ub:List (TE×TE)->St->Hp->(List (V×V)->Hp->Prop)->Prop
 | [],_,H,Q=>Q [] H
 |(tk,tv)::r,O,H,Q=>tk O H fun x H1=>tv O H1 fun y H2=>ub r O H2 fun ps H3=>Q ((x,y)::ps) H3
abbrev VV:List (V×V)->List (Value×Value)->Prop:=Paired fun p q=>RelV p.1 q.1/\RelV p.2 q.2
def Ϯ(X:Cx)(pos:Pos)(keys:List (Option Expr))(values:List Expr)(XR:List (TE×TE)):Prop:=
 ∀(pins:QS) (s:Shared) (O:St) (H:Hp) (Q:List (V×V)->Hp->Prop),Inv X pins O H s->ub XR O H Q->
  wpAny (model X.prog X.w) X.A (evalPairs (pairTrees keys values X.env pos)) (fun vs s'=>∃ps H',Inv X pins O H' s'/\VV ps vs/\Q ps H') X.xe s
def Lc{X:Cx}{pos:Pos}:Ϯ X pos [] [] []:=fun pins s O H Q I h=>pairTrees_nil_walk ⟨[],H,I,.nil,h⟩
theorem Ob{X:Cx}{pos:Pos}{k v:Expr}{ks:List (Option Expr)}{vs:List Expr}{tk tv:TE}{XR:List (TE×TE)}(hk:PE X k tk)(hv:PE X v tv)(hr:Ϯ X pos ks vs XR):
  Ϯ X pos (some k::ks) (v::vs) ((tk,tv)::XR):=fun pins s O H Q I h=>
 pairTrees_cons_walk (TM (hk pins s O H _ I h) fun u s1 ⟨x,H1,I1,rx,q1⟩=>TM (hv pins s1 O H1 _ I1 q1) fun w2 s2 ⟨y,H2,I2,ry,q2⟩=>
  TM (hr pins s2 O H2 _ I2 q2) fun ws s3 ⟨ps,H3,I3,rel,q3⟩=>⟨(x,y)::ps,H3,I3,.cons ⟨rx,ry⟩ rel,q3⟩)
def hX(kvs more:List (Key×V)):List (Key×V):=more.foldl (fun acc kv=>dG acc kv.1 kv.2) kvs
def KV.merge:∀{more:List (Key×V)} {rs:List (Key×Value)} {kvs:List (Key×V)} {vs:List (Key×Value)},KV more rs->KV kvs vs->KV (hX kvs more) (merged vs rs):=by
 intro more rs kvs vs r;unfold KV at r;induction r generalizing kvs vs with
 |nil=>intro q;exact q
 | @cons p q ps qs h t ih=>
  intro r0;have e:KV (dG kvs p.1 p.2) (stored vs q.1 q.2):=by
   have:=r0.put p.1 h.2;rw[←h.1];exact this
  exact ih e
theorem sK:∀(more kvs:List (Key×V)),(hX kvs more).length<=kvs.length+more.length
 | [],kvs=>by show kvs.length<=kvs.length+0;omega
 |p::r,kvs=>by
  have h1:=sK r (dG kvs p.1 p.2);have h2:=nL kvs p.1 p.2;show(hX (dG kvs p.1 p.2) r).length<=_;rw[Qj];omega
theorem AY{P:Program}{w:World}:∀{kvs:List (Key×V)} {ws:List (Value×Value)},VV (kvs.map fun kv=>(kV kv.1,kv.2)) ws->∃rs,Carries (fv P w) ws rs/\KV kvs rs
 | [],_,r=>by rw[RP] at r;cases r;exact⟨[],True.intro,.nil⟩
 |p::kvs,_,r=>by
  rw[Qc] at r;cases r with
  | @cons a b as bs h t=>
   obtain⟨rs,c,q⟩:=AY (P:=P) (w:=w) t;obtain⟨b1,b2⟩:=b;exact(⟨(p.1,b2)::rs,⟨lf h.1,rfl,c⟩,.cons ⟨rfl,h.2⟩ q⟩)
def IH(XR:List (TE×TE)):TE:=fun O H Q=>∀p,H p=none->ub XR O (upd H p (.dK [])) fun ps H2=>H2 p=some (.dK [])/\∃kvs:List (Key×V),ps=kvs.map (fun kv=>(kV kv.1,kv.2))/\kvs.length<=15/\Q (.ref p) (upd H2 p (.dK (hX [] kvs)))
theorem Ll{X:Cx}{pos:Pos}{keys:List (Option Expr)}{values:List Expr}{XR:List (TE×TE)}(h:Ϯ X pos keys values XR)(hall:keys.all (·.isSome)=true)(hl:keys.length=values.length)(h0:keys≠[])
  (h15:keys.length<=15):PE X (.Dict keys values pos) (IH XR):=by
 intro pins s O H Q I q;have hn:=I.hok.fresh (P3 s.heap.objs.size);have I1:=I.laid (a:=s.heap.objs.size) (o:=.dK []) (h':=s.heap.push {cls:=.type "dict",data:=.dict #[]}) (t':=s.toks) (fun _ _ q=>P4 _ q) (P3 _) (zT s.heap I.big);refine wpAny_Dict_walk (knd:=fv X.prog X.w) hall hl h0 h15 (TM (h pins _ O _ _ I1 (q _ hn)) fun ws s2 hm=>?_);obtain⟨ps,H2,I2,rel,e,kvs,ep,lk,q2⟩:=hm;subst ep;obtain⟨rs,c,rk⟩:=AY (P:=X.prog) (w:=X.w) rel;obtain⟨z,hd,Υ,r0,dd⟩:=gO I2.hok e;cases r0;refine(⟨rs,c,dd,fun h' Vw hs=>⟨.ref s.heap.objs.size,_,?_,rfl,q2⟩⟩);have hz:(hX [] kvs).length<=sizeLine:=by
  have h1:=sK kvs [];rw[RT] at h1;rw[Rp];omega
 have he:∃q,h'.get? s.heap.objs.size=some q:=let ⟨q,_,_,hq,_⟩:=Vw;⟨q,hq⟩
 exact lz I2 (by rw[e];exact True.intro) hs he (mS hz hd (rk.merge .nil) Vw)
end L2
namespace Att
open PySem PySem.W PySem.Calls PyProof.Rows
def MB{P:Params}{h:Heap}:∀(ns:List Int) (vs:List Value),WellAll P h vs (ns.map WData.int)->IntsAre vs ns:=by
 intro ns;induction ns with
 |nil=>
  intro vs w;rw[RP] at w;cases w;exact .nil
 |cons n ns ih=>
  intro vs w;rw[Qc] at w;cases w with
  |cons a b=>
   cases a;exact .cons _ _ (ih _ b)
theorem MS{l:OpenLaw}{n:Nat}(hn:l.most=some n){P:Params}{h:Heap}{args:List WData}{vals:List Value}
  (Xc:l.row.toRowW.claim.pre args=true) (θ:WellAll P h vals args):
  ∃a vs ns,vals=[Value.ref a]/\args=[WData.list (ns.map WData.int)]/\h.get? a=some {cls:=.type "list",data:=.seq vs.toArray}/\IntsAre vs ns/\ns.length<=n:=by
 have hsh:WShape.hasAll [] args [.list .int]=true:=(pre_splitW Xc).1;have hc:l.pre.holds [] {args:=args}=true:=(pre_splitW Xc).2;obtain⟨d,r,rfl,h1,h2⟩:=hasAllW_cons hsh;obtain rfl:=hasAllW_nil h2;obtain⟨xs,rfl,h3⟩:=hasW_list h1;obtain⟨ns,rfl⟩:=items_int h3;have hlen:ns.length<=n:=by
  unfold OpenLaw.pre at hc;have h4:(WTm.not (.lt (.lit (.int (n:Int))) (.len (.arg 0)))).holds [] {args:=[.list (ns.map .int)]}=true:=by
   have h4:=(holds_andW hc).1;rw[hn] at h4;exact h4
  have h5:=condW_of h4 (w_not (w_lt w_lit (w_len_list (w_arg rfl))));rw[Qb] at h5;refine Nat.le_of_not_lt fun q=>?_;have q':(n:Int)<((ns.length:Nat):Int):=by omega
  first
   |(rw[QC q'] at h5;exact absurd h5 (by decide))
   |(simp at h5;omega)
 cases θ with
 |cons w1 w2=>
  cases w2;cases w1 with
  |list ho hall=>exact⟨_,_,ns,rfl,rfl,ho,MB ns _ hall,hlen⟩
def Hq(l:OpenLaw)(args:List WData):l.row.toRowW.claim.post args (.bool true) args=true:=
 postW_of (r:=l.row.toRowW) (X:=(true==true))
  (show WShape.has [] (.bool true) .bool=true by first|rfl|decide|simp[WShape.has,WShape.arms,WShape.armsAll])
  (show(WTm.eq .res (.lit (.bool true))).value [] {args:=args,res:=some (.bool true),after:=args}=some (.bool (true==true)) from w_eq_bool (w_res rfl) w_lit) rfl
theorem attach_call{l:OpenLaw}{n:Nat}{q:Program}{loose:List Str}{XP:(Str->Option Value)->Heap->Prop}{YP:World->Heap->Prop}{d:DefRec}
  (hn:l.most=some n) (Α:d.params.defaults=[])
  (call:∀(w:World) (Z1 ZT:Shared) (mg mb:Str->Option Value) (fa:Addr) (o:Obj) (pm cd doc:Value) (a:Addr) (vs:List Value) (ns:List Int),
   Ground q loose [] XP w Z1 mg mb ZT.heap->YP w ZT.heap->
   ZT.heap.get? fa=some o->o.data=.func (docDef d.name d.params d.body d.scope pm cd doc)->ZT.heap.CodeRec cd d.name->mg d.name=some (.ref fa)->
   ZT.heap.get? a=some {cls:=.type "list",data:=.seq vs.toArray}->IntsAre vs ns->ns.length<=n->ZT.gens=#[]->
   codeAny (model l.prog w) callerA (.call (.ref fa) ⟨[.ref a],[]⟩) (fun r s'=>r=.ok (.ret (.bool true))/\OldK ZT.heap s'.heap/\s'.os=ZT.os/\AllBare s'.gens) ZT):
  WalkO q loose XP YP l.row.toRowW d [] (fun f vs=>PySem.call f vs):=by
 intro w Z1 ZT mg mb G Y fa o pm cd doc dV kV ho hd V2 hD hmg hg args vals as Xc hlay hrd θ hlo;obtain rfl:dV=.none:=Dflts.none hD Α;obtain rfl:kV=.none:=Dflts.noKw hD;obtain⟨a,vs,ns,rfl,rfl,YM,hints,hlen⟩:=MS hn Xc θ;refine(enter_call (R0 (call w Z1 ZT mg mb fa o pm cd doc a vs ns G Y ho (fd_plain hd) V2 hmg YM hints hlen hg) fun r s' hq=>?_));obtain⟨rfl,h2,h3,h4⟩:=hq;exact(⟨.inl ⟨.bool true,.bool true,[],rfl,fun _=>rfl,.bool true,Hq l _,fun _=>⟨List.Pairwise.nil,fun _ hm=>(nomatch hm)⟩⟩,h2,h3,h4⟩)
end Att
namespace L2
open PySem PySem.Spec PyProof.Rows
theorem yF:∀{vs:List Value} {ns:List Int},IntsAre vs ns->Vals (ns.map V.int) vs
 |_,_,.nil=>.nil
 |_,_,.cons n t h=>.cons ⟨t,rfl⟩ (yF h)
def qk(H:Hp):Prop:=∀b,H b=none\/∃o xs,H b=some (.frz o (.lst xs))
theorem He{P:Program}{w:World}{K:Frag}{mg mb:Str->Option Value}{CX:V7}{k:Nat}{fa a:Addr}{fd:FuncData}{x:Str}{sp:Sp}{ZT:Shared}{vs:List Value}{ns:List Int}
  (KX:K.In ZT.heap) (Yl:ZT.heap.Ns mainGlobals mg) (hb:ZT.heap.Ns builtinsNs mb) (_z:∀x:Str,x≠"__name__"->mb x=bootBuiltins x) (_e:ZT.heap.NoLimit) (hg:ZT.gens=#[])
  (ha:ZT.heap.get? a=some {cls:=.type "list",data:=.seq vs.toArray}) (hi:IntsAre vs ns) (hl:ns.length<=sizeLine) (hr:TU k callerA)
  (F:∀base:Heap,K.In base->base.Ns mainGlobals mg->TJ P w K mg base CX k fa fd [x] sp) (Δ:∀(s:Shared) (u:Value),BindsTo s fd ⟨[u],[]⟩ [(x,u)])
  (XE:∀H:Hp,qk H->T9 K H a (ns.map V.int)->sp [.ref a] H (fun v _=>v=.bl true) fun _ _ _=>False)
  (hCX:∀H e s',CX [] H ZT (fun _ _ _=>False) e s'->False):
  codeAny (model P w) callerA (.call (.ref fa) ⟨[.ref a],[]⟩) (fun r s'=>r=.ok (.ret (.bool true))/\OldK ZT.heap s'.heap/\s'.os=ZT.os/\AllBare s'.gens) ZT:=by
 have rv:=yF hi;have lenV:=hi.length;have core:∀H:Hp,qk H->T9 K H a (ns.map V.int)->Ua P w H ZT.heap->(∀b,H b≠none->b=a)->(H a≠none->K.lookup a=none)->
   codeAny (model P w) callerA (.call (.ref fa) ⟨[.ref a],[]⟩) (fun r s'=>r=.ok (.ret (.bool true))/\OldK ZT.heap s'.heap/\s'.os=ZT.os/\AllBare s'.gens) ZT:=by
  intro H hO hS hok hA hK;have WC:∀{b:Addr} {o:Obj},ZT.heap.get? b=some o->H b=none->(jg ZT.heap H).get? b=some o:=fun e n=>M0 e n;have α:∀{b:Addr} {o:Obj} {es:Array DictEntry} {ep:Nat},ZT.heap.get? b=some o->o.data=.dict es ep->H b=none:=fun{b o es ep} e d=>by
   cases q:H b with
   |none=>rfl
   |some u=>
    have e':b=a:=hA b (by rw[q];simp);subst e';rw[ha] at e;cases e;have d':Data.seq vs.toArray _=Data.dict es ep:=d;cases d'
  have ϐ:∀{b:Addr} {m:Str->Option Value},ZT.heap.Ns b m->(jg ZT.heap H).Ns b m:=fun{b m} ⟨o,es,ep,e,d,r⟩=>⟨o,es,ep,WC e (α e d),d,r⟩
  have hKb:K.In (jg ZT.heap H):=fun b o e=>WC (KX b o e) (by
   cases q:H b with
   |none=>rfl
   |some u=>
    have e':b=a:=hA b (by rw[q];simp);subst e';rw[hK (by rw[q];simp)] at e;cases e)
  have hM:Mod K mg (jg ZT.heap H):=⟨hKb,ϐ Yl,⟨mb,ϐ hb,_z⟩,let ⟨mc,h1,h2⟩:=_e;⟨mc,ϐ h1,h2⟩⟩
  have e0:V6 P w K mg (jg ZT.heap H) callerA [] ZT H:=⟨rfl,hM,fun b o e=>NF e,Nat.le_of_eq (J6 _ _),trivial,fun b hb=>absurd (show b∈([]:List Addr) from hb) (by simp),hok,.of_eq hg⟩
  refine R0 ((F _ hKb (ϐ Yl)).run callerA [] ZT H ⟨[.ref a],[]⟩ [.ref a] [.ref a] _ _ hr e0 (Δ ZT (.ref a)) (.cons rfl .nil) (XE H hO hS)) fun r s' h=>?_;cases r with
  |error e=>exact(hCX H e s' h).elim
  |ok fl=>
   cases fl with
   |next=>exact False.elim h
   |brk=>exact False.elim h
   |cont=>exact False.elim h
   |ret u=>
    obtain⟨v,H',os,bare,un,_Y,r',q⟩:=h;have q':v=.bl true:=q;subst q';obtain rfl:u=Value.bool true:=r';refine⟨rfl,OldK.of_keep fun b o e=>?_,os,bare⟩;cases q:H b with
    |none=>exact un.keep b o e q (by intro z;exact absurd (show b∈([]:List Addr) from z) (by simp)) (by simp)
    |some u=>
     rcases hO b with z|⟨ob,xs,z⟩
     .rw[q] at z;cases z
     .have z2:=un.frzs b ob _ z;obtain⟨e1,_⟩:=hok b _ z;obtain⟨e2,_⟩:=_Y b _ z2;rw[e] at e1;cases e1;exact e2
 cases hk:K.lookup a with
 |some o=>
  have e:=KX a o hk;rw[ha] at e;cases e;refine core (fun _=>none) (fun _=>.inl rfl) (.inr ⟨_,vs.toArray,_,hk,rfl,rfl,rfl,by rw[Qh,lenV];exact hl,by simpa using rv⟩) (fun b u z=>by have z':(none:Option HO)=some u:=z;cases z') (fun b z=>absurd rfl z) fun z=>absurd rfl z
 |none=>
  refine core (fun b=>if b=a then some (.frz {cls:=.type "list",data:=.seq vs.toArray} (.lst (ns.map V.int))) else none) (fun b=>?_) (.inl (.inr ⟨{cls:=.type "list",data:=.seq vs.toArray},if_pos rfl⟩)) (fun b u z=>?_) (fun b z=>?_) fun _=>hk
  .by_cases hb:b=a
   .exact .inr ⟨_,_,if_pos hb⟩
   .exact .inl (if_neg hb)
  .by_cases hb:b=a
   .have z':=(if_pos hb).symm.trans z;cases z';subst hb;exact⟨ha,by rw[Qb];exact hl,vs,_,rv,ha⟩
   .have z':=(if_neg hb).symm.trans z;cases z'
  .by_cases hb:b=a
   .exact hb
   .exact absurd (if_neg hb) z
theorem walk_of{l:PySem.W.OpenLaw}{n k:Nat}{q:Program}{loose:List Str}{XP:(Str->Option Value)->Heap->Prop}{YP:World->Heap->Prop}{d:DefRec}{K:Params->Frag}{CX:World->V7}{sp:World->Sp}{x:Str}
  (hn:l.most=some n) (Ϝ:n<=sizeLine) (Α:d.params.defaults=[]) (hr:TU k callerA)
  (hY:∀(w:World) (h:Heap),YP w h->(K w.params).In h)
  (F:∀(w:World) (mg:Str->Option Value) (fa:Addr) (h:Heap),(K w.params).In h->h.Ns mainGlobals mg->mg d.name=some (.ref fa)->
   ∃fd:FuncData,(∀(s:Shared) (u:Value),BindsTo s fd ⟨[u],[]⟩ [(x,u)])/\
    ∀base:Heap,(K w.params).In base->base.Ns mainGlobals mg->TJ l.prog w (K w.params) mg base (CX w) k fa fd [x] (sp w))
  (XE:∀(w:World) (H:Hp) (a:Addr) (ns:List Int),ns.length<=n->qk H->T9 (K w.params) H a (ns.map V.int)->sp w [.ref a] H (fun v _=>v=.bl true) fun _ _ _=>False)
  (hCX:∀(w:World) (H:Hp) (s:Shared) (e:Value) (s':Shared),CX w [] H s (fun _ _ _=>False) e s'->False):
  PySem.W.WalkO q loose XP YP l.row.toRowW d [] (fun f vs=>PySem.call f vs):=by
 refine Att.attach_call hn Α fun w Z1 ZT mg mb fa o pm cd doc a vs ns G Y ho hd V2 hmg YM hints hlen hg=>?_;have KX:=hY w _ Y;obtain⟨fd,hb,hF⟩:=F w mg fa _ KX G.T.g hmg;exact(He KX G.T.g G.T.b G.T.builtins G.T.nolimit hg YM hints (QL hlen Ϝ) hr hF hb (fun H hO hS=>XE w H a ns hlen hO hS) fun H e s'=>hCX w H ZT e s')
def gL(s:Stmt)(j:Nat):Stmt:=match s with
 | .ClassDef _ _ _ body _ _ _ _ _ _ _=>body.getD j (.Pass ⟨0,0,0,0⟩)
 |_=>.Pass ⟨0,0,0,0⟩
def iz(s:Stmt):Arguments:=match s with
 | .FunctionDef _ a _ _ _ _ _ _ _ _=>a
 |_=>{posonlyargs:=[],args:=[],vararg:=none,kwonlyargs:=[],kw_defaults:=[],kwarg:=none,defaults:=[]}
def gh(s:Stmt):List Stmt:=match s with
 | .FunctionDef _ _ b _ _ _ _ _ _ _=>b
 |_=>[]
def c9(s:Stmt):Scope:=match s with
 | .FunctionDef _ _ _ _ _ _ sc _ _ _=>sc
 |_=>{kind:=.function,names:=[],isGenerator:=false,isCoroutine:=false}
abbrev T1:V7:=fun _ _ _ _ _ _=>False
abbrev E0:XK:=fun _ _ _=>False
def sq{X:Cx}:jT T1 X E0:=fun _ _ _ _ _ _ _ h=>h.elim
structure T2 (K:Frag) (x qual:Str) (st:Stmt) (f:Addr) (fd:FuncData):Prop where
 ex:∃(oc:Value) (od:Option Addr) (kV doc pm:Value) (an:Option Addr) (cdv ct:Value) (osl:Array (Option Value)),
  fd=fnOf x qual (iz st) (gh st) (c9 st) .none kV doc pm an cdv ct/\K.lookup f=some ⟨oc,od,.func fd,osl⟩/\codeIn K cdv qual=true
 kp:keepIn K (.ref f)=true
section
variable {P:Program} {w:World} {K:Frag} {mg:Str->Option Value} {base:Heap}
theorem T2.ok{x qual:Str}{st:Stmt}{f:Addr}{fd:FuncData}{N ps:List Str}{k:Nat}{sp:Sp}(F:T2 K x qual st f fd)(S:TC N ps (c9 st))(len:∀vs H Q E,sp vs H Q E->vs.length=ps.length)
  (Vp:∀(cdv:Value) (A:Around) (outer:List Env) (s:Shared) (H:Hp) (vs:List V) (Q:VK) (E:XK),TU k (A.deeper (envOfC qual (c9 st) s.heap.objs.size f cdv))->sp vs H Q E->
   ∃t,UT (dB T1 P w K mg base N qual (c9 st) f cdv A outer s H E).nox (gh st) t/\t {nx:=fun _ H'=>Q .non H',rt:=Q} (iD N vs) H):TJ P w K mg base T1 (k+1) f fd ps sp:=by
 obtain⟨oc,od,kV,doc,pm,an,cdv,ct,osl,rfl,lk,V2⟩:=F.ex;refine(y8 lk V2 S len fun A outer s H vs Q E hr XE=>?_);obtain⟨t,h,q⟩:=Vp cdv A outer s H vs Q E hr XE;exact(⟨t,h.nox,q⟩)
theorem T2.binds{x qual:Str}{st:Stmt}{f:Addr}{fd:FuncData}{ps:List Str}(F:T2 K x qual st f fd)
  (h:∀(kV doc pm:Value) (an:Option Addr) (cdv ct:Value) (us:List Value),us.length=ps.length->bindArgs (fnOf x qual (iz st) (gh st) (c9 st) .none kV doc pm an cdv ct) ⟨us,[]⟩=pure (ps.zip us)):Binds K fd ps []:=by
 obtain⟨oc,od,kV,doc,pm,an,cdv,ct,osl,rfl,lk,V2⟩:=F.ex;exact(.all (h kV doc pm an cdv ct))
theorem AB{x qual:Str}{st:Stmt}{f:Addr}{oc:Value}{od an:Option Addr}{osl:Array (Option Value)}{kV doc pm cdv ct:Value}(l:K.lookup f=some ⟨oc,od,.func (fnOf x qual (iz st) (gh st) (c9 st) .none kV doc pm an cdv ct),osl⟩)
  (c:codeIn K cdv qual=true) (k:keepIn K (.ref f)=true):T2 K x qual st f (fnOf x qual (iz st) (gh st) (c9 st) .none kV doc pm an cdv ct):=⟨⟨oc,od,kV,doc,pm,an,cdv,ct,osl,rfl,l,c⟩,k⟩
end
section
variable {X:Cx}
theorem pv(i:Nat){x:Str}{pos:Pos}(hN:X.N[i]?=some x:=by rfl)(hv:Ο X.env.scope x:=by first|exact Or.inl rfl|exact Or.inr (Or.inl rfl)|exact Or.inr (Or.inr rfl))(hd:(x==("__debug__":Str))=false:=by decide)
  (V2:(x==("__classdict__":Str))=false:=by decide):PE X (.Name x pos) (AW i):=za hN hv hd V2
end
def yy{A Z8:Prop}(h:Z8):if false=true then A else Z8:=by
 rw[if_neg QF];exact h
def ym{A Z8:Prop}(h:A):if true=true then A else Z8:=by
 rw[if_pos rfl];exact h
def ic{c A Z8:Prop} [Decidable c](h1:c->A)(h2:¬c->Z8):if c then A else Z8:=by
 by_cases h:c
 .rw[if_pos h];exact h1 h
 .rw[if_neg h];exact h2 h
section
variable {X:Cx}
theorem Ol:gb X (.builtin "len") (fun xs H Q=>∃a kvs,xs=[V.ref a]/\H a=some (.dK kvs)/\Q (.int kvs.length) H):=by
 intro pins s O H xs us Q I r h;obtain⟨a,kvs,rfl,ha,q⟩:=h;obtain⟨u,rfl,ru⟩:=gK r;cases ru;exact(L1 I (.inl ha) fun t s' I'=>⟨.int kvs.length,H,I',⟨t,rfl⟩,q⟩)
end
section
variable {κ:Type} [DecidableEq κ]
end
end L2
namespace Tim
open PySem PyProof.Rows
end Tim
namespace L2
open PySem PySem.Spec PyProof.Rows
def c3(X:Cx)(N':List Str)(scope:Scope)(cl:List (Str×Addr))(C:Addr)(Z1:Shared)(Z0:Hp)(ex:List Addr):Cx:=
 {X with N:=N',Z1:=Z1,Z0:=Z0,env:=compEnvC scope cl C X.env,outer:=X.stack,ex:=ex,fn:=fun x=>scope.names.lookup x==some NameKind.cell,pn:=[]}
theorem vf:∀(names:List (Str×NameKind)) (acc:List (Str×Addr)),(∀y∈names,y.2=.free->∃c,env.cells.lookup y.1=some c)->
  (∀y c,acc.lookup y=some c->env.cells.lookup y=some c)->
  ∃cl,(forIn names acc fun x r=>if(x.2==NameKind.free)=true then do let c ←cellOf env x.1;pure (ForInStep.yield ((x.1,c)::r)) else pure (ForInStep.yield r):Sem (List (Str×Addr)))=pure cl/\
   (∀y c,cl.lookup y=some c->env.cells.lookup y=some c)/\(∀y,(y,NameKind.free)∈names->∃c,cl.lookup y=some c)/\∀y c,acc.lookup y=some c->∃c',cl.lookup y=some c'
 | [],acc,_,ha=>⟨acc,by simp,ha,fun _ h=>by simp at h,fun y c h=>⟨c,h⟩⟩
 |(n,k)::r,acc,h,ha=>by
  by_cases hk:k=.free
  .subst hk;obtain⟨c,hc⟩:=h (n,.free) RN rfl;have e:cellOf env n=pure c:=by unfold cellOf;rw[hc]
   obtain⟨cl,e1,h1,h2,h3⟩:=vf r ((n,c)::acc) (fun y hy=>h y (QO _ hy)) (fun y d hd=>by
    rw[Qy] at hd;split at hd
    .rename_i hb;have:y=n:=by simpa using hb
     subst this;cases hd;exact hc
    .exact ha y d hd)
   refine⟨cl,?_,h1,fun y hy=>?_,fun y d hd=>?_⟩
   .rw[List.forIn_cons,e];simpa using e1
   .rcases Qz.mp hy with z|z
    .cases z;exact h3 n c (by simp[Qy])
    .exact h2 y z
   .by_cases hy:y=n
    .subst hy;exact h3 y c (by simp[Qy])
    .have hb:(y==n)=false:=by simpa using hy
     exact h3 y d (by simp only[Qy,hb];exact hd)
  .have hb:(k==NameKind.free)=false:=by simpa using hk
   obtain⟨cl,e1,h1,h2,h3⟩:=vf r acc (fun y hy=>h y (QO _ hy)) ha;refine(⟨cl,?_,h1,fun y hy=>?_,h3⟩)
   .rw[List.forIn_cons];simpa[hb] using e1
   .rcases Qz.mp hy with z|z
    .cases z;exact absurd rfl hk
    .exact h2 y z
theorem nN{scope:Scope}{env:Env}(h:∀y∈scope.names,y.2=.free->∃c,env.cells.lookup y.1=some c):
  ∃cl,closureFor scope env=pure cl/\(∀y c,cl.lookup y=some c->env.cells.lookup y=some c)/\∀y,(y,NameKind.free)∈scope.names->∃c,cl.lookup y=some c:=by
 obtain⟨cl,e,h1,h2,_⟩:=vf (env:=env) scope.names [] h (fun _ _ z=>by simp at z);refine(⟨cl,?_,h1,h2⟩);unfold closureFor;show((forIn scope.names [] fun x r=>if(x.2==NameKind.free)=true then do let c ←cellOf env x.1;pure (ForInStep.yield ((x.1,c)::r)) else pure (ForInStep.yield r):Sem (List (Str×Addr))) >>= fun cs=>pure cs)=pure cl;rw[e];rfl
section
variable {prog:Program} {w:World} {A:Around} {R:Result->Shared->Prop} {s:Shared}
theorem L6{elt target iter:Expr}{ifs:List Expr}{scope:Scope}{pos:Pos}{it acc:Value}{env:Env}(I:Nat->Shared->Prop)
  (turn:∀n s,I n s->wpAny (model prog w) A (pyNext it) (fun r ZT=>match r with
   |none=>R (.ok .next) ZT
   |some v=>wpAny (model prog w) A (letOwnedTupleGo target it v) (fun _ Zz=>wpAny (model prog w) A (assign target env v) (fun _ ZM=>
     wpAny (model prog w) A (forIn ifs true fun c r=>if r=true then do let ok ←isTrue c env (eval c env);pure (ForInStep.yield ok) else pure (ForInStep.yield r)) (fun ok ZJ=>
      if ok=true then wpAny (model prog w) A (eval elt env) (fun x ZG=>
       wpAny (model prog w) A (call (.builtin "list.append") [acc,x]) (fun _ ZA=>∃m,m<n/\I m ZA) (fun _ _=>False) ZG) (fun _ _=>False) ZJ
      else ∃m,m<n/\I m ZJ) (fun _ _=>False) ZM) (fun _ _=>False) Zz) (fun _ _=>False) ZT) (fun _ _=>False) s)
  (n:Nat) (h:I n s):codeAny (model prog w) A (.compLoop (.ListComp elt [⟨target,iter,ifs,0⟩] scope pos) 0 it acc env) R s:=by
 refine S1 rfl I (fun n s hI=>?_) n h;show wpAny _ A ((compTurn (.ListComp elt [⟨target,iter,ifs,0⟩] scope pos) 0 it acc env).onRaise (fun x=>do noteFrame x env;theTreesLotGoes x)) _ _ s;refine S8 ?_;rw[compTurn_list];refine P8 (E:=fun _ _=>False) ?_ (fun _ _ x=>x) fun _ _ x=>x.elim;refine P2 (Rc (P2 (P8 (turn n s hI) (fun r ZT ZO=>?_) fun _ _ h'=>h')));cases r with
 |none=>exact P6 ZO
 |some v=>
  refine P2 (P8 ZO (fun _ Zz Zt=>?_) fun _ _ h'=>h');refine P2 (P8 Zt (fun _ ZM ZC=>P2 (P8 ZC (fun ok ZJ ZB=>?_) fun _ _ h'=>h')) fun _ _ h'=>h');cases ok with
  |false=>exact P6 ⟨rfl,ZB⟩
  |true=>
   exact P2 (P2 (P8 ZB (fun x ZG Zs=>P2 (P8 Zs (fun _ ZA Zr=>P6 (P6 ⟨rfl,Zr⟩)) fun _ _ h'=>h')) fun _ _ h'=>h'))
end
theorem xg{env:Env}{x:Str}:∀{names:List (Str×NameKind)},names.lookup x=some .free->
  (names.map fun(n,k)=>if(k==NameKind.free&&env.scope.kind==.function&&env.kindOf n==some .cell) then(n,NameKind.cell) else(n,k)).lookup x=some .free\/
  (names.map fun(n,k)=>if(k==NameKind.free&&env.scope.kind==.function&&env.kindOf n==some .cell) then(n,NameKind.cell) else(n,k)).lookup x=some .cell
 | [],h=>by simp at h
 |(n,k)::r,h=>by
  have ih:=@xg env x r;show List.lookup x ((if(k==NameKind.free&&env.scope.kind==.function&&env.kindOf n==some .cell)=true then(n,NameKind.cell) else(n,k))::_)=_\/List.lookup x ((if(k==NameKind.free&&env.scope.kind==.function&&env.kindOf n==some .cell)=true then(n,NameKind.cell) else(n,k))::_)=_;cases hx:x==n with
  |true=>
   simp only[Qy,hx] at h;cases h;by_cases hc:(NameKind.free==NameKind.free&&env.scope.kind==.function&&env.kindOf n==some .cell)=true
   .rw[if_pos hc];exact .inr (by simp[Qy,hx])
   .rw[if_neg hc];exact .inl (by simp[Qy,hx])
  |false=>
   simp only[Qy,hx] at h;by_cases hc:(k==NameKind.free&&env.scope.kind==.function&&env.kindOf n==some .cell)=true
   .rw[if_pos hc];simp only[Qy,hx];exact ih h
   .rw[if_neg hc];simp only[Qy,hx];exact ih h
theorem zY{env:Env}{x:Str}:∀{names:List (Str×NameKind)},
  ((names.map fun(n,k)=>if(k==NameKind.free&&env.scope.kind==.function&&env.kindOf n==some .cell) then(n,NameKind.cell) else(n,k)).lookup x=some .cell\/
   (names.map fun(n,k)=>if(k==NameKind.free&&env.scope.kind==.function&&env.kindOf n==some .cell) then(n,NameKind.cell) else(n,k)).lookup x=some .free)->names.lookup x=some .free\/names.lookup x=some .cell
 | [],h=>by simp at h
 |(n,k)::r,h=>by
  have ih:=@zY env x r;have h:List.lookup x ((if(k==NameKind.free&&env.scope.kind==.function&&env.kindOf n==some .cell)=true then(n,NameKind.cell) else(n,k))::(r.map fun(n,k)=>if(k==NameKind.free&&env.scope.kind==.function&&env.kindOf n==some .cell) then(n,NameKind.cell) else(n,k)))=some .cell\/
   List.lookup x ((if(k==NameKind.free&&env.scope.kind==.function&&env.kindOf n==some .cell)=true then(n,NameKind.cell) else(n,k))::(r.map fun(n,k)=>if(k==NameKind.free&&env.scope.kind==.function&&env.kindOf n==some .cell) then(n,NameKind.cell) else(n,k)))=some .free:=h
  cases hx:x==n with
  |true=>
   by_cases hc:(k==NameKind.free&&env.scope.kind==.function&&env.kindOf n==some .cell)=true
   .have:k=.free:=by
     have z:=(Bool.and_eq_true_iff.mp (Bool.and_eq_true_iff.mp hc).1).1;simpa using z
    subst this;exact .inl (by simp[Qy,hx])
   .rw[if_neg hc] at h;simp only[Qy,hx] at h⊢;exact h.symm
  |false=>
   have:∀p:NameKind,List.lookup x ((if(k==NameKind.free&&env.scope.kind==.function&&env.kindOf n==some .cell)=true then(n,NameKind.cell) else(n,k))::(r.map fun(n,k)=>if(k==NameKind.free&&env.scope.kind==.function&&env.kindOf n==some .cell) then(n,NameKind.cell) else(n,k)))=some p↔(r.map fun(n,k)=>if(k==NameKind.free&&env.scope.kind==.function&&env.kindOf n==some .cell) then(n,NameKind.cell) else(n,k)).lookup x=some p:=fun p=>by
    by_cases hc:(k==NameKind.free&&env.scope.kind==.function&&env.kindOf n==some .cell)=true
    .rw[if_pos hc];simp only[Qy,hx]
    .rw[if_neg hc];simp only[Qy,hx]
   rw[this .cell,this .free] at h;have:=ih h;simp only[Qy,hx];exact this
theorem iB:∀(names:List (Str×NameKind)) (n:Nat) (acc:List (Str×Addr)),cellsFrom n names acc=cellsFrom n names []++acc
 | [],_,_=>rfl
 |(name,kind)::r,n,acc=>by
  unfold cellsFrom;split
  .rw[iB r (n+1) ((name,n)::acc),iB r (n+1) [(name,n)],Sg];rfl
  .exact iB r n acc
theorem tq:∀(names:List (Str×NameKind)) (n:Nat) (acc:List (Str×Addr)),(x,c)∈cellsFrom n names acc->(x,NameKind.cell)∈names\/(x,c)∈acc
 | [],_,_,h=>.inr h
 |(name,kind)::r,n,acc,h=>by
  unfold cellsFrom at h;split at h
  .rename_i hk;have V1:kind=.cell:=by simpa using hk
   rcases tq r (n+1) _ h with z|z
   .exact .inl (QO _ z)
   .rcases Qz.mp z with z|z
    .cases z;rw[V1];exact .inl RN
    .exact .inr z
  .rcases tq r n acc h with z|z
   .exact .inl (QO _ z)
   .exact .inr z
structure TK (X:Cx) (N' own:List Str) (cap:List (Str×Nat)) (scope:Scope):Prop where
 kind:scope.kind=.function
 own1:∀y∈scope.names,y.2=.cell->scope.names.lookup y.1=some .cell
 free1:∀y∈scope.names,y.2=.free->scope.names.lookup y.1=some .free
 names:∀y∈scope.names,y.2=.local->scope.names.lookup y.1=some .local
 free:∀y∈scope.names,y.2=.free->X.env.kindOf y.1=some .cell\/X.env.kindOf y.1=some .free
 eq:N'=own++cap.map (·.1)
 cap:∀p∈cap,X.N[p.2]?=some p.1/\scope.names.lookup p.1=some .free/\(X.env.kindOf p.1=some .cell\/X.env.kindOf p.1=some .free)
def ff(own:List Str)(cap:List (Str×Nat))(O:St):St:=own.map (fun _=>none)++cap.map fun p=>(O[p.2]?).join
section
variable {X:Cx} {pins:QS} {O:St} {H:Hp} {s:Shared} {N' own:List Str} {cap:List (Str×Nat)} {scope:Scope} {cl:List (Str×Addr)} {fp:List Addr}
structure CellsAre (X:Cx) (scope:Scope) (C:Addr) (cl cs:List (Str×Addr)):Prop where
 old:∀y c,cs.lookup y=some c->(cl.lookup y=some c/\scope.names.lookup y≠some .cell)\/(C<c/\scope.names.lookup y=some .cell)
 free:∀y c,cl.lookup y=some c->scope.names.lookup y≠some .cell->cs.lookup y=some c
 has:∀y,scope.names.lookup y=some .cell->∃c,cs.lookup y=some c
 inj:∀x y c,C<c->cs.lookup x=some c->cs.lookup y=some c->x=y
theorem jH{J:Type}{x:Str}:∀{l r:List (Str×J)},(l++r).lookup x=(l.lookup x).or (r.lookup x)
 | [],r=>by simp
 |(k,v)::l,r=>by
  have ih:=@jH J x l r;rw[List.cons_append,Qy,Qy];cases x==k with
  |true=>rfl
  |false=>exact ih
theorem qS{h:Heap}{C:Addr}(hC:h.objs.size=C+1)(S:TK X N' own cap scope)(VQ:∀y c,cl.lookup y=some c->¬C<c):CellsAre X scope C cl (cellsFrom (C+1) scope.names cl):=by
 have ok:=cellsFrom_ok scope.names h (C+1) [] ⟨fun _ _ hm=>(nomatch hm),List.Pairwise.nil⟩ (by rw[hC];exact P3 _);rw[hC] at ok;have own:∀y c,(cellsFrom (C+1) scope.names []).lookup y=some c->C<c/\scope.names.lookup y=some .cell:=fun y c e=>by
  have m:=QJ e;refine⟨(ok.empty y c m).2,?_⟩;rcases tq _ _ _ m with z|z
  .exact S.own1 _ z rfl
  .simp at z
 have no:∀y,scope.names.lookup y≠some .cell->(cellsFrom (C+1) scope.names []).lookup y=none:=fun y hy=>by
  cases e:(cellsFrom (C+1) scope.names []).lookup y with
  |none=>rfl
  |some c=>exact absurd (own y c e).2 hy
 have has:∀y,scope.names.lookup y=some .cell->∃c,(cellsFrom (C+1) scope.names []).lookup y=some c:=fun y hy=>Q3.mp (Se scope.names (C+1) [] (.inl hy));refine⟨fun y c e=>?_,fun y c e hy=>?_,fun y hy=>?_,fun x y c hc e1 e2=>?_⟩
 .rw[iB,jH] at e;cases q:(cellsFrom (C+1) scope.names []).lookup y with
  |none=>
   rw[q] at e;refine .inl ⟨e,fun z=>?_⟩;obtain⟨c',e'⟩:=has y z;rw[q] at e';cases e'
  |some c'=>
   rw[q] at e;have:c'=c:=Qx e;subst this;exact .inr (own y c' q)
 .rw[iB,jH,no y hy];exact e
 .obtain⟨c,e⟩:=has y hy;exact⟨c,by rw[iB,jH,e];rfl⟩
 .have tm:∀z,(cellsFrom (C+1) scope.names cl).lookup z=some c->(z,c)∈cellsFrom (C+1) scope.names []:=fun z e=>by
   rw[iB,jH] at e;cases q:(cellsFrom (C+1) scope.names []).lookup z with
   |none=>rw[q] at e;exact absurd hc (VQ z c e)
   |some c'=>
    rw[q] at e;have:c'=c:=Qx e;subst this;exact QJ q
  exact PySem.name_of_addr ok.apart (tm x e1) (tm y e2)
theorem Jq(I:Inv X pins O H s)(S:TK X N' own cap scope)(A:CellsAre X scope s.heap.objs.size cl cs)(c1:∀y c,cl.lookup y=some c->X.env.cells.lookup y=some c)(c2:∀y,(y,NameKind.free)∈scope.names->∃c,cl.lookup y=some c)
  (hf:∀b∈fp,eE X pins H b) (hlt:∀b∈fp,b<s.heap.objs.size):(c3 X N' scope cs s.heap.objs.size s H fp).Ok where
 mod:=I.ok.mod
 kind:=S.kind
 glob:=I.ok.glob
 blt:=I.ok.blt
 above:=P3 _
 inj:=fun x y c h1 h2=>by
  rcases A.old x c h1 with⟨a1,_⟩|⟨a1,_⟩
  .rcases A.old y c h2 with⟨b1,_⟩|⟨b1,_⟩
   .exact I.ok.inj x y c (c1 x c a1) (c1 y c b1)
   .obtain⟨v,o,ho,_⟩:=I.cell x c (c1 x c a1);exact absurd (Si b1 (Qa ho)) (QY _)
  .exact A.inj x y c a1 h1 h2
 has:=fun x h=>by
  rcases zY h with z|z
  .obtain⟨c,e⟩:=c2 x (QJ z);exact⟨c,A.free x c e (by rw[z];simp)⟩
  .exact A.has x z
 cab:=fun x c h e=>by
  have h':scope.names.lookup x=some .cell:=by
   have:(scope.names.lookup x==some NameKind.cell)=true:=h;simpa using this
  rcases A.old x c e with⟨_,z⟩|⟨z,_⟩
  .exact absurd h' z
  .exact Sc z
 hd:=I.ok.hd
 frames:=I.ok.frames
 stk:=.inl rfl
 exf:=fun b hb=>⟨Qk (hlt b hb),fun x c h=>by
  rcases A.old x c h with⟨z,_⟩|⟨z,_⟩
  .exact(hf b hb).2.2.2.2.1 x c (c1 x c z)
  .exact fun e=>absurd (Si (e▸z) (hlt b hb)) (QY _)⟩
 bs:=I.bs
 bsz:=QL I.ok.bsz I.sz
 noex:=fun b o e hb=>by
  rcases(hf b hb).2.2.2.1 with z|z
  .exact I.ok.noex b o e z
  .exact absurd (Qt (Qa e) (QL I.ok.bsz z)) (QY _)
 exfs:=fun b hb z=>by
  rcases Qz.mp (I.stkSub b z) with q|q
  .exact(hf b hb).2.1 q
  .exact(hf b hb).2.2.1 q
 funs:=I.stack
 frf:=I.stkFree
theorem T8(I:Inv X pins O H s)(S:TK X N' own cap scope)(A:CellsAre X scope s.heap.objs.size cl cs)(hA:∀y c,cs.lookup y=some c->s.heap.objs.size<c->h'.IsCell c none)
  (c1:∀y c,cl.lookup y=some c->X.env.cells.lookup y=some c) (c2:∀y,(y,NameKind.free)∈scope.names->∃c,cl.lookup y=some c)
  (hf:∀b∈fp,eE X pins H b) (hlt:∀b∈fp,b<s.heap.objs.size) (hk:∀b o,s.heap.get? b=some o->h'.get? b=some o) (hn:h'.Ns s.heap.objs.size m):
  Inv (c3 X N' scope cs s.heap.objs.size s H fp) [] (ff own cap O) H {s with heap:=h',toks:=t'}:=by
 refine⟨Jq I S A c1 c2 hf hlt,rfl,I.bare,Un.kept hk,⟨m,hn,fun i x v h1 h2 h3=>?_⟩,fun x c e=>?_,I.hok.fresh (P3 _),fun x c e=>?_,fun p hp=>absurd hp (by show p∉([]++[]:QS);simp),?_,?_⟩
 .have hi:own.length<=i:=by
   by_cases hi:own.length<=i
   .exact hi
   .unfold ff at h2;rw[Qe (by rw[Qb];omega),Qm] at h2;cases e:own[i]? with
    |none=>rw[e] at h2;cases h2
    |some a=>rw[e] at h2;cases h2
  have h1':(own++cap.map (·.1))[i]?=some x:=by rw[←S.eq];exact h1
  rw[QD hi,Qm] at h1';unfold ff at h2;rw[QD (by rw[Qb];exact hi),Qb,Qm] at h2;cases e:cap[i - own.length]? with
  |none=>rw[e] at h2;cases h2
  |some p=>
   rw[e] at h1' h2;have ex:p.1=x:=Qx h1';have ev:(O[p.2]?).join=some v:=Qx h2;have ev':O[p.2]?=some (some v):=by
    cases q:O[p.2]? with
    |none=>rw[q] at ev;cases ev
    |some z=>rw[q] at ev;exact congrArg some ev
   obtain⟨k1,k2,k3⟩:=S.cap p (Rq e);subst ex;obtain⟨m0,hn0,hl⟩:=I.loc;obtain⟨u,ru,lk⟩:=hl p.2 p.1 v k1 ev' (by rcases k3 with z|z;exact .inr (.inl z);exact .inr (.inr z));refine(⟨u,ru,?_⟩);rcases lk with⟨z,_⟩|⟨_,c,hc,T6⟩
   .rcases k3 with q|q<;>(rw[z] at q;cases q)
   .refine .inr ⟨?_,c,?_,?_⟩
    .rcases xg (env:=X.env) k2 with q|q
     .exact .inr q
     .exact .inl q
    .obtain⟨c',e'⟩:=c2 p.1 (QJ k2);have:=c1 _ _ e';rw[hc] at this;cases this;exact A.free _ _ e' (by rw[k2];simp)
    .obtain⟨o,ho,hd⟩:=T6;exact⟨o,hk _ _ ho,hd⟩
 .rcases A.old x c e with⟨z,_⟩|⟨z,_⟩
  .obtain⟨v,o,ho,hd⟩:=I.cell x c (c1 x c z);exact⟨v,o,hk _ _ ho,hd⟩
  .exact⟨none,hA x c e z⟩
 .rcases A.old x c e with⟨z,_⟩|⟨z,_⟩
  .exact I.freeC x c (c1 x c z)
  .exact I.hok.fresh (Sc z)
 .exact I.hok.kept hk
 .show(ff own cap O).length=N'.length;rw[S.eq];unfold ff;simp
end
def Up(X:Cx)(ifs:List Expr)(t:TT):Prop:=
 ∀(pins:QS) (s:Shared) (O:St) (H:Hp) (Q:Bool->Hp->Prop),Inv X pins O H s->t O H Q->
  wpAny (model X.prog X.w) X.A (forIn ifs true fun c r=>if r=true then do let ok ←isTrue c X.env (eval c X.env);pure (ForInStep.yield ok) else pure (ForInStep.yield r)) (TP X pins O Q) X.xe s
def L0:TT:=fun _ H Q=>Q true H
def KW{X:Cx}:Up X [] L0:=fun _ _ _ H _ I h=>wpAny_tests_nil ⟨H,I,h⟩
def Ee{X:Cx}{c:Expr}{t:TT}(h:PT X c t):Up X [c] t:=fun pins s O H Q I hw=>wpAny_tests_one (h pins s O H Q I hw)
theorem t5{M:Model}{A:Around}{E:OK}{s:Shared}{scope:Scope}{globals:Addr}{cl:List (Str×Addr)}{qual:Str}{env:Env}{Q:Env->Shared->Prop}
  (hQ:∀h',h'.Ns s.heap.objs.size (fun _=>none)->(∀b o,s.heap.get? b=some o->h'.get? b=some o)->(∀n c,(n,c)∈cellsFrom (s.heap.objs.size+1) scope.names []->h'.IsCell c none)->
   Q (newEnv scope s.heap.objs.size globals (cellsFrom (s.heap.objs.size+1) scope.names cl) qual none .none (some env) builtinsNs) {s with heap:=h'}):
  wpAny M A (newFunctionEnv scope globals cl [] qual none .none (some env)) Q E s:=by
 simp only[newFunctionEnv,RQ,if_true];refine P2 (wpAny_alloc ?_);refine P2 (wpAny_layCells _ (fun name kind cells=>by cases hkc:kind==NameKind.cell<;>simp[hkc]) _ _ _ _ ?_);have ok:=cellsFrom_ok scope.names (s.heap.push {cls:=.type "dict",data:=.dict #[]}) (s.heap.objs.size+1) [] ⟨fun _ _ hm=>(nomatch hm),List.Pairwise.nil⟩ (by rw[Q2];exact P3 _);rw[Q2] at ok;rw[show({s with heap:=s.heap.push {cls:=.type "dict",data:=.dict #[]}}:Shared).heap.objs.size=s.heap.objs.size+1 from Q2 ..];rw[List.forIn_nil];refine P2 (P6 (P6 ?_));exact hQ _ ((Heap.Ns.new s.heap (.type "dict")).keeps (pushCells_keeps _ _)) (fun b o e=>pushCells_keeps _ _ b o (P4 _ e)) fun n c hm=>(ok.empty n c hm).1
def nY(Z6:It)(g:TG)(tc:TT)(te:TE)(D:Addr)(ZL:St)(H0:Hp)(Z:Hp->Prop):Prop:=
 ∃W:Nat->Nat->St->Hp->Prop,(∃m,W 0 m ZL (upd H0 D (.lst [])))/\∀i m O H,W i m O H->
  (Z6.stop i H/\Z H)\/(Z6.go i H/\∃N:St->Hp->Prop,(∀ZZ H',N ZZ H'->∃m',m'<m/\W (i+1) m' ZZ H')/\∀x H',Z6.yld i H x H'->g x O H' fun ZV H2=>tc ZV H2 fun b H3=>
   if b=true then te ZV H3 fun v H4=>∃ys,H4 D=some (.lst ys)/\ys.length<sizeLine/\N ZV (upd H4 D (.lst (ys++[v]))) else N ZV H3)
section
variable {X:Cx} {pins:QS} {O:St} {N' own:List Str} {cap:List (Str×Nat)} {scope:Scope} {tg iter elt:Expr} {ifs:List Expr} {pos:Pos} {g:TG} {tc:TT} {te:TE}
theorem Fm{Y:Cx}{s:Shared}{ZL:St}{H2:Hp}{it D:Addr}{fp:List Addr}{tn:Nat->Heap->Prop}{Z6:It}{Z:Hp->Prop}{R:Result->Shared->Prop}
  (hx:∀e s,Y.xe e s->False) (hc:Y.calm=true) (hg:PG Y tg g) (ht:Up Y ifs tc) (he:PE Y elt te)
  (T:Turn Y.prog Y.w Y.K tg Z6 fp it tn) (J0:Inv Y [] ZL (upd H2 D (.lst [])) s) (VN:tn 0 s.heap) (f3:∀b∈fp,upd H2 D (.lst []) b=none)
  (Tx:∀{H':Hp},(∀b∈fp,H' b=none)->∀b∈fp,eE Y [] H' b) (h:nY Z6 g tc te D ZL H2 Z)
  (hR:∀ZN H4 s5,Inv Y [] ZN H4 s5->Z H4->R (.ok .next) s5):
  codeAny (model Y.prog Y.w) Y.A (.compLoop (.ListComp elt [⟨tg,iter,ifs,0⟩] scope pos) 0 (.ref it) (.ref D) Y.env) R s:=by
 obtain⟨W,⟨m0,w0⟩,turn⟩:=h;have VU:∀{J:Type} {t:Sem J} {Q:J->Shared->Prop} {s:Shared},wpAny (model Y.prog Y.w) Y.A t Q Y.xe s->wpAny (model Y.prog Y.w) Y.A t Q (fun _ _=>False) s:=fun q=>P8 q (fun _ _ z=>z) fun e s z=>hx e s z;obtain⟨P,hP⟩:∃P:Nat->Shared->Prop,∀n s',P n s'↔∃i ZZ H',Inv Y [] ZZ H' s'/\tn i s'.heap/\(∀b∈fp,H' b=none)/\W i n ZZ H':=⟨_,fun _ _=>Qg⟩
 refine L6 P ?_ m0 ((hP _ _).2 ⟨0,_,_,J0,VN,f3,w0⟩);rintro n s4 h4;obtain⟨i,ZN,H4,I4,Xn,X2,w4⟩:=(hP _ _).1 h4;rcases turn i n ZN H4 w4 with⟨stop,qz⟩|⟨go,N,hN,step⟩
 .refine P8 (T.done Y rfl rfl rfl hc i [] s4 ZN H4 (fun _ _=>False) I4 (Tx X2) Xn stop) (fun r s5 ⟨hr,I5⟩=>?_) fun _ _ z=>z;subst hr;exact hR ZN H4 s5 I5 qz
 .refine P8 (T.item Y rfl rfl rfl hc i [] s4 ZN H4 (fun _ _=>False) I4 (Tx X2) Xn go) (fun r s5 ⟨u,hr,h5⟩=>?_) fun _ _ z=>z;subst hr;refine P8 h5 (fun _ s6 hm=>?_) fun _ _ z=>z;obtain⟨x,H6,I6,r6,y6,Wb,Ι⟩:=hm;have I6':=I6.pinned (Tx Ι) (T.obj _ _ Wb);have again:∀{ZS:St} {H7:Hp} {s7:Shared},Inv Y ([]++jN fp s6.heap) ZS H7 s7->N ZS H7->∃m,m<n/\P m s7:=fun{ZS H7 s7} I7 n7=>by
   obtain⟨m',hm,w7⟩:=hN ZS H7 n7;refine(⟨m',hm,(hP _ _).2 ⟨i+1,ZS,H7,I7.unpinned,T.keep _ _ _ Wb fun b hb o e=>(I7.pin (b,o) (Qf _ (Qf _ (hV hb e)))).1,fun b hb=>?_,w7⟩⟩);obtain⟨o,e,d⟩:=T.obj _ _ Wb b hb;exact((I7.pin (b,o) (Qf _ (Qf _ (hV hb e)))).2.1)
  refine VU (TM (hg _ s6 ZN H6 x u _ I6' r6 (step x H6 y6)) fun _ s7 hm=>?_);obtain⟨ZS,H7,I7,q7⟩:=hm;refine(VU (TM (ht _ s7 ZS H7 _ I7 q7) fun b s8 hm=>?_));obtain⟨H8,I8,q8⟩:=hm;cases b with
  |false=>
   show ∃m,_;exact again I8 q8
  |true=>
   show wpAny _ _ _ _ _ _;refine VU (TM (he _ s8 ZS H8 _ I8 q8) fun y s9 hm=>?_);obtain⟨v,H9,I9,r9,ys,hy,hz,q9⟩:=hm;refine(VU (TM (vJ (X:=Y) _ s9 ZS H9 (.ref D) [v] (.ref D) [y] (fun _ H'=>N ZS H') I9 rfl (.cons r9 .nil) ⟨_,ys,v,rfl,rfl,hy,hz,q9⟩) fun _ s10 hm=>?_));obtain⟨_,H10,ϲ,_,X'⟩:=hm;exact(again ϲ X')
theorem zQ{s2:Shared}{H2:Hp}{it:Addr}{fp:List Addr}{tn:Nat->Heap->Prop}{Z6:It}{cl:List (Str×Addr)}{Z:Addr->Hp->Prop}{RR:Value->Addr->Result->Shared->Prop}{E:OK}
  (hx:∀e s,X.xe e s->False) (hc:X.calm=true) (S:TK X N' own cap scope)
  (hg:∀cl C Z1 Z0 ex,PG (c3 X N' scope cl C Z1 Z0 ex) tg g) (ht:∀cl C Z1 Z0 ex,Up (c3 X N' scope cl C Z1 Z0 ex) ifs tc) (he:∀cl C Z1 Z0 ex,PE (c3 X N' scope cl C Z1 Z0 ex) elt te)
  (I2:Inv X pins O H2 s2) (T:Turn X.prog X.w X.K tg Z6 fp it tn) (Ur:tn 0 s2.heap) (f2:∀b∈fp,eE X pins H2 b)
  (c1:∀y c,cl.lookup y=some c->X.env.cells.lookup y=some c) (c2:∀y,(y,NameKind.free)∈scope.names->∃c,cl.lookup y=some c)
  (h:∀D,H2 D=none->nY Z6 g tc te D (ff own cap O) H2 (Z D))
  (Ζ:∀D C s' m' H',Inv X pins O H' s'->s'.heap.Ns C m'->eE X pins H' C->Z D H'->RR (.ref D) C (.ok .next) s'):
  wpAny (model X.prog X.w) X.A (newList []) (fun acc ZJ=>wpAny (model X.prog X.w) X.A (newFunctionEnv scope X.env.globals cl [] X.env.qual none .none (some X.env)) (fun Vr ZG=>
   codeAny (model X.prog X.w) X.A (.compStart (.ListComp elt [⟨tg,iter,ifs,0⟩] scope pos) 0 (.ref it) acc {Vr with scope:=relabel scope X.env}) (RR acc Vr.locals) ZG) E ZJ) E s2:=by
 have hlt:∀b∈fp,b<s2.heap.objs.size:=fun b hb=>by
  obtain⟨o,e,_⟩:=T.obj _ _ Ur b hb;exact(Qa e)
 have hD:H2 s2.heap.objs.size=none:=I2.hok.fresh (P3 _);refine QW (t5 (fun ZO Zy Zx Zw=>?_));dsimp only at Zy Zx Zw⊢;have I3:Inv X pins O (upd H2 s2.heap.objs.size (.lst [])) {s2 with heap:=s2.heap.push {cls:=.type "list",dict:=none,data:=.seq ([]:List Value).toArray},toks:=s2.toks}:=
  I2.laid (fun b o e=>P4 _ e) (P3 _) ⟨QZ _,[],0,.nil,Qd _ rfl⟩
 generalize XF:({s2 with heap:=s2.heap.push {cls:=.type "list",dict:=none,data:=.seq ([]:List Value).toArray},toks:=s2.toks}:Shared)=s3 at I3;have e3:s2.heap.push {cls:=.type "list",dict:=none,data:=.seq ([]:List Value).toArray}=s3.heap:=by rw[←XF]
 have hsz:s3.heap.objs.size=s2.heap.objs.size+1:=by rw[←e3,Q2]
 rw[e3] at Zy Zx Zw⊢;have hk:=Zx;have VQ:∀y c,cl.lookup y=some c->¬s3.heap.objs.size<c:=fun y c e z=>by
  obtain⟨v,o,ho,_⟩:=I3.cell y c (c1 y c e);exact(QY _ (Si z (Qa ho)))
 have CA:CellsAre X scope s3.heap.objs.size cl (cellsFrom (s3.heap.objs.size+1) scope.names cl):=qS (h:=s3.heap.push {cls:=.type "dict",data:=.dict #[]}) (by rw[Q2]) S VQ;have T6:∀y c,(cellsFrom (s3.heap.objs.size+1) scope.names cl).lookup y=some c->s3.heap.objs.size<c->ZO.IsCell c none:=fun y c e z=>by
  rw[iB,jH] at e;cases q:(cellsFrom (s3.heap.objs.size+1) scope.names []).lookup y with
  |none=>rw[q] at e;exact absurd z (VQ y c e)
  |some c'=>
   rw[q] at e;have:c'=c:=Qx e;subst this;exact Zw y c' (QJ q)
 generalize X1:cellsFrom (s3.heap.objs.size+1) scope.names cl=cs at CA T6⊢;have f3:∀b∈fp,eE X pins (upd H2 s2.heap.objs.size (.lst [])) b:=fun b hb=>⟨by rw[dg (Qk (hlt b hb))];exact(f2 b hb).1,(f2 b hb).2⟩
 have Vn:∀b∈fp,b<s3.heap.objs.size:=fun b hb=>by rw[hsz];exact RH (hlt b hb)
 have VN:tn 0 ZO:=T.keep _ _ _ Ur fun b hb o e=>hk b o (by rw[←e3];exact P4 _ e);have J0:Inv (c3 X N' scope cs s3.heap.objs.size s3 (upd H2 s2.heap.objs.size (.lst [])) fp) [] (ff own cap O) (upd H2 s2.heap.objs.size (.lst [])) {s3 with heap:=ZO,toks:=s2.toks}:=
  T8 I3 S CA T6 c1 c2 f3 Vn hk Zy
 have Tx:∀{pl:QS} {H':Hp},pl=[]->(∀b∈fp,H' b=none)->∀b∈fp,eE (c3 X N' scope cs s3.heap.objs.size s3 (upd H2 s2.heap.objs.size (.lst [])) fp) pl H' b:=fun{pl H'} hp hn b hb=>by
  subst hp;refine⟨hn b hb,Qk (Vn b hb),J0.ok.exfs b hb,.inl hb,fun x c e=>J0.ok.exf b hb |>.2 x c e,fun p hp=>absurd hp (by show p∉([]++[]:QS);simp)⟩
 have loop:codeAny (model X.prog X.w) X.A (.compLoop (.ListComp elt [⟨tg,iter,ifs,0⟩] scope pos) 0 (.ref it) (.ref s2.heap.objs.size) (compEnvC scope cs s3.heap.objs.size X.env)) (RR (.ref s2.heap.objs.size) s3.heap.objs.size)
   {s3 with heap:=ZO,toks:=s2.toks}:=Fm (Y:=c3 X N' scope cs s3.heap.objs.size s3 (upd H2 s2.heap.objs.size (.lst [])) fp) hx hc (hg _ _ _ _ _) (ht _ _ _ _ _) (he _ _ _ _ _) T J0 VN (fun b hb=>(f3 b hb).1) (Tx rfl) (h _ hD) fun ZN H4 s5 I5 qz=>by
  have I6:Inv X pins O H4 s5:=I3.call' (ch:=fp) I5.os I5.base I5.hok I5.bare fun b hb=>⟨(f3 b hb).2.2.2.1,(f3 b hb).2.1,(f3 b hb).2.2.2.2.1,(f3 b hb).2.2.2.2.2⟩
  obtain⟨m',Vm,_⟩:=I5.loc;exact(Ζ _ _ s5 m' H4 I6 Vm (I3.fpOk (P3 _) I5.free) qz)
 have lp:codeAny (model X.prog X.w) X.A (.compStart (.ListComp elt [⟨tg,iter,ifs,0⟩] scope pos) 0 (.ref it) (.ref s2.heap.objs.size) (compEnvC scope cs s3.heap.objs.size X.env)) (RR (.ref s2.heap.objs.size) s3.heap.objs.size)
   {s3 with heap:=ZO,toks:=s2.toks}:=codeAny_compStart_list loop (T.self _ 0 _ _ _ VN loop)
 subst XF;exact lp
end
def Al(own:List Str)(cap:List (Str×Nat))(wi:TI)(g:TG)(tc:TT)(te:TE):TE:=fun O H Q=>wi O H fun Z6 H1=>∀D,H1 D=none->nY Z6 g tc te D (ff own cap O) H1 (Q (.ref D))
section
variable {X:Cx} {N' own:List Str} {cap:List (Str×Nat)} {scope:Scope} {tg iter elt:Expr} {ifs:List Expr} {pos:Pos} {wi:TI} {g:TG} {tc:TT} {te:TE}
theorem Inv.letgo(I:Inv X pins O H s)(f:eE X pins H C)(hs:Heap.SameBut C s.heap h'):Inv X pins O H {s with heap:=h'}:=
 I.turned (t':=s.toks) (it:=C) (fun b o hb e=>(hs.2 b hb).trans e) f.1 f.2.1 f.2.2.2.1 f.2.2.2.2.1 f.2.2.2.2.2
theorem CC(S:TK X N' own cap scope)(hi:PI X tg iter wi)
  (hg:∀cl C Z1 Z0 ex,PG (c3 X N' scope cl C Z1 Z0 ex) tg g) (ht:∀cl C Z1 Z0 ex,Up (c3 X N' scope cl C Z1 Z0 ex) ifs tc) (he:∀cl C Z1 Z0 ex,PE (c3 X N' scope cl C Z1 Z0 ex) elt te)
  (hx:∀e s,X.xe e s->False:=by exact fun _ _ z=>z) (hc:X.calm=true:=by rfl) (hs:∀x,foldedSetIterable iter X.env x=pure x:=by intro _;rfl):
  PE X (.ListComp elt [⟨tg,iter,ifs,0⟩] scope pos) (Al own cap wi g tc te):=by
 intro pins s O H Q I h;rw[Tb];obtain⟨cl,VQ,c1,c2⟩:=nN (scope:=scope) (env:=X.env) fun y hy hk=>I.ok.has y.1 (S.free y hy hk);refine(Rn (use:=none) rfl hs VQ S.kind S.names (TM (hi pins s O H _ I h) fun v s1 h1=>TM h1 fun Xa s2 h2=>?_));obtain⟨it,fp,tn,Z6,H2,e,I2,T,Ur,f2,q⟩:=h2;subst e;refine(zQ (RR:=fun acc C=>compPost (model X.prog X.w) X.A X.xe none (EP X pins O Q) acc C) (Z:=fun D=>Q (.ref D)) hx hc S hg ht he I2 T Ur f2 c1 c2 q ?_);intro D C s' m' H' I' Vm f' z;exact⟨m',Vm,fun Η V0=>⟨.ref D,H',I'.letgo f' V0,rfl,z⟩⟩
end
section
variable {X:Cx} {pins:QS} {O:St} {H:Hp} {s:Shared} {h':Heap} {ch:List Addr}
theorem Inv.turns(I:Inv X pins O H s)(hf:∀b∈ch,eE X pins H b)(k:∀b o,b∉ch->s.heap.get? b=some o->h'.get? b=some o):Inv X pins O H {s with heap:=h',toks:=t'}:=by
 have Xt:∀b u,H b=some u->b∉ch:=fun b u e z=>by rw[(hf b z).1] at e;cases e
 refine I.step (g':=s.gens) (d':=s.drawn) (ch:=ch) (fun b hb=>?_) (fun b o _ _ hc e _=>k b o hc e) (fun b o _ _ hc e _=>⟨o.slots,k b o hc e⟩) (fun _ _ _ _ n=>n)
  (fun b o hc e=>⟨o,k b o hc e⟩) (fun _ _ e=>e) (fun _ _ _ e=>e) (fun b ps e=>⟨#[],by rw[e];simp⟩) (fun m hm=>?_) (fun b u e=>?_) I.bare
 .obtain⟨f0,f1,f2,f3,f4,f5⟩:=hf b hb;exact⟨f3,f1,f4,f5⟩
 .obtain⟨o,es,ep,ho,r⟩:=hm;exact⟨o,es,ep,k _ o (fun z=>(hf _ z).2.1 rfl) ho,r⟩
 .refine(I.hok b u e).stay (fun c v hc q=>k c v ?_ q) (fun _ q=>q) fun _ _ q=>q;rcases hc with z|z
  .rw[z];exact Xt b u e
  .exact Xt c _ z
theorem Inv.turnLay(I:Inv X pins O H s)(hf:∀b∈ch,eE X pins H b)(k:∀b o,b∉ch->s.heap.get? b=some o->h'.get? b=some o)(hT:s.heap.objs.size<=T)
  (new:Tf X.prog X.w (upd H T o) h' T o):Inv X pins O (upd H T o) {s with heap:=h',toks:=t'}:=by
 have Xt:∀b u,H b=some u->b∉ch:=fun b u e z=>by rw[(hf b z).1] at e;cases e
 have hn:H T=none:=I.hok.fresh hT;have ne:∀b o,s.heap.get? b=some o->b≠T:=fun b o e=>Qk (Qt (Qa e) hT);refine I.step (g':=s.gens) (d':=s.drawn) (ch:=ch) (fun b hb=>?_) (fun b o _ _ hc e _=>k b o hc e) (fun b o _ _ hc e _=>⟨o.slots,k b o hc e⟩) (fun b o _ e n=>by rw[dg (ne b o e)];exact n)
  (fun b o hc e=>⟨o,k b o hc e⟩) (fun b xs e=>by rw[dg (fk e hn)];exact e) (fun b o u e=>by rw[dg (fk e hn)];exact e) (fun b ps e=>⟨#[],by rw[dg (fk e hn),e];simp⟩) (fun m hm=>?_) (fun b u e=>?_) I.bare
 .obtain⟨f0,f1,f2,f3,f4,f5⟩:=hf b hb;exact⟨f3,f1,f4,f5⟩
 .obtain⟨o,es,ep,ho,r⟩:=hm;exact⟨o,es,ep,k _ o (fun z=>(hf _ z).2.1 rfl) ho,r⟩
 .by_cases hb:b=T
  .subst hb;rw[eC] at e;cases e;exact new
  .rw[dg hb] at e;refine(I.hok b u e).stay (fun c v hc q=>k c v ?_ q) (fun c q=>by rw[dg (fk q hn)];exact q) fun c xs q=>by rw[dg (fk q hn)];exact q
   rcases hc with z|z
   .rw[z];exact Xt b u e
   .exact Xt c _ z
end
def Ite(K:Frag)(a:Addr):It:=
 ⟨fun i H=>∃xs x,T9 K H a xs/\xs[i]?=some x,fun i H x H'=>∃p v,x=.ref p/\H p=none/\H'=upd H p (.tup [.int (i:Nat),v])/\∀xs,T9 K H a xs->xs[i]?=some v,fun i H=>∃xs,T9 K H a xs/\xs.length<=i⟩
def zb:2<=sizeLine:=by rw[Rp];decide
theorem Gu{P:Program}{w:World}{K:Frag}{elts:List Expr}{k:Nat}{pos:Pos}(a e it:Addr)(hne:e≠it):
  Turn P w K (.Tuple elts k pos) (Ite K a) [e,it] e (fun i h=>(∃old,IsEnum h e it i old)/\h.IsListIter it a i) where
 mem:=by simp
 obj:=fun i h st b hb=>by
  obtain⟨⟨old,he⟩,o,e2,c,d⟩:=st;rcases Qz.mp hb with rfl|hb
  .exact⟨_,he,fun v z=>by cases z⟩
  .rw[Qu.mp hb];exact⟨o,e2,fun v z=>by rw[d] at z;cases z⟩
 keep:=fun i h h' st kk=>⟨let ⟨old,he⟩:=st.1;⟨old,kk e (by simp) _ he⟩,st.2.at fun o q=>kk it (by simp) o q⟩
 item:=by
  intro X hP hw hK hc i pins s O H E I hf st hg;subst hP hw hK;obtain⟨xs,x,hq,hx⟩:=hg;obtain⟨its,rv,p,hz⟩:=I.list hq;obtain⟨u,hu,ru⟩:=rv.get hx;obtain⟨⟨old,he⟩,hit⟩:=st;refine(wpAny_pyNext_enum_item he hit p.isList (x:=u) (by simpa using hu) hne fun h1 ho _k hT hsz hk=>?_);refine⟨_,rfl,wpAny_letOwnedTupleGo_enum ho fun h2 _r Tj=>?_⟩;have hlt:e<s.heap.objs.size:=Qa he
  replace Tj:Heap.SameBut e h1 h2:=Tj
  have hT2:h2.get? s.heap.objs.size=some {cls:=.type "tuple",data:=.seq #[.int i s.toks,u]}:=(Tj.2 _ (Sd hlt)).trans hT;have hn:H s.heap.objs.size=none:=I.hok.fresh (P3 _);have I2:Inv X pins O (upd H s.heap.objs.size (.tup [.int (i:Nat),x])) {s with heap:=h2,toks:=s.toks+1}:=
   I.turnLay (ch:=[e,it]) hf (fun b o hb q=>(Tj.2 b (fun z=>hb (by simp[z]))).trans (hk b o (fun z=>hb (by simp[z])) (fun z=>hb (by simp[z])) q)) (P3 _)
    ⟨zb,[.int i s.toks,u],.cons ⟨_,rfl⟩ (.cons ru .nil),⟨_,hT2,rfl,_,rfl⟩⟩
  have _j:h2.IsListIter it a (i+1):=_k.at fun o q=>(Tj.2 it (Ne.symm hne)).trans q;have f1:∀b∈[e,it],(upd H s.heap.objs.size (.tup [.int (i:Nat),x])) b=none:=fun b hb=>by
   have hlb:b<s.heap.objs.size:=by
    rcases Qz.mp hb with rfl|hb
    .exact hlt
    .rw[Qu.mp hb];obtain⟨o,q,_⟩:=hit;exact(Qa q)
   rw[dg (Qk hlb)];exact(hf b hb).1
  exact⟨.ref s.heap.objs.size,_,I2,rfl,⟨_,x,rfl,hn,rfl,fun ys hy=>by rw[I.list_inj hy hq];exact hx⟩,⟨⟨u,by simpa using _r⟩,_j⟩,f1⟩
 done:=by
  intro X hP hw hK hc i pins s O H E I hf st hg;subst hP hw hK;obtain⟨xs,hq,hx⟩:=hg;obtain⟨its,rv,p,hz⟩:=I.list hq;obtain⟨⟨old,he⟩,hit⟩:=st;have hl:=rv.length;exact wpAny_pyNext_enum_end (I.ok.hd hc) he hit p.isList (by simp;omega) fun h' eb=>⟨rfl,I.turns (t':=s.toks) (ch:=[e,it]) hf fun b o hb q=>eb b o (fun z=>hb (by simp[z])) q⟩
 self:=fun _ _ _ _ _ st h=>by
  obtain⟨⟨old,he⟩,_⟩:=st;exact(wpAny_pyIter_enum he h)
def wP(K:Frag)(ta:TA):TI:=fun O H R=>ta O H fun vs H1=>∃a,vs=[.ref a]/\(∃xs,T9 K H1 a xs)/\R (Ite K a) H1
section
variable {X:Cx}
theorem EZ(hg:Gl X "enumerate") (hm:X.mg "enumerate"=none) (ha:PA X [a] ta) (hs:starEach [a] X.env=[(false,eval a X.env)]:=by rfl):
  PI X (.Tuple elts k Vh) (.Call (.Name "enumerate" p) [a] [] pos) (wP X.K ta):=by
 intro pins s O H R I h;refine Call_ (jI I hg hm boot_enumerate (Q6 (TM (ha pos pins s O H _ I h) fun us s1 hm=>?_) hs rfl));obtain⟨vs,H1,I1,r1,q1⟩:=hm;obtain⟨l,e,⟨xs,hq⟩,q⟩:=q1;subst e;obtain⟨u,rfl,ru⟩:=gK r1;cases ru;obtain⟨its,rv,pl,hz⟩:=I1.list hq;refine(call_enumerate_list pl.isList fun h' he hit hsz hk=>wpAny_pyIter_enum he ?_);have I2:Inv X pins O H1 {s1 with heap:=h'}:=I1.kept (t':=s1.toks) hk;refine⟨_,[s1.heap.objs.size+1,s1.heap.objs.size],_,_,H1,rfl,I2,Gu l _ _ (Nat.succ_ne_self _),⟨⟨.none,he⟩,hit⟩,fun b hb=>?_,q⟩;have hb':s1.heap.objs.size<=b:=by
  rcases Qz.mp hb with rfl|hb
  .exact Nat.le_succ _
  .rw[Qu.mp hb];exact P3 _
 exact I1.fpOk hb' (I1.hok.fresh hb')
end
mutual
inductive Dp (K:Frag) (H:Hp):V->PyData->Prop where
 |non:Dp K H .non .none
 |bl (b:Bool):Dp K H (.bl b) (.bool b)
 |int (i:Int):Dp K H (.int i) (.int i)
 |str (x:Str):Dp K H (.str x) (.str x)
 |lst {a:Addr} {xs:List V} {ds:List PyData}:T9 K H a xs->Vb K H xs ds->Dp K H (.ref a) (.list ds)
 |tup {a:Addr} {xs:List V} {ds:List PyData}:Uo K H a xs->Vb K H xs ds->Dp K H (.ref a) (.tuple ds)
inductive Vb (K:Frag) (H:Hp):List V->List PyData->Prop where
 |nil:Vb K H [] []
 |cons {x:V} {d:PyData} {xs:List V} {ds:List PyData}:Dp K H x d->Vb K H xs ds->Vb K H (x::xs) (d::ds)
end
section
variable {X:Cx} {pins:QS} {O:St} {H:Hp} {s:Shared}
mutual
theorem Dp.reads(I:Inv X pins O H s):∀{v:V} {d:PyData} {u:Value},Dp X.K H v d->RelV v u->∃as,Reads s.heap u d as
 |_,_,_,.non,r=>by cases (show _=Value.none from r);exact⟨_,.none⟩
 |_,_,_,.bl b,r=>by cases (show _=Value.bool b from r);exact⟨_,.bool b⟩
 |_,_,_,.int i,r=>by obtain⟨t,rfl⟩:=r;exact⟨_,.int i t⟩
 |_,_,_,.str x,r=>by obtain⟨t,rfl⟩:=r;exact⟨_,.str x t⟩
 |_,_,_,.lst (a:=a) h hs,r=>by
  cases (show _=Value.ref a from r);obtain⟨its,rv,⟨o,n,h1,h2,_,h4⟩,_⟩:=I.list h;obtain⟨as,hr⟩:=Vb.reads I hs rv;exact⟨_,.list h1 h2 h4 (by simpa using hr)⟩
 |_,_,_,.tup (a:=a) h hs,r=>by
  cases (show _=Value.ref a from r);obtain⟨its,rv,⟨o,h1,h2,n,h4⟩,_⟩:=I.tuple h;obtain⟨as,hr⟩:=Vb.reads I hs rv;exact(⟨_,.tuple h1 h2 h4 (by simpa using hr)⟩)
theorem Vb.reads(I:Inv X pins O H s):∀{vs:List V} {ds:List PyData} {us:List Value},Vb X.K H vs ds->Vals vs us->∃as,ReadsAll s.heap us ds as
 |_,_,_,.nil,r=>by cases r;exact⟨_,.nil⟩
 |_,_,_,.cons h hs,r=>by
  cases r with
  |cons r1 r2=>
   obtain⟨as,h1⟩:=Dp.reads I h r1;obtain⟨bs,h2⟩:=Vb.reads I hs r2;exact(⟨_,.cons h1 h2⟩)
end
theorem yd(hu:X.A.units+64<cLine):UU X (compareOp .Eq) (fun x y H Q=>∃d e,Dp X.K H x d/\Dp X.K H y e/\(d.canLay0&&e.canLay0&&decide (d.depth<=64))=true/\Q (.bl (PyData.eqv d e)) H):=by
 intro pins s O H x y v u Q I rx ry h;obtain⟨d,e,hd,he,hc,q⟩:=h;simp only[Qs,QQ] at hc;obtain⟨as,r1⟩:=hd.reads I rx;obtain⟨bs,r2⟩:=he.reads I ry;exact(SeqAt.compareEq_reads r1 r2 hc.1.1 hc.1.2 (by omega) ⟨.bl _,H,I,rfl,q⟩)
theorem AZ(hu:X.A.units+64<cLine):UU X (compareOp .NotEq) (fun x y H Q=>∃d e,Dp X.K H x d/\Dp X.K H y e/\(d.canLay0&&e.canLay0&&decide (d.depth<=64))=true/\Q (.bl (!PyData.eqv d e)) H):=by
 intro pins s O H x y v u Q I rx ry h;obtain⟨d,e,hd,he,hc,q⟩:=h;simp only[Qs,QQ] at hc;obtain⟨as,r1⟩:=hd.reads I rx;obtain⟨bs,r2⟩:=he.reads I ry;exact(SeqAt.compareNe_reads r1 r2 hc.1.1 hc.1.2 (by omega) ⟨.bl _,H,I,rfl,q⟩)
end
section
variable {X:Cx}
def yi:V->List V->Hp->VK->Prop:=fun x vs H Q=>∃(a:Addr) (kvs:List (Key×V)) (k:Key) (d:V),x=.ref a/\vs=[kV k,d]/\H a=some (.dK kvs)/\kvs.length<sizeLine/\
 (∀v,fh kvs k=some v->Q v H)/\(fh kvs k=none->Q d (upd H a (.dK (dG kvs k d))))
theorem Iu:Yy X "dict.setdefault" yi:=by
 intro pins s O H x vs v us Q I rx rv h;obtain⟨a,kvs,k,d,rfl,rfl,e,hl,h1,h2⟩:=h;cases rx;obtain⟨u,w',rfl,ru,rd⟩:=rv.two;obtain⟨z,hd,ws,rel,dd⟩:=gO I.hok e;refine S2 PySem.F.slot_dict_setdefault dd.typeIs PySem.F.entry_dict_setdefault (PySem.F.args_dict_setdefault_3 _ _ _) (kt_meets_setdefault (fv X.prog X.w) a (lf ru) hd w') ⟨ws,dd,by rw[←rel.length];exact z,fun y hy=>?_,fun hn h' Vw hs=>?_⟩
 .have q:=rel.val k;rw[hy] at q;cases ev:fh kvs k with
  |none=>rw[ev] at q;exact q.elim
  |some v0=>
   rw[ev] at q;exact⟨v0,H,I.tok _,q,h1 v0 ev⟩
 .have q:=rel.val k;rw[hn] at q;cases ev:fh kvs k with
  |some v0=>rw[ev] at q;exact q.elim
  |none=>
   have hz:(dG kvs k d).length<=sizeLine:=by have:=nL kvs k d;omega
   have he:∃q,h'.get? a=some q:=let ⟨q,_,_,hq,_⟩:=Vw;⟨q,hq⟩
   exact⟨d,_,lz (t':=s.toks+1) I (by rw[e];exact True.intro) hs he (mS hz hd (rel.put k rd) Vw),rd,h2 ev⟩
theorem Bc{kvs:List (Key×V)}{ws:List (Key×Value)}(rel:KV kvs ws):Vals (kvs.map (·.2)) (ws.map (·.2)):=by
 induction rel with
 |nil=>exact .nil
 |cons r _ ih=>exact .cons r.2 ih
def Xl(v d:Addr):HO:=.ext fun h=>h.IsValuesView v d
def BD:V->List V->Hp->VK->Prop:=fun x vs H Q=>∃(a:Addr) (kvs:List (Key×V)),x=.ref a/\vs=[]/\H a=some (.dK kvs)/\∀v,H v=none->Q (.ref v) (upd H v (Xl v a))
theorem HK:Yy X "dict.values" BD:=by
 intro pins s O H x vs v us Q I rx rv h;obtain⟨a,kvs,rfl,rfl,e,q⟩:=h;cases rx;have:=rv.zero;subst this;obtain⟨z,hd,ws,rel,dd⟩:=gO I.hok e;refine(S2 PySem.F.slot_dict_values dd.typeIs PySem.F.entry_dict_values (PySem.F.args_dict_values_1 _) (meets_dict_values (fv X.prog X.w) a hd) ⟨⟨ws,dd⟩,?_⟩);have hv:(s.heap.push {cls:=.type "dict_values",data:=.fields #[.ref a]}).IsValuesView s.heap.objs.size a:=⟨_,Qd _ rfl,rfl,rfl⟩
 refine⟨.ref s.heap.objs.size,_,I.laid (t':=s.toks) (o:=Xl s.heap.objs.size a) (fun b o q=>P4 _ q) (P3 _) ?_,rfl,q _ (I.hok.fresh (P3 _))⟩;exact⟨hv,⟨_,Qd _ rfl⟩,fun h1 h2 p k=>let ⟨o,ho,r⟩:=p;⟨o,k o ho,r⟩⟩
theorem Da:gb X (.type "list") (fun xs H Q=>∃(v a:Addr) (kvs:List (Key×V)),xs=[.ref v]/\H v=some (Xl v a)/\H a=some (.dK kvs)/\X.calm=true/\∀l,H l=none->Q (.ref l) (upd H l (.lst (kvs.map (·.2))))):=by
 intro pins s O H xs us Q I r h;obtain⟨v,a,kvs,rfl,hv,e,hc,q⟩:=h;obtain⟨u,rfl,ru⟩:=gK r;cases ru;obtain⟨z,hd,ws,rel,dd⟩:=gO I.hok e;obtain⟨ι,_,_⟩:s.heap.IsValuesView v a/\_/\_:=I.hok v _ hv;obtain⟨ep,Wy⟩:=dd.dictAt;refine PySem.W.kdl_call (PySem.W.kdl_values (knd:=fv X.prog X.w) (kvs:=ws) (ep:=ep)) (I.ok.hd hc) ⟨ι,Wy⟩ (by rw[←rel.length];exact z) fun h' tk Ν c' hk hD Uv=>?_;have ev:Ν.toList=ws.map (·.2):=PySem.W.kdl_vals_eq Ν.toList (by rw[Rg];exact Uv.1) fun j v ej=>Uv.2 j v (by rw[←Sn];exact ej);have rv:Vals (kvs.map (·.2)) (ws.map (·.2)):=Bc rel;refine⟨.ref s.heap.objs.size,_,I.laid (t':=tk) (o:=.lst (kvs.map (·.2))) hk (P3 _) ?_,rfl,q _ (I.hok.fresh (P3 _))⟩;refine⟨by rw[Qb];exact z,ws.map (·.2),c',rv,?_⟩;rw[←ev];exact hD
end
def Df(P:Program)(w:World)(K:Frag)(mg:Str->Option Value)(base:Heap)(k:Nat)(x:Str)(ps:List Str)(sp:Sp):Prop:=
 ∃f fd,TJ P w K mg base T1 k f fd ps sp/\Binds K fd ps []/\keepIn K (.ref f)=true/\mg x=some (.ref f)
section
variable {X:Cx} {k:Nat} {x:Str} {ps:List Str} {sp:Sp} {e:Expr} {es:List Expr} {t:TA} {p pos:Pos}
theorem zK(D:Df X.prog X.w X.K X.mg X.base k x ps sp)(hr:TU k X.A)(ha:PA X (e::es) t)(hg:Gl X x:=by rfl)(VX:(x==("__debug__":Str))=false:=by decide)
  (he:starEach (e::es) X.env=(false,eval e X.env)::starEach es X.env:=by rfl) (hpl:(backTo pos (starEach es X.env)).any (·.1)=false:=by rfl):
  PE X (.Call (.Name x p) (e::es) [] pos) (fun O H Q=>t O H fun vs H1=>sp vs H1 Q E0):=by
 obtain⟨f,fd,F,hb,hk,hm⟩:=D;intro pins s O H Q I h;exact O4 F hr hg hm hk hb .nil sq ha VX he hpl pins s O H Q I (by unfold BR;simpa using h)
end
def But(p:Addr)(H H':Hp):Prop:=∀b o,b≠p->H b=some o->H' b=some o
def il(h:n<=1000000):n<=sizeLine:=by rw[Rp];omega
def j2(h:n<=1000000):n<sizeLine:=by rw[Rp];omega
def x8(N:List Str)(names:List (Str×NameKind))(own:List Str)(cap:List (Str×Nat))(scope:Scope):Bool:=
 (scope.kind==.function)&&scope.names.all (fun y=>(y.2 != .cell||scope.names.lookup y.1==some .cell)&&(y.2 != .local||scope.names.lookup y.1==some .local)&&(y.2 != .free||scope.names.lookup y.1==some .free)&&(y.2 != .free||(names.lookup y.1==some .cell||names.lookup y.1==some .free)))
 &&cap.all fun p=>N[p.2]?==some p.1&&scope.names.lookup p.1==some .free&&(names.lookup p.1==some .cell||names.lookup p.1==some .free)
def fK{X:Cx}{own:List Str}{cap:List (Str×Nat)}{scope:Scope}(h:x8 X.N X.env.scope.names own cap scope=true):TK X (own++cap.map (·.1)) own cap scope:=by
 unfold x8 at h;simp only[Qs,QE,Bool.or_eq_true,bne_iff_ne,beq_iff_eq] at h;obtain⟨⟨h1,h2⟩,h3⟩:=h;exact(⟨h1,fun y hy hl=>(h2 y hy).1.1.1.resolve_left fun z=>z hl,fun y hy hl=>(h2 y hy).1.2.resolve_left fun z=>z hl,fun y hy hl=>(h2 y hy).1.1.2.resolve_left fun z=>z hl,fun y hy hl=>(h2 y hy).2.resolve_left fun z=>z hl,rfl,fun p hp=>⟨(h3 p hp).1.1,(h3 p hp).1.2,(h3 p hp).2⟩⟩)
section
variable {X:Cx} {a b o:Expr} {ta tb to:TE} {p pos:Pos}
theorem ON(K:Frag)(ml:X.mg "len"=none) (ha:PE X a ta) (hg:Gl X "len":=by rfl) (hs:starEach [a] X.env=[(false,eval a X.env)]:=by rfl) (hK:X.K=K:=by rfl):
  PE X (.Call (.Name "len" p) [a] [] pos) (fun O H Q=>ta O H fun x H1=>∃p ys,[x]=[V.ref p]/\(T9 K H1 p ys\/Uo K H1 p ys)/\Q (.int ys.length) H1):=by
 subst hK;exact jY CY hg ml PySem.boot_len (eJ ha eZ hs) (he:=hs)
theorem OL(ml:X.mg "min"=none) (ha:PE X a ta) (hb:PE X b tb) (hc:X.calm=true:=by rfl) (hg:Gl X "min":=by rfl) (hs:starEach [a,b] X.env=[(false,eval a X.env),(false,eval b X.env)]:=by rfl) (Tj:starEach [b] X.env=[(false,eval b X.env)]:=by rfl):
  PE X (.Call (.Name "min" p) [a,b] [] pos) (fun O H Q=>ta O H fun x H1=>tb O H1 fun y H2=>∃i j,[x,y]=[.int i,.int j]/\Q (.int (if j<i then j else i)) H2):=by
 exact jY (K2 hc) hg ml rfl (eJ ha (eJ hb eZ Tj) (by rw[hs,Tj])) (he:=by rw[hs,Tj]) (hpl:=by rw[Tj];rfl)
theorem C7(ml:X.mg "max"=none) (ha:PE X a ta) (hb:PE X b tb) (hc:X.calm=true:=by rfl) (hg:Gl X "max":=by rfl) (hs:starEach [a,b] X.env=[(false,eval a X.env),(false,eval b X.env)]:=by rfl) (Tj:starEach [b] X.env=[(false,eval b X.env)]:=by rfl):
  PE X (.Call (.Name "max" p) [a,b] [] pos) (fun O H Q=>ta O H fun x H1=>tb O H1 fun y H2=>∃i j,[x,y]=[.int i,.int j]/\Q (.int (if j>i then j else i)) H2):=by
 exact jY (IE hc) hg ml rfl (eJ ha (eJ hb eZ Tj) (by rw[hs,Tj])) (he:=by rw[hs,Tj]) (hpl:=by rw[Tj];rfl)
theorem iL(K:Frag)(ha:PE X a ta)(hK:X.K=K:=by rfl):PI X tg a (Bj K ta):=by subst hK;exact zl ha
theorem iT(K:Frag)(ha:PE X a ta)(hK:X.K=K:=by rfl):PI X tg a (xH K ta):=by subst hK;exact CD ha
theorem iR(mr:X.mg "range"=none) (ha:PE X a ta) (hg:Gl X "range":=by rfl) (hs:starEach [a] X.env=[(false,eval a X.env)]:=by rfl):PI X tg (.Call (.Name "range" p) [a] [] pos) (Ak (gq ta h8)):=Je hg mr (eJ ha eZ hs) hs
theorem B7(K:Frag)(ho:PE X o to)(ha:PE X a ta)(hs:starEach [a] X.env=[(false,eval a X.env)]:=by rfl)
  (TZ:attributeBase o "append" X.env (eval o X.env)=eval o X.env:=by rfl) (TY:(apos.endLine==pos.line)=true:=by rfl) (hK:X.K=K:=by rfl)
  (Uu:((backTo pos (starEach [a] X.env)).all (fun x=>!x.1)&&(backToKw pos (keywordEach [] X.env)).all (fun x=>x.1.isSome)
   &&decide ([a].length+([]:List Keyword).length+(if([]:List Keyword).isEmpty then 0 else 1)<30))=true:=by rfl):
  PE X (.Call (.Attribute o "append" apos) [a] [] pos) (Χ K "list" yr to (gq ta h8)):=by
 subst hK;exact vz PySem.F.plainAttrs_list PySem.F.slot_list_append PySem.F.type_list_append vJ ho (eJ ha eZ hs) TZ Uu TY hs
end
def Pot(H:Hp)(p:Addr):Prop:=∃a b c:Int,H p=some (.lst [.int a,.int b,.int c])
structure Drawn (p:Addr) (H H':Hp):Prop where
 but:But p H H'
 pot:Pot H' p
def KD{xs:List V}{r:Int}(h0:0<=r)(h1:r<(xs.length:Int)):UZ xs r=some (xs[r.toNat]'(by omega)):=by
 have hk:r.toNat<xs.length:=by omega
 have:=M5 (xs:=xs) (j:=r.toNat) (v:=xs[r.toNat]) (by simp[hk]);have er:((r.toNat:Nat):Int)=r:=by omega
 rw[er] at this;exact this
section
variable {X:Cx} {a:Expr} {ta:TE} {p pos:Pos}
theorem gT(K:Frag)(h:W9 X es t)(hc:X.calm=true:=by rfl)(hn:(assignEach es X.env).length=n:=by rfl)(hst:(assignEach es X.env).findIdx? (·.1)=none:=by rfl)(hK:X.K=K:=by rfl):
  PG X (.Tuple es k pos) (zW K n t):=by subst hK;exact Hy hc h hn hst
theorem iEn(K:Frag)(ml:X.mg "enumerate"=none) (ha:PE X a ta) (hg:Gl X "enumerate":=by rfl) (hs:starEach [a] X.env=[(false,eval a X.env)]:=by rfl) (hK:X.K=K:=by rfl):
  PI X (.Tuple elts k Vh) (.Call (.Name "enumerate" p) [a] [] pos) (wP K (gq ta h8)):=by
 subst hK;exact EZ hg ml (eJ ha eZ hs) hs
end
def tm{xs:List V}{Pd:V->Prop}{r:Int}(h:∀x∈xs,Pd x)(h0:0<=r)(h1:r<(xs.length:Int)):∃v,UZ xs r=some v/\Pd v:=
 ⟨_,KD h0 h1,h _ (QX _)⟩
section
variable {X:Cx} {a b o:Expr} {ta tb to:TE} {pos:Pos}
theorem IR(K:Frag)(ho:PE X o to)(ha:PE X a ta)(hb:PE X b tb)(hs:starEach [a,b] X.env=[(false,eval a X.env),(false,eval b X.env)]:=by rfl)(Tj:starEach [b] X.env=[(false,eval b X.env)]:=by rfl)
  (TZ:attributeBase o "setdefault" X.env (eval o X.env)=eval o X.env:=by rfl) (TY:(apos.endLine==pos.line)=true:=by rfl) (hK:X.K=K:=by rfl)
  (Uu:((backTo pos (starEach [a,b] X.env)).all (fun x=>!x.1)&&(backToKw pos (keywordEach [] X.env)).all (fun x=>x.1.isSome)
   &&decide ([a,b].length+([]:List Keyword).length+(if([]:List Keyword).isEmpty then 0 else 1)<30))=true:=by rfl):
  PE X (.Call (.Attribute o "setdefault" apos) [a,b] [] pos) (Χ K "dict" yi to (gq ta (gq tb h8))):=by
 subst hK;exact vz RK PySem.F.slot_dict_setdefault PySem.F.type_dict_setdefault Iu ho (eJ ha (eJ hb eZ Tj) (by rw[hs,Tj])) TZ Uu TY (by rw[hs,Tj]) (by rw[Tj];rfl)
theorem wN(K:Frag)(ho:PE X o to)(TZ:attributeBase o "values" X.env (eval o X.env)=eval o X.env:=by rfl) (TY:(apos.endLine==pos.line)=true:=by rfl) (hK:X.K=K:=by rfl):
  PE X (.Call (.Attribute o "values" apos) [] [] pos) (m4 K "dict" BD to):=by
 subst hK;exact rL RK PySem.F.slot_dict_values PySem.F.type_dict_values HK ho TZ TY
end
abbrev Cel:=Int×List Int×Addr
def gs(cs:List Cel):List (Int×List Int):=cs.map fun c=>(c.1,c.2.1)
section
variable {K:Frag} {H:Hp}
theorem Vb.len:∀{vs:List V} {ds:List PyData},Vb K H vs ds->vs.length=ds.length
 |_,_,.nil=>rfl
 |_,_,.cons _ hs=>congrArg (·+1) (Vb.len hs)
theorem Vb.get:∀{vs:List V} {ds:List PyData} {i:Nat} {v:V},Vb K H vs ds->vs[i]?=some v->∃d,ds[i]?=some d/\Dp K H v d
 |_,_,_,_,.nil,h=>by simp at h
 |_,_,0,_,.cons (d:=d) h hs,e=>by
  have:_=_:=Qx e;subst this;exact⟨d,rfl,h⟩
 |_,_,i+1,_,.cons h hs,e=>Vb.get (i:=i) hs e
end
def UD(M:Int)(l:List Int):Prop:=M∈l/\∀a∈l,a<=M
def UD.step{M x:Int}{l:List Int}(h:UD M l):UD (if x>M then x else M) (l++[x]):=by
 obtain⟨h1,h2⟩:=h;refine(⟨?_,fun a ha=>?_⟩)
 .split
  .simp
  .exact RX _ h1
 .rcases Qr.mp ha with z|z
  .have:=h2 a z;split<;>omega
  .have:a=x:=by simpa using z
   subst this;split<;>omega
def ww(ns:List Int)(j:Nat):Option Value->Prop
 |none=>j=0
 |some v=>∃M t,v=.int M t/\UD M (ns.take j)
def BQ:Option Value->Array Value
 |none=>#[]
 |some v=>#[v,v]
theorem yT:∀{vs:List Value} {ns:List Int} {j:Nat} {v:Value},IntsAre vs ns->vs[j]?=some v->∃t,v=.int (ns.getD j 0) t
 |_,_,_,_,.nil,h=>by simp at h
 |_,_,0,_,.cons n t _,h=>⟨t,(Qx h).symm⟩
 |_,_,j+1,_,.cons n t r,h=>by
  obtain⟨t',e⟩:=yT (j:=j) r h;exact(⟨t',by simpa using e⟩)
def KM(a d:Value):argsOk "max" ⟨[a],[("default",d)]⟩:=by unfold argsOk;kernel_rfl
section
variable {prog:Program} {w:World} {A:Around} {R:Result->Shared->Prop} {I l:Addr} {items:Array Value} {ns:List Int} {d:Value}
theorem CZ(hh:A.in1.handled=none)(hne:l≠I)(hi:IntsAre items.toList ns)(S:Addr)(hSI:S≠I)(hSl:S≠l):
  ∀(k j:Nat) (s:Shared) (b:Option Value) (c:Nat),items.size - j=k->j<=items.size->s.heap.IsListIter I l j->s.heap.IsList l items->ww ns j b->
   s.heap.get? S=some {cls:=.type "list",dict:=none,data:=.seq (BQ b) c,slots:=#[]}->
   (∀v h' tk,((ns=[]/\v=d)\/∃M t,v=.int M t/\UD M ns)->(∀x o,x≠I->x≠S->s.heap.get? x=some o->h'.get? x=some o)->R (.ok (.ret v)) {s with heap:=h',toks:=tk})->
   codeAny (model prog w) A (.builtin "max.loop" ⟨[.ref I,.none,.ref S],[("default",d)]⟩) R s:=by
 have YO:(toString "max"++toString ".loop":String)="max.loop":=by decide
 have hlen:ns.length=items.size:=by have:=hi.length;rw[Rg] at this;omega
 have W:=Walks.list (prog:=prog) (w:=w) hh I l hne items;intro k;induction k with
 |zero=>
  intro j s b c hk hj Yc Ur hb hS hR;have ej:j=items.size:=by omega
  subst ej;refine Rh (F.entry_max_loop) (by
   rw[Q0 RM];show wpAny _ A.in1 (seqItems? (.ref S) >>= fun _=>_) _ _ s;refine P2 (RW hS rfl (?_:wpAny _ A.in1 (tryCatch (pyNext (.ref I)) (fun _=>_) >>= fun _=>_) _ _ s));refine P2 (Sj (W.done s _ _ ⟨Yc,Ur⟩ fun h' tk keep=>?_));have kS:=keep S _ (by simpa using hSI) hS;cases b with
   |none=>
    have YU:items.size=0:=hb;have hn:ns=[]:=QA.mp (by omega);show wpAny _ A.in1 (rule _ >>= fun _=>ret d) _ _ _;exact P2 (SG (P6 (hR d h' tk (.inl ⟨hn,rfl⟩) fun x o n1 _ e=>keep x o (by simpa using n1) e)))
   |some v=>
    obtain⟨M,t,rfl,hM⟩:=hb;have htk:ns.take items.size=ns:=List.take_of_length_le (by omega);rw[htk] at hM;show wpAny _ A.in1 (updateSeq S (fun _=>#[]) >>= fun _=>_) _ _ _;refine P2 (Sw (hz:=by show 2<=sizeLine;decide) kS rfl (P2 (S9 (P6 (hR _ _ tk (.inr ⟨M,t,rfl,hM⟩) fun x o n1 n2 e=>?_)))));exact(Q1 _ _ (Ne.symm n2)).trans (keep x o (by simpa using n1) e))
 |succ k ih=>
  intro j s b c hk hj Yc Ur hb hS hR;have hlt:j<items.size:=by omega
  refine Rh (F.entry_max_loop) (by
   rw[Q0 RM];show wpAny _ A.in1 (seqItems? (.ref S) >>= fun _=>_) _ _ s;refine P2 (RW hS rfl (?_:wpAny _ A.in1 (tryCatch (pyNext (.ref I)) (fun _=>_) >>= fun _=>_) _ _ s));refine P2 (Sj (W.item j s _ _ hlt ⟨Yc,Ur⟩ fun v h' tk hv Wc keep=>?_));have kS:=keep S _ (by simpa using hSI) hS;have hx:∃t,v=.int (ns.getD j 0) t:=by
    exact yT hi (by rw[Sn];exact hv)
   obtain⟨t,rfl⟩:=hx;have htk:ns.take (j+1)=ns.take j++[ns.getD j 0]:=by
    rw[List.take_add_one,P7,P9 (by omega)];rfl
   have YX:∀(b':Option Value) (h2:Heap) (c':Nat),ww ns (j+1) b'->h2.get? S=some {cls:=.type "list",dict:=none,data:=.seq (BQ b') c',slots:=#[]}->
     (∀x o,x≠S->h'.get? x=some o->h2.get? x=some o)->codeAny (model prog w) A (.builtin "max.loop" ⟨[.ref I,.none,.ref S],[("default",d)]⟩) R {s with heap:=h2,toks:=tk}:=fun b' h2 c' hb' hS' k2=>by
    refine ih (j+1) _ b' c' (by omega) hlt (Wc.1.at fun o e=>k2 I o (Ne.symm hSI) e) (Wc.2.at fun o e=>k2 l o (Ne.symm hSl) e) hb' hS' fun v' h3 tk3 Xb k3=>hR v' h3 tk3 Xb fun x o n1 n2 e=>?_;exact k3 x o n1 n2 (k2 x o n2 (keep x o (by simpa using n1) e))
   cases b with
   |none=>
    have YU:j=0:=hb;subst YU;show wpAny _ A.in1 (updateSeq S (fun _=>#[Value.int (ns.getD 0 0) t,Value.int (ns.getD 0 0) t]) >>= fun _=>_) _ _ _;refine P2 (Sw kS rfl ?_);rw[YO];refine P6 ⟨Ro RM _,YX (some (.int (ns.getD 0 0) t)) _ _ ⟨_,t,rfl,?_⟩ (RC _ kS rfl) fun x o n e=>(Q1 _ _ (Ne.symm n)).trans e⟩;rw[htk];exact⟨by simp,fun a ha=>by
     have:a=ns.getD 0 0:=by simpa using ha
     omega⟩
   |some vb=>
    obtain⟨M,tb,rfl,hM⟩:=hb;show wpAny _ A.in1 (tryCatch (holding [Value.int (ns.getD j 0) t,Value.int (ns.getD j 0) t] (richCompare .Gt (.int (ns.getD j 0) t) (.int M tb) >>= fun _=>_)) (fun _=>_) >>= fun _=>_) _ _ _;refine P2 (Sj (Rl (P2 ?_)));refine richCompare_gives (op:=.Gt) (Sb _ _ t) (Sb _ _ tb) F.slot_int_gt F.entry_int_gt (F.args_int_gt_2 _ _) (gives_int_gt _ _ t tb) (fun x=>nomatch x) ?_;refine P2 (Rl (Q5 (P2 (S9 (P6 ?_)))));have hst:=hM.step (x:=ns.getD j 0);rw[←htk] at hst;by_cases Ϡ:ns.getD j 0>M
    .rw[if_pos Ϡ] at hst;rw[if_pos (QC Ϡ)];refine P2 (Sw (hz:=by show 2<=sizeLine;decide) kS rfl (P2 (S9 ?_)));rw[YO];exact P6 ⟨Ro RM _,YX (some (.int (ns.getD j 0) t)) _ _ ⟨_,t,rfl,hst⟩ (RC _ kS rfl) fun x o n e=>(Q1 _ _ (Ne.symm n)).trans e⟩
    .rw[if_neg Ϡ] at hst;rw[if_neg (by simpa using Ϡ)];refine P2 (S9 ?_);rw[YO];exact P6 ⟨Ro RM _,YX (some (.int M tb)) _ _ ⟨_,tb,rfl,hst⟩ kS fun x o _ e=>e⟩)
theorem Nl(hh:A.handled=none)(hl:s.heap.IsList l vs.toArray)(hi:IntsAre vs ns)
  (h:∀v h' tk,((ns=[]/\v=d)\/∃M t,v=.int M t/\UD M ns)->(∀b o,s.heap.get? b=some o->h'.get? b=some o)->Q v {s with heap:=h',toks:=tk}):
  wpAny (model prog w) A (call (.builtin "max") [.ref l] [("default",d)]) Q E s:=by
 have YO:(toString "max"++toString ".loop":String)="max.loop":=by decide
 obtain⟨ol,el,_⟩:=id hl;have llt:l<s.heap.objs.size:=Qa el;have body:wpAny (model prog w) A.in1 (Builtin.«max» ⟨[.ref l],[("default",d)]⟩) (fun fin s'=>match fin with
   | .done f=>(match(Except.ok f:Result) with| .ok (.ret v)=>Q v s'| .ok _=>False| .error e=>E e s')
   | .again c'=>c'.quiet=true/\codeAny (model prog w) A c' (fun r s'=>match r with| .ok (.ret v)=>Q v s'| .ok _=>False| .error e=>E e s') s') E s:=by
  show wpAny _ A.in1 (Builtin.Builtins.bindParams "max" ["key","default"] 0 ⟨[],[("default",d)]⟩ >>= fun _=>_) _ _ s;refine P2 (Ta (show Builtin.Builtins.bindParams "max" ["key","default"] 0 ⟨[],[("default",d)]⟩=pure [none,some d] from by with_unfolding_all rfl) (P2 (P6 ?_)));refine P2 (SQ hl ?_);refine P2 (QW ?_);rw[YO];refine P6 ⟨Ro RM _,?_⟩;have e1:(s.heap.push {cls:=.type "list_iterator",data:=.fields #[.ref l,.int 0 0]}).objs.size=s.heap.objs.size+1:=Q2 ..;refine CZ (I:=s.heap.objs.size) (l:=l) (items:=vs.toArray) (ns:=ns) (d:=d) hh (Qk llt) (by simpa using hi) _ (by rw[e1];exact Sd (RZ _)) (by rw[e1];exact Sd (RH llt)) _ 0 _ none 0 rfl (QZ _)
   ⟨_,P4 _ (Qd _ rfl),rfl,rfl⟩ ((hl.push _).push _) rfl (Qd _ rfl) fun v h' tk hv kp=>?_
  refine h v h' tk hv fun b o e=>kp b o (Qk (Qa e)) (by rw[e1];exact Qk (RH (Qa e))) (P4 _ (P4 _ e))
 refine Td (codeAny_call_builtin F.plain_max F.entry_max ?_);simp only[checkBuiltinCall,F.kind_max];have ha:=KM (.ref l) d;cases _T:Manifest.signature? "max" with
 |none=>exact P6 body
 |some sig=>
  simp only[argsOk,_T] at ha;have h2:Bind.checkArgs "max" sig ⟨[.ref l],[("default",d)]⟩=pure ():=ha;show wpAny _ A.in1 (Bind.checkArgs "max" sig ⟨[.ref l],[("default",d)]⟩) _ _ s;rw[h2];exact P6 body
end
section
variable {X:Cx} {a b:Expr} {ta tb:TE} {p pos kp:Pos}
theorem Ph(K:Frag)(mm:X.mg "max"=none) (ha:PE X a ta) (hb:PE X b tb) (hc:X.calm=true:=by rfl) (hg:Gl X "max":=by rfl) (hs:starEach [a] X.env=[(false,eval a X.env)]:=by rfl) (hK:X.K=K:=by rfl)
  (hall:(backToKw pos (keywordEach [⟨some "default",b,kp⟩] X.env)).all (·.1.isSome)=true:=by rfl) (_g:(backToKw pos (keywordEach [⟨some "default",b,kp⟩] X.env)).filterMap (·.1)=([Str.ofString "default"]:List Str):=by rfl)
  (YN:(backToKw pos (keywordEach [⟨some "default",b,kp⟩] X.env)).any (·.1.isNone)=false:=by rfl):
  PE X (.Call (.Name "max" p) [a] [⟨some "default",b,kp⟩] pos) (fun O H Q=>ta O H fun x H1=>tb O H1 fun y H2=>∃(q:Addr) (ns:List Int) (j:Int),x=.ref q/\y=.int j/\T9 K H2 q (ns.map V.int)/\(ns=[]->Q (.int j) H2)/\∀M,UD M ns->Q (.int M) H2):=by
 subst hK;intro pins s O H Q I h;have hb1:backTo pos (starEach [a] X.env)=[(false,eval a X.env)]:=by rw[hs];rfl
 refine Rz (jI I hg mm (u:=.builtin "max") rfl (callWith_builtin_kwB (by rw[hb1];rfl) YN ?_));rw[hb1];refine evalArgs_kwB hall (Calls.spliced_cons (TM (ha pins s O H _ I h) fun u s1 ⟨x,H1,I1,r1,q1⟩=>Calls.spliced_nil ?_));refine kws_cons (TM (hb pins s1 O H1 _ I1 q1) fun u2 s2 ⟨y,H2,I2,r2,q2⟩=>kws_nil ?_);obtain⟨q,ns,j,rfl,rfl,hq,hz,hm⟩:=q2;cases r1;obtain⟨t,rfl⟩:=r2;obtain⟨its,rv,pl,_⟩:=I2.list hq;rw[_g];refine Nl (d:=.int j t) (I2.ok.hd hc) pl.isList (wU rv) fun v h' tk hv kp'=>?_;rcases hv with⟨e,rfl⟩|⟨M,t',rfl,hM⟩
 .exact⟨.int j,H2,I2.kept kp',⟨_,rfl⟩,hz e⟩
 .exact⟨.int M,H2,I2.kept kp',⟨_,rfl⟩,hm M hM⟩
end
section
variable {X:Cx} {a b:Expr} {ta tb:TE} {p pos:Pos}
theorem OQ:gb X (.type "int") (fun xs H Q=>∃k,xs=[V.bl k]/\Q (.int (if k then 1 else 0)) H):=fun pins s O H xs us Q I r h=>F5 pins s O H xs us Q I r (.inr h)
theorem Ge(ml:X.mg "int"=none) (ha:PE X a ta) (hg:Gl X "int":=by rfl) (hs:starEach [a] X.env=[(false,eval a X.env)]:=by rfl):
  PE X (.Call (.Name "int" p) [a] [] pos) (fun O H Q=>ta O H fun x H1=>∃k,[x]=[V.bl k]/\Q (.int (if k then 1 else 0)) H1):=
 oI OQ hg ml rfl (eJ ha eZ hs) (he:=hs)
theorem iR2(mr:X.mg "range"=none) (ha:PE X a ta) (hb:PE X b tb) (hg:Gl X "range":=by rfl) (hs:starEach [a,b] X.env=[(false,eval a X.env),(false,eval b X.env)]:=by rfl) (Tj:starEach [b] X.env=[(false,eval b X.env)]:=by rfl):
  PI X tg (.Call (.Name "range" p) [a,b] [] pos) (BG (gq ta (gq tb h8))):=Ii hg mr (eJ ha (eJ hb eZ Tj) (by rw[hs,Tj])) hs Tj
theorem MD(K:Frag)(ha:PE X a ta)(hb:PE X b tb)(hm:behindInMarks .NotIn b=false:=by rfl)(hK:X.K=K:=by rfl):PT X (.Compare a [.NotIn] [b] pos) (o7 (X7 (ϸ K true) ta tb)):=by
 subst hK;exact zr Kh ha hb hm
end
abbrev Ask:=Nat×Nat×Bool
def dq(ks:List Int)(i j:Nat):Bool:=decide (ks.getD i 0=ks.getD j 0)
def UI(ks:List Int):Nat->List Ask×Nat×Int
 |0=>([],0,if ks=[] then 0 else 1)
 |n+1=>if(UI ks n).2.2>0 then((UI ks n).1++[((UI ks n).2.1,n+1,dq ks (UI ks n).2.1 (n+1))],(UI ks n).2.1,(UI ks n).2.2+2*(if dq ks (UI ks n).2.1 (n+1) then 1 else 0) - 1) else((UI ks n).1,n+1,1)
def c7(ks:List Int):Nat:=(UI ks (ks.length - 1)).2.1
def dv(ks:List Int):List Ask:=(UI ks (ks.length - 1)).1
def lB(ks:List Int):List Nat:=(if ks=[] then [] else [c7 ks])++((dv ks).filter fun a=>decide (a.1=c7 ks)&&a.2.2).map fun a=>a.2.1
def lF(ks:List Int):List Nat:=((dv ks).filter fun a=>decide (a.1=c7 ks)&&!a.2.2).map fun a=>a.2.1
def jU(ks:List Int)(s:List Ask×List Nat×List Nat):Bool:=decide (ks.length<2*s.2.1.length)||decide (ks.length<=2*s.2.2.length)
def Tu(ks:List Int):Nat->List Ask×List Nat×List Nat
 |0=>(dv ks,lB ks,lF ks)
 |n+1=>if jU ks (Tu ks n) then Tu ks n else if n∈(Tu ks n).2.1\/n∈(Tu ks n).2.2 then Tu ks n
  else if dq ks (c7 ks) n then((Tu ks n).1++[(c7 ks,n,true)],(Tu ks n).2.1++[n],(Tu ks n).2.2)
  else((Tu ks n).1++[(c7 ks,n,false)],(Tu ks n).2.1,(Tu ks n).2.2++[n])
def fe(ks:List Int):List Ask×List Nat×List Nat:=Tu ks ks.length
def jo(ks:List Int):Option Nat:=if ks.length<2*(fe ks).2.1.length then some (c7 ks) else none
theorem nc:∀{n:Nat},n+1<=ks.length->(UI ks n).2.1<ks.length
 |0,h=>by simp only[UI];omega
 |n+1,h=>by
  have ih:=nc (ks:=ks) (n:=n) (by omega);unfold UI;split
  .exact ih
  .show n+1<ks.length;omega
theorem rn:∀{n:Nat},(UI ks n).1.length<=n
 |0=>by simp[UI]
 |n+1=>by
  have ih:=rn (ks:=ks) (n:=n);unfold UI;split
  .simp;omega
  .show(UI ks n).1.length<=_;omega
theorem xb:∀{n:Nat},(Tu ks n).1.length<=(dv ks).length+n/\(Tu ks n).2.1.length<=(lB ks).length+n/\(Tu ks n).2.2.length<=(lF ks).length+n
 |0=>by simp[Tu]
 |n+1=>by
  obtain⟨h1,h2,h3⟩:=xb (ks:=ks) (n:=n);unfold Tu;split
  .exact⟨by omega,by omega,by omega⟩
  .split
   .exact⟨by omega,by omega,by omega⟩
   .split
    .simp only[Qp,QR];exact⟨by omega,by omega,by omega⟩
    .simp only[Qp,QR];exact⟨by omega,by omega,by omega⟩
def qv(ks:List Int):(dv ks).length<=ks.length:=by
 have:=rn (ks:=ks) (n:=ks.length - 1);unfold dv;omega
def HG(ks:List Int):(lB ks).length<=ks.length+1:=by
 have h1:=qv ks;have h2:=Q4 (fun a:Ask=>decide (a.1=c7 ks)&&a.2.2) (dv ks);unfold lB;rw[Qp,Qb];split
 .simp;omega
 .simp;omega
def D0(ks:List Int):(lF ks).length<=ks.length:=by
 have h1:=qv ks;have h2:=Q4 (fun a:Ask=>decide (a.1=c7 ks)&&!a.2.2) (dv ks);unfold lF;rw[Qb];omega
theorem yP(h:jU ks (Tu ks n)=true):∀m,n<=m->Tu ks m=Tu ks n
 |0,hm=>by
  have:n=0:=by omega
  subst this;rfl
 |m+1,hm=>by
  by_cases e:n=m+1
  .subst e;rfl
  .have ih:=yP h m (by omega);show Tu ks (m+1)=_;rw[Tu,ih,if_pos h]
def getD_some{ks:List Int}{i:Nat}(h:i<ks.length):ks[i]?=some (ks.getD i 0):=by rw[P7,P9 h];rfl
def laid(ks:List Int):Nat->List Ask×List Nat×List Nat
 |0=>([],[],[])
 |n+1=>match(laid ks n).2.1 with
  | []=>((laid ks n).1,[n],(laid ks n).2.2)
  |t::r=>if dq ks t n then((laid ks n).1++[(t,n,true)],t::r,n::(laid ks n).2.2)
   else((laid ks n).1++[(t,n,false)],(laid ks n).2.2.take 1++[n]++(t::r),(laid ks n).2.2.drop 1)
def oO(ks:List Int):Nat:=(laid ks ks.length).2.1.headD 0
def eX(ks:List Int)(t:Nat):List Nat->Nat->List Ask->List Ask×Option Nat
 | [],left,a=>(a,if 0<left then some t else none)
 | [x],left,a=>if dq ks x t then((if x=t then a else a++[(t,x,dq ks x t)]),some t)
  else if left=0 then((if x=t then a else a++[(t,x,dq ks x t)]),none)
  else((if x=t then a else a++[(t,x,dq ks x t)]),if 0<left - 1 then some t else none)
 |x::y::r,left,a=>if dq ks x t then eX ks t r left (if x=t then a else a++[(t,x,dq ks x t)])
  else if left=0 then((if x=t then a else a++[(t,x,dq ks x t)]),none)
  else eX ks t (y::r) (left - 1) (if x=t then a else a++[(t,x,dq ks x t)])
def fH(ks:List Int):List Ask×Option Nat:=if ks=[] then([],none) else eX ks (oO ks) (laid ks ks.length).2.1 (laid ks ks.length).2.2.length (laid ks ks.length).1
theorem nX:∀{n:Nat},n<=ks.length->(laid ks n).1.length<=n/\(laid ks n).2.1.length+(laid ks n).2.2.length<=n/\(∀x∈(laid ks n).2.1,x<ks.length)/\(∀x∈(laid ks n).2.2,x<ks.length)/\(0<n->(laid ks n).2.1≠[])
 |0,_=>⟨by simp[laid],by simp[laid],fun _ h=>by simp[laid] at h,fun _ h=>by simp[laid] at h,fun h=>by omega⟩
 |n+1,hn=>by
  obtain⟨h1,h2,h3,h4,h5⟩:=nX (ks:=ks) (n:=n) (by omega);rw[laid];cases e:(laid ks n).2.1 with
  |nil=>
   rw[e] at h2;simp only[RT,Rv] at h2;simp only[QR];refine⟨by omega,by omega,fun x hx=>?_,h4,fun _=>by simp⟩;have:x=n:=by simpa using hx
   omega
  |cons t r=>
   rw[e] at h2 h3;simp only[Qj] at h2;by_cases hs:dq ks t n=true
   .simp only[hs,if_true,Qp,Qj,RT];refine⟨by omega,by omega,h3,fun x hx=>?_,fun _=>by simp⟩;rcases Qz.mp hx with rfl|z
    .omega
    .exact h4 x z
   .simp only[hs,Qo,if_false,Qp,Qj,RT,RJ,SZ];refine⟨by omega,by omega,fun x hx=>?_,fun x hx=>h4 x (List.mem_of_mem_drop hx),fun _=>by simp⟩;rcases Qr.mp hx with z|z
    .rcases Qr.mp z with z|z
     .exact h4 x (List.mem_of_mem_take z)
     .have:x=n:=by simpa using z
      omega
    .exact h3 x z
section
variable {X:Cx}
theorem En:UU X (binaryOp .FloorDiv) (rI (fun _ j=>0<j/\j<2^200) fun i j=>.int (i/j)):=ώ fun i j _ _ _ _ _ hc q=>by
 obtain⟨h1,h2⟩:=hc;refine floordiv_int (by omega) (by rw[Int.fdiv_eq_ediv_of_nonneg i (by omega)];exact q) (.inl (PyProof.noPylong_of_log2 ?_));have h3:j.natAbs≠0:=by omega
 have h4:j.natAbs<2^200:=by
  have:((j.natAbs:Nat):Int)=j:=by omega
  have h5:((j.natAbs:Nat):Int)<((2^200:Nat):Int):=by rw[this];exact_mod_cast h2
  omega
 have:=(Nat.log2_lt h3).mpr h4;omega
theorem Nh(K:Frag){a:Expr}{ta:TE}{p pos:Pos}(mm:X.mg "max"=none) (ha:PE X a ta) (hc:X.calm=true:=by rfl) (hg:Gl X "max":=by rfl) (hs:starEach [a] X.env=[(false,eval a X.env)]:=by rfl) (hK:X.K=K:=by rfl):
  PE X (.Call (.Name "max" p) [a] [] pos) (fun O H Q=>ta O H fun x H1=>∃(q:Addr) (ns:List Int),[x]=[.ref q]/\T9 K H1 q (ns.map V.int)/\ns≠[]/\∀M,UD M ns->Q (.int M) H1):=by
 subst hK;have rule:gb X (.builtin "max") (fun xs H Q=>∃(q:Addr) (ns:List Int),xs=[.ref q]/\T9 X.K H q (ns.map V.int)/\ns≠[]/\∀M,UD M ns->Q (.int M) H):=by
  intro pins s O H xs us Q I r h;obtain⟨q,ns,rfl,hq,hne,k⟩:=h;obtain⟨u,rfl,ru⟩:=gK r;cases ru;obtain⟨its,rv,pl,hz⟩:=I.list hq;have hi:=wU rv;obtain⟨xs,e⟩:=hi.allInts.items;have hl:=pl.isList;rw[e] at hl;have Yl:xs.toList.map (·.1)=ns:=by rw[←hi.numsOf,←nums_intItems,←e]
  have hsz:0<xs.size:=by
   rcases Nat.eq_zero_or_pos xs.size with z|z
   .exact absurd (by rw[←Yl,List.map_eq_nil_iff];exact QA.mp (by simpa using z)) hne
   .exact z
  have hlen:(xs.toList.map (·.1)).length=xs.size:=by rw[Qb,Rg]
  refine max_intList (I.ok.hd hc) hl hsz fun v h' tk hv hk=>?_;obtain⟨t,rfl⟩:=intItems_at hv;have best:=argBest_gt (numAt xs) (xs.size - 1);refine(⟨.int _,H,I.kept hk,⟨_,rfl⟩,k _ ⟨?_,fun a ha=>?_⟩⟩)
  .rw[←Yl,numAt_eq];have:=best.1;exact getD_mem (by rw[hlen];omega)
  .rw[←Yl] at ha;obtain⟨j,hj,e2⟩:=mem_getD ha;rw[hlen] at hj;rw[←e2,←numAt_eq];exact best.2 j (by omega)
 exact jY rule hg mm rfl (eJ ha eZ hs) (he:=hs)
end
inductive Tr where
 |none
 |one (i:Int)
 |ask (i j:Int) (a u:Tr)
theorem tF:∀{bs:List Bool} {us:List Value},Vals (bs.map V.bl) us->us=bs.map Value.bool
 | [],_,h=>by cases h;rfl
 |b::r,_,h=>by
  cases h with
  |cons h1 h2=>
   cases (show _=Value.bool b from h1);rw[tF h2];rfl
section
variable {X:Cx} {a b o:Expr} {ta:TE} {p pos:Pos}
theorem OH(K:Frag)(mm:X.mg "all"=none) (ha:PE X a ta) (hc:X.calm=true:=by rfl) (hg:Gl X "all":=by rfl) (hs:starEach [a] X.env=[(false,eval a X.env)]:=by rfl) (hK:X.K=K:=by rfl):
  PE X (.Call (.Name "all" p) [a] [] pos) (fun O H Q=>ta O H fun x H1=>∃(q:Addr) (bs:List Bool),[x]=[.ref q]/\T9 K H1 q (bs.map V.bl)/\Q (.bl (bs.all id)) H1):=by
 subst hK;have rule:gb X (.builtin "all") (fun xs H Q=>∃(q:Addr) (bs:List Bool),xs=[.ref q]/\T9 X.K H q (bs.map V.bl)/\Q (.bl (bs.all id)) H):=by
  intro pins s O H xs us Q I r h;obtain⟨q,bs,rfl,hq,k⟩:=h;obtain⟨u,rfl,ru⟩:=gK r;cases ru;obtain⟨its,rv,pl,hz⟩:=I.list hq;have ei:its=bs.map Value.bool:=tF rv;subst ei;obtain⟨ol,el,_⟩:=id pl.isList;have qlt:q<s.heap.objs.size:=Qa el;refine(call_all_walk (SQ pl.isList ⟨_,_,_,_,_,_,fun i=>bs.getD i false,rfl,Walks.list (A:=X.A.in1) (I.ok.hd hc) _ q (Qk qlt) (bs.map Value.bool).toArray,⟨⟨_,Qd _ rfl,rfl,rfl⟩,pl.isList.push _⟩,?_,fun h' tk keep=>?_⟩))
  .intro i v s' Q' E' hv hQ;have Xb:(bs.map Value.bool)[i]?=some v:=by simpa using hv
   rw[Qm] at Xb;cases eb:bs[i]? with
   |none=>rw[eb] at Xb;cases Xb
   |some b=>
    rw[eb] at Xb;have:v=.bool b:=(Qx Xb).symm;subst this;have e2:bs.getD i false=b:=by rw[P7,eb];rfl
    simp only[e2] at hQ;exact Q5 hQ
  .have ea:(List.range (bs.map Value.bool).toArray.size).all (fun i=>bs.getD i false)=bs.all id:=by
    rw[Q9,QE,QE];constructor
    .intro hh b hb;obtain⟨i,hi⟩:=Q8 hb;have:=hh i (by simp;exact(P5.mp hi).1);rw[P7,hi] at this;exact this
    .intro hh i hi;have WU:i<bs.length:=by simpa using hi
     rw[P7,P9 WU];exact hh _ (QX WU)
   rw[ea];have kp:∀b o,s.heap.get? b=some o->h'.get? b=some o:=fun b o e=>keep b o (fun hm=>absurd (Qu.mp hm) (Qk (Qa e))) (P4 _ e);exact⟨.bl _,H,I.kept kp,rfl,k⟩
 exact jY rule hg mm rfl (eJ ha eZ hs) (he:=hs)
end
def HB{k:Int}{ns:List Int}:Yj (.int k) (ns.map V.int)=decide (k∈ns):=by
 unfold Yj;rw[Q9,Rb];simp only[QQ];constructor
 .rintro⟨y,hy,e⟩;obtain⟨n,hn,rfl⟩:=Qi.mp hy;have:n=k:=by
   have e':Wz (.int n) (.int k)=true:=e;simpa[Wz] using e'
  rw[←this];exact hn
 .intro h;exact⟨.int k,Qi.mpr ⟨k,h,rfl⟩,by simp[Wz]⟩
def Jr(o:List Int)(k:Int):Nat:=if k∈o then o.idxOf k+1 else o.length
def Hi(o:List Int)(fs:List Nat)(n:Nat)(k:Int)(m:Nat):List Ask:=(List.range m).map fun at_=>(fs.getD at_ 0,n,decide (o.getD at_ 0=k))
def ob(ks:List Int):Nat->List Int×List Nat×List Ask
 |0=>([],[],[])
 |n+1=>(if ks.getD n 0∈(ob ks n).1 then(ob ks n).1 else(ob ks n).1++[ks.getD n 0],
   if ks.getD n 0∈(ob ks n).1 then(ob ks n).2.1 else(ob ks n).2.1++[n],
   (ob ks n).2.2++Hi (ob ks n).1 (ob ks n).2.1 n (ks.getD n 0) (Jr (ob ks n).1 (ks.getD n 0)))
section
variable {prog:Program} {w:World} {A:Around} {R:Result->Shared->Prop} {s:Shared}
theorem Gg{kx vx target iter:Expr}{ifs:List Expr}{scope:Scope}{pos:Pos}{it:Value}{D:Addr}{env:Env}(I:Nat->Shared->Prop)
  (turn:∀n s,I n s->wpAny (model prog w) A (pyNext it) (fun r ZT=>match r with
   |none=>R (.ok .next) ZT
   |some v=>wpAny (model prog w) A (letOwnedTupleGo target it v) (fun _ Zz=>wpAny (model prog w) A (assign target env v) (fun _ ZM=>
     wpAny (model prog w) A (forIn ifs true fun c r=>if r=true then do let ok ←isTrue c env (eval c env);pure (ForInStep.yield ok) else pure (ForInStep.yield r)) (fun ok ZJ=>
      if ok=true then wpAny (model prog w) A (eval kx env) (fun kv ZG=>wpAny (model prog w) A (eval vx env) (fun vv ZA=>
       wpAny (model prog w) A (dictSet D kv vv) (fun _ Zm=>∃m,m<n/\I m Zm) (fun _ _=>False) ZA) (fun _ _=>False) ZG) (fun _ _=>False) ZJ
      else ∃m,m<n/\I m ZJ) (fun _ _=>False) ZM) (fun _ _=>False) Zz) (fun _ _=>False) ZT) (fun _ _=>False) s)
  (n:Nat) (h:I n s):codeAny (model prog w) A (.compLoop (.DictComp kx vx [⟨target,iter,ifs,0⟩] scope pos) 0 it (.ref D) env) R s:=by
 refine S1 rfl I (fun n s hI=>?_) n h;show wpAny _ A ((compTurn (.DictComp kx vx [⟨target,iter,ifs,0⟩] scope pos) 0 it (.ref D) env).onRaise (fun x=>do noteFrame x env;theTreesLotGoes x)) _ _ s;refine S8 ?_;rw[compTurn_dict];refine P8 (E:=fun _ _=>False) ?_ (fun _ _ x=>x) fun _ _ x=>x.elim;refine P2 (Rc (P2 (P8 (turn n s hI) (fun r ZT ZO=>?_) fun _ _ h'=>h')));cases r with
 |none=>exact P6 ZO
 |some v=>
  refine P2 (P8 ZO (fun _ Zz Zt=>?_) fun _ _ h'=>h');refine P2 (P8 Zt (fun _ ZM ZC=>P2 (P8 ZC (fun ok ZJ ZB=>?_) fun _ _ h'=>h')) fun _ _ h'=>h');cases ok with
  |false=>exact P6 ⟨rfl,ZB⟩
  |true=>
   exact P2 (P2 (P8 ZB (fun kv ZG Zs=>P2 (Rl (P8 Zs (fun vv ZA Zr=>P2 (Rc (Rl (P8 Zr (fun _ Zm Zi=>P6 ⟨rfl,Zi⟩) fun _ _ h'=>h')))) fun _ _ h'=>h'))) fun _ _ h'=>h'))
end
def mK(Z6:It)(g:TG)(tc:TT)(tk tv:TE)(D:Addr)(ZL:St)(H0:Hp)(Z:Hp->Prop):Prop:=
 ∃W:Nat->Nat->St->Hp->Prop,(∃m,W 0 m ZL (upd H0 D (.dK [])))/\∀i m O H,W i m O H->
  (Z6.stop i H/\Z H)\/(Z6.go i H/\∃N:St->Hp->Prop,(∀ZZ H',N ZZ H'->∃m',m'<m/\W (i+1) m' ZZ H')/\∀x H',Z6.yld i H x H'->g x O H' fun ZV H2=>tc ZV H2 fun b H3=>
   if b=true then tk ZV H3 fun y H4=>tv ZV H4 fun v H5=>∃kvs k,H5 D=some (.dK kvs)/\kvs.length<sizeLine/\y=kV k/\N ZV (upd H5 D (.dK (dG kvs k v))) else N ZV H3)
section
variable {X:Cx} {pins:QS} {O:St} {N' own:List Str} {cap:List (Str×Nat)} {scope:Scope} {tg iter kx vx:Expr} {ifs:List Expr} {pos:Pos} {g:TG} {tc:TT} {tk tv:TE} {wi:TI}
theorem Fl{Y:Cx}{s:Shared}{ZL:St}{H2:Hp}{it D:Addr}{fp:List Addr}{tn:Nat->Heap->Prop}{Z6:It}{Z:Hp->Prop}{R:Result->Shared->Prop}
  (hx:∀e s,Y.xe e s->False) (hc:Y.calm=true) (hg:PG Y tg g) (ht:Up Y ifs tc) (Yp:PE Y kx tk) (μ:PE Y vx tv)
  (T:Turn Y.prog Y.w Y.K tg Z6 fp it tn) (J0:Inv Y [] ZL (upd H2 D (.dK [])) s) (VN:tn 0 s.heap) (f3:∀b∈fp,upd H2 D (.dK []) b=none)
  (Tx:∀{H':Hp},(∀b∈fp,H' b=none)->∀b∈fp,eE Y [] H' b) (h:mK Z6 g tc tk tv D ZL H2 Z)
  (hR:∀ZN H4 s5,Inv Y [] ZN H4 s5->Z H4->R (.ok .next) s5):
  codeAny (model Y.prog Y.w) Y.A (.compLoop (.DictComp kx vx [⟨tg,iter,ifs,0⟩] scope pos) 0 (.ref it) (.ref D) Y.env) R s:=by
 obtain⟨W,⟨m0,w0⟩,turn⟩:=h;have VU:∀{J:Type} {t:Sem J} {Q:J->Shared->Prop} {s:Shared},wpAny (model Y.prog Y.w) Y.A t Q Y.xe s->wpAny (model Y.prog Y.w) Y.A t Q (fun _ _=>False) s:=fun q=>P8 q (fun _ _ z=>z) fun e s z=>hx e s z;obtain⟨P,hP⟩:∃P:Nat->Shared->Prop,∀n s',P n s'↔∃i ZZ H',Inv Y [] ZZ H' s'/\tn i s'.heap/\(∀b∈fp,H' b=none)/\W i n ZZ H':=⟨_,fun _ _=>Qg⟩
 refine Gg P ?_ m0 ((hP _ _).2 ⟨0,_,_,J0,VN,f3,w0⟩);rintro n s4 h4;obtain⟨i,ZN,H4,I4,Xn,X2,w4⟩:=(hP _ _).1 h4;rcases turn i n ZN H4 w4 with⟨stop,qz⟩|⟨go,N,hN,step⟩
 .refine P8 (T.done Y rfl rfl rfl hc i [] s4 ZN H4 (fun _ _=>False) I4 (Tx X2) Xn stop) (fun r s5 ⟨hr,I5⟩=>?_) fun _ _ z=>z;subst hr;exact hR ZN H4 s5 I5 qz
 .refine P8 (T.item Y rfl rfl rfl hc i [] s4 ZN H4 (fun _ _=>False) I4 (Tx X2) Xn go) (fun r s5 ⟨u,hr,h5⟩=>?_) fun _ _ z=>z;subst hr;refine P8 h5 (fun _ s6 hm=>?_) fun _ _ z=>z;obtain⟨x,H6,I6,r6,y6,Wb,Ι⟩:=hm;have I6':=I6.pinned (Tx Ι) (T.obj _ _ Wb);have again:∀{ZS:St} {H7:Hp} {s7:Shared},Inv Y ([]++jN fp s6.heap) ZS H7 s7->N ZS H7->∃m,m<n/\P m s7:=fun{ZS H7 s7} I7 n7=>by
   obtain⟨m',hm,w7⟩:=hN ZS H7 n7;refine(⟨m',hm,(hP _ _).2 ⟨i+1,ZS,H7,I7.unpinned,T.keep _ _ _ Wb fun b hb o e=>(I7.pin (b,o) (Qf _ (Qf _ (hV hb e)))).1,fun b hb=>?_,w7⟩⟩);obtain⟨o,e,d⟩:=T.obj _ _ Wb b hb;exact((I7.pin (b,o) (Qf _ (Qf _ (hV hb e)))).2.1)
  refine VU (TM (hg _ s6 ZN H6 x u _ I6' r6 (step x H6 y6)) fun _ s7 hm=>?_);obtain⟨ZS,H7,I7,q7⟩:=hm;refine(VU (TM (ht _ s7 ZS H7 _ I7 q7) fun b s8 hm=>?_));obtain⟨H8,I8,q8⟩:=hm;cases b with
  |false=>
   show ∃m,_;exact again I8 q8
  |true=>
   show wpAny _ _ _ _ _ _;refine VU (TM (Yp _ s8 ZS H8 _ I8 q8) fun kv s9 hm=>?_);obtain⟨vk,H9,I9,r9,q9⟩:=hm;refine(VU (TM (μ _ s9 ZS H9 _ I9 q9) fun vv s10 hm=>?_));obtain⟨v,H10,ϲ,r10,kvs,k,e10,hz,ek,X'⟩:=hm;subst ek;obtain⟨z,hd,vs,rel,dd⟩:=gO ϲ.hok e10;have hz':vs.length<=sizeLine:=by rw[←rel.length];exact z
   have hl:(dG kvs k v).length<=sizeLine:=by have:=nL kvs k v;omega
   refine(wpAny_dictSet_pairs (hsz:=hz') (lf r9) dd fun h' Vw hs'=>?_);have X0:∃q,h'.get? D=some q:=let ⟨q,_,_,hq,_⟩:=Vw;⟨q,hq⟩
   exact again (lz (t':=s10.toks+1) ϲ (by rw[e10];exact True.intro) hs' X0 (mS hl hd (rel.put k r10) Vw)) X'
theorem HD{s2:Shared}{H2:Hp}{it:Addr}{fp:List Addr}{tn:Nat->Heap->Prop}{Z6:It}{cl:List (Str×Addr)}{Z:Addr->Hp->Prop}{RR:Value->Addr->Result->Shared->Prop}{E:OK}
  (hx:∀e s,X.xe e s->False) (hc:X.calm=true) (S:TK X N' own cap scope)
  (hg:∀cl C Z1 Z0 ex,PG (c3 X N' scope cl C Z1 Z0 ex) tg g) (ht:∀cl C Z1 Z0 ex,Up (c3 X N' scope cl C Z1 Z0 ex) ifs tc) (Yp:∀cl C Z1 Z0 ex,PE (c3 X N' scope cl C Z1 Z0 ex) kx tk) (μ:∀cl C Z1 Z0 ex,PE (c3 X N' scope cl C Z1 Z0 ex) vx tv)
  (I2:Inv X pins O H2 s2) (T:Turn X.prog X.w X.K tg Z6 fp it tn) (Ur:tn 0 s2.heap) (f2:∀b∈fp,eE X pins H2 b)
  (c1:∀y c,cl.lookup y=some c->X.env.cells.lookup y=some c) (c2:∀y,(y,NameKind.free)∈scope.names->∃c,cl.lookup y=some c)
  (h:∀D,H2 D=none->mK Z6 g tc tk tv D (ff own cap O) H2 (Z D))
  (Ζ:∀D C s' m' H',Inv X pins O H' s'->s'.heap.Ns C m'->eE X pins H' C->Z D H'->RR (.ref D) C (.ok .next) s'):
  wpAny (model X.prog X.w) X.A (newDict) (fun acc ZJ=>wpAny (model X.prog X.w) X.A (newFunctionEnv scope X.env.globals cl [] X.env.qual none .none (some X.env)) (fun Vr ZG=>
   codeAny (model X.prog X.w) X.A (.compStart (.DictComp kx vx [⟨tg,iter,ifs,0⟩] scope pos) 0 (.ref it) acc {Vr with scope:=relabel scope X.env}) (RR acc Vr.locals) ZG) E ZJ) E s2:=by
 have hlt:∀b∈fp,b<s2.heap.objs.size:=fun b hb=>by
  obtain⟨o,e,_⟩:=T.obj _ _ Ur b hb;exact(Qa e)
 have hD:H2 s2.heap.objs.size=none:=I2.hok.fresh (P3 _);have YH:(s2.heap.objs.size==sysModules)=false:=by
  have:=I2.big;rw[beq_eq_false_iff_ne];exact Sd this
 refine QW (t5 (fun ZO Zy Zx Zw=>?_));dsimp only at Zy Zx Zw⊢;have I3:Inv X pins O (upd H2 s2.heap.objs.size (.dK [])) {s2 with heap:=s2.heap.push {cls:=.type "dict",dict:=none,data:=.dict #[]},toks:=s2.toks}:=
  I2.laid (fun b o e=>P4 _ e) (P3 _) ⟨QZ _,YH,[],.nil,Heap.DictOf.new s2.heap⟩
 generalize XF:({s2 with heap:=s2.heap.push {cls:=.type "dict",dict:=none,data:=.dict #[]},toks:=s2.toks}:Shared)=s3 at I3;have e3:s2.heap.push {cls:=.type "dict",dict:=none,data:=.dict #[]}=s3.heap:=by rw[←XF]
 have hsz:s3.heap.objs.size=s2.heap.objs.size+1:=by rw[←e3,Q2]
 rw[e3] at Zy Zx Zw⊢;have hk:=Zx;have VQ:∀y c,cl.lookup y=some c->¬s3.heap.objs.size<c:=fun y c e z=>by
  obtain⟨v,o,ho,_⟩:=I3.cell y c (c1 y c e);exact(QY _ (Si z (Qa ho)))
 have CA:CellsAre X scope s3.heap.objs.size cl (cellsFrom (s3.heap.objs.size+1) scope.names cl):=qS (h:=s3.heap.push {cls:=.type "dict",data:=.dict #[]}) (by rw[Q2]) S VQ;have T6:∀y c,(cellsFrom (s3.heap.objs.size+1) scope.names cl).lookup y=some c->s3.heap.objs.size<c->ZO.IsCell c none:=fun y c e z=>by
  rw[iB,jH] at e;cases q:(cellsFrom (s3.heap.objs.size+1) scope.names []).lookup y with
  |none=>rw[q] at e;exact absurd z (VQ y c e)
  |some c'=>
   rw[q] at e;have:c'=c:=Qx e;subst this;exact Zw y c' (QJ q)
 generalize X1:cellsFrom (s3.heap.objs.size+1) scope.names cl=cs at CA T6⊢;have f3:∀b∈fp,eE X pins (upd H2 s2.heap.objs.size (.dK [])) b:=fun b hb=>⟨by rw[dg (Qk (hlt b hb))];exact(f2 b hb).1,(f2 b hb).2⟩
 have Vn:∀b∈fp,b<s3.heap.objs.size:=fun b hb=>by rw[hsz];exact RH (hlt b hb)
 have VN:tn 0 ZO:=T.keep _ _ _ Ur fun b hb o e=>hk b o (by rw[←e3];exact P4 _ e);have J0:Inv (c3 X N' scope cs s3.heap.objs.size s3 (upd H2 s2.heap.objs.size (.dK [])) fp) [] (ff own cap O) (upd H2 s2.heap.objs.size (.dK [])) {s3 with heap:=ZO,toks:=s2.toks}:=
  T8 I3 S CA T6 c1 c2 f3 Vn hk Zy
 have Tx:∀{pl:QS} {H':Hp},pl=[]->(∀b∈fp,H' b=none)->∀b∈fp,eE (c3 X N' scope cs s3.heap.objs.size s3 (upd H2 s2.heap.objs.size (.dK [])) fp) pl H' b:=fun{pl H'} hp hn b hb=>by
  subst hp;refine⟨hn b hb,Qk (Vn b hb),J0.ok.exfs b hb,.inl hb,fun x c e=>J0.ok.exf b hb |>.2 x c e,fun p hp=>absurd hp (by show p∉([]++[]:QS);simp)⟩
 have loop:codeAny (model X.prog X.w) X.A (.compLoop (.DictComp kx vx [⟨tg,iter,ifs,0⟩] scope pos) 0 (.ref it) (.ref s2.heap.objs.size) (compEnvC scope cs s3.heap.objs.size X.env)) (RR (.ref s2.heap.objs.size) s3.heap.objs.size)
   {s3 with heap:=ZO,toks:=s2.toks}:=Fl (Y:=c3 X N' scope cs s3.heap.objs.size s3 (upd H2 s2.heap.objs.size (.dK [])) fp) hx hc (hg _ _ _ _ _) (ht _ _ _ _ _) (Yp _ _ _ _ _) (μ _ _ _ _ _) T J0 VN (fun b hb=>(f3 b hb).1) (Tx rfl) (h _ hD) fun ZN H4 s5 I5 qz=>by
  have I6:Inv X pins O H4 s5:=I3.call' (ch:=fp) I5.os I5.base I5.hok I5.bare fun b hb=>⟨(f3 b hb).2.2.2.1,(f3 b hb).2.1,(f3 b hb).2.2.2.2.1,(f3 b hb).2.2.2.2.2⟩
  obtain⟨m',Vm,_⟩:=I5.loc;exact(Ζ _ _ s5 m' H4 I6 Vm (I3.fpOk (P3 _) I5.free) qz)
 have lp:codeAny (model X.prog X.w) X.A (.compStart (.DictComp kx vx [⟨tg,iter,ifs,0⟩] scope pos) 0 (.ref it) (.ref s2.heap.objs.size) (compEnvC scope cs s3.heap.objs.size X.env)) (RR (.ref s2.heap.objs.size) s3.heap.objs.size)
   {s3 with heap:=ZO,toks:=s2.toks}:=codeAny_compStart_dict loop (T.self _ 0 _ _ _ VN loop)
 subst XF;exact lp
theorem wD(S:TK X N' own cap scope)(hi:PI X tg iter wi)
  (hg:∀cl C Z1 Z0 ex,PG (c3 X N' scope cl C Z1 Z0 ex) tg g) (ht:∀cl C Z1 Z0 ex,Up (c3 X N' scope cl C Z1 Z0 ex) ifs tc) (hk:∀cl C Z1 Z0 ex,PE (c3 X N' scope cl C Z1 Z0 ex) kx tk) (hv:∀cl C Z1 Z0 ex,PE (c3 X N' scope cl C Z1 Z0 ex) vx tv)
  (hx:∀e s,X.xe e s->False:=by exact fun _ _ z=>z) (hc:X.calm=true:=by rfl) (hs:∀x,foldedSetIterable iter X.env x=pure x:=by intro _;rfl):
  PE X (.DictComp kx vx [⟨tg,iter,ifs,0⟩] scope pos) (fun O H Q=>wi O H fun Z6 H1=>∀D,H1 D=none->mK Z6 g tc tk tv D (ff own cap O) H1 (Q (.ref D))):=by
 intro pins s O H Q I h;rw[arm_eval_DictComp];obtain⟨cl,VQ,c1,c2⟩:=nN (scope:=scope) (env:=X.env) fun y hy hk=>I.ok.has y.1 (S.free y hy hk);refine(Rn (use:=none) rfl hs VQ S.kind S.names (TM (hi pins s O H _ I h) fun v s1 h1=>TM h1 fun Xa s2 h2=>?_));obtain⟨it,fp,tn,Z6,H2,e,I2,T,Ur,f2,q⟩:=h2;subst e;refine(HD (RR:=fun acc C=>compPost (model X.prog X.w) X.A X.xe none (EP X pins O Q) acc C) (Z:=fun D=>Q (.ref D)) hx hc S hg ht hk hv I2 T Ur f2 c1 c2 q ?_);intro D C s' m' H' I' Vm f' z;exact⟨m',Vm,fun Η V0=>⟨.ref D,H',I'.letgo f' V0,rfl,z⟩⟩
end
def WR(v d:Addr):HO:=.ext fun h=>h.IsItemsView v d
def Aq:V->List V->Hp->VK->Prop:=fun x vs H Q=>∃(a:Addr) (kvs:List (Key×V)),x=.ref a/\vs=[]/\H a=some (.dK kvs)/\∀v,H v=none->Q (.ref v) (upd H v (WR v a))
section
variable {X:Cx} {o:Expr} {to:TE} {pos:Pos}
theorem Nb:Yy X "dict.items" Aq:=by
 intro pins s O H x vs v us Q I rx rv h;obtain⟨a,kvs,rfl,rfl,e,q⟩:=h;cases rx;have:=rv.zero;subst this;obtain⟨z,hd,ws,rel,dd⟩:=gO I.hok e;refine(S2 PySem.F.slot_dict_items dd.typeIs PySem.F.entry_dict_items (PySem.F.args_dict_items_1 _) (meets_dict_items (fv X.prog X.w) a hd) ⟨⟨ws,dd⟩,?_⟩);have hv:(s.heap.push {cls:=.type "dict_items",data:=.fields #[.ref a]}).IsItemsView s.heap.objs.size a:=⟨_,Qd _ rfl,rfl,rfl⟩
 refine⟨.ref s.heap.objs.size,_,I.laid (t':=s.toks) (o:=WR s.heap.objs.size a) (fun b o q=>P4 _ q) (P3 _) ?_,rfl,q _ (I.hok.fresh (P3 _))⟩;exact⟨hv,⟨_,Qd _ rfl⟩,fun h1 h2 p k=>let ⟨o,ho,r⟩:=p;⟨o,k o ho,r⟩⟩
theorem G7(K:Frag)(ho:PE X o to)(TZ:attributeBase o "items" X.env (eval o X.env)=eval o X.env:=by rfl) (TY:(apos.endLine==pos.line)=true:=by rfl) (hK:X.K=K:=by rfl):
  PE X (.Call (.Attribute o "items" apos) [] [] pos) (m4 K "dict" Aq to):=by
 subst hK;exact rL RK PySem.F.slot_dict_items PySem.F.type_dict_items Nb ho TZ TY
end
def Itd(d:Addr)(o:Obj)(kvs:List (Key×V)):It:=
 ⟨fun i H=>H d=some (.frz o (.dK kvs))/\i<kvs.length,fun i H x H'=>∃p k v,x=.ref p/\H p=none/\H'=upd H p (.tup [kV k,v])/\kvs[i]?=some (k,v),fun i H=>H d=some (.frz o (.dK kvs))/\kvs.length<=i⟩
def J8(h:jX k u=true):RelV (kV k) u:=by
 rcases ib h with⟨i,t,rfl,rfl⟩|⟨x,t,rfl,rfl⟩
 .exact⟨t,rfl⟩
 .exact⟨t,rfl⟩
def KV.get(rel:KV kvs ws):∀{i:Nat} {k:Key} {v:V},kvs[i]?=some (k,v)->∃u,ws[i]?=some (k,u)/\RelV v u:=by
 induction rel with
 |nil=>intro i k v h;simp at h
 | @cons a b l r hd tl ih=>
  intro i k v h;cases i with
  |zero=>
   have:a=(k,v):=by simpa using h
   subst this;obtain⟨b1,b2⟩:=b;obtain⟨h1,h2⟩:=hd;have:k=b1:=h1;subst this;exact⟨b2,rfl,h2⟩
  |succ i=>
   obtain⟨u,h1,h2⟩:=ih (i:=i) (k:=k) (v:=v) (by simpa using h);exact(⟨u,by simpa using h1,h2⟩)
theorem LA{P:Program}{w:World}{K:Frag}{elts:List Expr}{k:Nat}{pos:Pos}{h0:Heap}{kvs:List (Key×V)}{ws:List (Key×Value)}{ep:Nat}{o:Obj}(d it:Addr)(rel:KV kvs ws)(ho:h0.get? d=some o)(Wy:h0.DictAt (fv P w) d ws ep):
  Turn P w K (.Tuple elts k pos) (Itd d o kvs) [it] it (fun i h=>∃ok ov,IsItemIter h it d i ws.length ep ok ov) where
 mem:=by simp
 obj:=fun i h st b hb=>by
  obtain⟨ok,ov,he⟩:=st;rw[Qu.mp hb];exact⟨_,he,fun v z=>by cases z⟩
 keep:=fun i h h' st kk=>let ⟨ok,ov,he⟩:=st;⟨ok,ov,kk it (by simp) _ he⟩
 item:=by
  intro X hP hw hK hc i pins s O H E I hf st hg;subst hP hw hK;obtain⟨hH,hi⟩:=hg;obtain⟨Vo,_⟩:s.heap.get? d=some o/\_:=I.hok d _ hH;have hm:s.heap.DictAt (fv X.prog X.w) d ws ep:=Wy.at' fun o' e=>by rw[ho] at e;cases e;exact Vo
  obtain⟨kk,v⟩:Key×V:=kvs[i];obtain⟨⟨k1,v1⟩,hx⟩:∃p,kvs[i]?=some p:=⟨kvs[i],by simp[hi]⟩
  obtain⟨u,hu,ru⟩:=rel.get hx;obtain⟨ok,ov,he⟩:=st;refine(wpAny_pyNext_items_item he hm hu fun key h1 hkey _X hT hsz hk=>?_);refine⟨_,rfl,wpAny_letOwnedTupleGo_items _X fun h2 _r Tj=>?_⟩;have hlt:it<s.heap.objs.size:=Qa he
  replace Tj:Heap.SameBut it h1 h2:=Tj
  have hT2:h2.get? s.heap.objs.size=some {cls:=.type "tuple",data:=.seq #[key,u]}:=(Tj.2 _ (Sd hlt)).trans hT;have hn:H s.heap.objs.size=none:=I.hok.fresh (P3 _);have I2:Inv X pins O (upd H s.heap.objs.size (.tup [kV k1,v1])) {s with heap:=h2,toks:=s.toks}:=
   I.turnLay (ch:=[it]) hf (fun b o hb q=>(Tj.2 b (fun z=>hb (by simp[z]))).trans (hk b o (fun z=>hb (by simp[z])) q)) (P3 _)
    ⟨zb,[key,u],.cons (J8 hkey) (.cons ru .nil),⟨_,hT2,rfl,_,rfl⟩⟩
  have f1:∀b∈[it],(upd H s.heap.objs.size (.tup [kV k1,v1])) b=none:=fun b hb=>by
   rw[Qu.mp hb,dg (Qk hlt)];exact(hf it (by simp)).1
  exact⟨.ref s.heap.objs.size,_,I2,rfl,⟨_,k1,v1,rfl,hn,rfl,hx⟩,⟨key,u,_r⟩,f1⟩
 done:=by
  intro X hP hw hK hc i pins s O H E I hf st hg;subst hP hw hK;obtain⟨hH,hi⟩:=hg;obtain⟨Vo,_⟩:s.heap.get? d=some o/\_:=I.hok d _ hH;have hm:s.heap.DictAt (fv X.prog X.w) d ws ep:=Wy.at' fun o' e=>by rw[ho] at e;cases e;exact Vo
  obtain⟨ok,ov,he⟩:=st;have hl:kvs.length=ws.length:=rel.length;refine wpAny_pyNext_items_end (I.ok.hd hc) he hm (by simp;omega) fun h' eb=>⟨rfl,I.turns (t':=s.toks) (ch:=[it]) hf fun b o hb q=>eb b o (fun z=>hb (by simp[z])) q⟩
 self:=fun _ _ _ _ _ st h=>by
  obtain⟨ok,ov,he⟩:=st;exact(PySem.W.kcp_self he h)
def NW(te:TE):TI:=fun O H R=>te O H fun x H1=>∃v d kvs,x=.ref v/\H1 v=some (WR v d)/\H1 d=some (.dK kvs)/\∀o,R (Itd d o kvs) (upd H1 d (.frz o (.dK kvs)))
def KN{X:Cx}{e:Expr}{te:TE}{elts:List Expr}{k:Nat}{Vh:Pos}(he:PE X e te):PI X (.Tuple elts k Vh) e (NW te):=by
 intro pins s O H R I h;refine TM (he pins s O H _ I h) fun u s1 hm=>?_;obtain⟨x,H1,I1,r1,v,d,kvs,ex,hv,hd,q⟩:=hm;subst ex;cases r1;obtain⟨z,YH,ws,rel,dd⟩:=gO I1.hok hd;obtain⟨ι,_,_⟩:s1.heap.IsItemsView v d/\_/\_:=I1.hok v _ hv;obtain⟨ep,Wy⟩:=dd.dictAt;obtain⟨o,ho⟩:∃o,s1.heap.get? d=some o:=let ⟨o,_,_,h,_⟩:=dd;⟨o,h⟩
 refine(wpAny_pyIter_items ι Wy ?_);have nd:d≠s1.heap.objs.size:=Qk (Qa ho);have I2:Inv X pins O (upd H1 d (.frz o (.dK kvs))) {s1 with heap:=s1.heap.push {cls:=.type "dict_itemiterator",data:=.fields #[.none,.bool false,.ref d,.int 0 0,.int ws.length 0,.int ep 0,.none,.none]},toks:=s1.toks}:=
  I1.write (x:=d) (e:=d) (by rw[hd];exact True.intro) (.inl rfl) (fun b q _ z=>P4 _ z) ⟨o,P4 _ ho⟩
   ⟨P4 _ ho,z,YH,ws,rel,dd.at fun o' e=>P4 _ e⟩
 refine⟨_,[s1.heap.objs.size],_,_,_,rfl,I2,LA d _ rel ho Wy,⟨.none,.none,Qd _ rfl⟩,fun b hb=>?_,q o⟩;rw[Qu.mp hb];exact I1.fpOk (P3 _) (by rw[dg (Ne.symm nd)];exact I1.hok.fresh (P3 _))
abbrev An:=Nat×Nat×Bool
def nb(as:List An)(x:Nat):List Nat:=as.flatMap fun a=>if a.2.2=true then(if x=a.1 then [a.2.1] else [])++(if x=a.2.1 then [a.1] else []) else []
def US:y∈nb as x↔(x,y,true)∈as\/(y,x,true)∈as:=by
 unfold nb;rw[R1];constructor
 .rintro⟨⟨i,j,b⟩,ha,h⟩;cases b with
  |false=>simp at h
  |true=>
   simp only[if_true,Qr] at h;rcases h with h|h
   .split at h
    .rename_i e;have:y=j:=by simpa using h
     subst this e;exact .inl ha
    .simp at h
   .split at h
    .rename_i e;have:y=i:=by simpa using h
     subst this e;exact .inr ha
    .simp at h
 .rintro(h|h)
  .exact⟨_,h,by simp⟩
  .exact⟨_,h,by simp⟩
def B2(h:y∈nb as x):x∈nb as y:=US.mpr (US.mp h).symm
inductive Ti (as:List An):Nat->Nat->Prop where
 |refl (x:Nat):Ti as x x
 |step {x y z:Nat}:Ti as x y->z∈nb as y->Ti as x z
def Ti.trans(h:Ti as x y)(g:Ti as y z):Ti as x z:=by
 induction g with
 |refl=>exact h
 |step _ e ih=>exact .step ih e
def Ti.one(h:y∈nb as x):Ti as x y:=.step (.refl x) h
def Ti.symm(h:Ti as x y):Ti as y x:=by
 induction h with
 |refl=>exact .refl _
 |step _ e ih=>exact(Ti.one (B2 e)).trans ih
def Ti.mono(h:Ti as x y)(hm:∀a∈as,a∈bs):Ti bs x y:=by
 induction h with
 |refl=>exact .refl _
 |step _ e ih=>exact .step ih (US.mpr ((US.mp e).imp (hm _) (hm _)))
def dj(hs:List (Nat×Nat))(x:Nat):Option Nat:=(hs.find? fun p=>decide (p.1=x)).map (·.2)
def dr(hs:List (Nat×Nat))(x:Nat):List (Nat×Nat):=if(dj hs x).isSome=true then hs else hs++[(x,x)]
def eS(hs:List (Nat×Nat))(o n:Nat):List (Nat×Nat):=hs.map fun p=>(p.1,if p.2=o then n else p.2)
def gE(hs:List (Nat×Nat))(a:An):List (Nat×Nat):=
 let h2:=dr (dr hs a.1) a.2.1
 if a.2.2=true then eS h2 ((dj h2 a.2.1).getD 0) ((dj h2 a.1).getD 0) else h2
def eQ(as:List An):List (Nat×Nat):=as.foldl gE []
def jZ(hs:List (Nat×Nat))(x y:Nat):dj (dr hs x) y=if y=x then some ((dj hs x).getD x) else dj hs y:=by
 unfold dr;by_cases h:(dj hs x).isSome=true
 .rw[if_pos h];obtain⟨v,e⟩:=Q3.mp h;by_cases z:y=x
  .subst z;rw[if_pos rfl,e];rfl
  .rw[if_neg z]
 .rw[if_neg h];have e:dj hs x=none:=by simpa using h
  unfold dj at e⊢;rw[List.find?_append];by_cases z:y=x
  .subst z;rw[if_pos rfl];have e':hs.find? (fun p=>decide (p.1=y))=none:=by simpa using e
   rw[e'];simp
  .rw[if_neg z];have:List.find? (fun p:Nat×Nat=>decide (p.1=y)) [(x,x)]=none:=by simp[Ne.symm z]
   rw[this];simp
def mI(hs:List (Nat×Nat))(o n x:Nat):dj (eS hs o n) x=(dj hs x).map fun r=>if r=o then n else r:=by
 unfold dj eS;induction hs with
 |nil=>rfl
 |cons p r ih=>
  rw[Qc,Ql,Ql];by_cases z:p.1=x
  .simp[z]
  .simp only[z,R3];exact ih
structure V5 (as:List An) (V:Nat->Option Nat):Prop where
 named:∀a∈as,(V a.1).isSome=true/\(V a.2.1).isSome=true
 con:∀x r,V x=some r->Ti as x r
 eq:∀x y,(x,y,true)∈as->V x=V y
def wC(as:List An)(a:An):eQ (as++[a])=gE (eQ as) a:=by unfold eQ;rw[List.foldl_append];rfl
def vg(as:List An):V5 as (dj (eQ as)):=by
 have key:∀(n:Nat) (as:List An),as.length=n->V5 as (dj (eQ as)):=by
  intro n;induction n with
  |zero=>
   intro as e;have:as=[]:=QA.mp e;subst this;exact⟨fun _ h=>by simp at h,fun x r h=>by simp[eQ,dj] at h,fun _ _ h=>by simp at h⟩
  |succ n ih=>
   intro as e;have hne:as≠[]:=by intro z;subst z;simp at e
   obtain⟨bs,a,rfl⟩:∃bs a,as=bs++[a]:=⟨as.dropLast,as.getLast hne,(List.dropLast_concat_getLast hne).symm⟩
   have ih:=ih bs (by simpa using e);obtain⟨i,j,b⟩:=a;rw[wC];generalize eQ bs=hs at ih;have v2:∀y,dj (dr (dr hs i) j) y=if y=j then some ((dj (dr hs i) j).getD j) else if y=i then some ((dj hs i).getD i) else dj hs y:=fun y=>by rw[jZ (dr hs i) j y,jZ hs i y]
   have old:∀y,(dj hs y).isSome=true->dj (dr (dr hs i) j) y=dj hs y:=fun y hy=>by
    obtain⟨r,er⟩:=Q3.mp hy;rw[v2 y];split
    .rename_i z;subst z;rw[jZ];split
     .rename_i z;subst z;rw[er];rfl
     .rw[er];rfl
    .split
     .rename_i z;subst z;rw[er];rfl
     .rfl
   have mono:∀x y,Ti bs x y->Ti (bs++[(i,j,b)]) x y:=fun x y h=>h.mono fun a ha=>RX _ ha;have Xh:∀x r,dj (dr (dr hs i) j) x=some r->Ti (bs++[(i,j,b)]) x r:=fun x r h=>by
    rw[v2 x] at h;split at h
    .rename_i z;subst z;have h:=Qx h;rw[jZ] at h;split at h
     .rename_i z;subst z;cases e:dj hs x with
      |none=>rw[e] at h;rw[←h];exact .refl _
      |some r'=>rw[e] at h;have:r'=r:=h;subst this;exact mono _ _ (ih.con _ _ e)
     .cases e:dj hs x with
      |none=>rw[e] at h;have:x=r:=h;subst this;exact .refl _
      |some r'=>rw[e] at h;have:r'=r:=h;subst this;exact mono _ _ (ih.con _ _ e)
    .split at h
     .rename_i z;subst z;have h:=Qx h;cases e:dj hs x with
      |none=>rw[e] at h;have:x=r:=h;subst this;exact .refl _
      |some r'=>rw[e] at h;have:r'=r:=h;subst this;exact mono _ _ (ih.con _ _ e)
     .exact mono _ _ (ih.con _ _ h)
   have n1:∃r,dj (dr (dr hs i) j) i=some r:=by
    rw[v2 i];split
    .exact⟨_,rfl⟩
    .exact⟨_,if_pos rfl⟩
   have n2:∃r,dj (dr (dr hs i) j) j=some r:=⟨_,by rw[v2 j,if_pos rfl]⟩
   have Wf:∀a∈bs++[(i,j,b)],(dj (dr (dr hs i) j) a.1).isSome=true/\(dj (dr (dr hs i) j) a.2.1).isSome=true:=fun a ha=>by
    rcases Qr.mp ha with z|z
    .obtain⟨h1,h2⟩:=ih.named a z;rw[old _ h1,old _ h2];exact⟨h1,h2⟩
    .have:a=(i,j,b):=by simpa using z
     subst this;obtain⟨r1,e1⟩:=n1;obtain⟨r2,e2⟩:=n2;exact⟨by rw[e1];rfl,by rw[e2];rfl⟩
   have eq2:∀x y,(x,y,true)∈bs->dj (dr (dr hs i) j) x=dj (dr (dr hs i) j) y:=fun x y h=>by
    obtain⟨h1,h2⟩:=ih.named _ h;rw[old x h1,old y h2];exact ih.eq x y h
   show V5 _ (dj (if b=true then eS (dr (dr hs i) j) ((dj (dr (dr hs i) j) j).getD 0) ((dj (dr (dr hs i) j) i).getD 0) else dr (dr hs i) j));clear v2 old;generalize dr (dr hs i) j=h2 at*;cases b with
   |false=>
    refine⟨Wf,Xh,fun x y h=>?_⟩;rcases Qr.mp h with z|z
    .exact eq2 x y z
    .simp at z
   |true=>
    obtain⟨r1,e1⟩:=n1;obtain⟨r2,e2⟩:=n2;simp only[if_true,e1,e2,Option.getD_some];have cij:Ti (bs++[(i,j,true)]) i j:=Ti.one (US.mpr (.inl (by simp)));refine⟨fun a ha=>?_,fun x r h=>?_,fun x y h=>?_⟩
    .rw[mI,mI,Sh,Sh];exact Wf a ha
    .rw[mI] at h;obtain⟨r0,e0,er⟩:=Option.map_eq_some_iff.mp h;have c0:=Xh x r0 e0;split at er
     .rename_i z;subst z er;exact c0.trans ((Xh j _ e2).symm.trans (cij.symm.trans (Xh i _ e1)))
     .subst er;exact c0
    .rw[mI,mI];rcases Qr.mp h with z|z
     .rw[eq2 x y z]
     .have:x=i/\y=j:=by simpa using z
      obtain⟨rfl,rfl⟩:=this;rw[e1,e2];simp only[R7,if_true];split
      .rfl
      .rfl
 exact key _ as rfl
def V5.conn{as:List An}{V:Nat->Option Nat}(h:V5 as V){x y:Nat}(c:Ti as x y):V x=V y:=by
 induction c with
 |refl=>rfl
 |step _ e ih=>
  rw[ih];rcases US.mp e with z|z
  .exact h.eq _ _ z
  .exact(h.eq _ _ z).symm
def V5.iff{as:List An}{V:Nat->Option Nat}(h:V5 as V){x y:Nat}(hx:(V x).isSome=true):V x=V y↔Ti as x y:=by
 refine⟨fun e=>?_,h.conn⟩;obtain⟨r,er⟩:=Q3.mp hx;exact(h.con x r er).trans (h.con y r (by rw[←e];exact er)).symm
def gS(as:List An):Bool:=as.all fun a=>a.2.2||!decide (dj (eQ as) a.1=dj (eQ as) a.2.1)
structure Out (as:List An) (n t:Nat) (F:Nat->Option Nat):Prop where
 con:∀x r,F x=some r->Ti as x r/\r<t
 fin:∀x r y,F x=some r->y∈nb as x->F y=some r
 all:∀x,x<t->(F x).isSome=true
def left(as:List An)(F:Nat->Option Nat):Nat->Nat
 |0=>0
 |n+1=>left as F n+(if(F n).isSome=true then 0 else(nb as n).length)
section
variable {X:Cx} {a b o:Expr} {ta to:TE} {p pos:Pos}
theorem K9(K:Frag)(ho:PE X o to)(TZ:attributeBase o "pop" X.env (eval o X.env)=eval o X.env:=by rfl) (TY:(apos.endLine==pos.line)=true:=by rfl) (hK:X.K=K:=by rfl):
  PE X (.Call (.Attribute o "pop" apos) [] [] pos) (m4 K "list" w5 to):=by
 subst hK;exact rL PySem.F.plainAttrs_list PySem.F.slot_list_pop PySem.F.type_list_pop Oa ho TZ TY
theorem LP(mr:X.mg "range"=none) (ha:PE X a ta) (hg:Gl X "range":=by rfl) (hs:starEach [a] X.env=[(false,eval a X.env)]:=by rfl):
  PE X (.Call (.Name "range" p) [a] [] pos) (fun O H Q=>ta O H fun x H1=>∃j:Int,x=.int j/\∀r,H1 r=none->Q (.ref r) (upd H1 r (.rng 0 j))):=by
 intro pins s O H Q I h;refine Call_ (jI I hg mr boot_range (Q6 (TM (eJ ha eZ hs pos pins s O H (fun vs H1=>∃x,vs=[x]/\∃j:Int,x=.int j/\∀r,H1 r=none->Q (.ref r) (upd H1 r (.rng 0 j))) I ?_) fun us s1 ⟨vs,H1,I1,r1,q1⟩=>?_) hs rfl))
 .have:∀x H1,(∃j:Int,x=V.int j/\∀r,H1 r=none->Q (.ref r) (upd H1 r (.rng 0 j)))=(∃x',[x]=[x']/\∃j:Int,x'=V.int j/\∀r,H1 r=none->Q (.ref r) (upd H1 r (.rng 0 j))):=by
   intro x H1;exact propext ⟨fun q=>⟨x,rfl,q⟩,fun⟨x',e,q⟩=>by cases e;exact q⟩
  unfold gq h8;simp only[←this];exact h
 obtain⟨x,e,j,ex,q⟩:=q1;subst e ex;cases r1 with
 |cons r rr=>
  cases rr;obtain⟨t,rfl⟩:=r;refine(SC ?_);refine⟨.ref s1.heap.objs.size,_,I1.laid (o:=.rng 0 j) (fun b o e=>P4 _ e) (P3 _) ?_,rfl,q _ (I1.hok.fresh (P3 _))⟩;exact⟨_,_,_,Qd _ rfl⟩
end
def WK(hs:List (Nat×Nat)):Prop:=(hs.map (·.1)).Nodup
def U1:dj hs x=none↔x∉hs.map (·.1):=by
 unfold dj;rw[Sk,Rj];simp only[QQ,Qi,not_exists,not_and]
def qA(h:WK hs)(x:Nat):WK (dr hs x):=by
 unfold dr;split
 .exact h
 .rename_i e;have e:dj hs x=none:=by simpa using e
  unfold WK;rw[QV,Rr];refine⟨h,by simp,fun y hy z hz=>?_⟩;have:z=x:=by simpa using hz
  subst this;exact fun q=>U1.mp e (q▸hy)
def Bq(hs:List (Nat×Nat))(o n:Nat):(eS hs o n).map (·.1)=hs.map (·.1):=by simp[eS]
def Hu(h:WK hs)(a:An):WK (gE hs a):=by
 have h2:=qA (qA h a.1) a.2.1;unfold gE;dsimp only;split
 .unfold WK;rw[Bq];exact h2
 .exact h2
def qC(hs:List (Nat×Nat))(x:Nat):(dr hs x).length<=hs.length+1:=by
 unfold dr;split<;>simp
def HW(hs:List (Nat×Nat))(a:An):(gE hs a).length<=hs.length+2:=by
 have h1:=qC hs a.1;have h2:=qC (dr hs a.1) a.2.1;unfold gE;dsimp only;split
 .unfold eS;rw[Qb];omega
 .omega
def ML(as:List An)(n:Nat)(a:An)(h:as[n]?=some a):eQ (as.take (n+1))=gE (eQ (as.take n)) a:=by
 rw[List.take_succ,h];exact wC _ _
def GL(as:List An):WK (eQ as):=by
 have:∀(as:List An) (hs:List (Nat×Nat)),WK hs->WK (as.foldl gE hs):=by
  intro as;induction as with
  |nil=>exact fun _ h=>h
  |cons a r ih=>exact fun hs h=>ih _ (Hu h a)
 exact this as [] (by simp[WK])
def N4(as:List An):(eQ as).length<=2*as.length:=by
 have:∀(as:List An) (hs:List (Nat×Nat)),(as.foldl gE hs).length<=hs.length+2*as.length:=by
  intro as;induction as with
  |nil=>exact fun _=>by simp
  |cons a r ih=>
   intro hs;have h1:=ih (gE hs a);have h2:=HW hs a;simp only[List.foldl_cons,Qj];omega
 have:=this as [];simpa[eQ] using this
def Au{ps:List Addr}(h:ps.Nodup){i j:Nat}{p:Addr}(a:ps[i]?=some p)(b:ps[j]?=some p):i=j:=by
 obtain⟨l1,g1⟩:=P5.mp a;obtain⟨l2,g2⟩:=P5.mp b;rcases Sl i j with z|z|z
 .exact absurd (g1.trans g2.symm) ((Ra.mp h) i j l1 l2 z)
 .exact z
 .exact absurd (g2.trans g1.symm) ((Ra.mp h) j i l2 l1 z)
theorem O8(elt tg iter T3 TF:Expr)(ifs Tg:List Expr)(scope:Scope)(pos:Pos)(it acc:Value)(env:Env):
  compTurn (.ListComp elt [⟨tg,iter,ifs,0⟩,⟨T3,TF,Tg,0⟩] scope pos) 0 it acc env=(do
   standAt iter.pos
   match ←pyNext it with
   |none=>pure (.done .next)
   |some v=>
    letOwnedTupleGo tg it v
    assign tg env v
    let mut ok:=true
    for c in ifs do
     if ok then ok ←isTrue c env (eval c env)
    if ok then
     let x ←eval TF env
     standAt TF.pos
     let x ←foldedSetIterable TF env x
     let _ ←runOwn (.compStart (.ListComp elt [⟨tg,iter,ifs,0⟩,⟨T3,TF,Tg,0⟩] scope pos) 1 (←holding [x] (pyIter x)) acc env) env
    again (.compLoop (.ListComp elt [⟨tg,iter,ifs,0⟩,⟨T3,TF,Tg,0⟩] scope pos) 0 it acc env)):=by rfl
theorem DZ(elt tg iter T3 TF:Expr)(ifs Tg:List Expr)(scope:Scope)(pos:Pos)(it acc:Value)(env:Env):
  compTurn (.ListComp elt [⟨tg,iter,ifs,0⟩,⟨T3,TF,Tg,0⟩] scope pos) 1 it acc env=(do
   standAt TF.pos
   match ←pyNext it with
   |none=>pure (.done .next)
   |some v=>
    letOwnedTupleGo T3 it v
    assign T3 env v
    let mut ok:=true
    for c in Tg do
     if ok then ok ←isTrue c env (eval c env)
    if ok then
     (do let _ ←call (.builtin "list.append") [acc,←eval elt env])
    again (.compLoop (.ListComp elt [⟨tg,iter,ifs,0⟩,⟨T3,TF,Tg,0⟩] scope pos) 1 it acc env)):=by rfl
section
variable {prog:Program} {w:World} {A:Around} {R:Result->Shared->Prop} {s:Shared} {elt tg iter T3 TF:Expr} {ifs Tg:List Expr} {scope:Scope} {pos:Pos} {it acc:Value} {env:Env}
theorem C4(Tj:∀x,foldedSetIterable TF env x=pure x)(I:Nat->Shared->Prop)
  (turn:∀n s,I n s->wpAny (model prog w) A (pyNext it) (fun r ZT=>match r with
   |none=>R (.ok .next) ZT
   |some v=>wpAny (model prog w) A (letOwnedTupleGo tg it v) (fun _ Zz=>wpAny (model prog w) A (assign tg env v) (fun _ ZM=>
     wpAny (model prog w) A (forIn ifs true fun c r=>if r=true then do let ok ←isTrue c env (eval c env);pure (ForInStep.yield ok) else pure (ForInStep.yield r)) (fun ok ZJ=>
      if ok=true then wpAny (model prog w) A (eval TF env) (fun x ZG=>wpAny (model prog w) A (pyIter x) (fun Ϙ ZA=>
       wpAny (model prog w) A (runOwn (.compStart (.ListComp elt [⟨tg,iter,ifs,0⟩,⟨T3,TF,Tg,0⟩] scope pos) 1 Ϙ acc env) env) (fun _ Zm=>∃m,m<n/\I m Zm) (fun _ _=>False) ZA) (fun _ _=>False) ZG) (fun _ _=>False) ZJ
      else ∃m,m<n/\I m ZJ) (fun _ _=>False) ZM) (fun _ _=>False) Zz) (fun _ _=>False) ZT) (fun _ _=>False) s)
  (n:Nat) (h:I n s):codeAny (model prog w) A (.compLoop (.ListComp elt [⟨tg,iter,ifs,0⟩,⟨T3,TF,Tg,0⟩] scope pos) 0 it acc env) R s:=by
 refine S1 rfl I (fun n s hI=>?_) n h;show wpAny _ A ((compTurn (.ListComp elt [⟨tg,iter,ifs,0⟩,⟨T3,TF,Tg,0⟩] scope pos) 0 it acc env).onRaise (fun x=>do noteFrame x env;theTreesLotGoes x)) _ _ s;refine S8 ?_;rw[O8];refine P8 (E:=fun _ _=>False) ?_ (fun _ _ x=>x) fun _ _ x=>x.elim;refine P2 (Rc (P2 (P8 (turn n s hI) (fun r ZT ZO=>?_) fun _ _ h'=>h')));cases r with
 |none=>exact P6 ZO
 |some v=>
  refine P2 (P8 ZO (fun _ Zz Zt=>?_) fun _ _ h'=>h');refine P2 (P8 Zt (fun _ ZM ZC=>P2 (P8 ZC (fun ok ZJ ZB=>?_) fun _ _ h'=>h')) fun _ _ h'=>h');cases ok with
  |false=>exact P6 ⟨rfl,ZB⟩
  |true=>exact P2 (P8 ZB (fun x ZG Zs=>P2 (Rc (P2 (Ta (Tj x) (P2 (Rl (P8 Zs (fun Ϙ ZA Zr=>P2 (P8 Zr (fun _ Zm Zi=>P6 ⟨rfl,Zi⟩) fun _ _ h'=>h')) fun _ _ h'=>h'))))))) fun _ _ h'=>h')
theorem NV(I:Nat->Shared->Prop)
  (turn:∀n s,I n s->wpAny (model prog w) A (pyNext it) (fun r ZT=>match r with
   |none=>R (.ok .next) ZT
   |some v=>wpAny (model prog w) A (letOwnedTupleGo T3 it v) (fun _ Zz=>wpAny (model prog w) A (assign T3 env v) (fun _ ZM=>
     wpAny (model prog w) A (forIn Tg true fun c r=>if r=true then do let ok ←isTrue c env (eval c env);pure (ForInStep.yield ok) else pure (ForInStep.yield r)) (fun ok ZJ=>
      if ok=true then wpAny (model prog w) A (eval elt env) (fun x ZG=>
       wpAny (model prog w) A (call (.builtin "list.append") [acc,x]) (fun _ ZA=>∃m,m<n/\I m ZA) (fun _ _=>False) ZG) (fun _ _=>False) ZJ
      else ∃m,m<n/\I m ZJ) (fun _ _=>False) ZM) (fun _ _=>False) Zz) (fun _ _=>False) ZT) (fun _ _=>False) s)
  (n:Nat) (h:I n s):codeAny (model prog w) A (.compLoop (.ListComp elt [⟨tg,iter,ifs,0⟩,⟨T3,TF,Tg,0⟩] scope pos) 1 it acc env) R s:=by
 refine S1 rfl I (fun n s hI=>?_) n h;show wpAny _ A ((compTurn (.ListComp elt [⟨tg,iter,ifs,0⟩,⟨T3,TF,Tg,0⟩] scope pos) 1 it acc env).onRaise (fun x=>do noteFrame x env;theTreesLotGoes x)) _ _ s;refine S8 ?_;rw[DZ];refine P8 (E:=fun _ _=>False) ?_ (fun _ _ x=>x) fun _ _ x=>x.elim;refine P2 (Rc (P2 (P8 (turn n s hI) (fun r ZT ZO=>?_) fun _ _ h'=>h')));cases r with
 |none=>exact P6 ZO
 |some v=>
  refine P2 (P8 ZO (fun _ Zz Zt=>?_) fun _ _ h'=>h');refine P2 (P8 Zt (fun _ ZM ZC=>P2 (P8 ZC (fun ok ZJ ZB=>?_) fun _ _ h'=>h')) fun _ _ h'=>h');cases ok with
  |false=>exact P6 ⟨rfl,ZB⟩
  |true=>
   exact P2 (P2 (P8 ZB (fun x ZG Zs=>P2 (P8 Zs (fun _ ZA Zr=>P6 (P6 ⟨rfl,Zr⟩)) fun _ _ h'=>h')) fun _ _ h'=>h'))
theorem EB(h0:codeAny (model prog w) A (.compLoop (.ListComp elt [⟨tg,iter,ifs,0⟩,⟨T3,TF,Tg,0⟩] scope pos) 1 it acc env) R s)
  (h:wpAny (model prog w) A (pyIter it) (fun _L s'=>codeAny (model prog w) A (.compLoop (.ListComp elt [⟨tg,iter,ifs,0⟩,⟨T3,TF,Tg,0⟩] scope pos) 1 _L acc env) R s')
   (notedBy (model prog w) A env fun x s'=>R (.error x) s') s):
  codeAny (model prog w) A (.compStart (.ListComp elt [⟨tg,iter,ifs,0⟩,⟨T3,TF,Tg,0⟩] scope pos) 1 it acc env) R s:=by
 refine codeAny_of_tree ?_;show wpAny _ _ ((compStart (.ListComp elt [⟨tg,iter,ifs,0⟩,⟨T3,TF,Tg,0⟩] scope pos) 1 it acc env).onRaise (fun x=>do noteFrame x env;standAt theWindowsPlace)) _ _ s;refine wpAny_notedAt ?_;unfold compStart;show wpAny _ _ (ask >>= _) _ _ s;refine P2 (wpAny_askSetting (wpAny_ite ?_));split
 .first
   |exact P2 (P6 (P6 (And.intro rfl h0)))
   |exact P6 (And.intro rfl h0)
 .first
   |exact P2 (SG (P2 (Rc (P2 (P8 h (fun _L s' h'=>P6 (And.intro rfl h')) fun _ _ x=>x)))))
   |(refine P2 (SG ?_);show wpAny _ _ (standAt TF.pos >>= _) _ _ s;exact P2 (Rc (P2 (P8 h (fun _L s' h'=>P6 (And.intro rfl h')) fun _ _ x=>x))))
end
def rB(Z6:It)(g:TG)(tc:TT)(te:TE)(D:Addr)(ZL:St)(H0:Hp)(Z:St->Hp->Prop):Prop:=
 ∃W:Nat->Nat->St->Hp->Prop,(∃m,W 0 m ZL H0)/\∀i m O H,W i m O H->
  (Z6.stop i H/\Z O H)\/(Z6.go i H/\∃N:St->Hp->Prop,(∀ZZ H',N ZZ H'->∃m',m'<m/\W (i+1) m' ZZ H')/\∀x H',Z6.yld i H x H'->g x O H' fun ZV H2=>tc ZV H2 fun b H3=>
   if b=true then te ZV H3 fun v H4=>∃ys,H4 D=some (.lst ys)/\ys.length<sizeLine/\N ZV (upd H4 D (.lst (ys++[v]))) else N ZV H3)
def lD(Z6:It)(g:TG)(tc:TT)(WQ:TI)(g2:TG)(UQ:TT)(te:TE)(D:Addr)(ZL:St)(H0:Hp)(Z:Hp->Prop):Prop:=
 ∃W:Nat->Nat->St->Hp->Prop,(∃m,W 0 m ZL (upd H0 D (.lst [])))/\∀i m O H,W i m O H->
  (Z6.stop i H/\Z H)\/(Z6.go i H/\∃N:St->Hp->Prop,(∀ZZ H',N ZZ H'->∃m',m'<m/\W (i+1) m' ZZ H')/\∀x H',Z6.yld i H x H'->g x O H' fun ZV H2=>tc ZV H2 fun b H3=>
   if b=true then WQ ZV H3 fun J2 H4=>rB J2 g2 UQ te D ZV H4 N else N ZV H3)
section
variable {X:Cx} {pins:QS} {O:St} {N' own:List Str} {cap:List (Str×Nat)} {scope:Scope} {tg iter elt T3 TF:Expr} {ifs Tg:List Expr} {pos:Pos} {g g2:TG} {tc UQ:TT} {te:TE} {wi WQ:TI}
theorem Ow{s:Shared}{H:Hp}{D:Addr}{Z:St->Hp->Prop}(hx:∀e s,X.xe e s->False)(hc:X.calm=true)(hi:PI X T3 TF WQ)(hg:PG X T3 g2)(ht:Up X Tg UQ)(he:PE X elt te)
  (I:Inv X pins O H s) (h:WQ O H fun Z6 H1=>rB Z6 g2 UQ te D O H1 Z):
  wpAny (model X.prog X.w) X.A (eval TF X.env) (fun x ZG=>wpAny (model X.prog X.w) X.A (pyIter x) (fun Ϙ ZA=>
   wpAny (model X.prog X.w) X.A (runOwn (.compStart (.ListComp elt [⟨tg,iter,ifs,0⟩,⟨T3,TF,Tg,0⟩] scope pos) 1 Ϙ (.ref D) X.env) X.env) (fun _ s'=>∃ZZ H',Inv X pins ZZ H' s'/\Z ZZ H') (fun _ _=>False) ZA) (fun _ _=>False) ZG) (fun _ _=>False) s:=by
 have VU:∀{J:Type} {t:Sem J} {Q:J->Shared->Prop} {s:Shared},wpAny (model X.prog X.w) X.A t Q X.xe s->wpAny (model X.prog X.w) X.A t Q (fun _ _=>False) s:=fun q=>P8 q (fun _ _ z=>z) fun e s z=>hx e s z;refine VU (TM (hi pins s O H _ I h) fun v s1 h1=>?_);refine VU (TM h1 fun Xa s2 h2=>?_);obtain⟨it,fp,tn,Z6,H2,e,I2,T,Ur,f2,W,⟨m0,w0⟩,turn⟩:=h2;subst e;have Tx:∀{H':Hp},(∀b∈fp,H' b=none)->∀b∈fp,eE X pins H' b:=fun hn b hb=>⟨hn b hb,(f2 b hb).2⟩
 refine(wpAny_runOwn ?_);have loop:codeAny (model X.prog X.w) X.A (.compLoop (.ListComp elt [⟨tg,iter,ifs,0⟩,⟨T3,TF,Tg,0⟩] scope pos) 1 (.ref it) (.ref D) X.env)
   (fun r s'=>match r with| .ok f=>∃ZZ H',Inv X pins ZZ H' s'/\Z ZZ H'| .error e=>cameBackBy (model X.prog X.w) X.A X.env (fun _ _=>False) e s') s2:=by
  obtain⟨P,hP⟩:∃P:Nat->Shared->Prop,∀n s',P n s'↔∃i ZZ H',Inv X pins ZZ H' s'/\tn i s'.heap/\(∀b∈fp,H' b=none)/\W i n ZZ H':=⟨_,fun _ _=>Qg⟩
  refine NV P ?_ m0 ((hP _ _).2 ⟨0,O,H2,I2,Ur,fun b hb=>(f2 b hb).1,w0⟩);rintro n s3 h3;obtain⟨i,ZH,H3,I3,VN,Κ,w3⟩:=(hP _ _).1 h3;rcases turn i n ZH H3 w3 with⟨stop,qz⟩|⟨go,N,hN,step⟩
  .refine P8 (T.done X rfl rfl rfl hc i pins s3 ZH H3 (fun _ _=>False) I3 (Tx Κ) VN stop) (fun r s4 ⟨hr,I4⟩=>?_) fun _ _ z=>z;subst hr;exact⟨ZH,H3,I4,qz⟩
  .refine P8 (T.item X rfl rfl rfl hc i pins s3 ZH H3 (fun _ _=>False) I3 (Tx Κ) VN go) (fun r s4 ⟨u,hr,h4⟩=>?_) fun _ _ z=>z;subst hr;refine P8 h4 (fun _ s5 hm=>?_) fun _ _ z=>z;obtain⟨x,H5,I5,r5,y5,X8,fr5⟩:=hm;have I5':=I5.pinned (Tx fr5) (T.obj _ _ X8);have again:∀{ZS:St} {H7:Hp} {s7:Shared},Inv X (pins++jN fp s5.heap) ZS H7 s7->N ZS H7->∃m,m<n/\P m s7:=fun{ZS H7 s7} I7 n7=>by
    obtain⟨m',hm,w7⟩:=hN ZS H7 n7;refine(⟨m',hm,(hP _ _).2 ⟨i+1,ZS,H7,I7.unpinned,T.keep _ _ _ X8 fun b hb o e=>(I7.pin (b,o) (Qf _ (Qf _ (hV hb e)))).1,fun b hb=>?_,w7⟩⟩);obtain⟨o,e,d⟩:=T.obj _ _ X8 b hb;exact((I7.pin (b,o) (Qf _ (Qf _ (hV hb e)))).2.1)
   refine VU (TM (hg _ s5 ZH H5 x u _ I5' r5 (step x H5 y5)) fun _ s6 hm=>?_);obtain⟨Zp,H6,I6,q6⟩:=hm;refine(VU (TM (ht _ s6 Zp H6 _ I6 q6) fun b s7 hm=>?_));obtain⟨H7,I7,q7⟩:=hm;cases b with
   |false=>
    show ∃m,_;exact again I7 q7
   |true=>
    show wpAny _ _ _ _ _ _;refine VU (TM (he _ s7 Zp H7 _ I7 q7) fun y s8 hm=>?_);obtain⟨v,H8,I8,r8,ys,hy,hz,q8⟩:=hm;refine(VU (TM (vJ (X:=X) _ s8 Zp H8 (.ref D) [v] (.ref D) [y] (fun _ H'=>N Zp H') I8 rfl (.cons r8 .nil) ⟨_,ys,v,rfl,rfl,hy,hz,q8⟩) fun _ s9 hm=>?_));obtain⟨_,H9,I9,_,q9⟩:=hm;exact(again I9 q9)
 exact EB loop (T.self _ 0 _ _ _ Ur loop)
theorem Hc{Y:Cx}{s:Shared}{ZL:St}{H2:Hp}{it D:Addr}{fp:List Addr}{tn:Nat->Heap->Prop}{Z6:It}{Z:Hp->Prop}{R:Result->Shared->Prop}(Tj:∀x,foldedSetIterable TF Y.env x=pure x)
  (hx:∀e s,Y.xe e s->False) (hc:Y.calm=true) (hg:PG Y tg g) (ht:Up Y ifs tc) (Wv:PI Y T3 TF WQ) (WJ:PG Y T3 g2) (Wl:Up Y Tg UQ) (he:PE Y elt te)
  (T:Turn Y.prog Y.w Y.K tg Z6 fp it tn) (J0:Inv Y [] ZL (upd H2 D (.lst [])) s) (VN:tn 0 s.heap) (f3:∀b∈fp,upd H2 D (.lst []) b=none)
  (Tx:∀{H':Hp},(∀b∈fp,H' b=none)->∀b∈fp,eE Y [] H' b) (h:lD Z6 g tc WQ g2 UQ te D ZL H2 Z)
  (hR:∀ZN H4 s5,Inv Y [] ZN H4 s5->Z H4->R (.ok .next) s5):
  codeAny (model Y.prog Y.w) Y.A (.compLoop (.ListComp elt [⟨tg,iter,ifs,0⟩,⟨T3,TF,Tg,0⟩] scope pos) 0 (.ref it) (.ref D) Y.env) R s:=by
 obtain⟨W,⟨m0,w0⟩,turn⟩:=h;have VU:∀{J:Type} {t:Sem J} {Q:J->Shared->Prop} {s:Shared},wpAny (model Y.prog Y.w) Y.A t Q Y.xe s->wpAny (model Y.prog Y.w) Y.A t Q (fun _ _=>False) s:=fun q=>P8 q (fun _ _ z=>z) fun e s z=>hx e s z;obtain⟨P,hP⟩:∃P:Nat->Shared->Prop,∀n s',P n s'↔∃i ZZ H',Inv Y [] ZZ H' s'/\tn i s'.heap/\(∀b∈fp,H' b=none)/\W i n ZZ H':=⟨_,fun _ _=>Qg⟩
 refine C4 Tj P ?_ m0 ((hP _ _).2 ⟨0,_,_,J0,VN,f3,w0⟩);rintro n s4 h4;obtain⟨i,ZN,H4,I4,Xn,X2,w4⟩:=(hP _ _).1 h4;rcases turn i n ZN H4 w4 with⟨stop,qz⟩|⟨go,N,hN,step⟩
 .refine P8 (T.done Y rfl rfl rfl hc i [] s4 ZN H4 (fun _ _=>False) I4 (Tx X2) Xn stop) (fun r s5 ⟨hr,I5⟩=>?_) fun _ _ z=>z;subst hr;exact hR ZN H4 s5 I5 qz
 .refine P8 (T.item Y rfl rfl rfl hc i [] s4 ZN H4 (fun _ _=>False) I4 (Tx X2) Xn go) (fun r s5 ⟨u,hr,h5⟩=>?_) fun _ _ z=>z;subst hr;refine P8 h5 (fun _ s6 hm=>?_) fun _ _ z=>z;obtain⟨x,H6,I6,r6,y6,Wb,Ι⟩:=hm;have I6':=I6.pinned (Tx Ι) (T.obj _ _ Wb);have again:∀{ZS:St} {H7:Hp} {s7:Shared},Inv Y ([]++jN fp s6.heap) ZS H7 s7->N ZS H7->∃m,m<n/\P m s7:=fun{ZS H7 s7} I7 n7=>by
   obtain⟨m',hm,w7⟩:=hN ZS H7 n7;refine(⟨m',hm,(hP _ _).2 ⟨i+1,ZS,H7,I7.unpinned,T.keep _ _ _ Wb fun b hb o e=>(I7.pin (b,o) (Qf _ (Qf _ (hV hb e)))).1,fun b hb=>?_,w7⟩⟩);obtain⟨o,e,d⟩:=T.obj _ _ Wb b hb;exact((I7.pin (b,o) (Qf _ (Qf _ (hV hb e)))).2.1)
  refine VU (TM (hg _ s6 ZN H6 x u _ I6' r6 (step x H6 y6)) fun _ s7 hm=>?_);obtain⟨ZS,H7,I7,q7⟩:=hm;refine(VU (TM (ht _ s7 ZS H7 _ I7 q7) fun b s8 hm=>?_));obtain⟨H8,I8,q8⟩:=hm;cases b with
  |false=>
   show ∃m,_;exact again I8 q8
  |true=>
   show wpAny _ _ _ _ _ _;refine P8 (Ow (X:=Y) hx hc Wv WJ Wl he I8 q8) (fun _ _ z=>P8 z (fun _ _ z=>P8 z (fun _ s9 ⟨Y6,H9,I9,q9⟩=>again I9 q9) fun _ _ z=>z) fun _ _ z=>z) fun _ _ z=>z
theorem zf{s2:Shared}{H2:Hp}{it:Addr}{fp:List Addr}{tn:Nat->Heap->Prop}{Z6:It}{cl:List (Str×Addr)}{Z:Addr->Hp->Prop}{RR:Value->Addr->Result->Shared->Prop}{E:OK}
  (hx:∀e s,X.xe e s->False) (hc:X.calm=true) (S:TK X N' own cap scope)
  (hg:∀cl C Z1 Z0 ex,PG (c3 X N' scope cl C Z1 Z0 ex) tg g) (ht:∀cl C Z1 Z0 ex,Up (c3 X N' scope cl C Z1 Z0 ex) ifs tc) (Wv:∀cl C Z1 Z0 ex,PI (c3 X N' scope cl C Z1 Z0 ex) T3 TF WQ) (WJ:∀cl C Z1 Z0 ex,PG (c3 X N' scope cl C Z1 Z0 ex) T3 g2) (Wl:∀cl C Z1 Z0 ex,Up (c3 X N' scope cl C Z1 Z0 ex) Tg UQ) (he:∀cl C Z1 Z0 ex,PE (c3 X N' scope cl C Z1 Z0 ex) elt te) (Tj:∀cl C x,foldedSetIterable TF (compEnvC scope cl C X.env) x=pure x)
  (I2:Inv X pins O H2 s2) (T:Turn X.prog X.w X.K tg Z6 fp it tn) (Ur:tn 0 s2.heap) (f2:∀b∈fp,eE X pins H2 b)
  (c1:∀y c,cl.lookup y=some c->X.env.cells.lookup y=some c) (c2:∀y,(y,NameKind.free)∈scope.names->∃c,cl.lookup y=some c)
  (h:∀D,H2 D=none->lD Z6 g tc WQ g2 UQ te D (ff own cap O) H2 (Z D))
  (Ζ:∀D C s' m' H',Inv X pins O H' s'->s'.heap.Ns C m'->eE X pins H' C->Z D H'->RR (.ref D) C (.ok .next) s'):
  wpAny (model X.prog X.w) X.A (newList []) (fun acc ZJ=>wpAny (model X.prog X.w) X.A (newFunctionEnv scope X.env.globals cl [] X.env.qual none .none (some X.env)) (fun Vr ZG=>
   codeAny (model X.prog X.w) X.A (.compStart (.ListComp elt [⟨tg,iter,ifs,0⟩,⟨T3,TF,Tg,0⟩] scope pos) 0 (.ref it) acc {Vr with scope:=relabel scope X.env}) (RR acc Vr.locals) ZG) E ZJ) E s2:=by
 have hlt:∀b∈fp,b<s2.heap.objs.size:=fun b hb=>by
  obtain⟨o,e,_⟩:=T.obj _ _ Ur b hb;exact(Qa e)
 have hD:H2 s2.heap.objs.size=none:=I2.hok.fresh (P3 _);refine QW (t5 (fun ZO Zy Zx Zw=>?_));dsimp only at Zy Zx Zw⊢;have I3:Inv X pins O (upd H2 s2.heap.objs.size (.lst [])) {s2 with heap:=s2.heap.push {cls:=.type "list",dict:=none,data:=.seq ([]:List Value).toArray},toks:=s2.toks}:=
  I2.laid (fun b o e=>P4 _ e) (P3 _) ⟨QZ _,[],0,.nil,Qd _ rfl⟩
 generalize XF:({s2 with heap:=s2.heap.push {cls:=.type "list",dict:=none,data:=.seq ([]:List Value).toArray},toks:=s2.toks}:Shared)=s3 at I3;have e3:s2.heap.push {cls:=.type "list",dict:=none,data:=.seq ([]:List Value).toArray}=s3.heap:=by rw[←XF]
 have hsz:s3.heap.objs.size=s2.heap.objs.size+1:=by rw[←e3,Q2]
 rw[e3] at Zy Zx Zw⊢;have hk:=Zx;have VQ:∀y c,cl.lookup y=some c->¬s3.heap.objs.size<c:=fun y c e z=>by
  obtain⟨v,o,ho,_⟩:=I3.cell y c (c1 y c e);exact(QY _ (Si z (Qa ho)))
 have CA:CellsAre X scope s3.heap.objs.size cl (cellsFrom (s3.heap.objs.size+1) scope.names cl):=qS (h:=s3.heap.push {cls:=.type "dict",data:=.dict #[]}) (by rw[Q2]) S VQ;have T6:∀y c,(cellsFrom (s3.heap.objs.size+1) scope.names cl).lookup y=some c->s3.heap.objs.size<c->ZO.IsCell c none:=fun y c e z=>by
  rw[iB,jH] at e;cases q:(cellsFrom (s3.heap.objs.size+1) scope.names []).lookup y with
  |none=>rw[q] at e;exact absurd z (VQ y c e)
  |some c'=>
   rw[q] at e;have:c'=c:=Qx e;subst this;exact Zw y c' (QJ q)
 generalize X1:cellsFrom (s3.heap.objs.size+1) scope.names cl=cs at CA T6⊢;have f3:∀b∈fp,eE X pins (upd H2 s2.heap.objs.size (.lst [])) b:=fun b hb=>⟨by rw[dg (Qk (hlt b hb))];exact(f2 b hb).1,(f2 b hb).2⟩
 have Vn:∀b∈fp,b<s3.heap.objs.size:=fun b hb=>by rw[hsz];exact RH (hlt b hb)
 have VN:tn 0 ZO:=T.keep _ _ _ Ur fun b hb o e=>hk b o (by rw[←e3];exact P4 _ e);have J0:Inv (c3 X N' scope cs s3.heap.objs.size s3 (upd H2 s2.heap.objs.size (.lst [])) fp) [] (ff own cap O) (upd H2 s2.heap.objs.size (.lst [])) {s3 with heap:=ZO,toks:=s2.toks}:=
  T8 I3 S CA T6 c1 c2 f3 Vn hk Zy
 have Tx:∀{pl:QS} {H':Hp},pl=[]->(∀b∈fp,H' b=none)->∀b∈fp,eE (c3 X N' scope cs s3.heap.objs.size s3 (upd H2 s2.heap.objs.size (.lst [])) fp) pl H' b:=fun{pl H'} hp hn b hb=>by
  subst hp;refine⟨hn b hb,Qk (Vn b hb),J0.ok.exfs b hb,.inl hb,fun x c e=>J0.ok.exf b hb |>.2 x c e,fun p hp=>absurd hp (by show p∉([]++[]:QS);simp)⟩
 have loop:codeAny (model X.prog X.w) X.A (.compLoop (.ListComp elt [⟨tg,iter,ifs,0⟩,⟨T3,TF,Tg,0⟩] scope pos) 0 (.ref it) (.ref s2.heap.objs.size) (compEnvC scope cs s3.heap.objs.size X.env)) (RR (.ref s2.heap.objs.size) s3.heap.objs.size)
   {s3 with heap:=ZO,toks:=s2.toks}:=Hc (Y:=c3 X N' scope cs s3.heap.objs.size s3 (upd H2 s2.heap.objs.size (.lst [])) fp) (Tj _ _) hx hc (hg _ _ _ _ _) (ht _ _ _ _ _) (Wv _ _ _ _ _) (WJ _ _ _ _ _) (Wl _ _ _ _ _) (he _ _ _ _ _) T J0 VN (fun b hb=>(f3 b hb).1) (Tx rfl) (h _ hD) fun ZN H4 s5 I5 qz=>by
  have I6:Inv X pins O H4 s5:=I3.call' (ch:=fp) I5.os I5.base I5.hok I5.bare fun b hb=>⟨(f3 b hb).2.2.2.1,(f3 b hb).2.1,(f3 b hb).2.2.2.2.1,(f3 b hb).2.2.2.2.2⟩
  obtain⟨m',Vm,_⟩:=I5.loc;exact(Ζ _ _ s5 m' H4 I6 Vm (I3.fpOk (P3 _) I5.free) qz)
 have lp:codeAny (model X.prog X.w) X.A (.compStart (.ListComp elt [⟨tg,iter,ifs,0⟩,⟨T3,TF,Tg,0⟩] scope pos) 0 (.ref it) (.ref s2.heap.objs.size) (compEnvC scope cs s3.heap.objs.size X.env)) (RR (.ref s2.heap.objs.size) s3.heap.objs.size)
   {s3 with heap:=ZO,toks:=s2.toks}:=codeAny_compStart_list loop (T.self _ 0 _ _ _ VN loop)
 subst XF;exact lp
theorem MC(S:TK X N' own cap scope)(hi:PI X tg iter wi)
  (hg:∀cl C Z1 Z0 ex,PG (c3 X N' scope cl C Z1 Z0 ex) tg g) (ht:∀cl C Z1 Z0 ex,Up (c3 X N' scope cl C Z1 Z0 ex) ifs tc)
  (Wv:∀cl C Z1 Z0 ex,PI (c3 X N' scope cl C Z1 Z0 ex) T3 TF WQ) (WJ:∀cl C Z1 Z0 ex,PG (c3 X N' scope cl C Z1 Z0 ex) T3 g2) (Wl:∀cl C Z1 Z0 ex,Up (c3 X N' scope cl C Z1 Z0 ex) Tg UQ)
  (he:∀cl C Z1 Z0 ex,PE (c3 X N' scope cl C Z1 Z0 ex) elt te)
  (hx:∀e s,X.xe e s->False:=by exact fun _ _ z=>z) (hc:X.calm=true:=by rfl) (hs:∀x,foldedSetIterable iter X.env x=pure x:=by intro _;rfl) (Tj:∀cl C x,foldedSetIterable TF (compEnvC scope cl C X.env) x=pure x:=by intro _ _ _;rfl):
  PE X (.ListComp elt [⟨tg,iter,ifs,0⟩,⟨T3,TF,Tg,0⟩] scope pos) (fun O H Q=>wi O H fun Z6 H1=>∀D,H1 D=none->lD Z6 g tc WQ g2 UQ te D (ff own cap O) H1 (Q (.ref D))):=by
 intro pins s O H Q I h;rw[Tb];obtain⟨cl,VQ,c1,c2⟩:=nN (scope:=scope) (env:=X.env) fun y hy hk=>I.ok.has y.1 (S.free y hy hk);refine(Rn (use:=none) rfl hs VQ S.kind S.names (TM (hi pins s O H _ I h) fun v s1 h1=>TM h1 fun Xa s2 h2=>?_));obtain⟨it,fp,tn,Z6,H2,e,I2,T,Ur,f2,q⟩:=h2;subst e;refine(zf (RR:=fun acc C=>compPost (model X.prog X.w) X.A X.xe none (EP X pins O Q) acc C) (Z:=fun D=>Q (.ref D)) hx hc S hg ht Wv WJ Wl he Tj I2 T Ur f2 c1 c2 q ?_);intro D C s' m' H' I' Vm f' z;exact⟨m',Vm,fun Η V0=>⟨.ref D,H',I'.letgo f' V0,rfl,z⟩⟩
theorem Mz(hN:X.N.Nodup)(WU:X.N[i]?=some y)(hy:X.env.scope.names.lookup y=some .local)(S:TK X N' own cap scope)(hi:PI X tg iter wi)
  (hg:∀cl C Z1 Z0 ex,PG (c3 X N' scope cl C Z1 Z0 ex) tg g) (ht:∀cl C Z1 Z0 ex,Up (c3 X N' scope cl C Z1 Z0 ex) ifs tc)
  (Wv:∀cl C Z1 Z0 ex,PI (c3 X N' scope cl C Z1 Z0 ex) T3 TF WQ) (WJ:∀cl C Z1 Z0 ex,PG (c3 X N' scope cl C Z1 Z0 ex) T3 g2) (Wl:∀cl C Z1 Z0 ex,Up (c3 X N' scope cl C Z1 Z0 ex) Tg UQ)
  (he:∀cl C Z1 Z0 ex,PE (c3 X N' scope cl C Z1 Z0 ex) elt te)
  (_Q:swapsWith (.ListComp elt [⟨tg,iter,ifs,0⟩,⟨T3,TF,Tg,0⟩] scope pos) (some (.Name y py)) XS.line X.env=pure true:=by rfl)
  (hx:∀e s,X.xe e s->False:=by exact fun _ _ z=>z) (hc:X.calm=true:=by rfl) (hs:∀x,foldedSetIterable iter X.env x=pure x:=by intro _;rfl) (Tj:∀cl C x,foldedSetIterable TF (compEnvC scope cl C X.env) x=pure x:=by intro _ _ _;rfl):
  PS X (.Assign [.Name y py] (.ListComp elt [⟨tg,iter,ifs,0⟩,⟨T3,TF,Tg,0⟩] scope pos) XS) (fun D O H=>wi O H fun Z6 H1=>∀p,H1 p=none->lD Z6 g tc WQ g2 UQ te p (ff own cap O) H1 (fun H2=>D.nx (O.set i (some (.ref p))) H2)):=by
 intro pins s O H D I h;obtain⟨cl,VQ,c1,c2⟩:=nN (scope:=scope) (env:=X.env) fun y hy hk=>I.ok.has y.1 (S.free y hy hk);rw[exec_Assign_Name_used _ _ _ _ _Q];refine P2 (Rc (P2 ?_));show wpAny _ _ (do let _ ←comprehension (.ListComp elt [⟨tg,iter,ifs,0⟩,⟨T3,TF,Tg,0⟩] scope pos) scope X.env _ (newList []) false (eval iter X.env) (some (assign (.Name y py) X.env))) _ _ s;refine P2 (P8 (Rn (use:=some (assign (.Name y py) X.env)) (Q:=fun _ s'=>SP X pins D .next s') rfl hs VQ S.kind S.names
  (TM (hi pins s O H _ I h) fun v s1 h1=>TM h1 fun Xa s2 h2=>?_)) (fun _ s' hq=>P6 (P6 hq)) fun _ _ e=>e)
 obtain⟨it,fp,tn,Z6,H2,e,I2,T,Ur,f2,q⟩:=h2;subst e;refine(zf (RR:=fun acc C=>compPost (model X.prog X.w) X.A X.xe (some (assign (.Name y py) X.env)) (fun _ s'=>SP X pins D .next s') acc C) (Z:=fun p H2=>D.nx (O.set i (some (.ref p))) H2) hx hc S hg ht Wv WJ Wl he Tj I2 T Ur f2 c1 c2 q ?_);intro p C s' m' H' I' Vm f' z;show wpAny _ _ (assign (.Name y py) X.env (.ref p)) _ _ _;refine wpAny_assign_Name (zB I' hN WU (.inl hy) (v:=.ref p) rfl (fun Y5 I'' hm=>?_) (.inr hy));obtain⟨a,hsb,ha⟩:=hm;have hCa:C≠a:=by
  rcases ha with z|z
  .rw[z];exact f'.2.1
  .exact fun e=>f'.2.2.2.2.1 y a z e.symm
 refine⟨m',Vm.sameBut hsb hCa,fun h3 XF=>?_⟩;exact⟨_,H',I''.letgo f' XF,z⟩
end
def ji(ns:List Int):Nat:=(firstMet (fun i=>ns.getD i 0) ns.length).length
end L2
namespace L2
open PySem PySem.W PySem.Spec PySem.Calls PyProof.Rows PySem.Builtin PySem.Builtin.ObjectAttr PySem.Builtin.Getset_descriptor
def F4(e D:Addr):HO:=.ext fun h=>∃o,h.get? e=some o/\o.cls=.ref D
def PJ(X:Cx)(es:List Expr)(t:St->Hp->(Hp->Prop)->Prop):Prop:=
 ∀(pins:QS) (s:Shared) (O:St) (H:Hp) (Q:Hp->Prop) (acc:Str) (n:Nat),acc.length<=n->n+2000*es.length<=1000000->Inv X pins O H s->t O H Q->
  wpAny (model X.prog X.w) X.A (joinParts acc (evalEach es X.env)) (fun u s'=>∃z t H',u=.str z t/\Inv X pins O H' s'/\Q H') X.xe s
section
variable {X:Cx} {e e2:Expr} {es:List Expr} {te:TE} {t:St->Hp->(Hp->Prop)->Prop} {p pos:Pos}
theorem IU:PJ X [] (fun _ H Q=>Q H):=fun pins s O H Q acc n h1 h2 I h=>joinParts_nil ⟨acc,_,H,rfl,I.tok _,h⟩ (by rw[Rp];simp at h2;omega)
theorem EM{x:Str}{j:Nat}(hx:x.length<=2000)(hr:PJ X es t):PJ X (.Constant (.str x) j p::es) t:=by
 intro pins s O H Q acc n h1 h2 I h;have hl:(acc++x).length<=n+2000:=by rw[strLen_append];omega
 simp only[Qj] at h2;show wpAny _ _ (joinParts acc (eval (.Constant (.str x) j p) X.env::evalEach es X.env)) _ _ s;refine joinParts_cons (TM (zg pins s O H (fun v H'=>v=.str x/\H'=H) I ⟨rfl,rfl⟩) fun u s1 hm=>?_);obtain⟨v,H1,I1,r1,e1,e2⟩:=hm;subst e1 e2;obtain⟨tk,rfl⟩:=r1;exact⟨by rw[Rp];omega,hr pins s1 O _ Q _ (n+2000) hl (by omega) I1 h⟩
theorem IN(he:PE X e te)(hr:PJ X es t):PJ X (.FormattedValue e (-1) none p::es) (fun O H Q=>te O H fun v H1=>∃i,v=.int i/\i.natAbs.log2<1920/\t O H1 Q):=by
 intro pins s O H Q acc n h1 h2 I h;simp only[Qj] at h2;show wpAny _ _ (joinParts acc (eval (.FormattedValue e (-1) none p) X.env::evalEach es X.env)) _ _ s;refine joinParts_cons (FormattedValue_plain (TM (he pins s O H _ I h) fun u s1 hm=>?_));obtain⟨v,H1,I1,r1,i,ev,hi,q⟩:=hm;subst ev;obtain⟨tk,rfl⟩:=r1;refine(formatField_int_small hi ?_);have hz:=int_text_len_1921 hi;have hl:(acc++Str.ofString (toString i)).length<=n+2000:=by rw[strLen_append];omega
 exact⟨by rw[Rp];omega,hr pins _ O H1 Q _ (n+2000) hl (by omega) (I1.tok _) q⟩
theorem PK(h:PJ X (e::e2::es) t)(hl:(e::e2::es).length<=400:=by decide):PE X (.JoinedStr (e::e2::es) pos) (fun O H Q=>t O H fun H1=>∀z,Q (.str z) H1):=by
 intro pins s O H Q I q;refine JoinedStr_many ?_;refine TM (h pins s O H _ Str.empty 0 (QZ _) (by omega) I q) fun u s' hm=>?_;obtain⟨z,tk,H',eu,I',q'⟩:=hm;exact(⟨.str z,H',I',⟨tk,eu⟩,q' z⟩)
end
end L2
namespace L2
open PySem PySem.Spec PyProof.Rows
def Tf.there{P:Program}{w:World}{H:Hp}{h:Heap}{a:Addr}{o:HO}(x:Tf P w H h a o):∃ob,h.get? a=some ob:=by
 cases o with
 |lst xs=>obtain⟨_,_,_,_,e⟩:=x;exact⟨_,e⟩
 |tup xs=>obtain⟨_,_,_,p⟩:=x;obtain⟨ob,e,_⟩:=p;exact⟨_,e⟩
 |dK kvs=>obtain⟨_,_,_,_,o,_,_,e,_⟩:=x;exact⟨_,e⟩
 |dT kvs=>obtain⟨_,_,_,_,o,_,_,e,_⟩:=x;exact⟨_,e⟩
 |set S n=>obtain⟨o,_,_,_,e,_⟩:=x;exact⟨_,e⟩
 |ins C dx fs=>obtain⟨_,_,_,e,_⟩:=x;exact⟨_,e⟩
 |own y=>obtain⟨_,e⟩:=x;exact⟨_,e⟩
 |xd fs=>obtain⟨_,⟨_,_,_,e,_⟩,_⟩:=x;exact⟨_,e⟩
 |rng lo hi=>obtain⟨_,_,_,e⟩:=x;exact⟨_,e⟩
 |frz ob u=>obtain⟨e,_⟩:=x;exact⟨_,e⟩
 |tbl ps=>exact⟨_,(show h.get? a=some _ from x)⟩
 |met f y=>exact⟨_,(show h.get? a=some _ from x)⟩
 |ext φ=>obtain⟨_,e,_⟩:=x;exact e
structure Flew (P:Program) (w:World) (outer:List Env) (H H':Hp) (s:Shared) (e:Addr) (C:Value) (Z8:Heap) (s':Shared):Prop where
 os:s'.os=s.os
 bare:AllBare s'.gens
 un:Un (To outer) [] H H' s.heap s'.heap
 hok:Ua P w H' s'.heap
 trk:∀b o,s'.heap.get? b=some o->H' b≠none->Z8.get? b=some o
 old:∀b o,s.heap.get? b=some o->H b=none->b∉To outer->Z8.get? b=some o
 thr:∀b o,s.heap.get? b=some o->b∉To outer->∃o',Z8.get? b=some o'
 frf:∀b∈To outer,H b=none
 unt:H' e=none
 new:s.heap.get? e=none
 fly:∃a0,Heap.FlyingW Z8 outer e C a0 s'.heap
def U5(P:Program)(w:World):V7:=fun outer H s E e s'=>∃(a:Addr) (C:Value) (H':Hp) (Z8:Heap),e=.ref a/\Flew P w outer H H' s a C Z8 s'/\E C none H'
section
variable {P:Program} {w:World} {outer:List Env} {H H':Hp} {s s':Shared} {e:Addr} {C:Value} {Z8:Heap}
theorem Flew.to(F:Flew P w outer H H' s e C Z8 s')(hB:Z8.StaysIn h2)(hs:s'.heap.UpToSlots h2):Un (To outer) [] H H' s.heap h2/\Ua P w H' h2/\∀b o,h2.get? b=some o->H' b≠none->Z8.get? b=some o:=by
 obtain⟨a0,fl⟩:=F.fly;have kp:∀b o,s.heap.get? b=some o->H b=none->b∉To outer->h2.get? b=some o:=fun b o x n hb=>hB b o (F.old b o x n hb);have sl:∀b o,s.heap.get? b=some o->H b=none->b∈To outer->∃sl,h2.get? b=some {o with slots:=sl}:=fun b o x n hb=>by
  obtain⟨sl,e1⟩:=F.un.slot b o x n hb (by simp);obtain⟨_,o',e2,d⟩:=fl.2.2.1.mem hb;rw[e1] at e2;cases e2;obtain⟨XU,e3⟩:=hs b {o with slots:=sl} e1 d;exact(⟨XU,e3⟩)
 refine⟨⟨fun b o x n hb _=>kp b o x n hb,fun b o x n hb _=>sl b o x n hb,F.un.free,fun b o x _=>?_,F.un.tups,F.un.frzs,F.un.tbls⟩,fun a u eu=>?_,fun b o x n=>?_⟩
 .by_cases hb:b∈To outer
  .obtain⟨l,e1⟩:=sl b o x (F.frf b hb) hb;exact⟨_,e1⟩
  .obtain⟨o',e1⟩:=F.thr b o x hb;exact⟨o',hB b o' e1⟩
 .refine(F.hok a u eu).stay (fun b v hb q=>hB b v (F.trk b v q ?_)) (fun _ q=>q) fun _ _ q=>q;rcases hb with z|z
  .rw[z,eu];simp
  .rw[z];simp
 .cases eu:H' b with
  |none=>exact absurd eu n
  |some u=>
   obtain⟨o1,e1⟩:=(F.hok b u eu).there;have e2:=F.trk b o1 e1 n;have e3:=hB b o1 e2;rw[x] at e3;cases e3;exact(e2)
theorem Flew.next(F:Flew P w outer H H' s e C Z8 s')(hs:s'.heap.UpToSlots h2)(fl:∃a0,Heap.FlyingW Z8 outer e C a0 h2):Flew P w outer H H' s e C Z8 {s' with heap:=h2}:=by
 obtain⟨a0,fl⟩:=fl;obtain⟨u,k,t⟩:=F.to fl.1 hs;exact(⟨F.os,F.bare,u,k,t,F.old,F.thr,F.frf,F.unt,F.new,a0,fl⟩)
theorem Flew.inv(F:Flew X.prog X.w X.stack H H' s e C Z8 s')(I:Inv X pins O H s):Inv X pins O H' s':=
 I.call' (ch:=[]) F.os F.un F.hok F.bare fun _ z=>nomatch z
end
section
variable {P:Program} {w:World} {K:Frag} {mg:Str->Option Value} {base:Heap} {N:List Str} {qual:Str} {scope:Scope} {f:Addr} {cd:Value} {A:Around} {outer:List Env} {s s1:Shared} {H H1:Hp} {E E':XK}
 {pins:QS} {O:St}
theorem JI{h':Heap}{e C:Addr}{vs:List Value}(I:Inv (dB (U5 P w) P w K mg base N qual scope f cd A outer s H E) pins O H1 s1)(hx:Heap.MadeExcOf s1.heap h' e (.ref C) vs)(hE:E (.ref C) none H1):
  (dB (U5 P w) P w K mg base N qual scope f cd A outer s H E).xe (.ref e) {s1 with heap:=h'}:=by
 have fs:∀b,b∈To (envOfC qual scope s.heap.objs.size f cd::outer)->H1 b=none:=I.stkFree;have inn:∀b o,s1.heap.get? b=some o->b∉To (envOfC qual scope s.heap.objs.size f cd::outer)->(PySem.W.hideAll s1.heap (To (envOfC qual scope s.heap.objs.size f cd::outer))).get? b=some o:=fun b o e hb=>PySem.W.hideAll_get _ e hb;have out:∀b o,s.heap.get? b=some o->b∉To outer->b∉To (envOfC qual scope s.heap.objs.size f cd::outer):=fun b o e hb z=>by
  have z:b∈s.heap.objs.size::To outer:=z;rcases Qz.mp z with q|q
  .rw[q] at e;exact QY _ (Qa e)
  .exact hb q
 have frf:∀b∈To outer,H b=none:=I.ok.frf;have ψ:∀env∈(envOfC qual scope s.heap.objs.size f cd::outer),∀a,env.frame=some a->a∈To (envOfC qual scope s.heap.objs.size f cd::outer):=fun env he a ha=>R9.mpr ⟨env,he,ha⟩;show wpAny (model P w) (A.deeper (envOfC qual scope s.heap.objs.size f cd)) (leaving (envOfC qual scope s.heap.objs.size f cd) (.ref e)) _ _ _;refine wpAny_leaves_madeW (base:=PySem.W.hideAll s1.heap (To (envOfC qual scope s.heap.objs.size f cd::outer))) I.ok.frames rfl (fun b o q=>PySem.W.of_hideAll _ q) (PySem.W.funFrames_hide I.stack ψ) hx fun h2 t fl _ _ ups=>?_;have hB:=fl.1;have sl:∀b o,s.heap.get? b=some o->H b=none->b∈To outer->∃sl,h2.get? b=some {o with slots:=sl}:=fun b o x n hb=>by
  obtain⟨sl,e1⟩:=I.base.slot b o x n hb (by simp[dB]);obtain⟨_,o',e2,d⟩:=I.stack.mem (show b∈s.heap.objs.size::To outer from QO _ hb);rw[e1] at e2;cases e2;obtain⟨XU,e3⟩:=ups b {o with slots:=sl} (hx.keeps b {o with slots:=sl} e1) d;exact(⟨XU,e3⟩)
 have old:∀b o,s.heap.get? b=some o->H b=none->b∉To outer->(PySem.W.hideAll s1.heap (To (envOfC qual scope s.heap.objs.size f cd::outer))).get? b=some o:=fun b o x n hb=>
  inn b o (I.base.keep b o x n hb (by simp[dB])) (out b o x hb)
 have thr:∀b o,s.heap.get? b=some o->b∉To outer->∃o',(PySem.W.hideAll s1.heap (To (envOfC qual scope s.heap.objs.size f cd::outer))).get? b=some o':=fun b o x hb=>by
  obtain⟨o',e1⟩:=I.base.there b o x (by simp[dB]);exact(⟨o',inn b o' e1 (out b o x hb)⟩)
 have ε:∀b,H1 b≠none->b∉To (envOfC qual scope s.heap.objs.size f cd::outer):=fun b n z=>n (fs b z);refine⟨e,.ref C,H1,_,rfl,⟨I.os,I.bare,⟨fun b o x n hb _=>hB b o (old b o x n hb),fun b o x n hb _=>sl b o x n hb,fun b o x n _=>I.base.free b o x n (by simp[dB]),fun b o x _=>?_,I.base.tups,I.base.frzs,I.base.tbls⟩,fun a u eu=>?_,fun b o x n=>?_,old,thr,frf,?_,?_,_,fl⟩,hE⟩
 .by_cases hb:b∈To outer
  .obtain⟨l,e1⟩:=sl b o x (frf b hb) hb;exact⟨_,e1⟩
  .obtain⟨o',e1⟩:=thr b o x hb;exact⟨o',hB b o' e1⟩
 .refine(I.hok a u eu).stay (fun b v hb q=>hB b v (inn b v q (ε b ?_))) (fun _ q=>q) fun _ _ q=>q;rcases hb with z|z
  .rw[z,eu];simp
  .rw[z];simp
 .cases eu:H1 b with
  |none=>exact absurd eu n
  |some u=>
   obtain⟨o1,e1⟩:=(I.hok b u eu).there;have e2:=inn b o1 e1 (ε b n);have e3:=hB b o1 e2;rw[x] at e3;cases e3;exact(e2)
 .cases eu:H1 e with
  |none=>rfl
  |some u=>
   obtain⟨o1,e1⟩:=(I.hok e u eu).there;rw[hx.new] at e1;cases e1
 .cases eo:s.heap.get? e with
  |none=>rfl
  |some o=>
   obtain⟨o1,e1⟩:=I.base.there e o eo (by simp[dB]);rw[hx.new] at e1;cases e1
theorem DQ(hE:∀C d H',E' C d H'->E C d H'):jT (U5 P w) (dB (U5 P w) P w K mg base N qual scope f cd A outer s H E) E':=by
 intro pins O H1 s1 e s' I hc;obtain⟨a,C,H',Z8,rfl,F,q⟩:=hc;have F:Flew P w (envOfC qual scope s.heap.objs.size f cd::outer) H1 H' s1 a C Z8 s':=F;obtain⟨a0,fl⟩:=F.fly;have I2:Inv (dB (U5 P w) P w K mg base N qual scope f cd A outer s H E) pins O H' s':=Flew.inv (X:=dB (U5 P w) P w K mg base N qual scope f cd A outer s H E) F I;have out:∀b o,s.heap.get? b=some o->b∉To outer->b∉To (envOfC qual scope s.heap.objs.size f cd::outer):=fun b o e hb z=>by
  have z:b∈s.heap.objs.size::To outer:=z;rcases Qz.mp z with q|q
  .rw[q] at e;exact QY _ (Qa e)
  .exact hb q
 obtain⟨f1,f2,⟨_,_,f3⟩,f4⟩:=id fl;have G:Flew P w outer H H' s a C Z8 s':=by
  refine⟨I2.os,F.bare,⟨fun b o x n hb _=>I2.base.keep b o x n hb (by simp[dB]),fun b o x n hb _=>I2.base.slot b o x n hb (by simp[dB]),fun b o x n _=>I2.base.free b o x n (by simp[dB]),fun b o x _=>I2.base.there b o x (by simp[dB]),I2.base.tups,I2.base.frzs,I2.base.tbls⟩,F.hok,F.trk,
   fun b o x n hb=>F.old b o (I.base.keep b o x n hb (by simp[dB])) (I.base.free b o x n (by simp[dB])) (out b o x hb),fun b o x hb=>?_,I.ok.frf,F.unt,?_,a0,f1,f2,f3,f4⟩
  .obtain⟨o1,e1⟩:=I.base.there b o x (by simp[dB]);exact F.thr b o1 e1 (out b o x hb)
  .cases eo:s.heap.get? a with
   |none=>rfl
   |some o=>
    obtain⟨o1,e1⟩:=I.base.there a o eo (by simp[dB]);rw[F.new] at e1;cases e1
 show wpAny (model P w) (A.deeper (envOfC qual scope s.heap.objs.size f cd)) (leaving (envOfC qual scope s.heap.objs.size f cd) (.ref a)) _ _ _;exact wpAny_leaves_onW I.ok.frames rfl fl fun h2 Ϩ ups=>⟨a,C,H',Z8,rfl,G.next ups ⟨_,Ϩ⟩,hE C none H' q⟩
end
def bI(b:Bool):Int:=if b=true then 1 else 0
section
variable {prog:Program} {w:World} {A:Around} {R:Result->Shared->Prop} {I:Addr} {fp wr:List Addr} {n:Nat} {P:Nat->Value->Prop} {St:Nat->Heap->Prop}
theorem wZ{J:Type}{c:Bool}{x y:Sem J}{Q:J->Shared->Prop}{E:OK}{s:Shared}(h:c=true)(q:wpAny (model prog w) A x Q E s):wpAny (model prog w) A (if c=true then x else y) Q E s:=by subst h;exact q
theorem DS(W:Walks prog w A.in1 I fp wr n P St)(bv:Nat->Bool)(Vy:∀i v,P i v->v=.bool (bv i))(Ww:∀j,j<n->InLong (bI (bv j))/\InLong (preSum (fun i=>bI (bv i)) (j+1)))(S:Addr)(ϥ:S∉fp):
  ∀(k i:Nat) (s:Shared) (tA:Tok) (c:Nat),n - i=k->i<=n->St i s.heap->s.heap.get? S=some {cls:=.type "list",dict:=none,data:=.seq #[.int (preSum (fun i=>bI (bv i)) i) tA] c,slots:=#[]}->
  (∀h' tk t',(∀b o,b∉wr->b≠S->s.heap.get? b=some o->h'.get? b=some o)->R (.ok (.ret (.int (preSum (fun i=>bI (bv i)) n) t'))) {s with heap:=h',toks:=tk})->
  codeAny (model prog w) A (.builtin "sum.loop" ⟨[.ref I,.ref S,rawInt 0,rawInt 0],[]⟩) R s:=by
 have hSw:S∉wr:=fun h=>ϥ (W.sub _ h);intro k;induction k with
 |zero=>
  intro i s tA c hk hi hst hS hR;have ψ:i=n:=by omega
  subst ψ;refine Rh F.entry_sum_loop ?_;rw[Q0 So _];show wpAny _ A.in1 (seqItems? (.ref S) >>= _) _ _ s;refine P2 (RW hS rfl ?_);show wpAny _ A.in1 (tryCatch (pyNext (.ref I)) _ >>= _) _ _ s;refine P2 (Sj (W.done s _ _ hst fun h' tk V1=>?_));exact P6 (hR h' tk tA fun b o Ys _ e=>V1 b o Ys e)
 |succ k ih=>
  intro i s tA c hk hi hst hS hR;have hlt:i<n:=by omega
  refine Rh F.entry_sum_loop ?_;rw[Q0 So _];show wpAny _ A.in1 (seqItems? (.ref S) >>= _) _ _ s;refine P2 (RW hS rfl ?_);show wpAny _ A.in1 (tryCatch (pyNext (.ref I)) _ >>= _) _ _ s;refine P2 (Sj (W.item i s _ _ hlt hst fun v h' tk hP _R V1=>?_));have hv:=Vy i v hP;subst hv;have hS':=V1 S _ hSw hS;obtain⟨⟨f1,f2⟩,f3,f4⟩:=Ww i hlt;have hc:((decide (-(2^63)<=bI (bv i))&&decide (bI (bv i)<2^63))&&(decide (-(2^63)<=preSum (fun i=>bI (bv i)) i+bI (bv i))&&decide (preSum (fun i=>bI (bv i)) i+bI (bv i)<2^63)))=true:=by
   simp only[preSum] at f3 f4;simp only[Qs,QQ];exact⟨⟨f1,f2⟩,f3,f4⟩
  have Xy:preSum (fun i=>bI (bv i)) (i+1)=preSum (fun i=>bI (bv i)) i+bI (bv i):=rfl;have go:∀(b:Bool),bv i=b->wpAny (model prog w) A.in1 (mkInt (preSum (fun i=>bI (bv i)) i+bI b) >>= fun total=>(updateSeq S (fun _=>#[total]) >>= fun _=>again (Code.builtin "sum.loop" {pos:=[Value.ref I,Value.ref S,rawInt 0,rawInt 0]})))
    (fun fin s'=>match fin with
     |Fin.done f=>R (Except.ok f) s'
     |Fin.again c'=>c'.quiet=true/\codeAny (model prog w) A c' R s') (fun e s'=>R (Except.error e) s') {s with heap:=h',toks:=tk}:=by
   intro b hb;refine P2 (wpAny_mkInt ?_);refine P2 ?_;rw[←hb,←Xy];refine Sw hS' rfl (P6 ⟨Ro So _,ih (i+1) _ tk _ (by omega) hlt (W.frame _ _ _ _R fun b hb o e=>?_) (RC _ hS' rfl) fun Η ϶ t'' _i=>?_⟩)
   .exact(Q1 _ _ (fun h:S=b=>ϥ (by rw[h];exact hb))).trans e
   .exact hR Η ϶ t'' fun b o Ys hbS e=>_i b o Ys hbS ((Q1 _ _ (Ne.symm hbS)).trans (V1 b o Ys e))
  cases hb:bv i with
  |false=>
   rw[hb] at hc;show wpAny _ A.in1 (if(_:Bool)=true then(mkInt (preSum (fun i=>bI (bv i)) i+0) >>= _) else _) _ _ _;exact wZ hc (go false hb)
  |true=>
   rw[hb] at hc;show wpAny _ A.in1 (if(_:Bool)=true then(mkInt (preSum (fun i=>bI (bv i)) i+1) >>= _) else _) _ _ _;exact wZ hc (go true hb)
end
section
variable {prog:Program} {w:World} {A:Around} {E:OK} {s:Shared}
theorem FN{x:Value}{Q:OK}
  (h:wpAny (model prog w) A.in1 (pyIter x) (fun it ZM=>∃I fp wr n P St,∃bv:Nat->Bool,it=.ref I/\Walks prog w A.in1 I fp wr n P St/\St 0 ZM.heap/\(∀b∈fp,b<ZM.heap.objs.size)/\
   (∀i v,P i v->v=.bool (bv i))/\(∀j,j<n->InLong (bI (bv j))/\InLong (preSum (fun i=>bI (bv i)) (j+1)))/\
   ∀h' tk t',(∀b o,b∉wr->ZM.heap.get? b=some o->h'.get? b=some o)->Q (.int (preSum (fun i=>bI (bv i)) n) t') {ZM with heap:=h',toks:=tk}) E s):
  wpAny (model prog w) A (call (.builtin "sum") [x]) Q E s:=by
 refine call_function_tree F.kind_sum F.plain_sum F.entry_sum (F.args_sum1 _) ?_;unfold Builtin.«sum»;simp only[Qj,RT];rw[if_neg (by decide)];refine P2 (Ta (show Builtin.Builtins.bindParams "sum" ["start"] 0 {}=pure [none] from rfl) ?_);refine P2 (P8 h (fun it ZM ZC=>?_) fun _ _ e=>e);obtain⟨I,fp,wr,n,P,St,bv,rfl,W,hst,hfp,Vy,Ww,hQ⟩:=ZC;refine(P2 (wpAny_mkInt ?_));refine P2 (P6 ?_);simp only[List.forIn_cons,List.forIn_nil];refine P2 (P2 (P2 (Rw (T:="int") (b:=false) (Sb _ _ _) PySem.sub_int_str ?_)));simp only[Qo,if_false];refine P6 (P2 (P2 (Rw (T:="int") (b:=false) (Sb _ _ _) PySem.sub_int_bytes ?_)));simp only[Qo,if_false];refine P6 (P2 (P2 (Rw (T:="int") (b:=false) (Sb _ _ _) PySem.sub_int_bytearray ?_)));simp only[Qo,if_false];refine P6 (P6 ?_);refine P2 (QW ?_);have ϥ:ZM.heap.objs.size∉fp:=fun hm=>QY _ (hfp _ hm);refine P6 ⟨Ro So _,DS W bv Vy Ww ZM.heap.objs.size ϥ n 0 _ ZM.toks 0 rfl (QZ _)
  (W.frame _ _ _ hst fun b _ o e=>P4 _ e) (Qd _ rfl) fun h' tk t' hk=>?_⟩
 exact hQ h' tk t' fun b o Ys e=>hk b o Ys (Qk (Qa e)) (P4 _ e)
end
def x9{x:Int}{n:Nat}(h0:0<=x)(h1:x<=n)(h:n<=sizeLine):InLong x:=by have:=jO;exact⟨by omega,by omega⟩
def zd(b:Bool):0<=bI b/\bI b<=(1:Nat):=by unfold bI;split<;>omega
theorem yV(bv:Nat->Bool):∀n:Nat,0<=preSum (fun i=>bI (bv i)) n/\preSum (fun i=>bI (bv i)) n<=n
 |0=>by simp[preSum]
 |n+1=>by
  have⟨h1,h2⟩:=yV bv n;have hb:0<=bI (bv n)/\bI (bv n)<=1:=by unfold bI;split<;>omega
  simp only[preSum];omega
def Dq(bs:List Bool):preSum (fun i=>bI (bs.getD i false)) bs.length=(bs.count true:Nat):=by
 have:∀n,n<=bs.length->preSum (fun i=>bI (bs.getD i false)) n=((bs.take n).count true:Nat):=by
  intro n;induction n with
  |zero=>intro _;simp[preSum]
  |succ n ih=>
   intro hn;simp only[preSum];rw[ih (by omega),List.take_add_one,List.count_append,P9 (by omega)];have e:bs.getD n false=bs[n]'(by omega):=by rw[P7,P9 (by omega)];rfl
   rw[e];cases bs[n]'(by omega)<;>simp[bI]
 rw[this bs.length (P3 _),Sq]
section
variable {X:Cx}
theorem KH:gb X (.builtin "sum") (fun xs H Q=>∃(v a:Addr) (kvs:List (Key×V)) (bs:List Bool),xs=[.ref v]/\H v=some (Xl v a)/\H a=some (.dK kvs)/\kvs.map (·.2)=bs.map V.bl/\X.calm=true/\Q (.int (bs.count true:Nat)) H):=by
 intro pins s O H xs us Q I r h;obtain⟨v,a,kvs,bs,rfl,hv,e,hb,hc,q⟩:=h;obtain⟨u,rfl,ru⟩:=gK r;cases ru;obtain⟨z,hd,ws,rel,dd⟩:=gO I.hok e;obtain⟨ι,_,_⟩:s.heap.IsValuesView v a/\_/\_:=I.hok v _ hv;obtain⟨ep,Wy⟩:=dd.dictAt;have hl:=jO;have hlen:bs.length=kvs.length:=by have:=congrArg List.length hb;simpa using this.symm
 have θ:ws.length=kvs.length:=rel.length.symm;have alt:a<s.heap.objs.size:=by obtain⟨o,_,h1,_⟩:=Wy;exact Qa h1
 refine(FN (wpAny_pyIter_values ι Wy ⟨s.heap.objs.size,_,_,_,_,_,fun i=>bs.getD i false,rfl,Walks.dictValues (A:=X.A.in1) (I.ok.hd hc) s.heap.objs.size a (Qk alt) ws ep,⟨⟨_,Qd _ rfl,rfl,rfl⟩,Wy.at' fun o eo=>P4 _ eo⟩,fun b hbm=>?_,fun i x hx=>?_,fun j hj=>?_,fun h' tk t' hk=>?_⟩))
 .show b<(s.heap.push _).objs.size;rw[Q2];simp at hbm;rcases hbm with rfl|rfl
  .exact RZ _
  .exact RH alt
 .obtain⟨k,hx⟩:=hx;have rv:Vals (kvs.map (·.2)) (ws.map (·.2)):=Bc rel;rw[hb] at rv;have e2:=tF rv;have XD:(ws.map (·.2))[i]?=some x:=by rw[Qm,hx];rfl
  rw[e2,Qm] at XD;cases _y:bs[i]? with
  |none=>rw[_y] at XD;cases XD
  |some b=>
   rw[_y] at XD;cases XD;show Value.bool b=.bool (bs.getD i false);rw[P7,_y];rfl
 .have hb2:=yV (fun i=>bs.getD i false) (j+1);have hj2:j+1<=sizeLine:=by omega
  exact⟨x9 (zd _).1 (zd _).2 (by omega),x9 hb2.1 hb2.2 hj2⟩
 .have e3:preSum (fun i=>bI (bs.getD i false)) ws.length=(bs.count true:Nat):=by rw[θ,←hlen];exact Dq bs
  rw[e3];exact⟨.int _,H,I.kept (t':=tk) fun b o eo=>hk b o (by simp;exact Qk (Qa eo)) (P4 _ eo),⟨_,rfl⟩,q⟩
def Ju:V->List V->Hp->VK->Prop:=fun x vs H Q=>∃(a b:Addr) (kvs more:List (Key×V)),x=.ref a/\vs=[.ref b]/\H a=some (.dK kvs)/\H b=some (.dK more)/\a≠b/\kvs.length+more.length<=sizeLine/\Q .non (upd H a (.dK (hX kvs more)))
theorem KJ:Yy X "dict.update" Ju:=by
 intro pins s O H x vs v us Q I rx rv h;obtain⟨a,b,kvs,more,rfl,rfl,e,e2,hne,hl,q⟩:=h;cases rx;obtain⟨u,rfl,ru⟩:=gK rv;cases ru;obtain⟨z,hd,ws,rel,dd⟩:=gO I.hok e;obtain⟨z2,hd2,ws2,gV,Ϫ⟩:=gO I.hok e2;refine S2 PySem.F.slot_dict_update dd.typeIs PySem.F.entry_dict_update (PySem.F.args_dict_update_2 _ _) (meets_dict_update (fv X.prog X.w) a b hne hd2) ⟨ws,ws2,dd,Ϫ,by rw[←rel.length,←gV.length];exact hl,fun h' Vw _ hs=>?_⟩;have hz:(hX kvs more).length<=sizeLine:=by have:=sK more kvs;omega
 have he:∃q,h'.get? a=some q:=let ⟨q,_,_,hq,_⟩:=Vw;⟨q,hq⟩
 exact⟨.non,_,lz (t':=s.toks) I (by rw[e];exact True.intro) hs he (mS hz hd (KV.merge gV rel) Vw),rfl,q⟩
end
end L2
namespace L3
open PySem PySem.Spec L2
inductive D where
 |non|bl (b:Bool)|int (i:Int)|str (x:Str)|lst (xs:List D)|scr (xs:List D)|tup (xs:List D)|gt (xs:List D)|ref (k:Nat)
inductive Z7 where
 |lst (xs:List D)|dK (kvs:List (Key×D))|dN (kvs:List (NK×D))|ins (C:Addr) (fs:List (Str×D))|exc (C:Addr)
abbrev M:=List (Option Z7)
abbrev Fr:=Option (D×M)
abbrev C0:=List D->M->Fr
abbrev G:=List (Option D)
structure Wd where
 ρ:List Addr
 L:M
 H:Hp
 hid:Addr->Prop
def Yx(K:Frag)(H:Hp)(a:Addr)(xs:List V):Prop:=(∃o,H a=some (.frz o (.lst xs)))\/
  ∃(o:Obj) (its:Array Value) (n:Nat),K.lookup a=some o/\o.cls=.type "list"/\o.dict=none/\o.data=.seq its n/\its.size<=sizeLine/\Vals xs its.toList
def Yx.seq{K:Frag}{H:Hp}{a:Addr}{xs:List V}(h:Yx K H a xs):T9 K H a xs:=by
 rcases h with h|h
 .exact .inl (.inr h)
 .exact .inr h
def RL(W:Wd)(a:Addr):Prop:=∃(k:Nat) (o:Z7),W.L[k]?=some (some o)/\W.ρ[k]?=some a
def mR(W:Wd)(a:Addr):Prop:=RL W a\/W.hid a
mutual
inductive DR (K:Frag) (W:Wd):D->V->Prop where
 |non:DR K W .non .non
 |bl (b:Bool):DR K W (.bl b) (.bl b)
 |int (i:Int):DR K W (.int i) (.int i)
 |str (x:Str):DR K W (.str x) (.str x)
 |ref {k:Nat} {a:Addr}:W.ρ[k]?=some a->DR K W (.ref k) (.ref a)
 |lst {a:Addr} {vs:List V} {ds:List D}:W.H a=some (.lst vs)->¬mR W a->TN K W ds vs->DR K W (.lst ds) (.ref a)
 |scr {a:Addr} {vs:List V} {ds:List D}:Yx K W.H a vs->TN K W ds vs->DR K W (.scr ds) (.ref a)
 |tup {a:Addr} {vs:List V} {ds:List D}:W.H a=some (.tup vs)->TN K W ds vs->DR K W (.tup ds) (.ref a)
 |gt {a:Addr} {vs:List V} {ds:List D}:Uo K W.H a vs->TN K W ds vs->DR K W (.gt ds) (.ref a)
inductive TN (K:Frag) (W:Wd):List D->List V->Prop where
 |nil:TN K W [] []
 |cons {d:D} {v:V} {ds:List D} {vs:List V}:DR K W d v->TN K W ds vs->TN K W (d::ds) (v::vs)
end
def KR(K:Frag)(W:Wd):List (Key×D)->List (Key×V)->Prop:=Paired fun p q=>p.1=q.1/\DR K W p.2 q.2
def NR(K:Frag)(W:Wd):List (NK×D)->List (NK×V)->Prop:=Paired fun p q=>p.1=q.1/\DR K W p.2 q.2
def FR(K:Frag)(W:Wd):List (Str×D)->List (Str×V)->Prop:=Paired fun p q=>p.1=q.1/\DR K W p.2 q.2
def OR(K:Frag)(W:Wd)(a:Addr):Z7->HO->Prop
 | .lst ds,ho=>∃vs,ho=.lst vs/\TN K W ds vs
 | .dK kvs,ho=>∃vs,ho=.dK vs/\KR K W kvs vs
 | .dN kvs,ho=>∃vs,ho=.dT vs/\NR K W kvs vs
 | .ins C fs,ho=>∃vs,(∃dx,ho=.ins C dx vs)/\FR K W fs vs
 | .exc C,ho=>ho=F4 a C
structure Ok (K:Frag) (W:Wd):Prop where
 len:W.ρ.length=W.L.length
 nd:W.ρ.Nodup
 rs:∀a∈W.ρ,W.H a≠none
 at_:∀(k:Nat) (o:Z7),W.L[k]?=some (some o)->∃a ho,W.ρ[k]?=some a/\W.H a=some ho/\OR K W a o ho
 hd0:∀a,W.hid a->W.H a≠none/\a∉W.ρ
def Ok.hd{K:Frag}{W:Wd}(ok:Ok K W):∀a,W.hid a->W.H a≠none/\¬RL W a:=fun a z=>⟨(ok.hd0 a z).1,fun⟨_,_,_,h⟩=>(ok.hd0 a z).2 (Rq h)⟩
structure Step (W W':Wd):Prop where
 ρ:∀(k:Nat) a,W.ρ[k]?=some a->W'.ρ[k]?=some a
 live:∀a,RL W' a->RL W a\/W.H a=none
 keep:∀a o,W.H a=some o->¬RL W a->W'.H a=some o
 hid:W'.hid=W.hid
 still:∀a,W.H a≠none->W'.H a≠none
structure TQ (K:Frag) (W:Wd) (B:G) (O:St):Prop where
 len:B.length=O.length
 at_:∀(i:Nat) d,B[i]?=some (some d)->∃v,O[i]?=some (some v)/\DR K W d v
section
variable {K:Frag} {W W' Ξ:Wd} {B:G} {O:St}
theorem Step.refl:Step W W:=⟨fun _ _ h=>h,fun _ h=>.inl h,fun _ _ h _=>h,rfl,fun _ h=>h⟩
theorem Step.nlive(s:Step W W')(h:W.H a=some o)(n:¬RL W a):¬RL W' a:=fun z=>by
 rcases s.live a z with z|z
 .exact n z
 .rw[h] at z;cases z
theorem Step.trans(s:Step W W')(t:Step W' Ξ):Step W Ξ where
 ρ k a h:=t.ρ k a (s.ρ k a h)
 live a h:=by
  rcases t.live a h with z|z
  .exact s.live a z
  .exact .inr (QT fun n=>s.still a n z)
 keep a o h n:=t.keep a o (s.keep a o h n) (s.nlive h n)
 hid:=t.hid.trans s.hid
 still a h:=t.still a (s.still a h)
theorem Step.nLive(s:Step W W')(h:W.H a=some o)(n:¬mR W a):¬mR W' a:=fun z=>by
 rcases z with z|z
 .exact s.nlive h (fun q=>n (.inl q)) z
 .rw[s.hid] at z;exact n (.inr z)
theorem F3(s:Step W W')(n:¬RL W a)(r:Rd W.H a u):Rd W'.H a u:=by
 rcases r with h|⟨o,h⟩
 .exact .inl (s.keep _ _ h n)
 .exact .inr ⟨o,s.keep _ _ h n⟩
theorem Ok.notup(ok:Ok K W)(r:Rd W.H a (.tup vs)):¬RL W a:=fun⟨k,o,hk,ha⟩=>by
 obtain⟨a',ho,h1,h2,h3⟩:=ok.at_ k o hk;rw[ha] at h1;cases h1;rcases r with h|⟨q,h⟩
 .rw[h2] at h;cases o with
  |lst ds=>obtain⟨ws,rfl,_⟩:=h3;cases h
  |dK kvs=>obtain⟨ws,rfl,_⟩:=h3;cases h
  |dN kvs=>obtain⟨ws,rfl,_⟩:=h3;cases h
  |ins C fs=>obtain⟨ws,⟨dx,rfl⟩,_⟩:=h3;cases h
  |exc C=>cases (show _=_ from h3);cases h
 .rw[h2] at h;cases o with
  |lst ds=>obtain⟨ws,rfl,_⟩:=h3;cases h
  |dK kvs=>obtain⟨ws,rfl,_⟩:=h3;cases h
  |dN kvs=>obtain⟨ws,rfl,_⟩:=h3;cases h
  |ins C fs=>obtain⟨ws,⟨dx,rfl⟩,_⟩:=h3;cases h
  |exc C=>cases (show _=_ from h3);cases h
theorem yX(ok:Ok K W)(s:Step W W'){a:Addr}{vs:List V}(h:Uo K W.H a vs):Uo K W'.H a vs:=by
 rcases h with h|h
 .exact .inl (F3 s (ok.notup h) h)
 .exact .inr h
theorem Ok.nofrz(ok:Ok K W)(h:W.H a=some (.frz q u)):¬RL W a:=fun⟨k,o,hk,ha⟩=>by
 obtain⟨a',ho,h1,h2,h3⟩:=ok.at_ k o hk;rw[ha] at h1;cases h1;rw[h2] at h;cases o with
 |lst ds=>obtain⟨ws,rfl,_⟩:=h3;cases h
 |dK kvs=>obtain⟨ws,rfl,_⟩:=h3;cases h
 |dN kvs=>obtain⟨ws,rfl,_⟩:=h3;cases h
 |ins C fs=>obtain⟨ws,⟨dx,rfl⟩,_⟩:=h3;cases h
 |exc C=>cases (show _=_ from h3);cases h
theorem wG(ok:Ok K W)(s:Step W W'){a:Addr}{vs:List V}(h:Yx K W.H a vs):Yx K W'.H a vs:=by
 rcases h with⟨o,h⟩|h
 .exact .inl ⟨o,s.keep _ _ h (ok.nofrz h)⟩
 .exact .inr h
mutual
theorem DR.step(ok:Ok K W)(s:Step W W'):∀{d:D} {v:V},DR K W d v->DR K W' d v
 |_,_,.non=>.non
 |_,_,.bl b=>.bl b
 |_,_,.int i=>.int i
 |_,_,.str x=>.str x
 |_,_,.ref h=>.ref (s.ρ _ _ h)
 |_,_,.lst r n h=>.lst (s.keep _ _ r (fun z=>n (.inl z))) (s.nLive r n) (TN.step ok s h)
 |_,_,.scr r h=>.scr (wG ok s r) (TN.step ok s h)
 |_,_,.tup r h=>.tup (s.keep _ _ r (ok.notup (.inl r))) (TN.step ok s h)
 |_,_,.gt r h=>.gt (yX ok s r) (TN.step ok s h)
theorem TN.step(ok:Ok K W)(s:Step W W'):∀{ds:List D} {vs:List V},TN K W ds vs->TN K W' ds vs
 |_,_,.nil=>.nil
 |_,_,.cons h t=>.cons (h.step ok s) (TN.step ok s t)
end
theorem KR.step(ok:Ok K W)(s:Step W W'){kvs:List (Key×D)}{vs:List (Key×V)}(h:KR K W kvs vs):KR K W' kvs vs:=Paired.mapP h fun _ _ ⟨e,q⟩=>⟨e,q.step ok s⟩
theorem NR.step(ok:Ok K W)(s:Step W W'){kvs:List (NK×D)}{vs:List (NK×V)}(h:NR K W kvs vs):NR K W' kvs vs:=Paired.mapP h fun _ _ ⟨e,q⟩=>⟨e,q.step ok s⟩
theorem FR.step(ok:Ok K W)(s:Step W W'){kvs:List (Str×D)}{vs:List (Str×V)}(h:FR K W kvs vs):FR K W' kvs vs:=Paired.mapP h fun _ _ ⟨e,q⟩=>⟨e,q.step ok s⟩
theorem OR.step(ok:Ok K W)(s:Step W W'){a:Addr}{o:Z7}{ho:HO}(h:OR K W a o ho):OR K W' a o ho:=by
 cases o with
 |lst ds=>obtain⟨vs,e,q⟩:=h;exact⟨vs,e,q.step ok s⟩
 |dK kvs=>obtain⟨vs,e,q⟩:=h;exact⟨vs,e,q.step ok s⟩
 |dN kvs=>obtain⟨vs,e,q⟩:=h;exact⟨vs,e,q.step ok s⟩
 |ins C fs=>obtain⟨vs,e,q⟩:=h;exact⟨vs,e,q.step ok s⟩
 |exc C=>exact h
theorem TQ.step(e:TQ K W B O)(ok:Ok K W)(s:Step W W'):TQ K W' B O:=⟨e.len,fun i d h=>let ⟨v,a,b⟩:=e.at_ i d h;⟨v,a,b.step ok s⟩⟩
theorem TN.length:∀{ds:List D} {vs:List V},TN K W ds vs->ds.length=vs.length
 |_,_,.nil=>rfl
 |_,_,.cons _ t=>by simp[t.length]
theorem TN.get:∀{ds:List D} {vs:List V} {i:Nat} {d:D},TN K W ds vs->ds[i]?=some d->∃v,vs[i]?=some v/\DR K W d v
 |_,_,_,_,.nil,e=>by simp at e
 |_,_,0,_,.cons h _,e=>by simp at e;subst e;exact⟨_,rfl,h⟩
 |_,_,i+1,d,.cons _ t,e=>by
  obtain⟨v,h1,h2⟩:=TN.get (i:=i) (d:=d) t (by simpa using e);exact(⟨v,by simpa using h1,h2⟩)
theorem TN.append:∀{ds es:List D} {vs us:List V},TN K W ds vs->TN K W es us->TN K W (ds++es) (vs++us)
 |_,_,_,_,.nil,s=>s
 |_,_,_,_,.cons h t,s=>.cons h (TN.append t s)
theorem TN.take:∀{ds:List D} {vs:List V} (n:Nat),TN K W ds vs->TN K W (ds.take n) (vs.take n)
 |_,_,0,_=>.nil
 |_,_,_+1,.nil=>.nil
 |_,_,n+1,.cons r t=>.cons r (TN.take n t)
theorem TN.drop:∀{ds:List D} {vs:List V} (n:Nat),TN K W ds vs->TN K W (ds.drop n) (vs.drop n)
 |_,_,0,r=>r
 |_,_,_+1,.nil=>.nil
 |_,_,n+1,.cons _ t=>TN.drop n t
theorem TN.set(r:DR K W d v):∀{ds:List D} {vs:List V} (i:Nat),TN K W ds vs->TN K W (ds.set i d) (vs.set i v)
 |_,_,_,.nil=>.nil
 |_,_,0,.cons _ t=>.cons r t
 |_,_,i+1,.cons q t=>.cons q (TN.set r i t)
theorem TN.dropLast(h:TN K W ds vs):TN K W ds.dropLast vs.dropLast:=by
 rw[List.dropLast_eq_take,List.dropLast_eq_take,h.length];exact h.take _
theorem TN.rep(h:TN K W ds vs):∀n,TN K W (List.replicate n ds).flatten (List.replicate n vs).flatten
 |0=>.nil
 |n+1=>by simp only[Ru,RU];exact h.append (TN.rep h n)
end
section
variable {K:Frag} {W:Wd}
def Wd.lay(W:Wd)(p:Addr)(o:HO):Wd:={W with H:=upd W.H p o}
theorem NA(ok:Ok K W)(h:W.H p=none):¬RL W p:=fun⟨k,o,_,ha⟩=>ok.rs p (Rq ha) h
theorem BH(ok:Ok K W)(h:W.H p=none):¬W.hid p:=fun z=>(ok.hd p z).1 h
theorem Im(ok:Ok K W){p:Addr}(h:W.H p=none):¬mR W p:=fun z=>z.elim (NA ok h) (BH ok h)
theorem eL{p:Addr}{o:HO}(h:W.H p=none):Step W (W.lay p o) where
 ρ _ _ h:=h
 live _ h:=.inl h
 keep a u e _:=by show upd W.H p o a=_;rw[dg (fk e h)];exact e
 hid:=rfl
 still a n:=by
  show upd W.H p o a≠none;by_cases e:a=p
  .subst e;rw[eC];simp
  .rw[dg e];exact n
theorem fE(ok:Ok K W)(h:W.H p=none):Ok K (W.lay p o) where
 len:=ok.len
 nd:=ok.nd
 rs a m:=(eL h).still a (ok.rs a m)
 at_ k u e:=by
  obtain⟨a,ho,h1,h2,h3⟩:=ok.at_ k u e;refine(⟨a,ho,h1,?_,h3.step ok (eL h)⟩);show upd W.H p o a=_;rw[dg (fk h2 h)];exact h2
 hd0 a z:=⟨(eL h).still a (ok.hd a z).1,(ok.hd0 a z).2⟩
theorem Fq(ok:Ok K W){p:Addr}{o:HO}(h:W.H p=none):¬mR (W.lay p o) p:=Im ok h
theorem ni(ok:Ok K W)(h:W.H p=none)(r:TN K W ds vs):DR K (W.lay p (.lst vs)) (.lst ds) (.ref p):=
 .lst eC (Fq ok h) (r.step ok (eL h))
theorem j0(ok:Ok K W)(h:W.H p=none)(r:TN K W ds vs):DR K (W.lay p (.tup vs)) (.tup ds) (.ref p):=
 .tup eC (r.step ok (eL h))
def Wd.new(W:Wd)(p:Addr)(o:HO)(x:Z7):Wd:={W with H:=upd W.H p o,ρ:=W.ρ++[p],L:=W.L++[some x]}
theorem pw{J:Type}{l:List J}{x y:J}{k:Nat}(h:(l++[x])[k]?=some y):l[k]?=some y\/(k=l.length/\y=x):=by
 by_cases hk:k<l.length
 .rw[Qe hk] at h;exact .inl h
 .rw[QD (by omega)] at h;have:k - l.length=0:=by
   cases e:k - l.length with
   |zero=>rfl
   |succ n=>rw[e] at h;simp at h
  rw[this] at h;simp at h;exact .inr ⟨by omega,h.symm⟩
theorem D7(ok:Ok K W){p a:Addr}{o:HO}{x:Z7}(h:RL (W.new p o x) a):RL W a\/a=p:=by
 obtain⟨k,u,h1,h2⟩:=h;rcases pw h1 with z|⟨e,_⟩
 .rcases pw h2 with y|⟨e,y⟩
  .exact .inl ⟨k,u,z,y⟩
  .have:=(P5.mp z).1;rw[e,ok.len] at this;omega
 .rcases pw h2 with y|⟨_,y⟩
  .have:=(P5.mp y).1;rw[e,←ok.len] at this;omega
  .exact .inr y
theorem gJ(ok:Ok K W){p:Addr}{o:HO}{x:Z7}(h:W.H p=none):Step W (W.new p o x) where
 ρ k a e:=by
  show(W.ρ++[p])[k]?=_;rw[Qe (P5.mp e).1];exact e
 live a z:=by
  rcases D7 ok z with z|rfl
  .exact .inl z
  .exact .inr h
 keep a u e _:=by show upd W.H p o a=_;rw[dg (fk e h)];exact e
 hid:=rfl
 still a n:=by
  show upd W.H p o a≠none;by_cases e:a=p
  .subst e;rw[eC];simp
  .rw[dg e];exact n
theorem ka(ok:Ok K W){p:Addr}{o:HO}{x:Z7}(h:W.H p=none)(r:OR K W p x o):Ok K (W.new p o x) where
 len:=by show(W.ρ++[p]).length=(W.L++[some x]).length;simp[ok.len]
 nd:=by
  show(W.ρ++[p]).Nodup;rw[Rr];refine⟨ok.nd,by simp,fun a ha b hb e=>?_⟩;simp at hb;subst hb e;exact ok.rs _ ha h
 rs a m:=by
  rcases Qr.mp m with m|m
  .exact(gJ ok h).still a (ok.rs a m)
  .simp at m;subst m;show upd W.H a o a≠none;rw[eC];simp
 at_ k u e:=by
  rcases pw e with e|⟨e,y⟩
  .obtain⟨a,ho,h1,h2,h3⟩:=ok.at_ k u e;refine⟨a,ho,(gJ ok h).ρ k a h1,?_,h3.step ok (gJ ok h)⟩;show upd W.H p o a=_;rw[dg (fk h2 h)];exact h2
  .cases y;rename_i hk;refine⟨p,o,?_,eC,r.step ok (gJ ok h)⟩;show(W.ρ++[p])[k]?=_;rw[hk,←ok.len];simp
 hd0 a z:=by
  refine⟨(gJ ok h).still a (ok.hd a z).1,fun q=>?_⟩;have q:a∈W.ρ++[p]:=q;rcases Qr.mp q with q|q
  .exact(ok.hd0 a z).2 q
  .simp at q;subst q;exact(ok.hd a z).1 h
theorem jS(ok:Ok K W):DR K (W.new p o x) (.ref W.L.length) (.ref p):=by
 refine .ref ?_;show(W.ρ++[p])[W.L.length]?=_;rw[←ok.len];simp
def Wd.put(W:Wd)(k:Nat)(a:Addr)(o:HO)(x:Z7):Wd:={W with H:=upd W.H a o,L:=W.L.set k (some x)}
theorem OG(hk:W.L[k]?=some (some y)):RL (W.put k a o x) b↔RL W b:=by
 have hlt:=(P5.mp hk).1;constructor
 .rintro⟨j,u,h1,h2⟩;have h1:(W.L.set k (some x))[j]?=some (some u):=h1;by_cases e:j=k
  .subst e;exact⟨j,y,hk,h2⟩
  .rw[QP (Ne.symm e)] at h1;exact⟨j,u,h1,h2⟩
 .rintro⟨j,u,h1,h2⟩;by_cases e:j=k
  .subst e;exact⟨j,x,by show(W.L.set j (some x))[j]?=_;simp[hlt],h2⟩
  .exact⟨j,u,by show(W.L.set k (some x))[j]?=_;rw[QP (Ne.symm e)];exact h1,h2⟩
theorem jv(hk:W.L[k]?=some (some y))(ha:W.ρ[k]?=some a):Step W (W.put k a o x) where
 ρ _ _ h:=h
 live b z:=.inl ((OG hk).mp z)
 keep b u e n:=by
  have hne:b≠a:=fun z=>n (by rw[z];exact⟨k,y,hk,ha⟩);show upd W.H a o b=_;rw[dg hne];exact e
 hid:=rfl
 still b n:=by
  show upd W.H a o b≠none;by_cases e:b=a
  .subst e;rw[eC];simp
  .rw[dg e];exact n
theorem IT{ps:List Addr}(h:ps.Nodup){i j:Nat}{p:Addr}(a:ps[i]?=some p)(b:ps[j]?=some p):i=j:=Au h a b
theorem pX(ok:Ok K W)(hk:W.L[k]?=some (some y))(ha:W.ρ[k]?=some a)(r:OR K W a x o):Ok K (W.put k a o x) where
 len:=by show W.ρ.length=(W.L.set k (some x)).length;simp[ok.len]
 nd:=ok.nd
 rs b m:=(jv hk ha).still b (ok.rs b m)
 at_ j u e:=by
  have e:(W.L.set k (some x))[j]?=some (some u):=e;by_cases z:j=k
  .subst z;have hlt:=(P5.mp hk).1;simp[hlt] at e;subst e;exact⟨a,o,ha,eC,r.step ok (jv hk ha)⟩
  .rw[QP (Ne.symm z)] at e;obtain⟨b,ho,h1,h2,h3⟩:=ok.at_ j u e;refine(⟨b,ho,h1,?_,h3.step ok (jv hk ha)⟩);have hne:b≠a:=fun q=>z (Au ok.nd h1 (by rw[q];exact ha));show upd W.H a o b=_;rw[dg hne];exact h2
 hd0 b z:=⟨(jv hk ha).still b (ok.hd b z).1,(ok.hd0 b z).2⟩
def Wd.hide(W:Wd)(p:Addr)(o:HO):Wd:={W with H:=upd W.H p o,hid:=fun a=>a=p\/W.hid a}
end
abbrev EV:=G->M->Fr
abbrev BV:=G->M->Option (Bool×M)
abbrev LV:=G->M->Option (List D×M)
inductive Out where
 |nx|bk|ct|rt (d:D)
abbrev SV:=G->M->Option (Out×G×M)
section
variable (K:Frag)
def tD(ev:EV):TE:=fun O H Q=>∃(W:Wd) (B:G) (d:D) (Z5:M),W.H=H/\Ok K W/\TQ K W B O/\ev B W.L=some (d,Z5)/\∀v W',W'.L=Z5->Ok K W'->Step W W'->DR K W' d v->Q v W'.H
def Tq(ev:BV):TT:=fun O H Q=>∃(W:Wd) (B:G) (b:Bool) (Z5:M),W.H=H/\Ok K W/\TQ K W B O/\ev B W.L=some (b,Z5)/\∀W',W'.L=Z5->Ok K W'->Step W W'->Q b W'.H
def Ve(ev:LV):TA:=fun O H Q=>∃(W:Wd) (B:G) (ds:List D) (Z5:M),W.H=H/\Ok K W/\TQ K W B O/\ev B W.L=some (ds,Z5)/\∀vs W',W'.L=Z5->Ok K W'->Step W W'->TN K W' ds vs->Q vs W'.H
def fin(D:Ends)(W':Wd)(ZZ:St):Out->Prop
 | .nx=>D.nx ZZ W'.H
 | .bk=>D.bk ZZ W'.H
 | .ct=>D.ct ZZ W'.H
 | .rt d=>∀v,DR K W' d v->D.rt v W'.H
def Ue(es:SV):TS:=fun D O H=>∃(W:Wd) (B:G) (out:Out) (ZX:G) (Z5:M),W.H=H/\Ok K W/\TQ K W B O/\es B W.L=some (out,ZX,Z5)/\∀W' ZZ,W'.L=Z5->Ok K W'->Step W W'->TQ K W' ZX ZZ->fin K D W' ZZ out
end
section
variable {X:Cx} {e:Expr}
theorem du(h:PE X e t)(hi:∀O H Q,t' O H Q->t O H Q):PE X e t':=fun pins s O H Q I hw=>h pins s O H Q I (hi _ _ _ hw)
theorem iq(h:PT X e t)(hi:∀O H Q,t' O H Q->t O H Q):PT X e t':=fun pins s O H Q I hw=>h pins s O H Q I (hi _ _ _ hw)
theorem zw(h:PW X e t)(hi:∀O H Q,t' O H Q->t O H Q):PW X e t':=fun wh pins s O H Q I hw=>h wh pins s O H Q I (hi _ _ _ hw)
theorem qh(h:PA X es t)(hi:∀O H Q,t' O H Q->t O H Q):PA X es t':=fun pos pins s O H Q I hw=>h pos pins s O H Q I (hi _ _ _ hw)
theorem fb(h:PS X st t)(hi:∀D O H,t' D O H->t D O H):PS X st t':=fun pins s O H D I hw=>h pins s O H D I (hi _ _ _ hw)
theorem m9(h:UT X st t)(hi:∀D O H,t' D O H->t D O H):UT X st t':=fun pins s O H D I hw=>h pins s O H D I (hi _ _ _ hw)
end
def UP{J β:Type}{x:Option J}{f:J->Option β}{b:β}(h:x.bind f=some b):∃a,x=some a/\f a=some b:=Option.bind_eq_some_iff.mp h
def UC{J:Type}{p:Wd->Prop}{q:Wd->G->Prop}{r s:Wd->G->J->M->Prop}{Z:Prop}{H:Hp}(h:∃(W:Wd) (B:G) (d:J) (Z5:M),W.H=H/\p W/\q W B/\r W B d Z5/\s W B d Z5)(k:∀W B d Z5,W.H=H->p W->q W B->r W B d Z5->s W B d Z5->Z):Z:=by
 obtain⟨W,B,d,Z5,rfl,a,b,c,e⟩:=h;exact(k W B d Z5 rfl a b c e)
def Ui{J β:Type}{p:Wd->Prop}{q:Wd->G->Prop}{r s:Wd->G->J->β->M->Prop}{Z:Prop}{H:Hp}(h:∃(W:Wd) (B:G) (d:J) (b:β) (Z5:M),W.H=H/\p W/\q W B/\r W B d b Z5/\s W B d b Z5)(k:∀W B d b Z5,W.H=H->p W->q W B->r W B d b Z5->s W B d b Z5->Z):Z:=by
 obtain⟨W,B,d,x,Z5,rfl,a,b,c,e⟩:=h;exact(k W B d x Z5 rfl a b c e)
def cS{J β:Type}{x:Option J}{f:J->Option β}{b:β}{Z:Prop}(h:x.bind f=some b)(k:∀a,x=some a->f a=some b->Z):Z:=by
 obtain⟨a,h1,h2⟩:=UP h;exact(k a h1 h2)
def dC(L:M):D->Option (List D)
 | .lst ds=>some ds
 | .scr ds=>some ds
 | .ref k=>match L[k]? with
  |some (some (.lst ds))=>some ds
  |_=>none
 |_=>none
def kj(L:M):D->Option (List D)
 | .lst ds=>some ds
 | .ref k=>match L[k]? with
  |some (some (.lst ds))=>some ds
  |_=>none
 |_=>none
def im:D->Option (List D)
 | .tup ds=>some ds
 | .gt ds=>some ds
 |_=>none
section
variable {K:Frag} {W:Wd} {d:D} {ds:List D} {v:V}
theorem lH(ok:Ok K W)(h:W.L[k]?=some (some (.lst ds)))(r:DR K W (.ref k) v):∃a vs,v=.ref a/\W.ρ[k]?=some a/\W.H a=some (.lst vs)/\TN K W ds vs:=by
 cases r with
 |ref ha=>
  obtain⟨a',ho,h1,h2,vs,rfl,r⟩:=ok.at_ k _ h;rw[ha] at h1;cases h1;exact(⟨_,vs,rfl,ha,h2,r⟩)
theorem ur(ok:Ok K W)(h:kj W.L d=some ds)(r:DR K W d v):∃a vs,v=.ref a/\W.H a=some (.lst vs)/\TN K W ds vs:=by
 cases d with
 |lst xs=>
  cases h;cases r with
  |lst r n h=>exact⟨_,_,rfl,r,h⟩
 |ref k=>
  simp only[kj] at h;split at h
  .rename_i xs hk;cases h;obtain⟨a,vs,e,_,e2,e3⟩:=lH ok hk r;exact(⟨a,vs,e,e2,e3⟩)
  .cases h
 |_=>cases h
theorem iy(ok:Ok K W)(h:dC W.L d=some ds)(r:DR K W d v):∃a vs,v=.ref a/\T9 K W.H a vs/\TN K W ds vs:=by
 cases d with
 |lst xs=>
  cases h;cases r with
  |lst r n h=>exact⟨_,_,rfl,T9.of r,h⟩
 |scr xs=>
  cases h;cases r with
  |scr r h=>exact⟨_,_,rfl,r.seq,h⟩
 |ref k=>
  simp only[dC] at h;split at h
  .rename_i xs hk;cases h;obtain⟨a,vs,e,_,e2,e3⟩:=lH ok hk r;exact(⟨a,vs,e,T9.of e2,e3⟩)
  .cases h
 |_=>cases h
theorem i4(h:im d=some ds)(r:DR K W d v):∃a vs,v=.ref a/\Uo K W.H a vs/\TN K W ds vs:=by
 cases d with
 |tup xs=>
  cases h;cases r with
  |tup r h=>exact⟨_,_,rfl,Uo.of r,h⟩
 |gt xs=>
  cases h;cases r with
  |gt r h=>exact⟨_,_,rfl,r,h⟩
 |_=>cases h
theorem yq(r:TN K W ds vs)(h:UZ ds i=some d):∃v,UZ vs i=some v/\DR K W d v:=by
 unfold UZ at h⊢;refine cS h fun j h1 h2=>?_;rw[r.length] at h1;obtain⟨v,e,q⟩:=r.get h2;exact⟨v,by rw[h1];exact e,q⟩
end
def be(i:Nat):EV:=fun B L=>match B[i]? with
 |some (some d)=>some (d,L)
 |_=>none
def vC(d:D):EV:=fun _ L=>some (d,L)
def v2(f:D->D->M->Fr)(ea eb:EV):EV:=fun B L=>(ea B L).bind fun p=>(eb B p.2).bind fun q=>f p.1 q.1 q.2
def v1(f:D->M->Fr)(ea:EV):EV:=fun B L=>(ea B L).bind fun p=>f p.1 p.2
def Ux(K:Frag)(r:R2)(f:D->D->M->Fr):Prop:=∀(W:Wd) (x y:V) (d e z:D) (Z5:M) (Q:VK),Ok K W->DR K W d x->DR K W e y->f d e W.L=some (z,Z5)->
 (∀v W',W'.L=Z5->Ok K W'->Step W W'->DR K W' z v->Q v W'.H)->r x y W.H Q
def R1A(K:Frag)(r:V->Hp->VK->Prop)(f:D->M->Fr):Prop:=∀(W:Wd) (x:V) (d z:D) (Z5:M) (Q:VK),Ok K W->DR K W d x->f d W.L=some (z,Z5)->
 (∀v W',W'.L=Z5->Ok K W'->Step W W'->DR K W' z v->Q v W'.H)->r x W.H Q
def vT(ev:EV):BV:=fun B L=>(ev B L).bind fun p=>match p.1 with
 | .bl b=>some (b,p.2)
 |_=>none
section
variable {X:Cx} {K:Frag} {a b:Expr} {ea eb:EV} {pos:Pos}
theorem cP(i:Nat)(hN:X.N[i]?=some x:=by rfl)(hv:Ο X.env.scope x:=by first|exact Or.inl rfl|exact Or.inr (Or.inl rfl)|exact Or.inr (Or.inr rfl))(hd:(x==("__debug__":Str))=false:=by decide)
  (V2:(x==("__classdict__":Str))=false:=by decide):PE X (.Name x pos) (tD K (be i)):=du (za hN hv hd V2) fun O H Q h=>by
 refine UC h fun W B d Z5 eH ok en e q=>?_;subst eH;unfold be at e;split at e
 .rename_i d' hd;cases e;obtain⟨v,hv,r⟩:=en.at_ i _ hd;exact(⟨v,hv,q v W rfl ok .refl r⟩)
 .cases e
theorem mD{d:D}{v:V}(h:∀W,DR K W d v):∀O H Q,tD K (vC d) O H Q->tC v O H Q:=fun O H Q hh=>by
 obtain⟨W,B,d,Z5,rfl,ok,en,e,q⟩:=hh;cases e;exact(q v W rfl ok .refl (h W))
theorem cY{i j}:PE X (.Constant (.int i) j pos) (tD K (vC (.int i))):=du DC (mD fun _=>.int i)
theorem gF{b j}:PE X (.Constant (.bool b) j pos) (tD K (vC (.bl b))):=du C2 (mD fun _=>.bl b)
theorem iP{j}:PE X (.Constant .none j pos) (tD K (vC .non)):=du HN (mD fun _=>.non)
theorem i0{x j}:PE X (.Constant (.str x) j pos) (tD K (vC (.str x))):=du zg (mD fun _=>.str x)
theorem nV{x:Str}{d:D}{v:V}{u:Value}(hm:X.mg x=some u)(r:RelV v u)(h:∀W,DR K W d v)(hg:Gl X x:=by rfl)(hd:(x==("__debug__":Str))=false:=by decide):PE X (.Name x pos) (tD K (vC d)):=du (Iv hg hm r hd) (mD h)
theorem jR(ra:Ux K r f):∀O H Q,tD K (v2 f ea eb) O H Q->X7 r (tD K ea) (tD K eb) O H Q:=fun O H Q h=>by
 refine UC h fun W B d Z5 eH ok en e q=>?_;subst eH;refine cS e fun p1 e1 e=>?_;refine cS e fun p2 e2 e=>?_;refine⟨W,B,p1.1,p1.2,rfl,ok,en,e1,fun x W1 Z2 ok1 s1 r1=>⟨W1,B,p2.1,p2.2,rfl,ok1,en.step ok s1,by rw[Z2];exact e2,fun y W2 ZU ok2 s2 r2=>?_⟩⟩;exact ra W2 x y _ _ _ _ Q ok2 (r1.step ok1 s2) r2 (by rw[ZU];exact e) fun v W3 ZR T5 s3 r3=>q v W3 ZR T5 ((s1.trans s2).trans s3) r3
theorem jt{r:V->Hp->VK->Prop}{f:D->M->Fr}(ra:R1A K r f):∀O H Q,tD K (v1 f ea) O H Q->(fun O H Q=>tD K ea O H fun x H1=>r x H1 Q:TE) O H Q:=fun O H Q h=>by
 refine UC h fun W B d Z5 eH ok en e q=>?_;subst eH;refine cS e fun p1 e1 e=>?_;refine⟨W,B,p1.1,p1.2,rfl,ok,en,e1,fun x W1 Z2 ok1 s1 r1=>?_⟩;exact ra W1 x _ _ _ Q ok1 r1 (by rw[Z2];exact e) fun v W3 ZR T5 s3 r3=>q v W3 ZR T5 (s1.trans s3) r3
theorem mv(ho:UU X (binaryOp op) r)(ra:Ux K r f)(ha:PE X a (tD K ea))(hb:PE X b (tD K eb)):PE X (.BinOp a op b pos) (tD K (v2 f ea eb)):=du (DE ho ha hb) (jR ra)
theorem nB(ho:UU X (compareOp op) r)(ra:Ux K r f)(ha:PE X a (tD K ea))(hb:PE X b (tD K eb))(hm:behindInMarks op b=false):PE X (.Compare a [op] [b] pos) (tD K (v2 f ea eb)):=du (LG ho ha hb hm) (jR ra)
theorem og(h:∀O H Q,tD K ea O H Q->t O H Q):∀O H Q,Tq K (vT ea) O H Q->o7 t O H Q:=fun O H Q hh=>by
 obtain⟨W,B,k,Z5,rfl,ok,en,e,q⟩:=hh;refine cS e fun p1 e1 e=>?_;refine(h O _ _ ⟨W,B,p1.1,p1.2,rfl,ok,en,e1,fun x W1 Z2 ok1 s1 r1=>?_⟩);split at e
 .rename_i k' hk;cases e;rw[hk] at r1;cases r1;exact⟨_,rfl,q W1 Z2 ok1 s1⟩
 .cases e
theorem kQ(ho:UU X (compareOp op) r)(ra:Ux K r f)(ha:PE X a (tD K ea))(hb:PE X b (tD K eb))(hm:behindInMarks op b=false):PT X (.Compare a [op] [b] pos) (Tq K (vT (v2 f ea eb))):=iq (zr ho ha hb hm) (og (jR ra))
end
def Vt(g:Int->Int->D):D->D->M->Fr
 | .int i,.int j,L=>some (g i j,L)
 |_,_,_=>none
def fI(C:Int->Int->Prop) [∀i j,Decidable (C i j)](g:Int->Int->D):D->D->M->Fr
 | .int i,.int j,L=>if C i j then some (g i j,L) else none
 |_,_,_=>none
section
variable {K:Frag}
theorem iC(hh:∀W i j,DR K W (h i j) (g i j)):Ux K (XC g) (Vt h):=by
 intro W x y d e z Z5 Q ok r1 r2 hf q;unfold Vt at hf;split at hf
 .cases hf;cases r1;cases r2;exact⟨_,_,rfl,rfl,q _ W rfl ok .refl (hh W _ _)⟩
 .cases hf
theorem oy [∀i j,Decidable (C i j)](hh:∀W i j,DR K W (h i j) (g i j)):Ux K (rI C g) (fI C h):=by
 intro W x y d e z Z5 Q ok r1 r2 hf q;unfold fI at hf;split at hf
 .split at hf
  .rename_i hc;cases hf;cases r1;cases r2;exact⟨_,_,rfl,rfl,hc,q _ W rfl ok .refl (hh W _ _)⟩
  .cases hf
 .cases hf
end
noncomputable instance{i j:Int}:Decidable (Ul i j):=by unfold Ul;infer_instance
noncomputable instance{i j:Int}:Decidable (jf i j):=by unfold jf;infer_instance
def kh(_ j:Int):Prop:=0<j/\j<2^200
def ik(_ j:Int):Prop:=0<j
noncomputable instance{i j:Int}:Decidable (kh i j):=by unfold kh;infer_instance
noncomputable instance{i j:Int}:Decidable (ik i j):=by unfold ik;infer_instance
section
variable {X:Cx} {K:Frag} {a b c:Expr} {ea eb:EV} {pos:Pos}
abbrev nO:=Vt fun i j=>.int (i+j)
abbrev jh:=Vt fun i j=>.int (i - j)
abbrev vD:=fI kh fun i j=>.int (i/j)
abbrev mJ:=fI ik fun i j=>.int (i%j)
abbrev mj:=fI jf fun i j=>.int (i^j.toNat)
abbrev Vq:=Vt fun i j=>.bl (decide (i<j))
abbrev WV:=Vt fun i j=>.bl (decide (i<=j))
abbrev Vu:=Vt fun i j=>.bl (decide (j<i))
abbrev fGe:=Vt fun i j=>.bl (decide (j<=i))
theorem nr(ha:PE X a (tD K ea))(hb:PE X b (tD K eb)):PE X (.BinOp a .Sub b pos) (tD K (v2 jh ea eb)):=mv Hw (iC fun _ _ _=>.int _) ha hb
theorem Bk(ha:PE X a (tD K ea))(hb:PE X b (tD K eb)):PE X (.BinOp a .FloorDiv b pos) (tD K (v2 vD ea eb)):=mv En (oy (C:=kh) fun _ _ _=>.int _) ha hb
theorem qd(ha:PE X a (tD K ea))(hb:PE X b (tD K eb)):PE X (.BinOp a .Mod b pos) (tD K (v2 mJ ea eb)):=mv EO (oy (C:=ik) fun _ _ _=>.int _) ha hb
theorem qr(ha:PE X a (tD K ea))(hb:PE X b (tD K eb)):PE X (.BinOp a .Pow b pos) (tD K (v2 mj ea eb)):=mv Oj (oy fun _ _ _=>.int _) ha hb
theorem wz(ha:PE X a (tD K ea))(hb:PE X b (tD K eb)):PE X (.Compare a [.LtE] [b] pos) (tD K (v2 WV ea eb)):=nB qV (iC fun _ _ _=>.bl _) ha hb (iu _)
theorem rT(ha:PE X a (tD K ea))(hb:PE X b (tD K eb)):PE X (.Compare a [.Gt] [b] pos) (tD K (v2 Vu ea eb)):=nB yI (iC fun _ _ _=>.bl _) ha hb (iu _)
theorem tY(ha:PE X a (tD K ea))(hb:PE X b (tD K eb)):PT X (.Compare a [.Lt] [b] pos) (Tq K (vT (v2 Vq ea eb))):=kQ we (iC fun _ _ _=>.bl _) ha hb (iu _)
theorem ng(ha:PE X a (tD K ea))(hb:PE X b (tD K eb)):PT X (.Compare a [.Gt] [b] pos) (Tq K (vT (v2 Vu ea eb))):=kQ yI (iC fun _ _ _=>.bl _) ha hb (iu _)
def gR:D->M->Fr
 | .int i,L=>some (.int (-i),L)
 |_,_=>none
theorem p8(ha:PE X a (tD K ea)):PE X (.UnaryOp .USub a pos) (tD K (v1 gR ea)):=du (Nu LL ha) (jt (by
 intro W x d z Z5 Q ok r1 hf q;unfold gR at hf;split at hf
 .cases hf;cases r1;exact⟨_,rfl,q _ W rfl ok .refl (.int _)⟩
 .cases hf))
def iK(t u:BV):BV:=fun B L=>(t B L).bind fun p=>if p.1=true then u B p.2 else some (false,p.2)
def XO(t u:BV):BV:=fun B L=>(t B L).bind fun p=>if p.1=true then some (true,p.2) else u B p.2
def gA(t:BV):BV:=fun B L=>(t B L).bind fun p=>some (!p.1,p.2)
variable {ba bb:BV} {di:List Expr}
theorem NH:∀O H Q,Tq K (iK ba bb) O H Q->Bg (Tq K ba) (Tq K bb) O H Q:=fun O H Q h=>by
 refine UC h fun W B k Z5 eH ok en e q=>?_;subst eH;refine cS e fun p1 e1 e=>?_;refine⟨W,B,p1.1,p1.2,rfl,ok,en,e1,fun W1 Z2 ok1 s1=>?_⟩;split at e
 .rename_i hp;rw[if_pos hp];exact⟨W1,B,k,Z5,rfl,ok1,en.step ok s1,by rw[Z2];exact e,fun W2 ZU ok2 s2=>q W2 ZU ok2 (s1.trans s2)⟩
 .rename_i hp;cases e;rw[if_neg hp];exact q W1 Z2 ok1 s1
theorem MU:∀O H Q,Tq K (XO ba bb) O H Q->tOr (Tq K ba) (Tq K bb) O H Q:=fun O H Q h=>by
 refine UC h fun W B k Z5 eH ok en e q=>?_;subst eH;refine cS e fun p1 e1 e=>?_;refine⟨W,B,p1.1,p1.2,rfl,ok,en,e1,fun W1 Z2 ok1 s1=>?_⟩;split at e
 .rename_i hp;cases e;rw[if_pos hp];exact q W1 Z2 ok1 s1
 .rename_i hp;rw[if_neg hp];exact⟨W1,B,k,Z5,rfl,ok1,en.step ok s1,by rw[Z2];exact e,fun W2 ZU ok2 s2=>q W2 ZU ok2 (s1.trans s2)⟩
theorem w6(ha:PT X a (Tq K ba)):PW X (.BoolOp .And [a] pos) (Tq K ba):=Po ha
theorem pf(ha:PT X a (Tq K ba)):PW X (.BoolOp .Or [a] pos) (Tq K ba):=MN ha
theorem xF(ha:PT X a (Tq K ba))(hb:PW X (.BoolOp .And (b::di) pos) (Tq K bb)):PW X (.BoolOp .And (a::b::di) pos) (Tq K (iK ba bb)):=zw (LC ha hb) NH
theorem qD(ha:PT X a (Tq K ba))(hb:PW X (.BoolOp .Or (b::di) pos) (Tq K bb)):PW X (.BoolOp .Or (a::b::di) pos) (Tq K (XO ba bb)):=zw (OA ha hb) MU
theorem kJ(ha:PT X a (Tq K ba)):PT X (.UnaryOp .Not a pos) (Tq K (gA ba)):=iq (xf ha) fun O H Q h=>by
 refine UC h fun W B k Z5 eH ok en e q=>?_;subst eH;refine cS e fun p1 e1 e=>?_;cases e;exact⟨W,B,p1.1,p1.2,rfl,ok,en,e1,fun W1 Z2 ok1 s1=>q W1 Z2 ok1 s1⟩
def Wa(t:BV)(ea eb:EV):EV:=fun B L=>(t B L).bind fun p=>if p.1=true then ea B p.2 else eb B p.2
theorem uY(hc:PT X c (Tq K ba))(ha:PE X a (tD K ea))(hb:PE X b (tD K eb)):PE X (.IfExp c a b pos) (tD K (Wa ba ea eb)):=du (KA hc ha hb) fun O H Q h=>by
 refine UC h fun W B d Z5 eH ok en e q=>?_;subst eH;refine cS e fun p1 e1 e=>?_;refine⟨W,B,p1.1,p1.2,rfl,ok,en,e1,fun W1 Z2 ok1 s1=>?_⟩;split at e
 .rename_i hp;rw[if_pos hp];exact⟨W1,B,d,Z5,rfl,ok1,en.step ok s1,by rw[Z2];exact e,fun v W2 ZU ok2 s2 r2=>q v W2 ZU ok2 (s1.trans s2) r2⟩
 .rename_i hp;rw[if_neg hp];exact⟨W1,B,d,Z5,rfl,ok1,en.step ok s1,by rw[Z2];exact e,fun v W2 ZU ok2 s2 r2=>q v W2 ZU ok2 (s1.trans s2) r2⟩
def vAnd(ea eb:EV):EV:=fun B L=>(ea B L).bind fun p=>match p.1 with
 | .bl true=>eb B p.2
 | .bl false=>some (.bl false,p.2)
 |_=>none
def Xm(ea eb:EV):EV:=fun B L=>(ea B L).bind fun p=>match p.1 with
 | .bl true=>some (.bl true,p.2)
 | .bl false=>eb B p.2
 |_=>none
def AQ:D->M->Fr
 | .bl b,L=>some (.bl (!b),L)
 |_,_=>none
theorem va{op}(h:PE X a (tD K ea)):PE X (.BoolOp op [a] pos) (tD K ea):=CP h
theorem tS(ha:PE X a (tD K ea))(hb:PE X (.BoolOp .Or (b::di) pos) (tD K eb)):PE X (.BoolOp .Or (a::b::di) pos) (tD K (Xm ea eb)):=du (Ek ha hb) fun O H Q h=>by
 refine UC h fun W B d Z5 eH ok en e q=>?_;subst eH;refine cS e fun p1 e1 e=>?_;refine⟨W,B,p1.1,p1.2,rfl,ok,en,e1,fun x W1 Z2 ok1 s1 r1=>?_⟩;split at e
 .rename_i hp;rw[hp] at r1;cases r1;cases e;exact⟨true,rfl,ym (q _ W1 Z2 ok1 s1 (.bl _))⟩
 .rename_i hp;rw[hp] at r1;cases r1;exact⟨false,rfl,yy ⟨W1,B,d,Z5,rfl,ok1,en.step ok s1,by rw[Z2];exact e,fun v W2 ZU ok2 s2 r2=>q v W2 ZU ok2 (s1.trans s2) r2⟩⟩
 .cases e
end
def dQ{J β:Type}(f:J->Option β):List J->Option (List β)
 | []=>some []
 |x::r=>(f x).bind fun y=>(dQ f r).bind fun ys=>some (y::ys)
section
variable {X:Cx} {K:Frag} {a b e:Expr} {ea eb:EV} {pos p:Pos} {es:List Expr} {el:LV}
def cU:LV:=fun _ L=>some ([],L)
def cQ(ea:EV)(el:LV):LV:=fun B L=>(ea B L).bind fun p=>(el B p.2).bind fun q=>some (p.1::q.1,q.2)
theorem cW:PA X [] (Ve K cU):=qh eZ fun O H Q h=>by
 refine UC h fun W B ds Z5 eH ok en e q=>?_;subst eH;cases e;exact q [] W rfl ok .refl .nil
theorem E2:∀O H Q,Ve K (cQ ea el) O H Q->gq (tD K ea) (Ve K el) O H Q:=fun O H Q h=>by
 refine UC h fun W B ds Z5 eH ok en e q=>?_;subst eH;refine cS e fun p1 e1 e=>?_;refine cS e fun p2 e2 e=>?_;cases e;exact⟨W,B,p1.1,p1.2,rfl,ok,en,e1,fun x W1 Z2 ok1 s1 r1=>⟨W1,B,p2.1,p2.2,rfl,ok1,en.step ok s1,by rw[Z2];exact e2,fun vs W2 ZU ok2 s2 r2=>q _ W2 ZU ok2 (s1.trans s2) (.cons (r1.step ok1 s2) r2)⟩⟩
theorem cT(ha:PE X e (tD K ea))(hr:PA X es (Ve K el))(hs:starEach (e::es) X.env=(false,eval e X.env)::starEach es X.env:=by rfl):PA X (e::es) (Ve K (cQ ea el)):=qh (eJ ha hr hs) E2
def ϭ(K:Frag)(r:List V->Hp->VK->Prop)(f:C0):Prop:=∀(W:Wd) (xs:List V) (ds:List D) (z:D) (Z5:M) (Q:VK),Ok K W->TN K W ds xs->f ds W.L=some (z,Z5)->
 (∀v W',W'.L=Z5->Ok K W'->Step W W'->DR K W' z v->Q v W'.H)->r xs W.H Q
def vL(f:C0)(el:LV):EV:=fun B L=>(el B L).bind fun p=>f p.1 p.2
theorem oN(ra:ϭ K r f):∀O H Q,tD K (vL f el) O H Q->(fun O H Q=>Ve K el O H fun vs H1=>r vs H1 Q:TE) O H Q:=fun O H Q h=>by
 refine UC h fun W B d Z5 eH ok en e q=>?_;subst eH;refine cS e fun p1 e1 e=>?_;exact⟨W,B,p1.1,p1.2,rfl,ok,en,e1,fun vs W1 Z2 ok1 s1 r1=>ra W1 vs _ _ _ Q ok1 r1 (by rw[Z2];exact e) fun v W3 ZR T5 s3 r3=>q v W3 ZR T5 (s1.trans s3) r3⟩
def fm(ds:List D)(L:M):Fr:=if ds.length<=1000 then some (.lst ds,L) else none
def eO(ds:List D)(L:M):Fr:=if ds.length<=1000 then some (.tup ds,L) else none
def fS(ds:List D)(L:M):Fr:=if ds.length<=1000 then some (.ref L.length,L++[some (.lst ds)]) else none
theorem Gz:ϭ K (fun xs H1 Q=>xs.length<=sizeLine/\∀p,H1 p=none->Q (.ref p) (upd H1 p (.lst xs))) fm:=by
 intro W xs ds z Z5 Q ok r hf q;unfold fm at hf;split at hf
 .rename_i hl;cases hf;exact⟨il (by rw[←r.length];omega),fun p hp=>q _ (W.lay p (.lst xs)) rfl (fE ok hp) (eL hp) (ni ok hp r)⟩
 .cases hf
theorem LK:ϭ K (fun xs H1 Q=>xs.length<=sizeLine/\∀p,H1 p=none->Q (.ref p) (upd H1 p (.tup xs))) eO:=by
 intro W xs ds z Z5 Q ok r hf q;unfold eO at hf;split at hf
 .rename_i hl;cases hf;exact⟨il (by rw[←r.length];omega),fun p hp=>q _ (W.lay p (.tup xs)) rfl (fE ok hp) (eL hp) (j0 ok hp r)⟩
 .cases hf
theorem IX:ϭ K (fun xs H1 Q=>xs.length<=sizeLine/\∀p,H1 p=none->Q (.ref p) (upd H1 p (.lst xs))) fS:=by
 intro W xs ds z Z5 Q ok r hf q;unfold fS at hf;split at hf
 .rename_i hl;cases hf;exact⟨il (by rw[←r.length];omega),fun p hp=>q _ (W.new p (.lst xs) (.lst ds)) rfl (ka ok hp ⟨xs,rfl,r⟩) (gJ ok hp) (jS ok)⟩
 .cases hf
theorem iF(h:PA X es (Ve K el)):PE X (.List es pos) (tD K (vL fm el)):=du (AI h) (oN Gz)
theorem lY(h:PA X es (Ve K el)):PE X (.List es pos) (tD K (vL fS el)):=du (AI h) (oN IX)
theorem fZ{k}(h:PA X es (Ve K el)):PE X (.Tuple es k pos) (tD K (vL eO el)):=du (Lw h) (oN LK)
def Te(x y:D)(L:M):Fr:=match y with
 | .int i=>match dC L x with
  |some ds=>(UZ ds i).bind fun d=>some (d,L)
  |none=>match im x with
   |some ds=>(UZ ds i).bind fun d=>some (d,L)
   |none=>none
 |_=>none
theorem Ou:Ux K (rIx K) Te:=by
 intro W x y d e z Z5 Q ok r1 r2 hf q;unfold Te at hf;split at hf
 .cases r2;split at hf
  .rename_i ds hd;refine cS hf fun u hu hf=>?_;cases hf;obtain⟨a,vs,rfl,hs,hv⟩:=iy ok hd r1;obtain⟨v,Ut,Vz⟩:=yq hv hu;exact(.inl ⟨a,vs,_,v,rfl,rfl,hs,Ut,q v W rfl ok .refl Vz⟩)
  .split at hf
   .rename_i ds hd;refine cS hf fun u hu hf=>?_;cases hf;obtain⟨a,vs,rfl,hs,hv⟩:=i4 hd r1;obtain⟨v,Ut,Vz⟩:=yq hv hu;exact(.inr (.inl ⟨a,vs,_,v,rfl,rfl,hs,Ut,q v W rfl ok .refl Vz⟩))
   .cases hf
 .cases hf
theorem dw(ha:PE X a (tD K ea))(hb:PE X b (tD K eb))(hs:x4 b:=by exact fun _ _=>rfl)(hK:X.K=K:=by rfl):PE X (.Subscript a b pos) (tD K (v2 Te ea eb)):=by
 subst hK;exact du (FI E8 ha hb hs) (jR Ou)
abbrev OV:=G->M->Option (Option Int×M)
def qp:OV:=fun _ L=>some (none,L)
def wp(ea:EV):OV:=fun B L=>(ea B L).bind fun p=>match p.1 with
 | .int i=>some (some i,p.2)
 |_=>none
def Φ(K:Frag)(ev:OV):TO:=fun O H Q=>∃(W:Wd) (B:G) (b:Option Int) (Z5:M),W.H=H/\Ok K W/\TQ K W B O/\ev B W.L=some (b,Z5)/\∀W',W'.L=Z5->Ok K W'->Step W W'->Q b W'.H
theorem zI(h:PO X o t)(hi:∀O H Q,t' O H Q->t O H Q):PO X o t':=fun pins s O H Q I hw=>h pins s O H Q I (hi _ _ _ hw)
theorem Fx:PO X none (Φ K qp):=zI Jp fun O H Q h=>by
 refine UC h fun W B b Z5 eH ok en e q=>?_;subst eH;cases e;exact q W rfl ok .refl
theorem El(h:PE X e (tD K ea)):PO X (some e) (Φ K (wp ea)):=zI (CV h) fun O H Q h=>by
 refine UC h fun W B b Z5 eH ok en e q=>?_;subst eH;refine cS e fun p1 e1 e=>?_;refine⟨W,B,p1.1,p1.2,rfl,ok,en,e1,fun x W1 Z2 ok1 s1 r1=>?_⟩;split at e
 .rename_i i hi;cases e;rw[hi] at r1;cases r1;exact⟨_,rfl,q W1 Z2 ok1 s1⟩
 .cases e
def iZ(xs:List D)(lo hi:Option Int):List D:=(xs.drop (HT.sIx xs.length 0 lo)).take (HT.sIx xs.length xs.length hi - HT.sIx xs.length 0 lo)
theorem wB(r:TN K W ds vs)(lo hi:Option Int):TN K W (iZ ds lo hi) (hW vs lo hi):=by
 unfold iZ hW;rw[r.length];exact(r.drop _).take _
def X3(x:D)(lo hi:Option Int)(L:M):Fr:=match dC L x with
 |some ds=>some (.lst (iZ ds lo hi),L)
 |none=>match im x with
  |some ds=>if HT.sIx ds.length 0 lo=0/\HT.sIx ds.length ds.length hi=ds.length then none else some (.tup (iZ ds lo hi),L)
  |none=>none
def ϴ(ea:EV)(lo hi:OV):EV:=fun B L=>(ea B L).bind fun p=>(lo B p.2).bind fun l=>(hi B l.2).bind fun h=>X3 p.1 l.1 h.1 h.2
theorem Ca(he:PE X e (tD K ea))(hl:PO X lo (Φ K ol))(hu:PO X hi (Φ K oh))(hK:X.K=K:=by rfl):PE X (.Subscript e (.Slice lo hi none p2) pos) (tD K (ϴ ea ol oh)):=by
 subst hK;refine du (PQ (XT.or We) he hl hu) fun O H Q h=>?_;refine UC h fun W B d Z5 eH ok en e q=>?_;subst eH;refine cS e fun p1 e1 e=>?_;refine cS e fun p2 e2 e=>?_;refine cS e fun p3 e3 e=>?_;refine⟨W,B,p1.1,p1.2,rfl,ok,en,e1,fun x W1 Z2 ok1 s1 r1=>⟨W1,B,p2.1,p2.2,rfl,ok1,en.step ok s1,by rw[Z2];exact e2,fun W2 ZU ok2 s2=>⟨W2,B,p3.1,p3.2,rfl,ok2,(en.step ok s1).step ok1 s2,by rw[ZU];exact e3,fun W3 ZR T5 s3=>?_⟩⟩⟩;have r3:=(r1.step ok1 s2).step ok2 s3;have st:=(s1.trans s2).trans s3;unfold X3 at e;rw[←ZR] at e;split at e
 .rename_i ds hd;cases e;obtain⟨a,vs,rfl,hs,hv⟩:=iy T5 hd r3;exact(.inl ⟨a,vs,rfl,hs,fun p hp=>q _ (W3.lay p (.lst (hW vs p2.1 p3.1))) rfl (fE T5 hp) (st.trans (eL hp)) (ni T5 hp (wB hv _ _))⟩)
 .split at e
  .rename_i ds hd;split at e
   .cases e
   .rename_i hn;cases e;obtain⟨a,vs,rfl,hs,hv⟩:=i4 hd r3;rw[hv.length] at hn;exact(.inr ⟨a,vs,rfl,hs,hn,fun p hp=>q _ (W3.lay p (.tup (hW vs p2.1 p3.1))) rfl (fE T5 hp) (st.trans (eL hp)) (j0 T5 hp (wB hv _ _))⟩)
  .cases e
def nU(x y:D)(L:M):Fr:=(kj L x).bind fun xs=>(kj L y).bind fun ys=>if xs.length+ys.length<=1000000 then some (.lst (xs++ys),L) else none
def Av(x y:D)(L:M):Fr:=(kj L x).bind fun xs=>match y with
 | .int k=>if -1000000<=k/\k<=1000000/\xs.length*k.toNat<=1000000 then some (.lst (List.replicate k.toNat xs).flatten,L) else none
 |_=>none
def dU(x:D)(L:M):Fr:=match dC L x with
 |some ds=>some (.int ds.length,L)
 |none=>match im x with
  |some ds=>some (.int ds.length,L)
  |none=>none
theorem gw(ml:X.mg "len"=none) (ha:PE X a (tD K ea)) (hg:Gl X "len":=by rfl) (hs:starEach [a] X.env=[(false,eval a X.env)]:=by rfl) (hK:X.K=K:=by rfl):PE X (.Call (.Name "len" p) [a] [] pos) (tD K (v1 dU ea)):=du (ON K ml ha hg hs hK) (jt (by
 intro W x d z Z5 Q ok r1 hf q;unfold dU at hf;split at hf
 .rename_i ds hd;cases hf;obtain⟨a,vs,rfl,hs,hv⟩:=iy ok hd r1;exact⟨a,vs,rfl,.inl hs,by rw[←hv.length];exact q _ W rfl ok .refl (.int _)⟩
 .split at hf
  .rename_i ds hd;cases hf;obtain⟨a,vs,rfl,hs,hv⟩:=i4 hd r1;exact⟨a,vs,rfl,.inr hs,by rw[←hv.length];exact q _ W rfl ok .refl (.int _)⟩
  .cases hf))
def mC(L:M)(x:D):Option (List D):=match dC L x with
 |some ds=>some ds
 |none=>im x
theorem EA(ok:Ok K W)(h:mC W.L d=some ds)(r:DR K W d v):∃a vs,v=.ref a/\(T9 K W.H a vs\/Uo K W.H a vs)/\TN K W ds vs:=by
 unfold mC at h;split at h
 .rename_i XN hd;cases h;obtain⟨a,vs,e,hs,hv⟩:=iy ok hd r;exact(⟨a,vs,e,.inl hs,hv⟩)
 .obtain⟨a,vs,e,hs,hv⟩:=i4 h r;exact⟨a,vs,e,.inr hs,hv⟩
abbrev mO:=Vt fun i j=>.int (if j<i then j else i)
abbrev wg:=Vt fun i j=>.int (if j>i then j else i)
theorem AO{t:TE}{r:R2}{f:D->D->M->Fr}(ra:Ux K r f)(ht:∀O H Q,X7 r (tD K ea) (tD K eb) O H Q->t O H Q):∀O H Q,tD K (v2 f ea eb) O H Q->t O H Q:=fun O H Q h=>ht O H Q (jR ra O H Q h)
theorem xL{x y:V}{g:Int->Int->V}{Q:VK}{H:Hp}:(∃i j,[x,y]=[V.int i,V.int j]/\Q (g i j) H)=(∃i j,x=V.int i/\y=V.int j/\Q (g i j) H):=propext ⟨fun⟨i,j,e,q⟩=>by cases e;exact⟨i,j,rfl,rfl,q⟩,fun⟨i,j,e1,e2,q⟩=>by cases e1;cases e2;exact⟨i,j,rfl,q⟩⟩
theorem Fw(ml:X.mg "min"=none) (ha:PE X a (tD K ea)) (hb:PE X b (tD K eb)) (hc:X.calm=true:=by rfl) (hg:Gl X "min":=by rfl) (hs:starEach [a,b] X.env=[(false,eval a X.env),(false,eval b X.env)]:=by rfl) (Tj:starEach [b] X.env=[(false,eval b X.env)]:=by rfl):
  PE X (.Call (.Name "min" p) [a,b] [] pos) (tD K (v2 mO ea eb)):=du (OL ml ha hb hc hg hs Tj) (AO (iC fun _ _ _=>.int _) fun O H Q h=>by simp only[xL (g:=fun i j=>V.int (if j<i then j else i))];exact h)
theorem FU(ml:X.mg "max"=none) (ha:PE X a (tD K ea)) (hb:PE X b (tD K eb)) (hc:X.calm=true:=by rfl) (hg:Gl X "max":=by rfl) (hs:starEach [a,b] X.env=[(false,eval a X.env),(false,eval b X.env)]:=by rfl) (Tj:starEach [b] X.env=[(false,eval b X.env)]:=by rfl):
  PE X (.Call (.Name "max" p) [a,b] [] pos) (tD K (v2 wg ea eb)):=du (C7 ml ha hb hc hg hs Tj) (AO (iC fun _ _ _=>.int _) fun O H Q h=>by simp only[xL (g:=fun i j=>V.int (if j>i then j else i))];exact h)
def kX:D->M->Fr
 | .bl k,L=>some (.int (if k then 1 else 0),L)
 |_,_=>none
theorem zi(ml:X.mg "int"=none) (ha:PE X a (tD K ea)) (hg:Gl X "int":=by rfl) (hs:starEach [a] X.env=[(false,eval a X.env)]:=by rfl):PE X (.Call (.Name "int" p) [a] [] pos) (tD K (v1 kX ea)):=du (Ge ml ha hg hs) (jt (by
 intro W x d z Z5 Q ok r1 hf q;unfold kX at hf;split at hf
 .cases hf;cases r1;exact⟨_,rfl,q _ W rfl ok .refl (.int _)⟩
 .cases hf))
end
def py:Nat->M->D->Option PyData
 |0,_,_=>none
 |n+1,L,d=>match d with
  | .non=>some .none
  | .bl b=>some (.bool b)
  | .int i=>some (.int i)
  | .str x=>some (.str x)
  | .lst xs=>(dQ (py n L) xs).bind fun ys=>some (.list ys)
  | .scr xs=>(dQ (py n L) xs).bind fun ys=>some (.list ys)
  | .tup xs=>(dQ (py n L) xs).bind fun ys=>some (.tuple ys)
  | .gt xs=>(dQ (py n L) xs).bind fun ys=>some (.tuple ys)
  | .ref k=>match L[k]? with
   |some (some (.lst xs))=>(dQ (py n L) xs).bind fun ys=>some (.list ys)
   |_=>none
theorem kr{K:Frag}{W:Wd}{f:D->Option PyData}(h:∀d v pd,DR K W d v->f d=some pd->Dp K W.H v pd):∀{xs:List D} {vs:List V} {ys:List PyData},TN K W xs vs->dQ f xs=some ys->Vb K W.H vs ys
 |_,_,_,.nil,e=>by cases e;exact .nil
 |_,_,_,.cons r t,e=>by
  refine cS e fun y e1 e=>?_;refine cS e fun ys e2 e=>?_;cases e;exact .cons (h _ _ _ r e1) (kr h t e2)
theorem iH{K:Frag}{W:Wd}(ok:Ok K W):∀(n:Nat) (d:D) (v:V) (pd:PyData),DR K W d v->py n W.L d=some pd->Dp K W.H v pd
 |0,_,_,_,_,e=>by cases e
 |n+1,d,v,pd,r,e=>by
  cases d with
  |non=>cases e;cases r;exact .non
  |bl b=>cases e;cases r;exact .bl b
  |int i=>cases e;cases r;exact .int i
  |str x=>cases e;cases r;exact .str x
  |lst xs=>
   refine cS e fun ys e1 e=>?_;cases e;cases r with
   |lst h _ hs=>exact .lst (T9.of h) (kr (iH ok n) hs e1)
  |scr xs=>
   refine cS e fun ys e1 e=>?_;cases e;cases r with
   |scr h hs=>exact .lst h.seq (kr (iH ok n) hs e1)
  |tup xs=>
   refine cS e fun ys e1 e=>?_;cases e;cases r with
   |tup h hs=>exact .tup (Uo.of h) (kr (iH ok n) hs e1)
  |gt xs=>
   refine cS e fun ys e1 e=>?_;cases e;cases r with
   |gt h hs=>exact .tup h (kr (iH ok n) hs e1)
  |ref k=>
   simp only[py] at e;split at e
   .rename_i xs hk;refine cS e fun ys e1 e=>?_;cases e;obtain⟨a,vs,rfl,_,h,hs⟩:=lH ok hk r;exact(.lst (T9.of h) (kr (iH ok n) hs e1))
   .cases e
def VZ(x y:D)(L:M):Option Bool:=match x,y with
 | .int i,.int j=>some (decide (i=j))
 | .str a,.str b=>if PyData.strOk a&&PyData.strOk b then some (decide (a=b)) else none
 |x,y=>(py 65 L x).bind fun d=>(py 65 L y).bind fun e=>if(d.canLay0&&e.canLay0&&decide (d.depth<=64))=true then some (PyData.eqv d e) else none
def zM{K:Frag}{W:Wd}{x y:D}{v u:V}{b:Bool}(ok:Ok K W)(rx:DR K W x v)(ry:DR K W y u)(h:VZ x y W.L=some b):∃d e,Dp K W.H v d/\Dp K W.H u e/\(d.canLay0&&e.canLay0&&decide (d.depth<=64))=true/\PyData.eqv d e=b:=by
 unfold VZ at h;split at h
 .cases h;cases rx;cases ry;exact⟨_,_,.int _,.int _,by simp[PyData.canLay0,PyData.depth],by simp[PyData.eqv];rw[Q9];simp⟩
 .split at h
  .rename_i hs;cases h;cases rx;cases ry;refine⟨_,_,.str _,.str _,by simpa[PyData.canLay0,PyData.depth] using hs,by simp[PyData.eqv];rw[Q9];simp⟩
  .cases h
 .refine cS h fun d e1 h=>?_;refine cS h fun e e2 h=>?_;split at h
  .rename_i hc;cases h;exact⟨d,e,iH ok _ _ _ _ rx e1,iH ok _ _ _ _ ry e2,hc,rfl⟩
  .cases h
def UA(x y:D)(L:M):Fr:=(VZ x y L).bind fun b=>some (.bl b,L)
def U7(x y:D)(L:M):Fr:=(VZ x y L).bind fun b=>some (.bl (!b),L)
section
variable {X:Cx} {K:Frag} {a b e:Expr} {ea eb:EV} {pos p:Pos} {es:List Expr} {el:LV} {k:Nat}
theorem yD:Ux K (fun x y H Q=>∃d e,Dp K H x d/\Dp K H y e/\(d.canLay0&&e.canLay0&&decide (d.depth<=64))=true/\Q (.bl (PyData.eqv d e)) H) UA:=by
 intro W x y d e z Z5 Q ok r1 r2 hf q;refine cS hf fun b hb hf=>?_;cases hf;obtain⟨d',e',h1,h2,h3,h4⟩:=zM ok r1 r2 hb;exact⟨d',e',h1,h2,h3,by rw[h4];exact q _ W rfl ok .refl (.bl _)⟩
theorem wv:Ux K (fun x y H Q=>∃d e,Dp K H x d/\Dp K H y e/\(d.canLay0&&e.canLay0&&decide (d.depth<=64))=true/\Q (.bl (!PyData.eqv d e)) H) U7:=by
 intro W x y d e z Z5 Q ok r1 r2 hf q;refine cS hf fun b hb hf=>?_;cases hf;obtain⟨d',e',h1,h2,h3,h4⟩:=zM ok r1 r2 hb;exact⟨d',e',h1,h2,h3,by rw[h4];exact q _ W rfl ok .refl (.bl _)⟩
theorem nE(hr:TU k X.A)(ha:PE X a (tD K ea))(hb:PE X b (tD K eb))(hK:X.K=K:=by rfl):PE X (.Compare a [.Eq] [b] pos) (tD K (v2 UA ea eb)):=by
 subst hK;exact nB (yd hr.units) yD ha hb (iu _)
theorem zL(hr:TU k X.A)(ha:PE X a (tD K ea))(hb:PE X b (tD K eb))(hK:X.K=K:=by rfl):PE X (.Compare a [.NotEq] [b] pos) (tD K (v2 U7 ea eb)):=by
 subst hK;exact nB (AZ hr.units) wv ha hb (iu _)
theorem iN(hr:TU k X.A)(ha:PE X a (tD K ea))(hb:PE X b (tD K eb))(hK:X.K=K:=by rfl):PT X (.Compare a [.Eq] [b] pos) (Tq K (vT (v2 UA ea eb))):=by
 subst hK;exact kQ (yd hr.units) yD ha hb (iu _)
theorem mG(hr:TU k X.A)(ha:PE X a (tD K ea))(hb:PE X b (tD K eb))(hK:X.K=K:=by rfl):PT X (.Compare a [.NotEq] [b] pos) (Tq K (vT (v2 U7 ea eb))):=by
 subst hK;exact kQ (AZ hr.units) wv ha hb (iu _)
def jL(x y:D)(L:M):Fr:=match y with
 | .non=>some (.bl (match x with| .non=>true|_=>false),L)
 |_=>none
def ln(x y:D)(L:M):Fr:=match y with
 | .non=>some (.bl (match x with| .non=>false|_=>true),L)
 |_=>none
theorem M6:Ux K (fun x y H Q=>y=.non/\Q (.bl (decide (x=.non))) H) jL:=by
 intro W x y d e z Z5 Q ok r1 r2 hf q;unfold jL at hf;split at hf
 .cases hf;cases r2;refine⟨rfl,?_⟩;have h:=q _ W rfl ok .refl (.bl _);cases r1<;>exact h
 .cases hf
theorem NN:Ux K (fun x y H Q=>y=.non/\Q (.bl (!decide (x=.non))) H) ln:=by
 intro W x y d e z Z5 Q ok r1 r2 hf q;unfold ln at hf;split at hf
 .cases hf;cases r2;refine⟨rfl,?_⟩;have h:=q _ W rfl ok .refl (.bl _);cases r1<;>exact h
 .cases hf
theorem wa(ha:PE X a (tD K ea))(hb:PE X b (tD K eb)):PT X (.Compare a [.Is] [b] pos) (Tq K (vT (v2 jL ea eb))):=kQ Oz M6 ha hb (iu _)
theorem Ic(ha:PE X a (tD K ea))(hb:PE X b (tD K eb)):PT X (.Compare a [.IsNot] [b] pos) (Tq K (vT (v2 ln ea eb))):=kQ Mn NN ha hb (iu _)
def Yv:D->Option V
 | .non=>some .non
 | .bl b=>some (.bl b)
 | .int i=>some (.int i)
 | .str x=>some (.str x)
 |_=>none
theorem yu(h:Yv d=some u)(r:DR K W d v):v=u/\iw u=true:=by
 cases d<;>cases h<;>cases r<;>exact⟨rfl,rfl⟩
theorem AK:∀{ds:List D} {vs us:List V},dQ Yv ds=some us->TN K W ds vs->vs=us/\us.all iw=true
 |_,_,_,h,.nil=>by cases h;exact⟨rfl,rfl⟩
 |_,_,_,h,.cons r t=>by
  refine cS h fun u h1 h=>?_;refine cS h fun us h2 h=>?_;cases h;obtain⟨e1,f1⟩:=yu h1 r;obtain⟨e2,f2⟩:=AK h2 t;exact(⟨by rw[e1,e2],by simp[f1,f2]⟩)
def Λ(neg:Bool)(x y:D)(L:M):Fr:=(Yv x).bind fun v=>(mC L y).bind fun ds=>(dQ Yv ds).bind fun us=>some (.bl (if neg then !Yj v us else Yj v us),L)
theorem D4:Ux K (ϸ K neg) (Λ neg):=by
 intro W x y d e z Z5 Q ok r1 r2 hf q;refine cS hf fun v h1 hf=>?_;refine cS hf fun ds h2 hf=>?_;refine cS hf fun us h3 hf=>?_;cases hf;obtain⟨rfl,f1⟩:=yu h1 r1;obtain⟨a,vs,rfl,hs,hv⟩:=EA ok h2 r2;obtain⟨rfl,f2⟩:=AK h3 hv;exact(⟨a,_,rfl,hs,f1,f2,q _ W rfl ok .refl (.bl _)⟩)
theorem O1(ha:PE X a (tD K ea))(hb:PE X b (tD K eb))(hm:behindInMarks .NotIn b=false:=by rfl)(hK:X.K=K:=by rfl):PT X (.Compare a [.NotIn] [b] pos) (Tq K (vT (v2 (Λ true) ea eb))):=iq (MD K ha hb hm hK) (og (jR D4))
def Vd(L:M):D->Option Bool
 | .non=>some false
 | .bl b=>some b
 | .int i=>some (i !=0)
 | .tup ds=>some (!ds.isEmpty)
 | .gt ds=>some (!ds.isEmpty)
 | .lst ds=>some (!ds.isEmpty)
 | .scr ds=>some (!ds.isEmpty)
 | .ref k=>match L[k]? with
  |some (some (.lst ds))=>some (!ds.isEmpty)
  |some (some (.dK kvs))=>some (!kvs.isEmpty)
  |_=>none
 | .str _=>none
theorem TN.empty(r:TN K W ds vs):ds.isEmpty=vs.isEmpty:=by cases r<;>rfl
theorem Hh{W:Wd}{d:D}{v:V}{b:Bool}(ok:Ok K W)(h:Vd W.L d=some b)(r:DR K W d v):ve K v W.H b:=by
 cases d with
 |non=>cases h;cases r;rfl
 |bl k=>cases h;cases r;rfl
 |int i=>cases h;cases r;rfl
 |str x=>cases h
 |tup ds=>
  cases h;cases r with
  |tup h hs=>exact .inr (.inl ⟨_,Uo.of h,by rw[TN.empty hs]⟩)
 |gt ds=>
  cases h;cases r with
  |gt h hs=>exact .inr (.inl ⟨_,h,by rw[TN.empty hs]⟩)
 |lst ds=>
  cases h;cases r with
  |lst h _ hs=>exact .inl ⟨_,T9.of h,by rw[TN.empty hs]⟩
 |scr ds=>
  cases h;cases r with
  |scr h hs=>exact .inl ⟨_,h.seq,by rw[TN.empty hs]⟩
 |ref k=>
  simp only[Vd] at h;split at h
  .rename_i ds hk;cases h;obtain⟨a,vs,rfl,_,hh,hs⟩:=lH ok hk r;exact(.inl ⟨_,T9.of hh,by rw[TN.empty hs]⟩)
  .rename_i kvs hk;cases h;cases r with
   |ref ha=>
    obtain⟨a',ho,h1,h2,vs,rfl,r⟩:=ok.at_ k _ hk;rw[ha] at h1;cases h1;exact .inr (.inr ⟨vs,h2,by cases r<;>rfl⟩)
  .cases h
def dL(ea:EV):BV:=fun B L=>(ea B L).bind fun p=>(Vd p.2 p.1).bind fun b=>some (b,p.2)
theorem ft(ha:PE X a (tD K ea))(he:∀whole,isTrue a X.env whole=(do let v ←whole;standAt a.pos;holding [v] (truthy v)):=by intro _;rfl)(hK:X.K=K:=by rfl):PT X a (Tq K (dL ea)):=by
 subst hK;refine iq (Pu ha he) fun O H Q h=>?_;refine UC h fun W B b Z5 eH ok en e q=>?_;subst eH;refine cS e fun p1 e1 e=>?_;refine cS e fun b1 e2 e=>?_;cases e;exact⟨W,B,p1.1,p1.2,rfl,ok,en,e1,fun x W1 Z2 ok1 s1 r1=>⟨b,Hh ok1 (by rw[Z2];exact e2) r1,q W1 Z2 ok1 s1⟩⟩
def vFrz(ea:EV):EV:=fun B L=>(ea B L).bind fun p=>match p.1 with
 | .ref k=>match p.2[k]? with
  |some (some (.lst ds))=>some (.lst ds,p.2.set k none)
  |_=>none
 |_=>none
def TV(K:Frag)(f:C0):Sp:=fun vs H Q _=>∃(W:Wd) (ds:List D) (d:D) (Z5:M),W.H=H/\Ok K W/\TN K W ds vs/\f ds W.L=some (d,Z5)/\∀v W',W'.L=Z5->Ok K W'->Step W W'->DR K W' d v->Q v W'.H
theorem dy{x:Str}{ps:List Str}{f:C0}{e:Expr}(Df':Df X.prog X.w X.K X.mg X.base k x ps (TV K f))(hr:TU k X.A)(ha:PA X (e::es) (Ve K el))(hg:Gl X x:=by rfl)(VX:(x==("__debug__":Str))=false:=by decide)
  (he:starEach (e::es) X.env=(false,eval e X.env)::starEach es X.env:=by rfl) (hpl:(backTo pos (starEach es X.env)).any (·.1)=false:=by rfl):PE X (.Call (.Name x p) (e::es) [] pos) (tD K (vL f el)):=du (zK Df' hr ha hg VX he hpl) (oN (by
 intro W xs ds z Z5 Q ok r hf q;exact⟨W,ds,z,Z5,rfl,ok,r,hf,q⟩))
def fV(f:D->D->M->Fr)(ea eb:EV):EV:=fun B L=>(ea B L).bind fun p=>(dC p.2 p.1).bind fun _=>(eb B p.2).bind fun q=>f p.1 q.1 q.2
def kg(f:D->M->Fr)(ea:EV):EV:=fun B L=>(ea B L).bind fun p=>(dC p.2 p.1).bind fun _=>f p.1 p.2
theorem Bn(ok:Ok K W)(h:dC W.L d=some ds)(r:DR K W d v):Y2 K "list" v W.H:=by
 obtain⟨a,vs,rfl,hs,_⟩:=iy ok h r;exact(.inl ⟨rfl,vs,hs⟩)
def RMA(K:Frag)(r:V->List V->Hp->VK->Prop)(f:D->D->M->Fr):Prop:=∀(W:Wd) (x y:V) (d e z:D) (Z5:M) (Q:VK),Ok K W->DR K W d x->DR K W e y->f d e W.L=some (z,Z5)->
 (∀v W',W'.L=Z5->Ok K W'->Step W W'->DR K W' z v->Q v W'.H)->r x [y] W.H Q
def Ij(K:Frag)(r:V->List V->Hp->VK->Prop)(f:D->M->Fr):Prop:=∀(W:Wd) (x:V) (d z:D) (Z5:M) (Q:VK),Ok K W->DR K W d x->f d W.L=some (z,Z5)->
 (∀v W',W'.L=Z5->Ok K W'->Step W W'->DR K W' z v->Q v W'.H)->r x [] W.H Q
theorem E4(ra:RMA K r f):∀O H Q,tD K (fV f eo ea) O H Q->Χ K "list" r (tD K eo) (gq (tD K ea) h8) O H Q:=fun O H Q h=>by
 refine UC h fun W B d Z5 eH ok en e q=>?_;subst eH;refine cS e fun p1 e1 e=>?_;refine cS e fun ds e0 e=>?_;refine cS e fun p2 e2 e=>?_;refine⟨W,B,p1.1,p1.2,rfl,ok,en,e1,fun x W1 Z2 ok1 s1 r1=>⟨Bn ok1 (by rw[Z2];exact e0) r1,W1,B,p2.1,p2.2,rfl,ok1,en.step ok s1,by rw[Z2];exact e2,fun y W2 ZU ok2 s2 r2=>?_⟩⟩;exact ra W2 x y _ _ _ _ Q ok2 (r1.step ok1 s2) r2 (by rw[ZU];exact e) fun v W3 ZR T5 s3 r3=>q v W3 ZR T5 ((s1.trans s2).trans s3) r3
theorem HQ(ra:Ij K r f):∀O H Q,tD K (kg f eo) O H Q->m4 K "list" r (tD K eo) O H Q:=fun O H Q h=>by
 refine UC h fun W B d Z5 eH ok en e q=>?_;subst eH;refine cS e fun p1 e1 e=>?_;refine cS e fun ds e0 e=>?_;refine⟨W,B,p1.1,p1.2,rfl,ok,en,e1,fun x W1 Z2 ok1 s1 r1=>⟨Bn ok1 (by rw[Z2];exact e0) r1,?_⟩⟩;exact ra W1 x _ _ _ Q ok1 r1 (by rw[Z2];exact e) fun v W3 ZR T5 s3 r3=>q v W3 ZR T5 (s1.trans s3) r3
def WS(x:D)(L:M)(g:List D->Option (D×List D)):Fr:=match x with
 | .ref k=>match L[k]? with
  |some (some (.lst ds))=>(g ds).bind fun r=>some (r.1,L.set k (some (.lst r.2)))
  |_=>none
 |_=>none
theorem sS(ok:Ok K W)(h:WS x W.L g=some (z,Z5))(r:DR K W x v):
  ∃k a ds vs XN,x=.ref k/\v=.ref a/\W.L[k]?=some (some (.lst ds))/\W.ρ[k]?=some a/\W.H a=some (.lst vs)/\TN K W ds vs/\g ds=some (z,XN)/\Z5=W.L.set k (some (.lst XN)):=by
 unfold WS at h;split at h
 .rename_i k;split at h
  .rename_i ds hk;refine cS h fun p e1 e=>?_;cases e;obtain⟨a,vs,rfl,ha,hh,hs⟩:=lH ok hk r;exact(⟨k,a,ds,vs,p.2,rfl,rfl,hk,ha,hh,hs,e1,rfl⟩)
  .cases h
 .cases h
theorem uk{W:Wd}{k:Nat}{a:Addr}{ds XN:List D}{vs vs':List V}(ok:Ok K W)(hk:W.L[k]?=some (some (.lst ds)))(ha:W.ρ[k]?=some a)(hs:TN K W XN vs'):
  Ok K (W.put k a (.lst vs') (.lst XN))/\Step W (W.put k a (.lst vs') (.lst XN)):=⟨pX ok hk ha ⟨vs',rfl,hs⟩,jv hk ha⟩
def fq(x y:D)(L:M):Fr:=WS x L fun ds=>if ds.length<1000000 then some (.non,ds++[y]) else none
theorem lG(ho:PE X o (tD K eo))(ha:PE X a (tD K ea))(hs:starEach [a] X.env=[(false,eval a X.env)]:=by rfl)
  (TZ:attributeBase o "append" X.env (eval o X.env)=eval o X.env:=by rfl) (TY:(apos.endLine==pos.line)=true:=by rfl) (hK:X.K=K:=by rfl)
  (Uu:((backTo pos (starEach [a] X.env)).all (fun x=>!x.1)&&(backToKw pos (keywordEach [] X.env)).all (fun x=>x.1.isSome)
   &&decide ([a].length+([]:List Keyword).length+(if([]:List Keyword).isEmpty then 0 else 1)<30))=true:=by rfl):
  PE X (.Call (.Attribute o "append" apos) [a] [] pos) (tD K (fV fq eo ea)):=du (B7 K ho ha hs TZ TY hK Uu) (E4 (by
 intro W x y d e z Z5 Q ok r1 r2 hf q;obtain⟨k,a,ds,vs,XN,rfl,rfl,hk,ha,hh,hs,hg,rfl⟩:=sS ok hf r1;split at hg
 .rename_i hl;cases hg;obtain⟨o1,s1⟩:=uk (vs:=vs) (vs':=vs++[y]) ok hk ha (hs.append (.cons r2 .nil));exact⟨a,vs,y,rfl,rfl,hh,j2 (by rw[←hs.length];omega),q _ _ rfl o1 s1 .non⟩
 .cases hg))
def jc(x:D)(L:M):Fr:=WS x L fun ds=>(ds[ds.length - 1]?).bind fun d=>some (d,ds.dropLast)
theorem qg(ho:PE X o (tD K eo))(TZ:attributeBase o "pop" X.env (eval o X.env)=eval o X.env:=by rfl) (TY:(apos.endLine==pos.line)=true:=by rfl) (hK:X.K=K:=by rfl):
  PE X (.Call (.Attribute o "pop" apos) [] [] pos) (tD K (kg jc eo)):=du (K9 K ho TZ TY hK) (HQ (by
 intro W x d z Z5 Q ok r1 hf q;obtain⟨k,a,ds,vs,XN,rfl,rfl,hk,ha,hh,hs,hg,rfl⟩:=sS ok hf r1;refine cS hg fun d hd hg=>?_;cases hg;obtain⟨v,hv,r⟩:=hs.get hd;obtain⟨o1,s1⟩:=uk (vs:=vs) (vs':=vs.dropLast) ok hk ha hs.dropLast;exact⟨a,vs,v,rfl,rfl,hh,by rw[←hs.length];exact hv,q _ _ rfl o1 s1 (r.step ok s1)⟩))
end
open Classical in
def Uw{J:Type}(c:Prop)(x:Option J):Option J:=if c then x else none
def n0{J:Type}{c:Prop}{x:Option J}{a:J}(h:Uw c x=some a):c/\x=some a:=by
 unfold Uw at h;split at h
 .exact⟨by assumption,h⟩
 .cases h
def gu{J:Type}{c:Prop}{x:Option J}{a:J}{Z:Prop}(h:Uw c x=some a)(k:c->x=some a->Z):Z:=k (n0 h).1 (n0 h).2
def fY{J:Type}{c:Prop}{x:Option J}(h:c):Uw c x=x:=by unfold Uw;rw[if_pos h]
abbrev GV:=D->G->M->Option (G×M)
abbrev WM:=List D->G->M->Option (G×M)
def U4(K:Frag)(gv:GV):TG:=fun v O H Q=>∃(W:Wd) (B:G) (d:D) (ZX:G) (Z5:M),W.H=H/\Ok K W/\TQ K W B O/\DR K W d v/\gv d B W.L=some (ZX,Z5)/\∀W' ZZ,W'.L=Z5->Ok K W'->Step W W'->TQ K W' ZX ZZ->Q ZZ W'.H
def oV(K:Frag)(gv:WM):X5:=fun vs O H Q=>∃(W:Wd) (B:G) (ds:List D) (ZX:G) (Z5:M),W.H=H/\Ok K W/\TQ K W B O/\TN K W ds vs/\gv ds B W.L=some (ZX,Z5)/\∀W' ZZ,W'.L=Z5->Ok K W'->Step W W'->TQ K W' ZX ZZ->Q ZZ W'.H
section
variable {X:Cx} {K:Frag} {pos:Pos}
theorem uK(h:PG X tg t)(hi:∀v O H Q,t' v O H Q->t v O H Q):PG X tg t':=fun pins s O H v u Q I r hw=>h pins s O H v u Q I r (hi _ _ _ _ hw)
theorem wJ(h:W9 X tg t)(hi:∀v O H Q,t' v O H Q->t v O H Q):W9 X tg t':=fun pins s O H v u Q I r hw=>h pins s O H v u Q I r (hi _ _ _ _ hw)
theorem TQ.set(e:TQ K W B O)(r:DR K W d v)(i:Nat):TQ K W (B.set i (some d)) (O.set i (some v)) where
 len:=by simp[e.len]
 at_ j d' h:=by
  by_cases hj:j=i
  .subst hj;have hlt:j<B.length:=by have:=(P5.mp h).1;simpa using this
   simp[hlt] at h;subst h;exact⟨v,by have:=e.len;simp[show j<O.length by omega],r⟩
  .rw[QP (Ne.symm hj)] at h;obtain⟨u,hu,q⟩:=e.at_ j d' h;exact⟨u,by rw[QP (Ne.symm hj)];exact hu,q⟩
def cR(i:Nat):GV:=fun d B L=>some (B.set i (some d),L)
theorem Pz:∀v O H Q,U4 K (cR i) v O H Q->sD i v O H Q:=fun v O H Q h=>by
 obtain⟨W,B,d,ZX,Z5,rfl,ok,en,r,e,q⟩:=h;cases e;exact(q W _ rfl ok .refl (en.set r i))
theorem dl(hN:X.N.Nodup)(hi:X.N[i]?=some x)(hx:Loc X.env.scope x)(hf:X.fn x=true\/X.env.scope.names.lookup x=some .local:=by first|exact .inl rfl|exact .inr rfl|assumption):PG X (.Name x pos) (U4 K (cR i)):=uK (rm hN hi hx hf) Pz
def dY:WM:=fun ds B L=>match ds with
 | []=>some (B,L)
 |_::_=>none
def c4(g:GV)(gs:WM):WM:=fun ds B L=>match ds with
 | []=>none
 |d::r=>(g d B L).bind fun p=>gs r p.1 p.2
theorem hJ:W9 X [] (oV K dY):=wJ Md fun v O H Q h=>by
 obtain⟨W,B,d,ZX,Z5,rfl,ok,en,r,e,q⟩:=h;cases r with
 |nil=>cases e;exact⟨rfl,q W _ rfl ok .refl en⟩
 |cons _ _=>cases e
theorem eI{e:Expr}{es:List Expr}{g:GV}{gs:WM}(h1:PG X e (U4 K g))(h2:W9 X es (oV K gs))
  (hs:(assignEach (e::es) X.env).map (·.2)=assign e X.env::(assignEach es X.env).map (·.2):=by rfl):W9 X (e::es) (oV K (c4 g gs)):=wJ (Cj h1 h2 hs) fun v O H Q h=>by
 obtain⟨W,B,d,ZX,Z5,rfl,ok,en,r,e,q⟩:=h;cases r with
 |nil=>cases e
 |cons r rs=>
  refine cS e fun p1 e1 e=>?_;exact⟨_,_,rfl,W,B,_,p1.1,p1.2,rfl,ok,en,r,e1,fun W1 ZI Z2 ok1 s1 Vv=>⟨W1,p1.1,_,ZX,Z5,rfl,ok1,Vv,rs.step ok s1,by rw[Z2];exact e,fun W2 ZV ZU ok2 s2 Uh=>q W2 ZV ZU ok2 (s1.trans s2) Uh⟩⟩
def eB(n:Nat)(gs:WM):GV:=fun d B L=>(im d).bind fun ds=>if ds.length=n then gs ds B L else none
theorem gM{es:List Expr}{k:Nat}{gs:WM}{n:Nat}(h:W9 X es (oV K gs))(hc:X.calm=true:=by rfl)(hn:(assignEach es X.env).length=n:=by rfl)(hst:(assignEach es X.env).findIdx? (·.1)=none:=by rfl)(hK:X.K=K:=by rfl):PG X (.Tuple es k pos) (U4 K (eB n gs)):=uK (gT K h hc hn hst hK) fun v O H Q hh=>by
 obtain⟨W,B,d,ZX,Z5,rfl,ok,en,r,e,q⟩:=hh;refine cS e fun ds e1 e=>?_;split at e
 .rename_i hl;obtain⟨a,vs,rfl,hs,hv⟩:=i4 e1 r;exact⟨a,vs,rfl,hs,by rw[←hv.length];exact hl,W,B,ds,ZX,Z5,rfl,ok,en,hv,e,q⟩
 .cases e
def nK(eo ei:EV):GV:=fun d B L=>(eo B L).bind fun p=>(ei B p.2).bind fun q=>match q.1 with
 | .int j=>(WS p.1 q.2 fun ds=>(VF ds.length j).bind fun jj=>some (.non,ds.set jj d)).bind fun r=>some (B,r.2)
 |_=>none
theorem yc(ho:PE X o (tD K eo))(hi:PE X i (tD K ei))(ha:∀v,assign (.Subscript o i pos) X.env v=(do
   let ov ←holding [v] (eval o X.env)
   let iv ←holding [v,ov] (eval i X.env)
   standAt pos
   holding [v,ov,iv] (setItem ov iv v)
   release [v,ov,iv] []):=by intro _;rfl):PG X (.Subscript o i pos) (U4 K (nK eo ei)):=uK (Cr ho hi MK ha) fun v O H Q hh=>by
 obtain⟨W,B,d,ZX,Z5,rfl,ok,en,r,e,q⟩:=hh;refine cS e fun p1 e1 e=>?_;refine cS e fun p2 e2 e=>?_;refine⟨W,B,p1.1,p1.2,rfl,ok,en,e1,fun x W1 Z2 ok1 s1 r1=>⟨W1,B,p2.1,p2.2,rfl,ok1,en.step ok s1,by rw[Z2];exact e2,fun y W2 ZU ok2 s2 r2=>?_⟩⟩;split at e
 .rename_i j hj;rw[hj] at r2;cases r2;obtain⟨⟨z3,ZQ⟩,e3,e⟩:=UP e;cases e;rw[←ZU] at e3;obtain⟨k,a,ds,vs,XN,h1,rfl,hk,ha,hh,hs,hg,h2⟩:=sS ok2 e3 (r1.step ok1 s2);refine cS hg fun jj χ hg=>?_;cases hg;obtain⟨o1,Yc⟩:=uk (vs:=vs) (vs':=vs.set jj v) ok2 hk ha (hs.set ((r.step ok s1).step ok1 s2) jj);exact⟨a,vs,j,jj,rfl,rfl,hh,by rw[←hs.length];exact χ,q _ _ h2.symm o1 ((s1.trans s2).trans Yc) (((en.step ok s1).step ok1 s2).step ok2 Yc)⟩
 .cases e
end
section
variable {X:Cx} {K:Frag} {pos:Pos} {e:Expr} {ea:EV} {st:Stmt} {di:List Stmt} {sa sb:SV}
def UL:SV:=fun B L=>some (.nx,B,L)
def cV(a b:SV):SV:=fun B L=>(a B L).bind fun o=>match o.1 with
 | .nx=>b o.2.1 o.2.2
 | .bk=>some (.bk,o.2)
 | .ct=>some (.ct,o.2)
 | .rt d=>some (.rt d,o.2)
theorem eW:UT X [] (Ue K UL):=m9 Di fun D O H h=>by
 refine Ui h fun W B o ZX Z5 eH ok en e q=>?_;subst eH;cases e;exact q W O rfl ok .refl en
theorem cX(h1:PS X st (Ue K sa)):UT X [st] (Ue K sa):=Ar h1
theorem cZ(h1:PS X st (Ue K sa))(h2:UT X di (Ue K sb)):UT X (st::di) (Ue K (cV sa sb)):=m9 (wV h1 h2) fun D O H h=>by
 refine Ui h fun W B o ZX Z5 eH ok en e q=>?_;subst eH;obtain⟨⟨o1,ZY,Z4⟩,e1,e⟩:=UP e;refine(⟨W,B,o1,ZY,Z4,rfl,ok,en,e1,fun W1 ZI Z2 ok1 s1 Vv=>?_⟩);cases o1 with
 |nx=>exact⟨W1,ZY,o,ZX,Z5,rfl,ok1,Vv,by rw[Z2];exact e,fun W2 ZV ZU ok2 s2 Uh=>q W2 ZV ZU ok2 (s1.trans s2) Uh⟩
 |bk=>cases e;exact q W1 ZI Z2 ok1 s1 Vv
 |ct=>cases e;exact q W1 ZI Z2 ok1 s1 Vv
 |rt d=>cases e;exact q W1 ZI Z2 ok1 s1 Vv
def ϊ:SV:=fun B L=>some (.bk,B,L)
theorem Iw:PS X (.Break pos) (Ue K ϊ):=fb IQ fun D O H h=>by
 refine Ui h fun W B o ZX Z5 eH ok en e q=>?_;subst eH;cases e;exact q W O rfl ok .refl en
def fz(ea:EV):SV:=fun B L=>(ea B L).bind fun p=>some (.nx,B,p.2)
theorem gQ(he:PE X e (tD K ea))(hs:swapsWith e none pos.line X.env=pure false:=by rfl):PS X (.Expr e pos) (Ue K (fz ea)):=fb (yR he hs) fun D O H h=>by
 refine Ui h fun W B o ZX Z5 eH ok en e q=>?_;subst eH;refine cS e fun p1 e1 e=>?_;cases e;exact⟨W,B,p1.1,p1.2,rfl,ok,en,e1,fun v W1 Z2 ok1 s1 r1=>q W1 O Z2 ok1 s1 (en.step ok s1)⟩
def db(ea:EV):SV:=fun B L=>(ea B L).bind fun p=>some (.rt p.1,B,p.2)
theorem dt(he:PE X e (tD K ea)):PS X (.Return (some e) pos) (Ue K (db ea)):=fb (Ag he) fun D O H h=>by
 refine Ui h fun W B o ZX Z5 eH ok en e q=>?_;subst eH;refine cS e fun p1 e1 e=>?_;cases e;exact⟨W,B,p1.1,p1.2,rfl,ok,en,e1,fun v W1 Z2 ok1 s1 r1=>q W1 O Z2 ok1 s1 (en.step ok s1) v r1⟩
def UR(t:BV)(a b:SV):SV:=fun B L=>(t B L).bind fun p=>if p.1=true then a B p.2 else b B p.2
theorem eD(hc:PT X c (Tq K bc))(ha:UT X a (Ue K sa))(hb:UT X b (Ue K sb)):PS X (.If c a b pos) (Ue K (UR bc sa sb)):=fb (Ai hc ha hb) fun D O H h=>by
 refine Ui h fun W B o ZX Z5 eH ok en e q=>?_;subst eH;refine cS e fun p1 e1 e=>?_;refine⟨W,B,p1.1,p1.2,rfl,ok,en,e1,fun W1 Z2 ok1 s1=>?_⟩;split at e
 .rename_i hp;rw[if_pos hp];exact⟨W1,B,o,ZX,Z5,rfl,ok1,en.step ok s1,by rw[Z2];exact e,fun W2 ZV ZU ok2 s2 Uh=>q W2 ZV ZU ok2 (s1.trans s2) Uh⟩
 .rename_i hp;rw[if_neg hp];exact⟨W1,B,o,ZX,Z5,rfl,ok1,en.step ok s1,by rw[Z2];exact e,fun W2 ZV ZU ok2 s2 Uh=>q W2 ZV ZU ok2 (s1.trans s2) Uh⟩
def dh(ea:EV)(g:GV):SV:=fun B L=>(ea B L).bind fun p=>(g p.1 B p.2).bind fun q=>some (.nx,q.1,q.2)
theorem PF:∀D O H,Ue K (dh ea g) D O H->v7 (tD K ea) (U4 K g) D O H:=fun D O H h=>by
 refine Ui h fun W B o ZX Z5 eH ok en e q=>?_;subst eH;refine cS e fun p1 e1 e=>?_;refine cS e fun p2 e2 e=>?_;cases e;exact⟨W,B,p1.1,p1.2,rfl,ok,en,e1,fun v W1 Z2 ok1 s1 r1=>⟨W1,B,p1.1,p2.1,p2.2,rfl,ok1,en.step ok s1,r1,by rw[Z2];exact e2,fun W2 ZV ZU ok2 s2 Uh=>q W2 ZV ZU ok2 (s1.trans s2) Uh⟩⟩
theorem om(he:PE X e (tD K ea))(hg:PG X tg (U4 K g))(hs:swapsWithSole [tg] e pos.line X.env=pure false:=by rfl)(hw:swappedStores [tg] e X.env=pure none:=by rfl)
  (h1:(assignEach [tg] X.env).map (·.2)=[assign tg X.env]:=by rfl):PS X (.Assign [tg] e pos) (Ue K (dh ea g)):=fb (EW he hg hs hw h1) PF
theorem dJ(hN:X.N.Nodup)(hi:X.N[i]?=some x)(hx:Loc X.env.scope x)(he:PE X e (tD K ea))(hs:swapsWith e (some (.Name x pos')) pos.line X.env=pure false:=by rfl)(hf:X.fn x=true\/X.env.scope.names.lookup x=some .local:=by first|exact .inl rfl|exact .inr rfl|assumption):
  PS X (.Assign [.Name x pos'] e pos) (Ue K (dh ea (cR i))):=fb (x3 hN hi hx he hs hf) fun D O H h=>by
 refine Ui h fun W B o ZX Z5 eH ok en e q=>?_;subst eH;refine cS e fun p1 e1 e=>?_;cases e;exact⟨W,B,p1.1,p1.2,rfl,ok,en,e1,fun v W1 Z2 ok1 s1 r1=>q W1 _ Z2 ok1 s1 ((en.step ok s1).set r1 i)⟩
def lA(i j:Nat)(el:LV):SV:=fun B L=>(el B L).bind fun p=>match p.1 with
 | [v,w]=>some (.nx,(B.set i (some v)).set j (some w),p.2)
 |_=>none
theorem LI:∀D O H,Ue K (lA i j el) D O H->zc i j (Ve K el) D O H:=fun D O H h=>by
 refine Ui h fun W B o ZX Z5 eH ok en e q=>?_;subst eH;refine cS e fun p1 e1 e=>?_;split at e
 .rename_i v w hp;cases e;refine⟨W,B,p1.1,p1.2,rfl,ok,en,e1,fun vs W1 Z2 ok1 s1 r1=>?_⟩;rw[hp] at r1;cases r1 with
  |cons r1 r2=>
   cases r2 with
   |cons r2 r3=>
    cases r3;exact⟨_,_,rfl,q W1 _ Z2 ok1 s1 (((en.step ok s1).set r1 i).set r2 j)⟩
 .cases e
def gZ(i:Nat)(f:D->D->M->Fr)(ea:EV):SV:=fun B L=>match B[i]? with
 |some (some x)=>(ea B L).bind fun p=>(f x p.1 p.2).bind fun q=>some (.nx,B.set i (some q.1),q.2)
 |_=>none
theorem zu(hN:X.N.Nodup)(hi:X.N[i]?=some x)(hx:Loc X.env.scope x)(he:PE X e (tD K ea))(ho:ϯ X op ti)(ra:Ux K ti f)(hf:X.fn x=true\/X.env.scope.names.lookup x=some .local:=by first|exact .inl rfl|exact .inr rfl|assumption):
  PS X (.AugAssign (.Name x pos') op e pos) (Ue K (gZ i f ea)):=fb (Cl hN hi hx he ho hf) fun D O H h=>by
 refine Ui h fun W B o ZX Z5 eH ok en e q=>?_;subst eH;unfold gZ at e;split at e
 .rename_i x0 Ϛ;refine cS e fun p1 e1 e=>?_;refine cS e fun p2 e2 e=>?_;cases e;obtain⟨v,hv,r⟩:=en.at_ i _ Ϛ;refine(⟨v,hv,W,B,p1.1,p1.2,rfl,ok,en,e1,fun y W1 Z2 ok1 s1 r1=>?_⟩);exact ra W1 v y _ _ _ _ _ ok1 (r.step ok s1) r1 (by rw[Z2];exact e2) fun z W2 ZU ok2 s2 r2=>q W2 _ ZU ok2 (s1.trans s2) (((en.step ok s1).step ok1 s2).set r2 i)
 .cases e
theorem yQ:Ux K (_M g) (Vt fun i j=>.int (g i j)):=by
 intro W x y d e z Z5 Q ok r1 r2 hf q;unfold Vt at hf;split at hf
 .cases hf;cases r1;cases r2;exact⟨_,_,rfl,rfl,q _ W rfl ok .refl (.int _)⟩
 .cases hf
theorem Bd(hN:X.N.Nodup)(hi:X.N[i]?=some x)(hx:Loc X.env.scope x)(he:PE X e (tD K ea))(hf:X.fn x=true\/X.env.scope.names.lookup x=some .local:=by first|exact .inl rfl|exact .inr rfl|assumption):
  PS X (.AugAssign (.Name x pos') .Add e pos) (Ue K (gZ i nO ea)):=zu hN hi hx he LO yQ hf
theorem Ew(hN:X.N.Nodup)(hi:X.N[i]?=some x)(hx:Loc X.env.scope x)(he:PE X e (tD K ea))(hf:X.fn x=true\/X.env.scope.names.lookup x=some .local:=by first|exact .inl rfl|exact .inr rfl|assumption):
  PS X (.AugAssign (.Name x pos') .Sub e pos) (Ue K (gZ i jh ea)):=zu hN hi hx he HR yQ hf
def i9(c:BV)(body:SV):Nat->SV
 |0,_,_=>none
 |n+1,B,L=>(c B L).bind fun p=>if p.1=true then(body B p.2).bind fun o=>match o.1 with
   | .nx=>i9 c body n o.2.1 o.2.2
   | .ct=>i9 c body n o.2.1 o.2.2
   | .bk=>some (.nx,o.2)
   | .rt d=>some (.rt d,o.2)
  else some (.nx,B,p.2)
theorem sj(n:Nat)(hp:PassesOwn (model X.prog X.w) X.A X.env X.xe)(hc:PT X c (Tq K bc))(hb:UT X body (Ue K sb)):PS X (.While c body [] pos) (Ue K (i9 bc sb n)):=fb (Ht hp hc hb) fun D O H h=>by
 refine Ui h fun W B o ZX Z5 eH ok en e q=>?_;subst eH;refine⟨fun m ZI H1=>∃W1 ZY,W1.H=H1/\Ok K W1/\Step W W1/\TQ K W1 ZY ZI/\i9 bc sb m ZY W1.L=some (o,ZX,Z5),⟨n,W,B,rfl,ok,.refl,en,e⟩,?_⟩;rintro m ZI H1 ⟨W1,ZY,rfl,ok1,s1,Vv,e1⟩;cases m with
 |zero=>cases e1
 |succ m=>
  refine cS e1 fun p1 ec e1=>?_;refine⟨W1,ZY,p1.1,p1.2,rfl,ok1,Vv,ec,fun W2 ZU ok2 s2=>?_⟩;split at e1
  .rename_i Xy;rw[if_pos Xy];obtain⟨⟨o3,Zh,ZQ⟩,e3,e1⟩:=UP e1;refine⟨_,fun ZZ H' h'=>⟨m,RZ m,h'⟩,W2,ZY,o3,Zh,ZQ,rfl,ok2,Vv.step ok1 s2,by rw[ZU];exact e3,fun W3 ZH ZR T5 s3 ϩ=>?_⟩;cases o3 with
   |nx=>exact⟨W3,Zh,rfl,T5,(s1.trans s2).trans s3,ϩ,by rw[ZR];exact e1⟩
   |ct=>exact⟨W3,Zh,rfl,T5,(s1.trans s2).trans s3,ϩ,by rw[ZR];exact e1⟩
   |bk=>cases e1;exact q W3 ZH ZR T5 ((s1.trans s2).trans s3) ϩ
   |rt d=>cases e1;exact q W3 ZH ZR T5 ((s1.trans s2).trans s3) ϩ
  .rename_i Xy;cases e1;rw[if_neg Xy];exact q W2 ZI ZU ok2 (s1.trans s2) (Vv.step ok1 s2)
abbrev Ck:=Option (Nat×List D)
def de:Ck->M->Prop
 |none,_=>True
 |some (k,raw),L=>L[k]?=some (some (.lst raw))
abbrev IV:=G->M->Option ((List D×Ck)×M)
def JR(K:Frag)(W:Wd)(Z6:It)(its:List D)(c:Ck):Prop:=de c W.L/\∃ds vs,TN K W ds vs/\∀(W2:Wd) (i:Nat),Ok K W2->de c W2.L->TN K W2 ds vs->
 (its.length<=i->Z6.stop i W2.H)/\∀d,its[i]?=some d->Z6.go i W2.H/\∀x H',Z6.yld i W2.H x H'->∃W3,W3.H=H'/\W3.L=W2.L/\Ok K W3/\Step W2 W3/\DR K W3 d x
def Vf(K:Frag)(iv:IV):TI:=fun O H R=>∃(W:Wd) (B:G) (its:List D) (c:Ck) (Z5:M),W.H=H/\Ok K W/\TQ K W B O/\iv B W.L=some ((its,c),Z5)/\∀Z6 W',W'.L=Z5->Ok K W'->Step W W'->JR K W' Z6 its c->R Z6 W'.H
theorem lq(h:PI X tg iter t)(hi:∀O H R,t' O H R->t O H R):PI X tg iter t':=fun pins s O H R I hw=>h pins s O H R I (hi _ _ _ hw)
def VP(L:M):D->Option (List D×Ck)
 | .lst ds=>some (ds,none)
 | .scr ds=>some (ds,none)
 | .ref k=>match L[k]? with
  |some (some (.lst ds))=>some (ds,some (k,ds))
  |_=>none
 |_=>none
theorem u6(ok:Ok K W)(h:VP W.L d=some (ds,c))(r:DR K W d v):
  de c W.L/\∃a,v=.ref a/\∀W2,Ok K W2->de c W2.L->DR K W2 d v->∃vs,T9 K W2.H a vs/\TN K W2 ds vs:=by
 cases d with
 |lst xs=>
  cases h;cases r with
  |lst h n hs=>
   refine⟨trivial,_,rfl,fun W2 _ _ r2=>?_⟩;cases r2 with
   |lst h n hs=>exact⟨_,T9.of h,hs⟩
 |scr xs=>
  cases h;cases r with
  |scr h hs=>
   refine⟨trivial,_,rfl,fun W2 _ _ r2=>?_⟩;cases r2 with
   |scr h hs=>exact⟨_,h.seq,hs⟩
 |ref k=>
  simp only[VP] at h;split at h
  .rename_i xs hk;cases h;refine⟨hk,?_⟩;cases r with
   |ref ha=>
    refine⟨_,rfl,fun W2 ok2 c2 r2=>?_⟩;obtain⟨a',vs,e,_,hh,hs⟩:=lH ok2 c2 r2;cases e;exact(⟨vs,T9.of hh,hs⟩)
  .cases h
 |_=>cases h
def UB(ea:EV):IV:=fun B L=>(ea B L).bind fun p=>(VP p.2 p.1).bind fun s=>some (s,p.2)
theorem fB(ha:PE X a (tD K ea))(hK:X.K=K:=by rfl):PI X tg a (Vf K (UB ea)):=lq (iL K ha hK) fun O H R h=>by
 refine Ui h fun W B its c Z5 eH ok en e q=>?_;subst eH;refine cS e fun p1 e1 e=>?_;refine cS e fun s e2 e=>?_;cases e;refine⟨W,B,p1.1,p1.2,rfl,ok,en,e1,fun v W1 Z2 ok1 s1 r1=>?_⟩;obtain⟨c0,a,rfl,hh⟩:=u6 ok1 (by rw[Z2];exact e2) r1;obtain⟨Υ,h0,_⟩:=hh W1 ok1 c0 r1;refine(⟨a,rfl,⟨_,h0⟩,q (ϱ K a) W1 Z2 ok1 s1 ⟨c0,[p1.1],[.ref a],.cons r1 .nil,fun W2 i ok2 c2 r2=>?_⟩⟩);cases r2 with
 |cons r2 _=>
  obtain⟨vs,hs,hv⟩:=hh W2 ok2 c2 r2;refine⟨fun hi=>⟨vs,hs,by rw[←hv.length];exact hi⟩,fun d hd=>?_⟩;obtain⟨v,Ut,Vz⟩:=hv.get hd;refine(⟨⟨vs,v,hs,Ut⟩,fun x H' y=>?_⟩);obtain⟨rfl,y⟩:=y;have:=y vs hs;rw[Ut] at this;cases this;exact⟨W2,rfl,rfl,ok2,.refl,Vz⟩
def η(ea:EV):IV:=fun B L=>(ea B L).bind fun p=>(im p.1).bind fun ds=>some ((ds,none),p.2)
theorem uW(ha:PE X a (tD K ea))(hK:X.K=K:=by rfl):PI X tg a (Vf K (η ea)):=lq (iT K ha hK) fun O H R h=>by
 refine Ui h fun W B its c Z5 eH ok en e q=>?_;subst eH;refine cS e fun p1 e1 e=>?_;refine cS e fun s e2 e=>?_;cases e;refine⟨W,B,p1.1,p1.2,rfl,ok,en,e1,fun v W1 Z2 ok1 s1 r1=>?_⟩;obtain⟨a,Υ,rfl,h0,_⟩:=i4 e2 r1;refine(⟨a,rfl,⟨_,h0⟩,q (Itt K a) W1 Z2 ok1 s1 ⟨trivial,[p1.1],[.ref a],.cons r1 .nil,fun W2 i ok2 c2 r2=>?_⟩⟩);cases r2 with
 |cons r2 _=>
  obtain⟨a',vs,e',hs,hv⟩:=i4 e2 r2;cases e';refine⟨fun hi=>⟨vs,hs,by rw[←hv.length];exact hi⟩,fun d hd=>?_⟩;obtain⟨v,Ut,Vz⟩:=hv.get hd;refine(⟨⟨vs,v,hs,Ut⟩,fun x H' y=>?_⟩);obtain⟨rfl,y⟩:=y;have:=y vs hs;rw[Ut] at this;cases this;exact⟨W2,rfl,rfl,ok2,.refl,Vz⟩
def dk(lo:Int)(n:Nat):List D:=(List.range n).map fun k:Nat=>D.int (lo+k)
theorem q0:JR K W (Xj lo n) (dk lo n) none:=by
 refine⟨trivial,[],[],.nil,fun W2 i ok2 _ _=>⟨fun hi=>?_,fun d hd=>?_⟩⟩
 .show n<=i;simpa[dk] using hi
 .have hlt:=(P5.mp hd).1;simp[dk] at hlt;simp[dk,hlt] at hd;subst hd;refine⟨hlt,fun x H' y=>?_⟩;obtain⟨rfl,rfl⟩:=y;exact(⟨W2,rfl,rfl,ok2,.refl,.int _⟩)
def WG(ea:EV):IV:=fun B L=>(ea B L).bind fun p=>match p.1 with
 | .int j=>if -1000000000<=j/\j<=1000000000 then some ((dk 0 j.toNat,none),p.2) else none
 |_=>none
theorem mV(mr:X.mg "range"=none) (ha:PE X a (tD K ea)) (hg:Gl X "range":=by rfl) (hs:starEach [a] X.env=[(false,eval a X.env)]:=by rfl):PI X tg (.Call (.Name "range" p) [a] [] pos) (Vf K (WG ea)):=lq (iR mr ha hg hs) fun O H R h=>by
 refine Ui h fun W B its c Z5 eH ok en e q=>?_;subst eH;refine cS e fun p1 e1 e=>?_;split at e
 .rename_i j hj;split at e
  .rename_i hb;cases e;refine⟨W,B,p1.1,p1.2,rfl,ok,en,e1,fun v W1 Z2 ok1 s1 r1=>?_⟩;rw[hj] at r1;cases r1;exact⟨j,rfl,by omega,by omega,q _ W1 Z2 ok1 s1 q0⟩
  .cases e
 .cases e
def js(ea eb:EV):IV:=fun B L=>(ea B L).bind fun p=>(eb B p.2).bind fun r=>match p.1,r.1 with
 | .int i,.int j=>if(-1000000000<=i/\i<=1000000000)/\-1000000000<=j/\j<=1000000000 then some ((dk i (j - i).toNat,none),r.2) else none
 |_,_=>none
theorem BA(mr:X.mg "range"=none) (ha:PE X a (tD K ea)) (hb:PE X b (tD K eb)) (hg:Gl X "range":=by rfl) (hs:starEach [a,b] X.env=[(false,eval a X.env),(false,eval b X.env)]:=by rfl) (Tj:starEach [b] X.env=[(false,eval b X.env)]:=by rfl):
  PI X tg (.Call (.Name "range" p) [a,b] [] pos) (Vf K (js ea eb)):=lq (iR2 mr ha hb hg hs Tj) fun O H R h=>by
 refine Ui h fun W B its c Z5 eH ok en e q=>?_;subst eH;refine cS e fun p1 e1 e=>?_;refine cS e fun p2 e2 e=>?_;split at e
 .rename_i i j hi hj;split at e
  .rename_i hb;cases e;refine⟨W,B,p1.1,p1.2,rfl,ok,en,e1,fun v W1 Z2 ok1 s1 r1=>⟨W1,B,p2.1,p2.2,rfl,ok1,en.step ok s1,by rw[Z2];exact e2,fun y W2 ZU ok2 s2 r2=>?_⟩⟩;rw[hi] at r1;rw[hj] at r2;cases r1;cases r2;exact⟨i,j,rfl,⟨by omega,by omega,by omega,by omega⟩,q _ W2 ZU ok2 (s1.trans s2) q0⟩
  .cases e
 .cases e
def dX(c:Ck)(g:GV)(body:SV):List D->SV
 | [],B,L=>some (.nx,B,L)
 |d::r,B,L=>(g d B L).bind fun p=>(body p.1 p.2).bind fun o=>match o.1 with
  | .nx=>Uw (de c o.2.2) (dX c g body r o.2.1 o.2.2)
  | .ct=>Uw (de c o.2.2) (dX c g body r o.2.1 o.2.2)
  | .bk=>some (.nx,o.2)
  | .rt d=>some (.rt d,o.2)
def fF(iv:IV)(g:GV)(body:SV):SV:=fun B L=>(iv B L).bind fun s=>dX s.1.2 g body s.1.1 B s.2
theorem gB(hp:PassesOwn (model X.prog X.w) X.A X.env X.xe)(hc:X.calm=true)(hi:PI X tg iter (Vf K iv))(hg:PG X tg (U4 K g))(hb:UT X body (Ue K sb))
  (hs:∀x,foldedSetIterable iter X.env x=pure x:=by intro _;rfl):PS X (.For tg iter body [] pos) (Ue K (fF iv g sb)):=fb (wX hp hc hi hg hb hs) fun D O H h=>by
 refine Ui h fun W B o ZX Z5 eH ok en e q=>?_;subst eH;obtain⟨⟨⟨its,c⟩,Z4⟩,e1,e⟩:=UP e;refine(⟨W,B,its,c,Z4,rfl,ok,en,e1,fun Z6 W1 ZK ok1 s1 jr=>?_⟩);obtain⟨c1,ds,vs,r1,hj⟩:=jr;obtain⟨P,hP⟩:∃P:Nat->St->Hp->Prop,∀i ZV H2,P i ZV H2↔(i<=its.length/\∃W2 ZW,W2.H=H2/\Ok K W2/\Step W1 W2/\TQ K W2 ZW ZV/\de c W2.L/\dX c g sb (its.drop i) ZW W2.L=some (o,ZX,Z5)):=⟨_,fun _ _ _=>Qg⟩
 refine⟨fun i m ZV H2=>m=its.length - i/\P i ZV H2,⟨its.length,by simp,(hP _ _ _).2 ⟨QZ _,W1,B,rfl,ok1,.refl,en.step ok s1,c1,by rw[ZK];exact e⟩⟩,?_⟩;rintro i m ZV H2 ⟨rfl,hi⟩;refine bq fun hG=>?_;obtain⟨hi,W2,ZW,rfl,ok2,s2,Uh,c2,e2⟩:=(hP _ _ _).1 hi;obtain⟨UJ,Vo⟩:=hj W2 i ok2 c2 (r1.step ok1 s2);by_cases hlt:i<its.length
 .have hd:its[i]?=some its[i]:=P9 hlt;obtain⟨h1,h2⟩:=Vo _ hd;rw[QB hlt] at e2;refine cS e2 fun p e3 e2=>?_;obtain⟨⟨o4,Zq,ZE⟩,e4,e2⟩:=UP e2;refine(hG (.inr ⟨h1,P (i+1),fun ZZ H' hN=>⟨its.length - (i+1),by omega,rfl,hN⟩,fun x H' hy=>?_⟩));refine bq fun hF=>?_;obtain⟨W3,rfl,ZR,T5,s3,r3⟩:=h2 x H' hy;refine hF ⟨W3,ZW,its[i],p.1,p.2,rfl,T5,Uh.step ok2 s3,r3,by rw[ZR];exact e3,fun W4 ZN ZD Ug s4 Um=>⟨W4,p.1,o4,Zq,ZE,rfl,Ug,Um,by rw[ZD];exact e4,fun W5 Zo ZP UX s5 XM=>?_⟩⟩;have st:=s2.trans (s3.trans (s4.trans s5));cases o4 with
  |nx=>refine gu e2 fun YS e2=>?_;exact(hP _ _ _).2 ⟨hlt,W5,Zq,rfl,UX,st,XM,by rw[ZP];exact YS,by rw[ZP];exact e2⟩
  |ct=>refine gu e2 fun YS e2=>?_;exact(hP _ _ _).2 ⟨hlt,W5,Zq,rfl,UX,st,XM,by rw[ZP];exact YS,by rw[ZP];exact e2⟩
  |bk=>cases e2;exact q W5 Zo ZP UX (s1.trans st) XM
  |rt d=>cases e2;exact q W5 Zo ZP UX (s1.trans st) XM
 .have e':i=its.length:=by omega
  subst e';rw[QM (P3 _)] at e2;cases e2;exact hG (.inl ⟨UJ (P3 _),q W2 ZV rfl ok2 (s1.trans s2) Uh⟩)
end
structure Tn (p:Addr) (W W':Wd):Prop where
 ρ:∀(k:Nat) a,W.ρ[k]?=some a->W'.ρ[k]?=some a
 live:∀a,RL W' a->RL W a\/W.H a=none
 keep:∀a o,a≠p->W.H a=some o->¬RL W a->W'.H a=some o
 hid:W'.hid=W.hid
 still:∀a,W.H a≠none->W'.H a≠none
section
variable {K:Frag} {W W' Ξ:Wd} {p:Addr}
theorem Step.b(s:Step W W'):Tn p W W':=⟨s.ρ,s.live,fun a o _ h n=>s.keep a o h n,s.hid,s.still⟩
theorem Tn.nlive(s:Tn p W W')(h:W.H a=some o)(n:¬RL W a):¬RL W' a:=fun z=>by
 rcases s.live a z with z|z
 .exact n z
 .rw[h] at z;cases z
theorem Tn.trans(s:Tn p W W')(t:Tn p W' Ξ):Tn p W Ξ where
 ρ k a h:=t.ρ k a (s.ρ k a h)
 live a h:=by
  rcases t.live a h with z|z
  .exact s.live a z
  .exact .inr (QT fun n=>s.still a n z)
 keep a o hp h n:=t.keep a o hp (s.keep a o hp h n) (s.nlive h n)
 hid:=t.hid.trans s.hid
 still a h:=t.still a (s.still a h)
mutual
theorem DR.stepB(ok:Ok K W)(hp:W.hid p)(hl:∃ys,W.H p=some (.lst ys))(s:Tn p W W'):∀{d:D} {v:V},DR K W d v->DR K W' d v
 |_,_,.non=>.non
 |_,_,.bl b=>.bl b
 |_,_,.int i=>.int i
 |_,_,.str x=>.str x
 |_,_,.ref h=>.ref (s.ρ _ _ h)
 |_,_,.lst r n h=>.lst (s.keep _ _ (fun z=>n (.inr (by rw[z];exact hp))) r (fun z=>n (.inl z))) (fun z=>z.elim (s.nlive r (fun z=>n (.inl z))) (fun z=>n (.inr (by rw[s.hid] at z;exact z)))) (TN.stepB ok hp hl s h)
 |_,_,.scr r h=>.scr (by
   rcases r with⟨o,r⟩|r
   .obtain⟨ys,hl⟩:=hl;exact .inl ⟨o,s.keep _ _ (fun z=>by rw[z,hl] at r;cases r) r (ok.nofrz r)⟩
   .exact .inr r) (TN.stepB ok hp hl s h)
 |_,_,.tup r h=>.tup (by
   obtain⟨ys,hl⟩:=hl;exact s.keep _ _ (fun z=>by rw[z,hl] at r;cases r) r (ok.notup (.inl r))) (TN.stepB ok hp hl s h)
 |_,_,.gt r h=>.gt (by
   rcases r with r|r
   .have n:=ok.notup r;obtain⟨ys,hl⟩:=hl;rcases r with r|⟨o,r⟩
    .exact .inl (.inl (s.keep _ _ (fun z=>by rw[z,hl] at r;cases r) r n))
    .exact .inl (.inr ⟨o,s.keep _ _ (fun z=>by rw[z,hl] at r;cases r) r n⟩)
   .exact .inr r) (TN.stepB ok hp hl s h)
theorem TN.stepB(ok:Ok K W)(hp:W.hid p)(hl:∃ys,W.H p=some (.lst ys))(s:Tn p W W'):∀{ds:List D} {vs:List V},TN K W ds vs->TN K W' ds vs
 |_,_,.nil=>.nil
 |_,_,.cons h t=>.cons (h.stepB ok hp hl s) (TN.stepB ok hp hl s t)
end
theorem OR.stepB(ok:Ok K W)(hp:W.hid p)(hl:∃ys,W.H p=some (.lst ys))(s:Tn p W W')(h:OR K W a o ho):OR K W' a o ho:=by
 cases o with
 |lst ds=>obtain⟨vs,e,q⟩:=h;exact⟨vs,e,q.stepB ok hp hl s⟩
 |dK kvs=>obtain⟨vs,e,q⟩:=h;exact⟨vs,e,Paired.mapP q fun _ _ ⟨e,q⟩=>⟨e,q.stepB ok hp hl s⟩⟩
 |dN kvs=>obtain⟨vs,e,q⟩:=h;exact⟨vs,e,Paired.mapP q fun _ _ ⟨e,q⟩=>⟨e,q.stepB ok hp hl s⟩⟩
 |ins C fs=>obtain⟨vs,e,q⟩:=h;exact⟨vs,e,Paired.mapP q fun _ _ ⟨e,q⟩=>⟨e,q.stepB ok hp hl s⟩⟩
 |exc C=>exact h
theorem TQ.stepB(e:TQ K W B O)(ok:Ok K W)(hp:W.hid p)(hl:∃ys,W.H p=some (.lst ys))(s:Tn p W W'):TQ K W' B O:=⟨e.len,fun i d h=>let ⟨v,a,b⟩:=e.at_ i d h;⟨v,a,b.stepB ok hp hl s⟩⟩
def Wd.re(W:Wd)(p:Addr)(o:HO):Wd:={W with H:=upd W.H p o}
theorem iX:Tn p W (W.re p o) where
 ρ _ _ h:=h
 live _ h:=.inl h
 keep a u hp e _:=by show upd W.H p o a=_;rw[dg hp];exact e
 hid:=rfl
 still a n:=by
  show upd W.H p o a≠none;by_cases e:a=p
  .subst e;rw[eC];simp
  .rw[dg e];exact n
theorem wy(ok:Ok K W)(hp:W.hid p)(hl:∃ys,W.H p=some (.lst ys)):Ok K (W.re p o) where
 len:=ok.len
 nd:=ok.nd
 rs a m:=(iX (W:=W) (p:=p) (o:=o)).still a (ok.rs a m)
 at_ k u e:=by
  obtain⟨a,ho,h1,h2,h3⟩:=ok.at_ k u e;have hne:a≠p:=fun z=>(ok.hd p hp).2 (z▸⟨k,u,e,h1⟩);exact⟨a,ho,h1,by show upd W.H p o a=_;rw[dg hne];exact h2,h3.stepB ok hp hl iX⟩
 hd0 a z:=⟨(iX (W:=W) (p:=p) (o:=o)).still a (ok.hd a z).1,(ok.hd0 a z).2⟩
mutual
theorem DR.hide(hp:W.H p=none)(ok:Ok K W){o:HO}:∀{d:D} {v:V},DR K W d v->DR K (W.hide p o) d v
 |_,_,.non=>.non
 |_,_,.bl b=>.bl b
 |_,_,.int i=>.int i
 |_,_,.str x=>.str x
 |_,_,.ref h=>.ref h
 |_,_,.lst r n h=>.lst (by show upd W.H p o _=_;rw[dg (fk r hp)];exact r) (fun z=>z.elim (fun z=>n (.inl z)) (fun z=>z.elim (fun z=>by rw[z,hp] at r;cases r) (fun z=>n (.inr z)))) (TN.hide hp ok h)
 |_,_,.scr r h=>.scr (wG ok (eL hp) r) (TN.hide hp ok h)
 |_,_,.tup r h=>.tup (by show upd W.H p o _=_;rw[dg (fk r hp)];exact r) (TN.hide hp ok h)
 |_,_,.gt r h=>.gt (yX ok (eL hp) r) (TN.hide hp ok h)
theorem TN.hide(hp:W.H p=none)(ok:Ok K W){o:HO}:∀{ds:List D} {vs:List V},TN K W ds vs->TN K (W.hide p o) ds vs
 |_,_,.nil=>.nil
 |_,_,.cons h t=>.cons (h.hide hp ok) (TN.hide hp ok t)
end
theorem OR.hide(hp:W.H p=none)(ok:Ok K W)(h:OR K W a x ho):OR K (W.hide p o) a x ho:=by
 cases x with
 |lst ds=>obtain⟨vs,e,q⟩:=h;exact⟨vs,e,q.hide hp ok⟩
 |dK kvs=>obtain⟨vs,e,q⟩:=h;exact⟨vs,e,Paired.mapP q fun _ _ ⟨e,q⟩=>⟨e,q.hide hp ok⟩⟩
 |dN kvs=>obtain⟨vs,e,q⟩:=h;exact⟨vs,e,Paired.mapP q fun _ _ ⟨e,q⟩=>⟨e,q.hide hp ok⟩⟩
 |ins C fs=>obtain⟨vs,e,q⟩:=h;exact⟨vs,e,Paired.mapP q fun _ _ ⟨e,q⟩=>⟨e,q.hide hp ok⟩⟩
 |exc C=>exact h
theorem TQ.hide(e:TQ K W B O)(hp:W.H p=none)(ok:Ok K W):TQ K (W.hide p o) B O:=⟨e.len,fun i d h=>let ⟨v,a,b⟩:=e.at_ i d h;⟨v,a,b.hide hp ok⟩⟩
theorem oY(ok:Ok K W)(hp:W.H p=none):Ok K (W.hide p o) where
 len:=ok.len
 nd:=ok.nd
 rs a m:=(eL (o:=o) hp).still a (ok.rs a m)
 at_ k u e:=by
  obtain⟨a,ho,h1,h2,h3⟩:=ok.at_ k u e;exact⟨a,ho,h1,by show upd W.H p o a=_;rw[dg (fk h2 hp)];exact h2,h3.hide hp ok⟩
 hd0 a z:=by
  rcases z with rfl|z
  .exact⟨by show upd W.H a o a≠none;rw[eC];simp,fun m=>ok.rs a m hp⟩
  .exact⟨(eL (o:=o) hp).still a (ok.hd a z).1,(ok.hd0 a z).2⟩
def Wd.show(W:Wd)(h:Addr->Prop):Wd:={W with hid:=h}
mutual
theorem DR.show(hs:∀a,h a->W.hid a):∀{d:D} {v:V},DR K W d v->DR K (W.show h) d v
 |_,_,.non=>.non
 |_,_,.bl b=>.bl b
 |_,_,.int i=>.int i
 |_,_,.str x=>.str x
 |_,_,.ref h=>.ref h
 |_,_,.lst r n h=>.lst r (fun z=>n (z.elim .inl (fun z=>.inr (hs _ z)))) (TN.show hs h)
 |_,_,.scr r h=>.scr r (TN.show hs h)
 |_,_,.tup r h=>.tup r (TN.show hs h)
 |_,_,.gt r h=>.gt r (TN.show hs h)
theorem TN.show(hs:∀a,h a->W.hid a):∀{ds:List D} {vs:List V},TN K W ds vs->TN K (W.show h) ds vs
 |_,_,.nil=>.nil
 |_,_,.cons h t=>.cons (h.show hs) (TN.show hs t)
end
theorem FD(ok:Ok K W)(hs:∀a,h a->W.hid a):Ok K (W.show h) where
 len:=ok.len
 nd:=ok.nd
 rs:=ok.rs
 at_ k u e:=by
  obtain⟨a,ho,h1,h2,h3⟩:=ok.at_ k u e;refine(⟨a,ho,h1,h2,?_⟩);cases u with
  |lst ds=>obtain⟨vs,e,q⟩:=h3;exact⟨vs,e,q.show hs⟩
  |dK kvs=>obtain⟨vs,e,q⟩:=h3;exact⟨vs,e,Paired.mapP q fun _ _ ⟨e,q⟩=>⟨e,q.show hs⟩⟩
  |dN kvs=>obtain⟨vs,e,q⟩:=h3;exact⟨vs,e,Paired.mapP q fun _ _ ⟨e,q⟩=>⟨e,q.show hs⟩⟩
  |ins C fs=>obtain⟨vs,e,q⟩:=h3;exact⟨vs,e,Paired.mapP q fun _ _ ⟨e,q⟩=>⟨e,q.show hs⟩⟩
  |exc C=>exact h3
 hd0 a z:=ok.hd0 a (hs a z)
theorem Fp(hp:W.H p=none)(s:Tn p (W.hide p o) W'):Step W (W'.show W.hid) where
 ρ k a h:=s.ρ k a h
 live a z:=by
  rcases s.live a z with z|z
  .exact .inl z
  .have z:upd W.H p o a=none:=z;by_cases e:a=p
   .subst e;rw[eC] at z;cases z
   .rw[dg e] at z;exact .inr z
 keep a u e n:=s.keep a u (fk e hp) (by show upd W.H p o a=_;rw[dg (fk e hp)];exact e) n
 hid:=rfl
 still a n:=s.still a (by
  show upd W.H p o a≠none;by_cases e:a=p
  .subst e;rw[eC];simp
  .rw[dg e];exact n)
theorem kf(ok:Ok K W)(hp:W.hid p):¬RL W p:=(ok.hd p hp).2
end
def dM(own:List Str)(cap:List (Str×Nat))(B:G):G:=own.map (fun _=>none)++cap.map fun p=>(B[p.2]?).join
theorem TQ.cap{K:Frag}{W:Wd}{B:G}{O:St}(e:TQ K W B O)(own:List Str)(cap:List (Str×Nat)):TQ K W (dM own cap B) (ff own cap O) where
 len:=by simp[dM,ff]
 at_ i d h:=by
  unfold dM at h;unfold ff;by_cases hi:i<own.length
  .rw[Qe (by simpa using hi)] at h;simp[hi] at h
  .rw[QD (by simpa using hi)] at h⊢;simp only[Qb,Qm] at h⊢;cases hc:cap[i - own.length]? with
   |none=>rw[hc] at h;cases h
   |some p=>
    rw[hc] at h;simp only[R7] at h⊢;cases hg:B[p.2]? with
    |none=>rw[hg] at h;cases h
    |some x=>
     rw[hg] at h;cases x with
     |none=>cases h
     |some d'=>
      cases h;obtain⟨v,hv,r⟩:=e.at_ _ _ hg;exact⟨v,by rw[hv];rfl,r⟩
def dW(c:Ck)(g:GV)(tc:BV)(te:EV):List D->G->M->Option (List D×M)
 | [],_,L=>some ([],L)
 |d::r,B,L=>(g d B L).bind fun p=>(tc p.1 p.2).bind fun t=>if t.1=true then(te p.1 t.2).bind fun v=>Uw (de c v.2) ((dW c g tc te r p.1 v.2).bind fun q=>some (v.1::q.1,q.2)) else Uw (de c t.2) (dW c g tc te r p.1 t.2)
def da:BV:=fun _ L=>some (true,L)
section
variable {X:Cx} {K:Frag} {N' own:List Str} {cap:List (Str×Nat)} {scope:Scope} {tg iter elt:Expr} {ifs:List Expr} {pos:Pos} {iv:IV} {g:GV} {tc:BV} {te:EV}
theorem M4(h:Up X ifs t)(hi:∀O H Q,t' O H Q->t O H Q):Up X ifs t':=fun pins s O H Q I hw=>h pins s O H Q I (hi _ _ _ hw)
theorem ge:Up X [] (Tq K da):=M4 KW fun O H Q h=>by
 refine UC h fun W B b Z5 eH ok en e q=>?_;subst eH;cases e;exact q W rfl ok .refl
theorem oJ(h:PT X c (Tq K tc)):Up X [c] (Tq K tc):=Ee h
theorem BL{W1:Wd}{Z6:It}{its:List D}{c:Ck}{ZF:G}{ZL:St}{rs:List D}{Z5:M}{p:Addr}{Z:Hp->Prop}(ok1:Ok K W1)(hp:W1.H p=none)(jr:JR K W1 Z6 its c)(en:TQ K W1 ZF ZL)(hl:its.length<=1000000)
  (e:dW c g tc te its ZF W1.L=some (rs,Z5)) (hZ:∀W' ys,W'.L=Z5->Ok K W'->Tn p (W1.hide p (.lst [])) W'->W'.hid p->W'.H p=some (.lst ys)->TN K W' rs ys->Z W'.H):
  nY Z6 (U4 K g) (Tq K tc) (tD K te) p ZL W1.H Z:=by
 obtain⟨c1,ds,vs,r1,hj⟩:=jr;obtain⟨P,hP⟩:∃P:Nat->St->Hp->Prop,∀i ZV H2,P i ZV H2↔(i<=its.length/\∃W2 ZW done di ys,W2.H=H2/\Ok K W2/\Tn p (W1.hide p (.lst [])) W2/\W2.hid p/\W2.H p=some (.lst ys)/\TN K W2 done ys/\ys.length<=i/\TQ K W2 ZW ZV/\de c W2.L/\dW c g tc te (its.drop i) ZW W2.L=some (di,Z5)/\done++di=rs):=⟨_,fun _ _ _=>Qg⟩
 refine⟨fun i m ZV H2=>m=its.length - i/\P i ZV H2,?_,?_⟩
 .exact⟨its.length,by simp,(hP _ _ _).2 ⟨QZ _,W1.hide p (.lst []),ZF,[],rs,[],rfl,oY ok1 hp,⟨fun _ _ h=>h,fun _ h=>.inl h,fun _ _ _ h _=>h,rfl,fun _ h=>h⟩,.inl rfl,eC,.nil,P3 _,en.hide hp ok1,c1,e,rfl⟩⟩
 rintro i m ZV H2 ⟨rfl,hi⟩;refine bq fun hG=>?_;obtain⟨hi,W2,ZW,done,di,ys,rfl,ok2,s2,VI,Wk,rd,hyl,Uh,c2,e2,ed⟩:=(hP _ _ _).1 hi;have rj:TN K W2 ds vs:=(r1.hide hp ok1).stepB (oY ok1 hp) (.inl rfl) ⟨[],eC⟩ s2;obtain⟨UJ,Vo⟩:=hj W2 i ok2 c2 rj;by_cases hlt:i<its.length
 .have hd:its[i]?=some its[i]:=P9 hlt;obtain⟨h1,h2⟩:=Vo _ hd;rw[QB hlt] at e2;refine cS e2 fun pg e3 e2=>?_;refine cS e2 fun pt e4 e2=>?_;refine(hG (.inr ⟨h1,P (i+1),fun ZZ H' hN=>⟨its.length - (i+1),by omega,rfl,hN⟩,fun x H' hy=>?_⟩));refine bq fun hF=>?_;obtain⟨W3,rfl,ZR,T5,s3,r3⟩:=h2 x H' hy;refine hF ⟨W3,ZW,its[i],pg.1,pg.2,rfl,T5,Uh.step ok2 s3,r3,by rw[ZR];exact e3,fun W4 ZN ZD Ug s4 Um=>⟨W4,pg.1,pt.1,pt.2,rfl,Ug,Um,by rw[ZD];exact e4,fun W5 ZP UX s5=>?_⟩⟩;have s25:=s3.trans (s4.trans s5);split at e2
  .rename_i ht;refine cS e2 fun pv e5 e2=>?_;refine gu e2 fun c5 e2=>?_;refine cS e2 fun pq e6 e2=>?_;cases e2;refine ic (fun _=>?_) (fun n=>absurd ht n);refine⟨W5,pg.1,pv.1,pv.2,rfl,UX,Um.step Ug s5,by rw[ZP];exact e5,fun v W6 Zv Vj s6 r6=>?_⟩;have s26:=s25.trans s6;have Wm:W6.hid p:=by rw[s26.hid];exact VI
   have Wj:W6.H p=some (.lst ys):=s26.keep _ _ Wk (kf ok2 VI);have rd6:=rd.step ok2 s26;refine⟨ys,Wj,j2 (by omega),(hP _ _ _).2 ⟨hlt,W6.re p (.lst (ys++[v])),pg.1,done++[pv.1],pq.1,ys++[v],rfl,wy Vj Wm ⟨_,Wj⟩,(s2.trans s26.b).trans iX,Wm,eC,?_,by simp;omega,(((Um.step Ug s5).step UX s6).stepB Vj Wm ⟨_,Wj⟩ iX),by show de c W6.L;rw[Zv];exact c5,by show dW c g tc te _ _ W6.L=_;rw[Zv];exact e6,by simpa using ed⟩⟩;exact(rd6.append (.cons r6 .nil)).stepB Vj Wm ⟨_,Wj⟩ iX
  .rename_i ht;refine gu e2 fun c5 e2=>?_;refine ic (fun n=>absurd n ht) (fun _=>?_);exact(hP _ _ _).2 ⟨hlt,W5,pg.1,done,di,ys,rfl,UX,s2.trans s25.b,by rw[s25.hid];exact VI,s25.keep _ _ Wk (kf ok2 VI),rd.step ok2 s25,by omega,Um.step Ug s5,by rw[ZP];exact c5,by rw[ZP];exact e2,ed⟩
 .have e':i=its.length:=by omega
  subst e';rw[QM (P3 _)] at e2;cases e2;rw[QU] at ed;subst ed;exact hG (.inl ⟨UJ (P3 _),hZ W2 ys rfl ok2 s2 VI Wk rd⟩)
def eN(own:List Str)(cap:List (Str×Nat))(iv:IV)(g:GV)(tc:BV)(te:EV):EV:=fun B L=>(iv B L).bind fun s=>if s.1.1.length<=1000000 then(dW s.1.2 g tc te s.1.1 (dM own cap B) s.2).bind fun q=>some (.lst q.1,q.2) else none
theorem vS{W W1 W':Wd}{p:Addr}{rs:List D}{ys:List V}(s1:Step W W1)(hp:W1.H p=none)(ok1:Ok K W1)(Vx:Ok K W')(s:Tn p (W1.hide p (.lst [])) W')(YL:W'.hid p)(hy:W'.H p=some (.lst ys))(r:TN K W' rs ys):
  Ok K (W'.show W1.hid)/\Step W (W'.show W1.hid)/\DR K (W'.show W1.hid) (.lst rs) (.ref p):=by
 have hs:∀a,W1.hid a->W'.hid a:=fun a z=>by rw[s.hid];exact .inr z
 refine⟨FD Vx hs,s1.trans (Fp hp s),.lst hy (fun z=>?_) (r.show hs)⟩;rcases z with z|z
 .exact kf Vx YL z
 .exact BH ok1 hp z
theorem Ib{W:Wd}{B:G}{O:St}{d:D}{Z5:M}(ok:Ok K W)(en:TQ K W B O)(e:eN own cap iv g tc te B W.L=some (d,Z5)){Z:Addr->Hp->Prop}(q:∀v W',W'.L=Z5->Ok K W'->Step W W'->DR K W' d v->∀p,v=.ref p->Z p W'.H):
  Vf K iv O W.H fun Z6 H1=>∀p,H1 p=none->nY Z6 (U4 K g) (Tq K tc) (tD K te) p (ff own cap O) H1 (Z p):=by
 obtain⟨⟨⟨its,c⟩,Z4⟩,e1,e⟩:=UP e;refine(⟨W,B,its,c,Z4,rfl,ok,en,e1,fun Z6 W1 ZK ok1 s1 jr p hp=>?_⟩);split at e
 .rename_i hl;obtain⟨⟨rs,Z3⟩,e2,e⟩:=UP e;cases e;refine BL ok1 hp jr ((en.step ok s1).cap own cap) hl (by rw[ZK];exact e2) fun W' ys Zl Vx s' YL hy r=>?_;obtain⟨a1,a2,a3⟩:=vS s1 hp ok1 Vx s' YL hy r;exact(q _ (W'.show W1.hid) Zl a1 a2 a3 p rfl)
 .cases e
theorem iA(S:TK X N' own cap scope)(hi:PI X tg iter (Vf K iv))
  (hg:∀cl C Z1 Z0 ex,PG (c3 X N' scope cl C Z1 Z0 ex) tg (U4 K g)) (ht:∀cl C Z1 Z0 ex,Up (c3 X N' scope cl C Z1 Z0 ex) ifs (Tq K tc)) (he:∀cl C Z1 Z0 ex,PE (c3 X N' scope cl C Z1 Z0 ex) elt (tD K te))
  (hx:∀e s,X.xe e s->False:=by exact fun _ _ z=>z) (hc:X.calm=true:=by rfl) (hs:∀x,foldedSetIterable iter X.env x=pure x:=by intro _;rfl):
  PE X (.ListComp elt [⟨tg,iter,ifs,0⟩] scope pos) (tD K (eN own cap iv g tc te)):=du (CC S hi hg ht he hx hc hs) fun O H Q h=>by
 refine UC h fun W B d Z5 eH ok en e q=>?_;subst eH;exact Ib ok en e fun v W' h1 h2 h3 h4 p hv=>by subst hv;exact q _ W' h1 h2 h3 h4
end
open PyProof.Rows (envOfC)
def dF(n m:Nat)(es:SV):C0:=fun ds L=>if ds.length=m then(es (ds.map some++List.replicate (n - ds.length) none) L).bind fun o=>match o.1 with
  | .rt d=>some (d,o.2.2)
  | .nx=>some (.non,o.2.2)
  |_=>none
 else none
section
variable {P:Program} {w:World} {K:Frag} {mg:Str->Option Value} {base:Heap}
theorem z9{W:Wd}{ds:List D}{vs:List V}{n:Nat}(r:TN K W ds vs):TQ K W (ds.map some++List.replicate (n - ds.length) none) (vs.map some++List.replicate (n - vs.length) none) where
 len:=by simp[r.length]
 at_ i d h:=by
  by_cases hi:i<ds.length
  .rw[Qe (by simpa using hi)] at h;rw[Qe (by simpa using r.length▸hi)];simp only[Qm] at h⊢;cases hd:ds[i]? with
   |none=>rw[hd] at h;cases h
   |some d'=>
    rw[hd] at h;cases h;obtain⟨v,hv,q⟩:=r.get hd;exact⟨v,by rw[hv];rfl,q⟩
  .rw[QD (by simpa using hi)] at h;simp[List.getElem?_replicate] at h
theorem eg(F:T2 K x qual st f fd)(S:TC N ps (c9 st))
  (hb:∀(cdv:Value) (A:Around) (outer:List Env) (s:Shared) (H:Hp) (E:XK),TU k (A.deeper (envOfC qual (c9 st) s.heap.objs.size f cdv))->UT (dB T1 P w K mg base N qual (c9 st) f cdv A outer s H E).nox (gh st) (Ue K es)):
  TJ P w K mg base T1 (k+1) f fd ps (TV K (dF N.length ps.length es)):=by
 refine F.ok S (fun vs H Q E h=>?_) (fun cdv A outer s H vs Q E hr h=>?_)
 .obtain⟨W,ds,d,Z5,_,_,r,e,_⟩:=h;unfold dF at e;split at e
  .rename_i hl;rw[←r.length];exact hl
  .cases e
 .obtain⟨W,ds,d,Z5,rfl,ok,r,e,q⟩:=h;refine⟨_,hb cdv A outer s W.H E hr,?_⟩;unfold dF at e;split at e
  .obtain⟨⟨o,ZX,Z3⟩,e1,e⟩:=UP e;refine⟨W,_,o,ZX,Z3,rfl,ok,z9 r,e1,fun W' ZZ Z2 Vx s' en'=>?_⟩;cases o with
   |rt z=>cases e;exact fun v rv=>q v W' Z2 Vx s' rv
   |nx=>cases e;exact q _ W' Z2 Vx s' .non
   |bk=>cases e
   |ct=>cases e
  .cases e
end
section
variable {X:Cx} {K:Frag} {a b c e:Expr} {ea eb ec:EV} {pos p:Pos}
theorem Ux.or(ra:Ux K r f)(rb:Ux K r' g)(hh:∀x y L z,h x y L=some z->f x y L=some z\/g x y L=some z):Ux K (fun x y H Q=>r x y H Q\/r' x y H Q) h:=by
 intro W x y d e z Z5 Q ok r1 r2 hf q;rcases hh _ _ _ _ hf with hf|hf
 .exact .inl (ra W x y d e z Z5 Q ok r1 r2 hf q)
 .exact .inr (rb W x y d e z Z5 Q ok r1 r2 hf q)
theorem X9:Ux K Br nU:=by
 intro W x y d e z Z5 Q ok r1 r2 hf q;refine cS hf fun xs hx hf=>?_;refine cS hf fun ys hy hf=>?_;split at hf
 .rename_i hl;cases hf;obtain⟨a,vs,rfl,ha,hv⟩:=ur ok hx r1;obtain⟨b,us,rfl,hb,hu⟩:=ur ok hy r2;exact⟨a,b,vs,us,rfl,rfl,ha,hb,il (by rw[←hv.length,←hu.length];omega),fun p hp=>q _ (W.lay p (.lst (vs++us))) rfl (fE ok hp) (eL hp) (ni ok hp (hv.append hu))⟩
 .cases hf
theorem Mx:Ux K wx Av:=by
 intro W x y d e z Z5 Q ok r1 r2 hf q;refine cS hf fun xs hx hf=>?_;split at hf
 .split at hf
  .rename_i hl;cases hf;cases r2;obtain⟨a,vs,rfl,ha,hv⟩:=ur ok hx r1;exact⟨a,_,vs,rfl,rfl,ha,by omega,by omega,il (by rw[←hv.length];omega),fun p hp=>q _ (W.lay p _) rfl (fE ok hp) (eL hp) (ni ok hp (hv.rep _))⟩
  .cases hf
 .cases hf
def pz(x y:D)(L:M):Fr:=match x with
 | .tup xs=>(im y).bind fun ys=>if xs≠[]/\xs.length+ys.length<=1000000 then some (.tup (xs++ys),L) else none
 |_=>none
noncomputable instance{J:Type}{xs:List J}:Decidable (xs≠[]):=by cases xs<;>simp<;>infer_instance
theorem GB:Ux K (zO K) pz:=by
 intro W x y d e z Z5 Q ok r1 r2 hf q;unfold pz at hf;split at hf
 .rename_i xs;refine cS hf fun ys hy hf=>?_;split at hf
  case isFalse=>cases hf
  rename_i hl;cases hf;have rr:=r1;obtain⟨a,vs,rfl,ha,hv⟩:=i4 (ds:=xs) rfl r1;obtain⟨b,us,rfl,hb,hu⟩:=i4 hy r2;refine⟨a,b,vs,us,rfl,rfl,ha,hb,fun z=>?_,il (by rw[←hv.length,←hu.length];omega),fun z=>?_,fun _ p hp=>q _ (W.lay p (.tup (vs++us))) rfl (fE ok hp) (eL hp) (j0 ok hp (hv.append hu))⟩
  .have:=hv.length;rw[z] at this;exact hl.1 (QA.mp this)
  .have h0:=hu.length;rw[z] at h0;have h1:=QA.mp h0;subst h1;refine q _ W rfl ok .refl ?_;rw[QU];exact rr
 .cases hf
def eV(x y:D)(L:M):Fr:=match x with
 | .int i=>match y with
  | .int j=>some (.int (i+j),L)
  |_=>none
 | .tup _=>pz x y L
 |_=>nU x y L
theorem i5(ha:PE X a (tD K ea))(hb:PE X b (tD K eb))(hK:X.K=K:=by rfl):PE X (.BinOp a .Add b pos) (tD K (v2 eV ea eb)):=by
 subst hK;refine mv (YE.or (YD.or IK)) ((iC (h:=fun i j=>.int (i+j)) fun _ _ _=>.int _).or (X9.or GB (h:=fun x y L=>match x with| .tup _=>pz x y L|_=>nU x y L) fun x y L z h=>?_) fun x y L z h=>?_) ha hb
 .split at h
  .exact .inr h
  .exact .inl h
 .unfold eV at h;split at h
  .split at h
   .exact .inl h
   .cases h
  .exact .inr h
  .rename_i h1 h2;refine .inr ?_;split
   .exact absurd rfl (h2 _)
   .exact h
def gg(x y:D)(L:M):Fr:=match x with
 | .int i=>match y with
  | .int j=>if Ul i j then some (.int (i*j),L) else none
  |_=>none
 |_=>Av x y L
theorem kR(ha:PE X a (tD K ea))(hb:PE X b (tD K eb)):PE X (.BinOp a .Mult b pos) (tD K (v2 gg ea eb)):=by
 refine mv (YC.or Pc) ((oy (C:=Ul) (h:=fun i j=>.int (i*j)) fun _ _ _=>.int _).or Mx fun x y L z h=>?_) ha hb;unfold gg at h;split at h
 .split at h
  .exact .inl h
  .cases h
 .exact .inr h
def ij(f g:D->D->M->Fr)(ea eb ec:EV):EV:=fun B L=>(ea B L).bind fun p=>(eb B p.2).bind fun q=>(f p.1 q.1 q.2).bind fun t=>match t.1 with
 | .bl true=>(ec B t.2).bind fun r=>g q.1 r.1 r.2
 | .bl false=>some (.bl false,t.2)
 |_=>none
theorem M1(ra:Ux K r f)(rb:Ux K r' g):∀O H Q,tD K (ij f g ea eb ec) O H Q->zD r r' (tD K ea) (tD K eb) (tD K ec) O H Q:=fun O H Q h=>by
 refine UC h fun W B d Z5 eH ok en e q=>?_;subst eH;refine cS e fun p1 e1 e=>?_;refine cS e fun p2 e2 e=>?_;refine cS e fun p3 e3 e=>?_;refine⟨W,B,p1.1,p1.2,rfl,ok,en,e1,fun x W1 Z2 ok1 s1 r1=>⟨W1,B,p2.1,p2.2,rfl,ok1,en.step ok s1,by rw[Z2];exact e2,fun y W2 ZU ok2 s2 r2=>?_⟩⟩;refine ra W2 x y _ _ _ _ _ ok2 (r1.step ok1 s2) r2 (by rw[ZU];exact e3) fun v W3 ZR T5 s3 r3=>?_;split at e
 .rename_i hp;rw[hp] at r3;cases r3;refine cS e fun p4 e4 e=>?_;refine⟨true,rfl,ym ⟨W3,B,p4.1,p4.2,rfl,T5,((en.step ok s1).step ok1 s2).step ok2 s3,by rw[ZR];exact e4,fun z W4 ZD Ug s4 r4=>?_⟩⟩;exact rb W4 y z _ _ _ _ _ Ug ((r2.step ok2 s3).step T5 s4) r4 (by rw[ZD];exact e) fun v5 W5 ZP UX s5 r5=>q v5 W5 ZP UX (s1.trans (s2.trans (s3.trans (s4.trans s5)))) r5
 .rename_i hp;rw[hp] at r3;cases r3;cases e;exact⟨false,rfl,yy (q _ W3 ZR T5 (s1.trans (s2.trans s3)) (.bl _))⟩
 .cases e
theorem ze(ho:UU X (compareOp op) r)(ra:Ux K r f)(Wo:UU X (compareOp Yf) r')(rb:Ux K r' g)(ha:PE X a (tD K ea))(hb:PE X b (tD K eb))(hc:PE X c (tD K ec))
  (hm:lastMarks [op,Yf] [b,c]=false:=by with_unfolding_all rfl):PT X (.Compare a [op,Yf] [b,c] pos) (Tq K (vT (ij f g ea eb ec))):=iq (FE ho Wo ha hb hc hm) (og (M1 ra rb))
theorem ya:Ux K (XC fun i j=>.bl (decide (i<j))) Vq:=iC fun _ _ _=>.bl _
theorem xQ:Ux K (XC fun i j=>.bl (decide (i<=j))) WV:=iC fun _ _ _=>.bl _
end
section
variable {X:Cx} {K:Frag} {ea:EV} {pos p:Pos}
def jJ(ds:List D):List D:=ds.zipIdx.map fun x=>D.tup [.int (x.2:Nat),x.1]
theorem G8{ds:List D}{i:Nat}{d:D}(h:(jJ ds)[i]?=some d):∃x,ds[i]?=some x/\d=.tup [.int (i:Nat),x]:=by
 unfold jJ at h;rw[Qm] at h;simp only[List.getElem?_zipIdx] at h;cases hx:ds[i]? with
 |none=>rw[hx] at h;cases h
 |some x=>rw[hx] at h;simp at h;exact⟨x,rfl,h.symm⟩
def uC(ea:EV):IV:=fun B L=>(ea B L).bind fun p=>(VP p.2 p.1).bind fun s=>some ((jJ s.1,s.2),p.2)
theorem L4(ml:X.mg "enumerate"=none) {a:Expr} {elts:List Expr} {k:Nat} {Vh:Pos} (ha:PE X a (tD K ea)) (hg:Gl X "enumerate":=by rfl) (hs:starEach [a] X.env=[(false,eval a X.env)]:=by rfl) (hK:X.K=K:=by rfl):
  PI X (.Tuple elts k Vh) (.Call (.Name "enumerate" p) [a] [] pos) (Vf K (uC ea)):=lq (iEn K ml ha hg hs hK) fun O H R h=>by
 refine Ui h fun W B its c Z5 eH ok en e q=>?_;subst eH;refine cS e fun p1 e1 e=>?_;obtain⟨⟨ds,c'⟩,e2,e⟩:=UP e;cases e;refine(⟨W,B,p1.1,p1.2,rfl,ok,en,e1,fun v W1 Z2 ok1 s1 r1=>?_⟩);obtain⟨c0,a,rfl,hh⟩:=u6 ok1 (by rw[Z2];exact e2) r1;obtain⟨Υ,h0,_⟩:=hh W1 ok1 c0 r1;refine(⟨a,rfl,⟨_,h0⟩,q (Ite K a) W1 Z2 ok1 s1 ⟨c0,[p1.1],[.ref a],.cons r1 .nil,fun W2 i ok2 c2 r2=>?_⟩⟩);cases r2 with
 |cons r2 _=>
  obtain⟨vs,hs,hv⟩:=hh W2 ok2 c2 r2;refine⟨fun hi=>⟨vs,hs,by rw[←hv.length];simpa[jJ] using hi⟩,fun d hd=>?_⟩;obtain⟨x,hx,rfl⟩:=G8 hd;obtain⟨v,Ut,Vz⟩:=hv.get hx;refine(⟨⟨vs,v,hs,Ut⟩,fun y H' hy=>?_⟩);obtain⟨p,u,rfl,hp,rfl,hu⟩:=hy;have:=hu vs hs;rw[Ut] at this;cases this;exact⟨W2.lay p _,rfl,rfl,fE ok2 hp,eL hp,j0 ok2 hp (.cons (.int _) (.cons Vz .nil))⟩
end
def ia(c:Ck)(g:GV)(tc:BV)(te:EV):List D->G->M->Option (List D×G×M)
 | [],B,L=>some ([],B,L)
 |d::r,B,L=>(g d B L).bind fun p=>(tc p.1 p.2).bind fun t=>if t.1=true then(te p.1 t.2).bind fun v=>Uw (de c v.2) ((ia c g tc te r p.1 v.2).bind fun q=>some (v.1::q.1,q.2)) else Uw (de c t.2) (ia c g tc te r p.1 t.2)
def fO(c:Ck)(g:GV)(tc:BV)(iv2:IV)(g2:GV)(UQ:BV)(te:EV):List D->G->M->Option (List D×M)
 | [],_,L=>some ([],L)
 |d::r,B,L=>(g d B L).bind fun p=>(tc p.1 p.2).bind fun t=>if t.1=true then(iv2 p.1 t.2).bind fun s=>(ia s.1.2 g2 UQ te s.1.1 p.1 s.2).bind fun q=>Uw (de c q.2.2) ((fO c g tc iv2 g2 UQ te r q.2.1 q.2.2).bind fun z=>some (q.1++z.1,z.2)) else Uw (de c t.2) (fO c g tc iv2 g2 UQ te r p.1 t.2)
section
variable {X:Cx} {K:Frag} {N' own:List Str} {cap:List (Str×Nat)} {scope:Scope} {tg iter elt T3 TF:Expr} {ifs Tg:List Expr} {pos:Pos} {iv iv2:IV} {g g2:GV} {tc UQ:BV} {te:EV}
theorem Ft(ok:Ok K W)(hp:W.hid p)(hy:W.H p=some (.lst ys0))(rd0:TN K W WB ys0)(jr:JR K W Z6 its c)(en:TQ K W ZF ZL)
  (e:ia c g tc te its ZF W.L=some (rs,ZX,Z5)) (hl:WB.length+rs.length<=1000000) (hZ:∀W' ZZ ys,W'.L=Z5->Ok K W'->Tn p W W'->W'.hid p->W'.H p=some (.lst ys)->TN K W' (WB++rs) ys->TQ K W' ZX ZZ->Z ZZ W'.H):
  rB Z6 (U4 K g) (Tq K tc) (tD K te) p ZL W.H Z:=by
 obtain⟨c1,ds,vs,r1,hj⟩:=jr;obtain⟨P,hP⟩:∃P:Nat->St->Hp->Prop,∀i ZV H2,P i ZV H2↔(i<=its.length/\∃W2 ZW done di ys,W2.H=H2/\Ok K W2/\Tn p W W2/\W2.hid p/\W2.H p=some (.lst ys)/\TN K W2 done ys/\TQ K W2 ZW ZV/\de c W2.L/\ia c g tc te (its.drop i) ZW W2.L=some (di,ZX,Z5)/\done++di=WB++rs):=⟨_,fun _ _ _=>Qg⟩
 refine⟨fun i m ZV H2=>m=its.length - i/\P i ZV H2,?_,?_⟩
 .exact⟨its.length,by simp,(hP _ _ _).2 ⟨QZ _,W,ZF,WB,rs,ys0,rfl,ok,Step.refl.b,hp,hy,rd0,en,c1,e,rfl⟩⟩
 rintro i m ZV H2 ⟨rfl,hi⟩;refine bq fun hG=>?_;obtain⟨hi,W2,ZW,done,di,ys,rfl,ok2,s2,VI,Wk,rd,Uh,c2,e2,ed⟩:=(hP _ _ _).1 hi;have rj:TN K W2 ds vs:=r1.stepB ok hp ⟨_,hy⟩ s2;obtain⟨UJ,Vo⟩:=hj W2 i ok2 c2 rj;by_cases hlt:i<its.length
 .have hd:its[i]?=some its[i]:=P9 hlt;obtain⟨h1,h2⟩:=Vo _ hd;rw[QB hlt] at e2;refine cS e2 fun pg e3 e2=>?_;refine cS e2 fun pt e4 e2=>?_;refine(hG (.inr ⟨h1,P (i+1),fun ZZ H' hN=>⟨its.length - (i+1),by omega,rfl,hN⟩,fun x H' hy=>?_⟩));refine bq fun hF=>?_;obtain⟨W3,rfl,ZR,T5,s3,r3⟩:=h2 x H' hy;refine hF ⟨W3,ZW,its[i],pg.1,pg.2,rfl,T5,Uh.step ok2 s3,r3,by rw[ZR];exact e3,fun W4 ZN ZD Ug s4 Um=>⟨W4,pg.1,pt.1,pt.2,rfl,Ug,Um,by rw[ZD];exact e4,fun W5 ZP UX s5=>?_⟩⟩;have s25:=s3.trans (s4.trans s5);split at e2
  .rename_i ht;refine cS e2 fun pv e5 e2=>?_;refine gu e2 fun c5 e2=>?_;obtain⟨⟨q1,Zb,Y9⟩,e6,e2⟩:=UP e2;cases e2;refine(ic (fun _=>?_) (fun n=>absurd ht n));refine⟨W5,pg.1,pv.1,pv.2,rfl,UX,Um.step Ug s5,by rw[ZP];exact e5,fun v W6 Zv Vj s6 r6=>?_⟩;have s26:=s25.trans s6;have Wm:W6.hid p:=by rw[s26.hid];exact VI
   have Wj:W6.H p=some (.lst ys):=s26.keep _ _ Wk (kf ok2 VI);have rd6:=rd.step ok2 s26;have hlen:ys.length<1000000:=by
    have h1:=congrArg List.length ed;simp only[Qp,Qj] at h1;rw[←rd.length];omega
   refine⟨ys,Wj,j2 (by omega),(hP _ _ _).2 ⟨hlt,W6.re p (.lst (ys++[v])),pg.1,done++[pv.1],q1,ys++[v],rfl,wy Vj Wm ⟨_,Wj⟩,(s2.trans s26.b).trans iX,Wm,eC,?_,(((Um.step Ug s5).step UX s6).stepB Vj Wm ⟨_,Wj⟩ iX),by show de c W6.L;rw[Zv];exact c5,by show ia c g tc te _ _ W6.L=_;rw[Zv];exact e6,by simpa using ed⟩⟩;exact(rd6.append (.cons r6 .nil)).stepB Vj Wm ⟨_,Wj⟩ iX
  .rename_i ht;refine gu e2 fun c5 e2=>?_;refine ic (fun n=>absurd n ht) (fun _=>?_);exact(hP _ _ _).2 ⟨hlt,W5,pg.1,done,di,ys,rfl,UX,s2.trans s25.b,by rw[s25.hid];exact VI,s25.keep _ _ Wk (kf ok2 VI),rd.step ok2 s25,Um.step Ug s5,by rw[ZP];exact c5,by rw[ZP];exact e2,ed⟩
 .have e':i=its.length:=by omega
  subst e';rw[QM (P3 _)] at e2;cases e2;rw[QU] at ed;subst ed;exact hG (.inl ⟨UJ (P3 _),hZ W2 ZV ys rfl ok2 s2 VI Wk rd Uh⟩)
theorem MW(ok1:Ok K W1)(hp:W1.H p=none)(jr:JR K W1 Z6 its c)(en:TQ K W1 ZF ZL)(hl:rs.length<=1000000)
  (e:fO c g tc iv2 g2 UQ te its ZF W1.L=some (rs,Z5)) (hZ:∀W' ys,W'.L=Z5->Ok K W'->Tn p (W1.hide p (.lst [])) W'->W'.hid p->W'.H p=some (.lst ys)->TN K W' rs ys->Z W'.H):
  lD Z6 (U4 K g) (Tq K tc) (Vf K iv2) (U4 K g2) (Tq K UQ) (tD K te) p ZL W1.H Z:=by
 obtain⟨c1,ds,vs,r1,hj⟩:=jr;obtain⟨P,hP⟩:∃P:Nat->St->Hp->Prop,∀i ZV H2,P i ZV H2↔(i<=its.length/\∃W2 ZW done di ys,W2.H=H2/\Ok K W2/\Tn p (W1.hide p (.lst [])) W2/\W2.hid p/\W2.H p=some (.lst ys)/\TN K W2 done ys/\TQ K W2 ZW ZV/\de c W2.L/\fO c g tc iv2 g2 UQ te (its.drop i) ZW W2.L=some (di,Z5)/\done++di=rs):=⟨_,fun _ _ _=>Qg⟩
 refine⟨fun i m ZV H2=>m=its.length - i/\P i ZV H2,?_,?_⟩
 .exact⟨its.length,by simp,(hP _ _ _).2 ⟨QZ _,W1.hide p (.lst []),ZF,[],rs,[],rfl,oY ok1 hp,⟨fun _ _ h=>h,fun _ h=>.inl h,fun _ _ _ h _=>h,rfl,fun _ h=>h⟩,.inl rfl,eC,.nil,en.hide hp ok1,c1,e,rfl⟩⟩
 rintro i m ZV H2 ⟨rfl,hi⟩;refine bq fun hG=>?_;obtain⟨hi,W2,ZW,done,di,ys,rfl,ok2,s2,VI,Wk,rd,Uh,c2,e2,ed⟩:=(hP _ _ _).1 hi;have rj:TN K W2 ds vs:=(r1.hide hp ok1).stepB (oY ok1 hp) (.inl rfl) ⟨[],eC⟩ s2;obtain⟨UJ,Vo⟩:=hj W2 i ok2 c2 rj;by_cases hlt:i<its.length
 .have hd:its[i]?=some its[i]:=P9 hlt;obtain⟨h1,h2⟩:=Vo _ hd;rw[QB hlt] at e2;refine cS e2 fun pg e3 e2=>?_;refine cS e2 fun pt e4 e2=>?_;refine(hG (.inr ⟨h1,P (i+1),fun ZZ H' hN=>⟨its.length - (i+1),by omega,rfl,hN⟩,fun x H' hy=>?_⟩));refine bq fun hF=>?_;obtain⟨W3,rfl,ZR,T5,s3,r3⟩:=h2 x H' hy;refine hF ⟨W3,ZW,its[i],pg.1,pg.2,rfl,T5,Uh.step ok2 s3,r3,by rw[ZR];exact e3,fun W4 ZN ZD Ug s4 Um=>⟨W4,pg.1,pt.1,pt.2,rfl,Ug,Um,by rw[ZD];exact e4,fun W5 ZP UX s5=>?_⟩⟩;have s25:=s3.trans (s4.trans s5);split at e2
  .rename_i ht;obtain⟨⟨⟨Wi,k2⟩,Y8⟩,e5,e2⟩:=UP e2;obtain⟨⟨q1,Zb,Y9⟩,e6,e2⟩:=UP e2;refine gu e2 fun c6 e2=>?_;refine cS e2 fun z e7 e2=>?_;cases e2;refine(ic (fun _=>?_) (fun n=>absurd ht n));refine⟨W5,pg.1,Wi,k2,Y8,rfl,UX,Um.step Ug s5,by rw[ZP];exact e5,fun J2 W6 Zv Vj s6 jr6=>?_⟩;have s26:=s25.trans s6;have Wm:W6.hid p:=by rw[s26.hid];exact VI
   have Wj:W6.H p=some (.lst ys):=s26.keep _ _ Wk (kf ok2 VI);have hlen:done.length+q1.length<=1000000:=by
    have h1:=congrArg List.length ed;simp only[Qp] at h1;omega
   refine Ft Vj Wm Wj (rd.step ok2 s26) jr6 ((Um.step Ug s5).step UX s6) (by rw[Zv];exact e6) hlen fun W7 ZS ys7 Zu XY s7 hp7 hy7 rd7 en7=>?_;exact(hP _ _ _).2 ⟨hlt,W7,Zb,done++q1,z.1,ys7,rfl,XY,(s2.trans s26.b).trans s7,hp7,hy7,rd7,en7,by rw[Zu];exact c6,by rw[Zu];exact e7,by simpa using ed⟩
  .rename_i ht;refine gu e2 fun c5 e2=>?_;refine ic (fun n=>absurd n ht) (fun _=>?_);exact(hP _ _ _).2 ⟨hlt,W5,pg.1,done,di,ys,rfl,UX,s2.trans s25.b,by rw[s25.hid];exact VI,s25.keep _ _ Wk (kf ok2 VI),rd.step ok2 s25,Um.step Ug s5,by rw[ZP];exact c5,by rw[ZP];exact e2,ed⟩
 .have e':i=its.length:=by omega
  subst e';rw[QM (P3 _)] at e2;cases e2;rw[QU] at ed;subst ed;exact hG (.inl ⟨UJ (P3 _),hZ W2 ys rfl ok2 s2 VI Wk rd⟩)
def jF(own:List Str)(cap:List (Str×Nat))(iv:IV)(g:GV)(tc:BV)(iv2:IV)(g2:GV)(UQ:BV)(te:EV):EV:=fun B L=>(iv B L).bind fun s=>(fO s.1.2 g tc iv2 g2 UQ te s.1.1 (dM own cap B) s.2).bind fun q=>if q.1.length<=1000000 then some (.lst q.1,q.2) else none
theorem wQ{W:Wd}{B:G}{O:St}{d:D}{Z5:M}(ok:Ok K W)(en:TQ K W B O)(e:jF own cap iv g tc iv2 g2 UQ te B W.L=some (d,Z5)){Z:Addr->Hp->Prop}(q:∀v W',W'.L=Z5->Ok K W'->Step W W'->DR K W' d v->∀p,v=.ref p->Z p W'.H):
  Vf K iv O W.H fun Z6 H1=>∀p,H1 p=none->lD Z6 (U4 K g) (Tq K tc) (Vf K iv2) (U4 K g2) (Tq K UQ) (tD K te) p (ff own cap O) H1 (Z p):=by
 obtain⟨⟨⟨its,c⟩,Z4⟩,e1,e⟩:=UP e;refine(⟨W,B,its,c,Z4,rfl,ok,en,e1,fun Z6 W1 ZK ok1 s1 jr p hp=>?_⟩);obtain⟨⟨rs,Z3⟩,e2,e⟩:=UP e;split at e
 .rename_i hl;cases e;refine MW ok1 hp jr ((en.step ok s1).cap own cap) hl (by rw[ZK];exact e2) fun W' ys Zl Vx s' YL hy r=>?_;obtain⟨a1,a2,a3⟩:=vS s1 hp ok1 Vx s' YL hy r;exact(q _ (W'.show W1.hid) Zl a1 a2 a3 p rfl)
 .cases e
theorem Ot(S:TK X N' own cap scope)(hi:PI X tg iter (Vf K iv))
  (hg:∀cl C Z1 Z0 ex,PG (c3 X N' scope cl C Z1 Z0 ex) tg (U4 K g)) (ht:∀cl C Z1 Z0 ex,Up (c3 X N' scope cl C Z1 Z0 ex) ifs (Tq K tc))
  (Wv:∀cl C Z1 Z0 ex,PI (c3 X N' scope cl C Z1 Z0 ex) T3 TF (Vf K iv2)) (WJ:∀cl C Z1 Z0 ex,PG (c3 X N' scope cl C Z1 Z0 ex) T3 (U4 K g2)) (Wl:∀cl C Z1 Z0 ex,Up (c3 X N' scope cl C Z1 Z0 ex) Tg (Tq K UQ))
  (he:∀cl C Z1 Z0 ex,PE (c3 X N' scope cl C Z1 Z0 ex) elt (tD K te))
  (hx:∀e s,X.xe e s->False:=by exact fun _ _ z=>z) (hc:X.calm=true:=by rfl) (hs:∀x,foldedSetIterable iter X.env x=pure x:=by intro _;rfl) (Tj:∀cl C x,foldedSetIterable TF (compEnvC scope cl C X.env) x=pure x:=by intro _ _ _;rfl):
  PE X (.ListComp elt [⟨tg,iter,ifs,0⟩,⟨T3,TF,Tg,0⟩] scope pos) (tD K (jF own cap iv g tc iv2 g2 UQ te)):=du (MC S hi hg ht Wv WJ Wl he hx hc hs Tj) fun O H Q h=>by
 refine UC h fun W B d Z5 eH ok en e q=>?_;subst eH;exact wQ ok en e fun v W' h1 h2 h3 h4 p hv=>by subst hv;exact q _ W' h1 h2 h3 h4
theorem Gw{i:Nat}{y:Str}{py XS:Pos}(hN:X.N.Nodup)(WU:X.N[i]?=some y)(hy:X.env.scope.names.lookup y=some .local)(S:TK X N' own cap scope)(hi:PI X tg iter (Vf K iv))
  (hg:∀cl C Z1 Z0 ex,PG (c3 X N' scope cl C Z1 Z0 ex) tg (U4 K g)) (ht:∀cl C Z1 Z0 ex,Up (c3 X N' scope cl C Z1 Z0 ex) ifs (Tq K tc))
  (Wv:∀cl C Z1 Z0 ex,PI (c3 X N' scope cl C Z1 Z0 ex) T3 TF (Vf K iv2)) (WJ:∀cl C Z1 Z0 ex,PG (c3 X N' scope cl C Z1 Z0 ex) T3 (U4 K g2)) (Wl:∀cl C Z1 Z0 ex,Up (c3 X N' scope cl C Z1 Z0 ex) Tg (Tq K UQ))
  (he:∀cl C Z1 Z0 ex,PE (c3 X N' scope cl C Z1 Z0 ex) elt (tD K te))
  (_Q:swapsWith (.ListComp elt [⟨tg,iter,ifs,0⟩,⟨T3,TF,Tg,0⟩] scope pos) (some (.Name y py)) XS.line X.env=pure true:=by rfl)
  (hx:∀e s,X.xe e s->False:=by exact fun _ _ z=>z) (hc:X.calm=true:=by rfl) (hs:∀x,foldedSetIterable iter X.env x=pure x:=by intro _;rfl) (Tj:∀cl C x,foldedSetIterable TF (compEnvC scope cl C X.env) x=pure x:=by intro _ _ _;rfl):
  PS X (.Assign [.Name y py] (.ListComp elt [⟨tg,iter,ifs,0⟩,⟨T3,TF,Tg,0⟩] scope pos) XS) (Ue K (dh (jF own cap iv g tc iv2 g2 UQ te) (cR i))):=fb (Mz hN WU hy S hi hg ht Wv WJ Wl he _Q hx hc hs Tj) fun D O H h=>by
 refine Ui h fun W B o ZX Z5 eH ok en e q=>?_;subst eH;refine cS e fun p1 e1 e=>?_;cases e;exact wQ (Z:=fun p H2=>D.nx (O.set i (some (.ref p))) H2) ok en e1 fun v W' h1 h2 h3 h4 p hv=>by subst hv;exact q W' _ h1 h2 h3 ((en.step ok h3).set h4 i)
end
section
variable {n:Nat} {L:M}
theorem Lg{i:Int}:py (n+1) L (.int i)=some (.int i):=rfl
theorem EJ{x:Str}:py (n+1) L (.str x)=some (.str x):=rfl
theorem bs{J β:Type}{a:J}{f:J->Option β}:(some a).bind f=f a:=rfl
theorem jz{J β γ:Type}{f:β->Option γ}{g:J->β}{h:J->γ}:∀{l:List J},(∀x∈l,f (g x)=some (h x))->dQ f (l.map g)=some (l.map h)
 | [],_=>rfl
 |x::r,e=>by
  have e1:=e x (by simp);have e2:=jz (l:=r) fun y hy=>e y (by simp[hy]);simp only[Qc,dQ,e1,e2,bs]
end
section
variable {B:G} {L Z4 Z3:M} {ea eb:EV} {x y d:D} {f:D->D->M->Fr} {f1:D->M->Fr} {i:Nat}
theorem xS(h:B[i]?=some (some d)):be i B L=some (d,L):=by unfold be;rw[h]
theorem V3(h1:ea B L=some (x,Z4))(h2:eb B Z4=some (y,Z3)):v2 f ea eb B L=f x y Z3:=by unfold v2;rw[h1,bs,h2,bs]
theorem Μ(h1:ea B L=some (x,Z4)):v1 f1 ea B L=f1 x Z4:=by unfold v1;rw[h1,bs]
end
def km(b:SV):Option (Out×G×M)->Option (Out×G×M)
 |some (.nx,B,L)=>b B L
 |x=>x
@[simp] theorem jl{b:SV}{B:G}{L:M}:km b (some (.nx,B,L))=b B L:=rfl
@[simp] theorem kSeq_rt{b:SV}{d:D}{B:G}{L:M}:km b (some (.rt d,B,L))=some (.rt d,B,L):=rfl
@[simp] theorem kSeq_bk{b:SV}{B:G}{L:M}:km b (some (.bk,B,L))=some (.bk,B,L):=rfl
@[simp] theorem kSeq_ct{b:SV}{B:G}{L:M}:km b (some (.ct,B,L))=some (.ct,B,L):=rfl
@[simp] theorem fU{a b:SV}{B:G}{L:M}:cV a b B L=km b (a B L):=by
 unfold cV km;cases h:a B L with
 |none=>rfl
 |some o=>obtain⟨o1,ZY,Z4⟩:=o;cases o1<;>rfl
section
variable {B:G} {L:M} {ea eb ec:EV} {ba bb:BV} {el:LV} {sa sb:SV} {i j:Nat} {d x y:D} {ds:List D} {b:Bool}
@[simp] theorem vVar_eq:be i B L=match B[i]? with
 |some (some d)=>some (d,L)
 |_=>none:=rfl
@[simp] theorem vC_eq:vC d B L=some (d,L):=rfl
def _A(f:D->M->Fr):Fr->Fr
 |some (x,L)=>f x L
 |none=>none
@[simp] theorem kV1_s{f:D->M->Fr}:_A f (some (x,L))=f x L:=rfl
@[simp] theorem v1_eq{f:D->M->Fr}:v1 f ea B L=_A f (ea B L):=by
 unfold v1 _A;cases ea B L<;>rfl
def ip(f:D->D->M->Fr)(x:D):Fr->Fr
 |some (y,L)=>f x y L
 |none=>none
@[simp] theorem kV2b_s{f:D->D->M->Fr}:ip f x (some (y,L))=f x y L:=rfl
def y'(f:D->D->M->Fr)(eb:EV)(B:G):Fr->Fr
 |some (x,L)=>ip f x (eb B L)
 |none=>none
@[simp] theorem kV2_s{f:D->D->M->Fr}:y' f eb B (some (x,L))=ip f x (eb B L):=rfl
@[simp] theorem v2_eq{f:D->D->M->Fr}:v2 f ea eb B L=y' f eb B (ea B L):=by
 unfold v2 y';cases ea B L with
 |none=>rfl
 |some p=>show(eb B p.2).bind _=ip f p.1 (eb B p.2);cases eb B p.2<;>rfl
def kT:Fr->Option (Bool×M)
 |some (.bl b,L)=>some (b,L)
 |_=>none
@[simp] theorem kT_s:kT (some (.bl b,L))=some (b,L):=rfl
@[simp] theorem BP:vT ea B L=kT (ea B L):=by
 unfold vT kT;cases ea B L with
 |none=>rfl
 |some p=>obtain⟨p1,p2⟩:=p;cases p1<;>rfl
def uu(bb:BV)(B:G):Option (Bool×M)->Option (Bool×M)
 |some (c,L)=>if c=true then bb B L else some (false,L)
 |none=>none
@[simp] theorem kAnd_s:uu bb B (some (c,L))=if c=true then bb B L else some (false,L):=rfl
@[simp] theorem bAnd_eq:iK ba bb B L=uu bb B (ba B L):=by unfold iK uu;cases ba B L<;>rfl
def _C(bb:BV)(B:G):Option (Bool×M)->Option (Bool×M)
 |some (c,L)=>if c=true then some (true,L) else bb B L
 |none=>none
@[simp] theorem kOr_s:_C bb B (some (c,L))=if c=true then some (true,L) else bb B L:=rfl
@[simp] theorem bOr_eq:XO ba bb B L=_C bb B (ba B L):=by unfold XO _C;cases ba B L<;>rfl
def sg:Option (Bool×M)->Option (Bool×M)
 |some (c,L)=>some (!c,L)
 |none=>none
@[simp] theorem kNot_s:sg (some (c,L))=some (!c,L):=rfl
@[simp] theorem bNot_eq:gA ba B L=sg (ba B L):=by unfold gA sg;cases ba B L<;>rfl
def _G(ea eb:EV)(B:G):Option (Bool×M)->Fr
 |some (c,L)=>if c=true then ea B L else eb B L
 |none=>none
@[simp] theorem kIf_s:_G ea eb B (some (c,L))=if c=true then ea B L else eb B L:=rfl
@[simp] theorem xC:Wa ba ea eb B L=_G ea eb B (ba B L):=by unfold Wa _G;cases ba B L<;>rfl
def u7(sa sb:SV)(B:G):Option (Bool×M)->Option (Out×G×M)
 |some (c,L)=>if c=true then sa B L else sb B L
 |none=>none
@[simp] theorem kSIf_s:u7 sa sb B (some (c,L))=if c=true then sa B L else sb B L:=rfl
@[simp] theorem jy:UR ba sa sb B L=u7 sa sb B (ba B L):=by unfold UR u7;cases ba B L<;>rfl
def ph(eb:EV)(B:G):Fr->Fr
 |some (.bl c,L)=>if c=true then some (.bl true,L) else eb B L
 |_=>none
@[simp] theorem kVOr_s:ph eb B (some (.bl c,L))=if c=true then some (.bl true,L) else eb B L:=rfl
@[simp] theorem N9:Xm ea eb B L=ph eb B (ea B L):=by
 unfold Xm ph;cases ea B L with
 |none=>rfl
 |some p=>
  obtain⟨p1,p2⟩:=p;cases p1 with
  |bl c=>cases c<;>rfl
  |_=>rfl
@[simp] theorem lNil_eq:cU B L=some ([],L):=rfl
def pJ(x:D):Option (List D×M)->Option (List D×M)
 |some (r,L)=>some (x::r,L)
 |none=>none
@[simp] theorem kLc2_s:pJ x (some (r,L))=some (x::r,L):=rfl
def _F(el:LV)(B:G):Fr->Option (List D×M)
 |some (x,L)=>pJ x (el B L)
 |none=>none
@[simp] theorem kLc_s:_F el B (some (x,L))=pJ x (el B L):=rfl
@[simp] theorem lCons_eq:cQ ea el B L=_F el B (ea B L):=by
 unfold cQ _F;cases ea B L with
 |none=>rfl
 |some p=>show(el B p.2).bind _=pJ p.1 (el B p.2);cases el B p.2<;>rfl
def kL(f:C0):Option (List D×M)->Fr
 |some (r,L)=>f r L
 |none=>none
@[simp] theorem kL_s{f:C0}{r:List D}:kL f (some (r,L))=f r L:=rfl
@[simp] theorem vL_eq{f:C0}:vL f el B L=kL f (el B L):=by unfold vL kL;cases el B L<;>rfl
@[simp] theorem sNx_eq:UL B L=some (.nx,B,L):=rfl
@[simp] theorem sBk_eq:ϊ B L=some (.bk,B,L):=rfl
def kEx(B:G):Fr->Option (Out×G×M)
 |some (_,L)=>some (.nx,B,L)
 |none=>none
@[simp] theorem kEx_s:kEx B (some (x,L))=some (.nx,B,L):=rfl
@[simp] theorem qf:fz ea B L=kEx B (ea B L):=by unfold fz kEx;cases ea B L<;>rfl
def ϔ(B:G):Fr->Option (Out×G×M)
 |some (x,L)=>some (.rt x,B,L)
 |none=>none
@[simp] theorem kRt_s:ϔ B (some (x,L))=some (.rt x,B,L):=rfl
@[simp] theorem kU:db ea B L=ϔ B (ea B L):=by unfold db ϔ;cases ea B L<;>rfl
def kG:Option (G×M)->Option (Out×G×M)
 |some (B,L)=>some (.nx,B,L)
 |none=>none
@[simp] theorem kG_s:kG (some (B,L))=some (.nx,B,L):=rfl
def _K(g:GV)(B:G):Fr->Option (Out×G×M)
 |some (x,L)=>kG (g x B L)
 |none=>none
@[simp] theorem kAs_s:_K g B (some (x,L))=kG (g x B L):=rfl
@[simp] theorem rC:dh ea g B L=_K g B (ea B L):=by
 unfold dh _K;cases ea B L with
 |none=>rfl
 |some p=>show(g p.1 B p.2).bind _=kG (g p.1 B p.2);cases g p.1 B p.2<;>rfl
@[simp] theorem gvName_eq:cR i d B L=some (B.set i (some d),L):=rfl
@[simp] theorem gvNil_eq:dY [] B L=some (B,L):=rfl
def _I(gs:WM)(ds:List D):Option (G×M)->Option (G×M)
 |some (B,L)=>gs ds B L
 |none=>none
@[simp] theorem kGs_s{gs:WM}:_I gs ds (some (B,L))=gs ds B L:=rfl
@[simp] theorem gvCons_eq{g:GV}{gs:WM}:c4 g gs (d::ds) B L=_I gs ds (g d B L):=by
 show(g d B L).bind _=_;unfold _I;cases g d B L<;>rfl
@[simp] theorem gvTup_eq{n:Nat}{gs:WM}:eB n gs (.tup ds) B L=if ds.length=n then gs ds B L else none:=rfl
def _D(L:M)(k:Nat):Option (D×List D)->Fr
 |some (d,l)=>some (d,L.set k (some (.lst l)))
 |none=>none
@[simp] theorem mh:_D L i (some (d,l))=some (d,L.set i (some (.lst l))):=rfl
def ny(B:G):Fr->Option (G×M)
 |some (_,L)=>some (B,L)
 |none=>none
@[simp] theorem kSb3_s:ny B (some (x,L))=some (B,L):=rfl
def XB(d:D)(j:Int)(ds:List D):Option (D×List D):=(VF ds.length j).bind fun jj=>some (.non,ds.set jj d)
theorem rz{j:Int}{jj:Nat}(h:VF ds.length j=some jj):XB d j ds=some (.non,ds.set jj d):=by unfold XB;rw[h];rfl
@[simp] theorem sbF_0:XB d 0 (x::ds)=some (.non,d::ds):=by
 refine rz (jj:=0) ?_;unfold VF;rw[if_pos (by omega),if_pos (by simp only[Qj];omega)];rfl
@[simp] theorem sbF_1:XB d 1 (x::y::ds)=some (.non,x::d::ds):=by
 refine rz (jj:=1) ?_;unfold VF;rw[if_pos (by omega),if_pos (by simp only[Qj];omega)];rfl
@[simp] theorem sbF_2:XB d 2 (x::y::z::ds)=some (.non,x::y::d::ds):=by
 refine rz (jj:=2) ?_;unfold VF;rw[if_pos (by omega),if_pos (by simp only[Qj];omega)];rfl
def o9(d:D)(B:G)(o:D):Fr->Option (G×M)
 |some (.int j,L)=>ny B (WS o L (XB d j))
 |_=>none
@[simp] theorem kSb2_s{j:Int}:o9 d B x (some (.int j,L))=ny B (WS x L (XB d j)):=rfl
def _B(d:D)(ei:EV)(B:G):Fr->Option (G×M)
 |some (o,L)=>o9 d B o (ei B L)
 |none=>none
@[simp] theorem kSb_s:_B d ei B (some (x,L))=o9 d B x (ei B L):=rfl
@[simp] theorem gvSub_eq:nK eo ei d B L=_B d ei B (eo B L):=by
 unfold nK _B;cases eo B L with
 |none=>rfl
 |some p=>
  show(ei B p.2).bind _=o9 d B p.1 (ei B p.2);cases ei B p.2 with
  |none=>rfl
  |some q=>
   obtain⟨q1,q2⟩:=q;cases q1 with
   |int j=>
    show(WS p.1 q2 _).bind _=ny B (WS p.1 q2 (XB d j));have e:(fun ds=>(VF ds.length j).bind fun jj=>some (D.non,ds.set jj d))=XB d j:=rfl;rw[e];unfold ny;cases WS p.1 q2 (XB d j)<;>rfl
   |_=>rfl
@[simp] theorem oNone_eq:qp B L=some (none,L):=rfl
def Yi(L:M):Option Bool->Option (Bool×M)
 |some b=>some (b,L)
 |none=>none
@[simp] theorem kTr_s:Yi L (some b)=some (b,L):=rfl
def nu:Fr->Option (Bool×M)
 |some (x,L)=>Yi L (Vd L x)
 |none=>none
@[simp] theorem kTru_s:nu (some (x,L))=Yi L (Vd L x):=rfl
@[simp] theorem xc:dL ea B L=nu (ea B L):=by
 unfold dL nu;cases ea B L with
 |none=>rfl
 |some p=>show(Vd p.2 p.1).bind _=Yi p.2 (Vd p.2 p.1);cases Vd p.2 p.1<;>rfl
def ϕ(f:D->D->M->Fr)(eb:EV)(B:G)(x:D)(L:M):Option (List D)->Fr
 |some _=>ip f x (eb B L)
 |none=>none
@[simp] theorem kM2_s{f:D->D->M->Fr}:ϕ f eb B x L (some ds)=ip f x (eb B L):=rfl
def kM(f:D->D->M->Fr)(eb:EV)(B:G):Fr->Fr
 |some (x,L)=>ϕ f eb B x L (dC L x)
 |none=>none
@[simp] theorem kM_s{f:D->D->M->Fr}:kM f eb B (some (x,L))=ϕ f eb B x L (dC L x):=rfl
@[simp] theorem v2l_eq{f:D->D->M->Fr}:fV f ea eb B L=kM f eb B (ea B L):=by
 unfold fV kM;cases ea B L with
 |none=>rfl
 |some p=>
  show(dC p.2 p.1).bind _=ϕ f eb B p.1 p.2 (dC p.2 p.1);cases dC p.2 p.1 with
  |none=>rfl
  |some l=>show(eb B p.2).bind _=ip f p.1 (eb B p.2);cases eb B p.2<;>rfl
def rJ(g:GV)(body:SV)(B:G):Option ((List D×Ck)×M)->Option (Out×G×M)
 |some ((its,c),L)=>dX c g body its B L
 |none=>none
@[simp] theorem j7:rJ g sa B (some ((ds,c),L))=dX c g sa ds B L:=rfl
@[simp] theorem ke:fF iv g sa B L=rJ g sa B (iv B L):=by unfold fF rJ;cases iv B L<;>rfl
def ϖ(L:M):Option (List D×Ck)->Option ((List D×Ck)×M)
 |some s=>some (s,L)
 |none=>none
@[simp] theorem kI2_s:ϖ L (some s)=some (s,L):=rfl
def kI:Fr->Option ((List D×Ck)×M)
 |some (x,L)=>ϖ L (VP L x)
 |none=>none
@[simp] theorem kI_s:kI (some (x,L))=ϖ L (VP L x):=rfl
@[simp] theorem ivL_eq:UB ea B L=kI (ea B L):=by
 unfold UB kI;cases ea B L with
 |none=>rfl
 |some p=>show(VP p.2 p.1).bind _=ϖ p.2 (VP p.2 p.1);cases VP p.2 p.1<;>rfl
def _H:Fr->Option ((List D×Ck)×M)
 |some (.int j,L)=>if -1000000000<=j/\j<=1000000000 then some ((dk 0 j.toNat,none),L) else none
 |_=>none
@[simp] theorem kIR_s{j:Int}:_H (some (.int j,L))=if -1000000000<=j/\j<=1000000000 then some ((dk 0 j.toNat,none),L) else none:=rfl
@[simp] theorem ivR_eq:WG ea B L=_H (ea B L):=by
 unfold WG _H;cases ea B L with
 |none=>rfl
 |some p=>obtain⟨p1,p2⟩:=p;cases p1<;>rfl
def pK(x:D):Fr->Option ((List D×Ck)×M)
 |some (y,L)=>match x,y with
  | .int i,.int j=>if(-1000000000<=i/\i<=1000000000)/\-1000000000<=j/\j<=1000000000 then some ((dk i (j - i).toNat,none),L) else none
  |_,_=>none
 |none=>none
@[simp] theorem GA{i j:Int}:pK (.int i) (some (.int j,L))=if(-1000000000<=i/\i<=1000000000)/\-1000000000<=j/\j<=1000000000 then some ((dk i (j - i).toNat,none),L) else none:=rfl
def rX(eb:EV)(B:G):Fr->Option ((List D×Ck)×M)
 |some (x,L)=>pK x (eb B L)
 |none=>none
@[simp] theorem Ej:rX eb B (some (x,L))=pK x (eb B L):=rfl
@[simp] theorem Fb:js ea eb B L=rX eb B (ea B L):=by
 unfold js rX;cases ea B L with
 |none=>rfl
 |some p=>show(eb B p.2).bind _=pK p.1 (eb B p.2);cases eb B p.2<;>rfl
@[simp] theorem bYes_eq:da B L=some (true,L):=rfl
def qM(g:D->D->M->Fr)(ec:EV)(B:G)(y:D):Fr->Fr
 |some (.bl c,L)=>if c=true then ip g y (ec B L) else some (.bl false,L)
 |_=>none
@[simp] theorem kCh3_s:qM g ec B y (some (.bl c,L))=if c=true then ip g y (ec B L) else some (.bl false,L):=rfl
def pB(f g:D->D->M->Fr)(ec:EV)(B:G)(x:D):Fr->Fr
 |some (y,L)=>qM g ec B y (f x y L)
 |none=>none
@[simp] theorem kCh2_s{f g:D->D->M->Fr}:pB f g ec B x (some (y,L))=qM g ec B y (f x y L):=rfl
def _J(f g:D->D->M->Fr)(eb ec:EV)(B:G):Fr->Fr
 |some (x,L)=>pB f g ec B x (eb B L)
 |none=>none
@[simp] theorem kCh_s{f g:D->D->M->Fr}:_J f g eb ec B (some (x,L))=pB f g ec B x (eb B L):=rfl
@[simp] theorem vChain_eq{f g:D->D->M->Fr}:ij f g ea eb ec B L=_J f g eb ec B (ea B L):=by
 unfold ij _J;cases ea B L with
 |none=>rfl
 |some p=>
  show(eb B p.2).bind _=pB f g ec B p.1 (eb B p.2);cases eb B p.2 with
  |none=>rfl
  |some q=>
   show(f p.1 q.1 q.2).bind _=qM g ec B q.1 (f p.1 q.1 q.2);cases f p.1 q.1 q.2 with
   |none=>rfl
   |some t=>
    obtain⟨t1,t2⟩:=t;cases t1 with
    |bl c=>
     cases c with
     |true=>show(ec B t2).bind _=ip g q.1 (ec B t2);cases ec B t2<;>rfl
     |false=>rfl
    |_=>rfl
def kB(L:M):Option Bool->Fr
 |some b=>some (.bl b,L)
 |none=>none
@[simp] theorem kB_s:kB L (some b)=some (.bl b,L):=rfl
def _E(L:M):Option Bool->Fr
 |some b=>some (.bl (!b),L)
 |none=>none
@[simp] theorem kNB_s:_E L (some b)=some (.bl (!b),L):=rfl
def kD(L:M):Option D->Fr
 |some d=>some (d,L)
 |none=>none
@[simp] theorem kD_s:kD L (some d)=some (d,L):=rfl
@[simp] theorem fI0_eq{g:Int->Int->D}{i j:Int}:Vt g (.int i) (.int j) L=some (g i j,L):=rfl
@[simp] theorem fI_eq{C:Int->Int->Prop} [∀i j,Decidable (C i j)]{g:Int->Int->D}{i j:Int}:fI C g (.int i) (.int j) L=if C i j then some (g i j,L) else none:=rfl
@[simp] theorem fNeg_eq{i:Int}:gR (.int i) L=some (.int (-i),L):=rfl
@[simp] theorem fNot_eq{b:Bool}:AQ (.bl b) L=some (.bl (!b),L):=rfl
@[simp] theorem fPlus_int{i j:Int}:eV (.int i) (.int j) L=some (.int (i+j),L):=rfl
@[simp] theorem fTimes_int{i j:Int}:gg (.int i) (.int j) L=if Ul i j then some (.int (i*j),L) else none:=rfl
@[simp] theorem Cb{b:Bool}:kX (.bl b) L=some (.int (if b then 1 else 0),L):=rfl
@[simp] theorem fEq_eq:UA x y L=kB L (VZ x y L):=by unfold UA kB;cases VZ x y L<;>rfl
@[simp] theorem fNe_eq:U7 x y L=_E L (VZ x y L):=by unfold U7 _E;cases VZ x y L<;>rfl
@[simp] theorem Aw{i j:Int}:VZ (.int i) (.int j) L=some (decide (i=j)):=rfl
@[simp] theorem eqD_str{a b:Str}:VZ (.str a) (.str b) L=if PyData.strOk a&&PyData.strOk b then some (decide (a=b)) else none:=rfl
@[simp] theorem lsOf_lst:dC L (.lst ds)=some ds:=rfl
@[simp] theorem lsOf_scr:dC L (.scr ds)=some ds:=rfl
@[simp] theorem lsOf_tup:dC L (.tup ds)=none:=rfl
@[simp] theorem tpOf_tup:im (.tup ds)=some ds:=rfl
@[simp] theorem wlOf_lst:kj L (.lst ds)=some ds:=rfl
@[simp] theorem lsC_lst:VP L (.lst ds)=some (ds,none):=rfl
@[simp] theorem lsC_scr:VP L (.scr ds)=some (ds,none):=rfl
@[simp] theorem fLst_eq:fm ds L=if ds.length<=1000 then some (.lst ds,L) else none:=rfl
@[simp] theorem fTup_eq:eO ds L=if ds.length<=1000 then some (.tup ds,L) else none:=rfl
@[simp] theorem fNew_eq:fS ds L=if ds.length<=1000 then some (.ref L.length,L++[some (.lst ds)]) else none:=rfl
@[simp] theorem zh{i:Int}:Te (.lst ds) (.int i) L=kD L (UZ ds i):=by
 show(UZ ds i).bind _=_;unfold kD;cases UZ ds i<;>rfl
@[simp] theorem fIx_scr{i:Int}:Te (.scr ds) (.int i) L=kD L (UZ ds i):=by
 show(UZ ds i).bind _=_;unfold kD;cases UZ ds i<;>rfl
@[simp] theorem OD{i:Int}:Te (.tup ds) (.int i) L=kD L (UZ ds i):=by
 show(UZ ds i).bind _=_;unfold kD;cases UZ ds i<;>rfl
@[simp] theorem FT:dU (.lst ds) L=some (.int ds.length,L):=rfl
@[simp] theorem fLen_tup:dU (.tup ds) L=some (.int ds.length,L):=rfl
@[simp] theorem fCat_lst:eV (.lst ds) (.lst es) L=if ds.length+es.length<=1000000 then some (.lst (ds++es),L) else none:=rfl
@[simp] theorem fSl_lst:X3 (.lst ds) lo hi L=some (.lst (iZ ds lo hi),L):=rfl
@[simp] theorem OI:X3 (.tup ds) lo hi L=if HT.sIx ds.length 0 lo=0/\HT.sIx ds.length ds.length hi=ds.length then none else some (.tup (iZ ds lo hi),L):=rfl
@[simp] theorem tru_bl{b:Bool}:Vd L (.bl b)=some b:=rfl
@[simp] theorem tru_lst:Vd L (.lst ds)=some (!ds.isEmpty):=rfl
theorem gW{J:Type}{xs:List J}{j:Nat}{v:J}(h:xs[j]?=some v):UZ xs (j:Int)=some v:=by
 have hlt:=(P5.mp h).1;unfold UZ VF;rw[if_pos (by omega),if_pos (by omega)];simpa using h
@[simp] theorem atI_0{J:Type}{a:J}{l:List J}:UZ (a::l) 0=some a:=gW (j:=0) rfl
@[simp] theorem atI_1{J:Type}{a b:J}{l:List J}:UZ (a::b::l) 1=some b:=gW (j:=1) rfl
@[simp] theorem atI_2{J:Type}{a b c:J}{l:List J}:UZ (a::b::c::l) 2=some c:=gW (j:=2) rfl
@[simp] theorem atI_3{J:Type}{a b c d:J}{l:List J}:UZ (a::b::c::d::l) 3=some d:=gW (j:=3) rfl
end
def WH:D->Option Int
 | .int i=>some i
 |_=>none
def Xw:D->Option Bool
 | .bl b=>some b
 |_=>none
section
variable {K:Frag} {W:Wd}
theorem uD:∀{ds:List D} {vs:List V} {ns:List Int},dQ WH ds=some ns->TN K W ds vs->vs=ns.map V.int
 |_,_,_,h,.nil=>by cases h;rfl
 |d::_,_,_,h,.cons r t=>by
  refine cS h fun u h1 h=>?_;refine cS h fun us h2 h=>?_;cases h;cases d<;>cases h1
  cases r;rw[uD h2 t];rfl
theorem rS:∀{ds:List D} {vs:List V} {ns:List Bool},dQ Xw ds=some ns->TN K W ds vs->vs=ns.map V.bl
 |_,_,_,h,.nil=>by cases h;rfl
 |d::_,_,_,h,.cons r t=>by
  refine cS h fun u h1 h=>?_;refine cS h fun us h2 h=>?_;cases h;cases d<;>cases h1
  cases r;rw[rS h2 t];rfl
theorem JW(ns:List Int):dQ WH (ns.map D.int)=some ns:=by
 have:=jz (f:=WH) (g:=D.int) (h:=id) (l:=ns) fun x _=>rfl;simpa using this
theorem vV(ns:List Bool):dQ Xw (ns.map D.bl)=some ns:=by
 have:=jz (f:=Xw) (g:=D.bl) (h:=id) (l:=ns) fun x _=>rfl;simpa using this
end
def mx:Int->List Int->Int
 |a,[]=>a
 |a,b::r=>mx (if b>a then b else a) r
theorem yz:∀(r l:List Int) (a:Int),UD a l->UD (mx a r) (l++r)
 | [],l,a,h=>by simpa[mx] using h
 |b::r,l,a,h=>by
  have:=yz r (l++[b]) (if b>a then b else a) h.step;simpa[mx] using this
def xE{a b:Int}{l:List Int}(h:UD a l)(g:UD b l):a=b:=by
 have h1:=h.2 b g.1;have h2:=g.2 a h.1;omega
def Xu:List Int->Option Int
 | []=>none
 |a::r=>some (mx a r)
def wm(h:Xu l=some m):UD m l:=by
 cases l with
 |nil=>cases h
 |cons a r=>
  cases h;exact yz r [a] a ⟨by simp,by simp⟩
section
variable {X:Cx} {K:Frag} {a b:Expr} {ea eb:EV} {pos p kp:Pos}
def sh(x:D)(L:M):Fr:=(dC L x).bind fun ds=>(dQ WH ds).bind fun ns=>(Xu ns).bind fun m=>some (.int m,L)
theorem Jh(mm:X.mg "max"=none) (ha:PE X a (tD K ea)) (hc:X.calm=true:=by rfl) (hg:Gl X "max":=by rfl) (hs:starEach [a] X.env=[(false,eval a X.env)]:=by rfl) (hK:X.K=K:=by rfl):PE X (.Call (.Name "max" p) [a] [] pos) (tD K (v1 sh ea)):=du (Nh K mm ha hc hg hs hK) (jt (by
 intro W x d z Z5 Q ok r1 hf q;refine cS hf fun ds h1 hf=>?_;refine cS hf fun ns h2 hf=>?_;refine cS hf fun m h3 hf=>?_;cases hf;obtain⟨a,vs,rfl,hs,hv⟩:=iy ok h1 r1;have:=uD h2 hv;subst this;refine⟨a,ns,rfl,hs,(fun z=>by rw[z] at h3;cases h3),fun M hM=>?_⟩;rw[xE hM (wm h3)];exact q _ W rfl ok .refl (.int _)))
def k7(x y:D)(L:M):Fr:=match y with
 | .int j=>(dC L x).bind fun ds=>(dQ WH ds).bind fun ns=>some (.int ((Xu ns).getD j),L)
 |_=>none
theorem M2(mm:X.mg "max"=none) (ha:PE X a (tD K ea)) (hb:PE X b (tD K eb)) (hc:X.calm=true:=by rfl) (hg:Gl X "max":=by rfl) (hs:starEach [a] X.env=[(false,eval a X.env)]:=by rfl) (hK:X.K=K:=by rfl)
  (hall:(backToKw pos (keywordEach [⟨some "default",b,kp⟩] X.env)).all (·.1.isSome)=true:=by rfl) (_g:(backToKw pos (keywordEach [⟨some "default",b,kp⟩] X.env)).filterMap (·.1)=([Str.ofString "default"]:List Str):=by rfl)
  (YN:(backToKw pos (keywordEach [⟨some "default",b,kp⟩] X.env)).any (·.1.isNone)=false:=by rfl):PE X (.Call (.Name "max" p) [a] [⟨some "default",b,kp⟩] pos) (tD K (v2 k7 ea eb)):=du (Ph K mm ha hb hc hg hs hK hall _g YN) (jR (by
 intro W x y d e z Z5 Q ok r1 r2 hf q;unfold k7 at hf;split at hf
 .cases r2;refine cS hf fun ds h1 hf=>?_;refine cS hf fun ns h2 hf=>?_;cases hf;obtain⟨a,vs,rfl,hs,hv⟩:=iy ok h1 r1;have:=uD h2 hv;subst this;refine⟨a,ns,_,rfl,rfl,hs,fun z=>?_,fun M hM=>?_⟩
  .subst z;exact q _ W rfl ok .refl (.int _)
  .cases hn:Xu ns with
   |none=>
    cases ns with
    |nil=>exact absurd hM.1 (by simp)
    |cons _ _=>cases hn
   |some m=>
    rw[xE hM (wm hn)];have:=q (.int m) W rfl ok .refl (by rw[hn];exact .int _);exact this
 .cases hf))
def i8(x:D)(L:M):Fr:=(dC L x).bind fun ds=>(dQ Xw ds).bind fun bs=>some (.bl (bs.all id),L)
theorem zN(mm:X.mg "all"=none) (ha:PE X a (tD K ea)) (hc:X.calm=true:=by rfl) (hg:Gl X "all":=by rfl) (hs:starEach [a] X.env=[(false,eval a X.env)]:=by rfl) (hK:X.K=K:=by rfl):PE X (.Call (.Name "all" p) [a] [] pos) (tD K (v1 i8 ea)):=du (OH K mm ha hc hg hs hK) (jt (by
 intro W x d z Z5 Q ok r1 hf q;refine cS hf fun ds h1 hf=>?_;refine cS hf fun ns h2 hf=>?_;cases hf;obtain⟨a,vs,rfl,hs,hv⟩:=iy ok h1 r1;have:=rS h2 hv;subst this;exact⟨a,ns,rfl,hs,q _ W rfl ok .refl (.bl _)⟩))
end
def iY{J:Type}{L:M}{x:Option J}:Uw (de none L) x=x:=fY trivial
section
variable {L:M} {k:Nat} {ds:List D}
def fL:Option (Out×G×M)->Fr
 |some (.rt d,_,L)=>some (d,L)
 |some (.nx,_,L)=>some (.non,L)
 |_=>none
@[simp] theorem kRun_rt:fL (some (.rt d,B,L))=some (d,L):=rfl
@[simp] theorem kRun_nx:fL (some (.nx,B,L))=some (.non,L):=rfl
@[simp] theorem ii:dF n m es ds L=if ds.length=m then fL (es (ds.map some++List.replicate (n - ds.length) none) L) else none:=by
 unfold dF;split
 .unfold fL;cases es (ds.map some++List.replicate (n - ds.length) none) L with
  |none=>rfl
  |some o=>obtain⟨o1,o2,o3⟩:=o;cases o1<;>rfl
 .rfl
theorem eU(h:L[k]?=some x):(L.set k y)[k]?=some y:=by
 have hlt:=(P5.mp h).1;simp[hlt]
theorem eR(h:j≠k):(L.set k y)[j]?=L[j]?:=QP (Ne.symm h)
theorem h9(h:L[k]?=some (some (.lst ds))):dC L (.ref k)=some ds:=by simp only[dC,h]
theorem rq(h:L[k]?=some (some (.lst ds))):Te (.ref k) (.int i) L=kD L (UZ ds i):=by
 simp only[Te,h9 h];unfold kD;cases UZ ds i<;>rfl
theorem qF(h:L[k]?=some (some (.lst ds))):dU (.ref k) L=some (.int ds.length,L):=by simp only[dU,h9 h]
theorem iE(h:L[k]?=some (some (.lst ds))):WS (.ref k) L g=_D L k (g ds):=by
 simp only[WS,h];unfold _D;cases g ds<;>rfl
theorem qN(h:L[k]?=some (some (.lst ds))):VP L (.ref k)=some (ds,some (k,ds)):=by simp only[VP,h]
@[simp] theorem ixN_0:VF (n+1) 0=some 0:=by unfold VF;rw[if_pos (by omega),if_pos (by omega)];rfl
@[simp] theorem ixN_1:VF (n+2) 1=some 1:=by unfold VF;rw[if_pos (by omega),if_pos (by omega)];rfl
@[simp] theorem ixN_2:VF (n+3) 2=some 2:=by unfold VF;rw[if_pos (by omega),if_pos (by omega)];rfl
end
section
variable {P:Program} {w:World} {K:Frag} {mg:Str->Option Value} {base:Heap} {f:Addr} {fd:FuncData} {k:Nat}
theorem Kg:TJ P w K mg base T1 k f fd ps (TV K fun _ _=>none):=
 ⟨(fun vs H Q E h=>by obtain⟨_,_,_,_,_,_,_,z,_⟩:=h;cases z),(fun A outer s H args us vs Q E _ _ _ _ h=>by obtain⟨_,_,_,_,_,_,_,z,_⟩:=h;cases z)⟩
def ot(K:Frag):Sp:=fun vs H Q _=>∃(a:Addr) (ns:List Int),vs=[.ref a]/\qk H/\T9 K H a (ns.map V.int)/\ns.length<=63/\∀H',Q (.bl true) H'
def W0(H:Hp):Wd:=⟨[],[],H,fun _=>False⟩
theorem Dv:Ok K (W0 H) where
 len:=rfl
 nd:=by simp[W0]
 rs a h:=by simp[W0] at h
 at_ k o h:=by simp[W0] at h
 hd0 a h:=h.elim
theorem ux:∀ns:List Int,TN K W (ns.map D.int) (ns.map V.int)
 | []=>.nil
 |n::r=>.cons (.int n) (ux r)
theorem Eh(F:TJ P w K mg base T1 k f fd ["script"] (TV K g)) (h:∀ns:List Int,ns.length<=63->∃Z5,g [.scr (ns.map D.int)] []=some (.bl true,Z5)):TJ P w K mg base T1 k f fd ["script"] (ot K):=F.imp fun vs H Q E hh=>by
 obtain⟨a,ns,rfl,hO,hS,hl,q⟩:=hh;obtain⟨Z5,e⟩:=h ns hl;have hF:Yx K H a (ns.map V.int):=by
  rcases hS with(hS|hS)|hS
  .rcases hO a with z|⟨o,xs,z⟩
   .rw[z] at hS;cases hS
   .rw[z] at hS;cases hS
  .exact .inl hS
  .exact .inr hS
 exact⟨W0 H,[.scr (ns.map D.int)],.bl true,Z5,rfl,Dv,.cons (.scr hF (ux ns)) .nil,e,fun v W' _ _ _ r=>by cases r;exact q _⟩
end
theorem qK(Pv:Nat->G->M->Prop):∀(its:List D) (i:Nat) (B:G) (L:M),Pv i B L->
  (∀j d B L,its[j]?=some d->Pv (i+j) B L->∃ZY Z4 ZW Z3,g d B L=some (ZY,Z4)/\body ZY Z4=some (.nx,ZW,Z3)/\de c Z3/\Pv (i+j+1) ZW Z3)->∃ZX Z5,dX c g body its B L=some (.nx,ZX,Z5)/\Pv (i+its.length) ZX Z5
 | [],i,B,L,h,_=>⟨B,L,rfl,h⟩
 |d::r,i,B,L,h,hs=>by
  obtain⟨ZY,Z4,ZW,Z3,h1,h2,h3,h4⟩:=hs 0 d B L rfl h;obtain⟨ZX,Z5,h5,h6⟩:=qK Pv r (i+1) ZW Z3 h4 fun j d B L hj hp=>by
   have:=hs (j+1) d B L (by simpa using hj) (by rw[show i+(j+1)=i+1+j by omega];exact hp);rw[show i+(j+1)+1=i+1+j+1 by omega] at this;exact this
  refine⟨ZX,Z5,?_,by rw[Qj,show i+(r.length+1)=i+1+r.length by omega];exact h6⟩;simp only[dX,h1,bs,h2];rw[fY h3,h5]
def MI(h:(dk lo n)[j]?=some d):j<n/\d=.int (lo+j):=by
 have hlt:=(P5.mp h).1;simp[dk] at hlt;simp[dk,hlt] at h;exact⟨hlt,h.symm⟩
def Kr(h:(dk 0 n)[j]?=some d):j<n/\d=.int (j:Int):=by
 obtain⟨a,b⟩:=MI h;exact(⟨a,by rw[b,Int.zero_add]⟩)
def Cv:(dk lo n).length=n:=by simp[dk]
def oS:Option (List D×M)->Fr
 |some (rs,L)=>some (.lst rs,L)
 |none=>none
@[simp] theorem kLst_s:oS (some (rs,L))=some (.lst rs,L):=rfl
def t4(own:List Str)(cap:List (Str×Nat))(g:GV)(tc:BV)(te:EV)(B:G):Option ((List D×Ck)×M)->Fr
 |some ((its,c),L)=>if its.length<=1000000 then oS (dW c g tc te its (dM own cap B) L) else none
 |none=>none
@[simp] theorem uO:t4 own cap g tc te B (some ((its,c),L))=if its.length<=1000000 then oS (dW c g tc te its (dM own cap B) L) else none:=rfl
@[simp] theorem vA:eN own cap iv g tc te B L=t4 own cap g tc te B (iv B L):=by
 unfold eN t4;cases iv B L with
 |none=>rfl
 |some s=>
  obtain⟨⟨its,c⟩,Z4⟩:=s;show(if its.length<=1000000 then(dW c g tc te its (dM own cap B) Z4).bind _ else none)=if its.length<=1000000 then oS (dW c g tc te its (dM own cap B) Z4) else none
  split
  .cases dW c g tc te its (dM own cap B) Z4<;>rfl
  .rfl
def oM:Option (List D×M)->Fr
 |some (rs,L)=>if rs.length<=1000000 then some (.lst rs,L) else none
 |none=>none
@[simp] theorem x6:oM (some (rs,L))=if rs.length<=1000000 then some (.lst rs,L) else none:=rfl
def tU(own:List Str)(cap:List (Str×Nat))(g:GV)(tc:BV)(iv2:IV)(g2:GV)(UQ:BV)(te:EV)(B:G):Option ((List D×Ck)×M)->Fr
 |some ((its,c),L)=>oM (fO c g tc iv2 g2 UQ te its (dM own cap B) L)
 |none=>none
@[simp] theorem Be:tU own cap g tc iv2 g2 UQ te B (some ((its,c),L))=oM (fO c g tc iv2 g2 UQ te its (dM own cap B) L):=rfl
@[simp] theorem wM:jF own cap iv g tc iv2 g2 UQ te B L=tU own cap g tc iv2 g2 UQ te B (iv B L):=by
 unfold jF tU;cases iv B L with
 |none=>rfl
 |some s=>
  obtain⟨⟨its,c⟩,Z4⟩:=s;show(fO c g tc iv2 g2 UQ te its (dM own cap B) Z4).bind _=oM (fO c g tc iv2 g2 UQ te its (dM own cap B) Z4);cases fO c g tc iv2 g2 UQ te its (dM own cap B) Z4<;>rfl
section
variable {X:Cx} {K:Frag} {pos:Pos} {el:LV}
theorem wY{i j:Nat}{x y:Str}{a b:Expr}{px py pt:Pos}{kt k2 YA}(hN:X.N.Nodup)(hi:X.N[i]?=some x)(hj:X.N[j]?=some y)(_m:i≠j)(ha:PA X [a,b] (Ve K el))(hc:X.calm=true:=by rfl)
  (hx:X.env.scope.names.lookup x=some .local:=by rfl) (hy:X.env.scope.names.lookup y=some .local:=by rfl)
  (hw:swappedStores [.Tuple [.Name x px,.Name y py] kt pt] (.Tuple [a,b] k2 YA) X.env=pure (some [x,y]):=by rfl)
  (hs:swapsWithSole [.Tuple [.Name x px,.Name y py] kt pt] (.Tuple [a,b] k2 YA) pos.line X.env=pure false:=by rfl):
  PS X (.Assign [.Tuple [.Name x px,.Name y py] kt pt] (.Tuple [a,b] k2 YA) pos) (Ue K (lA i j el)):=fb (Il hc hN hi hj _m hx hy ha hw hs) LI
end
def eY(kvs:List (Key×D))(k:Key):Option D:=(kvs.find? fun kv=>decide (kv.1=k)).map (·.2)
def eM(kvs:List (Key×D))(k:Key)(v:D):List (Key×D):=
 if(kvs.any fun kv=>decide (kv.1=k))=true then kvs.map (fun kv=>if kv.1=k then(kv.1,v) else kv) else kvs++[(k,v)]
def i7(kvs more:List (Key×D)):List (Key×D):=more.foldl (fun acc kv=>eM acc kv.1 kv.2) kvs
def fu:D->Option Key
 | .int i=>some (.inl i)
 | .str x=>some (.inr x)
 |_=>none
def dD(L:M):D->Option (List (Key×D))
 | .ref k=>match L[k]? with
  |some (some (.dK kvs))=>some kvs
  |_=>none
 |_=>none
section
variable {K:Frag} {W:Wd}
theorem j8{d:D}{k:Key}{v:V}(h:fu d=some k)(r:DR K W d v):v=kV k:=by
 cases d<;>simp only[fu] at h<;>cases h<;>cases r<;>rfl
theorem fX(ok:Ok K W)(h:dD W.L d=some kvs)(r:DR K W d v):
  ∃k a vs,d=.ref k/\v=.ref a/\W.L[k]?=some (some (.dK kvs))/\W.ρ[k]?=some a/\W.H a=some (.dK vs)/\KR K W kvs vs:=by
 cases d with
 |ref k=>
  simp only[dD] at h;split at h
  .rename_i kvs' hk;cases h;cases r with
   |ref ha=>
    obtain⟨a',ho,h1,h2,vs,rfl,r⟩:=ok.at_ k _ hk;rw[ha] at h1;cases h1;exact(⟨k,_,vs,rfl,rfl,hk,ha,h2,r⟩)
  .cases h
 |_=>simp[dD] at h
theorem KR.len(r:KR K W kvs vs):kvs.length=vs.length:=R4 r
theorem KR.any(r:KR K W kvs vs)(k:Key):(kvs.any fun kv=>decide (kv.1=k))=vs.any fun kv=>decide (kv.1=k):=by
 unfold KR at r;induction r with
 |nil=>rfl
 |cons h t ih=>rw[Re,Re,ih,h.1]
theorem KR.val(r:KR K W kvs vs)(k:Key):(eY kvs k).isSome=(fh vs k).isSome:=by
 unfold KR at r;induction r with
 |nil=>rfl
 | @cons p q ps qs h t ih=>
  by_cases e:p.1=k
  .rw[ku (by rw[←h.1];exact e)];simp[eY,Ql,e]
  .rw[kC (by rw[←h.1];exact e)];simp only[eY,Ql,e,R3] at ih⊢;exact ih
theorem KR.snoc(r:KR K W kvs vs)(k:Key)(rv:DR K W d v):KR K W (kvs++[(k,d)]) (vs++[(k,v)]):=S7 r ⟨rfl,rv⟩
theorem KR.repl(r:KR K W kvs vs)(k:Key)(rv:DR K W d v):
  KR K W (kvs.map fun kv=>if kv.1=k then(kv.1,d) else kv) (vs.map fun kv=>if kv.1=k then(kv.1,v) else kv):=by
 unfold KR at r⊢;induction r with
 |nil=>exact .nil
 | @cons p q ps qs h t ih=>
  refine .cons ?_ ih;show(if p.1=k then(p.1,d) else p).1=(if q.1=k then(q.1,v) else q).1/\DR K W (if p.1=k then(p.1,d) else p).2 (if q.1=k then(q.1,v) else q).2;by_cases e:p.1=k
  .rw[if_pos e,if_pos (by rw[←h.1];exact e)];exact⟨h.1,rv⟩
  .rw[if_neg e,if_neg (by rw[←h.1];exact e)];exact h
theorem KR.put(r:KR K W kvs vs)(k:Key)(rv:DR K W d v):KR K W (eM kvs k d) (dG vs k v):=by
 unfold eM dG;rw[r.any k];by_cases e:(vs.any fun kv=>decide (kv.1=k))=true
 .rw[if_pos e,if_pos e];exact r.repl k rv
 .rw[if_neg e,if_neg e];exact r.snoc k rv
theorem KR.merge:∀{more:List (Key×D)} {rs:List (Key×V)} {kvs:List (Key×D)} {vs:List (Key×V)},KR K W more rs->KR K W kvs vs->KR K W (i7 kvs more) (hX vs rs):=by
 intro more rs kvs vs r;unfold KR at r;induction r generalizing kvs vs with
 |nil=>intro q;exact q
 | @cons p q ps qs h t ih=>
  intro r0;have e:KR K W (eM kvs p.1 p.2) (dG vs q.1 q.2):=by
   have:=KR.put r0 p.1 h.2;rw[←h.1];exact this
  exact ih e
theorem KR.vals(r:KR K W kvs vs):TN K W (kvs.map (·.2)) (vs.map (·.2)):=by
 unfold KR at r;induction r with
 |nil=>exact .nil
 |cons h t ih=>exact .cons h.2 ih
theorem lT{k:Nat}{a:Addr}{kvs kvs':List (Key×D)}{vs':List (Key×V)}(ok:Ok K W)(hk:W.L[k]?=some (some (.dK kvs)))(ha:W.ρ[k]?=some a)(hs:KR K W kvs' vs'):
  Ok K (W.put k a (.dK vs') (.dK kvs'))/\Step W (W.put k a (.dK vs') (.dK kvs')):=⟨pX ok hk ha ⟨vs',rfl,hs⟩,jv hk ha⟩
theorem m8(ok:Ok K W)(h:dD W.L d=some kvs)(r:DR K W d v):Y2 K "dict" v W.H:=by
 obtain⟨k,a,vs,rfl,rfl,_,_,hh,_⟩:=fX ok h r;exact(.inr (.inr (.inl ⟨rfl,.inl ⟨vs,hh⟩⟩)))
end
section
variable {X:Cx} {K:Frag} {a b e o i value:Expr} {ea eb eo ei:EV} {pos p apos pos' VT:Pos} {k:Nat}
def mo(x:D)(L:M):Fr:=(dD L x).bind fun kvs=>(dQ Xw (kvs.map (·.2))).bind fun bs=>some (.int (bs.count true:Nat),L)
theorem y0(ml:X.mg "sum"=none) (ho:PE X o (tD K eo)) (hc:X.calm=true:=by rfl) (hg:Gl X "sum":=by rfl) (TZ:attributeBase o "values" X.env (eval o X.env)=eval o X.env:=by rfl) (TY:(apos.endLine==VT.line)=true:=by rfl)
  (hs:starEach [.Call (.Attribute o "values" apos) [] [] VT] X.env=[(false,eval (.Call (.Attribute o "values" apos) [] [] VT) X.env)]:=by rfl) (hK:X.K=K:=by rfl):
  PE X (.Call (.Name "sum" p) [.Call (.Attribute o "values" apos) [] [] VT] [] pos) (tD K (v1 mo eo)):=by
 refine du (jY KH hg ml PyProof.Rows.boot_sum (eJ (wN K ho TZ TY hK) eZ hs) (he:=hs)) fun O H Q h=>?_;refine UC h fun W B d Z5 eH ok en e q=>?_;subst eH;refine cS e fun p1 e1 e=>?_;refine cS e fun kvs e2 e=>?_;refine cS e fun bs e3 e=>?_;cases e;refine⟨W,B,p1.1,p1.2,rfl,ok,en,e1,fun x W1 Z2 ok1 s1 r1=>?_⟩;rw[←Z2] at e2;obtain⟨k,a,vs,hd,rfl,hk,ha,hh,hs⟩:=fX ok1 e2 r1;refine(⟨m8 ok1 e2 r1,a,vs,rfl,rfl,hh,fun v hv=>?_⟩);have hb:=rS e3 hs.vals;refine⟨v,a,vs,bs,rfl,eC,by rw[dg (fun z=>by rw[z,hv] at hh;cases hh)];exact hh,hb,hc,?_⟩;exact q _ (W1.lay v (Xl v a)) Z2 (fE ok1 hv) (s1.trans (eL hv)) (.int _)
def pA(x:D)(L:M):Fr:=(dD L x).bind fun kvs=>some (.int kvs.length,L)
theorem DB(ml:X.mg "len"=none) (ha:PE X a (tD K ea)) (hg:Gl X "len":=by rfl) (hs:starEach [a] X.env=[(false,eval a X.env)]:=by rfl):PE X (.Call (.Name "len" p) [a] [] pos) (tD K (v1 pA ea)):=by
 refine du (jY Ol hg ml PySem.boot_len (eJ ha eZ hs) (he:=hs)) fun O H Q h=>?_;refine UC h fun W B d Z5 eH ok en e q=>?_;subst eH;refine cS e fun p1 e1 e=>?_;refine cS e fun kvs e2 e=>?_;cases e;refine⟨W,B,p1.1,p1.2,rfl,ok,en,e1,fun x W1 Z2 ok1 s1 r1=>?_⟩;rw[←Z2] at e2;obtain⟨k,a,vs,hd,rfl,hk,ha,hh,hs⟩:=fX ok1 e2 r1;refine(⟨a,vs,rfl,hh,?_⟩);rw[←hs.len];exact q _ W1 Z2 ok1 s1 (.int _)
def ql(ek ev:EV):EV:=fun B L=>(ek B (L++[some (.dK [])])).bind fun p=>(ev B p.2).bind fun q=>(fu p.1).bind fun k=>match q.2[L.length]? with
 |some (some (.dK []))=>some (.ref L.length,q.2.set L.length (some (.dK [(k,q.1)])))
 |_=>none
theorem Gn(ha:PE X a (tD K ea))(hb:PE X b (tD K eb)):PE X (.Dict [some a] [b] pos) (tD K (ql ea eb)):=by
 refine du (Ll (Ob ha hb Lc) rfl rfl (by simp) (by simp)) fun O H Q h=>?_;refine UC h fun W B d Z5 eH ok en e q=>?_;subst eH;refine cS e fun p1 e1 e=>?_;refine cS e fun p2 e2 e=>?_;refine cS e fun k e3 e=>?_;intro pa hp;have ok0:=ka (x:=.dK []) (o:=.dK []) ok hp ⟨[],rfl,.nil⟩;have s0:=gJ (K:=K) (x:=.dK []) (o:=.dK []) ok hp;have r0:=jS (K:=K) (W:=W) (p:=pa) (o:=.dK []) (x:=.dK []) ok;refine⟨W.new pa (.dK []) (.dK []),B,p1.1,p1.2,rfl,ok0,en.step ok s0,e1,fun x W1 ZK ok1 s1 r1=>⟨W1,B,p2.1,p2.2,rfl,ok1,(en.step ok s0).step ok0 s1,by rw[ZK];exact e2,fun y W2 ZU ok2 s2 r2=>?_⟩⟩;split at e
 .rename_i hk;cases e;rw[←ZU] at hk;obtain⟨k',a',vs,hd,hv,hk2,Yt,hh,hs⟩:=fX (d:=.ref W.L.length) (kvs:=[]) ok2 (by simp only[dD];rw[hk]) ((r0.step ok0 s1).step ok1 s2);cases hd;cases hv;cases hs;have hkey:=j8 e3 (r1.step ok1 s2);subst hkey;obtain⟨o3,s3⟩:=lT (vs':=[(k,y)]) (kvs':=[(k,p2.1)]) ok2 hk2 Yt (.cons ⟨rfl,r2⟩ .nil);refine(⟨hh,[(k,y)],rfl,by simp,?_⟩);refine q _ (W2.put W.L.length pa (.dK [(k,y)]) (.dK [(k,p2.1)])) (by show W2.L.set _ _=_;rw[ZU]) o3 (((s0.trans s1).trans s2).trans s3) ?_;exact((r0.step ok0 s1).step ok1 s2).step ok2 s3
 .cases e
def oK(eo ea:EV):EV:=fun B L=>(eo B L).bind fun p=>(dD p.2 p.1).bind fun _=>(ea B p.2).bind fun q=>(dD q.2 p.1).bind fun kvs=>(dD q.2 q.1).bind fun more=>match p.1,q.1 with
 | .ref k,.ref k2=>if k≠k2/\kvs.length<=100000/\more.length<=100000 then some (.non,q.2.set k (some (.dK (i7 kvs more)))) else none
 |_,_=>none
theorem D1(ho:PE X o (tD K eo))(ha:PE X a (tD K ea))(hs:starEach [a] X.env=[(false,eval a X.env)]:=by rfl)
  (TZ:attributeBase o "update" X.env (eval o X.env)=eval o X.env:=by rfl) (TY:(apos.endLine==pos.line)=true:=by rfl) (hK:X.K=K:=by rfl)
  (Uu:((backTo pos (starEach [a] X.env)).all (fun x=>!x.1)&&(backToKw pos (keywordEach [] X.env)).all (fun x=>x.1.isSome)
   &&decide ([a].length+([]:List Keyword).length+(if([]:List Keyword).isEmpty then 0 else 1)<30))=true:=by rfl):
  PE X (.Call (.Attribute o "update" apos) [a] [] pos) (tD K (oK eo ea)):=by
 subst hK;refine du (vz RK PySem.F.slot_dict_update PySem.F.type_dict_update KJ ho (eJ ha eZ hs) TZ Uu TY hs) fun O H Q h=>?_;refine UC h fun W B d Z5 eH ok en e q=>?_;subst eH;refine cS e fun p1 e1 e=>?_;refine cS e fun ϒ e0 e=>?_;refine cS e fun p2 e2 e=>?_;refine cS e fun kvs e3 e=>?_;refine cS e fun more e4 e=>?_;refine⟨W,B,p1.1,p1.2,rfl,ok,en,e1,fun x W1 Z2 ok1 s1 r1=>⟨m8 ok1 (by rw[Z2];exact e0) r1,W1,B,p2.1,p2.2,rfl,ok1,en.step ok s1,by rw[Z2];exact e2,fun y W2 ZU ok2 s2 r2=>?_⟩⟩;rw[←ZU] at e3 e4;obtain⟨k,a1,vs,hd,rfl,hk,XI,hh,XG⟩:=fX ok2 e3 (r1.step ok1 s2);obtain⟨k2,a2,us,hd2,rfl,hk2,Yt,_n,Tj⟩:=fX ok2 e4 r2;rw[hd,hd2] at e;simp only at e;split at e
 .rename_i hc;cases e;have hne:a1≠a2:=fun z=>hc.1 (IT ok2.nd XI (z▸Yt));obtain⟨o3,s3⟩:=lT (vs':=hX vs us) (kvs':=i7 kvs more) ok2 hk XI (KR.merge Tj XG);refine⟨a1,a2,vs,us,rfl,rfl,hh,_n,hne,il (by rw[←XG.len,←Tj.len];omega),?_⟩;exact q _ (W2.put k a1 (.dK (hX vs us)) (.dK (i7 kvs more))) (by show W2.L.set _ _=_;rw[ZU]) o3 ((s1.trans s2).trans s3) .non
 .cases e
def nA(neg:Bool)(y x:D)(L:M):Fr:=(fu y).bind fun k=>(dD L x).bind fun kvs=>some (.bl (xor neg (eY kvs k).isSome),L)
theorem Jt{W:Wd}{x y:V}{d e:D}{k:Key}{kvs:List (Key×D)}(ok:Ok K W)(rd:DR K W d x)(re:DR K W e y)(hk:fu e=some k)(hd:dD W.L d=some kvs):∃a ov,x=.ref a/\U3 W.H a y ov/\ov.isSome=(eY kvs k).isSome:=by
 obtain⟨k2,a,vs,_,rfl,_,_,hh,hs⟩:=fX ok hd rd;have:=j8 hk re;subst this;exact⟨a,_,rfl,U3.k hh,(hs.val k).symm⟩
theorem Hn(neg:Bool):∀O H Q,tD K (v2 (nA neg) ea eb) O H Q->(fun O H Q=>tD K ea O H fun y H1=>tD K eb O H1 fun x H2=>∃a ov,x=.ref a/\U3 H2 a y ov/\Q (.bl (xor neg ov.isSome)) H2:TE) O H Q:=fun O H Q h=>by
 refine UC h fun W B d Z5 eH ok en e q=>?_;subst eH;refine cS e fun p1 e1 e=>?_;refine cS e fun p2 e2 e=>?_;refine cS e fun k e3 e=>?_;refine cS e fun kvs e4 e=>?_;cases e;refine⟨W,B,p1.1,p1.2,rfl,ok,en,e1,fun x W1 Z2 ok1 s1 r1=>⟨W1,B,p2.1,p2.2,rfl,ok1,en.step ok s1,by rw[Z2];exact e2,fun y W2 ZU ok2 s2 r2=>?_⟩⟩;rw[←ZU] at e4;obtain⟨a,ov,h1,h2,h3⟩:=Jt ok2 r2 (r1.step ok1 s2) e3 e4;refine(⟨a,ov,h1,h2,?_⟩);rw[h3];exact q _ W2 ZU ok2 (s1.trans s2) (.bl _)
theorem LJ(hr:TU k X.A)(ha:PE X a (tD K ea))(hb:PE X b (tD K eb))(hm:behindInMarks .NotIn b=false:=by rfl):PT X (.Compare a [.NotIn] [b] pos) (Tq K (vT (v2 (nA true) ea eb))):=
 iq (Ad (wF (by have:=hr.units;omega) ha hb) hm) (og fun O H Q h=>by
  have:=Hn true O H Q h;simp only[Tc] at this;exact this)
def oq(eo ei ev:EV):SV:=fun B L=>(ev B L).bind fun v=>(eo B v.2).bind fun p=>(ei B p.2).bind fun q=>(fu q.1).bind fun k=>(dD q.2 p.1).bind fun kvs=>match p.1 with
 | .ref n=>if kvs.length<1000000 then some (.nx,B,q.2.set n (some (.dK (eM kvs k v.1)))) else none
 |_=>none
theorem Hz(hr:TU k X.A)(ho:PE X o (tD K eo))(hi:PE X i (tD K ei))(hv:PE X value (tD K ev))(hs:swapsWith value (some (.Subscript o i pos')) pos.line X.env=pure false:=by rfl):
  PS X (.Assign [.Subscript o i pos'] value pos) (Ue K (oq eo ei ev)):=fb (wu (by have:=hr.units;omega) ho hi hv hs) fun D O H h=>by
 refine Ui h fun W B o ZX Z5 eH ok en e q=>?_;subst eH;refine cS e fun v0 e0 e=>?_;refine cS e fun p1 e1 e=>?_;refine cS e fun p2 e2 e=>?_;refine cS e fun ky e3 e=>?_;refine cS e fun kvs e4 e=>?_;refine⟨W,B,v0.1,v0.2,rfl,ok,en,e0,fun z W0 Zg ok0 s0 r0=>⟨W0,B,p1.1,p1.2,rfl,ok0,en.step ok s0,by rw[Zg];exact e1,fun x W1 Z2 ok1 s1 r1=>⟨W1,B,p2.1,p2.2,rfl,ok1,(en.step ok s0).step ok0 s1,by rw[Z2];exact e2,fun y W2 ZU ok2 s2 r2=>?_⟩⟩⟩;rw[←ZU] at e4;obtain⟨n,a,vs,hd,rfl,hk,ha,hh,hs⟩:=fX ok2 e4 (r1.step ok1 s2);rw[hd] at e;simp only at e;split at e
 .rename_i hl;cases e;have:=j8 e3 r2;subst this;obtain⟨o3,s3⟩:=lT (vs':=dG vs ky z) (kvs':=eM kvs ky v0.1) ok2 hk ha (hs.put ky ((r0.step ok0 s1).step ok1 s2));refine⟨a,_,rfl,WN.k hh (j2 (by rw[←hs.len];omega)),?_⟩;exact q (W2.put n a (.dK (dG vs ky z)) (.dK (eM kvs ky v0.1))) O (by show W2.L.set _ _=_;rw[ZU]) o3 (((s0.trans s1).trans s2).trans s3) ((((en.step ok s0).step ok0 s1).step ok1 s2).step ok2 s3)
 .cases e
def sY(i j:Nat)(ea:EV):SV:=fun B L=>(ea B L).bind fun p=>some (.nx,(B.set i (some p.1)).set j (some p.1),p.2)
theorem Hf{i j:Nat}{x y:Str}{py:Pos}(hN:X.N.Nodup)(hi:X.N[i]?=some x)(hj:X.N[j]?=some y)(hx:Loc X.env.scope x)(hy:Loc X.env.scope y)(he:PE X e (tD K ea))
  (hw:swappedStores [.Name x p,.Name y py] e X.env=pure none:=by rfl)
  (hf:X.fn x=true\/X.env.scope.names.lookup x=some .local:=by first|exact .inl rfl|exact .inr rfl|assumption) (Ϣ:X.fn y=true\/X.env.scope.names.lookup y=some .local:=by first|exact .inl rfl|exact .inr rfl|assumption):
  PS X (.Assign [.Name x p,.Name y py] e pos) (Ue K (sY i j ea)):=by
 intro pins s O H D I h;obtain⟨W,B,o,ZX,Z5,rfl,ok,en,e0,q⟩:=h;refine cS e0 fun p1 e1 e2=>?_;cases e2;refine(wpAny_Assign_two (TM (he pins s O W.H (fun v H1=>D.nx ((O.set i (some v)).set j (some v)) H1) I ⟨W,B,p1.1,p1.2,rfl,ok,en,e1,fun v W1 Z2 ok1 s1 r1=>q W1 _ Z2 ok1 s1 (((en.step ok s1).set r1 i).set r1 j)⟩) fun v s1 hm=>?_) (by rfl) hw);obtain⟨z,H1,I1,r1,q1⟩:=hm;exact(TM (rm (pos:=p) hN hi hx hf pins s1 O H1 z v (fun ZV H2=>D.nx (ZV.set j (some z)) H2) I1 r1 q1) fun _ s2 ⟨ZV,H2,I2,q2⟩=>TM (rm (pos:=py) hN hj hy Ϣ pins s2 ZV H2 z v D.nx I2 r1 q2) fun _ s3 q=>q)
end
def fr(n:Nat)(c:Ck)(g:GV)(tc:BV)(tk tv:EV):List D->G->M->Option M
 | [],_,L=>some L
 |d::r,B,L=>(g d B L).bind fun p=>(tc p.1 p.2).bind fun t=>if t.1=true then(tk p.1 t.2).bind fun y=>(tv p.1 y.2).bind fun v=>(fu y.1).bind fun k=>(dD v.2 (.ref n)).bind fun kvs=>
   Uw (kvs.length<1000000/\de c (v.2.set n (some (.dK (eM kvs k v.1))))) (fr n c g tc tk tv r p.1 (v.2.set n (some (.dK (eM kvs k v.1))))) else Uw (de c t.2) (fr n c g tc tk tv r p.1 t.2)
def pc(own:List Str)(cap:List (Str×Nat))(iv:IV)(g:GV)(tc:BV)(tk tv:EV):EV:=fun B L=>(iv B L).bind fun s=>Uw (s.1.1.length<=1000000/\de s.1.2 (s.2++[some (.dK [])]))
 ((fr s.2.length s.1.2 g tc tk tv s.1.1 (dM own cap B) (s.2++[some (.dK [])])).bind fun Z5=>some (.ref s.2.length,Z5))
section
variable {X:Cx} {K:Frag} {N' own:List Str} {cap:List (Str×Nat)} {scope:Scope} {tg iter kx vx:Expr} {ifs:List Expr} {pos:Pos} {iv:IV} {g:GV} {tc:BV} {tk tv:EV}
theorem NZ{W1:Wd}{Z6:It}{its:List D}{c:Ck}{ZF:G}{ZL:St}{Z5:M}{p:Addr}{Z:Hp->Prop}(ok1:Ok K W1)(hp:W1.H p=none)(jr:JR K W1 Z6 its c)(en:TQ K W1 ZF ZL)
  (c0:de c (W1.L++[some (.dK [])])) (e:fr W1.L.length c g tc tk tv its ZF (W1.L++[some (.dK [])])=some Z5) (hZ:∀W',W'.L=Z5->Ok K W'->Step W1 W'->DR K W' (.ref W1.L.length) (.ref p)->Z W'.H):
  mK Z6 (U4 K g) (Tq K tc) (tD K tk) (tD K tv) p ZL W1.H Z:=by
 obtain⟨c1,ds,vs,r1,hj⟩:=jr;have ok0:=ka (x:=.dK []) (o:=.dK []) ok1 hp ⟨[],rfl,.nil⟩;have s0:=gJ (K:=K) (x:=.dK []) (o:=.dK []) ok1 hp;have r0:=jS (K:=K) (W:=W1) (p:=p) (o:=.dK []) (x:=.dK []) ok1;refine(⟨fun i m ZV H2=>m=its.length - i/\i<=its.length/\∃W2 ZW,W2.H=H2/\Ok K W2/\Step (W1.new p (.dK []) (.dK [])) W2/\TQ K W2 ZW ZV/\de c W2.L/\fr W1.L.length c g tc tk tv (its.drop i) ZW W2.L=some Z5,?_,?_⟩)
 .exact⟨its.length,by simp,QZ _,W1.new p (.dK []) (.dK []),ZF,rfl,ok0,.refl,en.step ok1 s0,c0,e⟩
 rintro i m ZV H2 ⟨rfl,hi,W2,ZW,rfl,ok2,s2,Uh,c2,e2⟩;have rj:TN K W2 ds vs:=(r1.step ok1 s0).step ok0 s2;obtain⟨UJ,Vo⟩:=hj W2 i ok2 c2 rj;by_cases hlt:i<its.length
 .refine .inr ?_;have hd:its[i]?=some its[i]:=P9 hlt;obtain⟨h1,h2⟩:=Vo _ hd;rw[QB hlt] at e2;refine cS e2 fun pg e3 e2=>?_;refine cS e2 fun pt e4 e2=>?_;refine(⟨h1,fun ZZ H'=>i+1<=its.length/\∃W2 ZW,W2.H=H'/\Ok K W2/\Step (W1.new p (.dK []) (.dK [])) W2/\TQ K W2 ZW ZZ/\de c W2.L/\fr W1.L.length c g tc tk tv (its.drop (i+1)) ZW W2.L=some Z5,fun ZZ H' hN=>⟨its.length - (i+1),by omega,rfl,hN⟩,fun x H' hy=>?_⟩);obtain⟨W3,rfl,ZR,T5,s3,r3⟩:=h2 x H' hy;refine⟨W3,ZW,its[i],pg.1,pg.2,rfl,T5,Uh.step ok2 s3,r3,by rw[ZR];exact e3,fun W4 ZN ZD Ug s4 Um=>⟨W4,pg.1,pt.1,pt.2,rfl,Ug,Um,by rw[ZD];exact e4,fun W5 ZP UX s5=>?_⟩⟩;have s25:=s3.trans (s4.trans s5);split at e2
  .rename_i ht;refine cS e2 fun py e5 e2=>?_;refine cS e2 fun pv e6 e2=>?_;refine cS e2 fun k e7 e2=>?_;refine cS e2 fun kvs e8 e2=>?_;obtain⟨⟨hl,c5⟩,e2⟩:=n0 e2;refine(ic (fun _=>?_) (fun n=>absurd ht n));refine⟨W5,pg.1,py.1,py.2,rfl,UX,Um.step Ug s5,by rw[ZP];exact e5,fun y W6 Zv Vj s6 r6=>⟨W6,pg.1,pv.1,pv.2,rfl,Vj,(Um.step Ug s5).step UX s6,by rw[Zv];exact e6,fun v W7 Zu XY s7 r7=>?_⟩⟩;have s27:=(s25.trans s6).trans s7;rw[←Zu] at e8;have rp:DR K W7 (.ref W1.L.length) (.ref p):=(r0.step ok0 s2).step ok2 s27;obtain⟨n,a,us,hd,hv,hk,ha,hh,hs⟩:=fX XY e8 rp;cases hd;cases hv;obtain⟨o8,s8⟩:=lT (vs':=dG us k v) (kvs':=eM kvs k pv.1) XY hk ha (hs.put k r7);exact⟨us,k,hh,j2 (by rw[←hs.len];omega),j8 e7 (r6.step Vj s7),hlt,W7.put W1.L.length p (.dK (dG us k v)) (.dK (eM kvs k pv.1)),pg.1,rfl,o8,(s2.trans s27).trans s8,(((Um.step Ug s5).step UX s6).step Vj s7).step XY s8,by show de c (W7.L.set _ _);rw[Zu];exact c5,by show fr _ c g tc tk tv _ _ (W7.L.set _ _)=_;rw[Zu];exact e2⟩
  .rename_i ht;refine gu e2 fun c5 e2=>?_;refine ic (fun n=>absurd n ht) (fun _=>?_);exact⟨hlt,W5,pg.1,rfl,UX,s2.trans s25,Um.step Ug s5,by rw[ZP];exact c5,by rw[ZP];exact e2⟩
 .have e':i=its.length:=by omega
  subst e';rw[QM (P3 _)] at e2;cases e2;exact .inl ⟨UJ (P3 _),hZ W2 rfl ok2 (s0.trans s2) (r0.step ok0 s2)⟩
theorem O7(S:TK X N' own cap scope)(hi:PI X tg iter (Vf K iv))
  (hg:∀cl C Z1 Z0 ex,PG (c3 X N' scope cl C Z1 Z0 ex) tg (U4 K g)) (ht:∀cl C Z1 Z0 ex,Up (c3 X N' scope cl C Z1 Z0 ex) ifs (Tq K tc)) (hk:∀cl C Z1 Z0 ex,PE (c3 X N' scope cl C Z1 Z0 ex) kx (tD K tk)) (hv:∀cl C Z1 Z0 ex,PE (c3 X N' scope cl C Z1 Z0 ex) vx (tD K tv))
  (hx:∀e s,X.xe e s->False:=by exact fun _ _ z=>z) (hc:X.calm=true:=by rfl) (hs:∀x,foldedSetIterable iter X.env x=pure x:=by intro _;rfl):
  PE X (.DictComp kx vx [⟨tg,iter,ifs,0⟩] scope pos) (tD K (pc own cap iv g tc tk tv)):=du (wD S hi hg ht hk hv hx hc hs) fun O H Q h=>by
 refine UC h fun W B d Z5 eH ok en e q=>?_;subst eH;obtain⟨⟨⟨its,c⟩,Z4⟩,e1,e⟩:=UP e;refine(⟨W,B,its,c,Z4,rfl,ok,en,e1,fun Z6 W1 ZK ok1 s1 jr p hp=>?_⟩);subst ZK;obtain⟨⟨hl,c0⟩,e⟩:=n0 e;refine cS e fun Z3 e2 e=>?_;cases e;exact(NZ ok1 hp jr ((en.step ok s1).cap own cap) c0 e2 fun W' h1 h2 h3 h4=>q _ W' h1 h2 (s1.trans h3) h4)
end
section
variable {X:Cx} {K:Frag} {a b e o:Expr} {ea eb eo:EV} {pos p apos VT:Pos} {k:Nat}
def nR:EV:=fun _ L=>some (.ref L.length,L++[some (.dK [])])
theorem zy:PE X (.Dict [] [] pos) (tD K nR):=du HP fun O H Q h=>by
 refine UC h fun W B d Z5 eH ok en e q=>?_;subst eH;cases e;intro pa hp;exact q _ (W.new pa (.dK []) (.dK [])) rfl (ka ok hp ⟨[],rfl,.nil⟩) (gJ ok hp) (jS ok)
def fT(x y:D)(L:M):Fr:=(dD L x).bind fun kvs=>(fu y).bind fun k=>(eY kvs k).bind fun d=>some (d,L)
theorem KR.at{W:Wd}{kvs:List (Key×D)}{vs:List (Key×V)}(r:KR K W kvs vs){k:Key}{d:D}(h:eY kvs k=some d):∃v,fh vs k=some v/\DR K W d v:=by
 unfold KR at r;induction r with
 |nil=>cases h
 | @cons p q ps qs hd t ih=>
  by_cases e:p.1=k
  .have:eY (p::ps) k=some p.2:=by simp[eY,Ql,e]
   rw[this] at h;cases h;exact⟨q.2,ku (by rw[←hd.1];exact e),hd.2⟩
  .have:eY (p::ps) k=eY ps k:=by simp[eY,Ql,e]
   rw[this] at h;obtain⟨v,h1,h2⟩:=ih h;exact⟨v,by rw[kC (by rw[←hd.1];exact e)];exact h1,h2⟩
theorem pM(hr:TU k X.A)(ha:PE X a (tD K ea))(hb:PE X b (tD K eb))(hs:qG b:=by exact fun _ _=>rfl):PE X (.Subscript a b pos) (tD K (v2 fT ea eb)):=
 du (wt (by have:=hr.units;omega) ha hb hs) fun O H Q h=>by
  refine UC h fun W B d Z5 eH ok en e q=>?_;subst eH;refine cS e fun p1 e1 e=>?_;refine cS e fun p2 e2 e=>?_;refine cS e fun kvs e3 e=>?_;refine cS e fun ky e4 e=>?_;refine cS e fun d2 e5 e=>?_;cases e;refine⟨W,B,p1.1,p1.2,rfl,ok,en,e1,fun x W1 Z2 ok1 s1 r1=>⟨W1,B,p2.1,p2.2,rfl,ok1,en.step ok s1,by rw[Z2];exact e2,fun y W2 ZU ok2 s2 r2=>?_⟩⟩;rw[←ZU] at e3;obtain⟨n,a,vs,hd,rfl,hk,ha,hh,hs⟩:=fX ok2 e3 (r1.step ok1 s2);have:=j8 e4 r2;subst this;obtain⟨v,h1,h2⟩:=hs.at e5;exact⟨a,v,rfl,by rw[←h1];exact U3.k hh,q _ W2 ZU ok2 (s1.trans s2) h2⟩
def oX(x:D)(L:M):Fr:=(dD L x).bind fun kvs=>some (.lst (kvs.map (·.2)),L)
theorem PB(ml:X.mg "list"=none) (ho:PE X o (tD K eo)) (hc:X.calm=true:=by rfl) (hg:Gl X "list":=by rfl) (TZ:attributeBase o "values" X.env (eval o X.env)=eval o X.env:=by rfl) (TY:(apos.endLine==VT.line)=true:=by rfl)
  (hs:starEach [.Call (.Attribute o "values" apos) [] [] VT] X.env=[(false,eval (.Call (.Attribute o "values" apos) [] [] VT) X.env)]:=by rfl) (hK:X.K=K:=by rfl):
  PE X (.Call (.Name "list" p) [.Call (.Attribute o "values" apos) [] [] VT] [] pos) (tD K (v1 oX eo)):=by
 refine du (oI (p:=p) (pos:=pos) (Da (X:=X)) hg ml rfl (eJ (wN K ho TZ TY hK) eZ hs) (he:=hs)) fun O H Q h=>?_;refine UC h fun W B d Z5 eH ok en e q=>?_;subst eH;refine cS e fun p1 e1 e=>?_;refine cS e fun kvs e2 e=>?_;cases e;refine⟨W,B,p1.1,p1.2,rfl,ok,en,e1,fun x W1 Z2 ok1 s1 r1=>?_⟩;rw[←Z2] at e2;obtain⟨k,a,vs,hd,rfl,hk,ha,hh,hs⟩:=fX ok1 e2 r1;refine(⟨m8 ok1 e2 r1,a,vs,rfl,rfl,hh,fun v hv=>?_⟩);refine⟨v,a,vs,rfl,eC,by rw[dg (fun z=>by rw[z,hv] at hh;cases hh)];exact hh,hc,fun l hl=>?_⟩;have ok2:=fE (o:=Xl v a) ok1 hv;have s2:=eL (o:=Xl v a) hv;have r2:=hs.vals.step ok1 s2;exact q _ ((W1.lay v (Xl v a)).lay l (.lst (vs.map (·.2)))) Z2 (fE ok2 hl) ((s1.trans s2).trans (eL hl)) (ni ok2 hl r2)
def gD(eo ek ed:EV):EV:=fun B L=>(eo B L).bind fun p=>(dD p.2 p.1).bind fun _=>(ek B p.2).bind fun q=>(ed B q.2).bind fun r=>(fu q.1).bind fun k=>(dD r.2 p.1).bind fun kvs=>match p.1 with
 | .ref n=>if kvs.length<1000000 then(match eY kvs k with
  |some d=>some (d,r.2)
  |none=>some (r.1,r.2.set n (some (.dK (eM kvs k r.1))))) else none
 |_=>none
theorem rZ(ho:PE X o (tD K eo))(ha:PE X a (tD K ea))(hb:PE X b (tD K eb))(hs:starEach [a,b] X.env=[(false,eval a X.env),(false,eval b X.env)]:=by rfl)(Tj:starEach [b] X.env=[(false,eval b X.env)]:=by rfl)
  (TZ:attributeBase o "setdefault" X.env (eval o X.env)=eval o X.env:=by rfl) (TY:(apos.endLine==pos.line)=true:=by rfl) (hK:X.K=K:=by rfl)
  (Uu:((backTo pos (starEach [a,b] X.env)).all (fun x=>!x.1)&&(backToKw pos (keywordEach [] X.env)).all (fun x=>x.1.isSome)
   &&decide ([a,b].length+([]:List Keyword).length+(if([]:List Keyword).isEmpty then 0 else 1)<30))=true:=by rfl):
  PE X (.Call (.Attribute o "setdefault" apos) [a,b] [] pos) (tD K (gD eo ea eb)):=du (IR K ho ha hb hs Tj TZ TY hK Uu) fun O H Q h=>by
 refine UC h fun W B d Z5 eH ok en e q=>?_;subst eH;refine cS e fun p1 e1 e=>?_;refine cS e fun ϒ e0 e=>?_;refine cS e fun p2 e2 e=>?_;refine cS e fun p3 e3 e=>?_;refine cS e fun ky e4 e=>?_;refine cS e fun kvs e5 e=>?_;refine⟨W,B,p1.1,p1.2,rfl,ok,en,e1,fun x W1 Z2 ok1 s1 r1=>⟨m8 ok1 (by rw[Z2];exact e0) r1,W1,B,p2.1,p2.2,rfl,ok1,en.step ok s1,by rw[Z2];exact e2,fun y W2 ZU ok2 s2 r2=>⟨W2,B,p3.1,p3.2,rfl,ok2,(en.step ok s1).step ok1 s2,by rw[ZU];exact e3,fun z W3 ZR T5 s3 r3=>?_⟩⟩⟩;rw[←ZR] at e5;obtain⟨n,a1,vs,hd,rfl,hk,XI,hh,XG⟩:=fX T5 e5 ((r1.step ok1 s2).step ok2 s3);have:=j8 e4 (r2.step ok2 s3);subst this;rw[hd] at e;simp only at e;split at e
 .rename_i hl;refine⟨a1,vs,ky,z,rfl,rfl,hh,j2 (by rw[←XG.len];omega),fun v hv=>?_,fun hv=>?_⟩
  .split at e
   .rename_i d0 hd0;cases e;obtain⟨v',h1,h2⟩:=XG.at hd0;rw[hv] at h1;cases h1;exact(q _ W3 ZR T5 ((s1.trans s2).trans s3) h2)
   .rename_i hd0;have:=XG.val ky;rw[hd0,hv] at this;cases this
  .split at e
   .rename_i d0 hd0;have:=XG.val ky;rw[hd0,hv] at this;cases this
   .cases e;obtain⟨o4,s4⟩:=lT (vs':=dG vs ky z) (kvs':=eM kvs ky p3.1) T5 hk XI (XG.put ky r3);exact q _ (W3.put n a1 (.dK (dG vs ky z)) (.dK (eM kvs ky p3.1))) (by show W3.L.set _ _=_;rw[ZR]) o4 (((s1.trans s2).trans s3).trans s4) (r3.step T5 s4)
 .cases e
end
end L3
namespace L2
open PySem PySem.W PySem.Spec PyProof.Rows
structure UW (P:Program) (w:World) (outer:List Env) (Z9:Addr) (H H':Hp) (s:Shared) (e:Addr) (C:Value) (Z8:Heap) (s':Shared):Prop where
 os:s'.os=s.os
 bare:AllBare s'.gens
 un:Un (To outer) [] H H' s.heap s'.heap
 hok:Ua P w H' s'.heap
 trk:∀b o,s'.heap.get? b=some o->H' b≠none->Z8.get? b=some o
 old:∀b o,s.heap.get? b=some o->H b=none->b∉To outer->Z8.get? b=some o
 thr:∀b o,s.heap.get? b=some o->b∉To outer->∃o',Z8.get? b=some o'
 frf:∀b∈To outer,H b=none
 unt:H' e=none
 new:s.heap.get? e=none
 fly:∃a0,Heap.HeldW Z8 outer e C a0 Z9 s'.heap
section
variable {P:Program} {w:World} {outer:List Env} {Z9:Addr} {H H':Hp} {s s':Shared} {e:Addr} {C:Value} {Z8:Heap}
theorem Flew.noted(F:Flew P w outer H H' s e C Z8 s')(hs:s'.heap.UpToSlots h2)(fl:∃a0,Heap.HeldW Z8 outer e C a0 Z9 h2):UW P w outer Z9 H H' s e C Z8 {s' with heap:=h2}:=by
 obtain⟨a0,fl⟩:=fl;obtain⟨u,k,t⟩:=F.to fl.1 hs;exact(⟨F.os,F.bare,u,k,t,F.old,F.thr,F.frf,F.unt,F.new,a0,fl⟩)
theorem UW.to(F:UW P w outer Z9 H H' s e C Z8 s')(hB:Z8.StaysIn h2)(hs:s'.heap.UpToSlots h2):Un (To outer) [] H H' s.heap h2/\Ua P w H' h2/\∀b o,h2.get? b=some o->H' b≠none->Z8.get? b=some o:=by
 obtain⟨a0,fl⟩:=F.fly;have kp:∀b o,s.heap.get? b=some o->H b=none->b∉To outer->h2.get? b=some o:=fun b o x n hb=>hB b o (F.old b o x n hb);have sl:∀b o,s.heap.get? b=some o->H b=none->b∈To outer->∃sl,h2.get? b=some {o with slots:=sl}:=fun b o x n hb=>by
  obtain⟨sl,e1⟩:=F.un.slot b o x n hb (by simp);obtain⟨_,o',e2,d⟩:=fl.2.2.1.mem hb;rw[e1] at e2;cases e2;obtain⟨XU,e3⟩:=hs b {o with slots:=sl} e1 d;exact(⟨XU,e3⟩)
 refine⟨⟨fun b o x n hb _=>kp b o x n hb,fun b o x n hb _=>sl b o x n hb,F.un.free,fun b o x _=>?_,F.un.tups,F.un.frzs,F.un.tbls⟩,fun a u eu=>?_,fun b o x n=>?_⟩
 .by_cases hb:b∈To outer
  .obtain⟨l,e1⟩:=sl b o x (F.frf b hb) hb;exact⟨_,e1⟩
  .obtain⟨o',e1⟩:=F.thr b o x hb;exact⟨o',hB b o' e1⟩
 .refine(F.hok a u eu).stay (fun b v hb q=>hB b v (F.trk b v q ?_)) (fun _ q=>q) fun _ _ q=>q;rcases hb with z|z
  .rw[z,eu];simp
  .rw[z];simp
 .cases eu:H' b with
  |none=>exact absurd eu n
  |some u=>
   obtain⟨o1,e1⟩:=(F.hok b u eu).there;have e2:=F.trk b o1 e1 n;have e3:=hB b o1 e2;rw[x] at e3;cases e3;exact(e2)
theorem UW.next(F:UW P w outer Z9 H H' s e C Z8 s')(hs:s'.heap.UpToSlots h2)(fl:∃a0,Heap.HeldW Z8 outer e C a0 Z9 h2):UW P w outer Z9 H H' s e C Z8 {s' with heap:=h2}:=by
 obtain⟨a0,fl⟩:=fl;obtain⟨u,k,t⟩:=F.to fl.1 hs;exact(⟨F.os,F.bare,u,k,t,F.old,F.thr,F.frf,F.unt,F.new,a0,fl⟩)
theorem UW.lands(F:UW P w outer Z9 H H' s e C Z8 s')(hs:s'.heap.UpToSlots h2)(fl:∃a0,Heap.FlyingW Z8 outer e C a0 h2):Flew P w outer H H' s e C Z8 {s' with heap:=h2}:=by
 obtain⟨a0,fl⟩:=fl;obtain⟨u,k,t⟩:=F.to fl.1 hs;exact(⟨F.os,F.bare,u,k,t,F.old,F.thr,F.frf,F.unt,F.new,a0,fl⟩)
end
theorem Bf{M:Model}{A:Around}{E:OK}{s:Shared}{base:Heap}{l:List Env}{e Z9:Addr}{cls a0:Value}{Q:Unit->Shared->Prop}(R:Heap.HeldW base l e cls a0 Z9 s.heap)
  (h:∀h',Heap.HeldW base l e cls a0 Z9 h'->s.heap.UpToSlots h'->Q () {s with heap:=h'}):wpAny M A (setFlight (.ref e) (some Z9)) Q E s:=by
 obtain⟨Ϟ,hen,hl,oe,vs,T,oT,ts,he,YQ,hd,h1,hnT,hTe,hT,Ϥ,h3⟩:=R;have ν:3<ts.size:=(Array.getElem?_eq_some_iff.mp h3).1;have other:∀b,b≠T->(s.heap.update T (Obj.mapFields (·.setIfInBounds 3 ((some Z9).elim Value.none fun f=>rawInt f)))).get? b=s.heap.get? b:=
  fun b hb=>Q1 _ _ (Ne.symm hb)
 have Vk:∀b o,s.heap.get? b=some o->(∀vs,o.data≠.fields vs)->b≠T:=fun b o hb π q=>by
  rw[q,hT] at hb;injection hb with hb;subst hb;exact π ts Ϥ
 unfold setFlight;refine P2 (Su he hd h1 ?_);rw[if_pos (show(Value.ref T !=Value.none)=true from by simp)];refine wpAny_setField hT Ϥ ν (h _ ⟨fun b o Γ=>(other b fun q=>by rw[q,hnT] at Γ;cases Γ).trans (Ϟ b o Γ),hen,
  hl.of_keeps fun b o hb π=>⟨o,(other b (Vk b o hb π)).trans hb,rfl⟩,?_⟩ fun b o hb π=>⟨o.slots,(other b (Vk b o hb π)).trans hb⟩)
 exact⟨oe,vs,T,_,_,(other e (Ne.symm hTe)).trans he,YQ,hd,h1,hnT,hTe,RC _ hT (Obj.isFreed_of_fields (Obj.data_mapFields Ϥ _)),Obj.data_mapFields Ϥ _,by simp[ν]⟩
theorem M8{M:Model}{A:Around}{E:OK}{s:Shared}{base h:Heap}{env:Env}{outer:List Env}{Z9 e:Addr}{cls:Value}{args:List Value}{Q:Unit->Shared->Prop}
  (hfr:A.frames=some (env::outer)) (hf:env.frame=some Z9) (Ϟ:base.StaysIn h) (hl:h.FunFrames base (env::outer)) (hx:Heap.MadeExcOf h s.heap e cls args)
  (hQ:∀h' a0,Heap.HeldW base (env::outer) e cls a0 Z9 h'->s.heap.UpToSlots h'->Q () {s with heap:=h'}):wpAny M A (noteFrame (.ref e) env) Q E s:=by
 obtain⟨t,he,htn,ht⟩:=hx.there;have fresh:∀b,h.get? b=none->base.get? b=none:=fun b hb=>by
  cases hq:base.get? b with
  |none=>rfl
  |some o'=>have:=Ϟ b o' hq;rw[hb] at this;cases this
 unfold noteFrame;simp only[hf];refine P2 (Su he rfl (show(#[Value.ref t,.none,.none,.none,.bool false,.none]:Array Value)[1]?=some Value.none from rfl) ?_);rw[if_neg (show ¬((Value.none !=Value.none)=true) from by decide)];refine wpAny_entryW (a0:=.ref t) hfr (hl.of_keeps fun b o hb _=>⟨o,hx.keeps b o hb,rfl⟩) hf he (fun b o hb=>hx.keeps b o (Ϟ b o hb)) (fresh e hx.new) rfl (by simp) rfl fun h' hN=>?_;obtain⟨k1,k2,k3,k4⟩:=hN;exact(hQ h' _ ⟨k1,fresh e hx.new,k2,k3⟩ k4)
def Lv(X:Cx):Prop:=X.stack=X.env::X.outer/\X.env.frame=some X.env.locals
def Yz(X:Cx)(E:St->XK)(e:Value)(s':Shared):Prop:=∃(a:Addr) (C:Value) (pins:QS) (O:St) (H H':Hp) (s:Shared),e=.ref a/\Inv X pins O H s/\E O C none H'/\
 ((H'=H/\∃(D:Addr) (vs:List Value) (h':Heap),C=.ref D/\s'={s with heap:=h'}/\Heap.MadeExcOf s.heap h' a C vs)\/(∃Z8,Flew X.prog X.w X.stack H H' s a C Z8 s')\/(∃Z8,UW X.prog X.w X.stack X.env.locals H H' s a C Z8 s'))
section
variable {X:Cx} {E:St->XK} {pins:QS} {O:St} {H H':Hp} {s s':Shared} {a:Addr} {C:Value} {Z8:Heap}
theorem GK{M:Model}{A:Around}{E':OK}{D:Addr}{vs:List Value}{h':Heap}{Q:Unit->Shared->Prop}(lv:Lv X)(hA:A.frames=X.A.frames)(I:Inv X pins O H s)(hx:Heap.MadeExcOf s.heap h' a (.ref D) vs)
  (hQ:∀Z8 h2,UW X.prog X.w X.stack X.env.locals H H s a (.ref D) Z8 {s with heap:=h2}->Q () {s with heap:=h2}):wpAny M A (noteFrame (.ref a) X.env) Q E' {s with heap:=h'}:=by
 obtain⟨Z',lv2⟩:=lv;have fs:∀b,b∈To X.stack->H b=none:=I.stkFree;have inn:∀b o,s.heap.get? b=some o->b∉To X.stack->(hideAll s.heap (To X.stack)).get? b=some o:=fun b o e hb=>hideAll_get _ e hb;have ψ:∀env∈X.stack,∀a,env.frame=some a->a∈To X.stack:=fun env he a ha=>R9.mpr ⟨env,he,ha⟩;have ε:∀b,H b≠none->b∉To X.stack:=fun b n z=>n (fs b z);refine M8 (base:=hideAll s.heap (To X.stack)) (env:=X.env) (outer:=X.outer) (by rw[hA,I.ok.frames,Z']) lv2 (fun b o q=>of_hideAll _ q) (by rw[←Z'];exact funFrames_hide I.stack ψ) hx fun h2 a0 fl ups=>hQ (hideAll s.heap (To X.stack)) h2 ?_;have hB:=fl.1;have Wu:∀b o,s.heap.get? b=some o->b∉To X.stack->h2.get? b=some o:=fun b o e hb=>hB b o (inn b o e hb);have Xx:∀b o,s.heap.get? b=some o->b∈To X.stack->∃sl,h2.get? b=some {o with slots:=sl}:=fun b o e hb=>by
  obtain⟨_,o',e2,d⟩:=I.stack.mem hb;rw[e] at e2;cases e2;obtain⟨XU,e3⟩:=ups b o (hx.keeps b o e) d;exact(⟨XU,e3⟩)
 refine⟨rfl,I.bare,⟨fun b o x n hb _=>Wu b o x hb,fun b o x n hb _=>Xx b o x hb,fun b o x n _=>n,fun b o x _=>?_,fun _ _ z=>z,fun _ _ _ z=>z,fun _ ps z=>⟨#[],by simpa using z⟩⟩,fun b u eu=>?_,fun b o x n=>?_,fun b o x n hb=>inn b o x hb,fun b o x hb=>⟨o,inn b o x hb⟩,fs,?_,hx.new,a0,?_⟩
 .by_cases hb:b∈To X.stack
  .obtain⟨l,e1⟩:=Xx b o x hb;exact⟨_,e1⟩
  .exact⟨o,Wu b o x hb⟩
 .refine(I.hok b u eu).stay (fun c v hb q=>Wu c v q (ε c ?_)) (fun _ q=>q) fun _ _ q=>q;rcases hb with z|z
  .rw[z,eu];simp
  .rw[z];simp
 .cases eu:H b with
  |none=>exact absurd eu n
  |some u=>
   obtain⟨o1,e1⟩:=(I.hok b u eu).there;have e2:=inn b o1 e1 (ε b n);have e3:=hB b o1 e2;rw[x] at e3;cases e3;exact(e2)
 .cases eu:H a with
  |none=>rfl
  |some u=>
   obtain⟨o1,e1⟩:=(I.hok a u eu).there;rw[hx.new] at e1;cases e1
 .rw[←Z'] at fl;exact fl
theorem GF{M:Model}{A:Around}{E':OK}{e:Value}{Q:Unit->Shared->Prop}(lv:Lv X)(hA:A.frames=X.A.frames)(h:Yz X E e s')
  (hQ:∀a C pins O H H' s Z8 s2,e=.ref a->Inv X pins O H s->E O C none H'->UW X.prog X.w X.stack X.env.locals H H' s a C Z8 s2->Q () s2):wpAny M A (noteFrame e X.env) Q E' s':=by
 obtain⟨a,C,pins,O,H,H',s,rfl,I,hE,h⟩:=h;rcases h with⟨rfl,D,vs,h',rfl,rfl,hx⟩|⟨Z8,F⟩|⟨Z8,F⟩
 .exact GK lv hA I hx fun Z8 h2 F=>hQ _ _ _ _ _ _ _ _ _ rfl I hE F
 .obtain⟨a0,fl⟩:=F.fly;have fl':Heap.FlyingW Z8 (X.env::X.outer) a C a0 s'.heap:=by rw[←lv.1];exact fl
  refine wpAny_looks_onW (by rw[hA,I.ok.frames,lv.1]) lv.2 fl' fun h2 hh hs=>hQ _ _ _ _ _ _ _ _ _ rfl I hE (F.noted hs ⟨a0,by rw[lv.1];exact hh⟩)
 .obtain⟨a0,fl⟩:=F.fly;exact wpAny_noteFrame_againW lv.2 fl.2.2.2 (hQ _ _ _ _ _ _ _ _ _ rfl I hE F)
theorem Fn(lv:Lv X):PassesOwn (model X.prog X.w) X.A X.env (Yz X E):=fun e s' h=>by
 refine GF lv rfl h fun a C pins O H H' s Z8 s2 he I hE F=>?_;subst he;obtain⟨a0,fl⟩:=F.fly;obtain⟨oe,vs,T,oT,ts,g1,_,g2,g3,_⟩:=id fl.2.2.2;show wpAny _ _ (do
  if(←field (.ref a) 1)==.none then unsupported "frame.own-activation:exception-without-traceback"
  setFlight (.ref a) X.env.frame) _ _ _
 refine P2 (Su g1 g2 g3 ?_);rw[if_neg (show ¬((Value.ref T==Value.none)=true) from by simp),lv.2];first
  |exact P2 (P6 (Bf fl fun h2 hh hs=>⟨a,C,pins,O,H,H',s,rfl,I,hE,.inr (.inr ⟨Z8,F.next hs ⟨a0,hh⟩⟩)⟩))
  |exact Bf fl fun h2 hh hs=>⟨a,C,pins,O,H,H',s,rfl,I,hE,.inr (.inr ⟨Z8,F.next hs ⟨a0,hh⟩⟩)⟩
end
section
variable {P:Program} {w:World} {K:Frag} {mg:Str->Option Value} {base:Heap} {N:List Str} {qual:Str} {scope:Scope} {f:Addr} {cd:Value} {A:Around} {outer:List Env} {s:Shared} {H:Hp} {E:XK}
theorem Nv{e:Value}{s':Shared}(h:Yz (dB (U5 P w) P w K mg base N qual scope f cd A outer s H E) (fun _=>E) e s'):(dB (U5 P w) P w K mg base N qual scope f cd A outer s H E).xe e s':=by
 obtain⟨a,C,pins,O,H1,H',s1,rfl,I,hE,h⟩:=h;rcases h with⟨rfl,D,vs,h',rfl,rfl,hx⟩|⟨Z8,F⟩|⟨Z8,F⟩
 .exact JI I hx hE
 .exact DQ (E':=E) (fun _ _ _ z=>z) pins O H1 s1 _ s' I ⟨a,C,H',Z8,rfl,F,hE⟩
 .obtain⟨a0,fl⟩:=F.fly;show wpAny (model P w) (A.deeper (envOfC qual scope s.heap.objs.size f cd)) (leaving (envOfC qual scope s.heap.objs.size f cd) (.ref a)) _ _ _;unfold leaving;refine P2 (wpAny_noteFrame_againW rfl fl.2.2.2 (wpAny_landsW fl fun h2 Ϩ ups=>?_));have F2:=F.lands ups ⟨a0,Ϩ⟩;have I2:=Flew.inv (X:=dB (U5 P w) P w K mg base N qual scope f cd A outer s H E) F2 I;have out:∀b o,s.heap.get? b=some o->b∉To outer->b∉To (envOfC qual scope s.heap.objs.size f cd::outer):=fun b o e hb z=>by
   have z:b∈s.heap.objs.size::To outer:=z;rcases Qz.mp z with q|q
   .rw[q] at e;exact QY _ (Qa e)
   .exact hb q
  obtain⟨f1,f2,⟨_,_,f3⟩,f4⟩:=id Ϩ;refine⟨a,C,H',Z8,rfl,⟨I2.os,F2.bare,⟨fun b o x n hb _=>I2.base.keep b o x n hb (by simp[dB]),fun b o x n hb _=>I2.base.slot b o x n hb (by simp[dB]),fun b o x n _=>I2.base.free b o x n (by simp[dB]),fun b o x _=>I2.base.there b o x (by simp[dB]),I2.base.tups,I2.base.frzs,I2.base.tbls⟩,F2.hok,F2.trk,
   fun b o x n hb=>F2.old b o (I.base.keep b o x n hb (by simp[dB])) (I.base.free b o x n (by simp[dB])) (out b o x hb),fun b o x hb=>?_,I.ok.frf,F2.unt,?_,a0,f1,f2,f3,f4⟩,hE⟩
  .obtain⟨o1,e1⟩:=I.base.there b o x (by simp[dB]);exact F2.thr b o1 e1 (out b o x hb)
  .cases eo:s.heap.get? a with
   |none=>rfl
   |some o=>
    obtain⟨o1,e1⟩:=I.base.there a o eo (by simp[dB]);rw[F2.new] at e1;cases e1
end
abbrev Cx.fl(X:Cx)(E:St->XK):Cx:=X.wish (Yz X E)
abbrev tP:List Value:=[.type "ValueError",.type "Exception",.type "BaseException",.type "object"]
def fM(K:Frag)(C:Addr):Prop:=∃bm N nm q bs hdct sn sub ab col dd k0 k1 k2 k3 k5,
  K.lookup C=some (excClassObj nm q C N bs bm hdct sn sub ab col dd k0 k1 k2 k3 k5 "ValueError.__new__")/\tailIn K tP bm=true/\nsOkIn K N=true/\nsIn K N "__init__"=some none
theorem CJ{K:Frag}{h:Heap}{C:Addr}{G:Prop}(X:K.In h)(q:fM K C)
  (k:∀bm N nm q bs hdct sn sub ab col dd k0 k1 k2 k3 k5 mN,h.get? C=some (excClassObj nm q C N bs bm hdct sn sub ab col dd k0 k1 k2 k3 k5 "ValueError.__new__")->h.Ns N mN->mN "__init__"=none->OwnTail h tP bm->G):G:=by
 obtain⟨bm,N,nm,q,bs,hdct,sn,sub,ab,col,dd,k0,k1,k2,k3,k5,ho,ht,hok,_a⟩:=q;exact(k bm N nm q bs hdct sn sub ab col dd k0 k1 k2 k3 k5 _ (X _ _ ho) (.of_isNs (isNs_of_in X hok)) (nsMap_none_of_in X hok _a) (tail_of_in X ht))
def EI{h h':Heap}{N:Addr}{m:Str->Option Value}(hN:h.Ns N m)(b:∀b o,h.get? b=some o->h'.get? b=some o):h'.Ns N m:=by
 obtain⟨o,es,ep,ho,hd,hs,hf⟩:=hN;exact(⟨o,es,ep,b _ _ ho,hd,hs,hf⟩)
section
variable {X:Cx} {E:St->XK} {e:Expr} {te:TE} {np UH pos:Pos} {x:Str} {C:Addr}
theorem xi(he:PE (X.fl E) e te)(hg:Gl (X.fl E) x)(hm:X.mg x=some (.ref C))(hC:fM X.K C)(hc:X.calm=true)(hd:(x==("__debug__":Str))=false:=by decide)
  (hs:starEach [e] X.env=[(false,eval e X.env)]:=by rfl):PS (X.fl E) (.Raise (some (.Call (.Name x np) [e] [] UH)) none pos) (fun _ O H=>te O H fun _ H1=>E O (.ref C) none H1):=by
 intro pins s O H D I h;have kb:X.K.In X.base:=I.ok.mod.kin;refine CJ kb hC fun tl N nm q bs hdct sn sub ab col dd k0 k1 k2 k3 k5 mN hCo hN _a T=>?_;have hpl:(backTo UH (starEach [e] X.env)).any (·.1)=false:=by rw[hs];rfl
 refine wpAny_Raise_call_subT (C:=C) (nm:=nm) (q:=q) (N:=N) (bs:=bs) (bm:=tl) (hdct:=hdct) (sn:=sn) (sub:=sub) (ab:=ab) (col:=col) (dd:=dd) (k0:=k0) (k1:=k1) (k2:=k2) (k3:=k3) (k5:=k5)
  PySem.F.excBase_ValueError (mN:=mN) (T.hasType PySem.F.excBase_ValueError.hasBase) (I.ok.hd hc) hpl _a (mU I hg hm ⟨rfl,?_⟩ hd)
 show wpAny _ _ (evalArgs (.ref C) true (backTo UH (starEach [e] X.env)) []) _ _ _;have hpa:PA (X.fl E) [e] (gq te h8):=eJ he eZ (by show starEach [e] X.env=(false,eval e X.env)::starEach [] X.env;rw[hs];rfl);have hq:wpAny (model X.prog X.w) X.A (spliced (backTo UH (starEach [e] X.env))) (AP (X.fl E) pins O (fun vs H1=>vs.length=1/\E O (.ref C) none H1)) (Yz X E) s:=hpa UH pins s O H (fun vs H1=>vs.length=1/\E O (.ref C) none H1) I (by
  unfold gq h8;have z:te O H (fun v H1=>E O (.ref C) none H1):=h;simpa using z)
 rw[hs] at hq⊢;refine Calls.evalArgs_plain (TM hq fun us s2 hm=>?_);obtain⟨vs,H2,I2,r,hl,hE⟩:=hm;have base:∀b o,X.base.get? b=some o->s2.heap.get? b=some o:=I2.bk;exact⟨rfl,by rw[←r.length,hl];decide,base _ _ hCo,EI hN base,T.keeps base,fun h' a hx=>⟨a,.ref C,pins,O,H2,H2,s2,rfl,I2.unwish,hE,.inl ⟨rfl,C,us,h',rfl,rfl,hx⟩⟩⟩
end
def WW(P:Program)(w:World)(K:Frag)(mg:Str->Option Value)(base:Heap)(k:Nat)(x:Str)(ps:List Str)(sp:Sp):Prop:=
 ∃f fd,TJ P w K mg base (U5 P w) k f fd ps sp/\Binds K fd ps []/\keepIn K (.ref f)=true/\mg x=some (.ref f)
section
variable {X:Cx} {E:St->XK} {k:Nat} {x:Str} {ps:List Str} {sp:Sp} {e:Expr} {es:List Expr} {t:TA} {p pos:Pos} {f C:Addr} {fd:FuncData}
theorem Lu(F:TJ X.prog X.w X.K X.mg X.base (U5 X.prog X.w) k f fd ps sp)(hr:TU k X.A)(hb:Binds X.K fd ps [])
  (I:Inv (X.fl E) pins O H s) (r:Vals vs us) (h:sp vs H Q (E O)):wpAny (model X.prog X.w) X.A (call (.ref f) us) (EP (X.fl E) pins O Q) (Yz X E) s:=by
 have hl:us.length=ps.length:=by rw[←r.length];exact F.len _ _ _ _ h
 have hb':=hb s us I.kIn (by simpa using hl);simp only[QU] at hb';refine Td (R0 (F.run X.A X.stack s H ⟨us,[]⟩ us vs Q (E O) hr I.env0 hb' r h) fun r s' hq=>?_);cases r with
 |error e=>
  obtain⟨a,C,H',Z8,rfl,F,hE⟩:=hq;exact⟨a,C,pins,O,H,H',s,rfl,I.unwish,hE,.inr (.inl ⟨Z8,F⟩)⟩
 |ok fl=>
  cases fl with
  |ret u=>exact I.after hq
  |next=>exact False.elim hq
  |brk=>exact False.elim hq
  |cont=>exact False.elim hq
theorem Er(D:WW X.prog X.w X.K X.mg X.base k x ps sp)(hr:TU k X.A)(ha:PA (X.fl E) (e::es) t)(hg:Gl X x:=by rfl)(VX:(x==("__debug__":Str))=false:=by decide)
  (he:starEach (e::es) X.env=(false,eval e X.env)::starEach es X.env:=by rfl) (hpl:(backTo pos (starEach es X.env)).any (·.1)=false:=by rfl):
  PE (X.fl E) (.Call (.Name x p) (e::es) [] pos) (fun O H Q=>t O H fun vs H1=>sp vs H1 Q (E O)):=by
 obtain⟨f,fd,F,hb,hk,hm⟩:=D;intro pins s O H Q I h;refine Rz (mU I hg hm ?_ VX);refine Sa (h₀:=X.base) I.ok.mod.kin hk (TM (ha pos pins s O H _ I h) fun us s1 ⟨vs,H1,I1,r,q⟩=>⟨I1.kIn,?_⟩) he hpl;exact Lu F hr hb I1 r q
end
theorem T2.okX{P:Program}{w:World}{K:Frag}{mg:Str->Option Value}{base:Heap}{x qual:Str}{st:Stmt}{f:Addr}{fd:FuncData}{N ps:List Str}{k:Nat}{sp:Sp}(F:T2 K x qual st f fd)(S:TC N ps (c9 st))(len:∀vs H Q E,sp vs H Q E->vs.length=ps.length)
  (Vp:∀(cdv:Value) (A:Around) (outer:List Env) (s:Shared) (H:Hp) (vs:List V) (Q:VK) (E:XK),TU k (A.deeper (envOfC qual (c9 st) s.heap.objs.size f cdv))->sp vs H Q E->
   ∃t,UT ((dB (U5 P w) P w K mg base N qual (c9 st) f cdv A outer s H E).fl fun _=>E) (gh st) t/\t {nx:=fun _ H'=>Q .non H',rt:=Q} (iD N vs) H):TJ P w K mg base (U5 P w) (k+1) f fd ps sp:=by
 obtain⟨oc,od,kV,doc,pm,an,cdv,ct,osl,rfl,lk,V2⟩:=F.ex;refine(y8 lk V2 S len fun A outer s H vs Q E hr XE=>?_);obtain⟨t,h,q⟩:=Vp cdv A outer s H vs Q E hr XE;refine(⟨t,fun pins s O H D I hw=>?_,q⟩);exact P8 (h pins s O H D (I.wish _) hw) (fun _ _ z=>z.unwish) fun e s' z=>Nv z
end L2
namespace L3
open PySem PySem.Spec L2
open PyProof.Rows (envOfC)
inductive Rs (J:Type) where
 |ok (a:J)|ex (C:Addr)
abbrev EX:=G->M->Option (Rs D×M)
abbrev BX:=G->M->Option (Rs Bool×M)
abbrev LX:=G->M->Option (Rs (List D)×M)
abbrev FX:=List D->M->Option (Rs D×M)
inductive Tv where
 |nx|bk|ct|rt (d:D)|ex (C:Addr)
abbrev SX:=G->M->Option (Tv×G×M)
section
variable (K:Frag) (E:St->XK)
def xP(E:XK)(Q:VK)(W':Wd):Rs D->Prop
 | .ok d=>∀v,DR K W' d v->Q v W'.H
 | .ex C=>E (.ref C) none W'.H
def sm(E:XK)(Q:Bool->Hp->Prop)(W':Wd):Rs Bool->Prop
 | .ok b=>Q b W'.H
 | .ex C=>E (.ref C) none W'.H
def DA(E:XK)(Q:List V->Hp->Prop)(W':Wd):Rs (List D)->Prop
 | .ok ds=>∀vs,TN K W' ds vs->Q vs W'.H
 | .ex C=>E (.ref C) none W'.H
def Cc(D:Ends)(W':Wd)(ZZ:St):Tv->Prop
 | .nx=>D.nx ZZ W'.H
 | .bk=>D.bk ZZ W'.H
 | .ct=>D.ct ZZ W'.H
 | .rt d=>∀v,DR K W' d v->D.rt v W'.H
 | .ex C=>E ZZ (.ref C) none W'.H
def tX(ev:EX):TE:=fun O H Q=>∃(W:Wd) (B:G) (r:Rs D) (Z5:M),W.H=H/\Ok K W/\TQ K W B O/\ev B W.L=some (r,Z5)/\∀W',W'.L=Z5->Ok K W'->Step W W'->xP K (E O) Q W' r
def Yb(ev:BX):TT:=fun O H Q=>∃(W:Wd) (B:G) (r:Rs Bool) (Z5:M),W.H=H/\Ok K W/\TQ K W B O/\ev B W.L=some (r,Z5)/\∀W',W'.L=Z5->Ok K W'->Step W W'->sm (E O) Q W' r
def X6(ev:LX):TA:=fun O H Q=>∃(W:Wd) (B:G) (r:Rs (List D)) (Z5:M),W.H=H/\Ok K W/\TQ K W B O/\ev B W.L=some (r,Z5)/\∀W',W'.L=Z5->Ok K W'->Step W W'->DA K (E O) Q W' r
def VS(es:SX):TS:=fun D O H=>∃(W:Wd) (B:G) (out:Tv) (ZX:G) (Z5:M),W.H=H/\Ok K W/\TQ K W B O/\es B W.L=some (out,ZX,Z5)/\∀W' ZZ,W'.L=Z5->Ok K W'->Step W W'->TQ K W' ZX ZZ->Cc K E D W' ZZ out
end
def WD(ev:BV):BX:=fun B L=>(ev B L).bind fun p=>some (.ok p.1,p.2)
def VL(ev:LV):LX:=fun B L=>(ev B L).bind fun p=>some (.ok p.1,p.2)
def ϵ:Out->Tv
 | .nx=>.nx
 | .bk=>.bk
 | .ct=>.ct
 | .rt d=>.rt d
def Vc(es:SV):SX:=fun B L=>(es B L).bind fun o=>some (ϵ o.1,o.2)
def Y1(f:C0):FX:=fun ds L=>(f ds L).bind fun p=>some (.ok p.1,p.2)
def Jv{X:Cx}{es:List Expr}{t:TA}(h:PA X.nox es t):PA X es t:=fun pos pins s O H Q I hw=>
 P8 (h pos pins s O H Q (I.wish _) hw) (fun _ _ ⟨v,H',I',r,q⟩=>⟨v,H',I'.unwish,r,q⟩) fun _ _ z=>False.elim z
def HZ{X:Cx}{tg:Expr}{t:TG}(h:PG X.nox tg t):PG X tg t:=fun pins s O H v u Q I r hw=>
 P8 (h pins s O H v u Q (I.wish _) r hw) (fun _ _ ⟨ZZ,H',I',q⟩=>⟨ZZ,H',I'.unwish,q⟩) fun _ _ z=>False.elim z
section
variable {X:Cx} {E:St->XK} {K:Frag} {e:Expr} {es:List Expr} {pos p:Pos} {ev:EV} {bv:BV} {lv:LV} {sv:SV}
theorem Kn:∀O H Q,Yb K E (WD bv) O H Q->Tq K bv O H Q:=fun O H Q h=>by
 refine UC h fun W B r Z5 eH ok en e q=>?_;subst eH;refine cS e fun p e1 e=>?_;cases e;exact⟨W,B,p.1,p.2,rfl,ok,en,e1,fun W' h1 h2 h3=>q W' h1 h2 h3⟩
theorem FW:∀O H Q,X6 K E (VL lv) O H Q->Ve K lv O H Q:=fun O H Q h=>by
 refine UC h fun W B r Z5 eH ok en e q=>?_;subst eH;refine cS e fun p e1 e=>?_;cases e;exact⟨W,B,p.1,p.2,rfl,ok,en,e1,fun v W' h1 h2 h3 h4=>q W' h1 h2 h3 v h4⟩
theorem xo:∀D O H,VS K E (Vc sv) D O H->Ue K sv D O H:=fun D O H h=>by
 refine Ui h fun W B o ZX Z5 eH ok en e q=>?_;subst eH;obtain⟨⟨o1,ZY,Z4⟩,e1,e⟩:=UP e;cases e;refine(⟨W,B,o1,_,_,rfl,ok,en,e1,fun W' ZZ h1 h2 h3 h4=>?_⟩);have:=q W' ZZ h1 h2 h3 h4;cases o1<;>exact this
theorem lN(h:PT X.nox e (Tq K bv)):PT X e (Yb K E (WD bv)):=iq h.nox Kn
theorem jb(h:PA X.nox es (Ve K lv)):PA X es (X6 K E (VL lv)):=qh (Jv h) FW
def qq(ea:EX)(el:LX):LX:=fun B L=>(ea B L).bind fun p=>match p.1 with
 | .ok d=>(el B p.2).bind fun q=>match q.1 with
  | .ok ds=>some (.ok (d::ds),q.2)
  | .ex C=>some (.ex C,q.2)
 | .ex C=>some (.ex C,p.2)
theorem JX(ha:PE X e (tX K E ea))(hr:PA X es (X6 K E el))(hs:starEach (e::es) X.env=(false,eval e X.env)::starEach es X.env:=by rfl):PA X (e::es) (X6 K E (qq ea el)):=qh (eJ ha hr hs) fun O H Q h=>by
 refine UC h fun W B r Z5 eH ok en e q=>?_;subst eH;obtain⟨⟨p1,p2⟩,e1,e⟩:=UP e;refine(⟨W,B,p1,p2,rfl,ok,en,e1,fun W1 Z2 ok1 s1=>?_⟩);cases p1 with
 |ex C=>cases e;exact q W1 Z2 ok1 s1
 |ok d=>
  intro x rx;obtain⟨⟨q1,q2⟩,e2,e⟩:=UP e;refine⟨W1,B,q1,q2,rfl,ok1,en.step ok s1,by rw[Z2];exact e2,fun W2 ZU ok2 s2=>?_⟩;cases q1 with
  |ex C=>cases e;exact q W2 ZU ok2 (s1.trans s2)
  |ok ds=>
   cases e;exact fun vs rvs=>q W2 ZU ok2 (s1.trans s2) (x::vs) (.cons (rx.step ok1 s2) rvs)
def VB(K:Frag)(f:FX):Sp:=fun vs H Q E=>∃(W:Wd) (ds:List D) (r:Rs D) (Z5:M),W.H=H/\Ok K W/\TN K W ds vs/\f ds W.L=some (r,Z5)/\∀W',W'.L=Z5->Ok K W'->Step W W'->xP K E Q W' r
def VJ(f:FX)(el:LX):EX:=fun B L=>(el B L).bind fun p=>match p.1 with
 | .ok ds=>f ds p.2
 | .ex C=>some (.ex C,p.2)
theorem yj{f:FX}{el:LX}{r:List V->Hp->VK->XK->Prop}(ra:∀vs H Q E,VB K f vs H Q E->r vs H Q E):∀O H Q,tX K E (VJ f el) O H Q->X6 K E el O H fun vs H1=>r vs H1 Q (E O):=fun O H Q h=>by
 refine UC h fun W B r Z5 eH ok en e q=>?_;subst eH;obtain⟨⟨p1,p2⟩,e1,e⟩:=UP e;refine(⟨W,B,p1,p2,rfl,ok,en,e1,fun W1 Z2 ok1 s1=>?_⟩);cases p1 with
 |ex C=>cases e;exact q W1 Z2 ok1 s1
 |ok ds=>exact fun vs rv=>ra _ _ _ _ ⟨W1,ds,r,Z5,rfl,ok1,rv,by rw[Z2];exact e,fun W2 ZU ok2 s2=>q W2 ZU ok2 (s1.trans s2)⟩
theorem jB(D:WW X.prog X.w X.K X.mg X.base k x ps (VB K f))(hr:TU k X.A)(ha:PA (X.fl E) (e::es) (X6 K E el))(hg:Gl X x:=by rfl)(VX:(x==("__debug__":Str))=false:=by decide)
  (he:starEach (e::es) X.env=(false,eval e X.env)::starEach es X.env:=by rfl) (hpl:(backTo pos (starEach es X.env)).any (·.1)=false:=by rfl):PE (X.fl E) (.Call (.Name x p) (e::es) [] pos) (tX K E (VJ f el)):=
 du (Er D hr ha hg VX he hpl) (yj fun _ _ _ _ z=>z)
theorem FV:∀vs H Q E,VB K (Y1 f) vs H Q E->TV K f vs H Q E0:=fun vs H Q E h=>by
 obtain⟨W,ds,r,Z5,h1,h2,h3,e,q⟩:=h;obtain⟨⟨d,Z4⟩,e1,e⟩:=UP e;cases e;exact(⟨W,ds,d,Z4,h1,h2,h3,e1,fun v W' a b c d=>q W' a b c v d⟩)
theorem IZ(D:Df X.prog X.w X.K X.mg X.base k x ps (TV K f))(hr:TU k X.A)(ha:PA X (e::es) (X6 K E el))(hg:Gl X x:=by rfl)(VX:(x==("__debug__":Str))=false:=by decide)
  (he:starEach (e::es) X.env=(false,eval e X.env)::starEach es X.env:=by rfl) (hpl:(backTo pos (starEach es X.env)).any (·.1)=false:=by rfl):PE X (.Call (.Name x p) (e::es) [] pos) (tX K E (VJ (Y1 f) el)):=
 du (zK D hr ha hg VX he hpl) (yj (r:=fun vs H Q _=>TV K f vs H Q E0) FV)
def ϫ(ev:EX):BX:=fun B L=>(ev B L).bind fun p=>match p.1 with
 | .ok (.bl b)=>some (.ok b,p.2)
 | .ok _=>none
 | .ex C=>some (.ex C,p.2)
theorem Kb{ev:EX}(h:PE X e (tX K E ev))(he:∀whole,isTrue e X.env whole=(do let v ←whole;standAt e.pos;holding [v] (truthy v)):=by intro _;rfl):PT X e (Yb K E (ϫ ev)):=iq (Mq h he) fun O H Q h=>by
 refine UC h fun W B r Z5 eH ok en e q=>?_;subst eH;obtain⟨⟨p1,p2⟩,e1,e⟩:=UP e;refine(⟨W,B,p1,p2,rfl,ok,en,e1,fun W1 Z2 ok1 s1=>?_⟩);cases p1 with
 |ex C=>cases e;exact q W1 Z2 ok1 s1
 |ok d=>
  intro v rv;cases d with
  |bl b=>cases e;cases rv;exact⟨b,rfl,q W1 Z2 ok1 s1⟩
  |_=>cases e
def pH(t:BX):BX:=fun B L=>(t B L).bind fun p=>match p.1 with
 | .ok b=>some (.ok (!b),p.2)
 | .ex C=>some (.ex C,p.2)
theorem ME(h:PT X e (Yb K E bx)):PT X (.UnaryOp .Not e pos) (Yb K E (pH bx)):=iq (xf h) fun O H Q h=>by
 refine UC h fun W B r Z5 eH ok en e q=>?_;subst eH;obtain⟨⟨p1,p2⟩,e1,e⟩:=UP e;refine(⟨W,B,p1,p2,rfl,ok,en,e1,fun W1 Z2 ok1 s1=>?_⟩);cases p1 with
 |ex C=>cases e;exact q W1 Z2 ok1 s1
 |ok b=>cases e;exact q W1 Z2 ok1 s1
end
open PyProof.Rows (envOfC)
section
variable {X:Cx} {E:St->XK} {K:Frag} {e:Expr} {st:Stmt} {di:List Stmt} {pos p:Pos} {sa sb:SX} {ex:EX}
def fg(a b:SX):SX:=fun B L=>(a B L).bind fun o=>match o.1 with
 | .nx=>b o.2.1 o.2.2
 |x=>some (x,o.2)
theorem jW:UT X [] (VS K E (Vc UL)):=m9 eW xo
theorem gf(h1:PS X st (VS K E sa)):UT X [st] (VS K E sa):=Ar h1
theorem jk(h1:PS X st (VS K E sa))(h2:UT X di (VS K E sb)):UT X (st::di) (VS K E (fg sa sb)):=m9 (wV h1 h2) fun D O H h=>by
 refine Ui h fun W B o ZX Z5 eH ok en e q=>?_;subst eH;obtain⟨⟨o1,ZY,Z4⟩,e1,e⟩:=UP e;refine(⟨W,B,o1,ZY,Z4,rfl,ok,en,e1,fun W1 ZI Z2 ok1 s1 Vv=>?_⟩);cases o1 with
 |nx=>exact⟨W1,ZY,o,ZX,Z5,rfl,ok1,Vv,by rw[Z2];exact e,fun W2 ZV ZU ok2 s2 Uh=>q W2 ZV ZU ok2 (s1.trans s2) Uh⟩
 |bk=>cases e;exact q W1 ZI Z2 ok1 s1 Vv
 |ct=>cases e;exact q W1 ZI Z2 ok1 s1 Vv
 |rt d=>cases e;exact q W1 ZI Z2 ok1 s1 Vv
 |ex C=>cases e;exact q W1 ZI Z2 ok1 s1 Vv
def kK(ea:EX):SX:=fun B L=>(ea B L).bind fun p=>match p.1 with
 | .ok _=>some (.nx,B,p.2)
 | .ex C=>some (.ex C,B,p.2)
theorem u5(he:PE X e (tX K E ex))(hs:swapsWith e none pos.line X.env=pure false:=by rfl):PS X (.Expr e pos) (VS K E (kK ex)):=fb (yR he hs) fun D O H h=>by
 refine Ui h fun W B o ZX Z5 eH ok en e q=>?_;subst eH;obtain⟨⟨p1,p2⟩,e1,e⟩:=UP e;refine(⟨W,B,p1,p2,rfl,ok,en,e1,fun W1 Z2 ok1 s1=>?_⟩);cases p1 with
 |ex C=>cases e;exact q W1 O Z2 ok1 s1 (en.step ok s1)
 |ok d=>cases e;exact fun v rv=>q W1 O Z2 ok1 s1 (en.step ok s1)
def jD(ea:EX):SX:=fun B L=>(ea B L).bind fun p=>match p.1 with
 | .ok d=>some (.rt d,B,p.2)
 | .ex C=>some (.ex C,B,p.2)
theorem v8(he:PE X e (tX K E ex)):PS X (.Return (some e) pos) (VS K E (jD ex)):=fb (Ag he) fun D O H h=>by
 refine Ui h fun W B o ZX Z5 eH ok en e q=>?_;subst eH;obtain⟨⟨p1,p2⟩,e1,e⟩:=UP e;refine(⟨W,B,p1,p2,rfl,ok,en,e1,fun W1 Z2 ok1 s1=>?_⟩);cases p1 with
 |ex C=>cases e;exact q W1 O Z2 ok1 s1 (en.step ok s1)
 |ok d=>cases e;exact fun v rv=>q W1 O Z2 ok1 s1 (en.step ok s1) v rv
def ga(t:BX)(a b:SX):SX:=fun B L=>(t B L).bind fun p=>match p.1 with
 | .ok c=>if c=true then a B p.2 else b B p.2
 | .ex C=>some (.ex C,B,p.2)
theorem j6(hc:PT X c (Yb K E bc))(ha:UT X a (VS K E sa))(hb:UT X b (VS K E sb)):PS X (.If c a b pos) (VS K E (ga bc sa sb)):=fb (Ai hc ha hb) fun D O H h=>by
 refine Ui h fun W B o ZX Z5 eH ok en e q=>?_;subst eH;obtain⟨⟨p1,p2⟩,e1,e⟩:=UP e;refine(⟨W,B,p1,p2,rfl,ok,en,e1,fun W1 Z2 ok1 s1=>?_⟩);cases p1 with
 |ex C=>cases e;exact q W1 O Z2 ok1 s1 (en.step ok s1)
 |ok k=>
  cases k with
  |true=>
   simp only[sm,if_true];exact⟨W1,B,o,ZX,Z5,rfl,ok1,en.step ok s1,by rw[Z2];exact e,fun W2 ZV ZU ok2 s2 Uh=>q W2 ZV ZU ok2 (s1.trans s2) Uh⟩
  |false=>
   simp only[sm,Qo,if_false];exact⟨W1,B,o,ZX,Z5,rfl,ok1,en.step ok s1,by rw[Z2];exact e,fun W2 ZV ZU ok2 s2 Uh=>q W2 ZV ZU ok2 (s1.trans s2) Uh⟩
def ui(ea:EX)(g:GV):SX:=fun B L=>(ea B L).bind fun p=>match p.1 with
 | .ok d=>(g d B p.2).bind fun q=>some (.nx,q.1,q.2)
 | .ex C=>some (.ex C,B,p.2)
theorem Jf(hN:X.N.Nodup)(hi:X.N[i]?=some x)(hx:Loc X.env.scope x)(he:PE X e (tX K E ex))(hs:swapsWith e (some (.Name x pos')) pos.line X.env=pure false:=by rfl)(hf:X.fn x=true\/X.env.scope.names.lookup x=some .local:=by first|exact .inl rfl|exact .inr rfl|assumption):
  PS X (.Assign [.Name x pos'] e pos) (VS K E (ui ex (cR i))):=fb (x3 hN hi hx he hs hf) fun D O H h=>by
 refine Ui h fun W B o ZX Z5 eH ok en e q=>?_;subst eH;obtain⟨⟨p1,p2⟩,e1,e⟩:=UP e;refine(⟨W,B,p1,p2,rfl,ok,en,e1,fun W1 Z2 ok1 s1=>?_⟩);cases p1 with
 |ex C=>cases e;exact q W1 O Z2 ok1 s1 (en.step ok s1)
 |ok d=>cases e;exact fun v rv=>q W1 _ Z2 ok1 s1 ((en.step ok s1).set rv i)
def BK(c:BX)(body:SX):Nat->SX
 |0,_,_=>none
 |n+1,B,L=>(c B L).bind fun p=>match p.1 with
  | .ok k=>if k=true then(body B p.2).bind fun o=>match o.1 with
    | .nx=>BK c body n o.2.1 o.2.2
    | .ct=>BK c body n o.2.1 o.2.2
    | .bk=>some (.nx,o.2)
    | .rt d=>some (.rt d,o.2)
    | .ex C=>some (.ex C,o.2)
   else some (.nx,B,p.2)
  | .ex C=>some (.ex C,B,p.2)
def ja(c:Ck)(g:GV)(body:SX):List D->SX
 | [],B,L=>some (.nx,B,L)
 |d::r,B,L=>(g d B L).bind fun p=>(body p.1 p.2).bind fun o=>match o.1 with
  | .nx=>Uw (de c o.2.2) (ja c g body r o.2.1 o.2.2)
  | .ct=>Uw (de c o.2.2) (ja c g body r o.2.1 o.2.2)
  | .bk=>some (.nx,o.2)
  | .rt d=>some (.rt d,o.2)
  | .ex C=>some (.ex C,o.2)
def Ap(iv:IV)(g:GV)(body:SX):SX:=fun B L=>(iv B L).bind fun s=>ja s.1.2 g body s.1.1 B s.2
theorem PU(hp:PassesOwn (model X.prog X.w) X.A X.env X.xe)(hc:X.calm=true)(hi:PI X tg iter (Vf K iv))(hg:PG X tg (U4 K g))(hb:UT X body (VS K E sb))
  (hs:∀x,foldedSetIterable iter X.env x=pure x:=by intro _;rfl):PS X (.For tg iter body [] pos) (VS K E (Ap iv g sb)):=fb (wX hp hc hi hg hb hs) fun D O H h=>by
 refine Ui h fun W B o ZX Z5 eH ok en e q=>?_;subst eH;obtain⟨⟨⟨its,c⟩,Z4⟩,e1,e⟩:=UP e;refine(⟨W,B,its,c,Z4,rfl,ok,en,e1,fun Z6 W1 ZK ok1 s1 jr=>?_⟩);obtain⟨c1,ds,vs,r1,hj⟩:=jr;obtain⟨P,hP⟩:∃P:Nat->St->Hp->Prop,∀i ZV H2,P i ZV H2↔(i<=its.length/\∃W2 ZW,W2.H=H2/\Ok K W2/\Step W1 W2/\TQ K W2 ZW ZV/\de c W2.L/\ja c g sb (its.drop i) ZW W2.L=some (o,ZX,Z5)):=⟨_,fun _ _ _=>Qg⟩
 refine⟨fun i m ZV H2=>m=its.length - i/\P i ZV H2,⟨its.length,by simp,(hP _ _ _).2 ⟨QZ _,W1,B,rfl,ok1,.refl,en.step ok s1,c1,by rw[ZK];exact e⟩⟩,?_⟩;rintro i m ZV H2 ⟨rfl,hi⟩;refine bq fun hG=>?_;obtain⟨hi,W2,ZW,rfl,ok2,s2,Uh,c2,e2⟩:=(hP _ _ _).1 hi;obtain⟨UJ,Vo⟩:=hj W2 i ok2 c2 (r1.step ok1 s2);by_cases hlt:i<its.length
 .have hd:its[i]?=some its[i]:=P9 hlt;obtain⟨h1,h2⟩:=Vo _ hd;rw[QB hlt] at e2;refine cS e2 fun p e3 e2=>?_;obtain⟨⟨o4,Zq,ZE⟩,e4,e2⟩:=UP e2;refine(hG (.inr ⟨h1,P (i+1),fun ZZ H' hN=>⟨its.length - (i+1),by omega,rfl,hN⟩,fun x H' hy=>?_⟩));refine bq fun hF=>?_;obtain⟨W3,rfl,ZR,T5,s3,r3⟩:=h2 x H' hy;refine hF ⟨W3,ZW,its[i],p.1,p.2,rfl,T5,Uh.step ok2 s3,r3,by rw[ZR];exact e3,fun W4 ZN ZD Ug s4 Um=>⟨W4,p.1,o4,Zq,ZE,rfl,Ug,Um,by rw[ZD];exact e4,fun W5 Zo ZP UX s5 XM=>?_⟩⟩;have st:=s2.trans (s3.trans (s4.trans s5));cases o4 with
  |nx=>refine gu e2 fun YS e2=>?_;exact(hP _ _ _).2 ⟨hlt,W5,Zq,rfl,UX,st,XM,by rw[ZP];exact YS,by rw[ZP];exact e2⟩
  |ct=>refine gu e2 fun YS e2=>?_;exact(hP _ _ _).2 ⟨hlt,W5,Zq,rfl,UX,st,XM,by rw[ZP];exact YS,by rw[ZP];exact e2⟩
  |bk=>cases e2;exact q W5 Zo ZP UX (s1.trans st) XM
  |rt d=>cases e2;exact q W5 Zo ZP UX (s1.trans st) XM
  |ex C=>cases e2;exact q W5 Zo ZP UX (s1.trans st) XM
 .have e':i=its.length:=by omega
  subst e';rw[QM (P3 _)] at e2;cases e2;exact hG (.inl ⟨UJ (P3 _),q W2 ZV rfl ok2 (s1.trans s2) Uh⟩)
def Af(C:Addr)(ea:EV):SX:=fun B L=>(ea B L).bind fun p=>some (.ex C,B,p.2)
theorem F0(he:PE (X.fl E).nox e (tD K ea))(hm:X.mg x=some (.ref C))(hC:fM X.K C)(hg:Gl X x:=by rfl)(hc:X.calm=true:=by rfl)(hd:(x==("__debug__":Str))=false:=by decide)
  (hs:starEach [e] X.env=[(false,eval e X.env)]:=by rfl):PS (X.fl E) (.Raise (some (.Call (.Name x np) [e] [] UH)) none pos) (VS K E (Af C ea)):=fb (xi (te:=tD K ea) (PE.nox he) hg hm hC hc hd hs) fun D O H h=>by
 refine Ui h fun W B o ZX Z5 eH ok en e q=>?_;subst eH;refine cS e fun p1 e1 e=>?_;cases e;exact⟨W,B,p1.1,p1.2,rfl,ok,en,e1,fun v W1 Z2 ok1 s1 r1=>q W1 O Z2 ok1 s1 (en.step ok s1)⟩
end
def fA(n m:Nat)(es:SX):FX:=fun ds L=>if ds.length=m then(es (ds.map some++List.replicate (n - ds.length) none) L).bind fun o=>match o.1 with
  | .rt d=>some (.ok d,o.2.2)
  | .nx=>some (.ok .non,o.2.2)
  | .ex C=>some (.ex C,o.2.2)
  |_=>none
 else none
theorem iU{P:Program}{w:World}{K:Frag}{mg:Str->Option Value}{base:Heap}{x qual:Str}{st:Stmt}{f:Addr}{fd:FuncData}{N ps:List Str}{k:Nat}{es:SX}(F:T2 K x qual st f fd)(S:TC N ps (c9 st))
  (hb:∀(cdv:Value) (A:Around) (outer:List Env) (s:Shared) (H:Hp) (E:XK),TU k (A.deeper (envOfC qual (c9 st) s.heap.objs.size f cdv))->UT ((dB (U5 P w) P w K mg base N qual (c9 st) f cdv A outer s H E).fl fun _=>E) (gh st) (VS K (fun _=>E) es)):
  TJ P w K mg base (U5 P w) (k+1) f fd ps (VB K (fA N.length ps.length es)):=by
 refine F.okX S (fun vs H Q E h=>?_) (fun cdv A outer s H vs Q E hr h=>?_)
 .obtain⟨W,ds,r,Z5,_,_,rr,e,_⟩:=h;unfold fA at e;split at e
  .rename_i hl;rw[←rr.length];exact hl
  .cases e
 .obtain⟨W,ds,r,Z5,rfl,ok,rr,e,q⟩:=h;refine⟨_,hb cdv A outer s W.H E hr,?_⟩;unfold fA at e;split at e
  .obtain⟨⟨o,ZX,Z3⟩,e1,e⟩:=UP e;refine⟨W,_,o,ZX,Z3,rfl,ok,z9 rr,e1,fun W' ZZ Z2 Vx s' en'=>?_⟩;cases o with
   |rt z=>cases e;exact q W' Z2 Vx s'
   |nx=>cases e;exact q W' Z2 Vx s' _ .non
   |ex C=>cases e;exact q W' Z2 Vx s'
   |bk=>cases e
   |ct=>cases e
  .cases e
end L3
namespace L2
open PySem PySem.W PySem.Spec PyProof.Rows
end L2
namespace L3
open PySem PySem.Spec L2
def Jy{X:Cx}{tg iter:Expr}{t:TI}(h:PI X.nox tg iter t):PI X tg iter t:=fun pins s O H R I hw=>
 P8 (h pins s O H R (I.wish _) hw) (fun v s1 z=>P8 z (fun Xa s2 ⟨it,fp,tn,Z6,H2,e,I2,T,Ur,f2,q⟩=>⟨it,fp,tn,Z6,H2,e,I2.unwish,T,Ur,f2,q⟩) fun _ _ z=>False.elim z) fun _ _ z=>False.elim z
section
variable {X:Cx} {E:St->XK} {K:Frag} {e e2:Expr} {es:List Expr} {st:List Stmt} {pos p:Pos} {sv:SV}
theorem vq(h:UT X.nox st (Ue K sv)):UT X st (VS K E (Vc sv)):=m9 h.nox xo
def qj:List EV->G->M->Option M
 | [],_,L=>some L
 |ea::r,B,L=>(ea B L).bind fun p=>match p.1 with
  | .int i=>if i.natAbs.log2<1920 then qj r B p.2 else none
  |_=>none
def tJ(K:Frag)(l:List EV):St->Hp->(Hp->Prop)->Prop:=fun O H Q=>∃(W:Wd) (B:G) (Z5:M),W.H=H/\Ok K W/\TQ K W B O/\qj l B W.L=some Z5/\∀W',W'.L=Z5->Ok K W'->Step W W'->Q W'.H
theorem zX(h:PJ X es t)(hi:∀O H Q,t' O H Q->t O H Q):PJ X es t':=fun pins s O H Q acc n a b I hw=>h pins s O H Q acc n a b I (hi _ _ _ hw)
theorem Ye:PJ X [] (tJ K []):=zX IU fun O H Q h=>by
 obtain⟨W,B,Z5,rfl,ok,en,e,q⟩:=h;cases e;exact(q W rfl ok .refl)
theorem gc(hx:x.length<=2000)(hr:PJ X es (tJ K l)):PJ X (.Constant (.str x) j p::es) (tJ K l):=EM hx hr
theorem g9(he:PE X e (tD K ea))(hr:PJ X es (tJ K l)):PJ X (.FormattedValue e (-1) none p::es) (tJ K (ea::l)):=zX (IN he hr) fun O H Q h=>by
 obtain⟨W,B,Z5,rfl,ok,en,e,q⟩:=h;refine cS e fun p1 e1 e=>?_;refine(⟨W,B,p1.1,p1.2,rfl,ok,en,e1,fun v W1 Z2 ok1 s1 r1=>?_⟩);split at e
 .rename_i i hi;split at e
  .rename_i hl;rw[hi] at r1;cases r1;exact⟨i,rfl,hl,W1,B,Z5,rfl,ok1,en.step ok s1,by rw[Z2];exact e,fun W2 ZU ok2 s2=>q W2 ZU ok2 (s1.trans s2)⟩
  .cases e
 .cases e
def tQ(K:Frag)(l:List EV):TE:=fun O H Q=>∃(W:Wd) (B:G) (Z5:M),W.H=H/\Ok K W/\TQ K W B O/\qj l B W.L=some Z5/\∀v W',W'.L=Z5->Ok K W'->Step W W'->Q v W'.H
theorem lZ(h:PJ X (e::e2::es) (tJ K l))(hl:(e::e2::es).length<=400:=by decide):PE X (.JoinedStr (e::e2::es) pos) (tQ K l):=du (PK h hl) fun O H Q h=>by
 obtain⟨W,B,Z5,rfl,ok,en,e,q⟩:=h;exact(⟨W,B,Z5,rfl,ok,en,e,fun W' h1 h2 h3 z=>q _ W' h1 h2 h3⟩)
def iQ(C:Addr)(l:List EV):SX:=fun B L=>(qj l B L).bind fun Z5=>some (.ex C,B,Z5)
theorem kN(he:PE (X.fl E).nox e (tQ K l))(hm:X.mg x=some (.ref C))(hC:fM X.K C)(hg:Gl X x:=by rfl)(hc:X.calm=true:=by rfl)(hd:(x==("__debug__":Str))=false:=by decide)
  (hs:starEach [e] X.env=[(false,eval e X.env)]:=by rfl):PS (X.fl E) (.Raise (some (.Call (.Name x np) [e] [] UH)) none pos) (VS K E (iQ C l)):=fb (xi (te:=tQ K l) (PE.nox he) hg hm hC hc hd hs) fun D O H h=>by
 refine Ui h fun W B o ZX Z5 eH ok en e q=>?_;subst eH;refine cS e fun Z4 e1 e=>?_;cases e;exact⟨W,B,_,rfl,ok,en,e1,fun v W1 Z2 ok1 s1=>q W1 O Z2 ok1 s1 (en.step ok s1)⟩
end
end L3
namespace L2
open PySem PySem.W PySem.Spec PySem.Calls PyProof.Rows PySem.SeqAt
end L2
namespace L3
open PySem PySem.Spec L2
class Enc (J:Type) where
 d:J->D
 p:J->PyData
 k:Nat
 Xo:∀(a:J) (L:M) (n:Nat),k<n->py n L (d a)=some (p a)
 lay:∀a,(p a).canLay0=true
 dep:∀a,(p a).depth<=k
 eqv:∀a b,PyData.eqv (p a) (p b)=true↔a=b
instance encInt:Enc Int where
 d i:=.int i
 p i:=.int i
 k:=0
 Xo a L n h:=by cases n with|zero=>omega|succ n=>rfl
 lay a:=rfl
 dep a:=by simp[PyData.depth]
 eqv a b:=by simp[PyData.eqv]
instance encBool:Enc Bool where
 d i:=.bl i
 p i:=.bool i
 k:=0
 Xo a L n h:=by cases n with|zero=>omega|succ n=>rfl
 lay a:=rfl
 dep a:=by simp[PyData.depth]
 eqv a b:=by cases a<;>cases b<;>simp[PyData.eqv]
section
variable {J β γ:Type} [Enc J] [Enc β] [Enc γ]
end
section
variable {J:Type} [Enc J] [DecidableEq J]
end
section
variable {B:G} {L:M}
theorem pb{ev:BV}{b:Bool}{Z4:M}(h:ev B L=some (b,Z4)):WD ev B L=some (.ok b,Z4):=by unfold WD;rw[h];rfl
theorem mH(h:ev B L=some (ds,Z4)):VL ev B L=some (.ok ds,Z4):=by unfold VL;rw[h];rfl
theorem kz(h:es B L=some (o,ZY,Z4)):Vc es B L=some (ϵ o,ZY,Z4):=by unfold Vc;rw[h];rfl
theorem nh{a b:SX}{ZY:G}{Z4:M}(h:a B L=some (.nx,ZY,Z4)):fg a b B L=b ZY Z4:=by unfold fg;rw[h];rfl
theorem nj{t:BX}{a b:SX}{Z4:M}(h:t B L=some (.ok false,Z4)):ga t a b B L=b B Z4:=by unfold ga;rw[h];rfl
theorem li(h:el B L=some (.ok ds,Z4)):VJ f el B L=f ds Z4:=by unfold VJ;rw[h];rfl
theorem yg(h:ea B L=some (.ok d,Z4)):kK ea B L=some (.nx,B,Z4):=by unfold kK;rw[h];rfl
theorem zz(h:ea B L=some (.ok d,Z4)):jD ea B L=some (.rt d,B,Z4):=by unfold jD;rw[h];rfl
theorem qy(hl:ds.length=m)(h:es (ds.map some++List.replicate (n - ds.length) none) L=some (.rt d,ZY,Z4)):fA n m es ds L=some (.ok d,Z4):=by
 unfold fA;rw[if_pos hl,h];rfl
theorem AD(hl:ds.length=m)(h:es (ds.map some++List.replicate (n - ds.length) none) L=some (.nx,ZY,Z4)):fA n m es ds L=some (.ok .non,Z4):=by
 unfold fA;rw[if_pos hl,h];rfl
end
structure Kp (k:Nat) (L Z5:M):Prop where
 len:L.length<=Z5.length
 at_:∀j,j<L.length->j≠k->Z5[j]?=L[j]?
def Kp.refl{k:Nat}{L:M}:Kp k L L:=⟨P3 _,fun _ _ _=>rfl⟩
def Kp.trans{k:Nat}{L Z4 Z3:M}(h:Kp k L Z4)(g:Kp k Z4 Z3):Kp k L Z3:=⟨QL h.len g.len,fun j hj n=>(g.at_ j (Qt hj h.len) n).trans (h.at_ j hj n)⟩
def OC{k:Nat}{L ex:M}:Kp k L (L++ex):=⟨by simp,fun j hj _=>Qe hj⟩
def md{k:Nat}{L:M}{o:Option Z7}:Kp k L (L.set k o):=⟨by simp,fun j hj n=>QP (Ne.symm n)⟩
structure Gr (L Z5:M):Prop where
 len:L.length<=Z5.length
 at_:∀j,j<L.length->Z5[j]?=L[j]?
def Gr.refl{L:M}:Gr L L:=⟨P3 _,fun _ _=>rfl⟩
def Gr.trans{L Z4 Z3:M}(h:Gr L Z4)(g:Gr Z4 Z3):Gr L Z3:=⟨QL h.len g.len,fun j hj=>(g.at_ j (Qt hj h.len)).trans (h.at_ j hj)⟩
def Gr.get{j:Nat}{L Z5:M}{o:Option Z7}(h:Gr L Z5)(e:L[j]?=some o):Z5[j]?=some o:=(h.at_ j (P5.mp e).1).trans e
def T7{L ex:M}:Gr L (L++ex):=⟨by simp,fun j hj=>Qe hj⟩
def Gr.kp{k:Nat}{L Z5:M}(h:Gr L Z5):Kp k L Z5:=⟨h.len,fun j hj _=>h.at_ j hj⟩
end L3
namespace L2
open PySem PySem.Spec PyProof.Rows
end L2
namespace L3
open PySem PySem.Spec L2
def e9(f:Str)(d:D):List (Str×D)->List (Str×D)
 | []=>[(f,d)]
 |(g,e)::r=>if g=f then(g,d)::r else(g,e)::e9 f d r
section
variable {K:Frag} {W:Wd}
theorem FR.get{f:Str}:∀{fs:List (Str×D)} {vs:List (Str×V)} {d:D},FR K W fs vs->fs.lookup f=some d->∃v,vs.lookup f=some v/\DR K W d v
 |_,_,_,.nil,h=>by cases h
 |(g,e)::r,(g',e')::r',d,.cons h t,q=>by
  obtain⟨h1,h2⟩:=h;have h1:g=g':=h1;subst h1;rw[Qy] at q⊢;cases hb:f==g with
  |true=>rw[hb] at q;cases q;exact⟨e',rfl,h2⟩
  |false=>rw[hb] at q;exact FR.get t q
theorem FR.none{f:Str}:∀{fs:List (Str×D)} {vs:List (Str×V)},FR K W fs vs->fs.lookup f=none->vs.lookup f=none
 |_,_,.nil,h=>rfl
 |(g,e)::r,(g',e')::r',.cons h t,q=>by
  obtain⟨h1,h2⟩:=h;have h1:g=g':=h1;subst h1;rw[Qy] at q⊢;cases hb:f==g with
  |true=>rw[hb] at q;cases q
  |false=>rw[hb] at q;exact FR.none t q
theorem FR.put{f:Str}{d:D}{v:V}(r:DR K W d v):∀{fs:List (Str×D)} {vs:List (Str×V)},FR K W fs vs->FR K W (e9 f d fs) (fc f v vs)
 |_,_,.nil=>.cons ⟨rfl,r⟩ .nil
 |(g,e)::l,(g',e')::l',.cons h t=>by
  obtain⟨h1,h2⟩:=h;have h1:g=g':=h1;subst h1;simp only[e9,fc];split
  .exact .cons ⟨rfl,r⟩ t
  .exact .cons ⟨rfl,h2⟩ (FR.put r t)
theorem FR.len:∀{fs:List (Str×D)} {vs:List (Str×V)},FR K W fs vs->fs.length=vs.length
 |_,_,.nil=>rfl
 |_,_,.cons _ t=>by simp[FR.len t]
theorem tZ{k:Nat}{C:Addr}{fs:List (Str×D)}{v:V}(ok:Ok K W)(h:W.L[k]?=some (some (.ins C fs)))(r:DR K W (.ref k) v):∃a dx vs,v=.ref a/\W.ρ[k]?=some a/\W.H a=some (.ins C dx vs)/\FR K W fs vs:=by
 cases r with
 |ref ha=>
  obtain⟨a',ho,h1,h2,vs,⟨dx,rfl⟩,r⟩:=ok.at_ k _ h;rw[ha] at h1;cases h1;exact(⟨_,dx,vs,rfl,ha,h2,r⟩)
end
structure Uz (K:Frag) (C:Addr) (f:Str):Prop where
 cl:WO K C
 na:Uj K C f
def fC(C:Addr)(f:Str)(x:D)(L:M):Fr:=match x with
 | .ref k=>match L[k]? with
  |some (some (.ins C' fs))=>if C'=C then(fs.lookup f).bind fun d=>some (d,L) else none
  |_=>none
 |_=>none
def mz(C:Addr)(f:Str)(eo ev:EV):SV:=fun B L=>(ev B L).bind fun p=>(eo B p.2).bind fun q=>match q.1 with
 | .ref k=>match q.2[k]? with
  |some (some (.ins C' fs))=>if C'=C/\fs.length<1000 then some (.nx,B,q.2.set k (some (.ins C (e9 f p.1 fs)))) else none
  |_=>none
 |_=>none
section
variable {X:Cx} {K:Frag} {o e value:Expr} {es:List Expr} {f m:Str} {pos pos' apos p:Pos} {eo ev:EV} {el:LV} {C:Addr}
theorem iI(hC:Uz K C f)(he:PE X e (tD K eo))(hb:attributeBase e f X.env (eval e X.env)=eval e X.env:=by rfl)(hK:X.K=K:=by rfl):PE X (.Attribute e f pos) (tD K (v1 (fC C f) eo)):=by
 subst hK;refine du (Gk he hb) (jt ?_);intro W x d z Z5 Q ok r1 hf q;unfold fC at hf;split at hf
 .split at hf
  .rename_i k C' fs hk;split at hf
   .rename_i hc;subst hc;obtain⟨d',hl,hf⟩:=UP hf;cases hf;obtain⟨a,dx,vs,rfl,_,hh,hr⟩:=tZ ok hk r1;obtain⟨v,hv,rv⟩:=hr.get hl;exact(⟨a,_,dx,vs,v,rfl,hh,hC.cl,hC.na,hv,q v W rfl ok .refl rv⟩)
   .cases hf
  .cases hf
 .cases hf
theorem oH(hC:Uz K C f)(ho:PE X o (tD K eo))(hv:PE X value (tD K ev))(hs:swapsWith value (some (.Attribute o f pos')) pos.line X.env=pure false:=by rfl)(hK:X.K=K:=by rfl):PS X (.Assign [.Attribute o f pos'] value pos) (Ue K (mz C f eo ev)):=by
 subst hK;refine fb (Mp ho hv hs) fun D O H h=>?_;refine Ui h fun W B out ZX Z5 eH ok en e q=>?_;subst eH;refine cS e fun p1 e1 e=>?_;refine cS e fun p2 e2 e=>?_;refine⟨W,B,p1.1,p1.2,rfl,ok,en,e1,fun y W1 ZK ok1 s1 r1=>⟨W1,B,p2.1,p2.2,rfl,ok1,en.step ok s1,by rw[ZK];exact e2,fun x W2 ZU ok2 s2 r2=>?_⟩⟩;split at e
 .rename_i k hk;rw[hk] at r2;split at e
  .rename_i C' fs ϡ;split at e
   .rename_i hc;obtain⟨hc,hl⟩:=hc;subst hc;cases e;rw[←ZU] at ϡ;obtain⟨a,dx,vs,rfl,ha,hh,hr⟩:=tZ ok2 ϡ r2;have r1':=r1.step ok1 s2;have okp:=pX (o:=.ins C' dx (fc f y vs)) (x:=.ins C' (e9 f p1.1 fs)) ok2 ϡ ha ⟨_,⟨dx,rfl⟩,hr.put r1'⟩;have sp:=jv (o:=.ins C' dx (fc f y vs)) (x:=.ins C' (e9 f p1.1 fs)) ϡ ha;refine⟨a,C',dx,vs,rfl,hh,hC.cl,hC.na,by rw[←hr.len];exact hl,?_⟩;exact q (W2.put k a (.ins C' dx (fc f y vs)) (.ins C' (e9 f p1.1 fs))) O (by show W2.L.set _ _=_;rw[ZU]) okp ((s1.trans s2).trans sp) (((en.step ok s1).step ok1 s2).step ok2 sp)
   .cases e
  .cases e
 .cases e
structure Ya (P:Program) (w:World) (K:Frag) (mg:Str->Option Value) (base:Heap) (CX:V7) (k:Nat) (C:Addr) (m:Str) (ps:List Str) (sp:Sp):Prop where
 cl:WO K C
 fn:∃f fd,Meth K C m f/\TJ P w K mg base CX k f fd ps sp/\Binds K fd ps []
def Yg(L:M)(C:Addr)(m:Str):D->Bool
 | .ref k=>match L[k]? with
  |some (some (.ins C' fs))=>decide (C'=C)&&(fs.lookup m).isNone
  |_=>false
 |_=>false
def iJ(C:Addr)(m:Str)(g:C0)(eo:EV)(el:LV):EV:=fun B L=>(eo B L).bind fun p=>if Yg p.2 C m p.1=true then(el B p.2).bind fun q=>g (p.1::q.1) q.2 else none
theorem NS{W:Wd}{d:D}{v:V}(ok:Ok K W)(h:Yg W.L C m d=true)(r:DR K W d v):∃a dx fs,v=.ref a/\W.H a=some (.ins C dx fs)/\fs.lookup m=none:=by
 cases d with
 |ref k=>
  simp only[Yg] at h;split at h
  .rename_i C' fs hk;simp only[Qs,QQ,Option.isNone_iff_eq_none] at h;obtain⟨rfl,h2⟩:=h;obtain⟨a,dx,vs,e,_,hh,hr⟩:=tZ ok hk r;exact(⟨a,dx,vs,e,hh,hr.none h2⟩)
  .cases h
 |_=>cases h
theorem F6:∀O H Q,tD K (iJ C m g eo el) O H Q->z7 C m (TV K g) [] E0 (tD K eo) (Ve K el) O H Q:=fun O H Q h=>by
 refine UC h fun W B d Z5 eH ok en e q=>?_;subst eH;refine cS e fun p1 e1 e=>?_;refine⟨W,B,p1.1,p1.2,rfl,ok,en,e1,fun x W1 ZK ok1 s1 r1=>?_⟩;split at e
 .rename_i hn;refine cS e fun p2 e2 e=>?_;rw[←ZK] at hn;obtain⟨a,dx,fs,ex,hh,hl⟩:=NS ok1 hn r1;refine⟨a,dx,fs,ex,hh,hl,W1,B,p2.1,p2.2,rfl,ok1,en.step ok s1,by rw[ZK];exact e2,fun vs W2 ZU ok2 s2 r2=>?_⟩;show TV K g (x::(vs++[])) W2.H Q E0;rw[QU];exact⟨W2,p1.1::p2.1,d,Z5,rfl,ok2,.cons (r1.step ok1 s2) r2,by rw[ZU];exact e,fun v W3 ZR T5 s3 r3=>q v W3 ZR T5 ((s1.trans s2).trans s3) r3⟩
 .cases e
theorem lV(M':Ya X.prog X.w X.K X.mg X.base T1 k C m ps (TV K g))(hr:TU k X.A)(ho:PE X o (tD K eo))(ha:PA X (e::es) (Ve K el))
  (hst:starEach (e::es) X.env=(false,eval e X.env)::starEach es X.env:=by rfl) (hpl:(backTo pos (starEach es X.env)).any (·.1)=false:=by rfl)
  (ht:eval (.Call (.Attribute o m apos) (e::es) [] pos) X.env=(do
   let ov ←eval o X.env
   standAt apos.atName
   let (f,first) ←holding [ov] (getMethod ov m pl)
   callWith pos f first (backTo pos (starEach (e::es) X.env)) (backToKw pos (keywordEach [] X.env))):=by rfl):PE X (.Call (.Attribute o m apos) (e::es) [] pos) (tD K (iJ C m g eo el)):=by
 obtain⟨f,fd,hm,F,hb⟩:=M'.fn;exact(du (MO ho M'.cl hm F hr hb .nil sq ha hst hpl ht) F6)
structure MkC (P:Program) (w:World) (K:Frag) (mg:Str->Option Value) (base:Heap) (CX:V7) (k:Nat) (C:Addr) (x:Str) (ps:List Str) (sp:Sp):Prop where
 mgx:mg x=some (.ref C)
 fn:∃f fd,Mk K C f/\TJ P w K mg base CX k f fd ps sp/\Binds K fd ps []
def qe(C:Addr)(g:C0)(el:LV):EV:=fun B L=>(el B L).bind fun p=>(g (.ref p.2.length::p.1) (p.2++[some (.ins C [])])).bind fun q=>match q.1 with
 | .non=>some (.ref p.2.length,q.2)
 |_=>none
theorem CB:∀O H Q,tD K (qe C g el) O H Q->xl C (TV K g) [] E0 (Ve K el) O H Q:=fun O H Q h=>by
 refine UC h fun W B d Z5 eH ok en e q=>?_;subst eH;refine cS e fun p1 e1 e=>?_;obtain⟨⟨d2,Z3⟩,e2,e⟩:=UP e;refine(⟨W,B,p1.1,p1.2,rfl,ok,en,e1,fun vs W1 ZK ok1 s1 r1 x dx hx hdx hne=>?_⟩);rw[QU];have oka:=fE (o:=.own x) ok1 hdx;have sa:=eL (W:=W1) (o:=.own x) hdx;have XD:(W1.lay dx (.own x)).H x=none:=by show upd W1.H dx _ x=none;rw[dg (Ne.symm hne)];exact hx
 have okb:=ka (x:=.ins C []) (o:=.ins C dx []) oka XD ⟨[],⟨dx,rfl⟩,.nil⟩;have sb:=gJ (K:=K) (x:=.ins C []) (o:=.ins C dx []) oka XD;have rb:=jS (K:=K) (W:=W1.lay dx (.own x)) (p:=x) (o:=.ins C dx []) (x:=.ins C []) oka;have hl:(W1.lay dx (.own x)).L.length=p1.2.length:=by show W1.L.length=_;rw[ZK]
 rw[hl] at rb;cases d2 with
 |non=>
  have e:some (D.ref p1.2.length,Z3)=some (d,Z5):=e;obtain⟨hd,hm⟩:d=.ref p1.2.length/\Z5=Z3:=by cases e;exact⟨rfl,rfl⟩
  subst hd hm;refine⟨(W1.lay dx (.own x)).new x (.ins C dx []) (.ins C []),.ref p1.2.length::p1.1,.non,Z5,rfl,okb,.cons rb ((r1.step ok1 sa).step oka sb),?_,fun v W3 ZR T5 s3 r3=>?_⟩
  .show g _ (W1.L++_)=_;rw[ZK];exact e2
  .cases r3;exact⟨rfl,q _ W3 ZR T5 (((s1.trans sa).trans sb).trans s3) (rb.step okb s3)⟩
 |_=>cases e
theorem Ea(M':MkC X.prog X.w X.K X.mg X.base T1 k C x ps (TV K g))(hr:TU (k+1) X.A)(ha:PA X (e::es) (Ve K el))(hg:Gl X x:=by rfl)(VX:(x==("__debug__":Str))=false:=by decide)
  (he:starEach (e::es) X.env=(false,eval e X.env)::starEach es X.env:=by rfl) (hpl:(backTo pos (starEach es X.env)).any (·.1)=false:=by rfl):PE X (.Call (.Name x p) (e::es) [] pos) (tD K (qe C g el)):=by
 obtain⟨f,fd,mk,F,hb⟩:=M'.fn;exact(du (EG mk F hr hg M'.mgx hb .nil sq ha VX he hpl) CB)
end
def dn(f:FX):C0:=fun ds L=>(f ds L).bind fun p=>match p.1 with
 | .ok d=>some (d,p.2)
 | .ex _=>none
section
variable {P:Program} {w:World} {K:Frag} {mg:Str->Option Value} {base:Heap} {k:Nat} {f:Addr} {fd:FuncData} {ps:List Str} {g:FX}
theorem As:∀vs H Q E E',TV K (dn g) vs H Q E->VB K g vs H Q E':=fun vs H Q E E' h=>by
 obtain⟨W,ds,d,Z5,h1,h2,h3,e,q⟩:=h;obtain⟨⟨r,Z4⟩,e1,e⟩:=UP e;cases r with
 |ok d'=>
  have e:some (d',Z4)=some (d,Z5):=e;obtain⟨rfl,rfl⟩:d'=d/\Z4=Z5:=by cases e;exact⟨rfl,rfl⟩
  exact⟨W,ds,.ok d',Z4,h1,h2,h3,e1,fun W' a b c v rv=>q v W' a b c rv⟩
 |ex C=>cases e
theorem Oq(F:TJ P w K mg base (U5 P w) k f fd ps (VB K g)):TJ P w K mg base T1 k f fd ps (TV K (dn g)):=by
 refine⟨fun vs H Q E h=>F.len vs H Q E (As vs H Q E E h),fun A outer s H args us vs Q E hr he hb hv hs=>?_⟩;refine R0 (F.run A outer s H args us vs Q (fun _ _ _=>False) hr he hb hv (As vs H Q E _ hs)) fun r s' h=>?_;cases r with
 |ok fl=>cases fl<;>exact h
 |error e=>
  obtain⟨a,C,H',Z8,_,_,z⟩:=h;exact(z.elim)
theorem Df.dn(D:WW P w K mg base k x ps (VB K g)):Df P w K mg base k x ps (TV K (L3.dn g)):=let ⟨f,fd,F,r⟩:=D;⟨f,fd,Oq F,r⟩
end
end L3
namespace L2
open PySem PySem.W PySem.Spec PyProof.Rows
end L2
namespace L3
open PySem PySem.Spec L2
end L3
namespace L2
open PySem PySem.W PySem.Spec PyProof.Rows
end L2
namespace L3
open PySem PySem.Spec L2
end L3
namespace L2
open PySem PySem.W PySem.Spec PyProof.Rows
end L2
namespace L3
open PySem PySem.Spec L2
open PyProof.Rows (envOfC)
end L3
namespace L2
open PySem PyProof.Rows
section
open PySem.SeqAt
open PySem.AutoSeq1 (wpAny_loadPart')
open PySem.MeetsSeq PySem.MeetsSeq2 PySem.MeetsSeq3
end
end L2
namespace L3
open PySem PySem.Spec L2
end L3
namespace L2
open PySem PySem.Spec PyProof.Rows
def Tp:Slot "longrange_iterator" "__next__" "longrange_iterator.__next__":=
 .of (owner:="longrange_iterator") (n:="__next__") (by rw[typeLookup_type,builtinLookup_eq_fast];kernel_rfl) (by decide +kernel) (by decide +kernel) (by decide +kernel)
  (by first|exact .inl (by decide +kernel)|exact .inr (by decide +kernel)) (by rw[isSubtype_type];kernel_rfl)
def FC:entryFor table "longrange_iterator.__next__"=some Builtin.«longrange_iterator.__next__»:=entryFor_of_tree (by kernel_rfl)
def Bb:Manifest.owners.lookup (String.ofList ['r','o','t','a','r','e','t','i','_','e','g','n','a','r','g','n','o','l'].reverse)=some Manifest.sig_longrange_iterator:=by kernel_rfl
def P0(a:Value):argsOk "longrange_iterator.__next__" ⟨[a],[]⟩:=by
 unfold argsOk;rw[signature?_of (id:="longrange_iterator.__next__") (n:=['_','_','t','x','e','n','_','_']) (o:=['r','o','t','a','r','e','t','i','_','e','g','n','a','r','g','n','o','l']) (by kernel_rfl) Bb];kernel_rfl
def Ae:Slot "longrange_iterator" "__iter__" "longrange_iterator.__iter__":=
 .of (owner:="longrange_iterator") (n:="__iter__") (by rw[typeLookup_type,builtinLookup_eq_fast];kernel_rfl) (by decide +kernel) (by decide +kernel) (by decide +kernel)
  (by first|exact .inl (by decide +kernel)|exact .inr (by decide +kernel)) (by rw[isSubtype_type];kernel_rfl)
def PM(a:Value):argsOk "longrange_iterator.__iter__" ⟨[a],[]⟩:=by
 unfold argsOk;rw[signature?_of (id:="longrange_iterator.__iter__") (n:=['_','_','r','e','t','i','_','_']) (o:=['r','o','t','a','r','e','t','i','_','e','g','n','a','r','g','n','o','l']) (by kernel_rfl) Bb];kernel_rfl
def FK:entryFor table "longrange_iterator.__iter__"=some Builtin.«dict_keyiterator.__iter__»:=
 entryFor_alias (id':="dict_keyiterator.__iter__") (by kernel_rfl) (by first|rfl|decide +kernel|(unfold String.splitOn;simp +decide [String.splitOnAux])) (by decide +kernel) (by kernel_rfl)
def ue(h:Heap)(it:Addr):Prop:=h.get? it=some {cls:=.type "longrange_iterator",dict:=none,data:=.fields #[rawInt 0,rawInt 0,rawInt 1],slots:=#[]}
section
variable {prog:Program} {w:World} {A:Around} {E:OK} {s:Shared}
theorem NC(hr:IsRange s.heap r 0 b 1 t u v)(hb:b< -(2^62))(UE:Builtin.Range.small 0 b 1=false)
  (hQ:Q (.ref s.heap.objs.size) {s with heap:=s.heap.push {cls:=.type "longrange_iterator",data:=.fields #[rawInt 0,rawInt 0,rawInt 1]}}):
  wpAny (model prog w) A (pyIter (.ref r)) Q E s:=by
 have hT:s.TypeIs (.ref r) "range":=⟨_,hr,rfl⟩
 refine wpAny_pyIter_slot hT F.slot_range_iter (S0 F.slot_range_iter hT F.entry_range_iter (F.args_range_iter_1 _)
  (AutoRange.range___iter___range_0 r 0 b 1 t u v (by unfold Builtin.Range.small at UE;rw[UE];rfl)) ⟨hr,?_⟩)
 unfold Builtin.Range.small at UE;have hz:Builtin.Range.rangeSize 0 b 1=0:=by rw[SY];split<;>omega
 simp only[UE,Qo,if_false];rw[hz];exact⟨"longrange_iterator",_,⟨_,Qd _ rfl,rfl⟩,Tp.lookup,hQ⟩
theorem N5(hit:ue s.heap it)(h:Q (.ref it) s):wpAny (model prog w) A (pyIter (.ref it)) Q E s:=by
 have hT:s.TypeIs (.ref it) "longrange_iterator":=⟨_,hit,rfl⟩
 refine wpAny_pyIter_slot hT Ae (RY Ae hT FK ?_ (PM _));show wpAny _ _ (ret (.ref it)) _ _ s;exact P6 ⟨_,rfl,"longrange_iterator",_,hT,Tp.lookup,h⟩
theorem ID(hh:A.handled=none)(hit:ue s.heap it)
  (hQ:∀h',Heap.ExtBut it s.heap h'->Q none {s with heap:=h'}):wpAny (model prog w) A (pyNext (.ref it)) Q E s:=by
 have hT:s.TypeIs (.ref it) "longrange_iterator":=⟨_,hit,rfl⟩
 unfold pyNext;refine P2 (wpAny_attempt (wpAny_callSpecial?_slot (name:=Str.ofString "__next__") hT Tp
  (RY Tp hT FC ?_ (P0 _))))
 unfold Builtin.«longrange_iterator.__next__»;wp_walk;simp only[raiseNew];refine P2 (wpAny_handled ?_);first|rw[show A.in1.handled=none from hh]|rw[hh]
 refine P2 (P6 (wpAny_throw ?_));refine P2 (Rw (T:="StopIteration") (b:=true) ⟨_,Qd _ rfl,rfl⟩ isSubtype_stop ?_);exact P6 (hQ _ (((Heap.ExtBut.refl it s.heap).push _).push _))
end
theorem Jx{P:Program}{w:World}{K:Frag}{tg:Expr}(it:Addr):Turn P w K tg (Xj 0 0) [it] it (fun _ h=>ue h it) where
 mem:=by simp
 obj:=fun i h st b hb=>by
  have e:b=it:=by simpa using hb
  subst e;exact⟨_,st,fun v z=>by
   have z':Data.fields _=Data.cell v:=z;cases z'⟩
 keep:=fun i h h' st k=>k it (by simp) _ st
 item:=by
  intro X hP hw hK hc i pins s O H E I hf st hg;exact absurd (show i<0 from hg) (Nat.not_lt_zero _)
 done:=by
  intro X hP hw hK hc i pins s O H E I hf st hg;subst hP hw hK;obtain⟨f0,f1,f2,f3,f4,f5⟩:=hf it (by simp);exact(ID (I.ok.hd hc) st fun h' eb=>⟨rfl,I.turned (t':=s.toks) (fun b o hb e=>eb b o hb e) f0 f1 f3 f4 f5⟩)
 self:=fun _ _ _ _ _ st h=>N5 st h
section
variable {X:Cx} {tg:Expr}
theorem B8{pins:QS}{O:St}{H:Hp}{s:Shared}{R:It->Hp->Prop}{E:OK}{hi:Int}{t u v:Tok}{tk:Nat}(I:Inv X pins O H s)(h3:hi< -(2^62))(hs:Builtin.Range.small 0 hi 1=false)
  (q:R (Xj 0 0) H):wpAny (model X.prog X.w) X.A (pyIter (.ref s.heap.objs.size)) (ϰ X pins O tg R) E {s with heap:=s.heap.push {cls:=.type "range",data:=.fields #[.int 0 t,.int hi u,.int 1 v]},toks:=tk}:=by
 refine NC (IsRange.new ..) h3 hs ?_;have I1:Inv X pins O H {s with heap:=s.heap.push {cls:=.type "range",data:=.fields #[.int 0 t,.int hi u,.int 1 v]},toks:=tk}:=I.kept fun b o e=>P4 _ e;refine⟨(s.heap.push {cls:=.type "range",data:=.fields #[.int 0 t,.int hi u,.int 1 v]}).objs.size,[(s.heap.push {cls:=.type "range",data:=.fields #[.int 0 t,.int hi u,.int 1 v]}).objs.size],_,_,H,rfl,
  I1.kept (t':=tk) fun b o e=>P4 _ e,Jx _,?_,fun b hb=>?_,q⟩
 .exact Qd _ rfl
 .have e:b=(s.heap.push {cls:=.type "range",data:=.fields #[.int 0 t,.int hi u,.int 1 v]}).objs.size:=by simpa using hb
  subst e;exact I1.fpOk (P3 _) (I1.hok.fresh (P3 _))
theorem K0{pins:QS}{O:St}{H:Hp}{s:Shared}{R:It->Hp->Prop}{E:OK}{hi:Int}{t u v:Tok}{tk:Nat}(I:Inv X pins O H s)(h3:hi< -(2^62))(hs:Builtin.Range.small 0 hi 1=true)
  (q:R (Xj 0 0) H):wpAny (model X.prog X.w) X.A (pyIter (.ref s.heap.objs.size)) (ϰ X pins O tg R) E {s with heap:=s.heap.push {cls:=.type "range",data:=.fields #[.int 0 t,.int hi u,.int 1 v]},toks:=tk}:=by
 refine wpAny_pyIter_range (IsRange.new ..) hs ?_;have I1:Inv X pins O H {s with heap:=s.heap.push {cls:=.type "range",data:=.fields #[.int 0 t,.int hi u,.int 1 v]},toks:=tk}:=I.kept fun b o e=>P4 _ e;refine⟨(s.heap.push {cls:=.type "range",data:=.fields #[.int 0 t,.int hi u,.int 1 v]}).objs.size,[(s.heap.push {cls:=.type "range",data:=.fields #[.int 0 t,.int hi u,.int 1 v]}).objs.size],_,_,H,rfl,
  I1.kept (t':=tk) fun b o e=>P4 _ e,BO _ 0 0,?_,fun b hb=>?_,q⟩
 .have e1:(0:Int)+((0:Nat):Int)*1=0:=by simp
  have e2:(((0:Nat):Nat):Int) - ((0:Nat):Int)=Builtin.Range.rangeSize 0 hi 1:=by rw[SY];split<;>omega
  show IsRangeIter _ _ (0+((0:Nat):Int)*1) (((0:Nat):Int) - ((0:Nat):Int)) 1;rw[e1,e2];exact Qd _ rfl
 .have e:b=(s.heap.push {cls:=.type "range",data:=.fields #[.int 0 t,.int hi u,.int 1 v]}).objs.size:=by simpa using hb
  subst e;exact I1.fpOk (P3 _) (I1.hok.fresh (P3 _))
def Ff(ta:TA):TI:=fun O H R=>ta O H fun vs H1=>∃j:Int,vs=[.int j]/\j<2^62/\R (Xj 0 j.toNat) H1
theorem Ei{a:Expr}{ta:TA}{p pos:Pos}(hg:Gl X "range") (hm:X.mg "range"=none) (ha:PA X [a] ta) (hs:starEach [a] X.env=[(false,eval a X.env)]:=by rfl):PI X tg (.Call (.Name "range" p) [a] [] pos) (Ff ta):=by
 intro pins s O H R I h;refine Call_ (jI I hg hm boot_range (Q6 (TM (ha pos pins s O H _ I h) fun us s1 hm=>?_) hs rfl));obtain⟨vs,H1,I1,r1,q1⟩:=hm;obtain⟨j,e,q2,q⟩:=q1;subst e;cases r1 with
 |cons r rr=>
  cases rr;obtain⟨t,rfl⟩:=r;by_cases hj:-(2^62)<=j
  .exact SC (vN I1 (by omega) (by omega) hj q2 (by simpa using q))
  .have e0:j.toNat=0:=by omega
   rw[e0] at q;cases WT:Builtin.Range.small 0 j 1 with
   |false=>exact SC (B8 I1 (by omega) WT q)
   |true=>exact SC (K0 I1 (by omega) WT q)
end
end L2
namespace L3
open PySem PySem.Spec L2
section
variable {X:Cx} {K:Frag} {ea:EV} {pos:Pos}
def mM(ea:EV):IV:=fun B L=>(ea B L).bind fun p=>match p.1 with
 | .int j=>if j<=1000000000 then some ((dk 0 j.toNat,none),p.2) else none
 |_=>none
theorem OB(mr:X.mg "range"=none) {tg a:Expr} {p:Pos} (ha:PE X a (tD K ea)) (hg:Gl X "range":=by rfl) (hs:starEach [a] X.env=[(false,eval a X.env)]:=by rfl):PI X tg (.Call (.Name "range" p) [a] [] pos) (Vf K (mM ea)):=lq (Ei hg mr (eJ ha eZ hs) hs) fun O H R h=>by
 refine Ui h fun W B its c Z5 eH ok en e q=>?_;subst eH;refine cS e fun p1 e1 e=>?_;split at e
 .rename_i j hj;split at e
  .rename_i hb;cases e;refine⟨W,B,p1.1,p1.2,rfl,ok,en,e1,fun v W1 Z2 ok1 s1 r1=>?_⟩;rw[hj] at r1;cases r1;exact⟨j,rfl,by omega,q _ W1 Z2 ok1 s1 q0⟩
  .cases e
 .cases e
theorem MG(h:ea B L=some (.int j,Z4))(hj:j<=1000000000):mM ea B L=some ((dk 0 j.toNat,none),Z4):=by
 unfold mM;rw[h];show(if j<=1000000000 then _ else _)=_;rw[if_pos hj]
end
def Wd.ice(W:Wd)(k:Nat)(d:Addr)(u:HO):Wd:=⟨W.ρ,W.L.set k none,upd W.H d u,W.hid⟩
section
variable {K:Frag} {W:Wd} {k:Nat} {d:Addr} {x:Z7} {u:HO}
theorem Fc(h:RL (W.ice k d u) a):∃j o,j≠k/\W.L[j]?=some (some o)/\W.ρ[j]?=some a:=by
 obtain⟨j,o,h1,h2⟩:=h;have h1:(W.L.set k none)[j]?=some (some o):=h1;by_cases e:j=k
 .subst e;rw[List.getElem?_set] at h1;simp at h1
 .rw[QP (Ne.symm e)] at h1;exact⟨j,o,e,h1,h2⟩
theorem p6(hk:W.L[k]?=some (some x))(ha:W.ρ[k]?=some d):Step W (W.ice k d u) where
 ρ _ _ h:=h
 live a h:=let ⟨j,o,_,h1,h2⟩:=Fc h;.inl ⟨j,o,h1,h2⟩
 keep a o e n:=by
  show upd W.H d u a=_;have hne:a≠d:=fun z=>n ⟨k,x,hk,by rw[z];exact ha⟩;rw[dg hne];exact e
 hid:=rfl
 still a h:=by
  show upd W.H d u a≠none;by_cases z:a=d
  .subst z;rw[eC];simp
  .rw[dg z];exact h
theorem Cp(ok:Ok K W)(hk:W.L[k]?=some (some x))(ha:W.ρ[k]?=some d):Ok K (W.ice k d u) where
 len:=by show W.ρ.length=(W.L.set k none).length;rw[RF];exact ok.len
 nd:=ok.nd
 rs a m:=(p6 (u:=u) hk ha).still a (ok.rs a m)
 at_ j o e:=by
  have e:(W.L.set k none)[j]?=some (some o):=e;have hj:j≠k:=fun z=>by subst z;rw[List.getElem?_set] at e;simp at e
  rw[QP (Ne.symm hj)] at e;obtain⟨a,ho,h1,h2,h3⟩:=ok.at_ j o e;have hne:a≠d:=fun z=>by
   subst z;obtain⟨l1,g1⟩:=P5.mp h1;obtain⟨l2,g2⟩:=P5.mp ha;have hn:=Ra.mp ok.nd;rcases Sl j k with z|z|z
   .exact hn j k l1 l2 z (g1.trans g2.symm)
   .exact hj z
   .exact hn k j l2 l1 z (g2.trans g1.symm)
  refine⟨a,ho,h1,by show upd W.H d u a=_;rw[dg hne];exact h2,?_⟩;have st:=p6 (W:=W) (u:=u) hk ha;cases o with
  |lst ds=>obtain⟨vs,e,q⟩:=h3;exact⟨vs,e,q.step ok st⟩
  |dK kvs=>obtain⟨vs,e,q⟩:=h3;exact⟨vs,e,Paired.mapP q fun _ _ ⟨e,q⟩=>⟨e,q.step ok st⟩⟩
  |dN kvs=>obtain⟨vs,e,q⟩:=h3;exact⟨vs,e,Paired.mapP q fun _ _ ⟨e,q⟩=>⟨e,q.step ok st⟩⟩
  |ins C fs=>obtain⟨vs,e,q⟩:=h3;exact⟨vs,e,Paired.mapP q fun _ _ ⟨e,q⟩=>⟨e,q.step ok st⟩⟩
  |exc C=>exact h3
 hd0 a z:=⟨(p6 (u:=u) hk ha).still a (ok.hd0 a z).1,(ok.hd0 a z).2⟩
end
def n9:Key->D
 | .inl i=>.int i
 | .inr x=>.str x
def Cf{K:Frag}{W:Wd}(k:Key):DR K W (n9 k) (kV k):=by
 cases k with
 |inl i=>exact .int i
 |inr x=>exact .str x
def KR.get{K:Frag}{W:Wd}{kvs:List (Key×D)}{vs:List (Key×V)}(r:KR K W kvs vs):∀{i:Nat} {k:Key} {d:D} {k':Key} {v:V},kvs[i]?=some (k,d)->vs[i]?=some (k',v)->k=k'/\DR K W d v:=by
 induction r with
 |nil=>intro i k d k' v h;simp at h
 | @cons a b l r hd tl ih=>
  intro i k d k' v h h2;cases i with
  |zero=>
   simp at h h2;subst h h2;exact hd
  |succ i=>exact ih (by simpa using h) (by simpa using h2)
def oR(own:List Str)(cap:List (Str×Nat))(eo:EV)(g:GV)(tc:BV)(tk tv:EV):EV:=fun B L=>(eo B L).bind fun s=>(dD s.2 s.1).bind fun kvs=>match s.1 with
 | .ref n=>Uw (kvs.length<=1000000) ((fr s.2.length none g tc tk tv (kvs.map fun kv=>.tup [n9 kv.1,kv.2]) (dM own cap B) (s.2.set n none++[some (.dK [])])).bind fun Z5=>some (.ref s.2.length,Z5))
 |_=>none
section
variable {X:Cx} {K:Frag} {N' own:List Str} {cap:List (Str×Nat)} {scope:Scope} {kx vx o:Expr} {ifs elts:List Expr} {pos apos UH Vh:Pos} {eo:EV} {g:GV} {tc:BV} {tk tv:EV} {n:Nat}
theorem D8(ok1:Ok K W1)(hp:W1.H p=none)(jr:de c W1.L/\∀(W2:Wd) (i:Nat),Ok K W2->de c W2.L->Step W1 W2->(its.length<=i->Z6.stop i W2.H)/\∀d,its[i]?=some d->Z6.go i W2.H/\∀x H',Z6.yld i W2.H x H'->∃W3,W3.H=H'/\W3.L=W2.L/\Ok K W3/\Step W2 W3/\DR K W3 d x)(en:TQ K W1 ZF ZL)
  (c0:de c (W1.L++[some (.dK [])])) (e:fr W1.L.length c g tc tk tv its ZF (W1.L++[some (.dK [])])=some Z5) (hZ:∀W',W'.L=Z5->Ok K W'->Step W1 W'->DR K W' (.ref W1.L.length) (.ref p)->Z W'.H):
  mK Z6 (U4 K g) (Tq K tc) (tD K tk) (tD K tv) p ZL W1.H Z:=by
 obtain⟨c1,hj⟩:=jr;have ok0:=ka (x:=.dK []) (o:=.dK []) ok1 hp ⟨[],rfl,.nil⟩;have s0:=gJ (K:=K) (x:=.dK []) (o:=.dK []) ok1 hp;have r0:=jS (K:=K) (W:=W1) (p:=p) (o:=.dK []) (x:=.dK []) ok1;obtain⟨P,hP⟩:∃P:Nat->St->Hp->Prop,∀i ZV H2,P i ZV H2↔(i<=its.length/\∃W2 ZW,W2.H=H2/\Ok K W2/\Step (W1.new p (.dK []) (.dK [])) W2/\TQ K W2 ZW ZV/\de c W2.L/\fr W1.L.length c g tc tk tv (its.drop i) ZW W2.L=some Z5):=⟨_,fun _ _ _=>Qg⟩
 refine⟨fun i m ZV H2=>m=its.length - i/\P i ZV H2,?_,?_⟩
 .exact⟨its.length,by simp,(hP _ _ _).2 ⟨QZ _,W1.new p (.dK []) (.dK []),ZF,rfl,ok0,.refl,en.step ok1 s0,c0,e⟩⟩
 rintro i m ZV H2 ⟨rfl,hi⟩;refine bq fun hG=>?_;obtain⟨hi,W2,ZW,rfl,ok2,s2,Uh,c2,e2⟩:=(hP _ _ _).1 hi;obtain⟨UJ,Vo⟩:=hj W2 i ok2 c2 (s0.trans s2);by_cases hlt:i<its.length
 .have hd:its[i]?=some its[i]:=P9 hlt;obtain⟨h1,h2⟩:=Vo _ hd;rw[QB hlt] at e2;refine cS e2 fun pg e3 e2=>?_;refine cS e2 fun pt e4 e2=>?_;refine(hG (.inr ⟨h1,P (i+1),fun ZZ H' hN=>⟨its.length - (i+1),by omega,rfl,hN⟩,fun x H' hy=>?_⟩));refine bq fun hF=>?_;obtain⟨W3,rfl,ZR,T5,s3,r3⟩:=h2 x H' hy;refine hF ⟨W3,ZW,its[i],pg.1,pg.2,rfl,T5,Uh.step ok2 s3,r3,by rw[ZR];exact e3,fun W4 ZN ZD Ug s4 Um=>⟨W4,pg.1,pt.1,pt.2,rfl,Ug,Um,by rw[ZD];exact e4,fun W5 ZP UX s5=>?_⟩⟩;have s25:=s3.trans (s4.trans s5);split at e2
  .rename_i ht;refine cS e2 fun py e5 e2=>?_;refine cS e2 fun pv e6 e2=>?_;refine cS e2 fun k e7 e2=>?_;refine cS e2 fun kvs e8 e2=>?_;obtain⟨⟨hl,c5⟩,e2⟩:=n0 e2;refine(ic (fun _=>?_) (fun n=>absurd ht n));refine⟨W5,pg.1,py.1,py.2,rfl,UX,Um.step Ug s5,by rw[ZP];exact e5,fun y W6 Zv Vj s6 r6=>⟨W6,pg.1,pv.1,pv.2,rfl,Vj,(Um.step Ug s5).step UX s6,by rw[Zv];exact e6,fun v W7 Zu XY s7 r7=>?_⟩⟩;have s27:=(s25.trans s6).trans s7;rw[←Zu] at e8;have rp:DR K W7 (.ref W1.L.length) (.ref p):=(r0.step ok0 s2).step ok2 s27;obtain⟨n,a,us,hd,hv,hk,ha,hh,hs⟩:=fX XY e8 rp;cases hd;cases hv;obtain⟨o8,s8⟩:=lT (vs':=dG us k v) (kvs':=eM kvs k pv.1) XY hk ha (hs.put k r7);exact⟨us,k,hh,j2 (by rw[←hs.len];omega),j8 e7 (r6.step Vj s7),(hP _ _ _).2 ⟨hlt,W7.put W1.L.length p (.dK (dG us k v)) (.dK (eM kvs k pv.1)),pg.1,rfl,o8,(s2.trans s27).trans s8,(((Um.step Ug s5).step UX s6).step Vj s7).step XY s8,by show de c (W7.L.set _ _);rw[Zu];exact c5,by show fr _ c g tc tk tv _ _ (W7.L.set _ _)=_;rw[Zu];exact e2⟩⟩
  .rename_i ht;refine gu e2 fun c5 e2=>?_;refine ic (fun n=>absurd n ht) (fun _=>?_);exact(hP _ _ _).2 ⟨hlt,W5,pg.1,rfl,UX,s2.trans s25,Um.step Ug s5,by rw[ZP];exact c5,by rw[ZP];exact e2⟩
 .have e':i=its.length:=by omega
  subst e';rw[QM (P3 _)] at e2;cases e2;exact hG (.inl ⟨UJ (P3 _),hZ W2 rfl ok2 (s0.trans s2) (r0.step ok0 s2)⟩)
theorem Le(S:TK X N' own cap scope)(ho:PE X o (tD K eo))
  (hg:∀cl C Z1 Z0 ex,PG (c3 X N' scope cl C Z1 Z0 ex) (.Tuple elts n Vh) (U4 K g)) (ht:∀cl C Z1 Z0 ex,Up (c3 X N' scope cl C Z1 Z0 ex) ifs (Tq K tc)) (hk:∀cl C Z1 Z0 ex,PE (c3 X N' scope cl C Z1 Z0 ex) kx (tD K tk)) (hv:∀cl C Z1 Z0 ex,PE (c3 X N' scope cl C Z1 Z0 ex) vx (tD K tv))
  (hx:∀e s,X.xe e s->False:=by exact fun _ _ z=>z) (hc:X.calm=true:=by rfl) (hs:∀x,foldedSetIterable (.Call (.Attribute o "items" apos) [] [] UH) X.env x=pure x:=by intro _;rfl)
  (TZ:attributeBase o "items" X.env (eval o X.env)=eval o X.env:=by rfl) (TY:(apos.endLine==UH.line)=true:=by rfl) (hK:X.K=K:=by rfl):
  PE X (.DictComp kx vx [⟨.Tuple elts n Vh,.Call (.Attribute o "items" apos) [] [] UH,ifs,0⟩] scope pos) (tD K (oR own cap eo g tc tk tv)):=du (wD S (KN (G7 K ho TZ TY hK)) hg ht hk hv hx hc hs) fun O H Q h=>by
 refine UC h fun W B d Z5 eH ok en e q=>?_;subst eH;refine cS e fun p1 e1 e=>?_;refine cS e fun kvs e2 e=>?_;refine⟨W,B,p1.1,p1.2,rfl,ok,en,e1,fun x W1 ZK ok1 s1 r1=>?_⟩;rw[←ZK] at e2;obtain⟨k,a,vs,hd,rfl,Yo,XI,hh,XG⟩:=fX ok1 e2 r1;rw[hd] at e;refine gu e fun hl e=>?_;refine cS e fun Z3 e3 e=>?_;cases e;refine(⟨m8 ok1 e2 r1,a,vs,rfl,rfl,hh,fun v hv=>?_⟩);have hav:a≠v:=fun z=>by rw[z,hv] at hh;cases hh
 refine⟨v,a,vs,rfl,eC,by rw[dg hav];exact hh,fun ob p hp=>?_⟩;have okL:=fE (o:=WR v a) ok1 hv;have stL:=eL (W:=W1) (o:=WR v a) hv;have hkL:(W1.lay v (WR v a)).L[k]?=some (some (.dK kvs)):=Yo;have haL:(W1.lay v (WR v a)).ρ[k]?=some a:=XI;have okI:=Cp (u:=.frz ob (.dK vs)) okL hkL haL;have stI:=p6 (W:=W1.lay v (WR v a)) (u:=.frz ob (.dK vs)) hkL haL;have ϓ:KR K ((W1.lay v (WR v a)).ice k a (.frz ob (.dK vs))) kvs vs:=Paired.mapP XG fun _ _ ⟨e,q⟩=>⟨e,(q.step ok1 stL).step okL stI⟩
 have _q:((W1.lay v (WR v a)).ice k a (.frz ob (.dK vs))).H a=some (.frz ob (.dK vs)):=eC;generalize hWI:(W1.lay v (WR v a)).ice k a (.frz ob (.dK vs))=WI at okI stI ϓ _q;have Za:WI.L=p1.2.set k none:=by rw[←hWI];show W1.L.set k none=_;rw[ZK]
 have hHI:WI.H=upd (upd W1.H v (WR v a)) a (.frz ob (.dK vs)):=by rw[←hWI];rfl
 have hlen:p1.2.length=WI.L.length:=by rw[Za,RF]
 have UK:=(s1.trans stL).trans stI;rw[←hHI] at hp⊢;refine D8 (c:=none) (its:=kvs.map fun kv=>.tup [n9 kv.1,kv.2]) (ZF:=dM own cap B) okI hp ⟨trivial,fun W2 i ok2 _ s2=>?_⟩ ((en.step ok UK).cap own cap) trivial (Z5:=Z5) (by rw[←hlen,Za];exact e3) fun W' h1 h2 h3 h4=>?_
 .have Ϣ:W2.H a=some (.frz ob (.dK vs)):=s2.keep _ _ _q (okI.nofrz _q);have kr2:KR K W2 kvs vs:=Paired.mapP ϓ fun _ _ ⟨e,q⟩=>⟨e,q.step okI s2⟩
  refine⟨fun hi=>⟨Ϣ,by rw[Qb,ϓ.len] at hi;exact hi⟩,fun dd Yq=>?_⟩;rw[Qm] at Yq;cases ϝ:kvs[i]? with
  |none=>rw[ϝ] at Yq;cases Yq
  |some kv=>
   rw[ϝ] at Yq;simp at Yq;subst Yq;have hi:i<vs.length:=by rw[←ϓ.len];exact(P5.mp ϝ).1
   refine⟨⟨Ϣ,hi⟩,fun x H' hy=>?_⟩;obtain⟨pp,kk,vv,rfl,_W,rfl,hvs⟩:=hy;obtain⟨ek,rv⟩:=kr2.get (k:=kv.1) (d:=kv.2) ϝ hvs;refine(⟨W2.lay pp (.tup [kV kk,vv]),rfl,rfl,fE ok2 _W,eL _W,?_⟩);rw[ek];exact j0 ok2 _W (.cons (Cf kk) (.cons rv .nil))
 .refine q _ W' h1 h2 (UK.trans h3) ?_;rw[hlen];exact h4
end
end L3
namespace L2
open PySem PySem.Spec PyProof.Rows
section
open PySem.SeqAt
open PySem.AutoSeq1 (wpAny_loadPart')
open PySem.MeetsSeq PySem.MeetsSeq2 PySem.MeetsSeq3 PySem.SeqRoads2
theorem Jo(l:Addr)(items:Array Value)(n:Nat)(dd:Option Addr)(sl:Array (Option Value))(x:Value)(e:Nat->Bool)(k:Nat):
  ∀i:Nat,items.size - i=k->Meets (Builtin.«list.__contains__.loop» ⟨[.ref l,x,rawInt i],[]⟩)
   (fun A R s=>s.heap.get? l=some {cls:=.type "list",dict:=dd,data:=.seq items n,slots:=sl}/\(∀j (h:j<items.size),EqAt A.in1 s items[j] x (e j))/\R (.ok (.ret (.bool (((List.range items.size).drop i).any e)))) s):=by
 induction k with
 |zero=>
  intro i hk prog w A R s h;obtain⟨hp,g,d,tk,os⟩:=s;obtain⟨hl,he,h⟩:=h;wp_walk using RE hl;have hi:items[((i:Nat):Int).toNat]?=none:=by simp;omega
  have hd:(List.range items.size).drop i=[]:=by simp;omega
  rw[hd] at h;rw[hi];wp_walk;exact h
 |succ k ih=>
  intro i hk prog w A R s h;obtain⟨hp,g,d,tk,os⟩:=s;obtain⟨hl,he,h⟩:=h;wp_walk using RE hl;have hlt:i<items.size:=by omega
  have hi:items[((i:Nat):Int).toNat]?=some items[i]:=by simp[hlt]
  have hd:(List.range items.size).drop i=i::(List.range items.size).drop (i+1):=by simp[QB,hlt]
  rw[hd,Re] at h;rw[hi];refine P2 (he i hlt prog w _ _ ?_);cases hb:e i with
  |true=>
   rw[hb] at h;wp_walk;exact h
  |false=>
   rw[hb] at h;have hc:((i:Int)+1)=((i+1:Nat):Int):=by push_cast;rfl
   wp_walk;rw[hc];exact⟨Ro plain_contains_loop _,Rh entry_contains_loop (by
    rw[Q0 plain_contains_loop _];exact ih (i+1) (by omega) prog w A R _ ⟨hl,he,by simpa using h⟩)⟩
theorem E6(l:Addr)(items:Array Value)(n:Nat)(dd:Option Addr)(sl:Array (Option Value))(x:Value)(e:Nat->Bool):
  Meets (Builtin.«list.__contains__» ⟨[.ref l,x],[]⟩)
   (fun A R s=>s.heap.get? l=some {cls:=.type "list",dict:=dd,data:=.seq items n,slots:=sl}/\(∀j (h:j<items.size),EqAt A.in1 s items[j] x (e j))/\R (.ok (.ret (.bool ((List.range items.size).any e)))) s):=by
 intro prog w A R s h;obtain⟨hp,g,d,tk,os⟩:=s;obtain⟨hl,he,h⟩:=h;wp_walk using RE hl;exact⟨Ro plain_contains_loop _,Rh entry_contains_loop (by
  rw[Q0 plain_contains_loop _];exact Jo l items n dd sl x e _ 0 rfl prog w A R _ ⟨hl,he,by simpa using h⟩)⟩
theorem Ct{prog:Program}{w:World}{A:Around}{E:OK}{s:Shared}{l:Addr}{items:Array Value}{x:Value}{Q:OK}(e:Nat->Bool)(hl:s.heap.IsList l items)(he:∀j (h:j<items.size),EqAt A.in1 s items[j] x (e j))
  (h:Q (.bool ((List.range items.size).any e)) s):wpAny (model prog w) A (compareOp .In x (.ref l)) Q E s:=by
 obtain⟨⟨cls,dd,data,sl⟩,ho,hc,n,hd⟩:=id hl;simp only at hc hd;subst hc hd;exact in_meets ⟨_,ho,rfl⟩ F.slot_list_contains F.entry_list_contains (F.args_list_contains_2 _ _) (E6 l items n dd sl x e) ⟨ho,he,_,rfl,h⟩
end
theorem Ac:∀{ds:List PyData} {i:Nat} {d:PyData},PyData.canLayAll0 ds=true->ds[i]?=some d->d.canLay0=true
 | [],i,d,_,h=>by simp at h
 |a::r,0,d,hl,h=>by simp[PyData.canLayAll0] at hl;simp at h;subst h;exact hl.1
 |a::r,i+1,d,hl,h=>by simp[PyData.canLayAll0] at hl;simp at h;exact Ac hl.2 h
def Mc{X:Cx}(hu:X.A.units+64<cLine):UU X (compareOp .In) (fun x y H Q=>∃p xs ds d,y=.ref p/\T9 X.K H p xs/\Vb X.K H xs ds/\Dp X.K H x d/\(PyData.canLayAll0 ds&&d.canLay0&&decide (d.depth<=60))=true/\Q (.bl (ds.any fun e=>PyData.eqv e d)) H):=by
 intro pins s O H x y v u Q I rx ry h;obtain⟨p,xs,ds,d,rfl,hq,hs,hd,hc,q⟩:=h;simp only[Qs,QQ] at hc;cases ry;obtain⟨its,rv,pl,hz⟩:=I.list hq;obtain⟨as,r1⟩:=hd.reads I rx;have hl:=rv.length;have hl2:=hs.len;refine(Ct (fun j=>PyData.eqv (ds.getD j .none) d) pl.isList (fun j hj=>?_) ?_)
 .have ϟ:j<its.length:=by simpa using hj
  have hx:xs[j]?=some (xs[j]'(by omega)):=P9 (by omega);obtain⟨e,he,_t⟩:=hs.get hx;obtain⟨w,hw,WE⟩:=rv.get hx;obtain⟨bs,r2⟩:=_t.reads I WE;have e1:its.toArray[j]=w:=by
   have:its[j]?=some (its[j]'ϟ):=P9 ϟ;rw[this] at hw;cases hw;simp
  have e2:ds.getD j .none=e:=by simp[P7,he]
  rw[e1,e2];refine SeqAt.eqAt_reads e d _ s _ _ _ _ r2 r1 (Ac hc.1.1 he) hc.1.2 ?_;have:X.A.in1.units<=X.A.units+1:=by simp[Around.in1]
  have:=Nat.min_le_right e.depth d.depth;omega
 .have e:(List.range its.toArray.size).any (fun j=>PyData.eqv (ds.getD j .none) d)=ds.any fun e=>PyData.eqv e d:=by
   have hsz:its.toArray.size=ds.length:=by simp;omega
   rw[hsz,Q9];simp only[Rb,QI];constructor
   .rintro⟨j,hj,e⟩;exact⟨ds[j],QX _,by simpa[P7,P9 hj] using e⟩
   .rintro⟨e,hm,he⟩;obtain⟨j,hj⟩:=Q8 hm;exact(⟨j,(P5.mp hj).1,by simpa[P7,hj] using he⟩)
  rw[e];exact⟨.bl _,H,I,rfl,q⟩
section
variable {X:Cx} {N' own:List Str} {cap:List (Str×Nat)} {scope:Scope} {tg iter elt:Expr} {ifs:List Expr} {pos:Pos} {wi:TI} {g:TG} {tc:TT} {te:TE}
theorem Ni(S:TK X N' own cap scope)(hi:PI X tg iter wi)
  (hg:∀cl C Z1 Z0 ex,PG (c3 X.nox N' scope cl C Z1 Z0 ex) tg g) (ht:∀cl C Z1 Z0 ex,Up (c3 X.nox N' scope cl C Z1 Z0 ex) ifs tc) (he:∀cl C Z1 Z0 ex,PE (c3 X.nox N' scope cl C Z1 Z0 ex) elt te)
  (hc:X.calm=true:=by rfl) (hs:∀x,foldedSetIterable iter X.env x=pure x:=by intro _;rfl):
  PE X (.ListComp elt [⟨tg,iter,ifs,0⟩] scope pos) (Al own cap wi g tc te):=by
 intro pins s O H Q I h;rw[Tb];obtain⟨cl,VQ,c1,c2⟩:=nN (scope:=scope) (env:=X.env) fun y hy hk=>I.ok.has y.1 (S.free y hy hk);refine(Rn (use:=none) rfl hs VQ S.kind S.names (TM (hi pins s O H _ I h) fun v s1 h1=>TM h1 fun Xa s2 h2=>?_));obtain⟨it,fp,tn,Z6,H2,e,I2,T,Ur,f2,q⟩:=h2;subst e;have S':TK X.nox N' own cap scope:=⟨S.kind,S.own1,S.free1,S.names,S.free,S.eq,S.cap⟩
 refine(zQ (X:=X.nox) (RR:=fun acc C=>compPost (model X.prog X.w) X.A X.xe none (EP X pins O Q) acc C) (Z:=fun D=>Q (.ref D)) (fun _ _ z=>z) hc S' hg ht he (I2.wish _) T Ur f2 c1 c2 q ?_);intro D C s' m' H' I' Vm f' z;exact⟨m',Vm,fun Η V0=>⟨.ref D,H',I'.unwish.letgo f' V0,rfl,z⟩⟩
end
end L2
namespace L3
open PySem PySem.Spec L2
section
variable {X:Cx} {K:Frag} {a b:Expr} {ea eb:EV} {pos p:Pos} {k:Nat}
def iO(neg:Bool)(x y:D)(L:M):Fr:=if neg=true then none else(dC L y).bind fun ds=>(dQ (py 65 L) ds).bind fun es=>(py 65 L x).bind fun d=>if(PyData.canLayAll0 es&&d.canLay0&&decide (d.depth<=60))=true then some (.bl (es.any fun e=>PyData.eqv e d),L) else none
theorem K7:Ux K (fun x y H Q=>∃p xs ds d,y=.ref p/\T9 K H p xs/\Vb K H xs ds/\Dp K H x d/\(PyData.canLayAll0 ds&&d.canLay0&&decide (d.depth<=60))=true/\Q (.bl (ds.any fun e=>PyData.eqv e d)) H) (iO false):=by
 intro W x y d e z Z5 Q ok r1 r2 hf q;unfold iO at hf;rw[if_neg (by simp)] at hf;refine cS hf fun ds h1 hf=>?_;refine cS hf fun es h2 hf=>?_;obtain⟨d',h3,hf⟩:=UP hf;split at hf
 .rename_i hc;cases hf;obtain⟨a,vs,rfl,hs,hv⟩:=iy ok h1 r2;exact(⟨a,vs,es,d',rfl,hs,kr (iH ok 65) hv h2,iH ok _ _ _ _ r1 h3,hc,q _ W rfl ok .refl (.bl _)⟩)
 .cases hf
theorem Ke(hr:TU k X.A)(ha:PE X a (tD K ea))(hb:PE X b (tD K eb))(hm:behindInMarks .In b=false:=by rfl)(hK:X.K=K:=by rfl):PE X (.Compare a [.In] [b] pos) (tD K (v2 (iO false) ea eb)):=by
 subst hK;exact nB (Mc hr.units) K7 ha hb hm
end
section
variable {X:Cx} {E:St->XK} {K:Frag} {N' own:List Str} {cap:List (Str×Nat)} {scope:Scope} {tg iter elt:Expr} {ifs:List Expr} {pos:Pos} {ex:EX} {g:GV} {tc:BV} {te:EV}
def kl(own:List Str)(cap:List (Str×Nat))(ex:EX)(g:GV)(tc:BV)(te:EV):EX:=fun B L=>(ex B L).bind fun p=>match p.1 with
 | .ok d=>(VP p.2 d).bind fun s=>if s.1.length<=1000000 then(dW s.2 g tc te s.1 (dM own cap B) p.2).bind fun q=>some (.ok (.lst q.1),q.2) else none
 | .ex C=>some (.ex C,p.2)
theorem zZ(S:TK X N' own cap scope)(hi:PE X iter (tX K E ex))
  (hg:∀cl C Z1 Z0 ex,PG (c3 X.nox N' scope cl C Z1 Z0 ex) tg (U4 K g)) (ht:∀cl C Z1 Z0 ex,Up (c3 X.nox N' scope cl C Z1 Z0 ex) ifs (Tq K tc)) (he:∀cl C Z1 Z0 ex,PE (c3 X.nox N' scope cl C Z1 Z0 ex) elt (tD K te))
  (hc:X.calm=true:=by rfl) (hs:∀x,foldedSetIterable iter X.env x=pure x:=by intro _;rfl) (hK:X.K=K:=by rfl):
  PE X (.ListComp elt [⟨tg,iter,ifs,0⟩] scope pos) (tX K E (kl own cap ex g tc te)):=by
 subst hK;refine du (Ni S (zl hi) hg ht he hc hs) fun O H Q h=>?_;refine UC h fun W B r Z5 eH ok en e q=>?_;subst eH;obtain⟨⟨r1,Z4⟩,e1,e⟩:=UP e;refine(⟨W,B,r1,Z4,rfl,ok,en,e1,fun W1 ZK ok1 s1=>?_⟩);cases r1 with
 |ex C=>
  cases e;exact q W1 ZK ok1 s1
 |ok d=>
  intro v rv;obtain⟨⟨its,c⟩,e2,e⟩:=UP e;split at e
  .rename_i hl;obtain⟨⟨rs,Z3⟩,e3,e⟩:=UP e;cases e;obtain⟨c0,a,rfl,hh⟩:=u6 ok1 (by rw[ZK];exact e2) rv;obtain⟨Υ,h0,_⟩:=hh W1 ok1 c0 rv;refine(⟨a,rfl,⟨_,h0⟩,fun p hp=>?_⟩);have jr:JR X.K W1 (ϱ X.K a) its c:=⟨c0,[d],[.ref a],.cons rv .nil,fun W2 i ok2 c2 r2=>by
    cases r2 with
    |cons r2 _=>
     obtain⟨vs,hs,hv⟩:=hh W2 ok2 c2 r2;refine⟨fun hi=>⟨vs,hs,by rw[←hv.length];exact hi⟩,fun d hd=>?_⟩;obtain⟨v,Ut,Vz⟩:=hv.get hd;refine(⟨⟨vs,v,hs,Ut⟩,fun x H' y=>?_⟩);obtain⟨rfl,y⟩:=y;have:=y vs hs;rw[Ut] at this;cases this;exact⟨W2,rfl,rfl,ok2,.refl,Vz⟩⟩
   refine BL ok1 hp jr ((en.step ok s1).cap own cap) hl (by rw[ZK];exact e3) fun W' ys Zl Vx s' YL hy r=>?_;obtain⟨a1,a2,a3⟩:=vS s1 hp ok1 Vx s' YL hy r;exact(q (W'.show W1.hid) Zl a1 a2 _ a3)
  .cases e
end
section
variable {K:Frag} {k:Nat}
theorem CQ(n:Nat):TN K W (dk 0 n) ((List.range n).map fun k:Nat=>V.int (k:Int)):=by
 have h:=ux (K:=K) (W:=W) ((List.range n).map fun k:Nat=>(k:Int));rw[QN,QN] at h;have e:dk 0 n=(List.range n).map (D.int∘fun k:Nat=>(k:Int)):=by
  unfold dk;exact QK fun k _=>by simp
 rw[e];exact h
end
end L3
namespace L2
open PySem PySem.Spec PyProof.Rows
end L2
namespace L3
open PySem PySem.Spec L2
end L3
namespace L3
open PySem L2
abbrev Nn(K:Frag)(x:Str):Prop:=nsIn K mainGlobals x=some none
abbrev Ng(K:Frag)(x:Str)(v:Value):Prop:=nsIn K mainGlobals x=some (some v)
structure Rm (P:Program) (w:World) (K:Frag) (mg:Str->Option Value) (base h:Heap):Prop where
 X:K.In h
 G:h.Ns mainGlobals mg
structure Gf (K:Frag) (x:Str) (st:Stmt) (f:Addr) (fd:FuncData):Prop where
 a:Ng K x (.ref f)
 F:T2 K x x st f fd
structure Mf (K:Frag) (C:Addr) (x q:Str) (st:Stmt) (f:Addr) (fd:FuncData):Prop where
 a:findIn K (.ref C) x=some (some (.ref f))
 i:isFn K (.ref f)=true
 F:T2 K x q st f fd
section
variable {P:Program} {w:World} {K:Frag} {mg:Str->Option Value} {base h:Heap} {x q:Str} {st:Stmt} {f C:Addr} {fd:FuncData} {k:Nat} {ps:List Str} {sp:Sp} {CX:V7}
theorem gf_mk{oc:Value}{od an:Option Addr}{osl:Array (Option Value)}{kV doc pm cdv ct:Value}(a:nsIn K mainGlobals x=some (some (.ref f)))(l:K.lookup f=some ⟨oc,od,.func (fnOf x x (iz st) (gh st) (c9 st) .none kV doc pm an cdv ct),osl⟩)
  (c:codeIn K cdv x=true) (k:keepIn K (.ref f)=true):Gf K x st f (fnOf x x (iz st) (gh st) (c9 st) .none kV doc pm an cdv ct):=⟨a,AB l c k⟩
theorem mf_mk{oc:Value}{od an:Option Addr}{osl:Array (Option Value)}{kV doc pm cdv ct:Value}(a:findIn K (.ref C) x=some (some (.ref f)))(i:isFn K (.ref f)=true)(l:K.lookup f=some ⟨oc,od,.func (fnOf x q (iz st) (gh st) (c9 st) .none kV doc pm an cdv ct),osl⟩)
  (c:codeIn K cdv q=true) (k:keepIn K (.ref f)=true):Mf K C x q st f (fnOf x q (iz st) (gh st) (c9 st) .none kV doc pm an cdv ct):=⟨a,i,AB l c k⟩
abbrev ϳ(x q:Str)(st:Stmt)(ps:List Str):Prop:=∀(kV doc pm:Value) (an:Option Addr) (cdv ct:Value) (us:List Value),us.length=ps.length->bindArgs (fnOf x q (iz st) (gh st) (c9 st) .none kV doc pm an cdv ct) ⟨us,[]⟩=pure (ps.zip us)
theorem nq(a:nsIn K mainGlobals x=some v):nsIn K mainGlobals x=some v:=a
theorem Rm.n(R:Rm P w K mg base h)(z:Nn K x):mg x=none:=PySem.W.mg_none_of R.X R.G z
theorem Rm.g(R:Rm P w K mg base h)(z:Ng K x v):mg x=some v:=PySem.W.mg_of R.X R.G z
theorem VC(R:Rm P w K mg base h)(A:Gf K x st f fd)(ok:TJ P w K mg base T1 k f fd ps sp)(hb:ϳ x x st ps:=by intro _ _ _ _ _ _ us hl;rcases us with _|⟨_,_|⟨_,_|⟨_,_|⟨_,_|⟨_,_|⟨_,_⟩⟩⟩⟩⟩⟩<;>first|rfl|cases hl):Df P w K mg base k x ps sp:=⟨_,_,ok,A.F.binds hb,A.F.kp,R.g A.a⟩
theorem Xf(R:Rm P w K mg base h)(A:Gf K x st f fd)(ok:TJ P w K mg base (U5 P w) k f fd ps sp)(hb:ϳ x x st ps:=by intro _ _ _ _ _ _ us hl;rcases us with _|⟨_,_|⟨_,_|⟨_,_|⟨_,_|⟨_,_|⟨_,_⟩⟩⟩⟩⟩⟩<;>first|rfl|cases hl):WW P w K mg base k x ps sp:=⟨_,_,ok,A.F.binds hb,A.F.kp,R.g A.a⟩
theorem ϧ(cl:WO K C)(A:Mf K C x q st f fd)(ok:TJ P w K mg base CX k f fd ps sp)(hb:ϳ x q st ps:=by intro _ _ _ _ _ _ us hl;rcases us with _|⟨_,_|⟨_,_|⟨_,_|⟨_,_|⟨_,_|⟨_,_⟩⟩⟩⟩⟩⟩<;>first|rfl|cases hl):Ya P w K mg base CX k C x ps sp:=⟨cl,⟨_,_,⟨A.a,A.i,A.F.kp⟩,ok,A.F.binds hb⟩⟩
structure Oc (K:Frag) (C:Addr):Prop where
 cl:WO K C
 ms:PySem.W.makesIn K C=true
 kc:keepIn K (.ref C)=true
theorem oc_mk(pg:PySem.W.plainGet K C Str.empty=true)(hd:PySem.W.hasDictIn K C=true)(po:PySem.W.plainOver K C=true)(sa:findIn K (.ref C) "__setattr__"=some (some (.builtin "object.__setattr__"))) (mk:PySem.W.makesIn K C=true) (kc:keepIn K (.ref C)=true):Oc K C:=⟨⟨pg,hd,po,sa⟩,mk,kc⟩
theorem fiK{y:Str}(R:Rm P w K mg base h)(z:Ng K y (.ref C))(Z7:Oc K C)(A:Mf K C "__init__" q st f fd) (ok:TJ P w K mg base CX k f fd ps sp) (hb:ϳ "__init__" q st ps:=by intro _ _ _ _ _ _ us hl;rcases us with _|⟨_,_|⟨_,_|⟨_,_|⟨_,_|⟨_,_|⟨_,_⟩⟩⟩⟩⟩⟩<;>first|rfl|cases hl):MkC P w K mg base CX k C y ps sp:=⟨R.g z,⟨_,_,⟨Z7.ms,A.a,A.i,Z7.kc⟩,ok,A.F.binds hb⟩⟩
theorem fgI{i:Int}{t:Tok}(R:Rm P w K mg base h)(z:Ng K x (.int i t)):mg x=some (.int i t)/\RelV (.int i) (.int i t)/\∀W,DR K W (.int i) (.int i):=⟨R.g z,⟨_,rfl⟩,fun _=>.int _⟩
theorem fgT{s:Str}{t:Tok}{p:Addr}{o:Obj}{n:Nat}(R:Rm P w K mg base h)(z:Ng K x (.ref p))(y:K.lookup p=some o)(c:o.cls=.type "tuple") (d:o.data=.seq #[.str s t] n):mg x=some (.ref p)/\RelV (.ref p) (.ref p)/\∀W,DR K W (.gt [.str s]) (.ref p):=
 ⟨R.g z,rfl,fun _=>.gt (vs:=[.str s]) (.inr ⟨o,_,n,y,c,d,(show 1<=sizeLine from il (by decide)),.cons ⟨t,rfl⟩ .nil⟩) (.cons (.str _) .nil)⟩
theorem ri_mk{bm N nm q bs hdct sn sub ab col dd k0 k1 k2 k3 k5:_}(el:K.lookup C=some (excClassObj nm q C N bs bm hdct sn sub ab col dd k0 k1 k2 k3 k5 "ValueError.__new__")) (et:PySem.W.tailIn K tP bm=true) (en:PySem.W.nsOkIn K N=true) (ez:nsIn K N "__init__"=some none):fM K C:=⟨_,_,_,_,_,_,_,_,_,_,_,_,_,_,_,_,el,et,en,ez⟩
theorem J1(F:T2 K x q st f fd)(hb:∀(kV doc pm:Value) (an:Option Addr) (cdv ct:Value) (s:Shared) (v:Value),BindsTo s (fnOf x q (iz st) (gh st) (c9 st) .none kV doc pm an cdv ct) ⟨[v],[]⟩ [("script",v)]):∀(s:Shared) (v:Value),BindsTo s fd ⟨[v],[]⟩ [("script",v)]:=by
 obtain⟨oc,od,kV,doc,pm,an,cdv,ct,osl,rfl,_,_⟩:=F.ex;exact fun s v=>hb kV doc pm an cdv ct s v
theorem feR(R:Rm P w K mg base h)(z:Ng K x (.ref C))(r:fM K C):mg x=some (.ref C)/\fM K C:=⟨R.g z,r⟩
end
end L3
namespace L3
open PySem PySem.Spec L2
def eK(kvs:List (NK×D))(k:NK):Option D:=(kvs.find? fun kv=>decide (kv.1=k)).map (·.2)
def gk(kvs:List (NK×D))(k:NK)(v:D):List (NK×D):=
 if(kvs.any fun kv=>decide (kv.1=k))=true then kvs.map (fun kv=>if kv.1=k then(kv.1,v) else kv) else kvs++[(k,v)]
def ju:D->Option NK
 | .tup [.tup ds,.int n]=>(dQ WH ds).bind fun ns=>some (ns,n)
 |_=>none
def iS(L:M):D->Option (List (NK×D))
 | .ref k=>match L[k]? with
  |some (some (.dN kvs))=>some kvs
  |_=>none
 |_=>none
section
variable {K:Frag} {W:Wd}
theorem AC:∀{ds:List D} {vs:List V} {ns:List Int},dQ WH ds=some ns->TN K W ds vs->vs=ns.map V.int
 | [],_,ns,h,r=>by cases h;cases r;rfl
 |d::ds,_,ns,h,r=>by
  cases r with
  |cons r1 r2=>
   simp only[dQ] at h;refine cS h fun i e1 h=>?_;refine cS h fun is e2 h=>?_;cases h;have:=AC e2 r2;subst this;cases d<;>simp only[WH] at e1<;>cases e1
   cases r1;rfl
theorem wo{d:D}{k:NK}{v:V}(h:ju d=some k)(r:DR K W d v):∃b,v=.ref b/\VA W.H b k:=by
 unfold ju at h;split at h
 .rename_i ds n;refine cS h fun ns e h=>?_;cases h;cases r with
  | @tup a vs _ hh rs=>
   cases rs with
   |cons r1 rs=>
    cases rs with
    |cons r2 rs=>
     cases rs;cases r2;cases r1 with
     | @tup b us _ hb ru=>
      have:=AC e ru;subst this;exact⟨a,rfl,b,hh,hb⟩
 .cases h
theorem vZ(ok:Ok K W)(h:iS W.L d=some kvs)(r:DR K W d v):
  ∃k a vs,d=.ref k/\v=.ref a/\W.L[k]?=some (some (.dN kvs))/\W.ρ[k]?=some a/\W.H a=some (.dT vs)/\NR K W kvs vs:=by
 cases d with
 |ref k=>
  simp only[iS] at h;split at h
  .rename_i kvs' hk;cases h;cases r with
   |ref ha=>
    obtain⟨a',ho,h1,h2,vs,rfl,r⟩:=ok.at_ k _ hk;rw[ha] at h1;cases h1;exact⟨k,_,vs,rfl,rfl,hk,ha,h2,r⟩
  .cases h
 |_=>simp[iS] at h
theorem NR.len(r:NR K W kvs vs):kvs.length=vs.length:=R4 r
theorem NR.any(r:NR K W kvs vs)(k:NK):(kvs.any fun kv=>decide (kv.1=k))=vs.any fun kv=>decide (kv.1=k):=by
 unfold NR at r;induction r with
 |nil=>rfl
 |cons h t ih=>rw[Re,Re,ih,h.1]
theorem NR.val(r:NR K W kvs vs)(k:NK):(eK kvs k).isSome=(fh vs k).isSome:=by
 unfold NR at r;induction r with
 |nil=>rfl
 | @cons p q ps qs h t ih=>
  by_cases e:p.1=k
  .rw[ku (by rw[←h.1];exact e)];simp[eK,Ql,e]
  .rw[kC (by rw[←h.1];exact e)];simp only[eK,Ql,e,R3] at ih⊢;exact ih
theorem NR.at{kvs:List (NK×D)}{vs:List (NK×V)}(r:NR K W kvs vs){k:NK}{d:D}(h:eK kvs k=some d):∃v,fh vs k=some v/\DR K W d v:=by
 unfold NR at r;induction r with
 |nil=>cases h
 | @cons p q ps qs hd t ih=>
  by_cases e:p.1=k
  .have:eK (p::ps) k=some p.2:=by simp[eK,Ql,e]
   rw[this] at h;cases h;exact⟨q.2,ku (by rw[←hd.1];exact e),hd.2⟩
  .have:eK (p::ps) k=eK ps k:=by simp[eK,Ql,e]
   rw[this] at h;obtain⟨v,h1,h2⟩:=ih h;exact⟨v,by rw[kC (by rw[←hd.1];exact e)];exact h1,h2⟩
theorem NR.put(r:NR K W kvs vs)(k:NK)(rv:DR K W d v):NR K W (gk kvs k d) (dG vs k v):=by
 unfold gk dG;rw[r.any k];by_cases e:(vs.any fun kv=>decide (kv.1=k))=true
 .rw[if_pos e,if_pos e];unfold NR at r⊢;clear e;induction r with
  |nil=>exact .nil
  | @cons p q ps qs h t ih=>
   refine .cons ?_ ih;show(if p.1=k then(p.1,d) else p).1=(if q.1=k then(q.1,v) else q).1/\DR K W (if p.1=k then(p.1,d) else p).2 (if q.1=k then(q.1,v) else q).2;by_cases e:p.1=k
   .rw[if_pos e,if_pos (by rw[←h.1];exact e)];exact⟨h.1,rv⟩
   .rw[if_neg e,if_neg (by rw[←h.1];exact e)];exact h
 .rw[if_neg e,if_neg e];exact S7 r ⟨rfl,rv⟩
theorem Mh{k:Nat}{a:Addr}{kvs kvs':List (NK×D)}{vs':List (NK×V)}(ok:Ok K W)(hk:W.L[k]?=some (some (.dN kvs)))(ha:W.ρ[k]?=some a)(hs:NR K W kvs' vs'):
  Ok K (W.put k a (.dT vs') (.dN kvs'))/\Step W (W.put k a (.dT vs') (.dN kvs')):=⟨pX ok hk ha ⟨vs',rfl,hs⟩,jv hk ha⟩
theorem AN{H:Hp}{a b:Addr}{kvs:List (NK×V)}{k:NK}(e:H a=some (.dT kvs))(eb:VA H b k):U3 H a (.ref b) (fh kvs k):=.inr ⟨kvs,k,b,.inl e,rfl,eb,rfl⟩
theorem GZ{H:Hp}{a b:Addr}{kvs:List (NK×V)}{k:NK}{v:V}(e:H a=some (.dT kvs))(eb:VA H b k)(hl:kvs.length<sizeLine):WN H a (.ref b) v (upd H a (.dT (dG kvs k v))):=.inr ⟨kvs,k,b,e,rfl,eb,hl,rfl⟩
end
section
variable {X:Cx} {K:Frag} {a b e o i value:Expr} {ea eb eo ei:EV} {pos p pos':Pos} {k:Nat}
def uV:EV:=fun _ L=>some (.ref L.length,L++[some (.dN [])])
theorem FM:PE X (.Dict [] [] pos) (tD K uV):=du LD fun O H Q h=>by
 refine UC h fun W B d Z5 eH ok en e q=>?_;subst eH;cases e;intro pa hp;exact q _ (W.new pa (.dT []) (.dN [])) rfl (ka ok hp ⟨[],rfl,.nil⟩) (gJ ok hp) (jS ok)
def qH(x y:D)(L:M):Fr:=(iS L x).bind fun kvs=>(ju y).bind fun k=>(eK kvs k).bind fun d=>some (d,L)
theorem Fk(hr:TU k X.A)(ha:PE X a (tD K ea))(hb:PE X b (tD K eb))(hs:qG b:=by exact fun _ _=>rfl):PE X (.Subscript a b pos) (tD K (v2 qH ea eb)):=
 du (wt (by have:=hr.un;omega) ha hb hs) fun O H Q h=>by
  refine UC h fun W B d Z5 eH ok en e q=>?_;subst eH;refine cS e fun p1 e1 e=>?_;refine cS e fun p2 e2 e=>?_;refine cS e fun kvs e3 e=>?_;refine cS e fun ky e4 e=>?_;refine cS e fun d2 e5 e=>?_;cases e;refine⟨W,B,p1.1,p1.2,rfl,ok,en,e1,fun x W1 Z2 ok1 s1 r1=>⟨W1,B,p2.1,p2.2,rfl,ok1,en.step ok s1,by rw[Z2];exact e2,fun y W2 ZU ok2 s2 r2=>?_⟩⟩;rw[←ZU] at e3;obtain⟨n,a,vs,hd,rfl,hk,ha,hh,hs⟩:=vZ ok2 e3 (r1.step ok1 s2);obtain⟨b,rfl,hb⟩:=wo e4 r2;obtain⟨v,h1,h2⟩:=hs.at e5;exact⟨a,v,rfl,by rw[←h1];exact AN hh hb,q _ W2 ZU ok2 (s1.trans s2) h2⟩
def mF(neg:Bool)(y x:D)(L:M):Fr:=(ju y).bind fun k=>(iS L x).bind fun kvs=>some (.bl (xor neg (eK kvs k).isSome),L)
theorem CL(neg:Bool):∀O H Q,tD K (v2 (mF neg) ea eb) O H Q->(fun O H Q=>tD K ea O H fun y H1=>tD K eb O H1 fun x H2=>∃a ov,x=.ref a/\U3 H2 a y ov/\Q (.bl (xor neg ov.isSome)) H2:TE) O H Q:=fun O H Q h=>by
 refine UC h fun W B d Z5 eH ok en e q=>?_;subst eH;refine cS e fun p1 e1 e=>?_;refine cS e fun p2 e2 e=>?_;refine cS e fun k e3 e=>?_;refine cS e fun kvs e4 e=>?_;cases e;refine⟨W,B,p1.1,p1.2,rfl,ok,en,e1,fun x W1 Z2 ok1 s1 r1=>⟨W1,B,p2.1,p2.2,rfl,ok1,en.step ok s1,by rw[Z2];exact e2,fun y W2 ZU ok2 s2 r2=>?_⟩⟩;rw[←ZU] at e4;obtain⟨n,a,vs,_,rfl,_,_,hh,hs⟩:=vZ ok2 e4 r2;obtain⟨b,rfl,hb⟩:=wo e3 (r1.step ok1 s2);refine⟨a,_,rfl,AN hh hb,?_⟩;rw[←hs.val k];exact q _ W2 ZU ok2 (s1.trans s2) (.bl _)
theorem Cs(hr:TU k X.A)(ha:PE X a (tD K ea))(hb:PE X b (tD K eb))(hm:behindInMarks .NotIn b=false:=by rfl):PT X (.Compare a [.NotIn] [b] pos) (Tq K (vT (v2 (mF true) ea eb))):=
 iq (Ad (wF (by have:=hr.un;omega) ha hb) hm) (og fun O H Q h=>by
  have:=CL true O H Q h;simp only[Tc] at this;exact this)
def qQ(eo ei ev:EV):SV:=fun B L=>(ev B L).bind fun v=>(eo B v.2).bind fun p=>(ei B p.2).bind fun q=>(ju q.1).bind fun k=>(iS q.2 p.1).bind fun kvs=>match p.1 with
 | .ref n=>if kvs.length<16000000 then some (.nx,B,q.2.set n (some (.dN (gk kvs k v.1)))) else none
 |_=>none
theorem JF(hr:TU k X.A)(ho:PE X o (tD K eo))(hi:PE X i (tD K ei))(hv:PE X value (tD K ev))(hs:swapsWith value (some (.Subscript o i pos')) pos.line X.env=pure false:=by rfl):
  PS X (.Assign [.Subscript o i pos'] value pos) (Ue K (qQ eo ei ev)):=fb (wu (by have:=hr.un;omega) ho hi hv hs) fun D O H h=>by
 refine Ui h fun W B o ZX Z5 eH ok en e q=>?_;subst eH;refine cS e fun v0 e0 e=>?_;refine cS e fun p1 e1 e=>?_;refine cS e fun p2 e2 e=>?_;refine cS e fun ky e3 e=>?_;refine cS e fun kvs e4 e=>?_;refine⟨W,B,v0.1,v0.2,rfl,ok,en,e0,fun z W0 Zg ok0 s0 r0=>⟨W0,B,p1.1,p1.2,rfl,ok0,en.step ok s0,by rw[Zg];exact e1,fun x W1 Z2 ok1 s1 r1=>⟨W1,B,p2.1,p2.2,rfl,ok1,(en.step ok s0).step ok0 s1,by rw[Z2];exact e2,fun y W2 ZU ok2 s2 r2=>?_⟩⟩⟩;rw[←ZU] at e4;obtain⟨n,a,vs,hd,rfl,hk,ha,hh,hs⟩:=vZ ok2 e4 (r1.step ok1 s2);rw[hd] at e;simp only at e;split at e
 .rename_i hl;cases e;obtain⟨b,rfl,hb⟩:=wo e3 r2;obtain⟨o3,s3⟩:=Mh (vs':=dG vs ky z) (kvs':=gk kvs ky v0.1) ok2 hk ha (hs.put ky ((r0.step ok0 s1).step ok1 s2));refine⟨a,_,rfl,GZ hh hb (by rw[←hs.len,Rp];omega),?_⟩;exact q (W2.put n a (.dT (dG vs ky z)) (.dN (gk kvs ky v0.1))) O (by show W2.L.set _ _=_;rw[ZU]) o3 (((s0.trans s1).trans s2).trans s3) ((((en.step ok s0).step ok0 s1).step ok1 s2).step ok2 s3)
 .cases e
end
end L3
namespace L2
open PySem PySem.Spec PyProof.Rows
section
variable {prog:Program} {w:World} {A:Around} {E:OK} {s:Shared}
theorem KF{Q:List Value->Shared->Prop}{r:Addr}{a b c:Int}{t u v:Tok}{n:Nat}(hh:A.handled=none)(hr:IsRange s.heap r a b c t u v)(UE:Builtin.Range.small a b c=true)(hn:Builtin.Range.rangeSize a b c=n)(hlen:n<=2^24)
  (hQ:∀(h':Heap) (tk:Nat) (acc:Array Value),(∀b o,s.heap.get? b=some o->h'.get? b=some o)->ItemsOf (fun i v=>∃t,v=.int (a+i*c) t) acc n->Q acc.toList {s with heap:=h',toks:=tk}):
  wpAny (model prog w) A (collect (.ref r)) Q E s:=by
 unfold collect;refine P2 (wpAny_runValue (Rh F.entry_proto_collect ?_));rw[Q0 F.plain_proto_collect _];show wpAny _ A.in1 (newList [] >>= fun l=>again (.builtin "list.__iadd__" ⟨[l,.ref r],[]⟩)) _ _ s;refine P2 (QW ?_);refine P6 ⟨Ro F.plain_list_iadd _,Rh F.entry_list_iadd ?_⟩;rw[Q0 F.plain_list_iadd _];show wpAny _ A.in1 (Builtin.List.listExtendWith (.ref s.heap.objs.size) (.ref r) (.ref s.heap.objs.size)) _ _ _;have hS:(s.heap.push {cls:=.type "list",data:=.seq ([]:List Value).toArray}).get? s.heap.objs.size=some {cls:=.type "list",data:=.seq #[] 0}:=Qd _ rfl;have hr1:=P4 {cls:=.type "list",data:=.seq ([]:List Value).toArray} hr;have fin:∀(h':Heap) (tk:Nat) (acc:Array Value) (c':Nat),(∀b o,b≠s.heap.objs.size->(s.heap.push {cls:=.type "list",data:=.seq ([]:List Value).toArray}).get? b=some o->h'.get? b=some o)->h'.get? s.heap.objs.size=some {cls:=.type "list",dict:=none,data:=.seq acc c',slots:=#[]}->
   ItemsOf (fun i v=>∃t,v=.int (a+i*c) t) acc n->wpAny (model prog w) A (match Value.ref s.heap.objs.size with
   |Value.ref a=>do
    match(←load a).data with
     |Data.seq xs _=>pure xs.toList
     |_=>unsupported "internal:collect"
   |_=>unsupported "internal:collect") Q E {s with heap:=h',toks:=tk}:=by
  intro h' tk acc c' hk hS' Uv;show wpAny _ A (load s.heap.objs.size >>= _) _ _ _;refine P2 (wpAny_load hS' ?_);exact P6 (hQ h' tk acc (fun b o hb=>hk b o (Qk (Qa hb)) (P4 _ hb)) Uv)
 refine P8 (wpAny_extend_range (A:=A) (s:={s with heap:=s.heap.push {cls:=.type "list",data:=.seq ([]:List Value).toArray}}) (R:=fun r' s'=>r'=.ok (.ret (.ref s.heap.objs.size))/\∃h' tk acc c',s'={s with heap:=h',toks:=tk}/\(∀b o,b≠s.heap.objs.size->(s.heap.push {cls:=.type "list",data:=.seq ([]:List Value).toArray}).get? b=some o->h'.get? b=some o)/\h'.get? s.heap.objs.size=some {cls:=.type "list",dict:=none,data:=.seq acc c',slots:=#[]}/\ItemsOf (fun i v=>∃t,v=.int (a+i*c) t) acc n)
  hh hr1 UE hn hlen s.heap.objs.size (.ref s.heap.objs.size) 0 hS (fun h' tk acc c' h1 h2 h3=>⟨rfl,h',tk,acc,c',rfl,h1,h2,h3⟩)) (fun fi s' h=>?_) (fun e s' h=>?_)
 .cases fi with
  |done f=>
   obtain⟨e,h',tk,acc,c',rfl,h1,h2,h3⟩:=h;cases e;exact fin h' tk acc c' h1 h2 h3
  |again c2=>exact⟨h.1,R0 h.2 fun r Y5 hr=>by obtain⟨rfl,h',tk,acc,c',rfl,h1,h2,h3⟩:=hr;exact fin h' tk acc c' h1 h2 h3⟩
 .exact absurd h.1 (by simp)
theorem IM{Q₁:OK}{r:Addr}{a b c:Int}{t u v:Tok}{n:Nat}(hh:A.handled=none)(hr:IsRange s.heap r a b c t u v)(UE:Builtin.Range.small a b c=true)(hn:Builtin.Range.rangeSize a b c=n)(hlen:n<=2^24)
  (h:∀(h':Heap) (tk:Nat) (acc:Array Value),(∀b o,s.heap.get? b=some o->h'.get? b=some o)->ItemsOf (fun i v=>∃t,v=.int (a+i*c) t) acc n->Q₁ (.ref h'.objs.size) {s with heap:=h'.push {cls:=.type "tuple",data:=.seq acc},toks:=tk}) (hsz:n<=sizeLine):
  codeAny (model prog w) A (.call (.builtin "tuple.__new__") ⟨[.type "tuple",.ref r],[]⟩) (wants Q₁ E) s:=by
 refine codeAny_of_tree ?_;show wpAny _ A.in1 (do checkBuiltinCall "tuple.__new__" ⟨[.type "tuple",.ref r],[]⟩;again (.builtin "tuple.__new__" ⟨[.type "tuple",.ref r],[]⟩)) _ _ s;refine P2 (Ta (F.newCall_tuple_1 _) (P6 ⟨Ro F.plain_tuple_new _,Rh F.entry_tuple_new ?_⟩));rw[Q0 F.plain_tuple_new _];have hsub:=sub_tuple_self;have hinit:=init_tuple_lookup;have hmh:=madeHere_tuple;have hTI:s.TypeIs (.ref r) "range":=⟨_,hr,rfl⟩
 have hh1:A.in1.handled=none:=hh;wp_walk using wpAny_typeOf hTI,KF hh1 hr UE hn hlen;intro h' tk acc hk Uv;show wpAny _ _ (Builtin.Tuple.tupleExact acc.toList.toArray >>= fun v=>ret v) _ _ _;unfold Builtin.Tuple.tupleExact;refine P2 (QW ?_ (by show acc.toList.toArray.size<=sizeLine;simp only[Array.toArray_toList];rw[Uv.1];exact hsz));refine P6 ?_;have e:acc.toList.toArray=acc:=by simp
 rw[e];exact h h' tk acc hk Uv
theorem NI{Q:OK}{r:Addr}{a b c:Int}{t u v:Tok}{n:Nat}(hh:A.handled=none)(hr:IsRange s.heap r a b c t u v)(UE:Builtin.Range.small a b c=true)(hn:Builtin.Range.rangeSize a b c=n)(hlen:n<=2^24)
  (h:∀(h':Heap) (tk:Nat) (acc:Array Value),(∀b o,s.heap.get? b=some o->h'.get? b=some o)->ItemsOf (fun i v=>∃t,v=.int (a+i*c) t) acc n->Q (.ref h'.objs.size) {s with heap:=h'.push {cls:=.type "tuple",data:=.seq acc},toks:=tk}) (hsz:n<=sizeLine):
  wpAny (model prog w) A (call (.type "tuple") [.ref r]) Q E s:=by
 refine callType_codes (Q₁:=fun obj ZT=>ZT.TypeIs obj "tuple"/\Q obj ZT) F.called_tuple (F.typeCall_tuple_1 _) F.entry_object_init
  (IM hh hr UE hn hlen (fun h' tk acc hk Uv=>⟨⟨_,Qd _ rfl,rfl⟩,h h' tk acc hk Uv⟩) hsz) fun obj ZT ZO=>?_
 exact⟨ZO.1,F.args_object_init_2 obj _,object_init_meets F.called_tuple.init.lookup F.called_tuple.made (by decide) prog w A.in1 _ ZT ⟨ZO.1,rfl,ZO.2⟩⟩
end
section
variable {X:Cx} {a:Expr} {ta:TE} {p pos:Pos}
theorem Jn(Uv:ItemsOf (fun i v=>∃t,v=.int (0+i*1) t) acc n):Vals ((List.range n).map fun k:Nat=>V.int (k:Int)) acc.toList:=by
 have hl:acc.toList.length=n:=by rw[Rg];exact Uv.1
 have key:∀(m:Nat) (l:List Value) (k0:Nat),l.length=m->(∀j v,l[j]?=some v->∃t,v=Value.int ((k0+j:Nat):Int) t)->Vals ((List.range' k0 m).map fun k:Nat=>V.int (k:Int)) l:=by
  intro m;induction m with
  |zero=>intro l k0 e _;have:=QA.mp e;subst this;exact .nil
  |succ m ih=>
   intro l k0 e hj;cases l with
   |nil=>simp at e
   |cons x l=>
    rw[List.range'_succ,Qc];obtain⟨t,ex⟩:=hj 0 x rfl;refine .cons ⟨t,?_⟩ (ih l (k0+1) (by simpa using e) fun j v ev=>?_)
    .rw[ex];simp
    .obtain⟨t',e'⟩:=hj (j+1) v (by simpa using ev);exact⟨t',by rw[e'];congr 2;omega⟩
 rw[List.range_eq_range'];refine key n acc.toList 0 hl fun j v ev=>?_;obtain⟨t',e'⟩:=Uv.2 j v (by simpa using ev);exact⟨t',by rw[e'];simp⟩
theorem JU(hc:X.calm=true):gb X (.type "tuple") (fun xs H Q=>∃(r:Addr) (n:Nat),xs=[.ref r]/\H r=some (.rng 0 (n:Int))/\n<=1000000/\∀l,H l=none->Q (.ref l) (upd H l (.tup ((List.range n).map fun k:Nat=>V.int (k:Int))))):=by
 intro pins s O H xs us Q I r h;obtain⟨r',n,rfl,e,hn,q⟩:=h;obtain⟨u,rfl,ru⟩:=gK r;cases ru;obtain⟨t,u,v,ho⟩:=(show ∃t u v,s.heap.get? r'=some {cls:=.type "range",data:=.fields #[.int 0 t,.int (n:Int) u,.int 1 v]} from I.hok r' _ e)
 refine NI (a:=0) (b:=n) (c:=1) (n:=n) (I.ok.hd hc) ho (small_one (by omega) (by omega) (by omega) (by omega)) (by rw[SY];split<;>omega) (by omega) (fun h' tk acc hk Uv=>?_) (il hn);have I1:Inv X pins O H {s with heap:=h',toks:=tk}:=I.kept (t':=tk) hk;have hv:=Jn Uv;have I2:Inv X pins O (upd H h'.objs.size (.tup ((List.range n).map fun k:Nat=>V.int (k:Int)))) {s with heap:=h'.push {cls:=.type "tuple",data:=.seq acc.toList.toArray},toks:=tk}:=
  I1.laid (t':=tk) (fun b o e=>P4 _ e) (P3 _) (show Tf X.prog X.w _ _ _ (.tup _) from⟨by rw[Qb,Rt];exact il hn,acc.toList,hv,IsTup.new _ _⟩)
 have e2:acc.toList.toArray=acc:=by simp
 rw[e2] at I2;exact⟨.ref h'.objs.size,_,I2,rfl,q _ (I1.hok.fresh (P3 _))⟩
theorem Nq(ml:X.mg "tuple"=none) (ha:PE X a ta) (hg:Gl X "tuple":=by rfl) (hs:starEach [a] X.env=[(false,eval a X.env)]:=by rfl) (hc:X.calm=true:=by rfl):
  PE X (.Call (.Name "tuple" p) [a] [] pos) (fun O H Q=>ta O H fun x H1=>∃(r:Addr) (n:Nat),[x]=[.ref r]/\H1 r=some (.rng 0 (n:Int))/\n<=1000000/\∀l,H1 l=none->Q (.ref l) (upd H1 l (.tup ((List.range n).map fun k:Nat=>V.int (k:Int))))):=
 oI (p:=p) (pos:=pos) (JU hc) hg ml rfl (eJ ha eZ hs) (he:=hs)
theorem Hr(K:Frag)(ml:X.mg "tuple"=none) (ha:PE X a ta) (hg:Gl X "tuple":=by rfl) (hs:starEach [a] X.env=[(false,eval a X.env)]:=by rfl) (hK:X.K=K:=by rfl):
  PE X (.Call (.Name "tuple" p) [a] [] pos) (fun O H Q=>ta O H fun x H1=>∃p ys,[x]=[V.ref p]/\((T9 K H1 p ys/\∀l,H1 l=none->Q (.ref l) (upd H1 l (.tup ys)))\/(Uo K H1 p ys/\Q (.ref p) H1))):=by
 subst hK;exact oI Du hg ml rfl (eJ ha eZ hs) (he:=hs)
end
end L2
namespace L3
open PySem PySem.Spec L2
section
variable {X:Cx} {K:Frag} {a:Expr} {ea:EV} {pos p p2 YB:Pos} {k:Nat}
def nG(x:D)(L:M):Fr:=match x with
 | .int j=>if 0<=j/\j<=1000000 then some (.tup (dk 0 j.toNat),L) else none
 |_=>none
theorem G9(ml:X.mg "tuple"=none) (mr:X.mg "range"=none) (ha:PE X a (tD K ea)) (hc:X.calm=true:=by rfl) (hg:Gl X "range":=by rfl) (WJ:Gl X "tuple":=by rfl) (hs:starEach [a] X.env=[(false,eval a X.env)]:=by rfl)
  (Tj:starEach [.Call (.Name "range" p2) [a] [] YB] X.env=[(false,eval (.Call (.Name "range" p2) [a] [] YB) X.env)]:=by rfl):
  PE X (.Call (.Name "tuple" p) [.Call (.Name "range" p2) [a] [] YB] [] pos) (tD K (v1 nG ea)):=du (Nq ml (LP mr ha hg hs) WJ Tj hc) (jt (r:=fun x H1 Q=>∃j:Int,x=.int j/\∀r,H1 r=none->∃(r':Addr) (n:Nat),[V.ref r]=[.ref r']/\(upd H1 r (.rng 0 j)) r'=some (.rng 0 (n:Int))/\n<=1000000/\∀l,(upd H1 r (.rng 0 j)) l=none->Q (.ref l) (upd (upd H1 r (.rng 0 j)) l (.tup ((List.range n).map fun k:Nat=>V.int (k:Int))))) (by
 intro W x d z Z5 Q ok r1 hf q;unfold nG at hf;split at hf
 .rename_i j;split at hf
  .rename_i hj;cases hf;cases r1;refine⟨j,rfl,fun r hr=>⟨r,j.toNat,rfl,by rw[eC];congr 2;omega,by omega,fun l hl=>?_⟩⟩;have ok1:=fE (o:=.rng 0 j) ok hr;have hl1:(W.lay r (.rng 0 j)).H l=none:=hl;exact q _ ((W.lay r (.rng 0 j)).lay l (.tup ((List.range j.toNat).map fun k:Nat=>V.int (k:Int)))) rfl (fE ok1 hl1) ((eL hr).trans (eL hl1)) (j0 ok1 hl1 (CQ _))
  .cases hf
 .cases hf))
def oQ(x:D)(L:M):Fr:=(dC L x).bind fun ds=>some (.tup ds,L)
theorem xj(ml:X.mg "tuple"=none) (ha:PE X a (tD K ea)) (hg:Gl X "tuple":=by rfl) (hs:starEach [a] X.env=[(false,eval a X.env)]:=by rfl) (hK:X.K=K:=by rfl):PE X (.Call (.Name "tuple" p) [a] [] pos) (tD K (v1 oQ ea)):=du (Hr K ml ha hg hs hK) (jt (by
 intro W x d z Z5 Q ok r1 hf q;refine cS hf fun ds hd hf=>?_;cases hf;obtain⟨a,vs,rfl,hs,hv⟩:=iy ok hd r1;exact⟨a,vs,rfl,.inl ⟨hs,fun p hp=>q _ (W.lay p (.tup vs)) rfl (fE ok hp) (eL hp) (j0 ok hp hv)⟩⟩))
end
end L3
namespace Law
open PySem L2 L3
inductive Tr where
 |e (x:Option Int)|ask (i j:Nat) (a b:Tr)
def at2(ss:List (List Int))(x i:Nat):Int:=(ss.getD x []).getD i 0
def U9(ss:List (List Int))(i j:Nat)(left:List Nat):List Nat:=left.filter fun x=>decide (at2 ss x i=at2 ss x j)
def U6(ss:List (List Int))(i j:Nat)(left:List Nat):List Nat:=left.filter fun x=>!decide (at2 ss x i=at2 ss x j)
def cL(Z9:List (List (Option Int))):Option (Option Int):=(Z9.getD 0 []).find? fun t=>Z9.all fun l=>decide (t∈l)
def cE(es:List (List (Option Int)))(left:List Nat):Option (Option Int):=cL (left.map fun x=>es.getD x [])
def gY(ss:List (List Int))(f:List Nat->Option Tr)(left:List Nat)(p:Nat×Nat):Option Tr:=
 if U9 ss p.1 p.2 left=[]\/U6 ss p.1 p.2 left=[] then none else match f (U9 ss p.1 p.2 left) with
  |none=>none
  |some a=>match f (U6 ss p.1 p.2 left) with
   |none=>none
   |some b=>some (.ask p.1 p.2 a b)
def df(ps:List (Nat×Nat))(ss:List (List Int))(es:List (List (Option Int))):Nat->List Nat->Option Tr
 |0,left=>(cE es left).map Tr.e
 |a+1,left=>match cE es left with
  |some x=>some (.e x)
  |none=>ps.findSome? (gY ss (df ps ss es a) left)
def dep:Tr->Nat
 | .e _=>0
 | .ask _ _ a b=>1+max (dep a) (dep b)
def wf(ps:List (Nat×Nat)):Tr->Prop
 | .e _=>True
 | .ask i j a b=>(i,j)∈ps/\wf ps a/\wf ps b
def eF(s:List Int):Tr->Option Int
 | .e x=>x
 | .ask i j a b=>if s.getD i 0=s.getD j 0 then eF s a else eF s b
section
variable {ps:List (Nat×Nat)} {ss:List (List Int)} {es:List (List (Option Int))}
theorem oU{left:List Nat}{x:Option Int}(h:cE es left=some x):∀y∈left,x∈es.getD y []:=by
 intro y hy;unfold cE cL at h;have:=R8 h;rw[QE] at this;have:=this (es.getD y []) (Qi.mpr ⟨y,hy,rfl⟩);simpa using this
theorem wO{left:List Nat}(h:cE es left=none)(h0:left≠[])(x:Option Int):∃y∈left,x∉es.getD y []:=by
 refine QT fun hn=>?_;have all:∀y∈left,x∈es.getD y []:=fun y hy=>QT fun z=>hn ⟨y,hy,z⟩;obtain⟨y,r,rfl⟩:=RA h0;unfold cE cL at h;have hx:x∈((y::r).map fun x=>es.getD x []).getD 0 []:=all y (by simp);have:=Rj.mp h x hx;apply this;rw[QE];intro l hl;obtain⟨z,hz,rfl⟩:=Qi.mp hl;simpa using all z hz
theorem sA{J β:Type}{f:J->Option β}:∀{l:List J},l.findSome? f=none->∀a∈l,f a=none
 | [],_,a,h=>by cases h
 |x::l,h,a,ha=>by
  rw[SA] at h;cases hx:f x with
  |some b=>rw[hx] at h;cases h
  |none=>
   rw[hx] at h;rcases Qz.mp ha with rfl|ha
   .exact hx
   .exact sA h a ha
theorem vY{J β:Type}{f:J->Option β}{b:β}:∀{l:List J},l.findSome? f=some b->∃a∈l,f a=some b
 | [],h=>by cases h
 |x::l,h=>by
  rw[SA] at h;cases hx:f x with
  |some c=>rw[hx] at h;cases h;exact⟨x,by simp,hx⟩
  |none=>
   rw[hx] at h;obtain⟨a,ha,e⟩:=vY h;exact⟨a,by simp[ha],e⟩
theorem Bl{f:List Nat->Option Tr}{left:List Nat}{p:Nat×Nat}{t:Tr}(h:gY ss f left p=some t):U9 ss p.1 p.2 left≠[]/\U6 ss p.1 p.2 left≠[]/\∃a b,f (U9 ss p.1 p.2 left)=some a/\f (U6 ss p.1 p.2 left)=some b/\t=.ask p.1 p.2 a b:=by
 unfold gY at h;split at h
 .cases h
 .rename_i hn;split at h
  .cases h
  .rename_i a ha;split at h
   .cases h
   .rename_i b hb;cases h;exact⟨fun z=>hn (.inl z),fun z=>hn (.inr z),a,b,ha,hb,rfl⟩
theorem v3{f:List Nat->Option Tr}{left:List Nat}{p:Nat×Nat}:gY ss f left p=none↔U9 ss p.1 p.2 left=[]\/U6 ss p.1 p.2 left=[]\/f (U9 ss p.1 p.2 left)=none\/f (U6 ss p.1 p.2 left)=none:=by
 unfold gY;by_cases h1:U9 ss p.1 p.2 left=[]
 .simp[h1]
 .by_cases h2:U6 ss p.1 p.2 left=[]
  .simp[h2]
  .rw[if_neg (fun z=>z.elim h1 h2)];cases h3:f (U9 ss p.1 p.2 left) with
   |none=>simp
   |some a=>
    cases h4:f (U6 ss p.1 p.2 left) with
    |none=>simp
    |some b=>simp[h1,h2]
theorem Np:∀(a:Nat) (left:List Nat) (t:Tr),df ps ss es a left=some t->wf ps t/\dep t<=a/\∀x∈left,eF (ss.getD x []) t∈es.getD x []:=by
 intro a;induction a with
 |zero=>
  intro left t h;simp only[df,Option.map_eq_some_iff] at h;obtain⟨x,hx,rfl⟩:=h;exact⟨trivial,P3 _,oU hx⟩
 |succ a ih=>
  intro left t h;simp only[df] at h;split at h
  .rename_i x hx;cases h;exact⟨trivial,QZ _,oU hx⟩
  .obtain⟨p,hp,e⟩:=vY h;obtain⟨_,_,t1,t2,h1,h2,rfl⟩:=Bl e;obtain⟨w1,d1,l1⟩:=ih _ _ h1;obtain⟨w2,d2,l2⟩:=ih _ _ h2;refine⟨⟨hp,w1,w2⟩,by simp only[dep];omega,fun x hx=>?_⟩;show(if(ss.getD x []).getD p.1 0=(ss.getD x []).getD p.2 0 then _ else _)∈_;by_cases hq:(ss.getD x []).getD p.1 0=(ss.getD x []).getD p.2 0
   .rw[if_pos hq];exact l1 x (Qq.mpr ⟨hx,by simpa[at2] using hq⟩)
   .rw[if_neg hq];exact l2 x (Qq.mpr ⟨hx,by simpa[at2] using hq⟩)
theorem y3:∀(a:Nat) (left:List Nat),df ps ss es (a+1) left=none->df ps ss es a left=none:=by
 intro a;induction a with
 |zero=>
  intro left h;simp only[df] at h⊢;split at h
  .cases h
  .rename_i hx;rw[hx];rfl
 |succ a ih=>
  intro left h;rw[df] at h⊢;split at h
  .cases h
  .rename_i hx;rw[List.findSome?_eq_none_iff];intro p hp;have:=sA h p hp;rw[v3] at this⊢;rcases this with z|z|z|z
   .exact .inl z
   .exact .inr (.inl z)
   .exact .inr (.inr (.inl (ih _ z)))
   .exact .inr (.inr (.inr (ih _ z)))
theorem xq:∀(a:Nat) (left:List Nat),left≠[]->df ps ss es a left=none->∀t,wf ps t->dep t<=a->∃x∈left,eF (ss.getD x []) t∉es.getD x []:=by
 intro a;induction a with
 |zero=>
  intro left h0 h t w d;simp only[df,Sk] at h;cases t with
  |e x=>exact wO h h0 x
  |ask i j t1 t2=>simp only[dep] at d;omega
 |succ a ih=>
  intro left h0 h t w d;have hm:=y3 a left h;have h':=h;rw[df] at h;split at h
  .cases h
  .rename_i hx;cases t with
   |e x=>exact wO hx h0 x
   |ask i j t1 t2=>
    simp only[dep] at d;obtain⟨hp,w1,w2⟩:=w;have hq:=sA h (i,j) hp;rw[v3] at hq;have la:∀x∈U9 ss i j left,x∈left/\eF (ss.getD x []) (.ask i j t1 t2)=eF (ss.getD x []) t1:=fun x hx=>by
     obtain⟨q1,q2⟩:=Qq.mp hx;refine⟨q1,?_⟩;have:(ss.getD x []).getD i 0=(ss.getD x []).getD j 0:=by simpa[at2] using q2
     simp only[eF];rw[if_pos this]
    have lu:∀x∈U6 ss i j left,x∈left/\eF (ss.getD x []) (.ask i j t1 t2)=eF (ss.getD x []) t2:=fun x hx=>by
     obtain⟨q1,q2⟩:=Qq.mp hx;refine⟨q1,?_⟩;have:¬(ss.getD x []).getD i 0=(ss.getD x []).getD j 0:=by simpa[at2] using q2
     simp only[eF];rw[if_neg this]
    have Xr:∀l,l≠[]->(∀x∈l,x∈left/\eF (ss.getD x []) (.ask i j t1 t2)=eF (ss.getD x []) t1)->df ps ss es a l=none->∃x∈left,eF (ss.getD x []) (.ask i j t1 t2)∉es.getD x []:=fun l hl _c hn=>by
     obtain⟨x,hx,q⟩:=ih l hl hn t1 w1 (by omega);obtain⟨z1,z2⟩:=_c x hx;exact⟨x,z1,by rw[z2];exact q⟩
    have Xq:∀l,l≠[]->(∀x∈l,x∈left/\eF (ss.getD x []) (.ask i j t1 t2)=eF (ss.getD x []) t2)->df ps ss es a l=none->∃x∈left,eF (ss.getD x []) (.ask i j t1 t2)∉es.getD x []:=fun l hl _c hn=>by
     obtain⟨x,hx,q⟩:=ih l hl hn t2 w2 (by omega);obtain⟨z1,z2⟩:=_c x hx;exact⟨x,z1,by rw[z2];exact q⟩
    by_cases ha:U9 ss i j left=[]
    .refine Xq left h0 (fun x hx=>⟨hx,(lu x (Qq.mpr ⟨hx,?_⟩)).2⟩) hm;have:=Rf.mp ha x hx;simpa using this
    .by_cases hu:U6 ss i j left=[]
     .refine Xr left h0 (fun x hx=>⟨hx,(la x (Qq.mpr ⟨hx,?_⟩)).2⟩) hm;have:=Rf.mp hu x hx;simpa using this
     .rcases hq with z|z|z|z
      .exact absurd z ha
      .exact absurd z hu
      .exact Xr _ ha la z
      .exact Xq _ hu lu z
def iM(pm:List (Nat×Nat))(em:List Nat):Nat->Nat->Bool
 |0,m=>em.all fun e=>m &&& e !=m
 |a+1,m=>(em.all fun e=>m &&& e !=m)&&pm.all fun p=>m &&& p.1==0||(m &&& p.2==0||(iM pm em a (m &&& p.2)||iM pm em a (m &&& p.1)))
def Ms(left:List Nat)(m:Nat):Prop:=∀x,x∈left↔m.testBit x=true
theorem Ms.zero{left:List Nat}{m:Nat}(h:Ms left m):left=[]↔m=0:=by
 constructor
 .intro e;subst e;refine Nat.eq_of_testBit_eq fun i=>?_;have:=h i;simp at this;simp[this]
 .intro e;subst e;refine List.eq_nil_iff_forall_not_mem.mpr fun x hx=>?_;have:=(h x).mp hx;simp at this
structure Mk (ps:List (Nat×Nat)) (ss:List (List Int)) (es:List (List (Option Int))) (pm:List (Nat×Nat)) (em:List Nat) (ends:List (Option Int)):Prop where
 pl:pm.length=ps.length
 p1:∀(k:Nat) (p q:Nat×Nat),ps[k]?=some p->pm[k]?=some q->∀x,x<ss.length->(q.1.testBit x=decide (at2 ss x p.1=at2 ss x p.2))/\(q.2.testBit x=!decide (at2 ss x p.1=at2 ss x p.2))
 el:em.length=ends.length
 e1:∀(k:Nat) (e:Option Int) (q:Nat),ends[k]?=some e->em[k]?=some q->∀x,x<ss.length->q.testBit x=decide (e∈es.getD x [])
 en:∀x,x<ss.length->∀e∈es.getD x [],e∈ends
theorem none_of(K:Mk ps ss es pm em ends):∀(a:Nat) (left:List Nat) (m:Nat),Ms left m->(∀x∈left,x<ss.length)->left≠[]->iM pm em a m=true->df ps ss es a left=none:=by
 have Xs:∀(left:List Nat) (m:Nat),Ms left m->(∀x∈left,x<ss.length)->left≠[]->(em.all fun e=>m &&& e !=m)=true->cE es left=none:=by
  intro left m hm hl h0 he;cases hc:cE es left with
  |none=>rfl
  |some y=>
   have hs:=oU hc;obtain⟨x0,r,rfl⟩:=RA h0;have hy:=K.en x0 (hl x0 (by simp)) y (hs x0 (by simp));obtain⟨k,hk⟩:=Q8 hy;have _h:k<em.length:=by rw[K.el];exact(P5.mp hk).1
   have hq:=P9 _h;have:=QE.mp he em[k] (QX _);have e2:m &&& em[k]=m:=by
    refine Nat.eq_of_testBit_eq fun i=>?_;rw[S5];cases hb:m.testBit i with
    |false=>rfl
    |true=>
     have hi:=(hm i).mpr hb;rw[K.e1 k y em[k] hk hq i (hl i hi)];simpa using hs i hi
   rw[e2] at this;simp at this
 intro a;induction a with
 |zero=>
  intro left m hm hl h0 h;rw[df,Xs left m hm hl h0 h];rfl
 |succ a ih=>
  intro left m hm hl h0 h;simp only[iM,Qs] at h;rw[df,Xs left m hm hl h0 h.1];show ps.findSome? _=none;rw[List.findSome?_eq_none_iff];intro p hp;rw[v3];obtain⟨k,hk⟩:=Q8 hp;have _h:k<pm.length:=by rw[K.pl];exact(P5.mp hk).1
  have hq:=P9 _h;have hall:=QE.mp h.2 pm[k] (QX _);have hbit:=K.p1 k p pm[k] hk hq;have ma:Ms (U9 ss p.1 p.2 left) (m &&& pm[k].1):=fun x=>by
   unfold U9;rw[Qq,S5,Qs];constructor
   .rintro⟨h1,h2⟩;exact⟨(hm x).mp h1,by rw[(hbit x (hl x h1)).1];exact h2⟩
   .rintro⟨h1,h2⟩;have:=(hm x).mpr h1;exact⟨this,by rw[(hbit x (hl x this)).1] at h2;exact h2⟩
  have mu:Ms (U6 ss p.1 p.2 left) (m &&& pm[k].2):=fun x=>by
   unfold U6;rw[Qq,S5,Qs];constructor
   .rintro⟨h1,h2⟩;exact⟨(hm x).mp h1,by rw[(hbit x (hl x h1)).2];exact h2⟩
   .rintro⟨h1,h2⟩;have:=(hm x).mpr h1;exact⟨this,by rw[(hbit x (hl x this)).2] at h2;exact h2⟩
  by_cases ha:U9 ss p.1 p.2 left=[]
  .exact .inl ha
  .by_cases hu:U6 ss p.1 p.2 left=[]
   .exact .inr (.inl hu)
   .simp only[Bool.or_eq_true,beq_iff_eq] at hall;rcases hall with z|z|z|z
    .exact absurd (ma.zero.mpr z) ha
    .exact absurd (mu.zero.mpr z) hu
    .exact .inr (.inr (.inr (ih _ _ mu (fun x hx=>hl x (Qq.mp hx).1) hu z)))
    .exact .inr (.inr (.inl (ih _ _ ma (fun x hx=>hl x (Qq.mp hx).1) ha z)))
end
end Law
namespace L3
open PySem L2
end L3
namespace L2
open PySem PySem.Spec PyProof.Rows
end L2
namespace L3
open PySem L2
end L3
namespace L2
open PySem PySem.Spec PyProof.Rows
section
open PySem.SeqAt
open PySem.AutoSeq1 (wpAny_loadPart')
open PySem.MeetsSeq PySem.MeetsSeq2 PySem.MeetsSeq3 PySem.SeqRoads2
end
end L2
namespace L3
open PySem PySem.Spec L2
end L3
namespace Law
open PySem L2 L3 PyProof.Rows
def DX(h:∀j,j<i->v j=v' j):firstMet v i=firstMet v' i:=by
 unfold firstMet;have:(List.range i).map v=(List.range i).map v':=QK fun j hj=>h j (QI.mp hj);rw[this]
def Kf(s:List Int)(x:Int):ji (s++[x])=if x∈s then ji s else ji s+1:=by
 unfold ji;rw[Qp,QR,firstMet_succ,step_length];have e:firstMet (fun i=>(s++[x]).getD i 0) s.length=firstMet (fun i=>s.getD i 0) s.length:=DX fun j hj=>by
  simp[P7,Qe hj]
 have ex:(s++[x]).getD s.length 0=x:=by simp[P7]
 rw[e,ex,firstMet_any];have em:((List.range s.length).map fun i=>s.getD i 0)=s:=by
  apply List.ext_getElem
  .simp
  .intro i h1 h2;simp[P7,P9 h2]
 rw[em];have eb:s.any (·==x)=decide (x∈s):=by
  rw[Q9];simp[Rb]
 rw[eb];by_cases h:x∈s<;>simp[h]
def Sx:Nat->Nat->List (List Int×Nat)
 |0,_=>[([],0)]
 |n+1,m=>(Sx n m).flatMap fun p=>(List.range (min (p.2+1) m)).map fun(i:Nat)=>(p.1++[(i:Int)],max p.2 (i+1))
structure Gd (n m:Nat) (p:List Int×Nat):Prop where
 len:p.1.length=n
 mem:∀x:Int,x∈p.1↔0<=x/\x<p.2
 dist:ji p.1=p.2
 le:p.2<=m
 len2:p.2<=n
 rise:∀(k:Nat) (x:Int),p.1[k]?=some x->0<=x/\x<=ji (p.1.take k)
theorem j1(m:Nat):∀(n:Nat) (p:List Int×Nat),p∈Sx n m->Gd n m p
 |0,p,h=>by
  simp[Sx] at h;subst h;exact⟨rfl,fun x=>by simp,rfl,QZ _,P3 _,fun k x e=>by simp at e⟩
 |n+1,p,h=>by
  simp only[Sx,R1,Qi,QI] at h;obtain⟨q,hq,i,hi,rfl⟩:=h;have g:=j1 m n q hq;have _l:i<m:=by omega
  have hiu:i<=q.2:=by omega
  refine(⟨by simp[g.len],fun x=>?_,?_,?_,?_,?_⟩)
  .simp only[Qr,Qu,g.mem];omega
  .show ji (q.1++[(i:Int)])=max q.2 (i+1);rw[Kf,g.dist];by_cases hm:(i:Int)∈q.1
   .rw[if_pos hm];have:=(g.mem _).mp hm;omega
   .rw[if_neg hm];have:¬(i:Int)<q.2:=fun z=>hm ((g.mem _).mpr ⟨by omega,z⟩);omega
  .have:=g.le;show max q.2 (i+1)<=m;omega
  .have:=g.len2;show max q.2 (i+1)<=n+1;omega
  .intro k x e;have e:(q.1++[(i:Int)])[k]?=some x:=e;show 0<=x/\x<=ji ((q.1++[(i:Int)]).take k);by_cases hk:k<q.1.length
   .rw[Qe hk] at e;rw[List.take_append_of_le_length (by omega)];exact g.rise k x e
   .rw[QD (by omega)] at e;have hz:k=q.1.length:=by
     have:=(P5.mp e).1;simp at this;omega
    subst hz;simp at e;subst e;rw[List.take_append_of_le_length (by omega),Sq,g.dist];omega
def Gd.used(g:Gd n m p):(Xu p.1).getD (-1)+1=(p.2:Int):=by
 cases hn:Xu p.1 with
 |none=>
  have:p.1=[]:=by cases h:p.1 with
   |nil=>rfl
   |cons a r=>rw[h] at hn;cases hn
  have h0:p.2=0:=by
   rcases Nat.eq_zero_or_pos p.2 with z|z
   .exact z
   .have:=(g.mem 0).mpr ⟨by omega,by omega⟩;rw[‹p.1=[]›] at this;cases this
  simp[h0]
 |some M=>
  have hM:=wm hn;have h1:=(g.mem M).mp hM.1;have h2:=hM.2 ((p.2:Int) - 1) ((g.mem _).mpr ⟨by omega,by omega⟩);simp only[Option.getD_some];omega
def Oy(n:Nat)(h:8<=m):n<=7->Sx n m=Sx n 8:=by
 induction n with
 |zero=>intro _;rfl
 |succ n ih=>
  intro hn;rw[Sx,Sx,ih (by omega)];rw[List.flatMap_def,List.flatMap_def];congr 1;apply QK;intro p hp;have:=(j1 8 n p hp).len2;have e:min (p.2+1) m=min (p.2+1) 8:=by omega
  rw[e]
def yh:∀n<8,∀m<9,(Sx n m).length<=877:=by decide +kernel
def qb(hn:n<=7)(m:Nat):(Sx n m).length<=877:=by
 by_cases h:m<9
 .exact yh n (by omega) m h
 .rw[Oy n (by omega) hn];exact yh n (by omega) 8 (by omega)
def fo(s:List Int)(as:List An):Bool:=as.all fun a=>decide (s.getD a.1 0=s.getD a.2.1 0)==a.2.2
def Τ(n:Nat)(as:List An):Prop:=∀a∈as,a.1<n/\a.2.1<n
theorem BT{J:Type}(f:Nat->J)(m:Nat):∀n,n<=m->∃p∈Sx n m,∀x y,x<n->y<n->(p.1.getD x 0=p.1.getD y 0↔f x=f y)
 |0,_=>⟨([],0),by simp[Sx],fun x y h=>by omega⟩
 |n+1,hn=>by
  obtain⟨p,hp,hf⟩:=BT f m n (by omega);have g:=j1 m n p hp;have hg:=g.len2;have Xv:∀x,x<n->p.1.getD x 0∈p.1:=fun x hx=>by
   rw[P7,P9 (by rw[g.len];exact hx)];exact QX _
  obtain⟨i,hi,_l⟩:∃i:Nat,i<min (p.2+1) m/\∀x,x<n->(p.1.getD x 0=(i:Int)↔f x=f n):=by
   by_cases h:∃x,x<n/\f x=f n
   .obtain⟨x0,Ϛ,e0⟩:=h;have h1:=(g.mem _).mp (Xv x0 Ϛ);refine⟨(p.1.getD x0 0).toNat,by have:=g.le;omega,fun x hx=>?_⟩;have e:((p.1.getD x0 0).toNat:Int)=p.1.getD x0 0:=by omega
    rw[e,←e0];exact hf x x0 hx Ϛ
   .refine⟨p.2,by omega,fun x hx=>⟨fun e=>?_,fun e=>absurd ⟨x,hx,e⟩ h⟩⟩;have h1:=(g.mem _).mp (Xv x hx);omega
  refine⟨(p.1++[(i:Int)],max p.2 (i+1)),?_,?_⟩
  .simp only[Sx,R1,Qi,QI];exact⟨p,hp,i,hi,rfl⟩
  .have old:∀x,x<n->(p.1++[(i:Int)]).getD x 0=p.1.getD x 0:=fun x hx=>by
    simp[P7,Qe (show x<p.1.length by rw[g.len];exact hx)]
   have new:(p.1++[(i:Int)]).getD n 0=(i:Int):=by
    have:n=p.1.length:=g.len.symm;simp[P7,this]
   intro x y hx hy;show(p.1++[(i:Int)]).getD x 0=(p.1++[(i:Int)]).getD y 0↔_;rcases Nat.lt_succ_iff_lt_or_eq.mp hx with hx|rfl<;>rcases Nat.lt_succ_iff_lt_or_eq.mp hy with hy|rfl
   .rw[old x hx,old y hy];exact hf x y hx hy
   .rw[old x hx,new];exact _l x hx
   .rw[old y hy,new];have:=_l y hy;constructor
    .intro e;exact(this.mp e.symm).symm
    .intro e;exact(this.mpr e.symm).symm
   .simp
def HM(hv:Τ n as)(h:gS as=true):∃p∈Sx n n,fo p.1 as=true:=by
 obtain⟨p,hp,hf⟩:=BT (fun x=>Ti as x) n n (P3 _);have eqv:∀x y,Ti as x=Ti as y↔Ti as x y:=fun x y=>
  ⟨fun e=>by rw[e];exact .refl y,fun c=>funext fun z=>propext ⟨fun d=>c.symm.trans d,fun d=>c.trans d⟩⟩
 refine⟨p,hp,?_⟩;unfold fo;rw[QE];intro a ha;obtain⟨h1,h2⟩:=hv a ha;have e:=(hf a.1 a.2.1 h1 h2).trans (eqv _ _);have ok:=vg as;cases hb:a.2.2 with
 |true=>
  have hm:(a.1,a.2.1,true)∈as:=by
   have e0:(a.1,a.2.1,true)=a:=by rw[←hb]
   rw[e0];exact ha
  have:Ti as a.1 a.2.1:=Ti.one (US.mpr (.inl hm));rw[QC (e.mpr this)];rfl
 |false=>
  have hc:=QE.mp h a ha;rw[hb] at hc;simp at hc;have:¬Ti as a.1 a.2.1:=fun c=>hc (ok.conn c);rw[Qn (mt e.mp this)];rfl
def K1(h:fo s as=true):gS as=true:=by
 have hall:=QE.mp h;have con:∀x y,Ti as x y->s.getD x 0=s.getD y 0:=by
  intro x y c;induction c with
  |refl=>rfl
  |step _ e ih=>
   rw[ih];rcases US.mp e with z|z
   .have:=hall _ z;simpa using this
   .have:=hall _ z;simp at this;exact this.symm
 unfold gS;rw[QE];intro a ha;have ok:=vg as;cases hb:a.2.2 with
 |true=>simp
 |false=>
  have h1:=hall a ha;rw[hb] at h1;simp only[Bool.false_or,Bool.not_eq_true',decide_eq_false_iff_not];intro e;have c:=(ok.iff (ok.named a ha).1).mp e;rw[con _ _ c] at h1;simp at h1
def eT(n:Nat)(as:List An):List (List Int):=((Sx n n).map (·.1)).filter fun s=>fo s as
def Ja(hv:Τ n as):eT n as=[]↔gS as=false:=by
 constructor
 .intro h;cases hc:gS as with
  |false=>rfl
  |true=>
   obtain⟨p,hp,hf⟩:=HM hv hc;have:p.1∈eT n as:=Qq.mpr ⟨List.mem_map_of_mem hp,hf⟩;rw[h] at this;cases this
 .intro h;unfold eT;rw[Rf];intro s hs hf;rw[K1 hf] at h;cases h
def fG(gs:List (Int×List Int))(k:Int)(t:Int):List (Int×List Int):=
 if(gs.any fun g=>decide (g.1=k))=true then gs.map fun g=>if g.1=k then(g.1,g.2++[t]) else g else gs++[(k,[t])]
def ie:Nat->List Int->List (Int×List Int)->List (Int×List Int)
 |_,[],gs=>gs
 |i,k::r,gs=>ie (i+1) r (fG gs k (i:Int))
def XJ(s:List Int):List (Int×List Int):=ie 0 s []
end Law
namespace L3
open PySem PySem.Spec L2
def Wp{J:Type}(r:Option (J×M))(Q:J->M->Prop):Prop:=∃a L,r=some (a,L)/\Q a L
def Ws(r:Option (Out×G×M))(Q:Out->G->M->Prop):Prop:=∃o B L,r=some (o,B,L)/\Q o B L
section
variable {J β:Type} {B:G} {L:M} {ea eb:EV} {ba bb:BV} {el:LV} {sa sb:SV} {i j n m:Nat} {d x y:D} {ds:List D} {b:Bool} {g:GV} {gs:WM} {o:Option D} {iv:IV} {lo hi:OV}
theorem Wp.imp{r:Option (J×M)}{Q R:J->M->Prop}(h:Wp r Q)(f:∀a L,Q a L->R a L):Wp r R:=let ⟨a,L,e,q⟩:=h;⟨a,L,e,f a L q⟩
theorem Ws.imp{r:Option (Out×G×M)}{Q R:Out->G->M->Prop}(h:Ws r Q)(f:∀o B L,Q o B L->R o B L):Ws r R:=let ⟨a,B,L,e,q⟩:=h;⟨a,B,L,e,f a B L q⟩
theorem TB{a:J}{Q:J->M->Prop}:Wp (some (a,L)) Q↔Q a L:=⟨fun⟨_,_,e,q⟩=>by cases e;exact q,fun q=>⟨_,_,rfl,q⟩⟩
theorem TH{out:Out}{Q:Out->G->M->Prop}:Ws (some (out,B,L)) Q↔Q out B L:=⟨fun⟨_,_,_,e,q⟩=>by cases e;exact q,fun q=>⟨_,_,_,rfl,q⟩⟩
theorem wp_bind{r:Option (J×M)}{f:J×M->Option (β×M)}{Q:β->M->Prop}:Wp (r.bind f) Q↔Wp r fun a L=>Wp (f (a,L)) Q:=by
 cases r with
 |none=>exact⟨fun⟨_,_,e,_⟩=>(by cases e),fun⟨_,_,e,_⟩=>(by cases e)⟩
 |some p=>exact⟨fun h=>⟨p.1,p.2,rfl,h⟩,fun⟨_,_,e,h⟩=>by cases e;exact h⟩
theorem TL{r:Option (J×M)}{f:J×M->Option (Out×G×M)}{Q:Out->G->M->Prop}:Ws (r.bind f) Q↔Wp r fun a L=>Ws (f (a,L)) Q:=by
 cases r with
 |none=>exact⟨fun⟨_,_,_,e,_⟩=>(by cases e),fun⟨_,_,e,_⟩=>(by cases e)⟩
 |some p=>exact⟨fun h=>⟨p.1,p.2,rfl,h⟩,fun⟨_,_,e,h⟩=>by cases e;exact h⟩
theorem Uq{r:Option (Out×G×M)}{f:Out×G×M->Option (Out×G×M)}{Q:Out->G->M->Prop}:Ws (r.bind f) Q↔Ws r fun o B L=>Ws (f (o,B,L)) Q:=by
 cases r with
 |none=>exact⟨fun⟨_,_,_,e,_⟩=>(by cases e),fun⟨_,_,_,e,_⟩=>(by cases e)⟩
 |some p=>exact⟨fun h=>⟨p.1,p.2.1,p.2.2,rfl,h⟩,fun⟨_,_,_,e,h⟩=>by cases e;exact h⟩
theorem WZ{r:Option (Out×G×M)}{f:Out×G×M->Option (β×M)}{Q:β->M->Prop}:Wp (r.bind f) Q↔Ws r fun o B L=>Wp (f (o,B,L)) Q:=by
 cases r with
 |none=>exact⟨fun⟨_,_,e,_⟩=>(by cases e),fun⟨_,_,_,e,_⟩=>(by cases e)⟩
 |some p=>exact⟨fun h=>⟨p.1,p.2.1,p.2.2,rfl,h⟩,fun⟨_,_,_,e,h⟩=>by cases e;exact h⟩
theorem TX{r:Option J}{f:J->Option (β×M)}{Q:β->M->Prop}:Wp (r.bind f) Q↔∃a,r=some a/\Wp (f a) Q:=by
 cases r with
 |none=>exact⟨fun⟨_,_,e,_⟩=>(by cases e),fun⟨_,e,_⟩=>(by cases e)⟩
 |some p=>exact⟨fun h=>⟨p,rfl,h⟩,fun⟨_,e,h⟩=>by cases e;exact h⟩
theorem kZ{r:Option (J×M)}{a:J}{Q:J->M->Prop}(e:r=some (a,L))(h:Q a L):Wp r Q:=⟨_,_,e,h⟩
variable {R:D->M->Prop} {RL:List D->M->Prop} {RB:Bool->M->Prop} {RG:G->M->Prop} {RI:List D×Ck->M->Prop} {RO:Option Int->M->Prop} {Q:Out->G->M->Prop}
theorem LH:Wp (be 0 (some d::B) L) R↔R d L:=TB
theorem O6:Wp (be (i+1) (o::B) L) R↔Wp (be i B L) R:=Qg
theorem w_c:Wp (vC d B L) R↔R d L:=TB
def q1(f:D->M->Fr)(R:D->M->Prop):D->M->Prop:=fun x L=>Wp (f x L) R
theorem q1_:q1 f R x L↔Wp (f x L) R:=Qg
theorem Gy:Wp (v1 f ea B L) R↔Wp (ea B L) (q1 f R):=wp_bind
def ox(f:D->D->M->Fr)(x:D)(R:D->M->Prop):D->M->Prop:=fun y L=>Wp (f x y L) R
theorem DU:ox f x R y L↔Wp (f x y L) R:=Qg
def q2(f:D->D->M->Fr)(eb:EV)(B:G)(R:D->M->Prop):D->M->Prop:=fun x L=>Wp (eb B L) (ox f x R)
theorem q2_:q2 f eb B R x L↔Wp (eb B L) (ox f x R):=Qg
theorem Cn:Wp (v2 f ea eb B L) R↔Wp (ea B L) (q2 f eb B R):=wp_bind.trans ⟨fun h=>h.imp fun _ _ q=>wp_bind.mp q,fun h=>h.imp fun _ _ q=>wp_bind.mpr q⟩
def qL(f:C0)(R:D->M->Prop):List D->M->Prop:=fun ds L=>Wp (f ds L) R
theorem qL_:qL f R ds L↔Wp (f ds L) R:=Qg
theorem Mo:Wp (vL f el B L) R↔Wp (el B L) (qL f R):=wp_bind
theorem Mr:Wp (cU B L) RL↔RL [] L:=TB
def ϻ(x:D)(RL:List D->M->Prop):List D->M->Prop:=fun ds L=>RL (x::ds) L
theorem GM:ϻ x RL ds L↔RL (x::ds) L:=Qg
def qc(el:LV)(B:G)(RL:List D->M->Prop):D->M->Prop:=fun x L=>Wp (el B L) (ϻ x RL)
theorem qc_:qc el B RL x L↔Wp (el B L) (ϻ x RL):=Qg
theorem KI:Wp (cQ ea el B L) RL↔Wp (ea B L) (qc el B RL):=wp_bind.trans ⟨fun h=>h.imp fun _ _ q=>(wp_bind.mp q).imp fun _ _ q=>(TB (Q:=RL)).mp q,fun h=>h.imp fun _ _ q=>wp_bind.mpr (q.imp fun _ _ q=>(TB (Q:=RL)).mpr q)⟩
def qT(RB:Bool->M->Prop):D->M->Prop:=fun d L=>∃b,d=.bl b/\RB b L
theorem qT_:qT RB (.bl b) L↔RB b L:=⟨fun⟨_,e,q⟩=>by cases e;exact q,fun q=>⟨_,rfl,q⟩⟩
theorem w_T:Wp (vT ea B L) RB↔Wp (ea B L) (qT RB):=wp_bind.trans ⟨fun h=>h.imp fun d L q=>by
  obtain⟨b,Z5,e,q⟩:=q;cases d<;>cases e
  exact⟨_,rfl,q⟩,fun h=>h.imp fun d L q=>by obtain⟨b,rfl,q⟩:=q;exact TB.mpr q⟩
def F'(RB:Bool->M->Prop):D->M->Prop:=fun d L=>∃b,Vd L d=some b/\RB b L
theorem DM:F' RB (.bl b) L↔RB b L:=⟨fun⟨_,e,q⟩=>by cases e;exact q,fun q=>⟨_,rfl,q⟩⟩
theorem PV:Wp (dL ea B L) RB↔Wp (ea B L) (F' RB):=wp_bind.trans ⟨fun h=>h.imp fun d L q=>by
  obtain⟨b,e,q⟩:=TX.mp q;exact⟨b,e,TB.mp q⟩,fun h=>h.imp fun d L ⟨b,e,q⟩=>TX.mpr ⟨b,e,TB.mpr q⟩⟩
def Ao(RB:Bool->M->Prop):Bool->M->Prop:=fun b L=>RB (!b) L
theorem Cq:Ao RB b L↔RB (!b) L:=Qg
theorem Co:Wp (gA ba B L) RB↔Wp (ba B L) (Ao RB):=wp_bind.trans ⟨fun h=>h.imp fun _ _ q=>(TB (Q:=RB)).mp q,fun h=>h.imp fun _ _ q=>(TB (Q:=RB)).mpr q⟩
def sB(bb:BV)(B:G)(RB:Bool->M->Prop):Bool->M->Prop:=fun b L=>if b=true then Wp (bb B L) RB else RB false L
theorem IA:sB bb B RB true L↔Wp (bb B L) RB:=Qg
theorem De:sB bb B RB false L↔RB false L:=Qg
theorem Dz:Wp (iK ba bb B L) RB↔Wp (ba B L) (sB bb B RB):=wp_bind.trans ⟨fun h=>h.imp fun b _ q=>by cases b;exact(TB (Q:=RB)).mp q;exact q,fun h=>h.imp fun b _ q=>by cases b;exact(TB (Q:=RB)).mpr q;exact q⟩
def K'(bb:BV)(B:G)(RB:Bool->M->Prop):Bool->M->Prop:=fun b L=>if b=true then RB true L else Wp (bb B L) RB
theorem Jd:K' bb B RB true L↔RB true L:=Qg
theorem Gb:K' bb B RB false L↔Wp (bb B L) RB:=Qg
theorem JH:Wp (XO ba bb B L) RB↔Wp (ba B L) (K' bb B RB):=wp_bind.trans ⟨fun h=>h.imp fun b _ q=>by cases b;exact q;exact(TB (Q:=RB)).mp q,fun h=>h.imp fun b _ q=>by cases b;exact q;exact(TB (Q:=RB)).mpr q⟩
theorem Xk:Wp (da B L) RB↔RB true L:=TB
def qIf(ea eb:EV)(B:G)(R:D->M->Prop):Bool->M->Prop:=fun b L=>if b=true then Wp (ea B L) R else Wp (eb B L) R
theorem EE:qIf ea eb B R true L↔Wp (ea B L) R:=Qg
theorem Os:qIf ea eb B R false L↔Wp (eb B L) R:=Qg
def kVA(eb:EV)(B:G)(d:D)(L:M):Fr:=match d with
 | .bl true=>eb B L
 | .bl false=>some (.bl false,L)
 |_=>none
def qVA(eb:EV)(B:G)(R:D->M->Prop):D->M->Prop:=fun d L=>Wp (kVA eb B d L) R
theorem B3:qVA eb B R (.bl true) L↔Wp (eb B L) R:=Qg
def KZ(eb:EV)(B:G)(d:D)(L:M):Fr:=match d with
 | .bl true=>some (.bl true,L)
 | .bl false=>eb B L
 |_=>none
def A'(eb:EV)(B:G)(R:D->M->Prop):D->M->Prop:=fun d L=>Wp (KZ eb B d L) R
theorem MF:A' eb B R (.bl true) L↔R (.bl true) L:=TB
theorem ND:A' eb B R (.bl false) L↔Wp (eb B L) R:=Qg
theorem Ez:Wp (Xm ea eb B L) R↔Wp (ea B L) (A' eb B R):=wp_bind
def qm2(f:D->D->M->Fr)(eb:EV)(B:G)(R:D->M->Prop):D->M->Prop:=fun x L=>(∃l,dC L x=some l)/\Wp (eb B L) (ox f x R)
theorem KK:Wp (fV f ea eb B L) R↔Wp (ea B L) (qm2 f eb B R):=wp_bind.trans ⟨fun h=>h.imp fun _ _ q=>by obtain⟨l,e,q⟩:=TX.mp q;exact⟨⟨l,e⟩,wp_bind.mp q⟩,fun h=>h.imp fun _ _ ⟨⟨l,e⟩,q⟩=>TX.mpr ⟨l,e,wp_bind.mpr q⟩⟩
theorem nI(h:L[k]?=some (some (.lst ds))):qm2 f eb B R (.ref k) L↔Wp (eb B L) (ox f (.ref k) R):=⟨fun q=>q.2,fun q=>⟨⟨_,h9 h⟩,q⟩⟩
def qm1(f:D->M->Fr)(R:D->M->Prop):D->M->Prop:=fun x L=>(∃l,dC L x=some l)/\Wp (f x L) R
theorem DL:Wp (kg f ea B L) R↔Wp (ea B L) (qm1 f R):=wp_bind.trans ⟨fun h=>h.imp fun _ _ q=>by obtain⟨l,e,q⟩:=TX.mp q;exact⟨⟨l,e⟩,q⟩,fun h=>h.imp fun _ _ ⟨⟨l,e⟩,q⟩=>TX.mpr ⟨l,e,q⟩⟩
theorem nl(h:L[k]?=some (some (.lst ds))):qm1 f R (.ref k) L↔Wp (f (.ref k) L) R:=⟨fun q=>q.2,fun q=>⟨⟨_,h9 h⟩,q⟩⟩
theorem CH:Wp (qp B L) RO↔RO none L:=TB
def qoS(RO:Option Int->M->Prop):D->M->Prop:=fun d L=>∃k,d=.int k/\RO (some k) L
theorem Eg:qoS RO (.int k) L↔RO (some k) L:=⟨fun⟨_,e,q⟩=>by cases e;exact q,fun q=>⟨_,rfl,q⟩⟩
theorem OJ:Wp (wp ea B L) RO↔Wp (ea B L) (qoS RO):=wp_bind.trans ⟨fun h=>h.imp fun d L q=>by
  obtain⟨b,Z5,e,q⟩:=q;cases d<;>cases e
  exact⟨_,rfl,q⟩,fun h=>h.imp fun d L q=>by obtain⟨b,rfl,q⟩:=q;exact TB.mpr q⟩
def Ϲ(x:D)(l:Option Int)(R:D->M->Prop):Option Int->M->Prop:=fun h L=>Wp (X3 x l h L) R
theorem FZ:Ϲ x l R h L↔Wp (X3 x l h L) R:=Qg
def Ϻ(hi:OV)(B:G)(x:D)(R:D->M->Prop):Option Int->M->Prop:=fun l L=>Wp (hi B L) (Ϲ x l R)
theorem Hl:Ϻ hi B x R l L↔Wp (hi B L) (Ϲ x l R):=Qg
def qs1(lo hi:OV)(B:G)(R:D->M->Prop):D->M->Prop:=fun x L=>Wp (lo B L) (Ϻ hi B x R)
theorem EL:qs1 lo hi B R x L↔Wp (lo B L) (Ϻ hi B x R):=Qg
theorem Ix:Wp (ϴ ea lo hi B L) R↔Wp (ea B L) (qs1 lo hi B R):=wp_bind.trans ⟨fun h=>h.imp fun _ _ q=>(wp_bind.mp q).imp fun _ _ q=>wp_bind.mp q,fun h=>h.imp fun _ _ q=>wp_bind.mpr (q.imp fun _ _ q=>wp_bind.mpr q)⟩
theorem Do:Wp (cR i d B L) RG↔RG (B.set i (some d)) L:=TB
theorem PN:Wp (dY [] B L) RG↔RG B L:=TB
def qgc(gs:WM)(ds:List D)(RG:G->M->Prop):G->M->Prop:=fun B L=>Wp (gs ds B L) RG
theorem Cy:qgc gs ds RG B L↔Wp (gs ds B L) RG:=Qg
theorem Nt:Wp (c4 g gs (d::ds) B L) RG↔Wp (g d B L) (qgc gs ds RG):=wp_bind
theorem pL(h:ds.length=n):Wp (eB n gs (.tup ds) B L) RG↔Wp (gs ds B L) RG:=by
 show Wp (if ds.length=n then gs ds B L else none) RG↔_;rw[if_pos h]
def i3(sb:SV)(Q:Out->G->M->Prop):Out->G->M->Prop:=fun o B L=>match o with
 | .nx=>Ws (sb B L) Q
 |o=>Q o B L
theorem Ks:i3 sb Q .nx B L↔Ws (sb B L) Q:=Qg
theorem ET:i3 sb Q (.rt d) B L↔Q (.rt d) B L:=Qg
theorem DD:i3 sb Q .bk B L↔Q .bk B L:=Qg
theorem Eb:i3 sb Q .ct B L↔Q .ct B L:=Qg
theorem wl:Ws (cV sa sb B L) Q↔Ws (sa B L) (i3 sb Q):=Uq.trans ⟨fun h=>h.imp fun o _ _ q=>by cases o<;>first|exact q|exact(TH (Q:=Q)).mp q,fun h=>h.imp fun o _ _ q=>by cases o<;>first|exact q|exact(TH (Q:=Q)).mpr q⟩
theorem Oe:Ws (UL B L) Q↔Q .nx B L:=TH
theorem Kd:Ws (ϊ B L) Q↔Q .bk B L:=TH
def qEx(B:G)(Q:Out->G->M->Prop):D->M->Prop:=fun _ L=>Q .nx B L
theorem Fy:qEx B Q d L↔Q .nx B L:=Qg
theorem MA:Ws (fz ea B L) Q↔Wp (ea B L) (qEx B Q):=TL.trans ⟨fun h=>h.imp fun _ _ q=>TH.mp q,fun h=>h.imp fun _ _ q=>TH.mpr q⟩
def qRt(B:G)(Q:Out->G->M->Prop):D->M->Prop:=fun d L=>Q (.rt d) B L
theorem G4:qRt B Q d L↔Q (.rt d) B L:=Qg
theorem Ml:Ws (db ea B L) Q↔Wp (ea B L) (qRt B Q):=TL.trans ⟨fun h=>h.imp fun _ _ q=>TH.mp q,fun h=>h.imp fun _ _ q=>TH.mpr q⟩
def G'(sa sb:SV)(B:G)(Q:Out->G->M->Prop):Bool->M->Prop:=fun b L=>if b=true then Ws (sa B L) Q else Ws (sb B L) Q
theorem NL:G' sa sb B Q true L↔Ws (sa B L) Q:=Qg
theorem E3:G' sa sb B Q false L↔Ws (sb B L) Q:=Qg
theorem EK:Ws (UR ba sa sb B L) Q↔Wp (ba B L) (G' sa sb B Q):=TL.trans ⟨fun h=>h.imp fun b _ q=>by cases b<;>exact q,fun h=>h.imp fun b _ q=>by cases b<;>exact q⟩
def L'(Q:Out->G->M->Prop):G->M->Prop:=fun B L=>Q .nx B L
theorem LW:L' Q B L↔Q .nx B L:=Qg
def qAs(g:GV)(B:G)(Q:Out->G->M->Prop):D->M->Prop:=fun d L=>Wp (g d B L) (L' Q)
theorem LS:qAs g B Q d L↔Wp (g d B L) (L' Q):=Qg
theorem Ah:Ws (dh ea g B L) Q↔Wp (ea B L) (qAs g B Q):=TL.trans ⟨fun h=>h.imp fun _ _ q=>(TL.mp q).imp fun _ _ q=>TH.mp q,fun h=>h.imp fun _ _ q=>TL.mpr (q.imp fun _ _ q=>TH.mpr q)⟩
def qFo(g:GV)(sb:SV)(B:G)(Q:Out->G->M->Prop):List D×Ck->M->Prop:=fun s L=>Ws (dX s.2 g sb s.1 B L) Q
theorem Ho:qFo g sb B Q (ds,c) L↔Ws (dX c g sb ds B L) Q:=Qg
theorem Dd:Ws (fF iv g sb B L) Q↔Wp (iv B L) (qFo g sb B Q):=TL
def qIL(RI:List D×Ck->M->Prop):D->M->Prop:=fun d L=>∃s,VP L d=some s/\RI s L
theorem D5:Wp (UB ea B L) RI↔Wp (ea B L) (qIL RI):=wp_bind.trans ⟨fun h=>h.imp fun d L q=>by
  obtain⟨b,e,q⟩:=TX.mp q;exact⟨b,e,TB.mp q⟩,fun h=>h.imp fun d L ⟨b,e,q⟩=>TX.mpr ⟨b,e,TB.mpr q⟩⟩
theorem Pb:qIL RI (.lst ds) L↔RI (ds,none) L:=⟨fun⟨_,e,q⟩=>by cases e;exact q,fun q=>⟨_,rfl,q⟩⟩
def qIR(RI:List D×Ck->M->Prop):D->M->Prop:=fun d L=>∃k,d=.int k/\Wp (WG (vC (.int k)) [] L) RI
theorem Kl:Wp (WG ea B L) RI↔Wp (ea B L) (qIR RI):=by
 refine wp_bind.trans ⟨fun h=>h.imp fun d L q=>?_,fun h=>h.imp fun d L q=>?_⟩
 .obtain⟨b,Z5,e,q⟩:=q;cases d with
  |int k=>exact⟨_,rfl,_,_,e,q⟩
  |_=>cases e
 .obtain⟨b,rfl,q⟩:=q;exact q
theorem j9(I:List D->G->M->Prop)(ds:List D)(h0:I ds B L)
  (hs:∀d r B L,I (d::r) B L->Wp (g d B L) fun ZY Z4=>Ws (sb ZY Z4) fun o ZW Z3=>match o with
   | .nx=>de c Z3/\I r ZW Z3
   | .ct=>de c Z3/\I r ZW Z3
   | .bk=>Q .nx ZW Z3
   | .rt d=>Q (.rt d) ZW Z3)
  (hq:∀B L,I [] B L->Q .nx B L):Ws (dX c g sb ds B L) Q:=by
 induction ds generalizing B L with
 |nil=>exact TH.mpr (hq _ _ h0)
 |cons d r ih=>
  refine TL.mpr ((hs d r B L h0).imp fun ZY Z4 h=>Uq.mpr (h.imp fun o ZW Z3 h=>?_));cases o with
  |nx=>show Ws (Uw _ _) Q;rw[fY h.1];exact ih h.2
  |ct=>show Ws (Uw _ _) Q;rw[fY h.1];exact ih h.2
  |bk=>exact TH.mpr h
  |rt d=>exact TH.mpr h
theorem HC(I:G->M->Prop)(f:G->M->Nat)(N:Nat)(h0:I B L)(hN:f B L<N)
  (hs:∀B L,I B L->Wp (c B L) fun b Z4=>if b=true then Ws (sb B Z4) fun o ZW Z3=>match o with
   | .nx=>I ZW Z3/\f ZW Z3<f B L
   | .ct=>I ZW Z3/\f ZW Z3<f B L
   | .bk=>Q .nx ZW Z3
   | .rt d=>Q (.rt d) ZW Z3 else Q .nx B Z4):Ws (i9 c sb N B L) Q:=by
 induction N generalizing B L with
 |zero=>omega
 |succ N ih=>
  refine TL.mpr ((hs B L h0).imp fun b Z4 h=>?_);cases b with
  |false=>exact TH.mpr h
  |true=>
   refine Uq.mpr (Ws.imp h fun o ZW Z3 h=>?_);cases o with
   |nx=>exact ih (B:=ZW) (L:=Z3) h.1 (by have:=h.2;omega)
   |ct=>exact ih (B:=ZW) (L:=Z3) h.1 (by have:=h.2;omega)
   |bk=>exact TH.mpr h
   |rt d=>exact TH.mpr h
def qCo(own:List Str)(cap:List (Str×Nat))(g:GV)(tc:BV)(te:EV)(B:G)(R:D->M->Prop):List D×Ck->M->Prop:=fun s L=>s.1.length<=1000000/\Wp (dW s.2 g tc te s.1 (dM own cap B) L) fun rs L=>R (.lst rs) L
theorem Vi:qCo own cap g tc te B R (ds,c) L↔ds.length<=1000000/\Wp (dW c g tc te ds (dM own cap B) L) fun rs L=>R (.lst rs) L:=Qg
theorem Fi:Wp (eN own cap iv g tc te B L) R↔Wp (iv B L) (qCo own cap g tc te B R):=by
 rw[vA];cases h:iv B L with
 |none=>exact⟨fun⟨_,_,e,_⟩=>(by cases e),fun⟨_,_,e,_⟩=>(by cases e)⟩
 |some p=>
  obtain⟨⟨its,c⟩,Z4⟩:=p;rw[TB,uO,Vi];by_cases hl:its.length<=1000000
  .rw[if_pos hl];cases e:dW c g tc te its (dM own cap B) Z4 with
   |none=>exact⟨fun⟨_,_,e,_⟩=>(by cases e),fun⟨_,_,_,e,_⟩=>(by cases e)⟩
   |some q=>exact⟨fun⟨_,_,e,h⟩=>by cases e;exact⟨hl,_,_,rfl,h⟩,fun⟨_,_,_,e,h⟩=>by cases e;exact⟨_,_,rfl,h⟩⟩
  .rw[if_neg hl];exact⟨fun⟨_,_,e,_⟩=>(by cases e),fun h=>absurd h.1 hl⟩
theorem T8{c:Ck}{tc:BV}{te:EV}(I:List D->List D->G->M->Prop)(ds:List D){R:List D->M->Prop}(h0:I [] ds B L)
  (hs:∀done d r B L,I done (d::r) B L->Wp (g d B L) fun ZY Z4=>Wp (tc ZY Z4) fun b Z3=>if b=true then Wp (te ZY Z3) fun x ZQ=>de c ZQ/\I (done++[x]) r ZY ZQ else de c Z3/\I done r ZY Z3)
  (hq:∀done B L,I done [] B L->R done L):Wp (dW c g tc te ds B L) R:=by
 suffices H:∀(ds done:List D) (B:G) (L:M),I done ds B L->Wp (dW c g tc te ds B L) fun rs L=>R (done++rs) L from(H ds [] B L h0).imp fun rs L h=>h
 intro ds;induction ds with
 |nil=>intro done B L h;exact TB.mpr (by simpa using hq _ _ _ h)
 |cons d r ih=>
  intro done B L h;refine wp_bind.mpr ((hs done d r B L h).imp fun ZY Z4 h=>wp_bind.mpr (h.imp fun b Z3 h=>?_));cases b with
  |true=>
   refine wp_bind.mpr (Wp.imp h fun x ZQ h=>?_);show Wp (Uw _ _) _;rw[fY h.1];refine wp_bind.mpr ((ih (done++[x]) ZY ZQ h.2).imp fun rs ZE h=>TB.mpr ?_);simpa using h
  |false=>
   show Wp (Uw _ _) _;have h:de c Z3/\I done r ZY Z3:=h;rw[fY h.1];exact ih done ZY Z3 h.2
def vB(R:D->M->Prop):Out->G->M->Prop:=fun o _ L=>match o with
 | .rt d=>R d L
 | .nx=>R .non L
 |_=>False
theorem Kt:vB R (.rt d) B L↔R d L:=Qg
theorem Nm:vB R .nx B L↔R .non L:=Qg
theorem fJ(h:ds.length=m):Wp (dF n m sa ds L) R↔Ws (sa (ds.map some++List.replicate (n - ds.length) none) L) (vB R):=by
 unfold dF;rw[if_pos h];refine WZ.trans ⟨fun h=>h.imp fun o _ _ q=>?_,fun h=>h.imp fun o _ _ q=>?_⟩
 .cases o with
  |rt d=>exact(TB (Q:=R)).mp q
  |nx=>exact(TB (Q:=R)).mp q
  |bk=>obtain⟨_,_,e,_⟩:=q;cases e
  |ct=>obtain⟨_,_,e,_⟩:=q;cases e
 .cases o with
  |rt d=>exact(TB (Q:=R)).mpr q
  |nx=>exact(TB (Q:=R)).mpr q
  |bk=>exact absurd q id
  |ct=>exact absurd q id
theorem vP{k:Nat}(h:k<=1000000000):qIR RI (.int (k:Int)) L↔RI (dk 0 k,none) L:=by
 have e:WG (vC (.int (k:Int))) [] L=some ((dk 0 k,none),L):=by
  show(if -1000000000<=(k:Int)/\(k:Int)<=1000000000 then some ((dk 0 ((k:Int).toNat),(none:Ck)),L) else none)=_;rw[if_pos (by omega)];rfl
 constructor
 .rintro⟨_,e',q⟩;cases e';rw[e] at q;exact TB.mp q
 .intro q;exact⟨_,rfl,by rw[e];exact TB.mpr q⟩
theorem pS{k m:Nat}(h:k<m):(dk 0 m).drop k=.int (k:Int)::(dk 0 m).drop (k+1):=by
 have hl:(dk 0 m).length=m:=by simp[dk]
 rw[QB (by omega)];congr 1;simp[dk]
theorem yk(I:Nat->G->M->Prop){m:Nat}(h0:I 0 B L)
  (hs:∀k B L,k<m->I k B L->Wp (g (.int (k:Int)) B L) fun ZY Z4=>Ws (sb ZY Z4) fun o ZW Z3=>match o with
   | .nx=>I (k+1) ZW Z3
   | .ct=>I (k+1) ZW Z3
   | .bk=>Q .nx ZW Z3
   | .rt d=>Q (.rt d) ZW Z3)
  (hq:∀B L,I m B L->Q .nx B L):Ws (dX none g sb (dk 0 m) B L) Q:=by
 have hl:(dk 0 m).length=m:=by simp[dk]
 refine j9 (fun r B L=>∃k,k<=m/\r=(dk 0 m).drop k/\I k B L) _ ⟨0,by omega,rfl,h0⟩ ?_ ?_
 .rintro d r B L ⟨k,hk,e,h⟩;have V1:k<m:=by
   rcases SD k m with z|z
   .exact z
   .rw[QM (by omega)] at e;cases e
  rw[pS V1] at e;cases e;refine(hs k B L V1 h).imp fun ZY Z4 h=>h.imp fun o ZW Z3 h=>?_;cases o with
  |nx=>exact⟨trivial,k+1,V1,rfl,h⟩
  |ct=>exact⟨trivial,k+1,V1,rfl,h⟩
  |bk=>exact h
  |rt d=>exact h
 .rintro B L ⟨k,hk,e,h⟩;have:k=m:=by
   rcases SD k m with z|z
   .rw[pS z] at e;cases e
   .omega
  subst this;exact hq _ _ h
theorem Pg{te:EV}(I:Nat->List D->G->M->Prop){m:Nat}{R:List D->M->Prop}(h0:I 0 [] B L)
  (hs:∀k done B L,k<m->I k done B L->Wp (g (.int (k:Int)) B L) fun ZY Z4=>Wp (te ZY Z4) fun x ZQ=>I (k+1) (done++[x]) ZY ZQ)
  (hq:∀done B L,I m done B L->R done L):Wp (dW none g da te (dk 0 m) B L) R:=by
 have hl:(dk 0 m).length=m:=by simp[dk]
 refine T8 (fun done r B L=>∃k,k<=m/\r=(dk 0 m).drop k/\I k done B L) _ ⟨0,by omega,rfl,h0⟩ ?_ ?_
 .rintro done d r B L ⟨k,hk,e,h⟩;have V1:k<m:=by
   rcases SD k m with z|z
   .exact z
   .rw[QM (by omega)] at e;cases e
  rw[pS V1] at e;cases e;refine(hs k done B L V1 h).imp fun ZY Z4 h=>?_;refine Xk.mpr ?_;show Wp _ _;exact h.imp fun x ZQ h=>⟨trivial,k+1,V1,rfl,h⟩
 .rintro done B L ⟨k,hk,e,h⟩;have:k=m:=by
   rcases SD k m with z|z
   .rw[pS z] at e;cases e
   .omega
  subst this;exact hq _ _ _ h
theorem Gv{i j:Int}:eV (.int i) (.int j) L=some (.int (i+j),L):=rfl
theorem Gj{i j:Int}:jh (.int i) (.int j) L=some (.int (i - j),L):=rfl
theorem y4{i j:Int}:Vu (.int i) (.int j) L=some (.bl (decide (j<i)),L):=rfl
theorem Hs{i j:Int}:Vq (.int i) (.int j) L=some (.bl (decide (i<j)),L):=rfl
theorem Pl{i j:Int}:fGe (.int i) (.int j) L=some (.bl (decide (j<=i)),L):=rfl
theorem PD{i j:Int}:WV (.int i) (.int j) L=some (.bl (decide (i<=j)),L):=rfl
theorem vK{i j:Int}:UA (.int i) (.int j) L=some (.bl (decide (i=j)),L):=by unfold UA;rw[Aw];rfl
theorem IG{i j:Int}:U7 (.int i) (.int j) L=some (.bl (!decide (i=j)),L):=by unfold U7;rw[Aw];rfl
theorem Dw{i j:Int}:mO (.int i) (.int j) L=some (.int (if j<i then j else i),L):=rfl
theorem CO{i j:Int}:wg (.int i) (.int j) L=some (.int (if j>i then j else i),L):=rfl
theorem OY{i:Int}:gR (.int i) L=some (.int (-i),L):=rfl
theorem LN{b:Bool}:AQ (.bl b) L=some (.bl (!b),L):=rfl
theorem OO{b:Bool}:kX (.bl b) L=some (.int (if b=true then 1 else 0),L):=Cb
theorem ig(h:ds.length<=1000):eO ds L=some (.tup ds,L):=if_pos h
theorem qJ(h:ds.length<=1000):fm ds L=some (.lst ds,L):=if_pos h
theorem pU(h:ds.length<=1000):fS ds L=some (.ref L.length,L++[some (.lst ds)]):=if_pos h
end
section
variable {B:G} {L:M} {ea eo ei ev:EV} {el:LV} {k n:Nat} {d x y:D} {ds:List D} {o:Option D} {C:Addr} {f m:Str} {fs:List (Str×D)} {g:C0}
variable {R:D->M->Prop} {RI:List D×Ck->M->Prop} {Q:Out->G->M->Prop}
def qIT(RI:List D×Ck->M->Prop):D->M->Prop:=fun d L=>∃s,im d=some s/\RI (s,none) L
theorem HE:Wp (η ea B L) RI↔Wp (ea B L) (qIT RI):=wp_bind.trans ⟨fun h=>h.imp fun d L q=>by
  obtain⟨b,e,q⟩:=TX.mp q;exact⟨b,e,TB.mp q⟩,fun h=>h.imp fun d L ⟨b,e,q⟩=>TX.mpr ⟨b,e,TB.mpr q⟩⟩
theorem Ey:qIT RI (.tup ds) L↔RI (ds,none) L:=⟨fun⟨_,e,q⟩=>by cases e;exact q,fun q=>⟨_,rfl,q⟩⟩
theorem p0(h:L[k]?=some (some (.ins C fs)))(hf:fs.lookup f=some d):fC C f (.ref k) L=some (d,L):=by
 unfold fC;simp only[h,if_true,hf];rfl
def zk(g:C0)(d:D)(R:D->M->Prop):List D->M->Prop:=fun ds L=>Wp (g (d::ds) L) R
theorem OU:zk g d R ds L↔Wp (g (d::ds) L) R:=Qg
def R'(C:Addr)(m:Str)(g:C0)(el:LV)(B:G)(R:D->M->Prop):D->M->Prop:=fun d L=>Wp (if Yg L C m d=true then(el B L).bind fun q=>g (d::q.1) q.2 else none) R
theorem GQ:Wp (iJ C m g eo el B L) R↔Wp (eo B L) (R' C m g el B R):=wp_bind
theorem l6(h:L[k]?=some (some (.ins C fs)))(hf:fs.lookup m=none):R' C m g el B R (.ref k) L↔Wp (el B L) (zk g (.ref k) R):=by
 have e:Yg L C m (.ref k)=true:=by simp[Yg,h,hf]
 unfold R';rw[if_pos e];exact wp_bind
def qMk(C:Addr)(g:C0)(R:D->M->Prop):List D->M->Prop:=fun ds L=>Wp (g (.ref L.length::ds) (L++[some (.ins C [])])) fun d Z5=>d=.non/\R (.ref L.length) Z5
theorem Om:qMk C g R ds L↔Wp (g (.ref L.length::ds) (L++[some (.ins C [])])) fun d Z5=>d=.non/\R (.ref L.length) Z5:=Qg
theorem Ch(h:Wp (el B L) (qMk C g R)):Wp (qe C g el B L) R:=wp_bind.mpr (h.imp fun ds L q=>wp_bind.mpr (q.imp fun d Z5 ⟨e,q⟩=>by subst e;exact TB.mpr q))
def ύ(C:Addr)(f:Str)(x:D)(B:G)(Q:Out->G->M->Prop):D->M->Prop:=fun d L=>Ws (match d with
 | .ref k=>match L[k]? with
  |some (some (.ins C' fs))=>if C'=C/\fs.length<1000 then some (.nx,B,L.set k (some (.ins C (e9 f x fs)))) else none
  |_=>none
 |_=>none) Q
def qF1(C:Addr)(f:Str)(eo:EV)(B:G)(Q:Out->G->M->Prop):D->M->Prop:=fun x L=>Wp (eo B L) (ύ C f x B Q)
theorem Lz:qF1 C f eo B Q x L↔Wp (eo B L) (ύ C f x B Q):=Qg
theorem GR:Ws (mz C f eo ev B L) Q↔Wp (ev B L) (qF1 C f eo B Q):=TL.trans ⟨fun h=>h.imp fun _ _ q=>TL.mp q,fun h=>h.imp fun _ _ q=>TL.mpr q⟩
theorem oZ(h:L[k]?=some (some (.ins C fs)))(hl:fs.length<1000):ύ C f x B Q (.ref k) L↔Q .nx B (L.set k (some (.ins C (e9 f x fs)))):=by
 unfold ύ;simp only[h,hl,and_self,if_true];exact TH
def ϋ(v o:D)(B:G)(Q:Out->G->M->Prop):D->M->Prop:=fun y L=>Ws ((ju y).bind fun k=>(iS L o).bind fun kvs=>match o with
 | .ref n=>if kvs.length<16000000 then some (.nx,B,L.set n (some (.dN (gk kvs k v)))) else none
 |_=>none) Q
def P'(ei:EV)(v:D)(B:G)(Q:Out->G->M->Prop):D->M->Prop:=fun o L=>Wp (ei B L) (ϋ v o B Q)
theorem O0:P' ei x B Q d L↔Wp (ei B L) (ϋ x d B Q):=Qg
def qN1(eo ei:EV)(B:G)(Q:Out->G->M->Prop):D->M->Prop:=fun v L=>Wp (eo B L) (P' ei v B Q)
theorem Go:qN1 eo ei B Q x L↔Wp (eo B L) (P' ei x B Q):=Qg
theorem Pw:Ws (qQ eo ei ev B L) Q↔Wp (ev B L) (qN1 eo ei B Q):=TL.trans ⟨fun h=>h.imp fun _ _ q=>(TL.mp q).imp fun _ _ q=>TL.mp q,fun h=>h.imp fun _ _ q=>TL.mpr (q.imp fun _ _ q=>TL.mpr q)⟩
theorem t7(h:L[k]?=some (some (.dN kvs))):iS L (.ref k)=some kvs:=by simp only[iS,h]
theorem vQ:ju (.tup [.tup (ns.map D.int),.int i])=some (ns,i):=by
 have:dQ WH (ns.map D.int)=some ns:=by
  have:=jz (f:=WH) (g:=D.int) (h:=id) (l:=ns) (fun x _=>rfl);simpa using this
 simp only[ju,this];rfl
theorem G6(h:L[k]?=some (some (.dN kvs)))(hl:kvs.length<16000000):ϋ x (.ref k) B Q (.tup [.tup (ns.map D.int),.int i]) L↔Q .nx B (L.set k (some (.dN (gk kvs (ns,i) x)))):=by
 unfold ϋ;rw[vQ,t7 h];simp only[Rk,hl,if_true];exact TH
theorem J5(h:L[k]?=some (some (.dN kvs))):mF true (.tup [.tup (ns.map D.int),.int i]) (.ref k) L=some (.bl (!(eK kvs (ns,i)).isSome),L):=by
 unfold mF;rw[vQ,t7 h];simp
theorem rK(h:L[k]?=some (some (.dN kvs)))(hv:eK kvs (ns,i)=some d):qH (.ref k) (.tup [.tup (ns.map D.int),.int i]) L=some (d,L):=by
 unfold qH;rw[vQ,t7 h];simp[hv]
theorem IF{kvs:List (NK×D)}{k:NK}{d:D}(h:eK kvs k=none):eK (gk kvs k d) k=some d/\(gk kvs k d)=kvs++[(k,d)]:=by
 have hn:∀p∈kvs,p.1≠k:=fun p hp e=>by
  have:(kvs.find? fun kv=>decide (kv.1=k))=none:=by
   unfold eK at h;cases q:kvs.find? fun kv=>decide (kv.1=k) with
   |none=>rfl
   |some z=>rw[q] at h;cases h
  have:=Rj.mp this p hp;simp[e] at this
 have ha:(kvs.any fun kv=>decide (kv.1=k))=false:=by
  rw[List.any_eq_false];intro p hp;simpa using hn p hp
 have e:gk kvs k d=kvs++[(k,d)]:=by unfold gk;rw[ha];rfl
 refine⟨?_,e⟩;rw[e];unfold eK;rw[List.find?_append];have:(kvs.find? fun kv=>decide (kv.1=k))=none:=Rj.mpr fun p hp=>by simpa using hn p hp
 rw[this];simp
theorem sQ{kvs:List (NK×D)}{k:NK}{d:D}(h:eK kvs k=some d):(k,d)∈kvs:=by
 unfold eK at h;cases q:kvs.find? fun kv=>decide (kv.1=k) with
 |none=>rw[q] at h;cases h
 |some z=>
  rw[q] at h;cases h;have h1:=Ri q;have h2:=R8 q;simp at h2;rw[←h2];exact h1
end
def Wt(r:Option (Tv×G×M))(Q:Tv->G->M->Prop):Prop:=∃o B L,r=some (o,B,L)/\Q o B L
section
variable {J β:Type} {B:G} {L:M} {ex:EX} {bx:BX} {bv:BV} {el:LV} {lx:LX} {sx sy:SX} {sv:SV} {C:Addr} {d:D} {ds:List D} {b:Bool} {g:GV} {f:FX} {n m:Nat}
variable {R:Rs D->M->Prop} {RB:Rs Bool->M->Prop} {RL:Rs (List D)->M->Prop} {Q:Tv->G->M->Prop}
theorem Wt.imp{r:Option (Tv×G×M)}{Q R:Tv->G->M->Prop}(h:Wt r Q)(f:∀o B L,Q o B L->R o B L):Wt r R:=let ⟨a,B,L,e,q⟩:=h;⟨a,B,L,e,f a B L q⟩
theorem TR:Wt (some (o,B,L)) Q↔Q o B L:=⟨fun⟨_,_,_,e,q⟩=>by cases e;exact q,fun q=>⟨_,_,_,rfl,q⟩⟩
theorem T4{r:Option (J×M)}{f:J×M->Option (Tv×G×M)}:Wt (r.bind f) Q↔Wp r fun a L=>Wt (f (a,L)) Q:=by
 cases r with
 |none=>exact⟨fun⟨_,_,_,e,_⟩=>(by cases e),fun⟨_,_,e,_⟩=>(by cases e)⟩
 |some p=>exact⟨fun h=>⟨p.1,p.2,rfl,h⟩,fun⟨_,_,e,h⟩=>by cases e;exact h⟩
theorem Vg{r:Option (Tv×G×M)}{f:Tv×G×M->Option (Tv×G×M)}:Wt (r.bind f) Q↔Wt r fun o B L=>Wt (f (o,B,L)) Q:=by
 cases r with
 |none=>exact⟨fun⟨_,_,_,e,_⟩=>(by cases e),fun⟨_,_,_,e,_⟩=>(by cases e)⟩
 |some p=>exact⟨fun h=>⟨p.1,p.2.1,p.2.2,rfl,h⟩,fun⟨_,_,_,e,h⟩=>by cases e;exact h⟩
theorem WX{r:Option (Out×G×M)}{f:Out×G×M->Option (Tv×G×M)}:Wt (r.bind f) Q↔Ws r fun o B L=>Wt (f (o,B,L)) Q:=by
 cases r with
 |none=>exact⟨fun⟨_,_,_,e,_⟩=>(by cases e),fun⟨_,_,_,e,_⟩=>(by cases e)⟩
 |some p=>exact⟨fun h=>⟨p.1,p.2.1,p.2.2,rfl,h⟩,fun⟨_,_,_,e,h⟩=>by cases e;exact h⟩
theorem WY{r:Option (Tv×G×M)}{f:Tv×G×M->Option (β×M)}{R:β->M->Prop}:Wp (r.bind f) R↔Wt r fun o B L=>Wp (f (o,B,L)) R:=by
 cases r with
 |none=>exact⟨fun⟨_,_,e,_⟩=>(by cases e),fun⟨_,_,_,e,_⟩=>(by cases e)⟩
 |some p=>exact⟨fun h=>⟨p.1,p.2.1,p.2.2,rfl,h⟩,fun⟨_,_,_,e,h⟩=>by cases e;exact h⟩
def B'(R:Rs J->M->Prop):J->M->Prop:=fun a L=>R (.ok a) L
theorem NU{a:J}{R:Rs J->M->Prop}:B' R a L↔R (.ok a) L:=Qg
theorem OT:Wp (WD bv B L) RB↔Wp (bv B L) (B' RB):=wp_bind.trans ⟨fun h=>h.imp fun _ _ q=>(TB (Q:=RB)).mp q,fun h=>h.imp fun _ _ q=>(TB (Q:=RB)).mpr q⟩
theorem Oo:Wp (VL el B L) RL↔Wp (el B L) (B' RL):=wp_bind.trans ⟨fun h=>h.imp fun _ _ q=>(TB (Q:=RL)).mp q,fun h=>h.imp fun _ _ q=>(TB (Q:=RL)).mpr q⟩
def D'(Q:Tv->G->M->Prop):Out->G->M->Prop:=fun o B L=>Q (ϵ o) B L
theorem Od:D' Q .nx B L↔Q .nx B L:=Qg
theorem Eu:D' Q (.rt d) B L↔Q (.rt d) B L:=Qg
theorem Dx:Wt (Vc sv B L) Q↔Ws (sv B L) (D' Q):=WX.trans ⟨fun h=>h.imp fun _ _ _ q=>(TR (Q:=Q)).mp q,fun h=>h.imp fun _ _ _ q=>(TR (Q:=Q)).mpr q⟩
def T'(f:FX)(R:Rs D->M->Prop):Rs (List D)->M->Prop:=fun r L=>match r with
 | .ok ds=>Wp (f ds L) R
 | .ex C=>R (.ex C) L
theorem Ji:T' f R (.ok ds) L↔Wp (f ds L) R:=Qg
theorem G0:T' f R (.ex C) L↔R (.ex C) L:=Qg
theorem Ov:Wp (VJ f lx B L) R↔Wp (lx B L) (T' f R):=wp_bind.trans ⟨fun h=>h.imp fun r _ q=>by cases r;exact q;exact(TB (Q:=R)).mp q,fun h=>h.imp fun r _ q=>by cases r;exact q;exact(TB (Q:=R)).mpr q⟩
def pC(d:D)(RL:Rs (List D)->M->Prop):Rs (List D)->M->Prop:=fun r L=>match r with
 | .ok ds=>RL (.ok (d::ds)) L
 | .ex C=>RL (.ex C) L
theorem Dl:pC d RL (.ok ds) L↔RL (.ok (d::ds)) L:=Qg
theorem GY:pC d RL (.ex C) L↔RL (.ex C) L:=Qg
def qcX(lx:LX)(B:G)(RL:Rs (List D)->M->Prop):Rs D->M->Prop:=fun r L=>match r with
 | .ok d=>Wp (lx B L) (pC d RL)
 | .ex C=>RL (.ex C) L
theorem PY:qcX lx B RL (.ok d) L↔Wp (lx B L) (pC d RL):=Qg
theorem GD:qcX lx B RL (.ex C) L↔RL (.ex C) L:=Qg
def qNX(RB:Rs Bool->M->Prop):Rs Bool->M->Prop:=fun r L=>match r with
 | .ok b=>RB (.ok (!b)) L
 | .ex C=>RB (.ex C) L
theorem Fs:qNX RB (.ok b) L↔RB (.ok (!b)) L:=Qg
theorem LY:qNX RB (.ex C) L↔RB (.ex C) L:=Qg
def qTX(RB:Rs Bool->M->Prop):Rs D->M->Prop:=fun r L=>match r with
 | .ok d=>∃b,d=.bl b/\RB (.ok b) L
 | .ex C=>RB (.ex C) L
theorem Dr:qTX RB (.ex C) L↔RB (.ex C) L:=Qg
def pT(sy:SX)(Q:Tv->G->M->Prop):Tv->G->M->Prop:=fun o B L=>match o with
 | .nx=>Wt (sy B L) Q
 |o=>Q o B L
theorem Nc:pT sy Q .nx B L↔Wt (sy B L) Q:=Qg
theorem FO:pT sy Q (.rt d) B L↔Q (.rt d) B L:=Qg
theorem HX:pT sy Q (.ex C) B L↔Q (.ex C) B L:=Qg
theorem MP:Wt (fg sx sy B L) Q↔Wt (sx B L) (pT sy Q):=Vg.trans ⟨fun h=>h.imp fun o _ _ q=>by cases o<;>first|exact q|exact(TR (Q:=Q)).mp q,fun h=>h.imp fun o _ _ q=>by cases o<;>first|exact q|exact(TR (Q:=Q)).mpr q⟩
def U'(B:G)(Q:Tv->G->M->Prop):Rs D->M->Prop:=fun r L=>match r with
 | .ok _=>Q .nx B L
 | .ex C=>Q (.ex C) B L
theorem JO:U' B Q (.ok d) L↔Q .nx B L:=Qg
theorem Dy:U' B Q (.ex C) L↔Q (.ex C) B L:=Qg
theorem Iz:Wt (kK ex B L) Q↔Wp (ex B L) (U' B Q):=T4.trans ⟨fun h=>h.imp fun r _ q=>by cases r<;>exact(TR (Q:=Q)).mp q,fun h=>h.imp fun r _ q=>by cases r<;>exact(TR (Q:=Q)).mpr q⟩
def J'(B:G)(Q:Tv->G->M->Prop):Rs D->M->Prop:=fun r L=>match r with
 | .ok d=>Q (.rt d) B L
 | .ex C=>Q (.ex C) B L
theorem Dk:J' B Q (.ok d) L↔Q (.rt d) B L:=Qg
theorem O3:J' B Q (.ex C) L↔Q (.ex C) B L:=Qg
theorem Lb:Wt (jD ex B L) Q↔Wp (ex B L) (J' B Q):=T4.trans ⟨fun h=>h.imp fun r _ q=>by cases r<;>exact(TR (Q:=Q)).mp q,fun h=>h.imp fun r _ q=>by cases r<;>exact(TR (Q:=Q)).mpr q⟩
def ό(sx sy:SX)(B:G)(Q:Tv->G->M->Prop):Rs Bool->M->Prop:=fun r L=>match r with
 | .ok c=>if c=true then Wt (sx B L) Q else Wt (sy B L) Q
 | .ex C=>Q (.ex C) B L
theorem Mi:ό sx sy B Q (.ok true) L↔Wt (sx B L) Q:=Qg
theorem B1:ό sx sy B Q (.ok false) L↔Wt (sy B L) Q:=Qg
theorem Ir:ό sx sy B Q (.ex C) L↔Q (.ex C) B L:=Qg
theorem NM:Wt (ga bx sx sy B L) Q↔Wp (bx B L) (ό sx sy B Q):=T4.trans ⟨fun h=>h.imp fun r _ q=>by
  cases r with
  |ok c=>cases c<;>exact q
  |ex C=>exact(TR (Q:=Q)).mp q,fun h=>h.imp fun r _ q=>by
  cases r with
  |ok c=>cases c<;>exact q
  |ex C=>exact(TR (Q:=Q)).mpr q⟩
def uT(Q:Tv->G->M->Prop):G->M->Prop:=fun B L=>Q .nx B L
theorem Dc:uT Q B L↔Q .nx B L:=Qg
def V'(g:GV)(B:G)(Q:Tv->G->M->Prop):Rs D->M->Prop:=fun r L=>match r with
 | .ok d=>Wp (g d B L) (uT Q)
 | .ex C=>Q (.ex C) B L
theorem LZ:V' g B Q (.ok d) L↔Wp (g d B L) (uT Q):=Qg
theorem ES:V' g B Q (.ex C) L↔Q (.ex C) B L:=Qg
theorem Mb:Wt (ui ex g B L) Q↔Wp (ex B L) (V' g B Q):=by
 refine T4.trans ⟨fun h=>h.imp fun r L q=>?_,fun h=>h.imp fun r L q=>?_⟩
 .cases r with
  |ok d=>exact(T4.mp q).imp fun _ _ q=>(TR (Q:=Q)).mp q
  |ex C=>exact(TR (Q:=Q)).mp q
 .cases r with
  |ok d=>exact T4.mpr (Wp.imp q fun _ _ q=>(TR (Q:=Q)).mpr q)
  |ex C=>exact(TR (Q:=Q)).mpr q
def pI(R:Rs D->M->Prop):Tv->G->M->Prop:=fun o _ L=>match o with
 | .rt d=>R (.ok d) L
 | .nx=>R (.ok .non) L
 | .ex C=>R (.ex C) L
 |_=>False
theorem G3:pI R (.rt d) B L↔R (.ok d) L:=Qg
theorem Iy:pI R .nx B L↔R (.ok .non) L:=Qg
theorem Nd:pI R (.ex C) B L↔R (.ex C) L:=Qg
theorem sV(h:ds.length=m):Wp (fA n m sx ds L) R↔Wt (sx (ds.map some++List.replicate (n - ds.length) none) L) (pI R):=by
 unfold fA;rw[if_pos h];refine WY.trans ⟨fun h=>h.imp fun o _ _ q=>?_,fun h=>h.imp fun o _ _ q=>?_⟩
 .cases o with
  |rt d=>exact(TB (Q:=R)).mp q
  |nx=>exact(TB (Q:=R)).mp q
  |ex C=>exact(TB (Q:=R)).mp q
  |bk=>obtain⟨_,_,e,_⟩:=q;cases e
  |ct=>obtain⟨_,_,e,_⟩:=q;cases e
 .cases o with
  |rt d=>exact(TB (Q:=R)).mpr q
  |nx=>exact(TB (Q:=R)).mpr q
  |ex C=>exact(TB (Q:=R)).mpr q
  |bk=>exact absurd q id
  |ct=>exact absurd q id
theorem uZ{R:D->M->Prop}(h:Wp (f ds L) fun r L=>∃d,r=.ok d/\R d L):Wp (dn f ds L) R:=by
 obtain⟨_,Z5,e,d,rfl,q⟩:=h;unfold dn;rw[e];exact TB.mpr q
theorem VG(I:List D->G->M->Prop)(ds:List D)(h0:I ds B L)
  (hs:∀d r B L,I (d::r) B L->Wp (g d B L) fun ZY Z4=>Wt (sx ZY Z4) fun o ZW Z3=>match o with
   | .nx=>de c Z3/\I r ZW Z3
   | .ct=>de c Z3/\I r ZW Z3
   | .bk=>Q .nx ZW Z3
   | .rt d=>Q (.rt d) ZW Z3
   | .ex C=>Q (.ex C) ZW Z3)
  (hq:∀B L,I [] B L->Q .nx B L):Wt (ja c g sx ds B L) Q:=by
 induction ds generalizing B L with
 |nil=>exact TR.mpr (hq _ _ h0)
 |cons d r ih=>
  refine T4.mpr ((hs d r B L h0).imp fun ZY Z4 h=>Vg.mpr (h.imp fun o ZW Z3 h=>?_));cases o with
  |nx=>show Wt (Uw _ _) Q;rw[fY h.1];exact ih h.2
  |ct=>show Wt (Uw _ _) Q;rw[fY h.1];exact ih h.2
  |bk=>exact TR.mpr h
  |rt d=>exact TR.mpr h
  |ex C=>exact TR.mpr h
def qFX(g:GV)(sx:SX)(B:G)(Q:Tv->G->M->Prop):List D×Ck->M->Prop:=fun s L=>Wt (ja s.2 g sx s.1 B L) Q
theorem EU:qFX g sx B Q (ds,c) L↔Wt (ja c g sx ds B L) Q:=Qg
end
section
variable {B:G} {L:M} {ea eb eo ei ev ek:EV} {el:LV} {i j k:Nat} {d x y v w:D} {b:Bool}
variable {R:D->M->Prop} {RI:List D×Ck->M->Prop} {Q:Out->G->M->Prop}
theorem sf(h:L[a]?=some z):L.set a z=L:=by
 refine SR fun q=>?_;by_cases e:q=a
 .subst e;rw[eU h,h]
 .rw[eR e]
def qPr(i j:Nat)(B:G)(Q:Out->G->M->Prop):List D->M->Prop:=fun l L=>∃v w,l=[v,w]/\Q .nx ((B.set i (some v)).set j (some w)) L
theorem ug:qPr i j B Q [v,w] L↔Q .nx ((B.set i (some v)).set j (some w)) L:=⟨fun⟨_,_,e,q⟩=>by cases e;exact q,fun q=>⟨_,_,rfl,q⟩⟩
theorem qZ:Ws (lA i j el B L) Q↔Wp (el B L) (qPr i j B Q):=by
 unfold lA;refine TL.trans ⟨fun h=>h.imp fun l _ q=>?_,fun h=>h.imp fun l _ q=>?_⟩
 .obtain⟨_,_,_,e,q⟩:=q;match l,e with
  | [v,w],e=>cases e;exact⟨_,_,rfl,q⟩
 .obtain⟨v,w,rfl,q⟩:=q;exact⟨_,_,_,rfl,q⟩
def qS2(i j:Nat)(B:G)(Q:Out->G->M->Prop):D->M->Prop:=fun v L=>Q .nx ((B.set i (some v)).set j (some v)) L
theorem Mt:qS2 i j B Q v L↔Q .nx ((B.set i (some v)).set j (some v)) L:=Qg
theorem PP:Ws (sY i j ea B L) Q↔Wp (ea B L) (qS2 i j B Q):=TL.trans ⟨fun h=>h.imp fun _ _ q=>TH.mp q,fun h=>h.imp fun _ _ q=>TH.mpr q⟩
def uG(i:Nat)(B:G)(Q:Out->G->M->Prop):D->M->Prop:=fun z L=>Q .nx (B.set i (some z)) L
theorem zp:uG i B Q v L↔Q .nx (B.set i (some v)) L:=Qg
def qAu(f:D->D->M->Fr)(x:D)(i:Nat)(B:G)(Q:Out->G->M->Prop):D->M->Prop:=fun y L=>Wp (f x y L) (uG i B Q)
theorem BN:qAu f x i B Q y L↔Wp (f x y L) (uG i B Q):=Qg
theorem xN(h:B[i]?=some (some x)):Ws (gZ i f ea B L) Q↔Wp (ea B L) (qAu f x i B Q):=by
 unfold gZ;rw[h];exact TL.trans ⟨fun h=>h.imp fun _ _ q=>(TL.mp q).imp fun _ _ q=>TH.mp q,fun h=>h.imp fun _ _ q=>TL.mpr (q.imp fun _ _ q=>TH.mpr q)⟩
theorem Ia{i j:Int}:nO (.int i) (.int j) L=some (.int (i+j),L):=rfl
theorem JD{a b:Int}(ha:Wp (ea B L) fun d Z4=>d=.int a/\Wp (eb B Z4) fun d Z3=>d=.int b/\RI (dk a (b - a).toNat,none) Z3)(h1:(-1000000000<=a/\a<=1000000000)/\-1000000000<=b/\b<=1000000000):Wp (js ea eb B L) RI:=by
 unfold js;refine wp_bind.mpr (ha.imp fun d Z4 h=>?_);obtain⟨rfl,h⟩:=h;refine wp_bind.mpr (h.imp fun d Z3 h=>?_);obtain⟨rfl,h⟩:=h;show Wp (if _ then _ else none) _;rw[if_pos h1];exact TB.mpr h
theorem B4(h:Wp (ek B (L++[some (.dK [])])) fun d Z4=>d=.int kk/\Wp (ev B Z4) fun v Z3=>Z3[L.length]?=some (some (.dK []))/\R (.ref L.length) (Z3.set L.length (some (.dK [(.inl kk,v)])))):Wp (ql ek ev B L) R:=by
 unfold ql;refine wp_bind.mpr (h.imp fun d Z4 h=>?_);obtain⟨rfl,h⟩:=h;refine wp_bind.mpr (h.imp fun d Z3 h=>?_);obtain⟨e,h⟩:=h;have hk:fu (.int kk)=some (.inl kk):=rfl;rw[hk];show Wp (match Z3[L.length]? with|some (some (.dK []))=>_|_=>none) _;rw[e];exact TB.mpr h
theorem MJ(h:Wp (eo B L) fun d Z4=>d=.ref k/\(∃ϒ,dD Z4 (.ref k)=some ϒ)/\Wp (ea B Z4) fun e Z3=>∃k2 more,e=.ref k2/\dD Z3 (.ref k)=some kvs/\dD Z3 (.ref k2)=some more/\k≠k2/\kvs.length<=100000/\more.length<=100000/\R .non (Z3.set k (some (.dK (i7 kvs more))))):Wp (oK eo ea B L) R:=by
 unfold oK;refine wp_bind.mpr (h.imp fun d Z4 h=>?_);obtain⟨rfl,⟨ϒ,e0⟩,h⟩:=h;refine TX.mpr ⟨_,e0,wp_bind.mpr (h.imp fun d Z3 h=>?_)⟩;obtain⟨k2,more,rfl,e1,e2,h1,h2,h3,q⟩:=h;refine TX.mpr ⟨_,e1,TX.mpr ⟨_,e2,?_⟩⟩;show Wp (if _ then _ else none) _;rw[if_pos ⟨h1,h2,h3⟩];exact TB.mpr q
theorem L8(h:Wp (ev B L) fun v Z4=>Wp (eo B Z4) fun d Z3=>d=.ref k/\Wp (ei B Z3) fun e ZQ=>∃kvs,e=.int kk/\dD ZQ (.ref k)=some kvs/\kvs.length<1000000/\Q .nx B (ZQ.set k (some (.dK (eM kvs (.inl kk) v))))):Ws (oq eo ei ev B L) Q:=by
 unfold oq;refine TL.mpr (h.imp fun v Z4 h=>TL.mpr (h.imp fun d Z3 h=>?_));obtain⟨rfl,h⟩:=h;refine TL.mpr (h.imp fun e ZQ h=>?_);obtain⟨kvs,rfl,e1,h1,q⟩:=h;have hk:fu (.int kk)=some (.inl kk):=rfl;rw[hk,e1];show Ws (if _ then _ else none) _;rw[if_pos h1];exact TH.mpr q
end
end L3
namespace L2
open PySem
def cI(ks:List Int)(v:Int)(l:List Nat):Nat:=l.countP fun i=>decide (ks.getD i 0=v)
def cN(ks:List Int)(v:Int)(n:Nat):Nat:=cI ks v (List.range n)
def jM(ks:List Int)(v:Int)(n:Nat):cN ks v (n+1)=cN ks v n+if ks.getD n 0=v then 1 else 0:=by
 unfold cN cI;rw[List.range_succ,List.countP_append];simp[List.countP_cons]
def VO{ks:List Int}{i j:Nat}:dq ks i j=true↔ks.getD i 0=ks.getD j 0:=by unfold dq;simp
theorem bm(hk:ks≠[]):∀n,0<=(UI ks n).2.2/\(∀v,v≠ks.getD (UI ks n).2.1 0->2*(cN ks v (n+1):Int)<=(n+1:Nat) - (UI ks n).2.2)/\2*(cN ks (ks.getD (UI ks n).2.1 0) (n+1):Int)<=(n+1:Nat)+(UI ks n).2.2
 |0=>by
  simp only[UI,hk,if_false];refine⟨by omega,fun v hv=>?_,?_⟩
  .rw[jM,if_neg (fun z=>hv z.symm)];simp[cN,cI]
  .rw[jM,if_pos rfl];simp[cN,cI]
 |n+1=>by
  obtain⟨h0,h1,h2⟩:=bm hk n;unfold UI;generalize UI ks n=s at*;obtain⟨as,t,c⟩:=s;simp only at h0 h1 h2⊢;split
  .rename_i hc;simp only;by_cases hs:dq ks t (n+1)=true
   .have e:=VO.mp hs;rw[if_pos hs];refine⟨by omega,fun v hv=>?_,?_⟩
    .have:=h1 v hv;rw[jM,if_neg (fun z=>hv (by rw[e];exact z.symm))];omega
    .rw[jM,if_pos e.symm];omega
   .have e:ks.getD t 0≠ks.getD (n+1) 0:=fun z=>hs (VO.mpr z);rw[if_neg hs];refine⟨by omega,fun v hv=>?_,?_⟩
    .have:=h1 v hv;rw[jM];split<;>omega
    .rw[jM,if_neg (fun z=>e z.symm)];omega
  .rename_i hc;simp only;have Yr:c=0:=by omega
   subst Yr;refine⟨by omega,fun v hv=>?_,?_⟩
   .rw[jM,if_neg (fun z=>hv z.symm)];by_cases e:v=ks.getD t 0
    .subst e;omega
    .have:=h1 v e;omega
   .rw[jM,if_pos rfl];by_cases e:ks.getD (n+1) 0=ks.getD t 0
    .rw[e];omega
    .have:=h1 _ e;omega
end L2
namespace L2
open PySem PySem.Spec PyProof.Rows
end L2
namespace L3
open PySem L2
end L3
namespace L2
open PySem PySem.Spec PyProof.Rows HT
end L2
namespace L3
open PySem L2
end L3
namespace Law
open PySem L2 L3
def top(i:Nat):Stmt:=PySem.Challenge.pw_morethanhalf_k29_whole_rows_and_fewest.main.body.getD i (.Pass ⟨0,0,0,0⟩)
section
variable {P:Program} {w:World} {K:Frag} {mg:Str->Option Value} {base:Heap} {f:Addr} {fd:FuncData}
theorem oj:TC ["many","answers","i","j","alike"] ["many","answers"] (c9 (top 28)):=⟨rfl,rfl,rfl,by decide +kernel,rfl,by decide +kernel,by decide +kernel⟩
def vt(fD:Addr):SX:=
  (fg (ga (WD (vT (v2 Vq (be 0) (vC (.int 0)))))
   (iQ fD ((be 0)::[]))
   (Vc UL))
  (Ap (UB (be 1)) (eB 3 (c4 (cR 2) (c4 (cR 3) (c4 (cR 4) dY))))
   (fg (ga (WD (gA (iK (vT (ij WV Vq (vC (.int 0)) (be 2) (be 0))) (vT (ij WV Vq (vC (.int 0)) (be 3) (be 0))))))
    (iQ fD ((be 2)::((be 3)::((be 0)::[]))))
    (Vc UL))
   (ga (WD (vT (v2 UA (be 2) (be 3))))
    (iQ fD ((be 2)::[]))
    (Vc UL)))))
def qt(fD:Addr):FX:=fA 5 2 (vt fD)
theorem Ip{k:Nat}{fD:Addr}(F:T2 K "check_things" "check_things" (top 28) f fd) (gI:mg "NoThing"=some (.ref fD)/\fM K fD):TJ P w K mg base (U5 P w) (k+1) f fd ["many","answers"] (VB K (qt fD)):=by
 unfold qt vt;exact iU F oj fun cdv A outer s H E hr=>
  (jk (j6 (lN (tY (cP 0) cY))
   (gf (kN (lZ (gc (by decide) (g9 (cP 0) (gc (by decide) Ye)))) gI.1 gI.2))
   jW)
  (gf (PU (Fn ⟨rfl,rfl⟩) rfl (Jy (fB (cP 1))) (HZ (gM (n:=3) (eI (dl (i:=2) oj.nd rfl (Or.inl rfl)) (eI (dl (i:=3) oj.nd rfl (Or.inl rfl)) (eI (dl (i:=4) oj.nd rfl (Or.inl rfl)) hJ)))))
   (jk (j6 (lN (kJ (PW.pt (xF (ze qV xQ we ya cY (cP 2) (cP 0)) (w6 (ze qV xQ we ya cY (cP 3) (cP 0)))))))
    (gf (kN (lZ (gc (by decide) (g9 (cP 2) (gc (by decide) (g9 (cP 3) (gc (by decide) (g9 (cP 0) (gc (by decide) Ye)))))))) gI.1 gI.2))
    jW)
   (gf (j6 (lN (iN hr (cP 2) (cP 3)))
    (gf (kN (lZ (gc (by decide) (g9 (cP 2) (gc (by decide) Ye)))) gI.1 gI.2))
    jW))))))
theorem Kj:TC ["homes","old","new"] ["homes","old","new"] (c9 (top 29)):=⟨rfl,rfl,rfl,by decide +kernel,rfl,by decide +kernel,by decide +kernel⟩
theorem Bo:((["thing","home"]:List Str)++([("old",1),("new",2)]:List (Str×Nat)).map (·.1)).Nodup:=by decide +kernel
def wq:SV:=
  (db (oR ["thing","home"] [("old",1),("new",2)] (be 0) (eB 2 (c4 (cR 0) (c4 (cR 1) dY))) da (be 0) (Wa (vT (v2 UA (be 1) (be 2))) (be 3) (be 1))))
def je:C0:=dF 3 3 (wq)
theorem KS{k:Nat}(F:T2 K "moved" "moved" (top 29) f fd):TJ P w K mg base T1 (k+1) f fd ["homes","old","new"] (TV K (je)):=by
 unfold je wq;exact eg F Kj fun cdv A outer s H E hr=>
  (cX (dt (Le (own:=["thing","home"]) (cap:=[("old",1),("new",2)]) (fK rfl) (cP 0)
   (fun _ _ _ _ _=>(gM (n:=2) (eI (dl (i:=0) Bo rfl (Or.inl rfl)) (eI (dl (i:=1) Bo rfl (Or.inl rfl)) hJ)))) (fun _ _ _ _ _=>ge)
   (fun _ _ _ _ _=>(cP 0)) (fun _ _ _ _ _=>(uY (iN hr (cP 1) (cP 2)) (cP 3) (cP 1))))))
theorem lE:TC ["answers","homes","i","j","alike"] ["answers"] (c9 (top 30)):=⟨rfl,rfl,rfl,by decide +kernel,rfl,by decide +kernel,by decide +kernel⟩
def u4(lI:C0):SV:=
  (cV (dh nR (cR 1))
  (cV (fF (UB (be 0)) (eB 3 (c4 (cR 2) (c4 (cR 3) (c4 (cR 4) dY))))
   (cV (fz (gD (be 1) (be 2) (be 2)))
   (cV (fz (gD (be 1) (be 3) (be 3)))
   (UR (dL (be 4))
    (dh (vL lI (cQ (be 1) (cQ (v2 fT (be 1) (be 3)) (cQ (v2 fT (be 1) (be 2)) cU)))) (cR 1))
    UL))))
  (db (be 1))))
def lJ(lI:C0):C0:=dF 5 1 (u4 lI)
theorem OS{lI:C0}{z5 k:Nat}(F:T2 K "homes_of" "homes_of" (top 30) f fd) (u0:Df P w K mg base z5 "moved" ["homes","old","new"] (TV K lI)) (EY:z5<=k):TJ P w K mg base T1 (k+1) f fd ["answers"] (TV K (lJ lI)):=by
 unfold lJ u4;exact eg F lE fun cdv A outer s H E hr=>
  (cZ (dJ (i:=1) lE.nd rfl (Or.inl rfl) zy)
  (cZ (gB QG rfl (fB (cP 0)) (gM (n:=3) (eI (dl (i:=2) lE.nd rfl (Or.inl rfl)) (eI (dl (i:=3) lE.nd rfl (Or.inl rfl)) (eI (dl (i:=4) lE.nd rfl (Or.inl rfl)) hJ))))
   (cZ (gQ (rZ (cP 1) (cP 2) (cP 2)))
   (cZ (gQ (rZ (cP 1) (cP 3) (cP 3)))
   (cX (eD (ft (cP 4))
    (cX (dJ (i:=1) lE.nd rfl (Or.inl rfl) (dy u0 (hr.mono EY) (cT (cP 1) (cT (pM hr (cP 1) (cP 3)) (cT (pM hr (cP 1) (cP 2)) cW))))))
    eW)))))
  (cX (dt (cP 1)))))
theorem BW:TC ["many","answers","homes"] ["many","answers"] (c9 (top 31)):=⟨rfl,rfl,rfl,by decide +kernel,rfl,by decide +kernel,by decide +kernel⟩
theorem su:((["i","j","alike"]:List Str)++([("homes",2)]:List (Str×Nat)).map (·.1)).Nodup:=by decide +kernel
def se(mn:C0)(lg:FX):SX:=
  (fg (kK (VJ lg (VL (cQ (be 0) (cQ (be 1) cU)))))
  (Vc (cV (dh (vL mn (cQ (be 1) cU)) (cR 2))
  (db (v1 i8 (eN ["i","j","alike"] [("homes",2)] (UB (be 1)) (eB 3 (c4 (cR 0) (c4 (cR 1) (c4 (cR 2) dY)))) da (Xm (be 2) (v2 U7 (v2 fT (be 3) (be 0)) (v2 fT (be 3) (be 1))))))))))
def vd(mn:C0)(lg:FX):FX:=fA 3 2 (se mn lg)
theorem PR{mn:C0}{lg:FX}{AJ BF k:Nat}(F:T2 K "can_be" "can_be" (top 31) f fd) (sW:Df P w K mg base AJ "homes_of" ["answers"] (TV K mn)) (MQ:AJ<=k) (vy:WW P w K mg base BF "check_things" ["many","answers"] (VB K lg)) (Cg:BF<=k) (lb:mg "all"=none):TJ P w K mg base (U5 P w) (k+1) f fd ["many","answers"] (VB K (vd mn lg)):=by
 unfold vd se;exact iU F BW fun cdv A outer s H E hr=>
  (jk (u5 (jB vy (hr.mono Cg) (jb (cT (cP 0) (cT (cP 1) cW)))))
  (vq (cZ (dJ (i:=2) BW.nd rfl (Or.inr rfl) (dy sW (hr.mono MQ) (cT (cP 1) cW)))
  (cX (dt (zN lb (iA (own:=["i","j","alike"]) (cap:=[("homes",2)]) (fK rfl) (fB (cP 1))
   (fun _ _ _ _ _=>(gM (n:=3) (eI (dl (i:=0) su rfl (Or.inl rfl)) (eI (dl (i:=1) su rfl (Or.inl rfl)) (eI (dl (i:=2) su rfl (Or.inl rfl)) hJ))))) (fun _ _ _ _ _=>ge)
   (fun _ _ _ _ _=>(tS (cP 2) (va (zL hr (pM hr (cP 3) (cP 0)) (pM hr (cP 3) (cP 1)))))))))))))
theorem Fj:TC ["many","answers"] ["many","answers"] (c9 (top 32)):=⟨rfl,rfl,rfl,by decide +kernel,rfl,by decide +kernel,by decide +kernel⟩
def sI(l9:FX)(ko:Addr):SX:=
  (ga (pH (ϫ (VJ l9 (VL (cQ (be 0) (cQ (be 1) cU))))))
   (Af ko (vC (.str "the answers cannot all be right")))
   (Vc UL))
def uE(l9:FX)(ko:Addr):FX:=fA 2 2 (sI l9 ko)
theorem Pe{l9:FX}{xW k:Nat}{ko:Addr}(F:T2 K "check_right" "check_right" (top 32) f fd) (tf:WW P w K mg base xW "can_be" ["many","answers"] (VB K l9)) (IS:xW<=k) (qP:mg "NoFit"=some (.ref ko)/\fM K ko):TJ P w K mg base (U5 P w) (k+1) f fd ["many","answers"] (VB K (uE l9 ko)):=by
 unfold uE sI;exact iU F Fj fun cdv A outer s H E hr=>
  (gf (j6 (ME (Kb (jB tf (hr.mono IS) (jb (cT (cP 0) (cT (cP 1) cW))))))
   (gf (F0 i0 qP.1 qP.2))
   jW))
theorem oo:TC ["kinds","answers","i","j","alike"] ["kinds","answers"] (c9 (top 33)):=⟨rfl,rfl,rfl,by decide +kernel,rfl,by decide +kernel,by decide +kernel⟩
def v6:SV:=
  (cV (fF (UB (be 1)) (eB 3 (c4 (cR 2) (c4 (cR 3) (c4 (cR 4) dY))))
   (UR (vT (v2 U7 (v2 UA (v2 Te (be 0) (be 2)) (v2 Te (be 0) (be 3))) (be 4)))
    (db (vC (.bl false)))
    UL))
  (db (vC (.bl true))))
def jQ:C0:=dF 5 2 (v6)
theorem DF{k:Nat}(F:T2 K "fits" "fits" (top 33) f fd):TJ P w K mg base T1 (k+1) f fd ["kinds","answers"] (TV K (jQ)):=by
 unfold jQ v6;exact eg F oo fun cdv A outer s H E hr=>
  (cZ (gB QG rfl (fB (cP 1)) (gM (n:=3) (eI (dl (i:=2) oo.nd rfl (Or.inl rfl)) (eI (dl (i:=3) oo.nd rfl (Or.inl rfl)) (eI (dl (i:=4) oo.nd rfl (Or.inl rfl)) hJ))))
   (cX (eD (mG hr (nE hr (dw (cP 0) (cP 2)) (dw (cP 0) (cP 3))) (cP 4))
    (cX (dt gF))
    eW)))
  (cX (dt gF)))
theorem xT:TC ["sort","most","used"] ["sort","most"] (c9 (top 11)):=⟨rfl,rfl,rfl,by decide +kernel,rfl,by decide +kernel,by decide +kernel⟩
theorem MZ:((["number"]:List Str)++([("sort",0)]:List (Str×Nat)).map (·.1)).Nodup:=by decide +kernel
def vI:SV:=
  (cV (dh (v2 eV (v2 k7 (be 0) (v1 gR (vC (.int 1)))) (vC (.int 1))) (cR 2))
  (db (eN ["number"] [("sort",0)] (mM (v2 mO (v2 eV (be 2) (vC (.int 1))) (be 1))) (cR 0) da (v2 eV (be 1) (vL fm (cQ (be 0) cU))))))
def hU:C0:=dF 3 2 (vI)
theorem Ex{k:Nat}(F:T2 K "one_thing_more" "one_thing_more" (top 11) f fd) (iV:mg "max"=none) (uQ:mg "min"=none) (eP:mg "range"=none):TJ P w K mg base T1 (k+1) f fd ["sort","most"] (TV K (hU)):=by
 unfold hU vI;exact eg F xT fun cdv A outer s H E hr=>
  (cZ (dJ (i:=2) xT.nd rfl (Or.inl rfl) (i5 (M2 iV (cP 0) (p8 cY)) cY))
  (cX (dt (iA (own:=["number"]) (cap:=[("sort",0)]) (fK rfl) (OB eP (Fw uQ (i5 (cP 2) cY) (cP 1)))
   (fun _ _ _ _ _=>(dl (i:=0) MZ rfl (Or.inl rfl))) (fun _ _ _ _ _=>ge)
   (fun _ _ _ _ _=>(i5 (cP 1) (iF (cT (cP 0) cW))))))))
theorem qB:TC ["many","most","sorts","step"] ["many","most"] (c9 (top 12)):=⟨rfl,rfl,rfl,by decide +kernel,rfl,by decide +kernel,by decide +kernel⟩
theorem AS:((["sort","longer"]:List Str)++([("most",1)]:List (Str×Nat)).map (·.1)).Nodup:=by decide +kernel
def rO(ly:C0)(kq:D)(fP:Addr):SX:=
  (fg (ga (WD (XO (vT (v2 Vq (be 0) (vC (.int 0)))) (vT (v2 Vu (be 0) (vC kq)))))
   (iQ fP ((vC kq)::((be 0)::[])))
   (Vc UL))
  (Vc (cV (dh (vL fm (cQ (vL fm cU) cU)) (cR 2))
  (cV (fF (WG (be 0)) (cR 3)
   (dh (jF ["sort","longer"] [("most",1)] (UB (be 2)) (cR 0) da (UB (vL ly (cQ (be 0) (cQ (be 2) cU)))) (cR 1) da (be 1)) (cR 2)))
  (db (be 2))))))
def kY(ly:C0)(kq:D)(fP:Addr):FX:=fA 4 2 (rO ly kq fP)
theorem IY{ly:C0}{zq k:Nat}{kq:D}{Uc:V}{Ud:Value}{fP:Addr}(F:T2 K "all_sorts" "all_sorts" (top 12) f fd) (sR:Df P w K mg base zq "one_thing_more" ["sort","most"] (TV K ly)) (JA:zq<=k) (jP:mg "MOST_THINGS"=some Ud/\RelV Uc Ud/\∀W,DR K W kq Uc) (jx:mg "TooMany"=some (.ref fP)/\fM K fP) (eP:mg "range"=none):TJ P w K mg base (U5 P w) (k+1) f fd ["many","most"] (VB K (kY ly kq fP)):=by
 unfold kY rO;exact iU F qB fun cdv A outer s H E hr=>
  (jk (j6 (lN (PW.pt (qD (tY (cP 0) cY) (pf (ng (cP 0) (nV jP.1 jP.2.1 jP.2.2))))))
   (gf (kN (lZ (gc (by decide) (g9 (nV jP.1 jP.2.1 jP.2.2) (gc (by decide) (g9 (cP 0) Ye))))) jx.1 jx.2))
   jW)
  (vq (cZ (dJ (i:=2) qB.nd rfl (Or.inl rfl) (iF (cT (iF cW) cW)))
  (cZ (gB QG rfl (mV eP (cP 0)) (dl (i:=3) qB.nd rfl (Or.inl rfl))
   (cX (Gw (i:=2) qB.nd rfl rfl (own:=["sort","longer"]) (cap:=[("most",1)]) (fK rfl) (fB (cP 2))
   (fun _ _ _ _ _=>(dl (i:=0) AS rfl (Or.inl rfl))) (fun _ _ _ _ _=>ge)
   (fun _ _ _ _ _=>(fB (dy sR (hr.mono JA) (cT (cP 0) (cT (cP 2) cW))))) (fun _ _ _ _ _=>(dl (i:=1) AS rfl (Or.inl rfl))) (fun _ _ _ _ _=>ge)
   (fun _ _ _ _ _=>(cP 1)))))
  (cX (dt (cP 2)))))))
theorem LM:TC ["many","answers"] ["many","answers"] (c9 (top 34)):=⟨rfl,rfl,rfl,by decide +kernel,rfl,by decide +kernel,by decide +kernel⟩
theorem E1:((["sort"]:List Str)++([("answers",1)]:List (Str×Nat)).map (·.1)).Nodup:=by decide +kernel
def sr(lh:C0)(me:FX)(fj:FX):SX:=
  (fg (kK (VJ me (VL (cQ (be 0) (cQ (be 1) cU)))))
  (jD (kl ["sort"] [("answers",1)] (VJ fj (VL (cQ (be 0) (cQ (be 0) cU)))) (cR 0) (dL (vL lh (cQ (be 0) (cQ (be 1) cU)))) (be 0))))
def rV(lh:C0)(me:FX)(fj:FX):FX:=fA 2 2 (sr lh me fj)
theorem Hg{lh:C0}{me fj:FX}{xh yH jG k:Nat}(F:T2 K "sorts_that_fit" "sorts_that_fit" (top 34) f fd) (rQ:Df P w K mg base xh "fits" ["kinds","answers"] (TV K lh)) (Ko:xh<=k) (uM:WW P w K mg base yH "check_right" ["many","answers"] (VB K me)) (O9:yH<=k) (jd:WW P w K mg base jG "all_sorts" ["many","most"] (VB K fj)) (mL:jG<=k):TJ P w K mg base (U5 P w) (k+1) f fd ["many","answers"] (VB K (rV lh me fj)):=by
 unfold rV sr;exact iU F LM fun cdv A outer s H E hr=>
  (jk (u5 (jB uM (hr.mono O9) (jb (cT (cP 0) (cT (cP 1) cW)))))
  (gf (v8 (zZ (own:=["sort"]) (cap:=[("answers",1)]) (fK rfl) (jB jd (hr.mono mL) (jb (cT (cP 0) (cT (cP 0) cW))))
   (fun _ _ _ _ _=>(dl (i:=0) E1 rfl (Or.inl rfl))) (fun _ _ _ _ _=>(oJ (ft (dy rQ (hr.mono Ko) (cT (cP 0) (cT (cP 1) cW))))))
   (fun _ _ _ _ _=>(cP 0))))))
theorem p9:TC ["kinds","by_kind","thing","kind"] ["kinds"] (c9 (top 9)):=⟨rfl,rfl,rfl,by decide +kernel,rfl,by decide +kernel,by decide +kernel⟩
def vO:SV:=
  (cV (dh nR (cR 1))
  (cV (fF (uC (be 0)) (eB 2 (c4 (cR 2) (c4 (cR 3) dY)))
   (fz (fV fq (gD (be 1) (be 3) (vL fS cU)) (be 2))))
  (db (v1 oX (be 1)))))
def ki:C0:=dF 4 1 (vO)
theorem ER{k:Nat}(F:T2 K "alike_things" "alike_things" (top 9) f fd) (u9:mg "enumerate"=none) (rA:mg "list"=none):TJ P w K mg base T1 (k+1) f fd ["kinds"] (TV K (ki)):=by
 unfold ki vO;exact eg F p9 fun cdv A outer s H E hr=>
  (cZ (dJ (i:=1) p9.nd rfl (Or.inl rfl) zy)
  (cZ (gB QG rfl (L4 u9 (cP 0)) (gM (n:=2) (eI (dl (i:=2) p9.nd rfl (Or.inl rfl)) (eI (dl (i:=3) p9.nd rfl (Or.inl rfl)) hJ)))
   (cX (gQ (lG (rZ (cP 1) (cP 3) (lY cW)) (cP 2)))))
  (cX (dt (PB rA (cP 1))))))
theorem xa:TC ["kinds","things"] ["kinds"] (c9 (top 10)):=⟨rfl,rfl,rfl,by decide +kernel,rfl,by decide +kernel,by decide +kernel⟩
def pF(lO:C0):SV:=
  (cV (fF (UB (vL lO (cQ (be 0) cU))) (cR 1)
   (UR (vT (v2 Vu (v2 gg (vC (.int 2)) (v1 dU (be 1))) (v1 dU (be 0))))
    (db (be 1))
    UL))
  (db (vL fm cU)))
def nw(lO:C0):C0:=dF 2 1 (pF lO)
theorem Ny{lO:C0}{Bv k:Nat}(F:T2 K "more_than_half" "more_than_half" (top 10) f fd) (qX:Df P w K mg base Bv "alike_things" ["kinds"] (TV K lO)) (HV:Bv<=k) (dR:mg "len"=none):TJ P w K mg base T1 (k+1) f fd ["kinds"] (TV K (nw lO)):=by
 unfold nw pF;exact eg F xa fun cdv A outer s H E hr=>
  (cZ (gB QG rfl (fB (dy qX (hr.mono HV) (cT (cP 0) cW))) (dl (i:=1) xa.nd rfl (Or.inl rfl))
   (cX (eD (ng (kR cY (gw dR (cP 1))) (gw dR (cP 0)))
    (cX (dt (cP 1)))
    eW)))
  (cX (dt (iF cW))))
theorem Ab:TC ["kinds","things"] ["kinds"] (c9 (top 15)):=⟨rfl,rfl,rfl,by decide +kernel,rfl,by decide +kernel,by decide +kernel⟩
theorem FQ:((["thing"]:List Str)++([]:List (Str×Nat)).map (·.1)).Nodup:=by decide +kernel
def sk(gn:C0):SV:=
  (cV (dh (vL gn (cQ (be 0) cU)) (cR 1))
  (db (Wa (dL (be 1)) (eN ["thing"] [] (UB (be 1)) (cR 0) da (vL eO (cQ (vC (.str "one")) (cQ (be 0) cU)))) (vL fm (cQ (vL eO (cQ (vC (.str "none")) cU)) cU)))))
def pG(gn:C0):C0:=dF 2 1 (sk gn)
theorem Ds{gn:C0}{nP k:Nat}(F:T2 K "half_ends" "half_ends" (top 15) f fd) (lS:Df P w K mg base nP "more_than_half" ["kinds"] (TV K gn)) (uh:nP<=k):TJ P w K mg base T1 (k+1) f fd ["kinds"] (TV K (pG gn)):=by
 unfold pG sk;exact eg F Ab fun cdv A outer s H E hr=>
  (cZ (dJ (i:=1) Ab.nd rfl (Or.inl rfl) (dy lS (hr.mono uh) (cT (cP 0) cW)))
  (cX (dt (uY (ft (cP 1)) (iA (own:=["thing"]) (cap:=[]) (fK rfl) (fB (cP 1))
   (fun _ _ _ _ _=>(dl (i:=0) FQ rfl (Or.inl rfl))) (fun _ _ _ _ _=>ge)
   (fun _ _ _ _ _=>(fZ (cT i0 (cT (cP 0) cW))))) (iF (cT (fZ (cT i0 cW)) cW))))))
theorem Bs:TC ["ends","end"] ["ends"] (c9 (top 16)):=⟨rfl,rfl,rfl,by decide +kernel,rfl,by decide +kernel,by decide +kernel⟩
theorem MT:((["others"]:List Str)++([("end",1)]:List (Str×Nat)).map (·.1)).Nodup:=by decide +kernel
def p7(gC:D):SV:=
  (cV (fF (UB (v2 Te (be 0) (vC (.int 0)))) (cR 1)
   (UR (dL (v1 i8 (eN ["others"] [("end",1)] (UB (be 0)) (cR 0) da (v2 (iO false) (be 1) (be 0)))))
    (db (be 1))
    UL))
  (db (vC gC)))
def i6(gC:D):C0:=dF 2 1 (p7 gC)
theorem D9{k:Nat}{gC:D}{VD:V}{VE:Value}(F:T2 K "common_end" "common_end" (top 16) f fd) (ir:mg "OPEN"=some VE/\RelV VD VE/\∀W,DR K W gC VD) (lb:mg "all"=none):TJ P w K mg base T1 (k+1) f fd ["ends"] (TV K (i6 gC)):=by
 unfold i6 p7;exact eg F Bs fun cdv A outer s H E hr=>
  (cZ (gB QG rfl (fB (dw (cP 0) cY)) (dl (i:=1) Bs.nd rfl (Or.inr rfl))
   (cX (eD (ft (zN lb (iA (own:=["others"]) (cap:=[("end",1)]) (fK rfl) (fB (cP 0))
   (fun _ _ _ _ _=>(dl (i:=0) MT rfl (Or.inl rfl))) (fun _ _ _ _ _=>ge)
   (fun _ _ _ _ _=>(Ke hr (cP 1) (cP 0))))))
    (cX (dt (cP 1)))
    eW)))
  (cX (dt (nV ir.1 ir.2.1 ir.2.2))))
theorem Jw:TC ["many","answers"] ["many","answers"] (c9 (top 35)):=⟨rfl,rfl,rfl,by decide +kernel,rfl,by decide +kernel,by decide +kernel⟩
theorem KB:((["sort"]:List Str)++([]:List (Str×Nat)).map (·.1)).Nodup:=by decide +kernel
def um(gx:C0)(gm:C0)(mi:FX):SX:=
  (jD (VJ (Y1 gx) (qq (kl ["sort"] [] (VJ mi (VL (cQ (be 0) (cQ (be 1) cU)))) (cR 0) da (vL gm (cQ (be 0) cU))) (VL cU))))
def rl(gx:C0)(gm:C0)(mi:FX):FX:=fA 2 2 (um gx gm mi)
theorem Eo{gx gm:C0}{mi:FX}{nv nF zS k:Nat}(F:T2 K "tells" "tells" (top 35) f fd) (lM:Df P w K mg base nv "common_end" ["ends"] (TV K gx)) (vW:nv<=k) (lj:Df P w K mg base nF "half_ends" ["kinds"] (TV K gm)) (u8:nF<=k) (tj:WW P w K mg base zS "sorts_that_fit" ["many","answers"] (VB K mi)) (Mg:zS<=k):TJ P w K mg base (U5 P w) (k+1) f fd ["many","answers"] (VB K (rl gx gm mi)):=by
 unfold rl um;exact iU F Jw fun cdv A outer s H E hr=>
  (gf (v8 (IZ lM (hr.mono vW) (JX (zZ (own:=["sort"]) (cap:=[]) (fK rfl) (jB tj (hr.mono Mg) (jb (cT (cP 0) (cT (cP 1) cW))))
   (fun _ _ _ _ _=>(dl (i:=0) KB rfl (Or.inl rfl))) (fun _ _ _ _ _=>ge)
   (fun _ _ _ _ _=>(dy lj (hr.mono u8) (cT (cP 0) cW)))) (jb cW)))))
theorem KO:TC ["many"] ["many"] (c9 (top 18)):=⟨rfl,rfl,rfl,by decide +kernel,rfl,by decide +kernel,by decide +kernel⟩
theorem AF:((["i","j"]:List Str)++([("many",0)]:List (Str×Nat)).map (·.1)).Nodup:=by decide +kernel
def uL:SV:=
  (db (jF ["i","j"] [("many",0)] (WG (be 0)) (cR 0) da (js (v2 eV (be 0) (vC (.int 1))) (be 2)) (cR 1) da (vL eO (cQ (be 0) (cQ (be 1) cU)))))
def n6:C0:=dF 1 1 (uL)
theorem PH{k:Nat}(F:T2 K "pairs_of" "pairs_of" (top 18) f fd) (eP:mg "range"=none):TJ P w K mg base T1 (k+1) f fd ["many"] (TV K (n6)):=by
 unfold n6 uL;exact eg F KO fun cdv A outer s H E hr=>
  (cX (dt (Ot (own:=["i","j"]) (cap:=[("many",0)]) (fK rfl) (mV eP (cP 0))
   (fun _ _ _ _ _=>(dl (i:=0) AF rfl (Or.inl rfl))) (fun _ _ _ _ _=>ge)
   (fun _ _ _ _ _=>(BA eP (i5 (cP 0) cY) (cP 2))) (fun _ _ _ _ _=>(dl (i:=1) AF rfl (Or.inl rfl))) (fun _ _ _ _ _=>ge)
   (fun _ _ _ _ _=>(fZ (cT (cP 0) (cT (cP 1) cW)))))))
theorem DN:TC ["many","least","greatest"] ["many","least","greatest"] (c9 (top 6)):=⟨rfl,rfl,rfl,by decide +kernel,rfl,by decide +kernel,by decide +kernel⟩
def wb(fD:Addr)(fP:Addr):SX:=
  (fg (ga (WD (vT (v2 Vq (be 0) (be 1))))
   (iQ fD ((be 1)::((be 0)::[])))
   (Vc UL))
  (ga (WD (vT (v2 Vu (be 0) (be 2))))
   (iQ fP ((be 2)::((be 0)::[])))
   (Vc UL)))
def mY(fD:Addr)(fP:Addr):FX:=fA 3 3 (wb fD fP)
theorem Ps{k:Nat}{fD:Addr}{fP:Addr}(F:T2 K "check_many" "check_many" (top 6) f fd) (gI:mg "NoThing"=some (.ref fD)/\fM K fD) (jx:mg "TooMany"=some (.ref fP)/\fM K fP):TJ P w K mg base (U5 P w) (k+1) f fd ["many","least","greatest"] (VB K (mY fD fP)):=by
 unfold mY wb;exact iU F DN fun cdv A outer s H E hr=>
  (jk (j6 (lN (tY (cP 0) (cP 1)))
   (gf (kN (lZ (gc (by decide) (g9 (cP 1) (gc (by decide) (g9 (cP 0) Ye))))) gI.1 gI.2))
   jW)
  (gf (j6 (lN (ng (cP 0) (cP 2)))
   (gf (kN (lZ (gc (by decide) (g9 (cP 2) (gc (by decide) (g9 (cP 0) Ye))))) jx.1 jx.2))
   jW)))
theorem JQ:TC ["self","many","sorts","ends"] ["self","many","sorts","ends"] (c9 (gL (top 21) 0)):=⟨rfl,rfl,rfl,by decide +kernel,rfl,by decide +kernel,by decide +kernel⟩
def sT(kO:C0)(dc:Addr):SV:=
  (cV (mz dc "pairs" (be 0) (vL kO (cQ (be 1) cU)))
  (cV (mz dc "sorts" (be 0) (be 2))
  (cV (mz dc "ends" (be 0) (be 3))
  (mz dc "searched" (be 0) uV))))
def oC(kO:C0)(dc:Addr):C0:=dF 4 4 (sT kO dc)
theorem FG{kO:C0}{yU k:Nat}{dc:Addr}(F:T2 K "__init__" "Search.__init__" (gL (top 21) 0) f fd) (ud:Df P w K mg base yU "pairs_of" ["many"] (TV K kO)) (MY:yU<=k) (lW:Uz K dc "pairs") (iW:Uz K dc "sorts") (lr:Uz K dc "ends") (jn:Uz K dc "searched"):TJ P w K mg base T1 (k+1) f fd ["self","many","sorts","ends"] (TV K (oC kO dc)):=by
 unfold oC sT;exact eg F JQ fun cdv A outer s H E hr=>
  (cZ (oH lW (cP 0) (dy ud (hr.mono MY) (cT (cP 1) cW)))
  (cZ (oH iW (cP 0) (cP 2))
  (cZ (oH lr (cP 0) (cP 3))
  (cX (oH jn (cP 0) FM)))))
theorem nn:TC ["self","i","j","left","asks","alike","unlike","if_alike","if_unlike"] ["self","i","j","left","asks"] (c9 (gL (top 21) 3)):=⟨rfl,rfl,rfl,by decide +kernel,rfl,by decide +kernel,by decide +kernel⟩
theorem JT:((["number"]:List Str)++([("self",0),("i",1),("j",2)]:List (Str×Nat)).map (·.1)).Nodup:=by decide +kernel
theorem IW:((["number"]:List Str)++([("self",0),("i",1),("j",2)]:List (Str×Nat)).map (·.1)).Nodup:=by decide +kernel
def tt(fN:C0)(dc:Addr):SV:=
  (cV (dh (v1 oQ (eN ["number"] [("self",0),("i",1),("j",2)] (η (be 3)) (cR 0) (vT (v2 UA (v2 Te (v2 Te (v1 (fC dc "sorts") (be 1)) (be 0)) (be 2)) (v2 Te (v2 Te (v1 (fC dc "sorts") (be 1)) (be 0)) (be 3)))) (be 0))) (cR 5))
  (cV (dh (v1 oQ (eN ["number"] [("self",0),("i",1),("j",2)] (η (be 3)) (cR 0) (vT (v2 U7 (v2 Te (v2 Te (v1 (fC dc "sorts") (be 1)) (be 0)) (be 2)) (v2 Te (v2 Te (v1 (fC dc "sorts") (be 1)) (be 0)) (be 3)))) (be 0))) (cR 6))
  (cV (UR (XO (gA (dL (be 5))) (gA (dL (be 6))))
   (db (vC .non))
   UL)
  (cV (dh (iJ dc "tree_within" fN (be 0) (cQ (be 5) (cQ (v2 jh (be 4) (vC (.int 1))) cU))) (cR 7))
  (cV (UR (vT (v2 jL (be 7) (vC .non)))
   (db (vC .non))
   UL)
  (cV (dh (iJ dc "tree_within" fN (be 0) (cQ (be 6) (cQ (v2 jh (be 4) (vC (.int 1))) cU))) (cR 8))
  (cV (UR (vT (v2 jL (be 8) (vC .non)))
   (db (vC .non))
   UL)
  (db (vL eO (cQ (vC (.str "ask")) (cQ (be 1) (cQ (be 2) (cQ (be 7) (cQ (be 8) cU))))))))))))))
def mT(fN:C0)(dc:Addr):C0:=dF 9 5 (tt fN dc)
theorem N7{fN:C0}{nD k:Nat}{dc:Addr}(F:T2 K "tree_asking" "Search.tree_asking" (gL (top 21) 3) f fd) (kA:Ya P w K mg base T1 nD dc "tree_within" ["self","left","asks"] (TV K fN)) (nT:nD<=k) (iW:Uz K dc "sorts") (j5:mg "tuple"=none):TJ P w K mg base T1 (k+1) f fd ["self","i","j","left","asks"] (TV K (mT fN dc)):=by
 unfold mT tt;exact eg F nn fun cdv A outer s H E hr=>
  (cZ (dJ (i:=5) nn.nd rfl (Or.inl rfl) (xj j5 (iA (own:=["number"]) (cap:=[("self",0),("i",1),("j",2)]) (fK rfl) (uW (cP 3))
   (fun _ _ _ _ _=>(dl (i:=0) JT rfl (Or.inl rfl))) (fun _ _ _ _ _=>(oJ (iN hr (dw (dw (iI iW (cP 1)) (cP 0)) (cP 2)) (dw (dw (iI iW (cP 1)) (cP 0)) (cP 3)))))
   (fun _ _ _ _ _=>(cP 0)))))
  (cZ (dJ (i:=6) nn.nd rfl (Or.inl rfl) (xj j5 (iA (own:=["number"]) (cap:=[("self",0),("i",1),("j",2)]) (fK rfl) (uW (cP 3))
   (fun _ _ _ _ _=>(dl (i:=0) IW rfl (Or.inl rfl))) (fun _ _ _ _ _=>(oJ (mG hr (dw (dw (iI iW (cP 1)) (cP 0)) (cP 2)) (dw (dw (iI iW (cP 1)) (cP 0)) (cP 3)))))
   (fun _ _ _ _ _=>(cP 0)))))
  (cZ (eD (PW.pt (qD (kJ (ft (cP 5))) (pf (kJ (ft (cP 6))))))
   (cX (dt iP))
   eW)
  (cZ (dJ (i:=7) nn.nd rfl (Or.inl rfl) (lV kA (hr.mono nT) (cP 0) (cT (cP 5) (cT (nr (cP 4) cY) cW))))
  (cZ (eD (wa (cP 7) iP)
   (cX (dt iP))
   eW)
  (cZ (dJ (i:=8) nn.nd rfl (Or.inl rfl) (lV kA (hr.mono nT) (cP 0) (cT (cP 6) (cT (nr (cP 4) cY) cW))))
  (cZ (eD (wa (cP 8) iP)
   (cX (dt iP))
   eW)
  (cX (dt (fZ (cT i0 (cT (cP 1) (cT (cP 2) (cT (cP 7) (cT (cP 8) cW)))))))))))))))
theorem mW:TC ["self","left","asks","end","i","j","tree"] ["self","left","asks"] (c9 (gL (top 21) 2)):=⟨rfl,rfl,rfl,by decide +kernel,rfl,by decide +kernel,by decide +kernel⟩
theorem FA:((["number"]:List Str)++([("self",0)]:List (Str×Nat)).map (·.1)).Nodup:=by decide +kernel
def qU(gx:C0)(lw:C0)(gC:D)(dc:Addr):SV:=
  (cV (dh (vL gx (cQ (eN ["number"] [("self",0)] (η (be 1)) (cR 0) da (v2 Te (v1 (fC dc "ends") (be 1)) (be 0))) cU)) (cR 3))
  (cV (UR (vT (v2 U7 (be 3) (vC gC)))
   (db (be 3))
   UL)
  (cV (UR (vT (v2 UA (be 2) (vC (.int 0))))
   (db (vC .non))
   UL)
  (cV (fF (UB (v1 (fC dc "pairs") (be 0))) (eB 2 (c4 (cR 4) (c4 (cR 5) dY)))
   (cV (dh (iJ dc "tree_asking" lw (be 0) (cQ (be 4) (cQ (be 5) (cQ (be 1) (cQ (be 2) cU))))) (cR 6))
   (UR (vT (v2 ln (be 6) (vC .non)))
    (db (be 6))
    UL)))
  (db (vC .non))))))
def oB(gx:C0)(lw:C0)(gC:D)(dc:Addr):C0:=dF 7 3 (qU gx lw gC dc)
theorem IL{gx lw:C0}{nv x5 k:Nat}{gC:D}{VD:V}{VE:Value}{dc:Addr}(F:T2 K "new_tree" "Search.new_tree" (gL (top 21) 2) f fd) (lM:Df P w K mg base nv "common_end" ["ends"] (TV K gx)) (vW:nv<=k) (tz:Ya P w K mg base T1 x5 dc "tree_asking" ["self","i","j","left","asks"] (TV K lw)) (DK:x5<=k) (lr:Uz K dc "ends") (lW:Uz K dc "pairs") (ir:mg "OPEN"=some VE/\RelV VD VE/\∀W,DR K W gC VD):TJ P w K mg base T1 (k+1) f fd ["self","left","asks"] (TV K (oB gx lw gC dc)):=by
 unfold oB qU;exact eg F mW fun cdv A outer s H E hr=>
  (cZ (dJ (i:=3) mW.nd rfl (Or.inl rfl) (dy lM (hr.mono vW) (cT (iA (own:=["number"]) (cap:=[("self",0)]) (fK rfl) (uW (cP 1))
   (fun _ _ _ _ _=>(dl (i:=0) FA rfl (Or.inl rfl))) (fun _ _ _ _ _=>ge)
   (fun _ _ _ _ _=>(dw (iI lr (cP 1)) (cP 0)))) cW)))
  (cZ (eD (mG hr (cP 3) (nV ir.1 ir.2.1 ir.2.2))
   (cX (dt (cP 3)))
   eW)
  (cZ (eD (iN hr (cP 2) cY)
   (cX (dt iP))
   eW)
  (cZ (gB QG rfl (fB (iI lW (cP 0))) (gM (n:=2) (eI (dl (i:=4) mW.nd rfl (Or.inl rfl)) (eI (dl (i:=5) mW.nd rfl (Or.inl rfl)) hJ)))
   (cZ (dJ (i:=6) mW.nd rfl (Or.inl rfl) (lV tz (hr.mono DK) (cP 0) (cT (cP 4) (cT (cP 5) (cT (cP 1) (cT (cP 2) cW))))))
   (cX (eD (Ic (cP 6) iP)
    (cX (dt (cP 6)))
    eW))))
  (cX (dt iP))))))
theorem NY:TC ["self","left","asks"] ["self","left","asks"] (c9 (gL (top 21) 1)):=⟨rfl,rfl,rfl,by decide +kernel,rfl,by decide +kernel,by decide +kernel⟩
def t8(ll:C0)(dc:Addr):SV:=
  (cV (UR (vT (v2 (mF true) (vL eO (cQ (be 1) (cQ (be 2) cU))) (v1 (fC dc "searched") (be 0))))
   (qQ (v1 (fC dc "searched") (be 0)) (vL eO (cQ (be 1) (cQ (be 2) cU))) (iJ dc "new_tree" ll (be 0) (cQ (be 1) (cQ (be 2) cU))))
   UL)
  (db (v2 qH (v1 (fC dc "searched") (be 0)) (vL eO (cQ (be 1) (cQ (be 2) cU))))))
def qm(ll:C0)(dc:Addr):C0:=dF 3 3 (t8 ll dc)
theorem Nj{ll:C0}{AU k:Nat}{dc:Addr}(F:T2 K "tree_within" "Search.tree_within" (gL (top 21) 1) f fd) (vm:Ya P w K mg base T1 AU dc "new_tree" ["self","left","asks"] (TV K ll)) (Lx:AU<=k) (jn:Uz K dc "searched"):TJ P w K mg base T1 (k+1) f fd ["self","left","asks"] (TV K (qm ll dc)):=by
 unfold qm t8;exact eg F NY fun cdv A outer s H E hr=>
  (cZ (eD (Cs hr (fZ (cT (cP 1) (cT (cP 2) cW))) (iI jn (cP 0)))
   (cX (JF hr (iI jn (cP 0)) (fZ (cT (cP 1) (cT (cP 2) cW))) (lV vm (hr.mono Lx) (cP 0) (cT (cP 1) (cT (cP 2) cW)))))
   eW)
  (cX (dt (Fk hr (iI jn (cP 0)) (fZ (cT (cP 1) (cT (cP 2) cW)))))))
theorem n8:TC ["many","sorts","ends","search","every","asks"] ["many","sorts","ends"] (c9 (top 22)):=⟨rfl,rfl,rfl,by decide +kernel,rfl,by decide +kernel,by decide +kernel⟩
def uy(lQ:C0)(fN:C0)(dc:Addr):SV:=
  (cV (dh (qe dc lQ (cQ (be 0) (cQ (be 1) (cQ (be 2) cU)))) (cR 3))
  (cV (dh (v1 nG (v1 dU (be 1))) (cR 4))
  (cV (dh (vC (.int 0)) (cR 5))
  (cV (i9 (vT (v2 jL (iJ dc "tree_within" fN (be 3) (cQ (be 4) (cQ (be 5) cU))) (vC .non)))
   (gZ 5 nO (vC (.int 1))) 1000000)
  (db (vL eO (cQ (be 5) (cQ (iJ dc "tree_within" fN (be 3) (cQ (be 4) (cQ (be 5) cU))) cU))))))))
def pi(lQ:C0)(fN:C0)(dc:Addr):C0:=dF 6 3 (uy lQ fN dc)
theorem Hm{lQ fN:C0}{AG nD k:Nat}{dc:Addr}(F:T2 K "fewest_asks" "fewest_asks" (top 22) f fd) (rG:MkC P w K mg base T1 AG dc "Search" ["self","many","sorts","ends"] (TV K lQ)) (N2:AG+1<=k) (kA:Ya P w K mg base T1 nD dc "tree_within" ["self","left","asks"] (TV K fN)) (nT:nD<=k) (dR:mg "len"=none) (j5:mg "tuple"=none) (eP:mg "range"=none):TJ P w K mg base T1 (k+1) f fd ["many","sorts","ends"] (TV K (pi lQ fN dc)):=by
 unfold pi uy;exact eg F n8 fun cdv A outer s H E hr=>
  (cZ (dJ (i:=3) n8.nd rfl (Or.inl rfl) (Ea rG (hr.mono N2) (cT (cP 0) (cT (cP 1) (cT (cP 2) cW)))))
  (cZ (dJ (i:=4) n8.nd rfl (Or.inl rfl) (G9 j5 eP (gw dR (cP 1))))
  (cZ (dJ (i:=5) n8.nd rfl (Or.inl rfl) cY)
  (cZ (sj 1000000 QG (wa (lV kA (hr.mono nT) (cP 3) (cT (cP 4) (cT (cP 5) cW))) iP)
   (cX (Bd (i:=5) n8.nd rfl (Or.inl rfl) cY)))
  (cX (dt (fZ (cT (cP 5) (cT (lV kA (hr.mono nT) (cP 3) (cT (cP 4) (cT (cP 5) cW))) cW)))))))))
theorem zH:TC ["many","most","sorts"] ["many","most"] (c9 (top 25)):=⟨rfl,rfl,rfl,by decide +kernel,rfl,by decide +kernel,by decide +kernel⟩
theorem Ik:((["sort"]:List Str)++([]:List (Str×Nat)).map (·.1)).Nodup:=by decide +kernel
def tH(gm:C0)(lU:C0)(fj:FX):SX:=
  (fg (ui (VJ fj (VL (cQ (be 0) (cQ (be 1) cU)))) (cR 2))
  (Vc (db (vL lU (cQ (be 0) (cQ (be 2) (cQ (eN ["sort"] [] (UB (be 2)) (cR 0) da (vL gm (cQ (be 0) cU))) cU)))))))
def p5(gm:C0)(lU:C0)(fj:FX):FX:=fA 3 2 (tH gm lU fj)
theorem EH{gm lU:C0}{fj:FX}{nF y7 jG k:Nat}(F:T2 K "fewest_of" "fewest_of" (top 25) f fd) (lj:Df P w K mg base nF "half_ends" ["kinds"] (TV K gm)) (u8:nF<=k) (ua:Df P w K mg base y7 "fewest_asks" ["many","sorts","ends"] (TV K lU)) (Jm:y7<=k) (jd:WW P w K mg base jG "all_sorts" ["many","most"] (VB K fj)) (mL:jG<=k):TJ P w K mg base (U5 P w) (k+1) f fd ["many","most"] (VB K (p5 gm lU fj)):=by
 unfold p5 tH;exact iU F zH fun cdv A outer s H E hr=>
  (jk (Jf (i:=2) zH.nd rfl (Or.inl rfl) (jB jd (hr.mono mL) (jb (cT (cP 0) (cT (cP 1) cW)))))
  (vq (cX (dt (dy ua (hr.mono Jm) (cT (cP 0) (cT (cP 2) (cT (iA (own:=["sort"]) (cap:=[]) (fK rfl) (fB (cP 2))
   (fun _ _ _ _ _=>(dl (i:=0) Ik rfl (Or.inl rfl))) (fun _ _ _ _ _=>ge)
   (fun _ _ _ _ _=>(dy lj (hr.mono u8) (cT (cP 0) cW)))) cW))))))))
theorem Db:TC ["many"] ["many"] (c9 (top 26)):=⟨rfl,rfl,rfl,by decide +kernel,rfl,by decide +kernel,by decide +kernel⟩
def t9(mB:FX)(l8:FX)(lR:D):SX:=
  (fg (kK (VJ mB (VL (cQ (be 0) (cQ (vC (.int 1)) (cQ (vC lR) cU))))))
  (jD (VJ l8 (VL (cQ (be 0) (cQ (be 0) cU))))))
def oi(mB:FX)(l8:FX)(lR:D):FX:=fA 1 1 (t9 mB l8 lR)
theorem FS{mB l8:FX}{xA AM k:Nat}{lR:D}{UM:V}{UN:Value}(F:T2 K "fewest" "fewest" (top 26) f fd) (tK:WW P w K mg base xA "check_many" ["many","least","greatest"] (VB K mB)) (JJ:xA<=k) (tR:WW P w K mg base AM "fewest_of" ["many","most"] (VB K l8)) (Ci:AM<=k) (mP:mg "MOST_SEARCHED"=some UN/\RelV UM UN/\∀W,DR K W lR UM):TJ P w K mg base (U5 P w) (k+1) f fd ["many"] (VB K (oi mB l8 lR)):=by
 unfold oi t9;exact iU F Db fun cdv A outer s H E hr=>
  (jk (u5 (jB tK (hr.mono JJ) (jb (cT (cP 0) (cT cY (cT (nV mP.1 mP.2.1 mP.2.2) cW))))))
  (gf (v8 (jB tR (hr.mono Ci) (jb (cT (cP 0) (cT (cP 0) cW)))))))
theorem xn:TC ["kinds","asks","i","j","alike"] ["kinds","asks","i","j"] (c9 (top 19)):=⟨rfl,rfl,rfl,by decide +kernel,rfl,by decide +kernel,by decide +kernel⟩
def sO:SV:=
  (cV (dh (v2 UA (v2 Te (be 0) (be 2)) (v2 Te (be 0) (be 3))) (cR 4))
  (cV (fz (fV fq (be 1) (vL eO (cQ (be 2) (cQ (be 3) (cQ (be 4) cU))))))
  (db (be 4))))
def gp:C0:=dF 5 4 (sO)
theorem Fu{k:Nat}(F:T2 K "ask" "ask" (top 19) f fd):TJ P w K mg base T1 (k+1) f fd ["kinds","asks","i","j"] (TV K (gp)):=by
 unfold gp sO;exact eg F xn fun cdv A outer s H E hr=>
  (cZ (dJ (i:=4) xn.nd rfl (Or.inl rfl) (nE hr (dw (cP 0) (cP 2)) (dw (cP 0) (cP 3))))
  (cZ (gQ (lG (cP 1) (fZ (cT (cP 2) (cT (cP 3) (cT (cP 4) cW))))))
  (cX (dt (cP 4)))))
theorem KP:TC ["asks","thing","is_found"] ["asks","thing","is_found"] (c9 (top 37)):=⟨rfl,rfl,rfl,by decide +kernel,rfl,by decide +kernel,by decide +kernel⟩
def uo:SV:=
  (db (vL eO (cQ (be 0) (cQ (Wa (dL (be 2)) (vL eO (cQ (vC (.str "one")) (cQ (be 1) cU))) (vL eO (cQ (vC (.str "none")) cU))) cU))))
def mq:C0:=dF 3 3 (uo)
theorem Pn{k:Nat}(F:T2 K "told" "told" (top 37) f fd):TJ P w K mg base T1 (k+1) f fd ["asks","thing","is_found"] (TV K (mq)):=by
 unfold mq uo;exact eg F KP fun cdv A outer s H E hr=>
  (cX (dt (fZ (cT (cP 0) (cT (uY (ft (cP 2)) (fZ (cT i0 (cT (cP 1) cW))) (fZ (cT i0 cW))) cW)))))
theorem l7:TC ["kinds","asks","taken","count","thing"] ["kinds","asks"] (c9 (top 38)):=⟨rfl,rfl,rfl,by decide +kernel,rfl,by decide +kernel,by decide +kernel⟩
def sF(eG:C0):SV:=
  (cV (sY 2 3 (vC (.int 0)))
  (cV (fF (WG (v1 dU (be 0))) (cR 4)
   (UR (vT (v2 UA (be 3) (vC (.int 0))))
    (lA 2 3 (cQ (be 4) (cQ (vC (.int 1)) cU)))
    (UR (dL (vL eG (cQ (be 0) (cQ (be 1) (cQ (be 2) (cQ (be 4) cU))))))
     (gZ 3 nO (vC (.int 1)))
     (gZ 3 jh (vC (.int 1))))))
  (db (be 2))))
def mX(eG:C0):C0:=dF 5 2 (sF eG)
theorem Lr{eG:C0}{gP k:Nat}(F:T2 K "taken_last" "taken_last" (top 38) f fd) (gH:Df P w K mg base gP "ask" ["kinds","asks","i","j"] (TV K eG)) (j4:gP<=k) (dR:mg "len"=none) (eP:mg "range"=none):TJ P w K mg base T1 (k+1) f fd ["kinds","asks"] (TV K (mX eG)):=by
 unfold mX sF;exact eg F l7 fun cdv A outer s H E hr=>
  (cZ (Hf (i:=2) (j:=3) l7.nd rfl rfl (Or.inl rfl) (Or.inl rfl) cY)
  (cZ (gB QG rfl (mV eP (gw dR (cP 0))) (dl (i:=4) l7.nd rfl (Or.inl rfl))
   (cX (eD (iN hr (cP 3) cY)
    (cX (wY (i:=2) (j:=3) l7.nd rfl rfl (by decide) (cT (cP 4) (cT cY cW))))
    (cX (eD (ft (dy gH (hr.mono j4) (cT (cP 0) (cT (cP 1) (cT (cP 2) (cT (cP 4) cW))))))
     (cX (Bd (i:=3) l7.nd rfl (Or.inl rfl) cY))
     (cX (Ew (i:=3) l7.nd rfl (Or.inl rfl) cY)))))))
  (cX (dt (cP 2)))))
theorem rE:TC ["many","known","alike","unlike"] ["many","known"] (c9 (top 39)):=⟨rfl,rfl,rfl,by decide +kernel,rfl,by decide +kernel,by decide +kernel⟩
def m6:SV:=
  (cV (dh (v1 mo (be 1)) (cR 2))
  (cV (dh (v2 jh (v1 pA (be 1)) (be 2)) (cR 3))
  (db (Xm (v2 Vu (v2 gg (vC (.int 2)) (be 2)) (be 0)) (v2 WV (v2 gg (vC (.int 2)) (v2 jh (be 0) (be 3))) (be 0))))))
def jE:C0:=dF 4 2 (m6)
theorem Ox{k:Nat}(F:T2 K "is_settled" "is_settled" (top 39) f fd) (ld:mg "sum"=none) (dR:mg "len"=none):TJ P w K mg base T1 (k+1) f fd ["many","known"] (TV K (jE)):=by
 unfold jE m6;exact eg F rE fun cdv A outer s H E hr=>
  (cZ (dJ (i:=2) rE.nd rfl (Or.inl rfl) (y0 ld (cP 1)))
  (cZ (dJ (i:=3) rE.nd rfl (Or.inl rfl) (nr (DB dR (cP 1)) (cP 2)))
  (cX (dt (tS (rT (kR cY (cP 2)) (cP 0)) (va (wz (kR cY (nr (cP 0) (cP 3))) (cP 0))))))))
theorem wc:TC ["kinds","asks","taken","known","thing"] ["kinds","asks","taken"] (c9 (top 40)):=⟨rfl,rfl,rfl,by decide +kernel,rfl,by decide +kernel,by decide +kernel⟩
theorem rf:((["i","j","alike"]:List Str)++([("taken",2)]:List (Str×Nat)).map (·.1)).Nodup:=by decide +kernel
def uJ(mf:C0)(eG:C0):SV:=
  (cV (dh (ql (be 2) (vC (.bl true))) (cR 3))
  (cV (fz (oK (be 3) (pc ["i","j","alike"] [("taken",2)] (UB (be 1)) (eB 3 (c4 (cR 0) (c4 (cR 1) (c4 (cR 2) dY)))) (vT (v2 UA (be 0) (be 3))) (be 1) (be 2))))
  (cV (fF (WG (v1 dU (be 0))) (cR 4)
   (cV (UR (dL (vL mf (cQ (v1 dU (be 0)) (cQ (be 3) cU))))
    ϊ
    UL)
   (UR (vT (v2 (nA true) (be 4) (be 3)))
    (oq (be 3) (be 4) (vL eG (cQ (be 0) (cQ (be 1) (cQ (be 2) (cQ (be 4) cU))))))
    UL)))
  (db (v2 Vu (v2 gg (vC (.int 2)) (v1 mo (be 3))) (v1 dU (be 0)))))))
def nJ(mf:C0)(eG:C0):C0:=dF 5 3 (uJ mf eG)
theorem PL{mf eG:C0}{By gP k:Nat}(F:T2 K "more_than_half_alike" "more_than_half_alike" (top 40) f fd) (rR:Df P w K mg base By "is_settled" ["many","known"] (TV K mf)) (E9:By<=k) (gH:Df P w K mg base gP "ask" ["kinds","asks","i","j"] (TV K eG)) (j4:gP<=k) (dR:mg "len"=none) (eP:mg "range"=none) (ld:mg "sum"=none):TJ P w K mg base T1 (k+1) f fd ["kinds","asks","taken"] (TV K (nJ mf eG)):=by
 unfold nJ uJ;exact eg F wc fun cdv A outer s H E hr=>
  (cZ (dJ (i:=3) wc.nd rfl (Or.inl rfl) (Gn (cP 2) gF))
  (cZ (gQ (D1 (cP 3) (O7 (own:=["i","j","alike"]) (cap:=[("taken",2)]) (fK rfl) (fB (cP 1))
   (fun _ _ _ _ _=>(gM (n:=3) (eI (dl (i:=0) rf rfl (Or.inl rfl)) (eI (dl (i:=1) rf rfl (Or.inl rfl)) (eI (dl (i:=2) rf rfl (Or.inl rfl)) hJ))))) (fun _ _ _ _ _=>(oJ (iN hr (cP 0) (cP 3))))
   (fun _ _ _ _ _=>(cP 1)) (fun _ _ _ _ _=>(cP 2)))))
  (cZ (gB QG rfl (mV eP (gw dR (cP 0))) (dl (i:=4) wc.nd rfl (Or.inl rfl))
   (cZ (eD (ft (dy rR (hr.mono E9) (cT (gw dR (cP 0)) (cT (cP 3) cW))))
    (cX Iw)
    eW)
   (cX (eD (LJ hr (cP 4) (cP 3))
    (cX (Hz hr (cP 3) (cP 4) (dy gH (hr.mono j4) (cT (cP 0) (cT (cP 1) (cT (cP 2) (cT (cP 4) cW)))))))
    eW))))
  (cX (dt (rT (kR cY (y0 ld (cP 3))) (gw dR (cP 0))))))))
theorem uj:TC ["kinds","asks","taken"] ["kinds"] (c9 (top 41)):=⟨rfl,rfl,rfl,by decide +kernel,rfl,by decide +kernel,by decide +kernel⟩
def ut(fR:C0)(mw:C0)(k8:C0):SV:=
  (cV (dh (vL fS cU) (cR 1))
  (cV (UR (gA (dL (be 0)))
   (db (vL fR (cQ (be 1) (cQ (vC (.int 0)) (cQ (vC (.bl false)) cU)))))
   UL)
  (cV (dh (vL mw (cQ (be 0) (cQ (be 1) cU))) (cR 2))
  (db (vL fR (cQ (be 1) (cQ (be 2) (cQ (vL k8 (cQ (be 0) (cQ (be 1) (cQ (be 2) cU)))) cU))))))))
def pO(fR:C0)(mw:C0)(k8:C0):C0:=dF 3 1 (ut fR mw k8)
theorem K4{fR mw k8:C0}{m7 zJ zj k:Nat}(F:T2 K "in_a_row" "in_a_row" (top 41) f fd) (jA:Df P w K mg base m7 "told" ["asks","thing","is_found"] (TV K fR)) (oa:m7<=k) (vR:Df P w K mg base zJ "taken_last" ["kinds","asks"] (TV K mw)) (Nw:zJ<=k) (tO:Df P w K mg base zj "more_than_half_alike" ["kinds","asks","taken"] (TV K k8)) (OE:zj<=k):TJ P w K mg base T1 (k+1) f fd ["kinds"] (TV K (pO fR mw k8)):=by
 unfold pO ut;exact eg F uj fun cdv A outer s H E hr=>
  (cZ (dJ (i:=1) uj.nd rfl (Or.inl rfl) (lY cW))
  (cZ (eD (kJ (ft (cP 0)))
   (cX (dt (dy jA (hr.mono oa) (cT (cP 1) (cT cY (cT gF cW))))))
   eW)
  (cZ (dJ (i:=2) uj.nd rfl (Or.inl rfl) (dy vR (hr.mono Nw) (cT (cP 0) (cT (cP 1) cW))))
  (cX (dt (dy jA (hr.mono oa) (cT (cP 1) (cT (cP 2) (cT (dy tO (hr.mono OE) (cT (cP 0) (cT (cP 1) (cT (cP 2) cW)))) cW)))))))))
theorem vc:TC ["kinds","asks","row","heap","thing"] ["kinds","asks"] (c9 (top 42)):=⟨rfl,rfl,rfl,by decide +kernel,rfl,by decide +kernel,by decide +kernel⟩
def rh(eG:C0):SV:=
  (cV (lA 2 3 (cQ (vL fS (cQ (vC (.int 0)) cU)) (cQ (vL fS cU) cU)))
  (cV (fF (js (vC (.int 1)) (v1 dU (be 0))) (cR 4)
   (UR (dL (vL eG (cQ (be 0) (cQ (be 1) (cQ (v2 Te (be 2) (v1 gR (vC (.int 1)))) (cQ (be 4) cU))))))
    (fz (fV fq (be 3) (be 4)))
    (cV (fz (fV fq (be 2) (be 4)))
    (UR (dL (be 3))
     (fz (fV fq (be 2) (kg jc (be 3))))
     UL))))
  (db (vL eO (cQ (be 2) (cQ (be 3) cU))))))
def mE(eG:C0):C0:=dF 5 2 (rh eG)
theorem GX{eG:C0}{gP k:Nat}(F:T2 K "laid" "laid" (top 42) f fd) (gH:Df P w K mg base gP "ask" ["kinds","asks","i","j"] (TV K eG)) (j4:gP<=k) (dR:mg "len"=none) (eP:mg "range"=none):TJ P w K mg base T1 (k+1) f fd ["kinds","asks"] (TV K (mE eG)):=by
 unfold mE rh;exact eg F vc fun cdv A outer s H E hr=>
  (cZ (wY (i:=2) (j:=3) vc.nd rfl rfl (by decide) (cT (lY (cT cY cW)) (cT (lY cW) cW)))
  (cZ (gB QG rfl (BA eP cY (gw dR (cP 0))) (dl (i:=4) vc.nd rfl (Or.inl rfl))
   (cX (eD (ft (dy gH (hr.mono j4) (cT (cP 0) (cT (cP 1) (cT (dw (cP 2) (p8 cY)) (cT (cP 4) cW))))))
    (cX (gQ (lG (cP 3) (cP 4))))
    (cZ (gQ (lG (cP 2) (cP 4)))
    (cX (eD (ft (cP 3))
     (cX (gQ (lG (cP 2) (qg (cP 3)))))
     eW))))))
  (cX (dt (fZ (cT (cP 2) (cT (cP 3) cW)))))))
theorem tM:TC ["kinds","asks","row","heap","t","last"] ["kinds","asks","row","heap"] (c9 (top 43)):=⟨rfl,rfl,rfl,by decide +kernel,rfl,by decide +kernel,by decide +kernel⟩
def uX(eG:C0):SV:=
  (cV (dh (v2 Te (be 2) (v1 gR (vC (.int 1)))) (cR 4))
  (cV (i9 (dL (be 2))
   (cV (dh (kg jc (be 2)) (cR 5))
   (UR (XO (vT (v2 UA (be 5) (be 4))) (dL (vL eG (cQ (be 0) (cQ (be 1) (cQ (be 4) (cQ (be 5) cU)))))))
    (UR (dL (be 2))
     (fz (kg jc (be 2)))
     (fz (fV fq (be 3) (be 5))))
    (UR (dL (be 3))
     (fz (kg jc (be 3)))
     (db (vC (.bl false)))))) 1000000)
  (db (v2 Vu (v1 dU (be 3)) (vC (.int 0))))))
def nz(eG:C0):C0:=dF 6 4 (uX eG)
theorem Lm{eG:C0}{gP k:Nat}(F:T2 K "is_left" "is_left" (top 43) f fd) (gH:Df P w K mg base gP "ask" ["kinds","asks","i","j"] (TV K eG)) (j4:gP<=k) (dR:mg "len"=none):TJ P w K mg base T1 (k+1) f fd ["kinds","asks","row","heap"] (TV K (nz eG)):=by
 unfold nz uX;exact eg F tM fun cdv A outer s H E hr=>
  (cZ (dJ (i:=4) tM.nd rfl (Or.inl rfl) (dw (cP 2) (p8 cY)))
  (cZ (sj 1000000 QG (ft (cP 2))
   (cZ (dJ (i:=5) tM.nd rfl (Or.inl rfl) (qg (cP 2)))
   (cX (eD (PW.pt (qD (iN hr (cP 5) (cP 4)) (pf (ft (dy gH (hr.mono j4) (cT (cP 0) (cT (cP 1) (cT (cP 4) (cT (cP 5) cW)))))))))
    (cX (eD (ft (cP 2))
     (cX (gQ (qg (cP 2))))
     (cX (gQ (lG (cP 3) (cP 5))))))
    (cX (eD (ft (cP 3))
     (cX (gQ (qg (cP 3))))
     (cX (dt gF))))))))
  (cX (dt (rT (gw dR (cP 3)) cY)))))
theorem nW:TC ["kinds","asks","row","heap","t"] ["kinds"] (c9 (top 44)):=⟨rfl,rfl,rfl,by decide +kernel,rfl,by decide +kernel,by decide +kernel⟩
def sL(fR:C0)(k6:C0)(l5:C0):SV:=
  (cV (dh (vL fS cU) (cR 1))
  (cV (UR (gA (dL (be 0)))
   (db (vL fR (cQ (be 1) (cQ (vC (.int 0)) (cQ (vC (.bl false)) cU)))))
   UL)
  (cV (dh (vL k6 (cQ (be 0) (cQ (be 1) cU))) (eB 2 (c4 (cR 2) (c4 (cR 3) dY))))
  (cV (dh (v2 Te (be 2) (v1 gR (vC (.int 1)))) (cR 4))
  (db (vL fR (cQ (be 1) (cQ (be 4) (cQ (vL l5 (cQ (be 0) (cQ (be 1) (cQ (be 2) (cQ (be 3) cU))))) cU)))))))))
def qI(fR:C0)(k6:C0)(l5:C0):C0:=dF 5 1 (sL fR k6 l5)
theorem Gh{fR k6 l5:C0}{m7 wW wE k:Nat}(F:T2 K "in_rows" "in_rows" (top 44) f fd) (jA:Df P w K mg base m7 "told" ["asks","thing","is_found"] (TV K fR)) (oa:m7<=k) (tG:Df P w K mg base wW "laid" ["kinds","asks"] (TV K k6)) (Mj:wW<=k) (tT:Df P w K mg base wE "is_left" ["kinds","asks","row","heap"] (TV K l5)) (Kv:wE<=k):TJ P w K mg base T1 (k+1) f fd ["kinds"] (TV K (qI fR k6 l5)):=by
 unfold qI sL;exact eg F nW fun cdv A outer s H E hr=>
  (cZ (dJ (i:=1) nW.nd rfl (Or.inl rfl) (lY cW))
  (cZ (eD (kJ (ft (cP 0)))
   (cX (dt (dy jA (hr.mono oa) (cT (cP 1) (cT cY (cT gF cW))))))
   eW)
  (cZ (om (dy tG (hr.mono Mj) (cT (cP 0) (cT (cP 1) cW))) (gM (n:=2) (eI (dl (i:=2) nW.nd rfl (Or.inl rfl)) (eI (dl (i:=3) nW.nd rfl (Or.inl rfl)) hJ))))
  (cZ (dJ (i:=4) nW.nd rfl (Or.inl rfl) (dw (cP 2) (p8 cY)))
  (cX (dt (dy jA (hr.mono oa) (cT (cP 1) (cT (cP 4) (cT (dy tT (hr.mono Kv) (cT (cP 0) (cT (cP 1) (cT (cP 2) (cT (cP 3) cW))))) cW))))))))))
end
def dA(a:An):D:=.tup [.int (a.1:Int),.int (a.2.1:Int),.bl a.2.2]
def Ls(L:M)(d:D)(ds:List D):Prop:=dC L d=some ds/\∃c,VP L d=some (ds,c)/\de c L/\∀Z5,Gr L Z5->de c Z5
def Ls.lst:Ls L (.lst ds) ds:=⟨rfl,none,rfl,trivial,fun _ _=>trivial⟩
def Ls.ref(h:L[k]?=some (some (.lst ds))):Ls L (.ref k) ds:=⟨h9 h,_,qN h,h,fun _ g=>g.get h⟩
def pN(h:Ls L d ds):(∃k,d=.ref k/\L[k]?=some (some (.lst ds)))\/(d=.lst ds)\/d=.scr ds:=by
 obtain⟨h1,_⟩:=h;cases d with
 |lst xs=>cases h1;exact .inr (.inl rfl)
 |scr xs=>cases h1;exact .inr (.inr rfl)
 |ref k=>
  simp only[dC] at h1;split at h1
  .rename_i xs hk;cases h1;exact .inl ⟨k,rfl,hk⟩
  .cases h1
 |_=>cases h1
def Ls.gr(h:Ls L d ds)(g:Gr L Z5):Ls Z5 d ds:=by
 rcases pN h with⟨k,rfl,hk⟩|rfl|rfl
 .exact .ref (g.get hk)
 .exact .lst
 .exact⟨rfl,none,rfl,trivial,fun _ _=>trivial⟩
theorem VG(Pv:G->M->Prop):∀(its:List D) (B:G) (L:M),Pv B L->
  (∀d∈its,∀B L,Pv B L->∃ZY Z4 ZW Z3,g d B L=some (ZY,Z4)/\body ZY Z4=some (.nx,ZW,Z3)/\de c Z3/\Pv ZW Z3)->∃ZX Z5,ja c g body its B L=some (.nx,ZX,Z5)/\Pv ZX Z5
 | [],B,L,h,_=>⟨B,L,rfl,h⟩
 |d::r,B,L,h,hs=>by
  obtain⟨ZY,Z4,ZW,Z3,h1,h2,h3,h4⟩:=hs d (by simp) B L h;obtain⟨ZX,Z5,h5,h6⟩:=VG Pv r ZW Z3 h4 fun d hd=>hs d (by simp[hd]);refine⟨ZX,Z5,?_,h6⟩;simp only[ja,h1,bs,h2];rw[fY h3,h5]
def XA(n:Nat)(as:List An):Prop:=∀a∈as,a.1<n/\a.2.1<n/\a.1≠a.2.1
def XA.inN(h:XA n as):Τ n as:=fun a ha=>⟨(h a ha).1,(h a ha).2.1⟩
def L9(hl:Ls L d (as.map dA))(hv:XA n as):qt C [.int (n:Int),d] L=some (.ok .non,L):=by
 obtain⟨h1,c,h2,h3,h4⟩:=hl;have main:=VG (c:=c) (g:=(eB 3 (c4 (cR 2) (c4 (cR 3) (c4 (cR 4) dY))))) (body:=(fg (ga (WD (gA (iK (vT (ij WV Vq (vC (.int 0)) (be 2) (be 0))) (vT (ij WV Vq (vC (.int 0)) (be 3) (be 0))))))
    (iQ C ((be 2)::((be 3)::((be 0)::[]))))
    (Vc UL))
   (ga (WD (vT (v2 UA (be 2) (be 3))))
    (iQ C ((be 2)::[]))
    (Vc UL))))
  (fun B Z5=>Z5=L/\∃o2 o3 o4,B=[some (.int (n:Int)),some d,o2,o3,o4]) (as.map dA) [some (.int (n:Int)),some d,none,none,none] L ⟨rfl,_,_,_,rfl⟩ ?_
 .obtain⟨ZX,Z5,e,rfl,o2,o3,o4,rfl⟩:=main;refine AD (ZY:=[some (.int (n:Int)),some d,o2,o3,o4]) rfl ?_;unfold vt;show fg _ _ [some (.int (n:Int)),some d,none,none,none] Z5=_;have t:vT (v2 Vq (be 0) (vC (.int 0))) [some (.int (n:Int)),some d,none,none,none] Z5=some (false,Z5):=by
   have:¬((n:Int)<0):=by omega
   simp[Vq,Vt,this]
  rw[nh (ZY:=[some (.int (n:Int)),some d,none,none,none]) (Z4:=Z5) ((nj (pb t)).trans (kz (o:=.nx) rfl))];have hi:UB (be 1) [some (.int (n:Int)),some d,none,none,none] Z5=some ((as.map dA,c),Z5):=by
   simp[h2]
  show(UB (be 1) _ Z5).bind _=_;rw[hi,bs];exact e
 .rintro x hx B Z5 ⟨rfl,o2,o3,o4,rfl⟩;obtain⟨a,ha,rfl⟩:=Qi.mp hx;obtain⟨q1,q2,q3⟩:=hv a ha;refine⟨[some (.int (n:Int)),some d,some (.int (a.1:Int)),some (.int (a.2.1:Int)),some (.bl a.2.2)],Z5,[some (.int (n:Int)),some d,some (.int (a.1:Int)),some (.int (a.2.1:Int)),some (.bl a.2.2)],Z5,rfl,?_,h3,rfl,some (.int (a.1:Int)),some (.int (a.2.1:Int)),some (.bl a.2.2),rfl⟩;have t1:(gA (iK (vT (ij WV Vq (vC (.int 0)) (be 2) (be 0))) (vT (ij WV Vq (vC (.int 0)) (be 3) (be 0))))) [some (.int (n:Int)),some d,some (.int (a.1:Int)),some (.int (a.2.1:Int)),some (.bl a.2.2)] Z5=some (false,Z5):=by
   have b1:(0:Int)<=(a.1:Int):=by omega
   have b2:(0:Int)<=(a.2.1:Int):=by omega
   have b3:(a.1:Int)<(n:Int):=by omega
   have b4:(a.2.1:Int)<(n:Int):=by omega
   simp[WV,Vq,Vt,b1,b2,b3,b4]
  have t2:vT (v2 UA (be 2) (be 3)) [some (.int (n:Int)),some d,some (.int (a.1:Int)),some (.int (a.2.1:Int)),some (.bl a.2.2)] Z5=some (false,Z5):=by
   have:¬((a.1:Int)=(a.2.1:Int)):=by omega
   simp[UA,VZ,this]
  rw[nh (ZY:=[some (.int (n:Int)),some d,some (.int (a.1:Int)),some (.int (a.2.1:Int)),some (.bl a.2.2)]) (Z4:=Z5) ((nj (pb t1)).trans (kz (o:=.nx) rfl))];exact(nj (pb t2)).trans (kz (o:=.nx) rfl)
def UY(hs:List (Nat×Nat)):List (Key×D):=hs.map fun p=>(Sum.inl (p.1:Int),D.int (p.2:Int))
def uS(hs:List (Nat×Nat))(x:Nat):eY (UY hs) (Sum.inl (x:Int))=(dj hs x).map fun r=>D.int (r:Int):=by
 unfold eY dj UY;induction hs with
 |nil=>rfl
 |cons p r ih=>
  rw[Qc,Ql,Ql];by_cases z:p.1=x
  .subst z;simp
  .have z':¬((Sum.inl (p.1:Int):Key)=Sum.inl (x:Int)):=fun e=>z (by injection e with e;omega);simp only[z,z',R3];exact ih
def yS(v:D)(h:eY kvs k=none):eM kvs k v=kvs++[(k,v)]:=by
 unfold eM;rw[if_neg];intro hc;obtain⟨kv,hm,he⟩:=Rb.mp hc;unfold eY at h;rw[Sk,Rj] at h;exact h kv hm he
def xB{hs:List (Nat×Nat)}{k:Nat}(v:Nat)(h:k∉hs.map (·.1)):eM (UY hs) (Sum.inl (k:Int)) (.int (v:Int))=UY (hs++[(k,v)]):=by
 rw[yS _ (by rw[uS,U1.mpr h];rfl)];simp[UY]
theorem yt{o w:Nat}{n:Nat}:∀(hs done:List (Nat×Nat)) (o1 o2:Option D) (L:M),L[n]?=some (some (.dK (UY (eS done o w))))->((done++hs).map (·.1)).Nodup->(done++hs).length<=100000->
  fr n none (eB 2 (c4 (cR 0) (c4 (cR 1) dY))) da (be 0) (Wa (vT (v2 UA (be 1) (be 2))) (be 3) (be 1)) ((UY hs).map fun kv=>.tup [n9 kv.1,kv.2]) [o1,o2,some (.int (o:Int)),some (.int (w:Int))] L
   =some (L.set n (some (.dK (UY (eS (done++hs) o w)))))
 | [],done,o1,o2,L,h,_,_=>by
  simp only[UY,RP,fr,QU];congr 1;apply SR;intro j;by_cases e:j=n
  .subst e;rw[h,eU h];rfl
  .rw[eR e]
 |p::hs,done,o1,o2,L,h,hn,hl=>by
  have hp:p.1∉(eS done o w).map (·.1):=by
   rw[Bq];rw[QV,Rr] at hn;exact fun hm=>hn.2.2 p.1 hm p.1 (by simp) rfl
  have e1:eS done o w++[(p.1,if p.2=o then w else p.2)]=eS (done++[p]) o w:=by simp[eS]
  have hset:=eU (y:=some (Z7.dK (UY (eS (done++[p]) o w)))) h;have ih:=yt (n:=n) (o:=o) (w:=w) hs (done++[p]) (some (.int (p.1:Int))) (some (.int (p.2:Int))) (L.set n (some (.dK (UY (eS (done++[p]) o w))))) hset (by simpa using hn) (by simpa using hl);have hg:eB 2 (c4 (cR 0) (c4 (cR 1) dY)) (.tup [.int (p.1:Int),.int (p.2:Int)]) [o1,o2,some (.int (o:Int)),some (.int (w:Int))] L=some ([some (.int (p.1:Int)),some (.int (p.2:Int)),some (.int (o:Int)),some (.int (w:Int))],L):=rfl;have hv:Wa (vT (v2 UA (be 1) (be 2))) (be 3) (be 1) [some (.int (p.1:Int)),some (.int (p.2:Int)),some (.int (o:Int)),some (.int (w:Int))] L=some (.int ((if p.2=o then w else p.2:Nat):Int),L):=by
   by_cases z:p.2=o
   .subst z;simp[UA,VZ]
   .have z':¬((p.2:Int)=(o:Int)):=by omega
    simp[UA,VZ,z,z']
  have hk:be 0 [some (.int (p.1:Int)),some (.int (p.2:Int)),some (.int (o:Int)),some (.int (w:Int))] L=some (.int (p.1:Int),L):=rfl;show fr n none _ da (be 0) _ (.tup [.int (p.1:Int),.int (p.2:Int)]::(UY hs).map fun kv=>.tup [n9 kv.1,kv.2]) _ L=_;simp only[fr,hg,bs];show(da _ _).bind _=_;simp only[da,bs,if_true,hk,hv,fu,dD,h];rw[fY ⟨by simp[UY,eS];simp at hl;omega,trivial⟩,xB _ hp,e1];rw[ih];congr 1;rw[S3,Sg];rfl
theorem JP{h o w:Nat}{hs:List (Nat×Nat)}{L:M}(hh:L[h]?=some (some (.dK (UY hs))))(hn:WK hs)(hl:hs.length<=100000):
  je [.ref h,.int (o:Int),.int (w:Int)] L=some (.ref L.length,L.set h none++[some (.dK (UY (eS hs o w)))]):=by
 have hlen:(L.set h none).length=L.length:=RF ..;have h0:(L.set h none++[some (Z7.dK [])])[L.length]?=some (some (.dK (UY (eS [] o w)))):=by
  rw[QD (by omega),hlen];simp[UY,eS]
 have e:=yt (o:=o) (w:=w) (n:=L.length) hs [] none none (L.set h none++[some (.dK [])]) h0 (by simpa[WK] using hn) (by simpa using hl);have hv:oR ["thing","home"] [("old",1),("new",2)] (be 0) (eB 2 (c4 (cR 0) (c4 (cR 1) dY))) da (be 0) (Wa (vT (v2 UA (be 1) (be 2))) (be 3) (be 1)) [some (.ref h),some (.int (o:Int)),some (.int (w:Int))] L=some (.ref L.length,L.set h none++[some (.dK (UY (eS hs o w)))]):=by
  unfold oR;have μ:be 0 [some (.ref h),some (.int (o:Int)),some (.int (w:Int))] L=some (.ref h,L):=rfl;rw[μ,bs];show(dD L (.ref h)).bind _=_;simp only[dD,hh,bs];rw[fY (by simp[UY];omega)];have hc:dM (["thing","home"]:List Str) [("old",1),("new",2)] [some (.ref h),some (.int (o:Int)),some (.int (w:Int))]=[none,none,some (.int (o:Int)),some (.int (w:Int))]:=rfl;rw[hc,e,bs];congr 2;have:(L.set h none++[some (Z7.dK [])]).set L.length (some (.dK (UY (eS ([]++hs) o w))))=L.set h none++[some (.dK (UY (eS hs o w)))]:=by
   rw[List.set_append_right _ _ (by omega),hlen];simp
  exact this
 unfold je wq;rw[ii,if_pos (show [D.ref h,D.int (o:Int),D.int (w:Int)].length=3 from rfl)];show fL (db _ [some (.ref h),some (.int (o:Int)),some (.int (w:Int))] L)=_;rw[kU,hv];rfl
structure On (s:Nat) (L Z5:M):Prop where
 len:Z5.length=L.length
 at_:∀j,j≠s->Z5[j]?=L[j]?
def On.refl:On s L L:=⟨rfl,fun _ _=>rfl⟩
def F1:On s L (L.set s o):=⟨by simp,fun j n=>eR n⟩
def On.trans(h:On s L Z4)(g:On s Z4 Z3):On s L Z3:=⟨g.len.trans h.len,fun j n=>(g.at_ j n).trans (h.at_ j n)⟩
def On.gr(g:Gr L Z4)(h:On s Z4 Z3)(hs:L.length<=s):Gr L Z3:=⟨by rw[h.len];exact g.len,fun j hj=>by rw[h.at_ j (by omega)];exact g.at_ j hj⟩
theorem y2{h x:Nat}{hs:List (Nat×Nat)}{L:M}{B:G}{ek:EV}(h0:B[1]?=some (some (.ref h)))(hk:ek B L=some (.int (x:Int),L))(hh:L[h]?=some (some (.dK (UY hs))))(hl:hs.length<100000):
  ∃d Z5,gD (be 1) ek ek B L=some (d,Z5)/\Z5[h]?=some (some (.dK (UY (dr hs x))))/\On h L Z5:=by
 have hv:be 1 B L=some (.ref h,L):=xS h0;have hd:dD L (.ref h)=some (UY hs):=by simp only[dD,hh]
 have hlen:(UY hs).length<1000000:=by simp[UY];omega
 unfold gD;rw[hv,bs];simp only[hd,bs,hk,fu,if_pos hlen,uS];cases hx:dj hs x with
 |some r=>
  refine⟨.int (r:Int),L,rfl,?_,.refl⟩;unfold dr;rw[hx];exact hh
 |none=>
  refine⟨.int (x:Int),L.set h (some (.dK (eM (UY hs) (Sum.inl (x:Int)) (.int (x:Int))))),rfl,?_,F1⟩;rw[eU hh,xB _ (U1.mp hx)];unfold dr;rw[hx];rfl
def pY(hh:L[h]?=some (some (.dK (UY hs))))(hx:dj hs x=some r):fT (.ref h) (.int (x:Int)) L=some (.int (r:Int),L):=by
 unfold fT;simp only[dD,hh,bs,fu,uS,hx];rfl
abbrev qi:SV:=(cV (fz (gD (be 1) (be 2) (be 2)))
   (cV (fz (gD (be 1) (be 3) (be 3)))
   (UR (dL (be 4))
    (dh (vL je (cQ (be 1) (cQ (v2 fT (be 1) (be 3)) (cQ (v2 fT (be 1) (be 2)) cU)))) (cR 1))
    UL)))
theorem C6(hh:L[h]?=some (some (.dK (UY hs))))(hn:WK hs)(hl:hs.length<10000):
  ∃h' Z5,qi [some d,some (.ref h),some (.int (a.1:Int)),some (.int (a.2.1:Int)),some (.bl a.2.2)] L=some (.nx,[some d,some (.ref h'),some (.int (a.1:Int)),some (.int (a.2.1:Int)),some (.bl a.2.2)],Z5)/\Z5[h']?=some (some (.dK (UY (gE hs a))))/\(∀Zn,Gr Zn L->Zn.length<=h->Gr Zn Z5/\Zn.length<=h'):=by
 obtain⟨d1,Z4,e1,h1,o1⟩:=y2 (x:=a.1) (B:=[some d,some (.ref h),some (.int (a.1:Int)),some (.int (a.2.1:Int)),some (.bl a.2.2)]) (ek:=be 2) rfl rfl hh (by omega);have l1:=qC hs a.1;obtain⟨d2,Z3,e2,h2,o2⟩:=y2 (x:=a.2.1) (B:=[some d,some (.ref h),some (.int (a.1:Int)),some (.int (a.2.1:Int)),some (.bl a.2.2)]) (ek:=be 3) (L:=Z4) rfl rfl h1 (by omega);have l2:=qC (dr hs a.1) a.2.1;have s12:qi [some d,some (.ref h),some (.int (a.1:Int)),some (.int (a.2.1:Int)),some (.bl a.2.2)] L=UR (dL (be 4)) (dh (vL je (cQ (be 1) (cQ (v2 fT (be 1) (be 3)) (cQ (v2 fT (be 1) (be 2)) cU)))) (cR 1)) UL [some d,some (.ref h),some (.int (a.1:Int)),some (.int (a.2.1:Int)),some (.bl a.2.2)] Z3:=by
  unfold qi;rw[fU,qf,e1];show km _ (some (.nx,_,Z4))=_;rw[jl,fU,qf,e2];rfl
 rw[s12];have hb:dL (be 4) [some d,some (.ref h),some (.int (a.1:Int)),some (.int (a.2.1:Int)),some (.bl a.2.2)] Z3=some (a.2.2,Z3):=by simp
 cases hc:a.2.2 with
 |false=>
  rw[hc] at hb;refine⟨h,Z3,by rw[jy,hb];rfl,?_,fun Zn g0 hle=>⟨On.gr g0 (o1.trans o2) hle,hle⟩⟩;rw[h2];unfold gE;simp[hc]
 |true=>
  rw[hc] at hb;have vi:∃r,dj (dr (dr hs a.1) a.2.1) a.1=some r:=by
   rw[jZ];split
   .exact⟨_,rfl⟩
   .rw[jZ,if_pos rfl];exact⟨_,rfl⟩
  have vj:∃r,dj (dr (dr hs a.1) a.2.1) a.2.1=some r:=by rw[jZ,if_pos rfl];exact⟨_,rfl⟩
  obtain⟨ri,hi⟩:=vi;obtain⟨rj,hj⟩:=vj;have nd2:=qA (qA hn a.1) a.2.1;have em:=JP (o:=rj) (w:=ri) h2 nd2 (by omega);refine⟨Z3.length,Z3.set h none++[some (.dK (UY (eS (dr (dr hs a.1) a.2.1) rj ri)))],?_,?_,fun Zn g0 hle=>?_⟩
  .rw[jy,hb];show dh _ _ _ _=_;have gj:=pY h2 hj;have gi:=pY h2 hi;simp[gj,gi,em]
  .have:(Z3.set h none).length=Z3.length:=RF ..;rw[QD (by omega),this];simp[gE,hc,hi,hj]
  .have g2:=On.gr g0 (o1.trans o2) hle;refine⟨⟨by simp;have:=g2.len;omega,fun j ϟ=>?_⟩,g2.len⟩;have hlt:j<Z3.length:=by have:=g2.len;omega
   rw[Qe (by simpa using hlt),eR (by omega)];exact g2.at_ j ϟ
def JS(hl:Ls L d (as.map dA))(hs:as.length<=1000):∃h Z5,lJ je [d] L=some (.ref h,Z5)/\Z5[h]?=some (some (.dK (UY (eQ as))))/\Gr L Z5:=by
 obtain⟨h1,c,h2,h3,h4⟩:=hl;have main:=qK (c:=c) (g:=(eB 3 (c4 (cR 2) (c4 (cR 3) (c4 (cR 4) dY))))) (body:=qi)
  (fun i B Z5=>∃h o2 o3 o4,B=[some d,some (.ref h),o2,o3,o4]/\Z5[h]?=some (some (.dK (UY (eQ (as.take i)))))/\Gr L Z5/\L.length<=h)
  (as.map dA) 0 [some d,some (.ref L.length),none,none,none] (L++[some (.dK [])]) ⟨L.length,_,_,_,rfl,by simp[UY,eQ],T7,P3 _⟩ ?_
 .obtain⟨ZX,Z5,e,h,o2,o3,o4,rfl,hh,g,_⟩:=main;rw[Rv,Qb,Sq] at hh;refine⟨h,Z5,?_,hh,g⟩;unfold lJ u4;rw[ii,if_pos (show [d].length=1 from rfl)];show fL (cV _ _ [some d,none,none,none,none] L)=_;have s1:dh nR (cR 1) [some d,none,none,none,none] L=some (.nx,[some d,some (.ref L.length),none,none,none],L++[some (.dK [])]):=rfl;have hi:UB (be 0) [some d,some (.ref L.length),none,none,none] (L++[some (.dK [])])=some ((as.map dA,c),L++[some (.dK [])]):=by
   have hL:Ls (L++[some (.dK [])]) d (as.map dA):=Ls.gr ⟨h1,c,h2,h3,h4⟩ T7;have:VP (L++[some (.dK [])]) d=some (as.map dA,c):=by
    cases d with
    |ref k=>
     rcases pN (L:=L) (d:=.ref k) ⟨h1,c,h2,h3,h4⟩ with⟨k',e,hk⟩|e|e
     .cases e;rw[qN hk] at h2;rw[qN ((T7 (ex:=[some (.dK [])])).get hk)];exact h2
     .cases e
     .cases e
    |_=>exact h2
   simp[this]
  rw[fU,s1,jl,fU,ke,hi,j7,e];rfl
 .rintro j x B Z4 hx ⟨h,o2,o3,o4,rfl,hh,g,hle⟩;rw[Rv] at hh;rw[Qm] at hx;cases ha:as[j]? with
  |none=>rw[ha] at hx;cases hx
  |some a=>
   rw[ha] at hx;cases hx;have hlen:(eQ (as.take j)).length<10000:=by
    have:=N4 (as.take j);have:=List.length_take_le j as;rw[RJ] at*;omega
   obtain⟨h',Z3,e,_n,hg⟩:=C6 (d:=d) (a:=a) hh (GL _) hlen;obtain⟨g2,_f⟩:=hg L g hle;refine⟨[some d,some (.ref h),some (.int (a.1:Int)),some (.int (a.2.1:Int)),some (.bl a.2.2)],Z4,_,Z3,rfl,e,h4 _ g2,h',some (.int (a.1:Int)),some (.int (a.2.1:Int)),some (.bl a.2.2),rfl,?_,g2,_f⟩;rw[_n,Rv,ML as j a ha]
theorem oW{c:Ck}{g:GV}{tc:BV}{te:EV}{J:Type}{dn:J->D}{keep:J->Bool}{val:J->D}(Pv:G->Prop){L:M}(hc:de c L):∀(l:List J) (B:G),Pv B->
  (∀x∈l,∀B,Pv B->∃ZY,g (dn x) B L=some (ZY,L)/\tc ZY L=some (keep x,L)/\(keep x=true->te ZY L=some (val x,L))/\Pv ZY)->
  dW c g tc te (l.map dn) B L=some ((l.filter keep).map val,L)
 | [],_,_,_=>rfl
 |x::r,B,h,hs=>by
  obtain⟨ZY,h1,h2,h3,h4⟩:=hs x (by simp) B h;have ih:=oW Pv hc r ZY h4 fun x hx=>hs x (by simp[hx]);simp only[Qc,dW,h1,bs,h2];cases hk:keep x with
  |true=>simp only[if_true,h3 hk,bs,fY hc,ih,List.filter_cons_of_pos hk,Qc]
  |false=>simp only[Qo,if_false,fY hc,ih,Rx,hk]
def xp{J:Type}(l:List J):l.filter (fun _=>true)=l:=SB.mpr (by simp)
section
variable {J:Type} {own:Str} {cap:List (Str×Nat)} {di:G} {iv:IV} {tc:BV} {te:EV} {B:G} {L:M} {c:Ck} {l:List J} {dn:J->D}
theorem N3(hi:iv B L=some ((l.map dn,c),L))(hl:l.length<=1000000)(hc:de c L)(he:dM [own] cap B=none::di)
  (ht:∀x∈l,tc (some (dn x)::di) L=some (keep x,L)) (hv:∀x∈l,keep x=true->te (some (dn x)::di) L=some (val x,L)):eN [own] cap iv (cR 0) tc te B L=some (.lst ((l.filter keep).map val),L):=by
 rw[vA,hi,uO,if_pos (by simpa using hl),he];rw[oW (g:=cR 0) (tc:=tc) (te:=te) (keep:=keep) (val:=val) (fun B=>∃o,B=o::di) hc l (none::di) ⟨none,rfl⟩ (by
  rintro x hx B ⟨o,rfl⟩;exact⟨some (dn x)::di,rfl,ht x hx,hv x hx,_,rfl⟩)]
 rfl
theorem vG(hi:iv B L=some ((l.map dn,c),L))(hl:l.length<=1000000)(hc:de c L)(he:dM [own] cap B=none::di)
  (hv:∀x∈l,te (some (dn x)::di) L=some (val x,L)):eN [own] cap iv (cR 0) da te B L=some (.lst (l.map val),L):=by
 rw[N3 (keep:=fun _=>true) (val:=val) hi hl hc he (fun _ _=>rfl) (fun x hx _=>hv x hx),xp]
end
def Ls.iv{L:M}{d:D}{ds:List D}{B:G}{i:Nat}(h:Ls L d ds)(Y7:B[i]?=some (some d)):∃c,UB (be i) B L=some ((ds,c),L)/\de c L/\∀Z5,Gr L Z5->de c Z5:=by
 obtain⟨h1,c,h2,h3,h4⟩:=h;exact⟨c,by unfold UB;rw[xS Y7,bs];show(VP L d).bind _=_;rw[h2,bs],h3,h4⟩
section
variable {C CF:Addr} {n:Nat} {d:D} {as:List An} {L:M}
abbrev pV(C:Addr):FX:=vd (lJ je) (qt C)
abbrev y1(C CF:Addr):FX:=uE (pV C) CF
theorem Gc(hl:Ls L d (as.map dA))(hv:XA n as)(hs:as.length<=1000):∃Z5,pV C [.int (n:Int),d] L=some (.ok (.bl (gS as)),Z5)/\Gr L Z5:=by
 obtain⟨h,Z4,e1,hh,g⟩:=JS hl hs;refine⟨Z4,?_,g⟩;have hc1:=L9 (C:=C) hl hv;obtain⟨c,hi,YR,_⟩:=(hl.gr g).iv (B:=[some (.int (n:Int)),some d,some (.ref h)]) (i:=1) rfl;have _v:eN ["i","j","alike"] [("homes",2)] (UB (be 1)) (eB 3 (c4 (cR 0) (c4 (cR 1) (c4 (cR 2) dY)))) da (Xm (be 2) (v2 U7 (v2 fT (be 3) (be 0)) (v2 fT (be 3) (be 1)))) [some (.int (n:Int)),some d,some (.ref h)] Z4=some (.lst ((as.map fun a=>a.2.2||!decide (dj (eQ as) a.1=dj (eQ as) a.2.1)).map D.bl),Z4):=by
  rw[vA,hi,uO,if_pos (by simp;omega)];have ec:dM (["i","j","alike"]:List Str) [("homes",2)] [some (.int (n:Int)),some d,some (.ref h)]=[none,none,none,some (.ref h)]:=rfl;rw[ec,oW (dn:=dA) (keep:=fun _=>true) (val:=fun a=>D.bl (a.2.2||!decide (dj (eQ as) a.1=dj (eQ as) a.2.1))) (fun B=>∃o1 o2 o3,B=[o1,o2,o3,some (.ref h)]) YR as _ ⟨_,_,_,rfl⟩ ?_,xp]
  .simp
  .rintro a ha B ⟨o1,o2,o3,rfl⟩;obtain⟨n1,n2⟩:=(vg as).named a ha;obtain⟨r1,q1⟩:=Q3.mp n1;obtain⟨r2,q2⟩:=Q3.mp n2;have g1:=pY hh q1;have g2:=pY hh q2;refine⟨[some (.int (a.1:Int)),some (.int (a.2.1:Int)),some (.bl a.2.2),some (.ref h)],rfl,rfl,fun _=>?_,_,_,_,rfl⟩;have ht:v2 U7 (v2 fT (be 3) (be 0)) (v2 fT (be 3) (be 1)) [some (.int (a.1:Int)),some (.int (a.2.1:Int)),some (.bl a.2.2),some (.ref h)] Z4=some (.bl (!decide (dj (eQ as) a.1=dj (eQ as) a.2.1)),Z4):=by
    rw[V3 (x:=.int (r1:Int)) (Z4:=Z4) (y:=.int (r2:Int)) (Z3:=Z4) (by rw[V3 (x:=.ref h) (Z4:=Z4) (y:=.int (a.1:Int)) (Z3:=Z4) rfl rfl];exact g1) (by rw[V3 (x:=.ref h) (Z4:=Z4) (y:=.int (a.2.1:Int)) (Z3:=Z4) rfl rfl];exact g2),q1,q2];simp[U7,VZ];omega
   cases hb:a.2.2 with
   |true=>rfl
   |false=>
    rw[hb] at ht;rw[N9];show ph _ _ (some (.bl false,Z4))=_;exact ht
 refine qy (ZY:=[some (.int (n:Int)),some d,some (.ref h)]) rfl ?_;unfold se;show fg _ _ [some (.int (n:Int)),some d,none] L=_;rw[nh (ZY:=[some (.int (n:Int)),some d,none]) (Z4:=L) (yg (d:=.non) (by rw[li (ds:=[.int (n:Int),d]) (Z4:=L) (mH rfl)];exact hc1))];refine kz (o:=.rt _) ?_;have s1:dh (vL (lJ je) (cQ (be 1) cU)) (cR 2) [some (.int (n:Int)),some d,none] L=some (.nx,[some (.int (n:Int)),some d,some (.ref h)],Z4):=by
  simp[e1]
 rw[fU,s1,jl,kU,Μ _v];simp only[i8,dC,bs,vV];show some (Out.rt (.bl _),_,_)=_;congr 4;unfold gS;simp[List.all_map]
theorem Mw(hl:Ls L d (as.map dA))(hv:XA n as)(hs:as.length<=1000)(hc:gS as=true):∃Z5,y1 C CF [.int (n:Int),d] L=some (.ok .non,Z5)/\Gr L Z5:=by
 obtain⟨Z4,e,g⟩:=Gc (C:=C) hl hv hs;rw[hc] at e;refine⟨Z4,AD (ZY:=[some (.int (n:Int)),some d]) rfl ?_,g⟩;unfold sI;show ga _ _ _ [some (.int (n:Int)),some d] L=_;have e2:VJ (pV C) (VL (cQ (be 0) (cQ (be 1) cU))) [some (.int (n:Int)),some d] L=some (.ok (.bl true),Z4):=by
  rw[li (ds:=[.int (n:Int),d]) (Z4:=L) (mH rfl)];exact e
 have e3:pH (ϫ (VJ (pV C) (VL (cQ (be 0) (cQ (be 1) cU))))) [some (.int (n:Int)),some d] L=some (.ok false,Z4):=by
  unfold pH ϫ;rw[e2];rfl
 rw[nj e3];exact kz (o:=.nx) rfl
end
def dI(s:List Int):D:=.lst (s.map D.int)
def GH(a b:Bool)(L:M):VZ (.bl a) (.bl b) L=some (a==b):=by
 cases a<;>cases b<;>rfl
abbrev jp:SV:=(UR (vT (v2 U7 (v2 UA (v2 Te (be 0) (be 2)) (v2 Te (be 0) (be 3))) (be 4)))
    (db (vC (.bl false)))
    UL)
theorem AH(hc:de c L):∀(as:List An) (o2 o3 o4:Option D),Τ s.length as->
  (fo s as=true->∃o2' o3' o4',dX c (eB 3 (c4 (cR 2) (c4 (cR 3) (c4 (cR 4) dY)))) jp (as.map dA) [some (dI s),some d,o2,o3,o4] L=some (.nx,[some (dI s),some d,o2',o3',o4'],L))/\
  (fo s as=false->∃ZX,dX c (eB 3 (c4 (cR 2) (c4 (cR 3) (c4 (cR 4) dY)))) jp (as.map dA) [some (dI s),some d,o2,o3,o4] L=some (.rt (.bl false),ZX,L))
 | [],o2,o3,o4,_=>⟨fun _=>⟨o2,o3,o4,rfl⟩,fun h=>by cases h⟩
 |a::as,o2,o3,o4,hv=>by
  obtain⟨h1,h2⟩:=hv a (by simp);obtain⟨ih1,ih2⟩:=AH (s:=s) (d:=d) hc as (some (.int (a.1:Int))) (some (.int (a.2.1:Int))) (some (.bl a.2.2)) (fun x hx=>hv x (by simp[hx]));have hg:eB 3 (c4 (cR 2) (c4 (cR 3) (c4 (cR 4) dY))) (dA a) [some (dI s),some d,o2,o3,o4] L=some ([some (dI s),some d,some (.int (a.1:Int)),some (.int (a.2.1:Int)),some (.bl a.2.2)],L):=rfl;have ix:∀x:Nat,x<s.length->Te (dI s) (.int (x:Int)) L=some (.int (s.getD x 0),L):=fun x hx=>by
   simp only[Te,dI,dC];rw[gW (j:=x) (v:=.int (s.getD x 0)) (by rw[Qm,P7];simp[P9 hx])];rfl
  have t:vT (v2 U7 (v2 UA (v2 Te (be 0) (be 2)) (v2 Te (be 0) (be 3))) (be 4)) [some (dI s),some d,some (.int (a.1:Int)),some (.int (a.2.1:Int)),some (.bl a.2.2)] L=some (!(decide (s.getD a.1 0=s.getD a.2.1 0)==a.2.2),L):=by
   rw[BP,V3 (x:=.bl (decide (s.getD a.1 0=s.getD a.2.1 0))) (Z4:=L) (y:=.bl a.2.2) (Z3:=L) (by
    rw[V3 (x:=.int (s.getD a.1 0)) (Z4:=L) (y:=.int (s.getD a.2.1 0)) (Z3:=L) (by rw[V3 (x:=dI s) (Z4:=L) (y:=.int (a.1:Int)) (Z3:=L) rfl rfl];exact ix _ h1) (by rw[V3 (x:=dI s) (Z4:=L) (y:=.int (a.2.1:Int)) (Z3:=L) rfl rfl];exact ix _ h2)];rfl) rfl]
   simp only[U7,GH,bs];rfl
  have ef:fo s (a::as)=((decide (s.getD a.1 0=s.getD a.2.1 0)==a.2.2)&&fo s as):=rfl;rw[ef];cases hb:(decide (s.getD a.1 0=s.getD a.2.1 0)==a.2.2) with
  |true=>
   rw[hb] at t;have Wx:jp [some (dI s),some d,some (.int (a.1:Int)),some (.int (a.2.1:Int)),some (.bl a.2.2)] L=some (.nx,[some (dI s),some d,some (.int (a.1:Int)),some (.int (a.2.1:Int)),some (.bl a.2.2)],L):=by
    unfold jp;rw[jy,t];rfl
   have step:dX c (eB 3 (c4 (cR 2) (c4 (cR 3) (c4 (cR 4) dY)))) jp ((a::as).map dA) [some (dI s),some d,o2,o3,o4] L=dX c (eB 3 (c4 (cR 2) (c4 (cR 3) (c4 (cR 4) dY)))) jp (as.map dA) [some (dI s),some d,some (.int (a.1:Int)),some (.int (a.2.1:Int)),some (.bl a.2.2)] L:=by
    rw[Qc];simp only[dX,hg,bs,Wx];rw[fY hc]
   rw[step,Bool.true_and];exact⟨ih1,ih2⟩
  |false=>
   rw[hb] at t;have Wx:jp [some (dI s),some d,some (.int (a.1:Int)),some (.int (a.2.1:Int)),some (.bl a.2.2)] L=some (.rt (.bl false),[some (dI s),some d,some (.int (a.1:Int)),some (.int (a.2.1:Int)),some (.bl a.2.2)],L):=by
    unfold jp;rw[jy,t];rfl
   refine⟨fun z=>by simp at z,fun _=>⟨[some (dI s),some d,some (.int (a.1:Int)),some (.int (a.2.1:Int)),some (.bl a.2.2)],?_⟩⟩;rw[Qc];simp only[dX,hg,bs,Wx]
def Ev(hl:Ls L d (as.map dA))(hv:Τ s.length as):jQ [dI s,d] L=some (.bl (fo s as),L):=by
 obtain⟨c,hi,YR,_⟩:=hl.iv (B:=[some (dI s),some d,none,none,none]) (i:=1) rfl;obtain⟨l1,l2⟩:=AH (s:=s) (d:=d) YR as none none none hv;unfold jQ v6;rw[ii,if_pos (show [dI s,d].length=2 from rfl)];show fL (cV _ _ [some (dI s),some d,none,none,none] L)=_;rw[fU,ke,hi,j7];cases hb:fo s as with
 |true=>
  obtain⟨o2,o3,o4,e⟩:=l1 hb;rw[e];rfl
 |false=>
  obtain⟨ZX,e⟩:=l2 hb;rw[e];rfl
def ext(m:Nat)(p:List Int×Nat):List (List Int×Nat):=(List.range (min (p.2+1) m)).map fun(i:Nat)=>(p.1++[(i:Int)],max p.2 (i+1))
def dS(p:List Int×Nat):D:=dI p.1
def Ga(g:Gd n k.toNat s)(hn:n<=7):hU [dS s,.int k] L=some (.lst ((ext k.toNat s).map dS),L):=by
 have hl:s.1.length<=1000:=by rw[g.len];omega
 have hu:=g.used;have h2:=g.len2;have s1:dh (v2 eV (v2 k7 (be 0) (v1 gR (vC (.int 1)))) (vC (.int 1))) (cR 2) [some (dS s),some (.int k),none] L=some (.nx,[some (dS s),some (.int k),some (.int (s.2:Int))],L):=by
  have e1:v2 k7 (be 0) (v1 gR (vC (.int 1))) [some (dS s),some (.int k),none] L=some (.int ((Xu s.1).getD (-1)),L):=by
   rw[V3 (x:=dS s) (Z4:=L) (y:=.int (-1)) (Z3:=L) rfl (by simp[gR])];simp only[k7,dS,dI,dC,bs,JW]
  rw[rC,V3 (x:=.int ((Xu s.1).getD (-1))) (Z4:=L) (y:=.int 1) (Z3:=L) e1 rfl];simp only[eV,hu];rfl
 have s2:v2 mO (v2 eV (be 2) (vC (.int 1))) (be 1) [some (dS s),some (.int k),some (.int (s.2:Int))] L=some (.int (min ((s.2:Int)+1) k),L):=by
  rw[V3 (x:=.int ((s.2:Int)+1)) (Z4:=L) (y:=.int k) (Z3:=L) (by simp[eV]) rfl];show some (D.int (if k<(s.2:Int)+1 then k else(s.2:Int)+1),L)=_;have e0:(if k<(s.2:Int)+1 then k else(s.2:Int)+1)=min ((s.2:Int)+1) k:=by
   simp only[Int.min_def];split<;>split<;>omega
  rw[e0]
 have s3:eN ["number"] [("sort",0)] (mM (v2 mO (v2 eV (be 2) (vC (.int 1))) (be 1))) (cR 0) da (v2 eV (be 1) (vL fm (cQ (be 0) cU))) [some (dS s),some (.int k),some (.int (s.2:Int))] L=some (.lst ((List.range (min (s.2+1) k.toNat)).map fun i:Nat=>dI (s.1++[(i:Int)])),L):=by
  refine vG (l:=List.range (min (s.2+1) k.toNat)) (dn:=fun i:Nat=>D.int (i:Int)) (c:=none) (di:=[some (dS s)]) ?_ (by simp;omega) trivial rfl ?_
  .rw[MG s2 (by have:=Int.min_le_left ((s.2:Int)+1) k;omega)];have hm:(min ((s.2:Int)+1) k).toNat=min (s.2+1) k.toNat:=by simp only[Int.min_def,Nat.min_def];split<;>split<;>omega
   rw[hm];simp[dk]
  .intro i _;rw[V3 (x:=dS s) (Z4:=L) (y:=.lst [.int (i:Int)]) (Z3:=L) rfl rfl];show nU (.lst (s.1.map D.int)) (.lst [.int (i:Int)]) L=_;unfold nU;simp only[kj,bs];rw[if_pos (by simp;omega)];simp[dI]
 unfold hU vI;rw[ii,if_pos (show [dS s,D.int k].length=2 from rfl)];show fL (cV _ _ [some (dS s),some (.int k),none] L)=_;rw[fU,s1,jl,kU,s3];simp[ext,dS,Function.comp_def,fL,ϔ]
theorem BI{J:Type}{f:J->D}{L:M}{k:D}:∀(l:List J) (a o:Option D),∃o',ia none (cR 1) da (be 1) (l.map f) [a,o,some k] L=some (l.map f,[a,o',some k],L)
 | [],a,o=>⟨o,rfl⟩
 |p::l,a,o=>by
  obtain⟨o',e⟩:=BI l a (some (f p));refine⟨o',?_⟩;have hg:cR 1 (f p) [a,o,some k] L=some ([a,some (f p),some k],L):=rfl;have hv:be 1 [a,some (f p),some k] L=some (f p,L):=rfl;simp only[Qc,ia,hg,bs];show(da _ _).bind _=_;simp only[da,bs,if_true,hv,iY];rw[e];rfl
theorem xU(hn:n<=7):∀(ps:List (List Int×Nat)) (a o:Option D),(∀p∈ps,Gd n k.toNat p)->
  fO none (cR 0) da (UB (vL hU (cQ (be 0) (cQ (be 2) cU)))) (cR 1) da (be 1) (ps.map dS) [a,o,some (.int k)] L=some ((ps.flatMap (ext k.toNat)).map dS,L)
 | [],a,o,_=>rfl
 |p::ps,a,o,hg=>by
  have e1:=Ga (L:=L) (hg p (by simp)) hn;obtain⟨o',e3⟩:=BI (f:=dS) (L:=L) (k:=.int k) (ext k.toNat p) (some (dS p)) o;have e4:=xU (L:=L) hn ps (some (dS p)) o' (fun q hq=>hg q (by simp[hq]));have h0:cR 0 (dS p) [a,o,some (.int k)] L=some ([some (dS p),o,some (.int k)],L):=rfl;have hv:UB (vL hU (cQ (be 0) (cQ (be 2) cU))) [some (dS p),o,some (.int k)] L=some (((ext k.toNat p).map dS,none),L):=by
   simp[e1,VP]
  rw[Qc];simp only[fO,h0,bs];show(da _ _).bind _=_;simp only[da,bs,if_true,hv,iY];rw[e3];simp only[bs,iY];rw[e4];simp
def P1(n m:Nat):Sx (n+1) m=(Sx n m).flatMap (ext m):=rfl
def wj{L:M}{n:Nat}{k:Int}{C:Addr}(hn:n<=7):kY hU (.int 7) C [.int (n:Int),.int k] L=some (.ok (.lst ((Sx n k.toNat).map dS)),L):=by
 have main:=qK (c:=none) (g:=cR 3) (body:=(dh (jF ["sort","longer"] [("most",1)] (UB (be 2)) (cR 0) da (UB (vL hU (cQ (be 0) (cQ (be 2) cU)))) (cR 1) da (be 1)) (cR 2)))
  (fun i B Z5=>∃(o:Option D),B=[some (.int (n:Int)),some (.int k),some (.lst ((Sx i k.toNat).map dS)),o]/\Z5=L)
  (dk 0 n) 0 [some (.int (n:Int)),some (.int k),some (.lst [.lst []]),none] L ⟨none,rfl,rfl⟩ ?_
 .obtain⟨ZX,Z5,e,o,rfl,rfl⟩:=main;rw[Cv,Rv] at e;refine qy (ZY:=[some (.int (n:Int)),some (.int k),some (.lst ((Sx n k.toNat).map dS)),o]) rfl ?_;unfold rO;show fg _ _ [some (.int (n:Int)),some (.int k),none,none] Z5=_;have t:(XO (vT (v2 Vq (be 0) (vC (.int 0)))) (vT (v2 Vu (be 0) (vC (.int 7))))) [some (.int (n:Int)),some (.int k),none,none] Z5=some (false,Z5):=by
   have a1:¬((n:Int)<0):=by omega
   have a2:¬((7:Int)<n):=by omega
   simp[Vq,Vu,Vt,a1,a2]
  rw[nh (ZY:=[some (.int (n:Int)),some (.int k),none,none]) (Z4:=Z5) ((nj (pb t)).trans (kz (o:=.nx) rfl))];refine kz (o:=.rt _) ?_;have s1:dh (vL fm (cQ (vL fm cU) cU)) (cR 2) [some (.int (n:Int)),some (.int k),none,none] Z5=some (.nx,[some (.int (n:Int)),some (.int k),some (.lst [.lst []]),none],Z5):=rfl;have hr:WG (be 0) [some (.int (n:Int)),some (.int k),some (.lst [.lst []]),none] Z5=some ((dk 0 n,none),Z5):=by
   have hb:(-1000000000:Int)<=(n:Int)/\(n:Int)<=1000000000:=by omega
   simp[hb]
  rw[fU,s1,jl,fU,ke,hr,j7,e];rfl
 .rintro j d B Z4 hd ⟨o,rfl,rfl⟩;obtain⟨hjn,rfl⟩:=Kr hd;rw[Rv];have e:=xU (n:=j) (k:=k) (L:=Z4) (by omega) (Sx j k.toNat) none none (fun p hp=>j1 _ j p hp);rw[←P1] at e;have hl:((Sx (j+1) k.toNat).map dS).length<=1000000:=by
   have:=qb (n:=j+1) (by omega) k.toNat
   simp;omega
  refine⟨[some (.int (n:Int)),some (.int k),some (.lst ((Sx j k.toNat).map dS)),some (.int (j:Int))],Z4,[some (.int (n:Int)),some (.int k),some (.lst ((Sx (j+1) k.toNat).map dS)),some (.int (j:Int))],Z4,rfl,?_,trivial,some (.int (j:Int)),rfl,rfl⟩;have hv:UB (be 2) [some (.int (n:Int)),some (.int k),some (.lst ((Sx j k.toNat).map dS)),some (.int (j:Int))] Z4=some (((Sx j k.toNat).map dS,none),Z4):=rfl;have hc:dM (["sort","longer"]:List Str) [("most",1)] [some (.int (n:Int)),some (.int k),some (.lst ((Sx j k.toNat).map dS)),some (.int (j:Int))]=[none,none,some (.int k)]:=rfl;rw[rC,wM,hv,Be,hc,e,x6,if_pos hl];rfl
section
variable {C CF CT:Addr} {n:Nat} {d:D} {as:List An} {L:M}
abbrev nH(C CF CT:Addr):FX:=rV jQ (y1 C CF) (kY hU (.int 7) CT)
theorem zx{n m:Nat}{s:List Int}(h:s∈(Sx n m).map (·.1)):s.length=n:=by
 obtain⟨p,hp,rfl⟩:=Qi.mp h;exact(j1 m n p hp).len
theorem Ed(hl:Ls L d (as.map dA))(hv:XA n as)(hs:as.length<=1000)(hn:n<=7)(hc:gS as=true):∃Z5,nH C CF CT [.int (n:Int),d] L=some (.ok (.lst ((eT n as).map dI)),Z5)/\Gr L Z5:=by
 obtain⟨Z4,e,g⟩:=Mw (C:=C) (CF:=CF) hl hv hs hc;refine⟨Z4,?_,g⟩;refine qy (ZY:=[some (.int (n:Int)),some d]) rfl ?_;unfold sr;show fg _ _ [some (.int (n:Int)),some d] L=_;rw[nh (ZY:=[some (.int (n:Int)),some d]) (Z4:=Z4) (yg (d:=.non) (by rw[li (ds:=[.int (n:Int),d]) (Z4:=L) (mH rfl)];exact e))];refine zz ?_;have ea:VJ (kY hU (.int 7) CT) (VL (cQ (be 0) (cQ (be 0) cU))) [some (.int (n:Int)),some d] Z4=some (.ok (.lst (((Sx n n).map (·.1)).map dI)),Z4):=by
  rw[li (ds:=[.int (n:Int),.int (n:Int)]) (Z4:=Z4) (mH rfl),wj hn];simp[dS,Function.comp_def]
 have hlen:((Sx n n).map (·.1)).length<=1000000:=by have:=qb hn n;simp;omega
 have ec:dW none (cR 0) (dL (vL jQ (cQ (be 0) (cQ (be 1) cU)))) (be 0) (((Sx n n).map (·.1)).map dI) [none,some d] Z4=some ((((Sx n n).map (·.1)).filter fun s=>fo s as).map dI,Z4):=by
  refine oW (c:=none) (fun B=>∃o,B=[o,some d]) trivial _ _ ⟨none,rfl⟩ ?_;rintro s hs B ⟨o,rfl⟩;have hf:=Ev (s:=s) (hl.gr g) (by rw[zx hs];exact hv.inN);exact⟨[some (dI s),some d],rfl,by simp[hf],fun _=>rfl,_,rfl⟩
 unfold kl;rw[ea];show(if(((Sx n n).map (·.1)).map dI).length<=1000000 then _ else _)=_;rw[if_pos (by simpa using hlen)];have VY:dM (["sort"]:List Str) [("answers",1)] [some (.int (n:Int)),some d]=[none,some d]:=rfl;show(dW none (cR 0) (dL (vL jQ (cQ (be 0) (cQ (be 1) cU)))) (be 0) (((Sx n n).map (·.1)).map dI) (dM ["sort"] [("answers",1)] [some (.int (n:Int)),some d]) Z4).bind _=_;rw[VY,ec];rfl
end
abbrev Gp:=Int×Nat×List Int
structure Gs (L:M) (lo:Nat) (b:Nat) (gs:List Gp):Prop where
 dic:L[b]?=some (some (.dK (gs.map fun g=>(Sum.inl g.1,D.ref g.2.1))))
 at_:∀g∈gs,L[g.2.1]?=some (some (.lst (g.2.2.map D.int)))
 key:(gs.map (·.1)).Nodup
 lo1:lo<=b
 lo2:∀g∈gs,lo<=g.2.1
 nd:(gs.map (·.2.1)).Nodup
 len:∀g∈gs,g.2.2.length<=1000
def fw(gs:List Gp):List (Int×List Int):=gs.map fun g=>(g.1,g.2.2)
def uz(gs:List Gp)(k:Int):eY (gs.map fun g=>((Sum.inl g.1:Key),D.ref g.2.1)) (Sum.inl k)=(gs.find? fun g=>decide (g.1=k)).map fun g=>D.ref g.2.1:=by
 unfold eY;induction gs with
 |nil=>rfl
 |cons p r ih=>
  rw[Qc,Ql,Ql];by_cases z:p.1=k
  .simp[z]
  .have z':¬((Sum.inl p.1:Key)=Sum.inl k):=fun e=>z (by injection e);simp only[z,z',R3];exact ih
theorem Fd{gs:List Gp}{k t:Int}{g:Gp}(hk:(gs.map (·.1)).Nodup)(hf:gs.find? (fun g=>decide (g.1=k))=some g):
  fG (fw gs) k t=fw (gs.map fun x=>if x.1=k then(x.1,x.2.1,x.2.2++[t]) else x):=by
 have hm:=Ri hf;have he:g.1=k:=by simpa using R8 hf
 unfold fG;rw[if_pos (by
  rw[Rb];exact⟨(g.1,g.2.2),Qi.mpr ⟨g,hm,rfl⟩,by simpa using he⟩)]
 unfold fw;rw[QN,QN];apply QK;intro x _;simp only[Function.comp];split<;>rfl
def IJ{gs:List Gp}{k t:Int}{r:Nat}(hf:gs.find? (fun g=>decide (g.1=k))=none):fG (fw gs) k t=fw (gs++[(k,r,[t])]):=by
 unfold fG;rw[if_neg]
 .simp[fw]
 .intro hc;obtain⟨x,hx,e⟩:=Rb.mp hc;obtain⟨g,hg,rfl⟩:=Qi.mp hx;rw[Rj] at hf;exact hf g hg e
abbrev pQ:SV:=(fz (fV fq (gD (be 1) (be 3) (vL fS cU)) (be 2)))
theorem MR{d:D}{b lo:Nat}{gs:List Gp}{L:M}{t k:Int}(h:Gs L lo b gs)(hlo:lo<=L.length)(hl:gs.length<1000)(hlt:∀g∈gs,g.2.2.length<1000):
  ∃Θ Z5,pQ [some d,some (.ref b),some (.int t),some (.int k)] L=some (.nx,[some d,some (.ref b),some (.int t),some (.int k)],Z5)/\Gs Z5 lo b Θ/\fw Θ=fG (fw gs) k t/\(∀j,j<lo->Z5[j]?=L[j]?)/\L.length<=Z5.length:=by
 have hb:b<L.length:=(P5.mp h.dic).1;have Ut:be 1 [some d,some (.ref b),some (.int t),some (.int k)] L=some (.ref b,L):=rfl;have hd:dD L (.ref b)=some (gs.map fun g=>(Sum.inl g.1,D.ref g.2.1)):=by simp only[dD,h.dic]
 have g1:Gr L (L++[some (Z7.lst [])]):=T7;have hd2:dD (L++[some (Z7.lst [])]) (.ref b)=some (gs.map fun g=>(Sum.inl g.1,D.ref g.2.1)):=by simp only[dD,g1.get h.dic]
 have hv3:be 3 [some d,some (.ref b),some (.int t),some (.int k)] L=some (.int k,L):=rfl;have hnw:vL fS cU [some d,some (.ref b),some (.int t),some (.int k)] L=some (.ref L.length,L++[some (.lst [])]):=rfl;have hlen:(gs.map fun g=>((Sum.inl g.1:Key),D.ref g.2.1)).length<1000000:=by simp;omega
 cases hf:gs.find? (fun g=>decide (g.1=k)) with
 |some g=>
  have hm:=Ri hf;have he:g.1=k:=by simpa using R8 hf
  have hs:gD (be 1) (be 3) (vL fS cU) [some d,some (.ref b),some (.int t),some (.int k)] L=some (.ref g.2.1,L++[some (.lst [])]):=by
   unfold gD;rw[Ut,bs];simp only[hd,bs,hv3,hnw,fu,hd2,if_pos hlen,uz,hf];rfl
  have ha:=g1.get (h.at_ g hm);generalize ZK:L++[some (Z7.lst [])]=Z4 at hs g1 ha;have WA:Z4.length=L.length+1:=by rw[←ZK];simp
  have hap:fq (.ref g.2.1) (.int t) Z4=some (.non,Z4.set g.2.1 (some (.lst (g.2.2.map D.int++[.int t])))):=by
   have:=hlt g hm;simp only[fq,iE ha,if_pos (show(g.2.2.map D.int).length<1000000 by simp;omega),mh]
  refine⟨gs.map fun x=>if x.1=k then(x.1,x.2.1,x.2.2++[t]) else x,Z4.set g.2.1 (some (.lst (g.2.2.map D.int++[.int t]))),?_,?_,(Fd h.key hf).symm,fun j hj=>?_,by rw[RF,WA];omega⟩
  .unfold pQ;rw[qf];unfold fV;rw[hs,bs];show kEx _ ((dC Z4 (.ref g.2.1)).bind _)=_;rw[h9 ha,bs];show kEx _ (fq (.ref g.2.1) (.int t) Z4)=_;rw[hap];rfl
  .have υ:(gs.map fun x=>if x.1=k then(x.1,x.2.1,x.2.2++[t]) else x).map (fun g=>((Sum.inl g.1:Key),D.ref g.2.1))=gs.map fun g=>(Sum.inl g.1,D.ref g.2.1):=by
    rw[QN];apply QK;intro x _;simp only[Function.comp];split<;>rfl
   have Yo:(gs.map fun x=>if x.1=k then(x.1,x.2.1,x.2.2++[t]) else x).map (·.1)=gs.map (·.1):=by
    rw[QN];apply QK;intro x _;simp only[Function.comp];split<;>rfl
   have hk2:(gs.map fun x=>if x.1=k then(x.1,x.2.1,x.2.2++[t]) else x).map (·.2.1)=gs.map (·.2.1):=by
    rw[QN];apply QK;intro x _;simp only[Function.comp];split<;>rfl
   have hbg:b≠g.2.1:=fun z=>by
    have h1:=h.dic;rw[z,h.at_ g hm] at h1;cases h1
   refine⟨?_,fun x hx=>?_,by rw[Yo];exact h.key,h.lo1,fun x hx=>?_,by rw[hk2];exact h.nd,fun x hx=>?_⟩
   .rw[υ,eR hbg];exact g1.get h.dic
   .obtain⟨y,hy,rfl⟩:=Qi.mp hx;by_cases ϙ:y.1=k
    .have:y=g:=by
      have hn:=h.key;obtain⟨i,hi⟩:=Q8 hy;obtain⟨j,hj⟩:=Q8 hm;have e1:(gs.map (·.1))[i]?=some k:=by rw[Qm,hi];simp[ϙ]
      have e2:(gs.map (·.1))[j]?=some k:=by rw[Qm,hj];simp[he]
      obtain⟨l1,q1⟩:=P5.mp e1;obtain⟨l2,q2⟩:=P5.mp e2;have hp:=Ra.mp hn;rcases Sl i j with z|z|z
      .exact absurd (q1.trans q2.symm) (hp i j l1 l2 z)
      .subst z;rw[hi] at hj;cases hj;rfl
      .exact absurd (q2.trans q1.symm) (hp j i l2 l1 z)
     subst this;rw[if_pos ϙ];show(Z4.set y.2.1 _)[y.2.1]?=_;rw[eU ha];simp
    .rw[if_neg ϙ];have hne:y.2.1≠g.2.1:=fun z=>by
      have hn:=h.nd;obtain⟨i,hi⟩:=Q8 hy;obtain⟨j,hj⟩:=Q8 hm;have e1:(gs.map (·.2.1))[i]?=some g.2.1:=by rw[Qm,hi];simp[z]
      have e2:(gs.map (·.2.1))[j]?=some g.2.1:=by rw[Qm,hj];simp
      obtain⟨l1,q1⟩:=P5.mp e1;obtain⟨l2,q2⟩:=P5.mp e2;have hp:=Ra.mp hn;rcases Sl i j with w|w|w
      .exact absurd (q1.trans q2.symm) (hp i j l1 l2 w)
      .subst w;rw[hi] at hj;cases hj;exact ϙ he
      .exact absurd (q2.trans q1.symm) (hp j i l2 l1 w)
     rw[eR hne];exact g1.get (h.at_ y hy)
   .obtain⟨y,hy,rfl⟩:=Qi.mp hx;split
    .exact h.lo2 y hy
    .exact h.lo2 y hy
   .obtain⟨y,hy,rfl⟩:=Qi.mp hx;have:=hlt y hy;split
    .simp;omega
    .omega
  .rw[eR (by have:=h.lo2 g hm;omega)];exact g1.at_ j (by omega)
 |none=>
  have hs:gD (be 1) (be 3) (vL fS cU) [some d,some (.ref b),some (.int t),some (.int k)] L=some (.ref L.length,(L++[some (Z7.lst [])]).set b (some (Z7.dK (eM (gs.map fun g=>((Sum.inl g.1:Key),D.ref g.2.1)) (Sum.inl k) (.ref L.length))))):=by
   unfold gD;rw[Ut,bs];simp only[hd,bs,hv3,hnw,fu,hd2,if_pos hlen,uz,hf];rfl
  have _V:eM (gs.map fun g=>((Sum.inl g.1:Key),D.ref g.2.1)) (Sum.inl k) (.ref L.length)=(gs++[(k,L.length,[t])]).map fun g=>(Sum.inl g.1,D.ref g.2.1):=by
   rw[yS _ (by rw[uz,hf];rfl)];simp
  rw[_V] at hs;have ha:((L++[some (Z7.lst [])]).set b (some (.dK ((gs++[(k,L.length,[t])]).map fun g=>(Sum.inl g.1,D.ref g.2.1)))))[L.length]?=some (some (.lst [])):=by
   rw[eR (by omega)];simp
  have hbk:((L++[some (Z7.lst [])]).set b (some (.dK ((gs++[(k,L.length,[t])]).map fun g=>(Sum.inl g.1,D.ref g.2.1)))))[b]?=some (some (.dK ((gs++[(k,L.length,[t])]).map fun g=>(Sum.inl g.1,D.ref g.2.1)))):=eU (g1.get h.dic);have hold:∀j,j<L.length->j≠b->((L++[some (Z7.lst [])]).set b (some (.dK ((gs++[(k,L.length,[t])]).map fun g=>(Sum.inl g.1,D.ref g.2.1)))))[j]?=L[j]?:=fun j hj hne=>by
   rw[eR hne];exact g1.at_ j hj
  have WA:((L++[some (Z7.lst [])]).set b (some (.dK ((gs++[(k,L.length,[t])]).map fun g=>(Sum.inl g.1,D.ref g.2.1))))).length=L.length+1:=by simp
  generalize ZK:(L++[some (Z7.lst [])]).set b (some (.dK ((gs++[(k,L.length,[t])]).map fun g=>(Sum.inl g.1,D.ref g.2.1))))=Z4 at hs ha hbk hold WA;have hap:fq (.ref L.length) (.int t) Z4=some (.non,Z4.set L.length (some (.lst [.int t]))):=by
   simp only[fq,iE ha,if_pos (show([]:List D).length<1000000 by decide),mh];rfl
  refine⟨gs++[(k,L.length,[t])],Z4.set L.length (some (.lst [.int t])),?_,?_,(IJ hf).symm,fun j hj=>?_,by rw[RF,WA];omega⟩
  .unfold pQ;rw[qf];unfold fV;rw[hs,bs];show kEx _ ((dC Z4 (.ref L.length)).bind _)=_;rw[h9 ha,bs];show kEx _ (fq (.ref L.length) (.int t) Z4)=_;rw[hap];rfl
  .have hgl:∀g∈gs,g.2.1<L.length:=fun g hg=>(P5.mp (h.at_ g hg)).1;refine⟨by rw[eR (by omega)];exact hbk,fun x hx=>?_,?_,h.lo1,fun x hx=>?_,?_,fun x hx=>?_⟩
   .rcases Qr.mp hx with hx|hx
    .have hl1:=hgl x hx;have hxb:x.2.1≠b:=fun z=>by
      have h1:=h.dic;rw[←z,h.at_ x hx] at h1;cases h1
     rw[eR (by omega),hold _ hl1 hxb];exact h.at_ x hx
    .have:x=(k,L.length,[t]):=by simpa using hx
     subst this;exact eU ha
   .rw[QV,Rr];refine⟨h.key,by simp,fun a XI c hc e=>?_⟩;have:c=k:=by simpa using hc
    subst this e;obtain⟨g,hg,rfl⟩:=Qi.mp XI;rw[Rj] at hf;exact hf g hg (by simp)
   .rcases Qr.mp hx with hx|hx
    .exact h.lo2 x hx
    .have:x=(k,L.length,[t]):=by simpa using hx
     subst this;exact hlo
   .rw[QV,Rr];refine⟨h.nd,by simp,fun a XI c hc e=>?_⟩;have:c=L.length:=by simpa using hc
    subst this e;obtain⟨g,hg,e⟩:=Qi.mp XI;have:=hgl g hg;omega
   .rcases Qr.mp hx with hx|hx
    .exact h.len x hx
    .have:x=(k,L.length,[t]):=by simpa using hx
     subst this;simp
  .have hb2:=h.lo1;rw[eR (by omega)];exact hold j (by omega) (by omega)
theorem Ax:∀(l:List Int) (i:Nat) (k:Int) (gs:List (Int×List Int)),ie i (l++[k]) gs=fG (ie i l gs) k ((i+l.length:Nat):Int)
 | [],i,k,gs=>by simp[ie]
 |x::l,i,k,gs=>by
  rw[List.cons_append,ie,ie,Ax l (i+1) k];congr 2;simp;omega
def B6(gs:List (Int×List Int))(k t:Int):(fG gs k t).length<=gs.length+1:=by
 unfold fG;split<;>simp
def GU{gs:List (Int×List Int)}{k t:Int}{m:Nat}(h:∀g∈gs,g.2.length<=m):∀g∈fG gs k t,g.2.length<=m+1:=by
 intro g hg;unfold fG at hg;split at hg
 .obtain⟨x,hx,rfl⟩:=Qi.mp hg;have:=h x hx;split
  .simp;omega
  .omega
 .rcases Qr.mp hg with hg|hg
  .have:=h g hg;omega
  .have:g=(k,[t]):=by simpa using hg
   subst this;simp
def Cz(hs:s.length<=500):∃b gs Z5,ki [dI s] L=some (.lst (gs.map fun g:Gp=>D.ref g.2.1),Z5)/\Gs Z5 L.length b gs/\fw gs=XJ s/\Gr L Z5:=by
 have main:=qK (c:=none) (g:=(eB 2 (c4 (cR 2) (c4 (cR 3) dY)))) (body:=pQ)
  (fun i B Z5=>∃(gs:List Gp) (o2 o3:Option D),B=[some (dI s),some (.ref L.length),o2,o3]/\Gs Z5 L.length L.length gs/\fw gs=XJ (s.take i)/\gs.length<=i/\(∀g∈gs,g.2.2.length<=i)/\Gr L Z5)
  ((List.range s.length).map fun i:Nat=>D.tup [.int (i:Int),.int (s.getD i 0)]) 0 [some (dI s),some (.ref L.length),none,none] (L++[some (.dK [])])
  ⟨[],none,none,rfl,⟨by simp,fun g h=>by simp at h,by simp,P3 _,fun g h=>by simp at h,by simp,fun g h=>by simp at h⟩,rfl,P3 _,fun g h=>by simp at h,T7⟩ ?_
 .obtain⟨ZX,Z5,e,gs,o2,o3,rfl,G1,hst,_,_,gr⟩:=main;rw[Rv,Qb,Rt,Sq] at hst;refine⟨L.length,gs,Z5,?_,G1,hst,gr⟩;unfold ki vO;rw[ii,if_pos (show [dI s].length=1 from rfl)];show fL (cV _ _ [some (dI s),none,none,none] L)=_;have s1:dh nR (cR 1) [some (dI s),none,none,none] L=some (.nx,[some (dI s),some (.ref L.length),none,none],L++[some (.dK [])]):=rfl;have hi:uC (be 0) [some (dI s),some (.ref L.length),none,none] (L++[some (.dK [])])=some (((List.range s.length).map fun i:Nat=>D.tup [.int (i:Int),.int (s.getD i 0)],none),L++[some (.dK [])]):=by
   have he:jJ (s.map D.int)=(List.range s.length).map fun i:Nat=>D.tup [.int (i:Int),.int (s.getD i 0)]:=by
    apply SR;intro i;by_cases hi:i<s.length
    .simp[jJ,hi]
    .simp[jJ];rw[List.getElem?_eq_none (by simpa using hi),List.getElem?_eq_none (by simpa using hi)];rfl
   show some ((jJ (s.map D.int),none),_)=_;rw[he]
  rw[fU,s1,jl,fU,ke,hi,j7,e,jl,kU];have hv:v1 oX (be 1) [some (dI s),some (.ref L.length),o2,o3] Z5=some (.lst (gs.map fun g:Gp=>D.ref g.2.1),Z5):=by
   rw[Μ (x:=.ref L.length) (Z4:=Z5) rfl];unfold oX;simp only[dD,G1.dic,bs,QN];rfl
  rw[hv];rfl
 .rintro j x B Z4 hx ⟨gs,o2,o3,rfl,G1,hst,hl,hlt,gr⟩;rw[Rv] at hst hl hlt;have hj:j<s.length:=by
   have:=(P5.mp hx).1;simpa using this
  rw[Qm,List.getElem?_range hj] at hx;simp at hx;subst hx;obtain⟨Θ,Z3,e,G2,YI,hold,hlen⟩:=MR (d:=dI s) (t:=(j:Int)) (k:=s.getD j 0) G1 gr.len (by omega) (fun g hg=>by have:=hlt g hg;omega);have hsj:s[j]?=some (s.getD j 0):=by rw[P7,P9 hj];rfl
  have _o:XJ (s.take (j+1))=fG (XJ (s.take j)) (s.getD j 0) (j:Int):=by
   rw[List.take_succ,hsj];show ie 0 (s.take j++[s.getD j 0]) []=_;rw[Ax];have:(s.take j).length=j:=by rw[RJ];omega
   rw[this,Rv];rfl
  refine⟨[some (dI s),some (.ref L.length),some (.int (j:Int)),some (.int (s.getD j 0))],Z4,_,Z3,?_,e,trivial,Θ,_,_,rfl,G2,?_,?_,?_,?_⟩
  .simp
  .rw[Rv,YI,hst,_o]
  .have:Θ.length=(fG (fw gs) (s.getD j 0) (j:Int)).length:=by rw[←YI];simp[fw]
   have h2:=B6 (fw gs) (s.getD j 0) (j:Int);have:(fw gs).length=gs.length:=by simp[fw]
   omega
  .intro g hg;have hm:(g.1,g.2.2)∈fG (fw gs) (s.getD j 0) (j:Int):=by rw[←YI];exact Qi.mpr ⟨g,hg,rfl⟩
   have:=GU (m:=j) (fun x hx=>by
    obtain⟨y,hy,rfl⟩:=Qi.mp hx;exact hlt y hy) _ hm
   have:g.2.2.length<=j+1:=this;omega
  .exact⟨QL gr.len hlen,fun i hi=>(hold i hi).trans (gr.at_ i hi)⟩
def dz(s:List Int):List Int:=match(XJ s).find? fun g=>decide ((s.length:Int)<2*(g.2.length:Int)) with
 |some g=>g.2
 |none=>[]
def Cw:∀n<8,∀p∈Sx n n,dz p.1=((List.range n).filter fun t:Nat=>decide ((t:Int)∈dz p.1)).map fun t:Nat=>(t:Int):=by decide +kernel
abbrev jq:SV:=(UR (vT (v2 Vu (v2 gg (vC (.int 2)) (v1 dU (be 1))) (v1 dU (be 0)))) (db (be 1)) UL)
theorem xG(hs:s.length<=500):∀(gs:List Gp) (o:Option D),(∀g∈gs,L[g.2.1]?=some (some (.lst (g.2.2.map D.int))))->(∀g∈gs,g.2.2.length<=1000)->
  (∀g,gs.find? (fun g=>decide ((s.length:Int)<2*(g.2.2.length:Int)))=some g->∃ZX,dX none (cR 1) jq (gs.map fun g:Gp=>D.ref g.2.1) [some (dI s),o] L=some (.rt (.ref g.2.1),ZX,L))/\
  (gs.find? (fun g=>decide ((s.length:Int)<2*(g.2.2.length:Int)))=none->∃o',dX none (cR 1) jq (gs.map fun g:Gp=>D.ref g.2.1) [some (dI s),o] L=some (.nx,[some (dI s),o'],L))
 | [],o,_,_=>⟨(fun g h=>by cases h),fun _=>⟨o,rfl⟩⟩
 |g::gs,o,h,hl=>by
  have h0:=h g (by simp);have hl0:=hl g (by simp);obtain⟨i1,i2⟩:=xG (s:=s) hs gs (some (.ref g.2.1)) (fun x hx=>h x (by simp[hx])) (fun x hx=>hl x (by simp[hx]));have hg:cR 1 (.ref g.2.1) [some (dI s),o] L=some ([some (dI s),some (.ref g.2.1)],L):=rfl;have t:vT (v2 Vu (v2 gg (vC (.int 2)) (v1 dU (be 1))) (v1 dU (be 0))) [some (dI s),some (.ref g.2.1)] L=some (decide ((s.length:Int)<2*(g.2.2.length:Int)),L):=by
   have a1:v1 dU (be 1) [some (dI s),some (.ref g.2.1)] L=some (.int (g.2.2.length:Int),L):=by
    rw[Μ (x:=.ref g.2.1) (Z4:=L) rfl,qF h0];simp
   have a2:v1 dU (be 0) [some (dI s),some (.ref g.2.1)] L=some (.int (s.length:Int),L):=by
    rw[Μ (x:=dI s) (Z4:=L) rfl];simp[dI,dU,dC]
   have a3:v2 gg (vC (.int 2)) (v1 dU (be 1)) [some (dI s),some (.ref g.2.1)] L=some (.int (2*(g.2.2.length:Int)),L):=by
    rw[V3 (x:=.int 2) (Z4:=L) (y:=.int (g.2.2.length:Int)) (Z3:=L) rfl a1];have hc:Ul 2 (g.2.2.length:Int):=.inl ⟨by decide,by decide⟩;simp only[gg,if_pos hc]
   rw[BP,V3 a3 a2];rfl
  rw[Ql];cases hb:decide ((s.length:Int)<2*(g.2.2.length:Int)) with
  |true=>
   rw[hb] at t;have Wx:jq [some (dI s),some (.ref g.2.1)] L=some (.rt (.ref g.2.1),[some (dI s),some (.ref g.2.1)],L):=by
    unfold jq;rw[jy,t];rfl
   refine⟨fun g' h=>?_,fun h=>by cases h⟩;cases h;refine⟨[some (dI s),some (.ref g.2.1)],?_⟩;rw[Qc];simp only[dX,hg,bs,Wx]
  |false=>
   rw[hb] at t;have Wx:jq [some (dI s),some (.ref g.2.1)] L=some (.nx,[some (dI s),some (.ref g.2.1)],L):=by
    unfold jq;rw[jy,t];rfl
   have step:dX none (cR 1) jq ((g::gs).map fun g:Gp=>D.ref g.2.1) [some (dI s),o] L=dX none (cR 1) jq (gs.map fun g:Gp=>D.ref g.2.1) [some (dI s),some (.ref g.2.1)] L:=by
    rw[Qc];simp only[dX,hg,bs,Wx,iY]
   rw[step];exact⟨i1,i2⟩
theorem Dm{s:List Int}{gs:List Gp}(hst:fw gs=XJ s):dz s=match gs.find? (fun g=>decide ((s.length:Int)<2*(g.2.2.length:Int))) with
  |some g=>g.2.2
  |none=>[]:=by
 unfold dz;rw[←hst];unfold fw;rw[List.find?_map];simp only[Function.comp_def];cases gs.find? fun g=>decide ((s.length:Int)<2*(g.2.2.length:Int))<;>rfl
abbrev kH:C0:=nw ki
def yf(hs:s.length<=500):∃d Z5,kH [dI s] L=some (d,Z5)/\Ls Z5 d ((dz s).map D.int)/\Gr L Z5:=by
 obtain⟨b,gs,Z4,e,G1,hst,gr⟩:=Cz (L:=L) hs;obtain⟨l1,l2⟩:=xG (s:=s) (L:=Z4) hs gs none G1.at_ G1.len;have hi:UB (vL ki (cQ (be 0) cU)) [some (dI s),none] L=some ((gs.map fun g:Gp=>D.ref g.2.1,none),Z4):=by
  have:vL ki (cQ (be 0) cU) [some (dI s),none] L=some (.lst (gs.map fun g:Gp=>D.ref g.2.1),Z4):=e;unfold UB;rw[this];rfl
 have hm:=Dm hst;cases hf:gs.find? (fun g=>decide ((s.length:Int)<2*(g.2.2.length:Int))) with
 |some g=>
  rw[hf] at hm;obtain⟨ZX,e2⟩:=l1 g hf;refine⟨.ref g.2.1,Z4,?_,?_,gr⟩
  .unfold kH nw pF;rw[ii,if_pos (show [dI s].length=1 from rfl)];show fL (cV _ _ [some (dI s),none] L)=_;rw[fU,ke,hi,j7,e2];rfl
  .rw[hm];exact .ref (G1.at_ g (Ri hf))
 |none=>
  rw[hf] at hm;obtain⟨o',e2⟩:=l2 hf;refine⟨.lst [],Z4,?_,by rw[hm];exact .lst,gr⟩;unfold kH nw pF;rw[ii,if_pos (show [dI s].length=1 from rfl)];show fL (cV _ _ [some (dI s),none] L)=_;rw[fU,ke,hi,j7,e2];rfl
def dE(x:Option Int):D:=match x with
 |some t=>.tup [.str "one",.int t]
 |none=>.tup [.str "none"]
def hE(s:List Int):List (Option Int):=if dz s=[] then [none] else(dz s).map some
abbrev gX:C0:=pG kH
def yN(hs:s.length<=500)(hl:(dz s).length<=1000):∃Z5,gX [dI s] L=some (.lst ((hE s).map dE),Z5)/\Gr L Z5:=by
 obtain⟨d,Z4,e,hL,g⟩:=yf (L:=L) hs;refine⟨Z4,?_,g⟩;have s1:dh (vL kH (cQ (be 0) cU)) (cR 1) [some (dI s),none] L=some (.nx,[some (dI s),some d],Z4):=by
  have:vL kH (cQ (be 0) cU) [some (dI s),none] L=some (d,Z4):=e;rw[rC,this];rfl
 have t:dL (be 1) [some (dI s),some d] Z4=some (!decide (dz s=[]),Z4):=by
  rw[xc];show nu (some (d,Z4))=_;rcases pN hL with⟨k,rfl,hk⟩|rfl|rfl
  .simp only[nu];cases hm:dz s with
   |nil=>rw[hm] at hk;simp[Vd,hk,Yi]
   |cons a r=>rw[hm] at hk;simp[Vd,hk,Yi]
  .cases hm:dz s with
   |nil=>rfl
   |cons a r=>rfl
  .cases hm:dz s with
   |nil=>rfl
   |cons a r=>rfl
 obtain⟨c,hi,YR,_⟩:=hL.iv (B:=[some (dI s),some d]) (i:=1) rfl;have c2:eN ["thing"] [] (UB (be 1)) (cR 0) da (vL eO (cQ (vC (.str "one")) (cQ (be 0) cU))) [some (dI s),some d] Z4=some (.lst ((dz s).map fun t=>dE (some t)),Z4):=
  vG (l:=dz s) (dn:=D.int) (c:=c) (di:=[]) hi (by omega) YR rfl fun t _=>rfl
 unfold gX pG sk;rw[ii,if_pos (show [dI s].length=1 from rfl)];show fL (cV _ _ [some (dI s),none] L)=_;rw[fU,s1,jl,kU];unfold hE;by_cases h0:dz s=[]
 .rw[if_pos h0];rw[QC h0] at t;have:Wa (dL (be 1)) (eN ["thing"] [] (UB (be 1)) (cR 0) da (vL eO (cQ (vC (.str "one")) (cQ (be 0) cU)))) (vL fm (cQ (vL eO (cQ (vC (.str "none")) cU)) cU)) [some (dI s),some d] Z4=some (.lst ([none].map dE),Z4):=by
   rw[xC,t];rfl
  rw[this];rfl
 .rw[if_neg h0];rw[Qn h0] at t;have:Wa (dL (be 1)) (eN ["thing"] [] (UB (be 1)) (cR 0) da (vL eO (cQ (vC (.str "one")) (cQ (be 0) cU)))) (vL fm (cQ (vL eO (cQ (vC (.str "none")) cU)) cU)) [some (dI s),some d] Z4=some (.lst (((dz s).map some).map dE),Z4):=by
   rw[xC,t];show eN _ _ _ _ _ _ _ Z4=_;rw[c2,QN];rfl
  rw[this];rfl
def Yd:PyData.strOk "one"=true:=by decide +kernel
def Y4:PyData.strOk "none"=true:=by decide +kernel
def pE(x:Option Int):PyData:=match x with
 |some t=>.tuple [.str "one",.int t]
 |none=>.tuple [.str "none"]
def v9{L:M}(x:Option Int):py 65 L (dE x)=some (pE x):=by cases x<;>rfl
def vF(x:Option Int):(pE x).canLay0=true:=by cases x<;>simp[pE,PyData.canLay0,PyData.canLayAll0,Yd,Y4]
def BM(x:Option Int):(pE x).depth<=60:=by cases x<;>simp[pE,PyData.depth,PyData.depthAll]
def Pa(x y:Option Int):PyData.eqv (pE x) (pE y)=decide (x=y):=by
 rw[Q9];cases x<;>cases y<;>simp[pE,PyData.eqv,PyData.eqvAll]
theorem wR:∀l:List (Option Int),PyData.canLayAll0 (l.map pE)=true
 | []=>rfl
 |x::l=>by simp[PyData.canLayAll0,vF x,wR l]
def yA{L:M}(x:Option Int)(l:List (Option Int)):iO false (dE x) (.lst (l.map dE)) L=some (.bl (decide (x∈l)),L):=by
 have h1:dQ (py 65 L) (l.map dE)=some (l.map pE):=jz fun x _=>v9 x;have h4:decide ((pE x).depth<=60)=true:=QC (BM x);have h5:(l.map pE).any (fun e=>PyData.eqv e (pE x))=decide (x∈l):=by
  rw[Q9,List.any_map,Rb];simp only[Function.comp,QQ,Pa];constructor
  .rintro⟨y,hy,rfl⟩;exact hy
  .intro h;exact⟨x,h,rfl⟩
 unfold iO;rw[if_neg (by simp)];simp only[dC,bs,h1,v9,wR,vF,h4,Bool.and_self,if_true,h5]
def kE(ss:List (List Int)):Option (Option Int):=(hE (ss.getD 0 [])).find? fun t=>ss.all fun s=>decide (t∈hE s)
def VH(ss:List (List Int)):D:=.lst (ss.map fun s=>.lst ((hE s).map dE))
abbrev jw:SV:=(UR (dL (v1 i8 (eN ["others"] [("end",1)] (UB (be 0)) (cR 0) da (v2 (iO false) (be 1) (be 0)))))
    (db (be 1))
    UL)
theorem yb{ss:List (List Int)}{L:M}(hl:ss.length<=1000000):∀(l:List (Option Int)) (o:Option D),
  (∀t,l.find? (fun t=>ss.all fun s=>decide (t∈hE s))=some t->∃ZX,dX none (cR 1) jw (l.map dE) [some (VH ss),o] L=some (.rt (dE t),ZX,L))/\
  (l.find? (fun t=>ss.all fun s=>decide (t∈hE s))=none->∃o',dX none (cR 1) jw (l.map dE) [some (VH ss),o] L=some (.nx,[some (VH ss),o'],L))
 | [],o=>⟨(fun t h=>by cases h),fun _=>⟨o,rfl⟩⟩
 |t::l,o=>by
  obtain⟨i1,i2⟩:=yb (ss:=ss) (L:=L) hl l (some (dE t));have hc:eN ["others"] [("end",1)] (UB (be 0)) (cR 0) da (v2 (iO false) (be 1) (be 0)) [some (VH ss),some (dE t)] L=some (.lst (ss.map fun s=>D.bl (decide (t∈hE s))),L):=
   vG (l:=ss) (dn:=fun s=>D.lst ((hE s).map dE)) (c:=none) (di:=[some (dE t)]) rfl hl trivial rfl fun s _=>by
    rw[V3 (x:=dE t) (Z4:=L) (y:=.lst ((hE s).map dE)) (Z3:=L) rfl rfl];exact yA t (hE s)
  have ht:dL (v1 i8 (eN ["others"] [("end",1)] (UB (be 0)) (cR 0) da (v2 (iO false) (be 1) (be 0)))) [some (VH ss),some (dE t)] L=some (ss.all fun s=>decide (t∈hE s),L):=by
   rw[xc,Μ hc];have:ss.map (fun s=>D.bl (decide (t∈hE s)))=(ss.map fun s=>decide (t∈hE s)).map D.bl:=by simp
   rw[this];simp only[i8,dC,bs,vV,List.all_map];rfl
  have hg:cR 1 (dE t) [some (VH ss),o] L=some ([some (VH ss),some (dE t)],L):=rfl;rw[Ql];cases hb:ss.all fun s=>decide (t∈hE s) with
  |true=>
   rw[hb] at ht;have Wx:jw [some (VH ss),some (dE t)] L=some (.rt (dE t),[some (VH ss),some (dE t)],L):=by
    unfold jw;rw[jy,ht];rfl
   refine⟨fun t' h=>?_,fun h=>by cases h⟩;cases h;refine⟨[some (VH ss),some (dE t)],?_⟩;rw[Qc];simp only[dX,hg,bs,Wx]
  |false=>
   rw[hb] at ht;have Wx:jw [some (VH ss),some (dE t)] L=some (.nx,[some (VH ss),some (dE t)],L):=by
    unfold jw;rw[jy,ht];rfl
   have step:dX none (cR 1) jw ((t::l).map dE) [some (VH ss),o] L=dX none (cR 1) jw (l.map dE) [some (VH ss),some (dE t)] L:=by
    rw[Qc];simp only[dX,hg,bs,Wx,iY]
   rw[step];exact⟨i1,i2⟩
def gy:D:=.gt [.str "open"]
def gN(o:Option (Option Int)):D:=match o with
 |some t=>dE t
 |none=>gy
def EC{ss:List (List Int)}{L:M}(hl:ss.length<=1000000)(h0:ss≠[]):i6 gy [VH ss] L=some (gN (kE ss),L):=by
 have hi:UB (v2 Te (be 0) (vC (.int 0))) [some (VH ss),none] L=some (((hE (ss.getD 0 [])).map dE,none),L):=by
  cases ss with
  |nil=>exact absurd rfl h0
  |cons s ss=>
   have h1:v2 Te (be 0) (vC (.int 0)) [some (VH (s::ss)),none] L=some (.lst ((hE s).map dE),L):=by
    rw[V3 (x:=VH (s::ss)) (Z4:=L) (y:=.int 0) (Z3:=L) rfl rfl];simp only[Te,VH,dC];rw[show(0:Int)=((0:Nat):Int) from rfl,gW (j:=0) (v:=.lst ((hE s).map dE)) rfl];rfl
   unfold UB;rw[h1];rfl
 obtain⟨l1,l2⟩:=yb (ss:=ss) (L:=L) hl (hE (ss.getD 0 [])) none;unfold i6 p7;rw[ii,if_pos (show [VH ss].length=1 from rfl)];show fL (cV _ _ [some (VH ss),none] L)=_;rw[fU,ke,hi,j7];cases hc:kE ss with
 |some t=>
  obtain⟨ZX,e⟩:=l1 t hc;rw[e];rfl
 |none=>
  obtain⟨o',e⟩:=l2 hc;rw[e];rfl
def F9{n:Nat}(hn:n<=7){s:List Int}(hs:s∈(Sx n n).map (·.1)):dz s=((List.range n).filter fun t:Nat=>decide ((t:Int)∈dz s)).map fun t:Nat=>(t:Int):=by
 obtain⟨p,hp,rfl⟩:=Qi.mp hs;exact Cw n (by omega) p hp
def KL{n:Nat}(hn:n<=7){s:List Int}(hs:s∈(Sx n n).map (·.1)):(dz s).length<=n:=by
 rw[F9 hn hs,Qb];have:=Q4 (fun t:Nat=>decide ((t:Int)∈dz s)) (List.range n);simpa using this
section
variable {C CF CT:Addr} {n:Nat} {d:D} {as:List An} {L:M}
abbrev rF(C CF CT:Addr):FX:=rl (i6 gy) gX (nH C CF CT)
theorem Bt{n:Nat}(hn:n<=7):∀(l:List (List Int)) (o:Option D) (L:M),(∀s∈l,s∈(Sx n n).map (·.1))->
  ∃Z5,dW none (cR 0) da (vL gX (cQ (be 0) cU)) (l.map dI) [o] L=some (l.map fun s=>.lst ((hE s).map dE),Z5)/\Gr L Z5
 | [],o,L,_=>⟨L,rfl,.refl⟩
 |s::l,o,L,h=>by
  have hs:=h s (by simp);have h1:=zx hs;have h2:=KL hn hs;obtain⟨Z4,e1,g1⟩:=yN (s:=s) (L:=L) (by omega) (by omega);obtain⟨Z3,e2,g2⟩:=Bt hn l (some (dI s)) Z4 (fun x hx=>h x (by simp[hx]));refine⟨Z3,?_,g1.trans g2⟩;have hg:cR 0 (dI s) [o] L=some ([some (dI s)],L):=rfl;have hv:vL gX (cQ (be 0) cU) [some (dI s)] L=some (.lst ((hE s).map dE),Z4):=e1;rw[Qc];simp only[dW,hg,bs];show(da _ _).bind _=_;simp only[da,bs,if_true,hv,iY];rw[e2];rfl
theorem HY(h:s∈eT n as):s∈(Sx n n).map (·.1):=(Qq.mp h).1
theorem B5(hn:n<=7):(eT n as).length<=1000:=by
 have h1:=Q4 (fun s=>fo s as) ((Sx n n).map (·.1));have:=qb hn n;unfold eT;rw[Qb] at h1;omega
theorem JG(hl:Ls L d (as.map dA))(hv:XA n as)(hs:as.length<=1000)(hn:n<=7)(hf:eT n as≠[]):∃Z5,rF C CF CT [.int (n:Int),d] L=some (.ok (gN (kE (eT n as))),Z5)/\Gr L Z5:=by
 have hc:gS as=true:=by
  cases h:gS as with
  |true=>rfl
  |false=>exact absurd ((Ja hv.inN).mpr h) hf
 obtain⟨Z4,e1,g1⟩:=Ed (C:=C) (CF:=CF) (CT:=CT) hl hv hs hn hc;obtain⟨Z3,e2,g2⟩:=Bt hn (eT n as) none Z4 (fun s h=>HY h);refine⟨Z3,?_,g1.trans g2⟩;have hlen:=B5 (as:=as) hn;refine qy (ZY:=[some (.int (n:Int)),some d]) rfl ?_;unfold um;show jD _ [some (.int (n:Int)),some d] L=_;have ec:kl ["sort"] [] (VJ (nH C CF CT) (VL (cQ (be 0) (cQ (be 1) cU)))) (cR 0) da (vL gX (cQ (be 0) cU)) [some (.int (n:Int)),some d] L=some (.ok (VH (eT n as)),Z3):=by
  have ea:VJ (nH C CF CT) (VL (cQ (be 0) (cQ (be 1) cU))) [some (.int (n:Int)),some d] L=some (.ok (.lst ((eT n as).map dI)),Z4):=by
   rw[li (ds:=[.int (n:Int),d]) (Z4:=L) (mH rfl)];exact e1
  unfold kl;rw[ea];show(if((eT n as).map dI).length<=1000000 then _ else _)=_;rw[if_pos (by simp;omega)];have VY:dM (["sort"]:List Str) [] [some (.int (n:Int)),some d]=[none]:=rfl;show(dW none (cR 0) da (vL gX (cQ (be 0) cU)) ((eT n as).map dI) (dM ["sort"] [] [some (.int (n:Int)),some d]) Z4).bind _=_;rw[VY,e2];rfl
 have el:qq (kl ["sort"] [] (VJ (nH C CF CT) (VL (cQ (be 0) (cQ (be 1) cU)))) (cR 0) da (vL gX (cQ (be 0) cU))) (VL cU) [some (.int (n:Int)),some d] L=some (.ok [VH (eT n as)],Z3):=by
  unfold qq;rw[ec];rfl
 refine zz ?_;rw[li el];show(Y1 (i6 gy)) _ _=_;have hco:=EC (ss:=eT n as) (L:=Z3) (by omega) hf;unfold Y1;rw[hco];rfl
end
def dP(p:Nat×Nat):D:=.tup [.int (p.1:Int),.int (p.2:Int)]
theorem wK{β:Type}{g:GV}{te:EV}{dm:β->D}{val:β->D}(Qv:G->Prop){L:M}:∀(l:List β) (B:G),Qv B->(∀b∈l,∀B,Qv B->∃ZY,g (dm b) B L=some (ZY,L)/\te ZY L=some (val b,L)/\Qv ZY)->
  ∃ZX,ia none g da te (l.map dm) B L=some (l.map val,ZX,L)/\Qv ZX
 | [],B,h,_=>⟨B,rfl,h⟩
 |b::l,B,h,hs=>by
  obtain⟨ZY,e1,e2,h1⟩:=hs b (by simp) B h;obtain⟨ZX,e3,h3⟩:=wK Qv l ZY h1 fun b hb=>hs b (by simp[hb]);refine⟨ZX,?_,h3⟩;rw[Qc];simp only[ia,e1,bs,da,if_true,e2,iY,e3];rfl
theorem yw{J β:Type}{g g2:GV}{iv2:IV}{te:EV}{dn:J->D}{dm:β->D}{inn:J->List β}{val:J->β->D}(Pv:G->Prop)(Qv:J->G->Prop){L:M}(hPQ:∀a B,Qv a B->Pv B):∀(l:List J) (B:G),Pv B->
  (∀a∈l,∀B,Pv B->∃ZY,g (dn a) B L=some (ZY,L)/\iv2 ZY L=some (((inn a).map dm,none),L)/\Qv a ZY)->
  (∀a∈l,∀b∈inn a,∀B,Qv a B->∃ZY,g2 (dm b) B L=some (ZY,L)/\te ZY L=some (val a b,L)/\Qv a ZY)->
  fO none g da iv2 g2 da te (l.map dn) B L=some (l.flatMap fun a=>(inn a).map (val a),L)
 | [],B,_,_,_=>rfl
 |a::l,B,h,hs,hi=>by
  obtain⟨ZY,e1,e2,h1⟩:=hs a (by simp) B h;obtain⟨ZW,e3,h2⟩:=wK (Qv a) (inn a) ZY h1 (hi a (by simp));have ih:=yw (dm:=dm) (val:=val) Pv Qv hPQ l ZW (hPQ a _ h2) (fun a ha=>hs a (by simp[ha])) fun a ha=>hi a (by simp[ha]);rw[Qc];simp only[fO,e1,bs,da,if_true,e2,e3,iY];have ih':fO none g (fun _ L=>some (true,L)) iv2 g2 (fun _ L=>some (true,L)) te (l.map dn) ZW L=some (l.flatMap fun a=>(inn a).map (val a),L):=ih;rw[show(da:BV)=fun _ L=>some (true,L) from rfl] at*;rw[ih'];rfl
def Ts(n:Nat):List (Nat×Nat):=(List.range n).flatMap fun i=>(List.range (n - (i+1))).map fun j=>(i,i+1+j)
def Lk{n:Nat}{L:M}(hn:n<=100):n6 [.int (n:Int)] L=some (.lst ((Ts n).map dP),L):=by
 unfold n6 uL;rw[ii,if_pos (show [D.int (n:Int)].length=1 from rfl)];show fL (db _ [some (.int (n:Int))] L)=_;have hb:(-1000000000:Int)<=(n:Int)/\(n:Int)<=1000000000:=by omega
 have hr:WG (be 0) [some (.int (n:Int))] L=some (((List.range n).map fun i:Nat=>D.int (i:Int),none),L):=by
  simp[hb,dk]
 have hc:=yw (g:=cR 0) (g2:=cR 1) (iv2:=js (v2 eV (be 0) (vC (.int 1))) (be 2)) (te:=vL eO (cQ (be 0) (cQ (be 1) cU))) (dn:=fun i:Nat=>D.int (i:Int)) (dm:=fun j:Nat=>D.int (j:Int)) (inn:=fun i=>(List.range (n - (i+1))).map fun j=>i+1+j) (val:=fun i j=>dP (i,j))
  (fun B=>∃a b,B=[a,b,some (.int (n:Int))]) (fun i B=>∃b,B=[some (.int (i:Int)),b,some (.int (n:Int))]) (L:=L) (fun i B ⟨b,e⟩=>⟨_,_,e⟩) (List.range n) [none,none,some (.int (n:Int))] ⟨_,_,rfl⟩ ?_ ?_
 .have VY:dM (["i","j"]:List Str) [("many",0)] [some (.int (n:Int))]=[none,none,some (.int (n:Int))]:=rfl;have hlen:((List.range n).flatMap fun i=>((List.range (n - (i+1))).map fun j=>i+1+j).map (fun j=>dP (i,j))).length<=1000000:=by
   rw[List.length_flatMap];have:∀(l:List Nat),(l.map fun i=>(((List.range (n - (i+1))).map fun j=>i+1+j).map (fun j=>dP (i,j))).length).sum<=l.length*n:=by
    intro l;induction l with
    |nil=>simp
    |cons x l ih=>simp only[Qc,List.sum_cons,Qb,Rt,Qj] at ih⊢;rw[Nat.add_mul];omega
   have:=this (List.range n);rw[Rt] at this;have h2:n*n<=100*100:=Nat.mul_le_mul hn hn;omega
  have e:((List.range n).flatMap fun i=>((List.range (n - (i+1))).map fun j=>i+1+j).map (fun j=>dP (i,j)))=(Ts n).map dP:=by
   unfold Ts;rw[List.map_flatMap];congr 1;funext i;rw[QN,QN];rfl
  rw[kU,wM,hr,Be,VY,hc,x6,if_pos hlen,e];rfl
 .rintro i hi B ⟨a,b,rfl⟩;rw[QI] at hi;refine⟨[some (.int (i:Int)),b,some (.int (n:Int))],rfl,?_,⟨_,rfl⟩⟩;have hv:v2 eV (be 0) (vC (.int 1)) [some (.int (i:Int)),b,some (.int (n:Int))] L=some (.int ((i:Int)+1),L):=rfl;have Vz:be 2 [some (.int (i:Int)),b,some (.int (n:Int))] L=some (.int (n:Int),L):=rfl;have _z:((-1000000000:Int)<=(i:Int)+1/\(i:Int)+1<=1000000000)/\-1000000000<=(n:Int)/\(n:Int)<=1000000000:=by omega
  rw[Fb,hv,Ej,Vz,GA,if_pos _z];have e2:((n:Int) - ((i:Int)+1)).toNat=n - (i+1):=by omega
  rw[e2];unfold dk;rw[QN];congr 4
 .rintro i hi j hj B ⟨b,rfl⟩;exact⟨[some (.int (i:Int)),some (.int (j:Int)),some (.int (n:Int))],rfl,rfl,⟨_,rfl⟩⟩
theorem oF{J:Type}{c:Ck}{g:GV}{tc:BV}{te:EV}{dn:J->D}{keep:J->Bool}{val:J->D}(Pv:G->Prop){L:M}{B:G}(hc:de c L)(l:List J)(h0:Pv B)
  (hs:∀a∈l,∀B,Pv B->Wp (g (dn a) B L) fun ZY Z4=>Z4=L/\Pv ZY/\Wp (tc ZY L) fun b Z3=>b=keep a/\Z3=L/\(keep a=true->Wp (te ZY L) fun x ZQ=>x=val a/\ZQ=L)) {R:List D->M->Prop} (hR:R ((l.filter keep).map val) L):Wp (dW c g tc te (l.map dn) B L) R:=by
 refine T8 (fun done r B Z5=>∃i,i<=l.length/\Z5=L/\Pv B/\r=(l.drop i).map dn/\done=((l.take i).filter keep).map val) _ ⟨0,by omega,rfl,h0,rfl,rfl⟩ ?_ ?_
 .rintro done d r B Z5 ⟨i,hi,rfl,hp,e,rfl⟩;have WU:i<l.length:=by
   rcases SD i l.length with z|z
   .exact z
   .rw[QM z] at e;cases e
  rw[QB WU,Qc] at e;cases e;have ht:l.take (i+1)=l.take i++[l[i]]:=by rw[List.take_append_getElem WU]
  refine(hs l[i] (QX WU) B hp).imp fun ZY Z4 ⟨e,Xy,h⟩=>?_;subst e;refine h.imp fun b Z3 ⟨e1,e2,h⟩=>?_;subst e1;subst e2;cases hk:keep l[i] with
  |true=>
   show Wp _ _;refine(h hk).imp fun x ZQ ⟨e1,e2⟩=>?_;subst e1;subst e2;refine⟨hc,i+1,WU,rfl,Xy,rfl,?_⟩;rw[ht,SI,QV];simp[hk]
  |false=>
   show de c _/\_;refine⟨hc,i+1,WU,rfl,Xy,rfl,?_⟩;rw[ht,SI,QV];simp[hk]
 .rintro done B Z5 ⟨i,hi,rfl,_,e,rfl⟩;have:l.length<=i:=by
   have:=congrArg List.length e;simp at this;omega
  rw[List.take_of_length_le this];exact hR
def Gx{L:M}(l:List Bool):i8 (.lst (l.map D.bl)) L=some (.bl (l.all id),L):=by
 have:dQ Xw (l.map D.bl)=some l:=by
  have:=jz (f:=Xw) (g:=D.bl) (h:=id) (l:=l) (fun x _=>rfl);simpa using this
 unfold i8;show(dQ Xw (l.map D.bl)).bind _=_;rw[this];rfl
def Lf(h:a.length+b.length<=1000000):eV (.lst a) (.lst b) L=some (.lst (a++b),L):=if_pos h
def sX{ds:List D}{j:Nat}{v:D}{L:M}(h:ds[j]?=some v):Te (.lst ds) (.int (j:Int)) L=some (v,L):=by
 show(UZ ds (j:Int)).bind _=_;rw[gW h];rfl
def AT{n:Nat}{p:Nat×Nat}(h:p∈Ts n):p.1<n/\p.2<n/\p.1≠p.2:=by
 unfold Ts at h;obtain⟨i,hi,h⟩:=R1.mp h;obtain⟨j,hj,rfl⟩:=Qi.mp h;have h1:=QI.mp hi;have h2:=QI.mp hj;refine⟨h1,?_,?_⟩<;>simp<;>omega
def wpA:=And.intro @wl (And.intro @Ah (And.intro @EK (And.intro @Ml (And.intro @MA (And.intro @Oe (And.intro @Kd (And.intro @Dd (And.intro @D5 (And.intro @Kl (And.intro @Fi (And.intro @Gy (And.intro @Cn (And.intro @Mo (And.intro @Mr (And.intro @KI (And.intro @w_c (And.intro @LH (And.intro @O6 (And.intro @w_T (And.intro @PV (And.intro @Co (And.intro @Dz (And.intro @JH (And.intro @Xk (And.intro @Ez (And.intro @KK (And.intro @DL (And.intro @CH (And.intro @OJ (And.intro @Ix (And.intro @Do (And.intro @PN (And.intro @Nt (And.intro @q1_ (And.intro @q2_ (And.intro @DU (And.intro @qL_ (And.intro @qc_ (And.intro @GM (And.intro @qT_ (And.intro @DM (And.intro @Cq (And.intro @IA (And.intro @De (And.intro @Jd (And.intro @Gb (And.intro @EE (And.intro @Os (And.intro @B3 (And.intro @MF (And.intro @ND (And.intro @Eg (And.intro @EL (And.intro @Hl (And.intro @FZ (And.intro @Cy (And.intro @Ks (And.intro @ET (And.intro @DD (And.intro @Eb (And.intro @Fy (And.intro @G4 (And.intro @NL (And.intro @E3 (And.intro @LS (And.intro @LW (And.intro @Ho (And.intro @Pb (And.intro @Kt (And.intro @Nm (And.intro @TB (And.intro @TH (And.intro @Gv (And.intro @Gj (And.intro @y4 (And.intro @Hs (And.intro @Pl (And.intro @PD (And.intro @vK (And.intro @IG (And.intro @Dw (And.intro @CO (And.intro @OY (And.intro @LN (And.intro @OO (And.intro @HE (And.intro @Ey (And.intro @GQ (And.intro @OU (And.intro @GR (And.intro @Lz (And.intro @Pw (And.intro @Go (And.intro @O0 (And.intro @NU (And.intro @OT (And.intro @Oo (And.intro @Od (And.intro @Eu (And.intro @Dx (And.intro @Ji (And.intro @G0 (And.intro @Ov (And.intro @Dl (And.intro @GY (And.intro @PY (And.intro @GD (And.intro @Fs (And.intro @LY (And.intro @Dr (And.intro @Nc (And.intro @FO (And.intro @HX (And.intro @MP (And.intro @JO (And.intro @Dy (And.intro @Iz (And.intro @Dk (And.intro @O3 (And.intro @Lb (And.intro @Mi (And.intro @B1 (And.intro @Ir (And.intro @NM (And.intro @Dc (And.intro @LZ (And.intro @ES (And.intro @Mb (And.intro @G3 (And.intro @Iy (And.intro @Nd (And.intro @EU (@TR)))))))))))))))))))))))))))))))))))))))))))))))))))))))))))))))))))))))))))))))))))))))))))))))))))))))))))))))))))))))))))))))))))))
local macro_rules | `(tactic| simp!)=>`(tactic| simp only [wpA,List.set_cons_zero,List.set_cons_succ])
local macro_rules | `(tactic| simp! [$ts,*])=>`(tactic| simp only [$ts,*,wpA,List.set_cons_zero,List.set_cons_succ])
def U2(l:List (Option Int)):D:=.lst (l.map dE)
def so3:PyData.strOk "open"=true:=by decide +kernel
def N0{d:D}{ds:List D}{L:M}:Te (.lst (d::ds)) (.int 0) L=some (d,L):=by
 rw[zh,show(0:Int)=((0:Nat):Int) from rfl,gW (j:=0) (v:=d) rfl];rfl
def KG(h0:Z9≠[])(hl:Z9.length<=100000):Wp (i6 gy [.lst (Z9.map U2)] L) fun d Z5=>d=gN (cL Z9)/\Z5=L:=by
 obtain⟨l0,r,rfl⟩:=RA h0;unfold i6 p7;refine(fJ rfl).mpr ?_;show Ws (cV _ _ [some (.lst ((l0::r).map U2)),none] L) _;simp![Qc];rw[N0];simp![U2];generalize hL:l0::r=Z9 at hl;have hLm:D.lst (l0.map dE)::r.map U2=Z9.map U2:=by rw[←hL];rfl
 refine j9 (fun rr B Z5=>Z5=L/\(∃o,B=[some (.lst (D.lst (l0.map dE)::r.map U2)),o])/\∃q,rr=q.map dE/\cL Z9=q.find? fun t=>Z9.all fun l=>decide (t∈l)) _ ⟨rfl,⟨_,rfl⟩,l0,rfl,by rw[←hL];rfl⟩ ?_ ?_
 .rintro d rr B Z5 ⟨rfl,⟨o,rfl⟩,q,e,hq⟩;cases q with
  |nil=>cases e
  |cons t q=>
   cases e;simp![Vi];rw[hLm];refine⟨by simp;omega,?_⟩;show Wp (dW none _ _ _ _ [none,some (dE t)] _) _;refine oF (dn:=U2) (fun B=>∃o,B=[o,some (dE t)]) (c:=none) trivial Z9 ⟨_,rfl⟩ (keep:=fun _=>true) (val:=fun l=>D.bl (decide (t∈l))) ?_ ?_
   .rintro l hl B ⟨o,rfl⟩;simp![U2,yA];exact⟨trivial,⟨_,rfl⟩,trivial,trivial,fun _=>⟨trivial,trivial⟩⟩
   .have ef:(Z9.filter fun _=>true).map (fun l=>D.bl (decide (t∈l)))=(Z9.map fun l=>decide (t∈l)).map D.bl:=by
     rw[SB.mpr (fun _ _=>rfl),QN];rfl
    rw[ef];simp![Gx];have ea:(Z9.map fun l=>decide (t∈l)).all id=Z9.all fun l=>decide (t∈l):=by rw[List.all_map];rfl
    rw[ea];rw[Ql] at hq;cases hb:Z9.all fun l=>decide (t∈l) with
    |true=>
     rw[hb] at hq;simp!;rw[hq];exact⟨rfl,trivial⟩
    |false=>
     rw[hb] at hq;simp!;exact⟨trivial,trivial,⟨_,rfl⟩,q,rfl,hq⟩
 .rintro B Z5 ⟨rfl,⟨o,rfl⟩,q,e,hq⟩;cases q with
  |cons t q=>cases e
  |nil=>
   simp!;rw[hq];exact⟨rfl,trivial⟩
def W8:Tr->D
 | .e x=>dE x
 | .ask i j a b=>.tup [.str "ask",.int (i:Int),.int (j:Int),W8 a,W8 b]
def dO:Option Tr->D
 |none=>.non
 |some t=>W8 t
def BJ(t:Tr):∃ds,W8 t=.tup ds:=by
 cases t with
 |e x=>cases x<;>exact⟨_,rfl⟩
 |ask i j a b=>exact⟨_,rfl⟩
def vo{o:Option Tr}{L:M}:jL (dO o) .non L=some (.bl o.isNone,L):=by
 cases o with
 |none=>rfl
 |some t=>obtain⟨ds,e⟩:=BJ t;show jL (W8 t) .non L=_;rw[e];rfl
def FF{o:Option Tr}{L:M}:ln (dO o) .non L=some (.bl o.isSome,L):=by
 cases o with
 |none=>rfl
 |some t=>obtain⟨ds,e⟩:=BJ t;show ln (W8 t) .non L=_;rw[e];rfl
def dN(l:List Nat):D:=.tup ((l.map fun x:Nat=>(x:Int)).map D.int)
structure Sp (n:Nat) (ps:List (Nat×Nat)) (ss:List (List Int)) (es:List (List (Option Int))):Prop where
 len:es.length=ss.length
 few:ss.length<=2000
 sl:∀s∈ss,s.length=n
 pr:∀p∈ps,p.1<n/\p.2<n
 pl:ps.length<=1000
structure Sr (C:Addr) (ps:List (Nat×Nat)) (ss:List (List Int)) (es:List (List (Option Int))) (L:M) (k m:Nat) (kvs:List (NK×D)):Prop where
 obj:L[k]?=some (some (.ins C [("pairs",.lst (ps.map dP)),("sorts",.lst (ss.map fun s=>.lst (s.map D.int))),("ends",.lst (es.map U2)),("searched",.ref m)]))
 dic:L[m]?=some (some (.dN kvs))
 good:∀p∈kvs,∃(left:List Nat) (a:Nat),p.1=(left.map (fun x:Nat=>(x:Int)),(a:Int))/\p.2=dO (df ps ss es a left)
section
variable {C:Addr} {n:Nat} {ps:List (Nat×Nat)} {ss:List (List Int)} {es:List (List (Option Int))} {L Z5:M} {k m:Nat} {kvs:List (NK×D)}
theorem Sr.ne(h:Sr C ps ss es L k m kvs):k≠m:=fun e=>by
 have h1:=h.obj;rw[e,h.dic] at h1;cases h1
theorem Sr.f1(h:Sr C ps ss es L k m kvs):fC C "pairs" (.ref k) L=some (.lst (ps.map dP),L):=p0 h.obj rfl
theorem Sr.f2(h:Sr C ps ss es L k m kvs):fC C "sorts" (.ref k) L=some (.lst (ss.map fun s=>.lst (s.map D.int)),L):=p0 h.obj rfl
theorem Sr.f3(h:Sr C ps ss es L k m kvs):fC C "ends" (.ref k) L=some (.lst (es.map U2),L):=p0 h.obj rfl
theorem Sr.f4(h:Sr C ps ss es L k m kvs):fC C "searched" (.ref k) L=some (.ref m,L):=p0 h.obj rfl
def cc:Nat->Nat->Nat
 |0,_=>1
 |a+1,o=>1+o*(2*cc a (o - 1))
def Vs(ss:List (List Int))(left:List Nat)(p:Nat×Nat):Bool:=!decide (U9 ss p.1 p.2 left=[])&&!decide (U6 ss p.1 p.2 left=[])
def op(ps:List (Nat×Nat))(ss:List (List Int))(left:List Nat):Nat:=(ps.filter (Vs ss left)).length
theorem Aa{J:Type}{f g:J->Bool}(h:∀x,f x=true->g x=true){p:J}(h1:f p=false)(h2:g p=true):∀{l:List J},p∈l->(l.filter f).length+1<=(l.filter g).length:=by
 have le:∀l:List J,(l.filter f).length<=(l.filter g).length:=by
  intro l;induction l with
  |nil=>simp
  |cons x l ih=>
   rw[Rx,Rx];cases hf:f x with
   |true=>rw[h x hf];simpa using ih
   |false=>cases hg:g x<;>simp<;>omega
 intro l;induction l with
 |nil=>intro m;cases m
 |cons x l ih=>
  intro m;rw[Rx,Rx];rcases Qz.mp m with rfl|m
  .rw[h1,h2];have:=le l;simp;omega
  .have:=ih m;cases hf:f x with
   |true=>rw[h x hf];simp;omega
   |false=>cases hg:g x<;>simp<;>omega
theorem xx{f:Nat->Bool}{l1 l2:List Nat}(hs:∀x∈l1,x∈l2)(h:l2.filter f=[]):l1.filter f=[]:=by
 rw[Rf] at h⊢;exact fun x hx=>h x (hs x hx)
theorem zF{left l1:List Nat}(hs:∀x∈l1,x∈left)(p:Nat×Nat)(h:Vs ss l1 p=true):Vs ss left p=true:=by
 unfold Vs at h⊢;simp only[Qs,Bool.not_eq_true',decide_eq_false_iff_not] at h⊢;exact⟨fun e=>h.1 (xx hs e),fun e=>h.2 (xx hs e)⟩
theorem Nr{left:List Nat}{p:Nat×Nat}(hp:p∈ps)(ho:Vs ss left p=true):op ps ss (U9 ss p.1 p.2 left)+1<=op ps ss left:=by
 refine Aa (zF fun x hx=>(Qq.mp hx).1) ?_ ho hp;have:U6 ss p.1 p.2 (U9 ss p.1 p.2 left)=[]:=by
  unfold U6 U9;rw[Rf];intro x hx;have:=(Qq.mp hx).2;simpa using this
 show Vs ss (U9 ss p.1 p.2 left) p=false;unfold Vs;rw[QC this];simp
theorem FH{left:List Nat}{p:Nat×Nat}(hp:p∈ps)(ho:Vs ss left p=true):op ps ss (U6 ss p.1 p.2 left)+1<=op ps ss left:=by
 refine Aa (zF fun x hx=>(Qq.mp hx).1) ?_ ho hp;have:U9 ss p.1 p.2 (U6 ss p.1 p.2 left)=[]:=by
  unfold U6 U9;rw[Rf];intro x hx;have:=(Qq.mp hx).2;simpa using this
 show Vs ss (U6 ss p.1 p.2 left) p=false;unfold Vs;rw[QC this];rfl
theorem Bh(a o:Nat):1<=cc a o:=by cases a<;>simp[cc]
theorem ou:∀(a:Nat) {o o':Nat},o<=o'->cc a o<=cc a o'
 |0,_,_,_=>P3 _
 |a+1,o,o',h=>by
  show 1+o*(2*cc a (o - 1))<=1+o'*(2*cc a (o' - 1));have h1:=ou a (show o - 1<=o' - 1 by omega);have:=Nat.mul_le_mul h (Nat.mul_le_mul_left 2 h1);omega
abbrev key(left:List Nat)(a:Nat):NK:=(left.map (fun x:Nat=>(x:Int)),(a:Int))
def Tw(C:Addr)(n:Nat)(ps:List (Nat×Nat))(ss:List (List Int))(es:List (List (Option Int)))(a:Nat)(f:C0):Prop:=
 ∀(left:List Nat) (k m:Nat) (kvs:List (NK×D)) (L:M),Sr C ps ss es L k m kvs->left≠[]->(∀x∈left,x<ss.length)->left.length<=2000->(eK kvs (key left a)=none->kvs.length+cc a (op ps ss left)<=15000000)->
  Wp (f [.ref k,dN left,.int (a:Int)] L) fun d Z5=>d=dO (df ps ss es a left)/\∃kvs',Sr C ps ss es Z5 k m kvs'/\kvs'.length<=kvs.length+(if(eK kvs (key left a)).isSome then 0 else cc a (op ps ss left))/\(eK kvs' (key left a)).isSome=true/\Kp m L Z5
theorem Tw.le{c:Nat}{o:Option D}{a b:Nat}(h:a<=b+(if o.isSome then 0 else c)):a<=b+c:=by
 cases o<;>simp at h<;>omega
theorem u3{ds:List D}{j:Nat}{v:D}{L:M}(h:ds[j]?=some v):Te (.lst ds) (.int (j:Int)) L=some (v,L):=by
 rw[zh,gW h];rfl
theorem ix1{x:Nat}{L:M}(hx:x<ss.length):Te (.lst (ss.map fun s=>.lst (s.map D.int))) (.int (x:Int)) L=some (.lst ((ss.getD x []).map D.int),L):=
 u3 (by simp[hx,P7])
theorem ϗ{x i:Nat}{L:M}(S:Sp n ps ss es)(hx:x<ss.length)(hi:i<n):Te (.lst ((ss.getD x []).map D.int)) (.int (i:Int)) L=some (.int (at2 ss x i),L):=by
 have hs:=S.sl _ (QX hx);refine u3 ?_;unfold at2;simp[P7,hx,P9 (show i<(ss[x]).length by omega)]
theorem xZ{ds:List D}{L:M}:oQ (.lst ds) L=some (.tup ds,L):=rfl
theorem Bx{ds:List D}{L:M}{RB:Bool->M->Prop}:F' RB (.tup ds) L↔RB (!ds.isEmpty) L:=⟨fun⟨_,e,q⟩=>by cases e;exact q,fun q=>⟨_,rfl,q⟩⟩
theorem n4{l:List Nat}:(l.map fun x:Nat=>(x:Int)).map D.int=l.map fun x:Nat=>D.int (x:Int):=by rw[QN];rfl
theorem isE:(!((l.map fun x:Nat=>(x:Int)).map D.int).isEmpty)=!decide (l=[]):=by cases l<;>rfl
theorem KC{f:C0}{a:Nat}(S:Sp n ps ss es)(T:Tw C n ps ss es a f){left:List Nat}{p:Nat×Nat}(h:Sr C ps ss es L k m kvs)(hm:p∈ps)(hl:∀x∈left,x<ss.length)(Ym:left.length<=2000)(hc:Vs ss left p=true->kvs.length+2*cc a (op ps ss left - 1)<=15000000):
  Wp (mT f C [.ref k,.int (p.1:Int),.int (p.2:Int),dN left,.int ((a+1:Nat):Int)] L) fun d Z5=>d=dO (gY ss (df ps ss es a) left p)/\∃kvs',Sr C ps ss es Z5 k m kvs'/\kvs'.length<=kvs.length+(if Vs ss left p=true then 2*cc a (op ps ss left - 1) else 0)/\Kp m L Z5:=by
 have hp:=S.pr p hm;unfold mT tt;refine(fJ rfl).mpr ?_;show Ws (cV _ _ [some (.ref k),some (.int (p.1:Int)),some (.int (p.2:Int)),some (dN left),some (.int ((a+1:Nat):Int)),none,none,none,none] L) _;unfold dN;simp![Vi,Qb];refine⟨by omega,?_⟩;rw[n4];refine oF (dn:=fun x:Nat=>D.int (x:Int)) (fun B=>∃o,B=[o,some (.ref k),some (.int (p.1:Int)),some (.int (p.2:Int))]) (c:=none) trivial left ⟨_,rfl⟩ (keep:=fun x=>decide (at2 ss x p.1=at2 ss x p.2)) (val:=fun x:Nat=>D.int (x:Int)) ?_ ?_
 .rintro x hx B ⟨o,rfl⟩;simp![h.f2,ix1 (hl x hx),ϗ S (hl x hx) hp.1,ϗ S (hl x hx) hp.2];exact⟨trivial,⟨_,rfl⟩,trivial,trivial,fun _=>⟨trivial,trivial⟩⟩
 have ea:(left.filter fun x=>decide (at2 ss x p.1=at2 ss x p.2)).map (fun x:Nat=>D.int (x:Int))=((U9 ss p.1 p.2 left).map fun x:Nat=>(x:Int)).map D.int:=by rw[n4];rfl
 rw[ea];simp![xZ,Vi,Qb];refine⟨by omega,?_⟩;refine oF (dn:=fun x:Nat=>D.int (x:Int)) (fun B=>∃o,B=[o,some (.ref k),some (.int (p.1:Int)),some (.int (p.2:Int))]) (c:=none) trivial left ⟨_,rfl⟩ (keep:=fun x=>!decide (at2 ss x p.1=at2 ss x p.2)) (val:=fun x:Nat=>D.int (x:Int)) ?_ ?_
 .rintro x hx B ⟨o,rfl⟩;simp![h.f2,ix1 (hl x hx),ϗ S (hl x hx) hp.1,ϗ S (hl x hx) hp.2];exact⟨trivial,⟨_,rfl⟩,trivial,trivial,fun _=>⟨trivial,trivial⟩⟩
 have eu:(left.filter fun x=>!decide (at2 ss x p.1=at2 ss x p.2)).map (fun x:Nat=>D.int (x:Int))=((U6 ss p.1 p.2 left).map fun x:Nat=>(x:Int)).map D.int:=by rw[n4];rfl
 rw[eu];have la:(U9 ss p.1 p.2 left).length<=2000:=QL (Q4 _ _) Ym;have lu:(U6 ss p.1 p.2 left).length<=2000:=QL (Q4 _ _) Ym;have ma:∀x∈U9 ss p.1 p.2 left,x<ss.length:=fun x hx=>hl x (Qq.mp hx).1;have mu:∀x∈U6 ss p.1 p.2 left,x<ss.length:=fun x hx=>hl x (Qq.mp hx).1;simp![xZ,Bx,isE];unfold gY;have hop:Vs ss left p=(!decide (U9 ss p.1 p.2 left=[])&&!decide (U6 ss p.1 p.2 left=[])):=rfl;have hoa:=Nr (ss:=ss) (left:=left) hm;have hou:=FH (ss:=ss) (left:=left) hm;generalize Vs ss left p=bo at hop hoa hou hc;generalize U9 ss p.1 p.2 left=al at la ma hop hoa;generalize U6 ss p.1 p.2 left=un at lu mu hop hou;by_cases ha:al=[]
 .rw[QC ha,if_pos (.inl ha)];simp![Qw,QH];exact⟨rfl,kvs,h,by omega,.refl⟩
 .rw[Qn ha];simp![Qw,QH,Bx,isE];by_cases hu:un=[]
  .rw[QC hu,if_pos (.inr hu)];simp![Qw,QH];exact⟨rfl,kvs,h,by omega,.refl⟩
  .rw[Qn hu,if_neg (fun z=>z.elim ha hu)];have Γ:bo=true:=by rw[hop,Qn ha,Qn hu];rfl
   subst Γ;have c0:=hc rfl;have c1:=ou a (show op ps ss al<=op ps ss left - 1 by have:=hoa rfl;omega);have c2:=ou a (show op ps ss un<=op ps ss left - 1 by have:=hou rfl;omega);rw[if_pos rfl];simp![Qw,QH];rw[l6 h.obj rfl];simp!;have e1:((a+1:Nat):Int) - 1=(a:Int):=by omega
   rw[e1];refine(T al k m kvs L h ha ma la (fun _=>by omega)).imp ?_;rintro _ Z4 ⟨rfl,U0,h1,hl1,_,g1⟩;have hl1:=Tw.le hl1;simp![vo];cases hta:df ps ss es a al with
   |none=>
    simp![SJ];exact⟨rfl,U0,h1,by omega,g1⟩
   |some ta=>
    simp![SK];rw[l6 h1.obj rfl];simp!;rw[e1];refine(T un k m U0 Z4 h1 hu mu lu (fun _=>by omega)).imp ?_;rintro _ Z3 ⟨rfl,Wh,h2,hl2,_,g2⟩;have hl2:=Tw.le hl2;simp![vo];cases htu:df ps ss es a un with
    |none=>
     simp![SJ];exact⟨rfl,Wh,h2,by omega,g1.trans g2⟩
    |some tu=>
     simp![SK];rw[ig (by simp)];simp!;exact⟨rfl,Wh,h2,by omega,g1.trans g2⟩
end
def Fo{o:Option (Option Int)}{L:M}:U7 (gN o) gy L=some (.bl o.isSome,L):=by
 have key:∀(x:PyData),py 65 L (gN o)=some x->x.canLay0=true->x.depth<=64->PyData.eqv x (.tuple [.str "open"])=!o.isSome->U7 (gN o) gy L=some (.bl o.isSome,L):=by
  intro x h1 h2 h3 h4;have e2:py 65 L gy=some (.tuple [.str "open"]):=rfl;have l2:(PyData.tuple [.str "open"]).canLay0=true:=by simp[PyData.canLay0,PyData.canLayAll0,so3]
  have ee:VZ (gN o) gy L=some (!o.isSome):=by
   have:VZ (gN o) gy L=(py 65 L (gN o)).bind fun d=>(py 65 L gy).bind fun e=>if(d.canLay0&&e.canLay0&&decide (d.depth<=64))=true then some (PyData.eqv d e) else none:=by
    cases o with
    |none=>rfl
    |some t=>cases t<;>rfl
   rw[this,h1,e2];simp only[Rk,h2,l2,QC h3,Bool.and_self,if_true,h4]
  unfold U7;rw[ee];simp
 cases o with
 |none=>exact key (.tuple [.str "open"]) rfl (by simp[PyData.canLay0,PyData.canLayAll0,so3]) (by simp[PyData.depth,PyData.depthAll]) (by simp[PyData.eqv,PyData.eqvAll])
 |some t=>
  refine key (pE t) (v9 t) (vF t) (QL (BM t) (by decide)) ?_;cases t with
  |none=>simp[pE,PyData.eqv,PyData.eqvAll];decide +kernel
  |some t=>simp[pE,PyData.eqv,PyData.eqvAll]
section
variable {C:Addr} {n:Nat} {ps:List (Nat×Nat)} {ss:List (List Int)} {es:List (List (Option Int))} {L Z5:M} {k m:Nat} {kvs:List (NK×D)}
theorem ix3{x:Nat}{L:M}(hx:x<es.length):Te (.lst (es.map U2)) (.int (x:Int)) L=some (U2 (es.getD x []),L):=u3 (by simp[hx,P7])
abbrev tL(C:Addr)(f:C0):C0:=oB (i6 gy) (mT f C) gy C
theorem NP{f:C0}{a:Nat}(S:Sp n ps ss es)(T:∀b,b+1=a->Tw C n ps ss es b f){left:List Nat}(h:Sr C ps ss es L k m kvs)(h0:left≠[])(hl:∀x∈left,x<ss.length)(Ym:left.length<=2000)(hc:kvs.length+cc a (op ps ss left)<=15000000):
  Wp (tL C f [.ref k,dN left,.int (a:Int)] L) fun d Z5=>d=dO (df ps ss es a left)/\∃kvs',Sr C ps ss es Z5 k m kvs'/\kvs'.length+1<=kvs.length+cc a (op ps ss left)/\Kp m L Z5:=by
 unfold tL oB qU;refine(fJ rfl).mpr ?_;show Ws (cV _ _ [some (.ref k),some (dN left),some (.int (a:Int)),none,none,none,none] L) _;unfold dN;simp![Vi,Qb];refine⟨by omega,?_⟩;rw[n4];refine oF (dn:=fun x:Nat=>D.int (x:Int)) (fun B=>∃o,B=[o,some (.ref k)]) (c:=none) trivial left ⟨_,rfl⟩ (keep:=fun _=>true) (val:=fun x:Nat=>U2 (es.getD x [])) ?_ ?_
 .rintro x hx B ⟨o,rfl⟩;simp![h.f3,ix3 (show x<es.length by rw[S.len];exact hl x hx)];exact⟨trivial,⟨_,rfl⟩,trivial,trivial,fun _=>⟨trivial,trivial⟩⟩
 have ev:(left.filter fun _=>true).map (fun x:Nat=>U2 (es.getD x []))=(left.map fun x=>es.getD x []).map U2:=by
  rw[SB.mpr (fun _ _=>rfl),QN];rfl
 rw[ev,←n4];refine(KG (by simpa using h0) (by simp;omega)).imp ?_;rintro _ Z4 ⟨rfl,rfl⟩;simp![Fo];have hcE:cL (left.map fun x=>es.getD x [])=cE es left:=rfl;rw[hcE];have hpos:=Bh a (op ps ss left);cases he:cE es left with
 |some x=>
  simp![RQ];have et:df ps ss es a left=some (.e x):=by cases a<;>simp[df,he]
  rw[et];exact⟨rfl,kvs,h,by omega,.refl⟩
 |none=>
  simp![SL];cases a with
  |zero=>
   have et:df ps ss es 0 left=none:=by simp[df,he]
   rw[et];simp![Int.natCast_zero,SS];exact⟨rfl,kvs,h,by omega,.refl⟩
  |succ a=>
   have ez:decide (((a+1:Nat):Int)=0)=false:=Qn (by omega);rw[ez];simp![h.f1];have et:df ps ss es (a+1) left=ps.findSome? (gY ss (df ps ss es a) left):=by simp[df,he]
   rw[et];have Β:cc (a+1) (op ps ss left)=1+op ps ss left*(2*cc a (op ps ss left - 1)):=rfl;rw[Β] at hc⊢;generalize hq:cc a (op ps ss left - 1)=q at hc⊢;refine j9 (fun rr B Z5=>∃qs kvs' o3 o4 o5 o6,rr=qs.map dP/\(∀p∈qs,p∈ps)/\ps.findSome? (gY ss (df ps ss es a) left)=qs.findSome? (gY ss (df ps ss es a) left)/\B=[some (.ref k),some (.tup ((left.map fun x:Nat=>(x:Int)).map D.int)),some (.int ((a+1:Nat):Int)),o3,o4,o5,o6]/\Sr C ps ss es Z5 k m kvs'/\kvs'.length+op qs ss left*(2*q)<=kvs.length+op ps ss left*(2*q)/\Kp m Z4 Z5) _ ⟨ps,kvs,_,_,_,_,rfl,fun p h=>h,rfl,rfl,h,by omega,.refl⟩ ?_ ?_
   .rintro d rr B Z3 ⟨qs,Wh,o3,o4,o5,o6,e,hm,hf,rfl,h2,hl2,g2⟩;cases qs with
    |nil=>cases e
    |cons p qs=>
     cases e;have e3:op (p::qs) ss left*(2*q)=op qs ss left*(2*q)+(if Vs ss left p=true then 2*q else 0):=by
      unfold op;rw[Rx];cases Vs ss left p with
      |true=>simp[Nat.add_mul]
      |false=>simp
     rw[e3] at hl2;unfold dP;rw[pL (n:=2) rfl];simp!;rw[l6 h2.obj rfl];simp!;refine(KC S (T a rfl) (p:=p) h2 (hm p (by simp)) hl Ym (fun ho=>by rw[hq];rw[if_pos ho] at hl2;omega)).imp ?_;rintro _ ZQ ⟨rfl,Wg,h3,hl3,g3⟩;rw[hq] at hl3;simp![FF];rw[SA] at hf;cases ha:gY ss (df ps ss es a) left p with
     |some t=>
      rw[ha] at hf;simp![RQ];rw[hf];exact⟨rfl,Wg,h3,by omega,g2.trans g3⟩
     |none=>
      rw[ha] at hf;simp![SL];exact⟨trivial,qs,Wg,_,_,_,_,rfl,fun p h=>hm p (by simp[h]),hf,rfl,h3,by omega,g2.trans g3⟩
   .rintro B Z3 ⟨qs,Wh,o3,o4,o5,o6,e,hm,hf,rfl,h2,hl2,g2⟩;cases qs with
    |cons p qs=>cases e
    |nil=>
     simp!;rw[hf];refine⟨rfl,Wh,h2,?_,g2⟩;omega
abbrev uw(C:Addr)(f:C0):C0:=qm (tL C f) C
theorem zU(S:Sp n ps ss es)(T:∀b,b+1=a->Tw C n ps ss es b f):Tw C n ps ss es a (uw C f):=by
 intro left k m kvs L h h0 hl Ym hc;have hpos:=Bh a (op ps ss left);unfold uw qm t8;refine(fJ rfl).mpr ?_;show Ws (cV _ _ [some (.ref k),some (dN left),some (.int (a:Int))] L) _;simp!;rw[ig (by simp)];simp![h.f4];unfold dN;rw[J5 h.dic];simp!;cases hv:eK kvs (left.map (fun x:Nat=>(x:Int)),(a:Int)) with
 |some d=>
  simp![RQ,Qw,h.f4];rw[ig (by simp)];simp!;rw[rK h.dic hv];simp!;obtain⟨UO,a',e1,e2⟩:=h.good _ (sQ hv);have ea:a'=a:=by
   have:=congrArg Prod.snd e1;simp at this;omega
  have el:UO=left:=by
   have:=congrArg Prod.fst e1;simp only at this;exact(List.map_inj_right (fun x y e=>by have e:(x:Int)=(y:Int):=e;omega)).mp this.symm
  subst ea el;exact⟨e2,kvs,h,by simp,by rw[hv];rfl,.refl⟩
 |none=>
  simp![SL,QH];rw[l6 h.obj rfl];simp!;have hc:=hc hv;refine(NP S T (left:=left) h h0 hl Ym hc).imp ?_;rintro _ Z4 ⟨rfl,U0,h1,hl1,g1⟩;simp![h1.f4];rw[ig (by simp)];simp!;rw[G6 h1.dic (by omega)];simp!;cases Ut:eK U0 (left.map (fun x:Nat=>(x:Int)),(a:Int)) with
  |none=>
   obtain⟨w1,w2⟩:=IF (d:=dO (df ps ss es a left)) Ut;rw[w2] at w1;rw[w2];have h2:Sr C ps ss es (Z4.set m (some (.dN (U0++[((left.map (fun x:Nat=>(x:Int)),(a:Int)),dO (df ps ss es a left))])))) k m (U0++[((left.map (fun x:Nat=>(x:Int)),(a:Int)),dO (df ps ss es a left))]):=by
    refine⟨by rw[eR h1.ne];exact h1.obj,eU h1.dic,?_⟩;intro p hp;rcases Qr.mp hp with hp|hp
    .exact h1.good p hp
    .rw[Qu] at hp;subst hp;exact⟨left,a,rfl,rfl⟩
   simp![h2.f4];rw[ig (by simp)];simp!;rw[rK h2.dic w1];simp!;exact⟨trivial,_,h2,by simp;omega,by rw[w1];rfl,g1.trans md⟩
  |some d1=>
   obtain⟨UO,a',e1,e2⟩:=h1.good _ (sQ Ut);have ea:a'=a:=by
    have:=congrArg Prod.snd e1;simp at this;omega
   have el:UO=left:=by
    have:=congrArg Prod.fst e1;simp only at this;exact(List.map_inj_right (fun x y e=>by have e:(x:Int)=(y:Int):=e;omega)).mp this.symm
   subst ea el;have e2:d1=dO (df ps ss es a' UO):=e2;subst e2;have hm1:=sQ Ut;generalize hK:((UO.map (fun x:Nat=>(x:Int)),(a':Int)):NK)=K at Ut hm1;have Xd:(U0.any fun kv=>decide (kv.1=K))=true:=by
    rw[Rb];exact⟨_,hm1,by simp⟩
   have VI:gk U0 K (dO (df ps ss es a' UO))=U0.map fun kv=>if kv.1=K then(kv.1,dO (df ps ss es a' UO)) else kv:=by unfold gk;rw[if_pos Xd]
   rw[VI];have Vy:eK (U0.map fun kv=>if kv.1=K then(kv.1,dO (df ps ss es a' UO)) else kv) K=some (dO (df ps ss es a' UO)):=by
    clear VI Xd hm1 hl1 h1 hc;unfold eK at Ut⊢;induction U0 with
    |nil=>cases Ut
    |cons z r ih=>
     rw[Qc];by_cases hz:z.1=K
     .simp[Ql,hz]
     .simp only[Ql,hz,R3,if_false] at Ut⊢;exact ih Ut
   have h2:Sr C ps ss es (Z4.set m (some (.dN (U0.map fun kv=>if kv.1=K then(kv.1,dO (df ps ss es a' UO)) else kv)))) k m (U0.map fun kv=>if kv.1=K then(kv.1,dO (df ps ss es a' UO)) else kv):=by
    refine⟨by rw[eR h1.ne];exact h1.obj,eU h1.dic,?_⟩;intro p hp;obtain⟨z,hz,rfl⟩:=Qi.mp hp;by_cases e:z.1=K
    .rw[if_pos e];exact⟨UO,a',by rw[hK];exact e,rfl⟩
    .rw[if_neg e];exact h1.good z hz
   simp![h2.f4];rw[ig (by simp)];simp!;rw[←hK] at Vy h2⊢;rw[rK h2.dic Vy];simp!;exact⟨trivial,_,h2,by simp;omega,by rw[Vy];rfl,g1.trans md⟩
def qu(C:Addr):Nat->List D->M->Fr
 |0=>fun _ _=>none
 |f+1=>uw C (qu C f)
theorem yp(S:Sp n ps ss es):∀(a f:Nat),a<f->Tw C n ps ss es a (qu C f)
 |a,0,h=>by omega
 |0,f+1,_=>zU S fun b e=>by omega
 |a+1,f+1,h=>zU S fun b e=>by
  have:b=a:=by omega
  subst this;exact yp S b f (by omega)
end
def zn(h:s∈(Sx n m).map (·.1)):s.length=n:=by
 obtain⟨p,hp,rfl⟩:=Qi.mp h;exact((j1 m n p hp).len)
section
variable {C:Addr} {n:Nat} {ss:List (List Int)} {es:List (List (Option Int))} {L:M}
abbrev uI(C:Addr):C0:=oC n6 C
theorem pf2:e9 "sorts" d [("pairs",p)]=([("pairs",p),("sorts",d)]:List (Str×D)):=by
 unfold e9;rw[if_neg (by decide +kernel)];rfl
theorem pf3:e9 "ends" d [("pairs",p),("sorts",q)]=([("pairs",p),("sorts",q),("ends",d)]:List (Str×D)):=by
 unfold e9;rw[if_neg (by decide +kernel)];unfold e9;rw[if_neg (by decide +kernel)];rfl
theorem pf4:e9 "searched" d [("pairs",p),("sorts",q),("ends",r)]=([("pairs",p),("sorts",q),("ends",r),("searched",d)]:List (Str×D)):=by
 unfold e9;rw[if_neg (by decide +kernel)];unfold e9;rw[if_neg (by decide +kernel)];unfold e9;rw[if_neg (by decide +kernel)];rfl
theorem LQ(hn:n<=100)(hk:L[k]?=some (some (.ins C []))):Wp (uI C [.ref k,.int (n:Int),.lst (ss.map dI),.lst (es.map U2)] L) fun d Z5=>d=.non/\∃m,L.length<=m/\Sr C (Ts n) ss es Z5 k m []/\Kp k L Z5:=by
 unfold uI oC sT;refine(fJ rfl).mpr ?_;show Ws (cV _ _ [some (.ref k),some (.int (n:Int)),some (.lst (ss.map dI)),some (.lst (es.map U2))] L) _;simp![Lk hn];rw[oZ hk (by simp)];simp!;have h1:(L.set k (some (Z7.ins C (e9 "pairs" (.lst ((Ts n).map dP)) []))))[k]?=some (some (Z7.ins C [("pairs",.lst ((Ts n).map dP))])):=eU hk;have g1:Kp k L (L.set k (some (Z7.ins C (e9 "pairs" (.lst ((Ts n).map dP)) [])))):=md;generalize L.set k (some (Z7.ins C (e9 "pairs" (.lst ((Ts n).map dP)) [])))=Z4 at h1 g1;rw[oZ h1 (by simp)];simp!;rw[pf2];have h2:=eU (y:=some (Z7.ins C [("pairs",.lst ((Ts n).map dP)),("sorts",.lst (ss.map dI))])) h1;have g2:Kp k Z4 (Z4.set k (some (Z7.ins C [("pairs",.lst ((Ts n).map dP)),("sorts",.lst (ss.map dI))]))):=md;generalize Z4.set k (some (Z7.ins C [("pairs",.lst ((Ts n).map dP)),("sorts",.lst (ss.map dI))]))=Z3 at h2 g2;rw[oZ h2 (by simp)];simp!;rw[pf3];have h3:=eU (y:=some (Z7.ins C [("pairs",.lst ((Ts n).map dP)),("sorts",.lst (ss.map dI)),("ends",.lst (es.map U2))])) h2;have g3:Kp k Z3 (Z3.set k (some (Z7.ins C [("pairs",.lst ((Ts n).map dP)),("sorts",.lst (ss.map dI)),("ends",.lst (es.map U2))]))):=md;generalize Z3.set k (some (Z7.ins C [("pairs",.lst ((Ts n).map dP)),("sorts",.lst (ss.map dI)),("ends",.lst (es.map U2))]))=ZQ at h3 g3;have g03:=(g1.trans g2).trans g3;have ev:uV [some (.ref k),some (.int (n:Int)),some (.lst (ss.map dI)),some (.lst (es.map U2))] ZQ=some (.ref ZQ.length,ZQ++[some (.dN [])]):=rfl;rw[ev];simp!;have h4:(ZQ++[some (Z7.dN [])])[k]?=some (some (Z7.ins C [("pairs",.lst ((Ts n).map dP)),("sorts",.lst (ss.map dI)),("ends",.lst (es.map U2))])):=T7.get h3;rw[oZ h4 (by simp)];simp!;rw[pf4];have Yn:k<ZQ.length:=(P5.mp h3).1;refine⟨trivial,ZQ.length,g03.len,⟨eU h4,?_,fun p h=>by cases h⟩,(g03.trans OC).trans md⟩;rw[eR (by omega)];simp
theorem MX(h:B[i]?=some (some (.int x)))(hQ:Q .nx (B.set i (some (.int (x+1)))) L):Ws (gZ i nO (vC (.int 1)) B L) Q:=by
 unfold gZ;rw[h];exact TH.mpr hQ
abbrev sZ(C:Addr):C0:=pi (uI C) (qu C 10) C
def cs(o:Nat):Nat->Nat
 |0=>0
 |a+1=>cs o a+cc a o
theorem CU(h:a<=b):cs o a<=cs o b:=by
 induction h with
 |refl=>exact P3 _
 |step _ ih=>exact QL ih (Nat.le_add_right _ _)
theorem OM(hn:n<=100)(S:Sp n (Ts n) ss es)(h0:ss≠[])(hN:N<10)(ht:df (Ts n) ss es N (List.range ss.length)=some t)(YN:∀a,a<N->df (Ts n) ss es a (List.range ss.length)=none)(Β:cs (Ts n).length (N+1)<=15000000):
  Wp (sZ C [.int (n:Int),.lst (ss.map dI),.lst (es.map U2)] L) fun d Z5=>d=.tup [.int (N:Int),W8 t]/\Gr L Z5:=by
 unfold sZ pi uy;refine(fJ rfl).mpr ?_;show Ws (cV _ _ [some (.int (n:Int)),some (.lst (ss.map dI)),some (.lst (es.map U2)),none,none,none] L) _;rw[wl,Ah];refine Ch ?_;simp![Om];refine(LQ (C:=C) (n:=n) (ss:=ss) (es:=es) (k:=L.length) hn (by simp)).imp ?_;rintro _ Z4 ⟨rfl,m,_b,h1,g1⟩;have hml:L.length<=m:=by simp at _b;omega
 have hG:Gr L Z4:=by
  refine⟨by have:=g1.len;simp at this;omega,fun j hj=>?_⟩;rw[g1.at_ j (by simp;omega) (by omega),Qe hj]
 have hlen:(List.range ss.length)≠[]:=by
  intro e;have:=congrArg List.length e;simp at this;exact h0 this
 have hlt:∀x∈List.range ss.length,x<ss.length:=fun x hx=>QI.mp hx;have Uu:(List.range ss.length).length<=2000:=by rw[Rt];exact S.few
 have e5:nG (.int (ss.length:Int)) Z4=some (dN (List.range ss.length),Z4):=by
  have hb:(0:Int)<=(ss.length:Int)/\(ss.length:Int)<=1000000:=by have:=S.few;omega
  unfold nG;simp only;rw[if_pos hb];unfold dN dk;rw[QN];simp
 simp![FT,Qb,e5];refine⟨trivial,?_⟩;refine HC (fun B Z5=>∃a kvs,a<=N/\B=[some (.int (n:Int)),some (.lst (ss.map dI)),some (.lst (es.map U2)),some (.ref L.length),some (dN (List.range ss.length)),some (.int (a:Int))]/\Sr C (Ts n) ss es Z5 L.length m kvs/\kvs.length<=cs (Ts n).length a/\Gr L Z5) (fun B _=>match B with
  | [_,_,_,_,_,some (.int a)]=>N - a.toNat
  |_=>0) 1000000 ⟨0,[],by omega,rfl,h1,P3 _,hG⟩ (by show N - (0:Int).toNat<1000000;omega) ?_
 rintro B Z3 ⟨a,kvs,ha,rfl,h2,hl2,g2⟩;have hca:=CU (o:=(Ts n).length) (show a+1<=N+1 by omega);have X1:cs (Ts n).length (a+1)=cs (Ts n).length a+cc a (Ts n).length:=rfl;have hop:=ou a (show op (Ts n) ss (List.range ss.length)<=(Ts n).length from Q4 _ _);have T:=yp (C:=C) S a 10 (by omega);simp!;rw[l6 h2.obj rfl];simp!;refine(T (List.range ss.length) L.length m kvs Z3 h2 hlen hlt Uu (fun _=>by omega)).imp ?_;rintro _ ZQ ⟨rfl,Wg,h3,hl3,Yn,g3⟩;have hl3:=Tw.le hl3;have Ϧ:Gr L ZQ:=⟨QL g2.len g3.len,fun j hj=>by rw[g3.at_ j (by have:=g2.len;omega) (by omega)];exact g2.at_ j hj⟩
 simp![vo];by_cases _d:a<N
 .rw[YN a _d];simp only[SJ,if_true];refine MX (x:=(a:Int)) rfl ?_;refine⟨⟨a+1,Wg,by omega,by simp,h3,by omega,Ϧ⟩,?_⟩;show N - ((a:Int)+1).toNat<N - (a:Int).toNat
  omega
 .have:a=N:=by omega
  subst this;rw[ht];simp![SK,Qo,if_false];rw[l6 h3.obj rfl];simp!;refine(T (List.range ss.length) L.length m Wg ZQ h3 hlen hlt Uu (fun z=>by rw[z] at Yn;cases Yn)).imp ?_;rintro _ ZE ⟨rfl,kvs4,h4,hl4,_,g4⟩;have hG4:Gr L ZE:=⟨QL Ϧ.len g4.len,fun j hj=>by rw[g4.at_ j (by have:=Ϧ.len;omega) (by omega)];exact Ϧ.at_ j hj⟩
  simp!;rw[ig (by simp)];simp!;rw[ht];exact⟨rfl,hG4⟩
end
def YF(f:Nat->Bool):Nat->Nat
 |0=>0
 |n+1=>YF f n|||(if f n then 2^n else 0)
theorem tW(f:Nat->Bool)(x:Nat):∀n,(YF f n).testBit x=(decide (x<n)&&f x)
 |0=>by simp[YF]
 |n+1=>by
  rw[YF,Nat.testBit_or,tW f x n];have h2:(if f n then 2^n else 0:Nat).testBit x=(decide (n=x)&&f n):=by
   cases f n with
   |true=>simp[Nat.testBit_two_pow]
   |false=>simp
  rw[h2];by_cases e:n=x
  .subst e;simp
  .by_cases h:x<n
   .simp[e,h,show x<n+1 by omega]
   .simp[e,h,show ¬x<n+1 by omega]
def Xp(ps:List (Nat×Nat))(ss:List (List Int)):List (Nat×Nat):=ps.map fun p=>(YF (fun x=>decide (at2 ss x p.1=at2 ss x p.2)) ss.length,YF (fun x=>!decide (at2 ss x p.1=at2 ss x p.2)) ss.length)
def X4(ends:List (Option Int))(es:List (List (Option Int)))(n:Nat):List Nat:=ends.map fun e=>YF (fun x=>decide (e∈es.getD x [])) n
def Dh(ps:List (Nat×Nat))(ss:List (List Int))(es:List (List (Option Int)))(ends:List (Option Int))(h:∀x,x<ss.length->∀e∈es.getD x [],e∈ends):Mk ps ss es (Xp ps ss) (X4 ends es ss.length) ends:=by
 refine⟨by simp[Xp],?_,by simp[X4],?_,h⟩
 .intro k p q hp hq x hx;simp only[Xp,Qm,hp,R7,SU] at hq;subst hq;simp[tW,hx]
 .intro k e q he hq x hx;simp only[X4,Qm,he,R7,SU] at hq;subst hq;simp[tW,hx]
def c8(n m:Nat):List (List Int):=(Sx n m).map (·.1)
def dH(n m:Nat):List (List (Option Int)):=(c8 n m).map hE
def fQ(n:Nat):List (Option Int):=none::(List.range n).map fun t:Nat=>some (t:Int)
def GG(n:Nat):Ms (List.range n) (2^n - 1):=fun x=>by rw[QI,Nat.testBit_two_pow_sub_one];simp
def qw(hL:(c8 n m).length=Z9)(h0:0<Z9)(he:((dH n m).all fun l=>l.all fun e=>decide (e∈fQ n))=true)(h1:Xp (Ts n) (c8 n m)=pm)(h2:X4 (fQ n) (dH n m) Z9=em)(h3:iM pm em a (2^Z9 - 1)=true):∀b,b<=a->df (Ts n) (c8 n m) (dH n m) b (List.range (c8 n m).length)=none:=by
 have top:df (Ts n) (c8 n m) (dH n m) a (List.range (c8 n m).length)=none:=by
  have K:=Dh (Ts n) (c8 n m) (dH n m) (fQ n) (fun x hx e h=>by
   have _O:x<(dH n m).length:=by simp[dH];exact hx
   have hm:(dH n m).getD x []∈dH n m:=by rw[P7,P9 _O];exact QX _
   have:=QE.mp (QE.mp he _ hm) e h;simpa using this)
  rw[hL] at K;rw[h1,h2] at K;refine none_of K a _ _ (GG _) (fun x hx=>QI.mp hx) ?_ (by rw[hL];exact h3);intro e;have:=congrArg List.length e;rw[Rt,hL] at this;simp at this;omega
 intro b hb;have step:∀k,∀b,b+k=a->df (Ts n) (c8 n m) (dH n m) b (List.range (c8 n m).length)=none:=by
  intro k;induction k with
  |zero=>
   intro b e;have:b=a:=by omega
   subst this;exact top
  |succ k ih=>
   intro b e;exact y3 _ _ (ih (b+1) (by omega))
 exact step (a - b) b (by omega)
def Y0(ps:List (Nat×Nat)):Tr->Bool
 | .e _=>true
 | .ask i j a b=>decide ((i,j)∈ps)&&(Y0 ps a&&Y0 ps b)
theorem qY:∀{t:Tr},Y0 ps t=true->wf ps t
 | .e _,_=>trivial
 | .ask i j a b,h=>by
  simp only[Y0,Qs,QQ] at h;exact⟨h.1,qY h.2.1,qY h.2.2⟩
def j3(n m N:Nat)(t:Tr):Bool:=Y0 (Ts n) t&&(decide (dep t<=N)&&((List.range (c8 n m).length).all fun x=>decide (eF ((c8 n m).getD x []) t∈(dH n m).getD x [])))
structure XQ (n m N:Nat):Prop where
 pos:0<(c8 n m).length
 yes:∃t,df (Ts n) (c8 n m) (dH n m) N (List.range (c8 n m).length)=some t
 no:∀a,a<N->df (Ts n) (c8 n m) (dH n m) a (List.range (c8 n m).length)=none
def uc(h:0<(c8 n m).length):List.range (c8 n m).length≠[]:=fun e=>by
 have:=congrArg List.length e;rw[Rt] at this;simp at this;rw[this] at h;exact absurd h (by decide)
def nQ(hp:0<(c8 n m).length)(t:Tr)(h:j3 n m N t=true):∃t,df (Ts n) (c8 n m) (dH n m) N (List.range (c8 n m).length)=some t:=by
 simp only[j3,Qs,QQ] at h;obtain⟨h1,h2,h3⟩:=h;cases ht:df (Ts n) (c8 n m) (dH n m) N (List.range (c8 n m).length) with
 |some t=>exact⟨t,rfl⟩
 |none=>
  obtain⟨x,hx,q⟩:=xq N _ (uc hp) ht t (qY h1) h2;have:=QE.mp h3 x hx;exact absurd (by simpa using this) q
def XQ.tr(F:XQ n m N)(h:df (Ts n) (c8 n m) (dH n m) N (List.range (c8 n m).length)=some t):wf (Ts n) t/\dep t=N/\∀s∈c8 n m,eF s t∈hE s:=by
 obtain⟨h1,h2,h3⟩:=Np N _ _ h;refine⟨h1,?_,fun s hs=>?_⟩
 .refine QT fun hne=>?_;obtain⟨x,hx,q⟩:=xq (dep t) _ (uc F.pos) (F.no (dep t) (by omega)) t h1 (P3 _);exact q (h3 x hx)
 .obtain⟨x,hx,rfl⟩:=List.getElem_of_mem hs;have:=h3 x (QI.mpr hx);have e1:(c8 n m).getD x []=(c8 n m)[x]:=by simp[P7,hx]
  have e2:(dH n m).getD x []=hE (c8 n m)[x]:=by simp[dH,P7,hx]
  rw[e1,e2] at this;exact this
def Bz:(c8 1 1).length=1:=by decide +kernel
def xV:Tr:=.e (some 0)
def Mm:j3 1 1 0 xV=true:=by decide +kernel
def IP:XQ 1 1 0:=⟨by rw[Bz];decide,nQ (by rw[Bz];decide) xV Mm,fun a ha=>absurd ha (Nat.not_lt_zero _)⟩
def wn:(c8 2 2).length=2:=by decide +kernel
def AX:Tr:=.ask 0 1 (.e (some 0)) (.e none)
def HF:j3 2 2 1 AX=true:=by decide +kernel
def Ma:((dH 2 2).all fun l=>l.all fun e=>decide (e∈fQ 2))=true:=by decide +kernel
def OZ:Xp (Ts 2) (c8 2 2)=[(1,2)]:=by decide +kernel
def Ki:X4 (fQ 2) (dH 2 2) 2=[2,1,1]:=by decide +kernel
def NB:iM [(1,2)] [2,1,1] 0 (2^2 - 1)=true:=by decide +kernel
def Iq:XQ 2 2 1:=⟨by rw[wn];decide,nQ (by rw[wn];decide) AX HF,fun a ha=>qw wn (by decide) Ma OZ Ki NB a (by omega)⟩
def tI:(c8 3 3).length=5:=by decide +kernel
def xR:Tr:=.ask 0 1 (.e (some 0)) (.ask 0 2 (.e (some 0)) (.ask 1 2 (.e (some 1)) (.e none)))
def C1:j3 3 3 3 xR=true:=by decide +kernel
def Hv:((dH 3 3).all fun l=>l.all fun e=>decide (e∈fQ 3))=true:=by decide +kernel
def M3:Xp (Ts 3) (c8 3 3)=[(3,28),(5,26),(9,22)]:=by decide +kernel
def NE:X4 (fQ 3) (dH 3 3) 5=[16,7,11,13]:=by decide +kernel
def B0:iM [(3,28),(5,26),(9,22)] [16,7,11,13] 2 (2^5 - 1)=true:=by decide +kernel
def JZ:XQ 3 3 3:=⟨by rw[tI];decide,nQ (by rw[tI];decide) xR C1,fun a ha=>qw tI (by decide) Hv M3 NE B0 a (by omega)⟩
def tp:(c8 4 4).length=15:=by decide +kernel
def yL:Tr:=.ask 0 1 (.ask 0 2 (.e (some 0)) (.ask 0 3 (.e (some 0)) (.e none))) (.ask 0 2 (.ask 0 3 (.e (some 0)) (.e none)) (.ask 1 2 (.ask 1 3 (.e (some 1)) (.e none)) (.e none)))
def MH:j3 4 4 4 yL=true:=by decide +kernel
def DH:((dH 4 4).all fun l=>l.all fun e=>decide (e∈fQ 4))=true:=by decide +kernel
def NO:Xp (Ts 4) (c8 4 4)=[(31,32736),(227,32540),(2341,30426),(1795,30972),(4677,28090),(8745,24022)]:=by decide +kernel
def Cm:X4 (fQ 4) (dH 4 4) 15=[32216,39,519,547,549]:=by decide +kernel
def Oi:iM [(31,32736),(227,32540),(2341,30426),(1795,30972),(4677,28090),(8745,24022)] [32216,39,519,547,549] 3 (2^15 - 1)=true:=by decide +kernel
def D6:XQ 4 4 4:=⟨by rw[tp];decide,nQ (by rw[tp];decide) yL MH,fun a ha=>qw tp (by decide) DH NO Cm Oi a (by omega)⟩
def ul:(c8 5 5).length=52:=by decide +kernel
def xX:Tr:=.ask 0 1 (.ask 0 2 (.e (some 0)) (.ask 0 3 (.e (some 0)) (.ask 0 4 (.e (some 0)) (.ask 2 3 (.ask 2 4 (.e (some 2)) (.e none)) (.e none))))) (.ask 0 2 (.ask 0 3 (.e (some 0)) (.ask 0 4 (.e (some 0)) (.ask 1 3 (.ask 1 4 (.e (some 1)) (.e none)) (.e none)))) (.ask 1 3 (.ask 0 4 (.ask 1 2 (.e (some 1)) (.e none)) (.ask 1 2 (.e (some 1)) (.ask 1 4 (.e (some 1)) (.e none)))) (.ask 2 4 (.ask 1 2 (.e (some 1)) (.ask 2 3 (.e (some 2)) (.e none))) (.ask 0 3 (.ask 0 4 (.e (some 0)) (.e none)) (.e none)))))
def Mv:j3 5 5 6 xX=true:=by decide +kernel
def DG:((dH 5 5).all fun l=>l.all fun e=>decide (e∈fQ 5))=true:=by decide +kernel
def KY:Xp (Ts 5) (c8 5 5)=[(32767,4503599627337728),(33521695,4503599593848800),(515631186147,4503083996184348),(150120148797733,4353479478572762),(34326183967,4503565301186528),(8248218091747,4495351409278748),(300240297593125,4203359329777370),(131943274612483,4371656352758012),(600475689062981,3903123938307514),(1162227319611945,3341372307758550)]:=by decide +kernel
def JC:X4 (fQ 5) (dH 5 5) 52=[4467275106120704,34395884031,1105753278975,35190615802399,36320156812003,36323178875685]:=by decide +kernel
def Hb:iM [(32767,4503599627337728),(33521695,4503599593848800),(515631186147,4503083996184348),(150120148797733,4353479478572762),(34326183967,4503565301186528),(8248218091747,4495351409278748),(300240297593125,4203359329777370),(131943274612483,4371656352758012),(600475689062981,3903123938307514),(1162227319611945,3341372307758550)] [4467275106120704,34395884031,1105753278975,35190615802399,36320156812003,36323178875685] 5 (2^52 - 1)=true:=by decide +kernel
def Js:XQ 5 5 6:=⟨by rw[ul];decide,nQ (by rw[ul];decide) xX Mv,fun a ha=>qw ul (by decide) DG KY JC Hb a (by omega)⟩
def JB:∀n<8,∀p∈Ts n,p.1<n/\p.2<n:=by decide +kernel
def O2:∀n<8,(Ts n).length<=1000:=by decide +kernel
def N8{n m:Nat}(hn:n<=7):Sp n (Ts n) (c8 n m) (dH n m):=by
 refine⟨by simp[dH],?_,fun s hs=>zn hs,fun p hp=>JB n (by omega) p hp,O2 n (by omega)⟩;have:=qb hn m;simp only[c8,Qb];omega
section
variable {C CN CT:Addr} {n m:Nat} {L:M}
abbrev qO(CT:Addr):FX:=kY hU (.int 7) CT
theorem Dt(h1:lo<=(n:Int))(h2:(n:Int)<=hi):Wp (mY CN CT [.int (n:Int),.int lo,.int hi] L) fun r Z5=>r=.ok .non/\Z5=L:=by
 unfold mY wb;refine(sV rfl).mpr ?_;show Wt (fg _ _ [some (.int (n:Int)),some (.int lo),some (.int hi)] L) _;simp!;rw[Qn (by omega)];simp!;rw[Qn (by omega)];simp!;exact⟨trivial,trivial⟩
theorem xt(hm:∀s∈c8 n m,(dz s).length<=1000)(hn:n<=7):∀(l:List (List Int)) (o:Option D) (L:M),(∀s∈l,s∈c8 n m)->
  ∃Z5,dW none (cR 0) da (vL gX (cQ (be 0) cU)) (l.map dI) [o] L=some ((l.map hE).map U2,Z5)/\Gr L Z5
 | [],o,L,_=>⟨L,rfl,.refl⟩
 |s::l,o,L,h=>by
  have hs:=h s (by simp);obtain⟨Z4,e1,g1⟩:=yN (s:=s) (L:=L) (by rw[zn hs];omega) (hm s hs);obtain⟨Z3,e2,g2⟩:=xt hm hn l (some (dI s)) Z4 (fun x hx=>h x (by simp[hx]));refine⟨Z3,?_,g1.trans g2⟩;have hg:cR 0 (dI s) [o] L=some ([some (dI s)],L):=rfl;have hv:vL gX (cQ (be 0) cU) [some (dI s)] L=some (U2 (hE s),Z4):=e1;rw[Qc];simp only[dW,hg,bs];show(da _ _).bind _=_;simp only[da,bs,if_true,hv,iY];rw[e2];rfl
abbrev rc(C CT:Addr):FX:=p5 gX (sZ C) (qO CT)
theorem Cu(hn:n<=7)(hN:N<10)(hm:∀s∈c8 n m,(dz s).length<=1000)(F:XQ n m N)(X1:cs (Ts n).length (N+1)<=15000000)(ht:df (Ts n) (c8 n m) (dH n m) N (List.range (c8 n m).length)=some t):
  Wp (rc C CT [.int (n:Int),.int (m:Int)] L) fun r Z5=>r=.ok (.tup [.int (N:Int),W8 t])/\Gr L Z5:=by
 unfold rc p5 tH;refine(sV rfl).mpr ?_;show Wt (fg _ _ [some (.int (n:Int)),some (.int (m:Int)),none] L) _;simp!;have ea:qO CT [.int (n:Int),.int (m:Int)] L=some (.ok (.lst ((c8 n m).map dI)),L):=by
  have:=wj (L:=L) (n:=n) (k:=(m:Int)) (C:=CT) (by omega);rw[show((m:Int)).toNat=m by omega] at this;rw[show(c8 n m).map dI=(Sx n m).map dS by simp[c8,dS,Function.comp_def]];exact this
 rw[ea];simp!;rw[Vi];have S:=N8 (n:=n) (m:=m) hn;refine⟨by have:=S.few;(try simp);omega,?_⟩;obtain⟨Z4,e1,g1⟩:=xt hm hn (c8 n m) none L fun s hs=>hs;refine kZ e1 ?_;simp!;have hne:c8 n m≠[]:=List.ne_nil_of_length_pos F.pos;refine(OM (C:=C) (L:=Z4) (by omega) S hne hN ht F.no X1).imp ?_;rintro _ Z3 ⟨rfl,g2⟩;simp!;exact⟨trivial,g1.trans g2⟩
end
structure WL (kd:D) (ks:List Int):Prop where
 ls:∀L,dC L kd=some (ks.map D.int)
 tr:∀L,Vd L kd=some (!ks.isEmpty)
def WL.ix(h:WL kd ks)(L:M)(hi:i<ks.length):Te kd (.int (i:Int)) L=some (.int (ks.getD i 0),L):=by
 unfold Te;simp only[h.ls];rw[gW (v:=D.int (ks.getD i 0)) (by rw[Qm,getD_some hi];rfl)];rfl
def WL.len(h:WL kd ks)(L:M):dU kd L=some (.int (ks.length:Int),L):=by
 unfold dU;simp only[h.ls,Qb]
theorem GN(h:WL kd ks)(hk:L[k]?=some (some (.lst (as.map dA))))(hi:i<ks.length)(hj:j<ks.length)(hl:as.length<1000000):
  gp [kd,.ref k,.int (i:Int),.int (j:Int)] L=some (.bl (dq ks i j),L.set k (some (.lst ((as++[(i,j,dq ks i j)]).map dA)))):=by
 have e:decide (ks.getD i 0=ks.getD j 0)=dq ks i j:=rfl;simp[gp,sO,h.ix L hi,h.ix L hj,h9 hk,iE hk,fq,hl,dA];simp only[←P7,e];simp
def UG(p:Nat×Bool):Key×D:=(.inl (p.1:Int),.bl p.2)
def jK(hk:L[k]?=some (some (.dK kvs))):dD L (.ref k)=some kvs:=by simp only[dD];rw[hk]
theorem yn:∀kn:List (Nat×Bool),(kn.map (·.2)).count true=(kn.filter (·.2)).length
 | []=>rfl
 |(n,b)::r=>by have ih:=yn r;cases b<;>simp[ih]
def Am{L:M}{k:Nat}{kn:List (Nat×Bool)}(hk:L[k]?=some (some (.dK (kn.map UG)))):mo (.ref k) L=some (.int ((kn.filter (·.2)).length:Int),L):=by
 have e:(kn.map UG).map (·.2)=(kn.map (·.2)).map D.bl:=by simp[UG]
 have e2:=yn kn;simp only[mo,jK hk,bs,e,vV,e2]
def Gi{L:M}{k:Nat}{kn:List (Nat×Bool)}(hk:L[k]?=some (some (.dK (kn.map UG)))):pA (.ref k) L=some (.int (kn.length:Int),L):=by
 simp only[pA,jK hk,bs,Qb]
def DY(kn:List (Nat×Bool))(n:Nat):(eY (kn.map UG) (.inl (n:Int))).isSome=decide (n∈kn.map (·.1)):=by
 induction kn with
 |nil=>rfl
 |cons p r ih=>
  obtain⟨m,b⟩:=p;by_cases e:m=n
  .subst e;simp[eY,UG]
  .have e':¬((Sum.inl (m:Int):Key)=.inl (n:Int)):=fun z=>e (by injection z with z;omega);have e2:¬n=m:=fun z=>e z.symm;simp only[eY,Qc,UG,Ql,e',R3,Qz,e2,false_or] at ih⊢;exact ih
def NX(kn:List (Nat×Bool))(n:Nat):((kn.map UG).any fun kv=>decide (kv.1=(.inl (n:Int):Key)))=decide (n∈kn.map (·.1)):=by
 induction kn with
 |nil=>rfl
 |cons p r ih=>
  obtain⟨m,b⟩:=p;rw[Qc,Re,ih];by_cases e:m=n
  .subst e;simp[UG]
  .have e':¬((Sum.inl (m:Int):Key)=.inl (n:Int)):=fun z=>e (by injection z with z;omega);have e2:¬n=m:=fun z=>e z.symm;simp[UG,e',e2]
def v4{kn:List (Nat×Bool)}{n:Nat}(b:Bool)(h:n∉kn.map (·.1)):eM (kn.map UG) (.inl (n:Int)) (.bl b)=(kn++[(n,b)]).map UG:=by
 unfold eM;rw[NX,if_neg (by simpa using h)];simp[UG]
theorem Bu:∀(more kn:List (Nat×Bool)),(more.map (·.1)).Nodup->(∀x∈more,x.1∉kn.map (·.1))->i7 (kn.map UG) (more.map UG)=(kn++more).map UG
 | [],kn,_,_=>by simp[i7]
 |p::r,kn,hn,hd=>by
  obtain⟨m,b⟩:=p;have h1:=v4 b (hd (m,b) (by simp));rw[Qc,RS] at hn;have ih:=Bu r (kn++[(m,b)]) hn.2 fun x hx=>by
   simp only[QV,Qc,RP,Qr,Qu,not_or];exact⟨hd x (by simp[hx]),fun z=>hn.1 (Qi.mpr ⟨x,hx,z⟩)⟩
  have e:i7 (kn.map UG) (((m,b)::r).map UG)=i7 (eM (kn.map UG) (.inl (m:Int)) (.bl b)) (r.map UG):=rfl;rw[e,h1,ih];simp
theorem xw(ks:List Int):∀n,(∀a∈(UI ks n).1,a.1<a.2.1/\a.2.1<=n)/\((UI ks n).1.map fun a=>a.2.1).Nodup/\(UI ks n).2.1<=n
 |0=>by simp[UI]
 |n+1=>by
  obtain⟨h1,h2,h3⟩:=xw ks n;unfold UI;split
  .refine⟨fun a ha=>?_,?_,by show(UI ks n).2.1<=n+1;omega⟩
   .rcases Qr.mp ha with ha|ha
    .have:=h1 a ha;exact⟨this.1,by omega⟩
    .rw[Qu] at ha;subst ha;exact⟨by show(UI ks n).2.1<n+1;omega,P3 _⟩
   .rw[QV,Rr];refine⟨h2,by simp,fun x hx y hy=>?_⟩;obtain⟨a,ha,rfl⟩:=Qi.mp hx;have:=(h1 a ha).2;simp at hy;omega
  .exact⟨fun a ha=>by have:=h1 a ha;exact⟨this.1,by omega⟩,h2,P3 _⟩
def eA(t:Nat)(as:List Ask):List (Nat×Bool):=(as.filter fun a=>decide (a.1=t)).map fun a=>(a.2.1,a.2.2)
def sd(t:Nat)(a:Ask)(r:List Ask):eA t (a::r)=if a.1=t then(a.2.1,a.2.2)::eA t r else eA t r:=by
 unfold eA;rw[Rx];split<;>simp_all
def Rel(kn:List (Nat×Bool))(s:List Ask×List Nat×List Nat):Prop:=(kn.filter (·.2)).map (·.1)=s.2.1/\(kn.filter (fun p=>!p.2)).map (·.1)=s.2.2
theorem wL:∀kn:List (Nat×Bool),kn.length=(kn.filter (·.2)).length+(kn.filter (fun p=>!p.2)).length
 | []=>rfl
 |(n,b)::r=>by have ih:=wL r;cases b<;>simp[ih]<;>omega
def Rel.lens(r:Rel kn s):(kn.filter (·.2)).length=s.2.1.length/\kn.length=s.2.1.length+s.2.2.length:=by
 have h1:(kn.filter (·.2)).length=s.2.1.length:=by rw[←r.1,Qb]
 have h2:(kn.filter (fun p=>!p.2)).length=s.2.2.length:=by rw[←r.2,Qb]
 exact⟨h1,by rw[wL,h1,h2]⟩
def Rel.mem(r:Rel kn s)(n:Nat):n∈kn.map (·.1)↔n∈s.2.1\/n∈s.2.2:=by
 rw[←r.1,←r.2];simp only[Qi,Qq];constructor
 .rintro⟨p,hp,rfl⟩;cases hb:p.2
  .exact .inr ⟨p,⟨hp,by simp[hb]⟩,rfl⟩
  .exact .inl ⟨p,⟨hp,hb⟩,rfl⟩
 .rintro(⟨p,⟨hp,_⟩,rfl⟩|⟨p,⟨hp,_⟩,rfl⟩)<;>exact⟨p,hp,rfl⟩
def oE(j:Int):Ul 2 j:=.inl ⟨by decide,by decide⟩
theorem CM{L:M}{k n R Wn:Nat}{kn:List (Nat×Bool)}(hk:L[k]?=some (some (.dK (kn.map UG))))(h1:(kn.filter (·.2)).length=R)(h2:kn.length=R+Wn):
  jE [.int (n:Int),.ref k] L=some (.bl (decide (n<2*R)||decide (n<=2*Wn)),L):=by
 have a1:=Am hk;have a2:=Gi hk;rw[h1] at a1;rw[h2] at a2;by_cases c1:n<2*R
 .have d1:(n:Int)<2*(R:Int):=by omega
  simp[jE,m6,oE,a1,a2,c1,d1]
 .have d1:¬(n:Int)<2*(R:Int):=by omega
  by_cases c2:n<=2*Wn
  .have d2:2*((n:Int) - (((R+Wn:Nat):Int) - (R:Int)))<=(n:Int):=by omega
   simp only[Int.natCast_add] at a2 d2;simp[jE,m6,oE,a1,a2,c1,d1,c2,d2]
  .have d2:¬2*((n:Int) - (((R+Wn:Nat):Int) - (R:Int)))<=(n:Int):=by omega
   simp only[Int.natCast_add] at a2 d2;simp[jE,m6,oE,a1,a2,c1,d1,c2,d2]
def OX{L:M}{k n:Nat}{kn:List (Nat×Bool)}(hk:L[k]?=some (some (.dK (kn.map UG)))):nA true (.int (n:Int)) (.ref k) L=some (.bl (!decide (n∈kn.map (·.1))),L):=by
 simp only[nA,fu,bs,jK hk,DY,Tc]
def GP(hs:ks.length<=1000)(hi:i<=ks.length):(Tu ks i).1.length<1000000/\(Tu ks i).2.1.length+(Tu ks i).2.2.length<1000000:=by
 have h1:=xb (ks:=ks) (n:=i);have h2:=qv ks;have h3:=HG ks;have h4:=D0 ks;omega
theorem z6(t:Nat):∀as:List Ask,((eA t as).filter (·.2)).map (·.1)=(as.filter fun a=>decide (a.1=t)&&a.2.2).map fun a=>a.2.1
 | []=>rfl
 |(i,j,b)::r=>by
  have ih:=z6 t r;rw[sd];by_cases e:i=t<;>cases b<;>simp[e,ih]
theorem yM(t:Nat):∀as:List Ask,((eA t as).filter (fun p=>!p.2)).map (·.1)=(as.filter fun a=>decide (a.1=t)&&!a.2.2).map fun a=>a.2.1
 | []=>rfl
 |(i,j,b)::r=>by
  have ih:=yM t r;rw[sd];by_cases e:i=t<;>cases b<;>simp[e,ih]
def Hk(ks:List Int):((eA (c7 ks) (dv ks)).map (·.1)).Nodup/\∀p∈eA (c7 ks) (dv ks),p.1≠c7 ks:=by
 obtain⟨h1,h2,h3⟩:=xw ks (ks.length - 1);have e:(eA (c7 ks) (dv ks)).map (·.1)=((dv ks).filter fun a=>decide (a.1=c7 ks)).map fun a=>a.2.1:=by simp[eA]
 refine⟨?_,fun p hp=>?_⟩
 .rw[e];exact List.Nodup.sublist (List.filter_sublist.map _) h2
 .unfold eA at hp;obtain⟨a,ha,rfl⟩:=Qi.mp hp;obtain⟨ha,hb⟩:=Qq.mp ha;have:=(h1 a ha).1;simp at hb;show a.2.1≠c7 ks;omega
def Yw:Option Nat->D
 |none=>.tup [.str "none"]
 |some t=>.tup [.str "one",.int (t:Int)]
def pW{L:M}{d:D}{t:Nat}{b:Bool}:mq [d,.int (t:Int),.bl b] L=some (.tup [d,Yw (if b then some t else none)],L):=by
 cases b<;>simp[mq,uo,Yw]
def Dj(ks:List Int)(i j:Nat):dq ks i j=dq ks j i:=by
 unfold dq;rw[Q9];simp[eq_comm]
def Fh(ks:List Int)(i:Nat):dq ks i i=true:=by unfold dq;simp
theorem oz(ks:List Int)(t x:Nat)(r:List Nat)(left:Nat)(a:List Ask):eX ks t (x::r) left a=
  if dq ks x t then(match r with| []=>((if x=t then a else a++[(t,x,dq ks x t)]),some t)|_::r'=>eX ks t r' left (if x=t then a else a++[(t,x,dq ks x t)]))
  else if left=0 then((if x=t then a else a++[(t,x,dq ks x t)]),none) else eX ks t r (left - 1) (if x=t then a else a++[(t,x,dq ks x t)]):=by
 cases r with
 |nil=>simp[eX]
 |cons y r=>rw[eX]
section
variable {kd:D} {ks:List Int}
theorem qa(h:WL kd ks)(hk:L[k]?=some (some (.lst (as.map dA))))(hi:i<ks.length)(hj:j<ks.length)(hl:as.length<1000000)
  (hR:R (.bl (dq ks i j)) (L.set k (some (.lst ((as++[(i,j,dq ks i j)]).map dA))))):Wp (gp [kd,.ref k,.int (i:Int),.int (j:Int)] L) R:=kZ (GN h hk hi hj hl) hR
theorem Km(h:WL kd ks)(hn:0<ks.length)(hs:ks.length<=1000)(ha:L[a]?=some (some (.lst []))):
  Wp (mX gp [kd,.ref a] L) fun d Z5=>d=.int (c7 ks:Int)/\Z5=L.set a (some (.lst ((dv ks).map dA))):=by
 unfold mX sF;refine(fJ rfl).mpr ?_;show Ws (cV _ _ [some kd,some (.ref a),none,none,none] L) _;simp![PP,Mt,h.len];refine(vP (by omega)).mpr ?_;simp!;refine yk (fun i B Z5=>∃(o:Option D) (t:Nat) (c:Int) (as:List Ask),B=[some kd,some (.ref a),some (.int (t:Int)),some (.int c),o]/\Z5=L.set a (some (.lst (as.map dA)))/\((i=0/\as=[]/\t=0/\c=0)\/∃j,i=j+1/\UI ks j=(as,t,c)/\0<=c)) ⟨none,0,0,[],rfl,(sf ha).symm,.inl ⟨rfl,rfl,rfl,rfl⟩⟩ ?_ ?_
 .rintro j B Z4 hj ⟨o,t,c,as,rfl,rfl,hh⟩;have hk:(L.set a (some (.lst (as.map dA))))[a]?=some (some (.lst (as.map dA))):=eU ha;have hset:∀x:Option Z7,(L.set a (some (.lst (as.map dA)))).set a x=L.set a x:=fun x=>S3 ..;rcases hh with⟨rfl,rfl,rfl,rfl⟩|⟨n,rfl,hr,hc⟩
  .have e0:decide ((0:Int)=0)=true:=by decide
   simp![SS,qZ,ug];refine⟨_,0,1,[],rfl,rfl,.inr ⟨0,rfl,?_,by omega⟩⟩;have:ks≠[]:=fun z=>by rw[z] at hn;simp at hn
   simp[UI,this]
  .have hlen:=rn (ks:=ks) (n:=n);have htk:=nc (ks:=ks) (n:=n) (by omega);rw[hr] at hlen htk;simp only at hlen htk;have Th:UI ks (n+1)=if c>0 then(as++[(t,n+1,dq ks t (n+1))],t,c+2*(if dq ks t (n+1) then 1 else 0) - 1) else(as,n+1,1):=by rw[UI,hr]
   by_cases Yr:c=0
   .subst Yr;rw[if_neg (by omega)] at Th;have e0:decide ((0:Int)=0)=true:=by decide
    simp![SS,qZ,ug];exact⟨_,n+1,1,as,rfl,rfl,.inr ⟨n+1,rfl,Th,by omega⟩⟩
   .rw[if_pos (by omega)] at Th;have e0:decide (c=0)=false:=by simp[Yr]
    simp![e0];refine qa h hk htk hj (by omega) ?_;rw[hset];cases WT:dq ks t (n+1) with
    |true=>
     rw[WT] at Th;simp!;refine(xN rfl).mpr ?_;simp![BN,zp,Ia];refine⟨_,t,c+1,_,rfl,rfl,.inr ⟨n+1,rfl,?_,by omega⟩⟩;rw[Th];simp;omega
    |false=>
     rw[WT] at Th;simp!;refine(xN rfl).mpr ?_;simp![BN,zp];refine⟨_,t,c - 1,_,rfl,rfl,.inr ⟨n+1,rfl,?_,by omega⟩⟩;rw[Th];simp
 .rintro B Z4 ⟨o,t,c,as,rfl,rfl,hh⟩;rcases hh with⟨h0,_⟩|⟨j,hj,hr,_⟩
  .omega
  .have ej:j=ks.length - 1:=by omega
   subst ej;have e1:c7 ks=t:=by unfold c7;rw[hr]
   have e2:dv ks=as:=by unfold dv;rw[hr]
   simp!;rw[e1,e2];exact⟨rfl,rfl⟩
theorem vp:∀(as:List Ask) (done:List (Nat×Bool)) (o0 o1 o2:Option D) (L:M),((eA t as).map (·.1)).Nodup->(∀p∈eA t as,p.1∉done.map (·.1))->done.length+as.length<1000000->
  L[b]?=some (some (.dK (done.map UG)))->(∀x,de c (L.set b x))->
  fr b c (eB 3 (c4 (cR 0) (c4 (cR 1) (c4 (cR 2) dY)))) (vT (v2 UA (be 0) (be 3))) (be 1) (be 2) (as.map dA) [o0,o1,o2,some (.int (t:Int))] L=some (L.set b (some (.dK ((done++eA t as).map UG))))
 | [],done,o0,o1,o2,L,_,_,_,hb,hc=>by
  have:eA t []=[]:=rfl;simp only[RP,fr,this,QU];rw[sf hb]
 |x::as,done,o0,o1,o2,L,nd,δ,hl,hb,hc=>by
  have hg:eB 3 (c4 (cR 0) (c4 (cR 1) (c4 (cR 2) dY))) (dA x) [o0,o1,o2,some (.int (t:Int))] L=some ([some (.int (x.1:Int)),some (.int (x.2.1:Int)),some (.bl x.2.2),some (.int (t:Int))],L):=rfl;rw[Qc,sd] at*;by_cases hx:x.1=t
  .rw[if_pos hx] at nd δ⊢;have ht:vT (v2 UA (be 0) (be 3)) [some (.int (x.1:Int)),some (.int (x.2.1:Int)),some (.bl x.2.2),some (.int (t:Int))] L=some (true,L):=by
    show((UA (.int (x.1:Int)) (.int (t:Int)) L).bind _)=_;rw[vK];simp[hx]
   have Ut:be 1 [some (.int (x.1:Int)),some (.int (x.2.1:Int)),some (.bl x.2.2),some (.int (t:Int))] L=some (.int (x.2.1:Int),L):=rfl;have Vz:be 2 [some (.int (x.1:Int)),some (.int (x.2.1:Int)),some (.bl x.2.2),some (.int (t:Int))] L=some (.bl x.2.2,L):=rfl;have hk:fu (.int (x.2.1:Int))=some (.inl (x.2.1:Int)):=rfl;have hn:x.2.1∉done.map (·.1):=δ (x.2.1,x.2.2) (by simp);have hlen:(done.map UG).length<1000000:=by simp;omega
   simp only[Qc,RS] at nd;have ih:=vp (t:=t) (b:=b) (c:=c) as (done++[(x.2.1,x.2.2)]) (some (.int (x.1:Int))) (some (.int (x.2.1:Int))) (some (.bl x.2.2)) (L.set b (some (.dK ((done++[(x.2.1,x.2.2)]).map UG)))) nd.2 (fun p hp=>by
     simp only[QV,Qr,Qc,RP,Qu];rintro(z|z)
     .exact δ p (by simp[hp]) z
     .exact nd.1 (by rw[←z];exact List.mem_map_of_mem hp)) (by simp at hl⊢;omega) (eU hb) (fun x=>by rw[S3];exact hc x)
   simp only[fr,hg,ht,Ut,Vz,hk,jK hb,Rk,if_true];rw[v4 _ hn];unfold Uw;rw[if_pos ⟨hlen,hc _⟩,ih,S3];simp
  .rw[if_neg hx] at nd δ⊢;have ht:vT (v2 UA (be 0) (be 3)) [some (.int (x.1:Int)),some (.int (x.2.1:Int)),some (.bl x.2.2),some (.int (t:Int))] L=some (false,L):=by
    show((UA (.int (x.1:Int)) (.int (t:Int)) L).bind _)=_;rw[vK];have:decide ((x.1:Int)=(t:Int))=false:=by simp;omega
    rw[this];rfl
   have ih:=vp (t:=t) (b:=b) (c:=c) as done (some (.int (x.1:Int))) (some (.int (x.2.1:Int))) (some (.bl x.2.2)) L nd δ (by simp at hl;omega) hb hc;have Yr:de c L:=by have:=hc (some (.dK (done.map UG)));rw[sf hb] at this;exact this
   simp only[fr,hg,ht,Rk];unfold Uw;rw[if_neg (by simp),if_pos Yr,ih]
end
section
variable {kd:D} {ks:List Int}
theorem Kp.setA(h:Kp k L Z5)(hj:L.length<=j\/j=k):Kp k L (Z5.set j o):=⟨by simpa using h.len,fun i hi n=>by
 rw[eR (by rcases hj with z|z<;>omega)];exact h.at_ i hi n⟩
theorem HJ(r:Rel kn s)(b:Bool)(as:List Ask):Rel (kn++[(n,b)]) (as,if b then s.2.1++[n] else s.2.1,if b then s.2.2 else s.2.2++[n]):=by
 obtain⟨r1,r2⟩:=r;cases b
 .exact⟨by simp[r1],by simp[r2]⟩
 .exact⟨by simp[r1],by simp[r2]⟩
theorem Jz(h:WL kd ks)(hn:0<ks.length)(hs:ks.length<=1000)(ha:L[a]?=some (some (.lst ((dv ks).map dA)))):
  Wp (nJ jE gp [kd,.ref a,.int (c7 ks:Int)] L) fun d Z5=>d=.bl (decide (ks.length<2*(fe ks).2.1.length))/\Kp a L Z5/\Z5[a]?=some (some (.lst ((fe ks).1.map dA))):=by
 have hne:ks≠[]:=fun z=>by rw[z] at hn;simp at hn
 have ht:c7 ks<ks.length:=nc (ks:=ks) (n:=ks.length - 1) (by omega);obtain⟨nd,nt⟩:=Hk ks;have hl:=qv ks;have hml:(eA (c7 ks) (dv ks)).length<=(dv ks).length:=by unfold eA;rw[Qb];exact Q4 _ _
 have r0:Rel ((c7 ks,true)::eA (c7 ks) (dv ks)) (Tu ks 0):=by
  refine⟨?_,?_⟩
  .have:=z6 (c7 ks) (dv ks);simp[Tu,lB,hne,this]
  .have:=yM (c7 ks) (dv ks);simp[Tu,lF,this]
 have mg:=Bu (eA (c7 ks) (dv ks)) [(c7 ks,true)] nd (fun p hp=>by simpa using nt p hp);have hal:a<L.length:=(P5.mp ha).1;unfold nJ uJ;refine(fJ rfl).mpr ?_;show Ws (cV _ _ [some kd,some (.ref a),some (.int (c7 ks:Int)),none,none] L) _;simp!;refine B4 (kk:=(c7 ks:Int)) ?_;simp!;refine⟨trivial,by simp,?_⟩;have YU:((L++[some (Z7.dK [])]).set L.length (some (.dK [(Sum.inl (c7 ks:Int),D.bl true)])))[L.length]?=some (some (.dK ([(c7 ks,true)].map UG))):=eU (x:=some (.dK [])) (by simp);have Yu:((L++[some (Z7.dK [])]).set L.length (some (.dK [(Sum.inl (c7 ks:Int),D.bl true)])))[a]?=some (some (.lst ((dv ks).map dA))):=by
  rw[eR (by omega),Qe hal];exact ha
 have Yp:Kp a L ((L++[some (Z7.dK [])]).set L.length (some (.dK [(Sum.inl (c7 ks:Int),D.bl true)]))):=Kp.setA (T7).kp (.inl (P3 _));have hl0:((L++[some (Z7.dK [])]).set L.length (some (.dK [(Sum.inl (c7 ks:Int),D.bl true)]))).length=L.length+1:=by simp
 generalize (L++[some (Z7.dK [])]).set L.length (some (.dK [(Sum.inl (c7 ks:Int),D.bl true)]))=Z4 at YU Yu Yp hl0;generalize hB:L.length=b at YU hl0 hal;have YV:a≠b:=by omega
 refine MJ (kvs:=[(c7 ks,true)].map UG) (k:=b) ?_;simp!;refine⟨trivial,⟨_,jK YU⟩,?_⟩;have hd:pc ["i","j","alike"] [("taken",2)] (UB (be 1)) (eB 3 (c4 (cR 0) (c4 (cR 1) (c4 (cR 2) dY)))) (vT (v2 UA (be 0) (be 3))) (be 1) (be 2) [some kd,some (.ref a),some (.int (c7 ks:Int)),some (.ref b),none] Z4=some (.ref Z4.length,(Z4++[some (Z7.dK [])]).set Z4.length (some (.dK ((eA (c7 ks) (dv ks)).map UG)))):=by
  have hi:UB (be 1) [some kd,some (.ref a),some (.int (c7 ks:Int)),some (.ref b),none] Z4=some (((dv ks).map dA,some (a,(dv ks).map dA)),Z4):=by
   show((some (D.ref a,Z4)).bind fun p=>(VP p.2 p.1).bind fun s=>some (s,p.2))=_;simp only[Rk,qN Yu]
  have VY:dM ["i","j","alike"] [("taken",2)] [some kd,some (.ref a),some (.int (c7 ks:Int)),some (.ref b),none]=[none,none,none,some (.int (c7 ks:Int))]:=rfl;have Ε:a<Z4.length:=(P5.mp Yu).1;have YR:∀x,de (some (a,(dv ks).map dA)) ((Z4++[some (Z7.dK [])]).set Z4.length x):=fun x=>by
   show((Z4++[some (Z7.dK [])]).set Z4.length x)[a]?=_;rw[eR (by omega),Qe Ε];exact Yu
  have _w:de (some (a,(dv ks).map dA)) (Z4++[some (Z7.dK [])]):=by
   show(Z4++[some (Z7.dK [])])[a]?=_;rw[Qe Ε];exact Yu
  have d0:=vp (t:=c7 ks) (b:=Z4.length) (c:=some (a,(dv ks).map dA)) (dv ks) [] none none none (Z4++[some (Z7.dK [])]) nd (by simp) (by simp;omega) (by simp) YR;unfold pc;simp only[hi,Rk,VY];unfold Uw;rw[if_pos ⟨by simp;omega,_w⟩,d0];simp
 refine kZ hd ?_;have hlm:(Z4++[some (Z7.dK [])])[Z4.length]?=some (some (.dK [])):=by simp
 have hc2:=eU (y:=some (.dK ((eA (c7 ks) (dv ks)).map UG))) hlm;have _x:b<Z4.length:=by omega
 have hb2:((Z4++[some (Z7.dK [])]).set Z4.length (some (.dK ((eA (c7 ks) (dv ks)).map UG))))[b]?=some (some (.dK ([(c7 ks,true)].map UG))):=by
  rw[eR (by omega),Qe _x];exact YU
 have Yt:((Z4++[some (Z7.dK [])]).set Z4.length (some (.dK ((eA (c7 ks) (dv ks)).map UG))))[a]?=some (some (.lst ((dv ks).map dA))):=by
  rw[eR (by omega),Qe (by omega)];exact Yu
 have hk2:Kp a L ((Z4++[some (Z7.dK [])]).set Z4.length (some (.dK ((eA (c7 ks) (dv ks)).map UG)))):=Kp.setA (Yp.trans (T7).kp) (.inl (by omega));generalize (Z4++[some (Z7.dK [])]).set Z4.length (some (.dK ((eA (c7 ks) (dv ks)).map UG)))=Z3 at hc2 hb2 Yt hk2;refine⟨_,_,rfl,jK hb2,jK hc2,by omega,(show(1:Nat)<=100000 by decide),(by rw[Qb];omega),?_⟩;rw[mg];have hb3:=eU (y:=some (.dK (([(c7 ks,true)]++eA (c7 ks) (dv ks)).map UG))) hb2;have ha3:(Z3.set b (some (.dK (([(c7 ks,true)]++eA (c7 ks) (dv ks)).map UG))))[a]?=some (some (.lst ((dv ks).map dA))):=by rw[eR YV];exact Yt
 have Yn:Kp a L (Z3.set b (some (.dK (([(c7 ks,true)]++eA (c7 ks) (dv ks)).map UG)))):=Kp.setA hk2 (.inl (by omega));generalize Z3.set b (some (.dK (([(c7 ks,true)]++eA (c7 ks) (dv ks)).map UG)))=ZQ at hb3 ha3 Yn;simp![h.len];refine(vP (by omega)).mpr ?_;simp!;have ω:∀(kn:List (Nat×Bool)) (Z5:M),Rel kn (fe ks)->Z5[b]?=some (some (.dK (kn.map UG)))->Vu (.int (2*((fe ks).2.1.length:Int))) (.int (ks.length:Int)) Z5=some (.bl (decide (ks.length<2*(fe ks).2.1.length)),Z5)/\mo (.ref b) Z5=some (.int ((fe ks).2.1.length:Int),Z5):=by
  intro kn Z5 r hb;refine⟨?_,?_⟩
  .rw[y4];have:decide ((ks.length:Int)<2*((fe ks).2.1.length:Int))=decide (ks.length<2*(fe ks).2.1.length):=by rw[Ss];omega
   rw[this]
  .rw[Am hb,r.lens.1]
 have htm:∀(j:Int) (Z5:M),gg (.int 2) (.int j) Z5=some (.int (2*j),Z5):=fun j Z5=>by show(if Ul 2 j then some (D.int (2*j),Z5) else none)=_;exact if_pos (oE j)
 refine yk (fun i B Z5=>∃(kn:List (Nat×Bool)) (o:Option D),B=[some kd,some (.ref a),some (.int (c7 ks:Int)),some (.ref b),o]/\Rel kn (Tu ks i)/\Z5[b]?=some (some (.dK (kn.map UG)))/\Z5[a]?=some (some (.lst ((Tu ks i).1.map dA)))/\Kp a L Z5) ⟨_,_,rfl,r0,hb3,ha3,Yn⟩ ?_ ?_
 .rintro i B ZE hi ⟨kn,o,rfl,r,hb,YW,σ⟩;obtain⟨b1,b2⟩:=GP hs (i:=i) (by omega);obtain⟨h1,h2⟩:=r.lens;have e:=CM (n:=ks.length) hb h1 h2;simp![h.len,e];have e2:(decide (ks.length<2*(Tu ks i).2.1.length)||decide (ks.length<=2*(Tu ks i).2.2.length))=jU ks (Tu ks i):=rfl;rw[e2];cases hst:jU ks (Tu ks i) with
  |true=>
   have ee:fe ks=Tu ks i:=yP hst ks.length (by omega);rw[←ee] at r YW;obtain⟨f1,f2⟩:=ω kn ZE r hb;simp![f2,htm,h.len,f1];exact⟨trivial,σ,YW⟩
  |false=>
   have Th:Tu ks (i+1)=if i∈(Tu ks i).2.1\/i∈(Tu ks i).2.2 then Tu ks i
    else if dq ks (c7 ks) i then((Tu ks i).1++[(c7 ks,i,true)],(Tu ks i).2.1++[i],(Tu ks i).2.2)
    else((Tu ks i).1++[(c7 ks,i,false)],(Tu ks i).2.1,(Tu ks i).2.2++[i]):=by rw[Tu,hst];simp
   simp![OX hb];by_cases hm:i∈(Tu ks i).2.1\/i∈(Tu ks i).2.2
   .have e4:decide (i∈kn.map (·.1))=true:=by simpa using(r.mem i).mpr hm
    rw[if_pos hm] at Th;simp![e4,Qw];rw[Th];exact⟨kn,_,rfl,r,hb,YW,σ⟩
   .have hm':i∉kn.map (·.1):=fun z=>hm ((r.mem i).mp z);have e4:decide (i∈kn.map (·.1))=false:=by simpa using hm'
    rw[if_neg hm] at Th;simp![e4,QH];refine L8 (k:=b) (kk:=(i:Int)) ?_;simp!;refine qa h YW ht hi b1 ?_;refine⟨trivial,kn.map UG,trivial,jK (by rw[eR (Ne.symm YV)];exact hb),by simp;omega,?_⟩;rw[v4 _ hm'];refine⟨kn++[(i,dq ks (c7 ks) i)],_,rfl,?_,eU (by rw[eR (Ne.symm YV)];exact hb),?_,Kp.setA (Kp.setA σ (.inr rfl)) (.inl (by omega))⟩
    .have:=HJ (n:=i) r (dq ks (c7 ks) i) ((Tu ks i).1++[(c7 ks,i,dq ks (c7 ks) i)]);rw[Th];cases WT:dq ks (c7 ks) i<;>rw[WT] at this<;>exact this
    .rw[eR YV,eU YW,Th];cases WT:dq ks (c7 ks) i<;>rfl
 .rintro B ZE ⟨kn,o,rfl,r,hb,YW,σ⟩;obtain⟨f1,f2⟩:=ω kn ZE r hb;simp![f2,htm,h.len,f1];exact⟨trivial,σ,YW⟩
abbrev tw:C0:=pO mq (mX gp) (nJ jE gp)
theorem Kp.gr(h:Kp L.length (L++[x]) Z5):Gr L Z5:=⟨by have:=h.len;simp at this;omega,fun j hj=>by rw[h.at_ j (by simp;omega) (by omega),Qe hj]⟩
theorem Ln(h:WL kd ks)(hs:ks.length<=1000):Wp (tw [kd] L) fun d Z5=>∃a,d=.tup [.ref a,Yw (jo ks)]/\Z5[a]?=some (some (.lst ((fe ks).1.map dA)))/\Gr L Z5/\L.length<=a:=by
 unfold tw pO ut;refine(fJ rfl).mpr ?_;show Ws (cV _ _ [some kd,none,none] L) _;simp!;rw[pU (by simp)];simp!;have Wq:(L++[some (Z7.lst [])])[L.length]?=some (some (.lst [])):=by simp
 refine⟨!ks.isEmpty,h.tr _,?_⟩;by_cases hn:ks=[]
 .subst hn;simp![Ry,Qw,QH];rw[show(D.int 0)=D.int ((0:Nat):Int) from rfl,pW];simp!;refine⟨_,?_,?_,T7,P3 _⟩
  .rfl
  .rw[Wq];rfl
 .have hp:0<ks.length:=by cases ks with|nil=>exact absurd rfl hn|cons=>simp
  have he:ks.isEmpty=false:=by cases ks with|nil=>exact absurd rfl hn|cons=>rfl
  simp![he,Qw,QH];refine(Km h hp hs Wq).imp ?_;rintro _ Z4 ⟨rfl,rfl⟩;have h1:=eU (y:=some (.lst ((dv ks).map dA))) Wq;have Yo:Kp L.length (L++[some (Z7.lst [])]) ((L++[some (Z7.lst [])]).set L.length (some (.lst ((dv ks).map dA)))):=Kp.setA .refl (.inr rfl);generalize (L++[some (Z7.lst [])]).set L.length (some (.lst ((dv ks).map dA)))=Z3 at h1 Yo;simp!;refine(Jz h hp hs h1).imp ?_;rintro _ ZQ ⟨rfl,k3,h3⟩;simp![pW];refine⟨_,?_,h3,Kp.gr (Yo.trans k3),P3 _⟩;unfold jo;by_cases hc:ks.length<2*(fe ks).2.1.length<;>simp[hc]
end
def VM(n:Nat):D:=.int (n:Int)
def UK(L:M)(as:List Ask)(row heap:List Nat):M:=L++[some (.lst (as.map dA)),some (.lst (row.reverse.map VM)),some (.lst (heap.reverse.map VM))]
section
variable {L:M} {as VR:List Ask} {row Us heap heap':List Nat} {x:Nat}
theorem Ϸ:(UK L as row heap)[L.length]?=some (some (.lst (as.map dA))):=by simp[UK]
theorem XX:(UK L as row heap)[L.length+1]?=some (some (.lst (row.reverse.map VM))):=by simp[UK]
theorem XW:(UK L as row heap)[L.length+2]?=some (some (.lst (heap.reverse.map VM))):=by simp[UK]
theorem sE0:(UK L as row heap).set L.length (some (.lst (VR.map dA)))=UK L VR row heap:=by simp[UK]
theorem sE1:(UK L as row heap).set (L.length+1) (some (.lst (Us.reverse.map VM)))=UK L as Us heap:=by simp[UK]
theorem sE2:(UK L as row heap).set (L.length+2) (some (.lst (heap'.reverse.map VM)))=UK L as row heap':=by simp[UK]
theorem y9(h:row.length<1000000):fq (.ref (L.length+1)) (.int (x:Int)) (UK L as row heap)=some (.non,UK L as (x::row) heap):=by
 have e:row.reverse.map VM++[D.int (x:Int)]=(x::row).reverse.map VM:=by simp[VM]
 simp only[fq,iE XX,Qb,List.length_reverse,if_pos h,mh];rw[e,sE1]
theorem vw(h:heap.length<1000000):fq (.ref (L.length+2)) (.int (x:Int)) (UK L as row heap)=some (.non,UK L as row (x::heap)):=by
 have e:heap.reverse.map VM++[D.int (x:Int)]=(x::heap).reverse.map VM:=by simp[VM]
 simp only[fq,iE XW,Qb,List.length_reverse,if_pos h,mh];rw[e,sE2]
theorem zV(x:Nat)(l:List Nat):((x::l).reverse.map VM)[((x::l).reverse.map VM).length - 1]?=some (.int (x:Int)):=by simp[VM]
theorem AA(x:Nat)(l:List Nat):((x::l).reverse.map VM).dropLast=l.reverse.map VM:=by simp
theorem sG:jc (.ref (L.length+1)) (UK L as (x::row) heap)=some (.int (x:Int),UK L as row heap):=by
 simp only[jc,iE XX,zV,Rk,AA,mh];rw[sE1]
theorem yv:jc (.ref (L.length+2)) (UK L as row (x::heap))=some (.int (x:Int),UK L as row heap):=by
 simp only[jc,iE XW,zV,Rk,AA,mh];rw[sE2]
theorem tE:Te (.ref (L.length+1)) (.int (-1)) (UK L as (x::row) heap)=some (.int (x:Int),UK L as (x::row) heap):=by
 unfold Te;simp only[h9 XX];have:UZ ((x::row).reverse.map VM) (-1)=some (.int (x:Int)):=by
  have hl:((x::row).reverse.map VM).length=row.length+1:=by simp
  unfold UZ;rw[hl];have hi:VF (row.length+1) (-1)=some row.length:=by unfold VF;simp<;>omega
  rw[hi];simp[VM]
 rw[this];rfl
theorem uB:Vd (UK L as row heap) (.ref (L.length+1))=some (!row.isEmpty):=by
 simp only[Vd,XX];cases row<;>simp
theorem AR:Vd (UK L as row heap) (.ref (L.length+2))=some (!heap.isEmpty):=by
 simp only[Vd,XW];cases heap<;>simp
theorem GO:dU (.ref (L.length+2)) (UK L as row heap)=some (.int (heap.length:Int),UK L as row heap):=by rw[qF XW];simp
theorem DW:Gr L (UK L as row heap):=T7
end
def BB(a:Int)(n:Nat):dk a (n+1)=.int a::dk (a+1) n:=by
 unfold dk;rw[List.range_succ_eq_map,Qc,QN];refine List.cons_eq_cons.mpr ⟨by simp,QK fun k _=>?_⟩;simp only[Function.comp];exact congrArg D.int (by omega)
section
variable {kd:D} {ks:List Int} {L:M}
theorem II(h:WL kd ks)(hn:0<ks.length)(hs:ks.length<=1000):
  Wp (mE gp [kd,.ref L.length] (L++[some (.lst [])])) fun d Z5=>d=.tup [.ref (L.length+1),.ref (L.length+2)]/\Z5=UK L (laid ks ks.length).1 (laid ks ks.length).2.1 (laid ks ks.length).2.2:=by
 unfold mE rh;refine(fJ rfl).mpr ?_;show Ws (cV _ _ [some kd,some (.ref L.length),none,none,none] _) _;simp![qZ];rw[pU (by simp)];simp!;rw[pU (by simp)];simp![ug];have e1:(L++[some (Z7.lst [])]).length=L.length+1:=by simp
 have e2:(L++[some (Z7.lst [])]++[some (Z7.lst [.int 0])]).length=L.length+2:=by simp
 have e3:(L++[some (Z7.lst [])]++[some (Z7.lst [.int 0])])++[some (Z7.lst [])]=UK L [] [0] []:=by simp[UK,VM]
 rw[e3,e2,e1];refine JD (a:=1) (b:=(ks.length:Int)) ?_ (by omega);simp![h.len,true_and];have hr:((ks.length:Int) - 1).toNat=ks.length - 1:=by omega
 rw[hr];refine j9 (fun r B Z5=>∃(j:Nat) (o:Option D),j+1<=ks.length/\r=dk ((j+1:Nat):Int) (ks.length - 1 - j)/\B=[some kd,some (.ref L.length),some (.ref (L.length+1)),some (.ref (L.length+2)),o]/\Z5=UK L (laid ks (j+1)).1 (laid ks (j+1)).2.1 (laid ks (j+1)).2.2) _ ⟨0,none,by omega,rfl,rfl,rfl⟩ ?_ ?_
 .rintro d r B Z4 ⟨j,o,hj,hr,rfl,rfl⟩;obtain⟨m,hm⟩:∃m,ks.length - 1 - j=m+1:=by
   cases hk:ks.length - 1 - j with
   |zero=>rw[hk] at hr;cases hr
   |succ m=>exact⟨m,rfl⟩
  rw[hm,BB] at hr;injection hr with h1 h2
  subst h1 h2;obtain⟨k1,k2,k3,k4,k5⟩:=nX (ks:=ks) (n:=j+1) (by omega);have hne:=k5 (by omega);have Th:laid ks (j+1+1)=match(laid ks (j+1)).2.1 with
   | []=>((laid ks (j+1)).1,[j+1],(laid ks (j+1)).2.2)
   |t::r=>if dq ks t (j+1) then((laid ks (j+1)).1++[(t,j+1,true)],t::r,(j+1)::(laid ks (j+1)).2.2)
    else((laid ks (j+1)).1++[(t,j+1,false)],(laid ks (j+1)).2.2.take 1++[j+1]++(t::r),(laid ks (j+1)).2.2.drop 1):=by rw[laid]<;>rfl
  generalize laid ks (j+1)=Z9 at k1 k2 k3 k4 hne Th;obtain⟨as,row,heap⟩:=Z9;simp only at k1 k2 k3 k4 hne Th;cases row with
  |nil=>exact absurd rfl hne
  |cons t row=>
   simp only at Th;simp![tE];refine qa h Ϸ (k3 t (by simp)) (by omega) (by omega) ?_;rw[sE0];have χ:ks.length - 1 - (j+1)=m:=by omega
   cases WT:dq ks t (j+1) with
   |true=>
    rw[WT,if_pos rfl] at Th;simp!;refine(nI XW).mpr ?_;simp!;rw[vw (by simp at k2;omega)];simp!;refine⟨trivial,j+1,_,by omega,by rw[χ];rfl,rfl,?_⟩;rw[Th]
   |false=>
    rw[WT,if_neg (by simp)] at Th;simp!;refine(nI XX).mpr ?_;simp!;rw[y9 (by simp at k2⊢;omega)];simp!;refine⟨_,AR,?_⟩;cases heap with
    |nil=>
     simp![Ry,Qw];refine⟨trivial,j+1,_,by omega,by rw[χ];rfl,rfl,?_⟩;rw[Th];rfl
    |cons y heap=>
     simp![RV,QH];refine(nI XX).mpr ?_;simp!;refine(nl XW).mpr ?_;rw[yv];simp!;rw[y9 (by simp at k2⊢;omega)];simp!;refine⟨trivial,j+1,_,by omega,by rw[χ];rfl,rfl,?_⟩;rw[Th];rfl
 .rintro B Z4 ⟨j,o,hj,hr,rfl,rfl⟩;have hk:ks.length - 1 - j=0:=by
   cases hk:ks.length - 1 - j with
   |zero=>rfl
   |succ m=>rw[hk,BB] at hr;cases hr
  have:j+1=ks.length:=by omega
  rw[this];simp!;rw[ig (by simp)];simp!;exact⟨trivial,trivial⟩
end
theorem A0{c:BV}{sb:SV}{B:G}{L:M}{Q:Out->G->M->Prop}(I:Nat->G->M->Prop)(m N:Nat)(h0:I m B L)(hN:m<N)
  (hs:∀m B L,I m B L->Wp (c B L) fun b Z4=>if b=true then Ws (sb B Z4) fun o ZW Z3=>match o with
   | .nx=>∃m',m'<m/\I m' ZW Z3
   | .ct=>∃m',m'<m/\I m' ZW Z3
   | .bk=>Q .nx ZW Z3
   | .rt d=>Q (.rt d) ZW Z3 else Q .nx B Z4):Ws (i9 c sb N B L) Q:=by
 induction N generalizing B L m with
 |zero=>omega
 |succ N ih=>
  refine TL.mpr ((hs m B L h0).imp fun b Z4 h=>?_);cases b with
  |false=>exact TH.mpr h
  |true=>
   refine Uq.mpr (Ws.imp h fun o ZW Z3 h=>?_);cases o with
   |nx=>obtain⟨m',h1,h2⟩:=h;exact ih (B:=ZW) (L:=Z3) m' h2 (by omega)
   |ct=>obtain⟨m',h1,h2⟩:=h;exact ih (B:=ZW) (L:=Z3) m' h2 (by omega)
   |bk=>exact TH.mpr h
   |rt d=>exact TH.mpr h
section
variable {kd:D} {ks:List Int} {L:M}
theorem E5(h:WL kd ks)(hr:∀x∈t::row,x<ks.length)(hl:as.length+row.length<900000)(hh:heap.length+row.length<900000)(hs:ks.length<=1000)(YJ:row.length<1000):
  Wp (nz gp [kd,.ref L.length,.ref (L.length+1),.ref (L.length+2)] (UK L as (t::row) heap)) fun d Z5=>∃VR Us heap',d=.bl (eX ks t (t::row) heap.length as).2.isSome/\(eX ks t (t::row) heap.length as).1=VR/\Z5=UK L VR Us heap':=by
 have ht:t<ks.length:=hr t (by simp);unfold nz uX;refine(fJ rfl).mpr ?_;show Ws (cV _ _ [some kd,some (.ref L.length),some (.ref (L.length+1)),some (.ref (L.length+2)),none,none] _) _;simp![tE];generalize hB:eX ks t (t::row) heap.length as=Z8;refine A0 (fun m B Z5=>∃(o:Option D) (VR:List Ask) (Us heap':List Nat),Us.length=m/\B=[some kd,some (.ref L.length),some (.ref (L.length+1)),some (.ref (L.length+2)),some (.int (t:Int)),o]/\Z5=UK L VR Us heap'/\(∀x∈Us,x<ks.length)/\VR.length+Us.length<1000000/\heap'.length+Us.length<1000000/\Z8=eX ks t Us heap'.length VR) (row.length+1) 1000000 ⟨_,as,t::row,heap,rfl,rfl,rfl,hr,by simp;omega,by simp;omega,hB.symm⟩ (by omega) ?_;rintro m B Z4 ⟨o,VR,Us,heap',rfl,rfl,rfl,h1,h2,h3,h4⟩;rw[h4];simp!;refine⟨_,uB,?_⟩;cases Us with
 |nil=>
  simp![Ry,Qw,Qo,if_false,GO];refine⟨VR,[],heap',?_,rfl,rfl⟩;simp only[eX];by_cases hz:0<heap'.length
  .have:(0:Int)<(heap'.length:Int):=by omega
   simp[hz,this]
  .have:¬(0:Int)<(heap'.length:Int):=by omega
   simp[hz,this]
 |cons x r=>
  simp![RV,QH,if_true];have hx:=h1 x (by simp);simp only[Qj] at h2 h3⊢;refine(nl XX).mpr ?_;rw[sG];simp!;rw[oz] at⊢;have hal:(if x=t then VR else VR++[(t,x,dq ks x t)]).length<=VR.length+1:=by split<;>simp
  by_cases he:x=t
  .subst he;have e1:decide ((x:Int)=(x:Int))=true:=by simp
   have hsf:=Fh ks x;rw[hsf,if_pos rfl,if_pos rfl] at⊢;simp![SS];refine⟨_,uB,?_⟩;cases r with
   |nil=>
    simp![Ry,Qw];refine(nI XW).mpr ?_;simp!;rw[vw (by simp at h3;omega)];simp!;refine⟨0,by simp,_,VR,[],x::heap',rfl,rfl,rfl,by simp,by simp at h2⊢;omega,by simp at h3⊢;omega,?_⟩;simp[eX]
   |cons y r=>
    simp![RV,QH];refine(nl XX).mpr ?_;rw[sG];simp!;refine⟨r.length,by simp;omega,_,VR,r,heap',rfl,rfl,rfl,fun z hz=>h1 z (by simp[hz]),by simp at h2⊢;omega,by simp at h3⊢;omega,rfl⟩
  .have e1:decide ((x:Int)=(t:Int))=false:=by simp;omega
   rw[if_neg he] at⊢;simp![e1];refine qa h Ϸ ht hx (by omega) ?_;rw[sE0,Dj ks t x];cases WT:dq ks x t with
   |true=>
    rw[if_pos rfl];simp!;refine⟨_,uB,?_⟩;cases r with
    |nil=>
     simp![Ry,Qw];refine(nI XW).mpr ?_;simp!;rw[vw (by simp at h3;omega)];simp!;refine⟨0,by simp,_,VR++[(t,x,true)],[],x::heap',rfl,rfl,rfl,by simp,by simp at h2⊢;omega,by simp at h3⊢;omega,?_⟩;simp[eX]
    |cons y r=>
     simp![RV,QH];refine(nl XX).mpr ?_;rw[sG];simp!;refine⟨r.length,by simp;omega,_,VR++[(t,x,true)],r,heap',rfl,rfl,rfl,fun z hz=>h1 z (by simp[hz]),by simp at h2⊢;omega,by simp at h3⊢;omega,rfl⟩
   |false=>
    rw[if_neg QF];simp!;refine⟨_,AR,?_⟩;cases heap' with
    |nil=>
     simp![Ry,Qw];rw[if_pos (by simp)];exact⟨_,r,[],rfl,rfl,rfl⟩
    |cons y heap'=>
     simp![RV,QH];refine(nl XW).mpr ?_;rw[yv];simp!;refine⟨r.length,by omega,_,VR++[(t,x,false)],r,heap',rfl,rfl,rfl,fun z hz=>h1 z (by simp[hz]),by simp at h2⊢;omega,by simp at h3⊢;omega,?_⟩;rw[if_neg (by simp)];simp
abbrev oG:C0:=qI mq (mE gp) (nz gp)
theorem sE(ks:List Int)(t:Nat):∀(n:Nat) (row:List Nat) (left:Nat) (a:List Ask),row.length<=n->(eX ks t row left a).2=none\/(eX ks t row left a).2=some t
 |_,[],left,a,_=>by simp only[eX];split<;>simp
 |0,x::r,_,_,h=>by simp at h
 |n+1,x::r,left,a,h=>by
  rw[oz];split
  .cases r with
   |nil=>simp
   |cons y r=>exact sE ks t n r _ _ (by simp at h;omega)
  .split
   .simp
   .exact sE ks t n r _ _ (by simp at h;omega)
theorem sU(h:WL kd ks)(hs:ks.length<=1000):Wp (oG [kd] L) fun d Z5=>∃a,d=.tup [.ref a,Yw (fH ks).2]/\Z5[a]?=some (some (.lst ((fH ks).1.map dA)))/\Gr L Z5/\L.length<=a:=by
 unfold oG qI sL;refine(fJ rfl).mpr ?_;show Ws (cV _ _ [some kd,none,none,none,none] L) _;simp!;rw[pU (by simp)];simp!;refine⟨!ks.isEmpty,h.tr _,?_⟩;by_cases hn:ks=[]
 .subst hn;simp![Ry,Qw,QH];rw[show(D.int 0)=D.int ((0:Nat):Int) from rfl,pW];simp!;refine⟨_,?_,?_,T7,P3 _⟩
  .rfl
  .simp[fH]
 .have hp:0<ks.length:=by cases ks with|nil=>exact absurd rfl hn|cons=>simp
  have he:ks.isEmpty=false:=by cases ks with|nil=>exact absurd rfl hn|cons=>rfl
  simp![he,Qw,QH];refine(II h hp hs).imp ?_;rintro _ Z4 ⟨rfl,rfl⟩;obtain⟨k1,k2,k3,k4,k5⟩:=nX (ks:=ks) (n:=ks.length) (P3 _);have hne:=k5 hp;have YJ:fH ks=eX ks (oO ks) (laid ks ks.length).2.1 (laid ks ks.length).2.2.length (laid ks ks.length).1:=by unfold fH;rw[if_neg hn]
  have _U:oO ks=(laid ks ks.length).2.1.headD 0:=rfl;rw[_U] at YJ;generalize laid ks ks.length=Z9 at k1 k2 k3 k4 hne YJ;obtain⟨as,row,heap⟩:=Z9;simp only at k1 k2 k3 k4 hne YJ⊢;cases row with
  |nil=>exact absurd rfl hne
  |cons t row=>
   simp only[List.headD_cons] at YJ;refine(pL rfl).mpr ?_;simp![tE];simp only[Qj] at k2;refine(E5 h k3 (by omega) (by omega) hs (by omega)).imp ?_;rintro _ Z3 ⟨VR,Us,heap',rfl,h1,rfl⟩;simp![pW];have h2:=sE ks t _ (t::row) heap.length as (P3 _);rw[←YJ] at h1 h2;refine⟨_,?_,?_,DW,P3 _⟩
   .rw[←YJ];rcases h2 with z|z<;>rw[z]<;>rfl
   .rw[Ϸ,h1]
end
section
variable {ks ls:List Int} (hl:ks.length=ls.length) (h:∀i j,i<ks.length->j<ks.length->dq ks i j=dq ls i j)
include hl h
theorem w9:∀n,n<=ks.length->laid ks n=laid ls n
 |0,_=>rfl
 |n+1,hn=>by
  have ih:=w9 n (by omega);obtain⟨k1,k2,k3,k4,k5⟩:=nX (ks:=ks) (n:=n) (by omega);rw[laid,laid,←ih];generalize laid ks n=Z9 at k3;obtain⟨as,row,heap⟩:=Z9;cases row with
  |nil=>rfl
  |cons t row=>
   simp only;rw[h t n (k3 t (by simp)) (by omega)]
theorem qo(ht:t<ks.length):∀(m:Nat) (row:List Nat) (left:Nat) (a:List Ask),row.length<=m->(∀x∈row,x<ks.length)->eX ks t row left a=eX ls t row left a
 |_,[],_,_,_,_=>by simp only[eX]
 |0,x::r,_,_,hm,_=>by simp at hm
 |m+1,x::r,left,a,hm,hr=>by
  rw[oz,oz,h x t (hr x (by simp)) ht];simp only[Qj] at hm;cases r with
  |nil=>
   rw[qo ht m [] _ _ (by simp) (by simp)]
  |cons y r=>
   simp only[Qj] at hm;rw[qo ht m (y::r) _ _ (by simp;omega) (fun z hz=>hr z (by simp[hz]))];simp only;rw[qo ht m r _ _ (by omega) (fun z hz=>hr z (by simp[hz]))]
theorem J3:fH ks=fH ls:=by
 unfold fH;by_cases hn:ks=[]
 .have:ls=[]:=QA.mp (by rw[←hl,hn];rfl);rw[if_pos hn,if_pos this]
 .have h2:ls≠[]:=fun z=>hn (QA.mp (by rw[hl,z];rfl));rw[if_neg hn,if_neg h2];have hp:0<ks.length:=by cases ks with|nil=>exact absurd rfl hn|cons=>simp
  unfold oO;have e:=w9 hl h ks.length (P3 _);rw[←hl,←e];obtain⟨k1,k2,k3,k4,k5⟩:=nX (ks:=ks) (n:=ks.length) (P3 _);have hne:=k5 hp;generalize laid ks ks.length=Z9 at k3 hne;obtain⟨as,row,heap⟩:=Z9;cases row with
  |nil=>exact absurd rfl hne
  |cons t row=>exact qo hl h (k3 t (by simp)) _ _ _ _ (P3 _) k3
theorem AL:∀n,n+1<=ks.length->UI ks n=UI ls n
 |0,hn=>by
  have h1:ks≠[]:=fun z=>by rw[z] at hn;simp at hn
  have h2:ls≠[]:=fun z=>by rw[hl,z] at hn;simp at hn
  simp only[UI,if_neg h1,if_neg h2]
 |n+1,hn=>by
  have ih:=AL n (by omega);have ht:=nc (ks:=ks) (n:=n) (by omega);rw[UI,UI,←ih];rw[h _ (n+1) ht (by omega)]
theorem sH:c7 ks=c7 ls/\dv ks=dv ls:=by
 by_cases hn:ks=[]
 .have:ls=[]:=QA.mp (by rw[←hl,hn];rfl);rw[hn,this];exact⟨rfl,rfl⟩
 .have hp:0<ks.length:=by cases ks with|nil=>exact absurd rfl hn|cons=>simp
  have e:=AL hl h (ks.length - 1) (by omega);unfold c7 dv;rw[←hl,e];exact⟨rfl,rfl⟩
theorem BY(hp:0<ks.length):∀n,n<=ks.length->Tu ks n=Tu ls n
 |0,_=>by
  have h1:ks≠[]:=fun z=>by rw[z] at hp;simp at hp
  have h2:ls≠[]:=fun z=>by rw[hl,z] at hp;simp at hp
  obtain⟨e1,e2⟩:=sH hl h;simp only[Tu,lB,lF,e1,e2,if_neg h1,if_neg h2]
 |n+1,hn=>by
  have ih:=BY hp n (by omega);obtain⟨e1,e2⟩:=sH hl h;have ht:c7 ks<ks.length:=nc (ks:=ks) (n:=ks.length - 1) (by omega);have hs:∀s,jU ks s=jU ls s:=fun s=>by unfold jU;rw[hl]
  rw[Tu,Tu,←ih,hs,h _ n ht (by omega),e1]
theorem zR:fe ks=fe ls/\jo ks=jo ls:=by
 have e0:fe ks=fe ls:=by
  by_cases hn:ks=[]
  .have:ls=[]:=QA.mp (by rw[←hl,hn];rfl);rw[hn,this]
  .have hp:0<ks.length:=by cases ks with|nil=>exact absurd rfl hn|cons=>simp
   unfold fe;rw[←hl];exact BY hl h hp _ (P3 _)
 refine⟨e0,?_⟩;unfold jo;rw[e0,hl,(sH hl h).1]
end
inductive Tz where
 |no|one (i:Int)|ask (i j:Int) (a b:Tz)
def kd(s:List Int)(i:Int):Int:=s.getD i.toNat 0
def led(s:List Int):Tz->Option Int
 | .no=>none
 | .one i=>some i
 | .ask i j a b=>if kd s i=kd s j then led s a else led s b
def U8:Tz->Nat
 | .ask _ _ a b=>max (U8 a) (U8 b)+1
 |_=>0
def inr(n:Nat)(i:Int):Prop:=0<=i/\i<(n:Int)
def Yh(n:Nat):Tz->Prop
 | .no=>True
 | .one i=>inr n i
 | .ask i j a b=>(i≠j/\inr n i/\inr n j)/\Yh n a/\Yh n b
def Ω:PyData.strOk "ask"=true:=by decide +kernel
def Kx:("none":Str)≠"ask":=by decide +kernel
def NJ:("one":Str)≠"ask":=by decide +kernel
def Jb:("one":Str)≠"none":=by decide +kernel
section
variable {L:M}
theorem M7:UA (.str "ask") (.str "ask") L=some (.bl true,L):=by simp[Ω]
theorem Dg:UA (.str "none") (.str "ask") L=some (.bl false,L):=by simp[Ω,Y4,Kx]
theorem D3:UA (.str "one") (.str "ask") L=some (.bl false,L):=by simp[Ω,Yd,NJ]
theorem gU{ds:List D}{j:Nat}{v:D}(h:ds[j]?=some v):Te (.tup ds) (.int (j:Int)) L=some (v,L):=by rw[OD,gW h];rfl
theorem We(h:¬(HT.sIx ds.length 0 lo=0/\HT.sIx ds.length ds.length hi=ds.length)):X3 (.tup ds) lo hi L=some (.tup (iZ ds lo hi),L):=by
 rw[OI,if_neg h]
theorem M9{s:List Int}{i:Nat}(h:i<s.length):Te (.lst (s.map D.int)) (.int (i:Int)) L=some (.int (s.getD i 0),L):=sX (by simp[h,P7])
theorem qE{s:List Int}{i:Int}{n:Nat}(hs:s.length=n)(h:inr n i):Te (.lst (s.map D.int)) (.int i) L=some (.int (kd s i),L):=by
 have:=M9 (L:=L) (s:=s) (i:=i.toNat) (by have:=h.1;have:=h.2;omega);rw[Int.toNat_of_nonneg h.1] at this;exact this
end
def dZ:Tz->D
 | .no=>.tup [.str "none"]
 | .one i=>.tup [.str "one",.int i]
 | .ask i j a b=>.tup [.str "ask",.int i,.int j,dZ a,dZ b]
def pZ:Tz->PyData
 | .no=>.tuple [.str "none"]
 | .one i=>.tuple [.str "one",.int i]
 | .ask i j a b=>.tuple [.str "ask",.int i,.int j,pZ a,pZ b]
theorem pD(L:M):∀(t:Tz) (n:Nat),U8 t+2<=n->py n L (dZ t)=some (pZ t)
 | .no,n+2,_=>rfl
 | .one i,n+2,_=>rfl
 | .ask i j a u,n+3,h=>by
  simp only[U8] at h;have ha:=pD L a (n+2) (by omega);have hu:=pD L u (n+2) (by omega);show(dQ (py (n+2) L) [.str "ask",.int i,.int j,dZ a,dZ u]).bind _=_;simp only[dQ,ha,hu,Lg,EJ,bs,pZ]
 | .no,0,h=>by simp at h
 | .no,1,h=>by simp at h
 | .one _,0,h=>by simp at h
 | .one _,1,h=>by simp at h
 | .ask _ _ _ _,0,h=>by simp at h
 | .ask _ _ _ _,1,h=>by simp at h
 | .ask _ _ _ _,2,h=>by simp[U8] at h
theorem tV:∀t:Tz,(pZ t).canLay0=true
 | .no=>by simp[pZ,PyData.canLay0,PyData.canLayAll0,Y4]
 | .one _=>by simp[pZ,PyData.canLay0,PyData.canLayAll0,Yd]
 | .ask i j a u=>by simp[pZ,PyData.canLay0,PyData.canLayAll0,tV a,tV u,Ω]
theorem vn:∀t:Tz,(pZ t).depth<=U8 t+1
 | .no=>by simp[pZ,PyData.depth,PyData.depthAll]
 | .one i=>by simp[pZ,PyData.depth,PyData.depthAll]
 | .ask i j a u=>by
  have ha:=vn a;have hu:=vn u;simp only[pZ,PyData.depth,PyData.depthAll,U8];omega
theorem sw:∀t u:Tz,PyData.eqv (pZ t) (pZ u)=true↔t=u
 | .no,.no=>by simp[pZ,PyData.eqv,PyData.eqvAll]
 | .no,.one _=>by simp[pZ,PyData.eqv,PyData.eqvAll]
 | .no,.ask _ _ _ _=>by simp[pZ,PyData.eqv,PyData.eqvAll]
 | .one _,.no=>by simp[pZ,PyData.eqv,PyData.eqvAll]
 | .one _,.one _=>by simp[pZ,PyData.eqv,PyData.eqvAll]
 | .one _,.ask _ _ _ _=>by simp[pZ,PyData.eqv,PyData.eqvAll]
 | .ask _ _ _ _,.no=>by simp[pZ,PyData.eqv,PyData.eqvAll]
 | .ask _ _ _ _,.one _=>by simp[pZ,PyData.eqv,PyData.eqvAll]
 | .ask i j a b,.ask i' j' a' b'=>by
  have ha:=sw a a';have hb:=sw b b';simp only[pZ,PyData.eqv,PyData.eqvAll,Qs,ha,hb];simp
open Classical in
def No{t u:Tz}{L:M}(ht:U8 t<=40)(hu:U8 u<=40):VZ (dZ t) (dZ u) L=some (decide (t=u)):=by
 have e:VZ (dZ t) (dZ u) L=(py 65 L (dZ t)).bind fun d=>(py 65 L (dZ u)).bind fun e=>if(d.canLay0&&e.canLay0&&decide (d.depth<=64))=true then some (PyData.eqv d e) else none:=by
  cases t<;>cases u<;>rfl
 have hd:=vn t;rw[e,pD L t 65 (by omega),pD L u 65 (by omega)];simp only[bs,tV];rw[if_pos (by simp;omega)];congr 1;rw[Q9,sw,QQ]
open Classical in
def yW{t u:Tz}{L:M}(ht:U8 t<=40)(hu:U8 u<=40):UA (dZ t) (dZ u) L=some (.bl (decide (t=u)),L):=by
 unfold UA;rw[No ht hu];rfl
section
variable {L:M} {i j:Int} {a b:Tz}
theorem z0:Te (dZ (.ask i j a b)) (.int 0) L=some (.str "ask",L):=gU (j:=0) rfl
theorem z1:Te (dZ (.ask i j a b)) (.int 1) L=some (.int i,L):=gU (j:=1) rfl
theorem z2:Te (dZ (.ask i j a b)) (.int 2) L=some (.int j,L):=gU (j:=2) rfl
theorem z3:Te (dZ (.ask i j a b)) (.int 3) L=some (dZ a,L):=gU (j:=3) rfl
theorem z4:Te (dZ (.ask i j a b)) (.int 4) L=some (dZ b,L):=gU (j:=4) rfl
theorem xz:Te (dZ .no) (.int 0) L=some (.str "none",L):=gU (j:=0) rfl
theorem zo:Te (dZ (.one i)) (.int 0) L=some (.str "one",L):=gU (j:=0) rfl
theorem MM:Te (dZ (.one i)) (.int 1) L=some (.int i,L):=gU (j:=1) rfl
end
def jm(acc:List Int):List Int->List Int
 | []=>acc
 |k::r=>jm (if k∈acc then acc else acc++[k]) r
def dd(s:List Int):List Int:=jm [] s
def CG(l m:List Int):∀acc,jm acc (l++m)=jm (jm acc l) m:=by
 induction l with
 |nil=>intro acc;rfl
 |cons k r ih=>intro acc;exact ih _
def io(s:List Int)(k:Int):dd (s++[k])=if k∈dd s then dd s else dd s++[k]:=by
 unfold dd;rw[CG];rfl
def idx(s:List Int)(x:Int):List Int:=((List.range s.length).filter fun i=>decide (s[i]?=some x)).map fun i:Nat=>(i:Int)
def oP(s:List Int)(k x:Int):idx (s++[k]) x=idx s x++if k=x then [(s.length:Int)] else []:=by
 unfold idx;rw[Qp,QR,List.range_succ,SI,QV];congr 1
 .congr 1;refine List.filter_congr fun i hi=>?_;rw[Qe (QI.mp hi)]
 .have:(s++[k])[s.length]?=some k:=by simp
  by_cases h:k=x
  .simp[h]
  .simp[h]
def l4{J:Type}{P:List J->Prop}(h0:P [])(h1:∀l a,P l->P (l++[a])):∀l,P l:=fun l=>by
 have:∀n,∀l:List J,l.length=n->P l:=fun n=>by
  induction n with
  |zero=>intro l hl;rw[QA.mp hl];exact h0
  |succ n ih=>
   intro l hl;have hne:l≠[]:=by rintro rfl;cases hl
   rw[←List.dropLast_concat_getLast hne];exact h1 _ _ (ih _ (by rw[List.length_dropLast];omega))
 exact this _ l rfl
def iG(x:Int)(s:List Int):x∈dd s↔x∈s:=by
 refine l4 (P:=fun s=>x∈dd s↔x∈s) (by simp[dd,jm]) (fun l a ih=>?_) s;rw[io,Qr,Qu];by_cases h:a∈dd l
 .rw[if_pos h];constructor
  .exact fun z=>.inl (ih.mp z)
  .rintro(z|rfl)
   .exact ih.mpr z
   .exact h
 .rw[if_neg h,Qr,Qu,ih]
def Pi(s:List Int):(dd s).Nodup:=by
 refine l4 (P:=fun s=>(dd s).Nodup) (by simp[dd,jm]) (fun l a ih=>?_) s;rw[io];by_cases h:a∈dd l
 .rw[if_pos h];exact ih
 .rw[if_neg h];refine Rr.mpr ⟨ih,by simp,fun x hx y hy e=>?_⟩;have:y=a:=by simpa using hy
  subst this;subst e;exact h hx
def VW:i∈idx s x↔∃j:Nat,i=(j:Int)/\s[j]?=some x:=by
 unfold idx;rw[Qi];constructor
 .rintro⟨j,hj,rfl⟩;exact⟨j,rfl,by simpa using(Qq.mp hj).2⟩
 .rintro⟨j,rfl,e⟩;refine⟨j,Qq.mpr ⟨QI.mpr (P5.mp e).1,by simpa using e⟩,rfl⟩
def Fg(h:x∉s):idx s x=[]:=by
 refine List.eq_nil_iff_forall_not_mem.mpr fun i hi=>?_;obtain⟨j,rfl,e⟩:=VW.mp hi;exact h (Rq e)
def gG(s:List Int):List (Int×List Int):=(dd s).map fun x=>(x,idx s x)
def Pr(s:List Int)(k:Int):fG (gG s) k (s.length:Int)=gG (s++[k]):=by
 have Xd:((gG s).any fun g=>decide (g.1=k))=decide (k∈dd s):=by
  unfold gG;rw[List.any_map,Q9,Rb];simp
 unfold fG;rw[Xd];by_cases h:k∈dd s
 .rw[if_pos (by simpa using h)];unfold gG;rw[io,if_pos h,QN];refine QK fun x hx=>?_;show(if x=k then(x,idx s x++[(s.length:Int)]) else(x,idx s x))=(x,idx (s++[k]) x)
  rw[oP];by_cases e:x=k
  .rw[if_pos e,if_pos e.symm]
  .rw[if_neg e,if_neg (Ne.symm e),QU]
 .rw[if_neg (by simpa using h)];unfold gG;rw[io,if_neg h,QV];congr 1
  .refine QK fun x hx=>?_;rw[oP,if_neg (fun e=>h (by rw[e];exact hx)),QU]
  .show [(k,[(s.length:Int)])]=[(k,idx (s++[k]) k)]
   rw[oP,if_pos rfl,Fg (fun z=>h ((iG k s).mpr z))];rfl
theorem yK:∀(l s:List Int),ie s.length l (gG s)=gG (s++l)
 | [],s=>by rw[QU];rfl
 |k::r,s=>by
  show ie (s.length+1) r (fG (gG s) k (s.length:Int))=_;rw[Pr];have:=yK r (s++[k]);rw[Qp,QR,Sg] at this;exact this
def Pp(s:List Int):XJ s=gG s:=yK s []
def gl(s:List Int):List (List Int):=(dd s).map (idx s)
def Ky(s:List Int):(XJ s).map (·.2)=gl s:=by rw[Pp];unfold gG gl;rw[QN];rfl
def uH(s:List Int):dz s=((gl s).find? fun l=>decide ((s.length:Int)<2*(l.length:Int))).getD []:=by
 unfold dz;rw[←Ky,List.find?_map];show _=(((XJ s).find? fun g=>decide ((s.length:Int)<2*(g.2.length:Int))).map (·.2)).getD [];cases (XJ s).find? fun g=>decide ((s.length:Int)<2*(g.2.length:Int))<;>rfl
def Uy(f:Int->Int)(s:List Int):Prop:=∀x∈s,∀y∈s,f x=f y->x=y
def Uy.left(h:Uy f (s++t)):Uy f s:=fun x hx y hy=>h x (by simp[hx]) y (by simp[hy])
def Kk(s:List Int):Uy f s->dd (s.map f)=(dd s).map f:=by
 refine l4 (P:=fun s=>Uy f s->dd (s.map f)=(dd s).map f) (fun _=>rfl) (fun l a ih h=>?_) s;rw[QV,SM,io,io,ih h.left];have hm:f a∈(dd l).map f↔a∈dd l:=by
  constructor
  .intro z;obtain⟨y,hy,e⟩:=Qi.mp z;rw[←h y (by simp[(iG y l).mp hy]) a (by simp) e];exact hy
  .exact fun z=>Qi.mpr ⟨a,z,rfl⟩
 by_cases z:a∈dd l
 .rw[if_pos z,if_pos (hm.mpr z)]
 .rw[if_neg z,if_neg (fun y=>z (hm.mp y)),QV,SM]
def Px(h:Uy f s)(hx:x∈s):idx (s.map f) (f x)=idx s x:=by
 unfold idx;rw[Qb];congr 1;refine List.filter_congr fun i hi=>?_;have hi:=QI.mp hi;rw[Qm,P9 hi];rw[Ss];simp only[R7,SU];exact⟨fun e=>h _ (QX hi) _ hx e,fun e=>by rw[e]⟩
def MV(h:Uy f s):gl (s.map f)=gl s:=by
 unfold gl;rw[Kk s h,QN];exact QK fun x hx=>Px h ((iG x s).mp hx)
def so(s:List Int):List Int:=s.map fun x=>((dd s).idxOf x:Int)
def My{l:List Int}{x y:Int}(hx:x∈l)(hy:y∈l)(e:l.idxOf x=l.idxOf y):x=y:=by
 have h1:=SN (Q7 hx);have h2:=SN (Q7 hy);rw[←h1,←h2];congr 1
def BZ(s:List Int):Uy (fun x=>((dd s).idxOf x:Int)) s:=fun x hx y hy e=>My ((iG x s).mpr hx) ((iG y s).mpr hy) (by
 have e:((dd s).idxOf x:Int)=((dd s).idxOf y:Int):=e;omega)
def Ku(s:List Int)(x:Int):(idx s x).length=s.count x:=by
 refine l4 (P:=fun s=>(idx s x).length=s.count x) rfl (fun l a ih=>?_) s;rw[oP,Qp,List.count_append,ih];congr 1;by_cases h:a=x
 .subst h;simp
 .rw[if_neg h];simp[List.count_singleton,h]
def Ce(h:l∈gl s):∃x∈s,l=idx s x:=by
 obtain⟨x,hx,rfl⟩:=Qi.mp h;exact⟨x,(iG x s).mp hx,rfl⟩
def Lj(h:dz s≠[]):∃x∈s,dz s=idx s x/\s.length<2*s.count x:=by
 rw[uH] at h⊢;cases hf:(gl s).find? fun l=>decide ((s.length:Int)<2*(l.length:Int)) with
 |none=>rw[hf] at h;exact absurd rfl h
 |some l=>
  obtain⟨x,hx,rfl⟩:=Ce (Ri hf);have:=R8 hf;rw[Ku] at this;exact⟨x,hx,rfl,by have:=of_decide_eq_true this;omega⟩
def FP(h:Uy f s):dz (s.map f)=dz s:=by
 rw[uH,uH,MV h,Qb]
def GW{l m:List Int}{x:Int}(h:x∈l):(l++m).idxOf x=l.idxOf x:=by
 rw[SW,if_pos h]
def C3(s:List Int)(k:Int):∃r:Nat,so (s++[k])=so s++[(r:Int)]/\r<=(dd s).length/\(dd (s++[k])).length=max (dd s).length (r+1):=by
 refine⟨(dd (s++[k])).idxOf k,?_,?_,?_⟩
 .unfold so;rw[QV,SM];congr 1;refine QK fun x hx=>?_;rw[io];by_cases h:k∈dd s
  .rw[if_pos h]
  .rw[if_neg h,GW ((iG x s).mpr hx)]
 .rw[io];by_cases h:k∈dd s
  .rw[if_pos h];exact Sc (Q7 h)
  .rw[if_neg h,SW,if_neg h];simp
 .rw[io];by_cases h:k∈dd s
  .rw[if_pos h];have:=Q7 h;omega
  .rw[if_neg h,SW,if_neg h];simp
def Ef(s:List Int):(dd s).length<=m->(so s,(dd s).length)∈Sx s.length m:=by
 refine l4 (P:=fun s=>(dd s).length<=m->(so s,(dd s).length)∈Sx s.length m) (fun _=>by simp[so,dd,jm,Sx]) (fun l a ih h=>?_) s;obtain⟨r,e1,h1,h2⟩:=C3 l a;rw[h2] at h⊢;rw[e1,Qp,QR];show _∈(Sx l.length m).flatMap _;refine R1.mpr ⟨_,ih (by omega),Qi.mpr ⟨r,QI.mpr ?_,rfl⟩⟩;show r<min ((dd l).length+1) m;omega
def DO:x∈so s↔0<=x/\x<((dd s).length:Int):=by
 unfold so;rw[Qi];constructor
 .rintro⟨y,hy,rfl⟩;have:=Q7 ((iG y s).mpr hy);omega
 .rintro⟨h0,h1⟩;have hx:x.toNat<(dd s).length:=by omega
  refine⟨(dd s)[x.toNat],(iG _ s).mp (QX hx),?_⟩;have e:(dd s).idxOf (dd s)[x.toNat]=x.toNat:=by
   refine QT fun hne=>?_;have h2:=Q7 (QX hx);have h3:=SN h2;have hp:=Ra.mp (Pi s);rcases Nat.lt_or_gt_of_ne hne with z|z
   .exact hp _ _ h2 hx z h3
   .exact hp _ _ hx h2 z h3.symm
  rw[e];omega
def Y3:so s∈(Sx s.length m).map (·.1)↔(dd s).length<=m:=by
 constructor
 .intro h;obtain⟨p,hp,e⟩:=Qi.mp h;have g:=j1 m _ p hp;have hle:=g.le;refine QT fun z=>?_;have e:p.1=so s:=e;have:=(DO (s:=s) (x:=(m:Int))).mpr ⟨by omega,by omega⟩;rw[←e] at this;have:=(g.mem _).mp this;omega
 .exact fun h=>Qi.mpr ⟨_,Ef s h,rfl⟩
def zG(s:List Int):(dd s).length<=s.length:=by
 refine l4 (P:=fun s=>(dd s).length<=s.length) (P3 _) (fun l a ih=>?_) s;rw[io,Qp,QR];split
 .omega
 .rw[Qp,QR];omega
def V8:Tr->Tz
 | .e none=>.no
 | .e (some i)=>.one i
 | .ask i j a b=>.ask (i:Int) (j:Int) (V8 a) (V8 b)
theorem uR:∀t:Tr,W8 t=dZ (V8 t)
 | .e none=>rfl
 | .e (some _)=>rfl
 | .ask i j a b=>by
  simp only[W8,V8,dZ,uR a,uR b]
theorem wd:∀t:Tr,U8 (V8 t)=dep t
 | .e none=>rfl
 | .e (some _)=>rfl
 | .ask i j a b=>by
  simp only[dep,V8,U8,wd a,wd b];omega
theorem sC(s:List Int):∀t:Tr,led s (V8 t)=eF s t
 | .e none=>rfl
 | .e (some _)=>rfl
 | .ask i j a b=>by
  simp only[V8,led,eF,kd,Sf,sC s a,sC s b]
def lv(P:Option Int->Prop):Tr->Prop
 | .e x=>P x
 | .ask _ _ a b=>lv P a/\lv P b
def G5(hP:∀y,∀x∈es.getD y [],P x):∀(a:Nat) (left:List Nat) (t:Tr),left≠[]->df ps ss es a left=some t->lv P t:=by
 have base:∀(left:List Nat) (x:Option Int),left≠[]->cE es left=some x->P x:=by
  intro left x h0 hx;obtain⟨y,r,rfl⟩:=RA h0;exact hP y x (oU hx y (by simp))
 intro a;induction a with
 |zero=>
  intro left t h0 h;simp only[df,Option.map_eq_some_iff] at h;obtain⟨x,hx,rfl⟩:=h;exact base left x h0 hx
 |succ a ih=>
  intro left t h0 h;simp only[df] at h;split at h
  .rename_i x hx;cases h;exact base left x h0 hx
  .obtain⟨p,hp,e⟩:=vY h;obtain⟨n1,n2,t1,t2,h1,h2,rfl⟩:=Bl e;exact⟨ih _ _ n1 h1,ih _ _ n2 h2⟩
def _N(n:Nat)(x:Option Int):Prop:=match x with
 |none=>True
 |some i=>0<=i/\i<(n:Int)
theorem si(hn:n<=7):∀t:Tr,wf (Ts n) t->lv (_N n) t->Yh n (V8 t)
 | .e none,_,_=>trivial
 | .e (some _),_,h=>h
 | .ask i j a b,⟨hp,h1,h2⟩,⟨l1,l2⟩=>by
  have ok:=AT hp;refine⟨⟨?_,⟨by omega,by omega⟩,⟨by omega,by omega⟩⟩,si hn a h1 l1,si hn b h2 l2⟩;intro e;have e2:(i:Int)=(j:Int):=e;exact ok.2.2 (by show i=j;omega)
def GT(h:x∈fQ n):_N n x:=by
 unfold fQ at h;rcases Qz.mp h with rfl|h
 .trivial
 .obtain⟨t,ht,rfl⟩:=Qi.mp h;have:=QI.mp ht;exact⟨by omega,by omega⟩
structure Tt (n m N:Nat) (t:Tr):Prop where
 is:df (Ts n) (c8 n m) (dH n m) N (List.range (c8 n m).length)=some t
 wf:wf (Ts n) t
 dep:dep t=N
 led:∀s∈c8 n m,eF s t∈hE s
 lv:lv (_N n) t
def AV(F:XQ n m N)(he:∀l∈dH n m,∀e∈l,e∈fQ n):∃t,Tt n m N t:=by
 obtain⟨t,ht⟩:=F.yes;obtain⟨h1,h2,h3⟩:=F.tr ht;refine⟨t,ht,h1,h2,h3,G5 (fun y x hx=>?_) _ _ _ (uc F.pos) ht⟩;rw[P7] at hx;cases hy:(dH n m)[y]? with
 |none=>rw[hy] at hx;simp at hx
 |some l=>rw[hy] at hx;exact GT (he l (Rq hy) x hx)
def g8(s:List Int):Tr->List An
 | .e _=>[]
 | .ask i j a b=>(i,j,decide (s.getD i 0=s.getD j 0))::(if s.getD i 0=s.getD j 0 then g8 s a else g8 s b)
theorem xk(s:List Int):∀t:Tr,(g8 s t).length<=dep t
 | .e _=>by simp[g8,dep]
 | .ask i j a b=>by
  have h1:=xk s a;have h2:=xk s b;simp only[g8,dep,Qj];split<;>omega
theorem tN(s:List Int):∀t:Tr,fo s (g8 s t)=true
 | .e _=>rfl
 | .ask i j a b=>by
  have h1:=tN s a;have h2:=tN s b;unfold fo at*;simp only[g8,R5,Qs];refine⟨by simp,?_⟩;split
  .exact h1
  .exact h2
theorem sM(s:List Int):∀t:Tr,wf (Ts n) t->XA n (g8 s t)
 | .e _,_=>fun a h=>by cases h
 | .ask i j a b,⟨hp,h1,h2⟩=>by
  intro x hx;simp only[g8] at hx;rcases Qz.mp hx with rfl|hx
  .exact AT hp
  .split at hx
   .exact sM s a h1 x hx
   .exact sM s b h2 x hx
theorem uf:∀t:Tr,fo u (g8 s t)=true->eF u t=eF s t
 | .e _,_=>rfl
 | .ask i j a b,h=>by
  unfold fo at h;simp only[g8,R5,Qs,beq_iff_eq] at h;obtain⟨h1,h2⟩:=h;simp only[eF];by_cases e:s.getD i 0=s.getD j 0
  .rw[if_pos e] at h2⊢;have:u.getD i 0=u.getD j 0:=by rw[QC e] at h1;simpa using h1
   rw[if_pos this];exact uf a h2
  .rw[if_neg e] at h2⊢;have:¬u.getD i 0=u.getD j 0:=by rw[Qn e] at h1;simpa using h1
   rw[if_neg this];exact uf b h2
def zt(hi:i<s.length)(hj:j<s.length):((so s).getD i 0=(so s).getD j 0)↔s.getD i 0=s.getD j 0:=by
 have e:∀k,k<s.length->(so s).getD k 0=((dd s).idxOf (s.getD k 0):Int):=by
  intro k hk;unfold so;simp[P7,hk]
 rw[e i hi,e j hj];constructor
 .intro h;refine BZ s _ ?_ _ ?_ h
  .simp[P7,hi]
  .simp[P7,hj]
 .intro h;rw[h]
def HL(s:List Int):(so s).length=s.length:=by simp[so]
def E7(hn:s.length=n)(hv:XA n as):fo (so s) as=fo s as:=by
 unfold fo;have:∀l:List An,(∀a∈l,a.1<n/\a.2.1<n/\a.1≠a.2.1)->(l.all fun a=>decide ((so s).getD a.1 0=(so s).getD a.2.1 0)==a.2.2)=l.all fun a=>decide (s.getD a.1 0=s.getD a.2.1 0)==a.2.2:=by
  intro l;induction l with
  |nil=>intro _;rfl
  |cons a l ih=>
   intro h;obtain⟨h1,h2,_⟩:=h a (by simp);rw[R5,R5,ih fun x hx=>h x (by simp[hx])];congr 2;rw[Ss];exact zt (by omega) (by omega)
 exact this as hv
def Fv(hn:s.length=n)(t:Tr)(hw:wf (Ts n) t):eF (so s) t=eF s t:=by
 refine uf t ?_;rw[E7 hn (sM s t hw)];exact tN s t
def L5(s:List Int):dz (so s)=dz s:=FP (BZ s)
def sP(s:List Int):hE (so s)=hE s:=by unfold hE;rw[L5]
def Az(h:(dd s).length<=m):so s∈c8 s.length m:=Y3.mpr h
def K6(T:Tt n m N t)(hn:s.length=n)(h:(dd s).length<=m):eF s t∈hE s:=by
 have:=T.led (so s) (by rw[←hn];exact Az h);rw[Fv hn t T.wf,sP] at this;exact this
def xu(h:none∈hE s):dz s=[]/\hE s=[none]:=by
 unfold hE at*;split at h
 .rename_i e;exact⟨e,if_pos e⟩
 .simp at h
def yZ(h:some i∈hE s):i∈dz s/\hE s=(dz s).map some:=by
 unfold hE at*;split at h
 .simp at h
 .rename_i e;rw[if_neg e];exact⟨by simpa using h,rfl⟩
section
variable {P:Program} {w:World} {K:Frag} {mg:Str->Option Value} {base:Heap} {f:Addr} {fd:FuncData}
theorem JN:TC ["cell"] ["cell"] (c9 (top 46)):=⟨rfl,rfl,rfl,by decide +kernel,rfl,by decide +kernel,by decide +kernel⟩
def vM:SV:=
  (db (vL fS (cQ (v2 wg (vC (.int 0)) (v2 jh (be 0) (v2 mj (vC (.int 10)) (vC (.int 18))))) (cQ (v2 gg (v2 eV (v2 mJ (be 0) (vC (.int 2147483629))) (vC (.int 1))) (v1 kX (v2 U7 (be 0) (v2 mj (vC (.int 10)) (vC (.int 18)))))) cU))))
def nZ:C0:=dF 1 1 (vM)
theorem Nx{k:Nat}(F:T2 K "_law_hand" "_law_hand" (top 46) f fd) (lL:mg "int"=none) (iV:mg "max"=none):TJ P w K mg base T1 (k+1) f fd ["cell"] (TV K (nZ)):=by
 unfold nZ vM;exact eg F JN fun cdv A outer s H E hr=>
  (cX (dt (lY (cT (FU iV cY (nr (cP 0) (qr cY cY))) (cT (kR (i5 (qd (cP 0) cY) cY) (zi lL (zL hr (cP 0) (qr cY cY)))) cW)))))
theorem yG:TC ["hand","many","taken"] ["hand","many"] (c9 (top 47)):=⟨rfl,rfl,rfl,by decide +kernel,rfl,by decide +kernel,by decide +kernel⟩
def qx:SV:=
  (cV (UR (vT (v2 Vu (v2 Te (be 0) (vC (.int 0))) (vC (.int 0))))
   (cV (dh (v2 mJ (v2 Te (be 0) (vC (.int 0))) (be 1)) (cR 2))
   (cV (dh (v2 vD (v2 Te (be 0) (vC (.int 0))) (be 1)) (nK (be 0) (vC (.int 0))))
   (db (be 2))))
   UL)
  (cV (dh (v2 mJ (v2 gg (v2 Te (be 0) (vC (.int 1))) (vC (.int 48271))) (vC (.int 2147483647))) (nK (be 0) (vC (.int 1))))
  (db (v2 mJ (v2 vD (v2 mj (v2 eV (v2 Te (be 0) (vC (.int 1))) (vC (.int 1))) (vC (.int 7))) (vC (.int 8))) (be 1)))))
def lm:C0:=dF 3 2 (qx)
theorem Ih{k:Nat}(F:T2 K "_law_take" "_law_take" (top 47) f fd):TJ P w K mg base T1 (k+1) f fd ["hand","many"] (TV K (lm)):=by
 unfold lm qx;exact eg F yG fun cdv A outer s H E hr=>
  (cZ (eD (ng (dw (cP 0) cY) cY)
   (cZ (dJ (i:=2) yG.nd rfl (Or.inl rfl) (qd (dw (cP 0) cY) (cP 1)))
   (cZ (om (Bk (dw (cP 0) cY) (cP 1)) (yc (cP 0) cY))
   (cX (dt (cP 2)))))
   eW)
  (cZ (om (qd (kR (dw (cP 0) cY) cY) cY) (yc (cP 0) cY))
  (cX (dt (qd (Bk (qr (i5 (dw (cP 0) cY) cY) cY) cY) (cP 1))))))
theorem xO:TC ["tree","kinds"] ["tree","kinds"] (c9 (top 48)):=⟨rfl,rfl,rfl,by decide +kernel,rfl,by decide +kernel,by decide +kernel⟩
def uN:SV:=
  (cV (i9 (vT (v2 UA (v2 Te (be 0) (vC (.int 0))) (vC (.str "ask"))))
   (dh (v2 Te (be 0) (v2 Te (vL fm (cQ (vC (.int 4)) (cQ (vC (.int 3)) cU))) (v1 kX (v2 UA (v2 Te (be 1) (v2 Te (be 0) (vC (.int 1)))) (v2 Te (be 1) (v2 Te (be 0) (vC (.int 2)))))))) (cR 0)) 1000000)
  (db (be 0)))
def mZ:C0:=dF 2 2 (uN)
theorem Io{k:Nat}(F:T2 K "_law_end" "_law_end" (top 48) f fd) (lL:mg "int"=none):TJ P w K mg base T1 (k+1) f fd ["tree","kinds"] (TV K (mZ)):=by
 unfold mZ uN;exact eg F xO fun cdv A outer s H E hr=>
  (cZ (sj 1000000 QG (iN hr (dw (cP 0) cY) i0)
   (cX (dJ (i:=0) xO.nd rfl (Or.inl rfl) (dw (cP 0) (dw (iF (cT cY (cT cY cW))) (zi lL (nE hr (dw (cP 1) (dw (cP 0) cY)) (dw (cP 1) (dw (cP 0) cY)))))))))
  (cX (dt (cP 0))))
theorem Pj:TC ["one","other","kinds"] ["one","other","kinds"] (c9 (top 49)):=⟨rfl,rfl,rfl,by decide +kernel,rfl,by decide +kernel,by decide +kernel⟩
def vE:SV:=
  (cV (UR (vT (v2 U7 (v2 Te (be 0) (vC (.int 0))) (v2 Te (be 1) (vC (.int 0)))))
   (db (vC (.bl false)))
   UL)
  (db (Xm (v2 UA (be 0) (vL eO (cQ (vC (.str "none")) cU))) (v2 UA (v2 Te (be 2) (v2 Te (be 0) (vC (.int 1)))) (v2 Te (be 2) (v2 Te (be 1) (vC (.int 1))))))))
def nC:C0:=dF 3 3 (vE)
theorem FY{k:Nat}(F:T2 K "_law_alike" "_law_alike" (top 49) f fd):TJ P w K mg base T1 (k+1) f fd ["one","other","kinds"] (TV K (nC)):=by
 unfold nC vE;exact eg F Pj fun cdv A outer s H E hr=>
  (cZ (eD (mG hr (dw (cP 0) cY) (dw (cP 1) cY))
   (cX (dt gF))
   eW)
  (cX (dt (tS (nE hr (cP 0) (fZ (cT i0 cW))) (va (nE hr (dw (cP 2) (dw (cP 0) cY)) (dw (cP 2) (dw (cP 1) cY))))))))
theorem jV:TC ["kinds","number","tree","end","asks","found","said"] ["kinds"] (c9 (top 50)):=⟨rfl,rfl,rfl,by decide +kernel,rfl,by decide +kernel,by decide +kernel⟩
def rM(gz:C0)(lX:C0)(lc:C0)(fW:C0)(kW:C0)(my:C0)(gn:C0):SV:=
  (cV (dh (vL gz (cQ (v1 dU (be 0)) cU)) (eB 2 (c4 (cR 1) (c4 (cR 2) dY))))
  (cV (dh (vL lX (cQ (be 2) (cQ (be 0) cU))) (cR 3))
  (cV (fF (UB (vL fm (cQ (vL fW (cQ (be 0) cU)) (cQ (vL lc (cQ (be 0) cU)) cU)))) (eB 2 (c4 (cR 4) (c4 (cR 5) dY)))
   (cV (UR (gA (dL (vL kW (cQ (be 5) (cQ (be 3) (cQ (be 0) cU))))))
    (db (vC (.bl false)))
    UL)
   (cV (dh (vL my (cQ (v1 dU (be 0)) (cQ (be 4) cU))) (cR 6))
   (UR (XO (vT (v2 U7 (v2 Te (be 6) (vC (.int 0))) (v2 Te (be 3) (vC (.int 0))))) (iK (vT (v2 UA (v2 Te (be 6) (vC (.int 0))) (vC (.str "one")))) (vT (v2 (Λ true) (v2 Te (be 6) (vC (.int 1))) (vL gn (cQ (be 0) cU))))))
    (db (vC (.bl false)))
    UL))))
  (db (v2 WV (v1 dU (v2 Te (vL fW (cQ (be 0) cU)) (vC (.int 0)))) (be 1))))))
def pP(gz:C0)(lX:C0)(lc:C0)(fW:C0)(kW:C0)(my:C0)(gn:C0):C0:=dF 7 1 (rM gz lX lc fW kW my gn)
theorem Jj{gz lX lc fW kW my gn:C0}{nS BC xD nM ye wT nP k:Nat}(F:T2 K "_law_right" "_law_right" (top 50) f fd) (l3:Df P w K mg base nS "fewest" ["many"] (TV K gz)) (sJ:nS<=k) (vX:Df P w K mg base BC "_law_end" ["tree","kinds"] (TV K lX)) (D2:BC<=k) (vU:Df P w K mg base xD "in_a_row" ["kinds"] (TV K lc)) (Hj:xD<=k) (kF:Df P w K mg base nM "in_rows" ["kinds"] (TV K fW)) (pR:nM<=k) (sN:Df P w K mg base ye "_law_alike" ["one","other","kinds"] (TV K kW)) (JK:ye<=k) (rg:Df P w K mg base wT "tells" ["many","answers"] (TV K my)) (Lp:wT<=k) (lS:Df P w K mg base nP "more_than_half" ["kinds"] (TV K gn)) (uh:nP<=k) (dR:mg "len"=none):TJ P w K mg base T1 (k+1) f fd ["kinds"] (TV K (pP gz lX lc fW kW my gn)):=by
 unfold pP rM;exact eg F jV fun cdv A outer s H E hr=>
  (cZ (om (dy l3 (hr.mono sJ) (cT (gw dR (cP 0)) cW)) (gM (n:=2) (eI (dl (i:=1) jV.nd rfl (Or.inl rfl)) (eI (dl (i:=2) jV.nd rfl (Or.inl rfl)) hJ))))
  (cZ (dJ (i:=3) jV.nd rfl (Or.inl rfl) (dy vX (hr.mono D2) (cT (cP 2) (cT (cP 0) cW))))
  (cZ (gB QG rfl (fB (iF (cT (dy kF (hr.mono pR) (cT (cP 0) cW)) (cT (dy vU (hr.mono Hj) (cT (cP 0) cW)) cW)))) (gM (n:=2) (eI (dl (i:=4) jV.nd rfl (Or.inl rfl)) (eI (dl (i:=5) jV.nd rfl (Or.inl rfl)) hJ)))
   (cZ (eD (kJ (ft (dy sN (hr.mono JK) (cT (cP 5) (cT (cP 3) (cT (cP 0) cW))))))
    (cX (dt gF))
    eW)
   (cZ (dJ (i:=6) jV.nd rfl (Or.inl rfl) (dy rg (hr.mono Lp) (cT (gw dR (cP 0)) (cT (cP 4) cW))))
   (cX (eD (PW.pt (qD (mG hr (dw (cP 6) cY) (dw (cP 3) cY)) (pf (PW.pt (xF (iN hr (dw (cP 6) cY) i0) (w6 (O1 (dw (cP 6) cY) (dy lS (hr.mono uh) (cT (cP 0) cW)))))))))
    (cX (dt gF))
    eW)))))
  (cX (dt (wz (gw dR (dw (dy kF (hr.mono pR) (cT (cP 0) cW)) cY)) (cP 1)))))))
theorem lK:TC ["script","cell","hand","few","many","most"] ["script"] (c9 (top 51)):=⟨rfl,rfl,rfl,by decide +kernel,rfl,by decide +kernel,by decide +kernel⟩
theorem EN:((["thing"]:List Str)++([("hand",2),("few",3)]:List (Str×Nat)).map (·.1)).Nodup:=by decide +kernel
theorem HS:((["sorts"]:List Str)++([]:List (Str×Nat)).map (·.1)).Nodup:=by decide +kernel
def wk(lC:C0)(jC:C0)(lP:C0)(fj:C0)(fW:C0)(gz:C0):SV:=
  (cV (fF (UB (v2 eV (vL fm (cQ (v2 mj (vC (.int 10)) (vC (.int 18))) cU)) (ϴ (be 0) qp (wp (vC (.int 8)))))) (cR 1)
   (cV (dh (vL lC (cQ (be 1) cU)) (cR 2))
   (cV (dh (v2 eV (vC (.int 1)) (vL jC (cQ (be 2) (cQ (vC (.int 5)) cU)))) (cR 3))
   (UR (gA (dL (vL lP (cQ (eN ["thing"] [("hand",2),("few",3)] (WG (v2 eV (vC (.int 1)) (vL jC (cQ (be 2) (cQ (vC (.int 5)) cU))))) (cR 0) da (vL jC (cQ (be 1) (cQ (be 2) cU)))) cU))))
    (db (vC (.bl false)))
    UL))))
  (cV (fF (UB (vL fm (cQ (vC (.int 1)) (cQ (vC (.int 2)) (cQ (vC (.int 3)) (cQ (vC (.int 4)) (cQ (vC (.int 5)) cU))))))) (cR 4)
   (cV (dh (v1 sh (eN ["sorts"] [] (UB (vL fj (cQ (be 4) (cQ (be 4) cU)))) (cR 0) da (v1 dU (v2 Te (vL fW (cQ (be 0) cU)) (vC (.int 0)))))) (cR 5))
   (UR (vT (v2 Vu (be 5) (v2 Te (vL gz (cQ (be 4) cU)) (vC (.int 0)))))
    (db (vC (.bl false)))
    UL)))
  (db (vC (.bl true)))))
def pk(lC:C0)(jC:C0)(lP:C0)(fj:C0)(fW:C0)(gz:C0):C0:=dF 6 1 (wk lC jC lP fj fW gz)
theorem Fa{lC jC lP fj fW gz:C0}{zC BU xr jG nM nS k:Nat}(F:T2 K "law" "law" (top 51) f fd) (uU:Df P w K mg base zC "_law_hand" ["cell"] (TV K lC)) (EF:zC<=k) (m3:Df P w K mg base BU "_law_take" ["hand","many"] (TV K jC)) (t6:BU<=k) (uv:Df P w K mg base xr "_law_right" ["kinds"] (TV K lP)) (Nk:xr<=k) (jd:Df P w K mg base jG "all_sorts" ["many","most"] (TV K fj)) (mL:jG<=k) (kF:Df P w K mg base nM "in_rows" ["kinds"] (TV K fW)) (pR:nM<=k) (l3:Df P w K mg base nS "fewest" ["many"] (TV K gz)) (sJ:nS<=k) (eP:mg "range"=none) (dR:mg "len"=none) (iV:mg "max"=none):TJ P w K mg base T1 (k+1) f fd ["script"] (TV K (pk lC jC lP fj fW gz)):=by
 unfold pk wk;exact eg F lK fun cdv A outer s H E hr=>
  (cZ (gB QG rfl (fB (i5 (iF (cT (qr cY cY) cW)) (Ca (cP 0) Fx (El cY)))) (dl (i:=1) lK.nd rfl (Or.inl rfl))
   (cZ (dJ (i:=2) lK.nd rfl (Or.inr rfl) (dy uU (hr.mono EF) (cT (cP 1) cW)))
   (cZ (dJ (i:=3) lK.nd rfl (Or.inr rfl) (i5 cY (dy m3 (hr.mono t6) (cT (cP 2) (cT cY cW)))))
   (cX (eD (kJ (ft (dy uv (hr.mono Nk) (cT (iA (own:=["thing"]) (cap:=[("hand",2),("few",3)]) (fK rfl) (mV eP (i5 cY (dy m3 (hr.mono t6) (cT (cP 2) (cT cY cW)))))
   (fun _ _ _ _ _=>(dl (i:=0) EN rfl (Or.inl rfl))) (fun _ _ _ _ _=>ge)
   (fun _ _ _ _ _=>(dy m3 (hr.mono t6) (cT (cP 1) (cT (cP 2) cW))))) cW))))
    (cX (dt gF))
    eW)))))
  (cZ (gB QG rfl (fB (iF (cT cY (cT cY (cT cY (cT cY (cT cY cW))))))) (dl (i:=4) lK.nd rfl (Or.inl rfl))
   (cZ (dJ (i:=5) lK.nd rfl (Or.inl rfl) (Jh iV (iA (own:=["sorts"]) (cap:=[]) (fK rfl) (fB (dy jd (hr.mono mL) (cT (cP 4) (cT (cP 4) cW))))
   (fun _ _ _ _ _=>(dl (i:=0) HS rfl (Or.inl rfl))) (fun _ _ _ _ _=>ge)
   (fun _ _ _ _ _=>(gw dR (dw (dy kF (hr.mono pR) (cT (cP 0) cW)) cY))))))
   (cX (eD (ng (cP 5) (dw (dy l3 (hr.mono sJ) (cT (cP 4) cW)) cY))
    (cX (dt gF))
    eW))))
  (cX (dt gF))))
end
def Xe:Nat->Nat
 |2=>1
 |3=>3
 |4=>4
 |5=>6
 |_=>0
def rP{n:Nat}(h1:1<=n)(h5:n<=5):XQ n n (Xe n):=by
 have:n=1\/n=2\/n=3\/n=4\/n=5:=by omega
 rcases this with rfl|rfl|rfl|rfl|rfl
 .exact IP
 .exact Iq
 .exact JZ
 .exact D6
 .exact Js
def Ba:∀n<6,∀l∈dH n n,∀e∈l,e∈fQ n:=by decide +kernel
def HU:∀n<6,∀s∈c8 n n,(dz s).length<=1000:=by decide +kernel
def OW:∀n<6,cs (Ts n).length (Xe n+1)<=15000000:=by decide +kernel
def wS:∀n<6,Xe n<10:=by decide +kernel
section
variable {CS C CT:Addr} {n:Nat} {L:M}
abbrev oA(CS C CT:Addr):FX:=oi (mY C CT) (rc CS CT) (.int 5)
theorem BS(h1:1<=n)(h5:n<=5)(T:Tt n n (Xe n) t):Wp (dn (oA CS C CT) [.int (n:Int)] L) fun d Z5=>d=.tup [.int (Xe n:Int),W8 t]/\Gr L Z5:=by
 refine uZ ?_;unfold oA oi t9;refine(sV rfl).mpr ?_;show Wt (fg _ _ [some (.int (n:Int))] L) _;simp!;refine(Dt (by omega) (by omega)).imp ?_;rintro _ L ⟨rfl,rfl⟩;simp!;refine(Cu (C:=CS) (CT:=CT) (m:=n) (by omega) (wS n (by omega)) (HU n (by omega)) (rP h1 h5) (OW n (by omega)) T.is).imp ?_;rintro _ Z3 ⟨rfl,g⟩;simp!;exact⟨_,rfl,rfl,g⟩
end
section
variable {C CF CT:Addr} {n:Nat} {L:M} {ks:List Int}
theorem HH(hs:s.length=n)(hw:Yh n t)(hd:U8 t<=40):Wp (mZ [dZ t,dI s] L) fun d Z5=>d=dE (led s t)/\Z5=L:=by
 unfold mZ uN;refine(fJ rfl).mpr ?_;show Ws (cV _ _ [some (dZ t),some (.lst (s.map D.int))] L) _;rw[wl];refine A0 (fun m B Z5=>Z5=L/\∃u,U8 u=m/\Yh n u/\led s u=led s t/\B=[some (dZ u),some (.lst (s.map D.int))]) (U8 t) 1000000 ⟨rfl,t,rfl,hw,rfl,rfl⟩ (by omega) ?_;rintro m B Z5 ⟨rfl,u,rfl,hu,he,rfl⟩;cases u with
 |no=>
  simp![xz,Dg,Qo,if_false];simp only[led] at he;exact⟨by rw[←he];rfl,trivial⟩
 |one i=>
  simp![zo,D3,Qo,if_false];simp only[led] at he;exact⟨by rw[←he];rfl,trivial⟩
 |ask i j a b=>
  obtain⟨⟨_,hi,hj⟩,w1,w2⟩:=hu;simp![z0,M7,if_true];rw[qJ (by simp)];simp![z1,z2,qE hs hi,qE hs hj];simp only[led] at he;by_cases hq:kd s i=kd s j
  .rw[if_pos hq] at he;rw[QC hq];simp![if_true];rw[show(1:Int)=((1:Nat):Int) from rfl,sX (ds:=[.int 4,.int 3]) (j:=1) rfl];simp![z3];exact⟨U8 a,by simp only[U8];omega,trivial,a,rfl,w1,he,rfl⟩
  .rw[if_neg hq] at he;rw[Qn hq];simp![Qo,if_false];rw[show(0:Int)=((0:Nat):Int) from rfl,sX (ds:=[.int 4,.int 3]) (j:=0) rfl];simp![z4];exact⟨U8 b,by simp only[U8];omega,trivial,b,rfl,w2,he,rfl⟩
theorem Bm(h:i∈dz ks):inr ks.length i/\∃x,dz ks=idx ks x/\kd ks i=x:=by
 have hne:dz ks≠[]:=fun z=>by rw[z] at h;cases h
 obtain⟨x,_,e,_⟩:=Lj hne;rw[e] at h;obtain⟨j,rfl,hj⟩:=VW.mp h;have hl:=(P5.mp hj).1;refine⟨⟨by omega,by omega⟩,x,e,?_⟩;unfold kd;rw[P7,Sf,hj];rfl
theorem wI(hx:x∈hE ks)(hy:y∈hE ks):(x=none/\y=none)\/∃i j,x=some i/\y=some j/\i∈dz ks/\j∈dz ks/\inr ks.length i/\inr ks.length j/\kd ks i=kd ks j:=by
 cases x with
 |none=>
  have h:=(xu hx).2;rw[h] at hy;exact .inl ⟨rfl,Qu.mp hy⟩
 |some i=>
  cases y with
  |none=>
   have h:=(xu hy).2;rw[h] at hx;cases Qu.mp hx
  |some j=>
   have h1:=(yZ hx).1;have h2:=(yZ hy).1;obtain⟨a1,x1,b1,c1⟩:=Bm h1;obtain⟨a2,x2,b2,c2⟩:=Bm h2;refine .inr ⟨i,j,rfl,rfl,h1,h2,a1,a2,?_⟩;rw[c1,c2];have:i∈idx ks x2:=by rw[←b2];exact h1
   obtain⟨q,rfl,hq⟩:=VW.mp this;rw[←c1];unfold kd;rw[P7,Sf,hq];rfl
theorem zP:U7 (.str "one") (.str "one") L=some (.bl false,L):=by simp[Yd]
theorem Bp:U7 (.str "none") (.str "none") L=some (.bl false,L):=by simp[Y4]
theorem JY:UA (.str "one") (.str "one") L=some (.bl true,L):=by simp[Yd]
theorem Kc:UA (.str "none") (.str "one") L=some (.bl false,L):=by simp[Yd,Y4,Ne.symm Jb]
theorem e0n:Te (dE none) (.int 0) L=some (.str "none",L):=xz
theorem e0o:Te (dE (some i)) (.int 0) L=some (.str "one",L):=zo
theorem e1o:Te (dE (some i)) (.int 1) L=some (.int i,L):=MM
theorem DI(hx:x∈hE ks)(hy:y∈hE ks):Wp (nC [dE x,dE y,dI ks] L) fun d Z5=>d=.bl true/\Z5=L:=by
 unfold nC vE;refine(fJ rfl).mpr ?_;show Ws (cV _ _ [some (dE x),some (dE y),some (.lst (ks.map D.int))] L) _;rcases wI hx hy with⟨rfl,rfl⟩|⟨i,j,rfl,rfl,_,_,h1,h2,h3⟩
 .simp![e0n,Bp];rw[ig (by simp)];simp!;have e:UA (dE none) (.tup [.str "none"]) L=some (.bl true,L):=(yW (t:=.no) (u:=.no) (by simp[U8]) (by simp[U8])).trans (by simp);simp![e];exact⟨trivial,trivial⟩
 .simp![e0o,zP];rw[ig (by simp)];simp!;have e:UA (dE (some i)) (.tup [.str "none"]) L=some (.bl false,L):=(yW (t:=.one i) (u:=.no) (by simp[U8]) (by simp[U8])).trans (by simp);simp![e,e1o,qE rfl h1,qE rfl h2,h3,SS];exact⟨trivial,trivial⟩
theorem JL{d:D}{i:Int}{l:List Int}{neg:Bool}(h:Ls L d (l.map D.int)):Λ neg (.int i) d L=some (.bl (if neg then !decide (i∈l) else decide (i∈l)),L):=by
 have ho:dQ Yv (l.map D.int)=some (l.map V.int):=jz fun a _=>rfl;have hs:mC L d=some (l.map D.int):=by
  rcases pN h with⟨k,rfl,hk⟩|rfl|rfl
  .unfold mC;simp only[hk,h9 hk]
  .rfl
  .rfl
 have hf:Yv (.int i)=some (.int i):=rfl;unfold Λ;rw[hf,bs,hs,bs,ho,bs,HB]
theorem Gm(hl:Ls L d (as.map dA))(hv:XA n as)(hs:as.length<=1000)(hn:n<=7)(hf:eT n as≠[]):Wp (dn (rF C CF CT) [.int (n:Int),d] L) fun d Z5=>d=gN (kE (eT n as))/\Gr L Z5:=by
 obtain⟨Z5,e,g⟩:=JG (C:=C) (CF:=CF) (CT:=CT) (L:=L) hl hv hs hn hf;exact uZ ⟨_,_,e,_,rfl,rfl,g⟩
def aB(n:Nat)(as:List An):Bool:=as.all fun a=>decide (a.1<n)&&(decide (a.2.1<n)&&decide (a.1≠a.2.1))
def Ϗ(n:Nat)(s:List Int)(as:List An)(f:Option Nat):Bool:=aB n as&&(decide (as.length<=1000)&&(decide ((f.map fun t:Nat=>(t:Int))∈hE s)&&(!(eT n as).isEmpty&&match kE (eT n as) with
 |none=>false
 |some x=>decide (x∈hE s))))
def okS(n:Nat)(s:List Int):Bool:=Ϗ n s (fH s).1 (fH s).2&&(Ϗ n s (fe s).1 (jo s)&&decide ((fH s).1.length<=Xe n))
theorem Jk:∀n<6,1<=n->∀s∈c8 n n,okS n s=true:=by decide +kernel
structure YZ (ks:List Int) (as:List An) (f:Option Nat):Prop where
 ok:XA ks.length as
 len:as.length<=1000
 fnd:(f.map fun t:Nat=>(t:Int))∈hE ks
 fit:eT ks.length as≠[]
 tel:∃x,kE (eT ks.length as)=some x/\x∈hE ks
theorem xY{s as f}(h:Ϗ s.length s as f=true):YZ s as f:=by
 unfold Ϗ at h;simp only[Qs,QQ] at h;obtain⟨h1,h2,h3,h4,h5⟩:=h;refine⟨fun a ha=>?_,h2,h3,fun z=>by rw[z] at h4;simp at h4,?_⟩
 .have:=QE.mp h1 a ha;simpa using this
 .cases hc:kE (eT s.length as) with
  |none=>rw[hc] at h5;cases h5
  |some x=>rw[hc] at h5;exact⟨x,rfl,by simpa using h5⟩
theorem xI(h1:1<=ks.length)(h5:ks.length<=5):YZ ks (fH ks).1 (fH ks).2/\YZ ks (fe ks).1 (jo ks)/\(fH ks).1.length<=Xe ks.length:=by
 have hs:=Az (s:=ks) (m:=ks.length) (zG ks);have h:=Jk ks.length (by omega) h1 _ hs;unfold okS at h;simp only[Qs,QQ] at h;obtain⟨a1,a2,a3⟩:=h;have hl:ks.length=(so ks).length:=(HL ks).symm;have hg:∀i j,i<ks.length->j<ks.length->dq ks i j=dq (so ks) i j:=fun i j hi hj=>by
  unfold dq;rw[Ss];exact(zt hi hj).symm
 rw[hl] at a1 a2;have p1:=xY a1;have p2:=xY a2;rw[←J3 hl hg] at a3 p1;rw[←(zR hl hg).1,←(zR hl hg).2] at p2;have conv:∀as f,YZ (so ks) as f->YZ ks as f:=fun as f p=>⟨hl▸p.ok,p.len,sP ks▸p.fnd,hl▸p.fit,by
  obtain⟨x,e,h⟩:=p.tel;rw[sP] at h;rw[←hl] at e;exact⟨x,e,h⟩⟩
 exact⟨conv _ _ p1,conv _ _ p2,a3⟩
end
def Hd(L:M)(k:Nat):Prop:=∃a b,L[k]?=some (some (.lst [.int a,.int b]))
def k9(L:M)(k:Nat)(a b:Int):M:=L.set k (some (.lst [.int a,.int b]))
def Dn(k:Nat)(L Z5:M):Prop:=∃a b,Z5=k9 L k a b
def Hd.set{L:M}{k:Nat}(h:Hd L k)(a b:Int):(k9 L k a b)[k]?=some (some (.lst [.int a,.int b])):=let ⟨_,_,e⟩:=h;eU e
def Dn.hd{L Z5:M}{k:Nat}(h:Hd L k)(d:Dn k L Z5):Hd Z5 k:=let ⟨a,b,e⟩:=d;⟨a,b,by rw[e];exact h.set a b⟩
def qW{L:M}{k:Nat}{m:Int}(h:Hd L k)(h0:0<m)(h1:m<2^200):∃r Z5,lm [.ref k,.int m] L=some (.int r,Z5)/\Dn k L Z5/\0<=r/\r<m:=by
 obtain⟨a,b,hk⟩:=h;by_cases ha:0<a
 .refine⟨a%m,k9 L k (a/m) b,?_,⟨_,_,rfl⟩,S6 _ (by omega),SO _ h0⟩;have hq:ik a m:=h0;have hd:kh a m:=⟨h0,h1⟩
  simp[lm,qx,rq hk,iE hk,ha,hq,hd,k9]
 .have hb1:=S6 (b*48271) (b:=2147483647) (by decide);have hb2:=SO (b*48271) (b:=2147483647) (by decide);refine⟨_,k9 L k a (b*48271%2147483647),?_,⟨_,_,rfl⟩,S6 ((b*48271%2147483647+1)^7/8) (by omega),SO _ h0⟩;have hp:jf (b*48271%2147483647+1) 7:=⟨by decide,by decide,by omega⟩
  have hm:Ul b 48271:=.inr ⟨by decide,by decide⟩;have hq:ik ((b*48271%2147483647+1)^7/8) m:=h0;have hq2:ik (b*48271) 2147483647:=by unfold ik;decide
  have hd:kh ((b*48271%2147483647+1)^7) 8:=by unfold kh;decide
  have hk2:=eU (y:=some (Z7.lst [.int a,.int (b*48271%2147483647)])) hk;simp[lm,qx,rq hk,iE hk,ha,hm,hp,hq,hq2,hd,rq hk2,k9]
def Cd(c:Int)(L:M):∃a b,nZ [.int c] L=some (.ref L.length,L++[some (.lst [.int a,.int b])]):=by
 have h1:jf 10 18:=by unfold jf;decide
 have h2:ik c 2147483629:=by unfold ik;decide
 have h3:∀(x:Int) (b:Bool),Ul x (if b then 1 else 0):=fun x b=>.inr (by cases b<;>decide);have h4:∀(x:Int) (p:Prop) [Decidable p],Ul x (if p then 1 else 0):=fun x p _=>.inr (by split<;>decide);have h5:∀(x:Int) (p:Prop) [Decidable p],Ul x (if p then 0 else 1):=fun x p _=>.inr (by split<;>decide);simp[nZ,vM,h1,h2,h3,h4,h5]
def Fe{L:M}{a b:Int}:Hd (L++[some (.lst [.int a,.int b])]) L.length:=⟨a,b,by simp⟩
section
variable {CS C CF CT:Addr} {L:M} {ks:List Int}
theorem Vl:WL (dI ks) ks:=⟨fun _=>rfl,fun L=>by
 show some (!(ks.map D.int).isEmpty)=_;cases ks<;>rfl⟩
theorem Hx(f:Option Nat):Yw f=dE (f.map fun t:Nat=>(t:Int)):=by cases f<;>rfl
def rY(CS C CF CT:Addr):C0:=pP (dn (oA CS C CT)) mZ tw oG nC (dn (rF C CF CT)) kH
theorem EQ(h1:1<=ks.length)(h5:ks.length<=5):Wp (rY CS C CF CT [dI ks] L) fun d Z5=>d=.bl true/\Gr L Z5:=by
 obtain⟨t,T⟩:=AV (rP h1 h5) (Ba _ (by omega));obtain⟨p1,p2,p3⟩:=xI h1 h5;have Wr:led ks (V8 t)∈hE ks:=by rw[sC];exact K6 T rfl (zG ks)
 have _s:U8 (V8 t)<=40:=by rw[wd,T.dep];have:=wS ks.length (by omega);omega
 have YO:Yh ks.length (V8 t):=si (by omega) t T.wf T.lv;unfold rY pP rM;refine(fJ rfl).mpr ?_;show Ws (cV _ _ [some (dI ks),none,none,none,none,none,none] L) _;have hlen:∀L:M,dU (dI ks) L=some (.int (ks.length:Int),L):=fun L=>Vl.len L;simp![hlen];refine(BS h1 h5 T).imp ?_;rintro _ Z4 ⟨rfl,g1⟩;refine(pL rfl).mpr ?_;simp!;rw[uR];refine(HH rfl YO _s).imp ?_;rintro _ Z3 ⟨rfl,rfl⟩;generalize led ks (V8 t)=e at Wr;simp!;refine(sU Vl (by omega)).imp ?_;rintro _ ZQ ⟨a,rfl,ha,g3,_⟩;simp!;refine(Ln Vl (by omega)).imp ?_;rintro _ ZE ⟨b,rfl,hb,g4,_⟩;simp!;rw[qJ (by simp)];simp!;refine j9 (fun r B Z5=>∃(l:List (Nat×List An×Option Nat)) (o4 o5 o6:Option D),r=l.map (fun q=>.tup [.ref q.1,Yw q.2.2])/\B=[some (dI ks),some (.int (Xe ks.length:Int)),some (dZ (V8 t)),some (dE e),o4,o5,o6]/\Gr L Z5/\∀q∈l,YZ ks q.2.1 q.2.2/\Z5[q.1]?=some (some (.lst (q.2.1.map dA)))) _ ⟨[(a,(fH ks).1,(fH ks).2),(b,(fe ks).1,jo ks)],_,_,_,rfl,rfl,g1.trans (g3.trans g4),?_⟩ ?_ ?_
 .intro q hq;rcases Qz.mp hq with rfl|hq
  .exact⟨p1,g4.get ha⟩
  .cases Qu.mp hq;exact⟨p2,hb⟩
 .rintro d r B Zf ⟨l,o4,o5,o6,hr,rfl,g5,hl⟩;cases l with
  |nil=>cases hr
  |cons q l=>
   rw[Qc] at hr;injection hr with e1 e2
   subst e1 e2;obtain⟨P,hq⟩:=hl q (by simp);refine(pL rfl).mpr ?_;simp!;rw[Hx];refine(DI P.fnd Wr).imp ?_;rintro _ Zk ⟨rfl,rfl⟩;simp![Qw,hlen];refine(Gm (Ls.ref hq) P.ok P.len (by omega) P.fit).imp ?_;rintro _ Zk ⟨rfl,g6⟩;obtain⟨x,ex,hx⟩:=P.tel;rw[ex];show Wp _ _;have _t:gN (some x)=dE x:=rfl;rw[_t];have hl6:∀Zj,Gr Zk Zj->∀q∈l,YZ ks q.2.1 q.2.2/\Zj[q.1]?=some (some (.lst (q.2.1.map dA))):=fun Zj g7 q hq=>⟨(hl q (by simp[hq])).1,g7.get (g6.get (hl q (by simp[hq])).2)⟩
   rcases wI hx Wr with⟨rfl,rfl⟩|⟨i,j,rfl,rfl,hi,_⟩
   .simp![e0n,Bp,Kc];exact⟨trivial,l,_,_,_,rfl,rfl,g5.trans g6,hl6 _ .refl⟩
   .simp![e0o,zP,JY,e1o];obtain⟨dm,Zj,em,hm,g7⟩:=yf (s:=ks) (L:=Zk) (by omega);refine kZ em ?_;simp![JL hm,if_true,QC hi,Qw];exact⟨trivial,l,_,_,_,rfl,rfl,g5.trans (g6.trans g7),hl6 _ g7⟩
 .rintro B Zf ⟨l,o4,o5,o6,hr,rfl,g5,hl⟩;simp!;refine(sU Vl (by omega)).imp ?_;rintro _ Zk ⟨a,rfl,ha,g6,_⟩;simp!;rw[show(0:Int)=((0:Nat):Int) from rfl,gU (j:=0) rfl];simp![qF ha,Qb];exact⟨by rw[QC (by omega)],g5.trans g6⟩
end
theorem yE:∀(l:List Int) (a:Int),a<=N->(∀x∈l,x<=N)->mx a l<=N
 | [],a,h,_=>h
 |b::l,a,h,hl=>by
  simp only[mx];refine yE l _ ?_ fun x hx=>hl x (by simp[hx]);split
  .exact hl b (by simp)
  .exact h
def Ig(hne:l≠[])(h:∀x∈l,x<=N):∃m,sh (.lst (l.map D.int)) L=some (.int m,L)/\m<=N:=by
 cases l with
 |nil=>exact absurd rfl hne
 |cons a l=>
  refine⟨mx a l,?_,yE l a (h a (by simp)) fun x hx=>h x (by simp[hx])⟩;have ho:dQ WH ((a::l).map D.int)=some (a::l):=by
   have:=jz (f:=WH) (g:=D.int) (h:=id) (l:=a::l) (fun x _=>rfl);simpa using this
  show(dQ WH ((a::l).map D.int)).bind _=_;rw[ho];rfl
def Pq:∀n<6,(c8 n n).length<=1000/\∀s∈c8 n n,s.length=n:=by decide +kernel
def Na:∀n<6,0<(c8 n n).length:=by decide +kernel
def Ly(n:Nat)(h:n<6):c8 n n≠[]:=List.ne_nil_of_length_pos (Na n h)
section
variable {CS C CF CT:Addr}
def uq(CS C CF CT:Addr):C0:=pk nZ lm (rY CS C CF CT) (dn (qO CT)) oG (dn (oA CS C CT))
theorem K5(ns:List Int)(_:ns.length<=63):∃Z5,uq CS C CF CT [.scr (ns.map D.int)] []=some (.bl true,Z5):=by
 suffices h:Wp (uq CS C CF CT [.scr (ns.map D.int)] []) fun d _=>d=.bl true by
  obtain⟨d,Z5,e,rfl⟩:=h;exact⟨Z5,e⟩
 have hp:mj (.int 10) (.int 18) []=some (.int (10^18),[]):=by
  have h1:jf 10 18:=by unfold jf;decide
  simp[h1]
 have hsl:X3 (.scr (ns.map D.int)) none (some 8) []=some (.lst ((ns.take 8).map D.int),[]):=by
  show some (D.lst (iZ (ns.map D.int) none (some 8)),([]:M))=_;unfold iZ;rw[HT.sIx_none,show(some (8:Int))=some ((8:Nat):Int) from rfl,HT.sIx_nat,List.drop_zero,Nat.sub_zero,Qb,←List.map_take,List.take_eq_take_min (i:=8)]
 unfold uq pk wk;refine(fJ rfl).mpr ?_;show Ws (cV _ _ [some (.scr (ns.map D.int)),none,none,none,none,none] []) _;simp![hp];rw[qJ (by simp)];simp![hsl];rw[Lf (by simp;omega)];simp!;refine j9 (fun r B _=>∃(l:List Int) (o1 o2 o3:Option D),r=l.map D.int/\B=[some (.scr (ns.map D.int)),o1,o2,o3,none,none]) _ ⟨(10^18:Int)::ns.take 8,_,_,_,rfl,rfl⟩ ?_ ?_
 .rintro d r B L ⟨l,o1,o2,o3,hr,rfl⟩;cases l with
  |nil=>cases hr
  |cons c l=>
   rw[Qc] at hr;injection hr with h3 h4
   subst h3 h4;simp!;obtain⟨a,b,eh⟩:=Cd c L;refine kZ eh ?_;have d1:Hd (L++[some (.lst [.int a,.int b])]) L.length:=Fe;generalize L++[some (Z7.lst [.int a,.int b])]=Z4 at d1;generalize L.length=h at d1;obtain⟨t,Z3,e2,dn2,t0,t1⟩:=qW (m:=5) d1 (by decide) (by decide);have d2:=Dn.hd d1 dn2;simp![e2];obtain⟨t',ZQ,e3,dn3,s0,s1⟩:=qW (m:=5) d2 (by decide) (by decide);have d3:=Dn.hd d2 dn3;simp![e3];obtain⟨m,hm,m1,m5⟩:∃m:Nat,1+t'=(m:Int)/\1<=m/\m<=5:=⟨(1+t').toNat,by omega,by omega,by omega⟩
   rw[hm];refine(vP (by omega)).mpr ?_;refine Vi.mpr ⟨by simp[dk];omega,?_⟩;show Wp (dW none (cR 0) da _ (dk 0 m) [none,some (.ref h),some (.int (1+t))] ZQ) _;refine Pg (fun k done B Z5=>∃(s:List Int) (o:Option D),done=s.map D.int/\s.length=k/\B=[o,some (.ref h),some (.int (1+t))]/\Hd Z5 h) ⟨[],_,rfl,rfl,rfl,d3⟩ ?_ ?_
   .rintro k done B ZE hk ⟨s,o,rfl,hl,rfl,d4⟩;obtain⟨x,Zf,e5,dn5,_,_⟩:=qW (m:=1+t) d4 (by omega) (by omega);simp![e5];exact⟨s++[x],_,by simp,by simp[hl],rfl,Dn.hd d4 dn5⟩
   .rintro done B ZE ⟨s,o,rfl,hl,rfl,d4⟩;simp!;refine(EQ (ks:=s) (by omega) (by omega)).imp ?_;rintro _ Zf ⟨rfl,g5⟩;simp![Qw];exact⟨trivial,l,_,_,_,rfl,rfl⟩
 .rintro B L ⟨l,o1,o2,o3,hr,rfl⟩;simp!;rw[qJ (by simp)];simp!;refine j9 (fun r B _=>∃(l:List Nat) (o4 o5:Option D),r=l.map (fun n:Nat=>D.int (n:Int))/\B=[some (.scr (ns.map D.int)),o1,o2,o3,o4,o5]/\∀n∈l,1<=n/\n<=5) _ ⟨[1,2,3,4,5],_,_,rfl,rfl,by decide⟩ ?_ ?_
  .rintro d r B Z4 ⟨l,o4,o5,hr,rfl,hl⟩;cases l with
   |nil=>cases hr
   |cons n l=>
    rw[Qc] at hr;injection hr with h3 h4
    subst h3 h4;obtain⟨n1,n5⟩:=hl n (by simp);simp!;have ea:Wp (dn (qO CT) [.int (n:Int),.int (n:Int)] Z4) fun d Z5=>d=.lst ((c8 n n).map dI)/\Z5=Z4:=by
     refine uZ ?_;have:=wj (L:=Z4) (n:=n) (k:=(n:Int)) (C:=CT) (by omega);rw[show((n:Int)).toNat=n by omega] at this;refine kZ this ⟨_,rfl,?_,rfl⟩;simp[c8,dS,Function.comp_def]
    refine ea.imp ?_;rintro _ Z3 ⟨rfl,rfl⟩;obtain⟨hf,_S⟩:=Pq n (by omega);simp!;refine Vi.mpr ⟨by simp;omega,?_⟩;show Wp (dW none (cR 0) da _ ((c8 n n).map dI) [none] Z3) _;refine T8 (fun done r B _=>∃(ls ss:List (List Int)) (xs:List Int) (o:Option D),done=xs.map D.int/\r=ss.map dI/\B=[o]/\c8 n n=ls++ss/\xs.length=ls.length/\∀x∈xs,x<=(Xe n:Int)) _ ⟨[],c8 n n,[],_,rfl,rfl,rfl,rfl,rfl,by simp⟩ ?_ ?_
    .rintro done d r B ZQ ⟨ls,ss,xs,o,rfl,Yk,rfl,hs,hx,hle⟩;cases ss with
     |nil=>cases Yk
     |cons s ss=>
      rw[Qc] at Yk;injection Yk with h5 h6
      subst h5 h6;have hsl3:=_S s (by rw[hs];simp);simp!;refine(sU Vl (by omega)).imp ?_;rintro _ ZE ⟨a,rfl,ha,g4,_⟩;simp!;rw[show(0:Int)=((0:Nat):Int) from rfl,gU (j:=0) rfl];simp![qF ha,Qb,if_true];refine⟨trivial,ls++[s],ss,xs++[((fH s).1.length:Int)],_,by simp,rfl,rfl,by simp[hs],by simp[hx],?_⟩;intro x XD;rcases Qr.mp XD with h7|h7
      .exact hle x h7
      .cases Qu.mp h7;have:=(xI (ks:=s) (by omega) (by omega)).2.2;rw[hsl3] at this;omega
    .rintro done B ZQ ⟨ls,ss,xs,o,rfl,Yk,rfl,hs,hx,hle⟩;cases ss with
     |cons s ss=>cases Yk
     |nil=>
      rw[QU] at hs;have hne:xs≠[]:=fun z=>by
       rw[z] at hx;exact Ly n (by omega) (by rw[hs];exact QA.mp hx.symm)
      obtain⟨m,em,hm⟩:=Ig (L:=ZQ) hne hle;simp![em];obtain⟨t,T⟩:=AV (rP n1 n5) (Ba _ (by omega));refine(BS n1 n5 T).imp ?_;rintro _ ZE ⟨rfl,g4⟩;simp!;rw[show(0:Int)=((0:Nat):Int) from rfl,gU (j:=0) rfl];simp!;rw[Qn (by omega)];simp!;exact⟨trivial,l,_,_,rfl,rfl,fun n hn=>hl n (by simp[hn])⟩
  .rintro B Z4 ⟨l,o4,o5,Yk,rfl,hl⟩;simp!
end
theorem all_mk{l:PySem.W.OpenLaw}{w:World}{K:Frag}{h:Heap}{mg:Str->Option Value}{fa f1 f2 f3 f4 f5 f6 f7 f8 f9 bL cq cg cA bD bE cp b8 bV cv b9 bJ bZ cF bH ci ca cr bB cm cK ce b7 cw ck bT cD cJ bN ac aC aF aH:Addr}{d1 d2 d3 d4 d5 d6 d7 d8 d9 bM b5 cM bR cC cy bP cu bU cx b6 cn bC b0 cG bS cf bO cH cB cj bQ bK cb bY cz bX bA bi:FuncData}(X:K.In h)(G:h.Ns mainGlobals mg)(bG:mg "law"=some (.ref fa))
  (au:Ng K "Search" (.ref ac))
  (aq:Ng K "NoThing" (.ref aC))
  (ax:Ng K "NoFit" (.ref aF))
  (ap:Ng K "TooMany" (.ref aH))
  (A1:Gf K "check_things" (top 28) f1 d1)
  (A2:Gf K "moved" (top 29) f2 d2)
  (A3:Gf K "homes_of" (top 30) f3 d3)
  (A4:Gf K "can_be" (top 31) f4 d4)
  (A5:Gf K "check_right" (top 32) f5 d5)
  (A6:Gf K "fits" (top 33) f6 d6)
  (A7:Gf K "one_thing_more" (top 11) f7 d7)
  (A8:Gf K "all_sorts" (top 12) f8 d8)
  (A9:Gf K "sorts_that_fit" (top 34) f9 d9)
  (bw:Gf K "alike_things" (top 9) bL bM)
  (aZ:Gf K "more_than_half" (top 10) cq b5)
  (aR:Gf K "half_ends" (top 15) cg cM)
  (bn:Gf K "common_end" (top 16) cA bR)
  (a4:Gf K "tells" (top 35) bD cC)
  (a9:Gf K "pairs_of" (top 18) bE cy)
  (a7:Gf K "check_many" (top 6) cp bP)
  (bu:Mf K ac "__init__" "Search.__init__" (gL (top 21) 0) b8 cu)
  (a8:Mf K ac "tree_asking" "Search.tree_asking" (gL (top 21) 3) bV bU)
  (bz:Mf K ac "new_tree" "Search.new_tree" (gL (top 21) 2) cv cx)
  (aI:Mf K ac "tree_within" "Search.tree_within" (gL (top 21) 1) b9 b6)
  (aU:Gf K "fewest_asks" (top 22) bJ cn)
  (bp:Gf K "fewest_of" (top 25) bZ bC)
  (aS:Gf K "fewest" (top 26) cF b0)
  (bh:Gf K "ask" (top 19) bH cG)
  (bj:Gf K "told" (top 37) ci bS)
  (bt:Gf K "taken_last" (top 38) ca cf)
  (aW:Gf K "is_settled" (top 39) cr bO)
  (bg:Gf K "more_than_half_alike" (top 40) bB cH)
  (aT:Gf K "in_a_row" (top 41) cm cB)
  (aX:Gf K "laid" (top 42) cK cj)
  (a6:Gf K "is_left" (top 43) ce bQ)
  (aY:Gf K "in_rows" (top 44) b7 bK)
  (bf:Gf K "_law_hand" (top 46) cw cb)
  (br:Gf K "_law_take" (top 47) ck bY)
  (aV:Gf K "_law_end" (top 48) bT cz)
  (bd:Gf K "_law_alike" (top 49) cD bX)
  (a5:Gf K "_law_right" (top 50) cJ bA)
  (aD:Gf K "law" (top 51) bN bi)
  {bF:Tok} (ai:Ng K "MOST_THINGS" (.int 7 bF))
  {ar:Addr} {ak:Obj} {cO:Tok} {aJ:Nat} (aG:Ng K "OPEN" (.ref ar)) (aK:K.lookup ar=some ak) (am:ak.cls=.type "tuple") (aj:ak.data=.seq #[.str "open" cO] aJ)
  {bW:Tok} (ag:Ng K "MOST_SEARCHED" (.int 5 bW))
  (aN:Nn K "all")
  (aO:Nn K "max")
  (aP:Nn K "min")
  (aA:Nn K "range")
  (ao:Nn K "enumerate")
  (aE:Nn K "list")
  (aM:Nn K "len")
  (az:Nn K "tuple")
  (aL:Nn K "sum")
  (aQ:Nn K "int")
  (aa:Oc K ac)
  (af:findIn K (.ref ac) "pairs"=some none)
  (ae:findIn K (.ref ac) "sorts"=some none)
  (ah:findIn K (.ref ac) "ends"=some none)
  (ad:findIn K (.ref ac) "searched"=some none)
  (ay:fM K aF)
  (av:fM K aC)
  (aw:fM K aH):
  ∃fd:FuncData,(∀(s:Shared) (v:Value),BindsTo s fd ⟨[v],[]⟩ [("script",v)])/\∀base:Heap,K.In base->base.Ns mainGlobals mg->TJ l.prog w K mg base T1 37 fa fd ["script"] (ot K):=by
 cases bG.symm.trans (PySem.W.mg_of X G aD.a);refine⟨bi,J1 aD.F fun _ _ _ _ _ _ _ _=>.of_eq rfl,fun base _ _=>?_⟩;have R:Rm l.prog w K mg base h:=⟨X,G⟩
 have lW:Uz K ac "pairs":=⟨aa.cl,af⟩
 have iW:Uz K ac "sorts":=⟨aa.cl,ae⟩
 have lr:Uz K ac "ends":=⟨aa.cl,ah⟩
 have jn:Uz K ac "searched":=⟨aa.cl,ad⟩
 have lb:=R.n aN;have iV:=R.n aO;have uQ:=R.n aP;have eP:=R.n aA;have u9:=R.n ao;have rA:=R.n aE;have dR:=R.n aM;have j5:=R.n az;have ld:=R.n aL;have lL:=R.n aQ;have jP:=fgI R ai;have ir:=fgT R aG aK am aj;have mP:=fgI R ag;have gI:=feR R aq av;have qP:=feR R ax ay;have jx:=feR R ap aw;have vy:=Xf (k:=1) R A1 (Ip A1.F gI);have u0:=VC (k:=1) R A2 (KS A2.F);have sW:=VC (k:=2) R A3 (OS A3.F u0 (by omega));have tf:=Xf (k:=3) R A4 (PR A4.F sW (by omega) vy (by omega) lb);have uM:=Xf (k:=4) R A5 (Pe A5.F tf (by omega) qP);have rQ:=VC (k:=1) R A6 (DF A6.F);have sR:=VC (k:=1) R A7 (Ex A7.F iV uQ eP);have jd:=Xf (k:=2) R A8 (IY A8.F sR (by omega) jP jx eP);have tj:=Xf (k:=5) R A9 (Hg A9.F rQ (by omega) uM (by omega) jd (by omega));have qX:=VC (k:=1) R bw (ER bw.F u9 rA);have lS:=VC (k:=2) R aZ (Ny aZ.F qX (by omega) dR);have lj:=VC (k:=3) R aR (Ds aR.F lS (by omega));have lM:=VC (k:=1) R bn (D9 bn.F ir lb);have rg:=Xf (k:=6) R a4 (Eo a4.F lM (by omega) lj (by omega) tj (by omega));have ud:=VC (k:=1) R a9 (PH a9.F eP);have tK:=Xf (k:=1) R a7 (Ps a7.F gI jx);have rG:=fiK (k:=2) R au aa bu (FG bu.F ud (by omega) lW iW lr jn);have kA:∀n,Ya l.prog w K mg base T1 (2+3*n) ac "tree_within" ["self","left","asks"] (TV K (qu ac n)):=fun n=>by
  induction n with
  |zero=>exact ϧ aa.cl aI Kg
  |succ n ih=>
   have tz:=ϧ (k:=2+3*n+1) aa.cl a8 (N7 a8.F ih (by omega) iW j5);have vm:=ϧ (k:=2+3*n+2) aa.cl bz (IL bz.F lM (by omega) tz (by omega) lr lW ir);exact ϧ (k:=2+3*n+3) aa.cl aI (Nj aI.F vm (by omega) jn)
 have ua:=VC (k:=33) R aU (Hm aU.F rG (by omega) (kA 10) (by omega) dR j5 eP);have tR:=Xf (k:=34) R bp (EH bp.F lj (by omega) ua (by omega) jd (by omega));have l3:=Xf (k:=35) R aS (FS aS.F tK (by omega) tR (by omega) mP);have gH:=VC (k:=1) R bh (Fu bh.F);have jA:=VC (k:=1) R bj (Pn bj.F);have vR:=VC (k:=2) R bt (Lr bt.F gH (by omega) dR eP);have rR:=VC (k:=1) R aW (Ox aW.F ld dR);have tO:=VC (k:=2) R bg (PL bg.F rR (by omega) gH (by omega) dR eP ld);have vU:=VC (k:=3) R aT (K4 aT.F jA (by omega) vR (by omega) tO (by omega));have tG:=VC (k:=2) R aX (GX aX.F gH (by omega) dR eP);have tT:=VC (k:=2) R a6 (Lm a6.F gH (by omega) dR);have kF:=VC (k:=3) R aY (Gh aY.F jA (by omega) tG (by omega) tT (by omega));have uU:=VC (k:=1) R bf (Nx bf.F lL iV);have m3:=VC (k:=1) R br (Ih br.F);have vX:=VC (k:=1) R aV (Io aV.F lL);have sN:=VC (k:=1) R bd (FY bd.F);have uv:=VC (k:=36) R a5 (Jj a5.F (Df.dn l3) (by omega) vX (by omega) vU (by omega) kF (by omega) sN (by omega) (Df.dn rg) (by omega) lS (by omega) dR);exact Eh (Fa aD.F uU (by omega) m3 (by omega) uv (by omega) (Df.dn jd) (by omega) kF (by omega) (Df.dn l3) (by omega) eP dR iV) (K5 (CS:=ac) (C:=aC) (CF:=aF) (CT:=aH))
theorem walk{l:PySem.W.OpenLaw}{q:Program}{loose:List Str}{XP:(Str->Option Value)->Heap->Prop}{YP:World->Heap->Prop}{d:DefRec}{K:Params->Frag}(hn:l.most=some 63)(Α:d.params.defaults=[])
  (hY:∀(w:World) (h:Heap),YP w h->(K w.params).In h)
  (F:∀(w:World) (mg:Str->Option Value) (fa:Addr) (h:Heap),(K w.params).In h->h.Ns mainGlobals mg->mg d.name=some (.ref fa)->
   ∃fd:FuncData,(∀(s:Shared) (u:Value),BindsTo s fd ⟨[u],[]⟩ [("script",u)])/\∀base:Heap,(K w.params).In base->base.Ns mainGlobals mg->TJ l.prog w (K w.params) mg base T1 37 fa fd ["script"] (ot (K w.params))):
  PySem.W.WalkO q loose XP YP l.row.toRowW d [] (fun f vs=>PySem.call f vs):=
 L2.walk_of (n:=63) (k:=37) (x:="script") (CX:=fun _=>T1) (sp:=fun w=>ot (K w.params)) hn (by decide) Α ⟨rfl,by decide,by decide,rfl⟩ hY F (fun _ _ a ns hl hO hS=>⟨a,ns,rfl,hO,hS,hl,fun _=>rfl⟩) fun _ _ _ _ _ z=>z
end Law
namespace PySem.W.Fast
def tw10246205010082148543:=0
def tw10315956554390509554:=0
def tw10365674279972559526:=0
def tw10370245528505192185:=0
def tw10370327507779682015:=0
def tw10428976010909569840:=0
def tw10451053261679822827:=0
def tw10538189064892832105:=0
def tw10566369553716718207:=0
def tw10619884433768160519:=0
def tw10754783380133052529:=0
def tw10791464382567631732:=0
def tw10934395830235088742:=0
def tw10996962560094549844:=0
def tw1101679022033141842:=0
def tw11049644089274095351:=0
def tw1118499436363525287:=0
def tw11223515241443551257:=0
def tw1131381446342760601:=0
def tw11452794182478492932:=0
def tw11546159212286983397:=0
def tw1158048794923356190:=0
def tw11598010643803108661:=0
def tw11610833110501825917:=0
def tw11625397447057761755:=0
def tw11654704920567311666:=0
def tw11706060590051927324:=0
def tw11725660538483468600:=0
def tw11736040046764959505:=0
def tw11744986303834162986:=0
def tw11775724179741755066:=0
def tw11812901707719198337:=0
def tw11859324900578150003:=0
def tw1186138009851516343:=0
def tw11885053948861565159:=0
def tw11915048782510325701:=0
def tw11936606288577784537:=0
def tw11979199654826330707:=0
def tw1201083097923326838:=0
def tw12069771112840564289:=0
def tw12093500532165811949:=0
def tw12228900833025312494:=0
def tw12235763108671467182:=0
def tw12415294575944094107:=0
def tw12417679620491723557:=0
def tw12512719121424362116:=0
def tw12548896741918014339:=0
def tw12562074147100285040:=0
def tw12716211924653886034:=0
def tw12782288084772068119:=0
def tw12836024371172832361:=0
def tw12894154245219208077:=0
def tw13076019575218221715:=0
def tw13078001178572929994:=0
def tw13161358097794023935:=0
def tw13299196860655802586:=0
def tw13369600949601452404:=0
def tw13469567545666397844:=0
def tw13543237309747702136:=0
def tw13588794877753400996:=0
def tw13655293990338981254:=0
def tw13788081487594701170:=0
def tw13906381761592863934:=0
def tw13938344594273484926:=0
def tw14059552440265557870:=0
def tw14069119202876992836:=0
def tw1418342815356936350:=0
def tw14210410258412187607:=0
def tw142220361542235839:=0
def tw14334364960656779357:=0
def tw14355337277099584198:=0
def tw14376252735249965620:=0
def tw14431865409593733581:=0
def tw14534661314568706525:=0
def tw14543221290985001313:=0
def tw14550558747043877262:=0
def tw14653411600966529817:=0
def tw14731404557869382510:=0
def tw14762582093247565047:=0
def tw14834960265710217472:=0
def tw14959415560323824113:=0
def tw15011970950668050106:=0
def tw15035431244764745385:=0
def tw15060913874571425786:=0
def tw15109205635590074340:=0
def tw15172561965694190271:=0
def tw15240019135662369986:=0
def tw15253226261844043066:=0
def tw15269833574146173185:=0
def tw1542399879768905852:=0
def tw15426333274381418268:=0
def tw15502812443175114958:=0
def tw15600298726775589013:=0
def tw15672729685679704661:=0
def tw15752659689761226823:=0
def tw15760415943838480436:=0
def tw15800264585241012472:=0
def tw15831485797167766534:=0
def tw15835304876848297372:=0
def tw15841272090993288115:=0
def tw15841442537651770329:=0
def tw15912846492082988587:=0
def tw16030325512498066501:=0
def tw16060793795794377033:=0
def tw16087954402696238968:=0
def tw16263861412584147724:=0
def tw16411052092940395503:=0
def tw1649856249956909025:=0
def tw16570962061198619955:=0
def tw16592139549298400119:=0
def tw16651486406654938914:=0
def tw16683765869715703096:=0
def tw16717169296963558316:=0
def tw16737968937715271102:=0
def tw16745657136886128493:=0
def tw16792834670217014730:=0
def tw16843510945618897530:=0
def tw16915303536611377284:=0
def tw16932644576867166014:=0
def tw16999414012756514809:=0
def tw17015965092174904235:=0
def tw17184506495342995343:=0
def tw1718537652471547990:=0
def tw17193547477175776378:=0
def tw1723563165089181054:=0
def tw17242949065338482334:=0
def tw17265696870414176237:=0
def tw17293275912137221334:=0
def tw17348027799944961795:=0
def tw17351465884413169910:=0
def tw17438248620705767092:=0
def tw17471788864891122519:=0
def tw17524821487913163327:=0
def tw17543422220594010050:=0
def tw17600666343784318897:=0
def tw17602724502603426485:=0
def tw17607836772359884380:=0
def tw1787112829514296639:=0
def tw17946110019549466755:=0
def tw18028293407117794078:=0
def tw18094809310259704805:=0
def tw18110435277807149118:=0
def tw18220691515297861859:=0
def tw18228096453708830542:=0
def tw18300512883842958722:=0
def tw18399384079458444463:=0
def tw1872970975979589681:=0
def tw187609728095161718:=0
def tw1883529908847996615:=0
def tw2130509338912183380:=0
def tw2259486059571689003:=0
def tw2305580557377224704:=0
def tw2323127127340910572:=0
def tw234736627390209385:=0
def tw2442313995258971924:=0
def tw2484664791225574899:=0
def tw2516712187382813017:=0
def tw2536217268962752349:=0
def tw2567985276572377170:=0
def tw2584036480328014059:=0
def tw258431243698217385:=0
def tw2584678214787404664:=0
def tw2589345189702600928:=0
def tw2597617140811792929:=0
def tw2601172264909921236:=0
def tw263657631424952729:=0
def tw2683697251611709703:=0
def tw268935674854547679:=0
def tw2777678949916949112:=0
def tw2850787214453767377:=0
def tw2904537048707112680:=0
def tw3015157631121098127:=0
def tw3027837574972121030:=0
def tw309676333123174452:=0
def tw3268393111317783297:=0
def tw3283186134347936244:=0
def tw3286345049142241050:=0
def tw3309364774710742839:=0
def tw3318455440059498284:=0
def tw332191836075876143:=0
def tw3427860692388605458:=0
def tw3453437885931297613:=0
def tw3679222136805434006:=0
def tw3730878289001826294:=0
def tw3804466580208940773:=0
def tw3884845790134497521:=0
def tw3961591812792355375:=0
def tw3983599180785022345:=0
def tw4016637738147208089:=0
def tw4043654488816390908:=0
def tw4059540455725883031:=0
def tw4219689693706194356:=0
def tw4227124915022244760:=0
def tw4277562286694838986:=0
def tw4318999094678082477:=0
def tw4322306060920159552:=0
def tw4403917043537396192:=0
def tw4488794936209883602:=0
def tw4541925250377387162:=0
def tw454918279559483271:=0
def tw455943708235502019:=0
def tw4732252834589069934:=0
def tw4739561326000322664:=0
def tw4844134316358787971:=0
def tw4873607197321666399:=0
def tw5172606480595282343:=0
def tw5214920656735541395:=0
def tw526179081961956870:=0
def tw5272538582287631126:=0
def tw528340441805389173:=0
def tw5325844734791051993:=0
def tw5370613945173314879:=0
def tw5374109286338844967:=0
def tw5434290129844891043:=0
def tw5449204812525723088:=0
def tw5554316861042400321:=0
def tw5611259069015218762:=0
def tw5655908046110862768:=0
def tw5718968860337018282:=0
def tw5756641048467543342:=0
def tw5758020196801097662:=0
def tw578418097561828240:=0
def tw5821032685651433612:=0
def tw6004816903621036413:=0
def tw6028146070810527446:=0
def tw6092889250377868029:=0
def tw611447012987080537:=0
def tw6164164193580187985:=0
def tw6173622851303889256:=0
def tw6300057520574164244:=0
def tw6573809808849875066:=0
def tw6585112968912748722:=0
def tw6696700750381281221:=0
def tw6785304521334128220:=0
def tw6836203687523270515:=0
def tw6999611191553489000:=0
def tw7024533024607811694:=0
def tw7042627243882894484:=0
def tw7044090067951173712:=0
def tw7111365951331781958:=0
def tw7127587315143641999:=0
def tw7131432413225746126:=0
def tw7149245658947384365:=0
def tw7160363863759414387:=0
def tw7333135394690731766:=0
def tw7349171103250142157:=0
def tw739686442609493913:=0
def tw7411506463766083705:=0
def tw7567371417681680942:=0
def tw7590123289745930242:=0
def tw7635187110172834842:=0
def tw768095583489858597:=0
def tw7800464988649824204:=0
def tw7839098192275035265:=0
def tw7891987394783785031:=0
def tw7904752579941370402:=0
def tw7982309688088559443:=0
def tw802171678842098438:=0
def tw8054838349968868474:=0
def tw8200707702062563878:=0
def tw8200933059644710846:=0
def tw8269923935153730305:=0
def tw8286171081911665243:=0
def tw8405130936605206592:=0
def tw8473279991953076423:=0
def tw8608059169167002256:=0
def tw8657274605131011693:=0
def tw8701830092716015578:=0
def tw8706612575128665395:=0
def tw8754662207358401376:=0
def tw8777513767485224075:=0
def tw8819063177797630045:=0
def tw8829704948148309356:=0
def tw8840959615536456019:=0
def tw8928903572942425162:=0
def tw900353119907014251:=0
def tw9122272259756554420:=0
def tw9196909926533976741:=0
def tw9257239706168465023:=0
def tw9276504817520707897:=0
def tw9353209746252191094:=0
def tw938929359170396471:=0
def tw9394168998048336281:=0
def tw9432210400722104120:=0
def tw9560149848138668147:=0
def tw9583901101979859481:=0
def tw9702719714137037540:=0
def tw9764177615212588690:=0
def tw9804915223044417393:=0
def tw9843996101741833855:=0
def tw9899375277034713584:=0
def tw9908446954529987677:=0
def tw9913966996502424095:=0
def tw991725992953008013:=0
def tw9947631908235804245:=0
def tw997943361952708618:=0
def tw9993733733686458376:=0
end PySem.W.Fast
open PySem PySem.W PyProof.Rows
set_option maxRecDepth 100000 in
set_option maxHeartbeats 0 in
theorem PySem.Challenge.cw_morethanhalf_k29_whole_rows_and_fewest_holds : PySem.Challenge.rw_morethanhalf_k29_whole_rows_and_fewest.Holds := by
 w_on;o_law;k_head;(case hw=>w_witness2)
 k_fill
 refine Law.walk (l:=PySem.Challenge.rw_morethanhalf_k29_whole_rows_and_fewest) rfl rfl (fun w h Y=>PySem.W.kIn_of Y) ?F
 case F=>
  intro w mg fa h KX G hmg;refine' Law.all_mk KX G hmg (L3.nq ?_) (L3.nq ?_) (L3.nq ?_) (L3.nq ?_) (L3.gf_mk ?_ ?_ ?_ ?_) (L3.gf_mk ?_ ?_ ?_ ?_) (L3.gf_mk ?_ ?_ ?_ ?_) (L3.gf_mk ?_ ?_ ?_ ?_) (L3.gf_mk ?_ ?_ ?_ ?_) (L3.gf_mk ?_ ?_ ?_ ?_) (L3.gf_mk ?_ ?_ ?_ ?_) (L3.gf_mk ?_ ?_ ?_ ?_) (L3.gf_mk ?_ ?_ ?_ ?_) (L3.gf_mk ?_ ?_ ?_ ?_) (L3.gf_mk ?_ ?_ ?_ ?_) (L3.gf_mk ?_ ?_ ?_ ?_) (L3.gf_mk ?_ ?_ ?_ ?_) (L3.gf_mk ?_ ?_ ?_ ?_) (L3.gf_mk ?_ ?_ ?_ ?_) (L3.gf_mk ?_ ?_ ?_ ?_) (L3.mf_mk ?_ ?_ ?_ ?_ ?_) (L3.mf_mk ?_ ?_ ?_ ?_ ?_) (L3.mf_mk ?_ ?_ ?_ ?_ ?_) (L3.mf_mk ?_ ?_ ?_ ?_ ?_) (L3.gf_mk ?_ ?_ ?_ ?_) (L3.gf_mk ?_ ?_ ?_ ?_) (L3.gf_mk ?_ ?_ ?_ ?_) (L3.gf_mk ?_ ?_ ?_ ?_) (L3.gf_mk ?_ ?_ ?_ ?_) (L3.gf_mk ?_ ?_ ?_ ?_) (L3.gf_mk ?_ ?_ ?_ ?_) (L3.gf_mk ?_ ?_ ?_ ?_) (L3.gf_mk ?_ ?_ ?_ ?_) (L3.gf_mk ?_ ?_ ?_ ?_) (L3.gf_mk ?_ ?_ ?_ ?_) (L3.gf_mk ?_ ?_ ?_ ?_) (L3.gf_mk ?_ ?_ ?_ ?_) (L3.gf_mk ?_ ?_ ?_ ?_) (L3.gf_mk ?_ ?_ ?_ ?_) (L3.gf_mk ?_ ?_ ?_ ?_) (L3.gf_mk ?_ ?_ ?_ ?_) (L3.gf_mk ?_ ?_ ?_ ?_) (L3.nq ?_) (L3.nq ?_) ?_ ?am ?aj (L3.nq ?_) (L3.nq ?_) (L3.nq ?_) (L3.nq ?_) (L3.nq ?_) (L3.nq ?_) (L3.nq ?_) (L3.nq ?_) (L3.nq ?_) (L3.nq ?_) (L3.nq ?_) (L3.oc_mk ?_ ?_ ?_ ?_ ?_ ?_) ?_ ?_ ?_ ?_ (L3.ri_mk ?_ ?_ ?_ ?_) (L3.ri_mk ?_ ?_ ?_ ?_) (L3.ri_mk ?_ ?_ ?_ ?_);any_goals k_is
  (case am=>rfl)
  (case aj=>rfl)
  all_goals(first|k_is|kit_is|kernel_rfl|skip)

