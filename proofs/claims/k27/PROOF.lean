import PyProof.Rows.All
import Wide.All
import OpenK.AllK
import Wide.FinOn
import Lean
import PyProof.EqAt
import PyProof.EqKinds
import PyProof.TupleCall
import PyProof.NsDelKeeps
import KE.KTryMore
import OpenK.KOwn
import PyProof.ExcBaseAll.ValueError
import PyProof.Rows.CountFlat
import PyProof.Rows.SeqMore2
import PyProof.SumWalkG
import PyProof.FitsBits
import PyProof.Rows.IntMath
import PyProof.P3Eq
import PyProof.ZipIter
import PyProof.TupleIter
import PyProof.TupleOfSeq
import PyProof.TupleOfGen
import PyProof.ListRange
import PyProof.Rows.SeqMore
import PySem.Challenge.RW_morethanhalf_k27_whole_papers_and_short
set_option Elab.async false
set_option linter.all false
set_option compiler.extract_closed false
set_option maxRecDepth 100000
set_option maxHeartbeats 0
open PySem.W (Frag nsIn keepIn codeIn fnOf findIn isFn)
noncomputable section
local macro_rules|`(tactic|lia)=>`(tactic|exact⟨rfl,rfl,rfl,by decide +kernel,rfl,by decide +kernel,by decide +kernel⟩)
local macro_rules|`(⋯)=>`(by omega)
local macro_rules|`(nofun)=>`(by simp)
abbrev Ŧ:=Option Bool
abbrev ť:=List Bool
abbrev Ť:=List PySem.Keyword
abbrev ţ:=List PySem.Stmt
abbrev Ţ:=List (PySem.Str×PySem.Value)
abbrev š:=Option PySem.Addr
abbrev Š:=List PySem.Env
abbrev ŝ:=List (PySem.Str×PySem.Addr)
abbrev Ŝ:=Option PySem.Value
abbrev Ś:=List PySem.Addr
abbrev ř:=List Nat
abbrev Ř:=List PySem.Expr
abbrev Ŗ:=List PySem.Str
abbrev ŕ:=List (Nat×Nat)
abbrev Ŕ:=Option Int
abbrev œ:=PySem.Str->Option PySem.Value
abbrev Œ:=List PySem.Value
abbrev ő:=List (PySem.Str×Nat)
abbrev Ő:=List Int
abbrev SB:=List (PySem.Addr×PySem.Obj)
abbrev QS:=PySem.Value->PySem.Shared->Prop
def Sj:=@PySem.wpAny_bind
def Sk:=@PySem.wpAny_pure
def Sl:=@PySem.Heap.get?_push_of_some
def Sm:=@Nat.le_refl
def Sn:=@List.getElem?_eq_some_iff.{0}
def So:=@List.getD_eq_getElem?_getD.{0}
def Sq:=@List.getElem?_eq_getElem.{0}
def Ss:=@PySem.wpAny_mono
def Su:=@PySem.Heap.lt_size
def Sv:=@List.length_map.{0,0}
def Sw:=@decide_eq_false
def Sy:=@List.mem_filter.{0}
def Sz:=@List.map_cons.{0,0}
def SA:=@PySem.Heap.get?_push_size
def SD:=@List.mem_append_right.{0}
def SE:=@Iff.rfl
def SF:=@List.size_toArray.{0}
def SG:=@Bool.and_eq_true
def SH:=@List.find?_cons.{0}
def SI:=@List.mem_cons.{0}
def SJ:=@decide_eq_true_eq
def SK:=@decide_eq_true
def SM:=@List.getElem?_append_left.{0}
def SN:=@Bool.false_eq_true
def SO:=@List.length_cons.{0}
def SQ:=@Nat.ne_of_lt
def SR:=@PySem.PassesOwn.never
def SS:=@Bool.not_true
def SU:=@List.mem_map.{0,0}
def SW:=@Nat.lt_of_lt_of_le
def SY:=@Option.some.inj.{0}
def S0:=@List.getElem?_map.{0,0}
def S1:=@Nat.le_trans
def S2:=@List.all_eq_true.{0}
def S3:=@List.lookup_cons.{0,0}
def S4:=@List.getElem?_set_ne.{0}
def S5:=@List.map_map.{0,0,0}
def S6:=@List.mem_range
def S7:=@List.any_eq_true.{0}
def S8:=@List.mem_append.{0}
def S9:=@List.length_append.{0}
def Ta:=@Nat.zero_le
def Tb:=@List.getElem?_append_right.{0}
def Tc:=@PySem.wpAny_newObj_type
def Td:=@Nat.lt_irrefl
def Te:=@List.length_filter_le.{0}
def Tf:=@List.drop_eq_getElem_cons.{0}
def Tg:=@Bool.not_false
def Th:=@PySem.mem_of_lookup
def Ti:=@List.mem_cons_of_mem.{0}
def Tj:=@Bool.eq_iff_iff
def Tn:=@Bool.false_ne_true
def To:=@List.mem_singleton.{0}
def Tp:=@Classical.byContradiction
def Tq:=@List.append_nil.{0}
def Ts:=@PySem.wpAny_truthy_bool
def Tt:=@List.filter_eq_nil_iff.{0}
def Tv:=@Option.isSome_iff_exists.{0}
def Tx:=@PyProof.Rows.callWith_type1
def TB:=@PyProof.Rows.slot_tuple_getitem
def TC:=@List.getElem_mem.{0}
def TF:=@PySem.Around.under_plainId
def TH:=@List.drop_eq_nil_of_le.{0}
def TJ:=@List.filter_eq_self.{0}
def TK:=@PySem.Heap.size_push
def TL:=@List.getElem?_of_mem.{0}
def TM:=@PySem.wpAny_loadPart'
def TN:=@List.map_append.{0,0}
def TQ:=@List.mem_flatMap.{0,0}
def TR:=@List.length_range
def TU:=@PySem.wpAny_comprehension_free
def TV:=@List.find?_eq_none.{0}
def TX:=@List.length_eq_zero_iff.{0}
def TY:=@PySem.wpAny_holding
def TZ:=@PySem.wpAny_standAt
def T1:=@PySem.Heap.get?_update_other
def T2:=@Array.length_toList.{0}
def T3:=@List.map_congr_left.{0,0}
def T4:=@PySem.codeAny_builtin
def T5:=@List.pairwise_iff_getElem.{0}
def T6:=@List.any_cons.{0}
def T7:=@PySem.plainId_quiet
def T8:=@List.mem_of_getElem?.{0}
def T9:=@List.filter_cons_of_pos.{0}
def Ua:=@List.countP_eq_length_filter.{0}
def Ub:=@List.replicate_succ.{0}
def Uc:=@PySem.sizeLine_eq
def Ud:=@List.not_mem_nil.{0}
def Ue:=@List.filter_cons.{0}
def Ug:=@PySem.wpAny_Call_Name_kw
def Uh:=@List.exists_cons_of_ne_nil.{0}
def Ui:=@List.mem_of_find?_eq_some.{0}
def Uj:=@PySem.wpAny_passesOwn
def Uk:=@List.length_set.{0}
def Ul:=@PySem.W.kia_one
def Um:=@Nat.zero_add
def Uo:=@Int.toNat_of_nonneg
def Up:=@PySem.wpAny_call_entry
def Uq:=@PySem.F.plain_max_loop
def Ur:=@List.eq_nil_iff_forall_not_mem.{0}
def Us:=@PySem.wpAny_field
def Ut:=@List.mem_cons_self.{0}
def Uu:=@Option.isSome_some.{0}
def Uv:=@PySem.Heap.get?_update_self
def Uw:=@Int.toNat_natCast
def Ux:=@List.flatten_cons.{0}
def Uy:=@Nat.lt_succ_of_lt
def Uz:=@List.nodup_append.{0}
def UA:=@Nat.lt_trichotomy
def UB:=@List.mem_append_left.{0}
def UC:=@Nat.pow_le_pow_right
def UD:=@Nat.ne_of_gt
def UE:=@PySem.codeAny_mono
def UG:=@List.length_take.{0}
def UH:=@Nat.le_add_right
def UI:=@decide_false
def UJ:=@Option.bind_some.{0,0}
def UK:=@List.map_flatMap.{0,0,0}
def UL:=@List.map_eq_nil_iff.{0,0}
def UM:=@List.flatMap_append.{0,0}
def UN:=@PySem.Paired.length
def UO:=@PySem.wpAny_specialOf
def UP:=@List.of_mem_zip.{0,0}
def UQ:=@List.find?_some.{0}
def UR:=@List.mem_filterMap.{0,0}
def US:=@PySem.W.callWith_K
def UT:=@List.filter_append.{0}
def UU:=@Int.emod_lt_of_pos
def UW:=@PySem.wpAny_callSpecial?_slot
def UX:=@PySem.F.plainAttrs_list
def UY:=@PySem.F.plainAttrs_dict
def UZ:=@Option.bind_eq_some_iff.{0,0}
def U0:=@List.filter_cons_of_neg.{0}
def U1:=@decide_true
def U2:=@List.any_eq_false.{0}
def U3:=@PySem.W.cellsFrom_some
def U4:=@List.map_nil.{0,0}
def U5:=@List.append_assoc.{0}
def U6:=@Option.isSome_map.{0,0}
def U7:=@Nat.lt_trans
def U8:=@Option.map_eq_none_iff.{0,0}
def U9:=@List.flatMap_cons.{0,0}
def Va:=@PySem.isSubtype_tuple_tuple
def Vb:=@List.length_singleton.{0}
def Vc:=@PySem.wpAny_isInstance
def Vd:=@Nat.lt_succ_self
def Ve:=@Bool.true_and
def Vf:=@PySem.wpAny_execs_nil
def Vg:=@List.nodup_cons.{0}
def Vh:=@Option.map_some.{0,0}
def Vi:=@Int.emod_nonneg
def Vj:=@List.range_succ
def Vk:=@List.filterMap_cons.{0,0}
def Vl:=@PySem.W.plainGet_of
def Vm:=@Nat.mul_le_mul_left
def Vn:=@Nat.le_of_lt
def Vo:=@PySem.call_range_1
def Vp:=@Nat.mul_comm
def Vq:=@PySem.wpAny_tupleItemsOf
def Vr:=@Array.forIn_toList.{0,0,0}
def Vs:=@PySem.wpAny_seqItems
def Vt:=@PySem.call_meets
def Vu:=@Option.isNone_none.{0}
def Vv:=@Option.isNone_some.{0}
def Vw:=@Option.isSome_none.{0}
def Vx:=@PySem.wpAny_assign_Name
def Vy:=@PySem.wpAny_pyIter_list
def Vz:=@PySem.rangeSize_one
def VA:=@List.all_cons.{0}
def VB:=@Bool.and_self
def VC:=@Nat.min_le_right
def VD:=@List.cons_append.{0}
def VE:=@or_false
def VF:=@Option.getD_some.{0}
def VG:=@List.take_length.{0}
def VH:=@PySem.wpAny_rule
def VI:=@PySem.typeIs_int
def VJ:=@PySem.codeAny_loop
def VL:=@List.all_map.{0,0}
def VM:=@PySem.wpAny_updateSeq
def VN:=@List.countP_map.{0,0}
def VO:=@Nat.testBit_and
def VP:=@Bool.false_and
def VQ:=@PySem.Paired.snoc
def VR:=@PySem.wpAny_noted
def VS:=@PySem.wpAny_tryCatch
def VT:=@PySem.wpAny_letGo
def VU:=@Nat.mul_le_mul
def VV:=@PySem.evalPart_none
def VW:=@PySem.eval_ListComp
def VX:=@PySem.wpAny_call
def VY:=@Nat.lt_or_ge
def bq{p:Prop}(h:¬p->False):p:=Tp h
namespace L2
open PySem PySem.Spec PyProof.Rows
abbrev Key:=Sum Int Str
def mi:Key->Value->Bool
 | .inl k,v=>Value.isInt k v| .inr x,v=>Value.isStrOf x v
def Fk(w:World):Key->Int
 | .inl k=>hashInt k| .inr x=>hashStr w x
theorem jF:∀{k:Key} {v:Value},mi k v=true->(∃i t,k=Sum.inl i/\v=Value.int i t)\/(∃x t,k=Sum.inr x/\v=Value.str x t)
 | .inl i,v,h=>by obtain⟨t,e⟩:=Value.isInt_shape (k:=i) (v:=v) h;exact .inl ⟨i,t,rfl,e⟩
 | .inr x,v,h=>by obtain⟨t,e⟩:=Value.isStrOf_shape (x:=x) (v:=v) h;exact(.inr ⟨x,t,rfl,e⟩)
def Hh(i:Int)(t:Tok):mi (.inl i) (.int i t)=true:=by simp[mi,Value.isInt]
def MO(x:Str)(t:Tok):mi (.inr x) (.str x t)=true:=by simp[mi,Value.isStrOf]
def Py(a b:Int):decide ((Sum.inl a:Key)=Sum.inl b)=(a==b):=by
 by_cases e:a=b
 .subst e;simp
 .have h:¬(Sum.inl a:Key)=Sum.inl b:=fun q=>e (Sum.inl.inj q);rw[Sw h];exact(beq_eq_false_iff_ne.mpr e).symm
def NU(a b:Str):decide ((Sum.inr a:Key)=Sum.inr b)=decide (a=b):=by
 by_cases e:a=b
 .subst e;simp
 .have h:¬(Sum.inr a:Key)=Sum.inr b:=fun q=>e (Sum.inr.inj q);rw[Sw h,Sw e]
def Rn(a:Int)(b:Str):decide ((Sum.inl a:Key)=Sum.inr b)=false:=Sw (fun q=>nomatch q)
def IW(a:Str)(b:Int):decide ((Sum.inr a:Key)=Sum.inl b)=false:=Sw (fun q=>nomatch q)
def gU(prog:Program)(w:World):PySem.KeyKind prog w Key where
 is:=mi
 hash:=Fk w
 inj:=fun v a b ha hb=>by
  rcases jF ha with⟨i,t,rfl,rfl⟩|⟨x,t,rfl,rfl⟩
  .rcases jF hb with⟨j,u,rfl,e⟩|⟨y,u,rfl,e⟩
   .injection e with e1 _;rw[e1]
   .exact nomatch e
  .rcases jF hb with⟨j,u,rfl,e⟩|⟨y,u,rfl,e⟩
   .exact nomatch e
   .injection e with e1 _;rw[e1]
 byValue:=fun k v h=>by rcases jF h with⟨i,t,rfl,rfl⟩|⟨x,t,rfl,rfl⟩<;>rfl
 pyHash:=fun hv h=>by
  rcases jF hv with⟨i,t,rfl,rfl⟩|⟨x,t,rfl,rfl⟩
  .exact wpAny_pyHash_int h
  .exact wpAny_pyHash_str h
 eqBool:=fun hu hv h=>by
  rcases jF hu with⟨i,t,rfl,rfl⟩|⟨x,t,rfl,rfl⟩
  .rcases jF hv with⟨j,u,rfl,rfl⟩|⟨y,u,rfl,rfl⟩
   .rw[Py] at h;exact wpAny_eqBool_int h
   .rw[Rn] at h;exact SeqAt.EqAt.int_str i t y u _ _ _ _ h
  .rcases jF hv with⟨j,u,rfl,rfl⟩|⟨y,u,rfl,rfl⟩
   .rw[IW] at h;exact SeqAt.EqAt.str_int x t j u _ _ _ _ h
   .rw[NU] at h;exact wpAny_eqBool_str h
 «strs»:=fun k x t v h=>by
  rcases jF h with⟨i,u,rfl,e⟩|⟨y,u,rfl,e⟩
  .exact nomatch e
  .injection e with e1 _
   subst e1;cases v<;>rfl
def Eu(prog:Program)(w:World)(i:Int)(t:Tok):(gU prog w).is (.inl i) (.int i t)=true:=Hh i t
def L6(prog:Program)(w:World)(x:Str)(t:Tok):(gU prog w).is (.inr x) (.str x t)=true:=MO x t
inductive V where
 |non|bl (b:Bool)|int (i:Int)|str (x:Str)|byt (b:Array UInt8)|flt (b:UInt64)|ref (a:Addr)|ty (n:String)
 deriving DecidableEq
abbrev _root_.ŧ:=Option V
abbrev _root_.Ş:=List (Str×V)
abbrev _root_.ŗ:=List V
def RelV:V->Value->Prop
 | .non,u=>u=Value.none| .bl b,u=>u=Value.bool b| .int i,u=>∃t,u=Value.int i t| .str x,u=>∃t,u=Value.str x t| .byt b,u=>∃t,u=Value.bytes b t| .flt b,u=>∃t,u=Value.float b t| .ref a,u=>u=Value.ref a| .ty n,u=>u=Value.type n
abbrev Vals:ŗ->Œ->Prop:=Paired RelV
def Vals.length{xs:ŗ}{us:Œ}(r:Vals xs us):xs.length=us.length:=UN r
theorem Vals.get:∀{xs:ŗ} {us:Œ} {i:Nat} {x:V},Vals xs us->xs[i]?=some x->∃u,us[i]?=some u/\RelV x u
 |_,_,_,_,.nil,e=>by simp at e|_,_,0,_,.cons r _,e=>by simp at e;subst e;exact⟨_,rfl,r⟩|_,_,i+1,x,.cons _ t,e=>by obtain⟨u,J,H⟩:=Vals.get (i:=i) (x:=x) t (by simpa using e);exact(⟨u,by simpa using J,H⟩)
theorem Vals.set{x:V}{u:Value}(r:RelV x u):∀{xs:ŗ} {us:Œ} (i:Nat),Vals xs us->Vals (xs.set i x) (us.set i u)
 |_,_,_,.nil=>.nil|_,_,0,.cons _ t=>.cons r t|_,_,i+1,.cons q t=>.cons q (Vals.set r i t)
theorem Vals.append:∀{xs ys:ŗ} {us ws:Œ},Vals xs us->Vals ys ws->Vals (xs++ys) (us++ws)
 |_,_,_,_,.nil,s=>s|_,_,_,_,.cons r t,s=>.cons r (Vals.append t s)
theorem Vals.take:∀{xs:ŗ} {us:Œ} (n:Nat),Vals xs us->Vals (xs.take n) (us.take n)
 |_,_,0,_=>.nil|_,_,_+1,.nil=>.nil|_,_,n+1,.cons r t=>.cons r (Vals.take n t)
theorem Vals.drop:∀{xs:ŗ} {us:Œ} (n:Nat),Vals xs us->Vals (xs.drop n) (us.drop n)
 |_,_,0,r=>r|_,_,_+1,.nil=>.nil|_,_,n+1,.cons _ t=>Vals.drop n t
def Wy:ŧ->Ŝ->Prop
 |some v,some u=>RelV v u|none,none=>True|_,_=>False
def KV{κ:Type}:List (κ×V)->List (κ×Value)->Prop:=Paired fun(p:κ×V) (q:κ×Value)=>p.1=q.1/\RelV p.2 q.2
def kV:Key->V
 | .inl i=>.int i| .inr x=>.str x
abbrev NK:=List Int×Int
section
variable {P:Program} {w:World}
def XC(P:Program)(w:World)(h:Heap)(k:NK)(a:Addr):Prop:=∃(o:Obj) (b:Addr) (t:Tok) (c:Nat),h.get? a=some o/\o.cls=.type "tuple"/\o.data=.seq #[.ref b,.int k.2 t] c/\IsTupleKey (intKind P w) h k.1 b
def x6(P:Program)(w:World)(k:NK):Int:=reduceHash (Builtin.Tuple.tupleHashOf [tupleKeyHash (intKind P w) k.1,hashInt k.2])
variable {A:Around} {E:QS} {s:Shared} {k m:NK} {a b:Addr}
theorem XC.ty(x:XC P w s.heap k a):s.TypeIs (.ref a) "tuple":=let ⟨o,_,_,_,J,H,_⟩:=x;⟨o,J,H⟩
theorem XC.inj{h:Heap}(x:XC P w h k a)(y:XC P w h m a):k=m:=by obtain⟨o,b,t,c,F,_,z,L⟩:=x;obtain⟨o',b',t',c',J,_,H,S⟩:=y;rw[F] at J;cases J;rw[z] at H;obtain⟨k1,k2⟩:=k;obtain⟨m1,m2⟩:=m;simp only[Data.seq.injEq,Array.mk.injEq,List.cons.injEq,Value.ref.injEq,Value.int.injEq] at H;obtain⟨⟨e1,⟨e2,_⟩,_⟩,_⟩:=H;subst e1;subst e2;have:=L.inj S;simp only at this;subst this;rfl
theorem XC.keeps{h h':Heap}{d:Addr}{o:Obj}{es ep}(x:XC P w h k a)(F:h.get? d=some o)(hd:o.data=.dict es ep)(z:Heap.SameBut d h h'):XC P w h' k a:=by obtain⟨q,b,t,c,H,S,J,L⟩:=x;refine⟨q,b,t,c,(z.2 a ?_).trans H,S,J,L.keeps F hd z⟩;intro e;subst e;rw[F] at H;cases H;rw[J] at hd;cases hd
theorem Pl{Q:Int->Shared->Prop}(hu:A.units+4<cLine)(x:XC P w s.heap k a)(h:Q (x6 P w k) {s with toks:=s.toks+(k.1.length+3)}):wpAny (model P w) A (pyHash<|.ref a) Q E s:=by
 have H:=x.ty;obtain⟨o,b,t,c,h1,_,S,L⟩:=x;unfold pyHash;first|unfold pyHashByItsType|skip
 first|refine Sj (wpAny_cRoomFor_or (.inr ⋯) ?_)|skip
 refine Sj (UO H F.slot_tuple_hash.lookup ?_);show wpAny _ _ (if(some (Value.builtin "tuple.__hash__")==some Value.none)=true then _ else _) Q E s;rw[if_neg (by rw[beq_builtin_none];exact Tn)];refine Sj (UO H F.slot_tuple_hash.lookup ?_);show wpAny _ _ (callSpecialIfBoundUnlessNone? (.ref a) "__hash__" _ >>= _) Q E s;refine Sj (wpAny_callSpecialIfBoundUnlessNone?_slot H F.slot_tuple_hash<|Up F.slot_tuple_hash H F.entry_tuple_hash ?_<|F.args_tuple_hash_1 _);show wpAny _ _ (Builtin.Tuple.tupleItemsOf (.ref a) >>= _) _ _ s;refine Sj (Vq h1 S ?_);refine Sj ?_;rw[←Vr];show wpAny _ _ (forIn [Value.ref b,Value.int k.2 t] (#[]:Array Int) _) _ _ _;rw[List.forIn_cons];refine Sj (Sj<|wpAny_pyHash_tuple (show A.in1.units<cLine by show A.units+1<cLine;omega) L<|Sk ?_);show wpAny _ _ (forIn [Value.int k.2 t] (#[tupleKeyHash (intKind P w) k.1]:Array Int) _) _ _ _;rw[List.forIn_cons];refine Sj (Sj<|(intKind P w).pyHash (k:=k.2) (by simp[intKind,Value.isInt]) (Sk ?_));show wpAny _ _ (forIn [] (#[tupleKeyHash (intKind P w) k.1,hashInt k.2]:Array Int) _) _ _ _;rw[List.forIn_nil];refine Sk ?_;show wpAny _ _ (retInt<|Builtin.Tuple.tupleHashOf [tupleKeyHash (intKind P w) k.1,hashInt k.2]) _ _ _;refine wpAny_ret_mkInt ?_;have et:s.toks+(k.1.length+1)+1+1=s.toks+(k.1.length+3):=by omega
 unfold x6 reduceHash at h;generalize Builtin.Tuple.tupleHashOf [tupleKeyHash (intKind P w) k.1,hashInt k.2]=z at h⊢;show wpAny _ _ (ite ((decide (-(2:Int)^63<=z)&&decide (z<2^63))=true) _ _) Q E _;rw[←et] at h;by_cases J:(decide (-(2:Int)^63<=z)&&decide (z<2^63))=true
 .rw[if_pos J] at h⊢;exact Sk h
 .rw[if_neg J] at h⊢;exact Sj (VH<|Sk h)
theorem Ir{Q:Fin->Shared->Prop}(S:A.units<cLine)(x:XC P w s.heap k a)(y:XC P w s.heap m b)(h:Q (.done<|.ret<|.bool<|decide (k=m)) s):wpAny (model P w) A (Builtin.«tuple.__eq__» ⟨[.ref a,.ref b],[]⟩) Q E s:=by
 have J:=y.ty;obtain⟨o,b1,t,c,h1,_,h3,h4⟩:=x;obtain⟨o',L,F,c',g1,_,g3,g4⟩:=y;show wpAny _ _ (isInstance (.ref b) (.type "tuple") >>= _) _ _ s;refine Sj (Vc J Va ?_);simp only[SS,SN,if_false];refine Sj (Vq h1 h3 ?_);refine Sj (Vq g1 g3 ?_);refine Sj ?_;show wpAny _ _ (forIn [(Value.ref b1,Value.ref L),(Value.int k.2 t,Value.int m.2 F)] ((none:Option PySem.Fin),()) _) _ _ _;rw[List.forIn_cons];refine Sj (Sj<|wpAny_eqBool_tuple S h4 g4 ?_);by_cases e1:k.1=m.1
 .rw[SK e1];simp only[SS,SN,if_false];refine Sk ?_;show wpAny _ _ (forIn [(Value.int k.2 t,Value.int m.2 F)] ((none:Option PySem.Fin),()) _) _ _ _;rw[List.forIn_cons];refine Sj (Sj<|(intKind P w).eqBool (a:=k.2) (b:=m.2) (by simp[intKind,Value.isInt]) (by simp[intKind,Value.isInt]) ?_);by_cases H:k.2=m.2
  .have e:k=m:=Prod.ext e1 H;rw[SK e] at h;rw[SK H];simp only[SS,SN,if_false];refine Sk ?_;show wpAny _ _ (forIn [] ((none:Option PySem.Fin),()) _) _ _ _;rw[List.forIn_nil];refine Sk ?_;exact Sk h
  .have e:¬k=m:=fun z=>H (by rw[z]);rw[Sw e] at h;rw[Sw H];simp only[Tg,if_true];exact Sj (Sk<|Sk<|Sk<|Sk h)
 .have e:¬k=m:=fun z=>e1 (by rw[z]);rw[Sw e] at h;rw[Sw e1];simp only[Tg,if_true];exact Sj (Sk<|Sk<|Sk<|Sk h)
theorem Pg{Q:Bool->Shared->Prop}(z:A.units+4<cLine)(x:XC P w s.heap k a)(y:XC P w s.heap m b)(h:Q (decide (k=m)) s):wpAny (model P w) A (eqBool (.ref a)<|.ref b) Q E s:=by
 unfold eqBool;try with_reducible refine TY ?_
 show wpAny _ _ (ite ((Value.ref a==Value.ref b)=true) _ _) Q E s;by_cases H:a=b
 .subst H;rw[if_pos nofun];have:=x.inj y;subst this;exact Sj (VH<|Sk<|by simpa using h)
 .rw[if_neg (by simpa using H)];exact Sj (wpAny_richCompare_same_room (op:=.Eq) x.ty y.ty F.slot_tuple_eq (Up F.slot_tuple_eq x.ty F.entry_tuple_eq (Ir (by show A.units+1<cLine;omega) x y ⟨_,rfl,(fun e=>nomatch e),Ts h⟩)<|F.args_tuple_eq_2 _ _) ⋯)
theorem L4{z:Ő}{n:Nat}{Q:Bool->Shared->Prop}(x:IsTupleKey (intKind P w) s.heap z a)(h:Q true s):wpAny (model P w) A (eqIsQuiet (n+1)<|.ref a) Q E s:=by
 have H:=x.typeIs;obtain⟨o,items,c,h1,_,S,L⟩:=x;unfold eqIsQuiet;refine Sj (UO H F.slot_tuple_eq.lookup ?_);show wpAny _ _ (isInstance (.ref a) (.type "tuple") >>= _) _ _ s;refine Sj (Vc H Va ?_);simp only[SS,SN,if_false];refine Sj (Vs h1 S ?_);refine Sj ?_;show wpAny _ _ (forIn items _ _) _ _ s;rw[←Vr];refine wpAny_forIn_list _ (fun eE r s'=>r.1=none/\s'=s/\∀v∈eE,carriedByValue v=true) _ ?_ ?_ _ _ ⟨rfl,rfl,L.byValue⟩
 .intro v eE r s' q;obtain⟨_,e,q⟩:=q;subst e;rw[eqIsQuiet_byValue _ (q v nofun)];refine Sj (Sk ?_);simp only[SS,SN,if_false];exact Sk ⟨rfl,rfl,fun u J=>q u<|by simp[J]⟩
 .intro r s' q;obtain⟨r1,r2⟩:=r;obtain⟨e1,e2,_⟩:=q;cases e1;subst e2;exact Sk h
theorem Rj{Q:Bool->Shared->Prop}(x:XC P w s.heap k a)(h:Q true s):wpAny (model P w) A (eqIsQuiet 8<|.ref a) Q E s:=by have H:=x.ty;obtain⟨o,b,t,c,z,_,L,J⟩:=x;unfold eqIsQuiet;refine Sj (UO H F.slot_tuple_eq.lookup ?_);show wpAny _ _ (isInstance (.ref a) (.type "tuple") >>= _) _ _ s;refine Sj (Vc H Va ?_);simp only[SS,SN,if_false];refine Sj (Vs z L ?_);refine Sj ?_;rw[←Vr];show wpAny _ _ (forIn [Value.ref b,Value.int k.2 t] _ _) _ _ s;rw[List.forIn_cons];refine Sj (Sj<|L4 J ?_);simp only[SS,SN,if_false];refine Sk ?_;show wpAny _ _ (forIn [Value.int k.2 t] _ _) _ _ s;rw[List.forIn_cons,eqIsQuiet_byValue _ rfl];refine Sj (Sj<|Sk ?_);simp only[SS,SN,if_false];refine Sk ?_;show wpAny _ _ (forIn [] _ _) _ _ s;rw[List.forIn_nil];exact Sk (Sk h)
end
def mS(P:Program)(w:World):HeapKind P w NK where
 is:=XC P w
 hash:=x6 P w
 draws:=fun k=>k.1.length+3
 room:=fun A=>A.units+4<cLine
 inj:=fun x y=>x.inj y
 keeps:=fun x h1 h2 h3=>x.keeps h1 h2 h3
 pyHash:=fun h x q=>Pl h x q
 eqBool:=fun h x y q=>Pg h x y q
 quiet:=fun x q=>Rj x q
inductive HO where
 |lst (xs:ŗ)
 |tup (xs:ŗ)
 |dK (kvs:List (Key×V))|dT (kvs:List (NK×V))
 |set (S:Int->Bool) (n:Nat)
 |ins (C dx:Addr) (fs:Ş)
 |own (x:Addr)
 |xd (fs:Ş)
 |met (f x:Addr)
 |rng (lo hi:Int)
 |frz (o:Obj) (u:HO)
 |tbl (ps:Array Value)
 |ext (φ:Heap->Prop)
abbrev Hp:=Addr->Option HO
def XW(H:Hp)(b:Addr)(k:NK):Prop:=∃c,H b=some (.tup [.ref c,.int k.2])/\H c=some (.tup<|k.1.map V.int)
def XW.up{H H':Hp}{b:Addr}{k:NK}(e:XW H b k)(z:∀b xs,H b=some (.tup xs)->H' b=some (.tup xs)):XW H' b k:=let ⟨c,h1,J⟩:=e;⟨c,z _ _ h1,z _ _ J⟩
def upd(H:Hp)(a:Addr)(o:HO):Hp:=fun b=>if b=a then some o else H b
def fL{H:Hp}{a:Addr}{o:HO}:upd H a o a=some o:=by unfold upd;rw[if_pos rfl]
def eG{H:Hp}{a b:Addr}{o:HO}(h:b≠a):upd H a o b=H b:=by unfold upd;rw[if_neg h]
def EM{H:Hp}{a b:Addr}{o u:HO}(h:H a=some o)(h':H b=some u)(d:o≠u):a≠b:=by intro e;subst e;rw[h] at h';exact d (SY h')
def gA{H:Hp}{a b:Addr}{o:HO}(h:H a=some o)(h':H b=none):a≠b:=by intro e;subst e;rw[h] at h';cases h'
section
variable (P:Program) (w:World)
def V9(H:Hp)(h:Heap)(a:Addr):HO->Prop
 | .lst xs=>xs.length<=sizeLine/\∃(its:Œ) (n:Nat),Vals xs its/\h.get? a=some {cls:=.type "list",data:=.seq its.toArray n}| .tup xs=>xs.length<=sizeLine/\∃its:Œ,Vals xs its/\IsTup h a its.toArray| .dK kvs=>kvs.length<=sizeLine/\(a==sysModules)=false/\∃vs,KV kvs vs/\h.DictOf (gU P w) a vs| .dT kvs=>kvs.length<=sizeLine/\(a==sysModules)=false/\∃xs:List (NK×Addr×Value),
   Paired (fun(p:NK×V) (q:NK×Addr×Value)=>p.1=q.1/\XW H q.2.1 p.1/\RelV p.2 q.2.2) kvs xs/\
   ∃o es ep,h.get? a=some o/\o.ExactDict/\o.data=.dict es ep/\es.toList=xs.map (entryOfKey<|mS P w)/\(xs.map (·.1)).Nodup
 | .set S n=>h.SetOf (intKind P w) a S n| .ins C dx fs=>H dx=some (.own a)/\fs.length<=1000/\dx≠a/\h.get? a=some (PySem.W.instObj C dx)/\
   ∃mA,h.Ns1 dx mA/\(∀f,Wy (fs.lookup f)<|mA f)/\PySem.Within mA (fs.map (·.1))
 | .own _=>∃o,h.get? a=some o| .xd fs=>∃mA,h.Ns1 a mA/\∀f,Wy (fs.lookup f) (mA f)| .rng lo hi=>∃t u v,h.get? a=some {cls:=.type "range",data:=.fields #[.int lo t,.int hi u,.int 1 v]}| .frz o u=>h.get? a=some o/\V9 H h a u| .tbl ps=>h.get? a=some {cls:=.none,data:=.fields ps}| .met f x=>h.get? a=some (PySem.W.methodObj (.ref f)<|.ref x)| .ext φ=>φ h/\(∃o,h.get? a=some o)/\∀h1 J:Heap,φ h1->(∀o,h1.get? a=some o->J.get? a=some o)->φ J
def Ww(H:Hp)(h:Heap):Prop:=∀a o,H a=some o->V9 P w H h a o
end
section
variable {P:Program} {w:World} {H H':Hp} {h h':Heap} {a:Addr} {o:HO}
theorem V9.lt(x:V9 P w H h a o):a<h.objs.size:=by
 cases o with
 |lst xs=>obtain⟨_,_,_,_,e⟩:=x;exact Su e
 |tup xs=>obtain⟨_,_,_,p⟩:=x;exact p.lt
 |dK kvs=>obtain⟨_,_,_,_,o,_,_,e,_⟩:=x;exact Su e
 |dT kvs=>obtain⟨_,_,_,_,o,_,_,e,_⟩:=x;exact Su e
 |set S n=>obtain⟨o,_,_,_,e,_⟩:=x;exact Su e
 |ins C dx fs=>obtain⟨_,_,_,e,_⟩:=x;exact Su e
 |own y=>obtain⟨_,e⟩:=x;exact Su e
 |xd fs=>obtain⟨_,⟨_,_,_,e,_⟩,_⟩:=x;exact Su e
 |rng lo hi=>obtain⟨_,_,_,e⟩:=x;exact Su e
 |frz ob u=>obtain⟨e,_⟩:=x;exact Su e
 |tbl ps=>exact Su (show h.get? a=some _ from x)|met f y=>exact Su (show h.get? a=some _ from x)|ext φ=>obtain⟨_,⟨_,e⟩,_⟩:=x;exact Su e
theorem Paired.mapP{α β:Type}{F G:α->β->Prop}:∀{z:List α} {l₂:List β},Paired F z l₂->(∀a b,F a b->G a b)->Paired G z l₂
 |_,_,.nil,_=>.nil|_,_,.cons r t,f=>.cons (f _ _ r) (Paired.mapP t f)
theorem V9.stay(x:V9 P w H h a o)(k:∀b u,(b=a\/H b=some (.own a))->h.get? b=some u->h'.get? b=some u)
  (ho:∀b,H b=some (.own a)->H' b=some (.own a)) (F:∀b xs,H b=some (.tup xs)->H' b=some (.tup xs)):V9 P w H' h' a o:=by
 induction o with
 |lst xs=>obtain⟨z,J,n,r,e⟩:=x;exact⟨z,J,n,r,k _ _ (.inl rfl) e⟩
 |tup xs=>obtain⟨z,J,r,ob,e,c⟩:=x;exact⟨z,J,r,ob,k _ _ (.inl rfl) e,c⟩
 |dK kvs=>obtain⟨z,y,vs,r,ob,es,ep,e,c⟩:=x;exact⟨z,y,vs,r,ob,es,ep,k _ _ (.inl rfl) e,c⟩
 |dT kvs=>
  obtain⟨z,y,xs,r,ob,es,ep,e,c⟩:=x;exact⟨z,y,xs,Paired.mapP r fun p q z=>⟨z.1,z.2.1.up F,z.2.2⟩,ob,es,ep,k _ _ (.inl rfl) e,c⟩
 |set S n=>obtain⟨ob,es,ep,t,e,c⟩:=x;exact⟨ob,es,ep,t,k _ _ (.inl rfl) e,c⟩
 |ins C dx fs=>
  obtain⟨d,z,ne,e,mA,⟨od,es,ep,e2,c⟩,r⟩:=x;exact⟨ho _ d,z,ne,k _ _ (.inl rfl) e,mA,⟨od,es,ep,k _ _ (.inr d) e2,c⟩,r⟩
 |own y=>obtain⟨ob,e⟩:=x;exact⟨ob,k _ _ (.inl rfl) e⟩
 |xd fs=>obtain⟨mA,⟨od,es,ep,e,c⟩,r⟩:=x;exact⟨mA,⟨od,es,ep,k _ _ (.inl rfl) e,c⟩,r⟩
 |rng lo hi=>obtain⟨t,u,v,e⟩:=x;exact⟨t,u,v,k _ _ (.inl rfl) e⟩
 |frz ob u L=>obtain⟨e,q⟩:=x;exact⟨k _ _ (.inl rfl) e,L q⟩
 |tbl ps=>
  have e:h.get? a=some {cls:=.none,data:=.fields ps}:=x;show h'.get? a=some {cls:=.none,data:=.fields ps};exact k a _ (.inl rfl) e
 |met f y=>
  have e:h.get? a=some (PySem.W.methodObj (.ref f)<|.ref y):=x;show h'.get? a=some (PySem.W.methodObj (.ref f)<|.ref y);exact k a _ (.inl rfl) e
 |ext φ=>obtain⟨p,⟨o,e⟩,st⟩:=x;exact⟨st _ _ p fun o q=>k _ _ (.inl rfl) q,⟨o,k _ _ (.inl rfl) e⟩,st⟩
theorem Ww.lt(x:Ww P w H h)(e:H a=some o):a<h.objs.size:=(x a o e).lt
theorem Ww.fresh(x:Ww P w H h)(e:h.objs.size<=a):H a=none:=by
 cases q:H a with
 |none=>rfl|some u=>exact absurd (SW (x.lt q) e) (Td _)
theorem Ww.kept(x:Ww P w H h)(k:∀b u,h.get? b=some u->h'.get? b=some u):Ww P w H h':=fun a o e=>
 (x a o e).stay (fun b u _ q=>k b u q) (fun _ q=>q) fun _ _ q=>q
theorem Ww.laid(x:Ww P w H h)(k:∀b u,h.get? b=some u->h'.get? b=some u)(z:h.objs.size<=a)(new:V9 P w (upd H a o) h' a o):Ww P w (upd H a o) h':=fun b u e=>by
 have J:=x.fresh z;by_cases L:b=a
 .subst L;rw[fL] at e;cases e;exact new
 .rw[eG L] at e;exact(x b u e).stay (fun c v _ q=>k c v q) (fun c q=>by rw[eG (gA q J)];exact q) fun c xs q=>by rw[eG (gA q J)];exact q
end
def Rd(H:Hp)(a:Addr)(u:HO):Prop:=H a=some u\/∃o,H a=some (.frz o u)
def Rd.ok{P:Program}{w:World}{H:Hp}{h:Heap}{a:Addr}{u:HO}(r:Rd H a u)(x:Ww P w H h):V9 P w H h a u:=by
 rcases r with r|⟨o,r⟩
 .exact x a u r
 .obtain⟨_,q⟩:=x a _ r;exact q
def ϡ:Option HO->Prop
 |some (.lst _)=>True|some (.dK _)=>True|some (.dT _)=>True|some (.set _ _)=>True|some (.ins _ _ _)=>True|some (.ext _)=>True|_=>False
section
variable {P:Program} {w:World} {H:Hp} {h h':Heap} {x e:Addr} {o':HO}
theorem Ww.write(ok:Ww P w H h)(S:ϡ (H x))(he:e=x\/H e=some (.own x))(k:∀b u,b≠e->h.get? b=some u->h'.get? b=some u)(ă:∃u,h'.get? e=some u)
  (new:V9 P w (upd H x o') h' x o'):Ww P w (upd H x o') h':=fun b u q=>by
 have L:∀c y,H c=some (.own y)->c≠x:=fun c y r z=>by subst z;rw[r] at S;exact S
 have F:∀c xs,H c=some (.tup xs)->c≠x:=fun c xs r z=>by subst z;rw[r] at S;exact S
 by_cases hb:b=x
 .subst hb;rw[fL] at q;cases q;exact new
 .rw[eG hb] at q;by_cases J:b=e
  .have q':H b=some (.own x):=by
    rcases he with z|z
    .exact absurd (J.trans z) hb
    .rw[J];exact z
   rw[q] at q';cases q';obtain⟨v,hv⟩:=ă;exact⟨v,by rw[J];exact hv⟩
  .refine(ok b u q).stay (fun c v hc r=>k c v ?_ r) (fun c r=>by rw[eG (L c b r)];exact r) fun c xs r=>by rw[eG (F c xs r)];exact r
   rcases hc with rfl|hc
   .exact J
   .rintro rfl;rcases he with z|z
    .exact L c b hc z
    .rw[hc] at z;cases z;exact hb rfl
end
structure Un (fs ex:Ś) (H H':Hp) (h h':Heap):Prop where
 keep:∀b o,h.get? b=some o->H b=none->b∉fs->b∉ex->h'.get? b=some o
 slot:∀b o,h.get? b=some o->H b=none->b∈fs->b∉ex->∃sl,h'.get? b=some {o with slots:=sl}
 free:∀b o,h.get? b=some o->H b=none->b∉ex->H' b=none
 there:∀b o,h.get? b=some o->b∉ex->∃o',h'.get? b=some o'
 tups:∀b xs,H b=some (.tup xs)->H' b=some (.tup xs)
 frzs:∀b o u,H b=some (.frz o u)->H' b=some (.frz o u)
 tbls:∀b ps,H b=some (.tbl ps)->∃more,H' b=some (.tbl<|ps++more)
section
variable {fs ex:Ś} {H H1:Hp} {h h1 h':Heap} {a x e:Addr} {o:HO}
theorem Un.any(u:Un fs ex H H1 h h1){b:Addr}{ob:Obj}(q:h.get? b=some ob)(n:H b=none)(z:b∉ex):∃sl,h1.get? b=some {ob with slots:=sl}:=by
 by_cases J:b∈fs
 .exact u.slot b ob q n J z
 .exact⟨ob.slots,u.keep b ob q n J z⟩
theorem Un.kept(k:∀b u,h.get? b=some u->h'.get? b=some u):Un fs ex H H h h':=
 ⟨fun b ob q _ _ _=>k b ob q,fun b ob q _ _ _=>⟨ob.slots,k b ob q⟩,fun _ _ _ n _=>n,fun b ob q _=>⟨ob,k b ob q⟩,fun _ _ q=>q,fun _ _ _ q=>q,fun _ ps q=>⟨#[],by rw[q];simp⟩⟩
theorem Un.refl:Un fs ex H H h h:=Un.kept fun _ _ q=>q
theorem Un.laid(k:∀b u,h.get? b=some u->h'.get? b=some u)(hp:h.objs.size<=a)(hn:H a=none):Un fs ex H (upd H a o) h h' where
 keep:=fun b u q _ _ _=>k b u q
 slot:=fun b u q _ _ _=>⟨u.slots,k b u q⟩
 free:=fun b u q n _=>by rw[eG (SQ<|SW (Su q) hp)];exact n
 there:=fun b u q _=>⟨u,k b u q⟩
 tups:=fun b xs q=>by rw[eG (gA q hn)];exact q
 frzs:=fun b u xs q=>by rw[eG (gA q hn)];exact q
 tbls:=fun b ps q=>⟨#[],by rw[eG (gA q hn),q];simp⟩
theorem Un.write(F:ϡ (H x))(he:e=x\/H e=some (.own x))(k:∀b u,b≠e->h.get? b=some u->h'.get? b=some u)(S:∃u,h'.get? e=some u):Un fs ex H (upd H x o) h h':=by
 have P:∀b,H b=none->b≠x:=fun b n z=>by subst z;rw[n] at F;exact F
 have hb:∀b,H b=none->b≠e:=fun b n z=>by
  subst z;rcases he with r|r
  .exact P b n r
  .rw[n] at r;cases r
 have L:∀b u,H b=some u->¬ϡ (some u)->b≠x:=fun b u q nm z=>by subst z;rw[q] at F;exact nm F
 refine⟨fun b u q n _ _=>k b u (hb b n) q,fun b u q n _ _=>⟨u.slots,k b u (hb b n) q⟩,fun b u q n _=>by rw[eG (P b n)];exact n,fun b u q _=>?_,
  fun b xs q=>by rw[eG (L b _ q fun z=>z)];exact q,fun b u xs q=>by rw[eG (L b _ q fun z=>z)];exact q,fun b ps q=>⟨#[],by rw[eG (L b _ q fun z=>z),q];simp⟩⟩
 by_cases J:b=e
 .subst J;exact S
 .exact⟨u,k b u J q⟩
end
def trk(h:Heap)(H:Hp):Ś:=(List.range h.objs.size).filter fun a=>(H a).isSome
def kg(h:Heap)(H:Hp):Heap:=PySem.W.hideAll h (trk h H)
def Hu(h:Heap)(H:Hp):(kg h H).objs.size=h.objs.size:=PySem.W.hideAll_size _ _
def Rf{h:Heap}{H:Hp}{b:Addr}{o:Obj}(e:h.get? b=some o)(n:H b=none):(kg h H).get? b=some o:=
 PySem.W.hideAll_get _ e fun hm=>by have q:(H b).isSome=true:=(Sy.mp hm).2;rw[n] at q;simp at q
def IY{h:Heap}{H:Hp}{b:Addr}{o:Obj}(e:(kg h H).get? b=some o):h.get? b=some o/\H b=none:=by
 have J:h.get? b=some o:=PySem.W.of_hideAll (trk h H) e;refine⟨J,?_⟩;cases q:H b with
 |none=>rfl|some x=>
  have hm:b∈trk h H:=Sy.mpr ⟨S6.mpr (Su J),by simp[q]⟩;have z:(kg h H).get? b=none:=PySem.W.hideAll_none (trk h H) hm;rw[z] at e;cases e
def M6(g h:Heap)(L:Addr):SB:=(List.range h.objs.size).filterMap fun a=>if a=L\/(g.get? a).isSome=true then none else(h.get? a).map fun o=>(a,o)
def eE(g h:Heap)(L d:Addr):SB:=(M6 g h L).filter fun p=>decide (p.1≠d)
structure Mod (K:Frag) (mg:œ) (base:Heap):Prop where
 kin:K.In base
 glob:base.Ns mainGlobals mg
 blt:∃mb,base.Ns builtinsNs mb/\∀x:Str,x≠"__name__"->mb x=bootBuiltins x
 nolimit:base.NoLimit
structure Cx where
 prog:Program
 w:World
 K:Frag
 mg:œ
 base:Heap
 A:Around
 N:Ŗ
 Z3:Shared
 Z1:Hp
 env:Env
 outer:Š
 stack:Š
 ex:Ś
 fn:Str->Bool
 calm:Bool
 pn:SB
 xe:Value->Shared->Prop
abbrev WX(X:Cx)(a:Expr):Prop:=starEach [a] X.env=[(false,eval a X.env)]
abbrev YO(X:Cx)(a b:Expr):Prop:=starEach [a,b] X.env=[(false,eval a X.env),(false,eval b X.env)]
abbrev X9(X:Cx)(e:Expr)(es:Ř):Prop:=starEach (e::es) X.env=(false,eval e X.env)::starEach es X.env
abbrev Yn(X:Cx)(pos:Pos)(es:Ř):Prop:=(backTo pos<|starEach es X.env).any (·.1)=false
abbrev YN(X:Cx)(iter:Expr):Prop:=∀x,foldedSetIterable iter X.env x=pure x
abbrev hI(X:Cx):Prop:=∀e s,X.xe e s->False
abbrev gv(X:Cx)(x:Str):Prop:=X.fn x=true\/X.env.scope.names.lookup x=some .local
abbrev Xm(x:Str):Prop:=(x==("__debug__":Str))=false
abbrev gV(apos pos:Pos):Prop:=(apos.endLine==pos.line)=true
abbrev Χ(X:Cx)(a:Expr)(pos:Pos):Prop:=((backTo pos<|starEach [a] X.env).all (fun x=>!x.1)&&(backToKw pos<|keywordEach [] X.env).all (fun x=>x.1.isSome)
   &&decide ([a].length+([]:Ť).length+(if([]:Ť).isEmpty then 0 else 1)<30))=true
theorem Ym{X:Cx}{a b:Expr}(h:starEach [a,b] X.env=[(false,eval a X.env),(false,eval b X.env)])(k:starEach [b] X.env=[(false,eval b X.env)]):starEach (a::[b]) X.env=(false,eval a X.env)::starEach [b] X.env:=by rw[h,k]
theorem Φ{X:Cx}{pos:Pos}{b:Expr}(k:starEach [b] X.env=[(false,eval b X.env)]):(backTo pos<|starEach [b] X.env).any (·.1)=false:=by rw[k];rfl
def WK(l:Š):Ś:=l.filterMap (·.frame)
abbrev Cx.fs(X:Cx):Ś:=WK X.outer
def Ϡ(sc:Scope)(x:Str):Prop:=sc.names.lookup x=some .local\/sc.names.lookup x=some .cell\/sc.names.lookup x=some .free
def Loc(sc:Scope)(x:Str):Prop:=sc.names.lookup x=some .local\/sc.names.lookup x=some .cell
def Mc(env:Env)(h:Heap)(m:œ)(x:Str)(u:Value):Prop:=
 (env.kindOf x=some .local/\m x=some u)\/((env.kindOf x=some .cell\/env.kindOf x=some .free)/\∃c,env.cells.lookup x=some c/\h.IsCell c (some u))
structure Cx.Ok (X:Cx):Prop where
 mod:Mod X.K X.mg X.base
 kind:X.env.scope.kind=.function
 glob:X.env.globals=mainGlobals
 blt:X.env.builtins=builtinsNs
 above:X.Z3.heap.objs.size<=X.env.locals
 inj:∀x y c,X.env.cells.lookup x=some c->X.env.cells.lookup y=some c->x=y
 has:∀x,(X.env.kindOf x=some .cell\/X.env.kindOf x=some .free)->∃c,X.env.cells.lookup x=some c
 cab:∀x c,X.fn x=true->X.env.cells.lookup x=some c->X.Z3.heap.objs.size<=c
 hd:X.calm=true->X.A.handled=none
 frames:X.A.frames=some X.stack
 stk:X.stack=X.outer\/(X.stack=X.env::X.outer/\X.env.frame=some X.env.locals)
 exf:∀b∈X.ex,b≠X.env.locals/\∀x c,X.env.cells.lookup x=some c->c≠b
 bs:∀b o,X.base.get? b=some o->X.Z3.heap.get? b=some o/\X.Z1 b=none
 bsz:X.base.objs.size<=X.Z3.heap.objs.size
 noex:∀b o,X.base.get? b=some o->b∉X.ex
 exfs:∀b∈X.ex,b∉X.fs
 funs:X.Z3.heap.FunFrames X.base X.outer
 frf:∀b∈X.fs,X.Z1 b=none
structure Inv (X:Cx) (pins:SB) (J:List ŧ) (H:Hp) (s:Shared):Prop where
 ok:X.Ok
 os:s.os=X.Z3.os
 bare:AllBare s.gens
 base:Un X.fs X.ex X.Z1 H X.Z3.heap s.heap
 loc:∃m,s.heap.Ns X.env.locals m/\∀(i:Nat) (x:Str) (v:V),X.N[i]?=some x->J[i]?=some (some v)->Ϡ X.env.scope x->∃u,RelV v u/\Mc X.env s.heap m x u
 cell:∀x c,X.env.cells.lookup x=some c->∃v,s.heap.IsCell c v
 free:H X.env.locals=none
 freeC:∀x c,X.env.cells.lookup x=some c->H c=none
 pin:∀p∈X.pn++pins,s.heap.get? p.1=some p.2/\H p.1=none/\p.1≠X.env.locals/\p.1∉X.fs/\∀v,p.2.data≠.cell v
 hok:Ww X.prog X.w H s.heap
 len:J.length=X.N.length
section
variable {X:Cx} {pins:SB} {J:List ŧ} {H H':Hp} {s:Shared} {h':Heap}
theorem Cx.Ok.nofr(ok:X.Ok){b:Addr}{o:Obj}(e:X.base.get? b=some o):b∉X.fs:=fun H=>by have:=(ok.funs.mem H).1;rw[e] at this;cases this
theorem Inv.bs(I:Inv X pins J H s):∀b o,X.base.get? b=some o->s.heap.get? b=some o/\H b=none:=fun b o e=>
 ⟨I.base.keep b o (I.ok.bs b o e).1 (I.ok.bs b o e).2 (I.ok.nofr e) (I.ok.noex b o e),I.base.free b o (I.ok.bs b o e).1 (I.ok.bs b o e).2 (I.ok.noex b o e)⟩
theorem Inv.bk(I:Inv X pins J H s):∀b o,X.base.get? b=some o->s.heap.get? b=some o:=fun b o e=>(I.bs b o e).1
theorem Inv.mod(I:Inv X pins J H s):Mod X.K X.mg X.base:=I.ok.mod
theorem Inv.kIn(I:Inv X pins J H s):X.K.In s.heap:=I.ok.mod.kin.keeps I.bk
theorem Inv.lt(I:Inv X pins J H s):X.env.locals<s.heap.objs.size:=let ⟨_,L,_⟩:=I.loc;L.lt
theorem Inv.sz(I:Inv X pins J H s):X.Z3.heap.objs.size<=s.heap.objs.size:=S1 I.ok.above (Vn I.lt)
theorem Inv.nofs(I:Inv X pins J H s){a:Addr}(h:s.heap.objs.size<=a):a∉X.fs:=fun P=>by obtain⟨_,o,L,_⟩:=I.ok.funs.mem P;exact(absurd (SW (Su L)<|S1 I.sz h)<|Td _)
theorem Inv.cne(I:Inv X pins J H s):∀x c,X.env.cells.lookup x=some c->c≠X.env.locals:=fun x c e z=>by obtain⟨v,o,F,hd⟩:=I.cell x c e;obtain⟨m,⟨S,es,ep,L,P,_⟩,_⟩:=I.loc;rw[z,L] at F;cases F;rw[P] at hd;cases hd
theorem Inv.funs(I:Inv X pins J H s):s.heap.FunFrames X.base X.outer:=by
 have all:∀(l:Š),(∀b∈WK l,b∈X.fs)->X.Z3.heap.FunFrames X.base l->s.heap.FunFrames X.base l:=by
  intro l;induction l with
  |nil=>intro _ _;trivial|cons env r ih=>
   intro hs hl;obtain⟨hk,⟨L,o,P,hn,ho,hd⟩,hr⟩:=hl;have S:L∈X.fs:=hs L (by unfold WK;rw[Vk,P];exact Ut);obtain⟨sl,e⟩:=I.base.slot L o ho (I.ok.frf L S) S fun z=>I.ok.exfs L z S;exact⟨hk,⟨L,_,P,hn,e,hd⟩,ih (fun b F=>hs b (by unfold WK;rw[Vk,P];exact Ti _ F)) hr⟩
 exact all X.outer (fun _ F=>F) I.ok.funs
theorem Inv.stack(I:Inv X pins J H s):s.heap.FunFrames X.base X.stack:=by
 rcases I.ok.stk with e|⟨e,P⟩
 .rw[e];exact I.funs
 .rw[e];obtain⟨m,L,_⟩:=I.loc;refine .cons (by rw[I.ok.kind];decide) P L ?_ I.funs;exact Heap.get?_none_of_le (S1 I.ok.bsz I.ok.above)
theorem Inv.stkSub(I:Inv X pins J H s):∀b∈WK X.stack,b∈X.env.locals::X.fs:=fun b L=>by
 rcases I.ok.stk with e|⟨e,P⟩
 .rw[e] at L;exact Ti _ L
 .rw[e] at L;unfold WK at L;rw[Vk,P] at L;exact L
theorem Inv.stkFree(I:Inv X pins J H s):∀b∈WK X.stack,H b=none:=fun b L=>by
 rcases SI.mp (I.stkSub b L) with e|L
 .rw[e];exact I.free
 .obtain⟨_,o,P,_⟩:=I.ok.funs.mem L;exact I.base.free b o P (I.ok.frf b L) fun z=>I.ok.exfs b z L
theorem Inv.step{g':Array GenState}{t':Nat}{d':Drawn}{ch:Ś}(I:Inv X pins J H s)
  (F:∀b∈ch,(b∈X.ex\/X.Z3.heap.objs.size<=b)/\b≠X.env.locals/\(∀x c,X.env.cells.lookup x=some c->c≠b)/\∀p∈X.pn++pins,p.1≠b)
  (keep:∀b o,b≠X.env.locals->b∉X.fs->b∉ch->s.heap.get? b=some o->H b=none->h'.get? b=some o)
  (slot:∀b o,b≠X.env.locals->b∈X.fs->b∉ch->s.heap.get? b=some o->H b=none->∃sl,h'.get? b=some {o with slots:=sl}) (free:∀b o,b∉ch->s.heap.get? b=some o->H b=none->H' b=none)
  (there:∀b o,b∉ch->s.heap.get? b=some o->∃o',h'.get? b=some o')
  (tups:∀b xs,H b=some (.tup xs)->H' b=some (.tup xs)) (frzs:∀b o u,H b=some (.frz o u)->H' b=some (.frz o u)) (tbls:∀b ps,H b=some (.tbl ps)->∃more,H' b=some (.tbl<|ps++more))
  (ns:∀m,s.heap.Ns X.env.locals m->h'.Ns X.env.locals m) (hok:Ww X.prog X.w H' h') (hg:AllBare g'):
  Inv X pins J H' {s with heap:=h',gens:=g',drawn:=d',toks:=t'}:=by
 have ĳ:∀b o,X.Z3.heap.get? b=some o->b≠X.env.locals:=fun b o e=>SQ (SW (Su e) I.ok.above);have S:∀b o,X.Z3.heap.get? b=some o->b∉X.ex->b∉ch:=fun b o e L hb=>by
  rcases(F b hb).1 with z|z
  .exact L z
  .exact absurd (SW (Su e) z) (Td _)
 have cellK:∀x c,X.env.cells.lookup x=some c->∀v,s.heap.IsCell c v->h'.IsCell c v:=fun x c e v ⟨o,ho,hd⟩=>by
  have P:c∉ch:=fun z=>(F c z).2.2.1 x c e rfl;by_cases hc:c∈X.fs
  .obtain⟨sl,q⟩:=slot c o (I.cne x c e) hc P ho (I.freeC x c e);exact⟨_,q,hd⟩
  .exact⟨o,keep c o (I.cne x c e) hc P ho (I.freeC x c e),hd⟩
 refine⟨I.ok,I.os,hg,⟨fun b o e n hb L=>?_,fun b o e n hb L=>?_,fun b o e n L=>?_,fun b o e L=>?_,fun b xs e=>tups b xs (I.base.tups b xs e),fun b o xs e=>frzs b o xs (I.base.frzs b o xs e),fun b ps e=>?_⟩,?_,fun x c e=>?_,?_,fun x c e=>?_,fun p hp=>?_,hok,I.len⟩
 .exact keep b o (ĳ b o e) hb (S b o e L) (I.base.keep b o e n hb L) (I.base.free b o e n L)
 .obtain⟨sl,e1⟩:=I.base.slot b o e n hb L;obtain⟨lA,e2⟩:=slot b _ (ĳ b o e) hb (S b o e L) e1 (I.base.free b o e n L);exact(⟨lA,e2⟩)
 .obtain⟨o',e1⟩:=I.base.there b o e L;exact free b o' (S b o e L) e1 (I.base.free b o e n L)
 .obtain⟨o',e1⟩:=I.base.there b o e L;exact there b o' (S b o e L) e1
 .obtain⟨m1,e1⟩:=I.base.tbls b ps e;obtain⟨m2,e2⟩:=tbls b _ e1;exact(⟨m1++m2,by rw[e2,Array.append_assoc]⟩)
 .obtain⟨m,hn,hl⟩:=I.loc;refine⟨m,ns m hn,fun i x v e1 e2 e3=>?_⟩;obtain⟨u,r,l⟩:=hl i x v e1 e2 e3;refine(⟨u,r,?_⟩);rcases l with l|⟨k,c,e,z⟩
  .exact .inl l
  .exact .inr ⟨k,c,e,cellK x c e _ z⟩
 .obtain⟨v,z⟩:=I.cell x c e;exact⟨v,cellK x c e v z⟩
 .obtain⟨m,⟨o,_,_,ho,_⟩,_⟩:=I.loc;exact free _ o (fun z=>(F _ z).2.1 rfl) ho I.free
 .obtain⟨v,o,ho,hd⟩:=I.cell x c e;exact free c o (fun z=>(F c z).2.2.1 x c e rfl) ho (I.freeC x c e)
 .obtain⟨e,n,ne,nf,d⟩:=I.pin p hp;have P:p.1∉ch:=fun z=>(F p.1 z).2.2.2 p hp rfl;exact⟨keep p.1 p.2 ne nf P e n,free p.1 p.2 P e n,ne,nf,d⟩
theorem Inv.un{t':Nat}(I:Inv X pins J H s)(u:Un X.fs [] H H' s.heap h')(hok:Ww X.prog X.w H' h'):Inv X pins J H' {s with heap:=h',toks:=t'}:=by
 obtain⟨m,⟨o,es,ep,ho,r⟩,_⟩:=id I.loc;obtain⟨sl,hL⟩:=u.any ho I.free nofun;exact I.step (g':=s.gens) (d':=s.drawn) (ch:=[]) (fun _ z=>nomatch z) (fun b o _ P _ e n=>u.keep b o e n P nofun) (fun b o _ P _ e n=>u.slot b o e n P nofun) (fun b o _ e n=>u.free b o e n nofun) (fun b o _ e=>u.there b o e nofun) u.tups u.frzs u.tbls (fun m' hm=>by obtain⟨o',F,S,L,r'⟩:=hm;rw[ho] at L;cases L;exact⟨_,F,S,hL,r'⟩) hok I.bare
theorem Inv.call{g':Array GenState}{t':Nat}{d':Drawn}{ch:Ś}(I:Inv X pins J H s)(u:Un (WK X.stack) ch H H' s.heap h')(hok:Ww X.prog X.w H' h')(hg:AllBare g')
  (F:∀b∈ch,(b∈X.ex\/X.Z3.heap.objs.size<=b)/\b≠X.env.locals/\(∀x c,X.env.cells.lookup x=some c->c≠b)/\∀p∈X.pn++pins,p.1≠b):
  Inv X pins J H' {s with heap:=h',gens:=g',drawn:=d',toks:=t'}:=by
 obtain⟨m,⟨o,es,ep,ho,r⟩,_⟩:=id I.loc;obtain⟨sl,S⟩:=u.any ho I.free fun z=>(F _ z).2.1 rfl;exact I.step (ch:=ch) F (fun b o S hb L e n=>u.keep b o e n (fun z=>(SI.mp<|I.stkSub b z).elim S hb) L) (fun b o _ _ L e n=>u.any e n L) (fun b o L e n=>u.free b o e n L) (fun b o L e=>u.there b o e L) u.tups u.frzs u.tbls (fun m' hm=>by obtain⟨o',es',ep',P,r'⟩:=hm;rw[ho] at P;cases P;exact⟨_,es',ep',S,r'⟩) hok hg
theorem Inv.turned{t':Nat}{it:Addr}(I:Inv X pins J H s)(k:∀b o,b≠it->s.heap.get? b=some o->h'.get? b=some o)(hn:H it=none)(F:it≠X.env.locals)
  (h1:it∈X.ex\/X.Z3.heap.objs.size<=it) (h2:∀x c,X.env.cells.lookup x=some c->c≠it) (h3:∀p∈X.pn++pins,p.1≠it):Inv X pins J H {s with heap:=h',toks:=t'}:=by
 have P:∀b u,H b=some u->b≠it:=fun b u e z=>by rw[z,hn] at e;cases e
 refine I.step (g':=s.gens) (d':=s.drawn) (ch:=[it]) (fun b hb=>?_) (fun b o _ _ L e _=>k b o (fun z=>L<|by simp[z]) e) (fun b o _ _ L e _=>⟨o.slots,k b o (fun z=>L<|by simp[z]) e⟩) (fun _ _ _ _ n=>n)
  (fun b o L e=>⟨o,k b o (fun z=>L<|by simp[z]) e⟩) (fun _ _ e=>e) (fun _ _ _ e=>e) (fun b ps e=>⟨#[],by rw[e];simp⟩) (fun m hm=>?_) (fun b u e=>?_) I.bare
 .have e:b=it:=by simpa using hb
  subst e;exact⟨h1,F,h2,h3⟩
 .obtain⟨o,es,ep,S,r⟩:=hm;exact⟨o,es,ep,k _ o (Ne.symm F) S,r⟩
 .refine(I.hok b u e).stay (fun c v L q=>k c v ?_ q) (fun _ q=>q) fun _ _ q=>q;rcases L with z|z
  .rw[z];exact P b u e
  .exact P c _ z
theorem Inv.tok(I:Inv X pins J H s)(t:Nat):Inv X pins J H {s with toks:=t}:=I.un (h':=s.heap) (t':=t) Un.refl I.hok
theorem Inv.kept(I:Inv X pins J H s)(k:∀b u,s.heap.get? b=some u->h'.get? b=some u):Inv X pins J H {s with heap:=h',toks:=t'}:=I.un (Un.kept k) (I.hok.kept k)
theorem Inv.laid{a:Addr}{o:HO}{t':Nat}(I:Inv X pins J H s)(k:∀b u,s.heap.get? b=some u->h'.get? b=some u)(z:s.heap.objs.size<=a)(new:V9 X.prog X.w (upd H a o) h' a o):
  Inv X pins J (upd H a o) {s with heap:=h',toks:=t'}:=I.un (Un.laid k z<|I.hok.fresh z) (I.hok.laid k z new)
theorem Inv.write{x e:Addr}{o:HO}{t':Nat}(I:Inv X pins J H s)(F:ϡ (H x))(he:e=x\/H e=some (.own x))(k:∀b u,b≠e->s.heap.get? b=some u->h'.get? b=some u)(z:∃u,h'.get? e=some u)
  (new:V9 X.prog X.w (upd H x o) h' x o):Inv X pins J (upd H x o) {s with heap:=h',toks:=t'}:=I.un (Un.write F he k z) (I.hok.write F he k z new)
theorem Inv.pins_of(I:Inv X pins J H s)(h:∀p∈F,s.heap.get? p.1=some p.2/\H p.1=none/\p.1≠X.env.locals/\p.1∉X.fs/\∀v,p.2.data≠.cell v):Inv X F J H s:=
 ⟨I.ok,I.os,I.bare,I.base,I.loc,I.cell,I.free,I.freeC,fun p L=>(S8.mp L).elim (fun z=>I.pin p<|UB _ z) (h p),I.hok,I.len⟩
theorem CG{N:Ŗ}(z:N.Nodup){i j:Nat}{x:Str}(a:N[i]?=some x)(b:N[j]?=some x):i=j:=by obtain⟨L,e1⟩:=Sn.mp a;obtain⟨J,H⟩:=Sn.mp b;exact((List.getElem_inj z).mp (e1.trans H.symm))
theorem v4{M:Model}{A:Around}{E:QS}{i:Nat}{x:Str}{v:V}{u:Value}{Q:Unit->Shared->Prop}(I:Inv X pins J H s)(hN:X.N.Nodup)(hi:X.N[i]?=some x)(F:Loc X.env.scope x)(r:RelV v u)
  (h:∀s',Inv X pins (J.set i<|some v) H s'->(∃a,Heap.SameBut a s.heap s'.heap/\(a=X.env.locals\/X.env.cells.lookup x=some a))->Q () s') (hf:gv X x:=by first|exact .inl rfl|exact .inr rfl|assumption):wpAny M A (storeName X.env x u) Q E s:=by
 obtain⟨m,hn,hl⟩:=id I.loc;have ο:(X.env.scope.kind==.class||(X.env.scope.kind==.module&&X.env.locals !=X.env.globals))=false:=by rw[I.ok.kind];rfl
 have Zh:i<J.length:=by rw[I.len];exact(Sn.mp hi).1
 have cne:=I.cne;have tracked:∀{a:Addr} {h':Heap},(∃o,s.heap.get? a=some o/\H a=none)->Heap.SameBut a s.heap h'->Ww X.prog X.w H h':=fun{a h'} ha L b ob e=>by
  obtain⟨_,_,S⟩:=ha;refine((I.hok b ob e).stay (fun c w' P q=>(L.2 c ?_).trans q) (fun _ q=>q) fun _ _ q=>q);rintro rfl;rcases P with rfl|P
  .rw[S] at e;cases e
  .rw[S] at P;cases P
 rcases F with hk|hk
 .refine wpAny_storeName_local hk hn (fun h' Ya L=>?_) ο;obtain⟨oL,_,_,_s,_⟩:=id hn;refine(h _ ⟨I.ok,I.os,I.bare,⟨fun b o e n hb F=>?_,fun b o e n hb F=>?_,I.base.free,fun b o e F=>?_,I.base.tups,I.base.frzs,I.base.tbls⟩,⟨_,Ya,fun j y v' e1 e2 e3=>?_⟩,fun y c e=>?_,I.free,I.freeC,fun p hp=>?_,tracked ⟨oL,_s,I.free⟩ L,by simpa using I.len⟩ ⟨_,L,.inl rfl⟩)
  .exact(L.2 b<|SQ<|SW (Su e) I.ok.above).trans (I.base.keep b o e n hb F)
  .obtain⟨sl,e1⟩:=I.base.slot b o e n hb F;exact⟨sl,(L.2 b<|SQ<|SW (Su e) I.ok.above).trans e1⟩
  .obtain⟨o',e1⟩:=I.base.there b o e F;exact⟨o',(L.2 b<|SQ<|SW (Su e) I.ok.above).trans e1⟩
  .by_cases hj:j=i
   .subst hj;rw[hi] at e1;cases e1;rw[List.getElem?_set_self Zh] at e2;cases e2;exact⟨u,r,.inl ⟨hk,by simp⟩⟩
   .rw[S4 (Ne.symm hj)] at e2;obtain⟨u',r',q⟩:=hl j y v' e1 e2 e3;refine(⟨u',r',?_⟩);rcases q with⟨k,e⟩|⟨k,c,e,z⟩
    .refine .inl ⟨k,?_⟩;have:y≠x:=fun e=>hj (CG hN e1<|e▸hi);simp[this,e]
    .exact .inr ⟨k,c,e,z.sameBut L<|cne y c e⟩
  .obtain⟨w',z⟩:=I.cell y c e;exact⟨w',z.sameBut L<|cne y c e⟩
  .obtain⟨e,n,ne,nf,d⟩:=I.pin p hp;exact⟨(L.2 p.1 ne).trans e,n,ne,nf,d⟩
 .have Ā:X.fn x=true:=by
   rcases hf with z|z
   .exact z
   .rw[z] at hk;cases hk
  obtain⟨c,P⟩:=I.ok.has x (.inl hk);obtain⟨w',z⟩:=I.cell x c P;refine(wpAny_storeName_cell I.ok.kind hk P z<|fun h' ņ L=>?_);obtain⟨oc,ļ,ò⟩:=id z;refine(h {s with heap:=h'} ⟨I.ok,I.os,I.bare,⟨fun b o e n hb F=>?_,fun b o e n hb F=>?_,I.base.free,fun b o e F=>?_,I.base.tups,I.base.frzs,I.base.tbls⟩,⟨m,hn.sameBut L (Ne.symm<|cne x c P),fun j y v' e1 e2 e3=>?_⟩,fun y c' e=>?_,I.free,I.freeC,fun p hp=>?_,tracked ⟨oc,ļ,I.freeC x c P⟩ L,by simpa using I.len⟩ ⟨c,L,.inr P⟩)
  .exact(L.2 b<|SQ<|SW (Su e)<|I.ok.cab x c Ā P).trans (I.base.keep b o e n hb F)
  .obtain⟨sl,e1⟩:=I.base.slot b o e n hb F;exact⟨sl,(L.2 b<|SQ<|SW (Su e)<|I.ok.cab x c Ā P).trans e1⟩
  .obtain⟨o',e1⟩:=I.base.there b o e F;exact⟨o',(L.2 b<|SQ<|SW (Su e)<|I.ok.cab x c Ā P).trans e1⟩
  .by_cases hj:j=i
   .subst hj;rw[hi] at e1;cases e1;rw[List.getElem?_set_self Zh] at e2;cases e2;exact⟨u,r,.inr ⟨.inl hk,c,P,ņ⟩⟩
   .rw[S4 (Ne.symm hj)] at e2;obtain⟨u',r',q⟩:=hl j y v' e1 e2 e3;refine(⟨u',r',?_⟩);rcases q with q|⟨k,c',e,z'⟩
    .exact .inl q
    .refine .inr ⟨k,c',e,z'.sameBut L ?_⟩;rintro rfl;exact hj (CG hN e1<|I.ok.inj _ _ _ e P▸hi)
  .by_cases ϕ:c'=c
   .subst ϕ;exact⟨_,ņ⟩
   .obtain⟨w2,z2⟩:=I.cell y c' e;exact⟨w2,z2.sameBut L ϕ⟩
  .obtain⟨e,n,ne,nf,d⟩:=I.pin p hp;refine⟨(L.2 p.1 ?_).trans e,n,ne,nf,d⟩;intro q;rw[q,ļ] at e;have q':oc=p.2:=SY e;exact d w' (by rw[←q'];exact ò)
theorem yE{M:Model}{A:Around}{E:QS}{i:Nat}{x:Str}{v:V}{u:Value}{Q:Unit->Shared->Prop}(I:Inv X pins J H s)(F:X.N.Nodup)(hi:X.N[i]?=some x)(z:Loc X.env.scope x)(r:RelV v u)
  (h:∀s',Inv X pins (J.set i<|some v) H s'->Q () s') (hf:gv X x:=by first|exact .inl rfl|exact .inr rfl|assumption):wpAny M A (storeName X.env x u) Q E s:=
 v4 I F hi z r (fun s' L _=>h s' L) hf
theorem Inv.call'{s':Shared}{ch:Ś}(I:Inv X pins J H s)(F:s'.os=s.os)(u:Un (WK X.stack) ch H H' s.heap s'.heap)(hok:Ww X.prog X.w H' s'.heap)(S:AllBare s'.gens)
  (z:∀b∈ch,(b∈X.ex\/X.Z3.heap.objs.size<=b)/\b≠X.env.locals/\(∀x c,X.env.cells.lookup x=some c->c≠b)/\∀p∈X.pn++pins,p.1≠b):Inv X pins J H' s':=by
 obtain⟨h',g',d',t',L⟩:=s';have e:L=s.os:=F;subst e;exact(I.call (g':=g') (t':=t') (d':=d') u hok S z)
end
abbrev XK:=Value->š->Hp->Prop
abbrev St:=List ŧ
abbrev VK:=V->Hp->Prop
abbrev TE:=St->Hp->VK->Prop
abbrev TT:=St->Hp->(Bool->Hp->Prop)->Prop
abbrev TA:=St->Hp->(ŗ->Hp->Prop)->Prop
structure Ends where
 nx:St->Hp->Prop
 rt:VK
 bk:St->Hp->Prop:=fun _ _=>False
 ct:St->Hp->Prop:=fun _ _=>False
abbrev TS:=Ends->St->Hp->Prop
def EP(X:Cx)(pins:SB)(J:St)(Q:VK)(u:Value)(s':Shared):Prop:=∃v H',Inv X pins J H' s'/\RelV v u/\Q v H'
def TP(X:Cx)(pins:SB)(J:St)(Q:Bool->Hp->Prop)(b:Bool)(s':Shared):Prop:=∃H',Inv X pins J H' s'/\Q b H'
def AP(X:Cx)(pins:SB)(J:St)(Q:ŗ->Hp->Prop)(us:Œ)(s':Shared):Prop:=∃vs H',Inv X pins J H' s'/\Vals vs us/\Q vs H'
def SP(X:Cx)(pins:SB)(D:Ends)(f:Flow)(s':Shared):Prop:=
 match f with
 | .next=>∃H H',Inv X pins H H' s'/\D.nx H H'
 | .brk=>∃H H',Inv X pins H H' s'/\D.bk H H'| .cont=>∃H H',Inv X pins H H' s'/\D.ct H H'| .ret u=>∃v H H',Inv X pins H H' s'/\RelV v u/\D.rt v H'
def PE(X:Cx)(e:Expr)(t:TE):Prop:=
 ∀(pins:SB) (s:Shared) (J:St) (H:Hp) (Q:VK),Inv X pins J H s->t J H Q->wpAny (model X.prog X.w) X.A (eval e X.env) (EP X pins J Q) X.xe s
def PT(X:Cx)(e:Expr)(t:TT):Prop:=
 ∀(pins:SB) (s:Shared) (J:St) (H:Hp) (Q:Bool->Hp->Prop),Inv X pins J H s->t J H Q->wpAny (model X.prog X.w) X.A (isTrue e X.env<|eval e X.env) (TP X pins J Q) X.xe s
def PW(X:Cx)(e:Expr)(t:TT):Prop:=
 ∀(whole:Sem Value) (pins:SB) (s:Shared) (J:St) (H:Hp) (Q:Bool->Hp->Prop),Inv X pins J H s->t J H Q->wpAny (model X.prog X.w) X.A (isTrue e X.env whole) (TP X pins J Q) X.xe s
def PW.pt{X:Cx}{e:Expr}{t:TT}(h:PW X e t):PT X e t:=h _
def PA(X:Cx)(es:Ř)(t:TA):Prop:=
 ∀(pos:Pos) (pins:SB) (s:Shared) (J:St) (H:Hp) (Q:ŗ->Hp->Prop),Inv X pins J H s->t J H Q->wpAny (model X.prog X.w) X.A (spliced<|backTo pos<|starEach es X.env) (AP X pins J Q) X.xe s
def PS(X:Cx)(st:Stmt)(t:TS):Prop:=
 ∀(pins:SB) (s:Shared) (J:St) (H:Hp) (D:Ends),Inv X pins J H s->t D J H->wpAny (model X.prog X.w) X.A (exec st X.env) (SP X pins D) X.xe s
def Wo(X:Cx)(st:ţ)(t:TS):Prop:=
 ∀(pins:SB) (s:Shared) (J:St) (H:Hp) (D:Ends),Inv X pins J H s->t D J H->wpAny (model X.prog X.w) X.A (execs st X.env) (SP X pins D) X.xe s
def V0{α:Type}{t:Sem α}{Q z:α->Shared->Prop}{M:Model}{A:Around}{E:QS}{s:Shared}(h:wpAny M A t Q E s)(F:∀a s,Q a s->z a s):wpAny M A t z E s:=Ss h F fun _ _ x=>x
section
variable {X:Cx}
def zf(i:Nat):TE:=fun J H Q=>∃v,J[i]?=some (some v)/\Q v H
def tC(v:V):TE:=fun _ H Q=>Q v H
theorem Ah{i:Nat}{x:Str}{pos:Pos}(hN:X.N[i]?=some x)(S:Ϡ X.env.scope x)(hd:Xm x:=by decide) (z:(x==("__classdict__":Str))=false:=by decide):PE X (.Name x pos) (zf i):=by
 intro pins s J H Q I h;obtain⟨v,e,h⟩:=h;obtain⟨m,hn,hl⟩:=I.loc;obtain⟨u,r,l⟩:=hl i x v hN e S;have fin:EP X pins J Q u s:=⟨v,H,I,r,h⟩
 rcases l with⟨P,hm⟩|⟨P,c,F,L⟩
 .exact wpAny_Name (wpAny_loadName_local I.ok.kind P hn hm fin) hd
 .rcases P with P|P
  .exact wpAny_Name (wpAny_loadName_cell I.ok.kind P F L fin) hd
  .exact wpAny_Name (wpAny_loadName_free I.ok.kind P F L fin z) hd
theorem AA{i j pos}:PE X (.Constant (.int i) j pos) (tC<|.int i):=fun _ _ _ H _ I h=>wpAny_Constant_int ⟨.int i,H,I.tok _,⟨_,rfl⟩,h⟩
theorem Kt{b j pos}:PE X (.Constant (.bool b) j pos) (tC<|.bl b):=fun _ _ _ H _ I h=>Constant_bool ⟨.bl b,H,I,rfl,h⟩
theorem N1{j pos}:PE X (.Constant .none j pos) (tC .non):=fun _ _ _ H _ I h=>Constant_none ⟨.non,H,I,rfl,h⟩
theorem DE{x j pos}:PE X (.Constant (.str x) j pos) (tC<|.str x):=fun _ _ _ H _ I h=>Calls.Constant_str ⟨.str x,H,I.tok _,⟨_,rfl⟩,h⟩
def Gl(X:Cx)(x:Str):Prop:=X.env.kindOf x=some .globalImplicit
theorem pG{E:QS}{pins:SB}{s:Shared}{J:St}{H:Hp}{x:Str}{u:Value}{pos:Pos}{Q:QS}(I:Inv X pins J H s)(z:Gl X x)(hm:X.mg x=some u)(h:Q u s)
  (hd:Xm x:=by decide):wpAny (model X.prog X.w) X.A (eval (.Name x pos) X.env) Q E s:=
 Calls.Name_function_global I.ok.kind z (Calls.loadGlobal_global (by rw[I.ok.glob];exact I.mod.glob.keeps I.bk) hm h) hd
theorem jv{E:QS}{pins:SB}{s:Shared}{J:St}{H:Hp}{x:Str}{u:Value}{pos:Pos}{Q:QS}(I:Inv X pins J H s)(S:Gl X x)(hm:X.mg x=none)(z:bootBuiltins x=some u)(h:Q u s)
  (F:x≠"__name__":=by decide) (hd:Xm x:=by decide):wpAny (model X.prog X.w) X.A (eval (.Name x pos) X.env) Q E s:=by
 obtain⟨mb,P,L⟩:=I.mod.blt;exact Calls.Name_function_global I.ok.kind S (Calls.loadGlobal_builtin (by rw[I.ok.glob];exact I.mod.glob.keeps I.bk) hm (by rw[I.ok.blt];exact P.keeps I.bk) ((L x F).trans z) h) hd
theorem F7{x:Str}{v:V}{u:Value}{pos:Pos}(z:Gl X x)(hm:X.mg x=some u)(r:RelV v u)(hd:Xm x:=by decide):PE X (.Name x pos) (tC v):=
 fun _ _ _ H _ I h=>pG I z hm ⟨v,H,I,r,h⟩ hd
theorem rX{x:Str}{v:V}{u:Value}{pos:Pos}(S:Gl X x)(hm:X.mg x=none)(z:bootBuiltins x=some u)(r:RelV v u)(F:x≠"__name__":=by decide) (hd:Xm x:=by decide):PE X (.Name x pos) (tC v):=
 fun _ _ _ H _ I h=>jv I S hm z ⟨v,H,I,r,h⟩ F hd
variable {a b:Expr} {ta tb:TE} {pos:Pos}
def PC(X:Cx)(op:CmpOp)(a b:Expr)(t:TE):Prop:=
 ∀(pins:SB) (s:Shared) (J:St) (H:Hp) (Q:VK),Inv X pins J H s->t J H Q->
  wpAny (model X.prog X.w) X.A (eval a X.env) (fun v L=>wpAny (model X.prog X.w) X.A (eval b X.env) (fun u P=>wpAny (model X.prog X.w) X.A (compareOp op v u) (EP X pins J Q) X.xe P) X.xe L) X.xe s
theorem M1(b:Expr)(h:op≠.In)(z:op≠.NotIn):behindInMarks op b=false:=by
 have e1:(op==CmpOp.In)=false:=by cases op<;>first|rfl|exact absurd rfl h
 have H:(op==CmpOp.NotIn)=false:=by cases op<;>first|rfl|exact absurd rfl z
 cases b<;>simp[behindInMarks,e1,H]
def tB(t:TE):TT:=fun J H Q=>t J H fun x H1=>∃c,x=.bl c/\Q c H1
theorem KJ{op:CmpOp}{t:TE}(h:PC X op a b t)(h1:behindInMarks op b=false:=by first|exact M1 _ (by decide) (by decide)|rfl):PT X (.Compare a [op] [b] pos) (tB t):=by intro pins s J H Q I P;refine wpAny_isTrue_Compare1 (V0 (h pins s J H _ I P) fun v s1 h1=>V0 h1 fun u s2 F=>V0 F fun c s3 z=>?_) h1;obtain⟨x,H1,S,L,q1⟩:=z;obtain⟨d,rfl,q⟩:=q1;cases L;exact(Ts ⟨H1,S,q⟩)
theorem M0{e:Expr}{t:TE}(h:PE X e t)(he:∀whole,isTrue e X.env whole=(do let v ←whole;standAt e.pos;holding [v] (truthy v)):=by intro _;rfl):PT X e (tB t):=by intro pins s J H Q I P;refine isTrue_plain (V0 (h pins s J H _ I P) fun v s1 z=>?_) (he _);obtain⟨x,S,F,L,q1⟩:=z;obtain⟨d,rfl,q⟩:=q1;cases L;exact(Ts ⟨S,F,q⟩)
variable {tA Ϥ:TT} {eE:Ř}
def zu(t u:TT):TT:=fun J H Q=>t J H fun c H1=>if c=true then u J H1 Q else Q false H1
def Ě(t u:TT):TT:=fun J H Q=>t J H fun c H1=>if c=true then Q true H1 else u J H1 Q
def LK(t:TT):TT:=fun J H Q=>t J H fun c H1=>Q (!c) H1
theorem Rr(z:PT X a tA):PW X (.BoolOp .And [a] pos) tA:=by
 intro L pins s J H Q I h;refine isTrue_and (V0 (z pins s J H Q I h) fun c s1 e=>?_);cases c with
 |true=>exact isTrue_and_nil e|false=>exact e
theorem He(z:PT X a tA):PW X (.BoolOp .Or [a] pos) tA:=by
 intro L pins s J H Q I h;refine isTrue_or (V0 (z pins s J H Q I h) fun c s1 e=>?_);cases c with
 |false=>exact isTrue_or_nil e|true=>exact e
theorem LW(ha:PT X a tA)(S:PW X (.BoolOp .And (b::eE) pos) Ϥ):PW X (.BoolOp .And (a::b::eE) pos) (zu tA Ϥ):=by
 intro z pins s J H Q I h;refine isTrue_and (V0 (ha pins s J H _ I h) fun c s1 F=>?_);obtain⟨P,L,q1⟩:=F;cases c with
 |true=>exact S z pins s1 J P Q L q1|false=>exact⟨P,L,q1⟩
theorem F9(ha:PT X a tA)(S:PW X (.BoolOp .Or (b::eE) pos) Ϥ):PW X (.BoolOp .Or (a::b::eE) pos) (Ě tA Ϥ):=by
 intro z pins s J H Q I h;refine isTrue_or (V0 (ha pins s J H _ I h) fun c s1 F=>?_);obtain⟨P,L,q1⟩:=F;cases c with
 |true=>exact⟨P,L,q1⟩|false=>exact S z pins s1 J P Q L q1
theorem yP(z:PT X a tA):PT X (.UnaryOp .Not a pos) (LK tA):=by intro pins s J H Q I h;exact isTrue_not (z pins s J H (fun c L=>Q (!c) L) I h)
def RW(ta tb:TE):TE:=fun J H Q=>ta J H fun x H1=>∃c,x=.bl c/\if c=true then tb J H1 Q else Q (.bl false) H1
def OE(ta tb:TE):TE:=fun J H Q=>ta J H fun x H1=>∃c,x=.bl c/\if c=true then Q (.bl true) H1 else tb J H1 Q
theorem I0{op}{t:TE}(h:PE X a t):PE X (.BoolOp op [a] pos) t:=fun pins s J H Q I L=>BoolOp_one (h pins s J H Q I L)
theorem Ff(ha:PE X a ta)(S:PE X (.BoolOp .And (b::eE) pos) tb):PE X (.BoolOp .And (a::b::eE) pos) (RW ta tb):=by
 intro pins s J H Q I h;refine BoolOp_and (V0 (ha pins s J H _ I h) fun v s1 F=>?_);obtain⟨x,P,L,z,q1⟩:=F;obtain⟨c,rfl,q1⟩:=q1;cases z;refine(Ts ?_);cases c with
 |true=>exact S pins s1 J P Q L q1|false=>exact⟨.bl false,P,L,rfl,q1⟩
theorem PX(ha:PE X a ta)(S:PE X (.BoolOp .Or (b::eE) pos) tb):PE X (.BoolOp .Or (a::b::eE) pos) (OE ta tb):=by
 intro pins s J H Q I h;refine BoolOp_or (V0 (ha pins s J H _ I h) fun v s1 F=>?_);obtain⟨x,P,L,z,q1⟩:=F;obtain⟨c,rfl,q1⟩:=q1;cases z;refine(Ts ?_);cases c with
 |false=>exact S pins s1 J P Q L q1|true=>exact⟨.bl true,P,L,rfl,q1⟩
def Z'(t:TT)(ta tb:TE):TE:=fun J H Q=>t J H fun c H1=>if c=true then ta J H1 Q else tb J H1 Q
theorem Je{c:Expr}(F:PT X c tA)(ha:PE X a ta)(S:PE X b tb):PE X (.IfExp c a b pos) (Z' tA ta tb):=by
 intro pins s J H Q I h;refine wpAny_IfExp (V0 (F pins s J H _ I h) fun d s1 z=>?_);obtain⟨P,L,q1⟩:=z;cases d with
 |true=>exact ha pins s1 J P Q L q1|false=>exact S pins s1 J P Q L q1
end
def WE(K:Frag)(H:Hp)(a:Addr)(xs:ŗ):Prop:=
 Rd H a (.lst xs)\/
  ∃(o:Obj) (its:Array Value) (n:Nat),K.lookup a=some o/\o.cls=.type "list"/\o.dict=none/\o.data=.seq its n/\its.size<=sizeLine/\Vals xs its.toList
def Wx(K:Frag)(H:Hp)(a:Addr)(xs:ŗ):Prop:=
 Rd H a (.tup xs)\/
  ∃(o:Obj) (its:Array Value) (n:Nat),K.lookup a=some o/\o.cls=.type "tuple"/\o.data=.seq its n/\its.size<=sizeLine/\Vals xs its.toList
def OF:Value->ŧ
 | .none=>some .non| .bool b=>some (.bl b)| .int i _=>some (.int i)| .str x _=>some (.str x)| .bytes b _=>some (.byt b)| .float b _=>some (.flt b)| .ref a=>some (.ref a)| .type n=>some (.ty n)|_=>none
def RelV.abs{x:V}{u:Value}(r:RelV x u):OF u=some x:=by
 cases x with
 |non=>cases r;rfl
 |bl _=>cases r;rfl
 |int _=>obtain⟨t,rfl⟩:=r;rfl
 |str _=>obtain⟨t,rfl⟩:=r;rfl
 |byt _=>obtain⟨t,rfl⟩:=r;rfl
 |flt _=>obtain⟨t,rfl⟩:=r;rfl
 |ref _=>cases r;rfl
 |ty _=>cases r;rfl
def RelV.inj{x y:V}{u:Value}(r:RelV x u)(q:RelV y u):x=y:=SY (r.abs.symm.trans q.abs)
theorem Vals.inj:∀{xs ys:ŗ} {us:Œ},Vals xs us->Vals ys us->xs=ys
 |_,_,_,.nil,.nil=>rfl|_,_,_,.cons r t,.cons J H=>by rw[r.inj J,Vals.inj t H]
section
variable {X:Cx} {pins:SB} {J:St} {H:Hp} {s:Shared} {a:Addr} {xs ys:ŗ}
theorem WE.of{K:Frag}(h:H a=some (.lst xs)):WE K H a xs:=.inl (.inl h)
theorem Wx.of{K:Frag}(h:H a=some (.tup xs)):Wx K H a xs:=.inl (.inl h)
theorem Inv.list(I:Inv X pins J H s)(h:WE X.K H a xs):∃its:Œ,Vals xs its/\PlainL s.heap a its.toArray/\xs.length<=sizeLine:=by
 rcases h with h|⟨o,its,n,P,F,hd,L,S,r⟩
 .obtain⟨z,its,n,r,e⟩:=h.ok I.hok;exact⟨its,r,⟨_,n,e,rfl,rfl,rfl⟩,z⟩
 .refine⟨its.toList,r,⟨o,n,I.kIn a o P,F,hd,by simpa using L⟩,?_⟩;have e:=r.length;simp only[T2] at e;omega
theorem Inv.tuple(I:Inv X pins J H s)(h:Wx X.K H a xs):∃its:Œ,Vals xs its/\IsTup s.heap a its.toArray/\xs.length<=sizeLine:=by
 rcases h with h|⟨o,its,n,P,F,L,S,r⟩
 .obtain⟨z,its,r,p⟩:=h.ok I.hok;exact⟨its,r,p,z⟩
 .refine⟨its.toList,r,⟨o,I.kIn a o P,F,n,by simpa using L⟩,?_⟩;have e:=r.length;simp only[T2] at e;omega
theorem Inv.list_inj(I:Inv X pins J H s)(h:WE X.K H a xs)(h':WE X.K H a ys):xs=ys:=by
 obtain⟨L,r,⟨o,n,e,_,_,d⟩,_⟩:=I.list h;obtain⟨its',F,⟨o',n',P,_,_,z⟩,_⟩:=I.list h';rw[e] at P;cases P;rw[d] at z;injection z with S _
 have:L=its':=by simpa using congrArg Array.toList S
 subst this;exact r.inj F
theorem Inv.tuple_inj(I:Inv X pins J H s)(h:Wx X.K H a xs)(h':Wx X.K H a ys):xs=ys:=by
 obtain⟨L,r,⟨o,e,_,n,d⟩,_⟩:=I.tuple h;obtain⟨its',F,⟨o',P,_,n',z⟩,_⟩:=I.tuple h';rw[e] at P;cases P;rw[d] at z;injection z with S _
 have:L=its':=by simpa using congrArg Array.toList S
 subst this;exact r.inj F
end
abbrev Cx.wish(X:Cx)(E:QS):Cx:={X with xe:=E}
abbrev Cx.nox(X:Cx):Cx:=X.wish fun _ _=>False
def Cx.Ok.wish{X:Cx}(ok:X.Ok)(E:QS):(X.wish E).Ok:=
 ⟨ok.mod,ok.kind,ok.glob,ok.blt,ok.above,ok.inj,ok.has,ok.cab,ok.hd,ok.frames,ok.stk,ok.exf,ok.bs,ok.bsz,ok.noex,ok.exfs,ok.funs,ok.frf⟩
def Cx.Ok.unwish{X:Cx}{E:QS}(ok:(X.wish E).Ok):X.Ok:=
 ⟨ok.mod,ok.kind,ok.glob,ok.blt,ok.above,ok.inj,ok.has,ok.cab,ok.hd,ok.frames,ok.stk,ok.exf,ok.bs,ok.bsz,ok.noex,ok.exfs,ok.funs,ok.frf⟩
section
variable {X:Cx} {pins:SB} {J:St} {H:Hp} {s:Shared} {E:QS}
theorem Inv.wish(I:Inv X pins J H s)(E:QS):Inv (X.wish E) pins J H s:=⟨I.ok.wish E,I.os,I.bare,I.base,I.loc,I.cell,I.free,I.freeC,I.pin,I.hok,I.len⟩
theorem Inv.unwish(I:Inv (X.wish E) pins J H s):Inv X pins J H s:=⟨I.ok.unwish,I.os,I.bare,I.base,I.loc,I.cell,I.free,I.freeC,I.pin,I.hok,I.len⟩
theorem SP.unwish{D:Ends}{f:Flow}{s':Shared}(h:SP (X.wish E) pins D f s'):SP X pins D f s':=by
 cases f with
 |next=>obtain⟨H,H',I,q⟩:=h;exact⟨H,H',I.unwish,q⟩
 |brk=>obtain⟨H,H',I,q⟩:=h;exact⟨H,H',I.unwish,q⟩
 |cont=>obtain⟨H,H',I,q⟩:=h;exact⟨H,H',I.unwish,q⟩
 |ret u=>obtain⟨v,H,H',I,r,q⟩:=h;exact⟨v,H,H',I.unwish,r,q⟩
theorem PE.nox{e:Expr}{t:TE}(h:PE X.nox e t):PE X e t:=fun pins s J H Q I L=>
 Ss (h pins s J H Q (I.wish _) L) (fun _ _ ⟨v,H',P,r,q⟩=>⟨v,H',P.unwish,r,q⟩) fun _ _ z=>False.elim z
theorem PT.nox{e:Expr}{t:TT}(h:PT X.nox e t):PT X e t:=fun pins s J H Q I L=>
 Ss (h pins s J H Q (I.wish _) L) (fun _ _ ⟨H',P,q⟩=>⟨H',P.unwish,q⟩) fun _ _ z=>False.elim z
theorem Wo.nox{st:ţ}{t:TS}(h:Wo X.nox st t):Wo X st t:=fun pins s J H D I L=>
 Ss (h pins s J H D (I.wish _) L) (fun _ _ q=>q.unwish) fun _ _ z=>False.elim z
end
section
variable {X:Cx} {st:Stmt} {eE:ţ} {t u:TS} {e:Expr} {te:TE} {pos:Pos}
def ND:TS:=fun D J H=>D.nx J H
def QK(t u:TS):TS:=fun D J H=>t {D with nx:=u D} J H
theorem Jy:Wo X [] ND:=fun _ _ J H _ I h=>Vf ⟨J,H,I,h⟩
theorem Cm(h1:PS X st t)(z:Wo X eE u):Wo X (st::eE) (QK t u):=by
 intro pins s J H D I h;refine wpAny_execs_cons (V0 (h1 pins s J H {D with nx:=u D} I h) fun f s1 q=>?_);cases f with
 |next=>
  obtain⟨L,H',P,q⟩:=q;exact z pins s1 L H' D P q
 |ret v=>exact q|brk=>exact q|cont=>exact q
theorem Eh(h1:PS X st t):Wo X [st] t:=by
 intro pins s J H D I h;refine wpAny_execs_cons (V0 (h1 pins s J H D I h) fun f s1 q=>?_);cases f with
 |next=>exact Vf q
 |ret v=>exact q|brk=>exact q|cont=>exact q
theorem Inv.quiet{pins:SB}{J:St}{H:Hp}{s:Shared}(I:Inv X pins J H s):interactive X.env=false:=by simp[interactive,I.ok.kind]
def HY(te:TE):TS:=fun D J H=>te J H fun _ H1=>D.nx J H1
theorem AC(he:PE X e te)(z:swapsWith e none pos.line X.env=pure false:=by rfl):PS X (.Expr e pos) (HY te):=by intro pins s J H D I h;exact wpAny_Expr_any (V0 (he pins s J H _ I h) fun v s1 ⟨x,P,L,F,q1⟩=>⟨J,P,L,q1⟩) I.quiet z
def Om(te:TE):TS:=fun D J H=>te J H D.rt
theorem z6(he:PE X e te):PS X (.Return (some e) pos) (Om te):=by intro pins s J H D I h;exact wpAny_Return_some (V0 (he pins s J H _ I h) fun v s1 ⟨x,z,P,L,q1⟩=>⟨x,J,z,P,L,q1⟩)
def Ly(c:TT)(t u:TS):TS:=fun D J H=>c J H fun b H1=>if b=true then t D J H1 else u D J H1
theorem Bm{c:Expr}{a b:ţ}{tc:TT}(F:PT X c tc)(ha:Wo X a t)(S:Wo X b u):PS X (.If c a b pos) (Ly tc t u):=by
 intro pins s J H D I h;refine wpAny_If (V0 (F pins s J H _ I h) fun d s1 z=>?_);obtain⟨P,L,q1⟩:=z;cases d with
 |true=>exact ha pins s1 J P D L q1|false=>exact S pins s1 J P D L q1
end
abbrev TG:=V->St->Hp->(St->Hp->Prop)->Prop
abbrev pd:=ŗ->St->Hp->(St->Hp->Prop)->Prop
def PG(X:Cx)(target:Expr)(t:TG):Prop:=
 ∀(pins:SB) (s:Shared) (J:St) (H:Hp) (v:V) (u:Value) (Q:St->Hp->Prop),Inv X pins J H s->RelV v u->t v J H Q->
  wpAny (model X.prog X.w) X.A (assign target X.env u) (fun _ s'=>∃L H',Inv X pins L H' s'/\Q L H') X.xe s
def ee(X:Cx)(ts:Ř)(t:pd):Prop:=
 ∀(pins:SB) (s:Shared) (J:St) (H:Hp) (vs:ŗ) (us:Œ) (Q:St->Hp->Prop),Inv X pins J H s->Vals vs us->t vs J H Q->
  wpAny (model X.prog X.w) X.A (assignInOrder ((assignEach ts X.env).map (·.2)) us) (fun _ s'=>∃L H',Inv X pins L H' s'/\Q L H') X.xe s
abbrev yv:=V->V->V->Hp->(Hp->Prop)->Prop
def zk(X:Cx)(t:yv):Prop:=
 ∀(pins:SB) (s:Shared) (J:St) (H:Hp) (o i v:V) (L iv u:Value) (Q:Hp->Prop),Inv X pins J H s->RelV o L->RelV i iv->RelV v u->t o i v H Q->
  wpAny (model X.prog X.w) X.A (setItem L iv u) (fun _ s'=>∃H',Inv X pins J H' s'/\Q H') X.xe s
abbrev Ϸ:=V->V->Hp->VK->Prop
def ē(X:Cx)(op:Operator)(t:Ϸ):Prop:=
 ∀(pins:SB) (s:Shared) (J:St) (H:Hp) (x y:V) (v u:Value) (Q:VK),Inv X pins J H s->RelV x v->RelV y u->t x y H Q->
  wpAny (model X.prog X.w) X.A (inplaceOp op v u) (EP X pins J Q) X.xe s
section
variable {X:Cx} {pos:Pos}
def wK(i:Nat):TG:=fun v J H Q=>Q (J.set i<|some v) H
theorem EJ{i:Nat}{x:Str}(F:X.N.Nodup)(hi:X.N[i]?=some x)(z:Loc X.env.scope x)(hf:gv X x:=by first|exact .inl rfl|exact .inr rfl|assumption):PG X (.Name x pos) (wK i):=by intro pins s J H v u Q I r h;exact Vx (yE I F hi z r (fun s' L=>⟨_,H,L,h⟩) hf)
def L9:pd:=fun vs J H Q=>vs=[]/\Q J H
def F6(t:TG)(u:pd):pd:=fun vs J H Q=>∃v r,vs=v::r/\t v J H fun L H'=>u r L H' Q
theorem HC:ee X [] L9:=by intro pins s J H vs L Q I r h;obtain⟨e,h⟩:=h;subst e;cases r;exact(assignInOrder_nil ⟨J,H,I,h⟩)
theorem Qo{e:Expr}{es:Ř}{t:TG}{u:pd}(h1:PG X e t)(F:ee X es u)
  (z:(assignEach (e::es) X.env).map (·.2)=assign e X.env::(assignEach es X.env).map (·.2):=by rfl):ee X (e::es) (F6 t u):=by
 intro pins s J H vs us Q I r h;obtain⟨v,vr,e1,h⟩:=h;subst e1;cases r with
 |cons r L=>
  rw[z];refine assignInOrder_cons (V0 (h1 pins s J H _ _ _ I r h) fun _ s1 P=>?_);obtain⟨S,H1,I1,q1⟩:=P;exact(F pins s1 S H1 _ _ Q I1 L q1)
def zM(K:Frag)(n:Nat)(t:pd):TG:=fun v J H Q=>∃a xs,v=.ref a/\Wx K H a xs/\xs.length=n/\t xs J H Q
theorem E4{es:Ř}{k:Nat}{t:pd}{n:Nat}(hc:X.calm=true)(h:ee X es t)
  (hn:(assignEach es X.env).length=n:=by rfl) (z:(assignEach es X.env).findIdx? (·.1)=none:=by rfl):PG X (.Tuple es k pos) (zM X.K n t):=by
 intro pins s J H v u Q I r L;obtain⟨a,xs,e1,hq,hl,L⟩:=L;subst e1;cases r;obtain⟨F,P,ht,hz⟩:=I.tuple hq;refine(assign_Tuple_tuple (I.ok.hd hc) ht (by simp[hn,←hl,P.length]) z fun h' S=>?_);have I1:Inv X pins J H {s with heap:=h'}:=I.kept (t':=s.toks) fun b o e=>S b o (SQ<|Su e) e;exact h pins _ J H xs _ Q I1 (by simpa using P) L
def Nk(to z:TE)(t:yv):TG:=fun v J H Q=>to J H fun o H1=>z J H1 fun i P=>t o i v P fun L=>Q J L
theorem QW{o i:Expr}{to F:TE}{t:yv}(ho:PE X o to)(hi:PE X i F)(hs:zk X t)
  (ha:∀v,assign (.Subscript o i pos) X.env v=(do
   let z ←holding [v] (eval o X.env)
   let iv ←holding [v,z] (eval i X.env)
   standAt pos
   holding [v,z,iv] (setItem z iv v)
   release [v,z,iv] []):=by intro _;rfl):PG X (.Subscript o i pos) (Nk to F t):=by
 intro pins s J H v u Q I r h;rw[ha];refine Sj (TY<|V0 (ho pins s J H _ I h) fun z s1 L=>?_);obtain⟨x,H1,I1,S,q1⟩:=L;refine(Sj<|TY<|V0 (hi pins s1 J H1 _ I1 q1) fun iv s2 L=>?_);obtain⟨y,H2,I2,P,q2⟩:=L;refine(Sj<|TZ<|Sj<|TY<|V0 (hs pins s2 J H2 x y v z iv u _ I2 S P r q2) fun _ s3 L=>?_);obtain⟨H3,I3,q3⟩:=L;exact(wpAny_release ⟨J,H3,I3,q3⟩)
def ui(te:TE)(g:TG):TS:=fun D J H=>te J H fun x H1=>g x J H1 D.nx
theorem IF{tg e:Expr}{te:TE}{g:TG}(he:PE X e te)(F:PG X tg g)(z:swapsWithSole [tg] e pos.line X.env=pure false:=by rfl)(hw:swappedStores [tg] e X.env=pure none:=by rfl)
  (h1:(assignEach [tg] X.env).map (·.2)=[assign tg X.env]:=by rfl):PS X (.Assign [tg] e pos) (ui te g):=by
 intro pins s J H D I h;refine wpAny_Assign_stores (V0 (he pins s J H _ I h) fun v s1 P=>?_) z hw;obtain⟨x,H1,S,L,q1⟩:=P;rw[h1];exact V0 (F pins s1 J H1 x v _ S L q1) fun _ s2 q=>q
theorem AV{i:Nat}{x:Str}{e:Expr}{te:TE}{pos':Pos}(S:X.N.Nodup)(hi:X.N[i]?=some x)(z:Loc X.env.scope x)(he:PE X e te)(F:swapsWith e (some<|.Name x pos') pos.line X.env=pure false:=by rfl)(hf:gv X x:=by first|exact .inl rfl|exact .inr rfl|assumption):
  PS X (.Assign [.Name x pos'] e pos) (ui te<|wK i):=by
 intro pins s J H D I h;refine wpAny_Assign_Name (V0 (he pins s J H _ I h) fun v s1 P=>?_) F;obtain⟨y,H1,I1,L,q1⟩:=P;exact(yE I1 S hi z L (fun s2 I2=>⟨_,H1,I2,q1⟩) hf)
def Hk(i:Nat)(te:TE)(F:Ϸ):TS:=fun D J H=>∃x,J[i]?=some (some x)/\te J H fun y H1=>F x y H1 fun z L=>D.nx (J.set i<|some z) L
theorem Gm{i:Nat}{x:Str}{e:Expr}{te:TE}{op:Operator}{ti:Ϸ}{pos':Pos}(hN:X.N.Nodup)(hi:X.N[i]?=some x)(hx:Loc X.env.scope x)(he:PE X e te)(ho:ē X op ti)(hf:gv X x:=by first|exact .inl rfl|exact .inr rfl|assumption):
  PS X (.AugAssign (.Name x pos') op e pos) (Hk i te ti):=by
 intro pins s J H D I h;obtain⟨v,e1,h⟩:=h;obtain⟨m,hn,hl⟩:=I.loc;have S:Ϡ X.env.scope x:=by rcases hx with k|k;exact .inl k;exact .inr (.inl k)
 obtain⟨u,r,l⟩:=hl i x v hi e1 S;refine(wpAny_AugAssign_Name ?_);have go:wpAny (model X.prog X.w) X.A (eval e X.env) (fun w ZK=>wpAny (model X.prog X.w) X.A (inplaceOp op u w) (fun r ZM=>wpAny (model X.prog X.w) X.A (storeName X.env x r) (fun _=>SP X pins D .next) X.xe ZM) X.xe ZK) X.xe s:=by refine V0 (he pins s J H _ I h) fun w s1 F=>?_;obtain⟨y,H1,I1,r1,q1⟩:=F;refine(V0 (ho pins s1 J H1 v y u w _ I1 r r1 q1) fun z s2 F=>?_);obtain⟨zv,H2,I2,r2,q2⟩:=F;exact(yE I2 hN hi hx r2 (fun s3 I3=>⟨_,H2,I3,q2⟩) hf)
 rcases l with⟨L,F⟩|⟨L,c,hc,P⟩
 .exact wpAny_loadName_local I.ok.kind L hn F go
 .rcases L with L|L
  .exact wpAny_loadName_cell I.ok.kind L hc P go
  .rcases hx with k|k
   .have:X.env.scope.names.lookup x=some .free:=L;rw[k] at this;cases this
   .have:X.env.scope.names.lookup x=some .free:=L;rw[k] at this;cases this
def ķ(f:Int->Int->Int):Ϸ:=fun x y H Q=>∃i j,x=.int i/\y=.int j/\Q (.int<|f i j) H
theorem Nh:ē X .Add (ķ fun i j=>i+j):=by intro pins s J H x y v u Q I P L h;obtain⟨i,j,e1,z,q⟩:=h;subst e1;subst z;obtain⟨t,rfl⟩:=P;obtain⟨F,rfl⟩:=L;exact(iadd_int ⟨.int _,H,I.tok _,⟨_,rfl⟩,q⟩)
end
section
variable {X:Cx} {pos:Pos}
def GE(c:TT)(tb:TS):TS:=fun D J H=>∃W:Nat->St->Hp->Prop,(∃m,W m J H)/\∀m J H,W m J H->
 c J H fun b H1=>if b=true then ∃N:St->Hp->Prop,(∀P H',N P H'->∃L,L<m/\W L P H')/\tb {D with nx:=N,ct:=N,bk:=D.nx} J H1 else D.nx J H1
theorem MW{c:Expr}{body:ţ}{tc:TT}{tb:TS}(hp:PassesOwn (model X.prog X.w) X.A X.env X.xe)(hc:PT X c tc)(hb:Wo X body tb):PS X (.While c body [] pos) (GE tc tb):=by
 intro pins s J H D I h;obtain⟨W,⟨m0,w0⟩,turn⟩:=h;refine(wpAny_While<|codeAny_whileLoop (fun n s'=>∃Z0 H',Inv X pins Z0 H' s'/\W n Z0 H') ?_ m0 ⟨J,H,I,w0⟩);rintro n s1 ⟨S,H1,I1,w1⟩;refine Uj hp (V0 (hc pins s1 S H1 _ I1<|turn n S H1 w1) fun b s2 L=>?_);obtain⟨H2,I2,q2⟩:=L;cases b with
 |true=>
  obtain⟨N,hN,q2⟩:=q2;rw[if_pos rfl];refine Uj hp (V0 (hb pins s2 S H2 _ I2 q2) fun f s3 F=>?_);cases f with
  |next=>
   obtain⟨P,z,I3,n3⟩:=F;obtain⟨m',L,w3⟩:=hN P z n3;exact⟨m',L,P,z,I3,w3⟩
  |cont=>
   obtain⟨P,z,I3,n3⟩:=F;obtain⟨m',L,w3⟩:=hN P z n3;exact⟨m',L,P,z,I3,w3⟩
  |brk=>exact F|ret v=>exact F
 |false=>
  rw[if_neg Tn];exact Vf ⟨S,H2,I2,q2⟩
end
structure It where
 go:Nat->Hp->Prop
 yld:Nat->Hp->V->Hp->Prop
 stop:Nat->Hp->Prop
def fK(X:Cx)(pins:SB)(H:Hp)(b:Addr):Prop:=
 H b=none/\b≠X.env.locals/\b∉X.fs/\(b∈X.ex\/X.Z3.heap.objs.size<=b)/\(∀x c,X.env.cells.lookup x=some c->c≠b)/\∀p∈X.pn++pins,p.1≠b
def Inv.fpOk{X:Cx}{pins:SB}{J:St}{H H':Hp}{s:Shared}{b:Addr}(I:Inv X pins J H s)(F:s.heap.objs.size<=b)(S:H' b=none):fK X pins H' b:=by
 refine⟨S,UD (SW I.lt F),I.nofs F,.inr (S1 I.sz F),fun x c e z=>?_,fun p L z=>?_⟩
 .obtain⟨v,q⟩:=I.cell x c e;exact absurd (SW q.lt (by rw[z];exact F)) (Td _)
 .exact absurd (SW (Su (I.pin p L).1) (by rw[z];exact F)) (Td _)
structure Turn (P:Program) (w:World) (K:Frag) (tg:Expr) (Z7:It) (fp:Ś) (it:Addr) (tn:Nat->Heap->Prop):Prop where
 mem:it∈fp
 obj:∀i h,tn i h->∀b∈fp,∃o,h.get? b=some o/\∀v,o.data≠.cell v
 keep:∀i h h',tn i h->(∀b∈fp,∀o,h.get? b=some o->h'.get? b=some o)->tn i h'
 item:∀(X:Cx),X.prog=P->X.w=w->X.K=K->X.calm=true->∀(i:Nat) (pins:SB) (s:Shared) (J:St) (H:Hp) (E:QS),Inv X pins J H s->(∀b∈fp,fK X pins H b)->tn i s.heap->Z7.go i H->
  wpAny (model P w) X.A (pyNext<|.ref it) (fun r s1=>∃u,r=some u/\
   wpAny (model P w) X.A (letOwnedTupleGo tg (.ref it) u) (fun _ s2=>∃x H',Inv X pins J H' s2/\RelV x u/\Z7.yld i H x H'/\tn (i+1) s2.heap/\∀b∈fp,H' b=none) E s1) E s
 done:∀(X:Cx),X.prog=P->X.w=w->X.K=K->X.calm=true->∀(i:Nat) (pins:SB) (s:Shared) (J:St) (H:Hp) (E:QS),Inv X pins J H s->(∀b∈fp,fK X pins H b)->tn i s.heap->Z7.stop i H->
  wpAny (model P w) X.A (pyNext<|.ref it) (fun r s1=>r=none/\Inv X pins J H s1) E s
 self:∀(A:Around) (i:Nat) (s:Shared) (Q:QS) (E:QS),tn i s.heap->Q (.ref it) s->wpAny (model P w) A (pyIter<|.ref it) Q E s
abbrev TI:=St->Hp->(It->Hp->Prop)->Prop
def Ϲ(X:Cx)(pins:SB)(J:St)(tg:Expr)(R:It->Hp->Prop)(z:Value)(s2:Shared):Prop:=
 ∃(it:Addr) (fp:Ś) (tn:Nat->Heap->Prop) (Z7:It) (H':Hp),z=.ref it/\Inv X pins J H' s2/\Turn X.prog X.w X.K tg Z7 fp it tn/\tn 0 s2.heap/\(∀b∈fp,fK X pins H' b)/\R Z7 H'
def PI(X:Cx)(tg iter:Expr)(wi:TI):Prop:=
 ∀(pins:SB) (s:Shared) (J:St) (H:Hp) (R:It->Hp->Prop),Inv X pins J H s->wi J H R->
  wpAny (model X.prog X.w) X.A (eval iter X.env) (fun v s1=>wpAny (model X.prog X.w) X.A (pyIter v) (Ϲ X pins J tg R) X.xe s1) X.xe s
theorem vW{M:Model}{A:Around}{E:QS}{s:Shared}{tg:Expr}{it:Addr}{u:Value}{o:Obj}{n:String}{vs:Array Value}{Q:Unit->Shared->Prop}(F:s.heap.get? it=some o)(hc:o.cls=.type n)(hd:o.data=.fields vs)
  (S:["enumerate","zip","dict_itemiterator","dict_reverseitemiterator","odict_iterator","itertools.zip_longest","itertools.pairwise"].contains n=false) (z:Q () s):wpAny M A (letOwnedTupleGo tg (.ref it) u) Q E s:=by
 unfold letOwnedTupleGo;cases tg<;>first
  |exact Sk z
  |(cases u<;>first
    |exact Sk z
    |(refine Sj (wpAny_load F ?_);rw[hc,hd];show wpAny M A (if(["enumerate","zip","dict_itemiterator","dict_reverseitemiterator","odict_iterator","itertools.zip_longest","itertools.pairwise"].contains n&&vs[0]?==some (rawInt _))=true then _ else _) Q E s;rw[if_neg (by intro h;rw[S,VP] at h;cases h)];exact Sk z))
def Ϻ(K:Frag)(a:Addr):It:=
 ⟨fun i H=>∃xs x,WE K H a xs/\xs[i]?=some x,fun i H x H'=>H'=H/\∀xs,WE K H a xs->xs[i]?=some x,fun i H=>∃xs,WE K H a xs/\xs.length<=i⟩
def Ė(K:Frag)(a:Addr):It:=
 ⟨fun i H=>∃xs x,Wx K H a xs/\xs[i]?=some x,fun i H x H'=>H'=H/\∀xs,Wx K H a xs->xs[i]?=some x,fun i H=>∃xs,Wx K H a xs/\xs.length<=i⟩
def nY(lo:Int)(n:Nat):It:=⟨fun i _=>i<n,fun i H x H'=>H'=H/\x=.int (lo+i),fun i _=>n<=i⟩
theorem L5{P:Program}{w:World}{K:Frag}{tg:Expr}(a it:Addr):Turn P w K tg (Ϻ K a) [it] it (fun i h=>h.IsListIter it a i) where
 mem:=by simp
 obj:=fun i h st b hb=>by
  have e:b=it:=by simpa using hb
  subst e;obtain⟨o,e,c,d⟩:=st;exact⟨o,e,fun v z=>by rw[d] at z;cases z⟩
 keep:=fun i h h' st k=>st.at fun o e=>k it nofun o e
 item:=by intro X hP hw hK hc i pins s J H E I hf st hg;subst hP hw hK;obtain⟨xs,x,hq,hx⟩:=hg;obtain⟨its,rv,p,hz⟩:=I.list hq;obtain⟨u,hu,ru⟩:=rv.get hx;obtain⟨f0,f1,f2,f3,f4,f5⟩:=hf it nofun;refine(wpAny_pyNext_list_item st p.isList (x:=u) (by simpa using hu) fun h' Ys sb=>?_);have I1:Inv X pins J H {s with heap:=h'}:=I.turned (t':=s.toks) (fun b o hb e=>(sb.2 b hb).trans e) f0 f1 f3 f4 f5;obtain⟨o,e,c,d⟩:=id Ys;exact⟨u,rfl,vW (s:={s with heap:=h'}) e c d (by decide) ⟨x,H,I1,ru,⟨rfl,fun ys hy=>by rw[I.list_inj hy hq];exact hx⟩,Ys,fun b hb=>(hf b hb).1⟩⟩
 done:=by intro X hP hw hK hc i pins s J H E I hf st hg;subst hP hw hK;obtain⟨xs,hq,hx⟩:=hg;obtain⟨its,rv,p,hz⟩:=I.list hq;obtain⟨f0,f1,f2,f3,f4,f5⟩:=hf it nofun;have hl:=rv.length;exact wpAny_pyNext_list_end (I.ok.hd hc) st p.isList (by simp;omega) fun h' eb=>⟨rfl,I.turned (t':=s.toks) (fun b o hb e=>eb b o hb e) f0 f1 f3 f4 f5⟩
 self:=fun _ _ _ _ _ st h=>wpAny_pyIter_listiter st h
theorem Ra{P:Program}{w:World}{K:Frag}{tg:Expr}(a it:Addr):Turn P w K tg (Ė K a) [it] it (fun i h=>h.IsTupleIter it a i) where
 mem:=by simp
 obj:=fun i h st b hb=>by
  have e:b=it:=by simpa using hb
  subst e;obtain⟨o,e,c,d⟩:=st;exact⟨o,e,fun v z=>by rw[d] at z;cases z⟩
 keep:=fun i h h' st k=>st.at fun o e=>k it nofun o e
 item:=by intro X hP hw hK hc i pins s J H E I hf st hg;subst hP hw hK;obtain⟨xs,x,hq,hx⟩:=hg;obtain⟨its,rv,p,hz⟩:=I.tuple hq;obtain⟨u,hu,ru⟩:=rv.get hx;obtain⟨f0,f1,f2,f3,f4,f5⟩:=hf it nofun;refine(wpAny_pyNext_tuple_item st (show s.heap.IsTuple a its.toArray from p) (x:=u) (by simpa using hu) fun h' Ys sb=>?_);have I1:Inv X pins J H {s with heap:=h'}:=I.turned (t':=s.toks) (fun b o hb e=>(sb.2 b hb).trans e) f0 f1 f3 f4 f5;obtain⟨o,e,c,d⟩:=id Ys;exact⟨u,rfl,vW (s:={s with heap:=h'}) e c d (by decide) ⟨x,H,I1,ru,⟨rfl,fun ys hy=>by rw[I.tuple_inj hy hq];exact hx⟩,Ys,fun b hb=>(hf b hb).1⟩⟩
 done:=by intro X hP hw hK hc i pins s J H E I hf st hg;subst hP hw hK;obtain⟨xs,hq,hx⟩:=hg;obtain⟨its,rv,p,hz⟩:=I.tuple hq;obtain⟨f0,f1,f2,f3,f4,f5⟩:=hf it nofun;have hl:=rv.length;exact wpAny_pyNext_tuple_end (I.ok.hd hc) st (show s.heap.IsTuple a its.toArray from p) (by simp;omega) fun h' eb=>⟨rfl,I.turned (t':=s.toks) (fun b o hb e=>eb b o hb e) f0 f1 f3 f4 f5⟩
 self:=fun _ _ _ _ _ st h=>wpAny_pyIter_tupleiter st h
theorem CJ{P:Program}{w:World}{K:Frag}{tg:Expr}(it:Addr)(lo:Int)(n:Nat):Turn P w K tg (nY lo n) [it] it (fun i h=>IsRangeIter h it (lo+(i:Nat)*1) ((n:Int) - (i:Nat)) 1) where
 mem:=by simp
 obj:=fun i h st b hb=>by
  have e:b=it:=by simpa using hb
  subst e;exact⟨_,st,fun v z=>by have z':Data.fields _=Data.cell v:=z;cases z'⟩
 keep:=fun i h h' st k=>k it nofun _ st
 item:=by intro X hP hw hK hc i pins s J H E I hf st hg;subst hP hw hK;obtain⟨f0,f1,f2,f3,f4,f5⟩:=hf it nofun;have W:=Walks.range (prog:=X.prog) (w:=X.w) (I.ok.hd hc) it lo 1 n;refine(W.item i s _ _ hg st fun v h' tk hv Ys kk=>?_);obtain⟨t,rfl⟩:=hv;have I1:Inv X pins J H {s with heap:=h',toks:=tk}:=I.turned (fun b o hb e=>kk b o (by simpa using hb) e) f0 f1 f3 f4 f5;refine(⟨_,rfl,vW (s:={s with heap:=h',toks:=tk}) (n:="range_iterator") Ys rfl rfl (by decide) ⟨.int (lo+i),H,I1,⟨t,?_⟩,⟨rfl,rfl⟩,Ys,fun b hb=>(hf b hb).1⟩⟩);rw[Int.mul_one]
 done:=by intro X hP hw hK hc i pins s J H E I hf st hg;subst hP hw hK;obtain⟨f0,f1,f2,f3,f4,f5⟩:=hf it nofun;exact wpAny_pyNext_range_end (I.ok.hd hc) st (by have:n<=i:=hg;omega) fun h' eb=>⟨rfl,I.turned (t':=s.toks) (fun b o hb e=>eb b o hb e) f0 f1 f3 f4 f5⟩
 self:=fun _ _ _ _ _ st h=>wpAny_pyIter_rangeiter st h
section
variable {X:Cx} {tg:Expr}
def C9(K:Frag)(tl:TE):TI:=fun J H R=>tl J H fun x H1=>∃a,x=.ref a/\(∃xs,WE K H1 a xs)/\R (Ϻ K a) H1
def Dq(K:Frag)(tl:TE):TI:=fun J H R=>tl J H fun x H1=>∃a,x=.ref a/\(∃xs,Wx K H1 a xs)/\R (Ė K a) H1
theorem AQ{l:Expr}{tl:TE}(hl:PE X l tl):PI X tg l (C9 X.K tl):=by
 intro pins s J H R I h;refine V0 (hl pins s J H _ I h) fun v s1 S=>?_;obtain⟨x,H1,L,P,q1⟩:=S;obtain⟨a,e,⟨xs,F⟩,q⟩:=q1;subst e;cases P;obtain⟨z,rv,p,hz⟩:=L.list F;refine(Vy p.isList ?_);refine⟨s1.heap.objs.size,[s1.heap.objs.size],_,_,H1,rfl,L.kept (t':=s1.toks) fun b o e=>Sl _ e,L5 a _,⟨_,SA _ rfl,rfl,rfl⟩,fun b hb=>?_,q⟩;have e:b=s1.heap.objs.size:=by simpa using hb
 subst e;exact L.fpOk (Sm _) (L.hok.fresh<|Sm _)
theorem PK{l:Expr}{tl:TE}(hl:PE X l tl):PI X tg l (Dq X.K tl):=by
 intro pins s J H R I h;refine V0 (hl pins s J H _ I h) fun v s1 S=>?_;obtain⟨x,H1,L,z,q1⟩:=S;obtain⟨a,e,⟨xs,F⟩,q⟩:=q1;subst e;cases z;obtain⟨P,rv,p,hz⟩:=L.tuple F;refine(wpAny_pyIter_tuple (show s1.heap.IsTuple a P.toArray from p) ?_);refine⟨s1.heap.objs.size,[s1.heap.objs.size],_,_,H1,rfl,L.kept (t':=s1.toks) fun b o e=>Sl _ e,Ra a _,⟨_,SA _ rfl,rfl,rfl⟩,fun b hb=>?_,q⟩;have e:b=s1.heap.objs.size:=by simpa using hb
 subst e;exact L.fpOk (Sm _) (L.hok.fresh<|Sm _)
theorem v9{pins:SB}{J:St}{H:Hp}{s:Shared}{R:It->Hp->Prop}{E:QS}{lo hi:Int}{t u v:Tok}{tk:Nat}(I:Inv X pins J H s)(h1:-(2^62)<=lo)(S:lo<2^62)(F:-(2^62)<=hi)(z:hi<2^62)
  (q:R (nY lo (hi - lo).toNat) H):wpAny (model X.prog X.w) X.A (pyIter<|.ref s.heap.objs.size) (Ϲ X pins J tg R) E {s with heap:=s.heap.push {cls:=.type "range",data:=.fields #[.int lo t,.int hi u,.int 1 v]},toks:=tk}:=by
 refine wpAny_pyIter_range (IsRange.new ..) (small_one h1 S F z) ?_;have L:Inv X pins J H {s with heap:=s.heap.push {cls:=.type "range",data:=.fields #[.int lo t,.int hi u,.int 1 v]},toks:=tk}:=I.kept fun b o e=>Sl _ e;refine⟨(s.heap.push {cls:=.type "range",data:=.fields #[.int lo t,.int hi u,.int 1 v]}).objs.size,[(s.heap.push {cls:=.type "range",data:=.fields #[.int lo t,.int hi u,.int 1 v]}).objs.size],_,_,H,rfl,
  L.kept (t':=tk) fun b o e=>Sl _ e,CJ _ lo (hi - lo).toNat,?_,fun b P=>?_,q⟩
 .have e1:lo+((0:Nat):Int)*1=lo:=by simp
  have e2:(((hi - lo).toNat:Nat):Int) - ((0:Nat):Int)=Builtin.Range.rangeSize lo hi 1:=by rw[Vz];split<;>omega
  show IsRangeIter _ _ (lo+((0:Nat):Int)*1) ((((hi - lo).toNat:Nat):Int) - ((0:Nat):Int)) 1;rw[e1,e2];exact SA _ rfl
 .have e:b=(s.heap.push {cls:=.type "range",data:=.fields #[.int lo t,.int hi u,.int 1 v]}).objs.size:=by simpa using P
  subst e;exact L.fpOk (Sm _) (L.hok.fresh<|Sm _)
def DU(ta:TA):TI:=fun J H R=>ta J H fun vs H1=>∃j:Int,vs=[.int j]/\-(2^62)<=j/\j<2^62/\R (nY 0 j.toNat) H1
def C6(ta:TA):TI:=fun J H R=>ta J H fun vs H1=>∃i j:Int,vs=[.int i,.int j]/\(-(2^62)<=i/\i<2^62/\-(2^62)<=j/\j<2^62)/\R (nY i (j - i).toNat) H1
theorem Ql{a:Expr}{ta:TA}{p pos:Pos}(F:Gl X "range") (hm:X.mg "range"=none) (S:PA X [a] ta) (z:WX X a:=by rfl):PI X tg (.Call (.Name "range" p) [a] [] pos) (DU ta):=by
 intro pins s J H R I h;refine Call_ (jv I F hm boot_range<|Tx (V0 (S pos pins s J H _ I h) fun us s1 hm=>?_) z rfl);obtain⟨vs,H1,I1,P,q1⟩:=hm;obtain⟨j,e,q1,q2,q⟩:=q1;subst e;cases P with
 |cons r L=>
  cases L;obtain⟨t,rfl⟩:=r;exact(Vo<|v9 I1 ⋯ ⋯ q1 q2<|by simpa using q)
theorem O4{a b:Expr}{ta:TA}{p pos:Pos}(hg:Gl X "range") (hm:X.mg "range"=none) (ha:PA X [a,b] ta) (hs:YO X a b:=by rfl) (z:WX X b:=by rfl):
  PI X tg (.Call (.Name "range" p) [a,b] [] pos) (C6 ta):=by
 intro pins s J H R I h;refine Call_ (jv I hg hm boot_range<|Tx (V0 (ha pos pins s J H _ I h) fun us s1 hm=>?_) (Ym hs z)<|Φ z);obtain⟨vs,H1,I1,P,q1⟩:=hm;obtain⟨i,j,e,⟨q1,q2,q3,S⟩,q⟩:=q1;subst e;cases P with
 |cons r L=>
  cases L with
  |cons F L=>
   cases L;obtain⟨t,rfl⟩:=r;obtain⟨t',rfl⟩:=F;exact(call_range_2<|v9 I1 q1 q2 q3 S q)
def Im(wi:TI)(g:TG)(tb:TS):TS:=fun D J H=>wi J H fun Z7 H1=>∃W:Nat->Nat->St->Hp->Prop,(∃m,W 0 m J H1)/\∀i m J H,W i m J H->
 (Z7.stop i H/\D.nx J H)\/(Z7.go i H/\∃N:St->Hp->Prop,(∀P H',N P H'->∃L,L<m/\W (i+1) L P H')/\∀x H',Z7.yld i H x H'->g x J H' fun z F=>tb {D with nx:=N,ct:=N,bk:=D.nx} z F)
def k7(fp:Ś)(h:Heap):SB:=fp.filterMap fun b=>(h.get? b).map fun o=>(b,o)
theorem jP{fp:Ś}{h:Heap}{b:Addr}{o:Obj}(z:b∈fp)(e:h.get? b=some o):(b,o)∈k7 fp h:=UR.mpr ⟨b,z,by rw[e];rfl⟩
theorem EY{fp:Ś}{h:Heap}{p:Addr×Obj}(z:p∈k7 fp h):p.1∈fp/\h.get? p.1=some p.2:=by
 obtain⟨b,H,e⟩:=UR.mp z;cases q:h.get? b with
 |none=>rw[q] at e;cases e
 |some o=>
  rw[q] at e;have J:(b,o)=p:=SY e;subst J;exact⟨H,q⟩
theorem Inv.pinned{pins:SB}{J:St}{H:Hp}{s:Shared}{fp:Ś}(I:Inv X pins J H s)(hf:∀b∈fp,fK X pins H b)(S:∀b∈fp,∃o,s.heap.get? b=some o/\∀v,o.data≠.cell v):Inv X (pins++k7 fp s.heap) J H s:=
 I.pins_of fun p F=>(S8.mp F).elim (fun z=>I.pin p<|SD _ z) fun z=>by obtain⟨L,e⟩:=EY z;obtain⟨f0,f1,f2,_⟩:=hf p.1 L;obtain⟨o,P,d⟩:=S p.1 L;rw[e] at P;cases P;exact⟨e,f0,f1,f2,d⟩
theorem Inv.unpinned{pins pl:SB}{J:St}{H:Hp}{s:Shared}(I:Inv X (pins++pl) J H s):Inv X pins J H s:=I.pins_of fun p L=>I.pin p (SD _<|UB _ L)
theorem Ci{iter:Expr}{body:ţ}{wi:TI}{g:TG}{tb:TS}{pos:Pos}(hp:PassesOwn (model X.prog X.w) X.A X.env X.xe)(hc:X.calm=true)(hi:PI X tg iter wi)(hg:PG X tg g)(z:Wo X body tb)
  (hs:YN X iter:=by intro _;rfl):PS X (.For tg iter body [] pos) (Im wi g tb):=by
 intro pins s J H D I h;refine wpAny_For (V0 (hi pins s J H _ I h) fun v s1 h1=>V0 h1 fun θ s2 h2=>?_) hs;obtain⟨it,fp,tn,Z7,H2,e,I2,T,YS,f2,W,⟨m0,w0⟩,turn⟩:=h2;subst e;have L:∀{H':Hp},(∀b∈fp,H' b=none)->∀b∈fp,fK X pins H' b:=fun hn b z=>⟨hn b z,(f2 b z).2⟩
 refine codeAny_forLoop_any (fun n s'=>∃i Z0 H',Inv X pins Z0 H' s'/\tn i s'.heap/\(∀b∈fp,H' b=none)/\W i n Z0 H') ?_ m0 ⟨0,J,H2,I2,YS,fun b z=>(f2 b z).1,w0⟩;rintro n s3 ⟨i,ZI,H3,I3,Xp,Ϝ,w3⟩;rcases turn i n ZI H3 w3 with⟨stop,qn⟩|⟨go,N,hN,step⟩
 .refine Uj hp (V0 (T.done X rfl rfl rfl hc i pins s3 ZI H3 X.xe I3 (L Ϝ) Xp stop) fun r s4 ⟨hr,I4⟩=>?_);subst hr;exact Vf ⟨ZI,H3,I4,qn⟩
 .refine Uj hp (V0 (T.item X rfl rfl rfl hc i pins s3 ZI H3 X.xe I3 (L Ϝ) Xp go) fun r s4 ⟨u,hr,h4⟩=>?_);subst hr;refine Uj hp (V0 h4 fun _ s5 hm=>?_);obtain⟨x,H5,I5,r5,y5,rk,Ď⟩:=hm;have I5':=I5.pinned (L Ď) (T.obj _ _ rk);refine(Uj hp<|V0 (hg _ s5 ZI H5 x u _ I5' r5<|step x H5 y5) fun _ s6 hm=>?_);obtain⟨Zr,H6,I6,q6⟩:=hm;refine(Uj hp<|V0 (z _ s6 Zr H6 _ I6 q6) fun f s7 q7=>?_);have again:∀{P:St} {S:Hp},Inv X (pins++k7 fp s5.heap) P S s7->N P S->∃m,m<n/\∃i Z0 H',Inv X pins Z0 H' s7/\tn i s7.heap/\(∀b∈fp,H' b=none)/\W i m Z0 H':=fun{P S} F n7=>by
   obtain⟨m',hm,w7⟩:=hN P S n7;refine(⟨m',hm,i+1,P,S,F.unpinned,T.keep _ _ _ rk fun b z o e=>(F.pin (b,o)<|SD _<|SD _<|jP z e).1,fun b z=>?_,w7⟩);obtain⟨o,e,d⟩:=T.obj _ _ rk b z;exact((F.pin (b,o)<|SD _<|SD _<|jP z e).2.1)
  cases f with
  |next=>obtain⟨P,S,F,n7⟩:=q7;exact again F n7
  |cont=>obtain⟨P,S,F,n7⟩:=q7;exact again F n7
  |brk=>obtain⟨P,S,F,q7⟩:=q7;exact⟨P,S,F.unpinned,q7⟩
  |ret v=>obtain⟨x7,P,S,F,r7,q7⟩:=q7;exact⟨x7,P,S,F.unpinned,r7,q7⟩
end
abbrev R2:=V->V->Hp->VK->Prop
def Wh(X:Cx)(f:Value->Value->Sem Value)(r:R2):Prop:=
 ∀(pins:SB) (s:Shared) (J:St) (H:Hp) (x y:V) (v u:Value) (Q:VK),Inv X pins J H s->RelV x v->RelV y u->r x y H Q->
  wpAny (model X.prog X.w) X.A (f v u) (EP X pins J Q) X.xe s
def đ(X:Cx)(f:Value->Sem Value)(r:V->Hp->VK->Prop):Prop:=
 ∀(pins:SB) (s:Shared) (J:St) (H:Hp) (x:V) (v:Value) (Q:VK),Inv X pins J H s->RelV x v->r x H Q->
  wpAny (model X.prog X.w) X.A (f v) (EP X pins J Q) X.xe s
def iE(X:Cx)(f:Value)(r:ŗ->Hp->VK->Prop):Prop:=
 ∀(pins:SB) (s:Shared) (J:St) (H:Hp) (xs:ŗ) (us:Œ) (Q:VK),Inv X pins J H s->Vals xs us->r xs H Q->
  wpAny (model X.prog X.w) X.A (call f us) (EP X pins J Q) X.xe s
def HN(X:Cx)(r:V->Hp->(Bool->Hp->Prop)->Prop):Prop:=
 ∀(pins:SB) (s:Shared) (J:St) (H:Hp) (x:V) (v:Value) (Q:Bool->Hp->Prop),Inv X pins J H s->RelV x v->r x H Q->
  wpAny (model X.prog X.w) X.A (truthy v) (TP X pins J Q) X.xe s
def ql(r:R2)(ta tb:TE):TE:=fun J H Q=>ta J H fun x H1=>tb J H1 fun y L=>r x y L Q
def X'(r:V->Hp->VK->Prop)(ta:TE):TE:=fun J H Q=>ta J H fun x H1=>r x H1 Q
def rI(C:Int->Int->Prop)(g:Int->Int->V):R2:=fun x y H Q=>∃i j,x=.int i/\y=.int j/\C i j/\Q (g i j) H
def fx(g:Int->Int->V):R2:=fun x y H Q=>∃i j,x=.int i/\y=.int j/\Q (g i j) H
def rU(g:Int->V):V->Hp->VK->Prop:=fun x H Q=>∃i,x=.int i/\Q (g i) H
section
variable {X:Cx} {a b:Expr} {ta tb:TE} {pos:Pos}
theorem wc(ha:PE X a ta)(S:PE X b tb){pins:SB}{s:Shared}{J:St}{H:Hp}{R:V->V->Hp->Prop}(I:Inv X pins J H s)
  (h:ta J H fun x H1=>tb J H1 fun y z=>R x y z) {Q:QS} {f:Value->Value->Sem Value}
  (hf:∀v u s2 x y z,Inv X pins J z s2->RelV x v->RelV y u->R x y z->wpAny (model X.prog X.w) X.A (f v u) Q X.xe s2):
  wpAny (model X.prog X.w) X.A (eval a X.env) (fun v ZU=>wpAny (model X.prog X.w) X.A (eval b X.env) (fun u ZK=>wpAny (model X.prog X.w) X.A (f v u) Q X.xe ZK) X.xe ZU) X.xe s:=by
 refine V0 (ha pins s J H _ I h) fun v s1 L=>?_;obtain⟨x,H1,I1,F,q1⟩:=L;refine(V0 (S pins s1 J H1 _ I1 q1) fun u s2 L=>?_);obtain⟨y,z,I2,P,q2⟩:=L;exact(hf v u s2 x y z I2 F P q2)
theorem JF{op:Operator}{r:R2}(z:Wh X (binaryOp op) r)(S:PE X a ta)(F:PE X b tb):PE X (.BinOp a op b pos) (ql r ta tb):=by intro pins s J H Q I h;exact wpAny_BinOp (wc S F I h fun v u s2 x y H2 I2 P L q=>z pins s2 J H2 x y v u Q I2 P L q)
theorem zX{op:UnaryOp}{r:V->Hp->VK->Prop}(z:đ X (unaryOp op) r)(F:PE X a ta):PE X (.UnaryOp op a pos) (X' r ta):=by intro pins s J H Q I h;exact UnaryOp_ (V0 (F pins s J H _ I h) fun v s1 ⟨x,S,P,L,q1⟩=>z pins s1 J S x v Q P L q1)
theorem ϫ{f:Value->Value->Sem Value}{C:Int->Int->Prop}{g:Int->Int->Int}
  (rule:∀(i j:Int) (t u:Tok) (s:Shared) (Q:QS) (E:QS),C i j->Q (.int (g i j) s.toks) {s with toks:=s.toks+1}->wpAny (model X.prog X.w) X.A (f (.int i t)<|.int j u) Q E s):
  Wh X f (rI C fun i j=>.int<|g i j):=by
 intro pins s J H x y v u Q I z P h;obtain⟨i,j,rfl,rfl,F,q⟩:=h;obtain⟨t,rfl⟩:=z;obtain⟨L,rfl⟩:=P;exact(rule i j t L s _ _ F ⟨.int (g i j),H,I.tok _,⟨_,rfl⟩,q⟩)
theorem BM{f:Value->Value->Sem Value}{g:Int->Int->Int}
  (rule:∀(i j:Int) (t u:Tok) (s:Shared) (Q:QS) (E:QS),Q (.int (g i j) s.toks) {s with toks:=s.toks+1}->wpAny (model X.prog X.w) X.A (f (.int i t)<|.int j u) Q E s):
  Wh X f (fx fun i j=>.int<|g i j):=by
 intro pins s J H x y v u Q I z P h;obtain⟨i,j,rfl,rfl,q⟩:=h;obtain⟨t,rfl⟩:=z;obtain⟨L,rfl⟩:=P;exact(rule i j t L s _ _ ⟨.int (g i j),H,I.tok _,⟨_,rfl⟩,q⟩)
theorem uM{f:Value->Value->Sem Value}{g:Int->Int->Bool}
  (rule:∀(i j:Int) (t u:Tok) (s:Shared) (Q:QS) (E:QS),Q (.bool<|g i j) s->wpAny (model X.prog X.w) X.A (f (.int i t)<|.int j u) Q E s):
  Wh X f (fx fun i j=>.bl<|g i j):=by
 intro pins s J H x y v u Q I z P h;obtain⟨i,j,rfl,rfl,q⟩:=h;obtain⟨t,rfl⟩:=z;obtain⟨L,rfl⟩:=P;exact(rule i j t L s _ _ ⟨.bl (g i j),H,I,rfl,q⟩)
def jZ(i j:Int):Prop:=0<=j/\j<=1000000/\i.natAbs<2^64
def XR(i j:Int):Prop:=(-(2^64)<i/\i<2^64)\/(-(2^64)<j/\j<2^64)
theorem XR.ok{i j:Int}(h:XR i j):IntMulOk i j:=by
 rcases h with⟨J,H⟩|⟨J,H⟩
 .exact .of_left (intBits_le_64 J H)
 .exact .of_right (intBits_le_64 J H)
theorem δ:Wh X (binaryOp .Add) (fx fun i j=>.int<|i+j):=BM fun _ _ _ _ _ _ _ q=>add_int q
theorem Hr:Wh X (binaryOp .Sub) (fx fun i j=>.int<|i - j):=BM fun _ _ _ _ _ _ _ q=>sub_int q
theorem zP:Wh X (binaryOp .Mult) (rI XR fun i j=>.int<|i*j):=ϫ fun _ _ _ _ _ _ _ H q=>mul_int q H.ok
theorem J1:Wh X (binaryOp .Mod) (rI (fun _ j=>0<j) fun i j=>.int<|i%j):=ϫ fun i j _ _ _ _ _ H q=>by have J:(0:Int)<j:=H;exact mod_int' ⋯ (by rw[Int.fmod_eq_emod_of_nonneg i ⋯];exact q)
theorem Op:Wh X (binaryOp .Pow) (rI jZ fun i j=>.int<|i^j.toNat):=ϫ fun _ _ _ _ _ _ _ H q=>pow_int_small H.1 H.2.1 H.2.2 q
theorem U'{f:Value->Sem Value}{g:Int->Int}
  (rule:∀(i:Int) (t:Tok) (s:Shared) (Q:QS) (E:QS),Q (.int (g i) s.toks) {s with toks:=s.toks+1}->wpAny (model X.prog X.w) X.A (f<|.int i t) Q E s):
  đ X f (rU fun i=>.int<|g i):=by
 intro pins s J H x v Q I L h;obtain⟨i,rfl,q⟩:=h;obtain⟨t,rfl⟩:=L;exact(rule i t s _ _ ⟨.int (g i),H,I.tok _,⟨_,rfl⟩,q⟩)
theorem Ag:đ X (unaryOp .USub) (rU fun i=>.int<|-i):=U' fun _ _ _ _ _ q=>neg_int q
end
section
variable {X:Cx} {a b c:Expr} {ta tb tc:TE} {pos:Pos}
theorem xp{pins:SB}{J:St}{H:Hp}{s:Shared}{Q:VK}{k z:Bool}(I:Inv X pins J H s)(q:Q (.bl k) H)(e:k=z):EP X pins J Q (.bool z) s:=by subst e;exact⟨.bl k,H,I,rfl,q⟩
theorem nX:Wh X (compareOp .Lt) (fx fun i j=>.bl<|decide (i<j)):=uM fun _ _ _ _ _ _ _ q=>lt_int q
theorem uA:Wh X (compareOp .LtE) (fx fun i j=>.bl<|decide (i<=j)):=uM fun _ _ _ _ _ _ _ q=>le_int q
theorem G9:Wh X (compareOp .Gt) (fx fun i j=>.bl<|decide (j<i)):=uM fun _ _ _ _ _ _ _ q=>gt_int q
theorem EG:Wh X (compareOp .Is) (fun x y H Q=>y=.non/\Q (.bl<|decide (x=.non)) H):=by
 intro pins s J H x y v u Q I L P h;obtain⟨rfl,q⟩:=h;cases P;refine(is_none_gen<|xp I q ?_);cases x<;>first
  |(cases L;rfl)
  |(obtain⟨t,rfl⟩:=L;rfl)
theorem EN:Wh X (compareOp .IsNot) (fun x y H Q=>y=.non/\Q (.bl<|!decide (x=.non)) H):=by
 intro pins s J H x y v u Q I L P h;obtain⟨rfl,q⟩:=h;cases P;refine(isnot_none_gen<|xp I q ?_);cases x<;>first
  |(cases L;rfl)
  |(obtain⟨t,rfl⟩:=L;rfl)
theorem Wh.or{f:Value->Value->Sem Value}{r z:R2}(h:Wh X f r)(h':Wh X f z):Wh X f (fun x y H Q=>r x y H Q\/z x y H Q):=by
 intro pins s J H x y v u Q I P L q;rcases q with q|q
 .exact h pins s J H x y v u Q I P L q
 .exact h' pins s J H x y v u Q I P L q
theorem jX(b:Expr)(h:op≠.In:=by decide)(z:op≠.NotIn:=by decide):behindInMarks op b=false:=by
 have e1:(op==CmpOp.In)=false:=by cases op<;>first|rfl|exact absurd rfl h
 have H:(op==CmpOp.NotIn)=false:=by cases op<;>first|rfl|exact absurd rfl z
 cases b<;>simp[behindInMarks,e1,H]
theorem N7{op:CmpOp}{r:R2}(z:Wh X (compareOp op) r)(S:PE X a ta)(F:PE X b tb)(hm:behindInMarks op b=false):PE X (.Compare a [op] [b] pos) (ql r ta tb):=by intro pins s J H Q I h;exact wpAny_Compare1 (wc S F I h fun v u s2 x y H2 I2 P L q=>z pins s2 J H2 x y v u Q I2 P L q) hm
def qX(t:TE):TT:=fun J H Q=>t J H fun x H'=>∃k,x=.bl k/\Q k H'
theorem zg{op:CmpOp}{r:R2}(ho:Wh X (compareOp op) r)(ha:PE X a ta)(hb:PE X b tb)(hm:behindInMarks op b=false):PT X (.Compare a [op] [b] pos) (qX<|ql r ta tb):=by
 intro pins s J H Q I h;refine wpAny_isTrue_Compare1 (V0 (ha pins s J H _ I h) fun v s1 ⟨x,H1,I1,F,q1⟩=>V0 (hb pins s1 J H1 _ I1 q1) fun u s2 ⟨y,H2,I2,P,q2⟩=>
  V0 (ho pins s2 J H2 x y v u _ I2 F P q2) fun c s3 ⟨z,H3,I3,L,k,e,S⟩=>?_) hm
 subst e;cases L;exact Ts ⟨H3,I3,S⟩
def xE(r F:R2)(ta tb tc:TE):TE:=fun J H Q=>ta J H fun x H1=>tb J H1 fun y H2=>r x y H2 fun z L=>∃k,z=.bl k/\
 (if k=true then tc J L fun P S=>F y P S Q else Q (.bl false) L)
theorem GU{op F:CmpOp}{r r':R2}(ho:Wh X (compareOp op) r)(S:Wh X (compareOp F) r')(ha:PE X a ta)(hb:PE X b tb)(hc:PE X c tc)
  (hm:lastMarks [op,F] [b,c]=false:=by with_unfolding_all rfl):PE X (.Compare a [op,F] [b,c] pos) (xE r r' ta tb tc):=by
 intro pins s J H Q I h;refine Compare_chain (V0 (ha pins s J H _ I h) fun v s1 ⟨x,H1,I1,r1,q1⟩=>chain_link (V0 (hb pins s1 J H1 _ I1 q1) fun u s2 ⟨y,H2,I2,L,q2⟩=>
  V0 (ho pins s2 J H2 x y v u _ I2 r1 L q2) fun d s3 ⟨z,H3,I3,r3,k,e,P⟩=>?_)) hm
 subst e;cases r3;refine Ts ?_;cases k with
 |false=>exact ite_ff ⟨.bl false,H3,I3,rfl,P⟩|true=>exact ite_tt (chain_last<|V0 (hc pins s3 J H3 _ I3 P) fun w' s4 ⟨z',H4,I4,r4,q4⟩=>S pins s4 J H4 y z' u w' Q I4 L r4 q4)
theorem RH{op F:CmpOp}{r r':R2}(ho:Wh X (compareOp op) r)(S:Wh X (compareOp F) r')(ha:PE X a ta)(hb:PE X b tb)(hc:PE X c tc)
  (hm:lastMarks [op,F] [b,c]=false:=by with_unfolding_all rfl):PT X (.Compare a [op,F] [b,c] pos) (qX<|xE r r' ta tb tc):=by
 intro pins s J H Q I h;refine isTrue_chain (V0 (ha pins s J H _ I h) fun v s1 ⟨x,H1,I1,r1,q1⟩=>test_link (V0 (hb pins s1 J H1 _ I1 q1) fun u s2 ⟨y,H2,I2,L,q2⟩=>
  V0 (ho pins s2 J H2 x y v u _ I2 r1 L q2) fun d s3 ⟨z,H3,I3,r3,k,e,P⟩=>?_)) hm
 subst e;cases r3;refine Ts ?_;cases k with
 |false=>
  obtain⟨k',e',q'⟩:=P;cases e';exact ite_ff ⟨H3,I3,q'⟩
 |true=>
  refine ite_tt (test_last<|V0 (hc pins s3 J H3 _ I3 P) fun w' s4 ⟨z',H4,I4,r4,q4⟩=>V0 (S pins s4 J H4 y z' u w' _ I4 L r4 q4) fun d' s5 hm=>?_);obtain⟨z2,H5,I5,r5,k2,e2,q5⟩:=hm;subst e2;cases r5;exact(Ts ⟨H5,I5,q5⟩)
def uB(K:Frag)(x:V)(H:Hp)(k:Bool):Prop:=
 match x with
 | .non=>k=false| .bl b=>k=b| .int i=>k=(i !=0)| .str y=>y.length<=sizeLine/\k=((y.length:Int) !=0)| .byt y=>y.size<=sizeLine/\k=((y.size:Int) !=0)| .ref p=>(∃xs,WE K H p xs/\k=!xs.isEmpty)\/(∃xs,Wx K H p xs/\k=!xs.isEmpty)\/∃kvs,H p=some (.dK kvs)/\k=!kvs.isEmpty|_=>False
theorem NP{κ:Type}{kvs:List (κ×V)}{vs:List (κ×Value)}(r:KV kvs vs):(!vs.isEmpty)=!kvs.isEmpty:=by cases r<;>rfl
theorem Ch{xs:ŗ}{its:Œ}(r:Vals xs its):(!its.toArray.isEmpty)=!xs.isEmpty:=by cases r<;>simp
theorem mV:(sizeLine:Nat)<2^63:=by rw[Uc];decide
theorem Nu:HN X (fun x H Q=>∃k,uB X.K x H k/\Q k H):=by
 intro pins s J H x v Q I z h;obtain⟨k,e,q⟩:=h;have hl:=mV;have hs:sizeLine=16777216:=Uc;cases x with
 |non=>
  cases z;have L:k=false:=e;subst L;exact truthy_none ⟨H,I,q⟩
 |bl b=>
  cases z;have L:k=b:=e;subst L;exact Ts ⟨H,I,q⟩
 |int i=>
  obtain⟨t,rfl⟩:=z;have L:k=(i !=0):=e;subst L;exact PySem.P.truthy_int ⟨H,I,q⟩
 |str y=>
  obtain⟨t,rfl⟩:=z;obtain⟨hy,L⟩:y.length<=sizeLine/\k=((y.length:Int) !=0):=e;subst L;exact PySem.P.truthy_str ⋯ ⟨H,I.tok _,q⟩
 |byt y=>
  obtain⟨t,rfl⟩:=z;obtain⟨hy,L⟩:y.size<=sizeLine/\k=((y.size:Int) !=0):=e;subst L;exact PySem.W.truthy_bytes ⋯ ⟨H,I.tok _,q⟩
 |ref p=>
  cases z;have L:(∃xs,WE X.K H p xs/\k=!xs.isEmpty)\/(∃xs,Wx X.K H p xs/\k=!xs.isEmpty)\/∃kvs,H p=some (.dK kvs)/\k=!kvs.isEmpty:=e;rcases L with⟨xs,F,L⟩|⟨xs,F,L⟩|⟨kvs,F,L⟩
  .subst L;obtain⟨S,r,pl,hz⟩:=I.list F;have hlen:=r.length;exact wpAny_truthy_list pl.isList (by simp only[SF];omega) ⟨H,I.tok _,by rw[Ch r];exact q⟩
  .subst L;obtain⟨S,r,pl,hz⟩:=I.tuple F;have hlen:=r.length;exact truthy_tuple pl (by simp only[SF];omega) ⟨H,I.tok _,by rw[Ch r];exact q⟩
  .subst L;obtain⟨hz,hS,vs,r,m⟩:kvs.length<=sizeLine/\(p==sysModules)=false/\∃vs,KV kvs vs/\s.heap.DictOf (gU X.prog X.w) p vs:=I.hok p _ F;have hlen:kvs.length=vs.length:=UN r;exact wpAny_truthy_dict hS m ⋯ ⟨H,I.tok _,by rw[NP r];exact q⟩
 |_=>exact(show False from e).elim
theorem Fh(z:PE X a ta)(he:∀whole,isTrue a X.env whole=(do let v ←whole;standAt a.pos;holding [v] (truthy v))):
  PT X a (fun J H Q=>ta J H fun x H'=>∃k,uB X.K x H' k/\Q k H'):=by
 intro pins s J H Q I h;exact isTrue_plain (V0 (z pins s J H _ I h) fun v s1 ⟨x,F,P,L,q1⟩=>Nu pins s1 J F x v Q P L q1) (he _)
theorem kr{x:V}{us:Œ}(r:Vals [x] us):∃u,us=[u]/\RelV x u:=by
 cases r with
 |cons J H=>cases H;exact⟨_,rfl,J⟩
theorem qH{x y:V}{us:Œ}(r:Vals [x,y] us):∃u z,us=[u,z]/\RelV x u/\RelV y z:=by
 cases r with
 |cons P L=>
  cases L with
  |cons J H=>cases H;exact⟨_,_,rfl,P,J⟩
theorem Fq(z:X.calm=true):iE X (.builtin "max") (fun xs H Q=>∃i j,xs=[.int i,.int j]/\Q (.int<|if j>i then j else i) H):=by
 intro pins s J H xs F Q I r h;obtain⟨i,j,rfl,q⟩:=h;obtain⟨u,P,rfl,⟨t,rfl⟩,⟨S,rfl⟩⟩:=qH r;refine(max_two_ints (I.ok.hd z) fun h' tk k=>⟨_,H,I.kept k,?_,q⟩);by_cases L:j>i
 .rw[if_pos L,if_pos L];exact⟨_,rfl⟩
 .rw[if_neg L,if_neg L];exact⟨_,rfl⟩
theorem GQ(z:X.calm=true):iE X (.builtin "min") (fun xs H Q=>∃i j,xs=[.int i,.int j]/\Q (.int<|if j<i then j else i) H):=by
 intro pins s J H xs F Q I r h;obtain⟨i,j,rfl,q⟩:=h;obtain⟨u,P,rfl,⟨t,rfl⟩,⟨S,rfl⟩⟩:=qH r;refine(min_two_ints (I.ok.hd z) fun h' tk k=>⟨_,H,I.kept k,?_,q⟩);by_cases L:j<i
 .rw[if_pos L,if_pos L];exact⟨_,rfl⟩
 .rw[if_neg L,if_neg L];exact⟨_,rfl⟩
theorem Ik:iE X (.type "int") (fun xs H Q=>(∃i,xs=[.int i]/\Q (.int i) H)\/∃k,xs=[.bl k]/\Q (.int<|if k then 1 else 0) H):=by
 intro pins s J H xs P Q I r h;rcases h with⟨i,rfl,q⟩|⟨k,rfl,q⟩
 .obtain⟨u,rfl,t,rfl⟩:=kr r;exact call_int_int ⟨.int i,H,I,⟨_,rfl⟩,q⟩
 .obtain⟨u,rfl,L⟩:=kr r;cases L;exact call_int_bool ⟨.int (if k then 1 else 0),H,I.tok _,⟨_,rfl⟩,q⟩
end
structure YF (h:Heap) (x dx C:Addr) (mA:œ):Prop where
 obj:h.get? x=some (PySem.W.instObj C dx)
 ns:h.Ns1 dx mA
 ne:dx≠x
def K6{h:Heap}{dx:Addr}{mA:œ}(n:h.Ns1 dx mA):∃od,h.get? dx=some od/\∀name,PySem.W.lookIn name od=some (mA name):=by
 obtain⟨o,es,ep,L,hd,P,_,hm⟩:=n;refine(⟨o,L,fun name=>?_⟩);have e:=hm name;unfold nsFind findBy at e;rw[←Array.find?_toList] at e;unfold PySem.W.lookIn;rw[hd];dsimp only;split
 .rename_i y q;rw[q] at e;exact congrArg some e
 .rename_i q;rw[q] at e;have a:es.toList.any (·.refKey)=false:=by
   rw[U2];intro y J;obtain⟨z,t,H⟩:=P y (Array.mem_toList_iff.mp J);simp[DictEntry.refKey,H]
  have F:¬es.toList.any (·.refKey)=true:=by rw[a];exact Tn
  rw[if_neg F];exact congrArg some e
def YF.look{h:Heap}{x dx C:Addr}{mA:œ}(I:YF h x dx C mA):∃od,PySem.W.InstAt h x (PySem.W.instObj C dx) C (some od)/\∀name,PySem.W.lookIn name od=some (mA name):=
 let ⟨od,H,J⟩:=K6 I.ns
 ⟨od,⟨I.obj,rfl,rfl,H⟩,J⟩
section
variable {prog:Program} {w:World} {A:Around} {E:QS} {s:Shared} {K:Frag} {x dx C f:Addr} {mA:œ} {name:Str} {v:Value}
theorem JK{expr:Bool}{Q:QS}(X:K.In s.heap)(I:YF s.heap x dx C mA)(hg:PySem.W.plainGet K C name=true)(S:PySem.W.hasDictIn K C=true)
  (ha:findIn K (.ref C) name=some none) (F:mA name=some v) (z:PySem.W.handedIn v=true) (h:Q v {s with toks:=s.toks+1}):
  wpAny (model prog w) A (getAttr (.ref x) name expr) Q E s:=by
 obtain⟨od,Z7,H⟩:=I.look;exact(PySem.W.get_value X Z7 (Vl hg).1 (PySem.W.findObj_own S ha rfl (by rw[H,F])) z h)
theorem O2{pl:Sem Bool}{Q:Value×Œ->Shared->Prop}(X:K.In s.heap)(I:YF s.heap x dx C mA)(z:PySem.W.plainGet K C name=true)
  (hf:findIn K (.ref C) name=some (some<|.ref f)) (S:isFn K (.ref f)=true) (F:mA name=none) (h:Q (.ref f,[.ref x]) s):
  wpAny (model prog w) A (getMethod (.ref x) name pl) Q E s:=by
 obtain⟨od,Z7,H⟩:=I.look;exact PySem.W.method_fn X Z7 (Vl z).1 (Vl z).2 hf (beq_iff_eq.mp S) (by show(PySem.W.lookIn name od).map (·.isSome)=some false;rw[H,F];rfl) h
theorem K0{ns:Ŗ}{Q:Unit->Shared->Prop}(X:K.In s.heap)(I:YF s.heap x dx C mA)
  (hs:findIn K (.ref C) "__setattr__"=some (some<|.builtin "object.__setattr__")) (hp:PySem.W.plainOver K C=true) (ht:PySem.W.takerIn K C name=some none) (hh:PySem.W.hasDictIn K C=true)
  (hw:PySem.Within mA ns) (hsz:ns.length<=sizeLine)
  (h:∀h',YF h' x dx C (fun y=>if y=name then some v else mA y)->Heap.SameBut dx s.heap h'->Q () {s with heap:=h',toks:=s.toks+2}):
  wpAny (model prog w) A (setAttr (.ref x) name v) Q E s:=by
 obtain⟨od,Z7,hl⟩:=I.look;refine(PySem.W.set_plain X Z7 hs<|PySem.W.osa_open (s:={s with toks:=s.toks+1}) (r:=none) X Z7 hp ht fun b=>?_);obtain⟨cd,hc,z⟩:=PySem.W.any_some hh;have S:s.heap.get? x=some ⟨.ref C,some dx,.plain,#[]⟩:=I.obj;refine(Sj<|Sk<|Sj<|Sj<|wpAny_loadPart S<|Sj<|PySem.W.Looks.here (s:={s with toks:=s.toks+1}) (PySem.W.looks_clsIn X hc) ?_);rw[z];refine Sk (a:=some dx) (Sj<|Sk<|Sj ?_);refine wpAny_nsSet1 (s:={s with toks:=s.toks+1}) I.ns fun h' J H=>?_;obtain⟨oD,esD,epD,L,P,F⟩:=J.count (PySem.Within.cons name v hw);refine Sj (wpAny_lookBehind L (by rw[P];exact pastItsLine_dict (S1 F (by rw[SO];omega))) ?_);exact Sk (h _ ⟨(H.2 _<|Ne.symm I.ne).trans I.obj,J,I.ne⟩ H)
theorem Nv(X:K.In s.heap)(hm:PySem.W.makesIn K C=true)
  (hi:findIn K (.ref C) "__init__"=some (some<|.ref f)) (hf:PySem.W.typeIn K (.ref f)=some (.type "function"))
  (h:codeAny (model prog w) (A.under<|.builtin "type.__call__" ⟨.ref C::vs,kw⟩) (.call (.ref f) ⟨.ref (s.heap.objs.size+1)::vs,kw⟩) (PySem.W.InitBack (s.heap.objs.size+1) R)
   {s with heap:=(s.heap.push PySem.W.emptyDict).push (PySem.W.instObj C s.heap.objs.size)}):
  codeAny (model prog w) A (.call (.ref C) ⟨vs,kw⟩) R s:=by
 obtain⟨H,g,d,t,os⟩:=s;exact(PySem.W.make_core (PySem.W.makes_of X hm) (PySem.W.looks_findIn X hi) (fun self=>PySem.W.bind_fn X self hf) (.inl rfl) h)
end
def fY(f:Str)(v:V):Ş->Ş
 | []=>[(f,v)]|(g,x)::r=>if g=f then(g,v)::r else(g,x)::fY f v r
theorem By(f g:Str)(v:V):∀fs:Ş,(fY f v fs).lookup g=if g=f then some v else fs.lookup g
 | []=>by
  show List.lookup g [(f,v)]=_;by_cases h:g=f
  .have H:(g==f)=true:=beq_iff_eq.mpr h;simp only[List.lookup,H,if_pos h]
  .have H:(g==f)=false:=beq_eq_false_iff_ne.mpr h;simp only[List.lookup,H,if_neg h]
 |(k,x)::r=>by
  have L:=By f g v r;rw[show fY f v ((k,x)::r)=(if k=f then(k,v)::r else(k,x)::fY f v r) from rfl];by_cases J:k=f
  .rw[if_pos J];by_cases h:g=k
   .have H:(g==k)=true:=beq_iff_eq.mpr h;simp only[List.lookup,H,if_pos (h.trans J)]
   .have H:(g==k)=false:=beq_eq_false_iff_ne.mpr h;simp only[List.lookup,H,if_neg (fun e:g=f=>h<|e.trans J.symm)]
  .rw[if_neg J];by_cases h:g=k
   .have H:(g==k)=true:=beq_iff_eq.mpr h;simp only[List.lookup,H,if_neg (fun e:g=f=>J<|h.symm.trans e)]
   .have H:(g==k)=false:=beq_eq_false_iff_ne.mpr h;simp only[List.lookup,H];exact L
theorem ug(f:Str)(v:V):∀fs:Ş,f∈(fY f v fs).map (·.1)/\∀g,g∈fs.map (·.1)->g∈(fY f v fs).map (·.1)
 | []=>⟨by simp[fY],fun g h=>by simp at h⟩|(k,x)::r=>by
  obtain⟨L,J⟩:=ug f v r;rw[show fY f v ((k,x)::r)=(if k=f then(k,v)::r else(k,x)::fY f v r) from rfl];by_cases H:k=f
  .rw[if_pos H];subst H;exact⟨by simp,fun g h=>by simpa using h⟩
  .rw[if_neg H];refine⟨?_,fun g h=>?_⟩
   .rw[Sz];exact Ti _ L
   .rw[Sz] at h⊢;rcases SI.mp h with e|e
    .exact SI.mpr (.inl e)
    .exact Ti _ (J g e)
theorem BY(f:Str)(v:V):∀fs:Ş,(fY f v fs).length<=fs.length+1
 | []=>by simp[fY]|(k,x)::r=>by
  have J:=BY f v r;rw[show fY f v ((k,x)::r)=(if k=f then(k,v)::r else(k,x)::fY f v r) from rfl];by_cases H:k=f
  .rw[if_pos H,SO,SO];omega
  .rw[if_neg H,SO,SO];omega
def Wy.some_of{v:V}{o:Ŝ}(r:Wy (some v) o):∃u,o=some u/\RelV v u:=by
 cases o with
 |none=>exact(show False from r).elim|some u=>exact⟨u,rfl,r⟩
def Wy.none_of{o:Ŝ}(r:Wy none o):o=none:=by
 cases o with
 |none=>rfl|some u=>exact(show False from r).elim
def JX{v:V}{u:Value}(r:RelV v u):PySem.W.handedIn u=true:=by
 cases v with
 |non=>cases (show u=Value.none from r);rfl
 |bl b=>cases (show u=Value.bool b from r);rfl
 |int i=>obtain⟨t,e⟩:=(show ∃t,u=Value.int i t from r);cases e;rfl
 |str x=>obtain⟨t,e⟩:=(show ∃t,u=Value.str x t from r);cases e;rfl
 |byt b=>obtain⟨t,e⟩:=(show ∃t,u=Value.bytes b t from r);cases e;rfl
 |flt b=>obtain⟨t,e⟩:=(show ∃t,u=Value.float b t from r);cases e;rfl
 |ref a=>cases (show u=Value.ref a from r);rfl
 |ty n=>cases (show u=Value.type n from r);rfl
section
variable {P:Program} {w:World} {H:Hp} {h:Heap} {a C dx:Addr} {fs:Ş}
theorem wd(hok:Ww P w H h)(e:H a=some (.ins C dx fs)):∃mA,YF h a dx C mA/\(∀f,Wy (fs.lookup f)<|mA f)/\PySem.Within mA (fs.map (·.1))/\fs.length<=1000/\H dx=some (.own a):=by
 obtain⟨d,z,ne,ob,mA,n,r,q⟩:=(show V9 P w H h a (.ins C dx fs) from hok a _ e)
 exact(⟨mA,⟨ob,n,ne⟩,r,q,z,d⟩)
end
structure Yf (K:Frag) (C:Addr):Prop where
 pg:PySem.W.plainGet K C Str.empty=true
 hd:PySem.W.hasDictIn K C=true
 po:PySem.W.plainOver K C=true
 sa:findIn K (.ref C) "__setattr__"=some (some<|.builtin "object.__setattr__")
def Yf.get{K:Frag}{C:Addr}(c:Yf K C)(f:Str):PySem.W.plainGet K C f=true:=c.pg
def XB(K:Frag)(C:Addr)(f:Str):Prop:=findIn K (.ref C) f=some none
def XB.taker{K:Frag}{C:Addr}{f:Str}(n:XB K C f):PySem.W.takerIn K C f=some none:=by unfold PySem.W.takerIn;rw[show findIn K (.ref C) f=some none from n];rfl
structure Meth (K:Frag) (C:Addr) (m:Str) (f:Addr):Prop where
 at_:findIn K (.ref C) m=some (some<|.ref f)
 fn:isFn K (.ref f)=true
 kp:keepIn K (.ref f)=true
section
variable {X:Cx} {pins:SB} {J:St} {H:Hp} {s:Shared} {a C dx:Addr} {fs:Ş} {f:Str} {v:V} {A:Around} {E:QS}
theorem O6{b:Bool}{Q:QS}(I:Inv X pins J H s)(e:H a=some (.ins C dx fs))(c:Yf X.K C)(n:XB X.K C f)(l:fs.lookup f=some v)
  (h:∀u s',Inv X pins J H s'->RelV v u->Q u s'):wpAny (model X.prog X.w) A (getAttr (.ref a) f b) Q E s:=by
 obtain⟨mA,Z9,r,_,_,_⟩:=wd I.hok e;obtain⟨u,P,L⟩:=Wy.some_of (v:=v) (o:=mA f) (by rw[←l];exact r f);exact(JK I.kIn Z9 (c.get f) c.hd n P (JX L)<|h u _ (I.tok _) L)
theorem zq{m:Str}{g:Addr}{pl:Sem Bool}{Q:Value×Œ->Shared->Prop}(I:Inv X pins J H s)(e:H a=some (.ins C dx fs))(c:Yf X.K C)(k:Meth X.K C m g)(l:fs.lookup m=none)
  (h:Q (.ref g,[.ref a]) s):wpAny (model X.prog X.w) A (getMethod (.ref a) m pl) Q E s:=by
 obtain⟨mA,Z9,r,_,_,_⟩:=wd I.hok e;have L:mA m=none:=Wy.none_of (by rw[←l];exact r m);exact(O2 I.kIn Z9 (c.get m) k.at_ k.fn L h)
theorem OP{y:V}{u:Value}{Q:Unit->Shared->Prop}(I:Inv X pins J H s)(e:H a=some (.ins C dx fs))(c:Yf X.K C)(n:XB X.K C f)(hl:fs.length<1000)(F:RelV y u)
  (h:∀s',Inv X pins J (upd H a<|.ins C dx<|fY f y fs) s'->Q () s'):wpAny (model X.prog X.w) A (setAttr (.ref a) f u) Q E s:=by
 obtain⟨mA,Z9,r,wi,_,P⟩:=wd I.hok e;have S:(fs.map (·.1)).length<=sizeLine:=by rw[Sv,Uc];omega
 refine(K0 I.kIn Z9 c.sa c.po n.taker c.hd wi S fun h' L sb=>h _ ?_);have hd:∃o,h'.get? dx=some o:=let ⟨o,_,_,e',_⟩:=L.ns;⟨o,e'⟩
 refine I.write (x:=a) (e:=dx) (by rw[e];exact True.intro) (.inr P) (fun b q hb z=>(sb.2 b hb).trans z) hd ?_;refine⟨by rw[eG Z9.ne];exact P,?_,Z9.ne,L.obj,_,L.ns,fun g=>?_,fun g hg=>?_⟩
 .have:=BY f y fs;omega
 .show Wy ((fY f y fs).lookup g) (if g=f then some u else mA g);rw[By];by_cases q:g=f
  .rw[if_pos q,if_pos q];exact F
  .rw[if_neg q,if_neg q];exact r g
 .by_cases q:g=f
  .rw[q];exact(ug f y fs).1
  .refine(ug f y fs).2 g (wi g fun z=>hg ?_);show(if g=f then some u else mA g)=none;rw[if_neg q];exact z
theorem Inv.made(I:Inv X pins J H s):Inv X pins J (upd (upd H s.heap.objs.size<|.own<|s.heap.objs.size+1) (s.heap.objs.size+1)<|.ins C s.heap.objs.size [])
  {s with heap:=(s.heap.push PySem.W.emptyDict).push (PySem.W.instObj C s.heap.objs.size)}:=by
 have e1:(s.heap.push PySem.W.emptyDict).get? s.heap.objs.size=some PySem.W.emptyDict:=SA s.heap rfl;have F:((s.heap.push PySem.W.emptyDict).push (PySem.W.instObj C s.heap.objs.size)).get? (s.heap.objs.size+1)=some (PySem.W.instObj C s.heap.objs.size):=by have:=SA (s.heap.push PySem.W.emptyDict) (o:=PySem.W.instObj C s.heap.objs.size) rfl;rwa[TK] at this
 have z:(s.heap.push PySem.W.emptyDict).Ns s.heap.objs.size (fun _=>none):=⟨PySem.W.emptyDict,#[],_,e1,rfl,(fun e P=>absurd P nofun),fun _=>rfl⟩
 have S:=I.laid (a:=s.heap.objs.size) (o:=.own (s.heap.objs.size+1)) (h':=s.heap.push PySem.W.emptyDict) (t':=s.toks) (fun b u q=>Sl _ q) (Sm _) ⟨_,e1⟩;refine S.laid (a:=s.heap.objs.size+1) (o:=.ins C s.heap.objs.size []) (t':=s.toks) (fun b u q=>Sl _ q) (Nat.le_of_eq<|TK _ _) ?_;have ne:s.heap.objs.size≠s.heap.objs.size+1:=SQ (Vd _);refine⟨by rw[eG ne,fL],Ta _,ne,F,fun _=>none,(Heap.Ns1.of_empty z).at fun o q=>Sl _ q,fun _=>True.intro,fun y L=>absurd rfl L⟩
theorem LU{prog:Program}{w:World}{env:Env}{e:Expr}{f:Str}{pos:Pos}{s:Shared}{Q:QS}(z:attributeBase e f env (eval e env)=eval e env)
  (h:wpAny (model prog w) A (eval e env) (fun o F=>wpAny (model prog w) A (getAttr o f true) Q E F) E s):wpAny (model prog w) A (eval (.Attribute e f pos) env) Q E s:=
 Attribute_any_ h (by rw[arm_eval_Attribute,z])
end
def QL(K:Frag)(ta:TE)(f:Str):TE:=fun J H Q=>ta J H fun x H1=>∃a C dx fs v,x=.ref a/\H1 a=some (.ins C dx fs)/\Yf K C/\XB K C f/\fs.lookup f=some v/\Q v H1
def Mm(K:Frag)(ta tv:TE)(f:Str):TS:=fun D J H=>tv J H fun y H1=>ta J H1 fun x L=>∃a C dx fs,x=.ref a/\L a=some (.ins C dx fs)/\Yf K C/\XB K C f/\fs.length<1000/\
 D.nx J (upd L a<|.ins C dx<|fY f y fs)
section
variable {X:Cx} {o e value:Expr} {f:Str} {pos pos':Pos} {ta tv:TE}
theorem OA(he:PE X e ta)(F:attributeBase e f X.env (eval e X.env)=eval e X.env):PE X (.Attribute e f pos) (QL X.K ta f):=by intro pins s J H Q I h;refine LU F (V0 (he pins s J H _ I h) fun u s1 z=>?_);obtain⟨x,H1,I1,L,a,C,dx,fs,v,ex,ea,c,n,l,q⟩:=z;subst ex;obtain rfl:u=Value.ref a:=L;exact O6 I1 ea c n l fun u' s2 S P=>⟨v,H1,S,P,q⟩
theorem QD(ha:PE X o ta)(F:PE X value tv)(S:swapsWith value (some<|.Attribute o f pos') pos.line X.env=pure false):PS X (.Assign [.Attribute o f pos'] value pos) (Mm X.K ta tv f):=by intro pins s J H D I h;refine plainObj_wpAny_Assign_Attribute (V0 (F pins s J H _ I h) fun u s1 ⟨y,H1,I1,L,q⟩=>V0 (ha pins s1 J H1 _ I1 q) fun z s2 hm=>?_) S;obtain⟨x,H2,I2,P,a,C,dx,fs,ex,ea,c,n,l,q2⟩:=hm;subst ex;obtain rfl:z=Value.ref a:=P;exact OP I2 ea c n l L fun s3 I3=>⟨J,_,I3,q2⟩
theorem methcall_of{pl:Sem Bool}{m:Str}{apos:Pos}{args:Ř}{pins:SB}{s:Shared}{J:St}{H:Hp}{Q:QS}{te:TE}(he:PE X e te)(I:Inv X pins J H s)
  (h:te J H fun x H1=>∃a C dx fs g,x=.ref a/\H1 a=some (.ins C dx fs)/\Yf X.K C/\Meth X.K C m g/\fs.lookup m=none/\
   ∀s1,Inv X pins J H1 s1->wpAny (model X.prog X.w) X.A (callWith pos (.ref g) [.ref a] (backTo pos<|starEach args X.env)<|backToKw pos<|keywordEach [] X.env) Q X.xe s1)
  (F:eval (.Call (.Attribute e m apos) args [] pos) X.env=(do
   let z ←eval e X.env
   standAt apos.atName
   let (f,first) ←holding [z] (getMethod z m pl)
   callWith pos f first (backTo pos<|starEach args X.env) (backToKw pos<|keywordEach [] X.env))):
  wpAny (model X.prog X.w) X.A (eval (.Call (.Attribute e m apos) args [] pos) X.env) Q X.xe s:=by
 refine PySem.W.methodCall_KW (pl:=pl) (V0 (he pins s J H _ I h) fun u s1 S=>?_) F;obtain⟨x,H1,L,P,a,C,dx,fs,g,ex,ea,c,k,l,q⟩:=S;subst ex;obtain rfl:u=Value.ref a:=P;exact zq L ea c k l (q s1 L)
end
structure V8 (k:Nat) (A:Around):Prop where
 hd:A.handled=none
 dp:A.depth+3*k+5<recursionLimit
 un:A.units+16*k+200<cLine
 gd:A.guards=some []
def NN{A:Around}{C:Addr}{us:Œ}{kw:Ţ}:(A.under<|.builtin "type.__call__" ⟨.ref C::us,kw⟩).guards=A.guards:=by first|rfl|simp[Around.under,Code.isGuard,guardIds]
def V8.mono{j k:Nat}{A:Around}(r:V8 k A)(h:j<=k):V8 j A:=⟨r.hd,by have:=r.dp;omega,by have:=r.un;omega,r.gd⟩
def V8.deeper{k:Nat}{A:Around}(r:V8 (k+1) A)(env:Env):V8 k (A.deeper env):=
 ⟨r.hd,by have:=r.dp;show A.depth+1+3*k+5<_;omega,by have:=r.un;show A.units+3+16*k+200<_;omega,r.gd⟩
def Qk{A:Around}{C:Addr}{us:Œ}{kw:Ţ}:(A.under<|.builtin "type.__call__" ⟨.ref C::us,kw⟩).depth=A.depth+1:=by first|rfl|simp[Around.under,Code.weight,Code.isCreation,Code.isGuard,Code.isCaller,Code.frames,Code.isFrame,guardIds]
def QJ{A:Around}{C:Addr}{us:Œ}{kw:Ţ}:(A.under<|.builtin "type.__call__" ⟨.ref C::us,kw⟩).units=A.units+1:=by first|rfl|simp[Around.under,Code.cUnits,Code.frames,Code.isFrame]
def V8.make{k:Nat}{A:Around}(r:V8 (k+1) A)(C:Addr)(us:Œ)(kw:Ţ):V8 k (A.under<|.builtin "type.__call__" ⟨.ref C::us,kw⟩):=
 ⟨r.hd,by have:=r.dp;rw[Qk];omega,by have:=r.un;rw[QJ];omega,by rw[NN];exact r.gd⟩
def V8.depth{k:Nat}{A:Around}(r:V8 k A):A.depth<recursionLimit:=by have:=r.dp;omega
def V8.units{k:Nat}{A:Around}(r:V8 k A):A.units+64<cLine:=by have:=r.un;omega
def iI:TA:=fun _ H Q=>Q [] H
def gJ(ta:TE)(z:TA):TA:=fun J H Q=>ta J H fun x H1=>z J H1 fun xs L=>Q (x::xs) L
section
variable {X:Cx} {e:Expr} {es:Ř} {te:TE} {t:TA} {pos:Pos}
theorem fV:PA X [] iI:=fun _ _ _ _ H Q I h=>Calls.spliced_nil ⟨[],H,I,.nil,h⟩
theorem fE(ha:PE X e te)(F:PA X es t)(z:X9 X e es:=by rfl):PA X (e::es) (gJ te t):=by intro pos pins s J H Q I h;rw[z];show wpAny _ _ (spliced<|(false,eval e X.env)::backTo pos (starEach es X.env)) _ _ s;refine Calls.spliced_cons (V0 (ha pins s J H _ I h) fun u s1 S=>?_);obtain⟨x,H1,I1,P,q1⟩:=S;exact(V0 (F pos pins s1 J H1 _ I1 q1) fun us s2 ⟨xs,H2,I2,L,q2⟩=>⟨x::xs,H2,I2,.cons P L,q2⟩)
def PL(t:TA):TE:=fun J H Q=>t J H fun xs H1=>xs.length<=sizeLine/\∀p,H1 p=none->Q (.ref p) (upd H1 p<|.tup xs)
def Rx(t:TA):TE:=fun J H Q=>t J H fun xs H1=>xs.length<=sizeLine/\∀p,H1 p=none->Q (.ref p) (upd H1 p<|.lst xs)
theorem FQ{F}(h:PA X es t):PE X (.Tuple es F pos) (PL t):=by intro pins s J H Q I hq;refine wpAny_Tuple_spliced (V0 (h pos pins s J H _ I hq) fun S s1 ⟨xs,P,L,r,z,q⟩=>⟨by rw[←r.length];exact z,?_⟩);have hf:P s1.heap.objs.size=none:=L.hok.fresh (Sm _);refine⟨.ref s1.heap.objs.size,upd P s1.heap.objs.size (.tup xs),L.laid (t':=s1.toks) (fun b u e=>Sl _ e) (Sm _) ?_,rfl,q _ hf⟩;exact⟨z,S,r,⟨_,SA _ rfl,rfl,_,rfl⟩⟩
theorem AZ(h:PA X es t):PE X (.List es pos) (Rx t):=by intro pins s J H Q I S;refine wpAny_List_spliced (V0 (h pos pins s J H _ I S) fun F s1 ⟨xs,P,L,r,z,q⟩=>⟨by rw[←r.length];exact z,?_⟩);have hf:P s1.heap.objs.size=none:=L.hok.fresh (Sm _);refine⟨.ref s1.heap.objs.size,upd P s1.heap.objs.size (.lst xs),L.laid (t':=s1.toks) (fun b u e=>Sl _ e) (Sm _) ?_,rfl,q _ hf⟩;exact⟨z,F,0,r,SA _ rfl⟩
end
abbrev Sp:=ŗ->Hp->VK->XK->Prop
abbrev YI:=Š->Hp->Shared->XK->Value->Shared->Prop
structure YH (P:Program) (w:World) (K:Frag) (mg:œ) (base:Heap) (A:Around) (outer:Š) (s:Shared) (H:Hp):Prop where
 frames:A.frames=some outer
 mod:Mod K mg base
 bs:∀b o,base.get? b=some o->s.heap.get? b=some o/\H b=none
 bsz:base.objs.size<=s.heap.objs.size
 funs:s.heap.FunFrames base outer
 frf:∀b∈WK outer,H b=none
 hok:Ww P w H s.heap
 bare:AllBare s.gens
def CE(outer:Š)(P:Program)(w:World)(H:Hp)(s:Shared)(Q:VK)(u:Value)(s':Shared):Prop:=
 ∃v H',s'.os=s.os/\AllBare s'.gens/\Un (WK outer) [] H H' s.heap s'.heap/\Ww P w H' s'.heap/\RelV v u/\Q v H'
def CR(CX:YI)(outer:Š)(P:Program)(w:World)(H:Hp)(s:Shared)(Q:VK)(E:XK)(r:Result)(s':Shared):Prop:=
 match r with
 | .ok (.ret u)=>CE outer P w H s Q u s'| .ok _=>False| .error e=>CX outer H s E e s'
structure Qv (P:Program) (w:World) (K:Frag) (mg:œ) (base:Heap) (CX:YI) (k:Nat) (f:Addr) (fd:FuncData) (ps:Ŗ) (sp:Sp):Prop where
 len:∀vs H Q E,sp vs H Q E->vs.length=ps.length
 run:∀(A:Around) (outer:Š) (s:Shared) (H:Hp) (args:Args) (us:Œ) (vs:ŗ) (Q:VK) (E:XK),V8 k A->YH P w K mg base A outer s H->BindsTo s fd args (ps.zip us)->Vals vs us->sp vs H Q E->
  codeAny (model P w) A (.call (.ref f) args) (CR CX outer P w H s Q E) s
theorem Qv.imp{P:Program}{w:World}{K:Frag}{mg:œ}{base:Heap}{CX:YI}{k:Nat}{f:Addr}{fd:FuncData}{ps:Ŗ}{sp z:Sp}(F:Qv P w K mg base CX k f fd ps sp)
  (h:∀vs H Q E,z vs H Q E->sp vs H Q E):Qv P w K mg base CX k f fd ps z:=
 ⟨fun vs H Q E q=>F.len vs H Q E (h _ _ _ _ q),fun A outer s H args J vs Q E hr he hb L S=>F.run A outer s H args J vs Q E hr he hb L<|h _ _ _ _ S⟩
theorem YH.make{P:Program}{w:World}{K:Frag}{mg:œ}{base:Heap}{A:Around}{outer:Š}{s:Shared}{H:Hp}(e:YH P w K mg base A outer s H)(C:Addr)(us:Œ)(kw:Ţ):
  YH P w K mg base (A.under<|.builtin "type.__call__" ⟨.ref C::us,kw⟩) outer s H:=⟨by first|exact e.frames|(simpa[Around.under,Code.envs,Code.isFrame,pushEnvs] using e.frames),e.mod,e.bs,e.bsz,e.funs,e.frf,e.hok,e.bare⟩
section
variable {X:Cx} {pins:SB} {J:St} {H:Hp} {s s':Shared}
theorem Inv.env0(I:Inv X pins J H s):YH X.prog X.w X.K X.mg X.base X.A X.stack s H:=
 ⟨I.ok.frames,I.ok.mod,I.bs,S1 I.ok.bsz I.sz,I.stack,I.stkFree,I.hok,I.bare⟩
theorem Inv.after{Q:VK}{u:Value}(I:Inv X pins J H s)(h:CE X.stack X.prog X.w H s Q u s'):EP X pins J Q u s':=by obtain⟨v,H',os,bare,un,hok,r,q⟩:=h;obtain⟨P,g,d,t,L⟩:=s';obtain rfl:L=s.os:=os;exact⟨v,H',I.call (h':=P) (g':=g) (d':=d) (t':=t) (ch:=[]) un hok bare (fun b z=>absurd z nofun),r,q⟩
end
def yW(sp:Sp)(Xv:ŗ)(E:XK)(t:TA):TE:=fun J H Q=>t J H fun vs H1=>sp (vs++Xv) H1 Q E
def Dz(C:Addr)(m:Str)(sp:Sp)(Xv:ŗ)(E:XK)(ta:TE)(t:TA):TE:=fun J H Q=>ta J H fun x H1=>∃a dx fs,x=.ref a/\H1 a=some (.ins C dx fs)/\fs.lookup m=none/\
 t J H1 fun vs L=>sp (x::(vs++Xv)) L Q E
def Bt(C:Addr)(sp:Sp)(Xv:ŗ)(E:XK)(t:TA):TE:=fun J H Q=>t J H fun vs H1=>∀x dx,H1 x=none->H1 dx=none->dx≠x->
 sp (.ref x::(vs++Xv)) (upd (upd H1 dx<|.own x) x<|.ins C dx []) (fun v L=>v=.non/\Q (.ref x) L) E
def Binds(K:Frag)(fd:FuncData)(ps:Ŗ)(ds:Œ):Prop:=
 ∀(s:Shared) (us:Œ),K.In s.heap->(us++ds).length=ps.length->BindsTo s fd ⟨us,[]⟩ (ps.zip<|us++ds)
def Binds.all{K:Frag}{fd:FuncData}{ps:Ŗ}(h:∀us:Œ,us.length=ps.length->bindArgs fd ⟨us,[]⟩=pure (ps.zip us)):Binds K fd ps []:=fun s us _ H=>by rw[Tq] at H⊢;exact .of_eq (h us H)
def lP(CX:YI)(X:Cx)(E:XK):Prop:=∀(pins:SB) (J:St) (H:Hp) (s:Shared) (e:Value) (s':Shared),Inv X pins J H s->CX X.stack H s E e s'->X.xe e s'
section
variable {X:Cx} {CX:YI} {k:Nat} {f C:Addr} {fd:FuncData} {ps:Ŗ} {sp:Sp} {Xv:ŗ} {ds:Œ} {E:XK} {x m:Str} {p pos apos:Pos} {e o:Expr} {es:Ř} {ta:TE} {t:TA}
theorem Ct{pins:SB}{J:St}{H:Hp}{s:Shared}{Q:VK}{us:Œ}{vs:ŗ}(F:Qv X.prog X.w X.K X.mg X.base CX k f fd ps sp)(S:V8 k X.A)(hb:Binds X.K fd ps ds)(hd:Vals Xv ds)(z:lP CX X E)
  (I:Inv X pins J H s) (r:Vals vs us) (h:sp (vs++Xv) H Q E):wpAny (model X.prog X.w) X.A (call (.ref f) us) (EP X pins J Q) X.xe s:=by
 have P:Vals (vs++Xv) (us++ds):=r.append hd;have hl:(us++ds).length=ps.length:=by rw[←P.length];exact F.len _ _ _ _ h
 refine VX (UE (F.run X.A X.stack s H ⟨us,[]⟩ (us++ds) (vs++Xv) Q E S I.env0 (hb s us I.kIn hl) P h) fun r s' L=>?_);cases r with
 |error e=>exact z pins J H s e s' I L|ok fl=>
  cases fl with
  |ret u=>exact I.after L|next=>exact False.elim L
  |brk=>exact False.elim L|cont=>exact False.elim L
theorem QX(F:Qv X.prog X.w X.K X.mg X.base CX k f fd ps sp)(hr:V8 k X.A)(hg:Gl X x)(hm:X.mg x=some (.ref f))(hk:keepIn X.K (.ref f)=true)(hb:Binds X.K fd ps ds)(hd:Vals Xv ds)(S:lP CX X E)
  (ha:PA X (e::es) t) (z:Xm x:=by decide) (he:X9 X e es:=by rfl) (hpl:Yn X pos es:=by rfl):
  PE X (.Call (.Name x p) (e::es) [] pos) (yW sp Xv E t):=by
 intro pins s J H Q I h;refine Ug (pG I hg hm ?_ z);refine US (h₀:=X.base) I.ok.mod.kin hk (V0 (ha pos pins s J H _ I h) fun P s1 ⟨vs,H1,L,r,q⟩=>⟨L.kIn,?_⟩) he hpl;exact Ct F hr hb hd S L r q
theorem HS(he:PE X o ta)(c:Yf X.K C)(hm:Meth X.K C m f)(F:Qv X.prog X.w X.K X.mg X.base CX k f fd ps sp)(hr:V8 k X.A)(hb:Binds X.K fd ps ds)(hd:Vals Xv ds)(hx:lP CX X E)(ha:PA X (e::es) t)
  (z:X9 X e es:=by rfl) (hpl:Yn X pos es:=by rfl)
  (ht:eval (.Call (.Attribute o m apos) (e::es) [] pos) X.env=(do
   let S ←eval o X.env
   standAt apos.atName
   let (f,first) ←holding [S] (getMethod S m pl)
   callWith pos f first (backTo pos<|starEach (e::es) X.env) (backToKw pos<|keywordEach [] X.env)):=by rfl):
  PE X (.Call (.Attribute o m apos) (e::es) [] pos) (Dz C m sp Xv E ta t):=by
 intro pins s J H Q I h;refine PySem.W.methodCall_KW (pl:=pl) (V0 (he pins s J H _ I h) fun u s1 hm=>?_) ht;obtain⟨x,H1,P,rx,a,dx,fs,ex,ea,l,q⟩:=hm;subst ex;obtain rfl:u=Value.ref a:=rx;refine zq P ea c hm l ?_;refine US (first:=[.ref a]) (h₀:=X.base) I.ok.mod.kin hm.kp (V0 (ha pos pins s1 J H1 _ P q) fun us s2 ⟨vs,H2,L,r,q2⟩=>⟨L.kIn,?_⟩) z hpl;exact Ct (us:=.ref a::us) (vs:=.ref a::vs) F hr hb hd hx L (.cons rfl r) q2
structure Mk (K:Frag) (C f:Addr):Prop where
 makes:PySem.W.makesIn K C=true
 init:findIn K (.ref C) "__init__"=some (some<|.ref f)
 fn:isFn K (.ref f)=true
 kp:keepIn K (.ref C)=true
theorem Lp{pins:SB}{J:St}{H:Hp}{s:Shared}{Q:VK}{us:Œ}{vs:ŗ}(M:Mk X.K C f)(F:Qv X.prog X.w X.K X.mg X.base CX k f fd ps sp)(hr:V8 (k+1) X.A)(hb:Binds X.K fd ps ds)(hd:Vals Xv ds)
  (hx:lP CX X E) (I:Inv X pins J H s) (r:Vals vs us)
  (h:∀x dx,H x=none->H dx=none->dx≠x->sp (.ref x::(vs++Xv)) (upd (upd H dx<|.own x) x<|.ins C dx []) (fun v H2=>v=.non/\Q (.ref x) H2) E):
  wpAny (model X.prog X.w) X.A (call (.ref C) us) (EP X pins J Q) X.xe s:=by
 have S:=h (s.heap.objs.size+1) s.heap.objs.size (I.hok.fresh<|Nat.le_succ _) (I.hok.fresh<|Sm _) (SQ<|Vd _);have P:=Inv.made (C:=C) I;have z:Vals (V.ref (s.heap.objs.size+1)::(vs++Xv)) (Value.ref (s.heap.objs.size+1)::(us++ds)):=.cons rfl (r.append hd);have hl:(Value.ref (s.heap.objs.size+1)::us++ds).length=ps.length:=by have e:=z.length;rw[F.len _ _ _ _ S] at e;exact e.symm
 refine VX (Nv (f:=f) I.kIn M.makes M.init (beq_iff_eq.mp M.fn) (UE (F.run _ X.stack _ _ ⟨Value.ref (s.heap.objs.size+1)::us,[]⟩ (Value.ref (s.heap.objs.size+1)::(us++ds)) _ _ E (hr.make C us [])
  (P.env0.make C us []) (hb _ (Value.ref (s.heap.objs.size+1)::us) P.kIn hl) z S) fun r s' L=>?_))
 cases r with
 |error e=>exact hx pins J _ _ e s' P L|ok fl=>
  cases fl with
  |ret u=>
   obtain⟨v,H',I3,rv,ev,q3⟩:=P.after L;subst ev;exact⟨rv,⟨V.ref (s.heap.objs.size+1),H',I3,rfl,q3⟩⟩
  |next=>exact False.elim L
  |brk=>exact False.elim L|cont=>exact False.elim L
theorem Qf(M:Mk X.K C f)(F:Qv X.prog X.w X.K X.mg X.base CX k f fd ps sp)(hr:V8 (k+1) X.A)(hg:Gl X x)(hm:X.mg x=some (.ref C))(hb:Binds X.K fd ps ds)(hd:Vals Xv ds)(S:lP CX X E)
  (ha:PA X (e::es) t) (z:Xm x:=by decide) (he:X9 X e es:=by rfl) (hpl:Yn X pos es:=by rfl):
  PE X (.Call (.Name x p) (e::es) [] pos) (Bt C sp Xv E t):=by
 intro pins s J H Q I h;refine Ug (pG I hg hm ?_ z);refine US (h₀:=X.base) I.ok.mod.kin M.kp (V0 (ha pos pins s J H _ I h) fun P s1 ⟨vs,H1,L,r,q⟩=>⟨L.kIn,?_⟩) he hpl;exact Lp M F hr hb hd S L r q
end
structure DJ (N P:Ŗ) (sc:Scope):Prop where
 kind:sc.kind=.function
 co:sc.isCoroutine=false
 gen:sc.isGenerator=false
 nd:N.Nodup
 pre:N.take P.length=P
 par:∀x∈P,sc.names.lookup x=some .local\/sc.names.lookup x=some .cell
 nofree:∀y∈sc.names,y.2≠.free
theorem AU{kindOf:Str->Option NameKind}{x:Str}:∀{binds:Ţ} {m:œ},(∀v,(x,v)∉binds)->bindL kindOf binds m x=m x
 | [],_,_=>rfl|(n,v)::r,m,h=>by
  unfold bindL;rw[AU fun w H=>h w (Ti _ H)];split
  .have:x≠n:=by rintro rfl;exact h v Ut
   simp[this]
  .rfl
theorem Cv{kindOf:Str->Option NameKind}{x:Str}:∀{binds:Ţ} {m:œ},(∀v,(x,v)∉binds)->bindC kindOf binds m x=m x
 | [],_,_=>rfl|(n,v)::r,m,h=>by
  unfold bindC;rw[Cv fun w H=>h w (Ti _ H)];split
  .rfl
  .have:x≠n:=by rintro rfl;exact h v Ut
   simp[this]
theorem AK{kindOf:Str->Option NameKind}{x:Str}{v:Value}:∀{P:Ŗ} {vs:Œ} {i:Nat} {m:œ},P.Nodup->P[i]?=some x->vs[i]?=some v->kindOf x=some .local->
  bindL kindOf (P.zip vs) m x=some v
 | [],_,_,_,_,h,_,_=>by simp at h|_::_,[],_,_,_,_,h,_=>by simp at h|p::P,w::vs,0,m,nd,J,H,L=>by simp at J H;subst J;subst H;show bindL kindOf ((p,w)::P.zip vs) m p=_;unfold bindL;rw[AU fun v z=>(Vg.mp nd).1 (UP z).1,if_pos L];simp
 |p::P,w::vs,i+1,m,nd,J,H,L=>by show bindL kindOf ((p,w)::P.zip vs) m x=_;unfold bindL;exact AK (i:=i) (Vg.mp nd).2 (by simpa using J) (by simpa using H) L
theorem Dr{kindOf:Str->Option NameKind}{x:Str}{v:Value}:∀{P:Ŗ} {vs:Œ} {i:Nat} {m:œ},P.Nodup->P[i]?=some x->vs[i]?=some v->kindOf x≠some .local->
  bindC kindOf (P.zip vs) m x=some v
 | [],_,_,_,_,h,_,_=>by simp at h|_::_,[],_,_,_,_,h,_=>by simp at h|p::P,w::vs,0,m,nd,J,H,L=>by simp at J H;subst J;subst H;show bindC kindOf ((p,w)::P.zip vs) m p=_;unfold bindC;rw[Cv fun v z=>(Vg.mp nd).1 (UP z).1,if_neg L];simp
 |p::P,w::vs,i+1,m,nd,J,H,L=>by show bindC kindOf ((p,w)::P.zip vs) m x=_;unfold bindC;exact Dr (i:=i) (Vg.mp nd).2 (by simpa using J) (by simpa using H) L
def jY(N:Ŗ)(vs:ŗ):St:=vs.map some++List.replicate (N.length - vs.length) none
def eV(CX:YI)(P:Program)(w:World)(K:Frag)(mg:œ)(base:Heap)(N:Ŗ)(qual:Str)(scope:Scope)(f:Addr)(cd:Value)(A:Around)(outer:Š)(s:Shared)(H:Hp)(E:XK):Cx where
 prog:=P
 w:=w
 K:=K
 mg:=mg
 base:=base
 A:=A.deeper (envOfC qual scope s.heap.objs.size f cd)
 N:=N
 Z3:=s
 Z1:=H
 env:=envOfC qual scope s.heap.objs.size f cd
 outer:=outer
 stack:=envOfC qual scope s.heap.objs.size f cd::outer
 ex:=[]
 calm:=true
 fn:=fun _=>true
 pn:=[]
 xe:=fun e s'=>wpAny (model P w) (A.deeper<|envOfC qual scope s.heap.objs.size f cd) (leaving (envOfC qual scope s.heap.objs.size f cd) e) (fun _ Β=>CX outer H s E e Β) (fun e' Β=>CX outer H s E e' Β) s'
def yR{sc:Scope}{n:Nat}{x:Str}(h:sc.names.lookup x=some .cell):∃c,(cellsFrom n sc.names []).lookup x=some c:=by have q:=U3 sc.names n [] (.inl h);exact Tv.mp q
theorem Gk{CX:YI}{P:Program}{w:World}{K:Frag}{mg:œ}{base:Heap}{N ps:Ŗ}{qual:Str}{scope:Scope}{f:Addr}{cd:Value}{A:Around}{outer:Š}{s s1:Shared}{H:Hp}{E:XK}{us:Œ}{vs:ŗ}
  (S:DJ N ps scope) (hd:A.handled=none) (F:YH P w K mg base A outer s H) (hl:vs.length=ps.length) (r:Vals vs us)
  (x:InCallC s s.heap.objs.size (bindL (envOfC qual scope s.heap.objs.size f cd).kindOf (ps.zip us) fun _=>none) (cellsFrom (s.heap.objs.size+1) scope.names []) (bindC (envOfC qual scope s.heap.objs.size f cd).kindOf (ps.zip us) fun _=>none) s1):
  Inv (eV CX P w K mg base N qual scope f cd A outer s H E) [] (jY N vs) H s1:=by
 have hpl:ps.length<=N.length:=by have:=congrArg List.length S.pre;rw[UG] at this;omega
 obtain⟨h1,tk,rfl,hk⟩:=x.done;have L:∀b:Addr,b∉(eV CX P w K mg base N qual scope f cd A outer s H E).ex:=fun b z=>absurd (show b∈([]:Ś) from z) nofun;refine⟨⟨F.mod,S.kind,rfl,rfl,Sm _,fun y z c h1 J=>?_,fun y hy=>?_,fun y c _ h=>?_,fun _=>hd,Around.frames_deeper F.frames,.inr ⟨rfl,rfl⟩,fun b z=>absurd z (L b),F.bs,F.bsz,fun b _ _=>L b,fun b z=>absurd z (L b),F.funs,F.frf⟩,
  rfl,F.bare,Un.kept hk,⟨_,x.toInCall.ns,fun i y v h1 J h3=>?_⟩,fun y c h=>⟨_,x.cell y c h⟩,F.hok.fresh (Sm _),fun y c h=>?_,fun p hp=>absurd (show p∈([]:SB) from hp) nofun,F.hok.kept hk,?_⟩
 .exact name_of_addr x.apart (Th h1) (Th J)
 .have hy:scope.names.lookup y=some .cell\/scope.names.lookup y=some .free:=hy;rcases hy with hy|hy
  .exact yR hy
  .exact absurd rfl (S.nofree _<|Th hy)
 .exact Vn (x.above y c<|Th h)
 .have hi:i<vs.length:=by
   unfold jY at J;by_cases hi:i<vs.length
   .exact hi
   .rw[Tb (by simpa using hi)] at J;rw[List.getElem?_replicate] at J;split at J<;>cases J
  have ha:vs[i]?=some v:=by
   unfold jY at J;rw[SM (by simpa using hi),S0] at J;cases e:vs[i]? with
   |none=>rw[e] at J;cases J
   |some a=>rw[e] at J;cases J;rfl
  obtain⟨u,hu,rv⟩:=r.get ha;have hp:ps[i]?=some y:=by rw[←S.pre,List.getElem?_take_of_lt ⋯];exact h1
  have Ĵ:ps.Nodup:=by rw[←S.pre];exact S.nd.sublist (List.take_sublist _ _)
  refine⟨u,rv,?_⟩;rcases S.par y (T8 hp) with k|k
  .exact .inl ⟨k,AK Ĵ hp hu k⟩
  .obtain⟨c,e⟩:=yR (n:=s.heap.objs.size+1) k;refine .inr ⟨.inl k,c,e,?_⟩;have q:=x.cell y c e;rw[Dr Ĵ hp hu (by show scope.names.lookup y≠_;rw[k];decide)] at q;exact q
 .exact F.hok.fresh (Vn<|x.above y c<|Th h)
 .unfold jY;show _=N.length;rw[S9,Sv,List.length_replicate];omega
theorem zy{CX:YI}{P:Program}{w:World}{K:Frag}{mg:œ}{base:Heap}{k:Nat}{f:Addr}{name qual:Str}{params:Arguments}{body:ţ}{scope:Scope}{dV kV doc pm cdv ct oc:Value}{an od:š}
  {osl:Array Ŝ} {N ps:Ŗ} {sp:Sp} (lk:K.lookup f=some ⟨oc,od,.func (fnOf name qual params body scope dV kV doc pm an cdv ct),osl⟩) (Ν:codeIn K cdv qual=true) (S:DJ N ps scope)
  (len:∀vs H Q E,sp vs H Q E->vs.length=ps.length)
  (z:∀(A:Around) (outer:Š) (s:Shared) (H:Hp) (vs:ŗ) (Q:VK) (E:XK),V8 k (A.deeper<|envOfC qual scope s.heap.objs.size f cdv)->sp vs H Q E->
   ∃t,Wo (eV CX P w K mg base N qual scope f cdv A outer s H E) body t/\t {nx:=fun _ H'=>Q .non H',rt:=Q} (jY N vs) H):
  Qv P w K mg base CX (k+1) f (fnOf name qual params body scope dV kV doc pm an cdv ct) ps sp:=by
 refine⟨len,fun A outer s H args us vs Q E hr e0 hb r F=>?_⟩;have hl:=len _ _ _ _ F;have KX:K.In s.heap:=e0.mod.kin.keeps fun b o e=>(e0.bs b o e).1;have lim:s.heap.NoLimit:=e0.mod.nolimit.keeps fun b o e=>(e0.bs b o e).1;have J:∀y∈ps.zip us,scope.names.lookup y.1=some .local\/(scope.names.lookup y.1=some .cell/\((cellsFrom (s.heap.objs.size+1) scope.names []).lookup y.1).isSome=true):=fun⟨n,v⟩ hy=>by
  rcases S.par n (UP hy).1 with q|q
  .exact .inl q
  .exact .inr ⟨q,U3 _ _ _<|.inl q⟩
 refine codeAny_call_function hr.depth (KX _ _ lk) rfl S.co S.gen rfl (PySem.W.codeRec_of KX Ν) (hb _ _ _ _ ?_);refine wpAny_newFunctionEnv_cells S.kind J fun env he s1 x=>?_;subst he;refine⟨lim.keeps x.toInCall.keep,codeAny_func ?_⟩;obtain⟨t,ht,hq⟩:=z A outer s H vs Q E (hr.deeper _) F;have I:Inv (eV CX P w K mg base N qual scope f cdv A outer s H E) [] (jY N vs) H s1:=Gk S hr.hd e0 hl r x;refine(Ss (ht [] s1 (jY N vs) H _ I hq) (fun fl s' L=>?_) fun e s' L=>L);have fin:∀{Z0:St} {H':Hp} {v:V} {u:Value},Inv (eV CX P w K mg base N qual scope f cdv A outer s H E) [] Z0 H' s'->RelV v u->Q v H'->CE outer P w H s Q u s':=
  fun{Z0 H' v u} Z7 rv q=>⟨v,H',Z7.os,Z7.bare,Z7.base,Z7.hok,rv,q⟩
 cases fl with
 |ret u=>
  obtain⟨v,Z0,H',Z7,rv,q⟩:=L;exact fin Z7 rv q
 |next=>
  obtain⟨Z0,H',Z7,q⟩:=L;exact fin (v:=V.non) (u:=Value.none) Z7 rfl q
 |brk=>
  obtain⟨_,_,_,q⟩:=L;exact False.elim q
 |cont=>
  obtain⟨_,_,_,q⟩:=L;exact(False.elim q)
section
variable {X:Cx} {x:Str} {p pos:Pos} {e:Expr} {es:Ř} {t:TA} {id T:String} {r:ŗ->Hp->VK->Prop}
def ě(r:ŗ->Hp->VK->Prop)(t:TA):TE:=fun J H Q=>t J H fun vs H1=>r vs H1 Q
theorem nF(hc:iE X (.builtin id) r)(hg:Gl X x)(hm:X.mg x=none)(F:bootBuiltins x=some (.builtin id))(ha:PA X (e::es) t)(S:x≠"__name__":=by decide) (z:Xm x:=by decide)
  (he:X9 X e es:=by rfl) (hpl:Yn X pos es:=by rfl):PE X (.Call (.Name x p) (e::es) [] pos) (ě r t):=by
 intro pins s J H Q I h;refine Ug (jv I hg hm F ?_ S z);exact PyProof.Rows.callWith_builtin1 (V0 (ha pos pins s J H _ I h) fun L s1 ⟨vs,H1,I1,P,q1⟩=>hc pins s1 J H1 vs L Q I1 P q1) he hpl
theorem rL(hc:iE X (.type T) r)(hg:Gl X x)(hm:X.mg x=none)(F:bootBuiltins x=some (.type T))(ha:PA X (e::es) t)(S:x≠"__name__":=by decide) (z:Xm x:=by decide)
  (he:X9 X e es:=by rfl) (hpl:Yn X pos es:=by rfl):PE X (.Call (.Name x p) (e::es) [] pos) (ě r t):=by
 intro pins s J H Q I h;refine Ug (jv I hg hm F ?_ S z);exact Tx (V0 (ha pos pins s J H _ I h) fun L s1 ⟨vs,H1,I1,P,q1⟩=>hc pins s1 J H1 vs L Q I1 P q1) he hpl
end
end L2
namespace HT
open PySem PyProof.Rows
section
open PySem.SeqAt
open PySem.AutoSeq1 (wpAny_loadPart')
open PySem.MeetsSeq PySem.MeetsSeq2 PySem.MeetsSeq3
end
section
variable {prog:Program} {w:World} {A:Around} {E:QS} {s:Shared}
theorem cat_tup{t b:Addr}{vs ws:Œ}{Q:QS}(ht:IsTup s.heap t vs.toArray)(hb:IsTup s.heap b ws.toArray)(hv:vs≠[])
  (h1:ws=[]->Q (.ref t) s) (h2:ws≠[]->Q (.ref s.heap.objs.size) {s with heap:=s.heap.push {cls:=.type "tuple",data:=.seq (vs++ws).toArray}})
  (hsz:vs.length+ws.length<=sizeLine):wpAny (model prog w) A (binaryOp .Add (.ref t)<|.ref b) Q E s:=by
 obtain⟨⟨cls,dd,data,sl⟩,ho,hc,n,hd⟩:=id ht;obtain⟨⟨cls2,z,data2,J⟩,H,P,n2,L⟩:=id hb;simp only at hc hd P L;subst hc hd P L;have e:vs.toArray++ws.toArray=(vs++ws).toArray:=by simp
 by_cases S:ws=[]
 .exact concat_meets ⟨_,ho,rfl⟩ ⟨_,H,rfl⟩ noFill_tuple_add seq_tuple_add PySem.F.slot_tuple_add PySem.F.entry_tuple_add (PySem.F.args_tuple_add_2 _ _)
   (tuple_addW1 t b vs.toArray ws.toArray n n2 dd z sl J (by simpa using hv)<|by simp[S]) ⟨ho,H,h1 S⟩
 .refine concat_meets ⟨_,ho,rfl⟩ ⟨_,H,rfl⟩ noFill_tuple_add seq_tuple_add PySem.F.slot_tuple_add PySem.F.entry_tuple_add (PySem.F.args_tuple_add_2 _ _)
   (tuple_addW2 t b vs.toArray ws.toArray n n2 dd z sl J (by simpa using hv) (by simpa using S) (by rw[SF,SF];exact hsz)) ⟨ho,H,?_⟩
  rw[e];exact h2 S
def sIx(n d:Nat):Ŕ->Nat
 |none=>d|some v=>if v<0 then(v+(n:Int)).toNat else min v.toNat n
theorem sIx_none(n d:Nat):sIx n d none=d:=rfl
theorem sIx_nat(n d k:Nat):sIx n d (some (k:Int))=min k n:=by show(if(k:Int)<0 then((k:Int)+(n:Int)).toNat else min (k:Int).toNat n)=min k n;rw[if_neg ⋯,Uw]
theorem Lj(n d:Nat)(hd:d<=n)(o:Ŕ):sIx n d o<=n:=by
 cases o with
 |none=>exact hd|some v=>
  show(if v<0 then(v+(n:Int)).toNat else min v.toNat n)<=n;by_cases H:v<0
  .rw[if_pos H];omega
  .rw[if_neg H];exact VC _ _
theorem AW(v:Int)(n d:Nat):(if v<0 then max (v+(n:Int)) 0 else min v (n:Int))=((sIx n d (some v):Nat):Int):=by
 show(if v<0 then max (v+(n:Int)) 0 else min v (n:Int))=(((if v<0 then(v+(n:Int)).toNat else min v.toNat n):Nat):Int)
 by_cases H:v<0
 .simp only[if_pos H];omega
 .simp only[if_neg H];omega
theorem Lw(lo hi:Ŕ)(n:Nat):Builtin.Slice.sliceAdjust lo hi 1 (n:Int)=(((sIx n 0 lo:Nat):Int),((sIx n n hi:Nat):Int)):=by
 have H:¬((1:Int)<0):=by omega
 unfold Builtin.Slice.sliceAdjust;simp only[H,if_false];refine Prod.ext ?_ ?_
 .cases lo with
  |none=>rfl|some v=>exact AW v n 0
 .cases hi with
  |none=>rfl|some v=>exact AW v n n
theorem Q6(i j:Nat):Builtin.Slice.slicePlaces (i:Int) (j:Int) 1=j - i:=by
 unfold Builtin.Slice.slicePlaces;have H:(1:Int)>0:=by omega
 simp only[H,if_true,Int.ediv_one];split<;>omega
theorem qr{v:Value}{o:Ŕ}{Q:Ŕ->Shared->Prop}(p:IsPart v o)(h:Q o s):wpAny (model prog w) A (Builtin.Slice.slicePartIndex v) Q E s:=by
 cases p with
 |none=>exact slicePart_none h|int i t=>exact slicePart_int h
theorem Fi{sl:Addr}{F z:Value}{lo hi:Ŕ}{n:Nat}{Q:Int×Int×Nat->Shared->Prop}(S:s.heap.IsSliceOf sl F z .none)(pl:IsPart F lo)(pu:IsPart z hi)
  (h:Q (((sIx n 0 lo:Nat):Int),1,sIx n n hi - sIx n 0 lo) s):wpAny (model prog w) A (Builtin.Slice.sliceApplied (.ref sl)<|pure (n:Int)) Q E s:=by
 obtain⟨os,H,L,J⟩:=id S;unfold Builtin.Slice.sliceApplied Builtin.Slice.sliceFields;refine Sj (Sj<|Us H J (x:=F) rfl (Sj<|Us H J (x:=z) rfl (Sj<|Us H J (x:=.none) rfl (Sk ?_))));refine Sj (slicePart_none ?_);show wpAny _ _ (if((1:Int)==0)=true then _ else _) _ _ s;rw[if_neg (by decide)];refine Sj (qr pl<|Sj<|qr pu<|Sj<|Sk ?_);show wpAny _ _ (match Builtin.Slice.sliceAdjust lo hi 1 (n:Int) with|(lo,hi)=>pure (lo,(1:Int),Builtin.Slice.slicePlaces lo hi 1)) _ _ s;rw[Lw lo hi n];show wpAny _ _ (pure (((sIx n 0 lo:Nat):Int),(1:Int),Builtin.Slice.slicePlaces ((sIx n 0 lo:Nat):Int) ((sIx n n hi:Nat):Int) 1)) _ _ s;rw[Q6];exact Sk h
theorem Gg(xs:Array Value)(i k:Nat):((List.range k).filterMap fun(m:Nat)=>xs[((i:Int)+(m:Int)*1).toNat]?).toArray=((xs.toList.drop i).take k).toArray:=by
 have e:(fun(m:Nat)=>xs[((i:Int)+(m:Int)*1).toNat]?)=fun m=>xs[i+m]?:=by
  funext m;have:((i:Int)+(m:Int)*1).toNat=i+m:=by omega
  rw[this]
 rw[e];have:=pick_run xs i k;rw[List.filterMap_map] at this;have H:((fun x=>xs[x]?)∘fun x=>i+x)=fun m=>xs[i+m]?:=rfl;rw[H] at this;rw[this]
theorem getItem_tuple_cut{t sl:Addr}{items:Array Value}{vl S:Value}{lo hi:Ŕ}{Q:QS}(z:IsTup s.heap t items)(hs:s.heap.IsSliceOf sl vl S .none)(pl:IsPart vl lo)(pu:IsPart S hi)
  (hw:¬(sIx items.size 0 lo=0/\sIx items.size items.size hi=items.size))
  (h:Q (.ref s.heap.objs.size) {s with heap:=s.heap.push {cls:=.type "tuple",data:=.seq ((items.toList.drop<|sIx items.size 0 lo).take (sIx items.size items.size hi - sIx items.size 0 lo)).toArray}})
  (hsz:items.size<=sizeLine):wpAny (model prog w) A (getItem (.ref t)<|.ref sl) Q E s:=by
 have H:sizeOk (.seq ((items.toList.drop<|sIx items.size 0 lo).take (sIx items.size items.size hi - sIx items.size 0 lo)).toArray):=by show((items.toList.drop<|sIx items.size 0 lo).take (sIx items.size items.size hi - sIx items.size 0 lo)).toArray.size<=sizeLine;rw[SF,UG,List.length_drop,T2];omega
 have hj:sIx items.size items.size hi<=items.size:=Lj _ _ (Sm _) hi;obtain⟨os,J,P,hds⟩:=id hs;have F:s.TypeIs (.ref sl) "slice":=⟨os,J,P⟩
 unfold getItem;try with_reducible refine TY ?_
 first|refine Sj (Sk ?_)|skip
 refine Sj (wpAny_sequenceKey z.typeIs (by decide) ?_);refine Sj (UW (name:=Str.ofString "__getitem__") z.typeIs TB
  (Up TB z.typeIs entry_tuple_getitem ?_<|args_tuple_getitem _ _))
 show wpAny _ _ (Builtin.Tuple.tupleItemsOf (.ref t) >>= _) _ _ s;refine Sj (tupleItemsOf_ z ?_);refine Sj (wpAny_typeOf F ?_);rw[if_pos (by decide)];refine Sj (Fi hs pl pu ?_);have L:¬((((sIx items.size 0 lo:Nat):Int)==0&&(1:Int)==1&&(sIx items.size items.size hi - sIx items.size 0 lo)==items.size)=true):=by intro q;rw[SG,SG] at q;have q1:((sIx items.size 0 lo:Nat):Int)=0:=eq_of_beq q.1.1;have q2:sIx items.size items.size hi - sIx items.size 0 lo=items.size:=eq_of_beq q.2;exact hw ⟨by omega,by omega⟩
 show wpAny _ _ (if(((sIx items.size 0 lo:Nat):Int)==0&&(1:Int)==1&&(sIx items.size items.size hi - sIx items.size 0 lo)==items.size)=true then _ else _) _ _ s;rw[if_neg L,Gg];first
  |exact Sj (m:=Builtin.Tuple.tupleExact _) (Tc (Sk ⟨_,rfl,Sk h⟩) H)
  |exact Sj (m:=Builtin.Tuple.tupleExact _) (Tc (Sj<|Sk<|Sk ⟨_,rfl,Sk h⟩) H)
  |exact Sj (Sj (m:=Builtin.Tuple.tupleExact _)<|Tc (Sk<|Sk ⟨_,rfl,Sk h⟩) H)
  |exact Sj (Sj (m:=Builtin.Tuple.tupleExact _)<|Tc (Sk ⟨_,rfl,Sk h⟩) H)
end
end HT
namespace L2
open PySem PySem.Spec PyProof.Rows
abbrev TO:=St->Hp->(Ŕ->Hp->Prop)->Prop
def PO(X:Cx)(e:Option Expr)(t:TO):Prop:=
 ∀(pins:SB) (s:Shared) (J:St) (H:Hp) (Q:Ŕ->Hp->Prop),Inv X pins J H s->t J H Q->
  wpAny (model X.prog X.w) X.A (evalPart e X.env) (fun u s'=>∃o H',Inv X pins J H' s'/\IsPart u o/\Q o H') X.xe s
def K2:TO:=fun _ H Q=>Q none H
def LM(t:TE):TO:=fun J H Q=>t J H fun x H1=>∃i,x=.int i/\Q (some i) H1
def C3:∀{us:Œ},Vals (ns.map V.int) us->IntsAre us ns:=by
 induction ns with
 |nil=>intro us r;rw[U4] at r;cases r;exact .nil
 |cons n ns L=>
  intro us r;rw[Sz] at r;cases r with
  |cons J H=>
   obtain⟨t,e⟩:=J;subst e;exact(.cons n t<|L H)
section
variable {X:Cx} {e:Expr} {te:TE} {lo hi:Option Expr} {tl th:TO} {pos p2:Pos}
theorem JV:PO X none K2:=by intro pins s J H Q I h;rw[VV];exact Sk ⟨none,H,I,.none,h⟩
theorem LR(h:PE X e te):PO X (some e) (LM te):=by intro pins s J H Q I P;rw[evalPart_some];refine V0 (h pins s J H _ I P) fun u s1 z=>?_;obtain⟨x,S,F,L,q1⟩:=z;obtain⟨i,rfl,q⟩:=q1;obtain⟨t,rfl⟩:=L;exact(⟨some i,S,F,.int i t,q⟩)
def τ(X:Cx)(r:V->Ŕ->Ŕ->Hp->VK->Prop):Prop:=
 ∀(pins:SB) (s:Shared) (J:St) (H:Hp) (x:V) (v P L:Value) (lo hi:Ŕ) (sl:Addr) (Q:VK),Inv X pins J H s->RelV x v->s.heap.IsSliceOf sl P L .none->IsPart P lo->IsPart L hi->r x lo hi H Q->
  ∃T id,typeLookup (.type T) "__getitem__"=pure (some<|.builtin id)/\s.TypeIs v T/\wpAny (model X.prog X.w) X.A (getItem v<|.ref sl) (EP X pins J Q) X.xe s
theorem τ.or{r F:V->Ŕ->Ŕ->Hp->VK->Prop}(h:τ X r)(h':τ X F):τ X (fun x lo hi H Q=>r x lo hi H Q\/F x lo hi H Q):=by
 intro pins s J H x v P L lo hi sl Q I z S pl pu q;rcases q with q|q
 .exact h pins s J H x v P L lo hi sl Q I z S pl pu q
 .exact h' pins s J H x v P L lo hi sl Q I z S pl pu q
def Y'(r:V->Ŕ->Ŕ->Hp->VK->Prop)(te:TE)(tl th:TO):TE:=fun J H Q=>te J H fun x H1=>tl J H1 fun l P=>th J P fun u L=>r x l u L Q
theorem Kx{r:V->Ŕ->Ŕ->Hp->VK->Prop}(hr:τ X r)(he:PE X e te)(hl:PO X lo tl)(hu:PO X hi th):PE X (.Subscript e (.Slice lo hi none p2) pos) (Y' r te tl th):=by intro pins s J H Q I h;refine Subscript_ (V0 (he pins s J H _ I h) fun v s1 F=>?_);obtain⟨x,H1,I1,r1,q1⟩:=F;refine(wpAny_Slice<|V0 (hl pins s1 J H1 _ I1 q1) fun z s2 ⟨l,H2,I2,pl,q2⟩=>V0 (hu pins s2 J H2 _ I2 q2) fun P L F=>?_);obtain⟨u,S,I3,pu,q3⟩:=F;rw[VV];refine Sk ?_;have I4:Inv X pins J S {L with heap:=L.heap.push {cls:=.type "slice",data:=.fields #[z,P,.none]}}:=I3.kept (t':=L.toks) fun b ob q=>Sl _ q;obtain⟨T,id,hT,ht,hg⟩:=hr pins {L with heap:=L.heap.push {cls:=.type "slice",data:=.fields #[z,P,.none]}} J S x v z P l u L.heap.objs.size Q I4 r1 (Heap.IsSliceOf.new ..) pl pu q3;show wpAny (model X.prog X.w) X.A (subscriptTail e (.Slice lo hi none p2) v<|.ref L.heap.objs.size) (EP X pins J Q) X.xe {L with heap:=L.heap.push {cls:=.type "slice",data:=.fields #[z,P,.none]}};exact tail_any (ops:=[.ref L.heap.objs.size,v]) ht hT hg (by with_unfolding_all rfl)
def jL(xs:ŗ)(lo hi:Ŕ):ŗ:=(xs.drop<|HT.sIx xs.length 0 lo).take (HT.sIx xs.length xs.length hi - HT.sIx xs.length 0 lo)
theorem BD(xs:ŗ)(lo hi:Ŕ):(jL xs lo hi).length<=xs.length:=by unfold jL;rw[UG,List.length_drop];omega
def IC(K:Frag):V->Ŕ->Ŕ->Hp->VK->Prop:=fun x lo hi H Q=>∃a xs,x=.ref a/\Wx K H a xs/\
 ¬(HT.sIx xs.length 0 lo=0/\HT.sIx xs.length xs.length hi=xs.length)/\∀p,H p=none->Q (.ref p) (upd H p<|.tup<|jL xs lo hi)
theorem Yt:τ X (IC X.K):=by
 intro pins s J H x v vl vu lo hi sl Q I F hs pl pu h;obtain⟨a,xs,rfl,S,hw,q⟩:=h;cases F;obtain⟨L,r,z,P⟩:=I.tuple S;have hlen:L.toArray.size=xs.length:=by rw[SF];exact r.length.symm
 refine(⟨"tuple",_,TB.lookup,z.typeIs,?_⟩);refine HT.getItem_tuple_cut z hs pl pu (by rw[hlen];exact hw) ?_ (by rw[hlen];exact P);rw[hlen];refine⟨.ref s.heap.objs.size,_,I.laid (t':=s.toks) (o:=.tup (jL xs lo hi)) (fun b ob q=>Sl _ q) (Sm _) ?_,rfl,q _<|I.hok.fresh<|Sm _⟩;exact⟨S1 (BD xs lo hi) P,_,(r.drop<|HT.sIx xs.length 0 lo).take (HT.sIx xs.length xs.length hi - HT.sIx xs.length 0 lo),IsTup.new _ _⟩
def DK(K:Frag):R2:=fun x y H Q=>∃a b xs ys,x=.ref a/\y=.ref b/\Wx K H a xs/\Wx K H b ys/\xs≠[]/\xs.length+ys.length<=sizeLine/\
 (ys=[]->Q (.ref a) H)/\(ys≠[]->∀p,H p=none->Q (.ref p) (upd H p<|.tup<|xs++ys))
theorem Vals.nil_iff{xs:ŗ}{us:Œ}(r:Vals xs us):us=[]↔xs=[]:=by
 cases r with
 |nil=>simp|cons _ _=>simp
theorem Qb:Wh X (binaryOp .Add) (DK X.K):=by intro pins s J H x y v u Q I rx ry h;obtain⟨a,b,xs,ys,rfl,rfl,ha,hb,hx,S,q1,q2⟩:=h;cases rx;cases ry;obtain⟨its,P,p1,_⟩:=I.tuple ha;obtain⟨F,L,p2,_⟩:=I.tuple hb;refine HT.cat_tup p1 p2 (fun z=>hx<|P.nil_iff.mp z) (fun z=>⟨.ref a,H,I,rfl,q1<|L.nil_iff.mp z⟩) (fun z=>?_) (by rw[←P.length,←L.length];exact S);refine⟨.ref s.heap.objs.size,_,I.laid (t':=s.toks) (o:=.tup (xs++ys)) (fun b ob q=>Sl _ q) (Sm _) ?_,rfl,q2 (fun w=>z<|L.nil_iff.mpr w) _<|I.hok.fresh<|Sm _⟩;exact⟨by rw[S9];exact S,_,P.append L,IsTup.new _ _⟩
end
def Xk(n:Nat)(i:Int):Option Nat:=if 0<=i then(if i<n then some i.toNat else none) else if -(n:Int)<=i then some (i+n).toNat else none
def W9{α:Type}(xs:List α)(i:Int):Option α:=(Xk xs.length i).bind fun j=>xs[j]?
def DX{n:Nat}{i:Int}{j:Nat}(h:Xk n i=some j):seqIndex? i n=some j/\j<n/\-(n:Int)<=i/\i<n:=by
 unfold Xk at h;by_cases h0:0<=i
 .rw[if_pos h0] at h;by_cases h1:i<n
  .rw[if_pos h1] at h;have e:i.toNat=j:=SY h;exact⟨by rw[seqIndex_of h0 h1,e],by omega,by omega,h1⟩
  .rw[if_neg h1] at h;cases h
 .rw[if_neg h0] at h;by_cases h1:-(n:Int)<=i
  .rw[if_pos h1] at h;have e:(i+n).toNat=j:=SY h;exact⟨by rw[seqIndex_neg ⋯ h1,e],by omega,h1,by omega⟩
  .rw[if_neg h1] at h;cases h
def yp{α:Type}{xs:List α}{i:Int}{v:α}(h:W9 xs i=some v):∃j,seqIndex? i xs.length=some j/\xs[j]?=some v/\j<xs.length/\-(xs.length:Int)<=i/\i<xs.length:=by
 unfold W9 at h;cases e:Xk xs.length i with
 |none=>rw[e] at h;cases h
 |some j=>
  rw[e] at h;obtain⟨h1,L,J,H⟩:=DX e;exact(⟨j,h1,h,L,J,H⟩)
def JJ{α:Type}{xs:List α}{j:Nat}{v:α}(h:xs[j]?=some v):W9 xs (j:Int)=some v:=by
 have H:j<xs.length:=(Sn.mp h).1;have e:Xk xs.length (j:Int)=some j:=by unfold Xk;rw[if_pos ⋯,if_pos ⋯];simp
 unfold W9;rw[e];exact h
def z7(b:Expr):Prop:=∀o i,subscripted b false o i=operate [o,i] (getItem o i)
def nV(X:Cx)(r:R2):Prop:=
 ∀(value slice:Expr) (pins:SB) (s:Shared) (J:St) (H:Hp) (x y:V) (v u:Value) (Q:VK),Inv X pins J H s->RelV x v->RelV y u->r x y H Q->
  subscripted slice false v u=operate [v,u] (getItem v u)->wpAny (model X.prog X.w) X.A (subscriptTail value slice v u) (EP X pins J Q) X.xe s
def L'(X:Cx)(id:String)(r:V->ŗ->Hp->VK->Prop):Prop:=
 ∀(pins:SB) (s:Shared) (J:St) (H:Hp) (x:V) (xs:ŗ) (v:Value) (us:Œ) (Q:VK),Inv X pins J H s->RelV x v->Vals xs us->r x xs H Q->
  wpAny (model X.prog X.w) X.A (call (.builtin id)<|v::us) (EP X pins J Q) X.xe s
section
variable {X:Cx} {a b:Expr} {ta tb:TE} {pos:Pos}
theorem nV.or{r z:R2}(h:nV X r)(h':nV X z):nV X (fun x y H Q=>r x y H Q\/z x y H Q):=by
 intro value slice pins s J H x y v u Q I P L q F;rcases q with q|q
 .exact h value slice pins s J H x y v u Q I P L q F
 .exact h' value slice pins s J H x y v u Q I P L q F
theorem ME{r:R2}(F:nV X r)(ha:PE X a ta)(S:PE X b tb)(z:z7 b):PE X (.Subscript a b pos) (ql r ta tb):=by intro pins s J H Q I h;exact Subscript_ (wc ha S I h fun v u s2 x y H2 I2 P L q=>F a b pins s2 J H2 x y v u Q I2 P L q<|z _ _)
def D2(K:Frag):R2:=fun x y H Q=>∃p xs i v,x=.ref p/\y=.int i/\WE K H p xs/\W9 xs i=some v/\Q v H
def DL(K:Frag):R2:=fun x y H Q=>∃p xs i v,x=.ref p/\y=.int i/\Wx K H p xs/\W9 xs i=some v/\Q v H
def BP:R2:=fun x y H Q=>∃z i c,x=.str z/\y=.int i/\z.length<=sizeLine/\W9 z.cps.toList i=some c/\Q (.str ⟨#[c]⟩) H
theorem mI:nV X (D2 X.K):=by
 intro value slice pins s J H x y v u Q I rx ry h hs;obtain⟨p,xs,i,z,rfl,rfl,hq,he,q⟩:=h;cases rx;obtain⟨t,rfl⟩:=ry;obtain⟨F,r,pl,hz⟩:=I.list hq;obtain⟨j,L,h2,h3,h4,h5⟩:=yp he;obtain⟨w,ew,P⟩:=r.get h2;have hl:=r.length;have hn:=mV;have fin:EP X pins J Q w s:=⟨z,H,I,P,q⟩
 by_cases h0:0<=i
 .have S:i.toNat=j:=by
   rw[seqIndex_of h0 h5] at L;exact SY L
  exact item_listR pl.isList h0 ⋯ (by rw[S];simpa using ew) fin hs
 .have S:(i+(F.toArray.size:Int)).toNat=j:=by
   rw[seqIndex_neg ⋯ h4] at L;rw[SF,←hl];exact SY L
  exact subscriptTail_builtinR (x:=w) pl.isList.typeIs slot_list_getitem.lookup
   (wpAny_getItem_list_neg (Q:=fun r s'=>r=w/\EP X pins J Q r s') pl.isList ⋯ (by rw[SF]<;>omega) ⋯ (by rw[S];simpa using ew) ⟨rfl,fin⟩) hs
theorem ζ:nV X (DL X.K):=by
 intro value slice pins s J H x y v u Q I F P h hs;obtain⟨p,xs,i,z,rfl,rfl,hq,he,q⟩:=h;cases F;obtain⟨t,rfl⟩:=P;obtain⟨S,r,pl,hz⟩:=I.tuple hq;obtain⟨j,h1,h2,h3,h4,h5⟩:=yp he;obtain⟨w,ew,L⟩:=r.get h2;have hl:=r.length;have hn:=mV;have fin:EP X pins J Q w s:=⟨z,H,I,L,q⟩
 exact subscriptTail_builtinR (x:=w) pl.typeIs slot_tuple_getitem.lookup
  (getItem_tuple (j:=j) (Q:=fun r s'=>r=w/\EP X pins J Q r s') pl ⋯ ⋯ (by rw[SF,←hl];exact h1) (by simpa using ew) ⟨rfl,fin⟩) hs
theorem Pu:nV X BP:=by
 intro value slice pins s J H x y v u Q I F P h S;obtain⟨z,i,c,rfl,rfl,hz,he,q⟩:=h;obtain⟨t,rfl⟩:=F;obtain⟨t',rfl⟩:=P;obtain⟨j,L,h2,h3,h4,h5⟩:=yp he;have hl:z.cps.toList.length=z.length:=by simp[Str.length]
 rw[hl] at L h4 h5;have hn:=mV;exact tail_any (typeIs_str s z t) slot_str_getitem.lookup (getItem_str (c:=c) (by have e1:decide (i< -(2^63:Int))=false:=Sw ⋯;have e2:decide (i>=2^63)=false:=Sw ⋯;rw[e1,e2,Bool.or_false]) (by rw[L];simpa using h2) ⟨.str ⟨#[c]⟩,H,I.tok _,⟨_,rfl⟩,q⟩) S
def Ğ(K:Frag):R2:=fun x y H Q=>D2 K x y H Q\/DL K x y H Q\/BP x y H Q
theorem GZ:nV X (Ğ X.K):=mI.or (ζ.or Pu)
theorem G8(its:Œ)(n j:Nat)(u:Value):Obj.mapSeq (·.setIfInBounds j u) {cls:=.type "list",data:=.seq its.toArray n}={cls:=.type "list",data:=.seq (its.set j u).toArray n}:=by simp[Obj.mapSeq]
theorem Inv.lst{pins:SB}{J:St}{H:Hp}{s:Shared}{p:Addr}{xs:ŗ}(I:Inv X pins J H s)(h:H p=some (.lst xs)):
  ∃(its:Œ) (n:Nat),Vals xs its/\s.heap.get? p=some {cls:=.type "list",data:=.seq its.toArray n}/\xs.length<=sizeLine:=by
 obtain⟨z,its,n,r,e⟩:=I.hok p _ h;exact(⟨its,n,r,e,z⟩)
theorem Inv.lstUpd{pins:SB}{J:St}{H:Hp}{s:Shared}{p:Addr}{xs ys:ŗ}{its its':Œ}{n z:Nat}{f:Obj->Obj}(I:Inv X pins J H s)(h:H p=some (.lst xs))
  (F:s.heap.get? p=some {cls:=.type "list",data:=.seq its.toArray n}) (hf:f {cls:=.type "list",data:=.seq its.toArray n}={cls:=.type "list",data:=.seq its'.toArray z}) (r:Vals ys its') (hz:ys.length<=sizeLine) (t:Nat):
  Inv X pins J (upd H p<|.lst ys) {s with heap:=s.heap.update p f,toks:=t}:=by
 have e:(s.heap.update p f).get? p=some {cls:=.type "list",data:=.seq its'.toArray z}:=by rw[Uv f F (by rw[hf]<;>rfl),hf]
 refine I.write (x:=p) (e:=p) (by rw[h];trivial) (.inl rfl) (fun b u L q=>(T1 _ _<|Ne.symm L).trans q) ⟨_,e⟩ ?_;exact⟨hz,its',z,r,e⟩
def N8:V->V->V->Hp->(Hp->Prop)->Prop:=fun o i v H Q=>∃p xs k j,o=.ref p/\i=.int k/\H p=some (.lst xs)/\Xk xs.length k=some j/\Q (upd H p<|.lst<|xs.set j v)
theorem NQ:zk X N8:=by
 intro pins s J H o i v ov iv u Q I ro ri rv h;obtain⟨p,xs,k,j,rfl,rfl,hp,hj,q⟩:=h;cases ro;obtain⟨t,rfl⟩:=ri;obtain⟨L,n,r,z,hz⟩:=I.lst hp;obtain⟨P,h2,h3,h4⟩:=DX hj;have F:=r.length;have hn:=mV;have I':Inv X pins J (upd H p<|.lst<|xs.set j v) {s with heap:=s.heap.update p (Obj.mapSeq (·.setIfInBounds j u))}:=
  I.lstUpd hp z (G8 L n j u) (r.set rv j) (by rw[Uk];exact hz) s.toks
 by_cases h0:0<=k
 .have S:k.toNat=j:=by
   rw[seqIndex_of h0 h4] at P;exact SY P
  exact PySem.W.ki_setAt z h0 ⋯ (by rw[SF,←F];exact h4) (by rw[S];exact⟨_,I',q⟩)
 .have S:(k+(L.toArray.size:Int)).toNat=j:=by
   rw[seqIndex_neg ⋯ h3] at P;rw[SF,←F];exact SY P
  exact PySem.W.ki_setBack z ⋯ (by rw[SF,←F];exact h3) ⋯ (by rw[S];exact⟨_,I',q⟩)
theorem Ia(lo hi:Ŕ)(n:Nat):(sliceBounds lo hi none n).1=((HT.sIx n 0 lo:Nat):Int)/\(sliceBounds lo hi none n).2.1=((HT.sIx n n hi:Nat):Int)/\(sliceBounds lo hi none n).2.2=1:=by
 refine⟨?_,?_,rfl⟩
 .cases lo with
  |none=>simp[sliceBounds,HT.sIx]|some i=>
   simp only[sliceBounds,HT.sIx,Option.getD_none,show(1:Int)>0 by decide,if_true];by_cases h:i<0
   .simp only[h,if_true]<;>omega
   .simp only[h,if_false]<;>omega
 .cases hi with
  |none=>simp[sliceBounds,HT.sIx]|some i=>
   simp only[sliceBounds,HT.sIx,Option.getD_none,show(1:Int)>0 by decide,if_true];by_cases h:i<0
   .simp only[h,if_true]<;>omega
   .simp only[h,if_false]<;>omega
theorem MC(its:Œ)(lo hi:Ŕ):slicePick its.toArray lo hi none=((its.drop<|HT.sIx its.length 0 lo).take (HT.sIx its.length its.length hi - HT.sIx its.length 0 lo)).toArray:=by obtain⟨L,J,H⟩:=Ia lo hi its.toArray.size;unfold slicePick;rw[L,J,H];simp only[sliceRange_one,pick_run,SF]<;>rfl
def Ri(K:Frag):V->Ŕ->Ŕ->Hp->VK->Prop:=fun x lo hi H Q=>∃a xs,x=.ref a/\WE K H a xs/\∀p,H p=none->Q (.ref p) (upd H p<|.lst<|jL xs lo hi)
theorem ks:τ X (Ri X.K):=by intro pins s J H x v vl vu lo hi sl Q I P hs pl pu h;obtain⟨a,xs,rfl,S,q⟩:=h;cases P;obtain⟨z,r,L,F⟩:=I.list S;have hlen:=r.length;refine(⟨"list",_,slot_list_getitem.lookup,L.isList.typeIs,?_⟩);refine wpAny_getItem_list_slice L.isList hs pl pu .none nofun ?_ (by rw[SF]<;>omega);rw[MC,←hlen];refine⟨.ref s.heap.objs.size,_,I.laid (t':=s.toks) (o:=.lst (jL xs lo hi)) (fun b ob q=>Sl _ q) (Sm _) ?_,rfl,q _<|I.hok.fresh<|Sm _⟩;exact⟨S1 (BD xs lo hi) F,_,0,(r.drop<|HT.sIx xs.length 0 lo).take (HT.sIx xs.length xs.length hi - HT.sIx xs.length 0 lo),SA _ rfl⟩
def jB:V->Bool
 | .non=>true| .bl _=>true| .int _=>true| .str _=>true|_=>false
def ay:V->V->Bool
 | .non,.non=>true| .bl a,.bl b=>a==b| .bl a,.int b=>(if a then 1 else 0)==b| .int a,.bl b=>a==(if b then 1 else 0)| .int a,.int b=>a==b| .str a,.str b=>a==b|_,_=>false
theorem Q2{A:Around}{s:Shared}{y x:V}{u v:Value}(F:RelV y u)(z:RelV x v)(fy:jB y=true)(S:jB x=true):SeqAt.EqAt A s u v (ay y x):=by
 cases y with
 |non=>
  cases F;cases x with
  |non=>cases z;exact SeqAt.EqAt.same _
  |bl b=>cases z;exact SeqAt.EqAt.none_bool b
  |int b=>obtain⟨t,rfl⟩:=z;exact SeqAt.EqAt.none_int b t
  |str b=>obtain⟨t,rfl⟩:=z;exact SeqAt.EqAt.none_str b t
  |_=>exact absurd (show false=true from S) Tn
 |bl a=>
  cases F;cases x with
  |non=>cases z;exact SeqAt.EqAt.bool_none a
  |bl b=>cases z;exact SeqAt.EqAt.bool_bool a b
  |int b=>obtain⟨t,rfl⟩:=z;exact SeqAt.EqAt.bool_int a b t
  |str b=>obtain⟨t,rfl⟩:=z;exact SeqAt.EqAt.bool_str a b t
  |_=>exact absurd (show false=true from S) Tn
 |int a=>
  obtain⟨H,rfl⟩:=F;cases x with
  |non=>cases z;exact SeqAt.EqAt.int_none a H
  |bl b=>cases z;exact SeqAt.EqAt.int_bool a H b
  |int b=>obtain⟨t,rfl⟩:=z;exact SeqAt.EqAt.int_int a H b t
  |str b=>obtain⟨t,rfl⟩:=z;exact SeqAt.EqAt.int_str a H b t
  |_=>exact absurd (show false=true from S) Tn
 |str a=>
  obtain⟨H,rfl⟩:=F;cases x with
  |non=>cases z;exact SeqAt.EqAt.str_none a H
  |bl b=>cases z;exact SeqAt.EqAt.str_bool a H b
  |int b=>obtain⟨t,rfl⟩:=z;exact SeqAt.EqAt.str_int a H b t
  |str b=>obtain⟨t,rfl⟩:=z;exact SeqAt.EqAt.str_str a H b t
  |_=>exact absurd (show false=true from S) Tn
 |_=>exact absurd (show false=true from fy) Tn
def nK(x:V)(u:Value):Bool:=match u with
 | .none=>ay .non x| .bool b=>ay (.bl b) x| .int i _=>ay (.int i) x| .str z _=>ay (.str z) x|_=>false
theorem DZ{x y:V}{u:Value}(r:RelV y u)(f:jB y=true):nK x u=ay y x:=by
 cases y with
 |non=>cases r;rfl
 |bl b=>cases r;rfl
 |int i=>obtain⟨t,rfl⟩:=r;rfl
 |str z=>obtain⟨t,rfl⟩:=r;rfl
 |_=>exact absurd (show false=true from f) Tn
theorem u6{x:V}:∀{xs:ŗ} {us:Œ},Vals xs us->xs.all jB=true->us.any (nK x)=xs.any fun y=>ay y x
 |_,_,.nil,_=>rfl|y::xs,u::us,.cons r t,f=>by rw[VA,SG] at f;rw[T6,T6,DZ r f.1,u6 t f.2]
theorem xm{A:Around}{s:Shared}{x:V}{v:Value}(z:RelV x v)(F:jB x=true):∀{xs:ŗ} {us:Œ},Vals xs us->xs.all jB=true->∀u∈us,SeqAt.EqAt A s u v (nK x u)
 |_,_,.nil,_=>fun u H=>by cases H
 |y::xs,u::us,.cons r t,f=>fun J H=>by
  rw[VA,SG] at f;rcases SI.mp H with rfl|H
  .rw[DZ r f.1];exact Q2 r z f.1 F
  .exact xm z F t f.2 J H
def Κ(x:V)(xs:ŗ):Bool:=xs.any fun y=>ay y x
def Ç(K:Frag)(neg:Bool):R2:=fun x y H Q=>∃p xs,y=.ref p/\(WE K H p xs\/Wx K H p xs)/\jB x=true/\xs.all jB=true/\Q (.bl<|if neg then !Κ x xs else Κ x xs) H
theorem Ol:Wh X (compareOp .NotIn) (Ç X.K true):=by
 intro pins s J H x y v u Q I F ry h;obtain⟨p,xs,rfl,P,S,fs,q⟩:=h;cases ry;rcases P with P|P
 .obtain⟨L,r,pl,hz⟩:=I.list P;refine SeqAt.notIn_listAt (nK x) pl.isList (fun w z=>xm F S r fs w<|by simpa using z) ⟨.bl _,H,I,rfl,?_⟩;rw[show L.toArray.any (nK x)=L.any (nK x) by simp,u6 r fs];exact q
 .obtain⟨L,r,pl,hz⟩:=I.tuple P;refine SeqAt.notIn_tupleAt (nK x) pl (fun w z=>xm F S r fs w<|by simpa using z) ⟨.bl _,H,I,rfl,?_⟩;rw[show L.toArray.any (nK x)=L.any (nK x) by simp,u6 r fs];exact q
theorem G4:iE X (.builtin "len") (fun xs H Q=>∃p ys,xs=[.ref p]/\(WE X.K H p ys\/Wx X.K H p ys)/\Q (.int ys.length) H):=by
 intro pins s J H xs us Q I r h;obtain⟨p,ys,rfl,L,q⟩:=h;obtain⟨u,rfl,F⟩:=kr r;cases F;have hn:=mV;rcases L with L|L
 .obtain⟨z,P,pl,S⟩:=I.list L;have hlen:=P.length;exact Calls.call_len_list pl.isList (by simp only[SF]<;>omega) ⟨.int ys.length,H,I.tok _,⟨s.toks+1,by rw[SF,hlen]⟩,q⟩
 .obtain⟨z,P,pl,S⟩:=I.tuple L;have hlen:=P.length;exact len_tuple pl (by simp only[SF]<;>omega) ⟨.int ys.length,H,I.tok _,⟨s.toks+1,by rw[SF,hlen]⟩,q⟩
theorem Rc:iE X (.type "tuple") (fun xs H Q=>∃p ys,xs=[.ref p]/\((WE X.K H p ys/\∀l,H l=none->Q (.ref l) (upd H l<|.tup ys))\/(Wx X.K H p ys/\Q (.ref p) H))):=by
 intro pins s J H xs us Q I r h;obtain⟨p,ys,rfl,h⟩:=h;obtain⟨u,rfl,rx⟩:=kr r;cases rx;rcases h with⟨z,q⟩|⟨z,q⟩
 .obtain⟨L,P,pl,F⟩:=I.list z;have hlen:=P.length;refine call_tuple_list pl.isList (fun h' kp=>?_) (by simp only[SF]<;>omega);have S:Inv X pins J H {s with heap:=h'}:=I.kept (t':=s.toks) kp;have I2:Inv X pins J (upd H h'.objs.size<|.tup ys) {s with heap:=h'.push {cls:=.type "tuple",data:=.seq L.toArray}}:=
   S.laid (t':=s.toks) (fun b o e=>Sl _ e) (Sm _) (show V9 X.prog X.w _ _ _ (.tup ys) from⟨F,L,P,IsTup.new _ _⟩)
  exact⟨.ref h'.objs.size,_,I2,rfl,q _<|S.hok.fresh<|Sm _⟩
 .obtain⟨L,P,pl,F⟩:=I.tuple z;exact call_tuple_same pl ⟨.ref p,H,I,rfl,q⟩
def ϋ(K:Frag)(T:String)(x:V)(H:Hp):Prop:=match x with
 | .str _=>T="str"| .int _=>T="int"| .ref p=>(T="list"/\ ∃xs,WE K H p xs)\/(T="tuple"/\ ∃o,K.lookup p=some o/\o.cls=.type "tuple"/\o.dict=none)\/
   (T="dict"/\((∃kvs,H p=some (.dK kvs))\/∃kvs,H p=some (.dT kvs)))\/(T="set"/\ ∃S n,H p=some (.set S n))
 |_=>False
theorem zC{pins:SB}{J:St}{H:Hp}{s:Shared}{T:String}{x:V}{v:Value}(I:Inv X pins J H s)(r:RelV x v)(ty:ϋ X.K T x H):
  s.TypeIs v T/\∀a,v=.ref a->∃ob,s.heap.get? a=some ob/\ob.dict=none:=by
 cases x with
 |str z=>
  obtain⟨t,rfl⟩:=r;cases (show T="str" from ty);exact⟨typeIs_str s z t,fun _ e=>nomatch e⟩
 |int i=>
  obtain⟨t,rfl⟩:=r;cases (show T="int" from ty);exact⟨VI s i t,fun _ e=>nomatch e⟩
 |ref p=>
  cases r;rcases ty with⟨rfl,xs,hq⟩|⟨rfl,o,L,hc,hd⟩|⟨rfl,L⟩|⟨rfl,S,n,L⟩
  .obtain⟨F,_,pl,_⟩:=I.list hq;refine⟨pl.isList.typeIs,fun a e=>?_⟩;cases e;obtain⟨o,n,e,c,hd,_⟩:=pl;exact(⟨o,e,hd⟩)
  .refine⟨⟨o,I.kIn p o L,hc⟩,fun a e=>?_⟩;cases e;exact⟨o,I.kIn _ o L,hd⟩
  .have z:∃o,s.heap.get? p=some o/\o.ExactDict:=by
    rcases L with⟨kvs,L⟩|⟨kvs,L⟩
    .obtain⟨_,_,_,_,o,_,_,e,ex,_⟩:=I.hok p _ L;exact⟨o,e,ex⟩
    .obtain⟨_,_,_,_,o,_,_,e,ex,_⟩:=I.hok p _ L;exact⟨o,e,ex⟩
   obtain⟨o,e,ex⟩:=z;refine(⟨⟨o,e,ex.1⟩,fun a P=>?_⟩);cases P;exact⟨o,e,ex.2.1⟩
  .obtain⟨o,_,_,_,e,ex,_⟩:=I.hok p _ L;refine⟨⟨o,e,ex.1⟩,fun a P=>?_⟩;cases P;exact⟨o,e,ex.2.1⟩
 |_=>exact False.elim ty
def xD(K:Frag)(T:String)(r:V->ŗ->Hp->VK->Prop)(to:TE):TE:=fun J H Q=>to J H fun x H1=>ϋ K T x H1/\r x [] H1 Q
def Α(K:Frag)(T:String)(r:V->ŗ->Hp->VK->Prop)(to:TE)(t:TA):TE:=fun J H Q=>to J H fun x H1=>ϋ K T x H1/\t J H1 fun xs L=>r x xs L Q
variable {o e:Expr} {es:Ř} {to:TE} {t:TA} {name:Str} {apos Wa:Pos} {T id:String} {r:V->ŗ->Hp->VK->Prop}
theorem Aa(pa:PlainAttrs T)(slot:Slot T name id)(S:typeOf (.builtin id)=pure (.type "method_descriptor")) (hm:L' X id r) (ho:PE X o to)
  (F:attributeBase o name X.env (eval o X.env)=eval o X.env:=by rfl) (z:(apos.endLine==Wa.line)=true:=by rfl):PE X (.Call (.Attribute o name apos) [] [] Wa) (xD X.K T r to):=by
 intro pins s J H Q I h;refine wpAny_Call_method0_late F z (V0 (ho pins s J H _ I h) fun v s1 hm=>?_);obtain⟨x,H1,P,L,ty,q1⟩:=hm;obtain⟨h1,h2⟩:=zC P L ty;exact(⟨T,id,pa,slot,S,h1,h2,Calls.callWith_builtin rfl (PySem.evalArgs_none<|hm pins s1 J H1 x [] v [] Q P L .nil q1)⟩)
theorem rh(pa:PlainAttrs T)(slot:Slot T name id)(_i:typeOf (.builtin id)=pure (.type "method_descriptor")) (hm:L' X id r) (ho:PE X o to) (ha:PA X (e::es) t)
  (S:attributeBase o name X.env (eval o X.env)=eval o X.env:=by rfl)
  (hfew:((backTo Wa<|starEach (e::es) X.env).all (fun x=>!x.1)&&(backToKw Wa<|keywordEach [] X.env).all (fun x=>x.1.isSome)
   &&decide ((e::es).length+([]:Ť).length+(if([]:Ť).isEmpty then 0 else 1)<30))=true:=by rfl)
  (F:(apos.endLine==Wa.line)=true:=by rfl) (hs:X9 X e es:=by rfl) (z:(backTo Wa<|starEach es X.env).any (·.1)=false:=by rfl):
  PE X (.Call (.Attribute o name apos) (e::es) [] Wa) (Α X.K T r to t):=by
 intro pins s J H Q I h;refine wpAny_Call_method_late S hfew F rfl (V0 (ho pins s J H _ I h) fun v s1 hm=>?_);obtain⟨x,H1,I1,L,ty,q1⟩:=hm;obtain⟨h1,h2⟩:=zC I1 L ty;refine(⟨T,id,pa,slot,_i,h1,h2,?_⟩);have P:=ha Wa pins s1 J H1 _ I1 q1;rw[hs] at P⊢;refine Calls.callWith_builtin (by show(false||(backTo Wa<|starEach es X.env).any (·.1))=false;rw[z]<;>rfl) (Calls.evalArgs_plain ?_);exact V0 P fun us s2 ⟨vs,H2,I2,r2,q2⟩=>hm pins s2 J H2 x vs v us Q I2 L r2 q2
end
def Τ(X:Cx)(id:String)(r:V->ŗ->Hp->VK->Prop):Prop:=
 ∀(pins:SB) (s:Shared) (J:St) (H:Hp) (x:V) (xs:ŗ) (v:Value) (us:Œ) (Q:VK),Inv X pins J H s->RelV x v->Vals xs us->r x xs H Q->
  wpAny (model X.prog X.w) X.A (call (.builtin id)<|v::us) (EP X pins J Q) X.xe s
def Vals.one{x:V}{us:Œ}(h:Vals [x] us):∃u,us=[u]/\RelV x u:=by cases h with|cons r t=>cases t;exact⟨_,rfl,r⟩
def Vals.two{x y:V}{us:Œ}(h:Vals [x,y] us):∃u v,us=[u,v]/\RelV x u/\RelV y v:=by cases h with|cons r t=>obtain⟨v,rfl,q⟩:=Vals.one t;exact⟨_,v,rfl,r,q⟩
theorem Vals.zero:∀{us:Œ},Vals [] us->us=[]
 |_,.nil=>rfl
theorem Vals.rep{xs:ŗ}{us:Œ}(h:Vals xs us):∀k:Nat,Vals (List.replicate k xs).flatten (List.replicate k us).flatten
 |0=>.nil|k+1=>by rw[Ub,Ub,Ux,Ux];exact Vals.append h (Vals.rep h k)
theorem Bb(its:Œ):∀(k:Nat) (acc:Œ),
  List.foldl (fun F z=>F++z) acc.toArray (List.replicate k its.toArray)=(acc++(List.replicate k its).flatten).toArray
 |0,acc=>by simp|k+1,acc=>by
  have e:acc.toArray++its.toArray=(acc++its).toArray:=by simp
  have H:(acc++its)++(List.replicate k its).flatten=acc++(List.replicate (k+1) its).flatten:=by rw[Ub,Ux,U5]
  rw[←H,←Bb its k (acc++its),←e,Ub,List.foldl_cons]
section
variable {X:Cx} {pins:SB} {J:St} {H:Hp} {s:Shared} {l:Addr} {xs ys:ŗ}
theorem Inv.lset{its its':Œ}{n:Nat}{f:Array Value->Array Value}{t':Nat}(I:Inv X pins J H s)(F:H l=some (.lst xs))
  (e:s.heap.get? l=some {cls:=.type "list",data:=.seq its.toArray n}) (hf:f its.toArray=its'.toArray) (z:Vals ys its') (hz:ys.length<=sizeLine):
  Inv X pins J (upd H l<|.lst ys) {s with heap:=s.heap.update l (Obj.mapSeq f),toks:=t'}:=by
 have q:=PySem.IsL.update e f;rw[hf] at q;refine I.write (x:=l) (e:=l) (by rw[F];exact trivial) (.inl rfl) (fun S u P L=>(T1 s.heap (Obj.mapSeq f)<|Ne.symm P).trans L) ⟨_,q⟩ ?_;exact⟨hz,its',_,z,q⟩
theorem Inv.lnew(I:Inv X pins J H s)(z:Vals ys its)(hz:ys.length<=sizeLine):
  Inv X pins J (upd H s.heap.objs.size<|.lst ys) {s with heap:=s.heap.push {cls:=.type "list",data:=.seq its.toArray},toks:=t'}:=
 I.laid (fun _ _ q=>Sl _ q) (Sm _) ⟨hz,its,0,z,SA _ rfl⟩
theorem Inv.fresh(I:Inv X pins J H s):H s.heap.objs.size=none:=I.hok.fresh (Sm _)
theorem Inv.lstM(I:Inv X pins J H s)(F:H l=some (.lst xs)):xs.length<=sizeLine/\∃(its:Œ) (n:Nat),Vals xs its/\xs.length=its.length/\s.heap.get? l=some {cls:=.type "list",data:=.seq its.toArray n}:=by obtain⟨z,its,n,r,e⟩:=I.hok l _ F;exact(⟨z,its,n,r,r.length,e⟩)
theorem Kn(h:n<=sizeLine):Builtin.List.listTooLong n=false:=by unfold Builtin.List.listTooLong;exact Sw ⋯
end
section
variable {X:Cx}
def Di:V->ŗ->Hp->VK->Prop:=fun x vs H Q=>∃l xs y,x=.ref l/\vs=[y]/\H l=some (.lst xs)/\xs.length<sizeLine/\Q .non (upd H l<|.lst<|xs++[y])
theorem wM:Τ X "list.append" Di:=by intro pins s J H x vs v us Q I S rv h;obtain⟨l,xs,y,rfl,rfl,P,hz,q⟩:=h;cases S;obtain⟨u,rfl,ru⟩:=rv.one;obtain⟨z,L,n,r,hl,e⟩:=I.lstM P;refine Vt F.slot_list_append ⟨_,e,rfl⟩ F.entry_list_append (F.args_list_append_2 _ _) (PySem.list_append l L.toArray n u (by rw[SF];omega)) ⟨e,?_⟩;refine⟨.non,_,I.lset (its':=L++[u]) P e nofun (r.append<|.cons ru .nil) ?_,rfl,q⟩;rw[S9,Vb];omega
def AX:R2:=fun x y H Q=>∃l b xs zs,x=.ref l/\y=.ref b/\H l=some (.lst xs)/\H b=some (.lst zs)/\xs.length+zs.length<=sizeLine/\∀p,H p=none->Q (.ref p) (upd H p<|.lst<|xs++zs)
theorem zw:Wh X (binaryOp .Add) AX:=by
 intro pins s J H x y v u Q I rx S h;obtain⟨l,b,xs,zs,rfl,rfl,hH,hB,hz,q⟩:=h;cases rx;cases S;obtain⟨z,F,n,r,hl,e⟩:=I.lstM hH;obtain⟨z2,L,n2,r2,hl2,e2⟩:=I.lstM hB;refine PySem.P.add_list e e2 ?_ (by rw[SF,SF];omega);have ea:F.toArray++L.toArray=(F++L).toArray:=by simp
 rw[ea];exact⟨.ref _,_,I.lnew (t':=s.toks) (r.append r2) (by rw[S9];omega),rfl,q _ I.fresh⟩
def BK:R2:=fun x y H Q=>∃l k xs,x=.ref l/\y=.int k/\H l=some (.lst xs)/\-(2^63)<=k/\k<2^63/\xs.length*k.toNat<=sizeLine/\
 ∀p,H p=none->Q (.ref p) (upd H p<|.lst (List.replicate k.toNat xs).flatten)
theorem Ib{α:Type}(xs:List α)(k:Nat):(List.replicate k xs).flatten.length=k*xs.length:=by
 induction k with
 |zero=>simp|succ k H=>rw[Ub,Ux,S9,H,Nat.succ_mul,Nat.add_comm]
theorem HI:Wh X (binaryOp .Mult) BK:=by
 intro pins s J H x y v u Q I rx ry h;obtain⟨l,k,xs,rfl,rfl,hH,h1,h2,hz,q⟩:=h;cases rx;obtain⟨t,rfl⟩:=ry;obtain⟨z,L,n,r,hl,e⟩:=I.lstM hH;have hlen:L.toArray.size*k.toNat<=sizeLine:=by rw[SF,←hl];exact hz
 have ć:¬L.toArray.size*k.toNat>(2^63 - 1)/8:=by
  have:(sizeLine:Nat)<=(2^63 - 1)/8:=by decide
  omega
 have ā:¬(!Builtin.List.listFitsIndex k)=true:=by rw[fitsIndex_both h1 h2];exact Tn
 have P:¬Builtin.List.listTooLong (L.toArray.size*k.toNat)=true:=by rw[Kn hlen];exact Tn
 have S:List.foldl (fun x1 x2=>x1++x2) #[] (List.replicate (if L.toArray.isEmpty=true then 0 else k.toNat) L.toArray)=(List.replicate k.toNat L).flatten.toArray:=by
  have f0:∀m:Nat,List.foldl (fun x1 x2=>x1++x2) #[] (List.replicate m L.toArray)=(List.replicate m L).flatten.toArray:=fun m=>by have:=Bb L m [];rw[List.nil_append] at this;exact this
  rw[f0];cases L with
  |nil=>simp|cons a r'=>rw[if_neg nofun]
 refine wpAny_binaryOp_repeat_ref (T:="list") (U:="int") (by decide) ⟨_,e,rfl⟩ (fun s'=>VI s' k t) noFill_list_mul F.fills_int_mul F.slot_int_rmul repeat_list F.slot_int_index.lookup
  (Vt F.slot_int_rmul (VI s k t) F.entry_int_rmul (F.args_int_rmul_2 _ _) (int___rmul___int_list k t l L.toArray n)
   ⟨e,rfl,⟨_,e,rfl⟩,Vt F.slot_list_mul ⟨_,e,rfl⟩ F.entry_list_mul (F.args_list_mul_2 _ _) (AutoListH.list___mul___list_int_3 l L.toArray n k t ā ć P) ⟨e,?_⟩⟩)
 rw[S];exact⟨.ref _,_,I.lnew (t':=s.toks) (r.rep k.toNat) (by rw[Ib,Vp];exact hz),rfl,q _ I.fresh⟩
end
section
variable {κ:Type} [DecidableEq κ]
def gp(kvs:List (κ×V))(k:κ):ŧ:=(kvs.find? fun H=>decide (H.1=k)).map (·.2)
def fP(kvs:List (κ×V))(k:κ)(v:V):List (κ×V):=
 if(kvs.any fun H=>decide (H.1=k))=true then kvs.map (fun H=>if H.1=k then(H.1,v) else H) else kvs++[(k,v)]
theorem lY{p:κ×V}{r:List (κ×V)}{k:κ}(e:p.1=k):gp (p::r) k=some p.2:=by simp[gp,SH,e]
theorem l8{p:κ×V}{r:List (κ×V)}{k:κ}(e:¬p.1=k):gp (p::r) k=gp r k:=by simp[gp,SH,e]
theorem Da(k:κ):∀kvs:List (κ×V),(kvs.any fun z=>decide (z.1=k))=(gp kvs k).isSome
 | []=>rfl|p::r=>by
  rw[T6];by_cases e:p.1=k
  .simp only[lY e,SK e,Bool.true_or,Uu]
  .rw[l8 e,Sw e,Bool.false_or];exact Da k r
theorem qy(kvs:List (κ×V))(k:κ)(v:V):(fP kvs k v).length<=kvs.length+1:=by
 unfold fP;split
 .rw[Sv];omega
 .rw[S9,SO,List.length_nil];omega
theorem Wy.isSome_eq{o:ŧ}{u:Ŝ}(r:Wy o u):o.isSome=u.isSome:=by
 cases o with
 |none=>cases u with
  |none=>rfl|some _=>exact(show False from r).elim
 |some _=>cases u with
  |none=>exact(show False from r).elim|some _=>rfl
theorem KV.val{kvs:List (κ×V)}{vs:List (κ×Value)}(r:KV kvs vs)(k:κ):Wy (gp kvs k) (valueAt vs k):=by
 unfold KV at r;induction r with
 |nil=>exact True.intro| @cons p q ps H h t P=>
  obtain⟨L,F⟩:=h;by_cases e:p.1=k
  .have J:q.1=k:=L.symm.trans e;have b:valueAt (q::H) k=some q.2:=by simp[valueAt,SH,J]
   rw[lY e,b];exact F
  .have J:¬q.1=k:=fun z=>e (L.trans z);have b:valueAt (q::H) k=valueAt H k:=by simp[valueAt,SH,J]
   rw[l8 e,b];exact P
theorem KV.any{kvs:List (κ×V)}{vs:List (κ×Value)}(r:KV kvs vs)(k:κ):(kvs.any fun z=>decide (z.1=k))=vs.any fun z=>decide (z.1=k):=by
 unfold KV at r;induction r with
 |nil=>rfl|cons h t H=>rw[T6,T6,H,h.1]
theorem KV.repl{kvs:List (κ×V)}{vs:List (κ×Value)}(r:KV kvs vs)(k:κ){y:V}{u:Value}(S:RelV y u):
  KV (kvs.map fun F=>if F.1=k then(F.1,y) else F) (vs.map fun F=>if F.1=k then(F.1,u) else F):=by
 unfold KV at r⊢;induction r with
 |nil=>exact .nil| @cons p q ps P h t J=>
  rw[Sz,Sz];refine .cons ?_ J;obtain⟨H,L⟩:=h;by_cases e:p.1=k
  .rw[if_pos e,if_pos (H.symm.trans e)];exact⟨H,S⟩
  .rw[if_neg e,if_neg (fun z=>e<|H.trans z)];exact⟨H,L⟩
theorem KV.put{kvs:List (κ×V)}{vs:List (κ×Value)}(r:KV kvs vs)(k:κ){y:V}{u:Value}(z:RelV y u):KV (fP kvs k y) (stored vs k u):=by
 unfold fP stored;rw[r.any k];by_cases e:(vs.any fun H=>decide (H.1=k))=true
 .rw[if_pos e,if_pos e];exact r.repl k z
 .rw[if_neg e,if_neg e];exact VQ r ⟨rfl,z⟩
theorem KV.length{kvs:List (κ×V)}{vs:List (κ×Value)}(r:KV kvs vs):kvs.length=vs.length:=UN r
end
def qv{P:Program}{w:World}{k:Key}{u:Value}(r:RelV (kV k) u):(gU P w).is k u=true:=by
 cases k with
 |inl i=>obtain⟨t,e⟩:=(show ∃t,u=Value.int i t from r);subst e;exact Eu P w i t
 |inr x=>obtain⟨t,e⟩:=(show ∃t,u=Value.str x t from r);subst e;exact L6 P w x t
abbrev KT(H:Hp):List (NK×V)->List (NK×Addr×Value)->Prop:=Paired fun p q=>p.1=q.1/\XW H q.2.1 p.1/\RelV p.2 q.2.2
def KT.val{H:Hp}{kvs:List (NK×V)}{xs:List (NK×Addr×Value)}(r:KT H kvs xs)(k:NK):Wy (gp kvs k) ((atKey xs k).map (·.2)):=by
 induction r with
 |nil=>exact True.intro| @cons p q ps J h t P=>
  obtain⟨h1,_,F⟩:=h;by_cases e:p.1=k
  .have L:q.1=k:=h1.symm.trans e;have b:atKey (q::J) k=some q.2:=by simp[atKey,SH,L]
   rw[lY e,b];exact F
  .have L:¬q.1=k:=fun z=>e (h1.trans z);have b:atKey (q::J) k=atKey J k:=by simp[atKey,SH,L]
   rw[l8 e,b];exact P
theorem KT.repl{H:Hp}{kvs:List (NK×V)}{xs:List (NK×Addr×Value)}(r:KT H kvs xs)(k:NK){y:V}{u:Value}(S:RelV y u):
  KT H (kvs.map fun F=>if F.1=k then(F.1,y) else F) (xs.map<|putAt k u):=by
 induction r with
 |nil=>exact .nil| @cons p q ps qs h t P=>
  rw[Sz,Sz];refine .cons ?_ P;obtain⟨J,L,h3⟩:=h;unfold putAt;by_cases e:p.1=k
  .rw[if_pos e,if_pos (J.symm.trans e)];exact⟨J,L,S⟩
  .rw[if_neg e,if_neg (fun z=>e<|J.trans z)];exact⟨J,L,h3⟩
theorem KT.put{H:Hp}{kvs:List (NK×V)}{xs:List (NK×Addr×Value)}(r:KT H kvs xs)(k:NK){b:Addr}{y:V}{u:Value}(F:XW H b k)(z:RelV y u):
  KT H (fP kvs k y) (storedH xs k b u):=by
 have e:(kvs.any fun J=>decide (J.1=k))=(atKey xs k).isSome:=by rw[Da,(r.val k).isSome_eq,U6]
 unfold fP storedH;rw[e];by_cases q:(atKey xs k).isSome=true
 .rw[if_pos q,if_pos q];exact r.repl k z
 .rw[if_neg q,if_neg q];exact VQ r ⟨rfl,F,z⟩
def KT.keeps{H H':Hp}{kvs:List (NK×V)}{xs:List (NK×Addr×Value)}(r:KT H kvs xs)(F:∀b ys,H b=some (.tup ys)->H' b=some (.tup ys)):KT H' kvs xs:=
 Paired.mapP r fun _ _ z=>⟨z.1,z.2.1.up F,z.2.2⟩
section
variable {P:Program} {w:World} {H:Hp} {h:Heap} {a:Addr}
theorem B3{u:HO}(ok:Ww P w H h)(e:Rd H a u):V9 P w H h a u:=e.ok ok
theorem qW{kvs:List (Key×V)}(ok:Ww P w H h)(e:Rd H a (.dK kvs)):kvs.length<=sizeLine/\(a==sysModules)=false/\∃vs,KV kvs vs/\h.DictOf (gU P w) a vs:=
 show V9 P w H h a (.dK kvs) from B3 ok e
theorem l4{kvs:List (Key×V)}(ok:Ww P w H h)(e:H a=some (.dK kvs)):kvs.length<=sizeLine/\(a==sysModules)=false/\∃vs,KV kvs vs/\h.DictOf (gU P w) a vs:=qW ok (.inl e)
theorem zS:∀{z:Ő} {us:Œ},Vals (z.map V.int) us->ItemsAre (intKind P w) z us
 | [],_,r=>by rw[U4] at r;cases r;exact .nil
 |k::z,_,r=>by
  rw[Sz] at r;cases r with
  |cons h t=>
   obtain⟨q,e⟩:=h;subst e;exact .cons (by simp[intKind,Value.isInt]) (zS t)
theorem wo{A:Around}(z:A.units+9<cLine):(mS P w).room A.in1:=by show A.units+1+4<cLine;omega
theorem rK{k:NK}(ok:Ww P w H h)(e:XW H a k):(mS P w).is h k a:=by
 obtain⟨c,e1,e2⟩:=e;obtain⟨_,its,r,o,h1,h2,n,h3⟩:=(show V9 P w H h a (.tup [.ref c,.int k.2]) from ok a _ e1)
 obtain⟨J,u2,rfl,z,t,L⟩:=Vals.two r;obtain rfl:J=Value.ref c:=z;subst L;obtain⟨_,its',F,S,g1,g2,n',g3⟩:=(show V9 P w H h c (.tup<|k.1.map V.int) from ok c _ e2)
 exact⟨o,c,t,n,h1,h2,h3,S,its'.toArray,n',g1,g2,g3,by simpa using zS F⟩
theorem sd{kvs:List (NK×V)}(ok:Ww P w H h)(e:Rd H a (.dT kvs)):kvs.length<=sizeLine/\(a==sysModules)=false/\
  ∃xs,KT H kvs xs/\h.DictOfH (mS P w) a xs:=by
 obtain⟨z,y,xs,r,o,es,ep,h1,h2,h3,h4,S⟩:=(show V9 P w H h a (.dT kvs) from B3 ok e)
 refine(⟨z,y,xs,r,o,es,ep,h1,h2,h3,h4,fun x J=>?_,S⟩);have all:∀{l:List (NK×V)} {m:List (NK×Addr×Value)},KT H l m->∀x∈m,(mS P w).is h x.1 x.2.1:=by
  intro l m q;induction q with
  |nil=>intro x J;exact nomatch J| @cons p q ps qs L t F=>
   intro x J;rcases SI.mp J with e|J
   .subst e;exact rK ok (by rw[←L.1];exact L.2.1)
   .exact F x J
 exact all r x J
theorem P6{kvs:List (NK×V)}(ok:Ww P w H h)(e:H a=some (.dT kvs)):kvs.length<=sizeLine/\(a==sysModules)=false/\
  ∃xs,KT H kvs xs/\h.DictOfH (mS P w) a xs:=sd ok (.inl e)
end
def Xl(H:Hp)(a:Addr)(y:V)(r:ŧ):Prop:=
 (∃kvs k,Rd H a (.dK kvs)/\y=kV k/\r=gp kvs k)\/∃kvs k b,Rd H a (.dT kvs)/\y=.ref b/\XW H b k/\r=gp kvs k
def xk(H:Hp)(a:Addr)(y v:V)(H':Hp):Prop:=
 (∃kvs k,H a=some (.dK kvs)/\y=kV k/\kvs.length<sizeLine/\H'=upd H a (.dK<|fP kvs k v))\/
 ∃kvs k b,H a=some (.dT kvs)/\y=.ref b/\XW H b k/\kvs.length<sizeLine/\H'=upd H a (.dT<|fP kvs k v)
def Xl.k{H:Hp}{a:Addr}{kvs:List (Key×V)}{k:Key}(e:H a=some (.dK kvs)):Xl H a (kV k) (gp kvs k):=.inl ⟨kvs,k,.inl e,rfl,rfl⟩
section
variable {X:Cx} {pins:SB} {J:St} {H:Hp} {s:Shared} {a:Addr} {y v:V} {u r:Value} {o:ŧ} {A:Around} {E:QS}
theorem Inv.big(I:Inv X pins J H s):sysModules<s.heap.objs.size:=by have h:mainGlobals<s.heap.objs.size:=(I.mod.glob.keeps I.bk).lt;exact U7 (by decide) h
theorem HU{Q:QS}(hu:A.units+9<cLine)(I:Inv X pins J H s)(g:Xl H a y (some v))(ry:RelV y u)(h:∀F s',Inv X pins J H s'->RelV v F->Q F s'):
  wpAny (model X.prog X.w) A (getItem (.ref a) u) Q E s:=by
 rcases g with⟨kvs,k,e,ey,l⟩|⟨kvs,k,b,e,ey,eb,l⟩
 .subst ey;obtain⟨z,hd,vs,rel,dd⟩:=qW I.hok e;obtain⟨F,P,L⟩:=Wy.some_of (v:=v) (o:=valueAt vs k) (by rw[l];exact rel.val k);exact(wpAny_getItem_of (qv ry) dd.mapOf P<|h F _ (I.tok _) L)
 .subst ey;cases (show u=Value.ref b from ry);obtain⟨z,hd,xs,rel,dd⟩:=sd I.hok e;obtain⟨F,P,L⟩:=Wy.some_of (v:=v) (o:=(atKey xs k).map (·.2)) (by rw[l];exact rel.val k);obtain⟨p,hp,S⟩:=Option.map_eq_some_iff.mp P;refine(wpAny_getItem_heap (wo hu) (rK I.hok eb) dd hp ?_);rw[S];exact h F _ (I.tok _) L
theorem Ml{Q:QS}(S:A.units+9<cLine)(I:Inv X pins J H s)(g:Xl H a y o)(F:RelV y u)(h:∀s',Inv X pins J H s'->Q (.bool<|!o.isSome) s'):
  wpAny (model X.prog X.w) A (compareOp .NotIn u<|.ref a) Q E s:=by
 rcases g with⟨kvs,k,e,L,l⟩|⟨kvs,k,b,e,L,eb,l⟩
 .subst L;obtain⟨z,hd,vs,rel,dd⟩:=qW I.hok e;refine(wpAny_notIn_of (qv F) hd dd.mapOf ?_);rw[←(rel.val k).isSome_eq,←l];exact h _ (I.tok _)
 .subst L;cases (show u=Value.ref b from F);obtain⟨z,hd,xs,rel,dd⟩:=sd I.hok e;refine(wpAny_notIn_heap (wo S) (rK I.hok eb) hd dd ?_);have q:=(rel.val k).isSome_eq;rw[U6] at q;rw[←q,←l];exact h _ (I.tok _)
theorem rD{h':Heap}{t':Nat}{ob:HO}(I:Inv X pins J H s)(F:ϡ (H a))(S:Heap.SameBut a s.heap h')(he:∃q,h'.get? a=some q)(new:V9 X.prog X.w (upd H a ob) h' a ob):
  Inv X pins J (upd H a ob) {s with heap:=h',toks:=t'}:=
 I.write (x:=a) (e:=a) F (.inl rfl) (fun b q L z=>(S.2 b L).trans z) he new
theorem uv{P:Program}{w:World}{H':Hp}{h':Heap}{kvs:List (Key×V)}{vs:List (Key×Value)}(z:kvs.length<=sizeLine)(hd:(a==sysModules)=false)(rel:KV kvs vs)(dd:h'.DictOf (gU P w) a vs):
  V9 P w H' h' a (.dK kvs):=⟨z,hd,vs,rel,dd⟩
theorem KL{H':Hp}{Q:Unit->Shared->Prop}(hu:A.units+9<cLine)(I:Inv X pins J H s)(g:xk H a y v H')(ry:RelV y u)(rv:RelV v r)(h:∀s',Inv X pins J H' s'->Q () s'):
  wpAny (model X.prog X.w) A (setItem (.ref a) u r) Q E s:=by
 rcases g with⟨kvs,k,e,ey,l,eH⟩|⟨kvs,k,b,e,ey,eb,l,eH⟩
 .subst ey eH;obtain⟨z,hd,vs,rel,dd⟩:=l4 I.hok e;have F:vs.length<=sizeLine:=by rw[←rel.length];exact z
  have hl:(fP kvs k v).length<=sizeLine:=by have:=qy kvs k v;omega
  refine(wpAny_setItem_pairs (hsz:=F) (qv ry) dd fun h' L S=>h _ ?_);have he:∃q,h'.get? a=some q:=let ⟨q,_,_,P,_⟩:=L;⟨q,P⟩
  exact rD I (by rw[e];exact True.intro) S he (uv hl hd (rel.put k rv) L)
 .subst ey eH;cases (show u=Value.ref b from ry);obtain⟨z,hd,xs,rel,dd⟩:=P6 I.hok e;have F:xs.length<=sizeLine:=by rw[←UN rel];exact z
  have hl:(fP kvs k v).length<=sizeLine:=by have:=qy kvs k v;omega
  refine(wpAny_setItem_heap (hsz:=F) (wo hu) (rK I.hok eb) dd fun h' L S=>h _ ?_);obtain⟨q,es,ep,P,h2,h3,h4,_,h5⟩:=L;refine rD I (by rw[e];exact True.intro) S ⟨q,P⟩ ⟨hl,hd,_,(rel.put k eb rv).keeps fun c ys ec=>?_,q,es,ep,P,h2,h3,h4,h5⟩;rw[eG (EM ec e<|fun z=>nomatch z)];exact ec
end
def tM(i:Expr):Prop:=∀H iv,subscripted i false H iv=operate [H,iv] (getItem H iv)
theorem Ie{prog:Program}{w:World}{A:Around}{E:QS}{s:Shared}{env:Env}{value slice:Expr}{pos:Pos}{T id:String}{Q:QS}
  (hl:typeLookup (.type T) "__getitem__"=pure (some<|.builtin id)) (S:tM slice)
  (h:wpAny (model prog w) A (eval value env) (fun o F=>wpAny (model prog w) A (eval slice env) (fun i z=>z.TypeIs o T/\wpAny (model prog w) A (getItem o i) Q E z) E F) E s):
  wpAny (model prog w) A (eval (.Subscript value slice pos) env) Q E s:=by
 refine Subscript_ (Ss h (fun o F P=>Ss P (fun i z H=>?_) fun _ _ x=>x) fun _ _ x=>x);obtain⟨J,H⟩:=H;unfold subscriptTail;refine Sj ?_;rw[getitemInPython_of_ne J.not_modules];refine Sj (UO J hl ?_);have fin:wpAny (model prog w) A (subscripted slice false o i) (fun r L=>wpAny (model prog w) A (letTemporaryGo value o r >>= fun _=>pure r) Q E L) E z:=by rw[S o i];exact wpAny_operating (Ss H (fun r L ZG=>Sj<|wpAny_letTemporaryGo<|Sk ZG) fun _ _ x=>x)
 first
  |exact Sk (Sj fin)
  |exact Sj (Sk<|Sj fin)
  |exact Sj fin
def Pa{X:Cx}{pins:SB}{J:St}{H:Hp}{s:Shared}{a:Addr}{y:V}{o:ŧ}(I:Inv X pins J H s)(g:Xl H a y o):s.TypeIs (.ref a) "dict":=by
 rcases g with⟨kvs,k,e,_,_⟩|⟨kvs,k,b,e,_,_,_⟩
 .obtain⟨_,_,vs,_,dd⟩:=qW I.hok e;exact dd.typeIs
 .obtain⟨_,_,xs,_,dd⟩:=sd I.hok e;exact dd.typeIs
def IZ(td ty:TE):TE:=fun J H Q=>td J H fun x H1=>ty J H1 fun y L=>∃a v,x=.ref a/\Xl L a y (some v)/\Q v L
def Iz(ty td:TE):TE:=fun J H Q=>ty J H fun y H1=>td J H1 fun x L=>∃a o,x=.ref a/\Xl L a y o/\Q (.bl<|!o.isSome) L
def Ko(td ty tv:TE):TS:=fun D J H=>tv J H fun v H1=>td J H1 fun x z=>ty J z fun y P=>∃a L,x=.ref a/\xk P a y v L/\D.nx J L
section
variable {X:Cx} {o i value:Expr} {pos pos':Pos} {td ty tv:TE}
theorem Cs(hu:X.A.units+9<cLine)(ho:PE X o td)(hi:PE X i ty)(hs:tM i):PE X (.Subscript o i pos) (IZ td ty):=by intro pins s J H Q I h;refine Ie PySem.F.slot_dict_getitem.lookup hs (V0 (ho pins s J H _ I h) fun u s1 ⟨x,H1,I1,S,q1⟩=>V0 (hi pins s1 J H1 _ I1 q1) fun iv s2 hm=>?_);obtain⟨y,H2,P,z,a,v,ex,g,q2⟩:=hm;subst ex;obtain rfl:u=Value.ref a:=S;exact⟨Pa P g,HU hu P g z fun w' s3 I3 L=>⟨v,H2,I3,L,q2⟩⟩
theorem Iv(F:X.A.units+9<cLine)(hi:PE X i ty)(S:PE X o td):PC X .NotIn i o (Iz ty td):=by intro pins s J H Q I h;refine V0 (hi pins s J H _ I h) fun iv s1 ⟨y,H1,I1,L,q1⟩=>V0 (S pins s1 J H1 _ I1 q1) fun u s2 hm=>?_;obtain⟨x,H2,I2,P,a,z,ex,g,q2⟩:=hm;subst ex;obtain rfl:u=Value.ref a:=P;exact Ml F I2 g L fun s3 I3=>⟨.bl (!z.isSome),H2,I3,rfl,q2⟩
theorem NG(hu:X.A.units+9<cLine)(ho:PE X o td)(hi:PE X i ty)(S:PE X value tv)(hs:swapsWith value (some<|.Subscript o i pos') pos.line X.env=pure false):
  PS X (.Assign [.Subscript o i pos'] value pos) (Ko td ty tv):=by
 intro pins s J H D I h;refine wpAny_Assign_Subscript (V0 (S pins s J H _ I h) fun r s1 ⟨v,H1,I1,z,q1⟩=>V0 (ho pins s1 J H1 _ I1 q1) fun u s2 ⟨x,H2,I2,P,q2⟩=>V0 (hi pins s2 J H2 _ I2 q2) fun iv s3 hm=>?_) hs;obtain⟨y,H3,I3,L,a,H4,ex,g,F⟩:=hm;subst ex;obtain rfl:u=Value.ref a:=P;exact KL hu I3 g L z fun s4 I4=>⟨J,H4,I4,F⟩
end
def FF{P:Program}{w:World}{H:Hp}(h:Heap)(z:sysModules<h.objs.size):V9 P w H (h.push {cls:=.type "dict",data:=.dict #[]}) h.objs.size (.dK []):=
 ⟨Ta _,beq_eq_false_iff_ne.mpr (Ne.symm<|SQ z),[],.nil,Heap.DictOf.new h⟩
def Hw{P:Program}{w:World}{H:Hp}(h:Heap)(z:sysModules<h.objs.size):V9 P w H (h.push {cls:=.type "dict",data:=.dict #[]}) h.objs.size (.dT []):=
 ⟨Ta _,beq_eq_false_iff_ne.mpr (Ne.symm<|SQ z),[],.nil,_,#[],0,SA _ rfl,⟨rfl,rfl,rfl⟩,rfl,rfl,List.nodup_nil⟩
def GM:TE:=fun _ H Q=>∀p,H p=none->Q (.ref p) (upd H p<|.dK [])
def GX:TE:=fun _ H Q=>∀p,H p=none->Q (.ref p) (upd H p<|.dT [])
section
variable {X:Cx} {pos:Pos}
theorem OZ:PE X (.Dict [] [] pos) GM:=fun pins s J H Q I h=>
 wpAny_Dict_empty ⟨.ref s.heap.objs.size,_,I.laid (a:=s.heap.objs.size) (o:=.dK []) (t':=s.toks) (fun _ _ q=>Sl _ q) (Sm _) (FF s.heap I.big),rfl,h _<|I.hok.fresh<|Sm _⟩
theorem Jw:PE X (.Dict [] [] pos) GX:=fun pins s J H Q I h=>
 wpAny_Dict_empty ⟨.ref s.heap.objs.size,_,I.laid (a:=s.heap.objs.size) (o:=.dT []) (t':=s.toks) (fun _ _ q=>Sl _ q) (Sm _) (Hw s.heap I.big),rfl,h _<|I.hok.fresh<|Sm _⟩
end
end L2
namespace P'
open PySem PySem.W PySem.Calls PyProof.Rows
def R4{P:Params}{h:Heap}:∀(ns:Ő) (vs:Œ),WellAll P h vs (ns.map WData.int)->IntsAre vs ns:=by
 intro ns;induction ns with
 |nil=>
  intro vs w;rw[U4] at w;cases w;exact .nil
 |cons n ns H=>
  intro vs w;rw[Sz] at w;cases w with
  |cons a b=>
   cases a;exact .cons _ _ (H _ b)
theorem Nq{l:OpenLaw}{n:Nat}(hn:l.most=some n){P:Params}{h:Heap}{args:List WData}{vals:Œ}
  (z:l.row.toRowW.claim.pre args=true) (F:WellAll P h vals args):
  ∃a vs ns,vals=[Value.ref a]/\args=[WData.list (ns.map WData.int)]/\h.get? a=some {cls:=.type "list",data:=.seq vs.toArray}/\IntsAre vs ns/\ns.length<=n:=by
 have S:WShape.hasAll [] args [.list .int]=true:=(pre_splitW z).1;have hc:l.pre.holds [] {args:=args}=true:=(pre_splitW z).2;obtain⟨d,r,rfl,h1,h2⟩:=hasAllW_cons S;obtain rfl:=hasAllW_nil h2;obtain⟨xs,rfl,h3⟩:=hasW_list h1;obtain⟨ns,rfl⟩:=items_int h3;have hlen:ns.length<=n:=by
  unfold OpenLaw.pre at hc;have L:(WTm.not<|.lt (.lit<|.int (n:Int))<|.len<|.arg 0).holds [] {args:=[.list (ns.map .int)]}=true:=by have L:=(holds_andW hc).1;rw[hn] at L;exact L
  have J:=condW_of L (w_not<|w_lt w_lit<|w_len_list<|w_arg rfl);rw[Sv] at J;refine Nat.le_of_not_lt fun q=>?_;have q':(n:Int)<((ns.length:Nat):Int):=by omega
  first
   |(rw[SK q'] at J;exact absurd J (by decide))
   |(simp at J;omega)
 cases F with
 |cons w1 w2=>
  cases w2;cases w1 with
  |list ho H=>exact⟨_,_,ns,rfl,rfl,ho,R4 ns _ H,hlen⟩
def IE(l:OpenLaw)(args:List WData):l.row.toRowW.claim.post args (.bool true) args=true:=
 postW_of (r:=l.row.toRowW) (X:=(true==true))
  (show WShape.has [] (.bool true) .bool=true by first|rfl|decide|simp[WShape.has,WShape.arms,WShape.armsAll])
  (show(WTm.eq .res<|.lit<|.bool true).value [] {args:=args,res:=some (.bool true),after:=args}=some (.bool<|true==true) from w_eq_bool (w_res rfl) w_lit) rfl
theorem attach_call{l:OpenLaw}{n:Nat}{q:Program}{loose:Ŗ}{XP:œ->Heap->Prop}{YP:World->Heap->Prop}{d:DefRec}
  (hn:l.most=some n) (ą:d.params.defaults=[])
  (call:∀(w:World) (Z3 z:Shared) (mg S:œ) (F:Addr) (o:Obj) (pm cd doc:Value) (a:Addr) (vs:Œ) (ns:Ő),
   Ground q loose [] XP w Z3 mg S z.heap->YP w z.heap->
   z.heap.get? F=some o->o.data=.func (docDef d.name d.params d.body d.scope pm cd doc)->z.heap.CodeRec cd d.name->mg d.name=some (.ref F)->
   z.heap.get? a=some {cls:=.type "list",data:=.seq vs.toArray}->IntsAre vs ns->ns.length<=n->z.gens=#[]->
   codeAny (model l.prog w) callerA (.call (.ref F) ⟨[.ref a],[]⟩) (fun r s'=>r=.ok (.ret<|.bool true)/\OldK z.heap s'.heap/\s'.os=z.os/\AllBare s'.gens) z):
  WalkO q loose XP YP l.row.toRowW d [] (fun f vs=>PySem.call f vs):=by
 intro w Z3 z mg S G Y F o pm cd doc dV kV ho hd Ν hD P hg args vals as H hlay hrd L ŀ;obtain rfl:dV=.none:=Dflts.none hD ą;obtain rfl:kV=.none:=Dflts.noKw hD;obtain⟨a,vs,ns,rfl,rfl,J,hints,hlen⟩:=Nq hn H L;refine(enter_call<|UE (call w Z3 z mg S F o pm cd doc a vs ns G Y ho (fd_plain hd) Ν P J hints hlen hg) fun r s' hq=>?_);obtain⟨rfl,h2,h3,h4⟩:=hq;exact(⟨.inl ⟨.bool true,.bool true,[],rfl,fun _=>rfl,.bool true,IE l _,fun _=>⟨List.Pairwise.nil,fun _ hm=>(nomatch hm)⟩⟩,h2,h3,h4⟩)
end P'
namespace L2
open PySem PySem.Spec PyProof.Rows
theorem yS:∀{vs:Œ} {ns:Ő},IntsAre vs ns->Vals (ns.map V.int) vs
 |_,_,.nil=>.nil|_,_,.cons n t h=>.cons ⟨t,rfl⟩ (yS h)
def sO(H:Hp):Prop:=∀b,H b=none\/∃o xs,H b=some (.frz o<|.lst xs)
theorem Fo{P:Program}{w:World}{K:Frag}{mg mb:œ}{CX:YI}{k:Nat}{fa a:Addr}{fd:FuncData}{x:Str}{sp:Sp}{S:Shared}{vs:Œ}{ns:Ő}
  (KX:K.In S.heap) (ľ:S.heap.Ns mainGlobals mg) (hb:S.heap.Ns builtinsNs mb) (hbb:∀x:Str,x≠"__name__"->mb x=bootBuiltins x) (ô:S.heap.NoLimit) (hg:S.gens=#[])
  (ha:S.heap.get? a=some {cls:=.type "list",data:=.seq vs.toArray}) (hi:IntsAre vs ns) (hl:ns.length<=sizeLine) (hr:V8 k callerA)
  (F:∀base:Heap,K.In base->base.Ns mainGlobals mg->Qv P w K mg base CX k fa fd [x] sp) (ϗ:∀(s:Shared) (u:Value),BindsTo s fd ⟨[u],[]⟩ [(x,u)])
  (_j:∀H:Hp,sO H->WE K H a (ns.map V.int)->sp [.ref a] H (fun v _=>v=.bl true) fun _ _ _=>False)
  (Č:∀H e s',CX [] H S (fun _ _ _=>False) e s'->False):
  codeAny (model P w) callerA (.call (.ref fa) ⟨[.ref a],[]⟩) (fun r s'=>r=.ok (.ret<|.bool true)/\OldK S.heap s'.heap/\s'.os=S.os/\AllBare s'.gens) S:=by
 have rv:=yS hi;have lenV:=hi.length;have core:∀H:Hp,sO H->WE K H a (ns.map V.int)->Ww P w H S.heap->(∀b,H b≠none->b=a)->(H a≠none->K.lookup a=none)->
   codeAny (model P w) callerA (.call (.ref fa) ⟨[.ref a],[]⟩) (fun r s'=>r=.ok (.ret<|.bool true)/\OldK S.heap s'.heap/\s'.os=S.os/\AllBare s'.gens) S:=by
  intro H hO hS hok hA hK;have J:∀{b:Addr} {o:Obj},S.heap.get? b=some o->H b=none->(kg S.heap H).get? b=some o:=fun e n=>Rf e n;have _O:∀{b:Addr} {o:Obj} {es:Array DictEntry} {ep:Nat},S.heap.get? b=some o->o.data=.dict es ep->H b=none:=fun{b o es ep} e d=>by
   cases q:H b with
   |none=>rfl|some u=>
    have e':b=a:=hA b (by rw[q];simp);subst e';rw[ha] at e;cases e;have d':Data.seq vs.toArray _=Data.dict es ep:=d;cases d'
  have L:∀{b:Addr} {m:œ},S.heap.Ns b m->(kg S.heap H).Ns b m:=fun{b m} ⟨o,es,ep,e,d,r⟩=>⟨o,es,ep,J e (_O e d),d,r⟩
  have A':K.In (kg S.heap H):=fun b o e=>J (KX b o e) (by
   cases q:H b with
   |none=>rfl|some u=>
    have e':b=a:=hA b (by rw[q];simp);subst e';rw[hK (by rw[q];simp)] at e;cases e)
  have hM:Mod K mg (kg S.heap H):=⟨A',L ľ,⟨mb,L hb,hbb⟩,let ⟨mc,h1,h2⟩:=ô;⟨mc,L h1,h2⟩⟩
  have e0:YH P w K mg (kg S.heap H) callerA [] S H:=⟨rfl,hM,fun b o e=>IY e,Nat.le_of_eq (Hu _ _),trivial,fun b hb=>absurd (show b∈([]:Ś) from hb) nofun,hok,.of_eq hg⟩
  refine UE ((F _ A'<|L ľ).run callerA [] S H ⟨[.ref a],[]⟩ [.ref a] [.ref a] _ _ hr e0 (ϗ S<|.ref a) (.cons rfl .nil) (_j H hO hS)) fun r s' h=>?_;cases r with
  |error e=>exact(Č H e s' h).elim|ok fl=>
   cases fl with
   |next=>exact False.elim h
   |brk=>exact False.elim h|cont=>exact False.elim h|ret u=>
    obtain⟨v,H',os,bare,un,ñ,r',q⟩:=h;have q':v=.bl true:=q;subst q';obtain rfl:u=Value.bool true:=r';refine⟨rfl,OldK.of_keep fun b o e=>?_,os,bare⟩;cases q:H b with
    |none=>exact un.keep b o e q (by intro z;exact absurd (show b∈([]:Ś) from z) nofun) nofun|some u=>
     rcases hO b with z|⟨ob,xs,z⟩
     .rw[q] at z;cases z
     .have z2:=un.frzs b ob _ z;obtain⟨e1,_⟩:=hok b _ z;obtain⟨e2,_⟩:=ñ b _ z2;rw[e] at e1;cases e1;exact e2
 cases hk:K.lookup a with
 |some o=>
  have e:=KX a o hk;rw[ha] at e;cases e;refine core (fun _=>none) (fun _=>.inl rfl) (.inr ⟨_,vs.toArray,_,hk,rfl,rfl,rfl,by rw[SF,lenV];exact hl,by simpa using rv⟩) (fun b u z=>by have z':(none:Option HO)=some u:=z;cases z') (fun b z=>absurd rfl z) fun z=>absurd rfl z
 |none=>
  refine core (fun b=>if b=a then some (.frz {cls:=.type "list",data:=.seq vs.toArray}<|.lst<|ns.map V.int) else none) (fun b=>?_) (.inl<|.inr ⟨{cls:=.type "list",data:=.seq vs.toArray},if_pos rfl⟩) (fun b u z=>?_) (fun b z=>?_) fun _=>hk
  .by_cases hb:b=a
   .exact .inr ⟨_,_,if_pos hb⟩
   .exact .inl (if_neg hb)
  .by_cases hb:b=a
   .have z':=(if_pos hb).symm.trans z;cases z';subst hb;exact⟨ha,by rw[Sv];exact hl,vs,_,rv,ha⟩
   .have z':=(if_neg hb).symm.trans z;cases z'
  .by_cases hb:b=a
   .exact hb
   .exact absurd (if_neg hb) z
theorem walk_of{l:PySem.W.OpenLaw}{n k:Nat}{q:Program}{loose:Ŗ}{XP:œ->Heap->Prop}{YP:World->Heap->Prop}{d:DefRec}{K:Params->Frag}{CX:World->YI}{sp:World->Sp}{x:Str}
  (hn:l.most=some n) (_v:n<=sizeLine) (ą:d.params.defaults=[]) (hr:V8 k callerA)
  (hY:∀(w:World) (h:Heap),YP w h->(K w.params).In h)
  (F:∀(w:World) (mg:œ) (z:Addr) (h:Heap),(K w.params).In h->h.Ns mainGlobals mg->mg d.name=some (.ref z)->
   ∃fd:FuncData,(∀(s:Shared) (u:Value),BindsTo s fd ⟨[u],[]⟩ [(x,u)])/\
    ∀base:Heap,(K w.params).In base->base.Ns mainGlobals mg->Qv l.prog w (K w.params) mg base (CX w) k z fd [x] (sp w))
  (S:∀(w:World) (H:Hp) (a:Addr) (ns:Ő),ns.length<=n->sO H->WE (K w.params) H a (ns.map V.int)->sp w [.ref a] H (fun v _=>v=.bl true) fun _ _ _=>False)
  (Č:∀(w:World) (H:Hp) (s:Shared) (e:Value) (s':Shared),CX w [] H s (fun _ _ _=>False) e s'->False):
  PySem.W.WalkO q loose XP YP l.row.toRowW d [] (fun f vs=>PySem.call f vs):=by
 refine P'.attach_call hn ą fun w Z3 ZU mg mb z o pm cd doc a vs ns G Y ho hd Ν L J hints hlen hg=>?_;have P:=hY w _ Y;obtain⟨fd,hb,hF⟩:=F w mg z _ P G.T.g L;exact(Fo P G.T.g G.T.b G.T.builtins G.T.nolimit hg J hints (S1 hlen _v) hr hF hb (fun H hO hS=>S w H a ns hlen hO hS) fun H e s'=>Č w H ZU e s')
def i7(s:Stmt)(j:Nat):Stmt:=match s with
 | .ClassDef _ _ _ body _ _ _ _ _ _ _=>body.getD j (.Pass ⟨0,0,0,0⟩)|_=>.Pass ⟨0,0,0,0⟩
def jC(s:Stmt):Arguments:=match s with
 | .FunctionDef _ a _ _ _ _ _ _ _ _=>a|_=>{posonlyargs:=[],args:=[],vararg:=none,kwonlyargs:=[],kw_defaults:=[],kwarg:=none,defaults:=[]}
def ic(s:Stmt):ţ:=match s with
 | .FunctionDef _ _ b _ _ _ _ _ _ _=>b|_=>[]
def eD(s:Stmt):Scope:=match s with
 | .FunctionDef _ _ _ _ _ _ sc _ _ _=>sc|_=>{kind:=.function,names:=[],isGenerator:=false,isCoroutine:=false}
abbrev WN:YI:=fun _ _ _ _ _ _=>False
abbrev E0:XK:=fun _ _ _=>False
def wQ{X:Cx}:lP WN X E0:=fun _ _ _ _ _ _ _ h=>h.elim
structure WM (K:Frag) (x qual:Str) (st:Stmt) (f:Addr) (fd:FuncData):Prop where
 ex:∃(oc:Value) (od:š) (kV doc pm:Value) (an:š) (cdv ct:Value) (osl:Array Ŝ),
  fd=fnOf x qual (jC st) (ic st) (eD st) .none kV doc pm an cdv ct/\K.lookup f=some ⟨oc,od,.func fd,osl⟩/\codeIn K cdv qual=true
 kp:keepIn K (.ref f)=true
section
variable {P:Program} {w:World} {K:Frag} {mg:œ} {base:Heap}
theorem WM.ok{x qual:Str}{st:Stmt}{f:Addr}{fd:FuncData}{N ps:Ŗ}{k:Nat}{sp:Sp}(F:WM K x qual st f fd)(S:DJ N ps (eD st))(len:∀vs H Q E,sp vs H Q E->vs.length=ps.length)
  (z:∀(cdv:Value) (A:Around) (outer:Š) (s:Shared) (H:Hp) (vs:ŗ) (Q:VK) (E:XK),V8 k (A.deeper<|envOfC qual (eD st) s.heap.objs.size f cdv)->sp vs H Q E->
   ∃t,Wo (eV WN P w K mg base N qual (eD st) f cdv A outer s H E).nox (ic st) t/\t {nx:=fun _ H'=>Q .non H',rt:=Q} (jY N vs) H):Qv P w K mg base WN (k+1) f fd ps sp:=by
 obtain⟨oc,od,kV,doc,pm,an,cdv,ct,osl,rfl,lk,L⟩:=F.ex;refine(zy lk L S len fun A outer s H vs Q E hr J=>?_);obtain⟨t,h,q⟩:=z cdv A outer s H vs Q E hr J;exact(⟨t,h.nox,q⟩)
theorem WM.binds{x qual:Str}{st:Stmt}{f:Addr}{fd:FuncData}{ps:Ŗ}(F:WM K x qual st f fd)
  (h:∀(kV doc pm:Value) (an:š) (cdv ct:Value) (us:Œ),us.length=ps.length->bindArgs (fnOf x qual (jC st) (ic st) (eD st) .none kV doc pm an cdv ct) ⟨us,[]⟩=pure (ps.zip us)):Binds K fd ps []:=by
 obtain⟨oc,od,kV,doc,pm,an,cdv,ct,osl,rfl,lk,H⟩:=F.ex;exact(.all<|h kV doc pm an cdv ct)
theorem CK{x qual:Str}{st:Stmt}{f:Addr}{oc:Value}{od an:š}{osl:Array Ŝ}{kV doc pm cdv ct:Value}(l:K.lookup f=some ⟨oc,od,.func (fnOf x qual (jC st) (ic st) (eD st) .none kV doc pm an cdv ct),osl⟩)
  (c:codeIn K cdv qual=true) (k:keepIn K (.ref f)=true):WM K x qual st f (fnOf x qual (jC st) (ic st) (eD st) .none kV doc pm an cdv ct):=⟨⟨oc,od,kV,doc,pm,an,cdv,ct,osl,rfl,l,c⟩,k⟩
end
section
variable {X:Cx}
theorem pv(i:Nat){x:Str}{pos:Pos}(S:X.N[i]?=some x:=by rfl)(F:Ϡ X.env.scope x:=by first|exact Or.inl rfl|exact Or.inr (Or.inl rfl)|exact Or.inr (Or.inr rfl))(hd:Xm x:=by decide)
  (z:(x==("__classdict__":Str))=false:=by decide):PE X (.Name x pos) (zf i):=Ah S F hd z
end
def vo{A Z8:Prop}(h:Z8):if false=true then A else Z8:=by rw[if_neg Tn];exact h
def uL{A Z8:Prop}(h:A):if true=true then A else Z8:=by rw[if_pos rfl];exact h
def lg{c A Z8:Prop} [Decidable c](h1:c->A)(z:¬c->Z8):if c then A else Z8:=by
 by_cases h:c
 .rw[if_pos h];exact h1 h
 .rw[if_neg h];exact z h
section
variable {κ:Type} [DecidableEq κ]
end
end L2
namespace Tim
open PySem PyProof.Rows
end Tim
namespace L2
open PySem PySem.Spec PyProof.Rows
def eg(X:Cx)(N':Ŗ)(scope:Scope)(cl:ŝ)(C:Addr)(Z3:Shared)(Z1:Hp)(ex:Ś):Cx:=
 {X with N:=N',Z3:=Z3,Z1:=Z1,env:=compEnvC scope cl C X.env,outer:=X.stack,ex:=ex,fn:=fun x=>scope.names.lookup x==some NameKind.cell,pn:=[]}
theorem yH:∀(names:List (Str×NameKind)) (acc:ŝ),(∀y∈names,y.2=.free->∃c,env.cells.lookup y.1=some c)->
  (∀y c,acc.lookup y=some c->env.cells.lookup y=some c)->
  ∃cl,(forIn names acc fun x r=>if(x.2==NameKind.free)=true then do let c ←cellOf env x.1;pure (ForInStep.yield<|(x.1,c)::r) else pure (ForInStep.yield r):Sem ŝ)=pure cl/\
   (∀y c,cl.lookup y=some c->env.cells.lookup y=some c)/\(∀y,(y,NameKind.free)∈names->∃c,cl.lookup y=some c)/\∀y c,acc.lookup y=some c->∃c',cl.lookup y=some c'
 | [],acc,_,P=>⟨acc,by simp,P,fun _ h=>by simp at h,fun y c h=>⟨c,h⟩⟩|(n,k)::r,acc,h,P=>by
  by_cases F:k=.free
  .subst F;obtain⟨c,hc⟩:=h (n,.free) Ut rfl;have e:cellOf env n=pure c:=by unfold cellOf;rw[hc]
   obtain⟨cl,e1,h1,S,L⟩:=yH r ((n,c)::acc) (fun y H=>h y<|Ti _ H) (fun y d hd=>by
    rw[S3] at hd;split at hd
    .rename_i J;have:y=n:=by simpa using J
     subst this;cases hd;exact hc
    .exact P y d hd)
   refine⟨cl,?_,h1,fun y H=>?_,fun y d hd=>?_⟩
   .rw[List.forIn_cons,e];simpa using e1
   .rcases SI.mp H with z|z
    .cases z;exact L n c (by simp[S3])
    .exact S y z
   .by_cases H:y=n
    .subst H;exact L y c (by simp[S3])
    .have J:(y==n)=false:=by simpa using H
     exact L y d (by simp only[S3,J];exact hd)
  .have J:(k==NameKind.free)=false:=by simpa using F
   obtain⟨cl,e1,h1,S,L⟩:=yH r acc (fun y H=>h y<|Ti _ H) P;refine(⟨cl,?_,h1,fun y H=>?_,L⟩)
   .rw[List.forIn_cons];simpa[J] using e1
   .rcases SI.mp H with z|z
    .cases z;exact absurd rfl F
    .exact S y z
theorem nD{scope:Scope}{env:Env}(h:∀y∈scope.names,y.2=.free->∃c,env.cells.lookup y.1=some c):
  ∃cl,closureFor scope env=pure cl/\(∀y c,cl.lookup y=some c->env.cells.lookup y=some c)/\∀y,(y,NameKind.free)∈scope.names->∃c,cl.lookup y=some c:=by
 obtain⟨cl,e,J,H,_⟩:=yH (env:=env) scope.names [] h (fun _ _ z=>by simp at z);refine(⟨cl,?_,J,H⟩);unfold closureFor;show((forIn scope.names [] fun x r=>if(x.2==NameKind.free)=true then do let c ←cellOf env x.1;pure (ForInStep.yield<|(x.1,c)::r) else pure (ForInStep.yield r):Sem ŝ) >>= fun cs=>pure cs)=pure cl;rw[e];rfl
section
variable {prog:Program} {w:World} {A:Around} {R:Result->Shared->Prop} {s:Shared}
theorem NY{elt target iter:Expr}{ifs:Ř}{scope:Scope}{pos:Pos}{it acc:Value}{env:Env}(I:Nat->Shared->Prop)
  (turn:∀n s,I n s->wpAny (model prog w) A (pyNext it) (fun r z=>match r with
   |none=>R (.ok .next) z
   |some v=>wpAny (model prog w) A (letOwnedTupleGo target it v) (fun _ ZB=>wpAny (model prog w) A (assign target env v) (fun _ S=>
     wpAny (model prog w) A (forIn ifs true fun c r=>if r=true then do let ok ←isTrue c env (eval c env);pure (ForInStep.yield ok) else pure (ForInStep.yield r)) (fun ok F=>
      if ok=true then wpAny (model prog w) A (eval elt env) (fun x ZH=>
       wpAny (model prog w) A (call (.builtin "list.append") [acc,x]) (fun _ ZF=>∃m,m<n/\I m ZF) (fun _ _=>False) ZH) (fun _ _=>False) F
      else ∃m,m<n/\I m F) (fun _ _=>False) S) (fun _ _=>False) ZB) (fun _ _=>False) z) (fun _ _=>False) s)
  (n:Nat) (h:I n s):codeAny (model prog w) A (.compLoop (.ListComp elt [⟨target,iter,ifs,0⟩] scope pos) 0 it acc env) R s:=by
 refine VJ rfl I (fun n s L=>?_) n h;show wpAny _ A ((compTurn (.ListComp elt [⟨target,iter,ifs,0⟩] scope pos) 0 it acc env).onRaise (fun x=>do noteFrame x env;theTreesLotGoes x)) _ _ s;refine VR ?_;rw[compTurn_list];refine Ss (E:=fun _ _=>False) ?_ (fun _ _ x=>x) fun _ _ x=>x.elim;refine Sj (TZ<|Sj<|Ss (turn n s L) (fun r z H=>?_) fun _ _ h'=>h');cases r with
 |none=>exact Sk H|some v=>
  refine Sj (Ss H (fun _ ZB P=>?_) fun _ _ h'=>h');refine Sj (Ss P (fun _ S ZC=>Sj<|Ss ZC (fun ok F J=>?_) fun _ _ h'=>h') fun _ _ h'=>h');cases ok with
  |false=>exact Sk ⟨rfl,J⟩|true=>
   exact Sj (Sj<|Ss J (fun x ZH Zu=>Sj<|Ss Zu (fun _ ZF Zt=>Sk<|Sk ⟨rfl,Zt⟩) fun _ _ h'=>h') fun _ _ h'=>h')
end
theorem BL{env:Env}{x:Str}:∀{names:List (Str×NameKind)},names.lookup x=some .free->
  (names.map fun(n,k)=>if(k==NameKind.free&&env.scope.kind==.function&&env.kindOf n==some .cell) then(n,NameKind.cell) else(n,k)).lookup x=some .free\/
  (names.map fun(n,k)=>if(k==NameKind.free&&env.scope.kind==.function&&env.kindOf n==some .cell) then(n,NameKind.cell) else(n,k)).lookup x=some .cell
 | [],h=>by simp at h|(n,k)::r,h=>by
  have L:=@BL env x r;show List.lookup x ((if(k==NameKind.free&&env.scope.kind==.function&&env.kindOf n==some .cell)=true then(n,NameKind.cell) else(n,k))::_)=_\/List.lookup x ((if(k==NameKind.free&&env.scope.kind==.function&&env.kindOf n==some .cell)=true then(n,NameKind.cell) else(n,k))::_)=_;cases H:x==n with
  |true=>
   simp only[S3,H] at h;cases h;by_cases J:(NameKind.free==NameKind.free&&env.scope.kind==.function&&env.kindOf n==some .cell)=true
   .rw[if_pos J];exact .inr (by simp[S3,H])
   .rw[if_neg J];exact .inl (by simp[S3,H])
  |false=>
   simp only[S3,H] at h;by_cases J:(k==NameKind.free&&env.scope.kind==.function&&env.kindOf n==some .cell)=true
   .rw[if_pos J];simp only[S3,H];exact L h
   .rw[if_neg J];simp only[S3,H];exact L h
theorem C4{env:Env}{x:Str}:∀{names:List (Str×NameKind)},
  ((names.map fun(n,k)=>if(k==NameKind.free&&env.scope.kind==.function&&env.kindOf n==some .cell) then(n,NameKind.cell) else(n,k)).lookup x=some .cell\/
   (names.map fun(n,k)=>if(k==NameKind.free&&env.scope.kind==.function&&env.kindOf n==some .cell) then(n,NameKind.cell) else(n,k)).lookup x=some .free)->names.lookup x=some .free\/names.lookup x=some .cell
 | [],h=>by simp at h|(n,k)::r,h=>by
  have L:=@C4 env x r;have h:List.lookup x ((if(k==NameKind.free&&env.scope.kind==.function&&env.kindOf n==some .cell)=true then(n,NameKind.cell) else(n,k))::(r.map fun(n,k)=>if(k==NameKind.free&&env.scope.kind==.function&&env.kindOf n==some .cell) then(n,NameKind.cell) else(n,k)))=some .cell\/
   List.lookup x ((if(k==NameKind.free&&env.scope.kind==.function&&env.kindOf n==some .cell)=true then(n,NameKind.cell) else(n,k))::(r.map fun(n,k)=>if(k==NameKind.free&&env.scope.kind==.function&&env.kindOf n==some .cell) then(n,NameKind.cell) else(n,k)))=some .free:=h
  cases H:x==n with
  |true=>
   by_cases J:(k==NameKind.free&&env.scope.kind==.function&&env.kindOf n==some .cell)=true
   .have:k=.free:=by
     have z:=(Bool.and_eq_true_iff.mp (Bool.and_eq_true_iff.mp J).1).1;simpa using z
    subst this;exact .inl (by simp[S3,H])
   .rw[if_neg J] at h;simp only[S3,H] at h⊢;exact h.symm
  |false=>
   have:∀p:NameKind,List.lookup x ((if(k==NameKind.free&&env.scope.kind==.function&&env.kindOf n==some .cell)=true then(n,NameKind.cell) else(n,k))::(r.map fun(n,k)=>if(k==NameKind.free&&env.scope.kind==.function&&env.kindOf n==some .cell) then(n,NameKind.cell) else(n,k)))=some p↔(r.map fun(n,k)=>if(k==NameKind.free&&env.scope.kind==.function&&env.kindOf n==some .cell) then(n,NameKind.cell) else(n,k)).lookup x=some p:=fun p=>by
    by_cases J:(k==NameKind.free&&env.scope.kind==.function&&env.kindOf n==some .cell)=true
    .rw[if_pos J];simp only[S3,H]
    .rw[if_neg J];simp only[S3,H]
   rw[this .cell,this .free] at h;have:=L h;simp only[S3,H];exact this
theorem jA:∀(names:List (Str×NameKind)) (n:Nat) (acc:ŝ),cellsFrom n names acc=cellsFrom n names []++acc
 | [],_,_=>rfl|(name,kind)::r,n,acc=>by
  unfold cellsFrom;split
  .rw[jA r (n+1) ((name,n)::acc),jA r (n+1) [(name,n)],U5];rfl
  .exact jA r n acc
theorem wJ:∀(names:List (Str×NameKind)) (n:Nat) (acc:ŝ),(x,c)∈cellsFrom n names acc->(x,NameKind.cell)∈names\/(x,c)∈acc
 | [],_,_,h=>.inr h|(name,kind)::r,n,acc,h=>by
  unfold cellsFrom at h;split at h
  .rename_i J;have H:kind=.cell:=by simpa using J
   rcases wJ r (n+1) _ h with z|z
   .exact .inl (Ti _ z)
   .rcases SI.mp z with z|z
    .cases z;rw[H];exact .inl Ut
    .exact .inr z
  .rcases wJ r n acc h with z|z
   .exact .inl (Ti _ z)
   .exact .inr z
structure VZ (X:Cx) (N' own:Ŗ) (cap:ő) (scope:Scope):Prop where
 kind:scope.kind=.function
 own1:∀y∈scope.names,y.2=.cell->scope.names.lookup y.1=some .cell
 free1:∀y∈scope.names,y.2=.free->scope.names.lookup y.1=some .free
 names:∀y∈scope.names,y.2=.local->scope.names.lookup y.1=some .local
 free:∀y∈scope.names,y.2=.free->X.env.kindOf y.1=some .cell\/X.env.kindOf y.1=some .free
 eq:N'=own++cap.map (·.1)
 cap:∀p∈cap,X.N[p.2]?=some p.1/\scope.names.lookup p.1=some .free/\(X.env.kindOf p.1=some .cell\/X.env.kindOf p.1=some .free)
def gb(own:Ŗ)(cap:ő)(J:St):St:=own.map (fun _=>none)++cap.map fun p=>(J[p.2]?).join
section
variable {X:Cx} {pins:SB} {J:St} {H:Hp} {s:Shared} {N' own:Ŗ} {cap:ő} {scope:Scope} {cl:ŝ} {fp:Ś}
structure CellsAre (X:Cx) (scope:Scope) (C:Addr) (cl cs:ŝ):Prop where
 old:∀y c,cs.lookup y=some c->(cl.lookup y=some c/\scope.names.lookup y≠some .cell)\/(C<c/\scope.names.lookup y=some .cell)
 free:∀y c,cl.lookup y=some c->scope.names.lookup y≠some .cell->cs.lookup y=some c
 has:∀y,scope.names.lookup y=some .cell->∃c,cs.lookup y=some c
 inj:∀x y c,C<c->cs.lookup x=some c->cs.lookup y=some c->x=y
theorem lc{α:Type}{x:Str}:∀{l r:List (Str×α)},(l++r).lookup x=(l.lookup x).or (r.lookup x)
 | [],r=>by simp|(k,v)::l,r=>by
  have H:=@lc α x l r;rw[VD,S3,S3];cases x==k with
  |true=>rfl|false=>exact H
theorem yA{h:Heap}{C:Addr}(hC:h.objs.size=C+1)(S:VZ X N' own cap scope)(F:∀y c,cl.lookup y=some c->¬C<c):CellsAre X scope C cl (cellsFrom (C+1) scope.names cl):=by
 have ok:=cellsFrom_ok scope.names h (C+1) [] ⟨fun _ _ P=>(nomatch P),List.Pairwise.nil⟩ (by rw[hC];exact Sm _);rw[hC] at ok;have own:∀y c,(cellsFrom (C+1) scope.names []).lookup y=some c->C<c/\scope.names.lookup y=some .cell:=fun y c e=>by
  have m:=Th e;refine⟨(ok.empty y c m).2,?_⟩;rcases wJ _ _ _ m with z|z
  .exact S.own1 _ z rfl
  .simp at z
 have no:∀y,scope.names.lookup y≠some .cell->(cellsFrom (C+1) scope.names []).lookup y=none:=fun y H=>by
  cases e:(cellsFrom (C+1) scope.names []).lookup y with
  |none=>rfl|some c=>exact absurd (own y c e).2 H
 have has:∀y,scope.names.lookup y=some .cell->∃c,(cellsFrom (C+1) scope.names []).lookup y=some c:=fun y H=>Tv.mp (U3 scope.names (C+1) []<|.inl H);refine⟨fun y c e=>?_,fun y c e H=>?_,fun y H=>?_,fun x y c hc e1 e2=>?_⟩
 .rw[jA,lc] at e;cases q:(cellsFrom (C+1) scope.names []).lookup y with
  |none=>
   rw[q] at e;refine .inl ⟨e,fun z=>?_⟩;obtain⟨J,L⟩:=has y z;rw[q] at L;cases L
  |some J=>
   rw[q] at e;have:J=c:=SY e;subst this;exact .inr (own y J q)
 .rw[jA,lc,no y H];exact e
 .obtain⟨c,e⟩:=has y H;exact⟨c,by rw[jA,lc,e];rfl⟩
 .have wP:∀z,(cellsFrom (C+1) scope.names cl).lookup z=some c->(z,c)∈cellsFrom (C+1) scope.names []:=fun z e=>by
   rw[jA,lc] at e;cases q:(cellsFrom (C+1) scope.names []).lookup z with
   |none=>rw[q] at e;exact absurd hc (F z c e)|some J=>
    rw[q] at e;have:J=c:=SY e;subst this;exact Th q
  exact PySem.name_of_addr ok.apart (wP x e1) (wP y e2)
theorem Oy(I:Inv X pins J H s)(S:VZ X N' own cap scope)(A:CellsAre X scope s.heap.objs.size cl cs)(c1:∀y c,cl.lookup y=some c->X.env.cells.lookup y=some c)(c2:∀y,(y,NameKind.free)∈scope.names->∃c,cl.lookup y=some c)
  (hf:∀b∈fp,fK X pins H b) (F:∀b∈fp,b<s.heap.objs.size):(eg X N' scope cs s.heap.objs.size s H fp).Ok where
 mod:=I.ok.mod
 kind:=S.kind
 glob:=I.ok.glob
 blt:=I.ok.blt
 above:=Sm _
 inj:=fun x y c h1 h2=>by
  rcases A.old x c h1 with⟨P,_⟩|⟨P,_⟩
  .rcases A.old y c h2 with⟨b1,_⟩|⟨b1,_⟩
   .exact I.ok.inj x y c (c1 x c P) (c1 y c b1)
   .obtain⟨v,o,ho,_⟩:=I.cell x c (c1 x c P);exact absurd (U7 b1<|Su ho) (Td _)
  .exact A.inj x y c P h1 h2
 has:=fun x h=>by
  rcases C4 h with z|z
  .obtain⟨c,e⟩:=c2 x (Th z);exact⟨c,A.free x c e (by rw[z];simp)⟩
  .exact A.has x z
 cab:=fun x c h e=>by
  have h':scope.names.lookup x=some .cell:=by have:(scope.names.lookup x==some NameKind.cell)=true:=h;simpa using this
  rcases A.old x c e with⟨_,z⟩|⟨z,_⟩
  .exact absurd h' z
  .exact Vn z
 hd:=I.ok.hd
 frames:=I.ok.frames
 stk:=.inl rfl
 exf:=fun b L=>⟨SQ (F b L),fun x c h=>by
  rcases A.old x c h with⟨z,_⟩|⟨z,_⟩
  .exact(hf b L).2.2.2.2.1 x c (c1 x c z)
  .exact fun e=>absurd (U7 (e▸z)<|F b L) (Td _)⟩
 bs:=I.bs
 bsz:=S1 I.ok.bsz I.sz
 noex:=fun b o e L=>by
  rcases(hf b L).2.2.2.1 with z|z
  .exact I.ok.noex b o e z
  .exact absurd (SW (Su e)<|S1 I.ok.bsz z) (Td _)
 exfs:=fun b L z=>by
  rcases SI.mp (I.stkSub b z) with q|q
  .exact(hf b L).2.1 q
  .exact(hf b L).2.2.1 q
 funs:=I.stack
 frf:=I.stkFree
theorem Wb(I:Inv X pins J H s)(S:VZ X N' own cap scope)(A:CellsAre X scope s.heap.objs.size cl cs)(hA:∀y c,cs.lookup y=some c->s.heap.objs.size<c->h'.IsCell c none)
  (c1:∀y c,cl.lookup y=some c->X.env.cells.lookup y=some c) (c2:∀y,(y,NameKind.free)∈scope.names->∃c,cl.lookup y=some c)
  (hf:∀b∈fp,fK X pins H b) (hlt:∀b∈fp,b<s.heap.objs.size) (hk:∀b o,s.heap.get? b=some o->h'.get? b=some o) (hn:h'.Ns s.heap.objs.size m):
  Inv (eg X N' scope cs s.heap.objs.size s H fp) [] (gb own cap J) H {s with heap:=h',toks:=t'}:=by
 refine⟨Oy I S A c1 c2 hf hlt,rfl,I.bare,Un.kept hk,⟨m,hn,fun i x v h1 L h3=>?_⟩,fun x c e=>?_,I.hok.fresh (Sm _),fun x c e=>?_,fun p hp=>absurd hp (by show p∉([]++[]:SB);simp),?_,?_⟩
 .have hi:own.length<=i:=by
   by_cases hi:own.length<=i
   .exact hi
   .unfold gb at L;rw[SM (by rw[Sv];omega),S0] at L;cases e:own[i]? with
    |none=>rw[e] at L;cases L
    |some a=>rw[e] at L;cases L
  have F:(own++cap.map (·.1))[i]?=some x:=by rw[←S.eq];exact h1
  rw[Tb hi,S0] at F;unfold gb at L;rw[Tb (by rw[Sv];exact hi),Sv,S0] at L;cases e:cap[i - own.length]? with
  |none=>rw[e] at L;cases L
  |some p=>
   rw[e] at F L;have ex:p.1=x:=SY F;have ev:(J[p.2]?).join=some v:=SY L;have ev':J[p.2]?=some (some v):=by
    cases q:J[p.2]? with
    |none=>rw[q] at ev;cases ev
    |some z=>rw[q] at ev;exact congrArg some ev
   obtain⟨k1,k2,k3⟩:=S.cap p (T8 e);subst ex;obtain⟨m0,hn0,hl⟩:=I.loc;obtain⟨u,ru,lk⟩:=hl p.2 p.1 v k1 ev' (by rcases k3 with z|z;exact .inr (.inl z);exact .inr (.inr z));refine(⟨u,ru,?_⟩);rcases lk with⟨z,_⟩|⟨_,c,hc,P⟩
   .rcases k3 with q|q<;>(rw[z] at q;cases q)
   .refine .inr ⟨?_,c,?_,?_⟩
    .rcases BL (env:=X.env) k2 with q|q
     .exact .inr q
     .exact .inl q
    .obtain⟨c',e'⟩:=c2 p.1 (Th k2);have:=c1 _ _ e';rw[hc] at this;cases this;exact A.free _ _ e' (by rw[k2];simp)
    .obtain⟨o,ho,hd⟩:=P;exact⟨o,hk _ _ ho,hd⟩
 .rcases A.old x c e with⟨z,_⟩|⟨z,_⟩
  .obtain⟨v,o,ho,hd⟩:=I.cell x c (c1 x c z);exact⟨v,o,hk _ _ ho,hd⟩
  .exact⟨none,hA x c e z⟩
 .rcases A.old x c e with⟨z,_⟩|⟨z,_⟩
  .exact I.freeC x c (c1 x c z)
  .exact I.hok.fresh (Vn z)
 .exact I.hok.kept hk
 .show(gb own cap J).length=N'.length;rw[S.eq];unfold gb;simp
end
def XA(X:Cx)(ifs:Ř)(t:TT):Prop:=
 ∀(pins:SB) (s:Shared) (J:St) (H:Hp) (Q:Bool->Hp->Prop),Inv X pins J H s->t J H Q->
  wpAny (model X.prog X.w) X.A (forIn ifs true fun c r=>if r=true then do let ok ←isTrue c X.env (eval c X.env);pure (ForInStep.yield ok) else pure (ForInStep.yield r)) (TP X pins J Q) X.xe s
def KK:TT:=fun _ H Q=>Q true H
def J4{X:Cx}:XA X [] KK:=fun _ _ _ H _ I h=>wpAny_tests_nil ⟨H,I,h⟩
def Gu{X:Cx}{c:Expr}{t:TT}(h:PT X c t):XA X [c] t:=fun pins s J H Q I hw=>wpAny_tests_one (h pins s J H Q I hw)
theorem ud{M:Model}{A:Around}{E:QS}{s:Shared}{scope:Scope}{globals:Addr}{cl:ŝ}{qual:Str}{env:Env}{Q:Env->Shared->Prop}
  (z:∀h',h'.Ns s.heap.objs.size (fun _=>none)->(∀b o,s.heap.get? b=some o->h'.get? b=some o)->(∀n c,(n,c)∈cellsFrom (s.heap.objs.size+1) scope.names []->h'.IsCell c none)->
   Q (newEnv scope s.heap.objs.size globals (cellsFrom (s.heap.objs.size+1) scope.names cl) qual none .none (some env) builtinsNs) {s with heap:=h'}):
  wpAny M A (newFunctionEnv scope globals cl [] qual none .none<|some env) Q E s:=by
 simp only[newFunctionEnv,Uu,if_true];refine Sj (wpAny_alloc ?_);refine Sj (wpAny_layCells _ (fun name kind cells=>by cases J:kind==NameKind.cell<;>simp[J]) _ _ _ _ ?_);have ok:=cellsFrom_ok scope.names (s.heap.push {cls:=.type "dict",data:=.dict #[]}) (s.heap.objs.size+1) [] ⟨fun _ _ H=>(nomatch H),List.Pairwise.nil⟩ (by rw[TK];exact Sm _);rw[TK] at ok;rw[show({s with heap:=s.heap.push {cls:=.type "dict",data:=.dict #[]}}:Shared).heap.objs.size=s.heap.objs.size+1 from TK ..];rw[List.forIn_nil];refine Sj (Sk<|Sk ?_);exact z _ ((Heap.Ns.new s.heap<|.type "dict").keeps (pushCells_keeps _ _)) (fun b o e=>pushCells_keeps _ _ b o<|Sl _ e) fun n c H=>(ok.empty n c H).1
def mZ(Z7:It)(g:TG)(tc:TT)(te:TE)(D:Addr)(ZN:St)(H0:Hp)(Z:Hp->Prop):Prop:=
 ∃W:Nat->Nat->St->Hp->Prop,(∃m,W 0 m ZN<|upd H0 D<|.lst [])/\∀i m J H,W i m J H->
  (Z7.stop i H/\Z H)\/(Z7.go i H/\∃N:St->Hp->Prop,(∀z H',N z H'->∃P,P<m/\W (i+1) P z H')/\∀x H',Z7.yld i H x H'->g x J H' fun L H2=>tc L H2 fun b S=>
   if b=true then te L S fun v F=>∃ys,F D=some (.lst ys)/\ys.length<sizeLine/\N L (upd F D<|.lst<|ys++[v]) else N L S)
section
variable {X:Cx} {pins:SB} {J:St} {N' own:Ŗ} {cap:ő} {scope:Scope} {tg iter elt:Expr} {ifs:Ř} {pos:Pos} {g:TG} {tc:TT} {te:TE}
theorem EO{Y:Cx}{s:Shared}{ZN:St}{H2:Hp}{it D:Addr}{fp:Ś}{tn:Nat->Heap->Prop}{Z7:It}{Z:Hp->Prop}{R:Result->Shared->Prop}
  (hx:∀e s,Y.xe e s->False) (hc:Y.calm=true) (hg:PG Y tg g) (ht:XA Y ifs tc) (he:PE Y elt te)
  (T:Turn Y.prog Y.w Y.K tg Z7 fp it tn) (J0:Inv Y [] ZN (upd H2 D<|.lst []) s) (Xp:tn 0 s.heap) (f3:∀b∈fp,upd H2 D (.lst []) b=none)
  (F:∀{H':Hp},(∀b∈fp,H' b=none)->∀b∈fp,fK Y [] H' b) (h:mZ Z7 g tc te D ZN H2 Z)
  (hR:∀ZP H4 s5,Inv Y [] ZP H4 s5->Z H4->R (.ok .next) s5):
  codeAny (model Y.prog Y.w) Y.A (.compLoop (.ListComp elt [⟨tg,iter,ifs,0⟩] scope pos) 0 (.ref it) (.ref D) Y.env) R s:=by
 obtain⟨W,⟨m0,w0⟩,turn⟩:=h;have L:∀{α:Type} {t:Sem α} {Q:α->Shared->Prop} {s:Shared},wpAny (model Y.prog Y.w) Y.A t Q Y.xe s->wpAny (model Y.prog Y.w) Y.A t Q (fun _ _=>False) s:=fun q=>Ss q (fun _ _ z=>z) fun e s z=>hx e s z;obtain⟨P,hP⟩:∃P:Nat->Shared->Prop,∀n s',P n s'↔∃i Z0 H',Inv Y [] Z0 H' s'/\tn i s'.heap/\(∀b∈fp,H' b=none)/\W i n Z0 H':=⟨_,fun _ _=>SE⟩
 refine NY P ?_ m0 ((hP _ _).2 ⟨0,_,_,J0,Xp,f3,w0⟩);rintro n s4 h4;obtain⟨i,ZP,H4,I4,og,o9,w4⟩:=(hP _ _).1 h4;rcases turn i n ZP H4 w4 with⟨stop,qz⟩|⟨go,N,hN,step⟩
 .refine Ss (T.done Y rfl rfl rfl hc i [] s4 ZP H4 (fun _ _=>False) I4 (F o9) og stop) (fun r s5 ⟨hr,I5⟩=>?_) fun _ _ z=>z;subst hr;exact hR ZP H4 s5 I5 qz
 .refine Ss (T.item Y rfl rfl rfl hc i [] s4 ZP H4 (fun _ _=>False) I4 (F o9) og go) (fun r s5 ⟨u,hr,h5⟩=>?_) fun _ _ z=>z;subst hr;refine Ss h5 (fun _ s6 H=>?_) fun _ _ z=>z;obtain⟨x,H6,I6,r6,y6,S,ϛ⟩:=H;have I6':=I6.pinned (F ϛ) (T.obj _ _ S);have again:∀{J:St} {H7:Hp} {s7:Shared},Inv Y ([]++k7 fp s6.heap) J H7 s7->N J H7->∃m,m<n/\P m s7:=fun{J H7 s7} I7 n7=>by
   obtain⟨m',H,w7⟩:=hN J H7 n7;refine(⟨m',H,(hP _ _).2 ⟨i+1,J,H7,I7.unpinned,T.keep _ _ _ S fun b hb o e=>(I7.pin (b,o)<|SD _<|SD _<|jP hb e).1,fun b hb=>?_,w7⟩⟩);obtain⟨o,e,d⟩:=T.obj _ _ S b hb;exact((I7.pin (b,o)<|SD _<|SD _<|jP hb e).2.1)
  refine L (V0 (hg _ s6 ZP H6 x u _ I6' r6<|step x H6 y6) fun _ s7 H=>?_);obtain⟨J,H7,I7,q7⟩:=H;refine(L<|V0 (ht _ s7 J H7 _ I7 q7) fun b s8 H=>?_);obtain⟨H8,I8,q8⟩:=H;cases b with
  |false=>
   show ∃m,_;exact again I8 q8
  |true=>
   show wpAny _ _ _ _ _ _;refine L (V0 (he _ s8 J H8 _ I8 q8) fun y s9 H=>?_);obtain⟨v,H9,I9,r9,ys,hy,hz,q9⟩:=H;refine(L<|V0 (wM (X:=Y) _ s9 J H9 (.ref D) [v] (.ref D) [y] (fun _ H'=>N J H') I9 rfl (.cons r9 .nil) ⟨_,ys,v,rfl,rfl,hy,hz,q9⟩) fun _ ĝ H=>?_);obtain⟨_,H10,ϻ,_,Û⟩:=H;exact(again ϻ Û)
theorem vq{s2:Shared}{F:Hp}{it:Addr}{fp:Ś}{tn:Nat->Heap->Prop}{Z7:It}{cl:ŝ}{Z:Addr->Hp->Prop}{RR:Value->Addr->Result->Shared->Prop}{E:QS}
  (hx:∀e s,X.xe e s->False) (hc:X.calm=true) (S:VZ X N' own cap scope)
  (hg:∀cl C Z3 Z1 ex,PG (eg X N' scope cl C Z3 Z1 ex) tg g) (ht:∀cl C Z3 Z1 ex,XA (eg X N' scope cl C Z3 Z1 ex) ifs tc) (he:∀cl C Z3 Z1 ex,PE (eg X N' scope cl C Z3 Z1 ex) elt te)
  (I2:Inv X pins J F s2) (T:Turn X.prog X.w X.K tg Z7 fp it tn) (YS:tn 0 s2.heap) (f2:∀b∈fp,fK X pins F b)
  (c1:∀y c,cl.lookup y=some c->X.env.cells.lookup y=some c) (c2:∀y,(y,NameKind.free)∈scope.names->∃c,cl.lookup y=some c)
  (h:∀D,F D=none->mZ Z7 g tc te D (gb own cap J) F (Z D))
  (Ϛ:∀D C s' m' H',Inv X pins J H' s'->s'.heap.Ns C m'->fK X pins H' C->Z D H'->RR (.ref D) C (.ok .next) s'):
  wpAny (model X.prog X.w) X.A (newList []) (fun acc ZM=>wpAny (model X.prog X.w) X.A (newFunctionEnv scope X.env.globals cl [] X.env.qual none .none<|some X.env) (fun X5 ZH=>
   codeAny (model X.prog X.w) X.A (.compStart (.ListComp elt [⟨tg,iter,ifs,0⟩] scope pos) 0 (.ref it) acc {X5 with scope:=relabel scope X.env}) (RR acc X5.locals) ZH) E ZM) E s2:=by
 have hlt:∀b∈fp,b<s2.heap.objs.size:=fun b L=>by obtain⟨o,e,_⟩:=T.obj _ _ YS b L;exact(Su e)
 have hD:F s2.heap.objs.size=none:=I2.hok.fresh (Sm _);refine Tc (ud<|fun ZR ZA Zz Zy=>?_);dsimp only at ZA Zz Zy⊢;have I3:Inv X pins J (upd F s2.heap.objs.size<|.lst []) {s2 with heap:=s2.heap.push {cls:=.type "list",dict:=none,data:=.seq ([]:Œ).toArray},toks:=s2.toks}:=
  I2.laid (fun b o e=>Sl _ e) (Sm _) ⟨Ta _,[],0,.nil,SA _ rfl⟩
 generalize Yi:({s2 with heap:=s2.heap.push {cls:=.type "list",dict:=none,data:=.seq ([]:Œ).toArray},toks:=s2.toks}:Shared)=H at I3;have e3:s2.heap.push {cls:=.type "list",dict:=none,data:=.seq ([]:Œ).toArray}=H.heap:=by rw[←Yi]
 have hsz:H.heap.objs.size=s2.heap.objs.size+1:=by rw[←e3,TK]
 rw[e3] at ZA Zz Zy⊢;have hk:=Zz;have Xr:∀y c,cl.lookup y=some c->¬H.heap.objs.size<c:=fun y c e z=>by obtain⟨v,o,ho,_⟩:=I3.cell y c (c1 y c e);exact(Td _<|U7 z<|Su ho)
 have CA:CellsAre X scope H.heap.objs.size cl (cellsFrom (H.heap.objs.size+1) scope.names cl):=yA (h:=H.heap.push {cls:=.type "dict",data:=.dict #[]}) (by rw[TK]) S Xr;have P:∀y c,(cellsFrom (H.heap.objs.size+1) scope.names cl).lookup y=some c->H.heap.objs.size<c->ZR.IsCell c none:=fun y c e z=>by
  rw[jA,lc] at e;cases q:(cellsFrom (H.heap.objs.size+1) scope.names []).lookup y with
  |none=>rw[q] at e;exact absurd z (Xr y c e)|some c'=>
   rw[q] at e;have:c'=c:=SY e;subst this;exact Zy y c' (Th q)
 generalize Ć:cellsFrom (H.heap.objs.size+1) scope.names cl=cs at CA P⊢;have f3:∀b∈fp,fK X pins (upd F s2.heap.objs.size<|.lst []) b:=fun b L=>⟨by rw[eG (SQ<|hlt b L)];exact(f2 b L).1,(f2 b L).2⟩
 have X2:∀b∈fp,b<H.heap.objs.size:=fun b L=>by rw[hsz];exact Uy (hlt b L)
 have Xp:tn 0 ZR:=T.keep _ _ _ YS fun b L o e=>hk b o (by rw[←e3];exact Sl _ e);have J0:Inv (eg X N' scope cs H.heap.objs.size H (upd F s2.heap.objs.size<|.lst []) fp) [] (gb own cap J) (upd F s2.heap.objs.size<|.lst []) {H with heap:=ZR,toks:=s2.toks}:=
  Wb I3 S CA P c1 c2 f3 X2 hk ZA
 have Yr:∀{pl:SB} {H':Hp},pl=[]->(∀b∈fp,H' b=none)->∀b∈fp,fK (eg X N' scope cs H.heap.objs.size H (upd F s2.heap.objs.size<|.lst []) fp) pl H' b:=fun{pl H'} hp hn b L=>by subst hp;refine⟨hn b L,SQ (X2 b L),J0.ok.exfs b L,.inl L,fun x c e=>J0.ok.exf b L |>.2 x c e,fun p hp=>absurd hp (by show p∉([]++[]:SB);simp)⟩
 have loop:codeAny (model X.prog X.w) X.A (.compLoop (.ListComp elt [⟨tg,iter,ifs,0⟩] scope pos) 0 (.ref it) (.ref s2.heap.objs.size)<|compEnvC scope cs H.heap.objs.size X.env) (RR (.ref s2.heap.objs.size) H.heap.objs.size)
   {H with heap:=ZR,toks:=s2.toks}:=EO (Y:=eg X N' scope cs H.heap.objs.size H (upd F s2.heap.objs.size<|.lst []) fp) hx hc (hg _ _ _ _ _) (ht _ _ _ _ _) (he _ _ _ _ _) T J0 Xp (fun b L=>(f3 b L).1) (Yr rfl) (h _ hD) fun ZP H4 s5 I5 qz=>by
  have I6:Inv X pins J H4 s5:=I3.call' (ch:=fp) I5.os I5.base I5.hok I5.bare fun b L=>⟨(f3 b L).2.2.2.1,(f3 b L).2.1,(f3 b L).2.2.2.2.1,(f3 b L).2.2.2.2.2⟩
  obtain⟨m',Ya,_⟩:=I5.loc;exact(Ϛ _ _ s5 m' H4 I6 Ya (I3.fpOk (Sm _) I5.free) qz)
 have lp:codeAny (model X.prog X.w) X.A (.compStart (.ListComp elt [⟨tg,iter,ifs,0⟩] scope pos) 0 (.ref it) (.ref s2.heap.objs.size)<|compEnvC scope cs H.heap.objs.size X.env) (RR (.ref s2.heap.objs.size) H.heap.objs.size)
   {H with heap:=ZR,toks:=s2.toks}:=codeAny_compStart_list loop (T.self _ 0 _ _ _ Xp loop)
 subst Yi;exact lp
end
def Bu(own:Ŗ)(cap:ő)(wi:TI)(g:TG)(tc:TT)(te:TE):TE:=fun J H Q=>wi J H fun Z7 H1=>∀D,H1 D=none->mZ Z7 g tc te D (gb own cap J) H1 (Q<|.ref D)
def KW(i:Nat)(own:Ŗ)(cap:ő)(wi:TI)(g:TG)(tc:TT)(te:TE):TS:=fun D J H=>wi J H fun Z7 H1=>∀p,H1 p=none->mZ Z7 g tc te p (gb own cap J) H1 (fun L=>D.nx (J.set i<|some<|.ref p) L)
section
variable {X:Cx} {N' own:Ŗ} {cap:ő} {scope:Scope} {tg iter elt:Expr} {ifs:Ř} {pos:Pos} {wi:TI} {g:TG} {tc:TT} {te:TE}
theorem Inv.letgo(I:Inv X pins J H s)(f:fK X pins H C)(z:Heap.SameBut C s.heap h'):Inv X pins J H {s with heap:=h'}:=
 I.turned (t':=s.toks) (it:=C) (fun b o L e=>(z.2 b L).trans e) f.1 f.2.1 f.2.2.2.1 f.2.2.2.2.1 f.2.2.2.2.2
theorem Pp(S:VZ X N' own cap scope)(hi:PI X tg iter wi)
  (hg:∀cl C Z3 Z1 ex,PG (eg X N' scope cl C Z3 Z1 ex) tg g) (ht:∀cl C Z3 Z1 ex,XA (eg X N' scope cl C Z3 Z1 ex) ifs tc) (he:∀cl C Z3 Z1 ex,PE (eg X N' scope cl C Z3 Z1 ex) elt te)
  (hx:hI X:=by exact fun _ _ z=>z) (hc:X.calm=true:=by rfl) (hs:YN X iter:=by intro _;rfl):
  PE X (.ListComp elt [⟨tg,iter,ifs,0⟩] scope pos) (Bu own cap wi g tc te):=by
 intro pins s J H Q I h;rw[VW];obtain⟨cl,Xr,c1,c2⟩:=nD (scope:=scope) (env:=X.env) fun y hy hk=>I.ok.has y.1 (S.free y hy hk);refine(TU (use:=none) rfl hs Xr S.kind S.names (V0 (hi pins s J H _ I h) fun v s1 h1=>V0 h1 fun θ s2 h2=>?_));obtain⟨it,fp,tn,Z7,H2,e,I2,T,P,f2,q⟩:=h2;subst e;refine(vq (RR:=fun acc C=>compPost (model X.prog X.w) X.A X.xe none (EP X pins J Q) acc C) (Z:=fun D=>Q<|.ref D) hx hc S hg ht he I2 T P f2 c1 c2 q ?_);intro D C s' m' H' I' F f' z;exact⟨m',F,fun č L=>⟨.ref D,H',I'.letgo f' L,rfl,z⟩⟩
theorem Qe(hN:X.N.Nodup)(ξ:X.N[i]?=some y)(hy:X.env.scope.names.lookup y=some .local)(S:VZ X N' own cap scope)(hi:PI X tg iter wi)
  (hg:∀cl C Z3 Z1 ex,PG (eg X N' scope cl C Z3 Z1 ex) tg g) (ht:∀cl C Z3 Z1 ex,XA (eg X N' scope cl C Z3 Z1 ex) ifs tc) (he:∀cl C Z3 Z1 ex,PE (eg X N' scope cl C Z3 Z1 ex) elt te)
  (ν:swapsWith (.ListComp elt [⟨tg,iter,ifs,0⟩] scope pos) (some<|.Name y py) F.line X.env=pure true:=by rfl)
  (hx:hI X:=by exact fun _ _ z=>z) (hc:X.calm=true:=by rfl) (hs:YN X iter:=by intro _;rfl):
  PS X (.Assign [.Name y py] (.ListComp elt [⟨tg,iter,ifs,0⟩] scope pos) F) (KW i own cap wi g tc te):=by
 intro pins s J H D I h;obtain⟨cl,Xr,c1,c2⟩:=nD (scope:=scope) (env:=X.env) fun y hy hk=>I.ok.has y.1 (S.free y hy hk);rw[exec_Assign_Name_used _ _ _ _ ν];refine Sj (TZ<|Sj ?_);show wpAny _ _ (do let _ ←comprehension (.ListComp elt [⟨tg,iter,ifs,0⟩] scope pos) scope X.env _ (newList []) false (eval iter X.env) (some<|assign (.Name y py) X.env)) _ _ s;refine Sj (Ss (TU (use:=some (assign (.Name y py) X.env)) (Q:=fun _ s'=>SP X pins D .next s') rfl hs Xr S.kind S.names
  (V0 (hi pins s J H _ I h) fun v s1 h1=>V0 h1 fun θ s2 h2=>?_)) (fun _ s' hq=>Sk<|Sk hq) fun _ _ e=>e)
 obtain⟨it,fp,tn,Z7,H2,e,I2,T,L,f2,q⟩:=h2;subst e;refine(vq (RR:=fun acc C=>compPost (model X.prog X.w) X.A X.xe (some<|assign (.Name y py) X.env) (fun _ s'=>SP X pins D .next s') acc C) (Z:=fun p H2=>D.nx (J.set i<|some<|.ref p) H2) hx hc S hg ht he I2 T L f2 c1 c2 q ?_);intro p C s' m' H' I' Ya f' z;show wpAny _ _ (assign (.Name y py) X.env<|.ref p) _ _ _;refine Vx (v4 I' hN ξ (.inl hy) (v:=.ref p) rfl (fun Β Ę hm=>?_) (.inr hy));obtain⟨a,P,ha⟩:=hm;have ċ:C≠a:=by
  rcases ha with z|z
  .rw[z];exact f'.2.1
  .exact fun e=>f'.2.2.2.2.1 y a z e.symm
 refine⟨m',Ya.sameBut P ċ,fun h3 Yi=>?_⟩;exact⟨_,H',Ę.letgo f' Yi,z⟩
end
section
variable {X:Cx} {pins:SB} {J:St} {H:Hp} {s:Shared} {h':Heap} {ch:Ś}
theorem Inv.turns(I:Inv X pins J H s)(hf:∀b∈ch,fK X pins H b)(k:∀b o,b∉ch->s.heap.get? b=some o->h'.get? b=some o):Inv X pins J H {s with heap:=h',toks:=t'}:=by
 have P:∀b u,H b=some u->b∉ch:=fun b u e z=>by rw[(hf b z).1] at e;cases e
 refine I.step (g':=s.gens) (d':=s.drawn) (ch:=ch) (fun b hb=>?_) (fun b o _ _ L e _=>k b o L e) (fun b o _ _ L e _=>⟨o.slots,k b o L e⟩) (fun _ _ _ _ n=>n)
  (fun b o L e=>⟨o,k b o L e⟩) (fun _ _ e=>e) (fun _ _ _ e=>e) (fun b ps e=>⟨#[],by rw[e];simp⟩) (fun m S=>?_) (fun b u e=>?_) I.bare
 .obtain⟨f0,f1,f2,f3,f4,f5⟩:=hf b hb;exact⟨f3,f1,f4,f5⟩
 .obtain⟨o,es,ep,F,r⟩:=S;exact⟨o,es,ep,k _ o (fun z=>(hf _ z).2.1 rfl) F,r⟩
 .refine(I.hok b u e).stay (fun c v L q=>k c v ?_ q) (fun _ q=>q) fun _ _ q=>q;rcases L with z|z
  .rw[z];exact P b u e
  .exact P c _ z
theorem Inv.turnLay(I:Inv X pins J H s)(hf:∀b∈ch,fK X pins H b)(k:∀b o,b∉ch->s.heap.get? b=some o->h'.get? b=some o)(hT:s.heap.objs.size<=T)
  (new:V9 X.prog X.w (upd H T o) h' T o):Inv X pins J (upd H T o) {s with heap:=h',toks:=t'}:=by
 have P:∀b u,H b=some u->b∉ch:=fun b u e z=>by rw[(hf b z).1] at e;cases e
 have F:H T=none:=I.hok.fresh hT;have ne:∀b o,s.heap.get? b=some o->b≠T:=fun b o e=>SQ (SW (Su e) hT);refine I.step (g':=s.gens) (d':=s.drawn) (ch:=ch) (fun b S=>?_) (fun b o _ _ L e _=>k b o L e) (fun b o _ _ L e _=>⟨o.slots,k b o L e⟩) (fun b o _ e n=>by rw[eG (ne b o e)];exact n)
  (fun b o L e=>⟨o,k b o L e⟩) (fun b xs e=>by rw[eG (gA e F)];exact e) (fun b o u e=>by rw[eG (gA e F)];exact e) (fun b ps e=>⟨#[],by rw[eG (gA e F),e];simp⟩) (fun m hm=>?_) (fun b u e=>?_) I.bare
 .obtain⟨f0,f1,f2,f3,f4,f5⟩:=hf b S;exact⟨f3,f1,f4,f5⟩
 .obtain⟨o,es,ep,ho,r⟩:=hm;exact⟨o,es,ep,k _ o (fun z=>(hf _ z).2.1 rfl) ho,r⟩
 .by_cases S:b=T
  .subst S;rw[fL] at e;cases e;exact new
  .rw[eG S] at e;refine(I.hok b u e).stay (fun c v L q=>k c v ?_ q) (fun c q=>by rw[eG (gA q F)];exact q) fun c xs q=>by rw[eG (gA q F)];exact q
   rcases L with z|z
   .rw[z];exact P b u e
   .exact P c _ z
end
def ė(K:Frag)(a:Addr):It:=
 ⟨fun i H=>∃xs x,WE K H a xs/\xs[i]?=some x,fun i H x H'=>∃p v,x=.ref p/\H p=none/\H'=upd H p (.tup [.int (i:Nat),v])/\∀xs,WE K H a xs->xs[i]?=some v,fun i H=>∃xs,WE K H a xs/\xs.length<=i⟩
def xN:2<=sizeLine:=by rw[Uc];decide
theorem La{P:Program}{w:World}{K:Frag}{elts:Ř}{k:Nat}{pos:Pos}(a e it:Addr)(Wz:e≠it):
  Turn P w K (.Tuple elts k pos) (ė K a) [e,it] e (fun i h=>(∃old,IsEnum h e it i old)/\h.IsListIter it a i) where
 mem:=by simp
 obj:=fun i h st b L=>by
  obtain⟨⟨old,S⟩,o,e2,c,d⟩:=st;rcases SI.mp L with rfl|L
  .exact⟨_,S,fun v z=>by cases z⟩
  .rw[To.mp L];exact⟨o,e2,fun v z=>by rw[d] at z;cases z⟩
 keep:=fun i h h' st kk=>⟨let ⟨old,S⟩:=st.1;⟨old,kk e nofun _ S⟩,st.2.at fun o q=>kk it nofun o q⟩
 item:=by
  intro X hP hw hK hc i pins s J H E I hf st hg;subst hP hw hK;obtain⟨xs,x,hq,hx⟩:=hg;obtain⟨its,rv,p,hz⟩:=I.list hq;obtain⟨u,hu,ru⟩:=rv.get hx;obtain⟨⟨old,S⟩,hit⟩:=st;refine(wpAny_pyNext_enum_item S hit p.isList (x:=u) (by simpa using hu) Wz fun h1 ho û hT hsz hk=>?_);refine⟨_,rfl,wpAny_letOwnedTupleGo_enum ho fun h2 Ą F=>?_⟩;have hlt:e<s.heap.objs.size:=Su S
  replace F:Heap.SameBut e h1 h2:=F
  have ϙ:h2.get? s.heap.objs.size=some {cls:=.type "tuple",data:=.seq #[.int i s.toks,u]}:=(F.2 _<|UD hlt).trans hT;have hn:H s.heap.objs.size=none:=I.hok.fresh (Sm _);have I2:Inv X pins J (upd H s.heap.objs.size<|.tup [.int (i:Nat),x]) {s with heap:=h2,toks:=s.toks+1}:=
   I.turnLay (ch:=[e,it]) hf (fun b o L q=>(F.2 b<|fun z=>L<|by simp[z]).trans (hk b o (fun z=>L<|by simp[z]) (fun z=>L<|by simp[z]) q)) (Sm _)
    ⟨xN,[.int i s.toks,u],.cons ⟨_,rfl⟩ (.cons ru .nil),⟨_,ϙ,rfl,_,rfl⟩⟩
  have ú:h2.IsListIter it a (i+1):=û.at fun o q=>(F.2 it<|Ne.symm Wz).trans q;have f1:∀b∈[e,it],(upd H s.heap.objs.size<|.tup [.int (i:Nat),x]) b=none:=fun b L=>by
   have _x:b<s.heap.objs.size:=by
    rcases SI.mp L with rfl|L
    .exact hlt
    .rw[To.mp L];obtain⟨o,q,_⟩:=hit;exact(Su q)
   rw[eG (SQ _x)];exact(hf b L).1
  exact⟨.ref s.heap.objs.size,_,I2,rfl,⟨_,x,rfl,hn,rfl,fun ys hy=>by rw[I.list_inj hy hq];exact hx⟩,⟨⟨u,by simpa using Ą⟩,ú⟩,f1⟩
 done:=by intro X hP hw hK hc i pins s J H E I hf st hg;subst hP hw hK;obtain⟨xs,hq,hx⟩:=hg;obtain⟨its,rv,p,hz⟩:=I.list hq;obtain⟨⟨old,S⟩,hit⟩:=st;have hl:=rv.length;exact wpAny_pyNext_enum_end (I.ok.hd hc) S hit p.isList (by simp;omega) fun h' eb=>⟨rfl,I.turns (t':=s.toks) (ch:=[e,it]) hf fun b o L q=>eb b o (fun z=>L<|by simp[z]) q⟩
 self:=fun _ _ _ _ _ st h=>by obtain⟨⟨old,S⟩,_⟩:=st;exact(wpAny_pyIter_enum S h)
def Ef(K:Frag)(ta:TA):TI:=fun J H R=>ta J H fun vs H1=>∃a,vs=[.ref a]/\(∃xs,WE K H1 a xs)/\R (ė K a) H1
section
variable {X:Cx}
theorem PQ(hg:Gl X "enumerate") (hm:X.mg "enumerate"=none) (ha:PA X [a] ta) (hs:WX X a:=by rfl):
  PI X (.Tuple elts k XS) (.Call (.Name "enumerate" p) [a] [] pos) (Ef X.K ta):=by
 intro pins s J H R I h;refine Call_ (jv I hg hm boot_enumerate<|Tx (V0 (ha pos pins s J H _ I h) fun us s1 hm=>?_) hs rfl);obtain⟨vs,H1,P,r1,q1⟩:=hm;obtain⟨l,e,⟨xs,hq⟩,q⟩:=q1;subst e;obtain⟨u,rfl,ru⟩:=kr r1;cases ru;obtain⟨its,rv,pl,hz⟩:=P.list hq;refine(call_enumerate_list pl.isList fun h' S z hsz hk=>wpAny_pyIter_enum S ?_);have I2:Inv X pins J H1 {s1 with heap:=h'}:=P.kept (t':=s1.toks) hk;refine⟨_,[s1.heap.objs.size+1,s1.heap.objs.size],_,_,H1,rfl,I2,La l _ _ (Nat.succ_ne_self _),⟨⟨.none,S⟩,z⟩,fun b F=>?_,q⟩;have L:s1.heap.objs.size<=b:=by
  rcases SI.mp F with rfl|F
  .exact Nat.le_succ _
  .rw[To.mp F];exact Sm _
 exact P.fpOk L (P.hok.fresh L)
end
def ĕ(K:Frag)(a b:Addr):It:=
 ⟨fun i H=>∃xs ys x y,WE K H a xs/\WE K H b ys/\xs[i]?=some x/\ys[i]?=some y,
  fun i H x H'=>∃p v u,x=.ref p/\H p=none/\H'=upd H p (.tup [v,u])/\(∀xs,WE K H a xs->xs[i]?=some v)/\∀ys,WE K H b ys->ys[i]?=some u,
  fun i H=>∃xs ys,WE K H a xs/\WE K H b ys/\(xs.length<=i\/ys.length<=i)⟩
theorem Ki{P:Program}{w:World}{K:Frag}{elts:Ř}{k:Nat}{pos:Pos}(a b z TI TO i1 i2:Addr)
  (n1:TI≠z) (n2:TO≠z) (n3:i1≠z) (n4:i2≠z) (n5:TI≠TO) (n6:TI≠i1) (n7:TI≠i2) (n8:TO≠i1) (n9:TO≠i2) (n10:i1≠i2):
  Turn P w K (.Tuple elts k pos) (ĕ K a b) [z,TI,TO,i1,i2] z (fun i h=>IsZip h z TI TO .none/\IsPair h TI (.ref i1) (.ref i2)/\(∃a b,IsPair h TO a b)/\h.IsListIter i1 a i/\h.IsListIter i2 b i) where
 mem:=by simp
 obj:=fun i h st c hc=>by
  obtain⟨hz,L,⟨u,v,F⟩,⟨o1,e1,c1,d1⟩,⟨o2,e2,c2,d2⟩⟩:=st;simp only[SI,Ud,VE] at hc;rcases hc with rfl|rfl|rfl|rfl|rfl
  .exact⟨_,hz,fun v z=>by cases z⟩
  .exact⟨_,L,fun v z=>by cases z⟩
  .exact⟨_,F,fun v z=>by cases z⟩
  .exact⟨o1,e1,fun v z=>by rw[d1] at z;cases z⟩
  .exact⟨o2,e2,fun v z=>by rw[d2] at z;cases z⟩
 keep:=fun i h h' st kk=>by obtain⟨hz,L,⟨u,v,F⟩,h1,h2⟩:=st;exact(⟨kk z nofun _ hz,kk TI nofun _ L,⟨u,v,kk TO nofun _ F⟩,h1.at fun o q=>kk i1 nofun o q,h2.at fun o q=>kk i2 nofun o q⟩)
 item:=by
  intro X hP hw hK hc i pins s J H E I hf st hg;subst hP hw hK;obtain⟨xs,ys,x,y,hq,Za,hx,hy⟩:=hg;obtain⟨its,rv,p,é⟩:=I.list hq;obtain⟨mP,Γ,p2,ĸ⟩:=I.list Za;obtain⟨u,hu,ru⟩:=rv.get hx;obtain⟨u2,_h,y'⟩:=Γ.get hy;obtain⟨hz,L,⟨c,d,F⟩,h1,h2⟩:=id st;have trk:∀{l:Addr} {zs:ŗ},WE X.K H l zs->∀c∈[z,TI,TO,i1,i2],l≠c:=fun{l zs} hl c ϔ e=>by
   subst e;obtain⟨_S,_,⟨o,n,eo,co,_,dd⟩,_⟩:=I.list hl;simp only[SI,Ud,VE] at ϔ;rcases ϔ with rfl|rfl|rfl|rfl|rfl
   .rw[hz] at eo;cases eo;exact absurd co (by show ¬(Value.type "zip"=Value.type "list");decide)
   .rw[L] at eo;cases eo;exact absurd co (by show ¬(Value.type "tuple"=Value.type "list");decide)
   .rw[F] at eo;cases eo;exact absurd co (by show ¬(Value.type "tuple"=Value.type "list");decide)
   .obtain⟨o1,e1,c1,_⟩:=h1;rw[e1] at eo;cases eo;rw[c1] at co;exact absurd co (by decide)
   .obtain⟨o1,e1,c1,_⟩:=h2;rw[e1] at eo;cases eo;rw[c1] at co;exact absurd co (by decide)
  have D:ZipApart z TI TO i1 i2 a b:=by constructor<;>first|assumption|(apply Ne.symm;assumption)|exact trk hq _ nofun|exact trk Za _ nofun|exact(trk hq _ nofun).symm|exact(trk Za _ nofun).symm
  refine wpAny_pyNext_zip_item D hz L F h1 h2 p.isList p2.isList (x:=u) (y:=u2) (by simpa using hu) (by simpa using _h) fun h' a1 a2 a3 a4 a5 a6 hk=>?_;refine⟨_,rfl,wpAny_letOwnedTupleGo_zip a1 fun h3 _Y S=>?_⟩
  replace S:Heap.SameBut z h' h3:=S
  have hlt:z<s.heap.objs.size:=Su hz;have ϙ:h3.get? s.heap.objs.size=some {cls:=.type "tuple",data:=.seq #[u,u2]}:=(S.2 _<|UD hlt).trans a5;have hn:H s.heap.objs.size=none:=I.hok.fresh (Sm _);have I2:Inv X pins J (upd H s.heap.objs.size<|.tup [x,y]) {s with heap:=h3,toks:=s.toks}:=
   I.turnLay (ch:=[z,TI,TO,i1,i2]) hf (fun b o hb q=>(S.2 b<|fun e=>hb<|by simp[e]).trans (hk b o (fun e=>hb<|by simp[e]) (fun e=>hb<|by simp[e]) (fun e=>hb<|by simp[e]) (fun e=>hb<|by simp[e]) q)) (Sm _)
    ⟨xN,[u,u2],.cons ru (.cons y' .nil),⟨_,ϙ,rfl,_,rfl⟩⟩
  have f1:∀b∈[z,TI,TO,i1,i2],(upd H s.heap.objs.size<|.tup [x,y]) b=none:=fun b hb=>by
   have Wz:b≠s.heap.objs.size:=by
    rintro rfl;obtain⟨hz,L,⟨c,d,F⟩,⟨o1,e1,_⟩,⟨o2,e2,_⟩⟩:=st;simp only[SI,Ud,VE] at hb;rcases hb with e|e|e|e|e
    .rw[←e] at hz;exact absurd (Su hz) (Td _)
    .rw[←e] at L;exact absurd (Su L) (Td _)
    .rw[←e] at F;exact absurd (Su F) (Td _)
    .rw[←e] at e1;exact absurd (Su e1) (Td _)
    .rw[←e] at e2;exact absurd (Su e2) (Td _)
   rw[eG Wz];exact(hf b hb).1
  refine⟨.ref s.heap.objs.size,_,I2,rfl,⟨_,x,y,rfl,hn,rfl,fun zs ê=>by rw[I.list_inj ê hq];exact hx,fun zs ê=>by rw[I.list_inj ê Za];exact hy⟩,⟨_Y,?_,⟨u,u2,?_⟩,?_,?_⟩,f1⟩
  .exact(S.2 _ n1).trans (hk _ _ n1 n5 n6 n7 L)
  .exact(S.2 _ n2).trans a2
  .exact a3.at fun o q=>(S.2 _ n3).trans q
  .exact a4.at fun o q=>(S.2 _ n4).trans q
 done:=by
  intro X hP hw hK hc i pins s J H E I hf st hg;subst hP hw hK;obtain⟨xs,ys,hq,Za,hx⟩:=hg;obtain⟨its,rv,p,é⟩:=I.list hq;obtain⟨mP,Γ,p2,ĸ⟩:=I.list Za;have l1:=rv.length;have l2:=Γ.length;obtain⟨hz,L,⟨c,d,F⟩,h1,h2⟩:=id st;have trk:∀{l:Addr} {zs:ŗ},WE X.K H l zs->∀c∈[z,TI,TO,i1,i2],l≠c:=fun{l zs} hl c ϔ e=>by
   subst e;obtain⟨_S,_,⟨o,n,eo,co,_,dd⟩,_⟩:=I.list hl;simp only[SI,Ud,VE] at ϔ;rcases ϔ with rfl|rfl|rfl|rfl|rfl
   .rw[hz] at eo;cases eo;exact absurd co (by show ¬(Value.type "zip"=Value.type "list");decide)
   .rw[L] at eo;cases eo;exact absurd co (by show ¬(Value.type "tuple"=Value.type "list");decide)
   .rw[F] at eo;cases eo;exact absurd co (by show ¬(Value.type "tuple"=Value.type "list");decide)
   .obtain⟨o1,e1,c1,_⟩:=h1;rw[e1] at eo;cases eo;rw[c1] at co;exact absurd co (by decide)
   .obtain⟨o1,e1,c1,_⟩:=h2;rw[e1] at eo;cases eo;rw[c1] at co;exact absurd co (by decide)
  have D:ZipApart z TI TO i1 i2 a b:=by constructor<;>first|assumption|(apply Ne.symm;assumption)|exact trk hq _ nofun|exact trk Za _ nofun|exact(trk hq _ nofun).symm|exact(trk Za _ nofun).symm
  exact wpAny_pyNext_zip_end (I.ok.hd hc) D hz L F h1 h2 p.isList p2.isList (by rcases hx with q|q;exact .inl (by simp;omega);exact .inr (by simp;omega)) fun h' hk=>
   ⟨rfl,I.turns (t':=s.toks) (ch:=[z,TI,TO,i1,i2]) hf fun b o hb q=>hk b o (fun e=>hb<|by simp[e]) (fun e=>hb<|by simp[e]) (fun e=>hb<|by simp[e]) (fun e=>hb<|by simp[e]) q⟩
 self:=fun _ _ _ _ _ st h=>wpAny_pyIter_zip st.1 h
def nz{n i j:Nat}(h:i≠j):n+i≠n+j:=fun e=>h (Nat.add_left_cancel e)
def Bv(K:Frag)(ta:TA):TI:=fun J H R=>ta J H fun vs H1=>∃a b,vs=[.ref a,.ref b]/\(∃xs,WE K H1 a xs)/\(∃ys,WE K H1 b ys)/\R (ĕ K a b) H1
section
variable {X:Cx}
theorem GD(hg:Gl X "zip") (hm:X.mg "zip"=none) (ha:PA X [a,b] ta) (hs:YO X a b:=by rfl) (z:WX X b:=by rfl):
  PI X (.Tuple elts k XS) (.Call (.Name "zip" p) [a,b] [] pos) (Bv X.K ta):=by
 intro pins s J H R I h;refine Call_ (jv I hg hm boot_zip<|Tx (V0 (ha pos pins s J H _ I h) fun us s1 hm=>?_) (Ym hs z)<|Φ z);obtain⟨vs,H1,P,r1,q1⟩:=hm;obtain⟨l,l2,e,⟨xs,hq⟩,⟨ys,Za⟩,q⟩:=q1;subst e;obtain⟨u,u2,rfl,ru,F⟩:=qH r1;cases ru;cases F;obtain⟨its,rv,pl,hz⟩:=P.list hq;obtain⟨mP,Γ,S,ĸ⟩:=P.list Za;refine(call_zip_2 pl.isList S.isList fun h' a1 a2 a3 a4 a5 a6 hk=>wpAny_pyIter_zip a1 ?_);have I2:Inv X pins J H1 {s1 with heap:=h'}:=P.kept (t':=s1.toks) hk;refine⟨_,[s1.heap.objs.size+4,s1.heap.objs.size+2,s1.heap.objs.size+3,s1.heap.objs.size,s1.heap.objs.size+1],_,_,H1,rfl,I2,
  Ki l l2 _ _ _ _ _ (nz<|by decide) (nz<|by decide) (nz (i:=0)<|by decide) (nz<|by decide) (nz<|by decide) (nz (j:=0)<|by decide) (nz<|by decide) (nz (j:=0)<|by decide) (nz<|by decide) (nz (i:=0)<|by decide),⟨a1,a2,⟨_,_,a3⟩,a4,a5⟩,fun b hb=>?_,q⟩
 have L:s1.heap.objs.size<=b:=by
  simp only[SI,Ud,VE] at hb;rcases hb with rfl|rfl|rfl|rfl|rfl
  .exact UH _ _
  .exact UH _ _
  .exact UH _ _
  .exact Sm _
  .exact UH _ _
 exact P.fpOk L (P.hok.fresh L)
end
def t5:List String:=["int","bool","str","NoneType","list","tuple","dict"]
def Wv:List String:=["int","bool","str","list","tuple","dict"]
def qe(t c:String):Bool:=t==c||(t=="bool"&&c=="int")
def HL{K:Frag}{t c:String}(z:t∈t5)(F:c∈Wv):PySem.W.kitOne K (.type t) (.type c)=some (qe t c):=by simp only[t5,Wv,SI,Ud,VE] at z F;rcases z with rfl|rfl|rfl|rfl|rfl|rfl|rfl<;>rcases F with rfl|rfl|rfl|rfl|rfl|rfl<;>first|rfl|decide|(with_unfolding_all rfl)
inductive Yl (K:Frag) (H:Hp):V->String->Prop where
 |non:Yl K H .non "NoneType"
 |bl (x:Bool):Yl K H (.bl x) "bool"
 |int (i:Int):Yl K H (.int i) "int"
 |str (x:Str):Yl K H (.str x) "str"
 |lst {a:Addr} {xs:ŗ} (e:WE K H a xs):Yl K H (.ref a) "list"
 |tup {a:Addr} {xs:ŗ} (e:Wx K H a xs):Yl K H (.ref a) "tuple"
 |dK {a:Addr} {kvs:List (Key×V)} (e:H a=some (.dK kvs)):Yl K H (.ref a) "dict"
def Yl.mem{K:Frag}{H:Hp}{x:V}{t:String}(h:Yl K H x t):t∈t5:=by cases h<;>simp[t5]
section
variable {X:Cx}
theorem LH:iE X (.builtin "isinstance") (fun xs H Q=>∃(x:V) (t:String) (c:String),xs=[x,.ty c]/\Yl X.K H x t/\Wv.contains c=true/\Q (.bl<|qe t c) H):=by
 intro pins s J H xs us Q I r h;obtain⟨x,t,c,rfl,ty,hc,q⟩:=h;obtain⟨u,w',rfl,L,rc⟩:=qH r;cases (show w'=Value.type c from rc);have e:=HL (K:=X.K) ty.mem (by simpa using hc:c∈Wv);have fin:∀tk,EP X pins J Q (.bool<|qe t c) {s with toks:=tk}:=fun tk=>⟨.bl _,H,I.tok _,rfl,q⟩
 cases ty with
 |non=>cases (show u=Value.none from L);exact Ul PySem.W.kitx_none I.kIn True.intro e (fun z=>nomatch z) fin
 |bl y=>cases (show u=Value.bool y from L);exact Ul PySem.W.kitx_bool I.kIn True.intro e (fun z=>nomatch z) fin
 |int i=>obtain⟨t,q⟩:=(show ∃t,u=Value.int i t from L);cases q;exact Ul PySem.W.kitx_int I.kIn True.intro e (fun z=>nomatch z) fin
 |str y=>obtain⟨t,q⟩:=(show ∃t,u=Value.str y t from L);cases q;exact Ul PySem.W.kitx_str I.kIn True.intro e (fun z=>nomatch z) fin
 | @lst a xs ea=>
  cases (show u=Value.ref a from L);obtain⟨S,_,⟨o,n,F,P,_⟩,_⟩:=I.list ea;exact Ul PySem.W.kitx_list I.kIn ⟨o,F,P⟩ e (fun z=>nomatch z) fin
 | @tup a xs ea=>
  cases (show u=Value.ref a from L);obtain⟨S,_,⟨o,F,P,_⟩,_⟩:=I.tuple ea;exact Ul PySem.W.kitx_tuple I.kIn ⟨o,F,P⟩ e (fun z=>nomatch z) fin
 | @dK a kvs ea=>
  cases (show u=Value.ref a from L);obtain⟨_,_,vs,_,p⟩:=(show V9 X.prog X.w H s.heap a (.dK kvs) from I.hok a _ ea)
  obtain⟨o,es,ep,F,P,_⟩:=p;exact(Ul PySem.W.kitx_dict I.kIn ⟨o,F,P.1⟩ e (fun z=>nomatch z) fin)
end
mutual
inductive Dp (K:Frag) (H:Hp):V->PyData->Prop where
 |non:Dp K H .non .none
 |bl (b:Bool):Dp K H (.bl b) (.bool b)
 |int (i:Int):Dp K H (.int i) (.int i)
 |str (x:Str):Dp K H (.str x) (.str x)
 |lst {a:Addr} {xs:ŗ} {ds:List PyData}:WE K H a xs->Xs K H xs ds->Dp K H (.ref a) (.list ds)
 |tup {a:Addr} {xs:ŗ} {ds:List PyData}:Wx K H a xs->Xs K H xs ds->Dp K H (.ref a) (.tuple ds)
inductive Xs (K:Frag) (H:Hp):ŗ->List PyData->Prop where
 |nil:Xs K H [] []
 |cons {x:V} {d:PyData} {xs:ŗ} {ds:List PyData}:Dp K H x d->Xs K H xs ds->Xs K H (x::xs) (d::ds)
end
section
variable {X:Cx} {pins:SB} {J:St} {H:Hp} {s:Shared}
mutual
theorem Dp.reads(I:Inv X pins J H s):∀{v:V} {d:PyData} {u:Value},Dp X.K H v d->RelV v u->∃as,Reads s.heap u d as
 |_,_,_,.non,r=>by cases (show _=Value.none from r);exact⟨_,.none⟩
 |_,_,_,.bl b,r=>by cases (show _=Value.bool b from r);exact⟨_,.bool b⟩
 |_,_,_,.int i,r=>by obtain⟨t,rfl⟩:=r;exact⟨_,.int i t⟩
 |_,_,_,.str x,r=>by obtain⟨t,rfl⟩:=r;exact⟨_,.str x t⟩
 |_,_,_,.lst (a:=a) h z,r=>by cases (show _=Value.ref a from r);obtain⟨P,L,⟨o,n,h1,h2,_,S⟩,_⟩:=I.list h;obtain⟨as,F⟩:=Xs.reads I z L;exact⟨_,.list h1 h2 S<|by simpa using F⟩
 |_,_,_,.tup (a:=a) h z,r=>by cases (show _=Value.ref a from r);obtain⟨P,L,⟨o,h1,h2,n,S⟩,_⟩:=I.tuple h;obtain⟨as,F⟩:=Xs.reads I z L;exact(⟨_,.tuple h1 h2 S<|by simpa using F⟩)
theorem Xs.reads(I:Inv X pins J H s):∀{vs:ŗ} {ds:List PyData} {us:Œ},Xs X.K H vs ds->Vals vs us->∃as,ReadsAll s.heap us ds as
 |_,_,_,.nil,r=>by cases r;exact⟨_,.nil⟩
 |_,_,_,.cons h z,r=>by
  cases r with
  |cons P L=>
   obtain⟨as,S⟩:=Dp.reads I h P;obtain⟨bs,F⟩:=Xs.reads I z L;exact(⟨_,.cons S F⟩)
end
theorem Ed(hu:X.A.units+64<cLine):Wh X (compareOp .Eq) (fun x y H Q=>∃d e,Dp X.K H x d/\Dp X.K H y e/\(d.canLay0&&e.canLay0&&decide (d.depth<=64))=true/\Q (.bl<|PyData.eqv d e) H):=by intro pins s J H x y v u Q I z P h;obtain⟨d,e,hd,he,L,q⟩:=h;simp only[SG,SJ] at L;obtain⟨as,S⟩:=hd.reads I z;obtain⟨bs,F⟩:=he.reads I P;exact(SeqAt.compareEq_reads S F L.1.1 L.1.2 ⋯ ⟨.bl _,H,I,rfl,q⟩)
theorem De(hu:X.A.units+64<cLine):Wh X (compareOp .NotEq) (fun x y H Q=>∃d e,Dp X.K H x d/\Dp X.K H y e/\(d.canLay0&&e.canLay0&&decide (d.depth<=64))=true/\Q (.bl<|!PyData.eqv d e) H):=by intro pins s J H x y v u Q I z P h;obtain⟨d,e,hd,he,L,q⟩:=h;simp only[SG,SJ] at L;obtain⟨as,S⟩:=hd.reads I z;obtain⟨bs,F⟩:=he.reads I P;exact(SeqAt.compareNe_reads S F L.1.1 L.1.2 ⋯ ⟨.bl _,H,I,rfl,q⟩)
end
section
variable {X:Cx}
def zm:V->ŗ->Hp->VK->Prop:=fun x vs H Q=>∃(a:Addr) (kvs:List (Key×V)) (k:Key) (d:V),x=.ref a/\vs=[kV k,d]/\H a=some (.dK kvs)/\kvs.length<sizeLine/\
 (∀v,gp kvs k=some v->Q v H)/\(gp kvs k=none->Q d (upd H a<|.dK<|fP kvs k d))
theorem NH:Τ X "dict.setdefault" zm:=by
 intro pins s J H x vs v us Q I rx rv h;obtain⟨a,kvs,k,d,rfl,rfl,e,hl,h1,h2⟩:=h;cases rx;obtain⟨u,w',rfl,ru,S⟩:=rv.two;obtain⟨z,hd,ws,rel,dd⟩:=l4 I.hok e;refine call_meetsIn PySem.F.slot_dict_setdefault dd.typeIs PySem.F.entry_dict_setdefault (PySem.F.args_dict_setdefault_3 _ _ _) (kt_meets_setdefault (gU X.prog X.w) a (qv ru) hd w') ⟨ws,dd,by rw[←rel.length];exact z,fun y hy=>?_,fun hn h' L hs=>?_⟩
 .have q:=rel.val k;rw[hy] at q;cases ev:gp kvs k with
  |none=>rw[ev] at q;exact q.elim|some P=>
   rw[ev] at q;exact⟨P,H,I.tok _,q,h1 P ev⟩
 .have q:=rel.val k;rw[hn] at q;cases ev:gp kvs k with
  |some P=>rw[ev] at q;exact q.elim|none=>
   have hz:(fP kvs k d).length<=sizeLine:=by have:=qy kvs k d;omega
   have he:∃q,h'.get? a=some q:=let ⟨q,_,_,hq,_⟩:=L;⟨q,hq⟩
   exact⟨d,_,rD (t':=s.toks+1) I (by rw[e];exact True.intro) hs he (uv hz hd (rel.put k S) L),S,h2 ev⟩
theorem OM{kvs:List (Key×V)}{ws:List (Key×Value)}(rel:KV kvs ws):Vals (kvs.map (·.2)) (ws.map (·.2)):=by
 induction rel with
 |nil=>exact .nil|cons r _ H=>exact .cons r.2 H
def ψ(v d:Addr):HO:=.ext fun h=>h.IsValuesView v d
def BF:V->ŗ->Hp->VK->Prop:=fun x vs H Q=>∃(a:Addr) (kvs:List (Key×V)),x=.ref a/\vs=[]/\H a=some (.dK kvs)/\∀v,H v=none->Q (.ref v) (upd H v<|ψ v a)
theorem E1:Τ X "dict.values" BF:=by
 intro pins s J H x vs v us Q I L P h;obtain⟨a,kvs,rfl,rfl,e,q⟩:=h;cases L;have:=P.zero;subst this;obtain⟨z,hd,ws,rel,dd⟩:=l4 I.hok e;refine(call_meetsIn PySem.F.slot_dict_values dd.typeIs PySem.F.entry_dict_values (PySem.F.args_dict_values_1 _) (meets_dict_values (gU X.prog X.w) a hd) ⟨⟨ws,dd⟩,?_⟩);have S:(s.heap.push {cls:=.type "dict_values",data:=.fields #[.ref a]}).IsValuesView s.heap.objs.size a:=⟨_,SA _ rfl,rfl,rfl⟩
 refine⟨.ref s.heap.objs.size,_,I.laid (t':=s.toks) (o:=ψ s.heap.objs.size a) (fun b o q=>Sl _ q) (Sm _) ?_,rfl,q _<|I.hok.fresh<|Sm _⟩;exact⟨S,⟨_,SA _ rfl⟩,fun h1 h2 p k=>let ⟨o,ho,r⟩:=p;⟨o,k o ho,r⟩⟩
theorem Ev:iE X (.type "list") (fun xs H Q=>∃(v a:Addr) (kvs:List (Key×V)),xs=[.ref v]/\H v=some (ψ v a)/\H a=some (.dK kvs)/\X.calm=true/\∀l,H l=none->Q (.ref l) (upd H l (.lst (kvs.map (·.2))))):=by intro pins s J H xs us Q I r h;obtain⟨v,a,kvs,rfl,hv,e,hc,q⟩:=h;obtain⟨u,rfl,ru⟩:=kr r;cases ru;obtain⟨z,hd,ws,rel,dd⟩:=l4 I.hok e;obtain⟨F,_,_⟩:s.heap.IsValuesView v a/\_/\_:=I.hok v _ hv;obtain⟨ep,S⟩:=dd.dictAt;refine PySem.W.kdl_call (PySem.W.kdl_values (knd:=gU X.prog X.w) (kvs:=ws) (ep:=ep)) (I.ok.hd hc) ⟨F,S⟩ (by rw[←rel.length];exact z) fun h' tk P c' hk hD L=>?_;have ev:P.toList=ws.map (·.2):=PySem.W.kdl_vals_eq P.toList (by rw[T2];exact L.1) fun j v ej=>L.2 j v (by rw[←Array.getElem?_toList];exact ej);have rv:Vals (kvs.map (·.2)) (ws.map (·.2)):=OM rel;refine⟨.ref s.heap.objs.size,_,I.laid (t':=tk) (o:=.lst (kvs.map (·.2))) hk (Sm _) ?_,rfl,q _<|I.hok.fresh<|Sm _⟩;refine⟨by rw[Sv];exact z,ws.map (·.2),c',rv,?_⟩;rw[←ev];exact hD
end
def Df(P:Program)(w:World)(K:Frag)(mg:œ)(base:Heap)(k:Nat)(x:Str)(ps:Ŗ)(sp:Sp):Prop:=
 ∃f fd,Qv P w K mg base WN k f fd ps sp/\Binds K fd ps []/\keepIn K (.ref f)=true/\mg x=some (.ref f)
section
variable {X:Cx} {k:Nat} {x:Str} {ps:Ŗ} {sp:Sp} {e:Expr} {es:Ř} {t:TA} {p pos:Pos}
theorem AR(D:Df X.prog X.w X.K X.mg X.base k x ps sp)(S:V8 k X.A)(ha:PA X (e::es) t)(hg:Gl X x:=by rfl)(z:Xm x:=by decide)
  (he:X9 X e es:=by rfl) (hpl:Yn X pos es:=by rfl):
  PE X (.Call (.Name x p) (e::es) [] pos) (fun J H Q=>t J H fun vs H1=>sp vs H1 Q E0):=by
 obtain⟨f,fd,F,hb,P,L⟩:=D;intro pins s J H Q I h;exact QX F S hg L P hb .nil wQ ha z he hpl pins s J H Q I (by unfold yW;simpa using h)
end
def But(p:Addr)(H H':Hp):Prop:=∀b o,b≠p->H b=some o->H' b=some o
def kC(h:n<=1000000):n<=sizeLine:=by rw[Uc];omega
def pO(h:n<=1000000):n<sizeLine:=by rw[Uc];omega
def CD(N:Ŗ)(names:List (Str×NameKind))(own:Ŗ)(cap:ő)(scope:Scope):Bool:=
 (scope.kind==.function)&&scope.names.all (fun y=>(y.2 != .cell||scope.names.lookup y.1==some .cell)&&(y.2 != .local||scope.names.lookup y.1==some .local)&&(y.2 != .free||scope.names.lookup y.1==some .free)&&(y.2 != .free||(names.lookup y.1==some .cell||names.lookup y.1==some .free)))
 &&cap.all fun p=>N[p.2]?==some p.1&&scope.names.lookup p.1==some .free&&(names.lookup p.1==some .cell||names.lookup p.1==some .free)
def fw{X:Cx}{own:Ŗ}{cap:ő}{scope:Scope}(h:CD X.N X.env.scope.names own cap scope=true):VZ X (own++cap.map (·.1)) own cap scope:=by unfold CD at h;simp only[SG,S2,Bool.or_eq_true,bne_iff_ne,beq_iff_eq] at h;obtain⟨⟨h1,L⟩,F⟩:=h;exact(⟨h1,fun y H J=>(L y H).1.1.1.resolve_left fun z=>z J,fun y H J=>(L y H).1.2.resolve_left fun z=>z J,fun y H J=>(L y H).1.1.2.resolve_left fun z=>z J,fun y H J=>(L y H).2.resolve_left fun z=>z J,rfl,fun p P=>⟨(F p P).1.1,(F p P).1.2,(F p P).2⟩⟩)
section
variable {X:Cx} {a b o:Expr} {ta tb to:TE} {p pos:Pos}
theorem Hy(K:Frag)(F:X.mg "len"=none) (ha:PE X a ta) (S:Gl X "len":=by rfl) (z:WX X a:=by rfl) (hK:X.K=K:=by rfl):
  PE X (.Call (.Name "len" p) [a] [] pos) (fun J H Q=>ta J H fun x H1=>∃p ys,[x]=[V.ref p]/\(WE K H1 p ys\/Wx K H1 p ys)/\Q (.int ys.length) H1):=by
 subst hK;exact nF G4 S F PySem.boot_len (fE ha fV z) (he:=z)
theorem Mp(S:X.mg "min"=none) (ha:PE X a ta) (hb:PE X b tb) (hc:X.calm=true:=by rfl) (hg:Gl X "min":=by rfl) (F:YO X a b:=by rfl) (z:WX X b:=by rfl):
  PE X (.Call (.Name "min" p) [a,b] [] pos) (fun J H Q=>ta J H fun x H1=>tb J H1 fun y H2=>∃i j,[x,y]=[.int i,.int j]/\Q (.int<|if j<i then j else i) H2):=by
 exact nF (GQ hc) hg S rfl (fE ha (fE hb fV z)<|Ym F z) (he:=Ym F z) (hpl:=Φ z)
theorem Rk(S:X.mg "max"=none) (ha:PE X a ta) (hb:PE X b tb) (hc:X.calm=true:=by rfl) (hg:Gl X "max":=by rfl) (F:YO X a b:=by rfl) (z:WX X b:=by rfl):
  PE X (.Call (.Name "max" p) [a,b] [] pos) (fun J H Q=>ta J H fun x H1=>tb J H1 fun y H2=>∃i j,[x,y]=[.int i,.int j]/\Q (.int<|if j>i then j else i) H2):=by
 exact nF (Fq hc) hg S rfl (fE ha (fE hb fV z)<|Ym F z) (he:=Ym F z) (hpl:=Φ z)
theorem iL(K:Frag)(z:PE X a ta)(F:X.K=K:=by rfl):PI X tg a (C9 K ta):=by subst F;exact AQ z
theorem iT(K:Frag)(z:PE X a ta)(F:X.K=K:=by rfl):PI X tg a (Dq K ta):=by subst F;exact PK z
theorem iR(F:X.mg "range"=none) (ha:PE X a ta) (S:Gl X "range":=by rfl) (z:WX X a:=by rfl):PI X tg (.Call (.Name "range" p) [a] [] pos) (DU<|gJ ta iI):=Ql S F (fE ha fV z) z
theorem Sb(K:Frag)(ho:PE X o to)(ha:PE X a ta)(hs:WX X a:=by rfl)
  (S:attributeBase o "append" X.env (eval o X.env)=eval o X.env:=by rfl) (z:gV apos pos:=by rfl) (hK:X.K=K:=by rfl)
  (hfew:Χ X a pos:=by rfl):
  PE X (.Call (.Attribute o "append" apos) [a] [] pos) (Α K "list" Di to<|gJ ta iI):=by
 subst hK;exact rh UX PySem.F.slot_list_append PySem.F.type_list_append wM ho (fE ha fV hs) S hfew z hs
end
def Pot(H:Hp)(p:Addr):Prop:=∃a b c:Int,H p=some (.lst [.int a,.int b,.int c])
structure Drawn (p:Addr) (H H':Hp):Prop where
 but:But p H H'
 pot:Pot H' p
def R9{xs:ŗ}{r:Int}(h0:0<=r)(h1:r<(xs.length:Int)):W9 xs r=some (xs[r.toNat]'⋯):=by
 have H:r.toNat<xs.length:=by omega
 have:=JJ (xs:=xs) (j:=r.toNat) (v:=xs[r.toNat]) (by simp[H]);have J:((r.toNat:Nat):Int)=r:=by omega
 rw[J] at this;exact this
section
variable {X:Cx} {a:Expr} {ta:TE} {p pos:Pos}
theorem GK(K:Frag)(ml:X.mg "isinstance"=none) (ha:PE X a ta) (hb:PE X b tb) (hg:Gl X "isinstance":=by rfl) (S:YO X a b:=by rfl) (z:WX X b:=by rfl) (hK:X.K=K:=by rfl):
  PE X (.Call (.Name "isinstance" p) [a,b] [] pos) (fun J H Q=>ta J H fun x H1=>tb J H1 fun y H2=>∃(F:V) (t:String) (c:String),[x,y]=[F,.ty c]/\Yl K H2 F t/\Wv.contains c=true/\Q (.bl<|qe t c) H2):=by
 subst hK;exact nF LH hg ml rfl (fE ha (fE hb fV z)<|Ym S z) (he:=Ym S z) (hpl:=Φ z)
theorem gT(K:Frag)(h:ee X es t)(S:X.calm=true:=by rfl)(F:(assignEach es X.env).length=n:=by rfl)(z:(assignEach es X.env).findIdx? (·.1)=none:=by rfl)(hK:X.K=K:=by rfl):
  PG X (.Tuple es k pos) (zM K n t):=by subst hK;exact E4 S h F z
theorem _X(K:Frag)(F:X.mg "enumerate"=none) (ha:PE X a ta) (S:Gl X "enumerate":=by rfl) (z:WX X a:=by rfl) (hK:X.K=K:=by rfl):
  PI X (.Tuple elts k XS) (.Call (.Name "enumerate" p) [a] [] pos) (Ef K<|gJ ta iI):=by
 subst hK;exact PQ S F (fE ha fV z) z
theorem iZ(K:Frag)(S:X.mg "zip"=none) (ha:PE X a ta) (hb:PE X b tb) (hg:Gl X "zip":=by rfl) (F:YO X a b:=by rfl) (z:WX X b:=by rfl) (hK:X.K=K:=by rfl):
  PI X (.Tuple elts k XS) (.Call (.Name "zip" p) [a,b] [] pos) (Bv K<|gJ ta<|gJ tb iI):=by
 subst hK;exact GD hg S (fE ha (fE hb fV z)<|Ym F z) F z
end
def wP{xs:ŗ}{z:V->Prop}{r:Int}(h:∀x∈xs,z x)(h0:0<=r)(h1:r<(xs.length:Int)):∃v,W9 xs r=some v/\z v:=
 ⟨_,R9 h0 h1,h _<|TC _⟩
section
variable {X:Cx} {a b o:Expr} {ta tb to:TE} {pos:Pos}
theorem GB(K:Frag)(ho:PE X o to)(ha:PE X a ta)(hb:PE X b tb)(hs:YO X a b:=by rfl)(z:WX X b:=by rfl)
  (X3:attributeBase o "setdefault" X.env (eval o X.env)=eval o X.env:=by rfl) (S:gV apos pos:=by rfl) (hK:X.K=K:=by rfl)
  (hfew:((backTo pos<|starEach [a,b] X.env).all (fun x=>!x.1)&&(backToKw pos<|keywordEach [] X.env).all (fun x=>x.1.isSome)
   &&decide ([a,b].length+([]:Ť).length+(if([]:Ť).isEmpty then 0 else 1)<30))=true:=by rfl):
  PE X (.Call (.Attribute o "setdefault" apos) [a,b] [] pos) (Α K "dict" zm to<|gJ ta<|gJ tb iI):=by
 subst hK;exact rh UY PySem.F.slot_dict_setdefault PySem.F.type_dict_setdefault NH ho (fE ha (fE hb fV z)<|Ym hs z) X3 hfew S (Ym hs z) (Φ z)
theorem NF(K:Frag)(ho:PE X o to)(S:attributeBase o "values" X.env (eval o X.env)=eval o X.env:=by rfl) (z:gV apos pos:=by rfl) (hK:X.K=K:=by rfl):
  PE X (.Call (.Attribute o "values" apos) [] [] pos) (xD K "dict" BF to):=by
 subst hK;exact Aa UY PySem.F.slot_dict_values PySem.F.type_dict_values E1 ho S z
end
abbrev Cel:=Int×List Int×Addr
def gs(cs:List Cel):List (Int×Ő):=cs.map fun c=>(c.1,c.2.1)
section
variable {K:Frag} {H:Hp}
theorem Xs.len:∀{vs:ŗ} {ds:List PyData},Xs K H vs ds->vs.length=ds.length
 |_,_,.nil=>rfl|_,_,.cons _ J=>congrArg (·+1) (Xs.len J)
theorem Xs.get:∀{vs:ŗ} {ds:List PyData} {i:Nat} {v:V},Xs K H vs ds->vs[i]?=some v->∃d,ds[i]?=some d/\Dp K H v d
 |_,_,_,_,.nil,h=>by simp at h|_,_,0,_,.cons (d:=d) h J,e=>by have:_=_:=SY e;subst this;exact⟨d,rfl,h⟩
 |_,_,i+1,_,.cons h J,e=>Xs.get (i:=i) J e
end
def WZ(M:Int)(l:Ő):Prop:=M∈l/\∀a∈l,a<=M
def WZ.step{M x:Int}{l:Ő}(h:WZ M l):WZ (if x>M then x else M) (l++[x]):=by
 obtain⟨h1,J⟩:=h;refine(⟨?_,fun a H=>?_⟩)
 .split
  .simp
  .exact UB _ h1
 .rcases S8.mp H with z|z
  .have:=J a z;split<;>omega
  .have:a=x:=by simpa using z
   subst this;split<;>omega
def zJ(ns:Ő)(j:Nat):Ŝ->Prop
 |none=>j=0|some v=>∃M t,v=.int M t/\WZ M (ns.take j)
def AD:Ŝ->Array Value
 |none=>#[]|some v=>#[v,v]
theorem AJ:∀{vs:Œ} {ns:Ő} {j:Nat} {v:Value},IntsAre vs ns->vs[j]?=some v->∃t,v=.int (ns.getD j 0) t
 |_,_,_,_,.nil,h=>by simp at h|_,_,0,_,.cons n t _,h=>⟨t,(SY h).symm⟩|_,_,j+1,_,.cons n t r,h=>by obtain⟨H,e⟩:=AJ (j:=j) r h;exact(⟨H,by simpa using e⟩)
def N0(a d:Value):argsOk "max" ⟨[a],[("default",d)]⟩:=by unfold argsOk;kernel_rfl
section
variable {prog:Program} {w:World} {A:Around} {R:Result->Shared->Prop} {I l:Addr} {items:Array Value} {ns:Ő} {d:Value}
theorem Ow(hh:A.in1.handled=none)(Wz:l≠I)(hi:IntsAre items.toList ns)(S:Addr)(ĉ:S≠I)(Ŏ:S≠l):
  ∀(k j:Nat) (s:Shared) (b:Ŝ) (c:Nat),items.size - j=k->j<=items.size->s.heap.IsListIter I l j->s.heap.IsList l items->zJ ns j b->
   s.heap.get? S=some {cls:=.type "list",dict:=none,data:=.seq (AD b) c,slots:=#[]}->
   (∀v h' tk,((ns=[]/\v=d)\/∃M t,v=.int M t/\WZ M ns)->(∀x o,x≠I->x≠S->s.heap.get? x=some o->h'.get? x=some o)->R (.ok<|.ret v) {s with heap:=h',toks:=tk})->
   codeAny (model prog w) A (.builtin "max.loop" ⟨[.ref I,.none,.ref S],[("default",d)]⟩) R s:=by
 have ó:(toString "max"++toString ".loop":String)="max.loop":=by decide
 have hlen:ns.length=items.size:=by have:=hi.length;rw[T2] at this;omega
 have W:=Walks.list (prog:=prog) (w:=w) hh I l Wz items;intro k;induction k with
 |zero=>
  intro j s b c hk hj Æ z hb hS hR;have ej:j=items.size:=by omega
  subst ej;refine T4 (F.entry_max_loop) (by
   rw[TF Uq];show wpAny _ A.in1 (seqItems? (.ref S) >>= fun _=>_) _ _ s;refine Sj (Vs hS rfl (?_:wpAny _ A.in1 (tryCatch (pyNext<|.ref I) (fun _=>_) >>= fun _=>_) _ _ s));refine Sj (VS<|W.done s _ _ ⟨Æ,z⟩ fun h' tk keep=>?_);have kS:=keep S _ (by simpa using ĉ) hS;cases b with
   |none=>
    have ň:items.size=0:=hb;have hn:ns=[]:=TX.mp ⋯;show wpAny _ A.in1 (rule _ >>= fun _=>ret d) _ _ _;exact Sj (VH<|Sk<|hR d h' tk (.inl ⟨hn,rfl⟩) fun x o n1 _ e=>keep x o (by simpa using n1) e)
   |some v=>
    obtain⟨M,t,rfl,hM⟩:=hb;have L:ns.take items.size=ns:=List.take_of_length_le ⋯;rw[L] at hM;show wpAny _ A.in1 (updateSeq S (fun _=>#[]) >>= fun _=>_) _ _ _;refine Sj (VM (hz:=by show 2<=sizeLine;decide) kS rfl (Sj<|VT<|Sk<|hR _ _ tk (.inr ⟨M,t,rfl,hM⟩) fun x o n1 n2 e=>?_));exact(T1 _ _<|Ne.symm n2).trans (keep x o (by simpa using n1) e))
 |succ k ih=>
  intro j s b c hk hj Æ z hb hS hR;have hlt:j<items.size:=by omega
  refine T4 (F.entry_max_loop) (by
   rw[TF Uq];show wpAny _ A.in1 (seqItems? (.ref S) >>= fun _=>_) _ _ s;refine Sj (Vs hS rfl (?_:wpAny _ A.in1 (tryCatch (pyNext<|.ref I) (fun _=>_) >>= fun _=>_) _ _ s));refine Sj (VS<|W.item j s _ _ hlt ⟨Æ,z⟩ fun v h' tk hv Ys keep=>?_);have kS:=keep S _ (by simpa using ĉ) hS;have hx:∃t,v=.int (ns.getD j 0) t:=by exact AJ hi (by rw[Array.getElem?_toList];exact hv)
   obtain⟨t,rfl⟩:=hx;have L:ns.take (j+1)=ns.take j++[ns.getD j 0]:=by rw[List.take_add_one,So,Sq ⋯];rfl
   have J:∀(b':Ŝ) (h2:Heap) (c':Nat),zJ ns (j+1) b'->h2.get? S=some {cls:=.type "list",dict:=none,data:=.seq (AD b') c',slots:=#[]}->
     (∀x o,x≠S->h'.get? x=some o->h2.get? x=some o)->codeAny (model prog w) A (.builtin "max.loop" ⟨[.ref I,.none,.ref S],[("default",d)]⟩) R {s with heap:=h2,toks:=tk}:=fun b' h2 c' hb' Ċ k2=>by
    refine ih (j+1) _ b' c' ⋯ hlt (Ys.1.at fun o e=>k2 I o (Ne.symm ĉ) e) (Ys.2.at fun o e=>k2 l o (Ne.symm Ŏ) e) hb' Ċ fun v' h3 V' _g k3=>hR v' h3 V' _g fun x o n1 n2 e=>?_;exact k3 x o n1 n2 (k2 x o n2<|keep x o (by simpa using n1) e)
   cases b with
   |none=>
    have ň:j=0:=hb;subst ň;show wpAny _ A.in1 (updateSeq S (fun _=>#[Value.int (ns.getD 0 0) t,Value.int (ns.getD 0 0) t]) >>= fun _=>_) _ _ _;refine Sj (VM kS rfl ?_);rw[ó];refine Sk ⟨T7 Uq _,J (some<|.int (ns.getD 0 0) t) _ _ ⟨_,t,rfl,?_⟩ (Uv _ kS rfl) fun x o n e=>(T1 _ _<|Ne.symm n).trans e⟩;rw[L];exact⟨by simp,fun a ha=>by
     have:a=ns.getD 0 0:=by simpa using ha
     omega⟩
   |some vb=>
    obtain⟨M,tb,rfl,hM⟩:=hb;show wpAny _ A.in1 (tryCatch (holding [Value.int (ns.getD j 0) t,Value.int (ns.getD j 0) t]<|richCompare .Gt (.int (ns.getD j 0) t) (.int M tb) >>= fun _=>_) (fun _=>_) >>= fun _=>_) _ _ _;refine Sj (VS<|TY<|Sj ?_);refine richCompare_gives (op:=.Gt) (VI _ _ t) (VI _ _ tb) F.slot_int_gt F.entry_int_gt (F.args_int_gt_2 _ _) (gives_int_gt _ _ t tb) (fun x=>nomatch x) ?_;refine Sj (TY<|Ts<|Sj<|VT<|Sk ?_);have H:=hM.step (x:=ns.getD j 0);rw[←L] at H;by_cases P:ns.getD j 0>M
    .rw[if_pos P] at H;rw[if_pos (SK P)];refine Sj (VM (hz:=by show 2<=sizeLine;decide) kS rfl (Sj<|VT ?_));rw[ó];exact Sk ⟨T7 Uq _,J (some<|.int (ns.getD j 0) t) _ _ ⟨_,t,rfl,H⟩ (Uv _ kS rfl) fun x o n e=>(T1 _ _<|Ne.symm n).trans e⟩
    .rw[if_neg P] at H;rw[if_neg (by simpa using P)];refine Sj (VT ?_);rw[ó];exact Sk ⟨T7 Uq _,J (some<|.int M tb) _ _ ⟨_,tb,rfl,H⟩ kS fun x o _ e=>e⟩)
theorem Hi(hh:A.handled=none)(z:s.heap.IsList l vs.toArray)(hi:IntsAre vs ns)
  (h:∀v h' tk,((ns=[]/\v=d)\/∃M t,v=.int M t/\WZ M ns)->(∀b o,s.heap.get? b=some o->h'.get? b=some o)->Q v {s with heap:=h',toks:=tk}):
  wpAny (model prog w) A (call (.builtin "max") [.ref l] [("default",d)]) Q E s:=by
 have L:(toString "max"++toString ".loop":String)="max.loop":=by decide
 obtain⟨ol,el,_⟩:=id z;have H:l<s.heap.objs.size:=Su el;have body:wpAny (model prog w) A.in1 (Builtin.«max» ⟨[.ref l],[("default",d)]⟩) (fun fin s'=>match fin with
   | .done f=>(match(Except.ok f:Result) with| .ok (.ret v)=>Q v s'| .ok _=>False| .error e=>E e s')
   | .again S=>S.quiet=true/\codeAny (model prog w) A S (fun r s'=>match r with| .ok (.ret v)=>Q v s'| .ok _=>False| .error e=>E e s') s') E s:=by
  show wpAny _ A.in1 (Builtin.Builtins.bindParams "max" ["key","default"] 0 ⟨[],[("default",d)]⟩ >>= fun _=>_) _ _ s;refine Sj (wpAny_of_eq (show Builtin.Builtins.bindParams "max" ["key","default"] 0 ⟨[],[("default",d)]⟩=pure [none,some d] from by with_unfolding_all rfl)<|Sj<|Sk ?_);refine Sj (Vy z ?_);refine Sj (Tc ?_);rw[L];refine Sk ⟨T7 Uq _,?_⟩;have e1:(s.heap.push {cls:=.type "list_iterator",data:=.fields #[.ref l,.int 0 0]}).objs.size=s.heap.objs.size+1:=TK ..;refine Ow (I:=s.heap.objs.size) (l:=l) (items:=vs.toArray) (ns:=ns) (d:=d) hh (SQ H) (by simpa using hi) _ (by rw[e1];exact UD (Vd _)) (by rw[e1];exact UD (Uy H)) _ 0 _ none 0 rfl (Ta _)
   ⟨_,Sl _ (SA _ rfl),rfl,rfl⟩ ((z.push _).push _) rfl (SA _ rfl) fun v h' tk hv kp=>?_
  refine h v h' tk hv fun b o e=>kp b o (SQ<|Su e) (by rw[e1];exact SQ (Uy<|Su e)) (Sl _<|Sl _ e)
 refine VX (codeAny_call_builtin F.plain_max F.entry_max ?_);simp only[checkBuiltinCall,F.kind_max];have P:=N0 (.ref l) d;cases J:Manifest.signature? "max" with
 |none=>exact Sk body|some sig=>
  simp only[argsOk,J] at P;have h2:Bind.checkArgs "max" sig ⟨[.ref l],[("default",d)]⟩=pure ():=P;show wpAny _ A.in1 (Bind.checkArgs "max" sig ⟨[.ref l],[("default",d)]⟩) _ _ s;rw[h2];exact Sk body
end
section
variable {X:Cx} {a b:Expr} {ta tb:TE} {p pos kp:Pos}
theorem QF(K:Frag)(mm:X.mg "max"=none) (ha:PE X a ta) (hb:PE X b tb) (hc:X.calm=true:=by rfl) (hg:Gl X "max":=by rfl) (hs:WX X a:=by rfl) (hK:X.K=K:=by rfl)
  (F:(backToKw pos<|keywordEach [⟨some "default",b,kp⟩] X.env).all (·.1.isSome)=true:=by rfl) (õ:(backToKw pos<|keywordEach [⟨some "default",b,kp⟩] X.env).filterMap (·.1)=([Str.ofString "default"]:Ŗ):=by rfl)
  (ϒ:(backToKw pos<|keywordEach [⟨some "default",b,kp⟩] X.env).any (·.1.isNone)=false:=by rfl):
  PE X (.Call (.Name "max" p) [a] [⟨some "default",b,kp⟩] pos) (fun J H Q=>ta J H fun x H1=>tb J H1 fun y z=>∃(q:Addr) (ns:Ő) (j:Int),x=.ref q/\y=.int j/\WE K z q (ns.map V.int)/\(ns=[]->Q (.int j) z)/\∀M,WZ M ns->Q (.int M) z):=by
 subst hK;intro pins s J H Q I h;have P:backTo pos (starEach [a] X.env)=[(false,eval a X.env)]:=by rw[hs];rfl
 refine Ug (jv I hg mm (u:=.builtin "max") rfl (callWith_builtin_kwB (by rw[P];rfl) ϒ ?_));rw[P];refine evalArgs_kwB F (Calls.spliced_cons<|V0 (ha pins s J H _ I h) fun u s1 ⟨x,H1,I1,r1,q1⟩=>Calls.spliced_nil ?_);refine kws_cons (V0 (hb pins s1 J H1 _ I1 q1) fun u2 s2 ⟨y,z,S,r2,q2⟩=>kws_nil ?_);obtain⟨q,ns,j,rfl,rfl,hq,hz,hm⟩:=q2;cases r1;obtain⟨t,rfl⟩:=r2;obtain⟨its,rv,pl,_⟩:=S.list hq;rw[õ];refine Hi (d:=.int j t) (S.ok.hd hc) pl.isList (C3 rv) fun v h' tk hv L=>?_;rcases hv with⟨e,rfl⟩|⟨M,t',rfl,hM⟩
 .exact⟨.int j,z,S.kept L,⟨_,rfl⟩,hz e⟩
 .exact⟨.int M,z,S.kept L,⟨_,rfl⟩,hm M hM⟩
end
section
variable {X:Cx} {a b:Expr} {ta tb:TE} {p pos:Pos}
theorem N4:iE X (.type "int") (fun xs H Q=>∃k,xs=[V.bl k]/\Q (.int<|if k then 1 else 0) H):=fun pins s J H xs L Q I r h=>Ik pins s J H xs L Q I r (.inr h)
theorem Q9(F:X.mg "int"=none) (ha:PE X a ta) (S:Gl X "int":=by rfl) (z:WX X a:=by rfl):
  PE X (.Call (.Name "int" p) [a] [] pos) (fun J H Q=>ta J H fun x H1=>∃k,[x]=[V.bl k]/\Q (.int<|if k then 1 else 0) H1):=
 rL N4 S F rfl (fE ha fV z) (he:=z)
theorem _W(S:X.mg "range"=none) (ha:PE X a ta) (hb:PE X b tb) (hg:Gl X "range":=by rfl) (F:YO X a b:=by rfl) (z:WX X b:=by rfl):
  PI X tg (.Call (.Name "range" p) [a,b] [] pos) (C6<|gJ ta<|gJ tb iI):=O4 hg S (fE ha (fE hb fV z)<|Ym F z) F z
theorem FG(K:Frag)(F:PE X a ta)(z:PE X b tb)(hm:behindInMarks .NotIn b=false:=by rfl)(S:X.K=K:=by rfl):PT X (.Compare a [.NotIn] [b] pos) (qX<|ql (Ç K true) ta tb):=by subst S;exact zg Ol F z hm
end
abbrev Ask:=Nat×Nat×Bool
section
variable {X:Cx}
theorem R3:Wh X (binaryOp .FloorDiv) (rI (fun _ j=>0<j/\j<2^200) fun i j=>.int<|i/j):=ϫ fun i j _ _ _ _ _ H q=>by
 obtain⟨F,P⟩:=H;refine floordiv_int ⋯ (by rw[Int.fdiv_eq_ediv_of_nonneg i ⋯];exact q) (.inl<|PyProof.noPylong_of_log2 ?_);have L:j.natAbs≠0:=by omega
 have J:j.natAbs<2^200:=by
  have:((j.natAbs:Nat):Int)=j:=by omega
  have z:((j.natAbs:Nat):Int)<((2^200:Nat):Int):=by rw[this];exact_mod_cast P
  omega
 have:=(Nat.log2_lt L).mpr J;omega
theorem Kf(K:Frag){a:Expr}{ta:TE}{p pos:Pos}(mm:X.mg "max"=none) (F:PE X a ta) (hc:X.calm=true:=by rfl) (hg:Gl X "max":=by rfl) (hs:WX X a:=by rfl) (hK:X.K=K:=by rfl):
  PE X (.Call (.Name "max" p) [a] [] pos) (fun J H Q=>ta J H fun x H1=>∃(q:Addr) (ns:Ő),[x]=[.ref q]/\WE K H1 q (ns.map V.int)/\ns≠[]/\∀M,WZ M ns->Q (.int M) H1):=by
 subst hK;have rule:iE X (.builtin "max") (fun xs H Q=>∃(q:Addr) (ns:Ő),xs=[.ref q]/\WE X.K H q (ns.map V.int)/\ns≠[]/\∀M,WZ M ns->Q (.int M) H):=by
  intro pins s J H xs us Q I r h;obtain⟨q,ns,rfl,hq,S,k⟩:=h;obtain⟨u,rfl,ru⟩:=kr r;cases ru;obtain⟨its,rv,pl,hz⟩:=I.list hq;have hi:=C3 rv;obtain⟨xs,e⟩:=hi.allInts.items;have hl:=pl.isList;rw[e] at hl;have L:xs.toList.map (·.1)=ns:=by rw[←hi.numsOf,←nums_intItems,←e]
  have P:0<xs.size:=by
   rcases Nat.eq_zero_or_pos xs.size with z|z
   .exact absurd (by rw[←L,UL];exact TX.mp (by simpa using z)) S
   .exact z
  have hlen:(xs.toList.map (·.1)).length=xs.size:=by rw[Sv,T2]
  refine max_intList (I.ok.hd hc) hl P fun v h' tk hv hk=>?_;obtain⟨t,rfl⟩:=intItems_at hv;have best:=argBest_gt (numAt xs) (xs.size - 1);refine(⟨.int _,H,I.kept hk,⟨_,rfl⟩,k _ ⟨?_,fun a F=>?_⟩⟩)
  .rw[←L,numAt_eq];have:=best.1;exact getD_mem (by rw[hlen];omega)
  .rw[←L] at F;obtain⟨j,hj,e2⟩:=mem_getD F;rw[hlen] at hj;rw[←e2,←numAt_eq];exact best.2 j ⋯
 exact nF rule hg mm rfl (fE F fV hs) (he:=hs)
end
inductive Tr where
 |none
 |one (i:Int)
 |ask (i j:Int) (a u:Tr)
theorem DV:∀{bs:ť} {us:Œ},Vals (bs.map V.bl) us->us=bs.map Value.bool
 | [],_,h=>by cases h;rfl
 |b::r,_,h=>by
  cases h with
  |cons J H=>
   cases (show _=Value.bool b from J);rw[DV H];rfl
section
variable {X:Cx} {a b o:Expr} {ta:TE} {p pos:Pos}
theorem Ay(K:Frag)(mm:X.mg "all"=none) (ha:PE X a ta) (hc:X.calm=true:=by rfl) (hg:Gl X "all":=by rfl) (hs:WX X a:=by rfl) (hK:X.K=K:=by rfl):
  PE X (.Call (.Name "all" p) [a] [] pos) (fun J H Q=>ta J H fun x H1=>∃(q:Addr) (bs:ť),[x]=[.ref q]/\WE K H1 q (bs.map V.bl)/\Q (.bl<|bs.all id) H1):=by
 subst hK;have rule:iE X (.builtin "all") (fun xs H Q=>∃(q:Addr) (bs:ť),xs=[.ref q]/\WE X.K H q (bs.map V.bl)/\Q (.bl<|bs.all id) H):=by
  intro pins s J H xs us Q I r h;obtain⟨q,bs,rfl,hq,k⟩:=h;obtain⟨u,rfl,ru⟩:=kr r;cases ru;obtain⟨F,rv,pl,hz⟩:=I.list hq;have ei:F=bs.map Value.bool:=DV rv;subst ei;obtain⟨ol,el,_⟩:=id pl.isList;have z:q<s.heap.objs.size:=Su el;refine(call_all_walk<|Vy pl.isList ⟨_,_,_,_,_,_,fun i=>bs.getD i false,rfl,Walks.list (A:=X.A.in1) (I.ok.hd hc) _ q (SQ z) (bs.map Value.bool).toArray,⟨⟨_,SA _ rfl,rfl,rfl⟩,pl.isList.push _⟩,?_,fun h' tk keep=>?_⟩)
  .intro i v s' Q' E' hv hQ;have L:(bs.map Value.bool)[i]?=some v:=by simpa using hv
   rw[S0] at L;cases eb:bs[i]? with
   |none=>rw[eb] at L;cases L
   |some b=>
    rw[eb] at L;have:v=.bool b:=(SY L).symm;subst this;have e2:bs.getD i false=b:=by rw[So,eb];rfl
    simp only[e2] at hQ;exact Ts hQ
  .have ea:(List.range (bs.map Value.bool).toArray.size).all (fun i=>bs.getD i false)=bs.all id:=by
    rw[Tj,S2,S2];constructor
    .intro S b hb;obtain⟨i,hi⟩:=TL hb;have:=S i (by simp;exact(Sn.mp hi).1);rw[So,hi] at this;exact this
    .intro S i hi;have P:i<bs.length:=by simpa using hi
     rw[So,Sq P];exact S _ (TC P)
   rw[ea];have kp:∀b o,s.heap.get? b=some o->h'.get? b=some o:=fun b o e=>keep b o (fun hm=>absurd (To.mp hm)<|SQ<|Su e) (Sl _ e);exact⟨.bl _,H,I.kept kp,rfl,k⟩
 exact nF rule hg mm rfl (fE ha fV hs) (he:=hs)
def isInt(k:Int):Value->Bool
 | .int a _=>a==k|_=>false
end
def P3{k:Int}{ns:Ő}:Κ (.int k) (ns.map V.int)=decide (k∈ns):=by
 unfold Κ;rw[Tj,S7];simp only[SJ];constructor
 .rintro⟨y,H,e⟩;obtain⟨n,J,rfl⟩:=SU.mp H;have:n=k:=by
   have L:ay (.int n) (.int k)=true:=e;simpa[ay] using L
  rw[←this];exact J
 .intro h;exact⟨.int k,SU.mpr ⟨k,h,rfl⟩,by simp[ay]⟩
def Sg(o:Ő)(k:Int):Nat:=if k∈o then o.idxOf k+1 else o.length
def Gn(o:Ő)(fs:ř)(n:Nat)(k:Int)(m:Nat):List Ask:=(List.range m).map fun at_=>(fs.getD at_ 0,n,decide (o.getD at_ 0=k))
def ob(z:Ő):Nat->List Int×List Nat×List Ask
 |0=>([],[],[])|n+1=>(if z.getD n 0∈(ob z n).1 then(ob z n).1 else(ob z n).1++[z.getD n 0],
   if z.getD n 0∈(ob z n).1 then(ob z n).2.1 else(ob z n).2.1++[n],
   (ob z n).2.2++Gn (ob z n).1 (ob z n).2.1 n (z.getD n 0) (Sg (ob z n).1 (z.getD n 0)))
section
variable {prog:Program} {w:World} {A:Around} {R:Result->Shared->Prop} {s:Shared}
theorem GC{kx vx target iter:Expr}{ifs:Ř}{scope:Scope}{pos:Pos}{it:Value}{D:Addr}{env:Env}(I:Nat->Shared->Prop)
  (turn:∀n s,I n s->wpAny (model prog w) A (pyNext it) (fun r z=>match r with
   |none=>R (.ok .next) z
   |some v=>wpAny (model prog w) A (letOwnedTupleGo target it v) (fun _ ZB=>wpAny (model prog w) A (assign target env v) (fun _ ZK=>
     wpAny (model prog w) A (forIn ifs true fun c r=>if r=true then do let ok ←isTrue c env (eval c env);pure (ForInStep.yield ok) else pure (ForInStep.yield r)) (fun ok F=>
      if ok=true then wpAny (model prog w) A (eval kx env) (fun kv ZH=>wpAny (model prog w) A (eval vx env) (fun S ZF=>
       wpAny (model prog w) A (dictSet D kv S) (fun _ Zn=>∃m,m<n/\I m Zn) (fun _ _=>False) ZF) (fun _ _=>False) ZH) (fun _ _=>False) F
      else ∃m,m<n/\I m F) (fun _ _=>False) ZK) (fun _ _=>False) ZB) (fun _ _=>False) z) (fun _ _=>False) s)
  (n:Nat) (h:I n s):codeAny (model prog w) A (.compLoop (.DictComp kx vx [⟨target,iter,ifs,0⟩] scope pos) 0 it (.ref D) env) R s:=by
 refine VJ rfl I (fun n s L=>?_) n h;show wpAny _ A ((compTurn (.DictComp kx vx [⟨target,iter,ifs,0⟩] scope pos) 0 it (.ref D) env).onRaise (fun x=>do noteFrame x env;theTreesLotGoes x)) _ _ s;refine VR ?_;rw[compTurn_dict];refine Ss (E:=fun _ _=>False) ?_ (fun _ _ x=>x) fun _ _ x=>x.elim;refine Sj (TZ<|Sj<|Ss (turn n s L) (fun r z H=>?_) fun _ _ h'=>h');cases r with
 |none=>exact Sk H|some v=>
  refine Sj (Ss H (fun _ ZB P=>?_) fun _ _ h'=>h');refine Sj (Ss P (fun _ ZK ZC=>Sj<|Ss ZC (fun ok F J=>?_) fun _ _ h'=>h') fun _ _ h'=>h');cases ok with
  |false=>exact Sk ⟨rfl,J⟩|true=>
   exact Sj (Sj<|Ss J (fun kv ZH Zu=>Sj<|TY<|Ss Zu (fun S ZF Zt=>Sj<|TZ<|TY<|Ss Zt (fun _ Zn Zl=>Sk ⟨rfl,Zl⟩) fun _ _ h'=>h') fun _ _ h'=>h') fun _ _ h'=>h')
end
def tN(Z7:It)(g:TG)(tc:TT)(tk tv:TE)(D:Addr)(ZN:St)(H0:Hp)(Z:Hp->Prop):Prop:=
 ∃W:Nat->Nat->St->Hp->Prop,(∃m,W 0 m ZN<|upd H0 D<|.dK [])/\∀i m J H,W i m J H->
  (Z7.stop i H/\Z H)\/(Z7.go i H/\∃N:St->Hp->Prop,(∀z H',N z H'->∃P,P<m/\W (i+1) P z H')/\∀x H',Z7.yld i H x H'->g x J H' fun L H2=>tc L H2 fun b S=>
   if b=true then tk L S fun y H4=>tv L H4 fun v F=>∃kvs k,F D=some (.dK kvs)/\kvs.length<sizeLine/\y=kV k/\N L (upd F D<|.dK<|fP kvs k v) else N L S)
section
variable {X:Cx} {pins:SB} {J:St} {N' own:Ŗ} {cap:ő} {scope:Scope} {tg iter kx vx:Expr} {ifs:Ř} {pos:Pos} {g:TG} {tc:TT} {tk tv:TE} {wi:TI}
theorem Oo{Y:Cx}{s:Shared}{ZN:St}{H2:Hp}{it D:Addr}{fp:Ś}{tn:Nat->Heap->Prop}{Z7:It}{Z:Hp->Prop}{R:Result->Shared->Prop}
  (hx:∀e s,Y.xe e s->False) (hc:Y.calm=true) (hg:PG Y tg g) (ht:XA Y ifs tc) (ù:PE Y kx tk) (ë:PE Y vx tv)
  (T:Turn Y.prog Y.w Y.K tg Z7 fp it tn) (J0:Inv Y [] ZN (upd H2 D<|.dK []) s) (Xp:tn 0 s.heap) (f3:∀b∈fp,upd H2 D (.dK []) b=none)
  (F:∀{H':Hp},(∀b∈fp,H' b=none)->∀b∈fp,fK Y [] H' b) (h:tN Z7 g tc tk tv D ZN H2 Z)
  (hR:∀ZP H4 s5,Inv Y [] ZP H4 s5->Z H4->R (.ok .next) s5):
  codeAny (model Y.prog Y.w) Y.A (.compLoop (.DictComp kx vx [⟨tg,iter,ifs,0⟩] scope pos) 0 (.ref it) (.ref D) Y.env) R s:=by
 obtain⟨W,⟨m0,w0⟩,turn⟩:=h;have J:∀{α:Type} {t:Sem α} {Q:α->Shared->Prop} {s:Shared},wpAny (model Y.prog Y.w) Y.A t Q Y.xe s->wpAny (model Y.prog Y.w) Y.A t Q (fun _ _=>False) s:=fun q=>Ss q (fun _ _ z=>z) fun e s z=>hx e s z;obtain⟨P,hP⟩:∃P:Nat->Shared->Prop,∀n s',P n s'↔∃i Z0 H',Inv Y [] Z0 H' s'/\tn i s'.heap/\(∀b∈fp,H' b=none)/\W i n Z0 H':=⟨_,fun _ _=>SE⟩
 refine GC P ?_ m0 ((hP _ _).2 ⟨0,_,_,J0,Xp,f3,w0⟩);rintro n s4 h4;obtain⟨i,ZP,H4,I4,og,o9,w4⟩:=(hP _ _).1 h4;rcases turn i n ZP H4 w4 with⟨stop,qz⟩|⟨go,N,hN,step⟩
 .refine Ss (T.done Y rfl rfl rfl hc i [] s4 ZP H4 (fun _ _=>False) I4 (F o9) og stop) (fun r s5 ⟨hr,I5⟩=>?_) fun _ _ z=>z;subst hr;exact hR ZP H4 s5 I5 qz
 .refine Ss (T.item Y rfl rfl rfl hc i [] s4 ZP H4 (fun _ _=>False) I4 (F o9) og go) (fun r s5 ⟨u,hr,h5⟩=>?_) fun _ _ z=>z;subst hr;refine Ss h5 (fun _ s6 H=>?_) fun _ _ z=>z;obtain⟨x,H6,I6,r6,y6,S,ϛ⟩:=H;have I6':=I6.pinned (F ϛ) (T.obj _ _ S);have again:∀{L:St} {H7:Hp} {s7:Shared},Inv Y ([]++k7 fp s6.heap) L H7 s7->N L H7->∃m,m<n/\P m s7:=fun{L H7 s7} I7 n7=>by
   obtain⟨m',H,w7⟩:=hN L H7 n7;refine(⟨m',H,(hP _ _).2 ⟨i+1,L,H7,I7.unpinned,T.keep _ _ _ S fun b hb o e=>(I7.pin (b,o)<|SD _<|SD _<|jP hb e).1,fun b hb=>?_,w7⟩⟩);obtain⟨o,e,d⟩:=T.obj _ _ S b hb;exact((I7.pin (b,o)<|SD _<|SD _<|jP hb e).2.1)
  refine J (V0 (hg _ s6 ZP H6 x u _ I6' r6<|step x H6 y6) fun _ s7 H=>?_);obtain⟨L,H7,I7,q7⟩:=H;refine(J<|V0 (ht _ s7 L H7 _ I7 q7) fun b s8 H=>?_);obtain⟨H8,I8,q8⟩:=H;cases b with
  |false=>
   show ∃m,_;exact again I8 q8
  |true=>
   show wpAny _ _ _ _ _ _;refine J (V0 (ù _ s8 L H8 _ I8 q8) fun kv s9 H=>?_);obtain⟨vk,H9,I9,r9,q9⟩:=H;refine(J<|V0 (ë _ s9 L H9 _ I9 q9) fun vv ĝ H=>?_);obtain⟨v,H10,ϻ,_C,kvs,k,F',hz,ek,Û⟩:=H;subst ek;obtain⟨z,hd,vs,rel,dd⟩:=l4 ϻ.hok F';have é:vs.length<=sizeLine:=by rw[←rel.length];exact z
   have hl:(fP kvs k v).length<=sizeLine:=by have:=qy kvs k v;omega
   refine(wpAny_dictSet_pairs (hsz:=é) (qv r9) dd fun h' G' _m=>?_);have ă:∃q,h'.get? D=some q:=let ⟨q,_,_,hq,_⟩:=G';⟨q,hq⟩
   exact again (rD (t':=ĝ.toks+1) ϻ (by rw[F'];exact True.intro) _m ă<|uv hl hd (rel.put k _C) G') Û
theorem QR{s2:Shared}{F:Hp}{it:Addr}{fp:Ś}{tn:Nat->Heap->Prop}{Z7:It}{cl:ŝ}{Z:Addr->Hp->Prop}{RR:Value->Addr->Result->Shared->Prop}{E:QS}
  (hx:∀e s,X.xe e s->False) (hc:X.calm=true) (S:VZ X N' own cap scope)
  (hg:∀cl C Z3 Z1 ex,PG (eg X N' scope cl C Z3 Z1 ex) tg g) (ht:∀cl C Z3 Z1 ex,XA (eg X N' scope cl C Z3 Z1 ex) ifs tc) (ù:∀cl C Z3 Z1 ex,PE (eg X N' scope cl C Z3 Z1 ex) kx tk) (ë:∀cl C Z3 Z1 ex,PE (eg X N' scope cl C Z3 Z1 ex) vx tv)
  (I2:Inv X pins J F s2) (T:Turn X.prog X.w X.K tg Z7 fp it tn) (YS:tn 0 s2.heap) (f2:∀b∈fp,fK X pins F b)
  (c1:∀y c,cl.lookup y=some c->X.env.cells.lookup y=some c) (c2:∀y,(y,NameKind.free)∈scope.names->∃c,cl.lookup y=some c)
  (h:∀D,F D=none->tN Z7 g tc tk tv D (gb own cap J) F (Z D))
  (Ϛ:∀D C s' m' H',Inv X pins J H' s'->s'.heap.Ns C m'->fK X pins H' C->Z D H'->RR (.ref D) C (.ok .next) s'):
  wpAny (model X.prog X.w) X.A (newDict) (fun acc ZM=>wpAny (model X.prog X.w) X.A (newFunctionEnv scope X.env.globals cl [] X.env.qual none .none<|some X.env) (fun X5 ZH=>
   codeAny (model X.prog X.w) X.A (.compStart (.DictComp kx vx [⟨tg,iter,ifs,0⟩] scope pos) 0 (.ref it) acc {X5 with scope:=relabel scope X.env}) (RR acc X5.locals) ZH) E ZM) E s2:=by
 have hlt:∀b∈fp,b<s2.heap.objs.size:=fun b L=>by obtain⟨o,e,_⟩:=T.obj _ _ YS b L;exact(Su e)
 have hD:F s2.heap.objs.size=none:=I2.hok.fresh (Sm _);have ì:(s2.heap.objs.size==sysModules)=false:=by have:=I2.big;rw[beq_eq_false_iff_ne];exact UD this
 refine Tc (ud<|fun ZR ZA Zz Zy=>?_);dsimp only at ZA Zz Zy⊢;have I3:Inv X pins J (upd F s2.heap.objs.size<|.dK []) {s2 with heap:=s2.heap.push {cls:=.type "dict",dict:=none,data:=.dict #[]},toks:=s2.toks}:=
  I2.laid (fun b o e=>Sl _ e) (Sm _) ⟨Ta _,ì,[],.nil,Heap.DictOf.new s2.heap⟩
 generalize Yi:({s2 with heap:=s2.heap.push {cls:=.type "dict",dict:=none,data:=.dict #[]},toks:=s2.toks}:Shared)=H at I3;have e3:s2.heap.push {cls:=.type "dict",dict:=none,data:=.dict #[]}=H.heap:=by rw[←Yi]
 have hsz:H.heap.objs.size=s2.heap.objs.size+1:=by rw[←e3,TK]
 rw[e3] at ZA Zz Zy⊢;have hk:=Zz;have Xr:∀y c,cl.lookup y=some c->¬H.heap.objs.size<c:=fun y c e z=>by obtain⟨v,o,ho,_⟩:=I3.cell y c (c1 y c e);exact(Td _<|U7 z<|Su ho)
 have CA:CellsAre X scope H.heap.objs.size cl (cellsFrom (H.heap.objs.size+1) scope.names cl):=yA (h:=H.heap.push {cls:=.type "dict",data:=.dict #[]}) (by rw[TK]) S Xr;have P:∀y c,(cellsFrom (H.heap.objs.size+1) scope.names cl).lookup y=some c->H.heap.objs.size<c->ZR.IsCell c none:=fun y c e z=>by
  rw[jA,lc] at e;cases q:(cellsFrom (H.heap.objs.size+1) scope.names []).lookup y with
  |none=>rw[q] at e;exact absurd z (Xr y c e)|some c'=>
   rw[q] at e;have:c'=c:=SY e;subst this;exact Zy y c' (Th q)
 generalize Ć:cellsFrom (H.heap.objs.size+1) scope.names cl=cs at CA P⊢;have f3:∀b∈fp,fK X pins (upd F s2.heap.objs.size<|.dK []) b:=fun b L=>⟨by rw[eG (SQ<|hlt b L)];exact(f2 b L).1,(f2 b L).2⟩
 have X2:∀b∈fp,b<H.heap.objs.size:=fun b L=>by rw[hsz];exact Uy (hlt b L)
 have Xp:tn 0 ZR:=T.keep _ _ _ YS fun b L o e=>hk b o (by rw[←e3];exact Sl _ e);have J0:Inv (eg X N' scope cs H.heap.objs.size H (upd F s2.heap.objs.size<|.dK []) fp) [] (gb own cap J) (upd F s2.heap.objs.size<|.dK []) {H with heap:=ZR,toks:=s2.toks}:=
  Wb I3 S CA P c1 c2 f3 X2 hk ZA
 have Yr:∀{pl:SB} {H':Hp},pl=[]->(∀b∈fp,H' b=none)->∀b∈fp,fK (eg X N' scope cs H.heap.objs.size H (upd F s2.heap.objs.size<|.dK []) fp) pl H' b:=fun{pl H'} hp hn b L=>by subst hp;refine⟨hn b L,SQ (X2 b L),J0.ok.exfs b L,.inl L,fun x c e=>J0.ok.exf b L |>.2 x c e,fun p hp=>absurd hp (by show p∉([]++[]:SB);simp)⟩
 have loop:codeAny (model X.prog X.w) X.A (.compLoop (.DictComp kx vx [⟨tg,iter,ifs,0⟩] scope pos) 0 (.ref it) (.ref s2.heap.objs.size)<|compEnvC scope cs H.heap.objs.size X.env) (RR (.ref s2.heap.objs.size) H.heap.objs.size)
   {H with heap:=ZR,toks:=s2.toks}:=Oo (Y:=eg X N' scope cs H.heap.objs.size H (upd F s2.heap.objs.size<|.dK []) fp) hx hc (hg _ _ _ _ _) (ht _ _ _ _ _) (ù _ _ _ _ _) (ë _ _ _ _ _) T J0 Xp (fun b L=>(f3 b L).1) (Yr rfl) (h _ hD) fun ZP H4 s5 I5 qz=>by
  have I6:Inv X pins J H4 s5:=I3.call' (ch:=fp) I5.os I5.base I5.hok I5.bare fun b L=>⟨(f3 b L).2.2.2.1,(f3 b L).2.1,(f3 b L).2.2.2.2.1,(f3 b L).2.2.2.2.2⟩
  obtain⟨m',Ya,_⟩:=I5.loc;exact(Ϛ _ _ s5 m' H4 I6 Ya (I3.fpOk (Sm _) I5.free) qz)
 have lp:codeAny (model X.prog X.w) X.A (.compStart (.DictComp kx vx [⟨tg,iter,ifs,0⟩] scope pos) 0 (.ref it) (.ref s2.heap.objs.size)<|compEnvC scope cs H.heap.objs.size X.env) (RR (.ref s2.heap.objs.size) H.heap.objs.size)
   {H with heap:=ZR,toks:=s2.toks}:=codeAny_compStart_dict loop (T.self _ 0 _ _ _ Xp loop)
 subst Yi;exact lp
theorem JM(S:VZ X N' own cap scope)(hi:PI X tg iter wi)
  (hg:∀cl C Z3 Z1 ex,PG (eg X N' scope cl C Z3 Z1 ex) tg g) (ht:∀cl C Z3 Z1 ex,XA (eg X N' scope cl C Z3 Z1 ex) ifs tc) (hk:∀cl C Z3 Z1 ex,PE (eg X N' scope cl C Z3 Z1 ex) kx tk) (hv:∀cl C Z3 Z1 ex,PE (eg X N' scope cl C Z3 Z1 ex) vx tv)
  (hx:hI X:=by exact fun _ _ z=>z) (hc:X.calm=true:=by rfl) (hs:YN X iter:=by intro _;rfl):
  PE X (.DictComp kx vx [⟨tg,iter,ifs,0⟩] scope pos) (fun J H Q=>wi J H fun Z7 H1=>∀D,H1 D=none->tN Z7 g tc tk tv D (gb own cap J) H1 (Q<|.ref D)):=by
 intro pins s J H Q I h;rw[arm_eval_DictComp];obtain⟨cl,Xr,c1,c2⟩:=nD (scope:=scope) (env:=X.env) fun y hy hk=>I.ok.has y.1 (S.free y hy hk);refine(TU (use:=none) rfl hs Xr S.kind S.names (V0 (hi pins s J H _ I h) fun v s1 h1=>V0 h1 fun θ s2 h2=>?_));obtain⟨it,fp,tn,Z7,H2,e,I2,T,P,f2,q⟩:=h2;subst e;refine(QR (RR:=fun acc C=>compPost (model X.prog X.w) X.A X.xe none (EP X pins J Q) acc C) (Z:=fun D=>Q<|.ref D) hx hc S hg ht hk hv I2 T P f2 c1 c2 q ?_);intro D C s' m' H' I' F f' z;exact⟨m',F,fun č L=>⟨.ref D,H',I'.letgo f' L,rfl,z⟩⟩
end
def Yh(v d:Addr):HO:=.ext fun h=>h.IsItemsView v d
def BA:V->ŗ->Hp->VK->Prop:=fun x vs H Q=>∃(a:Addr) (kvs:List (Key×V)),x=.ref a/\vs=[]/\H a=some (.dK kvs)/\∀v,H v=none->Q (.ref v) (upd H v<|Yh v a)
section
variable {X:Cx} {o:Expr} {to:TE} {pos:Pos}
theorem Md:Τ X "dict.items" BA:=by
 intro pins s J H x vs v us Q I L P h;obtain⟨a,kvs,rfl,rfl,e,q⟩:=h;cases L;have:=P.zero;subst this;obtain⟨z,hd,ws,rel,dd⟩:=l4 I.hok e;refine(call_meetsIn PySem.F.slot_dict_items dd.typeIs PySem.F.entry_dict_items (PySem.F.args_dict_items_1 _) (meets_dict_items (gU X.prog X.w) a hd) ⟨⟨ws,dd⟩,?_⟩);have S:(s.heap.push {cls:=.type "dict_items",data:=.fields #[.ref a]}).IsItemsView s.heap.objs.size a:=⟨_,SA _ rfl,rfl,rfl⟩
 refine⟨.ref s.heap.objs.size,_,I.laid (t':=s.toks) (o:=Yh s.heap.objs.size a) (fun b o q=>Sl _ q) (Sm _) ?_,rfl,q _<|I.hok.fresh<|Sm _⟩;exact⟨S,⟨_,SA _ rfl⟩,fun h1 h2 p k=>let ⟨o,ho,r⟩:=p;⟨o,k o ho,r⟩⟩
theorem Oi(K:Frag)(ho:PE X o to)(S:attributeBase o "items" X.env (eval o X.env)=eval o X.env:=by rfl) (z:gV apos pos:=by rfl) (hK:X.K=K:=by rfl):
  PE X (.Call (.Attribute o "items" apos) [] [] pos) (xD K "dict" BA to):=by
 subst hK;exact Aa UY PySem.F.slot_dict_items PySem.F.type_dict_items Md ho S z
end
def O'(d:Addr)(o:Obj)(kvs:List (Key×V)):It:=
 ⟨fun i H=>H d=some (.frz o<|.dK kvs)/\i<kvs.length,fun i H x H'=>∃p k v,x=.ref p/\H p=none/\H'=upd H p (.tup [kV k,v])/\kvs[i]?=some (k,v),fun i H=>H d=some (.frz o<|.dK kvs)/\kvs.length<=i⟩
def KB(h:mi k u=true):RelV (kV k) u:=by
 rcases jF h with⟨i,t,rfl,rfl⟩|⟨x,t,rfl,rfl⟩
 .exact⟨t,rfl⟩
 .exact⟨t,rfl⟩
def KV.get(rel:KV kvs ws):∀{i:Nat} {k:Key} {v:V},kvs[i]?=some (k,v)->∃u,ws[i]?=some (k,u)/\RelV v u:=by
 induction rel with
 |nil=>intro i k v h;simp at h| @cons a b l r hd tl J=>
  intro i k v h;cases i with
  |zero=>
   have:a=(k,v):=by simpa using h
   subst this;obtain⟨P,L⟩:=b;obtain⟨h1,H⟩:=hd;have:k=P:=h1;subst this;exact⟨L,rfl,H⟩
  |succ i=>
   obtain⟨u,h1,H⟩:=J (i:=i) (k:=k) (v:=v) (by simpa using h);exact(⟨u,by simpa using h1,H⟩)
theorem Lx{P:Program}{w:World}{K:Frag}{elts:Ř}{k:Nat}{pos:Pos}{h0:Heap}{kvs:List (Key×V)}{ws:List (Key×Value)}{ep:Nat}{o:Obj}(d it:Addr)(rel:KV kvs ws)(ho:h0.get? d=some o)(ŉ:h0.DictAt (gU P w) d ws ep):
  Turn P w K (.Tuple elts k pos) (O' d o kvs) [it] it (fun i h=>∃ok ov,IsItemIter h it d i ws.length ep ok ov) where
 mem:=by simp
 obj:=fun i h st b S=>by obtain⟨ok,ov,L⟩:=st;rw[To.mp S];exact⟨_,L,fun v z=>by cases z⟩
 keep:=fun i h h' st kk=>let ⟨ok,ov,L⟩:=st;⟨ok,ov,kk it nofun _ L⟩
 item:=by
  intro X hP hw hK hc i pins s J H E I hf st hg;subst hP hw hK;obtain⟨hH,hi⟩:=hg;obtain⟨YC,_⟩:s.heap.get? d=some o/\_:=I.hok d _ hH;have hm:s.heap.DictAt (gU X.prog X.w) d ws ep:=ŉ.at' fun o' e=>by rw[ho] at e;cases e;exact YC
  obtain⟨kk,v⟩:Key×V:=kvs[i];obtain⟨⟨k1,v1⟩,hx⟩:∃p,kvs[i]?=some p:=⟨kvs[i],by simp[hi]⟩
  obtain⟨u,hu,ru⟩:=rel.get hx;obtain⟨ok,ov,L⟩:=st;refine(wpAny_pyNext_items_item L hm hu fun key h1 ø ð hT hsz hk=>?_);refine⟨_,rfl,wpAny_letOwnedTupleGo_items ð fun h2 Ą F=>?_⟩;have hlt:it<s.heap.objs.size:=Su L
  replace F:Heap.SameBut it h1 h2:=F
  have ϙ:h2.get? s.heap.objs.size=some {cls:=.type "tuple",data:=.seq #[key,u]}:=(F.2 _<|UD hlt).trans hT;have hn:H s.heap.objs.size=none:=I.hok.fresh (Sm _);have I2:Inv X pins J (upd H s.heap.objs.size<|.tup [kV k1,v1]) {s with heap:=h2,toks:=s.toks}:=
   I.turnLay (ch:=[it]) hf (fun b o S q=>(F.2 b<|fun z=>S<|by simp[z]).trans (hk b o (fun z=>S<|by simp[z]) q)) (Sm _)
    ⟨xN,[key,u],.cons (KB ø) (.cons ru .nil),⟨_,ϙ,rfl,_,rfl⟩⟩
  have f1:∀b∈[it],(upd H s.heap.objs.size<|.tup [kV k1,v1]) b=none:=fun b S=>by rw[To.mp S,eG (SQ hlt)];exact(hf it nofun).1
  exact⟨.ref s.heap.objs.size,_,I2,rfl,⟨_,k1,v1,rfl,hn,rfl,hx⟩,⟨key,u,Ą⟩,f1⟩
 done:=by
  intro X hP hw hK hc i pins s J H E I hf st hg;subst hP hw hK;obtain⟨hH,hi⟩:=hg;obtain⟨YC,_⟩:s.heap.get? d=some o/\_:=I.hok d _ hH;have hm:s.heap.DictAt (gU X.prog X.w) d ws ep:=ŉ.at' fun o' e=>by rw[ho] at e;cases e;exact YC
  obtain⟨ok,ov,L⟩:=st;have hl:kvs.length=ws.length:=rel.length;refine wpAny_pyNext_items_end (I.ok.hd hc) L hm (by simp;omega) fun h' eb=>⟨rfl,I.turns (t':=s.toks) (ch:=[it]) hf fun b o S q=>eb b o (fun z=>S<|by simp[z]) q⟩
 self:=fun _ _ _ _ _ st h=>by obtain⟨ok,ov,L⟩:=st;exact(PySem.W.kcp_self L h)
def Qy(te:TE):TI:=fun J H R=>te J H fun x H1=>∃v d kvs,x=.ref v/\H1 v=some (Yh v d)/\H1 d=some (.dK kvs)/\∀o,R (O' d o kvs) (upd H1 d<|.frz o<|.dK kvs)
def Pz{X:Cx}{e:Expr}{te:TE}{elts:Ř}{k:Nat}{XS:Pos}(he:PE X e te):PI X (.Tuple elts k XS) e (Qy te):=by
 intro pins s J H R I h;refine V0 (he pins s J H _ I h) fun u s1 hm=>?_;obtain⟨x,H1,F,r1,v,d,kvs,ex,hv,hd,q⟩:=hm;subst ex;cases r1;obtain⟨z,L,ws,rel,dd⟩:=l4 F.hok hd;obtain⟨_e,_,_⟩:s1.heap.IsItemsView v d/\_/\_:=F.hok v _ hv;obtain⟨ep,P⟩:=dd.dictAt;obtain⟨o,S⟩:∃o,s1.heap.get? d=some o:=let ⟨o,_,_,h,_⟩:=dd;⟨o,h⟩
 refine(wpAny_pyIter_items _e P ?_);have nd:d≠s1.heap.objs.size:=SQ (Su S);have I2:Inv X pins J (upd H1 d<|.frz o<|.dK kvs) {s1 with heap:=s1.heap.push {cls:=.type "dict_itemiterator",data:=.fields #[.none,.bool false,.ref d,.int 0 0,.int ws.length 0,.int ep 0,.none,.none]},toks:=s1.toks}:=
  F.write (x:=d) (e:=d) (by rw[hd];exact True.intro) (.inl rfl) (fun b q _ z=>Sl _ z) ⟨o,Sl _ S⟩
   ⟨Sl _ S,z,L,ws,rel,dd.at fun o' e=>Sl _ e⟩
 refine⟨_,[s1.heap.objs.size],_,_,_,rfl,I2,Lx d _ rel S P,⟨.none,.none,SA _ rfl⟩,fun b hb=>?_,q o⟩;rw[To.mp hb];exact F.fpOk (Sm _) (by rw[eG (Ne.symm nd)];exact F.hok.fresh (Sm _))
abbrev An:=Nat×Nat×Bool
abbrev _root_.ś:=List An
def nb(as:ś)(x:Nat):ř:=as.flatMap fun a=>if a.2.2=true then(if x=a.1 then [a.2.1] else [])++(if x=a.2.1 then [a.1] else []) else []
def Wl:y∈nb as x↔(x,y,true)∈as\/(y,x,true)∈as:=by
 unfold nb;rw[TQ];constructor
 .rintro⟨⟨i,j,b⟩,H,h⟩;cases b with
  |false=>simp at h|true=>
   simp only[if_true,S8] at h;rcases h with h|h
   .split at h
    .rename_i e;have:y=j:=by simpa using h
     subst this e;exact .inl H
    .simp at h
   .split at h
    .rename_i e;have:y=i:=by simpa using h
     subst this e;exact .inr H
    .simp at h
 .rintro(h|h)
  .exact⟨_,h,by simp⟩
  .exact⟨_,h,by simp⟩
def Ku(h:y∈nb as x):x∈nb as y:=Wl.mpr (Wl.mp h).symm
inductive WG (as:ś):Nat->Nat->Prop where
 |refl (x:Nat):WG as x x
 |step {x y z:Nat}:WG as x y->z∈nb as y->WG as x z
def WG.trans(h:WG as x y)(g:WG as y z):WG as x z:=by
 induction g with
 |refl=>exact h|step _ e H=>exact .step H e
def WG.one(h:y∈nb as x):WG as x y:=.step (.refl x) h
def WG.symm(h:WG as x y):WG as y x:=by
 induction h with
 |refl=>exact .refl _|step _ e H=>exact(WG.one<|Ku e).trans H
def WG.mono(h:WG as x y)(hm:∀a∈as,a∈bs):WG bs x y:=by
 induction h with
 |refl=>exact .refl _|step _ e H=>exact .step H (Wl.mpr<|(Wl.mp e).imp (hm _) (hm _))
def eJ(z:ŕ)(x:Nat):Option Nat:=(z.find? fun p=>decide (p.1=x)).map (·.2)
def eM(z:ŕ)(x:Nat):ŕ:=if(eJ z x).isSome=true then z else z++[(x,x)]
def fT(z:ŕ)(o n:Nat):ŕ:=z.map fun p=>(p.1,if p.2=o then n else p.2)
def iF(z:ŕ)(a:An):ŕ:=
 let H:=eM (eM z a.1) a.2.1
 if a.2.2=true then fT H ((eJ H a.2.1).getD 0) ((eJ H a.1).getD 0) else H
def fQ(as:ś):ŕ:=as.foldl iF []
def mv(F:ŕ)(x y:Nat):eJ (eM F x) y=if y=x then some ((eJ F x).getD x) else eJ F y:=by
 unfold eM;by_cases h:(eJ F x).isSome=true
 .rw[if_pos h];obtain⟨v,e⟩:=Tv.mp h;by_cases z:y=x
  .subst z;rw[if_pos rfl,e];rfl
  .rw[if_neg z]
 .rw[if_neg h];have e:eJ F x=none:=by simpa using h
  unfold eJ at e⊢;rw[List.find?_append];by_cases z:y=x
  .subst z;rw[if_pos rfl];have H:F.find? (fun p=>decide (p.1=y))=none:=by simpa using e
   rw[H];simp
  .rw[if_neg z];have:List.find? (fun p:Nat×Nat=>decide (p.1=y)) [(x,x)]=none:=by simp[Ne.symm z]
   rw[this];simp
def oW(F:ŕ)(o n x:Nat):eJ (fT F o n) x=(eJ F x).map fun r=>if r=o then n else r:=by
 unfold eJ fT;induction F with
 |nil=>rfl|cons p r H=>
  rw[Sz,SH,SH];by_cases z:p.1=x
  .simp[z]
  .simp only[z,UI];exact H
structure YG (as:ś) (V:Nat->Option Nat):Prop where
 named:∀a∈as,(V a.1).isSome=true/\(V a.2.1).isSome=true
 con:∀x r,V x=some r->WG as x r
 eq:∀x y,(x,y,true)∈as->V x=V y
def DI(as:ś)(a:An):fQ (as++[a])=iF (fQ as) a:=by unfold fQ;rw[List.foldl_append];rfl
def wL(as:ś):YG as (eJ<|fQ as):=by
 have key:∀(n:Nat) (as:ś),as.length=n->YG as (eJ<|fQ as):=by
  intro n;induction n with
  |zero=>
   intro as e;have:as=[]:=TX.mp e;subst this;exact⟨fun _ h=>by simp at h,fun x r h=>by simp[fQ,eJ] at h,fun _ _ h=>by simp at h⟩
  |succ n P=>
   intro as e;have Wz:as≠[]:=by intro z;subst z;simp at e
   obtain⟨bs,a,rfl⟩:∃bs a,as=bs++[a]:=⟨as.dropLast,as.getLast Wz,(List.dropLast_concat_getLast Wz).symm⟩
   have P:=P bs (by simpa using e);obtain⟨i,j,b⟩:=a;rw[DI];generalize fQ bs=H at P;have v2:∀y,eJ (eM (eM H i) j) y=if y=j then some ((eJ (eM H i) j).getD j) else if y=i then some ((eJ H i).getD i) else eJ H y:=fun y=>by rw[mv (eM H i) j y,mv H i y]
   have old:∀y,(eJ H y).isSome=true->eJ (eM (eM H i) j) y=eJ H y:=fun y hy=>by
    obtain⟨r,F⟩:=Tv.mp hy;rw[v2 y];split
    .rename_i z;subst z;rw[mv];split
     .rename_i z;subst z;rw[F];rfl
     .rw[F];rfl
    .split
     .rename_i z;subst z;rw[F];rfl
     .rfl
   have mono:∀x y,WG bs x y->WG (bs++[(i,j,b)]) x y:=fun x y h=>h.mono fun a ha=>UB _ ha;have L:∀x r,eJ (eM (eM H i) j) x=some r->WG (bs++[(i,j,b)]) x r:=fun x r h=>by
    rw[v2 x] at h;split at h
    .rename_i z;subst z;have h:=SY h;rw[mv] at h;split at h
     .rename_i z;subst z;cases e:eJ H x with
      |none=>rw[e] at h;rw[←h];exact .refl _|some S=>rw[e] at h;have:S=r:=h;subst this;exact mono _ _ (P.con _ _ e)
     .cases e:eJ H x with
      |none=>rw[e] at h;have:x=r:=h;subst this;exact .refl _|some S=>rw[e] at h;have:S=r:=h;subst this;exact mono _ _ (P.con _ _ e)
    .split at h
     .rename_i z;subst z;have h:=SY h;cases e:eJ H x with
      |none=>rw[e] at h;have:x=r:=h;subst this;exact .refl _|some S=>rw[e] at h;have:S=r:=h;subst this;exact mono _ _ (P.con _ _ e)
     .exact mono _ _ (P.con _ _ h)
   have n1:∃r,eJ (eM (eM H i) j) i=some r:=by
    rw[v2 i];split
    .exact⟨_,rfl⟩
    .exact⟨_,if_pos rfl⟩
   have n2:∃r,eJ (eM (eM H i) j) j=some r:=⟨_,by rw[v2 j,if_pos rfl]⟩
   have J:∀a∈bs++[(i,j,b)],(eJ (eM (eM H i) j) a.1).isSome=true/\(eJ (eM (eM H i) j) a.2.1).isSome=true:=fun a ha=>by
    rcases S8.mp ha with z|z
    .obtain⟨h1,h2⟩:=P.named a z;rw[old _ h1,old _ h2];exact⟨h1,h2⟩
    .have:a=(i,j,b):=by simpa using z
     subst this;obtain⟨r1,e1⟩:=n1;obtain⟨r2,e2⟩:=n2;exact⟨by rw[e1];rfl,by rw[e2];rfl⟩
   have eq2:∀x y,(x,y,true)∈bs->eJ (eM (eM H i) j) x=eJ (eM (eM H i) j) y:=fun x y h=>by obtain⟨h1,h2⟩:=P.named _ h;rw[old x h1,old y h2];exact P.eq x y h
   show YG _ (eJ<|if b=true then fT (eM (eM H i) j) ((eJ (eM (eM H i) j) j).getD 0) ((eJ (eM (eM H i) j) i).getD 0) else eM (eM H i) j);clear v2 old;generalize eM (eM H i) j=h2 at*;cases b with
   |false=>
    refine⟨J,L,fun x y h=>?_⟩;rcases S8.mp h with z|z
    .exact eq2 x y z
    .simp at z
   |true=>
    obtain⟨r1,e1⟩:=n1;obtain⟨r2,e2⟩:=n2;simp only[if_true,e1,e2,VF];have cij:WG (bs++[(i,j,true)]) i j:=WG.one (Wl.mpr<|.inl nofun);refine⟨fun a ha=>?_,fun x r h=>?_,fun x y h=>?_⟩
    .rw[oW,oW,U6,U6];exact J a ha
    .rw[oW] at h;obtain⟨r0,e0,F⟩:=Option.map_eq_some_iff.mp h;have c0:=L x r0 e0;split at F
     .rename_i z;subst z F;exact c0.trans ((L j _ e2).symm.trans (cij.symm.trans<|L i _ e1))
     .subst F;exact c0
    .rw[oW,oW];rcases S8.mp h with z|z
     .rw[eq2 x y z]
     .have:x=i/\y=j:=by simpa using z
      obtain⟨rfl,rfl⟩:=this;rw[e1,e2];simp only[Vh,if_true];split
      .rfl
      .rfl
 exact key _ as rfl
def YG.conn{as:ś}{V:Nat->Option Nat}(h:YG as V){x y:Nat}(c:WG as x y):V x=V y:=by
 induction c with
 |refl=>rfl|step _ e H=>
  rw[H];rcases Wl.mp e with z|z
  .exact h.eq _ _ z
  .exact(h.eq _ _ z).symm
def YG.iff{as:ś}{V:Nat->Option Nat}(h:YG as V){x y:Nat}(z:(V x).isSome=true):V x=V y↔WG as x y:=by refine⟨fun e=>?_,h.conn⟩;obtain⟨r,H⟩:=Tv.mp z;exact(h.con x r H).trans (h.con y r (by rw[←e];exact H)).symm
def fj(as:ś):Bool:=as.all fun a=>a.2.2||!decide (eJ (fQ as) a.1=eJ (fQ as) a.2.1)
structure Out (as:ś) (n t:Nat) (F:Nat->Option Nat):Prop where
 con:∀x r,F x=some r->WG as x r/\r<t
 fin:∀x r y,F x=some r->y∈nb as x->F y=some r
 all:∀x,x<t->(F x).isSome=true
def left(as:ś)(F:Nat->Option Nat):Nat->Nat
 |0=>0|n+1=>left as F n+(if(F n).isSome=true then 0 else(nb as n).length)
section
variable {X:Cx} {a b o:Expr} {ta:TE} {p pos:Pos}
theorem Fb(mr:X.mg "range"=none) (ha:PE X a ta) (hg:Gl X "range":=by rfl) (z:WX X a:=by rfl):
  PE X (.Call (.Name "range" p) [a] [] pos) (fun J H Q=>ta J H fun x H1=>∃j:Int,x=.int j/\∀r,H1 r=none->Q (.ref r) (upd H1 r<|.rng 0 j)):=by
 intro pins s J H Q I h;refine Call_ (jv I hg mr boot_range<|Tx (V0 (fE ha fV z pos pins s J H (fun vs H1=>∃x,vs=[x]/\∃j:Int,x=.int j/\∀r,H1 r=none->Q (.ref r) (upd H1 r<|.rng 0 j)) I ?_) fun us s1 ⟨vs,H1,P,S,q1⟩=>?_) z rfl)
 .have:∀x H1,(∃j:Int,x=V.int j/\∀r,H1 r=none->Q (.ref r) (upd H1 r<|.rng 0 j))=(∃L,[x]=[L]/\∃j:Int,L=V.int j/\∀r,H1 r=none->Q (.ref r) (upd H1 r<|.rng 0 j)):=by
   intro x H1;exact propext ⟨fun q=>⟨x,rfl,q⟩,fun⟨L,e,q⟩=>by cases e;exact q⟩
  unfold gJ iI;simp only[←this];exact h
 obtain⟨x,e,j,ex,q⟩:=q1;subst e ex;cases S with
 |cons r F=>
  cases F;obtain⟨t,rfl⟩:=r;refine(Vo ?_);refine⟨.ref s1.heap.objs.size,_,P.laid (o:=.rng 0 j) (fun b o e=>Sl _ e) (Sm _) ?_,rfl,q _<|P.hok.fresh<|Sm _⟩;exact⟨_,_,_,SA _ rfl⟩
end
def Yc(z:ŕ):Prop:=(z.map (·.1)).Nodup
def XN:eJ z x=none↔x∉z.map (·.1):=by unfold eJ;rw[U8,TV];simp only[SJ,SU,not_exists,not_and]
def sZ(h:Yc F)(x:Nat):Yc (eM F x):=by
 unfold eM;split
 .exact h
 .rename_i e;have e:eJ F x=none:=by simpa using e
  unfold Yc;rw[TN,Uz];refine⟨h,by simp,fun y H z hz=>?_⟩;have:z=x:=by simpa using hz
  subst this;exact fun q=>XN.mp e (q▸H)
def zQ(z:ŕ)(o n:Nat):(fT z o n).map (·.1)=z.map (·.1):=by simp[fT]
def P4(h:Yc z)(a:An):Yc (iF z a):=by
 have H:=sZ (sZ h a.1) a.2.1;unfold iF;dsimp only;split
 .unfold Yc;rw[zQ];exact H
 .exact H
def rR(z:ŕ)(x:Nat):(eM z x).length<=z.length+1:=by unfold eM;split<;>simp
def RZ(z:ŕ)(a:An):(iF z a).length<=z.length+2:=by
 have h1:=rR z a.1;have H:=rR (eM z a.1) a.2.1;unfold iF;dsimp only;split
 .unfold fT;rw[Sv];omega
 .omega
def Qj(as:ś)(n:Nat)(a:An)(h:as[n]?=some a):fQ (as.take<|n+1)=iF (fQ<|as.take n) a:=by rw[List.take_succ,h];exact DI _ _
def LY(as:ś):Yc (fQ as):=by
 have:∀(as:ś) (H:ŕ),Yc H->Yc (as.foldl iF H):=by
  intro as;induction as with
  |nil=>exact fun _ h=>h|cons a r J=>exact fun H h=>J _ (P4 h a)
 exact this as [] (by simp[Yc])
def NM(as:ś):(fQ as).length<=2*as.length:=by
 have:∀(as:ś) (H:ŕ),(as.foldl iF H).length<=H.length+2*as.length:=by
  intro as;induction as with
  |nil=>exact fun _=>by simp|cons a r J=>
   intro H;have h1:=J (iF H a);have L:=RZ H a;simp only[List.foldl_cons,SO];omega
 have:=this as [];simpa[fQ] using this
def DN{ps:Ś}(h:ps.Nodup){i j:Nat}{p:Addr}(a:ps[i]?=some p)(b:ps[j]?=some p):i=j:=by
 obtain⟨J,g1⟩:=Sn.mp a;obtain⟨H,g2⟩:=Sn.mp b;rcases UA i j with z|z|z
 .exact absurd (g1.trans g2.symm) ((T5.mp h) i j J H z)
 .exact z
 .exact absurd (g2.trans g1.symm) ((T5.mp h) j i H J z)
theorem Gj(elt tg iter WV Pd:Expr)(ifs WB:Ř)(scope:Scope)(pos:Pos)(it acc:Value)(env:Env):
  compTurn (.ListComp elt [⟨tg,iter,ifs,0⟩,⟨WV,Pd,WB,0⟩] scope pos) 0 it acc env=(do
   standAt iter.pos
   match ←pyNext it with
   |none=>pure (.done .next)
   |some v=>
    letOwnedTupleGo tg it v
    assign tg env v
    let mut ok:=true
    for c in ifs do
     if ok then ok ←isTrue c env (eval c env)
    if ok then
     let x ←eval Pd env
     standAt Pd.pos
     let x ←foldedSetIterable Pd env x
     let _ ←runOwn (.compStart (.ListComp elt [⟨tg,iter,ifs,0⟩,⟨WV,Pd,WB,0⟩] scope pos) 1 (←holding [x] (pyIter x)) acc env) env
    again (.compLoop (.ListComp elt [⟨tg,iter,ifs,0⟩,⟨WV,Pd,WB,0⟩] scope pos) 0 it acc env)):=by rfl
theorem K4(elt tg iter WV Pd:Expr)(ifs WB:Ř)(scope:Scope)(pos:Pos)(it acc:Value)(env:Env):
  compTurn (.ListComp elt [⟨tg,iter,ifs,0⟩,⟨WV,Pd,WB,0⟩] scope pos) 1 it acc env=(do
   standAt Pd.pos
   match ←pyNext it with
   |none=>pure (.done .next)
   |some v=>
    letOwnedTupleGo WV it v
    assign WV env v
    let mut ok:=true
    for c in WB do
     if ok then ok ←isTrue c env (eval c env)
    if ok then
     (do let _ ←call (.builtin "list.append") [acc,←eval elt env])
    again (.compLoop (.ListComp elt [⟨tg,iter,ifs,0⟩,⟨WV,Pd,WB,0⟩] scope pos) 1 it acc env)):=by rfl
section
variable {prog:Program} {w:World} {A:Around} {R:Result->Shared->Prop} {s:Shared} {elt tg iter WV Pd:Expr} {ifs WB:Ř} {scope:Scope} {pos:Pos} {it acc:Value} {env:Env}
theorem F4(F:∀x,foldedSetIterable Pd env x=pure x)(I:Nat->Shared->Prop)
  (turn:∀n s,I n s->wpAny (model prog w) A (pyNext it) (fun r S=>match r with
   |none=>R (.ok .next) S
   |some v=>wpAny (model prog w) A (letOwnedTupleGo tg it v) (fun _ ZB=>wpAny (model prog w) A (assign tg env v) (fun _ ZK=>
     wpAny (model prog w) A (forIn ifs true fun c r=>if r=true then do let ok ←isTrue c env (eval c env);pure (ForInStep.yield ok) else pure (ForInStep.yield r)) (fun ok ZM=>
      if ok=true then wpAny (model prog w) A (eval Pd env) (fun x ZH=>wpAny (model prog w) A (pyIter x) (fun z ZF=>
       wpAny (model prog w) A (runOwn (.compStart (.ListComp elt [⟨tg,iter,ifs,0⟩,⟨WV,Pd,WB,0⟩] scope pos) 1 z acc env) env) (fun _ Zn=>∃m,m<n/\I m Zn) (fun _ _=>False) ZF) (fun _ _=>False) ZH) (fun _ _=>False) ZM
      else ∃m,m<n/\I m ZM) (fun _ _=>False) ZK) (fun _ _=>False) ZB) (fun _ _=>False) S) (fun _ _=>False) s)
  (n:Nat) (h:I n s):codeAny (model prog w) A (.compLoop (.ListComp elt [⟨tg,iter,ifs,0⟩,⟨WV,Pd,WB,0⟩] scope pos) 0 it acc env) R s:=by
 refine VJ rfl I (fun n s L=>?_) n h;show wpAny _ A ((compTurn (.ListComp elt [⟨tg,iter,ifs,0⟩,⟨WV,Pd,WB,0⟩] scope pos) 0 it acc env).onRaise (fun x=>do noteFrame x env;theTreesLotGoes x)) _ _ s;refine VR ?_;rw[Gj];refine Ss (E:=fun _ _=>False) ?_ (fun _ _ x=>x) fun _ _ x=>x.elim;refine Sj (TZ<|Sj<|Ss (turn n s L) (fun r S H=>?_) fun _ _ h'=>h');cases r with
 |none=>exact Sk H|some v=>
  refine Sj (Ss H (fun _ ZB P=>?_) fun _ _ h'=>h');refine Sj (Ss P (fun _ ZK ZC=>Sj<|Ss ZC (fun ok ZM J=>?_) fun _ _ h'=>h') fun _ _ h'=>h');cases ok with
  |false=>exact Sk ⟨rfl,J⟩|true=>exact Sj (Ss J (fun x ZH Zu=>Sj<|TZ<|Sj<|wpAny_of_eq (F x)<|Sj<|TY<|Ss Zu (fun z ZF Zt=>Sj<|Ss Zt (fun _ Zn Zl=>Sk ⟨rfl,Zl⟩) fun _ _ h'=>h') fun _ _ h'=>h') fun _ _ h'=>h')
theorem MV(I:Nat->Shared->Prop)
  (turn:∀n s,I n s->wpAny (model prog w) A (pyNext it) (fun r z=>match r with
   |none=>R (.ok .next) z
   |some v=>wpAny (model prog w) A (letOwnedTupleGo WV it v) (fun _ ZB=>wpAny (model prog w) A (assign WV env v) (fun _ S=>
     wpAny (model prog w) A (forIn WB true fun c r=>if r=true then do let ok ←isTrue c env (eval c env);pure (ForInStep.yield ok) else pure (ForInStep.yield r)) (fun ok F=>
      if ok=true then wpAny (model prog w) A (eval elt env) (fun x ZH=>
       wpAny (model prog w) A (call (.builtin "list.append") [acc,x]) (fun _ ZF=>∃m,m<n/\I m ZF) (fun _ _=>False) ZH) (fun _ _=>False) F
      else ∃m,m<n/\I m F) (fun _ _=>False) S) (fun _ _=>False) ZB) (fun _ _=>False) z) (fun _ _=>False) s)
  (n:Nat) (h:I n s):codeAny (model prog w) A (.compLoop (.ListComp elt [⟨tg,iter,ifs,0⟩,⟨WV,Pd,WB,0⟩] scope pos) 1 it acc env) R s:=by
 refine VJ rfl I (fun n s L=>?_) n h;show wpAny _ A ((compTurn (.ListComp elt [⟨tg,iter,ifs,0⟩,⟨WV,Pd,WB,0⟩] scope pos) 1 it acc env).onRaise (fun x=>do noteFrame x env;theTreesLotGoes x)) _ _ s;refine VR ?_;rw[K4];refine Ss (E:=fun _ _=>False) ?_ (fun _ _ x=>x) fun _ _ x=>x.elim;refine Sj (TZ<|Sj<|Ss (turn n s L) (fun r z H=>?_) fun _ _ h'=>h');cases r with
 |none=>exact Sk H|some v=>
  refine Sj (Ss H (fun _ ZB P=>?_) fun _ _ h'=>h');refine Sj (Ss P (fun _ S ZC=>Sj<|Ss ZC (fun ok F J=>?_) fun _ _ h'=>h') fun _ _ h'=>h');cases ok with
  |false=>exact Sk ⟨rfl,J⟩|true=>
   exact Sj (Sj<|Ss J (fun x ZH Zu=>Sj<|Ss Zu (fun _ ZF Zt=>Sk<|Sk ⟨rfl,Zt⟩) fun _ _ h'=>h') fun _ _ h'=>h')
theorem E5(h0:codeAny (model prog w) A (.compLoop (.ListComp elt [⟨tg,iter,ifs,0⟩,⟨WV,Pd,WB,0⟩] scope pos) 1 it acc env) R s)
  (h:wpAny (model prog w) A (pyIter it) (fun z s'=>codeAny (model prog w) A (.compLoop (.ListComp elt [⟨tg,iter,ifs,0⟩,⟨WV,Pd,WB,0⟩] scope pos) 1 z acc env) R s')
   (notedBy (model prog w) A env fun x s'=>R (.error x) s') s):
  codeAny (model prog w) A (.compStart (.ListComp elt [⟨tg,iter,ifs,0⟩,⟨WV,Pd,WB,0⟩] scope pos) 1 it acc env) R s:=by
 refine codeAny_of_tree ?_;show wpAny _ _ ((compStart (.ListComp elt [⟨tg,iter,ifs,0⟩,⟨WV,Pd,WB,0⟩] scope pos) 1 it acc env).onRaise (fun x=>do noteFrame x env;standAt theWindowsPlace)) _ _ s;refine wpAny_notedAt ?_;unfold compStart;show wpAny _ _ (ask >>= _) _ _ s;refine Sj (wpAny_askSetting<|wpAny_ite ?_);split
 .first
   |exact Sj (Sk<|Sk<|And.intro rfl h0)
   |exact Sk (And.intro rfl h0)
 .first
   |exact Sj (VH<|Sj<|TZ<|Sj<|Ss h (fun z s' h'=>Sk<|And.intro rfl h') fun _ _ x=>x)|(refine Sj (VH ?_);show wpAny _ _ (standAt Pd.pos >>= _) _ _ s;exact Sj (TZ<|Sj<|Ss h (fun z s' h'=>Sk<|And.intro rfl h') fun _ _ x=>x))
end
def w6(Z7:It)(g:TG)(tc:TT)(te:TE)(D:Addr)(ZN:St)(H0:Hp)(Z:St->Hp->Prop):Prop:=
 ∃W:Nat->Nat->St->Hp->Prop,(∃m,W 0 m ZN H0)/\∀i m J H,W i m J H->
  (Z7.stop i H/\Z J H)\/(Z7.go i H/\∃N:St->Hp->Prop,(∀z H',N z H'->∃P,P<m/\W (i+1) P z H')/\∀x H',Z7.yld i H x H'->g x J H' fun L H2=>tc L H2 fun b S=>
   if b=true then te L S fun v F=>∃ys,F D=some (.lst ys)/\ys.length<sizeLine/\N L (upd F D<|.lst<|ys++[v]) else N L S)
def ng(Z7:It)(g:TG)(tc:TT)(Yg:TI)(g2:TG)(Wi:TT)(te:TE)(D:Addr)(S:St)(H0:Hp)(Z:Hp->Prop):Prop:=
 ∃W:Nat->Nat->St->Hp->Prop,(∃m,W 0 m S<|upd H0 D<|.lst [])/\∀i m J H,W i m J H->
  (Z7.stop i H/\Z H)\/(Z7.go i H/\∃N:St->Hp->Prop,(∀z H',N z H'->∃P,P<m/\W (i+1) P z H')/\∀x H',Z7.yld i H x H'->g x J H' fun L H2=>tc L H2 fun b F=>
   if b=true then Yg L F fun J2 H4=>w6 J2 g2 Wi te D L H4 N else N L F)
section
variable {X:Cx} {pins:SB} {J:St} {N' own:Ŗ} {cap:ő} {scope:Scope} {tg iter elt WV Pd:Expr} {ifs WB:Ř} {pos:Pos} {g g2:TG} {tc Wi:TT} {te:TE} {wi Yg:TI}
theorem Go{s:Shared}{H:Hp}{D:Addr}{Z:St->Hp->Prop}(hx:∀e s,X.xe e s->False)(hc:X.calm=true)(hi:PI X WV Pd Yg)(hg:PG X WV g2)(ht:XA X WB Wi)(he:PE X elt te)
  (I:Inv X pins J H s) (h:Yg J H fun Z7 H1=>w6 Z7 g2 Wi te D J H1 Z):
  wpAny (model X.prog X.w) X.A (eval Pd X.env) (fun x ZH=>wpAny (model X.prog X.w) X.A (pyIter x) (fun _V ZF=>
   wpAny (model X.prog X.w) X.A (runOwn (.compStart (.ListComp elt [⟨tg,iter,ifs,0⟩,⟨WV,Pd,WB,0⟩] scope pos) 1 _V (.ref D) X.env) X.env) (fun _ s'=>∃Z0 H',Inv X pins Z0 H' s'/\Z Z0 H') (fun _ _=>False) ZF) (fun _ _=>False) ZH) (fun _ _=>False) s:=by
 have L:∀{α:Type} {t:Sem α} {Q:α->Shared->Prop} {s:Shared},wpAny (model X.prog X.w) X.A t Q X.xe s->wpAny (model X.prog X.w) X.A t Q (fun _ _=>False) s:=fun q=>Ss q (fun _ _ z=>z) fun e s z=>hx e s z;refine L (V0 (hi pins s J H _ I h) fun v s1 h1=>?_);refine L (V0 h1 fun θ s2 h2=>?_);obtain⟨it,fp,tn,Z7,H2,e,I2,T,YS,f2,W,⟨m0,w0⟩,turn⟩:=h2;subst e;have F:∀{H':Hp},(∀b∈fp,H' b=none)->∀b∈fp,fK X pins H' b:=fun hn b hb=>⟨hn b hb,(f2 b hb).2⟩
 refine(wpAny_runOwn ?_);have loop:codeAny (model X.prog X.w) X.A (.compLoop (.ListComp elt [⟨tg,iter,ifs,0⟩,⟨WV,Pd,WB,0⟩] scope pos) 1 (.ref it) (.ref D) X.env)
   (fun r s'=>match r with| .ok f=>∃Z0 H',Inv X pins Z0 H' s'/\Z Z0 H'| .error e=>cameBackBy (model X.prog X.w) X.A X.env (fun _ _=>False) e s') s2:=by
  obtain⟨P,hP⟩:∃P:Nat->Shared->Prop,∀n s',P n s'↔∃i Z0 H',Inv X pins Z0 H' s'/\tn i s'.heap/\(∀b∈fp,H' b=none)/\W i n Z0 H':=⟨_,fun _ _=>SE⟩
  refine MV P ?_ m0 ((hP _ _).2 ⟨0,J,H2,I2,YS,fun b hb=>(f2 b hb).1,w0⟩);rintro n s3 h3;obtain⟨i,ZI,H3,I3,Xp,Ϝ,w3⟩:=(hP _ _).1 h3;rcases turn i n ZI H3 w3 with⟨stop,qz⟩|⟨go,N,hN,step⟩
  .refine Ss (T.done X rfl rfl rfl hc i pins s3 ZI H3 (fun _ _=>False) I3 (F Ϝ) Xp stop) (fun r s4 ⟨hr,I4⟩=>?_) fun _ _ z=>z;subst hr;exact⟨ZI,H3,I4,qz⟩
  .refine Ss (T.item X rfl rfl rfl hc i pins s3 ZI H3 (fun _ _=>False) I3 (F Ϝ) Xp go) (fun r s4 ⟨u,hr,h4⟩=>?_) fun _ _ z=>z;subst hr;refine Ss h4 (fun _ s5 S=>?_) fun _ _ z=>z;obtain⟨x,H5,I5,r5,y5,rk,Ď⟩:=S;have I5':=I5.pinned (F Ď) (T.obj _ _ rk);have again:∀{ZT:St} {H7:Hp} {s7:Shared},Inv X (pins++k7 fp s5.heap) ZT H7 s7->N ZT H7->∃m,m<n/\P m s7:=fun{ZT H7 s7} I7 n7=>by
    obtain⟨m',S,w7⟩:=hN ZT H7 n7;refine(⟨m',S,(hP _ _).2 ⟨i+1,ZT,H7,I7.unpinned,T.keep _ _ _ rk fun b hb o e=>(I7.pin (b,o)<|SD _<|SD _<|jP hb e).1,fun b hb=>?_,w7⟩⟩);obtain⟨o,e,d⟩:=T.obj _ _ rk b hb;exact((I7.pin (b,o)<|SD _<|SD _<|jP hb e).2.1)
   refine L (V0 (hg _ s5 ZI H5 x u _ I5' r5<|step x H5 y5) fun _ s6 S=>?_);obtain⟨Zr,H6,I6,q6⟩:=S;refine(L<|V0 (ht _ s6 Zr H6 _ I6 q6) fun b s7 S=>?_);obtain⟨H7,I7,q7⟩:=S;cases b with
   |false=>
    show ∃m,_;exact again I7 q7
   |true=>
    show wpAny _ _ _ _ _ _;refine L (V0 (he _ s7 Zr H7 _ I7 q7) fun y s8 S=>?_);obtain⟨v,H8,I8,r8,ys,hy,hz,q8⟩:=S;refine(L<|V0 (wM (X:=X) _ s8 Zr H8 (.ref D) [v] (.ref D) [y] (fun _ H'=>N Zr H') I8 rfl (.cons r8 .nil) ⟨_,ys,v,rfl,rfl,hy,hz,q8⟩) fun _ s9 S=>?_);obtain⟨_,H9,I9,_,q9⟩:=S;exact(again I9 q9)
 exact E5 loop (T.self _ 0 _ _ _ YS loop)
theorem Ll{Y:Cx}{s:Shared}{ZN:St}{H2:Hp}{it D:Addr}{fp:Ś}{tn:Nat->Heap->Prop}{Z7:It}{Z:Hp->Prop}{R:Result->Shared->Prop}(X7:∀x,foldedSetIterable Pd Y.env x=pure x)
  (hx:∀e s,Y.xe e s->False) (hc:Y.calm=true) (hg:PG Y tg g) (ht:XA Y ifs tc) (Zv:PI Y WV Pd Yg) (Yb:PG Y WV g2) (μ:XA Y WB Wi) (he:PE Y elt te)
  (T:Turn Y.prog Y.w Y.K tg Z7 fp it tn) (J0:Inv Y [] ZN (upd H2 D<|.lst []) s) (Xp:tn 0 s.heap) (f3:∀b∈fp,upd H2 D (.lst []) b=none)
  (F:∀{H':Hp},(∀b∈fp,H' b=none)->∀b∈fp,fK Y [] H' b) (h:ng Z7 g tc Yg g2 Wi te D ZN H2 Z)
  (hR:∀S H4 s5,Inv Y [] S H4 s5->Z H4->R (.ok .next) s5):
  codeAny (model Y.prog Y.w) Y.A (.compLoop (.ListComp elt [⟨tg,iter,ifs,0⟩,⟨WV,Pd,WB,0⟩] scope pos) 0 (.ref it) (.ref D) Y.env) R s:=by
 obtain⟨W,⟨m0,w0⟩,turn⟩:=h;have ı:∀{α:Type} {t:Sem α} {Q:α->Shared->Prop} {s:Shared},wpAny (model Y.prog Y.w) Y.A t Q Y.xe s->wpAny (model Y.prog Y.w) Y.A t Q (fun _ _=>False) s:=fun q=>Ss q (fun _ _ z=>z) fun e s z=>hx e s z;obtain⟨P,hP⟩:∃P:Nat->Shared->Prop,∀n s',P n s'↔∃i Z0 H',Inv Y [] Z0 H' s'/\tn i s'.heap/\(∀b∈fp,H' b=none)/\W i n Z0 H':=⟨_,fun _ _=>SE⟩
 refine F4 X7 P ?_ m0 ((hP _ _).2 ⟨0,_,_,J0,Xp,f3,w0⟩);rintro n s4 h4;obtain⟨i,S,H4,I4,og,o9,w4⟩:=(hP _ _).1 h4;rcases turn i n S H4 w4 with⟨stop,qz⟩|⟨go,N,hN,step⟩
 .refine Ss (T.done Y rfl rfl rfl hc i [] s4 S H4 (fun _ _=>False) I4 (F o9) og stop) (fun r s5 ⟨hr,I5⟩=>?_) fun _ _ z=>z;subst hr;exact hR S H4 s5 I5 qz
 .refine Ss (T.item Y rfl rfl rfl hc i [] s4 S H4 (fun _ _=>False) I4 (F o9) og go) (fun r s5 ⟨u,hr,h5⟩=>?_) fun _ _ z=>z;subst hr;refine Ss h5 (fun _ s6 J=>?_) fun _ _ z=>z;obtain⟨x,H6,I6,r6,y6,H,ϛ⟩:=J;have I6':=I6.pinned (F ϛ) (T.obj _ _ H);have again:∀{L:St} {H7:Hp} {s7:Shared},Inv Y ([]++k7 fp s6.heap) L H7 s7->N L H7->∃m,m<n/\P m s7:=fun{L H7 s7} I7 n7=>by
   obtain⟨m',J,w7⟩:=hN L H7 n7;refine(⟨m',J,(hP _ _).2 ⟨i+1,L,H7,I7.unpinned,T.keep _ _ _ H fun b hb o e=>(I7.pin (b,o)<|SD _<|SD _<|jP hb e).1,fun b hb=>?_,w7⟩⟩);obtain⟨o,e,d⟩:=T.obj _ _ H b hb;exact((I7.pin (b,o)<|SD _<|SD _<|jP hb e).2.1)
  refine ı (V0 (hg _ s6 S H6 x u _ I6' r6<|step x H6 y6) fun _ s7 J=>?_);obtain⟨L,H7,I7,q7⟩:=J;refine(ı<|V0 (ht _ s7 L H7 _ I7 q7) fun b s8 J=>?_);obtain⟨H8,I8,q8⟩:=J;cases b with
  |false=>
   show ∃m,_;exact again I8 q8
  |true=>
   show wpAny _ _ _ _ _ _;refine Ss (Go (X:=Y) hx hc Zv Yb μ he I8 q8) (fun _ _ z=>Ss z (fun _ _ z=>Ss z (fun _ s9 ⟨Y2,H9,I9,q9⟩=>again I9 q9) fun _ _ z=>z) fun _ _ z=>z) fun _ _ z=>z
theorem BO{s2:Shared}{F:Hp}{it:Addr}{fp:Ś}{tn:Nat->Heap->Prop}{Z7:It}{cl:ŝ}{Z:Addr->Hp->Prop}{RR:Value->Addr->Result->Shared->Prop}{E:QS}
  (hx:∀e s,X.xe e s->False) (hc:X.calm=true) (S:VZ X N' own cap scope)
  (hg:∀cl C Z3 Z1 ex,PG (eg X N' scope cl C Z3 Z1 ex) tg g) (ht:∀cl C Z3 Z1 ex,XA (eg X N' scope cl C Z3 Z1 ex) ifs tc) (Zv:∀cl C Z3 Z1 ex,PI (eg X N' scope cl C Z3 Z1 ex) WV Pd Yg) (Yb:∀cl C Z3 Z1 ex,PG (eg X N' scope cl C Z3 Z1 ex) WV g2) (μ:∀cl C Z3 Z1 ex,XA (eg X N' scope cl C Z3 Z1 ex) WB Wi) (he:∀cl C Z3 Z1 ex,PE (eg X N' scope cl C Z3 Z1 ex) elt te) (X7:∀cl C x,foldedSetIterable Pd (compEnvC scope cl C X.env) x=pure x)
  (I2:Inv X pins J F s2) (T:Turn X.prog X.w X.K tg Z7 fp it tn) (YS:tn 0 s2.heap) (f2:∀b∈fp,fK X pins F b)
  (c1:∀y c,cl.lookup y=some c->X.env.cells.lookup y=some c) (c2:∀y,(y,NameKind.free)∈scope.names->∃c,cl.lookup y=some c)
  (h:∀D,F D=none->ng Z7 g tc Yg g2 Wi te D (gb own cap J) F (Z D))
  (Ϛ:∀D C s' m' H',Inv X pins J H' s'->s'.heap.Ns C m'->fK X pins H' C->Z D H'->RR (.ref D) C (.ok .next) s'):
  wpAny (model X.prog X.w) X.A (newList []) (fun acc ZM=>wpAny (model X.prog X.w) X.A (newFunctionEnv scope X.env.globals cl [] X.env.qual none .none<|some X.env) (fun X5 ZH=>
   codeAny (model X.prog X.w) X.A (.compStart (.ListComp elt [⟨tg,iter,ifs,0⟩,⟨WV,Pd,WB,0⟩] scope pos) 0 (.ref it) acc {X5 with scope:=relabel scope X.env}) (RR acc X5.locals) ZH) E ZM) E s2:=by
 have hlt:∀b∈fp,b<s2.heap.objs.size:=fun b L=>by obtain⟨o,e,_⟩:=T.obj _ _ YS b L;exact(Su e)
 have hD:F s2.heap.objs.size=none:=I2.hok.fresh (Sm _);refine Tc (ud<|fun ZR ZA Zz Zy=>?_);dsimp only at ZA Zz Zy⊢;have I3:Inv X pins J (upd F s2.heap.objs.size<|.lst []) {s2 with heap:=s2.heap.push {cls:=.type "list",dict:=none,data:=.seq ([]:Œ).toArray},toks:=s2.toks}:=
  I2.laid (fun b o e=>Sl _ e) (Sm _) ⟨Ta _,[],0,.nil,SA _ rfl⟩
 generalize Yi:({s2 with heap:=s2.heap.push {cls:=.type "list",dict:=none,data:=.seq ([]:Œ).toArray},toks:=s2.toks}:Shared)=H at I3;have e3:s2.heap.push {cls:=.type "list",dict:=none,data:=.seq ([]:Œ).toArray}=H.heap:=by rw[←Yi]
 have hsz:H.heap.objs.size=s2.heap.objs.size+1:=by rw[←e3,TK]
 rw[e3] at ZA Zz Zy⊢;have hk:=Zz;have Xr:∀y c,cl.lookup y=some c->¬H.heap.objs.size<c:=fun y c e z=>by obtain⟨v,o,ho,_⟩:=I3.cell y c (c1 y c e);exact(Td _<|U7 z<|Su ho)
 have CA:CellsAre X scope H.heap.objs.size cl (cellsFrom (H.heap.objs.size+1) scope.names cl):=yA (h:=H.heap.push {cls:=.type "dict",data:=.dict #[]}) (by rw[TK]) S Xr;have P:∀y c,(cellsFrom (H.heap.objs.size+1) scope.names cl).lookup y=some c->H.heap.objs.size<c->ZR.IsCell c none:=fun y c e z=>by
  rw[jA,lc] at e;cases q:(cellsFrom (H.heap.objs.size+1) scope.names []).lookup y with
  |none=>rw[q] at e;exact absurd z (Xr y c e)|some c'=>
   rw[q] at e;have:c'=c:=SY e;subst this;exact Zy y c' (Th q)
 generalize Ć:cellsFrom (H.heap.objs.size+1) scope.names cl=cs at CA P⊢;have f3:∀b∈fp,fK X pins (upd F s2.heap.objs.size<|.lst []) b:=fun b L=>⟨by rw[eG (SQ<|hlt b L)];exact(f2 b L).1,(f2 b L).2⟩
 have X2:∀b∈fp,b<H.heap.objs.size:=fun b L=>by rw[hsz];exact Uy (hlt b L)
 have Xp:tn 0 ZR:=T.keep _ _ _ YS fun b L o e=>hk b o (by rw[←e3];exact Sl _ e);have J0:Inv (eg X N' scope cs H.heap.objs.size H (upd F s2.heap.objs.size<|.lst []) fp) [] (gb own cap J) (upd F s2.heap.objs.size<|.lst []) {H with heap:=ZR,toks:=s2.toks}:=
  Wb I3 S CA P c1 c2 f3 X2 hk ZA
 have Yr:∀{pl:SB} {H':Hp},pl=[]->(∀b∈fp,H' b=none)->∀b∈fp,fK (eg X N' scope cs H.heap.objs.size H (upd F s2.heap.objs.size<|.lst []) fp) pl H' b:=fun{pl H'} hp hn b L=>by subst hp;refine⟨hn b L,SQ (X2 b L),J0.ok.exfs b L,.inl L,fun x c e=>J0.ok.exf b L |>.2 x c e,fun p hp=>absurd hp (by show p∉([]++[]:SB);simp)⟩
 have loop:codeAny (model X.prog X.w) X.A (.compLoop (.ListComp elt [⟨tg,iter,ifs,0⟩,⟨WV,Pd,WB,0⟩] scope pos) 0 (.ref it) (.ref s2.heap.objs.size)<|compEnvC scope cs H.heap.objs.size X.env) (RR (.ref s2.heap.objs.size) H.heap.objs.size)
   {H with heap:=ZR,toks:=s2.toks}:=Ll (Y:=eg X N' scope cs H.heap.objs.size H (upd F s2.heap.objs.size<|.lst []) fp) (X7 _ _) hx hc (hg _ _ _ _ _) (ht _ _ _ _ _) (Zv _ _ _ _ _) (Yb _ _ _ _ _) (μ _ _ _ _ _) (he _ _ _ _ _) T J0 Xp (fun b L=>(f3 b L).1) (Yr rfl) (h _ hD) fun ZP H4 s5 I5 qz=>by
  have I6:Inv X pins J H4 s5:=I3.call' (ch:=fp) I5.os I5.base I5.hok I5.bare fun b L=>⟨(f3 b L).2.2.2.1,(f3 b L).2.1,(f3 b L).2.2.2.2.1,(f3 b L).2.2.2.2.2⟩
  obtain⟨m',Ya,_⟩:=I5.loc;exact(Ϛ _ _ s5 m' H4 I6 Ya (I3.fpOk (Sm _) I5.free) qz)
 have lp:codeAny (model X.prog X.w) X.A (.compStart (.ListComp elt [⟨tg,iter,ifs,0⟩,⟨WV,Pd,WB,0⟩] scope pos) 0 (.ref it) (.ref s2.heap.objs.size)<|compEnvC scope cs H.heap.objs.size X.env) (RR (.ref s2.heap.objs.size) H.heap.objs.size)
   {H with heap:=ZR,toks:=s2.toks}:=codeAny_compStart_list loop (T.self _ 0 _ _ _ Xp loop)
 subst Yi;exact lp
theorem Fg(S:VZ X N' own cap scope)(hi:PI X tg iter wi)
  (hg:∀cl C Z3 Z1 ex,PG (eg X N' scope cl C Z3 Z1 ex) tg g) (ht:∀cl C Z3 Z1 ex,XA (eg X N' scope cl C Z3 Z1 ex) ifs tc)
  (Zv:∀cl C Z3 Z1 ex,PI (eg X N' scope cl C Z3 Z1 ex) WV Pd Yg) (Yb:∀cl C Z3 Z1 ex,PG (eg X N' scope cl C Z3 Z1 ex) WV g2) (F:∀cl C Z3 Z1 ex,XA (eg X N' scope cl C Z3 Z1 ex) WB Wi)
  (he:∀cl C Z3 Z1 ex,PE (eg X N' scope cl C Z3 Z1 ex) elt te)
  (hx:hI X:=by exact fun _ _ z=>z) (hc:X.calm=true:=by rfl) (hs:YN X iter:=by intro _;rfl) (X7:∀cl C x,foldedSetIterable Pd (compEnvC scope cl C X.env) x=pure x:=by intro _ _ _;rfl):
  PE X (.ListComp elt [⟨tg,iter,ifs,0⟩,⟨WV,Pd,WB,0⟩] scope pos) (fun J H Q=>wi J H fun Z7 H1=>∀D,H1 D=none->ng Z7 g tc Yg g2 Wi te D (gb own cap J) H1 (Q<|.ref D)):=by
 intro pins s J H Q I h;rw[VW];obtain⟨cl,Xr,c1,c2⟩:=nD (scope:=scope) (env:=X.env) fun y hy hk=>I.ok.has y.1 (S.free y hy hk);refine(TU (use:=none) rfl hs Xr S.kind S.names (V0 (hi pins s J H _ I h) fun v s1 h1=>V0 h1 fun θ s2 h2=>?_));obtain⟨it,fp,tn,Z7,H2,e,I2,T,P,f2,q⟩:=h2;subst e;refine(BO (RR:=fun acc C=>compPost (model X.prog X.w) X.A X.xe none (EP X pins J Q) acc C) (Z:=fun D=>Q<|.ref D) hx hc S hg ht Zv Yb F he X7 I2 T P f2 c1 c2 q ?_);intro D C s' m' H' I' Ya f' z;exact⟨m',Ya,fun č L=>⟨.ref D,H',I'.letgo f' L,rfl,z⟩⟩
theorem JY(hN:X.N.Nodup)(ξ:X.N[i]?=some y)(hy:X.env.scope.names.lookup y=some .local)(S:VZ X N' own cap scope)(hi:PI X tg iter wi)
  (hg:∀cl C Z3 Z1 ex,PG (eg X N' scope cl C Z3 Z1 ex) tg g) (ht:∀cl C Z3 Z1 ex,XA (eg X N' scope cl C Z3 Z1 ex) ifs tc)
  (Zv:∀cl C Z3 Z1 ex,PI (eg X N' scope cl C Z3 Z1 ex) WV Pd Yg) (Yb:∀cl C Z3 Z1 ex,PG (eg X N' scope cl C Z3 Z1 ex) WV g2) (μ:∀cl C Z3 Z1 ex,XA (eg X N' scope cl C Z3 Z1 ex) WB Wi)
  (he:∀cl C Z3 Z1 ex,PE (eg X N' scope cl C Z3 Z1 ex) elt te)
  (ν:swapsWith (.ListComp elt [⟨tg,iter,ifs,0⟩,⟨WV,Pd,WB,0⟩] scope pos) (some<|.Name y py) F.line X.env=pure true:=by rfl)
  (hx:hI X:=by exact fun _ _ z=>z) (hc:X.calm=true:=by rfl) (hs:YN X iter:=by intro _;rfl) (X7:∀cl C x,foldedSetIterable Pd (compEnvC scope cl C X.env) x=pure x:=by intro _ _ _;rfl):
  PS X (.Assign [.Name y py] (.ListComp elt [⟨tg,iter,ifs,0⟩,⟨WV,Pd,WB,0⟩] scope pos) F) (fun D J H=>wi J H fun Z7 H1=>∀p,H1 p=none->ng Z7 g tc Yg g2 Wi te p (gb own cap J) H1 (fun H2=>D.nx (J.set i<|some<|.ref p) H2)):=by
 intro pins s J H D I h;obtain⟨cl,Xr,c1,c2⟩:=nD (scope:=scope) (env:=X.env) fun y hy hk=>I.ok.has y.1 (S.free y hy hk);rw[exec_Assign_Name_used _ _ _ _ ν];refine Sj (TZ<|Sj ?_);show wpAny _ _ (do let _ ←comprehension (.ListComp elt [⟨tg,iter,ifs,0⟩,⟨WV,Pd,WB,0⟩] scope pos) scope X.env _ (newList []) false (eval iter X.env) (some<|assign (.Name y py) X.env)) _ _ s;refine Sj (Ss (TU (use:=some (assign (.Name y py) X.env)) (Q:=fun _ s'=>SP X pins D .next s') rfl hs Xr S.kind S.names
  (V0 (hi pins s J H _ I h) fun v s1 h1=>V0 h1 fun θ s2 h2=>?_)) (fun _ s' hq=>Sk<|Sk hq) fun _ _ e=>e)
 obtain⟨it,fp,tn,Z7,H2,e,I2,T,L,f2,q⟩:=h2;subst e;refine(BO (RR:=fun acc C=>compPost (model X.prog X.w) X.A X.xe (some<|assign (.Name y py) X.env) (fun _ s'=>SP X pins D .next s') acc C) (Z:=fun p H2=>D.nx (J.set i<|some<|.ref p) H2) hx hc S hg ht Zv Yb μ he X7 I2 T L f2 c1 c2 q ?_);intro p C s' m' H' I' Ya f' z;show wpAny _ _ (assign (.Name y py) X.env<|.ref p) _ _ _;refine Vx (v4 I' hN ξ (.inl hy) (v:=.ref p) rfl (fun Β Ę hm=>?_) (.inr hy));obtain⟨a,P,ha⟩:=hm;have ċ:C≠a:=by
  rcases ha with z|z
  .rw[z];exact f'.2.1
  .exact fun e=>f'.2.2.2.2.1 y a z e.symm
 refine⟨m',Ya.sameBut P ċ,fun h3 Yi=>?_⟩;exact⟨_,H',Ę.letgo f' Yi,z⟩
end
def kO(ns:Ő):Nat:=(firstMet (fun i=>ns.getD i 0) ns.length).length
end L2
namespace L2
open PySem PySem.W PySem.Spec PySem.Calls PyProof.Rows PySem.Builtin PySem.Builtin.ObjectAttr PySem.Builtin.Getset_descriptor
def RY(e D:Addr):HO:=.ext fun h=>∃o,h.get? e=some o/\o.cls=.ref D
def PJ(X:Cx)(es:Ř)(t:St->Hp->(Hp->Prop)->Prop):Prop:=
 ∀(pins:SB) (s:Shared) (J:St) (H:Hp) (Q:Hp->Prop) (acc:Str) (n:Nat),acc.length<=n->n+2000*es.length<=1000000->Inv X pins J H s->t J H Q->
  wpAny (model X.prog X.w) X.A (joinParts acc<|evalEach es X.env) (fun u s'=>∃z t H',u=.str z t/\Inv X pins J H' s'/\Q H') X.xe s
section
variable {X:Cx} {e e2:Expr} {es:Ř} {te:TE} {t:St->Hp->(Hp->Prop)->Prop} {p pos:Pos}
theorem QO:PJ X [] (fun _ H Q=>Q H):=fun pins s J H Q acc n P L I h=>joinParts_nil ⟨acc,_,H,rfl,I.tok _,h⟩ (by rw[Uc];simp at L;omega)
theorem OY{x:Str}{j:Nat}(hx:x.length<=2000)(z:PJ X es t):PJ X (.Constant (.str x) j p::es) t:=by
 intro pins s J H Q acc n h1 S I h;have F:(acc++x).length<=n+2000:=by rw[strLen_append];omega
 simp only[SO] at S;show wpAny _ _ (joinParts acc<|eval (.Constant (.str x) j p) X.env::evalEach es X.env) _ _ s;refine joinParts_cons (V0 (DE pins s J H (fun v H'=>v=.str x/\H'=H) I ⟨rfl,rfl⟩) fun u s1 P=>?_);obtain⟨v,H1,I1,L,e1,e2⟩:=P;subst e1 e2;obtain⟨tk,rfl⟩:=L;exact⟨by rw[Uc];omega,z pins s1 J _ Q _ (n+2000) F ⋯ I1 h⟩
theorem NV(he:PE X e te)(z:PJ X es t):PJ X (.FormattedValue e (-1) none p::es) (fun J H Q=>te J H fun v H1=>∃i,v=.int i/\i.natAbs.log2<1920/\t J H1 Q):=by
 intro pins s J H Q acc n h1 S I h;simp only[SO] at S;show wpAny _ _ (joinParts acc<|eval (.FormattedValue e (-1) none p) X.env::evalEach es X.env) _ _ s;refine joinParts_cons (FormattedValue_plain<|V0 (he pins s J H _ I h) fun u s1 P=>?_);obtain⟨v,H1,I1,L,i,ev,hi,q⟩:=P;subst ev;obtain⟨tk,rfl⟩:=L;refine(formatField_int_small hi ?_);have hz:=int_text_len_1921 hi;have F:(acc++Str.ofString (toString i)).length<=n+2000:=by rw[strLen_append];omega
 exact⟨by rw[Uc];omega,z pins _ J H1 Q _ (n+2000) F ⋯ (I1.tok _) q⟩
theorem Lc(h:PJ X (e::e2::es) t)(hl:(e::e2::es).length<=400:=by decide):PE X (.JoinedStr (e::e2::es) pos) (fun J H Q=>t J H fun H1=>∀z,Q (.str z) H1):=by intro pins s J H Q I q;refine JoinedStr_many ?_;refine V0 (h pins s J H _ Str.empty 0 (Ta _) ⋯ I q) fun u s' P=>?_;obtain⟨z,tk,H',F,S,L⟩:=P;exact(⟨.str z,H',S,⟨tk,F⟩,L z⟩)
end
end L2
namespace L2
open PySem PySem.Spec PyProof.Rows
def V9.there{P:Program}{w:World}{H:Hp}{h:Heap}{a:Addr}{o:HO}(x:V9 P w H h a o):∃ob,h.get? a=some ob:=by
 cases o with
 |lst xs=>obtain⟨_,_,_,_,e⟩:=x;exact⟨_,e⟩
 |tup xs=>obtain⟨_,_,_,p⟩:=x;obtain⟨ob,e,_⟩:=p;exact⟨_,e⟩
 |dK kvs=>obtain⟨_,_,_,_,o,_,_,e,_⟩:=x;exact⟨_,e⟩
 |dT kvs=>obtain⟨_,_,_,_,o,_,_,e,_⟩:=x;exact⟨_,e⟩
 |set S n=>obtain⟨o,_,_,_,e,_⟩:=x;exact⟨_,e⟩
 |ins C dx fs=>obtain⟨_,_,_,e,_⟩:=x;exact⟨_,e⟩
 |own y=>obtain⟨_,e⟩:=x;exact⟨_,e⟩
 |xd fs=>obtain⟨_,⟨_,_,_,e,_⟩,_⟩:=x;exact⟨_,e⟩
 |rng lo hi=>obtain⟨_,_,_,e⟩:=x;exact⟨_,e⟩
 |frz ob u=>obtain⟨e,_⟩:=x;exact⟨_,e⟩
 |tbl ps=>exact⟨_,(show h.get? a=some _ from x)⟩|met f y=>exact⟨_,(show h.get? a=some _ from x)⟩|ext φ=>obtain⟨_,e,_⟩:=x;exact e
structure Flew (P:Program) (w:World) (outer:Š) (H H':Hp) (s:Shared) (e:Addr) (C:Value) (Z8:Heap) (s':Shared):Prop where
 os:s'.os=s.os
 bare:AllBare s'.gens
 un:Un (WK outer) [] H H' s.heap s'.heap
 hok:Ww P w H' s'.heap
 trk:∀b o,s'.heap.get? b=some o->H' b≠none->Z8.get? b=some o
 old:∀b o,s.heap.get? b=some o->H b=none->b∉WK outer->Z8.get? b=some o
 thr:∀b o,s.heap.get? b=some o->b∉WK outer->∃o',Z8.get? b=some o'
 frf:∀b∈WK outer,H b=none
 unt:H' e=none
 new:s.heap.get? e=none
 fly:∃a0,Heap.FlyingW Z8 outer e C a0 s'.heap
def XQ(P:Program)(w:World):YI:=fun outer H s E e s'=>∃(a:Addr) (C:Value) (H':Hp) (Z8:Heap),e=.ref a/\Flew P w outer H H' s a C Z8 s'/\E C none H'
section
variable {P:Program} {w:World} {outer:Š} {H H':Hp} {s s':Shared} {e:Addr} {C:Value} {Z8:Heap}
theorem Flew.to(F:Flew P w outer H H' s e C Z8 s')(hB:Z8.StaysIn S)(hs:s'.heap.UpToSlots S):Un (WK outer) [] H H' s.heap S/\Ww P w H' S/\∀b o,S.get? b=some o->H' b≠none->Z8.get? b=some o:=by
 obtain⟨a0,fl⟩:=F.fly;have kp:∀b o,s.heap.get? b=some o->H b=none->b∉WK outer->S.get? b=some o:=fun b o x n J=>hB b o (F.old b o x n J);have sl:∀b o,s.heap.get? b=some o->H b=none->b∈WK outer->∃sl,S.get? b=some {o with slots:=sl}:=fun b o x n J=>by obtain⟨sl,e1⟩:=F.un.slot b o x n J nofun;obtain⟨_,o',e2,d⟩:=fl.2.2.1.mem J;rw[e1] at e2;cases e2;obtain⟨lA,e3⟩:=hs b {o with slots:=sl} e1 d;exact(⟨lA,e3⟩)
 refine⟨⟨fun b o x n J _=>kp b o x n J,fun b o x n J _=>sl b o x n J,F.un.free,fun b o x _=>?_,F.un.tups,F.un.frzs,F.un.tbls⟩,fun a u L=>?_,fun b o x n=>?_⟩
 .by_cases J:b∈WK outer
  .obtain⟨l,e1⟩:=sl b o x (F.frf b J) J;exact⟨_,e1⟩
  .obtain⟨o',e1⟩:=F.thr b o x J;exact⟨o',hB b o' e1⟩
 .refine(F.hok a u L).stay (fun b v J q=>hB b v<|F.trk b v q ?_) (fun _ q=>q) fun _ _ q=>q;rcases J with z|z
  .rw[z,L];simp
  .rw[z];simp
 .cases L:H' b with
  |none=>exact absurd L n|some u=>
   obtain⟨o1,e1⟩:=(F.hok b u L).there;have e2:=F.trk b o1 e1 n;have e3:=hB b o1 e2;rw[x] at e3;cases e3;exact(e2)
theorem Flew.next(F:Flew P w outer H H' s e C Z8 s')(S:s'.heap.UpToSlots z)(fl:∃a0,Heap.FlyingW Z8 outer e C a0 z):Flew P w outer H H' s e C Z8 {s' with heap:=z}:=by obtain⟨a0,fl⟩:=fl;obtain⟨u,k,t⟩:=F.to fl.1 S;exact(⟨F.os,F.bare,u,k,t,F.old,F.thr,F.frf,F.unt,F.new,a0,fl⟩)
theorem Flew.inv(F:Flew X.prog X.w X.stack H H' s e C Z8 s')(I:Inv X pins J H s):Inv X pins J H' s':=
 I.call' (ch:=[]) F.os F.un F.hok F.bare fun _ z=>nomatch z
end
section
variable {P:Program} {w:World} {K:Frag} {mg:œ} {base:Heap} {N:Ŗ} {qual:Str} {scope:Scope} {f:Addr} {cd:Value} {A:Around} {outer:Š} {s s1:Shared} {H H1:Hp} {E E':XK}
 {pins:SB} {J:St}
theorem Mb{h':Heap}{e C:Addr}{vs:Œ}(I:Inv (eV (XQ P w) P w K mg base N qual scope f cd A outer s H E) pins J H1 s1)(hx:Heap.MadeExcOf s1.heap h' e (.ref C) vs)(hE:E (.ref C) none H1):
  (eV (XQ P w) P w K mg base N qual scope f cd A outer s H E).xe (.ref e) {s1 with heap:=h'}:=by
 have fs:∀b,b∈WK (envOfC qual scope s.heap.objs.size f cd::outer)->H1 b=none:=I.stkFree;have inn:∀b o,s1.heap.get? b=some o->b∉WK (envOfC qual scope s.heap.objs.size f cd::outer)->(PySem.W.hideAll s1.heap<|WK<|envOfC qual scope s.heap.objs.size f cd::outer).get? b=some o:=fun b o e L=>PySem.W.hideAll_get _ e L;have out:∀b o,s.heap.get? b=some o->b∉WK outer->b∉WK (envOfC qual scope s.heap.objs.size f cd::outer):=fun b o e L z=>by
  have z:b∈s.heap.objs.size::WK outer:=z;rcases SI.mp z with q|q
  .rw[q] at e;exact Td _ (Su e)
  .exact L q
 have frf:∀b∈WK outer,H b=none:=I.ok.frf;have ü:∀env∈(envOfC qual scope s.heap.objs.size f cd::outer),∀a,env.frame=some a->a∈WK (envOfC qual scope s.heap.objs.size f cd::outer):=fun env he a ha=>UR.mpr ⟨env,he,ha⟩;show wpAny (model P w) (A.deeper<|envOfC qual scope s.heap.objs.size f cd) (leaving (envOfC qual scope s.heap.objs.size f cd)<|.ref e) _ _ _;refine wpAny_leaves_madeW (base:=PySem.W.hideAll s1.heap (WK<|envOfC qual scope s.heap.objs.size f cd::outer)) I.ok.frames rfl (fun b o q=>PySem.W.of_hideAll _ q) (PySem.W.funFrames_hide I.stack ü) hx fun h2 t fl _ _ ups=>?_;have hB:=fl.1;have sl:∀b o,s.heap.get? b=some o->H b=none->b∈WK outer->∃sl,h2.get? b=some {o with slots:=sl}:=fun b o x n L=>by obtain⟨sl,e1⟩:=I.base.slot b o x n L (by simp[eV]);obtain⟨_,o',e2,d⟩:=I.stack.mem (show b∈s.heap.objs.size::WK outer from Ti _ L);rw[e1] at e2;cases e2;obtain⟨lA,e3⟩:=ups b {o with slots:=sl} (hx.keeps b {o with slots:=sl} e1) d;exact(⟨lA,e3⟩)
 have old:∀b o,s.heap.get? b=some o->H b=none->b∉WK outer->(PySem.W.hideAll s1.heap<|WK<|envOfC qual scope s.heap.objs.size f cd::outer).get? b=some o:=fun b o x n L=>
  inn b o (I.base.keep b o x n L<|by simp[eV]) (out b o x L)
 have thr:∀b o,s.heap.get? b=some o->b∉WK outer->∃o',(PySem.W.hideAll s1.heap<|WK<|envOfC qual scope s.heap.objs.size f cd::outer).get? b=some o':=fun b o x L=>by obtain⟨o',e1⟩:=I.base.there b o x (by simp[eV]);exact(⟨o',inn b o' e1<|out b o x L⟩)
 have S:∀b,H1 b≠none->b∉WK (envOfC qual scope s.heap.objs.size f cd::outer):=fun b n z=>n (fs b z);refine⟨e,.ref C,H1,_,rfl,⟨I.os,I.bare,⟨fun b o x n L _=>hB b o (old b o x n L),fun b o x n L _=>sl b o x n L,fun b o x n _=>I.base.free b o x n (by simp[eV]),fun b o x _=>?_,I.base.tups,I.base.frzs,I.base.tbls⟩,fun a u F=>?_,fun b o x n=>?_,old,thr,frf,?_,?_,_,fl⟩,hE⟩
 .by_cases L:b∈WK outer
  .obtain⟨l,e1⟩:=sl b o x (frf b L) L;exact⟨_,e1⟩
  .obtain⟨o',e1⟩:=thr b o x L;exact⟨o',hB b o' e1⟩
 .refine(I.hok a u F).stay (fun b v L q=>hB b v<|inn b v q<|S b ?_) (fun _ q=>q) fun _ _ q=>q;rcases L with z|z
  .rw[z,F];simp
  .rw[z];simp
 .cases F:H1 b with
  |none=>exact absurd F n|some u=>
   obtain⟨o1,e1⟩:=(I.hok b u F).there;have e2:=inn b o1 e1 (S b n);have e3:=hB b o1 e2;rw[x] at e3;cases e3;exact(e2)
 .cases F:H1 e with
  |none=>rfl|some u=>
   obtain⟨o1,e1⟩:=(I.hok e u F).there;rw[hx.new] at e1;cases e1
 .cases eo:s.heap.get? e with
  |none=>rfl|some o=>
   obtain⟨o1,e1⟩:=I.base.there e o eo (by simp[eV]);rw[hx.new] at e1;cases e1
theorem EI(hE:∀C d H',E' C d H'->E C d H'):lP (XQ P w) (eV (XQ P w) P w K mg base N qual scope f cd A outer s H E) E':=by
 intro pins J H1 s1 e s' I hc;obtain⟨a,C,H',Z8,rfl,F,q⟩:=hc;have F:Flew P w (envOfC qual scope s.heap.objs.size f cd::outer) H1 H' s1 a C Z8 s':=F;obtain⟨a0,fl⟩:=F.fly;have S:Inv (eV (XQ P w) P w K mg base N qual scope f cd A outer s H E) pins J H' s':=Flew.inv (X:=eV (XQ P w) P w K mg base N qual scope f cd A outer s H E) F I;have out:∀b o,s.heap.get? b=some o->b∉WK outer->b∉WK (envOfC qual scope s.heap.objs.size f cd::outer):=fun b o e L z=>by
  have z:b∈s.heap.objs.size::WK outer:=z;rcases SI.mp z with q|q
  .rw[q] at e;exact Td _ (Su e)
  .exact L q
 obtain⟨f1,f2,⟨_,_,f3⟩,f4⟩:=id fl;have G:Flew P w outer H H' s a C Z8 s':=by
  refine⟨S.os,F.bare,⟨fun b o x n L _=>S.base.keep b o x n L (by simp[eV]),fun b o x n L _=>S.base.slot b o x n L (by simp[eV]),fun b o x n _=>S.base.free b o x n (by simp[eV]),fun b o x _=>S.base.there b o x (by simp[eV]),S.base.tups,S.base.frzs,S.base.tbls⟩,F.hok,F.trk,
   fun b o x n L=>F.old b o (I.base.keep b o x n L<|by simp[eV]) (I.base.free b o x n<|by simp[eV]) (out b o x L),fun b o x L=>?_,I.ok.frf,F.unt,?_,a0,f1,f2,f3,f4⟩
  .obtain⟨o1,e1⟩:=I.base.there b o x (by simp[eV]);exact F.thr b o1 e1 (out b o x L)
  .cases eo:s.heap.get? a with
   |none=>rfl|some o=>
    obtain⟨o1,e1⟩:=I.base.there a o eo (by simp[eV]);rw[F.new] at e1;cases e1
 show wpAny (model P w) (A.deeper<|envOfC qual scope s.heap.objs.size f cd) (leaving (envOfC qual scope s.heap.objs.size f cd)<|.ref a) _ _ _;exact wpAny_leaves_onW I.ok.frames rfl fl fun h2 ϲ ups=>⟨a,C,H',Z8,rfl,G.next ups ⟨_,ϲ⟩,hE C none H' q⟩
end
end L2
namespace L3
open PySem PySem.Spec L2
inductive D where
 |non|bl (b:Bool)|int (i:Int)|str (x:Str)|lst (xs:List D)|scr (xs:List D)|tup (xs:List D)|gt (xs:List D)|ref (k:Nat)
inductive Z9 where
 |lst (xs:List D)|dK (kvs:List (Key×D))|dN (kvs:List (NK×D))|ins (C:Addr) (fs:List (Str×D))|exc (C:Addr)
abbrev M:=List (Option Z9)
abbrev _root_.ş:=Option (Bool×M)
abbrev Fr:=Option (D×M)
abbrev C0:=List D->M->Fr
abbrev G:=List (Option D)
structure Wd where
 ρ:Ś
 O:M
 H:Hp
 hid:Addr->Prop
def Ρ(K:Frag)(H:Hp)(a:Addr)(xs:ŗ):Prop:=(∃o,H a=some (.frz o<|.lst xs))\/
  ∃(o:Obj) (its:Array Value) (n:Nat),K.lookup a=some o/\o.cls=.type "list"/\o.dict=none/\o.data=.seq its n/\its.size<=sizeLine/\Vals xs its.toList
def Ρ.seq{K:Frag}{H:Hp}{a:Addr}{xs:ŗ}(h:Ρ K H a xs):WE K H a xs:=by
 rcases h with h|h
 .exact .inl (.inr h)
 .exact .inr h
def RL(W:Wd)(a:Addr):Prop:=∃(k:Nat) (o:Z9),W.O[k]?=some (some o)/\W.ρ[k]?=some a
def qg(W:Wd)(a:Addr):Prop:=RL W a\/W.hid a
mutual
inductive DR (K:Frag) (W:Wd):D->V->Prop where
 |non:DR K W .non .non
 |bl (b:Bool):DR K W (.bl b) (.bl b)
 |int (i:Int):DR K W (.int i) (.int i)
 |str (x:Str):DR K W (.str x) (.str x)
 |ref {k:Nat} {a:Addr}:W.ρ[k]?=some a->DR K W (.ref k) (.ref a)
 |lst {a:Addr} {vs:ŗ} {ds:List D}:W.H a=some (.lst vs)->¬qg W a->V2 K W ds vs->DR K W (.lst ds) (.ref a)
 |scr {a:Addr} {vs:ŗ} {ds:List D}:Ρ K W.H a vs->V2 K W ds vs->DR K W (.scr ds) (.ref a)
 |tup {a:Addr} {vs:ŗ} {ds:List D}:W.H a=some (.tup vs)->V2 K W ds vs->DR K W (.tup ds) (.ref a)
 |gt {a:Addr} {vs:ŗ} {ds:List D}:Wx K W.H a vs->V2 K W ds vs->DR K W (.gt ds) (.ref a)
inductive V2 (K:Frag) (W:Wd):List D->ŗ->Prop where
 |nil:V2 K W [] []
 |cons {d:D} {v:V} {ds:List D} {vs:ŗ}:DR K W d v->V2 K W ds vs->V2 K W (d::ds) (v::vs)
end
def KR(K:Frag)(W:Wd):List (Key×D)->List (Key×V)->Prop:=Paired fun p q=>p.1=q.1/\DR K W p.2 q.2
def NR(K:Frag)(W:Wd):List (NK×D)->List (NK×V)->Prop:=Paired fun p q=>p.1=q.1/\DR K W p.2 q.2
def FR(K:Frag)(W:Wd):List (Str×D)->Ş->Prop:=Paired fun p q=>p.1=q.1/\DR K W p.2 q.2
def OR(K:Frag)(W:Wd)(a:Addr):Z9->HO->Prop
 | .lst ds,H=>∃vs,H=.lst vs/\V2 K W ds vs| .dK kvs,H=>∃vs,H=.dK vs/\KR K W kvs vs| .dN kvs,H=>∃vs,H=.dT vs/\NR K W kvs vs| .ins C fs,H=>∃vs,(∃dx,H=.ins C dx vs)/\FR K W fs vs| .exc C,H=>H=RY a C
structure Ok (K:Frag) (W:Wd):Prop where
 len:W.ρ.length=W.O.length
 nd:W.ρ.Nodup
 rs:∀a∈W.ρ,W.H a≠none
 at_:∀(k:Nat) (o:Z9),W.O[k]?=some (some o)->∃a ho,W.ρ[k]?=some a/\W.H a=some ho/\OR K W a o ho
 hd0:∀a,W.hid a->W.H a≠none/\a∉W.ρ
def Ok.hd{K:Frag}{W:Wd}(ok:Ok K W):∀a,W.hid a->W.H a≠none/\¬RL W a:=fun a z=>⟨(ok.hd0 a z).1,fun⟨_,_,_,h⟩=>(ok.hd0 a z).2 (T8 h)⟩
structure Step (W W':Wd):Prop where
 ρ:∀(k:Nat) a,W.ρ[k]?=some a->W'.ρ[k]?=some a
 live:∀a,RL W' a->RL W a\/W.H a=none
 keep:∀a o,W.H a=some o->¬RL W a->W'.H a=some o
 hid:W'.hid=W.hid
 still:∀a,W.H a≠none->W'.H a≠none
structure V5 (K:Frag) (W:Wd) (B:G) (J:St):Prop where
 len:B.length=J.length
 at_:∀(i:Nat) d,B[i]?=some (some d)->∃v,J[i]?=some (some v)/\DR K W d v
section
variable {K:Frag} {W W' ϟ:Wd} {B:G} {J:St}
theorem Step.refl:Step W W:=⟨fun _ _ h=>h,fun _ h=>.inl h,fun _ _ h _=>h,rfl,fun _ h=>h⟩
theorem Step.nlive(s:Step W W')(h:W.H a=some o)(n:¬RL W a):¬RL W' a:=fun z=>by
 rcases s.live a z with z|z
 .exact n z
 .rw[h] at z;cases z
theorem Step.trans(s:Step W W')(t:Step W' ϟ):Step W ϟ where
 ρ k a h:=t.ρ k a (s.ρ k a h)
 live a h:=by
  rcases t.live a h with z|z
  .exact s.live a z
  .exact .inr (Tp fun n=>s.still a n z)
 keep a o h n:=t.keep a o (s.keep a o h n) (s.nlive h n)
 hid:=t.hid.trans s.hid
 still a h:=t.still a (s.still a h)
theorem Step.nLive(s:Step W W')(h:W.H a=some o)(n:¬qg W a):¬qg W' a:=fun z=>by
 rcases z with z|z
 .exact s.nlive h (fun q=>n<|.inl q) z
 .rw[s.hid] at z;exact n (.inr z)
theorem E7(s:Step W W')(n:¬RL W a)(r:Rd W.H a u):Rd W'.H a u:=by
 rcases r with h|⟨o,h⟩
 .exact .inl (s.keep _ _ h n)
 .exact .inr ⟨o,s.keep _ _ h n⟩
theorem Ok.notup(ok:Ok K W)(r:Rd W.H a (.tup vs)):¬RL W a:=fun⟨k,o,z,F⟩=>by
 obtain⟨a',S,P,L,J⟩:=ok.at_ k o z;rw[F] at P;cases P;rcases r with h|⟨q,h⟩
 .rw[L] at h;cases o with
  |lst ds=>obtain⟨ws,rfl,_⟩:=J;cases h
  |dK kvs=>obtain⟨ws,rfl,_⟩:=J;cases h
  |dN kvs=>obtain⟨ws,rfl,_⟩:=J;cases h
  |ins C fs=>obtain⟨ws,⟨dx,rfl⟩,_⟩:=J;cases h
  |exc C=>cases (show _=_ from J);cases h
 .rw[L] at h;cases o with
  |lst ds=>obtain⟨ws,rfl,_⟩:=J;cases h
  |dK kvs=>obtain⟨ws,rfl,_⟩:=J;cases h
  |dN kvs=>obtain⟨ws,rfl,_⟩:=J;cases h
  |ins C fs=>obtain⟨ws,⟨dx,rfl⟩,_⟩:=J;cases h
  |exc C=>cases (show _=_ from J);cases h
theorem Ei(ok:Ok K W)(s:Step W W'){a:Addr}{vs:ŗ}(h:Wx K W.H a vs):Wx K W'.H a vs:=by
 rcases h with h|h
 .exact .inl (E7 s (ok.notup h) h)
 .exact .inr h
theorem Ok.nofrz(ok:Ok K W)(h:W.H a=some (.frz q u)):¬RL W a:=fun⟨k,o,P,z⟩=>by
 obtain⟨a',S,L,F,J⟩:=ok.at_ k o P;rw[z] at L;cases L;rw[F] at h;cases o with
 |lst ds=>obtain⟨ws,rfl,_⟩:=J;cases h
 |dK kvs=>obtain⟨ws,rfl,_⟩:=J;cases h
 |dN kvs=>obtain⟨ws,rfl,_⟩:=J;cases h
 |ins C fs=>obtain⟨ws,⟨dx,rfl⟩,_⟩:=J;cases h
 |exc C=>cases (show _=_ from J);cases h
theorem Dw(ok:Ok K W)(s:Step W W'){a:Addr}{vs:ŗ}(h:Ρ K W.H a vs):Ρ K W'.H a vs:=by
 rcases h with⟨o,h⟩|h
 .exact .inl ⟨o,s.keep _ _ h<|ok.nofrz h⟩
 .exact .inr h
mutual
theorem DR.step(ok:Ok K W)(s:Step W W'):∀{d:D} {v:V},DR K W d v->DR K W' d v
 |_,_,.non=>.non|_,_,.bl b=>.bl b|_,_,.int i=>.int i|_,_,.str x=>.str x|_,_,.ref h=>.ref (s.ρ _ _ h)|_,_,.lst r n h=>.lst (s.keep _ _ r<|fun z=>n<|.inl z) (s.nLive r n) (V2.step ok s h)|_,_,.scr r h=>.scr (Dw ok s r) (V2.step ok s h)|_,_,.tup r h=>.tup (s.keep _ _ r<|ok.notup<|.inl r) (V2.step ok s h)|_,_,.gt r h=>.gt (Ei ok s r) (V2.step ok s h)
theorem V2.step(ok:Ok K W)(s:Step W W'):∀{ds:List D} {vs:ŗ},V2 K W ds vs->V2 K W' ds vs
 |_,_,.nil=>.nil|_,_,.cons h t=>.cons (h.step ok s) (V2.step ok s t)
end
theorem KR.step(ok:Ok K W)(s:Step W W'){kvs:List (Key×D)}{vs:List (Key×V)}(h:KR K W kvs vs):KR K W' kvs vs:=Paired.mapP h fun _ _ ⟨e,q⟩=>⟨e,q.step ok s⟩
theorem NR.step(ok:Ok K W)(s:Step W W'){kvs:List (NK×D)}{vs:List (NK×V)}(h:NR K W kvs vs):NR K W' kvs vs:=Paired.mapP h fun _ _ ⟨e,q⟩=>⟨e,q.step ok s⟩
theorem FR.step(ok:Ok K W)(s:Step W W'){kvs:List (Str×D)}{vs:Ş}(h:FR K W kvs vs):FR K W' kvs vs:=Paired.mapP h fun _ _ ⟨e,q⟩=>⟨e,q.step ok s⟩
theorem OR.step(ok:Ok K W)(s:Step W W'){a:Addr}{o:Z9}{z:HO}(h:OR K W a o z):OR K W' a o z:=by
 cases o with
 |lst ds=>obtain⟨vs,e,q⟩:=h;exact⟨vs,e,q.step ok s⟩
 |dK kvs=>obtain⟨vs,e,q⟩:=h;exact⟨vs,e,q.step ok s⟩
 |dN kvs=>obtain⟨vs,e,q⟩:=h;exact⟨vs,e,q.step ok s⟩
 |ins C fs=>obtain⟨vs,e,q⟩:=h;exact⟨vs,e,q.step ok s⟩
 |exc C=>exact h
theorem V5.step(e:V5 K W B J)(ok:Ok K W)(s:Step W W'):V5 K W' B J:=⟨e.len,fun i d h=>let ⟨v,a,b⟩:=e.at_ i d h;⟨v,a,b.step ok s⟩⟩
theorem V2.length:∀{ds:List D} {vs:ŗ},V2 K W ds vs->ds.length=vs.length
 |_,_,.nil=>rfl|_,_,.cons _ t=>by simp[t.length]
theorem V2.get:∀{ds:List D} {vs:ŗ} {i:Nat} {d:D},V2 K W ds vs->ds[i]?=some d->∃v,vs[i]?=some v/\DR K W d v
 |_,_,_,_,.nil,e=>by simp at e|_,_,0,_,.cons h _,e=>by simp at e;subst e;exact⟨_,rfl,h⟩|_,_,i+1,d,.cons _ t,e=>by obtain⟨v,J,H⟩:=V2.get (i:=i) (d:=d) t (by simpa using e);exact(⟨v,by simpa using J,H⟩)
theorem V2.append:∀{ds es:List D} {vs us:ŗ},V2 K W ds vs->V2 K W es us->V2 K W (ds++es) (vs++us)
 |_,_,_,_,.nil,s=>s|_,_,_,_,.cons h t,s=>.cons h (V2.append t s)
theorem V2.take:∀{ds:List D} {vs:ŗ} (n:Nat),V2 K W ds vs->V2 K W (ds.take n) (vs.take n)
 |_,_,0,_=>.nil|_,_,_+1,.nil=>.nil|_,_,n+1,.cons r t=>.cons r (V2.take n t)
theorem V2.drop:∀{ds:List D} {vs:ŗ} (n:Nat),V2 K W ds vs->V2 K W (ds.drop n) (vs.drop n)
 |_,_,0,r=>r|_,_,_+1,.nil=>.nil|_,_,n+1,.cons _ t=>V2.drop n t
theorem V2.set(r:DR K W d v):∀{ds:List D} {vs:ŗ} (i:Nat),V2 K W ds vs->V2 K W (ds.set i d) (vs.set i v)
 |_,_,_,.nil=>.nil|_,_,0,.cons _ t=>.cons r t|_,_,i+1,.cons q t=>.cons q (V2.set r i t)
theorem V2.rep(h:V2 K W ds vs):∀n,V2 K W (List.replicate n ds).flatten (List.replicate n vs).flatten
 |0=>.nil|n+1=>by simp only[Ub,Ux];exact h.append (V2.rep h n)
end
section
variable {K:Frag} {W:Wd}
def Wd.lay(W:Wd)(p:Addr)(o:HO):Wd:={W with H:=upd W.H p o}
theorem Ht(ok:Ok K W)(h:W.H p=none):¬RL W p:=fun⟨k,o,_,J⟩=>ok.rs p (T8 J) h
theorem CW(ok:Ok K W)(h:W.H p=none):¬W.hid p:=fun z=>(ok.hd p z).1 h
theorem RJ(ok:Ok K W){p:Addr}(h:W.H p=none):¬qg W p:=fun z=>z.elim (Ht ok h) (CW ok h)
theorem fM{p:Addr}{o:HO}(h:W.H p=none):Step W (W.lay p o) where
 ρ _ _ h:=h
 live _ h:=.inl h
 keep a u e _:=by show upd W.H p o a=_;rw[eG (gA e h)];exact e
 hid:=rfl
 still a n:=by
  show upd W.H p o a≠none;by_cases e:a=p
  .subst e;rw[fL];simp
  .rw[eG e];exact n
theorem gC(ok:Ok K W)(h:W.H p=none):Ok K (W.lay p o) where
 len:=ok.len
 nd:=ok.nd
 rs a m:=(fM h).still a (ok.rs a m)
 at_ k u e:=by obtain⟨a,ho,h1,h2,h3⟩:=ok.at_ k u e;refine(⟨a,ho,h1,?_,h3.step ok<|fM h⟩);show upd W.H p o a=_;rw[eG (gA h2 h)];exact h2
 hd0 a z:=⟨(fM h).still a (ok.hd a z).1,(ok.hd0 a z).2⟩
theorem Ob(ok:Ok K W){p:Addr}{o:HO}(h:W.H p=none):¬qg (W.lay p o) p:=RJ ok h
theorem pW(ok:Ok K W)(h:W.H p=none)(r:V2 K W ds vs):DR K (W.lay p<|.lst vs) (.lst ds) (.ref p):=
 .lst fL (Ob ok h) (r.step ok<|fM h)
theorem kl(ok:Ok K W)(h:W.H p=none)(r:V2 K W ds vs):DR K (W.lay p<|.tup vs) (.tup ds) (.ref p):=
 .tup fL (r.step ok<|fM h)
def Wd.new(W:Wd)(p:Addr)(o:HO)(x:Z9):Wd:={W with H:=upd W.H p o,ρ:=W.ρ++[p],O:=W.O++[some x]}
theorem tW{α:Type}{l:List α}{x y:α}{k:Nat}(h:(l++[x])[k]?=some y):l[k]?=some y\/(k=l.length/\y=x):=by
 by_cases H:k<l.length
 .rw[SM H] at h;exact .inl h
 .rw[Tb ⋯] at h;have:k - l.length=0:=by
   cases e:k - l.length with
   |zero=>rfl|succ n=>rw[e] at h;simp at h
  rw[this] at h;simp at h;exact .inr ⟨by omega,h.symm⟩
theorem Jg(ok:Ok K W){p a:Addr}{o:HO}{x:Z9}(h:RL (W.new p o x) a):RL W a\/a=p:=by
 obtain⟨k,u,J,H⟩:=h;rcases tW J with z|⟨e,_⟩
 .rcases tW H with y|⟨e,y⟩
  .exact .inl ⟨k,u,z,y⟩
  .have:=(Sn.mp z).1;rw[e,ok.len] at this;omega
 .rcases tW H with y|⟨_,y⟩
  .have:=(Sn.mp y).1;rw[e,←ok.len] at this;omega
  .exact .inr y
theorem jK(ok:Ok K W){p:Addr}{o:HO}{x:Z9}(h:W.H p=none):Step W (W.new p o x) where
 ρ k a e:=by show(W.ρ++[p])[k]?=_;rw[SM (Sn.mp e).1];exact e
 live a z:=by
  rcases Jg ok z with z|rfl
  .exact .inl z
  .exact .inr h
 keep a u e _:=by show upd W.H p o a=_;rw[eG (gA e h)];exact e
 hid:=rfl
 still a n:=by
  show upd W.H p o a≠none;by_cases e:a=p
  .subst e;rw[fL];simp
  .rw[eG e];exact n
theorem qf(ok:Ok K W){p:Addr}{o:HO}{x:Z9}(h:W.H p=none)(r:OR K W p x o):Ok K (W.new p o x) where
 len:=by show(W.ρ++[p]).length=(W.O++[some x]).length;simp[ok.len]
 nd:=by show(W.ρ++[p]).Nodup;rw[Uz];refine⟨ok.nd,by simp,fun a ha b hb e=>?_⟩;simp at hb;subst hb e;exact ok.rs _ ha h
 rs a m:=by
  rcases S8.mp m with m|m
  .exact(jK ok h).still a (ok.rs a m)
  .simp at m;subst m;show upd W.H a o a≠none;rw[fL];simp
 at_ k u e:=by
  rcases tW e with e|⟨e,y⟩
  .obtain⟨a,ho,h1,h2,h3⟩:=ok.at_ k u e;refine⟨a,ho,(jK ok h).ρ k a h1,?_,h3.step ok<|jK ok h⟩;show upd W.H p o a=_;rw[eG (gA h2 h)];exact h2
  .cases y;rename_i hk;refine⟨p,o,?_,fL,r.step ok<|jK ok h⟩;show(W.ρ++[p])[k]?=_;rw[hk,←ok.len];simp
 hd0 a z:=by
  refine⟨(jK ok h).still a (ok.hd a z).1,fun q=>?_⟩;have q:a∈W.ρ++[p]:=q;rcases S8.mp q with q|q
  .exact(ok.hd0 a z).2 q
  .simp at q;subst q;exact(ok.hd a z).1 h
theorem pj(ok:Ok K W):DR K (W.new p o x) (.ref W.O.length) (.ref p):=by refine .ref ?_;show(W.ρ++[p])[W.O.length]?=_;rw[←ok.len];simp
def Wd.put(W:Wd)(k:Nat)(a:Addr)(o:HO)(x:Z9):Wd:={W with H:=upd W.H a o,O:=W.O.set k (some x)}
theorem Qq(z:W.O[k]?=some (some y)):RL (W.put k a o x) b↔RL W b:=by
 have L:=(Sn.mp z).1;constructor
 .rintro⟨j,u,H,J⟩;have H:(W.O.set k<|some x)[j]?=some (some u):=H;by_cases e:j=k
  .subst e;exact⟨j,y,z,J⟩
  .rw[S4 (Ne.symm e)] at H;exact⟨j,u,H,J⟩
 .rintro⟨j,u,H,J⟩;by_cases e:j=k
  .subst e;exact⟨j,x,by show(W.O.set j<|some x)[j]?=_;simp[L],J⟩
  .exact⟨j,u,by show(W.O.set k<|some x)[j]?=_;rw[S4 (Ne.symm e)];exact H,J⟩
theorem ln(hk:W.O[k]?=some (some y))(ha:W.ρ[k]?=some a):Step W (W.put k a o x) where
 ρ _ _ h:=h
 live b z:=.inl ((Qq hk).mp z)
 keep b u e n:=by have Wz:b≠a:=fun z=>n (by rw[z];exact⟨k,y,hk,ha⟩);show upd W.H a o b=_;rw[eG Wz];exact e
 hid:=rfl
 still b n:=by
  show upd W.H a o b≠none;by_cases e:b=a
  .subst e;rw[fL];simp
  .rw[eG e];exact n
theorem qV(ok:Ok K W)(hk:W.O[k]?=some (some y))(ha:W.ρ[k]?=some a)(r:OR K W a x o):Ok K (W.put k a o x) where
 len:=by show W.ρ.length=(W.O.set k<|some x).length;simp[ok.len]
 nd:=ok.nd
 rs b m:=(ln hk ha).still b (ok.rs b m)
 at_ j u e:=by
  have e:(W.O.set k<|some x)[j]?=some (some u):=e;by_cases z:j=k
  .subst z;have hlt:=(Sn.mp hk).1;simp[hlt] at e;subst e;exact⟨a,o,ha,fL,r.step ok<|ln hk ha⟩
  .rw[S4 (Ne.symm z)] at e;obtain⟨b,ho,h1,h2,h3⟩:=ok.at_ j u e;refine(⟨b,ho,h1,?_,h3.step ok<|ln hk ha⟩);have Wz:b≠a:=fun q=>z (DN ok.nd h1 (by rw[q];exact ha));show upd W.H a o b=_;rw[eG Wz];exact h2
 hd0 b z:=⟨(ln hk ha).still b (ok.hd b z).1,(ok.hd0 b z).2⟩
def Wd.frz(W:Wd)(k:Nat):Wd:={W with O:=W.O.set k none}
theorem Bo(h:RL (W.frz k) b):RL W b/\∀a,W.ρ[k]?=some a->W.ρ.Nodup->b≠a:=by
 obtain⟨j,u,H,L⟩:=h;have H:(W.O.set k none)[j]?=some (some u):=H;by_cases e:j=k
 .subst e;by_cases J:j<W.O.length
  .simp[J] at H
  .rw[List.getElem?_eq_none_iff.mpr (by simpa using J)] at H;cases H
 .rw[S4 (Ne.symm e)] at H;exact⟨⟨j,u,H,L⟩,fun a P nd z=>e<|DN nd (show W.ρ[j]?=some b from L)<|z▸P⟩
theorem vG:Step W (W.frz k) where
 ρ _ _ h:=h
 live b z:=.inl (Bo z).1
 keep b u e _:=e
 hid:=rfl
 still b n:=n
theorem MX(ok:Ok K W):Ok K (W.frz k) where
 len:=by show W.ρ.length=(W.O.set k none).length;simp[ok.len]
 nd:=ok.nd
 rs:=ok.rs
 at_ j u e:=by
  have e:(W.O.set k none)[j]?=some (some u):=e;by_cases z:j=k
  .subst z;by_cases hl:j<W.O.length
   .simp[hl] at e
   .rw[List.getElem?_eq_none_iff.mpr (by simpa using hl)] at e;cases e
  .rw[S4 (Ne.symm z)] at e;obtain⟨b,ho,h1,h2,h3⟩:=ok.at_ j u e;exact(⟨b,ho,h1,h2,h3.step ok vG⟩)
 hd0 b z:=⟨(ok.hd b z).1,(ok.hd0 b z).2⟩
theorem Kv(ok:Ok K W)(F:W.O[k]?=some (some<|.lst ds))(h:DR K W (.ref k) v):DR K (W.frz k) (.lst ds) v:=by
 cases h with
 |ref H=>
  obtain⟨S,P,J,L,vs,rfl,r⟩:=ok.at_ k _ F;rw[H] at J;cases J;refine(.lst L (fun z=>?_)<|r.step ok vG);rcases z with z|z
  .exact(Bo z).2 _ H ok.nd rfl
  .exact(ok.hd _ z).2 ⟨k,_,F,H⟩
def Wd.hide(W:Wd)(p:Addr)(o:HO):Wd:={W with H:=upd W.H p o,hid:=fun a=>a=p\/W.hid a}
end
abbrev EV:=G->M->Fr
abbrev BV:=G->M->ş
abbrev LV:=G->M->Option (List D×M)
inductive Out where
 |nx|bk|ct|rt (d:D)
abbrev SV:=G->M->Option (Out×G×M)
section
variable (K:Frag)
def tD(ev:EV):TE:=fun J H Q=>∃(W:Wd) (B:G) (d:D) (Z6:M),W.H=H/\Ok K W/\V5 K W B J/\ev B W.O=some (d,Z6)/\∀v W',W'.O=Z6->Ok K W'->Step W W'->DR K W' d v->Q v W'.H
def WO(ev:BV):TT:=fun J H Q=>∃(W:Wd) (B:G) (b:Bool) (Z6:M),W.H=H/\Ok K W/\V5 K W B J/\ev B W.O=some (b,Z6)/\∀W',W'.O=Z6->Ok K W'->Step W W'->Q b W'.H
def X6(ev:LV):TA:=fun J H Q=>∃(W:Wd) (B:G) (ds:List D) (Z6:M),W.H=H/\Ok K W/\V5 K W B J/\ev B W.O=some (ds,Z6)/\∀vs W',W'.O=Z6->Ok K W'->Step W W'->V2 K W' ds vs->Q vs W'.H
def fin(D:Ends)(W':Wd)(z:St):Out->Prop
 | .nx=>D.nx z W'.H| .bk=>D.bk z W'.H| .ct=>D.ct z W'.H| .rt d=>∀v,DR K W' d v->D.rt v W'.H
def XI(es:SV):TS:=fun D J H=>∃(W:Wd) (B:G) (out:Out) (L:G) (Z6:M),W.H=H/\Ok K W/\V5 K W B J/\es B W.O=some (out,L,Z6)/\∀W' P,W'.O=Z6->Ok K W'->Step W W'->V5 K W' L P->fin K D W' P out
end
section
variable {X:Cx} {e:Expr}
theorem eK(h:PE X e t)(hi:∀J H Q,t' J H Q->t J H Q):PE X e t':=fun pins s J H Q I L=>h pins s J H Q I (hi _ _ _ L)
theorem j1(h:PT X e t)(hi:∀J H Q,t' J H Q->t J H Q):PT X e t':=fun pins s J H Q I L=>h pins s J H Q I (hi _ _ _ L)
theorem Ar(h:PW X e t)(hi:∀J H Q,t' J H Q->t J H Q):PW X e t':=fun L pins s J H Q I P=>h L pins s J H Q I (hi _ _ _ P)
theorem tL(h:PA X es t)(hi:∀J H Q,t' J H Q->t J H Q):PA X es t':=fun pos pins s J H Q I L=>h pos pins s J H Q I (hi _ _ _ L)
theorem gk(h:PS X st t)(hi:∀D J H,t' D J H->t D J H):PS X st t':=fun pins s J H D I L=>h pins s J H D I (hi _ _ _ L)
theorem pT(h:Wo X st t)(hi:∀D J H,t' D J H->t D J H):Wo X st t':=fun pins s J H D I L=>h pins s J H D I (hi _ _ _ L)
end
def Wc{α β:Type}{x:Option α}{f:α->Option β}{b:β}(h:x.bind f=some b):∃a,x=some a/\f a=some b:=UZ.mp h
def Wf{α:Type}{p:Wd->Prop}{q:Wd->G->Prop}{r s:Wd->G->α->M->Prop}{Z:Prop}{H:Hp}(h:∃(W:Wd) (B:G) (d:α) (Z6:M),W.H=H/\p W/\q W B/\r W B d Z6/\s W B d Z6)(k:∀W B d Z6,W.H=H->p W->q W B->r W B d Z6->s W B d Z6->Z):Z:=by obtain⟨W,B,d,Z6,rfl,a,b,c,e⟩:=h;exact(k W B d Z6 rfl a b c e)
def XE{α β:Type}{p:Wd->Prop}{q:Wd->G->Prop}{r s:Wd->G->α->β->M->Prop}{Z:Prop}{H:Hp}(h:∃(W:Wd) (B:G) (d:α) (b:β) (Z6:M),W.H=H/\p W/\q W B/\r W B d b Z6/\s W B d b Z6)(k:∀W B d b Z6,W.H=H->p W->q W B->r W B d b Z6->s W B d b Z6->Z):Z:=by obtain⟨W,B,d,x,Z6,rfl,a,b,c,e⟩:=h;exact(k W B d x Z6 rfl a b c e)
def dF{α β:Type}{x:Option α}{f:α->Option β}{b:β}{Z:Prop}(h:x.bind f=some b)(k:∀a,x=some a->f a=some b->Z):Z:=by obtain⟨a,h1,H⟩:=Wc h;exact(k a h1 H)
def fq(O:M):D->Option (List D)
 | .lst ds=>some ds| .scr ds=>some ds| .ref k=>match O[k]? with
  |some (some<|.lst ds)=>some ds|_=>none
 |_=>none
def j3(O:M):D->Option (List D)
 | .lst ds=>some ds| .ref k=>match O[k]? with
  |some (some<|.lst ds)=>some ds|_=>none
 |_=>none
def iz:D->Option (List D)
 | .tup ds=>some ds| .gt ds=>some ds|_=>none
section
variable {K:Frag} {W:Wd} {d:D} {ds:List D} {v:V}
theorem lJ(ok:Ok K W)(h:W.O[k]?=some (some<|.lst ds))(r:DR K W (.ref k) v):∃a vs,v=.ref a/\W.ρ[k]?=some a/\W.H a=some (.lst vs)/\V2 K W ds vs:=by
 cases r with
 |ref J=>
  obtain⟨F,z,L,P,vs,rfl,r⟩:=ok.at_ k _ h;rw[J] at L;cases L;exact(⟨_,vs,rfl,J,P,r⟩)
theorem rS(ok:Ok K W)(h:j3 W.O d=some ds)(r:DR K W d v):∃a vs,v=.ref a/\W.H a=some (.lst vs)/\V2 K W ds vs:=by
 cases d with
 |lst xs=>
  cases h;cases r with
  |lst r n h=>exact⟨_,_,rfl,r,h⟩
 |ref k=>
  simp only[j3] at h;split at h
  .rename_i xs J;cases h;obtain⟨a,vs,e,_,P,L⟩:=lJ ok J r;exact(⟨a,vs,e,P,L⟩)
  .cases h
 |_=>cases h
theorem i5(ok:Ok K W)(h:fq W.O d=some ds)(r:DR K W d v):∃a vs,v=.ref a/\WE K W.H a vs/\V2 K W ds vs:=by
 cases d with
 |lst xs=>
  cases h;cases r with
  |lst r n h=>exact⟨_,_,rfl,WE.of r,h⟩
 |scr xs=>
  cases h;cases r with
  |scr r h=>exact⟨_,_,rfl,r.seq,h⟩
 |ref k=>
  simp only[fq] at h;split at h
  .rename_i xs J;cases h;obtain⟨a,vs,e,_,P,L⟩:=lJ ok J r;exact(⟨a,vs,e,WE.of P,L⟩)
  .cases h
 |_=>cases h
theorem jM(h:iz d=some ds)(r:DR K W d v):∃a vs,v=.ref a/\Wx K W.H a vs/\V2 K W ds vs:=by
 cases d with
 |tup xs=>
  cases h;cases r with
  |tup r h=>exact⟨_,_,rfl,Wx.of r,h⟩
 |gt xs=>
  cases h;cases r with
  |gt r h=>exact⟨_,_,rfl,r,h⟩
 |_=>cases h
theorem CP(r:V2 K W ds vs)(h:W9 ds i=some d):∃v,W9 vs i=some v/\DR K W d v:=by unfold W9 at h⊢;refine dF h fun j H J=>?_;rw[r.length] at H;obtain⟨v,e,q⟩:=r.get J;exact⟨v,by rw[H];exact e,q⟩
end
def be(i:Nat):EV:=fun B O=>match B[i]? with
 |some (some d)=>some (d,O)|_=>none
def vC(d:D):EV:=fun _ O=>some (d,O)
def v2(f:D->D->M->Fr)(ea eb:EV):EV:=fun B O=>(ea B O).bind fun p=>(eb B p.2).bind fun q=>f p.1 q.1 q.2
def v1(f:D->M->Fr)(ea:EV):EV:=fun B O=>(ea B O).bind fun p=>f p.1 p.2
def W8(K:Frag)(r:R2)(f:D->D->M->Fr):Prop:=∀(W:Wd) (x y:V) (d e z:D) (Z6:M) (Q:VK),Ok K W->DR K W d x->DR K W e y->f d e W.O=some (z,Z6)->
 (∀v W',W'.O=Z6->Ok K W'->Step W W'->DR K W' z v->Q v W'.H)->r x y W.H Q
def K'(K:Frag)(r:V->Hp->VK->Prop)(f:D->M->Fr):Prop:=∀(W:Wd) (x:V) (d z:D) (Z6:M) (Q:VK),Ok K W->DR K W d x->f d W.O=some (z,Z6)->
 (∀v W',W'.O=Z6->Ok K W'->Step W W'->DR K W' z v->Q v W'.H)->r x W.H Q
def vT(ev:EV):BV:=fun B O=>(ev B O).bind fun p=>match p.1 with
 | .bl b=>some (b,p.2)|_=>none
section
variable {X:Cx} {K:Frag} {a b:Expr} {ea eb:EV} {pos:Pos}
theorem dy(i:Nat)(S:X.N[i]?=some x:=by rfl)(z:Ϡ X.env.scope x:=by first|exact Or.inl rfl|exact Or.inr (Or.inl rfl)|exact Or.inr (Or.inr rfl))(hd:Xm x:=by decide)
  (F:(x==("__classdict__":Str))=false:=by decide):PE X (.Name x pos) (tD K<|be i):=eK (Ah S z hd F) fun J H Q h=>by
 refine Wf h fun W B d Z6 L ok en e q=>?_;subst L;unfold be at e;split at e
 .rename_i P hd;cases e;obtain⟨v,z,r⟩:=en.at_ i _ hd;exact(⟨v,z,q v W rfl ok .refl r⟩)
 .cases e
theorem p0{d:D}{v:V}(h:∀W,DR K W d v):∀J H Q,tD K (vC d) J H Q->tC v J H Q:=fun J H Q L=>by obtain⟨W,B,d,Z6,rfl,ok,en,e,q⟩:=L;cases e;exact(q v W rfl ok .refl (h W))
theorem dM{i j}:PE X (.Constant (.int i) j pos) (tD K<|vC<|.int i):=eK AA (p0 fun _=>.int i)
theorem gn{b j}:PE X (.Constant (.bool b) j pos) (tD K<|vC<|.bl b):=eK Kt (p0 fun _=>.bl b)
theorem g9{j}:PE X (.Constant .none j pos) (tD K<|vC .non):=eK N1 (p0 fun _=>.non)
theorem gq{x j}:PE X (.Constant (.str x) j pos) (tD K<|vC<|.str x):=eK DE (p0 fun _=>.str x)
theorem i8{x:Str}{d:D}{v:V}{u:Value}(hm:X.mg x=some u)(r:RelV v u)(h:∀W,DR K W d v)(z:Gl X x:=by rfl)(hd:Xm x:=by decide):PE X (.Name x pos) (tD K<|vC d):=eK (F7 z hm r hd) (p0 h)
theorem l6(ra:W8 K r f):∀J H Q,tD K (v2 f ea eb) J H Q->ql r (tD K ea) (tD K eb) J H Q:=fun J H Q h=>by refine Wf h fun W B d Z6 eH ok en e q=>?_;subst eH;refine dF e fun p1 e1 e=>?_;refine dF e fun F e2 e=>?_;refine⟨W,B,p1.1,p1.2,rfl,ok,en,e1,fun x W1 Z2 L s1 r1=>⟨W1,B,F.1,F.2,rfl,L,en.step ok s1,by rw[Z2];exact e2,fun y W2 ZV z s2 r2=>?_⟩⟩;exact ra W2 x y _ _ _ _ Q z (r1.step L s2) r2 (by rw[ZV];exact e) fun v W3 ZS P S r3=>q v W3 ZS P ((s1.trans s2).trans S) r3
theorem jJ{r:V->Hp->VK->Prop}{f:D->M->Fr}(F:K' K r f):∀J H Q,tD K (v1 f ea) J H Q->(fun J H Q=>tD K ea J H fun x H1=>r x H1 Q:TE) J H Q:=fun J H Q h=>by refine Wf h fun W B d Z6 eH ok en e q=>?_;subst eH;refine dF e fun p1 e1 e=>?_;refine⟨W,B,p1.1,p1.2,rfl,ok,en,e1,fun x W1 Z2 P s1 r1=>?_⟩;exact F W1 x _ _ _ Q P r1 (by rw[Z2];exact e) fun v W3 ZS L z S=>q v W3 ZS L (s1.trans z) S
theorem nO(F:Wh X (binaryOp op) r)(z:W8 K r f)(ha:PE X a (tD K ea))(S:PE X b (tD K eb)):PE X (.BinOp a op b pos) (tD K<|v2 f ea eb):=eK (JF F ha S) (l6 z)
theorem vm(F:Wh X (compareOp op) r)(z:W8 K r f)(ha:PE X a (tD K ea))(S:PE X b (tD K eb))(hm:behindInMarks op b=false):PE X (.Compare a [op] [b] pos) (tD K<|v2 f ea eb):=eK (N7 F ha S hm) (l6 z)
theorem sQ(h:∀J H Q,tD K ea J H Q->t J H Q):∀J H Q,WO K (vT ea) J H Q->qX t J H Q:=fun J H Q F=>by
 obtain⟨W,B,k,Z6,rfl,ok,en,e,q⟩:=F;refine dF e fun p1 e1 e=>?_;refine(h J _ _ ⟨W,B,p1.1,p1.2,rfl,ok,en,e1,fun x W1 S L s1 P=>?_⟩);split at e
 .rename_i k' z;cases e;rw[z] at P;cases P;exact⟨_,rfl,q W1 S L s1⟩
 .cases e
theorem lV(F:Wh X (compareOp op) r)(z:W8 K r f)(ha:PE X a (tD K ea))(S:PE X b (tD K eb))(hm:behindInMarks op b=false):PT X (.Compare a [op] [b] pos) (WO K<|vT<|v2 f ea eb):=j1 (zg F ha S hm) (sQ<|l6 z)
end
def X8(g:Int->Int->D):D->D->M->Fr
 | .int i,.int j,O=>some (g i j,O)|_,_,_=>none
def fI(C:Int->Int->Prop) [∀i j,Decidable (C i j)](g:Int->Int->D):D->D->M->Fr
 | .int i,.int j,O=>if C i j then some (g i j,O) else none|_,_,_=>none
section
variable {K:Frag}
theorem lq(F:∀W i j,DR K W (h i j)<|g i j):W8 K (fx g) (X8 h):=by
 intro W x y d e z Z6 Q ok L J H q;unfold X8 at H;split at H
 .cases H;cases L;cases J;exact⟨_,_,rfl,rfl,q _ W rfl ok .refl (F W _ _)⟩
 .cases H
theorem rm [∀i j,Decidable (C i j)](F:∀W i j,DR K W (h i j)<|g i j):W8 K (rI C g) (fI C h):=by
 intro W x y d e z Z6 Q ok L J H q;unfold fI at H;split at H
 .split at H
  .rename_i P;cases H;cases L;cases J;exact⟨_,_,rfl,rfl,P,q _ W rfl ok .refl (F W _ _)⟩
  .cases H
 .cases H
end
noncomputable instance{i j:Int}:Decidable (XR i j):=by unfold XR;infer_instance
noncomputable instance{i j:Int}:Decidable (jZ i j):=by unfold jZ;infer_instance
def mq(_ j:Int):Prop:=0<j/\j<2^200
def jg(_ j:Int):Prop:=0<j
noncomputable instance{i j:Int}:Decidable (mq i j):=by unfold mq;infer_instance
noncomputable instance{i j:Int}:Decidable (jg i j):=by unfold jg;infer_instance
section
variable {X:Cx} {K:Frag} {a b c:Expr} {ea eb:EV} {pos:Pos}
abbrev qI:=X8 fun i j=>.int (i+j)
abbrev ip:=X8 fun i j=>.int (i - j)
abbrev uJ:=fI mq fun i j=>.int (i/j)
abbrev lO:=fI jg fun i j=>.int (i%j)
abbrev m9:=fI jZ fun i j=>.int (i^j.toNat)
abbrev Xe:=X8 fun i j=>.bl (decide (i<j))
abbrev aa:=X8 fun i j=>.bl (decide (i<=j))
abbrev Yk:=X8 fun i j=>.bl (decide (j<i))
abbrev fGe:=X8 fun i j=>.bl (decide (j<=i))
theorem i4(F:PE X a (tD K ea))(z:PE X b (tD K eb)):PE X (.BinOp a .Sub b pos) (tD K<|v2 ip ea eb):=nO Hr (lq fun _ _ _=>.int _) F z
theorem BW(F:PE X a (tD K ea))(z:PE X b (tD K eb)):PE X (.BinOp a .FloorDiv b pos) (tD K<|v2 uJ ea eb):=nO R3 (rm (C:=mq) fun _ _ _=>.int _) F z
theorem pK(F:PE X a (tD K ea))(z:PE X b (tD K eb)):PE X (.BinOp a .Mod b pos) (tD K<|v2 lO ea eb):=nO J1 (rm (C:=jg) fun _ _ _=>.int _) F z
theorem rq(F:PE X a (tD K ea))(z:PE X b (tD K eb)):PE X (.BinOp a .Pow b pos) (tD K<|v2 m9 ea eb):=nO Op (rm fun _ _ _=>.int _) F z
theorem pX(F:PE X a (tD K ea))(z:PE X b (tD K eb)):PT X (.Compare a [.Lt] [b] pos) (WO K<|vT<|v2 Xe ea eb):=lV nX (lq fun _ _ _=>.bl _) F z (jX _)
theorem nl(F:PE X a (tD K ea))(z:PE X b (tD K eb)):PT X (.Compare a [.Gt] [b] pos) (WO K<|vT<|v2 Yk ea eb):=lV G9 (lq fun _ _ _=>.bl _) F z (jX _)
def jV:D->M->Fr
 | .int i,O=>some (.int (-i),O)|_,_=>none
theorem C5(F:PE X a (tD K ea)):PE X (.UnaryOp .USub a pos) (tD K<|v1 jV ea):=eK (zX Ag F) (jJ (by
 intro W x d z Z6 Q ok J H q;unfold jV at H;split at H
 .cases H;cases J;exact⟨_,rfl,q _ W rfl ok .refl (.int _)⟩
 .cases H))
def j4(t u:BV):BV:=fun B O=>(t B O).bind fun p=>if p.1=true then u B p.2 else some (false,p.2)
def Yd(t u:BV):BV:=fun B O=>(t B O).bind fun p=>if p.1=true then some (true,p.2) else u B p.2
def gO(t:BV):BV:=fun B O=>(t B O).bind fun p=>some (!p.1,p.2)
variable {ba bb:BV} {eE:Ř}
theorem OT:∀J H Q,WO K (j4 ba bb) J H Q->zu (WO K ba) (WO K bb) J H Q:=fun J H Q h=>by
 refine Wf h fun W B k Z6 eH ok en e q=>?_;subst eH;refine dF e fun p1 e1 e=>?_;refine⟨W,B,p1.1,p1.2,rfl,ok,en,e1,fun S F L s1=>?_⟩;split at e
 .rename_i z;rw[if_pos z];exact⟨S,B,k,Z6,rfl,L,en.step ok s1,by rw[F];exact e,fun W2 ZV P s2=>q W2 ZV P<|s1.trans s2⟩
 .rename_i z;cases e;rw[if_neg z];exact q S F L s1
theorem LI:∀J H Q,WO K (Yd ba bb) J H Q->Ě (WO K ba) (WO K bb) J H Q:=fun J H Q h=>by
 refine Wf h fun W B k Z6 eH ok en e q=>?_;subst eH;refine dF e fun p1 e1 e=>?_;refine⟨W,B,p1.1,p1.2,rfl,ok,en,e1,fun S F L s1=>?_⟩;split at e
 .rename_i z;cases e;rw[if_pos z];exact q S F L s1
 .rename_i z;rw[if_neg z];exact⟨S,B,k,Z6,rfl,L,en.step ok s1,by rw[F];exact e,fun W2 ZV P s2=>q W2 ZV P<|s1.trans s2⟩
theorem zx(z:PT X a (WO K ba)):PW X (.BoolOp .And [a] pos) (WO K ba):=Rr z
theorem lN(z:PT X a (WO K ba)):PW X (.BoolOp .Or [a] pos) (WO K ba):=He z
theorem zY(F:PT X a (WO K ba))(z:PW X (.BoolOp .And (b::eE) pos) (WO K bb)):PW X (.BoolOp .And (a::b::eE) pos) (WO K<|j4 ba bb):=Ar (LW F z) OT
theorem lM(F:PT X a (WO K ba))(z:PW X (.BoolOp .Or (b::eE) pos) (WO K bb)):PW X (.BoolOp .Or (a::b::eE) pos) (WO K<|Yd ba bb):=Ar (F9 F z) LI
theorem jR(z:PT X a (WO K ba)):PT X (.UnaryOp .Not a pos) (WO K<|gO ba):=j1 (yP z) fun J H Q h=>by refine Wf h fun W B k Z6 P ok en e q=>?_;subst P;refine dF e fun p1 e1 e=>?_;cases e;exact⟨W,B,p1.1,p1.2,rfl,ok,en,e1,fun S F L s1=>q S F L s1⟩
def YJ(t:BV)(ea eb:EV):EV:=fun B O=>(t B O).bind fun p=>if p.1=true then ea B p.2 else eb B p.2
theorem oP(hc:PT X c (WO K ba))(ha:PE X a (tD K ea))(hb:PE X b (tD K eb)):PE X (.IfExp c a b pos) (tD K<|YJ ba ea eb):=eK (Je hc ha hb) fun J H Q h=>by
 refine Wf h fun W B d Z6 eH ok en e q=>?_;subst eH;refine dF e fun p1 e1 e=>?_;refine⟨W,B,p1.1,p1.2,rfl,ok,en,e1,fun W1 Z2 P s1=>?_⟩;split at e
 .rename_i F;rw[if_pos F];exact⟨W1,B,d,Z6,rfl,P,en.step ok s1,by rw[Z2];exact e,fun v W2 S L s2 z=>q v W2 S L (s1.trans s2) z⟩
 .rename_i F;rw[if_neg F];exact⟨W1,B,d,Z6,rfl,P,en.step ok s1,by rw[Z2];exact e,fun v W2 S L s2 z=>q v W2 S L (s1.trans s2) z⟩
def k8(ea eb:EV):EV:=fun B O=>(ea B O).bind fun p=>match p.1 with
 | .bl true=>eb B p.2| .bl false=>some (.bl false,p.2)|_=>none
def Ω(ea eb:EV):EV:=fun B O=>(ea B O).bind fun p=>match p.1 with
 | .bl true=>some (.bl true,p.2)| .bl false=>eb B p.2|_=>none
def zp:D->M->Fr
 | .bl b,O=>some (.bl (!b),O)|_,_=>none
theorem sS{op}(h:PE X a (tD K ea)):PE X (.BoolOp op [a] pos) (tD K ea):=I0 h
theorem mJ(ha:PE X a (tD K ea))(hb:PE X (.BoolOp .And (b::eE) pos) (tD K eb)):PE X (.BoolOp .And (a::b::eE) pos) (tD K<|k8 ea eb):=eK (Ff ha hb) fun J H Q h=>by
 refine Wf h fun W B d Z6 eH ok en e q=>?_;subst eH;refine dF e fun p1 e1 e=>?_;refine⟨W,B,p1.1,p1.2,rfl,ok,en,e1,fun x W1 S L s1 P=>?_⟩;split at e
 .rename_i F;rw[F] at P;cases P;exact⟨true,rfl,uL ⟨W1,B,d,Z6,rfl,L,en.step ok s1,by rw[S];exact e,fun v W2 ZV z s2 r2=>q v W2 ZV z (s1.trans s2) r2⟩⟩
 .rename_i F;rw[F] at P;cases P;cases e;exact⟨false,rfl,vo<|q _ W1 S L s1<|.bl _⟩
 .cases e
theorem OU(ha:PE X a (tD K ea))(hb:PE X (.BoolOp .Or (b::eE) pos) (tD K eb)):PE X (.BoolOp .Or (a::b::eE) pos) (tD K<|Ω ea eb):=eK (PX ha hb) fun J H Q h=>by
 refine Wf h fun W B d Z6 eH ok en e q=>?_;subst eH;refine dF e fun p1 e1 e=>?_;refine⟨W,B,p1.1,p1.2,rfl,ok,en,e1,fun x W1 S L s1 P=>?_⟩;split at e
 .rename_i F;rw[F] at P;cases P;cases e;exact⟨true,rfl,uL<|q _ W1 S L s1<|.bl _⟩
 .rename_i F;rw[F] at P;cases P;exact⟨false,rfl,vo ⟨W1,B,d,Z6,rfl,L,en.step ok s1,by rw[S];exact e,fun v W2 ZV z s2 r2=>q v W2 ZV z (s1.trans s2) r2⟩⟩
 .cases e
end
def optAll{α β:Type}(f:α->Option β):List α->Option (List β)
 | []=>some []|x::r=>(f x).bind fun y=>(optAll f r).bind fun ys=>some (y::ys)
section
variable {X:Cx} {K:Frag} {a b e:Expr} {ea eb:EV} {pos p:Pos} {es:Ř} {el:LV}
def dD:LV:=fun _ O=>some ([],O)
def dz(ea:EV)(el:LV):LV:=fun B O=>(ea B O).bind fun p=>(el B p.2).bind fun q=>some (p.1::q.1,q.2)
theorem dG:PA X [] (X6 K dD):=tL fV fun J H Q h=>by refine Wf h fun W B ds Z6 L ok en e q=>?_;subst L;cases e;exact q [] W rfl ok .refl .nil
theorem Rq:∀J H Q,X6 K (dz ea el) J H Q->gJ (tD K ea) (X6 K el) J H Q:=fun J H Q h=>by refine Wf h fun W B ds Z6 eH ok en e q=>?_;subst eH;refine dF e fun p1 e1 e=>?_;refine dF e fun z e2 e=>?_;cases e;exact⟨W,B,p1.1,p1.2,rfl,ok,en,e1,fun x W1 Z2 L s1 S=>⟨W1,B,z.1,z.2,rfl,L,en.step ok s1,by rw[Z2];exact e2,fun vs W2 ZV P s2 F=>q _ W2 ZV P (s1.trans s2)<|.cons (S.step L s2) F⟩⟩
theorem dB(S:PE X e (tD K ea))(F:PA X es (X6 K el))(z:X9 X e es:=by rfl):PA X (e::es) (X6 K<|dz ea el):=tL (fE S F z) Rq
def ϸ(K:Frag)(r:ŗ->Hp->VK->Prop)(f:C0):Prop:=∀(W:Wd) (xs:ŗ) (ds:List D) (z:D) (Z6:M) (Q:VK),Ok K W->V2 K W ds xs->f ds W.O=some (z,Z6)->
 (∀v W',W'.O=Z6->Ok K W'->Step W W'->DR K W' z v->Q v W'.H)->r xs W.H Q
def vL(f:C0)(el:LV):EV:=fun B O=>(el B O).bind fun p=>f p.1 p.2
theorem si(F:ϸ K r f):∀J H Q,tD K (vL f el) J H Q->(fun J H Q=>X6 K el J H fun vs H1=>r vs H1 Q:TE) J H Q:=fun J H Q h=>by refine Wf h fun W B d Z6 eH ok en e q=>?_;subst eH;refine dF e fun p1 e1 e=>?_;exact⟨W,B,p1.1,p1.2,rfl,ok,en,e1,fun vs W1 Z2 P s1 r1=>F W1 vs _ _ _ Q P r1 (by rw[Z2];exact e) fun v W3 ZS L z S=>q v W3 ZS L (s1.trans z) S⟩
def eQ(ds:List D)(O:M):Fr:=if ds.length<=1000 then some (.lst ds,O) else none
def eS(ds:List D)(O:M):Fr:=if ds.length<=1000 then some (.tup ds,O) else none
def io(ds:List D)(O:M):Fr:=if ds.length<=1000 then some (.ref O.length,O++[some (.lst ds)]) else none
theorem Lz:ϸ K (fun xs H1 Q=>xs.length<=sizeLine/\∀p,H1 p=none->Q (.ref p) (upd H1 p<|.lst xs)) eQ:=by
 intro W xs ds z Z6 Q ok r H q;unfold eQ at H;split at H
 .rename_i L;cases H;exact⟨kC (by rw[←r.length];omega),fun p J=>q _ (W.lay p<|.lst xs) rfl (gC ok J) (fM J) (pW ok J r)⟩
 .cases H
theorem E6:ϸ K (fun xs H1 Q=>xs.length<=sizeLine/\∀p,H1 p=none->Q (.ref p) (upd H1 p<|.tup xs)) eS:=by
 intro W xs ds z Z6 Q ok r H q;unfold eS at H;split at H
 .rename_i L;cases H;exact⟨kC (by rw[←r.length];omega),fun p J=>q _ (W.lay p<|.tup xs) rfl (gC ok J) (fM J) (kl ok J r)⟩
 .cases H
theorem HQ:ϸ K (fun xs H1 Q=>xs.length<=sizeLine/\∀p,H1 p=none->Q (.ref p) (upd H1 p<|.lst xs)) io:=by
 intro W xs ds z Z6 Q ok r H q;unfold io at H;split at H
 .rename_i L;cases H;exact⟨kC (by rw[←r.length];omega),fun p J=>q _ (W.new p (.lst xs)<|.lst ds) rfl (qf ok J ⟨xs,rfl,r⟩) (jK ok J) (pj ok)⟩
 .cases H
theorem fm(h:PA X es (X6 K el)):PE X (.List es pos) (tD K<|vL eQ el):=eK (AZ h) (si Lz)
theorem qd(h:PA X es (X6 K el)):PE X (.List es pos) (tD K<|vL io el):=eK (AZ h) (si HQ)
theorem fu{k}(h:PA X es (X6 K el)):PE X (.Tuple es k pos) (tD K<|vL eS el):=eK (FQ h) (si E6)
def V6(x y:D)(O:M):Fr:=match y with
 | .int i=>match fq O x with
  |some ds=>(W9 ds i).bind fun d=>some (d,O)|none=>match iz x with
   |some ds=>(W9 ds i).bind fun d=>some (d,O)|none=>none
 |_=>none
theorem Me:W8 K (Ğ K) V6:=by
 intro W x y d e z Z6 Q ok r1 r2 H q;unfold V6 at H;split at H
 .cases r2;split at H
  .rename_i ds hd;refine dF H fun u F H=>?_;cases H;obtain⟨a,vs,rfl,S,P⟩:=i5 ok hd r1;obtain⟨v,L,J⟩:=CP P F;exact(.inl ⟨a,vs,_,v,rfl,rfl,S,L,q v W rfl ok .refl J⟩)
  .split at H
   .rename_i ds hd;refine dF H fun u F H=>?_;cases H;obtain⟨a,vs,rfl,S,P⟩:=jM hd r1;obtain⟨v,L,J⟩:=CP P F;exact(.inr<|.inl ⟨a,vs,_,v,rfl,rfl,S,L,q v W rfl ok .refl J⟩)
   .cases H
 .cases H
theorem eO(S:PE X a (tD K ea))(F:PE X b (tD K eb))(z:z7 b:=by exact fun _ _=>rfl)(hK:X.K=K:=by rfl):PE X (.Subscript a b pos) (tD K<|v2 V6 ea eb):=by subst hK;exact eK (ME GZ S F z) (l6 Me)
abbrev OV:=G->M->Option (Option Int×M)
def lH:OV:=fun _ O=>some (none,O)
def iS(ea:EV):OV:=fun B O=>(ea B O).bind fun p=>match p.1 with
 | .int i=>some (some i,p.2)|_=>none
def ϣ(K:Frag)(ev:OV):TO:=fun J H Q=>∃(W:Wd) (B:G) (b:Ŕ) (Z6:M),W.H=H/\Ok K W/\V5 K W B J/\ev B W.O=some (b,Z6)/\∀W',W'.O=Z6->Ok K W'->Step W W'->Q b W'.H
theorem CZ(h:PO X o t)(hi:∀J H Q,t' J H Q->t J H Q):PO X o t':=fun pins s J H Q I L=>h pins s J H Q I (hi _ _ _ L)
theorem se:PO X none (ϣ K lH):=CZ JV fun J H Q h=>by refine Wf h fun W B b Z6 L ok en e q=>?_;subst L;cases e;exact q W rfl ok .refl
theorem kF(h:PE X e (tD K ea)):PO X (some e) (ϣ K<|iS ea):=CZ (LR h) fun J H Q h=>by
 refine Wf h fun W B b Z6 z ok en e q=>?_;subst z;refine dF e fun p1 e1 e=>?_;refine⟨W,B,p1.1,p1.2,rfl,ok,en,e1,fun x S F L s1 P=>?_⟩;split at e
 .rename_i i hi;cases e;rw[hi] at P;cases P;exact⟨_,rfl,q S F L s1⟩
 .cases e
def j6(xs:List D)(lo hi:Ŕ):List D:=(xs.drop<|HT.sIx xs.length 0 lo).take (HT.sIx xs.length xs.length hi - HT.sIx xs.length 0 lo)
theorem Cz(r:V2 K W ds vs)(lo hi:Ŕ):V2 K W (j6 ds lo hi) (jL vs lo hi):=by unfold j6 jL;rw[r.length];exact(r.drop _).take _
def Yj(x:D)(lo hi:Ŕ)(O:M):Fr:=match fq O x with
 |some ds=>some (.lst (j6 ds lo hi),O)|none=>match iz x with
  |some ds=>if HT.sIx ds.length 0 lo=0/\HT.sIx ds.length ds.length hi=ds.length then none else some (.tup (j6 ds lo hi),O)|none=>none
def i3(ea:EV)(lo hi:OV):EV:=fun B O=>(ea B O).bind fun p=>(lo B p.2).bind fun l=>(hi B l.2).bind fun h=>Yj p.1 l.1 h.1 h.2
theorem nk(he:PE X e (tD K ea))(hl:PO X lo (ϣ K ol))(hu:PO X hi (ϣ K oh))(hK:X.K=K:=by rfl):PE X (.Subscript e (.Slice lo hi none p2) pos) (tD K<|i3 ea ol oh):=by
 subst hK;refine eK (Kx (ks.or Yt) he hl hu) fun J H Q h=>?_;refine Wf h fun W B d Z6 eH ok en e q=>?_;subst eH;refine dF e fun p1 e1 e=>?_;refine dF e fun p2 e2 e=>?_;refine dF e fun S e3 e=>?_;refine⟨W,B,p1.1,p1.2,rfl,ok,en,e1,fun x W1 Z2 P s1 r1=>⟨W1,B,p2.1,p2.2,rfl,P,en.step ok s1,by rw[Z2];exact e2,fun W2 ZV F s2=>⟨W2,B,S.1,S.2,rfl,F,(en.step ok s1).step P s2,by rw[ZV];exact e3,fun W3 ZS L s3=>?_⟩⟩⟩;have r3:=(r1.step P s2).step F s3;have st:=(s1.trans s2).trans s3;unfold Yj at e;rw[←ZS] at e;split at e
 .rename_i ds hd;cases e;obtain⟨a,vs,rfl,hs,hv⟩:=i5 L hd r3;exact(.inl ⟨a,vs,rfl,hs,fun p z=>q _ (W3.lay p<|.lst<|jL vs p2.1 S.1) rfl (gC L z) (st.trans<|fM z) (pW L z<|Cz hv _ _)⟩)
 .split at e
  .rename_i ds hd;split at e
   .cases e
   .rename_i hn;cases e;obtain⟨a,vs,rfl,hs,hv⟩:=jM hd r3;rw[hv.length] at hn;exact(.inr ⟨a,vs,rfl,hs,hn,fun p z=>q _ (W3.lay p<|.tup<|jL vs p2.1 S.1) rfl (gC L z) (st.trans<|fM z) (kl L z<|Cz hv _ _)⟩)
  .cases e
def qk(x y:D)(O:M):Fr:=(j3 O x).bind fun xs=>(j3 O y).bind fun ys=>if xs.length+ys.length<=1000000 then some (.lst (xs++ys),O) else none
def zc(x y:D)(O:M):Fr:=(j3 O x).bind fun xs=>match y with
 | .int k=>if -1000000<=k/\k<=1000000/\xs.length*k.toNat<=1000000 then some (.lst (List.replicate k.toNat xs).flatten,O) else none|_=>none
def fh(x:D)(O:M):Fr:=match fq O x with
 |some ds=>some (.int ds.length,O)|none=>match iz x with
  |some ds=>some (.int ds.length,O)|none=>none
theorem iP(S:X.mg "len"=none) (ha:PE X a (tD K ea)) (hg:Gl X "len":=by rfl) (F:WX X a:=by rfl) (hK:X.K=K:=by rfl):PE X (.Call (.Name "len" p) [a] [] pos) (tD K<|v1 fh ea):=eK (Hy K S ha hg F hK) (jJ (by
 intro W x d z Z6 Q ok L H q;unfold fh at H;split at H
 .rename_i ds hd;cases H;obtain⟨a,vs,rfl,F,J⟩:=i5 ok hd L;exact⟨a,vs,rfl,.inl F,by rw[←J.length];exact q _ W rfl ok .refl (.int _)⟩
 .split at H
  .rename_i ds hd;cases H;obtain⟨a,vs,rfl,F,J⟩:=jM hd L;exact⟨a,vs,rfl,.inr F,by rw[←J.length];exact q _ W rfl ok .refl (.int _)⟩
  .cases H))
def tt(O:M)(x:D):Option (List D):=match fq O x with
 |some ds=>some ds|none=>iz x
theorem KM(ok:Ok K W)(h:tt W.O d=some ds)(r:DR K W d v):∃a vs,v=.ref a/\(WE K W.H a vs\/Wx K W.H a vs)/\V2 K W ds vs:=by
 unfold tt at h;split at h
 .rename_i P hd;cases h;obtain⟨a,vs,e,L,J⟩:=i5 ok hd r;exact(⟨a,vs,e,.inl L,J⟩)
 .obtain⟨a,vs,e,L,J⟩:=jM h r;exact⟨a,vs,e,.inr L,J⟩
abbrev mo:=X8 fun i j=>.int (if j<i then j else i)
abbrev sh:=X8 fun i j=>.int (if j>i then j else i)
theorem BH{t:TE}{r:R2}{f:D->D->M->Fr}(z:W8 K r f)(F:∀J H Q,ql r (tD K ea) (tD K eb) J H Q->t J H Q):∀J H Q,tD K (v2 f ea eb) J H Q->t J H Q:=fun J H Q h=>F J H Q (l6 z J H Q h)
theorem zB{x y:V}{g:Int->Int->V}{Q:VK}{H:Hp}:(∃i j,[x,y]=[V.int i,V.int j]/\Q (g i j) H)=(∃i j,x=V.int i/\y=V.int j/\Q (g i j) H):=propext ⟨fun⟨i,j,e,q⟩=>by cases e;exact⟨i,j,rfl,rfl,q⟩,fun⟨i,j,e1,J,q⟩=>by cases e1;cases J;exact⟨i,j,rfl,q⟩⟩
theorem vI(F:X.mg "min"=none) (ha:PE X a (tD K ea)) (hb:PE X b (tD K eb)) (hc:X.calm=true:=by rfl) (hg:Gl X "min":=by rfl) (S:YO X a b:=by rfl) (z:WX X b:=by rfl):
  PE X (.Call (.Name "min" p) [a,b] [] pos) (tD K<|v2 mo ea eb):=eK (Mp F ha hb hc hg S z) (BH (lq fun _ _ _=>.int _) fun J H Q h=>by simp only[zB (g:=fun i j=>V.int<|if j<i then j else i)];exact h)
theorem DD(F:X.mg "max"=none) (ha:PE X a (tD K ea)) (hb:PE X b (tD K eb)) (hc:X.calm=true:=by rfl) (hg:Gl X "max":=by rfl) (S:YO X a b:=by rfl) (z:WX X b:=by rfl):
  PE X (.Call (.Name "max" p) [a,b] [] pos) (tD K<|v2 sh ea eb):=eK (Rk F ha hb hc hg S z) (BH (lq fun _ _ _=>.int _) fun J H Q h=>by simp only[zB (g:=fun i j=>V.int<|if j>i then j else i)];exact h)
def lj:D->M->Fr
 | .bl k,O=>some (.int (if k then 1 else 0),O)|_,_=>none
theorem uG(F:X.mg "int"=none) (ha:PE X a (tD K ea)) (hg:Gl X "int":=by rfl) (S:WX X a:=by rfl):PE X (.Call (.Name "int" p) [a] [] pos) (tD K<|v1 lj ea):=eK (Q9 F ha hg S) (jJ (by
 intro W x d z Z6 Q ok J H q;unfold lj at H;split at H
 .cases H;cases J;exact⟨_,rfl,q _ W rfl ok .refl (.int _)⟩
 .cases H))
end
def py:Nat->M->D->Option PyData
 |0,_,_=>none|n+1,O,d=>match d with
  | .non=>some .none| .bl b=>some (.bool b)| .int i=>some (.int i)| .str x=>some (.str x)| .lst xs=>(optAll (py n O) xs).bind fun ys=>some (.list ys)| .scr xs=>(optAll (py n O) xs).bind fun ys=>some (.list ys)| .tup xs=>(optAll (py n O) xs).bind fun ys=>some (.tuple ys)| .gt xs=>(optAll (py n O) xs).bind fun ys=>some (.tuple ys)| .ref k=>match O[k]? with
   |some (some<|.lst xs)=>(optAll (py n O) xs).bind fun ys=>some (.list ys)|_=>none
theorem lr{K:Frag}{W:Wd}{f:D->Option PyData}(h:∀d v z,DR K W d v->f d=some z->Dp K W.H v z):∀{xs:List D} {vs:ŗ} {ys:List PyData},V2 K W xs vs->optAll f xs=some ys->Xs K W.H vs ys
 |_,_,_,.nil,e=>by cases e;exact .nil
 |_,_,_,.cons r t,e=>by refine dF e fun y e1 e=>?_;refine dF e fun ys J e=>?_;cases e;exact .cons (h _ _ _ r e1) (lr h t J)
theorem jh{K:Frag}{W:Wd}(ok:Ok K W):∀(n:Nat) (d:D) (v:V) (z:PyData),DR K W d v->py n W.O d=some z->Dp K W.H v z
 |0,_,_,_,_,e=>by cases e
 |n+1,d,v,z,r,e=>by
  cases d with
  |non=>cases e;cases r;exact .non
  |bl b=>cases e;cases r;exact .bl b
  |int i=>cases e;cases r;exact .int i
  |str x=>cases e;cases r;exact .str x
  |lst xs=>
   refine dF e fun L e1 e=>?_;cases e;cases r with
   |lst h _ J=>exact .lst (WE.of h) (lr (jh ok n) J e1)
  |scr xs=>
   refine dF e fun L e1 e=>?_;cases e;cases r with
   |scr h J=>exact .lst h.seq (lr (jh ok n) J e1)
  |tup xs=>
   refine dF e fun L e1 e=>?_;cases e;cases r with
   |tup h J=>exact .tup (Wx.of h) (lr (jh ok n) J e1)
  |gt xs=>
   refine dF e fun L e1 e=>?_;cases e;cases r with
   |gt h J=>exact .tup h (lr (jh ok n) J e1)
  |ref k=>
   simp only[py] at e;split at e
   .rename_i xs P;refine dF e fun L e1 e=>?_;cases e;obtain⟨a,vs,rfl,_,h,J⟩:=lJ ok P r;exact(.lst (WE.of h)<|lr (jh ok n) J e1)
   .cases e
def Wu(x y:D)(O:M):Ŧ:=match x,y with
 | .int i,.int j=>some (decide (i=j))| .str a,.str b=>if PyData.strOk a&&PyData.strOk b then some (decide (a=b)) else none|x,y=>(py 65 O x).bind fun d=>(py 65 O y).bind fun e=>if(d.canLay0&&e.canLay0&&decide (d.depth<=64))=true then some (PyData.eqv d e) else none
def CM{K:Frag}{W:Wd}{x y:D}{v u:V}{b:Bool}(ok:Ok K W)(F:DR K W x v)(z:DR K W y u)(h:Wu x y W.O=some b):∃d e,Dp K W.H v d/\Dp K W.H u e/\(d.canLay0&&e.canLay0&&decide (d.depth<=64))=true/\PyData.eqv d e=b:=by
 unfold Wu at h;split at h
 .cases h;cases F;cases z;exact⟨_,_,.int _,.int _,by simp[PyData.canLay0,PyData.depth],by simp[PyData.eqv];rw[Tj];simp⟩
 .split at h
  .rename_i J;cases h;cases F;cases z;refine⟨_,_,.str _,.str _,by simpa[PyData.canLay0,PyData.depth] using J,by simp[PyData.eqv];rw[Tj];simp⟩
  .cases h
 .refine dF h fun d e1 h=>?_;refine dF h fun e e2 h=>?_;split at h
  .rename_i L;cases h;exact⟨d,e,jh ok _ _ _ _ F e1,jh ok _ _ _ _ z e2,L,rfl⟩
  .cases h
def WT(x y:D)(O:M):Fr:=(Wu x y O).bind fun b=>some (.bl b,O)
def We(x y:D)(O:M):Fr:=(Wu x y O).bind fun b=>some (.bl (!b),O)
section
variable {X:Cx} {K:Frag} {a b c e:Expr} {ea eb:EV} {pos p:Pos} {es:Ř} {el:LV} {k:Nat}
theorem Cd:W8 K (fun x y H Q=>∃d e,Dp K H x d/\Dp K H y e/\(d.canLay0&&e.canLay0&&decide (d.depth<=64))=true/\Q (.bl<|PyData.eqv d e) H) WT:=by intro W x y d e z Z6 Q ok P L J q;refine dF J fun b F J=>?_;cases J;obtain⟨d',e',h1,h2,h3,S⟩:=CM ok P L F;exact⟨d',e',h1,h2,h3,by rw[S];exact q _ W rfl ok .refl (.bl _)⟩
theorem CL:W8 K (fun x y H Q=>∃d e,Dp K H x d/\Dp K H y e/\(d.canLay0&&e.canLay0&&decide (d.depth<=64))=true/\Q (.bl<|!PyData.eqv d e) H) We:=by intro W x y d e z Z6 Q ok P L J q;refine dF J fun b F J=>?_;cases J;obtain⟨d',e',h1,h2,h3,S⟩:=CM ok P L F;exact⟨d',e',h1,h2,h3,by rw[S];exact q _ W rfl ok .refl (.bl _)⟩
theorem oM(z:V8 k X.A)(S:PE X a (tD K ea))(F:PE X b (tD K eb))(hK:X.K=K:=by rfl):PE X (.Compare a [.Eq] [b] pos) (tD K<|v2 WT ea eb):=by subst hK;exact vm (Ed z.units) Cd S F (jX _)
theorem ul(z:V8 k X.A)(S:PE X a (tD K ea))(F:PE X b (tD K eb))(hK:X.K=K:=by rfl):PE X (.Compare a [.NotEq] [b] pos) (tD K<|v2 We ea eb):=by subst hK;exact vm (De z.units) CL S F (jX _)
theorem ga(z:V8 k X.A)(S:PE X a (tD K ea))(F:PE X b (tD K eb))(hK:X.K=K:=by rfl):PT X (.Compare a [.Eq] [b] pos) (WO K<|vT<|v2 WT ea eb):=by subst hK;exact lV (Ed z.units) Cd S F (jX _)
theorem jx(z:V8 k X.A)(S:PE X a (tD K ea))(F:PE X b (tD K eb))(hK:X.K=K:=by rfl):PT X (.Compare a [.NotEq] [b] pos) (WO K<|vT<|v2 We ea eb):=by subst hK;exact lV (De z.units) CL S F (jX _)
def jc(x y:D)(O:M):Fr:=match y with
 | .non=>some (.bl (match x with| .non=>true|_=>false),O)
 |_=>none
def kf(x y:D)(O:M):Fr:=match y with
 | .non=>some (.bl (match x with| .non=>false|_=>true),O)
 |_=>none
theorem GA:W8 K (fun x y H Q=>y=.non/\Q (.bl<|decide (x=.non)) H) jc:=by
 intro W x y d e z Z6 Q ok P L J q;unfold jc at J;split at J
 .cases J;cases L;refine⟨rfl,?_⟩;have h:=q _ W rfl ok .refl (.bl _);cases P<;>exact h
 .cases J
theorem HV:W8 K (fun x y H Q=>y=.non/\Q (.bl<|!decide (x=.non)) H) kf:=by
 intro W x y d e z Z6 Q ok P L J q;unfold kf at J;split at J
 .cases J;cases L;refine⟨rfl,?_⟩;have h:=q _ W rfl ok .refl (.bl _);cases P<;>exact h
 .cases J
theorem rJ(F:PE X a (tD K ea))(z:PE X b (tD K eb)):PT X (.Compare a [.Is] [b] pos) (WO K<|vT<|v2 jc ea eb):=lV EG GA F z (jX _)
theorem Bx(F:PE X a (tD K ea))(z:PE X b (tD K eb)):PT X (.Compare a [.IsNot] [b] pos) (WO K<|vT<|v2 kf ea eb):=lV EN HV F z (jX _)
def Ο:D->ŧ
 | .non=>some .non| .bl b=>some (.bl b)| .int i=>some (.int i)| .str x=>some (.str x)|_=>none
theorem DY(h:Ο d=some u)(r:DR K W d v):v=u/\jB u=true:=by cases d<;>cases h<;>cases r<;>exact⟨rfl,rfl⟩
theorem zT:∀{ds:List D} {vs us:ŗ},optAll Ο ds=some us->V2 K W ds vs->vs=us/\us.all jB=true
 |_,_,_,h,.nil=>by cases h;exact⟨rfl,rfl⟩
 |_,_,_,h,.cons r t=>by refine dF h fun u J h=>?_;refine dF h fun us H h=>?_;cases h;obtain⟨e1,f1⟩:=DY J r;obtain⟨L,f2⟩:=zT H t;exact(⟨by rw[e1,L],by simp[f1,f2]⟩)
def ϝ(neg:Bool)(x y:D)(O:M):Fr:=(Ο x).bind fun v=>(tt O y).bind fun ds=>(optAll Ο ds).bind fun us=>some (.bl (if neg then !Κ v us else Κ v us),O)
theorem Ot:W8 K (Ç K neg) (ϝ neg):=by intro W x y d e z Z6 Q ok L J H q;refine dF H fun v h1 H=>?_;refine dF H fun ds h2 H=>?_;refine dF H fun us S H=>?_;cases H;obtain⟨rfl,f1⟩:=DY h1 L;obtain⟨a,vs,rfl,F,P⟩:=KM ok h2 J;obtain⟨rfl,f2⟩:=zT S P;exact(⟨a,_,rfl,F,f1,f2,q _ W rfl ok .refl (.bl _)⟩)
theorem Lb(F:PE X a (tD K ea))(z:PE X b (tD K eb))(hm:behindInMarks .NotIn b=false:=by rfl)(S:X.K=K:=by rfl):PT X (.Compare a [.NotIn] [b] pos) (WO K<|vT<|v2 (ϝ true) ea eb):=j1 (FG K F z hm S) (sQ<|l6 Ot)
def YR(O:M):D->Ŧ
 | .non=>some false| .bl b=>some b| .int i=>some (i !=0)| .tup ds=>some (!ds.isEmpty)| .gt ds=>some (!ds.isEmpty)| .lst ds=>some (!ds.isEmpty)| .scr ds=>some (!ds.isEmpty)| .ref k=>match O[k]? with
  |some (some<|.lst ds)=>some (!ds.isEmpty)|some (some<|.dK kvs)=>some (!kvs.isEmpty)|_=>none
 | .str _=>none
theorem V2.empty(r:V2 K W ds vs):ds.isEmpty=vs.isEmpty:=by cases r<;>rfl
theorem Lf{W:Wd}{d:D}{v:V}{b:Bool}(ok:Ok K W)(h:YR W.O d=some b)(r:DR K W d v):uB K v W.H b:=by
 cases d with
 |non=>cases h;cases r;rfl
 |bl k=>cases h;cases r;rfl
 |int i=>cases h;cases r;rfl
 |str x=>cases h
 |tup ds=>
  cases h;cases r with
  |tup h J=>exact .inr (.inl ⟨_,Wx.of h,by rw[V2.empty J]⟩)
 |gt ds=>
  cases h;cases r with
  |gt h J=>exact .inr (.inl ⟨_,h,by rw[V2.empty J]⟩)
 |lst ds=>
  cases h;cases r with
  |lst h _ J=>exact .inl ⟨_,WE.of h,by rw[V2.empty J]⟩
 |scr ds=>
  cases h;cases r with
  |scr h J=>exact .inl ⟨_,h.seq,by rw[V2.empty J]⟩
 |ref k=>
  simp only[YR] at h;split at h
  .rename_i ds L;cases h;obtain⟨a,vs,rfl,_,z,J⟩:=lJ ok L r;exact(.inl ⟨_,WE.of z,by rw[V2.empty J]⟩)
  .rename_i kvs L;cases h;cases r with
   |ref F=>
    obtain⟨a',ho,P,S,vs,rfl,r⟩:=ok.at_ k _ L;rw[F] at P;cases P;exact .inr (.inr ⟨vs,S,by cases r<;>rfl⟩)
  .cases h
def fC(ea:EV):BV:=fun B O=>(ea B O).bind fun p=>(YR p.2 p.1).bind fun b=>some (b,p.2)
theorem hU(F:PE X a (tD K ea))(he:∀whole,isTrue a X.env whole=(do let v ←whole;standAt a.pos;holding [v] (truthy v)):=by intro _;rfl)(S:X.K=K:=by rfl):PT X a (WO K<|fC ea):=by subst S;refine j1 (Fh F he) fun J H Q h=>?_;refine Wf h fun W B b Z6 eH ok en e q=>?_;subst eH;refine dF e fun p1 e1 e=>?_;refine dF e fun b1 e2 e=>?_;cases e;exact⟨W,B,p1.1,p1.2,rfl,ok,en,e1,fun x W1 P L s1 z=>⟨b,Lf L (by rw[P];exact e2) z,q W1 P L s1⟩⟩
def Å(O:M):D->Option String
 | .non=>some "NoneType"| .bl _=>some "bool"| .int _=>some "int"| .str _=>some "str"| .tup _=>some "tuple"| .gt _=>some "tuple"| .lst _=>some "list"| .scr _=>some "list"| .ref k=>match O[k]? with
  |some (some<|.lst _)=>some "list"|some (some<|.dK _)=>some "dict"|_=>none
theorem K9(ok:Ok K W)(h:Å W.O d=some t)(r:DR K W d v):Yl K W.H v t:=by
 cases d with
 |non=>cases h;cases r;exact .non
 |bl k=>cases h;cases r;exact .bl _
 |int i=>cases h;cases r;exact .int _
 |str x=>cases h;cases r;exact .str _
 |tup ds=>
  cases h;cases r with
  |tup h J=>exact .tup (Wx.of h)
 |gt ds=>
  cases h;cases r with
  |gt h J=>exact .tup h
 |lst ds=>
  cases h;cases r with
  |lst h _ J=>exact .lst (WE.of h)
 |scr ds=>
  cases h;cases r with
  |scr h J=>exact .lst h.seq
 |ref k=>
  simp only[Å] at h;split at h
  .rename_i ds L;cases h;obtain⟨a,vs,rfl,_,z,J⟩:=lJ ok L r;exact(.lst<|WE.of z)
  .rename_i kvs L;cases h;cases r with
   |ref F=>
    obtain⟨a',ho,P,S,vs,rfl,r⟩:=ok.at_ k _ L;rw[F] at P;cases P;exact(.dK S)
  .cases h
def ke(c:String)(x:D)(O:M):Fr:=(Å O x).bind fun t=>some (.bl (qe t c),O)
theorem sC(c:String)(S:X.mg "isinstance"=none) (ha:PE X a (tD K ea)) (hb:PE X b (tC<|.ty c)) (hc:Wv.contains c=true:=by decide) (hg:Gl X "isinstance":=by rfl) (hs:YO X a b:=by rfl) (F:WX X b:=by rfl) (hK:X.K=K:=by rfl):
  PE X (.Call (.Name "isinstance" p) [a,b] [] pos) (tD K<|v1 (ke c) ea):=eK (GK K S ha hb hg hs F hK) (jJ (by
 intro W x d z Z6 Q ok J H q;refine dF H fun t L H=>?_;cases H;exact⟨x,t,c,rfl,K9 ok L J,hc,q _ W rfl ok .refl (.bl _)⟩))
def tI(ea:EV):EV:=fun B O=>(ea B O).bind fun p=>match p.1 with
 | .ref k=>match p.2[k]? with
  |some (some<|.lst ds)=>some (.lst ds,p.2.set k none)|_=>none
 |_=>none
theorem Fx(ha:PE X a (tD K ea)):PE X a (tD K<|tI ea):=eK ha fun J H Q h=>by
 refine Wf h fun W B d Z6 eH ok en e q=>?_;subst eH;refine dF e fun p1 e1 e=>?_;refine⟨W,B,p1.1,p1.2,rfl,ok,en,e1,fun x F z L s1 P=>?_⟩;split at e
 .rename_i k S;rw[S] at P;split at e
  .rename_i ds hd;cases e;rw[←z] at hd;exact q x (F.frz k) (by show F.O.set k none=_;rw[z]) (MX L) (s1.trans vG) (Kv L hd P)
  .cases e
 .cases e
def V1(K:Frag)(f:C0):Sp:=fun vs H Q _=>∃(W:Wd) (ds:List D) (d:D) (Z6:M),W.H=H/\Ok K W/\V2 K W ds vs/\f ds W.O=some (d,Z6)/\∀v W',W'.O=Z6->Ok K W'->Step W W'->DR K W' d v->Q v W'.H
theorem eA{x:Str}{ps:Ŗ}{f:C0}{e:Expr}(S:Df X.prog X.w X.K X.mg X.base k x ps (V1 K f))(hr:V8 k X.A)(ha:PA X (e::es) (X6 K el))(hg:Gl X x:=by rfl)(F:Xm x:=by decide)
  (he:X9 X e es:=by rfl) (hpl:Yn X pos es:=by rfl):PE X (.Call (.Name x p) (e::es) [] pos) (tD K<|vL f el):=eK (AR S hr ha hg F he hpl) (si (by
 intro W xs ds z Z6 Q ok r H q;exact⟨W,ds,z,Z6,rfl,ok,r,H,q⟩))
def il(f:D->D->M->Fr)(ea eb:EV):EV:=fun B O=>(ea B O).bind fun p=>(fq p.2 p.1).bind fun _=>(eb B p.2).bind fun q=>f p.1 q.1 q.2
theorem Ru(ok:Ok K W)(h:fq W.O d=some ds)(r:DR K W d v):ϋ K "list" v W.H:=by obtain⟨a,vs,rfl,J,_⟩:=i5 ok h r;exact(.inl ⟨rfl,vs,J⟩)
def RMA(K:Frag)(r:V->ŗ->Hp->VK->Prop)(f:D->D->M->Fr):Prop:=∀(W:Wd) (x y:V) (d e z:D) (Z6:M) (Q:VK),Ok K W->DR K W d x->DR K W e y->f d e W.O=some (z,Z6)->
 (∀v W',W'.O=Z6->Ok K W'->Step W W'->DR K W' z v->Q v W'.H)->r x [y] W.H Q
theorem wW(ra:RMA K r f):∀J H Q,tD K (il f eo ea) J H Q->Α K "list" r (tD K eo) (gJ (tD K ea) iI) J H Q:=fun J H Q h=>by refine Wf h fun W B d Z6 eH ok en e q=>?_;subst eH;refine dF e fun p1 e1 e=>?_;refine dF e fun ds e0 e=>?_;refine dF e fun S e2 e=>?_;refine⟨W,B,p1.1,p1.2,rfl,ok,en,e1,fun x W1 Z2 L s1 F=>⟨Ru L (by rw[Z2];exact e0) F,W1,B,S.1,S.2,rfl,L,en.step ok s1,by rw[Z2];exact e2,fun y W2 ZV z s2 r2=>?_⟩⟩;exact ra W2 x y _ _ _ _ Q z (F.step L s2) r2 (by rw[ZV];exact e) fun v W3 ZS P s3 r3=>q v W3 ZS P ((s1.trans s2).trans s3) r3
def Yu(x:D)(O:M)(g:List D->Option (D×List D)):Fr:=match x with
 | .ref k=>match O[k]? with
  |some (some<|.lst ds)=>(g ds).bind fun r=>some (r.1,O.set k<|some<|.lst r.2)|_=>none
 |_=>none
theorem Dk(ok:Ok K W)(h:Yu x W.O g=some (z,Z6))(r:DR K W x v):
  ∃k a ds vs F,x=.ref k/\v=.ref a/\W.O[k]?=some (some<|.lst ds)/\W.ρ[k]?=some a/\W.H a=some (.lst vs)/\V2 K W ds vs/\g ds=some (z,F)/\Z6=W.O.set k (some<|.lst F):=by
 unfold Yu at h;split at h
 .rename_i k;split at h
  .rename_i ds J;refine dF h fun p e1 e=>?_;cases e;obtain⟨a,vs,rfl,S,P,L⟩:=lJ ok J r;exact(⟨k,a,ds,vs,p.2,rfl,rfl,J,S,P,L,e1,rfl⟩)
  .cases h
 .cases h
theorem DM{W:Wd}{k:Nat}{a:Addr}{ds z:List D}{vs vs':ŗ}(ok:Ok K W)(F:W.O[k]?=some (some<|.lst ds))(S:W.ρ[k]?=some a)(hs:V2 K W z vs'):
  Ok K (W.put k a (.lst vs')<|.lst z)/\Step W (W.put k a (.lst vs')<|.lst z):=⟨qV ok F S ⟨vs',rfl,hs⟩,ln F S⟩
def gM(x y:D)(O:M):Fr:=Yu x O fun ds=>if ds.length<1000000 then some (.non,ds++[y]) else none
theorem sK(ho:PE X o (tD K eo))(ha:PE X a (tD K ea))(hs:WX X a:=by rfl)
  (S:attributeBase o "append" X.env (eval o X.env)=eval o X.env:=by rfl) (F:gV apos pos:=by rfl) (hK:X.K=K:=by rfl)
  (hfew:Χ X a pos:=by rfl):
  PE X (.Call (.Attribute o "append" apos) [a] [] pos) (tD K<|il gM eo ea):=eK (Sb K ho ha hs S F hK hfew) (wW (by
 intro W x y d e z Z6 Q ok L J hf q;obtain⟨k,a,ds,vs,ds',rfl,rfl,hk,ha,hh,hs,H,rfl⟩:=Dk ok hf L;split at H
 .rename_i hl;cases H;obtain⟨P,s1⟩:=DM (vs:=vs) (vs':=vs++[y]) ok hk ha (hs.append<|.cons J .nil);exact⟨a,vs,y,rfl,rfl,hh,pO (by rw[←hs.length];omega),q _ _ rfl P s1 .non⟩
 .cases H))
end
open Classical in
def XU{α:Type}(c:Prop)(x:Option α):Option α:=if c then x else none
def vd{α:Type}{c:Prop}{x:Option α}{a:α}(h:XU c x=some a):c/\x=some a:=by
 unfold XU at h;split at h
 .exact⟨by assumption,h⟩
 .cases h
def i6{α:Type}{c:Prop}{x:Option α}{a:α}{Z:Prop}(h:XU c x=some a)(k:c->x=some a->Z):Z:=k (vd h).1 (vd h).2
def iw{α:Type}{c:Prop}{x:Option α}(h:c):XU c x=x:=by unfold XU;rw[if_pos h]
abbrev GV:=D->G->M->Option (G×M)
abbrev Ye:=List D->G->M->Option (G×M)
def XT(K:Frag)(z:GV):TG:=fun v J H Q=>∃(W:Wd) (B:G) (d:D) (L:G) (Z6:M),W.H=H/\Ok K W/\V5 K W B J/\DR K W d v/\z d B W.O=some (L,Z6)/\∀W' P,W'.O=Z6->Ok K W'->Step W W'->V5 K W' L P->Q P W'.H
def tT(K:Frag)(z:Ye):pd:=fun vs J H Q=>∃(W:Wd) (B:G) (ds:List D) (L:G) (Z6:M),W.H=H/\Ok K W/\V5 K W B J/\V2 K W ds vs/\z ds B W.O=some (L,Z6)/\∀W' P,W'.O=Z6->Ok K W'->Step W W'->V5 K W' L P->Q P W'.H
section
variable {X:Cx} {K:Frag} {pos:Pos}
theorem ut(h:PG X tg t)(hi:∀v J H Q,t' v J H Q->t v J H Q):PG X tg t':=fun pins s J H v u Q I r L=>h pins s J H v u Q I r (hi _ _ _ _ L)
theorem CO(h:ee X tg t)(hi:∀v J H Q,t' v J H Q->t v J H Q):ee X tg t':=fun pins s J H v u Q I r L=>h pins s J H v u Q I r (hi _ _ _ _ L)
theorem V5.set(e:V5 K W B J)(r:DR K W d v)(i:Nat):V5 K W (B.set i<|some d) (J.set i<|some v) where
 len:=by simp[e.len]
 at_ j d' h:=by
  by_cases hj:j=i
  .subst hj;have hlt:j<B.length:=by have:=(Sn.mp h).1;simpa using this
   simp[hlt] at h;subst h;exact⟨v,by have:=e.len;simp[show j<J.length by omega],r⟩
  .rw[S4 (Ne.symm hj)] at h;obtain⟨u,hu,q⟩:=e.at_ j d' h;exact⟨u,by rw[S4 (Ne.symm hj)];exact hu,q⟩
def dC(i:Nat):GV:=fun d B O=>some (B.set i (some d),O)
theorem Ni:∀v J H Q,XT K (dC i) v J H Q->wK i v J H Q:=fun v J H Q h=>by obtain⟨W,B,d,L,Z6,rfl,ok,en,r,e,q⟩:=h;cases e;exact(q W _ rfl ok .refl (en.set r i))
theorem dW(F:X.N.Nodup)(hi:X.N[i]?=some x)(z:Loc X.env.scope x)(hf:gv X x:=by first|exact .inl rfl|exact .inr rfl|assumption):PG X (.Name x pos) (XT K<|dC i):=ut (EJ F hi z hf) Ni
def fk:Ye:=fun ds B O=>match ds with
 | []=>some (B,O)|_::_=>none
def dY(g:GV)(gs:Ye):Ye:=fun ds B O=>match ds with
 | []=>none|d::r=>(g d B O).bind fun p=>gs r p.1 p.2
theorem gL:ee X [] (tT K fk):=CO HC fun v J H Q h=>by
 obtain⟨W,B,d,L,Z6,rfl,ok,en,r,e,q⟩:=h;cases r with
 |nil=>cases e;exact⟨rfl,q W _ rfl ok .refl en⟩
 |cons _ _=>cases e
theorem eU{e:Expr}{es:Ř}{g:GV}{gs:Ye}(h1:PG X e (XT K g))(h2:ee X es (tT K gs))
  (S:(assignEach (e::es) X.env).map (·.2)=assign e X.env::(assignEach es X.env).map (·.2):=by rfl):ee X (e::es) (tT K<|dY g gs):=CO (Qo h1 h2 S) fun v J H Q h=>by
 obtain⟨W,B,d,ZZ,Z6,rfl,ok,en,r,e,q⟩:=h;cases r with
 |nil=>cases e
 |cons r rs=>
  refine dF e fun p1 e1 e=>?_;exact⟨_,_,rfl,W,B,_,p1.1,p1.2,rfl,ok,en,r,e1,fun W1 ZJ Z2 P s1 F=>⟨W1,p1.1,_,ZZ,Z6,rfl,P,F,rs.step ok s1,by rw[Z2];exact e,fun W2 ZW ZV L s2 z=>q W2 ZW ZV L (s1.trans s2) z⟩⟩
def fc(n:Nat)(gs:Ye):GV:=fun d B O=>(iz d).bind fun ds=>if ds.length=n then gs ds B O else none
theorem gH{es:Ř}{k:Nat}{gs:Ye}{n:Nat}(h:ee X es (tT K gs))(hc:X.calm=true:=by rfl)(F:(assignEach es X.env).length=n:=by rfl)(z:(assignEach es X.env).findIdx? (·.1)=none:=by rfl)(hK:X.K=K:=by rfl):PG X (.Tuple es k pos) (XT K<|fc n gs):=ut (gT K h hc F z hK) fun v J H Q hh=>by
 obtain⟨W,B,d,ZZ,Z6,rfl,ok,en,r,e,q⟩:=hh;refine dF e fun ds e1 e=>?_;split at e
 .rename_i S;obtain⟨a,vs,rfl,P,L⟩:=jM e1 r;exact⟨a,vs,rfl,P,by rw[←L.length];exact S,W,B,ds,ZZ,Z6,rfl,ok,en,L,e,q⟩
 .cases e
def p7(eo ei:EV):GV:=fun d B O=>(eo B O).bind fun p=>(ei B p.2).bind fun q=>match q.1 with
 | .int j=>(Yu p.1 q.2 fun ds=>(Xk ds.length j).bind fun jj=>some (.non,ds.set jj d)).bind fun r=>some (B,r.2)|_=>none
theorem A0(ho:PE X o (tD K eo))(hi:PE X i (tD K ei))(ha:∀v,assign (.Subscript o i pos) X.env v=(do
   let F ←holding [v] (eval o X.env)
   let iv ←holding [v,F] (eval i X.env)
   standAt pos
   holding [v,F,iv] (setItem F iv v)
   release [v,F,iv] []):=by intro _;rfl):PG X (.Subscript o i pos) (XT K<|p7 eo ei):=ut (QW ho hi NQ ha) fun v J H Q hh=>by
 obtain⟨W,B,d,ZZ,Z6,rfl,ok,en,r,e,q⟩:=hh;refine dF e fun p1 e1 e=>?_;refine dF e fun p2 e2 e=>?_;refine⟨W,B,p1.1,p1.2,rfl,ok,en,e1,fun x W1 Z2 L s1 r1=>⟨W1,B,p2.1,p2.2,rfl,L,en.step ok s1,by rw[Z2];exact e2,fun y W2 ZV P s2 r2=>?_⟩⟩;split at e
 .rename_i j hj;rw[hj] at r2;cases r2;obtain⟨⟨z3,ZQ⟩,e3,e⟩:=Wc e;cases e;rw[←ZV] at e3;obtain⟨k,a,ds,vs,ds',h1,rfl,hk,ha,hh,hs,hg,h2⟩:=Dk P e3 (r1.step L s2);refine dF hg fun jj S hg=>?_;cases hg;obtain⟨o1,z⟩:=DM (vs:=vs) (vs':=vs.set jj v) P hk ha (hs.set ((r.step ok s1).step L s2) jj);exact⟨a,vs,j,jj,rfl,rfl,hh,by rw[←hs.length];exact S,q _ _ h2.symm o1 ((s1.trans s2).trans z)<|((en.step ok s1).step L s2).step P z⟩
 .cases e
end
section
variable {X:Cx} {K:Frag} {pos:Pos} {e:Expr} {ea:EV} {st:Stmt} {eE:ţ} {sa sb:SV}
def WQ:SV:=fun B O=>some (.nx,B,O)
def dH(a b:SV):SV:=fun B O=>(a B O).bind fun o=>match o.1 with
 | .nx=>b o.2.1 o.2.2| .bk=>some (.bk,o.2)| .ct=>some (.ct,o.2)| .rt d=>some (.rt d,o.2)
theorem eY:Wo X [] (XI K WQ):=pT Jy fun D J H h=>by refine XE h fun W B o P Z6 L ok en e q=>?_;subst L;cases e;exact q W J rfl ok .refl en
theorem dL(h1:PS X st (XI K sa)):Wo X [st] (XI K sa):=Eh h1
theorem dJ(h1:PS X st (XI K sa))(h2:Wo X eE (XI K sb)):Wo X (st::eE) (XI K<|dH sa sb):=pT (Cm h1 h2) fun D J H h=>by
 refine XE h fun W B o ZZ Z6 eH ok en e q=>?_;subst eH;obtain⟨⟨o1,ZY,Z5⟩,e1,e⟩:=Wc e;refine(⟨W,B,o1,ZY,Z5,rfl,ok,en,e1,fun F ZJ z L s1 P=>?_⟩);cases o1 with
 |nx=>exact⟨F,ZY,o,ZZ,Z6,rfl,L,P,by rw[z];exact e,fun W2 ZW ZV S s2 Xz=>q W2 ZW ZV S (s1.trans s2) Xz⟩|bk=>cases e;exact q F ZJ z L s1 P
 |ct=>cases e;exact q F ZJ z L s1 P
 |rt d=>cases e;exact q F ZJ z L s1 P
def g7(ea:EV):SV:=fun B O=>(ea B O).bind fun p=>some (.nx,B,p.2)
theorem kN(he:PE X e (tD K ea))(z:swapsWith e none pos.line X.env=pure false:=by rfl):PS X (.Expr e pos) (XI K<|g7 ea):=gk (AC he z) fun D J H h=>by refine XE h fun W B o ZZ Z6 P ok en e q=>?_;subst P;refine dF e fun p1 e1 e=>?_;cases e;exact⟨W,B,p1.1,p1.2,rfl,ok,en,e1,fun v S F L s1 r1=>q S J F L s1<|en.step ok s1⟩
def dU(ea:EV):SV:=fun B O=>(ea B O).bind fun p=>some (.rt p.1,B,p.2)
theorem eB(he:PE X e (tD K ea)):PS X (.Return (some e) pos) (XI K<|dU ea):=gk (z6 he) fun D J H h=>by refine XE h fun W B o ZZ Z6 z ok en e q=>?_;subst z;refine dF e fun p1 e1 e=>?_;cases e;exact⟨W,B,p1.1,p1.2,rfl,ok,en,e1,fun v S F L s1 P=>q S J F L s1 (en.step ok s1) v P⟩
def WY(t:BV)(a b:SV):SV:=fun B O=>(t B O).bind fun p=>if p.1=true then a B p.2 else b B p.2
theorem eZ(hc:PT X c (WO K bc))(ha:Wo X a (XI K sa))(hb:Wo X b (XI K sb)):PS X (.If c a b pos) (XI K<|WY bc sa sb):=gk (Bm hc ha hb) fun D J H h=>by
 refine XE h fun W B o ZZ Z6 eH ok en e q=>?_;subst eH;refine dF e fun p1 e1 e=>?_;refine⟨W,B,p1.1,p1.2,rfl,ok,en,e1,fun W1 Z2 z s1=>?_⟩;split at e
 .rename_i F;rw[if_pos F];exact⟨W1,B,o,ZZ,Z6,rfl,z,en.step ok s1,by rw[Z2];exact e,fun W2 S ZV L s2 P=>q W2 S ZV L (s1.trans s2) P⟩
 .rename_i F;rw[if_neg F];exact⟨W1,B,o,ZZ,Z6,rfl,z,en.step ok s1,by rw[Z2];exact e,fun W2 S ZV L s2 P=>q W2 S ZV L (s1.trans s2) P⟩
def dQ(ea:EV)(g:GV):SV:=fun B O=>(ea B O).bind fun p=>(g p.1 B p.2).bind fun q=>some (.nx,q.1,q.2)
theorem HD:∀D J H,XI K (dQ ea g) D J H->ui (tD K ea) (XT K g) D J H:=fun D J H h=>by refine XE h fun W B o ZZ Z6 eH ok en e q=>?_;subst eH;refine dF e fun p1 e1 e=>?_;refine dF e fun F e2 e=>?_;cases e;exact⟨W,B,p1.1,p1.2,rfl,ok,en,e1,fun v W1 Z2 P s1 S=>⟨W1,B,p1.1,F.1,F.2,rfl,P,en.step ok s1,S,by rw[Z2];exact e2,fun W2 ZW ZV L s2 z=>q W2 ZW ZV L (s1.trans s2) z⟩⟩
theorem lm(he:PE X e (tD K ea))(F:PG X tg (XT K g))(z:swapsWithSole [tg] e pos.line X.env=pure false:=by rfl)(hw:swappedStores [tg] e X.env=pure none:=by rfl)
  (h1:(assignEach [tg] X.env).map (·.2)=[assign tg X.env]:=by rfl):PS X (.Assign [tg] e pos) (XI K<|dQ ea g):=gk (IF he F z hw h1) HD
theorem eI(S:X.N.Nodup)(hi:X.N[i]?=some x)(z:Loc X.env.scope x)(he:PE X e (tD K ea))(F:swapsWith e (some<|.Name x pos') pos.line X.env=pure false:=by rfl)(hf:gv X x:=by first|exact .inl rfl|exact .inr rfl|assumption):
  PS X (.Assign [.Name x pos'] e pos) (XI K<|dQ ea<|dC i):=gk (AV S hi z he F hf) fun D J H h=>by
 refine XE h fun W B o ZZ Z6 eH ok en e q=>?_;subst eH;refine dF e fun p1 e1 e=>?_;cases e;exact⟨W,B,p1.1,p1.2,rfl,ok,en,e1,fun v W1 Z2 L s1 P=>q W1 _ Z2 L s1<|(en.step ok s1).set P i⟩
def me(i:Nat)(f:D->D->M->Fr)(ea:EV):SV:=fun B O=>match B[i]? with
 |some (some x)=>(ea B O).bind fun p=>(f x p.1 p.2).bind fun q=>some (.nx,B.set i (some q.1),q.2)|_=>none
theorem Gb(hN:X.N.Nodup)(hi:X.N[i]?=some x)(hx:Loc X.env.scope x)(he:PE X e (tD K ea))(ho:ē X op S)(ra:W8 K S f)(hf:gv X x:=by first|exact .inl rfl|exact .inr rfl|assumption):
  PS X (.AugAssign (.Name x pos') op e pos) (XI K<|me i f ea):=gk (Gm hN hi hx he ho hf) fun D J H h=>by
 refine XE h fun W B o ZZ Z6 eH ok en e q=>?_;subst eH;unfold me at e;split at e
 .rename_i x0 F;refine dF e fun p1 e1 e=>?_;refine dF e fun p2 e2 e=>?_;cases e;obtain⟨v,hv,r⟩:=en.at_ i _ F;refine(⟨v,hv,W,B,p1.1,p1.2,rfl,ok,en,e1,fun y W1 Z2 L s1 r1=>?_⟩);exact ra W1 v y _ _ _ _ _ L (r.step ok s1) r1 (by rw[Z2];exact e2) fun z W2 ZV P s2 r2=>q W2 _ ZV P (s1.trans s2) (((en.step ok s1).step L s2).set r2 i)
 .cases e
theorem L1:W8 K (ķ g) (X8 fun i j=>.int<|g i j):=by
 intro W x y d e z Z6 Q ok L J H q;unfold X8 at H;split at H
 .cases H;cases L;cases J;exact⟨_,_,rfl,rfl,q _ W rfl ok .refl (.int _)⟩
 .cases H
theorem Dx(F:X.N.Nodup)(hi:X.N[i]?=some x)(z:Loc X.env.scope x)(he:PE X e (tD K ea))(hf:gv X x:=by first|exact .inl rfl|exact .inr rfl|assumption):
  PS X (.AugAssign (.Name x pos') .Add e pos) (XI K<|me i qI ea):=Gb F hi z he Nh L1 hf
def jq(c:BV)(body:SV):Nat->SV
 |0,_,_=>none|n+1,B,O=>(c B O).bind fun p=>if p.1=true then(body B p.2).bind fun o=>match o.1 with
   | .nx=>jq c body n o.2.1 o.2.2| .ct=>jq c body n o.2.1 o.2.2| .bk=>some (.nx,o.2)| .rt d=>some (.rt d,o.2)
  else some (.nx,B,p.2)
theorem pY(n:Nat)(hp:PassesOwn (model X.prog X.w) X.A X.env X.xe)(hc:PT X c (WO K bc))(hb:Wo X body (XI K sb)):PS X (.While c body [] pos) (XI K<|jq bc sb n):=gk (MW hp hc hb) fun D J H h=>by
 refine XE h fun W B o ZZ Z6 eH ok en e q=>?_;subst eH;refine⟨fun m ZJ H1=>∃W1 ZY,W1.H=H1/\Ok K W1/\Step W W1/\V5 K W1 ZY ZJ/\jq bc sb m ZY W1.O=some (o,ZZ,Z6),⟨n,W,B,rfl,ok,.refl,en,e⟩,?_⟩;rintro m ZJ H1 ⟨W1,ZY,rfl,z,s1,S,e1⟩;cases m with
 |zero=>cases e1
 |succ m=>
  refine dF e1 fun p1 ec e1=>?_;refine⟨W1,ZY,p1.1,p1.2,rfl,z,S,ec,fun W2 ZV XJ s2=>?_⟩;split at e1
  .rename_i F;rw[if_pos F];obtain⟨⟨o3,Zk,ZQ⟩,e3,e1⟩:=Wc e1;refine⟨_,fun Z0 H' h'=>⟨m,Vd m,h'⟩,W2,ZY,o3,Zk,ZQ,rfl,XJ,S.step z s2,by rw[ZV];exact e3,fun W3 ZI ZS L s3 P=>?_⟩;cases o3 with
   |nx=>exact⟨W3,Zk,rfl,L,(s1.trans s2).trans s3,P,by rw[ZS];exact e1⟩|ct=>exact⟨W3,Zk,rfl,L,(s1.trans s2).trans s3,P,by rw[ZS];exact e1⟩|bk=>cases e1;exact q W3 ZI ZS L ((s1.trans s2).trans s3) P
   |rt d=>cases e1;exact q W3 ZI ZS L ((s1.trans s2).trans s3) P
  .rename_i F;cases e1;rw[if_neg F];exact q W2 ZJ ZV XJ (s1.trans s2) (S.step z s2)
abbrev Ck:=Option (Nat×List D)
def eL:Ck->M->Prop
 |none,_=>True|some (k,raw),O=>O[k]?=some (some<|.lst raw)
abbrev IV:=G->M->Option ((List D×Ck)×M)
def JR(K:Frag)(W:Wd)(Z7:It)(its:List D)(c:Ck):Prop:=eL c W.O/\∃ds vs,V2 K W ds vs/\∀(J:Wd) (i:Nat),Ok K J->eL c J.O->V2 K J ds vs->
 (its.length<=i->Z7.stop i J.H)/\∀d,its[i]?=some d->Z7.go i J.H/\∀x H',Z7.yld i J.H x H'->∃L,L.H=H'/\L.O=J.O/\Ok K L/\Step J L/\DR K L d x
def Xt(K:Frag)(iv:IV):TI:=fun J H R=>∃(W:Wd) (B:G) (its:List D) (c:Ck) (Z6:M),W.H=H/\Ok K W/\V5 K W B J/\iv B W.O=some ((its,c),Z6)/\∀Z7 W',W'.O=Z6->Ok K W'->Step W W'->JR K W' Z7 its c->R Z7 W'.H
theorem lL(h:PI X tg iter t)(hi:∀J H R,t' J H R->t J H R):PI X tg iter t':=fun pins s J H R I L=>h pins s J H R I (hi _ _ _ L)
def Xj(O:M):D->Option (List D×Ck)
 | .lst ds=>some (ds,none)| .scr ds=>some (ds,none)| .ref k=>match O[k]? with
  |some (some<|.lst ds)=>some (ds,some (k,ds))|_=>none
 |_=>none
theorem wO(ok:Ok K W)(h:Xj W.O d=some (ds,c))(r:DR K W d v):
  eL c W.O/\∃a,v=.ref a/\∀z,Ok K z->eL c z.O->DR K z d v->∃vs,WE K z.H a vs/\V2 K z ds vs:=by
 cases d with
 |lst xs=>
  cases h;cases r with
  |lst h n J=>
   refine⟨trivial,_,rfl,fun z _ _ L=>?_⟩;cases L with
   |lst h n J=>exact⟨_,WE.of h,J⟩
 |scr xs=>
  cases h;cases r with
  |scr h J=>
   refine⟨trivial,_,rfl,fun z _ _ L=>?_⟩;cases L with
   |scr h J=>exact⟨_,h.seq,J⟩
 |ref k=>
  simp only[Xj] at h;split at h
  .rename_i xs F;cases h;refine⟨F,?_⟩;cases r with
   |ref ha=>
    refine⟨_,rfl,fun z P c2 L=>?_⟩;obtain⟨a',vs,e,_,S,J⟩:=lJ P c2 L;cases e;exact(⟨vs,WE.of S,J⟩)
  .cases h
 |_=>cases h
def WH(ea:EV):IV:=fun B O=>(ea B O).bind fun p=>(Xj p.2 p.1).bind fun s=>some (s,p.2)
theorem fA(ha:PE X a (tD K ea))(hK:X.K=K:=by rfl):PI X tg a (Xt K<|WH ea):=lL (iL K ha hK) fun J H R h=>by
 refine XE h fun W B its c Z6 eH ok en e q=>?_;subst eH;refine dF e fun p1 e1 e=>?_;refine dF e fun s e2 e=>?_;cases e;refine⟨W,B,p1.1,p1.2,rfl,ok,en,e1,fun v W1 Z2 L s1 S=>?_⟩;obtain⟨c0,a,rfl,hh⟩:=wO L (by rw[Z2];exact e2) S;obtain⟨Ã,h0,_⟩:=hh W1 L c0 S;refine(⟨a,rfl,⟨_,h0⟩,q (Ϻ K a) W1 Z2 L s1 ⟨c0,[p1.1],[.ref a],.cons S .nil,fun W2 i P c2 F=>?_⟩⟩);cases F with
 |cons F _=>
  obtain⟨vs,hs,hv⟩:=hh W2 P c2 F;refine⟨fun hi=>⟨vs,hs,by rw[←hv.length];exact hi⟩,fun d hd=>?_⟩;obtain⟨v,z,m4⟩:=hv.get hd;refine(⟨⟨vs,v,hs,z⟩,fun x H' y=>?_⟩);obtain⟨rfl,y⟩:=y;have:=y vs hs;rw[z] at this;cases this;exact⟨W2,rfl,rfl,P,.refl,m4⟩
def η(ea:EV):IV:=fun B O=>(ea B O).bind fun p=>(iz p.1).bind fun ds=>some ((ds,none),p.2)
theorem pc(ha:PE X a (tD K ea))(hK:X.K=K:=by rfl):PI X tg a (Xt K<|η ea):=lL (iT K ha hK) fun J H R h=>by
 refine XE h fun W B its c Z6 eH ok en e q=>?_;subst eH;refine dF e fun p1 e1 e=>?_;refine dF e fun s e2 e=>?_;cases e;refine⟨W,B,p1.1,p1.2,rfl,ok,en,e1,fun v W1 Z2 F s1 r1=>?_⟩;obtain⟨a,Ã,rfl,h0,_⟩:=jM e2 r1;refine(⟨a,rfl,⟨_,h0⟩,q (Ė K a) W1 Z2 F s1 ⟨trivial,[p1.1],[.ref a],.cons r1 .nil,fun W2 i z c2 P=>?_⟩⟩);cases P with
 |cons P _=>
  obtain⟨a',vs,e',hs,hv⟩:=jM e2 P;cases e';refine⟨fun hi=>⟨vs,hs,by rw[←hv.length];exact hi⟩,fun d hd=>?_⟩;obtain⟨v,L,S⟩:=hv.get hd;refine(⟨⟨vs,v,hs,L⟩,fun x H' y=>?_⟩);obtain⟨rfl,y⟩:=y;have:=y vs hs;rw[L] at this;cases this;exact⟨W2,rfl,rfl,z,.refl,S⟩
def eT(lo:Int)(n:Nat):List D:=(List.range n).map fun k:Nat=>D.int (lo+k)
theorem uF:JR K W (nY lo n) (eT lo n) none:=by
 refine⟨trivial,[],[],.nil,fun L i J _ _=>⟨fun hi=>?_,fun d hd=>?_⟩⟩
 .show n<=i;simpa[eT] using hi
 .have H:=(Sn.mp hd).1;simp[eT] at H;simp[eT,H] at hd;subst hd;refine⟨H,fun x H' y=>?_⟩;obtain⟨rfl,rfl⟩:=y;exact(⟨L,rfl,rfl,J,.refl,.int _⟩)
def X1(ea:EV):IV:=fun B O=>(ea B O).bind fun p=>match p.1 with
 | .int j=>if -1000000000<=j/\j<=1000000000 then some ((eT 0 j.toNat,none),p.2) else none|_=>none
theorem jU(z:X.mg "range"=none) (ha:PE X a (tD K ea)) (hg:Gl X "range":=by rfl) (S:WX X a:=by rfl):PI X tg (.Call (.Name "range" p) [a] [] pos) (Xt K<|X1 ea):=lL (iR z ha hg S) fun J H R h=>by
 refine XE h fun W B F c Z6 eH ok en e q=>?_;subst eH;refine dF e fun p1 e1 e=>?_;split at e
 .rename_i j hj;split at e
  .rename_i hb;cases e;refine⟨W,B,p1.1,p1.2,rfl,ok,en,e1,fun v W1 Z2 L s1 P=>?_⟩;rw[hj] at P;cases P;exact⟨j,rfl,by omega,by omega,q _ W1 Z2 L s1 uF⟩
  .cases e
 .cases e
def lS(ea eb:EV):IV:=fun B O=>(ea B O).bind fun p=>(eb B p.2).bind fun r=>match p.1,r.1 with
 | .int i,.int j=>if(-1000000000<=i/\i<=1000000000)/\-1000000000<=j/\j<=1000000000 then some ((eT i (j - i).toNat,none),r.2) else none|_,_=>none
theorem Dj(mr:X.mg "range"=none) (ha:PE X a (tD K ea)) (hb:PE X b (tD K eb)) (hg:Gl X "range":=by rfl) (hs:YO X a b:=by rfl) (z:WX X b:=by rfl):
  PI X tg (.Call (.Name "range" p) [a,b] [] pos) (Xt K<|lS ea eb):=lL (_W mr ha hb hg hs z) fun J H R h=>by
 refine XE h fun W B its c Z6 eH ok en e q=>?_;subst eH;refine dF e fun p1 e1 e=>?_;refine dF e fun p2 e2 e=>?_;split at e
 .rename_i i j hi hj;split at e
  .rename_i hb;cases e;refine⟨W,B,p1.1,p1.2,rfl,ok,en,e1,fun v W1 Z2 P s1 S=>⟨W1,B,p2.1,p2.2,rfl,P,en.step ok s1,by rw[Z2];exact e2,fun y W2 ZV L s2 F=>?_⟩⟩;rw[hi] at S;rw[hj] at F;cases S;cases F;exact⟨i,j,rfl,⟨by omega,by omega,by omega,by omega⟩,q _ W2 ZV L (s1.trans s2) uF⟩
  .cases e
 .cases e
def ft(c:Ck)(g:GV)(body:SV):List D->SV
 | [],B,O=>some (.nx,B,O)|d::r,B,O=>(g d B O).bind fun p=>(body p.1 p.2).bind fun o=>match o.1 with
  | .nx=>XU (eL c o.2.2) (ft c g body r o.2.1 o.2.2)| .ct=>XU (eL c o.2.2) (ft c g body r o.2.1 o.2.2)| .bk=>some (.nx,o.2)| .rt d=>some (.rt d,o.2)
def fW(iv:IV)(g:GV)(body:SV):SV:=fun B O=>(iv B O).bind fun s=>ft s.1.2 g body s.1.1 B s.2
theorem gD(hp:PassesOwn (model X.prog X.w) X.A X.env X.xe)(hc:X.calm=true)(hi:PI X tg iter (Xt K iv))(hg:PG X tg (XT K g))(hb:Wo X body (XI K sb))
  (hs:YN X iter:=by intro _;rfl):PS X (.For tg iter body [] pos) (XI K<|fW iv g sb):=gk (Ci hp hc hi hg hb hs) fun D J H h=>by
 refine XE h fun W B o ZZ Z6 eH ok en e q=>?_;subst eH;obtain⟨⟨⟨L,c⟩,Z5⟩,e1,e⟩:=Wc e;refine(⟨W,B,L,c,Z5,rfl,ok,en,e1,fun Z7 W1 ZL Xq s1 jr=>?_⟩);obtain⟨c1,ds,vs,r1,hj⟩:=jr;obtain⟨P,hP⟩:∃P:Nat->St->Hp->Prop,∀i ZW H2,P i ZW H2↔(i<=L.length/\∃W2 ZX,W2.H=H2/\Ok K W2/\Step W1 W2/\V5 K W2 ZX ZW/\eL c W2.O/\ft c g sb (L.drop i) ZX W2.O=some (o,ZZ,Z6)):=⟨_,fun _ _ _=>SE⟩
 refine⟨fun i m ZW H2=>m=L.length - i/\P i ZW H2,⟨L.length,by simp,(hP _ _ _).2 ⟨Ta _,W1,B,rfl,Xq,.refl,en.step ok s1,c1,by rw[ZL];exact e⟩⟩,?_⟩;rintro i m ZW H2 ⟨rfl,hi⟩;refine bq fun hG=>?_;obtain⟨hi,W2,ZX,rfl,XJ,s2,Xz,c2,z⟩:=(hP _ _ _).1 hi;obtain⟨Wm,YC⟩:=hj W2 i XJ c2 (r1.step Xq s2);by_cases S:i<L.length
 .have hd:L[i]?=some L[i]:=Sq S;obtain⟨h1,h2⟩:=YC _ hd;rw[Tf S] at z;refine dF z fun p e3 z=>?_;obtain⟨⟨o4,Zs,Zx⟩,e4,z⟩:=Wc z;refine(hG<|.inr ⟨h1,P (i+1),fun Z0 H' hN=>⟨L.length - (i+1),by omega,rfl,hN⟩,fun x H' hy=>?_⟩);refine bq fun hF=>?_;obtain⟨W3,rfl,ZS,YA,s3,r3⟩:=h2 x H' hy;refine hF ⟨W3,ZX,L[i],p.1,p.2,rfl,YA,Xz.step XJ s3,r3,by rw[ZS];exact e3,fun W4 ZP ZE Xh s4 Xy=>⟨W4,p.1,o4,Zs,Zx,rfl,Xh,Xy,by rw[ZE];exact e4,fun W5 Zq ZO F s5 ϴ=>?_⟩⟩;have st:=s2.trans (s3.trans<|s4.trans s5);cases o4 with
  |nx=>refine i6 z fun π z=>?_;exact(hP _ _ _).2 ⟨S,W5,Zs,rfl,F,st,ϴ,by rw[ZO];exact π,by rw[ZO];exact z⟩|ct=>refine i6 z fun π z=>?_;exact(hP _ _ _).2 ⟨S,W5,Zs,rfl,F,st,ϴ,by rw[ZO];exact π,by rw[ZO];exact z⟩|bk=>cases z;exact q W5 Zq ZO F (s1.trans st) ϴ
  |rt d=>cases z;exact q W5 Zq ZO F (s1.trans st) ϴ
 .have e':i=L.length:=by omega
  subst e';rw[TH (Sm _)] at z;cases z;exact hG (.inl ⟨Wm (Sm _),q W2 ZW rfl XJ (s1.trans s2) Xz⟩)
end
structure WJ (p:Addr) (W W':Wd):Prop where
 ρ:∀(k:Nat) a,W.ρ[k]?=some a->W'.ρ[k]?=some a
 live:∀a,RL W' a->RL W a\/W.H a=none
 keep:∀a o,a≠p->W.H a=some o->¬RL W a->W'.H a=some o
 hid:W'.hid=W.hid
 still:∀a,W.H a≠none->W'.H a≠none
section
variable {K:Frag} {W W' ϟ:Wd} {p:Addr}
theorem Step.b(s:Step W W'):WJ p W W':=⟨s.ρ,s.live,fun a o _ h n=>s.keep a o h n,s.hid,s.still⟩
theorem WJ.nlive(s:WJ p W W')(h:W.H a=some o)(n:¬RL W a):¬RL W' a:=fun z=>by
 rcases s.live a z with z|z
 .exact n z
 .rw[h] at z;cases z
theorem WJ.trans(s:WJ p W W')(t:WJ p W' ϟ):WJ p W ϟ where
 ρ k a h:=t.ρ k a (s.ρ k a h)
 live a h:=by
  rcases t.live a h with z|z
  .exact s.live a z
  .exact .inr (Tp fun n=>s.still a n z)
 keep a o hp h n:=t.keep a o hp (s.keep a o hp h n) (s.nlive h n)
 hid:=t.hid.trans s.hid
 still a h:=t.still a (s.still a h)
mutual
theorem DR.stepB(ok:Ok K W)(S:W.hid p)(F:∃ys,W.H p=some (.lst ys))(s:WJ p W W'):∀{d:D} {v:V},DR K W d v->DR K W' d v
 |_,_,.non=>.non|_,_,.bl b=>.bl b|_,_,.int i=>.int i|_,_,.str x=>.str x|_,_,.ref h=>.ref (s.ρ _ _ h)|_,_,.lst r n h=>.lst (s.keep _ _ (fun z=>n<|.inr (by rw[z];exact S)) r<|fun z=>n<|.inl z) (fun z=>z.elim (s.nlive r<|fun z=>n<|.inl z)<|fun z=>n<|.inr (by rw[s.hid] at z;exact z)) (V2.stepB ok S F s h)|_,_,.scr r h=>.scr (by
   rcases r with⟨o,r⟩|r
   .obtain⟨ys,F⟩:=F;exact .inl ⟨o,s.keep _ _ (fun z=>by rw[z,F] at r;cases r) r<|ok.nofrz r⟩
   .exact .inr r) (V2.stepB ok S F s h)
 |_,_,.tup r h=>.tup (by obtain⟨ys,F⟩:=F;exact s.keep _ _ (fun z=>by rw[z,F] at r;cases r) r (ok.notup<|.inl r)) (V2.stepB ok S F s h)
 |_,_,.gt r h=>.gt (by
   rcases r with r|r
   .have n:=ok.notup r;obtain⟨ys,F⟩:=F;rcases r with r|⟨o,r⟩
    .exact .inl (.inl<|s.keep _ _ (fun z=>by rw[z,F] at r;cases r) r n)
    .exact .inl (.inr ⟨o,s.keep _ _ (fun z=>by rw[z,F] at r;cases r) r n⟩)
   .exact .inr r) (V2.stepB ok S F s h)
theorem V2.stepB(ok:Ok K W)(z:W.hid p)(F:∃ys,W.H p=some (.lst ys))(s:WJ p W W'):∀{ds:List D} {vs:ŗ},V2 K W ds vs->V2 K W' ds vs
 |_,_,.nil=>.nil|_,_,.cons h t=>.cons (h.stepB ok z F s) (V2.stepB ok z F s t)
end
theorem OR.stepB(ok:Ok K W)(z:W.hid p)(F:∃ys,W.H p=some (.lst ys))(s:WJ p W W')(h:OR K W a o S):OR K W' a o S:=by
 cases o with
 |lst ds=>obtain⟨vs,e,q⟩:=h;exact⟨vs,e,q.stepB ok z F s⟩
 |dK kvs=>obtain⟨vs,e,q⟩:=h;exact⟨vs,e,Paired.mapP q fun _ _ ⟨e,q⟩=>⟨e,q.stepB ok z F s⟩⟩
 |dN kvs=>obtain⟨vs,e,q⟩:=h;exact⟨vs,e,Paired.mapP q fun _ _ ⟨e,q⟩=>⟨e,q.stepB ok z F s⟩⟩
 |ins C fs=>obtain⟨vs,e,q⟩:=h;exact⟨vs,e,Paired.mapP q fun _ _ ⟨e,q⟩=>⟨e,q.stepB ok z F s⟩⟩
 |exc C=>exact h
theorem V5.stepB(e:V5 K W B J)(ok:Ok K W)(z:W.hid p)(F:∃ys,W.H p=some (.lst ys))(s:WJ p W W'):V5 K W' B J:=⟨e.len,fun i d h=>let ⟨v,a,b⟩:=e.at_ i d h;⟨v,a,b.stepB ok z F s⟩⟩
def Wd.re(W:Wd)(p:Addr)(o:HO):Wd:={W with H:=upd W.H p o}
theorem ko:WJ p W (W.re p o) where
 ρ _ _ h:=h
 live _ h:=.inl h
 keep a u hp e _:=by show upd W.H p o a=_;rw[eG hp];exact e
 hid:=rfl
 still a n:=by
  show upd W.H p o a≠none;by_cases e:a=p
  .subst e;rw[fL];simp
  .rw[eG e];exact n
theorem Az(ok:Ok K W)(hp:W.hid p)(hl:∃ys,W.H p=some (.lst ys)):Ok K (W.re p o) where
 len:=ok.len
 nd:=ok.nd
 rs a m:=(ko (W:=W) (p:=p) (o:=o)).still a (ok.rs a m)
 at_ k u e:=by obtain⟨a,ho,h1,h2,h3⟩:=ok.at_ k u e;have Wz:a≠p:=fun z=>(ok.hd p hp).2 (z▸⟨k,u,e,h1⟩);exact⟨a,ho,h1,by show upd W.H p o a=_;rw[eG Wz];exact h2,h3.stepB ok hp hl ko⟩
 hd0 a z:=⟨(ko (W:=W) (p:=p) (o:=o)).still a (ok.hd a z).1,(ok.hd0 a z).2⟩
mutual
theorem DR.hide(F:W.H p=none)(ok:Ok K W){o:HO}:∀{d:D} {v:V},DR K W d v->DR K (W.hide p o) d v
 |_,_,.non=>.non|_,_,.bl b=>.bl b|_,_,.int i=>.int i|_,_,.str x=>.str x|_,_,.ref h=>.ref h|_,_,.lst r n h=>.lst (by show upd W.H p o _=_;rw[eG (gA r F)];exact r) (fun z=>z.elim (fun z=>n<|.inl z)<|fun z=>z.elim (fun z=>by rw[z,F] at r;cases r)<|fun z=>n<|.inr z) (V2.hide F ok h)
 |_,_,.scr r h=>.scr (Dw ok (fM F) r) (V2.hide F ok h)|_,_,.tup r h=>.tup (by show upd W.H p o _=_;rw[eG (gA r F)];exact r) (V2.hide F ok h)|_,_,.gt r h=>.gt (Ei ok (fM F) r) (V2.hide F ok h)
theorem V2.hide(z:W.H p=none)(ok:Ok K W){o:HO}:∀{ds:List D} {vs:ŗ},V2 K W ds vs->V2 K (W.hide p o) ds vs
 |_,_,.nil=>.nil|_,_,.cons h t=>.cons (h.hide z ok) (V2.hide z ok t)
end
theorem OR.hide(z:W.H p=none)(ok:Ok K W)(h:OR K W a x F):OR K (W.hide p o) a x F:=by
 cases x with
 |lst ds=>obtain⟨vs,e,q⟩:=h;exact⟨vs,e,q.hide z ok⟩
 |dK kvs=>obtain⟨vs,e,q⟩:=h;exact⟨vs,e,Paired.mapP q fun _ _ ⟨e,q⟩=>⟨e,q.hide z ok⟩⟩
 |dN kvs=>obtain⟨vs,e,q⟩:=h;exact⟨vs,e,Paired.mapP q fun _ _ ⟨e,q⟩=>⟨e,q.hide z ok⟩⟩
 |ins C fs=>obtain⟨vs,e,q⟩:=h;exact⟨vs,e,Paired.mapP q fun _ _ ⟨e,q⟩=>⟨e,q.hide z ok⟩⟩
 |exc C=>exact h
theorem V5.hide(e:V5 K W B J)(z:W.H p=none)(ok:Ok K W):V5 K (W.hide p o) B J:=⟨e.len,fun i d h=>let ⟨v,a,b⟩:=e.at_ i d h;⟨v,a,b.hide z ok⟩⟩
theorem qG(ok:Ok K W)(hp:W.H p=none):Ok K (W.hide p o) where
 len:=ok.len
 nd:=ok.nd
 rs a m:=(fM (o:=o) hp).still a (ok.rs a m)
 at_ k u e:=by obtain⟨a,ho,h1,h2,h3⟩:=ok.at_ k u e;exact⟨a,ho,h1,by show upd W.H p o a=_;rw[eG (gA h2 hp)];exact h2,h3.hide hp ok⟩
 hd0 a z:=by
  rcases z with rfl|z
  .exact⟨by show upd W.H a o a≠none;rw[fL];simp,fun m=>ok.rs a m hp⟩
  .exact⟨(fM (o:=o) hp).still a (ok.hd a z).1,(ok.hd0 a z).2⟩
def Wd.show(W:Wd)(h:Addr->Prop):Wd:={W with hid:=h}
mutual
theorem DR.show(F:∀a,h a->W.hid a):∀{d:D} {v:V},DR K W d v->DR K (W.show h) d v
 |_,_,.non=>.non|_,_,.bl b=>.bl b|_,_,.int i=>.int i|_,_,.str x=>.str x|_,_,.ref h=>.ref h|_,_,.lst r n h=>.lst r (fun z=>n<|z.elim .inl<|fun z=>.inr<|F _ z) (V2.show F h)|_,_,.scr r h=>.scr r (V2.show F h)|_,_,.tup r h=>.tup r (V2.show F h)|_,_,.gt r h=>.gt r (V2.show F h)
theorem V2.show(z:∀a,h a->W.hid a):∀{ds:List D} {vs:ŗ},V2 K W ds vs->V2 K (W.show h) ds vs
 |_,_,.nil=>.nil|_,_,.cons h t=>.cons (h.show z) (V2.show z t)
end
theorem Kh(ok:Ok K W)(hs:∀a,h a->W.hid a):Ok K (W.show h) where
 len:=ok.len
 nd:=ok.nd
 rs:=ok.rs
 at_ k u e:=by
  obtain⟨a,ho,h1,h2,h3⟩:=ok.at_ k u e;refine(⟨a,ho,h1,h2,?_⟩);cases u with
  |lst ds=>obtain⟨vs,e,q⟩:=h3;exact⟨vs,e,q.show hs⟩
  |dK kvs=>obtain⟨vs,e,q⟩:=h3;exact⟨vs,e,Paired.mapP q fun _ _ ⟨e,q⟩=>⟨e,q.show hs⟩⟩
  |dN kvs=>obtain⟨vs,e,q⟩:=h3;exact⟨vs,e,Paired.mapP q fun _ _ ⟨e,q⟩=>⟨e,q.show hs⟩⟩
  |ins C fs=>obtain⟨vs,e,q⟩:=h3;exact⟨vs,e,Paired.mapP q fun _ _ ⟨e,q⟩=>⟨e,q.show hs⟩⟩
  |exc C=>exact h3
 hd0 a z:=ok.hd0 a (hs a z)
theorem Jj(hp:W.H p=none)(s:WJ p (W.hide p o) W'):Step W (W'.show W.hid) where
 ρ k a h:=s.ρ k a h
 live a z:=by
  rcases s.live a z with z|z
  .exact .inl z
  .have z:upd W.H p o a=none:=z;by_cases e:a=p
   .subst e;rw[fL] at z;cases z
   .rw[eG e] at z;exact .inr z
 keep a u e n:=s.keep a u (gA e hp) (by show upd W.H p o a=_;rw[eG (gA e hp)];exact e) n
 hid:=rfl
 still a n:=s.still a (by
  show upd W.H p o a≠none;by_cases e:a=p
  .subst e;rw[fL];simp
  .rw[eG e];exact n)
theorem lT(ok:Ok K W)(z:W.hid p):¬RL W p:=(ok.hd p z).2
end
def ff(own:Ŗ)(cap:ő)(B:G):G:=own.map (fun _=>none)++cap.map fun p=>(B[p.2]?).join
theorem V5.cap{K:Frag}{W:Wd}{B:G}{J:St}(e:V5 K W B J)(own:Ŗ)(cap:ő):V5 K W (ff own cap B) (gb own cap J) where
 len:=by simp[ff,gb]
 at_ i d h:=by
  unfold ff at h;unfold gb;by_cases hi:i<own.length
  .rw[SM (by simpa using hi)] at h;simp[hi] at h
  .rw[Tb (by simpa using hi)] at h⊢;simp only[Sv,S0] at h⊢;cases hc:cap[i - own.length]? with
   |none=>rw[hc] at h;cases h
   |some p=>
    rw[hc] at h;simp only[Vh] at h⊢;cases hg:B[p.2]? with
    |none=>rw[hg] at h;cases h
    |some x=>
     rw[hg] at h;cases x with
     |none=>cases h
     |some d'=>
      cases h;obtain⟨v,hv,r⟩:=e.at_ _ _ hg;exact⟨v,by rw[hv];rfl,r⟩
def fo(c:Ck)(g:GV)(tc:BV)(te:EV):List D->G->M->Option (List D×M)
 | [],_,O=>some ([],O)|d::r,B,O=>(g d B O).bind fun p=>(tc p.1 p.2).bind fun t=>if t.1=true then(te p.1 t.2).bind fun v=>XU (eL c v.2) ((fo c g tc te r p.1 v.2).bind fun q=>some (v.1::q.1,q.2)) else XU (eL c t.2) (fo c g tc te r p.1 t.2)
def eC:BV:=fun _ O=>some (true,O)
section
variable {X:Cx} {K:Frag} {N' own:Ŗ} {cap:ő} {scope:Scope} {tg iter elt:Expr} {ifs:Ř} {pos:Pos} {iv:IV} {g:GV} {tc:BV} {te:EV}
theorem KI(h:XA X ifs t)(hi:∀J H Q,t' J H Q->t J H Q):XA X ifs t':=fun pins s J H Q I L=>h pins s J H Q I (hi _ _ _ L)
theorem fU:XA X [] (WO K eC):=KI J4 fun J H Q h=>by refine Wf h fun W B b Z6 L ok en e q=>?_;subst L;cases e;exact q W rfl ok .refl
theorem jz(h:PT X c (WO K tc)):XA X [c] (WO K tc):=Gu h
theorem BQ{W1:Wd}{Z7:It}{its:List D}{c:Ck}{ZD:G}{ZN:St}{rs:List D}{Z6:M}{p:Addr}{Z:Hp->Prop}(Xq:Ok K W1)(hp:W1.H p=none)(jr:JR K W1 Z7 its c)(en:V5 K W1 ZD ZN)(hl:its.length<=1000000)
  (e:fo c g tc te its ZD W1.O=some (rs,Z6)) (hZ:∀W' ys,W'.O=Z6->Ok K W'->WJ p (W1.hide p<|.lst []) W'->W'.hid p->W'.H p=some (.lst ys)->V2 K W' rs ys->Z W'.H):
  mZ Z7 (XT K g) (WO K tc) (tD K te) p ZN W1.H Z:=by
 obtain⟨c1,ds,vs,r1,hj⟩:=jr;obtain⟨P,hP⟩:∃P:Nat->St->Hp->Prop,∀i ZW H2,P i ZW H2↔(i<=its.length/\∃z ZX done eE ys,z.H=H2/\Ok K z/\WJ p (W1.hide p<|.lst []) z/\z.hid p/\z.H p=some (.lst ys)/\V2 K z done ys/\ys.length<=i/\V5 K z ZX ZW/\eL c z.O/\fo c g tc te (its.drop i) ZX z.O=some (eE,Z6)/\done++eE=rs):=⟨_,fun _ _ _=>SE⟩
 refine⟨fun i m ZW H2=>m=its.length - i/\P i ZW H2,?_,?_⟩
 .exact⟨its.length,by simp,(hP _ _ _).2 ⟨Ta _,W1.hide p (.lst []),ZD,[],rs,[],rfl,qG Xq hp,⟨fun _ _ h=>h,fun _ h=>.inl h,fun _ _ _ h _=>h,rfl,fun _ h=>h⟩,.inl rfl,fL,.nil,Sm _,en.hide hp Xq,c1,e,rfl⟩⟩
 rintro i m ZW H2 ⟨rfl,hi⟩;refine bq fun hG=>?_;obtain⟨hi,z,ZX,done,eE,ys,rfl,L,s2,S,Y1,rd,hyl,Xz,c2,J,ed⟩:=(hP _ _ _).1 hi;have rj:V2 K z ds vs:=(r1.hide hp Xq).stepB (qG Xq hp) (.inl rfl) ⟨[],fL⟩ s2;obtain⟨Wm,YC⟩:=hj z i L c2 rj;by_cases hlt:i<its.length
 .have hd:its[i]?=some its[i]:=Sq hlt;obtain⟨h1,h2⟩:=YC _ hd;rw[Tf hlt] at J;refine dF J fun pg e3 J=>?_;refine dF J fun pt e4 J=>?_;refine(hG<|.inr ⟨h1,P (i+1),fun Z0 H' hN=>⟨its.length - (i+1),by omega,rfl,hN⟩,fun x H' hy=>?_⟩);refine bq fun hF=>?_;obtain⟨W3,rfl,ZS,YA,s3,r3⟩:=h2 x H' hy;refine hF ⟨W3,ZX,its[i],pg.1,pg.2,rfl,YA,Xz.step L s3,r3,by rw[ZS];exact e3,fun W4 ZP ZE Xh s4 Xy=>⟨W4,pg.1,pt.1,pt.2,rfl,Xh,Xy,by rw[ZE];exact e4,fun W5 ZO YV s5=>?_⟩⟩;have F:=s3.trans (s4.trans s5);split at J
  .rename_i ht;refine dF J fun pv e5 J=>?_;refine i6 J fun c5 J=>?_;refine dF J fun pq e6 J=>?_;cases J;refine lg (fun _=>?_) (fun n=>absurd ht n);refine⟨W5,pg.1,pv.1,pv.2,rfl,YV,Xy.step Xh s5,by rw[ZO];exact e5,fun v W6 Zw YU s6 r6=>?_⟩;have s26:=F.trans s6;have Zi:W6.hid p:=by rw[s26.hid];exact S
   have Yz:W6.H p=some (.lst ys):=s26.keep _ _ Y1 (lT L S);have rd6:=rd.step L s26;refine⟨ys,Yz,pO ⋯,(hP _ _ _).2 ⟨hlt,W6.re p (.lst<|ys++[v]),pg.1,done++[pv.1],pq.1,ys++[v],rfl,Az YU Zi ⟨_,Yz⟩,(s2.trans s26.b).trans ko,Zi,fL,?_,by simp;omega,(((Xy.step Xh s5).step YV s6).stepB YU Zi ⟨_,Yz⟩ ko),by show eL c W6.O;rw[Zw];exact c5,by show fo c g tc te _ _ W6.O=_;rw[Zw];exact e6,by simpa using ed⟩⟩;exact(rd6.append<|.cons r6 .nil).stepB YU Zi ⟨_,Yz⟩ ko
  .rename_i ht;refine i6 J fun c5 J=>?_;refine lg (fun n=>absurd n ht) (fun _=>?_);exact(hP _ _ _).2 ⟨hlt,W5,pg.1,done,eE,ys,rfl,YV,s2.trans F.b,by rw[F.hid];exact S,F.keep _ _ Y1 (lT L S),rd.step L F,by omega,Xy.step Xh s5,by rw[ZO];exact c5,by rw[ZO];exact J,ed⟩
 .have e':i=its.length:=by omega
  subst e';rw[TH (Sm _)] at J;cases J;rw[Tq] at ed;subst ed;exact hG (.inl ⟨Wm (Sm _),hZ z ys rfl L s2 S Y1 rd⟩)
def eW(own:Ŗ)(cap:ő)(iv:IV)(g:GV)(tc:BV)(te:EV):EV:=fun B O=>(iv B O).bind fun s=>if s.1.1.length<=1000000 then(fo s.1.2 g tc te s.1.1 (ff own cap B) s.2).bind fun q=>some (.lst q.1,q.2) else none
theorem xT{W W1 W':Wd}{p:Addr}{rs:List D}{ys:ŗ}(s1:Step W W1)(hp:W1.H p=none)(S:Ok K W1)(F:Ok K W')(s:WJ p (W1.hide p<|.lst []) W')(ï:W'.hid p)(hy:W'.H p=some (.lst ys))(r:V2 K W' rs ys):
  Ok K (W'.show W1.hid)/\Step W (W'.show W1.hid)/\DR K (W'.show W1.hid) (.lst rs) (.ref p):=by
 have J:∀a,W1.hid a->W'.hid a:=fun a z=>by rw[s.hid];exact .inr z
 refine⟨Kh F J,s1.trans (Jj hp s),.lst hy (fun z=>?_)<|r.show J⟩;rcases z with z|z
 .exact lT F ï z
 .exact CW S hp z
theorem D6{W:Wd}{B:G}{J:St}{d:D}{Z6:M}(ok:Ok K W)(en:V5 K W B J)(e:eW own cap iv g tc te B W.O=some (d,Z6)){Z:Addr->Hp->Prop}(q:∀v W',W'.O=Z6->Ok K W'->Step W W'->DR K W' d v->∀p,v=.ref p->Z p W'.H):
  Xt K iv J W.H fun Z7 H1=>∀p,H1 p=none->mZ Z7 (XT K g) (WO K tc) (tD K te) p (gb own cap J) H1 (Z p):=by
 obtain⟨⟨⟨z,c⟩,Z5⟩,e1,e⟩:=Wc e;refine(⟨W,B,z,c,Z5,rfl,ok,en,e1,fun Z7 W1 ZL L s1 jr p S=>?_⟩);split at e
 .rename_i hl;obtain⟨⟨rs,Z4⟩,e2,e⟩:=Wc e;cases e;refine BQ L S jr ((en.step ok s1).cap own cap) hl (by rw[ZL];exact e2) fun W' ys Zm P s' F hy r=>?_;obtain⟨a1,a2,a3⟩:=xT s1 S L P s' F hy r;exact(q _ (W'.show W1.hid) Zm a1 a2 a3 p rfl)
 .cases e
theorem ge(S:VZ X N' own cap scope)(hi:PI X tg iter (Xt K iv))
  (hg:∀cl C Z3 Z1 ex,PG (eg X N' scope cl C Z3 Z1 ex) tg<|XT K g) (ht:∀cl C Z3 Z1 ex,XA (eg X N' scope cl C Z3 Z1 ex) ifs<|WO K tc) (he:∀cl C Z3 Z1 ex,PE (eg X N' scope cl C Z3 Z1 ex) elt<|tD K te)
  (F:hI X:=by exact fun _ _ z=>z) (hc:X.calm=true:=by rfl) (hs:YN X iter:=by intro _;rfl):
  PE X (.ListComp elt [⟨tg,iter,ifs,0⟩] scope pos) (tD K<|eW own cap iv g tc te):=eK (Pp S hi hg ht he F hc hs) fun J H Q h=>by
 refine Wf h fun W B d Z6 eH ok en e q=>?_;subst eH;exact D6 ok en e fun v W' h1 h2 h3 P p L=>by subst L;exact q _ W' h1 h2 h3 P
theorem P8{i:Nat}{y:Str}{py F:Pos}(hN:X.N.Nodup)(ξ:X.N[i]?=some y)(hy:X.env.scope.names.lookup y=some .local)(S:VZ X N' own cap scope)(hi:PI X tg iter (Xt K iv))
  (hg:∀cl C Z3 Z1 ex,PG (eg X N' scope cl C Z3 Z1 ex) tg<|XT K g) (ht:∀cl C Z3 Z1 ex,XA (eg X N' scope cl C Z3 Z1 ex) ifs<|WO K tc) (he:∀cl C Z3 Z1 ex,PE (eg X N' scope cl C Z3 Z1 ex) elt<|tD K te)
  (ν:swapsWith (.ListComp elt [⟨tg,iter,ifs,0⟩] scope pos) (some<|.Name y py) F.line X.env=pure true:=by rfl)
  (hx:hI X:=by exact fun _ _ z=>z) (hc:X.calm=true:=by rfl) (hs:YN X iter:=by intro _;rfl):
  PS X (.Assign [.Name y py] (.ListComp elt [⟨tg,iter,ifs,0⟩] scope pos) F) (XI K<|dQ (eW own cap iv g tc te)<|dC i):=gk (Qe hN ξ hy S hi hg ht he ν hx hc hs) fun D J H h=>by
 refine XE h fun W B o ZZ Z6 eH ok en e q=>?_;subst eH;refine dF e fun p1 e1 e=>?_;cases e;exact D6 (Z:=fun p H2=>D.nx (J.set i<|some<|.ref p) H2) ok en e1 fun v W' h1 h2 L h4 p P=>by subst P;exact q W' _ h1 h2 L ((en.step ok L).set h4 i)
end
open PyProof.Rows (envOfC)
def eR(n m:Nat)(es:SV):C0:=fun ds O=>if ds.length=m then(es (ds.map some++List.replicate (n - ds.length) none) O).bind fun o=>match o.1 with
  | .rt d=>some (d,o.2.2)| .nx=>some (.non,o.2.2)|_=>none
 else none
section
variable {P:Program} {w:World} {K:Frag} {mg:œ} {base:Heap}
theorem Ak{W:Wd}{ds:List D}{vs:ŗ}{n:Nat}(r:V2 K W ds vs):V5 K W (ds.map some++List.replicate (n - ds.length) none) (vs.map some++List.replicate (n - vs.length) none) where
 len:=by simp[r.length]
 at_ i d h:=by
  by_cases hi:i<ds.length
  .rw[SM (by simpa using hi)] at h;rw[SM (by simpa using r.length▸hi)];simp only[S0] at h⊢;cases hd:ds[i]? with
   |none=>rw[hd] at h;cases h
   |some d'=>
    rw[hd] at h;cases h;obtain⟨v,hv,q⟩:=r.get hd;exact⟨v,by rw[hv];rfl,q⟩
  .rw[Tb (by simpa using hi)] at h;simp[List.getElem?_replicate] at h
theorem eX(F:WM K x qual st f fd)(S:DJ N ps (eD st))
  (hb:∀(cdv:Value) (A:Around) (outer:Š) (s:Shared) (H:Hp) (E:XK),V8 k (A.deeper<|envOfC qual (eD st) s.heap.objs.size f cdv)->Wo (eV WN P w K mg base N qual (eD st) f cdv A outer s H E).nox (ic st) (XI K es)):
  Qv P w K mg base WN (k+1) f fd ps (V1 K<|eR N.length ps.length es):=by
 refine F.ok S (fun vs H Q E h=>?_) (fun cdv A outer s H vs Q E hr h=>?_)
 .obtain⟨W,ds,d,Z6,_,_,r,e,_⟩:=h;unfold eR at e;split at e
  .rename_i hl;rw[←r.length];exact hl
  .cases e
 .obtain⟨W,ds,d,Z6,rfl,ok,r,e,q⟩:=h;refine⟨_,hb cdv A outer s W.H E hr,?_⟩;unfold eR at e;split at e
  .obtain⟨⟨o,ZZ,Z4⟩,e1,e⟩:=Wc e;refine⟨W,_,o,ZZ,Z4,rfl,ok,Ak r,e1,fun W' Z0 L J s' en'=>?_⟩;cases o with
   |rt z=>cases e;exact fun v rv=>q v W' L J s' rv
   |nx=>cases e;exact q _ W' L J s' .non
   |bk=>cases e
   |ct=>cases e
  .cases e
end
section
variable {X:Cx} {K:Frag} {a b c e:Expr} {ea eb ec:EV} {pos p:Pos}
theorem W8.or(S:W8 K r f)(F:W8 K r' g)(hh:∀x y O z,h x y O=some z->f x y O=some z\/g x y O=some z):W8 K (fun x y H Q=>r x y H Q\/r' x y H Q) h:=by
 intro W x y d e z Z6 Q ok P L J q;rcases hh _ _ _ _ J with J|J
 .exact .inl (S W x y d e z Z6 Q ok P L J q)
 .exact .inr (F W x y d e z Z6 Q ok P L J q)
theorem tx:W8 K AX qk:=by
 intro W x y d e z Z6 Q ok r1 S H q;refine dF H fun xs hx H=>?_;refine dF H fun ys hy H=>?_;split at H
 .rename_i hl;cases H;obtain⟨a,vs,rfl,ha,P⟩:=rS ok hx r1;obtain⟨b,L,rfl,hb,F⟩:=rS ok hy S;exact⟨a,b,vs,L,rfl,rfl,ha,hb,kC (by rw[←P.length,←F.length];omega),fun p J=>q _ (W.lay p<|.lst<|vs++L) rfl (gC ok J) (fM J) (pW ok J<|P.append F)⟩
 .cases H
theorem Fn:W8 K BK zc:=by
 intro W x y d e z Z6 Q ok F P H q;refine dF H fun xs S H=>?_;split at H
 .split at H
  .rename_i hl;cases H;cases P;obtain⟨a,vs,rfl,ha,L⟩:=rS ok S F;exact⟨a,_,vs,rfl,rfl,ha,by omega,by omega,kC (by rw[←L.length];omega),fun p J=>q _ (W.lay p _) rfl (gC ok J) (fM J) (pW ok J<|L.rep _)⟩
  .cases H
 .cases H
def nR(x y:D)(O:M):Fr:=match x with
 | .tup xs=>(iz y).bind fun ys=>if xs≠[]/\xs.length+ys.length<=1000000 then some (.tup (xs++ys),O) else none|_=>none
noncomputable instance{α:Type}{xs:List α}:Decidable (xs≠[]):=by cases xs<;>simp<;>infer_instance
theorem Np:W8 K (DK K) nR:=by
 intro W x y d e z Z6 Q ok S r2 H q;unfold nR at H;split at H
 .rename_i xs;refine dF H fun ys hy H=>?_;split at H
  case isFalse=>cases H
  rename_i hl;cases H;have rr:=S;obtain⟨a,vs,rfl,ha,J⟩:=jM (ds:=xs) rfl S;obtain⟨b,F,rfl,hb,L⟩:=jM hy r2;refine⟨a,b,vs,F,rfl,rfl,ha,hb,fun z=>?_,kC (by rw[←J.length,←L.length];omega),fun z=>?_,fun _ p P=>q _ (W.lay p<|.tup<|vs++F) rfl (gC ok P) (fM P) (kl ok P<|J.append L)⟩
  .have:=J.length;rw[z] at this;exact hl.1 (TX.mp this)
  .have h0:=L.length;rw[z] at h0;have h1:=TX.mp h0;subst h1;refine q _ W rfl ok .refl ?_;rw[Tq];exact rr
 .cases H
def e9(x y:D)(O:M):Fr:=match x with
 | .int i=>match y with
  | .int j=>some (.int (i+j),O)|_=>none
 | .tup _=>nR x y O|_=>qk x y O
theorem gl(S:PE X a (tD K ea))(F:PE X b (tD K eb))(hK:X.K=K:=by rfl):PE X (.BinOp a .Add b pos) (tD K<|v2 e9 ea eb):=by
 subst hK;refine nO (δ.or<|zw.or Qb) ((lq (h:=fun i j=>.int<|i+j) fun _ _ _=>.int _).or (tx.or Np (h:=fun x y O=>match x with| .tup _=>nR x y O|_=>qk x y O) fun x y O z h=>?_) fun x y O z h=>?_) S F
 .split at h
  .exact .inr h
  .exact .inl h
 .unfold e9 at h;split at h
  .split at h
   .exact .inl h
   .cases h
  .exact .inr h
  .rename_i J H;refine .inr ?_;split
   .exact absurd rfl (H _)
   .exact h
def iX(x y:D)(O:M):Fr:=match x with
 | .int i=>match y with
  | .int j=>if XR i j then some (.int (i*j),O) else none|_=>none
 |_=>zc x y O
theorem qY(S:PE X a (tD K ea))(F:PE X b (tD K eb)):PE X (.BinOp a .Mult b pos) (tD K<|v2 iX ea eb):=by
 refine nO (zP.or HI) ((rm (C:=XR) (h:=fun i j=>.int<|i*j) fun _ _ _=>.int _).or Fn fun x y O z h=>?_) S F;unfold iX at h;split at h
 .split at h
  .exact .inl h
  .cases h
 .exact .inr h
def gX(f g:D->D->M->Fr)(ea eb ec:EV):EV:=fun B O=>(ea B O).bind fun p=>(eb B p.2).bind fun q=>(f p.1 q.1 q.2).bind fun t=>match t.1 with
 | .bl true=>(ec B t.2).bind fun r=>g q.1 r.1 r.2| .bl false=>some (.bl false,t.2)|_=>none
theorem Ba(ra:W8 K r f)(rb:W8 K r' g):∀J H Q,tD K (gX f g ea eb ec) J H Q->xE r r' (tD K ea) (tD K eb) (tD K ec) J H Q:=fun J H Q h=>by
 refine Wf h fun W B d Z6 eH ok en e q=>?_;subst eH;refine dF e fun p1 e1 e=>?_;refine dF e fun p2 e2 e=>?_;refine dF e fun p3 e3 e=>?_;refine⟨W,B,p1.1,p1.2,rfl,ok,en,e1,fun x W1 Z2 F s1 r1=>⟨W1,B,p2.1,p2.2,rfl,F,en.step ok s1,by rw[Z2];exact e2,fun y W2 ZV P s2 r2=>?_⟩⟩;refine ra W2 x y _ _ _ _ _ P (r1.step F s2) r2 (by rw[ZV];exact e3) fun v W3 ZS L S r3=>?_;split at e
 .rename_i hp;rw[hp] at r3;cases r3;refine dF e fun p4 e4 e=>?_;refine⟨true,rfl,uL ⟨W3,B,p4.1,p4.2,rfl,L,((en.step ok s1).step F s2).step P S,by rw[ZS];exact e4,fun z W4 ZE Xh s4 r4=>?_⟩⟩;exact rb W4 y z _ _ _ _ _ Xh ((r2.step P S).step L s4) r4 (by rw[ZE];exact e) fun v5 W5 ZO YV s5 r5=>q v5 W5 ZO YV (s1.trans<|s2.trans<|S.trans<|s4.trans s5) r5
 .rename_i hp;rw[hp] at r3;cases r3;cases e;exact⟨false,rfl,vo<|q _ W3 ZS L (s1.trans<|s2.trans S)<|.bl _⟩
 .cases e
theorem Nw(ho:Wh X (compareOp op) r)(ra:W8 K r f)(F:Wh X (compareOp z) r')(S:W8 K r' g)(ha:PE X a (tD K ea))(hb:PE X b (tD K eb))(hc:PE X c (tD K ec))
  (hm:lastMarks [op,z] [b,c]=false:=by with_unfolding_all rfl):PE X (.Compare a [op,z] [b,c] pos) (tD K<|gX f g ea eb ec):=eK (GU ho F ha hb hc hm) (Ba ra S)
theorem yx(ho:Wh X (compareOp op) r)(ra:W8 K r f)(F:Wh X (compareOp z) r')(S:W8 K r' g)(ha:PE X a (tD K ea))(hb:PE X b (tD K eb))(hc:PE X c (tD K ec))
  (hm:lastMarks [op,z] [b,c]=false:=by with_unfolding_all rfl):PT X (.Compare a [op,z] [b,c] pos) (WO K<|vT<|gX f g ea eb ec):=j1 (RH ho F ha hb hc hm) (sQ<|Ba ra S)
theorem pV:W8 K (fx fun i j=>.bl<|decide (i<j)) Xe:=lq fun _ _ _=>.bl _
theorem we:W8 K (fx fun i j=>.bl<|decide (i<=j)) aa:=lq fun _ _ _=>.bl _
end
section
variable {X:Cx} {K:Frag} {ea eb:EV} {pos p:Pos}
def li(ds:List D):List D:=ds.zipIdx.map fun x=>D.tup [.int (x.2:Nat),x.1]
theorem Lg{ds:List D}{i:Nat}{d:D}(h:(li ds)[i]?=some d):∃x,ds[i]?=some x/\d=.tup [.int (i:Nat),x]:=by
 unfold li at h;rw[S0] at h;simp only[List.getElem?_zipIdx] at h;cases H:ds[i]? with
 |none=>rw[H] at h;cases h
 |some x=>rw[H] at h;simp at h;exact⟨x,rfl,h.symm⟩
def ww(ea:EV):IV:=fun B O=>(ea B O).bind fun p=>(Xj p.2 p.1).bind fun s=>some ((li s.1,s.2),p.2)
theorem Mx(ml:X.mg "enumerate"=none) {a:Expr} {elts:Ř} {k:Nat} {XS:Pos} (ha:PE X a (tD K ea)) (hg:Gl X "enumerate":=by rfl) (F:WX X a:=by rfl) (hK:X.K=K:=by rfl):
  PI X (.Tuple elts k XS) (.Call (.Name "enumerate" p) [a] [] pos) (Xt K<|ww ea):=lL (_X K ml ha hg F hK) fun J H R h=>by
 refine XE h fun W B its c Z6 eH ok en e q=>?_;subst eH;refine dF e fun p1 e1 e=>?_;obtain⟨⟨ds,c'⟩,e2,e⟩:=Wc e;cases e;refine(⟨W,B,p1.1,p1.2,rfl,ok,en,e1,fun v W1 Z2 P s1 r1=>?_⟩);obtain⟨c0,a,rfl,hh⟩:=wO P (by rw[Z2];exact e2) r1;obtain⟨Ã,h0,_⟩:=hh W1 P c0 r1;refine(⟨a,rfl,⟨_,h0⟩,q (ė K a) W1 Z2 P s1 ⟨c0,[p1.1],[.ref a],.cons r1 .nil,fun W2 i L c2 S=>?_⟩⟩);cases S with
 |cons S _=>
  obtain⟨vs,F,hv⟩:=hh W2 L c2 S;refine⟨fun hi=>⟨vs,F,by rw[←hv.length];simpa[li] using hi⟩,fun d hd=>?_⟩;obtain⟨x,hx,rfl⟩:=Lg hd;obtain⟨v,z,m4⟩:=hv.get hx;refine(⟨⟨vs,v,F,z⟩,fun y H' hy=>?_⟩);obtain⟨p,u,rfl,hp,rfl,hu⟩:=hy;have:=hu vs F;rw[z] at this;cases this;exact⟨W2.lay p _,rfl,rfl,gC L hp,fM hp,kl L hp<|.cons (.int _)<|.cons m4 .nil⟩
def hW:List D->List D->List D
 |x::xs,y::ys=>.tup [x,y]::hW xs ys|_,_=>[]
theorem D1:∀{xs ys:List D} {i:Nat} {d:D},(hW xs ys)[i]?=some d->∃x y,xs[i]?=some x/\ys[i]?=some y/\d=.tup [x,y]
 | [],_,_,_,h=>by simp[hW] at h|_::_,[],_,_,h=>by simp[hW] at h|x::xs,y::ys,0,d,h=>by simp[hW] at h;exact⟨x,y,rfl,rfl,h.symm⟩|x::xs,y::ys,i+1,d,h=>by simp only[hW,List.getElem?_cons_succ] at h⊢;exact D1 h
theorem C2:∀{xs ys:List D} {i:Nat},(hW xs ys).length<=i->xs.length<=i\/ys.length<=i
 | [],_,_,_=>by simp|_::_,[],_,_=>by simp|x::xs,y::ys,0,h=>by simp[hW] at h|x::xs,y::ys,i+1,h=>by simp only[hW,SO,Nat.add_le_add_iff_right] at h⊢;exact C2 h
def è(ea eb:EV):IV:=fun B O=>(ea B O).bind fun p=>(eb B p.2).bind fun q=>match p.1,q.1 with
 | .lst xs,.lst ys=>some ((hW xs ys,none),q.2)|_,_=>none
theorem HX(ml:X.mg "zip"=none) {a b:Expr} {elts:Ř} {k:Nat} {XS:Pos} (ha:PE X a (tD K ea)) (hb:PE X b (tD K eb)) (hg:Gl X "zip":=by rfl) (hs:YO X a b:=by rfl) (X7:WX X b:=by rfl) (hK:X.K=K:=by rfl):
  PI X (.Tuple elts k XS) (.Call (.Name "zip" p) [a,b] [] pos) (Xt K<|è ea eb):=lL (iZ K ml ha hb hg hs X7 hK) fun J H R h=>by
 refine XE h fun W B its c Z6 eH ok en e q=>?_;subst eH;refine dF e fun p1 e1 e=>?_;refine dF e fun p2 e2 e=>?_;split at e
 .rename_i xs ys hx hy;cases e;refine⟨W,B,p1.1,p1.2,rfl,ok,en,e1,fun v W1 Z2 F s1 L=>⟨W1,B,p2.1,p2.2,rfl,F,en.step ok s1,by rw[Z2];exact e2,fun u W2 ZV XJ s2 r2=>?_⟩⟩;rw[hx] at L;rw[hy] at r2;have L:=L.step F s2;have rr1:=L;have rr2:=r2;cases L with
  |lst h1 n1 Ļ=>
   cases r2 with
   |lst h2 n2 X7=>
    rename_i a1 vs1 a2 vs2;refine⟨a1,a2,rfl,⟨_,WE.of h1⟩,⟨_,WE.of h2⟩,q (ĕ K a1 a2) W2 ZV XJ (s1.trans s2) ⟨trivial,[.lst xs,.lst ys],[.ref a1,.ref a2],.cons rr1 (.cons rr2 .nil),fun W3 i P _ r3=>?_⟩⟩;cases r3 with
    |cons q1 r3=>
     cases r3 with
     |cons q2 _=>
      cases q1 with
      |lst g1 _ k1=>
       cases q2 with
       |lst g2 _ k2=>
        refine⟨fun hi=>⟨_,_,WE.of g1,WE.of g2,by rw[←k1.length,←k2.length];exact C2 hi⟩,fun d hd=>?_⟩;obtain⟨x,y,hx1,_a,rfl⟩:=D1 hd;obtain⟨v1,ϑ,x'⟩:=k1.get hx1;obtain⟨v2,S,Γ⟩:=k2.get _a;refine(⟨⟨_,_,v1,v2,WE.of g1,WE.of g2,ϑ,S⟩,fun z H' hz=>?_⟩);obtain⟨p,w1,w2,rfl,hp,rfl,_d,_c⟩:=hz;have t1:=_d _ (WE.of g1);have t2:=_c _ (WE.of g2);rw[ϑ] at t1;rw[S] at t2;cases t1;cases t2;exact(⟨W3.lay p _,rfl,rfl,gC P hp,fM hp,kl P hp<|.cons x'<|.cons Γ .nil⟩)
 .cases e
end
def jQ(c:Ck)(g:GV)(tc:BV)(te:EV):List D->G->M->Option (List D×G×M)
 | [],B,O=>some ([],B,O)|d::r,B,O=>(g d B O).bind fun p=>(tc p.1 p.2).bind fun t=>if t.1=true then(te p.1 t.2).bind fun v=>XU (eL c v.2) ((jQ c g tc te r p.1 v.2).bind fun q=>some (v.1::q.1,q.2)) else XU (eL c t.2) (jQ c g tc te r p.1 t.2)
def hJ(c:Ck)(g:GV)(tc:BV)(iv2:IV)(g2:GV)(Wi:BV)(te:EV):List D->G->M->Option (List D×M)
 | [],_,O=>some ([],O)|d::r,B,O=>(g d B O).bind fun p=>(tc p.1 p.2).bind fun t=>if t.1=true then(iv2 p.1 t.2).bind fun s=>(jQ s.1.2 g2 Wi te s.1.1 p.1 s.2).bind fun q=>XU (eL c q.2.2) ((hJ c g tc iv2 g2 Wi te r q.2.1 q.2.2).bind fun z=>some (q.1++z.1,z.2)) else XU (eL c t.2) (hJ c g tc iv2 g2 Wi te r p.1 t.2)
section
variable {X:Cx} {K:Frag} {N' own:Ŗ} {cap:ő} {scope:Scope} {tg iter elt WV Pd:Expr} {ifs WB:Ř} {pos:Pos} {iv iv2:IV} {g g2:GV} {tc Wi:BV} {te:EV}
theorem HA(ok:Ok K W)(hp:W.hid p)(hy:W.H p=some (.lst ę))(_B:V2 K W z ę)(jr:JR K W Z7 its c)(en:V5 K W ZD ZN)
  (e:jQ c g tc te its ZD W.O=some (rs,ZZ,Z6)) (hl:z.length+rs.length<=1000000) (hZ:∀W' Z0 ys,W'.O=Z6->Ok K W'->WJ p W W'->W'.hid p->W'.H p=some (.lst ys)->V2 K W' (z++rs) ys->V5 K W' ZZ Z0->Z Z0 W'.H):
  w6 Z7 (XT K g) (WO K tc) (tD K te) p ZN W.H Z:=by
 obtain⟨c1,ds,vs,r1,hj⟩:=jr;obtain⟨P,hP⟩:∃P:Nat->St->Hp->Prop,∀i ZW H2,P i ZW H2↔(i<=its.length/\∃F ZX done eE ys,F.H=H2/\Ok K F/\WJ p W F/\F.hid p/\F.H p=some (.lst ys)/\V2 K F done ys/\V5 K F ZX ZW/\eL c F.O/\jQ c g tc te (its.drop i) ZX F.O=some (eE,ZZ,Z6)/\done++eE=z++rs):=⟨_,fun _ _ _=>SE⟩
 refine⟨fun i m ZW H2=>m=its.length - i/\P i ZW H2,?_,?_⟩
 .exact⟨its.length,by simp,(hP _ _ _).2 ⟨Ta _,W,ZD,z,rs,ę,rfl,ok,Step.refl.b,hp,hy,_B,en,c1,e,rfl⟩⟩
 rintro i m ZW H2 ⟨rfl,hi⟩;refine bq fun hG=>?_;obtain⟨hi,F,ZX,done,eE,ys,rfl,L,s2,hp2,Y1,rd,Xz,c2,J,ed⟩:=(hP _ _ _).1 hi;have rj:V2 K F ds vs:=r1.stepB ok hp ⟨_,hy⟩ s2;obtain⟨Wm,YC⟩:=hj F i L c2 rj;by_cases hlt:i<its.length
 .have hd:its[i]?=some its[i]:=Sq hlt;obtain⟨h1,h2⟩:=YC _ hd;rw[Tf hlt] at J;refine dF J fun pg e3 J=>?_;refine dF J fun pt e4 J=>?_;refine(hG<|.inr ⟨h1,P (i+1),fun Z0 H' hN=>⟨its.length - (i+1),by omega,rfl,hN⟩,fun x H' hy=>?_⟩);refine bq fun hF=>?_;obtain⟨W3,rfl,ZS,YA,s3,r3⟩:=h2 x H' hy;refine hF ⟨W3,ZX,its[i],pg.1,pg.2,rfl,YA,Xz.step L s3,r3,by rw[ZS];exact e3,fun W4 ZP ZE Xh s4 Xy=>⟨W4,pg.1,pt.1,pt.2,rfl,Xh,Xy,by rw[ZE];exact e4,fun W5 ZO YV s5=>?_⟩⟩;have S:=s3.trans (s4.trans s5);split at J
  .rename_i ht;refine dF J fun pv e5 J=>?_;refine i6 J fun c5 J=>?_;obtain⟨⟨q1,Zg,Zd⟩,e6,J⟩:=Wc J;cases J;refine(lg (fun _=>?_)<|fun n=>absurd ht n);refine⟨W5,pg.1,pv.1,pv.2,rfl,YV,Xy.step Xh s5,by rw[ZO];exact e5,fun v W6 Zw YU s6 r6=>?_⟩;have s26:=S.trans s6;have Zi:W6.hid p:=by rw[s26.hid];exact hp2
   have Yz:W6.H p=some (.lst ys):=s26.keep _ _ Y1 (lT L hp2);have rd6:=rd.step L s26;have hlen:ys.length<1000000:=by have h1:=congrArg List.length ed;simp only[S9,SO] at h1;rw[←rd.length];omega
   refine⟨ys,Yz,pO ⋯,(hP _ _ _).2 ⟨hlt,W6.re p (.lst<|ys++[v]),pg.1,done++[pv.1],q1,ys++[v],rfl,Az YU Zi ⟨_,Yz⟩,(s2.trans s26.b).trans ko,Zi,fL,?_,(((Xy.step Xh s5).step YV s6).stepB YU Zi ⟨_,Yz⟩ ko),by show eL c W6.O;rw[Zw];exact c5,by show jQ c g tc te _ _ W6.O=_;rw[Zw];exact e6,by simpa using ed⟩⟩;exact(rd6.append<|.cons r6 .nil).stepB YU Zi ⟨_,Yz⟩ ko
  .rename_i ht;refine i6 J fun c5 J=>?_;refine lg (fun n=>absurd n ht) (fun _=>?_);exact(hP _ _ _).2 ⟨hlt,W5,pg.1,done,eE,ys,rfl,YV,s2.trans S.b,by rw[S.hid];exact hp2,S.keep _ _ Y1 (lT L hp2),rd.step L S,Xy.step Xh s5,by rw[ZO];exact c5,by rw[ZO];exact J,ed⟩
 .have e':i=its.length:=by omega
  subst e';rw[TH (Sm _)] at J;cases J;rw[Tq] at ed;subst ed;exact hG (.inl ⟨Wm (Sm _),hZ F ZW ys rfl L s2 hp2 Y1 rd Xz⟩)
theorem Pw(Xq:Ok K W1)(hp:W1.H p=none)(jr:JR K W1 Z7 its c)(en:V5 K W1 ZD ZN)(hl:rs.length<=1000000)
  (e:hJ c g tc iv2 g2 Wi te its ZD W1.O=some (rs,Z6)) (hZ:∀W' ys,W'.O=Z6->Ok K W'->WJ p (W1.hide p<|.lst []) W'->W'.hid p->W'.H p=some (.lst ys)->V2 K W' rs ys->Z W'.H):
  ng Z7 (XT K g) (WO K tc) (Xt K iv2) (XT K g2) (WO K Wi) (tD K te) p ZN W1.H Z:=by
 obtain⟨c1,ds,vs,r1,hj⟩:=jr;obtain⟨P,hP⟩:∃P:Nat->St->Hp->Prop,∀i ZW H2,P i ZW H2↔(i<=its.length/\∃F ZX done eE ys,F.H=H2/\Ok K F/\WJ p (W1.hide p<|.lst []) F/\F.hid p/\F.H p=some (.lst ys)/\V2 K F done ys/\V5 K F ZX ZW/\eL c F.O/\hJ c g tc iv2 g2 Wi te (its.drop i) ZX F.O=some (eE,Z6)/\done++eE=rs):=⟨_,fun _ _ _=>SE⟩
 refine⟨fun i m ZW H2=>m=its.length - i/\P i ZW H2,?_,?_⟩
 .exact⟨its.length,by simp,(hP _ _ _).2 ⟨Ta _,W1.hide p (.lst []),ZD,[],rs,[],rfl,qG Xq hp,⟨fun _ _ h=>h,fun _ h=>.inl h,fun _ _ _ h _=>h,rfl,fun _ h=>h⟩,.inl rfl,fL,.nil,en.hide hp Xq,c1,e,rfl⟩⟩
 rintro i m ZW H2 ⟨rfl,hi⟩;refine bq fun hG=>?_;obtain⟨hi,F,ZX,done,eE,ys,rfl,L,s2,hp2,Y1,rd,Xz,c2,J,ed⟩:=(hP _ _ _).1 hi;have rj:V2 K F ds vs:=(r1.hide hp Xq).stepB (qG Xq hp) (.inl rfl) ⟨[],fL⟩ s2;obtain⟨Wm,YC⟩:=hj F i L c2 rj;by_cases hlt:i<its.length
 .have hd:its[i]?=some its[i]:=Sq hlt;obtain⟨h1,h2⟩:=YC _ hd;rw[Tf hlt] at J;refine dF J fun pg e3 J=>?_;refine dF J fun pt e4 J=>?_;refine(hG<|.inr ⟨h1,P (i+1),fun Z0 H' hN=>⟨its.length - (i+1),by omega,rfl,hN⟩,fun x H' hy=>?_⟩);refine bq fun hF=>?_;obtain⟨W3,rfl,ZS,YA,s3,r3⟩:=h2 x H' hy;refine hF ⟨W3,ZX,its[i],pg.1,pg.2,rfl,YA,Xz.step L s3,r3,by rw[ZS];exact e3,fun W4 ZP ZE Xh s4 Xy=>⟨W4,pg.1,pt.1,pt.2,rfl,Xh,Xy,by rw[ZE];exact e4,fun W5 ZO YV s5=>?_⟩⟩;have S:=s3.trans (s4.trans s5);split at J
  .rename_i ht;obtain⟨⟨⟨mP,k2⟩,Zc⟩,e5,J⟩:=Wc J;obtain⟨⟨q1,Zg,Zd⟩,e6,J⟩:=Wc J;refine i6 J fun c6 J=>?_;refine dF J fun z e7 J=>?_;cases J;refine(lg (fun _=>?_)<|fun n=>absurd ht n);refine⟨W5,pg.1,mP,k2,Zc,rfl,YV,Xy.step Xh s5,by rw[ZO];exact e5,fun J2 W6 Zw YU s6 _T=>?_⟩;have s26:=S.trans s6;have Zi:W6.hid p:=by rw[s26.hid];exact hp2
   have Yz:W6.H p=some (.lst ys):=s26.keep _ _ Y1 (lT L hp2);have hlen:done.length+q1.length<=1000000:=by have h1:=congrArg List.length ed;simp only[S9] at h1;omega
   refine HA YU Zi Yz (rd.step L s26) _T ((Xy.step Xh s5).step YV s6) (by rw[Zw];exact e6) hlen fun W7 ZT T' Zp ϐ s7 _r _Z _A en7=>?_;exact(hP _ _ _).2 ⟨hlt,W7,Zg,done++q1,z.1,T',rfl,ϐ,(s2.trans s26.b).trans s7,_r,_Z,_A,en7,by rw[Zp];exact c6,by rw[Zp];exact e7,by simpa using ed⟩
  .rename_i ht;refine i6 J fun c5 J=>?_;refine lg (fun n=>absurd n ht) (fun _=>?_);exact(hP _ _ _).2 ⟨hlt,W5,pg.1,done,eE,ys,rfl,YV,s2.trans S.b,by rw[S.hid];exact hp2,S.keep _ _ Y1 (lT L hp2),rd.step L S,Xy.step Xh s5,by rw[ZO];exact c5,by rw[ZO];exact J,ed⟩
 .have e':i=its.length:=by omega
  subst e';rw[TH (Sm _)] at J;cases J;rw[Tq] at ed;subst ed;exact hG (.inl ⟨Wm (Sm _),hZ F ys rfl L s2 hp2 Y1 rd⟩)
def i9(own:Ŗ)(cap:ő)(iv:IV)(g:GV)(tc:BV)(iv2:IV)(g2:GV)(Wi:BV)(te:EV):EV:=fun B O=>(iv B O).bind fun s=>(hJ s.1.2 g tc iv2 g2 Wi te s.1.1 (ff own cap B) s.2).bind fun q=>if q.1.length<=1000000 then some (.lst q.1,q.2) else none
theorem Ad{W:Wd}{B:G}{J:St}{d:D}{Z6:M}(ok:Ok K W)(en:V5 K W B J)(e:i9 own cap iv g tc iv2 g2 Wi te B W.O=some (d,Z6)){Z:Addr->Hp->Prop}(q:∀v W',W'.O=Z6->Ok K W'->Step W W'->DR K W' d v->∀p,v=.ref p->Z p W'.H):
  Xt K iv J W.H fun Z7 H1=>∀p,H1 p=none->ng Z7 (XT K g) (WO K tc) (Xt K iv2) (XT K g2) (WO K Wi) (tD K te) p (gb own cap J) H1 (Z p):=by
 obtain⟨⟨⟨z,c⟩,Z5⟩,e1,e⟩:=Wc e;refine(⟨W,B,z,c,Z5,rfl,ok,en,e1,fun Z7 W1 ZL L s1 jr p S=>?_⟩);obtain⟨⟨rs,Z4⟩,e2,e⟩:=Wc e;split at e
 .rename_i hl;cases e;refine Pw L S jr ((en.step ok s1).cap own cap) hl (by rw[ZL];exact e2) fun W' ys Zm P s' F hy r=>?_;obtain⟨a1,a2,a3⟩:=xT s1 S L P s' F hy r;exact(q _ (W'.show W1.hid) Zm a1 a2 a3 p rfl)
 .cases e
theorem Gw(S:VZ X N' own cap scope)(hi:PI X tg iter (Xt K iv))
  (hg:∀cl C Z3 Z1 ex,PG (eg X N' scope cl C Z3 Z1 ex) tg<|XT K g) (ht:∀cl C Z3 Z1 ex,XA (eg X N' scope cl C Z3 Z1 ex) ifs<|WO K tc)
  (Zv:∀cl C Z3 Z1 ex,PI (eg X N' scope cl C Z3 Z1 ex) WV Pd<|Xt K iv2) (Yb:∀cl C Z3 Z1 ex,PG (eg X N' scope cl C Z3 Z1 ex) WV<|XT K g2) (F:∀cl C Z3 Z1 ex,XA (eg X N' scope cl C Z3 Z1 ex) WB<|WO K Wi)
  (he:∀cl C Z3 Z1 ex,PE (eg X N' scope cl C Z3 Z1 ex) elt<|tD K te)
  (hx:hI X:=by exact fun _ _ z=>z) (hc:X.calm=true:=by rfl) (hs:YN X iter:=by intro _;rfl) (X7:∀cl C x,foldedSetIterable Pd (compEnvC scope cl C X.env) x=pure x:=by intro _ _ _;rfl):
  PE X (.ListComp elt [⟨tg,iter,ifs,0⟩,⟨WV,Pd,WB,0⟩] scope pos) (tD K<|i9 own cap iv g tc iv2 g2 Wi te):=eK (Fg S hi hg ht Zv Yb F he hx hc hs X7) fun J H Q h=>by
 refine Wf h fun W B d Z6 eH ok en e q=>?_;subst eH;exact Ad ok en e fun v W' h1 h2 h3 P p L=>by subst L;exact q _ W' h1 h2 h3 P
theorem vX{i:Nat}{y:Str}{py F:Pos}(hN:X.N.Nodup)(ξ:X.N[i]?=some y)(hy:X.env.scope.names.lookup y=some .local)(S:VZ X N' own cap scope)(hi:PI X tg iter (Xt K iv))
  (hg:∀cl C Z3 Z1 ex,PG (eg X N' scope cl C Z3 Z1 ex) tg<|XT K g) (ht:∀cl C Z3 Z1 ex,XA (eg X N' scope cl C Z3 Z1 ex) ifs<|WO K tc)
  (Zv:∀cl C Z3 Z1 ex,PI (eg X N' scope cl C Z3 Z1 ex) WV Pd<|Xt K iv2) (Yb:∀cl C Z3 Z1 ex,PG (eg X N' scope cl C Z3 Z1 ex) WV<|XT K g2) (μ:∀cl C Z3 Z1 ex,XA (eg X N' scope cl C Z3 Z1 ex) WB<|WO K Wi)
  (he:∀cl C Z3 Z1 ex,PE (eg X N' scope cl C Z3 Z1 ex) elt<|tD K te)
  (ν:swapsWith (.ListComp elt [⟨tg,iter,ifs,0⟩,⟨WV,Pd,WB,0⟩] scope pos) (some<|.Name y py) F.line X.env=pure true:=by rfl)
  (hx:hI X:=by exact fun _ _ z=>z) (hc:X.calm=true:=by rfl) (hs:YN X iter:=by intro _;rfl) (X7:∀cl C x,foldedSetIterable Pd (compEnvC scope cl C X.env) x=pure x:=by intro _ _ _;rfl):
  PS X (.Assign [.Name y py] (.ListComp elt [⟨tg,iter,ifs,0⟩,⟨WV,Pd,WB,0⟩] scope pos) F) (XI K<|dQ (i9 own cap iv g tc iv2 g2 Wi te)<|dC i):=gk (JY hN ξ hy S hi hg ht Zv Yb μ he ν hx hc hs X7) fun D J H h=>by
 refine XE h fun W B o ZZ Z6 eH ok en e q=>?_;subst eH;refine dF e fun p1 e1 e=>?_;cases e;exact Ad (Z:=fun p H2=>D.nx (J.set i<|some<|.ref p) H2) ok en e1 fun v W' h1 h2 L h4 p P=>by subst P;exact q W' _ h1 h2 L ((en.step ok L).set h4 i)
end
section
variable {n:Nat} {O:M}
theorem R8{i:Int}:py (n+1) O (.int i)=some (.int i):=rfl
theorem O7{x:Str}:py (n+1) O (.str x)=some (.str x):=rfl
theorem Ld:py (n+1) O (.lst xs)=(optAll (py n O) xs).bind fun ys=>some (.list ys):=rfl
theorem bs{α β:Type}{a:α}{f:α->Option β}:(some a).bind f=f a:=rfl
theorem jm{α β γ:Type}{f:β->Option γ}{g:α->β}{h:α->γ}:∀{l:List α},(∀x∈l,f (g x)=some (h x))->optAll f (l.map g)=some (l.map h)
 | [],_=>rfl|x::r,e=>by have e1:=e x nofun;have J:=jm (l:=r) fun y H=>e y (by simp[H]);simp only[Sz,optAll,e1,J,bs]
end
section
variable {B:G} {O Z5 Z4:M} {ea eb:EV} {x y d:D} {f:D->D->M->Fr} {f1:D->M->Fr} {i:Nat}
theorem yu(h:B[i]?=some (some d)):be i B O=some (d,O):=by unfold be;rw[h]
theorem YE(h1:ea B O=some (x,Z5))(z:eb B Z5=some (y,Z4)):v2 f ea eb B O=f x y Z4:=by unfold v2;rw[h1,bs,z,bs]
theorem Ϟ(h1:ea B O=some (x,Z5)):v1 f1 ea B O=f1 x Z5:=by unfold v1;rw[h1,bs]
end
def lW(b:SV):Option (Out×G×M)->Option (Out×G×M)
 |some (.nx,B,O)=>b B O|x=>x
@[simp] theorem lb{b:SV}{B:G}{O:M}:lW b (some (.nx,B,O))=b B O:=rfl
@[simp] theorem kSeq_rt{b:SV}{d:D}{B:G}{O:M}:lW b (some (.rt d,B,O))=some (.rt d,B,O):=rfl
@[simp] theorem kSeq_bk{b:SV}{B:G}{O:M}:lW b (some (.bk,B,O))=some (.bk,B,O):=rfl
@[simp] theorem kSeq_ct{b:SV}{B:G}{O:M}:lW b (some (.ct,B,O))=some (.ct,B,O):=rfl
@[simp] theorem gY{a b:SV}{B:G}{O:M}:dH a b B O=lW b (a B O):=by
 unfold dH lW;cases h:a B O with
 |none=>rfl|some o=>obtain⟨H,ZY,J⟩:=o;cases H<;>rfl
section
variable {B:G} {O:M} {ea eb ec:EV} {ba bb:BV} {el:LV} {sa sb:SV} {i j:Nat} {d x y:D} {ds:List D} {b:Bool}
@[simp] theorem vVar_eq:be i B O=match B[i]? with
 |some (some d)=>some (d,O)|_=>none:=rfl
@[simp] theorem vC_eq:vC d B O=some (d,O):=rfl
def Ý(f:D->M->Fr):Fr->Fr
 |some (x,O)=>f x O|none=>none
@[simp] theorem kV1_s{f:D->M->Fr}:Ý f (some (x,O))=f x O:=rfl
@[simp] theorem v1_eq{f:D->M->Fr}:v1 f ea B O=Ý f (ea B O):=by unfold v1 Ý;cases ea B O<;>rfl
def lX(f:D->D->M->Fr)(x:D):Fr->Fr
 |some (y,O)=>f x y O|none=>none
@[simp] theorem kV2b_s{f:D->D->M->Fr}:lX f x (some (y,O))=f x y O:=rfl
def Ü(f:D->D->M->Fr)(eb:EV)(B:G):Fr->Fr
 |some (x,O)=>lX f x (eb B O)|none=>none
@[simp] theorem kV2_s{f:D->D->M->Fr}:Ü f eb B (some (x,O))=lX f x (eb B O):=rfl
@[simp] theorem v2_eq{f:D->D->M->Fr}:v2 f ea eb B O=Ü f eb B (ea B O):=by
 unfold v2 Ü;cases ea B O with
 |none=>rfl|some p=>show(eb B p.2).bind _=lX f p.1 (eb B p.2);cases eb B p.2<;>rfl
def kT:Fr->ş
 |some (.bl b,O)=>some (b,O)|_=>none
@[simp] theorem kT_s:kT (some (.bl b,O))=some (b,O):=rfl
@[simp] theorem zr:vT ea B O=kT (ea B O):=by
 unfold vT kT;cases ea B O with
 |none=>rfl|some p=>obtain⟨p1,H⟩:=p;cases p1<;>rfl
def uV(bb:BV)(B:G):ş->ş
 |some (c,O)=>if c=true then bb B O else some (false,O)|none=>none
@[simp] theorem kAnd_s:uV bb B (some (c,O))=if c=true then bb B O else some (false,O):=rfl
@[simp] theorem bAnd_eq:j4 ba bb B O=uV bb B (ba B O):=by unfold j4 uV;cases ba B O<;>rfl
def ß(bb:BV)(B:G):ş->ş
 |some (c,O)=>if c=true then some (true,O) else bb B O|none=>none
@[simp] theorem kOr_s:ß bb B (some (c,O))=if c=true then some (true,O) else bb B O:=rfl
@[simp] theorem bOr_eq:Yd ba bb B O=ß bb B (ba B O):=by unfold Yd ß;cases ba B O<;>rfl
def xf:ş->ş
 |some (c,O)=>some (!c,O)|none=>none
@[simp] theorem kNot_s:xf (some (c,O))=some (!c,O):=rfl
@[simp] theorem bNot_eq:gO ba B O=xf (ba B O):=by unfold gO xf;cases ba B O<;>rfl
def ã(ea eb:EV)(B:G):ş->Fr
 |some (c,O)=>if c=true then ea B O else eb B O|none=>none
@[simp] theorem kIf_s:ã ea eb B (some (c,O))=if c=true then ea B O else eb B O:=rfl
@[simp] theorem Bz:YJ ba ea eb B O=ã ea eb B (ba B O):=by unfold YJ ã;cases ba B O<;>rfl
def xA(sa sb:SV)(B:G):ş->Option (Out×G×M)
 |some (c,O)=>if c=true then sa B O else sb B O|none=>none
@[simp] theorem kSIf_s:xA sa sb B (some (c,O))=if c=true then sa B O else sb B O:=rfl
@[simp] theorem lf:WY ba sa sb B O=xA sa sb B (ba B O):=by unfold WY xA;cases ba B O<;>rfl
def rE(eb:EV)(B:G):Fr->Fr
 |some (.bl c,O)=>if c=true then some (.bl true,O) else eb B O|_=>none
@[simp] theorem kVOr_s:rE eb B (some (.bl c,O))=if c=true then some (.bl true,O) else eb B O:=rfl
@[simp] theorem OQ:Ω ea eb B O=rE eb B (ea B O):=by
 unfold Ω rE;cases ea B O with
 |none=>rfl|some p=>
  obtain⟨p1,H⟩:=p;cases p1 with
  |bl c=>cases c<;>rfl
  |_=>rfl
@[simp] theorem lNil_eq:dD B O=some ([],O):=rfl
def rg(x:D):Option (List D×M)->Option (List D×M)
 |some (r,O)=>some (x::r,O)|none=>none
@[simp] theorem kLc2_s:rg x (some (r,O))=some (x::r,O):=rfl
def â(el:LV)(B:G):Fr->Option (List D×M)
 |some (x,O)=>rg x (el B O)|none=>none
@[simp] theorem kLc_s:â el B (some (x,O))=rg x (el B O):=rfl
@[simp] theorem lCons_eq:dz ea el B O=â el B (ea B O):=by
 unfold dz â;cases ea B O with
 |none=>rfl|some p=>show(el B p.2).bind _=rg p.1 (el B p.2);cases el B p.2<;>rfl
def kL(f:C0):Option (List D×M)->Fr
 |some (r,O)=>f r O|none=>none
@[simp] theorem kL_s{f:C0}{r:List D}:kL f (some (r,O))=f r O:=rfl
@[simp] theorem vL_eq{f:C0}:vL f el B O=kL f (el B O):=by unfold vL kL;cases el B O<;>rfl
@[simp] theorem sNx_eq:WQ B O=some (.nx,B,O):=rfl
def kEx(B:G):Fr->Option (Out×G×M)
 |some (_,O)=>some (.nx,B,O)|none=>none
@[simp] theorem kEx_s:kEx B (some (x,O))=some (.nx,B,O):=rfl
@[simp] theorem rB:g7 ea B O=kEx B (ea B O):=by unfold g7 kEx;cases ea B O<;>rfl
def ϭ(B:G):Fr->Option (Out×G×M)
 |some (x,O)=>some (.rt x,B,O)|none=>none
@[simp] theorem kRt_s:ϭ B (some (x,O))=some (.rt x,B,O):=rfl
@[simp] theorem m3:dU ea B O=ϭ B (ea B O):=by unfold dU ϭ;cases ea B O<;>rfl
def kG:Option (G×M)->Option (Out×G×M)
 |some (B,O)=>some (.nx,B,O)|none=>none
@[simp] theorem kG_s:kG (some (B,O))=some (.nx,B,O):=rfl
def ç(g:GV)(B:G):Fr->Option (Out×G×M)
 |some (x,O)=>kG (g x B O)|none=>none
@[simp] theorem kAs_s:ç g B (some (x,O))=kG (g x B O):=rfl
@[simp] theorem xq:dQ ea g B O=ç g B (ea B O):=by
 unfold dQ ç;cases ea B O with
 |none=>rfl|some p=>show(g p.1 B p.2).bind _=kG (g p.1 B p.2);cases g p.1 B p.2<;>rfl
@[simp] theorem gvName_eq:dC i d B O=some (B.set i (some d),O):=rfl
@[simp] theorem gvNil_eq:fk [] B O=some (B,O):=rfl
def å(gs:Ye)(ds:List D):Option (G×M)->Option (G×M)
 |some (B,O)=>gs ds B O|none=>none
@[simp] theorem kGs_s{gs:Ye}:å gs ds (some (B,O))=gs ds B O:=rfl
@[simp] theorem gvCons_eq{g:GV}{gs:Ye}:dY g gs (d::ds) B O=å gs ds (g d B O):=by show(g d B O).bind _=_;unfold å;cases g d B O<;>rfl
@[simp] theorem gvTup_eq{n:Nat}{gs:Ye}:fc n gs (.tup ds) B O=if ds.length=n then gs ds B O else none:=rfl
def à(O:M)(k:Nat):Option (D×List D)->Fr
 |some (d,l)=>some (d,O.set k<|some<|.lst l)|none=>none
@[simp] theorem qQ:à O i (some (d,l))=some (d,O.set i<|some<|.lst l):=rfl
def qm(B:G):Fr->Option (G×M)
 |some (_,O)=>some (B,O)|none=>none
@[simp] theorem kSb3_s:qm B (some (x,O))=some (B,O):=rfl
def er(d:D)(j:Int)(ds:List D):Option (D×List D):=(Xk ds.length j).bind fun jj=>some (.non,ds.set jj d)
theorem wR{j:Int}{jj:Nat}(h:Xk ds.length j=some jj):er d j ds=some (.non,ds.set jj d):=by unfold er;rw[h];rfl
@[simp] theorem sbF_0:er d 0 (x::ds)=some (.non,d::ds):=by refine wR (jj:=0) ?_;unfold Xk;rw[if_pos ⋯,if_pos (by simp only[SO];omega)];rfl
@[simp] theorem sbF_1:er d 1 (x::y::ds)=some (.non,x::d::ds):=by refine wR (jj:=1) ?_;unfold Xk;rw[if_pos ⋯,if_pos (by simp only[SO];omega)];rfl
@[simp] theorem sbF_2:er d 2 (x::y::z::ds)=some (.non,x::y::d::ds):=by refine wR (jj:=2) ?_;unfold Xk;rw[if_pos ⋯,if_pos (by simp only[SO];omega)];rfl
def rA(d:D)(B:G)(o:D):Fr->Option (G×M)
 |some (.int j,O)=>qm B (Yu o O<|er d j)|_=>none
@[simp] theorem kSb2_s{j:Int}:rA d B x (some (.int j,O))=qm B (Yu x O<|er d j):=rfl
def Þ(d:D)(ei:EV)(B:G):Fr->Option (G×M)
 |some (o,O)=>rA d B o (ei B O)|none=>none
@[simp] theorem kSb_s:Þ d ei B (some (x,O))=rA d B x (ei B O):=rfl
@[simp] theorem gvSub_eq:p7 eo ei d B O=Þ d ei B (eo B O):=by
 unfold p7 Þ;cases eo B O with
 |none=>rfl|some p=>
  show(ei B p.2).bind _=rA d B p.1 (ei B p.2);cases ei B p.2 with
  |none=>rfl|some q=>
   obtain⟨q1,q2⟩:=q;cases q1 with
   |int j=>
    show(Yu p.1 q2 _).bind _=qm B (Yu p.1 q2<|er d j);have e:(fun ds=>(Xk ds.length j).bind fun jj=>some (D.non,ds.set jj d))=er d j:=rfl;rw[e];unfold qm;cases Yu p.1 q2 (er d j)<;>rfl
   |_=>rfl
@[simp] theorem oNone_eq:lH B O=some (none,O):=rfl
def Ι(O:M):Ŧ->ş
 |some b=>some (b,O)|none=>none
@[simp] theorem kTr_s:Ι O (some b)=some (b,O):=rfl
def ot:Fr->ş
 |some (x,O)=>Ι O (YR O x)|none=>none
@[simp] theorem kTru_s:ot (some (x,O))=Ι O (YR O x):=rfl
@[simp] theorem Am:fC ea B O=ot (ea B O):=by
 unfold fC ot;cases ea B O with
 |none=>rfl|some p=>show(YR p.2 p.1).bind _=Ι p.2 (YR p.2 p.1);cases YR p.2 p.1<;>rfl
def so:Fr->Fr
 |some (.ref k,O)=>match O[k]? with
  |some (some<|.lst ds)=>some (.lst ds,O.set k none)|_=>none
 |_=>none
theorem Ii(h:O[i]?=some (some<|.lst ds)):so (some (.ref i,O))=some (.lst ds,O.set i none):=by simp only[so,h]
@[simp] theorem HR:tI ea B O=so (ea B O):=by
 unfold tI so;cases ea B O with
 |none=>rfl|some p=>obtain⟨p1,H⟩:=p;cases p1<;>rfl
def yd(g:GV)(body:SV)(B:G):Option ((List D×Ck)×M)->Option (Out×G×M)
 |some ((its,c),O)=>ft c g body its B O|none=>none
@[simp] theorem mf:yd g sa B (some ((ds,c),O))=ft c g sa ds B O:=rfl
@[simp] theorem lR:fW iv g sa B O=yd g sa B (iv B O):=by unfold fW yd;cases iv B O<;>rfl
def Ϯ(O:M):Option (List D×Ck)->Option ((List D×Ck)×M)
 |some s=>some (s,O)|none=>none
@[simp] theorem kI2_s:Ϯ O (some s)=some (s,O):=rfl
def kI:Fr->Option ((List D×Ck)×M)
 |some (x,O)=>Ϯ O (Xj O x)|none=>none
@[simp] theorem kI_s:kI (some (x,O))=Ϯ O (Xj O x):=rfl
@[simp] theorem ivL_eq:WH ea B O=kI (ea B O):=by
 unfold WH kI;cases ea B O with
 |none=>rfl|some p=>show(Xj p.2 p.1).bind _=Ϯ p.2 (Xj p.2 p.1);cases Xj p.2 p.1<;>rfl
def ä:Fr->Option ((List D×Ck)×M)
 |some (.int j,O)=>if -1000000000<=j/\j<=1000000000 then some ((eT 0 j.toNat,none),O) else none|_=>none
@[simp] theorem kIR_s{j:Int}:ä (some (.int j,O))=if -1000000000<=j/\j<=1000000000 then some ((eT 0 j.toNat,none),O) else none:=rfl
@[simp] theorem ivR_eq:X1 ea B O=ä (ea B O):=by
 unfold X1 ä;cases ea B O with
 |none=>rfl|some p=>obtain⟨p1,H⟩:=p;cases p1<;>rfl
def qS(x:D):Fr->Option ((List D×Ck)×M)
 |some (y,O)=>match x,y with
  | .int i,.int j=>if(-1000000000<=i/\i<=1000000000)/\-1000000000<=j/\j<=1000000000 then some ((eT i (j - i).toNat,none),O) else none|_,_=>none
 |none=>none
@[simp] theorem y7{i j:Int}:qS (.int i) (some (.int j,O))=if(-1000000000<=i/\i<=1000000000)/\-1000000000<=j/\j<=1000000000 then some ((eT i (j - i).toNat,none),O) else none:=rfl
def wY(eb:EV)(B:G):Fr->Option ((List D×Ck)×M)
 |some (x,O)=>qS x (eb B O)|none=>none
@[simp] theorem AF:wY eb B (some (x,O))=qS x (eb B O):=rfl
@[simp] theorem Dd:lS ea eb B O=wY eb B (ea B O):=by
 unfold lS wY;cases ea B O with
 |none=>rfl|some p=>show(eb B p.2).bind _=qS p.1 (eb B p.2);cases eb B p.2<;>rfl
@[simp] theorem bYes_eq:eC B O=some (true,O):=rfl
def qC(g:D->D->M->Fr)(ec:EV)(B:G)(y:D):Fr->Fr
 |some (.bl c,O)=>if c=true then lX g y (ec B O) else some (.bl false,O)|_=>none
@[simp] theorem kCh3_s:qC g ec B y (some (.bl c,O))=if c=true then lX g y (ec B O) else some (.bl false,O):=rfl
def qE(f g:D->D->M->Fr)(ec:EV)(B:G)(x:D):Fr->Fr
 |some (y,O)=>qC g ec B y (f x y O)|none=>none
@[simp] theorem kCh2_s{f g:D->D->M->Fr}:qE f g ec B x (some (y,O))=qC g ec B y (f x y O):=rfl
def æ(f g:D->D->M->Fr)(eb ec:EV)(B:G):Fr->Fr
 |some (x,O)=>qE f g ec B x (eb B O)|none=>none
@[simp] theorem kCh_s{f g:D->D->M->Fr}:æ f g eb ec B (some (x,O))=qE f g ec B x (eb B O):=rfl
@[simp] theorem vChain_eq{f g:D->D->M->Fr}:gX f g ea eb ec B O=æ f g eb ec B (ea B O):=by
 unfold gX æ;cases ea B O with
 |none=>rfl|some p=>
  show(eb B p.2).bind _=qE f g ec B p.1 (eb B p.2);cases eb B p.2 with
  |none=>rfl|some q=>
   show(f p.1 q.1 q.2).bind _=qC g ec B q.1 (f p.1 q.1 q.2);cases f p.1 q.1 q.2 with
   |none=>rfl|some t=>
    obtain⟨J,H⟩:=t;cases J with
    |bl c=>
     cases c with
     |true=>show(ec B H).bind _=lX g q.1 (ec B H);cases ec B H<;>rfl
     |false=>rfl
    |_=>rfl
def kB(O:M):Ŧ->Fr
 |some b=>some (.bl b,O)|none=>none
@[simp] theorem kB_s:kB O (some b)=some (.bl b,O):=rfl
def á(O:M):Ŧ->Fr
 |some b=>some (.bl (!b),O)|none=>none
@[simp] theorem kNB_s:á O (some b)=some (.bl (!b),O):=rfl
def kD(O:M):Option D->Fr
 |some d=>some (d,O)|none=>none
@[simp] theorem kD_s:kD O (some d)=some (d,O):=rfl
@[simp] theorem fI0_eq{g:Int->Int->D}{i j:Int}:X8 g (.int i) (.int j) O=some (g i j,O):=rfl
@[simp] theorem fI_eq{C:Int->Int->Prop} [∀i j,Decidable (C i j)]{g:Int->Int->D}{i j:Int}:fI C g (.int i) (.int j) O=if C i j then some (g i j,O) else none:=rfl
@[simp] theorem fNeg_eq{i:Int}:jV (.int i) O=some (.int (-i),O):=rfl
@[simp] theorem fNot_eq{b:Bool}:zp (.bl b) O=some (.bl (!b),O):=rfl
@[simp] theorem fPlus_int{i j:Int}:e9 (.int i) (.int j) O=some (.int (i+j),O):=rfl
@[simp] theorem P2{i j:Int}:iX (.int i) (.int j) O=if XR i j then some (.int (i*j),O) else none:=rfl
@[simp] theorem QE{b:Bool}:lj (.bl b) O=some (.int (if b then 1 else 0),O):=rfl
@[simp] theorem fEq_eq:WT x y O=kB O (Wu x y O):=by unfold WT kB;cases Wu x y O<;>rfl
@[simp] theorem fNe_eq:We x y O=á O (Wu x y O):=by unfold We á;cases Wu x y O<;>rfl
@[simp] theorem CH{i j:Int}:Wu (.int i) (.int j) O=some (decide (i=j)):=rfl
@[simp] theorem eqD_str{a b:Str}:Wu (.str a) (.str b) O=if PyData.strOk a&&PyData.strOk b then some (decide (a=b)) else none:=rfl
@[simp] theorem lsOf_lst:fq O (.lst ds)=some ds:=rfl
@[simp] theorem lsOf_scr:fq O (.scr ds)=some ds:=rfl
@[simp] theorem lsOf_tup:fq O (.tup ds)=none:=rfl
@[simp] theorem tpOf_tup:iz (.tup ds)=some ds:=rfl
@[simp] theorem wlOf_lst:j3 O (.lst ds)=some ds:=rfl
@[simp] theorem lsC_lst:Xj O (.lst ds)=some (ds,none):=rfl
@[simp] theorem lsC_scr:Xj O (.scr ds)=some (ds,none):=rfl
@[simp] theorem fLst_eq:eQ ds O=if ds.length<=1000 then some (.lst ds,O) else none:=rfl
@[simp] theorem fTup_eq:eS ds O=if ds.length<=1000 then some (.tup ds,O) else none:=rfl
@[simp] theorem fNew_eq:io ds O=if ds.length<=1000 then some (.ref O.length,O++[some (.lst ds)]) else none:=rfl
@[simp] theorem uO{i:Int}:V6 (.lst ds) (.int i) O=kD O (W9 ds i):=by show(W9 ds i).bind _=_;unfold kD;cases W9 ds i<;>rfl
@[simp] theorem fIx_scr{i:Int}:V6 (.scr ds) (.int i) O=kD O (W9 ds i):=by show(W9 ds i).bind _=_;unfold kD;cases W9 ds i<;>rfl
@[simp] theorem Nb{i:Int}:V6 (.tup ds) (.int i) O=kD O (W9 ds i):=by show(W9 ds i).bind _=_;unfold kD;cases W9 ds i<;>rfl
@[simp] theorem Ks:fh (.lst ds) O=some (.int ds.length,O):=rfl
@[simp] theorem fLen_tup:fh (.tup ds) O=some (.int ds.length,O):=rfl
@[simp] theorem fCat_lst:e9 (.lst ds) (.lst es) O=if ds.length+es.length<=1000000 then some (.lst (ds++es),O) else none:=rfl
@[simp] theorem fSl_lst:Yj (.lst ds) lo hi O=some (.lst (j6 ds lo hi),O):=rfl
@[simp] theorem Pc:Yj (.tup ds) lo hi O=if HT.sIx ds.length 0 lo=0/\HT.sIx ds.length ds.length hi=ds.length then none else some (.tup (j6 ds lo hi),O):=rfl
@[simp] theorem tru_bl{b:Bool}:YR O (.bl b)=some b:=rfl
@[simp] theorem tru_lst:YR O (.lst ds)=some (!ds.isEmpty):=rfl
theorem ji{α:Type}{xs:List α}{j:Nat}{v:α}(h:xs[j]?=some v):W9 xs (j:Int)=some v:=by have H:=(Sn.mp h).1;unfold W9 Xk;rw[if_pos ⋯,if_pos ⋯];simpa using h
@[simp] theorem atI_0{α:Type}{a:α}{l:List α}:W9 (a::l) 0=some a:=ji (j:=0) rfl
@[simp] theorem atI_1{α:Type}{a b:α}{l:List α}:W9 (a::b::l) 1=some b:=ji (j:=1) rfl
@[simp] theorem atI_2{α:Type}{a b c:α}{l:List α}:W9 (a::b::c::l) 2=some c:=ji (j:=2) rfl
@[simp] theorem atI_3{α:Type}{a b c d:α}{l:List α}:W9 (a::b::c::d::l) 3=some d:=ji (j:=3) rfl
end
def YX:D->Ŕ
 | .int i=>some i|_=>none
def YB:D->Ŧ
 | .bl b=>some b|_=>none
section
variable {K:Frag} {W:Wd}
theorem uk:∀{ds:List D} {vs:ŗ} {ns:Ő},optAll YX ds=some ns->V2 K W ds vs->vs=ns.map V.int
 |_,_,_,h,.nil=>by cases h;rfl
 |d::_,_,_,h,.cons r t=>by
  refine dF h fun u J h=>?_;refine dF h fun L H h=>?_;cases h;cases d<;>cases J
  cases r;rw[uk H t];rfl
theorem t8:∀{ds:List D} {vs:ŗ} {ns:ť},optAll YB ds=some ns->V2 K W ds vs->vs=ns.map V.bl
 |_,_,_,h,.nil=>by cases h;rfl
 |d::_,_,_,h,.cons r t=>by
  refine dF h fun u J h=>?_;refine dF h fun L H h=>?_;cases h;cases d<;>cases J
  cases r;rw[t8 H t];rfl
theorem PY(ns:Ő):optAll YX (ns.map D.int)=some ns:=by have:=jm (f:=YX) (g:=D.int) (h:=id) (l:=ns) fun x _=>rfl;simpa using this
theorem DP(ns:ť):optAll YB (ns.map D.bl)=some ns:=by have:=jm (f:=YB) (g:=D.bl) (h:=id) (l:=ns) fun x _=>rfl;simpa using this
end
def mx:Int->Ő->Int
 |a,[]=>a|a,b::r=>mx (if b>a then b else a) r
theorem zO:∀(r l:Ő) (a:Int),WZ a l->WZ (mx a r) (l++r)
 | [],l,a,h=>by simpa[mx] using h|b::r,l,a,h=>by have:=zO r (l++[b]) (if b>a then b else a) h.step;simpa[mx] using this
def zd{a b:Int}{l:Ő}(h:WZ a l)(g:WZ b l):a=b:=by have h1:=h.2 b g.1;have H:=g.2 a h.1;omega
def ox:Ő->Ŕ
 | []=>none|a::r=>some (mx a r)
def xl(h:ox l=some m):WZ m l:=by
 cases l with
 |nil=>cases h
 |cons a r=>
  cases h;exact zO r [a] a ⟨by simp,by simp⟩
section
variable {X:Cx} {K:Frag} {a b:Expr} {ea eb:EV} {pos p kp:Pos}
def uW(x:D)(O:M):Fr:=(fq O x).bind fun ds=>(optAll YX ds).bind fun ns=>(ox ns).bind fun m=>some (.int m,O)
theorem MJ(S:X.mg "max"=none) (ha:PE X a (tD K ea)) (hc:X.calm=true:=by rfl) (hg:Gl X "max":=by rfl) (F:WX X a:=by rfl) (hK:X.K=K:=by rfl):PE X (.Call (.Name "max" p) [a] [] pos) (tD K<|v1 uW ea):=eK (Kf K S ha hc hg F hK) (jJ (by intro W x d z Z6 Q ok L H q;refine dF H fun ds h1 H=>?_;refine dF H fun ns h2 H=>?_;refine dF H fun m J H=>?_;cases H;obtain⟨a,vs,rfl,F,P⟩:=i5 ok h1 L;have:=uk h2 P;subst this;refine⟨a,ns,rfl,F,(fun z=>by rw[z] at J;cases J),fun M hM=>?_⟩;rw[zd hM (xl J)];exact q _ W rfl ok .refl (.int _)))
def nI(x y:D)(O:M):Fr:=match y with
 | .int j=>(fq O x).bind fun ds=>(optAll YX ds).bind fun ns=>some (.int ((ox ns).getD j),O)|_=>none
theorem Ny(mm:X.mg "max"=none) (ha:PE X a (tD K ea)) (hb:PE X b (tD K eb)) (hc:X.calm=true:=by rfl) (hg:Gl X "max":=by rfl) (S:WX X a:=by rfl) (hK:X.K=K:=by rfl)
  (F:(backToKw pos<|keywordEach [⟨some "default",b,kp⟩] X.env).all (·.1.isSome)=true:=by rfl) (õ:(backToKw pos<|keywordEach [⟨some "default",b,kp⟩] X.env).filterMap (·.1)=([Str.ofString "default"]:Ŗ):=by rfl)
  (ϒ:(backToKw pos<|keywordEach [⟨some "default",b,kp⟩] X.env).any (·.1.isNone)=false:=by rfl):PE X (.Call (.Name "max" p) [a] [⟨some "default",b,kp⟩] pos) (tD K<|v2 nI ea eb):=eK (QF K mm ha hb hc hg S hK F õ ϒ) (l6 (by
 intro W x y d e z Z6 Q ok r1 P H q;unfold nI at H;split at H
 .cases P;refine dF H fun ds h1 H=>?_;refine dF H fun ns h2 H=>?_;cases H;obtain⟨a,vs,rfl,S,hv⟩:=i5 ok h1 r1;have:=uk h2 hv;subst this;refine⟨a,ns,_,rfl,rfl,S,fun z=>?_,fun M L=>?_⟩
  .subst z;exact q _ W rfl ok .refl (.int _)
  .cases J:ox ns with
   |none=>
    cases ns with
    |nil=>exact absurd L.1 nofun|cons _ _=>cases J
   |some m=>
    rw[zd L (xl J)];have:=q (.int m) W rfl ok .refl (by rw[J];exact .int _);exact this
 .cases H))
def ij(x:D)(O:M):Fr:=(fq O x).bind fun ds=>(optAll YB ds).bind fun bs=>some (.bl (bs.all id),O)
theorem pD(S:X.mg "all"=none) (ha:PE X a (tD K ea)) (hc:X.calm=true:=by rfl) (hg:Gl X "all":=by rfl) (F:WX X a:=by rfl) (hK:X.K=K:=by rfl):PE X (.Call (.Name "all" p) [a] [] pos) (tD K<|v1 ij ea):=eK (Ay K S ha hc hg F hK) (jJ (by intro W x d z Z6 Q ok J H q;refine dF H fun ds h1 H=>?_;refine dF H fun ns P H=>?_;cases H;obtain⟨a,vs,rfl,F,L⟩:=i5 ok h1 J;have:=t8 P L;subst this;exact⟨a,ns,rfl,F,q _ W rfl ok .refl (.bl _)⟩))
end
def km{α:Type}{O:M}{x:Option α}:XU (eL none O) x=x:=iw trivial
section
variable {O:M} {k:Nat} {ds:List D}
def gW:Option (Out×G×M)->Fr
 |some (.rt d,_,O)=>some (d,O)|some (.nx,_,O)=>some (.non,O)|_=>none
@[simp] theorem kRun_rt:gW (some (.rt d,B,O))=some (d,O):=rfl
@[simp] theorem kRun_nx:gW (some (.nx,B,O))=some (.non,O):=rfl
@[simp] theorem ju:eR n m es ds O=if ds.length=m then gW (es (ds.map some++List.replicate (n - ds.length) none) O) else none:=by
 unfold eR;split
 .unfold gW;cases es (ds.map some++List.replicate (n - ds.length) none) O with
  |none=>rfl|some o=>obtain⟨H,L,J⟩:=o;cases H<;>rfl
 .rfl
theorem gS(h:O[k]?=some x):(O.set k y)[k]?=some y:=by have H:=(Sn.mp h).1;simp[H]
theorem h8(h:j≠k):(O.set k y)[j]?=O[j]?:=S4 (Ne.symm h)
theorem mO(h:O[k]?=some (some<|.lst ds)):fq O (.ref k)=some ds:=by simp only[fq,h]
theorem sT(h:O[k]?=some (some<|.lst ds)):V6 (.ref k) (.int i) O=kD O (W9 ds i):=by simp only[V6,mO h];unfold kD;cases W9 ds i<;>rfl
theorem B7(h:O[k]?=some (some<|.lst ds)):fh (.ref k) O=some (.int ds.length,O):=by simp only[fh,mO h]
theorem mT(h:O[k]?=some (some<|.lst ds)):Yu (.ref k) O g=à O k (g ds):=by simp only[Yu,h];unfold à;cases g ds<;>rfl
theorem xg(h:O[k]?=some (some<|.lst ds)):Xj O (.ref k)=some (ds,some (k,ds)):=by simp only[Xj,h]
@[simp] theorem ixN_0:Xk (n+1) 0=some 0:=by unfold Xk;rw[if_pos ⋯,if_pos ⋯];rfl
@[simp] theorem ixN_1:Xk (n+2) 1=some 1:=by unfold Xk;rw[if_pos ⋯,if_pos ⋯];rfl
@[simp] theorem ixN_2:Xk (n+3) 2=some 2:=by unfold Xk;rw[if_pos ⋯,if_pos ⋯];rfl
end
section
variable {P:Program} {w:World} {K:Frag} {mg:œ} {base:Heap} {f:Addr} {fd:FuncData} {k:Nat}
theorem m8:Qv P w K mg base WN k f fd ps (V1 K fun _ _=>none):=
 ⟨(fun vs H Q E h=>by obtain⟨_,_,_,_,_,_,_,z,_⟩:=h;cases z),(fun A outer s H args J vs Q E _ _ _ _ h=>by obtain⟨_,_,_,_,_,_,_,z,_⟩:=h;cases z)⟩
def tp(K:Frag):Sp:=fun vs H Q _=>∃(a:Addr) (ns:Ő),vs=[.ref a]/\sO H/\WE K H a (ns.map V.int)/\ns.length<=63/\∀H',Q (.bl true) H'
def W0(H:Hp):Wd:=⟨[],[],H,fun _=>False⟩
theorem Kw:Ok K (W0 H) where
 len:=rfl
 nd:=by simp[W0]
 rs a h:=by simp[W0] at h
 at_ k o h:=by simp[W0] at h
 hd0 a h:=h.elim
theorem uS:∀ns:Ő,V2 K W (ns.map D.int) (ns.map V.int)
 | []=>.nil|n::r=>.cons (.int n) (uS r)
theorem OW(F:Qv P w K mg base WN k f fd ["script"] (V1 K g)) (h:∀ns:Ő,ns.length<=63->∃Z6,g [.scr (ns.map D.int)] []=some (.bl true,Z6)):Qv P w K mg base WN k f fd ["script"] (tp K):=F.imp fun vs H Q E S=>by
 obtain⟨a,ns,rfl,hO,J,L,q⟩:=S;obtain⟨Z6,e⟩:=h ns L;have hF:Ρ K H a (ns.map V.int):=by
  rcases J with(J|J)|J
  .rcases hO a with z|⟨o,xs,z⟩
   .rw[z] at J;cases J
   .rw[z] at J;cases J
  .exact .inl J
  .exact .inr J
 exact⟨W0 H,[.scr (ns.map D.int)],.bl true,Z6,rfl,Kw,.cons (.scr hF<|uS ns) .nil,e,fun v W' _ _ _ r=>by cases r;exact q _⟩
end
theorem sB(Pv:Nat->G->M->Prop):∀(its:List D) (i:Nat) (B:G) (O:M),Pv i B O->
  (∀j d B O,its[j]?=some d->Pv (i+j) B O->∃ZY Z5 F Z4,g d B O=some (ZY,Z5)/\body ZY Z5=some (.nx,F,Z4)/\eL c Z4/\Pv (i+j+1) F Z4)->∃z Z6,ft c g body its B O=some (.nx,z,Z6)/\Pv (i+its.length) z Z6
 | [],i,B,O,h,_=>⟨B,O,rfl,h⟩|d::r,i,B,O,h,H=>by
  obtain⟨ZY,Z5,F,Z4,h1,h2,h3,h4⟩:=H 0 d B O rfl h;obtain⟨z,Z6,S,P⟩:=sB Pv r (i+1) F Z4 h4 fun j d B O L J=>by have:=H (j+1) d B O (by simpa using L) (by rw[show i+(j+1)=i+1+j by omega];exact J);rw[show i+(j+1)+1=i+1+j+1 by omega] at this;exact this
  refine⟨z,Z6,?_,by rw[SO,show i+(r.length+1)=i+1+r.length by omega];exact P⟩;simp only[ft,h1,bs,h2];rw[iw h3,S]
def Nr(h:(eT lo n)[j]?=some d):j<n/\d=.int (lo+j):=by have H:=(Sn.mp h).1;simp[eT] at H;simp[eT,H] at h;exact⟨H,h.symm⟩
def Gc(h:(eT 0 n)[j]?=some d):j<n/\d=.int (j:Int):=by obtain⟨a,b⟩:=Nr h;exact(⟨a,by rw[b,Int.zero_add]⟩)
def Oa:(eT lo n).length=n:=by simp[eT]
def tP:Option (List D×M)->Fr
 |some (rs,O)=>some (.lst rs,O)|none=>none
@[simp] theorem kLst_s:tP (some (rs,O))=some (.lst rs,O):=rfl
def vH(own:Ŗ)(cap:ő)(g:GV)(tc:BV)(te:EV)(B:G):Option ((List D×Ck)×M)->Fr
 |some ((its,c),O)=>if its.length<=1000000 then tP (fo c g tc te its (ff own cap B) O) else none|none=>none
@[simp] theorem xP:vH own cap g tc te B (some ((its,c),O))=if its.length<=1000000 then tP (fo c g tc te its (ff own cap B) O) else none:=rfl
@[simp] theorem yF:eW own cap iv g tc te B O=vH own cap g tc te B (iv B O):=by
 unfold eW vH;cases iv B O with
 |none=>rfl|some s=>
  obtain⟨⟨H,c⟩,J⟩:=s;show(if H.length<=1000000 then(fo c g tc te H (ff own cap B) J).bind _ else none)=if H.length<=1000000 then tP (fo c g tc te H (ff own cap B) J) else none
  split
  .cases fo c g tc te H (ff own cap B) J<;>rfl
  .rfl
def rO:Option (List D×M)->Fr
 |some (rs,O)=>if rs.length<=1000000 then some (.lst rs,O) else none|none=>none
@[simp] theorem sM:rO (some (rs,O))=if rs.length<=1000000 then some (.lst rs,O) else none:=rfl
def vP(own:Ŗ)(cap:ő)(g:GV)(tc:BV)(iv2:IV)(g2:GV)(Wi:BV)(te:EV)(B:G):Option ((List D×Ck)×M)->Fr
 |some ((its,c),O)=>rO (hJ c g tc iv2 g2 Wi te its (ff own cap B) O)|none=>none
@[simp] theorem sH:vP own cap g tc iv2 g2 Wi te B (some ((its,c),O))=rO (hJ c g tc iv2 g2 Wi te its (ff own cap B) O):=rfl
@[simp] theorem t7:i9 own cap iv g tc iv2 g2 Wi te B O=vP own cap g tc iv2 g2 Wi te B (iv B O):=by
 unfold i9 vP;cases iv B O with
 |none=>rfl|some s=>
  obtain⟨⟨H,c⟩,J⟩:=s;show(hJ c g tc iv2 g2 Wi te H (ff own cap B) J).bind _=rO (hJ c g tc iv2 g2 Wi te H (ff own cap B) J);cases hJ c g tc iv2 g2 Wi te H (ff own cap B) J<;>rfl
def gK(kvs:List (Key×D))(k:Key):Option D:=(kvs.find? fun H=>decide (H.1=k)).map (·.2)
def g6(kvs:List (Key×D))(k:Key)(v:D):List (Key×D):=
 if(kvs.any fun H=>decide (H.1=k))=true then kvs.map (fun H=>if H.1=k then(H.1,v) else H) else kvs++[(k,v)]
def jE:D->Option Key
 | .int i=>some (.inl i)| .str x=>some (.inr x)|_=>none
def gc(O:M):D->Option (List<|Key×D)
 | .ref k=>match O[k]? with
  |some (some<|.dK kvs)=>some kvs|_=>none
 |_=>none
section
variable {K:Frag} {W:Wd}
theorem yJ{d:D}{k:Key}{v:V}(h:jE d=some k)(r:DR K W d v):v=kV k:=by cases d<;>simp only[jE] at h<;>cases h<;>cases r<;>rfl
theorem mC(ok:Ok K W)(h:gc W.O d=some kvs)(r:DR K W d v):
  ∃k a vs,d=.ref k/\v=.ref a/\W.O[k]?=some (some<|.dK kvs)/\W.ρ[k]?=some a/\W.H a=some (.dK vs)/\KR K W kvs vs:=by
 cases d with
 |ref k=>
  simp only[gc] at h;split at h
  .rename_i kvs' J;cases h;cases r with
   |ref L=>
    obtain⟨S,F,P,z,vs,rfl,r⟩:=ok.at_ k _ J;rw[L] at P;cases P;exact(⟨k,_,vs,rfl,rfl,J,L,z,r⟩)
  .cases h
 |_=>simp[gc] at h
theorem KR.len(r:KR K W kvs vs):kvs.length=vs.length:=UN r
theorem KR.any(r:KR K W kvs vs)(k:Key):(kvs.any fun z=>decide (z.1=k))=vs.any fun z=>decide (z.1=k):=by
 unfold KR at r;induction r with
 |nil=>rfl|cons h t H=>rw[T6,T6,H,h.1]
theorem KR.val(r:KR K W kvs vs)(k:Key):(gK kvs k).isSome=(gp vs k).isSome:=by
 unfold KR at r;induction r with
 |nil=>rfl| @cons p q ps J h t H=>
  by_cases e:p.1=k
  .rw[lY (by rw[←h.1];exact e)];simp[gK,SH,e]
  .rw[l8 (by rw[←h.1];exact e)];simp only[gK,SH,e,UI] at H⊢;exact H
theorem KR.snoc(r:KR K W kvs vs)(k:Key)(z:DR K W d v):KR K W (kvs++[(k,d)]) (vs++[(k,v)]):=VQ r ⟨rfl,z⟩
theorem KR.repl(r:KR K W kvs vs)(k:Key)(F:DR K W d v):
  KR K W (kvs.map fun z=>if z.1=k then(z.1,d) else z) (vs.map fun z=>if z.1=k then(z.1,v) else z):=by
 unfold KR at r⊢;induction r with
 |nil=>exact .nil| @cons p q ps J h t H=>
  refine .cons ?_ H;show(if p.1=k then(p.1,d) else p).1=(if q.1=k then(q.1,v) else q).1/\DR K W (if p.1=k then(p.1,d) else p).2 (if q.1=k then(q.1,v) else q).2;by_cases e:p.1=k
  .rw[if_pos e,if_pos (by rw[←h.1];exact e)];exact⟨h.1,F⟩
  .rw[if_neg e,if_neg (by rw[←h.1];exact e)];exact h
theorem KR.put(r:KR K W kvs vs)(k:Key)(z:DR K W d v):KR K W (g6 kvs k d) (fP vs k v):=by
 unfold g6 fP;rw[r.any k];by_cases e:(vs.any fun H=>decide (H.1=k))=true
 .rw[if_pos e,if_pos e];exact r.repl k z
 .rw[if_neg e,if_neg e];exact r.snoc k z
theorem KR.vals(r:KR K W kvs vs):V2 K W (kvs.map (·.2)) (vs.map (·.2)):=by
 unfold KR at r;induction r with
 |nil=>exact .nil|cons h t H=>exact .cons h.2 H
theorem zG{k:Nat}{a:Addr}{kvs kvs':List (Key×D)}{vs':List (Key×V)}(ok:Ok K W)(z:W.O[k]?=some (some<|.dK kvs))(F:W.ρ[k]?=some a)(S:KR K W kvs' vs'):
  Ok K (W.put k a (.dK vs')<|.dK kvs')/\Step W (W.put k a (.dK vs')<|.dK kvs'):=⟨qV ok z F ⟨vs',rfl,S⟩,ln z F⟩
theorem uN(ok:Ok K W)(h:gc W.O d=some kvs)(r:DR K W d v):ϋ K "dict" v W.H:=by obtain⟨k,a,vs,rfl,rfl,_,_,J,_⟩:=mC ok h r;exact(.inr<|.inr<|.inl ⟨rfl,.inl ⟨vs,J⟩⟩)
end
def jt(n:Nat)(c:Ck)(g:GV)(tc:BV)(tk tv:EV):List D->G->M->Option M
 | [],_,O=>some O|d::r,B,O=>(g d B O).bind fun p=>(tc p.1 p.2).bind fun t=>if t.1=true then(tk p.1 t.2).bind fun y=>(tv p.1 y.2).bind fun v=>(jE y.1).bind fun k=>(gc v.2<|.ref n).bind fun kvs=>
   XU (kvs.length<1000000/\eL c (v.2.set n<|some<|.dK<|g6 kvs k v.1)) (jt n c g tc tk tv r p.1<|v.2.set n<|some<|.dK<|g6 kvs k v.1) else XU (eL c t.2) (jt n c g tc tk tv r p.1 t.2)
section
variable {X:Cx} {K:Frag} {a b e o:Expr} {ea eb eo:EV} {pos p apos l0:Pos} {k:Nat}
def pf:EV:=fun _ O=>some (.ref O.length,O++[some (.dK [])])
theorem D9:PE X (.Dict [] [] pos) (tD K pf):=eK OZ fun J H Q h=>by refine Wf h fun W B d Z6 z ok en e q=>?_;subst z;cases e;intro P L;exact q _ (W.new P (.dK [])<|.dK []) rfl (qf ok L ⟨[],rfl,.nil⟩) (jK ok L) (pj ok)
def hX(x y:D)(O:M):Fr:=(gc O x).bind fun kvs=>(jE y).bind fun k=>(gK kvs k).bind fun d=>some (d,O)
theorem KR.at{W:Wd}{kvs:List (Key×D)}{vs:List (Key×V)}(r:KR K W kvs vs){k:Key}{d:D}(h:gK kvs k=some d):∃v,gp vs k=some v/\DR K W d v:=by
 unfold KR at r;induction r with
 |nil=>cases h
 | @cons p q ps P hd t H=>
  by_cases e:p.1=k
  .have:gK (p::ps) k=some p.2:=by simp[gK,SH,e]
   rw[this] at h;cases h;exact⟨q.2,lY (by rw[←hd.1];exact e),hd.2⟩
  .have:gK (p::ps) k=gK ps k:=by simp[gK,SH,e]
   rw[this] at h;obtain⟨v,L,J⟩:=H h;exact⟨v,by rw[l8 (by rw[←hd.1];exact e)];exact L,J⟩
theorem rC(hr:V8 k X.A)(S:PE X a (tD K ea))(hb:PE X b (tD K eb))(z:tM b:=by exact fun _ _=>rfl):PE X (.Subscript a b pos) (tD K<|v2 hX ea eb):=
 eK (Cs (by have:=hr.units;omega) S hb z) fun J H Q h=>by refine Wf h fun W B d Z6 eH ok en e q=>?_;subst eH;refine dF e fun p1 e1 e=>?_;refine dF e fun F e2 e=>?_;refine dF e fun kvs e3 e=>?_;refine dF e fun ky e4 e=>?_;refine dF e fun d2 e5 e=>?_;cases e;refine⟨W,B,p1.1,p1.2,rfl,ok,en,e1,fun x W1 Z2 P s1 r1=>⟨W1,B,F.1,F.2,rfl,P,en.step ok s1,by rw[Z2];exact e2,fun y W2 ZV L s2 r2=>?_⟩⟩;rw[←ZV] at e3;obtain⟨n,a,vs,hd,rfl,hk,S,hh,z⟩:=mC L e3 (r1.step P s2);have:=yJ e4 r2;subst this;obtain⟨v,h1,h2⟩:=z.at e5;exact⟨a,v,rfl,by rw[←h1];exact Xl.k hh,q _ W2 ZV L (s1.trans s2) h2⟩
def tK(x:D)(O:M):Fr:=(gc O x).bind fun kvs=>some (.lst (kvs.map (·.2)),O)
theorem Ln(ml:X.mg "list"=none) (ho:PE X o (tD K eo)) (hc:X.calm=true:=by rfl) (hg:Gl X "list":=by rfl) (S:attributeBase o "values" X.env (eval o X.env)=eval o X.env:=by rfl) (F:(apos.endLine==l0.line)=true:=by rfl)
  (hs:starEach [.Call (.Attribute o "values" apos) [] [] l0] X.env=[(false,eval (.Call (.Attribute o "values" apos) [] [] l0) X.env)]:=by rfl) (hK:X.K=K:=by rfl):
  PE X (.Call (.Name "list" p) [.Call (.Attribute o "values" apos) [] [] l0] [] pos) (tD K<|v1 tK eo):=by
 refine eK (rL (p:=p) (pos:=pos) (Ev (X:=X)) hg ml rfl (fE (NF K ho S F hK) fV hs) (he:=hs)) fun J H Q h=>?_;refine Wf h fun W B d Z6 eH ok en e q=>?_;subst eH;refine dF e fun p1 e1 e=>?_;refine dF e fun kvs e2 e=>?_;cases e;refine⟨W,B,p1.1,p1.2,rfl,ok,en,e1,fun x W1 Z2 L s1 r1=>?_⟩;rw[←Z2] at e2;obtain⟨k,a,vs,hd,rfl,hk,ha,hh,hs⟩:=mC L e2 r1;refine(⟨uN L e2 r1,a,vs,rfl,rfl,hh,fun v hv=>?_⟩);refine⟨v,a,vs,rfl,fL,by rw[eG (fun z=>by rw[z,hv] at hh;cases hh)];exact hh,hc,fun l hl=>?_⟩;have P:=gC (o:=ψ v a) L hv;have s2:=fM (o:=ψ v a) hv;have r2:=hs.vals.step L s2;exact q _ ((W1.lay v<|ψ v a).lay l (.lst (vs.map (·.2)))) Z2 (gC P hl) ((s1.trans s2).trans (fM hl)) (pW P hl r2)
def iC(eo ek z:EV):EV:=fun B O=>(eo B O).bind fun p=>(gc p.2 p.1).bind fun _=>(ek B p.2).bind fun q=>(z B q.2).bind fun r=>(jE q.1).bind fun k=>(gc r.2 p.1).bind fun kvs=>match p.1 with
 | .ref n=>if kvs.length<1000000 then(match gK kvs k with
  |some d=>some (d,r.2)|none=>some (r.1,r.2.set n<|some<|.dK<|g6 kvs k r.1)) else none
 |_=>none
theorem yB(ho:PE X o (tD K eo))(ha:PE X a (tD K ea))(hb:PE X b (tD K eb))(hs:YO X a b:=by rfl)(X7:WX X b:=by rfl)
  (X3:attributeBase o "setdefault" X.env (eval o X.env)=eval o X.env:=by rfl) (Zo:gV apos pos:=by rfl) (hK:X.K=K:=by rfl)
  (hfew:((backTo pos<|starEach [a,b] X.env).all (fun x=>!x.1)&&(backToKw pos<|keywordEach [] X.env).all (fun x=>x.1.isSome)
   &&decide ([a,b].length+([]:Ť).length+(if([]:Ť).isEmpty then 0 else 1)<30))=true:=by rfl):
  PE X (.Call (.Attribute o "setdefault" apos) [a,b] [] pos) (tD K<|iC eo ea eb):=eK (GB K ho ha hb hs X7 X3 Zo hK hfew) fun J H Q h=>by
 refine Wf h fun W B d Z6 eH ok en e q=>?_;subst eH;refine dF e fun p1 e1 e=>?_;refine dF e fun kv0 e0 e=>?_;refine dF e fun p2 e2 e=>?_;refine dF e fun p3 e3 e=>?_;refine dF e fun S e4 e=>?_;refine dF e fun kvs e5 e=>?_;refine⟨W,B,p1.1,p1.2,rfl,ok,en,e1,fun x W1 Z2 F s1 r1=>⟨uN F (by rw[Z2];exact e0) r1,W1,B,p2.1,p2.2,rfl,F,en.step ok s1,by rw[Z2];exact e2,fun y W2 ZV XJ s2 r2=>⟨W2,B,p3.1,p3.2,rfl,XJ,(en.step ok s1).step F s2,by rw[ZV];exact e3,fun z W3 ZS P s3 r3=>?_⟩⟩⟩;rw[←ZS] at e5;obtain⟨n,a1,vs,hd,rfl,hk,ς,hh,L⟩:=mC P e5 ((r1.step F s2).step XJ s3);have:=yJ e4 (r2.step XJ s3);subst this;rw[hd] at e;simp only at e;split at e
 .rename_i hl;refine⟨a1,vs,S,z,rfl,rfl,hh,pO (by rw[←L.len];omega),fun v hv=>?_,fun hv=>?_⟩
  .split at e
   .rename_i d0 hd0;cases e;obtain⟨v',h1,h2⟩:=L.at hd0;rw[hv] at h1;cases h1;exact(q _ W3 ZS P ((s1.trans s2).trans s3) h2)
   .rename_i hd0;have:=L.val S;rw[hd0,hv] at this;cases this
  .split at e
   .rename_i d0 hd0;have:=L.val S;rw[hd0,hv] at this;cases this
   .cases e;obtain⟨o4,s4⟩:=zG (vs':=fP vs S z) (kvs':=g6 kvs S p3.1) P hk ς (L.put S r3);exact q _ (W3.put n a1 (.dK<|fP vs S z)<|.dK<|g6 kvs S p3.1) (by show W3.O.set _ _=_;rw[ZS]) o4 (((s1.trans s2).trans s3).trans s4) (r3.step P s4)
 .cases e
end
end L3
namespace L2
open PySem PySem.W PySem.Spec PyProof.Rows
structure Wq (P:Program) (w:World) (outer:Š) (L:Addr) (H H':Hp) (s:Shared) (e:Addr) (C:Value) (Z8:Heap) (s':Shared):Prop where
 os:s'.os=s.os
 bare:AllBare s'.gens
 un:Un (WK outer) [] H H' s.heap s'.heap
 hok:Ww P w H' s'.heap
 trk:∀b o,s'.heap.get? b=some o->H' b≠none->Z8.get? b=some o
 old:∀b o,s.heap.get? b=some o->H b=none->b∉WK outer->Z8.get? b=some o
 thr:∀b o,s.heap.get? b=some o->b∉WK outer->∃o',Z8.get? b=some o'
 frf:∀b∈WK outer,H b=none
 unt:H' e=none
 new:s.heap.get? e=none
 fly:∃a0,Heap.HeldW Z8 outer e C a0 L s'.heap
section
variable {P:Program} {w:World} {outer:Š} {L:Addr} {H H':Hp} {s s':Shared} {e:Addr} {C:Value} {Z8:Heap}
theorem Flew.noted(F:Flew P w outer H H' s e C Z8 s')(S:s'.heap.UpToSlots z)(fl:∃a0,Heap.HeldW Z8 outer e C a0 L z):Wq P w outer L H H' s e C Z8 {s' with heap:=z}:=by obtain⟨a0,fl⟩:=fl;obtain⟨u,k,t⟩:=F.to fl.1 S;exact(⟨F.os,F.bare,u,k,t,F.old,F.thr,F.frf,F.unt,F.new,a0,fl⟩)
theorem Wq.to(F:Wq P w outer L H H' s e C Z8 s')(hB:Z8.StaysIn S)(hs:s'.heap.UpToSlots S):Un (WK outer) [] H H' s.heap S/\Ww P w H' S/\∀b o,S.get? b=some o->H' b≠none->Z8.get? b=some o:=by
 obtain⟨a0,fl⟩:=F.fly;have kp:∀b o,s.heap.get? b=some o->H b=none->b∉WK outer->S.get? b=some o:=fun b o x n J=>hB b o (F.old b o x n J);have sl:∀b o,s.heap.get? b=some o->H b=none->b∈WK outer->∃sl,S.get? b=some {o with slots:=sl}:=fun b o x n J=>by obtain⟨sl,e1⟩:=F.un.slot b o x n J nofun;obtain⟨_,o',e2,d⟩:=fl.2.2.1.mem J;rw[e1] at e2;cases e2;obtain⟨lA,e3⟩:=hs b {o with slots:=sl} e1 d;exact(⟨lA,e3⟩)
 refine⟨⟨fun b o x n J _=>kp b o x n J,fun b o x n J _=>sl b o x n J,F.un.free,fun b o x _=>?_,F.un.tups,F.un.frzs,F.un.tbls⟩,fun a u eu=>?_,fun b o x n=>?_⟩
 .by_cases J:b∈WK outer
  .obtain⟨l,e1⟩:=sl b o x (F.frf b J) J;exact⟨_,e1⟩
  .obtain⟨o',e1⟩:=F.thr b o x J;exact⟨o',hB b o' e1⟩
 .refine(F.hok a u eu).stay (fun b v J q=>hB b v<|F.trk b v q ?_) (fun _ q=>q) fun _ _ q=>q;rcases J with z|z
  .rw[z,eu];simp
  .rw[z];simp
 .cases eu:H' b with
  |none=>exact absurd eu n|some u=>
   obtain⟨o1,e1⟩:=(F.hok b u eu).there;have e2:=F.trk b o1 e1 n;have e3:=hB b o1 e2;rw[x] at e3;cases e3;exact(e2)
theorem Wq.next(F:Wq P w outer L H H' s e C Z8 s')(S:s'.heap.UpToSlots z)(fl:∃a0,Heap.HeldW Z8 outer e C a0 L z):Wq P w outer L H H' s e C Z8 {s' with heap:=z}:=by obtain⟨a0,fl⟩:=fl;obtain⟨u,k,t⟩:=F.to fl.1 S;exact(⟨F.os,F.bare,u,k,t,F.old,F.thr,F.frf,F.unt,F.new,a0,fl⟩)
theorem Wq.lands(F:Wq P w outer L H H' s e C Z8 s')(S:s'.heap.UpToSlots z)(fl:∃a0,Heap.FlyingW Z8 outer e C a0 z):Flew P w outer H H' s e C Z8 {s' with heap:=z}:=by obtain⟨a0,fl⟩:=fl;obtain⟨u,k,t⟩:=F.to fl.1 S;exact(⟨F.os,F.bare,u,k,t,F.old,F.thr,F.frf,F.unt,F.new,a0,fl⟩)
end
theorem Dm{M:Model}{A:Around}{E:QS}{s:Shared}{base:Heap}{l:Š}{e L:Addr}{cls a0:Value}{Q:Unit->Shared->Prop}(R:Heap.HeldW base l e cls a0 L s.heap)
  (h:∀h',Heap.HeldW base l e cls a0 L h'->s.heap.UpToSlots h'->Q () {s with heap:=h'}):wpAny M A (setFlight (.ref e)<|some L) Q E s:=by
 obtain⟨_y,hen,hl,oe,vs,T,oT,ts,he,ο,hd,h1,Ŀ,ō,hT,z,h3⟩:=R;have F:3<ts.size:=(Array.getElem?_eq_some_iff.mp h3).1;have other:∀b,b≠T->(s.heap.update T (Obj.mapFields (·.setIfInBounds 3 ((some L).elim Value.none fun f=>rawInt f)))).get? b=s.heap.get? b:=
  fun b J=>T1 _ _ (Ne.symm J)
 have H:∀b o,s.heap.get? b=some o->(∀vs,o.data≠.fields vs)->b≠T:=fun b o J P q=>by rw[q,hT] at J;injection J with J;subst J;exact P ts z
 unfold setFlight;refine Sj (Us he hd h1 ?_);rw[if_pos (show(Value.ref T !=Value.none)=true from by simp)];refine wpAny_setField hT z F (h _ ⟨fun b o S=>(other b fun q=>by rw[q,Ŀ] at S;cases S).trans (_y b o S),hen,
  hl.of_keeps fun b o J P=>⟨o,(other b<|H b o J P).trans J,rfl⟩,?_⟩ fun b o J P=>⟨o.slots,(other b<|H b o J P).trans J⟩)
 exact⟨oe,vs,T,_,_,(other e<|Ne.symm ō).trans he,ο,hd,h1,Ŀ,ō,Uv _ hT (Obj.isFreed_of_fields<|Obj.data_mapFields z _),Obj.data_mapFields z _,by simp[F]⟩
theorem M8{M:Model}{A:Around}{E:QS}{s:Shared}{base h:Heap}{env:Env}{outer:Š}{L e:Addr}{cls:Value}{args:Œ}{Q:Unit->Shared->Prop}
  (S:A.frames=some (env::outer)) (hf:env.frame=some L) (F:base.StaysIn h) (hl:h.FunFrames base (env::outer)) (z:Heap.MadeExcOf h s.heap e cls args)
  (hQ:∀h' a0,Heap.HeldW base (env::outer) e cls a0 L h'->s.heap.UpToSlots h'->Q () {s with heap:=h'}):wpAny M A (noteFrame (.ref e) env) Q E s:=by
 obtain⟨t,J,htn,ht⟩:=z.there;have fresh:∀b,h.get? b=none->base.get? b=none:=fun b H=>by
  cases hq:base.get? b with
  |none=>rfl|some P=>have:=F b P hq;rw[H] at this;cases this
 unfold noteFrame;simp only[hf];refine Sj (Us J rfl (show(#[Value.ref t,.none,.none,.none,.bool false,.none]:Array Value)[1]?=some Value.none from rfl) ?_);rw[if_neg (show ¬((Value.none !=Value.none)=true) from by decide)];refine wpAny_entryW (a0:=.ref t) S (hl.of_keeps fun b o H _=>⟨o,z.keeps b o H,rfl⟩) hf J (fun b o H=>z.keeps b o<|F b o H) (fresh e z.new) rfl nofun rfl fun h' hN=>?_;obtain⟨k1,k2,k3,k4⟩:=hN;exact(hQ h' _ ⟨k1,fresh e z.new,k2,k3⟩ k4)
def Lv(X:Cx):Prop:=X.stack=X.env::X.outer/\X.env.frame=some X.env.locals
def Υ(X:Cx)(E:St->XK)(e:Value)(s':Shared):Prop:=∃(a:Addr) (C:Value) (pins:SB) (J:St) (H H':Hp) (s:Shared),e=.ref a/\Inv X pins J H s/\E J C none H'/\
 ((H'=H/\∃(D:Addr) (vs:Œ) (h':Heap),C=.ref D/\s'={s with heap:=h'}/\Heap.MadeExcOf s.heap h' a C vs)\/(∃Z8,Flew X.prog X.w X.stack H H' s a C Z8 s')\/(∃Z8,Wq X.prog X.w X.stack X.env.locals H H' s a C Z8 s'))
section
variable {X:Cx} {E:St->XK} {pins:SB} {J:St} {H H':Hp} {s s':Shared} {a:Addr} {C:Value} {Z8:Heap}
theorem Fa{M:Model}{A:Around}{E':QS}{D:Addr}{vs:Œ}{h':Heap}{Q:Unit->Shared->Prop}(lv:Lv X)(hA:A.frames=X.A.frames)(I:Inv X pins J H s)(hx:Heap.MadeExcOf s.heap h' a (.ref D) vs)
  (hQ:∀Z8 h2,Wq X.prog X.w X.stack X.env.locals H H s a (.ref D) Z8 {s with heap:=h2}->Q () {s with heap:=h2}):wpAny M A (noteFrame (.ref a) X.env) Q E' {s with heap:=h'}:=by
 obtain⟨S,_P⟩:=lv;have fs:∀b,b∈WK X.stack->H b=none:=I.stkFree;have inn:∀b o,s.heap.get? b=some o->b∉WK X.stack->(hideAll s.heap<|WK X.stack).get? b=some o:=fun b o e L=>hideAll_get _ e L;have ü:∀env∈X.stack,∀a,env.frame=some a->a∈WK X.stack:=fun env he a ha=>UR.mpr ⟨env,he,ha⟩;have Ĳ:∀b,H b≠none->b∉WK X.stack:=fun b n z=>n (fs b z);refine M8 (base:=hideAll s.heap (WK X.stack)) (env:=X.env) (outer:=X.outer) (by rw[hA,I.ok.frames,S]) _P (fun b o q=>of_hideAll _ q) (by rw[←S];exact funFrames_hide I.stack ü) hx fun h2 a0 fl ups=>hQ (hideAll s.heap<|WK X.stack) h2 ?_;have hB:=fl.1;have P:∀b o,s.heap.get? b=some o->b∉WK X.stack->h2.get? b=some o:=fun b o e L=>hB b o (inn b o e L);have F:∀b o,s.heap.get? b=some o->b∈WK X.stack->∃sl,h2.get? b=some {o with slots:=sl}:=fun b o e L=>by obtain⟨_,o',e2,d⟩:=I.stack.mem L;rw[e] at e2;cases e2;obtain⟨lA,e3⟩:=ups b o (hx.keeps b o e) d;exact(⟨lA,e3⟩)
 refine⟨rfl,I.bare,⟨fun b o x n L _=>P b o x L,fun b o x n L _=>F b o x L,fun b o x n _=>n,fun b o x _=>?_,fun _ _ z=>z,fun _ _ _ z=>z,fun _ ps z=>⟨#[],by simpa using z⟩⟩,fun b u eu=>?_,fun b o x n=>?_,fun b o x n L=>inn b o x L,fun b o x L=>⟨o,inn b o x L⟩,fs,?_,hx.new,a0,?_⟩
 .by_cases L:b∈WK X.stack
  .obtain⟨l,e1⟩:=F b o x L;exact⟨_,e1⟩
  .exact⟨o,P b o x L⟩
 .refine(I.hok b u eu).stay (fun c v L q=>P c v q<|Ĳ c ?_) (fun _ q=>q) fun _ _ q=>q;rcases L with z|z
  .rw[z,eu];simp
  .rw[z];simp
 .cases eu:H b with
  |none=>exact absurd eu n|some u=>
   obtain⟨o1,e1⟩:=(I.hok b u eu).there;have e2:=inn b o1 e1 (Ĳ b n);have e3:=hB b o1 e2;rw[x] at e3;cases e3;exact(e2)
 .cases eu:H a with
  |none=>rfl|some u=>
   obtain⟨o1,e1⟩:=(I.hok a u eu).there;rw[hx.new] at e1;cases e1
 .rw[←S] at fl;exact fl
theorem IL{M:Model}{A:Around}{E':QS}{e:Value}{Q:Unit->Shared->Prop}(lv:Lv X)(S:A.frames=X.A.frames)(h:Υ X E e s')
  (z:∀a C pins J H H' s Z8 s2,e=.ref a->Inv X pins J H s->E J C none H'->Wq X.prog X.w X.stack X.env.locals H H' s a C Z8 s2->Q () s2):wpAny M A (noteFrame e X.env) Q E' s':=by
 obtain⟨a,C,pins,J,H,H',s,rfl,I,hE,h⟩:=h;rcases h with⟨rfl,D,vs,h',rfl,rfl,hx⟩|⟨Z8,F⟩|⟨Z8,F⟩
 .exact Fa lv S I hx fun Z8 h2 F=>z _ _ _ _ _ _ _ _ _ rfl I hE F
 .obtain⟨P,fl⟩:=F.fly;have L:Heap.FlyingW Z8 (X.env::X.outer) a C P s'.heap:=by rw[←lv.1];exact fl
  refine wpAny_looks_onW (by rw[S,I.ok.frames,lv.1]) lv.2 L fun h2 hh hs=>z _ _ _ _ _ _ _ _ _ rfl I hE (F.noted hs ⟨P,by rw[lv.1];exact hh⟩)
 .obtain⟨P,fl⟩:=F.fly;exact wpAny_noteFrame_againW lv.2 fl.2.2.2 (z _ _ _ _ _ _ _ _ _ rfl I hE F)
theorem Os(lv:Lv X):PassesOwn (model X.prog X.w) X.A X.env (Υ X E):=fun e s' h=>by
 refine IL lv rfl h fun a C pins J H H' s Z8 s2 S I hE F=>?_;subst S;obtain⟨z,fl⟩:=F.fly;obtain⟨oe,vs,T,oT,ts,g1,_,g2,g3,_⟩:=id fl.2.2.2;show wpAny _ _ (do
  if(←field (.ref a) 1)==.none then unsupported "frame.own-activation:exception-without-traceback"
  setFlight (.ref a) X.env.frame) _ _ _
 refine Sj (Us g1 g2 g3 ?_);rw[if_neg (show ¬((Value.ref T==Value.none)=true) from by simp),lv.2];first
  |exact Sj (Sk<|Dm fl fun h2 P L=>⟨a,C,pins,J,H,H',s,rfl,I,hE,.inr<|.inr ⟨Z8,F.next L ⟨z,P⟩⟩⟩)
  |exact Dm fl fun h2 P L=>⟨a,C,pins,J,H,H',s,rfl,I,hE,.inr<|.inr ⟨Z8,F.next L ⟨z,P⟩⟩⟩
end
section
variable {P:Program} {w:World} {K:Frag} {mg:œ} {base:Heap} {N:Ŗ} {qual:Str} {scope:Scope} {f:Addr} {cd:Value} {A:Around} {outer:Š} {s:Shared} {H:Hp} {E:XK}
theorem M4{e:Value}{s':Shared}(h:Υ (eV (XQ P w) P w K mg base N qual scope f cd A outer s H E) (fun _=>E) e s'):(eV (XQ P w) P w K mg base N qual scope f cd A outer s H E).xe e s':=by
 obtain⟨a,C,pins,J,H1,H',s1,rfl,I,hE,h⟩:=h;rcases h with⟨rfl,D,vs,h',rfl,rfl,hx⟩|⟨Z8,F⟩|⟨Z8,F⟩
 .exact Mb I hx hE
 .exact EI (E':=E) (fun _ _ _ z=>z) pins J H1 s1 _ s' I ⟨a,C,H',Z8,rfl,F,hE⟩
 .obtain⟨a0,fl⟩:=F.fly;show wpAny (model P w) (A.deeper<|envOfC qual scope s.heap.objs.size f cd) (leaving (envOfC qual scope s.heap.objs.size f cd)<|.ref a) _ _ _;unfold leaving;refine Sj (wpAny_noteFrame_againW rfl fl.2.2.2 (wpAny_landsW fl fun h2 ϲ ups=>?_));have F2:=F.lands ups ⟨a0,ϲ⟩;have S:=Flew.inv (X:=eV (XQ P w) P w K mg base N qual scope f cd A outer s H E) F2 I;have out:∀b o,s.heap.get? b=some o->b∉WK outer->b∉WK (envOfC qual scope s.heap.objs.size f cd::outer):=fun b o e L z=>by
   have z:b∈s.heap.objs.size::WK outer:=z;rcases SI.mp z with q|q
   .rw[q] at e;exact Td _ (Su e)
   .exact L q
  obtain⟨f1,f2,⟨_,_,f3⟩,f4⟩:=id ϲ;refine⟨a,C,H',Z8,rfl,⟨S.os,F2.bare,⟨fun b o x n L _=>S.base.keep b o x n L (by simp[eV]),fun b o x n L _=>S.base.slot b o x n L (by simp[eV]),fun b o x n _=>S.base.free b o x n (by simp[eV]),fun b o x _=>S.base.there b o x (by simp[eV]),S.base.tups,S.base.frzs,S.base.tbls⟩,F2.hok,F2.trk,
   fun b o x n L=>F2.old b o (I.base.keep b o x n L<|by simp[eV]) (I.base.free b o x n<|by simp[eV]) (out b o x L),fun b o x L=>?_,I.ok.frf,F2.unt,?_,a0,f1,f2,f3,f4⟩,hE⟩
  .obtain⟨o1,e1⟩:=I.base.there b o x (by simp[eV]);exact F2.thr b o1 e1 (out b o x L)
  .cases eo:s.heap.get? a with
   |none=>rfl|some o=>
    obtain⟨o1,e1⟩:=I.base.there a o eo (by simp[eV]);rw[F2.new] at e1;cases e1
end
abbrev Cx.fl(X:Cx)(E:St->XK):Cx:=X.wish (Υ X E)
abbrev vg:Œ:=[.type "ValueError",.type "Exception",.type "BaseException",.type "object"]
def gZ(K:Frag)(C:Addr):Prop:=∃bm N nm q bs hdct sn sub ab col dd k0 k1 k2 k3 k5,
  K.lookup C=some (excClassObj nm q C N bs bm hdct sn sub ab col dd k0 k1 k2 k3 k5 "ValueError.__new__")/\tailIn K vg bm=true/\nsOkIn K N=true/\nsIn K N "__init__"=some none
theorem II{K:Frag}{h:Heap}{C:Addr}{G:Prop}(X:K.In h)(q:gZ K C)
  (k:∀bm N nm q bs hdct sn sub ab col dd k0 k1 k2 k3 k5 mN,h.get? C=some (excClassObj nm q C N bs bm hdct sn sub ab col dd k0 k1 k2 k3 k5 "ValueError.__new__")->h.Ns N mN->mN "__init__"=none->OwnTail h vg bm->G):G:=by
 obtain⟨bm,N,nm,q,bs,hdct,sn,sub,ab,col,dd,k0,k1,k2,k3,k5,L,J,hok,H⟩:=q;exact(k bm N nm q bs hdct sn sub ab col dd k0 k1 k2 k3 k5 _ (X _ _ L) (.of_isNs<|isNs_of_in X hok) (nsMap_none_of_in X hok H)<|tail_of_in X J)
def QC{h h':Heap}{N:Addr}{m:œ}(z:h.Ns N m)(b:∀b o,h.get? b=some o->h'.get? b=some o):h'.Ns N m:=by obtain⟨o,es,ep,J,hd,H,hf⟩:=z;exact(⟨o,es,ep,b _ _ J,hd,H,hf⟩)
section
variable {X:Cx} {E:St->XK} {e:Expr} {te:TE} {np Wa pos:Pos} {x:Str} {C:Addr}
theorem D0(he:PE (X.fl E) e te)(hg:Gl (X.fl E) x)(hm:X.mg x=some (.ref C))(hC:gZ X.K C)(hc:X.calm=true)(hd:Xm x:=by decide)
  (S:WX X e:=by rfl):PS (X.fl E) (.Raise (some<|.Call (.Name x np) [e] [] Wa) none pos) (fun _ J H=>te J H fun _ H1=>E J (.ref C) none H1):=by
 intro pins s J H D I h;have kb:X.K.In X.base:=I.ok.mod.kin;refine II kb hC fun tl N nm q bs hdct sn sub ab col dd k0 k1 k2 k3 k5 mN hCo hN _t T=>?_;have L:(backTo Wa<|starEach [e] X.env).any (·.1)=false:=by rw[S];rfl
 refine wpAny_Raise_call_subT (C:=C) (nm:=nm) (q:=q) (N:=N) (bs:=bs) (bm:=tl) (hdct:=hdct) (sn:=sn) (sub:=sub) (ab:=ab) (col:=col) (dd:=dd) (k0:=k0) (k1:=k1) (k2:=k2) (k3:=k3) (k5:=k5)
  PySem.F.excBase_ValueError (mN:=mN) (T.hasType PySem.F.excBase_ValueError.hasBase) (I.ok.hd hc) L _t (pG I hg hm ⟨rfl,?_⟩ hd)
 show wpAny _ _ (evalArgs (.ref C) true (backTo Wa<|starEach [e] X.env) []) _ _ _;have P:PA (X.fl E) [e] (gJ te iI):=fE he fV (by show starEach [e] X.env=(false,eval e X.env)::starEach [] X.env;rw[S];rfl);have hq:wpAny (model X.prog X.w) X.A (spliced<|backTo Wa<|starEach [e] X.env) (AP (X.fl E) pins J<|fun vs H1=>vs.length=1/\E J (.ref C) none H1) (Υ X E) s:=P Wa pins s J H (fun vs H1=>vs.length=1/\E J (.ref C) none H1) I (by unfold gJ iI;have z:te J H (fun v H1=>E J (.ref C) none H1):=h;simpa using z)
 rw[S] at hq⊢;refine Calls.evalArgs_plain (V0 hq fun us s2 hm=>?_);obtain⟨vs,H2,I2,r,hl,hE⟩:=hm;have base:∀b o,X.base.get? b=some o->s2.heap.get? b=some o:=I2.bk;exact⟨rfl,by rw[←r.length,hl];decide,base _ _ hCo,QC hN base,T.keeps base,fun h' a hx=>⟨a,.ref C,pins,J,H2,H2,s2,rfl,I2.unwish,hE,.inl ⟨rfl,C,us,h',rfl,rfl,hx⟩⟩⟩
end
def YM(P:Program)(w:World)(K:Frag)(mg:œ)(base:Heap)(k:Nat)(x:Str)(ps:Ŗ)(sp:Sp):Prop:=
 ∃f fd,Qv P w K mg base (XQ P w) k f fd ps sp/\Binds K fd ps []/\keepIn K (.ref f)=true/\mg x=some (.ref f)
section
variable {X:Cx} {E:St->XK} {k:Nat} {x:Str} {ps:Ŗ} {sp:Sp} {e:Expr} {es:Ř} {t:TA} {p pos:Pos} {f C:Addr} {fd:FuncData}
theorem EK(F:Qv X.prog X.w X.K X.mg X.base (XQ X.prog X.w) k f fd ps sp)(z:V8 k X.A)(hb:Binds X.K fd ps [])
  (I:Inv (X.fl E) pins J H s) (r:Vals vs us) (h:sp vs H Q (E J)):wpAny (model X.prog X.w) X.A (call (.ref f) us) (EP (X.fl E) pins J Q) (Υ X E) s:=by
 have S:us.length=ps.length:=by rw[←r.length];exact F.len _ _ _ _ h
 have P:=hb s us I.kIn (by simpa using S);simp only[Tq] at P;refine VX (UE (F.run X.A X.stack s H ⟨us,[]⟩ us vs Q (E J) z I.env0 P r h) fun r s' L=>?_);cases r with
 |error e=>
  obtain⟨a,C,H',Z8,rfl,F,hE⟩:=L;exact⟨a,C,pins,J,H,H',s,rfl,I.unwish,hE,.inr<|.inl ⟨Z8,F⟩⟩
 |ok fl=>
  cases fl with
  |ret u=>exact I.after L|next=>exact False.elim L
  |brk=>exact False.elim L|cont=>exact False.elim L
theorem Jf(D:YM X.prog X.w X.K X.mg X.base k x ps sp)(S:V8 k X.A)(ha:PA (X.fl E) (e::es) t)(hg:Gl X x:=by rfl)(z:Xm x:=by decide)
  (he:X9 X e es:=by rfl) (hpl:Yn X pos es:=by rfl):
  PE (X.fl E) (.Call (.Name x p) (e::es) [] pos) (fun J H Q=>t J H fun vs H1=>sp vs H1 Q<|E J):=by
 obtain⟨f,fd,F,hb,hk,P⟩:=D;intro pins s J H Q I h;refine Ug (pG I hg P ?_ z);refine US (h₀:=X.base) I.ok.mod.kin hk (V0 (ha pos pins s J H _ I h) fun us s1 ⟨vs,H1,L,r,q⟩=>⟨L.kIn,?_⟩) he hpl;exact EK F S hb L r q
end
theorem WM.okX{P:Program}{w:World}{K:Frag}{mg:œ}{base:Heap}{x qual:Str}{st:Stmt}{f:Addr}{fd:FuncData}{N ps:Ŗ}{k:Nat}{sp:Sp}(F:WM K x qual st f fd)(S:DJ N ps (eD st))(len:∀vs H Q E,sp vs H Q E->vs.length=ps.length)
  (ϖ:∀(cdv:Value) (A:Around) (outer:Š) (s:Shared) (H:Hp) (vs:ŗ) (Q:VK) (E:XK),V8 k (A.deeper<|envOfC qual (eD st) s.heap.objs.size f cdv)->sp vs H Q E->
   ∃t,Wo ((eV (XQ P w) P w K mg base N qual (eD st) f cdv A outer s H E).fl fun _=>E) (ic st) t/\t {nx:=fun _ H'=>Q .non H',rt:=Q} (jY N vs) H):Qv P w K mg base (XQ P w) (k+1) f fd ps sp:=by
 obtain⟨oc,od,kV,doc,pm,an,cdv,ct,osl,rfl,lk,Ν⟩:=F.ex;refine(zy lk Ν S len fun A outer s H vs Q E hr L=>?_);obtain⟨t,h,q⟩:=ϖ cdv A outer s H vs Q E hr L;refine(⟨t,fun pins s J H D I hw=>?_,q⟩);exact Ss (h pins s J H D (I.wish _) hw) (fun _ _ z=>z.unwish) fun e s' z=>M4 z
end L2
namespace L3
open PySem PySem.Spec L2
open PyProof.Rows (envOfC)
inductive Rs (α:Type) where
 |ok (a:α)|ex (C:Addr)
abbrev EX:=G->M->Option (Rs D×M)
abbrev BX:=G->M->Option (Rs Bool×M)
abbrev LX:=G->M->Option (Rs (List D)×M)
abbrev FX:=List D->M->Option (Rs D×M)
inductive WS where
 |nx|bk|ct|rt (d:D)|ex (C:Addr)
abbrev SX:=G->M->Option (WS×G×M)
section
variable (K:Frag) (E:St->XK)
def AM(E:XK)(Q:VK)(W':Wd):Rs D->Prop
 | .ok d=>∀v,DR K W' d v->Q v W'.H| .ex C=>E (.ref C) none W'.H
def vY(E:XK)(Q:Bool->Hp->Prop)(W':Wd):Rs Bool->Prop
 | .ok b=>Q b W'.H| .ex C=>E (.ref C) none W'.H
def Nf(E:XK)(Q:ŗ->Hp->Prop)(W':Wd):Rs (List D)->Prop
 | .ok ds=>∀vs,V2 K W' ds vs->Q vs W'.H| .ex C=>E (.ref C) none W'.H
def K8(D:Ends)(W':Wd)(z:St):WS->Prop
 | .nx=>D.nx z W'.H| .bk=>D.bk z W'.H| .ct=>D.ct z W'.H| .rt d=>∀v,DR K W' d v->D.rt v W'.H| .ex C=>E z (.ref C) none W'.H
def tX(ev:EX):TE:=fun J H Q=>∃(W:Wd) (B:G) (r:Rs D) (Z6:M),W.H=H/\Ok K W/\V5 K W B J/\ev B W.O=some (r,Z6)/\∀W',W'.O=Z6->Ok K W'->Step W W'->AM K (E J) Q W' r
def ω(ev:BX):TT:=fun J H Q=>∃(W:Wd) (B:G) (r:Rs Bool) (Z6:M),W.H=H/\Ok K W/\V5 K W B J/\ev B W.O=some (r,Z6)/\∀W',W'.O=Z6->Ok K W'->Step W W'->vY (E J) Q W' r
def pe(ev:LX):TA:=fun J H Q=>∃(W:Wd) (B:G) (r:Rs (List D)) (Z6:M),W.H=H/\Ok K W/\V5 K W B J/\ev B W.O=some (r,Z6)/\∀W',W'.O=Z6->Ok K W'->Step W W'->Nf K (E J) Q W' r
def Xo(es:SX):TS:=fun D J H=>∃(W:Wd) (B:G) (out:WS) (L:G) (Z6:M),W.H=H/\Ok K W/\V5 K W B J/\es B W.O=some (out,L,Z6)/\∀W' P,W'.O=Z6->Ok K W'->Step W W'->V5 K W' L P->K8 K E D W' P out
end
def YQ(ev:BV):BX:=fun B O=>(ev B O).bind fun p=>some (.ok p.1,p.2)
def Xb(ev:LV):LX:=fun B O=>(ev B O).bind fun p=>some (.ok p.1,p.2)
def Ä:Out->WS
 | .nx=>.nx| .bk=>.bk| .ct=>.ct| .rt d=>.rt d
def Xn(es:SV):SX:=fun B O=>(es B O).bind fun o=>some (Ä o.1,o.2)
def ϊ(f:C0):FX:=fun ds O=>(f ds O).bind fun p=>some (.ok p.1,p.2)
def FV{X:Cx}{st:Stmt}{t:TS}(h:PS X.nox st t):PS X st t:=fun pins s J H D I hw=>
 Ss (h pins s J H D (I.wish _) hw) (fun _ _ q=>q.unwish) fun _ _ z=>False.elim z
def OI{X:Cx}{es:Ř}{t:TA}(h:PA X.nox es t):PA X es t:=fun pos pins s J H Q I hw=>
 Ss (h pos pins s J H Q (I.wish _) hw) (fun _ _ ⟨v,H',L,r,q⟩=>⟨v,H',L.unwish,r,q⟩) fun _ _ z=>False.elim z
def OX{X:Cx}{tg:Expr}{t:TG}(h:PG X.nox tg t):PG X tg t:=fun pins s J H v u Q I r hw=>
 Ss (h pins s J H v u Q (I.wish _) r hw) (fun _ _ ⟨L,H',P,q⟩=>⟨L,H',P.unwish,q⟩) fun _ _ z=>False.elim z
section
variable {X:Cx} {E:St->XK} {K:Frag} {e:Expr} {es:Ř} {st:Stmt} {pos p:Pos} {ev:EV} {bv:BV} {lv:LV} {sv:SV}
theorem G5:∀J H Q,ω K E (YQ bv) J H Q->WO K bv J H Q:=fun J H Q h=>by refine Wf h fun W B r Z6 F ok en e q=>?_;subst F;refine dF e fun p e1 e=>?_;cases e;exact⟨W,B,p.1,p.2,rfl,ok,en,e1,fun W' z P L=>q W' z P L⟩
theorem Lu:∀J H Q,pe K E (Xb lv) J H Q->X6 K lv J H Q:=fun J H Q h=>by refine Wf h fun W B r Z6 S ok en e q=>?_;subst S;refine dF e fun p e1 e=>?_;cases e;exact⟨W,B,p.1,p.2,rfl,ok,en,e1,fun v W' F z P L=>q W' F z P v L⟩
theorem vN:∀D J H,Xo K E (Xn sv) D J H->XI K sv D J H:=fun D J H h=>by refine XE h fun W B o ZZ Z6 eH ok en e q=>?_;subst eH;obtain⟨⟨L,ZY,Z5⟩,e1,e⟩:=Wc e;cases e;refine(⟨W,B,L,_,_,rfl,ok,en,e1,fun W' Z0 S F z P=>?_⟩);have:=q W' Z0 S F z P;cases L<;>exact this
theorem mW(h:PT X.nox e (WO K bv)):PT X e (ω K E<|YQ bv):=j1 h.nox G5
theorem jn(h:PA X.nox es (X6 K lv)):PA X es (pe K E<|Xb lv):=tL (OI h) Lu
theorem Gh(h:PS X.nox st (XI K sv)):PS X st (Xo K E<|Xn sv):=gk (FV h) vN
def sR(ea:EX)(el:LX):LX:=fun B O=>(ea B O).bind fun p=>match p.1 with
 | .ok d=>(el B p.2).bind fun q=>match q.1 with
  | .ok ds=>some (.ok (d::ds),q.2)| .ex C=>some (.ex C,q.2)
 | .ex C=>some (.ex C,p.2)
theorem K5(ha:PE X e (tX K E ea))(hr:PA X es (pe K E el))(hs:X9 X e es:=by rfl):PA X (e::es) (pe K E<|sR ea el):=tL (fE ha hr hs) fun J H Q h=>by
 refine Wf h fun W B r Z6 eH ok en e q=>?_;subst eH;obtain⟨⟨p1,p2⟩,e1,e⟩:=Wc e;refine(⟨W,B,p1,p2,rfl,ok,en,e1,fun W1 S L s1=>?_⟩);cases p1 with
 |ex C=>cases e;exact q W1 S L s1
 |ok d=>
  intro x rx;obtain⟨⟨q1,q2⟩,e2,e⟩:=Wc e;refine⟨W1,B,q1,q2,rfl,L,en.step ok s1,by rw[S];exact e2,fun W2 F P s2=>?_⟩;cases q1 with
  |ex C=>cases e;exact q W2 F P (s1.trans s2)
  |ok ds=>
   cases e;exact fun vs z=>q W2 F P (s1.trans s2) (x::vs) (.cons (rx.step L s2) z)
def XM(K:Frag)(f:FX):Sp:=fun vs H Q E=>∃(W:Wd) (ds:List D) (r:Rs D) (Z6:M),W.H=H/\Ok K W/\V2 K W ds vs/\f ds W.O=some (r,Z6)/\∀W',W'.O=Z6->Ok K W'->Step W W'->AM K E Q W' r
def Xa(f:FX)(el:LX):EX:=fun B O=>(el B O).bind fun p=>match p.1 with
 | .ok ds=>f ds p.2| .ex C=>some (.ex C,p.2)
theorem y4{f:FX}{el:LX}{r:ŗ->Hp->VK->XK->Prop}(ra:∀vs H Q E,XM K f vs H Q E->r vs H Q E):∀J H Q,tX K E (Xa f el) J H Q->pe K E el J H fun vs H1=>r vs H1 Q (E J):=fun J H Q h=>by
 refine Wf h fun W B r Z6 eH ok en e q=>?_;subst eH;obtain⟨⟨p1,p2⟩,e1,e⟩:=Wc e;refine(⟨W,B,p1,p2,rfl,ok,en,e1,fun F z L s1=>?_⟩);cases p1 with
 |ex C=>cases e;exact q F z L s1
 |ok ds=>exact fun vs S=>ra _ _ _ _ ⟨F,ds,r,Z6,rfl,L,S,by rw[z];exact e,fun W2 ZV P s2=>q W2 ZV P<|s1.trans s2⟩
theorem jI(D:YM X.prog X.w X.K X.mg X.base k x ps (XM K f))(S:V8 k X.A)(ha:PA (X.fl E) (e::es) (pe K E el))(hg:Gl X x:=by rfl)(F:Xm x:=by decide)
  (he:X9 X e es:=by rfl) (hpl:Yn X pos es:=by rfl):PE (X.fl E) (.Call (.Name x p) (e::es) [] pos) (tX K E<|Xa f el):=
 eK (Jf D S ha hg F he hpl) (y4 fun _ _ _ _ z=>z)
theorem Fl:∀vs H Q E,XM K (ϊ f) vs H Q E->V1 K f vs H Q E0:=fun vs H Q E h=>by obtain⟨W,ds,r,Z6,P,L,J,e,q⟩:=h;obtain⟨⟨d,z⟩,e1,e⟩:=Wc e;cases e;exact(⟨W,ds,d,z,P,L,J,e1,fun v W' a b c d=>q W' a b c v d⟩)
theorem Oe(D:Df X.prog X.w X.K X.mg X.base k x ps (V1 K f))(F:V8 k X.A)(ha:PA X (e::es) (pe K E el))(S:Gl X x:=by rfl)(z:Xm x:=by decide)
  (he:X9 X e es:=by rfl) (hpl:Yn X pos es:=by rfl):PE X (.Call (.Name x p) (e::es) [] pos) (tX K E<|Xa (ϊ f) el):=
 eK (AR D F ha S z he hpl) (y4 (r:=fun vs H Q _=>V1 K f vs H Q E0) Fl)
def ϶(ev:EX):BX:=fun B O=>(ev B O).bind fun p=>match p.1 with
 | .ok (.bl b)=>some (.ok b,p.2)| .ok _=>none| .ex C=>some (.ex C,p.2)
theorem ON{ev:EX}(h:PE X e (tX K E ev))(he:∀whole,isTrue e X.env whole=(do let v ←whole;standAt e.pos;holding [v] (truthy v)):=by intro _;rfl):PT X e (ω K E<|϶ ev):=j1 (M0 h he) fun J H Q h=>by
 refine Wf h fun W B r Z6 eH ok en e q=>?_;subst eH;obtain⟨⟨p1,S⟩,e1,e⟩:=Wc e;refine(⟨W,B,p1,S,rfl,ok,en,e1,fun z P L s1=>?_⟩);cases p1 with
 |ex C=>cases e;exact q z P L s1
 |ok d=>
  intro v F;cases d with
  |bl b=>cases e;cases F;exact⟨b,rfl,q z P L s1⟩
  |_=>cases e
def rM(t:BX):BX:=fun B O=>(t B O).bind fun p=>match p.1 with
 | .ok b=>some (.ok (!b),p.2)| .ex C=>some (.ex C,p.2)
theorem Ox(h:PT X e (ω K E bx)):PT X (.UnaryOp .Not e pos) (ω K E<|rM bx):=j1 (yP h) fun J H Q h=>by
 refine Wf h fun W B r Z6 S ok en e q=>?_;subst S;obtain⟨⟨p1,F⟩,e1,e⟩:=Wc e;refine(⟨W,B,p1,F,rfl,ok,en,e1,fun z P L s1=>?_⟩);cases p1 with
 |ex C=>cases e;exact q z P L s1
 |ok b=>cases e;exact q z P L s1
end
open PyProof.Rows (envOfC)
section
variable {X:Cx} {E:St->XK} {K:Frag} {e:Expr} {st:Stmt} {eE:ţ} {pos p:Pos} {sa sb:SX} {ex:EX}
def fS(a b:SX):SX:=fun B O=>(a B O).bind fun o=>match o.1 with
 | .nx=>b o.2.1 o.2.2|x=>some (x,o.2)
theorem l9:Wo X [] (Xo K E<|Xn WQ):=pT eY vN
theorem hV(h1:PS X st (Xo K E sa)):Wo X [st] (Xo K E sa):=Eh h1
theorem jG(h1:PS X st (Xo K E sa))(h2:Wo X eE (Xo K E sb)):Wo X (st::eE) (Xo K E<|fS sa sb):=pT (Cm h1 h2) fun D J H h=>by
 refine XE h fun W B o ZZ Z6 eH ok en e q=>?_;subst eH;obtain⟨⟨o1,ZY,Z5⟩,e1,e⟩:=Wc e;refine(⟨W,B,o1,ZY,Z5,rfl,ok,en,e1,fun F S z L s1 P=>?_⟩);cases o1 with
 |nx=>exact⟨F,ZY,o,ZZ,Z6,rfl,L,P,by rw[z];exact e,fun W2 ZW ZV XJ s2 Xz=>q W2 ZW ZV XJ (s1.trans s2) Xz⟩|bk=>cases e;exact q F S z L s1 P
 |ct=>cases e;exact q F S z L s1 P
 |rt d=>cases e;exact q F S z L s1 P
 |ex C=>cases e;exact q F S z L s1 P
def kW(ea:EX):SX:=fun B O=>(ea B O).bind fun p=>match p.1 with
 | .ok _=>some (.nx,B,p.2)| .ex C=>some (.ex C,B,p.2)
theorem sj(he:PE X e (tX K E ex))(S:swapsWith e none pos.line X.env=pure false:=by rfl):PS X (.Expr e pos) (Xo K E<|kW ex):=gk (AC he S) fun D J H h=>by
 refine XE h fun W B o ZZ Z6 eH ok en e q=>?_;subst eH;obtain⟨⟨p1,F⟩,e1,e⟩:=Wc e;refine(⟨W,B,p1,F,rfl,ok,en,e1,fun z P L s1=>?_⟩);cases p1 with
 |ex C=>cases e;exact q z J P L s1 (en.step ok s1)
 |ok d=>cases e;exact fun v rv=>q z J P L s1 (en.step ok s1)
def jW(ea:EX):SX:=fun B O=>(ea B O).bind fun p=>match p.1 with
 | .ok d=>some (.rt d,B,p.2)| .ex C=>some (.ex C,B,p.2)
theorem tV(he:PE X e (tX K E ex)):PS X (.Return (some e) pos) (Xo K E<|jW ex):=gk (z6 he) fun D J H h=>by
 refine XE h fun W B o ZZ Z6 eH ok en e q=>?_;subst eH;obtain⟨⟨p1,S⟩,e1,e⟩:=Wc e;refine(⟨W,B,p1,S,rfl,ok,en,e1,fun z P L s1=>?_⟩);cases p1 with
 |ex C=>cases e;exact q z J P L s1 (en.step ok s1)
 |ok d=>cases e;exact fun v F=>q z J P L s1 (en.step ok s1) v F
def ib(t:BX)(a b:SX):SX:=fun B O=>(t B O).bind fun p=>match p.1 with
 | .ok c=>if c=true then a B p.2 else b B p.2| .ex C=>some (.ex C,B,p.2)
theorem lF(hc:PT X c (ω K E bc))(ha:Wo X a (Xo K E sa))(hb:Wo X b (Xo K E sb)):PS X (.If c a b pos) (Xo K E<|ib bc sa sb):=gk (Bm hc ha hb) fun D J H h=>by
 refine XE h fun W B o ZZ Z6 eH ok en e q=>?_;subst eH;obtain⟨⟨p1,p2⟩,e1,e⟩:=Wc e;refine(⟨W,B,p1,p2,rfl,ok,en,e1,fun W1 Z2 P s1=>?_⟩);cases p1 with
 |ex C=>cases e;exact q W1 J Z2 P s1 (en.step ok s1)
 |ok k=>
  cases k with
  |true=>
   simp only[vY,if_true];exact⟨W1,B,o,ZZ,Z6,rfl,P,en.step ok s1,by rw[Z2];exact e,fun W2 F S L s2 z=>q W2 F S L (s1.trans s2) z⟩
  |false=>
   simp only[vY,SN,if_false];exact⟨W1,B,o,ZZ,Z6,rfl,P,en.step ok s1,by rw[Z2];exact e,fun W2 F S L s2 z=>q W2 F S L (s1.trans s2) z⟩
def xK(ea:EX)(g:GV):SX:=fun B O=>(ea B O).bind fun p=>match p.1 with
 | .ok d=>(g d B p.2).bind fun q=>some (.nx,q.1,q.2)| .ex C=>some (.ex C,B,p.2)
theorem Hb(hN:X.N.Nodup)(hi:X.N[i]?=some x)(hx:Loc X.env.scope x)(he:PE X e (tX K E ex))(hs:swapsWith e (some<|.Name x pos') pos.line X.env=pure false:=by rfl)(hf:gv X x:=by first|exact .inl rfl|exact .inr rfl|assumption):
  PS X (.Assign [.Name x pos'] e pos) (Xo K E<|xK ex<|dC i):=gk (AV hN hi hx he hs hf) fun D J H h=>by
 refine XE h fun W B o ZZ Z6 eH ok en e q=>?_;subst eH;obtain⟨⟨p1,S⟩,e1,e⟩:=Wc e;refine(⟨W,B,p1,S,rfl,ok,en,e1,fun z P L s1=>?_⟩);cases p1 with
 |ex C=>cases e;exact q z J P L s1 (en.step ok s1)
 |ok d=>cases e;exact fun v F=>q z _ P L s1 ((en.step ok s1).set F i)
def D5(c:BX)(body:SX):Nat->SX
 |0,_,_=>none|n+1,B,O=>(c B O).bind fun p=>match p.1 with
  | .ok k=>if k=true then(body B p.2).bind fun o=>match o.1 with
    | .nx=>D5 c body n o.2.1 o.2.2| .ct=>D5 c body n o.2.1 o.2.2| .bk=>some (.nx,o.2)| .rt d=>some (.rt d,o.2)| .ex C=>some (.ex C,o.2)
   else some (.nx,B,p.2)
  | .ex C=>some (.ex C,B,p.2)
def ka(c:Ck)(g:GV)(body:SX):List D->SX
 | [],B,O=>some (.nx,B,O)|d::r,B,O=>(g d B O).bind fun p=>(body p.1 p.2).bind fun o=>match o.1 with
  | .nx=>XU (eL c o.2.2) (ka c g body r o.2.1 o.2.2)| .ct=>XU (eL c o.2.2) (ka c g body r o.2.1 o.2.2)| .bk=>some (.nx,o.2)| .rt d=>some (.rt d,o.2)| .ex C=>some (.ex C,o.2)
def Av(iv:IV)(g:GV)(body:SX):SX:=fun B O=>(iv B O).bind fun s=>ka s.1.2 g body s.1.1 B s.2
theorem F1(hp:PassesOwn (model X.prog X.w) X.A X.env X.xe)(hc:X.calm=true)(hi:PI X tg iter (Xt K iv))(hg:PG X tg (XT K g))(hb:Wo X body (Xo K E sb))
  (hs:YN X iter:=by intro _;rfl):PS X (.For tg iter body [] pos) (Xo K E<|Av iv g sb):=gk (Ci hp hc hi hg hb hs) fun D J H h=>by
 refine XE h fun W B o ZZ Z6 eH ok en e q=>?_;subst eH;obtain⟨⟨⟨L,c⟩,Z5⟩,e1,e⟩:=Wc e;refine(⟨W,B,L,c,Z5,rfl,ok,en,e1,fun Z7 W1 ZL Xq s1 jr=>?_⟩);obtain⟨c1,ds,vs,r1,hj⟩:=jr;obtain⟨P,hP⟩:∃P:Nat->St->Hp->Prop,∀i ZW H2,P i ZW H2↔(i<=L.length/\∃W2 ZX,W2.H=H2/\Ok K W2/\Step W1 W2/\V5 K W2 ZX ZW/\eL c W2.O/\ka c g sb (L.drop i) ZX W2.O=some (o,ZZ,Z6)):=⟨_,fun _ _ _=>SE⟩
 refine⟨fun i m ZW H2=>m=L.length - i/\P i ZW H2,⟨L.length,by simp,(hP _ _ _).2 ⟨Ta _,W1,B,rfl,Xq,.refl,en.step ok s1,c1,by rw[ZL];exact e⟩⟩,?_⟩;rintro i m ZW H2 ⟨rfl,hi⟩;refine bq fun hG=>?_;obtain⟨hi,W2,ZX,rfl,XJ,s2,Xz,c2,z⟩:=(hP _ _ _).1 hi;obtain⟨Wm,YC⟩:=hj W2 i XJ c2 (r1.step Xq s2);by_cases hlt:i<L.length
 .have hd:L[i]?=some L[i]:=Sq hlt;obtain⟨h1,h2⟩:=YC _ hd;rw[Tf hlt] at z;refine dF z fun p e3 z=>?_;obtain⟨⟨o4,Zs,Zx⟩,e4,z⟩:=Wc z;refine(hG<|.inr ⟨h1,P (i+1),fun Z0 H' hN=>⟨L.length - (i+1),by omega,rfl,hN⟩,fun x H' hy=>?_⟩);refine bq fun hF=>?_;obtain⟨W3,rfl,ZS,YA,s3,r3⟩:=h2 x H' hy;refine hF ⟨W3,ZX,L[i],p.1,p.2,rfl,YA,Xz.step XJ s3,r3,by rw[ZS];exact e3,fun W4 ZP ZE Xh s4 Xy=>⟨W4,p.1,o4,Zs,Zx,rfl,Xh,Xy,by rw[ZE];exact e4,fun W5 Zq ZO F s5 S=>?_⟩⟩;have st:=s2.trans (s3.trans<|s4.trans s5);cases o4 with
  |nx=>refine i6 z fun π z=>?_;exact(hP _ _ _).2 ⟨hlt,W5,Zs,rfl,F,st,S,by rw[ZO];exact π,by rw[ZO];exact z⟩|ct=>refine i6 z fun π z=>?_;exact(hP _ _ _).2 ⟨hlt,W5,Zs,rfl,F,st,S,by rw[ZO];exact π,by rw[ZO];exact z⟩|bk=>cases z;exact q W5 Zq ZO F (s1.trans st) S
  |rt d=>cases z;exact q W5 Zq ZO F (s1.trans st) S
  |ex C=>cases z;exact q W5 Zq ZO F (s1.trans st) S
 .have e':i=L.length:=by omega
  subst e';rw[TH (Sm _)] at z;cases z;exact hG (.inl ⟨Wm (Sm _),q W2 ZW rfl XJ (s1.trans s2) Xz⟩)
def Bh(C:Addr)(ea:EV):SX:=fun B O=>(ea B O).bind fun p=>some (.ex C,B,p.2)
theorem Lq(he:PE (X.fl E).nox e (tD K ea))(hm:X.mg x=some (.ref C))(hC:gZ X.K C)(F:Gl X x:=by rfl)(S:X.calm=true:=by rfl)(hd:Xm x:=by decide)
  (z:WX X e:=by rfl):PS (X.fl E) (.Raise (some<|.Call (.Name x np) [e] [] Wa) none pos) (Xo K E<|Bh C ea):=gk (D0 (te:=tD K ea) (PE.nox he) F hm hC S hd z) fun D J H h=>by
 refine XE h fun W B o ZZ Z6 P ok en e q=>?_;subst P;refine dF e fun p1 e1 e=>?_;cases e;exact⟨W,B,p1.1,p1.2,rfl,ok,en,e1,fun v W1 Z2 L s1 r1=>q W1 J Z2 L s1<|en.step ok s1⟩
end
def gx(n m:Nat)(es:SX):FX:=fun ds O=>if ds.length=m then(es (ds.map some++List.replicate (n - ds.length) none) O).bind fun o=>match o.1 with
  | .rt d=>some (.ok d,o.2.2)| .nx=>some (.ok .non,o.2.2)| .ex C=>some (.ex C,o.2.2)|_=>none
 else none
theorem jy{P:Program}{w:World}{K:Frag}{mg:œ}{base:Heap}{x qual:Str}{st:Stmt}{f:Addr}{fd:FuncData}{N ps:Ŗ}{k:Nat}{es:SX}(F:WM K x qual st f fd)(S:DJ N ps (eD st))
  (hb:∀(cdv:Value) (A:Around) (outer:Š) (s:Shared) (H:Hp) (E:XK),V8 k (A.deeper<|envOfC qual (eD st) s.heap.objs.size f cdv)->Wo ((eV (XQ P w) P w K mg base N qual (eD st) f cdv A outer s H E).fl fun _=>E) (ic st) (Xo K (fun _=>E) es)):
  Qv P w K mg base (XQ P w) (k+1) f fd ps (XM K<|gx N.length ps.length es):=by
 refine F.okX S (fun vs H Q E h=>?_) (fun cdv A outer s H vs Q E hr h=>?_)
 .obtain⟨W,ds,r,Z6,_,_,L,e,_⟩:=h;unfold gx at e;split at e
  .rename_i hl;rw[←L.length];exact hl
  .cases e
 .obtain⟨W,ds,r,Z6,rfl,ok,L,e,q⟩:=h;refine⟨_,hb cdv A outer s W.H E hr,?_⟩;unfold gx at e;split at e
  .obtain⟨⟨o,ZZ,Z4⟩,e1,e⟩:=Wc e;refine⟨W,_,o,ZZ,Z4,rfl,ok,Ak L,e1,fun W' Z0 Z2 J s' en'=>?_⟩;cases o with
   |rt z=>cases e;exact q W' Z2 J s'
   |nx=>cases e;exact q W' Z2 J s' _ .non
   |ex C=>cases e;exact q W' Z2 J s'
   |bk=>cases e
   |ct=>cases e
  .cases e
end L3
namespace L2
open PySem PySem.W PySem.Spec PyProof.Rows
end L2
namespace L3
open PySem PySem.Spec L2
def PZ{X:Cx}{tg iter:Expr}{t:TI}(h:PI X.nox tg iter t):PI X tg iter t:=fun pins s J H R I hw=>
 Ss (h pins s J H R (I.wish _) hw) (fun v s1 z=>Ss z (fun P s2 ⟨it,fp,tn,Z7,S,e,F,T,L,f2,q⟩=>⟨it,fp,tn,Z7,S,e,F.unwish,T,L,f2,q⟩) fun _ _ z=>False.elim z) fun _ _ z=>False.elim z
section
variable {X:Cx} {E:St->XK} {K:Frag} {e e2:Expr} {es:Ř} {st:ţ} {pos p:Pos} {sv:SV}
theorem wD(h:Wo X.nox st (XI K sv)):Wo X st (Xo K E<|Xn sv):=pT h.nox vN
def sL:List EV->G->M->Option M
 | [],_,O=>some O|ea::r,B,O=>(ea B O).bind fun p=>match p.1 with
  | .int i=>if i.natAbs.log2<1920 then sL r B p.2 else none|_=>none
def tJ(K:Frag)(l:List EV):St->Hp->(Hp->Prop)->Prop:=fun J H Q=>∃(W:Wd) (B:G) (Z6:M),W.H=H/\Ok K W/\V5 K W B J/\sL l B W.O=some Z6/\∀W',W'.O=Z6->Ok K W'->Step W W'->Q W'.H
theorem As(h:PJ X es t)(hi:∀J H Q,t' J H Q->t J H Q):PJ X es t':=fun pins s J H Q acc n a b I L=>h pins s J H Q acc n a b I (hi _ _ _ L)
theorem Ε:PJ X [] (tJ K []):=As QO fun J H Q h=>by obtain⟨W,B,Z6,rfl,ok,en,e,q⟩:=h;cases e;exact(q W rfl ok .refl)
theorem iy(z:x.length<=2000)(F:PJ X es (tJ K l)):PJ X (.Constant (.str x) j p::es) (tJ K l):=OY z F
theorem jo(he:PE X e (tD K ea))(F:PJ X es (tJ K l)):PJ X (.FormattedValue e (-1) none p::es) (tJ K<|ea::l):=As (NV he F) fun J H Q h=>by
 obtain⟨W,B,Z6,rfl,ok,en,e,q⟩:=h;refine dF e fun p1 e1 e=>?_;refine(⟨W,B,p1.1,p1.2,rfl,ok,en,e1,fun v W1 Z2 P s1 z=>?_⟩);split at e
 .rename_i i hi;split at e
  .rename_i S;rw[hi] at z;cases z;exact⟨i,rfl,S,W1,B,Z6,rfl,P,en.step ok s1,by rw[Z2];exact e,fun W2 ZV L s2=>q W2 ZV L<|s1.trans s2⟩
  .cases e
 .cases e
def wa(K:Frag)(l:List EV):TE:=fun J H Q=>∃(W:Wd) (B:G) (Z6:M),W.H=H/\Ok K W/\V5 K W B J/\sL l B W.O=some Z6/\∀v W',W'.O=Z6->Ok K W'->Step W W'->Q v W'.H
theorem mK(h:PJ X (e::e2::es) (tJ K l))(F:(e::e2::es).length<=400:=by decide):PE X (.JoinedStr (e::e2::es) pos) (wa K l):=eK (Lc h F) fun J H Q h=>by obtain⟨W,B,Z6,rfl,ok,en,e,q⟩:=h;exact(⟨W,B,Z6,rfl,ok,en,e,fun W' S P L z=>q _ W' S P L⟩)
def ku(C:Addr)(l:List EV):SX:=fun B O=>(sL l B O).bind fun Z6=>some (.ex C,B,Z6)
theorem nZ(he:PE (X.fl E).nox e (wa K l))(hm:X.mg x=some (.ref C))(hC:gZ X.K C)(F:Gl X x:=by rfl)(S:X.calm=true:=by rfl)(hd:Xm x:=by decide)
  (z:WX X e:=by rfl):PS (X.fl E) (.Raise (some<|.Call (.Name x np) [e] [] Wa) none pos) (Xo K E<|ku C l):=gk (D0 (te:=wa K l) (PE.nox he) F hm hC S hd z) fun D J H h=>by
 refine XE h fun W B o ZZ Z6 P ok en e q=>?_;subst P;refine dF e fun Z5 e1 e=>?_;cases e;exact⟨W,B,_,rfl,ok,en,e1,fun v W1 Z2 L s1=>q W1 J Z2 L s1<|en.step ok s1⟩
end
end L3
namespace L2
open PySem PySem.W PySem.Spec PySem.Calls PyProof.Rows PySem.SeqAt
def nE:V->V->Ŧ
 | .int a,.int b=>some (a==b)| .bl a,.bl b=>some (a==b)|_,_=>none
def oR:Value->Value->Bool
 | .int a _,.int b _=>a==b| .bool a,.bool b=>a==b|_,_=>false
def Pi(h:nE y x=some b)(r:RelV y u)(z:RelV x k):oR u k=b/\∀A s,EqAt A s u k b:=by
 unfold nE at h;split at h
 .cases h;obtain⟨t,rfl⟩:=r;obtain⟨t',rfl⟩:=z;exact(⟨rfl,fun A s=>(MeetsSeq.EqGives.int _ _ _ _).at _ _⟩)
 .cases h;cases r;cases z;exact⟨rfl,fun A s=>EqAt.bool_bool _ _⟩
 .cases h
theorem Bw(F:RelV x k):∀{xs:ŗ} {us:Œ} {bs:ť},Vals xs us->L3.optAll (fun y=>nE y x) xs=some bs->us.map (fun u=>oR u k)=bs/\∀u∈us,∀A s,EqAt A s u k (oR u k)
 |_,_,_,.nil,e=>by cases e;exact⟨rfl,fun _ z=>nomatch z⟩
 |_,_,_,.cons r t,e=>by
  obtain⟨b,e1,e⟩:=UZ.mp e;obtain⟨bs,e2,e⟩:=UZ.mp e;cases e;obtain⟨H,S⟩:=Pi e1 r F;obtain⟨P,L⟩:=Bw F t e2;refine(⟨by rw[Sz,H,P],fun u J A s=>?_⟩);rcases SI.mp J with z|z
  .subst z;rw[H];exact S A s
  .exact L u z A s
section
variable {X:Cx} {a o:Expr} {ta to:TE} {pos:Pos}
def BC:V->ŗ->Hp->VK->Prop:=fun x vs H Q=>∃(l:Addr) (xs:ŗ) (k:V) (bs:ť),x=.ref l/\vs=[k]/\H l=some (.lst xs)/\L3.optAll (fun y=>nE y k) xs=some bs/\Q (.int (bs.countP id:Nat)) H
theorem Lh:Τ X "list.count" BC:=by
 intro pins s J H x vs v us Q I P S h;obtain⟨l,xs,k,bs,rfl,rfl,hH,hb,q⟩:=h;cases P;obtain⟨u,rfl,ru⟩:=S.one;obtain⟨z,L,n,r,hl,e⟩:=I.lstM hH;obtain⟨h1,h2⟩:=Bw ru r hb;refine(Vt F.slot_list_count ⟨_,e,rfl⟩ F.entry_list_count (F.args_list_count_2 _ _) (list_countAt l L.toArray n none #[] u (fun y=>oR y u)) ⟨e,fun y hy=>h2 y (by simpa using hy) _ _,?_⟩);refine⟨.int _,H,I.tok _,⟨_,rfl⟩,?_⟩;have ec:L.toArray.toList.countP (fun y=>oR y u)=bs.countP id:=by rw[←h1,VN];rfl
 rw[ec];exact q
theorem Nx(K:Frag)(ho:PE X o to)(ha:PE X a ta)(hs:WX X a:=by rfl)
  (S:attributeBase o "count" X.env (eval o X.env)=eval o X.env:=by rfl) (z:gV apos pos:=by rfl) (hK:X.K=K:=by rfl)
  (hfew:Χ X a pos:=by rfl):
  PE X (.Call (.Attribute o "count" apos) [a] [] pos) (Α K "list" BC to<|gJ ta iI):=by
 subst hK;exact rh UX PySem.F.slot_list_count PySem.F.type_list_count Lh ho (fE ha fV hs) S hfew z hs
end
end L2
namespace L3
open PySem PySem.Spec L2
section
variable {X:Cx} {K:Frag} {a:Expr} {ea:EV} {pos:Pos}
def oz:D->D->Ŧ
 | .int a,.int b=>some (a==b)| .bl a,.bl b=>some (a==b)|_,_=>none
theorem O5(h:oz d e=some b)(r:DR K W d v)(z:DR K W e u):nE v u=some b:=by
 unfold oz at h;split at h
 .cases r;cases z;exact h
 .cases r;cases z;exact h
 .cases h
theorem Dl(z:DR K W e u):∀{ds:List D} {vs:ŗ} {bs:ť},V2 K W ds vs->optAll (fun y=>oz y e) ds=some bs->optAll (fun y=>nE y u) vs=some bs
 |_,_,_,.nil,h=>h|_,_,_,.cons r t,h=>by refine dF h fun b e1 h=>?_;refine dF h fun bs H h=>?_;cases h;simp only[optAll,O5 e1 r z,Dl z t H,UJ]
def tj(x y:D)(O:M):Fr:=(j3 O x).bind fun ds=>(optAll (fun d=>oz d y) ds).bind fun bs=>some (.int (bs.countP id:Nat),O)
theorem Oj{o:Expr}{eo:EV}{apos:Pos}(ho:PE X o (tD K eo))(ha:PE X a (tD K ea))(hs:WX X a:=by rfl)
  (S:attributeBase o "count" X.env (eval o X.env)=eval o X.env:=by rfl) (F:gV apos pos:=by rfl) (hK:X.K=K:=by rfl)
  (hfew:Χ X a pos:=by rfl):
  PE X (.Call (.Attribute o "count" apos) [a] [] pos) (tD K<|il tj eo ea):=eK (Nx K ho ha hs S F hK hfew) (wW (by
 intro W x y d e z Z6 Q ok L J H q;refine dF H fun ds h1 H=>?_;refine dF H fun bs h2 H=>?_;cases H;obtain⟨a,vs,rfl,P,hs⟩:=rS ok h1 L;exact⟨a,vs,y,bs,rfl,rfl,P,Dl J hs h2,q _ W rfl ok .refl (.int _)⟩))
end
class Enc (α:Type) where
 d:α->D
 p:α->PyData
 k:Nat
 py_eq:∀(a:α) (O:M) (n:Nat),k<n->py n O (d a)=some (p a)
 lay:∀a,(p a).canLay0=true
 dep:∀a,(p a).depth<=k
 eqv:∀a b,PyData.eqv (p a) (p b)=true↔a=b
instance encInt:Enc Int where
 d i:=.int i
 p i:=.int i
 k:=0
 py_eq a O n h:=by cases n with|zero=>omega|succ n=>rfl
 lay a:=rfl
 dep a:=by simp[PyData.depth]
 eqv a b:=by simp[PyData.eqv]
instance encBool:Enc Bool where
 d i:=.bl i
 p i:=.bool i
 k:=0
 py_eq a O n h:=by cases n with|zero=>omega|succ n=>rfl
 lay a:=rfl
 dep a:=by simp[PyData.depth]
 eqv a b:=by cases a<;>cases b<;>simp[PyData.eqv]
section
variable {α β γ:Type} [Enc α] [Enc β] [Enc γ]
theorem Dv{O:M}{n:Nat}(h:Enc.k α<n):∀l:List α,optAll (py n O) (l.map Enc.d)=some (l.map Enc.p)
 | []=>rfl|a::r=>by simp only[Sz,optAll,Enc.py_eq a O n h,Dv h r,UJ]
theorem XX:∀l:List α,PyData.canLayAll0 (l.map Enc.p)=true
 | []=>rfl|a::r=>by simp only[Sz,PyData.canLayAll0,Enc.lay a,XX r,VB]
theorem XY:∀l:List α,PyData.depthAll (l.map Enc.p)<=Enc.k α
 | []=>by simp[PyData.depthAll]|a::r=>by have J:=Enc.dep a;have H:=XY r;simp only[Sz,PyData.depthAll];omega
theorem C8:∀l m:List α,PyData.eqvAll (l.map Enc.p) (m.map Enc.p)=true↔l=m
 | [],[]=>by simp[PyData.eqvAll]| [],_::_=>by simp[PyData.eqvAll]|_::_,[]=>by simp[PyData.eqvAll]|a::r,b::s=>by have J:=Enc.eqv a b;have H:=C8 r s;simp only[Sz,PyData.eqvAll,SG,J,H,List.cons.injEq]
instance encList:Enc (List α) where
 d l:=.lst (l.map Enc.d)
 p l:=.list (l.map Enc.p)
 k:=Enc.k α+1
 py_eq l O n h:=by
  cases n with
  |zero=>omega|succ n=>rw[Ld,Dv ⋯];rfl
 lay l:=by simp only[PyData.canLay0];exact XX l
 dep l:=by have:=XY l;simp only[PyData.depth];omega
 eqv l m:=by simp only[PyData.eqv];exact C8 l m
end
section
variable {O:M} {x y:D} {a:PyData}
def isInt:D->Bool
 | .int _=>true|_=>false
def oB:D->Bool
 | .str _=>true|_=>false
theorem O8(h:(isInt x&&isInt y)=false)(z:(oB x&&oB y)=false):Wu x y O=(py 65 O x).bind fun d=>(py 65 O y).bind fun e=>if(d.canLay0&&e.canLay0&&decide (d.depth<=64))=true then some (PyData.eqv d e) else none:=by cases x<;>cases y<;>first|rfl|(simp[isInt] at h;done)|(simp[oB] at z;done)
def Ē(O:M)(x:D)(α:Type) [Enc α](a:α):Prop:=py 65 O x=some (Enc.p a)
variable {α:Type} [Enc α] [DecidableEq α] {s t:α}
theorem Nt(F:Enc.k α<=64)(h1:Ē O x α s)(z:Ē O y α t)(h:(isInt x&&isInt y)=false)(h':(oB x&&oB y)=false):Wu x y O=some (decide (s=t)):=by
 rw[O8 h h',h1,z];have J:=Enc.lay s;have H:=Enc.lay t;have P:=Enc.dep s;simp only[UJ,J,H,VB,Ve];rw[if_pos (by simp;omega)];congr 1;have:=Enc.eqv s t;by_cases e:s=t
 .rw[this.mpr e,SK e]
 .rw[Sw e];cases L:PyData.eqv (Enc.p s) (Enc.p t) with
  |false=>rfl|true=>exact absurd (this.mp L) e
end
def C7{α:Type} [Enc α]{O:M}(z:Enc.k α<=64)(a:α):Ē O (Enc.d a) α a:=Enc.py_eq a O 65 ⋯
def Aw{α:Type} [Enc α] [DecidableEq α]{O:M}{l m:List α}(z:Enc.k α<=63):Wu (.lst<|l.map Enc.d) (.lst<|m.map Enc.d) O=some (decide (l=m)):=
 Nt (α:=List α) (by show Enc.k α+1<=64;omega) (C7 (α:=List α) (by show Enc.k α+1<=64;omega) l) (C7 (α:=List α) (by show Enc.k α+1<=64;omega) m) rfl rfl
section
variable {B:G} {O:M}
theorem qZ{ev:BV}{b:Bool}{Z5:M}(h:ev B O=some (b,Z5)):YQ ev B O=some (.ok b,Z5):=by unfold YQ;rw[h];rfl
theorem qq(h:ev B O=some (ds,Z5)):Xb ev B O=some (.ok ds,Z5):=by unfold Xb;rw[h];rfl
theorem lU(h:es B O=some (o,ZY,Z5)):Xn es B O=some (Ä o,ZY,Z5):=by unfold Xn;rw[h];rfl
theorem oZ{a b:SX}{ZY:G}{Z5:M}(h:a B O=some (.nx,ZY,Z5)):fS a b B O=b ZY Z5:=by unfold fS;rw[h];rfl
theorem oS{t:BX}{a b:SX}{Z5:M}(h:t B O=some (.ok false,Z5)):ib t a b B O=b B Z5:=by unfold ib;rw[h];rfl
theorem ny(h:el B O=some (.ok ds,Z5)):Xa f el B O=f ds Z5:=by unfold Xa;rw[h];rfl
theorem Bp(h:ea B O=some (.ok d,Z5)):kW ea B O=some (.nx,B,Z5):=by unfold kW;rw[h];rfl
theorem Cg(h:ea B O=some (.ok d,Z5)):jW ea B O=some (.rt d,B,Z5):=by unfold jW;rw[h];rfl
theorem sV(z:ds.length=m)(h:es (ds.map some++List.replicate (n - ds.length) none) O=some (.rt d,ZY,Z5)):gx n m es ds O=some (.ok d,Z5):=by unfold gx;rw[if_pos z,h];rfl
theorem zi(z:ds.length=m)(h:es (ds.map some++List.replicate (n - ds.length) none) O=some (.nx,ZY,Z5)):gx n m es ds O=some (.ok .non,Z5):=by unfold gx;rw[if_pos z,h];rfl
end
structure Kp (k:Nat) (O Z6:M):Prop where
 len:O.length<=Z6.length
 at_:∀j,j<O.length->j≠k->Z6[j]?=O[j]?
def Kp.refl{k:Nat}{O:M}:Kp k O O:=⟨Sm _,fun _ _ _=>rfl⟩
def Kp.trans{k:Nat}{O Z5 Z4:M}(h:Kp k O Z5)(g:Kp k Z5 Z4):Kp k O Z4:=⟨S1 h.len g.len,fun j H n=>(g.at_ j (SW H h.len) n).trans (h.at_ j H n)⟩
def AE{k:Nat}{O ex:M}:Kp k O (O++ex):=⟨by simp,fun j H _=>SM H⟩
def mj{k:Nat}{O:M}{o:Option Z9}:Kp k O (O.set k o):=⟨by simp,fun j H n=>S4<|Ne.symm n⟩
structure Gr (O Z6:M):Prop where
 len:O.length<=Z6.length
 at_:∀j,j<O.length->Z6[j]?=O[j]?
def Gr.refl{O:M}:Gr O O:=⟨Sm _,fun _ _=>rfl⟩
def Gr.trans{O Z5 Z4:M}(h:Gr O Z5)(g:Gr Z5 Z4):Gr O Z4:=⟨S1 h.len g.len,fun j H=>(g.at_ j<|SW H h.len).trans (h.at_ j H)⟩
def Gr.get{j:Nat}{O Z6:M}{o:Option Z9}(h:Gr O Z6)(e:O[j]?=some o):Z6[j]?=some o:=(h.at_ j (Sn.mp e).1).trans e
def Wn{O ex:M}:Gr O (O++ex):=⟨by simp,fun j H=>SM H⟩
def Gr.setN{j:Nat}{O Z6:M}{o:Option Z9}(h:Gr O Z6)(z:O.length<=j):Gr O (Z6.set j o):=⟨by simpa using h.len,fun i hi=>by rw[S4 ⋯];exact h.at_ i hi⟩
end L3
namespace L2
open PySem PySem.Spec PyProof.Rows
end L2
namespace L3
open PySem PySem.Spec L2
def fZ(f:Str)(d:D):List (Str×D)->List (Str×D)
 | []=>[(f,d)]|(g,e)::r=>if g=f then(g,d)::r else(g,e)::fZ f d r
section
variable {K:Frag} {W:Wd}
theorem FR.get{f:Str}:∀{fs:List (Str×D)} {vs:Ş} {d:D},FR K W fs vs->fs.lookup f=some d->∃v,vs.lookup f=some v/\DR K W d v
 |_,_,_,.nil,h=>by cases h
 |(g,e)::r,(g',P)::z,d,.cons h t,q=>by
  obtain⟨H,L⟩:=h;have H:g=g':=H;subst H;rw[S3] at q⊢;cases J:f==g with
  |true=>rw[J] at q;cases q;exact⟨P,rfl,L⟩
  |false=>rw[J] at q;exact FR.get t q
theorem FR.none{f:Str}:∀{fs:List (Str×D)} {vs:Ş},FR K W fs vs->fs.lookup f=none->vs.lookup f=none
 |_,_,.nil,h=>rfl|(g,e)::r,(g',z)::L,.cons h t,q=>by
  obtain⟨H,P⟩:=h;have H:g=g':=H;subst H;rw[S3] at q⊢;cases J:f==g with
  |true=>rw[J] at q;cases q
  |false=>rw[J] at q;exact FR.none t q
theorem FR.put{f:Str}{d:D}{v:V}(r:DR K W d v):∀{fs:List (Str×D)} {vs:Ş},FR K W fs vs->FR K W (fZ f d fs) (fY f v vs)
 |_,_,.nil=>.cons ⟨rfl,r⟩ .nil|(g,e)::l,(g',P)::L,.cons h t=>by
  obtain⟨H,J⟩:=h;have H:g=g':=H;subst H;simp only[fZ,fY];split
  .exact .cons ⟨rfl,r⟩ t
  .exact .cons ⟨rfl,J⟩ (FR.put r t)
theorem FR.len:∀{fs:List (Str×D)} {vs:Ş},FR K W fs vs->fs.length=vs.length
 |_,_,.nil=>rfl|_,_,.cons _ t=>by simp[FR.len t]
theorem xc{k:Nat}{C:Addr}{fs:List (Str×D)}{v:V}(ok:Ok K W)(h:W.O[k]?=some (some<|.ins C fs))(r:DR K W (.ref k) v):∃a dx vs,v=.ref a/\W.ρ[k]?=some a/\W.H a=some (.ins C dx vs)/\FR K W fs vs:=by
 cases r with
 |ref J=>
  obtain⟨F,z,L,P,vs,⟨dx,rfl⟩,r⟩:=ok.at_ k _ h;rw[J] at L;cases L;exact(⟨_,dx,vs,rfl,J,P,r⟩)
end
structure XH (K:Frag) (C:Addr) (f:Str):Prop where
 cl:Yf K C
 na:XB K C f
def gG(C:Addr)(f:Str)(x:D)(O:M):Fr:=match x with
 | .ref k=>match O[k]? with
  |some (some<|.ins H fs)=>if H=C then(fs.lookup f).bind fun d=>some (d,O) else none|_=>none
 |_=>none
def mE(C:Addr)(f:Str)(eo ev:EV):SV:=fun B O=>(ev B O).bind fun p=>(eo B p.2).bind fun q=>match q.1 with
 | .ref k=>match q.2[k]? with
  |some (some<|.ins H fs)=>if H=C/\fs.length<1000 then some (.nx,B,q.2.set k<|some<|.ins C<|fZ f p.1 fs) else none|_=>none
 |_=>none
section
variable {X:Cx} {K:Frag} {o e value:Expr} {es:Ř} {f m:Str} {pos pos' apos p:Pos} {eo ev:EV} {el:LV} {C:Addr}
theorem j9(F:XH K C f)(he:PE X e (tD K eo))(hb:attributeBase e f X.env (eval e X.env)=eval e X.env:=by rfl)(hK:X.K=K:=by rfl):PE X (.Attribute e f pos) (tD K<|v1 (gG C f) eo):=by
 subst hK;refine eK (OA he hb) (jJ ?_);intro W x d z Z6 Q ok L H q;unfold gG at H;split at H
 .split at H
  .rename_i k C' fs hk;split at H
   .rename_i hc;subst hc;obtain⟨d',hl,H⟩:=Wc H;cases H;obtain⟨a,dx,vs,rfl,_,hh,S⟩:=xc ok hk L;obtain⟨v,P,J⟩:=S.get hl;exact(⟨a,_,dx,vs,v,rfl,hh,F.cl,F.na,P,q v W rfl ok .refl J⟩)
   .cases H
  .cases H
 .cases H
theorem sE(hC:XH K C f)(ho:PE X o (tD K eo))(hv:PE X value (tD K ev))(hs:swapsWith value (some<|.Attribute o f pos') pos.line X.env=pure false:=by rfl)(hK:X.K=K:=by rfl):PS X (.Assign [.Attribute o f pos'] value pos) (XI K<|mE C f eo ev):=by
 subst hK;refine gk (QD ho hv hs) fun D J H h=>?_;refine XE h fun W B out ZZ Z6 eH ok en e q=>?_;subst eH;refine dF e fun p1 e1 e=>?_;refine dF e fun p2 e2 e=>?_;refine⟨W,B,p1.1,p1.2,rfl,ok,en,e1,fun y W1 ZL z s1 r1=>⟨W1,B,p2.1,p2.2,rfl,z,en.step ok s1,by rw[ZL];exact e2,fun x W2 ZV P s2 r2=>?_⟩⟩;split at e
 .rename_i k hk;rw[hk] at r2;split at e
  .rename_i F fs L;split at e
   .rename_i hc;obtain⟨hc,hl⟩:=hc;subst hc;cases e;rw[←ZV] at L;obtain⟨a,dx,vs,rfl,ha,hh,hr⟩:=xc P L r2;have S:=r1.step z s2;have okp:=qV (o:=.ins F dx (fY f y vs)) (x:=.ins F (fZ f p1.1 fs)) P L ha ⟨_,⟨dx,rfl⟩,hr.put S⟩;have sp:=ln (o:=.ins F dx (fY f y vs)) (x:=.ins F (fZ f p1.1 fs)) L ha;refine⟨a,F,dx,vs,rfl,hh,hC.cl,hC.na,by rw[←hr.len];exact hl,?_⟩;exact q (W2.put k a (.ins F dx<|fY f y vs)<|.ins F<|fZ f p1.1 fs) J (by show W2.O.set _ _=_;rw[ZV]) okp ((s1.trans s2).trans sp) (((en.step ok s1).step z s2).step P sp)
   .cases e
  .cases e
 .cases e
structure υ (P:Program) (w:World) (K:Frag) (mg:œ) (base:Heap) (CX:YI) (k:Nat) (C:Addr) (m:Str) (ps:Ŗ) (sp:Sp):Prop where
 cl:Yf K C
 fn:∃f fd,Meth K C m f/\Qv P w K mg base CX k f fd ps sp/\Binds K fd ps []
def Ζ(O:M)(C:Addr)(m:Str):D->Bool
 | .ref k=>match O[k]? with
  |some (some<|.ins H fs)=>decide (H=C)&&(fs.lookup m).isNone|_=>false
 |_=>false
def jT(C:Addr)(m:Str)(g:C0)(eo:EV)(el:LV):EV:=fun B O=>(eo B O).bind fun p=>if Ζ p.2 C m p.1=true then(el B p.2).bind fun q=>g (p.1::q.1) q.2 else none
theorem IK{W:Wd}{d:D}{v:V}(ok:Ok K W)(h:Ζ W.O C m d=true)(r:DR K W d v):∃a dx fs,v=.ref a/\W.H a=some (.ins C dx fs)/\fs.lookup m=none:=by
 cases d with
 |ref k=>
  simp only[Ζ] at h;split at h
  .rename_i F fs L;simp only[SG,SJ,Option.isNone_iff_eq_none] at h;obtain⟨rfl,z⟩:=h;obtain⟨a,dx,vs,e,_,P,J⟩:=xc ok L r;exact(⟨a,dx,vs,e,P,J.none z⟩)
  .cases h
 |_=>cases h
theorem Qh:∀J H Q,tD K (jT C m g eo el) J H Q->Dz C m (V1 K g) [] E0 (tD K eo) (X6 K el) J H Q:=fun J H Q h=>by
 refine Wf h fun W B d Z6 eH ok en e q=>?_;subst eH;refine dF e fun p1 e1 e=>?_;refine⟨W,B,p1.1,p1.2,rfl,ok,en,e1,fun x W1 ZL L s1 S=>?_⟩;split at e
 .rename_i hn;refine dF e fun P e2 e=>?_;rw[←ZL] at hn;obtain⟨a,dx,fs,ex,hh,hl⟩:=IK L hn S;refine⟨a,dx,fs,ex,hh,hl,W1,B,P.1,P.2,rfl,L,en.step ok s1,by rw[ZL];exact e2,fun vs W2 ZV F s2 r2=>?_⟩;show V1 K g (x::(vs++[])) W2.H Q E0;rw[Tq];exact⟨W2,p1.1::P.1,d,Z6,rfl,F,.cons (S.step L s2) r2,by rw[ZV];exact e,fun v W3 ZS z s3 r3=>q v W3 ZS z ((s1.trans s2).trans s3) r3⟩
 .cases e
theorem nr(M':υ X.prog X.w X.K X.mg X.base WN k C m ps (V1 K g))(hr:V8 k X.A)(ho:PE X o (tD K eo))(ha:PA X (e::es) (X6 K el))
  (z:X9 X e es:=by rfl) (hpl:Yn X pos es:=by rfl)
  (ht:eval (.Call (.Attribute o m apos) (e::es) [] pos) X.env=(do
   let S ←eval o X.env
   standAt apos.atName
   let (f,first) ←holding [S] (getMethod S m pl)
   callWith pos f first (backTo pos<|starEach (e::es) X.env) (backToKw pos<|keywordEach [] X.env)):=by rfl):PE X (.Call (.Attribute o m apos) (e::es) [] pos) (tD K<|jT C m g eo el):=by
 obtain⟨f,fd,H,F,J⟩:=M'.fn;exact(eK (HS ho M'.cl H F hr J .nil wQ ha z hpl ht) Qh)
structure Ĕ (P:Program) (w:World) (K:Frag) (mg:œ) (base:Heap) (CX:YI) (k:Nat) (C:Addr) (x:Str) (ps:Ŗ) (sp:Sp):Prop where
 mgx:mg x=some (.ref C)
 fn:∃f fd,Mk K C f/\Qv P w K mg base CX k f fd ps sp/\Binds K fd ps []
def tf(C:Addr)(g:C0)(el:LV):EV:=fun B O=>(el B O).bind fun p=>(g (.ref p.2.length::p.1)<|p.2++[some (.ins C [])]).bind fun q=>match q.1 with
 | .non=>some (.ref p.2.length,q.2)|_=>none
theorem Rz:∀J H Q,tD K (tf C g el) J H Q->Bt C (V1 K g) [] E0 (X6 K el) J H Q:=fun J H Q h=>by
 refine Wf h fun W B d Z6 eH ok en e q=>?_;subst eH;refine dF e fun p1 e1 e=>?_;obtain⟨⟨d2,Z4⟩,e2,e⟩:=Wc e;refine(⟨W,B,p1.1,p1.2,rfl,ok,en,e1,fun vs P ZL F s1 r1 x dx hx Ņ Wz=>?_⟩);rw[Tq];have L:=gC (o:=.own x) F Ņ;have sa:=fM (W:=P) (o:=.own x) Ņ;have S:(P.lay dx<|.own x).H x=none:=by show upd P.H dx _ x=none;rw[eG (Ne.symm Wz)];exact hx
 have z:=qf (x:=.ins C []) (o:=.ins C dx []) L S ⟨[],⟨dx,rfl⟩,.nil⟩;have sb:=jK (K:=K) (x:=.ins C []) (o:=.ins C dx []) L S;have rb:=pj (K:=K) (W:=P.lay dx (.own x)) (p:=x) (o:=.ins C dx []) (x:=.ins C []) L;have hl:(P.lay dx<|.own x).O.length=p1.2.length:=by show P.O.length=_;rw[ZL]
 rw[hl] at rb;cases d2 with
 |non=>
  have e:some (D.ref p1.2.length,Z4)=some (d,Z6):=e;obtain⟨hd,hm⟩:d=.ref p1.2.length/\Z6=Z4:=by cases e;exact⟨rfl,rfl⟩
  subst hd hm;refine⟨(P.lay dx<|.own x).new x (.ins C dx []) (.ins C []),.ref p1.2.length::p1.1,.non,Z6,rfl,z,.cons rb ((r1.step F sa).step L sb),?_,fun v W3 ZS YA s3 r3=>?_⟩
  .show g _ (P.O++_)=_;rw[ZL];exact e2
  .cases r3;exact⟨rfl,q _ W3 ZS YA (((s1.trans sa).trans sb).trans s3)<|rb.step z s3⟩
 |_=>cases e
theorem Q1(S:Ĕ X.prog X.w X.K X.mg X.base WN k C x ps (V1 K g))(hr:V8 (k+1) X.A)(ha:PA X (e::es) (X6 K el))(hg:Gl X x:=by rfl)(z:Xm x:=by decide)
  (he:X9 X e es:=by rfl) (hpl:Yn X pos es:=by rfl):PE X (.Call (.Name x p) (e::es) [] pos) (tD K<|tf C g el):=by
 obtain⟨f,fd,mk,F,H⟩:=S.fn;exact(eK (Qf mk F hr hg S.mgx H .nil wQ ha z he hpl) Rz)
end
def dn(f:FX):C0:=fun ds O=>(f ds O).bind fun p=>match p.1 with
 | .ok d=>some (d,p.2)| .ex _=>none
section
variable {P:Program} {w:World} {K:Frag} {mg:œ} {base:Heap} {k:Nat} {f:Addr} {fd:FuncData} {ps:Ŗ} {g:FX}
theorem yV:∀vs H Q E E',V1 K (dn g) vs H Q E->XM K g vs H Q E':=fun vs H Q E E' h=>by
 obtain⟨W,ds,d,Z6,S,F,z,e,q⟩:=h;obtain⟨⟨r,L⟩,e1,e⟩:=Wc e;cases r with
 |ok J=>
  have e:some (J,L)=some (d,Z6):=e;obtain⟨rfl,rfl⟩:J=d/\L=Z6:=by cases e;exact⟨rfl,rfl⟩
  exact⟨W,ds,.ok J,L,S,F,z,e1,fun W' a b c v P=>q v W' a b c P⟩
 |ex C=>cases e
theorem Og(F:Qv P w K mg base (XQ P w) k f fd ps (XM K g)):Qv P w K mg base WN k f fd ps (V1 K<|dn g):=by
 refine⟨fun vs H Q E h=>F.len vs H Q E (yV vs H Q E E h),fun A outer s H args J vs Q E hr he hb L S=>?_⟩;refine UE (F.run A outer s H args J vs Q (fun _ _ _=>False) hr he hb L<|yV vs H Q E _ S) fun r s' h=>?_;cases r with
 |ok fl=>cases fl<;>exact h
 |error e=>
  obtain⟨a,C,H',Z8,_,_,z⟩:=h;exact(z.elim)
theorem Df.dn(D:YM P w K mg base k x ps (XM K g)):Df P w K mg base k x ps (V1 K<|L3.dn g):=let ⟨f,fd,F,r⟩:=D;⟨f,fd,Og F,r⟩
end
end L3
namespace L2
open PySem PySem.W PySem.Spec PyProof.Rows
end L2
namespace L3
open PySem PySem.Spec L2
end L3
namespace L2
open PySem PySem.W PySem.Spec PyProof.Rows
end L2
namespace L3
open PySem PySem.Spec L2
end L3
namespace L2
open PySem PySem.W PySem.Spec PyProof.Rows
end L2
namespace L3
open PySem PySem.Spec L2
open PyProof.Rows (envOfC)
end L3
namespace L2
open PySem PyProof.Rows
section
open PySem.SeqAt
open PySem.AutoSeq1 (wpAny_loadPart')
open PySem.MeetsSeq PySem.MeetsSeq2 PySem.MeetsSeq3
end
end L2
namespace L3
open PySem PySem.Spec L2
end L3
namespace L2
open PySem PySem.Spec PyProof.Rows
def WL:Slot "longrange_iterator" "__next__" "longrange_iterator.__next__":=
 .of (owner:="longrange_iterator") (n:="__next__") (by rw[typeLookup_type,builtinLookup_eq_fast];kernel_rfl) (by decide +kernel) (by decide +kernel) (by decide +kernel)
  (by first|exact .inl (by decide +kernel)|exact .inr (by decide +kernel)) (by rw[isSubtype_type];kernel_rfl)
def Jb:entryFor table "longrange_iterator.__next__"=some Builtin.«longrange_iterator.__next__»:=entryFor_of_tree (by kernel_rfl)
def AS:Manifest.owners.lookup (String.ofList ['r','o','t','a','r','e','t','i','_','e','g','n','a','r','g','n','o','l'].reverse)=some Manifest.sig_longrange_iterator:=by kernel_rfl
def Fj(a:Value):argsOk "longrange_iterator.__next__" ⟨[a],[]⟩:=by unfold argsOk;rw[signature?_of (id:="longrange_iterator.__next__") (n:=['_','_','t','x','e','n','_','_']) (o:=['r','o','t','a','r','e','t','i','_','e','g','n','a','r','g','n','o','l']) (by kernel_rfl) AS];kernel_rfl
def Cl:Slot "longrange_iterator" "__iter__" "longrange_iterator.__iter__":=
 .of (owner:="longrange_iterator") (n:="__iter__") (by rw[typeLookup_type,builtinLookup_eq_fast];kernel_rfl) (by decide +kernel) (by decide +kernel) (by decide +kernel)
  (by first|exact .inl (by decide +kernel)|exact .inr (by decide +kernel)) (by rw[isSubtype_type];kernel_rfl)
def GL(a:Value):argsOk "longrange_iterator.__iter__" ⟨[a],[]⟩:=by unfold argsOk;rw[signature?_of (id:="longrange_iterator.__iter__") (n:=['_','_','r','e','t','i','_','_']) (o:=['r','o','t','a','r','e','t','i','_','e','g','n','a','r','g','n','o','l']) (by kernel_rfl) AS];kernel_rfl
def G6:entryFor table "longrange_iterator.__iter__"=some Builtin.«dict_keyiterator.__iter__»:=
 entryFor_alias (id':="dict_keyiterator.__iter__") (by kernel_rfl) (by first|rfl|decide +kernel|(unfold String.splitOn;simp +decide [String.splitOnAux])) (by decide +kernel) (by kernel_rfl)
def ua(h:Heap)(it:Addr):Prop:=h.get? it=some {cls:=.type "longrange_iterator",dict:=none,data:=.fields #[rawInt 0,rawInt 0,rawInt 1],slots:=#[]}
section
variable {prog:Program} {w:World} {A:Around} {E:QS} {s:Shared}
theorem QY(S:IsRange s.heap r 0 b 1 t u v)(hb:b< -(2^62))(z:Builtin.Range.small 0 b 1=false)
  (hQ:Q (.ref s.heap.objs.size) {s with heap:=s.heap.push {cls:=.type "longrange_iterator",data:=.fields #[rawInt 0,rawInt 0,rawInt 1]}}):
  wpAny (model prog w) A (pyIter<|.ref r) Q E s:=by
 have H:s.TypeIs (.ref r) "range":=⟨_,S,rfl⟩
 refine wpAny_pyIter_slot H F.slot_range_iter (Vt F.slot_range_iter H F.entry_range_iter (F.args_range_iter_1 _)
  (AutoRange.range___iter___range_0 r 0 b 1 t u v (by unfold Builtin.Range.small at z;rw[z];rfl)) ⟨S,?_⟩)
 unfold Builtin.Range.small at z;have J:Builtin.Range.rangeSize 0 b 1=0:=by rw[Vz];split<;>omega
 simp only[z,SN,if_false];rw[J];exact⟨"longrange_iterator",_,⟨_,SA _ rfl,rfl⟩,WL.lookup,hQ⟩
theorem FA(hit:ua s.heap it)(h:Q (.ref it) s):wpAny (model prog w) A (pyIter<|.ref it) Q E s:=by
 have H:s.TypeIs (.ref it) "longrange_iterator":=⟨_,hit,rfl⟩
 refine wpAny_pyIter_slot H Cl (Up Cl H G6 ?_<|GL _);show wpAny _ _ (ret<|.ref it) _ _ s;exact Sk ⟨_,rfl,"longrange_iterator",_,H,WL.lookup,h⟩
theorem HP(z:A.handled=none)(hit:ua s.heap it)
  (F:∀h',Heap.ExtBut it s.heap h'->Q none {s with heap:=h'}):wpAny (model prog w) A (pyNext<|.ref it) Q E s:=by
 have H:s.TypeIs (.ref it) "longrange_iterator":=⟨_,hit,rfl⟩
 unfold pyNext;refine Sj (wpAny_attempt (UW (name:=Str.ofString "__next__") H WL
  (Up WL H Jb ?_<|Fj _)))
 unfold Builtin.«longrange_iterator.__next__»;wp_walk;simp only[raiseNew];refine Sj (wpAny_handled ?_);first|rw[show A.in1.handled=none from z]|rw[z]
 refine Sj (Sk<|wpAny_throw ?_);refine Sj (Vc (T:="StopIteration") (b:=true) ⟨_,SA _ rfl,rfl⟩ isSubtype_stop ?_);exact Sk (F _<|((Heap.ExtBut.refl it s.heap).push _).push _)
end
theorem Kc{P:Program}{w:World}{K:Frag}{tg:Expr}(it:Addr):Turn P w K tg (nY 0 0) [it] it (fun _ h=>ua h it) where
 mem:=by simp
 obj:=fun i h st b hb=>by
  have e:b=it:=by simpa using hb
  subst e;exact⟨_,st,fun v z=>by have z':Data.fields _=Data.cell v:=z;cases z'⟩
 keep:=fun i h h' st k=>k it nofun _ st
 item:=by intro X hP hw hK hc i pins s J H E I hf st hg;exact absurd (show i<0 from hg) (Nat.not_lt_zero _)
 done:=by intro X hP hw hK hc i pins s J H E I hf st hg;subst hP hw hK;obtain⟨f0,f1,f2,f3,f4,f5⟩:=hf it nofun;exact(HP (I.ok.hd hc) st fun h' eb=>⟨rfl,I.turned (t':=s.toks) (fun b o hb e=>eb b o hb e) f0 f1 f3 f4 f5⟩)
 self:=fun _ _ _ _ _ st h=>FA st h
section
variable {X:Cx} {tg:Expr}
theorem JE{pins:SB}{J:St}{H:Hp}{s:Shared}{R:It->Hp->Prop}{E:QS}{hi:Int}{t u v:Tok}{tk:Nat}(I:Inv X pins J H s)(F:hi< -(2^62))(z:Builtin.Range.small 0 hi 1=false)
  (q:R (nY 0 0) H):wpAny (model X.prog X.w) X.A (pyIter<|.ref s.heap.objs.size) (Ϲ X pins J tg R) E {s with heap:=s.heap.push {cls:=.type "range",data:=.fields #[.int 0 t,.int hi u,.int 1 v]},toks:=tk}:=by
 refine QY (IsRange.new ..) F z ?_;have L:Inv X pins J H {s with heap:=s.heap.push {cls:=.type "range",data:=.fields #[.int 0 t,.int hi u,.int 1 v]},toks:=tk}:=I.kept fun b o e=>Sl _ e;refine⟨(s.heap.push {cls:=.type "range",data:=.fields #[.int 0 t,.int hi u,.int 1 v]}).objs.size,[(s.heap.push {cls:=.type "range",data:=.fields #[.int 0 t,.int hi u,.int 1 v]}).objs.size],_,_,H,rfl,
  L.kept (t':=tk) fun b o e=>Sl _ e,Kc _,?_,fun b P=>?_,q⟩
 .exact SA _ rfl
 .have e:b=(s.heap.push {cls:=.type "range",data:=.fields #[.int 0 t,.int hi u,.int 1 v]}).objs.size:=by simpa using P
  subst e;exact L.fpOk (Sm _) (L.hok.fresh<|Sm _)
theorem Iq{pins:SB}{J:St}{H:Hp}{s:Shared}{R:It->Hp->Prop}{E:QS}{hi:Int}{t u v:Tok}{tk:Nat}(I:Inv X pins J H s)(S:hi< -(2^62))(z:Builtin.Range.small 0 hi 1=true)
  (q:R (nY 0 0) H):wpAny (model X.prog X.w) X.A (pyIter<|.ref s.heap.objs.size) (Ϲ X pins J tg R) E {s with heap:=s.heap.push {cls:=.type "range",data:=.fields #[.int 0 t,.int hi u,.int 1 v]},toks:=tk}:=by
 refine wpAny_pyIter_range (IsRange.new ..) z ?_;have L:Inv X pins J H {s with heap:=s.heap.push {cls:=.type "range",data:=.fields #[.int 0 t,.int hi u,.int 1 v]},toks:=tk}:=I.kept fun b o e=>Sl _ e;refine⟨(s.heap.push {cls:=.type "range",data:=.fields #[.int 0 t,.int hi u,.int 1 v]}).objs.size,[(s.heap.push {cls:=.type "range",data:=.fields #[.int 0 t,.int hi u,.int 1 v]}).objs.size],_,_,H,rfl,
  L.kept (t':=tk) fun b o e=>Sl _ e,CJ _ 0 0,?_,fun b P=>?_,q⟩
 .have e1:(0:Int)+((0:Nat):Int)*1=0:=by simp
  have F:(((0:Nat):Nat):Int) - ((0:Nat):Int)=Builtin.Range.rangeSize 0 hi 1:=by rw[Vz];split<;>omega
  show IsRangeIter _ _ (0+((0:Nat):Int)*1) (((0:Nat):Int) - ((0:Nat):Int)) 1;rw[e1,F];exact SA _ rfl
 .have e:b=(s.heap.push {cls:=.type "range",data:=.fields #[.int 0 t,.int hi u,.int 1 v]}).objs.size:=by simpa using P
  subst e;exact L.fpOk (Sm _) (L.hok.fresh<|Sm _)
def Mr(ta:TA):TI:=fun J H R=>ta J H fun vs H1=>∃j:Int,vs=[.int j]/\j<2^62/\R (nY 0 j.toNat) H1
theorem Pk{a:Expr}{ta:TA}{p pos:Pos}(hg:Gl X "range") (hm:X.mg "range"=none) (ha:PA X [a] ta) (S:WX X a:=by rfl):PI X tg (.Call (.Name "range" p) [a] [] pos) (Mr ta):=by
 intro pins s J H R I h;refine Call_ (jv I hg hm boot_range<|Tx (V0 (ha pos pins s J H _ I h) fun us s1 hm=>?_) S rfl);obtain⟨vs,H1,P,F,q1⟩:=hm;obtain⟨j,e,q2,q⟩:=q1;subst e;cases F with
 |cons r z=>
  cases z;obtain⟨t,rfl⟩:=r;by_cases hj:-(2^62)<=j
  .exact Vo (v9 P ⋯ ⋯ hj q2<|by simpa using q)
  .have e0:j.toNat=0:=by omega
   rw[e0] at q;cases L:Builtin.Range.small 0 j 1 with
   |false=>exact Vo (JE P ⋯ L q)|true=>exact Vo (Iq P ⋯ L q)
end
end L2
namespace L3
open PySem PySem.Spec L2
section
variable {X:Cx} {K:Frag} {ea:EV} {pos:Pos}
def p9(ea:EV):IV:=fun B O=>(ea B O).bind fun p=>match p.1 with
 | .int j=>if j<=1000000000 then some ((eT 0 j.toNat,none),p.2) else none|_=>none
theorem PR(F:X.mg "range"=none) {tg a:Expr} {p:Pos} (ha:PE X a (tD K ea)) (hg:Gl X "range":=by rfl) (z:WX X a:=by rfl):PI X tg (.Call (.Name "range" p) [a] [] pos) (Xt K<|p9 ea):=lL (Pk hg F (fE ha fV z) z) fun J H R h=>by
 refine XE h fun W B S c Z6 eH ok en e q=>?_;subst eH;refine dF e fun p1 e1 e=>?_;split at e
 .rename_i j hj;split at e
  .rename_i hb;cases e;refine⟨W,B,p1.1,p1.2,rfl,ok,en,e1,fun v W1 Z2 L s1 P=>?_⟩;rw[hj] at P;cases P;exact⟨j,rfl,by omega,q _ W1 Z2 L s1 uF⟩
  .cases e
 .cases e
theorem LD(h:ea B O=some (.int j,Z5))(z:j<=1000000000):p9 ea B O=some ((eT 0 j.toNat,none),Z5):=by unfold p9;rw[h];show(if j<=1000000000 then _ else _)=_;rw[if_pos z]
end
def Wd.ice(W:Wd)(k:Nat)(d:Addr)(u:HO):Wd:=⟨W.ρ,W.O.set k none,upd W.H d u,W.hid⟩
section
variable {K:Frag} {W:Wd} {k:Nat} {d:Addr} {x:Z9} {u:HO}
theorem Mw(h:RL (W.ice k d u) a):∃j o,j≠k/\W.O[j]?=some (some o)/\W.ρ[j]?=some a:=by
 obtain⟨j,o,H,J⟩:=h;have H:(W.O.set k none)[j]?=some (some o):=H;by_cases e:j=k
 .subst e;rw[List.getElem?_set] at H;simp at H
 .rw[S4 (Ne.symm e)] at H;exact⟨j,o,e,H,J⟩
theorem rG(hk:W.O[k]?=some (some x))(ha:W.ρ[k]?=some d):Step W (W.ice k d u) where
 ρ _ _ h:=h
 live a h:=let ⟨j,o,_,h1,h2⟩:=Mw h;.inl ⟨j,o,h1,h2⟩
 keep a o e n:=by show upd W.H d u a=_;have Wz:a≠d:=fun z=>n ⟨k,x,hk,by rw[z];exact ha⟩;rw[eG Wz];exact e
 hid:=rfl
 still a h:=by
  show upd W.H d u a≠none;by_cases z:a=d
  .subst z;rw[fL];simp
  .rw[eG z];exact h
theorem K7(ok:Ok K W)(hk:W.O[k]?=some (some x))(ha:W.ρ[k]?=some d):Ok K (W.ice k d u) where
 len:=by show W.ρ.length=(W.O.set k none).length;rw[Uk];exact ok.len
 nd:=ok.nd
 rs a m:=(rG (u:=u) hk ha).still a (ok.rs a m)
 at_ j o e:=by
  have e:(W.O.set k none)[j]?=some (some o):=e;have hj:j≠k:=fun z=>by subst z;rw[List.getElem?_set] at e;simp at e
  rw[S4 (Ne.symm hj)] at e;obtain⟨a,ho,h1,h2,h3⟩:=ok.at_ j o e;have Wz:a≠d:=fun z=>by
   subst z;obtain⟨l1,g1⟩:=Sn.mp h1;obtain⟨l2,g2⟩:=Sn.mp ha;have hn:=T5.mp ok.nd;rcases UA j k with z|z|z
   .exact hn j k l1 l2 z (g1.trans g2.symm)
   .exact hj z
   .exact hn k j l2 l1 z (g2.trans g1.symm)
  refine⟨a,ho,h1,by show upd W.H d u a=_;rw[eG Wz];exact h2,?_⟩;have st:=rG (W:=W) (u:=u) hk ha;cases o with
  |lst ds=>obtain⟨vs,e,q⟩:=h3;exact⟨vs,e,q.step ok st⟩
  |dK kvs=>obtain⟨vs,e,q⟩:=h3;exact⟨vs,e,Paired.mapP q fun _ _ ⟨e,q⟩=>⟨e,q.step ok st⟩⟩
  |dN kvs=>obtain⟨vs,e,q⟩:=h3;exact⟨vs,e,Paired.mapP q fun _ _ ⟨e,q⟩=>⟨e,q.step ok st⟩⟩
  |ins C fs=>obtain⟨vs,e,q⟩:=h3;exact⟨vs,e,Paired.mapP q fun _ _ ⟨e,q⟩=>⟨e,q.step ok st⟩⟩
  |exc C=>exact h3
 hd0 a z:=⟨(rG (u:=u) hk ha).still a (ok.hd0 a z).1,(ok.hd0 a z).2⟩
end
def p8:Key->D
 | .inl i=>.int i| .inr x=>.str x
def MN{K:Frag}{W:Wd}(k:Key):DR K W (p8 k) (kV k):=by
 cases k with
 |inl i=>exact .int i|inr x=>exact .str x
def KR.get{K:Frag}{W:Wd}{kvs:List (Key×D)}{vs:List (Key×V)}(r:KR K W kvs vs):∀{i:Nat} {k:Key} {d:D} {z:Key} {v:V},kvs[i]?=some (k,d)->vs[i]?=some (z,v)->k=z/\DR K W d v:=by
 induction r with
 |nil=>intro i k d z v h;simp at h| @cons a b l r hd tl J=>
  intro i k d z v h H;cases i with
  |zero=>
   simp at h H;subst h H;exact hd
  |succ i=>exact J (by simpa using h) (by simpa using H)
def rT(own:Ŗ)(cap:ő)(eo:EV)(g:GV)(tc:BV)(tk tv:EV):EV:=fun B O=>(eo B O).bind fun s=>(gc s.2 s.1).bind fun kvs=>match s.1 with
 | .ref n=>XU (kvs.length<=1000000) ((jt s.2.length none g tc tk tv (kvs.map fun H=>.tup [p8 H.1,H.2]) (ff own cap B)<|s.2.set n none++[some (.dK [])]).bind fun Z6=>some (.ref s.2.length,Z6))|_=>none
section
variable {X:Cx} {K:Frag} {N' own:Ŗ} {cap:ő} {scope:Scope} {kx vx o:Expr} {ifs elts:Ř} {pos apos Wa XS:Pos} {eo:EV} {g:GV} {tc:BV} {tk tv:EV} {n:Nat}
theorem Pq(Xq:Ok K W1)(hp:W1.H p=none)(jr:eL c W1.O/\∀(z:Wd) (i:Nat),Ok K z->eL c z.O->Step W1 z->(its.length<=i->Z7.stop i z.H)/\∀d,its[i]?=some d->Z7.go i z.H/\∀x H',Z7.yld i z.H x H'->∃W3,W3.H=H'/\W3.O=z.O/\Ok K W3/\Step z W3/\DR K W3 d x)(en:V5 K W1 ZD ZN)
  (c0:eL c (W1.O++[some (.dK [])])) (e:jt W1.O.length c g tc tk tv its ZD (W1.O++[some (.dK [])])=some Z6) (hZ:∀W',W'.O=Z6->Ok K W'->Step W1 W'->DR K W' (.ref W1.O.length) (.ref p)->Z W'.H):
  tN Z7 (XT K g) (WO K tc) (tD K tk) (tD K tv) p ZN W1.H Z:=by
 obtain⟨c1,hj⟩:=jr;have ok0:=qf (x:=.dK []) (o:=.dK []) Xq hp ⟨[],rfl,.nil⟩;have s0:=jK (K:=K) (x:=.dK []) (o:=.dK []) Xq hp;have r0:=pj (K:=K) (W:=W1) (p:=p) (o:=.dK []) (x:=.dK []) Xq;obtain⟨P,hP⟩:∃P:Nat->St->Hp->Prop,∀i ZW H2,P i ZW H2↔(i<=its.length/\∃z ZX,z.H=H2/\Ok K z/\Step (W1.new p (.dK [])<|.dK []) z/\V5 K z ZX ZW/\eL c z.O/\jt W1.O.length c g tc tk tv (its.drop i) ZX z.O=some Z6):=⟨_,fun _ _ _=>SE⟩
 refine⟨fun i m ZW H2=>m=its.length - i/\P i ZW H2,?_,?_⟩
 .exact⟨its.length,by simp,(hP _ _ _).2 ⟨Ta _,W1.new p (.dK []) (.dK []),ZD,rfl,ok0,.refl,en.step Xq s0,c0,e⟩⟩
 rintro i m ZW H2 ⟨rfl,hi⟩;refine bq fun hG=>?_;obtain⟨hi,z,ZX,rfl,XJ,s2,Xz,c2,J⟩:=(hP _ _ _).1 hi;obtain⟨Wm,YC⟩:=hj z i XJ c2 (s0.trans s2);by_cases hlt:i<its.length
 .have hd:its[i]?=some its[i]:=Sq hlt;obtain⟨h1,h2⟩:=YC _ hd;rw[Tf hlt] at J;refine dF J fun pg e3 J=>?_;refine dF J fun pt e4 J=>?_;refine(hG<|.inr ⟨h1,P (i+1),fun Z0 H' hN=>⟨its.length - (i+1),by omega,rfl,hN⟩,fun x H' hy=>?_⟩);refine bq fun hF=>?_;obtain⟨W3,rfl,ZS,YA,s3,r3⟩:=h2 x H' hy;refine hF ⟨W3,ZX,its[i],pg.1,pg.2,rfl,YA,Xz.step XJ s3,r3,by rw[ZS];exact e3,fun W4 ZP ZE L s4 F=>⟨W4,pg.1,pt.1,pt.2,rfl,L,F,by rw[ZE];exact e4,fun W5 ZO S s5=>?_⟩⟩;have s25:=s3.trans (s4.trans s5);split at J
  .rename_i ht;refine dF J fun py e5 J=>?_;refine dF J fun pv e6 J=>?_;refine dF J fun k e7 J=>?_;refine dF J fun kvs e8 J=>?_;obtain⟨⟨hl,c5⟩,J⟩:=vd J;refine(lg (fun _=>?_)<|fun n=>absurd ht n);refine⟨W5,pg.1,py.1,py.2,rfl,S,F.step L s5,by rw[ZO];exact e5,fun y W6 Zw YU s6 r6=>⟨W6,pg.1,pv.1,pv.2,rfl,YU,(F.step L s5).step S s6,by rw[Zw];exact e6,fun v W7 Zp ϐ s7 r7=>?_⟩⟩;have s27:=(s25.trans s6).trans s7;rw[←Zp] at e8;have rp:DR K W7 (.ref W1.O.length) (.ref p):=(r0.step ok0 s2).step XJ s27;obtain⟨n,a,us,hd,hv,hk,ha,hh,hs⟩:=mC ϐ e8 rp;cases hd;cases hv;obtain⟨o8,s8⟩:=zG (vs':=fP us k v) (kvs':=g6 kvs k pv.1) ϐ hk ha (hs.put k r7);exact⟨us,k,hh,pO (by rw[←hs.len];omega),yJ e7 (r6.step YU s7),(hP _ _ _).2 ⟨hlt,W7.put W1.O.length p (.dK<|fP us k v) (.dK<|g6 kvs k pv.1),pg.1,rfl,o8,(s2.trans s27).trans s8,(((F.step L s5).step S s6).step YU s7).step ϐ s8,by show eL c (W7.O.set _ _);rw[Zp];exact c5,by show jt _ c g tc tk tv _ _ (W7.O.set _ _)=_;rw[Zp];exact J⟩⟩
  .rename_i ht;refine i6 J fun c5 J=>?_;refine lg (fun n=>absurd n ht) (fun _=>?_);exact(hP _ _ _).2 ⟨hlt,W5,pg.1,rfl,S,s2.trans s25,F.step L s5,by rw[ZO];exact c5,by rw[ZO];exact J⟩
 .have e':i=its.length:=by omega
  subst e';rw[TH (Sm _)] at J;cases J;exact hG (.inl ⟨Wm (Sm _),hZ z rfl XJ (s0.trans s2) (r0.step ok0 s2)⟩)
theorem N6(S:VZ X N' own cap scope)(ho:PE X o (tD K eo))
  (hg:∀cl C Z3 Z1 ex,PG (eg X N' scope cl C Z3 Z1 ex) (.Tuple elts n XS)<|XT K g) (ht:∀cl C Z3 Z1 ex,XA (eg X N' scope cl C Z3 Z1 ex) ifs<|WO K tc) (hk:∀cl C Z3 Z1 ex,PE (eg X N' scope cl C Z3 Z1 ex) kx<|tD K tk) (hv:∀cl C Z3 Z1 ex,PE (eg X N' scope cl C Z3 Z1 ex) vx<|tD K tv)
  (hx:hI X:=by exact fun _ _ z=>z) (hc:X.calm=true:=by rfl) (hs:∀x,foldedSetIterable (.Call (.Attribute o "items" apos) [] [] Wa) X.env x=pure x:=by intro _;rfl)
  (X3:attributeBase o "items" X.env (eval o X.env)=eval o X.env:=by rfl) (Zo:(apos.endLine==Wa.line)=true:=by rfl) (hK:X.K=K:=by rfl):
  PE X (.DictComp kx vx [⟨.Tuple elts n XS,.Call (.Attribute o "items" apos) [] [] Wa,ifs,0⟩] scope pos) (tD K<|rT own cap eo g tc tk tv):=eK (JM S (Pz<|Oi K ho X3 Zo hK) hg ht hk hv hx hc hs) fun J H Q h=>by
 refine Wf h fun W B d Z6 eH ok en e q=>?_;subst eH;refine dF e fun p1 e1 e=>?_;refine dF e fun kvs e2 e=>?_;refine⟨W,B,p1.1,p1.2,rfl,ok,en,e1,fun x W1 ZL F s1 r1=>?_⟩;rw[←ZL] at e2;obtain⟨k,a,vs,hd,rfl,Μ,ς,hh,Ļ⟩:=mC F e2 r1;rw[hd] at e;refine i6 e fun hl e=>?_;refine dF e fun Z4 e3 e=>?_;cases e;refine(⟨uN F e2 r1,a,vs,rfl,rfl,hh,fun v hv=>?_⟩);have hav:a≠v:=fun z=>by rw[z,hv] at hh;cases hh
 refine⟨v,a,vs,rfl,fL,by rw[eG hav];exact hh,fun ob p hp=>?_⟩;have okL:=gC (o:=Yh v a) F hv;have stL:=fM (W:=W1) (o:=Yh v a) hv;have ł:(W1.lay v<|Yh v a).O[k]?=some (some<|.dK kvs):=Μ;have ŋ:(W1.lay v<|Yh v a).ρ[k]?=some a:=ς;have P:=K7 (u:=.frz ob (.dK vs)) okL ł ŋ;have stI:=rG (W:=W1.lay v (Yh v a)) (u:=.frz ob (.dK vs)) ł ŋ;have Ϭ:KR K ((W1.lay v<|Yh v a).ice k a (.frz ob<|.dK vs)) kvs vs:=Paired.mapP Ļ fun _ _ ⟨e,q⟩=>⟨e,(q.step F stL).step okL stI⟩
 have Ă:((W1.lay v<|Yh v a).ice k a (.frz ob<|.dK vs)).H a=some (.frz ob<|.dK vs):=fL;generalize Ō:(W1.lay v<|Yh v a).ice k a (.frz ob<|.dK vs)=WI at P stI Ϭ Ă;have Zf:WI.O=p1.2.set k none:=by rw[←Ō];show W1.O.set k none=_;rw[ZL]
 have hHI:WI.H=upd (upd W1.H v<|Yh v a) a (.frz ob<|.dK vs):=by rw[←Ō];rfl
 have hlen:p1.2.length=WI.O.length:=by rw[Zf,Uk]
 have stA:=(s1.trans stL).trans stI;rw[←hHI] at hp⊢;refine Pq (c:=none) (its:=kvs.map fun kv=>.tup [p8 kv.1,kv.2]) (ZD:=ff own cap B) P hp ⟨trivial,fun W2 i XJ _ s2=>?_⟩ ((en.step ok stA).cap own cap) trivial (Z6:=Z6) (by rw[←hlen,Zf];exact e3) fun W' h1 h2 h3 h4=>?_
 .have ń:W2.H a=some (.frz ob<|.dK vs):=s2.keep _ _ Ă (P.nofrz Ă);have _Q:KR K W2 kvs vs:=Paired.mapP Ϭ fun _ _ ⟨e,q⟩=>⟨e,q.step P s2⟩
  refine⟨fun hi=>⟨ń,by rw[Sv,Ϭ.len] at hi;exact hi⟩,fun dd L=>?_⟩;rw[S0] at L;cases ϰ:kvs[i]? with
  |none=>rw[ϰ] at L;cases L
  |some kv=>
   rw[ϰ] at L;simp at L;subst L;have hi:i<vs.length:=by rw[←Ϭ.len];exact(Sn.mp ϰ).1
   refine⟨⟨ń,hi⟩,fun x H' hy=>?_⟩;obtain⟨pp,kk,vv,rfl,î,rfl,_f⟩:=hy;obtain⟨ek,rv⟩:=_Q.get (k:=kv.1) (d:=kv.2) ϰ _f;refine(⟨W2.lay pp (.tup [kV kk,vv]),rfl,rfl,gC XJ î,fM î,?_⟩);rw[ek];exact kl XJ î (.cons (MN kk)<|.cons rv .nil)
 .refine q _ W' h1 h2 (stA.trans h3) ?_;rw[hlen];exact h4
end
end L3
namespace L2
open PySem PySem.Spec PyProof.Rows
section
open PySem.SeqAt
open PySem.AutoSeq1 (wpAny_loadPart')
open PySem.MeetsSeq PySem.MeetsSeq2 PySem.MeetsSeq3 PySem.SeqRoads2
theorem FY(l:Addr)(items:Array Value)(n:Nat)(dd:š)(sl:Array Ŝ)(x:Value)(e:Nat->Bool)(k:Nat):
  ∀i:Nat,items.size - i=k->Meets (Builtin.«list.__contains__.loop» ⟨[.ref l,x,rawInt i],[]⟩)
   (fun A R s=>s.heap.get? l=some {cls:=.type "list",dict:=dd,data:=.seq items n,slots:=sl}/\(∀j (h:j<items.size),EqAt A.in1 s items[j] x<|e j)/\R (.ok<|.ret<|.bool<|((List.range items.size).drop i).any e) s):=by
 induction k with
 |zero=>
  intro i S prog w A R s h;obtain⟨F,g,d,tk,os⟩:=s;obtain⟨J,L,h⟩:=h;wp_walk using TM J;have hi:items[((i:Nat):Int).toNat]?=none:=by simp;omega
  have hd:(List.range items.size).drop i=[]:=by simp;omega
  rw[hd] at h;rw[hi];wp_walk;exact h
 |succ k z=>
  intro i S prog w A R s h;obtain⟨F,g,d,tk,os⟩:=s;obtain⟨J,L,h⟩:=h;wp_walk using TM J;have H:i<items.size:=by omega
  have hi:items[((i:Nat):Int).toNat]?=some items[i]:=by simp[H]
  have hd:(List.range items.size).drop i=i::(List.range items.size).drop (i+1):=by simp[Tf,H]
  rw[hd,T6] at h;rw[hi];refine Sj (L i H prog w _ _ ?_);cases P:e i with
  |true=>
   rw[P] at h;wp_walk;exact h
  |false=>
   rw[P] at h;have hc:((i:Int)+1)=((i+1:Nat):Int):=by push_cast;rfl
   wp_walk;rw[hc];exact⟨T7 plain_contains_loop _,T4 entry_contains_loop (by rw[TF plain_contains_loop _];exact z (i+1) ⋯ prog w A R _ ⟨J,L,by simpa using h⟩)⟩
theorem Ou(l:Addr)(items:Array Value)(n:Nat)(dd:š)(sl:Array Ŝ)(x:Value)(e:Nat->Bool):
  Meets (Builtin.«list.__contains__» ⟨[.ref l,x],[]⟩)
   (fun A R s=>s.heap.get? l=some {cls:=.type "list",dict:=dd,data:=.seq items n,slots:=sl}/\(∀j (h:j<items.size),EqAt A.in1 s items[j] x<|e j)/\R (.ok<|.ret<|.bool<|(List.range items.size).any e) s):=by
 intro prog w A R s h;obtain⟨L,g,d,tk,os⟩:=s;obtain⟨H,J,h⟩:=h;wp_walk using TM H;exact⟨T7 plain_contains_loop _,T4 entry_contains_loop (by rw[TF plain_contains_loop _];exact FY l items n dd sl x e _ 0 rfl prog w A R _ ⟨H,J,by simpa using h⟩)⟩
theorem Iy{prog:Program}{w:World}{A:Around}{E:QS}{s:Shared}{l:Addr}{items:Array Value}{x:Value}{Q:QS}(e:Nat->Bool)(z:s.heap.IsList l items)(he:∀j (h:j<items.size),EqAt A.in1 s items[j] x<|e j)
  (h:Q (.bool<|(List.range items.size).any e) s):wpAny (model prog w) A (compareOp .In x<|.ref l) Q E s:=by
 obtain⟨⟨cls,dd,data,sl⟩,H,J,n,hd⟩:=id z;simp only at J hd;subst J hd;exact in_meets ⟨_,H,rfl⟩ F.slot_list_contains F.entry_list_contains (F.args_list_contains_2 _ _) (Ou l items n dd sl x e) ⟨H,he,_,rfl,h⟩
end
theorem u7:∀{ds:List PyData} {i:Nat} {d:PyData},PyData.canLayAll0 ds=true->ds[i]?=some d->d.canLay0=true
 | [],i,d,_,h=>by simp at h|a::r,0,d,H,h=>by simp[PyData.canLayAll0] at H;simp at h;subst h;exact H.1|a::r,i+1,d,H,h=>by simp[PyData.canLayAll0] at H;simp at h;exact u7 H.2 h
def Nc{X:Cx}(hu:X.A.units+64<cLine):Wh X (compareOp .In) (fun x y H Q=>∃p xs ds d,y=.ref p/\WE X.K H p xs/\Xs X.K H xs ds/\Dp X.K H x d/\(PyData.canLayAll0 ds&&d.canLay0&&decide (d.depth<=60))=true/\Q (.bl<|ds.any fun e=>PyData.eqv e d) H):=by
 intro pins s J H x y v u Q I rx ry h;obtain⟨p,xs,ds,d,rfl,hq,hs,hd,S,q⟩:=h;simp only[SG,SJ] at S;cases ry;obtain⟨its,rv,pl,hz⟩:=I.list hq;obtain⟨as,r1⟩:=hd.reads I rx;have hl:=rv.length;have hl2:=hs.len;refine(Iy (fun j=>PyData.eqv (ds.getD j .none) d) pl.isList (fun j L=>?_) ?_)
 .have P:j<its.length:=by simpa using L
  have hx:xs[j]?=some (xs[j]'⋯):=Sq ⋯;obtain⟨e,he,F⟩:=hs.get hx;obtain⟨w,hw,z⟩:=rv.get hx;obtain⟨bs,r2⟩:=F.reads I z;have e1:its.toArray[j]=w:=by have:its[j]?=some (its[j]'P):=Sq P;rw[this] at hw;cases hw;simp
  have e2:ds.getD j .none=e:=by simp[So,he]
  rw[e1,e2];refine SeqAt.eqAt_reads e d _ s _ _ _ _ r2 r1 (u7 S.1.1 he) S.1.2 ?_;have:X.A.in1.units<=X.A.units+1:=by simp[Around.in1]
  have:=VC e.depth d.depth;omega
 .have e:(List.range its.toArray.size).any (fun j=>PyData.eqv (ds.getD j .none) d)=ds.any fun e=>PyData.eqv e d:=by
   have hsz:its.toArray.size=ds.length:=by simp;omega
   rw[hsz,Tj];simp only[S7,S6];constructor
   .rintro⟨j,L,e⟩;exact⟨ds[j],TC _,by simpa[So,Sq L] using e⟩
   .rintro⟨e,hm,he⟩;obtain⟨j,L⟩:=TL hm;exact(⟨j,(Sn.mp L).1,by simpa[So,L] using he⟩)
  rw[e];exact⟨.bl _,H,I,rfl,q⟩
section
variable {X:Cx} {N' own:Ŗ} {cap:ő} {scope:Scope} {tg iter elt:Expr} {ifs:Ř} {pos:Pos} {wi:TI} {g:TG} {tc:TT} {te:TE}
theorem Sa(S:VZ X N' own cap scope)(hi:PI X tg iter wi)
  (hg:∀cl C Z3 Z1 ex,PG (eg X.nox N' scope cl C Z3 Z1 ex) tg g) (ht:∀cl C Z3 Z1 ex,XA (eg X.nox N' scope cl C Z3 Z1 ex) ifs tc) (he:∀cl C Z3 Z1 ex,PE (eg X.nox N' scope cl C Z3 Z1 ex) elt te)
  (hc:X.calm=true:=by rfl) (hs:YN X iter:=by intro _;rfl):
  PE X (.ListComp elt [⟨tg,iter,ifs,0⟩] scope pos) (Bu own cap wi g tc te):=by
 intro pins s J H Q I h;rw[VW];obtain⟨cl,Xr,c1,c2⟩:=nD (scope:=scope) (env:=X.env) fun y hy hk=>I.ok.has y.1 (S.free y hy hk);refine(TU (use:=none) rfl hs Xr S.kind S.names (V0 (hi pins s J H _ I h) fun v s1 h1=>V0 h1 fun θ s2 h2=>?_));obtain⟨it,fp,tn,Z7,H2,e,I2,T,P,f2,q⟩:=h2;subst e;have S':VZ X.nox N' own cap scope:=⟨S.kind,S.own1,S.free1,S.names,S.free,S.eq,S.cap⟩
 refine(vq (X:=X.nox) (RR:=fun acc C=>compPost (model X.prog X.w) X.A X.xe none (EP X pins J Q) acc C) (Z:=fun D=>Q<|.ref D) (fun _ _ z=>z) hc S' hg ht he (I2.wish _) T P f2 c1 c2 q ?_);intro D C s' m' H' I' F f' z;exact⟨m',F,fun č L=>⟨.ref D,H',I'.unwish.letgo f' L,rfl,z⟩⟩
end
end L2
namespace L3
open PySem PySem.Spec L2
section
variable {X:Cx} {K:Frag} {a b:Expr} {ea eb:EV} {pos p:Pos} {k:Nat}
def je(neg:Bool)(x y:D)(O:M):Fr:=if neg=true then none else(fq O y).bind fun ds=>(optAll (py 65 O) ds).bind fun es=>(py 65 O x).bind fun d=>if(PyData.canLayAll0 es&&d.canLay0&&decide (d.depth<=60))=true then some (.bl (es.any fun e=>PyData.eqv e d),O) else none
theorem Iu:W8 K (fun x y H Q=>∃p xs ds d,y=.ref p/\WE K H p xs/\Xs K H xs ds/\Dp K H x d/\(PyData.canLayAll0 ds&&d.canLay0&&decide (d.depth<=60))=true/\Q (.bl<|ds.any fun e=>PyData.eqv e d) H) (je false):=by
 intro W x y d e z Z6 Q ok P L J q;unfold je at J;rw[if_neg nofun] at J;refine dF J fun ds h1 J=>?_;refine dF J fun es h2 J=>?_;obtain⟨d',h3,J⟩:=Wc J;split at J
 .rename_i hc;cases J;obtain⟨a,vs,rfl,S,F⟩:=i5 ok h1 L;exact(⟨a,vs,es,d',rfl,S,lr (jh ok 65) F h2,jh ok _ _ _ _ P h3,hc,q _ W rfl ok .refl (.bl _)⟩)
 .cases J
theorem Cu(z:V8 k X.A)(S:PE X a (tD K ea))(F:PE X b (tD K eb))(hm:behindInMarks .In b=false:=by rfl)(hK:X.K=K:=by rfl):PE X (.Compare a [.In] [b] pos) (tD K<|v2 (je false) ea eb):=by subst hK;exact vm (Nc z.units) Iu S F hm
end
section
variable {X:Cx} {E:St->XK} {K:Frag} {N' own:Ŗ} {cap:ő} {scope:Scope} {tg iter elt:Expr} {ifs:Ř} {pos:Pos} {ex:EX} {g:GV} {tc:BV} {te:EV}
def jS(own:Ŗ)(cap:ő)(ex:EX)(g:GV)(tc:BV)(te:EV):EX:=fun B O=>(ex B O).bind fun p=>match p.1 with
 | .ok d=>(Xj p.2 d).bind fun s=>if s.1.length<=1000000 then(fo s.2 g tc te s.1 (ff own cap B) p.2).bind fun q=>some (.ok (.lst q.1),q.2) else none| .ex C=>some (.ex C,p.2)
theorem uq(S:VZ X N' own cap scope)(hi:PE X iter (tX K E ex))
  (hg:∀cl C Z3 Z1 ex,PG (eg X.nox N' scope cl C Z3 Z1 ex) tg<|XT K g) (ht:∀cl C Z3 Z1 ex,XA (eg X.nox N' scope cl C Z3 Z1 ex) ifs<|WO K tc) (he:∀cl C Z3 Z1 ex,PE (eg X.nox N' scope cl C Z3 Z1 ex) elt<|tD K te)
  (hc:X.calm=true:=by rfl) (F:YN X iter:=by intro _;rfl) (hK:X.K=K:=by rfl):
  PE X (.ListComp elt [⟨tg,iter,ifs,0⟩] scope pos) (tX K E<|jS own cap ex g tc te):=by
 subst hK;refine eK (Sa S (AQ hi) hg ht he hc F) fun J H Q h=>?_;refine Wf h fun W B r Z6 eH ok en e q=>?_;subst eH;obtain⟨⟨r1,Z5⟩,e1,e⟩:=Wc e;refine(⟨W,B,r1,Z5,rfl,ok,en,e1,fun W1 ZL L s1=>?_⟩);cases r1 with
 |ex C=>
  cases e;exact q W1 ZL L s1
 |ok d=>
  intro v rv;obtain⟨⟨its,c⟩,e2,e⟩:=Wc e;split at e
  .rename_i hl;obtain⟨⟨rs,Z4⟩,e3,e⟩:=Wc e;cases e;obtain⟨c0,a,rfl,hh⟩:=wO L (by rw[ZL];exact e2) rv;obtain⟨Ã,h0,_⟩:=hh W1 L c0 rv;refine(⟨a,rfl,⟨_,h0⟩,fun p hp=>?_⟩);have jr:JR X.K W1 (Ϻ X.K a) its c:=⟨c0,[d],[.ref a],.cons rv .nil,fun W2 i P c2 r2=>by
    cases r2 with
    |cons r2 _=>
     obtain⟨vs,F,hv⟩:=hh W2 P c2 r2;refine⟨fun hi=>⟨vs,F,by rw[←hv.length];exact hi⟩,fun d hd=>?_⟩;obtain⟨v,z,m4⟩:=hv.get hd;refine(⟨⟨vs,v,F,z⟩,fun x H' y=>?_⟩);obtain⟨rfl,y⟩:=y;have:=y vs F;rw[z] at this;cases this;exact⟨W2,rfl,rfl,P,.refl,m4⟩⟩
   refine BQ L hp jr ((en.step ok s1).cap own cap) hl (by rw[ZL];exact e3) fun W' ys Zm _K s' ï hy r=>?_;obtain⟨a1,a2,a3⟩:=xT s1 hp L _K s' ï hy r;exact(q (W'.show W1.hid) Zm a1 a2 _ a3)
  .cases e
end
section
variable {K:Frag} {k:Nat}
theorem IN(n:Nat):V2 K W (eT 0 n) ((List.range n).map fun k:Nat=>V.int (k:Int)):=by
 have h:=uS (K:=K) (W:=W) ((List.range n).map fun k:Nat=>(k:Int));rw[S5,S5] at h;have e:eT 0 n=(List.range n).map (D.int∘fun k:Nat=>(k:Int)):=by unfold eT;exact T3 fun k _=>by simp
 rw[e];exact h
end
end L3
namespace L2
open PySem PySem.Spec PyProof.Rows
end L2
namespace L3
open PySem PySem.Spec L2
end L3
namespace L3
open PySem L2
abbrev Nn(K:Frag)(x:Str):Prop:=nsIn K mainGlobals x=some none
abbrev Ng(K:Frag)(x:Str)(v:Value):Prop:=nsIn K mainGlobals x=some (some v)
structure Rm (P:Program) (w:World) (K:Frag) (mg:œ) (base h:Heap):Prop where
 X:K.In h
 G:h.Ns mainGlobals mg
structure Gf (K:Frag) (x:Str) (st:Stmt) (f:Addr) (fd:FuncData):Prop where
 a:Ng K x (.ref f)
 F:WM K x x st f fd
structure Mf (K:Frag) (C:Addr) (x q:Str) (st:Stmt) (f:Addr) (fd:FuncData):Prop where
 a:findIn K (.ref C) x=some (some<|.ref f)
 i:isFn K (.ref f)=true
 F:WM K x q st f fd
section
variable {P:Program} {w:World} {K:Frag} {mg:œ} {base h:Heap} {x q:Str} {st:Stmt} {f C:Addr} {fd:FuncData} {k:Nat} {ps:Ŗ} {sp:Sp} {CX:YI}
theorem gf_mk{oc:Value}{od an:š}{osl:Array Ŝ}{kV doc pm cdv ct:Value}(a:nsIn K mainGlobals x=some (some<|.ref f))(l:K.lookup f=some ⟨oc,od,.func (fnOf x x (jC st) (ic st) (eD st) .none kV doc pm an cdv ct),osl⟩)
  (c:codeIn K cdv x=true) (k:keepIn K (.ref f)=true):Gf K x st f (fnOf x x (jC st) (ic st) (eD st) .none kV doc pm an cdv ct):=⟨a,CK l c k⟩
theorem mf_mk{oc:Value}{od an:š}{osl:Array Ŝ}{kV doc pm cdv ct:Value}(a:findIn K (.ref C) x=some (some<|.ref f))(i:isFn K (.ref f)=true)(l:K.lookup f=some ⟨oc,od,.func (fnOf x q (jC st) (ic st) (eD st) .none kV doc pm an cdv ct),osl⟩)
  (c:codeIn K cdv q=true) (k:keepIn K (.ref f)=true):Mf K C x q st f (fnOf x q (jC st) (ic st) (eD st) .none kV doc pm an cdv ct):=⟨a,i,CK l c k⟩
abbrev Á(x q:Str)(st:Stmt)(ps:Ŗ):Prop:=∀(kV doc pm:Value) (an:š) (cdv ct:Value) (us:Œ),us.length=ps.length->bindArgs (fnOf x q (jC st) (ic st) (eD st) .none kV doc pm an cdv ct) ⟨us,[]⟩=pure (ps.zip us)
theorem nq(a:nsIn K mainGlobals x=some v):nsIn K mainGlobals x=some v:=a
theorem Rm.n(R:Rm P w K mg base h)(z:Nn K x):mg x=none:=PySem.W.mg_none_of R.X R.G z
theorem Rm.g(R:Rm P w K mg base h)(z:Ng K x v):mg x=some v:=PySem.W.mg_of R.X R.G z
theorem Wj(R:Rm P w K mg base h)(A:Gf K x st f fd)(ok:Qv P w K mg base WN k f fd ps sp)(S:Á x x st ps:=by intro _ _ _ _ _ _ us z;rcases us with _|⟨_,_|⟨_,_|⟨_,_|⟨_,_|⟨_,_|⟨_,_⟩⟩⟩⟩⟩⟩<;>first|rfl|cases z):Df P w K mg base k x ps sp:=⟨_,_,ok,A.F.binds S,A.F.kp,R.g A.a⟩
theorem gF(R:Rm P w K mg base h)(A:Gf K x st f fd)(ok:Qv P w K mg base (XQ P w) k f fd ps sp)(S:Á x x st ps:=by intro _ _ _ _ _ _ us z;rcases us with _|⟨_,_|⟨_,_|⟨_,_|⟨_,_|⟨_,_|⟨_,_⟩⟩⟩⟩⟩⟩<;>first|rfl|cases z):YM P w K mg base k x ps sp:=⟨_,_,ok,A.F.binds S,A.F.kp,R.g A.a⟩
theorem ϱ(cl:Yf K C)(A:Mf K C x q st f fd)(ok:Qv P w K mg base CX k f fd ps sp)(S:Á x q st ps:=by intro _ _ _ _ _ _ us z;rcases us with _|⟨_,_|⟨_,_|⟨_,_|⟨_,_|⟨_,_|⟨_,_⟩⟩⟩⟩⟩⟩<;>first|rfl|cases z):υ P w K mg base CX k C x ps sp:=⟨cl,⟨_,_,⟨A.a,A.i,A.F.kp⟩,ok,A.F.binds S⟩⟩
structure Oc (K:Frag) (C:Addr):Prop where
 cl:Yf K C
 ms:PySem.W.makesIn K C=true
 kc:keepIn K (.ref C)=true
theorem oc_mk(pg:PySem.W.plainGet K C Str.empty=true)(hd:PySem.W.hasDictIn K C=true)(po:PySem.W.plainOver K C=true)(sa:findIn K (.ref C) "__setattr__"=some (some<|.builtin "object.__setattr__")) (mk:PySem.W.makesIn K C=true) (kc:keepIn K (.ref C)=true):Oc K C:=⟨⟨pg,hd,po,sa⟩,mk,kc⟩
theorem fiK(R:Rm P w K mg base h)(z:Ng K y (.ref C))(Z9:Oc K C)(A:Mf K C "__init__" q st f fd) (ok:Qv P w K mg base CX k f fd ps sp) (hb:Á "__init__" q st ps:=by intro _ _ _ _ _ _ us S;rcases us with _|⟨_,_|⟨_,_|⟨_,_|⟨_,_|⟨_,_|⟨_,_⟩⟩⟩⟩⟩⟩<;>first|rfl|cases S):Ĕ P w K mg base CX k C y ps sp:=⟨R.g z,⟨_,_,⟨Z9.ms,A.a,A.i,Z9.kc⟩,ok,A.F.binds hb⟩⟩
theorem ϳ(R:Rm P w K mg base h)(z:Ng K x (.int i t)):mg x=some (.int i t)/\RelV (.int i) (.int i t)/\∀W,DR K W (.int i) (.int i):=⟨R.g z,⟨_,rfl⟩,fun _=>.int _⟩
theorem fgT(R:Rm P w K mg base h)(z:Ng K x (.ref p))(y:K.lookup p=some o)(c:o.cls=.type "tuple") (d:o.data=.seq #[.str s t] n):mg x=some (.ref p)/\RelV (.ref p) (.ref p)/\∀W,DR K W (.gt [.str s]) (.ref p):=
 ⟨R.g z,rfl,fun _=>.gt (vs:=[.str s]) (.inr ⟨o,_,n,y,c,d,(show 1<=sizeLine from kC (by decide)),.cons ⟨t,rfl⟩ .nil⟩)<|.cons (.str _) .nil⟩
theorem ri_mk{bm N nm q bs hdct sn sub ab col dd k0 k1 k2 k3 k5:_}(el:K.lookup C=some (excClassObj nm q C N bs bm hdct sn sub ab col dd k0 k1 k2 k3 k5 "ValueError.__new__")) (F:PySem.W.tailIn K vg bm=true) (en:PySem.W.nsOkIn K N=true) (z:nsIn K N "__init__"=some none):gZ K C:=⟨_,_,_,_,_,_,_,_,_,_,_,_,_,_,_,_,el,F,en,z⟩
theorem IP(F:WM K x q st f fd)(z:∀(kV doc pm:Value) (an:š) (cdv ct:Value) (s:Shared) (v:Value),BindsTo s (fnOf x q (jC st) (ic st) (eD st) .none kV doc pm an cdv ct) ⟨[v],[]⟩ [("script",v)]):∀(s:Shared) (v:Value),BindsTo s fd ⟨[v],[]⟩ [("script",v)]:=by obtain⟨oc,od,kV,doc,pm,an,cdv,ct,osl,rfl,_,_⟩:=F.ex;exact fun s v=>z kV doc pm an cdv ct s v
theorem ď(R:Rm P w K mg base h)(z:Ng K x (.ref C))(r:gZ K C):mg x=some (.ref C)/\gZ K C:=⟨R.g z,r⟩
end
end L3
namespace L3
open PySem PySem.Spec L2
def fO(kvs:List (NK×D))(k:NK):Option D:=(kvs.find? fun H=>decide (H.1=k)).map (·.2)
def iM(kvs:List (NK×D))(k:NK)(v:D):List (NK×D):=
 if(kvs.any fun H=>decide (H.1=k))=true then kvs.map (fun H=>if H.1=k then(H.1,v) else H) else kvs++[(k,v)]
def kX:D->Option NK
 | .tup [.tup ds,.int n]=>(optAll YX ds).bind fun ns=>some (ns,n)|_=>none
def kE(O:M):D->Option (List<|NK×D)
 | .ref k=>match O[k]? with
  |some (some<|.dN kvs)=>some kvs|_=>none
 |_=>none
section
variable {K:Frag} {W:Wd}
theorem DA:∀{ds:List D} {vs:ŗ} {ns:Ő},optAll YX ds=some ns->V2 K W ds vs->vs=ns.map V.int
 | [],_,ns,h,r=>by cases h;cases r;rfl
 |d::ds,_,ns,h,r=>by
  cases r with
  |cons J H=>
   simp only[optAll] at h;refine dF h fun i e1 h=>?_;refine dF h fun is L h=>?_;cases h;have:=DA L H;subst this;cases d<;>simp only[YX] at e1<;>cases e1
   cases J;rfl
theorem xn{d:D}{k:NK}{v:V}(h:kX d=some k)(r:DR K W d v):∃b,v=.ref b/\XW W.H b k:=by
 unfold kX at h;split at h
 .rename_i ds n;refine dF h fun ns e h=>?_;cases h;cases r with
  | @tup a vs _ z rs=>
   cases rs with
   |cons P rs=>
    cases rs with
    |cons L rs=>
     cases rs;cases L;cases P with
     | @tup b S _ F J=>
      have:=DA e J;subst this;exact⟨a,rfl,b,z,F⟩
 .cases h
theorem v3(ok:Ok K W)(h:kE W.O d=some kvs)(r:DR K W d v):
  ∃k a vs,d=.ref k/\v=.ref a/\W.O[k]?=some (some<|.dN kvs)/\W.ρ[k]?=some a/\W.H a=some (.dT vs)/\NR K W kvs vs:=by
 cases d with
 |ref k=>
  simp only[kE] at h;split at h
  .rename_i kvs' J;cases h;cases r with
   |ref L=>
    obtain⟨S,F,P,z,vs,rfl,r⟩:=ok.at_ k _ J;rw[L] at P;cases P;exact⟨k,_,vs,rfl,rfl,J,L,z,r⟩
  .cases h
 |_=>simp[kE] at h
theorem NR.len(r:NR K W kvs vs):kvs.length=vs.length:=UN r
theorem NR.any(r:NR K W kvs vs)(k:NK):(kvs.any fun z=>decide (z.1=k))=vs.any fun z=>decide (z.1=k):=by
 unfold NR at r;induction r with
 |nil=>rfl|cons h t H=>rw[T6,T6,H,h.1]
theorem NR.val(r:NR K W kvs vs)(k:NK):(fO kvs k).isSome=(gp vs k).isSome:=by
 unfold NR at r;induction r with
 |nil=>rfl| @cons p q ps J h t H=>
  by_cases e:p.1=k
  .rw[lY (by rw[←h.1];exact e)];simp[fO,SH,e]
  .rw[l8 (by rw[←h.1];exact e)];simp only[fO,SH,e,UI] at H⊢;exact H
theorem NR.at{kvs:List (NK×D)}{vs:List (NK×V)}(r:NR K W kvs vs){k:NK}{d:D}(h:fO kvs k=some d):∃v,gp vs k=some v/\DR K W d v:=by
 unfold NR at r;induction r with
 |nil=>cases h
 | @cons p q ps P hd t H=>
  by_cases e:p.1=k
  .have:fO (p::ps) k=some p.2:=by simp[fO,SH,e]
   rw[this] at h;cases h;exact⟨q.2,lY (by rw[←hd.1];exact e),hd.2⟩
  .have:fO (p::ps) k=fO ps k:=by simp[fO,SH,e]
   rw[this] at h;obtain⟨v,L,J⟩:=H h;exact⟨v,by rw[l8 (by rw[←hd.1];exact e)];exact L,J⟩
theorem NR.put(r:NR K W kvs vs)(k:NK)(z:DR K W d v):NR K W (iM kvs k d) (fP vs k v):=by
 unfold iM fP;rw[r.any k];by_cases e:(vs.any fun H=>decide (H.1=k))=true
 .rw[if_pos e,if_pos e];unfold NR at r⊢;clear e;induction r with
  |nil=>exact .nil| @cons p q ps L h t J=>
   refine .cons ?_ J;show(if p.1=k then(p.1,d) else p).1=(if q.1=k then(q.1,v) else q).1/\DR K W (if p.1=k then(p.1,d) else p).2 (if q.1=k then(q.1,v) else q).2;by_cases e:p.1=k
   .rw[if_pos e,if_pos (by rw[←h.1];exact e)];exact⟨h.1,z⟩
   .rw[if_neg e,if_neg (by rw[←h.1];exact e)];exact h
 .rw[if_neg e,if_neg e];exact VQ r ⟨rfl,z⟩
theorem R0{k:Nat}{a:Addr}{kvs kvs':List (NK×D)}{vs':List (NK×V)}(ok:Ok K W)(z:W.O[k]?=some (some<|.dN kvs))(F:W.ρ[k]?=some a)(S:NR K W kvs' vs'):
  Ok K (W.put k a (.dT vs')<|.dN kvs')/\Step W (W.put k a (.dT vs')<|.dN kvs'):=⟨qV ok z F ⟨vs',rfl,S⟩,ln z F⟩
theorem ze{H:Hp}{a b:Addr}{kvs:List (NK×V)}{k:NK}(e:H a=some (.dT kvs))(eb:XW H b k):Xl H a (.ref b) (gp kvs k):=.inr ⟨kvs,k,b,.inl e,rfl,eb,rfl⟩
theorem Qm{H:Hp}{a b:Addr}{kvs:List (NK×V)}{k:NK}{v:V}(e:H a=some (.dT kvs))(eb:XW H b k)(z:kvs.length<sizeLine):xk H a (.ref b) v (upd H a<|.dT<|fP kvs k v):=.inr ⟨kvs,k,b,e,rfl,eb,z,rfl⟩
end
section
variable {X:Cx} {K:Frag} {a b e o i value:Expr} {ea eb eo ei:EV} {pos p pos':Pos} {k:Nat}
def ub:EV:=fun _ O=>some (.ref O.length,O++[some (.dN [])])
theorem RM:PE X (.Dict [] [] pos) (tD K ub):=eK Jw fun J H Q h=>by refine Wf h fun W B d Z6 z ok en e q=>?_;subst z;cases e;intro P L;exact q _ (W.new P (.dT [])<|.dN []) rfl (qf ok L ⟨[],rfl,.nil⟩) (jK ok L) (pj ok)
def sD(x y:D)(O:M):Fr:=(kE O x).bind fun kvs=>(kX y).bind fun k=>(fO kvs k).bind fun d=>some (d,O)
theorem No(hr:V8 k X.A)(ha:PE X a (tD K ea))(F:PE X b (tD K eb))(z:tM b:=by exact fun _ _=>rfl):PE X (.Subscript a b pos) (tD K<|v2 sD ea eb):=
 eK (Cs (by have:=hr.un;omega) ha F z) fun J H Q h=>by refine Wf h fun W B d Z6 eH ok en e q=>?_;subst eH;refine dF e fun p1 e1 e=>?_;refine dF e fun S e2 e=>?_;refine dF e fun kvs e3 e=>?_;refine dF e fun ky e4 e=>?_;refine dF e fun d2 e5 e=>?_;cases e;refine⟨W,B,p1.1,p1.2,rfl,ok,en,e1,fun x W1 Z2 P s1 r1=>⟨W1,B,S.1,S.2,rfl,P,en.step ok s1,by rw[Z2];exact e2,fun y W2 ZV L s2 r2=>?_⟩⟩;rw[←ZV] at e3;obtain⟨n,a,vs,hd,rfl,hk,ha,hh,z⟩:=v3 L e3 (r1.step P s2);obtain⟨b,rfl,F⟩:=xn e4 r2;obtain⟨v,h1,h2⟩:=z.at e5;exact⟨a,v,rfl,by rw[←h1];exact ze hh F,q _ W2 ZV L (s1.trans s2) h2⟩
def qb(neg:Bool)(y x:D)(O:M):Fr:=(kX y).bind fun k=>(kE O x).bind fun kvs=>some (.bl (xor neg (fO kvs k).isSome),O)
theorem MF(neg:Bool):∀J H Q,tD K (v2 (qb neg) ea eb) J H Q->(fun J H Q=>tD K ea J H fun y H1=>tD K eb J H1 fun x H2=>∃a F,x=.ref a/\Xl H2 a y F/\Q (.bl<|xor neg F.isSome) H2:TE) J H Q:=fun J H Q h=>by refine Wf h fun W B d Z6 eH ok en e q=>?_;subst eH;refine dF e fun p1 e1 e=>?_;refine dF e fun z e2 e=>?_;refine dF e fun k e3 e=>?_;refine dF e fun kvs S e=>?_;cases e;refine⟨W,B,p1.1,p1.2,rfl,ok,en,e1,fun x W1 Z2 P s1 r1=>⟨W1,B,z.1,z.2,rfl,P,en.step ok s1,by rw[Z2];exact e2,fun y W2 ZV L s2 r2=>?_⟩⟩;rw[←ZV] at S;obtain⟨n,a,vs,_,rfl,_,_,hh,hs⟩:=v3 L S r2;obtain⟨b,rfl,hb⟩:=xn e3 (r1.step P s2);refine⟨a,_,rfl,ze hh hb,?_⟩;rw[←hs.val k];exact q _ W2 ZV L (s1.trans s2) (.bl _)
theorem GH(z:V8 k X.A)(S:PE X a (tD K ea))(F:PE X b (tD K eb))(hm:behindInMarks .NotIn b=false:=by rfl):PT X (.Compare a [.NotIn] [b] pos) (WO K<|vT<|v2 (qb true) ea eb):=
 j1 (KJ (Iv (by have:=z.un;omega) S F) hm) (sQ fun J H Q h=>by have:=MF true J H Q h;simp only[Bool.true_xor] at this;exact this)
def yr(eo ei ev:EV):SV:=fun B O=>(ev B O).bind fun v=>(eo B v.2).bind fun p=>(ei B p.2).bind fun q=>(kX q.1).bind fun k=>(kE q.2 p.1).bind fun kvs=>match p.1 with
 | .ref n=>if kvs.length<16000000 then some (.nx,B,q.2.set n<|some<|.dN<|iM kvs k v.1) else none|_=>none
theorem Es(hr:V8 k X.A)(ho:PE X o (tD K eo))(hi:PE X i (tD K ei))(hv:PE X value (tD K ev))(hs:swapsWith value (some<|.Subscript o i pos') pos.line X.env=pure false:=by rfl):
  PS X (.Assign [.Subscript o i pos'] value pos) (XI K<|yr eo ei ev):=gk (NG (by have:=hr.un;omega) ho hi hv hs) fun D J H h=>by
 refine XE h fun W B o ZZ Z6 eH ok en e q=>?_;subst eH;refine dF e fun v0 e0 e=>?_;refine dF e fun p1 e1 e=>?_;refine dF e fun p2 e2 e=>?_;refine dF e fun S e3 e=>?_;refine dF e fun kvs e4 e=>?_;refine⟨W,B,v0.1,v0.2,rfl,ok,en,e0,fun z W0 Zb P s0 r0=>⟨W0,B,p1.1,p1.2,rfl,P,en.step ok s0,by rw[Zb];exact e1,fun x W1 Z2 L s1 r1=>⟨W1,B,p2.1,p2.2,rfl,L,(en.step ok s0).step P s1,by rw[Z2];exact e2,fun y W2 ZV F s2 r2=>?_⟩⟩⟩;rw[←ZV] at e4;obtain⟨n,a,vs,hd,rfl,hk,ha,hh,hs⟩:=v3 F e4 (r1.step L s2);rw[hd] at e;simp only at e;split at e
 .rename_i hl;cases e;obtain⟨b,rfl,hb⟩:=xn e3 r2;obtain⟨o3,s3⟩:=R0 (vs':=fP vs S z) (kvs':=iM kvs S v0.1) F hk ha (hs.put S<|(r0.step P s1).step L s2);refine⟨a,_,rfl,Qm hh hb (by rw[←hs.len,Uc];omega),?_⟩;exact q (W2.put n a (.dT<|fP vs S z)<|.dN<|iM kvs S v0.1) J (by show W2.O.set _ _=_;rw[ZV]) o3 (((s0.trans s1).trans s2).trans s3) ((((en.step ok s0).step P s1).step L s2).step F s3)
 .cases e
end
end L3
namespace L2
open PySem PySem.Spec PyProof.Rows
section
variable {prog:Program} {w:World} {A:Around} {E:QS} {s:Shared}
theorem KU{Q:Œ->Shared->Prop}{r:Addr}{a b c:Int}{t u v:Tok}{n:Nat}(hh:A.handled=none)(hr:IsRange s.heap r a b c t u v)(z:Builtin.Range.small a b c=true)(hn:Builtin.Range.rangeSize a b c=n)(hlen:n<=2^24)
  (hQ:∀(h':Heap) (tk:Nat) (acc:Array Value),(∀b o,s.heap.get? b=some o->h'.get? b=some o)->ItemsOf (fun i v=>∃t,v=.int (a+i*c) t) acc n->Q acc.toList {s with heap:=h',toks:=tk}):
  wpAny (model prog w) A (collect<|.ref r) Q E s:=by
 unfold collect;refine Sj (wpAny_runValue<|T4 F.entry_proto_collect ?_);rw[TF F.plain_proto_collect _];show wpAny _ A.in1 (newList [] >>= fun l=>again<|.builtin "list.__iadd__" ⟨[l,.ref r],[]⟩) _ _ s;refine Sj (Tc ?_);refine Sk ⟨T7 F.plain_list_iadd _,T4 F.entry_list_iadd ?_⟩;rw[TF F.plain_list_iadd _];show wpAny _ A.in1 (Builtin.List.listExtendWith (.ref s.heap.objs.size) (.ref r)<|.ref s.heap.objs.size) _ _ _;have hS:(s.heap.push {cls:=.type "list",data:=.seq ([]:Œ).toArray}).get? s.heap.objs.size=some {cls:=.type "list",data:=.seq #[] 0}:=SA _ rfl;have hr1:=Sl {cls:=.type "list",data:=.seq ([]:Œ).toArray} hr;have fin:∀(h':Heap) (tk:Nat) (acc:Array Value) (H:Nat),(∀b o,b≠s.heap.objs.size->(s.heap.push {cls:=.type "list",data:=.seq ([]:Œ).toArray}).get? b=some o->h'.get? b=some o)->h'.get? s.heap.objs.size=some {cls:=.type "list",dict:=none,data:=.seq acc H,slots:=#[]}->
   ItemsOf (fun i v=>∃t,v=.int (a+i*c) t) acc n->wpAny (model prog w) A (match Value.ref s.heap.objs.size with
   |Value.ref a=>do
    match(←load a).data with
     |Data.seq xs _=>pure xs.toList|_=>unsupported "internal:collect"
   |_=>unsupported "internal:collect") Q E {s with heap:=h',toks:=tk}:=by
  intro h' tk acc H hk Ċ J;show wpAny _ A (load s.heap.objs.size >>= _) _ _ _;refine Sj (wpAny_load Ċ ?_);exact Sk (hQ h' tk acc (fun b o hb=>hk b o (SQ<|Su hb)<|Sl _ hb) J)
 refine Ss (wpAny_extend_range (A:=A) (s:={s with heap:=s.heap.push {cls:=.type "list",data:=.seq ([]:Œ).toArray}}) (R:=fun r' s'=>r'=.ok (.ret<|.ref s.heap.objs.size)/\∃h' tk acc H,s'={s with heap:=h',toks:=tk}/\(∀b o,b≠s.heap.objs.size->(s.heap.push {cls:=.type "list",data:=.seq ([]:Œ).toArray}).get? b=some o->h'.get? b=some o)/\h'.get? s.heap.objs.size=some {cls:=.type "list",dict:=none,data:=.seq acc H,slots:=#[]}/\ItemsOf (fun i v=>∃t,v=.int (a+i*c) t) acc n)
  hh hr1 z hn hlen s.heap.objs.size (.ref s.heap.objs.size) 0 hS (fun h' tk acc H S P L=>⟨rfl,h',tk,acc,H,rfl,S,P,L⟩)) (fun fi s' h=>?_) (fun e s' h=>?_)
 .cases fi with
  |done f=>
   obtain⟨e,h',tk,acc,H,rfl,S,P,L⟩:=h;cases e;exact fin h' tk acc H S P L
  |again c2=>exact⟨h.1,UE h.2 fun r Β hr=>by obtain⟨rfl,h',tk,acc,H,rfl,S,P,L⟩:=hr;exact fin h' tk acc H S P L⟩
 .exact absurd h.1 nofun
theorem Jr{Q₁:QS}{r:Addr}{a b c:Int}{t u v:Tok}{n:Nat}(hh:A.handled=none)(hr:IsRange s.heap r a b c t u v)(z:Builtin.Range.small a b c=true)(hn:Builtin.Range.rangeSize a b c=n)(hlen:n<=2^24)
  (h:∀(h':Heap) (tk:Nat) (acc:Array Value),(∀b o,s.heap.get? b=some o->h'.get? b=some o)->ItemsOf (fun i v=>∃t,v=.int (a+i*c) t) acc n->Q₁ (.ref h'.objs.size) {s with heap:=h'.push {cls:=.type "tuple",data:=.seq acc},toks:=tk}) (hsz:n<=sizeLine):
  codeAny (model prog w) A (.call (.builtin "tuple.__new__") ⟨[.type "tuple",.ref r],[]⟩) (wants Q₁ E) s:=by
 refine codeAny_of_tree ?_;show wpAny _ A.in1 (do checkBuiltinCall "tuple.__new__" ⟨[.type "tuple",.ref r],[]⟩;again (.builtin "tuple.__new__" ⟨[.type "tuple",.ref r],[]⟩)) _ _ s;refine Sj (wpAny_of_eq (F.newCall_tuple_1 _)<|Sk ⟨T7 F.plain_tuple_new _,T4 F.entry_tuple_new ?_⟩);rw[TF F.plain_tuple_new _];have S:=sub_tuple_self;have J:=init_tuple_lookup;have hmh:=madeHere_tuple;have P:s.TypeIs (.ref r) "range":=⟨_,hr,rfl⟩
 have L:A.in1.handled=none:=hh;wp_walk using wpAny_typeOf P,KU L hr z hn hlen;intro h' tk acc hk H;show wpAny _ _ (Builtin.Tuple.tupleExact acc.toList.toArray >>= fun v=>ret v) _ _ _;unfold Builtin.Tuple.tupleExact;refine Sj (Tc ?_ (by show acc.toList.toArray.size<=sizeLine;simp only[Array.toArray_toList];rw[H.1];exact hsz));refine Sk ?_;have e:acc.toList.toArray=acc:=by simp
 rw[e];exact h h' tk acc hk H
theorem Nj{Q:QS}{r:Addr}{a b c:Int}{t u v:Tok}{n:Nat}(hh:A.handled=none)(S:IsRange s.heap r a b c t u v)(z:Builtin.Range.small a b c=true)(hn:Builtin.Range.rangeSize a b c=n)(hlen:n<=2^24)
  (h:∀(h':Heap) (tk:Nat) (acc:Array Value),(∀b o,s.heap.get? b=some o->h'.get? b=some o)->ItemsOf (fun i v=>∃t,v=.int (a+i*c) t) acc n->Q (.ref h'.objs.size) {s with heap:=h'.push {cls:=.type "tuple",data:=.seq acc},toks:=tk}) (hsz:n<=sizeLine):
  wpAny (model prog w) A (call (.type "tuple") [.ref r]) Q E s:=by
 refine callType_codes (Q₁:=fun obj J=>J.TypeIs obj "tuple"/\Q obj J) F.called_tuple (F.typeCall_tuple_1 _) F.entry_object_init
  (Jr hh S z hn hlen (fun h' tk acc P H=>⟨⟨_,SA _ rfl,rfl⟩,h h' tk acc P H⟩) hsz) fun obj J L=>?_
 exact⟨L.1,F.args_object_init_2 obj _,object_init_meets F.called_tuple.init.lookup F.called_tuple.made (by decide) prog w A.in1 _ J ⟨L.1,rfl,L.2⟩⟩
end
section
variable {X:Cx} {a:Expr} {ta:TE} {p pos:Pos}
theorem Fc(z:ItemsOf (fun i v=>∃t,v=.int (0+i*1) t) acc n):Vals ((List.range n).map fun k:Nat=>V.int (k:Int)) acc.toList:=by
 have S:acc.toList.length=n:=by rw[T2];exact z.1
 have key:∀(m:Nat) (l:Œ) (H:Nat),l.length=m->(∀j v,l[j]?=some v->∃t,v=Value.int ((H+j:Nat):Int) t)->Vals ((List.range' H m).map fun k:Nat=>V.int (k:Int)) l:=by
  intro m;induction m with
  |zero=>intro l H e _;have:=TX.mp e;subst this;exact .nil|succ m F=>
   intro l H e P;cases l with
   |nil=>simp at e|cons x l=>
    rw[List.range'_succ,Sz];obtain⟨t,ex⟩:=P 0 x rfl;refine .cons ⟨t,?_⟩ (F l (H+1) (by simpa using e) fun j v ev=>?_)
    .rw[ex];simp
    .obtain⟨J,L⟩:=P (j+1) v (by simpa using ev);exact⟨J,by rw[L];congr 2;omega⟩
 rw[List.range_eq_range'];refine key n acc.toList 0 S fun j v ev=>?_;obtain⟨J,L⟩:=z.2 j v (by simpa using ev);exact⟨J,by rw[L];simp⟩
theorem Ja(hc:X.calm=true):iE X (.type "tuple") (fun xs H Q=>∃(r:Addr) (n:Nat),xs=[.ref r]/\H r=some (.rng 0 (n:Int))/\n<=1000000/\∀l,H l=none->Q (.ref l) (upd H l<|.tup ((List.range n).map fun k:Nat=>V.int (k:Int)))):=by
 intro pins s J H xs us Q I r h;obtain⟨P,n,rfl,e,z,q⟩:=h;obtain⟨u,rfl,ru⟩:=kr r;cases ru;obtain⟨t,u,v,ho⟩:=(show ∃t u v,s.heap.get? P=some {cls:=.type "range",data:=.fields #[.int 0 t,.int (n:Int) u,.int 1 v]} from I.hok P _ e)
 refine Nj (a:=0) (b:=n) (c:=1) (n:=n) (I.ok.hd hc) ho (small_one ⋯ ⋯ ⋯ ⋯) (by rw[Vz];split<;>omega) ⋯ (fun h' tk acc hk L=>?_) (kC z);have S:Inv X pins J H {s with heap:=h',toks:=tk}:=I.kept (t':=tk) hk;have hv:=Fc L;have F:Inv X pins J (upd H h'.objs.size<|.tup ((List.range n).map fun k:Nat=>V.int (k:Int))) {s with heap:=h'.push {cls:=.type "tuple",data:=.seq acc.toList.toArray},toks:=tk}:=
  S.laid (t':=tk) (fun b o e=>Sl _ e) (Sm _) (show V9 X.prog X.w _ _ _ (.tup _) from⟨by rw[Sv,TR];exact kC z,acc.toList,hv,IsTup.new _ _⟩)
 have e2:acc.toList.toArray=acc:=by simp
 rw[e2] at F;exact⟨.ref h'.objs.size,_,F,rfl,q _<|S.hok.fresh<|Sm _⟩
theorem Ky(F:X.mg "tuple"=none) (ha:PE X a ta) (S:Gl X "tuple":=by rfl) (z:WX X a:=by rfl) (hc:X.calm=true:=by rfl):
  PE X (.Call (.Name "tuple" p) [a] [] pos) (fun J H Q=>ta J H fun x H1=>∃(r:Addr) (n:Nat),[x]=[.ref r]/\H1 r=some (.rng 0 (n:Int))/\n<=1000000/\∀l,H1 l=none->Q (.ref l) (upd H1 l<|.tup ((List.range n).map fun k:Nat=>V.int (k:Int)))):=
 rL (p:=p) (pos:=pos) (Ja hc) S F rfl (fE ha fV z) (he:=z)
theorem Jk(K:Frag)(F:X.mg "tuple"=none) (ha:PE X a ta) (S:Gl X "tuple":=by rfl) (z:WX X a:=by rfl) (hK:X.K=K:=by rfl):
  PE X (.Call (.Name "tuple" p) [a] [] pos) (fun J H Q=>ta J H fun x H1=>∃p ys,[x]=[V.ref p]/\((WE K H1 p ys/\∀l,H1 l=none->Q (.ref l) (upd H1 l<|.tup ys))\/(Wx K H1 p ys/\Q (.ref p) H1))):=by
 subst hK;exact rL Rc S F rfl (fE ha fV z) (he:=z)
end
end L2
namespace L3
open PySem PySem.Spec L2
section
variable {X:Cx} {K:Frag} {a:Expr} {ea:EV} {pos p p2 t4:Pos} {k:Nat}
def pA(x:D)(O:M):Fr:=match x with
 | .int j=>if 0<=j/\j<=1000000 then some (.tup (eT 0 j.toNat),O) else none|_=>none
theorem Gy(ml:X.mg "tuple"=none) (mr:X.mg "range"=none) (ha:PE X a (tD K ea)) (hc:X.calm=true:=by rfl) (hg:Gl X "range":=by rfl) (Yb:Gl X "tuple":=by rfl) (hs:WX X a:=by rfl)
  (S:starEach [.Call (.Name "range" p2) [a] [] t4] X.env=[(false,eval (.Call (.Name "range" p2) [a] [] t4) X.env)]:=by rfl):
  PE X (.Call (.Name "tuple" p) [.Call (.Name "range" p2) [a] [] t4] [] pos) (tD K<|v1 pA ea):=eK (Ky ml (Fb mr ha hg hs) Yb S hc) (jJ (r:=fun x F Q=>∃j:Int,x=.int j/\∀r,F r=none->∃(r':Addr) (n:Nat),[V.ref r]=[.ref r']/\(upd F r<|.rng 0 j) r'=some (.rng 0 (n:Int))/\n<=1000000/\∀l,(upd F r<|.rng 0 j) l=none->Q (.ref l) (upd (upd F r<|.rng 0 j) l<|.tup ((List.range n).map fun k:Nat=>V.int (k:Int)))) (by
 intro W x d z Z6 Q ok r1 L q;unfold pA at L;split at L
 .rename_i j;split at L
  .rename_i hj;cases L;cases r1;refine⟨j,rfl,fun r hr=>⟨r,j.toNat,rfl,by rw[fL];congr 2;omega,by omega,fun l hl=>?_⟩⟩;have P:=gC (o:=.rng 0 j) ok hr;have J:(W.lay r<|.rng 0 j).H l=none:=hl;exact q _ ((W.lay r<|.rng 0 j).lay l (.tup ((List.range j.toNat).map fun k:Nat=>V.int (k:Int)))) rfl (gC P J) ((fM hr).trans (fM J)) (kl P J<|IN _)
  .cases L
 .cases L))
def sw(x:D)(O:M):Fr:=(fq O x).bind fun ds=>some (.tup ds,O)
theorem zj(S:X.mg "tuple"=none) (ha:PE X a (tD K ea)) (hg:Gl X "tuple":=by rfl) (F:WX X a:=by rfl) (hK:X.K=K:=by rfl):PE X (.Call (.Name "tuple" p) [a] [] pos) (tD K<|v1 sw ea):=eK (Jk K S ha hg F hK) (jJ (by intro W x d z Z6 Q ok L J q;refine dF J fun ds hd J=>?_;cases J;obtain⟨a,vs,rfl,F,P⟩:=i5 ok hd L;exact⟨a,vs,rfl,.inl ⟨F,fun p H=>q _ (W.lay p<|.tup vs) rfl (gC ok H) (fM H) (kl ok H P)⟩⟩))
end
end L3
namespace Law
open PySem L2 L3
inductive Tr where
 |e (x:Ŕ)|ask (i j:Nat) (a b:Tr)
def at2(ss:List Ő)(x i:Nat):Int:=(ss.getD x []).getD i 0
def Xg(ss:List Ő)(i j:Nat)(left:ř):ř:=left.filter fun x=>decide (at2 ss x i=at2 ss x j)
def Xc(ss:List Ő)(i j:Nat)(left:ř):ř:=left.filter fun x=>!decide (at2 ss x i=at2 ss x j)
def cL(L:List (List Ŕ)):Option Ŕ:=(L.getD 0 []).find? fun t=>L.all fun l=>decide (t∈l)
def cE(es:List (List Ŕ))(left:ř):Option Ŕ:=cL (left.map fun x=>es.getD x [])
def kq(ss:List Ő)(f:ř->Option Tr)(left:ř)(p:Nat×Nat):Option Tr:=
 if Xg ss p.1 p.2 left=[]\/Xc ss p.1 p.2 left=[] then none else match f (Xg ss p.1 p.2 left) with
  |none=>none|some a=>match f (Xc ss p.1 p.2 left) with
   |none=>none|some b=>some (.ask p.1 p.2 a b)
def eN(ps:ŕ)(ss:List Ő)(es:List (List Ŕ)):Nat->ř->Option Tr
 |0,left=>(cE es left).map Tr.e|a+1,left=>match cE es left with
  |some x=>some (.e x)|none=>ps.findSome? (kq ss (eN ps ss es a) left)
def dep:Tr->Nat
 | .e _=>0| .ask _ _ a b=>1+max (dep a) (dep b)
def wf(ps:ŕ):Tr->Prop
 | .e _=>True| .ask i j a b=>(i,j)∈ps/\wf ps a/\wf ps b
def gy(s:Ő):Tr->Ŕ
 | .e x=>x| .ask i j a b=>if s.getD i 0=s.getD j 0 then gy s a else gy s b
section
variable {ps:ŕ} {ss:List Ő} {es:List (List Ŕ)}
theorem Ew{left:ř}{x:Ŕ}(h:cE es left=some x):∀y∈left,x∈es.getD y []:=by intro y H;unfold cE cL at h;have:=UQ h;rw[S2] at this;have:=this (es.getD y []) (SU.mpr ⟨y,H,rfl⟩);simpa using this
theorem Cw{left:ř}(h:cE es left=none)(h0:left≠[])(x:Ŕ):∃y∈left,x∉es.getD y []:=by refine Tp fun P=>?_;have all:∀y∈left,x∈es.getD y []:=fun y J=>Tp fun z=>P ⟨y,J,z⟩;obtain⟨y,r,rfl⟩:=Uh h0;unfold cE cL at h;have L:x∈((y::r).map fun x=>es.getD x []).getD 0 []:=all y nofun;have:=TV.mp h x L;apply this;rw[S2];intro l F;obtain⟨z,H,rfl⟩:=SU.mp F;simpa using all z H
theorem xV{α β:Type}{f:α->Option β}:∀{l:List α},l.findSome? f=none->∀a∈l,f a=none
 | [],_,a,h=>by cases h
 |x::l,h,a,J=>by
  rw[List.findSome?_cons] at h;cases H:f x with
  |some b=>rw[H] at h;cases h
  |none=>
   rw[H] at h;rcases SI.mp J with rfl|J
   .exact H
   .exact xV h a J
theorem yn{f:ř->Option Tr}{left:ř}{p:Nat×Nat}:kq ss f left p=none↔Xg ss p.1 p.2 left=[]\/Xc ss p.1 p.2 left=[]\/f (Xg ss p.1 p.2 left)=none\/f (Xc ss p.1 p.2 left)=none:=by
 unfold kq;by_cases J:Xg ss p.1 p.2 left=[]
 .simp[J]
 .by_cases H:Xc ss p.1 p.2 left=[]
  .simp[H]
  .rw[if_neg (fun z=>z.elim J H)];cases P:f (Xg ss p.1 p.2 left) with
   |none=>simp|some a=>
    cases L:f (Xc ss p.1 p.2 left) with
    |none=>simp|some b=>simp[J,H]
theorem CU:∀(a:Nat) (left:ř),eN ps ss es (a+1) left=none->eN ps ss es a left=none:=by
 intro a;induction a with
 |zero=>
  intro left h;simp only[eN] at h⊢;split at h
  .cases h
  .rename_i J;rw[J];rfl
 |succ a H=>
  intro left h;rw[eN] at h⊢;split at h
  .cases h
  .rename_i J;rw[List.findSome?_eq_none_iff];intro p L;have:=xV h p L;rw[yn] at this⊢;rcases this with z|z|z|z
   .exact .inl z
   .exact .inr (.inl z)
   .exact .inr (.inr<|.inl<|H _ z)
   .exact .inr (.inr<|.inr<|H _ z)
theorem B9:∀(a:Nat) (left:ř),left≠[]->eN ps ss es a left=none->∀t,wf ps t->dep t<=a->∃x∈left,gy (ss.getD x []) t∉es.getD x []:=by
 intro a;induction a with
 |zero=>
  intro left S h t w d;simp only[eN,U8] at h;cases t with
  |e x=>exact Cw h S x|ask i j t1 P=>simp only[dep] at d;omega
 |succ a ih=>
  intro left S h t w d;have hm:=CU a left h;have h':=h;rw[eN] at h;split at h
  .cases h
  .rename_i H;cases t with
   |e x=>exact Cw H S x|ask i j t1 P=>
    simp only[dep] at d;obtain⟨hp,w1,w2⟩:=w;have hq:=xV h (i,j) hp;rw[yn] at hq;have la:∀x∈Xg ss i j left,x∈left/\gy (ss.getD x []) (.ask i j t1 P)=gy (ss.getD x []) t1:=fun x H=>by
     obtain⟨q1,q2⟩:=Sy.mp H;refine⟨q1,?_⟩;have:(ss.getD x []).getD i 0=(ss.getD x []).getD j 0:=by simpa[at2] using q2
     simp only[gy];rw[if_pos this]
    have lu:∀x∈Xc ss i j left,x∈left/\gy (ss.getD x []) (.ask i j t1 P)=gy (ss.getD x []) P:=fun x H=>by
     obtain⟨q1,q2⟩:=Sy.mp H;refine⟨q1,?_⟩;have:¬(ss.getD x []).getD i 0=(ss.getD x []).getD j 0:=by simpa[at2] using q2
     simp only[gy];rw[if_neg this]
    have L:∀l,l≠[]->(∀x∈l,x∈left/\gy (ss.getD x []) (.ask i j t1 P)=gy (ss.getD x []) t1)->eN ps ss es a l=none->∃x∈left,gy (ss.getD x []) (.ask i j t1 P)∉es.getD x []:=fun l hl F hn=>by obtain⟨x,H,q⟩:=ih l hl hn t1 w1 ⋯;obtain⟨z1,z2⟩:=F x H;exact⟨x,z1,by rw[z2];exact q⟩
    have J:∀l,l≠[]->(∀x∈l,x∈left/\gy (ss.getD x []) (.ask i j t1 P)=gy (ss.getD x []) P)->eN ps ss es a l=none->∃x∈left,gy (ss.getD x []) (.ask i j t1 P)∉es.getD x []:=fun l hl F hn=>by obtain⟨x,H,q⟩:=ih l hl hn P w2 ⋯;obtain⟨z1,z2⟩:=F x H;exact⟨x,z1,by rw[z2];exact q⟩
    by_cases ha:Xg ss i j left=[]
    .refine J left S (fun x H=>⟨H,(lu x<|Sy.mpr ⟨H,?_⟩).2⟩) hm;have:=Tt.mp ha x H;simpa using this
    .by_cases hu:Xc ss i j left=[]
     .refine L left S (fun x H=>⟨H,(la x<|Sy.mpr ⟨H,?_⟩).2⟩) hm;have:=Tt.mp hu x H;simpa using this
     .rcases hq with z|z|z|z
      .exact absurd z ha
      .exact absurd z hu
      .exact L _ ha la z
      .exact J _ hu lu z
def kJ(pm:ŕ)(em:ř):Nat->Nat->Bool
 |0,m=>em.all fun e=>m &&& e !=m|a+1,m=>(em.all fun e=>m &&& e !=m)&&pm.all fun p=>m &&& p.1==0||(m &&& p.2==0||(kJ pm em a (m &&& p.2)||kJ pm em a (m &&& p.1)))
def Ms(left:ř)(m:Nat):Prop:=∀x,x∈left↔m.testBit x=true
theorem Ms.zero{left:ř}{m:Nat}(h:Ms left m):left=[]↔m=0:=by
 constructor
 .intro e;subst e;refine Nat.eq_of_testBit_eq fun i=>?_;have:=h i;simp at this;simp[this]
 .intro e;subst e;refine Ur.mpr fun x H=>?_;have:=(h x).mp H;simp at this
structure Mk (ps:ŕ) (ss:List Ő) (es:List (List Ŕ)) (pm:ŕ) (em:ř) (ends:List Ŕ):Prop where
 pl:pm.length=ps.length
 p1:∀(k:Nat) (p q:Nat×Nat),ps[k]?=some p->pm[k]?=some q->∀x,x<ss.length->(q.1.testBit x=decide (at2 ss x p.1=at2 ss x p.2))/\(q.2.testBit x=!decide (at2 ss x p.1=at2 ss x p.2))
 el:em.length=ends.length
 e1:∀(k:Nat) (e:Ŕ) (q:Nat),ends[k]?=some e->em[k]?=some q->∀x,x<ss.length->q.testBit x=decide (e∈es.getD x [])
 en:∀x,x<ss.length->∀e∈es.getD x [],e∈ends
theorem none_of(K:Mk ps ss es pm em ends):∀(a:Nat) (left:ř) (m:Nat),Ms left m->(∀x∈left,x<ss.length)->left≠[]->kJ pm em a m=true->eN ps ss es a left=none:=by
 have L:∀(left:ř) (m:Nat),Ms left m->(∀x∈left,x<ss.length)->left≠[]->(em.all fun e=>m &&& e !=m)=true->cE es left=none:=by
  intro left m P J h0 he;cases hc:cE es left with
  |none=>rfl|some y=>
   have hs:=Ew hc;obtain⟨x0,r,rfl⟩:=Uh h0;have hy:=K.en x0 (J x0 nofun) y (hs x0 nofun);obtain⟨k,hk⟩:=TL hy;have ö:k<em.length:=by rw[K.el];exact(Sn.mp hk).1
   have hq:=Sq ö;have:=S2.mp he em[k] (TC _);have e2:m &&& em[k]=m:=by
    refine Nat.eq_of_testBit_eq fun i=>?_;rw[VO];cases hb:m.testBit i with
    |false=>rfl|true=>
     have hi:=(P i).mpr hb;rw[K.e1 k y em[k] hk hq i (J i hi)];simpa using hs i hi
   rw[e2] at this;simp at this
 intro a;induction a with
 |zero=>
  intro left m P J h0 h;rw[eN,L left m P J h0 h];rfl
 |succ a ih=>
  intro left m P J h0 h;simp only[kJ,SG] at h;rw[eN,L left m P J h0 h.1];show ps.findSome? _=none;rw[List.findSome?_eq_none_iff];intro p hp;rw[yn];obtain⟨k,hk⟩:=TL hp;have ö:k<pm.length:=by rw[K.pl];exact(Sn.mp hk).1
  have hq:=Sq ö;have hall:=S2.mp h.2 pm[k] (TC _);have H:=K.p1 k p pm[k] hk hq;have ma:Ms (Xg ss p.1 p.2 left) (m &&& pm[k].1):=fun x=>by
   unfold Xg;rw[Sy,VO,SG];constructor
   .rintro⟨S,F⟩;exact⟨(P x).mp S,by rw[(H x<|J x S).1];exact F⟩
   .rintro⟨S,F⟩;have:=(P x).mpr S;exact⟨this,by rw[(H x<|J x this).1] at F;exact F⟩
  have mu:Ms (Xc ss p.1 p.2 left) (m &&& pm[k].2):=fun x=>by
   unfold Xc;rw[Sy,VO,SG];constructor
   .rintro⟨S,F⟩;exact⟨(P x).mp S,by rw[(H x<|J x S).2];exact F⟩
   .rintro⟨S,F⟩;have:=(P x).mpr S;exact⟨this,by rw[(H x<|J x this).2] at F;exact F⟩
  by_cases ha:Xg ss p.1 p.2 left=[]
  .exact .inl ha
  .by_cases hu:Xc ss p.1 p.2 left=[]
   .exact .inr (.inl hu)
   .simp only[Bool.or_eq_true,beq_iff_eq] at hall;rcases hall with z|z|z|z
    .exact absurd (ma.zero.mpr z) ha
    .exact absurd (mu.zero.mpr z) hu
    .exact .inr (.inr<|.inr<|ih _ _ mu (fun x hx=>J x (Sy.mp hx).1) hu z)
    .exact .inr (.inr<|.inl<|ih _ _ ma (fun x hx=>J x (Sy.mp hx).1) ha z)
end
end Law
namespace L3
open PySem L2
end L3
namespace L2
open PySem PySem.Spec PyProof.Rows
end L2
namespace L3
open PySem L2
end L3
namespace L2
open PySem PySem.Spec PyProof.Rows
section
open PySem.SeqAt
open PySem.AutoSeq1 (wpAny_loadPart')
open PySem.MeetsSeq PySem.MeetsSeq2 PySem.MeetsSeq3 PySem.SeqRoads2
end
end L2
namespace L3
open PySem PySem.Spec L2
end L3
namespace L2
open PySem PySem.Spec PyProof.Rows
section
variable {X:Cx}
theorem F3:Wh X (compareOp .IsNot) (fun x y H Q=>∃i j,x=.bl i/\y=.bl j/\Q (.bl<|!decide (i=j)) H):=by intro pins s J H x y v u Q I P L h;obtain⟨i,j,rfl,rfl,q⟩:=h;cases P;cases L;exact wpAny_isNot_plain rfl (xp I q (by cases i<;>cases j<;>rfl))
end
end L2
namespace L3
open PySem L2
section
variable {X:Cx} {K:Frag} {a b:Expr} {ea eb:EV} {pos:Pos}
def fIsB(x y:D)(O:M):Fr:=match x,y with
 | .bl i,.bl j=>some (.bl (decide (i=j)),O)|_,_=>none
def lB(x y:D)(O:M):Fr:=match x,y with
 | .bl i,.bl j=>some (.bl (!decide (i=j)),O)|_,_=>none
theorem Qu:W8 K (fun x y H Q=>∃i j,x=.bl i/\y=.bl j/\Q (.bl<|!decide (i=j)) H) lB:=by
 intro W x y d e z Z6 Q ok P L J q;unfold lB at J;split at J
 .cases J;cases P;cases L;exact⟨_,_,rfl,rfl,q _ W rfl ok .refl (.bl _)⟩
 .cases J
theorem uc(F:PE X a (tD K ea))(z:PE X b (tD K eb)):PT X (.Compare a [.IsNot] [b] pos) (WO K<|vT<|v2 lB ea eb):=lV F3 Qu F z (jX _)
def t6(f:D->M->Fr)(ev:EX):EX:=fun B O=>(ev B O).bind fun p=>match p.1 with
 | .ok d=>(f d p.2).bind fun q=>some (.ok q.1,q.2)| .ex C=>some (.ex C,p.2)
variable {E:St->XK} {ex:EX} {p:Pos}
theorem J7(ra:K' K r f):∀J H Q,tX K E (t6 f ex) J H Q->(fun J H Q=>tX K E ex J H fun x H1=>r x H1 Q:TE) J H Q:=fun J H Q h=>by
 refine Wf h fun W B rr Z6 eH ok en e q=>?_;subst eH;obtain⟨⟨p1,p2⟩,e1,e⟩:=Wc e;refine(⟨W,B,p1,p2,rfl,ok,en,e1,fun F z L s1=>?_⟩);cases p1 with
 |ex C=>cases e;exact q F z L s1
 |ok d=>
  intro v rv;obtain⟨⟨d2,Z4⟩,e2,e⟩:=Wc e;cases e;exact ra F v _ _ _ Q L rv (by rw[z];exact e2) fun v W3 ZS P S r3=>q W3 ZS P (s1.trans S) v r3
theorem Ig(S:X.mg "all"=none) (ha:PE X a (tX K E ex)) (hc:X.calm=true:=by rfl) (hg:Gl X "all":=by rfl) (F:WX X a:=by rfl) (hK:X.K=K:=by rfl):PE X (.Call (.Name "all" p) [a] [] pos) (tX K E<|t6 ij ex):=eK (Ay K S ha hc hg F hK) (J7 (by intro W x d z Z6 Q ok J H q;refine dF H fun ds h1 H=>?_;refine dF H fun ns P H=>?_;cases H;obtain⟨a,vs,rfl,F,L⟩:=i5 ok h1 J;have:=t8 P L;subst this;exact⟨a,ns,rfl,F,q _ W rfl ok .refl (.bl _)⟩))
end
end L3
namespace L2
open PySem PySem.Spec PyProof.Rows HT
section
variable {prog:Program} {w:World} {A:Around} {E:QS} {s:Shared}
theorem LQ(z:s.heap.IsSliceOf sl .none .none (.int (-1) tk))
  (h:Q ((1:Int),-1,2) s):wpAny (model prog w) A (Builtin.Slice.sliceApplied (.ref sl)<|pure ((2:Nat):Int)) Q E s:=by
 obtain⟨os,H,L,J⟩:=id z;unfold Builtin.Slice.sliceApplied Builtin.Slice.sliceFields;refine Sj (Sj<|Us H J (x:=.none) rfl (Sj<|Us H J (x:=.none) rfl (Sj<|Us H J (x:=.int (-1) tk) rfl (Sk ?_))));refine Sj (qr (.int (-1) tk) ?_);show wpAny _ _ (if((-1:Int)==0)=true then _ else _) _ _ s;rw[if_neg (by decide)];refine Sj (qr .none<|Sj<|qr .none<|Sj<|Sk ?_);exact Sk h
theorem FP{t sl:Addr}{a b:Value}{tk:Tok}{Q:QS}(z:IsTup s.heap t #[a,b])(F:s.heap.IsSliceOf sl .none .none (.int (-1) tk))
  (h:Q (.ref s.heap.objs.size) {s with heap:=s.heap.push {cls:=.type "tuple",data:=.seq #[b,a]}}):wpAny (model prog w) A (getItem (.ref t)<|.ref sl) Q E s:=by
 have H:sizeOk (.seq #[b,a]):=by show 2<=sizeLine;decide
 obtain⟨os,J,L,S⟩:=id F;have P:s.TypeIs (.ref sl) "slice":=⟨os,J,L⟩
 unfold getItem;try with_reducible refine TY ?_
 first|refine Sj (Sk ?_)|skip
 refine Sj (wpAny_sequenceKey z.typeIs (by decide) ?_);refine Sj (UW (name:=Str.ofString "__getitem__") z.typeIs TB
  (Up TB z.typeIs entry_tuple_getitem ?_<|args_tuple_getitem _ _))
 show wpAny _ _ (Builtin.Tuple.tupleItemsOf (.ref t) >>= _) _ _ s;refine Sj (tupleItemsOf_ z ?_);refine Sj (wpAny_typeOf P ?_);rw[if_pos (by decide)];refine Sj (LQ F ?_);show wpAny _ _ (if((1:Int)==0&&(-1:Int)==1&&2==2)=true then _ else _) _ _ s;rw[if_neg (by decide)];first
  |exact Sj (m:=Builtin.Tuple.tupleExact _) (Tc (Sk ⟨_,rfl,Sk h⟩) H)
  |exact Sj (m:=Builtin.Tuple.tupleExact _) (Tc (Sj<|Sk<|Sk ⟨_,rfl,Sk h⟩) H)
  |exact Sj (Sj (m:=Builtin.Tuple.tupleExact _)<|Tc (Sk<|Sk ⟨_,rfl,Sk h⟩) H)
  |exact Sj (Sj (m:=Builtin.Tuple.tupleExact _)<|Tc (Sk ⟨_,rfl,Sk h⟩) H)
end
section
variable {X:Cx}
theorem QA{e:Expr}{te:TE}{pos p2 p3 p4:Pos}{j:Nat}(he:PE X e te):
  PE X (.Subscript e (.Slice none none (some<|.UnaryOp .USub (.Constant (.int 1) j p4) p3) p2) pos) (fun J H Q=>te J H fun x H1=>∃(a:Addr) (y z:V),x=.ref a/\Wx X.K H1 a [y,z]/\∀p,H1 p=none->Q (.ref p) (upd H1 p<|.tup [z,y])):=by
 intro pins s J H Q I h;refine Subscript_ (V0 (he pins s J H _ I h) fun v s1 L=>?_);obtain⟨x,H1,I1,r1,q1⟩:=L;obtain⟨a,S,z0,rfl,hx,q⟩:=q1;cases r1;refine(wpAny_Slice ?_);rw[VV];refine Sk (Sk ?_);rw[evalPart_some];refine V0 (zX Ag AA pins s1 J H1 (fun y F=>y=.int (-1)/\F=H1) I1 ⟨1,rfl,rfl,rfl⟩) fun u s2 L=>?_;obtain⟨y,F,I2,ry,ey,eH⟩:=L;subst ey eH;obtain⟨t,rfl⟩:=ry;have P:Inv X pins J F {s2 with heap:=s2.heap.push {cls:=.type "slice",data:=.fields #[.none,.none,.int (-1) t]}}:=I2.kept (t':=s2.toks) fun b ob q=>Sl _ q;obtain⟨its,rv,pl,hz⟩:=P.tuple hx;obtain⟨u1,u2,rfl,w1,w2⟩:=Vals.two rv;refine(tail_any (ops:=[.ref a,.ref s2.heap.objs.size]) pl.typeIs TB.lookup ?_<|by with_unfolding_all rfl);refine FP pl (Heap.IsSliceOf.new ..) ?_;refine⟨.ref _,_,P.laid (t':=s2.toks) (o:=.tup [z0,S]) (fun b ob q=>Sl _ q) (Sm _) ?_,rfl,q _<|P.hok.fresh<|Sm _⟩;exact⟨(by show 2<=sizeLine;decide),_,.cons w2 (.cons w1 .nil),IsTup.new _ _⟩
end
end L2
namespace L3
open PySem L2
section
variable {X:Cx} {K:Frag} {a:Expr} {ea:EV} {pos:Pos}
def qD(x:D)(O:M):Fr:=match iz x with
 |some [y,z]=>some (.tup [z,y],O)|_=>none
theorem MG(he:PE X a (tD K ea))(hK:X.K=K:=by rfl):PE X (.Subscript a (.Slice none none (some<|.UnaryOp .USub (.Constant (.int 1) j p4) p3) p2) pos) (tD K<|v1 qD ea):=by
 subst hK;exact eK (QA he) (jJ (by
  intro W x d z Z6 Q ok F H q;unfold qD at H;split at H
  .rename_i y0 z0 hd;cases H;obtain⟨a,vs,rfl,hs,S⟩:=jM hd F;cases S with
   |cons h1 P=>
    cases P with
    |cons h2 L=>
     cases L;refine⟨a,_,_,rfl,hs,fun p J=>q _ (W.lay p<|.tup _) rfl (gC ok J) (fM J) (kl ok J<|.cons h2<|.cons h1 .nil)⟩
  .cases H))
end
end L3
namespace Law
open PySem L2 L3 PyProof.Rows
def QH(h:∀j,j<i->v j=z j):firstMet v i=firstMet z i:=by unfold firstMet;have:(List.range i).map v=(List.range i).map z:=T3 fun j H=>h j (S6.mp H);rw[this]
def R5(s:Ő)(x:Int):kO (s++[x])=if x∈s then kO s else kO s+1:=by
 unfold kO;rw[S9,Vb,firstMet_succ,step_length];have e:firstMet (fun i=>(s++[x]).getD i 0) s.length=firstMet (fun i=>s.getD i 0) s.length:=QH fun j H=>by simp[So,SM H]
 have ex:(s++[x]).getD s.length 0=x:=by simp[So]
 rw[e,ex,firstMet_any];have em:((List.range s.length).map fun i=>s.getD i 0)=s:=by
  apply List.ext_getElem
  .simp
  .intro i h1 J;simp[So,Sq J]
 rw[em];have eb:s.any (·==x)=decide (x∈s):=by rw[Tj];simp[S7]
 rw[eb];by_cases h:x∈s<;>simp[h]
def Sx:Nat->Nat->List (List Int×Nat)
 |0,_=>[([],0)]|n+1,m=>(Sx n m).flatMap fun p=>(List.range<|min (p.2+1) m).map fun(i:Nat)=>(p.1++[(i:Int)],max p.2<|i+1)
structure Gd (n m:Nat) (p:List Int×Nat):Prop where
 len:p.1.length=n
 mem:∀x:Int,x∈p.1↔0<=x/\x<p.2
 dist:kO p.1=p.2
 le:p.2<=m
 len2:p.2<=n
 rise:∀(k:Nat) (x:Int),p.1[k]?=some x->0<=x/\x<=kO (p.1.take k)
theorem nQ(m:Nat):∀(n:Nat) (p:List Int×Nat),p∈Sx n m->Gd n m p
 |0,p,h=>by simp[Sx] at h;subst h;exact⟨rfl,fun x=>by simp,rfl,Ta _,Sm _,fun k x e=>by simp at e⟩
 |n+1,p,h=>by
  simp only[Sx,TQ,SU,S6] at h;obtain⟨q,L,i,hi,rfl⟩:=h;have g:=nQ m n q L;have S:i<m:=by omega
  have F:i<=q.2:=by omega
  refine(⟨by simp[g.len],fun x=>?_,?_,?_,?_,?_⟩)
  .simp only[S8,To,g.mem];omega
  .show kO (q.1++[(i:Int)])=max q.2 (i+1);rw[R5,g.dist];by_cases H:(i:Int)∈q.1
   .rw[if_pos H];have:=(g.mem _).mp H;omega
   .rw[if_neg H];have:¬(i:Int)<q.2:=fun z=>H ((g.mem _).mpr ⟨by omega,z⟩);omega
  .have:=g.le;show max q.2 (i+1)<=m;omega
  .have:=g.len2;show max q.2 (i+1)<=n+1;omega
  .intro k x e;have e:(q.1++[(i:Int)])[k]?=some x:=e;show 0<=x/\x<=kO ((q.1++[(i:Int)]).take k);by_cases P:k<q.1.length
   .rw[SM P] at e;rw[List.take_append_of_le_length ⋯];exact g.rise k x e
   .rw[Tb ⋯] at e;have J:k=q.1.length:=by
     have:=(Sn.mp e).1;simp at this;omega
    subst J;simp at e;subst e;rw[List.take_append_of_le_length ⋯,VG,g.dist];omega
def Gd.used(g:Gd n m p):(ox p.1).getD (-1)+1=(p.2:Int):=by
 cases H:ox p.1 with
 |none=>
  have:p.1=[]:=by cases h:p.1 with
   |nil=>rfl|cons a r=>rw[h] at H;cases H
  have h0:p.2=0:=by
   rcases Nat.eq_zero_or_pos p.2 with z|z
   .exact z
   .have:=(g.mem 0).mpr ⟨by omega,by omega⟩;rw[‹p.1=[]›] at this;cases this
  simp[h0]
 |some M=>
  have J:=xl H;have h1:=(g.mem M).mp J.1;have L:=J.2 ((p.2:Int) - 1) ((g.mem _).mpr ⟨by omega,by omega⟩);simp only[VF];omega
def Po(n:Nat)(h:8<=m):n<=7->Sx n m=Sx n 8:=by
 induction n with
 |zero=>intro _;rfl|succ n H=>
  intro L;rw[Sx,Sx,H ⋯];rw[List.flatMap_def,List.flatMap_def];congr 1;apply T3;intro p J;have:=(nQ 8 n p J).len2;have e:min (p.2+1) m=min (p.2+1) 8:=by omega
  rw[e]
def BG:∀n<8,∀m<9,(Sx n m).length<=877:=by decide +kernel
def qi(z:n<=7)(m:Nat):(Sx n m).length<=877:=by
 by_cases h:m<9
 .exact BG n ⋯ m h
 .rw[Po n ⋯ z];exact BG n ⋯ 8 ⋯
def fX(s:Ő)(as:ś):Bool:=as.all fun a=>decide (s.getD a.1 0=s.getD a.2.1 0)==a.2.2
def Ϣ(n:Nat)(as:ś):Prop:=∀a∈as,a.1<n/\a.2.1<n
theorem Dy{α:Type}(f:Nat->α)(m:Nat):∀n,n<=m->∃p∈Sx n m,∀x y,x<n->y<n->(p.1.getD x 0=p.1.getD y 0↔f x=f y)
 |0,_=>⟨([],0),by simp[Sx],fun x y h=>by omega⟩|n+1,hn=>by
  obtain⟨p,S,hf⟩:=Dy f m n ⋯;have g:=nQ m n p S;have hg:=g.len2;have J:∀x,x<n->p.1.getD x 0∈p.1:=fun x H=>by rw[So,Sq (by rw[g.len];exact H)];exact TC _
  obtain⟨i,hi,F⟩:∃i:Nat,i<min (p.2+1) m/\∀x,x<n->(p.1.getD x 0=(i:Int)↔f x=f n):=by
   by_cases h:∃x,x<n/\f x=f n
   .obtain⟨P,z,e0⟩:=h;have h1:=(g.mem _).mp (J P z);refine⟨(p.1.getD P 0).toNat,by have:=g.le;omega,fun x H=>?_⟩;have e:((p.1.getD P 0).toNat:Int)=p.1.getD P 0:=by omega
    rw[e,←e0];exact hf x P H z
   .refine⟨p.2,by omega,fun x H=>⟨fun e=>?_,fun e=>absurd ⟨x,H,e⟩ h⟩⟩;have h1:=(g.mem _).mp (J x H);omega
  refine⟨(p.1++[(i:Int)],max p.2<|i+1),?_,?_⟩
  .simp only[Sx,TQ,SU,S6];exact⟨p,S,i,hi,rfl⟩
  .have old:∀x,x<n->(p.1++[(i:Int)]).getD x 0=p.1.getD x 0:=fun x H=>by
    simp[So,SM (show x<p.1.length by rw[g.len];exact H)]
   have new:(p.1++[(i:Int)]).getD n 0=(i:Int):=by have:n=p.1.length:=g.len.symm;simp[So,this]
   intro x y H L;show(p.1++[(i:Int)]).getD x 0=(p.1++[(i:Int)]).getD y 0↔_;rcases Nat.lt_succ_iff_lt_or_eq.mp H with H|rfl<;>rcases Nat.lt_succ_iff_lt_or_eq.mp L with L|rfl
   .rw[old x H,old y L];exact hf x y H L
   .rw[old x H,new];exact F x H
   .rw[old y L,new];have:=F y L;constructor
    .intro e;exact(this.mp e.symm).symm
    .intro e;exact(this.mpr e.symm).symm
   .simp
def IU(F:Ϣ n as)(h:fj as=true):∃p∈Sx n n,fX p.1 as=true:=by
 obtain⟨p,P,hf⟩:=Dy (fun x=>WG as x) n n (Sm _);have eqv:∀x y,WG as x=WG as y↔WG as x y:=fun x y=>
  ⟨fun e=>by rw[e];exact .refl y,fun c=>funext fun z=>propext ⟨fun d=>c.symm.trans d,fun d=>c.trans d⟩⟩
 refine⟨p,P,?_⟩;unfold fX;rw[S2];intro a J;obtain⟨h1,S⟩:=F a J;have e:=(hf a.1 a.2.1 h1 S).trans (eqv _ _);have ok:=wL as;cases L:a.2.2 with
 |true=>
  have hm:(a.1,a.2.1,true)∈as:=by
   have e0:(a.1,a.2.1,true)=a:=by rw[←L]
   rw[e0];exact J
  have:WG as a.1 a.2.1:=WG.one (Wl.mpr<|.inl hm);rw[SK (e.mpr this)];rfl
 |false=>
  have H:=S2.mp h a J;rw[L] at H;simp at H;have:¬WG as a.1 a.2.1:=fun c=>H (ok.conn c);rw[Sw (mt e.mp this)];rfl
def R6(h:fX s as=true):fj as=true:=by
 have H:=S2.mp h;have con:∀x y,WG as x y->s.getD x 0=s.getD y 0:=by
  intro x y c;induction c with
  |refl=>rfl|step _ e L=>
   rw[L];rcases Wl.mp e with z|z
   .have:=H _ z;simpa using this
   .have:=H _ z;simp at this;exact this.symm
 unfold fj;rw[S2];intro a J;have ok:=wL as;cases P:a.2.2 with
 |true=>simp|false=>
  have h1:=H a J;rw[P] at h1;simp only[Bool.false_or,Bool.not_eq_true',decide_eq_false_iff_not];intro e;have c:=(ok.iff (ok.named a J).1).mp e;rw[con _ _ c] at h1;simp at h1
def fe(n:Nat)(as:ś):List Ő:=((Sx n n).map (·.1)).filter fun s=>fX s as
def pH(z:Ϣ n as):fe n as=[]↔fj as=false:=by
 constructor
 .intro h;cases J:fj as with
  |false=>rfl|true=>
   obtain⟨p,H,hf⟩:=IU z J;have:p.1∈fe n as:=Sy.mpr ⟨List.mem_map_of_mem H,hf⟩;rw[h] at this;cases this
 .intro h;unfold fe;rw[Tt];intro s L hf;rw[R6 hf] at h;cases h
def im(gs:List (Int×Ő))(k:Int)(t:Int):List (Int×Ő):=
 if(gs.any fun g=>decide (g.1=k))=true then gs.map fun g=>if g.1=k then(g.1,g.2++[t]) else g else gs++[(k,[t])]
def kR:Nat->Ő->List (Int×Ő)->List (Int×Ő)
 |_,[],gs=>gs|i,k::r,gs=>kR (i+1) r (im gs k (i:Int))
def Ξ(s:Ő):List (Int×Ő):=kR 0 s []
end Law
namespace Law
open PySem L2 L3
inductive Tz where
 |no|one (i:Int)|ask (i j:Int) (a b:Tz)
def kd(s:Ő)(i:Int):Int:=s.getD i.toNat 0
def led(s:Ő):Tz->Ŕ
 | .no=>none| .one i=>some i| .ask i j a b=>if kd s i=kd s j then led s a else led s b
def WU:Tz->Nat
 | .ask _ _ a b=>max (WU a) (WU b)+1|_=>0
def inr(n:Nat)(i:Int):Prop:=0<=i/\i<(n:Int)
def XD(n:Nat):Tz->Prop
 | .no=>True| .one i=>inr n i| .ask i j a b=>(i≠j/\inr n i/\inr n j)/\XD n a/\XD n b
def Mj(s:Ő)(k:Int):Prop:=s.length<2*s.count k
theorem BE:∀(l:Ő) {a b:Int},a≠b->l.count a+l.count b<=l.length
 | [],_,_,_=>by simp|x::l,a,b,h=>by
  have J:=BE l h;simp only[List.count_cons,SO];by_cases H:x=a
  .subst H;have:(x==b)=false:=by simp[h]
   simp[this];omega
  .have:(x==a)=false:=by simp[H]
   have L:(if(x==b)=true then 1 else 0)<=1:=by split<;>omega
   simp only[this,SN,if_false];omega
def Mj.eq(h1:Mj s a)(z:Mj s b):a=b:=Tp fun h=>by have:=BE s h;unfold Mj at h1 z;omega
def Mj.mem(h:Mj s a):a∈s:=by unfold Mj at h;exact List.count_pos_iff.mp ⋯
def lh(s:Ő):Ő:=match s.find? fun k=>decide ((s.length:Int)<2*(s.count k:Int)) with
 |some k=>((List.range s.length).filter fun t=>decide (s.getD t 0=k)).map fun t:Nat=>(t:Int)|none=>[]
def Xu:x∈lh s↔inr s.length x/\Mj s (kd s x):=by
 unfold lh;split
 .rename_i k H;have hm:Mj s k:=by
   have:=UQ H;simp only[SJ] at this;unfold Mj;omega
  simp only[SU,Sy,S6,SJ];constructor
  .rintro⟨t,⟨h1,L⟩,rfl⟩;refine⟨⟨by omega,by omega⟩,?_⟩;unfold kd;rw[Uw,L];exact hm
  .rintro⟨⟨h1,L⟩,J⟩;exact⟨x.toNat,⟨by omega,J.eq hm⟩,by omega⟩
 .rename_i H;rw[TV] at H;constructor
  .intro h;cases h
  .rintro⟨_,J⟩;have:=H _ J.mem;simp only[SJ] at this;unfold Mj at J;omega
def Yx:lh s=[]↔∀k,¬Mj s k:=by
 constructor
 .intro h k H;obtain⟨t,L,e⟩:=List.mem_iff_getElem.mp H.mem;have:((t:Nat):Int)∈lh s:=Xu.mpr ⟨⟨by omega,by omega⟩,by unfold kd;rw[Uw,So,Sq L];simpa[e] using H⟩;rw[h] at this;cases this
 .intro h;refine Ur.mpr fun x J=>h _ (Xu.mp J).2
def lE(s:Ő):List Ŕ:=if lh s=[] then [none] else(lh s).map some
def mH:none∈lE s↔∀k,¬Mj s k:=by
 rw[←Yx];unfold lE;split
 .rename_i h;simp[h]
 .rename_i h;simp[h]
def l3:some x∈lE s↔x∈lh s:=by
 unfold lE;split
 .rename_i h;simp[h]
 .simp
def lk(tk:Int):Ő->Nat->Tz
 | [],h=>if h=0 then .no else .one tk| [x],h=>if x=tk then .one tk else .ask tk x (.one tk) (if h=0 then .no else lk tk [] (h - 1))|x::y::r,h=>if x=tk then lk tk r h else .ask tk x (lk tk r h) (if h=0 then .no else lk tk (y::r) (h - 1))
def hd0(l:Ő):Int:=l.headD 0
def eqB(s:Ő)(i j:Nat):Bool:=decide (s.getD i 0=s.getD j 0)
def YK(left:List Ő)(p:Nat×Nat):Bool:=(left.any fun s=>eqB s p.1 p.2)&&left.any fun s=>!eqB s p.1 p.2
def kK(n:Nat):ŕ:=(List.range n).flatMap fun i=>(List.range i).map fun j=>(i,j)
def Wk(n:Nat)(left:List Ő):ŕ:=(kK n).filter (YK left)
def Xw:p∈kK n↔p.1<n/\p.2<p.1:=by
 unfold kK;simp only[TQ,S6,SU];constructor
 .rintro⟨i,hi,j,H,rfl⟩;exact⟨hi,H⟩
 .rintro⟨h1,J⟩;exact⟨p.1,h1,p.2,J,rfl⟩
def Do{left:List Ő}{q:Ő->Bool}{p:Nat×Nat}(h:YK (left.filter q) p=true):YK left p=true:=by unfold YK at h⊢;rw[SG,S7,S7] at h⊢;obtain⟨⟨s,J,e⟩,u,H,e2⟩:=h;exact⟨⟨s,(Sy.mp J).1,e⟩,u,(Sy.mp H).1,e2⟩
theorem xQ{α:Type}{p q:α->Bool}:∀(l:List α) (a:α),(∀x,p x=true->q x=true)->a∈l->q a=true->p a=false->(l.filter p).length<(l.filter q).length
 |x::l,a,h,J,P,z=>by
  have mono:(l.filter p).length<=(l.filter q).length:=by rw[←Ua,←Ua];exact List.countP_mono_left fun x _=>h x
  rcases SI.mp J with rfl|J
  .rw[T9 P,U0 (by simp[z])];simp only[SO];omega
  .have F:=xQ l a h J P z;cases H:p x with
   |true=>rw[T9 H,T9 (h x H)];simp only[SO];omega|false=>
    rw[U0 (by simp[H])];cases L:q x with
    |true=>rw[T9 L];simp only[SO];omega|false=>rw[U0 (by simp[L])];exact F
def D3{n:Nat}{left:List Ő}{p:Nat×Nat}(h:p∈Wk n left):(Wk n<|left.filter fun s=>eqB s p.1 p.2).length<(Wk n left).length:=by
 obtain⟨h1,J⟩:=Sy.mp h;refine xQ (kK n) p (fun x=>Do) h1 J ?_;unfold YK;have:((left.filter fun s=>eqB s p.1 p.2).any fun s=>!eqB s p.1 p.2)=false:=by rw[U2];intro s H;simp[(Sy.mp H).2]
 rw[this,Bool.and_false]
def Al{n:Nat}{left:List Ő}{p:Nat×Nat}(h:p∈Wk n left):(Wk n<|left.filter fun s=>!eqB s p.1 p.2).length<(Wk n left).length:=by
 obtain⟨h1,J⟩:=Sy.mp h;refine xQ (kK n) p (fun x=>Do) h1 J ?_;unfold YK;have:((left.filter fun s=>!eqB s p.1 p.2).any fun s=>eqB s p.1 p.2)=false:=by rw[U2];intro s H;have:=(Sy.mp H).2;simpa using this
 rw[this,VP]
def JS{n:Nat}{left:List Ő}{p:Nat×Nat}(h:p∈Wk n left):(left.filter fun s=>eqB s p.1 p.2)≠[]/\(left.filter fun s=>!eqB s p.1 p.2)≠[]:=by have H:=(Sy.mp h).2;unfold YK at H;rw[SG,S7,S7] at H;obtain⟨⟨s,L,e⟩,u,J,e2⟩:=H;exact⟨List.ne_nil_of_mem (Sy.mpr ⟨L,e⟩),List.ne_nil_of_mem<|Sy.mpr ⟨J,e2⟩⟩
def Ax{s:Ő}{c:Int}:s.count c=(List.range s.length).countP fun u=>decide (s.getD u 0=c):=by
 have H:s=(List.range s.length).map fun t=>s.getD t 0:=by
  apply List.ext_getElem
  .simp
  .intro i h1 H;simp[So,h1]
 conv=>lhs;rw[H]
 rw[List.count_eq_countP,VN];apply List.countP_congr;intro t _;simp
def Mg(S:s.length=n)(F:u.length=n)(h:∀i j,i<n->j<n->(s.getD i 0=s.getD j 0↔u.getD i 0=u.getD j 0))(z:x∈lh s):x∈lh u:=by
 rw[Xu] at z⊢;obtain⟨⟨h1,L⟩,H⟩:=z;refine⟨⟨h1,by omega⟩,?_⟩;unfold Mj at H⊢;rw[Ax,S] at H;rw[Ax,F];have:((List.range n).countP fun v=>decide (s.getD v 0=kd s x))=(List.range n).countP fun v=>decide (u.getD v 0=kd u x):=by apply List.countP_congr;intro v J;simp only[SJ];exact h v x.toNat (S6.mp J) ⋯
 omega
def O9{n:Nat}{left:List Ő}(S:∀s∈left,s.length=n)(h0:Wk n left=[])(hn:left≠[]):(∃x,inr n x/\∀s∈left,x∈lh s)\/∀s∈left,lh s=[]:=by
 have pat:∀s∈left,∀u∈left,∀i j,i<n->j<n->s.getD i 0=s.getD j 0->u.getD i 0=u.getD j 0:=by
  have key:∀s∈left,∀u∈left,∀i j,i<n->j<i->(s.getD i 0=s.getD j 0->u.getD i 0=u.getD j 0):=by
   intro s P u H i j hi L h;refine Tp fun h2=>?_;have:(i,j)∈Wk n left:=by refine Sy.mpr ⟨Xw.mpr ⟨hi,L⟩,?_⟩;unfold YK;rw[SG,S7,S7];exact⟨⟨s,P,SK h⟩,u,H,by unfold eqB;rw[Sw h2];rfl⟩
   rw[h0] at this;cases this
  intro s P u H i j hi L h;rcases UA i j with z|z|z
  .exact(key s P u H j i L z h.symm).symm
  .rw[z]
  .exact key s P u H i j hi z h
 obtain⟨s0,r,rfl⟩:=Uh hn;have same:∀u∈s0::r,∀v∈s0::r,∀x,x∈lh u->x∈lh v:=fun u H v F x J=>Mg (S u H) (S v F) (fun i j hi L=>⟨pat u H v F i j hi L,pat v F u H i j hi L⟩) J;cases e:lh s0 with
 |nil=>
  refine .inr fun u H=>Ur.mpr fun x J=>?_;have:=same u H s0 nofun x J;rw[e] at this;cases this
 |cons x q=>
  have J:x∈lh s0:=by rw[e];simp
  refine .inl ⟨x,?_,fun u H=>same s0 nofun u H x J⟩;have:=(Xu.mp J).1;rw[S s0 nofun] at this;exact this
structure DT (n:Nat) (left:List Ő) (t:Tz):Prop where
 nm:XD n t
 led:∀s∈left,led s t∈lE s
 dep:WU t<=(Wk n left).length
def DT.one{n:Nat}{left:List Ő}{x:Int}(z:inr n x)(h:∀s∈left,x∈lh s):DT n left (.one x):=⟨z,fun s H=>l3.mpr (h s H),Ta _⟩
def DT.no{n:Nat}{left:List Ő}(h:∀s∈left,lh s=[]):DT n left .no:=⟨trivial,fun s H=>mH.mpr (Yx.mp<|h s H),Ta _⟩
def DT.ask{n:Nat}{left:List Ő}{p:Nat×Nat}{a b:Tz}(F:p∈Wk n left)(ha:DT n (left.filter fun s=>eqB s p.1 p.2) a)(hb:DT n (left.filter fun s=>!eqB s p.1 p.2) b){i j:Int}(S:(i=(p.1:Int)/\j=(p.2:Int))\/(i=(p.2:Int)/\j=(p.1:Int))):DT n left (.ask i j a b):=by
 have hm:=Xw.mp (Sy.mp F).1;refine⟨⟨⟨by omega,⟨by omega,by omega⟩,⟨by omega,by omega⟩⟩,ha.nm,hb.nm⟩,fun s H=>?_,?_⟩
 .have J:(kd s i=kd s j)↔s.getD p.1 0=s.getD p.2 0:=by
   unfold kd;rcases S with⟨rfl,rfl⟩|⟨rfl,rfl⟩
   .simp
   .simp only[Uw];exact⟨fun z=>z.symm,fun z=>z.symm⟩
  simp only[Law.led];by_cases e:s.getD p.1 0=s.getD p.2 0
  .rw[if_pos (J.mpr e)];exact ha.led s (Sy.mpr ⟨H,SK e⟩)
  .rw[if_neg fun z=>e (J.mp z)];exact hb.led s (Sy.mpr ⟨H,by unfold eqB;rw[Sw e];rfl⟩)
 .have h1:=D3 F;have h2:=Al F;have P:=ha.dep;have L:=hb.dep;simp only[WU];omega
end Law
namespace L3
open PySem PySem.Spec L2
def Wp{α:Type}(r:Option (α×M))(Q:α->M->Prop):Prop:=∃a O,r=some (a,O)/\Q a O
def Ws(r:Option (Out×G×M))(Q:Out->G->M->Prop):Prop:=∃o B O,r=some (o,B,O)/\Q o B O
section
variable {α β:Type} {B:G} {O:M} {ea eb:EV} {ba bb:BV} {el:LV} {sa sb:SV} {i j n m:Nat} {d x y:D} {ds:List D} {b:Bool} {g:GV} {gs:Ye} {o:Option D} {iv:IV} {lo hi:OV}
theorem Wp.imp{r:Option (α×M)}{Q R:α->M->Prop}(h:Wp r Q)(f:∀a O,Q a O->R a O):Wp r R:=let ⟨a,O,e,q⟩:=h;⟨a,O,e,f a O q⟩
theorem Ws.imp{r:Option (Out×G×M)}{Q R:Out->G->M->Prop}(h:Ws r Q)(f:∀o B O,Q o B O->R o B O):Ws r R:=let ⟨a,B,O,e,q⟩:=h;⟨a,B,O,e,f a B O q⟩
theorem BJ{a:α}{Q:α->M->Prop}:Wp (some (a,O)) Q↔Q a O:=⟨fun⟨_,_,e,q⟩=>by cases e;exact q,fun q=>⟨_,_,rfl,q⟩⟩
theorem V3{out:Out}{Q:Out->G->M->Prop}:Ws (some (out,B,O)) Q↔Q out B O:=⟨fun⟨_,_,_,e,q⟩=>by cases e;exact q,fun q=>⟨_,_,_,rfl,q⟩⟩
theorem wp_bind{r:Option (α×M)}{f:α×M->Option (β×M)}{Q:β->M->Prop}:Wp (r.bind f) Q↔Wp r fun a O=>Wp (f (a,O)) Q:=by
 cases r with
 |none=>exact⟨fun⟨_,_,e,_⟩=>(by cases e),fun⟨_,_,e,_⟩=>(by cases e)⟩
 |some p=>exact⟨fun h=>⟨p.1,p.2,rfl,h⟩,fun⟨_,_,e,h⟩=>by cases e;exact h⟩
theorem V7{r:Option (α×M)}{f:α×M->Option (Out×G×M)}{Q:Out->G->M->Prop}:Ws (r.bind f) Q↔Wp r fun a O=>Ws (f (a,O)) Q:=by
 cases r with
 |none=>exact⟨fun⟨_,_,_,e,_⟩=>(by cases e),fun⟨_,_,e,_⟩=>(by cases e)⟩
 |some p=>exact⟨fun h=>⟨p.1,p.2,rfl,h⟩,fun⟨_,_,e,h⟩=>by cases e;exact h⟩
theorem XG{r:Option (Out×G×M)}{f:Out×G×M->Option (Out×G×M)}{Q:Out->G->M->Prop}:Ws (r.bind f) Q↔Ws r fun o B O=>Ws (f (o,B,O)) Q:=by
 cases r with
 |none=>exact⟨fun⟨_,_,_,e,_⟩=>(by cases e),fun⟨_,_,_,e,_⟩=>(by cases e)⟩
 |some p=>exact⟨fun h=>⟨p.1,p.2.1,p.2.2,rfl,h⟩,fun⟨_,_,_,e,h⟩=>by cases e;exact h⟩
theorem Yq{r:Option (Out×G×M)}{f:Out×G×M->Option (β×M)}{Q:β->M->Prop}:Wp (r.bind f) Q↔Ws r fun o B O=>Wp (f (o,B,O)) Q:=by
 cases r with
 |none=>exact⟨fun⟨_,_,e,_⟩=>(by cases e),fun⟨_,_,_,e,_⟩=>(by cases e)⟩
 |some p=>exact⟨fun h=>⟨p.1,p.2.1,p.2.2,rfl,h⟩,fun⟨_,_,_,e,h⟩=>by cases e;exact h⟩
theorem WR{r:Option α}{f:α->Option (β×M)}{Q:β->M->Prop}:Wp (r.bind f) Q↔∃a,r=some a/\Wp (f a) Q:=by
 cases r with
 |none=>exact⟨fun⟨_,_,e,_⟩=>(by cases e),fun⟨_,e,_⟩=>(by cases e)⟩
 |some p=>exact⟨fun h=>⟨p,rfl,h⟩,fun⟨_,e,h⟩=>by cases e;exact h⟩
theorem lI{r:Option (α×M)}{a:α}{Q:α->M->Prop}(e:r=some (a,O))(h:Q a O):Wp r Q:=⟨_,_,e,h⟩
variable {R:D->M->Prop} {RL:List D->M->Prop} {RB:Bool->M->Prop} {RG:G->M->Prop} {RI:List D×Ck->M->Prop} {RO:Ŕ->M->Prop} {Q:Out->G->M->Prop}
theorem xG:Wp (be 0 (some d::B) O) R↔R d O:=BJ
theorem yK:Wp (be (i+1) (o::B) O) R↔Wp (be i B O) R:=SE
theorem Hm(h:B[i]?=some (some d)):Wp (be i B O) R↔R d O:=by rw[yu h];exact BJ
theorem nv:Wp (vC d B O) R↔R d O:=BJ
def q1(f:D->M->Fr)(R:D->M->Prop):D->M->Prop:=fun x O=>Wp (f x O) R
theorem Ϗ:q1 f R x O↔Wp (f x O) R:=SE
theorem El:Wp (v1 f ea B O) R↔Wp (ea B O) (q1 f R):=wp_bind
def Δ(f:D->D->M->Fr)(x:D)(R:D->M->Prop):D->M->Prop:=fun y O=>Wp (f x y O) R
theorem kM:Δ f x R y O↔Wp (f x y O) R:=SE
def q2(f:D->D->M->Fr)(eb:EV)(B:G)(R:D->M->Prop):D->M->Prop:=fun x O=>Wp (eb B O) (Δ f x R)
theorem om:q2 f eb B R x O↔Wp (eb B O) (Δ f x R):=SE
theorem oY:Wp (v2 f ea eb B O) R↔Wp (ea B O) (q2 f eb B R):=wp_bind.trans ⟨fun h=>h.imp fun _ _ q=>wp_bind.mp q,fun h=>h.imp fun _ _ q=>wp_bind.mpr q⟩
def qL(f:C0)(R:D->M->Prop):List D->M->Prop:=fun ds O=>Wp (f ds O) R
theorem Ϩ:qL f R ds O↔Wp (f ds O) R:=SE
theorem vh:Wp (vL f el B O) R↔Wp (el B O) (qL f R):=wp_bind
theorem qB:Wp (dD B O) RL↔RL [] O:=BJ
def Ì(x:D)(RL:List D->M->Prop):List D->M->Prop:=fun ds O=>RL (x::ds) O
theorem wS:Ì x RL ds O↔RL (x::ds) O:=SE
def qc(el:LV)(B:G)(RL:List D->M->Prop):D->M->Prop:=fun x O=>Wp (el B O) (Ì x RL)
theorem Ë:qc el B RL x O↔Wp (el B O) (Ì x RL):=SE
theorem BR:Wp (dz ea el B O) RL↔Wp (ea B O) (qc el B RL):=wp_bind.trans ⟨fun h=>h.imp fun _ _ q=>(wp_bind.mp q).imp fun _ _ q=>(BJ (Q:=RL)).mp q,fun h=>h.imp fun _ _ q=>wp_bind.mpr<|q.imp fun _ _ q=>(BJ (Q:=RL)).mpr q⟩
def qT(RB:Bool->M->Prop):D->M->Prop:=fun d O=>∃b,d=.bl b/\RB b O
theorem Ϧ:qT RB (.bl b) O↔RB b O:=⟨fun⟨_,e,q⟩=>by cases e;exact q,fun q=>⟨_,rfl,q⟩⟩
theorem Â:Wp (vT ea B O) RB↔Wp (ea B O) (qT RB):=wp_bind.trans ⟨fun h=>h.imp fun d O q=>by
  obtain⟨b,Z6,e,q⟩:=q;cases d<;>cases e
  exact⟨_,rfl,q⟩,fun h=>h.imp fun d O q=>by obtain⟨b,rfl,q⟩:=q;exact BJ.mpr q⟩
def ϥ(RB:Bool->M->Prop):D->M->Prop:=fun d O=>∃b,YR O d=some b/\RB b O
theorem E8:ϥ RB (.bl b) O↔RB b O:=⟨fun⟨_,e,q⟩=>by cases e;exact q,fun q=>⟨_,rfl,q⟩⟩
theorem Jc:Wp (fC ea B O) RB↔Wp (ea B O) (ϥ RB):=wp_bind.trans ⟨fun h=>h.imp fun d O q=>by obtain⟨b,e,q⟩:=WR.mp q;exact⟨b,e,BJ.mp q⟩,fun h=>h.imp fun d O ⟨b,e,q⟩=>WR.mpr ⟨b,e,BJ.mpr q⟩⟩
def BT(RB:Bool->M->Prop):Bool->M->Prop:=fun b O=>RB (!b) O
theorem Nm:BT RB b O↔RB (!b) O:=SE
theorem P5:Wp (gO ba B O) RB↔Wp (ba B O) (BT RB):=wp_bind.trans ⟨fun h=>h.imp fun _ _ q=>(BJ (Q:=RB)).mp q,fun h=>h.imp fun _ _ q=>(BJ (Q:=RB)).mpr q⟩
def xi(bb:BV)(B:G)(RB:Bool->M->Prop):Bool->M->Prop:=fun b O=>if b=true then Wp (bb B O) RB else RB false O
theorem JO:xi bb B RB true O↔Wp (bb B O) RB:=SE
theorem QU:xi bb B RB false O↔RB false O:=SE
theorem HG:Wp (j4 ba bb B O) RB↔Wp (ba B O) (xi bb B RB):=wp_bind.trans ⟨fun h=>h.imp fun b _ q=>by cases b;exact(BJ (Q:=RB)).mp q;exact q,fun h=>h.imp fun b _ q=>by cases b;exact(BJ (Q:=RB)).mpr q;exact q⟩
def Ñ(bb:BV)(B:G)(RB:Bool->M->Prop):Bool->M->Prop:=fun b O=>if b=true then RB true O else Wp (bb B O) RB
theorem Af:Ñ bb B RB true O↔RB true O:=SE
theorem Ft:Ñ bb B RB false O↔Wp (bb B O) RB:=SE
theorem Cb:Wp (Yd ba bb B O) RB↔Wp (ba B O) (Ñ bb B RB):=wp_bind.trans ⟨fun h=>h.imp fun b _ q=>by cases b;exact q;exact(BJ (Q:=RB)).mp q,fun h=>h.imp fun b _ q=>by cases b;exact q;exact(BJ (Q:=RB)).mpr q⟩
theorem Q5:Wp (eC B O) RB↔RB true O:=BJ
def Ö(ea eb:EV)(B:G)(R:D->M->Prop):Bool->M->Prop:=fun b O=>if b=true then Wp (ea B O) R else Wp (eb B O) R
theorem RK:Ö ea eb B R true O↔Wp (ea B O) R:=SE
theorem Sc:Ö ea eb B R false O↔Wp (eb B O) R:=SE
theorem My:Wp (YJ ba ea eb B O) R↔Wp (ba B O) (Ö ea eb B R):=wp_bind.trans ⟨fun h=>h.imp fun b _ q=>by cases b<;>exact q,fun h=>h.imp fun b _ q=>by cases b<;>exact q⟩
def _R(eb:EV)(B:G)(d:D)(O:M):Fr:=match d with
 | .bl true=>eb B O| .bl false=>some (.bl false,O)|_=>none
def ģ(eb:EV)(B:G)(R:D->M->Prop):D->M->Prop:=fun d O=>Wp (_R eb B d O) R
theorem QQ:ģ eb B R (.bl true) O↔Wp (eb B O) R:=SE
theorem M5:Wp (k8 ea eb B O) R↔Wp (ea B O) (ģ eb B R):=wp_bind
def JG(eb:EV)(B:G)(d:D)(O:M):Fr:=match d with
 | .bl true=>some (.bl true,O)| .bl false=>eb B O|_=>none
def _D(eb:EV)(B:G)(R:D->M->Prop):D->M->Prop:=fun d O=>Wp (JG eb B d O) R
theorem Mv:_D eb B R (.bl false) O↔Wp (eb B O) R:=SE
def Ê(f:D->D->M->Fr)(eb:EV)(B:G)(R:D->M->Prop):D->M->Prop:=fun x O=>(∃l,fq O x=some l)/\Wp (eb B O) (Δ f x R)
theorem FK:Wp (il f ea eb B O) R↔Wp (ea B O) (Ê f eb B R):=wp_bind.trans ⟨fun h=>h.imp fun _ _ q=>by obtain⟨l,e,q⟩:=WR.mp q;exact⟨⟨l,e⟩,wp_bind.mp q⟩,fun h=>h.imp fun _ _ ⟨⟨l,e⟩,q⟩=>WR.mpr ⟨l,e,wp_bind.mpr q⟩⟩
theorem wN(h:O[k]?=some (some<|.lst ds)):Ê f eb B R (.ref k) O↔Wp (eb B O) (Δ f (.ref k) R):=⟨fun q=>q.2,fun q=>⟨⟨_,mO h⟩,q⟩⟩
theorem MP:Wp (lH B O) RO↔RO none O:=BJ
def Ġ(RO:Ŕ->M->Prop):D->M->Prop:=fun d O=>∃k,d=.int k/\RO (some k) O
theorem B1:Ġ RO (.int k) O↔RO (some k) O:=⟨fun⟨_,e,q⟩=>by cases e;exact q,fun q=>⟨_,rfl,q⟩⟩
theorem Eg:Wp (iS ea B O) RO↔Wp (ea B O) (Ġ RO):=wp_bind.trans ⟨fun h=>h.imp fun d O q=>by
  obtain⟨b,Z6,e,q⟩:=q;cases d<;>cases e
  exact⟨_,rfl,q⟩,fun h=>h.imp fun d O q=>by obtain⟨b,rfl,q⟩:=q;exact BJ.mpr q⟩
def È(x:D)(l:Ŕ)(R:D->M->Prop):Ŕ->M->Prop:=fun h O=>Wp (Yj x l h O) R
theorem za:È x l R h O↔Wp (Yj x l h O) R:=SE
def É(hi:OV)(B:G)(x:D)(R:D->M->Prop):Ŕ->M->Prop:=fun l O=>Wp (hi B O) (È x l R)
theorem DB:É hi B x R l O↔Wp (hi B O) (È x l R):=SE
def ğ(lo hi:OV)(B:G)(R:D->M->Prop):D->M->Prop:=fun x O=>Wp (lo B O) (É hi B x R)
theorem zt:ğ lo hi B R x O↔Wp (lo B O) (É hi B x R):=SE
theorem B6:Wp (i3 ea lo hi B O) R↔Wp (ea B O) (ğ lo hi B R):=wp_bind.trans ⟨fun h=>h.imp fun _ _ q=>(wp_bind.mp q).imp fun _ _ q=>wp_bind.mp q,fun h=>h.imp fun _ _ q=>wp_bind.mpr<|q.imp fun _ _ q=>wp_bind.mpr q⟩
theorem L7:Wp (dC i d B O) RG↔RG (B.set i<|some d) O:=BJ
theorem O0:Wp (fk [] B O) RG↔RG B O:=BJ
def ġ(gs:Ye)(ds:List D)(RG:G->M->Prop):G->M->Prop:=fun B O=>Wp (gs ds B O) RG
theorem JA:ġ gs ds RG B O↔Wp (gs ds B O) RG:=SE
theorem Ge:Wp (dY g gs (d::ds) B O) RG↔Wp (g d B O) (ġ gs ds RG):=wp_bind
theorem js(h:ds.length=n):Wp (fc n gs (.tup ds) B O) RG↔Wp (gs ds B O) RG:=by show Wp (if ds.length=n then gs ds B O else none) RG↔_;rw[if_pos h]
def ώ(sb:SV)(Q:Out->G->M->Prop):Out->G->M->Prop:=fun o B O=>match o with
 | .nx=>Ws (sb B O) Q|o=>Q o B O
theorem KS:ώ sb Q .nx B O↔Ws (sb B O) Q:=SE
theorem JP:ώ sb Q (.rt d) B O↔Q (.rt d) B O:=SE
theorem PH:ώ sb Q .bk B O↔Q .bk B O:=SE
theorem Lm:ώ sb Q .ct B O↔Q .ct B O:=SE
theorem qx:Ws (dH sa sb B O) Q↔Ws (sa B O) (ώ sb Q):=XG.trans ⟨fun h=>h.imp fun o _ _ q=>by cases o<;>first|exact q|exact(V3 (Q:=Q)).mp q,fun h=>h.imp fun o _ _ q=>by cases o<;>first|exact q|exact(V3 (Q:=Q)).mpr q⟩
theorem FM:Ws (WQ B O) Q↔Q .nx B O:=V3
def ĭ(B:G)(Q:Out->G->M->Prop):D->M->Prop:=fun _ O=>Q .nx B O
theorem LF:ĭ B Q d O↔Q .nx B O:=SE
theorem Od:Ws (g7 ea B O) Q↔Wp (ea B O) (ĭ B Q):=V7.trans ⟨fun h=>h.imp fun _ _ q=>V3.mp q,fun h=>h.imp fun _ _ q=>V3.mpr q⟩
def Ĥ(B:G)(Q:Out->G->M->Prop):D->M->Prop:=fun d O=>Q (.rt d) B O
theorem GW:Ĥ B Q d O↔Q (.rt d) B O:=SE
theorem vt:Ws (dU ea B O) Q↔Wp (ea B O) (Ĥ B Q):=V7.trans ⟨fun h=>h.imp fun _ _ q=>V3.mp q,fun h=>h.imp fun _ _ q=>V3.mpr q⟩
def Ï(sa sb:SV)(B:G)(Q:Out->G->M->Prop):Bool->M->Prop:=fun b O=>if b=true then Ws (sa B O) Q else Ws (sb B O) Q
theorem yG:Ï sa sb B Q true O↔Ws (sa B O) Q:=SE
theorem Jz:Ï sa sb B Q false O↔Ws (sb B O) Q:=SE
theorem z8:Ws (WY ba sa sb B O) Q↔Wp (ba B O) (Ï sa sb B Q):=V7.trans ⟨fun h=>h.imp fun b _ q=>by cases b<;>exact q,fun h=>h.imp fun b _ q=>by cases b<;>exact q⟩
def Ò(Q:Out->G->M->Prop):G->M->Prop:=fun B O=>Q .nx B O
theorem EU:Ò Q B O↔Q .nx B O:=SE
def Į(g:GV)(B:G)(Q:Out->G->M->Prop):D->M->Prop:=fun d O=>Wp (g d B O) (Ò Q)
theorem RT:Į g B Q d O↔Wp (g d B O) (Ò Q):=SE
theorem uD:Ws (dQ ea g B O) Q↔Wp (ea B O) (Į g B Q):=V7.trans ⟨fun h=>h.imp fun _ _ q=>(V7.mp q).imp fun _ _ q=>V3.mp q,fun h=>h.imp fun _ _ q=>V7.mpr<|q.imp fun _ _ q=>V3.mpr q⟩
def ī(g:GV)(sb:SV)(B:G)(Q:Out->G->M->Prop):List D×Ck->M->Prop:=fun s O=>Ws (ft s.2 g sb s.1 B O) Q
theorem JT:ī g sb B Q (ds,c) O↔Ws (ft c g sb ds B O) Q:=SE
theorem Fy:Ws (fW iv g sb B O) Q↔Wp (iv B O) (ī g sb B Q):=V7
def Ī(RI:List D×Ck->M->Prop):D->M->Prop:=fun d O=>∃s,Xj O d=some s/\RI s O
theorem FE:Wp (WH ea B O) RI↔Wp (ea B O) (Ī RI):=wp_bind.trans ⟨fun h=>h.imp fun d O q=>by obtain⟨b,e,q⟩:=WR.mp q;exact⟨b,e,BJ.mp q⟩,fun h=>h.imp fun d O ⟨b,e,q⟩=>WR.mpr ⟨b,e,BJ.mpr q⟩⟩
theorem OS:Ī RI (.lst ds) O↔RI (ds,none) O:=⟨fun⟨_,e,q⟩=>by cases e;exact q,fun q=>⟨_,rfl,q⟩⟩
def ĩ(RI:List D×Ck->M->Prop):D->M->Prop:=fun d O=>∃k,d=.int k/\Wp (X1 (vC<|.int k) [] O) RI
theorem Jn:Wp (X1 ea B O) RI↔Wp (ea B O) (ĩ RI):=by
 refine wp_bind.trans ⟨fun h=>h.imp fun d O q=>?_,fun h=>h.imp fun d O q=>?_⟩
 .obtain⟨b,Z6,e,q⟩:=q;cases d with
  |int k=>exact⟨_,rfl,_,_,e,q⟩|_=>cases e
 .obtain⟨b,rfl,q⟩:=q;exact q
theorem jD(I:List D->G->M->Prop)(ds:List D)(h0:I ds B O)
  (F:∀d r B O,I (d::r) B O->Wp (g d B O) fun ZY Z5=>Ws (sb ZY Z5) fun o z Z4=>match o with
   | .nx=>eL c Z4/\I r z Z4| .ct=>eL c Z4/\I r z Z4| .bk=>Q .nx z Z4| .rt d=>Q (.rt d) z Z4)
  (S:∀B O,I [] B O->Q .nx B O):Ws (ft c g sb ds B O) Q:=by
 induction ds generalizing B O with
 |nil=>exact V3.mpr (S _ _ h0)|cons d r H=>
  refine V7.mpr ((F d r B O h0).imp fun ZY Z5 h=>XG.mpr<|h.imp fun o z Z4 h=>?_);cases o with
  |nx=>show Ws (XU _ _) Q;rw[iw h.1];exact H h.2|ct=>show Ws (XU _ _) Q;rw[iw h.1];exact H h.2|bk=>exact V3.mpr h|rt d=>exact V3.mpr h
theorem E9(I:G->M->Prop)(f:G->M->Nat)(N:Nat)(h0:I B O)(S:f B O<N)
  (F:∀B O,I B O->Wp (c B O) fun b Z5=>if b=true then Ws (sb B Z5) fun o z Z4=>match o with
   | .nx=>I z Z4/\f z Z4<f B O| .ct=>I z Z4/\f z Z4<f B O| .bk=>Q .nx z Z4| .rt d=>Q (.rt d) z Z4 else Q .nx B Z5):Ws (jq c sb N B O) Q:=by
 induction N generalizing B O with
 |zero=>omega|succ N H=>
  refine V7.mpr ((F B O h0).imp fun b Z5 h=>?_);cases b with
  |false=>exact V3.mpr h|true=>
   refine XG.mpr (Ws.imp h fun o z Z4 h=>?_);cases o with
   |nx=>exact H (B:=z) (O:=Z4) h.1 (by have:=h.2;omega)|ct=>exact H (B:=z) (O:=Z4) h.1 (by have:=h.2;omega)|bk=>exact V3.mpr h|rt d=>exact V3.mpr h
def Ù(own:Ŗ)(cap:ő)(g:GV)(tc:BV)(te:EV)(B:G)(R:D->M->Prop):List D×Ck->M->Prop:=fun s O=>s.1.length<=1000000/\Wp (fo s.2 g tc te s.1 (ff own cap B) O) fun rs O=>R (.lst rs) O
theorem gz:Ù own cap g tc te B R (ds,c) O↔ds.length<=1000000/\Wp (fo c g tc te ds (ff own cap B) O) fun rs O=>R (.lst rs) O:=SE
theorem Ex:Wp (eW own cap iv g tc te B O) R↔Wp (iv B O) (Ù own cap g tc te B R):=by
 rw[yF];cases h:iv B O with
 |none=>exact⟨fun⟨_,_,e,_⟩=>(by cases e),fun⟨_,_,e,_⟩=>(by cases e)⟩
 |some p=>
  obtain⟨⟨H,c⟩,L⟩:=p;rw[BJ,xP,gz];by_cases J:H.length<=1000000
  .rw[if_pos J];cases e:fo c g tc te H (ff own cap B) L with
   |none=>exact⟨fun⟨_,_,e,_⟩=>(by cases e),fun⟨_,_,_,e,_⟩=>(by cases e)⟩
   |some q=>exact⟨fun⟨_,_,e,h⟩=>by cases e;exact⟨J,_,_,rfl,h⟩,fun⟨_,_,_,e,h⟩=>by cases e;exact⟨_,_,rfl,h⟩⟩
  .rw[if_neg J];exact⟨fun⟨_,_,e,_⟩=>(by cases e),fun h=>absurd h.1 J⟩
theorem Wb{c:Ck}{tc:BV}{te:EV}(I:List D->List D->G->M->Prop)(ds:List D){R:List D->M->Prop}(h0:I [] ds B O)
  (F:∀done d r B O,I done (d::r) B O->Wp (g d B O) fun ZY Z5=>Wp (tc ZY Z5) fun b Z4=>if b=true then Wp (te ZY Z4) fun x z=>eL c z/\I (done++[x]) r ZY z else eL c Z4/\I done r ZY Z4)
  (S:∀done B O,I done [] B O->R done O):Wp (fo c g tc te ds B O) R:=by
 suffices H:∀(ds done:List D) (B:G) (O:M),I done ds B O->Wp (fo c g tc te ds B O) fun rs O=>R (done++rs) O from(H ds [] B O h0).imp fun rs O h=>h
 intro ds;induction ds with
 |nil=>intro done B O h;exact BJ.mpr (by simpa using S _ _ _ h)|cons d r J=>
  intro done B O h;refine wp_bind.mpr ((F done d r B O h).imp fun ZY Z5 h=>wp_bind.mpr<|h.imp fun b Z4 h=>?_);cases b with
  |true=>
   refine wp_bind.mpr (Wp.imp h fun x z h=>?_);show Wp (XU _ _) _;rw[iw h.1];refine wp_bind.mpr ((J (done++[x]) ZY z h.2).imp fun rs L h=>BJ.mpr ?_);simpa using h
  |false=>
   show Wp (XU _ _) _;have h:eL c Z4/\I done r ZY Z4:=h;rw[iw h.1];exact J done ZY Z4 h.2
def wg(R:D->M->Prop):Out->G->M->Prop:=fun o _ O=>match o with
 | .rt d=>R d O| .nx=>R .non O|_=>False
theorem Li:wg R (.rt d) B O↔R d O:=SE
theorem Jl:wg R .nx B O↔R .non O:=SE
theorem fB(h:ds.length=m):Wp (eR n m sa ds O) R↔Ws (sa (ds.map some++List.replicate (n - ds.length) none) O) (wg R):=by
 unfold eR;rw[if_pos h];refine Yq.trans ⟨fun h=>h.imp fun o _ _ q=>?_,fun h=>h.imp fun o _ _ q=>?_⟩
 .cases o with
  |rt d=>exact(BJ (Q:=R)).mp q|nx=>exact(BJ (Q:=R)).mp q|bk=>obtain⟨_,_,e,_⟩:=q;cases e
  |ct=>obtain⟨_,_,e,_⟩:=q;cases e
 .cases o with
  |rt d=>exact(BJ (Q:=R)).mpr q|nx=>exact(BJ (Q:=R)).mpr q|bk=>exact absurd q id|ct=>exact absurd q id
theorem lQ{k:Nat}(h:k<=1000000000):ĩ RI (.int (k:Int)) O↔RI (eT 0 k,none) O:=by
 have e:X1 (vC<|.int (k:Int)) [] O=some ((eT 0 k,none),O):=by show(if -1000000000<=(k:Int)/\(k:Int)<=1000000000 then some ((eT 0 ((k:Int).toNat),(none:Ck)),O) else none)=_;rw[if_pos ⋯];rfl
 constructor
 .rintro⟨_,H,q⟩;cases H;rw[e] at q;exact BJ.mp q
 .intro q;exact⟨_,rfl,by rw[e];exact BJ.mpr q⟩
theorem CY{k m:Nat}(h:k<m):(eT 0 m).drop k=.int (k:Int)::(eT 0 m).drop (k+1):=by
 have H:(eT 0 m).length=m:=by simp[eT]
 rw[Tf ⋯];congr 1;simp[eT]
theorem tE(I:Nat->G->M->Prop){m:Nat}(h0:I 0 B O)
  (S:∀k B O,k<m->I k B O->Wp (g (.int (k:Int)) B O) fun ZY Z5=>Ws (sb ZY Z5) fun o F Z4=>match o with
   | .nx=>I (k+1) F Z4| .ct=>I (k+1) F Z4| .bk=>Q .nx F Z4| .rt d=>Q (.rt d) F Z4)
  (hq:∀B O,I m B O->Q .nx B O):Ws (ft none g sb (eT 0 m) B O) Q:=by
 have L:(eT 0 m).length=m:=by simp[eT]
 refine jD (fun r B O=>∃k,k<=m/\r=(eT 0 m).drop k/\I k B O) _ ⟨0,by omega,rfl,h0⟩ ?_ ?_
 .rintro d r B O ⟨k,J,e,h⟩;have H:k<m:=by
   rcases VY k m with z|z
   .exact z
   .rw[TH ⋯] at e;cases e
  rw[CY H] at e;cases e;refine(S k B O H h).imp fun ZY Z5 h=>h.imp fun o F Z4 h=>?_;cases o with
  |nx=>exact⟨trivial,k+1,H,rfl,h⟩|ct=>exact⟨trivial,k+1,H,rfl,h⟩|bk=>exact h|rt d=>exact h
 .rintro B O ⟨k,J,e,h⟩;have:k=m:=by
   rcases VY k m with z|z
   .rw[CY z] at e;cases e
   .omega
  subst this;exact hq _ _ h
theorem Nd{i j:Int}:e9 (.int i) (.int j) O=some (.int (i+j),O):=rfl
theorem J3{i j:Int}:ip (.int i) (.int j) O=some (.int (i - j),O):=rfl
theorem NW{i j:Int}:Yk (.int i) (.int j) O=some (.bl (decide (j<i)),O):=rfl
theorem OC{i j:Int}:Xe (.int i) (.int j) O=some (.bl (decide (i<j)),O):=rfl
theorem KF{i j:Int}:fGe (.int i) (.int j) O=some (.bl (decide (j<=i)),O):=rfl
theorem FI{i j:Int}:aa (.int i) (.int j) O=some (.bl (decide (i<=j)),O):=rfl
theorem xR{i j:Int}:WT (.int i) (.int j) O=some (.bl (decide (i=j)),O):=by unfold WT;rw[CH];rfl
theorem HW{i j:Int}:We (.int i) (.int j) O=some (.bl (!decide (i=j)),O):=by unfold We;rw[CH];rfl
theorem LB{i j:Int}(h:0<j):lO (.int i) (.int j) O=some (.int (i%j),O):=by exact if_pos (c:=jg i j) h
theorem R7{i j:Int}:mo (.int i) (.int j) O=some (.int (if j<i then j else i),O):=rfl
theorem EL{i j:Int}:sh (.int i) (.int j) O=some (.int (if j>i then j else i),O):=rfl
theorem En{i:Int}:jV (.int i) O=some (.int (-i),O):=rfl
theorem Qs{b:Bool}:zp (.bl b) O=some (.bl (!b),O):=rfl
theorem sm{b:Bool}:lj (.bl b) O=some (.int (if b=true then 1 else 0),O):=QE
theorem fv(h:ds.length<=1000):eS ds O=some (.tup ds,O):=if_pos h
theorem fF(h:ds.length<=1000):eQ ds O=some (.lst ds,O):=if_pos h
theorem xw(h:ds.length<=1000):io ds O=some (.ref O.length,O++[some (.lst ds)]):=if_pos h
end
section
variable {B:G} {O:M} {ea eo ei ev:EV} {el:LV} {k n:Nat} {d x y:D} {ds:List D} {o:Option D} {C:Addr} {f m:Str} {fs:List (Str×D)} {g:C0}
variable {R:D->M->Prop} {RI:List D×Ck->M->Prop} {Q:Out->G->M->Prop}
def Ĩ(RI:List D×Ck->M->Prop):D->M->Prop:=fun d O=>∃s,iz d=some s/\RI (s,none) O
theorem Jt:Wp (η ea B O) RI↔Wp (ea B O) (Ĩ RI):=wp_bind.trans ⟨fun h=>h.imp fun d O q=>by obtain⟨b,e,q⟩:=WR.mp q;exact⟨b,e,BJ.mp q⟩,fun h=>h.imp fun d O ⟨b,e,q⟩=>WR.mpr ⟨b,e,BJ.mpr q⟩⟩
theorem EC:Ĩ RI (.tup ds) O↔RI (ds,none) O:=⟨fun⟨_,e,q⟩=>by cases e;exact q,fun q=>⟨_,rfl,q⟩⟩
theorem tH(h:O[k]?=some (some<|.ins C fs))(hf:fs.lookup f=some d):gG C f (.ref k) O=some (d,O):=by unfold gG;simp only[h,if_true,hf];rfl
def Br(g:C0)(d:D)(R:D->M->Prop):List D->M->Prop:=fun ds O=>Wp (g (d::ds) O) R
theorem F5:Br g d R ds O↔Wp (g (d::ds) O) R:=SE
def Ô(C:Addr)(m:Str)(g:C0)(el:LV)(B:G)(R:D->M->Prop):D->M->Prop:=fun d O=>Wp (if Ζ O C m d=true then(el B O).bind fun q=>g (d::q.1) q.2 else none) R
theorem Mo:Wp (jT C m g eo el B O) R↔Wp (eo B O) (Ô C m g el B R):=wp_bind
theorem nL(h:O[k]?=some (some<|.ins C fs))(hf:fs.lookup m=none):Ô C m g el B R (.ref k) O↔Wp (el B O) (Br g (.ref k) R):=by
 have e:Ζ O C m (.ref k)=true:=by simp[Ζ,h,hf]
 unfold Ô;rw[if_pos e];exact wp_bind
def ħ(C:Addr)(g:C0)(R:D->M->Prop):List D->M->Prop:=fun ds O=>Wp (g (.ref O.length::ds)<|O++[some (.ins C [])]) fun d Z6=>d=.non/\R (.ref O.length) Z6
theorem EH:ħ C g R ds O↔Wp (g (.ref O.length::ds)<|O++[some (.ins C [])]) fun d Z6=>d=.non/\R (.ref O.length) Z6:=SE
theorem FW(h:Wp (el B O) (ħ C g R)):Wp (tf C g el B O) R:=wp_bind.mpr (h.imp fun ds O q=>wp_bind.mpr (q.imp fun d Z6 ⟨e,q⟩=>by subst e;exact BJ.mpr q))
def Ϫ(C:Addr)(f:Str)(x:D)(B:G)(Q:Out->G->M->Prop):D->M->Prop:=fun d O=>Ws (match d with
 | .ref k=>match O[k]? with
  |some (some<|.ins H fs)=>if H=C/\fs.length<1000 then some (.nx,B,O.set k<|some<|.ins C<|fZ f x fs) else none|_=>none
 |_=>none) Q
def Ĭ(C:Addr)(f:Str)(eo:EV)(B:G)(Q:Out->G->M->Prop):D->M->Prop:=fun x O=>Wp (eo B O) (Ϫ C f x B Q)
theorem Q3:Ĭ C f eo B Q x O↔Wp (eo B O) (Ϫ C f x B Q):=SE
theorem NE:Ws (mE C f eo ev B O) Q↔Wp (ev B O) (Ĭ C f eo B Q):=V7.trans ⟨fun h=>h.imp fun _ _ q=>V7.mp q,fun h=>h.imp fun _ _ q=>V7.mpr q⟩
theorem sf(h:O[k]?=some (some<|.ins C fs))(z:fs.length<1000):Ϫ C f x B Q (.ref k) O↔Q .nx B (O.set k<|some<|.ins C<|fZ f x fs):=by unfold Ϫ;simp only[h,z,and_self,if_true];exact V3
def ϧ(v o:D)(B:G)(Q:Out->G->M->Prop):D->M->Prop:=fun y O=>Ws ((kX y).bind fun k=>(kE O o).bind fun kvs=>match o with
 | .ref n=>if kvs.length<16000000 then some (.nx,B,O.set n<|some<|.dN<|iM kvs k v) else none|_=>none) Q
def Ó(ei:EV)(v:D)(B:G)(Q:Out->G->M->Prop):D->M->Prop:=fun o O=>Wp (ei B O) (ϧ v o B Q)
theorem Rl:Ó ei x B Q d O↔Wp (ei B O) (ϧ x d B Q):=SE
def Ħ(eo ei:EV)(B:G)(Q:Out->G->M->Prop):D->M->Prop:=fun v O=>Wp (eo B O) (Ó ei v B Q)
theorem Qd:Ħ eo ei B Q x O↔Wp (eo B O) (Ó ei x B Q):=SE
theorem Qa:Ws (yr eo ei ev B O) Q↔Wp (ev B O) (Ħ eo ei B Q):=V7.trans ⟨fun h=>h.imp fun _ _ q=>(V7.mp q).imp fun _ _ q=>V7.mp q,fun h=>h.imp fun _ _ q=>V7.mpr<|q.imp fun _ _ q=>V7.mpr q⟩
theorem wp(h:O[k]?=some (some<|.dN kvs)):kE O (.ref k)=some kvs:=by simp only[kE,h]
theorem yg:kX (.tup [.tup (ns.map D.int),.int i])=some (ns,i):=by
 have:optAll YX (ns.map D.int)=some ns:=by have:=jm (f:=YX) (g:=D.int) (h:=id) (l:=ns) (fun x _=>rfl);simpa using this
 simp only[kX,this];rfl
theorem GS(h:O[k]?=some (some<|.dN kvs))(z:kvs.length<16000000):ϧ x (.ref k) B Q (.tup [.tup (ns.map D.int),.int i]) O↔Q .nx B (O.set k<|some<|.dN<|iM kvs (ns,i) x):=by unfold ϧ;rw[yg,wp h];simp only[UJ,z,if_true];exact V3
theorem KP(h:O[k]?=some (some<|.dN kvs)):qb true (.tup [.tup (ns.map D.int),.int i]) (.ref k) O=some (.bl (!(fO kvs (ns,i)).isSome),O):=by unfold qb;rw[yg,wp h];simp
theorem u4(h:O[k]?=some (some<|.dN kvs))(z:fO kvs (ns,i)=some d):sD (.ref k) (.tup [.tup (ns.map D.int),.int i]) O=some (d,O):=by unfold sD;rw[yg,wp h];simp[z]
theorem IQ{kvs:List (NK×D)}{k:NK}{d:D}(h:fO kvs k=none):fO (iM kvs k d) k=some d/\(iM kvs k d)=kvs++[(k,d)]:=by
 have L:∀p∈kvs,p.1≠k:=fun p J e=>by
  have:(kvs.find? fun H=>decide (H.1=k))=none:=by
   unfold fO at h;cases q:kvs.find? fun H=>decide (H.1=k) with
   |none=>rfl|some z=>rw[q] at h;cases h
  have:=TV.mp this p J;simp[e] at this
 have P:(kvs.any fun H=>decide (H.1=k))=false:=by rw[U2];intro p J;simpa using L p J
 have e:iM kvs k d=kvs++[(k,d)]:=by unfold iM;rw[P];rfl
 refine⟨?_,e⟩;rw[e];unfold fO;rw[List.find?_append];have:(kvs.find? fun H=>decide (H.1=k))=none:=TV.mpr fun p J=>by simpa using L p J
 rw[this];simp
theorem yo{kvs:List (NK×D)}{k:NK}{d:D}(h:fO kvs k=some d):(k,d)∈kvs:=by
 unfold fO at h;cases q:kvs.find? fun J=>decide (J.1=k) with
 |none=>rw[q] at h;cases h
 |some z=>
  rw[q] at h;cases h;have L:=Ui q;have H:=UQ q;simp at H;rw[←H];exact L
end
def Wt(r:Option (WS×G×M))(Q:WS->G->M->Prop):Prop:=∃o B O,r=some (o,B,O)/\Q o B O
section
variable {α β:Type} {B:G} {O:M} {ex:EX} {bx:BX} {bv:BV} {el:LV} {lx:LX} {sx sy:SX} {sv:SV} {C:Addr} {d:D} {ds:List D} {b:Bool} {g:GV} {f:FX} {n m:Nat}
variable {R:Rs D->M->Prop} {RB:Rs Bool->M->Prop} {RL:Rs (List D)->M->Prop} {Q:WS->G->M->Prop}
theorem Wt.imp{r:Option (WS×G×M)}{Q R:WS->G->M->Prop}(h:Wt r Q)(f:∀o B O,Q o B O->R o B O):Wt r R:=let ⟨a,B,O,e,q⟩:=h;⟨a,B,O,e,f a B O q⟩
theorem V4:Wt (some (o,B,O)) Q↔Q o B O:=⟨fun⟨_,_,_,e,q⟩=>by cases e;exact q,fun q=>⟨_,_,_,rfl,q⟩⟩
theorem WW{r:Option (α×M)}{f:α×M->Option (WS×G×M)}:Wt (r.bind f) Q↔Wp r fun a O=>Wt (f (a,O)) Q:=by
 cases r with
 |none=>exact⟨fun⟨_,_,_,e,_⟩=>(by cases e),fun⟨_,_,e,_⟩=>(by cases e)⟩
 |some p=>exact⟨fun h=>⟨p.1,p.2,rfl,h⟩,fun⟨_,_,e,h⟩=>by cases e;exact h⟩
theorem X0{r:Option (WS×G×M)}{f:WS×G×M->Option (WS×G×M)}:Wt (r.bind f) Q↔Wt r fun o B O=>Wt (f (o,B,O)) Q:=by
 cases r with
 |none=>exact⟨fun⟨_,_,_,e,_⟩=>(by cases e),fun⟨_,_,_,e,_⟩=>(by cases e)⟩
 |some p=>exact⟨fun h=>⟨p.1,p.2.1,p.2.2,rfl,h⟩,fun⟨_,_,_,e,h⟩=>by cases e;exact h⟩
theorem Yo{r:Option (Out×G×M)}{f:Out×G×M->Option (WS×G×M)}:Wt (r.bind f) Q↔Ws r fun o B O=>Wt (f (o,B,O)) Q:=by
 cases r with
 |none=>exact⟨fun⟨_,_,_,e,_⟩=>(by cases e),fun⟨_,_,_,e,_⟩=>(by cases e)⟩
 |some p=>exact⟨fun h=>⟨p.1,p.2.1,p.2.2,rfl,h⟩,fun⟨_,_,_,e,h⟩=>by cases e;exact h⟩
theorem Yp{r:Option (WS×G×M)}{f:WS×G×M->Option (β×M)}{R:β->M->Prop}:Wp (r.bind f) R↔Wt r fun o B O=>Wp (f (o,B,O)) R:=by
 cases r with
 |none=>exact⟨fun⟨_,_,e,_⟩=>(by cases e),fun⟨_,_,_,e,_⟩=>(by cases e)⟩
 |some p=>exact⟨fun h=>⟨p.1,p.2.1,p.2.2,rfl,h⟩,fun⟨_,_,_,e,h⟩=>by cases e;exact h⟩
def Í(R:Rs α->M->Prop):α->M->Prop:=fun a O=>R (.ok a) O
theorem Re{a:α}{R:Rs α->M->Prop}:Í R a O↔R (.ok a) O:=SE
theorem Qz:Wp (YQ bv B O) RB↔Wp (bv B O) (Í RB):=wp_bind.trans ⟨fun h=>h.imp fun _ _ q=>(BJ (Q:=RB)).mp q,fun h=>h.imp fun _ _ q=>(BJ (Q:=RB)).mpr q⟩
theorem HM:Wp (Xb el B O) RL↔Wp (el B O) (Í RL):=wp_bind.trans ⟨fun h=>h.imp fun _ _ q=>(BJ (Q:=RL)).mp q,fun h=>h.imp fun _ _ q=>(BJ (Q:=RL)).mpr q⟩
def Î(Q:WS->G->M->Prop):Out->G->M->Prop:=fun o B O=>Q (Ä o) B O
theorem KC:Î Q .nx B O↔Q .nx B O:=SE
theorem Ov:Î Q (.rt d) B O↔Q (.rt d) B O:=SE
theorem JB:Wt (Xn sv B O) Q↔Ws (sv B O) (Î Q):=Yo.trans ⟨fun h=>h.imp fun _ _ _ q=>(V4 (Q:=Q)).mp q,fun h=>h.imp fun _ _ _ q=>(V4 (Q:=Q)).mpr q⟩
def Õ(f:FX)(R:Rs D->M->Prop):Rs (List D)->M->Prop:=fun r O=>match r with
 | .ok ds=>Wp (f ds O) R| .ex C=>R (.ex C) O
theorem EW:Õ f R (.ok ds) O↔Wp (f ds O) R:=SE
theorem EE:Õ f R (.ex C) O↔R (.ex C) O:=SE
theorem HF:Wp (Xa f lx B O) R↔Wp (lx B O) (Õ f R):=wp_bind.trans ⟨fun h=>h.imp fun r _ q=>by cases r;exact q;exact(BJ (Q:=R)).mp q,fun h=>h.imp fun r _ q=>by cases r;exact q;exact(BJ (Q:=R)).mpr q⟩
def tq(d:D)(RL:Rs (List D)->M->Prop):Rs (List D)->M->Prop:=fun r O=>match r with
 | .ok ds=>RL (.ok<|d::ds) O| .ex C=>RL (.ex C) O
theorem Gq:tq d RL (.ok ds) O↔RL (.ok<|d::ds) O:=SE
theorem Jd:tq d RL (.ex C) O↔RL (.ex C) O:=SE
def Ģ(lx:LX)(B:G)(RL:Rs (List D)->M->Prop):Rs D->M->Prop:=fun r O=>match r with
 | .ok d=>Wp (lx B O) (tq d RL)| .ex C=>RL (.ex C) O
theorem RQ:Ģ lx B RL (.ok d) O↔Wp (lx B O) (tq d RL):=SE
theorem Qg:Ģ lx B RL (.ex C) O↔RL (.ex C) O:=SE
def ĥ(RB:Rs Bool->M->Prop):Rs Bool->M->Prop:=fun r O=>match r with
 | .ok b=>RB (.ok<|!b) O| .ex C=>RB (.ex C) O
theorem OH:ĥ RB (.ok b) O↔RB (.ok<|!b) O:=SE
theorem P1:ĥ RB (.ex C) O↔RB (.ex C) O:=SE
def _E(RB:Rs Bool->M->Prop):Rs D->M->Prop:=fun r O=>match r with
 | .ok d=>∃b,d=.bl b/\RB (.ok b) O| .ex C=>RB (.ex C) O
theorem NA:_E RB (.ex C) O↔RB (.ex C) O:=SE
def rQ(sy:SX)(Q:WS->G->M->Prop):WS->G->M->Prop:=fun o B O=>match o with
 | .nx=>Wt (sy B O) Q|o=>Q o B O
theorem Ph:rQ sy Q .nx B O↔Wt (sy B O) Q:=SE
theorem Js:rQ sy Q (.rt d) B O↔Q (.rt d) B O:=SE
theorem Le:rQ sy Q (.ex C) B O↔Q (.ex C) B O:=SE
theorem M9:Wt (fS sx sy B O) Q↔Wt (sx B O) (rQ sy Q):=X0.trans ⟨fun h=>h.imp fun o _ _ q=>by cases o<;>first|exact q|exact(V4 (Q:=Q)).mp q,fun h=>h.imp fun o _ _ q=>by cases o<;>first|exact q|exact(V4 (Q:=Q)).mpr q⟩
def Ø(B:G)(Q:WS->G->M->Prop):Rs D->M->Prop:=fun r O=>match r with
 | .ok _=>Q .nx B O| .ex C=>Q (.ex C) B O
theorem Fz:Ø B Q (.ok d) O↔Q .nx B O:=SE
theorem G3:Ø B Q (.ex C) O↔Q (.ex C) B O:=SE
theorem Ro:Wt (kW ex B O) Q↔Wp (ex B O) (Ø B Q):=WW.trans ⟨fun h=>h.imp fun r _ q=>by cases r<;>exact(V4 (Q:=Q)).mp q,fun h=>h.imp fun r _ q=>by cases r<;>exact(V4 (Q:=Q)).mpr q⟩
def Ð(B:G)(Q:WS->G->M->Prop):Rs D->M->Prop:=fun r O=>match r with
 | .ok d=>Q (.rt d) B O| .ex C=>Q (.ex C) B O
theorem KO:Ð B Q (.ok d) O↔Q (.rt d) B O:=SE
theorem Mi:Ð B Q (.ex C) O↔Q (.ex C) B O:=SE
theorem JH:Wt (jW ex B O) Q↔Wp (ex B O) (Ð B Q):=WW.trans ⟨fun h=>h.imp fun r _ q=>by cases r<;>exact(V4 (Q:=Q)).mp q,fun h=>h.imp fun r _ q=>by cases r<;>exact(V4 (Q:=Q)).mpr q⟩
def ϩ(sx sy:SX)(B:G)(Q:WS->G->M->Prop):Rs Bool->M->Prop:=fun r O=>match r with
 | .ok c=>if c=true then Wt (sx B O) Q else Wt (sy B O) Q| .ex C=>Q (.ex C) B O
theorem KD:ϩ sx sy B Q (.ok true) O↔Wt (sx B O) Q:=SE
theorem NC:ϩ sx sy B Q (.ok false) O↔Wt (sy B O) Q:=SE
theorem R1:ϩ sx sy B Q (.ex C) O↔Q (.ex C) B O:=SE
theorem RC:Wt (ib bx sx sy B O) Q↔Wp (bx B O) (ϩ sx sy B Q):=WW.trans ⟨fun h=>h.imp fun r _ q=>by
  cases r with
  |ok c=>cases c<;>exact q
  |ex C=>exact(V4 (Q:=Q)).mp q,fun h=>h.imp fun r _ q=>by
  cases r with
  |ok c=>cases c<;>exact q
  |ex C=>exact(V4 (Q:=Q)).mpr q⟩
def uh(Q:WS->G->M->Prop):G->M->Prop:=fun B O=>Q .nx B O
theorem FB:uh Q B O↔Q .nx B O:=SE
def Ú(g:GV)(B:G)(Q:WS->G->M->Prop):Rs D->M->Prop:=fun r O=>match r with
 | .ok d=>Wp (g d B O) (uh Q)| .ex C=>Q (.ex C) B O
theorem Ha:Ú g B Q (.ok d) O↔Wp (g d B O) (uh Q):=SE
theorem Ho:Ú g B Q (.ex C) O↔Q (.ex C) B O:=SE
theorem Ip:Wt (xK ex g B O) Q↔Wp (ex B O) (Ú g B Q):=by
 refine WW.trans ⟨fun h=>h.imp fun r O q=>?_,fun h=>h.imp fun r O q=>?_⟩
 .cases r with
  |ok d=>exact(WW.mp q).imp fun _ _ q=>(V4 (Q:=Q)).mp q|ex C=>exact(V4 (Q:=Q)).mp q
 .cases r with
  |ok d=>exact WW.mpr (Wp.imp q fun _ _ q=>(V4 (Q:=Q)).mpr q)|ex C=>exact(V4 (Q:=Q)).mpr q
def sF(R:Rs D->M->Prop):WS->G->M->Prop:=fun o _ O=>match o with
 | .rt d=>R (.ok d) O| .nx=>R (.ok .non) O| .ex C=>R (.ex C) O|_=>False
theorem GY:sF R (.rt d) B O↔R (.ok d) O:=SE
theorem Jm:sF R .nx B O↔R (.ok .non) O:=SE
theorem Em:sF R (.ex C) B O↔R (.ex C) O:=SE
theorem ph(h:ds.length=m):Wp (gx n m sx ds O) R↔Wt (sx (ds.map some++List.replicate (n - ds.length) none) O) (sF R):=by
 unfold gx;rw[if_pos h];refine Yp.trans ⟨fun h=>h.imp fun o _ _ q=>?_,fun h=>h.imp fun o _ _ q=>?_⟩
 .cases o with
  |rt d=>exact(BJ (Q:=R)).mp q|nx=>exact(BJ (Q:=R)).mp q|ex C=>exact(BJ (Q:=R)).mp q|bk=>obtain⟨_,_,e,_⟩:=q;cases e
  |ct=>obtain⟨_,_,e,_⟩:=q;cases e
 .cases o with
  |rt d=>exact(BJ (Q:=R)).mpr q|nx=>exact(BJ (Q:=R)).mpr q|ex C=>exact(BJ (Q:=R)).mpr q|bk=>exact absurd q id|ct=>exact absurd q id
theorem k9{R:D->M->Prop}(h:Wp (f ds O) fun r O=>∃d,r=.ok d/\R d O):Wp (dn f ds O) R:=by obtain⟨_,Z6,e,d,rfl,q⟩:=h;unfold dn;rw[e];exact BJ.mpr q
theorem Xd(I:List D->G->M->Prop)(ds:List D)(h0:I ds B O)
  (F:∀d r B O,I (d::r) B O->Wp (g d B O) fun ZY Z5=>Wt (sx ZY Z5) fun o z Z4=>match o with
   | .nx=>eL c Z4/\I r z Z4| .ct=>eL c Z4/\I r z Z4| .bk=>Q .nx z Z4| .rt d=>Q (.rt d) z Z4| .ex C=>Q (.ex C) z Z4)
  (S:∀B O,I [] B O->Q .nx B O):Wt (ka c g sx ds B O) Q:=by
 induction ds generalizing B O with
 |nil=>exact V4.mpr (S _ _ h0)|cons d r H=>
  refine WW.mpr ((F d r B O h0).imp fun ZY Z5 h=>X0.mpr<|h.imp fun o z Z4 h=>?_);cases o with
  |nx=>show Wt (XU _ _) Q;rw[iw h.1];exact H h.2|ct=>show Wt (XU _ _) Q;rw[iw h.1];exact H h.2|bk=>exact V4.mpr h|rt d=>exact V4.mpr h|ex C=>exact V4.mpr h
def _F(g:GV)(sx:SX)(B:G)(Q:WS->G->M->Prop):List D×Ck->M->Prop:=fun s O=>Wt (ka s.2 g sx s.1 B O) Q
theorem IH:_F g sx B Q (ds,c) O↔Wt (ka c g sx ds B O) Q:=SE
def _G(own:Ŗ)(cap:ő)(g:GV)(tc:BV)(te:EV)(B:G)(R:Rs D->M->Prop):Rs D->M->Prop:=fun r O=>match r with
 | .ok d=>∃s,Xj O d=some s/\s.1.length<=1000000/\Wp (fo s.2 g tc te s.1 (ff own cap B) O) fun rs O=>R (.ok<|.lst rs) O| .ex C=>R (.ex C) O
theorem Sd(h:Wp (ex B O) (_G own cap g tc te B R)):Wp (jS own cap ex g tc te B O) R:=by
 refine wp_bind.mpr (h.imp fun r O q=>?_);cases r with
 |ok d=>
  obtain⟨s,L,J,H⟩:=q;show Wp ((Xj O d).bind _) R;rw[L];show Wp (if s.1.length<=1000000 then _ else none) R;rw[if_pos J];exact wp_bind.mpr (H.imp fun _ _ q=>BJ.mpr q)
 |ex C=>exact(BJ (Q:=R)).mpr q
end
end L3
namespace Law
open PySem L2 L3
def dE(x:Ŕ):D:=match x with
 |some t=>.tup [.str "one",.int t]|none=>.tup [.str "none"]
def XO(l:List Ŕ):D:=.lst (l.map dE)
def ύ:PyData.strOk "one"=true:=by decide +kernel
def ό:PyData.strOk "none"=true:=by decide +kernel
def pE(x:Ŕ):PyData:=match x with
 |some t=>.tuple [.str "one",.int t]|none=>.tuple [.str "none"]
def pR{O:M}(x:Ŕ):py 65 O (dE x)=some (pE x):=by cases x<;>rfl
def x4(x:Ŕ):(pE x).canLay0=true:=by cases x<;>simp[pE,PyData.canLay0,PyData.canLayAll0,ύ,ό]
def C1(x:Ŕ):(pE x).depth<=60:=by cases x<;>simp[pE,PyData.depth,PyData.depthAll]
def Rt(x y:Ŕ):PyData.eqv (pE x) (pE y)=decide (x=y):=by rw[Tj];cases x<;>cases y<;>simp[pE,PyData.eqv,PyData.eqvAll]
theorem Au:∀l:List Ŕ,PyData.canLayAll0 (l.map pE)=true
 | []=>rfl|x::l=>by simp[PyData.canLayAll0,x4 x,Au l]
def yk{O:M}(x:Ŕ)(l:List Ŕ):je false (dE x) (.lst<|l.map dE) O=some (.bl (decide (x∈l)),O):=by
 have h1:optAll (py 65 O) (l.map dE)=some (l.map pE):=jm fun x _=>pR x;have L:decide ((pE x).depth<=60)=true:=SK (C1 x);have J:(l.map pE).any (fun e=>PyData.eqv e<|pE x)=decide (x∈l):=by
  rw[Tj,List.any_map,S7];simp only[Function.comp,SJ,Rt];constructor
  .rintro⟨y,H,rfl⟩;exact H
  .intro h;exact⟨x,h,rfl⟩
 unfold je;rw[if_neg nofun];simp only[fq,bs,h1,pR,Au,x4,L,VB,if_true,J]
theorem gP{α:Type}{c:Ck}{g:GV}{tc:BV}{te:EV}{dn:α->D}{keep:α->Bool}{val:α->D}(Pv:G->Prop){O:M}{B:G}(S:eL c O)(l:List α)(h0:Pv B)
  (hs:∀a∈l,∀B,Pv B->Wp (g (dn a) B O) fun ZY Z5=>Z5=O/\Pv ZY/\Wp (tc ZY O) fun b Z4=>b=keep a/\Z4=O/\(keep a=true->Wp (te ZY O) fun x ZQ=>x=val a/\ZQ=O)) {R:List D->M->Prop} (hR:R ((l.filter keep).map val) O):Wp (fo c g tc te (l.map dn) B O) R:=by
 refine Wb (fun done r B Z6=>∃i,i<=l.length/\Z6=O/\Pv B/\r=(l.drop i).map dn/\done=((l.take i).filter keep).map val) _ ⟨0,by omega,rfl,h0,rfl,rfl⟩ ?_ ?_
 .rintro done d r B Z6 ⟨i,hi,rfl,hp,e,rfl⟩;have H:i<l.length:=by
   rcases VY i l.length with z|z
   .exact z
   .rw[TH z] at e;cases e
  rw[Tf H,Sz] at e;cases e;have F:l.take (i+1)=l.take i++[l[i]]:=by rw[List.take_append_getElem H]
  refine(hs l[i] (TC H) B hp).imp fun ZY Z5 ⟨e,J,h⟩=>?_;subst e;refine h.imp fun b Z4 ⟨e1,P,h⟩=>?_;subst e1;subst P;cases L:keep l[i] with
  |true=>
   show Wp _ _;refine(h L).imp fun x ZQ ⟨e1,P⟩=>?_;subst e1;subst P;refine⟨S,i+1,H,rfl,J,rfl,?_⟩;rw[F,UT,TN];simp[L]
  |false=>
   show eL c _/\_;refine⟨S,i+1,H,rfl,J,rfl,?_⟩;rw[F,UT,TN];simp[L]
 .rintro done B Z6 ⟨i,hi,rfl,_,e,rfl⟩;have:l.length<=i:=by
   have:=congrArg List.length e;simp at this;omega
  rw[List.take_of_length_le this];exact hR
def lz{O:M}(l:ť):ij (.lst<|l.map D.bl) O=some (.bl (l.all id),O):=by
 have:optAll YB (l.map D.bl)=some l:=by have:=jm (f:=YB) (g:=D.bl) (h:=id) (l:=l) (fun x _=>rfl);simpa using this
 unfold ij;show(optAll YB<|l.map D.bl).bind _=_;rw[this];rfl
def Hj:V6 (.lst<|d::ds) (.int 0) O=some (d,O):=by rw[uO,show(0:Int)=((0:Nat):Int) from rfl,ji (j:=0) (v:=d) rfl];rfl
def QG{i j:Int}{O:M}(h:-(2^64)<i/\i<2^64):iX (.int i) (.int j) O=some (.int (i*j),O):=by rw[P2,if_pos];exact .inl h
def KA{s:Ő}{x:Int}{O:M}:tj (.lst<|s.map D.int) (.int x) O=some (.int (s.count x:Int),O):=by unfold tj;simp only[j3,bs];have:optAll (fun d=>oz d<|.int x) (s.map D.int)=some (s.map fun a=>a==x):=jm fun a _=>rfl;rw[this,bs];congr 4;rw[VN];rfl
def tr:PyData.strOk "ask"=true:=by decide +kernel
def D8:("none":Str)≠"ask":=by decide +kernel
def Bd:("one":Str)≠"ask":=by decide +kernel
section
variable {O:M}
theorem vy:WT (.str "ask") (.str "ask") O=some (.bl true,O):=by simp[tr]
theorem vD:WT (.str "none") (.str "ask") O=some (.bl false,O):=by simp[tr,ό,D8]
theorem uR:WT (.str "one") (.str "ask") O=some (.bl false,O):=by simp[tr,ύ,Bd]
theorem xr:We (.str "ask") (.str "ask") O=some (.bl false,O):=by simp[tr]
theorem xC:We (.str "none") (.str "ask") O=some (.bl true,O):=by simp[tr,ό,D8]
theorem uy:We (.str "one") (.str "ask") O=some (.bl true,O):=by simp[tr,ύ,Bd]
theorem oy{ds:List D}{j:Nat}{v:D}(h:ds[j]?=some v):V6 (.lst ds) (.int (j:Int)) O=some (v,O):=by rw[uO,ji h];rfl
theorem jk{ds:List D}{j:Nat}{v:D}(h:ds[j]?=some v):V6 (.tup ds) (.int (j:Int)) O=some (v,O):=by rw[Nb,ji h];rfl
theorem Yt(h:¬(HT.sIx ds.length 0 lo=0/\HT.sIx ds.length ds.length hi=ds.length)):Yj (.tup ds) lo hi O=some (.tup (j6 ds lo hi),O):=by rw[Pc,if_neg h]
theorem pP:fh (.lst ds) O=some (.int (ds.length:Int),O):=by rfl
theorem yw(n:Nat):eT 0 n=(List.range n).map fun i:Nat=>D.int (i:Int):=by simp[eT]
theorem oj{s:Ő}{i:Nat}(h:i<s.length):V6 (.lst<|s.map D.int) (.int (i:Int)) O=some (.int (s.getD i 0),O):=oy (by simp[h,So])
theorem DQ{s:Ő}{i:Int}{n:Nat}(z:s.length=n)(h:inr n i):V6 (.lst<|s.map D.int) (.int i) O=some (.int (kd s i),O):=by have:=oj (O:=O) (s:=s) (i:=i.toNat) (by have:=h.1;have:=h.2;omega);rw[Uo h.1] at this;exact this
theorem OD{i:Int}{l:Ő}{neg:Bool}:ϝ neg (.int i) (.lst<|l.map D.int) O=some (.bl (if neg then !decide (i∈l) else decide (i∈l)),O):=by have J:optAll Ο (l.map D.int)=some (l.map V.int):=jm fun a _=>rfl;have H:tt O (.lst<|l.map D.int)=some (l.map D.int):=rfl;have L:Ο (.int i)=some (.int i):=rfl;unfold ϝ;rw[L,bs,H,bs,J,bs,P3]
theorem Bc:Ê f eb B R (.lst ds) O↔Wp (eb B O) (Δ f (.lst ds) R):=⟨fun q=>q.2,fun q=>⟨⟨_,rfl⟩,q⟩⟩
theorem mG{a b:List D}(h:a.length+b.length<=1000000):e9 (.lst a) (.lst b) O=some (.lst (a++b),O):=if_pos h
theorem wZ{i j:Bool}:lB (.bl i) (.bl j) O=some (.bl (!decide (i=j)),O):=rfl
theorem D7(h:Wp (ea B O) fun x O=>Wp (eb B O) fun y O=>Wp (f x y O) fun b O=>(b=.bl true/\Wp (ec B O) fun z O=>Wp (g y z O) R)\/(b=.bl false/\R (.bl false) O)):Wp (gX f g ea eb ec B O) R:=by
 refine wp_bind.mpr (h.imp fun x O h=>wp_bind.mpr<|h.imp fun y O h=>wp_bind.mpr<|h.imp fun b O h=>?_);rcases h with⟨rfl,h⟩|⟨rfl,h⟩
 .exact wp_bind.mpr h
 .exact BJ.mpr h
theorem BI:ϥ RB (.lst ds) O↔RB (!ds.isEmpty) O:=⟨fun⟨_,e,q⟩=>by cases e;exact q,fun q=>⟨_,rfl,q⟩⟩
end
def dZ:Tz->D
 | .no=>.tup [.str "none"]| .one i=>.tup [.str "one",.int i]| .ask i j a b=>.tup [.str "ask",.int i,.int j,dZ a,dZ b]
def pZ:Tz->PyData
 | .no=>.tuple [.str "none"]| .one i=>.tuple [.str "one",.int i]| .ask i j a b=>.tuple [.str "ask",.int i,.int j,pZ a,pZ b]
theorem tF(O:M):∀(t:Tz) (n:Nat),WU t+2<=n->py n O (dZ t)=some (pZ t)
 | .no,n+2,_=>rfl| .one i,n+2,_=>rfl| .ask i j a u,n+3,h=>by simp only[WU] at h;have J:=tF O a (n+2) ⋯;have H:=tF O u (n+2) ⋯;show(optAll (py (n+2) O) [.str "ask",.int i,.int j,dZ a,dZ u]).bind _=_;simp only[optAll,J,H,R8,O7,bs,pZ]
 | .no,0,h=>by simp at h| .no,1,h=>by simp at h| .one _,0,h=>by simp at h| .one _,1,h=>by simp at h| .ask _ _ _ _,0,h=>by simp at h| .ask _ _ _ _,1,h=>by simp at h| .ask _ _ _ _,2,h=>by simp[WU] at h
theorem vR:∀t:Tz,(pZ t).canLay0=true
 | .no=>by simp[pZ,PyData.canLay0,PyData.canLayAll0,ό]| .one _=>by simp[pZ,PyData.canLay0,PyData.canLayAll0,ύ]| .ask i j a u=>by simp[pZ,PyData.canLay0,PyData.canLayAll0,vR a,vR u,tr]
theorem wI:∀t:Tz,(pZ t).depth<=WU t+1
 | .no=>by simp[pZ,PyData.depth,PyData.depthAll]| .one i=>by simp[pZ,PyData.depth,PyData.depthAll]| .ask i j a u=>by have J:=wI a;have H:=wI u;simp only[pZ,PyData.depth,PyData.depthAll,WU];omega
theorem yb:∀t u:Tz,PyData.eqv (pZ t) (pZ u)=true↔t=u
 | .no,.no=>by simp[pZ,PyData.eqv,PyData.eqvAll]| .no,.one _=>by simp[pZ,PyData.eqv,PyData.eqvAll]| .no,.ask _ _ _ _=>by simp[pZ,PyData.eqv,PyData.eqvAll]| .one _,.no=>by simp[pZ,PyData.eqv,PyData.eqvAll]| .one _,.one _=>by simp[pZ,PyData.eqv,PyData.eqvAll]| .one _,.ask _ _ _ _=>by simp[pZ,PyData.eqv,PyData.eqvAll]| .ask _ _ _ _,.no=>by simp[pZ,PyData.eqv,PyData.eqvAll]| .ask _ _ _ _,.one _=>by simp[pZ,PyData.eqv,PyData.eqvAll]| .ask i j a b,.ask F z P L=>by have J:=yb a P;have H:=yb b L;simp only[pZ,PyData.eqv,PyData.eqvAll,SG,J,H];simp
open Classical in
def J9{t u:Tz}{O:M}(F:WU t<=40)(z:WU u<=40):Wu (dZ t) (dZ u) O=some (decide (t=u)):=by
 have e:Wu (dZ t) (dZ u) O=(py 65 O<|dZ t).bind fun d=>(py 65 O<|dZ u).bind fun e=>if(d.canLay0&&e.canLay0&&decide (d.depth<=64))=true then some (PyData.eqv d e) else none:=by cases t<;>cases u<;>rfl
 have hd:=wI t;rw[e,tF O t 65 ⋯,tF O u 65 ⋯];simp only[bs,vR];rw[if_pos (by simp;omega)];congr 1;rw[Tj,yb,SJ]
open Classical in
def Kk{t u:Tz}{O:M}(F:WU t<=40)(z:WU u<=40):WT (dZ t) (dZ u) O=some (.bl (decide (t=u)),O):=by unfold WT;rw[J9 F z];rfl
section
variable {O:M} {i j:Int} {a b:Tz}
theorem z0:V6 (dZ<|.ask i j a b) (.int 0) O=some (.str "ask",O):=jk (j:=0) rfl
theorem z1:V6 (dZ<|.ask i j a b) (.int 1) O=some (.int i,O):=jk (j:=1) rfl
theorem z2:V6 (dZ<|.ask i j a b) (.int 2) O=some (.int j,O):=jk (j:=2) rfl
theorem z3:V6 (dZ<|.ask i j a b) (.int 3) O=some (dZ a,O):=jk (j:=3) rfl
theorem z4:V6 (dZ<|.ask i j a b) (.int 4) O=some (dZ b,O):=jk (j:=4) rfl
theorem nj:V6 (dZ .no) (.int 0) O=some (.str "none",O):=jk (j:=0) rfl
theorem nJ:V6 (dZ<|.one i) (.int 0) O=some (.str "one",O):=jk (j:=0) rfl
end
theorem sJ{c:BV}{sb:SV}{B:G}{O:M}{Q:Out->G->M->Prop}(I:Nat->G->M->Prop)(m N:Nat)(h0:I m B O)(hN:m<N)
  (S:∀m B O,I m B O->Wp (c B O) fun b Z5=>if b=true then Ws (sb B Z5) fun o F Z4=>match o with
   | .nx=>∃z,z<m/\I z F Z4| .ct=>∃z,z<m/\I z F Z4| .bk=>Q .nx F Z4| .rt d=>Q (.rt d) F Z4 else Q .nx B Z5):Ws (jq c sb N B O) Q:=by
 induction N generalizing B O m with
 |zero=>omega|succ N J=>
  refine V7.mpr ((S m B O h0).imp fun b Z5 h=>?_);cases b with
  |false=>exact V3.mpr h|true=>
   refine XG.mpr (Ws.imp h fun o F Z4 h=>?_);cases o with
   |nx=>obtain⟨z,L,H⟩:=h;exact J (B:=F) (O:=Z4) z H ⋯
   |ct=>obtain⟨z,L,H⟩:=h;exact J (B:=F) (O:=Z4) z H ⋯
   |bk=>exact V3.mpr h|rt d=>exact V3.mpr h
end Law
namespace L2
open PySem PySem.Spec PyProof.Rows
end L2
namespace L3
open PySem PySem.Spec PyProof.Rows L2
end L3
namespace L2
open PySem PySem.Spec PyProof.Rows
section
open PySem.SeqAt
open PySem.AutoSeq1 (wpAny_loadPart')
open PySem.MeetsSeq PySem.MeetsSeq2 PySem.MeetsSeq3 PySem.SeqRoads2
theorem IB(l:Addr)(items:Array Value)(n:Nat)(dd:š)(sl:Array Ŝ)(x:Value)(e:Nat->Bool)(z:Int)(j:Nat)(hj:j<items.size)(hu:(j:Int)<z)(S:e j=true)(k:Nat):
  ∀i:Nat,j - i=k->i<=j->(∀m,i<=m->m<j->e m=false)->Meets (Builtin.«list.index.loop» ⟨[.ref l,x,rawInt i,rawInt z],[]⟩)
   (fun A R s=>s.heap.get? l=some {cls:=.type "list",dict:=dd,data:=.seq items n,slots:=sl}/\(∀m (h:m<items.size),EqAt A.in1 s items[m] x<|e m)/\R (.ok<|.ret<|.int j s.toks) {s with toks:=s.toks+1}):=by
 induction k with
 |zero=>
  intro i hk P F prog w A R s h;have:i=j:=by omega
  subst this;obtain⟨hp,g,d,tk,os⟩:=s;obtain⟨J,L,h⟩:=h;wp_walk using TM J;have hi:items[((i:Nat):Int).toNat]?=some items[i]:=by simp[hj]
  rw[if_pos hu,hi];refine Sj (L i hj prog w _ _ ?_);rw[S];wp_walk;exact h
 |succ k ih=>
  intro i hk P F prog w A R s h;obtain⟨hp,g,d,tk,os⟩:=s;obtain⟨J,L,h⟩:=h;wp_walk using TM J;have H:i<items.size:=by omega
  have hi:items[((i:Nat):Int).toNat]?=some items[i]:=by simp[H]
  rw[if_pos ⋯,hi];refine Sj (L i H prog w _ _ ?_);rw[F i ⋯ ⋯];have hc:((i:Int)+1)=((i+1:Nat):Int):=by push_cast;rfl
  wp_walk;rw[hc];exact⟨T7 plain_index_loop _,T4 entry_index_loop (by rw[TF plain_index_loop _];exact ih (i+1) ⋯ ⋯ (fun m h1 h2=>F m ⋯ h2) prog w A R _ ⟨J,L,h⟩)⟩
theorem Km(l:Addr)(items:Array Value)(n:Nat)(dd:š)(sl:Array Ŝ)(x:Value)(e:Nat->Bool)(j:Nat)(S:j<items.size)(F:(j:Int)<2^63 - 1)(z:e j=true)(hf:∀m,m<j->e m=false):
  Meets (Builtin.«list.index» ⟨[.ref l,x],[]⟩)
   (fun A R s=>s.heap.get? l=some {cls:=.type "list",dict:=dd,data:=.seq items n,slots:=sl}/\(∀m (h:m<items.size),EqAt A.in1 s items[m] x<|e m)/\R (.ok<|.ret<|.int j s.toks) {s with toks:=s.toks+1}):=by
 intro prog w A R s h;obtain⟨P,g,d,tk,os⟩:=s;obtain⟨H,J,h⟩:=h;wp_walk using TM H;exact⟨T7 plain_index_loop _,T4 entry_index_loop (by rw[TF plain_index_loop _];exact IB l items n dd sl x e _ j S F z _ 0 rfl ⋯ (fun m _ L=>hf m L) prog w A R _ ⟨H,J,h⟩)⟩
end
section
variable {X:Cx} {o a:Expr} {to ta:TE} {pos:Pos}
def y8(K:Frag):V->ŗ->Hp->VK->Prop:=fun x vs H Q=>∃(l:Addr) (xs:ŗ) (ds:List PyData) (k:V) (d:PyData) (j:Nat),x=.ref l/\vs=[k]/\WE K H l xs/\Xs K H xs ds/\Dp K H k d/\(PyData.canLayAll0 ds&&d.canLay0&&decide (d.depth<=50))=true/\ds.findIdx? (fun e=>PyData.eqv e d)=some j/\Q (.int (j:Nat)) H
theorem FN(hu:X.A.units+64<cLine):Τ X "list.index" (y8 X.K):=by
 intro pins s J H x vs v us Q I rx rv h;obtain⟨l,xs,ds,k,d,j,rfl,rfl,hq,hs,hd,hc,hj,q⟩:=h;simp only[SG,SJ] at hc;cases rx;obtain⟨u,rfl,ru⟩:=rv.one;obtain⟨L,rv,pl,hz⟩:=I.list hq;obtain⟨as,r1⟩:=hd.reads I ru;have hl:=rv.length;have hl2:=hs.len;obtain⟨hjl,hj1,hj2⟩:=List.findIdx?_eq_some_iff_getElem.mp hj;obtain⟨⟨cls,dd,data,sl⟩,ho,S,n,z⟩:=id pl.isList;simp only at S z;subst S z;have hjs:j<L.toArray.size:=by simp;omega
 refine Vt F.slot_list_index ⟨_,ho,rfl⟩ F.entry_list_index (F.args_list_index_2 _ _) (Km l L.toArray n dd sl u (fun m=>PyData.eqv (ds.getD m .none) d) j hjs ?_ ?_ ?_) ⟨ho,fun m hm=>?_,?_⟩
 .have:j<sizeLine:=by omega
  rw[Uc] at this;omega
 .simp[So,Sq hjl];exact hj1
 .intro m hm;have:=hj2 m hm;simp only[So,Sq (show m<ds.length by omega),VF];simpa using this
 .have P:m<L.length:=by simpa using hm
  have hx:xs[m]?=some (xs[m]'⋯):=Sq ⋯;obtain⟨e,he,hde⟩:=hs.get hx;obtain⟨w,hw,j'⟩:=rv.get hx;obtain⟨bs,r2⟩:=hde.reads I j';have e1:L.toArray[m]=w:=by have:L[m]?=some (L[m]'P):=Sq P;rw[this] at hw;cases hw;simp
  have e2:ds.getD m .none=e:=by simp[So,he]
  rw[e1,e2];refine SeqAt.eqAt_reads e d _ s _ _ _ _ r2 r1 (u7 hc.1.1 he) hc.1.2 ?_;have:X.A.in1.units<=X.A.units+1:=by simp[Around.in1]
  have:=VC e.depth d.depth;omega
 .exact⟨.int _,H,I.tok _,⟨_,rfl⟩,q⟩
theorem QT(K:Frag)(hu:X.A.units+64<cLine)(ho:PE X o to)(ha:PE X a ta)(hs:WX X a:=by rfl)
  (S:attributeBase o "index" X.env (eval o X.env)=eval o X.env:=by rfl) (z:gV apos pos:=by rfl) (hK:X.K=K:=by rfl)
  (hfew:Χ X a pos:=by rfl):
  PE X (.Call (.Attribute o "index" apos) [a] [] pos) (Α K "list" (y8 K) to<|gJ ta iI):=by
 subst hK;exact rh UX PySem.F.slot_list_index PySem.F.type_list_index (FN hu) ho (fE ha fV hs) S hfew z hs
end
end L2
namespace L3
open PySem PySem.Spec L2
section
variable {X:Cx} {K:Frag} {a:Expr} {ea:EV} {pos:Pos} {k:Nat}
def rZ(x y:D)(O:M):Fr:=(fq O x).bind fun ds=>(optAll (py 65 O) ds).bind fun es=>(py 65 O y).bind fun d=>if(PyData.canLayAll0 es&&d.canLay0&&decide (d.depth<=50))=true then(es.findIdx? fun e=>PyData.eqv e d).bind fun j=>some (.int (j:Nat),O) else none
theorem HH{o:Expr}{eo:EV}{apos:Pos}(hr:V8 k X.A)(ho:PE X o (tD K eo))(ha:PE X a (tD K ea))(hs:WX X a:=by rfl)
  (S:attributeBase o "index" X.env (eval o X.env)=eval o X.env:=by rfl) (F:gV apos pos:=by rfl) (hK:X.K=K:=by rfl)
  (hfew:Χ X a pos:=by rfl):
  PE X (.Call (.Attribute o "index" apos) [a] [] pos) (tD K<|il rZ eo ea):=eK (QT K hr.units ho ha hs S F hK hfew) (wW (by
 intro W x y d e z Z6 Q ok L J H q;refine dF H fun ds h1 H=>?_;refine dF H fun es h2 H=>?_;obtain⟨d',h3,H⟩:=Wc H;split at H
 .rename_i hc;obtain⟨j,h4,H⟩:=Wc H;cases H;obtain⟨a,vs,rfl,hs,P⟩:=i5 ok h1 L;exact(⟨a,vs,es,y,d',j,rfl,rfl,hs,lr (jh ok 65) P h2,jh ok _ _ _ _ J h3,hc,h4,q _ W rfl ok .refl (.int _)⟩)
 .cases H))
end
end L3
namespace Law
open PySem L2 L3
def top(i:Nat):Stmt:=PySem.Challenge.pw_morethanhalf_k27_whole_papers_and_short.main.body.getD i (.Pass ⟨0,0,0,0⟩)
section
variable {P:Program} {w:World} {K:Frag} {mg:œ} {base:Heap} {f:Addr} {fd:FuncData}
theorem rW:DJ ["many","answers","i","j","alike"] ["many","answers"] (eD<|top 16):=by lia
def xB(z:Addr):SX:=
  (fS (ib (YQ<|vT<|v2 Xe (be 0)<|vC<|.int 0)
   (ku z<|(be 0)::[])
   (Xn WQ))
  (Av (WH<|be 1) (fc 3<|dY (dC 2)<|dY (dC 3)<|dY (dC 4) fk)
   (fS (ib (YQ<|gO<|j4 (vT<|gX aa Xe (vC<|.int 0) (be 2)<|be 0)<|vT<|gX aa Xe (vC<|.int 0) (be 3)<|be 0)
    (ku z<|(be 2)::((be 3)::((be 0)::[])))
    (Xn WQ))
   (ib (YQ<|vT<|v2 WT (be 2)<|be 3)
    (ku z<|(be 2)::[])
    (Xn WQ)))))
def rn(z:Addr):FX:=gx 5 2 (xB z)
theorem EB{k:Nat}{S:Addr}(F:WM K "check_things" "check_things" (top 16) f fd) (z:mg "NoThing"=some (.ref S)/\gZ K S):Qv P w K mg base (XQ P w) (k+1) f fd ["many","answers"] (XM K<|rn S):=by
 unfold rn xB;exact jy F rW fun cdv A outer s H E J=>
  (jG (lF (mW<|pX (dy 0) dM)
   (hV<|nZ (mK<|iy (by decide)<|jo (dy 0)<|iy (by decide) Ε) z.1 z.2)
   l9)
  (hV (F1 (Os ⟨rfl,rfl⟩) rfl (PZ<|fA<|dy 1) (OX<|gH (n:=3)<|eU (dW (i:=2) rW.nd rfl (Or.inl rfl))<|eU (dW (i:=3) rW.nd rfl (Or.inl rfl))<|eU (dW (i:=4) rW.nd rfl (Or.inl rfl)) gL)
   (jG (lF (mW<|jR<|PW.pt<|zY (yx uA we nX pV dM (dy 2)<|dy 0)<|zx<|yx uA we nX pV dM (dy 3)<|dy 0)
    (hV<|nZ (mK<|iy (by decide)<|jo (dy 2)<|iy (by decide)<|jo (dy 3)<|iy (by decide)<|jo (dy 0)<|iy (by decide) Ε) z.1 z.2)
    l9)
   (hV (lF (mW<|ga J (dy 2)<|dy 3)
    (hV<|nZ (mK<|iy (by decide)<|jo (dy 2)<|iy (by decide) Ε) z.1 z.2)
    l9))))))
theorem Fd:DJ ["homes","old","new"] ["homes","old","new"] (eD<|top 17):=by lia
theorem DH:((["thing","home"]:Ŗ)++([("old",1),("new",2)]:ő).map (·.1)).Nodup:=by decide +kernel
def yh:SV:=
  (dU<|rT ["thing","home"] [("old",1),("new",2)] (be 0) (fc 2<|dY (dC 0)<|dY (dC 1) fk) eC (be 0)<|YJ (vT<|v2 WT (be 1)<|be 2) (be 3)<|be 1)
def j2:C0:=eR 3 3 (yh)
theorem Et{k:Nat}(F:WM K "moved" "moved" (top 17) f fd):Qv P w K mg base WN (k+1) f fd ["homes","old","new"] (V1 K<|j2):=by
 unfold j2 yh;exact eX F Fd fun cdv A outer s H E J=>
  (dL (eB (N6 (own:=["thing","home"]) (cap:=[("old",1),("new",2)]) (fw rfl) (dy 0)
   (fun _ _ _ _ _=>(gH (n:=2)<|eU (dW (i:=0) DH rfl (Or.inl rfl))<|eU (dW (i:=1) DH rfl (Or.inl rfl)) gL)) (fun _ _ _ _ _=>fU)
   (fun _ _ _ _ _=>(dy 0)) (fun _ _ _ _ _=>(oP (ga J (dy 1)<|dy 2) (dy 3)<|dy 1)))))
theorem oa:DJ ["answers","homes","i","j","alike"] ["answers"] (eD<|top 18):=by lia
def yI(z:C0):SV:=
  (dH (dQ pf<|dC 1)
  (dH (fW (WH<|be 0) (fc 3<|dY (dC 2)<|dY (dC 3)<|dY (dC 4) fk)
   (dH (g7<|iC (be 1) (be 2)<|be 2)
   (dH (g7<|iC (be 1) (be 3)<|be 3)
   (WY (fC<|be 4)
    (dQ (vL z<|dz (be 1)<|dz (v2 hX (be 1)<|be 3)<|dz (v2 hX (be 1)<|be 2) dD)<|dC 1)
    WQ))))
  (dU<|be 1)))
def nH(z:C0):C0:=eR 5 1 (yI z)
theorem Ez{S:C0}{z k:Nat}(F:WM K "homes_of" "homes_of" (top 18) f fd) (uX:Df P w K mg base z "moved" ["homes","old","new"] (V1 K S)) (Fe:z<=k):Qv P w K mg base WN (k+1) f fd ["answers"] (V1 K<|nH S):=by
 unfold nH yI;exact eX F oa fun cdv A outer s H E J=>
  (dJ (eI (i:=1) oa.nd rfl (Or.inl rfl) D9)
  (dJ (gD SR rfl (fA<|dy 0) (gH (n:=3)<|eU (dW (i:=2) oa.nd rfl (Or.inl rfl))<|eU (dW (i:=3) oa.nd rfl (Or.inl rfl))<|eU (dW (i:=4) oa.nd rfl (Or.inl rfl)) gL)
   (dJ (kN<|yB (dy 1) (dy 2)<|dy 2)
   (dJ (kN<|yB (dy 1) (dy 3)<|dy 3)
   (dL (eZ (hU<|dy 4)
    (dL<|eI (i:=1) oa.nd rfl (Or.inl rfl) (eA uX (J.mono Fe)<|dB (dy 1)<|dB (rC J (dy 1)<|dy 3)<|dB (rC J (dy 1)<|dy 2) dG))
    eY)))))
  (dL<|eB<|dy 1)))
theorem Ca:DJ ["many","answers","homes"] ["many","answers"] (eD<|top 19):=by lia
theorem wH:((["i","j","alike"]:Ŗ)++([("homes",2)]:ő).map (·.1)).Nodup:=by decide +kernel
def wx(nw:C0)(z:FX):SX:=
  (fS (kW<|Xa z<|Xb<|dz (be 0)<|dz (be 1) dD)
  (Xn (dH (dQ (vL nw<|dz (be 1) dD)<|dC 2)
  (dU<|v1 ij<|eW ["i","j","alike"] [("homes",2)] (WH<|be 1) (fc 3<|dY (dC 0)<|dY (dC 1)<|dY (dC 2) fk) eC<|Ω (be 2)<|v2 We (v2 hX (be 3)<|be 0)<|v2 hX (be 3)<|be 1))))
def vF(nw:C0)(z:FX):FX:=gx 3 2 (wx nw z)
theorem Ij{nw:C0}{z:FX}{B8 S k:Nat}(F:WM K "can_be" "can_be" (top 19) f fd) (v8:Df P w K mg base B8 "homes_of" ["answers"] (V1 K nw)) (M2:B8<=k) (uQ:YM P w K mg base S "check_things" ["many","answers"] (XM K z)) (RU:S<=k) (gE:mg "all"=none):Qv P w K mg base (XQ P w) (k+1) f fd ["many","answers"] (XM K<|vF nw z):=by
 unfold vF wx;exact jy F Ca fun cdv A outer s H E J=>
  (jG (sj<|jI uQ (J.mono RU)<|jn<|dB (dy 0)<|dB (dy 1) dG)
  (wD (dJ (eI (i:=2) Ca.nd rfl (Or.inr rfl) (eA v8 (J.mono M2)<|dB (dy 1) dG))
  (dL (eB (pD gE (ge (own:=["i","j","alike"]) (cap:=[("homes",2)]) (fw rfl) (fA<|dy 1)
   (fun _ _ _ _ _=>(gH (n:=3)<|eU (dW (i:=0) wH rfl (Or.inl rfl))<|eU (dW (i:=1) wH rfl (Or.inl rfl))<|eU (dW (i:=2) wH rfl (Or.inl rfl)) gL)) (fun _ _ _ _ _=>fU)
   (fun _ _ _ _ _=>(OU (dy 2)<|sS<|ul J (rC J (dy 3)<|dy 0)<|rC J (dy 3)<|dy 1)))))))))
theorem RF:DJ ["many","answers"] ["many","answers"] (eD<|top 20):=by lia
def wV(F:FX)(z:Addr):SX:=
  (ib (rM<|϶<|Xa F<|Xb<|dz (be 0)<|dz (be 1) dD)
   (Bh z<|vC<|.str "the answers cannot all be right")
   (Xn WQ))
def uT(F:FX)(z:Addr):FX:=gx 2 2 (wV F z)
theorem GP{fH:FX}{jp k:Nat}{z:Addr}(F:WM K "check_right" "check_right" (top 20) f fd) (iY:YM P w K mg base jp "can_be" ["many","answers"] (XM K fH)) (lD:jp<=k) (S:mg "NoFit"=some (.ref z)/\gZ K z):Qv P w K mg base (XQ P w) (k+1) f fd ["many","answers"] (XM K<|uT fH z):=by
 unfold uT wV;exact jy F RF fun cdv A outer s H E J=>
  (hV (lF (Ox<|ON<|jI iY (J.mono lD)<|jn<|dB (dy 0)<|dB (dy 1) dG)
   (hV<|Lq gq S.1 S.2)
   l9))
theorem tw:DJ ["kinds","answers","i","j","alike"] ["kinds","answers"] (eD<|top 21):=by lia
def xM:SV:=
  (dH (fW (WH<|be 1) (fc 3<|dY (dC 2)<|dY (dC 3)<|dY (dC 4) fk)
   (WY (vT<|v2 We (v2 WT (v2 V6 (be 0)<|be 2)<|v2 V6 (be 0)<|be 3)<|be 4)
    (dU<|vC<|.bl false)
    WQ))
  (dU<|vC<|.bl true))
def l7:C0:=eR 5 2 (xM)
theorem MR{k:Nat}(F:WM K "fits" "fits" (top 21) f fd):Qv P w K mg base WN (k+1) f fd ["kinds","answers"] (V1 K<|l7):=by
 unfold l7 xM;exact eX F tw fun cdv A outer s H E J=>
  (dJ (gD SR rfl (fA<|dy 1) (gH (n:=3)<|eU (dW (i:=2) tw.nd rfl (Or.inl rfl))<|eU (dW (i:=3) tw.nd rfl (Or.inl rfl))<|eU (dW (i:=4) tw.nd rfl (Or.inl rfl)) gL)
   (dL (eZ (jx J (oM J (eO (dy 0)<|dy 2)<|eO (dy 0)<|dy 3)<|dy 4)
    (dL<|eB gn)
    eY)))
  (dL<|eB gn))
theorem zV:DJ ["sort","most","used"] ["sort","most"] (eD<|top 9):=by lia
theorem FH:((["number"]:Ŗ)++([("sort",0)]:ő).map (·.1)).Nodup:=by decide +kernel
def xH:SV:=
  (dH (dQ (v2 e9 (v2 nI (be 0)<|v1 jV<|vC<|.int 1)<|vC<|.int 1)<|dC 2)
  (dU<|eW ["number"] [("sort",0)] (p9<|v2 mo (v2 e9 (be 2)<|vC<|.int 1)<|be 1) (dC 0) eC<|v2 e9 (be 1)<|vL eQ<|dz (be 0) dD))
def jb:C0:=eR 3 2 (xH)
theorem Hl{k:Nat}(F:WM K "one_thing_more" "one_thing_more" (top 9) f fd) (S:mg "max"=none) (z:mg "min"=none) (fr:mg "range"=none):Qv P w K mg base WN (k+1) f fd ["sort","most"] (V1 K<|jb):=by
 unfold jb xH;exact eX F zV fun cdv A outer s H E J=>
  (dJ (eI (i:=2) zV.nd rfl (Or.inl rfl) (gl (Ny S (dy 0)<|C5 dM) dM))
  (dL (eB (ge (own:=["number"]) (cap:=[("sort",0)]) (fw rfl) (PR fr<|vI z (gl (dy 2) dM)<|dy 1)
   (fun _ _ _ _ _=>(dW (i:=0) FH rfl (Or.inl rfl))) (fun _ _ _ _ _=>fU)
   (fun _ _ _ _ _=>(gl (dy 1)<|fm<|dB (dy 0) dG))))))
theorem q0:DJ ["many","most","sorts","step"] ["many","most"] (eD<|top 10):=by lia
theorem zR:((["sort","longer"]:Ŗ)++([("most",1)]:ő).map (·.1)).Nodup:=by decide +kernel
def xt(F:C0)(z:D)(S:Addr):SX:=
  (fS (ib (YQ<|Yd (vT<|v2 Xe (be 0)<|vC<|.int 0)<|vT<|v2 Yk (be 0)<|vC z)
   (ku S<|(vC z)::((be 0)::[]))
   (Xn WQ))
  (Xn (dH (dQ (vL eQ<|dz (vL eQ dD) dD)<|dC 2)
  (dH (fW (X1<|be 0) (dC 3)
   (dQ (i9 ["sort","longer"] [("most",1)] (WH<|be 2) (dC 0) eC (WH<|vL F<|dz (be 0)<|dz (be 2) dD) (dC 1) eC<|be 1)<|dC 2))
  (dU<|be 2)))))
def m5(z:C0)(F:D)(S:Addr):FX:=gx 4 2 (xt z F S)
theorem ID{nC:C0}{yZ k:Nat}{ik:D}{z:V}{S:Value}{g8:Addr}(F:WM K "all_sorts" "all_sorts" (top 10) f fd) (vz:Df P w K mg base yZ "one_thing_more" ["sort","most"] (V1 K nC)) (Hq:yZ<=k) (iK:mg "MOST_THINGS"=some S/\RelV z S/\∀W,DR K W ik z) (k6:mg "TooMany"=some (.ref g8)/\gZ K g8) (fr:mg "range"=none):Qv P w K mg base (XQ P w) (k+1) f fd ["many","most"] (XM K<|m5 nC ik g8):=by
 unfold m5 xt;exact jy F q0 fun cdv A outer s H E J=>
  (jG (lF (mW<|PW.pt<|lM (pX (dy 0) dM)<|lN<|nl (dy 0)<|i8 iK.1 iK.2.1 iK.2.2)
   (hV<|nZ (mK<|iy (by decide)<|jo (i8 iK.1 iK.2.1 iK.2.2)<|iy (by decide)<|jo (dy 0) Ε) k6.1 k6.2)
   l9)
  (wD (dJ (eI (i:=2) q0.nd rfl (Or.inl rfl) (fm<|dB (fm dG) dG))
  (dJ (gD SR rfl (jU fr<|dy 0) (dW (i:=3) q0.nd rfl (Or.inl rfl))
   (dL (vX (i:=2) q0.nd rfl rfl (own:=["sort","longer"]) (cap:=[("most",1)]) (fw rfl) (fA<|dy 2)
   (fun _ _ _ _ _=>(dW (i:=0) zR rfl (Or.inl rfl))) (fun _ _ _ _ _=>fU)
   (fun _ _ _ _ _=>(fA<|eA vz (J.mono Hq)<|dB (dy 0)<|dB (dy 2) dG)) (fun _ _ _ _ _=>(dW (i:=1) zR rfl (Or.inl rfl))) (fun _ _ _ _ _=>fU)
   (fun _ _ _ _ _=>(dy 1)))))
  (dL<|eB<|dy 2)))))
theorem OB:DJ ["many","answers"] ["many","answers"] (eD<|top 22):=by lia
theorem Ic:((["sort"]:Ŗ)++([("answers",1)]:ő).map (·.1)).Nodup:=by decide +kernel
def xz(z:C0)(F:FX)(S:FX):SX:=
  (fS (kW<|Xa F<|Xb<|dz (be 0)<|dz (be 1) dD)
  (jW<|jS ["sort"] [("answers",1)] (Xa S<|Xb<|dz (be 0)<|dz (be 0) dD) (dC 0) (fC<|vL z<|dz (be 0)<|dz (be 1) dD)<|be 0))
def yl(z:C0)(F:FX)(S:FX):FX:=gx 2 2 (xz z F S)
theorem JN{z:C0}{S gu:FX}{Ec Ai kZ k:Nat}(F:WM K "sorts_that_fit" "sorts_that_fit" (top 22) f fd) (vS:Df P w K mg base Ec "fits" ["kinds","answers"] (V1 K z)) (IR:Ec<=k) (vQ:YM P w K mg base Ai "check_right" ["many","answers"] (XM K S)) (MB:Ai<=k) (kj:YM P w K mg base kZ "all_sorts" ["many","most"] (XM K gu)) (pk:kZ<=k):Qv P w K mg base (XQ P w) (k+1) f fd ["many","answers"] (XM K<|yl z S gu):=by
 unfold yl xz;exact jy F OB fun cdv A outer s H E J=>
  (jG (sj<|jI vQ (J.mono MB)<|jn<|dB (dy 0)<|dB (dy 1) dG)
  (hV (tV (uq (own:=["sort"]) (cap:=[("answers",1)]) (fw rfl) (jI kj (J.mono pk)<|jn<|dB (dy 0)<|dB (dy 0) dG)
   (fun _ _ _ _ _=>(dW (i:=0) Ic rfl (Or.inl rfl))) (fun _ _ _ _ _=>(jz<|hU<|eA vS (J.mono IR)<|dB (dy 0)<|dB (dy 1) dG))
   (fun _ _ _ _ _=>(dy 0))))))
theorem sW:DJ ["kinds","by_kind","thing","kind"] ["kinds"] (eD<|top 7):=by lia
def vf:SV:=
  (dH (dQ pf<|dC 1)
  (dH (fW (ww<|be 0) (fc 2<|dY (dC 2)<|dY (dC 3) fk)
   (g7<|il gM (iC (be 1) (be 3)<|vL io dD)<|be 2))
  (dU<|v1 tK<|be 1)))
def lZ:C0:=eR 4 1 (vf)
theorem Qn{k:Nat}(F:WM K "alike_things" "alike_things" (top 7) f fd) (z:mg "enumerate"=none) (S:mg "list"=none):Qv P w K mg base WN (k+1) f fd ["kinds"] (V1 K<|lZ):=by
 unfold lZ vf;exact eX F sW fun cdv A outer s H E J=>
  (dJ (eI (i:=1) sW.nd rfl (Or.inl rfl) D9)
  (dJ (gD SR rfl (Mx z<|dy 0) (gH (n:=2)<|eU (dW (i:=2) sW.nd rfl (Or.inl rfl))<|eU (dW (i:=3) sW.nd rfl (Or.inl rfl)) gL)
   (dL<|kN<|sK (yB (dy 1) (dy 3)<|qd dG)<|dy 2))
  (dL<|eB<|Ln S<|dy 1)))
theorem BB:DJ ["kinds","things"] ["kinds"] (eD<|top 8):=by lia
def rz(z:C0):SV:=
  (dH (fW (WH<|vL z<|dz (be 0) dD) (dC 1)
   (WY (vT<|v2 Yk (v2 iX (vC<|.int 2)<|v1 fh<|be 1)<|v1 fh<|be 0)
    (dU<|be 1)
    WQ))
  (dU<|vL eQ dD))
def ou(z:C0):C0:=eR 2 1 (rz z)
theorem Pf{z:C0}{Ap k:Nat}(F:WM K "more_than_half" "more_than_half" (top 8) f fd) (uH:Df P w K mg base Ap "alike_things" ["kinds"] (V1 K z)) (Ju:Ap<=k) (S:mg "len"=none):Qv P w K mg base WN (k+1) f fd ["kinds"] (V1 K<|ou z):=by
 unfold ou rz;exact eX F BB fun cdv A outer s H E J=>
  (dJ (gD SR rfl (fA<|eA uH (J.mono Ju)<|dB (dy 0) dG) (dW (i:=1) BB.nd rfl (Or.inl rfl))
   (dL (eZ (nl (qY dM<|iP S<|dy 1)<|iP S<|dy 0)
    (dL<|eB<|dy 1)
    eY)))
  (dL<|eB<|fm dG))
theorem Ds:DJ ["kinds","things"] ["kinds"] (eD<|top 13):=by lia
theorem Rv:((["thing"]:Ŗ)++([]:ő).map (·.1)).Nodup:=by decide +kernel
def t9(z:C0):SV:=
  (dH (dQ (vL z<|dz (be 0) dD)<|dC 1)
  (dU<|YJ (fC<|be 1) (eW ["thing"] [] (WH<|be 1) (dC 0) eC<|vL eS<|dz (vC<|.str "one")<|dz (be 0) dD)<|vL eQ<|dz (vL eS<|dz (vC<|.str "none") dD) dD))
def tR(z:C0):C0:=eR 2 1 (t9 z)
theorem JL{z:C0}{S k:Nat}(F:WM K "half_ends" "half_ends" (top 13) f fd) (uf:Df P w K mg base S "more_than_half" ["kinds"] (V1 K z)) (OJ:S<=k):Qv P w K mg base WN (k+1) f fd ["kinds"] (V1 K<|tR z):=by
 unfold tR t9;exact eX F Ds fun cdv A outer s H E J=>
  (dJ (eI (i:=1) Ds.nd rfl (Or.inl rfl) (eA uf (J.mono OJ)<|dB (dy 0) dG))
  (dL (eB (oP (hU<|dy 1) (ge (own:=["thing"]) (cap:=[]) (fw rfl) (fA<|dy 1)
   (fun _ _ _ _ _=>(dW (i:=0) Rv rfl (Or.inl rfl))) (fun _ _ _ _ _=>fU)
   (fun _ _ _ _ _=>(fu<|dB gq<|dB (dy 0) dG))) (fm<|dB (fu<|dB gq dG) dG)))))
theorem BZ:DJ ["ends","end"] ["ends"] (eD<|top 14):=by lia
theorem Hf:((["others"]:Ŗ)++([("end",1)]:ő).map (·.1)).Nodup:=by decide +kernel
def rN(z:D):SV:=
  (dH (fW (WH<|v2 V6 (be 0)<|vC<|.int 0) (dC 1)
   (WY (fC<|v1 ij<|eW ["others"] [("end",1)] (WH<|be 0) (dC 0) eC<|v2 (je false) (be 1)<|be 0)
    (dU<|be 1)
    WQ))
  (dU<|vC z))
def j5(z:D):C0:=eR 2 1 (rN z)
theorem O3{k:Nat}{fG:D}{z:V}{S:Value}(F:WM K "common_end" "common_end" (top 14) f fd) (gf:mg "OPEN"=some S/\RelV z S/\∀W,DR K W fG z) (gE:mg "all"=none):Qv P w K mg base WN (k+1) f fd ["ends"] (V1 K<|j5 fG):=by
 unfold j5 rN;exact eX F BZ fun cdv A outer s H E J=>
  (dJ (gD SR rfl (fA<|eO (dy 0) dM) (dW (i:=1) BZ.nd rfl (Or.inr rfl))
   (dL (eZ (hU (pD gE (ge (own:=["others"]) (cap:=[("end",1)]) (fw rfl) (fA<|dy 0)
   (fun _ _ _ _ _=>(dW (i:=0) Hf rfl (Or.inl rfl))) (fun _ _ _ _ _=>fU)
   (fun _ _ _ _ _=>(Cu J (dy 1)<|dy 0)))))
    (dL<|eB<|dy 1)
    eY)))
  (dL<|eB<|i8 gf.1 gf.2.1 gf.2.2))
theorem N9:DJ ["many","answers"] ["many","answers"] (eD<|top 23):=by lia
theorem NZ:((["sort"]:Ŗ)++([]:ő).map (·.1)).Nodup:=by decide +kernel
def wF(F:C0)(S:C0)(z:FX):SX:=
  (jW<|Xa (ϊ F)<|sR (jS ["sort"] [] (Xa z<|Xb<|dz (be 0)<|dz (be 1) dD) (dC 0) eC<|vL S<|dz (be 0) dD)<|Xb dD)
def vM(F:C0)(S:C0)(z:FX):FX:=gx 2 2 (wF F S z)
theorem HB{iG gm:C0}{z:FX}{pi S Bg k:Nat}(F:WM K "tells" "tells" (top 23) f fd) (nc:Df P w K mg base pi "common_end" ["ends"] (V1 K iG)) (vU:pi<=k) (j0:Df P w K mg base S "half_ends" ["kinds"] (V1 K gm)) (qa:S<=k) (xx:YM P w K mg base Bg "sorts_that_fit" ["many","answers"] (XM K z)) (Pb:Bg<=k):Qv P w K mg base (XQ P w) (k+1) f fd ["many","answers"] (XM K<|vM iG gm z):=by
 unfold vM wF;exact jy F N9 fun cdv A outer s H E J=>
  (hV (tV (Oe nc (J.mono vU) (K5 (uq (own:=["sort"]) (cap:=[]) (fw rfl) (jI xx (J.mono Pb)<|jn<|dB (dy 0)<|dB (dy 1) dG)
   (fun _ _ _ _ _=>(dW (i:=0) NZ rfl (Or.inl rfl))) (fun _ _ _ _ _=>fU)
   (fun _ _ _ _ _=>(eA j0 (J.mono qa)<|dB (dy 0) dG))) (jn dG)))))
theorem Fp:DJ ["many"] ["many"] (eD<|top 25):=by lia
theorem CC:((["i","j"]:Ŗ)++([("many",0)]:ő).map (·.1)).Nodup:=by decide +kernel
def x5:SV:=
  (dU<|i9 ["i","j"] [("many",0)] (X1<|be 0) (dC 0) eC (lS (v2 e9 (be 0)<|vC<|.int 1)<|be 2) (dC 1) eC<|vL eS<|dz (be 0)<|dz (be 1) dD)
def mz:C0:=eR 1 1 (x5)
theorem G7{k:Nat}(F:WM K "pairs_of" "pairs_of" (top 25) f fd) (fr:mg "range"=none):Qv P w K mg base WN (k+1) f fd ["many"] (V1 K<|mz):=by
 unfold mz x5;exact eX F Fp fun cdv A outer s H E J=>
  (dL (eB (Gw (own:=["i","j"]) (cap:=[("many",0)]) (fw rfl) (jU fr<|dy 0)
   (fun _ _ _ _ _=>(dW (i:=0) CC rfl (Or.inl rfl))) (fun _ _ _ _ _=>fU)
   (fun _ _ _ _ _=>(Dj fr (gl (dy 0) dM)<|dy 2)) (fun _ _ _ _ _=>(dW (i:=1) CC rfl (Or.inl rfl))) (fun _ _ _ _ _=>fU)
   (fun _ _ _ _ _=>(fu<|dB (dy 0)<|dB (dy 1) dG)))))
theorem Hc:DJ ["many","least","greatest"] ["many","least","greatest"] (eD<|top 27):=by lia
def sX(z:Addr)(F:Addr):SX:=
  (fS (ib (YQ<|vT<|v2 Xe (be 0)<|be 1)
   (ku z<|(be 1)::((be 0)::[]))
   (Xn WQ))
  (ib (YQ<|vT<|v2 Yk (be 0)<|be 2)
   (ku F<|(be 2)::((be 0)::[]))
   (Xn WQ)))
def j8(z:Addr)(F:Addr):FX:=gx 3 3 (sX z F)
theorem MY{k:Nat}{z:Addr}{S:Addr}(F:WM K "check_many" "check_many" (top 27) f fd) (ja:mg "NoThing"=some (.ref z)/\gZ K z) (k6:mg "TooMany"=some (.ref S)/\gZ K S):Qv P w K mg base (XQ P w) (k+1) f fd ["many","least","greatest"] (XM K<|j8 z S):=by
 unfold j8 sX;exact jy F Hc fun cdv A outer s H E J=>
  (jG (lF (mW<|pX (dy 0)<|dy 1)
   (hV<|nZ (mK<|iy (by decide)<|jo (dy 1)<|iy (by decide)<|jo (dy 0) Ε) ja.1 ja.2)
   l9)
  (hV (lF (mW<|nl (dy 0)<|dy 2)
   (hV<|nZ (mK<|iy (by decide)<|jo (dy 2)<|iy (by decide)<|jo (dy 0) Ε) k6.1 k6.2)
   l9)))
theorem Lk:DJ ["self","many","sorts","ends"] ["self","many","sorts","ends"] (eD<|i7 (top 29) 0):=by lia
def vK(F:C0)(z:Addr):SV:=
  (dH (mE z "pairs" (be 0)<|vL F<|dz (be 1) dD)
  (dH (mE z "sorts" (be 0)<|be 2)
  (dH (mE z "ends" (be 0)<|be 3)
  (mE z "searched" (be 0) ub))))
def sP(z:C0)(F:Addr):C0:=eR 4 4 (vK z F)
theorem PB{gh:C0}{S k:Nat}{z:Addr}(F:WM K "__init__" "Search.__init__" (i7 (top 29) 0) f fd) (kh:Df P w K mg base S "pairs_of" ["many"] (V1 K gh)) (pw:S<=k) (oi:XH K z "pairs") (j7:XH K z "sorts") (nn:XH K z "ends") (kY:XH K z "searched"):Qv P w K mg base WN (k+1) f fd ["self","many","sorts","ends"] (V1 K<|sP gh z):=by
 unfold sP vK;exact eX F Lk fun cdv A outer s H E J=>
  (dJ (sE oi (dy 0)<|eA kh (J.mono pw)<|dB (dy 1) dG)
  (dJ (sE j7 (dy 0)<|dy 2)
  (dJ (sE nn (dy 0)<|dy 3)
  (dL<|sE kY (dy 0) RM))))
theorem oK:DJ ["self","i","j","left","asks","alike","unlike","if_alike","if_unlike"] ["self","i","j","left","asks"] (eD<|i7 (top 29) 3):=by lia
theorem Jo:((["number"]:Ŗ)++([("self",0),("i",1),("j",2)]:ő).map (·.1)).Nodup:=by decide +kernel
theorem MK:((["number"]:Ŗ)++([("self",0),("i",1),("j",2)]:ő).map (·.1)).Nodup:=by decide +kernel
def xh(F:C0)(z:Addr):SV:=
  (dH (dQ (v1 sw<|eW ["number"] [("self",0),("i",1),("j",2)] (η<|be 3) (dC 0) (vT<|v2 WT (v2 V6 (v2 V6 (v1 (gG z "sorts")<|be 1)<|be 0)<|be 2)<|v2 V6 (v2 V6 (v1 (gG z "sorts")<|be 1)<|be 0)<|be 3)<|be 0)<|dC 5)
  (dH (dQ (v1 sw<|eW ["number"] [("self",0),("i",1),("j",2)] (η<|be 3) (dC 0) (vT<|v2 We (v2 V6 (v2 V6 (v1 (gG z "sorts")<|be 1)<|be 0)<|be 2)<|v2 V6 (v2 V6 (v1 (gG z "sorts")<|be 1)<|be 0)<|be 3)<|be 0)<|dC 6)
  (dH (WY (Yd (gO<|fC<|be 5)<|gO<|fC<|be 6)
   (dU<|vC .non)
   WQ)
  (dH (dQ (jT z "tree_within" F (be 0)<|dz (be 5)<|dz (v2 ip (be 4)<|vC<|.int 1) dD)<|dC 7)
  (dH (WY (vT<|v2 jc (be 7)<|vC .non)
   (dU<|vC .non)
   WQ)
  (dH (dQ (jT z "tree_within" F (be 0)<|dz (be 6)<|dz (v2 ip (be 4)<|vC<|.int 1) dD)<|dC 8)
  (dH (WY (vT<|v2 jc (be 8)<|vC .non)
   (dU<|vC .non)
   WQ)
  (dU<|vL eS<|dz (vC<|.str "ask")<|dz (be 1)<|dz (be 2)<|dz (be 7)<|dz (be 8) dD))))))))
def oF(z:C0)(F:Addr):C0:=eR 9 5 (xh z F)
theorem EA{ia:C0}{pI k:Nat}{S:Addr}(F:WM K "tree_asking" "Search.tree_asking" (i7 (top 29) 3) f fd) (ly:υ P w K mg base WN pI S "tree_within" ["self","left","asks"] (V1 K ia)) (pQ:pI<=k) (z:XH K S "sorts") (iO:mg "tuple"=none):Qv P w K mg base WN (k+1) f fd ["self","i","j","left","asks"] (V1 K<|oF ia S):=by
 unfold oF xh;exact eX F oK fun cdv A outer s H E J=>
  (dJ (eI (i:=5) oK.nd rfl (Or.inl rfl) (zj iO (ge (own:=["number"]) (cap:=[("self",0),("i",1),("j",2)]) (fw rfl) (pc<|dy 3)
   (fun _ _ _ _ _=>(dW (i:=0) Jo rfl (Or.inl rfl))) (fun _ _ _ _ _=>(jz<|ga J (eO (eO (j9 z<|dy 1)<|dy 0)<|dy 2)<|eO (eO (j9 z<|dy 1)<|dy 0)<|dy 3))
   (fun _ _ _ _ _=>(dy 0)))))
  (dJ (eI (i:=6) oK.nd rfl (Or.inl rfl) (zj iO (ge (own:=["number"]) (cap:=[("self",0),("i",1),("j",2)]) (fw rfl) (pc<|dy 3)
   (fun _ _ _ _ _=>(dW (i:=0) MK rfl (Or.inl rfl))) (fun _ _ _ _ _=>(jz<|jx J (eO (eO (j9 z<|dy 1)<|dy 0)<|dy 2)<|eO (eO (j9 z<|dy 1)<|dy 0)<|dy 3))
   (fun _ _ _ _ _=>(dy 0)))))
  (dJ (eZ (PW.pt<|lM (jR<|hU<|dy 5)<|lN<|jR<|hU<|dy 6)
   (dL<|eB g9)
   eY)
  (dJ (eI (i:=7) oK.nd rfl (Or.inl rfl) (nr ly (J.mono pQ) (dy 0)<|dB (dy 5)<|dB (i4 (dy 4) dM) dG))
  (dJ (eZ (rJ (dy 7) g9)
   (dL<|eB g9)
   eY)
  (dJ (eI (i:=8) oK.nd rfl (Or.inl rfl) (nr ly (J.mono pQ) (dy 0)<|dB (dy 6)<|dB (i4 (dy 4) dM) dG))
  (dJ (eZ (rJ (dy 8) g9)
   (dL<|eB g9)
   eY)
  (dL<|eB<|fu<|dB gq<|dB (dy 1)<|dB (dy 2)<|dB (dy 7)<|dB (dy 8) dG))))))))
theorem oH:DJ ["self","left","asks","end","i","j","tree"] ["self","left","asks"] (eD<|i7 (top 29) 2):=by lia
theorem MS:((["number"]:Ŗ)++([("self",0)]:ő).map (·.1)).Nodup:=by decide +kernel
def uE(S:C0)(F:C0)(fG:D)(z:Addr):SV:=
  (dH (dQ (vL S<|dz (eW ["number"] [("self",0)] (η<|be 1) (dC 0) eC<|v2 V6 (v1 (gG z "ends")<|be 1)<|be 0) dD)<|dC 3)
  (dH (WY (vT<|v2 We (be 3)<|vC fG)
   (dU<|be 3)
   WQ)
  (dH (WY (vT<|v2 WT (be 2)<|vC<|.int 0)
   (dU<|vC .non)
   WQ)
  (dH (fW (WH<|v1 (gG z "pairs")<|be 0) (fc 2<|dY (dC 4)<|dY (dC 5) fk)
   (dH (dQ (jT z "tree_asking" F (be 0)<|dz (be 4)<|dz (be 5)<|dz (be 1)<|dz (be 2) dD)<|dC 6)
   (WY (vT<|v2 kf (be 6)<|vC .non)
    (dU<|be 6)
    WQ)))
  (dU<|vC .non)))))
def tQ(F:C0)(z:C0)(S:D)(eF:Addr):C0:=eR 7 3 (uE F z S eF)
theorem FT{iG mU:C0}{pi Bq k:Nat}{fG:D}{z:V}{S:Value}{eF:Addr}(F:WM K "new_tree" "Search.new_tree" (i7 (top 29) 2) f fd) (nc:Df P w K mg base pi "common_end" ["ends"] (V1 K iG)) (vU:pi<=k) (vZ:υ P w K mg base WN Bq eF "tree_asking" ["self","i","j","left","asks"] (V1 K mU)) (NJ:Bq<=k) (nn:XH K eF "ends") (oi:XH K eF "pairs") (gf:mg "OPEN"=some S/\RelV z S/\∀W,DR K W fG z):Qv P w K mg base WN (k+1) f fd ["self","left","asks"] (V1 K<|tQ iG mU fG eF):=by
 unfold tQ uE;exact eX F oH fun cdv A outer s H E J=>
  (dJ (eI (i:=3) oH.nd rfl (Or.inl rfl) (eA nc (J.mono vU) (dB (ge (own:=["number"]) (cap:=[("self",0)]) (fw rfl) (pc<|dy 1)
   (fun _ _ _ _ _=>(dW (i:=0) MS rfl (Or.inl rfl))) (fun _ _ _ _ _=>fU)
   (fun _ _ _ _ _=>(eO (j9 nn<|dy 1)<|dy 0))) dG)))
  (dJ (eZ (jx J (dy 3)<|i8 gf.1 gf.2.1 gf.2.2)
   (dL<|eB<|dy 3)
   eY)
  (dJ (eZ (ga J (dy 2) dM)
   (dL<|eB g9)
   eY)
  (dJ (gD SR rfl (fA<|j9 oi<|dy 0) (gH (n:=2)<|eU (dW (i:=4) oH.nd rfl (Or.inl rfl))<|eU (dW (i:=5) oH.nd rfl (Or.inl rfl)) gL)
   (dJ (eI (i:=6) oH.nd rfl (Or.inl rfl) (nr vZ (J.mono NJ) (dy 0)<|dB (dy 4)<|dB (dy 5)<|dB (dy 1)<|dB (dy 2) dG))
   (dL (eZ (Bx (dy 6) g9)
    (dL<|eB<|dy 6)
    eY))))
  (dL<|eB g9)))))
theorem MH:DJ ["self","left","asks"] ["self","left","asks"] (eD<|i7 (top 29) 1):=by lia
def xO(F:C0)(z:Addr):SV:=
  (dH (WY (vT<|v2 (qb true) (vL eS<|dz (be 1)<|dz (be 2) dD)<|v1 (gG z "searched")<|be 0)
   (yr (v1 (gG z "searched")<|be 0) (vL eS<|dz (be 1)<|dz (be 2) dD)<|jT z "new_tree" F (be 0)<|dz (be 1)<|dz (be 2) dD)
   WQ)
  (dU<|v2 sD (v1 (gG z "searched")<|be 0)<|vL eS<|dz (be 1)<|dz (be 2) dD))
def qR(z:C0)(F:Addr):C0:=eR 3 3 (xO z F)
theorem Kq{mF:C0}{Ek k:Nat}{S:Addr}(F:WM K "tree_within" "Search.tree_within" (i7 (top 29) 1) f fd) (xj:υ P w K mg base WN Ek S "new_tree" ["self","left","asks"] (V1 K mF)) (IS:Ek<=k) (z:XH K S "searched"):Qv P w K mg base WN (k+1) f fd ["self","left","asks"] (V1 K<|qR mF S):=by
 unfold qR xO;exact eX F MH fun cdv A outer s H E J=>
  (dJ (eZ (GH J (fu<|dB (dy 1)<|dB (dy 2) dG)<|j9 z<|dy 0)
   (dL<|Es J (j9 z<|dy 0) (fu<|dB (dy 1)<|dB (dy 2) dG)<|nr xj (J.mono IS) (dy 0)<|dB (dy 1)<|dB (dy 2) dG)
   eY)
  (dL<|eB<|No J (j9 z<|dy 0)<|fu<|dB (dy 1)<|dB (dy 2) dG))
theorem pB:DJ ["many","sorts","ends","search","every","asks"] ["many","sorts","ends"] (eD<|top 30):=by lia
def va(S:C0)(F:C0)(z:Addr):SV:=
  (dH (dQ (tf z S<|dz (be 0)<|dz (be 1)<|dz (be 2) dD)<|dC 3)
  (dH (dQ (v1 pA<|v1 fh<|be 1)<|dC 4)
  (dH (dQ (vC<|.int 0)<|dC 5)
  (dH (jq (vT<|v2 jc (jT z "tree_within" F (be 3)<|dz (be 4)<|dz (be 5) dD)<|vC .non)
   (me 5 qI<|vC<|.int 1) 1000000)
  (dU<|vL eS<|dz (be 5)<|dz (jT z "tree_within" F (be 3)<|dz (be 4)<|dz (be 5) dD) dD)))))
def tZ(z:C0)(F:C0)(S:Addr):C0:=eR 6 3 (va z F S)
theorem ER{nG ia:C0}{Bs pI k:Nat}{z:Addr}(F:WM K "fewest_asks" "fewest_asks" (top 30) f fd) (vB:Ĕ P w K mg base WN Bs z "Search" ["self","many","sorts","ends"] (V1 K nG)) (Ga:Bs+1<=k) (ly:υ P w K mg base WN pI z "tree_within" ["self","left","asks"] (V1 K ia)) (S:pI<=k) (fz:mg "len"=none) (iO:mg "tuple"=none) (fr:mg "range"=none):Qv P w K mg base WN (k+1) f fd ["many","sorts","ends"] (V1 K<|tZ nG ia z):=by
 unfold tZ va;exact eX F pB fun cdv A outer s H E J=>
  (dJ (eI (i:=3) pB.nd rfl (Or.inl rfl) (Q1 vB (J.mono Ga)<|dB (dy 0)<|dB (dy 1)<|dB (dy 2) dG))
  (dJ (eI (i:=4) pB.nd rfl (Or.inl rfl) (Gy iO fr<|iP fz<|dy 1))
  (dJ (eI (i:=5) pB.nd rfl (Or.inl rfl) dM)
  (dJ (pY 1000000 SR (rJ (nr ly (J.mono S) (dy 3)<|dB (dy 4)<|dB (dy 5) dG) g9)
   (dL<|Dx (i:=5) pB.nd rfl (Or.inl rfl) dM))
  (dL<|eB<|fu<|dB (dy 5)<|dB (nr ly (J.mono S) (dy 3)<|dB (dy 4)<|dB (dy 5) dG) dG)))))
theorem B2:DJ ["many","most","sorts"] ["many","most"] (eD<|top 39):=by lia
theorem Fs:((["sort"]:Ŗ)++([]:ő).map (·.1)).Nodup:=by decide +kernel
def wt(S:C0)(z:C0)(F:FX):SX:=
  (fS (xK (Xa F<|Xb<|dz (be 0)<|dz (be 1) dD)<|dC 2)
  (Xn<|dU<|vL z<|dz (be 0)<|dz (be 2)<|dz (eW ["sort"] [] (WH<|be 2) (dC 0) eC<|vL S<|dz (be 0) dD) dD))
def rY(S:C0)(z:C0)(F:FX):FX:=gx 3 2 (wt S z F)
theorem KY{gm z:C0}{gu:FX}{kU Bn S k:Nat}(F:WM K "fewest_of" "fewest_of" (top 39) f fd) (j0:Df P w K mg base kU "half_ends" ["kinds"] (V1 K gm)) (qa:kU<=k) (wq:Df P w K mg base Bn "fewest_asks" ["many","sorts","ends"] (V1 K z)) (RE:Bn<=k) (kj:YM P w K mg base S "all_sorts" ["many","most"] (XM K gu)) (pk:S<=k):Qv P w K mg base (XQ P w) (k+1) f fd ["many","most"] (XM K<|rY gm z gu):=by
 unfold rY wt;exact jy F B2 fun cdv A outer s H E J=>
  (jG (Hb (i:=2) B2.nd rfl (Or.inl rfl) (jI kj (J.mono pk)<|jn<|dB (dy 0)<|dB (dy 1) dG))
  (wD (dL (eB (eA wq (J.mono RE) (dB (dy 0) (dB (dy 2) (dB (ge (own:=["sort"]) (cap:=[]) (fw rfl) (fA<|dy 2)
   (fun _ _ _ _ _=>(dW (i:=0) Fs rfl (Or.inl rfl))) (fun _ _ _ _ _=>fU)
   (fun _ _ _ _ _=>(eA j0 (J.mono qa)<|dB (dy 0) dG))) dG))))))))
theorem Qi:DJ ["many"] ["many"] (eD<|top 40):=by lia
def wv(S:FX)(z:FX)(F:D):SX:=
  (fS (kW<|Xa S<|Xb<|dz (be 0)<|dz (vC<|.int 1)<|dz (vC F) dD)
  (jW<|Xa z<|Xb<|dz (be 0)<|dz (be 0) dD))
def tG(S:FX)(z:FX)(F:D):FX:=gx 1 1 (wv S z F)
theorem MQ{fJ nT:FX}{jd zD k:Nat}{m6:D}{z:V}{S:Value}(F:WM K "fewest" "fewest" (top 40) f fd) (iV:YM P w K mg base jd "check_many" ["many","least","greatest"] (XM K fJ)) (l5:jd<=k) (xU:YM P w K mg base zD "fewest_of" ["many","most"] (XM K nT)) (QM:zD<=k) (oX:mg "MOST_SEARCHED"=some S/\RelV z S/\∀W,DR K W m6 z):Qv P w K mg base (XQ P w) (k+1) f fd ["many"] (XM K<|tG fJ nT m6):=by
 unfold tG wv;exact jy F Qi fun cdv A outer s H E J=>
  (jG (sj<|jI iV (J.mono l5)<|jn<|dB (dy 0)<|dB dM<|dB (i8 oX.1 oX.2.1 oX.2.2) dG)
  (hV<|tV<|jI xU (J.mono QM)<|jn<|dB (dy 0)<|dB (dy 0) dG))
theorem wl:DJ ["tree","alike","unlike"] ["tree"] (eD<|top 33):=by lia
def xI:SV:=
  (dH (WY (vT<|v2 We (v2 V6 (be 0)<|vC<|.int 0)<|vC<|.str "ask")
   (dU<|vL eQ dD)
   WQ)
  (dH (dQ (i3 (be 0) (iS<|vC<|.int 3) lH)<|fc 2<|dY (dC 1)<|dY (dC 2) fk)
  (dU<|YJ (vT<|v2 WT (be 1)<|be 2) (vL eQ<|dz (be 1) dD)<|vL eQ<|dz (be 1)<|dz (be 2) dD)))
def iU:C0:=eR 3 1 (xI)
theorem FZ{k:Nat}(F:WM K "branches" "branches" (top 33) f fd):Qv P w K mg base WN (k+1) f fd ["tree"] (V1 K<|iU):=by
 unfold iU xI;exact eX F wl fun cdv A outer s H E J=>
  (dJ (eZ (jx J (eO (dy 0) dM) gq)
   (dL<|eB<|fm dG)
   eY)
  (dJ (lm (nk (dy 0) (kF dM) se)<|gH (n:=2)<|eU (dW (i:=1) wl.nd rfl (Or.inl rfl))<|eU (dW (i:=2) wl.nd rfl (Or.inl rfl)) gL)
  (dL<|eB<|oP (ga J (dy 1)<|dy 2) (fm<|dB (dy 1) dG)<|fm<|dB (dy 1)<|dB (dy 2) dG)))
theorem Bf:DJ ["many","tree","things"] ["many","tree"] (eD<|top 34):=by lia
theorem GF:((["thing"]:Ŗ)++([("many",0)]:ő).map (·.1)).Nodup:=by decide +kernel
def uY:SV:=
  (dH (dQ (i3 (be 1) (iS<|vC<|.int 1)<|iS<|vC<|.int 3)<|dC 2)
  (dH (WY (j4 (vT<|v2 WT (v2 V6 (be 1)<|vC<|.int 0)<|vC<|.str "ask")<|vT<|v2 WT (v2 V6 (be 2)<|vC<|.int 0)<|v2 V6 (be 2)<|vC<|.int 1)
   (dU<|vC<|.bl false)
   WQ)
  (dU<|v1 ij<|eW ["thing"] [("many",0)] (η<|be 2) (dC 0) eC<|gX aa Xe (vC<|.int 0) (be 0)<|be 1)))
def ow:C0:=eR 3 2 (uY)
theorem LP{k:Nat}(F:WM K "names_things" "names_things" (top 34) f fd) (z:mg "all"=none):Qv P w K mg base WN (k+1) f fd ["many","tree"] (V1 K<|ow):=by
 unfold ow uY;exact eX F Bf fun cdv A outer s H E J=>
  (dJ (eI (i:=2) Bf.nd rfl (Or.inl rfl) (nk (dy 1) (kF dM)<|kF dM))
  (dJ (eZ (PW.pt<|zY (ga J (eO (dy 1) dM) gq)<|zx<|ga J (eO (dy 2) dM)<|eO (dy 2) dM)
   (dL<|eB gn)
   eY)
  (dL (eB (pD z (ge (own:=["thing"]) (cap:=[("many",0)]) (fw rfl) (pc<|dy 2)
   (fun _ _ _ _ _=>(dW (i:=0) GF rfl (Or.inl rfl))) (fun _ _ _ _ _=>fU)
   (fun _ _ _ _ _=>(Nw uA we nX pV dM (dy 0)<|dy 1))))))))
theorem wz:DJ ["many","tree","level"] ["many","tree"] (eD<|top 35):=by lia
theorem QV:((["part"]:Ŗ)++([("many",0)]:ő).map (·.1)).Nodup:=by decide +kernel
theorem Cq:((["part","branch"]:Ŗ)++([]:ő).map (·.1)).Nodup:=by decide +kernel
def x3(z:C0)(F:C0):SV:=
  (dH (dQ (vL eQ<|dz (be 1) dD)<|dC 2)
  (dH (jq (fC<|be 2)
   (dH (WY (gO<|fC<|v1 ij<|eW ["part"] [("many",0)] (WH<|be 2) (dC 0) eC<|vL z<|dz (be 1)<|dz (be 0) dD)
    (dU<|vC<|.bl false)
    WQ)
   (dQ (i9 ["part","branch"] [] (WH<|be 2) (dC 0) eC (WH<|vL F<|dz (be 0) dD) (dC 1) eC<|be 1)<|dC 2)) 1000000)
  (dU<|vC<|.bl true)))
def rF(z:C0)(F:C0):C0:=eR 3 2 (x3 z F)
theorem Pm{S iu:C0}{Bi z k:Nat}(F:WM K "names_things_throughout" "names_things_throughout" (top 35) f fd) (xL:Df P w K mg base Bi "names_things" ["many","tree"] (V1 K S)) (JC:Bi<=k) (mw:Df P w K mg base z "branches" ["tree"] (V1 K iu)) (tm:z<=k) (gE:mg "all"=none):Qv P w K mg base WN (k+1) f fd ["many","tree"] (V1 K<|rF S iu):=by
 unfold rF x3;exact eX F wz fun cdv A outer s H E J=>
  (dJ (eI (i:=2) wz.nd rfl (Or.inl rfl) (fm<|dB (dy 1) dG))
  (dJ (pY 1000000 SR (hU<|dy 2)
   (dJ (eZ (jR (hU (pD gE (ge (own:=["part"]) (cap:=[("many",0)]) (fw rfl) (fA<|dy 2)
   (fun _ _ _ _ _=>(dW (i:=0) QV rfl (Or.inl rfl))) (fun _ _ _ _ _=>fU)
   (fun _ _ _ _ _=>(eA xL (J.mono JC)<|dB (dy 1)<|dB (dy 0) dG))))))
    (dL<|eB gn)
    eY)
   (dL (vX (i:=2) wz.nd rfl rfl (own:=["part","branch"]) (cap:=[]) (fw rfl) (fA<|dy 2)
   (fun _ _ _ _ _=>(dW (i:=0) Cq rfl (Or.inl rfl))) (fun _ _ _ _ _=>fU)
   (fun _ _ _ _ _=>(fA<|eA mw (J.mono tm)<|dB (dy 0) dG)) (fun _ _ _ _ _=>(dW (i:=1) Cq rfl (Or.inl rfl))) (fun _ _ _ _ _=>fU)
   (fun _ _ _ _ _=>(dy 1))))))
  (dL<|eB gn)))
theorem nM:DJ ["tree","kinds","i","j","alike","unlike"] ["tree","kinds"] (eD<|top 36):=by lia
def wE:SV:=
  (dH (jq (vT<|v2 WT (v2 V6 (be 0)<|vC<|.int 0)<|vC<|.str "ask")
   (dH (dQ (i3 (be 0) (iS<|vC<|.int 1) lH)<|fc 4<|dY (dC 2)<|dY (dC 3)<|dY (dC 4)<|dY (dC 5) fk)
   (dQ (YJ (vT<|v2 WT (v2 V6 (be 1)<|be 2)<|v2 V6 (be 1)<|be 3) (be 4)<|be 5)<|dC 0)) 1000000)
  (dU<|be 0))
def mR:C0:=eR 6 2 (wE)
theorem LL{k:Nat}(F:WM K "end_for" "end_for" (top 36) f fd):Qv P w K mg base WN (k+1) f fd ["tree","kinds"] (V1 K<|mR):=by
 unfold mR wE;exact eX F nM fun cdv A outer s H E J=>
  (dJ (pY 1000000 SR (ga J (eO (dy 0) dM) gq)
   (dJ (lm (nk (dy 0) (kF dM) se)<|gH (n:=4)<|eU (dW (i:=2) nM.nd rfl (Or.inl rfl))<|eU (dW (i:=3) nM.nd rfl (Or.inl rfl))<|eU (dW (i:=4) nM.nd rfl (Or.inl rfl))<|eU (dW (i:=5) nM.nd rfl (Or.inl rfl)) gL)
   (dL<|eI (i:=0) nM.nd rfl (Or.inl rfl) (oP (ga J (eO (dy 1)<|dy 2)<|eO (dy 1)<|dy 3) (dy 4)<|dy 5))))
  (dL<|eB<|dy 0))
theorem RP:DJ ["many","tree"] ["many","tree"] (eD<|top 37):=by lia
theorem PU:((["sort"]:Ŗ)++([("tree",1)]:ő).map (·.1)).Nodup:=by decide +kernel
def u5(F:C0)(z:C0)(gm:C0)(fJ:FX)(gu:FX)(S:D):SX:=
  (fS (kW<|Xa fJ<|Xb<|dz (be 0)<|dz (vC<|.int 0)<|dz (vC S) dD)
  (fS (Xn (WY (gO<|fC<|vL F<|dz (be 0)<|dz (be 1) dD)
   (dU<|vC<|.bl false)
   WQ))
  (jW<|t6 ij<|jS ["sort"] [("tree",1)] (Xa gu<|Xb<|dz (be 0)<|dz (be 0) dD) (dC 0) eC<|v2 (je false) (vL z<|dz (be 1)<|dz (be 0) dD)<|vL gm<|dz (be 0) dD)))
def qA(F:C0)(z:C0)(gm:C0)(fJ:FX)(gu:FX)(S:D):FX:=gx 2 2 (u5 F z gm fJ gu S)
theorem Jv{m7 nu gm:C0}{fJ gu:FX}{yO Cr kU jd kZ k:Nat}{ik:D}{z:V}{S:Value}(F:WM K "finds_out" "finds_out" (top 37) f fd) (w9:Df P w K mg base yO "names_things_throughout" ["many","tree"] (V1 K m7)) (Hz:yO<=k) (wn:Df P w K mg base Cr "end_for" ["tree","kinds"] (V1 K nu)) (K3:Cr<=k) (j0:Df P w K mg base kU "half_ends" ["kinds"] (V1 K gm)) (qa:kU<=k) (iV:YM P w K mg base jd "check_many" ["many","least","greatest"] (XM K fJ)) (l5:jd<=k) (kj:YM P w K mg base kZ "all_sorts" ["many","most"] (XM K gu)) (pk:kZ<=k) (iK:mg "MOST_THINGS"=some S/\RelV z S/\∀W,DR K W ik z) (gE:mg "all"=none):Qv P w K mg base (XQ P w) (k+1) f fd ["many","tree"] (XM K<|qA m7 nu gm fJ gu ik):=by
 unfold qA u5;exact jy F RP fun cdv A outer s H E J=>
  (jG (sj<|jI iV (J.mono l5)<|jn<|dB (dy 0)<|dB dM<|dB (i8 iK.1 iK.2.1 iK.2.2) dG)
  (jG (Gh (eZ (jR<|hU<|eA w9 (J.mono Hz)<|dB (dy 0)<|dB (dy 1) dG)
   (dL<|eB gn)
   eY))
  (hV (tV (Ig gE (uq (own:=["sort"]) (cap:=[("tree",1)]) (fw rfl) (jI kj (J.mono pk)<|jn<|dB (dy 0)<|dB (dy 0) dG)
   (fun _ _ _ _ _=>(dW (i:=0) PU rfl (Or.inl rfl))) (fun _ _ _ _ _=>fU)
   (fun _ _ _ _ _=>(Cu J (eA wn (J.mono K3)<|dB (dy 1)<|dB (dy 0) dG)<|eA j0 (J.mono qa)<|dB (dy 0) dG))))))))
theorem pJ:DJ ["tree","asks","level"] ["tree"] (eD<|top 38):=by lia
theorem Dh:((["part","branch"]:Ŗ)++([]:ő).map (·.1)).Nodup:=by decide +kernel
def yD(z:C0):SV:=
  (dH (dQ (vC<|.int 0)<|dC 1)
  (dH (dQ (vL z<|dz (be 0) dD)<|dC 2)
  (dH (jq (fC<|be 2)
   (dH (me 1 qI<|vC<|.int 1)
   (dQ (i9 ["part","branch"] [] (WH<|be 2) (dC 0) eC (WH<|vL z<|dz (be 0) dD) (dC 1) eC<|be 1)<|dC 2)) 1000000)
  (dU<|be 1))))
def qN(z:C0):C0:=eR 3 1 (yD z)
theorem Qr{iu:C0}{S k:Nat}(F:WM K "depth" "depth" (top 38) f fd) (mw:Df P w K mg base S "branches" ["tree"] (V1 K iu)) (z:S<=k):Qv P w K mg base WN (k+1) f fd ["tree"] (V1 K<|qN iu):=by
 unfold qN yD;exact eX F pJ fun cdv A outer s H E J=>
  (dJ (eI (i:=1) pJ.nd rfl (Or.inl rfl) dM)
  (dJ (eI (i:=2) pJ.nd rfl (Or.inl rfl) (eA mw (J.mono z)<|dB (dy 0) dG))
  (dJ (pY 1000000 SR (hU<|dy 2)
   (dJ (Dx (i:=1) pJ.nd rfl (Or.inl rfl) dM)
   (dL (vX (i:=2) pJ.nd rfl rfl (own:=["part","branch"]) (cap:=[]) (fw rfl) (fA<|dy 2)
   (fun _ _ _ _ _=>(dW (i:=0) Dh rfl (Or.inl rfl))) (fun _ _ _ _ _=>fU)
   (fun _ _ _ _ _=>(fA<|eA mw (J.mono z)<|dB (dy 0) dG)) (fun _ _ _ _ _=>(dW (i:=1) Dh rfl (Or.inl rfl))) (fun _ _ _ _ _=>fU)
   (fun _ _ _ _ _=>(dy 1))))))
  (dL<|eB<|dy 1))))
theorem LN:DJ ["row"] ["row"] (eD<|top 44):=by lia
def wX:SV:=
  (dU<|k8 (v1 (ke "tuple")<|be 0)<|k8 (v2 WT (v1 fh<|be 0)<|vC<|.int 2)<|v1 (ke "bool")<|v2 V6 (be 0)<|vC<|.int 0)
def md:C0:=eR 1 1 (wX)
theorem LC{k:Nat}(F:WM K "is_row" "is_row" (top 44) f fd) (z:mg "isinstance"=none) (iO:mg "tuple"=none) (fz:mg "len"=none) (S:mg "bool"=none):Qv P w K mg base WN (k+1) f fd ["row"] (V1 K<|md):=by
 unfold md wX;exact eX F LN fun cdv A outer s H E J=>
  (dL<|eB<|mJ (sC "tuple" z (dy 0)<|rX rfl iO rfl (v:=.ty "tuple") rfl)<|mJ (oM J (iP fz<|dy 0) dM)<|sS<|sC "bool" z (eO (dy 0) dM)<|rX rfl S rfl (v:=.ty "bool") rfl)
theorem MD:DJ ["pairs","paper"] ["pairs","paper"] (eD<|top 45):=by lia
theorem Io:((["row"]:Ŗ)++([]:ő).map (·.1)).Nodup:=by decide +kernel
def yt(z:C0):SV:=
  (dU<|k8 (v1 (ke "list")<|be 1)<|k8 (v2 WT (v1 fh<|be 1)<|v1 fh<|be 0)<|v1 ij<|eW ["row"] [] (WH<|be 1) (dC 0) eC<|vL z<|dz (be 0) dD)
def px(z:C0):C0:=eR 2 2 (yt z)
theorem KN{z:C0}{DO k:Nat}(F:WM K "is_paper_of" "is_paper_of" (top 45) f fd) (vp:Df P w K mg base DO "is_row" ["row"] (V1 K z)) (Jx:DO<=k) (jN:mg "isinstance"=none) (mM:mg "list"=none) (S:mg "len"=none) (gE:mg "all"=none):Qv P w K mg base WN (k+1) f fd ["pairs","paper"] (V1 K<|px z):=by
 unfold px yt;exact eX F MD fun cdv A outer s H E J=>
  (dL (eB (mJ (sC "list" jN (dy 1)<|rX rfl mM rfl (v:=.ty "list") rfl) (mJ (oM J (iP S<|dy 1)<|iP S<|dy 0) (sS (pD gE (ge (own:=["row"]) (cap:=[]) (fw rfl) (fA<|dy 1)
   (fun _ _ _ _ _=>(dW (i:=0) Io rfl (Or.inl rfl))) (fun _ _ _ _ _=>fU)
   (fun _ _ _ _ _=>(eA vp (J.mono Jx)<|dB (dy 0) dG)))))))))
theorem mL:DJ ["many","answers","asks","paper","pairs","i","j","alike","rest"] ["many","answers","asks","paper"] (eD<|top 46):=by lia
def qJ(fH:C0)(gg:C0)(S:C0)(z:C0)(F:C0)(fG:D):SV:=
  (dH (WY (Yd (vT<|v2 Xe (be 2)<|vC<|.int 0)<|gO<|fC<|vL fH<|dz (be 0)<|dz (be 1) dD)
   (dU<|vC<|.bl false)
   WQ)
  (dH (WY (vT<|v2 WT (be 2)<|vC<|.int 0)
   (dU<|k8 (v1 (ke "tuple")<|be 3)<|k8 (v2 WT (v1 fh<|be 3)<|vC<|.int 0)<|v2 WT (vL gg<|dz (be 0)<|dz (be 1) dD)<|vC fG)
   WQ)
  (dH (dQ (vL S<|dz (be 0) dD)<|dC 4)
  (dH (WY (gO<|fC<|vL z<|dz (be 4)<|dz (be 3) dD)
   (dU<|vC<|.bl false)
   WQ)
  (dH (fW (è (be 4)<|be 3) (fc 2<|dY (fc 2<|dY (dC 5)<|dY (dC 6) fk)<|dY (fc 2<|dY (dC 7)<|dY (dC 8) fk) fk)
   (WY (gO<|fC<|vL F<|dz (be 0)<|dz (v2 e9 (be 1)<|vL eQ<|dz (vL eS<|dz (be 5)<|dz (be 6)<|dz (be 7) dD) dD)<|dz (v2 ip (be 2)<|vC<|.int 1)<|dz (be 8) dD)
    (dU<|vC<|.bl false)
    WQ))
  (dU<|vC<|.bl true))))))
def o0(fH:C0)(gg:C0)(S:C0)(z:C0)(F:C0)(fG:D):C0:=eR 9 4 (qJ fH gg S z F fG)
theorem Ey{fH gg gh mQ iD:C0}{jp ld kP zb p5 k:Nat}{fG:D}{z:V}{S:Value}(F:WM K "is_let_by" "is_let_by" (top 46) f fd) (iY:Df P w K mg base jp "can_be" ["many","answers"] (V1 K fH)) (lD:jp<=k) (kA:Df P w K mg base ld "tells" ["many","answers"] (V1 K gg)) (pL:ld<=k) (kh:Df P w K mg base kP "pairs_of" ["many"] (V1 K gh)) (pw:kP<=k) (uu:Df P w K mg base zb "is_paper_of" ["pairs","paper"] (V1 K mQ)) (Ep:zb<=k) (oE:Df P w K mg base p5 "is_let_by" ["many","answers","asks","paper"] (V1 K iD)) (vA:p5<=k) (gf:mg "OPEN"=some S/\RelV z S/\∀W,DR K W fG z) (jN:mg "isinstance"=none) (iO:mg "tuple"=none) (fz:mg "len"=none) (v6:mg "zip"=none):Qv P w K mg base WN (k+1) f fd ["many","answers","asks","paper"] (V1 K<|o0 fH gg gh mQ iD fG):=by
 unfold o0 qJ;exact eX F mL fun cdv A outer s H E J=>
  (dJ (eZ (PW.pt<|lM (pX (dy 2) dM)<|lN<|jR<|hU<|eA iY (J.mono lD)<|dB (dy 0)<|dB (dy 1) dG)
   (dL<|eB gn)
   eY)
  (dJ (eZ (ga J (dy 2) dM)
   (dL<|eB<|mJ (sC "tuple" jN (dy 3)<|rX rfl iO rfl (v:=.ty "tuple") rfl)<|mJ (oM J (iP fz<|dy 3) dM)<|sS<|oM J (eA kA (J.mono pL)<|dB (dy 0)<|dB (dy 1) dG)<|i8 gf.1 gf.2.1 gf.2.2)
   eY)
  (dJ (eI (i:=4) mL.nd rfl (Or.inl rfl) (eA kh (J.mono pw)<|dB (dy 0) dG))
  (dJ (eZ (jR<|hU<|eA uu (J.mono Ep)<|dB (dy 4)<|dB (dy 3) dG)
   (dL<|eB gn)
   eY)
  (dJ (gD SR rfl (HX v6 (dy 4)<|dy 3) (gH (n:=2)<|eU (gH (n:=2)<|eU (dW (i:=5) mL.nd rfl (Or.inl rfl))<|eU (dW (i:=6) mL.nd rfl (Or.inl rfl)) gL)<|eU (gH (n:=2)<|eU (dW (i:=7) mL.nd rfl (Or.inl rfl))<|eU (dW (i:=8) mL.nd rfl (Or.inl rfl)) gL) gL)
   (dL (eZ (jR<|hU<|eA oE (J.mono vA)<|dB (dy 0)<|dB (gl (dy 1)<|fm<|dB (fu<|dB (dy 5)<|dB (dy 6)<|dB (dy 7) dG) dG)<|dB (i4 (dy 2) dM)<|dB (dy 8) dG)
    (dL<|eB gn)
    eY)))
  (dL<|eB gn))))))
theorem FC:DJ ["many","asks","paper"] ["many","asks","paper"] (eD<|top 47):=by lia
def yN(fJ:C0)(F:C0)(S:D)(z:D):SV:=
  (dH (g7<|vL fJ<|dz (be 0)<|dz (vC z)<|dz (vC S) dD)
  (dU<|vL F<|dz (be 0)<|dz (vL eQ dD)<|dz (be 1)<|dz (be 2) dD))
def sY(fJ:C0)(F:C0)(S:D)(z:D):C0:=eR 3 3 (yN fJ F S z)
theorem F8{fJ iD:C0}{jd p5 k:Nat}{iA:D}{z:V}{S:Value}{iN:D}{WC:V}{WD:Value}(F:WM K "holds" "holds" (top 47) f fd) (iV:Df P w K mg base jd "check_many" ["many","least","greatest"] (V1 K fJ)) (l5:jd<=k) (oE:Df P w K mg base p5 "is_let_by" ["many","answers","asks","paper"] (V1 K iD)) (vA:p5<=k) (jw:mg "GREATEST_THINGS"=some S/\RelV z S/\∀W,DR K W iA z) (jO:mg "LEAST_THINGS"=some WD/\RelV WC WD/\∀W,DR K W iN WC):Qv P w K mg base WN (k+1) f fd ["many","asks","paper"] (V1 K<|sY fJ iD iA iN):=by
 unfold sY yN;exact eX F FC fun cdv A outer s H E J=>
  (dJ (kN<|eA iV (J.mono l5)<|dB (dy 0)<|dB (i8 jO.1 jO.2.1 jO.2.2)<|dB (i8 jw.1 jw.2.1 jw.2.2) dG)
  (dL<|eB<|eA oE (J.mono vA)<|dB (dy 0)<|dB (fm dG)<|dB (dy 1)<|dB (dy 2) dG))
theorem wy:DJ ["many","answers","asks","i","j","alike","rest"] ["many","answers","asks","i","j"] (eD<|top 48):=by lia
def uj(z:C0):SV:=
  (dH (fW (η<|vL eS<|dz (vC<|.bl true)<|dz (vC<|.bl false) dD) (dC 5)
   (dH (dQ (vL z<|dz (be 0)<|dz (v2 e9 (be 1)<|vL eQ<|dz (vL eS<|dz (be 3)<|dz (be 4)<|dz (be 5) dD) dD)<|dz (v2 ip (be 2)<|vC<|.int 1) dD)<|dC 6)
   (WY (vT<|v2 kf (be 6)<|vC .non)
    (dU<|vL eS<|dz (be 5)<|dz (be 6) dD)
    WQ)))
  (dU<|vC .non))
def p6(z:C0):C0:=eR 7 5 (uj z)
theorem OL{S:C0}{z k:Nat}(F:WM K "row_behind" "row_behind" (top 48) f fd) (pS:Df P w K mg base z "paper_behind" ["many","answers","asks"] (V1 K S)) (xF:z<=k):Qv P w K mg base WN (k+1) f fd ["many","answers","asks","i","j"] (V1 K<|p6 S):=by
 unfold p6 uj;exact eX F wy fun cdv A outer s H E J=>
  (dJ (gD SR rfl (pc<|fu<|dB gn<|dB gn dG) (dW (i:=5) wy.nd rfl (Or.inl rfl))
   (dJ (eI (i:=6) wy.nd rfl (Or.inl rfl) (eA pS (J.mono xF)<|dB (dy 0)<|dB (gl (dy 1)<|fm<|dB (fu<|dB (dy 3)<|dB (dy 4)<|dB (dy 5) dG) dG)<|dB (i4 (dy 2) dM) dG))
   (dL (eZ (Bx (dy 6) g9)
    (dL<|eB<|fu<|dB (dy 5)<|dB (dy 6) dG)
    eY))))
  (dL<|eB g9))
theorem pF:DJ ["many","answers","asks","paper","i","j","row"] ["many","answers","asks"] (eD<|top 49):=by lia
def sA(fH:C0)(S:C0)(F:C0)(z:C0)(fG:D):SV:=
  (dH (WY (gO<|fC<|vL fH<|dz (be 0)<|dz (be 1) dD)
   (dU<|vC .non)
   WQ)
  (dH (WY (vT<|v2 WT (be 2)<|vC<|.int 0)
   (dU<|YJ (vT<|v2 WT (vL S<|dz (be 0)<|dz (be 1) dD)<|vC fG) (vL eS dD)<|vC .non)
   WQ)
  (dH (dQ (vL io dD)<|dC 3)
  (dH (fW (WH<|vL F<|dz (be 0) dD) (fc 2<|dY (dC 4)<|dY (dC 5) fk)
   (dH (dQ (vL z<|dz (be 0)<|dz (be 1)<|dz (be 2)<|dz (be 4)<|dz (be 5) dD)<|dC 6)
   (dH (WY (vT<|v2 jc (be 6)<|vC .non)
    (dU<|vC .non)
    WQ)
   (g7<|il gM (be 3)<|be 6))))
  (dU<|tI<|be 3)))))
def qj(fH:C0)(S:C0)(F:C0)(z:C0)(fG:D):C0:=eR 7 3 (sA fH S F z fG)
theorem Qx{fH gg gh mD:C0}{jp ld kP Dc k:Nat}{fG:D}{z:V}{S:Value}(F:WM K "paper_behind" "paper_behind" (top 49) f fd) (iY:Df P w K mg base jp "can_be" ["many","answers"] (V1 K fH)) (lD:jp<=k) (kA:Df P w K mg base ld "tells" ["many","answers"] (V1 K gg)) (pL:ld<=k) (kh:Df P w K mg base kP "pairs_of" ["many"] (V1 K gh)) (pw:kP<=k) (x8:Df P w K mg base Dc "row_behind" ["many","answers","asks","i","j"] (V1 K mD)) (JQ:Dc<=k) (gf:mg "OPEN"=some S/\RelV z S/\∀W,DR K W fG z):Qv P w K mg base WN (k+1) f fd ["many","answers","asks"] (V1 K<|qj fH gg gh mD fG):=by
 unfold qj sA;exact eX F pF fun cdv A outer s H E J=>
  (dJ (eZ (jR<|hU<|eA iY (J.mono lD)<|dB (dy 0)<|dB (dy 1) dG)
   (dL<|eB g9)
   eY)
  (dJ (eZ (ga J (dy 2) dM)
   (dL<|eB<|oP (ga J (eA kA (J.mono pL)<|dB (dy 0)<|dB (dy 1) dG)<|i8 gf.1 gf.2.1 gf.2.2) (fu dG) g9)
   eY)
  (dJ (eI (i:=3) pF.nd rfl (Or.inl rfl) (qd dG))
  (dJ (gD SR rfl (fA<|eA kh (J.mono pw)<|dB (dy 0) dG) (gH (n:=2)<|eU (dW (i:=4) pF.nd rfl (Or.inl rfl))<|eU (dW (i:=5) pF.nd rfl (Or.inl rfl)) gL)
   (dJ (eI (i:=6) pF.nd rfl (Or.inl rfl) (eA x8 (J.mono JQ)<|dB (dy 0)<|dB (dy 1)<|dB (dy 2)<|dB (dy 4)<|dB (dy 5) dG))
   (dJ (eZ (rJ (dy 6) g9)
    (dL<|eB g9)
    eY)
   (dL<|kN<|sK (dy 3)<|dy 6))))
  (dL<|eB<|Fx<|dy 3)))))
theorem um:DJ ["many","asks","tree"] ["many"] (eD<|top 50):=by lia
def wC(fJ:C0)(z:C0)(S:C0)(iA:D)(F:D):SV:=
  (dH (g7<|vL fJ<|dz (be 0)<|dz (vC F)<|dz (vC iA) dD)
  (dH (dQ (vL z<|dz (be 0) dD)<|fc 2<|dY (dC 1)<|dY (dC 2) fk)
  (dU<|vL S<|dz (be 0)<|dz (vL eQ dD)<|dz (v2 ip (be 1)<|vC<|.int 1) dD)))
def sI(fJ:C0)(z:C0)(S:C0)(iA:D)(F:D):C0:=eR 3 1 (wC fJ z S iA F)
theorem IA{fJ ig iH:C0}{jd oJ oq k:Nat}{iA:D}{z:V}{S:Value}{iN:D}{WC:V}{WD:Value}(F:WM K "holding_paper" "holding_paper" (top 50) f fd) (iV:Df P w K mg base jd "check_many" ["many","least","greatest"] (V1 K fJ)) (l5:jd<=k) (my:Df P w K mg base oJ "fewest" ["many"] (V1 K ig)) (tY:oJ<=k) (pS:Df P w K mg base oq "paper_behind" ["many","answers","asks"] (V1 K iH)) (xF:oq<=k) (jw:mg "GREATEST_THINGS"=some S/\RelV z S/\∀W,DR K W iA z) (jO:mg "LEAST_THINGS"=some WD/\RelV WC WD/\∀W,DR K W iN WC):Qv P w K mg base WN (k+1) f fd ["many"] (V1 K<|sI fJ ig iH iA iN):=by
 unfold sI wC;exact eX F um fun cdv A outer s H E J=>
  (dJ (kN<|eA iV (J.mono l5)<|dB (dy 0)<|dB (i8 jO.1 jO.2.1 jO.2.2)<|dB (i8 jw.1 jw.2.1 jw.2.2) dG)
  (dJ (lm (eA my (J.mono tY)<|dB (dy 0) dG)<|gH (n:=2)<|eU (dW (i:=1) um.nd rfl (Or.inl rfl))<|eU (dW (i:=2) um.nd rfl (Or.inl rfl)) gL)
  (dL<|eB<|eA pS (J.mono xF)<|dB (dy 0)<|dB (fm dG)<|dB (i4 (dy 1) dM) dG)))
end
def dA(a:An):D:=.tup [.int (a.1:Int),.int (a.2.1:Int),.bl a.2.2]
def Ls(O:M)(d:D)(ds:List D):Prop:=fq O d=some ds/\∃c,Xj O d=some (ds,c)/\eL c O/\∀Z6,Gr O Z6->eL c Z6
def Ls.lst:Ls O (.lst ds) ds:=⟨rfl,none,rfl,trivial,fun _ _=>trivial⟩
def Ls.ref(h:O[k]?=some (some<|.lst ds)):Ls O (.ref k) ds:=⟨mO h,_,xg h,h,fun _ g=>g.get h⟩
def u9(h:Ls O d ds):(∃k,d=.ref k/\O[k]?=some (some<|.lst ds))\/(d=.lst ds)\/d=.scr ds:=by
 obtain⟨h1,_⟩:=h;cases d with
 |lst xs=>cases h1;exact .inr (.inl rfl)
 |scr xs=>cases h1;exact .inr (.inr rfl)
 |ref k=>
  simp only[fq] at h1;split at h1
  .rename_i xs H;cases h1;exact .inl ⟨k,rfl,H⟩
  .cases h1
 |_=>cases h1
def Ls.gr(h:Ls O d ds)(g:Gr O Z6):Ls Z6 d ds:=by
 rcases u9 h with⟨k,rfl,H⟩|rfl|rfl
 .exact .ref (g.get H)
 .exact .lst
 .exact⟨rfl,none,rfl,trivial,fun _ _=>trivial⟩
theorem Xd(Pv:G->M->Prop):∀(its:List D) (B:G) (O:M),Pv B O->
  (∀d∈its,∀B O,Pv B O->∃ZY Z5 F Z4,g d B O=some (ZY,Z5)/\body ZY Z5=some (.nx,F,Z4)/\eL c Z4/\Pv F Z4)->∃z Z6,ka c g body its B O=some (.nx,z,Z6)/\Pv z Z6
 | [],B,O,h,_=>⟨B,O,rfl,h⟩|d::r,B,O,h,H=>by obtain⟨ZY,Z5,F,Z4,h1,h2,S,P⟩:=H d nofun B O h;obtain⟨z,Z6,L,J⟩:=Xd Pv r F Z4 P fun d hd=>H d (by simp[hd]);refine⟨z,Z6,?_,J⟩;simp only[ka,h1,bs,h2];rw[iw S,L]
def Xi(n:Nat)(as:ś):Prop:=∀a∈as,a.1<n/\a.2.1<n/\a.1≠a.2.1
def Xi.inN(h:Xi n as):Ϣ n as:=fun a H=>⟨(h a H).1,(h a H).2.1⟩
def PN(S:Ls O d (as.map dA))(F:Xi n as):rn C [.int (n:Int),d] O=some (.ok .non,O):=by
 obtain⟨h1,c,h2,h3,h4⟩:=S;have main:=Xd (c:=c) (g:=(fc 3<|dY (dC 2)<|dY (dC 3)<|dY (dC 4) fk)) (body:=(fS (ib (YQ<|gO<|j4 (vT<|gX aa Xe (vC<|.int 0) (be 2)<|be 0)<|vT<|gX aa Xe (vC<|.int 0) (be 3)<|be 0)
    (ku C<|(be 2)::((be 3)::((be 0)::[])))
    (Xn WQ))
   (ib (YQ<|vT<|v2 WT (be 2)<|be 3)
    (ku C<|(be 2)::[])
    (Xn WQ))))
  (fun B Z6=>Z6=O/\∃L J H,B=[some (.int (n:Int)),some d,L,J,H]) (as.map dA) [some (.int (n:Int)),some d,none,none,none] O ⟨rfl,_,_,_,rfl⟩ ?_
 .obtain⟨ZZ,Z6,e,rfl,L,J,H,rfl⟩:=main;refine zi (ZY:=[some (.int (n:Int)),some d,L,J,H]) rfl ?_;unfold xB;show fS _ _ [some (.int (n:Int)),some d,none,none,none] Z6=_;have t:vT (v2 Xe (be 0)<|vC<|.int 0) [some (.int (n:Int)),some d,none,none,none] Z6=some (false,Z6):=by
   have:¬((n:Int)<0):=by omega
   simp[Xe,X8,this]
  rw[oZ (ZY:=[some (.int (n:Int)),some d,none,none,none]) (Z5:=Z6) ((oS<|qZ t).trans (lU (o:=.nx) rfl))];have hi:WH (be 1) [some (.int (n:Int)),some d,none,none,none] Z6=some ((as.map dA,c),Z6):=by simp[h2]
  show(WH (be 1) _ Z6).bind _=_;rw[hi,bs];exact e
 .rintro x z B Z6 ⟨rfl,L,J,H,rfl⟩;obtain⟨a,ha,rfl⟩:=SU.mp z;obtain⟨q1,q2,q3⟩:=F a ha;refine⟨[some (.int (n:Int)),some d,some (.int (a.1:Int)),some (.int (a.2.1:Int)),some (.bl a.2.2)],Z6,[some (.int (n:Int)),some d,some (.int (a.1:Int)),some (.int (a.2.1:Int)),some (.bl a.2.2)],Z6,rfl,?_,h3,rfl,some (.int (a.1:Int)),some (.int (a.2.1:Int)),some (.bl a.2.2),rfl⟩;have t1:(gO<|j4 (vT<|gX aa Xe (vC<|.int 0) (be 2)<|be 0)<|vT<|gX aa Xe (vC<|.int 0) (be 3)<|be 0) [some (.int (n:Int)),some d,some (.int (a.1:Int)),some (.int (a.2.1:Int)),some (.bl a.2.2)] Z6=some (false,Z6):=by
   have b1:(0:Int)<=(a.1:Int):=by omega
   have b2:(0:Int)<=(a.2.1:Int):=by omega
   have b3:(a.1:Int)<(n:Int):=by omega
   have b4:(a.2.1:Int)<(n:Int):=by omega
   simp[aa,Xe,X8,b1,b2,b3,b4]
  have P:vT (v2 WT (be 2)<|be 3) [some (.int (n:Int)),some d,some (.int (a.1:Int)),some (.int (a.2.1:Int)),some (.bl a.2.2)] Z6=some (false,Z6):=by
   have:¬((a.1:Int)=(a.2.1:Int)):=by omega
   simp[WT,Wu,this]
  rw[oZ (ZY:=[some (.int (n:Int)),some d,some (.int (a.1:Int)),some (.int (a.2.1:Int)),some (.bl a.2.2)]) (Z5:=Z6) ((oS<|qZ t1).trans (lU (o:=.nx) rfl))];exact(oS<|qZ P).trans (lU (o:=.nx) rfl)
def Wr(z:ŕ):List (Key×D):=z.map fun p=>(Sum.inl (p.1:Int),D.int (p.2:Int))
def yj(F:ŕ)(x:Nat):gK (Wr F) (Sum.inl (x:Int))=(eJ F x).map fun r=>D.int (r:Int):=by
 unfold gK eJ Wr;induction F with
 |nil=>rfl|cons p r J=>
  rw[Sz,SH,SH];by_cases z:p.1=x
  .subst z;simp
  .have H:¬((Sum.inl (p.1:Int):Key)=Sum.inl (x:Int)):=fun e=>z (by injection e with e;omega);simp only[z,H,UI];exact J
def Du(v:D)(h:gK kvs k=none):g6 kvs k v=kvs++[(k,v)]:=by unfold g6;rw[if_neg];intro J;obtain⟨H,hm,he⟩:=S7.mp J;unfold gK at h;rw[U8,TV] at h;exact h H hm he
def DC{z:ŕ}{k:Nat}(v:Nat)(h:k∉z.map (·.1)):g6 (Wr z) (Sum.inl (k:Int)) (.int (v:Int))=Wr (z++[(k,v)]):=by rw[Du _ (by rw[yj,XN.mpr h];rfl)];simp[Wr]
theorem yX{o w:Nat}{n:Nat}:∀(F done:ŕ) (o1 o2:Option D) (O:M),O[n]?=some (some<|.dK<|Wr<|fT done o w)->((done++F).map (·.1)).Nodup->(done++F).length<=100000->
  jt n none (fc 2<|dY (dC 0)<|dY (dC 1) fk) eC (be 0) (YJ (vT<|v2 WT (be 1)<|be 2) (be 3)<|be 1) ((Wr F).map fun S=>.tup [p8 S.1,S.2]) [o1,o2,some (.int (o:Int)),some (.int (w:Int))] O
   =some (O.set n<|some<|.dK<|Wr<|fT (done++F) o w)
 | [],done,o1,o2,O,h,_,_=>by
  simp only[Wr,U4,jt,Tq];congr 1;apply List.ext_getElem?;intro j;by_cases e:j=n
  .subst e;rw[h,gS h];rfl
  .rw[h8 e]
 |p::F,done,o1,o2,O,h,J,L=>by
  have hp:p.1∉(fT done o w).map (·.1):=by rw[zQ];rw[TN,Uz] at J;exact fun hm=>J.2.2 p.1 hm p.1 nofun rfl
  have e1:fT done o w++[(p.1,if p.2=o then w else p.2)]=fT (done++[p]) o w:=by simp[fT]
  have H:=gS (y:=some (Z9.dK<|Wr<|fT (done++[p]) o w)) h;have ih:=yX (n:=n) (o:=o) (w:=w) F (done++[p]) (some<|.int (p.1:Int)) (some<|.int (p.2:Int)) (O.set n<|some<|.dK<|Wr<|fT (done++[p]) o w) H (by simpa using J) (by simpa using L);have hg:fc 2 (dY (dC 0)<|dY (dC 1) fk) (.tup [.int (p.1:Int),.int (p.2:Int)]) [o1,o2,some (.int (o:Int)),some (.int (w:Int))] O=some ([some (.int (p.1:Int)),some (.int (p.2:Int)),some (.int (o:Int)),some (.int (w:Int))],O):=rfl;have hv:YJ (vT<|v2 WT (be 1)<|be 2) (be 3) (be 1) [some (.int (p.1:Int)),some (.int (p.2:Int)),some (.int (o:Int)),some (.int (w:Int))] O=some (.int ((if p.2=o then w else p.2:Nat):Int),O):=by
   by_cases z:p.2=o
   .subst z;simp[WT,Wu]
   .have P:¬((p.2:Int)=(o:Int)):=by omega
    simp[WT,Wu,z,P]
  have hk:be 0 [some (.int (p.1:Int)),some (.int (p.2:Int)),some (.int (o:Int)),some (.int (w:Int))] O=some (.int (p.1:Int),O):=rfl;show jt n none _ eC (be 0) _ (.tup [.int (p.1:Int),.int (p.2:Int)]::(Wr F).map fun S=>.tup [p8 S.1,S.2]) _ O=_;simp only[jt,hg,bs];show(eC _ _).bind _=_;simp only[eC,bs,if_true,hk,hv,jE,gc,h];rw[iw ⟨by simp[Wr,fT];simp at L;omega,trivial⟩,DC _ hp,e1];rw[ih];congr 1;rw[List.set_set,U5];rfl
theorem Kb{h o w:Nat}{z:ŕ}{O:M}(hh:O[h]?=some (some<|.dK<|Wr z))(F:Yc z)(S:z.length<=100000):
  j2 [.ref h,.int (o:Int),.int (w:Int)] O=some (.ref O.length,O.set h none++[some (.dK<|Wr<|fT z o w)]):=by
 have hlen:(O.set h none).length=O.length:=Uk ..;have P:(O.set h none++[some (Z9.dK [])])[O.length]?=some (some<|.dK<|Wr<|fT [] o w):=by rw[Tb ⋯,hlen];simp[Wr,fT]
 have e:=yX (o:=o) (w:=w) (n:=O.length) z [] none none (O.set h none++[some (.dK [])]) P (by simpa[Yc] using F) (by simpa using S);have J:rT ["thing","home"] [("old",1),("new",2)] (be 0) (fc 2<|dY (dC 0)<|dY (dC 1) fk) eC (be 0) (YJ (vT<|v2 WT (be 1)<|be 2) (be 3)<|be 1) [some (.ref h),some (.int (o:Int)),some (.int (w:Int))] O=some (.ref O.length,O.set h none++[some (.dK<|Wr<|fT z o w)]):=by
  unfold rT;have H:be 0 [some (.ref h),some (.int (o:Int)),some (.int (w:Int))] O=some (.ref h,O):=rfl;rw[H,bs];show(gc O<|.ref h).bind _=_;simp only[gc,hh,bs];rw[iw (by simp[Wr];omega)];have L:ff (["thing","home"]:Ŗ) [("old",1),("new",2)] [some (.ref h),some (.int (o:Int)),some (.int (w:Int))]=[none,none,some (.int (o:Int)),some (.int (w:Int))]:=rfl;rw[L,e,bs];congr 2;have:(O.set h none++[some (Z9.dK [])]).set O.length (some<|.dK<|Wr<|fT ([]++z) o w)=O.set h none++[some (.dK<|Wr<|fT z o w)]:=by rw[List.set_append_right _ _ ⋯,hlen];simp
  exact this
 unfold j2 yh;rw[ju,if_pos (show [D.ref h,D.int (o:Int),D.int (w:Int)].length=3 from rfl)];show gW (dU _ [some (.ref h),some (.int (o:Int)),some (.int (w:Int))] O)=_;rw[m3,J];rfl
structure On (s:Nat) (O Z6:M):Prop where
 len:Z6.length=O.length
 at_:∀j,j≠s->Z6[j]?=O[j]?
def On.refl:On s O O:=⟨rfl,fun _ _=>rfl⟩
def N3:On s O (O.set s o):=⟨by simp,fun j n=>h8 n⟩
def On.trans(h:On s O Z5)(g:On s Z5 Z4):On s O Z4:=⟨g.len.trans h.len,fun j n=>(g.at_ j n).trans (h.at_ j n)⟩
def On.gr(g:Gr O Z5)(h:On s Z5 Z4)(z:O.length<=s):Gr O Z4:=⟨by rw[h.len];exact g.len,fun j H=>by rw[h.at_ j ⋯];exact g.at_ j H⟩
theorem AB{h x:Nat}{z:ŕ}{O:M}{B:G}{ek:EV}(h0:B[1]?=some (some<|.ref h))(S:ek B O=some (.int (x:Int),O))(F:O[h]?=some (some<|.dK<|Wr z))(hl:z.length<100000):
  ∃d Z6,iC (be 1) ek ek B O=some (d,Z6)/\Z6[h]?=some (some<|.dK<|Wr<|eM z x)/\On h O Z6:=by
 have J:be 1 B O=some (.ref h,O):=yu h0;have hd:gc O (.ref h)=some (Wr z):=by simp only[gc,F]
 have hlen:(Wr z).length<1000000:=by simp[Wr];omega
 unfold iC;rw[J,bs];simp only[hd,bs,S,jE,if_pos hlen,yj];cases H:eJ z x with
 |some r=>
  refine⟨.int (r:Int),O,rfl,?_,.refl⟩;unfold eM;rw[H];exact F
 |none=>
  refine⟨.int (x:Int),O.set h (some<|.dK<|g6 (Wr z) (Sum.inl (x:Int))<|.int (x:Int)),rfl,?_,N3⟩;rw[gS F,DC _ (XN.mp H)];unfold eM;rw[H];rfl
def rV(S:O[h]?=some (some<|.dK<|Wr F))(z:eJ F x=some r):hX (.ref h) (.int (x:Int)) O=some (.int (r:Int),O):=by unfold hX;simp only[gc,S,bs,jE,yj,z];rfl
abbrev qP:SV:=(dH (g7<|iC (be 1) (be 2)<|be 2)
   (dH (g7<|iC (be 1) (be 3)<|be 3)
   (WY (fC<|be 4)
    (dQ (vL j2<|dz (be 1)<|dz (v2 hX (be 1)<|be 3)<|dz (v2 hX (be 1)<|be 2) dD)<|dC 1)
    WQ)))
theorem Oh(hh:O[h]?=some (some<|.dK<|Wr z))(hn:Yc z)(hl:z.length<10000):
  ∃h' Z6,qP [some d,some (.ref h),some (.int (a.1:Int)),some (.int (a.2.1:Int)),some (.bl a.2.2)] O=some (.nx,[some d,some (.ref h'),some (.int (a.1:Int)),some (.int (a.2.1:Int)),some (.bl a.2.2)],Z6)/\Z6[h']?=some (some<|.dK<|Wr<|iF z a)/\(∀F,Gr F O->F.length<=h->Gr F Z6/\F.length<=h'):=by
 obtain⟨d1,Z5,e1,h1,o1⟩:=AB (x:=a.1) (B:=[some d,some (.ref h),some (.int (a.1:Int)),some (.int (a.2.1:Int)),some (.bl a.2.2)]) (ek:=be 2) rfl rfl hh ⋯;have l1:=rR z a.1;obtain⟨d2,Z4,e2,P,o2⟩:=AB (x:=a.2.1) (B:=[some d,some (.ref h),some (.int (a.1:Int)),some (.int (a.2.1:Int)),some (.bl a.2.2)]) (ek:=be 3) (O:=Z5) rfl rfl h1 ⋯;have l2:=rR (eM z a.1) a.2.1;have i':qP [some d,some (.ref h),some (.int (a.1:Int)),some (.int (a.2.1:Int)),some (.bl a.2.2)] O=WY (fC<|be 4) (dQ (vL j2<|dz (be 1)<|dz (v2 hX (be 1)<|be 3)<|dz (v2 hX (be 1)<|be 2) dD)<|dC 1) WQ [some d,some (.ref h),some (.int (a.1:Int)),some (.int (a.2.1:Int)),some (.bl a.2.2)] Z4:=by unfold qP;rw[gY,rB,e1];show lW _ (some (.nx,_,Z5))=_;rw[lb,gY,rB,e2];rfl
 rw[i'];have L:fC (be 4) [some d,some (.ref h),some (.int (a.1:Int)),some (.int (a.2.1:Int)),some (.bl a.2.2)] Z4=some (a.2.2,Z4):=by simp
 cases J:a.2.2 with
 |false=>
  rw[J] at L;refine⟨h,Z4,by rw[lf,L];rfl,?_,fun F g0 H=>⟨On.gr g0 (o1.trans o2) H,H⟩⟩;rw[P];unfold iF;simp[J]
 |true=>
  rw[J] at L;have vi:∃r,eJ (eM (eM z a.1) a.2.1) a.1=some r:=by
   rw[mv];split
   .exact⟨_,rfl⟩
   .rw[mv,if_pos rfl];exact⟨_,rfl⟩
  have vj:∃r,eJ (eM (eM z a.1) a.2.1) a.2.1=some r:=by rw[mv,if_pos rfl];exact⟨_,rfl⟩
  obtain⟨ri,hi⟩:=vi;obtain⟨rj,hj⟩:=vj;have nd2:=sZ (sZ hn a.1) a.2.1;have em:=Kb (o:=rj) (w:=ri) P nd2 ⋯;refine⟨Z4.length,Z4.set h none++[some (.dK<|Wr<|fT (eM (eM z a.1) a.2.1) rj ri)],?_,?_,fun F g0 H=>?_⟩
  .rw[lf,L];show dQ _ _ _ _=_;have gj:=rV P hj;have gi:=rV P hi;simp[gj,gi,em]
  .have:(Z4.set h none).length=Z4.length:=Uk ..;rw[Tb ⋯,this];simp[iF,J,hi,hj]
  .have S:=On.gr g0 (o1.trans o2) H;refine⟨⟨by simp;have:=S.len;omega,fun j hj'=>?_⟩,S.len⟩;have hlt:j<Z4.length:=by have:=S.len;omega
   rw[SM (by simpa using hlt),h8 ⋯];exact S.at_ j hj'
def Gv(hl:Ls O d (as.map dA))(hs:as.length<=1000):∃h Z6,nH j2 [d] O=some (.ref h,Z6)/\Z6[h]?=some (some<|.dK<|Wr<|fQ as)/\Gr O Z6:=by
 obtain⟨h1,c,P,h3,h4⟩:=hl;have main:=sB (c:=c) (g:=(fc 3<|dY (dC 2)<|dY (dC 3)<|dY (dC 4) fk)) (body:=qP)
  (fun i B Z6=>∃h S F z,B=[some d,some (.ref h),S,F,z]/\Z6[h]?=some (some<|.dK<|Wr<|fQ<|as.take i)/\Gr O Z6/\O.length<=h)
  (as.map dA) 0 [some d,some (.ref O.length),none,none,none] (O++[some (.dK [])]) ⟨O.length,_,_,_,rfl,by simp[Wr,fQ],Wn,Sm _⟩ ?_
 .obtain⟨ZZ,Z6,e,h,S,F,z,rfl,L,g,_⟩:=main;rw[Um,Sv,VG] at L;refine⟨h,Z6,?_,L,g⟩;unfold nH yI;rw[ju,if_pos (show [d].length=1 from rfl)];show gW (dH _ _ [some d,none,none,none,none] O)=_;have s1:dQ pf (dC 1) [some d,none,none,none,none] O=some (.nx,[some d,some (.ref O.length),none,none,none],O++[some (.dK [])]):=rfl;have hi:WH (be 0) [some d,some (.ref O.length),none,none,none] (O++[some (.dK [])])=some ((as.map dA,c),O++[some (.dK [])]):=by
   have hL:Ls (O++[some (.dK [])]) d (as.map dA):=Ls.gr ⟨h1,c,P,h3,h4⟩ Wn;have:Xj (O++[some (.dK [])]) d=some (as.map dA,c):=by
    cases d with
    |ref k=>
     rcases u9 (O:=O) (d:=.ref k) ⟨h1,c,P,h3,h4⟩ with⟨k',e,hk⟩|e|e
     .cases e;rw[xg hk] at P;rw[xg ((Wn (ex:=[some (.dK [])])).get hk)];exact P
     .cases e
     .cases e
    |_=>exact P
   simp[this]
  rw[gY,s1,lb,gY,lR,hi,mf,e];rfl
 .rintro j x B Z5 H ⟨h,S,F,z,rfl,L,g,hle⟩;rw[Um] at L;rw[S0] at H;cases ha:as[j]? with
  |none=>rw[ha] at H;cases H
  |some a=>
   rw[ha] at H;cases H;have hlen:(fQ<|as.take j).length<10000:=by have:=NM (as.take j);have:=List.length_take_le j as;rw[UG] at*;omega
   obtain⟨h',Z4,e,hh2,hg⟩:=Oh (d:=d) (a:=a) L (LY _) hlen;obtain⟨g2,J⟩:=hg O g hle;refine⟨[some d,some (.ref h),some (.int (a.1:Int)),some (.int (a.2.1:Int)),some (.bl a.2.2)],Z5,_,Z4,rfl,e,h4 _ g2,h',some (.int (a.1:Int)),some (.int (a.2.1:Int)),some (.bl a.2.2),rfl,?_,g2,J⟩;rw[hh2,Um,Qj as j a ha]
theorem sg{c:Ck}{g:GV}{tc:BV}{te:EV}{α:Type}{dn:α->D}{keep:α->Bool}{val:α->D}(Pv:G->Prop){O:M}(z:eL c O):∀(l:List α) (B:G),Pv B->
  (∀x∈l,∀B,Pv B->∃ZY,g (dn x) B O=some (ZY,O)/\tc ZY O=some (keep x,O)/\(keep x=true->te ZY O=some (val x,O))/\Pv ZY)->
  fo c g tc te (l.map dn) B O=some ((l.filter keep).map val,O)
 | [],_,_,_=>rfl|x::r,B,h,L=>by
  obtain⟨ZY,h1,h2,S,F⟩:=L x nofun B h;have J:=sg Pv z r ZY F fun x P=>L x (by simp[P]);simp only[Sz,fo,h1,bs,h2];cases H:keep x with
  |true=>simp only[if_true,S H,bs,iw z,J,T9 H,Sz]|false=>simp only[SN,if_false,iw z,J,Ue,H]
def zU{α:Type}(l:List α):l.filter (fun _=>true)=l:=TJ.mpr nofun
section
variable {α:Type} {own:Str} {cap:ő} {eE:G} {iv:IV} {tc:BV} {te:EV} {B:G} {O:M} {c:Ck} {l:List α} {dn:α->D}
theorem MI(hi:iv B O=some ((l.map dn,c),O))(S:l.length<=1000000)(hc:eL c O)(he:ff [own] cap B=none::eE)
  (F:∀x∈l,tc (some (dn x)::eE) O=some (keep x,O)) (z:∀x∈l,keep x=true->te (some (dn x)::eE) O=some (val x,O)):eW [own] cap iv (dC 0) tc te B O=some (.lst ((l.filter keep).map val),O):=by
 rw[yF,hi,xP,if_pos (by simpa using S),he];rw[sg (g:=dC 0) (tc:=tc) (te:=te) (keep:=keep) (val:=val) (fun B=>∃o,B=o::eE) hc l (none::eE) ⟨none,rfl⟩ (by rintro x H B ⟨o,rfl⟩;exact⟨some (dn x)::eE,rfl,F x H,z x H,_,rfl⟩)]
 rfl
theorem vV(hi:iv B O=some ((l.map dn,c),O))(F:l.length<=1000000)(S:eL c O)(he:ff [own] cap B=none::eE)
  (z:∀x∈l,te (some (dn x)::eE) O=some (val x,O)):eW [own] cap iv (dC 0) eC te B O=some (.lst (l.map val),O):=by
 rw[MI (keep:=fun _=>true) (val:=val) hi F S he (fun _ _=>rfl) (fun x H _=>z x H),zU]
end
def Ls.iv{O:M}{d:D}{ds:List D}{B:G}{i:Nat}(h:Ls O d ds)(z:B[i]?=some (some d)):∃c,WH (be i) B O=some ((ds,c),O)/\eL c O/\∀Z6,Gr O Z6->eL c Z6:=by obtain⟨h1,c,L,J,H⟩:=h;exact⟨c,by unfold WH;rw[yu z,bs];show(Xj O d).bind _=_;rw[L,bs],J,H⟩
section
variable {C CF:Addr} {n:Nat} {d:D} {as:ś} {O:M}
abbrev kn(C:Addr):FX:=vF (nH j2) (rn C)
abbrev Dg(C CF:Addr):FX:=uT (kn C) CF
theorem xS(z:Ls O d (as.map dA))(hv:Xi n as)(hs:as.length<=1000):∃Z6,kn C [.int (n:Int),d] O=some (.ok (.bl<|fj as),Z6)/\Gr O Z6:=by
 obtain⟨h,Z5,e1,hh,g⟩:=Gv z hs;refine⟨Z5,?_,g⟩;have L:=PN (C:=C) z hv;obtain⟨c,hi,J,_⟩:=(z.gr g).iv (B:=[some (.int (n:Int)),some d,some (.ref h)]) (i:=1) rfl;have H:eW ["i","j","alike"] [("homes",2)] (WH<|be 1) (fc 3<|dY (dC 0)<|dY (dC 1)<|dY (dC 2) fk) eC (Ω (be 2)<|v2 We (v2 hX (be 3)<|be 0)<|v2 hX (be 3)<|be 1) [some (.int (n:Int)),some d,some (.ref h)] Z5=some (.lst ((as.map fun a=>a.2.2||!decide (eJ (fQ as) a.1=eJ (fQ as) a.2.1)).map D.bl),Z5):=by
  rw[yF,hi,xP,if_pos (by simp;omega)];have ec:ff (["i","j","alike"]:Ŗ) [("homes",2)] [some (.int (n:Int)),some d,some (.ref h)]=[none,none,none,some (.ref h)]:=rfl;rw[ec,sg (dn:=dA) (keep:=fun _=>true) (val:=fun a=>D.bl (a.2.2||!decide (eJ (fQ as) a.1=eJ (fQ as) a.2.1))) (fun B=>∃S F P,B=[S,F,P,some (.ref h)]) J as _ ⟨_,_,_,rfl⟩ ?_,zU]
  .simp
  .rintro a ha B ⟨S,F,P,rfl⟩;obtain⟨n1,n2⟩:=(wL as).named a ha;obtain⟨r1,q1⟩:=Tv.mp n1;obtain⟨r2,q2⟩:=Tv.mp n2;have g1:=rV hh q1;have g2:=rV hh q2;refine⟨[some (.int (a.1:Int)),some (.int (a.2.1:Int)),some (.bl a.2.2),some (.ref h)],rfl,rfl,fun _=>?_,_,_,_,rfl⟩;have ht:v2 We (v2 hX (be 3)<|be 0) (v2 hX (be 3)<|be 1) [some (.int (a.1:Int)),some (.int (a.2.1:Int)),some (.bl a.2.2),some (.ref h)] Z5=some (.bl (!decide (eJ (fQ as) a.1=eJ (fQ as) a.2.1)),Z5):=by
    rw[YE (x:=.int (r1:Int)) (Z5:=Z5) (y:=.int (r2:Int)) (Z4:=Z5) (by rw[YE (x:=.ref h) (Z5:=Z5) (y:=.int (a.1:Int)) (Z4:=Z5) rfl rfl];exact g1) (by rw[YE (x:=.ref h) (Z5:=Z5) (y:=.int (a.2.1:Int)) (Z4:=Z5) rfl rfl];exact g2),q1,q2];simp[We,Wu];omega
   cases hb:a.2.2 with
   |true=>rfl|false=>
    rw[hb] at ht;rw[OQ];show rE _ _ (some (.bl false,Z5))=_;exact ht
 refine sV (ZY:=[some (.int (n:Int)),some d,some (.ref h)]) rfl ?_;unfold wx;show fS _ _ [some (.int (n:Int)),some d,none] O=_;rw[oZ (ZY:=[some (.int (n:Int)),some d,none]) (Z5:=O) (Bp (d:=.non) (by rw[ny (ds:=[.int (n:Int),d]) (Z5:=O) (qq rfl)];exact L))];refine lU (o:=.rt _) ?_;have s1:dQ (vL (nH j2)<|dz (be 1) dD) (dC 2) [some (.int (n:Int)),some d,none] O=some (.nx,[some (.int (n:Int)),some d,some (.ref h)],Z5):=by simp[e1]
 rw[gY,s1,lb,m3,Ϟ H];simp only[ij,fq,bs,DP];show some (Out.rt (.bl _),_,_)=_;congr 4;unfold fj;simp[VL]
theorem PF(S:Ls O d (as.map dA))(z:Xi n as)(F:as.length<=1000)(hc:fj as=true):∃Z6,Dg C CF [.int (n:Int),d] O=some (.ok .non,Z6)/\Gr O Z6:=by
 obtain⟨Z5,e,g⟩:=xS (C:=C) S z F;rw[hc] at e;refine⟨Z5,zi (ZY:=[some (.int (n:Int)),some d]) rfl ?_,g⟩;unfold wV;show ib _ _ _ [some (.int (n:Int)),some d] O=_;have J:Xa (kn C) (Xb<|dz (be 0)<|dz (be 1) dD) [some (.int (n:Int)),some d] O=some (.ok (.bl true),Z5):=by rw[ny (ds:=[.int (n:Int),d]) (Z5:=O) (qq rfl)];exact e
 have H:rM (϶<|Xa (kn C)<|Xb<|dz (be 0)<|dz (be 1) dD) [some (.int (n:Int)),some d] O=some (.ok false,Z5):=by unfold rM ϶;rw[J];rfl
 rw[oS H];exact lU (o:=.nx) rfl
end
def dI(s:Ő):D:=.lst (s.map D.int)
def MA(a b:Bool)(O:M):Wu (.bl a) (.bl b) O=some (a==b):=by cases a<;>cases b<;>rfl
abbrev kH:SV:=(WY (vT<|v2 We (v2 WT (v2 V6 (be 0)<|be 2)<|v2 V6 (be 0)<|be 3)<|be 4)
    (dU<|vC<|.bl false)
    WQ)
theorem y2(hc:eL c O):∀(as:ś) (o2 S F:Option D),Ϣ s.length as->
  (fX s as=true->∃_N _M _L,ft c (fc 3<|dY (dC 2)<|dY (dC 3)<|dY (dC 4) fk) kH (as.map dA) [some (dI s),some d,o2,S,F] O=some (.nx,[some (dI s),some d,_N,_M,_L],O))/\
  (fX s as=false->∃ZZ,ft c (fc 3<|dY (dC 2)<|dY (dC 3)<|dY (dC 4) fk) kH (as.map dA) [some (dI s),some d,o2,S,F] O=some (.rt (.bl false),ZZ,O))
 | [],o2,S,F,_=>⟨fun _=>⟨o2,S,F,rfl⟩,fun h=>by cases h⟩
 |a::as,o2,S,F,hv=>by
  obtain⟨h1,h2⟩:=hv a nofun;obtain⟨L,J⟩:=y2 (s:=s) (d:=d) hc as (some<|.int (a.1:Int)) (some<|.int (a.2.1:Int)) (some<|.bl a.2.2) (fun x P=>hv x<|by simp[P]);have hg:fc 3 (dY (dC 2)<|dY (dC 3)<|dY (dC 4) fk) (dA a) [some (dI s),some d,o2,S,F] O=some ([some (dI s),some d,some (.int (a.1:Int)),some (.int (a.2.1:Int)),some (.bl a.2.2)],O):=rfl;have ix:∀x:Nat,x<s.length->V6 (dI s) (.int (x:Int)) O=some (.int (s.getD x 0),O):=fun x P=>by simp only[V6,dI,fq];rw[ji (j:=x) (v:=.int (s.getD x 0)) (by rw[S0,So];simp[Sq P])];rfl
  have t:vT (v2 We (v2 WT (v2 V6 (be 0)<|be 2)<|v2 V6 (be 0)<|be 3)<|be 4) [some (dI s),some d,some (.int (a.1:Int)),some (.int (a.2.1:Int)),some (.bl a.2.2)] O=some (!(decide (s.getD a.1 0=s.getD a.2.1 0)==a.2.2),O):=by
   rw[zr,YE (x:=.bl (decide (s.getD a.1 0=s.getD a.2.1 0))) (Z5:=O) (y:=.bl a.2.2) (Z4:=O) (by rw[YE (x:=.int (s.getD a.1 0)) (Z5:=O) (y:=.int (s.getD a.2.1 0)) (Z4:=O) (by rw[YE (x:=dI s) (Z5:=O) (y:=.int (a.1:Int)) (Z4:=O) rfl rfl];exact ix _ h1) (by rw[YE (x:=dI s) (Z5:=O) (y:=.int (a.2.1:Int)) (Z4:=O) rfl rfl];exact ix _ h2)];rfl) rfl]
   simp only[We,MA,bs];rfl
  have ef:fX s (a::as)=((decide (s.getD a.1 0=s.getD a.2.1 0)==a.2.2)&&fX s as):=rfl;rw[ef];cases hb:(decide (s.getD a.1 0=s.getD a.2.1 0)==a.2.2) with
  |true=>
   rw[hb] at t;have H:kH [some (dI s),some d,some (.int (a.1:Int)),some (.int (a.2.1:Int)),some (.bl a.2.2)] O=some (.nx,[some (dI s),some d,some (.int (a.1:Int)),some (.int (a.2.1:Int)),some (.bl a.2.2)],O):=by unfold kH;rw[lf,t];rfl
   have step:ft c (fc 3<|dY (dC 2)<|dY (dC 3)<|dY (dC 4) fk) kH ((a::as).map dA) [some (dI s),some d,o2,S,F] O=ft c (fc 3<|dY (dC 2)<|dY (dC 3)<|dY (dC 4) fk) kH (as.map dA) [some (dI s),some d,some (.int (a.1:Int)),some (.int (a.2.1:Int)),some (.bl a.2.2)] O:=by rw[Sz];simp only[ft,hg,bs,H];rw[iw hc]
   rw[step,Ve];exact⟨L,J⟩
  |false=>
   rw[hb] at t;have H:kH [some (dI s),some d,some (.int (a.1:Int)),some (.int (a.2.1:Int)),some (.bl a.2.2)] O=some (.rt (.bl false),[some (dI s),some d,some (.int (a.1:Int)),some (.int (a.2.1:Int)),some (.bl a.2.2)],O):=by unfold kH;rw[lf,t];rfl
   refine⟨fun z=>by simp at z,fun _=>⟨[some (dI s),some d,some (.int (a.1:Int)),some (.int (a.2.1:Int)),some (.bl a.2.2)],?_⟩⟩;rw[Sz];simp only[ft,hg,bs,H]
def JU(F:Ls O d (as.map dA))(z:Ϣ s.length as):l7 [dI s,d] O=some (.bl (fX s as),O):=by
 obtain⟨c,hi,H,_⟩:=F.iv (B:=[some (dI s),some d,none,none,none]) (i:=1) rfl;obtain⟨P,L⟩:=y2 (s:=s) (d:=d) H as none none none z;unfold l7 xM;rw[ju,if_pos (show [dI s,d].length=2 from rfl)];show gW (dH _ _ [some (dI s),some d,none,none,none] O)=_;rw[gY,lR,hi,mf];cases J:fX s as with
 |true=>
  obtain⟨o2,o3,S,e⟩:=P J;rw[e];rfl
 |false=>
  obtain⟨ZZ,e⟩:=L J;rw[e];rfl
def ext(m:Nat)(p:List Int×Nat):List (List Int×Nat):=(List.range<|min (p.2+1) m).map fun(i:Nat)=>(p.1++[(i:Int)],max p.2<|i+1)
def dS(p:List Int×Nat):D:=dI p.1
def IJ(g:Gd n k.toNat s)(z:n<=7):jb [dS s,.int k] O=some (.lst ((ext k.toNat s).map dS),O):=by
 have L:s.1.length<=1000:=by rw[g.len];omega
 have H:=g.used;have P:=g.len2;have s1:dQ (v2 e9 (v2 nI (be 0)<|v1 jV<|vC<|.int 1)<|vC<|.int 1) (dC 2) [some (dS s),some (.int k),none] O=some (.nx,[some (dS s),some (.int k),some (.int (s.2:Int))],O):=by
  have e1:v2 nI (be 0) (v1 jV<|vC<|.int 1) [some (dS s),some (.int k),none] O=some (.int ((ox s.1).getD (-1)),O):=by rw[YE (x:=dS s) (Z5:=O) (y:=.int (-1)) (Z4:=O) rfl (by simp[jV])];simp only[nI,dS,dI,fq,bs,PY]
  rw[xq,YE (x:=.int ((ox s.1).getD (-1))) (Z5:=O) (y:=.int 1) (Z4:=O) e1 rfl];simp only[e9,H];rfl
 have s2:v2 mo (v2 e9 (be 2)<|vC<|.int 1) (be 1) [some (dS s),some (.int k),some (.int (s.2:Int))] O=some (.int (min ((s.2:Int)+1) k),O):=by
  rw[YE (x:=.int ((s.2:Int)+1)) (Z5:=O) (y:=.int k) (Z4:=O) (by simp[e9]) rfl];show some (D.int (if k<(s.2:Int)+1 then k else(s.2:Int)+1),O)=_;have J:(if k<(s.2:Int)+1 then k else(s.2:Int)+1)=min ((s.2:Int)+1) k:=by simp only[Int.min_def];split<;>split<;>omega
  rw[J]
 have s3:eW ["number"] [("sort",0)] (p9<|v2 mo (v2 e9 (be 2)<|vC<|.int 1)<|be 1) (dC 0) eC (v2 e9 (be 1)<|vL eQ<|dz (be 0) dD) [some (dS s),some (.int k),some (.int (s.2:Int))] O=some (.lst ((List.range<|min (s.2+1) k.toNat).map fun i:Nat=>dI<|s.1++[(i:Int)]),O):=by
  refine vV (l:=List.range (min (s.2+1) k.toNat)) (dn:=fun i:Nat=>D.int (i:Int)) (c:=none) (eE:=[some (dS s)]) ?_ (by simp;omega) trivial rfl ?_
  .rw[LD s2 (by have:=Int.min_le_left ((s.2:Int)+1) k;omega)];have hm:(min ((s.2:Int)+1) k).toNat=min (s.2+1) k.toNat:=by simp only[Int.min_def,Nat.min_def];split<;>split<;>omega
   rw[hm];simp[eT]
  .intro i _;rw[YE (x:=dS s) (Z5:=O) (y:=.lst [.int (i:Int)]) (Z4:=O) rfl rfl];show qk (.lst<|s.1.map D.int) (.lst [.int (i:Int)]) O=_;unfold qk;simp only[j3,bs];rw[if_pos (by simp;omega)];simp[dI]
 unfold jb xH;rw[ju,if_pos (show [dS s,D.int k].length=2 from rfl)];show gW (dH _ _ [some (dS s),some (.int k),none] O)=_;rw[gY,s1,lb,m3,s3];simp[ext,dS,Function.comp_def,gW,ϭ]
theorem Bl{α:Type}{f:α->D}{O:M}{k:D}:∀(l:List α) (a o:Option D),∃o',jQ none (dC 1) eC (be 1) (l.map f) [a,o,some k] O=some (l.map f,[a,o',some k],O)
 | [],a,o=>⟨o,rfl⟩|p::l,a,o=>by obtain⟨o',e⟩:=Bl l a (some<|f p);refine⟨o',?_⟩;have J:dC 1 (f p) [a,o,some k] O=some ([a,some (f p),some k],O):=rfl;have H:be 1 [a,some (f p),some k] O=some (f p,O):=rfl;simp only[Sz,jQ,J,bs];show(eC _ _).bind _=_;simp only[eC,bs,if_true,H,km];rw[e];rfl
theorem CB(z:n<=7):∀(ps:List (List Int×Nat)) (a o:Option D),(∀p∈ps,Gd n k.toNat p)->
  hJ none (dC 0) eC (WH<|vL jb<|dz (be 0)<|dz (be 2) dD) (dC 1) eC (be 1) (ps.map dS) [a,o,some (.int k)] O=some ((ps.flatMap<|ext k.toNat).map dS,O)
 | [],a,o,_=>rfl|p::ps,a,o,H=>by
  have e1:=IJ (O:=O) (H p nofun) z;obtain⟨J,e3⟩:=Bl (f:=dS) (O:=O) (k:=.int k) (ext k.toNat p) (some<|dS p) o;have S:=CB (O:=O) z ps (some<|dS p) J (fun q P=>H q<|by simp[P]);have F:dC 0 (dS p) [a,o,some (.int k)] O=some ([some (dS p),o,some (.int k)],O):=rfl;have L:WH (vL jb<|dz (be 0)<|dz (be 2) dD) [some (dS p),o,some (.int k)] O=some (((ext k.toNat p).map dS,none),O):=by simp[e1,Xj]
  rw[Sz];simp only[hJ,F,bs];show(eC _ _).bind _=_;simp only[eC,bs,if_true,L,km];rw[e3];simp only[bs,km];rw[S];simp
def Fm(n m:Nat):Sx (n+1) m=(Sx n m).flatMap (ext m):=rfl
def yq{O:M}{n:Nat}{k:Int}{C:Addr}(hn:n<=7):m5 jb (.int 7) C [.int (n:Int),.int k] O=some (.ok (.lst<|(Sx n k.toNat).map dS),O):=by
 have main:=sB (c:=none) (g:=dC 3) (body:=(dQ (i9 ["sort","longer"] [("most",1)] (WH<|be 2) (dC 0) eC (WH<|vL jb<|dz (be 0)<|dz (be 2) dD) (dC 1) eC<|be 1)<|dC 2))
  (fun i B Z6=>∃(o:Option D),B=[some (.int (n:Int)),some (.int k),some (.lst<|(Sx i k.toNat).map dS),o]/\Z6=O)
  (eT 0 n) 0 [some (.int (n:Int)),some (.int k),some (.lst [.lst []]),none] O ⟨none,rfl,rfl⟩ ?_
 .obtain⟨ZZ,Z6,e,o,rfl,rfl⟩:=main;rw[Oa,Um] at e;refine sV (ZY:=[some (.int (n:Int)),some (.int k),some (.lst<|(Sx n k.toNat).map dS),o]) rfl ?_;unfold xt;show fS _ _ [some (.int (n:Int)),some (.int k),none,none] Z6=_;have t:(Yd (vT<|v2 Xe (be 0)<|vC<|.int 0)<|vT<|v2 Yk (be 0)<|vC<|.int 7) [some (.int (n:Int)),some (.int k),none,none] Z6=some (false,Z6):=by
   have a1:¬((n:Int)<0):=by omega
   have a2:¬((7:Int)<n):=by omega
   simp[Xe,Yk,X8,a1,a2]
  rw[oZ (ZY:=[some (.int (n:Int)),some (.int k),none,none]) (Z5:=Z6) ((oS<|qZ t).trans (lU (o:=.nx) rfl))];refine lU (o:=.rt _) ?_;have s1:dQ (vL eQ<|dz (vL eQ dD) dD) (dC 2) [some (.int (n:Int)),some (.int k),none,none] Z6=some (.nx,[some (.int (n:Int)),some (.int k),some (.lst [.lst []]),none],Z6):=rfl;have J:X1 (be 0) [some (.int (n:Int)),some (.int k),some (.lst [.lst []]),none] Z6=some ((eT 0 n,none),Z6):=by
   have S:(-1000000000:Int)<=(n:Int)/\(n:Int)<=1000000000:=by omega
   simp[S]
  rw[gY,s1,lb,gY,lR,J,mf,e];rfl
 .rintro j d B Z5 hd ⟨o,rfl,rfl⟩;obtain⟨z,rfl⟩:=Gc hd;rw[Um];have e:=CB (n:=j) (k:=k) (O:=Z5) ⋯ (Sx j k.toNat) none none (fun p L=>nQ _ j p L);rw[←Fm] at e;have P:((Sx (j+1) k.toNat).map dS).length<=1000000:=by
   have:=qi (n:=j+1) ⋯ k.toNat
   simp;omega
  refine⟨[some (.int (n:Int)),some (.int k),some (.lst<|(Sx j k.toNat).map dS),some (.int (j:Int))],Z5,[some (.int (n:Int)),some (.int k),some (.lst<|(Sx (j+1) k.toNat).map dS),some (.int (j:Int))],Z5,rfl,?_,trivial,some (.int (j:Int)),rfl,rfl⟩;have H:WH (be 2) [some (.int (n:Int)),some (.int k),some (.lst<|(Sx j k.toNat).map dS),some (.int (j:Int))] Z5=some (((Sx j k.toNat).map dS,none),Z5):=rfl;have F:ff (["sort","longer"]:Ŗ) [("most",1)] [some (.int (n:Int)),some (.int k),some (.lst<|(Sx j k.toNat).map dS),some (.int (j:Int))]=[none,none,some (.int k)]:=rfl;rw[xq,t7,H,sH,F,e,sM,if_pos P];rfl
section
variable {C CF CT:Addr} {n:Nat} {d:D} {as:ś} {O:M}
abbrev oU(C CF CT:Addr):FX:=yl l7 (Dg C CF) (m5 jb (.int 7) CT)
theorem wb{n m:Nat}{s:Ő}(h:s∈(Sx n m).map (·.1)):s.length=n:=by obtain⟨p,H,rfl⟩:=SU.mp h;exact(nQ m n p H).len
theorem Na(hl:Ls O d (as.map dA))(F:Xi n as)(z:as.length<=1000)(S:n<=7)(hc:fj as=true):∃Z6,oU C CF CT [.int (n:Int),d] O=some (.ok (.lst<|(fe n as).map dI),Z6)/\Gr O Z6:=by
 obtain⟨Z5,e,g⟩:=PF (C:=C) (CF:=CF) hl F z hc;refine⟨Z5,?_,g⟩;refine sV (ZY:=[some (.int (n:Int)),some d]) rfl ?_;unfold xz;show fS _ _ [some (.int (n:Int)),some d] O=_;rw[oZ (ZY:=[some (.int (n:Int)),some d]) (Z5:=Z5) (Bp (d:=.non) (by rw[ny (ds:=[.int (n:Int),d]) (Z5:=O) (qq rfl)];exact e))];refine Cg ?_;have ea:Xa (m5 jb (.int 7) CT) (Xb<|dz (be 0)<|dz (be 0) dD) [some (.int (n:Int)),some d] Z5=some (.ok (.lst (((Sx n n).map (·.1)).map dI)),Z5):=by rw[ny (ds:=[.int (n:Int),.int (n:Int)]) (Z5:=Z5) (qq rfl),yq S];simp[dS,Function.comp_def]
 have hlen:((Sx n n).map (·.1)).length<=1000000:=by have:=qi S n;simp;omega
 have ec:fo none (dC 0) (fC<|vL l7<|dz (be 0)<|dz (be 1) dD) (be 0) (((Sx n n).map (·.1)).map dI) [none,some d] Z5=some ((((Sx n n).map (·.1)).filter fun s=>fX s as).map dI,Z5):=by refine sg (c:=none) (fun B=>∃o,B=[o,some d]) trivial _ _ ⟨none,rfl⟩ ?_;rintro s z B ⟨o,rfl⟩;have J:=JU (s:=s) (hl.gr g) (by rw[wb z];exact F.inN);exact⟨[some (dI s),some d],rfl,by simp[J],fun _=>rfl,_,rfl⟩
 unfold jS;rw[ea];show(if(((Sx n n).map (·.1)).map dI).length<=1000000 then _ else _)=_;rw[if_pos (by simpa using hlen)];have H:ff (["sort"]:Ŗ) [("answers",1)] [some (.int (n:Int)),some d]=[none,some d]:=rfl;show(fo none (dC 0) (fC<|vL l7<|dz (be 0)<|dz (be 1) dD) (be 0) (((Sx n n).map (·.1)).map dI) (ff ["sort"] [("answers",1)] [some (.int (n:Int)),some d]) Z5).bind _=_;rw[H,ec];rfl
end
abbrev Gp:=Int×Nat×Ő
structure Gs (O:M) (lo:Nat) (b:Nat) (gs:List Gp):Prop where
 dic:O[b]?=some (some<|.dK<|gs.map fun g=>(Sum.inl g.1,D.ref g.2.1))
 at_:∀g∈gs,O[g.2.1]?=some (some<|.lst<|g.2.2.map D.int)
 key:(gs.map (·.1)).Nodup
 lo1:lo<=b
 lo2:∀g∈gs,lo<=g.2.1
 nd:(gs.map (·.2.1)).Nodup
 len:∀g∈gs,g.2.2.length<=1000
def gB(gs:List Gp):List (Int×Ő):=gs.map fun g=>(g.1,g.2.2)
def wT(gs:List Gp)(k:Int):gK (gs.map fun g=>((Sum.inl g.1:Key),D.ref g.2.1)) (Sum.inl k)=(gs.find? fun g=>decide (g.1=k)).map fun g=>D.ref g.2.1:=by
 unfold gK;induction gs with
 |nil=>rfl|cons p r J=>
  rw[Sz,SH,SH];by_cases z:p.1=k
  .simp[z]
  .have H:¬((Sum.inl p.1:Key)=Sum.inl k):=fun e=>z (by injection e);simp only[z,H,UI];exact J
theorem Px{gs:List Gp}{k t:Int}{g:Gp}(z:(gs.map (·.1)).Nodup)(hf:gs.find? (fun g=>decide (g.1=k))=some g):
  im (gB gs) k t=gB (gs.map fun x=>if x.1=k then(x.1,x.2.1,x.2.2++[t]) else x):=by
 have H:=Ui hf;have J:g.1=k:=by simpa using UQ hf
 unfold im;rw[if_pos (by rw[S7];exact⟨(g.1,g.2.2),SU.mpr ⟨g,H,rfl⟩,by simpa using J⟩)]
 unfold gB;rw[S5,S5];apply T3;intro x _;simp only[Function.comp];split<;>rfl
def OG{gs:List Gp}{k t:Int}{r:Nat}(hf:gs.find? (fun g=>decide (g.1=k))=none):im (gB gs) k t=gB (gs++[(k,r,[t])]):=by
 unfold im;rw[if_neg]
 .simp[gB]
 .intro L;obtain⟨x,H,e⟩:=S7.mp L;obtain⟨g,J,rfl⟩:=SU.mp H;rw[TV] at hf;exact hf g J e
abbrev tU:SV:=(g7<|il gM (iC (be 1) (be 3)<|vL io dD)<|be 2)
theorem Kg{d:D}{b lo:Nat}{gs:List Gp}{O:M}{t k:Int}(h:Gs O lo b gs)(ŀ:lo<=O.length)(hl:gs.length<1000)(hlt:∀g∈gs,g.2.2.length<1000):
  ∃B' Z6,tU [some d,some (.ref b),some (.int t),some (.int k)] O=some (.nx,[some d,some (.ref b),some (.int t),some (.int k)],Z6)/\Gs Z6 lo b B'/\gB B'=im (gB gs) k t/\(∀j,j<lo->Z6[j]?=O[j]?)/\O.length<=Z6.length:=by
 have hb:b<O.length:=(Sn.mp h.dic).1;have ϑ:be 1 [some d,some (.ref b),some (.int t),some (.int k)] O=some (.ref b,O):=rfl;have hd:gc O (.ref b)=some (gs.map fun g=>(Sum.inl g.1,D.ref g.2.1)):=by simp only[gc,h.dic]
 have g1:Gr O (O++[some (Z9.lst [])]):=Wn;have hd2:gc (O++[some (Z9.lst [])]) (.ref b)=some (gs.map fun g=>(Sum.inl g.1,D.ref g.2.1)):=by simp only[gc,g1.get h.dic]
 have Ĺ:be 3 [some d,some (.ref b),some (.int t),some (.int k)] O=some (.int k,O):=rfl;have Ľ:vL io dD [some d,some (.ref b),some (.int t),some (.int k)] O=some (.ref O.length,O++[some (.lst [])]):=rfl;have hlen:(gs.map fun g=>((Sum.inl g.1:Key),D.ref g.2.1)).length<1000000:=by simp;omega
 cases S:gs.find? (fun g=>decide (g.1=k)) with
 |some g=>
  have hm:=Ui S;have he:g.1=k:=by simpa using UQ S
  have hs:iC (be 1) (be 3) (vL io dD) [some d,some (.ref b),some (.int t),some (.int k)] O=some (.ref g.2.1,O++[some (.lst [])]):=by unfold iC;rw[ϑ,bs];simp only[hd,bs,Ĺ,Ľ,jE,hd2,if_pos hlen,wT,S];rfl
  have ha:=g1.get (h.at_ g hm);generalize ZL:O++[some (Z9.lst [])]=L at hs g1 ha;have J:L.length=O.length+1:=by rw[←ZL];simp
  have Ĉ:gM (.ref g.2.1) (.int t) L=some (.non,L.set g.2.1<|some<|.lst<|g.2.2.map D.int++[.int t]):=by have:=hlt g hm;simp only[gM,mT ha,if_pos (show(g.2.2.map D.int).length<1000000 by simp;omega),qQ]
  refine⟨gs.map fun x=>if x.1=k then(x.1,x.2.1,x.2.2++[t]) else x,L.set g.2.1 (some<|.lst<|g.2.2.map D.int++[.int t]),?_,?_,(Px h.key S).symm,fun j P=>?_,by rw[Uk,J];omega⟩
  .unfold tU;rw[rB];unfold il;rw[hs,bs];show kEx _ ((fq L<|.ref g.2.1).bind _)=_;rw[mO ha,bs];show kEx _ (gM (.ref g.2.1) (.int t) L)=_;rw[Ĉ];rfl
  .have ϓ:(gs.map fun x=>if x.1=k then(x.1,x.2.1,x.2.2++[t]) else x).map (fun g=>((Sum.inl g.1:Key),D.ref g.2.1))=gs.map fun g=>(Sum.inl g.1,D.ref g.2.1):=by
    rw[S5];apply T3;intro x _;simp only[Function.comp];split<;>rfl
   have Μ:(gs.map fun x=>if x.1=k then(x.1,x.2.1,x.2.2++[t]) else x).map (·.1)=gs.map (·.1):=by rw[S5];apply T3;intro x _;simp only[Function.comp];split<;>rfl
   have hk2:(gs.map fun x=>if x.1=k then(x.1,x.2.1,x.2.2++[t]) else x).map (·.2.1)=gs.map (·.2.1):=by rw[S5];apply T3;intro x _;simp only[Function.comp];split<;>rfl
   have hbg:b≠g.2.1:=fun z=>by have h1:=h.dic;rw[z,h.at_ g hm] at h1;cases h1
   refine⟨?_,fun x H=>?_,by rw[Μ];exact h.key,h.lo1,fun x H=>?_,by rw[hk2];exact h.nd,fun x H=>?_⟩
   .rw[ϓ,h8 hbg];exact g1.get h.dic
   .obtain⟨y,hy,rfl⟩:=SU.mp H;by_cases F:y.1=k
    .have:y=g:=by
      have hn:=h.key;obtain⟨i,hi⟩:=TL hy;obtain⟨j,P⟩:=TL hm;have e1:(gs.map (·.1))[i]?=some k:=by rw[S0,hi];simp[F]
      have e2:(gs.map (·.1))[j]?=some k:=by rw[S0,P];simp[he]
      obtain⟨l1,q1⟩:=Sn.mp e1;obtain⟨l2,q2⟩:=Sn.mp e2;have hp:=T5.mp hn;rcases UA i j with z|z|z
      .exact absurd (q1.trans q2.symm) (hp i j l1 l2 z)
      .subst z;rw[hi] at P;cases P;rfl
      .exact absurd (q2.trans q1.symm) (hp j i l2 l1 z)
     subst this;rw[if_pos F];show(L.set y.2.1 _)[y.2.1]?=_;rw[gS ha];simp
    .rw[if_neg F];have Wz:y.2.1≠g.2.1:=fun z=>by
      have hn:=h.nd;obtain⟨i,hi⟩:=TL hy;obtain⟨j,P⟩:=TL hm;have e1:(gs.map (·.2.1))[i]?=some g.2.1:=by rw[S0,hi];simp[z]
      have e2:(gs.map (·.2.1))[j]?=some g.2.1:=by rw[S0,P];simp
      obtain⟨l1,q1⟩:=Sn.mp e1;obtain⟨l2,q2⟩:=Sn.mp e2;have hp:=T5.mp hn;rcases UA i j with w|w|w
      .exact absurd (q1.trans q2.symm) (hp i j l1 l2 w)
      .subst w;rw[hi] at P;cases P;exact F he
      .exact absurd (q2.trans q1.symm) (hp j i l2 l1 w)
     rw[h8 Wz];exact g1.get (h.at_ y hy)
   .obtain⟨y,hy,rfl⟩:=SU.mp H;split
    .exact h.lo2 y hy
    .exact h.lo2 y hy
   .obtain⟨y,hy,rfl⟩:=SU.mp H;have:=hlt y hy;split
    .simp;omega
    .omega
  .rw[h8 (by have:=h.lo2 g hm;omega)];exact g1.at_ j ⋯
 |none=>
  have hs:iC (be 1) (be 3) (vL io dD) [some d,some (.ref b),some (.int t),some (.int k)] O=some (.ref O.length,(O++[some (Z9.lst [])]).set b (some<|Z9.dK<|g6 (gs.map fun g=>((Sum.inl g.1:Key),D.ref g.2.1)) (Sum.inl k)<|.ref O.length)):=by unfold iC;rw[ϑ,bs];simp only[hd,bs,Ĺ,Ľ,jE,hd2,if_pos hlen,wT,S];rfl
  have í:g6 (gs.map fun g=>((Sum.inl g.1:Key),D.ref g.2.1)) (Sum.inl k) (.ref O.length)=(gs++[(k,O.length,[t])]).map fun g=>(Sum.inl g.1,D.ref g.2.1):=by rw[Du _ (by rw[wT,S];rfl)];simp
  rw[í] at hs;have ha:((O++[some (Z9.lst [])]).set b (some<|.dK<|(gs++[(k,O.length,[t])]).map fun g=>(Sum.inl g.1,D.ref g.2.1)))[O.length]?=some (some<|.lst []):=by rw[h8 ⋯];simp
  have Ň:((O++[some (Z9.lst [])]).set b (some<|.dK<|(gs++[(k,O.length,[t])]).map fun g=>(Sum.inl g.1,D.ref g.2.1)))[b]?=some (some<|.dK<|(gs++[(k,O.length,[t])]).map fun g=>(Sum.inl g.1,D.ref g.2.1)):=gS (g1.get h.dic);have hold:∀j,j<O.length->j≠b->((O++[some (Z9.lst [])]).set b (some<|.dK<|(gs++[(k,O.length,[t])]).map fun g=>(Sum.inl g.1,D.ref g.2.1)))[j]?=O[j]?:=fun j P Wz=>by rw[h8 Wz];exact g1.at_ j P
  have J:((O++[some (Z9.lst [])]).set b (some<|.dK<|(gs++[(k,O.length,[t])]).map fun g=>(Sum.inl g.1,D.ref g.2.1))).length=O.length+1:=by simp
  generalize ZL:(O++[some (Z9.lst [])]).set b (some<|.dK<|(gs++[(k,O.length,[t])]).map fun g=>(Sum.inl g.1,D.ref g.2.1))=L at hs ha Ň hold J;have Ĉ:gM (.ref O.length) (.int t) L=some (.non,L.set O.length<|some<|.lst [.int t]):=by simp only[gM,mT ha,if_pos (show([]:List D).length<1000000 by decide),qQ];rfl
  refine⟨gs++[(k,O.length,[t])],L.set O.length (some<|.lst [.int t]),?_,?_,(OG S).symm,fun j P=>?_,by rw[Uk,J];omega⟩
  .unfold tU;rw[rB];unfold il;rw[hs,bs];show kEx _ ((fq L<|.ref O.length).bind _)=_;rw[mO ha,bs];show kEx _ (gM (.ref O.length) (.int t) L)=_;rw[Ĉ];rfl
  .have Ń:∀g∈gs,g.2.1<O.length:=fun g hg=>(Sn.mp<|h.at_ g hg).1;refine⟨by rw[h8 ⋯];exact Ň,fun x H=>?_,?_,h.lo1,fun x H=>?_,?_,fun x H=>?_⟩
   .rcases S8.mp H with H|H
    .have hl1:=Ń x H;have _b:x.2.1≠b:=fun z=>by
      have h1:=h.dic;rw[←z,h.at_ x H] at h1;cases h1
     rw[h8 ⋯,hold _ hl1 _b];exact h.at_ x H
    .have:x=(k,O.length,[t]):=by simpa using H
     subst this;exact gS ha
   .rw[TN,Uz];refine⟨h.key,by simp,fun a ς c hc e=>?_⟩;have:c=k:=by simpa using hc
    subst this e;obtain⟨g,hg,rfl⟩:=SU.mp ς;rw[TV] at S;exact S g hg nofun
   .rcases S8.mp H with H|H
    .exact h.lo2 x H
    .have:x=(k,O.length,[t]):=by simpa using H
     subst this;exact ŀ
   .rw[TN,Uz];refine⟨h.nd,by simp,fun a ς c hc e=>?_⟩;have:c=O.length:=by simpa using hc
    subst this e;obtain⟨g,hg,e⟩:=SU.mp ς;have:=Ń g hg;omega
   .rcases S8.mp H with H|H
    .exact h.len x H
    .have:x=(k,O.length,[t]):=by simpa using H
     subst this;simp
  .have hb2:=h.lo1;rw[h8 ⋯];exact hold j ⋯ ⋯
theorem Ej:∀(l:Ő) (i:Nat) (k:Int) (gs:List (Int×Ő)),kR i (l++[k]) gs=im (kR i l gs) k ((i+l.length:Nat):Int)
 | [],i,k,gs=>by simp[kR]|x::l,i,k,gs=>by rw[VD,kR,kR,Ej l (i+1) k];congr 2;simp;omega
def RX(gs:List (Int×Ő))(k t:Int):(im gs k t).length<=gs.length+1:=by unfold im;split<;>simp
def EZ{gs:List (Int×Ő)}{k t:Int}{m:Nat}(h:∀g∈gs,g.2.length<=m):∀g∈im gs k t,g.2.length<=m+1:=by
 intro g H;unfold im at H;split at H
 .obtain⟨x,J,rfl⟩:=SU.mp H;have:=h x J;split
  .simp;omega
  .omega
 .rcases S8.mp H with H|H
  .have:=h g H;omega
  .have:g=(k,[t]):=by simpa using H
   subst this;simp
def JZ(hs:s.length<=500):∃b gs Z6,lZ [dI s] O=some (.lst (gs.map fun g:Gp=>D.ref g.2.1),Z6)/\Gs Z6 O.length b gs/\gB gs=Ξ s/\Gr O Z6:=by
 have main:=sB (c:=none) (g:=(fc 2<|dY (dC 2)<|dY (dC 3) fk)) (body:=tU)
  (fun i B Z6=>∃(gs:List Gp) (o2 S:Option D),B=[some (dI s),some (.ref O.length),o2,S]/\Gs Z6 O.length O.length gs/\gB gs=Ξ (s.take i)/\gs.length<=i/\(∀g∈gs,g.2.2.length<=i)/\Gr O Z6)
  ((List.range s.length).map fun i:Nat=>D.tup [.int (i:Int),.int (s.getD i 0)]) 0 [some (dI s),some (.ref O.length),none,none] (O++[some (.dK [])])
  ⟨[],none,none,rfl,⟨by simp,fun g h=>by simp at h,by simp,Sm _,fun g h=>by simp at h,by simp,fun g h=>by simp at h⟩,rfl,Sm _,fun g h=>by simp at h,Wn⟩ ?_
 .obtain⟨ZZ,Z6,e,gs,o2,S,rfl,G1,J,_,_,gr⟩:=main;rw[Um,Sv,TR,VG] at J;refine⟨O.length,gs,Z6,?_,G1,J,gr⟩;unfold lZ vf;rw[ju,if_pos (show [dI s].length=1 from rfl)];show gW (dH _ _ [some (dI s),none,none,none] O)=_;have s1:dQ pf (dC 1) [some (dI s),none,none,none] O=some (.nx,[some (dI s),some (.ref O.length),none,none],O++[some (.dK [])]):=rfl;have hi:ww (be 0) [some (dI s),some (.ref O.length),none,none] (O++[some (.dK [])])=some (((List.range s.length).map fun i:Nat=>D.tup [.int (i:Int),.int (s.getD i 0)],none),O++[some (.dK [])]):=by
   have he:li (s.map D.int)=(List.range s.length).map fun i:Nat=>D.tup [.int (i:Int),.int (s.getD i 0)]:=by
    apply List.ext_getElem?;intro i;by_cases hi:i<s.length
    .simp[li,hi]
    .simp[li];rw[List.getElem?_eq_none (by simpa using hi),List.getElem?_eq_none (by simpa using hi)];rfl
   show some ((li (s.map D.int),none),_)=_;rw[he]
  rw[gY,s1,lb,gY,lR,hi,mf,e,lb,m3];have hv:v1 tK (be 1) [some (dI s),some (.ref O.length),o2,S] Z6=some (.lst (gs.map fun g:Gp=>D.ref g.2.1),Z6):=by rw[Ϟ (x:=.ref O.length) (Z5:=Z6) rfl];unfold tK;simp only[gc,G1.dic,bs,S5];rfl
  rw[hv];rfl
 .rintro j x B Z5 P ⟨gs,o2,S,rfl,G1,J,hl,L,gr⟩;rw[Um] at J hl L;have hj:j<s.length:=by
   have:=(Sn.mp P).1;simpa using this
  rw[S0,List.getElem?_range hj] at P;simp at P;subst P;obtain⟨F,Z4,e,G2,H,hold,hlen⟩:=Kg (d:=dI s) (t:=(j:Int)) (k:=s.getD j 0) G1 gr.len ⋯ (fun g hg=>by have:=L g hg;omega);have _l:s[j]?=some (s.getD j 0):=by rw[So,Sq hj];rfl
  have z:Ξ (s.take<|j+1)=im (Ξ<|s.take j) (s.getD j 0) (j:Int):=by
   rw[List.take_succ,_l];show kR 0 (s.take j++[s.getD j 0]) []=_;rw[Ej];have:(s.take j).length=j:=by rw[UG];omega
   rw[this,Um];rfl
  refine⟨[some (dI s),some (.ref O.length),some (.int (j:Int)),some (.int<|s.getD j 0)],Z5,_,Z4,?_,e,trivial,F,_,_,rfl,G2,?_,?_,?_,?_⟩
  .simp
  .rw[Um,H,J,z]
  .have:F.length=(im (gB gs) (s.getD j 0) (j:Int)).length:=by rw[←H];simp[gB]
   have h2:=RX (gB gs) (s.getD j 0) (j:Int);have:(gB gs).length=gs.length:=by simp[gB]
   omega
  .intro g hg;have hm:(g.1,g.2.2)∈im (gB gs) (s.getD j 0) (j:Int):=by rw[←H];exact SU.mpr ⟨g,hg,rfl⟩
   have:=EZ (m:=j) (fun x P=>by obtain⟨y,hy,rfl⟩:=SU.mp P;exact L y hy) _ hm
   have:g.2.2.length<=j+1:=this;omega
  .exact⟨S1 gr.len hlen,fun i hi=>(hold i hi).trans (gr.at_ i hi)⟩
def fR(s:Ő):Ő:=match(Ξ s).find? fun g=>decide ((s.length:Int)<2*(g.2.length:Int)) with
 |some g=>g.2|none=>[]
def ML:∀n<8,∀p∈Sx n n,fR p.1=((List.range n).filter fun t:Nat=>decide ((t:Int)∈fR p.1)).map fun t:Nat=>(t:Int):=by decide +kernel
abbrev kQ:SV:=(WY (vT<|v2 Yk (v2 iX (vC<|.int 2)<|v1 fh<|be 1)<|v1 fh<|be 0) (dU<|be 1) WQ)
theorem zh(hs:s.length<=500):∀(gs:List Gp) (o:Option D),(∀g∈gs,O[g.2.1]?=some (some<|.lst<|g.2.2.map D.int))->(∀g∈gs,g.2.2.length<=1000)->
  (∀g,gs.find? (fun g=>decide ((s.length:Int)<2*(g.2.2.length:Int)))=some g->∃ZZ,ft none (dC 1) kQ (gs.map fun g:Gp=>D.ref g.2.1) [some (dI s),o] O=some (.rt (.ref g.2.1),ZZ,O))/\
  (gs.find? (fun g=>decide ((s.length:Int)<2*(g.2.2.length:Int)))=none->∃o',ft none (dC 1) kQ (gs.map fun g:Gp=>D.ref g.2.1) [some (dI s),o] O=some (.nx,[some (dI s),o'],O))
 | [],o,_,_=>⟨(fun g h=>by cases h),fun _=>⟨o,rfl⟩⟩
 |g::gs,o,h,L=>by
  have h0:=h g nofun;have hl0:=L g nofun;obtain⟨S,F⟩:=zh (s:=s) hs gs (some<|.ref g.2.1) (fun x J=>h x<|by simp[J]) (fun x J=>L x<|by simp[J]);have P:dC 1 (.ref g.2.1) [some (dI s),o] O=some ([some (dI s),some (.ref g.2.1)],O):=rfl;have t:vT (v2 Yk (v2 iX (vC<|.int 2)<|v1 fh<|be 1)<|v1 fh<|be 0) [some (dI s),some (.ref g.2.1)] O=some (decide ((s.length:Int)<2*(g.2.2.length:Int)),O):=by
   have a1:v1 fh (be 1) [some (dI s),some (.ref g.2.1)] O=some (.int (g.2.2.length:Int),O):=by rw[Ϟ (x:=.ref g.2.1) (Z5:=O) rfl,B7 h0];simp
   have a2:v1 fh (be 0) [some (dI s),some (.ref g.2.1)] O=some (.int (s.length:Int),O):=by rw[Ϟ (x:=dI s) (Z5:=O) rfl];simp[dI,fh,fq]
   have a3:v2 iX (vC<|.int 2) (v1 fh<|be 1) [some (dI s),some (.ref g.2.1)] O=some (.int (2*(g.2.2.length:Int)),O):=by rw[YE (x:=.int 2) (Z5:=O) (y:=.int (g.2.2.length:Int)) (Z4:=O) rfl a1];have hc:XR 2 (g.2.2.length:Int):=.inl ⟨by decide,by decide⟩;simp only[iX,if_pos hc]
   rw[zr,YE a3 a2];rfl
  rw[SH];cases z:decide ((s.length:Int)<2*(g.2.2.length:Int)) with
  |true=>
   rw[z] at t;have H:kQ [some (dI s),some (.ref g.2.1)] O=some (.rt (.ref g.2.1),[some (dI s),some (.ref g.2.1)],O):=by unfold kQ;rw[lf,t];rfl
   refine⟨fun g' h=>?_,fun h=>by cases h⟩;cases h;refine⟨[some (dI s),some (.ref g.2.1)],?_⟩;rw[Sz];simp only[ft,P,bs,H]
  |false=>
   rw[z] at t;have H:kQ [some (dI s),some (.ref g.2.1)] O=some (.nx,[some (dI s),some (.ref g.2.1)],O):=by unfold kQ;rw[lf,t];rfl
   have step:ft none (dC 1) kQ ((g::gs).map fun g:Gp=>D.ref g.2.1) [some (dI s),o] O=ft none (dC 1) kQ (gs.map fun g:Gp=>D.ref g.2.1) [some (dI s),some (.ref g.2.1)] O:=by rw[Sz];simp only[ft,P,bs,H,km]
   rw[step];exact⟨S,F⟩
theorem Rh{s:Ő}{gs:List Gp}(z:gB gs=Ξ s):fR s=match gs.find? (fun g=>decide ((s.length:Int)<2*(g.2.2.length:Int))) with
  |some g=>g.2.2|none=>[]:=by
 unfold fR;rw[←z];unfold gB;rw[List.find?_map];simp only[Function.comp_def];cases gs.find? fun g=>decide ((s.length:Int)<2*(g.2.2.length:Int))<;>rfl
abbrev n0:C0:=ou lZ
def MT(z:s.length<=500):∃d Z6,n0 [dI s] O=some (d,Z6)/\Ls Z6 d ((fR s).map D.int)/\Gr O Z6:=by
 obtain⟨b,gs,Z5,e,J,H,gr⟩:=JZ (O:=O) z;obtain⟨P,L⟩:=zh (s:=s) (O:=Z5) z gs none J.at_ J.len;have hi:WH (vL lZ<|dz (be 0) dD) [some (dI s),none] O=some ((gs.map fun g:Gp=>D.ref g.2.1,none),Z5):=by have:vL lZ (dz (be 0) dD) [some (dI s),none] O=some (.lst (gs.map fun g:Gp=>D.ref g.2.1),Z5):=e;unfold WH;rw[this];rfl
 have hm:=Rh H;cases hf:gs.find? (fun g=>decide ((s.length:Int)<2*(g.2.2.length:Int))) with
 |some g=>
  rw[hf] at hm;obtain⟨F,e2⟩:=P g hf;refine⟨.ref g.2.1,Z5,?_,?_,gr⟩
  .unfold n0 ou rz;rw[ju,if_pos (show [dI s].length=1 from rfl)];show gW (dH _ _ [some (dI s),none] O)=_;rw[gY,lR,hi,mf,e2];rfl
  .rw[hm];exact .ref (J.at_ g<|Ui hf)
 |none=>
  rw[hf] at hm;obtain⟨o',e2⟩:=L hf;refine⟨.lst [],Z5,?_,by rw[hm];exact .lst,gr⟩;unfold n0 ou rz;rw[ju,if_pos (show [dI s].length=1 from rfl)];show gW (dH _ _ [some (dI s),none] O)=_;rw[gY,lR,hi,mf,e2];rfl
def hE(s:Ő):List Ŕ:=if fR s=[] then [none] else(fR s).map some
abbrev iB:C0:=tR n0
def yy(z:s.length<=500)(F:(fR s).length<=1000):∃Z6,iB [dI s] O=some (.lst ((hE s).map dE),Z6)/\Gr O Z6:=by
 obtain⟨d,Z5,e,L,g⟩:=MT (O:=O) z;refine⟨Z5,?_,g⟩;have s1:dQ (vL n0<|dz (be 0) dD) (dC 1) [some (dI s),none] O=some (.nx,[some (dI s),some d],Z5):=by have:vL n0 (dz (be 0) dD) [some (dI s),none] O=some (d,Z5):=e;rw[xq,this];rfl
 have t:fC (be 1) [some (dI s),some d] Z5=some (!decide (fR s=[]),Z5):=by
  rw[Am];show ot (some (d,Z5))=_;rcases u9 L with⟨k,rfl,H⟩|rfl|rfl
  .simp only[ot];cases hm:fR s with
   |nil=>rw[hm] at H;simp[YR,H,Ι]|cons a r=>rw[hm] at H;simp[YR,H,Ι]
  .cases hm:fR s with
   |nil=>rfl|cons a r=>rfl
  .cases hm:fR s with
   |nil=>rfl|cons a r=>rfl
 obtain⟨c,hi,J,_⟩:=L.iv (B:=[some (dI s),some d]) (i:=1) rfl;have P:eW ["thing"] [] (WH<|be 1) (dC 0) eC (vL eS<|dz (vC<|.str "one")<|dz (be 0) dD) [some (dI s),some d] Z5=some (.lst ((fR s).map fun t=>dE<|some t),Z5):=
  vV (l:=fR s) (dn:=D.int) (c:=c) (eE:=[]) hi ⋯ J rfl fun t _=>rfl
 unfold iB tR t9;rw[ju,if_pos (show [dI s].length=1 from rfl)];show gW (dH _ _ [some (dI s),none] O)=_;rw[gY,s1,lb,m3];unfold hE;by_cases h0:fR s=[]
 .rw[if_pos h0];rw[SK h0] at t;have:YJ (fC<|be 1) (eW ["thing"] [] (WH<|be 1) (dC 0) eC<|vL eS<|dz (vC<|.str "one")<|dz (be 0) dD) (vL eQ<|dz (vL eS<|dz (vC<|.str "none") dD) dD) [some (dI s),some d] Z5=some (.lst ([none].map dE),Z5):=by
   rw[Bz,t];rfl
  rw[this];rfl
 .rw[if_neg h0];rw[Sw h0] at t;have:YJ (fC<|be 1) (eW ["thing"] [] (WH<|be 1) (dC 0) eC<|vL eS<|dz (vC<|.str "one")<|dz (be 0) dD) (vL eQ<|dz (vL eS<|dz (vC<|.str "none") dD) dD) [some (dI s),some d] Z5=some (.lst (((fR s).map some).map dE),Z5):=by
   rw[Bz,t];show eW _ _ _ _ _ _ _ Z5=_;rw[P,S5];rfl
  rw[this];rfl
def iJ(ss:List Ő):Option Ŕ:=(hE<|ss.getD 0 []).find? fun t=>ss.all fun s=>decide (t∈hE s)
def Xf(ss:List Ő):D:=.lst (ss.map fun s=>.lst<|(hE s).map dE)
abbrev ll:SV:=(WY (fC<|v1 ij<|eW ["others"] [("end",1)] (WH<|be 0) (dC 0) eC<|v2 (je false) (be 1)<|be 0)
    (dU<|be 1)
    WQ)
theorem y9{ss:List Ő}{O:M}(z:ss.length<=1000000):∀(l:List Ŕ) (o:Option D),
  (∀t,l.find? (fun t=>ss.all fun s=>decide (t∈hE s))=some t->∃ZZ,ft none (dC 1) ll (l.map dE) [some (Xf ss),o] O=some (.rt (dE t),ZZ,O))/\
  (l.find? (fun t=>ss.all fun s=>decide (t∈hE s))=none->∃o',ft none (dC 1) ll (l.map dE) [some (Xf ss),o] O=some (.nx,[some (Xf ss),o'],O))
 | [],o=>⟨(fun t h=>by cases h),fun _=>⟨o,rfl⟩⟩
 |t::l,o=>by
  obtain⟨S,F⟩:=y9 (ss:=ss) (O:=O) z l (some<|dE t);have hc:eW ["others"] [("end",1)] (WH<|be 0) (dC 0) eC (v2 (je false) (be 1)<|be 0) [some (Xf ss),some (dE t)] O=some (.lst (ss.map fun s=>D.bl<|decide (t∈hE s)),O):=
   vV (l:=ss) (dn:=fun s=>D.lst<|(hE s).map dE) (c:=none) (eE:=[some (dE t)]) rfl z trivial rfl fun s _=>by rw[YE (x:=dE t) (Z5:=O) (y:=.lst ((hE s).map dE)) (Z4:=O) rfl rfl];exact yk t (hE s)
  have J:fC (v1 ij<|eW ["others"] [("end",1)] (WH<|be 0) (dC 0) eC<|v2 (je false) (be 1)<|be 0) [some (Xf ss),some (dE t)] O=some (ss.all fun s=>decide (t∈hE s),O):=by
   rw[Am,Ϟ hc];have:ss.map (fun s=>D.bl<|decide (t∈hE s))=(ss.map fun s=>decide (t∈hE s)).map D.bl:=by simp
   rw[this];simp only[ij,fq,bs,DP,VL];rfl
  have L:dC 1 (dE t) [some (Xf ss),o] O=some ([some (Xf ss),some (dE t)],O):=rfl;rw[SH];cases P:ss.all fun s=>decide (t∈hE s) with
  |true=>
   rw[P] at J;have H:ll [some (Xf ss),some (dE t)] O=some (.rt (dE t),[some (Xf ss),some (dE t)],O):=by unfold ll;rw[lf,J];rfl
   refine⟨fun t' h=>?_,fun h=>by cases h⟩;cases h;refine⟨[some (Xf ss),some (dE t)],?_⟩;rw[Sz];simp only[ft,L,bs,H]
  |false=>
   rw[P] at J;have H:ll [some (Xf ss),some (dE t)] O=some (.nx,[some (Xf ss),some (dE t)],O):=by unfold ll;rw[lf,J];rfl
   have step:ft none (dC 1) ll ((t::l).map dE) [some (Xf ss),o] O=ft none (dC 1) ll (l.map dE) [some (Xf ss),some (dE t)] O:=by rw[Sz];simp only[ft,L,bs,H,km]
   rw[step];exact⟨S,F⟩
def fD:D:=.gt [.str "open"]
def gI(o:Option Ŕ):D:=match o with
 |some t=>dE t|none=>fD
def KZ{ss:List Ő}{O:M}(z:ss.length<=1000000)(h0:ss≠[]):j5 fD [Xf ss] O=some (gI (iJ ss),O):=by
 have hi:WH (v2 V6 (be 0)<|vC<|.int 0) [some (Xf ss),none] O=some (((hE<|ss.getD 0 []).map dE,none),O):=by
  cases ss with
  |nil=>exact absurd rfl h0|cons s ss=>
   have h1:v2 V6 (be 0) (vC<|.int 0) [some (Xf<|s::ss),none] O=some (.lst ((hE s).map dE),O):=by rw[YE (x:=Xf (s::ss)) (Z5:=O) (y:=.int 0) (Z4:=O) rfl rfl];simp only[V6,Xf,fq];rw[show(0:Int)=((0:Nat):Int) from rfl,ji (j:=0) (v:=.lst ((hE s).map dE)) rfl];rfl
   unfold WH;rw[h1];rfl
 obtain⟨L,J⟩:=y9 (ss:=ss) (O:=O) z (hE<|ss.getD 0 []) none;unfold j5 rN;rw[ju,if_pos (show [Xf ss].length=1 from rfl)];show gW (dH _ _ [some (Xf ss),none] O)=_;rw[gY,lR,hi,mf];cases H:iJ ss with
 |some t=>
  obtain⟨P,e⟩:=L t H;rw[e];rfl
 |none=>
  obtain⟨o',e⟩:=J H;rw[e];rfl
def Fw{n:Nat}(F:n<=7){s:Ő}(z:s∈(Sx n n).map (·.1)):fR s=((List.range n).filter fun t:Nat=>decide ((t:Int)∈fR s)).map fun t:Nat=>(t:Int):=by obtain⟨p,H,rfl⟩:=SU.mp z;exact ML n ⋯ p H
def Aq{n:Nat}(F:n<=7){s:Ő}(z:s∈(Sx n n).map (·.1)):(fR s).length<=n:=by rw[Fw F z,Sv];have:=Te (fun t:Nat=>decide ((t:Int)∈fR s)) (List.range n);simpa using this
section
variable {C CF CT:Addr} {n:Nat} {d:D} {as:ś} {O:M}
abbrev oo(C CF CT:Addr):FX:=vM (j5 fD) iB (oU C CF CT)
theorem zl{n:Nat}(z:n<=7):∀(l:List Ő) (o:Option D) (O:M),(∀s∈l,s∈(Sx n n).map (·.1))->
  ∃Z6,fo none (dC 0) eC (vL iB<|dz (be 0) dD) (l.map dI) [o] O=some (l.map fun s=>.lst ((hE s).map dE),Z6)/\Gr O Z6
 | [],o,O,_=>⟨O,rfl,.refl⟩|s::l,o,O,h=>by have H:=h s nofun;have h1:=wb H;have h2:=Aq z H;obtain⟨J,e1,g1⟩:=yy (s:=s) (O:=O) ⋯ ⋯;obtain⟨Z4,e2,S⟩:=zl z l (some<|dI s) J (fun x L=>h x<|by simp[L]);refine⟨Z4,?_,g1.trans S⟩;have F:dC 0 (dI s) [o] O=some ([some (dI s)],O):=rfl;have P:vL iB (dz (be 0) dD) [some (dI s)] O=some (.lst ((hE s).map dE),J):=e1;rw[Sz];simp only[fo,F,bs];show(eC _ _).bind _=_;simp only[eC,bs,if_true,P,km];rw[e2];rfl
theorem KG(h:s∈fe n as):s∈(Sx n n).map (·.1):=(Sy.mp h).1
theorem Kl(z:n<=7):(fe n as).length<=1000:=by have H:=Te (fun s=>fX s as) ((Sx n n).map (·.1));have:=qi z n;unfold fe;rw[Sv] at H;omega
theorem CV(hl:Ls O d (as.map dA))(F:Xi n as)(S:as.length<=1000)(z:n<=7)(hf:fe n as≠[]):∃Z6,oo C CF CT [.int (n:Int),d] O=some (.ok (gI<|iJ<|fe n as),Z6)/\Gr O Z6:=by
 have P:fj as=true:=by
  cases h:fj as with
  |true=>rfl|false=>exact absurd ((pH F.inN).mpr h) hf
 obtain⟨Z5,e1,g1⟩:=Na (C:=C) (CF:=CF) (CT:=CT) hl F S z P;obtain⟨J,e2,g2⟩:=zl z (fe n as) none Z5 (fun s h=>KG h);refine⟨J,?_,g1.trans g2⟩;have hlen:=Kl (as:=as) z;refine sV (ZY:=[some (.int (n:Int)),some d]) rfl ?_;unfold wF;show jW _ [some (.int (n:Int)),some d] O=_;have ec:jS ["sort"] [] (Xa (oU C CF CT)<|Xb<|dz (be 0)<|dz (be 1) dD) (dC 0) eC (vL iB<|dz (be 0) dD) [some (.int (n:Int)),some d] O=some (.ok (Xf<|fe n as),J):=by
  have ea:Xa (oU C CF CT) (Xb<|dz (be 0)<|dz (be 1) dD) [some (.int (n:Int)),some d] O=some (.ok (.lst<|(fe n as).map dI),Z5):=by rw[ny (ds:=[.int (n:Int),d]) (Z5:=O) (qq rfl)];exact e1
  unfold jS;rw[ea];show(if((fe n as).map dI).length<=1000000 then _ else _)=_;rw[if_pos (by simp;omega)];have H:ff (["sort"]:Ŗ) [] [some (.int (n:Int)),some d]=[none]:=rfl;show(fo none (dC 0) eC (vL iB<|dz (be 0) dD) ((fe n as).map dI) (ff ["sort"] [] [some (.int (n:Int)),some d]) Z5).bind _=_;rw[H,e2];rfl
 have el:sR (jS ["sort"] [] (Xa (oU C CF CT)<|Xb<|dz (be 0)<|dz (be 1) dD) (dC 0) eC<|vL iB<|dz (be 0) dD) (Xb dD) [some (.int (n:Int)),some d] O=some (.ok [Xf (fe n as)],J):=by unfold sR;rw[ec];rfl
 refine Cg ?_;rw[ny el];show(ϊ<|j5 fD) _ _=_;have L:=KZ (ss:=fe n as) (O:=J) ⋯ hf;unfold ϊ;rw[L];rfl
end
def wpA:=And.intro @qx (And.intro @uD<|And.intro @z8<|And.intro @vt<|And.intro @Od<|And.intro @FM<|And.intro @Fy<|And.intro @FE<|And.intro @Jn<|And.intro @Ex<|And.intro @El<|And.intro @oY<|And.intro @vh<|And.intro @qB<|And.intro @BR<|And.intro @nv<|And.intro @xG<|And.intro @yK<|And.intro @Â<|And.intro @Jc<|And.intro @P5<|And.intro @HG<|And.intro @Cb<|And.intro @Q5<|And.intro @My<|And.intro @M5<|And.intro @FK<|And.intro @MP<|And.intro @Eg<|And.intro @B6<|And.intro @L7<|And.intro @O0<|And.intro @Ge<|And.intro @Ϗ<|And.intro @om<|And.intro @kM<|And.intro @Ϩ<|And.intro @Ë<|And.intro @wS<|And.intro @Ϧ<|And.intro @E8<|And.intro @Nm<|And.intro @JO<|And.intro @QU<|And.intro @Af<|And.intro @Ft<|And.intro @RK<|And.intro @Sc<|And.intro @QQ<|And.intro @Mv<|And.intro @B1<|And.intro @zt<|And.intro @DB<|And.intro @za<|And.intro @JA<|And.intro @KS<|And.intro @JP<|And.intro @PH<|And.intro @Lm<|And.intro @LF<|And.intro @GW<|And.intro @yG<|And.intro @Jz<|And.intro @RT<|And.intro @EU<|And.intro @JT<|And.intro @OS<|And.intro @Li<|And.intro @Jl<|And.intro @BJ<|And.intro @V3<|And.intro @Nd<|And.intro @J3<|And.intro @NW<|And.intro @OC<|And.intro @KF<|And.intro @FI<|And.intro @xR<|And.intro @HW<|And.intro @R7<|And.intro @EL<|And.intro @En<|And.intro @Qs<|And.intro @sm<|And.intro @Jt<|And.intro @EC<|And.intro @Mo<|And.intro @F5<|And.intro @NE<|And.intro @Q3<|And.intro @Qa<|And.intro @Qd<|And.intro @Rl<|And.intro @Re<|And.intro @Qz<|And.intro @HM<|And.intro @KC<|And.intro @Ov<|And.intro @JB<|And.intro @EW<|And.intro @EE<|And.intro @HF<|And.intro @Gq<|And.intro @Jd<|And.intro @RQ<|And.intro @Qg<|And.intro @OH<|And.intro @P1<|And.intro @NA<|And.intro @Ph<|And.intro @Js<|And.intro @Le<|And.intro @M9<|And.intro @Fz<|And.intro @G3<|And.intro @Ro<|And.intro @KO<|And.intro @Mi<|And.intro @JH<|And.intro @KD<|And.intro @NC<|And.intro @R1<|And.intro @RC<|And.intro @FB<|And.intro @Ha<|And.intro @Ho<|And.intro @Ip<|And.intro @GY<|And.intro @Jm<|And.intro @Em<|And.intro @IH<|@V4)
local macro_rules | `(tactic| simp!)=>`(tactic| simp only [wpA,List.set_cons_zero,List.set_cons_succ])
local macro_rules | `(tactic| simp! [$ts,*])=>`(tactic| simp only [$ts,*,wpA,List.set_cons_zero,List.set_cons_succ])
def xJ{α:Type}{r:Option (α×M)}{a:α}{Z6:M}(h:Wp r fun d m=>d=a/\m=Z6):r=some (a,Z6):=by obtain⟨d,m,e,rfl,rfl⟩:=h;exact e
def dP(p:Nat×Nat):D:=.tup [.int (p.1:Int),.int (p.2:Int)]
theorem At{β:Type}{g:GV}{te:EV}{dm:β->D}{val:β->D}(z:G->Prop){O:M}:∀(l:List β) (B:G),z B->(∀b∈l,∀B,z B->∃ZY,g (dm b) B O=some (ZY,O)/\te ZY O=some (val b,O)/\z ZY)->
  ∃F,jQ none g eC te (l.map dm) B O=some (l.map val,F,O)/\z F
 | [],B,h,_=>⟨B,rfl,h⟩|b::l,B,h,H=>by obtain⟨ZY,e1,e2,P⟩:=H b nofun B h;obtain⟨F,S,L⟩:=At z l ZY P fun b J=>H b (by simp[J]);refine⟨F,?_,L⟩;rw[Sz];simp only[jQ,e1,bs,eC,if_true,e2,km,S];rfl
theorem rP{α β:Type}{g g2:GV}{iv2:IV}{te:EV}{dn:α->D}{dm:β->D}{inn:α->List β}{val:α->β->D}(Pv:G->Prop)(z:α->G->Prop){O:M}(F:∀a B,z a B->Pv B):∀(l:List α) (B:G),Pv B->
  (∀a∈l,∀B,Pv B->∃ZY,g (dn a) B O=some (ZY,O)/\iv2 ZY O=some (((inn a).map dm,none),O)/\z a ZY)->
  (∀a∈l,∀b∈inn a,∀B,z a B->∃ZY,g2 (dm b) B O=some (ZY,O)/\te ZY O=some (val a b,O)/\z a ZY)->
  hJ none g eC iv2 g2 eC te (l.map dn) B O=some (l.flatMap fun a=>(inn a).map (val a),O)
 | [],B,_,_,_=>rfl|a::l,B,h,L,hi=>by obtain⟨ZY,e1,e2,h1⟩:=L a nofun B h;obtain⟨P,e3,h2⟩:=At (z a) (inn a) ZY h1 (hi a nofun);have S:=rP (dm:=dm) (val:=val) Pv z F l P (F a _ h2) (fun a J=>L a<|by simp[J]) fun a J=>hi a (by simp[J]);rw[Sz];simp only[hJ,e1,bs,eC,if_true,e2,e3,km];have H:hJ none g (fun _ O=>some (true,O)) iv2 g2 (fun _ O=>some (true,O)) te (l.map dn) P O=some (l.flatMap fun a=>(inn a).map (val a),O):=S;rw[show(eC:BV)=fun _ O=>some (true,O) from rfl] at*;rw[H];rfl
def WA(n:Nat):ŕ:=(List.range n).flatMap fun i=>(List.range<|n - (i+1)).map fun j=>(i,i+1+j)
def x9{n:Nat}{O:M}(z:n<=100):mz [.int (n:Int)] O=some (.lst ((WA n).map dP),O):=by
 unfold mz x5;rw[ju,if_pos (show [D.int (n:Int)].length=1 from rfl)];show gW (dU _ [some (.int (n:Int))] O)=_;have hb:(-1000000000:Int)<=(n:Int)/\(n:Int)<=1000000000:=by omega
 have S:X1 (be 0) [some (.int (n:Int))] O=some (((List.range n).map fun i:Nat=>D.int (i:Int),none),O):=by simp[hb,eT]
 have hc:=rP (g:=dC 0) (g2:=dC 1) (iv2:=lS (v2 e9 (be 0)<|vC<|.int 1) (be 2)) (te:=vL eS (dz (be 0)<|dz (be 1) dD)) (dn:=fun i:Nat=>D.int (i:Int)) (dm:=fun j:Nat=>D.int (j:Int)) (inn:=fun i=>(List.range<|n - (i+1)).map fun j=>i+1+j) (val:=fun i j=>dP (i,j))
  (fun B=>∃a b,B=[a,b,some (.int (n:Int))]) (fun i B=>∃b,B=[some (.int (i:Int)),b,some (.int (n:Int))]) (O:=O) (fun i B ⟨b,e⟩=>⟨_,_,e⟩) (List.range n) [none,none,some (.int (n:Int))] ⟨_,_,rfl⟩ ?_ ?_
 .have H:ff (["i","j"]:Ŗ) [("many",0)] [some (.int (n:Int))]=[none,none,some (.int (n:Int))]:=rfl;have hlen:((List.range n).flatMap fun i=>((List.range<|n - (i+1)).map fun j=>i+1+j).map (fun j=>dP (i,j))).length<=1000000:=by
   rw[List.length_flatMap];have:∀(l:ř),(l.map fun i=>(((List.range<|n - (i+1)).map fun j=>i+1+j).map (fun j=>dP (i,j))).length).sum<=l.length*n:=by
    intro l;induction l with
    |nil=>simp|cons x l P=>simp only[Sz,List.sum_cons,Sv,TR,SO] at P⊢;rw[Nat.add_mul];omega
   have:=this (List.range n);rw[TR] at this;have h2:n*n<=100*100:=VU z z;omega
  have e:((List.range n).flatMap fun i=>((List.range<|n - (i+1)).map fun j=>i+1+j).map (fun j=>dP (i,j)))=(WA n).map dP:=by unfold WA;rw[UK];congr 1;funext i;rw[S5,S5];rfl
  rw[m3,t7,S,sH,H,hc,sM,if_pos hlen,e];rfl
 .rintro i hi B ⟨a,b,rfl⟩;rw[S6] at hi;refine⟨[some (.int (i:Int)),b,some (.int (n:Int))],rfl,?_,⟨_,rfl⟩⟩;have F:v2 e9 (be 0) (vC<|.int 1) [some (.int (i:Int)),b,some (.int (n:Int))] O=some (.int ((i:Int)+1),O):=rfl;have J:be 2 [some (.int (i:Int)),b,some (.int (n:Int))] O=some (.int (n:Int),O):=rfl;have L:((-1000000000:Int)<=(i:Int)+1/\(i:Int)+1<=1000000000)/\-1000000000<=(n:Int)/\(n:Int)<=1000000000:=by omega
  rw[Dd,F,AF,J,y7,if_pos L];have e2:((n:Int) - ((i:Int)+1)).toNat=n - (i+1):=by omega
  rw[e2];unfold eT;rw[S5];congr 4
 .rintro i hi j hj B ⟨b,rfl⟩;exact⟨[some (.int (i:Int)),some (.int (j:Int)),some (.int (n:Int))],rfl,rfl,⟨_,rfl⟩⟩
def yU{a b:List D}{O:M}(h:a.length+b.length<=1000000):e9 (.lst a) (.lst b) O=some (.lst (a++b),O):=if_pos h
def Wg:Nat->Type
 |0=>Unit|k+1=>List (Bool×Wg k)
def XZ:(k:Nat)->Wg k->D
 |0,_=>.tup []|k+1,(rows:List (Bool×Wg k))=>.lst (rows.map fun r=>.tup [.bl r.1,XZ k r.2])
def Sh(n:Nat):(k:Nat)->Wg k->Prop
 |0,_=>True|k+1,(rows:List (Bool×Wg k))=>rows.length=(WA n).length/\∀r∈rows,Sh n k r.2
def gQ(n:Nat):(k:Nat)->ś->Wg k->Bool
 |0,as,_=>fj as&&(iJ<|fe n as).isNone|k+1,as,(rows:List (Bool×Wg k))=>fj as&&((WA n).zip rows).all fun x=>gQ n k (as++[(x.1.1,x.1.2,x.2.1)]) x.2.2
def dR(k:Nat)(r:Bool×Wg k):D:=.tup [.bl r.1,XZ k r.2]
def dX(k:Nat)(x:(Nat×Nat)×(Bool×Wg k)):D:=.tup [dP x.1,dR k x.2]
def z9{k:Nat}(rows:List (Bool×Wg k)):XZ (k+1) rows=.lst (rows.map<|dR k):=rfl
theorem AO{k:Nat}:∀(ps:ŕ) (rows:List (Bool×Wg k)),hW (ps.map dP) (rows.map<|dR k)=(ps.zip rows).map (dX k)
 | [],_=>by simp[hW]|_::_,[]=>by simp[hW]|p::ps,r::rows=>by simp[hW,dX,AO ps rows]
def yi{n:Nat}{p:Nat×Nat}(h:p∈WA n):p.1<n/\p.2<n/\p.1≠p.2:=by unfold WA at h;obtain⟨i,hi,h⟩:=TQ.mp h;obtain⟨j,H,rfl⟩:=SU.mp h;have h1:=S6.mp hi;have J:=S6.mp H;refine⟨h1,?_,?_⟩<;>simp<;>omega
section
variable {O:M}
theorem Hg:md [.tup [.bl b,x]] O=some (.bl true,O):=by apply xJ;unfold md wX;refine(fB rfl).mpr ?_;show Ws (dU _ [some (.tup [.bl b,x])] O) _;have P:ke "tuple" (.tup [.bl b,x]) O=some (.bl true,O):=rfl;have L:fh (.tup [.bl b,x]) O=some (.int 2,O):=rfl;have J:V6 (.tup [.bl b,x]) (.int 0) O=some (.bl b,O):=rfl;have H:ke "bool" (.bl b) O=some (.bl true,O):=rfl;simp![P,L,J,H,U1];exact⟨by first|trivial|rfl,by first|trivial|rfl⟩
end
section
variable {O:M} {n k:Nat} {C CF CT:Addr}
theorem BU(o:Option Ŕ):WT (gI o) fD O=some (.bl o.isNone,O):=by
 have J:("open":Str)≠"none":=by decide +kernel
 have H:PyData.strOk "open"=true:=by decide +kernel
 have po:py 65 O fD=some (.tuple [.str "open"]):=rfl;rcases o with _|_|i
 .show(Wu fD fD O).bind _=_;have:Wu fD fD O=some true:=by
   show((py 65 O fD).bind fun d=>(py 65 O fD).bind fun e=>if(d.canLay0&&e.canLay0&&decide (d.depth<=64))=true then some (PyData.eqv d e) else none)=_;rw[po];simp[PyData.canLay0,PyData.canLayAll0,PyData.depth,PyData.depthAll,PyData.eqv,PyData.eqvAll,H]
  rw[this];rfl
 .show(Wu (dE none) fD O).bind _=_;have:Wu (dE none) fD O=some false:=by
   show((py 65 O<|dE none).bind fun d=>(py 65 O fD).bind fun e=>if(d.canLay0&&e.canLay0&&decide (d.depth<=64))=true then some (PyData.eqv d e) else none)=_;rw[po,pR];simp[pE,PyData.canLay0,PyData.canLayAll0,PyData.depth,PyData.depthAll,PyData.eqv,PyData.eqvAll,H,ό,J,J.symm]
  rw[this];rfl
 .show(Wu (dE<|some i) fD O).bind _=_;have:Wu (dE<|some i) fD O=some false:=by
   show((py 65 O<|dE<|some i).bind fun d=>(py 65 O fD).bind fun e=>if(d.canLay0&&e.canLay0&&decide (d.depth<=64))=true then some (PyData.eqv d e) else none)=_;rw[po,pR];simp[pE,PyData.canLay0,PyData.canLayAll0,PyData.depth,PyData.depthAll,PyData.eqv,PyData.eqvAll,H,ύ]
  rw[this];rfl
theorem NL{rows:List (Bool×Wg k)}{ps:ŕ}(z:rows.length=ps.length)(F:rows.length<=1000):px md [.lst (ps.map dP),.lst (rows.map<|dR k)] O=some (.bl true,O):=by
 apply xJ;unfold px yt;refine(fB rfl).mpr ?_;show Ws (dU _ [some (.lst<|ps.map dP),some (.lst<|rows.map<|dR k)] O) _;have L:ke "list" (.lst<|rows.map<|dR k) O=some (.bl true,O):=rfl;have J:fh (.lst<|rows.map<|dR k) O=some (.int (rows.length:Int),O):=by show some (D.int ((rows.map<|dR k).length:Int),O)=_;simp
 have H:fh (.lst<|ps.map dP) O=some (.int (rows.length:Int),O):=by show some (D.int ((ps.map dP).length:Int),O)=_;simp[z]
 simp![L,J,H,U1];rw[gz];refine⟨by simp;omega,?_⟩;refine gP (dn:=dR k) (keep:=fun _=>true) (val:=fun _=>D.bl true) (fun B=>∃o,B=[o]) (show eL none O from trivial) rows ⟨_,rfl⟩ ?_ ?_
 .rintro r P B ⟨o,rfl⟩;simp!;refine⟨trivial,⟨_,rfl⟩,trivial,trivial,fun _=>?_⟩;have:md [dR k r] O=some (.bl true,O):=Hg;rw[this];simp!;exact⟨trivial,trivial⟩
 .have ea:((rows.filter fun _=>true).map fun _=>D.bl true)=(rows.map fun _=>true).map D.bl:=by rw[TJ.mpr nofun,S5];rfl
  rw[ea];simp![lz];have:((rows.map fun _=>true).all id)=true:=by simp
  rw[this];exact⟨by first|trivial|rfl,by first|trivial|rfl⟩
def Η(C CF CT:Addr):Nat->List D->M->Fr
 |0=>fun _ _=>none|m+1=>o0 (dn<|kn C) (dn<|oo C CF CT) mz (px md) (Η C CF CT m) fD
theorem sq(z:Xi n as)(F:as.length<=1000):Wp (dn (kn C) [.int (n:Int),.lst (as.map dA)] O) fun d Z6=>d=.bl (fj as)/\Gr O Z6:=by obtain⟨Z6,e,g⟩:=xS (C:=C) (O:=O) Ls.lst z F;exact k9 ⟨_,_,e,_,rfl,rfl,g⟩
theorem y3(z:Xi n as)(F:as.length<=1000)(S:n<=7)(hf:fe n as≠[]):Wp (dn (oo C CF CT) [.int (n:Int),.lst (as.map dA)] O) fun d Z6=>d=gI (iJ<|fe n as)/\Gr O Z6:=by obtain⟨Z6,e,g⟩:=CV (C:=C) (CF:=CF) (CT:=CT) (O:=O) Ls.lst z F S hf;exact k9 ⟨_,_,e,_,rfl,rfl,g⟩
theorem M7(hn:n<=7)(hp:(WA n).length<=1000):∀(k:Nat) (as:ś) (p:Wg k) (O:M) (m:Nat),k<m->Xi n as->as.length+k<=100->Sh n k p->Wp (Η C CF CT m [.int (n:Int),.lst (as.map dA),.int (k:Int),XZ k p] O) fun d Z6=>d=.bl (gQ n k as p)/\Gr O Z6:=by
 intro k;induction k with
 |zero=>
  intro as p O m hm F hl _;obtain⟨m,rfl⟩:∃j,m=j+1:=⟨m - 1,by omega⟩
  unfold Η o0 qJ;refine(fB rfl).mpr ?_;show Ws (dH _ _ [some (.int (n:Int)),some (.lst<|as.map dA),some (.int ((0:Nat):Int)),some (.tup []),none,none,none,none,none] O) _;have e0:decide (((0:Nat):Int)<0)=false:=by simp
  have e1:decide (((0:Nat):Int)=0)=true:=by simp
  simp![e0];refine(sq F ⋯).imp ?_;rintro _ Z5 ⟨rfl,g1⟩;have J:gQ n 0 as p=(fj as&&(iJ<|fe n as).isNone):=rfl;cases S:fj as with
  |false=>
   simp![Tg];rw[J,S];exact⟨rfl,g1⟩
  |true=>
   have t1:∀O:M,ke "tuple" (.tup []) O=some (.bl true,O):=fun _=>rfl;have t2:∀O:M,fh (.tup []) O=some (.int 0,O):=fun _=>rfl;simp![SS,e1,t1,t2,U1];have hf:fe n as≠[]:=fun z=>by have:=(pH (n:=n) (as:=as)<|F.inN).mp z;rw[S] at this;cases this
   refine(y3 F ⋯ hn hf).imp ?_;rintro _ Z4 ⟨rfl,g2⟩;simp![BU];rw[J,S];exact⟨rfl,g1.trans g2⟩
 |succ k ih=>
  rintro as (rows:List (Bool×Wg k)) O m hm F hl ⟨_o,_n⟩;obtain⟨m,rfl⟩:∃j,m=j+1:=⟨m - 1,by omega⟩
  have J:gQ n (k+1) as rows=(fj as&&((WA n).zip (rows:List (Bool×Wg k))).all fun x=>gQ n k (as++[(x.1.1,x.1.2,x.2.1)]) x.2.2):=rfl;generalize gQ n (k+1) as rows=res at J;rw[z9];unfold Η o0 qJ;refine(fB rfl).mpr ?_;show Ws (dH _ _ [some (.int (n:Int)),some (.lst<|as.map dA),some (.int ((k+1:Nat):Int)),some (.lst<|List.map (dR k) rows),none,none,none,none,none] O) _;have e0:decide (((k+1:Nat):Int)<0)=false:=by simp;omega
  have e1:decide (((k+1:Nat):Int)=0)=false:=by simp;omega
  simp![e0];refine(sq F ⋯).imp ?_;rintro _ Z5 ⟨rfl,g1⟩;cases S:fj as with
  |false=>
   simp![Tg];rw[J,S];exact⟨rfl,g1⟩
  |true=>
   rw[S,Ve] at J;simp![SS,e1,x9 (show n<=100 by omega),NL _o ⋯];have hz:è (be 4) (be 3) [some (.int (n:Int)),some (.lst<|as.map dA),some (.int ((k+1:Nat):Int)),some (.lst<|List.map (dR k) rows),some (.lst<|(WA n).map dP),none,none,none,none] Z5=some ((((WA n).zip rows).map (dX k),none),Z5):=by show some ((hW ((WA n).map dP) (List.map (dR k) rows),none),Z5)=_;rw[AO]
   refine lI hz ?_;simp!;refine jD (fun r B Z6=>Gr O Z6/\∃(l:List ((Nat×Nat)×(Bool×Wg k))) (o5 o6 o7 o8:Option D),r=l.map (dX k)/\B=[some (.int (n:Int)),some (.lst<|as.map dA),some (.int ((k+1:Nat):Int)),some (.lst<|List.map (dR k) rows),some (.lst<|(WA n).map dP),o5,o6,o7,o8]/\(∀x∈l,x∈(WA n).zip rows)/\res=l.all fun x=>gQ n k (as++[(x.1.1,x.1.2,x.2.1)]) x.2.2) _ ⟨g1,_,_,_,_,_,rfl,rfl,fun x h=>h,J⟩ ?_ ?_
   .rintro d r B Z4 ⟨g2,l,o5,o6,o7,o8,L,rfl,P,H⟩;cases l with
    |nil=>cases L
    |cons x l=>
     rw[Sz] at L;injection L with h1 h2
     subst h1 h2;have hx:=P x nofun;have hx1:=(UP (a:=x.1) (b:=x.2) hx).1;have hx2:=(UP (a:=x.1) (b:=x.2) hx).2;have ok:=yi hx1;show Wp (fc 2 _ (.tup [dP x.1,dR k x.2]) _ _) _;refine(js rfl).mpr ?_;simp!;show Wp (fc 2 _ (.tup [.int (x.1.1:Int),.int (x.1.2:Int)]) _ _) _;refine(js rfl).mpr ?_;simp!;show Wp (fc 2 _ (.tup [.bl x.2.1,XZ k x.2.2]) _ _) _;refine(js rfl).mpr ?_;simp!;rw[fv nofun];simp!;rw[fF nofun];simp!;rw[yU (by simp;omega)];simp!;have ea:as.map dA++[D.tup [.int (x.1.1:Int),.int (x.1.2:Int),.bl x.2.1]]=(as++[(x.1.1,x.1.2,x.2.1)]).map dA:=by simp[dA]
     have ek:(((k+1:Nat):Int) - 1)=(k:Int):=by omega
     rw[ea,ek];have m4:Xi n (as++[(x.1.1,x.1.2,x.2.1)]):=by
      intro a ha;rcases S8.mp ha with h|h
      .exact F a h
      .cases To.mp h;exact ok
     refine(ih (as++[(x.1.1,x.1.2,x.2.1)]) x.2.2 Z4 m ⋯ m4 (by simp;omega)<|_n x.2 hx2).imp ?_;rintro _ ZQ ⟨rfl,g3⟩;rw[VA] at H;cases hb:gQ n k (as++[(x.1.1,x.1.2,x.2.1)]) x.2.2 with
     |false=>
      simp![Tg];rw[H,hb];exact⟨rfl,g2.trans g3⟩
     |true=>
      simp![SS];rw[hb,Ve] at H;exact⟨trivial,g2.trans g3,l,_,_,_,_,rfl,rfl,fun y hy=>P y (by simp[hy]),H⟩
   .rintro B Z4 ⟨g2,l,o5,o6,o7,o8,L,rfl,P,H⟩;cases l with
    |cons x l=>cases L
    |nil=>
     simp!;rw[H];exact⟨rfl,g2⟩
def wG(C CF CT:Addr):C0:=sY (dn<|j8 C CT) (Η C CF CT 10) (.int 4) (.int 2)
theorem HK(h1:2<=n)(h2:n<=4)(F:(WA n).length<=1000)(S:k<=8)(z:Sh n k p):Wp (wG C CF CT [.int (n:Int),.int (k:Int),XZ k p] O) fun d Z6=>d=.bl (gQ n k [] p)/\Gr O Z6:=by
 unfold wG sY yN;refine(fB rfl).mpr ?_;show Ws (dH _ _ [some (.int (n:Int)),some (.int (k:Int)),some (XZ k p)] O) _;simp!;refine k9 ?_;unfold j8 sX;refine(ph rfl).mpr ?_;show Wt (fS _ _ [some (.int (n:Int)),some (.int 2),some (.int 4)] O) _;have H:decide ((n:Int)<2)=false:=by simp;omega
 have e1:decide ((4:Int)<(n:Int))=false:=by simp;omega
 simp![H,e1];refine⟨_,rfl,?_⟩;rw[fF nofun];simp!;exact M7 ⋯ F k [] p _ 10 ⋯ (fun a h=>by simp at h) (by simp;omega) z
end
def Ĝ:PyData.strOk "open"=true:=by decide +kernel
def F0(h0:L≠[])(F:L.length<=100000):Wp (j5 fD [.lst (L.map XO)] O) fun d Z6=>d=gI (cL L)/\Z6=O:=by
 obtain⟨J,r,rfl⟩:=Uh h0;unfold j5 rN;refine(fB rfl).mpr ?_;show Ws (dH _ _ [some (.lst<|(J::r).map XO),none] O) _;simp![Sz];rw[Hj];simp![XO];generalize hL:J::r=L at F;have P:D.lst (J.map dE)::r.map XO=L.map XO:=by rw[←hL];rfl
 refine jD (fun z B Z6=>Z6=O/\(∃o,B=[some (.lst<|D.lst (J.map dE)::r.map XO),o])/\∃q,z=q.map dE/\cL L=q.find? fun t=>L.all fun l=>decide (t∈l)) _ ⟨rfl,⟨_,rfl⟩,J,rfl,by rw[←hL];rfl⟩ ?_ ?_
 .rintro d z B Z6 ⟨rfl,⟨o,rfl⟩,q,e,H⟩;cases q with
  |nil=>cases e
  |cons t q=>
   cases e;simp![gz];rw[P];refine⟨by simp;omega,?_⟩;show Wp (fo none _ _ _ _ [none,some (dE t)] _) _;refine gP (dn:=XO) (fun B=>∃o,B=[o,some (dE t)]) (c:=none) trivial L ⟨_,rfl⟩ (keep:=fun _=>true) (val:=fun l=>D.bl<|decide (t∈l)) ?_ ?_
   .rintro l F B ⟨o,rfl⟩;simp![XO,yk];exact⟨trivial,⟨_,rfl⟩,trivial,trivial,fun _=>⟨trivial,trivial⟩⟩
   .have ef:(L.filter fun _=>true).map (fun l=>D.bl<|decide (t∈l))=(L.map fun l=>decide (t∈l)).map D.bl:=by
     rw[TJ.mpr (fun _ _=>rfl),S5];rfl
    rw[ef];simp![lz];have ea:(L.map fun l=>decide (t∈l)).all id=L.all fun l=>decide (t∈l):=by rw[VL];rfl
    rw[ea];rw[SH] at H;cases S:L.all fun l=>decide (t∈l) with
    |true=>
     rw[S] at H;simp!;rw[H];exact⟨rfl,trivial⟩
    |false=>
     rw[S] at H;simp!;exact⟨trivial,trivial,⟨_,rfl⟩,q,rfl,H⟩
 .rintro B Z6 ⟨rfl,⟨o,rfl⟩,q,e,H⟩;cases q with
  |cons t q=>cases e
  |nil=>
   simp!;rw[H];exact⟨rfl,trivial⟩
def nU:Tr->D
 | .e x=>dE x| .ask i j a b=>.tup [.str "ask",.int (i:Int),.int (j:Int),nU a,nU b]
def dO:Option Tr->D
 |none=>.non|some t=>nU t
def zA(t:Tr):∃ds,nU t=.tup ds:=by
 cases t with
 |e x=>cases x<;>exact⟨_,rfl⟩
 |ask i j a b=>exact⟨_,rfl⟩
def ym{o:Option Tr}{O:M}:jc (dO o) .non O=some (.bl o.isNone,O):=by
 cases o with
 |none=>rfl|some t=>obtain⟨ds,e⟩:=zA t;show jc (nU t) .non O=_;rw[e];rfl
def FL{o:Option Tr}{O:M}:kf (dO o) .non O=some (.bl o.isSome,O):=by
 cases o with
 |none=>rfl|some t=>obtain⟨ds,e⟩:=zA t;show kf (nU t) .non O=_;rw[e];rfl
def dN(l:ř):D:=.tup ((l.map fun x:Nat=>(x:Int)).map D.int)
structure Sp (n:Nat) (ps:ŕ) (ss:List Ő) (es:List (List Ŕ)):Prop where
 len:es.length=ss.length
 few:ss.length<=2000
 sl:∀s∈ss,s.length=n
 pr:∀p∈ps,p.1<n/\p.2<n
 pl:ps.length<=1000
structure Sr (C:Addr) (ps:ŕ) (ss:List Ő) (es:List (List Ŕ)) (O:M) (k m:Nat) (kvs:List (NK×D)):Prop where
 obj:O[k]?=some (some<|.ins C [("pairs",.lst<|ps.map dP),("sorts",.lst<|ss.map fun s=>.lst<|s.map D.int),("ends",.lst<|es.map XO),("searched",.ref m)])
 dic:O[m]?=some (some<|.dN kvs)
 good:∀p∈kvs,∃(left:ř) (a:Nat),p.1=(left.map (fun x:Nat=>(x:Int)),(a:Int))/\p.2=dO (eN ps ss es a left)
section
variable {C:Addr} {n:Nat} {ps:ŕ} {ss:List Ő} {es:List (List Ŕ)} {O Z6:M} {k m:Nat} {kvs:List (NK×D)}
theorem Sr.ne(h:Sr C ps ss es O k m kvs):k≠m:=fun e=>by have H:=h.obj;rw[e,h.dic] at H;cases H
theorem Sr.f1(h:Sr C ps ss es O k m kvs):gG C "pairs" (.ref k) O=some (.lst (ps.map dP),O):=tH h.obj rfl
theorem Sr.f2(h:Sr C ps ss es O k m kvs):gG C "sorts" (.ref k) O=some (.lst (ss.map fun s=>.lst<|s.map D.int),O):=tH h.obj rfl
theorem Sr.f3(h:Sr C ps ss es O k m kvs):gG C "ends" (.ref k) O=some (.lst (es.map XO),O):=tH h.obj rfl
theorem Sr.f4(h:Sr C ps ss es O k m kvs):gG C "searched" (.ref k) O=some (.ref m,O):=tH h.obj rfl
def cc:Nat->Nat->Nat
 |0,_=>1|a+1,o=>1+o*(2*cc a (o - 1))
def gN(ss:List Ő)(left:ř)(p:Nat×Nat):Bool:=!decide (Xg ss p.1 p.2 left=[])&&!decide (Xc ss p.1 p.2 left=[])
def op(ps:ŕ)(ss:List Ő)(left:ř):Nat:=(ps.filter<|gN ss left).length
theorem zZ{α:Type}{f g:α->Bool}(h:∀x,f x=true->g x=true){p:α}(h1:f p=false)(z:g p=true):∀{l:List α},p∈l->(l.filter f).length+1<=(l.filter g).length:=by
 have le:∀l:List α,(l.filter f).length<=(l.filter g).length:=by
  intro l;induction l with
  |nil=>simp|cons x l H=>
   rw[Ue,Ue];cases J:f x with
   |true=>rw[h x J];simpa using H|false=>cases L:g x<;>simp<;>omega
 intro l;induction l with
 |nil=>intro m;cases m
 |cons x l H=>
  intro m;rw[Ue,Ue];rcases SI.mp m with rfl|m
  .rw[h1,z];have:=le l;simp;omega
  .have:=H m;cases J:f x with
   |true=>rw[h x J];simp;omega|false=>cases L:g x<;>simp<;>omega
theorem AY{f:Nat->Bool}{F z:ř}(S:∀x∈F,x∈z)(h:z.filter f=[]):F.filter f=[]:=by rw[Tt] at h⊢;exact fun x H=>h x (S x H)
theorem BN{left z:ř}(F:∀x∈z,x∈left)(p:Nat×Nat)(h:gN ss z p=true):gN ss left p=true:=by unfold gN at h⊢;simp only[SG,Bool.not_eq_true',decide_eq_false_iff_not] at h⊢;exact⟨fun e=>h.1 (AY F e),fun e=>h.2<|AY F e⟩
theorem NX{left:ř}{p:Nat×Nat}(z:p∈ps)(F:gN ss left p=true):op ps ss (Xg ss p.1 p.2 left)+1<=op ps ss left:=by
 refine zZ (BN fun x H=>(Sy.mp H).1) ?_ F z;have:Xc ss p.1 p.2 (Xg ss p.1 p.2 left)=[]:=by unfold Xc Xg;rw[Tt];intro x H;have:=(Sy.mp H).2;simpa using this
 show gN ss (Xg ss p.1 p.2 left) p=false;unfold gN;rw[SK this];simp
theorem Ke{left:ř}{p:Nat×Nat}(z:p∈ps)(F:gN ss left p=true):op ps ss (Xc ss p.1 p.2 left)+1<=op ps ss left:=by
 refine zZ (BN fun x H=>(Sy.mp H).1) ?_ F z;have:Xg ss p.1 p.2 (Xc ss p.1 p.2 left)=[]:=by unfold Xc Xg;rw[Tt];intro x H;have:=(Sy.mp H).2;simpa using this
 show gN ss (Xc ss p.1 p.2 left) p=false;unfold gN;rw[SK this];rfl
theorem zF(a o:Nat):1<=cc a o:=by cases a<;>simp[cc]
theorem qF:∀(a:Nat) {o o':Nat},o<=o'->cc a o<=cc a o'
 |0,_,_,_=>Sm _|a+1,o,o',h=>by show 1+o*(2*cc a (o - 1))<=1+o'*(2*cc a (o' - 1));have H:=qF a (show o - 1<=o' - 1 by omega);have:=VU h (Vm 2 H);omega
abbrev key(left:ř)(a:Nat):NK:=(left.map (fun x:Nat=>(x:Int)),(a:Int))
def Tw(C:Addr)(n:Nat)(ps:ŕ)(ss:List Ő)(es:List (List Ŕ))(a:Nat)(f:C0):Prop:=
 ∀(left:ř) (k m:Nat) (kvs:List (NK×D)) (O:M),Sr C ps ss es O k m kvs->left≠[]->(∀x∈left,x<ss.length)->left.length<=2000->(fO kvs (key left a)=none->kvs.length+cc a (op ps ss left)<=15000000)->
  Wp (f [.ref k,dN left,.int (a:Int)] O) fun d Z6=>d=dO (eN ps ss es a left)/\∃kvs',Sr C ps ss es Z6 k m kvs'/\kvs'.length<=kvs.length+(if(fO kvs<|key left a).isSome then 0 else cc a (op ps ss left))/\(fO kvs'<|key left a).isSome=true/\Kp m O Z6
theorem Tw.le{c:Nat}{o:Option D}{a b:Nat}(h:a<=b+(if o.isSome then 0 else c)):a<=b+c:=by cases o<;>simp at h<;>omega
theorem vc{ds:List D}{j:Nat}{v:D}{O:M}(h:ds[j]?=some v):V6 (.lst ds) (.int (j:Int)) O=some (v,O):=by rw[uO,ji h];rfl
theorem ĵ{x:Nat}{O:M}(z:x<ss.length):V6 (.lst<|ss.map fun s=>.lst<|s.map D.int) (.int (x:Int)) O=some (.lst ((ss.getD x []).map D.int),O):=
 vc (by simp[z,So])
theorem ϯ{x i:Nat}{O:M}(S:Sp n ps ss es)(z:x<ss.length)(hi:i<n):V6 (.lst<|(ss.getD x []).map D.int) (.int (i:Int)) O=some (.int (at2 ss x i),O):=by have H:=S.sl _ (TC z);refine vc ?_;unfold at2;simp[So,z,Sq (show i<(ss[x]).length by omega)]
theorem AT{ds:List D}{O:M}:sw (.lst ds) O=some (.tup ds,O):=rfl
theorem zK{ds:List D}{O:M}{RB:Bool->M->Prop}:ϥ RB (.tup ds) O↔RB (!ds.isEmpty) O:=⟨fun⟨_,e,q⟩=>by cases e;exact q,fun q=>⟨_,rfl,q⟩⟩
theorem pC{l:ř}:(l.map fun x:Nat=>(x:Int)).map D.int=l.map fun x:Nat=>D.int (x:Int):=by rw[S5];rfl
theorem Ķ:(!((l.map fun x:Nat=>(x:Int)).map D.int).isEmpty)=!decide (l=[]):=by cases l<;>rfl
theorem J5{f:C0}{a:Nat}(S:Sp n ps ss es)(T:Tw C n ps ss es a f){left:ř}{p:Nat×Nat}(h:Sr C ps ss es O k m kvs)(hm:p∈ps)(F:∀x∈left,x<ss.length)(Λ:left.length<=2000)(hc:gN ss left p=true->kvs.length+2*cc a (op ps ss left - 1)<=15000000):
  Wp (oF f C [.ref k,.int (p.1:Int),.int (p.2:Int),dN left,.int ((a+1:Nat):Int)] O) fun d Z6=>d=dO (kq ss (eN ps ss es a) left p)/\∃kvs',Sr C ps ss es Z6 k m kvs'/\kvs'.length<=kvs.length+(if gN ss left p=true then 2*cc a (op ps ss left - 1) else 0)/\Kp m O Z6:=by
 have hp:=S.pr p hm;unfold oF xh;refine(fB rfl).mpr ?_;show Ws (dH _ _ [some (.ref k),some (.int (p.1:Int)),some (.int (p.2:Int)),some (dN left),some (.int ((a+1:Nat):Int)),none,none,none,none] O) _;unfold dN;simp![gz,Sv];refine⟨by omega,?_⟩;rw[pC];refine gP (dn:=fun x:Nat=>D.int (x:Int)) (fun B=>∃o,B=[o,some (.ref k),some (.int (p.1:Int)),some (.int (p.2:Int))]) (c:=none) trivial left ⟨_,rfl⟩ (keep:=fun x=>decide (at2 ss x p.1=at2 ss x p.2)) (val:=fun x:Nat=>D.int (x:Int)) ?_ ?_
 .rintro x H B ⟨o,rfl⟩;simp![h.f2,ĵ (F x H),ϯ S (F x H) hp.1,ϯ S (F x H) hp.2];exact⟨trivial,⟨_,rfl⟩,trivial,trivial,fun _=>⟨trivial,trivial⟩⟩
 have ea:(left.filter fun x=>decide (at2 ss x p.1=at2 ss x p.2)).map (fun x:Nat=>D.int (x:Int))=((Xg ss p.1 p.2 left).map fun x:Nat=>(x:Int)).map D.int:=by rw[pC];rfl
 rw[ea];simp![AT,gz,Sv];refine⟨by omega,?_⟩;refine gP (dn:=fun x:Nat=>D.int (x:Int)) (fun B=>∃o,B=[o,some (.ref k),some (.int (p.1:Int)),some (.int (p.2:Int))]) (c:=none) trivial left ⟨_,rfl⟩ (keep:=fun x=>!decide (at2 ss x p.1=at2 ss x p.2)) (val:=fun x:Nat=>D.int (x:Int)) ?_ ?_
 .rintro x H B ⟨o,rfl⟩;simp![h.f2,ĵ (F x H),ϯ S (F x H) hp.1,ϯ S (F x H) hp.2];exact⟨trivial,⟨_,rfl⟩,trivial,trivial,fun _=>⟨trivial,trivial⟩⟩
 have eu:(left.filter fun x=>!decide (at2 ss x p.1=at2 ss x p.2)).map (fun x:Nat=>D.int (x:Int))=((Xc ss p.1 p.2 left).map fun x:Nat=>(x:Int)).map D.int:=by rw[pC];rfl
 rw[eu];have la:(Xg ss p.1 p.2 left).length<=2000:=S1 (Te _ _) Λ;have lu:(Xc ss p.1 p.2 left).length<=2000:=S1 (Te _ _) Λ;have ma:∀x∈Xg ss p.1 p.2 left,x<ss.length:=fun x H=>F x (Sy.mp H).1;have mu:∀x∈Xc ss p.1 p.2 left,x<ss.length:=fun x H=>F x (Sy.mp H).1;simp![AT,zK,Ķ];unfold kq;have J:gN ss left p=(!decide (Xg ss p.1 p.2 left=[])&&!decide (Xc ss p.1 p.2 left=[])):=rfl;have hoa:=NX (ss:=ss) (left:=left) hm;have hou:=Ke (ss:=ss) (left:=left) hm;generalize gN ss left p=bo at J hoa hou hc;generalize Xg ss p.1 p.2 left=al at la ma J hoa;generalize Xc ss p.1 p.2 left=un at lu mu J hou;by_cases ha:al=[]
 .rw[SK ha,if_pos (.inl ha)];simp![SS,Tg];exact⟨rfl,kvs,h,by omega,.refl⟩
 .rw[Sw ha];simp![SS,Tg,zK,Ķ];by_cases hu:un=[]
  .rw[SK hu,if_pos (.inr hu)];simp![SS,Tg];exact⟨rfl,kvs,h,by omega,.refl⟩
  .rw[Sw hu,if_neg (fun z=>z.elim ha hu)];have hbo:bo=true:=by rw[J,Sw ha,Sw hu];rfl
   subst hbo;have c0:=hc rfl;have c1:=qF a (show op ps ss al<=op ps ss left - 1 by have:=hoa rfl;omega);have c2:=qF a (show op ps ss un<=op ps ss left - 1 by have:=hou rfl;omega);rw[if_pos rfl];simp![SS,Tg];rw[nL h.obj rfl];simp!;have e1:((a+1:Nat):Int) - 1=(a:Int):=by omega
   rw[e1];refine(T al k m kvs O h ha ma la<|fun _=>by omega).imp ?_;rintro _ Z5 ⟨rfl,P,h1,hl1,_,g1⟩;have hl1:=Tw.le hl1;simp![ym];cases hta:eN ps ss es a al with
   |none=>
    simp![Vu];exact⟨rfl,P,h1,by omega,g1⟩
   |some ta=>
    simp![Vv];rw[nL h1.obj rfl];simp!;rw[e1];refine(T un k m P Z5 h1 hu mu lu<|fun _=>by omega).imp ?_;rintro _ Z4 ⟨rfl,L,h2,hl2,_,g2⟩;have hl2:=Tw.le hl2;simp![ym];cases htu:eN ps ss es a un with
    |none=>
     simp![Vu];exact⟨rfl,L,h2,by omega,g1.trans g2⟩
    |some tu=>
     simp![Vv];rw[fv nofun];simp!;exact⟨rfl,L,h2,by omega,g1.trans g2⟩
end
def G0{o:Option Ŕ}{O:M}:We (gI o) fD O=some (.bl o.isSome,O):=by
 have key:∀(x:PyData),py 65 O (gI o)=some x->x.canLay0=true->x.depth<=64->PyData.eqv x (.tuple [.str "open"])=!o.isSome->We (gI o) fD O=some (.bl o.isSome,O):=by
  intro x h1 P L J;have e2:py 65 O fD=some (.tuple [.str "open"]):=rfl;have H:(PyData.tuple [.str "open"]).canLay0=true:=by simp[PyData.canLay0,PyData.canLayAll0,Ĝ]
  have z:Wu (gI o) fD O=some (!o.isSome):=by
   have:Wu (gI o) fD O=(py 65 O<|gI o).bind fun d=>(py 65 O fD).bind fun e=>if(d.canLay0&&e.canLay0&&decide (d.depth<=64))=true then some (PyData.eqv d e) else none:=by
    cases o with
    |none=>rfl|some t=>cases t<;>rfl
   rw[this,h1,e2];simp only[UJ,P,H,SK L,VB,if_true,J]
  unfold We;rw[z];simp
 cases o with
 |none=>exact key (.tuple [.str "open"]) rfl (by simp[PyData.canLay0,PyData.canLayAll0,Ĝ]) (by simp[PyData.depth,PyData.depthAll]) (by simp[PyData.eqv,PyData.eqvAll])|some t=>
  refine key (pE t) (pR t) (x4 t) (S1 (C1 t)<|by decide) ?_;cases t with
  |none=>simp[pE,PyData.eqv,PyData.eqvAll];decide +kernel|some t=>simp[pE,PyData.eqv,PyData.eqvAll]
section
variable {C:Addr} {n:Nat} {ps:ŕ} {ss:List Ő} {es:List (List Ŕ)} {O Z6:M} {k m:Nat} {kvs:List (NK×D)}
theorem _U{x:Nat}{O:M}(z:x<es.length):V6 (.lst<|es.map XO) (.int (x:Int)) O=some (XO (es.getD x []),O):=vc (by simp[z,So])
abbrev xW(C:Addr)(f:C0):C0:=tQ (j5 fD) (oF f C) fD C
theorem NS{f:C0}{a:Nat}(S:Sp n ps ss es)(T:∀b,b+1=a->Tw C n ps ss es b f){left:ř}(h:Sr C ps ss es O k m kvs)(h0:left≠[])(hl:∀x∈left,x<ss.length)(Λ:left.length<=2000)(hc:kvs.length+cc a (op ps ss left)<=15000000):
  Wp (xW C f [.ref k,dN left,.int (a:Int)] O) fun d Z6=>d=dO (eN ps ss es a left)/\∃kvs',Sr C ps ss es Z6 k m kvs'/\kvs'.length+1<=kvs.length+cc a (op ps ss left)/\Kp m O Z6:=by
 unfold xW tQ uE;refine(fB rfl).mpr ?_;show Ws (dH _ _ [some (.ref k),some (dN left),some (.int (a:Int)),none,none,none,none] O) _;unfold dN;simp![gz,Sv];refine⟨by omega,?_⟩;rw[pC];refine gP (dn:=fun x:Nat=>D.int (x:Int)) (fun B=>∃o,B=[o,some (.ref k)]) (c:=none) trivial left ⟨_,rfl⟩ (keep:=fun _=>true) (val:=fun x:Nat=>XO<|es.getD x []) ?_ ?_
 .rintro x hx B ⟨o,rfl⟩;simp![h.f3,_U (show x<es.length by rw[S.len];exact hl x hx)];exact⟨trivial,⟨_,rfl⟩,trivial,trivial,fun _=>⟨trivial,trivial⟩⟩
 have ev:(left.filter fun _=>true).map (fun x:Nat=>XO<|es.getD x [])=(left.map fun x=>es.getD x []).map XO:=by rw[TJ.mpr (fun _ _=>rfl),S5];rfl
 rw[ev,←pC];refine(F0 (by simpa using h0) (by simp;omega)).imp ?_;rintro _ Z5 ⟨rfl,rfl⟩;simp![G0];have hcE:cL (left.map fun x=>es.getD x [])=cE es left:=rfl;rw[hcE];have hpos:=zF a (op ps ss left);cases he:cE es left with
 |some x=>
  simp![Uu];have F:eN ps ss es a left=some (.e x):=by cases a<;>simp[eN,he]
  rw[F];exact⟨rfl,kvs,h,by omega,.refl⟩
 |none=>
  simp![Vw];cases a with
  |zero=>
   have F:eN ps ss es 0 left=none:=by simp[eN,he]
   rw[F];simp![Int.natCast_zero,U1];exact⟨rfl,kvs,h,by omega,.refl⟩
  |succ a=>
   have ez:decide (((a+1:Nat):Int)=0)=false:=Sw ⋯;rw[ez];simp![h.f1];have F:eN ps ss es (a+1) left=ps.findSome? (kq ss (eN ps ss es a) left):=by simp[eN,he]
   rw[F];have ϕ:cc (a+1) (op ps ss left)=1+op ps ss left*(2*cc a (op ps ss left - 1)):=rfl;rw[ϕ] at hc⊢;generalize hq:cc a (op ps ss left - 1)=q at hc⊢;refine jD (fun rr B Z6=>∃H kvs' o3 o4 o5 o6,rr=H.map dP/\(∀p∈H,p∈ps)/\ps.findSome? (kq ss (eN ps ss es a) left)=H.findSome? (kq ss (eN ps ss es a) left)/\B=[some (.ref k),some (.tup<|(left.map fun x:Nat=>(x:Int)).map D.int),some (.int ((a+1:Nat):Int)),o3,o4,o5,o6]/\Sr C ps ss es Z6 k m kvs'/\kvs'.length+op H ss left*(2*q)<=kvs.length+op ps ss left*(2*q)/\Kp m Z5 Z6) _ ⟨ps,kvs,_,_,_,_,rfl,fun p h=>h,rfl,rfl,h,by omega,.refl⟩ ?_ ?_
   .rintro d rr B Z4 ⟨H,L,o3,o4,o5,o6,e,hm,z,rfl,h2,P,g2⟩;cases H with
    |nil=>cases e
    |cons p H=>
     cases e;have e3:op (p::H) ss left*(2*q)=op H ss left*(2*q)+(if gN ss left p=true then 2*q else 0):=by
      unfold op;rw[Ue];cases gN ss left p with
      |true=>simp[Nat.add_mul]|false=>simp
     rw[e3] at P;unfold dP;rw[js (n:=2) rfl];simp!;rw[nL h2.obj rfl];simp!;refine(J5 S (T a rfl) (p:=p) h2 (hm p nofun) hl Λ (fun ho=>by rw[hq];rw[if_pos ho] at P;omega)).imp ?_;rintro _ ZQ ⟨rfl,J,h3,hl3,g3⟩;rw[hq] at hl3;simp![FL];rw[List.findSome?_cons] at z;cases ha:kq ss (eN ps ss es a) left p with
     |some t=>
      rw[ha] at z;simp![Uu];rw[z];exact⟨rfl,J,h3,by omega,g2.trans g3⟩
     |none=>
      rw[ha] at z;simp![Vw];exact⟨trivial,H,J,_,_,_,_,rfl,fun p h=>hm p (by simp[h]),z,rfl,h3,by omega,g2.trans g3⟩
   .rintro B Z4 ⟨H,L,o3,o4,o5,o6,e,hm,z,rfl,h2,P,g2⟩;cases H with
    |cons p H=>cases e
    |nil=>
     simp!;rw[z];refine⟨rfl,L,h2,?_,g2⟩;omega
abbrev xY(C:Addr)(f:C0):C0:=qR (xW C f) C
theorem Co(S:Sp n ps ss es)(T:∀b,b+1=a->Tw C n ps ss es b f):Tw C n ps ss es a (xY C f):=by
 intro left k m kvs O h h0 hl Λ hc;have hpos:=zF a (op ps ss left);unfold xY qR xO;refine(fB rfl).mpr ?_;show Ws (dH _ _ [some (.ref k),some (dN left),some (.int (a:Int))] O) _;simp!;rw[fv nofun];simp![h.f4];unfold dN;rw[KP h.dic];simp!;cases hv:fO kvs (left.map (fun x:Nat=>(x:Int)),(a:Int)) with
 |some d=>
  simp![Uu,SS,h.f4];rw[fv nofun];simp!;rw[u4 h.dic hv];simp!;obtain⟨H,a',e1,e2⟩:=h.good _ (yo hv);have ea:a'=a:=by have:=congrArg Prod.snd e1;simp at this;omega
  have el:H=left:=by have:=congrArg Prod.fst e1;simp only at this;exact(List.map_inj_right (fun x y e=>by have e:(x:Int)=(y:Int):=e;omega)).mp this.symm
  subst ea el;exact⟨e2,kvs,h,by simp,by rw[hv];rfl,.refl⟩
 |none=>
  simp![Vw,Tg];rw[nL h.obj rfl];simp!;have hc:=hc hv;refine(NS S T (left:=left) h h0 hl Λ hc).imp ?_;rintro _ Z5 ⟨rfl,J,F,hl1,g1⟩;simp![F.f4];rw[fv nofun];simp!;rw[GS F.dic ⋯];simp!;cases P:fO J (left.map (fun x:Nat=>(x:Int)),(a:Int)) with
  |none=>
   obtain⟨w1,w2⟩:=IQ (d:=dO (eN ps ss es a left)) P;rw[w2] at w1;rw[w2];have h2:Sr C ps ss es (Z5.set m<|some<|.dN<|J++[((left.map (fun x:Nat=>(x:Int)),(a:Int)),dO<|eN ps ss es a left)]) k m (J++[((left.map (fun x:Nat=>(x:Int)),(a:Int)),dO<|eN ps ss es a left)]):=by
    refine⟨by rw[h8 F.ne];exact F.obj,gS F.dic,?_⟩;intro p hp;rcases S8.mp hp with hp|hp
    .exact F.good p hp
    .rw[To] at hp;subst hp;exact⟨left,a,rfl,rfl⟩
   simp![h2.f4];rw[fv nofun];simp!;rw[u4 h2.dic w1];simp!;exact⟨trivial,_,h2,by simp;omega,by rw[w1];rfl,g1.trans mj⟩
  |some d1=>
   obtain⟨H,a',e1,e2⟩:=F.good _ (yo P);have ea:a'=a:=by have:=congrArg Prod.snd e1;simp at this;omega
   have el:H=left:=by have:=congrArg Prod.fst e1;simp only at this;exact(List.map_inj_right (fun x y e=>by have e:(x:Int)=(y:Int):=e;omega)).mp this.symm
   subst ea el;have e2:d1=dO (eN ps ss es a' H):=e2;subst e2;have hm1:=yo P;generalize hK:((H.map (fun x:Nat=>(x:Int)),(a':Int)):NK)=K at P hm1;have Ϙ:(J.any fun L=>decide (L.1=K))=true:=by rw[S7];exact⟨_,hm1,by simp⟩
   have hp2:iM J K (dO<|eN ps ss es a' H)=J.map fun L=>if L.1=K then(L.1,dO<|eN ps ss es a' H) else L:=by unfold iM;rw[if_pos Ϙ]
   rw[hp2];have ι:fO (J.map fun L=>if L.1=K then(L.1,dO<|eN ps ss es a' H) else L) K=some (dO<|eN ps ss es a' H):=by
    clear hp2 Ϙ hm1 hl1 F hc;unfold fO at P⊢;induction J with
    |nil=>cases P
    |cons z r ih=>
     rw[Sz];by_cases hz:z.1=K
     .simp[SH,hz]
     .simp only[SH,hz,UI,if_false] at P⊢;exact ih P
   have h2:Sr C ps ss es (Z5.set m<|some<|.dN<|J.map fun L=>if L.1=K then(L.1,dO<|eN ps ss es a' H) else L) k m (J.map fun L=>if L.1=K then(L.1,dO<|eN ps ss es a' H) else L):=by
    refine⟨by rw[h8 F.ne];exact F.obj,gS F.dic,?_⟩;intro p hp;obtain⟨z,hz,rfl⟩:=SU.mp hp;by_cases e:z.1=K
    .rw[if_pos e];exact⟨H,a',by rw[hK];exact e,rfl⟩
    .rw[if_neg e];exact F.good z hz
   simp![h2.f4];rw[fv nofun];simp!;rw[←hK] at ι h2⊢;rw[u4 h2.dic ι];simp!;exact⟨trivial,_,h2,by simp;omega,by rw[ι];rfl,g1.trans mj⟩
def sr(C:Addr):Nat->List D->M->Fr
 |0=>fun _ _=>none|f+1=>xY C (sr C f)
theorem DF(S:Sp n ps ss es):∀(a f:Nat),a<f->Tw C n ps ss es a (sr C f)
 |a,0,h=>by omega|0,f+1,_=>Co S fun b e=>by omega|a+1,f+1,h=>Co S fun b e=>by
  have:b=a:=by omega
  subst this;exact DF S b f ⋯
end
def AI(h:s∈(Sx n m).map (·.1)):s.length=n:=by obtain⟨p,H,rfl⟩:=SU.mp h;exact((nQ m n p H).len)
section
variable {C:Addr} {n:Nat} {ss:List Ő} {es:List (List Ŕ)} {O:M}
abbrev vn(C:Addr):C0:=sP mz C
theorem _J:fZ "sorts" d [("pairs",p)]=([("pairs",p),("sorts",d)]:List (Str×D)):=by unfold fZ;rw[if_neg (by decide +kernel)];rfl
theorem _I:fZ "ends" d [("pairs",p),("sorts",q)]=([("pairs",p),("sorts",q),("ends",d)]:List (Str×D)):=by unfold fZ;rw[if_neg (by decide +kernel)];unfold fZ;rw[if_neg (by decide +kernel)];rfl
theorem _H:fZ "searched" d [("pairs",p),("sorts",q),("ends",r)]=([("pairs",p),("sorts",q),("ends",r),("searched",d)]:List (Str×D)):=by unfold fZ;rw[if_neg (by decide +kernel)];unfold fZ;rw[if_neg (by decide +kernel)];unfold fZ;rw[if_neg (by decide +kernel)];rfl
theorem J6(hn:n<=100)(hk:O[k]?=some (some<|.ins C [])):Wp (vn C [.ref k,.int (n:Int),.lst (ss.map dI),.lst (es.map XO)] O) fun d Z6=>d=.non/\∃m,O.length<=m/\Sr C (WA n) ss es Z6 k m []/\Kp k O Z6:=by unfold vn sP vK;refine(fB rfl).mpr ?_;show Ws (dH _ _ [some (.ref k),some (.int (n:Int)),some (.lst<|ss.map dI),some (.lst<|es.map XO)] O) _;simp![x9 hn];rw[sf hk nofun];simp!;have z:(O.set k<|some<|Z9.ins C<|fZ "pairs" (.lst<|(WA n).map dP) [])[k]?=some (some<|Z9.ins C [("pairs",.lst<|(WA n).map dP)]):=gS hk;have g1:Kp k O (O.set k<|some<|Z9.ins C<|fZ "pairs" (.lst<|(WA n).map dP) []):=mj;generalize O.set k (some<|Z9.ins C<|fZ "pairs" (.lst<|(WA n).map dP) [])=F at z g1;rw[sf z nofun];simp!;rw[_J];have P:=gS (y:=some (Z9.ins C [("pairs",.lst<|(WA n).map dP),("sorts",.lst<|ss.map dI)])) z;have g2:Kp k F (F.set k<|some<|Z9.ins C [("pairs",.lst<|(WA n).map dP),("sorts",.lst<|ss.map dI)]):=mj;generalize F.set k (some<|Z9.ins C [("pairs",.lst<|(WA n).map dP),("sorts",.lst<|ss.map dI)])=S at P g2;rw[sf P nofun];simp!;rw[_I];have L:=gS (y:=some (Z9.ins C [("pairs",.lst<|(WA n).map dP),("sorts",.lst<|ss.map dI),("ends",.lst<|es.map XO)])) P;have g3:Kp k S (S.set k<|some<|Z9.ins C [("pairs",.lst<|(WA n).map dP),("sorts",.lst<|ss.map dI),("ends",.lst<|es.map XO)]):=mj;generalize S.set k (some<|Z9.ins C [("pairs",.lst<|(WA n).map dP),("sorts",.lst<|ss.map dI),("ends",.lst<|es.map XO)])=H at L g3;have J:=(g1.trans g2).trans g3;have ev:ub [some (.ref k),some (.int (n:Int)),some (.lst<|ss.map dI),some (.lst<|es.map XO)] H=some (.ref H.length,H++[some (.dN [])]):=rfl;rw[ev];simp!;have h4:(H++[some (Z9.dN [])])[k]?=some (some<|Z9.ins C [("pairs",.lst<|(WA n).map dP),("sorts",.lst<|ss.map dI),("ends",.lst<|es.map XO)]):=Wn.get L;rw[sf h4 nofun];simp!;rw[_H];have hk3:k<H.length:=(Sn.mp L).1;refine⟨trivial,H.length,J.len,⟨gS h4,?_,fun p h=>by cases h⟩,(J.trans AE).trans mj⟩;rw[h8 ⋯];simp
theorem Cc(h:B[i]?=some (some<|.int x))(z:Q .nx (B.set i<|some<|.int<|x+1) O):Ws (me i qI (vC<|.int 1) B O) Q:=by unfold me;rw[h];exact V3.mpr z
abbrev wj(C:Addr):C0:=tZ (vn C) (sr C 10) C
def cs(o:Nat):Nat->Nat
 |0=>0|a+1=>cs o a+cc a o
theorem JD(h:a<=b):cs o a<=cs o b:=by
 induction h with
 |refl=>exact Sm _|step _ H=>exact S1 H (UH _ _)
theorem GN(hn:n<=100)(S:Sp n (WA n) ss es)(h0:ss≠[])(hN:N<10)(ht:eN (WA n) ss es N (List.range ss.length)=some t)(ϒ:∀a,a<N->eN (WA n) ss es a (List.range ss.length)=none)(ϕ:cs (WA n).length (N+1)<=15000000):
  Wp (wj C [.int (n:Int),.lst (ss.map dI),.lst (es.map XO)] O) fun d Z6=>d=.tup [.int (N:Int),nU t]/\Gr O Z6:=by
 unfold wj tZ va;refine(fB rfl).mpr ?_;show Ws (dH _ _ [some (.int (n:Int)),some (.lst<|ss.map dI),some (.lst<|es.map XO),none,none,none] O) _;rw[qx,uD];refine FW ?_;simp![EH];refine(J6 (C:=C) (n:=n) (ss:=ss) (es:=es) (k:=O.length) hn nofun).imp ?_;rintro _ Z5 ⟨rfl,m,P,h1,g1⟩;have hml:O.length<=m:=by simp at P;omega
 have hG:Gr O Z5:=by refine⟨by have:=g1.len;simp at this;omega,fun j hj=>?_⟩;rw[g1.at_ j (by simp;omega) ⋯,SM hj]
 have hlen:(List.range ss.length)≠[]:=by intro e;have:=congrArg List.length e;simp at this;exact h0 this
 have hlt:∀x∈List.range ss.length,x<ss.length:=fun x hx=>S6.mp hx;have L:(List.range ss.length).length<=2000:=by rw[TR];exact S.few
 have e5:pA (.int (ss.length:Int)) Z5=some (dN (List.range ss.length),Z5):=by
  have hb:(0:Int)<=(ss.length:Int)/\(ss.length:Int)<=1000000:=by have:=S.few;omega
  unfold pA;simp only;rw[if_pos hb];unfold dN eT;rw[S5];simp
 simp![Ks,Sv,e5];refine⟨trivial,?_⟩;refine E9 (fun B Z6=>∃a kvs,a<=N/\B=[some (.int (n:Int)),some (.lst<|ss.map dI),some (.lst<|es.map XO),some (.ref O.length),some (dN<|List.range ss.length),some (.int (a:Int))]/\Sr C (WA n) ss es Z6 O.length m kvs/\kvs.length<=cs (WA n).length a/\Gr O Z6) (fun B _=>match B with
  | [_,_,_,_,_,some (.int a)]=>N - a.toNat|_=>0) 1000000 ⟨0,[],by omega,rfl,h1,Sm _,hG⟩ (by show N - (0:Int).toNat<1000000;omega) ?_
 rintro B Z4 ⟨a,kvs,ha,rfl,h2,hl2,g2⟩;have hca:=JD (o:=(WA n).length) (show a+1<=N+1 by omega);have Ć:cs (WA n).length (a+1)=cs (WA n).length a+cc a (WA n).length:=rfl;have hop:=qF a (show op (WA n) ss (List.range ss.length)<=(WA n).length from Te _ _);have T:=DF (C:=C) S a 10 ⋯;simp!;rw[nL h2.obj rfl];simp!;refine(T (List.range ss.length) O.length m kvs Z4 h2 hlen hlt L<|fun _=>by omega).imp ?_;rintro _ ZQ ⟨rfl,J,h3,hl3,hk3,g3⟩;have hl3:=Tw.le hl3;have H:Gr O ZQ:=⟨S1 g2.len g3.len,fun j hj=>by rw[g3.at_ j (by have:=g2.len;omega) ⋯];exact g2.at_ j hj⟩
 simp![ym];by_cases F:a<N
 .rw[ϒ a F];simp only[Vu,if_true];refine Cc (x:=(a:Int)) rfl ?_;refine⟨⟨a+1,J,by omega,by simp,h3,by omega,H⟩,?_⟩;show N - ((a:Int)+1).toNat<N - (a:Int).toNat
  omega
 .have:a=N:=by omega
  subst this;rw[ht];simp![Vv,SN,if_false];rw[nL h3.obj rfl];simp!;refine(T (List.range ss.length) O.length m J ZQ h3 hlen hlt L (fun z=>by rw[z] at hk3;cases hk3)).imp ?_;rintro _ Zx ⟨rfl,kvs4,h4,hl4,_,g4⟩;have hG4:Gr O Zx:=⟨S1 H.len g4.len,fun j hj=>by rw[g4.at_ j (by have:=H.len;omega) ⋯];exact H.at_ j hj⟩
  simp!;rw[fv nofun];simp!;rw[ht];exact⟨rfl,hG4⟩
end
def ε(f:Nat->Bool):Nat->Nat
 |0=>0|n+1=>ε f n|||(if f n then 2^n else 0)
theorem uZ(f:Nat->Bool)(x:Nat):∀n,(ε f n).testBit x=(decide (x<n)&&f x)
 |0=>by simp[ε]|n+1=>by
  rw[ε,Nat.testBit_or,uZ f x n];have H:(if f n then 2^n else 0:Nat).testBit x=(decide (n=x)&&f n):=by
   cases f n with
   |true=>simp[Nat.testBit_two_pow]|false=>simp
  rw[H];by_cases e:n=x
  .subst e;simp
  .by_cases h:x<n
   .simp[e,h,show x<n+1 by omega]
   .simp[e,h,show ¬x<n+1 by omega]
def wh(ps:ŕ)(ss:List Ő):ŕ:=ps.map fun p=>(ε (fun x=>decide (at2 ss x p.1=at2 ss x p.2)) ss.length,ε (fun x=>!decide (at2 ss x p.1=at2 ss x p.2)) ss.length)
def σ(ends:List Ŕ)(es:List (List Ŕ))(n:Nat):ř:=ends.map fun e=>ε (fun x=>decide (e∈es.getD x [])) n
def Kd(ps:ŕ)(ss:List Ő)(es:List (List Ŕ))(ends:List Ŕ)(h:∀x,x<ss.length->∀e∈es.getD x [],e∈ends):Mk ps ss es (wh ps ss) (σ ends es ss.length) ends:=by
 refine⟨by simp[wh],?_,by simp[σ],?_,h⟩
 .intro k p q L H x J;simp only[wh,S0,L,Vh,Option.some.injEq] at H;subst H;simp[uZ,J]
 .intro k e q he H x J;simp only[σ,S0,he,Vh,Option.some.injEq] at H;subst H;simp[uZ,J]
def eP(n m:Nat):List Ő:=(Sx n m).map (·.1)
def fN(n m:Nat):List (List Ŕ):=(eP n m).map hE
def ki(n:Nat):List Ŕ:=none::(List.range n).map fun t:Nat=>some (t:Int)
def MU(n:Nat):Ms (List.range n) (2^n - 1):=fun x=>by rw[S6,Nat.testBit_two_pow_sub_one];simp
def ye(z:(eP n m).length=L)(h0:0<L)(he:((fN n m).all fun l=>l.all fun e=>decide (e∈ki n))=true)(h1:wh (WA n) (eP n m)=pm)(S:σ (ki n) (fN n m) L=em)(F:kJ pm em a (2^L - 1)=true):∀b,b<=a->eN (WA n) (eP n m) (fN n m) b (List.range (eP n m).length)=none:=by
 have top:eN (WA n) (eP n m) (fN n m) a (List.range (eP n m).length)=none:=by
  have K:=Kd (WA n) (eP n m) (fN n m) (ki n) (fun x J e h=>by
   have H:x<(fN n m).length:=by simp[fN];exact J
   have hm:(fN n m).getD x []∈fN n m:=by rw[So,Sq H];exact TC _
   have:=S2.mp (S2.mp he _ hm) e h;simpa using this)
  rw[z] at K;rw[h1,S] at K;refine none_of K a _ _ (MU _) (fun x J=>S6.mp J) ?_ (by rw[z];exact F);intro e;have:=congrArg List.length e;rw[TR,z] at this;simp at this;omega
 intro b hb;have step:∀k,∀b,b+k=a->eN (WA n) (eP n m) (fN n m) b (List.range (eP n m).length)=none:=by
  intro k;induction k with
  |zero=>
   intro b e;have:b=a:=by omega
   subst this;exact top
  |succ k P=>
   intro b e;exact CU _ _ (P (b+1) ⋯)
 exact step (a - b) b ⋯
def Ψ(ps:ŕ):Tr->Bool
 | .e _=>true| .ask i j a b=>decide ((i,j)∈ps)&&(Ψ ps a&&Ψ ps b)
theorem w8:∀{t:Tr},Ψ ps t=true->wf ps t
 | .e _,_=>trivial| .ask i j a b,h=>by simp only[Ψ,SG,SJ] at h;exact⟨h.1,w8 h.2.1,w8 h.2.2⟩
def pM(n m N:Nat)(t:Tr):Bool:=Ψ (WA n) t&&(decide (dep t<=N)&&((List.range (eP n m).length).all fun x=>decide (gy ((eP n m).getD x []) t∈(fN n m).getD x [])))
structure χ (n m N:Nat):Prop where
 pos:0<(eP n m).length
 yes:∃t,eN (WA n) (eP n m) (fN n m) N (List.range (eP n m).length)=some t
 no:∀a,a<N->eN (WA n) (eP n m) (fN n m) a (List.range (eP n m).length)=none
def B4(h:0<(eP n m).length):List.range (eP n m).length≠[]:=fun e=>by have:=congrArg List.length e;rw[TR] at this;simp at this;rw[this] at h;exact absurd h (by decide)
def u8(z:0<(eP n m).length)(t:Tr)(h:pM n m N t=true):∃t,eN (WA n) (eP n m) (fN n m) N (List.range (eP n m).length)=some t:=by
 simp only[pM,SG,SJ] at h;obtain⟨h1,P,L⟩:=h;cases J:eN (WA n) (eP n m) (fN n m) N (List.range (eP n m).length) with
 |some t=>exact⟨t,rfl⟩|none=>
  obtain⟨x,H,q⟩:=B9 N _ (B4 z) J t (w8 h1) P;have:=S2.mp L x H;exact absurd (by simpa using this) q
def ue:(eP 2 2).length=2:=by decide +kernel
def zI:Tr:=.ask 0 1 (.e<|some 0) (.e none)
def Gi:pM 2 2 1 zI=true:=by decide +kernel
def Qt:((fN 2 2).all fun l=>l.all fun e=>decide (e∈ki 2))=true:=by decide +kernel
def E2:wh (WA 2) (eP 2 2)=[(1,2)]:=by decide +kernel
def Oz:σ (ki 2) (fN 2 2) 2=[2,1,1]:=by decide +kernel
def IG:kJ [(1,2)] [2,1,1] 0 (2^2 - 1)=true:=by decide +kernel
def MZ:χ 2 2 1:=⟨by rw[ue];decide,u8 (by rw[ue];decide) zI Gi,fun a H=>ye ue (by decide) Qt E2 Oz IG a ⋯⟩
def vO:(eP 3 3).length=5:=by decide +kernel
def B0:Tr:=.ask 0 1 (.e<|some 0) (.ask 0 2 (.e<|some 0)<|.ask 1 2 (.e<|some 1)<|.e none)
def PV:pM 3 3 3 B0=true:=by decide +kernel
def Rw:((fN 3 3).all fun l=>l.all fun e=>decide (e∈ki 3))=true:=by decide +kernel
def Mq:wh (WA 3) (eP 3 3)=[(3,28),(5,26),(9,22)]:=by decide +kernel
def Eo:σ (ki 3) (fN 3 3) 5=[16,7,11,13]:=by decide +kernel
def Pn:kJ [(3,28),(5,26),(9,22)] [16,7,11,13] 2 (2^5 - 1)=true:=by decide +kernel
def LO:χ 3 3 3:=⟨by rw[vO];decide,u8 (by rw[vO];decide) B0 PV,fun a H=>ye vO (by decide) Rw Mq Eo Pn a ⋯⟩
def vE:(eP 4 4).length=15:=by decide +kernel
def Cn:Tr:=.ask 0 1 (.ask 0 2 (.e<|some 0)<|.ask 0 3 (.e<|some 0)<|.e none) (.ask 0 2 (.ask 0 3 (.e<|some 0)<|.e none)<|.ask 1 2 (.ask 1 3 (.e<|some 1)<|.e none)<|.e none)
def RN:pM 4 4 4 Cn=true:=by decide +kernel
def Er:((fN 4 4).all fun l=>l.all fun e=>decide (e∈ki 4))=true:=by decide +kernel
def ED:wh (WA 4) (eP 4 4)=[(31,32736),(227,32540),(2341,30426),(1795,30972),(4677,28090),(8745,24022)]:=by decide +kernel
def O1:σ (ki 4) (fN 4 4) 15=[32216,39,519,547,549]:=by decide +kernel
def Hx:kJ [(31,32736),(227,32540),(2341,30426),(1795,30972),(4677,28090),(8745,24022)] [32216,39,519,547,549] 3 (2^15 - 1)=true:=by decide +kernel
def HZ:χ 4 4 4:=⟨by rw[vE];decide,u8 (by rw[vE];decide) Cn RN,fun a H=>ye vE (by decide) Er ED O1 Hx a ⋯⟩
def FO:∀n<8,∀p∈WA n,p.1<n/\p.2<n:=by decide +kernel
def xX:∀n<8,(WA n).length<=1000:=by decide +kernel
def K1{n m:Nat}(z:n<=7):Sp n (WA n) (eP n m) (fN n m):=by refine⟨by simp[fN],?_,fun s H=>AI H,fun p J=>FO n ⋯ p J,xX n ⋯⟩;have:=qi z m;simp only[eP,Sv];omega
section
variable {C CN CT:Addr} {n m:Nat} {O:M}
abbrev xa(CT:Addr):FX:=m5 jb (.int 7) CT
theorem xu(h1:lo<=(n:Int))(z:(n:Int)<=hi):Wp (j8 CN CT [.int (n:Int),.int lo,.int hi] O) fun r Z6=>r=.ok .non/\Z6=O:=by unfold j8 sX;refine(ph rfl).mpr ?_;show Wt (fS _ _ [some (.int (n:Int)),some (.int lo),some (.int hi)] O) _;simp!;rw[Sw ⋯];simp!;rw[Sw ⋯];simp!;exact⟨trivial,trivial⟩
theorem AN(hm:∀s∈eP n m,(fR s).length<=1000)(z:n<=7):∀(l:List Ő) (o:Option D) (O:M),(∀s∈l,s∈eP n m)->
  ∃Z6,fo none (dC 0) eC (vL iB<|dz (be 0) dD) (l.map dI) [o] O=some ((l.map hE).map XO,Z6)/\Gr O Z6
 | [],o,O,_=>⟨O,rfl,.refl⟩|s::l,o,O,h=>by have H:=h s nofun;obtain⟨J,e1,g1⟩:=yy (s:=s) (O:=O) (by rw[AI H];omega) (hm s H);obtain⟨Z4,e2,S⟩:=AN hm z l (some<|dI s) J (fun x L=>h x<|by simp[L]);refine⟨Z4,?_,g1.trans S⟩;have F:dC 0 (dI s) [o] O=some ([some (dI s)],O):=rfl;have P:vL iB (dz (be 0) dD) [some (dI s)] O=some (XO (hE s),J):=e1;rw[Sz];simp only[fo,F,bs];show(eC _ _).bind _=_;simp only[eC,bs,if_true,P,km];rw[e2];rfl
abbrev uI(C CT:Addr):FX:=rY iB (wj C) (xa CT)
theorem GR(hn:n<=7)(hN:N<10)(hm:∀s∈eP n m,(fR s).length<=1000)(F:χ n m N)(z:cs (WA n).length (N+1)<=15000000)(ht:eN (WA n) (eP n m) (fN n m) N (List.range (eP n m).length)=some t):
  Wp (uI C CT [.int (n:Int),.int (m:Int)] O) fun r Z6=>r=.ok (.tup [.int (N:Int),nU t])/\Gr O Z6:=by
 unfold uI rY wt;refine(ph rfl).mpr ?_;show Wt (fS _ _ [some (.int (n:Int)),some (.int (m:Int)),none] O) _;simp!;have ea:xa CT [.int (n:Int),.int (m:Int)] O=some (.ok (.lst<|(eP n m).map dI),O):=by have:=yq (O:=O) (n:=n) (k:=(m:Int)) (C:=CT) ⋯;rw[show((m:Int)).toNat=m by omega] at this;rw[show(eP n m).map dI=(Sx n m).map dS by simp[eP,dS,Function.comp_def]];exact this
 rw[ea];simp!;rw[gz];have S:=K1 (n:=n) (m:=m) hn;refine⟨by have:=S.few;(try simp);omega,?_⟩;obtain⟨Z5,e1,P⟩:=AN hm hn (eP n m) none O fun s J=>J;refine lI e1 ?_;simp!;have H:eP n m≠[]:=List.ne_nil_of_length_pos F.pos;refine(GN (C:=C) (O:=Z5) ⋯ S H hN ht F.no z).imp ?_;rintro _ Z4 ⟨rfl,L⟩;simp!;exact⟨trivial,P.trans L⟩
end
def gR{β:Type}(f:Bool->Option β):Option (Bool×β):=match f true with
 |some r=>some (true,r)|none=>match f false with
  |some r=>some (false,r)|none=>none
def iW{α β:Type}(f:α->Option β):List α->Option (List β)
 | []=>some []|a::l=>match f a with
  |none=>none|some b=>match iW f l with
   |none=>none|some r=>some (b::r)
def pb(n:Nat):(k:Nat)->ś->Option (Wg k)
 |0,as=>if fj as&&(iJ<|fe n as).isNone then some () else none|k+1,as=>if fj as then(iW (fun p=>gR fun b=>pb n k<|as++[(p.1,p.2,b)]) (WA n):Option (List<|Bool×Wg k)) else none
def ϵ(k:Nat)(o:Option (Wg k)):D:=match o with
 |some p=>XZ k p|none=>.non
def Đ(k:Nat)(o:Option (Bool×Wg k)):D:=match o with
 |some r=>dR k r|none=>.non
def FU:jc .non .non O=some (.bl true,O):=rfl
def Lo:kf (XZ k p) .non O=some (.bl true,O):=by cases k<;>rfl
def Ka:kf .non .non O=some (.bl false,O):=rfl
def P0(h:O[k]?=some (some<|.lst ds))(z:ds.length<1000000):gM (.ref k) y O=some (.non,O.set k<|some<|.lst<|ds++[y]):=by simp only[gM,mT h,if_pos z,qQ]
section
variable {n:Nat} {C CF CT:Addr}
theorem Hn(hl:as.length<=100)
  (hF:∀(b:Bool) (O:M),Wp (F [.int (n:Int),.lst ((as++[(i,j,b)]).map dA),.int (k:Int)] O) fun d Z6=>d=ϵ k (f b)/\Gr O Z6) (O:M):
  Wp (p6 F [.int (n:Int),.lst (as.map dA),.int ((k+1:Nat):Int),.int (i:Int),.int (j:Int)] O) fun d Z6=>d=Đ k (gR f)/\Gr O Z6:=by
 unfold p6 uj;refine(fB rfl).mpr ?_;show Ws (dH _ _ [some (.int (n:Int)),some (.lst<|as.map dA),some (.int ((k+1:Nat):Int)),some (.int (i:Int)),some (.int (j:Int)),none,none] O) _;have ek:(((k+1:Nat):Int) - 1)=(k:Int):=by omega
 have ea:∀b:Bool,as.map dA++[D.tup [.int (i:Int),.int (j:Int),.bl b]]=(as++[(i,j,b)]).map dA:=fun b=>by simp[dA]
 simp!;rw[fv nofun];simp!;refine jD (fun r B Z6=>∃(l:ť) (o5 S:Option D),r=l.map D.bl/\B=[some (.int (n:Int)),some (.lst<|as.map dA),some (.int ((k+1:Nat):Int)),some (.int (i:Int)),some (.int (j:Int)),o5,S]/\Gr O Z6/\(l=[true,false]\/(l=[false]/\f true=none)\/(l=[]/\f true=none/\f false=none))) _ ⟨[true,false],_,_,rfl,rfl,.refl,.inl rfl⟩ ?_ ?_
 .rintro d r B Z5 ⟨l,o5,S,P,rfl,g1,J⟩;cases l with
  |nil=>cases P
  |cons b l=>
   rw[Sz] at P;injection P with H L
   subst H L;simp!;rw[fv nofun];simp!;rw[fF nofun];simp!;rw[yU (by simp;omega)];simp!;rw[ea,ek];refine(hF b Z5).imp ?_;rintro _ Z4 ⟨rfl,g2⟩;have g:=g1.trans g2;cases z:f b with
   |some p=>
    have e:gR f=some (b,p):=by
     rcases J with h|⟨h,h'⟩|⟨h,_⟩
     .injection h with H _
      subst H;simp only[gR,z]
     .injection h with H _
      subst H;simp only[gR,h',z]
     .cases h
    simp![ϵ,Lo];rw[fv nofun];simp!;rw[e];exact⟨rfl,g⟩
   |none=>
    simp![ϵ,Ka];refine⟨trivial,l,_,_,rfl,rfl,g,?_⟩;rcases J with h|⟨h,h'⟩|⟨h,_⟩
    .injection h with H L
     subst H L;exact .inr (.inl ⟨rfl,z⟩)
    .injection h with H L
     subst H L;exact .inr (.inr ⟨rfl,h',z⟩)
    .cases h
 .rintro B Z5 ⟨l,o5,S,P,rfl,g1,J⟩;cases l with
  |cons b l=>cases P
  |nil=>
   simp!;have e:gR f=none:=by
    rcases J with h|⟨h,_⟩|⟨_,H,L⟩
    .cases h
    .cases h
    .simp only[gR,H,L]
   rw[e];exact⟨rfl,g1⟩
def Θ(C CF CT:Addr):Nat->List D->M->Fr
 |0=>fun _ _=>none|m+1=>qj (dn<|kn C) (dn<|oo C CF CT) mz (p6<|Θ C CF CT m) fD
theorem GT(hn:n<=7)(hp:(WA n).length<=1000):∀(k:Nat) (as:ś) (O:M) (m:Nat),k<m->Xi n as->as.length+k<=100->Wp (Θ C CF CT m [.int (n:Int),.lst (as.map dA),.int (k:Int)] O) fun d Z6=>d=ϵ k (pb n k as)/\Gr O Z6:=by
 intro k;induction k with
 |zero=>
  intro as O m hm S hl;obtain⟨m,rfl⟩:∃j,m=j+1:=⟨m - 1,by omega⟩
  unfold Θ qj sA;refine(fB rfl).mpr ?_;show Ws (dH _ _ [some (.int (n:Int)),some (.lst<|as.map dA),some (.int ((0:Nat):Int)),none,none,none,none] O) _;have e1:decide (((0:Nat):Int)=0)=true:=by simp
  simp!;refine(sq S ⋯).imp ?_;rintro _ Z5 ⟨rfl,g1⟩;have L:pb n 0 as=if fj as&&(iJ<|fe n as).isNone then some () else none:=rfl
  cases hc:fj as with
  |false=>
   simp![Tg];rw[L,hc];exact⟨rfl,g1⟩
  |true=>
   simp![SS,e1];have hf:fe n as≠[]:=fun z=>by have:=(pH (n:=n) (as:=as)<|S.inN).mp z;rw[hc] at this;cases this
   refine(y3 S ⋯ hn hf).imp ?_;rintro _ Z4 ⟨rfl,g2⟩;have g:=g1.trans g2;simp![BU];rw[L,hc];cases (iJ<|fe n as).isNone with
   |true=>
    simp!;rw[fv nofun];simp!;exact⟨rfl,g⟩
   |false=>
    simp!;exact⟨rfl,g⟩
 |succ k ih=>
  intro as O m hm S hl;obtain⟨m,rfl⟩:∃j,m=j+1:=⟨m - 1,by omega⟩
  unfold Θ qj sA;refine(fB rfl).mpr ?_;show Ws (dH _ _ [some (.int (n:Int)),some (.lst<|as.map dA),some (.int ((k+1:Nat):Int)),none,none,none,none] O) _;have e1:decide (((k+1:Nat):Int)=0)=false:=by simp;omega
  simp!;refine(sq S ⋯).imp ?_;rintro _ Z5 ⟨rfl,g1⟩;have L:pb n (k+1) as=if fj as then(iW (fun p=>gR fun b=>pb n k<|as++[(p.1,p.2,b)]) (WA n):Option (List<|Bool×Wg k)) else none:=rfl
  generalize pb n (k+1) as=res at L;cases hc:fj as with
  |false=>
   simp![Tg];rw[L,hc];exact⟨rfl,g1⟩
  |true=>
   rw[hc,if_pos rfl] at L;simp![SS,e1];rw[xw nofun];simp![x9 (show n<=100 by omega)];refine jD (fun r B Z6=>∃(l:ŕ) (rows:List (Bool×Wg k)) (o4 o5 o6:Option D),r=l.map dP/\B=[some (.int (n:Int)),some (.lst<|as.map dA),some (.int ((k+1:Nat):Int)),some (.ref Z5.length),o4,o5,o6]/\Gr Z5 Z6/\Z6[Z5.length]?=some (some<|.lst<|rows.map<|dR k)/\rows.length+l.length=(WA n).length/\(∀x∈l,x∈WA n)/\res=match iW (fun p=>gR fun b=>pb n k<|as++[(p.1,p.2,b)]) l with
    |none=>none|some r=>some (rows++r:List (Bool×Wg k))) _ ⟨_,[],_,_,_,rfl,rfl,Wn,by simp,by simp,fun x h=>h,?_⟩ ?_ ?_
   .rw[L];cases iW (fun p=>gR fun b=>pb n k<|as++[(p.1,p.2,b)]) (WA n)<;>rfl
   .rintro d r B Z4 ⟨l,rows,o4,o5,o6,hr,rfl,g2,P,hlen,F,H⟩;cases l with
    |nil=>cases hr
    |cons x l=>
     rw[Sz] at hr;injection hr with h1 h2
     subst h1 h2;have ok:=yi (F x nofun);show Wp (fc 2 _ (.tup [.int (x.1:Int),.int (x.2:Int)]) _ _) _;refine(js rfl).mpr ?_;simp!;have m4:∀b,Xi n (as++[(x.1,x.2,b)]):=by
      intro b a ha;rcases S8.mp ha with h|h
      .exact S a h
      .cases To.mp h;exact ok
     refine(Hn (f:=fun b=>pb n k<|as++[(x.1,x.2,b)]) ⋯ (fun b O=>ih (as++[(x.1,x.2,b)]) O m ⋯ (m4 b) (by simp;omega)) Z4).imp ?_;rintro _ ZQ ⟨rfl,g3⟩;have J:ZQ[Z5.length]?=some (some<|.lst<|rows.map<|dR k):=g3.get P;simp only[iW] at H;cases hb:gR (fun b=>pb n k<|as++[(x.1,x.2,b)]) with
     |none=>
      rw[hb] at H;simp![Đ,FU];rw[H];exact⟨rfl,g1.trans<|g2.trans g3⟩
     |some q=>
      rw[hb] at H;have hq:∀O:M,jc (dR k q) .non O=some (.bl false,O):=fun _=>rfl;simp![Đ,hq];rw[wN J];simp!;rw[P0 J (by simp at hlen⊢;omega)];simp!;refine⟨trivial,l,rows++[q],_,_,_,rfl,rfl,(g2.trans g3).setN (Sm _),?_,by simp at hlen⊢;omega,fun y hy=>F y (by simp[hy]),?_⟩
      .rw[gS J,TN];rfl
      .rw[H];cases iW (fun p=>gR fun b=>pb n k<|as++[(p.1,p.2,b)]) l with
       |none=>rfl|some r=>simp
   .rintro B Z4 ⟨l,rows,o4,o5,o6,hr,rfl,g2,P,hlen,F,H⟩;cases l with
    |cons x l=>cases hr
    |nil=>
     simp!;refine lI (O:=Z4.set Z5.length none) (a:=.lst (rows.map<|dR k)) ?_ ?_
     .rw[HR];exact Ii P
     .simp!;simp only[iW,Tq] at H;rw[H];exact⟨rfl,g1.trans<|g2.setN<|Sm _⟩
end
open Classical in
open Classical in
section
variable {n m:Nat} {O:M}
def ii:Tz->Ő
 | .no=>[]| .one i=>[i]| .ask i j _ _=>[i,j]
theorem Cy(t:Tz):Yj (dZ t) (some 1) (some 3) O=some (.tup ((ii t).map D.int),O):=by cases t<;>rfl
theorem GG:Yj (dZ<|.ask i j a b) (some 3) none O=some (.tup [dZ a,dZ b],O):=by rfl
theorem Pj:Yj (dZ<|.ask i j a b) (some 1) none O=some (.tup [.int i,.int j,dZ a,dZ b],O):=by rfl
def YB(n:Nat)(i:Int):Bool:=decide (0<=i)&&decide (i<(n:Int))
def YW(n:Nat):Tz->Bool
 | .ask i j _ _=>!decide (i=j)&&[i,j].all (YB n)|t=>(ii t).all (YB n)
theorem ES(t:Tz):Wp (ow [.int (n:Int),dZ t] O) fun d Z6=>d=.bl (YW n t)/\Z6=O:=by
 unfold ow uY;refine(fB rfl).mpr ?_;show Ws (dH _ _ [some (.int (n:Int)),some (dZ t),none] O) _;simp![Cy];have L:(ii t).length<=2:=by cases t<;>simp[ii]
 have key:∀{R:D->M->Prop},R (.lst<|((ii t).map (YB n)).map D.bl) O->Ù ["thing"] [("many",0)] (dC 0) eC (gX aa Xe (vC<|.int 0) (be 0)<|be 1) [some (.int (n:Int)),some (dZ t),some (.tup<|(ii t).map D.int)] R ((ii t).map D.int,none) O:=by
  intro R H;rw[gz];refine⟨by simp;omega,?_⟩;refine gP (dn:=D.int) (fun B=>∃o,B=[o,some (.int (n:Int))]) (c:=none) trivial (ii t) ⟨_,rfl⟩ (keep:=fun _=>true) (val:=fun i=>D.bl<|YB n i) ?_ ?_
  .rintro i hi B ⟨o,rfl⟩;simp!;refine⟨trivial,⟨_,rfl⟩,trivial,trivial,fun _=>?_⟩;refine D7 ?_;simp!;unfold YB;cases h:decide (0<=i) with
   |true=>refine .inl ⟨rfl,?_⟩;simp|false=>exact .inr ⟨rfl,by simp⟩
  .rw[TJ.mpr nofun];rw[S5] at H;exact H
 cases t with
 |no=>
  simp![nj,vD];refine key ?_;simp![lz];exact⟨rfl,trivial⟩
 |one i=>
  simp![nJ,uR];refine key ?_;simp![lz];refine⟨?_,trivial⟩;simp[YW,ii]
 |ask i j a b=>
  have J:V6 (.tup<|(ii<|.ask i j a b).map D.int) (.int 0) O=some (.int i,O):=jk (j:=0) rfl;have e1:V6 (.tup<|(ii<|.ask i j a b).map D.int) (.int 1) O=some (.int j,O):=jk (j:=1) rfl;simp![z0,vy,J,e1];by_cases h:i=j
  .rw[SK h];simp!;exact⟨by simp[YW,h],trivial⟩
  .rw[Sw h];simp!;refine key ?_;simp![lz];refine⟨?_,trivial⟩;simp[YW,ii,h]
open Classical in
def XF:Tz->List Tz
 | .ask _ _ a b=>if a=b then [a] else [a,b]|_=>[]
theorem Ae(t:Tz):(XF t).length<=2:=by
 cases t<;>simp only[XF]<;>try split
 all_goals simp
open Classical in
theorem xy(h:WU t<=40):Wp (iU [dZ t] O) fun d Z6=>d=.lst ((XF t).map dZ)/\Z6=O:=by
 unfold iU xI;refine(fB rfl).mpr ?_;show Ws (dH _ _ [some (dZ t),none,none] O) _;cases t with
 |no=>
  simp![nj,xC];rw[fF nofun];simp!;exact⟨rfl,trivial⟩
 |one i=>
  simp![nJ,uy];rw[fF nofun];simp!;exact⟨rfl,trivial⟩
 |ask i j a b=>
  simp only[WU] at h;simp![z0,xr,GG];rw[js (n:=2) rfl];simp!;rw[Kk ⋯ ⋯];simp!;by_cases e:a=b
  .rw[SK e];simp!;rw[fF nofun];simp!;exact⟨by simp only[XF,if_pos e];rfl,trivial⟩
  .rw[Sw e];simp!;rw[fF nofun];simp!;exact⟨by simp only[XF,if_neg e];rfl,trivial⟩
theorem DG:YB n i=true↔inr n i:=by unfold YB inr;simp
theorem yC(t:Tz):XD n t↔YW n t=true/\∀u∈XF t,XD n u:=by
 cases t with
 |no=>simp[XD,YW,ii,XF]|one i=>simp[XD,YW,ii,XF,DG]|ask i j a b=>
  have H:(∀u∈XF (.ask i j a b),XD n u)↔XD n a/\XD n b:=by
   simp only[XF];split
   .rename_i e;subst e;simp
   .simp
  rw[H];simp[XD,YW,DG,and_assoc]
abbrev yM:C0:=rF ow iU
theorem E3(h:WU t<k)(z:u∈XF t):WU u<k - 1:=by
 cases t with
 |no=>cases z
 |one i=>cases z
 |ask i j a b=>
  simp only[WU] at h;have:u=a\/u=b:=by
   simp only[XF] at z;split at z
   .simp at z;exact .inl z
   .simpa using z
  rcases this with rfl|rfl<;>omega
theorem qK(L:List Tz):(L.flatMap XF).length<=2*L.length:=by
 induction L with
 |nil=>simp|cons t L H=>have:=Ae t;simp only[U9,S9,SO];omega
open Classical in
theorem Q8(h:WU t<=18):Wp (yM [.int (n:Int),dZ t] O) fun d Z6=>d=.bl (decide (XD n t))/\Z6=O:=by
 unfold yM rF x3;refine(fB rfl).mpr ?_;show Ws (dH _ _ [some (.int (n:Int)),some (dZ t),none] O) _;simp!;rw[fF nofun];simp!;refine sJ (fun k B Z6=>Z6=O/\∃L:List Tz,B=[some (.int (n:Int)),some (dZ t),some (.lst<|L.map dZ)]/\(XD n t↔∀u∈L,XD n u)/\(∀u∈L,WU u<k)/\L.length*2^k<=524288/\k<=19) (WU t+1) 1000000 ⟨rfl,[t],rfl,by simp,by simp,?_,by omega⟩ ⋯ ?_
 .have:2^(WU t+1)<=2^19:=UC (by decide) ⋯;simp only[Vb];omega
 rintro k B Z6 ⟨rfl,L,rfl,hL,hd,hk,hk2⟩;have hp:1<=2^k:=Nat.one_le_two_pow;have hLl:L.length<=524288:=S1 (Nat.le_mul_of_pos_right _ hp) hk;simp![BI];cases L with
 |nil=>
  simp![U4,List.isEmpty_nil,SS,SN,if_false];exact⟨by rw[SK (hL.mpr nofun)],trivial⟩
 |cons u0 L0=>
  generalize ŏ:u0::L0=L at*;have he:(L.map dZ).isEmpty=false:=by rw[←ŏ];rfl
  have h0:0<k:=by have:=hd u0 (by rw[←ŏ];simp);omega
  simp![he,Tg,if_true,gz];refine⟨by simp;omega,?_⟩;refine gP (dn:=dZ) (fun B=>∃o,B=[o,some (.int (n:Int))]) (c:=none) trivial L ⟨_,rfl⟩ (keep:=fun _=>true) (val:=fun u=>D.bl<|YW n u) ?_ ?_
  .rintro u H B ⟨o,rfl⟩;simp!;refine⟨trivial,⟨_,rfl⟩,trivial,trivial,fun _=>?_⟩;exact ES u
  .have e1:(L.filter fun _=>true).map (fun u=>D.bl<|YW n u)=(L.map<|YW n).map D.bl:=by
    rw[TJ.mpr nofun,S5];rfl
   rw[e1];simp![lz];cases J:(L.map<|YW n).all id with
   |false=>
    simp![Tg];refine⟨?_,trivial⟩;rw[Sw];intro hz;rw[List.all_eq_false] at J;obtain⟨b,hb,hb2⟩:=J;obtain⟨u,H,rfl⟩:=SU.mp hb;exact hb2 ((yC u).mp (hL.mp hz u H)).1
   |true=>
    simp![SS];have F:∀u∈L,YW n u=true:=by rw[S2] at J;exact fun u H=>J _ (SU.mpr ⟨u,H,rfl⟩)
    have hc:=rP (g:=dC 0) (g2:=dC 1) (iv2:=WH (vL iU<|dz (be 0) dD)) (te:=be 1) (dn:=dZ) (dm:=dZ) (inn:=XF) (val:=fun _ u=>dZ u)
     (fun B=>∃a b,B=[a,b]) (fun u B=>∃b,B=[some (dZ u),b]) (O:=Z6) (fun i B ⟨b,e⟩=>⟨_,_,e⟩) L [none,none] ⟨_,_,rfl⟩ ?_ ?_
    .have hlen:((L.flatMap fun a=>(XF a).map fun u=>dZ u):List D).length<=1000000:=by
      rw[←UK,Sv];have:=qK L;have:2*L.length<=L.length*2^k:=by rw[Vp];exact Vm _ (S1 (by decide:2<=2^1)<|UC (by decide) h0)
      omega
     have hr:WH (be 2) [some (.int (n:Int)),some (dZ t),some (.lst<|L.map dZ)] Z6=some ((L.map dZ,none),Z6):=rfl;have S:ff (["part","branch"]:Ŗ) [] [some (.int (n:Int)),some (dZ t),some (.lst<|L.map dZ)]=[none,none]:=rfl;have hv:i9 ["part","branch"] [] (WH<|be 2) (dC 0) eC (WH<|vL iU<|dz (be 0) dD) (dC 1) eC (be 1) [some (.int (n:Int)),some (dZ t),some (.lst<|L.map dZ)] Z6=some (.lst ((L.flatMap XF).map dZ),Z6):=by rw[t7,hr,sH,S,hc,sM,if_pos hlen,←UK]
     rw[hv];simp!;refine⟨k - 1,by omega,trivial,L.flatMap XF,rfl,?_,?_,?_,by omega⟩
     .rw[hL];constructor
      .intro q u H;obtain⟨v,z,P⟩:=TQ.mp H;exact((yC v).mp (q v z)).2 u P
      .intro q u H;exact(yC u).mpr ⟨F u H,fun v hv=>q v<|TQ.mpr ⟨u,H,hv⟩⟩
     .intro u H;obtain⟨v,z,P⟩:=TQ.mp H;exact E3 (hd v z) P
     .have h1:=qK L;have h2:(L.flatMap XF).length*2^(k - 1)<=2*L.length*2^(k - 1):=Nat.mul_le_mul_right _ h1;have h3:2*L.length*2^(k - 1)=L.length*2^k:=by
       have:2^k=2*2^(k - 1):=by rw[←Nat.pow_succ'];congr 1;omega
       rw[this,Vp 2 L.length,Nat.mul_assoc]
      omega
    .rintro u H B ⟨a,b,rfl⟩;refine⟨[some (dZ u),b],rfl,?_,_,rfl⟩;obtain⟨d,Z4,e,rfl,rfl⟩:=xy (O:=Z6) (t:=u) (by have:=hd u H;omega);have e2:vL iU (dz (be 0) dD) [some (dZ u),b] Z4=some (.lst ((XF u).map dZ),Z4):=e;unfold WH;rw[e2];rfl
    .rintro u H v hv B ⟨b,rfl⟩;exact⟨[some (dZ u),some (dZ v)],rfl,rfl,_,rfl⟩
theorem EF(S:s.length=n)(hw:XD n t)(hd:WU t<=40):Wp (mR [dZ t,dI s] O) fun d Z6=>d=dE (led s t)/\Z6=O:=by
 unfold mR wE;refine(fB rfl).mpr ?_;show Ws (dH _ _ [some (dZ t),some (.lst<|s.map D.int),none,none,none,none] O) _;rw[qx];refine sJ (fun m B Z6=>Z6=O/\∃u F z P L,WU u=m/\XD n u/\led s u=led s t/\B=[some (dZ u),some (.lst<|s.map D.int),F,z,P,L]) (WU t) 1000000 ⟨rfl,t,_,_,_,_,rfl,hw,rfl,rfl⟩ ⋯ ?_;rintro m B Z6 ⟨rfl,u,F,z,P,L,rfl,hu,H,rfl⟩;cases u with
 |no=>
  simp![nj,vD,SN,if_false];simp only[led] at H;exact⟨by rw[←H];rfl,trivial⟩
 |one i=>
  simp![nJ,uR,SN,if_false];simp only[led] at H;exact⟨by rw[←H];rfl,trivial⟩
 |ask i j a b=>
  obtain⟨⟨_,hi,hj⟩,w1,w2⟩:=hu;simp![z0,vy,if_true,Pj];rw[js (n:=4) rfl];simp![DQ S hi,DQ S hj];simp only[led] at H;by_cases J:kd s i=kd s j
  .rw[if_pos J] at H;rw[SK J];simp!;exact⟨WU a,by simp only[WU];omega,trivial,a,_,_,_,_,rfl,w1,H,rfl⟩
  .rw[if_neg J] at H;rw[Sw J];simp!;exact⟨WU b,by simp only[WU];omega,trivial,b,_,_,_,_,rfl,w2,H,rfl⟩
end
theorem JI{f:D->M->Fr}{ev:EX}{B:G}{O:M}{R:Rs D->M->Prop}(h:Wp (ev B O) fun r O=>match r with
  | .ok d=>Wp (f d O) fun x O=>R (.ok x) O| .ex C=>R (.ex C) O):Wp (t6 f ev B O) R:=by
 refine wp_bind.mpr (h.imp fun r O q=>?_);cases r with
 |ok d=>exact wp_bind.mpr (Wp.imp q fun _ _ q=>(BJ (Q:=R)).mpr q)|ex C=>exact(BJ (Q:=R)).mpr q
def Xx(n:Nat):List Ő:=(Sx n n).map (·.1)
def Bk{n:Nat}{s:Ő}(h:s∈Xx n):s.length=n:=wb h
def Cf{n:Nat}(z:n<=7):(Xx n).length<=877:=by unfold Xx;rw[Sv];exact qi z n
def Ix{n:Nat}(z:n<=7){s:Ő}(h:s∈Xx n):(fR s).length<=1000:=by have:=Aq z h;omega
def À(n:Nat)(t:Tz):Prop:=XD n t/\∀s∈Xx n,led s t∈hE s
section
variable {C CN CT:Addr} {n:Nat} {O:M}
theorem IT(hn:n<=7)(hw:XD n t)(hd:WU t<=40)(hR:∀Z6,Gr O Z6->R (((Xx n).map fun s=>decide (led s t∈hE s)).map D.bl) Z6):Wp (fo none (dC 0) eC (v2 (je false) (vL mR<|dz (be 1)<|dz (be 0) dD)<|vL iB<|dz (be 0) dD) ((Xx n).map dI) [none,some (dZ t)] O) R:=by
 refine Wb (fun done r B Z6=>∃J H,Xx n=J++H/\r=H.map dI/\done=(J.map fun s=>decide (led s t∈hE s)).map D.bl/\(∃o,B=[o,some (dZ t)])/\Gr O Z6) _ ⟨[],Xx n,rfl,rfl,rfl,⟨_,rfl⟩,.refl⟩ ?_ ?_
 .rintro done d r B S ⟨J,H,L,e,rfl,⟨o,rfl⟩,z⟩;cases H with
  |nil=>cases e
  |cons s H=>
   cases e;have F:s∈Xx n:=by rw[L];simp
   have P:=Bk F;simp!;show Wp _ _;refine(EF (n:=n) (t:=t) (s:=s) P hw hd).imp ?_;rintro _ Z4 ⟨rfl,rfl⟩;simp!;obtain⟨ZQ,e3,g3⟩:=yy (s:=s) (O:=Z4) ⋯ (Ix hn F);refine lI e3 ?_;simp![yk];refine⟨trivial,J++[s],H,by rw[L];simp,rfl,?_,⟨_,rfl⟩,z.trans g3⟩;simp
 .rintro done B S ⟨J,H,L,e,rfl,_,z⟩;cases H with
  |cons s H=>cases e
  |nil=>
   rw[Tq] at L;rw[←L];exact hR S z
abbrev AH(CN CT:Addr):FX:=qA yM mR iB (j8 CN CT) (xa CT) (.int 7)
abbrev D'(CN CT:Addr):C0:=dn (AH CN CT)
open Classical in
theorem BS(z:n<=7)(hd:WU t<=18):Wp (D' CN CT [.int (n:Int),dZ t] O) fun d Z6=>d=.bl (decide (À n t))/\Gr O Z6:=by
 refine k9 ?_;unfold AH qA u5;refine(ph rfl).mpr ?_;show Wt (fS _ _ [some (.int (n:Int)),some (dZ t)] O) _;simp!;refine(xu (n:=n) ⋯ ⋯).imp ?_;rintro _ O ⟨rfl,rfl⟩;simp!;refine(Q8 (n:=n) hd).imp ?_;rintro _ O ⟨rfl,rfl⟩;by_cases H:XD n t
 .rw[SK H];simp![SS];refine JI (Sd ?_);simp!;refine lI (yq (O:=O) (n:=n) (k:=(n:Int)) (C:=CT) z) ?_;have e1:(Sx n<|(n:Int).toNat).map dS=(Xx n).map dI:=by
   unfold Xx;rw[Uw,S5];rfl
  rw[e1];have L:=Cf z;refine⟨_,rfl,by simp;omega,?_⟩;refine IT z H ⋯ fun Z6 g=>?_;simp![lz];refine⟨_,rfl,?_,g⟩;congr 1;rw[Tj,VL,S2,SJ];constructor
  .intro h;exact⟨H,fun s J=>by have:=h s J;simpa using this⟩
  .intro h s J;simpa using h.2 s J
 .rw[Sw H];simp![Tg];refine⟨_,rfl,?_,.refl⟩;rw[Sw fun h=>H h.1]
end
def X4:List Tz->Nat
 | []=>0|u::L=>max (WU u+1) (X4 L)
theorem Ee:∀(l m:List Tz),X4 (l++m)=max (X4 l) (X4 m)
 | [],m=>by simp[X4]|u::l,m=>by rw[VD];simp only[X4,Ee l m];omega
def yY(t:Tz):X4 (XF t)=WU t:=by
 cases t with
 |no=>rfl|one i=>rfl|ask i j a b=>
  simp only[XF];split
  .rename_i e;subst e;simp[X4,WU]
  .simp only[X4,WU];omega
theorem Be:∀L:List Tz,X4 (L.flatMap XF)=X4 L - 1
 | []=>rfl|u::L=>by rw[U9,Ee,yY,Be L];simp only[X4];omega
def NI(h:u∈L):WU u<X4 L:=by
 induction L with
 |nil=>cases h
 |cons v L H=>
  simp only[X4];rcases SI.mp h with rfl|h
  .omega
  .have:=H h;omega
section
variable {O:M}
abbrev wB:C0:=qN iU
theorem zW(h:WU t<=18):Wp (wB [dZ t] O) fun d Z6=>d=.int (WU t:Int)/\Z6=O:=by
 unfold wB qN yD;refine(fB rfl).mpr ?_;show Ws (dH _ _ [some (dZ t),none,none] O) _;simp!;refine(xy (t:=t) ⋯).imp ?_;rintro _ O ⟨rfl,rfl⟩;simp!;have hb:=Ae t;refine sJ (fun k B Z6=>Z6=O/\∃(L:List Tz) (c:Nat),B=[some (dZ t),some (.int (c:Int)),some (.lst<|L.map dZ)]/\X4 L=k/\c+k=WU t/\L.length*2^k<=524288/\k<=18) (WU t) 1000000 ⟨rfl,XF t,0,rfl,yY t,by omega,?_,h⟩ ⋯ ?_
 .have:2^(WU t)<=2^18:=UC (by decide) h;have h2:(XF t).length*2^(WU t)<=2*2^18:=VU hb this;omega
 rintro k B Z6 ⟨rfl,L,c,rfl,z,hc,hk,hk2⟩;have hp:1<=2^k:=Nat.one_le_two_pow;have hLl:L.length<=524288:=S1 (Nat.le_mul_of_pos_right _ hp) hk;simp![BI];cases L with
 |nil=>
  simp![U4,List.isEmpty_nil,SS,SN,if_false];simp only[X4] at z;refine⟨?_,trivial⟩;congr 1;omega
 |cons u0 L0=>
  have h0:0<k:=by rw[←z];simp only[X4];omega
  generalize P:u0::L0=L at*;have he:(L.map dZ).isEmpty=false:=by rw[←P];rfl
  simp![he,Tg,if_true];refine Cc (x:=(c:Int)) rfl ?_;simp!;have J:=rP (g:=dC 0) (g2:=dC 1) (iv2:=WH (vL iU<|dz (be 0) dD)) (te:=be 1) (dn:=dZ) (dm:=dZ) (inn:=XF) (val:=fun _ u=>dZ u)
   (fun B=>∃a b,B=[a,b]) (fun u B=>∃b,B=[some (dZ u),b]) (O:=Z6) (fun i B ⟨b,e⟩=>⟨_,_,e⟩) L [none,none] ⟨_,_,rfl⟩ ?_ ?_
  .have hlen:((L.flatMap fun a=>(XF a).map fun u=>dZ u):List D).length<=1000000:=by
    rw[←UK,Sv];have:=qK L;have:2*L.length<=L.length*2^k:=by rw[Vp];exact Vm _ (S1 (by decide:2<=2^1)<|UC (by decide) h0)
    omega
   have ec:((c:Int)+1)=((c+1:Nat):Int):=by omega
   have hr:WH (be 2) [some (dZ t),some (.int ((c+1:Nat):Int)),some (.lst<|L.map dZ)] Z6=some ((L.map dZ,none),Z6):=rfl;have H:ff (["part","branch"]:Ŗ) [] [some (dZ t),some (.int ((c+1:Nat):Int)),some (.lst<|L.map dZ)]=[none,none]:=rfl;have F:i9 ["part","branch"] [] (WH<|be 2) (dC 0) eC (WH<|vL iU<|dz (be 0) dD) (dC 1) eC (be 1) [some (dZ t),some (.int ((c+1:Nat):Int)),some (.lst<|L.map dZ)] Z6=some (.lst ((L.flatMap XF).map dZ),Z6):=by rw[t7,hr,sH,H,J,sM,if_pos hlen,←UK]
   rw[ec,F];simp!;refine⟨k - 1,by omega,trivial,L.flatMap XF,c+1,rfl,by rw[Be,z],by omega,?_,by omega⟩;have h1:=qK L;have h2:(L.flatMap XF).length*2^(k - 1)<=2*L.length*2^(k - 1):=Nat.mul_le_mul_right _ h1;have h3:2*L.length*2^(k - 1)=L.length*2^k:=by
    have:2^k=2*2^(k - 1):=by rw[←Nat.pow_succ'];congr 1;omega
    rw[this,Vp 2 L.length,Nat.mul_assoc]
   omega
  .rintro u S B ⟨a,b,rfl⟩;refine⟨[some (dZ u),b],rfl,?_,_,rfl⟩;obtain⟨d,Z4,e,rfl,rfl⟩:=xy (O:=Z6) (t:=u) (by have:=NI S;omega);have e2:vL iU (dz (be 0) dD) [some (dZ u),b] Z4=some (.lst ((XF u).map dZ),Z4):=e;unfold WH;rw[e2];rfl
  .rintro u S v F B ⟨b,rfl⟩;exact⟨[some (dZ u),some (dZ v)],rfl,rfl,_,rfl⟩
end
section
variable {P:Program} {w:World} {K:Frag} {mg:œ} {base:Heap} {f:Addr} {fd:FuncData}
theorem PP:DJ ["cell"] ["cell"] (eD<|top 52):=by lia
def xo:SV:=
  (dU<|vL io<|dz (v2 sh (vC<|.int 0)<|v2 ip (be 0)<|v2 m9 (vC<|.int 10)<|vC<|.int 18)<|dz (v2 iX (v2 e9 (v2 lO (be 0)<|vC<|.int 2147483629)<|vC<|.int 1)<|v1 lj<|v2 We (be 0)<|v2 m9 (vC<|.int 10)<|vC<|.int 18) dD)
def oN:C0:=eR 1 1 (xo)
theorem Q0{k:Nat}(F:WM K "_law_hand" "_law_hand" (top 52) f fd) (z:mg "int"=none) (S:mg "max"=none):Qv P w K mg base WN (k+1) f fd ["cell"] (V1 K<|oN):=by
 unfold oN xo;exact eX F PP fun cdv A outer s H E J=>
  (dL<|eB<|qd<|dB (DD S dM<|i4 (dy 0)<|rq dM dM)<|dB (qY (gl (pK (dy 0) dM) dM)<|uG z<|ul J (dy 0)<|rq dM dM) dG)
theorem zH:DJ ["hand","many","taken"] ["hand","many"] (eD<|top 53):=by lia
def qM:SV:=
  (dH (WY (vT<|v2 Yk (v2 V6 (be 0)<|vC<|.int 0)<|vC<|.int 0)
   (dH (dQ (v2 lO (v2 V6 (be 0)<|vC<|.int 0)<|be 1)<|dC 2)
   (dH (dQ (v2 uJ (v2 V6 (be 0)<|vC<|.int 0)<|be 1)<|p7 (be 0)<|vC<|.int 0)
   (dU<|be 2)))
   WQ)
  (dH (dQ (v2 lO (v2 iX (v2 V6 (be 0)<|vC<|.int 1)<|vC<|.int 48271)<|vC<|.int 2147483647)<|p7 (be 0)<|vC<|.int 1)
  (dU<|v2 lO (v2 uJ (v2 m9 (v2 e9 (v2 V6 (be 0)<|vC<|.int 1)<|vC<|.int 1)<|vC<|.int 7)<|vC<|.int 8)<|be 1)))
def i0:C0:=eR 3 2 (qM)
theorem OO{k:Nat}(F:WM K "_law_take" "_law_take" (top 53) f fd):Qv P w K mg base WN (k+1) f fd ["hand","many"] (V1 K<|i0):=by
 unfold i0 qM;exact eX F zH fun cdv A outer s H E J=>
  (dJ (eZ (nl (eO (dy 0) dM) dM)
   (dJ (eI (i:=2) zH.nd rfl (Or.inl rfl) (pK (eO (dy 0) dM)<|dy 1))
   (dJ (lm (BW (eO (dy 0) dM)<|dy 1)<|A0 (dy 0) dM)
   (dL<|eB<|dy 2)))
   eY)
  (dJ (lm (pK (qY (eO (dy 0) dM) dM) dM)<|A0 (dy 0) dM)
  (dL<|eB<|pK (BW (rq (gl (eO (dy 0) dM) dM) dM) dM)<|dy 1)))
theorem lC:DJ ["many","most","found","thing","longer","sorts"] ["many","most"] (eD<|top 54):=by lia
theorem QN:((["kind"]:Ŗ)++([("sorts",5)]:ő).map (·.1)).Nodup:=by decide +kernel
def yf:SV:=
  (dH (dQ (vL eQ<|dz (vL eQ dD) dD)<|dC 2)
  (dH (fW (X1<|be 0) (dC 3)
   (dH (dQ (vL eQ dD)<|dC 4)
   (dH (fW (WH<|be 2) (dC 5)
    (dQ (v2 e9 (be 4)<|eW ["kind"] [("sorts",5)] (X1<|v2 mo (be 1)<|v2 e9 (v1 uW<|v2 e9 (vL eQ<|dz (v1 jV<|vC<|.int 1) dD)<|be 5)<|vC<|.int 2) (dC 0) eC<|v2 e9 (be 1)<|vL eQ<|dz (be 0) dD)<|dC 4))
   (dQ (be 4)<|dC 2))))
  (dU<|be 2)))
def oA:C0:=eR 6 2 (yf)
theorem Kj{k:Nat}(F:WM K "_law_sorts" "_law_sorts" (top 54) f fd) (fr:mg "range"=none) (S:mg "max"=none) (z:mg "min"=none):Qv P w K mg base WN (k+1) f fd ["many","most"] (V1 K<|oA):=by
 unfold oA yf;exact eX F lC fun cdv A outer s H E J=>
  (dJ (eI (i:=2) lC.nd rfl (Or.inl rfl) (fm<|dB (fm dG) dG))
  (dJ (gD SR rfl (jU fr<|dy 0) (dW (i:=3) lC.nd rfl (Or.inl rfl))
   (dJ (eI (i:=4) lC.nd rfl (Or.inl rfl) (fm dG))
   (dJ (gD SR rfl (fA<|dy 2) (dW (i:=5) lC.nd rfl (Or.inr rfl))
    (dL (eI (i:=4) lC.nd rfl (Or.inl rfl) (gl (dy 4) (ge (own:=["kind"]) (cap:=[("sorts",5)]) (fw rfl) (jU fr<|vI z (dy 1)<|gl (MJ S<|gl (fm<|dB (C5 dM) dG)<|dy 5) dM)
   (fun _ _ _ _ _=>(dW (i:=0) QN rfl (Or.inl rfl))) (fun _ _ _ _ _=>fU)
   (fun _ _ _ _ _=>(gl (dy 1)<|fm<|dB (dy 0) dG)))))))
   (dL<|eI (i:=2) lC.nd rfl (Or.inl rfl) (dy 4)))))
  (dL<|eB<|dy 2)))
theorem zo:DJ ["sorts","kind"] ["sorts"] (eD<|top 55):=by lia
theorem Se:((["thing"]:Ŗ)++([("sorts",0),("kind",1)]:ő).map (·.1)).Nodup:=by decide +kernel
def ur:SV:=
  (dH (fW (WH<|be 0) (dC 1)
   (WY (vT<|v2 Yk (v2 iX (vC<|.int 2)<|il tj (be 0)<|be 1)<|v1 fh<|be 0)
    (dU<|eW ["thing"] [("sorts",0),("kind",1)] (X1<|v1 fh<|be 0) (dC 0) (vT<|v2 WT (v2 V6 (be 1)<|be 0)<|be 2)<|be 0)
    WQ))
  (dU<|vL eQ dD))
def pN:C0:=eR 2 1 (ur)
theorem QI{k:Nat}(F:WM K "_law_half" "_law_half" (top 55) f fd) (z:mg "len"=none) (fr:mg "range"=none):Qv P w K mg base WN (k+1) f fd ["sorts"] (V1 K<|pN):=by
 unfold pN ur;exact eX F zo fun cdv A outer s H E J=>
  (dJ (gD SR rfl (fA<|dy 0) (dW (i:=1) zo.nd rfl (Or.inr rfl))
   (dL (eZ (nl (qY dM<|Oj (dy 0)<|dy 1)<|iP z<|dy 0)
    (dL (eB (ge (own:=["thing"]) (cap:=[("sorts",0),("kind",1)]) (fw rfl) (jU fr<|iP z<|dy 0)
   (fun _ _ _ _ _=>(dW (i:=0) Se rfl (Or.inl rfl))) (fun _ _ _ _ _=>(jz<|ga J (eO (dy 1)<|dy 0)<|dy 2))
   (fun _ _ _ _ _=>(dy 0)))))
    eY)))
  (dL<|eB<|fm dG))
theorem oQ:DJ ["many","left","found","i","j","alike"] ["many","left"] (eD<|top 56):=by lia
theorem PM:((["sorts"]:Ŗ)++([("i",3),("j",4)]:ő).map (·.1)).Nodup:=by decide +kernel
def ux:SV:=
  (dH (dQ (vL io dD)<|dC 2)
  (dH (fW (X1<|be 0) (dC 3)
   (fW (X1<|be 3) (dC 4)
    (dH (dQ (v1 fh<|eW ["sorts"] [("i",3),("j",4)] (WH<|be 1) (dC 0) (vT<|v2 WT (v2 V6 (be 0)<|be 1)<|v2 V6 (be 0)<|be 2)<|be 0)<|dC 5)
    (WY (vT<|gX Xe Xe (vC<|.int 0) (be 5)<|v1 fh<|be 1)
     (g7<|il gM (be 2)<|vL eS<|dz (be 3)<|dz (be 4) dD)
     WQ))))
  (dU<|be 2)))
def oO:C0:=eR 6 2 (ux)
theorem Q4{k:Nat}(F:WM K "_law_pairs" "_law_pairs" (top 56) f fd) (fr:mg "range"=none) (z:mg "len"=none):Qv P w K mg base WN (k+1) f fd ["many","left"] (V1 K<|oO):=by
 unfold oO ux;exact eX F oQ fun cdv A outer s H E J=>
  (dJ (eI (i:=2) oQ.nd rfl (Or.inl rfl) (qd dG))
  (dJ (gD SR rfl (jU fr<|dy 0) (dW (i:=3) oQ.nd rfl (Or.inr rfl))
   (dL (gD SR rfl (jU fr<|dy 3) (dW (i:=4) oQ.nd rfl (Or.inr rfl))
    (dJ (eI (i:=5) oQ.nd rfl (Or.inl rfl) (iP z (ge (own:=["sorts"]) (cap:=[("i",3),("j",4)]) (fw rfl) (fA<|dy 1)
   (fun _ _ _ _ _=>(dW (i:=0) PM rfl (Or.inl rfl))) (fun _ _ _ _ _=>(jz<|ga J (eO (dy 0)<|dy 1)<|eO (dy 0)<|dy 2))
   (fun _ _ _ _ _=>(dy 0)))))
    (dL (eZ (yx nX pV nX pV dM (dy 5)<|iP z<|dy 1)
     (dL<|kN<|sK (dy 2)<|fu<|dB (dy 3)<|dB (dy 4) dG)
     eY))))))
  (dL<|eB<|dy 2)))
theorem kt:DJ ["hand","many","left","halves","sure","pairs","pair","i","j","alike","unlike"] ["hand","many","left"] (eD<|top 57):=by lia
theorem FJ:((["sorts"]:Ŗ)++([]:ő).map (·.1)).Nodup:=by decide +kernel
theorem RA:((["thing"]:Ŗ)++([("halves",3)]:ő).map (·.1)).Nodup:=by decide +kernel
theorem PD:((["half"]:Ŗ)++([("thing",0)]:ő).map (·.1)).Nodup:=by decide +kernel
theorem M3:((["half"]:Ŗ)++([]:ő).map (·.1)).Nodup:=by decide +kernel
theorem Qw:((["sorts"]:Ŗ)++([("i",7),("j",8)]:ő).map (·.1)).Nodup:=by decide +kernel
theorem IM:((["sorts"]:Ŗ)++([("i",7),("j",8)]:ő).map (·.1)).Nodup:=by decide +kernel
def yz(nN:C0)(z:C0)(S:C0)(F:C0):SV:=
  (dH (dQ (eW ["sorts"] [] (WH<|be 2) (dC 0) eC<|vL nN<|dz (be 0) dD)<|dC 3)
  (dH (dQ (eW ["thing"] [("halves",3)] (X1<|be 1) (dC 0) (vT<|v2 WT (eW ["half"] [("thing",0)] (WH<|be 1) (dC 0) (vT<|v2 (ϝ true) (be 1)<|be 0)<|be 0)<|vL eQ dD)<|be 0)<|dC 4)
  (dH (WY (vT<|v2 We (be 4)<|vL eQ dD)
   (dU<|vL eS<|dz (vC<|.str "one")<|dz (v2 V6 (be 4)<|vL z<|dz (be 0)<|dz (v1 fh<|be 4) dD) dD)
   WQ)
  (dH (WY (vT<|v2 WT (eW ["half"] [] (WH<|be 3) (dC 0) (vT<|v2 We (be 0)<|vL eQ dD)<|be 0)<|vL eQ dD)
   (dU<|vL eS<|dz (vC<|.str "none") dD)
   WQ)
  (dH (dQ (vL S<|dz (be 1)<|dz (be 2) dD)<|dC 5)
  (dH (dQ (v2 V6 (be 5)<|vL z<|dz (be 0)<|dz (v1 fh<|be 5) dD)<|dC 6)
  (dH (dQ (v2 V6 (vL eQ<|dz (be 6)<|dz (v1 qD<|be 6) dD)<|vL z<|dz (be 0)<|dz (vC<|.int 2) dD)<|fc 2<|dY (dC 7)<|dY (dC 8) fk)
  (dH (dQ (vL F<|dz (be 0)<|dz (be 1)<|dz (eW ["sorts"] [("i",7),("j",8)] (WH<|be 2) (dC 0) (vT<|v2 WT (v2 V6 (be 0)<|be 1)<|v2 V6 (be 0)<|be 2)<|be 0) dD)<|dC 9)
  (dH (dQ (vL F<|dz (be 0)<|dz (be 1)<|dz (eW ["sorts"] [("i",7),("j",8)] (WH<|be 2) (dC 0) (vT<|v2 We (v2 V6 (be 0)<|be 1)<|v2 V6 (be 0)<|be 2)<|be 0) dD)<|dC 10)
  (dU<|vL eS<|dz (vC<|.str "ask")<|dz (be 7)<|dz (be 8)<|dz (be 9)<|dz (be 10) dD))))))))))
def qO(F:C0)(fg:C0)(z:C0)(S:C0):C0:=eR 11 3 (yz F fg z S)
theorem RV{nN fg nt ie:C0}{z5 jf AG pU k:Nat}(F:WM K "_law_tree" "_law_tree" (top 57) f fd) (uC:Df P w K mg base z5 "_law_half" ["sorts"] (V1 K nN)) (NO:z5<=k) (S:Df P w K mg base jf "_law_take" ["hand","many"] (V1 K fg)) (z:jf<=k) (uo:Df P w K mg base AG "_law_pairs" ["many","left"] (V1 K nt)) (GJ:AG<=k) (mX:Df P w K mg base pU "_law_tree" ["hand","many","left"] (V1 K ie)) (sN:pU<=k) (fr:mg "range"=none) (fz:mg "len"=none):Qv P w K mg base WN (k+1) f fd ["hand","many","left"] (V1 K<|qO nN fg nt ie):=by
 unfold qO yz;exact eX F kt fun cdv A outer s H E J=>
  (dJ (eI (i:=3) kt.nd rfl (Or.inr rfl) (ge (own:=["sorts"]) (cap:=[]) (fw rfl) (fA<|dy 2)
   (fun _ _ _ _ _=>(dW (i:=0) FJ rfl (Or.inl rfl))) (fun _ _ _ _ _=>fU)
   (fun _ _ _ _ _=>(eA uC (J.mono NO)<|dB (dy 0) dG))))
  (dJ (P8 (i:=4) kt.nd rfl rfl (own:=["thing"]) (cap:=[("halves",3)]) (fw rfl) (jU fr<|dy 1)
   (fun _ _ _ _ _=>(dW (i:=0) RA rfl (Or.inr rfl))) (fun _ _ _ _ _=>(jz (ga J (ge (own:=["half"]) (cap:=[("thing",0)]) (fw rfl) (fA<|dy 1)
   (fun _ _ _ _ _=>(dW (i:=0) PD rfl (Or.inl rfl))) (fun _ _ _ _ _=>(jz<|Lb (dy 1)<|dy 0))
   (fun _ _ _ _ _=>(dy 0))) (fm dG))))
   (fun _ _ _ _ _=>(dy 0)))
  (dJ (eZ (jx J (dy 4)<|fm dG)
   (dL<|eB<|fu<|dB gq<|dB (eO (dy 4)<|eA S (J.mono z)<|dB (dy 0)<|dB (iP fz<|dy 4) dG) dG)
   eY)
  (dJ (eZ (ga J (ge (own:=["half"]) (cap:=[]) (fw rfl) (fA<|dy 3)
   (fun _ _ _ _ _=>(dW (i:=0) M3 rfl (Or.inl rfl))) (fun _ _ _ _ _=>(jz<|jx J (dy 0)<|fm dG))
   (fun _ _ _ _ _=>(dy 0))) (fm dG))
   (dL<|eB<|fu<|dB gq dG)
   eY)
  (dJ (eI (i:=5) kt.nd rfl (Or.inl rfl) (eA uo (J.mono GJ)<|dB (dy 1)<|dB (dy 2) dG))
  (dJ (eI (i:=6) kt.nd rfl (Or.inl rfl) (eO (dy 5)<|eA S (J.mono z)<|dB (dy 0)<|dB (iP fz<|dy 5) dG))
  (dJ (lm (eO (fm<|dB (dy 6)<|dB (MG<|dy 6) dG)<|eA S (J.mono z)<|dB (dy 0)<|dB dM dG)<|gH (n:=2)<|eU (dW (i:=7) kt.nd rfl (Or.inr rfl))<|eU (dW (i:=8) kt.nd rfl (Or.inr rfl)) gL)
  (dJ (eI (i:=9) kt.nd rfl (Or.inl rfl) (eA mX (J.mono sN) (dB (dy 0) (dB (dy 1) (dB (ge (own:=["sorts"]) (cap:=[("i",7),("j",8)]) (fw rfl) (fA<|dy 2)
   (fun _ _ _ _ _=>(dW (i:=0) Qw rfl (Or.inl rfl))) (fun _ _ _ _ _=>(jz<|ga J (eO (dy 0)<|dy 1)<|eO (dy 0)<|dy 2))
   (fun _ _ _ _ _=>(dy 0))) dG)))))
  (dJ (eI (i:=10) kt.nd rfl (Or.inl rfl) (eA mX (J.mono sN) (dB (dy 0) (dB (dy 1) (dB (ge (own:=["sorts"]) (cap:=[("i",7),("j",8)]) (fw rfl) (fA<|dy 2)
   (fun _ _ _ _ _=>(dW (i:=0) IM rfl (Or.inl rfl))) (fun _ _ _ _ _=>(jz<|jx J (eO (dy 0)<|dy 1)<|eO (dy 0)<|dy 2))
   (fun _ _ _ _ _=>(dy 0))) dG)))))
  (dL<|eB<|fu<|dB gq<|dB (dy 7)<|dB (dy 8)<|dB (dy 9)<|dB (dy 10) dG))))))))))
theorem su:DJ ["hand","many","asks","i","j","alike"] ["hand","many","asks"] (eD<|top 58):=by lia
def vJ(z:C0)(F:C0):SV:=
  (dH (WY (Yd (vT<|v2 WT (be 2)<|vC<|.int 0)<|vT<|v2 WT (vL z<|dz (be 0)<|dz (vC<|.int 6) dD)<|vC<|.int 5)
   (dU<|v2 V6 (vL eQ<|dz (vL eS<|dz (vC<|.str "one")<|dz (vL z<|dz (be 0)<|dz (be 1) dD) dD)<|dz (vL eS<|dz (vC<|.str "none") dD) dD)<|vL z<|dz (be 0)<|dz (vC<|.int 2) dD)
   WQ)
  (dH (dQ (vL z<|dz (be 0)<|dz (be 1) dD)<|dC 3)
  (dH (dQ (v2 lO (v2 e9 (v2 e9 (be 3)<|vC<|.int 1)<|vL z<|dz (be 0)<|dz (v2 ip (be 1)<|vC<|.int 1) dD)<|be 1)<|dC 4)
  (dH (dQ (vL F<|dz (be 0)<|dz (be 1)<|dz (v2 ip (be 2)<|vC<|.int 1) dD)<|dC 5)
  (dU<|vL eS<|dz (vC<|.str "ask")<|dz (be 3)<|dz (be 4)<|dz (be 5)<|dz (vL F<|dz (be 0)<|dz (be 1)<|dz (v2 ip (be 2)<|vC<|.int 1) dD) dD)))))
def sG(F:C0)(z:C0):C0:=eR 6 3 (vJ F z)
theorem FD{fg h9:C0}{jf oV k:Nat}(F:WM K "_law_any" "_law_any" (top 58) f fd) (S:Df P w K mg base jf "_law_take" ["hand","many"] (V1 K fg)) (z:jf<=k) (mB:Df P w K mg base oV "_law_any" ["hand","many","asks"] (V1 K h9)) (qh:oV<=k):Qv P w K mg base WN (k+1) f fd ["hand","many","asks"] (V1 K<|sG fg h9):=by
 unfold sG vJ;exact eX F su fun cdv A outer s H E J=>
  (dJ (eZ (PW.pt<|lM (ga J (dy 2) dM)<|lN<|ga J (eA S (J.mono z)<|dB (dy 0)<|dB dM dG) dM)
   (dL<|eB<|eO (fm<|dB (fu<|dB gq<|dB (eA S (J.mono z)<|dB (dy 0)<|dB (dy 1) dG) dG)<|dB (fu<|dB gq dG) dG)<|eA S (J.mono z)<|dB (dy 0)<|dB dM dG)
   eY)
  (dJ (eI (i:=3) su.nd rfl (Or.inl rfl) (eA S (J.mono z)<|dB (dy 0)<|dB (dy 1) dG))
  (dJ (eI (i:=4) su.nd rfl (Or.inl rfl) (pK (gl (gl (dy 3) dM)<|eA S (J.mono z)<|dB (dy 0)<|dB (i4 (dy 1) dM) dG)<|dy 1))
  (dJ (eI (i:=5) su.nd rfl (Or.inl rfl) (eA mB (J.mono qh)<|dB (dy 0)<|dB (dy 1)<|dB (i4 (dy 2) dM) dG))
  (dL<|eB<|fu<|dB gq<|dB (dy 3)<|dB (dy 4)<|dB (dy 5)<|dB (eA mB (J.mono qh)<|dB (dy 0)<|dB (dy 1)<|dB (i4 (dy 2) dM) dG) dG)))))
theorem Ac:DJ ["hand","many","tree","asks","alike"] ["hand","many","tree","asks"] (eD<|top 59):=by lia
def v7(F:C0)(z:C0):SV:=
  (dH (WY (vT<|v2 We (v2 V6 (be 2)<|vC<|.int 0)<|vC<|.str "ask")
   (dU<|be 2)
   WQ)
  (dH (WY (vT<|v2 WT (be 3)<|vC<|.int 0)
   (dU<|v2 V6 (vL eQ<|dz (vL eS<|dz (vC<|.str "one")<|dz (v2 V6 (be 2)<|vC<|.int 1) dD)<|dz (vL eS<|dz (vC<|.str "none") dD)<|dz (vL eS<|dz (vC<|.str "one")<|dz (vL F<|dz (be 0)<|dz (be 1) dD) dD) dD)<|vL F<|dz (be 0)<|dz (vC<|.int 3) dD)
   WQ)
  (dH (dQ (vL z<|dz (be 0)<|dz (be 1)<|dz (v2 V6 (be 2)<|vC<|.int 3)<|dz (v2 ip (be 3)<|vC<|.int 1) dD)<|dC 4)
  (dU<|v2 e9 (i3 (be 2) lH<|iS<|vC<|.int 3)<|vL eS<|dz (be 4)<|dz (vL z<|dz (be 0)<|dz (be 1)<|dz (v2 V6 (be 2)<|vC<|.int 4)<|dz (v2 ip (be 3)<|vC<|.int 1) dD) dD))))
def tS(F:C0)(z:C0):C0:=eR 5 4 (v7 F z)
theorem RS{fg ir:C0}{jf S k:Nat}(F:WM K "_law_cut" "_law_cut" (top 59) f fd) (gw:Df P w K mg base jf "_law_take" ["hand","many"] (V1 K fg)) (iq:jf<=k) (nA:Df P w K mg base S "_law_cut" ["hand","many","tree","asks"] (V1 K ir)) (z:S<=k):Qv P w K mg base WN (k+1) f fd ["hand","many","tree","asks"] (V1 K<|tS fg ir):=by
 unfold tS v7;exact eX F Ac fun cdv A outer s H E J=>
  (dJ (eZ (jx J (eO (dy 2) dM) gq)
   (dL<|eB<|dy 2)
   eY)
  (dJ (eZ (ga J (dy 3) dM)
   (dL<|eB<|eO (fm<|dB (fu<|dB gq<|dB (eO (dy 2) dM) dG)<|dB (fu<|dB gq dG)<|dB (fu<|dB gq<|dB (eA gw (J.mono iq)<|dB (dy 0)<|dB (dy 1) dG) dG) dG)<|eA gw (J.mono iq)<|dB (dy 0)<|dB dM dG)
   eY)
  (dJ (eI (i:=4) Ac.nd rfl (Or.inl rfl) (eA nA (J.mono z)<|dB (dy 0)<|dB (dy 1)<|dB (eO (dy 2) dM)<|dB (i4 (dy 3) dM) dG))
  (dL<|eB<|gl (nk (dy 2) se<|kF dM)<|fu<|dB (dy 4)<|dB (eA nA (J.mono z)<|dB (dy 0)<|dB (dy 1)<|dB (eO (dy 2) dM)<|dB (i4 (dy 3) dM) dG) dG))))
theorem qU:DJ ["many","found","i"] ["many"] (eD<|top 60):=by lia
theorem QB:((["j"]:Ŗ)++([("i",2)]:ő).map (·.1)).Nodup:=by decide +kernel
def wU:SV:=
  (dH (dQ (vL eQ dD)<|dC 1)
  (dH (fW (X1<|be 0) (dC 2)
   (dQ (v2 e9 (be 1)<|eW ["j"] [("i",2)] (lS (v2 e9 (be 2)<|vC<|.int 1)<|be 0) (dC 0) eC<|vL eS<|dz (be 1)<|dz (be 0) dD)<|dC 1))
  (dU<|be 1)))
def qw:C0:=eR 3 1 (wU)
theorem LG{k:Nat}(F:WM K "_law_pairs_of" "_law_pairs_of" (top 60) f fd) (fr:mg "range"=none):Qv P w K mg base WN (k+1) f fd ["many"] (V1 K<|qw):=by
 unfold qw wU;exact eX F qU fun cdv A outer s H E J=>
  (dJ (eI (i:=1) qU.nd rfl (Or.inl rfl) (fm dG))
  (dJ (gD SR rfl (jU fr<|dy 0) (dW (i:=2) qU.nd rfl (Or.inr rfl))
   (dL (eI (i:=1) qU.nd rfl (Or.inl rfl) (gl (dy 1) (ge (own:=["j"]) (cap:=[("i",2)]) (fw rfl) (Dj fr (gl (dy 2) dM)<|dy 0)
   (fun _ _ _ _ _=>(dW (i:=0) QB rfl (Or.inl rfl))) (fun _ _ _ _ _=>fU)
   (fun _ _ _ _ _=>(fu<|dB (dy 1)<|dB (dy 0) dG)))))))
  (dL<|eB<|dy 1)))
theorem lw:DJ ["many","tree","paper","answers","pairs","i","j","alike"] ["many","tree","paper"] (eD<|top 61):=by lia
def wk(z:C0):SV:=
  (dH (dQ (vL io dD)<|dC 3)
  (dH (dQ (vL z<|dz (be 0) dD)<|dC 4)
  (dH (jq (vT<|v2 We (be 2)<|vL eS dD)
   (dH (dQ (v2 V6 (vL eQ<|dz (i3 (be 1) (iS<|vC<|.int 1)<|iS<|vC<|.int 3)<|dz (vL eS<|dz (vC<|.int 1)<|dz (vC<|.int 0) dD) dD)<|v1 lj<|v2 We (v2 V6 (be 1)<|vC<|.int 0)<|vC<|.str "ask")<|fc 2<|dY (dC 5)<|dY (dC 6) fk)
   (dH (dQ (v2 V6 (be 2)<|il rZ (be 4)<|vL eS<|dz (v2 mo (be 5)<|be 6)<|dz (v2 sh (be 5)<|be 6) dD)<|fc 2<|dY (dC 7)<|dY (dC 2) fk)
   (dH (g7<|il gM (be 3)<|vL eS<|dz (be 5)<|dz (be 6)<|dz (be 7) dD)
   (WY (vT<|v2 WT (v2 V6 (be 1)<|vC<|.int 0)<|vC<|.str "ask")
    (dQ (v2 V6 (be 1)<|v2 V6 (vL eQ<|dz (vC<|.int 4)<|dz (vC<|.int 3) dD)<|v1 lj<|be 7)<|dC 1)
    WQ)))) 1000000)
  (dU<|be 3))))
def tO(z:C0):C0:=eR 8 3 (wk z)
theorem FS{z:C0}{DW k:Nat}(F:WM K "_law_answers" "_law_answers" (top 61) f fd) (xv:Df P w K mg base DW "_law_pairs_of" ["many"] (V1 K z)) (P9:DW<=k) (S:mg "int"=none) (iQ:mg "max"=none) (kz:mg "min"=none):Qv P w K mg base WN (k+1) f fd ["many","tree","paper"] (V1 K<|tO z):=by
 unfold tO wk;exact eX F lw fun cdv A outer s H E J=>
  (dJ (eI (i:=3) lw.nd rfl (Or.inl rfl) (qd dG))
  (dJ (eI (i:=4) lw.nd rfl (Or.inl rfl) (eA xv (J.mono P9)<|dB (dy 0) dG))
  (dJ (pY 1000000 SR (jx J (dy 2)<|fu dG)
   (dJ (lm (eO (fm<|dB (nk (dy 1) (kF dM)<|kF dM)<|dB (fu<|dB dM<|dB dM dG) dG)<|uG S<|ul J (eO (dy 1) dM) gq)<|gH (n:=2)<|eU (dW (i:=5) lw.nd rfl (Or.inl rfl))<|eU (dW (i:=6) lw.nd rfl (Or.inl rfl)) gL)
   (dJ (lm (eO (dy 2)<|HH J (dy 4)<|fu<|dB (vI kz (dy 5)<|dy 6)<|dB (DD iQ (dy 5)<|dy 6) dG)<|gH (n:=2)<|eU (dW (i:=7) lw.nd rfl (Or.inl rfl))<|eU (dW (i:=2) lw.nd rfl (Or.inl rfl)) gL)
   (dJ (kN<|sK (dy 3)<|fu<|dB (dy 5)<|dB (dy 6)<|dB (dy 7) dG)
   (dL (eZ (ga J (eO (dy 1) dM) gq)
    (dL<|eI (i:=1) lw.nd rfl (Or.inl rfl) (eO (dy 1)<|eO (fm<|dB dM<|dB dM dG)<|uG S<|dy 7))
    eY))))))
  (dL<|eB<|dy 3))))
theorem jH:DJ ["script","cell","hand","many","asks","paper","good","trees","tree","answers"] ["script"] (eD<|top 62):=by lia
def uU(mY:C0)(fg:C0)(S:C0)(ni:C0)(nS:C0)(nB:C0)(ie:C0)(h9:C0)(ir:C0)(z:C0)(F:C0)(nW:C0)(fH:C0)(gg:C0):SV:=
  (dH (fW (WH<|v2 e9 (vL eQ<|dz (v2 m9 (vC<|.int 10)<|vC<|.int 18) dD)<|i3 (be 0) lH<|iS<|vC<|.int 8) (dC 1)
   (dH (dQ (vL mY<|dz (be 1) dD)<|dC 2)
   (dH (dQ (v2 e9 (vC<|.int 2)<|vL fg<|dz (be 2)<|dz (vC<|.int 3) dD)<|dC 3)
   (dH (dQ (v2 ip (v2 V6 (vL S<|dz (be 3) dD)<|vC<|.int 0)<|vC<|.int 1)<|dC 4)
   (dH (dQ (vL ni<|dz (be 3) dD)<|dC 5)
   (dH (WY (vT<|v2 lB (vL nS<|dz (be 3)<|dz (be 4)<|dz (be 5) dD)<|vC<|.bl true)
    (dU<|vC<|.bl false)
    WQ)
   (dH (dQ (vL ie<|dz (be 2)<|dz (be 3)<|dz (vL nB<|dz (be 3)<|dz (be 3) dD) dD)<|dC 6)
   (dH (dQ (vL eQ<|dz (vL h9<|dz (be 2)<|dz (be 3)<|dz (be 4) dD)<|dz (vL h9<|dz (be 2)<|dz (be 3)<|dz (be 4) dD) dD)<|dC 7)
   (dH (fW (WH<|v2 e9 (be 7)<|vL eQ<|dz (vL ir<|dz (be 2)<|dz (be 3)<|dz (be 6)<|dz (be 4) dD) dD) (dC 8)
    (dH (WY (Yd (vT<|v2 Yk (vL z<|dz (be 8) dD)<|be 4)<|vT<|v2 lB (vL F<|dz (be 3)<|dz (be 8) dD)<|vC<|.bl false)
     (dU<|vC<|.bl false)
     WQ)
    (dH (dQ (vL nW<|dz (be 3)<|dz (be 8)<|dz (be 5) dD)<|dC 9)
    (WY (Yd (gO<|fC<|vL fH<|dz (be 3)<|dz (be 9) dD)<|vT<|v2 We (vL gg<|dz (be 3)<|dz (be 9) dD)<|vL eS<|dz (vC<|.str "open") dD)
     (dU<|vC<|.bl false)
     WQ))))
   (WY (Yd (vT<|v2 lB (vL F<|dz (be 3)<|dz (be 6) dD)<|vC<|.bl true)<|vT<|v2 Xe (vL z<|dz (be 6) dD)<|v2 V6 (vL S<|dz (be 3) dD)<|vC<|.int 0)
    (dU<|vC<|.bl false)
    WQ))))))))))
  (dU<|vC<|.bl true))
def tz(mY:C0)(fg:C0)(ig:C0)(z:C0)(S:C0)(nB:C0)(ie:C0)(h9:C0)(ir:C0)(lK:C0)(lG:C0)(F:C0)(fH:C0)(gg:C0):C0:=eR 10 1 (uU mY fg ig z S nB ie h9 ir lK lG F fH gg)
theorem Jp{mY fg ig ni nS nB ie h9 ir lK lG nW fH gg:C0}{S jf oJ CI z yQ pU oV qt DS zE B5 jp ld k:Nat}(F:WM K "law" "law" (top 62) f fd) (ya:Df P w K mg base S "_law_hand" ["cell"] (V1 K mY)) (LA:S<=k) (gw:Df P w K mg base jf "_law_take" ["hand","many"] (V1 K fg)) (iq:jf<=k) (my:Df P w K mg base oJ "fewest" ["many"] (V1 K ig)) (tY:oJ<=k) (uz:Df P w K mg base CI "holding_paper" ["many"] (V1 K ni)) (Mu:CI<=k) (uK:Df P w K mg base z "holds" ["many","asks","paper"] (V1 K nS)) (Ji:z<=k) (uP:Df P w K mg base yQ "_law_sorts" ["many","most"] (V1 K nB)) (NB:yQ<=k) (mX:Df P w K mg base pU "_law_tree" ["hand","many","left"] (V1 K ie)) (sN:pU<=k) (mB:Df P w K mg base oV "_law_any" ["hand","many","asks"] (V1 K h9)) (qh:oV<=k) (nA:Df P w K mg base qt "_law_cut" ["hand","many","tree","asks"] (V1 K ir)) (rf:qt<=k) (sk:Df P w K mg base DS "depth" ["tree"] (V1 K lK)) (Ea:DS<=k) (rl:Df P w K mg base zE "finds_out" ["many","tree"] (V1 K lG)) (zn:zE<=k) (ve:Df P w K mg base B5 "_law_answers" ["many","tree","paper"] (V1 K nW)) (N2:B5<=k) (iY:Df P w K mg base jp "can_be" ["many","answers"] (V1 K fH)) (lD:jp<=k) (kA:Df P w K mg base ld "tells" ["many","answers"] (V1 K gg)) (pL:ld<=k):Qv P w K mg base WN (k+1) f fd ["script"] (V1 K<|tz mY fg ig ni nS nB ie h9 ir lK lG nW fH gg):=by
 unfold tz uU;exact eX F jH fun cdv A outer s H E J=>
  (dJ (gD SR rfl (fA<|gl (fm<|dB (rq dM dM) dG)<|nk (dy 0) se<|kF dM) (dW (i:=1) jH.nd rfl (Or.inl rfl))
   (dJ (eI (i:=2) jH.nd rfl (Or.inl rfl) (eA ya (J.mono LA)<|dB (dy 1) dG))
   (dJ (eI (i:=3) jH.nd rfl (Or.inl rfl) (gl dM<|eA gw (J.mono iq)<|dB (dy 2)<|dB dM dG))
   (dJ (eI (i:=4) jH.nd rfl (Or.inl rfl) (i4 (eO (eA my (J.mono tY)<|dB (dy 3) dG) dM) dM))
   (dJ (eI (i:=5) jH.nd rfl (Or.inl rfl) (eA uz (J.mono Mu)<|dB (dy 3) dG))
   (dJ (eZ (uc (eA uK (J.mono Ji)<|dB (dy 3)<|dB (dy 4)<|dB (dy 5) dG) gn)
    (dL<|eB gn)
    eY)
   (dJ (eI (i:=6) jH.nd rfl (Or.inl rfl) (eA mX (J.mono sN)<|dB (dy 2)<|dB (dy 3)<|dB (eA uP (J.mono NB)<|dB (dy 3)<|dB (dy 3) dG) dG))
   (dJ (eI (i:=7) jH.nd rfl (Or.inl rfl) (fm<|dB (eA mB (J.mono qh)<|dB (dy 2)<|dB (dy 3)<|dB (dy 4) dG)<|dB (eA mB (J.mono qh)<|dB (dy 2)<|dB (dy 3)<|dB (dy 4) dG) dG))
   (dJ (gD SR rfl (fA<|gl (dy 7)<|fm<|dB (eA nA (J.mono rf)<|dB (dy 2)<|dB (dy 3)<|dB (dy 6)<|dB (dy 4) dG) dG) (dW (i:=8) jH.nd rfl (Or.inl rfl))
    (dJ (eZ (PW.pt<|lM (nl (eA sk (J.mono Ea)<|dB (dy 8) dG)<|dy 4)<|lN<|uc (eA rl (J.mono zn)<|dB (dy 3)<|dB (dy 8) dG) gn)
     (dL<|eB gn)
     eY)
    (dJ (eI (i:=9) jH.nd rfl (Or.inl rfl) (eA ve (J.mono N2)<|dB (dy 3)<|dB (dy 8)<|dB (dy 5) dG))
    (dL (eZ (PW.pt<|lM (jR<|hU<|eA iY (J.mono lD)<|dB (dy 3)<|dB (dy 9) dG)<|lN<|jx J (eA kA (J.mono pL)<|dB (dy 3)<|dB (dy 9) dG)<|fu<|dB gq dG)
     (dL<|eB gn)
     eY)))))
   (dL (eZ (PW.pt<|lM (uc (eA rl (J.mono zn)<|dB (dy 3)<|dB (dy 6) dG) gn)<|lN<|pX (eA sk (J.mono Ea)<|dB (dy 6) dG)<|eO (eA my (J.mono tY)<|dB (dy 3) dG) dM)
    (dL<|eB gn)
    eY)))))))))))
  (dL<|eB gn))
end
def Hd(O:M)(k:Nat):Prop:=∃a b,O[k]?=some (some<|.lst [.int a,.int b])
def mn(O:M)(k:Nat)(a b:Int):M:=O.set k (some<|.lst [.int a,.int b])
def Dn(k:Nat)(O Z6:M):Prop:=∃a b,Z6=mn O k a b
def Hd.set{O:M}{k:Nat}(h:Hd O k)(a b:Int):(mn O k a b)[k]?=some (some<|.lst [.int a,.int b]):=let ⟨_,_,e⟩:=h;gS e
def Dn.hd{O Z6:M}{k:Nat}(h:Hd O k)(d:Dn k O Z6):Hd Z6 k:=let ⟨a,b,e⟩:=d;⟨a,b,by rw[e];exact h.set a b⟩
def Dn.len{O Z6:M}{k:Nat}(d:Dn k O Z6):Z6.length=O.length:=let ⟨_,_,e⟩:=d;by rw[e];simp[mn]
def Dn.ne{O Z6:M}{k j:Nat}(d:Dn k O Z6)(h:j≠k):Z6[j]?=O[j]?:=let ⟨_,_,e⟩:=d;by rw[e];exact h8 h
def Mz{O:M}{k:Nat}{m:Int}(h:Hd O k)(h0:0<m)(h1:m<2^200):∃r Z6,i0 [.ref k,.int m] O=some (.int r,Z6)/\Dn k O Z6/\0<=r/\r<m:=by
 obtain⟨a,b,H⟩:=h;by_cases z:0<a
 .refine⟨a%m,mn O k (a/m) b,?_,⟨_,_,rfl⟩,Vi _ ⋯,UU _ h0⟩;have L:jg a m:=h0;have hd:mq a m:=⟨h0,h1⟩
  simp[i0,qM,sT H,mT H,z,L,hd,mn]
 .have hb1:=Vi (b*48271) (b:=2147483647) (by decide);have S:=UU (b*48271) (b:=2147483647) (by decide);refine⟨_,mn O k a (b*48271%2147483647),?_,⟨_,_,rfl⟩,Vi ((b*48271%2147483647+1)^7/8) ⋯,UU _ h0⟩;have F:jZ (b*48271%2147483647+1) 7:=⟨by decide,by decide,by omega⟩
  have hm:XR b 48271:=.inr ⟨by decide,by decide⟩;have L:jg ((b*48271%2147483647+1)^7/8) m:=h0;have J:jg (b*48271) 2147483647:=by unfold jg;decide
  have hd:mq ((b*48271%2147483647+1)^7) 8:=by unfold mq;decide
  have P:=gS (y:=some (Z9.lst [.int a,.int (b*48271%2147483647)])) H;simp[i0,qM,sT H,mT H,z,hm,F,L,J,hd,sT P,mn]
def Qp(c:Int)(O:M):∃a b,oN [.int c] O=some (.ref O.length,O++[some (.lst [.int a,.int b])]):=by
 have h1:jZ 10 18:=by unfold jZ;decide
 have P:jg c 2147483629:=by unfold jg;decide
 have L:∀(x:Int) (b:Bool),XR x (if b then 1 else 0):=fun x b=>.inr (by cases b<;>decide);have J:∀(x:Int) (p:Prop) [Decidable p],XR x (if p then 1 else 0):=fun x p _=>.inr (by split<;>decide);have H:∀(x:Int) (p:Prop) [Decidable p],XR x (if p then 0 else 1):=fun x p _=>.inr (by split<;>decide);simp[oN,xo,h1,P,L,J,H]
def Rp{O:M}{a b:Int}:Hd (O++[some (.lst [.int a,.int b])]) O.length:=⟨a,b,by simp⟩
def Nz{s:Ő}{O:M}(z:s.length<=1000):Wp (pN [dI s] O) fun d Z6=>d=.lst ((lh s).map D.int)/\Z6=O:=by
 unfold pN ur;refine(fB rfl).mpr ?_;show Ws (dH _ _ [some (.lst<|s.map D.int),none] O) _;simp!;refine jD (fun J B Z6=>Z6=O/\(∃o,B=[some (.lst<|s.map D.int),o])/\∃q:Ő,J=q.map D.int/\s.find? (fun k=>decide ((s.length:Int)<2*(s.count k:Int)))=q.find? fun k=>decide ((s.length:Int)<2*(s.count k:Int))) _ ⟨rfl,⟨_,rfl⟩,s,rfl,rfl⟩ ?_ ?_
 .rintro d J B Z6 ⟨rfl,⟨o,rfl⟩,q,e,H⟩;cases q with
  |nil=>cases e
  |cons k q=>
   cases e;simp![Bc];have L:=KA (s:=s) (x:=k) (O:=Z6);unfold dI at L;rw[L];simp!;rw[QG (by decide)];simp![pP,Sv];rw[SH] at H;cases P:decide ((s.length:Int)<2*(s.count k:Int)) with
   |false=>
    rw[P] at H;simp!;exact⟨trivial,trivial,⟨_,rfl⟩,q,rfl,H⟩
   |true=>
    rw[P] at H;simp![pP,Sv];rw[lQ ⋯,yw];simp![gz];refine⟨by simp;omega,?_⟩;refine gP (dn:=fun i:Nat=>D.int (i:Int)) (fun B=>∃o,B=[o,some (.lst<|s.map D.int),some (.int k)]) (c:=none) trivial (List.range s.length) ⟨_,rfl⟩ (keep:=fun t=>decide (s.getD t 0=k)) (val:=fun i:Nat=>D.int (i:Int)) ?_ ?_
    .rintro i hi B ⟨o,rfl⟩;simp![oj (S6.mp hi)];exact⟨trivial,⟨_,rfl⟩,trivial,trivial,fun _=>⟨trivial,trivial⟩⟩
    .simp!;unfold lh;rw[H];refine⟨?_,trivial⟩;simp[Function.comp_def]
 .rintro B Z6 ⟨rfl,⟨o,rfl⟩,q,e,H⟩;cases q with
  |cons k q=>cases e
  |nil=>
   simp!;rw[fF nofun];simp!;unfold lh;rw[H];exact⟨rfl,trivial⟩
def YD(m:Nat)(s:Ő):List Ő:=(List.range<|min m (mx (-1) s+2).toNat).map fun k:Nat=>s++[(k:Int)]
def LS(m:Nat):Nat->List Ő
 |0=>[[]]|n+1=>(LS m n).flatMap (YD m)
def Jq:∀m<8,∀k<8,(LS m k).length<=1000:=by decide +kernel
theorem zL:∀{k:Nat} {s:Ő},s∈LS m k->s.length=k
 |0,s,h=>by simp[LS] at h;subst h;rfl|k+1,s,h=>by simp only[LS,TQ,YD,SU] at h;obtain⟨a,H,J,_,rfl⟩:=h;simp[zL H]
theorem Cj:∀(l:Ő) (a:Int),a<=mx a l
 | [],a=>Int.le_refl a|b::l,a=>by
  have:=Cj l (if b>a then b else a);simp only[mx];split at this<;>rename_i h
  .rw[if_pos h];omega
  .rw[if_neg h];omega
def Gx{s:Ő}{a:Int}{O:M}:uW (.lst<|.int a::s.map D.int) O=some (.int (mx a s),O):=by
 have H:optAll YX (D.int a::s.map D.int)=some (a::s):=by have:=jm (f:=YX) (g:=D.int) (h:=id) (l:=a::s) (fun x _=>rfl);simpa using this
 show(optAll YX<|D.int a::s.map D.int).bind _=_;rw[H];rfl
def Iw{n m:Nat}{O:M}(hn:n<=7)(hm:m<=7):Wp (oA [.int (n:Int),.int (m:Int)] O) fun d Z6=>d=.lst ((LS m n).map dI)/\Z6=O:=by
 unfold oA yf;refine(fB rfl).mpr ?_;show Ws (dH _ _ [some (.int (n:Int)),some (.int (m:Int)),none,none,none,none] O) _;simp!;rw[fF nofun];simp!;rw[fF nofun];simp!;rw[lQ ⋯];simp!;refine tE (fun k B Z6=>Z6=O/\∃z P H,B=[some (.int (n:Int)),some (.int (m:Int)),some (.lst<|(LS m k).map dI),z,P,H]) ⟨rfl,_,_,_,rfl⟩ ?_ ?_
 .rintro k B Z6 hk ⟨rfl,z,P,H,rfl⟩;simp!;rw[fF nofun];simp!;have S:=Jq m ⋯ (k+1) ⋯;refine jD (fun F B Z4=>Z4=Z6/\∃(q1 q2:List Ő) (H:Option D),LS m k=q1++q2/\F=q2.map dI/\B=[some (.int (n:Int)),some (.int (m:Int)),some (.lst<|(LS m k).map dI),some (.int (k:Int)),some (.lst<|(q1.flatMap<|YD m).map dI),H]) _ ⟨rfl,[],LS m k,_,rfl,rfl,rfl⟩ ?_ ?_
  .rintro d F B Z4 ⟨rfl,q1,q2,H,J,e,rfl⟩;cases q2 with
   |nil=>cases e
   |cons s q2=>
    cases e;have hs:=zL (m:=m) (k:=k) (s:=s) (by rw[J];simp);have hle:((q1++[s]).flatMap (YD m)).length<=1000:=by
     have:LS m (k+1)=((q1++[s]).flatMap (YD m))++q2.flatMap (YD m):=by show(LS m k).flatMap (YD m)=_;rw[J,←UM];simp
     have:=congrArg List.length this;rw[S9] at this;omega
    have L:(q1++[s]).flatMap (YD m)=q1.flatMap (YD m)++YD m s:=by simp
    rw[L,S9] at hle;have hge:=Cj s (-1);unfold dI;simp!;rw[fF nofun];simp!;rw[mG (by simp;omega)];simp![List.singleton_append];rw[Gx];simp!;have hv:(if mx (-1) s+2<(m:Int) then mx (-1) s+2 else(m:Int))=((min m (mx (-1) s+2).toNat:Nat):Int):=by split<;>omega
    rw[hv,lQ ⋯,yw];simp![gz];refine⟨by simp;omega,?_⟩;refine gP (dn:=fun i:Nat=>D.int (i:Int)) (fun B=>∃o,B=[o,some (.lst<|s.map D.int)]) (c:=none) trivial (List.range<|min m (mx (-1) s+2).toNat) ⟨_,rfl⟩ (keep:=fun _=>true) (val:=fun i:Nat=>dI<|s++[(i:Int)]) ?_ ?_
    .rintro i hi B ⟨o,rfl⟩;simp!;rw[fF nofun];simp!;rw[mG (by simp;omega)];simp!;refine⟨trivial,⟨_,rfl⟩,trivial,trivial,fun _=>⟨?_,trivial⟩⟩;simp[dI]
    .have ev:((List.range<|min m (mx (-1) s+2).toNat).filter fun _=>true).map (fun i:Nat=>dI<|s++[(i:Int)])=(YD m s).map dI:=by
      rw[TJ.mpr (fun _ _=>rfl),YD,S5];rfl
     rw[ev,mG (by rw[Sv,Sv];omega)];simp!;refine⟨trivial,trivial,q1++[s],q2,some (.lst<|s.map D.int),by rw[J];simp,rfl,?_⟩;rw[L,TN];rfl
  .rintro B Z4 ⟨rfl,q1,q2,H,J,e,rfl⟩;cases q2 with
   |cons s q2=>cases e
   |nil=>
    simp!;rw[Tq] at J;refine⟨trivial,some (.int (k:Int)),some (.lst<|(q1.flatMap<|YD m).map dI),H,?_⟩;show _=([some (.int (n:Int)),some (.int (m:Int)),some (.lst<|((LS m k).flatMap (YD m)).map dI),some (.int (k:Int)),some (.lst<|(q1.flatMap<|YD m).map dI),H]:G)
    rw[J]
 .rintro B Z6 ⟨rfl,z,P,H,rfl⟩;simp!;exact⟨trivial,trivial⟩
section
variable {O:M}
theorem Hd.gr(h:Hd O k)(g:Gr O Z6):Hd Z6 k:=let ⟨a,b,e⟩:=h;⟨a,b,g.get e⟩
theorem Hd.lt(h:Hd O k):k<O.length:=let ⟨_,_,e⟩:=h;(Sn.mp e).1
theorem jl(h:Hd O k)(h0:0<m)(h1:m<2^200):Wp (i0 [.ref k,.int m] O) fun d Z6=>∃r:Nat,d=.int (r:Int)/\(r:Int)<m/\Dn k O Z6:=by obtain⟨r,Z6,e,d,H,J⟩:=Mz h h0 h1;exact⟨_,_,e,r.toNat,by rw[Uo H],by omega,d⟩
end
def Jh:∀n<8,LS n n=Xx n:=by decide +kernel
def Dn.kp{k:Nat}{O Z6:M}(d:Dn k O Z6):Kp k O Z6:=by obtain⟨a,b,rfl⟩:=d;exact mj
def YL(p:Nat×Nat):D:=.tup [.int (p.1:Int),.int (p.2:Int)]
def Db{n:Nat}(z:n<=7)(left:List Ő):(Wk n left).length<=21:=by
 refine S1 (Te _ _) ?_;have:∀n<8,(kK n).length<=21:=by decide
 exact this n ⋯
def Mh{n:Nat}(z:n<=5)(left:List Ő):(Wk n left).length<=10:=by
 refine S1 (Te _ _) ?_;have:∀n<6,(kK n).length<=10:=by decide
 exact this n ⋯
def L8(left:List Ő)(i j:Nat):(decide (0<((left.filter fun s=>eqB s i j).length:Int))&&decide (((left.filter fun s=>eqB s i j).length:Int)<(left.length:Int)))=YK left (i,j):=by
 unfold YK;rw[Tj,SG,SG,SJ,SJ,S7,S7];have h1:0<((left.filter fun s=>eqB s i j).length:Int)↔∃x∈left,eqB x i j=true:=by
  rw[←Ua];constructor
  .intro h;exact List.countP_pos_iff.mp ⋯
  .intro h;have:=List.countP_pos_iff.mpr h;omega
 have L:((left.filter fun s=>eqB s i j).length:Int)<(left.length:Int)↔∃x∈left,(!eqB x i j)=true:=by
  rw[←Ua];have hle:=List.countP_le_length (p:=fun s=>eqB s i j) (l:=left);constructor
  .intro h;refine Tp fun P=>?_;have:left.countP (fun s=>eqB s i j)=left.length:=List.countP_eq_length.mpr fun x J=>by
    cases H:eqB x i j with
    |true=>rfl|false=>exact absurd ⟨x,J,by rw[H];rfl⟩ P
   omega
  .rintro⟨x,J,H⟩;have:left.countP (fun s=>eqB s i j)≠left.length:=fun h=>by
    have:=List.countP_eq_length.mp h x J;simp only[this] at H;cases H
   omega
 exact⟨fun h=>⟨h1.mp h.1,L.mp h.2⟩,fun h=>⟨h1.mpr h.1,L.mpr h.2⟩⟩
section
variable {n:Nat} {left:List Ő} {O:M}
theorem zN(z:∀s∈left,s.length=n)(hi:i<n)(S:j<n)(F:R ((left.filter fun s=>eqB s i j).map dI) O):Wp (fo none (dC 0) (vT<|v2 WT (v2 V6 (be 0)<|be 1)<|v2 V6 (be 0)<|be 2) (be 0) (left.map dI) [none,some (.int (i:Int)),some (.int (j:Int))] O) R:=by refine gP (dn:=dI) (fun B=>∃o,B=[o,some (.int (i:Int)),some (.int (j:Int))]) (c:=none) trivial left ⟨_,rfl⟩ (keep:=fun s=>eqB s i j) (val:=dI) ?_ F;rintro s H B ⟨o,rfl⟩;have h:=z s H;simp!;refine⟨trivial,⟨_,rfl⟩,?_⟩;unfold dI;simp![oj (show i<s.length by omega),oj (show j<s.length by omega)];exact⟨rfl,trivial,fun _=>⟨trivial,trivial⟩⟩
theorem Nl(z:∀s∈left,s.length=n)(hi:i<n)(S:j<n)(F:R ((left.filter fun s=>!eqB s i j).map dI) O):Wp (fo none (dC 0) (vT<|v2 We (v2 V6 (be 0)<|be 1)<|v2 V6 (be 0)<|be 2) (be 0) (left.map dI) [none,some (.int (i:Int)),some (.int (j:Int))] O) R:=by refine gP (dn:=dI) (fun B=>∃o,B=[o,some (.int (i:Int)),some (.int (j:Int))]) (c:=none) trivial left ⟨_,rfl⟩ (keep:=fun s=>!eqB s i j) (val:=dI) ?_ F;rintro s H B ⟨o,rfl⟩;have h:=z s H;simp!;refine⟨trivial,⟨_,rfl⟩,?_⟩;unfold dI;simp![oj (show i<s.length by omega),oj (show j<s.length by omega)];exact⟨rfl,trivial,fun _=>⟨trivial,trivial⟩⟩
theorem Ce{O:M}{ds:List D}{x:D}(h:ds.length<1000):gM (.ref O.length) x (O++[some (.lst ds)])=some (.non,O++[some (.lst<|ds++[x])]):=by
 have H:(O++[some (Z9.lst ds)])[O.length]?=some (some<|.lst ds):=by simp
 simp only[gM,mT H,if_pos (show ds.length<1000000 by omega),qQ];simp
def YT(left:List Ő)(i:Nat)(j:Nat):ŕ:=((List.range j).map fun j=>(i,j)).filter (YK left)
theorem RD(i j:Nat):YT left i (j+1)=YT left i j++if YK left (i,j)=true then [(i,j)] else []:=by unfold YT;rw[Vj,TN,UT];simp[Ue]
theorem Q7(i:Nat):Wk (i+1) left=Wk i left++YT left i i:=by unfold Wk kK YT;rw[Vj,UM,UT];simp
theorem Pe(i j:Nat):(YT left i j).length<=j:=by unfold YT;refine S1 (Te _ _) ?_;simp
theorem QP(hn:n<=7)(hl:∀s∈left,s.length=n)(hf:left.length<=1000):Wp (oO [.int (n:Int),.lst (left.map dI)] O) fun d Z6=>d=.ref O.length/\Z6=O++[some (.lst<|(Wk n left).map YL)]:=by
 unfold oO ux;refine(fB rfl).mpr ?_;show Ws (dH _ _ [some (.int (n:Int)),some (.lst<|left.map dI),none,none,none,none] O) _;simp!;rw[xw nofun];simp!;rw[lQ ⋯];simp!;refine tE (fun i B Z6=>Z6=O++[some (.lst<|(Wk i left).map YL)]/\∃L J H,B=[some (.int (n:Int)),some (.lst<|left.map dI),some (.ref O.length),L,J,H]) ⟨rfl,_,_,_,rfl⟩ ?_ ?_
 .rintro i B Z6 hi ⟨rfl,L,J,H,rfl⟩;simp!;rw[lQ ⋯];simp!;refine tE (fun j B Z6=>Z6=O++[some (.lst<|(Wk i left++YT left i j).map YL)]/\∃J H,B=[some (.int (n:Int)),some (.lst<|left.map dI),some (.ref O.length),some (.int (i:Int)),J,H]) ⟨by simp[YT],_,_,rfl⟩ ?_ ?_
  .rintro j B Z6 hj ⟨rfl,J,H,rfl⟩;simp![gz];refine⟨by simp;omega,?_⟩;refine zN hl hi ⋯ ?_;simp![pP,Sv];refine D7 ?_;have key:=L8 left i j;have z:Wk i left++YT left i (j+1)=(Wk i left++YT left i j)++if YK left (i,j)=true then [(i,j)] else []:=by rw[RD,U5]
   have P:(Wk i left++YT left i j).length<1000:=by have h1:=Db (n:=i) ⋯ left;have h2:=Pe (left:=left) i j;rw[S9];omega
   simp!;cases S:decide (0<((left.filter fun s=>eqB s i j).length:Int)) with
   |false=>
    refine .inr ⟨rfl,?_⟩;rw[S,VP] at key;rw[z,←key];exact⟨by simp,_,_,rfl⟩
   |true=>
    refine .inl ⟨rfl,?_⟩;rw[S,Ve] at key;simp![pP,Sv];rw[key];cases F:YK left (i,j) with
    |false=>
     simp!;rw[z,F];exact⟨by simp,_,_,rfl⟩
    |true=>
     simp!;rw[wN (ds:=(Wk i left++YT left i j).map YL) nofun];simp!;rw[fv nofun];simp!;rw[Ce (by simpa using P)];simp!;rw[z,F];refine⟨?_,_,_,rfl⟩;rw[if_pos rfl,TN (l₂:=[(i,j)])];rfl
  .rintro B Z6 ⟨rfl,J,H,rfl⟩;exact⟨by rw[Q7],_,_,_,rfl⟩
 .rintro B Z6 ⟨rfl,L,J,H,rfl⟩;simp!;exact⟨trivial,trivial⟩
end
def HJ(s:Ő)(i j:Nat):eqB s i j=eqB s j i:=by unfold eqB;rw[Tj,SJ,SJ];exact⟨fun h=>h.symm,fun h=>h.symm⟩
section
variable {n h:Nat} {left:List Ő} {O:M}
theorem zz:WT (.lst<|L.map dI) (.lst []) O=some (.bl (decide (L=[])),O):=by have e:=Aw (α:=Ő) (O:=O) (l:=L) (m:=[]) (by decide);unfold WT;rw[show(L.map dI)=L.map Enc.d from rfl,show([]:List D)=([]:List Ő).map Enc.d from rfl,e];rfl
theorem CQ:We (.lst<|l.map D.int) (.lst []) O=some (.bl (!decide (l=[])),O):=by have e:=Aw (α:=Int) (O:=O) (l:=l) (m:=[]) (by decide);unfold We;rw[show(l.map D.int)=l.map Enc.d from rfl,show([]:List D)=([]:Ő).map Enc.d from rfl,e];rfl
def oI(left:List Ő)(t:Nat):Bool:=left.all fun s=>decide ((t:Int)∈lh s)
def qu:Nat->List D->M->Fr
 |0=>fun _ _=>none|k+1=>qO pN i0 oO (qu k)
theorem Sf{α:Type}(l:List α):l.filter (fun _=>true)=l:=TJ.mpr nofun
theorem Gz(hn:n<=7):∀(k:Nat) (left:List Ő) (O:M),(Wk n left).length<k->left≠[]->(∀s∈left,s.length=n)->left.length<=1000->Hd O h->Wp (qu k [.ref h,.int (n:Int),.lst (left.map dI)] O) fun d Z6=>∃t,d=dZ t/\DT n left t/\Hd Z6 h/\Kp h O Z6:=by
 intro k;induction k with
 |zero=>intro left O hk;omega|succ k ih=>
  intro left O hk h0 F hf hh;unfold qu qO yz;refine(fB rfl).mpr ?_;show Ws (dH _ _ [some (.ref h),some (.int (n:Int)),some (.lst<|left.map dI),none,none,none,none,none,none,none,none] O) _;simp![gz];refine⟨by simp;omega,?_⟩;refine gP (dn:=dI) (fun B=>∃o,B=[o]) (c:=none) trivial left ⟨_,rfl⟩ (keep:=fun _=>true) (val:=fun s=>dI<|lh s) ?_ ?_
  .rintro s H B ⟨o,rfl⟩;simp!;refine⟨trivial,⟨_,rfl⟩,trivial,trivial,fun _=>?_⟩;exact Nz (by rw[F s H];omega)
  rw[Sf];rw[lQ ⋯,yw];simp![gz];refine⟨by simp;omega,?_⟩;refine gP (dn:=fun i:Nat=>D.int (i:Int)) (fun B=>∃o,B=[o,some (.lst<|left.map fun s=>dI<|lh s)]) (c:=none) trivial (List.range n) ⟨_,rfl⟩ (keep:=oI left) (val:=fun i:Nat=>D.int (i:Int)) ?_ ?_
  .rintro i hi B ⟨o,rfl⟩;simp![gz];refine⟨trivial,⟨_,rfl⟩,by simp;omega,?_⟩;refine gP (dn:=fun s=>dI<|lh s) (fun B=>∃o,B=[o,some (.int (i:Int))]) (c:=none) trivial left ⟨_,rfl⟩ (keep:=fun s=>!decide ((i:Int)∈lh s)) (val:=fun s=>dI<|lh s) ?_ ?_
   .rintro s H B ⟨o,rfl⟩;simp!;refine⟨trivial,⟨_,rfl⟩,?_⟩;unfold dI;simp![OD,if_true];exact⟨trivial,trivial,fun _=>⟨trivial,trivial⟩⟩
   .rw[show((left.filter fun s=>!decide ((i:Int)∈lh s)).map fun s=>dI<|lh s)=((left.filter fun s=>!decide ((i:Int)∈lh s)).map lh).map dI by rw[S5];rfl];rw[fF nofun];simp![zz];refine⟨?_,trivial,fun _=>⟨trivial,trivial⟩⟩;unfold oI;rw[Tj,SJ,UL,Tt,S2];simp
  generalize hS:(List.range n).filter (oI left)=S;have hSm:∀t∈S,t<n/\∀s∈left,(t:Int)∈lh s:=by intro t ht;rw[←hS] at ht;obtain⟨h1,h2⟩:=Sy.mp ht;unfold oI at h2;rw[S2] at h2;exact⟨S6.mp h1,fun s H=>of_decide_eq_true<|h2 s H⟩
  have Ŏ:S.length<=7:=by rw[←hS];refine S1 (Te _ _) ?_;simp;omega
  rw[show(S.map fun i:Nat=>D.int (i:Int))=(S.map fun i:Nat=>(i:Int)).map D.int by rw[S5];rfl];rw[fF nofun];simp![CQ];by_cases P:S=[]
  .have e1:decide (S.map (fun i:Nat=>(i:Int))=[])=true:=by rw[P];rfl
   rw[e1];simp![SS,gz];refine⟨by simp;omega,?_⟩;refine gP (dn:=fun s=>dI<|lh s) (fun B=>∃o,B=[o]) (c:=none) trivial left ⟨_,rfl⟩ (keep:=fun s=>!decide (lh s=[])) (val:=fun s=>dI<|lh s) ?_ ?_
   .rintro s H B ⟨o,rfl⟩;simp!;rw[fF nofun];unfold dI;simp![CQ];exact⟨trivial,⟨_,rfl⟩,trivial,trivial,fun _=>⟨trivial,trivial⟩⟩
   rw[show((left.filter fun s=>!decide (lh s=[])).map fun s=>dI<|lh s)=((left.filter fun s=>!decide (lh s=[])).map lh).map dI by rw[S5];rfl];rw[fF nofun];simp![zz];by_cases hE:(left.filter fun s=>!decide (lh s=[])).map lh=[]
   .rw[SK hE];simp!;rw[fv nofun];simp!;refine⟨.no,rfl,DT.no fun s H=>?_,hh,.refl⟩;rw[UL,Tt] at hE;simpa using hE s H
   .rw[Sw hE];simp!;refine(QP (n:=n) (left:=left) (O:=O) hn F hf).imp ?_;rintro _ _ ⟨rfl,rfl⟩;have hop:Wk n left≠[]:=fun hz=>by
     rcases O9 F hz h0 with⟨x,hx,hx2⟩|hx
     .have:x.toNat∈S:=by
       rw[←hS];refine Sy.mpr ⟨S6.mpr (by have:=hx.1;have:=hx.2;omega),?_⟩;unfold oI;rw[S2];intro s H;rw[Uo hx.1];exact SK (hx2 s H)
      rw[P] at this;cases this
     .exact hE (by rw[Tt.mpr (fun s H=>by simp[hx s H])];rfl)
    have hpos:0<(Wk n left).length:=List.length_pos_iff.mpr hop;have L:(O++[some (Z9.lst<|(Wk n left).map YL)])[O.length]?=some (some<|.lst<|(Wk n left).map YL):=by simp
    have ÿ:Hd (O++[some (Z9.lst<|(Wk n left).map YL)]) h:=hh.gr Wn;have Μ:Kp h O (O++[some (Z9.lst<|(Wk n left).map YL)]):=AE;have Wz:O.length≠h:=by have:=hh.lt;omega
    generalize O++[some (Z9.lst<|(Wk n left).map YL)]=Z5 at L ÿ Μ;generalize O.length=r1 at L Wz;have hfew:=Db hn left;simp![B7 L,Sv];refine(jl ÿ ⋯ ⋯).imp ?_;rintro _ z ⟨q,rfl,hq,d2⟩;have hh2:=d2.hd ÿ;have hk2:=Μ.trans d2.kp;have _p:z[r1]?=some (some<|.lst<|(Wk n left).map YL):=by rw[d2.ne Wz];exact L
    have J:q<(Wk n left).length:=by omega
    have e2:V6 (.ref r1) (.int (q:Int)) z=some (YL (Wk n left)[q],z):=by rw[sT _p,ji (v:=YL (Wk n left)[q]) (by simp[J])];rfl
    simp![e2];have hp:=TC J;generalize (Wk n left)[q]=p at hp;have hlt:=Xw.mp (Sy.mp hp).1;have e3:qD (YL p) z=some (.tup [.int (p.2:Int),.int (p.1:Int)],z):=rfl;simp![e3];rw[fF nofun];simp!;refine(jl hh2 ⋯ ⋯).imp ?_;rintro _ ZQ ⟨q2,rfl,Za,d3⟩;have hh3:=d3.hd hh2;have hk3:=hk2.trans d3.kp;obtain⟨a,b,Ŋ,e4⟩:∃a b:Nat,((a=p.1/\b=p.2)\/(a=p.2/\b=p.1))/\V6 (.lst [YL p,.tup [.int (p.2:Int),.int (p.1:Int)]]) (.int (q2:Int)) ZQ=some (.tup [.int (a:Int),.int (b:Int)],ZQ):=by
     have:q2=0\/q2=1:=by omega
     rcases this with rfl|rfl
     .exact⟨p.1,p.2,.inl ⟨rfl,rfl⟩,oy (j:=0) rfl⟩
     .exact⟨p.2,p.1,.inr ⟨rfl,rfl⟩,oy (j:=1) rfl⟩
    simp![e4];rw[js (n:=2) rfl];simp![gz];have ha:a<n:=by omega
    have hb:b<n:=by omega
    have fa:(fun s=>eqB s a b)=fun s=>eqB s p.1 p.2:=by
     funext s;rcases Ŋ with⟨rfl,rfl⟩|⟨rfl,rfl⟩
     .rfl
     .exact HJ _ _ _
    have fb:(fun s=>!eqB s a b)=fun s=>!eqB s p.1 p.2:=by funext s;rw[show eqB s a b=eqB s p.1 p.2 from congrFun fa s]
    obtain⟨n1,n2⟩:=JS hp;have o1:=D3 hp;have o2:=Al hp;refine⟨by simp;omega,?_⟩;refine zN F ha hb ?_;rw[fa];have l1:((left.filter fun s=>eqB s p.1 p.2).length)<=left.length:=Te _ _;have l2:((left.filter fun s=>!eqB s p.1 p.2).length)<=left.length:=Te _ _;refine(ih _ ZQ ⋯ n1 (fun s H=>F s (Sy.mp H).1) ⋯ hh3).imp ?_;rintro _ Zx ⟨ta,rfl,dta,þ,hk4⟩;simp![gz];refine⟨by simp;omega,?_⟩;refine Nl F ha hb ?_;rw[fb];refine(ih _ Zx ⋯ n2 (fun s H=>F s (Sy.mp H).1) ⋯ þ).imp ?_;rintro _ Ze ⟨tb,rfl,dtb,ý,_z⟩;simp!;rw[fv nofun];simp!;refine⟨.ask (a:Int) (b:Int) ta tb,rfl,DT.ask hp dta dtb ?_,ý,(hk3.trans hk4).trans _z⟩;rcases Ŋ with⟨rfl,rfl⟩|⟨rfl,rfl⟩
    .exact .inl ⟨rfl,rfl⟩
    .exact .inr ⟨rfl,rfl⟩
  .have hpos:0<S.length:=List.length_pos_iff.mpr P;have e1:decide (S.map (fun i:Nat=>(i:Int))=[])=false:=by
    rw[Sw];rw[UL];exact P
   rw[e1];simp![Tg,pP,Sv];refine(jl hh ⋯ ⋯).imp ?_;rintro _ z ⟨q,rfl,hq,d2⟩;have J:q<S.length:=by omega
   have e2:V6 (.lst<|(S.map fun i:Nat=>(i:Int)).map D.int) (.int (q:Int)) z=some (.int (S[q]:Int),z):=oy (by simp[J]);simp![e2];rw[fv nofun];simp!;obtain⟨h1,h2⟩:=hSm S[q] (TC J);exact⟨.one (S[q]:Int),rfl,DT.one ⟨by omega,by omega⟩ h2,d2.hd hh,d2.kp⟩
end
def Yv:Tz->Tr
 | .no=>.e none| .one i=>.e (some i)| .ask i j a b=>if i<j then .ask i.toNat j.toNat (Yv a) (Yv b) else .ask j.toNat i.toNat (Yv a) (Yv b)
def nh(h:i<j)(z:j<n):(i,j)∈WA n:=
 TQ.mpr ⟨i,S6.mpr ⋯,SU.mpr ⟨j - (i+1),S6.mpr ⋯,by simp;omega⟩⟩
theorem oC:∀t:Tz,XD n t->wf (WA n) (Yv t)
 | .no,_=>trivial| .one i,_=>trivial| .ask i j a b,⟨⟨L,hi,P⟩,J,H⟩=>by
  unfold inr at hi P;simp only[Yv];split
  .exact⟨nh ⋯ ⋯,oC a J,oC b H⟩
  .exact⟨nh ⋯ ⋯,oC a J,oC b H⟩
theorem uw:∀t:Tz,dep (Yv t)=WU t
 | .no=>rfl| .one i=>rfl| .ask i j a b=>by simp only[Yv,WU];split<;>simp only[dep,uw a,uw b]<;>omega
theorem qp(s:Ő):∀t:Tz,gy s (Yv t)=led s t
 | .no=>rfl| .one i=>rfl| .ask i j a b=>by
  have e:led s (.ask i j a b)=if s.getD i.toNat 0=s.getD j.toNat 0 then led s a else led s b:=rfl
  rw[e];simp only[Yv];split
  .simp only[gy,qp s a,qp s b]
  .simp only[gy,qp s a,qp s b];by_cases h:s.getD i.toNat 0=s.getD j.toNat 0
   .rw[if_pos h,if_pos h.symm]
   .rw[if_neg h,if_neg fun z=>h z.symm]
def D4(F:χ n n N)(hd:WU t<N):¬À n t:=by
 rintro⟨hw,P⟩;obtain⟨x,J,L⟩:=B9 (WU t) _ (B4 F.pos) (F.no _ hd) (Yv t) (oC t hw) (by rw[uw];omega);have H:=S6.mp J;refine L ?_;have e1:(eP n n).getD x []=(eP n n)[x]:=by rw[So,Sq H];rfl
 have e2:(fN n n).getD x []=hE (eP n n)[x]:=by rw[So];simp[fN,H]
 rw[e1,e2,qp];exact P _ (TC H)
def nP(a:An):An:=(a.2.1,a.1,a.2.2)
def Tu:ś->ś->Prop
 | [],[]=>True|a::l,b::m=>(b=a\/b=nP a)/\Tu l m|_,_=>False
theorem Tu.app(h:b=a\/b=nP a):∀{l m:ś},Tu l m->Tu (l++[a]) (m++[b])
 | [],[],_=>⟨h,trivial⟩|_::_,_::_,⟨J,H⟩=>⟨J,Tu.app h H⟩| [],_::_,z=>z.elim|_::_,[],z=>z.elim
def Ih(s:Ő)(a:An):fX s [nP a]=fX s [a]:=by unfold fX nP;simp only[VA,List.all_nil];congr 2;rw[Tj];simp only[SJ];exact⟨fun h=>h.symm,fun h=>h.symm⟩
def Bj(s:Ő)(a:An)(l:ś):fX s (a::l)=(fX s [a]&&fX s l):=by unfold fX;simp
theorem Tu.fit(s:Ő):∀{l m:ś},Tu l m->fX s m=fX s l
 | [],[],_=>rfl|a::l,b::m,⟨J,H⟩=>by
  rw[Bj,Bj s a,Tu.fit s H];rcases J with rfl|rfl
  .rfl
  .rw[Ih]
 | [],_::_,z=>z.elim|_::_,[],z=>z.elim
theorem Tu.ok:∀{l m:ś},Tu l m->Xi n l->Xi n m
 | [],[],_,h=>h|a::l,b::m,⟨L,J⟩,h=>by
  intro c H;rcases SI.mp H with rfl|H
  .have:=h a nofun;rcases L with rfl|rfl
   .exact this
   .exact⟨this.2.1,this.1,Ne.symm this.2.2⟩
  .exact Tu.ok J (fun d hd=>h d<|by simp[hd]) c H
 | [],_::_,z,_=>z.elim|_::_,[],z,_=>z.elim
def Tu.fits(h:Tu l m):fe n m=fe n l:=by unfold fe;exact List.filter_congr fun s _=>h.fit s
def į(n:Nat)(as:ś):Prop:=Xi n as/\fe n as≠[]/\iJ (fe n as)=none/\fj as=true
def Qc(h:Tu l m)(F:Xi n l)(S:fj l=true)(he:(iJ<|fe n l).isNone=true):į n m:=by
 have hf:fe n l≠[]:=fun z=>by have:=(pH (n:=n) (as:=l) F.inN).mp z;rw[S] at this;cases this
 refine⟨h.ok F,by rw[h.fits];exact hf,by rw[h.fits];exact Option.isNone_iff_eq_none.mp he,?_⟩;cases H:fj m with
 |true=>rfl|false=>
  have:=(pH (n:=n) (as:=m) (h.ok F).inN).mpr H;rw[h.fits] at this;exact absurd this hf
def atT:Tz->Nat×Nat
 | .ask i j _ _=>(i.toNat,j.toNat)|_=>(1,0)
def İ(b:Bool):Tz->Tz
 | .ask _ _ x y=>if b then x else y|t=>t
def Yw(t:Tz):Nat×Nat:=if(atT t).1<(atT t).2 then atT t else((atT t).2,(atT t).1)
def Mn(z:2<=n)(h:XD n t):Yw t∈WA n:=by
 cases t with
 |no=>exact(show(0,1)∈WA n from nh (by decide) ⋯)|one i=>exact(show(0,1)∈WA n from nh (by decide) ⋯)|ask i j a b=>
  obtain⟨⟨J,hi,L⟩,_⟩:=h;unfold inr at hi L;show(if i.toNat<j.toNat then(i.toNat,j.toNat) else(j.toNat,i.toNat))∈WA n;by_cases H:i.toNat<j.toNat
  .rw[if_pos H];exact nh H ⋯
  .rw[if_neg H];exact nh ⋯ ⋯
def Si(b:Bool)(h:XD n t):XD n (İ b t):=by
 cases t with
 |no=>exact h|one i=>exact h|ask i j x y=>cases b;exact h.2.2;exact h.2.1
def Rb{a:D}{xs ys:List D}{O:M}(h:xs.length+ys.length<1000):e9 (.tup<|a::xs) (.tup ys) O=some (.tup (a::xs++ys),O):=by show nR (.tup<|a::xs) (.tup ys) O=_;unfold nR;show(iz<|.tup ys).bind _=_;rw[show iz (.tup ys)=some ys from rfl,bs,if_pos ⟨by simp,by simp only[SO];omega⟩]
section
variable {O:M} {n h:Nat} {i j:Int} {a b:Tz}
theorem R':Yj (dZ<|.ask i j a b) none (some 3) O=some (.tup [.str "ask",.int i,.int j],O):=by rfl
structure Mt (n h:Nat) (e:Nat) (O:M) (d:D) (Z6:M):Prop where
 ex:∃u,d=dZ u/\XD n u/\WU u<=e
 hd:Hd Z6 h
 kp:Kp h O Z6
theorem Yy{ds:List D}{r:Nat}{v:D}(h:ds[r]?=some v):V6 (.lst ds) (.int (r:Int)) O=some (v,O):=oy h
def pz:Nat->List D->M->Fr
 |0=>fun _ _=>none|k+1=>sG i0 (pz k)
theorem Eb(h1:2<=n)(h7:n<=7):∀(m k:Nat) (O:M),k<m->Hd O h->Wp (pz m [.ref h,.int (n:Int),.int (k:Int)] O) fun d Z6=>Mt n h k O d Z6:=by
 intro m;induction m with
 |zero=>intro k O hk;omega|succ m ih=>
  intro k O hk hh;unfold pz sG vJ;refine(fB rfl).mpr ?_;show Ws (dH _ _ [some (.ref h),some (.int (n:Int)),some (.int (k:Int)),none,none,none] O) _;have leaf:∀P,Hd P h->Kp h O P->Wp (v2 V6 (vL eQ<|dz (vL eS<|dz (vC<|.str "one")<|dz (vL i0<|dz (be 0)<|dz (be 1) dD) dD)<|dz (vL eS<|dz (vC<|.str "none") dD) dD) (vL i0<|dz (be 0)<|dz (vC<|.int 2) dD) [some (.ref h),some (.int (n:Int)),some (.int (k:Int)),none,none,none] P) fun d Z6=>Mt n h k O d Z6:=by
   intro P H k1;simp!;refine(jl H ⋯ ⋯).imp ?_;rintro _ Z4 ⟨r,rfl,hr,S⟩;have J:=S.hd H;simp!;rw[fv nofun];simp!;rw[fv nofun];simp!;rw[fF nofun];simp!;refine(jl J ⋯ ⋯).imp ?_;rintro _ ZQ ⟨q,rfl,hq,F⟩;have L:=F.hd J;have kk:=(k1.trans S.kp).trans F.kp;have:q=0\/q=1:=by omega
   rcases this with rfl|rfl
   .simp!;rw[Yy rfl];simp!;exact⟨⟨.one (r:Int),rfl,⟨by omega,by omega⟩,Ta _⟩,L,kk⟩
   .simp!;rw[Yy rfl];simp!;exact⟨⟨.no,rfl,trivial,Ta _⟩,L,kk⟩
  simp only[qx,z8,Cb,Â,oY,yK,xG,om,nv,kM,xR,BJ,Ϧ];by_cases z:(k:Int)=0
  .rw[SK z];simp only[Af,yG,vt];refine(leaf O hh .refl).imp ?_;intro d Z6 m;simp!;exact m
  rw[Sw z];simp!;refine(jl hh ⋯ ⋯).imp ?_;rintro _ P ⟨w,rfl,hw,d1⟩;have H:=d1.hd hh;simp only[kM,xR,BJ,Ϧ,om,nv];by_cases w5:(w:Int)=5
  .rw[SK w5];simp only[yG,vt];refine(leaf P H d1.kp).imp ?_;intro d Z6 m;simp!;exact m
  rw[Sw w5];simp!;refine(jl H ⋯ ⋯).imp ?_;rintro _ Z4 ⟨x,rfl,hx,S⟩;have J:=S.hd H;simp!;refine(jl (m:=(n:Int) - 1) J ⋯ ⋯).imp ?_;rintro _ ZQ ⟨y,rfl,hy,F⟩;have L:=F.hd J;simp!;rw[LB ⋯];simp!;have ek:((k:Int) - 1)=((k - 1:Nat):Int):=by omega
  rw[ek];refine(ih (k - 1) ZQ ⋯ L).imp ?_;rintro _ Zx ⟨⟨u,rfl,hu,du⟩,þ,k4⟩;simp!;rw[ek];refine(ih (k - 1) Zx ⋯ þ).imp ?_;rintro _ Ze ⟨⟨v,rfl,hv,dv⟩,ý,k5⟩;simp!;rw[fv nofun];simp!;have hm1:0<=((x:Int)+1+(y:Int))%(n:Int):=Vi _ ⋯;have _w:((x:Int)+1+(y:Int))%(n:Int)<(n:Int):=UU _ ⋯;have Wz:(x:Int)≠((x:Int)+1+(y:Int))%(n:Int):=by
   by_cases hc:(x:Int)+1+(y:Int)<(n:Int)
   .rw[Int.emod_eq_of_lt ⋯ hc];omega
   .have e:((x:Int)+1+(y:Int))%(n:Int)=(x:Int)+1+(y:Int) - (n:Int):=by
     rw[←Int.sub_emod_right,Int.emod_eq_of_lt ⋯ ⋯]
    rw[e];omega
  exact⟨⟨.ask (x:Int) (((x:Int)+1+(y:Int))%(n:Int)) u v,rfl,⟨⟨Wz,⟨by omega,by omega⟩,⟨hm1,_w⟩⟩,hu,hv⟩,by simp only[WU];omega⟩,ý,(((d1.kp.trans S.kp).trans F.kp).trans k4).trans k5⟩
def qo:Nat->List D->M->Fr
 |0=>fun _ _=>none|k+1=>tS i0 (qo k)
theorem P7(h1:2<=n)(h7:n<=7):∀(m k:Nat) (t:Tz) (O:M),k<m->XD n t->Hd O h->Wp (qo m [.ref h,.int (n:Int),dZ t,.int (k:Int)] O) fun d Z6=>Mt n h k O d Z6:=by
 intro m;induction m with
 |zero=>intro k t O hk;omega|succ m S=>
  intro k t O hk ht P;unfold qo tS v7;refine(fB rfl).mpr ?_;show Ws (dH _ _ [some (.ref h),some (.int (n:Int)),some (dZ t),some (.int (k:Int)),none] O) _;cases t with
  |no=>
   simp![nj,xC];exact⟨⟨.no,rfl,trivial,Ta _⟩,P,.refl⟩
  |one x=>
   simp![nJ,uy];exact⟨⟨.one x,rfl,ht,Ta _⟩,P,.refl⟩
  |ask x y a b=>
   obtain⟨⟨F,hx,hy⟩,ha,hb⟩:=ht;simp![z0,xr];by_cases L:(k:Int)=0
   .rw[SK L];simp![z1];rw[fv nofun];simp!;rw[fv nofun];simp!;refine(jl P ⋯ ⋯).imp ?_;rintro _ Z5 ⟨r,rfl,hr,d1⟩;have J:=d1.hd P;simp!;rw[fv nofun];simp!;rw[fF nofun];simp!;refine(jl J ⋯ ⋯).imp ?_;rintro _ Z4 ⟨q,rfl,hq,d2⟩;have H:=d2.hd J;have z:=d1.kp.trans d2.kp;have:q=0\/q=1\/q=2:=by omega
    rcases this with rfl|rfl|rfl
    .simp!;rw[Yy rfl];simp!;exact⟨⟨.one x,rfl,hx,Ta _⟩,H,z⟩
    .simp!;rw[Yy rfl];simp!;exact⟨⟨.no,rfl,trivial,Ta _⟩,H,z⟩
    .simp!;rw[Yy rfl];simp!;exact⟨⟨.one (r:Int),rfl,⟨by omega,by omega⟩,Ta _⟩,H,z⟩
   .rw[Sw L];have ek:((k:Int) - 1)=((k - 1:Nat):Int):=by omega
    simp![z3];rw[ek];refine(S (k - 1) a O ⋯ ha P).imp ?_;rintro _ Z5 ⟨⟨u,rfl,hu,du⟩,J,k1⟩;simp![R',z4];rw[ek];refine(S (k - 1) b Z5 ⋯ hb J).imp ?_;rintro _ Z4 ⟨⟨v,rfl,hv,dv⟩,H,k2⟩;simp!;rw[fv nofun];simp!;rw[Rb nofun];simp!;exact⟨⟨.ask x y u v,rfl,⟨⟨F,hx,hy⟩,hu,hv⟩,by simp only[WU];omega⟩,H,k1.trans k2⟩
end
def Ps{i j:Nat}{B:G}{O:M}{ea eb:EV}{RI:List D×Ck->M->Prop}(h1:ea B O=some (.int ((i:Int)),O))(z:eb B O=some (.int (j:Int),O))(hi:i<=1000)(F:j<=1000)(h:RI ((List.range<|j - i).map fun k:Nat=>D.int ((i+k:Nat):Int),none) O):Wp (lS ea eb B O) RI:=by
 have H:((-1000000000:Int)<=(i:Int)/\(i:Int)<=1000000000)/\-1000000000<=(j:Int)/\(j:Int)<=1000000000:=by omega
 refine lI (O:=O) (a:=((List.range<|j - i).map fun k:Nat=>D.int ((i+k:Nat):Int),none)) ?_ h;rw[Dd,h1,AF,z,y7,if_pos H];have e2:((j:Int) - (i:Int)).toNat=j - i:=by omega
 rw[e2];unfold eT;congr 4
def GO{n:Nat}{O:M}(z:n<=100):qw [.int (n:Int)] O=some (.lst ((WA n).map dP),O):=by
 apply xJ;unfold qw wU;refine(fB rfl).mpr ?_;show Ws (dH _ _ [some (.int (n:Int)),none,none] O) _;simp!;rw[fF nofun];simp!;rw[lQ ⋯];simp!;have H:∀k,k<=n->(((List.range k).flatMap fun i=>(List.range<|n - (i+1)).map fun j=>(i,i+1+j))).length<=k*100:=by
  intro k;induction k with
  |zero=>simp|succ k L=>
   intro P;rw[Vj,UM,S9];have:=L ⋯;have S:(([k]:ř).flatMap fun i=>(List.range<|n - (i+1)).map fun j=>(i,i+1+j)).length=n - (k+1):=by rw[U9,List.flatMap_nil,Tq,Sv,TR]
   omega
 refine tE (fun k B Z6=>∃J,B=[some (.int (n:Int)),some (.lst<|((List.range k).flatMap fun i=>(List.range<|n - (i+1)).map fun j=>(i,i+1+j)).map dP),J]/\Z6=O) ⟨_,rfl,rfl⟩ ?_ ?_
 .rintro k B Z6 P ⟨J,rfl,rfl⟩;simp!;refine Ps (i:=k+1) (j:=n) rfl rfl ⋯ ⋯ ?_;rw[gz];refine⟨by simp;omega,?_⟩;refine gP (dn:=fun j:Nat=>D.int ((k+1+j:Nat):Int)) (keep:=fun _=>true) (val:=fun j=>dP (k,k+1+j)) (fun B=>∃o,B=[o,some (.int (k:Int))]) (show eL none Z6 from trivial) (List.range<|n - (k+1)) ⟨_,rfl⟩ ?_ ?_
  .rintro j F B ⟨o,rfl⟩;simp!;rw[fv nofun];simp!;exact⟨trivial,⟨_,rfl⟩,trivial,trivial,fun _=>⟨rfl,trivial⟩⟩
  .rw[TJ.mpr nofun];have:=H k ⋯;simp!;rw[mG (by rw[Sv,Sv,TR];omega)];simp!;refine⟨some (.int (k:Int)),?_,by first|trivial|rfl⟩;rw[Vj,UM,TN,U9,List.flatMap_nil,Tq,S5];rfl
 .rintro B Z6 ⟨J,rfl,rfl⟩;simp!;exact⟨by first|trivial|rfl,by first|trivial|rfl⟩
section
variable {O:M}
theorem AL(p:Nat×Nat):py 65 O (dP p)=some (.tuple [.int (p.1:Int),.int (p.2:Int)]):=rfl
theorem ET:∀l:ŕ,optAll (py 65 O) (l.map dP)=some (l.map fun p=>PyData.tuple [.int (p.1:Int),.int (p.2:Int)]):=fun l=>jm fun p _=>AL p
theorem yT:∀l:ŕ,PyData.canLayAll0 (l.map fun p=>PyData.tuple [.int (p.1:Int),.int (p.2:Int)])=true
 | []=>rfl|p::l=>by simp[PyData.canLayAll0,PyData.canLay0,yT l]
theorem Of(p q:Nat×Nat):PyData.eqv (.tuple [.int (p.1:Int),.int (p.2:Int)]) (.tuple [.int (q.1:Int),.int (q.2:Int)])=decide (p=q):=by obtain⟨a,b⟩:=p;obtain⟨c,d⟩:=q;rw[Tj];simp[PyData.eqv,PyData.eqvAll];omega
theorem Pt{l:ŕ}{p:Nat×Nat}(z:p∈l):∃q:Nat,rZ (.lst<|l.map dP) (dP p) O=some (.int (q:Int),O)/\l[q]?=some p:=by
 have L:(l.map fun p:Nat×Nat=>PyData.tuple [.int (p.1:Int),.int (p.2:Int)]).findIdx? (fun e=>PyData.eqv e<|.tuple [.int (p.1:Int),.int (p.2:Int)])=l.findIdx? fun e=>decide (e=p):=by rw[List.findIdx?_map];congr 1;funext e;exact Of e p
 have H:(l.findIdx? fun e=>decide (e=p)).isSome=true:=by rw[List.findIdx?_isSome];exact S7.mpr ⟨p,z,by simp⟩
 obtain⟨q,J⟩:=Tv.mp H;obtain⟨P,F,_⟩:=List.findIdx?_eq_some_iff_getElem.mp J;refine⟨q,?_,by rw[Sq P];simpa using F⟩;unfold rZ;have e1:fq O (.lst<|l.map dP)=some (l.map dP):=rfl;rw[e1,bs,ET,bs,AL,bs,if_pos (by simp[yT,PyData.canLay0,PyData.canLayAll0,PyData.depth,PyData.depthAll]),L,J];rfl
theorem Oq:We (XZ 0 p) (.tup []) O=some (.bl false,O):=by
 show(Wu (.tup []) (.tup []) O).bind _=_;have:Wu (.tup []) (.tup []) O=some true:=by show((py 65 O<|.tup []).bind fun d=>(py 65 O<|.tup []).bind fun e=>if(d.canLay0&&e.canLay0&&decide (d.depth<=64))=true then some (PyData.eqv d e) else none)=_;have po:py 65 O (.tup [])=some (.tuple []):=rfl;rw[po];simp[PyData.canLay0,PyData.canLayAll0,PyData.depth,PyData.depthAll,PyData.eqv,PyData.eqvAll]
 rw[this];rfl
end
def y1:(k:Nat)->Wg k->PyData
 |0,_=>.tuple []|k+1,(rows:List (Bool×Wg k))=>.list (rows.map fun r=>.tuple [.bool r.1,y1 k r.2])
theorem Ab{O:M}:∀(k:Nat) (p:Wg k) (j:Nat),2*k+1<=j->py j O (XZ k p)=some (y1 k p)
 |0,p,j,h=>by
  obtain⟨j,rfl⟩:∃i,j=i+1:=⟨j - 1,by omega⟩
  rfl
 |k+1,(rows:List (Bool×Wg k)),j,h=>by
  obtain⟨j,rfl⟩:∃i,j=i+2:=⟨j - 2,by omega⟩
  obtain⟨i,rfl⟩:∃i,j=i+1:=⟨j - 1,by omega⟩
  have:optAll (py (i+2) O) (rows.map<|dR k)=some (rows.map fun r=>PyData.tuple [.bool r.1,y1 k r.2]):=by refine jm fun r _=>?_;have H:=Ab (O:=O) k r.2 (i+1) ⋯;show(optAll (py (i+1) O) [.bl r.1,XZ k r.2]).bind _=_;have e:py (i+1) O (.bl r.1)=some (.bool r.1):=rfl;simp only[optAll,H,e,bs]
  show(optAll (py (i+2) O)<|rows.map<|dR k).bind _=_;rw[this];rfl
def XX{α:Type}{f:α->PyData}{l:List α}(h:∀x∈l,(f x).canLay0=true):PyData.canLayAll0 (l.map f)=true:=by
 induction l with
 |nil=>rfl|cons a l H=>simp[PyData.canLayAll0,h a nofun,H fun x J=>h x (by simp[J])]
def XY{α:Type}{f:α->PyData}{b:Nat}{l:List α}(h:∀x∈l,(f x).depth<=b):PyData.depthAll (l.map f)<=b:=by
 induction l with
 |nil=>simp[PyData.depthAll]|cons a l H=>
  have h1:=h a nofun;have L:=H fun x J=>h x (by simp[J]);simp only[Sz,PyData.depthAll];omega
theorem Aj:∀(k:Nat) (p:Wg k),(y1 k p).canLay0=true
 |0,_=>rfl|k+1,(rows:List (Bool×Wg k))=>by show PyData.canLayAll0 _=true;exact XX fun r _=>by simp[PyData.canLay0,PyData.canLayAll0,Aj k r.2]
theorem Cp:∀(k:Nat) (p:Wg k),(y1 k p).depth<=2*k+1
 |0,_=>by simp[y1,PyData.depth,PyData.depthAll]|k+1,(rows:List (Bool×Wg k))=>by
  have:=XY (f:=fun r:Bool×Wg k=>PyData.tuple [.bool r.1,y1 k r.2]) (b:=2*k+2) (l:=rows) fun r _=>by have:=Cp k r.2;simp[PyData.depth,PyData.depthAll];omega
  show(PyData.list _).depth<=_;simp only[PyData.depth];omega
def Fu{k:Nat}{p:Wg (k+1)}{O:M}(z:k<=20):We (XZ (k+1) p) (.tup []) O=some (.bl true,O):=by
 have e1:=Ab (O:=O) (k+1) p 65 ⋯;have e2:py 65 O (.tup [])=some (.tuple []):=rfl;have h1:=Aj (k+1) p;have H:=Cp (k+1) p;have:Wu (XZ (k+1) p) (.tup []) O=some false:=by show((py 65 O<|XZ (k+1) p).bind fun d=>(py 65 O<|.tup []).bind fun e=>if(d.canLay0&&e.canLay0&&decide (d.depth<=64))=true then some (PyData.eqv d e) else none)=_;rw[e1,e2,bs,bs,if_pos (by rw[h1];simp[PyData.canLay0,PyData.canLayAll0];omega)];rfl
 show(Wu (XZ (k+1) p) (.tup []) O).bind _=_;rw[this];rfl
section
variable {O:M} {n h k:Nat}
theorem N5(F:XD n u)(z:R (.tup [.int ((atT u).1:Int),.int ((atT u).2:Int)]) O)(S:B[1]?=some (some<|dZ u)):
  Wp (v2 V6 (vL eQ<|dz (i3 (be 1) (iS<|vC<|.int 1)<|iS<|vC<|.int 3)<|dz (vL eS<|dz (vC<|.int 1)<|dz (vC<|.int 0) dD) dD) (v1 lj<|v2 We (v2 V6 (be 1)<|vC<|.int 0)<|vC<|.str "ask") B O) R:=by
 have H:∀R:D->M->Prop,Wp (be 1 B O) R↔R (dZ u) O:=fun R=>Hm S;simp only[oY,vh,BR,B6,H,zt,Eg,nv,B1,DB,za,Cy,BJ,Ë,wS,qB,Ϩ];rw[fv nofun];simp only[BJ,Ë,wS,qB,Ϩ];rw[fF nofun];simp only[BJ,om,El,oY,H,nv,kM,Ϗ];cases u with
 |no=>
  simp only[nj,BJ,om,kM,nv,xC,Ϗ,sm,if_true];rw[show(1:Int)=((1:Nat):Int) from rfl,Yy rfl];exact BJ.mpr z
 |one i=>
  simp only[nJ,BJ,om,kM,nv,uy,Ϗ,sm,if_true];rw[show(1:Int)=((1:Nat):Int) from rfl,Yy rfl];exact BJ.mpr z
 |ask i j a b=>
  obtain⟨⟨L,hi,J⟩,_⟩:=F;unfold inr at hi J;simp only[z0,BJ,om,kM,nv,xr,Ϗ,sm,SN,if_false];rw[show(0:Int)=((0:Nat):Int) from rfl,Yy rfl];refine BJ.mpr ?_;have e1:((atT<|.ask i j a b).1:Int)=i:=Uo hi.1;have P:((atT<|.ask i j a b).2:Int)=j:=Uo J.1;rw[e1,P] at z;exact z
theorem QZ(u:Tz):D.tup [.int (if((atT u).2:Int)<((atT u).1:Int) then((atT u).2:Int) else((atT u).1:Int)),.int (if((atT u).2:Int)>((atT u).1:Int) then((atT u).2:Int) else((atT u).1:Int))]=dP (Yw u):=by
 unfold Yw dP;by_cases h:(atT u).1<(atT u).2
 .rw[if_pos h,if_neg ⋯,if_pos ⋯]
 .rw[if_neg h,if_neg (show ¬((atT u).2:Int)>((atT u).1:Int) by omega)];by_cases H:(atT u).2<(atT u).1
  .rw[if_pos ⋯]
  .have:(atT u).1=(atT u).2:=by omega
   rw[if_neg ⋯,this]
theorem LZ(u:Tz)(b:Bool):((atT u).1,(atT u).2,b)=((Yw u).1,(Yw u).2,b)\/((atT u).1,(atT u).2,b)=nP ((Yw u).1,(Yw u).2,b):=by
 unfold Yw nP;by_cases h:(atT u).1<(atT u).2
 .rw[if_pos h];exact .inl rfl
 .rw[if_neg h];exact .inr rfl
abbrev yc:C0:=tO qw
theorem NT(h2:2<=n)(hn:n<=7)(hs:Sh n k p)(hw:XD n t)(hl:gQ n k [] p=true)(hk:k<=8):Wp (yc [.int (n:Int),dZ t,XZ k p] O) fun d Z6=>∃as,d=.ref O.length/\Z6=O++[some (.lst<|as.map dA)]/\į n as/\as.length=k:=by
 unfold yc tO wk;refine(fB rfl).mpr ?_;show Ws (dH _ _ [some (.int (n:Int)),some (dZ t),some (XZ k p),none,none,none,none,none] O) _;simp!;rw[xw nofun];simp![GO (show n<=100 by omega)];refine sJ (fun m B Z6=>∃(p:Wg m) (u:Tz) (l as:ś) (o5 o6 o7:Option D),B=[some (.int (n:Int)),some (dZ u),some (XZ m p),some (.ref O.length),some (.lst<|(WA n).map dP),o5,o6,o7]/\Z6=O++[some (.lst<|as.map dA)]/\Tu l as/\Xi n l/\gQ n m l p=true/\Sh n m p/\XD n u/\as.length+m=k) k 1000000 ⟨p,t,[],[],_,_,_,rfl,rfl,trivial,(fun a ha=>by cases ha),hl,hs,hw,by simp⟩ ⋯ ?_;rintro m B Z6 ⟨p,u,l,as,o5,o6,o7,rfl,rfl,hT,hO,hL,hS,hu,hlen⟩;cases m with
 |zero=>
  simp!;rw[fv nofun];simp![Oq,SN,if_false];have J:(fj l&&(iJ<|fe n l).isNone)=true:=hL;rw[SG] at J;exact⟨as,by first|rfl|trivial,by first|rfl|trivial,Qc hT hO J.1 J.2,by omega⟩
 |succ m=>
  obtain⟨rows,rfl⟩:∃rows:List (Bool×Wg m),rows=p:=⟨p,rfl⟩
  have Wz:∀O:M,We (XZ (m+1) rows) (.tup []) O=some (.bl true,O):=fun O=>Fu (p:=rows) ⋯;simp only[Â,oY,yK,xG,om,vh,qB,Ϩ];rw[fv nofun];simp only[BJ,kM,Wz,Ϧ,if_true];rw[qx,uD];refine N5 hu ?_ ?_;rotate_left
  .rfl
  refine(js rfl).mpr ?_;simp!;refine(Bc).mpr ?_;simp!;rw[fv nofun,QZ];simp!;have L:=Mn h2 hu;obtain⟨q,e1,e2⟩:=Pt (O:=O++[some (Z9.lst<|as.map dA)]) L;rw[e1];simp!;obtain⟨hS1,hS2⟩:=hS;have _q:q<rows.length:=by rw[hS1];exact(Sn.mp e2).1
  have H:rows[q]?=some (rows[q]):=Sq _q;generalize rows[q]=r at H;have P:r∈rows:=T8 H;rw[z9,Yy (v:=dR m r) (by rw[S0,H];rfl)];simp!;refine(js rfl).mpr ?_;simp!;refine(wN (ds:=as.map dA) nofun).mpr ?_;simp!;rw[fv nofun];simp!;rw[Ce (by rw[Sv];omega)];simp!;have J:(fj l&&((WA n).zip rows).all fun x=>gQ n m (l++[(x.1.1,x.1.2,x.2.1)]) x.2.2)=true:=hL;rw[SG,S2] at J;have hz:(Yw u,r)∈(WA n).zip rows:=T8 (by rw[List.getElem?_zip_eq_some];exact⟨e2,H⟩);have hL3:=J.2 _ hz;have ea:as.map dA++[D.tup [.int ((atT u).1:Int),.int ((atT u).2:Int),.bl r.1]]=(as++[((atT u).1,(atT u).2,r.1)]).map dA:=by simp[dA]
  rw[ea];have ok:=yi L;have hO2:Xi n (l++[((Yw u).1,(Yw u).2,r.1)]):=by
   intro a ha;rcases S8.mp ha with z|z
   .exact hO a z
   .cases To.mp z;exact ok
  have fin:∀v,v=İ r.1 u->∃S,S<m+1/\∃(p':Wg S) (u':Tz) (l' F:ś) (o5 o6 o7:Option D),[some (D.int (n:Int)),some (dZ v),some (XZ m r.2),some (.ref O.length),some (.lst<|(WA n).map dP),some (.int ((atT u).1:Int)),some (.int ((atT u).2:Int)),some (.bl r.1)]=[some (.int (n:Int)),some (dZ u'),some (XZ S p'),some (.ref O.length),some (.lst<|(WA n).map dP),o5,o6,o7]/\O++[some (Z9.lst<|(as++[((atT u).1,(atT u).2,r.1)]).map dA)]=O++[some (.lst<|F.map dA)]/\Tu l' F/\Xi n l'/\gQ n S l' p'=true/\Sh n S p'/\XD n u'/\F.length+S=k:=by rintro v rfl;exact⟨m,by omega,r.2,_,_,_,_,_,_,rfl,rfl,hT.app (LZ u r.1),hO2,hL3,hS2 r P,Si r.1 hu,by simp;omega⟩
  cases u with
  |no=>
   simp![nj,vD];exact fin _ rfl
  |one i=>
   simp![nJ,uR];exact fin _ rfl
  |ask i j a b=>
   simp![z0,vy];rw[fF nofun];simp!;cases hb:r.1 with
   |true=>
    rw[hb] at fin;simp![if_true];rw[show(1:Int)=((1:Nat):Int) from rfl,Yy (ds:=[.int 4,.int 3]) (r:=1) rfl];simp![z3];exact fin a rfl
   |false=>
    rw[hb] at fin;simp![SN,if_false];rw[show(0:Int)=((0:Nat):Int) from rfl,Yy (ds:=[.int 4,.int 3]) (r:=0) rfl];simp![z4];exact fin b rfl
end
def oG(n k:Nat):Bool:=match pb n k [] with
 |none=>false|some p=>gQ n k [] p
def Lr:oG 2 0=true:=by decide +kernel
def KQ:oG 3 2=true:=by decide +kernel
def J8:oG 4 3=true:=by decide +kernel
theorem Dt{α β:Type}{f:α->Option β}:∀{l:List α} {r:List β},iW f l=some r->r.length=l.length/\∀y∈r,∃a∈l,f a=some y
 | [],r,h=>by cases h;exact⟨rfl,fun y H=>by cases H⟩
 |a::l,r,h=>by
  simp only[iW] at h;cases L:f a with
  |none=>rw[L] at h;cases h
  |some b=>
   rw[L] at h;cases J:iW f l with
   |none=>rw[J] at h;cases h
   |some q=>
    rw[J] at h;cases h;obtain⟨F,z⟩:=Dt J;refine⟨by simp[F],fun y H=>?_⟩;rcases SI.mp H with rfl|H
    .exact⟨a,by simp,L⟩
    .obtain⟨c,P,e⟩:=z y H;exact⟨c,by simp[P],e⟩
def Kr{β:Type}{f:Bool->Option β}{x:Bool×β}(h:gR f=some x):f x.1=some x.2:=by
 unfold gR at h;cases h1:f true with
 |some r=>rw[h1] at h;cases h;exact h1
 |none=>
  rw[h1] at h;cases H:f false with
  |some r=>rw[H] at h;cases h;exact H
  |none=>rw[H] at h;cases h
theorem Ao{n:Nat}:∀(k:Nat) (as:ś) (p:Wg k),pb n k as=some p->Sh n k p
 |0,_,_,_=>trivial|k+1,as,(p:List (Bool×Wg k)),h=>by
  have H:pb n (k+1) as=if fj as then(iW (fun p=>gR fun b=>pb n k<|as++[(p.1,p.2,b)]) (WA n):Option (List<|Bool×Wg k)) else none:=rfl
  rw[H] at h;cases J:fj as with
  |false=>rw[J] at h;cases h
  |true=>
   rw[J,if_pos rfl] at h;obtain⟨z,P⟩:=Dt h;refine⟨z,fun r L=>?_⟩;obtain⟨a,_,e⟩:=P r L;exact Ao k _ _ (Kr e)
def MM:∀n<5,∀s∈eP n n,(fR s).length<=1000:=by decide +kernel
def Pr:cs (WA 2).length 2<=15000000:=by decide +kernel
def LJ:cs (WA 3).length 4<=15000000:=by decide +kernel
def KH:cs (WA 4).length 5<=15000000:=by decide +kernel
structure Kz (n k:Nat) (p:Wg k):Prop where
 n2:2<=n
 n4:n<=4
 k3:k<=3
 few:χ n n (k+1)
 cs:cs (WA n).length (k+1+1)<=15000000
 is:pb n k []=some p
 lt:gQ n k [] p=true
def wm{n k:Nat}(h:oG n k=true)(n2:2<=n)(n4:n<=4)(k3:k<=3)(few:χ n n (k+1))(cs:cs (WA n).length (k+1+1)<=15000000):∃p,Kz n k p:=by
 unfold oG at h;cases H:pb n k [] with
 |none=>rw[H] at h;cases h
 |some p=>rw[H] at h;exact⟨p,n2,n4,k3,few,cs,H,h⟩
def EQ{n:Nat}(n2:2<=n)(n4:n<=4):∃k p,Kz n k p:=by
 have:n=2\/n=3\/n=4:=by omega
 rcases this with rfl|rfl|rfl
 .exact⟨0,wm Lr (by decide) (by decide) (by decide) MZ Pr⟩
 .exact⟨2,wm KQ (by decide) (by decide) (by decide) LO LJ⟩
 .exact⟨3,wm J8 (by decide) (by decide) (by decide) HZ KH⟩
section
variable {CS C CF CT:Addr} {n k:Nat} {O:M}
abbrev rH(CS C CT:Addr):FX:=tG (j8 C CT) (uI CS CT) (.int 5)
def wA(CS C CF CT:Addr):C0:=sI (dn<|j8 C CT) (dn<|rH CS C CT) (Θ C CF CT 10) (.int 4) (.int 2)
theorem xb(h:Kz n k p):Wp (dn (rH CS C CT) [.int (n:Int)] O) fun d Z6=>(∃t,d=.tup [.int ((k+1:Nat):Int),nU t])/\Gr O Z6:=by obtain⟨t,H⟩:=h.few.yes;have P:=h.n2;have J:=h.n4;have L:=h.k3;refine k9 ?_;unfold rH tG wv;refine(ph rfl).mpr ?_;show Wt (fS _ _ [some (.int (n:Int))] O) _;simp!;refine(xu ⋯ ⋯).imp ?_;rintro _ O ⟨rfl,rfl⟩;simp!;refine(GR (C:=CS) (CT:=CT) (m:=n) ⋯ ⋯ (MM n ⋯) h.few h.cs H).imp ?_;rintro _ z ⟨rfl,g⟩;simp!;exact⟨_,rfl,⟨t,rfl⟩,g⟩
theorem Hs(h:Kz n k p):Wp (wA CS C CF CT [.int (n:Int)] O) fun d Z6=>d=XZ k p/\Gr O Z6:=by
 have F:=h.n2;have P:=h.n4;have z:=h.k3;unfold wA sI wC;refine(fB rfl).mpr ?_;show Ws (dH _ _ [some (.int (n:Int)),none,none] O) _;simp!;refine k9 ((xu (CN:=C) (CT:=CT) (n:=n) (O:=O) (lo:=2) (hi:=4) ⋯ ⋯).imp ?_);rintro _ Z5 ⟨rfl,rfl⟩;refine⟨_,rfl,?_⟩;simp!;refine(xb h).imp ?_;rintro _ L ⟨⟨t,rfl⟩,J⟩;refine(js rfl).mpr ?_;simp!;rw[fF nofun];simp!;have ek:(((k+1:Nat):Int) - 1)=(k:Int):=by omega
 rw[ek];refine(GT (n:=n) ⋯ (xX n ⋯) k [] L 10 ⋯ (fun a h=>by simp at h) (by simp;omega)).imp ?_;rintro _ S ⟨rfl,H⟩;simp!;rw[h.is];exact⟨rfl,J.trans H⟩
abbrev Il:C0:=qu 12
abbrev JW:C0:=pz 10
abbrev Rg:C0:=qo 10
def xZ(CS C CF CT:Addr):C0:=tz oN i0 (dn<|rH CS C CT) (wA CS C CF CT) (wG C CF CT) oA Il JW Rg wB (D' C CT) yc (dn<|kn C) (dn<|oo C CF CT)
theorem Ma:∀n<8,(Xx n).length≠0:=by decide +kernel
theorem HE(n:Nat)(h:n<8):Xx n≠[]:=fun z=>Ma n h (by rw[z];rfl)
theorem Hv(S:Ls O d (as.map dA))(z:Xi n as)(F:as.length<=1000):Wp (dn (kn C) [.int (n:Int),d] O) fun d Z6=>d=.bl (fj as)/\Gr O Z6:=by obtain⟨Z6,e,g⟩:=xS (C:=C) (O:=O) S z F;exact k9 ⟨_,_,e,_,rfl,rfl,g⟩
theorem GI(hl:Ls O d (as.map dA))(z:Xi n as)(F:as.length<=1000)(S:n<=7)(hf:fe n as≠[]):Wp (dn (oo C CF CT) [.int (n:Int),d] O) fun d Z6=>d=gI (iJ<|fe n as)/\Gr O Z6:=by obtain⟨Z6,e,g⟩:=CV (C:=C) (CF:=CF) (CT:=CT) (O:=O) hl z F S hf;exact k9 ⟨_,_,e,_,rfl,rfl,g⟩
theorem Fv:We (gI none) (.tup [.str "open"]) O=some (.bl false,O):=by
 have J:PyData.strOk "open"=true:=by decide +kernel
 have po:py 65 O (gI none)=some (.tuple [.str "open"]):=rfl;have H:py 65 O (.tup [.str "open"])=some (.tuple [.str "open"]):=rfl;have:Wu (gI none) (.tup [.str "open"]) O=some true:=by show((py 65 O<|gI none).bind fun d=>(py 65 O<|.tup [.str "open"]).bind fun e=>if(d.canLay0&&e.canLay0&&decide (d.depth<=64))=true then some (PyData.eqv d e) else none)=_;rw[po,H];simp[PyData.canLay0,PyData.canLayAll0,PyData.depth,PyData.depthAll,PyData.eqv,PyData.eqvAll,J]
 show(Wu (gI none) (.tup [.str "open"]) O).bind _=_;rw[this];rfl
theorem Ry:∀n<5,∀s∈Xx n,∀e∈lE s,e∈hE s:=by decide +kernel
end
section
variable {CS C CF CT:Addr}
theorem IX(ns:Ő)(_:ns.length<=63):∃Z6,xZ CS C CF CT [.scr (ns.map D.int)] []=some (.bl true,Z6):=by
 suffices h:Wp (xZ CS C CF CT [.scr (ns.map D.int)] []) fun d _=>d=.bl true by obtain⟨d,Z6,e,rfl⟩:=h;exact⟨Z6,e⟩
 have hp:m9 (.int 10) (.int 18) []=some (.int (10^18),[]):=by
  have h1:jZ 10 18:=by unfold jZ;decide
  simp[h1]
 have _k:Yj (.scr<|ns.map D.int) none (some 8) []=some (.lst ((ns.take 8).map D.int),[]):=by show some (D.lst (j6 (ns.map D.int) none<|some 8),([]:M))=_;unfold j6;rw[HT.sIx_none,show(some (8:Int))=some ((8:Nat):Int) from rfl,HT.sIx_nat,List.drop_zero,Nat.sub_zero,Sv,←List.map_take,List.take_eq_take_min (i:=8)]
 unfold xZ tz uU;refine(fB rfl).mpr ?_;show Ws (dH _ _ [some (.scr<|ns.map D.int),none,none,none,none,none,none,none,none,none] []) _;simp![hp];rw[fF nofun];simp![_k];rw[mG (by simp;omega)];simp!;refine jD (fun r B _=>∃(l:Ő) (o1 o2 o3 o4 o5 o6 o7 z P:Option D),r=l.map D.int/\B=[some (.scr<|ns.map D.int),o1,o2,o3,o4,o5,o6,o7,z,P]) _ ⟨(10^18:Int)::ns.take 8,_,_,_,_,_,_,_,_,_,rfl,rfl⟩ ?_ ?_
 .rintro d r B O ⟨l,o1,o2,o3,o4,o5,o6,o7,z,P,H,rfl⟩;cases l with
  |nil=>cases H
  |cons c l=>
   rw[Sz] at H;injection H with h3 h4
   subst h3 h4;simp!;obtain⟨a,b,eh⟩:=Qp c O;refine lI eh ?_;have d1:Hd (O++[some (.lst [.int a,.int b])]) O.length:=Rp;generalize O++[some (Z9.lst [.int a,.int b])]=Z5 at d1;generalize O.length=h at d1;simp!;refine(jl (m:=3) d1 (by decide)<|by decide).imp ?_;rintro _ Z4 ⟨r,rfl,hr3,dn2⟩;have d2:=dn2.hd d1;obtain⟨n,hn,n2,n4⟩:∃n:Nat,(2:Int)+(r:Int)=(n:Int)/\2<=n/\n<=4:=⟨2+r,by omega,by omega,by omega⟩
   obtain⟨k,p,K⟩:=EQ n2 n4;have k3:=K.k3;have ĺ:Sh n k p:=Ao k [] p K.is;have hp2:=xX n ⋯;simp!;rw[hn];refine(xb K).imp ?_;rintro _ ZQ ⟨⟨t0,rfl⟩,g3⟩;have d3:=d2.gr g3;simp!;rw[show(0:Int)=((0:Nat):Int) from rfl,jk (j:=0) rfl];simp!;have ek:(((k+1:Nat):Int) - 1)=(k:Int):=by omega
   rw[ek];refine(Hs K).imp ?_;rintro _ Zx ⟨rfl,g4⟩;have d4:=d3.gr g4;simp!;refine(HK n2 n4 hp2 ⋯ ĺ).imp ?_;rintro _ Ze ⟨rfl,g5⟩;have d5:=d4.gr g5;simp![K.lt,wZ,U1,SS];refine(Iw (n:=n) (m:=n) ⋯ ⋯).imp ?_;rintro _ Y9 ⟨rfl,rfl⟩;simp!;rw[Jh n ⋯];have hfo:=Mh (n:=n) ⋯ (Xx n);refine(Gz (n:=n) ⋯ 12 (Xx n) Y9 ⋯ (HE n ⋯) (fun s hs=>Bk hs) (by have:=Cf (n:=n) ⋯;omega) d5).imp ?_;rintro _ Y8 ⟨gd,rfl,J,d7,kp7⟩;have gdd:=J.dep;simp!;refine(Eb n2 ⋯ 10 k Y8 ⋯ d7).imp ?_;rintro _ Y7 ⟨⟨u1,rfl,w1,e1⟩,d8,kp8⟩;simp!;refine(Eb n2 ⋯ 10 k Y7 ⋯ d8).imp ?_;rintro _ Y6 ⟨⟨u2,rfl,w2,e2⟩,d9,kp9⟩;simp!;rw[fF nofun];simp!;refine(P7 n2 ⋯ 10 k gd Y6 ⋯ J.nm d9).imp ?_;rintro _ Y0 ⟨⟨u3,rfl,w3,e3⟩,J',kp10⟩;simp!;rw[fF nofun];simp!;rw[mG nofun];simp!;refine jD (fun r B _=>∃(L:List Tz) (z P:Option D),r=L.map dZ/\(∀u∈L,XD n u/\WU u<=k)/\B=[some (.scr<|ns.map D.int),some (.int c),some (.ref h),some (.int (n:Int)),some (.int (k:Int)),some (XZ k p),some (dZ gd),some (.lst [dZ u1,dZ u2]),z,P]) _ ⟨[u1,u2,u3],_,_,rfl,?_,rfl⟩ ?_ ?_
   .intro u hu;simp only[SI,Ud,VE] at hu;rcases hu with rfl|rfl|rfl
    .exact⟨w1,e1⟩
    .exact⟨w2,e2⟩
    .exact⟨w3,e3⟩
   .rintro d r B Y5 ⟨L,z,P,H,F,rfl⟩;cases L with
    |nil=>cases H
    |cons u L=>
     rw[Sz] at H;injection H with h5 h6
     subst h5 h6;obtain⟨wu,eu⟩:=F u nofun;simp!;refine(zW (t:=u) ⋯).imp ?_;rintro _ Y4 ⟨rfl,rfl⟩;simp!;rw[Sw ⋯];simp!;refine(BS (CN:=C) (CT:=CT) (n:=n) (t:=u) ⋯ ⋯).imp ?_;rintro _ Zj ⟨rfl,g13⟩;have _u:¬À n u:=D4 K.few ⋯;simp![wZ,_u,UI,U1,SS];refine(NT n2 ⋯ ĺ wu K.lt ⋯).imp ?_;rintro _ Y3 ⟨as,rfl,rfl,⟨S,XJ,YA,Xh⟩,hal⟩;have Ł:Ls (Zj++[some (Z9.lst<|as.map dA)]) (.ref Zj.length) (as.map dA):=Ls.ref nofun;simp!;refine(Hv Ł S ⋯).imp ?_;rintro _ YZ ⟨rfl,g15⟩;simp![Xh,SS];refine(GI (Ł.gr g15) S ⋯ ⋯ XJ).imp ?_;rintro _ YY ⟨rfl,g16⟩;rw[YA];simp!;rw[fv nofun];simp![Fv];exact⟨trivial,L,_,_,rfl,fun v hv=>F v (by simp[hv]),rfl⟩
   .rintro B Y5 ⟨L,z,P,H,F,rfl⟩;have hf:À n gd:=⟨J.nm,fun s hs=>Ry n ⋯ s hs _<|J.led s hs⟩
    simp!;refine(BS (CN:=C) (CT:=CT) (n:=n) (t:=gd) ⋯ ⋯).imp ?_;rintro _ Y4 ⟨rfl,g12⟩;simp![wZ,hf,U1,SS];refine(zW (t:=gd) ⋯).imp ?_;rintro _ Zj ⟨rfl,rfl⟩;simp!;refine(xb K).imp ?_;rintro _ Y3 ⟨⟨t1,rfl⟩,g14⟩;simp!;rw[jk (j:=0) rfl];simp!;have hge:k+1<=WU gd:=by
     by_cases hlt:WU gd<k+1
     .exact absurd hf (D4 K.few hlt)
     .omega
    rw[Sw ⋯];simp!;exact⟨trivial,l,_,_,_,_,_,_,_,_,_,rfl,rfl⟩
 .rintro B O ⟨l,o1,o2,o3,o4,o5,o6,o7,z,P,H,rfl⟩;simp!
end
theorem all_mk{l:PySem.W.OpenLaw}{w:World}{K:Frag}{h:Heap}{mg:œ}{fa f1 f2 f3 f4 f5 f6 f7 f8 f9 cO ci b9 cY da b5 de c8 dh dg ce b7 dc dj cy b6 bY bT bZ bU cf bP ck cW bR bS cK bV cS cT c4 dl cF c9 cg cB c7 cz ac aB aC S:Addr}{d1 d2 d3 d4 d5 d6 d7 d8 d9 J' cH cn cX db bX dk cA ca cZ dq cU df cN cb cv cM cD bW cG cw cx cR cj bQ cq cC cP b0 cp b8 dr dt di cu cQ cr bE:FuncData}(X:K.In h)(G:h.Ns mainGlobals mg)(c3:mg "law"=some (.ref fa))
  (aA:Ng K "Search" (.ref ac))
  (au:Ng K "NoThing" (.ref aB))
  (aD:Ng K "NoFit" (.ref aC))
  (av:Ng K "TooMany" (.ref S))
  (A1:Gf K "check_things" (top 16) f1 d1)
  (A2:Gf K "moved" (top 17) f2 d2)
  (A3:Gf K "homes_of" (top 18) f3 d3)
  (A4:Gf K "can_be" (top 19) f4 d4)
  (A5:Gf K "check_right" (top 20) f5 d5)
  (A6:Gf K "fits" (top 21) f6 d6)
  (A7:Gf K "one_thing_more" (top 9) f7 d7)
  (A8:Gf K "all_sorts" (top 10) f8 d8)
  (A9:Gf K "sorts_that_fit" (top 22) f9 d9)
  (bw:Gf K "alike_things" (top 7) cO J')
  (bF:Gf K "more_than_half" (top 8) ci cH)
  (bK:Gf K "half_ends" (top 13) b9 cn)
  (bi:Gf K "common_end" (top 14) cY cX)
  (bf:Gf K "tells" (top 23) da db)
  (bt:Gf K "pairs_of" (top 25) b5 bX)
  (bJ:Gf K "check_many" (top 27) de dk)
  (a7:Mf K ac "__init__" "Search.__init__" (i7 (top 29) 0) c8 cA)
  (bN:Mf K ac "tree_asking" "Search.tree_asking" (i7 (top 29) 3) dh ca)
  (bL:Mf K ac "new_tree" "Search.new_tree" (i7 (top 29) 2) dg cZ)
  (aO:Mf K ac "tree_within" "Search.tree_within" (i7 (top 29) 1) ce dq)
  (bh:Gf K "fewest_asks" (top 30) b7 cU)
  (aZ:Gf K "fewest_of" (top 39) dc df)
  (bp:Gf K "fewest" (top 40) dj cN)
  (a8:Gf K "branches" (top 33) cy cb)
  (bz:Gf K "names_things" (top 34) b6 cv)
  (bd:Gf K "names_things_throughout" (top 35) bY cM)
  (bC:Gf K "end_for" (top 36) bT cD)
  (bB:Gf K "finds_out" (top 37) bZ bW)
  (bM:Gf K "depth" (top 38) bU cG)
  (a9:Gf K "is_row" (top 44) cf cw)
  (bH:Gf K "is_paper_of" (top 45) bP cx)
  (aJ:Gf K "is_let_by" (top 46) ck cR)
  (bu:Gf K "holds" (top 47) cW cj)
  (bI:Gf K "row_behind" (top 48) bR bQ)
  (aN:Gf K "paper_behind" (top 49) bS cq)
  (bA:Gf K "holding_paper" (top 50) cK cC)
  (bn:Gf K "_law_hand" (top 52) bV cP)
  (bG:Gf K "_law_take" (top 53) cS b0)
  (bj:Gf K "_law_sorts" (top 54) cT cp)
  (br:Gf K "_law_half" (top 55) c4 b8)
  (bg:Gf K "_law_pairs" (top 56) dl dr)
  (aS:Gf K "_law_tree" (top 57) cF dt)
  (aH:Gf K "_law_any" (top 58) c9 di)
  (aL:Gf K "_law_cut" (top 59) cg cu)
  (bO:Gf K "_law_pairs_of" (top 60) cB cQ)
  (bD:Gf K "_law_answers" (top 61) c7 cr)
  (aI:Gf K "law" (top 62) cz bE)
  {dw:Tok} (ak:Ng K "MOST_THINGS" (.int 7 dw))
  {aw:Addr} {aq:Obj} {cm:Tok} {aP:Nat} (aK:Ng K "OPEN" (.ref aw)) (aQ:K.lookup aw=some aq) (ap:aq.cls=.type "tuple") (am:aq.data=.seq #[.str "open" cm] aP)
  {cI:Tok} (ah:Ng K "MOST_SEARCHED" (.int 5 cI))
  {cJ:Tok} (ae:Ng K "GREATEST_THINGS" (.int 4 cJ))
  {cV:Tok} (ai:Ng K "LEAST_THINGS" (.int 2 cV))
  (aV:Nn K "all")
  (aX:Nn K "max")
  (aU:Nn K "min")
  (aG:Nn K "range")
  (ar:Nn K "enumerate")
  (aR:Nn K "list")
  (aW:Nn K "len")
  (aF:Nn K "tuple")
  (ao:Nn K "isinstance")
  (aM:Nn K "bool")
  (aY:Nn K "zip")
  (aT:Nn K "int")
  (z:Oc K ac)
  (af:findIn K (.ref ac) "pairs"=some none)
  (ag:findIn K (.ref ac) "sorts"=some none)
  (aj:findIn K (.ref ac) "ends"=some none)
  (ad:findIn K (.ref ac) "searched"=some none)
  (aE:gZ K aC)
  (ax:gZ K aB)
  (az:gZ K S):
  ∃fd:FuncData,(∀(s:Shared) (v:Value),BindsTo s fd ⟨[v],[]⟩ [("script",v)])/\∀base:Heap,K.In base->base.Ns mainGlobals mg->Qv l.prog w K mg base WN 37 fa fd ["script"] (tp K):=by
 cases c3.symm.trans (PySem.W.mg_of X G aI.a);refine⟨bE,IP aI.F fun _ _ _ _ _ _ _ _=>.of_eq rfl,fun base _ _=>?_⟩;have R:Rm l.prog w K mg base h:=⟨X,G⟩
 have oi:XH K ac "pairs":=⟨z.cl,af⟩
 have j7:XH K ac "sorts":=⟨z.cl,ag⟩
 have nn:XH K ac "ends":=⟨z.cl,aj⟩
 have kY:XH K ac "searched":=⟨z.cl,ad⟩
 have L:=R.n aV;have iQ:=R.n aX;have kz:=R.n aU;have fr:=R.n aG;have vw:=R.n ar;have mM:=R.n aR;have J:=R.n aW;have iO:=R.n aF;have jN:=R.n ao;have yL:=R.n aM;have v6:=R.n aY;have mh:=R.n aT;have iK:=ϳ R ak;have gf:=fgT R aK aQ ap am;have oX:=ϳ R ah;have jw:=ϳ R ae;have jO:=ϳ R ai;have ja:=ď R au ax;have sU:=ď R aD aE;have k6:=ď R av az;have uQ:=gF (k:=1) R A1 (EB A1.F ja);have uX:=Wj (k:=1) R A2 (Et A2.F);have v8:=Wj (k:=2) R A3 (Ez A3.F uX ⋯);have P:=gF (k:=3) R A4 (Ij A4.F v8 ⋯ uQ ⋯ L);have vQ:=gF (k:=4) R A5 (GP A5.F P ⋯ sU);have vS:=Wj (k:=1) R A6 (MR A6.F);have vz:=Wj (k:=1) R A7 (Hl A7.F iQ kz fr);have kj:=gF (k:=2) R A8 (ID A8.F vz ⋯ iK k6 fr);have xx:=gF (k:=5) R A9 (JN A9.F vS ⋯ vQ ⋯ kj ⋯);have uH:=Wj (k:=1) R bw (Qn bw.F vw mM);have uf:=Wj (k:=2) R bF (Pf bF.F uH ⋯ J);have j0:=Wj (k:=3) R bK (JL bK.F uf ⋯);have nc:=Wj (k:=1) R bi (O3 bi.F gf L);have kA:=gF (k:=6) R bf (HB bf.F nc ⋯ j0 ⋯ xx ⋯);have kh:=Wj (k:=1) R bt (G7 bt.F fr);have iV:=gF (k:=1) R bJ (MY bJ.F ja k6);have vB:=fiK (k:=2) R aA z a7 (PB a7.F kh ⋯ oi j7 nn kY);have ly:∀n,υ l.prog w K mg base WN (2+3*n) ac "tree_within" ["self","left","asks"] (V1 K<|sr ac n):=fun n=>by
  induction n with
  |zero=>exact ϱ z.cl aO m8|succ n H=>
   have vZ:=ϱ (k:=2+3*n+1) z.cl bN (EA bN.F H ⋯ j7 iO);have xj:=ϱ (k:=2+3*n+2) z.cl bL (FT bL.F nc ⋯ vZ ⋯ nn oi gf);exact ϱ (k:=2+3*n+3) z.cl aO (Kq aO.F xj ⋯ kY)
 have wq:=Wj (k:=33) R bh (ER bh.F vB ⋯ (ly 10) ⋯ J iO fr);have xU:=gF (k:=34) R aZ (KY aZ.F j0 ⋯ wq ⋯ kj ⋯);have my:=gF (k:=35) R bp (MQ bp.F iV ⋯ xU ⋯ oX);have mw:=Wj (k:=1) R a8 (FZ a8.F);have xL:=Wj (k:=1) R bz (LP bz.F L);have w9:=Wj (k:=2) R bd (Pm bd.F xL ⋯ mw ⋯ L);have wn:=Wj (k:=1) R bC (LL bC.F);have rl:=gF (k:=4) R bB (Jv bB.F w9 ⋯ wn ⋯ j0 ⋯ iV ⋯ kj ⋯ iK L);have sk:=Wj (k:=2) R bM (Qr bM.F mw ⋯);have vp:=Wj (k:=1) R a9 (LC a9.F jN iO J yL);have uu:=Wj (k:=2) R bH (KN bH.F vp ⋯ jN mM J L);have oE:∀n,Df l.prog w K mg base (7+n) "is_let_by" ["many","answers","asks","paper"] (V1 K<|Η aB aC S n):=fun n=>by
  induction n with
  |zero=>exact Wj R aJ m8|succ n H=>exact Wj (k:=7+n+1) R aJ (Ey aJ.F (Df.dn P) ⋯ (Df.dn kA) ⋯ kh ⋯ uu ⋯ H ⋯ gf jN iO J v6)
 have uK:=Wj (k:=18) R bu (F8 bu.F (Df.dn iV) ⋯ (oE 10) ⋯ jw jO);have pS:∀n,Df l.prog w K mg base (7+2*n) "paper_behind" ["many","answers","asks"] (V1 K<|Θ aB aC S n):=fun n=>by
  induction n with
  |zero=>exact Wj R aN m8|succ n H=>
   have x8:=Wj (k:=7+2*n+1) R bI (OL bI.F H ⋯);exact Wj (k:=7+2*n+2) R aN (Qx aN.F (Df.dn P) ⋯ (Df.dn kA) ⋯ kh ⋯ x8 ⋯ gf)
 have uz:=Wj (k:=36) R bA (IA bA.F (Df.dn iV) ⋯ (Df.dn my) ⋯ (pS 10) ⋯ jw jO);have ya:=Wj (k:=1) R bn (Q0 bn.F mh iQ);have gw:=Wj (k:=1) R bG (OO bG.F);have uP:=Wj (k:=1) R bj (Kj bj.F fr iQ kz);have uC:=Wj (k:=1) R br (QI br.F J fr);have uo:=Wj (k:=1) R bg (Q4 bg.F fr J);have mX:∀n,Df l.prog w K mg base (2+n) "_law_tree" ["hand","many","left"] (V1 K<|qu n):=fun n=>by
  induction n with
  |zero=>exact Wj R aS m8|succ n H=>exact Wj (k:=2+n+1) R aS (RV aS.F uC ⋯ gw ⋯ uo ⋯ H ⋯ fr J)
 have mB:∀n,Df l.prog w K mg base (2+n) "_law_any" ["hand","many","asks"] (V1 K<|pz n):=fun n=>by
  induction n with
  |zero=>exact Wj R aH m8|succ n H=>exact Wj (k:=2+n+1) R aH (FD aH.F gw ⋯ H ⋯)
 have nA:∀n,Df l.prog w K mg base (2+n) "_law_cut" ["hand","many","tree","asks"] (V1 K<|qo n):=fun n=>by
  induction n with
  |zero=>exact Wj R aL m8|succ n H=>exact Wj (k:=2+n+1) R aL (RS aL.F gw ⋯ H ⋯)
 have xv:=Wj (k:=1) R bO (LG bO.F fr);have ve:=Wj (k:=2) R bD (FS bD.F xv ⋯ mh iQ kz);exact OW (Jp aI.F ya ⋯ gw ⋯ (Df.dn my) ⋯ uz ⋯ uK ⋯ uP ⋯ (mX 12) ⋯ (mB 10) ⋯ (nA 10) ⋯ sk ⋯ (Df.dn rl) ⋯ ve ⋯ (Df.dn P) ⋯ (Df.dn kA) ⋯) (IX (CS:=ac) (C:=aB) (CF:=aC) (CT:=S))
theorem walk{l:PySem.W.OpenLaw}{q:Program}{loose:Ŗ}{XP:œ->Heap->Prop}{YP:World->Heap->Prop}{d:DefRec}{K:Params->Frag}(hn:l.most=some 63)(S:d.params.defaults=[])
  (hY:∀(w:World) (h:Heap),YP w h->(K w.params).In h)
  (F:∀(w:World) (mg:œ) (fa:Addr) (h:Heap),(K w.params).In h->h.Ns mainGlobals mg->mg d.name=some (.ref fa)->
   ∃fd:FuncData,(∀(s:Shared) (u:Value),BindsTo s fd ⟨[u],[]⟩ [("script",u)])/\∀base:Heap,(K w.params).In base->base.Ns mainGlobals mg->Qv l.prog w (K w.params) mg base WN 37 fa fd ["script"] (tp<|K w.params)):
  PySem.W.WalkO q loose XP YP l.row.toRowW d [] (fun f vs=>PySem.call f vs):=
 L2.walk_of (n:=63) (k:=37) (x:="script") (CX:=fun _=>WN) (sp:=fun w=>tp<|K w.params) hn (by decide) S ⟨rfl,by decide,by decide,rfl⟩ hY F (fun _ _ a ns H L J=>⟨a,ns,rfl,L,J,H,fun _=>rfl⟩) fun _ _ _ _ _ z=>z
end Law
namespace PySem.W.Fast
def tw15730365119620938637:=0
def tw2362630763304920215:=0
def tw12130642213531019180:=0
def tw4454688813609843396:=0
def tw9341130346710460821:=0
def tw18253782488724802797:=0
def tw11002584936687039310:=0
def tw15701316540229274349:=0
def tw6676408456161671204:=0
def tw17310964409516796215:=0
def tw12087166326796774692:=0
def tw767970308890818345:=0
def tw11445813685526224453:=0
def tw9223630610428807158:=0
def tw14042890580970917073:=0
def tw5002307522536062744:=0
def tw3692120315002682577:=0
def tw6795523914172306461:=0
def tw8483776498591997399:=0
def tw7723374222130660784:=0
def tw18019352314272009691:=0
def tw17038325136775955696:=0
def tw5479605839476754515:=0
def tw4151140461979872559:=0
def tw13411814339668976114:=0
def tw2402602001929166251:=0
def tw17079491598680124325:=0
def tw7159569399171682305:=0
def tw2733843262384016026:=0
def tw318966382863518710:=0
def tw3457914119391169952:=0
def tw2502206561778001885:=0
def tw16745687240127442146:=0
def tw4828235070029280046:=0
def tw17504073586322161915:=0
def tw1474995278321660579:=0
def tw16693576413586060477:=0
def tw17488623202384239774:=0
def tw11204434194533073048:=0
def tw14772040790940747914:=0
def tw2945286209433594134:=0
def tw17873450223034573058:=0
def tw16087062865342383896:=0
def tw18006305407650174246:=0
def tw12046076221681415884:=0
def tw2395223718944264589:=0
def tw17887867679247221938:=0
def tw12357392606785058152:=0
def tw5835616982728200674:=0
def tw7911079137039228115:=0
def tw18427371672072348259:=0
def tw3545117508751041493:=0
def tw8738647498874853832:=0
def tw17657038543191115195:=0
def tw6997010228113202479:=0
def tw7210646223103153671:=0
def tw340164896061080756:=0
def tw10135566787624068180:=0
def tw9197231846173025990:=0
def tw13629995159117824133:=0
def tw12154541568978634080:=0
def tw1043281164937592248:=0
def tw15185369224855874312:=0
def tw6544448562590283656:=0
def tw11529096211930068034:=0
def tw17849935863029153980:=0
def tw8745374448181129003:=0
def tw3390590001054827310:=0
def tw12311622009662464769:=0
def tw7148301952815430277:=0
def tw5928683593298906783:=0
def tw11253569739946601073:=0
def tw11638956559452791362:=0
def tw17362679793329814469:=0
def tw11444304645413743788:=0
def tw766306885731603929:=0
def tw8104629940383490015:=0
def tw10592118396435741549:=0
def tw9313554843702165534:=0
def tw8451919840508225448:=0
def tw9921307531205157137:=0
def tw2372476874959476292:=0
def tw4583691969358437468:=0
def tw1003729189204136888:=0
def tw12491205689696955314:=0
def tw15040519920244692016:=0
def tw2957271958963524896:=0
def tw9600307237501772530:=0
def tw14992093171888340857:=0
def tw9184487807646488821:=0
def tw8084963547130793659:=0
def tw3942673000990783604:=0
def tw2216524627262715480:=0
def tw14659485166942937534:=0
def tw5258932797648184282:=0
def tw7636093933666344405:=0
def tw15608065014560232908:=0
def tw13020437178654743799:=0
def tw5896389883617828381:=0
def tw3342489535750265293:=0
def tw18126296324206945801:=0
def tw2032895504572841992:=0
def tw9992594595043852069:=0
def tw12844682188050105485:=0
def tw4334522795183765134:=0
def tw17485368296674884532:=0
def tw13007879777423524319:=0
def tw8746193609468458931:=0
def tw8568245843113371162:=0
def tw13850555586975812766:=0
def tw8805927663744317638:=0
def tw6655598104570715288:=0
def tw5518161296342221835:=0
def tw8438595574955823090:=0
def tw17306917508698081980:=0
def tw5909092006122680274:=0
def tw8922983543770307909:=0
def tw442361589369071884:=0
def tw828119836922102229:=0
def tw14755659255716972812:=0
def tw15289265272475677170:=0
def tw2508166833983670046:=0
def tw5272176858460629174:=0
def tw15200391482347949898:=0
def tw13894530573938309562:=0
def tw14506786869396867223:=0
def tw86134102435398526:=0
def tw1036646962510938780:=0
def tw17545132783561358154:=0
def tw13686145313759409198:=0
def tw10289941906951236620:=0
def tw8142100727455470360:=0
def tw12762920659838734126:=0
def tw4776801318236969886:=0
def tw18264223212063393109:=0
def tw4456875079287520856:=0
def tw4715932944185978621:=0
def tw5124113762117903636:=0
def tw11611777192771096265:=0
def tw11458315292627286647:=0
def tw7600175965598145428:=0
def tw7068804611541349822:=0
def tw7042078352357888522:=0
def tw16511574010757069054:=0
def tw14762987661304427872:=0
def tw17613470692595983310:=0
def tw3164832290030072535:=0
def tw1241810658902335795:=0
def tw16200295512658363093:=0
def tw7611049101540617223:=0
def tw1624725666207014452:=0
def tw6104225365475695950:=0
def tw7388685501754285060:=0
def tw3859174549412803500:=0
def tw8528079393909160393:=0
def tw4946739267190532221:=0
def tw9727372989885670188:=0
def tw18298597651810049623:=0
def tw2037305165833598790:=0
def tw13088526853696947057:=0
def tw11973084541962757487:=0
def tw3748942199080808257:=0
def tw18234662437640191388:=0
def tw2407061879231302252:=0
def tw6445217850229161600:=0
def tw5124566353725337276:=0
def tw10761903086342735222:=0
def tw15446826777780692747:=0
def tw10288834963689996381:=0
def tw6629097680537417369:=0
def tw7787076080903201660:=0
def tw3910204030964680274:=0
def tw11733926364030387611:=0
def tw8212291292038574103:=0
def tw7368510856575188967:=0
def tw412722876357724722:=0
def tw9431753725399342295:=0
def tw1084681673135316640:=0
def tw7588934383079862113:=0
def tw16977899322450407660:=0
def tw14880555053319279065:=0
def tw15597622612985831318:=0
def tw10486256844101555375:=0
def tw5848297818075585467:=0
def tw14418426903460961763:=0
def tw10436965320831874901:=0
def tw5057568285642061612:=0
def tw5154852699644182401:=0
def tw6959214029430532114:=0
def tw5265189203945581079:=0
def tw7238349036433663212:=0
def tw11147265197868194657:=0
def tw8084997291667756742:=0
def tw13772630304467725961:=0
def tw13327573168989622071:=0
def tw16974854309233463166:=0
def tw7267505991431331569:=0
def tw61950844783863756:=0
def tw9219211484796355972:=0
def tw13830261782217036027:=0
def tw6620300607024782519:=0
def tw6625797301661200732:=0
def tw9171612852563828082:=0
def tw6704479433028529176:=0
def tw3142255731407702456:=0
def tw15249930659320116866:=0
def tw15164731374807609164:=0
def tw10520519351648855426:=0
def tw16088145661733513778:=0
def tw4578160651725869106:=0
def tw7240116885933388382:=0
def tw4343677529064456049:=0
def tw6337545652475862559:=0
def tw17447934262339317912:=0
def tw18054228383346698785:=0
def tw11401495810770609791:=0
def tw7439443361432902770:=0
def tw4179396413876732314:=0
def tw14229736338772794933:=0
def tw15676618450826947914:=0
end PySem.W.Fast
open PySem PySem.W PyProof.Rows
set_option maxRecDepth 100000 in
set_option maxHeartbeats 0 in
theorem PySem.Challenge.cw_morethanhalf_k27_whole_papers_and_short_holds : PySem.Challenge.rw_morethanhalf_k27_whole_papers_and_short.Holds := by
 w_on;o_law;k_head;(case hw=>w_witness2)
 k_fill
 refine Law.walk (l:=PySem.Challenge.rw_morethanhalf_k27_whole_papers_and_short) rfl rfl (fun w h Y=>PySem.W.kIn_of Y) ?F
 case F=>
  intro w mg fa h KX G hmg;refine' Law.all_mk KX G hmg (L3.nq ?_) (L3.nq ?_) (L3.nq ?_) (L3.nq ?_) (L3.gf_mk ?_ ?_ ?_ ?_) (L3.gf_mk ?_ ?_ ?_ ?_) (L3.gf_mk ?_ ?_ ?_ ?_) (L3.gf_mk ?_ ?_ ?_ ?_) (L3.gf_mk ?_ ?_ ?_ ?_) (L3.gf_mk ?_ ?_ ?_ ?_) (L3.gf_mk ?_ ?_ ?_ ?_) (L3.gf_mk ?_ ?_ ?_ ?_) (L3.gf_mk ?_ ?_ ?_ ?_) (L3.gf_mk ?_ ?_ ?_ ?_) (L3.gf_mk ?_ ?_ ?_ ?_) (L3.gf_mk ?_ ?_ ?_ ?_) (L3.gf_mk ?_ ?_ ?_ ?_) (L3.gf_mk ?_ ?_ ?_ ?_) (L3.gf_mk ?_ ?_ ?_ ?_) (L3.gf_mk ?_ ?_ ?_ ?_) (L3.mf_mk ?_ ?_ ?_ ?_ ?_) (L3.mf_mk ?_ ?_ ?_ ?_ ?_) (L3.mf_mk ?_ ?_ ?_ ?_ ?_) (L3.mf_mk ?_ ?_ ?_ ?_ ?_) (L3.gf_mk ?_ ?_ ?_ ?_) (L3.gf_mk ?_ ?_ ?_ ?_) (L3.gf_mk ?_ ?_ ?_ ?_) (L3.gf_mk ?_ ?_ ?_ ?_) (L3.gf_mk ?_ ?_ ?_ ?_) (L3.gf_mk ?_ ?_ ?_ ?_) (L3.gf_mk ?_ ?_ ?_ ?_) (L3.gf_mk ?_ ?_ ?_ ?_) (L3.gf_mk ?_ ?_ ?_ ?_) (L3.gf_mk ?_ ?_ ?_ ?_) (L3.gf_mk ?_ ?_ ?_ ?_) (L3.gf_mk ?_ ?_ ?_ ?_) (L3.gf_mk ?_ ?_ ?_ ?_) (L3.gf_mk ?_ ?_ ?_ ?_) (L3.gf_mk ?_ ?_ ?_ ?_) (L3.gf_mk ?_ ?_ ?_ ?_) (L3.gf_mk ?_ ?_ ?_ ?_) (L3.gf_mk ?_ ?_ ?_ ?_) (L3.gf_mk ?_ ?_ ?_ ?_) (L3.gf_mk ?_ ?_ ?_ ?_) (L3.gf_mk ?_ ?_ ?_ ?_) (L3.gf_mk ?_ ?_ ?_ ?_) (L3.gf_mk ?_ ?_ ?_ ?_) (L3.gf_mk ?_ ?_ ?_ ?_) (L3.gf_mk ?_ ?_ ?_ ?_) (L3.gf_mk ?_ ?_ ?_ ?_) (L3.gf_mk ?_ ?_ ?_ ?_) (L3.nq ?_) (L3.nq ?_) ?_ ?ap ?am (L3.nq ?_) (L3.nq ?_) (L3.nq ?_) (L3.nq ?_) (L3.nq ?_) (L3.nq ?_) (L3.nq ?_) (L3.nq ?_) (L3.nq ?_) (L3.nq ?_) (L3.nq ?_) (L3.nq ?_) (L3.nq ?_) (L3.nq ?_) (L3.nq ?_) (L3.oc_mk ?_ ?_ ?_ ?_ ?_ ?_) ?_ ?_ ?_ ?_ (L3.ri_mk ?_ ?_ ?_ ?_) (L3.ri_mk ?_ ?_ ?_ ?_) (L3.ri_mk ?_ ?_ ?_ ?_);any_goals k_is
  (case ap=>rfl)
  (case am=>rfl)
  all_goals(first|k_is|kit_is|kernel_rfl|skip)

