import PyProof.Rows.All
import Wide.All
import OpenK.AllK
import Wide.FinOn
import Lean
import PyProof.EqAt
import PyProof.EqKinds
import PyProof.TupleCall
import PyProof.NsDelKeeps
import KE.KTryMore
import OpenK.KOwn
import PyProof.ExcBaseAll.ValueError
import PyProof.Rows.CountFlat
import PyProof.Rows.SeqMore2
import PyProof.SumWalkG
import PyProof.FitsBits
import PyProof.Rows.IntMath
import PyProof.P3Eq
import PyProof.ZipIter
import PyProof.TupleIter
import PyProof.TupleOfSeq
import PyProof.TupleOfGen
import PyProof.ListRange
import PyProof.Rows.SeqMore
import PySem.Challenge.RW_morethanhalf_k19_no_such_things
set_option Elab.async false
set_option linter.all false
set_option compiler.extract_closed false
set_option maxRecDepth 100000
set_option maxHeartbeats 0
open PySem.W (Frag nsIn keepIn codeIn fnOf kitOne findIn subIn isFn)
noncomputable section
local macro_rules|`(tactic|lia)=>`(tactic|exact⟨rfl,rfl,rfl,by decide +kernel,rfl,by decide +kernel,by decide +kernel⟩)
local macro_rules|`(⋯)=>`(by omega)
local macro_rules|`(nofun)=>`(by simp)
abbrev Ū:=Option Nat
abbrev ũ:=List Bool
abbrev Ũ:=List PySem.Stmt
abbrev ŧ:=List (PySem.Str×PySem.Value)
abbrev Ŧ:=Option PySem.Addr
abbrev Š:=Option PySem.Value
abbrev ş:=List PySem.Env
abbrev Ş:=List (PySem.Str×PySem.Addr)
abbrev ŝ:=List PySem.Keyword
abbrev Ŝ:=List Nat
abbrev ś:=List PySem.Addr
abbrev Ś:=List PySem.Expr
abbrev ř:=Option Bool
abbrev Ŗ:=List PySem.Str
abbrev ŕ:=List (Nat×Nat)
abbrev Ŕ:=List Int
abbrev œ:=List (PySem.Str×Nat)
abbrev Œ:=Option Int
abbrev ő:=PySem.Str->Option PySem.Value
abbrev Ő:=List PySem.Value
abbrev SL:=List (PySem.Addr×PySem.Obj)
abbrev SC:=PySem.Value->PySem.Shared->Prop
def SA:=@PySem.wpAny_bind
def SD:=@PySem.Heap.get?_push_of_some
def SE:=@PySem.wpAny_pure
def SF:=@Nat.le_refl
def SG:=@List.getElem?_eq_some_iff.{0}
def SH:=@PySem.wpAny_mono
def SI:=@PySem.Heap.lt_size
def SJ:=@decide_eq_false
def SK:=@List.getD_eq_getElem?_getD.{0}
def SM:=@PySem.Heap.get?_push_size
def SN:=@List.map_cons.{0,0}
def SO:=@List.getElem?_eq_getElem.{0}
def SQ:=@List.mem_append_right.{0}
def SR:=@Iff.rfl
def SS:=@List.size_toArray.{0}
def SU:=@Nat.lt_of_lt_of_le
def SW:=@List.length_map.{0,0}
def SY:=@Nat.ne_of_lt
def S0:=@List.find?_cons.{0}
def S1:=@List.getElem?_append_left.{0}
def S2:=@List.mem_cons.{0}
def S3:=@decide_eq_true
def S4:=@List.getElem?_set_ne.{0}
def S5:=@Option.some.inj.{0}
def S6:=@List.getElem?_map.{0,0}
def S7:=@List.lookup_cons.{0,0}
def S8:=@Bool.false_eq_true
def S9:=@List.length_cons.{0}
def Ta:=@List.mem_filter.{0}
def Tb:=@List.mem_append.{0}
def Tc:=@PySem.PassesOwn.never
def Td:=@Bool.not_true
def Te:=@List.mem_map.{0,0}
def Tf:=@List.all_eq_true.{0}
def Tg:=@Nat.le_trans
def Th:=@List.getElem?_append_right.{0}
def Ti:=@Nat.lt_irrefl
def Tj:=@List.drop_eq_getElem_cons.{0}
def Tn:=@PySem.mem_of_lookup
def To:=@List.map_map.{0,0,0}
def Tp:=@List.mem_cons_of_mem.{0}
def Tq:=@Bool.and_eq_true
def Ts:=@Bool.not_false
def Tt:=@PySem.wpAny_truthy_bool
def Tu:=@List.mem_singleton.{0}
def Tv:=@PyProof.Rows.callWith_type1
def Tx:=@List.length_append.{0}
def TB:=@List.drop_eq_nil_of_le.{0}
def TC:=@Option.isSome_iff_exists.{0}
def TF:=@PySem.wpAny_newObj_type
def TH:=@decide_eq_true_eq
def TJ:=@PySem.Heap.size_push
def TK:=@List.getElem?_of_mem.{0}
def TL:=@PySem.wpAny_holding
def TM:=@List.append_nil.{0}
def TN:=@List.not_mem_nil.{0}
def TQ:=@Nat.zero_le
def TR:=@List.mem_range
def TU:=@List.getElem_mem.{0}
def TV:=@PySem.Around.under_plainId
def TX:=@PySem.Heap.get?_update_other
def TY:=@List.filter_eq_nil_iff.{0}
def TZ:=@List.map_congr_left.{0,0}
def T1:=@Bool.eq_iff_iff
def T2:=@Classical.byContradiction
def T3:=@List.pairwise_iff_getElem.{0}
def T4:=@List.find?_eq_none.{0}
def T5:=@PySem.wpAny_standAt
def T6:=@PySem.wpAny_comprehension_free
def T7:=@List.length_eq_zero_iff.{0}
def T8:=@Option.bind_eq_some_iff.{0,0}
def T9:=@List.length_range
def Ua:=@PySem.codeAny_builtin
def Ub:=@Array.length_toList.{0}
def Uc:=@List.replicate_succ.{0}
def Ud:=@List.filter_eq_self.{0}
def Ue:=@PySem.sizeLine_eq
def Ug:=@List.mem_flatMap.{0,0}
def Uh:=@List.any_eq_true.{0}
def Ui:=@Bool.false_ne_true
def Uj:=@PySem.wpAny_Call_Name_kw
def Uk:=@Option.isSome_some.{0}
def Ul:=@List.length_filter_le.{0}
def Um:=@List.mem_of_find?_eq_some.{0}
def Uo:=@PySem.wpAny_passesOwn
def Up:=@PySem.wpAny_loadPart'
def Uq:=@List.length_set.{0}
def Ur:=@PySem.W.kia_one
def Us:=@List.map_append.{0,0}
def Ut:=@Nat.zero_add
def Uu:=@List.any_cons.{0}
def Uv:=@PySem.plainId_quiet
def Uw:=@PySem.F.plain_max_loop
def Ux:=@List.filter_cons.{0}
def Uy:=@List.mem_cons_self.{0}
def Uz:=@List.getElem?_set_self.{0}
def UA:=@PySem.Heap.get?_update_self
def UB:=@List.flatten_cons.{0}
def UC:=@List.append_assoc.{0}
def UD:=@Nat.lt_succ_of_lt
def UE:=@List.nodup_append.{0}
def UG:=@List.mem_append_left.{0}
def UH:=@List.mem_of_getElem?.{0}
def UI:=@List.exists_cons_of_ne_nil.{0}
def UJ:=@PySem.wpAny_call_entry
def UK:=@Nat.ne_of_gt
def UL:=@PySem.codeAny_mono
def UM:=@List.length_take.{0}
def UN:=@Nat.le_add_right
def UO:=@List.getElem?_eq_none_iff.{0}
def UP:=@Int.toNat_of_nonneg
def UQ:=@PySem.Paired.length
def UR:=@PySem.wpAny_specialOf
def US:=@PySem.wpAny_execs_nil
def UT:=@List.of_mem_zip.{0,0}
def UU:=@List.mem_filterMap.{0,0}
def UW:=@PySem.W.callWith_K
def UX:=@PySem.F.plainAttrs_list
def UY:=@PySem.F.plainAttrs_dict
def UZ:=@PySem.W.cellsFrom_some
def U0:=@List.map_nil.{0,0}
def U1:=@Option.isSome_map.{0,0}
def U2:=@Nat.lt_trans
def U3:=@or_false
def U4:=@decide_false
def U5:=@Option.map_eq_none_iff.{0,0}
def U6:=@Nat.lt_trichotomy
def U7:=@PySem.isSubtype_tuple_tuple
def U8:=@List.length_singleton.{0}
def U9:=@PySem.wpAny_isInstance
def Va:=@Nat.lt_succ_self
def Vb:=@Option.bind_some.{0,0}
def Vc:=@PySem.wpAny_field
def Vd:=@PySem.codeAny_call_builtin
def Ve:=@Nat.pow_le_pow_right
def Vf:=@List.nodup_cons.{0}
def Vg:=@Option.map_some.{0,0}
def Vh:=@List.find?_some.{0}
def Vi:=@List.filterMap_cons.{0,0}
def Vj:=@PySem.W.plainGet_of
def Vk:=@Nat.le_of_lt
def Vl:=@PySem.call_range_1
def Vm:=@PySem.wpAny_tupleItemsOf
def Vn:=@Array.forIn_toList.{0,0,0}
def Vo:=@PySem.wpAny_rule
def Vp:=@PySem.wpAny_seqItems
def Vq:=@PySem.wpAny_call
def Vr:=@PySem.call_meets
def Vs:=@Option.isNone_none.{0}
def Vt:=@Option.isNone_some.{0}
def Vu:=@Option.isSome_none.{0}
def Vv:=@Int.emod_lt_of_pos
def Vw:=@PySem.wpAny_pyIter_list
def Vx:=@PySem.rangeSize_one
def Vy:=@Bool.true_and
def Vz:=@List.take_length.{0}
def VA:=@List.map_flatMap.{0,0,0}
def VB:=@PySem.typeIs_int
def VC:=@PySem.codeAny_loop
def VD:=@List.all_map.{0,0}
def VE:=@PySem.wpAny_updateSeq
def VF:=@Nat.not_lt_zero
def VG:=@Nat.testBit_and
def VH:=@Int.emod_nonneg
def VI:=@PySem.Paired.snoc
def VJ:=@PySem.wpAny_noted
def VL:=@PySem.wpAny_tryCatch
def VM:=@PySem.wpAny_letGo
def VN:=@PySem.wpAny_of_eq
def VO:=@decide_true
def VP:=@PySem.eval_ListComp
def VQ:=@PySem.wpAny_attempt
def VR:=@Nat.mul_comm
def VS:=@Nat.lt_or_ge
def bq{p:Prop}(h:¬p->False):p:=T2 h
namespace L2
open PySem PySem.Spec PyProof.Rows
abbrev Key:=Sum Int Str
def mF:Key->Value->Bool
 | .inl k,v=>Value.isInt k v
 | .inr x,v=>Value.isStrOf x v
def G8(w:World):Key->Int
 | .inl k=>hashInt k
 | .inr x=>hashStr w x
theorem kQ:∀{k:Key} {v:Value},mF k v=true->(∃i t,k=Sum.inl i/\v=Value.int i t)\/(∃x t,k=Sum.inr x/\v=Value.str x t)
 | .inl i,v,h=>by
  obtain⟨t,e⟩:=Value.isInt_shape (k:=i) (v:=v) h;exact .inl ⟨i,t,rfl,e⟩
 | .inr x,v,h=>by
  obtain⟨t,e⟩:=Value.isStrOf_shape (x:=x) (v:=v) h;exact(.inr ⟨x,t,rfl,e⟩)
def F7(i:Int)(t:Tok):mF (.inl i) (.int i t)=true:=by simp[mF,Value.isInt]
def Ju(x:Str)(t:Tok):mF (.inr x) (.str x t)=true:=by simp[mF,Value.isStrOf]
def Nk(a b:Int):decide ((Sum.inl a:Key)=Sum.inl b)=(a==b):=by
 by_cases e:a=b
 .subst e;simp
 .have h:¬(Sum.inl a:Key)=Sum.inl b:=fun q=>e (Sum.inl.inj q);rw[SJ h];exact(beq_eq_false_iff_ne.mpr e).symm
def M1(a b:Str):decide ((Sum.inr a:Key)=Sum.inr b)=decide (a=b):=by
 by_cases e:a=b
 .subst e;simp
 .have h:¬(Sum.inr a:Key)=Sum.inr b:=fun q=>e (Sum.inr.inj q);rw[SJ h,SJ e]
def Ic(a:Int)(b:Str):decide ((Sum.inl a:Key)=Sum.inr b)=false:=SJ (fun q=>nomatch q)
def QX(a:Str)(b:Int):decide ((Sum.inr a:Key)=Sum.inl b)=false:=SJ (fun q=>nomatch q)
def iW(prog:Program)(w:World):PySem.KeyKind prog w Key where
 is:=mF
 hash:=G8 w
 inj:=fun v a b ha hb=>by
  rcases kQ ha with⟨i,t,rfl,rfl⟩|⟨x,t,rfl,rfl⟩
  .rcases kQ hb with⟨j,u,rfl,e⟩|⟨y,u,rfl,e⟩
   .injection e with e1 _;rw[e1]
   .exact nomatch e
  .rcases kQ hb with⟨j,u,rfl,e⟩|⟨y,u,rfl,e⟩
   .exact nomatch e
   .injection e with e1 _;rw[e1]
 byValue:=fun k v h=>by
  rcases kQ h with⟨i,t,rfl,rfl⟩|⟨x,t,rfl,rfl⟩<;>rfl
 pyHash:=fun hv h=>by
  rcases kQ hv with⟨i,t,rfl,rfl⟩|⟨x,t,rfl,rfl⟩
  .exact wpAny_pyHash_int h
  .exact wpAny_pyHash_str h
 eqBool:=fun hu hv h=>by
  rcases kQ hu with⟨i,t,rfl,rfl⟩|⟨x,t,rfl,rfl⟩
  .rcases kQ hv with⟨j,u,rfl,rfl⟩|⟨y,u,rfl,rfl⟩
   .rw[Nk] at h;exact wpAny_eqBool_int h
   .rw[Ic] at h;exact SeqAt.EqAt.int_str i t y u _ _ _ _ h
  .rcases kQ hv with⟨j,u,rfl,rfl⟩|⟨y,u,rfl,rfl⟩
   .rw[QX] at h;exact SeqAt.EqAt.str_int x t j u _ _ _ _ h
   .rw[M1] at h;exact wpAny_eqBool_str h
 «strs»:=fun k x t v h=>by
  rcases kQ h with⟨i,u,rfl,e⟩|⟨y,u,rfl,e⟩
  .exact nomatch e
  .injection e with e1 _
   subst e1;cases v<;>rfl
def Oo(prog:Program)(w:World)(i:Int)(t:Tok):(iW prog w).is (.inl i) (.int i t)=true:=F7 i t
def Sa(prog:Program)(w:World)(x:Str)(t:Tok):(iW prog w).is (.inr x) (.str x t)=true:=Ju x t
inductive V where
 |non|bl (b:Bool)|int (i:Int)|str (x:Str)|byt (b:Array UInt8)|flt (b:UInt64)|ref (a:Addr)|ty (n:String)
 deriving DecidableEq
abbrev _root_.š:=List (Str×V)
abbrev _root_.Ř:=List V
def RelV:V->Value->Prop
 | .non,u=>u=Value.none
 | .bl b,u=>u=Value.bool b
 | .int i,u=>∃t,u=Value.int i t
 | .str x,u=>∃t,u=Value.str x t
 | .byt b,u=>∃t,u=Value.bytes b t
 | .flt b,u=>∃t,u=Value.float b t
 | .ref a,u=>u=Value.ref a
 | .ty n,u=>u=Value.type n
abbrev Vals:Ř->Ő->Prop:=Paired RelV
def Vals.length{xs:Ř}{us:Ő}(r:Vals xs us):xs.length=us.length:=UQ r
theorem Vals.get:∀{xs:Ř} {us:Ő} {i:Nat} {x:V},Vals xs us->xs[i]?=some x->∃u,us[i]?=some u/\RelV x u
 |_,_,_,_,.nil,e=>by simp at e
 |_,_,0,_,.cons r _,e=>by simp at e;subst e;exact⟨_,rfl,r⟩
 |_,_,i+1,x,.cons _ t,e=>by
  obtain⟨u,h1,h2⟩:=Vals.get (i:=i) (x:=x) t (by simpa using e);exact(⟨u,by simpa using h1,h2⟩)
theorem Vals.set{x:V}{u:Value}(r:RelV x u):∀{xs:Ř} {us:Ő} (i:Nat),Vals xs us->Vals (xs.set i x) (us.set i u)
 |_,_,_,.nil=>.nil
 |_,_,0,.cons _ t=>.cons r t
 |_,_,i+1,.cons q t=>.cons q (Vals.set r i t)
theorem Vals.append:∀{xs ys:Ř} {us ws:Ő},Vals xs us->Vals ys ws->Vals (xs++ys) (us++ws)
 |_,_,_,_,.nil,s=>s
 |_,_,_,_,.cons r t,s=>.cons r (Vals.append t s)
theorem Vals.take:∀{xs:Ř} {us:Ő} (n:Nat),Vals xs us->Vals (xs.take n) (us.take n)
 |_,_,0,_=>.nil
 |_,_,_+1,.nil=>.nil
 |_,_,n+1,.cons r t=>.cons r (Vals.take n t)
theorem Vals.drop:∀{xs:Ř} {us:Ő} (n:Nat),Vals xs us->Vals (xs.drop n) (us.drop n)
 |_,_,0,r=>r
 |_,_,_+1,.nil=>.nil
 |_,_,n+1,.cons _ t=>Vals.drop n t
def RelO:Option V->Š->Prop
 |some v,some u=>RelV v u
 |none,none=>True
 |_,_=>False
def KV{κ:Type}:List (κ×V)->List (κ×Value)->Prop:=Paired fun(p:κ×V) (q:κ×Value)=>p.1=q.1/\RelV p.2 q.2
def kV:Key->V
 | .inl i=>.int i
 | .inr x=>.str x
abbrev NK:=List Int×Int
section
variable {P:Program} {w:World}
def NkIs(P:Program)(w:World)(h:Heap)(k:NK)(a:Addr):Prop:=∃(o:Obj) (b:Addr) (t:Tok) (c:Nat),h.get? a=some o/\o.cls=.type "tuple"/\o.data=.seq #[.ref b,.int k.2 t] c/\IsTupleKey (intKind P w) h k.1 b
def wO(P:Program)(w:World)(k:NK):Int:=reduceHash (Builtin.Tuple.tupleHashOf [tupleKeyHash (intKind P w) k.1,hashInt k.2])
variable {A:Around} {E:SC} {s:Shared} {k m:NK} {a b:Addr}
theorem NkIs.ty(x:NkIs P w s.heap k a):s.TypeIs (.ref a) "tuple":=let ⟨o,_,_,_,h1,h2,_⟩:=x;⟨o,h1,h2⟩
theorem NkIs.inj{h:Heap}(x:NkIs P w h k a)(y:NkIs P w h m a):k=m:=by
 obtain⟨o,b,t,c,h1,_,h3,h4⟩:=x;obtain⟨o',b',t',c',g1,_,g3,g4⟩:=y;rw[h1] at g1;cases g1;rw[h3] at g3;obtain⟨k1,k2⟩:=k;obtain⟨m1,m2⟩:=m;simp only[Data.seq.injEq,Array.mk.injEq,List.cons.injEq,Value.ref.injEq,Value.int.injEq] at g3;obtain⟨⟨e1,⟨e2,_⟩,_⟩,_⟩:=g3;subst e1;subst e2;have:=h4.inj g4;simp only at this;subst this;rfl
theorem NkIs.keeps{h h':Heap}{d:Addr}{o:Obj}{es ep}(x:NkIs P w h k a)(ho:h.get? d=some o)(hd:o.data=.dict es ep)(hs:Heap.SameBut d h h'):NkIs P w h' k a:=by
 obtain⟨q,b,t,c,h1,h2,h3,h4⟩:=x;refine⟨q,b,t,c,(hs.2 a ?_).trans h1,h2,h3,h4.keeps ho hd hs⟩;intro e;subst e;rw[ho] at h1;cases h1;rw[h3] at hd;cases hd
theorem Lf{Q:Int->Shared->Prop}(hu:A.units+4<cLine)(x:NkIs P w s.heap k a)(h:Q (wO P w k) {s with toks:=s.toks+(k.1.length+3)}):wpAny (model P w) A (pyHash<|.ref a) Q E s:=by
 have hT:=x.ty;obtain⟨o,b,t,c,h1,_,h3,h4⟩:=x;unfold pyHash;first|unfold pyHashByItsType|skip
 first|refine SA (wpAny_cRoomFor_or (.inr ⋯) ?_)|skip
 refine SA (UR hT F.slot_tuple_hash.lookup ?_);show wpAny _ _ (if(some (Value.builtin "tuple.__hash__")==some Value.none)=true then _ else _) Q E s;rw[if_neg (by rw[beq_builtin_none];exact Ui)];refine SA (UR hT F.slot_tuple_hash.lookup ?_);show wpAny _ _ (callSpecialIfBoundUnlessNone? (.ref a) "__hash__" _ >>= _) Q E s;refine SA (wpAny_callSpecialIfBoundUnlessNone?_slot hT F.slot_tuple_hash<|UJ F.slot_tuple_hash hT F.entry_tuple_hash ?_<|F.args_tuple_hash_1 _);show wpAny _ _ (Builtin.Tuple.tupleItemsOf (.ref a) >>= _) _ _ s;refine SA (Vm h1 h3 ?_);refine SA ?_;rw[←Vn];show wpAny _ _ (forIn [Value.ref b,Value.int k.2 t] (#[]:Array Int) _) _ _ _;rw[List.forIn_cons];refine SA (SA<|wpAny_pyHash_tuple (show A.in1.units<cLine by show A.units+1<cLine;omega) h4<|SE ?_);show wpAny _ _ (forIn [Value.int k.2 t] (#[tupleKeyHash (intKind P w) k.1]:Array Int) _) _ _ _;rw[List.forIn_cons];refine SA (SA<|(intKind P w).pyHash (k:=k.2) (by simp[intKind,Value.isInt]) (SE ?_));show wpAny _ _ (forIn [] (#[tupleKeyHash (intKind P w) k.1,hashInt k.2]:Array Int) _) _ _ _;rw[List.forIn_nil];refine SE ?_;show wpAny _ _ (retInt<|Builtin.Tuple.tupleHashOf [tupleKeyHash (intKind P w) k.1,hashInt k.2]) _ _ _;refine wpAny_ret_mkInt ?_;have et:s.toks+(k.1.length+1)+1+1=s.toks+(k.1.length+3):=by omega
 unfold wO reduceHash at h;generalize Builtin.Tuple.tupleHashOf [tupleKeyHash (intKind P w) k.1,hashInt k.2]=z at h⊢;show wpAny _ _ (ite ((decide (-(2:Int)^63<=z)&&decide (z<2^63))=true) _ _) Q E _;rw[←et] at h;by_cases hr:(decide (-(2:Int)^63<=z)&&decide (z<2^63))=true
 .rw[if_pos hr] at h⊢;exact SE h
 .rw[if_neg hr] at h⊢;exact SA (Vo<|SE h)
theorem OO{Q:Fin->Shared->Prop}(hu:A.units<cLine)(x:NkIs P w s.heap k a)(y:NkIs P w s.heap m b)(h:Q (.done<|.ret<|.bool<|decide (k=m)) s):wpAny (model P w) A (Builtin.«tuple.__eq__» ⟨[.ref a,.ref b],[]⟩) Q E s:=by
 have hTb:=y.ty;obtain⟨o,b1,t,c,h1,_,h3,h4⟩:=x;obtain⟨o',b1',t',c',g1,_,g3,g4⟩:=y;show wpAny _ _ (isInstance (.ref b) (.type "tuple") >>= _) _ _ s;refine SA (U9 hTb U7 ?_);simp only[Td,S8,if_false];refine SA (Vm h1 h3 ?_);refine SA (Vm g1 g3 ?_);refine SA ?_;show wpAny _ _ (forIn [(Value.ref b1,Value.ref b1'),(Value.int k.2 t,Value.int m.2 t')] ((none:Option PySem.Fin),()) _) _ _ _;rw[List.forIn_cons];refine SA (SA<|wpAny_eqBool_tuple hu h4 g4 ?_);by_cases e1:k.1=m.1
 .rw[S3 e1];simp only[Td,S8,if_false];refine SE ?_;show wpAny _ _ (forIn [(Value.int k.2 t,Value.int m.2 t')] ((none:Option PySem.Fin),()) _) _ _ _;rw[List.forIn_cons];refine SA (SA<|(intKind P w).eqBool (a:=k.2) (b:=m.2) (by simp[intKind,Value.isInt]) (by simp[intKind,Value.isInt]) ?_);by_cases e2:k.2=m.2
  .have e:k=m:=Prod.ext e1 e2;rw[S3 e] at h;rw[S3 e2];simp only[Td,S8,if_false];refine SE ?_;show wpAny _ _ (forIn [] ((none:Option PySem.Fin),()) _) _ _ _;rw[List.forIn_nil];refine SE ?_;exact SE h
  .have e:¬k=m:=fun z=>e2 (by rw[z]);rw[SJ e] at h;rw[SJ e2];simp only[Ts,if_true];exact SA (SE<|SE<|SE<|SE h)
 .have e:¬k=m:=fun z=>e1 (by rw[z]);rw[SJ e] at h;rw[SJ e1];simp only[Ts,if_true];exact SA (SE<|SE<|SE<|SE h)
theorem Sg{Q:Bool->Shared->Prop}(hu:A.units+4<cLine)(x:NkIs P w s.heap k a)(y:NkIs P w s.heap m b)(h:Q (decide (k=m)) s):wpAny (model P w) A (eqBool (.ref a)<|.ref b) Q E s:=by
 unfold eqBool;try with_reducible refine TL ?_
 show wpAny _ _ (ite ((Value.ref a==Value.ref b)=true) _ _) Q E s;by_cases hab:a=b
 .subst hab;rw[if_pos nofun];have:=x.inj y;subst this;exact SA (Vo<|SE<|by simpa using h)
 .rw[if_neg (by simpa using hab)];exact SA (wpAny_richCompare_same_room (op:=.Eq) x.ty y.ty F.slot_tuple_eq (UJ F.slot_tuple_eq x.ty F.entry_tuple_eq (OO (by show A.units+1<cLine;omega) x y ⟨_,rfl,(fun e=>nomatch e),Tt h⟩)<|F.args_tuple_eq_2 _ _) ⋯)
theorem Jz{ks:Ŕ}{n:Nat}{Q:Bool->Shared->Prop}(x:IsTupleKey (intKind P w) s.heap ks a)(h:Q true s):wpAny (model P w) A (eqIsQuiet (n+1)<|.ref a) Q E s:=by
 have hT:=x.typeIs;obtain⟨o,items,c,h1,_,h3,h4⟩:=x;unfold eqIsQuiet;refine SA (UR hT F.slot_tuple_eq.lookup ?_);show wpAny _ _ (isInstance (.ref a) (.type "tuple") >>= _) _ _ s;refine SA (U9 hT U7 ?_);simp only[Td,S8,if_false];refine SA (Vp h1 h3 ?_);refine SA ?_;show wpAny _ _ (forIn items _ _) _ _ s;rw[←Vn];refine wpAny_forIn_list _ (fun fV r s'=>r.1=none/\s'=s/\∀v∈fV,carriedByValue v=true) _ ?_ ?_ _ _ ⟨rfl,rfl,h4.byValue⟩
 .intro v fV r s' q;obtain⟨_,e,q⟩:=q;subst e;rw[eqIsQuiet_byValue _ (q v nofun)];refine SA (SE ?_);simp only[Td,S8,if_false];exact SE ⟨rfl,rfl,fun u hu=>q u<|by simp[hu]⟩
 .intro r s' q;obtain⟨r1,r2⟩:=r;obtain⟨e1,e2,_⟩:=q;cases e1;subst e2;exact SE h
theorem Oq{Q:Bool->Shared->Prop}(x:NkIs P w s.heap k a)(h:Q true s):wpAny (model P w) A (eqIsQuiet 8<|.ref a) Q E s:=by
 have hT:=x.ty;obtain⟨o,b,t,c,h1,_,h3,h4⟩:=x;unfold eqIsQuiet;refine SA (UR hT F.slot_tuple_eq.lookup ?_);show wpAny _ _ (isInstance (.ref a) (.type "tuple") >>= _) _ _ s;refine SA (U9 hT U7 ?_);simp only[Td,S8,if_false];refine SA (Vp h1 h3 ?_);refine SA ?_;rw[←Vn];show wpAny _ _ (forIn [Value.ref b,Value.int k.2 t] _ _) _ _ s;rw[List.forIn_cons];refine SA (SA<|Jz h4 ?_);simp only[Td,S8,if_false];refine SE ?_;show wpAny _ _ (forIn [Value.int k.2 t] _ _) _ _ s;rw[List.forIn_cons,eqIsQuiet_byValue _ rfl];refine SA (SA<|SE ?_);simp only[Td,S8,if_false];refine SE ?_;show wpAny _ _ (forIn [] _ _) _ _ s;rw[List.forIn_nil];exact SE (SE h)
end
def oi(P:Program)(w:World):HeapKind P w NK where
 is:=NkIs P w
 hash:=wO P w
 draws:=fun k=>k.1.length+3
 room:=fun A=>A.units+4<cLine
 inj:=fun x y=>x.inj y
 keeps:=fun x h1 h2 h3=>x.keeps h1 h2 h3
 pyHash:=fun h x q=>Lf h x q
 eqBool:=fun h x y q=>Sg h x y q
 quiet:=fun x q=>Oq x q
inductive HO where
 |lst (xs:Ř)
 |tup (xs:Ř)
 |dK (kvs:List (Key×V))|dT (kvs:List (NK×V))
 |set (S:Int->Bool) (n:Nat)
 |ins (C dx:Addr) (fs:š)
 |own (x:Addr)
 |xd (fs:š)
 |met (f x:Addr)
 |rng (lo hi:Int)
 |frz (o:Obj) (u:HO)
 |tbl (ps:Array Value)
 |ext (φ:Heap->Prop)
abbrev Hp:=Addr->Option HO
def NKey(H:Hp)(b:Addr)(k:NK):Prop:=∃c,H b=some (.tup [.ref c,.int k.2])/\H c=some (.tup<|k.1.map V.int)
def NKey.up{H H':Hp}{b:Addr}{k:NK}(e:NKey H b k)(ht:∀b xs,H b=some (.tup xs)->H' b=some (.tup xs)):NKey H' b k:=let ⟨c,h1,h2⟩:=e;⟨c,ht _ _ h1,ht _ _ h2⟩
def upd(H:Hp)(a:Addr)(o:HO):Hp:=fun b=>if b=a then some o else H b
def gH{H:Hp}{a:Addr}{o:HO}:upd H a o a=some o:=by unfold upd;rw[if_pos rfl]
def fR{H:Hp}{a b:Addr}{o:HO}(h:b≠a):upd H a o b=H b:=by unfold upd;rw[if_neg h]
def Lk{H:Hp}{a b:Addr}{o u:HO}(h:H a=some o)(h':H b=some u)(d:o≠u):a≠b:=by
 intro e;subst e;rw[h] at h';exact d (S5 h')
def iA{H:Hp}{a b:Addr}{o:HO}(h:H a=some o)(h':H b=none):a≠b:=by
 intro e;subst e;rw[h] at h';cases h'
section
variable (P:Program) (w:World)
def ObjOk(H:Hp)(h:Heap)(a:Addr):HO->Prop
 | .lst xs=>xs.length<=sizeLine/\∃(its:Ő) (n:Nat),Vals xs its/\h.get? a=some {cls:=.type "list",data:=.seq its.toArray n}
 | .tup xs=>xs.length<=sizeLine/\∃its:Ő,Vals xs its/\IsTup h a its.toArray
 | .dK kvs=>kvs.length<=sizeLine/\(a==sysModules)=false/\∃vs,KV kvs vs/\h.DictOf (iW P w) a vs
 | .dT kvs=>kvs.length<=sizeLine/\(a==sysModules)=false/\∃xs:List (NK×Addr×Value),
   Paired (fun(p:NK×V) (q:NK×Addr×Value)=>p.1=q.1/\NKey H q.2.1 p.1/\RelV p.2 q.2.2) kvs xs/\
   ∃o es ep,h.get? a=some o/\o.ExactDict/\o.data=.dict es ep/\es.toList=xs.map (entryOfKey<|oi P w)/\(xs.map (·.1)).Nodup
 | .set S n=>h.SetOf (intKind P w) a S n
 | .ins C dx fs=>H dx=some (.own a)/\fs.length<=1000/\dx≠a/\h.get? a=some (PySem.W.instObj C dx)/\
   ∃mA,h.Ns1 dx mA/\(∀f,RelO (fs.lookup f)<|mA f)/\PySem.Within mA (fs.map (·.1))
 | .own _=>∃o,h.get? a=some o
 | .xd fs=>∃mA,h.Ns1 a mA/\∀f,RelO (fs.lookup f) (mA f)
 | .rng lo hi=>∃t u v,h.get? a=some {cls:=.type "range",data:=.fields #[.int lo t,.int hi u,.int 1 v]}
 | .frz o u=>h.get? a=some o/\ObjOk H h a u
 | .tbl ps=>h.get? a=some {cls:=.none,data:=.fields ps}
 | .met f x=>h.get? a=some (PySem.W.methodObj (.ref f)<|.ref x)
 | .ext φ=>φ h/\(∃o,h.get? a=some o)/\∀h1 h2:Heap,φ h1->(∀o,h1.get? a=some o->h2.get? a=some o)->φ h2
def HOk(H:Hp)(h:Heap):Prop:=∀a o,H a=some o->ObjOk P w H h a o
end
section
variable {P:Program} {w:World} {H H':Hp} {h h':Heap} {a:Addr} {o:HO}
theorem ObjOk.lt(x:ObjOk P w H h a o):a<h.objs.size:=by
 cases o with
 |lst xs=>obtain⟨_,_,_,_,e⟩:=x;exact SI e
 |tup xs=>obtain⟨_,_,_,p⟩:=x;exact p.lt
 |dK kvs=>obtain⟨_,_,_,_,o,_,_,e,_⟩:=x;exact SI e
 |dT kvs=>obtain⟨_,_,_,_,o,_,_,e,_⟩:=x;exact SI e
 |set S n=>obtain⟨o,_,_,_,e,_⟩:=x;exact SI e
 |ins C dx fs=>obtain⟨_,_,_,e,_⟩:=x;exact SI e
 |own y=>obtain⟨_,e⟩:=x;exact SI e
 |xd fs=>obtain⟨_,⟨_,_,_,e,_⟩,_⟩:=x;exact SI e
 |rng lo hi=>obtain⟨_,_,_,e⟩:=x;exact SI e
 |frz ob u=>obtain⟨e,_⟩:=x;exact SI e
 |tbl ps=>exact SI (show h.get? a=some _ from x)
 |met f y=>exact SI (show h.get? a=some _ from x)
 |ext φ=>obtain⟨_,⟨_,e⟩,_⟩:=x;exact SI e
theorem Paired.mapP{J β:Type}{F G:J->β->Prop}:∀{Zh:List J} {Zg:List β},Paired F Zh Zg->(∀a b,F a b->G a b)->Paired G Zh Zg
 |_,_,.nil,_=>.nil
 |_,_,.cons r t,f=>.cons (f _ _ r) (Paired.mapP t f)
theorem ObjOk.stay(x:ObjOk P w H h a o)(k:∀b u,(b=a\/H b=some (.own a))->h.get? b=some u->h'.get? b=some u)
  (ho:∀b,H b=some (.own a)->H' b=some (.own a)) (ht:∀b xs,H b=some (.tup xs)->H' b=some (.tup xs)):ObjOk P w H' h' a o:=by
 induction o with
 |lst xs=>obtain⟨z,its,n,r,e⟩:=x;exact⟨z,its,n,r,k _ _ (.inl rfl) e⟩
 |tup xs=>obtain⟨z,its,r,ob,e,c⟩:=x;exact⟨z,its,r,ob,k _ _ (.inl rfl) e,c⟩
 |dK kvs=>obtain⟨z,y,vs,r,ob,es,ep,e,c⟩:=x;exact⟨z,y,vs,r,ob,es,ep,k _ _ (.inl rfl) e,c⟩
 |dT kvs=>
  obtain⟨z,y,xs,r,ob,es,ep,e,c⟩:=x;exact⟨z,y,xs,Paired.mapP r fun p q z=>⟨z.1,z.2.1.up ht,z.2.2⟩,ob,es,ep,k _ _ (.inl rfl) e,c⟩
 |set S n=>obtain⟨ob,es,ep,t,e,c⟩:=x;exact⟨ob,es,ep,t,k _ _ (.inl rfl) e,c⟩
 |ins C dx fs=>
  obtain⟨d,z,ne,e,mA,⟨od,es,ep,e2,c⟩,r⟩:=x;exact⟨ho _ d,z,ne,k _ _ (.inl rfl) e,mA,⟨od,es,ep,k _ _ (.inr d) e2,c⟩,r⟩
 |own y=>obtain⟨ob,e⟩:=x;exact⟨ob,k _ _ (.inl rfl) e⟩
 |xd fs=>obtain⟨mA,⟨od,es,ep,e,c⟩,r⟩:=x;exact⟨mA,⟨od,es,ep,k _ _ (.inl rfl) e,c⟩,r⟩
 |rng lo hi=>obtain⟨t,u,v,e⟩:=x;exact⟨t,u,v,k _ _ (.inl rfl) e⟩
 |frz ob u ih=>obtain⟨e,q⟩:=x;exact⟨k _ _ (.inl rfl) e,ih q⟩
 |tbl ps=>
  have e:h.get? a=some {cls:=.none,data:=.fields ps}:=x;show h'.get? a=some {cls:=.none,data:=.fields ps};exact k a _ (.inl rfl) e
 |met f y=>
  have e:h.get? a=some (PySem.W.methodObj (.ref f)<|.ref y):=x;show h'.get? a=some (PySem.W.methodObj (.ref f)<|.ref y);exact k a _ (.inl rfl) e
 |ext φ=>obtain⟨p,⟨o,e⟩,st⟩:=x;exact⟨st _ _ p fun o q=>k _ _ (.inl rfl) q,⟨o,k _ _ (.inl rfl) e⟩,st⟩
theorem HOk.lt(x:HOk P w H h)(e:H a=some o):a<h.objs.size:=(x a o e).lt
theorem HOk.fresh(x:HOk P w H h)(e:h.objs.size<=a):H a=none:=by
 cases q:H a with
 |none=>rfl
 |some u=>exact absurd (SU (x.lt q) e) (Ti _)
theorem HOk.kept(x:HOk P w H h)(k:∀b u,h.get? b=some u->h'.get? b=some u):HOk P w H h':=fun a o e=>
 (x a o e).stay (fun b u _ q=>k b u q) (fun _ q=>q) fun _ _ q=>q
theorem HOk.laid(x:HOk P w H h)(k:∀b u,h.get? b=some u->h'.get? b=some u)(hp:h.objs.size<=a)(new:ObjOk P w (upd H a o) h' a o):HOk P w (upd H a o) h':=fun b u e=>by
 have hn:=x.fresh hp;by_cases hb:b=a
 .subst hb;rw[gH] at e;cases e;exact new
 .rw[fR hb] at e;exact(x b u e).stay (fun c v _ q=>k c v q) (fun c q=>by rw[fR (iA q hn)];exact q) fun c xs q=>by rw[fR (iA q hn)];exact q
end
def Rd(H:Hp)(a:Addr)(u:HO):Prop:=H a=some u\/∃o,H a=some (.frz o u)
def Rd.ok{P:Program}{w:World}{H:Hp}{h:Heap}{a:Addr}{u:HO}(r:Rd H a u)(x:HOk P w H h):ObjOk P w H h a u:=by
 rcases r with r|⟨o,r⟩
 .exact x a u r
 .obtain⟨_,q⟩:=x a _ r;exact q
def Mut:Option HO->Prop
 |some (.lst _)=>True
 |some (.dK _)=>True
 |some (.dT _)=>True
 |some (.set _ _)=>True
 |some (.ins _ _ _)=>True
 |some (.ext _)=>True
 |_=>False
section
variable {P:Program} {w:World} {H:Hp} {h h':Heap} {x e:Addr} {o':HO}
theorem HOk.write(ok:HOk P w H h)(mu:Mut (H x))(he:e=x\/H e=some (.own x))(k:∀b u,b≠e->h.get? b=some u->h'.get? b=some u)(heo:∃u,h'.get? e=some u)
  (new:ObjOk P w (upd H x o') h' x o'):HOk P w (upd H x o') h':=fun b u q=>by
 have nown:∀c y,H c=some (.own y)->c≠x:=fun c y r z=>by subst z;rw[r] at mu;exact mu
 have ntup:∀c xs,H c=some (.tup xs)->c≠x:=fun c xs r z=>by subst z;rw[r] at mu;exact mu
 by_cases hb:b=x
 .subst hb;rw[gH] at q;cases q;exact new
 .rw[fR hb] at q;by_cases hbe:b=e
  .have q':H b=some (.own x):=by
    rcases he with z|z
    .exact absurd (hbe.trans z) hb
    .rw[hbe];exact z
   rw[q] at q';cases q';obtain⟨v,hv⟩:=heo;exact⟨v,by rw[hbe];exact hv⟩
  .refine(ok b u q).stay (fun c v hc r=>k c v ?_ r) (fun c r=>by rw[fR (nown c b r)];exact r) fun c xs r=>by rw[fR (ntup c xs r)];exact r
   rcases hc with rfl|hc
   .exact hbe
   .rintro rfl;rcases he with z|z
    .exact nown c b hc z
    .rw[hc] at z;cases z;exact hb rfl
end
structure Un (fs ex:ś) (H H':Hp) (h h':Heap):Prop where
 keep:∀b o,h.get? b=some o->H b=none->b∉fs->b∉ex->h'.get? b=some o
 slot:∀b o,h.get? b=some o->H b=none->b∈fs->b∉ex->∃sl,h'.get? b=some {o with slots:=sl}
 free:∀b o,h.get? b=some o->H b=none->b∉ex->H' b=none
 there:∀b o,h.get? b=some o->b∉ex->∃o',h'.get? b=some o'
 tups:∀b xs,H b=some (.tup xs)->H' b=some (.tup xs)
 frzs:∀b o u,H b=some (.frz o u)->H' b=some (.frz o u)
 tbls:∀b ps,H b=some (.tbl ps)->∃more,H' b=some (.tbl<|ps++more)
section
variable {fs ex:ś} {H H1:Hp} {h h1 h':Heap} {a x e:Addr} {o:HO}
theorem Un.any(u:Un fs ex H H1 h h1){b:Addr}{ob:Obj}(q:h.get? b=some ob)(n:H b=none)(hx:b∉ex):∃sl,h1.get? b=some {ob with slots:=sl}:=by
 by_cases hb:b∈fs
 .exact u.slot b ob q n hb hx
 .exact⟨ob.slots,u.keep b ob q n hb hx⟩
theorem Un.kept(k:∀b u,h.get? b=some u->h'.get? b=some u):Un fs ex H H h h':=
 ⟨fun b ob q _ _ _=>k b ob q,fun b ob q _ _ _=>⟨ob.slots,k b ob q⟩,fun _ _ _ n _=>n,fun b ob q _=>⟨ob,k b ob q⟩,fun _ _ q=>q,fun _ _ _ q=>q,fun _ ps q=>⟨#[],by rw[q];simp⟩⟩
theorem Un.refl:Un fs ex H H h h:=Un.kept fun _ _ q=>q
theorem Un.laid(k:∀b u,h.get? b=some u->h'.get? b=some u)(hp:h.objs.size<=a)(hn:H a=none):Un fs ex H (upd H a o) h h' where
 keep:=fun b u q _ _ _=>k b u q
 slot:=fun b u q _ _ _=>⟨u.slots,k b u q⟩
 free:=fun b u q n _=>by rw[fR (SY<|SU (SI q) hp)];exact n
 there:=fun b u q _=>⟨u,k b u q⟩
 tups:=fun b xs q=>by rw[fR (iA q hn)];exact q
 frzs:=fun b u xs q=>by rw[fR (iA q hn)];exact q
 tbls:=fun b ps q=>⟨#[],by rw[fR (iA q hn),q];simp⟩
theorem Un.write(mu:Mut (H x))(he:e=x\/H e=some (.own x))(k:∀b u,b≠e->h.get? b=some u->h'.get? b=some u)(heo:∃u,h'.get? e=some u):Un fs ex H (upd H x o) h h':=by
 have hx:∀b,H b=none->b≠x:=fun b n z=>by subst z;rw[n] at mu;exact mu
 have hb:∀b,H b=none->b≠e:=fun b n z=>by
  subst z;rcases he with r|r
  .exact hx b n r
  .rw[n] at r;cases r
 have hm:∀b u,H b=some u->¬Mut (some u)->b≠x:=fun b u q nm z=>by subst z;rw[q] at mu;exact nm mu
 refine⟨fun b u q n _ _=>k b u (hb b n) q,fun b u q n _ _=>⟨u.slots,k b u (hb b n) q⟩,fun b u q n _=>by rw[fR (hx b n)];exact n,fun b u q _=>?_,
  fun b xs q=>by rw[fR (hm b _ q fun z=>z)];exact q,fun b u xs q=>by rw[fR (hm b _ q fun z=>z)];exact q,fun b ps q=>⟨#[],by rw[fR (hm b _ q fun z=>z),q];simp⟩⟩
 by_cases hbe:b=e
 .subst hbe;exact heo
 .exact⟨u,k b u hbe q⟩
end
def trk(h:Heap)(H:Hp):ś:=(List.range h.objs.size).filter fun a=>(H a).isSome
def lb(h:Heap)(H:Hp):Heap:=PySem.W.hideAll h (trk h H)
def HL(h:Heap)(H:Hp):(lb h H).objs.size=h.objs.size:=PySem.W.hideAll_size _ _
def GU{h:Heap}{H:Hp}{b:Addr}{o:Obj}(e:h.get? b=some o)(n:H b=none):(lb h H).get? b=some o:=
 PySem.W.hideAll_get _ e fun hm=>by
  have q:(H b).isSome=true:=(Ta.mp hm).2;rw[n] at q;simp at q
def KA{h:Heap}{H:Hp}{b:Addr}{o:Obj}(e:(lb h H).get? b=some o):h.get? b=some o/\H b=none:=by
 have e':h.get? b=some o:=PySem.W.of_hideAll (trk h H) e;refine⟨e',?_⟩;cases q:H b with
 |none=>rfl
 |some x=>
  have hm:b∈trk h H:=Ta.mpr ⟨TR.mpr (SI e'),by simp[q]⟩;have z:(lb h H).get? b=none:=PySem.W.hideAll_none (trk h H) hm;rw[z] at e;cases e
def Fb(g h:Heap)(Z7:Addr):SL:=(List.range h.objs.size).filterMap fun a=>if a=Z7\/(g.get? a).isSome=true then none else(h.get? a).map fun o=>(a,o)
def fV(g h:Heap)(Z7 d:Addr):SL:=(Fb g h Z7).filter fun p=>decide (p.1≠d)
structure Mod (K:Frag) (mg:ő) (base:Heap):Prop where
 kin:K.In base
 glob:base.Ns mainGlobals mg
 blt:∃mb,base.Ns builtinsNs mb/\∀x:Str,x≠"__name__"->mb x=bootBuiltins x
 nolimit:base.NoLimit
structure Cx where
 prog:Program
 w:World
 K:Frag
 mg:ő
 base:Heap
 A:Around
 N:Ŗ
 Z1:Shared
 ZZ:Hp
 env:Env
 outer:ş
 stack:ş
 ex:ś
 fn:Str->Bool
 calm:Bool
 pn:SL
 xe:Value->Shared->Prop
def frs(l:ş):ś:=l.filterMap (·.frame)
abbrev Cx.fs(X:Cx):ś:=frs X.outer
def Vis(sc:Scope)(x:Str):Prop:=sc.names.lookup x=some .local\/sc.names.lookup x=some .cell\/sc.names.lookup x=some .free
def Loc(sc:Scope)(x:Str):Prop:=sc.names.lookup x=some .local\/sc.names.lookup x=some .cell
def Q1(env:Env)(h:Heap)(m:ő)(x:Str)(u:Value):Prop:=
 (env.kindOf x=some .local/\m x=some u)\/((env.kindOf x=some .cell\/env.kindOf x=some .free)/\∃c,env.cells.lookup x=some c/\h.IsCell c (some u))
structure Cx.Ok (X:Cx):Prop where
 mod:Mod X.K X.mg X.base
 kind:X.env.scope.kind=.function
 glob:X.env.globals=mainGlobals
 blt:X.env.builtins=builtinsNs
 above:X.Z1.heap.objs.size<=X.env.locals
 inj:∀x y c,X.env.cells.lookup x=some c->X.env.cells.lookup y=some c->x=y
 has:∀x,(X.env.kindOf x=some .cell\/X.env.kindOf x=some .free)->∃c,X.env.cells.lookup x=some c
 cab:∀x c,X.fn x=true->X.env.cells.lookup x=some c->X.Z1.heap.objs.size<=c
 hd:X.calm=true->X.A.handled=none
 frames:X.A.frames=some X.stack
 stk:X.stack=X.outer\/(X.stack=X.env::X.outer/\X.env.frame=some X.env.locals)
 exf:∀b∈X.ex,b≠X.env.locals/\∀x c,X.env.cells.lookup x=some c->c≠b
 bs:∀b o,X.base.get? b=some o->X.Z1.heap.get? b=some o/\X.ZZ b=none
 bsz:X.base.objs.size<=X.Z1.heap.objs.size
 noex:∀b o,X.base.get? b=some o->b∉X.ex
 exfs:∀b∈X.ex,b∉X.fs
 funs:X.Z1.heap.FunFrames X.base X.outer
 frf:∀b∈X.fs,X.ZZ b=none
structure Inv (X:Cx) (pins:SL) (L:List (Option V)) (H:Hp) (s:Shared):Prop where
 ok:X.Ok
 os:s.os=X.Z1.os
 bare:AllBare s.gens
 base:Un X.fs X.ex X.ZZ H X.Z1.heap s.heap
 loc:∃m,s.heap.Ns X.env.locals m/\∀(i:Nat) (x:Str) (v:V),X.N[i]?=some x->L[i]?=some (some v)->Vis X.env.scope x->∃u,RelV v u/\Q1 X.env s.heap m x u
 cell:∀x c,X.env.cells.lookup x=some c->∃v,s.heap.IsCell c v
 free:H X.env.locals=none
 freeC:∀x c,X.env.cells.lookup x=some c->H c=none
 pin:∀p∈X.pn++pins,s.heap.get? p.1=some p.2/\H p.1=none/\p.1≠X.env.locals/\p.1∉X.fs/\∀v,p.2.data≠.cell v
 hok:HOk X.prog X.w H s.heap
 len:L.length=X.N.length
section
variable {X:Cx} {pins:SL} {L:List (Option V)} {H H':Hp} {s:Shared} {h':Heap}
theorem Cx.Ok.nofr(ok:X.Ok){b:Addr}{o:Obj}(e:X.base.get? b=some o):b∉X.fs:=fun hb=>by
 have:=(ok.funs.mem hb).1;rw[e] at this;cases this
theorem Inv.bs(I:Inv X pins L H s):∀b o,X.base.get? b=some o->s.heap.get? b=some o/\H b=none:=fun b o e=>
 ⟨I.base.keep b o (I.ok.bs b o e).1 (I.ok.bs b o e).2 (I.ok.nofr e) (I.ok.noex b o e),I.base.free b o (I.ok.bs b o e).1 (I.ok.bs b o e).2 (I.ok.noex b o e)⟩
theorem Inv.bk(I:Inv X pins L H s):∀b o,X.base.get? b=some o->s.heap.get? b=some o:=fun b o e=>(I.bs b o e).1
theorem Inv.mod(I:Inv X pins L H s):Mod X.K X.mg X.base:=I.ok.mod
theorem Inv.kIn(I:Inv X pins L H s):X.K.In s.heap:=I.ok.mod.kin.keeps I.bk
theorem Inv.lt(I:Inv X pins L H s):X.env.locals<s.heap.objs.size:=let ⟨_,hn,_⟩:=I.loc;hn.lt
theorem Inv.sz(I:Inv X pins L H s):X.Z1.heap.objs.size<=s.heap.objs.size:=Tg I.ok.above (Vk I.lt)
theorem Inv.nofs(I:Inv X pins L H s){a:Addr}(h:s.heap.objs.size<=a):a∉X.fs:=fun hb=>by
 obtain⟨_,o,ho,_⟩:=I.ok.funs.mem hb;exact(absurd (SU (SI ho)<|Tg I.sz h)<|Ti _)
theorem Inv.cne(I:Inv X pins L H s):∀x c,X.env.cells.lookup x=some c->c≠X.env.locals:=fun x c e z=>by
 obtain⟨v,o,ho,hd⟩:=I.cell x c e;obtain⟨m,⟨o',es,ep,ho',hd',_⟩,_⟩:=I.loc;rw[z,ho'] at ho;cases ho;rw[hd'] at hd;cases hd
theorem Inv.funs(I:Inv X pins L H s):s.heap.FunFrames X.base X.outer:=by
 have all:∀(l:ş),(∀b∈frs l,b∈X.fs)->X.Z1.heap.FunFrames X.base l->s.heap.FunFrames X.base l:=by
  intro l;induction l with
  |nil=>intro _ _;trivial
  |cons env r ih=>
   intro hs hl;obtain⟨hk,⟨Z7,o,hf,hn,ho,hd⟩,hr⟩:=hl;have hL:Z7∈X.fs:=hs Z7 (by unfold frs;rw[Vi,hf];exact Uy);obtain⟨sl,e⟩:=I.base.slot Z7 o ho (I.ok.frf Z7 hL) hL fun z=>I.ok.exfs Z7 z hL;exact⟨hk,⟨Z7,_,hf,hn,e,hd⟩,ih (fun b hb=>hs b (by unfold frs;rw[Vi,hf];exact Tp _ hb)) hr⟩
 exact all X.outer (fun _ hb=>hb) I.ok.funs
theorem Inv.stack(I:Inv X pins L H s):s.heap.FunFrames X.base X.stack:=by
 rcases I.ok.stk with e|⟨e,hf⟩
 .rw[e];exact I.funs
 .rw[e];obtain⟨m,hn,_⟩:=I.loc;refine .cons (by rw[I.ok.kind];decide) hf hn ?_ I.funs;exact Heap.get?_none_of_le (Tg I.ok.bsz I.ok.above)
theorem Inv.stkSub(I:Inv X pins L H s):∀b∈frs X.stack,b∈X.env.locals::X.fs:=fun b hb=>by
 rcases I.ok.stk with e|⟨e,hf⟩
 .rw[e] at hb;exact Tp _ hb
 .rw[e] at hb;unfold frs at hb;rw[Vi,hf] at hb;exact hb
theorem Inv.stkFree(I:Inv X pins L H s):∀b∈frs X.stack,H b=none:=fun b hb=>by
 rcases S2.mp (I.stkSub b hb) with e|hb
 .rw[e];exact I.free
 .obtain⟨_,o,ho,_⟩:=I.ok.funs.mem hb;exact I.base.free b o ho (I.ok.frf b hb) fun z=>I.ok.exfs b z hb
theorem Inv.step{g':Array GenState}{t':Nat}{d':Drawn}{ch:ś}(I:Inv X pins L H s)
  (hch:∀b∈ch,(b∈X.ex\/X.Z1.heap.objs.size<=b)/\b≠X.env.locals/\(∀x c,X.env.cells.lookup x=some c->c≠b)/\∀p∈X.pn++pins,p.1≠b)
  (keep:∀b o,b≠X.env.locals->b∉X.fs->b∉ch->s.heap.get? b=some o->H b=none->h'.get? b=some o)
  (slot:∀b o,b≠X.env.locals->b∈X.fs->b∉ch->s.heap.get? b=some o->H b=none->∃sl,h'.get? b=some {o with slots:=sl}) (free:∀b o,b∉ch->s.heap.get? b=some o->H b=none->H' b=none)
  (there:∀b o,b∉ch->s.heap.get? b=some o->∃o',h'.get? b=some o')
  (tups:∀b xs,H b=some (.tup xs)->H' b=some (.tup xs)) (frzs:∀b o u,H b=some (.frz o u)->H' b=some (.frz o u)) (tbls:∀b ps,H b=some (.tbl ps)->∃more,H' b=some (.tbl<|ps++more))
  (ns:∀m,s.heap.Ns X.env.locals m->h'.Ns X.env.locals m) (hok:HOk X.prog X.w H' h') (hg:AllBare g'):
  Inv X pins L H' {s with heap:=h',gens:=g',drawn:=d',toks:=t'}:=by
 have neL:∀b o,X.Z1.heap.get? b=some o->b≠X.env.locals:=fun b o e=>SY (SU (SI e) I.ok.above);have neC:∀b o,X.Z1.heap.get? b=some o->b∉X.ex->b∉ch:=fun b o e hx hb=>by
  rcases(hch b hb).1 with z|z
  .exact hx z
  .exact absurd (SU (SI e) z) (Ti _)
 have cellK:∀x c,X.env.cells.lookup x=some c->∀v,s.heap.IsCell c v->h'.IsCell c v:=fun x c e v ⟨o,ho,hd⟩=>by
  have nch:c∉ch:=fun z=>(hch c z).2.2.1 x c e rfl;by_cases hc:c∈X.fs
  .obtain⟨sl,q⟩:=slot c o (I.cne x c e) hc nch ho (I.freeC x c e);exact⟨_,q,hd⟩
  .exact⟨o,keep c o (I.cne x c e) hc nch ho (I.freeC x c e),hd⟩
 refine⟨I.ok,I.os,hg,⟨fun b o e n hb hx=>?_,fun b o e n hb hx=>?_,fun b o e n hx=>?_,fun b o e hx=>?_,fun b xs e=>tups b xs (I.base.tups b xs e),fun b o xs e=>frzs b o xs (I.base.frzs b o xs e),fun b ps e=>?_⟩,?_,fun x c e=>?_,?_,fun x c e=>?_,fun p hp=>?_,hok,I.len⟩
 .exact keep b o (neL b o e) hb (neC b o e hx) (I.base.keep b o e n hb hx) (I.base.free b o e n hx)
 .obtain⟨sl,e1⟩:=I.base.slot b o e n hb hx;obtain⟨sl',e2⟩:=slot b _ (neL b o e) hb (neC b o e hx) e1 (I.base.free b o e n hx);exact(⟨sl',e2⟩)
 .obtain⟨o',e1⟩:=I.base.there b o e hx;exact free b o' (neC b o e hx) e1 (I.base.free b o e n hx)
 .obtain⟨o',e1⟩:=I.base.there b o e hx;exact there b o' (neC b o e hx) e1
 .obtain⟨m1,e1⟩:=I.base.tbls b ps e;obtain⟨m2,e2⟩:=tbls b _ e1;exact(⟨m1++m2,by rw[e2,Array.append_assoc]⟩)
 .obtain⟨m,hn,hl⟩:=I.loc;refine⟨m,ns m hn,fun i x v e1 e2 e3=>?_⟩;obtain⟨u,r,l⟩:=hl i x v e1 e2 e3;refine(⟨u,r,?_⟩);rcases l with l|⟨k,c,e,z⟩
  .exact .inl l
  .exact .inr ⟨k,c,e,cellK x c e _ z⟩
 .obtain⟨v,z⟩:=I.cell x c e;exact⟨v,cellK x c e v z⟩
 .obtain⟨m,⟨o,_,_,ho,_⟩,_⟩:=I.loc;exact free _ o (fun z=>(hch _ z).2.1 rfl) ho I.free
 .obtain⟨v,o,ho,hd⟩:=I.cell x c e;exact free c o (fun z=>(hch c z).2.2.1 x c e rfl) ho (I.freeC x c e)
 .obtain⟨e,n,ne,nf,d⟩:=I.pin p hp;have nch:p.1∉ch:=fun z=>(hch p.1 z).2.2.2 p hp rfl;exact⟨keep p.1 p.2 ne nf nch e n,free p.1 p.2 nch e n,ne,nf,d⟩
theorem Inv.un{t':Nat}(I:Inv X pins L H s)(u:Un X.fs [] H H' s.heap h')(hok:HOk X.prog X.w H' h'):Inv X pins L H' {s with heap:=h',toks:=t'}:=by
 obtain⟨m,⟨o,es,ep,ho,r⟩,_⟩:=id I.loc;obtain⟨sl,hL⟩:=u.any ho I.free nofun;exact I.step (g':=s.gens) (d':=s.drawn) (ch:=[]) (fun _ z=>nomatch z) (fun b o _ hb _ e n=>u.keep b o e n hb nofun) (fun b o _ hb _ e n=>u.slot b o e n hb nofun) (fun b o _ e n=>u.free b o e n nofun) (fun b o _ e=>u.there b o e nofun) u.tups u.frzs u.tbls (fun m' hm=>by
  obtain⟨o',es',ep',ho',r'⟩:=hm;rw[ho] at ho';cases ho';exact⟨_,es',ep',hL,r'⟩) hok I.bare
theorem Inv.call{g':Array GenState}{t':Nat}{d':Drawn}{ch:ś}(I:Inv X pins L H s)(u:Un (frs X.stack) ch H H' s.heap h')(hok:HOk X.prog X.w H' h')(hg:AllBare g')
  (hch:∀b∈ch,(b∈X.ex\/X.Z1.heap.objs.size<=b)/\b≠X.env.locals/\(∀x c,X.env.cells.lookup x=some c->c≠b)/\∀p∈X.pn++pins,p.1≠b):
  Inv X pins L H' {s with heap:=h',gens:=g',drawn:=d',toks:=t'}:=by
 obtain⟨m,⟨o,es,ep,ho,r⟩,_⟩:=id I.loc;obtain⟨sl,hL⟩:=u.any ho I.free fun z=>(hch _ z).2.1 rfl;exact I.step (ch:=ch) hch (fun b o hL hb hc e n=>u.keep b o e n (fun z=>(S2.mp<|I.stkSub b z).elim hL hb) hc) (fun b o _ _ hc e n=>u.any e n hc) (fun b o hc e n=>u.free b o e n hc) (fun b o hc e=>u.there b o e hc) u.tups u.frzs u.tbls (fun m' hm=>by
  obtain⟨o',es',ep',ho',r'⟩:=hm;rw[ho] at ho';cases ho';exact⟨_,es',ep',hL,r'⟩) hok hg
theorem Inv.turned{t':Nat}{it:Addr}(I:Inv X pins L H s)(k:∀b o,b≠it->s.heap.get? b=some o->h'.get? b=some o)(hn:H it=none)(hL:it≠X.env.locals)
  (h1:it∈X.ex\/X.Z1.heap.objs.size<=it) (h2:∀x c,X.env.cells.lookup x=some c->c≠it) (h3:∀p∈X.pn++pins,p.1≠it):Inv X pins L H {s with heap:=h',toks:=t'}:=by
 have nit:∀b u,H b=some u->b≠it:=fun b u e z=>by rw[z,hn] at e;cases e
 refine I.step (g':=s.gens) (d':=s.drawn) (ch:=[it]) (fun b hb=>?_) (fun b o _ _ hc e _=>k b o (fun z=>hc<|by simp[z]) e) (fun b o _ _ hc e _=>⟨o.slots,k b o (fun z=>hc<|by simp[z]) e⟩) (fun _ _ _ _ n=>n)
  (fun b o hc e=>⟨o,k b o (fun z=>hc<|by simp[z]) e⟩) (fun _ _ e=>e) (fun _ _ _ e=>e) (fun b ps e=>⟨#[],by rw[e];simp⟩) (fun m hm=>?_) (fun b u e=>?_) I.bare
 .have e:b=it:=by simpa using hb
  subst e;exact⟨h1,hL,h2,h3⟩
 .obtain⟨o,es,ep,ho,r⟩:=hm;exact⟨o,es,ep,k _ o (Ne.symm hL) ho,r⟩
 .refine(I.hok b u e).stay (fun c v hc q=>k c v ?_ q) (fun _ q=>q) fun _ _ q=>q;rcases hc with z|z
  .rw[z];exact nit b u e
  .exact nit c _ z
theorem Inv.tok(I:Inv X pins L H s)(t:Nat):Inv X pins L H {s with toks:=t}:=I.un (h':=s.heap) (t':=t) Un.refl I.hok
theorem Inv.kept(I:Inv X pins L H s)(k:∀b u,s.heap.get? b=some u->h'.get? b=some u):Inv X pins L H {s with heap:=h',toks:=t'}:=I.un (Un.kept k) (I.hok.kept k)
theorem Inv.laid{a:Addr}{o:HO}{t':Nat}(I:Inv X pins L H s)(k:∀b u,s.heap.get? b=some u->h'.get? b=some u)(hp:s.heap.objs.size<=a)(new:ObjOk X.prog X.w (upd H a o) h' a o):
  Inv X pins L (upd H a o) {s with heap:=h',toks:=t'}:=I.un (Un.laid k hp<|I.hok.fresh hp) (I.hok.laid k hp new)
theorem Inv.write{x e:Addr}{o:HO}{t':Nat}(I:Inv X pins L H s)(mu:Mut (H x))(he:e=x\/H e=some (.own x))(k:∀b u,b≠e->s.heap.get? b=some u->h'.get? b=some u)(heo:∃u,h'.get? e=some u)
  (new:ObjOk X.prog X.w (upd H x o) h' x o):Inv X pins L (upd H x o) {s with heap:=h',toks:=t'}:=I.un (Un.write mu he k heo) (I.hok.write mu he k heo new)
theorem Inv.pins_of(I:Inv X pins L H s)(h:∀p∈pins',s.heap.get? p.1=some p.2/\H p.1=none/\p.1≠X.env.locals/\p.1∉X.fs/\∀v,p.2.data≠.cell v):Inv X pins' L H s:=
 ⟨I.ok,I.os,I.bare,I.base,I.loc,I.cell,I.free,I.freeC,fun p hp=>(Tb.mp hp).elim (fun z=>I.pin p<|UG _ z) (h p),I.hok,I.len⟩
theorem D6{N:Ŗ}(hN:N.Nodup){i j:Nat}{x:Str}(a:N[i]?=some x)(b:N[j]?=some x):i=j:=by
 obtain⟨h1,e1⟩:=SG.mp a;obtain⟨h2,e2⟩:=SG.mp b;exact((List.getElem_inj hN).mp (e1.trans e2.symm))
theorem Cj{M:Model}{A:Around}{E:SC}{i:Nat}{x:Str}{v:V}{u:Value}{Q:Unit->Shared->Prop}(I:Inv X pins L H s)(hN:X.N.Nodup)(hi:X.N[i]?=some x)(hx:Loc X.env.scope x)(r:RelV v u)
  (h:∀s',Inv X pins (L.set i<|some v) H s'->(∃a,Heap.SameBut a s.heap s'.heap/\(a=X.env.locals\/X.env.cells.lookup x=some a))->Q () s') (hf:X.fn x=true\/X.env.scope.names.lookup x=some .local:=by first|exact .inl rfl|exact .inr rfl|assumption):wpAny M A (storeName X.env x u) Q E s:=by
 obtain⟨m,hn,hl⟩:=id I.loc;have hcls:(X.env.scope.kind==.class||(X.env.scope.kind==.module&&X.env.locals !=X.env.globals))=false:=by rw[I.ok.kind];rfl
 have Zf:i<L.length:=by rw[I.len];exact(SG.mp hi).1
 have cne:=I.cne;have tracked:∀{a:Addr} {h':Heap},(∃o,s.heap.get? a=some o/\H a=none)->Heap.SameBut a s.heap h'->HOk X.prog X.w H h':=fun{a h'} ha hs b ob e=>by
  obtain⟨_,_,hfree⟩:=ha;refine((I.hok b ob e).stay (fun c w' hc q=>(hs.2 c ?_).trans q) (fun _ q=>q) fun _ _ q=>q);rintro rfl;rcases hc with rfl|hc
  .rw[hfree] at e;cases e
  .rw[hfree] at hc;cases hc
 rcases hx with hk|hk
 .refine wpAny_storeName_local hk hn (fun h' hn' hs=>?_) hcls;obtain⟨oL,_,_,hoL,_⟩:=id hn;refine(h _ ⟨I.ok,I.os,I.bare,⟨fun b o e n hb hx=>?_,fun b o e n hb hx=>?_,I.base.free,fun b o e hx=>?_,I.base.tups,I.base.frzs,I.base.tbls⟩,⟨_,hn',fun j y v' e1 e2 e3=>?_⟩,fun y c e=>?_,I.free,I.freeC,fun p hp=>?_,tracked ⟨oL,hoL,I.free⟩ hs,by simpa using I.len⟩ ⟨_,hs,.inl rfl⟩)
  .exact(hs.2 b<|SY<|SU (SI e) I.ok.above).trans (I.base.keep b o e n hb hx)
  .obtain⟨sl,e1⟩:=I.base.slot b o e n hb hx;exact⟨sl,(hs.2 b<|SY<|SU (SI e) I.ok.above).trans e1⟩
  .obtain⟨o',e1⟩:=I.base.there b o e hx;exact⟨o',(hs.2 b<|SY<|SU (SI e) I.ok.above).trans e1⟩
  .by_cases hj:j=i
   .subst hj;rw[hi] at e1;cases e1;rw[Uz Zf] at e2;cases e2;exact⟨u,r,.inl ⟨hk,by simp⟩⟩
   .rw[S4 (Ne.symm hj)] at e2;obtain⟨u',r',q⟩:=hl j y v' e1 e2 e3;refine(⟨u',r',?_⟩);rcases q with⟨k,e⟩|⟨k,c,e,z⟩
    .refine .inl ⟨k,?_⟩;have:y≠x:=fun e=>hj (D6 hN e1<|e▸hi);simp[this,e]
    .exact .inr ⟨k,c,e,z.sameBut hs<|cne y c e⟩
  .obtain⟨w',z⟩:=I.cell y c e;exact⟨w',z.sameBut hs<|cne y c e⟩
  .obtain⟨e,n,ne,nf,d⟩:=I.pin p hp;exact⟨(hs.2 p.1 ne).trans e,n,ne,nf,d⟩
 .have hfn:X.fn x=true:=by
   rcases hf with z|z
   .exact z
   .rw[z] at hk;cases hk
  obtain⟨c,hc⟩:=I.ok.has x (.inl hk);obtain⟨w',z⟩:=I.cell x c hc;refine(wpAny_storeName_cell I.ok.kind hk hc z<|fun h' hc' hs=>?_);obtain⟨oc,hoc,hocd⟩:=id z;refine(h {s with heap:=h'} ⟨I.ok,I.os,I.bare,⟨fun b o e n hb hx=>?_,fun b o e n hb hx=>?_,I.base.free,fun b o e hx=>?_,I.base.tups,I.base.frzs,I.base.tbls⟩,⟨m,hn.sameBut hs (Ne.symm<|cne x c hc),fun j y v' e1 e2 e3=>?_⟩,fun y c' e=>?_,I.free,I.freeC,fun p hp=>?_,tracked ⟨oc,hoc,I.freeC x c hc⟩ hs,by simpa using I.len⟩ ⟨c,hs,.inr hc⟩)
  .exact(hs.2 b<|SY<|SU (SI e)<|I.ok.cab x c hfn hc).trans (I.base.keep b o e n hb hx)
  .obtain⟨sl,e1⟩:=I.base.slot b o e n hb hx;exact⟨sl,(hs.2 b<|SY<|SU (SI e)<|I.ok.cab x c hfn hc).trans e1⟩
  .obtain⟨o',e1⟩:=I.base.there b o e hx;exact⟨o',(hs.2 b<|SY<|SU (SI e)<|I.ok.cab x c hfn hc).trans e1⟩
  .by_cases hj:j=i
   .subst hj;rw[hi] at e1;cases e1;rw[Uz Zf] at e2;cases e2;exact⟨u,r,.inr ⟨.inl hk,c,hc,hc'⟩⟩
   .rw[S4 (Ne.symm hj)] at e2;obtain⟨u',r',q⟩:=hl j y v' e1 e2 e3;refine(⟨u',r',?_⟩);rcases q with q|⟨k,c',e,z'⟩
    .exact .inl q
    .refine .inr ⟨k,c',e,z'.sameBut hs ?_⟩;rintro rfl;exact hj (D6 hN e1<|I.ok.inj _ _ _ e hc▸hi)
  .by_cases hcc:c'=c
   .subst hcc;exact⟨_,hc'⟩
   .obtain⟨w2,z2⟩:=I.cell y c' e;exact⟨w2,z2.sameBut hs hcc⟩
  .obtain⟨e,n,ne,nf,d⟩:=I.pin p hp;refine⟨(hs.2 p.1 ?_).trans e,n,ne,nf,d⟩;intro q;rw[q,hoc] at e;have q':oc=p.2:=S5 e;exact d w' (by rw[←q'];exact hocd)
theorem sL{M:Model}{A:Around}{E:SC}{i:Nat}{x:Str}{v:V}{u:Value}{Q:Unit->Shared->Prop}(I:Inv X pins L H s)(hN:X.N.Nodup)(hi:X.N[i]?=some x)(hx:Loc X.env.scope x)(r:RelV v u)
  (h:∀s',Inv X pins (L.set i<|some v) H s'->Q () s') (hf:X.fn x=true\/X.env.scope.names.lookup x=some .local:=by first|exact .inl rfl|exact .inr rfl|assumption):wpAny M A (storeName X.env x u) Q E s:=
 Cj I hN hi hx r (fun s' I' _=>h s' I') hf
theorem Inv.call'{s':Shared}{ch:ś}(I:Inv X pins L H s)(ho:s'.os=s.os)(u:Un (frs X.stack) ch H H' s.heap s'.heap)(hok:HOk X.prog X.w H' s'.heap)(hg:AllBare s'.gens)
  (hch:∀b∈ch,(b∈X.ex\/X.Z1.heap.objs.size<=b)/\b≠X.env.locals/\(∀x c,X.env.cells.lookup x=some c->c≠b)/\∀p∈X.pn++pins,p.1≠b):Inv X pins L H' s':=by
 obtain⟨h',g',d',t',o'⟩:=s';have e:o'=s.os:=ho;subst e;exact(I.call (g':=g') (t':=t') (d':=d') u hok hg hch)
end
abbrev XK:=Value->Ŧ->Hp->Prop
abbrev St:=List (Option V)
abbrev VK:=V->Hp->Prop
abbrev TE:=St->Hp->VK->Prop
abbrev TT:=St->Hp->(Bool->Hp->Prop)->Prop
abbrev TA:=St->Hp->(Ř->Hp->Prop)->Prop
structure Ends where
 nx:St->Hp->Prop
 rt:VK
 bk:St->Hp->Prop:=fun _ _=>False
 ct:St->Hp->Prop:=fun _ _=>False
abbrev TS:=Ends->St->Hp->Prop
def EP(X:Cx)(pins:SL)(L:St)(Q:VK)(u:Value)(s':Shared):Prop:=∃v H',Inv X pins L H' s'/\RelV v u/\Q v H'
def TP(X:Cx)(pins:SL)(L:St)(Q:Bool->Hp->Prop)(b:Bool)(s':Shared):Prop:=∃H',Inv X pins L H' s'/\Q b H'
def AP(X:Cx)(pins:SL)(L:St)(Q:Ř->Hp->Prop)(us:Ő)(s':Shared):Prop:=∃vs H',Inv X pins L H' s'/\Vals vs us/\Q vs H'
def SP(X:Cx)(pins:SL)(D:Ends)(f:Flow)(s':Shared):Prop:=
 match f with
 | .next=>∃Z0 H',Inv X pins Z0 H' s'/\D.nx Z0 H'
 | .brk=>∃Z0 H',Inv X pins Z0 H' s'/\D.bk Z0 H'
 | .cont=>∃Z0 H',Inv X pins Z0 H' s'/\D.ct Z0 H'
 | .ret u=>∃v Z0 H',Inv X pins Z0 H' s'/\RelV v u/\D.rt v H'
def PE(X:Cx)(e:Expr)(t:TE):Prop:=
 ∀(pins:SL) (s:Shared) (L:St) (H:Hp) (Q:VK),Inv X pins L H s->t L H Q->wpAny (model X.prog X.w) X.A (eval e X.env) (EP X pins L Q) X.xe s
def PT(X:Cx)(e:Expr)(t:TT):Prop:=
 ∀(pins:SL) (s:Shared) (L:St) (H:Hp) (Q:Bool->Hp->Prop),Inv X pins L H s->t L H Q->wpAny (model X.prog X.w) X.A (isTrue e X.env<|eval e X.env) (TP X pins L Q) X.xe s
def PW(X:Cx)(e:Expr)(t:TT):Prop:=
 ∀(whole:Sem Value) (pins:SL) (s:Shared) (L:St) (H:Hp) (Q:Bool->Hp->Prop),Inv X pins L H s->t L H Q->wpAny (model X.prog X.w) X.A (isTrue e X.env whole) (TP X pins L Q) X.xe s
def PW.pt{X:Cx}{e:Expr}{t:TT}(h:PW X e t):PT X e t:=h _
def PA(X:Cx)(es:Ś)(t:TA):Prop:=
 ∀(pos:Pos) (pins:SL) (s:Shared) (L:St) (H:Hp) (Q:Ř->Hp->Prop),Inv X pins L H s->t L H Q->wpAny (model X.prog X.w) X.A (spliced<|backTo pos<|starEach es X.env) (AP X pins L Q) X.xe s
def PS(X:Cx)(st:Stmt)(t:TS):Prop:=
 ∀(pins:SL) (s:Shared) (L:St) (H:Hp) (D:Ends),Inv X pins L H s->t D L H->wpAny (model X.prog X.w) X.A (exec st X.env) (SP X pins D) X.xe s
def PSs(X:Cx)(st:Ũ)(t:TS):Prop:=
 ∀(pins:SL) (s:Shared) (L:St) (H:Hp) (D:Ends),Inv X pins L H s->t D L H->wpAny (model X.prog X.w) X.A (execs st X.env) (SP X pins D) X.xe s
def thn{J:Type}{t:Sem J}{Q Q':J->Shared->Prop}{M:Model}{A:Around}{E:SC}{s:Shared}(h:wpAny M A t Q E s)(hQ:∀a s,Q a s->Q' a s):wpAny M A t Q' E s:=SH h hQ fun _ _ x=>x
section
variable {X:Cx}
def AR(i:Nat):TE:=fun L H Q=>∃v,L[i]?=some (some v)/\Q v H
def tC(v:V):TE:=fun _ H Q=>Q v H
theorem CC{i:Nat}{x:Str}{pos:Pos}(hN:X.N[i]?=some x)(hv:Vis X.env.scope x)(hd:(x==("__debug__":Str))=false:=by decide) (hcd:(x==("__classdict__":Str))=false:=by decide):PE X (.Name x pos) (AR i):=by
 intro pins s L H Q I h;obtain⟨v,e,h⟩:=h;obtain⟨m,hn,hl⟩:=I.loc;obtain⟨u,r,l⟩:=hl i x v hN e hv;have fin:EP X pins L Q u s:=⟨v,H,I,r,h⟩
 rcases l with⟨hk,hm⟩|⟨hk,c,hc,hcell⟩
 .exact wpAny_Name (wpAny_loadName_local I.ok.kind hk hn hm fin) hd
 .rcases hk with hk|hk
  .exact wpAny_Name (wpAny_loadName_cell I.ok.kind hk hc hcell fin) hd
  .exact wpAny_Name (wpAny_loadName_free I.ok.kind hk hc hcell fin hcd) hd
theorem Ii{i j pos}:PE X (.Constant (.int i) j pos) (tC<|.int i):=fun _ _ _ H _ I h=>wpAny_Constant_int ⟨.int i,H,I.tok _,⟨_,rfl⟩,h⟩
theorem IB{b j pos}:PE X (.Constant (.bool b) j pos) (tC<|.bl b):=fun _ _ _ H _ I h=>Constant_bool ⟨.bl b,H,I,rfl,h⟩
theorem NB{j pos}:PE X (.Constant .none j pos) (tC .non):=fun _ _ _ H _ I h=>Constant_none ⟨.non,H,I,rfl,h⟩
theorem Ay{x j pos}:PE X (.Constant (.str x) j pos) (tC<|.str x):=fun _ _ _ H _ I h=>Calls.Constant_str ⟨.str x,H,I.tok _,⟨_,rfl⟩,h⟩
def Gl(X:Cx)(x:Str):Prop:=X.env.kindOf x=some .globalImplicit
theorem px{E:SC}{pins:SL}{s:Shared}{L:St}{H:Hp}{x:Str}{u:Value}{pos:Pos}{Q:SC}(I:Inv X pins L H s)(hg:Gl X x)(hm:X.mg x=some u)(h:Q u s)
  (hd:(x==("__debug__":Str))=false:=by decide):wpAny (model X.prog X.w) X.A (eval (.Name x pos) X.env) Q E s:=
 Calls.Name_function_global I.ok.kind hg (Calls.loadGlobal_global (by rw[I.ok.glob];exact I.mod.glob.keeps I.bk) hm h) hd
theorem kt{E:SC}{pins:SL}{s:Shared}{L:St}{H:Hp}{x:Str}{u:Value}{pos:Pos}{Q:SC}(I:Inv X pins L H s)(hg:Gl X x)(hm:X.mg x=none)(hv:bootBuiltins x=some u)(h:Q u s)
  (hn:x≠"__name__":=by decide) (hd:(x==("__debug__":Str))=false:=by decide):wpAny (model X.prog X.w) X.A (eval (.Name x pos) X.env) Q E s:=by
 obtain⟨mb,h1,h2⟩:=I.mod.blt;exact Calls.Name_function_global I.ok.kind hg (Calls.loadGlobal_builtin (by rw[I.ok.glob];exact I.mod.glob.keeps I.bk) hm (by rw[I.ok.blt];exact h1.keeps I.bk) ((h2 x hn).trans hv) h) hd
theorem kY{x:Str}{v:V}{u:Value}{pos:Pos}(hg:Gl X x)(hm:X.mg x=some u)(r:RelV v u)(hd:(x==("__debug__":Str))=false:=by decide):PE X (.Name x pos) (tC v):=
 fun _ _ _ H _ I h=>px I hg hm ⟨v,H,I,r,h⟩ hd
theorem rg{x:Str}{v:V}{u:Value}{pos:Pos}(hg:Gl X x)(hm:X.mg x=none)(hv:bootBuiltins x=some u)(r:RelV v u)(hn:x≠"__name__":=by decide) (hd:(x==("__debug__":Str))=false:=by decide):PE X (.Name x pos) (tC v):=
 fun _ _ _ H _ I h=>kt I hg hm hv ⟨v,H,I,r,h⟩ hn hd
variable {a b:Expr} {ta tb:TE} {pos:Pos}
def PC(X:Cx)(op:CmpOp)(a b:Expr)(t:TE):Prop:=
 ∀(pins:SL) (s:Shared) (L:St) (H:Hp) (Q:VK),Inv X pins L H s->t L H Q->
  wpAny (model X.prog X.w) X.A (eval a X.env) (fun v ZT=>wpAny (model X.prog X.w) X.A (eval b X.env) (fun u ZI=>wpAny (model X.prog X.w) X.A (compareOp op v u) (EP X pins L Q) X.xe ZI) X.xe ZT) X.xe s
theorem Jb(b:Expr)(h:op≠.In)(h2:op≠.NotIn):behindInMarks op b=false:=by
 have e1:(op==CmpOp.In)=false:=by cases op<;>first|rfl|exact absurd rfl h
 have e2:(op==CmpOp.NotIn)=false:=by cases op<;>first|rfl|exact absurd rfl h2
 cases b<;>simp[behindInMarks,e1,e2]
def tB(t:TE):TT:=fun L H Q=>t L H fun x H1=>∃c,x=.bl c/\Q c H1
theorem Rw{op:CmpOp}{t:TE}(h:PC X op a b t)(h1:behindInMarks op b=false:=by first|exact Jb _ (by decide) (by decide)|rfl):PT X (.Compare a [op] [b] pos) (tB t):=by
 intro pins s L H Q I hw;refine wpAny_isTrue_Compare1 (thn (h pins s L H _ I hw) fun v s1 h1=>thn h1 fun u s2 h2=>thn h2 fun c s3 hm=>?_) h1;obtain⟨x,H1,I1,r1,q1⟩:=hm;obtain⟨d,rfl,q⟩:=q1;cases r1;exact(Tt ⟨H1,I1,q⟩)
theorem Jy{e:Expr}{t:TE}(h:PE X e t)(he:∀whole,isTrue e X.env whole=(do let v ←whole;standAt e.pos;holding [v] (truthy v)):=by intro _;rfl):PT X e (tB t):=by
 intro pins s L H Q I hw;refine isTrue_plain (thn (h pins s L H _ I hw) fun v s1 hm=>?_) (he _);obtain⟨x,H1,I1,r1,q1⟩:=hm;obtain⟨d,rfl,q⟩:=q1;cases r1;exact(Tt ⟨H1,I1,q⟩)
variable {tA tB':TT} {fV:Ś}
def Co(t u:TT):TT:=fun L H Q=>t L H fun c H1=>if c=true then u L H1 Q else Q false H1
def tOr(t u:TT):TT:=fun L H Q=>t L H fun c H1=>if c=true then Q true H1 else u L H1 Q
def L6(t:TT):TT:=fun L H Q=>t L H fun c H1=>Q (!c) H1
theorem Rp(ha:PT X a tA):PW X (.BoolOp .And [a] pos) tA:=by
 intro wh pins s L H Q I h;refine isTrue_and (thn (ha pins s L H Q I h) fun c s1 e=>?_);cases c with
 |true=>exact isTrue_and_nil e
 |false=>exact e
theorem K1(ha:PT X a tA):PW X (.BoolOp .Or [a] pos) tA:=by
 intro wh pins s L H Q I h;refine isTrue_or (thn (ha pins s L H Q I h) fun c s1 e=>?_);cases c with
 |false=>exact isTrue_or_nil e
 |true=>exact e
theorem Ll(ha:PT X a tA)(hb:PW X (.BoolOp .And (b::fV) pos) tB'):PW X (.BoolOp .And (a::b::fV) pos) (Co tA tB'):=by
 intro wh pins s L H Q I h;refine isTrue_and (thn (ha pins s L H _ I h) fun c s1 hm=>?_);obtain⟨H1,I1,q1⟩:=hm;cases c with
 |true=>exact hb wh pins s1 L H1 Q I1 q1
 |false=>exact⟨H1,I1,q1⟩
theorem JS(ha:PT X a tA)(hb:PW X (.BoolOp .Or (b::fV) pos) tB'):PW X (.BoolOp .Or (a::b::fV) pos) (tOr tA tB'):=by
 intro wh pins s L H Q I h;refine isTrue_or (thn (ha pins s L H _ I h) fun c s1 hm=>?_);obtain⟨H1,I1,q1⟩:=hm;cases c with
 |true=>exact⟨H1,I1,q1⟩
 |false=>exact hb wh pins s1 L H1 Q I1 q1
theorem zj(ha:PT X a tA):PT X (.UnaryOp .Not a pos) (L6 tA):=by
 intro pins s L H Q I h;exact isTrue_not (ha pins s L H (fun c H1=>Q (!c) H1) I h)
def Ml(ta tb:TE):TE:=fun L H Q=>ta L H fun x H1=>∃c,x=.bl c/\if c=true then tb L H1 Q else Q (.bl false) H1
def K2(ta tb:TE):TE:=fun L H Q=>ta L H fun x H1=>∃c,x=.bl c/\if c=true then Q (.bl true) H1 else tb L H1 Q
theorem MH{op}{t:TE}(h:PE X a t):PE X (.BoolOp op [a] pos) t:=fun pins s L H Q I hw=>BoolOp_one (h pins s L H Q I hw)
theorem Jp(ha:PE X a ta)(hb:PE X (.BoolOp .And (b::fV) pos) tb):PE X (.BoolOp .And (a::b::fV) pos) (Ml ta tb):=by
 intro pins s L H Q I h;refine BoolOp_and (thn (ha pins s L H _ I h) fun v s1 hm=>?_);obtain⟨x,H1,I1,r1,q1⟩:=hm;obtain⟨c,rfl,q1⟩:=q1;cases r1;refine(Tt ?_);cases c with
 |true=>exact hb pins s1 L H1 Q I1 q1
 |false=>exact⟨.bl false,H1,I1,rfl,q1⟩
theorem Ew(ha:PE X a ta)(hb:PE X (.BoolOp .Or (b::fV) pos) tb):PE X (.BoolOp .Or (a::b::fV) pos) (K2 ta tb):=by
 intro pins s L H Q I h;refine BoolOp_or (thn (ha pins s L H _ I h) fun v s1 hm=>?_);obtain⟨x,H1,I1,r1,q1⟩:=hm;obtain⟨c,rfl,q1⟩:=q1;cases r1;refine(Tt ?_);cases c with
 |false=>exact hb pins s1 L H1 Q I1 q1
 |true=>exact⟨.bl true,H1,I1,rfl,q1⟩
def tIf(t:TT)(ta tb:TE):TE:=fun L H Q=>t L H fun c H1=>if c=true then ta L H1 Q else tb L H1 Q
theorem NM{c:Expr}(hc:PT X c tA)(ha:PE X a ta)(hb:PE X b tb):PE X (.IfExp c a b pos) (tIf tA ta tb):=by
 intro pins s L H Q I h;refine wpAny_IfExp (thn (hc pins s L H _ I h) fun d s1 hm=>?_);obtain⟨H1,I1,q1⟩:=hm;cases d with
 |true=>exact ha pins s1 L H1 Q I1 q1
 |false=>exact hb pins s1 L H1 Q I1 q1
end
def SqL(K:Frag)(H:Hp)(a:Addr)(xs:Ř):Prop:=
 Rd H a (.lst xs)\/
  ∃(o:Obj) (its:Array Value) (n:Nat),K.lookup a=some o/\o.cls=.type "list"/\o.dict=none/\o.data=.seq its n/\its.size<=sizeLine/\Vals xs its.toList
def SqT(K:Frag)(H:Hp)(a:Addr)(xs:Ř):Prop:=
 Rd H a (.tup xs)\/
  ∃(o:Obj) (its:Array Value) (n:Nat),K.lookup a=some o/\o.cls=.type "tuple"/\o.data=.seq its n/\its.size<=sizeLine/\Vals xs its.toList
def MC:Value->Option V
 | .none=>some .non
 | .bool b=>some (.bl b)
 | .int i _=>some (.int i)
 | .str x _=>some (.str x)
 | .bytes b _=>some (.byt b)
 | .float b _=>some (.flt b)
 | .ref a=>some (.ref a)
 | .type n=>some (.ty n)
 |_=>none
def RelV.abs{x:V}{u:Value}(r:RelV x u):MC u=some x:=by
 cases x with
 |non=>cases r;rfl
 |bl _=>cases r;rfl
 |int _=>obtain⟨t,rfl⟩:=r;rfl
 |str _=>obtain⟨t,rfl⟩:=r;rfl
 |byt _=>obtain⟨t,rfl⟩:=r;rfl
 |flt _=>obtain⟨t,rfl⟩:=r;rfl
 |ref _=>cases r;rfl
 |ty _=>cases r;rfl
def RelV.inj{x y:V}{u:Value}(r:RelV x u)(q:RelV y u):x=y:=S5 (r.abs.symm.trans q.abs)
theorem Vals.inj:∀{xs ys:Ř} {us:Ő},Vals xs us->Vals ys us->xs=ys
 |_,_,_,.nil,.nil=>rfl
 |_,_,_,.cons r t,.cons r' t'=>by rw[r.inj r',Vals.inj t t']
section
variable {X:Cx} {pins:SL} {L:St} {H:Hp} {s:Shared} {a:Addr} {xs ys:Ř}
theorem SqL.of{K:Frag}(h:H a=some (.lst xs)):SqL K H a xs:=.inl (.inl h)
theorem SqT.of{K:Frag}(h:H a=some (.tup xs)):SqT K H a xs:=.inl (.inl h)
theorem Inv.list(I:Inv X pins L H s)(h:SqL X.K H a xs):∃its:Ő,Vals xs its/\PlainL s.heap a its.toArray/\xs.length<=sizeLine:=by
 rcases h with h|⟨o,its,n,hk,hc,hd,hs,hz,r⟩
 .obtain⟨z,its,n,r,e⟩:=h.ok I.hok;exact⟨its,r,⟨_,n,e,rfl,rfl,rfl⟩,z⟩
 .refine⟨its.toList,r,⟨o,n,I.kIn a o hk,hc,hd,by simpa using hs⟩,?_⟩;have e:=r.length;simp only[Ub] at e;omega
theorem Inv.tuple(I:Inv X pins L H s)(h:SqT X.K H a xs):∃its:Ő,Vals xs its/\IsTup s.heap a its.toArray/\xs.length<=sizeLine:=by
 rcases h with h|⟨o,its,n,hk,hc,hs,hz,r⟩
 .obtain⟨z,its,r,p⟩:=h.ok I.hok;exact⟨its,r,p,z⟩
 .refine⟨its.toList,r,⟨o,I.kIn a o hk,hc,n,by simpa using hs⟩,?_⟩;have e:=r.length;simp only[Ub] at e;omega
theorem Inv.list_inj(I:Inv X pins L H s)(h:SqL X.K H a xs)(h':SqL X.K H a ys):xs=ys:=by
 obtain⟨its,r,⟨o,n,e,_,_,d⟩,_⟩:=I.list h;obtain⟨its',r',⟨o',n',e',_,_,d'⟩,_⟩:=I.list h';rw[e] at e';cases e';rw[d] at d';injection d' with d1 _
 have:its=its':=by simpa using congrArg Array.toList d1
 subst this;exact r.inj r'
theorem Inv.tuple_inj(I:Inv X pins L H s)(h:SqT X.K H a xs)(h':SqT X.K H a ys):xs=ys:=by
 obtain⟨its,r,⟨o,e,_,n,d⟩,_⟩:=I.tuple h;obtain⟨its',r',⟨o',e',_,n',d'⟩,_⟩:=I.tuple h';rw[e] at e';cases e';rw[d] at d';injection d' with d1 _
 have:its=its':=by simpa using congrArg Array.toList d1
 subst this;exact r.inj r'
end
abbrev Cx.wish(X:Cx)(E:SC):Cx:={X with xe:=E}
abbrev Cx.nox(X:Cx):Cx:=X.wish fun _ _=>False
def Cx.Ok.wish{X:Cx}(ok:X.Ok)(E:SC):(X.wish E).Ok:=
 ⟨ok.mod,ok.kind,ok.glob,ok.blt,ok.above,ok.inj,ok.has,ok.cab,ok.hd,ok.frames,ok.stk,ok.exf,ok.bs,ok.bsz,ok.noex,ok.exfs,ok.funs,ok.frf⟩
def Cx.Ok.unwish{X:Cx}{E:SC}(ok:(X.wish E).Ok):X.Ok:=
 ⟨ok.mod,ok.kind,ok.glob,ok.blt,ok.above,ok.inj,ok.has,ok.cab,ok.hd,ok.frames,ok.stk,ok.exf,ok.bs,ok.bsz,ok.noex,ok.exfs,ok.funs,ok.frf⟩
section
variable {X:Cx} {pins:SL} {L:St} {H:Hp} {s:Shared} {E:SC}
theorem Inv.wish(I:Inv X pins L H s)(E:SC):Inv (X.wish E) pins L H s:=⟨I.ok.wish E,I.os,I.bare,I.base,I.loc,I.cell,I.free,I.freeC,I.pin,I.hok,I.len⟩
theorem Inv.unwish(I:Inv (X.wish E) pins L H s):Inv X pins L H s:=⟨I.ok.unwish,I.os,I.bare,I.base,I.loc,I.cell,I.free,I.freeC,I.pin,I.hok,I.len⟩
theorem SP.unwish{D:Ends}{f:Flow}{s':Shared}(h:SP (X.wish E) pins D f s'):SP X pins D f s':=by
 cases f with
 |next=>obtain⟨Z0,H',I,q⟩:=h;exact⟨Z0,H',I.unwish,q⟩
 |brk=>obtain⟨Z0,H',I,q⟩:=h;exact⟨Z0,H',I.unwish,q⟩
 |cont=>obtain⟨Z0,H',I,q⟩:=h;exact⟨Z0,H',I.unwish,q⟩
 |ret u=>obtain⟨v,Z0,H',I,r,q⟩:=h;exact⟨v,Z0,H',I.unwish,r,q⟩
theorem PE.nox{e:Expr}{t:TE}(h:PE X.nox e t):PE X e t:=fun pins s L H Q I hw=>
 SH (h pins s L H Q (I.wish _) hw) (fun _ _ ⟨v,H',I',r,q⟩=>⟨v,H',I'.unwish,r,q⟩) fun _ _ z=>False.elim z
theorem PT.nox{e:Expr}{t:TT}(h:PT X.nox e t):PT X e t:=fun pins s L H Q I hw=>
 SH (h pins s L H Q (I.wish _) hw) (fun _ _ ⟨H',I',q⟩=>⟨H',I'.unwish,q⟩) fun _ _ z=>False.elim z
theorem PSs.nox{st:Ũ}{t:TS}(h:PSs X.nox st t):PSs X st t:=fun pins s L H D I hw=>
 SH (h pins s L H D (I.wish _) hw) (fun _ _ q=>q.unwish) fun _ _ z=>False.elim z
end
section
variable {X:Cx} {st:Stmt} {fV:Ũ} {t u:TS} {e:Expr} {te:TE} {pos:Pos}
def PZ:TS:=fun D L H=>D.nx L H
def MZ(t u:TS):TS:=fun D L H=>t {D with nx:=u D} L H
theorem RE:PSs X [] PZ:=fun _ _ L H _ I h=>US ⟨L,H,I,h⟩
theorem C4(h1:PS X st t)(h2:PSs X fV u):PSs X (st::fV) (MZ t u):=by
 intro pins s L H D I h;refine wpAny_execs_cons (thn (h1 pins s L H {D with nx:=u D} I h) fun f s1 q=>?_);cases f with
 |next=>
  obtain⟨Z0,H',I',q⟩:=q;exact h2 pins s1 Z0 H' D I' q
 |ret v=>exact q
 |brk=>exact q
 |cont=>exact q
theorem CD(h1:PS X st t):PSs X [st] t:=by
 intro pins s L H D I h;refine wpAny_execs_cons (thn (h1 pins s L H D I h) fun f s1 q=>?_);cases f with
 |next=>exact US q
 |ret v=>exact q
 |brk=>exact q
 |cont=>exact q
theorem Inv.quiet{pins:SL}{L:St}{H:Hp}{s:Shared}(I:Inv X pins L H s):interactive X.env=false:=by simp[interactive,I.ok.kind]
def MQ(te:TE):TS:=fun D L H=>te L H fun _ H1=>D.nx L H1
theorem Dq(he:PE X e te)(hs:swapsWith e none pos.line X.env=pure false:=by rfl):PS X (.Expr e pos) (MQ te):=by
 intro pins s L H D I h;exact wpAny_Expr_any (thn (he pins s L H _ I h) fun v s1 ⟨x,H1,I1,r1,q1⟩=>⟨L,H1,I1,q1⟩) I.quiet hs
def Od(te:TE):TS:=fun D L H=>te L H D.rt
theorem AB(he:PE X e te):PS X (.Return (some e) pos) (Od te):=by
 intro pins s L H D I h;exact wpAny_Return_some (thn (he pins s L H _ I h) fun v s1 ⟨x,H1,I1,r1,q1⟩=>⟨x,L,H1,I1,r1,q1⟩)
def GZ(c:TT)(t u:TS):TS:=fun D L H=>c L H fun b H1=>if b=true then t D L H1 else u D L H1
theorem Do{c:Expr}{a b:Ũ}{tc:TT}(hc:PT X c tc)(ha:PSs X a t)(hb:PSs X b u):PS X (.If c a b pos) (GZ tc t u):=by
 intro pins s L H D I h;refine wpAny_If (thn (hc pins s L H _ I h) fun d s1 hm=>?_);obtain⟨H1,I1,q1⟩:=hm;cases d with
 |true=>exact ha pins s1 L H1 D I1 q1
 |false=>exact hb pins s1 L H1 D I1 q1
end
abbrev TG:=V->St->Hp->(St->Hp->Prop)->Prop
abbrev TGs:=Ř->St->Hp->(St->Hp->Prop)->Prop
def PG(X:Cx)(target:Expr)(t:TG):Prop:=
 ∀(pins:SL) (s:Shared) (L:St) (H:Hp) (v:V) (u:Value) (Q:St->Hp->Prop),Inv X pins L H s->RelV v u->t v L H Q->
  wpAny (model X.prog X.w) X.A (assign target X.env u) (fun _ s'=>∃Z0 H',Inv X pins Z0 H' s'/\Q Z0 H') X.xe s
def PGs(X:Cx)(ts:Ś)(t:TGs):Prop:=
 ∀(pins:SL) (s:Shared) (L:St) (H:Hp) (vs:Ř) (us:Ő) (Q:St->Hp->Prop),Inv X pins L H s->Vals vs us->t vs L H Q->
  wpAny (model X.prog X.w) X.A (assignInOrder ((assignEach ts X.env).map (·.2)) us) (fun _ s'=>∃Z0 H',Inv X pins Z0 H' s'/\Q Z0 H') X.xe s
abbrev vq:=V->V->V->Hp->(Hp->Prop)->Prop
def C9(X:Cx)(t:vq):Prop:=
 ∀(pins:SL) (s:Shared) (L:St) (H:Hp) (o i v:V) (ov iv u:Value) (Q:Hp->Prop),Inv X pins L H s->RelV o ov->RelV i iv->RelV v u->t o i v H Q->
  wpAny (model X.prog X.w) X.A (setItem ov iv u) (fun _ s'=>∃H',Inv X pins L H' s'/\Q H') X.xe s
abbrev TIp:=V->V->Hp->VK->Prop
def PIp(X:Cx)(op:Operator)(t:TIp):Prop:=
 ∀(pins:SL) (s:Shared) (L:St) (H:Hp) (x y:V) (v u:Value) (Q:VK),Inv X pins L H s->RelV x v->RelV y u->t x y H Q->
  wpAny (model X.prog X.w) X.A (inplaceOp op v u) (EP X pins L Q) X.xe s
section
variable {X:Cx} {pos:Pos}
def yv(i:Nat):TG:=fun v L H Q=>Q (L.set i<|some v) H
theorem N8{i:Nat}{x:Str}(hN:X.N.Nodup)(hi:X.N[i]?=some x)(hx:Loc X.env.scope x)(hf:X.fn x=true\/X.env.scope.names.lookup x=some .local:=by first|exact .inl rfl|exact .inr rfl|assumption):PG X (.Name x pos) (yv i):=by
 intro pins s L H v u Q I r h;exact wpAny_assign_Name (sL I hN hi hx r (fun s' I'=>⟨_,H,I',h⟩) hf)
def JZ:TGs:=fun vs L H Q=>vs=[]/\Q L H
def E2(t:TG)(u:TGs):TGs:=fun vs L H Q=>∃v r,vs=v::r/\t v L H fun Z0 H'=>u r Z0 H' Q
theorem HD:PGs X [] JZ:=by
 intro pins s L H vs us Q I r h;obtain⟨e,h⟩:=h;subst e;cases r;exact(assignInOrder_nil ⟨L,H,I,h⟩)
theorem Ha{e:Expr}{es:Ś}{t:TG}{u:TGs}(h1:PG X e t)(h2:PGs X es u)
  (hs:(assignEach (e::es) X.env).map (·.2)=assign e X.env::(assignEach es X.env).map (·.2):=by rfl):PGs X (e::es) (E2 t u):=by
 intro pins s L H vs us Q I r h;obtain⟨v,vr,e1,h⟩:=h;subst e1;cases r with
 |cons r rr=>
  rw[hs];refine assignInOrder_cons (thn (h1 pins s L H _ _ _ I r h) fun _ s1 hm=>?_);obtain⟨ZN,H1,I1,q1⟩:=hm;exact(h2 pins s1 ZN H1 _ _ Q I1 rr q1)
def z7(K:Frag)(n:Nat)(t:TGs):TG:=fun v L H Q=>∃a xs,v=.ref a/\SqT K H a xs/\xs.length=n/\t xs L H Q
theorem Gc{es:Ś}{k:Nat}{t:TGs}{n:Nat}(hc:X.calm=true)(h:PGs X es t)
  (hn:(assignEach es X.env).length=n:=by rfl) (hst:(assignEach es X.env).findIdx? (·.1)=none:=by rfl):PG X (.Tuple es k pos) (z7 X.K n t):=by
 intro pins s L H v u Q I r hw;obtain⟨a,xs,e1,hq,hl,hw⟩:=hw;subst e1;cases r;obtain⟨its,rv,ht,hz⟩:=I.tuple hq;refine(assign_Tuple_tuple (I.ok.hd hc) ht (by simp[hn,←hl,rv.length]) hst fun h' hx=>?_);have I1:Inv X pins L H {s with heap:=h'}:=I.kept (t':=s.toks) fun b o e=>hx b o (SY<|SI e) e;exact h pins _ L H xs _ Q I1 (by simpa using rv) hw
def EB(to ti:TE)(t:vq):TG:=fun v L H Q=>to L H fun o H1=>ti L H1 fun i H2=>t o i v H2 fun H3=>Q L H3
theorem N9{o i:Expr}{to ti:TE}{t:vq}(ho:PE X o to)(hi:PE X i ti)(hs:C9 X t)
  (ha:∀v,assign (.Subscript o i pos) X.env v=(do
   let ov ←holding [v] (eval o X.env)
   let iv ←holding [v,ov] (eval i X.env)
   standAt pos
   holding [v,ov,iv] (setItem ov iv v)
   release [v,ov,iv] []):=by intro _;rfl):PG X (.Subscript o i pos) (EB to ti t):=by
 intro pins s L H v u Q I r h;rw[ha];refine SA (TL<|thn (ho pins s L H _ I h) fun ov s1 hm=>?_);obtain⟨x,H1,I1,r1,q1⟩:=hm;refine(SA<|TL<|thn (hi pins s1 L H1 _ I1 q1) fun iv s2 hm=>?_);obtain⟨y,H2,I2,r2,q2⟩:=hm;refine(SA<|T5<|SA<|TL<|thn (hs pins s2 L H2 x y v ov iv u _ I2 r1 r2 r q2) fun _ s3 hm=>?_);obtain⟨H3,I3,q3⟩:=hm;exact(wpAny_release ⟨L,H3,I3,q3⟩)
def uv(te:TE)(g:TG):TS:=fun D L H=>te L H fun x H1=>g x L H1 D.nx
theorem B7{tg e:Expr}{te:TE}{g:TG}(he:PE X e te)(hg:PG X tg g)(hs:swapsWithSole [tg] e pos.line X.env=pure false:=by rfl)(hw:swappedStores [tg] e X.env=pure none:=by rfl)
  (h1:(assignEach [tg] X.env).map (·.2)=[assign tg X.env]:=by rfl):PS X (.Assign [tg] e pos) (uv te g):=by
 intro pins s L H D I h;refine wpAny_Assign_stores (thn (he pins s L H _ I h) fun v s1 hm=>?_) hs hw;obtain⟨x,H1,I1,r1,q1⟩:=hm;rw[h1];exact thn (hg pins s1 L H1 x v _ I1 r1 q1) fun _ s2 q=>q
theorem Bn{i:Nat}{x:Str}{e:Expr}{te:TE}{pos':Pos}(hN:X.N.Nodup)(hi:X.N[i]?=some x)(hx:Loc X.env.scope x)(he:PE X e te)(hs:swapsWith e (some<|.Name x pos') pos.line X.env=pure false:=by rfl)(hf:X.fn x=true\/X.env.scope.names.lookup x=some .local:=by first|exact .inl rfl|exact .inr rfl|assumption):
  PS X (.Assign [.Name x pos'] e pos) (uv te<|yv i):=by
 intro pins s L H D I h;refine wpAny_Assign_Name (thn (he pins s L H _ I h) fun v s1 hm=>?_) hs;obtain⟨y,H1,I1,r1,q1⟩:=hm;exact(sL I1 hN hi hx r1 (fun s2 I2=>⟨_,H1,I2,q1⟩) hf)
def EY(i:Nat)(te:TE)(ti:TIp):TS:=fun D L H=>∃x,L[i]?=some (some x)/\te L H fun y H1=>ti x y H1 fun z H2=>D.nx (L.set i<|some z) H2
theorem IS{i:Nat}{x:Str}{e:Expr}{te:TE}{op:Operator}{ti:TIp}{pos':Pos}(hN:X.N.Nodup)(hi:X.N[i]?=some x)(hx:Loc X.env.scope x)(he:PE X e te)(ho:PIp X op ti)(hf:X.fn x=true\/X.env.scope.names.lookup x=some .local:=by first|exact .inl rfl|exact .inr rfl|assumption):
  PS X (.AugAssign (.Name x pos') op e pos) (EY i te ti):=by
 intro pins s L H D I h;obtain⟨v,e1,h⟩:=h;obtain⟨m,hn,hl⟩:=I.loc;have vis:Vis X.env.scope x:=by rcases hx with k|k;exact .inl k;exact .inr (.inl k)
 obtain⟨u,r,l⟩:=hl i x v hi e1 vis;refine(wpAny_AugAssign_Name ?_);have go:wpAny (model X.prog X.w) X.A (eval e X.env) (fun w ZI=>wpAny (model X.prog X.w) X.A (inplaceOp op u w) (fun r ZK=>wpAny (model X.prog X.w) X.A (storeName X.env x r) (fun _=>SP X pins D .next) X.xe ZK) X.xe ZI) X.xe s:=by
  refine thn (he pins s L H _ I h) fun w s1 hm=>?_;obtain⟨y,H1,I1,r1,q1⟩:=hm;refine(thn (ho pins s1 L H1 v y u w _ I1 r r1 q1) fun z s2 hm=>?_);obtain⟨zv,H2,I2,r2,q2⟩:=hm;exact(sL I2 hN hi hx r2 (fun s3 I3=>⟨_,H2,I3,q2⟩) hf)
 rcases l with⟨hk,hm⟩|⟨hk,c,hc,hcell⟩
 .exact wpAny_loadName_local I.ok.kind hk hn hm go
 .rcases hk with hk|hk
  .exact wpAny_loadName_cell I.ok.kind hk hc hcell go
  .rcases hx with k|k
   .have:X.env.scope.names.lookup x=some .free:=hk;rw[k] at this;cases this
   .have:X.env.scope.names.lookup x=some .free:=hk;rw[k] at this;cases this
def ipI(f:Int->Int->Int):TIp:=fun x y H Q=>∃i j,x=.int i/\y=.int j/\Q (.int<|f i j) H
theorem QC:PIp X .Add (ipI fun i j=>i+j):=by
 intro pins s L H x y v u Q I r1 r2 h;obtain⟨i,j,e1,e2,q⟩:=h;subst e1;subst e2;obtain⟨t,rfl⟩:=r1;obtain⟨t',rfl⟩:=r2;exact(iadd_int ⟨.int _,H,I.tok _,⟨_,rfl⟩,q⟩)
end
section
variable {X:Cx} {pos:Pos}
def HI(c:TT)(tb:TS):TS:=fun D L H=>∃W:Nat->St->Hp->Prop,(∃m,W m L H)/\∀m L H,W m L H->
 c L H fun b H1=>if b=true then ∃N:St->Hp->Prop,(∀Z0 H',N Z0 H'->∃m',m'<m/\W m' Z0 H')/\tb {D with nx:=N,ct:=N,bk:=D.nx} L H1 else D.nx L H1
theorem Fp{c:Expr}{body:Ũ}{tc:TT}{tb:TS}(hp:PassesOwn (model X.prog X.w) X.A X.env X.xe)(hc:PT X c tc)(hb:PSs X body tb):PS X (.While c body [] pos) (HI tc tb):=by
 intro pins s L H D I h;obtain⟨W,⟨m0,w0⟩,turn⟩:=h;refine(wpAny_While<|codeAny_whileLoop (fun n s'=>∃Z0 H',Inv X pins Z0 H' s'/\W n Z0 H') ?_ m0 ⟨L,H,I,w0⟩);rintro n s1 ⟨ZN,H1,I1,w1⟩;refine Uo hp (thn (hc pins s1 ZN H1 _ I1<|turn n ZN H1 w1) fun b s2 hm=>?_);obtain⟨H2,I2,q2⟩:=hm;cases b with
 |true=>
  obtain⟨N,hN,q2⟩:=q2;rw[if_pos rfl];refine Uo hp (thn (hb pins s2 ZN H2 _ I2 q2) fun f s3 q3=>?_);cases f with
  |next=>
   obtain⟨ZH,H3,I3,n3⟩:=q3;obtain⟨m',hm,w3⟩:=hN ZH H3 n3;exact⟨m',hm,ZH,H3,I3,w3⟩
  |cont=>
   obtain⟨ZH,H3,I3,n3⟩:=q3;obtain⟨m',hm,w3⟩:=hN ZH H3 n3;exact⟨m',hm,ZH,H3,I3,w3⟩
  |brk=>exact q3
  |ret v=>exact q3
 |false=>
  rw[if_neg Ui];exact US ⟨ZN,H2,I2,q2⟩
end
structure It where
 go:Nat->Hp->Prop
 yld:Nat->Hp->V->Hp->Prop
 stop:Nat->Hp->Prop
def gO(X:Cx)(pins:SL)(H:Hp)(b:Addr):Prop:=
 H b=none/\b≠X.env.locals/\b∉X.fs/\(b∈X.ex\/X.Z1.heap.objs.size<=b)/\(∀x c,X.env.cells.lookup x=some c->c≠b)/\∀p∈X.pn++pins,p.1≠b
def Inv.fpOk{X:Cx}{pins:SL}{L:St}{H H':Hp}{s:Shared}{b:Addr}(I:Inv X pins L H s)(hb:s.heap.objs.size<=b)(hn:H' b=none):gO X pins H' b:=by
 refine⟨hn,UK (SU I.lt hb),I.nofs hb,.inr (Tg I.sz hb),fun x c e z=>?_,fun p hp z=>?_⟩
 .obtain⟨v,q⟩:=I.cell x c e;exact absurd (SU q.lt (by rw[z];exact hb)) (Ti _)
 .exact absurd (SU (SI (I.pin p hp).1) (by rw[z];exact hb)) (Ti _)
structure Turn (P:Program) (w:World) (K:Frag) (tg:Expr) (Z6:It) (fp:ś) (it:Addr) (tn:Nat->Heap->Prop):Prop where
 mem:it∈fp
 obj:∀i h,tn i h->∀b∈fp,∃o,h.get? b=some o/\∀v,o.data≠.cell v
 keep:∀i h h',tn i h->(∀b∈fp,∀o,h.get? b=some o->h'.get? b=some o)->tn i h'
 item:∀(X:Cx),X.prog=P->X.w=w->X.K=K->X.calm=true->∀(i:Nat) (pins:SL) (s:Shared) (L:St) (H:Hp) (E:SC),Inv X pins L H s->(∀b∈fp,gO X pins H b)->tn i s.heap->Z6.go i H->
  wpAny (model P w) X.A (pyNext<|.ref it) (fun r s1=>∃u,r=some u/\
   wpAny (model P w) X.A (letOwnedTupleGo tg (.ref it) u) (fun _ s2=>∃x H',Inv X pins L H' s2/\RelV x u/\Z6.yld i H x H'/\tn (i+1) s2.heap/\∀b∈fp,H' b=none) E s1) E s
 done:∀(X:Cx),X.prog=P->X.w=w->X.K=K->X.calm=true->∀(i:Nat) (pins:SL) (s:Shared) (L:St) (H:Hp) (E:SC),Inv X pins L H s->(∀b∈fp,gO X pins H b)->tn i s.heap->Z6.stop i H->
  wpAny (model P w) X.A (pyNext<|.ref it) (fun r s1=>r=none/\Inv X pins L H s1) E s
 self:∀(A:Around) (i:Nat) (s:Shared) (Q:SC) (E:SC),tn i s.heap->Q (.ref it) s->wpAny (model P w) A (pyIter<|.ref it) Q E s
abbrev TI:=St->Hp->(It->Hp->Prop)->Prop
def PIE(X:Cx)(pins:SL)(L:St)(tg:Expr)(R:It->Hp->Prop)(itv:Value)(s2:Shared):Prop:=
 ∃(it:Addr) (fp:ś) (tn:Nat->Heap->Prop) (Z6:It) (H':Hp),itv=.ref it/\Inv X pins L H' s2/\Turn X.prog X.w X.K tg Z6 fp it tn/\tn 0 s2.heap/\(∀b∈fp,gO X pins H' b)/\R Z6 H'
def PI(X:Cx)(tg iter:Expr)(wi:TI):Prop:=
 ∀(pins:SL) (s:Shared) (L:St) (H:Hp) (R:It->Hp->Prop),Inv X pins L H s->wi L H R->
  wpAny (model X.prog X.w) X.A (eval iter X.env) (fun v s1=>wpAny (model X.prog X.w) X.A (pyIter v) (PIE X pins L tg R) X.xe s1) X.xe s
theorem xa{M:Model}{A:Around}{E:SC}{s:Shared}{tg:Expr}{it:Addr}{u:Value}{o:Obj}{n:String}{vs:Array Value}{Q:Unit->Shared->Prop}(ho:s.heap.get? it=some o)(hc:o.cls=.type n)(hd:o.data=.fields vs)
  (hn:["enumerate","zip","dict_itemiterator","dict_reverseitemiterator","odict_iterator","itertools.zip_longest","itertools.pairwise"].contains n=false) (hQ:Q () s):wpAny M A (letOwnedTupleGo tg (.ref it) u) Q E s:=by
 unfold letOwnedTupleGo;cases tg<;>first
  |exact SE hQ
  |(cases u<;>first
    |exact SE hQ
    |(refine SA (wpAny_load ho ?_);rw[hc,hd];show wpAny M A (if(["enumerate","zip","dict_itemiterator","dict_reverseitemiterator","odict_iterator","itertools.zip_longest","itertools.pairwise"].contains n&&vs[0]?==some (rawInt _))=true then _ else _) Q E s;rw[if_neg (by intro h;rw[hn,Bool.false_and] at h;cases h)];exact SE hQ))
def Itl(K:Frag)(a:Addr):It:=
 ⟨fun i H=>∃xs x,SqL K H a xs/\xs[i]?=some x,fun i H x H'=>H'=H/\∀xs,SqL K H a xs->xs[i]?=some x,fun i H=>∃xs,SqL K H a xs/\xs.length<=i⟩
def Itt(K:Frag)(a:Addr):It:=
 ⟨fun i H=>∃xs x,SqT K H a xs/\xs[i]?=some x,fun i H x H'=>H'=H/\∀xs,SqT K H a xs->xs[i]?=some x,fun i H=>∃xs,SqT K H a xs/\xs.length<=i⟩
def Itr(lo:Int)(n:Nat):It:=⟨fun i _=>i<n,fun i H x H'=>H'=H/\x=.int (lo+i),fun i _=>n<=i⟩
theorem R1{P:Program}{w:World}{K:Frag}{tg:Expr}(a it:Addr):Turn P w K tg (Itl K a) [it] it (fun i h=>h.IsListIter it a i) where
 mem:=by simp
 obj:=fun i h st b hb=>by
  have e:b=it:=by simpa using hb
  subst e;obtain⟨o,e,c,d⟩:=st;exact⟨o,e,fun v z=>by rw[d] at z;cases z⟩
 keep:=fun i h h' st k=>st.at fun o e=>k it nofun o e
 item:=by
  intro X hP hw hK hc i pins s L H E I hf st hg;subst hP hw hK;obtain⟨xs,x,hq,hx⟩:=hg;obtain⟨its,rv,p,hz⟩:=I.list hq;obtain⟨u,hu,ru⟩:=rv.get hx;obtain⟨f0,f1,f2,f3,f4,f5⟩:=hf it nofun;refine(wpAny_pyNext_list_item st p.isList (x:=u) (by simpa using hu) fun h' st' sb=>?_);have I1:Inv X pins L H {s with heap:=h'}:=I.turned (t':=s.toks) (fun b o hb e=>(sb.2 b hb).trans e) f0 f1 f3 f4 f5;obtain⟨o,e,c,d⟩:=id st';exact⟨u,rfl,xa (s:={s with heap:=h'}) e c d (by decide) ⟨x,H,I1,ru,⟨rfl,fun ys hy=>by rw[I.list_inj hy hq];exact hx⟩,st',fun b hb=>(hf b hb).1⟩⟩
 done:=by
  intro X hP hw hK hc i pins s L H E I hf st hg;subst hP hw hK;obtain⟨xs,hq,hx⟩:=hg;obtain⟨its,rv,p,hz⟩:=I.list hq;obtain⟨f0,f1,f2,f3,f4,f5⟩:=hf it nofun;have hl:=rv.length;exact wpAny_pyNext_list_end (I.ok.hd hc) st p.isList (by simp;omega) fun h' eb=>⟨rfl,I.turned (t':=s.toks) (fun b o hb e=>eb b o hb e) f0 f1 f3 f4 f5⟩
 self:=fun _ _ _ _ _ st h=>wpAny_pyIter_listiter st h
theorem Ph{P:Program}{w:World}{K:Frag}{tg:Expr}(a it:Addr):Turn P w K tg (Itt K a) [it] it (fun i h=>h.IsTupleIter it a i) where
 mem:=by simp
 obj:=fun i h st b hb=>by
  have e:b=it:=by simpa using hb
  subst e;obtain⟨o,e,c,d⟩:=st;exact⟨o,e,fun v z=>by rw[d] at z;cases z⟩
 keep:=fun i h h' st k=>st.at fun o e=>k it nofun o e
 item:=by
  intro X hP hw hK hc i pins s L H E I hf st hg;subst hP hw hK;obtain⟨xs,x,hq,hx⟩:=hg;obtain⟨its,rv,p,hz⟩:=I.tuple hq;obtain⟨u,hu,ru⟩:=rv.get hx;obtain⟨f0,f1,f2,f3,f4,f5⟩:=hf it nofun;refine(wpAny_pyNext_tuple_item st (show s.heap.IsTuple a its.toArray from p) (x:=u) (by simpa using hu) fun h' st' sb=>?_);have I1:Inv X pins L H {s with heap:=h'}:=I.turned (t':=s.toks) (fun b o hb e=>(sb.2 b hb).trans e) f0 f1 f3 f4 f5;obtain⟨o,e,c,d⟩:=id st';exact⟨u,rfl,xa (s:={s with heap:=h'}) e c d (by decide) ⟨x,H,I1,ru,⟨rfl,fun ys hy=>by rw[I.tuple_inj hy hq];exact hx⟩,st',fun b hb=>(hf b hb).1⟩⟩
 done:=by
  intro X hP hw hK hc i pins s L H E I hf st hg;subst hP hw hK;obtain⟨xs,hq,hx⟩:=hg;obtain⟨its,rv,p,hz⟩:=I.tuple hq;obtain⟨f0,f1,f2,f3,f4,f5⟩:=hf it nofun;have hl:=rv.length;exact wpAny_pyNext_tuple_end (I.ok.hd hc) st (show s.heap.IsTuple a its.toArray from p) (by simp;omega) fun h' eb=>⟨rfl,I.turned (t':=s.toks) (fun b o hb e=>eb b o hb e) f0 f1 f3 f4 f5⟩
 self:=fun _ _ _ _ _ st h=>wpAny_pyIter_tupleiter st h
theorem Dz{P:Program}{w:World}{K:Frag}{tg:Expr}(it:Addr)(lo:Int)(n:Nat):Turn P w K tg (Itr lo n) [it] it (fun i h=>IsRangeIter h it (lo+(i:Nat)*1) ((n:Int) - (i:Nat)) 1) where
 mem:=by simp
 obj:=fun i h st b hb=>by
  have e:b=it:=by simpa using hb
  subst e;exact⟨_,st,fun v z=>by
   have z':Data.fields _=Data.cell v:=z;cases z'⟩
 keep:=fun i h h' st k=>k it nofun _ st
 item:=by
  intro X hP hw hK hc i pins s L H E I hf st hg;subst hP hw hK;obtain⟨f0,f1,f2,f3,f4,f5⟩:=hf it nofun;have W:=Walks.range (prog:=X.prog) (w:=X.w) (I.ok.hd hc) it lo 1 n;refine(W.item i s _ _ hg st fun v h' tk hv st' kk=>?_);obtain⟨t,rfl⟩:=hv;have I1:Inv X pins L H {s with heap:=h',toks:=tk}:=I.turned (fun b o hb e=>kk b o (by simpa using hb) e) f0 f1 f3 f4 f5;refine(⟨_,rfl,xa (s:={s with heap:=h',toks:=tk}) (n:="range_iterator") st' rfl rfl (by decide) ⟨.int (lo+i),H,I1,⟨t,?_⟩,⟨rfl,rfl⟩,st',fun b hb=>(hf b hb).1⟩⟩);rw[Int.mul_one]
 done:=by
  intro X hP hw hK hc i pins s L H E I hf st hg;subst hP hw hK;obtain⟨f0,f1,f2,f3,f4,f5⟩:=hf it nofun;exact wpAny_pyNext_range_end (I.ok.hd hc) st (by have:n<=i:=hg;omega) fun h' eb=>⟨rfl,I.turned (t':=s.toks) (fun b o hb e=>eb b o hb e) f0 f1 f3 f4 f5⟩
 self:=fun _ _ _ _ _ st h=>wpAny_pyIter_rangeiter st h
section
variable {X:Cx} {tg:Expr}
def DG(K:Frag)(tl:TE):TI:=fun L H R=>tl L H fun x H1=>∃a,x=.ref a/\(∃xs,SqL K H1 a xs)/\R (Itl K a) H1
def A0(K:Frag)(tl:TE):TI:=fun L H R=>tl L H fun x H1=>∃a,x=.ref a/\(∃xs,SqT K H1 a xs)/\R (Itt K a) H1
theorem Cl{l:Expr}{tl:TE}(hl:PE X l tl):PI X tg l (DG X.K tl):=by
 intro pins s L H R I h;refine thn (hl pins s L H _ I h) fun v s1 hm=>?_;obtain⟨x,H1,I1,r1,q1⟩:=hm;obtain⟨a,e,⟨xs,hq⟩,q⟩:=q1;subst e;cases r1;obtain⟨its,rv,p,hz⟩:=I1.list hq;refine(Vw p.isList ?_);refine⟨s1.heap.objs.size,[s1.heap.objs.size],_,_,H1,rfl,I1.kept (t':=s1.toks) fun b o e=>SD _ e,R1 a _,⟨_,SM _ rfl,rfl,rfl⟩,fun b hb=>?_,q⟩;have e:b=s1.heap.objs.size:=by simpa using hb
 subst e;exact I1.fpOk (SF _) (I1.hok.fresh<|SF _)
theorem RK{l:Expr}{tl:TE}(hl:PE X l tl):PI X tg l (A0 X.K tl):=by
 intro pins s L H R I h;refine thn (hl pins s L H _ I h) fun v s1 hm=>?_;obtain⟨x,H1,I1,r1,q1⟩:=hm;obtain⟨a,e,⟨xs,hq⟩,q⟩:=q1;subst e;cases r1;obtain⟨its,rv,p,hz⟩:=I1.tuple hq;refine(wpAny_pyIter_tuple (show s1.heap.IsTuple a its.toArray from p) ?_);refine⟨s1.heap.objs.size,[s1.heap.objs.size],_,_,H1,rfl,I1.kept (t':=s1.toks) fun b o e=>SD _ e,Ph a _,⟨_,SM _ rfl,rfl,rfl⟩,fun b hb=>?_,q⟩;have e:b=s1.heap.objs.size:=by simpa using hb
 subst e;exact I1.fpOk (SF _) (I1.hok.fresh<|SF _)
theorem xu{pins:SL}{L:St}{H:Hp}{s:Shared}{R:It->Hp->Prop}{E:SC}{lo hi:Int}{t u v:Tok}{tk:Nat}(I:Inv X pins L H s)(h1:-(2^62)<=lo)(h2:lo<2^62)(h3:-(2^62)<=hi)(h4:hi<2^62)
  (q:R (Itr lo (hi - lo).toNat) H):wpAny (model X.prog X.w) X.A (pyIter<|.ref s.heap.objs.size) (PIE X pins L tg R) E {s with heap:=s.heap.push {cls:=.type "range",data:=.fields #[.int lo t,.int hi u,.int 1 v]},toks:=tk}:=by
 refine wpAny_pyIter_range (IsRange.new ..) (small_one h1 h2 h3 h4) ?_;have I1:Inv X pins L H {s with heap:=s.heap.push {cls:=.type "range",data:=.fields #[.int lo t,.int hi u,.int 1 v]},toks:=tk}:=I.kept fun b o e=>SD _ e;refine⟨(s.heap.push {cls:=.type "range",data:=.fields #[.int lo t,.int hi u,.int 1 v]}).objs.size,[(s.heap.push {cls:=.type "range",data:=.fields #[.int lo t,.int hi u,.int 1 v]}).objs.size],_,_,H,rfl,
  I1.kept (t':=tk) fun b o e=>SD _ e,Dz _ lo (hi - lo).toNat,?_,fun b hb=>?_,q⟩
 .have e1:lo+((0:Nat):Int)*1=lo:=by simp
  have e2:(((hi - lo).toNat:Nat):Int) - ((0:Nat):Int)=Builtin.Range.rangeSize lo hi 1:=by rw[Vx];split<;>omega
  show IsRangeIter _ _ (lo+((0:Nat):Int)*1) ((((hi - lo).toNat:Nat):Int) - ((0:Nat):Int)) 1;rw[e1,e2];exact SM _ rfl
 .have e:b=(s.heap.push {cls:=.type "range",data:=.fields #[.int lo t,.int hi u,.int 1 v]}).objs.size:=by simpa using hb
  subst e;exact I1.fpOk (SF _) (I1.hok.fresh<|SF _)
def DY(ta:TA):TI:=fun L H R=>ta L H fun vs H1=>∃j:Int,vs=[.int j]/\-(2^62)<=j/\j<2^62/\R (Itr 0 j.toNat) H1
def CQ(ta:TA):TI:=fun L H R=>ta L H fun vs H1=>∃i j:Int,vs=[.int i,.int j]/\(-(2^62)<=i/\i<2^62/\-(2^62)<=j/\j<2^62)/\R (Itr i (j - i).toNat) H1
theorem Ka{a:Expr}{ta:TA}{p pos:Pos}(hg:Gl X "range") (hm:X.mg "range"=none) (ha:PA X [a] ta) (hs:starEach [a] X.env=[(false,eval a X.env)]:=by rfl):PI X tg (.Call (.Name "range" p) [a] [] pos) (DY ta):=by
 intro pins s L H R I h;refine Call_ (kt I hg hm boot_range<|Tv (thn (ha pos pins s L H _ I h) fun us s1 hm=>?_) hs rfl);obtain⟨vs,H1,I1,r1,q1⟩:=hm;obtain⟨j,e,q1,q2,q⟩:=q1;subst e;cases r1 with
 |cons r rr=>
  cases rr;obtain⟨t,rfl⟩:=r;exact(Vl<|xu I1 ⋯ ⋯ q1 q2<|by simpa using q)
theorem Q4{a b:Expr}{ta:TA}{p pos:Pos}(hg:Gl X "range") (hm:X.mg "range"=none) (ha:PA X [a,b] ta) (hs:starEach [a,b] X.env=[(false,eval a X.env),(false,eval b X.env)]:=by rfl) (hs2:starEach [b] X.env=[(false,eval b X.env)]:=by rfl):
  PI X tg (.Call (.Name "range" p) [a,b] [] pos) (CQ ta):=by
 intro pins s L H R I h;refine Call_ (kt I hg hm boot_range<|Tv (thn (ha pos pins s L H _ I h) fun us s1 hm=>?_) (by rw[hs,hs2]) (by rw[hs2];rfl));obtain⟨vs,H1,I1,r1,q1⟩:=hm;obtain⟨i,j,e,⟨q1,q2,q3,q4⟩,q⟩:=q1;subst e;cases r1 with
 |cons r rr=>
  cases rr with
  |cons r' rr=>
   cases rr;obtain⟨t,rfl⟩:=r;obtain⟨t',rfl⟩:=r';exact(call_range_2<|xu I1 q1 q2 q3 q4 q)
def KK(wi:TI)(g:TG)(tb:TS):TS:=fun D L H=>wi L H fun Z6 H1=>∃W:Nat->Nat->St->Hp->Prop,(∃m,W 0 m L H1)/\∀i m L H,W i m L H->
 (Z6.stop i H/\D.nx L H)\/(Z6.go i H/\∃N:St->Hp->Prop,(∀Z0 H',N Z0 H'->∃m',m'<m/\W (i+1) m' Z0 H')/\∀x H',Z6.yld i H x H'->g x L H' fun ZU H2=>tb {D with nx:=N,ct:=N,bk:=D.nx} ZU H2)
def mq(fp:ś)(h:Heap):SL:=fp.filterMap fun b=>(h.get? b).map fun o=>(b,o)
theorem kr{fp:ś}{h:Heap}{b:Addr}{o:Obj}(hb:b∈fp)(e:h.get? b=some o):(b,o)∈mq fp h:=UU.mpr ⟨b,hb,by rw[e];rfl⟩
theorem Q7{fp:ś}{h:Heap}{p:Addr×Obj}(hp:p∈mq fp h):p.1∈fp/\h.get? p.1=some p.2:=by
 obtain⟨b,hb,e⟩:=UU.mp hp;cases q:h.get? b with
 |none=>rw[q] at e;cases e
 |some o=>
  rw[q] at e;have e':(b,o)=p:=S5 e;subst e';exact⟨hb,q⟩
theorem Inv.pinned{pins:SL}{L:St}{H:Hp}{s:Shared}{fp:ś}(I:Inv X pins L H s)(hf:∀b∈fp,gO X pins H b)(ho:∀b∈fp,∃o,s.heap.get? b=some o/\∀v,o.data≠.cell v):Inv X (pins++mq fp s.heap) L H s:=
 I.pins_of fun p hp=>(Tb.mp hp).elim (fun z=>I.pin p<|SQ _ z) fun z=>by
  obtain⟨hb,e⟩:=Q7 z;obtain⟨f0,f1,f2,_⟩:=hf p.1 hb;obtain⟨o,e',d⟩:=ho p.1 hb;rw[e] at e';cases e';exact⟨e,f0,f1,f2,d⟩
theorem Inv.unpinned{pins pl:SL}{L:St}{H:Hp}{s:Shared}(I:Inv X (pins++pl) L H s):Inv X pins L H s:=I.pins_of fun p hp=>I.pin p (SQ _<|UG _ hp)
theorem Ec{iter:Expr}{body:Ũ}{wi:TI}{g:TG}{tb:TS}{pos:Pos}(hp:PassesOwn (model X.prog X.w) X.A X.env X.xe)(hc:X.calm=true)(hi:PI X tg iter wi)(hg:PG X tg g)(hb:PSs X body tb)
  (hs:∀x,foldedSetIterable iter X.env x=pure x:=by intro _;rfl):PS X (.For tg iter body [] pos) (KK wi g tb):=by
 intro pins s L H D I h;refine wpAny_For (thn (hi pins s L H _ I h) fun v s1 h1=>thn h1 fun itv s2 h2=>?_) hs;obtain⟨it,fp,tn,Z6,H2,e,I2,T,st2,f2,W,⟨m0,w0⟩,turn⟩:=h2;subst e;have stat:∀{H':Hp},(∀b∈fp,H' b=none)->∀b∈fp,gO X pins H' b:=fun hn b hb=>⟨hn b hb,(f2 b hb).2⟩
 refine codeAny_forLoop_any (fun n s'=>∃i Z0 H',Inv X pins Z0 H' s'/\tn i s'.heap/\(∀b∈fp,H' b=none)/\W i n Z0 H') ?_ m0 ⟨0,L,H2,I2,st2,fun b hb=>(f2 b hb).1,w0⟩;rintro n s3 ⟨i,ZH,H3,I3,st3,fr3,w3⟩;rcases turn i n ZH H3 w3 with⟨stop,qn⟩|⟨go,N,hN,step⟩
 .refine Uo hp (thn (T.done X rfl rfl rfl hc i pins s3 ZH H3 X.xe I3 (stat fr3) st3 stop) fun r s4 ⟨hr,I4⟩=>?_);subst hr;exact US ⟨ZH,H3,I4,qn⟩
 .refine Uo hp (thn (T.item X rfl rfl rfl hc i pins s3 ZH H3 X.xe I3 (stat fr3) st3 go) fun r s4 ⟨u,hr,h4⟩=>?_);subst hr;refine Uo hp (thn h4 fun _ s5 hm=>?_);obtain⟨x,H5,I5,r5,y5,st5,fr5⟩:=hm;have I5':=I5.pinned (stat fr5) (T.obj _ _ st5);refine(Uo hp<|thn (hg _ s5 ZH H5 x u _ I5' r5<|step x H5 y5) fun _ s6 hm=>?_);obtain⟨Zq,H6,I6,q6⟩:=hm;refine(Uo hp<|thn (hb _ s6 Zq H6 _ I6 q6) fun f s7 q7=>?_);have again:∀{ZS:St} {H7:Hp},Inv X (pins++mq fp s5.heap) ZS H7 s7->N ZS H7->∃m,m<n/\∃i Z0 H',Inv X pins Z0 H' s7/\tn i s7.heap/\(∀b∈fp,H' b=none)/\W i m Z0 H':=fun{ZS H7} I7 n7=>by
   obtain⟨m',hm,w7⟩:=hN ZS H7 n7;refine(⟨m',hm,i+1,ZS,H7,I7.unpinned,T.keep _ _ _ st5 fun b hb o e=>(I7.pin (b,o)<|SQ _<|SQ _<|kr hb e).1,fun b hb=>?_,w7⟩);obtain⟨o,e,d⟩:=T.obj _ _ st5 b hb;exact((I7.pin (b,o)<|SQ _<|SQ _<|kr hb e).2.1)
  cases f with
  |next=>obtain⟨ZS,H7,I7,n7⟩:=q7;exact again I7 n7
  |cont=>obtain⟨ZS,H7,I7,n7⟩:=q7;exact again I7 n7
  |brk=>obtain⟨ZS,H7,I7,q7⟩:=q7;exact⟨ZS,H7,I7.unpinned,q7⟩
  |ret v=>obtain⟨x7,ZS,H7,I7,r7,q7⟩:=q7;exact⟨x7,ZS,H7,I7.unpinned,r7,q7⟩
end
abbrev R2:=V->V->Hp->VK->Prop
def OpR(X:Cx)(f:Value->Value->Sem Value)(r:R2):Prop:=
 ∀(pins:SL) (s:Shared) (L:St) (H:Hp) (x y:V) (v u:Value) (Q:VK),Inv X pins L H s->RelV x v->RelV y u->r x y H Q->
  wpAny (model X.prog X.w) X.A (f v u) (EP X pins L Q) X.xe s
def UnR(X:Cx)(f:Value->Sem Value)(r:V->Hp->VK->Prop):Prop:=
 ∀(pins:SL) (s:Shared) (L:St) (H:Hp) (x:V) (v:Value) (Q:VK),Inv X pins L H s->RelV x v->r x H Q->
  wpAny (model X.prog X.w) X.A (f v) (EP X pins L Q) X.xe s
def jt(X:Cx)(f:Value)(r:Ř->Hp->VK->Prop):Prop:=
 ∀(pins:SL) (s:Shared) (L:St) (H:Hp) (xs:Ř) (us:Ő) (Q:VK),Inv X pins L H s->Vals xs us->r xs H Q->
  wpAny (model X.prog X.w) X.A (call f us) (EP X pins L Q) X.xe s
def Pi(X:Cx)(r:V->Hp->(Bool->Hp->Prop)->Prop):Prop:=
 ∀(pins:SL) (s:Shared) (L:St) (H:Hp) (x:V) (v:Value) (Q:Bool->Hp->Prop),Inv X pins L H s->RelV x v->r x H Q->
  wpAny (model X.prog X.w) X.A (truthy v) (TP X pins L Q) X.xe s
def tOp(r:R2)(ta tb:TE):TE:=fun L H Q=>ta L H fun x H1=>tb L H1 fun y H2=>r x y H2 Q
def tUn(r:V->Hp->VK->Prop)(ta:TE):TE:=fun L H Q=>ta L H fun x H1=>r x H1 Q
def rI(C:Int->Int->Prop)(g:Int->Int->V):R2:=fun x y H Q=>∃i j,x=.int i/\y=.int j/\C i j/\Q (g i j) H
def rI0(g:Int->Int->V):R2:=fun x y H Q=>∃i j,x=.int i/\y=.int j/\Q (g i j) H
def rU(g:Int->V):V->Hp->VK->Prop:=fun x H Q=>∃i,x=.int i/\Q (g i) H
section
variable {X:Cx} {a b:Expr} {ta tb:TE} {pos:Pos}
theorem u9(ha:PE X a ta)(hb:PE X b tb){pins:SL}{s:Shared}{L:St}{H:Hp}{R:V->V->Hp->Prop}(I:Inv X pins L H s)
  (h:ta L H fun x H1=>tb L H1 fun y H2=>R x y H2) {Q:SC} {f:Value->Value->Sem Value}
  (hf:∀v u s2 x y H2,Inv X pins L H2 s2->RelV x v->RelV y u->R x y H2->wpAny (model X.prog X.w) X.A (f v u) Q X.xe s2):
  wpAny (model X.prog X.w) X.A (eval a X.env) (fun v ZT=>wpAny (model X.prog X.w) X.A (eval b X.env) (fun u ZI=>wpAny (model X.prog X.w) X.A (f v u) Q X.xe ZI) X.xe ZT) X.xe s:=by
 refine thn (ha pins s L H _ I h) fun v s1 hm=>?_;obtain⟨x,H1,I1,r1,q1⟩:=hm;refine(thn (hb pins s1 L H1 _ I1 q1) fun u s2 hm=>?_);obtain⟨y,H2,I2,r2,q2⟩:=hm;exact(hf v u s2 x y H2 I2 r1 r2 q2)
theorem Gw{op:Operator}{r:R2}(ho:OpR X (binaryOp op) r)(ha:PE X a ta)(hb:PE X b tb):PE X (.BinOp a op b pos) (tOp r ta tb):=by
 intro pins s L H Q I h;exact wpAny_BinOp (u9 ha hb I h fun v u s2 x y H2 I2 rx ry q=>ho pins s2 L H2 x y v u Q I2 rx ry q)
theorem Gj{op:UnaryOp}{r:V->Hp->VK->Prop}(ho:UnR X (unaryOp op) r)(ha:PE X a ta):PE X (.UnaryOp op a pos) (tUn r ta):=by
 intro pins s L H Q I h;exact UnaryOp_ (thn (ha pins s L H _ I h) fun v s1 ⟨x,H1,I1,r1,q1⟩=>ho pins s1 L H1 x v Q I1 r1 q1)
theorem opI{f:Value->Value->Sem Value}{C:Int->Int->Prop}{g:Int->Int->Int}
  (rule:∀(i j:Int) (t u:Tok) (s:Shared) (Q:SC) (E:SC),C i j->Q (.int (g i j) s.toks) {s with toks:=s.toks+1}->wpAny (model X.prog X.w) X.A (f (.int i t)<|.int j u) Q E s):
  OpR X f (rI C fun i j=>.int<|g i j):=by
 intro pins s L H x y v u Q I rx ry h;obtain⟨i,j,rfl,rfl,hc,q⟩:=h;obtain⟨t,rfl⟩:=rx;obtain⟨t',rfl⟩:=ry;exact(rule i j t t' s _ _ hc ⟨.int (g i j),H,I.tok _,⟨_,rfl⟩,q⟩)
theorem AU{f:Value->Value->Sem Value}{g:Int->Int->Int}
  (rule:∀(i j:Int) (t u:Tok) (s:Shared) (Q:SC) (E:SC),Q (.int (g i j) s.toks) {s with toks:=s.toks+1}->wpAny (model X.prog X.w) X.A (f (.int i t)<|.int j u) Q E s):
  OpR X f (rI0 fun i j=>.int<|g i j):=by
 intro pins s L H x y v u Q I rx ry h;obtain⟨i,j,rfl,rfl,q⟩:=h;obtain⟨t,rfl⟩:=rx;obtain⟨t',rfl⟩:=ry;exact(rule i j t t' s _ _ ⟨.int (g i j),H,I.tok _,⟨_,rfl⟩,q⟩)
theorem ym{f:Value->Value->Sem Value}{g:Int->Int->Bool}
  (rule:∀(i j:Int) (t u:Tok) (s:Shared) (Q:SC) (E:SC),Q (.bool<|g i j) s->wpAny (model X.prog X.w) X.A (f (.int i t)<|.int j u) Q E s):
  OpR X f (rI0 fun i j=>.bl<|g i j):=by
 intro pins s L H x y v u Q I rx ry h;obtain⟨i,j,rfl,rfl,q⟩:=h;obtain⟨t,rfl⟩:=rx;obtain⟨t',rfl⟩:=ry;exact(rule i j t t' s _ _ ⟨.bl (g i j),H,I,rfl,q⟩)
def kh(i j:Int):Prop:=0<=j/\j<=1000000/\i.natAbs<2^64
def CMul(i j:Int):Prop:=(-(2^64)<i/\i<2^64)\/(-(2^64)<j/\j<2^64)
theorem CMul.ok{i j:Int}(h:CMul i j):IntMulOk i j:=by
 rcases h with⟨h1,h2⟩|⟨h1,h2⟩
 .exact .of_left (intBits_le_64 h1 h2)
 .exact .of_right (intBits_le_64 h1 h2)
theorem op_add:OpR X (binaryOp .Add) (rI0 fun i j=>.int<|i+j):=AU fun _ _ _ _ _ _ _ q=>add_int q
theorem Fw:OpR X (binaryOp .Sub) (rI0 fun i j=>.int<|i - j):=AU fun _ _ _ _ _ _ _ q=>sub_int q
theorem op_mul:OpR X (binaryOp .Mult) (rI CMul fun i j=>.int<|i*j):=opI fun _ _ _ _ _ _ _ hc q=>mul_int q hc.ok
theorem OP:OpR X (binaryOp .Mod) (rI (fun _ j=>0<j) fun i j=>.int<|i%j):=opI fun i j _ _ _ _ _ hc q=>by
 have h1:(0:Int)<j:=hc;exact mod_int' ⋯ (by rw[Int.fmod_eq_emod_of_nonneg i ⋯];exact q)
theorem Lr:OpR X (binaryOp .Pow) (rI kh fun i j=>.int<|i^j.toNat):=opI fun _ _ _ _ _ _ _ hc q=>pow_int_small hc.1 hc.2.1 hc.2.2 q
theorem unI{f:Value->Sem Value}{g:Int->Int}
  (rule:∀(i:Int) (t:Tok) (s:Shared) (Q:SC) (E:SC),Q (.int (g i) s.toks) {s with toks:=s.toks+1}->wpAny (model X.prog X.w) X.A (f<|.int i t) Q E s):
  UnR X f (rU fun i=>.int<|g i):=by
 intro pins s L H x v Q I rx h;obtain⟨i,rfl,q⟩:=h;obtain⟨t,rfl⟩:=rx;exact(rule i t s _ _ ⟨.int (g i),H,I.tok _,⟨_,rfl⟩,q⟩)
theorem Js:UnR X (unaryOp .USub) (rU fun i=>.int<|-i):=unI fun _ _ _ _ _ q=>neg_int q
end
section
variable {X:Cx} {a b c:Expr} {ta tb tc:TE} {pos:Pos}
theorem zg{pins:SL}{L:St}{H:Hp}{s:Shared}{Q:VK}{k k':Bool}(I:Inv X pins L H s)(q:Q (.bl k) H)(e:k=k'):EP X pins L Q (.bool k') s:=by
 subst e;exact⟨.bl k,H,I,rfl,q⟩
theorem t7:OpR X (compareOp .Lt) (rI0 fun i j=>.bl<|decide (i<j)):=ym fun _ _ _ _ _ _ _ q=>lt_int q
theorem xP:OpR X (compareOp .LtE) (rI0 fun i j=>.bl<|decide (i<=j)):=ym fun _ _ _ _ _ _ _ q=>le_int q
theorem Kq:OpR X (compareOp .Gt) (rI0 fun i j=>.bl<|decide (j<i)):=ym fun _ _ _ _ _ _ _ q=>gt_int q
theorem K9:OpR X (compareOp .Is) (fun x y H Q=>y=.non/\Q (.bl<|decide (x=.non)) H):=by
 intro pins s L H x y v u Q I rx ry h;obtain⟨rfl,q⟩:=h;cases ry;refine(is_none_gen<|zg I q ?_);cases x<;>first
  |(cases rx;rfl)
  |(obtain⟨t,rfl⟩:=rx;rfl)
theorem MU:OpR X (compareOp .IsNot) (fun x y H Q=>y=.non/\Q (.bl<|!decide (x=.non)) H):=by
 intro pins s L H x y v u Q I rx ry h;obtain⟨rfl,q⟩:=h;cases ry;refine(isnot_none_gen<|zg I q ?_);cases x<;>first
  |(cases rx;rfl)
  |(obtain⟨t,rfl⟩:=rx;rfl)
theorem OpR.or{f:Value->Value->Sem Value}{r r':R2}(h:OpR X f r)(h':OpR X f r'):OpR X f (fun x y H Q=>r x y H Q\/r' x y H Q):=by
 intro pins s L H x y v u Q I rx ry q;rcases q with q|q
 .exact h pins s L H x y v u Q I rx ry q
 .exact h' pins s L H x y v u Q I rx ry q
theorem l4(b:Expr)(h:op≠.In:=by decide)(h2:op≠.NotIn:=by decide):behindInMarks op b=false:=by
 have e1:(op==CmpOp.In)=false:=by cases op<;>first|rfl|exact absurd rfl h
 have e2:(op==CmpOp.NotIn)=false:=by cases op<;>first|rfl|exact absurd rfl h2
 cases b<;>simp[behindInMarks,e1,e2]
theorem QT{op:CmpOp}{r:R2}(ho:OpR X (compareOp op) r)(ha:PE X a ta)(hb:PE X b tb)(hm:behindInMarks op b=false):PE X (.Compare a [op] [b] pos) (tOp r ta tb):=by
 intro pins s L H Q I h;exact wpAny_Compare1 (u9 ha hb I h fun v u s2 x y H2 I2 rx ry q=>ho pins s2 L H2 x y v u Q I2 rx ry q) hm
def wV(t:TE):TT:=fun L H Q=>t L H fun x H'=>∃k,x=.bl k/\Q k H'
theorem Et{op:CmpOp}{r:R2}(ho:OpR X (compareOp op) r)(ha:PE X a ta)(hb:PE X b tb)(hm:behindInMarks op b=false):PT X (.Compare a [op] [b] pos) (wV<|tOp r ta tb):=by
 intro pins s L H Q I h;refine wpAny_isTrue_Compare1 (thn (ha pins s L H _ I h) fun v s1 ⟨x,H1,I1,r1,q1⟩=>thn (hb pins s1 L H1 _ I1 q1) fun u s2 ⟨y,H2,I2,r2,q2⟩=>
  thn (ho pins s2 L H2 x y v u _ I2 r1 r2 q2) fun c s3 ⟨z,H3,I3,r3,k,e,q3⟩=>?_) hm
 subst e;cases r3;exact Tt ⟨H3,I3,q3⟩
def v6(r r':R2)(ta tb tc:TE):TE:=fun L H Q=>ta L H fun x H1=>tb L H1 fun y H2=>r x y H2 fun z H3=>∃k,z=.bl k/\
 (if k=true then tc L H3 fun w' H4=>r' y w' H4 Q else Q (.bl false) H3)
theorem JX{op op':CmpOp}{r r':R2}(ho:OpR X (compareOp op) r)(ho':OpR X (compareOp op') r')(ha:PE X a ta)(hb:PE X b tb)(hc:PE X c tc)
  (hm:lastMarks [op,op'] [b,c]=false:=by with_unfolding_all rfl):PE X (.Compare a [op,op'] [b,c] pos) (v6 r r' ta tb tc):=by
 intro pins s L H Q I h;refine Compare_chain (thn (ha pins s L H _ I h) fun v s1 ⟨x,H1,I1,r1,q1⟩=>chain_link (thn (hb pins s1 L H1 _ I1 q1) fun u s2 ⟨y,H2,I2,r2,q2⟩=>
  thn (ho pins s2 L H2 x y v u _ I2 r1 r2 q2) fun d s3 ⟨z,H3,I3,r3,k,e,q3⟩=>?_)) hm
 subst e;cases r3;refine Tt ?_;cases k with
 |false=>exact ite_ff ⟨.bl false,H3,I3,rfl,q3⟩
 |true=>exact ite_tt (chain_last<|thn (hc pins s3 L H3 _ I3 q3) fun w' s4 ⟨z',H4,I4,r4,q4⟩=>ho' pins s4 L H4 y z' u w' Q I4 r2 r4 q4)
theorem Rq{op op':CmpOp}{r r':R2}(ho:OpR X (compareOp op) r)(ho':OpR X (compareOp op') r')(ha:PE X a ta)(hb:PE X b tb)(hc:PE X c tc)
  (hm:lastMarks [op,op'] [b,c]=false:=by with_unfolding_all rfl):PT X (.Compare a [op,op'] [b,c] pos) (wV<|v6 r r' ta tb tc):=by
 intro pins s L H Q I h;refine isTrue_chain (thn (ha pins s L H _ I h) fun v s1 ⟨x,H1,I1,r1,q1⟩=>test_link (thn (hb pins s1 L H1 _ I1 q1) fun u s2 ⟨y,H2,I2,r2,q2⟩=>
  thn (ho pins s2 L H2 x y v u _ I2 r1 r2 q2) fun d s3 ⟨z,H3,I3,r3,k,e,q3⟩=>?_)) hm
 subst e;cases r3;refine Tt ?_;cases k with
 |false=>
  obtain⟨k',e',q'⟩:=q3;cases e';exact ite_ff ⟨H3,I3,q'⟩
 |true=>
  refine ite_tt (test_last<|thn (hc pins s3 L H3 _ I3 q3) fun w' s4 ⟨z',H4,I4,r4,q4⟩=>thn (ho' pins s4 L H4 y z' u w' _ I4 r2 r4 q4) fun d' s5 hm=>?_);obtain⟨z2,H5,I5,r5,k2,e2,q5⟩:=hm;subst e2;cases r5;exact(Tt ⟨H5,I5,q5⟩)
def xL(K:Frag)(x:V)(H:Hp)(k:Bool):Prop:=
 match x with
 | .non=>k=false
 | .bl b=>k=b
 | .int i=>k=(i !=0)
 | .str y=>y.length<=sizeLine/\k=((y.length:Int) !=0)
 | .byt y=>y.size<=sizeLine/\k=((y.size:Int) !=0)
 | .ref p=>(∃xs,SqL K H p xs/\k=!xs.isEmpty)\/(∃xs,SqT K H p xs/\k=!xs.isEmpty)\/∃kvs,H p=some (.dK kvs)/\k=!kvs.isEmpty
 |_=>False
theorem FU{κ:Type}{kvs:List (κ×V)}{vs:List (κ×Value)}(r:KV kvs vs):(!vs.isEmpty)=!kvs.isEmpty:=by
 cases r<;>rfl
theorem Dt{xs:Ř}{its:Ő}(r:Vals xs its):(!its.toArray.isEmpty)=!xs.isEmpty:=by
 cases r<;>simp
theorem nX:(sizeLine:Nat)<2^63:=by rw[Ue];decide
theorem MV:Pi X (fun x H Q=>∃k,xL X.K x H k/\Q k H):=by
 intro pins s L H x v Q I rx h;obtain⟨k,e,q⟩:=h;have hl:=nX;have hs:sizeLine=16777216:=Ue;cases x with
 |non=>
  cases rx;have e':k=false:=e;subst e';exact truthy_none ⟨H,I,q⟩
 |bl b=>
  cases rx;have e':k=b:=e;subst e';exact Tt ⟨H,I,q⟩
 |int i=>
  obtain⟨t,rfl⟩:=rx;have e':k=(i !=0):=e;subst e';exact PySem.P.truthy_int ⟨H,I,q⟩
 |str y=>
  obtain⟨t,rfl⟩:=rx;obtain⟨hy,e'⟩:y.length<=sizeLine/\k=((y.length:Int) !=0):=e;subst e';exact PySem.P.truthy_str ⋯ ⟨H,I.tok _,q⟩
 |byt y=>
  obtain⟨t,rfl⟩:=rx;obtain⟨hy,e'⟩:y.size<=sizeLine/\k=((y.size:Int) !=0):=e;subst e';exact PySem.W.truthy_bytes ⋯ ⟨H,I.tok _,q⟩
 |ref p=>
  cases rx;have e':(∃xs,SqL X.K H p xs/\k=!xs.isEmpty)\/(∃xs,SqT X.K H p xs/\k=!xs.isEmpty)\/∃kvs,H p=some (.dK kvs)/\k=!kvs.isEmpty:=e;rcases e' with⟨xs,hx,e'⟩|⟨xs,hx,e'⟩|⟨kvs,hx,e'⟩
  .subst e';obtain⟨its,r,pl,hz⟩:=I.list hx;have hlen:=r.length;exact wpAny_truthy_list pl.isList (by simp only[SS];omega) ⟨H,I.tok _,by rw[Dt r];exact q⟩
  .subst e';obtain⟨its,r,pl,hz⟩:=I.tuple hx;have hlen:=r.length;exact truthy_tuple pl (by simp only[SS];omega) ⟨H,I.tok _,by rw[Dt r];exact q⟩
  .subst e';obtain⟨hz,hS,vs,r,m⟩:kvs.length<=sizeLine/\(p==sysModules)=false/\∃vs,KV kvs vs/\s.heap.DictOf (iW X.prog X.w) p vs:=I.hok p _ hx;have hlen:kvs.length=vs.length:=UQ r;exact wpAny_truthy_dict hS m ⋯ ⟨H,I.tok _,by rw[FU r];exact q⟩
 |_=>exact(show False from e).elim
theorem OC(ha:PE X a ta)(he:∀whole,isTrue a X.env whole=(do let v ←whole;standAt a.pos;holding [v] (truthy v))):
  PT X a (fun L H Q=>ta L H fun x H'=>∃k,xL X.K x H' k/\Q k H'):=by
 intro pins s L H Q I h;exact isTrue_plain (thn (ha pins s L H _ I h) fun v s1 ⟨x,H1,I1,r1,q1⟩=>MV pins s1 L H1 x v Q I1 r1 q1) (he _)
theorem lT{x:V}{us:Ő}(r:Vals [x] us):∃u,us=[u]/\RelV x u:=by
 cases r with
 |cons r1 r2=>cases r2;exact⟨_,rfl,r1⟩
theorem oO{x y:V}{us:Ő}(r:Vals [x,y] us):∃u w',us=[u,w']/\RelV x u/\RelV y w':=by
 cases r with
 |cons r1 r2=>
  cases r2 with
  |cons r3 r4=>cases r4;exact⟨_,_,rfl,r1,r3⟩
theorem Ou(hc:X.calm=true):jt X (.builtin "max") (fun xs H Q=>∃i j,xs=[.int i,.int j]/\Q (.int<|if j>i then j else i) H):=by
 intro pins s L H xs us Q I r h;obtain⟨i,j,rfl,q⟩:=h;obtain⟨u,w',rfl,⟨t,rfl⟩,⟨t',rfl⟩⟩:=oO r;refine(max_two_ints (I.ok.hd hc) fun h' tk k=>⟨_,H,I.kept k,?_,q⟩);by_cases hj:j>i
 .rw[if_pos hj,if_pos hj];exact⟨_,rfl⟩
 .rw[if_neg hj,if_neg hj];exact⟨_,rfl⟩
theorem IA(hc:X.calm=true):jt X (.builtin "min") (fun xs H Q=>∃i j,xs=[.int i,.int j]/\Q (.int<|if j<i then j else i) H):=by
 intro pins s L H xs us Q I r h;obtain⟨i,j,rfl,q⟩:=h;obtain⟨u,w',rfl,⟨t,rfl⟩,⟨t',rfl⟩⟩:=oO r;refine(min_two_ints (I.ok.hd hc) fun h' tk k=>⟨_,H,I.kept k,?_,q⟩);by_cases hj:j<i
 .rw[if_pos hj,if_pos hj];exact⟨_,rfl⟩
 .rw[if_neg hj,if_neg hj];exact⟨_,rfl⟩
theorem HH:jt X (.type "int") (fun xs H Q=>(∃i,xs=[.int i]/\Q (.int i) H)\/∃k,xs=[.bl k]/\Q (.int<|if k then 1 else 0) H):=by
 intro pins s L H xs us Q I r h;rcases h with⟨i,rfl,q⟩|⟨k,rfl,q⟩
 .obtain⟨u,rfl,t,rfl⟩:=lT r;exact call_int_int ⟨.int i,H,I,⟨_,rfl⟩,q⟩
 .obtain⟨u,rfl,r1⟩:=lT r;cases r1;exact call_int_bool ⟨.int (if k then 1 else 0),H,I.tok _,⟨_,rfl⟩,q⟩
end
structure ObjM (h:Heap) (x dx C:Addr) (mA:ő):Prop where
 obj:h.get? x=some (PySem.W.instObj C dx)
 ns:h.Ns1 dx mA
 ne:dx≠x
def Nv{h:Heap}{dx:Addr}{mA:ő}(n:h.Ns1 dx mA):∃od,h.get? dx=some od/\∀name,PySem.W.lookIn name od=some (mA name):=by
 obtain⟨o,es,ep,ho,hd,hk,_,hm⟩:=n;refine(⟨o,ho,fun name=>?_⟩);have e:=hm name;unfold nsFind findBy at e;rw[←Array.find?_toList] at e;unfold PySem.W.lookIn;rw[hd];dsimp only;split
 .rename_i y q;rw[q] at e;exact congrArg some e
 .rename_i q;rw[q] at e;have a:es.toList.any (·.refKey)=false:=by
   rw[List.any_eq_false];intro y hy;obtain⟨z,t,hkey⟩:=hk y (Array.mem_toList_iff.mp hy);simp[DictEntry.refKey,hkey]
  have a':¬es.toList.any (·.refKey)=true:=by rw[a];exact Ui
  rw[if_neg a'];exact congrArg some e
def ObjM.look{h:Heap}{x dx C:Addr}{mA:ő}(I:ObjM h x dx C mA):∃od,PySem.W.InstAt h x (PySem.W.instObj C dx) C (some od)/\∀name,PySem.W.lookIn name od=some (mA name):=
 let ⟨od,ho,hl⟩:=Nv I.ns
 ⟨od,⟨I.obj,rfl,rfl,ho⟩,hl⟩
section
variable {prog:Program} {w:World} {A:Around} {E:SC} {s:Shared} {K:Frag} {x dx C f:Addr} {mA:ő} {name:Str} {v:Value}
theorem Ma{expr:Bool}{Q:SC}(X:K.In s.heap)(I:ObjM s.heap x dx C mA)(hg:PySem.W.plainGet K C name=true)(hh:PySem.W.hasDictIn K C=true)
  (ha:findIn K (.ref C) name=some none) (hv:mA name=some v) (hv':PySem.W.handedIn v=true) (h:Q v {s with toks:=s.toks+1}):
  wpAny (model prog w) A (getAttr (.ref x) name expr) Q E s:=by
 obtain⟨od,Z6,hl⟩:=I.look;exact(PySem.W.get_value X Z6 (Vj hg).1 (PySem.W.findObj_own hh ha rfl (by rw[hl,hv])) hv' h)
theorem JT{pl:Sem Bool}{Q:Value×Ő->Shared->Prop}(X:K.In s.heap)(I:ObjM s.heap x dx C mA)(hg:PySem.W.plainGet K C name=true)
  (hf:findIn K (.ref C) name=some (some<|.ref f)) (ht:isFn K (.ref f)=true) (hv:mA name=none) (h:Q (.ref f,[.ref x]) s):
  wpAny (model prog w) A (getMethod (.ref x) name pl) Q E s:=by
 obtain⟨od,Z6,hl⟩:=I.look;exact PySem.W.method_fn X Z6 (Vj hg).1 (Vj hg).2 hf (beq_iff_eq.mp ht) (by show(PySem.W.lookIn name od).map (·.isSome)=some false;rw[hl,hv];rfl) h
theorem OI{ns:Ŗ}{Q:Unit->Shared->Prop}(X:K.In s.heap)(I:ObjM s.heap x dx C mA)
  (hs:findIn K (.ref C) "__setattr__"=some (some<|.builtin "object.__setattr__")) (hp:PySem.W.plainOver K C=true) (ht:PySem.W.takerIn K C name=some none) (hh:PySem.W.hasDictIn K C=true)
  (hw:PySem.Within mA ns) (hsz:ns.length<=sizeLine)
  (h:∀h',ObjM h' x dx C (fun y=>if y=name then some v else mA y)->Heap.SameBut dx s.heap h'->Q () {s with heap:=h',toks:=s.toks+2}):
  wpAny (model prog w) A (setAttr (.ref x) name v) Q E s:=by
 obtain⟨od,Z6,hl⟩:=I.look;refine(PySem.W.set_plain X Z6 hs<|PySem.W.osa_open (s:={s with toks:=s.toks+1}) (r:=none) X Z6 hp ht fun b=>?_);obtain⟨cd,hc,hd'⟩:=PySem.W.any_some hh;have hx:s.heap.get? x=some ⟨.ref C,some dx,.plain,#[]⟩:=I.obj;refine(SA<|SE<|SA<|SA<|wpAny_loadPart hx<|SA<|PySem.W.Looks.here (s:={s with toks:=s.toks+1}) (PySem.W.looks_clsIn X hc) ?_);rw[hd'];refine SE (a:=some dx) (SA<|SE<|SA ?_);refine wpAny_nsSet1 (s:={s with toks:=s.toks+1}) I.ns fun h' hn2 hs2=>?_;obtain⟨oD,esD,epD,hoD,hdD,hcD⟩:=hn2.count (PySem.Within.cons name v hw);refine SA (wpAny_lookBehind hoD (by rw[hdD];exact pastItsLine_dict (Tg hcD (by rw[S9];omega))) ?_);exact SE (h _ ⟨(hs2.2 _<|Ne.symm I.ne).trans I.obj,hn2,I.ne⟩ hs2)
theorem RZ(X:K.In s.heap)(hm:PySem.W.makesIn K C=true)
  (hi:findIn K (.ref C) "__init__"=some (some<|.ref f)) (hf:PySem.W.typeIn K (.ref f)=some (.type "function"))
  (h:codeAny (model prog w) (A.under<|.builtin "type.__call__" ⟨.ref C::vs,kw⟩) (.call (.ref f) ⟨.ref (s.heap.objs.size+1)::vs,kw⟩) (PySem.W.InitBack (s.heap.objs.size+1) R)
   {s with heap:=(s.heap.push PySem.W.emptyDict).push (PySem.W.instObj C s.heap.objs.size)}):
  codeAny (model prog w) A (.call (.ref C) ⟨vs,kw⟩) R s:=by
 obtain⟨hh,g,d,t,os⟩:=s;exact(PySem.W.make_core (PySem.W.makes_of X hm) (PySem.W.looks_findIn X hi) (fun self=>PySem.W.bind_fn X self hf) (.inl rfl) h)
end
def ia(f:Str)(v:V):š->š
 | []=>[(f,v)]
 |(g,x)::r=>if g=f then(g,v)::r else(g,x)::ia f v r
theorem Ds(f g:Str)(v:V):∀fs:š,(ia f v fs).lookup g=if g=f then some v else fs.lookup g
 | []=>by
  show List.lookup g [(f,v)]=_;by_cases h:g=f
  .have hb:(g==f)=true:=beq_iff_eq.mpr h;simp only[List.lookup,hb,if_pos h]
  .have hb:(g==f)=false:=beq_eq_false_iff_ne.mpr h;simp only[List.lookup,hb,if_neg h]
 |(k,x)::r=>by
  have ih:=Ds f g v r;rw[show ia f v ((k,x)::r)=(if k=f then(k,v)::r else(k,x)::ia f v r) from rfl];by_cases hk:k=f
  .rw[if_pos hk];by_cases h:g=k
   .have hb:(g==k)=true:=beq_iff_eq.mpr h;simp only[List.lookup,hb,if_pos (h.trans hk)]
   .have hb:(g==k)=false:=beq_eq_false_iff_ne.mpr h;simp only[List.lookup,hb,if_neg (fun e:g=f=>h<|e.trans hk.symm)]
  .rw[if_neg hk];by_cases h:g=k
   .have hb:(g==k)=true:=beq_iff_eq.mpr h;simp only[List.lookup,hb,if_neg (fun e:g=f=>hk<|h.symm.trans e)]
   .have hb:(g==k)=false:=beq_eq_false_iff_ne.mpr h;simp only[List.lookup,hb];exact ih
theorem wI(f:Str)(v:V):∀fs:š,f∈(ia f v fs).map (·.1)/\∀g,g∈fs.map (·.1)->g∈(ia f v fs).map (·.1)
 | []=>⟨by simp[ia],fun g h=>by simp at h⟩
 |(k,x)::r=>by
  obtain⟨i1,i2⟩:=wI f v r;rw[show ia f v ((k,x)::r)=(if k=f then(k,v)::r else(k,x)::ia f v r) from rfl];by_cases hk:k=f
  .rw[if_pos hk];subst hk;exact⟨by simp,fun g h=>by simpa using h⟩
  .rw[if_neg hk];refine⟨?_,fun g h=>?_⟩
   .rw[SN];exact Tp _ i1
   .rw[SN] at h⊢;rcases S2.mp h with e|e
    .exact S2.mpr (.inl e)
    .exact Tp _ (i2 g e)
theorem DW(f:Str)(v:V):∀fs:š,(ia f v fs).length<=fs.length+1
 | []=>by simp[ia]
 |(k,x)::r=>by
  have ih:=DW f v r;rw[show ia f v ((k,x)::r)=(if k=f then(k,v)::r else(k,x)::ia f v r) from rfl];by_cases hk:k=f
  .rw[if_pos hk,S9,S9];omega
  .rw[if_neg hk,S9,S9];omega
def RelO.some_of{v:V}{o:Š}(r:RelO (some v) o):∃u,o=some u/\RelV v u:=by
 cases o with
 |none=>exact(show False from r).elim
 |some u=>exact⟨u,rfl,r⟩
def RelO.none_of{o:Š}(r:RelO none o):o=none:=by
 cases o with
 |none=>rfl
 |some u=>exact(show False from r).elim
def Lp{v:V}{u:Value}(r:RelV v u):PySem.W.handedIn u=true:=by
 cases v with
 |non=>cases (show u=Value.none from r);rfl
 |bl b=>cases (show u=Value.bool b from r);rfl
 |int i=>obtain⟨t,e⟩:=(show ∃t,u=Value.int i t from r);cases e;rfl
 |str x=>obtain⟨t,e⟩:=(show ∃t,u=Value.str x t from r);cases e;rfl
 |byt b=>obtain⟨t,e⟩:=(show ∃t,u=Value.bytes b t from r);cases e;rfl
 |flt b=>obtain⟨t,e⟩:=(show ∃t,u=Value.float b t from r);cases e;rfl
 |ref a=>cases (show u=Value.ref a from r);rfl
 |ty n=>cases (show u=Value.type n from r);rfl
section
variable {P:Program} {w:World} {H:Hp} {h:Heap} {a C dx:Addr} {fs:š}
theorem vD(hok:HOk P w H h)(e:H a=some (.ins C dx fs)):∃mA,ObjM h a dx C mA/\(∀f,RelO (fs.lookup f)<|mA f)/\PySem.Within mA (fs.map (·.1))/\fs.length<=1000/\H dx=some (.own a):=by
 obtain⟨d,z,ne,ob,mA,n,r,q⟩:=(show ObjOk P w H h a (.ins C dx fs) from hok a _ e)
 exact(⟨mA,⟨ob,n,ne⟩,r,q,z,d⟩)
end
structure Cls (K:Frag) (C:Addr):Prop where
 pg:PySem.W.plainGet K C Str.empty=true
 hd:PySem.W.hasDictIn K C=true
 po:PySem.W.plainOver K C=true
 sa:findIn K (.ref C) "__setattr__"=some (some<|.builtin "object.__setattr__")
def Cls.get{K:Frag}{C:Addr}(c:Cls K C)(f:Str):PySem.W.plainGet K C f=true:=c.pg
def NoAttr(K:Frag)(C:Addr)(f:Str):Prop:=findIn K (.ref C) f=some none
def NoAttr.taker{K:Frag}{C:Addr}{f:Str}(n:NoAttr K C f):PySem.W.takerIn K C f=some none:=by
 unfold PySem.W.takerIn;rw[show findIn K (.ref C) f=some none from n];rfl
structure Meth (K:Frag) (C:Addr) (m:Str) (f:Addr):Prop where
 at_:findIn K (.ref C) m=some (some<|.ref f)
 fn:isFn K (.ref f)=true
 kp:keepIn K (.ref f)=true
section
variable {X:Cx} {pins:SL} {L:St} {H:Hp} {s:Shared} {a C dx:Addr} {fs:š} {f:Str} {v:V} {A:Around} {E:SC}
theorem K5{b:Bool}{Q:SC}(I:Inv X pins L H s)(e:H a=some (.ins C dx fs))(c:Cls X.K C)(n:NoAttr X.K C f)(l:fs.lookup f=some v)
  (h:∀u s',Inv X pins L H s'->RelV v u->Q u s'):wpAny (model X.prog X.w) A (getAttr (.ref a) f b) Q E s:=by
 obtain⟨mA,Z9,r,_,_,_⟩:=vD I.hok e;obtain⟨u,hu,ru⟩:=RelO.some_of (v:=v) (o:=mA f) (by rw[←l];exact r f);exact(Ma I.kIn Z9 (c.get f) c.hd n hu (Lp ru)<|h u _ (I.tok _) ru)
theorem Bd{m:Str}{g:Addr}{pl:Sem Bool}{Q:Value×Ő->Shared->Prop}(I:Inv X pins L H s)(e:H a=some (.ins C dx fs))(c:Cls X.K C)(k:Meth X.K C m g)(l:fs.lookup m=none)
  (h:Q (.ref g,[.ref a]) s):wpAny (model X.prog X.w) A (getMethod (.ref a) m pl) Q E s:=by
 obtain⟨mA,Z9,r,_,_,_⟩:=vD I.hok e;have hn:mA m=none:=RelO.none_of (by rw[←l];exact r m);exact(JT I.kIn Z9 (c.get m) k.at_ k.fn hn h)
theorem HS{y:V}{u:Value}{Q:Unit->Shared->Prop}(I:Inv X pins L H s)(e:H a=some (.ins C dx fs))(c:Cls X.K C)(n:NoAttr X.K C f)(hl:fs.length<1000)(ry:RelV y u)
  (h:∀s',Inv X pins L (upd H a<|.ins C dx<|ia f y fs) s'->Q () s'):wpAny (model X.prog X.w) A (setAttr (.ref a) f u) Q E s:=by
 obtain⟨mA,Z9,r,wi,_,ho⟩:=vD I.hok e;have hz:(fs.map (·.1)).length<=sizeLine:=by rw[SW,Ue];omega
 refine(OI I.kIn Z9 c.sa c.po n.taker c.hd wi hz fun h' O' sb=>h _ ?_);have hd:∃o,h'.get? dx=some o:=let ⟨o,_,_,e',_⟩:=O'.ns;⟨o,e'⟩
 refine I.write (x:=a) (e:=dx) (by rw[e];exact True.intro) (.inr ho) (fun b q hb z=>(sb.2 b hb).trans z) hd ?_;refine⟨by rw[fR Z9.ne];exact ho,?_,Z9.ne,O'.obj,_,O'.ns,fun g=>?_,fun g hg=>?_⟩
 .have:=DW f y fs;omega
 .show RelO ((ia f y fs).lookup g) (if g=f then some u else mA g);rw[Ds];by_cases q:g=f
  .rw[if_pos q,if_pos q];exact ry
  .rw[if_neg q,if_neg q];exact r g
 .by_cases q:g=f
  .rw[q];exact(wI f y fs).1
  .refine(wI f y fs).2 g (wi g fun z=>hg ?_);show(if g=f then some u else mA g)=none;rw[if_neg q];exact z
theorem Inv.made(I:Inv X pins L H s):Inv X pins L (upd (upd H s.heap.objs.size<|.own<|s.heap.objs.size+1) (s.heap.objs.size+1)<|.ins C s.heap.objs.size [])
  {s with heap:=(s.heap.push PySem.W.emptyDict).push (PySem.W.instObj C s.heap.objs.size)}:=by
 have e1:(s.heap.push PySem.W.emptyDict).get? s.heap.objs.size=some PySem.W.emptyDict:=SM s.heap rfl;have e2:((s.heap.push PySem.W.emptyDict).push (PySem.W.instObj C s.heap.objs.size)).get? (s.heap.objs.size+1)=some (PySem.W.instObj C s.heap.objs.size):=by
  have:=SM (s.heap.push PySem.W.emptyDict) (o:=PySem.W.instObj C s.heap.objs.size) rfl;rwa[TJ] at this
 have e3:(s.heap.push PySem.W.emptyDict).Ns s.heap.objs.size (fun _=>none):=⟨PySem.W.emptyDict,#[],_,e1,rfl,(fun e he=>absurd he nofun),fun _=>rfl⟩
 have I1:=I.laid (a:=s.heap.objs.size) (o:=.own (s.heap.objs.size+1)) (h':=s.heap.push PySem.W.emptyDict) (t':=s.toks) (fun b u q=>SD _ q) (SF _) ⟨_,e1⟩;refine I1.laid (a:=s.heap.objs.size+1) (o:=.ins C s.heap.objs.size []) (t':=s.toks) (fun b u q=>SD _ q) (Nat.le_of_eq<|TJ _ _) ?_;have ne:s.heap.objs.size≠s.heap.objs.size+1:=SY (Va _);refine⟨by rw[fR ne,gH],TQ _,ne,e2,fun _=>none,(Heap.Ns1.of_empty e3).at fun o q=>SD _ q,fun _=>True.intro,fun y hy=>absurd rfl hy⟩
theorem JN{prog:Program}{w:World}{env:Env}{e:Expr}{f:Str}{pos:Pos}{s:Shared}{Q:SC}(hb:attributeBase e f env (eval e env)=eval e env)
  (h:wpAny (model prog w) A (eval e env) (fun o ZT=>wpAny (model prog w) A (getAttr o f true) Q E ZT) E s):wpAny (model prog w) A (eval (.Attribute e f pos) env) Q E s:=
 Attribute_any_ h (by rw[arm_eval_Attribute,hb])
end
def FK(K:Frag)(ta:TE)(f:Str):TE:=fun L H Q=>ta L H fun x H1=>∃a C dx fs v,x=.ref a/\H1 a=some (.ins C dx fs)/\Cls K C/\NoAttr K C f/\fs.lookup f=some v/\Q v H1
def Pt(K:Frag)(ta tv:TE)(f:Str):TS:=fun D L H=>tv L H fun y H1=>ta L H1 fun x H2=>∃a C dx fs,x=.ref a/\H2 a=some (.ins C dx fs)/\Cls K C/\NoAttr K C f/\fs.length<1000/\
 D.nx L (upd H2 a<|.ins C dx<|ia f y fs)
section
variable {X:Cx} {o e value:Expr} {f:Str} {pos pos':Pos} {ta tv:TE}
theorem JG(he:PE X e ta)(hb:attributeBase e f X.env (eval e X.env)=eval e X.env):PE X (.Attribute e f pos) (FK X.K ta f):=by
 intro pins s L H Q I h;refine JN hb (thn (he pins s L H _ I h) fun u s1 hm=>?_);obtain⟨x,H1,I1,rx,a,C,dx,fs,v,ex,ea,c,n,l,q⟩:=hm;subst ex;obtain rfl:u=Value.ref a:=rx;exact K5 I1 ea c n l fun u' s2 I2 ru=>⟨v,H1,I2,ru,q⟩
theorem Fk(ha:PE X o ta)(hv:PE X value tv)(hs:swapsWith value (some<|.Attribute o f pos') pos.line X.env=pure false):PS X (.Assign [.Attribute o f pos'] value pos) (Pt X.K ta tv f):=by
 intro pins s L H D I h;refine plainObj_wpAny_Assign_Attribute (thn (hv pins s L H _ I h) fun u s1 ⟨y,H1,I1,ry,q⟩=>thn (ha pins s1 L H1 _ I1 q) fun ov s2 hm=>?_) hs;obtain⟨x,H2,I2,rx,a,C,dx,fs,ex,ea,c,n,l,q2⟩:=hm;subst ex;obtain rfl:ov=Value.ref a:=rx;exact HS I2 ea c n l ry fun s3 I3=>⟨L,_,I3,q2⟩
theorem methcall_of{pl:Sem Bool}{m:Str}{apos:Pos}{args:Ś}{pins:SL}{s:Shared}{L:St}{H:Hp}{Q:SC}{te:TE}(he:PE X e te)(I:Inv X pins L H s)
  (h:te L H fun x H1=>∃a C dx fs g,x=.ref a/\H1 a=some (.ins C dx fs)/\Cls X.K C/\Meth X.K C m g/\fs.lookup m=none/\
   ∀s1,Inv X pins L H1 s1->wpAny (model X.prog X.w) X.A (callWith pos (.ref g) [.ref a] (backTo pos<|starEach args X.env)<|backToKw pos<|keywordEach [] X.env) Q X.xe s1)
  (ht:eval (.Call (.Attribute e m apos) args [] pos) X.env=(do
   let ov ←eval e X.env
   standAt apos.atName
   let (f,first) ←holding [ov] (getMethod ov m pl)
   callWith pos f first (backTo pos<|starEach args X.env) (backToKw pos<|keywordEach [] X.env))):
  wpAny (model X.prog X.w) X.A (eval (.Call (.Attribute e m apos) args [] pos) X.env) Q X.xe s:=by
 refine PySem.W.methodCall_KW (pl:=pl) (thn (he pins s L H _ I h) fun u s1 hm=>?_) ht;obtain⟨x,H1,I1,rx,a,C,dx,fs,g,ex,ea,c,k,l,q⟩:=hm;subst ex;obtain rfl:u=Value.ref a:=rx;exact Bd I1 ea c k l (q s1 I1)
end
structure Room (k:Nat) (A:Around):Prop where
 hd:A.handled=none
 dp:A.depth+3*k+5<recursionLimit
 un:A.units+16*k+200<cLine
 gd:A.guards=some []
def Hv{A:Around}{C:Addr}{us:Ő}{kw:ŧ}:(A.under<|.builtin "type.__call__" ⟨.ref C::us,kw⟩).guards=A.guards:=by
 first|rfl|simp[Around.under,Code.isGuard,guardIds]
def Room.mono{j k:Nat}{A:Around}(r:Room k A)(h:j<=k):Room j A:=⟨r.hd,by have:=r.dp;omega,by have:=r.un;omega,r.gd⟩
def Room.deeper{k:Nat}{A:Around}(r:Room (k+1) A)(env:Env):Room k (A.deeper env):=
 ⟨r.hd,by have:=r.dp;show A.depth+1+3*k+5<_;omega,by have:=r.un;show A.units+3+16*k+200<_;omega,r.gd⟩
def Gy{A:Around}{C:Addr}{us:Ő}{kw:ŧ}:(A.under<|.builtin "type.__call__" ⟨.ref C::us,kw⟩).depth=A.depth+1:=by
 first|rfl|simp[Around.under,Code.weight,Code.isCreation,Code.isGuard,Code.isCaller,Code.frames,Code.isFrame,guardIds]
def Oz{A:Around}{C:Addr}{us:Ő}{kw:ŧ}:(A.under<|.builtin "type.__call__" ⟨.ref C::us,kw⟩).units=A.units+1:=by
 first|rfl|simp[Around.under,Code.cUnits,Code.frames,Code.isFrame]
def Room.make{k:Nat}{A:Around}(r:Room (k+1) A)(C:Addr)(us:Ő)(kw:ŧ):Room k (A.under<|.builtin "type.__call__" ⟨.ref C::us,kw⟩):=
 ⟨r.hd,by have:=r.dp;rw[Gy];omega,by have:=r.un;rw[Oz];omega,by rw[Hv];exact r.gd⟩
def Room.depth{k:Nat}{A:Around}(r:Room k A):A.depth<recursionLimit:=by have:=r.dp;omega
def Room.units{k:Nat}{A:Around}(r:Room k A):A.units+64<cLine:=by have:=r.un;omega
def jI:TA:=fun _ H Q=>Q [] H
def iI(ta:TE)(tr:TA):TA:=fun L H Q=>ta L H fun x H1=>tr L H1 fun xs H2=>Q (x::xs) H2
section
variable {X:Cx} {e:Expr} {es:Ś} {te:TE} {t:TA} {pos:Pos}
theorem g8:PA X [] jI:=fun _ _ _ _ H Q I h=>Calls.spliced_nil ⟨[],H,I,.nil,h⟩
theorem gz(ha:PE X e te)(hr:PA X es t)(hs:starEach (e::es) X.env=(false,eval e X.env)::starEach es X.env:=by rfl):PA X (e::es) (iI te t):=by
 intro pos pins s L H Q I h;rw[hs];show wpAny _ _ (spliced<|(false,eval e X.env)::backTo pos (starEach es X.env)) _ _ s;refine Calls.spliced_cons (thn (ha pins s L H _ I h) fun u s1 hm=>?_);obtain⟨x,H1,I1,r1,q1⟩:=hm;exact(thn (hr pos pins s1 L H1 _ I1 q1) fun us s2 ⟨xs,H2,I2,r2,q2⟩=>⟨x::xs,H2,I2,.cons r1 r2,q2⟩)
def Iy(t:TA):TE:=fun L H Q=>t L H fun xs H1=>xs.length<=sizeLine/\∀p,H1 p=none->Q (.ref p) (upd H1 p<|.tup xs)
def GM(t:TA):TE:=fun L H Q=>t L H fun xs H1=>xs.length<=sizeLine/\∀p,H1 p=none->Q (.ref p) (upd H1 p<|.lst xs)
theorem Dv{x1}(h:PA X es t):PE X (.Tuple es x1 pos) (Iy t):=by
 intro pins s L H Q I hq;refine wpAny_Tuple_spliced (thn (h pos pins s L H _ I hq) fun us s1 ⟨xs,H1,I1,r,z,q⟩=>⟨by rw[←r.length];exact z,?_⟩);have hf:H1 s1.heap.objs.size=none:=I1.hok.fresh (SF _);refine⟨.ref s1.heap.objs.size,upd H1 s1.heap.objs.size (.tup xs),I1.laid (t':=s1.toks) (fun b u e=>SD _ e) (SF _) ?_,rfl,q _ hf⟩;exact⟨z,us,r,⟨_,SM _ rfl,rfl,_,rfl⟩⟩
theorem AA(h:PA X es t):PE X (.List es pos) (GM t):=by
 intro pins s L H Q I hq;refine wpAny_List_spliced (thn (h pos pins s L H _ I hq) fun us s1 ⟨xs,H1,I1,r,z,q⟩=>⟨by rw[←r.length];exact z,?_⟩);have hf:H1 s1.heap.objs.size=none:=I1.hok.fresh (SF _);refine⟨.ref s1.heap.objs.size,upd H1 s1.heap.objs.size (.lst xs),I1.laid (t':=s1.toks) (fun b u e=>SD _ e) (SF _) ?_,rfl,q _ hf⟩;exact⟨z,us,0,r,SM _ rfl⟩
end
abbrev Sp:=Ř->Hp->VK->XK->Prop
abbrev CXT:=ş->Hp->Shared->XK->Value->Shared->Prop
structure Env0 (P:Program) (w:World) (K:Frag) (mg:ő) (base:Heap) (A:Around) (outer:ş) (s:Shared) (H:Hp):Prop where
 frames:A.frames=some outer
 mod:Mod K mg base
 bs:∀b o,base.get? b=some o->s.heap.get? b=some o/\H b=none
 bsz:base.objs.size<=s.heap.objs.size
 funs:s.heap.FunFrames base outer
 frf:∀b∈frs outer,H b=none
 hok:HOk P w H s.heap
 bare:AllBare s.gens
def CE(outer:ş)(P:Program)(w:World)(H:Hp)(s:Shared)(Q:VK)(u:Value)(s':Shared):Prop:=
 ∃v H',s'.os=s.os/\AllBare s'.gens/\Un (frs outer) [] H H' s.heap s'.heap/\HOk P w H' s'.heap/\RelV v u/\Q v H'
def CR(CX:CXT)(outer:ş)(P:Program)(w:World)(H:Hp)(s:Shared)(Q:VK)(E:XK)(r:Result)(s':Shared):Prop:=
 match r with
 | .ok (.ret u)=>CE outer P w H s Q u s'
 | .ok _=>False
 | .error e=>CX outer H s E e s'
structure FnOk (P:Program) (w:World) (K:Frag) (mg:ő) (base:Heap) (CX:CXT) (k:Nat) (f:Addr) (fd:FuncData) (ps:Ŗ) (sp:Sp):Prop where
 len:∀vs H Q E,sp vs H Q E->vs.length=ps.length
 run:∀(A:Around) (outer:ş) (s:Shared) (H:Hp) (args:Args) (us:Ő) (vs:Ř) (Q:VK) (E:XK),Room k A->Env0 P w K mg base A outer s H->BindsTo s fd args (ps.zip us)->Vals vs us->sp vs H Q E->
  codeAny (model P w) A (.call (.ref f) args) (CR CX outer P w H s Q E) s
theorem FnOk.imp{P:Program}{w:World}{K:Frag}{mg:ő}{base:Heap}{CX:CXT}{k:Nat}{f:Addr}{fd:FuncData}{ps:Ŗ}{sp sp':Sp}(F:FnOk P w K mg base CX k f fd ps sp)
  (h:∀vs H Q E,sp' vs H Q E->sp vs H Q E):FnOk P w K mg base CX k f fd ps sp':=
 ⟨fun vs H Q E q=>F.len vs H Q E (h _ _ _ _ q),fun A outer s H args us vs Q E hr he hb hv hs=>F.run A outer s H args us vs Q E hr he hb hv<|h _ _ _ _ hs⟩
theorem Env0.make{P:Program}{w:World}{K:Frag}{mg:ő}{base:Heap}{A:Around}{outer:ş}{s:Shared}{H:Hp}(e:Env0 P w K mg base A outer s H)(C:Addr)(us:Ő)(kw:ŧ):
  Env0 P w K mg base (A.under<|.builtin "type.__call__" ⟨.ref C::us,kw⟩) outer s H:=⟨by first|exact e.frames|(simpa[Around.under,Code.envs,Code.isFrame,pushEnvs] using e.frames),e.mod,e.bs,e.bsz,e.funs,e.frf,e.hok,e.bare⟩
section
variable {X:Cx} {pins:SL} {L:St} {H:Hp} {s s':Shared}
theorem Inv.env0(I:Inv X pins L H s):Env0 X.prog X.w X.K X.mg X.base X.A X.stack s H:=
 ⟨I.ok.frames,I.ok.mod,I.bs,Tg I.ok.bsz I.sz,I.stack,I.stkFree,I.hok,I.bare⟩
theorem Inv.after{Q:VK}{u:Value}(I:Inv X pins L H s)(h:CE X.stack X.prog X.w H s Q u s'):EP X pins L Q u s':=by
 obtain⟨v,H',os,bare,un,hok,r,q⟩:=h;obtain⟨hh,g,d,t,os'⟩:=s';obtain rfl:os'=s.os:=os;exact⟨v,H',I.call (h':=hh) (g':=g) (d':=d) (t':=t) (ch:=[]) un hok bare (fun b z=>absurd z nofun),r,q⟩
end
def DN(sp:Sp)(dvs:Ř)(E:XK)(t:TA):TE:=fun L H Q=>t L H fun vs H1=>sp (vs++dvs) H1 Q E
def CY(C:Addr)(m:Str)(sp:Sp)(dvs:Ř)(E:XK)(ta:TE)(t:TA):TE:=fun L H Q=>ta L H fun x H1=>∃a dx fs,x=.ref a/\H1 a=some (.ins C dx fs)/\fs.lookup m=none/\
 t L H1 fun vs H2=>sp (x::(vs++dvs)) H2 Q E
def BE(C:Addr)(sp:Sp)(dvs:Ř)(E:XK)(t:TA):TE:=fun L H Q=>t L H fun vs H1=>∀x dx,H1 x=none->H1 dx=none->dx≠x->
 sp (.ref x::(vs++dvs)) (upd (upd H1 dx<|.own x) x<|.ins C dx []) (fun v H2=>v=.non/\Q (.ref x) H2) E
def Binds(K:Frag)(fd:FuncData)(ps:Ŗ)(ds:Ő):Prop:=
 ∀(s:Shared) (us:Ő),K.In s.heap->(us++ds).length=ps.length->BindsTo s fd ⟨us,[]⟩ (ps.zip<|us++ds)
def Binds.all{K:Frag}{fd:FuncData}{ps:Ŗ}(h:∀us:Ő,us.length=ps.length->bindArgs fd ⟨us,[]⟩=pure (ps.zip us)):Binds K fd ps []:=fun s us _ hl=>by
 rw[TM] at hl⊢;exact .of_eq (h us hl)
def mE(CX:CXT)(X:Cx)(E:XK):Prop:=∀(pins:SL) (L:St) (H:Hp) (s:Shared) (e:Value) (s':Shared),Inv X pins L H s->CX X.stack H s E e s'->X.xe e s'
section
variable {X:Cx} {CX:CXT} {k:Nat} {f C:Addr} {fd:FuncData} {ps:Ŗ} {sp:Sp} {dvs:Ř} {ds:Ő} {E:XK} {x m:Str} {p pos apos:Pos} {e o:Expr} {es:Ś} {ta:TE} {t:TA}
theorem B1{pins:SL}{L:St}{H:Hp}{s:Shared}{Q:VK}{us:Ő}{vs:Ř}(F:FnOk X.prog X.w X.K X.mg X.base CX k f fd ps sp)(hr:Room k X.A)(hb:Binds X.K fd ps ds)(hd:Vals dvs ds)(hx:mE CX X E)
  (I:Inv X pins L H s) (r:Vals vs us) (h:sp (vs++dvs) H Q E):wpAny (model X.prog X.w) X.A (call (.ref f) us) (EP X pins L Q) X.xe s:=by
 have r2:Vals (vs++dvs) (us++ds):=r.append hd;have hl:(us++ds).length=ps.length:=by rw[←r2.length];exact F.len _ _ _ _ h
 refine Vq (UL (F.run X.A X.stack s H ⟨us,[]⟩ (us++ds) (vs++dvs) Q E hr I.env0 (hb s us I.kIn hl) r2 h) fun r s' hq=>?_);cases r with
 |error e=>exact hx pins L H s e s' I hq
 |ok fl=>
  cases fl with
  |ret u=>exact I.after hq
  |next=>exact False.elim hq
  |brk=>exact False.elim hq
  |cont=>exact False.elim hq
theorem FH(F:FnOk X.prog X.w X.K X.mg X.base CX k f fd ps sp)(hr:Room k X.A)(hg:Gl X x)(hm:X.mg x=some (.ref f))(hk:keepIn X.K (.ref f)=true)(hb:Binds X.K fd ps ds)(hd:Vals dvs ds)(hx:mE CX X E)
  (ha:PA X (e::es) t) (hdb:(x==("__debug__":Str))=false:=by decide) (he:starEach (e::es) X.env=(false,eval e X.env)::starEach es X.env:=by rfl) (hpl:(backTo pos<|starEach es X.env).any (·.1)=false:=by rfl):
  PE X (.Call (.Name x p) (e::es) [] pos) (DN sp dvs E t):=by
 intro pins s L H Q I h;refine Uj (px I hg hm ?_ hdb);refine UW (h₀:=X.base) I.ok.mod.kin hk (thn (ha pos pins s L H _ I h) fun us s1 ⟨vs,H1,I1,r,q⟩=>⟨I1.kIn,?_⟩) he hpl;exact B1 F hr hb hd hx I1 r q
theorem FB(he:PE X o ta)(c:Cls X.K C)(hm:Meth X.K C m f)(F:FnOk X.prog X.w X.K X.mg X.base CX k f fd ps sp)(hr:Room k X.A)(hb:Binds X.K fd ps ds)(hd:Vals dvs ds)(hx:mE CX X E)(ha:PA X (e::es) t)
  (hst:starEach (e::es) X.env=(false,eval e X.env)::starEach es X.env:=by rfl) (hpl:(backTo pos<|starEach es X.env).any (·.1)=false:=by rfl)
  (ht:eval (.Call (.Attribute o m apos) (e::es) [] pos) X.env=(do
   let ov ←eval o X.env
   standAt apos.atName
   let (f,first) ←holding [ov] (getMethod ov m pl)
   callWith pos f first (backTo pos<|starEach (e::es) X.env) (backToKw pos<|keywordEach [] X.env)):=by rfl):
  PE X (.Call (.Attribute o m apos) (e::es) [] pos) (CY C m sp dvs E ta t):=by
 intro pins s L H Q I h;refine PySem.W.methodCall_KW (pl:=pl) (thn (he pins s L H _ I h) fun u s1 hm=>?_) ht;obtain⟨x,H1,I1,rx,a,dx,fs,ex,ea,l,q⟩:=hm;subst ex;obtain rfl:u=Value.ref a:=rx;refine Bd I1 ea c hm l ?_;refine UW (first:=[.ref a]) (h₀:=X.base) I.ok.mod.kin hm.kp (thn (ha pos pins s1 L H1 _ I1 q) fun us s2 ⟨vs,H2,I2,r,q2⟩=>⟨I2.kIn,?_⟩) hst hpl;exact B1 (us:=.ref a::us) (vs:=.ref a::vs) F hr hb hd hx I2 (.cons rfl r) q2
structure Mk (K:Frag) (C f:Addr):Prop where
 makes:PySem.W.makesIn K C=true
 init:findIn K (.ref C) "__init__"=some (some<|.ref f)
 fn:isFn K (.ref f)=true
 kp:keepIn K (.ref C)=true
theorem Py{pins:SL}{L:St}{H:Hp}{s:Shared}{Q:VK}{us:Ő}{vs:Ř}(M:Mk X.K C f)(F:FnOk X.prog X.w X.K X.mg X.base CX k f fd ps sp)(hr:Room (k+1) X.A)(hb:Binds X.K fd ps ds)(hd:Vals dvs ds)
  (hx:mE CX X E) (I:Inv X pins L H s) (r:Vals vs us)
  (h:∀x dx,H x=none->H dx=none->dx≠x->sp (.ref x::(vs++dvs)) (upd (upd H dx<|.own x) x<|.ins C dx []) (fun v H2=>v=.non/\Q (.ref x) H2) E):
  wpAny (model X.prog X.w) X.A (call (.ref C) us) (EP X pins L Q) X.xe s:=by
 have hq:=h (s.heap.objs.size+1) s.heap.objs.size (I.hok.fresh<|Nat.le_succ _) (I.hok.fresh<|SF _) (SY<|Va _);have I2:=Inv.made (C:=C) I;have r2:Vals (V.ref (s.heap.objs.size+1)::(vs++dvs)) (Value.ref (s.heap.objs.size+1)::(us++ds)):=.cons rfl (r.append hd);have hl:(Value.ref (s.heap.objs.size+1)::us++ds).length=ps.length:=by
  have e:=r2.length;rw[F.len _ _ _ _ hq] at e;exact e.symm
 refine Vq (RZ (f:=f) I.kIn M.makes M.init (beq_iff_eq.mp M.fn) (UL (F.run _ X.stack _ _ ⟨Value.ref (s.heap.objs.size+1)::us,[]⟩ (Value.ref (s.heap.objs.size+1)::(us++ds)) _ _ E (hr.make C us [])
  (I2.env0.make C us []) (hb _ (Value.ref (s.heap.objs.size+1)::us) I2.kIn hl) r2 hq) fun r s' hq'=>?_))
 cases r with
 |error e=>exact hx pins L _ _ e s' I2 hq'
 |ok fl=>
  cases fl with
  |ret u=>
   obtain⟨v,H',I3,rv,ev,q3⟩:=I2.after hq';subst ev;exact⟨rv,⟨V.ref (s.heap.objs.size+1),H',I3,rfl,q3⟩⟩
  |next=>exact False.elim hq'
  |brk=>exact False.elim hq'
  |cont=>exact False.elim hq'
theorem Nl(M:Mk X.K C f)(F:FnOk X.prog X.w X.K X.mg X.base CX k f fd ps sp)(hr:Room (k+1) X.A)(hg:Gl X x)(hm:X.mg x=some (.ref C))(hb:Binds X.K fd ps ds)(hd:Vals dvs ds)(hx:mE CX X E)
  (ha:PA X (e::es) t) (hdb:(x==("__debug__":Str))=false:=by decide) (he:starEach (e::es) X.env=(false,eval e X.env)::starEach es X.env:=by rfl) (hpl:(backTo pos<|starEach es X.env).any (·.1)=false:=by rfl):
  PE X (.Call (.Name x p) (e::es) [] pos) (BE C sp dvs E t):=by
 intro pins s L H Q I h;refine Uj (px I hg hm ?_ hdb);refine UW (h₀:=X.base) I.ok.mod.kin M.kp (thn (ha pos pins s L H _ I h) fun us s1 ⟨vs,H1,I1,r,q⟩=>⟨I1.kIn,?_⟩) he hpl;exact Py M F hr hb hd hx I1 r q
end
structure FnScope (N P:Ŗ) (sc:Scope):Prop where
 kind:sc.kind=.function
 co:sc.isCoroutine=false
 gen:sc.isGenerator=false
 nd:N.Nodup
 pre:N.take P.length=P
 par:∀x∈P,sc.names.lookup x=some .local\/sc.names.lookup x=some .cell
 nofree:∀y∈sc.names,y.2≠.free
theorem BG{kindOf:Str->Option NameKind}{x:Str}:∀{binds:ŧ} {m:ő},(∀v,(x,v)∉binds)->bindL kindOf binds m x=m x
 | [],_,_=>rfl
 |(n,v)::r,m,h=>by
  unfold bindL;rw[BG fun w hw=>h w (Tp _ hw)];split
  .have:x≠n:=by rintro rfl;exact h v Uy
   simp[this]
  .rfl
theorem Dk{kindOf:Str->Option NameKind}{x:Str}:∀{binds:ŧ} {m:ő},(∀v,(x,v)∉binds)->bindC kindOf binds m x=m x
 | [],_,_=>rfl
 |(n,v)::r,m,h=>by
  unfold bindC;rw[Dk fun w hw=>h w (Tp _ hw)];split
  .rfl
  .have:x≠n:=by rintro rfl;exact h v Uy
   simp[this]
theorem zp{kindOf:Str->Option NameKind}{x:Str}{v:Value}:∀{P:Ŗ} {vs:Ő} {i:Nat} {m:ő},P.Nodup->P[i]?=some x->vs[i]?=some v->kindOf x=some .local->
  bindL kindOf (P.zip vs) m x=some v
 | [],_,_,_,_,h,_,_=>by simp at h
 |_::_,[],_,_,_,_,h,_=>by simp at h
 |p::P,w::vs,0,m,nd,h1,h2,hk=>by
  simp at h1 h2;subst h1;subst h2;show bindL kindOf ((p,w)::P.zip vs) m p=_;unfold bindL;rw[BG fun v hv=>(Vf.mp nd).1 (UT hv).1,if_pos hk];simp
 |p::P,w::vs,i+1,m,nd,h1,h2,hk=>by
  show bindL kindOf ((p,w)::P.zip vs) m x=_;unfold bindL;exact zp (i:=i) (Vf.mp nd).2 (by simpa using h1) (by simpa using h2) hk
theorem BH{kindOf:Str->Option NameKind}{x:Str}{v:Value}:∀{P:Ŗ} {vs:Ő} {i:Nat} {m:ő},P.Nodup->P[i]?=some x->vs[i]?=some v->kindOf x≠some .local->
  bindC kindOf (P.zip vs) m x=some v
 | [],_,_,_,_,h,_,_=>by simp at h
 |_::_,[],_,_,_,_,h,_=>by simp at h
 |p::P,w::vs,0,m,nd,h1,h2,hk=>by
  simp at h1 h2;subst h1;subst h2;show bindC kindOf ((p,w)::P.zip vs) m p=_;unfold bindC;rw[Dk fun v hv=>(Vf.mp nd).1 (UT hv).1,if_neg hk];simp
 |p::P,w::vs,i+1,m,nd,h1,h2,hk=>by
  show bindC kindOf ((p,w)::P.zip vs) m x=_;unfold bindC;exact BH (i:=i) (Vf.mp nd).2 (by simpa using h1) (by simpa using h2) hk
def lH(N:Ŗ)(vs:Ř):St:=vs.map some++List.replicate (N.length - vs.length) none
def gk(CX:CXT)(P:Program)(w:World)(K:Frag)(mg:ő)(base:Heap)(N:Ŗ)(qual:Str)(scope:Scope)(f:Addr)(cd:Value)(A:Around)(outer:ş)(s:Shared)(H:Hp)(E:XK):Cx where
 prog:=P
 w:=w
 K:=K
 mg:=mg
 base:=base
 A:=A.deeper (envOfC qual scope s.heap.objs.size f cd)
 N:=N
 Z1:=s
 ZZ:=H
 env:=envOfC qual scope s.heap.objs.size f cd
 outer:=outer
 stack:=envOfC qual scope s.heap.objs.size f cd::outer
 ex:=[]
 calm:=true
 fn:=fun _=>true
 pn:=[]
 xe:=fun e s'=>wpAny (model P w) (A.deeper<|envOfC qual scope s.heap.objs.size f cd) (leaving (envOfC qual scope s.heap.objs.size f cd) e) (fun _ s''=>CX outer H s E e s'') (fun e' s''=>CX outer H s E e' s'') s'
def Ee{sc:Scope}{n:Nat}{x:Str}(h:sc.names.lookup x=some .cell):∃c,(cellsFrom n sc.names []).lookup x=some c:=by
 have q:=UZ sc.names n [] (.inl h);exact TC.mp q
theorem Eu{CX:CXT}{P:Program}{w:World}{K:Frag}{mg:ő}{base:Heap}{N ps:Ŗ}{qual:Str}{scope:Scope}{f:Addr}{cd:Value}{A:Around}{outer:ş}{s s1:Shared}{H:Hp}{E:XK}{us:Ő}{vs:Ř}
  (S:FnScope N ps scope) (hd:A.handled=none) (e0:Env0 P w K mg base A outer s H) (hl:vs.length=ps.length) (r:Vals vs us)
  (x:InCallC s s.heap.objs.size (bindL (envOfC qual scope s.heap.objs.size f cd).kindOf (ps.zip us) fun _=>none) (cellsFrom (s.heap.objs.size+1) scope.names []) (bindC (envOfC qual scope s.heap.objs.size f cd).kindOf (ps.zip us) fun _=>none) s1):
  Inv (gk CX P w K mg base N qual scope f cd A outer s H E) [] (lH N vs) H s1:=by
 have hpl:ps.length<=N.length:=by have:=congrArg List.length S.pre;rw[UM] at this;omega
 obtain⟨h1,tk,rfl,hk⟩:=x.done;have noA:∀b:Addr,b∉(gk CX P w K mg base N qual scope f cd A outer s H E).ex:=fun b z=>absurd (show b∈([]:ś) from z) nofun;refine⟨⟨e0.mod,S.kind,rfl,rfl,SF _,fun y z c h1 h2=>?_,fun y hy=>?_,fun y c _ h=>?_,fun _=>hd,Around.frames_deeper e0.frames,.inr ⟨rfl,rfl⟩,fun b z=>absurd z (noA b),e0.bs,e0.bsz,fun b _ _=>noA b,fun b z=>absurd z (noA b),e0.funs,e0.frf⟩,
  rfl,e0.bare,Un.kept hk,⟨_,x.toInCall.ns,fun i y v h1 h2 h3=>?_⟩,fun y c h=>⟨_,x.cell y c h⟩,e0.hok.fresh (SF _),fun y c h=>?_,fun p hp=>absurd (show p∈([]:SL) from hp) nofun,e0.hok.kept hk,?_⟩
 .exact name_of_addr x.apart (Tn h1) (Tn h2)
 .have hy:scope.names.lookup y=some .cell\/scope.names.lookup y=some .free:=hy;rcases hy with hy|hy
  .exact Ee hy
  .exact absurd rfl (S.nofree _<|Tn hy)
 .exact Vk (x.above y c<|Tn h)
 .have hi:i<vs.length:=by
   unfold lH at h2;by_cases hi:i<vs.length
   .exact hi
   .rw[Th (by simpa using hi)] at h2;rw[List.getElem?_replicate] at h2;split at h2<;>cases h2
  have ha:vs[i]?=some v:=by
   unfold lH at h2;rw[S1 (by simpa using hi),S6] at h2;cases e:vs[i]? with
   |none=>rw[e] at h2;cases h2
   |some a=>rw[e] at h2;cases h2;rfl
  obtain⟨u,hu,rv⟩:=r.get ha;have hp:ps[i]?=some y:=by
   rw[←S.pre,List.getElem?_take_of_lt ⋯];exact h1
  have ndP:ps.Nodup:=by rw[←S.pre];exact S.nd.sublist (List.take_sublist _ _)
  refine⟨u,rv,?_⟩;rcases S.par y (UH hp) with k|k
  .exact .inl ⟨k,zp ndP hp hu k⟩
  .obtain⟨c,e⟩:=Ee (n:=s.heap.objs.size+1) k;refine .inr ⟨.inl k,c,e,?_⟩;have q:=x.cell y c e;rw[BH ndP hp hu (by show scope.names.lookup y≠_;rw[k];decide)] at q;exact q
 .exact e0.hok.fresh (Vk<|x.above y c<|Tn h)
 .unfold lH;show _=N.length;rw[Tx,SW,List.length_replicate];omega
theorem zR{CX:CXT}{P:Program}{w:World}{K:Frag}{mg:ő}{base:Heap}{k:Nat}{f:Addr}{name qual:Str}{params:Arguments}{body:Ũ}{scope:Scope}{dV kV doc pm cdv ct oc:Value}{an od:Ŧ}
  {osl:Array Š} {N ps:Ŗ} {sp:Sp} (lk:K.lookup f=some ⟨oc,od,.func (fnOf name qual params body scope dV kV doc pm an cdv ct),osl⟩) (hcd:codeIn K cdv qual=true) (S:FnScope N ps scope)
  (len:∀vs H Q E,sp vs H Q E->vs.length=ps.length)
  (hbody:∀(A:Around) (outer:ş) (s:Shared) (H:Hp) (vs:Ř) (Q:VK) (E:XK),Room k (A.deeper<|envOfC qual scope s.heap.objs.size f cdv)->sp vs H Q E->
   ∃t,PSs (gk CX P w K mg base N qual scope f cdv A outer s H E) body t/\t {nx:=fun _ H'=>Q .non H',rt:=Q} (lH N vs) H):
  FnOk P w K mg base CX (k+1) f (fnOf name qual params body scope dV kV doc pm an cdv ct) ps sp:=by
 refine⟨len,fun A outer s H args us vs Q E hr e0 hb r hsp=>?_⟩;have hl:=len _ _ _ _ hsp;have KX:K.In s.heap:=e0.mod.kin.keeps fun b o e=>(e0.bs b o e).1;have lim:s.heap.NoLimit:=e0.mod.nolimit.keeps fun b o e=>(e0.bs b o e).1;have hkind:∀y∈ps.zip us,scope.names.lookup y.1=some .local\/(scope.names.lookup y.1=some .cell/\((cellsFrom (s.heap.objs.size+1) scope.names []).lookup y.1).isSome=true):=fun⟨n,v⟩ hy=>by
  rcases S.par n (UT hy).1 with q|q
  .exact .inl q
  .exact .inr ⟨q,UZ _ _ _<|.inl q⟩
 refine codeAny_call_function hr.depth (KX _ _ lk) rfl S.co S.gen rfl (PySem.W.codeRec_of KX hcd) (hb _ _ _ _ ?_);refine wpAny_newFunctionEnv_cells S.kind hkind fun env he s1 x=>?_;subst he;refine⟨lim.keeps x.toInCall.keep,codeAny_func ?_⟩;obtain⟨t,ht,hq⟩:=hbody A outer s H vs Q E (hr.deeper _) hsp;have I:Inv (gk CX P w K mg base N qual scope f cdv A outer s H E) [] (lH N vs) H s1:=Eu S hr.hd e0 hl r x;refine(SH (ht [] s1 (lH N vs) H _ I hq) (fun fl s' hs=>?_) fun e s' hs=>hs);have fin:∀{Z0:St} {H':Hp} {v:V} {u:Value},Inv (gk CX P w K mg base N qual scope f cdv A outer s H E) [] Z0 H' s'->RelV v u->Q v H'->CE outer P w H s Q u s':=
  fun{Z0 H' v u} Z6 rv q=>⟨v,H',Z6.os,Z6.bare,Z6.base,Z6.hok,rv,q⟩
 cases fl with
 |ret u=>
  obtain⟨v,Z0,H',Z6,rv,q⟩:=hs;exact fin Z6 rv q
 |next=>
  obtain⟨Z0,H',Z6,q⟩:=hs;exact fin (v:=V.non) (u:=Value.none) Z6 rfl q
 |brk=>
  obtain⟨_,_,_,q⟩:=hs;exact False.elim q
 |cont=>
  obtain⟨_,_,_,q⟩:=hs;exact(False.elim q)
section
variable {X:Cx} {x:Str} {p pos:Pos} {e:Expr} {es:Ś} {t:TA} {id T:String} {r:Ř->Hp->VK->Prop}
def tCB(r:Ř->Hp->VK->Prop)(t:TA):TE:=fun L H Q=>t L H fun vs H1=>r vs H1 Q
theorem mI(hc:jt X (.builtin id) r)(hg:Gl X x)(hm:X.mg x=none)(hv:bootBuiltins x=some (.builtin id))(ha:PA X (e::es) t)(hn:x≠"__name__":=by decide) (hdb:(x==("__debug__":Str))=false:=by decide)
  (he:starEach (e::es) X.env=(false,eval e X.env)::starEach es X.env:=by rfl) (hpl:(backTo pos<|starEach es X.env).any (·.1)=false:=by rfl):PE X (.Call (.Name x p) (e::es) [] pos) (tCB r t):=by
 intro pins s L H Q I h;refine Uj (kt I hg hm hv ?_ hn hdb);exact PyProof.Rows.callWith_builtin1 (thn (ha pos pins s L H _ I h) fun us s1 ⟨vs,H1,I1,r1,q1⟩=>hc pins s1 L H1 vs us Q I1 r1 q1) he hpl
theorem sO(hc:jt X (.type T) r)(hg:Gl X x)(hm:X.mg x=none)(hv:bootBuiltins x=some (.type T))(ha:PA X (e::es) t)(hn:x≠"__name__":=by decide) (hdb:(x==("__debug__":Str))=false:=by decide)
  (he:starEach (e::es) X.env=(false,eval e X.env)::starEach es X.env:=by rfl) (hpl:(backTo pos<|starEach es X.env).any (·.1)=false:=by rfl):PE X (.Call (.Name x p) (e::es) [] pos) (tCB r t):=by
 intro pins s L H Q I h;refine Uj (kt I hg hm hv ?_ hn hdb);exact Tv (thn (ha pos pins s L H _ I h) fun us s1 ⟨vs,H1,I1,r1,q1⟩=>hc pins s1 L H1 vs us Q I1 r1 q1) he hpl
end
end L2
namespace HT
open PySem PyProof.Rows
section
open PySem.SeqAt
open PySem.AutoSeq1 (wpAny_loadPart')
open PySem.MeetsSeq PySem.MeetsSeq2 PySem.MeetsSeq3
end
section
variable {prog:Program} {w:World} {A:Around} {E:SC} {s:Shared}
theorem cat_tup{t b:Addr}{vs ws:Ő}{Q:SC}(ht:IsTup s.heap t vs.toArray)(hb:IsTup s.heap b ws.toArray)(hv:vs≠[])
  (h1:ws=[]->Q (.ref t) s) (h2:ws≠[]->Q (.ref s.heap.objs.size) {s with heap:=s.heap.push {cls:=.type "tuple",data:=.seq (vs++ws).toArray}})
  (hsz:vs.length+ws.length<=sizeLine):wpAny (model prog w) A (binaryOp .Add (.ref t)<|.ref b) Q E s:=by
 obtain⟨⟨cls,dd,data,sl⟩,ho,hc,n,hd⟩:=id ht;obtain⟨⟨cls2,dd2,data2,sl2⟩,ho2,hc2,n2,hd2⟩:=id hb;simp only at hc hd hc2 hd2;subst hc hd hc2 hd2;have e:vs.toArray++ws.toArray=(vs++ws).toArray:=by simp
 by_cases hw:ws=[]
 .exact concat_meets ⟨_,ho,rfl⟩ ⟨_,ho2,rfl⟩ noFill_tuple_add seq_tuple_add PySem.F.slot_tuple_add PySem.F.entry_tuple_add (PySem.F.args_tuple_add_2 _ _)
   (tuple_addW1 t b vs.toArray ws.toArray n n2 dd dd2 sl sl2 (by simpa using hv)<|by simp[hw]) ⟨ho,ho2,h1 hw⟩
 .refine concat_meets ⟨_,ho,rfl⟩ ⟨_,ho2,rfl⟩ noFill_tuple_add seq_tuple_add PySem.F.slot_tuple_add PySem.F.entry_tuple_add (PySem.F.args_tuple_add_2 _ _)
   (tuple_addW2 t b vs.toArray ws.toArray n n2 dd dd2 sl sl2 (by simpa using hv) (by simpa using hw) (by rw[SS,SS];exact hsz)) ⟨ho,ho2,?_⟩
  rw[e];exact h2 hw
def sIx(n d:Nat):Œ->Nat
 |none=>d
 |some v=>if v<0 then(v+(n:Int)).toNat else min v.toNat n
theorem sIx_none(n d:Nat):sIx n d none=d:=rfl
theorem sIx_nat(n d k:Nat):sIx n d (some (k:Int))=min k n:=by
 show(if(k:Int)<0 then((k:Int)+(n:Int)).toNat else min (k:Int).toNat n)=min k n;rw[if_neg ⋯,Int.toNat_natCast]
theorem Er(n d:Nat)(hd:d<=n)(o:Œ):sIx n d o<=n:=by
 cases o with
 |none=>exact hd
 |some v=>
  show(if v<0 then(v+(n:Int)).toNat else min v.toNat n)<=n;by_cases hv:v<0
  .rw[if_pos hv];omega
  .rw[if_neg hv];exact Nat.min_le_right _ _
theorem De(v:Int)(n d:Nat):(if v<0 then max (v+(n:Int)) 0 else min v (n:Int))=((sIx n d (some v):Nat):Int):=by
 show(if v<0 then max (v+(n:Int)) 0 else min v (n:Int))=(((if v<0 then(v+(n:Int)).toNat else min v.toNat n):Nat):Int)
 by_cases hv:v<0
 .simp only[if_pos hv];omega
 .simp only[if_neg hv];omega
theorem FS(lo hi:Œ)(n:Nat):Builtin.Slice.sliceAdjust lo hi 1 (n:Int)=(((sIx n 0 lo:Nat):Int),((sIx n n hi:Nat):Int)):=by
 have h1:¬((1:Int)<0):=by omega
 unfold Builtin.Slice.sliceAdjust;simp only[h1,if_false];refine Prod.ext ?_ ?_
 .cases lo with
  |none=>rfl
  |some v=>exact De v n 0
 .cases hi with
  |none=>rfl
  |some v=>exact De v n n
theorem OG(i j:Nat):Builtin.Slice.slicePlaces (i:Int) (j:Int) 1=j - i:=by
 unfold Builtin.Slice.slicePlaces;have h1:(1:Int)>0:=by omega
 simp only[h1,if_true,Int.ediv_one];split<;>omega
theorem B5{v:Value}{o:Œ}{Q:Œ->Shared->Prop}(p:IsPart v o)(h:Q o s):wpAny (model prog w) A (Builtin.Slice.slicePartIndex v) Q E s:=by
 cases p with
 |none=>exact slicePart_none h
 |int i t=>exact slicePart_int h
theorem Gi{sl:Addr}{vl vu:Value}{lo hi:Œ}{n:Nat}{Q:Int×Int×Nat->Shared->Prop}(hs:s.heap.IsSliceOf sl vl vu .none)(pl:IsPart vl lo)(pu:IsPart vu hi)
  (h:Q (((sIx n 0 lo:Nat):Int),1,sIx n n hi - sIx n 0 lo) s):wpAny (model prog w) A (Builtin.Slice.sliceApplied (.ref sl)<|pure (n:Int)) Q E s:=by
 obtain⟨os,hos,hcs,hds⟩:=id hs;unfold Builtin.Slice.sliceApplied Builtin.Slice.sliceFields;refine SA (SA<|Vc hos hds (x:=vl) rfl (SA<|Vc hos hds (x:=vu) rfl (SA<|Vc hos hds (x:=.none) rfl (SE ?_))));refine SA (slicePart_none ?_);show wpAny _ _ (if((1:Int)==0)=true then _ else _) _ _ s;rw[if_neg (by decide)];refine SA (B5 pl<|SA<|B5 pu<|SA<|SE ?_);show wpAny _ _ (match Builtin.Slice.sliceAdjust lo hi 1 (n:Int) with|(lo,hi)=>pure (lo,(1:Int),Builtin.Slice.slicePlaces lo hi 1)) _ _ s;rw[FS lo hi n];show wpAny _ _ (pure (((sIx n 0 lo:Nat):Int),(1:Int),Builtin.Slice.slicePlaces ((sIx n 0 lo:Nat):Int) ((sIx n n hi:Nat):Int) 1)) _ _ s;rw[OG];exact SE h
theorem N2(xs:Array Value)(i k:Nat):((List.range k).filterMap fun(m:Nat)=>xs[((i:Int)+(m:Int)*1).toNat]?).toArray=((xs.toList.drop i).take k).toArray:=by
 have e:(fun(m:Nat)=>xs[((i:Int)+(m:Int)*1).toNat]?)=fun m=>xs[i+m]?:=by
  funext m;have:((i:Int)+(m:Int)*1).toNat=i+m:=by omega
  rw[this]
 rw[e];have:=pick_run xs i k;rw[List.filterMap_map] at this;have e2:((fun x=>xs[x]?)∘fun x=>i+x)=fun m=>xs[i+m]?:=rfl;rw[e2] at this;rw[this]
theorem getItem_tuple_cut{t sl:Addr}{items:Array Value}{vl vu:Value}{lo hi:Œ}{Q:SC}(ht:IsTup s.heap t items)(hs:s.heap.IsSliceOf sl vl vu .none)(pl:IsPart vl lo)(pu:IsPart vu hi)
  (hw:¬(sIx items.size 0 lo=0/\sIx items.size items.size hi=items.size))
  (h:Q (.ref s.heap.objs.size) {s with heap:=s.heap.push {cls:=.type "tuple",data:=.seq ((items.toList.drop<|sIx items.size 0 lo).take (sIx items.size items.size hi - sIx items.size 0 lo)).toArray}})
  (hsz:items.size<=sizeLine):wpAny (model prog w) A (getItem (.ref t)<|.ref sl) Q E s:=by
 have htake:sizeOk (.seq ((items.toList.drop<|sIx items.size 0 lo).take (sIx items.size items.size hi - sIx items.size 0 lo)).toArray):=by
  show((items.toList.drop<|sIx items.size 0 lo).take (sIx items.size items.size hi - sIx items.size 0 lo)).toArray.size<=sizeLine;rw[SS,UM,List.length_drop,Ub];omega
 have hj:sIx items.size items.size hi<=items.size:=Er _ _ (SF _) hi;obtain⟨os,hos,hcs,hds⟩:=id hs;have hTs:s.TypeIs (.ref sl) "slice":=⟨os,hos,hcs⟩
 unfold getItem;try with_reducible refine TL ?_
 first|refine SA (SE ?_)|skip
 refine SA (wpAny_sequenceKey ht.typeIs (by decide) ?_);refine SA (wpAny_callSpecial?_slot (name:=Str.ofString "__getitem__") ht.typeIs PyProof.Rows.slot_tuple_getitem
  (UJ PyProof.Rows.slot_tuple_getitem ht.typeIs entry_tuple_getitem ?_<|args_tuple_getitem _ _))
 show wpAny _ _ (Builtin.Tuple.tupleItemsOf (.ref t) >>= _) _ _ s;refine SA (tupleItemsOf_ ht ?_);refine SA (wpAny_typeOf hTs ?_);rw[if_pos (by decide)];refine SA (Gi hs pl pu ?_);have hno:¬((((sIx items.size 0 lo:Nat):Int)==0&&(1:Int)==1&&(sIx items.size items.size hi - sIx items.size 0 lo)==items.size)=true):=by
  intro q;rw[Tq,Tq] at q;have q1:((sIx items.size 0 lo:Nat):Int)=0:=eq_of_beq q.1.1;have q2:sIx items.size items.size hi - sIx items.size 0 lo=items.size:=eq_of_beq q.2;exact hw ⟨by omega,by omega⟩
 show wpAny _ _ (if(((sIx items.size 0 lo:Nat):Int)==0&&(1:Int)==1&&(sIx items.size items.size hi - sIx items.size 0 lo)==items.size)=true then _ else _) _ _ s;rw[if_neg hno,N2];first
  |exact SA (m:=Builtin.Tuple.tupleExact _) (TF (SE ⟨_,rfl,SE h⟩) htake)
  |exact SA (m:=Builtin.Tuple.tupleExact _) (TF (SA<|SE<|SE ⟨_,rfl,SE h⟩) htake)
  |exact SA (SA (m:=Builtin.Tuple.tupleExact _)<|TF (SE<|SE ⟨_,rfl,SE h⟩) htake)
  |exact SA (SA (m:=Builtin.Tuple.tupleExact _)<|TF (SE ⟨_,rfl,SE h⟩) htake)
end
end HT
namespace L2
open PySem PySem.Spec PyProof.Rows
abbrev TO:=St->Hp->(Œ->Hp->Prop)->Prop
def PO(X:Cx)(e:Option Expr)(t:TO):Prop:=
 ∀(pins:SL) (s:Shared) (L:St) (H:Hp) (Q:Œ->Hp->Prop),Inv X pins L H s->t L H Q->
  wpAny (model X.prog X.w) X.A (evalPart e X.env) (fun u s'=>∃o H',Inv X pins L H' s'/\IsPart u o/\Q o H') X.xe s
def JI:TO:=fun _ H Q=>Q none H
def J9(t:TE):TO:=fun L H Q=>t L H fun x H1=>∃i,x=.int i/\Q (some i) H1
def IU:∀{us:Ő},Vals (ns.map V.int) us->IntsAre us ns:=by
 induction ns with
 |nil=>intro us r;rw[U0] at r;cases r;exact .nil
 |cons n ns ih=>
  intro us r;rw[SN] at r;cases r with
  |cons r1 r2=>
   obtain⟨t,e⟩:=r1;subst e;exact(.cons n t<|ih r2)
section
variable {X:Cx} {e:Expr} {te:TE} {lo hi:Option Expr} {tl th:TO} {pos p2:Pos}
theorem Og:PO X none JI:=by
 intro pins s L H Q I h;rw[evalPart_none];exact SE ⟨none,H,I,.none,h⟩
theorem Gq(h:PE X e te):PO X (some e) (J9 te):=by
 intro pins s L H Q I hw;rw[evalPart_some];refine thn (h pins s L H _ I hw) fun u s1 hm=>?_;obtain⟨x,H1,I1,r1,q1⟩:=hm;obtain⟨i,rfl,q⟩:=q1;obtain⟨t,rfl⟩:=r1;exact(⟨some i,H1,I1,.int i t,q⟩)
def SlR(X:Cx)(r:V->Œ->Œ->Hp->VK->Prop):Prop:=
 ∀(pins:SL) (s:Shared) (L:St) (H:Hp) (x:V) (v vl vu:Value) (lo hi:Œ) (sl:Addr) (Q:VK),Inv X pins L H s->RelV x v->s.heap.IsSliceOf sl vl vu .none->IsPart vl lo->IsPart vu hi->r x lo hi H Q->
  ∃T id,typeLookup (.type T) "__getitem__"=pure (some<|.builtin id)/\s.TypeIs v T/\wpAny (model X.prog X.w) X.A (getItem v<|.ref sl) (EP X pins L Q) X.xe s
theorem SlR.or{r r':V->Œ->Œ->Hp->VK->Prop}(h:SlR X r)(h':SlR X r'):SlR X (fun x lo hi H Q=>r x lo hi H Q\/r' x lo hi H Q):=by
 intro pins s L H x v vl vu lo hi sl Q I rx hs pl pu q;rcases q with q|q
 .exact h pins s L H x v vl vu lo hi sl Q I rx hs pl pu q
 .exact h' pins s L H x v vl vu lo hi sl Q I rx hs pl pu q
def tSl(r:V->Œ->Œ->Hp->VK->Prop)(te:TE)(tl th:TO):TE:=fun L H Q=>te L H fun x H1=>tl L H1 fun l H2=>th L H2 fun u H3=>r x l u H3 Q
theorem Le{r:V->Œ->Œ->Hp->VK->Prop}(hr:SlR X r)(he:PE X e te)(hl:PO X lo tl)(hu:PO X hi th):PE X (.Subscript e (.Slice lo hi none p2) pos) (tSl r te tl th):=by
 intro pins s L H Q I h;refine Subscript_ (thn (he pins s L H _ I h) fun v s1 hm=>?_);obtain⟨x,H1,I1,r1,q1⟩:=hm;refine(wpAny_Slice<|thn (hl pins s1 L H1 _ I1 q1) fun vl s2 ⟨l,H2,I2,pl,q2⟩=>thn (hu pins s2 L H2 _ I2 q2) fun vu s3 hm=>?_);obtain⟨u,H3,I3,pu,q3⟩:=hm;rw[evalPart_none];refine SE ?_;have I4:Inv X pins L H3 {s3 with heap:=s3.heap.push {cls:=.type "slice",data:=.fields #[vl,vu,.none]}}:=I3.kept (t':=s3.toks) fun b ob q=>SD _ q;obtain⟨T,id,hT,ht,hg⟩:=hr pins {s3 with heap:=s3.heap.push {cls:=.type "slice",data:=.fields #[vl,vu,.none]}} L H3 x v vl vu l u s3.heap.objs.size Q I4 r1 (Heap.IsSliceOf.new ..) pl pu q3;show wpAny (model X.prog X.w) X.A (subscriptTail e (.Slice lo hi none p2) v<|.ref s3.heap.objs.size) (EP X pins L Q) X.xe {s3 with heap:=s3.heap.push {cls:=.type "slice",data:=.fields #[vl,vu,.none]}};exact tail_any (ops:=[.ref s3.heap.objs.size,v]) ht hT hg (by with_unfolding_all rfl)
def kO(xs:Ř)(lo hi:Œ):Ř:=(xs.drop<|HT.sIx xs.length 0 lo).take (HT.sIx xs.length xs.length hi - HT.sIx xs.length 0 lo)
theorem zJ(xs:Ř)(lo hi:Œ):(kO xs lo hi).length<=xs.length:=by
 unfold kO;rw[UM,List.length_drop];omega
def Jn(K:Frag):V->Œ->Œ->Hp->VK->Prop:=fun x lo hi H Q=>∃a xs,x=.ref a/\SqT K H a xs/\
 ¬(HT.sIx xs.length 0 lo=0/\HT.sIx xs.length xs.length hi=xs.length)/\∀p,H p=none->Q (.ref p) (upd H p<|.tup<|kO xs lo hi)
theorem sl_tup:SlR X (Jn X.K):=by
 intro pins s L H x v vl vu lo hi sl Q I rx hs pl pu h;obtain⟨a,xs,rfl,hx,hw,q⟩:=h;cases rx;obtain⟨its,r,ht,hz⟩:=I.tuple hx;have hlen:its.toArray.size=xs.length:=by rw[SS];exact r.length.symm
 refine(⟨"tuple",_,PyProof.Rows.slot_tuple_getitem.lookup,ht.typeIs,?_⟩);refine HT.getItem_tuple_cut ht hs pl pu (by rw[hlen];exact hw) ?_ (by rw[hlen];exact hz);rw[hlen];refine⟨.ref s.heap.objs.size,_,I.laid (t':=s.toks) (o:=.tup (kO xs lo hi)) (fun b ob q=>SD _ q) (SF _) ?_,rfl,q _<|I.hok.fresh<|SF _⟩;exact⟨Tg (zJ xs lo hi) hz,_,(r.drop<|HT.sIx xs.length 0 lo).take (HT.sIx xs.length xs.length hi - HT.sIx xs.length 0 lo),IsTup.new _ _⟩
def z4(K:Frag):R2:=fun x y H Q=>∃a b xs ys,x=.ref a/\y=.ref b/\SqT K H a xs/\SqT K H b ys/\xs≠[]/\xs.length+ys.length<=sizeLine/\
 (ys=[]->Q (.ref a) H)/\(ys≠[]->∀p,H p=none->Q (.ref p) (upd H p<|.tup<|xs++ys))
theorem Vals.nil_iff{xs:Ř}{us:Ő}(r:Vals xs us):us=[]↔xs=[]:=by
 cases r with
 |nil=>simp
 |cons _ _=>simp
theorem Sk:OpR X (binaryOp .Add) (z4 X.K):=by
 intro pins s L H x y v u Q I rx ry h;obtain⟨a,b,xs,ys,rfl,rfl,ha,hb,hx,hz,q1,q2⟩:=h;cases rx;cases ry;obtain⟨its,r1,p1,_⟩:=I.tuple ha;obtain⟨its2,r2,p2,_⟩:=I.tuple hb;refine HT.cat_tup p1 p2 (fun z=>hx<|r1.nil_iff.mp z) (fun z=>⟨.ref a,H,I,rfl,q1<|r2.nil_iff.mp z⟩) (fun z=>?_) (by rw[←r1.length,←r2.length];exact hz);refine⟨.ref s.heap.objs.size,_,I.laid (t':=s.toks) (o:=.tup (xs++ys)) (fun b ob q=>SD _ q) (SF _) ?_,rfl,q2 (fun w=>z<|r2.nil_iff.mpr w) _<|I.hok.fresh<|SF _⟩;exact⟨by rw[Tx];exact hz,_,r1.append r2,IsTup.new _ _⟩
end
def ixN(n:Nat)(i:Int):Ū:=if 0<=i then(if i<n then some i.toNat else none) else if -(n:Int)<=i then some (i+n).toNat else none
def atI{J:Type}(xs:List J)(i:Int):Option J:=(ixN xs.length i).bind fun j=>xs[j]?
def zl{n:Nat}{i:Int}{j:Nat}(h:ixN n i=some j):seqIndex? i n=some j/\j<n/\-(n:Int)<=i/\i<n:=by
 unfold ixN at h;by_cases h0:0<=i
 .rw[if_pos h0] at h;by_cases h1:i<n
  .rw[if_pos h1] at h;have e:i.toNat=j:=S5 h;exact⟨by rw[seqIndex_of h0 h1,e],by omega,by omega,h1⟩
  .rw[if_neg h1] at h;cases h
 .rw[if_neg h0] at h;by_cases h1:-(n:Int)<=i
  .rw[if_pos h1] at h;have e:(i+n).toNat=j:=S5 h;exact⟨by rw[seqIndex_neg ⋯ h1,e],by omega,h1,by omega⟩
  .rw[if_neg h1] at h;cases h
def yA{J:Type}{xs:List J}{i:Int}{v:J}(h:atI xs i=some v):∃j,seqIndex? i xs.length=some j/\xs[j]?=some v/\j<xs.length/\-(xs.length:Int)<=i/\i<xs.length:=by
 unfold atI at h;cases e:ixN xs.length i with
 |none=>rw[e] at h;cases h
 |some j=>
  rw[e] at h;obtain⟨h1,h2,h3,h4⟩:=zl e;exact(⟨j,h1,h,h2,h3,h4⟩)
def NJ{J:Type}{xs:List J}{j:Nat}{v:J}(h:xs[j]?=some v):atI xs (j:Int)=some v:=by
 have hj:j<xs.length:=(SG.mp h).1;have e:ixN xs.length (j:Int)=some j:=by
  unfold ixN;rw[if_pos ⋯,if_pos ⋯];simp
 unfold atI;rw[e];exact h
def Bu(b:Expr):Prop:=∀o i,subscripted b false o i=operate [o,i] (getItem o i)
def IxR(X:Cx)(r:R2):Prop:=
 ∀(value slice:Expr) (pins:SL) (s:Shared) (L:St) (H:Hp) (x y:V) (v u:Value) (Q:VK),Inv X pins L H s->RelV x v->RelV y u->r x y H Q->
  subscripted slice false v u=operate [v,u] (getItem v u)->wpAny (model X.prog X.w) X.A (subscriptTail value slice v u) (EP X pins L Q) X.xe s
def MtR(X:Cx)(id:String)(r:V->Ř->Hp->VK->Prop):Prop:=
 ∀(pins:SL) (s:Shared) (L:St) (H:Hp) (x:V) (xs:Ř) (v:Value) (us:Ő) (Q:VK),Inv X pins L H s->RelV x v->Vals xs us->r x xs H Q->
  wpAny (model X.prog X.w) X.A (call (.builtin id)<|v::us) (EP X pins L Q) X.xe s
section
variable {X:Cx} {a b:Expr} {ta tb:TE} {pos:Pos}
theorem IxR.or{r r':R2}(h:IxR X r)(h':IxR X r'):IxR X (fun x y H Q=>r x y H Q\/r' x y H Q):=by
 intro value slice pins s L H x y v u Q I rx ry q hs;rcases q with q|q
 .exact h value slice pins s L H x y v u Q I rx ry q hs
 .exact h' value slice pins s L H x y v u Q I rx ry q hs
theorem Ek{r:R2}(hr:IxR X r)(ha:PE X a ta)(hb:PE X b tb)(hs:Bu b):PE X (.Subscript a b pos) (tOp r ta tb):=by
 intro pins s L H Q I h;exact Subscript_ (u9 ha hb I h fun v u s2 x y H2 I2 rx ry q=>hr a b pins s2 L H2 x y v u Q I2 rx ry q<|hs _ _)
def Cr(K:Frag):R2:=fun x y H Q=>∃p xs i v,x=.ref p/\y=.int i/\SqL K H p xs/\atI xs i=some v/\Q v H
def zP(K:Frag):R2:=fun x y H Q=>∃p xs i v,x=.ref p/\y=.int i/\SqT K H p xs/\atI xs i=some v/\Q v H
def C7:R2:=fun x y H Q=>∃z i c,x=.str z/\y=.int i/\z.length<=sizeLine/\atI z.cps.toList i=some c/\Q (.str ⟨#[c]⟩) H
theorem ix_list:IxR X (Cr X.K):=by
 intro value slice pins s L H x y v u Q I rx ry h hs;obtain⟨p,xs,i,z,rfl,rfl,hq,he,q⟩:=h;cases rx;obtain⟨t,rfl⟩:=ry;obtain⟨its,r,pl,hz⟩:=I.list hq;obtain⟨j,h1,h2,h3,h4,h5⟩:=yA he;obtain⟨w,ew,rw'⟩:=r.get h2;have hl:=r.length;have hn:=nX;have fin:EP X pins L Q w s:=⟨z,H,I,rw',q⟩
 by_cases h0:0<=i
 .have hj:i.toNat=j:=by
   rw[seqIndex_of h0 h5] at h1;exact S5 h1
  exact item_listR pl.isList h0 ⋯ (by rw[hj];simpa using ew) fin hs
 .have hj:(i+(its.toArray.size:Int)).toNat=j:=by
   rw[seqIndex_neg ⋯ h4] at h1;rw[SS,←hl];exact S5 h1
  exact subscriptTail_builtinR (x:=w) pl.isList.typeIs slot_list_getitem.lookup
   (wpAny_getItem_list_neg (Q:=fun r s'=>r=w/\EP X pins L Q r s') pl.isList ⋯ (by rw[SS]<;>omega) ⋯ (by rw[hj];simpa using ew) ⟨rfl,fin⟩) hs
theorem ix_tup:IxR X (zP X.K):=by
 intro value slice pins s L H x y v u Q I rx ry h hs;obtain⟨p,xs,i,z,rfl,rfl,hq,he,q⟩:=h;cases rx;obtain⟨t,rfl⟩:=ry;obtain⟨its,r,pl,hz⟩:=I.tuple hq;obtain⟨j,h1,h2,h3,h4,h5⟩:=yA he;obtain⟨w,ew,rw'⟩:=r.get h2;have hl:=r.length;have hn:=nX;have fin:EP X pins L Q w s:=⟨z,H,I,rw',q⟩
 exact subscriptTail_builtinR (x:=w) pl.typeIs slot_tuple_getitem.lookup
  (getItem_tuple (j:=j) (Q:=fun r s'=>r=w/\EP X pins L Q r s') pl ⋯ ⋯ (by rw[SS,←hl];exact h1) (by simpa using ew) ⟨rfl,fin⟩) hs
theorem Fv:IxR X C7:=by
 intro value slice pins s L H x y v u Q I rx ry h hs;obtain⟨z,i,c,rfl,rfl,hz,he,q⟩:=h;obtain⟨t,rfl⟩:=rx;obtain⟨t',rfl⟩:=ry;obtain⟨j,h1,h2,h3,h4,h5⟩:=yA he;have hl:z.cps.toList.length=z.length:=by simp[Str.length]
 rw[hl] at h1 h4 h5;have hn:=nX;exact tail_any (typeIs_str s z t) slot_str_getitem.lookup (getItem_str (c:=c) (by
  have e1:decide (i< -(2^63:Int))=false:=SJ ⋯;have e2:decide (i>=2^63)=false:=SJ ⋯;rw[e1,e2,Bool.or_false]) (by rw[h1];simpa using h2) ⟨.str ⟨#[c]⟩,H,I.tok _,⟨_,rfl⟩,q⟩) hs
def rIx(K:Frag):R2:=fun x y H Q=>Cr K x y H Q\/zP K x y H Q\/C7 x y H Q
theorem KO:IxR X (rIx X.K):=ix_list.or (ix_tup.or Fv)
theorem QU(its:Ő)(n j:Nat)(u:Value):Obj.mapSeq (·.setIfInBounds j u) {cls:=.type "list",data:=.seq its.toArray n}={cls:=.type "list",data:=.seq (its.set j u).toArray n}:=by
 simp[Obj.mapSeq]
theorem Inv.lst{pins:SL}{L:St}{H:Hp}{s:Shared}{p:Addr}{xs:Ř}(I:Inv X pins L H s)(h:H p=some (.lst xs)):
  ∃(its:Ő) (n:Nat),Vals xs its/\s.heap.get? p=some {cls:=.type "list",data:=.seq its.toArray n}/\xs.length<=sizeLine:=by
 obtain⟨z,its,n,r,e⟩:=I.hok p _ h;exact(⟨its,n,r,e,z⟩)
theorem Inv.lstUpd{pins:SL}{L:St}{H:Hp}{s:Shared}{p:Addr}{xs ys:Ř}{its its':Ő}{n n':Nat}{f:Obj->Obj}(I:Inv X pins L H s)(h:H p=some (.lst xs))
  (ho:s.heap.get? p=some {cls:=.type "list",data:=.seq its.toArray n}) (hf:f {cls:=.type "list",data:=.seq its.toArray n}={cls:=.type "list",data:=.seq its'.toArray n'}) (r:Vals ys its') (hz:ys.length<=sizeLine) (t:Nat):
  Inv X pins L (upd H p<|.lst ys) {s with heap:=s.heap.update p f,toks:=t}:=by
 have e:(s.heap.update p f).get? p=some {cls:=.type "list",data:=.seq its'.toArray n'}:=by
  rw[UA f ho (by rw[hf]<;>rfl),hf]
 refine I.write (x:=p) (e:=p) (by rw[h];trivial) (.inl rfl) (fun b u hb q=>(TX _ _<|Ne.symm hb).trans q) ⟨_,e⟩ ?_;exact⟨hz,its',n',r,e⟩
def Ks:V->V->V->Hp->(Hp->Prop)->Prop:=fun o i v H Q=>∃p xs k j,o=.ref p/\i=.int k/\H p=some (.lst xs)/\ixN xs.length k=some j/\Q (upd H p<|.lst<|xs.set j v)
theorem IW:C9 X Ks:=by
 intro pins s L H o i v ov iv u Q I ro ri rv h;obtain⟨p,xs,k,j,rfl,rfl,hp,hj,q⟩:=h;cases ro;obtain⟨t,rfl⟩:=ri;obtain⟨its,n,r,ho,hz⟩:=I.lst hp;obtain⟨h1,h2,h3,h4⟩:=zl hj;have hl:=r.length;have hn:=nX;have I':Inv X pins L (upd H p<|.lst<|xs.set j v) {s with heap:=s.heap.update p (Obj.mapSeq (·.setIfInBounds j u))}:=
  I.lstUpd hp ho (QU its n j u) (r.set rv j) (by rw[Uq];exact hz) s.toks
 by_cases h0:0<=k
 .have hk:k.toNat=j:=by
   rw[seqIndex_of h0 h4] at h1;exact S5 h1
  exact PySem.W.ki_setAt ho h0 ⋯ (by rw[SS,←hl];exact h4) (by rw[hk];exact⟨_,I',q⟩)
 .have hk:(k+(its.toArray.size:Int)).toNat=j:=by
   rw[seqIndex_neg ⋯ h3] at h1;rw[SS,←hl];exact S5 h1
  exact PySem.W.ki_setBack ho ⋯ (by rw[SS,←hl];exact h3) ⋯ (by rw[hk];exact⟨_,I',q⟩)
theorem HM(lo hi:Œ)(n:Nat):(sliceBounds lo hi none n).1=((HT.sIx n 0 lo:Nat):Int)/\(sliceBounds lo hi none n).2.1=((HT.sIx n n hi:Nat):Int)/\(sliceBounds lo hi none n).2.2=1:=by
 refine⟨?_,?_,rfl⟩
 .cases lo with
  |none=>simp[sliceBounds,HT.sIx]
  |some i=>
   simp only[sliceBounds,HT.sIx,Option.getD_none,show(1:Int)>0 by decide,if_true];by_cases h:i<0
   .simp only[h,if_true]<;>omega
   .simp only[h,if_false]<;>omega
 .cases hi with
  |none=>simp[sliceBounds,HT.sIx]
  |some i=>
   simp only[sliceBounds,HT.sIx,Option.getD_none,show(1:Int)>0 by decide,if_true];by_cases h:i<0
   .simp only[h,if_true]<;>omega
   .simp only[h,if_false]<;>omega
theorem ID(its:Ő)(lo hi:Œ):slicePick its.toArray lo hi none=((its.drop<|HT.sIx its.length 0 lo).take (HT.sIx its.length its.length hi - HT.sIx its.length 0 lo)).toArray:=by
 obtain⟨h1,h2,h3⟩:=HM lo hi its.toArray.size;unfold slicePick;rw[h1,h2,h3];simp only[sliceRange_one,pick_run,SS]<;>rfl
def Kb(K:Frag):V->Œ->Œ->Hp->VK->Prop:=fun x lo hi H Q=>∃a xs,x=.ref a/\SqL K H a xs/\∀p,H p=none->Q (.ref p) (upd H p<|.lst<|kO xs lo hi)
theorem sl_list:SlR X (Kb X.K):=by
 intro pins s L H x v vl vu lo hi sl Q I rx hs pl pu h;obtain⟨a,xs,rfl,hx,q⟩:=h;cases rx;obtain⟨its,r,ht,hz⟩:=I.list hx;have hlen:=r.length;refine(⟨"list",_,slot_list_getitem.lookup,ht.isList.typeIs,?_⟩);refine wpAny_getItem_list_slice ht.isList hs pl pu .none nofun ?_ (by rw[SS]<;>omega);rw[ID,←hlen];refine⟨.ref s.heap.objs.size,_,I.laid (t':=s.toks) (o:=.lst (kO xs lo hi)) (fun b ob q=>SD _ q) (SF _) ?_,rfl,q _<|I.hok.fresh<|SF _⟩;exact⟨Tg (zJ xs lo hi) hz,_,0,(r.drop<|HT.sIx xs.length 0 lo).take (HT.sIx xs.length xs.length hi - HT.sIx xs.length 0 lo),SM _ rfl⟩
theorem Ir:jt X (.builtin "len") (fun xs H Q=>∃p ys,xs=[.ref p]/\(SqL X.K H p ys\/SqT X.K H p ys)/\Q (.int ys.length) H):=by
 intro pins s L H xs us Q I r h;obtain⟨p,ys,rfl,hq,q⟩:=h;obtain⟨u,rfl,rx⟩:=lT r;cases rx;have hn:=nX;rcases hq with hq|hq
 .obtain⟨its,r',pl,hz⟩:=I.list hq;have hlen:=r'.length;exact Calls.call_len_list pl.isList (by simp only[SS]<;>omega) ⟨.int ys.length,H,I.tok _,⟨s.toks+1,by rw[SS,hlen]⟩,q⟩
 .obtain⟨its,r',pl,hz⟩:=I.tuple hq;have hlen:=r'.length;exact len_tuple pl (by simp only[SS]<;>omega) ⟨.int ys.length,H,I.tok _,⟨s.toks+1,by rw[SS,hlen]⟩,q⟩
theorem Mj:jt X (.type "tuple") (fun xs H Q=>∃p ys,xs=[.ref p]/\((SqL X.K H p ys/\∀l,H l=none->Q (.ref l) (upd H l<|.tup ys))\/(SqT X.K H p ys/\Q (.ref p) H))):=by
 intro pins s L H xs us Q I r h;obtain⟨p,ys,rfl,h⟩:=h;obtain⟨u,rfl,rx⟩:=lT r;cases rx;rcases h with⟨hq,q⟩|⟨hq,q⟩
 .obtain⟨its,r',pl,hz⟩:=I.list hq;have hlen:=r'.length;refine call_tuple_list pl.isList (fun h' kp=>?_) (by simp only[SS]<;>omega);have I1:Inv X pins L H {s with heap:=h'}:=I.kept (t':=s.toks) kp;have I2:Inv X pins L (upd H h'.objs.size<|.tup ys) {s with heap:=h'.push {cls:=.type "tuple",data:=.seq its.toArray}}:=
   I1.laid (t':=s.toks) (fun b o e=>SD _ e) (SF _) (show ObjOk X.prog X.w _ _ _ (.tup ys) from⟨hz,its,r',IsTup.new _ _⟩)
  exact⟨.ref h'.objs.size,_,I2,rfl,q _<|I1.hok.fresh<|SF _⟩
 .obtain⟨its,r',pl,hz⟩:=I.tuple hq;exact call_tuple_same pl ⟨.ref p,H,I,rfl,q⟩
def tyV(K:Frag)(T:String)(x:V)(H:Hp):Prop:=match x with
 | .str _=>T="str"
 | .int _=>T="int"
 | .ref p=>(T="list"/\ ∃xs,SqL K H p xs)\/(T="tuple"/\ ∃o,K.lookup p=some o/\o.cls=.type "tuple"/\o.dict=none)\/
   (T="dict"/\((∃kvs,H p=some (.dK kvs))\/∃kvs,H p=some (.dT kvs)))\/(T="set"/\ ∃S n,H p=some (.set S n))
 |_=>False
theorem Bh{pins:SL}{L:St}{H:Hp}{s:Shared}{T:String}{x:V}{v:Value}(I:Inv X pins L H s)(r:RelV x v)(ty:tyV X.K T x H):
  s.TypeIs v T/\∀a,v=.ref a->∃ob,s.heap.get? a=some ob/\ob.dict=none:=by
 cases x with
 |str z=>
  obtain⟨t,rfl⟩:=r;cases (show T="str" from ty);exact⟨typeIs_str s z t,fun _ e=>nomatch e⟩
 |int i=>
  obtain⟨t,rfl⟩:=r;cases (show T="int" from ty);exact⟨VB s i t,fun _ e=>nomatch e⟩
 |ref p=>
  cases r;rcases ty with⟨rfl,xs,hq⟩|⟨rfl,o,hk,hc,hd⟩|⟨rfl,hk⟩|⟨rfl,S,n,hk⟩
  .obtain⟨its,_,pl,_⟩:=I.list hq;refine⟨pl.isList.typeIs,fun a e=>?_⟩;cases e;obtain⟨o,n,e,c,hd,_⟩:=pl;exact(⟨o,e,hd⟩)
  .refine⟨⟨o,I.kIn p o hk,hc⟩,fun a e=>?_⟩;cases e;exact⟨o,I.kIn _ o hk,hd⟩
  .have z:∃o,s.heap.get? p=some o/\o.ExactDict:=by
    rcases hk with⟨kvs,hk⟩|⟨kvs,hk⟩
    .obtain⟨_,_,_,_,o,_,_,e,ex,_⟩:=I.hok p _ hk;exact⟨o,e,ex⟩
    .obtain⟨_,_,_,_,o,_,_,e,ex,_⟩:=I.hok p _ hk;exact⟨o,e,ex⟩
   obtain⟨o,e,ex⟩:=z;refine(⟨⟨o,e,ex.1⟩,fun a e2=>?_⟩);cases e2;exact⟨o,e,ex.2.1⟩
  .obtain⟨o,_,_,_,e,ex,_⟩:=I.hok p _ hk;refine⟨⟨o,e,ex.1⟩,fun a e2=>?_⟩;cases e2;exact⟨o,e,ex.2.1⟩
 |_=>exact False.elim ty
def vp(K:Frag)(T:String)(r:V->Ř->Hp->VK->Prop)(to:TE):TE:=fun L H Q=>to L H fun x H1=>tyV K T x H1/\r x [] H1 Q
def tBM(K:Frag)(T:String)(r:V->Ř->Hp->VK->Prop)(to:TE)(t:TA):TE:=fun L H Q=>to L H fun x H1=>tyV K T x H1/\t L H1 fun xs H2=>r x xs H2 Q
variable {o e:Expr} {es:Ś} {to:TE} {t:TA} {name:Str} {apos cpos:Pos} {T id:String} {r:V->Ř->Hp->VK->Prop}
theorem Bt(pa:PlainAttrs T)(slot:Slot T name id)(hty:typeOf (.builtin id)=pure (.type "method_descriptor")) (hm:MtR X id r) (ho:PE X o to)
  (hbase:attributeBase o name X.env (eval o X.env)=eval o X.env:=by rfl) (hline:(apos.endLine==cpos.line)=true:=by rfl):PE X (.Call (.Attribute o name apos) [] [] cpos) (vp X.K T r to):=by
 intro pins s L H Q I h;refine wpAny_Call_method0_late hbase hline (thn (ho pins s L H _ I h) fun v s1 hm=>?_);obtain⟨x,H1,I1,r1,ty,q1⟩:=hm;obtain⟨h1,h2⟩:=Bh I1 r1 ty;exact(⟨T,id,pa,slot,hty,h1,h2,Calls.callWith_builtin rfl (PySem.evalArgs_none<|hm pins s1 L H1 x [] v [] Q I1 r1 .nil q1)⟩)
theorem so(pa:PlainAttrs T)(slot:Slot T name id)(hty:typeOf (.builtin id)=pure (.type "method_descriptor")) (hm:MtR X id r) (ho:PE X o to) (ha:PA X (e::es) t)
  (hbase:attributeBase o name X.env (eval o X.env)=eval o X.env:=by rfl)
  (hfew:((backTo cpos<|starEach (e::es) X.env).all (fun x=>!x.1)&&(backToKw cpos<|keywordEach [] X.env).all (fun x=>x.1.isSome)
   &&decide ((e::es).length+([]:ŝ).length+(if([]:ŝ).isEmpty then 0 else 1)<30))=true:=by rfl)
  (hline:(apos.endLine==cpos.line)=true:=by rfl) (hs:starEach (e::es) X.env=(false,eval e X.env)::starEach es X.env:=by rfl) (hplain:(backTo cpos<|starEach es X.env).any (·.1)=false:=by rfl):
  PE X (.Call (.Attribute o name apos) (e::es) [] cpos) (tBM X.K T r to t):=by
 intro pins s L H Q I h;refine wpAny_Call_method_late hbase hfew hline rfl (thn (ho pins s L H _ I h) fun v s1 hm=>?_);obtain⟨x,H1,I1,r1,ty,q1⟩:=hm;obtain⟨h1,h2⟩:=Bh I1 r1 ty;refine(⟨T,id,pa,slot,hty,h1,h2,?_⟩);have hA:=ha cpos pins s1 L H1 _ I1 q1;rw[hs] at hA⊢;refine Calls.callWith_builtin (by show(false||(backTo cpos<|starEach es X.env).any (·.1))=false;rw[hplain]<;>rfl) (Calls.evalArgs_plain ?_);exact thn hA fun us s2 ⟨vs,H2,I2,r2,q2⟩=>hm pins s2 L H2 x vs v us Q I2 r1 r2 q2
end
def MtM(X:Cx)(id:String)(r:V->Ř->Hp->VK->Prop):Prop:=
 ∀(pins:SL) (s:Shared) (L:St) (H:Hp) (x:V) (xs:Ř) (v:Value) (us:Ő) (Q:VK),Inv X pins L H s->RelV x v->Vals xs us->r x xs H Q->
  wpAny (model X.prog X.w) X.A (call (.builtin id)<|v::us) (EP X pins L Q) X.xe s
def Vals.one{x:V}{us:Ő}(h:Vals [x] us):∃u,us=[u]/\RelV x u:=by
 cases h with|cons r t=>cases t;exact⟨_,rfl,r⟩
def Vals.two{x y:V}{us:Ő}(h:Vals [x,y] us):∃u v,us=[u,v]/\RelV x u/\RelV y v:=by
 cases h with|cons r t=>obtain⟨v,rfl,q⟩:=Vals.one t;exact⟨_,v,rfl,r,q⟩
theorem Vals.zero:∀{us:Ő},Vals [] us->us=[]
 |_,.nil=>rfl
theorem Vals.rep{xs:Ř}{us:Ő}(h:Vals xs us):∀k:Nat,Vals (List.replicate k xs).flatten (List.replicate k us).flatten
 |0=>.nil
 |k+1=>by
  rw[Uc,Uc,UB,UB];exact Vals.append h (Vals.rep h k)
theorem Dc(its:Ő):∀(k:Nat) (acc:Ő),
  List.foldl (fun x1 x2=>x1++x2) acc.toArray (List.replicate k its.toArray)=(acc++(List.replicate k its).flatten).toArray
 |0,acc=>by simp
 |k+1,acc=>by
  have e:acc.toArray++its.toArray=(acc++its).toArray:=by simp
  have e2:(acc++its)++(List.replicate k its).flatten=acc++(List.replicate (k+1) its).flatten:=by
   rw[Uc,UB,UC]
  rw[←e2,←Dc its k (acc++its),←e,Uc,List.foldl_cons]
section
variable {X:Cx} {pins:SL} {L:St} {H:Hp} {s:Shared} {l:Addr} {xs ys:Ř}
theorem Inv.lset{its its':Ő}{n:Nat}{f:Array Value->Array Value}{t':Nat}(I:Inv X pins L H s)(hH:H l=some (.lst xs))
  (e:s.heap.get? l=some {cls:=.type "list",data:=.seq its.toArray n}) (hf:f its.toArray=its'.toArray) (hv:Vals ys its') (hz:ys.length<=sizeLine):
  Inv X pins L (upd H l<|.lst ys) {s with heap:=s.heap.update l (Obj.mapSeq f),toks:=t'}:=by
 have q:=PySem.IsL.update e f;rw[hf] at q;refine I.write (x:=l) (e:=l) (by rw[hH];exact trivial) (.inl rfl) (fun b' u hb hu=>(TX s.heap (Obj.mapSeq f)<|Ne.symm hb).trans hu) ⟨_,q⟩ ?_;exact⟨hz,its',_,hv,q⟩
theorem Inv.lnew(I:Inv X pins L H s)(hv:Vals ys its)(hz:ys.length<=sizeLine):
  Inv X pins L (upd H s.heap.objs.size<|.lst ys) {s with heap:=s.heap.push {cls:=.type "list",data:=.seq its.toArray},toks:=t'}:=
 I.laid (fun _ _ q=>SD _ q) (SF _) ⟨hz,its,0,hv,SM _ rfl⟩
theorem Inv.fresh(I:Inv X pins L H s):H s.heap.objs.size=none:=I.hok.fresh (SF _)
theorem Inv.lstM(I:Inv X pins L H s)(hH:H l=some (.lst xs)):xs.length<=sizeLine/\∃(its:Ő) (n:Nat),Vals xs its/\xs.length=its.length/\s.heap.get? l=some {cls:=.type "list",data:=.seq its.toArray n}:=by
 obtain⟨z,its,n,r,e⟩:=I.hok l _ hH;exact(⟨z,its,n,r,r.length,e⟩)
theorem Rk(h:n<=sizeLine):Builtin.List.listTooLong n=false:=by
 unfold Builtin.List.listTooLong;exact SJ ⋯
end
section
variable {X:Cx}
def Am:V->Ř->Hp->VK->Prop:=fun x vs H Q=>∃l xs y,x=.ref l/\vs=[y]/\H l=some (.lst xs)/\xs.length<sizeLine/\Q .non (upd H l<|.lst<|xs++[y])
theorem vH:MtM X "list.append" Am:=by
 intro pins s L H x vs v us Q I rx rv h;obtain⟨l,xs,y,rfl,rfl,hH,hz,q⟩:=h;cases rx;obtain⟨u,rfl,ru⟩:=rv.one;obtain⟨z,its,n,r,hl,e⟩:=I.lstM hH;refine Vr F.slot_list_append ⟨_,e,rfl⟩ F.entry_list_append (F.args_list_append_2 _ _) (PySem.list_append l its.toArray n u (by rw[SS];omega)) ⟨e,?_⟩;refine⟨.non,_,I.lset (its':=its++[u]) hH e nofun (r.append<|.cons ru .nil) ?_,rfl,q⟩;rw[Tx,U8];omega
def AG:R2:=fun x y H Q=>∃l b xs zs,x=.ref l/\y=.ref b/\H l=some (.lst xs)/\H b=some (.lst zs)/\xs.length+zs.length<=sizeLine/\∀p,H p=none->Q (.ref p) (upd H p<|.lst<|xs++zs)
theorem op_cat:OpR X (binaryOp .Add) AG:=by
 intro pins s L H x y v u Q I rx ry h;obtain⟨l,b,xs,zs,rfl,rfl,hH,hB,hz,q⟩:=h;cases rx;cases ry;obtain⟨z,its,n,r,hl,e⟩:=I.lstM hH;obtain⟨z2,its2,n2,r2,hl2,e2⟩:=I.lstM hB;refine PySem.P.add_list e e2 ?_ (by rw[SS,SS];omega);have ea:its.toArray++its2.toArray=(its++its2).toArray:=by simp
 rw[ea];exact⟨.ref _,_,I.lnew (t':=s.toks) (r.append r2) (by rw[Tx];omega),rfl,q _ I.fresh⟩
def Af:R2:=fun x y H Q=>∃l k xs,x=.ref l/\y=.int k/\H l=some (.lst xs)/\-(2^63)<=k/\k<2^63/\xs.length*k.toNat<=sizeLine/\
 ∀p,H p=none->Q (.ref p) (upd H p<|.lst (List.replicate k.toNat xs).flatten)
theorem QW{J:Type}(xs:List J)(k:Nat):(List.replicate k xs).flatten.length=k*xs.length:=by
 induction k with
 |zero=>simp
 |succ k ih=>rw[Uc,UB,Tx,ih,Nat.succ_mul,Nat.add_comm]
theorem J4:OpR X (binaryOp .Mult) Af:=by
 intro pins s L H x y v u Q I rx ry h;obtain⟨l,k,xs,rfl,rfl,hH,h1,h2,hz,q⟩:=h;cases rx;obtain⟨t,rfl⟩:=ry;obtain⟨z,its,n,r,hl,e⟩:=I.lstM hH;have hlen:its.toArray.size*k.toNat<=sizeLine:=by rw[SS,←hl];exact hz
 have hcap:¬its.toArray.size*k.toNat>(2^63 - 1)/8:=by
  have:(sizeLine:Nat)<=(2^63 - 1)/8:=by decide
  omega
 have hfit:¬(!Builtin.List.listFitsIndex k)=true:=by
  rw[fitsIndex_both h1 h2];exact Ui
 have hlong:¬Builtin.List.listTooLong (its.toArray.size*k.toNat)=true:=by
  rw[Rk hlen];exact Ui
 have hnew:List.foldl (fun x1 x2=>x1++x2) #[] (List.replicate (if its.toArray.isEmpty=true then 0 else k.toNat) its.toArray)=(List.replicate k.toNat its).flatten.toArray:=by
  have f0:∀m:Nat,List.foldl (fun x1 x2=>x1++x2) #[] (List.replicate m its.toArray)=(List.replicate m its).flatten.toArray:=fun m=>by
   have:=Dc its m [];rw[List.nil_append] at this;exact this
  rw[f0];cases its with
  |nil=>simp
  |cons a r'=>rw[if_neg nofun]
 refine wpAny_binaryOp_repeat_ref (T:="list") (U:="int") (by decide) ⟨_,e,rfl⟩ (fun s'=>VB s' k t) noFill_list_mul F.fills_int_mul F.slot_int_rmul repeat_list F.slot_int_index.lookup
  (Vr F.slot_int_rmul (VB s k t) F.entry_int_rmul (F.args_int_rmul_2 _ _) (int___rmul___int_list k t l its.toArray n)
   ⟨e,rfl,⟨_,e,rfl⟩,Vr F.slot_list_mul ⟨_,e,rfl⟩ F.entry_list_mul (F.args_list_mul_2 _ _) (AutoListH.list___mul___list_int_3 l its.toArray n k t hfit hcap hlong) ⟨e,?_⟩⟩)
 rw[hnew];exact⟨.ref _,_,I.lnew (t':=s.toks) (r.rep k.toNat) (by rw[QW,VR];exact hz),rfl,q _ I.fresh⟩
end
section
variable {κ:Type} [DecidableEq κ]
def il(kvs:List (κ×V))(k:κ):Option V:=(kvs.find? fun kv=>decide (kv.1=k)).map (·.2)
def gU(kvs:List (κ×V))(k:κ)(v:V):List (κ×V):=
 if(kvs.any fun kv=>decide (kv.1=k))=true then kvs.map (fun kv=>if kv.1=k then(kv.1,v) else kv) else kvs++[(k,v)]
theorem m7{p:κ×V}{r:List (κ×V)}{k:κ}(e:p.1=k):il (p::r) k=some p.2:=by simp[il,S0,e]
theorem nl{p:κ×V}{r:List (κ×V)}{k:κ}(e:¬p.1=k):il (p::r) k=il r k:=by simp[il,S0,e]
theorem Cf(k:κ):∀kvs:List (κ×V),(kvs.any fun kv=>decide (kv.1=k))=(il kvs k).isSome
 | []=>rfl
 |p::r=>by
  rw[Uu];by_cases e:p.1=k
  .simp only[m7 e,S3 e,Bool.true_or,Uk]
  .rw[nl e,SJ e,Bool.false_or];exact Cf k r
theorem uL(kvs:List (κ×V))(k:κ)(v:V):(gU kvs k v).length<=kvs.length+1:=by
 unfold gU;split
 .rw[SW];omega
 .rw[Tx,S9,List.length_nil];omega
theorem RelO.isSome_eq{o:Option V}{u:Š}(r:RelO o u):o.isSome=u.isSome:=by
 cases o with
 |none=>cases u with
  |none=>rfl
  |some _=>exact(show False from r).elim
 |some _=>cases u with
  |none=>exact(show False from r).elim
  |some _=>rfl
theorem KV.val{kvs:List (κ×V)}{vs:List (κ×Value)}(r:KV kvs vs)(k:κ):RelO (il kvs k) (valueAt vs k):=by
 unfold KV at r;induction r with
 |nil=>exact True.intro
 | @cons p q ps qs h t ih=>
  obtain⟨h1,h2⟩:=h;by_cases e:p.1=k
  .have e':q.1=k:=h1.symm.trans e;have b:valueAt (q::qs) k=some q.2:=by simp[valueAt,S0,e']
   rw[m7 e,b];exact h2
  .have e':¬q.1=k:=fun z=>e (h1.trans z);have b:valueAt (q::qs) k=valueAt qs k:=by simp[valueAt,S0,e']
   rw[nl e,b];exact ih
theorem KV.any{kvs:List (κ×V)}{vs:List (κ×Value)}(r:KV kvs vs)(k:κ):(kvs.any fun kv=>decide (kv.1=k))=vs.any fun kv=>decide (kv.1=k):=by
 unfold KV at r;induction r with
 |nil=>rfl
 |cons h t ih=>rw[Uu,Uu,ih,h.1]
theorem KV.repl{kvs:List (κ×V)}{vs:List (κ×Value)}(r:KV kvs vs)(k:κ){y:V}{u:Value}(ry:RelV y u):
  KV (kvs.map fun kv=>if kv.1=k then(kv.1,y) else kv) (vs.map fun kv=>if kv.1=k then(kv.1,u) else kv):=by
 unfold KV at r⊢;induction r with
 |nil=>exact .nil
 | @cons p q ps qs h t ih=>
  rw[SN,SN];refine .cons ?_ ih;obtain⟨h1,h2⟩:=h;by_cases e:p.1=k
  .rw[if_pos e,if_pos (h1.symm.trans e)];exact⟨h1,ry⟩
  .rw[if_neg e,if_neg (fun z=>e<|h1.trans z)];exact⟨h1,h2⟩
theorem KV.put{kvs:List (κ×V)}{vs:List (κ×Value)}(r:KV kvs vs)(k:κ){y:V}{u:Value}(ry:RelV y u):KV (gU kvs k y) (stored vs k u):=by
 unfold gU stored;rw[r.any k];by_cases e:(vs.any fun kv=>decide (kv.1=k))=true
 .rw[if_pos e,if_pos e];exact r.repl k ry
 .rw[if_neg e,if_neg e];exact VI r ⟨rfl,ry⟩
theorem KV.length{kvs:List (κ×V)}{vs:List (κ×Value)}(r:KV kvs vs):kvs.length=vs.length:=UQ r
end
def qZ{P:Program}{w:World}{k:Key}{u:Value}(r:RelV (kV k) u):(iW P w).is k u=true:=by
 cases k with
 |inl i=>obtain⟨t,e⟩:=(show ∃t,u=Value.int i t from r);subst e;exact Oo P w i t
 |inr x=>obtain⟨t,e⟩:=(show ∃t,u=Value.str x t from r);subst e;exact Sa P w x t
abbrev KT(H:Hp):List (NK×V)->List (NK×Addr×Value)->Prop:=Paired fun p q=>p.1=q.1/\NKey H q.2.1 p.1/\RelV p.2 q.2.2
def KT.val{H:Hp}{kvs:List (NK×V)}{xs:List (NK×Addr×Value)}(r:KT H kvs xs)(k:NK):RelO (il kvs k) ((atKey xs k).map (·.2)):=by
 induction r with
 |nil=>exact True.intro
 | @cons p q ps qs h t ih=>
  obtain⟨h1,_,h2⟩:=h;by_cases e:p.1=k
  .have e':q.1=k:=h1.symm.trans e;have b:atKey (q::qs) k=some q.2:=by simp[atKey,S0,e']
   rw[m7 e,b];exact h2
  .have e':¬q.1=k:=fun z=>e (h1.trans z);have b:atKey (q::qs) k=atKey qs k:=by simp[atKey,S0,e']
   rw[nl e,b];exact ih
theorem KT.repl{H:Hp}{kvs:List (NK×V)}{xs:List (NK×Addr×Value)}(r:KT H kvs xs)(k:NK){y:V}{u:Value}(ry:RelV y u):
  KT H (kvs.map fun kv=>if kv.1=k then(kv.1,y) else kv) (xs.map<|putAt k u):=by
 induction r with
 |nil=>exact .nil
 | @cons p q ps qs h t ih=>
  rw[SN,SN];refine .cons ?_ ih;obtain⟨h1,h2,h3⟩:=h;unfold putAt;by_cases e:p.1=k
  .rw[if_pos e,if_pos (h1.symm.trans e)];exact⟨h1,h2,ry⟩
  .rw[if_neg e,if_neg (fun z=>e<|h1.trans z)];exact⟨h1,h2,h3⟩
theorem KT.put{H:Hp}{kvs:List (NK×V)}{xs:List (NK×Addr×Value)}(r:KT H kvs xs)(k:NK){b:Addr}{y:V}{u:Value}(hb:NKey H b k)(ry:RelV y u):
  KT H (gU kvs k y) (storedH xs k b u):=by
 have e:(kvs.any fun kv=>decide (kv.1=k))=(atKey xs k).isSome:=by
  rw[Cf,(r.val k).isSome_eq,U1]
 unfold gU storedH;rw[e];by_cases q:(atKey xs k).isSome=true
 .rw[if_pos q,if_pos q];exact r.repl k ry
 .rw[if_neg q,if_neg q];exact VI r ⟨rfl,hb,ry⟩
def KT.keeps{H H':Hp}{kvs:List (NK×V)}{xs:List (NK×Addr×Value)}(r:KT H kvs xs)(ht:∀b ys,H b=some (.tup ys)->H' b=some (.tup ys)):KT H' kvs xs:=
 Paired.mapP r fun _ _ z=>⟨z.1,z.2.1.up ht,z.2.2⟩
section
variable {P:Program} {w:World} {H:Hp} {h:Heap} {a:Addr}
theorem BP{u:HO}(ok:HOk P w H h)(e:Rd H a u):ObjOk P w H h a u:=e.ok ok
theorem tL{kvs:List (Key×V)}(ok:HOk P w H h)(e:Rd H a (.dK kvs)):kvs.length<=sizeLine/\(a==sysModules)=false/\∃vs,KV kvs vs/\h.DictOf (iW P w) a vs:=
 show ObjOk P w H h a (.dK kvs) from BP ok e
theorem mU{kvs:List (Key×V)}(ok:HOk P w H h)(e:H a=some (.dK kvs)):kvs.length<=sizeLine/\(a==sysModules)=false/\∃vs,KV kvs vs/\h.DictOf (iW P w) a vs:=tL ok (.inl e)
theorem AX:∀{ks:Ŕ} {us:Ő},Vals (ks.map V.int) us->ItemsAre (intKind P w) ks us
 | [],_,r=>by rw[U0] at r;cases r;exact .nil
 |k::ks,_,r=>by
  rw[SN] at r;cases r with
  |cons h t=>
   obtain⟨q,e⟩:=h;subst e;exact .cons (by simp[intKind,Value.isInt]) (AX t)
theorem xE{A:Around}(hu:A.units+9<cLine):(oi P w).room A.in1:=by show A.units+1+4<cLine;omega
theorem tW{k:NK}(ok:HOk P w H h)(e:NKey H a k):(oi P w).is h k a:=by
 obtain⟨c,e1,e2⟩:=e;obtain⟨_,its,r,o,h1,h2,n,h3⟩:=(show ObjOk P w H h a (.tup [.ref c,.int k.2]) from ok a _ e1)
 obtain⟨u1,u2,rfl,r1,t,r2⟩:=Vals.two r;obtain rfl:u1=Value.ref c:=r1;subst r2;obtain⟨_,its',r',o',g1,g2,n',g3⟩:=(show ObjOk P w H h c (.tup<|k.1.map V.int) from ok c _ e2)
 exact⟨o,c,t,n,h1,h2,h3,o',its'.toArray,n',g1,g2,g3,by simpa using AX r'⟩
theorem tf{kvs:List (NK×V)}(ok:HOk P w H h)(e:Rd H a (.dT kvs)):kvs.length<=sizeLine/\(a==sysModules)=false/\
  ∃xs,KT H kvs xs/\h.DictOfH (oi P w) a xs:=by
 obtain⟨z,y,xs,r,o,es,ep,h1,h2,h3,h4,h5⟩:=(show ObjOk P w H h a (.dT kvs) from BP ok e)
 refine(⟨z,y,xs,r,o,es,ep,h1,h2,h3,h4,fun x hx=>?_,h5⟩);have all:∀{l:List (NK×V)} {m:List (NK×Addr×Value)},KT H l m->∀x∈m,(oi P w).is h x.1 x.2.1:=by
  intro l m q;induction q with
  |nil=>intro x hx;exact nomatch hx
  | @cons p q ps qs hq t ih=>
   intro x hx;rcases S2.mp hx with e|hx
   .subst e;exact tW ok (by rw[←hq.1];exact hq.2.1)
   .exact ih x hx
 exact all r x hx
theorem QP{kvs:List (NK×V)}(ok:HOk P w H h)(e:H a=some (.dT kvs)):kvs.length<=sizeLine/\(a==sysModules)=false/\
  ∃xs,KT H kvs xs/\h.DictOfH (oi P w) a xs:=tf ok (.inl e)
end
def DGet(H:Hp)(a:Addr)(y:V)(r:Option V):Prop:=
 (∃kvs k,Rd H a (.dK kvs)/\y=kV k/\r=il kvs k)\/∃kvs k b,Rd H a (.dT kvs)/\y=.ref b/\NKey H b k/\r=il kvs k
def vt(H:Hp)(a:Addr)(y v:V)(H':Hp):Prop:=
 (∃kvs k,H a=some (.dK kvs)/\y=kV k/\kvs.length<sizeLine/\H'=upd H a (.dK<|gU kvs k v))\/
 ∃kvs k b,H a=some (.dT kvs)/\y=.ref b/\NKey H b k/\kvs.length<sizeLine/\H'=upd H a (.dT<|gU kvs k v)
def DGet.k{H:Hp}{a:Addr}{kvs:List (Key×V)}{k:Key}(e:H a=some (.dK kvs)):DGet H a (kV k) (il kvs k):=.inl ⟨kvs,k,.inl e,rfl,rfl⟩
section
variable {X:Cx} {pins:SL} {L:St} {H:Hp} {s:Shared} {a:Addr} {y v:V} {u r:Value} {o:Option V} {A:Around} {E:SC}
theorem Inv.big(I:Inv X pins L H s):sysModules<s.heap.objs.size:=by
 have h:mainGlobals<s.heap.objs.size:=(I.mod.glob.keeps I.bk).lt;exact U2 (by decide) h
theorem Oy{Q:SC}(hu:A.units+9<cLine)(I:Inv X pins L H s)(g:DGet H a y (some v))(ry:RelV y u)(h:∀w' s',Inv X pins L H s'->RelV v w'->Q w' s'):
  wpAny (model X.prog X.w) A (getItem (.ref a) u) Q E s:=by
 rcases g with⟨kvs,k,e,ey,l⟩|⟨kvs,k,b,e,ey,eb,l⟩
 .subst ey;obtain⟨z,hd,vs,rel,dd⟩:=tL I.hok e;obtain⟨w',hw,rw'⟩:=RelO.some_of (v:=v) (o:=valueAt vs k) (by rw[l];exact rel.val k);exact(wpAny_getItem_of (qZ ry) dd.mapOf hw<|h w' _ (I.tok _) rw')
 .subst ey;cases (show u=Value.ref b from ry);obtain⟨z,hd,xs,rel,dd⟩:=tf I.hok e;obtain⟨w',hw,rw'⟩:=RelO.some_of (v:=v) (o:=(atKey xs k).map (·.2)) (by rw[l];exact rel.val k);obtain⟨p,hp,hp2⟩:=Option.map_eq_some_iff.mp hw;refine(wpAny_getItem_heap (xE hu) (tW I.hok eb) dd hp ?_);rw[hp2];exact h w' _ (I.tok _) rw'
theorem IR{Q:SC}(hu:A.units+9<cLine)(I:Inv X pins L H s)(g:DGet H a y o)(ry:RelV y u)(h:∀s',Inv X pins L H s'->Q (.bool<|!o.isSome) s'):
  wpAny (model X.prog X.w) A (compareOp .NotIn u<|.ref a) Q E s:=by
 rcases g with⟨kvs,k,e,ey,l⟩|⟨kvs,k,b,e,ey,eb,l⟩
 .subst ey;obtain⟨z,hd,vs,rel,dd⟩:=tL I.hok e;refine(wpAny_notIn_of (qZ ry) hd dd.mapOf ?_);rw[←(rel.val k).isSome_eq,←l];exact h _ (I.tok _)
 .subst ey;cases (show u=Value.ref b from ry);obtain⟨z,hd,xs,rel,dd⟩:=tf I.hok e;refine(wpAny_notIn_heap (xE hu) (tW I.hok eb) hd dd ?_);have q:=(rel.val k).isSome_eq;rw[U1] at q;rw[←q,←l];exact h _ (I.tok _)
theorem uM{h':Heap}{t':Nat}{ob:HO}(I:Inv X pins L H s)(mu:Mut (H a))(hs:Heap.SameBut a s.heap h')(he:∃q,h'.get? a=some q)(new:ObjOk X.prog X.w (upd H a ob) h' a ob):
  Inv X pins L (upd H a ob) {s with heap:=h',toks:=t'}:=
 I.write (x:=a) (e:=a) mu (.inl rfl) (fun b q hb z=>(hs.2 b hb).trans z) he new
theorem wR{P:Program}{w:World}{H':Hp}{h':Heap}{kvs:List (Key×V)}{vs:List (Key×Value)}(z:kvs.length<=sizeLine)(hd:(a==sysModules)=false)(rel:KV kvs vs)(dd:h'.DictOf (iW P w) a vs):
  ObjOk P w H' h' a (.dK kvs):=⟨z,hd,vs,rel,dd⟩
theorem LW{H':Hp}{Q:Unit->Shared->Prop}(hu:A.units+9<cLine)(I:Inv X pins L H s)(g:vt H a y v H')(ry:RelV y u)(rv:RelV v r)(h:∀s',Inv X pins L H' s'->Q () s'):
  wpAny (model X.prog X.w) A (setItem (.ref a) u r) Q E s:=by
 rcases g with⟨kvs,k,e,ey,l,eH⟩|⟨kvs,k,b,e,ey,eb,l,eH⟩
 .subst ey eH;obtain⟨z,hd,vs,rel,dd⟩:=mU I.hok e;have hz:vs.length<=sizeLine:=by rw[←rel.length];exact z
  have hl:(gU kvs k v).length<=sizeLine:=by have:=uL kvs k v;omega
  refine(wpAny_setItem_pairs (hsz:=hz) (qZ ry) dd fun h' dd' hs=>h _ ?_);have he:∃q,h'.get? a=some q:=let ⟨q,_,_,hq,_⟩:=dd';⟨q,hq⟩
  exact uM I (by rw[e];exact True.intro) hs he (wR hl hd (rel.put k rv) dd')
 .subst ey eH;cases (show u=Value.ref b from ry);obtain⟨z,hd,xs,rel,dd⟩:=QP I.hok e;have hz:xs.length<=sizeLine:=by rw[←UQ rel];exact z
  have hl:(gU kvs k v).length<=sizeLine:=by have:=uL kvs k v;omega
  refine(wpAny_setItem_heap (hsz:=hz) (xE hu) (tW I.hok eb) dd fun h' dd' hs=>h _ ?_);obtain⟨q,es,ep,hq,h2,h3,h4,_,h5⟩:=dd';refine uM I (by rw[e];exact True.intro) hs ⟨q,hq⟩ ⟨hl,hd,_,(rel.put k eb rv).keeps fun c ys ec=>?_,q,es,ep,hq,h2,h3,h4,h5⟩;rw[fR (Lk ec e<|fun z=>nomatch z)];exact ec
end
def ug(i:Expr):Prop:=∀ov iv,subscripted i false ov iv=operate [ov,iv] (getItem ov iv)
theorem Fh{prog:Program}{w:World}{A:Around}{E:SC}{s:Shared}{env:Env}{value slice:Expr}{pos:Pos}{T id:String}{Q:SC}
  (hl:typeLookup (.type T) "__getitem__"=pure (some<|.builtin id)) (hs:ug slice)
  (h:wpAny (model prog w) A (eval value env) (fun o ZT=>wpAny (model prog w) A (eval slice env) (fun i ZI=>ZI.TypeIs o T/\wpAny (model prog w) A (getItem o i) Q E ZI) E ZT) E s):
  wpAny (model prog w) A (eval (.Subscript value slice pos) env) Q E s:=by
 refine Subscript_ (SH h (fun o ZT ZQ=>SH ZQ (fun i ZI ZB=>?_) fun _ _ x=>x) fun _ _ x=>x);obtain⟨hT,ZB⟩:=ZB;unfold subscriptTail;refine SA ?_;rw[getitemInPython_of_ne hT.not_modules];refine SA (UR hT hl ?_);have fin:wpAny (model prog w) A (subscripted slice false o i) (fun r ZK=>wpAny (model prog w) A (letTemporaryGo value o r >>= fun _=>pure r) Q E ZK) E ZI:=by
  rw[hs o i];exact wpAny_operating (SH ZB (fun r ZK ZF=>SA<|wpAny_letTemporaryGo<|SE ZF) fun _ _ x=>x)
 first
  |exact SE (SA fin)
  |exact SA (SE<|SA fin)
  |exact SA fin
def KJ{X:Cx}{pins:SL}{L:St}{H:Hp}{s:Shared}{a:Addr}{y:V}{o:Option V}(I:Inv X pins L H s)(g:DGet H a y o):s.TypeIs (.ref a) "dict":=by
 rcases g with⟨kvs,k,e,_,_⟩|⟨kvs,k,b,e,_,_,_⟩
 .obtain⟨_,_,vs,_,dd⟩:=tL I.hok e;exact dd.typeIs
 .obtain⟨_,_,xs,_,dd⟩:=tf I.hok e;exact dd.typeIs
def PK(td ty:TE):TE:=fun L H Q=>td L H fun x H1=>ty L H1 fun y H2=>∃a v,x=.ref a/\DGet H2 a y (some v)/\Q v H2
def IE(ty td:TE):TE:=fun L H Q=>ty L H fun y H1=>td L H1 fun x H2=>∃a o,x=.ref a/\DGet H2 a y o/\Q (.bl<|!o.isSome) H2
def Fx(td ty tv:TE):TS:=fun D L H=>tv L H fun v H1=>td L H1 fun x H2=>ty L H2 fun y H3=>∃a H4,x=.ref a/\vt H3 a y v H4/\D.nx L H4
section
variable {X:Cx} {o i value:Expr} {pos pos':Pos} {td ty tv:TE}
theorem z9(hu:X.A.units+9<cLine)(ho:PE X o td)(hi:PE X i ty)(hs:ug i):PE X (.Subscript o i pos) (PK td ty):=by
 intro pins s L H Q I h;refine Fh PySem.F.slot_dict_getitem.lookup hs (thn (ho pins s L H _ I h) fun u s1 ⟨x,H1,I1,rx,q1⟩=>thn (hi pins s1 L H1 _ I1 q1) fun iv s2 hm=>?_);obtain⟨y,H2,I2,ry,a,v,ex,g,q2⟩:=hm;subst ex;obtain rfl:u=Value.ref a:=rx;exact⟨KJ I2 g,Oy hu I2 g ry fun w' s3 I3 rw'=>⟨v,H2,I3,rw',q2⟩⟩
theorem Qt(hu:X.A.units+9<cLine)(hi:PE X i ty)(ho:PE X o td):PC X .NotIn i o (IE ty td):=by
 intro pins s L H Q I h;refine thn (hi pins s L H _ I h) fun iv s1 ⟨y,H1,I1,ry,q1⟩=>thn (ho pins s1 L H1 _ I1 q1) fun u s2 hm=>?_;obtain⟨x,H2,I2,rx,a,ov,ex,g,q2⟩:=hm;subst ex;obtain rfl:u=Value.ref a:=rx;exact IR hu I2 g ry fun s3 I3=>⟨.bl (!ov.isSome),H2,I3,rfl,q2⟩
theorem GS(hu:X.A.units+9<cLine)(ho:PE X o td)(hi:PE X i ty)(hv:PE X value tv)(hs:swapsWith value (some<|.Subscript o i pos') pos.line X.env=pure false):
  PS X (.Assign [.Subscript o i pos'] value pos) (Fx td ty tv):=by
 intro pins s L H D I h;refine wpAny_Assign_Subscript (thn (hv pins s L H _ I h) fun r s1 ⟨v,H1,I1,rv,q1⟩=>thn (ho pins s1 L H1 _ I1 q1) fun u s2 ⟨x,H2,I2,rx,q2⟩=>thn (hi pins s2 L H2 _ I2 q2) fun iv s3 hm=>?_) hs;obtain⟨y,H3,I3,ry,a,H4,ex,g,q3⟩:=hm;subst ex;obtain rfl:u=Value.ref a:=rx;exact LW hu I3 g ry rv fun s4 I4=>⟨L,H4,I4,q3⟩
end
def PD{P:Program}{w:World}{H:Hp}(h:Heap)(hb:sysModules<h.objs.size):ObjOk P w H (h.push {cls:=.type "dict",data:=.dict #[]}) h.objs.size (.dK []):=
 ⟨TQ _,beq_eq_false_iff_ne.mpr (Ne.symm<|SY hb),[],.nil,Heap.DictOf.new h⟩
def Mc{P:Program}{w:World}{H:Hp}(h:Heap)(hb:sysModules<h.objs.size):ObjOk P w H (h.push {cls:=.type "dict",data:=.dict #[]}) h.objs.size (.dT []):=
 ⟨TQ _,beq_eq_false_iff_ne.mpr (Ne.symm<|SY hb),[],.nil,_,#[],0,SM _ rfl,⟨rfl,rfl,rfl⟩,rfl,rfl,List.nodup_nil⟩
def Pq:TE:=fun _ H Q=>∀p,H p=none->Q (.ref p) (upd H p<|.dK [])
def Ld:TE:=fun _ H Q=>∀p,H p=none->Q (.ref p) (upd H p<|.dT [])
section
variable {X:Cx} {pos:Pos}
theorem Fc:PE X (.Dict [] [] pos) Pq:=fun pins s L H Q I h=>
 wpAny_Dict_empty ⟨.ref s.heap.objs.size,_,I.laid (a:=s.heap.objs.size) (o:=.dK []) (t':=s.toks) (fun _ _ q=>SD _ q) (SF _) (PD s.heap I.big),rfl,h _<|I.hok.fresh<|SF _⟩
theorem OM:PE X (.Dict [] [] pos) Ld:=fun pins s L H Q I h=>
 wpAny_Dict_empty ⟨.ref s.heap.objs.size,_,I.laid (a:=s.heap.objs.size) (o:=.dT []) (t':=s.toks) (fun _ _ q=>SD _ q) (SF _) (Mc s.heap I.big),rfl,h _<|I.hok.fresh<|SF _⟩
end
end L2
namespace Att
open PySem PySem.W PySem.Calls PyProof.Rows
def RN{P:Params}{h:Heap}:∀(ns:Ŕ) (vs:Ő),WellAll P h vs (ns.map WData.int)->IntsAre vs ns:=by
 intro ns;induction ns with
 |nil=>
  intro vs w;rw[U0] at w;cases w;exact .nil
 |cons n ns ih=>
  intro vs w;rw[SN] at w;cases w with
  |cons a b=>
   cases a;exact .cons _ _ (ih _ b)
theorem QV{l:OpenLaw}{n:Nat}(hn:l.most=some n){P:Params}{h:Heap}{args:List WData}{vals:Ő}
  (hpre:l.row.toRowW.claim.pre args=true) (hwl:WellAll P h vals args):
  ∃a vs ns,vals=[Value.ref a]/\args=[WData.list (ns.map WData.int)]/\h.get? a=some {cls:=.type "list",data:=.seq vs.toArray}/\IntsAre vs ns/\ns.length<=n:=by
 have hsh:WShape.hasAll [] args [.list .int]=true:=(pre_splitW hpre).1;have hc:l.pre.holds [] {args:=args}=true:=(pre_splitW hpre).2;obtain⟨d,r,rfl,h1,h2⟩:=hasAllW_cons hsh;obtain rfl:=hasAllW_nil h2;obtain⟨xs,rfl,h3⟩:=hasW_list h1;obtain⟨ns,rfl⟩:=items_int h3;have hlen:ns.length<=n:=by
  unfold OpenLaw.pre at hc;have h4:(WTm.not<|.lt (.lit<|.int (n:Int))<|.len<|.arg 0).holds [] {args:=[.list (ns.map .int)]}=true:=by
   have h4:=(holds_andW hc).1;rw[hn] at h4;exact h4
  have h5:=condW_of h4 (w_not<|w_lt w_lit<|w_len_list<|w_arg rfl);rw[SW] at h5;refine Nat.le_of_not_lt fun q=>?_;have q':(n:Int)<((ns.length:Nat):Int):=by omega
  first
   |(rw[S3 q'] at h5;exact absurd h5 (by decide))
   |(simp at h5;omega)
 cases hwl with
 |cons w1 w2=>
  cases w2;cases w1 with
  |list ho hall=>exact⟨_,_,ns,rfl,rfl,ho,RN ns _ hall,hlen⟩
def O6(l:OpenLaw)(args:List WData):l.row.toRowW.claim.post args (.bool true) args=true:=
 postW_of (r:=l.row.toRowW) (X:=(true==true))
  (show WShape.has [] (.bool true) .bool=true by first|rfl|decide|simp[WShape.has,WShape.arms,WShape.armsAll])
  (show(WTm.eq .res<|.lit<|.bool true).value [] {args:=args,res:=some (.bool true),after:=args}=some (.bool<|true==true) from w_eq_bool (w_res rfl) w_lit) rfl
theorem attach_call{l:OpenLaw}{n:Nat}{q:Program}{loose:Ŗ}{XP:ő->Heap->Prop}{YP:World->Heap->Prop}{d:DefRec}
  (hn:l.most=some n) (hdf:d.params.defaults=[])
  (call:∀(w:World) (Z1 ZT:Shared) (mg mb:ő) (fa:Addr) (o:Obj) (pm cd doc:Value) (a:Addr) (vs:Ő) (ns:Ŕ),
   Ground q loose [] XP w Z1 mg mb ZT.heap->YP w ZT.heap->
   ZT.heap.get? fa=some o->o.data=.func (docDef d.name d.params d.body d.scope pm cd doc)->ZT.heap.CodeRec cd d.name->mg d.name=some (.ref fa)->
   ZT.heap.get? a=some {cls:=.type "list",data:=.seq vs.toArray}->IntsAre vs ns->ns.length<=n->ZT.gens=#[]->
   codeAny (model l.prog w) callerA (.call (.ref fa) ⟨[.ref a],[]⟩) (fun r s'=>r=.ok (.ret<|.bool true)/\OldK ZT.heap s'.heap/\s'.os=ZT.os/\AllBare s'.gens) ZT):
  WalkO q loose XP YP l.row.toRowW d [] (fun f vs=>PySem.call f vs):=by
 intro w Z1 ZT mg mb G Y fa o pm cd doc dV kV ho hd hcd hD hmg hg args vals as hpre hlay hrd hwl hlo;obtain rfl:dV=.none:=Dflts.none hD hdf;obtain rfl:kV=.none:=Dflts.noKw hD;obtain⟨a,vs,ns,rfl,rfl,hobj,hints,hlen⟩:=QV hn hpre hwl;refine(enter_call<|UL (call w Z1 ZT mg mb fa o pm cd doc a vs ns G Y ho (fd_plain hd) hcd hmg hobj hints hlen hg) fun r s' hq=>?_);obtain⟨rfl,h2,h3,h4⟩:=hq;exact(⟨.inl ⟨.bool true,.bool true,[],rfl,fun _=>rfl,.bool true,O6 l _,fun _=>⟨List.Pairwise.nil,fun _ hm=>(nomatch hm)⟩⟩,h2,h3,h4⟩)
end Att
namespace L2
open PySem PySem.Spec PyProof.Rows
theorem zO:∀{vs:Ő} {ns:Ŕ},IntsAre vs ns->Vals (ns.map V.int) vs
 |_,_,.nil=>.nil
 |_,_,.cons n t h=>.cons ⟨t,rfl⟩ (zO h)
def tR(H:Hp):Prop:=∀b,H b=none\/∃o xs,H b=some (.frz o<|.lst xs)
theorem IL{P:Program}{w:World}{K:Frag}{mg mb:ő}{CX:CXT}{k:Nat}{fa a:Addr}{fd:FuncData}{x:Str}{sp:Sp}{ZT:Shared}{vs:Ő}{ns:Ŕ}
  (KX:K.In ZT.heap) (hns:ZT.heap.Ns mainGlobals mg) (hb:ZT.heap.Ns builtinsNs mb) (hbb:∀x:Str,x≠"__name__"->mb x=bootBuiltins x) (hlim:ZT.heap.NoLimit) (hg:ZT.gens=#[])
  (ha:ZT.heap.get? a=some {cls:=.type "list",data:=.seq vs.toArray}) (hi:IntsAre vs ns) (hl:ns.length<=sizeLine) (hr:Room k callerA)
  (F:∀base:Heap,K.In base->base.Ns mainGlobals mg->FnOk P w K mg base CX k fa fd [x] sp) (hbind:∀(s:Shared) (u:Value),BindsTo s fd ⟨[u],[]⟩ [(x,u)])
  (hsp:∀H:Hp,tR H->SqL K H a (ns.map V.int)->sp [.ref a] H (fun v _=>v=.bl true) fun _ _ _=>False)
  (hCX:∀H e s',CX [] H ZT (fun _ _ _=>False) e s'->False):
  codeAny (model P w) callerA (.call (.ref fa) ⟨[.ref a],[]⟩) (fun r s'=>r=.ok (.ret<|.bool true)/\OldK ZT.heap s'.heap/\s'.os=ZT.os/\AllBare s'.gens) ZT:=by
 have rv:=zO hi;have lenV:=hi.length;have core:∀H:Hp,tR H->SqL K H a (ns.map V.int)->HOk P w H ZT.heap->(∀b,H b≠none->b=a)->(H a≠none->K.lookup a=none)->
   codeAny (model P w) callerA (.call (.ref fa) ⟨[.ref a],[]⟩) (fun r s'=>r=.ok (.ret<|.bool true)/\OldK ZT.heap s'.heap/\s'.os=ZT.os/\AllBare s'.gens) ZT:=by
  intro H hO hS hok hA hK;have base_of:∀{b:Addr} {o:Obj},ZT.heap.get? b=some o->H b=none->(lb ZT.heap H).get? b=some o:=fun e n=>GU e n;have noA:∀{b:Addr} {o:Obj} {es:Array DictEntry} {ep:Nat},ZT.heap.get? b=some o->o.data=.dict es ep->H b=none:=fun{b o es ep} e d=>by
   cases q:H b with
   |none=>rfl
   |some u=>
    have e':b=a:=hA b (by rw[q];simp);subst e';rw[ha] at e;cases e;have d':Data.seq vs.toArray _=Data.dict es ep:=d;cases d'
  have nsK:∀{b:Addr} {m:ő},ZT.heap.Ns b m->(lb ZT.heap H).Ns b m:=fun{b m} ⟨o,es,ep,e,d,r⟩=>⟨o,es,ep,base_of e (noA e d),d,r⟩
  have hKb:K.In (lb ZT.heap H):=fun b o e=>base_of (KX b o e) (by
   cases q:H b with
   |none=>rfl
   |some u=>
    have e':b=a:=hA b (by rw[q];simp);subst e';rw[hK (by rw[q];simp)] at e;cases e)
  have hM:Mod K mg (lb ZT.heap H):=⟨hKb,nsK hns,⟨mb,nsK hb,hbb⟩,let ⟨mc,h1,h2⟩:=hlim;⟨mc,nsK h1,h2⟩⟩
  have e0:Env0 P w K mg (lb ZT.heap H) callerA [] ZT H:=⟨rfl,hM,fun b o e=>KA e,Nat.le_of_eq (HL _ _),trivial,fun b hb=>absurd (show b∈([]:ś) from hb) nofun,hok,.of_eq hg⟩
  refine UL ((F _ hKb<|nsK hns).run callerA [] ZT H ⟨[.ref a],[]⟩ [.ref a] [.ref a] _ _ hr e0 (hbind ZT<|.ref a) (.cons rfl .nil) (hsp H hO hS)) fun r s' h=>?_;cases r with
  |error e=>exact(hCX H e s' h).elim
  |ok fl=>
   cases fl with
   |next=>exact False.elim h
   |brk=>exact False.elim h
   |cont=>exact False.elim h
   |ret u=>
    obtain⟨v,H',os,bare,un,hok',r',q⟩:=h;have q':v=.bl true:=q;subst q';obtain rfl:u=Value.bool true:=r';refine⟨rfl,OldK.of_keep fun b o e=>?_,os,bare⟩;cases q:H b with
    |none=>exact un.keep b o e q (by intro z;exact absurd (show b∈([]:ś) from z) nofun) nofun
    |some u=>
     rcases hO b with z|⟨ob,xs,z⟩
     .rw[q] at z;cases z
     .have z2:=un.frzs b ob _ z;obtain⟨e1,_⟩:=hok b _ z;obtain⟨e2,_⟩:=hok' b _ z2;rw[e] at e1;cases e1;exact e2
 cases hk:K.lookup a with
 |some o=>
  have e:=KX a o hk;rw[ha] at e;cases e;refine core (fun _=>none) (fun _=>.inl rfl) (.inr ⟨_,vs.toArray,_,hk,rfl,rfl,rfl,by rw[SS,lenV];exact hl,by simpa using rv⟩) (fun b u z=>by have z':(none:Option HO)=some u:=z;cases z') (fun b z=>absurd rfl z) fun z=>absurd rfl z
 |none=>
  refine core (fun b=>if b=a then some (.frz {cls:=.type "list",data:=.seq vs.toArray}<|.lst<|ns.map V.int) else none) (fun b=>?_) (.inl<|.inr ⟨{cls:=.type "list",data:=.seq vs.toArray},if_pos rfl⟩) (fun b u z=>?_) (fun b z=>?_) fun _=>hk
  .by_cases hb:b=a
   .exact .inr ⟨_,_,if_pos hb⟩
   .exact .inl (if_neg hb)
  .by_cases hb:b=a
   .have z':=(if_pos hb).symm.trans z;cases z';subst hb;exact⟨ha,by rw[SW];exact hl,vs,_,rv,ha⟩
   .have z':=(if_neg hb).symm.trans z;cases z'
  .by_cases hb:b=a
   .exact hb
   .exact absurd (if_neg hb) z
theorem walk_of{l:PySem.W.OpenLaw}{n k:Nat}{q:Program}{loose:Ŗ}{XP:ő->Heap->Prop}{YP:World->Heap->Prop}{d:DefRec}{K:Params->Frag}{CX:World->CXT}{sp:World->Sp}{x:Str}
  (hn:l.most=some n) (hn2:n<=sizeLine) (hdf:d.params.defaults=[]) (hr:Room k callerA)
  (hY:∀(w:World) (h:Heap),YP w h->(K w.params).In h)
  (F:∀(w:World) (mg:ő) (fa:Addr) (h:Heap),(K w.params).In h->h.Ns mainGlobals mg->mg d.name=some (.ref fa)->
   ∃fd:FuncData,(∀(s:Shared) (u:Value),BindsTo s fd ⟨[u],[]⟩ [(x,u)])/\
    ∀base:Heap,(K w.params).In base->base.Ns mainGlobals mg->FnOk l.prog w (K w.params) mg base (CX w) k fa fd [x] (sp w))
  (hsp:∀(w:World) (H:Hp) (a:Addr) (ns:Ŕ),ns.length<=n->tR H->SqL (K w.params) H a (ns.map V.int)->sp w [.ref a] H (fun v _=>v=.bl true) fun _ _ _=>False)
  (hCX:∀(w:World) (H:Hp) (s:Shared) (e:Value) (s':Shared),CX w [] H s (fun _ _ _=>False) e s'->False):
  PySem.W.WalkO q loose XP YP l.row.toRowW d [] (fun f vs=>PySem.call f vs):=by
 refine Att.attach_call hn hdf fun w Z1 ZT mg mb fa o pm cd doc a vs ns G Y ho hd hcd hmg hobj hints hlen hg=>?_;have KX:=hY w _ Y;obtain⟨fd,hb,hF⟩:=F w mg fa _ KX G.T.g hmg;exact(IL KX G.T.g G.T.b G.T.builtins G.T.nolimit hg hobj hints (Tg hlen hn2) hr hF hb (fun H hO hS=>hsp w H a ns hlen hO hS) fun H e s'=>hCX w H ZT e s')
def j1(s:Stmt)(j:Nat):Stmt:=match s with
 | .ClassDef _ _ _ body _ _ _ _ _ _ _=>body.getD j (.Pass ⟨0,0,0,0⟩)
 |_=>.Pass ⟨0,0,0,0⟩
def ku(s:Stmt):Arguments:=match s with
 | .FunctionDef _ a _ _ _ _ _ _ _ _=>a
 |_=>{posonlyargs:=[],args:=[],vararg:=none,kwonlyargs:=[],kw_defaults:=[],kwarg:=none,defaults:=[]}
def jm(s:Stmt):Ũ:=match s with
 | .FunctionDef _ _ b _ _ _ _ _ _ _=>b
 |_=>[]
def fP(s:Stmt):Scope:=match s with
 | .FunctionDef _ _ _ _ _ _ sc _ _ _=>sc
 |_=>{kind:=.function,names:=[],isGenerator:=false,isCoroutine:=false}
abbrev CX0:CXT:=fun _ _ _ _ _ _=>False
abbrev E0:XK:=fun _ _ _=>False
def y1{X:Cx}:mE CX0 X E0:=fun _ _ _ _ _ _ _ h=>h.elim
structure Fun (K:Frag) (x qual:Str) (st:Stmt) (f:Addr) (fd:FuncData):Prop where
 ex:∃(oc:Value) (od:Ŧ) (kV doc pm:Value) (an:Ŧ) (cdv ct:Value) (osl:Array Š),
  fd=fnOf x qual (ku st) (jm st) (fP st) .none kV doc pm an cdv ct/\K.lookup f=some ⟨oc,od,.func fd,osl⟩/\codeIn K cdv qual=true
 kp:keepIn K (.ref f)=true
section
variable {P:Program} {w:World} {K:Frag} {mg:ő} {base:Heap}
theorem Fun.ok{x qual:Str}{st:Stmt}{f:Addr}{fd:FuncData}{N ps:Ŗ}{k:Nat}{sp:Sp}(F:Fun K x qual st f fd)(S:FnScope N ps (fP st))(len:∀vs H Q E,sp vs H Q E->vs.length=ps.length)
  (hbody:∀(cdv:Value) (A:Around) (outer:ş) (s:Shared) (H:Hp) (vs:Ř) (Q:VK) (E:XK),Room k (A.deeper<|envOfC qual (fP st) s.heap.objs.size f cdv)->sp vs H Q E->
   ∃t,PSs (gk CX0 P w K mg base N qual (fP st) f cdv A outer s H E).nox (jm st) t/\t {nx:=fun _ H'=>Q .non H',rt:=Q} (lH N vs) H):FnOk P w K mg base CX0 (k+1) f fd ps sp:=by
 obtain⟨oc,od,kV,doc,pm,an,cdv,ct,osl,rfl,lk,hcd⟩:=F.ex;refine(zR lk hcd S len fun A outer s H vs Q E hr hsp=>?_);obtain⟨t,h,q⟩:=hbody cdv A outer s H vs Q E hr hsp;exact(⟨t,h.nox,q⟩)
theorem Fun.binds{x qual:Str}{st:Stmt}{f:Addr}{fd:FuncData}{ps:Ŗ}(F:Fun K x qual st f fd)
  (h:∀(kV doc pm:Value) (an:Ŧ) (cdv ct:Value) (us:Ő),us.length=ps.length->bindArgs (fnOf x qual (ku st) (jm st) (fP st) .none kV doc pm an cdv ct) ⟨us,[]⟩=pure (ps.zip us)):Binds K fd ps []:=by
 obtain⟨oc,od,kV,doc,pm,an,cdv,ct,osl,rfl,lk,hcd⟩:=F.ex;exact(.all<|h kV doc pm an cdv ct)
theorem B2{x qual:Str}{st:Stmt}{f:Addr}{oc:Value}{od an:Ŧ}{osl:Array Š}{kV doc pm cdv ct:Value}(l:K.lookup f=some ⟨oc,od,.func (fnOf x qual (ku st) (jm st) (fP st) .none kV doc pm an cdv ct),osl⟩)
  (c:codeIn K cdv qual=true) (k:keepIn K (.ref f)=true):Fun K x qual st f (fnOf x qual (ku st) (jm st) (fP st) .none kV doc pm an cdv ct):=⟨⟨oc,od,kV,doc,pm,an,cdv,ct,osl,rfl,l,c⟩,k⟩
end
section
variable {X:Cx}
theorem pv(i:Nat){x:Str}{pos:Pos}(hN:X.N[i]?=some x:=by rfl)(hv:Vis X.env.scope x:=by first|exact Or.inl rfl|exact Or.inr (Or.inl rfl)|exact Or.inr (Or.inr rfl))(hd:(x==("__debug__":Str))=false:=by decide)
  (hcd:(x==("__classdict__":Str))=false:=by decide):PE X (.Name x pos) (AR i):=CC hN hv hd hcd
end
def vV{A Z8:Prop}(h:Z8):if false=true then A else Z8:=by
 rw[if_neg Ui];exact h
def xt{A Z8:Prop}(h:A):if true=true then A else Z8:=by
 rw[if_pos rfl];exact h
def l6{c A Z8:Prop} [Decidable c](h1:c->A)(h2:¬c->Z8):if c then A else Z8:=by
 by_cases h:c
 .rw[if_pos h];exact h1 h
 .rw[if_neg h];exact h2 h
section
variable {κ:Type} [DecidableEq κ]
end
end L2
namespace Tim
open PySem PyProof.Rows
end Tim
namespace L2
open PySem PySem.Spec PyProof.Rows
def fO(X:Cx)(N':Ŗ)(scope:Scope)(cl:Ş)(C:Addr)(Z1:Shared)(ZZ:Hp)(ex:ś):Cx:=
 {X with N:=N',Z1:=Z1,ZZ:=ZZ,env:=compEnvC scope cl C X.env,outer:=X.stack,ex:=ex,fn:=fun x=>scope.names.lookup x==some NameKind.cell,pn:=[]}
theorem wP:∀(names:List (Str×NameKind)) (acc:Ş),(∀y∈names,y.2=.free->∃c,env.cells.lookup y.1=some c)->
  (∀y c,acc.lookup y=some c->env.cells.lookup y=some c)->
  ∃cl,(forIn names acc fun x r=>if(x.2==NameKind.free)=true then do let c ←cellOf env x.1;pure (ForInStep.yield<|(x.1,c)::r) else pure (ForInStep.yield r):Sem Ş)=pure cl/\
   (∀y c,cl.lookup y=some c->env.cells.lookup y=some c)/\(∀y,(y,NameKind.free)∈names->∃c,cl.lookup y=some c)/\∀y c,acc.lookup y=some c->∃c',cl.lookup y=some c'
 | [],acc,_,ha=>⟨acc,by simp,ha,fun _ h=>by simp at h,fun y c h=>⟨c,h⟩⟩
 |(n,k)::r,acc,h,ha=>by
  by_cases hk:k=.free
  .subst hk;obtain⟨c,hc⟩:=h (n,.free) Uy rfl;have e:cellOf env n=pure c:=by unfold cellOf;rw[hc]
   obtain⟨cl,e1,h1,h2,h3⟩:=wP r ((n,c)::acc) (fun y hy=>h y<|Tp _ hy) (fun y d hd=>by
    rw[S7] at hd;split at hd
    .rename_i hb;have:y=n:=by simpa using hb
     subst this;cases hd;exact hc
    .exact ha y d hd)
   refine⟨cl,?_,h1,fun y hy=>?_,fun y d hd=>?_⟩
   .rw[List.forIn_cons,e];simpa using e1
   .rcases S2.mp hy with z|z
    .cases z;exact h3 n c (by simp[S7])
    .exact h2 y z
   .by_cases hy:y=n
    .subst hy;exact h3 y c (by simp[S7])
    .have hb:(y==n)=false:=by simpa using hy
     exact h3 y d (by simp only[S7,hb];exact hd)
  .have hb:(k==NameKind.free)=false:=by simpa using hk
   obtain⟨cl,e1,h1,h2,h3⟩:=wP r acc (fun y hy=>h y<|Tp _ hy) ha;refine(⟨cl,?_,h1,fun y hy=>?_,h3⟩)
   .rw[List.forIn_cons];simpa[hb] using e1
   .rcases S2.mp hy with z|z
    .cases z;exact absurd rfl hk
    .exact h2 y z
theorem rT{scope:Scope}{env:Env}(h:∀y∈scope.names,y.2=.free->∃c,env.cells.lookup y.1=some c):
  ∃cl,closureFor scope env=pure cl/\(∀y c,cl.lookup y=some c->env.cells.lookup y=some c)/\∀y,(y,NameKind.free)∈scope.names->∃c,cl.lookup y=some c:=by
 obtain⟨cl,e,h1,h2,_⟩:=wP (env:=env) scope.names [] h (fun _ _ z=>by simp at z);refine(⟨cl,?_,h1,h2⟩);unfold closureFor;show((forIn scope.names [] fun x r=>if(x.2==NameKind.free)=true then do let c ←cellOf env x.1;pure (ForInStep.yield<|(x.1,c)::r) else pure (ForInStep.yield r):Sem Ş) >>= fun cs=>pure cs)=pure cl;rw[e];rfl
section
variable {prog:Program} {w:World} {A:Around} {R:Result->Shared->Prop} {s:Shared}
theorem G0{elt target iter:Expr}{ifs:Ś}{scope:Scope}{pos:Pos}{it acc:Value}{env:Env}(I:Nat->Shared->Prop)
  (turn:∀n s,I n s->wpAny (model prog w) A (pyNext it) (fun r ZT=>match r with
   |none=>R (.ok .next) ZT
   |some v=>wpAny (model prog w) A (letOwnedTupleGo target it v) (fun _ ZA=>wpAny (model prog w) A (assign target env v) (fun _ ZI=>
     wpAny (model prog w) A (forIn ifs true fun c r=>if r=true then do let ok ←isTrue c env (eval c env);pure (ForInStep.yield ok) else pure (ForInStep.yield r)) (fun ok ZK=>
      if ok=true then wpAny (model prog w) A (eval elt env) (fun x ZG=>
       wpAny (model prog w) A (call (.builtin "list.append") [acc,x]) (fun _ ZE=>∃m,m<n/\I m ZE) (fun _ _=>False) ZG) (fun _ _=>False) ZK
      else ∃m,m<n/\I m ZK) (fun _ _=>False) ZI) (fun _ _=>False) ZA) (fun _ _=>False) ZT) (fun _ _=>False) s)
  (n:Nat) (h:I n s):codeAny (model prog w) A (.compLoop (.ListComp elt [⟨target,iter,ifs,0⟩] scope pos) 0 it acc env) R s:=by
 refine VC rfl I (fun n s hI=>?_) n h;show wpAny _ A ((compTurn (.ListComp elt [⟨target,iter,ifs,0⟩] scope pos) 0 it acc env).onRaise (fun x=>do noteFrame x env;theTreesLotGoes x)) _ _ s;refine VJ ?_;rw[compTurn_list];refine SH (E:=fun _ _=>False) ?_ (fun _ _ x=>x) fun _ _ x=>x.elim;refine SA (T5<|SA<|SH (turn n s hI) (fun r ZT ZQ=>?_) fun _ _ h'=>h');cases r with
 |none=>exact SE ZQ
 |some v=>
  refine SA (SH ZQ (fun _ ZA Zv=>?_) fun _ _ h'=>h');refine SA (SH Zv (fun _ ZI ZB=>SA<|SH ZB (fun ok ZK ZF=>?_) fun _ _ h'=>h') fun _ _ h'=>h');cases ok with
  |false=>exact SE ⟨rfl,ZF⟩
  |true=>
   exact SA (SA<|SH ZF (fun x ZG Zu=>SA<|SH Zu (fun _ ZE Zt=>SE<|SE ⟨rfl,Zt⟩) fun _ _ h'=>h') fun _ _ h'=>h')
end
theorem BC{env:Env}{x:Str}:∀{names:List (Str×NameKind)},names.lookup x=some .free->
  (names.map fun(n,k)=>if(k==NameKind.free&&env.scope.kind==.function&&env.kindOf n==some .cell) then(n,NameKind.cell) else(n,k)).lookup x=some .free\/
  (names.map fun(n,k)=>if(k==NameKind.free&&env.scope.kind==.function&&env.kindOf n==some .cell) then(n,NameKind.cell) else(n,k)).lookup x=some .cell
 | [],h=>by simp at h
 |(n,k)::r,h=>by
  have ih:=@BC env x r;show List.lookup x ((if(k==NameKind.free&&env.scope.kind==.function&&env.kindOf n==some .cell)=true then(n,NameKind.cell) else(n,k))::_)=_\/List.lookup x ((if(k==NameKind.free&&env.scope.kind==.function&&env.kindOf n==some .cell)=true then(n,NameKind.cell) else(n,k))::_)=_;cases hx:x==n with
  |true=>
   simp only[S7,hx] at h;cases h;by_cases hc:(NameKind.free==NameKind.free&&env.scope.kind==.function&&env.kindOf n==some .cell)=true
   .rw[if_pos hc];exact .inr (by simp[S7,hx])
   .rw[if_neg hc];exact .inl (by simp[S7,hx])
  |false=>
   simp only[S7,hx] at h;by_cases hc:(k==NameKind.free&&env.scope.kind==.function&&env.kindOf n==some .cell)=true
   .rw[if_pos hc];simp only[S7,hx];exact ih h
   .rw[if_neg hc];simp only[S7,hx];exact ih h
theorem Cm{env:Env}{x:Str}:∀{names:List (Str×NameKind)},
  ((names.map fun(n,k)=>if(k==NameKind.free&&env.scope.kind==.function&&env.kindOf n==some .cell) then(n,NameKind.cell) else(n,k)).lookup x=some .cell\/
   (names.map fun(n,k)=>if(k==NameKind.free&&env.scope.kind==.function&&env.kindOf n==some .cell) then(n,NameKind.cell) else(n,k)).lookup x=some .free)->names.lookup x=some .free\/names.lookup x=some .cell
 | [],h=>by simp at h
 |(n,k)::r,h=>by
  have ih:=@Cm env x r;have h:List.lookup x ((if(k==NameKind.free&&env.scope.kind==.function&&env.kindOf n==some .cell)=true then(n,NameKind.cell) else(n,k))::(r.map fun(n,k)=>if(k==NameKind.free&&env.scope.kind==.function&&env.kindOf n==some .cell) then(n,NameKind.cell) else(n,k)))=some .cell\/
   List.lookup x ((if(k==NameKind.free&&env.scope.kind==.function&&env.kindOf n==some .cell)=true then(n,NameKind.cell) else(n,k))::(r.map fun(n,k)=>if(k==NameKind.free&&env.scope.kind==.function&&env.kindOf n==some .cell) then(n,NameKind.cell) else(n,k)))=some .free:=h
  cases hx:x==n with
  |true=>
   by_cases hc:(k==NameKind.free&&env.scope.kind==.function&&env.kindOf n==some .cell)=true
   .have:k=.free:=by
     have z:=(Bool.and_eq_true_iff.mp (Bool.and_eq_true_iff.mp hc).1).1;simpa using z
    subst this;exact .inl (by simp[S7,hx])
   .rw[if_neg hc] at h;simp only[S7,hx] at h⊢;exact h.symm
  |false=>
   have:∀p:NameKind,List.lookup x ((if(k==NameKind.free&&env.scope.kind==.function&&env.kindOf n==some .cell)=true then(n,NameKind.cell) else(n,k))::(r.map fun(n,k)=>if(k==NameKind.free&&env.scope.kind==.function&&env.kindOf n==some .cell) then(n,NameKind.cell) else(n,k)))=some p↔(r.map fun(n,k)=>if(k==NameKind.free&&env.scope.kind==.function&&env.kindOf n==some .cell) then(n,NameKind.cell) else(n,k)).lookup x=some p:=fun p=>by
    by_cases hc:(k==NameKind.free&&env.scope.kind==.function&&env.kindOf n==some .cell)=true
    .rw[if_pos hc];simp only[S7,hx]
    .rw[if_neg hc];simp only[S7,hx]
   rw[this .cell,this .free] at h;have:=ih h;simp only[S7,hx];exact this
theorem kJ:∀(names:List (Str×NameKind)) (n:Nat) (acc:Ş),cellsFrom n names acc=cellsFrom n names []++acc
 | [],_,_=>rfl
 |(name,kind)::r,n,acc=>by
  unfold cellsFrom;split
  .rw[kJ r (n+1) ((name,n)::acc),kJ r (n+1) [(name,n)],UC];rfl
  .exact kJ r n acc
theorem vB:∀(names:List (Str×NameKind)) (n:Nat) (acc:Ş),(x,c)∈cellsFrom n names acc->(x,NameKind.cell)∈names\/(x,c)∈acc
 | [],_,_,h=>.inr h
 |(name,kind)::r,n,acc,h=>by
  unfold cellsFrom at h;split at h
  .rename_i hk;have hk':kind=.cell:=by simpa using hk
   rcases vB r (n+1) _ h with z|z
   .exact .inl (Tp _ z)
   .rcases S2.mp z with z|z
    .cases z;rw[hk'];exact .inl Uy
    .exact .inr z
  .rcases vB r n acc h with z|z
   .exact .inl (Tp _ z)
   .exact .inr z
structure CompScope (X:Cx) (N' own:Ŗ) (cap:œ) (scope:Scope):Prop where
 kind:scope.kind=.function
 own1:∀y∈scope.names,y.2=.cell->scope.names.lookup y.1=some .cell
 free1:∀y∈scope.names,y.2=.free->scope.names.lookup y.1=some .free
 names:∀y∈scope.names,y.2=.local->scope.names.lookup y.1=some .local
 free:∀y∈scope.names,y.2=.free->X.env.kindOf y.1=some .cell\/X.env.kindOf y.1=some .free
 eq:N'=own++cap.map (·.1)
 cap:∀p∈cap,X.N[p.2]?=some p.1/\scope.names.lookup p.1=some .free/\(X.env.kindOf p.1=some .cell\/X.env.kindOf p.1=some .free)
def im(own:Ŗ)(cap:œ)(L:St):St:=own.map (fun _=>none)++cap.map fun p=>(L[p.2]?).join
section
variable {X:Cx} {pins:SL} {L:St} {H:Hp} {s:Shared} {N' own:Ŗ} {cap:œ} {scope:Scope} {cl:Ş} {fp:ś}
structure CellsAre (X:Cx) (scope:Scope) (C:Addr) (cl cs:Ş):Prop where
 old:∀y c,cs.lookup y=some c->(cl.lookup y=some c/\scope.names.lookup y≠some .cell)\/(C<c/\scope.names.lookup y=some .cell)
 free:∀y c,cl.lookup y=some c->scope.names.lookup y≠some .cell->cs.lookup y=some c
 has:∀y,scope.names.lookup y=some .cell->∃c,cs.lookup y=some c
 inj:∀x y c,C<c->cs.lookup x=some c->cs.lookup y=some c->x=y
theorem mC{J:Type}{x:Str}:∀{l r:List (Str×J)},(l++r).lookup x=(l.lookup x).or (r.lookup x)
 | [],r=>by simp
 |(k,v)::l,r=>by
  have ih:=@mC J x l r;rw[List.cons_append,S7,S7];cases x==k with
  |true=>rfl
  |false=>exact ih
theorem ve{h:Heap}{C:Addr}(hC:h.objs.size=C+1)(S:CompScope X N' own cap scope)(hcl:∀y c,cl.lookup y=some c->¬C<c):CellsAre X scope C cl (cellsFrom (C+1) scope.names cl):=by
 have ok:=cellsFrom_ok scope.names h (C+1) [] ⟨fun _ _ hm=>(nomatch hm),List.Pairwise.nil⟩ (by rw[hC];exact SF _);rw[hC] at ok;have own:∀y c,(cellsFrom (C+1) scope.names []).lookup y=some c->C<c/\scope.names.lookup y=some .cell:=fun y c e=>by
  have m:=Tn e;refine⟨(ok.empty y c m).2,?_⟩;rcases vB _ _ _ m with z|z
  .exact S.own1 _ z rfl
  .simp at z
 have no:∀y,scope.names.lookup y≠some .cell->(cellsFrom (C+1) scope.names []).lookup y=none:=fun y hy=>by
  cases e:(cellsFrom (C+1) scope.names []).lookup y with
  |none=>rfl
  |some c=>exact absurd (own y c e).2 hy
 have has:∀y,scope.names.lookup y=some .cell->∃c,(cellsFrom (C+1) scope.names []).lookup y=some c:=fun y hy=>TC.mp (UZ scope.names (C+1) []<|.inl hy);refine⟨fun y c e=>?_,fun y c e hy=>?_,fun y hy=>?_,fun x y c hc e1 e2=>?_⟩
 .rw[kJ,mC] at e;cases q:(cellsFrom (C+1) scope.names []).lookup y with
  |none=>
   rw[q] at e;refine .inl ⟨e,fun z=>?_⟩;obtain⟨c',e'⟩:=has y z;rw[q] at e';cases e'
  |some c'=>
   rw[q] at e;have:c'=c:=S5 e;subst this;exact .inr (own y c' q)
 .rw[kJ,mC,no y hy];exact e
 .obtain⟨c,e⟩:=has y hy;exact⟨c,by rw[kJ,mC,e];rfl⟩
 .have xR:∀z,(cellsFrom (C+1) scope.names cl).lookup z=some c->(z,c)∈cellsFrom (C+1) scope.names []:=fun z e=>by
   rw[kJ,mC] at e;cases q:(cellsFrom (C+1) scope.names []).lookup z with
   |none=>rw[q] at e;exact absurd hc (hcl z c e)
   |some c'=>
    rw[q] at e;have:c'=c:=S5 e;subst this;exact Tn q
  exact PySem.name_of_addr ok.apart (xR x e1) (xR y e2)
theorem Ke(I:Inv X pins L H s)(S:CompScope X N' own cap scope)(A:CellsAre X scope s.heap.objs.size cl cs)(c1:∀y c,cl.lookup y=some c->X.env.cells.lookup y=some c)(c2:∀y,(y,NameKind.free)∈scope.names->∃c,cl.lookup y=some c)
  (hf:∀b∈fp,gO X pins H b) (hlt:∀b∈fp,b<s.heap.objs.size):(fO X N' scope cs s.heap.objs.size s H fp).Ok where
 mod:=I.ok.mod
 kind:=S.kind
 glob:=I.ok.glob
 blt:=I.ok.blt
 above:=SF _
 inj:=fun x y c h1 h2=>by
  rcases A.old x c h1 with⟨a1,_⟩|⟨a1,_⟩
  .rcases A.old y c h2 with⟨b1,_⟩|⟨b1,_⟩
   .exact I.ok.inj x y c (c1 x c a1) (c1 y c b1)
   .obtain⟨v,o,ho,_⟩:=I.cell x c (c1 x c a1);exact absurd (U2 b1<|SI ho) (Ti _)
  .exact A.inj x y c a1 h1 h2
 has:=fun x h=>by
  rcases Cm h with z|z
  .obtain⟨c,e⟩:=c2 x (Tn z);exact⟨c,A.free x c e (by rw[z];simp)⟩
  .exact A.has x z
 cab:=fun x c h e=>by
  have h':scope.names.lookup x=some .cell:=by
   have:(scope.names.lookup x==some NameKind.cell)=true:=h;simpa using this
  rcases A.old x c e with⟨_,z⟩|⟨z,_⟩
  .exact absurd h' z
  .exact Vk z
 hd:=I.ok.hd
 frames:=I.ok.frames
 stk:=.inl rfl
 exf:=fun b hb=>⟨SY (hlt b hb),fun x c h=>by
  rcases A.old x c h with⟨z,_⟩|⟨z,_⟩
  .exact(hf b hb).2.2.2.2.1 x c (c1 x c z)
  .exact fun e=>absurd (U2 (e▸z)<|hlt b hb) (Ti _)⟩
 bs:=I.bs
 bsz:=Tg I.ok.bsz I.sz
 noex:=fun b o e hb=>by
  rcases(hf b hb).2.2.2.1 with z|z
  .exact I.ok.noex b o e z
  .exact absurd (SU (SI e)<|Tg I.ok.bsz z) (Ti _)
 exfs:=fun b hb z=>by
  rcases S2.mp (I.stkSub b z) with q|q
  .exact(hf b hb).2.1 q
  .exact(hf b hb).2.2.1 q
 funs:=I.stack
 frf:=I.stkFree
theorem comp_inv(I:Inv X pins L H s)(S:CompScope X N' own cap scope)(A:CellsAre X scope s.heap.objs.size cl cs)(hA:∀y c,cs.lookup y=some c->s.heap.objs.size<c->h'.IsCell c none)
  (c1:∀y c,cl.lookup y=some c->X.env.cells.lookup y=some c) (c2:∀y,(y,NameKind.free)∈scope.names->∃c,cl.lookup y=some c)
  (hf:∀b∈fp,gO X pins H b) (hlt:∀b∈fp,b<s.heap.objs.size) (hk:∀b o,s.heap.get? b=some o->h'.get? b=some o) (hn:h'.Ns s.heap.objs.size m):
  Inv (fO X N' scope cs s.heap.objs.size s H fp) [] (im own cap L) H {s with heap:=h',toks:=t'}:=by
 refine⟨Ke I S A c1 c2 hf hlt,rfl,I.bare,Un.kept hk,⟨m,hn,fun i x v h1 h2 h3=>?_⟩,fun x c e=>?_,I.hok.fresh (SF _),fun x c e=>?_,fun p hp=>absurd hp (by show p∉([]++[]:SL);simp),?_,?_⟩
 .have hi:own.length<=i:=by
   by_cases hi:own.length<=i
   .exact hi
   .unfold im at h2;rw[S1 (by rw[SW];omega),S6] at h2;cases e:own[i]? with
    |none=>rw[e] at h2;cases h2
    |some a=>rw[e] at h2;cases h2
  have h1':(own++cap.map (·.1))[i]?=some x:=by rw[←S.eq];exact h1
  rw[Th hi,S6] at h1';unfold im at h2;rw[Th (by rw[SW];exact hi),SW,S6] at h2;cases e:cap[i - own.length]? with
  |none=>rw[e] at h2;cases h2
  |some p=>
   rw[e] at h1' h2;have ex:p.1=x:=S5 h1';have ev:(L[p.2]?).join=some v:=S5 h2;have ev':L[p.2]?=some (some v):=by
    cases q:L[p.2]? with
    |none=>rw[q] at ev;cases ev
    |some z=>rw[q] at ev;exact congrArg some ev
   obtain⟨k1,k2,k3⟩:=S.cap p (UH e);subst ex;obtain⟨m0,hn0,hl⟩:=I.loc;obtain⟨u,ru,lk⟩:=hl p.2 p.1 v k1 ev' (by rcases k3 with z|z;exact .inr (.inl z);exact .inr (.inr z));refine(⟨u,ru,?_⟩);rcases lk with⟨z,_⟩|⟨_,c,hc,hcell⟩
   .rcases k3 with q|q<;>(rw[z] at q;cases q)
   .refine .inr ⟨?_,c,?_,?_⟩
    .rcases BC (env:=X.env) k2 with q|q
     .exact .inr q
     .exact .inl q
    .obtain⟨c',e'⟩:=c2 p.1 (Tn k2);have:=c1 _ _ e';rw[hc] at this;cases this;exact A.free _ _ e' (by rw[k2];simp)
    .obtain⟨o,ho,hd⟩:=hcell;exact⟨o,hk _ _ ho,hd⟩
 .rcases A.old x c e with⟨z,_⟩|⟨z,_⟩
  .obtain⟨v,o,ho,hd⟩:=I.cell x c (c1 x c z);exact⟨v,o,hk _ _ ho,hd⟩
  .exact⟨none,hA x c e z⟩
 .rcases A.old x c e with⟨z,_⟩|⟨z,_⟩
  .exact I.freeC x c (c1 x c z)
  .exact I.hok.fresh (Vk z)
 .exact I.hok.kept hk
 .show(im own cap L).length=N'.length;rw[S.eq];unfold im;simp
end
def PIf(X:Cx)(ifs:Ś)(t:TT):Prop:=
 ∀(pins:SL) (s:Shared) (L:St) (H:Hp) (Q:Bool->Hp->Prop),Inv X pins L H s->t L H Q->
  wpAny (model X.prog X.w) X.A (forIn ifs true fun c r=>if r=true then do let ok ←isTrue c X.env (eval c X.env);pure (ForInStep.yield ok) else pure (ForInStep.yield r)) (TP X pins L Q) X.xe s
def Eo:TT:=fun _ H Q=>Q true H
def OH{X:Cx}:PIf X [] Eo:=fun _ _ _ H _ I h=>wpAny_tests_nil ⟨H,I,h⟩
def QQ{X:Cx}{c:Expr}{t:TT}(h:PT X c t):PIf X [c] t:=fun pins s L H Q I hw=>wpAny_tests_one (h pins s L H Q I hw)
theorem xI{M:Model}{A:Around}{E:SC}{s:Shared}{scope:Scope}{globals:Addr}{cl:Ş}{qual:Str}{env:Env}{Q:Env->Shared->Prop}
  (hQ:∀h',h'.Ns s.heap.objs.size (fun _=>none)->(∀b o,s.heap.get? b=some o->h'.get? b=some o)->(∀n c,(n,c)∈cellsFrom (s.heap.objs.size+1) scope.names []->h'.IsCell c none)->
   Q (newEnv scope s.heap.objs.size globals (cellsFrom (s.heap.objs.size+1) scope.names cl) qual none .none (some env) builtinsNs) {s with heap:=h'}):
  wpAny M A (newFunctionEnv scope globals cl [] qual none .none<|some env) Q E s:=by
 simp only[newFunctionEnv,Uk,if_true];refine SA (wpAny_alloc ?_);refine SA (wpAny_layCells _ (fun name kind cells=>by cases hkc:kind==NameKind.cell<;>simp[hkc]) _ _ _ _ ?_);have ok:=cellsFrom_ok scope.names (s.heap.push {cls:=.type "dict",data:=.dict #[]}) (s.heap.objs.size+1) [] ⟨fun _ _ hm=>(nomatch hm),List.Pairwise.nil⟩ (by rw[TJ];exact SF _);rw[TJ] at ok;rw[show({s with heap:=s.heap.push {cls:=.type "dict",data:=.dict #[]}}:Shared).heap.objs.size=s.heap.objs.size+1 from TJ ..];rw[List.forIn_nil];refine SA (SE<|SE ?_);exact hQ _ ((Heap.Ns.new s.heap<|.type "dict").keeps (pushCells_keeps _ _)) (fun b o e=>pushCells_keeps _ _ b o<|SD _ e) fun n c hm=>(ok.empty n c hm).1
def qA(Z6:It)(g:TG)(tc:TT)(te:TE)(D:Addr)(ZM:St)(H0:Hp)(Z:Hp->Prop):Prop:=
 ∃W:Nat->Nat->St->Hp->Prop,(∃m,W 0 m ZM<|upd H0 D<|.lst [])/\∀i m L H,W i m L H->
  (Z6.stop i H/\Z H)\/(Z6.go i H/\∃N:St->Hp->Prop,(∀Z0 H',N Z0 H'->∃m',m'<m/\W (i+1) m' Z0 H')/\∀x H',Z6.yld i H x H'->g x L H' fun ZU H2=>tc ZU H2 fun b H3=>
   if b=true then te ZU H3 fun v H4=>∃ys,H4 D=some (.lst ys)/\ys.length<sizeLine/\N ZU (upd H4 D<|.lst<|ys++[v]) else N ZU H3)
section
variable {X:Cx} {pins:SL} {L:St} {N' own:Ŗ} {cap:œ} {scope:Scope} {tg iter elt:Expr} {ifs:Ś} {pos:Pos} {g:TG} {tc:TT} {te:TE}
theorem Ot{Y:Cx}{s:Shared}{ZM:St}{H2:Hp}{it D:Addr}{fp:ś}{tn:Nat->Heap->Prop}{Z6:It}{Z:Hp->Prop}{R:Result->Shared->Prop}
  (hx:∀e s,Y.xe e s->False) (hc:Y.calm=true) (hg:PG Y tg g) (ht:PIf Y ifs tc) (he:PE Y elt te)
  (T:Turn Y.prog Y.w Y.K tg Z6 fp it tn) (J0:Inv Y [] ZM (upd H2 D<|.lst []) s) (st3:tn 0 s.heap) (f3:∀b∈fp,upd H2 D (.lst []) b=none)
  (stat:∀{H':Hp},(∀b∈fp,H' b=none)->∀b∈fp,gO Y [] H' b) (h:qA Z6 g tc te D ZM H2 Z)
  (hR:∀ZP H4 s5,Inv Y [] ZP H4 s5->Z H4->R (.ok .next) s5):
  codeAny (model Y.prog Y.w) Y.A (.compLoop (.ListComp elt [⟨tg,iter,ifs,0⟩] scope pos) 0 (.ref it) (.ref D) Y.env) R s:=by
 obtain⟨W,⟨m0,w0⟩,turn⟩:=h;have noX:∀{J:Type} {t:Sem J} {Q:J->Shared->Prop} {s:Shared},wpAny (model Y.prog Y.w) Y.A t Q Y.xe s->wpAny (model Y.prog Y.w) Y.A t Q (fun _ _=>False) s:=fun q=>SH q (fun _ _ z=>z) fun e s z=>hx e s z;obtain⟨P,hP⟩:∃P:Nat->Shared->Prop,∀n s',P n s'↔∃i Z0 H',Inv Y [] Z0 H' s'/\tn i s'.heap/\(∀b∈fp,H' b=none)/\W i n Z0 H':=⟨_,fun _ _=>SR⟩
 refine G0 P ?_ m0 ((hP _ _).2 ⟨0,_,_,J0,st3,f3,w0⟩);rintro n s4 h4;obtain⟨i,ZP,H4,I4,st4,fr4,w4⟩:=(hP _ _).1 h4;rcases turn i n ZP H4 w4 with⟨stop,qz⟩|⟨go,N,hN,step⟩
 .refine SH (T.done Y rfl rfl rfl hc i [] s4 ZP H4 (fun _ _=>False) I4 (stat fr4) st4 stop) (fun r s5 ⟨hr,I5⟩=>?_) fun _ _ z=>z;subst hr;exact hR ZP H4 s5 I5 qz
 .refine SH (T.item Y rfl rfl rfl hc i [] s4 ZP H4 (fun _ _=>False) I4 (stat fr4) st4 go) (fun r s5 ⟨u,hr,h5⟩=>?_) fun _ _ z=>z;subst hr;refine SH h5 (fun _ s6 hm=>?_) fun _ _ z=>z;obtain⟨x,H6,I6,r6,y6,st6,fr6⟩:=hm;have I6':=I6.pinned (stat fr6) (T.obj _ _ st6);have again:∀{ZS:St} {H7:Hp} {s7:Shared},Inv Y ([]++mq fp s6.heap) ZS H7 s7->N ZS H7->∃m,m<n/\P m s7:=fun{ZS H7 s7} I7 n7=>by
   obtain⟨m',hm,w7⟩:=hN ZS H7 n7;refine(⟨m',hm,(hP _ _).2 ⟨i+1,ZS,H7,I7.unpinned,T.keep _ _ _ st6 fun b hb o e=>(I7.pin (b,o)<|SQ _<|SQ _<|kr hb e).1,fun b hb=>?_,w7⟩⟩);obtain⟨o,e,d⟩:=T.obj _ _ st6 b hb;exact((I7.pin (b,o)<|SQ _<|SQ _<|kr hb e).2.1)
  refine noX (thn (hg _ s6 ZP H6 x u _ I6' r6<|step x H6 y6) fun _ s7 hm=>?_);obtain⟨ZS,H7,I7,q7⟩:=hm;refine(noX<|thn (ht _ s7 ZS H7 _ I7 q7) fun b s8 hm=>?_);obtain⟨H8,I8,q8⟩:=hm;cases b with
  |false=>
   show ∃m,_;exact again I8 q8
  |true=>
   show wpAny _ _ _ _ _ _;refine noX (thn (he _ s8 ZS H8 _ I8 q8) fun y s9 hm=>?_);obtain⟨v,H9,I9,r9,ys,hy,hz,q9⟩:=hm;refine(noX<|thn (vH (X:=Y) _ s9 ZS H9 (.ref D) [v] (.ref D) [y] (fun _ H'=>N ZS H') I9 rfl (.cons r9 .nil) ⟨_,ys,v,rfl,rfl,hy,hz,q9⟩) fun _ s10 hm=>?_);obtain⟨_,H10,I10,_,q10⟩:=hm;exact(again I10 q10)
theorem AF{s2:Shared}{H2:Hp}{it:Addr}{fp:ś}{tn:Nat->Heap->Prop}{Z6:It}{cl:Ş}{Z:Addr->Hp->Prop}{RR:Value->Addr->Result->Shared->Prop}{E:SC}
  (hx:∀e s,X.xe e s->False) (hc:X.calm=true) (S:CompScope X N' own cap scope)
  (hg:∀cl C Z1 ZZ ex,PG (fO X N' scope cl C Z1 ZZ ex) tg g) (ht:∀cl C Z1 ZZ ex,PIf (fO X N' scope cl C Z1 ZZ ex) ifs tc) (he:∀cl C Z1 ZZ ex,PE (fO X N' scope cl C Z1 ZZ ex) elt te)
  (I2:Inv X pins L H2 s2) (T:Turn X.prog X.w X.K tg Z6 fp it tn) (st2:tn 0 s2.heap) (f2:∀b∈fp,gO X pins H2 b)
  (c1:∀y c,cl.lookup y=some c->X.env.cells.lookup y=some c) (c2:∀y,(y,NameKind.free)∈scope.names->∃c,cl.lookup y=some c)
  (h:∀D,H2 D=none->qA Z6 g tc te D (im own cap L) H2 (Z D))
  (hRR:∀D C s' m' H',Inv X pins L H' s'->s'.heap.Ns C m'->gO X pins H' C->Z D H'->RR (.ref D) C (.ok .next) s'):
  wpAny (model X.prog X.w) X.A (newList []) (fun acc ZK=>wpAny (model X.prog X.w) X.A (newFunctionEnv scope X.env.globals cl [] X.env.qual none .none<|some X.env) (fun cenv ZG=>
   codeAny (model X.prog X.w) X.A (.compStart (.ListComp elt [⟨tg,iter,ifs,0⟩] scope pos) 0 (.ref it) acc {cenv with scope:=relabel scope X.env}) (RR acc cenv.locals) ZG) E ZK) E s2:=by
 have hlt:∀b∈fp,b<s2.heap.objs.size:=fun b hb=>by
  obtain⟨o,e,_⟩:=T.obj _ _ st2 b hb;exact(SI e)
 have hD:H2 s2.heap.objs.size=none:=I2.hok.fresh (SF _);refine TF (xI<|fun ZQ Zz Zy Zx=>?_);dsimp only at Zz Zy Zx⊢;have I3:Inv X pins L (upd H2 s2.heap.objs.size<|.lst []) {s2 with heap:=s2.heap.push {cls:=.type "list",dict:=none,data:=.seq ([]:Ő).toArray},toks:=s2.toks}:=
  I2.laid (fun b o e=>SD _ e) (SF _) ⟨TQ _,[],0,.nil,SM _ rfl⟩
 generalize hs3:({s2 with heap:=s2.heap.push {cls:=.type "list",dict:=none,data:=.seq ([]:Ő).toArray},toks:=s2.toks}:Shared)=s3 at I3;have e3:s2.heap.push {cls:=.type "list",dict:=none,data:=.seq ([]:Ő).toArray}=s3.heap:=by rw[←hs3]
 have hsz:s3.heap.objs.size=s2.heap.objs.size+1:=by rw[←e3,TJ]
 rw[e3] at Zz Zy Zx⊢;have hk:=Zy;have hcl:∀y c,cl.lookup y=some c->¬s3.heap.objs.size<c:=fun y c e z=>by
  obtain⟨v,o,ho,_⟩:=I3.cell y c (c1 y c e);exact(Ti _<|U2 z<|SI ho)
 have CA:CellsAre X scope s3.heap.objs.size cl (cellsFrom (s3.heap.objs.size+1) scope.names cl):=ve (h:=s3.heap.push {cls:=.type "dict",data:=.dict #[]}) (by rw[TJ]) S hcl;have hcell:∀y c,(cellsFrom (s3.heap.objs.size+1) scope.names cl).lookup y=some c->s3.heap.objs.size<c->ZQ.IsCell c none:=fun y c e z=>by
  rw[kJ,mC] at e;cases q:(cellsFrom (s3.heap.objs.size+1) scope.names []).lookup y with
  |none=>rw[q] at e;exact absurd z (hcl y c e)
  |some c'=>
   rw[q] at e;have:c'=c:=S5 e;subst this;exact Zx y c' (Tn q)
 generalize hcs:cellsFrom (s3.heap.objs.size+1) scope.names cl=cs at CA hcell⊢;have f3:∀b∈fp,gO X pins (upd H2 s2.heap.objs.size<|.lst []) b:=fun b hb=>⟨by rw[fR (SY<|hlt b hb)];exact(f2 b hb).1,(f2 b hb).2⟩
 have hlt3:∀b∈fp,b<s3.heap.objs.size:=fun b hb=>by rw[hsz];exact UD (hlt b hb)
 have st3:tn 0 ZQ:=T.keep _ _ _ st2 fun b hb o e=>hk b o (by rw[←e3];exact SD _ e);have J0:Inv (fO X N' scope cs s3.heap.objs.size s3 (upd H2 s2.heap.objs.size<|.lst []) fp) [] (im own cap L) (upd H2 s2.heap.objs.size<|.lst []) {s3 with heap:=ZQ,toks:=s2.toks}:=
  comp_inv I3 S CA hcell c1 c2 f3 hlt3 hk Zz
 have stat:∀{pl:SL} {H':Hp},pl=[]->(∀b∈fp,H' b=none)->∀b∈fp,gO (fO X N' scope cs s3.heap.objs.size s3 (upd H2 s2.heap.objs.size<|.lst []) fp) pl H' b:=fun{pl H'} hp hn b hb=>by
  subst hp;refine⟨hn b hb,SY (hlt3 b hb),J0.ok.exfs b hb,.inl hb,fun x c e=>J0.ok.exf b hb |>.2 x c e,fun p hp=>absurd hp (by show p∉([]++[]:SL);simp)⟩
 have loop:codeAny (model X.prog X.w) X.A (.compLoop (.ListComp elt [⟨tg,iter,ifs,0⟩] scope pos) 0 (.ref it) (.ref s2.heap.objs.size)<|compEnvC scope cs s3.heap.objs.size X.env) (RR (.ref s2.heap.objs.size) s3.heap.objs.size)
   {s3 with heap:=ZQ,toks:=s2.toks}:=Ot (Y:=fO X N' scope cs s3.heap.objs.size s3 (upd H2 s2.heap.objs.size<|.lst []) fp) hx hc (hg _ _ _ _ _) (ht _ _ _ _ _) (he _ _ _ _ _) T J0 st3 (fun b hb=>(f3 b hb).1) (stat rfl) (h _ hD) fun ZP H4 s5 I5 qz=>by
  have I6:Inv X pins L H4 s5:=I3.call' (ch:=fp) I5.os I5.base I5.hok I5.bare fun b hb=>⟨(f3 b hb).2.2.2.1,(f3 b hb).2.1,(f3 b hb).2.2.2.2.1,(f3 b hb).2.2.2.2.2⟩
  obtain⟨m',hn',_⟩:=I5.loc;exact(hRR _ _ s5 m' H4 I6 hn' (I3.fpOk (SF _) I5.free) qz)
 have lp:codeAny (model X.prog X.w) X.A (.compStart (.ListComp elt [⟨tg,iter,ifs,0⟩] scope pos) 0 (.ref it) (.ref s2.heap.objs.size)<|compEnvC scope cs s3.heap.objs.size X.env) (RR (.ref s2.heap.objs.size) s3.heap.objs.size)
   {s3 with heap:=ZQ,toks:=s2.toks}:=codeAny_compStart_list loop (T.self _ 0 _ _ _ st3 loop)
 subst hs3;exact lp
end
def Dj(own:Ŗ)(cap:œ)(wi:TI)(g:TG)(tc:TT)(te:TE):TE:=fun L H Q=>wi L H fun Z6 H1=>∀D,H1 D=none->qA Z6 g tc te D (im own cap L) H1 (Q<|.ref D)
section
variable {X:Cx} {N' own:Ŗ} {cap:œ} {scope:Scope} {tg iter elt:Expr} {ifs:Ś} {pos:Pos} {wi:TI} {g:TG} {tc:TT} {te:TE}
theorem Inv.letgo(I:Inv X pins L H s)(f:gO X pins H C)(hs:Heap.SameBut C s.heap h'):Inv X pins L H {s with heap:=h'}:=
 I.turned (t':=s.toks) (it:=C) (fun b o hb e=>(hs.2 b hb).trans e) f.1 f.2.1 f.2.2.2.1 f.2.2.2.2.1 f.2.2.2.2.2
theorem MF(S:CompScope X N' own cap scope)(hi:PI X tg iter wi)
  (hg:∀cl C Z1 ZZ ex,PG (fO X N' scope cl C Z1 ZZ ex) tg g) (ht:∀cl C Z1 ZZ ex,PIf (fO X N' scope cl C Z1 ZZ ex) ifs tc) (he:∀cl C Z1 ZZ ex,PE (fO X N' scope cl C Z1 ZZ ex) elt te)
  (hx:∀e s,X.xe e s->False:=by exact fun _ _ z=>z) (hc:X.calm=true:=by rfl) (hs:∀x,foldedSetIterable iter X.env x=pure x:=by intro _;rfl):
  PE X (.ListComp elt [⟨tg,iter,ifs,0⟩] scope pos) (Dj own cap wi g tc te):=by
 intro pins s L H Q I h;rw[VP];obtain⟨cl,hcl,c1,c2⟩:=rT (scope:=scope) (env:=X.env) fun y hy hk=>I.ok.has y.1 (S.free y hy hk);refine(T6 (use:=none) rfl hs hcl S.kind S.names (thn (hi pins s L H _ I h) fun v s1 h1=>thn h1 fun itv s2 h2=>?_));obtain⟨it,fp,tn,Z6,H2,e,I2,T,st2,f2,q⟩:=h2;subst e;refine(AF (RR:=fun acc C=>compPost (model X.prog X.w) X.A X.xe none (EP X pins L Q) acc C) (Z:=fun D=>Q<|.ref D) hx hc S hg ht he I2 T st2 f2 c1 c2 q ?_);intro D C s' m' H' I' hn' f' z;exact⟨m',hn',fun h'' hs''=>⟨.ref D,H',I'.letgo f' hs'',rfl,z⟩⟩
end
section
variable {X:Cx} {pins:SL} {L:St} {H:Hp} {s:Shared} {h':Heap} {ch:ś}
theorem Inv.turns(I:Inv X pins L H s)(hf:∀b∈ch,gO X pins H b)(k:∀b o,b∉ch->s.heap.get? b=some o->h'.get? b=some o):Inv X pins L H {s with heap:=h',toks:=t'}:=by
 have nit:∀b u,H b=some u->b∉ch:=fun b u e z=>by rw[(hf b z).1] at e;cases e
 refine I.step (g':=s.gens) (d':=s.drawn) (ch:=ch) (fun b hb=>?_) (fun b o _ _ hc e _=>k b o hc e) (fun b o _ _ hc e _=>⟨o.slots,k b o hc e⟩) (fun _ _ _ _ n=>n)
  (fun b o hc e=>⟨o,k b o hc e⟩) (fun _ _ e=>e) (fun _ _ _ e=>e) (fun b ps e=>⟨#[],by rw[e];simp⟩) (fun m hm=>?_) (fun b u e=>?_) I.bare
 .obtain⟨f0,f1,f2,f3,f4,f5⟩:=hf b hb;exact⟨f3,f1,f4,f5⟩
 .obtain⟨o,es,ep,ho,r⟩:=hm;exact⟨o,es,ep,k _ o (fun z=>(hf _ z).2.1 rfl) ho,r⟩
 .refine(I.hok b u e).stay (fun c v hc q=>k c v ?_ q) (fun _ q=>q) fun _ _ q=>q;rcases hc with z|z
  .rw[z];exact nit b u e
  .exact nit c _ z
theorem Inv.turnLay(I:Inv X pins L H s)(hf:∀b∈ch,gO X pins H b)(k:∀b o,b∉ch->s.heap.get? b=some o->h'.get? b=some o)(hT:s.heap.objs.size<=T)
  (new:ObjOk X.prog X.w (upd H T o) h' T o):Inv X pins L (upd H T o) {s with heap:=h',toks:=t'}:=by
 have nit:∀b u,H b=some u->b∉ch:=fun b u e z=>by rw[(hf b z).1] at e;cases e
 have hn:H T=none:=I.hok.fresh hT;have ne:∀b o,s.heap.get? b=some o->b≠T:=fun b o e=>SY (SU (SI e) hT);refine I.step (g':=s.gens) (d':=s.drawn) (ch:=ch) (fun b hb=>?_) (fun b o _ _ hc e _=>k b o hc e) (fun b o _ _ hc e _=>⟨o.slots,k b o hc e⟩) (fun b o _ e n=>by rw[fR (ne b o e)];exact n)
  (fun b o hc e=>⟨o,k b o hc e⟩) (fun b xs e=>by rw[fR (iA e hn)];exact e) (fun b o u e=>by rw[fR (iA e hn)];exact e) (fun b ps e=>⟨#[],by rw[fR (iA e hn),e];simp⟩) (fun m hm=>?_) (fun b u e=>?_) I.bare
 .obtain⟨f0,f1,f2,f3,f4,f5⟩:=hf b hb;exact⟨f3,f1,f4,f5⟩
 .obtain⟨o,es,ep,ho,r⟩:=hm;exact⟨o,es,ep,k _ o (fun z=>(hf _ z).2.1 rfl) ho,r⟩
 .by_cases hb:b=T
  .subst hb;rw[gH] at e;cases e;exact new
  .rw[fR hb] at e;refine(I.hok b u e).stay (fun c v hc q=>k c v ?_ q) (fun c q=>by rw[fR (iA q hn)];exact q) fun c xs q=>by rw[fR (iA q hn)];exact q
   rcases hc with z|z
   .rw[z];exact nit b u e
   .exact nit c _ z
end
def Ite(K:Frag)(a:Addr):It:=
 ⟨fun i H=>∃xs x,SqL K H a xs/\xs[i]?=some x,fun i H x H'=>∃p v,x=.ref p/\H p=none/\H'=upd H p (.tup [.int (i:Nat),v])/\∀xs,SqL K H a xs->xs[i]?=some v,fun i H=>∃xs,SqL K H a xs/\xs.length<=i⟩
def xJ:2<=sizeLine:=by rw[Ue];decide
theorem MT{P:Program}{w:World}{K:Frag}{elts:Ś}{k:Nat}{pos:Pos}(a e it:Addr)(hne:e≠it):
  Turn P w K (.Tuple elts k pos) (Ite K a) [e,it] e (fun i h=>(∃old,IsEnum h e it i old)/\h.IsListIter it a i) where
 mem:=by simp
 obj:=fun i h st b hb=>by
  obtain⟨⟨old,he⟩,o,e2,c,d⟩:=st;rcases S2.mp hb with rfl|hb
  .exact⟨_,he,fun v z=>by cases z⟩
  .rw[Tu.mp hb];exact⟨o,e2,fun v z=>by rw[d] at z;cases z⟩
 keep:=fun i h h' st kk=>⟨let ⟨old,he⟩:=st.1;⟨old,kk e nofun _ he⟩,st.2.at fun o q=>kk it nofun o q⟩
 item:=by
  intro X hP hw hK hc i pins s L H E I hf st hg;subst hP hw hK;obtain⟨xs,x,hq,hx⟩:=hg;obtain⟨its,rv,p,hz⟩:=I.list hq;obtain⟨u,hu,ru⟩:=rv.get hx;obtain⟨⟨old,he⟩,hit⟩:=st;refine(wpAny_pyNext_enum_item he hit p.isList (x:=u) (by simpa using hu) hne fun h1 ho hit1 hT hsz hk=>?_);refine⟨_,rfl,wpAny_letOwnedTupleGo_enum ho fun h2 he2 hs2=>?_⟩;have hlt:e<s.heap.objs.size:=SI he
  replace hs2:Heap.SameBut e h1 h2:=hs2
  have hT2:h2.get? s.heap.objs.size=some {cls:=.type "tuple",data:=.seq #[.int i s.toks,u]}:=(hs2.2 _<|UK hlt).trans hT;have hn:H s.heap.objs.size=none:=I.hok.fresh (SF _);have I2:Inv X pins L (upd H s.heap.objs.size<|.tup [.int (i:Nat),x]) {s with heap:=h2,toks:=s.toks+1}:=
   I.turnLay (ch:=[e,it]) hf (fun b o hb q=>(hs2.2 b<|fun z=>hb<|by simp[z]).trans (hk b o (fun z=>hb<|by simp[z]) (fun z=>hb<|by simp[z]) q)) (SF _)
    ⟨xJ,[.int i s.toks,u],.cons ⟨_,rfl⟩ (.cons ru .nil),⟨_,hT2,rfl,_,rfl⟩⟩
  have hit2:h2.IsListIter it a (i+1):=hit1.at fun o q=>(hs2.2 it<|Ne.symm hne).trans q;have f1:∀b∈[e,it],(upd H s.heap.objs.size<|.tup [.int (i:Nat),x]) b=none:=fun b hb=>by
   have hlb:b<s.heap.objs.size:=by
    rcases S2.mp hb with rfl|hb
    .exact hlt
    .rw[Tu.mp hb];obtain⟨o,q,_⟩:=hit;exact(SI q)
   rw[fR (SY hlb)];exact(hf b hb).1
  exact⟨.ref s.heap.objs.size,_,I2,rfl,⟨_,x,rfl,hn,rfl,fun ys hy=>by rw[I.list_inj hy hq];exact hx⟩,⟨⟨u,by simpa using he2⟩,hit2⟩,f1⟩
 done:=by
  intro X hP hw hK hc i pins s L H E I hf st hg;subst hP hw hK;obtain⟨xs,hq,hx⟩:=hg;obtain⟨its,rv,p,hz⟩:=I.list hq;obtain⟨⟨old,he⟩,hit⟩:=st;have hl:=rv.length;exact wpAny_pyNext_enum_end (I.ok.hd hc) he hit p.isList (by simp;omega) fun h' eb=>⟨rfl,I.turns (t':=s.toks) (ch:=[e,it]) hf fun b o hb q=>eb b o (fun z=>hb<|by simp[z]) q⟩
 self:=fun _ _ _ _ _ st h=>by
  obtain⟨⟨old,he⟩,_⟩:=st;exact(wpAny_pyIter_enum he h)
def DX(K:Frag)(ta:TA):TI:=fun L H R=>ta L H fun vs H1=>∃a,vs=[.ref a]/\(∃xs,SqL K H1 a xs)/\R (Ite K a) H1
section
variable {X:Cx}
theorem Eg(hg:Gl X "enumerate") (hm:X.mg "enumerate"=none) (ha:PA X [a] ta) (hs:starEach [a] X.env=[(false,eval a X.env)]:=by rfl):
  PI X (.Tuple elts k tpos) (.Call (.Name "enumerate" p) [a] [] pos) (DX X.K ta):=by
 intro pins s L H R I h;refine Call_ (kt I hg hm boot_enumerate<|Tv (thn (ha pos pins s L H _ I h) fun us s1 hm=>?_) hs rfl);obtain⟨vs,H1,I1,r1,q1⟩:=hm;obtain⟨l,e,⟨xs,hq⟩,q⟩:=q1;subst e;obtain⟨u,rfl,ru⟩:=lT r1;cases ru;obtain⟨its,rv,pl,hz⟩:=I1.list hq;refine(call_enumerate_list pl.isList fun h' he hit hsz hk=>wpAny_pyIter_enum he ?_);have I2:Inv X pins L H1 {s1 with heap:=h'}:=I1.kept (t':=s1.toks) hk;refine⟨_,[s1.heap.objs.size+1,s1.heap.objs.size],_,_,H1,rfl,I2,MT l _ _ (Nat.succ_ne_self _),⟨⟨.none,he⟩,hit⟩,fun b hb=>?_,q⟩;have hb':s1.heap.objs.size<=b:=by
  rcases S2.mp hb with rfl|hb
  .exact Nat.le_succ _
  .rw[Tu.mp hb];exact SF _
 exact I1.fpOk hb' (I1.hok.fresh hb')
end
def Itz(K:Frag)(a b:Addr):It:=
 ⟨fun i H=>∃xs ys x y,SqL K H a xs/\SqL K H b ys/\xs[i]?=some x/\ys[i]?=some y,
  fun i H x H'=>∃p v u,x=.ref p/\H p=none/\H'=upd H p (.tup [v,u])/\(∀xs,SqL K H a xs->xs[i]?=some v)/\∀ys,SqL K H b ys->ys[i]?=some u,
  fun i H=>∃xs ys,SqL K H a xs/\SqL K H b ys/\(xs.length<=i\/ys.length<=i)⟩
theorem Sd{P:Program}{w:World}{K:Frag}{elts:Ś}{k:Nat}{pos:Pos}(a b z TI TO i1 i2:Addr)
  (n1:TI≠z) (n2:TO≠z) (n3:i1≠z) (n4:i2≠z) (n5:TI≠TO) (n6:TI≠i1) (n7:TI≠i2) (n8:TO≠i1) (n9:TO≠i2) (n10:i1≠i2):
  Turn P w K (.Tuple elts k pos) (Itz K a b) [z,TI,TO,i1,i2] z (fun i h=>IsZip h z TI TO .none/\IsPair h TI (.ref i1) (.ref i2)/\(∃a b,IsPair h TO a b)/\h.IsListIter i1 a i/\h.IsListIter i2 b i) where
 mem:=by simp
 obj:=fun i h st c hc=>by
  obtain⟨hz,hTI,⟨u,v,hTO⟩,⟨o1,e1,c1,d1⟩,⟨o2,e2,c2,d2⟩⟩:=st;simp only[S2,TN,U3] at hc;rcases hc with rfl|rfl|rfl|rfl|rfl
  .exact⟨_,hz,fun v z=>by cases z⟩
  .exact⟨_,hTI,fun v z=>by cases z⟩
  .exact⟨_,hTO,fun v z=>by cases z⟩
  .exact⟨o1,e1,fun v z=>by rw[d1] at z;cases z⟩
  .exact⟨o2,e2,fun v z=>by rw[d2] at z;cases z⟩
 keep:=fun i h h' st kk=>by
  obtain⟨hz,hTI,⟨u,v,hTO⟩,h1,h2⟩:=st;exact(⟨kk z nofun _ hz,kk TI nofun _ hTI,⟨u,v,kk TO nofun _ hTO⟩,h1.at fun o q=>kk i1 nofun o q,h2.at fun o q=>kk i2 nofun o q⟩)
 item:=by
  intro X hP hw hK hc i pins s L H E I hf st hg;subst hP hw hK;obtain⟨xs,ys,x,y,hq,hq2,hx,hy⟩:=hg;obtain⟨its,rv,p,hz'⟩:=I.list hq;obtain⟨its2,rv2,p2,hz2⟩:=I.list hq2;obtain⟨u,hu,ru⟩:=rv.get hx;obtain⟨u2,hu2,ru2⟩:=rv2.get hy;obtain⟨hz,hTI,⟨c,d,hTO⟩,h1,h2⟩:=id st;have trk:∀{l:Addr} {zs:Ř},SqL X.K H l zs->∀c∈[z,TI,TO,i1,i2],l≠c:=fun{l zs} hl c hcm e=>by
   subst e;obtain⟨jts,_,⟨o,n,eo,co,_,dd⟩,_⟩:=I.list hl;simp only[S2,TN,U3] at hcm;rcases hcm with rfl|rfl|rfl|rfl|rfl
   .rw[hz] at eo;cases eo;exact absurd co (by show ¬(Value.type "zip"=Value.type "list");decide)
   .rw[hTI] at eo;cases eo;exact absurd co (by show ¬(Value.type "tuple"=Value.type "list");decide)
   .rw[hTO] at eo;cases eo;exact absurd co (by show ¬(Value.type "tuple"=Value.type "list");decide)
   .obtain⟨o1,e1,c1,_⟩:=h1;rw[e1] at eo;cases eo;rw[c1] at co;exact absurd co (by decide)
   .obtain⟨o1,e1,c1,_⟩:=h2;rw[e1] at eo;cases eo;rw[c1] at co;exact absurd co (by decide)
  have D:ZipApart z TI TO i1 i2 a b:=by
   constructor<;>first|assumption|(apply Ne.symm;assumption)|exact trk hq _ nofun|exact trk hq2 _ nofun|exact(trk hq _ nofun).symm|exact(trk hq2 _ nofun).symm
  refine wpAny_pyNext_zip_item D hz hTI hTO h1 h2 p.isList p2.isList (x:=u) (y:=u2) (by simpa using hu) (by simpa using hu2) fun h' a1 a2 a3 a4 a5 a6 hk=>?_;refine⟨_,rfl,wpAny_letOwnedTupleGo_zip a1 fun h3 hz3 hs3=>?_⟩
  replace hs3:Heap.SameBut z h' h3:=hs3
  have hlt:z<s.heap.objs.size:=SI hz;have hT2:h3.get? s.heap.objs.size=some {cls:=.type "tuple",data:=.seq #[u,u2]}:=(hs3.2 _<|UK hlt).trans a5;have hn:H s.heap.objs.size=none:=I.hok.fresh (SF _);have I2:Inv X pins L (upd H s.heap.objs.size<|.tup [x,y]) {s with heap:=h3,toks:=s.toks}:=
   I.turnLay (ch:=[z,TI,TO,i1,i2]) hf (fun b o hb q=>(hs3.2 b<|fun e=>hb<|by simp[e]).trans (hk b o (fun e=>hb<|by simp[e]) (fun e=>hb<|by simp[e]) (fun e=>hb<|by simp[e]) (fun e=>hb<|by simp[e]) q)) (SF _)
    ⟨xJ,[u,u2],.cons ru (.cons ru2 .nil),⟨_,hT2,rfl,_,rfl⟩⟩
  have f1:∀b∈[z,TI,TO,i1,i2],(upd H s.heap.objs.size<|.tup [x,y]) b=none:=fun b hb=>by
   have hne:b≠s.heap.objs.size:=by
    rintro rfl;obtain⟨hz,hTI,⟨c,d,hTO⟩,⟨o1,e1,_⟩,⟨o2,e2,_⟩⟩:=st;simp only[S2,TN,U3] at hb;rcases hb with e|e|e|e|e
    .rw[←e] at hz;exact absurd (SI hz) (Ti _)
    .rw[←e] at hTI;exact absurd (SI hTI) (Ti _)
    .rw[←e] at hTO;exact absurd (SI hTO) (Ti _)
    .rw[←e] at e1;exact absurd (SI e1) (Ti _)
    .rw[←e] at e2;exact absurd (SI e2) (Ti _)
   rw[fR hne];exact(hf b hb).1
  refine⟨.ref s.heap.objs.size,_,I2,rfl,⟨_,x,y,rfl,hn,rfl,fun zs hy'=>by rw[I.list_inj hy' hq];exact hx,fun zs hy'=>by rw[I.list_inj hy' hq2];exact hy⟩,⟨hz3,?_,⟨u,u2,?_⟩,?_,?_⟩,f1⟩
  .exact(hs3.2 _ n1).trans (hk _ _ n1 n5 n6 n7 hTI)
  .exact(hs3.2 _ n2).trans a2
  .exact a3.at fun o q=>(hs3.2 _ n3).trans q
  .exact a4.at fun o q=>(hs3.2 _ n4).trans q
 done:=by
  intro X hP hw hK hc i pins s L H E I hf st hg;subst hP hw hK;obtain⟨xs,ys,hq,hq2,hx⟩:=hg;obtain⟨its,rv,p,hz'⟩:=I.list hq;obtain⟨its2,rv2,p2,hz2⟩:=I.list hq2;have l1:=rv.length;have l2:=rv2.length;obtain⟨hz,hTI,⟨c,d,hTO⟩,h1,h2⟩:=id st;have trk:∀{l:Addr} {zs:Ř},SqL X.K H l zs->∀c∈[z,TI,TO,i1,i2],l≠c:=fun{l zs} hl c hcm e=>by
   subst e;obtain⟨jts,_,⟨o,n,eo,co,_,dd⟩,_⟩:=I.list hl;simp only[S2,TN,U3] at hcm;rcases hcm with rfl|rfl|rfl|rfl|rfl
   .rw[hz] at eo;cases eo;exact absurd co (by show ¬(Value.type "zip"=Value.type "list");decide)
   .rw[hTI] at eo;cases eo;exact absurd co (by show ¬(Value.type "tuple"=Value.type "list");decide)
   .rw[hTO] at eo;cases eo;exact absurd co (by show ¬(Value.type "tuple"=Value.type "list");decide)
   .obtain⟨o1,e1,c1,_⟩:=h1;rw[e1] at eo;cases eo;rw[c1] at co;exact absurd co (by decide)
   .obtain⟨o1,e1,c1,_⟩:=h2;rw[e1] at eo;cases eo;rw[c1] at co;exact absurd co (by decide)
  have D:ZipApart z TI TO i1 i2 a b:=by
   constructor<;>first|assumption|(apply Ne.symm;assumption)|exact trk hq _ nofun|exact trk hq2 _ nofun|exact(trk hq _ nofun).symm|exact(trk hq2 _ nofun).symm
  exact wpAny_pyNext_zip_end (I.ok.hd hc) D hz hTI hTO h1 h2 p.isList p2.isList (by rcases hx with q|q;exact .inl (by simp;omega);exact .inr (by simp;omega)) fun h' hk=>
   ⟨rfl,I.turns (t':=s.toks) (ch:=[z,TI,TO,i1,i2]) hf fun b o hb q=>hk b o (fun e=>hb<|by simp[e]) (fun e=>hb<|by simp[e]) (fun e=>hb<|by simp[e]) (fun e=>hb<|by simp[e]) q⟩
 self:=fun _ _ _ _ _ st h=>wpAny_pyIter_zip st.1 h
def nz{n i j:Nat}(h:i≠j):n+i≠n+j:=fun e=>h (Nat.add_left_cancel e)
def Ap(K:Frag)(ta:TA):TI:=fun L H R=>ta L H fun vs H1=>∃a b,vs=[.ref a,.ref b]/\(∃xs,SqL K H1 a xs)/\(∃ys,SqL K H1 b ys)/\R (Itz K a b) H1
section
variable {X:Cx}
theorem G3(hg:Gl X "zip") (hm:X.mg "zip"=none) (ha:PA X [a,b] ta) (hs:starEach [a,b] X.env=[(false,eval a X.env),(false,eval b X.env)]:=by rfl) (hs2:starEach [b] X.env=[(false,eval b X.env)]:=by rfl):
  PI X (.Tuple elts k tpos) (.Call (.Name "zip" p) [a,b] [] pos) (Ap X.K ta):=by
 intro pins s L H R I h;refine Call_ (kt I hg hm boot_zip<|Tv (thn (ha pos pins s L H _ I h) fun us s1 hm=>?_) (by rw[hs,hs2]) (by rw[hs2];rfl));obtain⟨vs,H1,I1,r1,q1⟩:=hm;obtain⟨l,l2,e,⟨xs,hq⟩,⟨ys,hq2⟩,q⟩:=q1;subst e;obtain⟨u,u2,rfl,ru,ru2⟩:=oO r1;cases ru;cases ru2;obtain⟨its,rv,pl,hz⟩:=I1.list hq;obtain⟨its2,rv2,pl2,hz2⟩:=I1.list hq2;refine(call_zip_2 pl.isList pl2.isList fun h' a1 a2 a3 a4 a5 a6 hk=>wpAny_pyIter_zip a1 ?_);have I2:Inv X pins L H1 {s1 with heap:=h'}:=I1.kept (t':=s1.toks) hk;refine⟨_,[s1.heap.objs.size+4,s1.heap.objs.size+2,s1.heap.objs.size+3,s1.heap.objs.size,s1.heap.objs.size+1],_,_,H1,rfl,I2,
  Sd l l2 _ _ _ _ _ (nz<|by decide) (nz<|by decide) (nz (i:=0)<|by decide) (nz<|by decide) (nz<|by decide) (nz (j:=0)<|by decide) (nz<|by decide) (nz (j:=0)<|by decide) (nz<|by decide) (nz (i:=0)<|by decide),⟨a1,a2,⟨_,_,a3⟩,a4,a5⟩,fun b hb=>?_,q⟩
 have hb':s1.heap.objs.size<=b:=by
  simp only[S2,TN,U3] at hb;rcases hb with rfl|rfl|rfl|rfl|rfl
  .exact UN _ _
  .exact UN _ _
  .exact UN _ _
  .exact SF _
  .exact UN _ _
 exact I1.fpOk hb' (I1.hok.fresh hb')
end
def ud:List String:=["int","bool","str","NoneType","list","tuple","dict"]
def clNames:List String:=["int","bool","str","list","tuple","dict"]
def qx(t c:String):Bool:=t==c||(t=="bool"&&c=="int")
def P1{K:Frag}{t c:String}(ht:t∈ud)(hc:c∈clNames):kitOne K (.type t) (.type c)=some (qx t c):=by
 simp only[ud,clNames,S2,TN,U3] at ht hc;rcases ht with rfl|rfl|rfl|rfl|rfl|rfl|rfl<;>rcases hc with rfl|rfl|rfl|rfl|rfl|rfl<;>first|rfl|decide|(with_unfolding_all rfl)
inductive TyN (K:Frag) (H:Hp):V->String->Prop where
 |non:TyN K H .non "NoneType"
 |bl (x:Bool):TyN K H (.bl x) "bool"
 |int (i:Int):TyN K H (.int i) "int"
 |str (x:Str):TyN K H (.str x) "str"
 |lst {a:Addr} {xs:Ř} (e:SqL K H a xs):TyN K H (.ref a) "list"
 |tup {a:Addr} {xs:Ř} (e:SqT K H a xs):TyN K H (.ref a) "tuple"
 |dK {a:Addr} {kvs:List (Key×V)} (e:H a=some (.dK kvs)):TyN K H (.ref a) "dict"
def TyN.mem{K:Frag}{H:Hp}{x:V}{t:String}(h:TyN K H x t):t∈ud:=by cases h<;>simp[ud]
section
variable {X:Cx}
theorem FN:jt X (.builtin "isinstance") (fun xs H Q=>∃(x:V) (t:String) (c:String),xs=[x,.ty c]/\TyN X.K H x t/\clNames.contains c=true/\Q (.bl<|qx t c) H):=by
 intro pins s L H xs us Q I r h;obtain⟨x,t,c,rfl,ty,hc,q⟩:=h;obtain⟨u,w',rfl,rx,rc⟩:=oO r;cases (show w'=Value.type c from rc);have e:=P1 (K:=X.K) ty.mem (by simpa using hc:c∈clNames);have fin:∀tk,EP X pins L Q (.bool<|qx t c) {s with toks:=tk}:=fun tk=>⟨.bl _,H,I.tok _,rfl,q⟩
 cases ty with
 |non=>cases (show u=Value.none from rx);exact Ur PySem.W.kitx_none I.kIn True.intro e (fun z=>nomatch z) fin
 |bl y=>cases (show u=Value.bool y from rx);exact Ur PySem.W.kitx_bool I.kIn True.intro e (fun z=>nomatch z) fin
 |int i=>obtain⟨t,q⟩:=(show ∃t,u=Value.int i t from rx);cases q;exact Ur PySem.W.kitx_int I.kIn True.intro e (fun z=>nomatch z) fin
 |str y=>obtain⟨t,q⟩:=(show ∃t,u=Value.str y t from rx);cases q;exact Ur PySem.W.kitx_str I.kIn True.intro e (fun z=>nomatch z) fin
 | @lst a xs ea=>
  cases (show u=Value.ref a from rx);obtain⟨its,_,⟨o,n,h1,h2,_⟩,_⟩:=I.list ea;exact Ur PySem.W.kitx_list I.kIn ⟨o,h1,h2⟩ e (fun z=>nomatch z) fin
 | @tup a xs ea=>
  cases (show u=Value.ref a from rx);obtain⟨its,_,⟨o,h1,h2,_⟩,_⟩:=I.tuple ea;exact Ur PySem.W.kitx_tuple I.kIn ⟨o,h1,h2⟩ e (fun z=>nomatch z) fin
 | @dK a kvs ea=>
  cases (show u=Value.ref a from rx);obtain⟨_,_,vs,_,p⟩:=(show ObjOk X.prog X.w H s.heap a (.dK kvs) from I.hok a _ ea)
  obtain⟨o,es,ep,h1,h2,_⟩:=p;exact(Ur PySem.W.kitx_dict I.kIn ⟨o,h1,h2.1⟩ e (fun z=>nomatch z) fin)
end
mutual
inductive Dp (K:Frag) (H:Hp):V->PyData->Prop where
 |non:Dp K H .non .none
 |bl (b:Bool):Dp K H (.bl b) (.bool b)
 |int (i:Int):Dp K H (.int i) (.int i)
 |str (x:Str):Dp K H (.str x) (.str x)
 |lst {a:Addr} {xs:Ř} {ds:List PyData}:SqL K H a xs->Dps K H xs ds->Dp K H (.ref a) (.list ds)
 |tup {a:Addr} {xs:Ř} {ds:List PyData}:SqT K H a xs->Dps K H xs ds->Dp K H (.ref a) (.tuple ds)
inductive Dps (K:Frag) (H:Hp):Ř->List PyData->Prop where
 |nil:Dps K H [] []
 |cons {x:V} {d:PyData} {xs:Ř} {ds:List PyData}:Dp K H x d->Dps K H xs ds->Dps K H (x::xs) (d::ds)
end
section
variable {X:Cx} {pins:SL} {L:St} {H:Hp} {s:Shared}
mutual
theorem Dp.reads(I:Inv X pins L H s):∀{v:V} {d:PyData} {u:Value},Dp X.K H v d->RelV v u->∃as,Reads s.heap u d as
 |_,_,_,.non,r=>by cases (show _=Value.none from r);exact⟨_,.none⟩
 |_,_,_,.bl b,r=>by cases (show _=Value.bool b from r);exact⟨_,.bool b⟩
 |_,_,_,.int i,r=>by obtain⟨t,rfl⟩:=r;exact⟨_,.int i t⟩
 |_,_,_,.str x,r=>by obtain⟨t,rfl⟩:=r;exact⟨_,.str x t⟩
 |_,_,_,.lst (a:=a) h hs,r=>by
  cases (show _=Value.ref a from r);obtain⟨its,rv,⟨o,n,h1,h2,_,h4⟩,_⟩:=I.list h;obtain⟨as,hr⟩:=Dps.reads I hs rv;exact⟨_,.list h1 h2 h4<|by simpa using hr⟩
 |_,_,_,.tup (a:=a) h hs,r=>by
  cases (show _=Value.ref a from r);obtain⟨its,rv,⟨o,h1,h2,n,h4⟩,_⟩:=I.tuple h;obtain⟨as,hr⟩:=Dps.reads I hs rv;exact(⟨_,.tuple h1 h2 h4<|by simpa using hr⟩)
theorem Dps.reads(I:Inv X pins L H s):∀{vs:Ř} {ds:List PyData} {us:Ő},Dps X.K H vs ds->Vals vs us->∃as,ReadsAll s.heap us ds as
 |_,_,_,.nil,r=>by cases r;exact⟨_,.nil⟩
 |_,_,_,.cons h hs,r=>by
  cases r with
  |cons r1 r2=>
   obtain⟨as,h1⟩:=Dp.reads I h r1;obtain⟨bs,h2⟩:=Dps.reads I hs r2;exact(⟨_,.cons h1 h2⟩)
end
theorem AO(hu:X.A.units+64<cLine):OpR X (compareOp .Eq) (fun x y H Q=>∃d e,Dp X.K H x d/\Dp X.K H y e/\(d.canLay0&&e.canLay0&&decide (d.depth<=64))=true/\Q (.bl<|PyData.eqv d e) H):=by
 intro pins s L H x y v u Q I rx ry h;obtain⟨d,e,hd,he,hc,q⟩:=h;simp only[Tq,TH] at hc;obtain⟨as,r1⟩:=hd.reads I rx;obtain⟨bs,r2⟩:=he.reads I ry;exact(SeqAt.compareEq_reads r1 r2 hc.1.1 hc.1.2 ⋯ ⟨.bl _,H,I,rfl,q⟩)
theorem DT(hu:X.A.units+64<cLine):OpR X (compareOp .NotEq) (fun x y H Q=>∃d e,Dp X.K H x d/\Dp X.K H y e/\(d.canLay0&&e.canLay0&&decide (d.depth<=64))=true/\Q (.bl<|!PyData.eqv d e) H):=by
 intro pins s L H x y v u Q I rx ry h;obtain⟨d,e,hd,he,hc,q⟩:=h;simp only[Tq,TH] at hc;obtain⟨as,r1⟩:=hd.reads I rx;obtain⟨bs,r2⟩:=he.reads I ry;exact(SeqAt.compareNe_reads r1 r2 hc.1.1 hc.1.2 ⋯ ⟨.bl _,H,I,rfl,q⟩)
end
section
variable {X:Cx}
def Cw:V->Ř->Hp->VK->Prop:=fun x vs H Q=>∃(a:Addr) (kvs:List (Key×V)) (k:Key) (d:V),x=.ref a/\vs=[kV k,d]/\H a=some (.dK kvs)/\kvs.length<sizeLine/\
 (∀v,il kvs k=some v->Q v H)/\(il kvs k=none->Q d (upd H a<|.dK<|gU kvs k d))
theorem EE:MtM X "dict.setdefault" Cw:=by
 intro pins s L H x vs v us Q I rx rv h;obtain⟨a,kvs,k,d,rfl,rfl,e,hl,h1,h2⟩:=h;cases rx;obtain⟨u,w',rfl,ru,rd⟩:=rv.two;obtain⟨z,hd,ws,rel,dd⟩:=mU I.hok e;refine call_meetsIn PySem.F.slot_dict_setdefault dd.typeIs PySem.F.entry_dict_setdefault (PySem.F.args_dict_setdefault_3 _ _ _) (kt_meets_setdefault (iW X.prog X.w) a (qZ ru) hd w') ⟨ws,dd,by rw[←rel.length];exact z,fun y hy=>?_,fun hn h' dd' hs=>?_⟩
 .have q:=rel.val k;rw[hy] at q;cases ev:il kvs k with
  |none=>rw[ev] at q;exact q.elim
  |some v0=>
   rw[ev] at q;exact⟨v0,H,I.tok _,q,h1 v0 ev⟩
 .have q:=rel.val k;rw[hn] at q;cases ev:il kvs k with
  |some v0=>rw[ev] at q;exact q.elim
  |none=>
   have hz:(gU kvs k d).length<=sizeLine:=by have:=uL kvs k d;omega
   have he:∃q,h'.get? a=some q:=let ⟨q,_,_,hq,_⟩:=dd';⟨q,hq⟩
   exact⟨d,_,uM (t':=s.toks+1) I (by rw[e];exact True.intro) hs he (wR hz hd (rel.put k rd) dd'),rd,h2 ev⟩
theorem FW{kvs:List (Key×V)}{ws:List (Key×Value)}(rel:KV kvs ws):Vals (kvs.map (·.2)) (ws.map (·.2)):=by
 induction rel with
 |nil=>exact .nil
 |cons r _ ih=>exact .cons r.2 ih
def vvO(v d:Addr):HO:=.ext fun h=>h.IsValuesView v d
def Bm:V->Ř->Hp->VK->Prop:=fun x vs H Q=>∃(a:Addr) (kvs:List (Key×V)),x=.ref a/\vs=[]/\H a=some (.dK kvs)/\∀v,H v=none->Q (.ref v) (upd H v<|vvO v a)
theorem Ex:MtM X "dict.values" Bm:=by
 intro pins s L H x vs v us Q I rx rv h;obtain⟨a,kvs,rfl,rfl,e,q⟩:=h;cases rx;have:=rv.zero;subst this;obtain⟨z,hd,ws,rel,dd⟩:=mU I.hok e;refine(call_meetsIn PySem.F.slot_dict_values dd.typeIs PySem.F.entry_dict_values (PySem.F.args_dict_values_1 _) (meets_dict_values (iW X.prog X.w) a hd) ⟨⟨ws,dd⟩,?_⟩);have hv:(s.heap.push {cls:=.type "dict_values",data:=.fields #[.ref a]}).IsValuesView s.heap.objs.size a:=⟨_,SM _ rfl,rfl,rfl⟩
 refine⟨.ref s.heap.objs.size,_,I.laid (t':=s.toks) (o:=vvO s.heap.objs.size a) (fun b o q=>SD _ q) (SF _) ?_,rfl,q _<|I.hok.fresh<|SF _⟩;exact⟨hv,⟨_,SM _ rfl⟩,fun h1 h2 p k=>let ⟨o,ho,r⟩:=p;⟨o,k o ho,r⟩⟩
theorem K3:jt X (.type "list") (fun xs H Q=>∃(v a:Addr) (kvs:List (Key×V)),xs=[.ref v]/\H v=some (vvO v a)/\H a=some (.dK kvs)/\X.calm=true/\∀l,H l=none->Q (.ref l) (upd H l (.lst (kvs.map (·.2))))):=by
 intro pins s L H xs us Q I r h;obtain⟨v,a,kvs,rfl,hv,e,hc,q⟩:=h;obtain⟨u,rfl,ru⟩:=lT r;cases ru;obtain⟨z,hd,ws,rel,dd⟩:=mU I.hok e;obtain⟨hvv,_,_⟩:s.heap.IsValuesView v a/\_/\_:=I.hok v _ hv;obtain⟨ep,hat⟩:=dd.dictAt;refine PySem.W.kdl_call (PySem.W.kdl_values (knd:=iW X.prog X.w) (kvs:=ws) (ep:=ep)) (I.ok.hd hc) ⟨hvv,hat⟩ (by rw[←rel.length];exact z) fun h' tk acc' c' hk hD hacc=>?_;have ev:acc'.toList=ws.map (·.2):=PySem.W.kdl_vals_eq acc'.toList (by rw[Ub];exact hacc.1) fun j v ej=>hacc.2 j v (by rw[←Array.getElem?_toList];exact ej);have rv:Vals (kvs.map (·.2)) (ws.map (·.2)):=FW rel;refine⟨.ref s.heap.objs.size,_,I.laid (t':=tk) (o:=.lst (kvs.map (·.2))) hk (SF _) ?_,rfl,q _<|I.hok.fresh<|SF _⟩;refine⟨by rw[SW];exact z,ws.map (·.2),c',rv,?_⟩;rw[←ev];exact hD
end
def Df(P:Program)(w:World)(K:Frag)(mg:ő)(base:Heap)(k:Nat)(x:Str)(ps:Ŗ)(sp:Sp):Prop:=
 ∃f fd,FnOk P w K mg base CX0 k f fd ps sp/\Binds K fd ps []/\keepIn K (.ref f)=true/\mg x=some (.ref f)
section
variable {X:Cx} {k:Nat} {x:Str} {ps:Ŗ} {sp:Sp} {e:Expr} {es:Ś} {t:TA} {p pos:Pos}
theorem CG(D:Df X.prog X.w X.K X.mg X.base k x ps sp)(hr:Room k X.A)(ha:PA X (e::es) t)(hg:Gl X x:=by rfl)(hdb:(x==("__debug__":Str))=false:=by decide)
  (he:starEach (e::es) X.env=(false,eval e X.env)::starEach es X.env:=by rfl) (hpl:(backTo pos<|starEach es X.env).any (·.1)=false:=by rfl):
  PE X (.Call (.Name x p) (e::es) [] pos) (fun L H Q=>t L H fun vs H1=>sp vs H1 Q E0):=by
 obtain⟨f,fd,F,hb,hk,hm⟩:=D;intro pins s L H Q I h;exact FH F hr hg hm hk hb .nil y1 ha hdb he hpl pins s L H Q I (by unfold DN;simpa using h)
end
def But(p:Addr)(H H':Hp):Prop:=∀b o,b≠p->H b=some o->H' b=some o
def kR(h:n<=1000000):n<=sizeLine:=by rw[Ue];omega
def rB(h:n<=1000000):n<sizeLine:=by rw[Ue];omega
def BQ(N:Ŗ)(names:List (Str×NameKind))(own:Ŗ)(cap:œ)(scope:Scope):Bool:=
 (scope.kind==.function)&&scope.names.all (fun y=>(y.2 != .cell||scope.names.lookup y.1==some .cell)&&(y.2 != .local||scope.names.lookup y.1==some .local)&&(y.2 != .free||scope.names.lookup y.1==some .free)&&(y.2 != .free||(names.lookup y.1==some .cell||names.lookup y.1==some .free)))
 &&cap.all fun p=>N[p.2]?==some p.1&&scope.names.lookup p.1==some .free&&(names.lookup p.1==some .cell||names.lookup p.1==some .free)
def iE{X:Cx}{own:Ŗ}{cap:œ}{scope:Scope}(h:BQ X.N X.env.scope.names own cap scope=true):CompScope X (own++cap.map (·.1)) own cap scope:=by
 unfold BQ at h;simp only[Tq,Tf,Bool.or_eq_true,bne_iff_ne,beq_iff_eq] at h;obtain⟨⟨h1,h2⟩,h3⟩:=h;exact(⟨h1,fun y hy hl=>(h2 y hy).1.1.1.resolve_left fun z=>z hl,fun y hy hl=>(h2 y hy).1.2.resolve_left fun z=>z hl,fun y hy hl=>(h2 y hy).1.1.2.resolve_left fun z=>z hl,fun y hy hl=>(h2 y hy).2.resolve_left fun z=>z hl,rfl,fun p hp=>⟨(h3 p hp).1.1,(h3 p hp).1.2,(h3 p hp).2⟩⟩)
section
variable {X:Cx} {a b o:Expr} {ta tb to:TE} {p pos:Pos}
theorem K7(K:Frag)(ml:X.mg "len"=none) (ha:PE X a ta) (hg:Gl X "len":=by rfl) (hs:starEach [a] X.env=[(false,eval a X.env)]:=by rfl) (hK:X.K=K:=by rfl):
  PE X (.Call (.Name "len" p) [a] [] pos) (fun L H Q=>ta L H fun x H1=>∃p ys,[x]=[V.ref p]/\(SqL K H1 p ys\/SqT K H1 p ys)/\Q (.int ys.length) H1):=by
 subst hK;exact mI Ir hg ml PySem.boot_len (gz ha g8 hs) (he:=hs)
theorem Kg(ml:X.mg "min"=none) (ha:PE X a ta) (hb:PE X b tb) (hc:X.calm=true:=by rfl) (hg:Gl X "min":=by rfl) (hs:starEach [a,b] X.env=[(false,eval a X.env),(false,eval b X.env)]:=by rfl) (hs2:starEach [b] X.env=[(false,eval b X.env)]:=by rfl):
  PE X (.Call (.Name "min" p) [a,b] [] pos) (fun L H Q=>ta L H fun x H1=>tb L H1 fun y H2=>∃i j,[x,y]=[.int i,.int j]/\Q (.int<|if j<i then j else i) H2):=by
 exact mI (IA hc) hg ml rfl (gz ha (gz hb g8 hs2)<|by rw[hs,hs2]) (he:=by rw[hs,hs2]) (hpl:=by rw[hs2];rfl)
theorem LP(ml:X.mg "max"=none) (ha:PE X a ta) (hb:PE X b tb) (hc:X.calm=true:=by rfl) (hg:Gl X "max":=by rfl) (hs:starEach [a,b] X.env=[(false,eval a X.env),(false,eval b X.env)]:=by rfl) (hs2:starEach [b] X.env=[(false,eval b X.env)]:=by rfl):
  PE X (.Call (.Name "max" p) [a,b] [] pos) (fun L H Q=>ta L H fun x H1=>tb L H1 fun y H2=>∃i j,[x,y]=[.int i,.int j]/\Q (.int<|if j>i then j else i) H2):=by
 exact mI (Ou hc) hg ml rfl (gz ha (gz hb g8 hs2)<|by rw[hs,hs2]) (he:=by rw[hs,hs2]) (hpl:=by rw[hs2];rfl)
theorem iL(K:Frag)(ha:PE X a ta)(hK:X.K=K:=by rfl):PI X tg a (DG K ta):=by subst hK;exact Cl ha
theorem iT(K:Frag)(ha:PE X a ta)(hK:X.K=K:=by rfl):PI X tg a (A0 K ta):=by subst hK;exact RK ha
theorem iR(mr:X.mg "range"=none) (ha:PE X a ta) (hg:Gl X "range":=by rfl) (hs:starEach [a] X.env=[(false,eval a X.env)]:=by rfl):PI X tg (.Call (.Name "range" p) [a] [] pos) (DY<|iI ta jI):=Ka hg mr (gz ha g8 hs) hs
theorem Kw(K:Frag)(ho:PE X o to)(ha:PE X a ta)(hs:starEach [a] X.env=[(false,eval a X.env)]:=by rfl)
  (hbase:attributeBase o "append" X.env (eval o X.env)=eval o X.env:=by rfl) (hline:(apos.endLine==pos.line)=true:=by rfl) (hK:X.K=K:=by rfl)
  (hfew:((backTo pos<|starEach [a] X.env).all (fun x=>!x.1)&&(backToKw pos<|keywordEach [] X.env).all (fun x=>x.1.isSome)
   &&decide ([a].length+([]:ŝ).length+(if([]:ŝ).isEmpty then 0 else 1)<30))=true:=by rfl):
  PE X (.Call (.Attribute o "append" apos) [a] [] pos) (tBM K "list" Am to<|iI ta jI):=by
 subst hK;exact so UX PySem.F.slot_list_append PySem.F.type_list_append vH ho (gz ha g8 hs) hbase hfew hline hs
end
def Pot(H:Hp)(p:Addr):Prop:=∃a b c:Int,H p=some (.lst [.int a,.int b,.int c])
structure Drawn (p:Addr) (H H':Hp):Prop where
 but:But p H H'
 pot:Pot H' p
def NA{xs:Ř}{r:Int}(h0:0<=r)(h1:r<(xs.length:Int)):atI xs r=some (xs[r.toNat]'⋯):=by
 have hk:r.toNat<xs.length:=by omega
 have:=NJ (xs:=xs) (j:=r.toNat) (v:=xs[r.toNat]) (by simp[hk]);have er:((r.toNat:Nat):Int)=r:=by omega
 rw[er] at this;exact this
section
variable {X:Cx} {a:Expr} {ta:TE} {p pos:Pos}
theorem Fs(K:Frag)(ml:X.mg "isinstance"=none) (ha:PE X a ta) (hb:PE X b tb) (hg:Gl X "isinstance":=by rfl) (hs:starEach [a,b] X.env=[(false,eval a X.env),(false,eval b X.env)]:=by rfl) (hs2:starEach [b] X.env=[(false,eval b X.env)]:=by rfl) (hK:X.K=K:=by rfl):
  PE X (.Call (.Name "isinstance" p) [a,b] [] pos) (fun L H Q=>ta L H fun x H1=>tb L H1 fun y H2=>∃(x':V) (t:String) (c:String),[x,y]=[x',.ty c]/\TyN K H2 x' t/\clNames.contains c=true/\Q (.bl<|qx t c) H2):=by
 subst hK;exact mI FN hg ml rfl (gz ha (gz hb g8 hs2)<|by rw[hs,hs2]) (he:=by rw[hs,hs2]) (hpl:=by rw[hs2];rfl)
theorem gT(K:Frag)(h:PGs X es t)(hc:X.calm=true:=by rfl)(hn:(assignEach es X.env).length=n:=by rfl)(hst:(assignEach es X.env).findIdx? (·.1)=none:=by rfl)(hK:X.K=K:=by rfl):
  PG X (.Tuple es k pos) (z7 K n t):=by subst hK;exact Gc hc h hn hst
theorem iEn(K:Frag)(ml:X.mg "enumerate"=none) (ha:PE X a ta) (hg:Gl X "enumerate":=by rfl) (hs:starEach [a] X.env=[(false,eval a X.env)]:=by rfl) (hK:X.K=K:=by rfl):
  PI X (.Tuple elts k tpos) (.Call (.Name "enumerate" p) [a] [] pos) (DX K<|iI ta jI):=by
 subst hK;exact Eg hg ml (gz ha g8 hs) hs
theorem iZ(K:Frag)(ml:X.mg "zip"=none) (ha:PE X a ta) (hb:PE X b tb) (hg:Gl X "zip":=by rfl) (hs:starEach [a,b] X.env=[(false,eval a X.env),(false,eval b X.env)]:=by rfl) (hs2:starEach [b] X.env=[(false,eval b X.env)]:=by rfl) (hK:X.K=K:=by rfl):
  PI X (.Tuple elts k tpos) (.Call (.Name "zip" p) [a,b] [] pos) (Ap K<|iI ta<|iI tb jI):=by
 subst hK;exact G3 hg ml (gz ha (gz hb g8 hs2)<|by rw[hs,hs2]) hs hs2
end
def xR{xs:Ř}{Pd:V->Prop}{r:Int}(h:∀x∈xs,Pd x)(h0:0<=r)(h1:r<(xs.length:Int)):∃v,atI xs r=some v/\Pd v:=
 ⟨_,NA h0 h1,h _<|TU _⟩
section
variable {X:Cx} {a b o:Expr} {ta tb to:TE} {pos:Pos}
theorem Ie(K:Frag)(ho:PE X o to)(ha:PE X a ta)(hb:PE X b tb)(hs:starEach [a,b] X.env=[(false,eval a X.env),(false,eval b X.env)]:=by rfl)(hs2:starEach [b] X.env=[(false,eval b X.env)]:=by rfl)
  (hbase:attributeBase o "setdefault" X.env (eval o X.env)=eval o X.env:=by rfl) (hline:(apos.endLine==pos.line)=true:=by rfl) (hK:X.K=K:=by rfl)
  (hfew:((backTo pos<|starEach [a,b] X.env).all (fun x=>!x.1)&&(backToKw pos<|keywordEach [] X.env).all (fun x=>x.1.isSome)
   &&decide ([a,b].length+([]:ŝ).length+(if([]:ŝ).isEmpty then 0 else 1)<30))=true:=by rfl):
  PE X (.Call (.Attribute o "setdefault" apos) [a,b] [] pos) (tBM K "dict" Cw to<|iI ta<|iI tb jI):=by
 subst hK;exact so UY PySem.F.slot_dict_setdefault PySem.F.type_dict_setdefault EE ho (gz ha (gz hb g8 hs2)<|by rw[hs,hs2]) hbase hfew hline (by rw[hs,hs2]) (by rw[hs2];rfl)
theorem Pa(K:Frag)(ho:PE X o to)(hbase:attributeBase o "values" X.env (eval o X.env)=eval o X.env:=by rfl) (hline:(apos.endLine==pos.line)=true:=by rfl) (hK:X.K=K:=by rfl):
  PE X (.Call (.Attribute o "values" apos) [] [] pos) (vp K "dict" Bm to):=by
 subst hK;exact Bt UY PySem.F.slot_dict_values PySem.F.type_dict_values Ex ho hbase hline
end
abbrev Cel:=Int×List Int×Addr
def gs(cs:List Cel):List (Int×Ŕ):=cs.map fun c=>(c.1,c.2.1)
section
variable {K:Frag} {H:Hp}
theorem Dps.len:∀{vs:Ř} {ds:List PyData},Dps K H vs ds->vs.length=ds.length
 |_,_,.nil=>rfl
 |_,_,.cons _ hs=>congrArg (·+1) (Dps.len hs)
theorem Dps.get:∀{vs:Ř} {ds:List PyData} {i:Nat} {v:V},Dps K H vs ds->vs[i]?=some v->∃d,ds[i]?=some d/\Dp K H v d
 |_,_,_,_,.nil,h=>by simp at h
 |_,_,0,_,.cons (d:=d) h hs,e=>by
  have:_=_:=S5 e;subst this;exact⟨d,rfl,h⟩
 |_,_,i+1,_,.cons h hs,e=>Dps.get (i:=i) hs e
end
def IsMax(M:Int)(l:Ŕ):Prop:=M∈l/\∀a∈l,a<=M
def IsMax.step{M x:Int}{l:Ŕ}(h:IsMax M l):IsMax (if x>M then x else M) (l++[x]):=by
 obtain⟨h1,h2⟩:=h;refine(⟨?_,fun a ha=>?_⟩)
 .split
  .simp
  .exact UG _ h1
 .rcases Tb.mp ha with z|z
  .have:=h2 a z;split<;>omega
  .have:a=x:=by simpa using z
   subst this;split<;>omega
def Dy(ns:Ŕ)(j:Nat):Š->Prop
 |none=>j=0
 |some v=>∃M t,v=.int M t/\IsMax M (ns.take j)
def zZ:Š->Array Value
 |none=>#[]
 |some v=>#[v,v]
theorem BB:∀{vs:Ő} {ns:Ŕ} {j:Nat} {v:Value},IntsAre vs ns->vs[j]?=some v->∃t,v=.int (ns.getD j 0) t
 |_,_,_,_,.nil,h=>by simp at h
 |_,_,0,_,.cons n t _,h=>⟨t,(S5 h).symm⟩
 |_,_,j+1,_,.cons n t r,h=>by
  obtain⟨t',e⟩:=BB (j:=j) r h;exact(⟨t',by simpa using e⟩)
def JL(a d:Value):argsOk "max" ⟨[a],[("default",d)]⟩:=by unfold argsOk;kernel_rfl
section
variable {prog:Program} {w:World} {A:Around} {R:Result->Shared->Prop} {I l:Addr} {items:Array Value} {ns:Ŕ} {d:Value}
theorem Qc(hh:A.in1.handled=none)(hne:l≠I)(hi:IntsAre items.toList ns)(S:Addr)(hSI:S≠I)(hSl:S≠l):
  ∀(k j:Nat) (s:Shared) (b:Š) (c:Nat),items.size - j=k->j<=items.size->s.heap.IsListIter I l j->s.heap.IsList l items->Dy ns j b->
   s.heap.get? S=some {cls:=.type "list",dict:=none,data:=.seq (zZ b) c,slots:=#[]}->
   (∀v h' tk,((ns=[]/\v=d)\/∃M t,v=.int M t/\IsMax M ns)->(∀x o,x≠I->x≠S->s.heap.get? x=some o->h'.get? x=some o)->R (.ok<|.ret v) {s with heap:=h',toks:=tk})->
   codeAny (model prog w) A (.builtin "max.loop" ⟨[.ref I,.none,.ref S],[("default",d)]⟩) R s:=by
 have hnm:(toString "max"++toString ".loop":String)="max.loop":=by decide
 have hlen:ns.length=items.size:=by have:=hi.length;rw[Ub] at this;omega
 have W:=Walks.list (prog:=prog) (w:=w) hh I l hne items;intro k;induction k with
 |zero=>
  intro j s b c hk hj st1 st2 hb hS hR;have ej:j=items.size:=by omega
  subst ej;refine Ua (F.entry_max_loop) (by
   rw[TV Uw];show wpAny _ A.in1 (seqItems? (.ref S) >>= fun _=>_) _ _ s;refine SA (Vp hS rfl (?_:wpAny _ A.in1 (tryCatch (pyNext<|.ref I) (fun _=>_) >>= fun _=>_) _ _ s));refine SA (VL<|W.done s _ _ ⟨st1,st2⟩ fun h' tk keep=>?_);have kS:=keep S _ (by simpa using hSI) hS;cases b with
   |none=>
    have hb0:items.size=0:=hb;have hn:ns=[]:=T7.mp ⋯;show wpAny _ A.in1 (rule _ >>= fun _=>ret d) _ _ _;exact SA (Vo<|SE<|hR d h' tk (.inl ⟨hn,rfl⟩) fun x o n1 _ e=>keep x o (by simpa using n1) e)
   |some v=>
    obtain⟨M,t,rfl,hM⟩:=hb;have htk:ns.take items.size=ns:=List.take_of_length_le ⋯;rw[htk] at hM;show wpAny _ A.in1 (updateSeq S (fun _=>#[]) >>= fun _=>_) _ _ _;refine SA (VE (hz:=by show 2<=sizeLine;decide) kS rfl (SA<|VM<|SE<|hR _ _ tk (.inr ⟨M,t,rfl,hM⟩) fun x o n1 n2 e=>?_));exact(TX _ _<|Ne.symm n2).trans (keep x o (by simpa using n1) e))
 |succ k ih=>
  intro j s b c hk hj st1 st2 hb hS hR;have hlt:j<items.size:=by omega
  refine Ua (F.entry_max_loop) (by
   rw[TV Uw];show wpAny _ A.in1 (seqItems? (.ref S) >>= fun _=>_) _ _ s;refine SA (Vp hS rfl (?_:wpAny _ A.in1 (tryCatch (pyNext<|.ref I) (fun _=>_) >>= fun _=>_) _ _ s));refine SA (VL<|W.item j s _ _ hlt ⟨st1,st2⟩ fun v h' tk hv st' keep=>?_);have kS:=keep S _ (by simpa using hSI) hS;have hx:∃t,v=.int (ns.getD j 0) t:=by
    exact BB hi (by rw[Array.getElem?_toList];exact hv)
   obtain⟨t,rfl⟩:=hx;have htk:ns.take (j+1)=ns.take j++[ns.getD j 0]:=by
    rw[List.take_add_one,SK,SO ⋯];rfl
   have goOn:∀(b':Š) (h2:Heap) (c':Nat),Dy ns (j+1) b'->h2.get? S=some {cls:=.type "list",dict:=none,data:=.seq (zZ b') c',slots:=#[]}->
     (∀x o,x≠S->h'.get? x=some o->h2.get? x=some o)->codeAny (model prog w) A (.builtin "max.loop" ⟨[.ref I,.none,.ref S],[("default",d)]⟩) R {s with heap:=h2,toks:=tk}:=fun b' h2 c' hb' hS' k2=>by
    refine ih (j+1) _ b' c' ⋯ hlt (st'.1.at fun o e=>k2 I o (Ne.symm hSI) e) (st'.2.at fun o e=>k2 l o (Ne.symm hSl) e) hb' hS' fun v' h3 tk3 hv' k3=>hR v' h3 tk3 hv' fun x o n1 n2 e=>?_;exact k3 x o n1 n2 (k2 x o n2<|keep x o (by simpa using n1) e)
   cases b with
   |none=>
    have hb0:j=0:=hb;subst hb0;show wpAny _ A.in1 (updateSeq S (fun _=>#[Value.int (ns.getD 0 0) t,Value.int (ns.getD 0 0) t]) >>= fun _=>_) _ _ _;refine SA (VE kS rfl ?_);rw[hnm];refine SE ⟨Uv Uw _,goOn (some<|.int (ns.getD 0 0) t) _ _ ⟨_,t,rfl,?_⟩ (UA _ kS rfl) fun x o n e=>(TX _ _<|Ne.symm n).trans e⟩;rw[htk];exact⟨by simp,fun a ha=>by
     have:a=ns.getD 0 0:=by simpa using ha
     omega⟩
   |some vb=>
    obtain⟨M,tb,rfl,hM⟩:=hb;show wpAny _ A.in1 (tryCatch (holding [Value.int (ns.getD j 0) t,Value.int (ns.getD j 0) t]<|richCompare .Gt (.int (ns.getD j 0) t) (.int M tb) >>= fun _=>_) (fun _=>_) >>= fun _=>_) _ _ _;refine SA (VL<|TL<|SA ?_);refine richCompare_gives (op:=.Gt) (VB _ _ t) (VB _ _ tb) F.slot_int_gt F.entry_int_gt (F.args_int_gt_2 _ _) (gives_int_gt _ _ t tb) (fun x=>nomatch x) ?_;refine SA (TL<|Tt<|SA<|VM<|SE ?_);have hst:=hM.step (x:=ns.getD j 0);rw[←htk] at hst;by_cases hgt:ns.getD j 0>M
    .rw[if_pos hgt] at hst;rw[if_pos (S3 hgt)];refine SA (VE (hz:=by show 2<=sizeLine;decide) kS rfl (SA<|VM ?_));rw[hnm];exact SE ⟨Uv Uw _,goOn (some<|.int (ns.getD j 0) t) _ _ ⟨_,t,rfl,hst⟩ (UA _ kS rfl) fun x o n e=>(TX _ _<|Ne.symm n).trans e⟩
    .rw[if_neg hgt] at hst;rw[if_neg (by simpa using hgt)];refine SA (VM ?_);rw[hnm];exact SE ⟨Uv Uw _,goOn (some<|.int M tb) _ _ ⟨_,tb,rfl,hst⟩ kS fun x o _ e=>e⟩)
theorem Jd(hh:A.handled=none)(hl:s.heap.IsList l vs.toArray)(hi:IntsAre vs ns)
  (h:∀v h' tk,((ns=[]/\v=d)\/∃M t,v=.int M t/\IsMax M ns)->(∀b o,s.heap.get? b=some o->h'.get? b=some o)->Q v {s with heap:=h',toks:=tk}):
  wpAny (model prog w) A (call (.builtin "max") [.ref l] [("default",d)]) Q E s:=by
 have hnm:(toString "max"++toString ".loop":String)="max.loop":=by decide
 obtain⟨ol,el,_⟩:=id hl;have llt:l<s.heap.objs.size:=SI el;have body:wpAny (model prog w) A.in1 (Builtin.«max» ⟨[.ref l],[("default",d)]⟩) (fun fin s'=>match fin with
   | .done f=>(match(Except.ok f:Result) with| .ok (.ret v)=>Q v s'| .ok _=>False| .error e=>E e s')
   | .again c'=>c'.quiet=true/\codeAny (model prog w) A c' (fun r s'=>match r with| .ok (.ret v)=>Q v s'| .ok _=>False| .error e=>E e s') s') E s:=by
  show wpAny _ A.in1 (Builtin.Builtins.bindParams "max" ["key","default"] 0 ⟨[],[("default",d)]⟩ >>= fun _=>_) _ _ s;refine SA (VN (show Builtin.Builtins.bindParams "max" ["key","default"] 0 ⟨[],[("default",d)]⟩=pure [none,some d] from by with_unfolding_all rfl)<|SA<|SE ?_);refine SA (Vw hl ?_);refine SA (TF ?_);rw[hnm];refine SE ⟨Uv Uw _,?_⟩;have e1:(s.heap.push {cls:=.type "list_iterator",data:=.fields #[.ref l,.int 0 0]}).objs.size=s.heap.objs.size+1:=TJ ..;refine Qc (I:=s.heap.objs.size) (l:=l) (items:=vs.toArray) (ns:=ns) (d:=d) hh (SY llt) (by simpa using hi) _ (by rw[e1];exact UK (Va _)) (by rw[e1];exact UK (UD llt)) _ 0 _ none 0 rfl (TQ _)
   ⟨_,SD _ (SM _ rfl),rfl,rfl⟩ ((hl.push _).push _) rfl (SM _ rfl) fun v h' tk hv kp=>?_
  refine h v h' tk hv fun b o e=>kp b o (SY<|SI e) (by rw[e1];exact SY (UD<|SI e)) (SD _<|SD _ e)
 refine Vq (Vd F.plain_max F.entry_max ?_);simp only[checkBuiltinCall,F.kind_max];have ha:=JL (.ref l) d;cases hsig:Manifest.signature? "max" with
 |none=>exact SE body
 |some sig=>
  simp only[argsOk,hsig] at ha;have h2:Bind.checkArgs "max" sig ⟨[.ref l],[("default",d)]⟩=pure ():=ha;show wpAny _ A.in1 (Bind.checkArgs "max" sig ⟨[.ref l],[("default",d)]⟩) _ _ s;rw[h2];exact SE body
end
section
variable {X:Cx} {a b:Expr} {ta tb:TE} {p pos kp:Pos}
theorem FO(K:Frag)(mm:X.mg "max"=none) (ha:PE X a ta) (hb:PE X b tb) (hc:X.calm=true:=by rfl) (hg:Gl X "max":=by rfl) (hs:starEach [a] X.env=[(false,eval a X.env)]:=by rfl) (hK:X.K=K:=by rfl)
  (hall:(backToKw pos<|keywordEach [⟨some "default",b,kp⟩] X.env).all (·.1.isSome)=true:=by rfl) (hks:(backToKw pos<|keywordEach [⟨some "default",b,kp⟩] X.env).filterMap (·.1)=([Str.ofString "default"]:Ŗ):=by rfl)
  (hno:(backToKw pos<|keywordEach [⟨some "default",b,kp⟩] X.env).any (·.1.isNone)=false:=by rfl):
  PE X (.Call (.Name "max" p) [a] [⟨some "default",b,kp⟩] pos) (fun L H Q=>ta L H fun x H1=>tb L H1 fun y H2=>∃(q:Addr) (ns:Ŕ) (j:Int),x=.ref q/\y=.int j/\SqL K H2 q (ns.map V.int)/\(ns=[]->Q (.int j) H2)/\∀M,IsMax M ns->Q (.int M) H2):=by
 subst hK;intro pins s L H Q I h;have hb1:backTo pos (starEach [a] X.env)=[(false,eval a X.env)]:=by rw[hs];rfl
 refine Uj (kt I hg mm (u:=.builtin "max") rfl (callWith_builtin_kwB (by rw[hb1];rfl) hno ?_));rw[hb1];refine evalArgs_kwB hall (Calls.spliced_cons<|thn (ha pins s L H _ I h) fun u s1 ⟨x,H1,I1,r1,q1⟩=>Calls.spliced_nil ?_);refine kws_cons (thn (hb pins s1 L H1 _ I1 q1) fun u2 s2 ⟨y,H2,I2,r2,q2⟩=>kws_nil ?_);obtain⟨q,ns,j,rfl,rfl,hq,hz,hm⟩:=q2;cases r1;obtain⟨t,rfl⟩:=r2;obtain⟨its,rv,pl,_⟩:=I2.list hq;rw[hks];refine Jd (d:=.int j t) (I2.ok.hd hc) pl.isList (IU rv) fun v h' tk hv kp'=>?_;rcases hv with⟨e,rfl⟩|⟨M,t',rfl,hM⟩
 .exact⟨.int j,H2,I2.kept kp',⟨_,rfl⟩,hz e⟩
 .exact⟨.int M,H2,I2.kept kp',⟨_,rfl⟩,hm M hM⟩
end
section
variable {X:Cx} {a b:Expr} {ta tb:TE} {p pos:Pos}
theorem Os:jt X (.type "int") (fun xs H Q=>∃k,xs=[V.bl k]/\Q (.int<|if k then 1 else 0) H):=fun pins s L H xs us Q I r h=>HH pins s L H xs us Q I r (.inr h)
theorem O5(ml:X.mg "int"=none) (ha:PE X a ta) (hg:Gl X "int":=by rfl) (hs:starEach [a] X.env=[(false,eval a X.env)]:=by rfl):
  PE X (.Call (.Name "int" p) [a] [] pos) (fun L H Q=>ta L H fun x H1=>∃k,[x]=[V.bl k]/\Q (.int<|if k then 1 else 0) H1):=
 sO Os hg ml rfl (gz ha g8 hs) (he:=hs)
theorem iR2(mr:X.mg "range"=none) (ha:PE X a ta) (hb:PE X b tb) (hg:Gl X "range":=by rfl) (hs:starEach [a,b] X.env=[(false,eval a X.env),(false,eval b X.env)]:=by rfl) (hs2:starEach [b] X.env=[(false,eval b X.env)]:=by rfl):
  PI X tg (.Call (.Name "range" p) [a,b] [] pos) (CQ<|iI ta<|iI tb jI):=Q4 hg mr (gz ha (gz hb g8 hs2)<|by rw[hs,hs2]) hs hs2
end
abbrev Ask:=Nat×Nat×Bool
def lX(ks:Ŕ)(i j:Nat):Bool:=decide (ks.getD i 0=ks.getD j 0)
def mZ(ks:Ŕ)(t:Nat):Ŝ->Nat->List Ask->List Ask×Ū
 | [],left,a=>(a,if 0<left then some t else none)
 | [x],left,a=>if lX ks x t then((if x=t then a else a++[(t,x,lX ks x t)]),some t)
  else if left=0 then((if x=t then a else a++[(t,x,lX ks x t)]),none)
  else((if x=t then a else a++[(t,x,lX ks x t)]),if 0<left - 1 then some t else none)
 |x::y::r,left,a=>if lX ks x t then mZ ks t r left (if x=t then a else a++[(t,x,lX ks x t)])
  else if left=0 then((if x=t then a else a++[(t,x,lX ks x t)]),none)
  else mZ ks t (y::r) (left - 1) (if x=t then a else a++[(t,x,lX ks x t)])
section
variable {X:Cx}
theorem N4:OpR X (binaryOp .FloorDiv) (rI (fun _ j=>0<j/\j<2^200) fun i j=>.int<|i/j):=opI fun i j _ _ _ _ _ hc q=>by
 obtain⟨h1,h2⟩:=hc;refine floordiv_int ⋯ (by rw[Int.fdiv_eq_ediv_of_nonneg i ⋯];exact q) (.inl<|PyProof.noPylong_of_log2 ?_);have h3:j.natAbs≠0:=by omega
 have h4:j.natAbs<2^200:=by
  have:((j.natAbs:Nat):Int)=j:=by omega
  have h5:((j.natAbs:Nat):Int)<((2^200:Nat):Int):=by rw[this];exact_mod_cast h2
  omega
 have:=(Nat.log2_lt h3).mpr h4;omega
end
inductive Tr where
 |none
 |one (i:Int)
 |ask (i j:Int) (a u:Tr)
theorem Ea:∀{bs:ũ} {us:Ő},Vals (bs.map V.bl) us->us=bs.map Value.bool
 | [],_,h=>by cases h;rfl
 |b::r,_,h=>by
  cases h with
  |cons h1 h2=>
   cases (show _=Value.bool b from h1);rw[Ea h2];rfl
section
variable {X:Cx} {a b o:Expr} {ta:TE} {p pos:Pos}
theorem B8(K:Frag)(mm:X.mg "all"=none) (ha:PE X a ta) (hc:X.calm=true:=by rfl) (hg:Gl X "all":=by rfl) (hs:starEach [a] X.env=[(false,eval a X.env)]:=by rfl) (hK:X.K=K:=by rfl):
  PE X (.Call (.Name "all" p) [a] [] pos) (fun L H Q=>ta L H fun x H1=>∃(q:Addr) (bs:ũ),[x]=[.ref q]/\SqL K H1 q (bs.map V.bl)/\Q (.bl<|bs.all id) H1):=by
 subst hK;have rule:jt X (.builtin "all") (fun xs H Q=>∃(q:Addr) (bs:ũ),xs=[.ref q]/\SqL X.K H q (bs.map V.bl)/\Q (.bl<|bs.all id) H):=by
  intro pins s L H xs us Q I r h;obtain⟨q,bs,rfl,hq,k⟩:=h;obtain⟨u,rfl,ru⟩:=lT r;cases ru;obtain⟨its,rv,pl,hz⟩:=I.list hq;have ei:its=bs.map Value.bool:=Ea rv;subst ei;obtain⟨ol,el,_⟩:=id pl.isList;have qlt:q<s.heap.objs.size:=SI el;refine(call_all_walk<|Vw pl.isList ⟨_,_,_,_,_,_,fun i=>bs.getD i false,rfl,Walks.list (A:=X.A.in1) (I.ok.hd hc) _ q (SY qlt) (bs.map Value.bool).toArray,⟨⟨_,SM _ rfl,rfl,rfl⟩,pl.isList.push _⟩,?_,fun h' tk keep=>?_⟩)
  .intro i v s' Q' E' hv hQ;have hv':(bs.map Value.bool)[i]?=some v:=by simpa using hv
   rw[S6] at hv';cases eb:bs[i]? with
   |none=>rw[eb] at hv';cases hv'
   |some b=>
    rw[eb] at hv';have:v=.bool b:=(S5 hv').symm;subst this;have e2:bs.getD i false=b:=by rw[SK,eb];rfl
    simp only[e2] at hQ;exact Tt hQ
  .have ea:(List.range (bs.map Value.bool).toArray.size).all (fun i=>bs.getD i false)=bs.all id:=by
    rw[T1,Tf,Tf];constructor
    .intro hh b hb;obtain⟨i,hi⟩:=TK hb;have:=hh i (by simp;exact(SG.mp hi).1);rw[SK,hi] at this;exact this
    .intro hh i hi;have hi':i<bs.length:=by simpa using hi
     rw[SK,SO hi'];exact hh _ (TU hi')
   rw[ea];have kp:∀b o,s.heap.get? b=some o->h'.get? b=some o:=fun b o e=>keep b o (fun hm=>absurd (Tu.mp hm)<|SY<|SI e) (SD _ e);exact⟨.bl _,H,I.kept kp,rfl,k⟩
 exact mI rule hg mm rfl (gz ha g8 hs) (he:=hs)
end
def Rv(o:Ŕ)(k:Int):Nat:=if k∈o then o.idxOf k+1 else o.length
def La(o:Ŕ)(fs:Ŝ)(n:Nat)(k:Int)(m:Nat):List Ask:=(List.range m).map fun at_=>(fs.getD at_ 0,n,decide (o.getD at_ 0=k))
def ob(ks:Ŕ):Nat->List Int×List Nat×List Ask
 |0=>([],[],[])
 |n+1=>(if ks.getD n 0∈(ob ks n).1 then(ob ks n).1 else(ob ks n).1++[ks.getD n 0],
   if ks.getD n 0∈(ob ks n).1 then(ob ks n).2.1 else(ob ks n).2.1++[n],
   (ob ks n).2.2++La (ob ks n).1 (ob ks n).2.1 n (ks.getD n 0) (Rv (ob ks n).1 (ks.getD n 0)))
section
variable {prog:Program} {w:World} {A:Around} {R:Result->Shared->Prop} {s:Shared}
theorem Iz{kx vx target iter:Expr}{ifs:Ś}{scope:Scope}{pos:Pos}{it:Value}{D:Addr}{env:Env}(I:Nat->Shared->Prop)
  (turn:∀n s,I n s->wpAny (model prog w) A (pyNext it) (fun r ZT=>match r with
   |none=>R (.ok .next) ZT
   |some v=>wpAny (model prog w) A (letOwnedTupleGo target it v) (fun _ ZA=>wpAny (model prog w) A (assign target env v) (fun _ ZI=>
     wpAny (model prog w) A (forIn ifs true fun c r=>if r=true then do let ok ←isTrue c env (eval c env);pure (ForInStep.yield ok) else pure (ForInStep.yield r)) (fun ok ZK=>
      if ok=true then wpAny (model prog w) A (eval kx env) (fun kv ZG=>wpAny (model prog w) A (eval vx env) (fun vv ZE=>
       wpAny (model prog w) A (dictSet D kv vv) (fun _ Zm=>∃m,m<n/\I m Zm) (fun _ _=>False) ZE) (fun _ _=>False) ZG) (fun _ _=>False) ZK
      else ∃m,m<n/\I m ZK) (fun _ _=>False) ZI) (fun _ _=>False) ZA) (fun _ _=>False) ZT) (fun _ _=>False) s)
  (n:Nat) (h:I n s):codeAny (model prog w) A (.compLoop (.DictComp kx vx [⟨target,iter,ifs,0⟩] scope pos) 0 it (.ref D) env) R s:=by
 refine VC rfl I (fun n s hI=>?_) n h;show wpAny _ A ((compTurn (.DictComp kx vx [⟨target,iter,ifs,0⟩] scope pos) 0 it (.ref D) env).onRaise (fun x=>do noteFrame x env;theTreesLotGoes x)) _ _ s;refine VJ ?_;rw[compTurn_dict];refine SH (E:=fun _ _=>False) ?_ (fun _ _ x=>x) fun _ _ x=>x.elim;refine SA (T5<|SA<|SH (turn n s hI) (fun r ZT ZQ=>?_) fun _ _ h'=>h');cases r with
 |none=>exact SE ZQ
 |some v=>
  refine SA (SH ZQ (fun _ ZA Zv=>?_) fun _ _ h'=>h');refine SA (SH Zv (fun _ ZI ZB=>SA<|SH ZB (fun ok ZK ZF=>?_) fun _ _ h'=>h') fun _ _ h'=>h');cases ok with
  |false=>exact SE ⟨rfl,ZF⟩
  |true=>
   exact SA (SA<|SH ZF (fun kv ZG Zu=>SA<|TL<|SH Zu (fun vv ZE Zt=>SA<|T5<|TL<|SH Zt (fun _ Zm Zj=>SE ⟨rfl,Zj⟩) fun _ _ h'=>h') fun _ _ h'=>h') fun _ _ h'=>h')
end
def uP(Z6:It)(g:TG)(tc:TT)(tk tv:TE)(D:Addr)(ZM:St)(H0:Hp)(Z:Hp->Prop):Prop:=
 ∃W:Nat->Nat->St->Hp->Prop,(∃m,W 0 m ZM<|upd H0 D<|.dK [])/\∀i m L H,W i m L H->
  (Z6.stop i H/\Z H)\/(Z6.go i H/\∃N:St->Hp->Prop,(∀Z0 H',N Z0 H'->∃m',m'<m/\W (i+1) m' Z0 H')/\∀x H',Z6.yld i H x H'->g x L H' fun ZU H2=>tc ZU H2 fun b H3=>
   if b=true then tk ZU H3 fun y H4=>tv ZU H4 fun v H5=>∃kvs k,H5 D=some (.dK kvs)/\kvs.length<sizeLine/\y=kV k/\N ZU (upd H5 D<|.dK<|gU kvs k v) else N ZU H3)
section
variable {X:Cx} {pins:SL} {L:St} {N' own:Ŗ} {cap:œ} {scope:Scope} {tg iter kx vx:Expr} {ifs:Ś} {pos:Pos} {g:TG} {tc:TT} {tk tv:TE} {wi:TI}
theorem Fa{Y:Cx}{s:Shared}{ZM:St}{H2:Hp}{it D:Addr}{fp:ś}{tn:Nat->Heap->Prop}{Z6:It}{Z:Hp->Prop}{R:Result->Shared->Prop}
  (hx:∀e s,Y.xe e s->False) (hc:Y.calm=true) (hg:PG Y tg g) (ht:PIf Y ifs tc) (hk0:PE Y kx tk) (hv0:PE Y vx tv)
  (T:Turn Y.prog Y.w Y.K tg Z6 fp it tn) (J0:Inv Y [] ZM (upd H2 D<|.dK []) s) (st3:tn 0 s.heap) (f3:∀b∈fp,upd H2 D (.dK []) b=none)
  (stat:∀{H':Hp},(∀b∈fp,H' b=none)->∀b∈fp,gO Y [] H' b) (h:uP Z6 g tc tk tv D ZM H2 Z)
  (hR:∀ZP H4 s5,Inv Y [] ZP H4 s5->Z H4->R (.ok .next) s5):
  codeAny (model Y.prog Y.w) Y.A (.compLoop (.DictComp kx vx [⟨tg,iter,ifs,0⟩] scope pos) 0 (.ref it) (.ref D) Y.env) R s:=by
 obtain⟨W,⟨m0,w0⟩,turn⟩:=h;have noX:∀{J:Type} {t:Sem J} {Q:J->Shared->Prop} {s:Shared},wpAny (model Y.prog Y.w) Y.A t Q Y.xe s->wpAny (model Y.prog Y.w) Y.A t Q (fun _ _=>False) s:=fun q=>SH q (fun _ _ z=>z) fun e s z=>hx e s z;obtain⟨P,hP⟩:∃P:Nat->Shared->Prop,∀n s',P n s'↔∃i Z0 H',Inv Y [] Z0 H' s'/\tn i s'.heap/\(∀b∈fp,H' b=none)/\W i n Z0 H':=⟨_,fun _ _=>SR⟩
 refine Iz P ?_ m0 ((hP _ _).2 ⟨0,_,_,J0,st3,f3,w0⟩);rintro n s4 h4;obtain⟨i,ZP,H4,I4,st4,fr4,w4⟩:=(hP _ _).1 h4;rcases turn i n ZP H4 w4 with⟨stop,qz⟩|⟨go,N,hN,step⟩
 .refine SH (T.done Y rfl rfl rfl hc i [] s4 ZP H4 (fun _ _=>False) I4 (stat fr4) st4 stop) (fun r s5 ⟨hr,I5⟩=>?_) fun _ _ z=>z;subst hr;exact hR ZP H4 s5 I5 qz
 .refine SH (T.item Y rfl rfl rfl hc i [] s4 ZP H4 (fun _ _=>False) I4 (stat fr4) st4 go) (fun r s5 ⟨u,hr,h5⟩=>?_) fun _ _ z=>z;subst hr;refine SH h5 (fun _ s6 hm=>?_) fun _ _ z=>z;obtain⟨x,H6,I6,r6,y6,st6,fr6⟩:=hm;have I6':=I6.pinned (stat fr6) (T.obj _ _ st6);have again:∀{ZS:St} {H7:Hp} {s7:Shared},Inv Y ([]++mq fp s6.heap) ZS H7 s7->N ZS H7->∃m,m<n/\P m s7:=fun{ZS H7 s7} I7 n7=>by
   obtain⟨m',hm,w7⟩:=hN ZS H7 n7;refine(⟨m',hm,(hP _ _).2 ⟨i+1,ZS,H7,I7.unpinned,T.keep _ _ _ st6 fun b hb o e=>(I7.pin (b,o)<|SQ _<|SQ _<|kr hb e).1,fun b hb=>?_,w7⟩⟩);obtain⟨o,e,d⟩:=T.obj _ _ st6 b hb;exact((I7.pin (b,o)<|SQ _<|SQ _<|kr hb e).2.1)
  refine noX (thn (hg _ s6 ZP H6 x u _ I6' r6<|step x H6 y6) fun _ s7 hm=>?_);obtain⟨ZS,H7,I7,q7⟩:=hm;refine(noX<|thn (ht _ s7 ZS H7 _ I7 q7) fun b s8 hm=>?_);obtain⟨H8,I8,q8⟩:=hm;cases b with
  |false=>
   show ∃m,_;exact again I8 q8
  |true=>
   show wpAny _ _ _ _ _ _;refine noX (thn (hk0 _ s8 ZS H8 _ I8 q8) fun kv s9 hm=>?_);obtain⟨vk,H9,I9,r9,q9⟩:=hm;refine(noX<|thn (hv0 _ s9 ZS H9 _ I9 q9) fun vv s10 hm=>?_);obtain⟨v,H10,I10,r10,kvs,k,e10,hz,ek,q10⟩:=hm;subst ek;obtain⟨z,hd,vs,rel,dd⟩:=mU I10.hok e10;have hz':vs.length<=sizeLine:=by rw[←rel.length];exact z
   have hl:(gU kvs k v).length<=sizeLine:=by have:=uL kvs k v;omega
   refine(wpAny_dictSet_pairs (hsz:=hz') (qZ r9) dd fun h' dd' hs'=>?_);have heo:∃q,h'.get? D=some q:=let ⟨q,_,_,hq,_⟩:=dd';⟨q,hq⟩
   exact again (uM (t':=s10.toks+1) I10 (by rw[e10];exact True.intro) hs' heo<|wR hl hd (rel.put k r10) dd') q10
theorem OF{s2:Shared}{H2:Hp}{it:Addr}{fp:ś}{tn:Nat->Heap->Prop}{Z6:It}{cl:Ş}{Z:Addr->Hp->Prop}{RR:Value->Addr->Result->Shared->Prop}{E:SC}
  (hx:∀e s,X.xe e s->False) (hc:X.calm=true) (S:CompScope X N' own cap scope)
  (hg:∀cl C Z1 ZZ ex,PG (fO X N' scope cl C Z1 ZZ ex) tg g) (ht:∀cl C Z1 ZZ ex,PIf (fO X N' scope cl C Z1 ZZ ex) ifs tc) (hk0:∀cl C Z1 ZZ ex,PE (fO X N' scope cl C Z1 ZZ ex) kx tk) (hv0:∀cl C Z1 ZZ ex,PE (fO X N' scope cl C Z1 ZZ ex) vx tv)
  (I2:Inv X pins L H2 s2) (T:Turn X.prog X.w X.K tg Z6 fp it tn) (st2:tn 0 s2.heap) (f2:∀b∈fp,gO X pins H2 b)
  (c1:∀y c,cl.lookup y=some c->X.env.cells.lookup y=some c) (c2:∀y,(y,NameKind.free)∈scope.names->∃c,cl.lookup y=some c)
  (h:∀D,H2 D=none->uP Z6 g tc tk tv D (im own cap L) H2 (Z D))
  (hRR:∀D C s' m' H',Inv X pins L H' s'->s'.heap.Ns C m'->gO X pins H' C->Z D H'->RR (.ref D) C (.ok .next) s'):
  wpAny (model X.prog X.w) X.A (newDict) (fun acc ZK=>wpAny (model X.prog X.w) X.A (newFunctionEnv scope X.env.globals cl [] X.env.qual none .none<|some X.env) (fun cenv ZG=>
   codeAny (model X.prog X.w) X.A (.compStart (.DictComp kx vx [⟨tg,iter,ifs,0⟩] scope pos) 0 (.ref it) acc {cenv with scope:=relabel scope X.env}) (RR acc cenv.locals) ZG) E ZK) E s2:=by
 have hlt:∀b∈fp,b<s2.heap.objs.size:=fun b hb=>by
  obtain⟨o,e,_⟩:=T.obj _ _ st2 b hb;exact(SI e)
 have hD:H2 s2.heap.objs.size=none:=I2.hok.fresh (SF _);have hsys:(s2.heap.objs.size==sysModules)=false:=by
  have:=I2.big;rw[beq_eq_false_iff_ne];exact UK this
 refine TF (xI<|fun ZQ Zz Zy Zx=>?_);dsimp only at Zz Zy Zx⊢;have I3:Inv X pins L (upd H2 s2.heap.objs.size<|.dK []) {s2 with heap:=s2.heap.push {cls:=.type "dict",dict:=none,data:=.dict #[]},toks:=s2.toks}:=
  I2.laid (fun b o e=>SD _ e) (SF _) ⟨TQ _,hsys,[],.nil,Heap.DictOf.new s2.heap⟩
 generalize hs3:({s2 with heap:=s2.heap.push {cls:=.type "dict",dict:=none,data:=.dict #[]},toks:=s2.toks}:Shared)=s3 at I3;have e3:s2.heap.push {cls:=.type "dict",dict:=none,data:=.dict #[]}=s3.heap:=by rw[←hs3]
 have hsz:s3.heap.objs.size=s2.heap.objs.size+1:=by rw[←e3,TJ]
 rw[e3] at Zz Zy Zx⊢;have hk:=Zy;have hcl:∀y c,cl.lookup y=some c->¬s3.heap.objs.size<c:=fun y c e z=>by
  obtain⟨v,o,ho,_⟩:=I3.cell y c (c1 y c e);exact(Ti _<|U2 z<|SI ho)
 have CA:CellsAre X scope s3.heap.objs.size cl (cellsFrom (s3.heap.objs.size+1) scope.names cl):=ve (h:=s3.heap.push {cls:=.type "dict",data:=.dict #[]}) (by rw[TJ]) S hcl;have hcell:∀y c,(cellsFrom (s3.heap.objs.size+1) scope.names cl).lookup y=some c->s3.heap.objs.size<c->ZQ.IsCell c none:=fun y c e z=>by
  rw[kJ,mC] at e;cases q:(cellsFrom (s3.heap.objs.size+1) scope.names []).lookup y with
  |none=>rw[q] at e;exact absurd z (hcl y c e)
  |some c'=>
   rw[q] at e;have:c'=c:=S5 e;subst this;exact Zx y c' (Tn q)
 generalize hcs:cellsFrom (s3.heap.objs.size+1) scope.names cl=cs at CA hcell⊢;have f3:∀b∈fp,gO X pins (upd H2 s2.heap.objs.size<|.dK []) b:=fun b hb=>⟨by rw[fR (SY<|hlt b hb)];exact(f2 b hb).1,(f2 b hb).2⟩
 have hlt3:∀b∈fp,b<s3.heap.objs.size:=fun b hb=>by rw[hsz];exact UD (hlt b hb)
 have st3:tn 0 ZQ:=T.keep _ _ _ st2 fun b hb o e=>hk b o (by rw[←e3];exact SD _ e);have J0:Inv (fO X N' scope cs s3.heap.objs.size s3 (upd H2 s2.heap.objs.size<|.dK []) fp) [] (im own cap L) (upd H2 s2.heap.objs.size<|.dK []) {s3 with heap:=ZQ,toks:=s2.toks}:=
  comp_inv I3 S CA hcell c1 c2 f3 hlt3 hk Zz
 have stat:∀{pl:SL} {H':Hp},pl=[]->(∀b∈fp,H' b=none)->∀b∈fp,gO (fO X N' scope cs s3.heap.objs.size s3 (upd H2 s2.heap.objs.size<|.dK []) fp) pl H' b:=fun{pl H'} hp hn b hb=>by
  subst hp;refine⟨hn b hb,SY (hlt3 b hb),J0.ok.exfs b hb,.inl hb,fun x c e=>J0.ok.exf b hb |>.2 x c e,fun p hp=>absurd hp (by show p∉([]++[]:SL);simp)⟩
 have loop:codeAny (model X.prog X.w) X.A (.compLoop (.DictComp kx vx [⟨tg,iter,ifs,0⟩] scope pos) 0 (.ref it) (.ref s2.heap.objs.size)<|compEnvC scope cs s3.heap.objs.size X.env) (RR (.ref s2.heap.objs.size) s3.heap.objs.size)
   {s3 with heap:=ZQ,toks:=s2.toks}:=Fa (Y:=fO X N' scope cs s3.heap.objs.size s3 (upd H2 s2.heap.objs.size<|.dK []) fp) hx hc (hg _ _ _ _ _) (ht _ _ _ _ _) (hk0 _ _ _ _ _) (hv0 _ _ _ _ _) T J0 st3 (fun b hb=>(f3 b hb).1) (stat rfl) (h _ hD) fun ZP H4 s5 I5 qz=>by
  have I6:Inv X pins L H4 s5:=I3.call' (ch:=fp) I5.os I5.base I5.hok I5.bare fun b hb=>⟨(f3 b hb).2.2.2.1,(f3 b hb).2.1,(f3 b hb).2.2.2.2.1,(f3 b hb).2.2.2.2.2⟩
  obtain⟨m',hn',_⟩:=I5.loc;exact(hRR _ _ s5 m' H4 I6 hn' (I3.fpOk (SF _) I5.free) qz)
 have lp:codeAny (model X.prog X.w) X.A (.compStart (.DictComp kx vx [⟨tg,iter,ifs,0⟩] scope pos) 0 (.ref it) (.ref s2.heap.objs.size)<|compEnvC scope cs s3.heap.objs.size X.env) (RR (.ref s2.heap.objs.size) s3.heap.objs.size)
   {s3 with heap:=ZQ,toks:=s2.toks}:=codeAny_compStart_dict loop (T.self _ 0 _ _ _ st3 loop)
 subst hs3;exact lp
theorem KW(S:CompScope X N' own cap scope)(hi:PI X tg iter wi)
  (hg:∀cl C Z1 ZZ ex,PG (fO X N' scope cl C Z1 ZZ ex) tg g) (ht:∀cl C Z1 ZZ ex,PIf (fO X N' scope cl C Z1 ZZ ex) ifs tc) (hk:∀cl C Z1 ZZ ex,PE (fO X N' scope cl C Z1 ZZ ex) kx tk) (hv:∀cl C Z1 ZZ ex,PE (fO X N' scope cl C Z1 ZZ ex) vx tv)
  (hx:∀e s,X.xe e s->False:=by exact fun _ _ z=>z) (hc:X.calm=true:=by rfl) (hs:∀x,foldedSetIterable iter X.env x=pure x:=by intro _;rfl):
  PE X (.DictComp kx vx [⟨tg,iter,ifs,0⟩] scope pos) (fun L H Q=>wi L H fun Z6 H1=>∀D,H1 D=none->uP Z6 g tc tk tv D (im own cap L) H1 (Q<|.ref D)):=by
 intro pins s L H Q I h;rw[arm_eval_DictComp];obtain⟨cl,hcl,c1,c2⟩:=rT (scope:=scope) (env:=X.env) fun y hy hk=>I.ok.has y.1 (S.free y hy hk);refine(T6 (use:=none) rfl hs hcl S.kind S.names (thn (hi pins s L H _ I h) fun v s1 h1=>thn h1 fun itv s2 h2=>?_));obtain⟨it,fp,tn,Z6,H2,e,I2,T,st2,f2,q⟩:=h2;subst e;refine(OF (RR:=fun acc C=>compPost (model X.prog X.w) X.A X.xe none (EP X pins L Q) acc C) (Z:=fun D=>Q<|.ref D) hx hc S hg ht hk hv I2 T st2 f2 c1 c2 q ?_);intro D C s' m' H' I' hn' f' z;exact⟨m',hn',fun h'' hs''=>⟨.ref D,H',I'.letgo f' hs'',rfl,z⟩⟩
end
def viO(v d:Addr):HO:=.ext fun h=>h.IsItemsView v d
def CH:V->Ř->Hp->VK->Prop:=fun x vs H Q=>∃(a:Addr) (kvs:List (Key×V)),x=.ref a/\vs=[]/\H a=some (.dK kvs)/\∀v,H v=none->Q (.ref v) (upd H v<|viO v a)
section
variable {X:Cx} {o:Expr} {to:TE} {pos:Pos}
theorem Ip:MtM X "dict.items" CH:=by
 intro pins s L H x vs v us Q I rx rv h;obtain⟨a,kvs,rfl,rfl,e,q⟩:=h;cases rx;have:=rv.zero;subst this;obtain⟨z,hd,ws,rel,dd⟩:=mU I.hok e;refine(call_meetsIn PySem.F.slot_dict_items dd.typeIs PySem.F.entry_dict_items (PySem.F.args_dict_items_1 _) (meets_dict_items (iW X.prog X.w) a hd) ⟨⟨ws,dd⟩,?_⟩);have hv:(s.heap.push {cls:=.type "dict_items",data:=.fields #[.ref a]}).IsItemsView s.heap.objs.size a:=⟨_,SM _ rfl,rfl,rfl⟩
 refine⟨.ref s.heap.objs.size,_,I.laid (t':=s.toks) (o:=viO s.heap.objs.size a) (fun b o q=>SD _ q) (SF _) ?_,rfl,q _<|I.hok.fresh<|SF _⟩;exact⟨hv,⟨_,SM _ rfl⟩,fun h1 h2 p k=>let ⟨o,ho,r⟩:=p;⟨o,k o ho,r⟩⟩
theorem GT(K:Frag)(ho:PE X o to)(hbase:attributeBase o "items" X.env (eval o X.env)=eval o X.env:=by rfl) (hline:(apos.endLine==pos.line)=true:=by rfl) (hK:X.K=K:=by rfl):
  PE X (.Call (.Attribute o "items" apos) [] [] pos) (vp K "dict" CH to):=by
 subst hK;exact Bt UY PySem.F.slot_dict_items PySem.F.type_dict_items Ip ho hbase hline
end
def Itd(d:Addr)(o:Obj)(kvs:List (Key×V)):It:=
 ⟨fun i H=>H d=some (.frz o<|.dK kvs)/\i<kvs.length,fun i H x H'=>∃p k v,x=.ref p/\H p=none/\H'=upd H p (.tup [kV k,v])/\kvs[i]?=some (k,v),fun i H=>H d=some (.frz o<|.dK kvs)/\kvs.length<=i⟩
def Ql(h:mF k u=true):RelV (kV k) u:=by
 rcases kQ h with⟨i,t,rfl,rfl⟩|⟨x,t,rfl,rfl⟩
 .exact⟨t,rfl⟩
 .exact⟨t,rfl⟩
def KV.get(rel:KV kvs ws):∀{i:Nat} {k:Key} {v:V},kvs[i]?=some (k,v)->∃u,ws[i]?=some (k,u)/\RelV v u:=by
 induction rel with
 |nil=>intro i k v h;simp at h
 | @cons a b l r hd tl ih=>
  intro i k v h;cases i with
  |zero=>
   have:a=(k,v):=by simpa using h
   subst this;obtain⟨b1,b2⟩:=b;obtain⟨h1,h2⟩:=hd;have:k=b1:=h1;subst this;exact⟨b2,rfl,h2⟩
  |succ i=>
   obtain⟨u,h1,h2⟩:=ih (i:=i) (k:=k) (v:=v) (by simpa using h);exact(⟨u,by simpa using h1,h2⟩)
theorem QZ{P:Program}{w:World}{K:Frag}{elts:Ś}{k:Nat}{pos:Pos}{h0:Heap}{kvs:List (Key×V)}{ws:List (Key×Value)}{ep:Nat}{o:Obj}(d it:Addr)(rel:KV kvs ws)(ho:h0.get? d=some o)(hat:h0.DictAt (iW P w) d ws ep):
  Turn P w K (.Tuple elts k pos) (Itd d o kvs) [it] it (fun i h=>∃ok ov,IsItemIter h it d i ws.length ep ok ov) where
 mem:=by simp
 obj:=fun i h st b hb=>by
  obtain⟨ok,ov,he⟩:=st;rw[Tu.mp hb];exact⟨_,he,fun v z=>by cases z⟩
 keep:=fun i h h' st kk=>let ⟨ok,ov,he⟩:=st;⟨ok,ov,kk it nofun _ he⟩
 item:=by
  intro X hP hw hK hc i pins s L H E I hf st hg;subst hP hw hK;obtain⟨hH,hi⟩:=hg;obtain⟨hgo,_⟩:s.heap.get? d=some o/\_:=I.hok d _ hH;have hm:s.heap.DictAt (iW X.prog X.w) d ws ep:=hat.at' fun o' e=>by rw[ho] at e;cases e;exact hgo
  obtain⟨kk,v⟩:Key×V:=kvs[i];obtain⟨⟨k1,v1⟩,hx⟩:∃p,kvs[i]?=some p:=⟨kvs[i],by simp[hi]⟩
  obtain⟨u,hu,ru⟩:=rel.get hx;obtain⟨ok,ov,he⟩:=st;refine(wpAny_pyNext_items_item he hm hu fun key h1 hkey hout hT hsz hk=>?_);refine⟨_,rfl,wpAny_letOwnedTupleGo_items hout fun h2 he2 hs2=>?_⟩;have hlt:it<s.heap.objs.size:=SI he
  replace hs2:Heap.SameBut it h1 h2:=hs2
  have hT2:h2.get? s.heap.objs.size=some {cls:=.type "tuple",data:=.seq #[key,u]}:=(hs2.2 _<|UK hlt).trans hT;have hn:H s.heap.objs.size=none:=I.hok.fresh (SF _);have I2:Inv X pins L (upd H s.heap.objs.size<|.tup [kV k1,v1]) {s with heap:=h2,toks:=s.toks}:=
   I.turnLay (ch:=[it]) hf (fun b o hb q=>(hs2.2 b<|fun z=>hb<|by simp[z]).trans (hk b o (fun z=>hb<|by simp[z]) q)) (SF _)
    ⟨xJ,[key,u],.cons (Ql hkey) (.cons ru .nil),⟨_,hT2,rfl,_,rfl⟩⟩
  have f1:∀b∈[it],(upd H s.heap.objs.size<|.tup [kV k1,v1]) b=none:=fun b hb=>by
   rw[Tu.mp hb,fR (SY hlt)];exact(hf it nofun).1
  exact⟨.ref s.heap.objs.size,_,I2,rfl,⟨_,k1,v1,rfl,hn,rfl,hx⟩,⟨key,u,he2⟩,f1⟩
 done:=by
  intro X hP hw hK hc i pins s L H E I hf st hg;subst hP hw hK;obtain⟨hH,hi⟩:=hg;obtain⟨hgo,_⟩:s.heap.get? d=some o/\_:=I.hok d _ hH;have hm:s.heap.DictAt (iW X.prog X.w) d ws ep:=hat.at' fun o' e=>by rw[ho] at e;cases e;exact hgo
  obtain⟨ok,ov,he⟩:=st;have hl:kvs.length=ws.length:=rel.length;refine wpAny_pyNext_items_end (I.ok.hd hc) he hm (by simp;omega) fun h' eb=>⟨rfl,I.turns (t':=s.toks) (ch:=[it]) hf fun b o hb q=>eb b o (fun z=>hb<|by simp[z]) q⟩
 self:=fun _ _ _ _ _ st h=>by
  obtain⟨ok,ov,he⟩:=st;exact(PySem.W.kcp_self he h)
def Qb(te:TE):TI:=fun L H R=>te L H fun x H1=>∃v d kvs,x=.ref v/\H1 v=some (viO v d)/\H1 d=some (.dK kvs)/\∀o,R (Itd d o kvs) (upd H1 d<|.frz o<|.dK kvs)
def Go{X:Cx}{e:Expr}{te:TE}{elts:Ś}{k:Nat}{tpos:Pos}(he:PE X e te):PI X (.Tuple elts k tpos) e (Qb te):=by
 intro pins s L H R I h;refine thn (he pins s L H _ I h) fun u s1 hm=>?_;obtain⟨x,H1,I1,r1,v,d,kvs,ex,hv,hd,q⟩:=hm;subst ex;cases r1;obtain⟨z,hsys,ws,rel,dd⟩:=mU I1.hok hd;obtain⟨hvv,_,_⟩:s1.heap.IsItemsView v d/\_/\_:=I1.hok v _ hv;obtain⟨ep,hat⟩:=dd.dictAt;obtain⟨o,ho⟩:∃o,s1.heap.get? d=some o:=let ⟨o,_,_,h,_⟩:=dd;⟨o,h⟩
 refine(wpAny_pyIter_items hvv hat ?_);have nd:d≠s1.heap.objs.size:=SY (SI ho);have I2:Inv X pins L (upd H1 d<|.frz o<|.dK kvs) {s1 with heap:=s1.heap.push {cls:=.type "dict_itemiterator",data:=.fields #[.none,.bool false,.ref d,.int 0 0,.int ws.length 0,.int ep 0,.none,.none]},toks:=s1.toks}:=
  I1.write (x:=d) (e:=d) (by rw[hd];exact True.intro) (.inl rfl) (fun b q _ z=>SD _ z) ⟨o,SD _ ho⟩
   ⟨SD _ ho,z,hsys,ws,rel,dd.at fun o' e=>SD _ e⟩
 refine⟨_,[s1.heap.objs.size],_,_,_,rfl,I2,QZ d _ rel ho hat,⟨.none,.none,SM _ rfl⟩,fun b hb=>?_,q o⟩;rw[Tu.mp hb];exact I1.fpOk (SF _) (by rw[fR (Ne.symm nd)];exact I1.hok.fresh (SF _))
abbrev An:=Nat×Nat×Bool
abbrev _root_.ť:=List An
def nb(as:ť)(x:Nat):Ŝ:=as.flatMap fun a=>if a.2.2=true then(if x=a.1 then [a.2.1] else [])++(if x=a.2.1 then [a.1] else []) else []
def mem_nb:y∈nb as x↔(x,y,true)∈as\/(y,x,true)∈as:=by
 unfold nb;rw[Ug];constructor
 .rintro⟨⟨i,j,b⟩,ha,h⟩;cases b with
  |false=>simp at h
  |true=>
   simp only[if_true,Tb] at h;rcases h with h|h
   .split at h
    .rename_i e;have:y=j:=by simpa using h
     subst this e;exact .inl ha
    .simp at h
   .split at h
    .rename_i e;have:y=i:=by simpa using h
     subst this e;exact .inr ha
    .simp at h
 .rintro(h|h)
  .exact⟨_,h,by simp⟩
  .exact⟨_,h,by simp⟩
def ND(h:y∈nb as x):x∈nb as y:=mem_nb.mpr (mem_nb.mp h).symm
inductive Conn (as:ť):Nat->Nat->Prop where
 |refl (x:Nat):Conn as x x
 |step {x y z:Nat}:Conn as x y->z∈nb as y->Conn as x z
def Conn.trans(h:Conn as x y)(g:Conn as y z):Conn as x z:=by
 induction g with
 |refl=>exact h
 |step _ e ih=>exact .step ih e
def Conn.one(h:y∈nb as x):Conn as x y:=.step (.refl x) h
def Conn.symm(h:Conn as x y):Conn as y x:=by
 induction h with
 |refl=>exact .refl _
 |step _ e ih=>exact(Conn.one<|ND e).trans ih
def Conn.mono(h:Conn as x y)(hm:∀a∈as,a∈bs):Conn bs x y:=by
 induction h with
 |refl=>exact .refl _
 |step _ e ih=>exact .step ih (mem_nb.mpr<|(mem_nb.mp e).imp (hm _) (hm _))
def fY(hs:ŕ)(x:Nat):Ū:=(hs.find? fun p=>decide (p.1=x)).map (·.2)
def gb(hs:ŕ)(x:Nat):ŕ:=if(fY hs x).isSome=true then hs else hs++[(x,x)]
def hJ(hs:ŕ)(o n:Nat):ŕ:=hs.map fun p=>(p.1,if p.2=o then n else p.2)
def jD(hs:ŕ)(a:An):ŕ:=
 let h2:=gb (gb hs a.1) a.2.1
 if a.2.2=true then hJ h2 ((fY h2 a.2.1).getD 0) ((fY h2 a.1).getD 0) else h2
def g6(as:ť):ŕ:=as.foldl jD []
def mJ(hs:ŕ)(x y:Nat):fY (gb hs x) y=if y=x then some ((fY hs x).getD x) else fY hs y:=by
 unfold gb;by_cases h:(fY hs x).isSome=true
 .rw[if_pos h];obtain⟨v,e⟩:=TC.mp h;by_cases z:y=x
  .subst z;rw[if_pos rfl,e];rfl
  .rw[if_neg z]
 .rw[if_neg h];have e:fY hs x=none:=by simpa using h
  unfold fY at e⊢;rw[List.find?_append];by_cases z:y=x
  .subst z;rw[if_pos rfl];have e':hs.find? (fun p=>decide (p.1=y))=none:=by simpa using e
   rw[e'];simp
  .rw[if_neg z];have:List.find? (fun p:Nat×Nat=>decide (p.1=y)) [(x,x)]=none:=by simp[Ne.symm z]
   rw[this];simp
def rF(hs:ŕ)(o n x:Nat):fY (hJ hs o n) x=(fY hs x).map fun r=>if r=o then n else r:=by
 unfold fY hJ;induction hs with
 |nil=>rfl
 |cons p r ih=>
  rw[SN,S0,S0];by_cases z:p.1=x
  .simp[z]
  .simp only[z,U4];exact ih
structure HOkN (as:ť) (V:Nat->Ū):Prop where
 named:∀a∈as,(V a.1).isSome=true/\(V a.2.1).isSome=true
 con:∀x r,V x=some r->Conn as x r
 eq:∀x y,(x,y,true)∈as->V x=V y
def Bf(as:ť)(a:An):g6 (as++[a])=jD (g6 as) a:=by unfold g6;rw[List.foldl_append];rfl
def yd(as:ť):HOkN as (fY<|g6 as):=by
 have key:∀(n:Nat) (as:ť),as.length=n->HOkN as (fY<|g6 as):=by
  intro n;induction n with
  |zero=>
   intro as e;have:as=[]:=T7.mp e;subst this;exact⟨fun _ h=>by simp at h,fun x r h=>by simp[g6,fY] at h,fun _ _ h=>by simp at h⟩
  |succ n ih=>
   intro as e;have hne:as≠[]:=by intro z;subst z;simp at e
   obtain⟨bs,a,rfl⟩:∃bs a,as=bs++[a]:=⟨as.dropLast,as.getLast hne,(List.dropLast_concat_getLast hne).symm⟩
   have ih:=ih bs (by simpa using e);obtain⟨i,j,b⟩:=a;rw[Bf];generalize g6 bs=hs at ih;have v2:∀y,fY (gb (gb hs i) j) y=if y=j then some ((fY (gb hs i) j).getD j) else if y=i then some ((fY hs i).getD i) else fY hs y:=fun y=>by rw[mJ (gb hs i) j y,mJ hs i y]
   have old:∀y,(fY hs y).isSome=true->fY (gb (gb hs i) j) y=fY hs y:=fun y hy=>by
    obtain⟨r,er⟩:=TC.mp hy;rw[v2 y];split
    .rename_i z;subst z;rw[mJ];split
     .rename_i z;subst z;rw[er];rfl
     .rw[er];rfl
    .split
     .rename_i z;subst z;rw[er];rfl
     .rfl
   have mono:∀x y,Conn bs x y->Conn (bs++[(i,j,b)]) x y:=fun x y h=>h.mono fun a ha=>UG _ ha;have con2:∀x r,fY (gb (gb hs i) j) x=some r->Conn (bs++[(i,j,b)]) x r:=fun x r h=>by
    rw[v2 x] at h;split at h
    .rename_i z;subst z;have h:=S5 h;rw[mJ] at h;split at h
     .rename_i z;subst z;cases e:fY hs x with
      |none=>rw[e] at h;rw[←h];exact .refl _
      |some r'=>rw[e] at h;have:r'=r:=h;subst this;exact mono _ _ (ih.con _ _ e)
     .cases e:fY hs x with
      |none=>rw[e] at h;have:x=r:=h;subst this;exact .refl _
      |some r'=>rw[e] at h;have:r'=r:=h;subst this;exact mono _ _ (ih.con _ _ e)
    .split at h
     .rename_i z;subst z;have h:=S5 h;cases e:fY hs x with
      |none=>rw[e] at h;have:x=r:=h;subst this;exact .refl _
      |some r'=>rw[e] at h;have:r'=r:=h;subst this;exact mono _ _ (ih.con _ _ e)
     .exact mono _ _ (ih.con _ _ h)
   have n1:∃r,fY (gb (gb hs i) j) i=some r:=by
    rw[v2 i];split
    .exact⟨_,rfl⟩
    .exact⟨_,if_pos rfl⟩
   have n2:∃r,fY (gb (gb hs i) j) j=some r:=⟨_,by rw[v2 j,if_pos rfl]⟩
   have named2:∀a∈bs++[(i,j,b)],(fY (gb (gb hs i) j) a.1).isSome=true/\(fY (gb (gb hs i) j) a.2.1).isSome=true:=fun a ha=>by
    rcases Tb.mp ha with z|z
    .obtain⟨h1,h2⟩:=ih.named a z;rw[old _ h1,old _ h2];exact⟨h1,h2⟩
    .have:a=(i,j,b):=by simpa using z
     subst this;obtain⟨r1,e1⟩:=n1;obtain⟨r2,e2⟩:=n2;exact⟨by rw[e1];rfl,by rw[e2];rfl⟩
   have eq2:∀x y,(x,y,true)∈bs->fY (gb (gb hs i) j) x=fY (gb (gb hs i) j) y:=fun x y h=>by
    obtain⟨h1,h2⟩:=ih.named _ h;rw[old x h1,old y h2];exact ih.eq x y h
   show HOkN _ (fY<|if b=true then hJ (gb (gb hs i) j) ((fY (gb (gb hs i) j) j).getD 0) ((fY (gb (gb hs i) j) i).getD 0) else gb (gb hs i) j);clear v2 old;generalize gb (gb hs i) j=h2 at*;cases b with
   |false=>
    refine⟨named2,con2,fun x y h=>?_⟩;rcases Tb.mp h with z|z
    .exact eq2 x y z
    .simp at z
   |true=>
    obtain⟨r1,e1⟩:=n1;obtain⟨r2,e2⟩:=n2;simp only[if_true,e1,e2,Option.getD_some];have cij:Conn (bs++[(i,j,true)]) i j:=Conn.one (mem_nb.mpr<|.inl nofun);refine⟨fun a ha=>?_,fun x r h=>?_,fun x y h=>?_⟩
    .rw[rF,rF,U1,U1];exact named2 a ha
    .rw[rF] at h;obtain⟨r0,e0,er⟩:=Option.map_eq_some_iff.mp h;have c0:=con2 x r0 e0;split at er
     .rename_i z;subst z er;exact c0.trans ((con2 j _ e2).symm.trans (cij.symm.trans<|con2 i _ e1))
     .subst er;exact c0
    .rw[rF,rF];rcases Tb.mp h with z|z
     .rw[eq2 x y z]
     .have:x=i/\y=j:=by simpa using z
      obtain⟨rfl,rfl⟩:=this;rw[e1,e2];simp only[Vg,if_true];split
      .rfl
      .rfl
 exact key _ as rfl
def HOkN.conn{as:ť}{V:Nat->Ū}(h:HOkN as V){x y:Nat}(c:Conn as x y):V x=V y:=by
 induction c with
 |refl=>rfl
 |step _ e ih=>
  rw[ih];rcases mem_nb.mp e with z|z
  .exact h.eq _ _ z
  .exact(h.eq _ _ z).symm
def HOkN.iff{as:ť}{V:Nat->Ū}(h:HOkN as V){x y:Nat}(hx:(V x).isSome=true):V x=V y↔Conn as x y:=by
 refine⟨fun e=>?_,h.conn⟩;obtain⟨r,er⟩:=TC.mp hx;exact(h.con x r er).trans (h.con y r (by rw[←e];exact er)).symm
def g7(as:ť):Bool:=as.all fun a=>a.2.2||!decide (fY (g6 as) a.1=fY (g6 as) a.2.1)
structure Out (as:ť) (n t:Nat) (F:Nat->Ū):Prop where
 con:∀x r,F x=some r->Conn as x r/\r<t
 fin:∀x r y,F x=some r->y∈nb as x->F y=some r
 all:∀x,x<t->(F x).isSome=true
def left(as:ť)(F:Nat->Ū):Nat->Nat
 |0=>0
 |n+1=>left as F n+(if(F n).isSome=true then 0 else(nb as n).length)
section
variable {X:Cx} {a b o:Expr} {ta:TE} {p pos:Pos}
theorem OT(mr:X.mg "range"=none) (ha:PE X a ta) (hg:Gl X "range":=by rfl) (hs:starEach [a] X.env=[(false,eval a X.env)]:=by rfl):
  PE X (.Call (.Name "range" p) [a] [] pos) (fun L H Q=>ta L H fun x H1=>∃j:Int,x=.int j/\∀r,H1 r=none->Q (.ref r) (upd H1 r<|.rng 0 j)):=by
 intro pins s L H Q I h;refine Call_ (kt I hg mr boot_range<|Tv (thn (gz ha g8 hs pos pins s L H (fun vs H1=>∃x,vs=[x]/\∃j:Int,x=.int j/\∀r,H1 r=none->Q (.ref r) (upd H1 r<|.rng 0 j)) I ?_) fun us s1 ⟨vs,H1,I1,r1,q1⟩=>?_) hs rfl)
 .have:∀x H1,(∃j:Int,x=V.int j/\∀r,H1 r=none->Q (.ref r) (upd H1 r<|.rng 0 j))=(∃x',[x]=[x']/\∃j:Int,x'=V.int j/\∀r,H1 r=none->Q (.ref r) (upd H1 r<|.rng 0 j)):=by
   intro x H1;exact propext ⟨fun q=>⟨x,rfl,q⟩,fun⟨x',e,q⟩=>by cases e;exact q⟩
  unfold iI jI;simp only[←this];exact h
 obtain⟨x,e,j,ex,q⟩:=q1;subst e ex;cases r1 with
 |cons r rr=>
  cases rr;obtain⟨t,rfl⟩:=r;refine(Vl ?_);refine⟨.ref s1.heap.objs.size,_,I1.laid (o:=.rng 0 j) (fun b o e=>SD _ e) (SF _) ?_,rfl,q _<|I1.hok.fresh<|SF _⟩;exact⟨_,_,_,SM _ rfl⟩
end
def hNd(hs:ŕ):Prop:=(hs.map (·.1)).Nodup
def hVal_none:fY hs x=none↔x∉hs.map (·.1):=by
 unfold fY;rw[U5,T4];simp only[TH,Te,not_exists,not_and]
def tM(h:hNd hs)(x:Nat):hNd (gb hs x):=by
 unfold gb;split
 .exact h
 .rename_i e;have e:fY hs x=none:=by simpa using e
  unfold hNd;rw[Us,UE];refine⟨h,by simp,fun y hy z hz=>?_⟩;have:z=x:=by simpa using hz
  subst this;exact fun q=>hVal_none.mp e (q▸hy)
def Dl(hs:ŕ)(o n:Nat):(hJ hs o n).map (·.1)=hs.map (·.1):=by simp[hJ]
def RW(h:hNd hs)(a:An):hNd (jD hs a):=by
 have h2:=tM (tM h a.1) a.2.1;unfold jD;dsimp only;split
 .unfold hNd;rw[Dl];exact h2
 .exact h2
def tS(hs:ŕ)(x:Nat):(gb hs x).length<=hs.length+1:=by
 unfold gb;split<;>simp
def RU(hs:ŕ)(a:An):(jD hs a).length<=hs.length+2:=by
 have h1:=tS hs a.1;have h2:=tS (gb hs a.1) a.2.1;unfold jD;dsimp only;split
 .unfold hJ;rw[SW];omega
 .omega
def Hn(as:ť)(n:Nat)(a:An)(h:as[n]?=some a):g6 (as.take<|n+1)=jD (g6<|as.take n) a:=by
 rw[List.take_succ,h];exact Bf _ _
def He(as:ť):hNd (g6 as):=by
 have:∀(as:ť) (hs:ŕ),hNd hs->hNd (as.foldl jD hs):=by
  intro as;induction as with
  |nil=>exact fun _ h=>h
  |cons a r ih=>exact fun hs h=>ih _ (RW h a)
 exact this as [] (by simp[hNd])
def RT(as:ť):(g6 as).length<=2*as.length:=by
 have:∀(as:ť) (hs:ŕ),(as.foldl jD hs).length<=hs.length+2*as.length:=by
  intro as;induction as with
  |nil=>exact fun _=>by simp
  |cons a r ih=>
   intro hs;have h1:=ih (jD hs a);have h2:=RU hs a;simp only[List.foldl_cons,S9];omega
 have:=this as [];simpa[g6] using this
def C3{ps:ś}(h:ps.Nodup){i j:Nat}{p:Addr}(a:ps[i]?=some p)(b:ps[j]?=some p):i=j:=by
 obtain⟨l1,g1⟩:=SG.mp a;obtain⟨l2,g2⟩:=SG.mp b;rcases U6 i j with z|z|z
 .exact absurd (g1.trans g2.symm) ((T3.mp h) i j l1 l2 z)
 .exact z
 .exact absurd (g2.trans g1.symm) ((T3.mp h) j i l2 l1 z)
theorem RC(elt tg iter tg2 iter2:Expr)(ifs ifs2:Ś)(scope:Scope)(pos:Pos)(it acc:Value)(env:Env):
  compTurn (.ListComp elt [⟨tg,iter,ifs,0⟩,⟨tg2,iter2,ifs2,0⟩] scope pos) 0 it acc env=(do
   standAt iter.pos
   match ←pyNext it with
   |none=>pure (.done .next)
   |some v=>
    letOwnedTupleGo tg it v
    assign tg env v
    let mut ok:=true
    for c in ifs do
     if ok then ok ←isTrue c env (eval c env)
    if ok then
     let x ←eval iter2 env
     standAt iter2.pos
     let x ←foldedSetIterable iter2 env x
     let _ ←runOwn (.compStart (.ListComp elt [⟨tg,iter,ifs,0⟩,⟨tg2,iter2,ifs2,0⟩] scope pos) 1 (←holding [x] (pyIter x)) acc env) env
    again (.compLoop (.ListComp elt [⟨tg,iter,ifs,0⟩,⟨tg2,iter2,ifs2,0⟩] scope pos) 0 it acc env)):=by rfl
theorem Ru(elt tg iter tg2 iter2:Expr)(ifs ifs2:Ś)(scope:Scope)(pos:Pos)(it acc:Value)(env:Env):
  compTurn (.ListComp elt [⟨tg,iter,ifs,0⟩,⟨tg2,iter2,ifs2,0⟩] scope pos) 1 it acc env=(do
   standAt iter2.pos
   match ←pyNext it with
   |none=>pure (.done .next)
   |some v=>
    letOwnedTupleGo tg2 it v
    assign tg2 env v
    let mut ok:=true
    for c in ifs2 do
     if ok then ok ←isTrue c env (eval c env)
    if ok then
     (do let _ ←call (.builtin "list.append") [acc,←eval elt env])
    again (.compLoop (.ListComp elt [⟨tg,iter,ifs,0⟩,⟨tg2,iter2,ifs2,0⟩] scope pos) 1 it acc env)):=by rfl
section
variable {prog:Program} {w:World} {A:Around} {R:Result->Shared->Prop} {s:Shared} {elt tg iter tg2 iter2:Expr} {ifs ifs2:Ś} {scope:Scope} {pos:Pos} {it acc:Value} {env:Env}
theorem EN(hs2:∀x,foldedSetIterable iter2 env x=pure x)(I:Nat->Shared->Prop)
  (turn:∀n s,I n s->wpAny (model prog w) A (pyNext it) (fun r ZT=>match r with
   |none=>R (.ok .next) ZT
   |some v=>wpAny (model prog w) A (letOwnedTupleGo tg it v) (fun _ ZA=>wpAny (model prog w) A (assign tg env v) (fun _ ZI=>
     wpAny (model prog w) A (forIn ifs true fun c r=>if r=true then do let ok ←isTrue c env (eval c env);pure (ForInStep.yield ok) else pure (ForInStep.yield r)) (fun ok ZK=>
      if ok=true then wpAny (model prog w) A (eval iter2 env) (fun x ZG=>wpAny (model prog w) A (pyIter x) (fun it2 ZE=>
       wpAny (model prog w) A (runOwn (.compStart (.ListComp elt [⟨tg,iter,ifs,0⟩,⟨tg2,iter2,ifs2,0⟩] scope pos) 1 it2 acc env) env) (fun _ Zm=>∃m,m<n/\I m Zm) (fun _ _=>False) ZE) (fun _ _=>False) ZG) (fun _ _=>False) ZK
      else ∃m,m<n/\I m ZK) (fun _ _=>False) ZI) (fun _ _=>False) ZA) (fun _ _=>False) ZT) (fun _ _=>False) s)
  (n:Nat) (h:I n s):codeAny (model prog w) A (.compLoop (.ListComp elt [⟨tg,iter,ifs,0⟩,⟨tg2,iter2,ifs2,0⟩] scope pos) 0 it acc env) R s:=by
 refine VC rfl I (fun n s hI=>?_) n h;show wpAny _ A ((compTurn (.ListComp elt [⟨tg,iter,ifs,0⟩,⟨tg2,iter2,ifs2,0⟩] scope pos) 0 it acc env).onRaise (fun x=>do noteFrame x env;theTreesLotGoes x)) _ _ s;refine VJ ?_;rw[RC];refine SH (E:=fun _ _=>False) ?_ (fun _ _ x=>x) fun _ _ x=>x.elim;refine SA (T5<|SA<|SH (turn n s hI) (fun r ZT ZQ=>?_) fun _ _ h'=>h');cases r with
 |none=>exact SE ZQ
 |some v=>
  refine SA (SH ZQ (fun _ ZA Zv=>?_) fun _ _ h'=>h');refine SA (SH Zv (fun _ ZI ZB=>SA<|SH ZB (fun ok ZK ZF=>?_) fun _ _ h'=>h') fun _ _ h'=>h');cases ok with
  |false=>exact SE ⟨rfl,ZF⟩
  |true=>exact SA (SH ZF (fun x ZG Zu=>SA<|T5<|SA<|VN (hs2 x)<|SA<|TL<|SH Zu (fun it2 ZE Zt=>SA<|SH Zt (fun _ Zm Zj=>SE ⟨rfl,Zj⟩) fun _ _ h'=>h') fun _ _ h'=>h') fun _ _ h'=>h')
theorem ML(I:Nat->Shared->Prop)
  (turn:∀n s,I n s->wpAny (model prog w) A (pyNext it) (fun r ZT=>match r with
   |none=>R (.ok .next) ZT
   |some v=>wpAny (model prog w) A (letOwnedTupleGo tg2 it v) (fun _ ZA=>wpAny (model prog w) A (assign tg2 env v) (fun _ ZI=>
     wpAny (model prog w) A (forIn ifs2 true fun c r=>if r=true then do let ok ←isTrue c env (eval c env);pure (ForInStep.yield ok) else pure (ForInStep.yield r)) (fun ok ZK=>
      if ok=true then wpAny (model prog w) A (eval elt env) (fun x ZG=>
       wpAny (model prog w) A (call (.builtin "list.append") [acc,x]) (fun _ ZE=>∃m,m<n/\I m ZE) (fun _ _=>False) ZG) (fun _ _=>False) ZK
      else ∃m,m<n/\I m ZK) (fun _ _=>False) ZI) (fun _ _=>False) ZA) (fun _ _=>False) ZT) (fun _ _=>False) s)
  (n:Nat) (h:I n s):codeAny (model prog w) A (.compLoop (.ListComp elt [⟨tg,iter,ifs,0⟩,⟨tg2,iter2,ifs2,0⟩] scope pos) 1 it acc env) R s:=by
 refine VC rfl I (fun n s hI=>?_) n h;show wpAny _ A ((compTurn (.ListComp elt [⟨tg,iter,ifs,0⟩,⟨tg2,iter2,ifs2,0⟩] scope pos) 1 it acc env).onRaise (fun x=>do noteFrame x env;theTreesLotGoes x)) _ _ s;refine VJ ?_;rw[Ru];refine SH (E:=fun _ _=>False) ?_ (fun _ _ x=>x) fun _ _ x=>x.elim;refine SA (T5<|SA<|SH (turn n s hI) (fun r ZT ZQ=>?_) fun _ _ h'=>h');cases r with
 |none=>exact SE ZQ
 |some v=>
  refine SA (SH ZQ (fun _ ZA Zv=>?_) fun _ _ h'=>h');refine SA (SH Zv (fun _ ZI ZB=>SA<|SH ZB (fun ok ZK ZF=>?_) fun _ _ h'=>h') fun _ _ h'=>h');cases ok with
  |false=>exact SE ⟨rfl,ZF⟩
  |true=>
   exact SA (SA<|SH ZF (fun x ZG Zu=>SA<|SH Zu (fun _ ZE Zt=>SE<|SE ⟨rfl,Zt⟩) fun _ _ h'=>h') fun _ _ h'=>h')
theorem Gk(h0:codeAny (model prog w) A (.compLoop (.ListComp elt [⟨tg,iter,ifs,0⟩,⟨tg2,iter2,ifs2,0⟩] scope pos) 1 it acc env) R s)
  (h:wpAny (model prog w) A (pyIter it) (fun it' s'=>codeAny (model prog w) A (.compLoop (.ListComp elt [⟨tg,iter,ifs,0⟩,⟨tg2,iter2,ifs2,0⟩] scope pos) 1 it' acc env) R s')
   (notedBy (model prog w) A env fun x s'=>R (.error x) s') s):
  codeAny (model prog w) A (.compStart (.ListComp elt [⟨tg,iter,ifs,0⟩,⟨tg2,iter2,ifs2,0⟩] scope pos) 1 it acc env) R s:=by
 refine codeAny_of_tree ?_;show wpAny _ _ ((compStart (.ListComp elt [⟨tg,iter,ifs,0⟩,⟨tg2,iter2,ifs2,0⟩] scope pos) 1 it acc env).onRaise (fun x=>do noteFrame x env;standAt theWindowsPlace)) _ _ s;refine wpAny_notedAt ?_;unfold compStart;show wpAny _ _ (ask >>= _) _ _ s;refine SA (wpAny_askSetting<|wpAny_ite ?_);split
 .first
   |exact SA (SE<|SE<|And.intro rfl h0)
   |exact SE (And.intro rfl h0)
 .first
   |exact SA (Vo<|SA<|T5<|SA<|SH h (fun it' s' h'=>SE<|And.intro rfl h') fun _ _ x=>x)
   |(refine SA (Vo ?_);show wpAny _ _ (standAt iter2.pos >>= _) _ _ s;exact SA (T5<|SA<|SH h (fun it' s' h'=>SE<|And.intro rfl h') fun _ _ x=>x))
end
def yi(Z6:It)(g:TG)(tc:TT)(te:TE)(D:Addr)(ZM:St)(H0:Hp)(Z:St->Hp->Prop):Prop:=
 ∃W:Nat->Nat->St->Hp->Prop,(∃m,W 0 m ZM H0)/\∀i m L H,W i m L H->
  (Z6.stop i H/\Z L H)\/(Z6.go i H/\∃N:St->Hp->Prop,(∀Z0 H',N Z0 H'->∃m',m'<m/\W (i+1) m' Z0 H')/\∀x H',Z6.yld i H x H'->g x L H' fun ZU H2=>tc ZU H2 fun b H3=>
   if b=true then te ZU H3 fun v H4=>∃ys,H4 D=some (.lst ys)/\ys.length<sizeLine/\N ZU (upd H4 D<|.lst<|ys++[v]) else N ZU H3)
def oj(Z6:It)(g:TG)(tc:TT)(wi2:TI)(g2:TG)(tc2:TT)(te:TE)(D:Addr)(ZM:St)(H0:Hp)(Z:Hp->Prop):Prop:=
 ∃W:Nat->Nat->St->Hp->Prop,(∃m,W 0 m ZM<|upd H0 D<|.lst [])/\∀i m L H,W i m L H->
  (Z6.stop i H/\Z H)\/(Z6.go i H/\∃N:St->Hp->Prop,(∀Z0 H',N Z0 H'->∃m',m'<m/\W (i+1) m' Z0 H')/\∀x H',Z6.yld i H x H'->g x L H' fun ZU H2=>tc ZU H2 fun b H3=>
   if b=true then wi2 ZU H3 fun J2 H4=>yi J2 g2 tc2 te D ZU H4 N else N ZU H3)
section
variable {X:Cx} {pins:SL} {L:St} {N' own:Ŗ} {cap:œ} {scope:Scope} {tg iter elt tg2 iter2:Expr} {ifs ifs2:Ś} {pos:Pos} {g g2:TG} {tc tc2:TT} {te:TE} {wi wi2:TI}
theorem FJ{s:Shared}{H:Hp}{D:Addr}{Z:St->Hp->Prop}(hx:∀e s,X.xe e s->False)(hc:X.calm=true)(hi:PI X tg2 iter2 wi2)(hg:PG X tg2 g2)(ht:PIf X ifs2 tc2)(he:PE X elt te)
  (I:Inv X pins L H s) (h:wi2 L H fun Z6 H1=>yi Z6 g2 tc2 te D L H1 Z):
  wpAny (model X.prog X.w) X.A (eval iter2 X.env) (fun x ZG=>wpAny (model X.prog X.w) X.A (pyIter x) (fun it2 ZE=>
   wpAny (model X.prog X.w) X.A (runOwn (.compStart (.ListComp elt [⟨tg,iter,ifs,0⟩,⟨tg2,iter2,ifs2,0⟩] scope pos) 1 it2 (.ref D) X.env) X.env) (fun _ s'=>∃Z0 H',Inv X pins Z0 H' s'/\Z Z0 H') (fun _ _=>False) ZE) (fun _ _=>False) ZG) (fun _ _=>False) s:=by
 have noX:∀{J:Type} {t:Sem J} {Q:J->Shared->Prop} {s:Shared},wpAny (model X.prog X.w) X.A t Q X.xe s->wpAny (model X.prog X.w) X.A t Q (fun _ _=>False) s:=fun q=>SH q (fun _ _ z=>z) fun e s z=>hx e s z;refine noX (thn (hi pins s L H _ I h) fun v s1 h1=>?_);refine noX (thn h1 fun itv s2 h2=>?_);obtain⟨it,fp,tn,Z6,H2,e,I2,T,st2,f2,W,⟨m0,w0⟩,turn⟩:=h2;subst e;have stat:∀{H':Hp},(∀b∈fp,H' b=none)->∀b∈fp,gO X pins H' b:=fun hn b hb=>⟨hn b hb,(f2 b hb).2⟩
 refine(wpAny_runOwn ?_);have loop:codeAny (model X.prog X.w) X.A (.compLoop (.ListComp elt [⟨tg,iter,ifs,0⟩,⟨tg2,iter2,ifs2,0⟩] scope pos) 1 (.ref it) (.ref D) X.env)
   (fun r s'=>match r with| .ok f=>∃Z0 H',Inv X pins Z0 H' s'/\Z Z0 H'| .error e=>cameBackBy (model X.prog X.w) X.A X.env (fun _ _=>False) e s') s2:=by
  obtain⟨P,hP⟩:∃P:Nat->Shared->Prop,∀n s',P n s'↔∃i Z0 H',Inv X pins Z0 H' s'/\tn i s'.heap/\(∀b∈fp,H' b=none)/\W i n Z0 H':=⟨_,fun _ _=>SR⟩
  refine ML P ?_ m0 ((hP _ _).2 ⟨0,L,H2,I2,st2,fun b hb=>(f2 b hb).1,w0⟩);rintro n s3 h3;obtain⟨i,ZH,H3,I3,st3,fr3,w3⟩:=(hP _ _).1 h3;rcases turn i n ZH H3 w3 with⟨stop,qz⟩|⟨go,N,hN,step⟩
  .refine SH (T.done X rfl rfl rfl hc i pins s3 ZH H3 (fun _ _=>False) I3 (stat fr3) st3 stop) (fun r s4 ⟨hr,I4⟩=>?_) fun _ _ z=>z;subst hr;exact⟨ZH,H3,I4,qz⟩
  .refine SH (T.item X rfl rfl rfl hc i pins s3 ZH H3 (fun _ _=>False) I3 (stat fr3) st3 go) (fun r s4 ⟨u,hr,h4⟩=>?_) fun _ _ z=>z;subst hr;refine SH h4 (fun _ s5 hm=>?_) fun _ _ z=>z;obtain⟨x,H5,I5,r5,y5,st5,fr5⟩:=hm;have I5':=I5.pinned (stat fr5) (T.obj _ _ st5);have again:∀{ZS:St} {H7:Hp} {s7:Shared},Inv X (pins++mq fp s5.heap) ZS H7 s7->N ZS H7->∃m,m<n/\P m s7:=fun{ZS H7 s7} I7 n7=>by
    obtain⟨m',hm,w7⟩:=hN ZS H7 n7;refine(⟨m',hm,(hP _ _).2 ⟨i+1,ZS,H7,I7.unpinned,T.keep _ _ _ st5 fun b hb o e=>(I7.pin (b,o)<|SQ _<|SQ _<|kr hb e).1,fun b hb=>?_,w7⟩⟩);obtain⟨o,e,d⟩:=T.obj _ _ st5 b hb;exact((I7.pin (b,o)<|SQ _<|SQ _<|kr hb e).2.1)
   refine noX (thn (hg _ s5 ZH H5 x u _ I5' r5<|step x H5 y5) fun _ s6 hm=>?_);obtain⟨Zq,H6,I6,q6⟩:=hm;refine(noX<|thn (ht _ s6 Zq H6 _ I6 q6) fun b s7 hm=>?_);obtain⟨H7,I7,q7⟩:=hm;cases b with
   |false=>
    show ∃m,_;exact again I7 q7
   |true=>
    show wpAny _ _ _ _ _ _;refine noX (thn (he _ s7 Zq H7 _ I7 q7) fun y s8 hm=>?_);obtain⟨v,H8,I8,r8,ys,hy,hz,q8⟩:=hm;refine(noX<|thn (vH (X:=X) _ s8 Zq H8 (.ref D) [v] (.ref D) [y] (fun _ H'=>N Zq H') I8 rfl (.cons r8 .nil) ⟨_,ys,v,rfl,rfl,hy,hz,q8⟩) fun _ s9 hm=>?_);obtain⟨_,H9,I9,_,q9⟩:=hm;exact(again I9 q9)
 exact Gk loop (T.self _ 0 _ _ _ st2 loop)
theorem NZ{Y:Cx}{s:Shared}{ZM:St}{H2:Hp}{it D:Addr}{fp:ś}{tn:Nat->Heap->Prop}{Z6:It}{Z:Hp->Prop}{R:Result->Shared->Prop}(hs2:∀x,foldedSetIterable iter2 Y.env x=pure x)
  (hx:∀e s,Y.xe e s->False) (hc:Y.calm=true) (hg:PG Y tg g) (ht:PIf Y ifs tc) (hi2:PI Y tg2 iter2 wi2) (hg2:PG Y tg2 g2) (ht2:PIf Y ifs2 tc2) (he:PE Y elt te)
  (T:Turn Y.prog Y.w Y.K tg Z6 fp it tn) (J0:Inv Y [] ZM (upd H2 D<|.lst []) s) (st3:tn 0 s.heap) (f3:∀b∈fp,upd H2 D (.lst []) b=none)
  (stat:∀{H':Hp},(∀b∈fp,H' b=none)->∀b∈fp,gO Y [] H' b) (h:oj Z6 g tc wi2 g2 tc2 te D ZM H2 Z)
  (hR:∀ZP H4 s5,Inv Y [] ZP H4 s5->Z H4->R (.ok .next) s5):
  codeAny (model Y.prog Y.w) Y.A (.compLoop (.ListComp elt [⟨tg,iter,ifs,0⟩,⟨tg2,iter2,ifs2,0⟩] scope pos) 0 (.ref it) (.ref D) Y.env) R s:=by
 obtain⟨W,⟨m0,w0⟩,turn⟩:=h;have noX:∀{J:Type} {t:Sem J} {Q:J->Shared->Prop} {s:Shared},wpAny (model Y.prog Y.w) Y.A t Q Y.xe s->wpAny (model Y.prog Y.w) Y.A t Q (fun _ _=>False) s:=fun q=>SH q (fun _ _ z=>z) fun e s z=>hx e s z;obtain⟨P,hP⟩:∃P:Nat->Shared->Prop,∀n s',P n s'↔∃i Z0 H',Inv Y [] Z0 H' s'/\tn i s'.heap/\(∀b∈fp,H' b=none)/\W i n Z0 H':=⟨_,fun _ _=>SR⟩
 refine EN hs2 P ?_ m0 ((hP _ _).2 ⟨0,_,_,J0,st3,f3,w0⟩);rintro n s4 h4;obtain⟨i,ZP,H4,I4,st4,fr4,w4⟩:=(hP _ _).1 h4;rcases turn i n ZP H4 w4 with⟨stop,qz⟩|⟨go,N,hN,step⟩
 .refine SH (T.done Y rfl rfl rfl hc i [] s4 ZP H4 (fun _ _=>False) I4 (stat fr4) st4 stop) (fun r s5 ⟨hr,I5⟩=>?_) fun _ _ z=>z;subst hr;exact hR ZP H4 s5 I5 qz
 .refine SH (T.item Y rfl rfl rfl hc i [] s4 ZP H4 (fun _ _=>False) I4 (stat fr4) st4 go) (fun r s5 ⟨u,hr,h5⟩=>?_) fun _ _ z=>z;subst hr;refine SH h5 (fun _ s6 hm=>?_) fun _ _ z=>z;obtain⟨x,H6,I6,r6,y6,st6,fr6⟩:=hm;have I6':=I6.pinned (stat fr6) (T.obj _ _ st6);have again:∀{ZS:St} {H7:Hp} {s7:Shared},Inv Y ([]++mq fp s6.heap) ZS H7 s7->N ZS H7->∃m,m<n/\P m s7:=fun{ZS H7 s7} I7 n7=>by
   obtain⟨m',hm,w7⟩:=hN ZS H7 n7;refine(⟨m',hm,(hP _ _).2 ⟨i+1,ZS,H7,I7.unpinned,T.keep _ _ _ st6 fun b hb o e=>(I7.pin (b,o)<|SQ _<|SQ _<|kr hb e).1,fun b hb=>?_,w7⟩⟩);obtain⟨o,e,d⟩:=T.obj _ _ st6 b hb;exact((I7.pin (b,o)<|SQ _<|SQ _<|kr hb e).2.1)
  refine noX (thn (hg _ s6 ZP H6 x u _ I6' r6<|step x H6 y6) fun _ s7 hm=>?_);obtain⟨ZS,H7,I7,q7⟩:=hm;refine(noX<|thn (ht _ s7 ZS H7 _ I7 q7) fun b s8 hm=>?_);obtain⟨H8,I8,q8⟩:=hm;cases b with
  |false=>
   show ∃m,_;exact again I8 q8
  |true=>
   show wpAny _ _ _ _ _ _;refine SH (FJ (X:=Y) hx hc hi2 hg2 ht2 he I8 q8) (fun _ _ z=>SH z (fun _ _ z=>SH z (fun _ s9 ⟨Y3,H9,I9,q9⟩=>again I9 q9) fun _ _ z=>z) fun _ _ z=>z) fun _ _ z=>z
theorem Cg{s2:Shared}{H2:Hp}{it:Addr}{fp:ś}{tn:Nat->Heap->Prop}{Z6:It}{cl:Ş}{Z:Addr->Hp->Prop}{RR:Value->Addr->Result->Shared->Prop}{E:SC}
  (hx:∀e s,X.xe e s->False) (hc:X.calm=true) (S:CompScope X N' own cap scope)
  (hg:∀cl C Z1 ZZ ex,PG (fO X N' scope cl C Z1 ZZ ex) tg g) (ht:∀cl C Z1 ZZ ex,PIf (fO X N' scope cl C Z1 ZZ ex) ifs tc) (hi2:∀cl C Z1 ZZ ex,PI (fO X N' scope cl C Z1 ZZ ex) tg2 iter2 wi2) (hg2:∀cl C Z1 ZZ ex,PG (fO X N' scope cl C Z1 ZZ ex) tg2 g2) (ht2:∀cl C Z1 ZZ ex,PIf (fO X N' scope cl C Z1 ZZ ex) ifs2 tc2) (he:∀cl C Z1 ZZ ex,PE (fO X N' scope cl C Z1 ZZ ex) elt te) (hs2:∀cl C x,foldedSetIterable iter2 (compEnvC scope cl C X.env) x=pure x)
  (I2:Inv X pins L H2 s2) (T:Turn X.prog X.w X.K tg Z6 fp it tn) (st2:tn 0 s2.heap) (f2:∀b∈fp,gO X pins H2 b)
  (c1:∀y c,cl.lookup y=some c->X.env.cells.lookup y=some c) (c2:∀y,(y,NameKind.free)∈scope.names->∃c,cl.lookup y=some c)
  (h:∀D,H2 D=none->oj Z6 g tc wi2 g2 tc2 te D (im own cap L) H2 (Z D))
  (hRR:∀D C s' m' H',Inv X pins L H' s'->s'.heap.Ns C m'->gO X pins H' C->Z D H'->RR (.ref D) C (.ok .next) s'):
  wpAny (model X.prog X.w) X.A (newList []) (fun acc ZK=>wpAny (model X.prog X.w) X.A (newFunctionEnv scope X.env.globals cl [] X.env.qual none .none<|some X.env) (fun cenv ZG=>
   codeAny (model X.prog X.w) X.A (.compStart (.ListComp elt [⟨tg,iter,ifs,0⟩,⟨tg2,iter2,ifs2,0⟩] scope pos) 0 (.ref it) acc {cenv with scope:=relabel scope X.env}) (RR acc cenv.locals) ZG) E ZK) E s2:=by
 have hlt:∀b∈fp,b<s2.heap.objs.size:=fun b hb=>by
  obtain⟨o,e,_⟩:=T.obj _ _ st2 b hb;exact(SI e)
 have hD:H2 s2.heap.objs.size=none:=I2.hok.fresh (SF _);refine TF (xI<|fun ZQ Zz Zy Zx=>?_);dsimp only at Zz Zy Zx⊢;have I3:Inv X pins L (upd H2 s2.heap.objs.size<|.lst []) {s2 with heap:=s2.heap.push {cls:=.type "list",dict:=none,data:=.seq ([]:Ő).toArray},toks:=s2.toks}:=
  I2.laid (fun b o e=>SD _ e) (SF _) ⟨TQ _,[],0,.nil,SM _ rfl⟩
 generalize hs3:({s2 with heap:=s2.heap.push {cls:=.type "list",dict:=none,data:=.seq ([]:Ő).toArray},toks:=s2.toks}:Shared)=s3 at I3;have e3:s2.heap.push {cls:=.type "list",dict:=none,data:=.seq ([]:Ő).toArray}=s3.heap:=by rw[←hs3]
 have hsz:s3.heap.objs.size=s2.heap.objs.size+1:=by rw[←e3,TJ]
 rw[e3] at Zz Zy Zx⊢;have hk:=Zy;have hcl:∀y c,cl.lookup y=some c->¬s3.heap.objs.size<c:=fun y c e z=>by
  obtain⟨v,o,ho,_⟩:=I3.cell y c (c1 y c e);exact(Ti _<|U2 z<|SI ho)
 have CA:CellsAre X scope s3.heap.objs.size cl (cellsFrom (s3.heap.objs.size+1) scope.names cl):=ve (h:=s3.heap.push {cls:=.type "dict",data:=.dict #[]}) (by rw[TJ]) S hcl;have hcell:∀y c,(cellsFrom (s3.heap.objs.size+1) scope.names cl).lookup y=some c->s3.heap.objs.size<c->ZQ.IsCell c none:=fun y c e z=>by
  rw[kJ,mC] at e;cases q:(cellsFrom (s3.heap.objs.size+1) scope.names []).lookup y with
  |none=>rw[q] at e;exact absurd z (hcl y c e)
  |some c'=>
   rw[q] at e;have:c'=c:=S5 e;subst this;exact Zx y c' (Tn q)
 generalize hcs:cellsFrom (s3.heap.objs.size+1) scope.names cl=cs at CA hcell⊢;have f3:∀b∈fp,gO X pins (upd H2 s2.heap.objs.size<|.lst []) b:=fun b hb=>⟨by rw[fR (SY<|hlt b hb)];exact(f2 b hb).1,(f2 b hb).2⟩
 have hlt3:∀b∈fp,b<s3.heap.objs.size:=fun b hb=>by rw[hsz];exact UD (hlt b hb)
 have st3:tn 0 ZQ:=T.keep _ _ _ st2 fun b hb o e=>hk b o (by rw[←e3];exact SD _ e);have J0:Inv (fO X N' scope cs s3.heap.objs.size s3 (upd H2 s2.heap.objs.size<|.lst []) fp) [] (im own cap L) (upd H2 s2.heap.objs.size<|.lst []) {s3 with heap:=ZQ,toks:=s2.toks}:=
  comp_inv I3 S CA hcell c1 c2 f3 hlt3 hk Zz
 have stat:∀{pl:SL} {H':Hp},pl=[]->(∀b∈fp,H' b=none)->∀b∈fp,gO (fO X N' scope cs s3.heap.objs.size s3 (upd H2 s2.heap.objs.size<|.lst []) fp) pl H' b:=fun{pl H'} hp hn b hb=>by
  subst hp;refine⟨hn b hb,SY (hlt3 b hb),J0.ok.exfs b hb,.inl hb,fun x c e=>J0.ok.exf b hb |>.2 x c e,fun p hp=>absurd hp (by show p∉([]++[]:SL);simp)⟩
 have loop:codeAny (model X.prog X.w) X.A (.compLoop (.ListComp elt [⟨tg,iter,ifs,0⟩,⟨tg2,iter2,ifs2,0⟩] scope pos) 0 (.ref it) (.ref s2.heap.objs.size)<|compEnvC scope cs s3.heap.objs.size X.env) (RR (.ref s2.heap.objs.size) s3.heap.objs.size)
   {s3 with heap:=ZQ,toks:=s2.toks}:=NZ (Y:=fO X N' scope cs s3.heap.objs.size s3 (upd H2 s2.heap.objs.size<|.lst []) fp) (hs2 _ _) hx hc (hg _ _ _ _ _) (ht _ _ _ _ _) (hi2 _ _ _ _ _) (hg2 _ _ _ _ _) (ht2 _ _ _ _ _) (he _ _ _ _ _) T J0 st3 (fun b hb=>(f3 b hb).1) (stat rfl) (h _ hD) fun ZP H4 s5 I5 qz=>by
  have I6:Inv X pins L H4 s5:=I3.call' (ch:=fp) I5.os I5.base I5.hok I5.bare fun b hb=>⟨(f3 b hb).2.2.2.1,(f3 b hb).2.1,(f3 b hb).2.2.2.2.1,(f3 b hb).2.2.2.2.2⟩
  obtain⟨m',hn',_⟩:=I5.loc;exact(hRR _ _ s5 m' H4 I6 hn' (I3.fpOk (SF _) I5.free) qz)
 have lp:codeAny (model X.prog X.w) X.A (.compStart (.ListComp elt [⟨tg,iter,ifs,0⟩,⟨tg2,iter2,ifs2,0⟩] scope pos) 0 (.ref it) (.ref s2.heap.objs.size)<|compEnvC scope cs s3.heap.objs.size X.env) (RR (.ref s2.heap.objs.size) s3.heap.objs.size)
   {s3 with heap:=ZQ,toks:=s2.toks}:=codeAny_compStart_list loop (T.self _ 0 _ _ _ st3 loop)
 subst hs3;exact lp
theorem Gu(S:CompScope X N' own cap scope)(hi:PI X tg iter wi)
  (hg:∀cl C Z1 ZZ ex,PG (fO X N' scope cl C Z1 ZZ ex) tg g) (ht:∀cl C Z1 ZZ ex,PIf (fO X N' scope cl C Z1 ZZ ex) ifs tc)
  (hi2:∀cl C Z1 ZZ ex,PI (fO X N' scope cl C Z1 ZZ ex) tg2 iter2 wi2) (hg2:∀cl C Z1 ZZ ex,PG (fO X N' scope cl C Z1 ZZ ex) tg2 g2) (ht2:∀cl C Z1 ZZ ex,PIf (fO X N' scope cl C Z1 ZZ ex) ifs2 tc2)
  (he:∀cl C Z1 ZZ ex,PE (fO X N' scope cl C Z1 ZZ ex) elt te)
  (hx:∀e s,X.xe e s->False:=by exact fun _ _ z=>z) (hc:X.calm=true:=by rfl) (hs:∀x,foldedSetIterable iter X.env x=pure x:=by intro _;rfl) (hs2:∀cl C x,foldedSetIterable iter2 (compEnvC scope cl C X.env) x=pure x:=by intro _ _ _;rfl):
  PE X (.ListComp elt [⟨tg,iter,ifs,0⟩,⟨tg2,iter2,ifs2,0⟩] scope pos) (fun L H Q=>wi L H fun Z6 H1=>∀D,H1 D=none->oj Z6 g tc wi2 g2 tc2 te D (im own cap L) H1 (Q<|.ref D)):=by
 intro pins s L H Q I h;rw[VP];obtain⟨cl,hcl,c1,c2⟩:=rT (scope:=scope) (env:=X.env) fun y hy hk=>I.ok.has y.1 (S.free y hy hk);refine(T6 (use:=none) rfl hs hcl S.kind S.names (thn (hi pins s L H _ I h) fun v s1 h1=>thn h1 fun itv s2 h2=>?_));obtain⟨it,fp,tn,Z6,H2,e,I2,T,st2,f2,q⟩:=h2;subst e;refine(Cg (RR:=fun acc C=>compPost (model X.prog X.w) X.A X.xe none (EP X pins L Q) acc C) (Z:=fun D=>Q<|.ref D) hx hc S hg ht hi2 hg2 ht2 he hs2 I2 T st2 f2 c1 c2 q ?_);intro D C s' m' H' I' hn' f' z;exact⟨m',hn',fun h'' hs''=>⟨.ref D,H',I'.letgo f' hs'',rfl,z⟩⟩
theorem P5(hN:X.N.Nodup)(hi':X.N[i]?=some y)(hy:X.env.scope.names.lookup y=some .local)(S:CompScope X N' own cap scope)(hi:PI X tg iter wi)
  (hg:∀cl C Z1 ZZ ex,PG (fO X N' scope cl C Z1 ZZ ex) tg g) (ht:∀cl C Z1 ZZ ex,PIf (fO X N' scope cl C Z1 ZZ ex) ifs tc)
  (hi2:∀cl C Z1 ZZ ex,PI (fO X N' scope cl C Z1 ZZ ex) tg2 iter2 wi2) (hg2:∀cl C Z1 ZZ ex,PG (fO X N' scope cl C Z1 ZZ ex) tg2 g2) (ht2:∀cl C Z1 ZZ ex,PIf (fO X N' scope cl C Z1 ZZ ex) ifs2 tc2)
  (he:∀cl C Z1 ZZ ex,PE (fO X N' scope cl C Z1 ZZ ex) elt te)
  (hsw:swapsWith (.ListComp elt [⟨tg,iter,ifs,0⟩,⟨tg2,iter2,ifs2,0⟩] scope pos) (some<|.Name y py) spos.line X.env=pure true:=by rfl)
  (hx:∀e s,X.xe e s->False:=by exact fun _ _ z=>z) (hc:X.calm=true:=by rfl) (hs:∀x,foldedSetIterable iter X.env x=pure x:=by intro _;rfl) (hs2:∀cl C x,foldedSetIterable iter2 (compEnvC scope cl C X.env) x=pure x:=by intro _ _ _;rfl):
  PS X (.Assign [.Name y py] (.ListComp elt [⟨tg,iter,ifs,0⟩,⟨tg2,iter2,ifs2,0⟩] scope pos) spos) (fun D L H=>wi L H fun Z6 H1=>∀p,H1 p=none->oj Z6 g tc wi2 g2 tc2 te p (im own cap L) H1 (fun H2=>D.nx (L.set i<|some<|.ref p) H2)):=by
 intro pins s L H D I h;obtain⟨cl,hcl,c1,c2⟩:=rT (scope:=scope) (env:=X.env) fun y hy hk=>I.ok.has y.1 (S.free y hy hk);rw[exec_Assign_Name_used _ _ _ _ hsw];refine SA (T5<|SA ?_);show wpAny _ _ (do let _ ←comprehension (.ListComp elt [⟨tg,iter,ifs,0⟩,⟨tg2,iter2,ifs2,0⟩] scope pos) scope X.env _ (newList []) false (eval iter X.env) (some<|assign (.Name y py) X.env)) _ _ s;refine SA (SH (T6 (use:=some (assign (.Name y py) X.env)) (Q:=fun _ s'=>SP X pins D .next s') rfl hs hcl S.kind S.names
  (thn (hi pins s L H _ I h) fun v s1 h1=>thn h1 fun itv s2 h2=>?_)) (fun _ s' hq=>SE<|SE hq) fun _ _ e=>e)
 obtain⟨it,fp,tn,Z6,H2,e,I2,T,st2,f2,q⟩:=h2;subst e;refine(Cg (RR:=fun acc C=>compPost (model X.prog X.w) X.A X.xe (some<|assign (.Name y py) X.env) (fun _ s'=>SP X pins D .next s') acc C) (Z:=fun p H2=>D.nx (L.set i<|some<|.ref p) H2) hx hc S hg ht hi2 hg2 ht2 he hs2 I2 T st2 f2 c1 c2 q ?_);intro p C s' m' H' I' hn' f' z;show wpAny _ _ (assign (.Name y py) X.env<|.ref p) _ _ _;refine wpAny_assign_Name (Cj I' hN hi' (.inl hy) (v:=.ref p) rfl (fun s'' I'' hm=>?_) (.inr hy));obtain⟨a,hsb,ha⟩:=hm;have hCa:C≠a:=by
  rcases ha with z|z
  .rw[z];exact f'.2.1
  .exact fun e=>f'.2.2.2.2.1 y a z e.symm
 refine⟨m',hn'.sameBut hsb hCa,fun h3 hs3=>?_⟩;exact⟨_,H',I''.letgo f' hs3,z⟩
end
def l7(ns:Ŕ):Nat:=(firstMet (fun i=>ns.getD i 0) ns.length).length
end L2
namespace L2
open PySem PySem.W PySem.Spec PySem.Calls PyProof.Rows PySem.Builtin PySem.Builtin.ObjectAttr PySem.Builtin.Getset_descriptor
section
variable {prog:Program} {w:World} {A:Around} {E:SC} {s:Shared} {K:Frag} {x D:Addr} {ox:Obj}
theorem O8(X:K.In s.heap)(L0:Looks (model prog w) s.heap (typeOf<|.ref x) (.ref D))(hm:mroIn K D (.type "object")=some true)
  (h:R (.ok<|.ret<|.ref D) s):codeAny (model prog w) A (.call (.builtin "getset_descriptor.__get__") ⟨[.builtin "object.__class__",.ref x,tp],[]⟩) R s:=by
 obtain⟨hh,g,dr,t,os⟩:=s;have L1:=looks_mroIn (M:=model prog w) X hm;refine(Vd KF.slot_gs.plain KF.entry_gs<|KF.slot_gs.check _ _ _ _ _ _ _ _ KF.type_class (KF.args_gs _ _ _) ?_);unfold Builtin.«getset_descriptor.__get__» descrGet;rw[dga_obj];refine SA (SE ?_);unfold descrGetter descrCheckInstance descrNameAndClass isInstance;simp only[KF.owner_class];repeat lk
 refine⟨Code.quiet_builtin _ (by decide +kernel),Ua KF.entry_class ?_⟩;unfold Builtin.«object.__class__» shownTypeOf;repeat lk
 exact h
theorem QI(X:K.In s.heap)(hx:s.heap.get? x=some ox)(hc:ox.cls=.ref D)(hga:findIn K (.ref D) "__getattribute__"=some (some<|.builtin "BaseException.__getattribute__"))
  (hgn:findIn K (.ref D) "__getattr__"=some none) (hmB:mroIn K D (.type "BaseException")=some true)
  (ha:findIn K (.ref D) "__class__"=some (some<|.builtin "object.__class__"))
  (hn:specialIn K (.builtin "object.__class__") "__get__"=some (some<|.builtin "getset_descriptor.__get__")) (htk:takesIn K (.builtin "object.__class__")=some true) (hm:mroIn K D (.type "object")=some true)
  (h:Q (some<|.ref D) {s with toks:=s.toks+1}):wpAny (model prog w) A (getAttr? (.ref x) "__class__") Q E s:=by
 obtain⟨hh,g,d,t,os⟩:=s;have L0:Looks (model prog w) hh (typeOf<|.ref x) (.ref D):=hc▸(Looks.ld hx).andThen .now;have L1:=looks_findIn (M:=model prog w) X hga;have L2:=looks_findIn (M:=model prog w) X hgn;have L3:=looks_findIn (M:=model prog w) X ha;unfold getAttr? getAttrBy? getAttrBy;refine SA (wpAny_mkText<|SA<|VQ<|TL<|SA<|L0.at<|SA<|L1.at ?_);show wpAny _ _ (getAttrByItsOwn _ _ _ _ _ _) _ _ _;unfold getAttrByItsOwn;refine SA (L2.at<|SA<|VQ<|TL ?_);show wpAny _ _ (boundAndCalled (.builtin "BaseException.__getattribute__") (.ref x) _) _ _ _;unfold boundAndCalled;refine SA (VN (PySem.F.attr_ValueError.ga.bind<|.ref x) ?_);refine Vq (Vd PySem.F.attr_ValueError.ga.plain PySem.F.entry_bexc_ga ?_);have hk:builtinKind "BaseException.__getattribute__"=some .slot:=by decide +kernel
 have hsplit:splitId "BaseException.__getattribute__"=some ("BaseException","__getattribute__"):=by decide +kernel
 have LB:Looks (model prog w) hh (isInstance (.ref x)<|.type "BaseException") true:=L0.andThen (looks_mroIn X hmB);have hargs:=PySem.F.args_bexc_ga (.ref x) (.str "__class__" t);show wpAny _ _ (checkBuiltinCall "BaseException.__getattribute__" ⟨[.ref x,.str "__class__" t],[]⟩) _ _ _;simp only[checkBuiltinCall,hk,hsplit];refine SA (LB.at ?_);rw[if_neg (by decide)];have LF:Looks (model prog w) hh (find (.ref x) (.ref D) "__class__") (.bind (.builtin "getset_descriptor.__get__")<|.builtin "object.__class__"):=by
  have L4:Looks (model prog w) hh (getOf<|some<|.builtin "object.__class__") (some<|.builtin "getset_descriptor.__get__"):=looks_specialIn X hn;have L5:Looks (model prog w) hh (takesStores<|.builtin "object.__class__") true:=looks_takesIn X htk;unfold find;refine L3.andThen (L4.andThen ?_);unfold dataDescriptor?;exact fun A' Q' E' s' k q=>SA (SA<|L5 A' _ E' s' k<|SE<|SA<|Vo<|SE q)
 have body:wpAny (model prog w) A.in1 (Builtin.«object.__getattribute__» ⟨[.ref x,.str "__class__" t],[]⟩) (fun fin s'=>fin=.done (.ret<|.ref D)/\s'=⟨hh,g,d,t+1,os⟩) (fun _ _=>False) ⟨hh,g,d,t+1,os⟩:=by
  unfold Builtin.«object.__getattribute__»;refine SA (SE ?_);refine SA (SE ?_);refine SA (L0.at ?_);refine SA (LF.at ?_);show wpAny _ _ (holding [_] (call (.builtin "getset_descriptor.__get__") [.builtin "object.__class__",.ref x,.ref D]) >>= ret) _ _ _;refine SA (TL<|Vq<|O8 X L0 hm ?_);exact SE ⟨rfl,rfl⟩
 cases hsig:Manifest.signature? "BaseException.__getattribute__" with
 |none=>exact SE (SH body (fun fin s' z=>by obtain⟨rfl,rfl⟩:=z;exact handed_on rfl (SE h)) fun _ _ z=>z.elim)
 |some sig=>
  simp only[argsOk,hsig] at hargs;show wpAny _ A.in1 (Bind.checkArgs "BaseException.__getattribute__" sig ⟨[.ref x,.str "__class__" t],[]⟩) _ _ _;have h2:Bind.checkArgs "BaseException.__getattribute__" sig ⟨[.ref x,.str "__class__" t],[]⟩=pure ():=hargs;rw[h2];exact SE (SH body (fun fin s' z=>by obtain⟨rfl,rfl⟩:=z;exact handed_on rfl (SE h)) fun _ _ z=>z.elim)
structure ExcIn (K:Frag) (D:Addr):Prop where
 hga:findIn K (.ref D) "__getattribute__"=some (some<|.builtin "BaseException.__getattribute__")
 hgn:findIn K (.ref D) "__getattr__"=some none
 hmB:mroIn K D (.type "BaseException")=some true
 ha:findIn K (.ref D) "__class__"=some (some<|.builtin "object.__class__")
 hn:specialIn K (.builtin "object.__class__") "__get__"=some (some<|.builtin "getset_descriptor.__get__")
 htk:takesIn K (.builtin "object.__class__")=some true
 hm:mroIn K D (.type "object")=some true
 cls:(clsIn K D).isSome=true
theorem Au(F:ExcIn K D):KitX K (.ref x) (.ref D) (fun h=>∃o,h.get? x=some o/\o.cls=.ref D) where
 ty:=fun _ _ _ ⟨o,h1,h2⟩=>h2▸(Looks.ld h1).andThen .now
 it:=fun _ _ X _=>by
  have hcD:=F.cls;unfold clsIn at hcD;split at hcD
  .rename_i c' d' cd' sl' ho;intro A' Q' E' s' k q;unfold isType loadHead;exact SA (wpAny_loadPart (k _ _<|X _ _ ho)<|SE q)
  .cases hcD
 ne:=fun h tp dd its n sl X htp=>by
  have hcD:=F.cls;refine Bool.eq_false_iff.mpr fun q=>?_;have e:D=tp:=Value.ref.inj (beq_iff_eq.mp q);subst e;unfold clsIn at hcD;split at hcD
  .rename_i c' d' cd' sl' ho;have z:=(X _ _ ho).symm.trans htp;cases z
  .cases hcD
 ca:=fun X ⟨o,h1,h2⟩ k=>QI X h1 h2 F.hga F.hgn F.hmB F.ha F.hn F.htk F.hm k
end
def i4(e D:Addr):HO:=.ext fun h=>∃o,h.get? e=some o/\o.cls=.ref D
section
variable {X:Cx} {a b:Expr} {ta tb:TE} {p pos:Pos}
theorem R4(K:Frag)(ml:X.mg "isinstance"=none) (ha:PE X a ta) (hb:PE X b tb) (hg:Gl X "isinstance":=by rfl) (hs:starEach [a,b] X.env=[(false,eval a X.env),(false,eval b X.env)]:=by rfl) (hs2:starEach [b] X.env=[(false,eval b X.env)]:=by rfl) (hK:X.K=K:=by rfl):
  PE X (.Call (.Name "isinstance" p) [a,b] [] pos) (fun L H Q=>ta L H fun x H1=>tb L H1 fun y H2=>∃(e D:Addr) (c:V) (cv:Value) (k:Bool),[x,y]=[.ref e,c]/\H2 e=some (i4 e D)/\ExcIn K D/\RelV c cv/\kitOne K (.ref D) cv=some k/\Q (.bl k) H2):=by
 subst hK;have rule:jt X (.builtin "isinstance") (fun xs H Q=>∃(e D:Addr) (c:V) (cv:Value) (k:Bool),xs=[.ref e,c]/\H e=some (i4 e D)/\ExcIn X.K D/\RelV c cv/\kitOne X.K (.ref D) cv=some k/\Q (.bl k) H):=by
  intro pins s L H xs us Q I r h;obtain⟨e,D,c,cv,k,rfl,he,F,rc,hk,q⟩:=h;obtain⟨u,u2,rfl,ru,ru2⟩:=oO r;cases (show u=Value.ref e from ru);have hcv:Looks (model X.prog X.w) s.heap (pure ():Sem Unit) ():=.now;obtain⟨ho,_,_⟩:=(show(∃o,s.heap.get? e=some o/\o.cls=.ref D)/\_/\_ from I.hok e _ he)
  have:u2=cv\/kitOne X.K (.ref D) u2=some k:=by
   cases c with
   |ref a=>cases (show u2=Value.ref a from ru2);cases (show cv=Value.ref a from rc);exact .inl rfl
   |ty n=>cases (show u2=Value.type n from ru2);cases (show cv=Value.type n from rc);exact .inl rfl
   |non=>cases (show u2=Value.none from ru2);cases (show cv=Value.none from rc);exact .inl rfl
   |bl b=>cases (show u2=Value.bool b from ru2);cases (show cv=Value.bool b from rc);exact .inl rfl
   |int i=>obtain⟨t,z⟩:=(show ∃t,cv=Value.int i t from rc);subst z;simp[kitOne,kitCls] at hk
   |str i=>obtain⟨t,z⟩:=(show ∃t,cv=Value.str i t from rc);subst z;simp[kitOne,kitCls] at hk
   |byt i=>obtain⟨t,z⟩:=(show ∃t,cv=Value.bytes i t from rc);subst z;simp[kitOne,kitCls] at hk
   |flt i=>obtain⟨t,z⟩:=(show ∃t,cv=Value.float i t from rc);subst z;simp[kitOne,kitCls] at hk
  have hk2:kitOne X.K (.ref D) u2=some k:=by
   rcases this with z|z
   .rw[z];exact hk
   .exact z
  exact kia_one (Au F) I.kIn ho hk2 (fun z=>nomatch z) fun tk=>⟨.bl k,H,I.tok _,rfl,q⟩
 exact mI rule hg ml rfl (gz ha (gz hb g8 hs2)<|by rw[hs,hs2]) (he:=by rw[hs,hs2]) (hpl:=by rw[hs2];rfl)
end
def PJ(X:Cx)(es:Ś)(t:St->Hp->(Hp->Prop)->Prop):Prop:=
 ∀(pins:SL) (s:Shared) (L:St) (H:Hp) (Q:Hp->Prop) (acc:Str) (n:Nat),acc.length<=n->n+2000*es.length<=1000000->Inv X pins L H s->t L H Q->
  wpAny (model X.prog X.w) X.A (joinParts acc<|evalEach es X.env) (fun u s'=>∃z t H',u=.str z t/\Inv X pins L H' s'/\Q H') X.xe s
section
variable {X:Cx} {e e2:Expr} {es:Ś} {te:TE} {t:St->Hp->(Hp->Prop)->Prop} {p pos:Pos}
theorem HF:PJ X [] (fun _ H Q=>Q H):=fun pins s L H Q acc n h1 h2 I h=>joinParts_nil ⟨acc,_,H,rfl,I.tok _,h⟩ (by rw[Ue];simp at h2;omega)
theorem Fz{x:Str}{j:Nat}(hx:x.length<=2000)(hr:PJ X es t):PJ X (.Constant (.str x) j p::es) t:=by
 intro pins s L H Q acc n h1 h2 I h;have hl:(acc++x).length<=n+2000:=by rw[strLen_append];omega
 simp only[S9] at h2;show wpAny _ _ (joinParts acc<|eval (.Constant (.str x) j p) X.env::evalEach es X.env) _ _ s;refine joinParts_cons (thn (Ay pins s L H (fun v H'=>v=.str x/\H'=H) I ⟨rfl,rfl⟩) fun u s1 hm=>?_);obtain⟨v,H1,I1,r1,e1,e2⟩:=hm;subst e1 e2;obtain⟨tk,rfl⟩:=r1;exact⟨by rw[Ue];omega,hr pins s1 L _ Q _ (n+2000) hl ⋯ I1 h⟩
theorem GF(he:PE X e te)(hr:PJ X es t):PJ X (.FormattedValue e (-1) none p::es) (fun L H Q=>te L H fun v H1=>∃i,v=.int i/\i.natAbs.log2<1920/\t L H1 Q):=by
 intro pins s L H Q acc n h1 h2 I h;simp only[S9] at h2;show wpAny _ _ (joinParts acc<|eval (.FormattedValue e (-1) none p) X.env::evalEach es X.env) _ _ s;refine joinParts_cons (FormattedValue_plain<|thn (he pins s L H _ I h) fun u s1 hm=>?_);obtain⟨v,H1,I1,r1,i,ev,hi,q⟩:=hm;subst ev;obtain⟨tk,rfl⟩:=r1;refine(formatField_int_small hi ?_);have hz:=int_text_len_1921 hi;have hl:(acc++Str.ofString (toString i)).length<=n+2000:=by rw[strLen_append];omega
 exact⟨by rw[Ue];omega,hr pins _ L H1 Q _ (n+2000) hl ⋯ (I1.tok _) q⟩
theorem IT(h:PJ X (e::e2::es) t)(hl:(e::e2::es).length<=400:=by decide):PE X (.JoinedStr (e::e2::es) pos) (fun L H Q=>t L H fun H1=>∀z,Q (.str z) H1):=by
 intro pins s L H Q I q;refine JoinedStr_many ?_;refine thn (h pins s L H _ Str.empty 0 (TQ _) ⋯ I q) fun u s' hm=>?_;obtain⟨z,tk,H',eu,I',q'⟩:=hm;exact(⟨.str z,H',I',⟨tk,eu⟩,q' z⟩)
end
end L2
namespace L2
open PySem PySem.Spec PyProof.Rows
def ObjOk.there{P:Program}{w:World}{H:Hp}{h:Heap}{a:Addr}{o:HO}(x:ObjOk P w H h a o):∃ob,h.get? a=some ob:=by
 cases o with
 |lst xs=>obtain⟨_,_,_,_,e⟩:=x;exact⟨_,e⟩
 |tup xs=>obtain⟨_,_,_,p⟩:=x;obtain⟨ob,e,_⟩:=p;exact⟨_,e⟩
 |dK kvs=>obtain⟨_,_,_,_,o,_,_,e,_⟩:=x;exact⟨_,e⟩
 |dT kvs=>obtain⟨_,_,_,_,o,_,_,e,_⟩:=x;exact⟨_,e⟩
 |set S n=>obtain⟨o,_,_,_,e,_⟩:=x;exact⟨_,e⟩
 |ins C dx fs=>obtain⟨_,_,_,e,_⟩:=x;exact⟨_,e⟩
 |own y=>obtain⟨_,e⟩:=x;exact⟨_,e⟩
 |xd fs=>obtain⟨_,⟨_,_,_,e,_⟩,_⟩:=x;exact⟨_,e⟩
 |rng lo hi=>obtain⟨_,_,_,e⟩:=x;exact⟨_,e⟩
 |frz ob u=>obtain⟨e,_⟩:=x;exact⟨_,e⟩
 |tbl ps=>exact⟨_,(show h.get? a=some _ from x)⟩
 |met f y=>exact⟨_,(show h.get? a=some _ from x)⟩
 |ext φ=>obtain⟨_,e,_⟩:=x;exact e
structure Flew (P:Program) (w:World) (outer:ş) (H H':Hp) (s:Shared) (e:Addr) (C:Value) (Z8:Heap) (s':Shared):Prop where
 os:s'.os=s.os
 bare:AllBare s'.gens
 un:Un (frs outer) [] H H' s.heap s'.heap
 hok:HOk P w H' s'.heap
 trk:∀b o,s'.heap.get? b=some o->H' b≠none->Z8.get? b=some o
 old:∀b o,s.heap.get? b=some o->H b=none->b∉frs outer->Z8.get? b=some o
 thr:∀b o,s.heap.get? b=some o->b∉frs outer->∃o',Z8.get? b=some o'
 frf:∀b∈frs outer,H b=none
 unt:H' e=none
 new:s.heap.get? e=none
 fly:∃a0,Heap.FlyingW Z8 outer e C a0 s'.heap
def CXr(P:Program)(w:World):CXT:=fun outer H s E e s'=>∃(a:Addr) (C:Value) (H':Hp) (Z8:Heap),e=.ref a/\Flew P w outer H H' s a C Z8 s'/\E C none H'
section
variable {P:Program} {w:World} {outer:ş} {H H':Hp} {s s':Shared} {e:Addr} {C:Value} {Z8:Heap}
theorem Flew.to(F:Flew P w outer H H' s e C Z8 s')(hB:Z8.StaysIn h2)(hs:s'.heap.UpToSlots h2):Un (frs outer) [] H H' s.heap h2/\HOk P w H' h2/\∀b o,h2.get? b=some o->H' b≠none->Z8.get? b=some o:=by
 obtain⟨a0,fl⟩:=F.fly;have kp:∀b o,s.heap.get? b=some o->H b=none->b∉frs outer->h2.get? b=some o:=fun b o x n hb=>hB b o (F.old b o x n hb);have sl:∀b o,s.heap.get? b=some o->H b=none->b∈frs outer->∃sl,h2.get? b=some {o with slots:=sl}:=fun b o x n hb=>by
  obtain⟨sl,e1⟩:=F.un.slot b o x n hb nofun;obtain⟨_,o',e2,d⟩:=fl.2.2.1.mem hb;rw[e1] at e2;cases e2;obtain⟨sl',e3⟩:=hs b {o with slots:=sl} e1 d;exact(⟨sl',e3⟩)
 refine⟨⟨fun b o x n hb _=>kp b o x n hb,fun b o x n hb _=>sl b o x n hb,F.un.free,fun b o x _=>?_,F.un.tups,F.un.frzs,F.un.tbls⟩,fun a u eu=>?_,fun b o x n=>?_⟩
 .by_cases hb:b∈frs outer
  .obtain⟨l,e1⟩:=sl b o x (F.frf b hb) hb;exact⟨_,e1⟩
  .obtain⟨o',e1⟩:=F.thr b o x hb;exact⟨o',hB b o' e1⟩
 .refine(F.hok a u eu).stay (fun b v hb q=>hB b v<|F.trk b v q ?_) (fun _ q=>q) fun _ _ q=>q;rcases hb with z|z
  .rw[z,eu];simp
  .rw[z];simp
 .cases eu:H' b with
  |none=>exact absurd eu n
  |some u=>
   obtain⟨o1,e1⟩:=(F.hok b u eu).there;have e2:=F.trk b o1 e1 n;have e3:=hB b o1 e2;rw[x] at e3;cases e3;exact(e2)
theorem Flew.next(F:Flew P w outer H H' s e C Z8 s')(hs:s'.heap.UpToSlots h2)(fl:∃a0,Heap.FlyingW Z8 outer e C a0 h2):Flew P w outer H H' s e C Z8 {s' with heap:=h2}:=by
 obtain⟨a0,fl⟩:=fl;obtain⟨u,k,t⟩:=F.to fl.1 hs;exact(⟨F.os,F.bare,u,k,t,F.old,F.thr,F.frf,F.unt,F.new,a0,fl⟩)
theorem Flew.inv(F:Flew X.prog X.w X.stack H H' s e C Z8 s')(I:Inv X pins L H s):Inv X pins L H' s':=
 I.call' (ch:=[]) F.os F.un F.hok F.bare fun _ z=>nomatch z
end
section
variable {P:Program} {w:World} {K:Frag} {mg:ő} {base:Heap} {N:Ŗ} {qual:Str} {scope:Scope} {f:Addr} {cd:Value} {A:Around} {outer:ş} {s s1:Shared} {H H1:Hp} {E E':XK}
 {pins:SL} {L:St}
theorem Pw{h':Heap}{e C:Addr}{vs:Ő}(I:Inv (gk (CXr P w) P w K mg base N qual scope f cd A outer s H E) pins L H1 s1)(hx:Heap.MadeExcOf s1.heap h' e (.ref C) vs)(hE:E (.ref C) none H1):
  (gk (CXr P w) P w K mg base N qual scope f cd A outer s H E).xe (.ref e) {s1 with heap:=h'}:=by
 have fs:∀b,b∈frs (envOfC qual scope s.heap.objs.size f cd::outer)->H1 b=none:=I.stkFree;have inn:∀b o,s1.heap.get? b=some o->b∉frs (envOfC qual scope s.heap.objs.size f cd::outer)->(PySem.W.hideAll s1.heap<|frs<|envOfC qual scope s.heap.objs.size f cd::outer).get? b=some o:=fun b o e hb=>PySem.W.hideAll_get _ e hb;have out:∀b o,s.heap.get? b=some o->b∉frs outer->b∉frs (envOfC qual scope s.heap.objs.size f cd::outer):=fun b o e hb z=>by
  have z:b∈s.heap.objs.size::frs outer:=z;rcases S2.mp z with q|q
  .rw[q] at e;exact Ti _ (SI e)
  .exact hb q
 have frf:∀b∈frs outer,H b=none:=I.ok.frf;have hin:∀env∈(envOfC qual scope s.heap.objs.size f cd::outer),∀a,env.frame=some a->a∈frs (envOfC qual scope s.heap.objs.size f cd::outer):=fun env he a ha=>UU.mpr ⟨env,he,ha⟩;show wpAny (model P w) (A.deeper<|envOfC qual scope s.heap.objs.size f cd) (leaving (envOfC qual scope s.heap.objs.size f cd)<|.ref e) _ _ _;refine wpAny_leaves_madeW (base:=PySem.W.hideAll s1.heap (frs<|envOfC qual scope s.heap.objs.size f cd::outer)) I.ok.frames rfl (fun b o q=>PySem.W.of_hideAll _ q) (PySem.W.funFrames_hide I.stack hin) hx fun h2 t fl _ _ ups=>?_;have hB:=fl.1;have sl:∀b o,s.heap.get? b=some o->H b=none->b∈frs outer->∃sl,h2.get? b=some {o with slots:=sl}:=fun b o x n hb=>by
  obtain⟨sl,e1⟩:=I.base.slot b o x n hb (by simp[gk]);obtain⟨_,o',e2,d⟩:=I.stack.mem (show b∈s.heap.objs.size::frs outer from Tp _ hb);rw[e1] at e2;cases e2;obtain⟨sl',e3⟩:=ups b {o with slots:=sl} (hx.keeps b {o with slots:=sl} e1) d;exact(⟨sl',e3⟩)
 have old:∀b o,s.heap.get? b=some o->H b=none->b∉frs outer->(PySem.W.hideAll s1.heap<|frs<|envOfC qual scope s.heap.objs.size f cd::outer).get? b=some o:=fun b o x n hb=>
  inn b o (I.base.keep b o x n hb<|by simp[gk]) (out b o x hb)
 have thr:∀b o,s.heap.get? b=some o->b∉frs outer->∃o',(PySem.W.hideAll s1.heap<|frs<|envOfC qual scope s.heap.objs.size f cd::outer).get? b=some o':=fun b o x hb=>by
  obtain⟨o',e1⟩:=I.base.there b o x (by simp[gk]);exact(⟨o',inn b o' e1<|out b o x hb⟩)
 have nfr:∀b,H1 b≠none->b∉frs (envOfC qual scope s.heap.objs.size f cd::outer):=fun b n z=>n (fs b z);refine⟨e,.ref C,H1,_,rfl,⟨I.os,I.bare,⟨fun b o x n hb _=>hB b o (old b o x n hb),fun b o x n hb _=>sl b o x n hb,fun b o x n _=>I.base.free b o x n (by simp[gk]),fun b o x _=>?_,I.base.tups,I.base.frzs,I.base.tbls⟩,fun a u eu=>?_,fun b o x n=>?_,old,thr,frf,?_,?_,_,fl⟩,hE⟩
 .by_cases hb:b∈frs outer
  .obtain⟨l,e1⟩:=sl b o x (frf b hb) hb;exact⟨_,e1⟩
  .obtain⟨o',e1⟩:=thr b o x hb;exact⟨o',hB b o' e1⟩
 .refine(I.hok a u eu).stay (fun b v hb q=>hB b v<|inn b v q<|nfr b ?_) (fun _ q=>q) fun _ _ q=>q;rcases hb with z|z
  .rw[z,eu];simp
  .rw[z];simp
 .cases eu:H1 b with
  |none=>exact absurd eu n
  |some u=>
   obtain⟨o1,e1⟩:=(I.hok b u eu).there;have e2:=inn b o1 e1 (nfr b n);have e3:=hB b o1 e2;rw[x] at e3;cases e3;exact(e2)
 .cases eu:H1 e with
  |none=>rfl
  |some u=>
   obtain⟨o1,e1⟩:=(I.hok e u eu).there;rw[hx.new] at e1;cases e1
 .cases eo:s.heap.get? e with
  |none=>rfl
  |some o=>
   obtain⟨o1,e1⟩:=I.base.there e o eo (by simp[gk]);rw[hx.new] at e1;cases e1
theorem QN(hE:∀C d H',E' C d H'->E C d H'):mE (CXr P w) (gk (CXr P w) P w K mg base N qual scope f cd A outer s H E) E':=by
 intro pins L H1 s1 e s' I hc;obtain⟨a,C,H',Z8,rfl,F,q⟩:=hc;have F:Flew P w (envOfC qual scope s.heap.objs.size f cd::outer) H1 H' s1 a C Z8 s':=F;obtain⟨a0,fl⟩:=F.fly;have I2:Inv (gk (CXr P w) P w K mg base N qual scope f cd A outer s H E) pins L H' s':=Flew.inv (X:=gk (CXr P w) P w K mg base N qual scope f cd A outer s H E) F I;have out:∀b o,s.heap.get? b=some o->b∉frs outer->b∉frs (envOfC qual scope s.heap.objs.size f cd::outer):=fun b o e hb z=>by
  have z:b∈s.heap.objs.size::frs outer:=z;rcases S2.mp z with q|q
  .rw[q] at e;exact Ti _ (SI e)
  .exact hb q
 obtain⟨f1,f2,⟨_,_,f3⟩,f4⟩:=id fl;have G:Flew P w outer H H' s a C Z8 s':=by
  refine⟨I2.os,F.bare,⟨fun b o x n hb _=>I2.base.keep b o x n hb (by simp[gk]),fun b o x n hb _=>I2.base.slot b o x n hb (by simp[gk]),fun b o x n _=>I2.base.free b o x n (by simp[gk]),fun b o x _=>I2.base.there b o x (by simp[gk]),I2.base.tups,I2.base.frzs,I2.base.tbls⟩,F.hok,F.trk,
   fun b o x n hb=>F.old b o (I.base.keep b o x n hb<|by simp[gk]) (I.base.free b o x n<|by simp[gk]) (out b o x hb),fun b o x hb=>?_,I.ok.frf,F.unt,?_,a0,f1,f2,f3,f4⟩
  .obtain⟨o1,e1⟩:=I.base.there b o x (by simp[gk]);exact F.thr b o1 e1 (out b o x hb)
  .cases eo:s.heap.get? a with
   |none=>rfl
   |some o=>
    obtain⟨o1,e1⟩:=I.base.there a o eo (by simp[gk]);rw[F.new] at e1;cases e1
 show wpAny (model P w) (A.deeper<|envOfC qual scope s.heap.objs.size f cd) (leaving (envOfC qual scope s.heap.objs.size f cd)<|.ref a) _ _ _;exact wpAny_leaves_onW I.ok.frames rfl fl fun h2 fl2 ups=>⟨a,C,H',Z8,rfl,G.next ups ⟨_,fl2⟩,hE C none H' q⟩
end
end L2
namespace L3
open PySem PySem.Spec L2
inductive D where
 |non|bl (b:Bool)|int (i:Int)|str (x:Str)|lst (xs:List D)|scr (xs:List D)|tup (xs:List D)|gt (xs:List D)|ref (k:Nat)
abbrev _root_.Ť:=List (Str×D)
abbrev _root_.ţ:=Option D
abbrev _root_.ŗ:=List D
inductive Z9 where
 |lst (xs:ŗ)|dK (kvs:List (Key×D))|dN (kvs:List (NK×D))|ins (C:Addr) (fs:Ť)|exc (C:Addr)
abbrev M:=List (Option Z9)
abbrev _root_.Ţ:=Option (Bool×M)
abbrev SB:=Option (D×M)
abbrev Fr:=ŗ->M->SB
abbrev G:=List ţ
structure Wd where
 ρ:ś
 O:M
 H:Hp
 hid:Addr->Prop
def SqF(K:Frag)(H:Hp)(a:Addr)(xs:Ř):Prop:=(∃o,H a=some (.frz o<|.lst xs))\/
  ∃(o:Obj) (its:Array Value) (n:Nat),K.lookup a=some o/\o.cls=.type "list"/\o.dict=none/\o.data=.seq its n/\its.size<=sizeLine/\Vals xs its.toList
def SqF.seq{K:Frag}{H:Hp}{a:Addr}{xs:Ř}(h:SqF K H a xs):SqL K H a xs:=by
 rcases h with h|h
 .exact .inl (.inr h)
 .exact .inr h
def RL(W:Wd)(a:Addr):Prop:=∃(k:Nat) (o:Z9),W.O[k]?=some (some o)/\W.ρ[k]?=some a
def qU(W:Wd)(a:Addr):Prop:=RL W a\/W.hid a
mutual
inductive DR (K:Frag) (W:Wd):D->V->Prop where
 |non:DR K W .non .non
 |bl (b:Bool):DR K W (.bl b) (.bl b)
 |int (i:Int):DR K W (.int i) (.int i)
 |str (x:Str):DR K W (.str x) (.str x)
 |ref {k:Nat} {a:Addr}:W.ρ[k]?=some a->DR K W (.ref k) (.ref a)
 |lst {a:Addr} {vs:Ř} {ds:ŗ}:W.H a=some (.lst vs)->¬qU W a->DRs K W ds vs->DR K W (.lst ds) (.ref a)
 |scr {a:Addr} {vs:Ř} {ds:ŗ}:SqF K W.H a vs->DRs K W ds vs->DR K W (.scr ds) (.ref a)
 |tup {a:Addr} {vs:Ř} {ds:ŗ}:W.H a=some (.tup vs)->DRs K W ds vs->DR K W (.tup ds) (.ref a)
 |gt {a:Addr} {vs:Ř} {ds:ŗ}:SqT K W.H a vs->DRs K W ds vs->DR K W (.gt ds) (.ref a)
inductive DRs (K:Frag) (W:Wd):ŗ->Ř->Prop where
 |nil:DRs K W [] []
 |cons {d:D} {v:V} {ds:ŗ} {vs:Ř}:DR K W d v->DRs K W ds vs->DRs K W (d::ds) (v::vs)
end
def KR(K:Frag)(W:Wd):List (Key×D)->List (Key×V)->Prop:=Paired fun p q=>p.1=q.1/\DR K W p.2 q.2
def NR(K:Frag)(W:Wd):List (NK×D)->List (NK×V)->Prop:=Paired fun p q=>p.1=q.1/\DR K W p.2 q.2
def FR(K:Frag)(W:Wd):Ť->š->Prop:=Paired fun p q=>p.1=q.1/\DR K W p.2 q.2
def OR(K:Frag)(W:Wd)(a:Addr):Z9->HO->Prop
 | .lst ds,ho=>∃vs,ho=.lst vs/\DRs K W ds vs
 | .dK kvs,ho=>∃vs,ho=.dK vs/\KR K W kvs vs
 | .dN kvs,ho=>∃vs,ho=.dT vs/\NR K W kvs vs
 | .ins C fs,ho=>∃vs,(∃dx,ho=.ins C dx vs)/\FR K W fs vs
 | .exc C,ho=>ho=i4 a C
structure Ok (K:Frag) (W:Wd):Prop where
 len:W.ρ.length=W.O.length
 nd:W.ρ.Nodup
 rs:∀a∈W.ρ,W.H a≠none
 at_:∀(k:Nat) (o:Z9),W.O[k]?=some (some o)->∃a ho,W.ρ[k]?=some a/\W.H a=some ho/\OR K W a o ho
 hd0:∀a,W.hid a->W.H a≠none/\a∉W.ρ
def Ok.hd{K:Frag}{W:Wd}(ok:Ok K W):∀a,W.hid a->W.H a≠none/\¬RL W a:=fun a z=>⟨(ok.hd0 a z).1,fun⟨_,_,_,h⟩=>(ok.hd0 a z).2 (UH h)⟩
structure Step (W W':Wd):Prop where
 ρ:∀(k:Nat) a,W.ρ[k]?=some a->W'.ρ[k]?=some a
 live:∀a,RL W' a->RL W a\/W.H a=none
 keep:∀a o,W.H a=some o->¬RL W a->W'.H a=some o
 hid:W'.hid=W.hid
 still:∀a,W.H a≠none->W'.H a≠none
structure EnvR (K:Frag) (W:Wd) (B:G) (L:St):Prop where
 len:B.length=L.length
 at_:∀(i:Nat) d,B[i]?=some (some d)->∃v,L[i]?=some (some v)/\DR K W d v
section
variable {K:Frag} {W W' W'':Wd} {B:G} {L:St}
theorem Step.refl:Step W W:=⟨fun _ _ h=>h,fun _ h=>.inl h,fun _ _ h _=>h,rfl,fun _ h=>h⟩
theorem Step.nlive(s:Step W W')(h:W.H a=some o)(n:¬RL W a):¬RL W' a:=fun z=>by
 rcases s.live a z with z|z
 .exact n z
 .rw[h] at z;cases z
theorem Step.trans(s:Step W W')(t:Step W' W''):Step W W'' where
 ρ k a h:=t.ρ k a (s.ρ k a h)
 live a h:=by
  rcases t.live a h with z|z
  .exact s.live a z
  .exact .inr (T2 fun n=>s.still a n z)
 keep a o h n:=t.keep a o (s.keep a o h n) (s.nlive h n)
 hid:=t.hid.trans s.hid
 still a h:=t.still a (s.still a h)
theorem Step.nLive(s:Step W W')(h:W.H a=some o)(n:¬qU W a):¬qU W' a:=fun z=>by
 rcases z with z|z
 .exact s.nlive h (fun q=>n<|.inl q) z
 .rw[s.hid] at z;exact n (.inr z)
theorem MR(s:Step W W')(n:¬RL W a)(r:Rd W.H a u):Rd W'.H a u:=by
 rcases r with h|⟨o,h⟩
 .exact .inl (s.keep _ _ h n)
 .exact .inr ⟨o,s.keep _ _ h n⟩
theorem Ok.notup(ok:Ok K W)(r:Rd W.H a (.tup vs)):¬RL W a:=fun⟨k,o,hk,ha⟩=>by
 obtain⟨a',ho,h1,h2,h3⟩:=ok.at_ k o hk;rw[ha] at h1;cases h1;rcases r with h|⟨q,h⟩
 .rw[h2] at h;cases o with
  |lst ds=>obtain⟨ws,rfl,_⟩:=h3;cases h
  |dK kvs=>obtain⟨ws,rfl,_⟩:=h3;cases h
  |dN kvs=>obtain⟨ws,rfl,_⟩:=h3;cases h
  |ins C fs=>obtain⟨ws,⟨dx,rfl⟩,_⟩:=h3;cases h
  |exc C=>cases (show _=_ from h3);cases h
 .rw[h2] at h;cases o with
  |lst ds=>obtain⟨ws,rfl,_⟩:=h3;cases h
  |dK kvs=>obtain⟨ws,rfl,_⟩:=h3;cases h
  |dN kvs=>obtain⟨ws,rfl,_⟩:=h3;cases h
  |ins C fs=>obtain⟨ws,⟨dx,rfl⟩,_⟩:=h3;cases h
  |exc C=>cases (show _=_ from h3);cases h
theorem DO(ok:Ok K W)(s:Step W W'){a:Addr}{vs:Ř}(h:SqT K W.H a vs):SqT K W'.H a vs:=by
 rcases h with h|h
 .exact .inl (MR s (ok.notup h) h)
 .exact .inr h
theorem Ok.nofrz(ok:Ok K W)(h:W.H a=some (.frz q u)):¬RL W a:=fun⟨k,o,hk,ha⟩=>by
 obtain⟨a',ho,h1,h2,h3⟩:=ok.at_ k o hk;rw[ha] at h1;cases h1;rw[h2] at h;cases o with
 |lst ds=>obtain⟨ws,rfl,_⟩:=h3;cases h
 |dK kvs=>obtain⟨ws,rfl,_⟩:=h3;cases h
 |dN kvs=>obtain⟨ws,rfl,_⟩:=h3;cases h
 |ins C fs=>obtain⟨ws,⟨dx,rfl⟩,_⟩:=h3;cases h
 |exc C=>cases (show _=_ from h3);cases h
theorem Be(ok:Ok K W)(s:Step W W'){a:Addr}{vs:Ř}(h:SqF K W.H a vs):SqF K W'.H a vs:=by
 rcases h with⟨o,h⟩|h
 .exact .inl ⟨o,s.keep _ _ h<|ok.nofrz h⟩
 .exact .inr h
mutual
theorem DR.step(ok:Ok K W)(s:Step W W'):∀{d:D} {v:V},DR K W d v->DR K W' d v
 |_,_,.non=>.non
 |_,_,.bl b=>.bl b
 |_,_,.int i=>.int i
 |_,_,.str x=>.str x
 |_,_,.ref h=>.ref (s.ρ _ _ h)
 |_,_,.lst r n h=>.lst (s.keep _ _ r<|fun z=>n<|.inl z) (s.nLive r n) (DRs.step ok s h)
 |_,_,.scr r h=>.scr (Be ok s r) (DRs.step ok s h)
 |_,_,.tup r h=>.tup (s.keep _ _ r<|ok.notup<|.inl r) (DRs.step ok s h)
 |_,_,.gt r h=>.gt (DO ok s r) (DRs.step ok s h)
theorem DRs.step(ok:Ok K W)(s:Step W W'):∀{ds:ŗ} {vs:Ř},DRs K W ds vs->DRs K W' ds vs
 |_,_,.nil=>.nil
 |_,_,.cons h t=>.cons (h.step ok s) (DRs.step ok s t)
end
theorem KR.step(ok:Ok K W)(s:Step W W'){kvs:List (Key×D)}{vs:List (Key×V)}(h:KR K W kvs vs):KR K W' kvs vs:=Paired.mapP h fun _ _ ⟨e,q⟩=>⟨e,q.step ok s⟩
theorem NR.step(ok:Ok K W)(s:Step W W'){kvs:List (NK×D)}{vs:List (NK×V)}(h:NR K W kvs vs):NR K W' kvs vs:=Paired.mapP h fun _ _ ⟨e,q⟩=>⟨e,q.step ok s⟩
theorem FR.step(ok:Ok K W)(s:Step W W'){kvs:Ť}{vs:š}(h:FR K W kvs vs):FR K W' kvs vs:=Paired.mapP h fun _ _ ⟨e,q⟩=>⟨e,q.step ok s⟩
theorem OR.step(ok:Ok K W)(s:Step W W'){a:Addr}{o:Z9}{ho:HO}(h:OR K W a o ho):OR K W' a o ho:=by
 cases o with
 |lst ds=>obtain⟨vs,e,q⟩:=h;exact⟨vs,e,q.step ok s⟩
 |dK kvs=>obtain⟨vs,e,q⟩:=h;exact⟨vs,e,q.step ok s⟩
 |dN kvs=>obtain⟨vs,e,q⟩:=h;exact⟨vs,e,q.step ok s⟩
 |ins C fs=>obtain⟨vs,e,q⟩:=h;exact⟨vs,e,q.step ok s⟩
 |exc C=>exact h
theorem EnvR.step(e:EnvR K W B L)(ok:Ok K W)(s:Step W W'):EnvR K W' B L:=⟨e.len,fun i d h=>let ⟨v,a,b⟩:=e.at_ i d h;⟨v,a,b.step ok s⟩⟩
theorem DRs.length:∀{ds:ŗ} {vs:Ř},DRs K W ds vs->ds.length=vs.length
 |_,_,.nil=>rfl
 |_,_,.cons _ t=>by simp[t.length]
theorem DRs.get:∀{ds:ŗ} {vs:Ř} {i:Nat} {d:D},DRs K W ds vs->ds[i]?=some d->∃v,vs[i]?=some v/\DR K W d v
 |_,_,_,_,.nil,e=>by simp at e
 |_,_,0,_,.cons h _,e=>by simp at e;subst e;exact⟨_,rfl,h⟩
 |_,_,i+1,d,.cons _ t,e=>by
  obtain⟨v,h1,h2⟩:=DRs.get (i:=i) (d:=d) t (by simpa using e);exact(⟨v,by simpa using h1,h2⟩)
theorem DRs.append:∀{ds es:ŗ} {vs us:Ř},DRs K W ds vs->DRs K W es us->DRs K W (ds++es) (vs++us)
 |_,_,_,_,.nil,s=>s
 |_,_,_,_,.cons h t,s=>.cons h (DRs.append t s)
theorem DRs.take:∀{ds:ŗ} {vs:Ř} (n:Nat),DRs K W ds vs->DRs K W (ds.take n) (vs.take n)
 |_,_,0,_=>.nil
 |_,_,_+1,.nil=>.nil
 |_,_,n+1,.cons r t=>.cons r (DRs.take n t)
theorem DRs.drop:∀{ds:ŗ} {vs:Ř} (n:Nat),DRs K W ds vs->DRs K W (ds.drop n) (vs.drop n)
 |_,_,0,r=>r
 |_,_,_+1,.nil=>.nil
 |_,_,n+1,.cons _ t=>DRs.drop n t
theorem DRs.set(r:DR K W d v):∀{ds:ŗ} {vs:Ř} (i:Nat),DRs K W ds vs->DRs K W (ds.set i d) (vs.set i v)
 |_,_,_,.nil=>.nil
 |_,_,0,.cons _ t=>.cons r t
 |_,_,i+1,.cons q t=>.cons q (DRs.set r i t)
theorem DRs.rep(h:DRs K W ds vs):∀n,DRs K W (List.replicate n ds).flatten (List.replicate n vs).flatten
 |0=>.nil
 |n+1=>by simp only[Uc,UB];exact h.append (DRs.rep h n)
end
section
variable {K:Frag} {W:Wd}
def Wd.lay(W:Wd)(p:Addr)(o:HO):Wd:={W with H:=upd W.H p o}
theorem JP(ok:Ok K W)(h:W.H p=none):¬RL W p:=fun⟨k,o,_,ha⟩=>ok.rs p (UH ha) h
theorem CV(ok:Ok K W)(h:W.H p=none):¬W.hid p:=fun z=>(ok.hd p z).1 h
theorem Qk(ok:Ok K W){p:Addr}(h:W.H p=none):¬qU W p:=fun z=>z.elim (JP ok h) (CV ok h)
theorem gP{p:Addr}{o:HO}(h:W.H p=none):Step W (W.lay p o) where
 ρ _ _ h:=h
 live _ h:=.inl h
 keep a u e _:=by show upd W.H p o a=_;rw[fR (iA e h)];exact e
 hid:=rfl
 still a n:=by
  show upd W.H p o a≠none;by_cases e:a=p
  .subst e;rw[gH];simp
  .rw[fR e];exact n
theorem iG(ok:Ok K W)(h:W.H p=none):Ok K (W.lay p o) where
 len:=ok.len
 nd:=ok.nd
 rs a m:=(gP h).still a (ok.rs a m)
 at_ k u e:=by
  obtain⟨a,ho,h1,h2,h3⟩:=ok.at_ k u e;refine(⟨a,ho,h1,?_,h3.step ok<|gP h⟩);show upd W.H p o a=_;rw[fR (iA h2 h)];exact h2
 hd0 a z:=⟨(gP h).still a (ok.hd a z).1,(ok.hd0 a z).2⟩
theorem Rr(ok:Ok K W){p:Addr}{o:HO}(h:W.H p=none):¬qU (W.lay p o) p:=Qk ok h
theorem pW(ok:Ok K W)(h:W.H p=none)(r:DRs K W ds vs):DR K (W.lay p<|.lst vs) (.lst ds) (.ref p):=
 .lst gH (Rr ok h) (r.step ok<|gP h)
theorem mf(ok:Ok K W)(h:W.H p=none)(r:DRs K W ds vs):DR K (W.lay p<|.tup vs) (.tup ds) (.ref p):=
 .tup gH (r.step ok<|gP h)
def Wd.new(W:Wd)(p:Addr)(o:HO)(x:Z9):Wd:={W with H:=upd W.H p o,ρ:=W.ρ++[p],O:=W.O++[some x]}
theorem sS{J:Type}{l:List J}{x y:J}{k:Nat}(h:(l++[x])[k]?=some y):l[k]?=some y\/(k=l.length/\y=x):=by
 by_cases hk:k<l.length
 .rw[S1 hk] at h;exact .inl h
 .rw[Th ⋯] at h;have:k - l.length=0:=by
   cases e:k - l.length with
   |zero=>rfl
   |succ n=>rw[e] at h;simp at h
  rw[this] at h;simp at h;exact .inr ⟨by omega,h.symm⟩
theorem Jo(ok:Ok K W){p a:Addr}{o:HO}{x:Z9}(h:RL (W.new p o x) a):RL W a\/a=p:=by
 obtain⟨k,u,h1,h2⟩:=h;rcases sS h1 with z|⟨e,_⟩
 .rcases sS h2 with y|⟨e,y⟩
  .exact .inl ⟨k,u,z,y⟩
  .have:=(SG.mp z).1;rw[e,ok.len] at this;omega
 .rcases sS h2 with y|⟨_,y⟩
  .have:=(SG.mp y).1;rw[e,←ok.len] at this;omega
  .exact .inr y
theorem j6(ok:Ok K W){p:Addr}{o:HO}{x:Z9}(h:W.H p=none):Step W (W.new p o x) where
 ρ k a e:=by
  show(W.ρ++[p])[k]?=_;rw[S1 (SG.mp e).1];exact e
 live a z:=by
  rcases Jo ok z with z|rfl
  .exact .inl z
  .exact .inr h
 keep a u e _:=by show upd W.H p o a=_;rw[fR (iA e h)];exact e
 hid:=rfl
 still a n:=by
  show upd W.H p o a≠none;by_cases e:a=p
  .subst e;rw[gH];simp
  .rw[fR e];exact n
theorem pK(ok:Ok K W){p:Addr}{o:HO}{x:Z9}(h:W.H p=none)(r:OR K W p x o):Ok K (W.new p o x) where
 len:=by show(W.ρ++[p]).length=(W.O++[some x]).length;simp[ok.len]
 nd:=by
  show(W.ρ++[p]).Nodup;rw[UE];refine⟨ok.nd,by simp,fun a ha b hb e=>?_⟩;simp at hb;subst hb e;exact ok.rs _ ha h
 rs a m:=by
  rcases Tb.mp m with m|m
  .exact(j6 ok h).still a (ok.rs a m)
  .simp at m;subst m;show upd W.H a o a≠none;rw[gH];simp
 at_ k u e:=by
  rcases sS e with e|⟨e,y⟩
  .obtain⟨a,ho,h1,h2,h3⟩:=ok.at_ k u e;refine⟨a,ho,(j6 ok h).ρ k a h1,?_,h3.step ok<|j6 ok h⟩;show upd W.H p o a=_;rw[fR (iA h2 h)];exact h2
  .cases y;rename_i hk;refine⟨p,o,?_,gH,r.step ok<|j6 ok h⟩;show(W.ρ++[p])[k]?=_;rw[hk,←ok.len];simp
 hd0 a z:=by
  refine⟨(j6 ok h).still a (ok.hd a z).1,fun q=>?_⟩;have q:a∈W.ρ++[p]:=q;rcases Tb.mp q with q|q
  .exact(ok.hd0 a z).2 q
  .simp at q;subst q;exact(ok.hd a z).1 h
theorem nK(ok:Ok K W):DR K (W.new p o x) (.ref W.O.length) (.ref p):=by
 refine .ref ?_;show(W.ρ++[p])[W.O.length]?=_;rw[←ok.len];simp
def Wd.put(W:Wd)(k:Nat)(a:Addr)(o:HO)(x:Z9):Wd:={W with H:=upd W.H a o,O:=W.O.set k (some x)}
theorem Ni(hk:W.O[k]?=some (some y)):RL (W.put k a o x) b↔RL W b:=by
 have hlt:=(SG.mp hk).1;constructor
 .rintro⟨j,u,h1,h2⟩;have h1:(W.O.set k<|some x)[j]?=some (some u):=h1;by_cases e:j=k
  .subst e;exact⟨j,y,hk,h2⟩
  .rw[S4 (Ne.symm e)] at h1;exact⟨j,u,h1,h2⟩
 .rintro⟨j,u,h1,h2⟩;by_cases e:j=k
  .subst e;exact⟨j,x,by show(W.O.set j<|some x)[j]?=_;simp[hlt],h2⟩
  .exact⟨j,u,by show(W.O.set k<|some x)[j]?=_;rw[S4 (Ne.symm e)];exact h1,h2⟩
theorem mz(hk:W.O[k]?=some (some y))(ha:W.ρ[k]?=some a):Step W (W.put k a o x) where
 ρ _ _ h:=h
 live b z:=.inl ((Ni hk).mp z)
 keep b u e n:=by
  have hne:b≠a:=fun z=>n (by rw[z];exact⟨k,y,hk,ha⟩);show upd W.H a o b=_;rw[fR hne];exact e
 hid:=rfl
 still b n:=by
  show upd W.H a o b≠none;by_cases e:b=a
  .subst e;rw[gH];simp
  .rw[fR e];exact n
theorem tF(ok:Ok K W)(hk:W.O[k]?=some (some y))(ha:W.ρ[k]?=some a)(r:OR K W a x o):Ok K (W.put k a o x) where
 len:=by show W.ρ.length=(W.O.set k<|some x).length;simp[ok.len]
 nd:=ok.nd
 rs b m:=(mz hk ha).still b (ok.rs b m)
 at_ j u e:=by
  have e:(W.O.set k<|some x)[j]?=some (some u):=e;by_cases z:j=k
  .subst z;have hlt:=(SG.mp hk).1;simp[hlt] at e;subst e;exact⟨a,o,ha,gH,r.step ok<|mz hk ha⟩
  .rw[S4 (Ne.symm z)] at e;obtain⟨b,ho,h1,h2,h3⟩:=ok.at_ j u e;refine(⟨b,ho,h1,?_,h3.step ok<|mz hk ha⟩);have hne:b≠a:=fun q=>z (C3 ok.nd h1 (by rw[q];exact ha));show upd W.H a o b=_;rw[fR hne];exact h2
 hd0 b z:=⟨(mz hk ha).still b (ok.hd b z).1,(ok.hd0 b z).2⟩
def Wd.frz(W:Wd)(k:Nat):Wd:={W with O:=W.O.set k none}
theorem BI(h:RL (W.frz k) b):RL W b/\∀a,W.ρ[k]?=some a->W.ρ.Nodup->b≠a:=by
 obtain⟨j,u,h1,h2⟩:=h;have h1:(W.O.set k none)[j]?=some (some u):=h1;by_cases e:j=k
 .subst e;by_cases hl:j<W.O.length
  .simp[hl] at h1
  .rw[UO.mpr (by simpa using hl)] at h1;cases h1
 .rw[S4 (Ne.symm e)] at h1;exact⟨⟨j,u,h1,h2⟩,fun a ha nd z=>e<|C3 nd (show W.ρ[j]?=some b from h2)<|z▸ha⟩
theorem wJ:Step W (W.frz k) where
 ρ _ _ h:=h
 live b z:=.inl (BI z).1
 keep b u e _:=e
 hid:=rfl
 still b n:=n
theorem Hq(ok:Ok K W):Ok K (W.frz k) where
 len:=by show W.ρ.length=(W.O.set k none).length;simp[ok.len]
 nd:=ok.nd
 rs:=ok.rs
 at_ j u e:=by
  have e:(W.O.set k none)[j]?=some (some u):=e;by_cases z:j=k
  .subst z;by_cases hl:j<W.O.length
   .simp[hl] at e
   .rw[UO.mpr (by simpa using hl)] at e;cases e
  .rw[S4 (Ne.symm z)] at e;obtain⟨b,ho,h1,h2,h3⟩:=ok.at_ j u e;exact(⟨b,ho,h1,h2,h3.step ok wJ⟩)
 hd0 b z:=⟨(ok.hd b z).1,(ok.hd0 b z).2⟩
theorem MG(ok:Ok K W)(hk:W.O[k]?=some (some<|.lst ds))(h:DR K W (.ref k) v):DR K (W.frz k) (.lst ds) v:=by
 cases h with
 |ref ha=>
  obtain⟨a',ho,h1,h2,vs,rfl,r⟩:=ok.at_ k _ hk;rw[ha] at h1;cases h1;refine(.lst h2 (fun z=>?_)<|r.step ok wJ);rcases z with z|z
  .exact(BI z).2 _ ha ok.nd rfl
  .exact(ok.hd _ z).2 ⟨k,_,hk,ha⟩
def Wd.hide(W:Wd)(p:Addr)(o:HO):Wd:={W with H:=upd W.H p o,hid:=fun a=>a=p\/W.hid a}
end
abbrev EV:=G->M->SB
abbrev BV:=G->M->Ţ
abbrev LV:=G->M->Option (List D×M)
inductive Out where
 |nx|bk|ct|rt (d:D)
abbrev SV:=G->M->Option (Out×G×M)
section
variable (K:Frag)
def tD(ev:EV):TE:=fun L H Q=>∃(W:Wd) (B:G) (d:D) (Z5:M),W.H=H/\Ok K W/\EnvR K W B L/\ev B W.O=some (d,Z5)/\∀v W',W'.O=Z5->Ok K W'->Step W W'->DR K W' d v->Q v W'.H
def tDB(ev:BV):TT:=fun L H Q=>∃(W:Wd) (B:G) (b:Bool) (Z5:M),W.H=H/\Ok K W/\EnvR K W B L/\ev B W.O=some (b,Z5)/\∀W',W'.O=Z5->Ok K W'->Step W W'->Q b W'.H
def tDL(ev:LV):TA:=fun L H Q=>∃(W:Wd) (B:G) (ds:ŗ) (Z5:M),W.H=H/\Ok K W/\EnvR K W B L/\ev B W.O=some (ds,Z5)/\∀vs W',W'.O=Z5->Ok K W'->Step W W'->DRs K W' ds vs->Q vs W'.H
def fin(D:Ends)(W':Wd)(Z0:St):Out->Prop
 | .nx=>D.nx Z0 W'.H
 | .bk=>D.bk Z0 W'.H
 | .ct=>D.ct Z0 W'.H
 | .rt d=>∀v,DR K W' d v->D.rt v W'.H
def tDS(es:SV):TS:=fun D L H=>∃(W:Wd) (B:G) (out:Out) (ZX:G) (Z5:M),W.H=H/\Ok K W/\EnvR K W B L/\es B W.O=some (out,ZX,Z5)/\∀W' Z0,W'.O=Z5->Ok K W'->Step W W'->EnvR K W' ZX Z0->fin K D W' Z0 out
end
section
variable {X:Cx} {e:Expr}
theorem fZ(h:PE X e t)(hi:∀L H Q,t' L H Q->t L H Q):PE X e t':=fun pins s L H Q I hw=>h pins s L H Q I (hi _ _ _ hw)
theorem l9(h:PT X e t)(hi:∀L H Q,t' L H Q->t L H Q):PT X e t':=fun pins s L H Q I hw=>h pins s L H Q I (hi _ _ _ hw)
theorem zT(h:PW X e t)(hi:∀L H Q,t' L H Q->t L H Q):PW X e t':=fun wh pins s L H Q I hw=>h wh pins s L H Q I (hi _ _ _ hw)
theorem sq(h:PA X es t)(hi:∀L H Q,t' L H Q->t L H Q):PA X es t':=fun pos pins s L H Q I hw=>h pos pins s L H Q I (hi _ _ _ hw)
theorem hX(h:PS X st t)(hi:∀D L H,t' D L H->t D L H):PS X st t':=fun pins s L H D I hw=>h pins s L H D I (hi _ _ _ hw)
theorem qu(h:PSs X st t)(hi:∀D L H,t' D L H->t D L H):PSs X st t':=fun pins s L H D I hw=>h pins s L H D I (hi _ _ _ hw)
end
def bnd{J β:Type}{x:Option J}{f:J->Option β}{b:β}(h:x.bind f=some b):∃a,x=some a/\f a=some b:=T8.mp h
def el4{J:Type}{p:Wd->Prop}{q:Wd->G->Prop}{r s:Wd->G->J->M->Prop}{Z:Prop}{H:Hp}(h:∃(W:Wd) (B:G) (d:J) (Z5:M),W.H=H/\p W/\q W B/\r W B d Z5/\s W B d Z5)(k:∀W B d Z5,W.H=H->p W->q W B->r W B d Z5->s W B d Z5->Z):Z:=by
 obtain⟨W,B,d,Z5,rfl,a,b,c,e⟩:=h;exact(k W B d Z5 rfl a b c e)
def el5{J β:Type}{p:Wd->Prop}{q:Wd->G->Prop}{r s:Wd->G->J->β->M->Prop}{Z:Prop}{H:Hp}(h:∃(W:Wd) (B:G) (d:J) (b:β) (Z5:M),W.H=H/\p W/\q W B/\r W B d b Z5/\s W B d b Z5)(k:∀W B d b Z5,W.H=H->p W->q W B->r W B d b Z5->s W B d b Z5->Z):Z:=by
 obtain⟨W,B,d,x,Z5,rfl,a,b,c,e⟩:=h;exact(k W B d x Z5 rfl a b c e)
def fF{J β:Type}{x:Option J}{f:J->Option β}{b:β}{Z:Prop}(h:x.bind f=some b)(k:∀a,x=some a->f a=some b->Z):Z:=by
 obtain⟨a,h1,h2⟩:=bnd h;exact(k a h1 h2)
def gu(O:M):D->Option ŗ
 | .lst ds=>some ds
 | .scr ds=>some ds
 | .ref k=>match O[k]? with
  |some (some<|.lst ds)=>some ds
  |_=>none
 |_=>none
def lA(O:M):D->Option ŗ
 | .lst ds=>some ds
 | .ref k=>match O[k]? with
  |some (some<|.lst ds)=>some ds
  |_=>none
 |_=>none
def lq:D->Option ŗ
 | .tup ds=>some ds
 | .gt ds=>some ds
 |_=>none
section
variable {K:Frag} {W:Wd} {d:D} {ds:ŗ} {v:V}
theorem m4(ok:Ok K W)(h:W.O[k]?=some (some<|.lst ds))(r:DR K W (.ref k) v):∃a vs,v=.ref a/\W.ρ[k]?=some a/\W.H a=some (.lst vs)/\DRs K W ds vs:=by
 cases r with
 |ref ha=>
  obtain⟨a',ho,h1,h2,vs,rfl,r⟩:=ok.at_ k _ h;rw[ha] at h1;cases h1;exact(⟨_,vs,rfl,ha,h2,r⟩)
theorem rX(ok:Ok K W)(h:lA W.O d=some ds)(r:DR K W d v):∃a vs,v=.ref a/\W.H a=some (.lst vs)/\DRs K W ds vs:=by
 cases d with
 |lst xs=>
  cases h;cases r with
  |lst r n h=>exact⟨_,_,rfl,r,h⟩
 |ref k=>
  simp only[lA] at h;split at h
  .rename_i xs hk;cases h;obtain⟨a,vs,e,_,e2,e3⟩:=m4 ok hk r;exact(⟨a,vs,e,e2,e3⟩)
  .cases h
 |_=>cases h
theorem lK(ok:Ok K W)(h:gu W.O d=some ds)(r:DR K W d v):∃a vs,v=.ref a/\SqL K W.H a vs/\DRs K W ds vs:=by
 cases d with
 |lst xs=>
  cases h;cases r with
  |lst r n h=>exact⟨_,_,rfl,SqL.of r,h⟩
 |scr xs=>
  cases h;cases r with
  |scr r h=>exact⟨_,_,rfl,r.seq,h⟩
 |ref k=>
  simp only[gu] at h;split at h
  .rename_i xs hk;cases h;obtain⟨a,vs,e,_,e2,e3⟩:=m4 ok hk r;exact(⟨a,vs,e,SqL.of e2,e3⟩)
  .cases h
 |_=>cases h
theorem lS(h:lq d=some ds)(r:DR K W d v):∃a vs,v=.ref a/\SqT K W.H a vs/\DRs K W ds vs:=by
 cases d with
 |tup xs=>
  cases h;cases r with
  |tup r h=>exact⟨_,_,rfl,SqT.of r,h⟩
 |gt xs=>
  cases h;cases r with
  |gt r h=>exact⟨_,_,rfl,r,h⟩
 |_=>cases h
theorem Ah(r:DRs K W ds vs)(h:atI ds i=some d):∃v,atI vs i=some v/\DR K W d v:=by
 unfold atI at h⊢;refine fF h fun j h1 h2=>?_;rw[r.length] at h1;obtain⟨v,e,q⟩:=r.get h2;exact⟨v,by rw[h1];exact e,q⟩
end
def be(i:Nat):EV:=fun B O=>match B[i]? with
 |some (some d)=>some (d,O)
 |_=>none
def vC(d:D):EV:=fun _ O=>some (d,O)
def v2(f:D->D->M->SB)(ea eb:EV):EV:=fun B O=>(ea B O).bind fun p=>(eb B p.2).bind fun q=>f p.1 q.1 q.2
def v1(f:D->M->SB)(ea:EV):EV:=fun B O=>(ea B O).bind fun p=>f p.1 p.2
def R2A(K:Frag)(r:R2)(f:D->D->M->SB):Prop:=∀(W:Wd) (x y:V) (d e z:D) (Z5:M) (Q:VK),Ok K W->DR K W d x->DR K W e y->f d e W.O=some (z,Z5)->
 (∀v W',W'.O=Z5->Ok K W'->Step W W'->DR K W' z v->Q v W'.H)->r x y W.H Q
def R1A(K:Frag)(r:V->Hp->VK->Prop)(f:D->M->SB):Prop:=∀(W:Wd) (x:V) (d z:D) (Z5:M) (Q:VK),Ok K W->DR K W d x->f d W.O=some (z,Z5)->
 (∀v W',W'.O=Z5->Ok K W'->Step W W'->DR K W' z v->Q v W'.H)->r x W.H Q
def vT(ev:EV):BV:=fun B O=>(ev B O).bind fun p=>match p.1 with
 | .bl b=>some (b,p.2)
 |_=>none
section
variable {X:Cx} {K:Frag} {a b:Expr} {ea eb:EV} {pos:Pos}
theorem fA(i:Nat)(hN:X.N[i]?=some x:=by rfl)(hv:Vis X.env.scope x:=by first|exact Or.inl rfl|exact Or.inr (Or.inl rfl)|exact Or.inr (Or.inr rfl))(hd:(x==("__debug__":Str))=false:=by decide)
  (hcd:(x==("__classdict__":Str))=false:=by decide):PE X (.Name x pos) (tD K<|be i):=fZ (CC hN hv hd hcd) fun L H Q h=>by
 refine el4 h fun W B d Z5 eH ok en e q=>?_;subst eH;unfold be at e;split at e
 .rename_i d' hd;cases e;obtain⟨v,hv,r⟩:=en.at_ i _ hd;exact(⟨v,hv,q v W rfl ok .refl r⟩)
 .cases e
theorem rO{d:D}{v:V}(h:∀W,DR K W d v):∀L H Q,tD K (vC d) L H Q->tC v L H Q:=fun L H Q hh=>by
 obtain⟨W,B,d,Z5,rfl,ok,en,e,q⟩:=hh;cases e;exact(q v W rfl ok .refl (h W))
theorem fJ{i j}:PE X (.Constant (.int i) j pos) (tD K<|vC<|.int i):=fZ Ii (rO fun _=>.int i)
theorem ik{b j}:PE X (.Constant (.bool b) j pos) (tD K<|vC<|.bl b):=fZ IB (rO fun _=>.bl b)
theorem iJ{j}:PE X (.Constant .none j pos) (tD K<|vC .non):=fZ NB (rO fun _=>.non)
theorem iq{x j}:PE X (.Constant (.str x) j pos) (tD K<|vC<|.str x):=fZ Ay (rO fun _=>.str x)
theorem jS{x:Str}{d:D}{v:V}{u:Value}(hm:X.mg x=some u)(r:RelV v u)(h:∀W,DR K W d v)(hg:Gl X x:=by rfl)(hd:(x==("__debug__":Str))=false:=by decide):PE X (.Name x pos) (tD K<|vC d):=fZ (kY hg hm r hd) (rO h)
theorem oX(ra:R2A K r f):∀L H Q,tD K (v2 f ea eb) L H Q->tOp r (tD K ea) (tD K eb) L H Q:=fun L H Q h=>by
 refine el4 h fun W B d Z5 eH ok en e q=>?_;subst eH;refine fF e fun p1 e1 e=>?_;refine fF e fun p2 e2 e=>?_;refine⟨W,B,p1.1,p1.2,rfl,ok,en,e1,fun x W1 Z2 ok1 s1 r1=>⟨W1,B,p2.1,p2.2,rfl,ok1,en.step ok s1,by rw[Z2];exact e2,fun y W2 ZW ok2 s2 r2=>?_⟩⟩;exact ra W2 x y _ _ _ _ Q ok2 (r1.step ok1 s2) r2 (by rw[ZW];exact e) fun v W3 ZR ok3 s3 r3=>q v W3 ZR ok3 ((s1.trans s2).trans s3) r3
theorem kn{r:V->Hp->VK->Prop}{f:D->M->SB}(ra:R1A K r f):∀L H Q,tD K (v1 f ea) L H Q->(fun L H Q=>tD K ea L H fun x H1=>r x H1 Q:TE) L H Q:=fun L H Q h=>by
 refine el4 h fun W B d Z5 eH ok en e q=>?_;subst eH;refine fF e fun p1 e1 e=>?_;refine⟨W,B,p1.1,p1.2,rfl,ok,en,e1,fun x W1 Z2 ok1 s1 r1=>?_⟩;exact ra W1 x _ _ _ Q ok1 r1 (by rw[Z2];exact e) fun v W3 ZR ok3 s3 r3=>q v W3 ZR ok3 (s1.trans s3) r3
theorem nE(ho:OpR X (binaryOp op) r)(ra:R2A K r f)(ha:PE X a (tD K ea))(hb:PE X b (tD K eb)):PE X (.BinOp a op b pos) (tD K<|v2 f ea eb):=fZ (Gw ho ha hb) (oX ra)
theorem yP(ho:OpR X (compareOp op) r)(ra:R2A K r f)(ha:PE X a (tD K ea))(hb:PE X b (tD K eb))(hm:behindInMarks op b=false):PE X (.Compare a [op] [b] pos) (tD K<|v2 f ea eb):=fZ (QT ho ha hb hm) (oX ra)
theorem y9(h:∀L H Q,tD K ea L H Q->t L H Q):∀L H Q,tDB K (vT ea) L H Q->wV t L H Q:=fun L H Q hh=>by
 obtain⟨W,B,k,Z5,rfl,ok,en,e,q⟩:=hh;refine fF e fun p1 e1 e=>?_;refine(h L _ _ ⟨W,B,p1.1,p1.2,rfl,ok,en,e1,fun x W1 Z2 ok1 s1 r1=>?_⟩);split at e
 .rename_i k' hk;cases e;rw[hk] at r1;cases r1;exact⟨_,rfl,q W1 Z2 ok1 s1⟩
 .cases e
theorem oR(ho:OpR X (compareOp op) r)(ra:R2A K r f)(ha:PE X a (tD K ea))(hb:PE X b (tD K eb))(hm:behindInMarks op b=false):PT X (.Compare a [op] [b] pos) (tDB K<|vT<|v2 f ea eb):=l9 (Et ho ha hb hm) (y9<|oX ra)
end
def fI0(g:Int->Int->D):D->D->M->SB
 | .int i,.int j,O=>some (g i j,O)
 |_,_,_=>none
def fI(C:Int->Int->Prop) [∀i j,Decidable (C i j)](g:Int->Int->D):D->D->M->SB
 | .int i,.int j,O=>if C i j then some (g i j,O) else none
 |_,_,_=>none
section
variable {K:Frag}
theorem lR(hh:∀W i j,DR K W (h i j)<|g i j):R2A K (rI0 g) (fI0 h):=by
 intro W x y d e z Z5 Q ok r1 r2 hf q;unfold fI0 at hf;split at hf
 .cases hf;cases r1;cases r2;exact⟨_,_,rfl,rfl,q _ W rfl ok .refl (hh W _ _)⟩
 .cases hf
theorem uy [∀i j,Decidable (C i j)](hh:∀W i j,DR K W (h i j)<|g i j):R2A K (rI C g) (fI C h):=by
 intro W x y d e z Z5 Q ok r1 r2 hf q;unfold fI at hf;split at hf
 .split at hf
  .rename_i hc;cases hf;cases r1;cases r2;exact⟨_,_,rfl,rfl,hc,q _ W rfl ok .refl (hh W _ _)⟩
  .cases hf
 .cases hf
end
noncomputable instance{i j:Int}:Decidable (CMul i j):=by unfold CMul;infer_instance
noncomputable instance{i j:Int}:Decidable (kh i j):=by unfold kh;infer_instance
def m6(_ j:Int):Prop:=0<j/\j<2^200
def kj(_ j:Int):Prop:=0<j
noncomputable instance{i j:Int}:Decidable (m6 i j):=by unfold m6;infer_instance
noncomputable instance{i j:Int}:Decidable (kj i j):=by unfold kj;infer_instance
section
variable {X:Cx} {K:Frag} {a b c:Expr} {ea eb:EV} {pos:Pos}
abbrev yR:=fI0 fun i j=>.int (i+j)
abbrev j2:=fI0 fun i j=>.int (i - j)
abbrev xF:=fI m6 fun i j=>.int (i/j)
abbrev rf:=fI kj fun i j=>.int (i%j)
abbrev ko:=fI kh fun i j=>.int (i^j.toNat)
abbrev fLt:=fI0 fun i j=>.bl (decide (i<j))
abbrev fLe:=fI0 fun i j=>.bl (decide (i<=j))
abbrev fGt:=fI0 fun i j=>.bl (decide (j<i))
abbrev fGe:=fI0 fun i j=>.bl (decide (j<=i))
theorem kA(ha:PE X a (tD K ea))(hb:PE X b (tD K eb)):PE X (.BinOp a .Sub b pos) (tD K<|v2 j2 ea eb):=nE Fw (lR fun _ _ _=>.int _) ha hb
theorem BA(ha:PE X a (tD K ea))(hb:PE X b (tD K eb)):PE X (.BinOp a .FloorDiv b pos) (tD K<|v2 xF ea eb):=nE N4 (uy (C:=m6) fun _ _ _=>.int _) ha hb
theorem tq(ha:PE X a (tD K ea))(hb:PE X b (tD K eb)):PE X (.BinOp a .Mod b pos) (tD K<|v2 rf ea eb):=nE OP (uy (C:=kj) fun _ _ _=>.int _) ha hb
theorem mH(ha:PE X a (tD K ea))(hb:PE X b (tD K eb)):PE X (.BinOp a .Pow b pos) (tD K<|v2 ko ea eb):=nE Lr (uy fun _ _ _=>.int _) ha hb
theorem tU(ha:PE X a (tD K ea))(hb:PE X b (tD K eb)):PT X (.Compare a [.Lt] [b] pos) (tDB K<|vT<|v2 fLt ea eb):=oR t7 (lR fun _ _ _=>.bl _) ha hb (l4 _)
theorem tH(ha:PE X a (tD K ea))(hb:PE X b (tD K eb)):PT X (.Compare a [.Gt] [b] pos) (tDB K<|vT<|v2 fGt ea eb):=oR Kq (lR fun _ _ _=>.bl _) ha hb (l4 _)
def kl:D->M->SB
 | .int i,O=>some (.int (-i),O)
 |_,_=>none
theorem vO(ha:PE X a (tD K ea)):PE X (.UnaryOp .USub a pos) (tD K<|v1 kl ea):=fZ (Gj Js ha) (kn (by
 intro W x d z Z5 Q ok r1 hf q;unfold kl at hf;split at hf
 .cases hf;cases r1;exact⟨_,rfl,q _ W rfl ok .refl (.int _)⟩
 .cases hf))
def k9(t u:BV):BV:=fun B O=>(t B O).bind fun p=>if p.1=true then u B p.2 else some (false,p.2)
def bOr(t u:BV):BV:=fun B O=>(t B O).bind fun p=>if p.1=true then some (true,p.2) else u B p.2
def iO(t:BV):BV:=fun B O=>(t B O).bind fun p=>some (!p.1,p.2)
variable {ba bb:BV} {fV:Ś}
theorem JY:∀L H Q,tDB K (k9 ba bb) L H Q->Co (tDB K ba) (tDB K bb) L H Q:=fun L H Q h=>by
 refine el4 h fun W B k Z5 eH ok en e q=>?_;subst eH;refine fF e fun p1 e1 e=>?_;refine⟨W,B,p1.1,p1.2,rfl,ok,en,e1,fun W1 Z2 ok1 s1=>?_⟩;split at e
 .rename_i hp;rw[if_pos hp];exact⟨W1,B,k,Z5,rfl,ok1,en.step ok s1,by rw[Z2];exact e,fun W2 ZW ok2 s2=>q W2 ZW ok2<|s1.trans s2⟩
 .rename_i hp;cases e;rw[if_neg hp];exact q W1 Z2 ok1 s1
theorem MO:∀L H Q,tDB K (bOr ba bb) L H Q->tOr (tDB K ba) (tDB K bb) L H Q:=fun L H Q h=>by
 refine el4 h fun W B k Z5 eH ok en e q=>?_;subst eH;refine fF e fun p1 e1 e=>?_;refine⟨W,B,p1.1,p1.2,rfl,ok,en,e1,fun W1 Z2 ok1 s1=>?_⟩;split at e
 .rename_i hp;cases e;rw[if_pos hp];exact q W1 Z2 ok1 s1
 .rename_i hp;rw[if_neg hp];exact⟨W1,B,k,Z5,rfl,ok1,en.step ok s1,by rw[Z2];exact e,fun W2 ZW ok2 s2=>q W2 ZW ok2<|s1.trans s2⟩
theorem D2(ha:PT X a (tDB K ba)):PW X (.BoolOp .And [a] pos) (tDB K ba):=Rp ha
theorem uH(ha:PT X a (tDB K ba)):PW X (.BoolOp .Or [a] pos) (tDB K ba):=K1 ha
theorem AH(ha:PT X a (tDB K ba))(hb:PW X (.BoolOp .And (b::fV) pos) (tDB K bb)):PW X (.BoolOp .And (a::b::fV) pos) (tDB K<|k9 ba bb):=zT (Ll ha hb) JY
theorem ql(ha:PT X a (tDB K ba))(hb:PW X (.BoolOp .Or (b::fV) pos) (tDB K bb)):PW X (.BoolOp .Or (a::b::fV) pos) (tDB K<|bOr ba bb):=zT (JS ha hb) MO
theorem kK(ha:PT X a (tDB K ba)):PT X (.UnaryOp .Not a pos) (tDB K<|iO ba):=l9 (zj ha) fun L H Q h=>by
 refine el4 h fun W B k Z5 eH ok en e q=>?_;subst eH;refine fF e fun p1 e1 e=>?_;cases e;exact⟨W,B,p1.1,p1.2,rfl,ok,en,e1,fun W1 Z2 ok1 s1=>q W1 Z2 ok1 s1⟩
def vIf(t:BV)(ea eb:EV):EV:=fun B O=>(t B O).bind fun p=>if p.1=true then ea B p.2 else eb B p.2
theorem rm(hc:PT X c (tDB K ba))(ha:PE X a (tD K ea))(hb:PE X b (tD K eb)):PE X (.IfExp c a b pos) (tD K<|vIf ba ea eb):=fZ (NM hc ha hb) fun L H Q h=>by
 refine el4 h fun W B d Z5 eH ok en e q=>?_;subst eH;refine fF e fun p1 e1 e=>?_;refine⟨W,B,p1.1,p1.2,rfl,ok,en,e1,fun W1 Z2 ok1 s1=>?_⟩;split at e
 .rename_i hp;rw[if_pos hp];exact⟨W1,B,d,Z5,rfl,ok1,en.step ok s1,by rw[Z2];exact e,fun v W2 ZW ok2 s2 r2=>q v W2 ZW ok2 (s1.trans s2) r2⟩
 .rename_i hp;rw[if_neg hp];exact⟨W1,B,d,Z5,rfl,ok1,en.step ok s1,by rw[Z2];exact e,fun v W2 ZW ok2 s2 r2=>q v W2 ZW ok2 (s1.trans s2) r2⟩
def l3(ea eb:EV):EV:=fun B O=>(ea B O).bind fun p=>match p.1 with
 | .bl true=>eb B p.2
 | .bl false=>some (.bl false,p.2)
 |_=>none
def vOr(ea eb:EV):EV:=fun B O=>(ea B O).bind fun p=>match p.1 with
 | .bl true=>some (.bl true,p.2)
 | .bl false=>eb B p.2
 |_=>none
def zn:D->M->SB
 | .bl b,O=>some (.bl (!b),O)
 |_,_=>none
theorem sU{op}(h:PE X a (tD K ea)):PE X (.BoolOp op [a] pos) (tD K ea):=MH h
theorem oQ(ha:PE X a (tD K ea))(hb:PE X (.BoolOp .And (b::fV) pos) (tD K eb)):PE X (.BoolOp .And (a::b::fV) pos) (tD K<|l3 ea eb):=fZ (Jp ha hb) fun L H Q h=>by
 refine el4 h fun W B d Z5 eH ok en e q=>?_;subst eH;refine fF e fun p1 e1 e=>?_;refine⟨W,B,p1.1,p1.2,rfl,ok,en,e1,fun x W1 Z2 ok1 s1 r1=>?_⟩;split at e
 .rename_i hp;rw[hp] at r1;cases r1;exact⟨true,rfl,xt ⟨W1,B,d,Z5,rfl,ok1,en.step ok s1,by rw[Z2];exact e,fun v W2 ZW ok2 s2 r2=>q v W2 ZW ok2 (s1.trans s2) r2⟩⟩
 .rename_i hp;rw[hp] at r1;cases r1;cases e;exact⟨false,rfl,vV<|q _ W1 Z2 ok1 s1<|.bl _⟩
 .cases e
theorem Lz(ha:PE X a (tD K ea))(hb:PE X (.BoolOp .Or (b::fV) pos) (tD K eb)):PE X (.BoolOp .Or (a::b::fV) pos) (tD K<|vOr ea eb):=fZ (Ew ha hb) fun L H Q h=>by
 refine el4 h fun W B d Z5 eH ok en e q=>?_;subst eH;refine fF e fun p1 e1 e=>?_;refine⟨W,B,p1.1,p1.2,rfl,ok,en,e1,fun x W1 Z2 ok1 s1 r1=>?_⟩;split at e
 .rename_i hp;rw[hp] at r1;cases r1;cases e;exact⟨true,rfl,xt<|q _ W1 Z2 ok1 s1<|.bl _⟩
 .rename_i hp;rw[hp] at r1;cases r1;exact⟨false,rfl,vV ⟨W1,B,d,Z5,rfl,ok1,en.step ok s1,by rw[Z2];exact e,fun v W2 ZW ok2 s2 r2=>q v W2 ZW ok2 (s1.trans s2) r2⟩⟩
 .cases e
end
def optAll{J β:Type}(f:J->Option β):List J->Option (List β)
 | []=>some []
 |x::r=>(f x).bind fun y=>(optAll f r).bind fun ys=>some (y::ys)
section
variable {X:Cx} {K:Frag} {a b e:Expr} {ea eb:EV} {pos p:Pos} {es:Ś} {el:LV}
def fE:LV:=fun _ O=>some ([],O)
def fB(ea:EV)(el:LV):LV:=fun B O=>(ea B O).bind fun p=>(el B p.2).bind fun q=>some (p.1::q.1,q.2)
theorem fG:PA X [] (tDL K fE):=sq g8 fun L H Q h=>by
 refine el4 h fun W B ds Z5 eH ok en e q=>?_;subst eH;cases e;exact q [] W rfl ok .refl .nil
theorem KY:∀L H Q,tDL K (fB ea el) L H Q->iI (tD K ea) (tDL K el) L H Q:=fun L H Q h=>by
 refine el4 h fun W B ds Z5 eH ok en e q=>?_;subst eH;refine fF e fun p1 e1 e=>?_;refine fF e fun p2 e2 e=>?_;cases e;exact⟨W,B,p1.1,p1.2,rfl,ok,en,e1,fun x W1 Z2 ok1 s1 r1=>⟨W1,B,p2.1,p2.2,rfl,ok1,en.step ok s1,by rw[Z2];exact e2,fun vs W2 ZW ok2 s2 r2=>q _ W2 ZW ok2 (s1.trans s2)<|.cons (r1.step ok1 s2) r2⟩⟩
theorem fC(ha:PE X e (tD K ea))(hr:PA X es (tDL K el))(hs:starEach (e::es) X.env=(false,eval e X.env)::starEach es X.env:=by rfl):PA X (e::es) (tDL K<|fB ea el):=sq (gz ha hr hs) KY
def RLA(K:Frag)(r:Ř->Hp->VK->Prop)(f:Fr):Prop:=∀(W:Wd) (xs:Ř) (ds:ŗ) (z:D) (Z5:M) (Q:VK),Ok K W->DRs K W ds xs->f ds W.O=some (z,Z5)->
 (∀v W',W'.O=Z5->Ok K W'->Step W W'->DR K W' z v->Q v W'.H)->r xs W.H Q
def vL(f:Fr)(el:LV):EV:=fun B O=>(el B O).bind fun p=>f p.1 p.2
theorem ul(ra:RLA K r f):∀L H Q,tD K (vL f el) L H Q->(fun L H Q=>tDL K el L H fun vs H1=>r vs H1 Q:TE) L H Q:=fun L H Q h=>by
 refine el4 h fun W B d Z5 eH ok en e q=>?_;subst eH;refine fF e fun p1 e1 e=>?_;exact⟨W,B,p1.1,p1.2,rfl,ok,en,e1,fun vs W1 Z2 ok1 s1 r1=>ra W1 vs _ _ _ Q ok1 r1 (by rw[Z2];exact e) fun v W3 ZR ok3 s3 r3=>q v W3 ZR ok3 (s1.trans s3) r3⟩
def gf(ds:ŗ)(O:M):SB:=if ds.length<=1000 then some (.lst ds,O) else none
def gn(ds:ŗ)(O:M):SB:=if ds.length<=1000 then some (.tup ds,O) else none
def jW(ds:ŗ)(O:M):SB:=if ds.length<=1000 then some (.ref O.length,O++[some (.lst ds)]) else none
theorem Lu:RLA K (fun xs H1 Q=>xs.length<=sizeLine/\∀p,H1 p=none->Q (.ref p) (upd H1 p<|.lst xs)) gf:=by
 intro W xs ds z Z5 Q ok r hf q;unfold gf at hf;split at hf
 .rename_i hl;cases hf;exact⟨kR (by rw[←r.length];omega),fun p hp=>q _ (W.lay p<|.lst xs) rfl (iG ok hp) (gP hp) (pW ok hp r)⟩
 .cases hf
theorem MY:RLA K (fun xs H1 Q=>xs.length<=sizeLine/\∀p,H1 p=none->Q (.ref p) (upd H1 p<|.tup xs)) gn:=by
 intro W xs ds z Z5 Q ok r hf q;unfold gn at hf;split at hf
 .rename_i hl;cases hf;exact⟨kR (by rw[←r.length];omega),fun p hp=>q _ (W.lay p<|.tup xs) rfl (iG ok hp) (gP hp) (mf ok hp r)⟩
 .cases hf
theorem G7:RLA K (fun xs H1 Q=>xs.length<=sizeLine/\∀p,H1 p=none->Q (.ref p) (upd H1 p<|.lst xs)) jW:=by
 intro W xs ds z Z5 Q ok r hf q;unfold jW at hf;split at hf
 .rename_i hl;cases hf;exact⟨kR (by rw[←r.length];omega),fun p hp=>q _ (W.new p (.lst xs)<|.lst ds) rfl (pK ok hp ⟨xs,rfl,r⟩) (j6 ok hp) (nK ok)⟩
 .cases hf
theorem gL(h:PA X es (tDL K el)):PE X (.List es pos) (tD K<|vL gf el):=fZ (AA h) (ul Lu)
theorem wy(h:PA X es (tDL K el)):PE X (.List es pos) (tD K<|vL jW el):=fZ (AA h) (ul G7)
theorem g5{k}(h:PA X es (tDL K el)):PE X (.Tuple es k pos) (tD K<|vL gn el):=fZ (Dv h) (ul MY)
def fIx(x y:D)(O:M):SB:=match y with
 | .int i=>match gu O x with
  |some ds=>(atI ds i).bind fun d=>some (d,O)
  |none=>match lq x with
   |some ds=>(atI ds i).bind fun d=>some (d,O)
   |none=>none
 |_=>none
theorem LJ:R2A K (rIx K) fIx:=by
 intro W x y d e z Z5 Q ok r1 r2 hf q;unfold fIx at hf;split at hf
 .cases r2;split at hf
  .rename_i ds hd;refine fF hf fun u hu hf=>?_;cases hf;obtain⟨a,vs,rfl,hs,hv⟩:=lK ok hd r1;obtain⟨v,hv1,hv2⟩:=Ah hv hu;exact(.inl ⟨a,vs,_,v,rfl,rfl,hs,hv1,q v W rfl ok .refl hv2⟩)
  .split at hf
   .rename_i ds hd;refine fF hf fun u hu hf=>?_;cases hf;obtain⟨a,vs,rfl,hs,hv⟩:=lS hd r1;obtain⟨v,hv1,hv2⟩:=Ah hv hu;exact(.inr<|.inl ⟨a,vs,_,v,rfl,rfl,hs,hv1,q v W rfl ok .refl hv2⟩)
   .cases hf
 .cases hf
theorem gB(ha:PE X a (tD K ea))(hb:PE X b (tD K eb))(hs:Bu b:=by exact fun _ _=>rfl)(hK:X.K=K:=by rfl):PE X (.Subscript a b pos) (tD K<|v2 fIx ea eb):=by
 subst hK;exact fZ (Ek KO ha hb hs) (oX LJ)
abbrev OV:=G->M->Option (Option Int×M)
def nC:OV:=fun _ O=>some (none,O)
def m3(ea:EV):OV:=fun B O=>(ea B O).bind fun p=>match p.1 with
 | .int i=>some (some i,p.2)
 |_=>none
def tDO(K:Frag)(ev:OV):TO:=fun L H Q=>∃(W:Wd) (B:G) (b:Œ) (Z5:M),W.H=H/\Ok K W/\EnvR K W B L/\ev B W.O=some (b,Z5)/\∀W',W'.O=Z5->Ok K W'->Step W W'->Q b W'.H
theorem Cv(h:PO X o t)(hi:∀L H Q,t' L H Q->t L H Q):PO X o t':=fun pins s L H Q I hw=>h pins s L H Q I (hi _ _ _ hw)
theorem xx:PO X none (tDO K nC):=Cv Og fun L H Q h=>by
 refine el4 h fun W B b Z5 eH ok en e q=>?_;subst eH;cases e;exact q W rfl ok .refl
theorem rP(h:PE X e (tD K ea)):PO X (some e) (tDO K<|m3 ea):=Cv (Gq h) fun L H Q h=>by
 refine el4 h fun W B b Z5 eH ok en e q=>?_;subst eH;refine fF e fun p1 e1 e=>?_;refine⟨W,B,p1.1,p1.2,rfl,ok,en,e1,fun x W1 Z2 ok1 s1 r1=>?_⟩;split at e
 .rename_i i hi;cases e;rw[hi] at r1;cases r1;exact⟨_,rfl,q W1 Z2 ok1 s1⟩
 .cases e
def k8(xs:ŗ)(lo hi:Œ):ŗ:=(xs.drop<|HT.sIx xs.length 0 lo).take (HT.sIx xs.length xs.length hi - HT.sIx xs.length 0 lo)
theorem CZ(r:DRs K W ds vs)(lo hi:Œ):DRs K W (k8 ds lo hi) (kO vs lo hi):=by
 unfold k8 kO;rw[r.length];exact(r.drop _).take _
def fSl(x:D)(lo hi:Œ)(O:M):SB:=match gu O x with
 |some ds=>some (.lst (k8 ds lo hi),O)
 |none=>match lq x with
  |some ds=>if HT.sIx ds.length 0 lo=0/\HT.sIx ds.length ds.length hi=ds.length then none else some (.tup (k8 ds lo hi),O)
  |none=>none
def vSl(ea:EV)(lo hi:OV):EV:=fun B O=>(ea B O).bind fun p=>(lo B p.2).bind fun l=>(hi B l.2).bind fun h=>fSl p.1 l.1 h.1 h.2
theorem sD(he:PE X e (tD K ea))(hl:PO X lo (tDO K ol))(hu:PO X hi (tDO K oh))(hK:X.K=K:=by rfl):PE X (.Subscript e (.Slice lo hi none p2) pos) (tD K<|vSl ea ol oh):=by
 subst hK;refine fZ (Le (sl_list.or sl_tup) he hl hu) fun L H Q h=>?_;refine el4 h fun W B d Z5 eH ok en e q=>?_;subst eH;refine fF e fun p1 e1 e=>?_;refine fF e fun p2 e2 e=>?_;refine fF e fun p3 e3 e=>?_;refine⟨W,B,p1.1,p1.2,rfl,ok,en,e1,fun x W1 Z2 ok1 s1 r1=>⟨W1,B,p2.1,p2.2,rfl,ok1,en.step ok s1,by rw[Z2];exact e2,fun W2 ZW ok2 s2=>⟨W2,B,p3.1,p3.2,rfl,ok2,(en.step ok s1).step ok1 s2,by rw[ZW];exact e3,fun W3 ZR ok3 s3=>?_⟩⟩⟩;have r3:=(r1.step ok1 s2).step ok2 s3;have st:=(s1.trans s2).trans s3;unfold fSl at e;rw[←ZR] at e;split at e
 .rename_i ds hd;cases e;obtain⟨a,vs,rfl,hs,hv⟩:=lK ok3 hd r3;exact(.inl ⟨a,vs,rfl,hs,fun p hp=>q _ (W3.lay p<|.lst<|kO vs p2.1 p3.1) rfl (iG ok3 hp) (st.trans<|gP hp) (pW ok3 hp<|CZ hv _ _)⟩)
 .split at e
  .rename_i ds hd;split at e
   .cases e
   .rename_i hn;cases e;obtain⟨a,vs,rfl,hs,hv⟩:=lS hd r3;rw[hv.length] at hn;exact(.inr ⟨a,vs,rfl,hs,hn,fun p hp=>q _ (W3.lay p<|.tup<|kO vs p2.1 p3.1) rfl (iG ok3 hp) (st.trans<|gP hp) (mf ok3 hp<|CZ hv _ _)⟩)
  .cases e
def qN(x y:D)(O:M):SB:=(lA O x).bind fun xs=>(lA O y).bind fun ys=>if xs.length+ys.length<=1000000 then some (.lst (xs++ys),O) else none
def CP(x y:D)(O:M):SB:=(lA O x).bind fun xs=>match y with
 | .int k=>if -1000000<=k/\k<=1000000/\xs.length*k.toNat<=1000000 then some (.lst (List.replicate k.toNat xs).flatten,O) else none
 |_=>none
def gX(x:D)(O:M):SB:=match gu O x with
 |some ds=>some (.int ds.length,O)
 |none=>match lq x with
  |some ds=>some (.int ds.length,O)
  |none=>none
theorem mK(ml:X.mg "len"=none) (ha:PE X a (tD K ea)) (hg:Gl X "len":=by rfl) (hs:starEach [a] X.env=[(false,eval a X.env)]:=by rfl) (hK:X.K=K:=by rfl):PE X (.Call (.Name "len" p) [a] [] pos) (tD K<|v1 gX ea):=fZ (K7 K ml ha hg hs hK) (kn (by
 intro W x d z Z5 Q ok r1 hf q;unfold gX at hf;split at hf
 .rename_i ds hd;cases hf;obtain⟨a,vs,rfl,hs,hv⟩:=lK ok hd r1;exact⟨a,vs,rfl,.inl hs,by rw[←hv.length];exact q _ W rfl ok .refl (.int _)⟩
 .split at hf
  .rename_i ds hd;cases hf;obtain⟨a,vs,rfl,hs,hv⟩:=lS hd r1;exact⟨a,vs,rfl,.inr hs,by rw[←hv.length];exact q _ W rfl ok .refl (.int _)⟩
  .cases hf))
abbrev qK:=fI0 fun i j=>.int (if j<i then j else i)
abbrev xQ:=fI0 fun i j=>.int (if j>i then j else i)
theorem BF{t:TE}{r:R2}{f:D->D->M->SB}(ra:R2A K r f)(ht:∀L H Q,tOp r (tD K ea) (tD K eb) L H Q->t L H Q):∀L H Q,tD K (v2 f ea eb) L H Q->t L H Q:=fun L H Q h=>ht L H Q (oX ra L H Q h)
theorem DD{x y:V}{g:Int->Int->V}{Q:VK}{H:Hp}:(∃i j,[x,y]=[V.int i,V.int j]/\Q (g i j) H)=(∃i j,x=V.int i/\y=V.int j/\Q (g i j) H):=propext ⟨fun⟨i,j,e,q⟩=>by cases e;exact⟨i,j,rfl,rfl,q⟩,fun⟨i,j,e1,e2,q⟩=>by cases e1;cases e2;exact⟨i,j,rfl,q⟩⟩
theorem PV(ml:X.mg "min"=none) (ha:PE X a (tD K ea)) (hb:PE X b (tD K eb)) (hc:X.calm=true:=by rfl) (hg:Gl X "min":=by rfl) (hs:starEach [a,b] X.env=[(false,eval a X.env),(false,eval b X.env)]:=by rfl) (hs2:starEach [b] X.env=[(false,eval b X.env)]:=by rfl):
  PE X (.Call (.Name "min" p) [a,b] [] pos) (tD K<|v2 qK ea eb):=fZ (Kg ml ha hb hc hg hs hs2) (BF (lR fun _ _ _=>.int _) fun L H Q h=>by simp only[DD (g:=fun i j=>V.int<|if j<i then j else i)];exact h)
theorem GR(ml:X.mg "max"=none) (ha:PE X a (tD K ea)) (hb:PE X b (tD K eb)) (hc:X.calm=true:=by rfl) (hg:Gl X "max":=by rfl) (hs:starEach [a,b] X.env=[(false,eval a X.env),(false,eval b X.env)]:=by rfl) (hs2:starEach [b] X.env=[(false,eval b X.env)]:=by rfl):
  PE X (.Call (.Name "max" p) [a,b] [] pos) (tD K<|v2 xQ ea eb):=fZ (LP ml ha hb hc hg hs hs2) (BF (lR fun _ _ _=>.int _) fun L H Q h=>by simp only[DD (g:=fun i j=>V.int<|if j>i then j else i)];exact h)
def rH:D->M->SB
 | .bl k,O=>some (.int (if k then 1 else 0),O)
 |_,_=>none
theorem Es(ml:X.mg "int"=none) (ha:PE X a (tD K ea)) (hg:Gl X "int":=by rfl) (hs:starEach [a] X.env=[(false,eval a X.env)]:=by rfl):PE X (.Call (.Name "int" p) [a] [] pos) (tD K<|v1 rH ea):=fZ (O5 ml ha hg hs) (kn (by
 intro W x d z Z5 Q ok r1 hf q;unfold rH at hf;split at hf
 .cases hf;cases r1;exact⟨_,rfl,q _ W rfl ok .refl (.int _)⟩
 .cases hf))
end
def py:Nat->M->D->Option PyData
 |0,_,_=>none
 |n+1,O,d=>match d with
  | .non=>some .none
  | .bl b=>some (.bool b)
  | .int i=>some (.int i)
  | .str x=>some (.str x)
  | .lst xs=>(optAll (py n O) xs).bind fun ys=>some (.list ys)
  | .scr xs=>(optAll (py n O) xs).bind fun ys=>some (.list ys)
  | .tup xs=>(optAll (py n O) xs).bind fun ys=>some (.tuple ys)
  | .gt xs=>(optAll (py n O) xs).bind fun ys=>some (.tuple ys)
  | .ref k=>match O[k]? with
   |some (some<|.lst xs)=>(optAll (py n O) xs).bind fun ys=>some (.list ys)
   |_=>none
theorem mQ{K:Frag}{W:Wd}{f:D->Option PyData}(h:∀d v pd,DR K W d v->f d=some pd->Dp K W.H v pd):∀{xs:ŗ} {vs:Ř} {ys:List PyData},DRs K W xs vs->optAll f xs=some ys->Dps K W.H vs ys
 |_,_,_,.nil,e=>by cases e;exact .nil
 |_,_,_,.cons r t,e=>by
  refine fF e fun y e1 e=>?_;refine fF e fun ys e2 e=>?_;cases e;exact .cons (h _ _ _ r e1) (mQ h t e2)
theorem lB{K:Frag}{W:Wd}(ok:Ok K W):∀(n:Nat) (d:D) (v:V) (pd:PyData),DR K W d v->py n W.O d=some pd->Dp K W.H v pd
 |0,_,_,_,_,e=>by cases e
 |n+1,d,v,pd,r,e=>by
  cases d with
  |non=>cases e;cases r;exact .non
  |bl b=>cases e;cases r;exact .bl b
  |int i=>cases e;cases r;exact .int i
  |str x=>cases e;cases r;exact .str x
  |lst xs=>
   refine fF e fun ys e1 e=>?_;cases e;cases r with
   |lst h _ hs=>exact .lst (SqL.of h) (mQ (lB ok n) hs e1)
  |scr xs=>
   refine fF e fun ys e1 e=>?_;cases e;cases r with
   |scr h hs=>exact .lst h.seq (mQ (lB ok n) hs e1)
  |tup xs=>
   refine fF e fun ys e1 e=>?_;cases e;cases r with
   |tup h hs=>exact .tup (SqT.of h) (mQ (lB ok n) hs e1)
  |gt xs=>
   refine fF e fun ys e1 e=>?_;cases e;cases r with
   |gt h hs=>exact .tup h (mQ (lB ok n) hs e1)
  |ref k=>
   simp only[py] at e;split at e
   .rename_i xs hk;refine fF e fun ys e1 e=>?_;cases e;obtain⟨a,vs,rfl,_,h,hs⟩:=m4 ok hk r;exact(.lst (SqL.of h)<|mQ (lB ok n) hs e1)
   .cases e
def eqD(x y:D)(O:M):ř:=match x,y with
 | .int i,.int j=>some (decide (i=j))
 | .str a,.str b=>if PyData.strOk a&&PyData.strOk b then some (decide (a=b)) else none
 |x,y=>(py 65 O x).bind fun d=>(py 65 O y).bind fun e=>if(d.canLay0&&e.canLay0&&decide (d.depth<=64))=true then some (PyData.eqv d e) else none
def zF{K:Frag}{W:Wd}{x y:D}{v u:V}{b:Bool}(ok:Ok K W)(rx:DR K W x v)(ry:DR K W y u)(h:eqD x y W.O=some b):∃d e,Dp K W.H v d/\Dp K W.H u e/\(d.canLay0&&e.canLay0&&decide (d.depth<=64))=true/\PyData.eqv d e=b:=by
 unfold eqD at h;split at h
 .cases h;cases rx;cases ry;exact⟨_,_,.int _,.int _,by simp[PyData.canLay0,PyData.depth],by simp[PyData.eqv];rw[T1];simp⟩
 .split at h
  .rename_i hs;cases h;cases rx;cases ry;refine⟨_,_,.str _,.str _,by simpa[PyData.canLay0,PyData.depth] using hs,by simp[PyData.eqv];rw[T1];simp⟩
  .cases h
 .refine fF h fun d e1 h=>?_;refine fF h fun e e2 h=>?_;split at h
  .rename_i hc;cases h;exact⟨d,e,lB ok _ _ _ _ rx e1,lB ok _ _ _ _ ry e2,hc,rfl⟩
  .cases h
def fEq(x y:D)(O:M):SB:=(eqD x y O).bind fun b=>some (.bl b,O)
def fNe(x y:D)(O:M):SB:=(eqD x y O).bind fun b=>some (.bl (!b),O)
section
variable {X:Cx} {K:Frag} {a b c e:Expr} {ea eb:EV} {pos p:Pos} {es:Ś} {el:LV} {k:Nat}
theorem DF:R2A K (fun x y H Q=>∃d e,Dp K H x d/\Dp K H y e/\(d.canLay0&&e.canLay0&&decide (d.depth<=64))=true/\Q (.bl<|PyData.eqv d e) H) fEq:=by
 intro W x y d e z Z5 Q ok r1 r2 hf q;refine fF hf fun b hb hf=>?_;cases hf;obtain⟨d',e',h1,h2,h3,h4⟩:=zF ok r1 r2 hb;exact⟨d',e',h1,h2,h3,by rw[h4];exact q _ W rfl ok .refl (.bl _)⟩
theorem AQ:R2A K (fun x y H Q=>∃d e,Dp K H x d/\Dp K H y e/\(d.canLay0&&e.canLay0&&decide (d.depth<=64))=true/\Q (.bl<|!PyData.eqv d e) H) fNe:=by
 intro W x y d e z Z5 Q ok r1 r2 hf q;refine fF hf fun b hb hf=>?_;cases hf;obtain⟨d',e',h1,h2,h3,h4⟩:=zF ok r1 r2 hb;exact⟨d',e',h1,h2,h3,by rw[h4];exact q _ W rfl ok .refl (.bl _)⟩
theorem rV(hr:Room k X.A)(ha:PE X a (tD K ea))(hb:PE X b (tD K eb))(hK:X.K=K:=by rfl):PE X (.Compare a [.Eq] [b] pos) (tD K<|v2 fEq ea eb):=by
 subst hK;exact yP (AO hr.units) DF ha hb (l4 _)
theorem Bq(hr:Room k X.A)(ha:PE X a (tD K ea))(hb:PE X b (tD K eb))(hK:X.K=K:=by rfl):PE X (.Compare a [.NotEq] [b] pos) (tD K<|v2 fNe ea eb):=by
 subst hK;exact yP (DT hr.units) AQ ha hb (l4 _)
theorem iP(hr:Room k X.A)(ha:PE X a (tD K ea))(hb:PE X b (tD K eb))(hK:X.K=K:=by rfl):PT X (.Compare a [.Eq] [b] pos) (tDB K<|vT<|v2 fEq ea eb):=by
 subst hK;exact oR (AO hr.units) DF ha hb (l4 _)
theorem lO(hr:Room k X.A)(ha:PE X a (tD K ea))(hb:PE X b (tD K eb))(hK:X.K=K:=by rfl):PT X (.Compare a [.NotEq] [b] pos) (tDB K<|vT<|v2 fNe ea eb):=by
 subst hK;exact oR (DT hr.units) AQ ha hb (l4 _)
def jz(x y:D)(O:M):SB:=match y with
 | .non=>some (.bl (match x with| .non=>true|_=>false),O)
 |_=>none
def lj(x y:D)(O:M):SB:=match y with
 | .non=>some (.bl (match x with| .non=>false|_=>true),O)
 |_=>none
theorem F6:R2A K (fun x y H Q=>y=.non/\Q (.bl<|decide (x=.non)) H) jz:=by
 intro W x y d e z Z5 Q ok r1 r2 hf q;unfold jz at hf;split at hf
 .cases hf;cases r2;refine⟨rfl,?_⟩;have h:=q _ W rfl ok .refl (.bl _);cases r1<;>exact h
 .cases hf
theorem Nr:R2A K (fun x y H Q=>y=.non/\Q (.bl<|!decide (x=.non)) H) lj:=by
 intro W x y d e z Z5 Q ok r1 r2 hf q;unfold lj at hf;split at hf
 .cases hf;cases r2;refine⟨rfl,?_⟩;have h:=q _ W rfl ok .refl (.bl _);cases r1<;>exact h
 .cases hf
theorem rl(ha:PE X a (tD K ea))(hb:PE X b (tD K eb)):PT X (.Compare a [.Is] [b] pos) (tDB K<|vT<|v2 jz ea eb):=oR K9 F6 ha hb (l4 _)
theorem Ef(ha:PE X a (tD K ea))(hb:PE X b (tD K eb)):PT X (.Compare a [.IsNot] [b] pos) (tDB K<|vT<|v2 lj ea eb):=oR MU Nr ha hb (l4 _)
def tru(O:M):D->ř
 | .non=>some false
 | .bl b=>some b
 | .int i=>some (i !=0)
 | .tup ds=>some (!ds.isEmpty)
 | .gt ds=>some (!ds.isEmpty)
 | .lst ds=>some (!ds.isEmpty)
 | .scr ds=>some (!ds.isEmpty)
 | .ref k=>match O[k]? with
  |some (some<|.lst ds)=>some (!ds.isEmpty)
  |some (some<|.dK kvs)=>some (!kvs.isEmpty)
  |_=>none
 | .str _=>none
theorem DRs.empty(r:DRs K W ds vs):ds.isEmpty=vs.isEmpty:=by cases r<;>rfl
theorem HQ{W:Wd}{d:D}{v:V}{b:Bool}(ok:Ok K W)(h:tru W.O d=some b)(r:DR K W d v):xL K v W.H b:=by
 cases d with
 |non=>cases h;cases r;rfl
 |bl k=>cases h;cases r;rfl
 |int i=>cases h;cases r;rfl
 |str x=>cases h
 |tup ds=>
  cases h;cases r with
  |tup h hs=>exact .inr (.inl ⟨_,SqT.of h,by rw[DRs.empty hs]⟩)
 |gt ds=>
  cases h;cases r with
  |gt h hs=>exact .inr (.inl ⟨_,h,by rw[DRs.empty hs]⟩)
 |lst ds=>
  cases h;cases r with
  |lst h _ hs=>exact .inl ⟨_,SqL.of h,by rw[DRs.empty hs]⟩
 |scr ds=>
  cases h;cases r with
  |scr h hs=>exact .inl ⟨_,h.seq,by rw[DRs.empty hs]⟩
 |ref k=>
  simp only[tru] at h;split at h
  .rename_i ds hk;cases h;obtain⟨a,vs,rfl,_,hh,hs⟩:=m4 ok hk r;exact(.inl ⟨_,SqL.of hh,by rw[DRs.empty hs]⟩)
  .rename_i kvs hk;cases h;cases r with
   |ref ha=>
    obtain⟨a',ho,h1,h2,vs,rfl,r⟩:=ok.at_ k _ hk;rw[ha] at h1;cases h1;exact .inr (.inr ⟨vs,h2,by cases r<;>rfl⟩)
  .cases h
def gG(ea:EV):BV:=fun B O=>(ea B O).bind fun p=>(tru p.2 p.1).bind fun b=>some (b,p.2)
theorem iX(ha:PE X a (tD K ea))(he:∀whole,isTrue a X.env whole=(do let v ←whole;standAt a.pos;holding [v] (truthy v)):=by intro _;rfl)(hK:X.K=K:=by rfl):PT X a (tDB K<|gG ea):=by
 subst hK;refine l9 (OC ha he) fun L H Q h=>?_;refine el4 h fun W B b Z5 eH ok en e q=>?_;subst eH;refine fF e fun p1 e1 e=>?_;refine fF e fun b1 e2 e=>?_;cases e;exact⟨W,B,p1.1,p1.2,rfl,ok,en,e1,fun x W1 Z2 ok1 s1 r1=>⟨b,HQ ok1 (by rw[Z2];exact e2) r1,q W1 Z2 ok1 s1⟩⟩
def tyD(O:M):D->Option String
 | .non=>some "NoneType"
 | .bl _=>some "bool"
 | .int _=>some "int"
 | .str _=>some "str"
 | .tup _=>some "tuple"
 | .gt _=>some "tuple"
 | .lst _=>some "list"
 | .scr _=>some "list"
 | .ref k=>match O[k]? with
  |some (some<|.lst _)=>some "list"
  |some (some<|.dK _)=>some "dict"
  |_=>none
theorem Sy(ok:Ok K W)(h:tyD W.O d=some t)(r:DR K W d v):TyN K W.H v t:=by
 cases d with
 |non=>cases h;cases r;exact .non
 |bl k=>cases h;cases r;exact .bl _
 |int i=>cases h;cases r;exact .int _
 |str x=>cases h;cases r;exact .str _
 |tup ds=>
  cases h;cases r with
  |tup h hs=>exact .tup (SqT.of h)
 |gt ds=>
  cases h;cases r with
  |gt h hs=>exact .tup h
 |lst ds=>
  cases h;cases r with
  |lst h _ hs=>exact .lst (SqL.of h)
 |scr ds=>
  cases h;cases r with
  |scr h hs=>exact .lst h.seq
 |ref k=>
  simp only[tyD] at h;split at h
  .rename_i ds hk;cases h;obtain⟨a,vs,rfl,_,hh,hs⟩:=m4 ok hk r;exact(.lst<|SqL.of hh)
  .rename_i kvs hk;cases h;cases r with
   |ref ha=>
    obtain⟨a',ho,h1,h2,vs,rfl,r⟩:=ok.at_ k _ hk;rw[ha] at h1;cases h1;exact(.dK h2)
  .cases h
def k7(c:String)(x:D)(O:M):SB:=(tyD O x).bind fun t=>some (.bl (qx t c),O)
theorem uI(c:String)(ml:X.mg "isinstance"=none) (ha:PE X a (tD K ea)) (hb:PE X b (tC<|.ty c)) (hc:clNames.contains c=true:=by decide) (hg:Gl X "isinstance":=by rfl) (hs:starEach [a,b] X.env=[(false,eval a X.env),(false,eval b X.env)]:=by rfl) (hs2:starEach [b] X.env=[(false,eval b X.env)]:=by rfl) (hK:X.K=K:=by rfl):
  PE X (.Call (.Name "isinstance" p) [a,b] [] pos) (tD K<|v1 (k7 c) ea):=fZ (Fs K ml ha hb hg hs hs2 hK) (kn (by
 intro W x d z Z5 Q ok r1 hf q;refine fF hf fun t ht hf=>?_;cases hf;exact⟨x,t,c,rfl,Sy ok ht r1,hc,q _ W rfl ok .refl (.bl _)⟩))
def tO(ea:EV):EV:=fun B O=>(ea B O).bind fun p=>match p.1 with
 | .ref k=>match p.2[k]? with
  |some (some<|.lst ds)=>some (.lst ds,p.2.set k none)
  |_=>none
 |_=>none
theorem FY(ha:PE X a (tD K ea)):PE X a (tD K<|tO ea):=fZ ha fun L H Q h=>by
 refine el4 h fun W B d Z5 eH ok en e q=>?_;subst eH;refine fF e fun p1 e1 e=>?_;refine⟨W,B,p1.1,p1.2,rfl,ok,en,e1,fun x W1 Z2 ok1 s1 r1=>?_⟩;split at e
 .rename_i k hk;rw[hk] at r1;split at e
  .rename_i ds hd;cases e;rw[←Z2] at hd;exact q x (W1.frz k) (by show W1.O.set k none=_;rw[Z2]) (Hq ok1) (s1.trans wJ) (MG ok1 hd r1)
  .cases e
 .cases e
def spM(K:Frag)(f:Fr):Sp:=fun vs H Q _=>∃(W:Wd) (ds:ŗ) (d:D) (Z5:M),W.H=H/\Ok K W/\DRs K W ds vs/\f ds W.O=some (d,Z5)/\∀v W',W'.O=Z5->Ok K W'->Step W W'->DR K W' d v->Q v W'.H
theorem gg{x:Str}{ps:Ŗ}{f:Fr}{e:Expr}(Df':Df X.prog X.w X.K X.mg X.base k x ps (spM K f))(hr:Room k X.A)(ha:PA X (e::es) (tDL K el))(hg:Gl X x:=by rfl)(hdb:(x==("__debug__":Str))=false:=by decide)
  (he:starEach (e::es) X.env=(false,eval e X.env)::starEach es X.env:=by rfl) (hpl:(backTo pos<|starEach es X.env).any (·.1)=false:=by rfl):PE X (.Call (.Name x p) (e::es) [] pos) (tD K<|vL f el):=fZ (CG Df' hr ha hg hdb he hpl) (ul (by
 intro W xs ds z Z5 Q ok r hf q;exact⟨W,ds,z,Z5,rfl,ok,r,hf,q⟩))
def jw(f:D->D->M->SB)(ea eb:EV):EV:=fun B O=>(ea B O).bind fun p=>(gu p.2 p.1).bind fun _=>(eb B p.2).bind fun q=>f p.1 q.1 q.2
theorem EZ(ok:Ok K W)(h:gu W.O d=some ds)(r:DR K W d v):tyV K "list" v W.H:=by
 obtain⟨a,vs,rfl,hs,_⟩:=lK ok h r;exact(.inl ⟨rfl,vs,hs⟩)
def RMA(K:Frag)(r:V->Ř->Hp->VK->Prop)(f:D->D->M->SB):Prop:=∀(W:Wd) (x y:V) (d e z:D) (Z5:M) (Q:VK),Ok K W->DR K W d x->DR K W e y->f d e W.O=some (z,Z5)->
 (∀v W',W'.O=Z5->Ok K W'->Step W W'->DR K W' z v->Q v W'.H)->r x [y] W.H Q
theorem wx(ra:RMA K r f):∀L H Q,tD K (jw f eo ea) L H Q->tBM K "list" r (tD K eo) (iI (tD K ea) jI) L H Q:=fun L H Q h=>by
 refine el4 h fun W B d Z5 eH ok en e q=>?_;subst eH;refine fF e fun p1 e1 e=>?_;refine fF e fun ds e0 e=>?_;refine fF e fun p2 e2 e=>?_;refine⟨W,B,p1.1,p1.2,rfl,ok,en,e1,fun x W1 Z2 ok1 s1 r1=>⟨EZ ok1 (by rw[Z2];exact e0) r1,W1,B,p2.1,p2.2,rfl,ok1,en.step ok s1,by rw[Z2];exact e2,fun y W2 ZW ok2 s2 r2=>?_⟩⟩;exact ra W2 x y _ _ _ _ Q ok2 (r1.step ok1 s2) r2 (by rw[ZW];exact e) fun v W3 ZR ok3 s3 r3=>q v W3 ZR ok3 ((s1.trans s2).trans s3) r3
def onL(x:D)(O:M)(g:ŗ->Option (D×ŗ)):SB:=match x with
 | .ref k=>match O[k]? with
  |some (some<|.lst ds)=>(g ds).bind fun r=>some (r.1,O.set k<|some<|.lst r.2)
  |_=>none
 |_=>none
theorem zM(ok:Ok K W)(h:onL x W.O g=some (z,Z5))(r:DR K W x v):
  ∃k a ds vs ds',x=.ref k/\v=.ref a/\W.O[k]?=some (some<|.lst ds)/\W.ρ[k]?=some a/\W.H a=some (.lst vs)/\DRs K W ds vs/\g ds=some (z,ds')/\Z5=W.O.set k (some<|.lst ds'):=by
 unfold onL at h;split at h
 .rename_i k;split at h
  .rename_i ds hk;refine fF h fun p e1 e=>?_;cases e;obtain⟨a,vs,rfl,ha,hh,hs⟩:=m4 ok hk r;exact(⟨k,a,ds,vs,p.2,rfl,rfl,hk,ha,hh,hs,e1,rfl⟩)
  .cases h
 .cases h
theorem z6{W:Wd}{k:Nat}{a:Addr}{ds ds':ŗ}{vs vs':Ř}(ok:Ok K W)(hk:W.O[k]?=some (some<|.lst ds))(ha:W.ρ[k]?=some a)(hs:DRs K W ds' vs'):
  Ok K (W.put k a (.lst vs')<|.lst ds')/\Step W (W.put k a (.lst vs')<|.lst ds'):=⟨tF ok hk ha ⟨vs',rfl,hs⟩,mz hk ha⟩
def jU(x y:D)(O:M):SB:=onL x O fun ds=>if ds.length<1000000 then some (.non,ds++[y]) else none
theorem Bg(ho:PE X o (tD K eo))(ha:PE X a (tD K ea))(hs:starEach [a] X.env=[(false,eval a X.env)]:=by rfl)
  (hbase:attributeBase o "append" X.env (eval o X.env)=eval o X.env:=by rfl) (hline:(apos.endLine==pos.line)=true:=by rfl) (hK:X.K=K:=by rfl)
  (hfew:((backTo pos<|starEach [a] X.env).all (fun x=>!x.1)&&(backToKw pos<|keywordEach [] X.env).all (fun x=>x.1.isSome)
   &&decide ([a].length+([]:ŝ).length+(if([]:ŝ).isEmpty then 0 else 1)<30))=true:=by rfl):
  PE X (.Call (.Attribute o "append" apos) [a] [] pos) (tD K<|jw jU eo ea):=fZ (Kw K ho ha hs hbase hline hK hfew) (wx (by
 intro W x y d e z Z5 Q ok r1 r2 hf q;obtain⟨k,a,ds,vs,ds',rfl,rfl,hk,ha,hh,hs,hg,rfl⟩:=zM ok hf r1;split at hg
 .rename_i hl;cases hg;obtain⟨o1,s1⟩:=z6 (vs:=vs) (vs':=vs++[y]) ok hk ha (hs.append<|.cons r2 .nil);exact⟨a,vs,y,rfl,rfl,hh,rB (by rw[←hs.length];omega),q _ _ rfl o1 s1 .non⟩
 .cases hg))
end
open Classical in
def chk{J:Type}(c:Prop)(x:Option J):Option J:=if c then x else none
def yT{J:Type}{c:Prop}{x:Option J}{a:J}(h:chk c x=some a):c/\x=some a:=by
 unfold chk at h;split at h
 .exact⟨by assumption,h⟩
 .cases h
def jZ{J:Type}{c:Prop}{x:Option J}{a:J}{Z:Prop}(h:chk c x=some a)(k:c->x=some a->Z):Z:=k (yT h).1 (yT h).2
def jy{J:Type}{c:Prop}{x:Option J}(h:c):chk c x=x:=by unfold chk;rw[if_pos h]
abbrev GV:=D->G->M->Option (G×M)
abbrev GsV:=ŗ->G->M->Option (G×M)
def tDG(K:Frag)(gv:GV):TG:=fun v L H Q=>∃(W:Wd) (B:G) (d:D) (ZX:G) (Z5:M),W.H=H/\Ok K W/\EnvR K W B L/\DR K W d v/\gv d B W.O=some (ZX,Z5)/\∀W' Z0,W'.O=Z5->Ok K W'->Step W W'->EnvR K W' ZX Z0->Q Z0 W'.H
def sF(K:Frag)(gv:GsV):TGs:=fun vs L H Q=>∃(W:Wd) (B:G) (ds:ŗ) (ZX:G) (Z5:M),W.H=H/\Ok K W/\EnvR K W B L/\DRs K W ds vs/\gv ds B W.O=some (ZX,Z5)/\∀W' Z0,W'.O=Z5->Ok K W'->Step W W'->EnvR K W' ZX Z0->Q Z0 W'.H
section
variable {X:Cx} {K:Frag} {pos:Pos}
theorem y4(h:PG X tg t)(hi:∀v L H Q,t' v L H Q->t v L H Q):PG X tg t':=fun pins s L H v u Q I r hw=>h pins s L H v u Q I r (hi _ _ _ _ hw)
theorem zW(h:PGs X tg t)(hi:∀v L H Q,t' v L H Q->t v L H Q):PGs X tg t':=fun pins s L H v u Q I r hw=>h pins s L H v u Q I r (hi _ _ _ _ hw)
theorem EnvR.set(e:EnvR K W B L)(r:DR K W d v)(i:Nat):EnvR K W (B.set i<|some d) (L.set i<|some v) where
 len:=by simp[e.len]
 at_ j d' h:=by
  by_cases hj:j=i
  .subst hj;have hlt:j<B.length:=by have:=(SG.mp h).1;simpa using this
   simp[hlt] at h;subst h;exact⟨v,by have:=e.len;simp[show j<L.length by omega],r⟩
  .rw[S4 (Ne.symm hj)] at h;obtain⟨u,hu,q⟩:=e.at_ j d' h;exact⟨u,by rw[S4 (Ne.symm hj)];exact hu,q⟩
def fD(i:Nat):GV:=fun d B O=>some (B.set i (some d),O)
theorem L7:∀v L H Q,tDG K (fD i) v L H Q->yv i v L H Q:=fun v L H Q h=>by
 obtain⟨W,B,d,ZX,Z5,rfl,ok,en,r,e,q⟩:=h;cases e;exact(q W _ rfl ok .refl (en.set r i))
theorem fT(hN:X.N.Nodup)(hi:X.N[i]?=some x)(hx:Loc X.env.scope x)(hf:X.fn x=true\/X.env.scope.names.lookup x=some .local:=by first|exact .inl rfl|exact .inr rfl|assumption):PG X (.Name x pos) (tDG K<|fD i):=y4 (N8 hN hi hx hf) L7
def gF:GsV:=fun ds B O=>match ds with
 | []=>some (B,O)
 |_::_=>none
def fN(g:GV)(gs:GsV):GsV:=fun ds B O=>match ds with
 | []=>none
 |d::r=>(g d B O).bind fun p=>gs r p.1 p.2
theorem jx:PGs X [] (sF K gF):=zW HD fun v L H Q h=>by
 obtain⟨W,B,d,ZX,Z5,rfl,ok,en,r,e,q⟩:=h;cases r with
 |nil=>cases e;exact⟨rfl,q W _ rfl ok .refl en⟩
 |cons _ _=>cases e
theorem gw{e:Expr}{es:Ś}{g:GV}{gs:GsV}(h1:PG X e (tDG K g))(h2:PGs X es (sF K gs))
  (hs:(assignEach (e::es) X.env).map (·.2)=assign e X.env::(assignEach es X.env).map (·.2):=by rfl):PGs X (e::es) (sF K<|fN g gs):=zW (Ha h1 h2 hs) fun v L H Q h=>by
 obtain⟨W,B,d,ZX,Z5,rfl,ok,en,r,e,q⟩:=h;cases r with
 |nil=>cases e
 |cons r rs=>
  refine fF e fun p1 e1 e=>?_;exact⟨_,_,rfl,W,B,_,p1.1,p1.2,rfl,ok,en,r,e1,fun W1 ZN Z2 ok1 s1 en1=>⟨W1,p1.1,_,ZX,Z5,rfl,ok1,en1,rs.step ok s1,by rw[Z2];exact e,fun W2 ZU ZW ok2 s2 en2=>q W2 ZU ZW ok2 (s1.trans s2) en2⟩⟩
def gy(n:Nat)(gs:GsV):GV:=fun d B O=>(lq d).bind fun ds=>if ds.length=n then gs ds B O else none
theorem jh{es:Ś}{k:Nat}{gs:GsV}{n:Nat}(h:PGs X es (sF K gs))(hc:X.calm=true:=by rfl)(hn:(assignEach es X.env).length=n:=by rfl)(hst:(assignEach es X.env).findIdx? (·.1)=none:=by rfl)(hK:X.K=K:=by rfl):PG X (.Tuple es k pos) (tDG K<|gy n gs):=y4 (gT K h hc hn hst hK) fun v L H Q hh=>by
 obtain⟨W,B,d,ZX,Z5,rfl,ok,en,r,e,q⟩:=hh;refine fF e fun ds e1 e=>?_;split at e
 .rename_i hl;obtain⟨a,vs,rfl,hs,hv⟩:=lS e1 r;exact⟨a,vs,rfl,hs,by rw[←hv.length];exact hl,W,B,ds,ZX,Z5,rfl,ok,en,hv,e,q⟩
 .cases e
def rz(eo ei:EV):GV:=fun d B O=>(eo B O).bind fun p=>(ei B p.2).bind fun q=>match q.1 with
 | .int j=>(onL p.1 q.2 fun ds=>(ixN ds.length j).bind fun jj=>some (.non,ds.set jj d)).bind fun r=>some (B,r.2)
 |_=>none
theorem BD(ho:PE X o (tD K eo))(hi:PE X i (tD K ei))(ha:∀v,assign (.Subscript o i pos) X.env v=(do
   let ov ←holding [v] (eval o X.env)
   let iv ←holding [v,ov] (eval i X.env)
   standAt pos
   holding [v,ov,iv] (setItem ov iv v)
   release [v,ov,iv] []):=by intro _;rfl):PG X (.Subscript o i pos) (tDG K<|rz eo ei):=y4 (N9 ho hi IW ha) fun v L H Q hh=>by
 obtain⟨W,B,d,ZX,Z5,rfl,ok,en,r,e,q⟩:=hh;refine fF e fun p1 e1 e=>?_;refine fF e fun p2 e2 e=>?_;refine⟨W,B,p1.1,p1.2,rfl,ok,en,e1,fun x W1 Z2 ok1 s1 r1=>⟨W1,B,p2.1,p2.2,rfl,ok1,en.step ok s1,by rw[Z2];exact e2,fun y W2 ZW ok2 s2 r2=>?_⟩⟩;split at e
 .rename_i j hj;rw[hj] at r2;cases r2;obtain⟨⟨z3,ZL⟩,e3,e⟩:=bnd e;cases e;rw[←ZW] at e3;obtain⟨k,a,ds,vs,ds',h1,rfl,hk,ha,hh,hs,hg,h2⟩:=zM ok2 e3 (r1.step ok1 s2);refine fF hg fun jj hjj hg=>?_;cases hg;obtain⟨o1,st1⟩:=z6 (vs:=vs) (vs':=vs.set jj v) ok2 hk ha (hs.set ((r.step ok s1).step ok1 s2) jj);exact⟨a,vs,j,jj,rfl,rfl,hh,by rw[←hs.length];exact hjj,q _ _ h2.symm o1 ((s1.trans s2).trans st1)<|((en.step ok s1).step ok1 s2).step ok2 st1⟩
 .cases e
end
section
variable {X:Cx} {K:Frag} {pos:Pos} {e:Expr} {ea:EV} {st:Stmt} {fV:Ũ} {sa sb:SV}
def sNx:SV:=fun B O=>some (.nx,B,O)
def fH(a b:SV):SV:=fun B O=>(a B O).bind fun o=>match o.1 with
 | .nx=>b o.2.1 o.2.2
 | .bk=>some (.bk,o.2)
 | .ct=>some (.ct,o.2)
 | .rt d=>some (.rt d,o.2)
theorem gC:PSs X [] (tDS K sNx):=qu RE fun D L H h=>by
 refine el5 h fun W B o ZX Z5 eH ok en e q=>?_;subst eH;cases e;exact q W L rfl ok .refl en
theorem fK(h1:PS X st (tDS K sa)):PSs X [st] (tDS K sa):=CD h1
theorem fL(h1:PS X st (tDS K sa))(h2:PSs X fV (tDS K sb)):PSs X (st::fV) (tDS K<|fH sa sb):=qu (C4 h1 h2) fun D L H h=>by
 refine el5 h fun W B o ZX Z5 eH ok en e q=>?_;subst eH;obtain⟨⟨o1,ZY,Z4⟩,e1,e⟩:=bnd e;refine(⟨W,B,o1,ZY,Z4,rfl,ok,en,e1,fun W1 ZN Z2 ok1 s1 en1=>?_⟩);cases o1 with
 |nx=>exact⟨W1,ZY,o,ZX,Z5,rfl,ok1,en1,by rw[Z2];exact e,fun W2 ZU ZW ok2 s2 en2=>q W2 ZU ZW ok2 (s1.trans s2) en2⟩
 |bk=>cases e;exact q W1 ZN Z2 ok1 s1 en1
 |ct=>cases e;exact q W1 ZN Z2 ok1 s1 en1
 |rt d=>cases e;exact q W1 ZN Z2 ok1 s1 en1
def kg(ea:EV):SV:=fun B O=>(ea B O).bind fun p=>some (.nx,B,p.2)
theorem uQ(he:PE X e (tD K ea))(hs:swapsWith e none pos.line X.env=pure false:=by rfl):PS X (.Expr e pos) (tDS K<|kg ea):=hX (Dq he hs) fun D L H h=>by
 refine el5 h fun W B o ZX Z5 eH ok en e q=>?_;subst eH;refine fF e fun p1 e1 e=>?_;cases e;exact⟨W,B,p1.1,p1.2,rfl,ok,en,e1,fun v W1 Z2 ok1 s1 r1=>q W1 L Z2 ok1 s1<|en.step ok s1⟩
def fM(ea:EV):SV:=fun B O=>(ea B O).bind fun p=>some (.rt p.1,B,p.2)
theorem fU(he:PE X e (tD K ea)):PS X (.Return (some e) pos) (tDS K<|fM ea):=hX (AB he) fun D L H h=>by
 refine el5 h fun W B o ZX Z5 eH ok en e q=>?_;subst eH;refine fF e fun p1 e1 e=>?_;cases e;exact⟨W,B,p1.1,p1.2,rfl,ok,en,e1,fun v W1 Z2 ok1 s1 r1=>q W1 L Z2 ok1 s1 (en.step ok s1) v r1⟩
def sIf(t:BV)(a b:SV):SV:=fun B O=>(t B O).bind fun p=>if p.1=true then a B p.2 else b B p.2
theorem gI(hc:PT X c (tDB K bc))(ha:PSs X a (tDS K sa))(hb:PSs X b (tDS K sb)):PS X (.If c a b pos) (tDS K<|sIf bc sa sb):=hX (Do hc ha hb) fun D L H h=>by
 refine el5 h fun W B o ZX Z5 eH ok en e q=>?_;subst eH;refine fF e fun p1 e1 e=>?_;refine⟨W,B,p1.1,p1.2,rfl,ok,en,e1,fun W1 Z2 ok1 s1=>?_⟩;split at e
 .rename_i hp;rw[if_pos hp];exact⟨W1,B,o,ZX,Z5,rfl,ok1,en.step ok s1,by rw[Z2];exact e,fun W2 ZU ZW ok2 s2 en2=>q W2 ZU ZW ok2 (s1.trans s2) en2⟩
 .rename_i hp;rw[if_neg hp];exact⟨W1,B,o,ZX,Z5,rfl,ok1,en.step ok s1,by rw[Z2];exact e,fun W2 ZU ZW ok2 s2 en2=>q W2 ZU ZW ok2 (s1.trans s2) en2⟩
def fS(ea:EV)(g:GV):SV:=fun B O=>(ea B O).bind fun p=>(g p.1 B p.2).bind fun q=>some (.nx,q.1,q.2)
theorem IN:∀D L H,tDS K (fS ea g) D L H->uv (tD K ea) (tDG K g) D L H:=fun D L H h=>by
 refine el5 h fun W B o ZX Z5 eH ok en e q=>?_;subst eH;refine fF e fun p1 e1 e=>?_;refine fF e fun p2 e2 e=>?_;cases e;exact⟨W,B,p1.1,p1.2,rfl,ok,en,e1,fun v W1 Z2 ok1 s1 r1=>⟨W1,B,p1.1,p2.1,p2.2,rfl,ok1,en.step ok s1,r1,by rw[Z2];exact e2,fun W2 ZU ZW ok2 s2 en2=>q W2 ZU ZW ok2 (s1.trans s2) en2⟩⟩
theorem sZ(he:PE X e (tD K ea))(hg:PG X tg (tDG K g))(hs:swapsWithSole [tg] e pos.line X.env=pure false:=by rfl)(hw:swappedStores [tg] e X.env=pure none:=by rfl)
  (h1:(assignEach [tg] X.env).map (·.2)=[assign tg X.env]:=by rfl):PS X (.Assign [tg] e pos) (tDS K<|fS ea g):=hX (B7 he hg hs hw h1) IN
theorem gp(hN:X.N.Nodup)(hi:X.N[i]?=some x)(hx:Loc X.env.scope x)(he:PE X e (tD K ea))(hs:swapsWith e (some<|.Name x pos') pos.line X.env=pure false:=by rfl)(hf:X.fn x=true\/X.env.scope.names.lookup x=some .local:=by first|exact .inl rfl|exact .inr rfl|assumption):
  PS X (.Assign [.Name x pos'] e pos) (tDS K<|fS ea<|fD i):=hX (Bn hN hi hx he hs hf) fun D L H h=>by
 refine el5 h fun W B o ZX Z5 eH ok en e q=>?_;subst eH;refine fF e fun p1 e1 e=>?_;cases e;exact⟨W,B,p1.1,p1.2,rfl,ok,en,e1,fun v W1 Z2 ok1 s1 r1=>q W1 _ Z2 ok1 s1<|(en.step ok s1).set r1 i⟩
def pD(i:Nat)(f:D->D->M->SB)(ea:EV):SV:=fun B O=>match B[i]? with
 |some (some x)=>(ea B O).bind fun p=>(f x p.1 p.2).bind fun q=>some (.nx,B.set i (some q.1),q.2)
 |_=>none
theorem Mo(hN:X.N.Nodup)(hi:X.N[i]?=some x)(hx:Loc X.env.scope x)(he:PE X e (tD K ea))(ho:PIp X op ti)(ra:R2A K ti f)(hf:X.fn x=true\/X.env.scope.names.lookup x=some .local:=by first|exact .inl rfl|exact .inr rfl|assumption):
  PS X (.AugAssign (.Name x pos') op e pos) (tDS K<|pD i f ea):=hX (IS hN hi hx he ho hf) fun D L H h=>by
 refine el5 h fun W B o ZX Z5 eH ok en e q=>?_;subst eH;unfold pD at e;split at e
 .rename_i x0 hx0;refine fF e fun p1 e1 e=>?_;refine fF e fun p2 e2 e=>?_;cases e;obtain⟨v,hv,r⟩:=en.at_ i _ hx0;refine(⟨v,hv,W,B,p1.1,p1.2,rfl,ok,en,e1,fun y W1 Z2 ok1 s1 r1=>?_⟩);exact ra W1 v y _ _ _ _ _ ok1 (r.step ok s1) r1 (by rw[Z2];exact e2) fun z W2 ZW ok2 s2 r2=>q W2 _ ZW ok2 (s1.trans s2) (((en.step ok s1).step ok1 s2).set r2 i)
 .cases e
theorem Ss:R2A K (ipI g) (fI0 fun i j=>.int<|g i j):=by
 intro W x y d e z Z5 Q ok r1 r2 hf q;unfold fI0 at hf;split at hf
 .cases hf;cases r1;cases r2;exact⟨_,_,rfl,rfl,q _ W rfl ok .refl (.int _)⟩
 .cases hf
theorem KN(hN:X.N.Nodup)(hi:X.N[i]?=some x)(hx:Loc X.env.scope x)(he:PE X e (tD K ea))(hf:X.fn x=true\/X.env.scope.names.lookup x=some .local:=by first|exact .inl rfl|exact .inr rfl|assumption):
  PS X (.AugAssign (.Name x pos') .Add e pos) (tDS K<|pD i yR ea):=Mo hN hi hx he QC Ss hf
def lc(c:BV)(body:SV):Nat->SV
 |0,_,_=>none
 |n+1,B,O=>(c B O).bind fun p=>if p.1=true then(body B p.2).bind fun o=>match o.1 with
   | .nx=>lc c body n o.2.1 o.2.2
   | .ct=>lc c body n o.2.1 o.2.2
   | .bk=>some (.nx,o.2)
   | .rt d=>some (.rt d,o.2)
  else some (.nx,B,p.2)
theorem yn(n:Nat)(hp:PassesOwn (model X.prog X.w) X.A X.env X.xe)(hc:PT X c (tDB K bc))(hb:PSs X body (tDS K sb)):PS X (.While c body [] pos) (tDS K<|lc bc sb n):=hX (Fp hp hc hb) fun D L H h=>by
 refine el5 h fun W B o ZX Z5 eH ok en e q=>?_;subst eH;refine⟨fun m ZN H1=>∃W1 ZY,W1.H=H1/\Ok K W1/\Step W W1/\EnvR K W1 ZY ZN/\lc bc sb m ZY W1.O=some (o,ZX,Z5),⟨n,W,B,rfl,ok,.refl,en,e⟩,?_⟩;rintro m ZN H1 ⟨W1,ZY,rfl,ok1,s1,en1,e1⟩;cases m with
 |zero=>cases e1
 |succ m=>
  refine fF e1 fun p1 ec e1=>?_;refine⟨W1,ZY,p1.1,p1.2,rfl,ok1,en1,ec,fun W2 ZW ok2 s2=>?_⟩;split at e1
  .rename_i hp1;rw[if_pos hp1];obtain⟨⟨o3,Zi,ZL⟩,e3,e1⟩:=bnd e1;refine⟨_,fun Z0 H' h'=>⟨m,Va m,h'⟩,W2,ZY,o3,Zi,ZL,rfl,ok2,en1.step ok1 s2,by rw[ZW];exact e3,fun W3 ZH ZR ok3 s3 en3=>?_⟩;cases o3 with
   |nx=>exact⟨W3,Zi,rfl,ok3,(s1.trans s2).trans s3,en3,by rw[ZR];exact e1⟩
   |ct=>exact⟨W3,Zi,rfl,ok3,(s1.trans s2).trans s3,en3,by rw[ZR];exact e1⟩
   |bk=>cases e1;exact q W3 ZH ZR ok3 ((s1.trans s2).trans s3) en3
   |rt d=>cases e1;exact q W3 ZH ZR ok3 ((s1.trans s2).trans s3) en3
  .rename_i hp1;cases e1;rw[if_neg hp1];exact q W2 ZN ZW ok2 (s1.trans s2) (en1.step ok1 s2)
abbrev Ck:=Option (Nat×ŗ)
def gc:Ck->M->Prop
 |none,_=>True
 |some (k,raw),O=>O[k]?=some (some<|.lst raw)
abbrev IV:=G->M->Option ((List D×Ck)×M)
def JR(K:Frag)(W:Wd)(Z6:It)(its:ŗ)(c:Ck):Prop:=gc c W.O/\∃ds vs,DRs K W ds vs/\∀(W2:Wd) (i:Nat),Ok K W2->gc c W2.O->DRs K W2 ds vs->
 (its.length<=i->Z6.stop i W2.H)/\∀d,its[i]?=some d->Z6.go i W2.H/\∀x H',Z6.yld i W2.H x H'->∃W3,W3.H=H'/\W3.O=W2.O/\Ok K W3/\Step W2 W3/\DR K W3 d x
def tDI(K:Frag)(iv:IV):TI:=fun L H R=>∃(W:Wd) (B:G) (its:ŗ) (c:Ck) (Z5:M),W.H=H/\Ok K W/\EnvR K W B L/\iv B W.O=some ((its,c),Z5)/\∀Z6 W',W'.O=Z5->Ok K W'->Step W W'->JR K W' Z6 its c->R Z6 W'.H
theorem nn(h:PI X tg iter t)(hi:∀L H R,t' L H R->t L H R):PI X tg iter t':=fun pins s L H R I hw=>h pins s L H R I (hi _ _ _ hw)
def lsC(O:M):D->Option (List D×Ck)
 | .lst ds=>some (ds,none)
 | .scr ds=>some (ds,none)
 | .ref k=>match O[k]? with
  |some (some<|.lst ds)=>some (ds,some (k,ds))
  |_=>none
 |_=>none
theorem xm(ok:Ok K W)(h:lsC W.O d=some (ds,c))(r:DR K W d v):
  gc c W.O/\∃a,v=.ref a/\∀W2,Ok K W2->gc c W2.O->DR K W2 d v->∃vs,SqL K W2.H a vs/\DRs K W2 ds vs:=by
 cases d with
 |lst xs=>
  cases h;cases r with
  |lst h n hs=>
   refine⟨trivial,_,rfl,fun W2 _ _ r2=>?_⟩;cases r2 with
   |lst h n hs=>exact⟨_,SqL.of h,hs⟩
 |scr xs=>
  cases h;cases r with
  |scr h hs=>
   refine⟨trivial,_,rfl,fun W2 _ _ r2=>?_⟩;cases r2 with
   |scr h hs=>exact⟨_,h.seq,hs⟩
 |ref k=>
  simp only[lsC] at h;split at h
  .rename_i xs hk;cases h;refine⟨hk,?_⟩;cases r with
   |ref ha=>
    refine⟨_,rfl,fun W2 ok2 c2 r2=>?_⟩;obtain⟨a',vs,e,_,hh,hs⟩:=m4 ok2 c2 r2;cases e;exact(⟨vs,SqL.of hh,hs⟩)
  .cases h
 |_=>cases h
def ivL(ea:EV):IV:=fun B O=>(ea B O).bind fun p=>(lsC p.2 p.1).bind fun s=>some (s,p.2)
theorem ie(ha:PE X a (tD K ea))(hK:X.K=K:=by rfl):PI X tg a (tDI K<|ivL ea):=nn (iL K ha hK) fun L H R h=>by
 refine el5 h fun W B its c Z5 eH ok en e q=>?_;subst eH;refine fF e fun p1 e1 e=>?_;refine fF e fun s e2 e=>?_;cases e;refine⟨W,B,p1.1,p1.2,rfl,ok,en,e1,fun v W1 Z2 ok1 s1 r1=>?_⟩;obtain⟨c0,a,rfl,hh⟩:=xm ok1 (by rw[Z2];exact e2) r1;obtain⟨vs0,h0,_⟩:=hh W1 ok1 c0 r1;refine(⟨a,rfl,⟨_,h0⟩,q (Itl K a) W1 Z2 ok1 s1 ⟨c0,[p1.1],[.ref a],.cons r1 .nil,fun W2 i ok2 c2 r2=>?_⟩⟩);cases r2 with
 |cons r2 _=>
  obtain⟨vs,hs,hv⟩:=hh W2 ok2 c2 r2;refine⟨fun hi=>⟨vs,hs,by rw[←hv.length];exact hi⟩,fun d hd=>?_⟩;obtain⟨v,hv1,hv2⟩:=hv.get hd;refine(⟨⟨vs,v,hs,hv1⟩,fun x H' y=>?_⟩);obtain⟨rfl,y⟩:=y;have:=y vs hs;rw[hv1] at this;cases this;exact⟨W2,rfl,rfl,ok2,.refl,hv2⟩
def ivT(ea:EV):IV:=fun B O=>(ea B O).bind fun p=>(lq p.1).bind fun ds=>some ((ds,none),p.2)
theorem qQ(ha:PE X a (tD K ea))(hK:X.K=K:=by rfl):PI X tg a (tDI K<|ivT ea):=nn (iT K ha hK) fun L H R h=>by
 refine el5 h fun W B its c Z5 eH ok en e q=>?_;subst eH;refine fF e fun p1 e1 e=>?_;refine fF e fun s e2 e=>?_;cases e;refine⟨W,B,p1.1,p1.2,rfl,ok,en,e1,fun v W1 Z2 ok1 s1 r1=>?_⟩;obtain⟨a,vs0,rfl,h0,_⟩:=lS e2 r1;refine(⟨a,rfl,⟨_,h0⟩,q (Itt K a) W1 Z2 ok1 s1 ⟨trivial,[p1.1],[.ref a],.cons r1 .nil,fun W2 i ok2 c2 r2=>?_⟩⟩);cases r2 with
 |cons r2 _=>
  obtain⟨a',vs,e',hs,hv⟩:=lS e2 r2;cases e';refine⟨fun hi=>⟨vs,hs,by rw[←hv.length];exact hi⟩,fun d hd=>?_⟩;obtain⟨v,hv1,hv2⟩:=hv.get hd;refine(⟨⟨vs,v,hs,hv1⟩,fun x H' y=>?_⟩);obtain⟨rfl,y⟩:=y;have:=y vs hs;rw[hv1] at this;cases this;exact⟨W2,rfl,rfl,ok2,.refl,hv2⟩
def gh(lo:Int)(n:Nat):ŗ:=(List.range n).map fun k:Nat=>D.int (lo+k)
theorem xq:JR K W (Itr lo n) (gh lo n) none:=by
 refine⟨trivial,[],[],.nil,fun W2 i ok2 _ _=>⟨fun hi=>?_,fun d hd=>?_⟩⟩
 .show n<=i;simpa[gh] using hi
 .have hlt:=(SG.mp hd).1;simp[gh] at hlt;simp[gh,hlt] at hd;subst hd;refine⟨hlt,fun x H' y=>?_⟩;obtain⟨rfl,rfl⟩:=y;exact(⟨W2,rfl,rfl,ok2,.refl,.int _⟩)
def ivR(ea:EV):IV:=fun B O=>(ea B O).bind fun p=>match p.1 with
 | .int j=>if -1000000000<=j/\j<=1000000000 then some ((gh 0 j.toNat,none),p.2) else none
 |_=>none
theorem xA(mr:X.mg "range"=none) (ha:PE X a (tD K ea)) (hg:Gl X "range":=by rfl) (hs:starEach [a] X.env=[(false,eval a X.env)]:=by rfl):PI X tg (.Call (.Name "range" p) [a] [] pos) (tDI K<|ivR ea):=nn (iR mr ha hg hs) fun L H R h=>by
 refine el5 h fun W B its c Z5 eH ok en e q=>?_;subst eH;refine fF e fun p1 e1 e=>?_;split at e
 .rename_i j hj;split at e
  .rename_i hb;cases e;refine⟨W,B,p1.1,p1.2,rfl,ok,en,e1,fun v W1 Z2 ok1 s1 r1=>?_⟩;rw[hj] at r1;cases r1;exact⟨j,rfl,by omega,by omega,q _ W1 Z2 ok1 s1 xq⟩
  .cases e
 .cases e
def qd(ea eb:EV):IV:=fun B O=>(ea B O).bind fun p=>(eb B p.2).bind fun r=>match p.1,r.1 with
 | .int i,.int j=>if(-1000000000<=i/\i<=1000000000)/\-1000000000<=j/\j<=1000000000 then some ((gh i (j - i).toNat,none),r.2) else none
 |_,_=>none
theorem MK(mr:X.mg "range"=none) (ha:PE X a (tD K ea)) (hb:PE X b (tD K eb)) (hg:Gl X "range":=by rfl) (hs:starEach [a,b] X.env=[(false,eval a X.env),(false,eval b X.env)]:=by rfl) (hs2:starEach [b] X.env=[(false,eval b X.env)]:=by rfl):
  PI X tg (.Call (.Name "range" p) [a,b] [] pos) (tDI K<|qd ea eb):=nn (iR2 mr ha hb hg hs hs2) fun L H R h=>by
 refine el5 h fun W B its c Z5 eH ok en e q=>?_;subst eH;refine fF e fun p1 e1 e=>?_;refine fF e fun p2 e2 e=>?_;split at e
 .rename_i i j hi hj;split at e
  .rename_i hb;cases e;refine⟨W,B,p1.1,p1.2,rfl,ok,en,e1,fun v W1 Z2 ok1 s1 r1=>⟨W1,B,p2.1,p2.2,rfl,ok1,en.step ok s1,by rw[Z2];exact e2,fun y W2 ZW ok2 s2 r2=>?_⟩⟩;rw[hi] at r1;rw[hj] at r2;cases r1;cases r2;exact⟨i,j,rfl,⟨by omega,by omega,by omega,by omega⟩,q _ W2 ZW ok2 (s1.trans s2) xq⟩
  .cases e
 .cases e
def gD(c:Ck)(g:GV)(body:SV):ŗ->SV
 | [],B,O=>some (.nx,B,O)
 |d::r,B,O=>(g d B O).bind fun p=>(body p.1 p.2).bind fun o=>match o.1 with
  | .nx=>chk (gc c o.2.2) (gD c g body r o.2.1 o.2.2)
  | .ct=>chk (gc c o.2.2) (gD c g body r o.2.1 o.2.2)
  | .bk=>some (.nx,o.2)
  | .rt d=>some (.rt d,o.2)
def iz(iv:IV)(g:GV)(body:SV):SV:=fun B O=>(iv B O).bind fun s=>gD s.1.2 g body s.1.1 B s.2
theorem i5(hp:PassesOwn (model X.prog X.w) X.A X.env X.xe)(hc:X.calm=true)(hi:PI X tg iter (tDI K iv))(hg:PG X tg (tDG K g))(hb:PSs X body (tDS K sb))
  (hs:∀x,foldedSetIterable iter X.env x=pure x:=by intro _;rfl):PS X (.For tg iter body [] pos) (tDS K<|iz iv g sb):=hX (Ec hp hc hi hg hb hs) fun D L H h=>by
 refine el5 h fun W B o ZX Z5 eH ok en e q=>?_;subst eH;obtain⟨⟨⟨its,c⟩,Z4⟩,e1,e⟩:=bnd e;refine(⟨W,B,its,c,Z4,rfl,ok,en,e1,fun Z6 W1 ZJ ok1 s1 jr=>?_⟩);obtain⟨c1,ds,vs,r1,hj⟩:=jr;obtain⟨P,hP⟩:∃P:Nat->St->Hp->Prop,∀i ZU H2,P i ZU H2↔(i<=its.length/\∃W2 ZV,W2.H=H2/\Ok K W2/\Step W1 W2/\EnvR K W2 ZV ZU/\gc c W2.O/\gD c g sb (its.drop i) ZV W2.O=some (o,ZX,Z5)):=⟨_,fun _ _ _=>SR⟩
 refine⟨fun i m ZU H2=>m=its.length - i/\P i ZU H2,⟨its.length,by simp,(hP _ _ _).2 ⟨TQ _,W1,B,rfl,ok1,.refl,en.step ok s1,c1,by rw[ZJ];exact e⟩⟩,?_⟩;rintro i m ZU H2 ⟨rfl,hi⟩;refine bq fun hG=>?_;obtain⟨hi,W2,ZV,rfl,ok2,s2,en2,c2,e2⟩:=(hP _ _ _).1 hi;obtain⟨hstop,hgo⟩:=hj W2 i ok2 c2 (r1.step ok1 s2);by_cases hlt:i<its.length
 .have hd:its[i]?=some its[i]:=SO hlt;obtain⟨h1,h2⟩:=hgo _ hd;rw[Tj hlt] at e2;refine fF e2 fun p e3 e2=>?_;obtain⟨⟨o4,Zs,Zr⟩,e4,e2⟩:=bnd e2;refine(hG<|.inr ⟨h1,P (i+1),fun Z0 H' hN=>⟨its.length - (i+1),by omega,rfl,hN⟩,fun x H' hy=>?_⟩);refine bq fun hF=>?_;obtain⟨W3,rfl,ZR,ok3,s3,r3⟩:=h2 x H' hy;refine hF ⟨W3,ZV,its[i],p.1,p.2,rfl,ok3,en2.step ok2 s3,r3,by rw[ZR];exact e3,fun W4 ZP ZD ok4 s4 en4=>⟨W4,p.1,o4,Zs,Zr,rfl,ok4,en4,by rw[ZD];exact e4,fun W5 Zp ZO ok5 s5 en5=>?_⟩⟩;have st:=s2.trans (s3.trans<|s4.trans s5);cases o4 with
  |nx=>refine jZ e2 fun hc5 e2=>?_;exact(hP _ _ _).2 ⟨hlt,W5,Zs,rfl,ok5,st,en5,by rw[ZO];exact hc5,by rw[ZO];exact e2⟩
  |ct=>refine jZ e2 fun hc5 e2=>?_;exact(hP _ _ _).2 ⟨hlt,W5,Zs,rfl,ok5,st,en5,by rw[ZO];exact hc5,by rw[ZO];exact e2⟩
  |bk=>cases e2;exact q W5 Zp ZO ok5 (s1.trans st) en5
  |rt d=>cases e2;exact q W5 Zp ZO ok5 (s1.trans st) en5
 .have e':i=its.length:=by omega
  subst e';rw[TB (SF _)] at e2;cases e2;exact hG (.inl ⟨hstop (SF _),q W2 ZU rfl ok2 (s1.trans s2) en2⟩)
end
structure StepB (p:Addr) (W W':Wd):Prop where
 ρ:∀(k:Nat) a,W.ρ[k]?=some a->W'.ρ[k]?=some a
 live:∀a,RL W' a->RL W a\/W.H a=none
 keep:∀a o,a≠p->W.H a=some o->¬RL W a->W'.H a=some o
 hid:W'.hid=W.hid
 still:∀a,W.H a≠none->W'.H a≠none
section
variable {K:Frag} {W W' W'':Wd} {p:Addr}
theorem Step.b(s:Step W W'):StepB p W W':=⟨s.ρ,s.live,fun a o _ h n=>s.keep a o h n,s.hid,s.still⟩
theorem StepB.nlive(s:StepB p W W')(h:W.H a=some o)(n:¬RL W a):¬RL W' a:=fun z=>by
 rcases s.live a z with z|z
 .exact n z
 .rw[h] at z;cases z
theorem StepB.trans(s:StepB p W W')(t:StepB p W' W''):StepB p W W'' where
 ρ k a h:=t.ρ k a (s.ρ k a h)
 live a h:=by
  rcases t.live a h with z|z
  .exact s.live a z
  .exact .inr (T2 fun n=>s.still a n z)
 keep a o hp h n:=t.keep a o hp (s.keep a o hp h n) (s.nlive h n)
 hid:=t.hid.trans s.hid
 still a h:=t.still a (s.still a h)
mutual
theorem DR.stepB(ok:Ok K W)(hp:W.hid p)(hl:∃ys,W.H p=some (.lst ys))(s:StepB p W W'):∀{d:D} {v:V},DR K W d v->DR K W' d v
 |_,_,.non=>.non
 |_,_,.bl b=>.bl b
 |_,_,.int i=>.int i
 |_,_,.str x=>.str x
 |_,_,.ref h=>.ref (s.ρ _ _ h)
 |_,_,.lst r n h=>.lst (s.keep _ _ (fun z=>n<|.inr (by rw[z];exact hp)) r<|fun z=>n<|.inl z) (fun z=>z.elim (s.nlive r<|fun z=>n<|.inl z)<|fun z=>n<|.inr (by rw[s.hid] at z;exact z)) (DRs.stepB ok hp hl s h)
 |_,_,.scr r h=>.scr (by
   rcases r with⟨o,r⟩|r
   .obtain⟨ys,hl⟩:=hl;exact .inl ⟨o,s.keep _ _ (fun z=>by rw[z,hl] at r;cases r) r<|ok.nofrz r⟩
   .exact .inr r) (DRs.stepB ok hp hl s h)
 |_,_,.tup r h=>.tup (by
   obtain⟨ys,hl⟩:=hl;exact s.keep _ _ (fun z=>by rw[z,hl] at r;cases r) r (ok.notup<|.inl r)) (DRs.stepB ok hp hl s h)
 |_,_,.gt r h=>.gt (by
   rcases r with r|r
   .have n:=ok.notup r;obtain⟨ys,hl⟩:=hl;rcases r with r|⟨o,r⟩
    .exact .inl (.inl<|s.keep _ _ (fun z=>by rw[z,hl] at r;cases r) r n)
    .exact .inl (.inr ⟨o,s.keep _ _ (fun z=>by rw[z,hl] at r;cases r) r n⟩)
   .exact .inr r) (DRs.stepB ok hp hl s h)
theorem DRs.stepB(ok:Ok K W)(hp:W.hid p)(hl:∃ys,W.H p=some (.lst ys))(s:StepB p W W'):∀{ds:ŗ} {vs:Ř},DRs K W ds vs->DRs K W' ds vs
 |_,_,.nil=>.nil
 |_,_,.cons h t=>.cons (h.stepB ok hp hl s) (DRs.stepB ok hp hl s t)
end
theorem OR.stepB(ok:Ok K W)(hp:W.hid p)(hl:∃ys,W.H p=some (.lst ys))(s:StepB p W W')(h:OR K W a o ho):OR K W' a o ho:=by
 cases o with
 |lst ds=>obtain⟨vs,e,q⟩:=h;exact⟨vs,e,q.stepB ok hp hl s⟩
 |dK kvs=>obtain⟨vs,e,q⟩:=h;exact⟨vs,e,Paired.mapP q fun _ _ ⟨e,q⟩=>⟨e,q.stepB ok hp hl s⟩⟩
 |dN kvs=>obtain⟨vs,e,q⟩:=h;exact⟨vs,e,Paired.mapP q fun _ _ ⟨e,q⟩=>⟨e,q.stepB ok hp hl s⟩⟩
 |ins C fs=>obtain⟨vs,e,q⟩:=h;exact⟨vs,e,Paired.mapP q fun _ _ ⟨e,q⟩=>⟨e,q.stepB ok hp hl s⟩⟩
 |exc C=>exact h
theorem EnvR.stepB(e:EnvR K W B L)(ok:Ok K W)(hp:W.hid p)(hl:∃ys,W.H p=some (.lst ys))(s:StepB p W W'):EnvR K W' B L:=⟨e.len,fun i d h=>let ⟨v,a,b⟩:=e.at_ i d h;⟨v,a,b.stepB ok hp hl s⟩⟩
def Wd.re(W:Wd)(p:Addr)(o:HO):Wd:={W with H:=upd W.H p o}
theorem lL:StepB p W (W.re p o) where
 ρ _ _ h:=h
 live _ h:=.inl h
 keep a u hp e _:=by show upd W.H p o a=_;rw[fR hp];exact e
 hid:=rfl
 still a n:=by
  show upd W.H p o a≠none;by_cases e:a=p
  .subst e;rw[gH];simp
  .rw[fR e];exact n
theorem AM(ok:Ok K W)(hp:W.hid p)(hl:∃ys,W.H p=some (.lst ys)):Ok K (W.re p o) where
 len:=ok.len
 nd:=ok.nd
 rs a m:=(lL (W:=W) (p:=p) (o:=o)).still a (ok.rs a m)
 at_ k u e:=by
  obtain⟨a,ho,h1,h2,h3⟩:=ok.at_ k u e;have hne:a≠p:=fun z=>(ok.hd p hp).2 (z▸⟨k,u,e,h1⟩);exact⟨a,ho,h1,by show upd W.H p o a=_;rw[fR hne];exact h2,h3.stepB ok hp hl lL⟩
 hd0 a z:=⟨(lL (W:=W) (p:=p) (o:=o)).still a (ok.hd a z).1,(ok.hd0 a z).2⟩
mutual
theorem DR.hide(hp:W.H p=none)(ok:Ok K W){o:HO}:∀{d:D} {v:V},DR K W d v->DR K (W.hide p o) d v
 |_,_,.non=>.non
 |_,_,.bl b=>.bl b
 |_,_,.int i=>.int i
 |_,_,.str x=>.str x
 |_,_,.ref h=>.ref h
 |_,_,.lst r n h=>.lst (by show upd W.H p o _=_;rw[fR (iA r hp)];exact r) (fun z=>z.elim (fun z=>n<|.inl z)<|fun z=>z.elim (fun z=>by rw[z,hp] at r;cases r)<|fun z=>n<|.inr z) (DRs.hide hp ok h)
 |_,_,.scr r h=>.scr (Be ok (gP hp) r) (DRs.hide hp ok h)
 |_,_,.tup r h=>.tup (by show upd W.H p o _=_;rw[fR (iA r hp)];exact r) (DRs.hide hp ok h)
 |_,_,.gt r h=>.gt (DO ok (gP hp) r) (DRs.hide hp ok h)
theorem DRs.hide(hp:W.H p=none)(ok:Ok K W){o:HO}:∀{ds:ŗ} {vs:Ř},DRs K W ds vs->DRs K (W.hide p o) ds vs
 |_,_,.nil=>.nil
 |_,_,.cons h t=>.cons (h.hide hp ok) (DRs.hide hp ok t)
end
theorem OR.hide(hp:W.H p=none)(ok:Ok K W)(h:OR K W a x ho):OR K (W.hide p o) a x ho:=by
 cases x with
 |lst ds=>obtain⟨vs,e,q⟩:=h;exact⟨vs,e,q.hide hp ok⟩
 |dK kvs=>obtain⟨vs,e,q⟩:=h;exact⟨vs,e,Paired.mapP q fun _ _ ⟨e,q⟩=>⟨e,q.hide hp ok⟩⟩
 |dN kvs=>obtain⟨vs,e,q⟩:=h;exact⟨vs,e,Paired.mapP q fun _ _ ⟨e,q⟩=>⟨e,q.hide hp ok⟩⟩
 |ins C fs=>obtain⟨vs,e,q⟩:=h;exact⟨vs,e,Paired.mapP q fun _ _ ⟨e,q⟩=>⟨e,q.hide hp ok⟩⟩
 |exc C=>exact h
theorem EnvR.hide(e:EnvR K W B L)(hp:W.H p=none)(ok:Ok K W):EnvR K (W.hide p o) B L:=⟨e.len,fun i d h=>let ⟨v,a,b⟩:=e.at_ i d h;⟨v,a,b.hide hp ok⟩⟩
theorem sP(ok:Ok K W)(hp:W.H p=none):Ok K (W.hide p o) where
 len:=ok.len
 nd:=ok.nd
 rs a m:=(gP (o:=o) hp).still a (ok.rs a m)
 at_ k u e:=by
  obtain⟨a,ho,h1,h2,h3⟩:=ok.at_ k u e;exact⟨a,ho,h1,by show upd W.H p o a=_;rw[fR (iA h2 hp)];exact h2,h3.hide hp ok⟩
 hd0 a z:=by
  rcases z with rfl|z
  .exact⟨by show upd W.H a o a≠none;rw[gH];simp,fun m=>ok.rs a m hp⟩
  .exact⟨(gP (o:=o) hp).still a (ok.hd a z).1,(ok.hd0 a z).2⟩
def Wd.show(W:Wd)(h:Addr->Prop):Wd:={W with hid:=h}
mutual
theorem DR.show(hs:∀a,h a->W.hid a):∀{d:D} {v:V},DR K W d v->DR K (W.show h) d v
 |_,_,.non=>.non
 |_,_,.bl b=>.bl b
 |_,_,.int i=>.int i
 |_,_,.str x=>.str x
 |_,_,.ref h=>.ref h
 |_,_,.lst r n h=>.lst r (fun z=>n<|z.elim .inl<|fun z=>.inr<|hs _ z) (DRs.show hs h)
 |_,_,.scr r h=>.scr r (DRs.show hs h)
 |_,_,.tup r h=>.tup r (DRs.show hs h)
 |_,_,.gt r h=>.gt r (DRs.show hs h)
theorem DRs.show(hs:∀a,h a->W.hid a):∀{ds:ŗ} {vs:Ř},DRs K W ds vs->DRs K (W.show h) ds vs
 |_,_,.nil=>.nil
 |_,_,.cons h t=>.cons (h.show hs) (DRs.show hs t)
end
theorem O3(ok:Ok K W)(hs:∀a,h a->W.hid a):Ok K (W.show h) where
 len:=ok.len
 nd:=ok.nd
 rs:=ok.rs
 at_ k u e:=by
  obtain⟨a,ho,h1,h2,h3⟩:=ok.at_ k u e;refine(⟨a,ho,h1,h2,?_⟩);cases u with
  |lst ds=>obtain⟨vs,e,q⟩:=h3;exact⟨vs,e,q.show hs⟩
  |dK kvs=>obtain⟨vs,e,q⟩:=h3;exact⟨vs,e,Paired.mapP q fun _ _ ⟨e,q⟩=>⟨e,q.show hs⟩⟩
  |dN kvs=>obtain⟨vs,e,q⟩:=h3;exact⟨vs,e,Paired.mapP q fun _ _ ⟨e,q⟩=>⟨e,q.show hs⟩⟩
  |ins C fs=>obtain⟨vs,e,q⟩:=h3;exact⟨vs,e,Paired.mapP q fun _ _ ⟨e,q⟩=>⟨e,q.show hs⟩⟩
  |exc C=>exact h3
 hd0 a z:=ok.hd0 a (hs a z)
theorem Su(hp:W.H p=none)(s:StepB p (W.hide p o) W'):Step W (W'.show W.hid) where
 ρ k a h:=s.ρ k a h
 live a z:=by
  rcases s.live a z with z|z
  .exact .inl z
  .have z:upd W.H p o a=none:=z;by_cases e:a=p
   .subst e;rw[gH] at z;cases z
   .rw[fR e] at z;exact .inr z
 keep a u e n:=s.keep a u (iA e hp) (by show upd W.H p o a=_;rw[fR (iA e hp)];exact e) n
 hid:=rfl
 still a n:=s.still a (by
  show upd W.H p o a≠none;by_cases e:a=p
  .subst e;rw[gH];simp
  .rw[fR e];exact n)
theorem mX(ok:Ok K W)(hp:W.hid p):¬RL W p:=(ok.hd p hp).2
end
def gA(own:Ŗ)(cap:œ)(B:G):G:=own.map (fun _=>none)++cap.map fun p=>(B[p.2]?).join
theorem EnvR.cap{K:Frag}{W:Wd}{B:G}{L:St}(e:EnvR K W B L)(own:Ŗ)(cap:œ):EnvR K W (gA own cap B) (im own cap L) where
 len:=by simp[gA,im]
 at_ i d h:=by
  unfold gA at h;unfold im;by_cases hi:i<own.length
  .rw[S1 (by simpa using hi)] at h;simp[hi] at h
  .rw[Th (by simpa using hi)] at h⊢;simp only[SW,S6] at h⊢;cases hc:cap[i - own.length]? with
   |none=>rw[hc] at h;cases h
   |some p=>
    rw[hc] at h;simp only[Vg] at h⊢;cases hg:B[p.2]? with
    |none=>rw[hg] at h;cases h
    |some x=>
     rw[hg] at h;cases x with
     |none=>cases h
     |some d'=>
      cases h;obtain⟨v,hv,r⟩:=e.at_ _ _ hg;exact⟨v,by rw[hv];rfl,r⟩
def gE(c:Ck)(g:GV)(tc:BV)(te:EV):ŗ->G->M->Option (List D×M)
 | [],_,O=>some ([],O)
 |d::r,B,O=>(g d B O).bind fun p=>(tc p.1 p.2).bind fun t=>if t.1=true then(te p.1 t.2).bind fun v=>chk (gc c v.2) ((gE c g tc te r p.1 v.2).bind fun q=>some (v.1::q.1,q.2)) else chk (gc c t.2) (gE c g tc te r p.1 t.2)
def fQ:BV:=fun _ O=>some (true,O)
section
variable {X:Cx} {K:Frag} {N' own:Ŗ} {cap:œ} {scope:Scope} {tg iter elt:Expr} {ifs:Ś} {pos:Pos} {iv:IV} {g:GV} {tc:BV} {te:EV}
theorem PX(h:PIf X ifs t)(hi:∀L H Q,t' L H Q->t L H Q):PIf X ifs t':=fun pins s L H Q I hw=>h pins s L H Q I (hi _ _ _ hw)
theorem iC:PIf X [] (tDB K fQ):=PX OH fun L H Q h=>by
 refine el4 h fun W B b Z5 eH ok en e q=>?_;subst eH;cases e;exact q W rfl ok .refl
theorem vQ(h:PT X c (tDB K tc)):PIf X [c] (tDB K tc):=QQ h
theorem zo{W1:Wd}{Z6:It}{its:ŗ}{c:Ck}{ZC:G}{ZM:St}{rs:ŗ}{Z5:M}{p:Addr}{Z:Hp->Prop}(ok1:Ok K W1)(hp:W1.H p=none)(jr:JR K W1 Z6 its c)(en:EnvR K W1 ZC ZM)(hl:its.length<=1000000)
  (e:gE c g tc te its ZC W1.O=some (rs,Z5)) (hZ:∀W' ys,W'.O=Z5->Ok K W'->StepB p (W1.hide p<|.lst []) W'->W'.hid p->W'.H p=some (.lst ys)->DRs K W' rs ys->Z W'.H):
  qA Z6 (tDG K g) (tDB K tc) (tD K te) p ZM W1.H Z:=by
 obtain⟨c1,ds,vs,r1,hj⟩:=jr;obtain⟨P,hP⟩:∃P:Nat->St->Hp->Prop,∀i ZU H2,P i ZU H2↔(i<=its.length/\∃W2 ZV done fV ys,W2.H=H2/\Ok K W2/\StepB p (W1.hide p<|.lst []) W2/\W2.hid p/\W2.H p=some (.lst ys)/\DRs K W2 done ys/\ys.length<=i/\EnvR K W2 ZV ZU/\gc c W2.O/\gE c g tc te (its.drop i) ZV W2.O=some (fV,Z5)/\done++fV=rs):=⟨_,fun _ _ _=>SR⟩
 refine⟨fun i m ZU H2=>m=its.length - i/\P i ZU H2,?_,?_⟩
 .exact⟨its.length,by simp,(hP _ _ _).2 ⟨TQ _,W1.hide p (.lst []),ZC,[],rs,[],rfl,sP ok1 hp,⟨fun _ _ h=>h,fun _ h=>.inl h,fun _ _ _ h _=>h,rfl,fun _ h=>h⟩,.inl rfl,gH,.nil,SF _,en.hide hp ok1,c1,e,rfl⟩⟩
 rintro i m ZU H2 ⟨rfl,hi⟩;refine bq fun hG=>?_;obtain⟨hi,W2,ZV,done,fV,ys,rfl,ok2,s2,hp2,hy2,rd,hyl,en2,c2,e2,ed⟩:=(hP _ _ _).1 hi;have rj:DRs K W2 ds vs:=(r1.hide hp ok1).stepB (sP ok1 hp) (.inl rfl) ⟨[],gH⟩ s2;obtain⟨hstop,hgo⟩:=hj W2 i ok2 c2 rj;by_cases hlt:i<its.length
 .have hd:its[i]?=some its[i]:=SO hlt;obtain⟨h1,h2⟩:=hgo _ hd;rw[Tj hlt] at e2;refine fF e2 fun pg e3 e2=>?_;refine fF e2 fun pt e4 e2=>?_;refine(hG<|.inr ⟨h1,P (i+1),fun Z0 H' hN=>⟨its.length - (i+1),by omega,rfl,hN⟩,fun x H' hy=>?_⟩);refine bq fun hF=>?_;obtain⟨W3,rfl,ZR,ok3,s3,r3⟩:=h2 x H' hy;refine hF ⟨W3,ZV,its[i],pg.1,pg.2,rfl,ok3,en2.step ok2 s3,r3,by rw[ZR];exact e3,fun W4 ZP ZD ok4 s4 en4=>⟨W4,pg.1,pt.1,pt.2,rfl,ok4,en4,by rw[ZD];exact e4,fun W5 ZO ok5 s5=>?_⟩⟩;have s25:=s3.trans (s4.trans s5);split at e2
  .rename_i ht;refine fF e2 fun pv e5 e2=>?_;refine jZ e2 fun c5 e2=>?_;refine fF e2 fun pq e6 e2=>?_;cases e2;refine l6 (fun _=>?_) (fun n=>absurd ht n);refine⟨W5,pg.1,pv.1,pv.2,rfl,ok5,en4.step ok4 s5,by rw[ZO];exact e5,fun v W6 Zw ok6 s6 r6=>?_⟩;have s26:=s25.trans s6;have hp6:W6.hid p:=by rw[s26.hid];exact hp2
   have hy6:W6.H p=some (.lst ys):=s26.keep _ _ hy2 (mX ok2 hp2);have rd6:=rd.step ok2 s26;refine⟨ys,hy6,rB ⋯,(hP _ _ _).2 ⟨hlt,W6.re p (.lst<|ys++[v]),pg.1,done++[pv.1],pq.1,ys++[v],rfl,AM ok6 hp6 ⟨_,hy6⟩,(s2.trans s26.b).trans lL,hp6,gH,?_,by simp;omega,(((en4.step ok4 s5).step ok5 s6).stepB ok6 hp6 ⟨_,hy6⟩ lL),by show gc c W6.O;rw[Zw];exact c5,by show gE c g tc te _ _ W6.O=_;rw[Zw];exact e6,by simpa using ed⟩⟩;exact(rd6.append<|.cons r6 .nil).stepB ok6 hp6 ⟨_,hy6⟩ lL
  .rename_i ht;refine jZ e2 fun c5 e2=>?_;refine l6 (fun n=>absurd n ht) (fun _=>?_);exact(hP _ _ _).2 ⟨hlt,W5,pg.1,done,fV,ys,rfl,ok5,s2.trans s25.b,by rw[s25.hid];exact hp2,s25.keep _ _ hy2 (mX ok2 hp2),rd.step ok2 s25,by omega,en4.step ok4 s5,by rw[ZO];exact c5,by rw[ZO];exact e2,ed⟩
 .have e':i=its.length:=by omega
  subst e';rw[TB (SF _)] at e2;cases e2;rw[TM] at ed;subst ed;exact hG (.inl ⟨hstop (SF _),hZ W2 ys rfl ok2 s2 hp2 hy2 rd⟩)
def gQ(own:Ŗ)(cap:œ)(iv:IV)(g:GV)(tc:BV)(te:EV):EV:=fun B O=>(iv B O).bind fun s=>if s.1.1.length<=1000000 then(gE s.1.2 g tc te s.1.1 (gA own cap B) s.2).bind fun q=>some (.lst q.1,q.2) else none
theorem yZ{W W1 W':Wd}{p:Addr}{rs:ŗ}{ys:Ř}(s1:Step W W1)(hp:W1.H p=none)(ok1:Ok K W1)(ok':Ok K W')(s:StepB p (W1.hide p<|.lst []) W')(hp':W'.hid p)(hy:W'.H p=some (.lst ys))(r:DRs K W' rs ys):
  Ok K (W'.show W1.hid)/\Step W (W'.show W1.hid)/\DR K (W'.show W1.hid) (.lst rs) (.ref p):=by
 have hs:∀a,W1.hid a->W'.hid a:=fun a z=>by rw[s.hid];exact .inr z
 refine⟨O3 ok' hs,s1.trans (Su hp s),.lst hy (fun z=>?_)<|r.show hs⟩;rcases z with z|z
 .exact mX ok' hp' z
 .exact CV ok1 hp z
theorem Hf{W:Wd}{B:G}{L:St}{d:D}{Z5:M}(ok:Ok K W)(en:EnvR K W B L)(e:gQ own cap iv g tc te B W.O=some (d,Z5)){Z:Addr->Hp->Prop}(q:∀v W',W'.O=Z5->Ok K W'->Step W W'->DR K W' d v->∀p,v=.ref p->Z p W'.H):
  tDI K iv L W.H fun Z6 H1=>∀p,H1 p=none->qA Z6 (tDG K g) (tDB K tc) (tD K te) p (im own cap L) H1 (Z p):=by
 obtain⟨⟨⟨its,c⟩,Z4⟩,e1,e⟩:=bnd e;refine(⟨W,B,its,c,Z4,rfl,ok,en,e1,fun Z6 W1 ZJ ok1 s1 jr p hp=>?_⟩);split at e
 .rename_i hl;obtain⟨⟨rs,Z3⟩,e2,e⟩:=bnd e;cases e;refine zo ok1 hp jr ((en.step ok s1).cap own cap) hl (by rw[ZJ];exact e2) fun W' ys Zl ok' s' hp' hy r=>?_;obtain⟨a1,a2,a3⟩:=yZ s1 hp ok1 ok' s' hp' hy r;exact(q _ (W'.show W1.hid) Zl a1 a2 a3 p rfl)
 .cases e
theorem ke(S:CompScope X N' own cap scope)(hi:PI X tg iter (tDI K iv))
  (hg:∀cl C Z1 ZZ ex,PG (fO X N' scope cl C Z1 ZZ ex) tg<|tDG K g) (ht:∀cl C Z1 ZZ ex,PIf (fO X N' scope cl C Z1 ZZ ex) ifs<|tDB K tc) (he:∀cl C Z1 ZZ ex,PE (fO X N' scope cl C Z1 ZZ ex) elt<|tD K te)
  (hx:∀e s,X.xe e s->False:=by exact fun _ _ z=>z) (hc:X.calm=true:=by rfl) (hs:∀x,foldedSetIterable iter X.env x=pure x:=by intro _;rfl):
  PE X (.ListComp elt [⟨tg,iter,ifs,0⟩] scope pos) (tD K<|gQ own cap iv g tc te):=fZ (MF S hi hg ht he hx hc hs) fun L H Q h=>by
 refine el4 h fun W B d Z5 eH ok en e q=>?_;subst eH;exact Hf ok en e fun v W' h1 h2 h3 h4 p hv=>by subst hv;exact q _ W' h1 h2 h3 h4
end
open PyProof.Rows (envOfC)
def gq(n m:Nat)(es:SV):Fr:=fun ds O=>if ds.length=m then(es (ds.map some++List.replicate (n - ds.length) none) O).bind fun o=>match o.1 with
  | .rt d=>some (d,o.2.2)
  | .nx=>some (.non,o.2.2)
  |_=>none
 else none
section
variable {P:Program} {w:World} {K:Frag} {mg:ő} {base:Heap}
theorem C1{W:Wd}{ds:ŗ}{vs:Ř}{n:Nat}(r:DRs K W ds vs):EnvR K W (ds.map some++List.replicate (n - ds.length) none) (vs.map some++List.replicate (n - vs.length) none) where
 len:=by simp[r.length]
 at_ i d h:=by
  by_cases hi:i<ds.length
  .rw[S1 (by simpa using hi)] at h;rw[S1 (by simpa using r.length▸hi)];simp only[S6] at h⊢;cases hd:ds[i]? with
   |none=>rw[hd] at h;cases h
   |some d'=>
    rw[hd] at h;cases h;obtain⟨v,hv,q⟩:=r.get hd;exact⟨v,by rw[hv];rfl,q⟩
  .rw[Th (by simpa using hi)] at h;simp[List.getElem?_replicate] at h
theorem gM(F:Fun K x qual st f fd)(S:FnScope N ps (fP st))
  (hb:∀(cdv:Value) (A:Around) (outer:ş) (s:Shared) (H:Hp) (E:XK),Room k (A.deeper<|envOfC qual (fP st) s.heap.objs.size f cdv)->PSs (gk CX0 P w K mg base N qual (fP st) f cdv A outer s H E).nox (jm st) (tDS K es)):
  FnOk P w K mg base CX0 (k+1) f fd ps (spM K<|gq N.length ps.length es):=by
 refine F.ok S (fun vs H Q E h=>?_) (fun cdv A outer s H vs Q E hr h=>?_)
 .obtain⟨W,ds,d,Z5,_,_,r,e,_⟩:=h;unfold gq at e;split at e
  .rename_i hl;rw[←r.length];exact hl
  .cases e
 .obtain⟨W,ds,d,Z5,rfl,ok,r,e,q⟩:=h;refine⟨_,hb cdv A outer s W.H E hr,?_⟩;unfold gq at e;split at e
  .obtain⟨⟨o,ZX,Z3⟩,e1,e⟩:=bnd e;refine⟨W,_,o,ZX,Z3,rfl,ok,C1 r,e1,fun W' Z0 Z2 ok' s' en'=>?_⟩;cases o with
   |rt z=>cases e;exact fun v rv=>q v W' Z2 ok' s' rv
   |nx=>cases e;exact q _ W' Z2 ok' s' .non
   |bk=>cases e
   |ct=>cases e
  .cases e
end
section
variable {X:Cx} {K:Frag} {a b c e:Expr} {ea eb ec:EV} {pos p:Pos}
theorem R2A.or(ra:R2A K r f)(rb:R2A K r' g)(hh:∀x y O z,h x y O=some z->f x y O=some z\/g x y O=some z):R2A K (fun x y H Q=>r x y H Q\/r' x y H Q) h:=by
 intro W x y d e z Z5 Q ok r1 r2 hf q;rcases hh _ _ _ _ hf with hf|hf
 .exact .inl (ra W x y d e z Z5 Q ok r1 r2 hf q)
 .exact .inr (rb W x y d e z Z5 Q ok r1 r2 hf q)
theorem ra_cat:R2A K AG qN:=by
 intro W x y d e z Z5 Q ok r1 r2 hf q;refine fF hf fun xs hx hf=>?_;refine fF hf fun ys hy hf=>?_;split at hf
 .rename_i hl;cases hf;obtain⟨a,vs,rfl,ha,hv⟩:=rX ok hx r1;obtain⟨b,us,rfl,hb,hu⟩:=rX ok hy r2;exact⟨a,b,vs,us,rfl,rfl,ha,hb,kR (by rw[←hv.length,←hu.length];omega),fun p hp=>q _ (W.lay p<|.lst<|vs++us) rfl (iG ok hp) (gP hp) (pW ok hp<|hv.append hu)⟩
 .cases hf
theorem Ij:R2A K Af CP:=by
 intro W x y d e z Z5 Q ok r1 r2 hf q;refine fF hf fun xs hx hf=>?_;split at hf
 .split at hf
  .rename_i hl;cases hf;cases r2;obtain⟨a,vs,rfl,ha,hv⟩:=rX ok hx r1;exact⟨a,_,vs,rfl,rfl,ha,by omega,by omega,kR (by rw[←hv.length];omega),fun p hp=>q _ (W.lay p _) rfl (iG ok hp) (gP hp) (pW ok hp<|hv.rep _)⟩
  .cases hf
 .cases hf
def uz(x y:D)(O:M):SB:=match x with
 | .tup xs=>(lq y).bind fun ys=>if xs≠[]/\xs.length+ys.length<=1000000 then some (.tup (xs++ys),O) else none
 |_=>none
noncomputable instance{J:Type}{xs:List J}:Decidable (xs≠[]):=by cases xs<;>simp<;>infer_instance
theorem QY:R2A K (z4 K) uz:=by
 intro W x y d e z Z5 Q ok r1 r2 hf q;unfold uz at hf;split at hf
 .rename_i xs;refine fF hf fun ys hy hf=>?_;split at hf
  case isFalse=>cases hf
  rename_i hl;cases hf;have rr:=r1;obtain⟨a,vs,rfl,ha,hv⟩:=lS (ds:=xs) rfl r1;obtain⟨b,us,rfl,hb,hu⟩:=lS hy r2;refine⟨a,b,vs,us,rfl,rfl,ha,hb,fun z=>?_,kR (by rw[←hv.length,←hu.length];omega),fun z=>?_,fun _ p hp=>q _ (W.lay p<|.tup<|vs++us) rfl (iG ok hp) (gP hp) (mf ok hp<|hv.append hu)⟩
  .have:=hv.length;rw[z] at this;exact hl.1 (T7.mp this)
  .have h0:=hu.length;rw[z] at h0;have h1:=T7.mp h0;subst h1;refine q _ W rfl ok .refl ?_;rw[TM];exact rr
 .cases hf
def gK(x y:D)(O:M):SB:=match x with
 | .int i=>match y with
  | .int j=>some (.int (i+j),O)
  |_=>none
 | .tup _=>uz x y O
 |_=>qN x y O
theorem js(ha:PE X a (tD K ea))(hb:PE X b (tD K eb))(hK:X.K=K:=by rfl):PE X (.BinOp a .Add b pos) (tD K<|v2 gK ea eb):=by
 subst hK;refine nE (op_add.or<|op_cat.or Sk) ((lR (h:=fun i j=>.int<|i+j) fun _ _ _=>.int _).or (ra_cat.or QY (h:=fun x y O=>match x with| .tup _=>uz x y O|_=>qN x y O) fun x y O z h=>?_) fun x y O z h=>?_) ha hb
 .split at h
  .exact .inr h
  .exact .inl h
 .unfold gK at h;split at h
  .split at h
   .exact .inl h
   .cases h
  .exact .inr h
  .rename_i h1 h2;refine .inr ?_;split
   .exact absurd rfl (h2 _)
   .exact h
def j0(x y:D)(O:M):SB:=match x with
 | .int i=>match y with
  | .int j=>if CMul i j then some (.int (i*j),O) else none
  |_=>none
 |_=>CP x y O
theorem tQ(ha:PE X a (tD K ea))(hb:PE X b (tD K eb)):PE X (.BinOp a .Mult b pos) (tD K<|v2 j0 ea eb):=by
 refine nE (op_mul.or J4) ((uy (C:=CMul) (h:=fun i j=>.int<|i*j) fun _ _ _=>.int _).or Ij fun x y O z h=>?_) ha hb;unfold j0 at h;split at h
 .split at h
  .exact .inl h
  .cases h
 .exact .inr h
def jA(f g:D->D->M->SB)(ea eb ec:EV):EV:=fun B O=>(ea B O).bind fun p=>(eb B p.2).bind fun q=>(f p.1 q.1 q.2).bind fun t=>match t.1 with
 | .bl true=>(ec B t.2).bind fun r=>g q.1 r.1 r.2
 | .bl false=>some (.bl false,t.2)
 |_=>none
theorem C6(ra:R2A K r f)(rb:R2A K r' g):∀L H Q,tD K (jA f g ea eb ec) L H Q->v6 r r' (tD K ea) (tD K eb) (tD K ec) L H Q:=fun L H Q h=>by
 refine el4 h fun W B d Z5 eH ok en e q=>?_;subst eH;refine fF e fun p1 e1 e=>?_;refine fF e fun p2 e2 e=>?_;refine fF e fun p3 e3 e=>?_;refine⟨W,B,p1.1,p1.2,rfl,ok,en,e1,fun x W1 Z2 ok1 s1 r1=>⟨W1,B,p2.1,p2.2,rfl,ok1,en.step ok s1,by rw[Z2];exact e2,fun y W2 ZW ok2 s2 r2=>?_⟩⟩;refine ra W2 x y _ _ _ _ _ ok2 (r1.step ok1 s2) r2 (by rw[ZW];exact e3) fun v W3 ZR ok3 s3 r3=>?_;split at e
 .rename_i hp;rw[hp] at r3;cases r3;refine fF e fun p4 e4 e=>?_;refine⟨true,rfl,xt ⟨W3,B,p4.1,p4.2,rfl,ok3,((en.step ok s1).step ok1 s2).step ok2 s3,by rw[ZR];exact e4,fun z W4 ZD ok4 s4 r4=>?_⟩⟩;exact rb W4 y z _ _ _ _ _ ok4 ((r2.step ok2 s3).step ok3 s4) r4 (by rw[ZD];exact e) fun v5 W5 ZO ok5 s5 r5=>q v5 W5 ZO ok5 (s1.trans<|s2.trans<|s3.trans<|s4.trans s5) r5
 .rename_i hp;rw[hp] at r3;cases r3;cases e;exact⟨false,rfl,vV<|q _ W3 ZR ok3 (s1.trans<|s2.trans s3)<|.bl _⟩
 .cases e
theorem Nt(ho:OpR X (compareOp op) r)(ra:R2A K r f)(ho':OpR X (compareOp op') r')(rb:R2A K r' g)(ha:PE X a (tD K ea))(hb:PE X b (tD K eb))(hc:PE X c (tD K ec))
  (hm:lastMarks [op,op'] [b,c]=false:=by with_unfolding_all rfl):PE X (.Compare a [op,op'] [b,c] pos) (tD K<|jA f g ea eb ec):=fZ (JX ho ho' ha hb hc hm) (C6 ra rb)
theorem zy(ho:OpR X (compareOp op) r)(ra:R2A K r f)(ho':OpR X (compareOp op') r')(rb:R2A K r' g)(ha:PE X a (tD K ea))(hb:PE X b (tD K eb))(hc:PE X c (tD K ec))
  (hm:lastMarks [op,op'] [b,c]=false:=by with_unfolding_all rfl):PT X (.Compare a [op,op'] [b,c] pos) (tDB K<|vT<|jA f g ea eb ec):=l9 (Rq ho ho' ha hb hc hm) (y9<|C6 ra rb)
theorem vJ:R2A K (rI0 fun i j=>.bl<|decide (i<j)) fLt:=lR fun _ _ _=>.bl _
theorem xy:R2A K (rI0 fun i j=>.bl<|decide (i<=j)) fLe:=lR fun _ _ _=>.bl _
end
section
variable {X:Cx} {K:Frag} {ea eb:EV} {pos p:Pos}
def lQ(ds:ŗ):ŗ:=ds.zipIdx.map fun x=>D.tup [.int (x.2:Nat),x.1]
theorem Ig{ds:ŗ}{i:Nat}{d:D}(h:(lQ ds)[i]?=some d):∃x,ds[i]?=some x/\d=.tup [.int (i:Nat),x]:=by
 unfold lQ at h;rw[S6] at h;simp only[List.getElem?_zipIdx] at h;cases hx:ds[i]? with
 |none=>rw[hx] at h;cases h
 |some x=>rw[hx] at h;simp at h;exact⟨x,rfl,h.symm⟩
def xk(ea:EV):IV:=fun B O=>(ea B O).bind fun p=>(lsC p.2 p.1).bind fun s=>some ((lQ s.1,s.2),p.2)
theorem NI(ml:X.mg "enumerate"=none) {a:Expr} {elts:Ś} {k:Nat} {tpos:Pos} (ha:PE X a (tD K ea)) (hg:Gl X "enumerate":=by rfl) (hs:starEach [a] X.env=[(false,eval a X.env)]:=by rfl) (hK:X.K=K:=by rfl):
  PI X (.Tuple elts k tpos) (.Call (.Name "enumerate" p) [a] [] pos) (tDI K<|xk ea):=nn (iEn K ml ha hg hs hK) fun L H R h=>by
 refine el5 h fun W B its c Z5 eH ok en e q=>?_;subst eH;refine fF e fun p1 e1 e=>?_;obtain⟨⟨ds,c'⟩,e2,e⟩:=bnd e;cases e;refine(⟨W,B,p1.1,p1.2,rfl,ok,en,e1,fun v W1 Z2 ok1 s1 r1=>?_⟩);obtain⟨c0,a,rfl,hh⟩:=xm ok1 (by rw[Z2];exact e2) r1;obtain⟨vs0,h0,_⟩:=hh W1 ok1 c0 r1;refine(⟨a,rfl,⟨_,h0⟩,q (Ite K a) W1 Z2 ok1 s1 ⟨c0,[p1.1],[.ref a],.cons r1 .nil,fun W2 i ok2 c2 r2=>?_⟩⟩);cases r2 with
 |cons r2 _=>
  obtain⟨vs,hs,hv⟩:=hh W2 ok2 c2 r2;refine⟨fun hi=>⟨vs,hs,by rw[←hv.length];simpa[lQ] using hi⟩,fun d hd=>?_⟩;obtain⟨x,hx,rfl⟩:=Ig hd;obtain⟨v,hv1,hv2⟩:=hv.get hx;refine(⟨⟨vs,v,hs,hv1⟩,fun y H' hy=>?_⟩);obtain⟨p,u,rfl,hp,rfl,hu⟩:=hy;have:=hu vs hs;rw[hv1] at this;cases this;exact⟨W2.lay p _,rfl,rfl,iG ok2 hp,gP hp,mf ok2 hp<|.cons (.int _)<|.cons hv2 .nil⟩
def i0:ŗ->ŗ->ŗ
 |x::xs,y::ys=>.tup [x,y]::i0 xs ys
 |_,_=>[]
theorem Bc:∀{xs ys:ŗ} {i:Nat} {d:D},(i0 xs ys)[i]?=some d->∃x y,xs[i]?=some x/\ys[i]?=some y/\d=.tup [x,y]
 | [],_,_,_,h=>by simp[i0] at h
 |_::_,[],_,_,h=>by simp[i0] at h
 |x::xs,y::ys,0,d,h=>by simp[i0] at h;exact⟨x,y,rfl,rfl,h.symm⟩
 |x::xs,y::ys,i+1,d,h=>by simp only[i0,List.getElem?_cons_succ] at h⊢;exact Bc h
theorem BZ:∀{xs ys:ŗ} {i:Nat},(i0 xs ys).length<=i->xs.length<=i\/ys.length<=i
 | [],_,_,_=>by simp
 |_::_,[],_,_=>by simp
 |x::xs,y::ys,0,h=>by simp[i0] at h
 |x::xs,y::ys,i+1,h=>by
  simp only[i0,S9,Nat.add_le_add_iff_right] at h⊢;exact BZ h
def ivZ(ea eb:EV):IV:=fun B O=>(ea B O).bind fun p=>(eb B p.2).bind fun q=>match p.1,q.1 with
 | .lst xs,.lst ys=>some ((i0 xs ys,none),q.2)
 |_,_=>none
theorem GP(ml:X.mg "zip"=none) {a b:Expr} {elts:Ś} {k:Nat} {tpos:Pos} (ha:PE X a (tD K ea)) (hb:PE X b (tD K eb)) (hg:Gl X "zip":=by rfl) (hs:starEach [a,b] X.env=[(false,eval a X.env),(false,eval b X.env)]:=by rfl) (hs2:starEach [b] X.env=[(false,eval b X.env)]:=by rfl) (hK:X.K=K:=by rfl):
  PI X (.Tuple elts k tpos) (.Call (.Name "zip" p) [a,b] [] pos) (tDI K<|ivZ ea eb):=nn (iZ K ml ha hb hg hs hs2 hK) fun L H R h=>by
 refine el5 h fun W B its c Z5 eH ok en e q=>?_;subst eH;refine fF e fun p1 e1 e=>?_;refine fF e fun p2 e2 e=>?_;split at e
 .rename_i xs ys hx hy;cases e;refine⟨W,B,p1.1,p1.2,rfl,ok,en,e1,fun v W1 Z2 ok1 s1 r1=>⟨W1,B,p2.1,p2.2,rfl,ok1,en.step ok s1,by rw[Z2];exact e2,fun u W2 ZW ok2 s2 r2=>?_⟩⟩;rw[hx] at r1;rw[hy] at r2;have r1:=r1.step ok1 s2;have rr1:=r1;have rr2:=r2;cases r1 with
  |lst h1 n1 hs1=>
   cases r2 with
   |lst h2 n2 hs2=>
    rename_i a1 vs1 a2 vs2;refine⟨a1,a2,rfl,⟨_,SqL.of h1⟩,⟨_,SqL.of h2⟩,q (Itz K a1 a2) W2 ZW ok2 (s1.trans s2) ⟨trivial,[.lst xs,.lst ys],[.ref a1,.ref a2],.cons rr1 (.cons rr2 .nil),fun W3 i ok3 _ r3=>?_⟩⟩;cases r3 with
    |cons q1 r3=>
     cases r3 with
     |cons q2 _=>
      cases q1 with
      |lst g1 _ k1=>
       cases q2 with
       |lst g2 _ k2=>
        refine⟨fun hi=>⟨_,_,SqL.of g1,SqL.of g2,by rw[←k1.length,←k2.length];exact BZ hi⟩,fun d hd=>?_⟩;obtain⟨x,y,hx1,hy1,rfl⟩:=Bc hd;obtain⟨v1,hv1,rv1⟩:=k1.get hx1;obtain⟨v2,hv2,rv2⟩:=k2.get hy1;refine(⟨⟨_,_,v1,v2,SqL.of g1,SqL.of g2,hv1,hv2⟩,fun z H' hz=>?_⟩);obtain⟨p,w1,w2,rfl,hp,rfl,hw1,hw2⟩:=hz;have t1:=hw1 _ (SqL.of g1);have t2:=hw2 _ (SqL.of g2);rw[hv1] at t1;rw[hv2] at t2;cases t1;cases t2;exact(⟨W3.lay p _,rfl,rfl,iG ok3 hp,gP hp,mf ok3 hp<|.cons rv1<|.cons rv2 .nil⟩)
 .cases e
end
def kC(c:Ck)(g:GV)(tc:BV)(te:EV):ŗ->G->M->Option (List D×G×M)
 | [],B,O=>some ([],B,O)
 |d::r,B,O=>(g d B O).bind fun p=>(tc p.1 p.2).bind fun t=>if t.1=true then(te p.1 t.2).bind fun v=>chk (gc c v.2) ((kC c g tc te r p.1 v.2).bind fun q=>some (v.1::q.1,q.2)) else chk (gc c t.2) (kC c g tc te r p.1 t.2)
def jd(c:Ck)(g:GV)(tc:BV)(iv2:IV)(g2:GV)(tc2:BV)(te:EV):ŗ->G->M->Option (List D×M)
 | [],_,O=>some ([],O)
 |d::r,B,O=>(g d B O).bind fun p=>(tc p.1 p.2).bind fun t=>if t.1=true then(iv2 p.1 t.2).bind fun s=>(kC s.1.2 g2 tc2 te s.1.1 p.1 s.2).bind fun q=>chk (gc c q.2.2) ((jd c g tc iv2 g2 tc2 te r q.2.1 q.2.2).bind fun z=>some (q.1++z.1,z.2)) else chk (gc c t.2) (jd c g tc iv2 g2 tc2 te r p.1 t.2)
section
variable {X:Cx} {K:Frag} {N' own:Ŗ} {cap:œ} {scope:Scope} {tg iter elt tg2 iter2:Expr} {ifs ifs2:Ś} {pos:Pos} {iv iv2:IV} {g g2:GV} {tc tc2:BV} {te:EV}
theorem FI(ok:Ok K W)(hp:W.hid p)(hy:W.H p=some (.lst ys0))(rd0:DRs K W done0 ys0)(jr:JR K W Z6 its c)(en:EnvR K W ZC ZM)
  (e:kC c g tc te its ZC W.O=some (rs,ZX,Z5)) (hl:done0.length+rs.length<=1000000) (hZ:∀W' Z0 ys,W'.O=Z5->Ok K W'->StepB p W W'->W'.hid p->W'.H p=some (.lst ys)->DRs K W' (done0++rs) ys->EnvR K W' ZX Z0->Z Z0 W'.H):
  yi Z6 (tDG K g) (tDB K tc) (tD K te) p ZM W.H Z:=by
 obtain⟨c1,ds,vs,r1,hj⟩:=jr;obtain⟨P,hP⟩:∃P:Nat->St->Hp->Prop,∀i ZU H2,P i ZU H2↔(i<=its.length/\∃W2 ZV done fV ys,W2.H=H2/\Ok K W2/\StepB p W W2/\W2.hid p/\W2.H p=some (.lst ys)/\DRs K W2 done ys/\EnvR K W2 ZV ZU/\gc c W2.O/\kC c g tc te (its.drop i) ZV W2.O=some (fV,ZX,Z5)/\done++fV=done0++rs):=⟨_,fun _ _ _=>SR⟩
 refine⟨fun i m ZU H2=>m=its.length - i/\P i ZU H2,?_,?_⟩
 .exact⟨its.length,by simp,(hP _ _ _).2 ⟨TQ _,W,ZC,done0,rs,ys0,rfl,ok,Step.refl.b,hp,hy,rd0,en,c1,e,rfl⟩⟩
 rintro i m ZU H2 ⟨rfl,hi⟩;refine bq fun hG=>?_;obtain⟨hi,W2,ZV,done,fV,ys,rfl,ok2,s2,hp2,hy2,rd,en2,c2,e2,ed⟩:=(hP _ _ _).1 hi;have rj:DRs K W2 ds vs:=r1.stepB ok hp ⟨_,hy⟩ s2;obtain⟨hstop,hgo⟩:=hj W2 i ok2 c2 rj;by_cases hlt:i<its.length
 .have hd:its[i]?=some its[i]:=SO hlt;obtain⟨h1,h2⟩:=hgo _ hd;rw[Tj hlt] at e2;refine fF e2 fun pg e3 e2=>?_;refine fF e2 fun pt e4 e2=>?_;refine(hG<|.inr ⟨h1,P (i+1),fun Z0 H' hN=>⟨its.length - (i+1),by omega,rfl,hN⟩,fun x H' hy=>?_⟩);refine bq fun hF=>?_;obtain⟨W3,rfl,ZR,ok3,s3,r3⟩:=h2 x H' hy;refine hF ⟨W3,ZV,its[i],pg.1,pg.2,rfl,ok3,en2.step ok2 s3,r3,by rw[ZR];exact e3,fun W4 ZP ZD ok4 s4 en4=>⟨W4,pg.1,pt.1,pt.2,rfl,ok4,en4,by rw[ZD];exact e4,fun W5 ZO ok5 s5=>?_⟩⟩;have s25:=s3.trans (s4.trans s5);split at e2
  .rename_i ht;refine fF e2 fun pv e5 e2=>?_;refine jZ e2 fun c5 e2=>?_;obtain⟨⟨q1,Ze,Zb⟩,e6,e2⟩:=bnd e2;cases e2;refine(l6 (fun _=>?_)<|fun n=>absurd ht n);refine⟨W5,pg.1,pv.1,pv.2,rfl,ok5,en4.step ok4 s5,by rw[ZO];exact e5,fun v W6 Zw ok6 s6 r6=>?_⟩;have s26:=s25.trans s6;have hp6:W6.hid p:=by rw[s26.hid];exact hp2
   have hy6:W6.H p=some (.lst ys):=s26.keep _ _ hy2 (mX ok2 hp2);have rd6:=rd.step ok2 s26;have hlen:ys.length<1000000:=by
    have h1:=congrArg List.length ed;simp only[Tx,S9] at h1;rw[←rd.length];omega
   refine⟨ys,hy6,rB ⋯,(hP _ _ _).2 ⟨hlt,W6.re p (.lst<|ys++[v]),pg.1,done++[pv.1],q1,ys++[v],rfl,AM ok6 hp6 ⟨_,hy6⟩,(s2.trans s26.b).trans lL,hp6,gH,?_,(((en4.step ok4 s5).step ok5 s6).stepB ok6 hp6 ⟨_,hy6⟩ lL),by show gc c W6.O;rw[Zw];exact c5,by show kC c g tc te _ _ W6.O=_;rw[Zw];exact e6,by simpa using ed⟩⟩;exact(rd6.append<|.cons r6 .nil).stepB ok6 hp6 ⟨_,hy6⟩ lL
  .rename_i ht;refine jZ e2 fun c5 e2=>?_;refine l6 (fun n=>absurd n ht) (fun _=>?_);exact(hP _ _ _).2 ⟨hlt,W5,pg.1,done,fV,ys,rfl,ok5,s2.trans s25.b,by rw[s25.hid];exact hp2,s25.keep _ _ hy2 (mX ok2 hp2),rd.step ok2 s25,en4.step ok4 s5,by rw[ZO];exact c5,by rw[ZO];exact e2,ed⟩
 .have e':i=its.length:=by omega
  subst e';rw[TB (SF _)] at e2;cases e2;rw[TM] at ed;subst ed;exact hG (.inl ⟨hstop (SF _),hZ W2 ZU ys rfl ok2 s2 hp2 hy2 rd en2⟩)
theorem Hy(ok1:Ok K W1)(hp:W1.H p=none)(jr:JR K W1 Z6 its c)(en:EnvR K W1 ZC ZM)(hl:rs.length<=1000000)
  (e:jd c g tc iv2 g2 tc2 te its ZC W1.O=some (rs,Z5)) (hZ:∀W' ys,W'.O=Z5->Ok K W'->StepB p (W1.hide p<|.lst []) W'->W'.hid p->W'.H p=some (.lst ys)->DRs K W' rs ys->Z W'.H):
  oj Z6 (tDG K g) (tDB K tc) (tDI K iv2) (tDG K g2) (tDB K tc2) (tD K te) p ZM W1.H Z:=by
 obtain⟨c1,ds,vs,r1,hj⟩:=jr;obtain⟨P,hP⟩:∃P:Nat->St->Hp->Prop,∀i ZU H2,P i ZU H2↔(i<=its.length/\∃W2 ZV done fV ys,W2.H=H2/\Ok K W2/\StepB p (W1.hide p<|.lst []) W2/\W2.hid p/\W2.H p=some (.lst ys)/\DRs K W2 done ys/\EnvR K W2 ZV ZU/\gc c W2.O/\jd c g tc iv2 g2 tc2 te (its.drop i) ZV W2.O=some (fV,Z5)/\done++fV=rs):=⟨_,fun _ _ _=>SR⟩
 refine⟨fun i m ZU H2=>m=its.length - i/\P i ZU H2,?_,?_⟩
 .exact⟨its.length,by simp,(hP _ _ _).2 ⟨TQ _,W1.hide p (.lst []),ZC,[],rs,[],rfl,sP ok1 hp,⟨fun _ _ h=>h,fun _ h=>.inl h,fun _ _ _ h _=>h,rfl,fun _ h=>h⟩,.inl rfl,gH,.nil,en.hide hp ok1,c1,e,rfl⟩⟩
 rintro i m ZU H2 ⟨rfl,hi⟩;refine bq fun hG=>?_;obtain⟨hi,W2,ZV,done,fV,ys,rfl,ok2,s2,hp2,hy2,rd,en2,c2,e2,ed⟩:=(hP _ _ _).1 hi;have rj:DRs K W2 ds vs:=(r1.hide hp ok1).stepB (sP ok1 hp) (.inl rfl) ⟨[],gH⟩ s2;obtain⟨hstop,hgo⟩:=hj W2 i ok2 c2 rj;by_cases hlt:i<its.length
 .have hd:its[i]?=some its[i]:=SO hlt;obtain⟨h1,h2⟩:=hgo _ hd;rw[Tj hlt] at e2;refine fF e2 fun pg e3 e2=>?_;refine fF e2 fun pt e4 e2=>?_;refine(hG<|.inr ⟨h1,P (i+1),fun Z0 H' hN=>⟨its.length - (i+1),by omega,rfl,hN⟩,fun x H' hy=>?_⟩);refine bq fun hF=>?_;obtain⟨W3,rfl,ZR,ok3,s3,r3⟩:=h2 x H' hy;refine hF ⟨W3,ZV,its[i],pg.1,pg.2,rfl,ok3,en2.step ok2 s3,r3,by rw[ZR];exact e3,fun W4 ZP ZD ok4 s4 en4=>⟨W4,pg.1,pt.1,pt.2,rfl,ok4,en4,by rw[ZD];exact e4,fun W5 ZO ok5 s5=>?_⟩⟩;have s25:=s3.trans (s4.trans s5);split at e2
  .rename_i ht;obtain⟨⟨⟨its2,k2⟩,Za⟩,e5,e2⟩:=bnd e2;obtain⟨⟨q1,Ze,Zb⟩,e6,e2⟩:=bnd e2;refine jZ e2 fun c6 e2=>?_;refine fF e2 fun z e7 e2=>?_;cases e2;refine(l6 (fun _=>?_)<|fun n=>absurd ht n);refine⟨W5,pg.1,its2,k2,Za,rfl,ok5,en4.step ok4 s5,by rw[ZO];exact e5,fun J2 W6 Zw ok6 s6 jr6=>?_⟩;have s26:=s25.trans s6;have hp6:W6.hid p:=by rw[s26.hid];exact hp2
   have hy6:W6.H p=some (.lst ys):=s26.keep _ _ hy2 (mX ok2 hp2);have hlen:done.length+q1.length<=1000000:=by
    have h1:=congrArg List.length ed;simp only[Tx] at h1;omega
   refine FI ok6 hp6 hy6 (rd.step ok2 s26) jr6 ((en4.step ok4 s5).step ok5 s6) (by rw[Zw];exact e6) hlen fun W7 ZS ys7 Zo ok7 s7 hp7 hy7 rd7 en7=>?_;exact(hP _ _ _).2 ⟨hlt,W7,Ze,done++q1,z.1,ys7,rfl,ok7,(s2.trans s26.b).trans s7,hp7,hy7,rd7,en7,by rw[Zo];exact c6,by rw[Zo];exact e7,by simpa using ed⟩
  .rename_i ht;refine jZ e2 fun c5 e2=>?_;refine l6 (fun n=>absurd n ht) (fun _=>?_);exact(hP _ _ _).2 ⟨hlt,W5,pg.1,done,fV,ys,rfl,ok5,s2.trans s25.b,by rw[s25.hid];exact hp2,s25.keep _ _ hy2 (mX ok2 hp2),rd.step ok2 s25,en4.step ok4 s5,by rw[ZO];exact c5,by rw[ZO];exact e2,ed⟩
 .have e':i=its.length:=by omega
  subst e';rw[TB (SF _)] at e2;cases e2;rw[TM] at ed;subst ed;exact hG (.inl ⟨hstop (SF _),hZ W2 ys rfl ok2 s2 hp2 hy2 rd⟩)
def kN(own:Ŗ)(cap:œ)(iv:IV)(g:GV)(tc:BV)(iv2:IV)(g2:GV)(tc2:BV)(te:EV):EV:=fun B O=>(iv B O).bind fun s=>(jd s.1.2 g tc iv2 g2 tc2 te s.1.1 (gA own cap B) s.2).bind fun q=>if q.1.length<=1000000 then some (.lst q.1,q.2) else none
theorem CM{W:Wd}{B:G}{L:St}{d:D}{Z5:M}(ok:Ok K W)(en:EnvR K W B L)(e:kN own cap iv g tc iv2 g2 tc2 te B W.O=some (d,Z5)){Z:Addr->Hp->Prop}(q:∀v W',W'.O=Z5->Ok K W'->Step W W'->DR K W' d v->∀p,v=.ref p->Z p W'.H):
  tDI K iv L W.H fun Z6 H1=>∀p,H1 p=none->oj Z6 (tDG K g) (tDB K tc) (tDI K iv2) (tDG K g2) (tDB K tc2) (tD K te) p (im own cap L) H1 (Z p):=by
 obtain⟨⟨⟨its,c⟩,Z4⟩,e1,e⟩:=bnd e;refine(⟨W,B,its,c,Z4,rfl,ok,en,e1,fun Z6 W1 ZJ ok1 s1 jr p hp=>?_⟩);obtain⟨⟨rs,Z3⟩,e2,e⟩:=bnd e;split at e
 .rename_i hl;cases e;refine Hy ok1 hp jr ((en.step ok s1).cap own cap) hl (by rw[ZJ];exact e2) fun W' ys Zl ok' s' hp' hy r=>?_;obtain⟨a1,a2,a3⟩:=yZ s1 hp ok1 ok' s' hp' hy r;exact(q _ (W'.show W1.hid) Zl a1 a2 a3 p rfl)
 .cases e
theorem J8(S:CompScope X N' own cap scope)(hi:PI X tg iter (tDI K iv))
  (hg:∀cl C Z1 ZZ ex,PG (fO X N' scope cl C Z1 ZZ ex) tg<|tDG K g) (ht:∀cl C Z1 ZZ ex,PIf (fO X N' scope cl C Z1 ZZ ex) ifs<|tDB K tc)
  (hi2:∀cl C Z1 ZZ ex,PI (fO X N' scope cl C Z1 ZZ ex) tg2 iter2<|tDI K iv2) (hg2:∀cl C Z1 ZZ ex,PG (fO X N' scope cl C Z1 ZZ ex) tg2<|tDG K g2) (ht2:∀cl C Z1 ZZ ex,PIf (fO X N' scope cl C Z1 ZZ ex) ifs2<|tDB K tc2)
  (he:∀cl C Z1 ZZ ex,PE (fO X N' scope cl C Z1 ZZ ex) elt<|tD K te)
  (hx:∀e s,X.xe e s->False:=by exact fun _ _ z=>z) (hc:X.calm=true:=by rfl) (hs:∀x,foldedSetIterable iter X.env x=pure x:=by intro _;rfl) (hs2:∀cl C x,foldedSetIterable iter2 (compEnvC scope cl C X.env) x=pure x:=by intro _ _ _;rfl):
  PE X (.ListComp elt [⟨tg,iter,ifs,0⟩,⟨tg2,iter2,ifs2,0⟩] scope pos) (tD K<|kN own cap iv g tc iv2 g2 tc2 te):=fZ (Gu S hi hg ht hi2 hg2 ht2 he hx hc hs hs2) fun L H Q h=>by
 refine el4 h fun W B d Z5 eH ok en e q=>?_;subst eH;exact CM ok en e fun v W' h1 h2 h3 h4 p hv=>by subst hv;exact q _ W' h1 h2 h3 h4
theorem Dh{i:Nat}{y:Str}{py spos:Pos}(hN:X.N.Nodup)(hi':X.N[i]?=some y)(hy:X.env.scope.names.lookup y=some .local)(S:CompScope X N' own cap scope)(hi:PI X tg iter (tDI K iv))
  (hg:∀cl C Z1 ZZ ex,PG (fO X N' scope cl C Z1 ZZ ex) tg<|tDG K g) (ht:∀cl C Z1 ZZ ex,PIf (fO X N' scope cl C Z1 ZZ ex) ifs<|tDB K tc)
  (hi2:∀cl C Z1 ZZ ex,PI (fO X N' scope cl C Z1 ZZ ex) tg2 iter2<|tDI K iv2) (hg2:∀cl C Z1 ZZ ex,PG (fO X N' scope cl C Z1 ZZ ex) tg2<|tDG K g2) (ht2:∀cl C Z1 ZZ ex,PIf (fO X N' scope cl C Z1 ZZ ex) ifs2<|tDB K tc2)
  (he:∀cl C Z1 ZZ ex,PE (fO X N' scope cl C Z1 ZZ ex) elt<|tD K te)
  (hsw:swapsWith (.ListComp elt [⟨tg,iter,ifs,0⟩,⟨tg2,iter2,ifs2,0⟩] scope pos) (some<|.Name y py) spos.line X.env=pure true:=by rfl)
  (hx:∀e s,X.xe e s->False:=by exact fun _ _ z=>z) (hc:X.calm=true:=by rfl) (hs:∀x,foldedSetIterable iter X.env x=pure x:=by intro _;rfl) (hs2:∀cl C x,foldedSetIterable iter2 (compEnvC scope cl C X.env) x=pure x:=by intro _ _ _;rfl):
  PS X (.Assign [.Name y py] (.ListComp elt [⟨tg,iter,ifs,0⟩,⟨tg2,iter2,ifs2,0⟩] scope pos) spos) (tDS K<|fS (kN own cap iv g tc iv2 g2 tc2 te)<|fD i):=hX (P5 hN hi' hy S hi hg ht hi2 hg2 ht2 he hsw hx hc hs hs2) fun D L H h=>by
 refine el5 h fun W B o ZX Z5 eH ok en e q=>?_;subst eH;refine fF e fun p1 e1 e=>?_;cases e;exact CM (Z:=fun p H2=>D.nx (L.set i<|some<|.ref p) H2) ok en e1 fun v W' h1 h2 h3 h4 p hv=>by subst hv;exact q W' _ h1 h2 h3 ((en.step ok h3).set h4 i)
end
section
variable {n:Nat} {O:M}
theorem Ol{i:Int}:py (n+1) O (.int i)=some (.int i):=rfl
theorem JH{x:Str}:py (n+1) O (.str x)=some (.str x):=rfl
theorem bs{J β:Type}{a:J}{f:J->Option β}:(some a).bind f=f a:=rfl
theorem og{J β γ:Type}{f:β->Option γ}{g:J->β}{h:J->γ}:∀{l:List J},(∀x∈l,f (g x)=some (h x))->optAll f (l.map g)=some (l.map h)
 | [],_=>rfl
 |x::r,e=>by
  have e1:=e x nofun;have e2:=og (l:=r) fun y hy=>e y (by simp[hy]);simp only[SN,optAll,e1,e2,bs]
end
section
variable {B:G} {O Z4 Z3:M} {ea eb:EV} {x y d:D} {f:D->D->M->SB} {f1:D->M->SB} {i:Nat}
theorem DL(h:B[i]?=some (some d)):be i B O=some (d,O):=by unfold be;rw[h]
theorem e_2(h1:ea B O=some (x,Z4))(h2:eb B Z4=some (y,Z3)):v2 f ea eb B O=f x y Z3:=by unfold v2;rw[h1,bs,h2,bs]
theorem e_1(h1:ea B O=some (x,Z4)):v1 f1 ea B O=f1 x Z4:=by unfold v1;rw[h1,bs]
end
def mM(b:SV):Option (Out×G×M)->Option (Out×G×M)
 |some (.nx,B,O)=>b B O
 |x=>x
@[simp] theorem lV{b:SV}{B:G}{O:M}:mM b (some (.nx,B,O))=b B O:=rfl
@[simp] theorem kSeq_rt{b:SV}{d:D}{B:G}{O:M}:mM b (some (.rt d,B,O))=some (.rt d,B,O):=rfl
@[simp] theorem kSeq_bk{b:SV}{B:G}{O:M}:mM b (some (.bk,B,O))=some (.bk,B,O):=rfl
@[simp] theorem kSeq_ct{b:SV}{B:G}{O:M}:mM b (some (.ct,B,O))=some (.ct,B,O):=rfl
@[simp] theorem jc{a b:SV}{B:G}{O:M}:fH a b B O=mM b (a B O):=by
 unfold fH mM;cases h:a B O with
 |none=>rfl
 |some o=>obtain⟨o1,ZY,Z4⟩:=o;cases o1<;>rfl
section
variable {B:G} {O:M} {ea eb ec:EV} {ba bb:BV} {el:LV} {sa sb:SV} {i j:Nat} {d x y:D} {ds:ŗ} {b:Bool}
@[simp] theorem vVar_eq:be i B O=match B[i]? with
 |some (some d)=>some (d,O)
 |_=>none:=rfl
@[simp] theorem vC_eq:vC d B O=some (d,O):=rfl
def kV1(f:D->M->SB):SB->SB
 |some (x,O)=>f x O
 |none=>none
@[simp] theorem kV1_s{f:D->M->SB}:kV1 f (some (x,O))=f x O:=rfl
@[simp] theorem v1_eq{f:D->M->SB}:v1 f ea B O=kV1 f (ea B O):=by
 unfold v1 kV1;cases ea B O<;>rfl
def km(f:D->D->M->SB)(x:D):SB->SB
 |some (y,O)=>f x y O
 |none=>none
@[simp] theorem kV2b_s{f:D->D->M->SB}:km f x (some (y,O))=f x y O:=rfl
def kV2(f:D->D->M->SB)(eb:EV)(B:G):SB->SB
 |some (x,O)=>km f x (eb B O)
 |none=>none
@[simp] theorem kV2_s{f:D->D->M->SB}:kV2 f eb B (some (x,O))=km f x (eb B O):=rfl
@[simp] theorem v2_eq{f:D->D->M->SB}:v2 f ea eb B O=kV2 f eb B (ea B O):=by
 unfold v2 kV2;cases ea B O with
 |none=>rfl
 |some p=>show(eb B p.2).bind _=km f p.1 (eb B p.2);cases eb B p.2<;>rfl
def kT:SB->Ţ
 |some (.bl b,O)=>some (b,O)
 |_=>none
@[simp] theorem kT_s:kT (some (.bl b,O))=some (b,O):=rfl
@[simp] theorem Cs:vT ea B O=kT (ea B O):=by
 unfold vT kT;cases ea B O with
 |none=>rfl
 |some p=>obtain⟨p1,p2⟩:=p;cases p1<;>rfl
def w8(bb:BV)(B:G):Ţ->Ţ
 |some (c,O)=>if c=true then bb B O else some (false,O)
 |none=>none
@[simp] theorem kAnd_s:w8 bb B (some (c,O))=if c=true then bb B O else some (false,O):=rfl
@[simp] theorem bAnd_eq:k9 ba bb B O=w8 bb B (ba B O):=by unfold k9 w8;cases ba B O<;>rfl
def kOr(bb:BV)(B:G):Ţ->Ţ
 |some (c,O)=>if c=true then some (true,O) else bb B O
 |none=>none
@[simp] theorem kOr_s:kOr bb B (some (c,O))=if c=true then some (true,O) else bb B O:=rfl
@[simp] theorem bOr_eq:bOr ba bb B O=kOr bb B (ba B O):=by unfold bOr kOr;cases ba B O<;>rfl
def vc:Ţ->Ţ
 |some (c,O)=>some (!c,O)
 |none=>none
@[simp] theorem kNot_s:vc (some (c,O))=some (!c,O):=rfl
@[simp] theorem bNot_eq:iO ba B O=vc (ba B O):=by unfold iO vc;cases ba B O<;>rfl
def kIf(ea eb:EV)(B:G):Ţ->SB
 |some (c,O)=>if c=true then ea B O else eb B O
 |none=>none
@[simp] theorem kIf_s:kIf ea eb B (some (c,O))=if c=true then ea B O else eb B O:=rfl
@[simp] theorem Da:vIf ba ea eb B O=kIf ea eb B (ba B O):=by unfold vIf kIf;cases ba B O<;>rfl
def v4(sa sb:SV)(B:G):Ţ->Option (Out×G×M)
 |some (c,O)=>if c=true then sa B O else sb B O
 |none=>none
@[simp] theorem kSIf_s:v4 sa sb B (some (c,O))=if c=true then sa B O else sb B O:=rfl
@[simp] theorem lN:sIf ba sa sb B O=v4 sa sb B (ba B O):=by unfold sIf v4;cases ba B O<;>rfl
def uw(eb:EV)(B:G):SB->SB
 |some (.bl c,O)=>if c=true then some (.bl true,O) else eb B O
 |_=>none
@[simp] theorem kVOr_s:uw eb B (some (.bl c,O))=if c=true then some (.bl true,O) else eb B O:=rfl
@[simp] theorem Kl:vOr ea eb B O=uw eb B (ea B O):=by
 unfold vOr uw;cases ea B O with
 |none=>rfl
 |some p=>
  obtain⟨p1,p2⟩:=p;cases p1 with
  |bl c=>cases c<;>rfl
  |_=>rfl
@[simp] theorem lNil_eq:fE B O=some ([],O):=rfl
def tt(x:D):Option (List D×M)->Option (List D×M)
 |some (r,O)=>some (x::r,O)
 |none=>none
@[simp] theorem kLc2_s:tt x (some (r,O))=some (x::r,O):=rfl
def kLc(el:LV)(B:G):SB->Option (List D×M)
 |some (x,O)=>tt x (el B O)
 |none=>none
@[simp] theorem kLc_s:kLc el B (some (x,O))=tt x (el B O):=rfl
@[simp] theorem lCons_eq:fB ea el B O=kLc el B (ea B O):=by
 unfold fB kLc;cases ea B O with
 |none=>rfl
 |some p=>show(el B p.2).bind _=tt p.1 (el B p.2);cases el B p.2<;>rfl
def kL(f:Fr):Option (List D×M)->SB
 |some (r,O)=>f r O
 |none=>none
@[simp] theorem kL_s{f:Fr}{r:ŗ}:kL f (some (r,O))=f r O:=rfl
@[simp] theorem vL_eq{f:Fr}:vL f el B O=kL f (el B O):=by unfold vL kL;cases el B O<;>rfl
@[simp] theorem sNx_eq:sNx B O=some (.nx,B,O):=rfl
def kEx(B:G):SB->Option (Out×G×M)
 |some (_,O)=>some (.nx,B,O)
 |none=>none
@[simp] theorem kEx_s:kEx B (some (x,O))=some (.nx,B,O):=rfl
@[simp] theorem uG:kg ea B O=kEx B (ea B O):=by unfold kg kEx;cases ea B O<;>rfl
def kRt(B:G):SB->Option (Out×G×M)
 |some (x,O)=>some (.rt x,B,O)
 |none=>none
@[simp] theorem kRt_s:kRt B (some (x,O))=some (.rt x,B,O):=rfl
@[simp] theorem pS:fM ea B O=kRt B (ea B O):=by unfold fM kRt;cases ea B O<;>rfl
def kG:Option (G×M)->Option (Out×G×M)
 |some (B,O)=>some (.nx,B,O)
 |none=>none
@[simp] theorem kG_s:kG (some (B,O))=some (.nx,B,O):=rfl
def kAs(g:GV)(B:G):SB->Option (Out×G×M)
 |some (x,O)=>kG (g x B O)
 |none=>none
@[simp] theorem kAs_s:kAs g B (some (x,O))=kG (g x B O):=rfl
@[simp] theorem wc:fS ea g B O=kAs g B (ea B O):=by
 unfold fS kAs;cases ea B O with
 |none=>rfl
 |some p=>show(g p.1 B p.2).bind _=kG (g p.1 B p.2);cases g p.1 B p.2<;>rfl
@[simp] theorem gvName_eq:fD i d B O=some (B.set i (some d),O):=rfl
@[simp] theorem gvNil_eq:gF [] B O=some (B,O):=rfl
def kGs(gs:GsV)(ds:ŗ):Option (G×M)->Option (G×M)
 |some (B,O)=>gs ds B O
 |none=>none
@[simp] theorem kGs_s{gs:GsV}:kGs gs ds (some (B,O))=gs ds B O:=rfl
@[simp] theorem gvCons_eq{g:GV}{gs:GsV}:fN g gs (d::ds) B O=kGs gs ds (g d B O):=by
 show(g d B O).bind _=_;unfold kGs;cases g d B O<;>rfl
@[simp] theorem gvTup_eq{n:Nat}{gs:GsV}:gy n gs (.tup ds) B O=if ds.length=n then gs ds B O else none:=rfl
def kOn(O:M)(k:Nat):Option (D×ŗ)->SB
 |some (d,l)=>some (d,O.set k<|some<|.lst l)
 |none=>none
@[simp] theorem yl:kOn O i (some (d,l))=some (d,O.set i<|some<|.lst l):=rfl
def qI(B:G):SB->Option (G×M)
 |some (_,O)=>some (B,O)
 |none=>none
@[simp] theorem kSb3_s:qI B (some (x,O))=some (B,O):=rfl
def sbF(d:D)(j:Int)(ds:ŗ):Option (D×ŗ):=(ixN ds.length j).bind fun jj=>some (.non,ds.set jj d)
theorem vK{j:Int}{jj:Nat}(h:ixN ds.length j=some jj):sbF d j ds=some (.non,ds.set jj d):=by unfold sbF;rw[h];rfl
@[simp] theorem sbF_0:sbF d 0 (x::ds)=some (.non,d::ds):=by
 refine vK (jj:=0) ?_;unfold ixN;rw[if_pos ⋯,if_pos (by simp only[S9];omega)];rfl
@[simp] theorem sbF_1:sbF d 1 (x::y::ds)=some (.non,x::d::ds):=by
 refine vK (jj:=1) ?_;unfold ixN;rw[if_pos ⋯,if_pos (by simp only[S9];omega)];rfl
@[simp] theorem sbF_2:sbF d 2 (x::y::z::ds)=some (.non,x::y::d::ds):=by
 refine vK (jj:=2) ?_;unfold ixN;rw[if_pos ⋯,if_pos (by simp only[S9];omega)];rfl
def sh(d:D)(B:G)(o:D):SB->Option (G×M)
 |some (.int j,O)=>qI B (onL o O<|sbF d j)
 |_=>none
@[simp] theorem kSb2_s{j:Int}:sh d B x (some (.int j,O))=qI B (onL x O<|sbF d j):=rfl
def kSb(d:D)(ei:EV)(B:G):SB->Option (G×M)
 |some (o,O)=>sh d B o (ei B O)
 |none=>none
@[simp] theorem kSb_s:kSb d ei B (some (x,O))=sh d B x (ei B O):=rfl
@[simp] theorem gvSub_eq:rz eo ei d B O=kSb d ei B (eo B O):=by
 unfold rz kSb;cases eo B O with
 |none=>rfl
 |some p=>
  show(ei B p.2).bind _=sh d B p.1 (ei B p.2);cases ei B p.2 with
  |none=>rfl
  |some q=>
   obtain⟨q1,q2⟩:=q;cases q1 with
   |int j=>
    show(onL p.1 q2 _).bind _=qI B (onL p.1 q2<|sbF d j);have e:(fun ds=>(ixN ds.length j).bind fun jj=>some (D.non,ds.set jj d))=sbF d j:=rfl;rw[e];unfold qI;cases onL p.1 q2 (sbF d j)<;>rfl
   |_=>rfl
@[simp] theorem oNone_eq:nC B O=some (none,O):=rfl
def kTr(O:M):ř->Ţ
 |some b=>some (b,O)
 |none=>none
@[simp] theorem kTr_s:kTr O (some b)=some (b,O):=rfl
def qW:SB->Ţ
 |some (x,O)=>kTr O (tru O x)
 |none=>none
@[simp] theorem kTru_s:qW (some (x,O))=kTr O (tru O x):=rfl
@[simp] theorem B3:gG ea B O=qW (ea B O):=by
 unfold gG qW;cases ea B O with
 |none=>rfl
 |some p=>show(tru p.2 p.1).bind _=kTr p.2 (tru p.2 p.1);cases tru p.2 p.1<;>rfl
def uk:SB->SB
 |some (.ref k,O)=>match O[k]? with
  |some (some<|.lst ds)=>some (.lst ds,O.set k none)
  |_=>none
 |_=>none
theorem NN(h:O[i]?=some (some<|.lst ds)):uk (some (.ref i,O))=some (.lst ds,O.set i none):=by simp only[uk,h]
@[simp] theorem Lj:tO ea B O=uk (ea B O):=by
 unfold tO uk;cases ea B O with
 |none=>rfl
 |some p=>obtain⟨p1,p2⟩:=p;cases p1<;>rfl
def kM2(f:D->D->M->SB)(eb:EV)(B:G)(x:D)(O:M):Option ŗ->SB
 |some _=>km f x (eb B O)
 |none=>none
@[simp] theorem kM2_s{f:D->D->M->SB}:kM2 f eb B x O (some ds)=km f x (eb B O):=rfl
def kM(f:D->D->M->SB)(eb:EV)(B:G):SB->SB
 |some (x,O)=>kM2 f eb B x O (gu O x)
 |none=>none
@[simp] theorem kM_s{f:D->D->M->SB}:kM f eb B (some (x,O))=kM2 f eb B x O (gu O x):=rfl
@[simp] theorem v2l_eq{f:D->D->M->SB}:jw f ea eb B O=kM f eb B (ea B O):=by
 unfold jw kM;cases ea B O with
 |none=>rfl
 |some p=>
  show(gu p.2 p.1).bind _=kM2 f eb B p.1 p.2 (gu p.2 p.1);cases gu p.2 p.1 with
  |none=>rfl
  |some l=>show(eb B p.2).bind _=km f p.1 (eb B p.2);cases eb B p.2<;>rfl
def xC(g:GV)(body:SV)(B:G):Option ((List D×Ck)×M)->Option (Out×G×M)
 |some ((its,c),O)=>gD c g body its B O
 |none=>none
@[simp] theorem mW:xC g sa B (some ((ds,c),O))=gD c g sa ds B O:=rfl
@[simp] theorem mR:iz iv g sa B O=xC g sa B (iv B O):=by unfold iz xC;cases iv B O<;>rfl
def kI2(O:M):Option (List D×Ck)->Option ((List D×Ck)×M)
 |some s=>some (s,O)
 |none=>none
@[simp] theorem kI2_s:kI2 O (some s)=some (s,O):=rfl
def kI:SB->Option ((List D×Ck)×M)
 |some (x,O)=>kI2 O (lsC O x)
 |none=>none
@[simp] theorem kI_s:kI (some (x,O))=kI2 O (lsC O x):=rfl
@[simp] theorem ivL_eq:ivL ea B O=kI (ea B O):=by
 unfold ivL kI;cases ea B O with
 |none=>rfl
 |some p=>show(lsC p.2 p.1).bind _=kI2 p.2 (lsC p.2 p.1);cases lsC p.2 p.1<;>rfl
def kIR:SB->Option ((List D×Ck)×M)
 |some (.int j,O)=>if -1000000000<=j/\j<=1000000000 then some ((gh 0 j.toNat,none),O) else none
 |_=>none
@[simp] theorem kIR_s{j:Int}:kIR (some (.int j,O))=if -1000000000<=j/\j<=1000000000 then some ((gh 0 j.toNat,none),O) else none:=rfl
@[simp] theorem ivR_eq:ivR ea B O=kIR (ea B O):=by
 unfold ivR kIR;cases ea B O with
 |none=>rfl
 |some p=>obtain⟨p1,p2⟩:=p;cases p1<;>rfl
def um(x:D):SB->Option ((List D×Ck)×M)
 |some (y,O)=>match x,y with
  | .int i,.int j=>if(-1000000000<=i/\i<=1000000000)/\-1000000000<=j/\j<=1000000000 then some ((gh i (j - i).toNat,none),O) else none
  |_,_=>none
 |none=>none
@[simp] theorem PY{i j:Int}:um (.int i) (some (.int j,O))=if(-1000000000<=i/\i<=1000000000)/\-1000000000<=j/\j<=1000000000 then some ((gh i (j - i).toNat,none),O) else none:=rfl
def wv(eb:EV)(B:G):SB->Option ((List D×Ck)×M)
 |some (x,O)=>um x (eb B O)
 |none=>none
@[simp] theorem GX:wv eb B (some (x,O))=um x (eb B O):=rfl
@[simp] theorem FA:qd ea eb B O=wv eb B (ea B O):=by
 unfold qd wv;cases ea B O with
 |none=>rfl
 |some p=>show(eb B p.2).bind _=um p.1 (eb B p.2);cases eb B p.2<;>rfl
@[simp] theorem bYes_eq:fQ B O=some (true,O):=rfl
def tj(g:D->D->M->SB)(ec:EV)(B:G)(y:D):SB->SB
 |some (.bl c,O)=>if c=true then km g y (ec B O) else some (.bl false,O)
 |_=>none
@[simp] theorem kCh3_s:tj g ec B y (some (.bl c,O))=if c=true then km g y (ec B O) else some (.bl false,O):=rfl
def ub(f g:D->D->M->SB)(ec:EV)(B:G)(x:D):SB->SB
 |some (y,O)=>tj g ec B y (f x y O)
 |none=>none
@[simp] theorem kCh2_s{f g:D->D->M->SB}:ub f g ec B x (some (y,O))=tj g ec B y (f x y O):=rfl
def kCh(f g:D->D->M->SB)(eb ec:EV)(B:G):SB->SB
 |some (x,O)=>ub f g ec B x (eb B O)
 |none=>none
@[simp] theorem kCh_s{f g:D->D->M->SB}:kCh f g eb ec B (some (x,O))=ub f g ec B x (eb B O):=rfl
@[simp] theorem vChain_eq{f g:D->D->M->SB}:jA f g ea eb ec B O=kCh f g eb ec B (ea B O):=by
 unfold jA kCh;cases ea B O with
 |none=>rfl
 |some p=>
  show(eb B p.2).bind _=ub f g ec B p.1 (eb B p.2);cases eb B p.2 with
  |none=>rfl
  |some q=>
   show(f p.1 q.1 q.2).bind _=tj g ec B q.1 (f p.1 q.1 q.2);cases f p.1 q.1 q.2 with
   |none=>rfl
   |some t=>
    obtain⟨t1,t2⟩:=t;cases t1 with
    |bl c=>
     cases c with
     |true=>show(ec B t2).bind _=km g q.1 (ec B t2);cases ec B t2<;>rfl
     |false=>rfl
    |_=>rfl
def kB(O:M):ř->SB
 |some b=>some (.bl b,O)
 |none=>none
@[simp] theorem kB_s:kB O (some b)=some (.bl b,O):=rfl
def kNB(O:M):ř->SB
 |some b=>some (.bl (!b),O)
 |none=>none
@[simp] theorem kNB_s:kNB O (some b)=some (.bl (!b),O):=rfl
def kD(O:M):ţ->SB
 |some d=>some (d,O)
 |none=>none
@[simp] theorem kD_s:kD O (some d)=some (d,O):=rfl
@[simp] theorem fI0_eq{g:Int->Int->D}{i j:Int}:fI0 g (.int i) (.int j) O=some (g i j,O):=rfl
@[simp] theorem fI_eq{C:Int->Int->Prop} [∀i j,Decidable (C i j)]{g:Int->Int->D}{i j:Int}:fI C g (.int i) (.int j) O=if C i j then some (g i j,O) else none:=rfl
@[simp] theorem fNeg_eq{i:Int}:kl (.int i) O=some (.int (-i),O):=rfl
@[simp] theorem fNot_eq{b:Bool}:zn (.bl b) O=some (.bl (!b),O):=rfl
@[simp] theorem fPlus_int{i j:Int}:gK (.int i) (.int j) O=some (.int (i+j),O):=rfl
@[simp] theorem fTimes_int{i j:Int}:j0 (.int i) (.int j) O=if CMul i j then some (.int (i*j),O) else none:=rfl
@[simp] theorem HC{b:Bool}:rH (.bl b) O=some (.int (if b then 1 else 0),O):=rfl
@[simp] theorem fEq_eq:fEq x y O=kB O (eqD x y O):=by unfold fEq kB;cases eqD x y O<;>rfl
@[simp] theorem fNe_eq:fNe x y O=kNB O (eqD x y O):=by unfold fNe kNB;cases eqD x y O<;>rfl
@[simp] theorem sM{i j:Int}:eqD (.int i) (.int j) O=some (decide (i=j)):=rfl
@[simp] theorem eqD_str{a b:Str}:eqD (.str a) (.str b) O=if PyData.strOk a&&PyData.strOk b then some (decide (a=b)) else none:=rfl
@[simp] theorem lsOf_lst:gu O (.lst ds)=some ds:=rfl
@[simp] theorem lsOf_scr:gu O (.scr ds)=some ds:=rfl
@[simp] theorem lsOf_tup:gu O (.tup ds)=none:=rfl
@[simp] theorem tpOf_tup:lq (.tup ds)=some ds:=rfl
@[simp] theorem wlOf_lst:lA O (.lst ds)=some ds:=rfl
@[simp] theorem lsC_lst:lsC O (.lst ds)=some (ds,none):=rfl
@[simp] theorem lsC_scr:lsC O (.scr ds)=some (ds,none):=rfl
@[simp] theorem fLst_eq:gf ds O=if ds.length<=1000 then some (.lst ds,O) else none:=rfl
@[simp] theorem fTup_eq:gn ds O=if ds.length<=1000 then some (.tup ds,O) else none:=rfl
@[simp] theorem fNew_eq:jW ds O=if ds.length<=1000 then some (.ref O.length,O++[some (.lst ds)]) else none:=rfl
@[simp] theorem B4{i:Int}:fIx (.lst ds) (.int i) O=kD O (atI ds i):=by
 show(atI ds i).bind _=_;unfold kD;cases atI ds i<;>rfl
@[simp] theorem fIx_scr{i:Int}:fIx (.scr ds) (.int i) O=kD O (atI ds i):=by
 show(atI ds i).bind _=_;unfold kD;cases atI ds i<;>rfl
@[simp] theorem QA{i:Int}:fIx (.tup ds) (.int i) O=kD O (atI ds i):=by
 show(atI ds i).bind _=_;unfold kD;cases atI ds i<;>rfl
@[simp] theorem ER:gX (.lst ds) O=some (.int ds.length,O):=rfl
@[simp] theorem fLen_tup:gX (.tup ds) O=some (.int ds.length,O):=rfl
@[simp] theorem fCat_lst:gK (.lst ds) (.lst es) O=if ds.length+es.length<=1000000 then some (.lst (ds++es),O) else none:=rfl
@[simp] theorem fSl_lst:fSl (.lst ds) lo hi O=some (.lst (k8 ds lo hi),O):=rfl
@[simp] theorem Qu:fSl (.tup ds) lo hi O=if HT.sIx ds.length 0 lo=0/\HT.sIx ds.length ds.length hi=ds.length then none else some (.tup (k8 ds lo hi),O):=rfl
@[simp] theorem zV{b:Bool}:tru O (.bl b)=some b:=rfl
@[simp] theorem tru_lst:tru O (.lst ds)=some (!ds.isEmpty):=rfl
theorem kW{J:Type}{xs:List J}{j:Nat}{v:J}(h:xs[j]?=some v):atI xs (j:Int)=some v:=by
 have hlt:=(SG.mp h).1;unfold atI ixN;rw[if_pos ⋯,if_pos ⋯];simpa using h
@[simp] theorem atI_0{J:Type}{a:J}{l:List J}:atI (a::l) 0=some a:=kW (j:=0) rfl
@[simp] theorem atI_1{J:Type}{a b:J}{l:List J}:atI (a::b::l) 1=some b:=kW (j:=1) rfl
@[simp] theorem atI_2{J:Type}{a b c:J}{l:List J}:atI (a::b::c::l) 2=some c:=kW (j:=2) rfl
@[simp] theorem atI_3{J:Type}{a b c d:J}{l:List J}:atI (a::b::c::d::l) 3=some d:=kW (j:=3) rfl
end
def inI:D->Œ
 | .int i=>some i
 |_=>none
def inB:D->ř
 | .bl b=>some b
 |_=>none
section
variable {K:Frag} {W:Wd}
theorem Bj:∀{ds:ŗ} {vs:Ř} {ns:Ŕ},optAll inI ds=some ns->DRs K W ds vs->vs=ns.map V.int
 |_,_,_,h,.nil=>by cases h;rfl
 |d::_,_,_,h,.cons r t=>by
  refine fF h fun u h1 h=>?_;refine fF h fun us h2 h=>?_;cases h;cases d<;>cases h1
  cases r;rw[Bj h2 t];rfl
theorem wE:∀{ds:ŗ} {vs:Ř} {ns:ũ},optAll inB ds=some ns->DRs K W ds vs->vs=ns.map V.bl
 |_,_,_,h,.nil=>by cases h;rfl
 |d::_,_,_,h,.cons r t=>by
  refine fF h fun u h1 h=>?_;refine fF h fun us h2 h=>?_;cases h;cases d<;>cases h1
  cases r;rw[wE h2 t];rfl
theorem HE(ns:Ŕ):optAll inI (ns.map D.int)=some ns:=by
 have:=og (f:=inI) (g:=D.int) (h:=id) (l:=ns) fun x _=>rfl;simpa using this
theorem Ar(ns:ũ):optAll inB (ns.map D.bl)=some ns:=by
 have:=og (f:=inB) (g:=D.bl) (h:=id) (l:=ns) fun x _=>rfl;simpa using this
end
def mx:Int->Ŕ->Int
 |a,[]=>a
 |a,b::r=>mx (if b>a then b else a) r
theorem zG:∀(r l:Ŕ) (a:Int),IsMax a l->IsMax (mx a r) (l++r)
 | [],l,a,h=>by simpa[mx] using h
 |b::r,l,a,h=>by
  have:=zG r (l++[b]) (if b>a then b else a) h.step;simpa[mx] using this
def N3{a b:Int}{l:Ŕ}(h:IsMax a l)(g:IsMax b l):a=b:=by
 have h1:=h.2 b g.1;have h2:=g.2 a h.1;omega
def mxL:Ŕ->Œ
 | []=>none
 |a::r=>some (mx a r)
def zA(h:mxL l=some m):IsMax m l:=by
 cases l with
 |nil=>cases h
 |cons a r=>
  cases h;exact zG r [a] a ⟨by simp,by simp⟩
section
variable {X:Cx} {K:Frag} {a b:Expr} {ea eb:EV} {pos p kp:Pos}
def oM(x y:D)(O:M):SB:=match y with
 | .int j=>(gu O x).bind fun ds=>(optAll inI ds).bind fun ns=>some (.int ((mxL ns).getD j),O)
 |_=>none
theorem IX(mm:X.mg "max"=none) (ha:PE X a (tD K ea)) (hb:PE X b (tD K eb)) (hc:X.calm=true:=by rfl) (hg:Gl X "max":=by rfl) (hs:starEach [a] X.env=[(false,eval a X.env)]:=by rfl) (hK:X.K=K:=by rfl)
  (hall:(backToKw pos<|keywordEach [⟨some "default",b,kp⟩] X.env).all (·.1.isSome)=true:=by rfl) (hks:(backToKw pos<|keywordEach [⟨some "default",b,kp⟩] X.env).filterMap (·.1)=([Str.ofString "default"]:Ŗ):=by rfl)
  (hno:(backToKw pos<|keywordEach [⟨some "default",b,kp⟩] X.env).any (·.1.isNone)=false:=by rfl):PE X (.Call (.Name "max" p) [a] [⟨some "default",b,kp⟩] pos) (tD K<|v2 oM ea eb):=fZ (FO K mm ha hb hc hg hs hK hall hks hno) (oX (by
 intro W x y d e z Z5 Q ok r1 r2 hf q;unfold oM at hf;split at hf
 .cases r2;refine fF hf fun ds h1 hf=>?_;refine fF hf fun ns h2 hf=>?_;cases hf;obtain⟨a,vs,rfl,hs,hv⟩:=lK ok h1 r1;have:=Bj h2 hv;subst this;refine⟨a,ns,_,rfl,rfl,hs,fun z=>?_,fun M hM=>?_⟩
  .subst z;exact q _ W rfl ok .refl (.int _)
  .cases hn:mxL ns with
   |none=>
    cases ns with
    |nil=>exact absurd hM.1 nofun
    |cons _ _=>cases hn
   |some m=>
    rw[N3 hM (zA hn)];have:=q (.int m) W rfl ok .refl (by rw[hn];exact .int _);exact this
 .cases hf))
def jp(x:D)(O:M):SB:=(gu O x).bind fun ds=>(optAll inB ds).bind fun bs=>some (.bl (bs.all id),O)
theorem qj(mm:X.mg "all"=none) (ha:PE X a (tD K ea)) (hc:X.calm=true:=by rfl) (hg:Gl X "all":=by rfl) (hs:starEach [a] X.env=[(false,eval a X.env)]:=by rfl) (hK:X.K=K:=by rfl):PE X (.Call (.Name "all" p) [a] [] pos) (tD K<|v1 jp ea):=fZ (B8 K mm ha hc hg hs hK) (kn (by
 intro W x d z Z5 Q ok r1 hf q;refine fF hf fun ds h1 hf=>?_;refine fF hf fun ns h2 hf=>?_;cases hf;obtain⟨a,vs,rfl,hs,hv⟩:=lK ok h1 r1;have:=wE h2 hv;subst this;exact⟨a,ns,rfl,hs,q _ W rfl ok .refl (.bl _)⟩))
end
def lF{J:Type}{O:M}{x:Option J}:chk (gc none O) x=x:=jy trivial
section
variable {O:M} {k:Nat} {ds:ŗ}
def je:Option (Out×G×M)->SB
 |some (.rt d,_,O)=>some (d,O)
 |some (.nx,_,O)=>some (.non,O)
 |_=>none
@[simp] theorem kRun_rt:je (some (.rt d,B,O))=some (d,O):=rfl
@[simp] theorem kRun_nx:je (some (.nx,B,O))=some (.non,O):=rfl
@[simp] theorem kq:gq n m es ds O=if ds.length=m then je (es (ds.map some++List.replicate (n - ds.length) none) O) else none:=by
 unfold gq;split
 .unfold je;cases es (ds.map some++List.replicate (n - ds.length) none) O with
  |none=>rfl
  |some o=>obtain⟨o1,o2,o3⟩:=o;cases o1<;>rfl
 .rfl
theorem i8(h:O[k]?=some x):(O.set k y)[k]?=some y:=by
 have hlt:=(SG.mp h).1;simp[hlt]
theorem jo(h:j≠k):(O.set k y)[j]?=O[j]?:=S4 (Ne.symm h)
theorem n0(h:O[k]?=some (some<|.lst ds)):gu O (.ref k)=some ds:=by simp only[gu,h]
theorem x6(h:O[k]?=some (some<|.lst ds)):fIx (.ref k) (.int i) O=kD O (atI ds i):=by
 simp only[fIx,n0 h];unfold kD;cases atI ds i<;>rfl
theorem Lc(h:O[k]?=some (some<|.lst ds)):gX (.ref k) O=some (.int ds.length,O):=by simp only[gX,n0 h]
theorem qh(h:O[k]?=some (some<|.lst ds)):onL (.ref k) O g=kOn O k (g ds):=by
 simp only[onL,h];unfold kOn;cases g ds<;>rfl
theorem xG(h:O[k]?=some (some<|.lst ds)):lsC O (.ref k)=some (ds,some (k,ds)):=by simp only[lsC,h]
@[simp] theorem ixN_0:ixN (n+1) 0=some 0:=by unfold ixN;rw[if_pos ⋯,if_pos ⋯];rfl
@[simp] theorem ixN_1:ixN (n+2) 1=some 1:=by unfold ixN;rw[if_pos ⋯,if_pos ⋯];rfl
@[simp] theorem ixN_2:ixN (n+3) 2=some 2:=by unfold ixN;rw[if_pos ⋯,if_pos ⋯];rfl
end
section
variable {P:Program} {w:World} {K:Frag} {mg:ő} {base:Heap} {f:Addr} {fd:FuncData} {k:Nat}
theorem wH:FnOk P w K mg base CX0 k f fd ps (spM K fun _ _=>none):=
 ⟨(fun vs H Q E h=>by obtain⟨_,_,_,_,_,_,_,z,_⟩:=h;cases z),(fun A outer s H args us vs Q E _ _ _ _ h=>by obtain⟨_,_,_,_,_,_,_,z,_⟩:=h;cases z)⟩
def uu(K:Frag):Sp:=fun vs H Q _=>∃(a:Addr) (ns:Ŕ),vs=[.ref a]/\tR H/\SqL K H a (ns.map V.int)/\ns.length<=63/\∀H',Q (.bl true) H'
def W0(H:Hp):Wd:=⟨[],[],H,fun _=>False⟩
theorem Rl:Ok K (W0 H) where
 len:=rfl
 nd:=by simp[W0]
 rs a h:=by simp[W0] at h
 at_ k o h:=by simp[W0] at h
 hd0 a h:=h.elim
theorem vo:∀ns:Ŕ,DRs K W (ns.map D.int) (ns.map V.int)
 | []=>.nil
 |n::r=>.cons (.int n) (vo r)
theorem NX(F:FnOk P w K mg base CX0 k f fd ["script"] (spM K g)) (h:∀ns:Ŕ,ns.length<=63->∃Z5,g [.scr (ns.map D.int)] []=some (.bl true,Z5)):FnOk P w K mg base CX0 k f fd ["script"] (uu K):=F.imp fun vs H Q E hh=>by
 obtain⟨a,ns,rfl,hO,hS,hl,q⟩:=hh;obtain⟨Z5,e⟩:=h ns hl;have hF:SqF K H a (ns.map V.int):=by
  rcases hS with(hS|hS)|hS
  .rcases hO a with z|⟨o,xs,z⟩
   .rw[z] at hS;cases hS
   .rw[z] at hS;cases hS
  .exact .inl hS
  .exact .inr hS
 exact⟨W0 H,[.scr (ns.map D.int)],.bl true,Z5,rfl,Rl,.cons (.scr hF<|vo ns) .nil,e,fun v W' _ _ _ r=>by cases r;exact q _⟩
end
theorem rY(Pv:Nat->G->M->Prop):∀(its:ŗ) (i:Nat) (B:G) (O:M),Pv i B O->
  (∀j d B O,its[j]?=some d->Pv (i+j) B O->∃ZY Z4 ZV Z3,g d B O=some (ZY,Z4)/\body ZY Z4=some (.nx,ZV,Z3)/\gc c Z3/\Pv (i+j+1) ZV Z3)->∃ZX Z5,gD c g body its B O=some (.nx,ZX,Z5)/\Pv (i+its.length) ZX Z5
 | [],i,B,O,h,_=>⟨B,O,rfl,h⟩
 |d::r,i,B,O,h,hs=>by
  obtain⟨ZY,Z4,ZV,Z3,h1,h2,h3,h4⟩:=hs 0 d B O rfl h;obtain⟨ZX,Z5,h5,h6⟩:=rY Pv r (i+1) ZV Z3 h4 fun j d B O hj hp=>by
   have:=hs (j+1) d B O (by simpa using hj) (by rw[show i+(j+1)=i+1+j by omega];exact hp);rw[show i+(j+1)+1=i+1+j+1 by omega] at this;exact this
  refine⟨ZX,Z5,?_,by rw[S9,show i+(r.length+1)=i+1+r.length by omega];exact h6⟩;simp only[gD,h1,bs,h2];rw[jy h3,h5]
def LL(h:(gh lo n)[j]?=some d):j<n/\d=.int (lo+j):=by
 have hlt:=(SG.mp h).1;simp[gh] at hlt;simp[gh,hlt] at h;exact⟨hlt,h.symm⟩
def EL(h:(gh 0 n)[j]?=some d):j<n/\d=.int (j:Int):=by
 obtain⟨a,b⟩:=LL h;exact(⟨a,by rw[b,Int.zero_add]⟩)
def Mn:(gh lo n).length=n:=by simp[gh]
def ur:Option (List D×M)->SB
 |some (rs,O)=>some (.lst rs,O)
 |none=>none
@[simp] theorem kLst_s:ur (some (rs,O))=some (.lst rs,O):=rfl
def vf(own:Ŗ)(cap:œ)(g:GV)(tc:BV)(te:EV)(B:G):Option ((List D×Ck)×M)->SB
 |some ((its,c),O)=>if its.length<=1000000 then ur (gE c g tc te its (gA own cap B) O) else none
 |none=>none
@[simp] theorem yj:vf own cap g tc te B (some ((its,c),O))=if its.length<=1000000 then ur (gE c g tc te its (gA own cap B) O) else none:=rfl
@[simp] theorem yQ:gQ own cap iv g tc te B O=vf own cap g tc te B (iv B O):=by
 unfold gQ vf;cases iv B O with
 |none=>rfl
 |some s=>
  obtain⟨⟨its,c⟩,Z4⟩:=s;show(if its.length<=1000000 then(gE c g tc te its (gA own cap B) Z4).bind _ else none)=if its.length<=1000000 then ur (gE c g tc te its (gA own cap B) Z4) else none
  split
  .cases gE c g tc te its (gA own cap B) Z4<;>rfl
  .rfl
def uj:Option (List D×M)->SB
 |some (rs,O)=>if rs.length<=1000000 then some (.lst rs,O) else none
 |none=>none
@[simp] theorem wL:uj (some (rs,O))=if rs.length<=1000000 then some (.lst rs,O) else none:=rfl
def wC(own:Ŗ)(cap:œ)(g:GV)(tc:BV)(iv2:IV)(g2:GV)(tc2:BV)(te:EV)(B:G):Option ((List D×Ck)×M)->SB
 |some ((its,c),O)=>uj (jd c g tc iv2 g2 tc2 te its (gA own cap B) O)
 |none=>none
@[simp] theorem xB:wC own cap g tc iv2 g2 tc2 te B (some ((its,c),O))=uj (jd c g tc iv2 g2 tc2 te its (gA own cap B) O):=rfl
@[simp] theorem yf:kN own cap iv g tc iv2 g2 tc2 te B O=wC own cap g tc iv2 g2 tc2 te B (iv B O):=by
 unfold kN wC;cases iv B O with
 |none=>rfl
 |some s=>
  obtain⟨⟨its,c⟩,Z4⟩:=s;show(jd c g tc iv2 g2 tc2 te its (gA own cap B) Z4).bind _=uj (jd c g tc iv2 g2 tc2 te its (gA own cap B) Z4);cases jd c g tc iv2 g2 tc2 te its (gA own cap B) Z4<;>rfl
def iK(kvs:List (Key×D))(k:Key):ţ:=(kvs.find? fun kv=>decide (kv.1=k)).map (·.2)
def iY(kvs:List (Key×D))(k:Key)(v:D):List (Key×D):=
 if(kvs.any fun kv=>decide (kv.1=k))=true then kvs.map (fun kv=>if kv.1=k then(kv.1,v) else kv) else kvs++[(k,v)]
def kU:D->Option Key
 | .int i=>some (.inl i)
 | .str x=>some (.inr x)
 |_=>none
def ig(O:M):D->Option (List<|Key×D)
 | .ref k=>match O[k]? with
  |some (some<|.dK kvs)=>some kvs
  |_=>none
 |_=>none
section
variable {K:Frag} {W:Wd}
theorem wX{d:D}{k:Key}{v:V}(h:kU d=some k)(r:DR K W d v):v=kV k:=by
 cases d<;>simp only[kU] at h<;>cases h<;>cases r<;>rfl
theorem o0(ok:Ok K W)(h:ig W.O d=some kvs)(r:DR K W d v):
  ∃k a vs,d=.ref k/\v=.ref a/\W.O[k]?=some (some<|.dK kvs)/\W.ρ[k]?=some a/\W.H a=some (.dK vs)/\KR K W kvs vs:=by
 cases d with
 |ref k=>
  simp only[ig] at h;split at h
  .rename_i kvs' hk;cases h;cases r with
   |ref ha=>
    obtain⟨a',ho,h1,h2,vs,rfl,r⟩:=ok.at_ k _ hk;rw[ha] at h1;cases h1;exact(⟨k,_,vs,rfl,rfl,hk,ha,h2,r⟩)
  .cases h
 |_=>simp[ig] at h
theorem KR.len(r:KR K W kvs vs):kvs.length=vs.length:=UQ r
theorem KR.any(r:KR K W kvs vs)(k:Key):(kvs.any fun kv=>decide (kv.1=k))=vs.any fun kv=>decide (kv.1=k):=by
 unfold KR at r;induction r with
 |nil=>rfl
 |cons h t ih=>rw[Uu,Uu,ih,h.1]
theorem KR.val(r:KR K W kvs vs)(k:Key):(iK kvs k).isSome=(il vs k).isSome:=by
 unfold KR at r;induction r with
 |nil=>rfl
 | @cons p q ps qs h t ih=>
  by_cases e:p.1=k
  .rw[m7 (by rw[←h.1];exact e)];simp[iK,S0,e]
  .rw[nl (by rw[←h.1];exact e)];simp only[iK,S0,e,U4] at ih⊢;exact ih
theorem KR.snoc(r:KR K W kvs vs)(k:Key)(rv:DR K W d v):KR K W (kvs++[(k,d)]) (vs++[(k,v)]):=VI r ⟨rfl,rv⟩
theorem KR.repl(r:KR K W kvs vs)(k:Key)(rv:DR K W d v):
  KR K W (kvs.map fun kv=>if kv.1=k then(kv.1,d) else kv) (vs.map fun kv=>if kv.1=k then(kv.1,v) else kv):=by
 unfold KR at r⊢;induction r with
 |nil=>exact .nil
 | @cons p q ps qs h t ih=>
  refine .cons ?_ ih;show(if p.1=k then(p.1,d) else p).1=(if q.1=k then(q.1,v) else q).1/\DR K W (if p.1=k then(p.1,d) else p).2 (if q.1=k then(q.1,v) else q).2;by_cases e:p.1=k
  .rw[if_pos e,if_pos (by rw[←h.1];exact e)];exact⟨h.1,rv⟩
  .rw[if_neg e,if_neg (by rw[←h.1];exact e)];exact h
theorem KR.put(r:KR K W kvs vs)(k:Key)(rv:DR K W d v):KR K W (iY kvs k d) (gU vs k v):=by
 unfold iY gU;rw[r.any k];by_cases e:(vs.any fun kv=>decide (kv.1=k))=true
 .rw[if_pos e,if_pos e];exact r.repl k rv
 .rw[if_neg e,if_neg e];exact r.snoc k rv
theorem KR.vals(r:KR K W kvs vs):DRs K W (kvs.map (·.2)) (vs.map (·.2)):=by
 unfold KR at r;induction r with
 |nil=>exact .nil
 |cons h t ih=>exact .cons h.2 ih
theorem AJ{k:Nat}{a:Addr}{kvs kvs':List (Key×D)}{vs':List (Key×V)}(ok:Ok K W)(hk:W.O[k]?=some (some<|.dK kvs))(ha:W.ρ[k]?=some a)(hs:KR K W kvs' vs'):
  Ok K (W.put k a (.dK vs')<|.dK kvs')/\Step W (W.put k a (.dK vs')<|.dK kvs'):=⟨tF ok hk ha ⟨vs',rfl,hs⟩,mz hk ha⟩
theorem wg(ok:Ok K W)(h:ig W.O d=some kvs)(r:DR K W d v):tyV K "dict" v W.H:=by
 obtain⟨k,a,vs,rfl,rfl,_,_,hh,_⟩:=o0 ok h r;exact(.inr<|.inr<|.inl ⟨rfl,.inl ⟨vs,hh⟩⟩)
end
def kF(n:Nat)(c:Ck)(g:GV)(tc:BV)(tk tv:EV):ŗ->G->M->Option M
 | [],_,O=>some O
 |d::r,B,O=>(g d B O).bind fun p=>(tc p.1 p.2).bind fun t=>if t.1=true then(tk p.1 t.2).bind fun y=>(tv p.1 y.2).bind fun v=>(kU y.1).bind fun k=>(ig v.2<|.ref n).bind fun kvs=>
   chk (kvs.length<1000000/\gc c (v.2.set n<|some<|.dK<|iY kvs k v.1)) (kF n c g tc tk tv r p.1<|v.2.set n<|some<|.dK<|iY kvs k v.1) else chk (gc c t.2) (kF n c g tc tk tv r p.1 t.2)
section
variable {X:Cx} {K:Frag} {a b e o:Expr} {ea eb eo:EV} {pos p apos pos1:Pos} {k:Nat}
def rK:EV:=fun _ O=>some (.ref O.length,O++[some (.dK [])])
theorem BL:PE X (.Dict [] [] pos) (tD K rK):=fZ Fc fun L H Q h=>by
 refine el4 h fun W B d Z5 eH ok en e q=>?_;subst eH;cases e;intro pa hp;exact q _ (W.new pa (.dK [])<|.dK []) rfl (pK ok hp ⟨[],rfl,.nil⟩) (j6 ok hp) (nK ok)
def i9(x y:D)(O:M):SB:=(ig O x).bind fun kvs=>(kU y).bind fun k=>(iK kvs k).bind fun d=>some (d,O)
theorem KR.at{W:Wd}{kvs:List (Key×D)}{vs:List (Key×V)}(r:KR K W kvs vs){k:Key}{d:D}(h:iK kvs k=some d):∃v,il vs k=some v/\DR K W d v:=by
 unfold KR at r;induction r with
 |nil=>cases h
 | @cons p q ps qs hd t ih=>
  by_cases e:p.1=k
  .have:iK (p::ps) k=some p.2:=by simp[iK,S0,e]
   rw[this] at h;cases h;exact⟨q.2,m7 (by rw[←hd.1];exact e),hd.2⟩
  .have:iK (p::ps) k=iK ps k:=by simp[iK,S0,e]
   rw[this] at h;obtain⟨v,h1,h2⟩:=ih h;exact⟨v,by rw[nl (by rw[←hd.1];exact e)];exact h1,h2⟩
theorem tm(hr:Room k X.A)(ha:PE X a (tD K ea))(hb:PE X b (tD K eb))(hs:ug b:=by exact fun _ _=>rfl):PE X (.Subscript a b pos) (tD K<|v2 i9 ea eb):=
 fZ (z9 (by have:=hr.units;omega) ha hb hs) fun L H Q h=>by
  refine el4 h fun W B d Z5 eH ok en e q=>?_;subst eH;refine fF e fun p1 e1 e=>?_;refine fF e fun p2 e2 e=>?_;refine fF e fun kvs e3 e=>?_;refine fF e fun ky e4 e=>?_;refine fF e fun d2 e5 e=>?_;cases e;refine⟨W,B,p1.1,p1.2,rfl,ok,en,e1,fun x W1 Z2 ok1 s1 r1=>⟨W1,B,p2.1,p2.2,rfl,ok1,en.step ok s1,by rw[Z2];exact e2,fun y W2 ZW ok2 s2 r2=>?_⟩⟩;rw[←ZW] at e3;obtain⟨n,a,vs,hd,rfl,hk,ha,hh,hs⟩:=o0 ok2 e3 (r1.step ok1 s2);have:=wX e4 r2;subst this;obtain⟨v,h1,h2⟩:=hs.at e5;exact⟨a,v,rfl,by rw[←h1];exact DGet.k hh,q _ W2 ZW ok2 (s1.trans s2) h2⟩
def tY(x:D)(O:M):SB:=(ig O x).bind fun kvs=>some (.lst (kvs.map (·.2)),O)
theorem EH(ml:X.mg "list"=none) (ho:PE X o (tD K eo)) (hc:X.calm=true:=by rfl) (hg:Gl X "list":=by rfl) (hbase:attributeBase o "values" X.env (eval o X.env)=eval o X.env:=by rfl) (hline:(apos.endLine==pos1.line)=true:=by rfl)
  (hs:starEach [.Call (.Attribute o "values" apos) [] [] pos1] X.env=[(false,eval (.Call (.Attribute o "values" apos) [] [] pos1) X.env)]:=by rfl) (hK:X.K=K:=by rfl):
  PE X (.Call (.Name "list" p) [.Call (.Attribute o "values" apos) [] [] pos1] [] pos) (tD K<|v1 tY eo):=by
 refine fZ (sO (p:=p) (pos:=pos) (K3 (X:=X)) hg ml rfl (gz (Pa K ho hbase hline hK) g8 hs) (he:=hs)) fun L H Q h=>?_;refine el4 h fun W B d Z5 eH ok en e q=>?_;subst eH;refine fF e fun p1 e1 e=>?_;refine fF e fun kvs e2 e=>?_;cases e;refine⟨W,B,p1.1,p1.2,rfl,ok,en,e1,fun x W1 Z2 ok1 s1 r1=>?_⟩;rw[←Z2] at e2;obtain⟨k,a,vs,hd,rfl,hk,ha,hh,hs⟩:=o0 ok1 e2 r1;refine(⟨wg ok1 e2 r1,a,vs,rfl,rfl,hh,fun v hv=>?_⟩);refine⟨v,a,vs,rfl,gH,by rw[fR (fun z=>by rw[z,hv] at hh;cases hh)];exact hh,hc,fun l hl=>?_⟩;have ok2:=iG (o:=vvO v a) ok1 hv;have s2:=gP (o:=vvO v a) hv;have r2:=hs.vals.step ok1 s2;exact q _ ((W1.lay v<|vvO v a).lay l (.lst (vs.map (·.2)))) Z2 (iG ok2 hl) ((s1.trans s2).trans (gP hl)) (pW ok2 hl r2)
def jT(eo ek ed:EV):EV:=fun B O=>(eo B O).bind fun p=>(ig p.2 p.1).bind fun _=>(ek B p.2).bind fun q=>(ed B q.2).bind fun r=>(kU q.1).bind fun k=>(ig r.2 p.1).bind fun kvs=>match p.1 with
 | .ref n=>if kvs.length<1000000 then(match iK kvs k with
  |some d=>some (d,r.2)
  |none=>some (r.1,r.2.set n<|some<|.dK<|iY kvs k r.1)) else none
 |_=>none
theorem wY(ho:PE X o (tD K eo))(ha:PE X a (tD K ea))(hb:PE X b (tD K eb))(hs:starEach [a,b] X.env=[(false,eval a X.env),(false,eval b X.env)]:=by rfl)(hs2:starEach [b] X.env=[(false,eval b X.env)]:=by rfl)
  (hbase:attributeBase o "setdefault" X.env (eval o X.env)=eval o X.env:=by rfl) (hline:(apos.endLine==pos.line)=true:=by rfl) (hK:X.K=K:=by rfl)
  (hfew:((backTo pos<|starEach [a,b] X.env).all (fun x=>!x.1)&&(backToKw pos<|keywordEach [] X.env).all (fun x=>x.1.isSome)
   &&decide ([a,b].length+([]:ŝ).length+(if([]:ŝ).isEmpty then 0 else 1)<30))=true:=by rfl):
  PE X (.Call (.Attribute o "setdefault" apos) [a,b] [] pos) (tD K<|jT eo ea eb):=fZ (Ie K ho ha hb hs hs2 hbase hline hK hfew) fun L H Q h=>by
 refine el4 h fun W B d Z5 eH ok en e q=>?_;subst eH;refine fF e fun p1 e1 e=>?_;refine fF e fun kv0 e0 e=>?_;refine fF e fun p2 e2 e=>?_;refine fF e fun p3 e3 e=>?_;refine fF e fun ky e4 e=>?_;refine fF e fun kvs e5 e=>?_;refine⟨W,B,p1.1,p1.2,rfl,ok,en,e1,fun x W1 Z2 ok1 s1 r1=>⟨wg ok1 (by rw[Z2];exact e0) r1,W1,B,p2.1,p2.2,rfl,ok1,en.step ok s1,by rw[Z2];exact e2,fun y W2 ZW ok2 s2 r2=>⟨W2,B,p3.1,p3.2,rfl,ok2,(en.step ok s1).step ok1 s2,by rw[ZW];exact e3,fun z W3 ZR ok3 s3 r3=>?_⟩⟩⟩;rw[←ZR] at e5;obtain⟨n,a1,vs,hd,rfl,hk,ha1,hh,hs1⟩:=o0 ok3 e5 ((r1.step ok1 s2).step ok2 s3);have:=wX e4 (r2.step ok2 s3);subst this;rw[hd] at e;simp only at e;split at e
 .rename_i hl;refine⟨a1,vs,ky,z,rfl,rfl,hh,rB (by rw[←hs1.len];omega),fun v hv=>?_,fun hv=>?_⟩
  .split at e
   .rename_i d0 hd0;cases e;obtain⟨v',h1,h2⟩:=hs1.at hd0;rw[hv] at h1;cases h1;exact(q _ W3 ZR ok3 ((s1.trans s2).trans s3) h2)
   .rename_i hd0;have:=hs1.val ky;rw[hd0,hv] at this;cases this
  .split at e
   .rename_i d0 hd0;have:=hs1.val ky;rw[hd0,hv] at this;cases this
   .cases e;obtain⟨o4,s4⟩:=AJ (vs':=gU vs ky z) (kvs':=iY kvs ky p3.1) ok3 hk ha1 (hs1.put ky r3);exact q _ (W3.put n a1 (.dK<|gU vs ky z)<|.dK<|iY kvs ky p3.1) (by show W3.O.set _ _=_;rw[ZR]) o4 (((s1.trans s2).trans s3).trans s4) (r3.step ok3 s4)
 .cases e
end
end L3
namespace L2
open PySem PySem.W PySem.Spec PyProof.Rows
structure FlewH (P:Program) (w:World) (outer:ş) (Z7:Addr) (H H':Hp) (s:Shared) (e:Addr) (C:Value) (Z8:Heap) (s':Shared):Prop where
 os:s'.os=s.os
 bare:AllBare s'.gens
 un:Un (frs outer) [] H H' s.heap s'.heap
 hok:HOk P w H' s'.heap
 trk:∀b o,s'.heap.get? b=some o->H' b≠none->Z8.get? b=some o
 old:∀b o,s.heap.get? b=some o->H b=none->b∉frs outer->Z8.get? b=some o
 thr:∀b o,s.heap.get? b=some o->b∉frs outer->∃o',Z8.get? b=some o'
 frf:∀b∈frs outer,H b=none
 unt:H' e=none
 new:s.heap.get? e=none
 fly:∃a0,Heap.HeldW Z8 outer e C a0 Z7 s'.heap
section
variable {P:Program} {w:World} {outer:ş} {Z7:Addr} {H H':Hp} {s s':Shared} {e:Addr} {C:Value} {Z8:Heap}
theorem Flew.noted(F:Flew P w outer H H' s e C Z8 s')(hs:s'.heap.UpToSlots h2)(fl:∃a0,Heap.HeldW Z8 outer e C a0 Z7 h2):FlewH P w outer Z7 H H' s e C Z8 {s' with heap:=h2}:=by
 obtain⟨a0,fl⟩:=fl;obtain⟨u,k,t⟩:=F.to fl.1 hs;exact(⟨F.os,F.bare,u,k,t,F.old,F.thr,F.frf,F.unt,F.new,a0,fl⟩)
theorem FlewH.to(F:FlewH P w outer Z7 H H' s e C Z8 s')(hB:Z8.StaysIn h2)(hs:s'.heap.UpToSlots h2):Un (frs outer) [] H H' s.heap h2/\HOk P w H' h2/\∀b o,h2.get? b=some o->H' b≠none->Z8.get? b=some o:=by
 obtain⟨a0,fl⟩:=F.fly;have kp:∀b o,s.heap.get? b=some o->H b=none->b∉frs outer->h2.get? b=some o:=fun b o x n hb=>hB b o (F.old b o x n hb);have sl:∀b o,s.heap.get? b=some o->H b=none->b∈frs outer->∃sl,h2.get? b=some {o with slots:=sl}:=fun b o x n hb=>by
  obtain⟨sl,e1⟩:=F.un.slot b o x n hb nofun;obtain⟨_,o',e2,d⟩:=fl.2.2.1.mem hb;rw[e1] at e2;cases e2;obtain⟨sl',e3⟩:=hs b {o with slots:=sl} e1 d;exact(⟨sl',e3⟩)
 refine⟨⟨fun b o x n hb _=>kp b o x n hb,fun b o x n hb _=>sl b o x n hb,F.un.free,fun b o x _=>?_,F.un.tups,F.un.frzs,F.un.tbls⟩,fun a u eu=>?_,fun b o x n=>?_⟩
 .by_cases hb:b∈frs outer
  .obtain⟨l,e1⟩:=sl b o x (F.frf b hb) hb;exact⟨_,e1⟩
  .obtain⟨o',e1⟩:=F.thr b o x hb;exact⟨o',hB b o' e1⟩
 .refine(F.hok a u eu).stay (fun b v hb q=>hB b v<|F.trk b v q ?_) (fun _ q=>q) fun _ _ q=>q;rcases hb with z|z
  .rw[z,eu];simp
  .rw[z];simp
 .cases eu:H' b with
  |none=>exact absurd eu n
  |some u=>
   obtain⟨o1,e1⟩:=(F.hok b u eu).there;have e2:=F.trk b o1 e1 n;have e3:=hB b o1 e2;rw[x] at e3;cases e3;exact(e2)
theorem FlewH.next(F:FlewH P w outer Z7 H H' s e C Z8 s')(hs:s'.heap.UpToSlots h2)(fl:∃a0,Heap.HeldW Z8 outer e C a0 Z7 h2):FlewH P w outer Z7 H H' s e C Z8 {s' with heap:=h2}:=by
 obtain⟨a0,fl⟩:=fl;obtain⟨u,k,t⟩:=F.to fl.1 hs;exact(⟨F.os,F.bare,u,k,t,F.old,F.thr,F.frf,F.unt,F.new,a0,fl⟩)
theorem FlewH.lands(F:FlewH P w outer Z7 H H' s e C Z8 s')(hs:s'.heap.UpToSlots h2)(fl:∃a0,Heap.FlyingW Z8 outer e C a0 h2):Flew P w outer H H' s e C Z8 {s' with heap:=h2}:=by
 obtain⟨a0,fl⟩:=fl;obtain⟨u,k,t⟩:=F.to fl.1 hs;exact(⟨F.os,F.bare,u,k,t,F.old,F.thr,F.frf,F.unt,F.new,a0,fl⟩)
end
theorem AZ{M:Model}{A:Around}{E:SC}{s:Shared}{base:Heap}{l:ş}{e Z7:Addr}{cls a0:Value}{Q:Unit->Shared->Prop}(R:Heap.HeldW base l e cls a0 Z7 s.heap)
  (h:∀h',Heap.HeldW base l e cls a0 Z7 h'->s.heap.UpToSlots h'->Q () {s with heap:=h'}):wpAny M A (setFlight (.ref e)<|some Z7) Q E s:=by
 obtain⟨hkb,hen,hl,oe,vs,T,oT,ts,he,hcls,hd,h1,hnT,hTe,hT,hdT,h3⟩:=R;have hsz3:3<ts.size:=(Array.getElem?_eq_some_iff.mp h3).1;have other:∀b,b≠T->(s.heap.update T (Obj.mapFields (·.setIfInBounds 3 ((some Z7).elim Value.none fun f=>rawInt f)))).get? b=s.heap.get? b:=
  fun b hb=>TX _ _ (Ne.symm hb)
 have noRecord:∀b o,s.heap.get? b=some o->(∀vs,o.data≠.fields vs)->b≠T:=fun b o hb hnf q=>by
  rw[q,hT] at hb;injection hb with hb;subst hb;exact hnf ts hdT
 unfold setFlight;refine SA (Vc he hd h1 ?_);rw[if_pos (show(Value.ref T !=Value.none)=true from by simp)];refine wpAny_setField hT hdT hsz3 (h _ ⟨fun b o hbo=>(other b fun q=>by rw[q,hnT] at hbo;cases hbo).trans (hkb b o hbo),hen,
  hl.of_keeps fun b o hb hnf=>⟨o,(other b<|noRecord b o hb hnf).trans hb,rfl⟩,?_⟩ fun b o hb hnf=>⟨o.slots,(other b<|noRecord b o hb hnf).trans hb⟩)
 exact⟨oe,vs,T,_,_,(other e<|Ne.symm hTe).trans he,hcls,hd,h1,hnT,hTe,UA _ hT (Obj.isFreed_of_fields<|Obj.data_mapFields hdT _),Obj.data_mapFields hdT _,by simp[hsz3]⟩
theorem Qn{M:Model}{A:Around}{E:SC}{s:Shared}{base h:Heap}{env:Env}{outer:ş}{Z7 e:Addr}{cls:Value}{args:Ő}{Q:Unit->Shared->Prop}
  (hfr:A.frames=some (env::outer)) (hf:env.frame=some Z7) (hkb:base.StaysIn h) (hl:h.FunFrames base (env::outer)) (hx:Heap.MadeExcOf h s.heap e cls args)
  (hQ:∀h' a0,Heap.HeldW base (env::outer) e cls a0 Z7 h'->s.heap.UpToSlots h'->Q () {s with heap:=h'}):wpAny M A (noteFrame (.ref e) env) Q E s:=by
 obtain⟨t,he,htn,ht⟩:=hx.there;have fresh:∀b,h.get? b=none->base.get? b=none:=fun b hb=>by
  cases hq:base.get? b with
  |none=>rfl
  |some o'=>have:=hkb b o' hq;rw[hb] at this;cases this
 unfold noteFrame;simp only[hf];refine SA (Vc he rfl (show(#[Value.ref t,.none,.none,.none,.bool false,.none]:Array Value)[1]?=some Value.none from rfl) ?_);rw[if_neg (show ¬((Value.none !=Value.none)=true) from by decide)];refine wpAny_entryW (a0:=.ref t) hfr (hl.of_keeps fun b o hb _=>⟨o,hx.keeps b o hb,rfl⟩) hf he (fun b o hb=>hx.keeps b o<|hkb b o hb) (fresh e hx.new) rfl nofun rfl fun h' hN=>?_;obtain⟨k1,k2,k3,k4⟩:=hN;exact(hQ h' _ ⟨k1,fresh e hx.new,k2,k3⟩ k4)
def Lv(X:Cx):Prop:=X.stack=X.env::X.outer/\X.env.frame=some X.env.locals
def FlX(X:Cx)(E:St->XK)(e:Value)(s':Shared):Prop:=∃(a:Addr) (C:Value) (pins:SL) (L:St) (H H':Hp) (s:Shared),e=.ref a/\Inv X pins L H s/\E L C none H'/\
 ((H'=H/\∃(D:Addr) (vs:Ő) (h':Heap),C=.ref D/\s'={s with heap:=h'}/\Heap.MadeExcOf s.heap h' a C vs)\/(∃Z8,Flew X.prog X.w X.stack H H' s a C Z8 s')\/(∃Z8,FlewH X.prog X.w X.stack X.env.locals H H' s a C Z8 s'))
section
variable {X:Cx} {E:St->XK} {pins:SL} {L:St} {H H':Hp} {s s':Shared} {a:Addr} {C:Value} {Z8:Heap}
theorem RJ{M:Model}{A:Around}{E':SC}{D:Addr}{vs:Ő}{h':Heap}{Q:Unit->Shared->Prop}(lv:Lv X)(hA:A.frames=X.A.frames)(I:Inv X pins L H s)(hx:Heap.MadeExcOf s.heap h' a (.ref D) vs)
  (hQ:∀Z8 h2,FlewH X.prog X.w X.stack X.env.locals H H s a (.ref D) Z8 {s with heap:=h2}->Q () {s with heap:=h2}):wpAny M A (noteFrame (.ref a) X.env) Q E' {s with heap:=h'}:=by
 obtain⟨lv1,lv2⟩:=lv;have fs:∀b,b∈frs X.stack->H b=none:=I.stkFree;have inn:∀b o,s.heap.get? b=some o->b∉frs X.stack->(hideAll s.heap<|frs X.stack).get? b=some o:=fun b o e hb=>hideAll_get _ e hb;have hin:∀env∈X.stack,∀a,env.frame=some a->a∈frs X.stack:=fun env he a ha=>UU.mpr ⟨env,he,ha⟩;have nfr:∀b,H b≠none->b∉frs X.stack:=fun b n z=>n (fs b z);refine Qn (base:=hideAll s.heap (frs X.stack)) (env:=X.env) (outer:=X.outer) (by rw[hA,I.ok.frames,lv1]) lv2 (fun b o q=>of_hideAll _ q) (by rw[←lv1];exact funFrames_hide I.stack hin) hx fun h2 a0 fl ups=>hQ (hideAll s.heap<|frs X.stack) h2 ?_;have hB:=fl.1;have hkeep:∀b o,s.heap.get? b=some o->b∉frs X.stack->h2.get? b=some o:=fun b o e hb=>hB b o (inn b o e hb);have hslot:∀b o,s.heap.get? b=some o->b∈frs X.stack->∃sl,h2.get? b=some {o with slots:=sl}:=fun b o e hb=>by
  obtain⟨_,o',e2,d⟩:=I.stack.mem hb;rw[e] at e2;cases e2;obtain⟨sl',e3⟩:=ups b o (hx.keeps b o e) d;exact(⟨sl',e3⟩)
 refine⟨rfl,I.bare,⟨fun b o x n hb _=>hkeep b o x hb,fun b o x n hb _=>hslot b o x hb,fun b o x n _=>n,fun b o x _=>?_,fun _ _ z=>z,fun _ _ _ z=>z,fun _ ps z=>⟨#[],by simpa using z⟩⟩,fun b u eu=>?_,fun b o x n=>?_,fun b o x n hb=>inn b o x hb,fun b o x hb=>⟨o,inn b o x hb⟩,fs,?_,hx.new,a0,?_⟩
 .by_cases hb:b∈frs X.stack
  .obtain⟨l,e1⟩:=hslot b o x hb;exact⟨_,e1⟩
  .exact⟨o,hkeep b o x hb⟩
 .refine(I.hok b u eu).stay (fun c v hb q=>hkeep c v q<|nfr c ?_) (fun _ q=>q) fun _ _ q=>q;rcases hb with z|z
  .rw[z,eu];simp
  .rw[z];simp
 .cases eu:H b with
  |none=>exact absurd eu n
  |some u=>
   obtain⟨o1,e1⟩:=(I.hok b u eu).there;have e2:=inn b o1 e1 (nfr b n);have e3:=hB b o1 e2;rw[x] at e3;cases e3;exact(e2)
 .cases eu:H a with
  |none=>rfl
  |some u=>
   obtain⟨o1,e1⟩:=(I.hok a u eu).there;rw[hx.new] at e1;cases e1
 .rw[←lv1] at fl;exact fl
theorem zI{M:Model}{A:Around}{E':SC}{e:Value}{Q:Unit->Shared->Prop}(lv:Lv X)(hA:A.frames=X.A.frames)(h:FlX X E e s')
  (hQ:∀a C pins L H H' s Z8 s2,e=.ref a->Inv X pins L H s->E L C none H'->FlewH X.prog X.w X.stack X.env.locals H H' s a C Z8 s2->Q () s2):wpAny M A (noteFrame e X.env) Q E' s':=by
 obtain⟨a,C,pins,L,H,H',s,rfl,I,hE,h⟩:=h;rcases h with⟨rfl,D,vs,h',rfl,rfl,hx⟩|⟨Z8,F⟩|⟨Z8,F⟩
 .exact RJ lv hA I hx fun Z8 h2 F=>hQ _ _ _ _ _ _ _ _ _ rfl I hE F
 .obtain⟨a0,fl⟩:=F.fly;have fl':Heap.FlyingW Z8 (X.env::X.outer) a C a0 s'.heap:=by rw[←lv.1];exact fl
  refine wpAny_looks_onW (by rw[hA,I.ok.frames,lv.1]) lv.2 fl' fun h2 hh hs=>hQ _ _ _ _ _ _ _ _ _ rfl I hE (F.noted hs ⟨a0,by rw[lv.1];exact hh⟩)
 .obtain⟨a0,fl⟩:=F.fly;exact wpAny_noteFrame_againW lv.2 fl.2.2.2 (hQ _ _ _ _ _ _ _ _ _ rfl I hE F)
theorem QK(lv:Lv X):PassesOwn (model X.prog X.w) X.A X.env (FlX X E):=fun e s' h=>by
 refine zI lv rfl h fun a C pins L H H' s Z8 s2 he I hE F=>?_;subst he;obtain⟨a0,fl⟩:=F.fly;obtain⟨oe,vs,T,oT,ts,g1,_,g2,g3,_⟩:=id fl.2.2.2;show wpAny _ _ (do
  if(←field (.ref a) 1)==.none then unsupported "frame.own-activation:exception-without-traceback"
  setFlight (.ref a) X.env.frame) _ _ _
 refine SA (Vc g1 g2 g3 ?_);rw[if_neg (show ¬((Value.ref T==Value.none)=true) from by simp),lv.2];first
  |exact SA (SE<|AZ fl fun h2 hh hs=>⟨a,C,pins,L,H,H',s,rfl,I,hE,.inr<|.inr ⟨Z8,F.next hs ⟨a0,hh⟩⟩⟩)
  |exact AZ fl fun h2 hh hs=>⟨a,C,pins,L,H,H',s,rfl,I,hE,.inr<|.inr ⟨Z8,F.next hs ⟨a0,hh⟩⟩⟩
end
section
variable {P:Program} {w:World} {K:Frag} {mg:ő} {base:Heap} {N:Ŗ} {qual:Str} {scope:Scope} {f:Addr} {cd:Value} {A:Around} {outer:ş} {s:Shared} {H:Hp} {E:XK}
theorem Mb{e:Value}{s':Shared}(h:FlX (gk (CXr P w) P w K mg base N qual scope f cd A outer s H E) (fun _=>E) e s'):(gk (CXr P w) P w K mg base N qual scope f cd A outer s H E).xe e s':=by
 obtain⟨a,C,pins,L,H1,H',s1,rfl,I,hE,h⟩:=h;rcases h with⟨rfl,D,vs,h',rfl,rfl,hx⟩|⟨Z8,F⟩|⟨Z8,F⟩
 .exact Pw I hx hE
 .exact QN (E':=E) (fun _ _ _ z=>z) pins L H1 s1 _ s' I ⟨a,C,H',Z8,rfl,F,hE⟩
 .obtain⟨a0,fl⟩:=F.fly;show wpAny (model P w) (A.deeper<|envOfC qual scope s.heap.objs.size f cd) (leaving (envOfC qual scope s.heap.objs.size f cd)<|.ref a) _ _ _;unfold leaving;refine SA (wpAny_noteFrame_againW rfl fl.2.2.2 (wpAny_landsW fl fun h2 fl2 ups=>?_));have F2:=F.lands ups ⟨a0,fl2⟩;have I2:=Flew.inv (X:=gk (CXr P w) P w K mg base N qual scope f cd A outer s H E) F2 I;have out:∀b o,s.heap.get? b=some o->b∉frs outer->b∉frs (envOfC qual scope s.heap.objs.size f cd::outer):=fun b o e hb z=>by
   have z:b∈s.heap.objs.size::frs outer:=z;rcases S2.mp z with q|q
   .rw[q] at e;exact Ti _ (SI e)
   .exact hb q
  obtain⟨f1,f2,⟨_,_,f3⟩,f4⟩:=id fl2;refine⟨a,C,H',Z8,rfl,⟨I2.os,F2.bare,⟨fun b o x n hb _=>I2.base.keep b o x n hb (by simp[gk]),fun b o x n hb _=>I2.base.slot b o x n hb (by simp[gk]),fun b o x n _=>I2.base.free b o x n (by simp[gk]),fun b o x _=>I2.base.there b o x (by simp[gk]),I2.base.tups,I2.base.frzs,I2.base.tbls⟩,F2.hok,F2.trk,
   fun b o x n hb=>F2.old b o (I.base.keep b o x n hb<|by simp[gk]) (I.base.free b o x n<|by simp[gk]) (out b o x hb),fun b o x hb=>?_,I.ok.frf,F2.unt,?_,a0,f1,f2,f3,f4⟩,hE⟩
  .obtain⟨o1,e1⟩:=I.base.there b o x (by simp[gk]);exact F2.thr b o1 e1 (out b o x hb)
  .cases eo:s.heap.get? a with
   |none=>rfl
   |some o=>
    obtain⟨o1,e1⟩:=I.base.there a o eo (by simp[gk]);rw[F2.new] at e1;cases e1
end
abbrev Cx.fl(X:Cx)(E:St->XK):Cx:=X.wish (FlX X E)
abbrev yp:Ő:=[.type "ValueError",.type "Exception",.type "BaseException",.type "object"]
def jb(K:Frag)(C:Addr):Prop:=∃bm N nm q bs hdct sn sub ab col dd k0 k1 k2 k3 k5,
  K.lookup C=some (excClassObj nm q C N bs bm hdct sn sub ab col dd k0 k1 k2 k3 k5 "ValueError.__new__")/\tailIn K yp bm=true/\nsOkIn K N=true/\nsIn K N "__init__"=some none
theorem Qd{K:Frag}{h:Heap}{C:Addr}{G:Prop}(X:K.In h)(q:jb K C)
  (k:∀bm N nm q bs hdct sn sub ab col dd k0 k1 k2 k3 k5 mN,h.get? C=some (excClassObj nm q C N bs bm hdct sn sub ab col dd k0 k1 k2 k3 k5 "ValueError.__new__")->h.Ns N mN->mN "__init__"=none->OwnTail h yp bm->G):G:=by
 obtain⟨bm,N,nm,q,bs,hdct,sn,sub,ab,col,dd,k0,k1,k2,k3,k5,ho,ht,hok,hni⟩:=q;exact(k bm N nm q bs hdct sn sub ab col dd k0 k1 k2 k3 k5 _ (X _ _ ho) (.of_isNs<|isNs_of_in X hok) (nsMap_none_of_in X hok hni)<|tail_of_in X ht)
def RV{h h':Heap}{N:Addr}{m:ő}(hN:h.Ns N m)(b:∀b o,h.get? b=some o->h'.get? b=some o):h'.Ns N m:=by
 obtain⟨o,es,ep,ho,hd,hs,hf⟩:=hN;exact(⟨o,es,ep,b _ _ ho,hd,hs,hf⟩)
section
variable {X:Cx} {E:St->XK} {e:Expr} {te:TE} {np cpos pos:Pos} {x:Str} {C:Addr}
theorem zN(he:PE (X.fl E) e te)(hg:Gl (X.fl E) x)(hm:X.mg x=some (.ref C))(hC:jb X.K C)(hc:X.calm=true)(hd:(x==("__debug__":Str))=false:=by decide)
  (hs:starEach [e] X.env=[(false,eval e X.env)]:=by rfl):PS (X.fl E) (.Raise (some<|.Call (.Name x np) [e] [] cpos) none pos) (fun _ L H=>te L H fun _ H1=>E L (.ref C) none H1):=by
 intro pins s L H D I h;have kb:X.K.In X.base:=I.ok.mod.kin;refine Qd kb hC fun tl N nm q bs hdct sn sub ab col dd k0 k1 k2 k3 k5 mN hCo hN hni T=>?_;have hpl:(backTo cpos<|starEach [e] X.env).any (·.1)=false:=by rw[hs];rfl
 refine wpAny_Raise_call_subT (C:=C) (nm:=nm) (q:=q) (N:=N) (bs:=bs) (bm:=tl) (hdct:=hdct) (sn:=sn) (sub:=sub) (ab:=ab) (col:=col) (dd:=dd) (k0:=k0) (k1:=k1) (k2:=k2) (k3:=k3) (k5:=k5)
  PySem.F.excBase_ValueError (mN:=mN) (T.hasType PySem.F.excBase_ValueError.hasBase) (I.ok.hd hc) hpl hni (px I hg hm ⟨rfl,?_⟩ hd)
 show wpAny _ _ (evalArgs (.ref C) true (backTo cpos<|starEach [e] X.env) []) _ _ _;have hpa:PA (X.fl E) [e] (iI te jI):=gz he g8 (by show starEach [e] X.env=(false,eval e X.env)::starEach [] X.env;rw[hs];rfl);have hq:wpAny (model X.prog X.w) X.A (spliced<|backTo cpos<|starEach [e] X.env) (AP (X.fl E) pins L<|fun vs H1=>vs.length=1/\E L (.ref C) none H1) (FlX X E) s:=hpa cpos pins s L H (fun vs H1=>vs.length=1/\E L (.ref C) none H1) I (by
  unfold iI jI;have z:te L H (fun v H1=>E L (.ref C) none H1):=h;simpa using z)
 rw[hs] at hq⊢;refine Calls.evalArgs_plain (thn hq fun us s2 hm=>?_);obtain⟨vs,H2,I2,r,hl,hE⟩:=hm;have base:∀b o,X.base.get? b=some o->s2.heap.get? b=some o:=I2.bk;exact⟨rfl,by rw[←r.length,hl];decide,base _ _ hCo,RV hN base,T.keeps base,fun h' a hx=>⟨a,.ref C,pins,L,H2,H2,s2,rfl,I2.unwish,hE,.inl ⟨rfl,C,us,h',rfl,rfl,hx⟩⟩⟩
end
def DfX(P:Program)(w:World)(K:Frag)(mg:ő)(base:Heap)(k:Nat)(x:Str)(ps:Ŗ)(sp:Sp):Prop:=
 ∃f fd,FnOk P w K mg base (CXr P w) k f fd ps sp/\Binds K fd ps []/\keepIn K (.ref f)=true/\mg x=some (.ref f)
section
variable {X:Cx} {E:St->XK} {k:Nat} {x:Str} {ps:Ŗ} {sp:Sp} {e:Expr} {es:Ś} {t:TA} {p pos:Pos} {f C:Addr} {fd:FuncData}
theorem Rj(F:FnOk X.prog X.w X.K X.mg X.base (CXr X.prog X.w) k f fd ps sp)(hr:Room k X.A)(hb:Binds X.K fd ps [])
  (I:Inv (X.fl E) pins L H s) (r:Vals vs us) (h:sp vs H Q (E L)):wpAny (model X.prog X.w) X.A (call (.ref f) us) (EP (X.fl E) pins L Q) (FlX X E) s:=by
 have hl:us.length=ps.length:=by rw[←r.length];exact F.len _ _ _ _ h
 have hb':=hb s us I.kIn (by simpa using hl);simp only[TM] at hb';refine Vq (UL (F.run X.A X.stack s H ⟨us,[]⟩ us vs Q (E L) hr I.env0 hb' r h) fun r s' hq=>?_);cases r with
 |error e=>
  obtain⟨a,C,H',Z8,rfl,F,hE⟩:=hq;exact⟨a,C,pins,L,H,H',s,rfl,I.unwish,hE,.inr<|.inl ⟨Z8,F⟩⟩
 |ok fl=>
  cases fl with
  |ret u=>exact I.after hq
  |next=>exact False.elim hq
  |brk=>exact False.elim hq
  |cont=>exact False.elim hq
theorem NW(D:DfX X.prog X.w X.K X.mg X.base k x ps sp)(hr:Room k X.A)(ha:PA (X.fl E) (e::es) t)(hg:Gl X x:=by rfl)(hdb:(x==("__debug__":Str))=false:=by decide)
  (he:starEach (e::es) X.env=(false,eval e X.env)::starEach es X.env:=by rfl) (hpl:(backTo pos<|starEach es X.env).any (·.1)=false:=by rfl):
  PE (X.fl E) (.Call (.Name x p) (e::es) [] pos) (fun L H Q=>t L H fun vs H1=>sp vs H1 Q<|E L):=by
 obtain⟨f,fd,F,hb,hk,hm⟩:=D;intro pins s L H Q I h;refine Uj (px I hg hm ?_ hdb);refine UW (h₀:=X.base) I.ok.mod.kin hk (thn (ha pos pins s L H _ I h) fun us s1 ⟨vs,H1,I1,r,q⟩=>⟨I1.kIn,?_⟩) he hpl;exact Rj F hr hb I1 r q
end
theorem Fun.okX{P:Program}{w:World}{K:Frag}{mg:ő}{base:Heap}{x qual:Str}{st:Stmt}{f:Addr}{fd:FuncData}{N ps:Ŗ}{k:Nat}{sp:Sp}(F:Fun K x qual st f fd)(S:FnScope N ps (fP st))(len:∀vs H Q E,sp vs H Q E->vs.length=ps.length)
  (hbody:∀(cdv:Value) (A:Around) (outer:ş) (s:Shared) (H:Hp) (vs:Ř) (Q:VK) (E:XK),Room k (A.deeper<|envOfC qual (fP st) s.heap.objs.size f cdv)->sp vs H Q E->
   ∃t,PSs ((gk (CXr P w) P w K mg base N qual (fP st) f cdv A outer s H E).fl fun _=>E) (jm st) t/\t {nx:=fun _ H'=>Q .non H',rt:=Q} (lH N vs) H):FnOk P w K mg base (CXr P w) (k+1) f fd ps sp:=by
 obtain⟨oc,od,kV,doc,pm,an,cdv,ct,osl,rfl,lk,hcd⟩:=F.ex;refine(zR lk hcd S len fun A outer s H vs Q E hr hsp=>?_);obtain⟨t,h,q⟩:=hbody cdv A outer s H vs Q E hr hsp;refine(⟨t,fun pins s L H D I hw=>?_,q⟩);exact SH (h pins s L H D (I.wish _) hw) (fun _ _ z=>z.unwish) fun e s' z=>Mb z
abbrev Cx.mkd(X:Cx)(e:Addr):Cx:={X with A:=X.A.mark (some<|.ref e),calm:=false,xe:=fun _ _=>False}
def Inv.mkd{X:Cx}{pins:SL}{L:St}{H:Hp}{s:Shared}(I:Inv X pins L H s)(e:Addr):Inv (X.mkd e) pins L H s:=
 ⟨⟨I.ok.mod,I.ok.kind,I.ok.glob,I.ok.blt,I.ok.above,I.ok.inj,I.ok.has,I.ok.cab,(fun z=>nomatch z),I.ok.frames,I.ok.stk,I.ok.exf,I.ok.bs,I.ok.bsz,I.ok.noex,I.ok.exfs,I.ok.funs,I.ok.frf⟩,I.os,I.bare,I.base,I.loc,I.cell,I.free,I.freeC,I.pin,I.hok,I.len⟩
def Inv.unmkd{X:Cx}{pins:SL}{L:St}{H:Hp}{s:Shared}{e:Addr}(ok:X.Ok)(I:Inv (X.mkd e) pins L H s):Inv X pins L H s:=
 ⟨ok,I.os,I.bare,I.base,I.loc,I.cell,I.free,I.freeC,I.pin,I.hok,I.len⟩
def Inv.pn{X:Cx}{pins qs:SL}{L:St}{H:Hp}{s:Shared}(I:Inv X (pins++qs) L H s):Inv {X with pn:=X.pn++pins} qs L H s:=
 ⟨⟨I.ok.mod,I.ok.kind,I.ok.glob,I.ok.blt,I.ok.above,I.ok.inj,I.ok.has,I.ok.cab,I.ok.hd,I.ok.frames,I.ok.stk,I.ok.exf,I.ok.bs,I.ok.bsz,I.ok.noex,I.ok.exfs,I.ok.funs,I.ok.frf⟩,I.os,I.bare,I.base,I.loc,I.cell,I.free,I.freeC,fun p hp=>I.pin p (by
  show p∈X.pn++(pins++qs)
  have hp:p∈(X.pn++pins)++qs:=hp;rwa[UC] at hp),I.hok,I.len⟩
def Inv.unpn{X:Cx}{pins qs:SL}{L:St}{H:Hp}{s:Shared}(I:Inv {X with pn:=X.pn++pins} qs L H s):Inv X (pins++qs) L H s:=
 ⟨⟨I.ok.mod,I.ok.kind,I.ok.glob,I.ok.blt,I.ok.above,I.ok.inj,I.ok.has,I.ok.cab,I.ok.hd,I.ok.frames,I.ok.stk,I.ok.exf,I.ok.bs,I.ok.bsz,I.ok.noex,I.ok.exfs,I.ok.funs,I.ok.frf⟩,I.os,I.bare,I.base,I.loc,I.cell,I.free,I.freeC,fun p hp=>I.pin p (by
  show p∈(X.pn++pins)++qs;have hp:p∈X.pn++(pins++qs):=hp;rwa[←UC] at hp),I.hok,I.len⟩
def Inv.fewer{X:Cx}{pins qs:SL}{L:St}{H:Hp}{s:Shared}(I:Inv X (pins++qs) L H s):Inv X pins L H s:=
 ⟨I.ok,I.os,I.bare,I.base,I.loc,I.cell,I.free,I.freeC,fun p hp=>I.pin p (by
  show p∈X.pn++(pins++qs)
  have hp:p∈X.pn++pins:=hp;simp only[Tb] at hp⊢;rcases hp with h|h
  .exact .inl h
  .exact .inr (.inl h)),I.hok,I.len⟩
section
variable {P:Program} {w:World} {outer:ş} {H H':Hp} {s s':Shared} {e D:Addr} {Z8:Heap}
theorem Flew.track(F:Flew P w outer H H' s e (.ref D) Z8 s'):Un (frs outer) [] H (upd H' e<|i4 e D) s.heap s'.heap/\HOk P w (upd H' e<|i4 e D) s'.heap:=by
 obtain⟨a0,fl⟩:=F.fly;obtain⟨ob,h1,h2⟩:=fl.there;have ne:∀b o,H' b=some o->b≠e:=fun b o q z=>by rw[z,F.unt] at q;cases q
 refine(⟨⟨F.un.keep,F.un.slot,fun b o x n hx=>?_,F.un.there,fun b xs q=>?_,fun b o u q=>?_,fun b ps q=>?_⟩,fun b o q=>?_⟩)
 .have:b≠e:=fun z=>by rw[z,F.new] at x;cases x
  rw[fR this];exact F.un.free b o x n hx
 .have z:=F.un.tups b xs q;rw[fR (ne _ _ z)];exact z
 .have z:=F.un.frzs b o u q;rw[fR (ne _ _ z)];exact z
 .obtain⟨m,z⟩:=F.un.tbls b ps q;exact⟨m,by rw[fR (ne _ _ z)];exact z⟩
 .by_cases hb:b=e
  .subst hb;rw[gH] at q;cases q;refine⟨⟨ob,h1,h2⟩,⟨ob,h1⟩,?_⟩;rintro g1 g2 ⟨o,z1,z2⟩ k;exact⟨o,k o z1,z2⟩
  .rw[fR hb] at q;refine(F.hok b o q).stay (fun _ _ _ z=>z) (fun c z=>?_) fun c xs z=>?_
   .rw[fR (ne _ _ z)];exact z
   .rw[fR (ne _ _ z)];exact z
end
theorem E3{M:Model}{A:Around}{E:SC}{X:Cx}{pins:SL}{L:St}{H:Hp}{s:Shared}{i:Nat}{n:Str}{pos:Pos}{Q:Unit->Shared->Prop}(I:Inv X pins L H s)(hN:X.N.Nodup)(hi:X.N[i]?=some n)(hx:X.env.scope.names.lookup n=some .local)
  (h:∀s',Inv X pins (L.set i none) H s'->Q () s'):wpAny M A (do bindName X.env n .none;unbindBehindTheSuite X.env n pos) Q E s:=by
 obtain⟨m,hn,hl⟩:=id I.loc;have hcls:(X.env.scope.kind==.class||(X.env.scope.kind==.module&&X.env.locals !=X.env.globals))=false:=by rw[I.ok.kind];rfl
 have cne:=I.cne;refine(wpAny_nameGoes_keeps hx hn hcls fun h' v hn' hs=>?_);obtain⟨oL,_,_,hoL,_⟩:=id hn;have tracked:HOk X.prog X.w H h':=fun b ob e=>by
  refine(I.hok b ob e).stay (fun c w' hc q=>(hs.2 c ?_).trans q) (fun _ q=>q) fun _ _ q=>q;rintro rfl;rcases hc with rfl|hc
  .rw[I.free] at e;cases e
  .rw[I.free] at hc;cases hc
 refine h _ ⟨I.ok,I.os,I.bare,⟨fun b o e n hb hx=>?_,fun b o e n hb hx=>?_,I.base.free,fun b o e hx=>?_,I.base.tups,I.base.frzs,I.base.tbls⟩,⟨_,hn',fun j y v' e1 e2 e3=>?_⟩,fun y c e=>?_,I.free,I.freeC,fun p hp=>?_,tracked,by simpa using I.len⟩
 .exact(hs.2 b<|SY<|SU (SI e) I.ok.above).trans (I.base.keep b o e n hb hx)
 .obtain⟨sl,e1⟩:=I.base.slot b o e n hb hx;exact⟨sl,(hs.2 b<|SY<|SU (SI e) I.ok.above).trans e1⟩
 .obtain⟨o',e1⟩:=I.base.there b o e hx;exact⟨o',(hs.2 b<|SY<|SU (SI e) I.ok.above).trans e1⟩
 .by_cases hj:j=i
  .subst hj;have:j<L.length:=by
    have:=(SG.mp e2).1;simpa using this
   rw[Uz this] at e2;cases e2
  .rw[S4 (Ne.symm hj)] at e2;obtain⟨u,ru,lk⟩:=hl j y v' e1 e2 e3;refine(⟨u,ru,?_⟩);have hyn:y≠n:=fun z=>hj ((List.getElem?_inj (SG.mp e1).1 hN).mp (by rw[e1,hi,z]));rcases lk with⟨k1,k2⟩|⟨k1,c,k2,k3⟩
   .exact .inl ⟨k1,by show(if y=n then v else m y)=some u;rw[if_neg hyn];exact k2⟩
   .refine .inr ⟨k1,c,k2,?_⟩;obtain⟨oc,ho,hd⟩:=k3;exact(⟨oc,(hs.2 c<|cne _ _ k2).trans ho,hd⟩)
 .obtain⟨w',oc,ho,hd⟩:=I.cell y c e;exact⟨w',oc,(hs.2 c<|cne _ _ e).trans ho,hd⟩
 .obtain⟨p1,p2,p3,p4,p5⟩:=I.pin p hp;exact⟨(hs.2 _ p3).trans p1,p2,p3,p4,p5⟩
def Ends.gone(D:Ends)(i:Nat):Ends:={nx:=fun L H=>D.nx (L.set i none) H,rt:=D.rt,bk:=fun L H=>D.bk (L.set i none) H,ct:=fun L H=>D.ct (L.set i none) H}
section
variable {X:Cx} {body suite:Ũ} {Zk:Stmt} {p hp pos:Pos} {n y:Str} {i:Nat} {C0:Addr} {tb:(St->XK)->TS} {ts:TS}
theorem R7(lv:Lv X)(hN:X.N.Nodup)(hi:X.N[i]?=some n)(hl:X.env.scope.names.lookup n=some .local)(hg:Gl X y)(hm:X.mg y=some (.ref C0))
  (hb:∀pn E,PSs (Cx.fl {X with pn:=pn} E) body<|tb E) (hs:∀e,PSs (X.mkd e) (Zk::suite) ts) (hd:(y==("__debug__":Str))=false:=by decide):
  PS X (.Try body [.ExceptHandler (some<|.Name y p) (some n) (Zk::suite) hp] [] [] pos)
   (fun D L H=>tb (fun Z0 C _ H'=>∃E1,C=.ref E1/\exmOne X.K (.ref E1) (.ref C0)=some true/\∀a,H' a=none->ts (D.gone i) (Z0.set i<|some<|.ref a) (upd H' a<|i4 a E1)) D L H):=by
 intro pins s L H D I h;have I0:Inv {X with pn:=X.pn++pins} [] L H s:=Inv.pn (qs:=[]) (by simpa using I);have lv':Lv {X with pn:=X.pn++pins}:=lv;have key:∃E0:St->XK,tb E0 D L H/\∀Z0 C d H',E0 Z0 C d H'->∃E1,C=.ref E1/\exmOne X.K (.ref E1) (.ref C0)=some true/\∀a,H' a=none->ts (D.gone i) (Z0.set i<|some<|.ref a) (upd H' a<|i4 a E1):=⟨_,h,fun _ _ _ _ z=>z⟩
 obtain⟨E0,h,hE0⟩:=key;refine(wpAny_Try_except<|SH (hb _ _ [] s L H D (I0.wish _) h) (fun f s1 q=>?_) fun e s1 q=>?_)
 .have mZ:∀{Z0:St} {H':Hp},Inv (Cx.fl {X with pn:=X.pn++pins} E0) [] Z0 H' s1->Inv X pins Z0 H' s1:=fun Z6=>Inv.fewer (qs:=[]) (Inv.unpn Z6.unwish);cases f with
  |next=>
   obtain⟨Z0,H',Z6,z⟩:=q;exact US ⟨Z0,H',mZ Z6,z⟩
  |brk=>obtain⟨Z0,H',Z6,z⟩:=q;exact⟨Z0,H',mZ Z6,z⟩
  |cont=>obtain⟨Z0,H',Z6,z⟩:=q;exact⟨Z0,H',mZ Z6,z⟩
  |ret u=>obtain⟨v,Z0,H',Z6,r,z⟩:=q;exact⟨v,Z0,H',mZ Z6,r,z⟩
 .refine zI (X:={X with pn:=X.pn++pins}) (E:=E0) lv' rfl q fun a C qs ZN H1 H' s0 Z8 s2 he Z6 hE F=>?_;subst he;obtain⟨E1,rfl,hx,hts⟩:=hE0 _ _ _ _ hE;obtain⟨a0,fl⟩:=F.fly;refine(wpAny_landsW fl fun h3 fl3 ups3=>?_);have F3:=F.lands ups3 ⟨a0,fl3⟩;have J0:Inv X (pins++qs) ZN H1 s0:=Inv.unpn Z6;have I3:Inv X (pins++qs) ZN H' {s2 with heap:=h3}:=Flew.inv (X:=X) F3 J0;have LT:∀{M:Model} {h:Heap},(∃o,h.get? a=some o/\o.cls=.ref E1)->Looks M h (typeOf<|.ref a) (.ref E1):=fun{M h} ⟨o,z1,z2⟩=>z2▸(Looks.ld z1).andThen .now;refine wpAny_handleBy_cons (codeAny_handlers_test ?_) (by intro q;cases q);refine px (X:=X.mkd a) (I3.mkd a) hg hm ?_ hd;have hth:∃o,h3.get? a=some o/\o.cls=.ref E1:=fl3.there;refine(exm_one (I3.kIn) (LT hth) hx).at ?_;refine codeAny_handlers_suite_as ?_;refine lands_againW fl3 fun h4 fl4 ups4=>?_;have F4:=F3.next ups4 ⟨a0,fl4⟩;obtain⟨un4,hok4⟩:=F4.track;have I4:Inv X (pins++qs) ZN (upd H' a<|i4 a E1) {s2 with heap:=h4}:=J0.call' (ch:=[]) F4.os un4 hok4 F4.bare fun _ z=>nomatch z;refine(sL (X:=X.mkd a) (v:=.ref a) (i:=i) (I4.mkd a) hN hi (.inl hl) rfl (fun s5 I5=>?_) (.inr hl));refine SH (hs a (pins++qs) s5 _ _ (D.gone i) I5<|hts a F4.unt) (fun f s6 z=>?_) fun _ _ z=>False.elim z;have fin:∀{Z0:St} {H'':Hp} {R:Shared->Prop},Inv (X.mkd a) (pins++qs) Z0 H'' s6->(∀s7,Inv X pins (Z0.set i none) H'' s7->R s7)->wpAny (model X.prog X.w) X.A (do bindName X.env n .none;unbindBehindTheSuite X.env n hp) (fun _ s7=>R s7) X.xe s6:=fun{Z0 H'' R} K6 k=>
   E3 (X:=X) (Inv.unmkd I.ok K6) hN hi hl fun s7 I7=>k s7 (Inv.fewer I7)
  cases f with
  |next=>obtain⟨Z0,H'',J6,z⟩:=z;exact fin J6 fun s7 I7=>⟨_,_,I7,z⟩
  |brk=>obtain⟨Z0,H'',J6,z⟩:=z;exact fin J6 fun s7 I7=>⟨_,_,I7,z⟩
  |cont=>obtain⟨Z0,H'',J6,z⟩:=z;exact fin J6 fun s7 I7=>⟨_,_,I7,z⟩
  |ret u=>obtain⟨v,Z0,H'',J6,r,z⟩:=z;exact fin J6 fun s7 I7=>⟨v,_,_,I7,r,z⟩
end
end L2
namespace L3
open PySem PySem.Spec L2
open PyProof.Rows (envOfC)
inductive Rs (J:Type) where
 |ok (a:J)|ex (C:Addr)
abbrev EX:=G->M->Option (Rs D×M)
abbrev BX:=G->M->Option (Rs Bool×M)
abbrev LX:=G->M->Option (Rs ŗ×M)
abbrev FX:=ŗ->M->Option (Rs D×M)
inductive OutX where
 |nx|bk|ct|rt (d:D)|ex (C:Addr)
abbrev SX:=G->M->Option (OutX×G×M)
section
variable (K:Frag) (E:St->XK)
def BU(E:XK)(Q:VK)(W':Wd):Rs D->Prop
 | .ok d=>∀v,DR K W' d v->Q v W'.H
 | .ex C=>E (.ref C) none W'.H
def vg(E:XK)(Q:Bool->Hp->Prop)(W':Wd):Rs Bool->Prop
 | .ok b=>Q b W'.H
 | .ex C=>E (.ref C) none W'.H
def GK(E:XK)(Q:Ř->Hp->Prop)(W':Wd):Rs ŗ->Prop
 | .ok ds=>∀vs,DRs K W' ds vs->Q vs W'.H
 | .ex C=>E (.ref C) none W'.H
def Qw(D:Ends)(W':Wd)(Z0:St):OutX->Prop
 | .nx=>D.nx Z0 W'.H
 | .bk=>D.bk Z0 W'.H
 | .ct=>D.ct Z0 W'.H
 | .rt d=>∀v,DR K W' d v->D.rt v W'.H
 | .ex C=>E Z0 (.ref C) none W'.H
def tX(ev:EX):TE:=fun L H Q=>∃(W:Wd) (B:G) (r:Rs D) (Z5:M),W.H=H/\Ok K W/\EnvR K W B L/\ev B W.O=some (r,Z5)/\∀W',W'.O=Z5->Ok K W'->Step W W'->BU K (E L) Q W' r
def tXB(ev:BX):TT:=fun L H Q=>∃(W:Wd) (B:G) (r:Rs Bool) (Z5:M),W.H=H/\Ok K W/\EnvR K W B L/\ev B W.O=some (r,Z5)/\∀W',W'.O=Z5->Ok K W'->Step W W'->vg (E L) Q W' r
def tXL(ev:LX):TA:=fun L H Q=>∃(W:Wd) (B:G) (r:Rs ŗ) (Z5:M),W.H=H/\Ok K W/\EnvR K W B L/\ev B W.O=some (r,Z5)/\∀W',W'.O=Z5->Ok K W'->Step W W'->GK K (E L) Q W' r
def tXS(es:SX):TS:=fun D L H=>∃(W:Wd) (B:G) (out:OutX) (ZX:G) (Z5:M),W.H=H/\Ok K W/\EnvR K W B L/\es B W.O=some (out,ZX,Z5)/\∀W' Z0,W'.O=Z5->Ok K W'->Step W W'->EnvR K W' ZX Z0->Qw K E D W' Z0 out
end
def upB(ev:BV):BX:=fun B O=>(ev B O).bind fun p=>some (.ok p.1,p.2)
def upL(ev:LV):LX:=fun B O=>(ev B O).bind fun p=>some (.ok p.1,p.2)
def upO:Out->OutX
 | .nx=>.nx
 | .bk=>.bk
 | .ct=>.ct
 | .rt d=>.rt d
def upS(es:SV):SX:=fun B O=>(es B O).bind fun o=>some (upO o.1,o.2)
def upF(f:Fr):FX:=fun ds O=>(f ds O).bind fun p=>some (.ok p.1,p.2)
def EJ{X:Cx}{st:Stmt}{t:TS}(h:PS X.nox st t):PS X st t:=fun pins s L H D I hw=>
 SH (h pins s L H D (I.wish _) hw) (fun _ _ q=>q.unwish) fun _ _ z=>False.elim z
def GA{X:Cx}{es:Ś}{t:TA}(h:PA X.nox es t):PA X es t:=fun pos pins s L H Q I hw=>
 SH (h pos pins s L H Q (I.wish _) hw) (fun _ _ ⟨v,H',I',r,q⟩=>⟨v,H',I'.unwish,r,q⟩) fun _ _ z=>False.elim z
def BT{X:Cx}{tg:Expr}{t:TG}(h:PG X.nox tg t):PG X tg t:=fun pins s L H v u Q I r hw=>
 SH (h pins s L H v u Q (I.wish _) r hw) (fun _ _ ⟨Z0,H',I',q⟩=>⟨Z0,H',I'.unwish,q⟩) fun _ _ z=>False.elim z
section
variable {X:Cx} {E:St->XK} {K:Frag} {e:Expr} {es:Ś} {st:Stmt} {pos p:Pos} {ev:EV} {bv:BV} {lv:LV} {sv:SV}
theorem Iu:∀L H Q,tXB K E (upB bv) L H Q->tDB K bv L H Q:=fun L H Q h=>by
 refine el4 h fun W B r Z5 eH ok en e q=>?_;subst eH;refine fF e fun p e1 e=>?_;cases e;exact⟨W,B,p.1,p.2,rfl,ok,en,e1,fun W' h1 h2 h3=>q W' h1 h2 h3⟩
theorem F1:∀L H Q,tXL K E (upL lv) L H Q->tDL K lv L H Q:=fun L H Q h=>by
 refine el4 h fun W B r Z5 eH ok en e q=>?_;subst eH;refine fF e fun p e1 e=>?_;cases e;exact⟨W,B,p.1,p.2,rfl,ok,en,e1,fun v W' h1 h2 h3 h4=>q W' h1 h2 h3 v h4⟩
theorem yy:∀D L H,tXS K E (upS sv) D L H->tDS K sv D L H:=fun D L H h=>by
 refine el5 h fun W B o ZX Z5 eH ok en e q=>?_;subst eH;obtain⟨⟨o1,ZY,Z4⟩,e1,e⟩:=bnd e;cases e;refine(⟨W,B,o1,_,_,rfl,ok,en,e1,fun W' Z0 h1 h2 h3 h4=>?_⟩);have:=q W' Z0 h1 h2 h3 h4;cases o1<;>exact this
theorem kz(h:PT X.nox e (tDB K bv)):PT X e (tXB K E<|upB bv):=l9 h.nox Iu
theorem ic(h:PA X.nox es (tDL K lv)):PA X es (tXL K E<|upL lv):=sq (GA h) F1
theorem Eh(h:PS X.nox st (tDS K sv)):PS X st (tXS K E<|upS sv):=hX (EJ h) yy
def sE(ea:EX)(el:LX):LX:=fun B O=>(ea B O).bind fun p=>match p.1 with
 | .ok d=>(el B p.2).bind fun q=>match q.1 with
  | .ok ds=>some (.ok (d::ds),q.2)
  | .ex C=>some (.ex C,q.2)
 | .ex C=>some (.ex C,p.2)
theorem NS(ha:PE X e (tX K E ea))(hr:PA X es (tXL K E el))(hs:starEach (e::es) X.env=(false,eval e X.env)::starEach es X.env:=by rfl):PA X (e::es) (tXL K E<|sE ea el):=sq (gz ha hr hs) fun L H Q h=>by
 refine el4 h fun W B r Z5 eH ok en e q=>?_;subst eH;obtain⟨⟨p1,p2⟩,e1,e⟩:=bnd e;refine(⟨W,B,p1,p2,rfl,ok,en,e1,fun W1 Z2 ok1 s1=>?_⟩);cases p1 with
 |ex C=>cases e;exact q W1 Z2 ok1 s1
 |ok d=>
  intro x rx;obtain⟨⟨q1,q2⟩,e2,e⟩:=bnd e;refine⟨W1,B,q1,q2,rfl,ok1,en.step ok s1,by rw[Z2];exact e2,fun W2 ZW ok2 s2=>?_⟩;cases q1 with
  |ex C=>cases e;exact q W2 ZW ok2 (s1.trans s2)
  |ok ds=>
   cases e;exact fun vs rvs=>q W2 ZW ok2 (s1.trans s2) (x::vs) (.cons (rx.step ok1 s2) rvs)
def spX(K:Frag)(f:FX):Sp:=fun vs H Q E=>∃(W:Wd) (ds:ŗ) (r:Rs D) (Z5:M),W.H=H/\Ok K W/\DRs K W ds vs/\f ds W.O=some (r,Z5)/\∀W',W'.O=Z5->Ok K W'->Step W W'->BU K E Q W' r
def vLX(f:FX)(el:LX):EX:=fun B O=>(el B O).bind fun p=>match p.1 with
 | .ok ds=>f ds p.2
 | .ex C=>some (.ex C,p.2)
theorem DE{f:FX}{el:LX}{r:Ř->Hp->VK->XK->Prop}(ra:∀vs H Q E,spX K f vs H Q E->r vs H Q E):∀L H Q,tX K E (vLX f el) L H Q->tXL K E el L H fun vs H1=>r vs H1 Q (E L):=fun L H Q h=>by
 refine el4 h fun W B r Z5 eH ok en e q=>?_;subst eH;obtain⟨⟨p1,p2⟩,e1,e⟩:=bnd e;refine(⟨W,B,p1,p2,rfl,ok,en,e1,fun W1 Z2 ok1 s1=>?_⟩);cases p1 with
 |ex C=>cases e;exact q W1 Z2 ok1 s1
 |ok ds=>exact fun vs rv=>ra _ _ _ _ ⟨W1,ds,r,Z5,rfl,ok1,rv,by rw[Z2];exact e,fun W2 ZW ok2 s2=>q W2 ZW ok2<|s1.trans s2⟩
theorem ij(D:DfX X.prog X.w X.K X.mg X.base k x ps (spX K f))(hr:Room k X.A)(ha:PA (X.fl E) (e::es) (tXL K E el))(hg:Gl X x:=by rfl)(hdb:(x==("__debug__":Str))=false:=by decide)
  (he:starEach (e::es) X.env=(false,eval e X.env)::starEach es X.env:=by rfl) (hpl:(backTo pos<|starEach es X.env).any (·.1)=false:=by rfl):PE (X.fl E) (.Call (.Name x p) (e::es) [] pos) (tX K E<|vLX f el):=
 fZ (NW D hr ha hg hdb he hpl) (DE fun _ _ _ _ z=>z)
theorem Qg:∀vs H Q E,spX K (upF f) vs H Q E->spM K f vs H Q E0:=fun vs H Q E h=>by
 obtain⟨W,ds,r,Z5,h1,h2,h3,e,q⟩:=h;obtain⟨⟨d,Z4⟩,e1,e⟩:=bnd e;cases e;exact(⟨W,ds,d,Z4,h1,h2,h3,e1,fun v W' a b c d=>q W' a b c v d⟩)
theorem Nx(D:Df X.prog X.w X.K X.mg X.base k x ps (spM K f))(hr:Room k X.A)(ha:PA X (e::es) (tXL K E el))(hg:Gl X x:=by rfl)(hdb:(x==("__debug__":Str))=false:=by decide)
  (he:starEach (e::es) X.env=(false,eval e X.env)::starEach es X.env:=by rfl) (hpl:(backTo pos<|starEach es X.env).any (·.1)=false:=by rfl):PE X (.Call (.Name x p) (e::es) [] pos) (tX K E<|vLX (upF f) el):=
 fZ (CG D hr ha hg hdb he hpl) (DE (r:=fun vs H Q _=>spM K f vs H Q E0) Qg)
def bTX(ev:EX):BX:=fun B O=>(ev B O).bind fun p=>match p.1 with
 | .ok (.bl b)=>some (.ok b,p.2)
 | .ok _=>none
 | .ex C=>some (.ex C,p.2)
theorem JE{ev:EX}(h:PE X e (tX K E ev))(he:∀whole,isTrue e X.env whole=(do let v ←whole;standAt e.pos;holding [v] (truthy v)):=by intro _;rfl):PT X e (tXB K E<|bTX ev):=l9 (Jy h he) fun L H Q h=>by
 refine el4 h fun W B r Z5 eH ok en e q=>?_;subst eH;obtain⟨⟨p1,p2⟩,e1,e⟩:=bnd e;refine(⟨W,B,p1,p2,rfl,ok,en,e1,fun W1 Z2 ok1 s1=>?_⟩);cases p1 with
 |ex C=>cases e;exact q W1 Z2 ok1 s1
 |ok d=>
  intro v rv;cases d with
  |bl b=>cases e;cases rv;exact⟨b,rfl,q W1 Z2 ok1 s1⟩
  |_=>cases e
def sQ(t:BX):BX:=fun B O=>(t B O).bind fun p=>match p.1 with
 | .ok b=>some (.ok (!b),p.2)
 | .ex C=>some (.ex C,p.2)
theorem Mw(h:PT X e (tXB K E bx)):PT X (.UnaryOp .Not e pos) (tXB K E<|sQ bx):=l9 (zj h) fun L H Q h=>by
 refine el4 h fun W B r Z5 eH ok en e q=>?_;subst eH;obtain⟨⟨p1,p2⟩,e1,e⟩:=bnd e;refine(⟨W,B,p1,p2,rfl,ok,en,e1,fun W1 Z2 ok1 s1=>?_⟩);cases p1 with
 |ex C=>cases e;exact q W1 Z2 ok1 s1
 |ok b=>cases e;exact q W1 Z2 ok1 s1
end
open PyProof.Rows (envOfC)
section
variable {X:Cx} {E:St->XK} {K:Frag} {e:Expr} {st:Stmt} {fV:Ũ} {pos p:Pos} {sa sb:SX} {ex:EX}
def gl(a b:SX):SX:=fun B O=>(a B O).bind fun o=>match o.1 with
 | .nx=>b o.2.1 o.2.2
 |x=>some (x,o.2)
theorem mO:PSs X [] (tXS K E<|upS sNx):=qu gC yy
theorem gY(h1:PS X st (tXS K E sa)):PSs X [st] (tXS K E sa):=CD h1
theorem jf(h1:PS X st (tXS K E sa))(h2:PSs X fV (tXS K E sb)):PSs X (st::fV) (tXS K E<|gl sa sb):=qu (C4 h1 h2) fun D L H h=>by
 refine el5 h fun W B o ZX Z5 eH ok en e q=>?_;subst eH;obtain⟨⟨o1,ZY,Z4⟩,e1,e⟩:=bnd e;refine(⟨W,B,o1,ZY,Z4,rfl,ok,en,e1,fun W1 ZN Z2 ok1 s1 en1=>?_⟩);cases o1 with
 |nx=>exact⟨W1,ZY,o,ZX,Z5,rfl,ok1,en1,by rw[Z2];exact e,fun W2 ZU ZW ok2 s2 en2=>q W2 ZU ZW ok2 (s1.trans s2) en2⟩
 |bk=>cases e;exact q W1 ZN Z2 ok1 s1 en1
 |ct=>cases e;exact q W1 ZN Z2 ok1 s1 en1
 |rt d=>cases e;exact q W1 ZN Z2 ok1 s1 en1
 |ex C=>cases e;exact q W1 ZN Z2 ok1 s1 en1
def iV(ea:EX):SX:=fun B O=>(ea B O).bind fun p=>match p.1 with
 | .ok _=>some (.nx,B,p.2)
 | .ex C=>some (.ex C,B,p.2)
theorem jX(he:PE X e (tX K E ex))(hs:swapsWith e none pos.line X.env=pure false:=by rfl):PS X (.Expr e pos) (tXS K E<|iV ex):=hX (Dq he hs) fun D L H h=>by
 refine el5 h fun W B o ZX Z5 eH ok en e q=>?_;subst eH;obtain⟨⟨p1,p2⟩,e1,e⟩:=bnd e;refine(⟨W,B,p1,p2,rfl,ok,en,e1,fun W1 Z2 ok1 s1=>?_⟩);cases p1 with
 |ex C=>cases e;exact q W1 L Z2 ok1 s1 (en.step ok s1)
 |ok d=>cases e;exact fun v rv=>q W1 L Z2 ok1 s1 (en.step ok s1)
def kE(ea:EX):SX:=fun B O=>(ea B O).bind fun p=>match p.1 with
 | .ok d=>some (.rt d,B,p.2)
 | .ex C=>some (.ex C,B,p.2)
theorem p6(he:PE X e (tX K E ex)):PS X (.Return (some e) pos) (tXS K E<|kE ex):=hX (AB he) fun D L H h=>by
 refine el5 h fun W B o ZX Z5 eH ok en e q=>?_;subst eH;obtain⟨⟨p1,p2⟩,e1,e⟩:=bnd e;refine(⟨W,B,p1,p2,rfl,ok,en,e1,fun W1 Z2 ok1 s1=>?_⟩);cases p1 with
 |ex C=>cases e;exact q W1 L Z2 ok1 s1 (en.step ok s1)
 |ok d=>cases e;exact fun v rv=>q W1 L Z2 ok1 s1 (en.step ok s1) v rv
def iD(t:BX)(a b:SX):SX:=fun B O=>(t B O).bind fun p=>match p.1 with
 | .ok c=>if c=true then a B p.2 else b B p.2
 | .ex C=>some (.ex C,B,p.2)
theorem kf(hc:PT X c (tXB K E bc))(ha:PSs X a (tXS K E sa))(hb:PSs X b (tXS K E sb)):PS X (.If c a b pos) (tXS K E<|iD bc sa sb):=hX (Do hc ha hb) fun D L H h=>by
 refine el5 h fun W B o ZX Z5 eH ok en e q=>?_;subst eH;obtain⟨⟨p1,p2⟩,e1,e⟩:=bnd e;refine(⟨W,B,p1,p2,rfl,ok,en,e1,fun W1 Z2 ok1 s1=>?_⟩);cases p1 with
 |ex C=>cases e;exact q W1 L Z2 ok1 s1 (en.step ok s1)
 |ok k=>
  cases k with
  |true=>
   simp only[vg,if_true];exact⟨W1,B,o,ZX,Z5,rfl,ok1,en.step ok s1,by rw[Z2];exact e,fun W2 ZU ZW ok2 s2 en2=>q W2 ZU ZW ok2 (s1.trans s2) en2⟩
  |false=>
   simp only[vg,S8,if_false];exact⟨W1,B,o,ZX,Z5,rfl,ok1,en.step ok s1,by rw[Z2];exact e,fun W2 ZU ZW ok2 s2 en2=>q W2 ZU ZW ok2 (s1.trans s2) en2⟩
def oN(ea:EX)(g:GV):SX:=fun B O=>(ea B O).bind fun p=>match p.1 with
 | .ok d=>(g d B p.2).bind fun q=>some (.nx,q.1,q.2)
 | .ex C=>some (.ex C,B,p.2)
theorem O0:∀D L H,tXS K E (oN ex g) D L H->uv (tX K E ex) (tDG K g) D L H:=fun D L H h=>by
 refine el5 h fun W B o ZX Z5 eH ok en e q=>?_;subst eH;obtain⟨⟨p1,p2⟩,e1,e⟩:=bnd e;refine(⟨W,B,p1,p2,rfl,ok,en,e1,fun W1 Z2 ok1 s1=>?_⟩);cases p1 with
 |ex C=>cases e;exact q W1 L Z2 ok1 s1 (en.step ok s1)
 |ok d=>
  refine fF e fun q2 e2 e=>?_;cases e;exact fun v rv=>⟨W1,B,d,q2.1,q2.2,rfl,ok1,en.step ok s1,rv,by rw[Z2];exact e2,fun W2 ZU ZW ok2 s2 en2=>q W2 ZU ZW ok2 (s1.trans s2) en2⟩
theorem PL(he:PE X e (tX K E ex))(hg:PG X tg (tDG K g))(hs:swapsWithSole [tg] e pos.line X.env=pure false:=by rfl)(hw:swappedStores [tg] e X.env=pure none:=by rfl)
  (h1:(assignEach [tg] X.env).map (·.2)=[assign tg X.env]:=by rfl):PS X (.Assign [tg] e pos) (tXS K E<|oN ex g):=hX (B7 he hg hs hw h1) O0
theorem Sn(hN:X.N.Nodup)(hi:X.N[i]?=some x)(hx:Loc X.env.scope x)(he:PE X e (tX K E ex))(hs:swapsWith e (some<|.Name x pos') pos.line X.env=pure false:=by rfl)(hf:X.fn x=true\/X.env.scope.names.lookup x=some .local:=by first|exact .inl rfl|exact .inr rfl|assumption):
  PS X (.Assign [.Name x pos'] e pos) (tXS K E<|oN ex<|fD i):=hX (Bn hN hi hx he hs hf) fun D L H h=>by
 refine el5 h fun W B o ZX Z5 eH ok en e q=>?_;subst eH;obtain⟨⟨p1,p2⟩,e1,e⟩:=bnd e;refine(⟨W,B,p1,p2,rfl,ok,en,e1,fun W1 Z2 ok1 s1=>?_⟩);cases p1 with
 |ex C=>cases e;exact q W1 L Z2 ok1 s1 (en.step ok s1)
 |ok d=>cases e;exact fun v rv=>q W1 _ Z2 ok1 s1 ((en.step ok s1).set rv i)
def Aq(c:BX)(body:SX):Nat->SX
 |0,_,_=>none
 |n+1,B,O=>(c B O).bind fun p=>match p.1 with
  | .ok k=>if k=true then(body B p.2).bind fun o=>match o.1 with
    | .nx=>Aq c body n o.2.1 o.2.2
    | .ct=>Aq c body n o.2.1 o.2.2
    | .bk=>some (.nx,o.2)
    | .rt d=>some (.rt d,o.2)
    | .ex C=>some (.ex C,o.2)
   else some (.nx,B,p.2)
  | .ex C=>some (.ex C,B,p.2)
def li(c:Ck)(g:GV)(body:SX):ŗ->SX
 | [],B,O=>some (.nx,B,O)
 |d::r,B,O=>(g d B O).bind fun p=>(body p.1 p.2).bind fun o=>match o.1 with
  | .nx=>chk (gc c o.2.2) (li c g body r o.2.1 o.2.2)
  | .ct=>chk (gc c o.2.2) (li c g body r o.2.1 o.2.2)
  | .bk=>some (.nx,o.2)
  | .rt d=>some (.rt d,o.2)
  | .ex C=>some (.ex C,o.2)
def Bb(iv:IV)(g:GV)(body:SX):SX:=fun B O=>(iv B O).bind fun s=>li s.1.2 g body s.1.1 B s.2
theorem Lg(hp:PassesOwn (model X.prog X.w) X.A X.env X.xe)(hc:X.calm=true)(hi:PI X tg iter (tDI K iv))(hg:PG X tg (tDG K g))(hb:PSs X body (tXS K E sb))
  (hs:∀x,foldedSetIterable iter X.env x=pure x:=by intro _;rfl):PS X (.For tg iter body [] pos) (tXS K E<|Bb iv g sb):=hX (Ec hp hc hi hg hb hs) fun D L H h=>by
 refine el5 h fun W B o ZX Z5 eH ok en e q=>?_;subst eH;obtain⟨⟨⟨its,c⟩,Z4⟩,e1,e⟩:=bnd e;refine(⟨W,B,its,c,Z4,rfl,ok,en,e1,fun Z6 W1 ZJ ok1 s1 jr=>?_⟩);obtain⟨c1,ds,vs,r1,hj⟩:=jr;obtain⟨P,hP⟩:∃P:Nat->St->Hp->Prop,∀i ZU H2,P i ZU H2↔(i<=its.length/\∃W2 ZV,W2.H=H2/\Ok K W2/\Step W1 W2/\EnvR K W2 ZV ZU/\gc c W2.O/\li c g sb (its.drop i) ZV W2.O=some (o,ZX,Z5)):=⟨_,fun _ _ _=>SR⟩
 refine⟨fun i m ZU H2=>m=its.length - i/\P i ZU H2,⟨its.length,by simp,(hP _ _ _).2 ⟨TQ _,W1,B,rfl,ok1,.refl,en.step ok s1,c1,by rw[ZJ];exact e⟩⟩,?_⟩;rintro i m ZU H2 ⟨rfl,hi⟩;refine bq fun hG=>?_;obtain⟨hi,W2,ZV,rfl,ok2,s2,en2,c2,e2⟩:=(hP _ _ _).1 hi;obtain⟨hstop,hgo⟩:=hj W2 i ok2 c2 (r1.step ok1 s2);by_cases hlt:i<its.length
 .have hd:its[i]?=some its[i]:=SO hlt;obtain⟨h1,h2⟩:=hgo _ hd;rw[Tj hlt] at e2;refine fF e2 fun p e3 e2=>?_;obtain⟨⟨o4,Zs,Zr⟩,e4,e2⟩:=bnd e2;refine(hG<|.inr ⟨h1,P (i+1),fun Z0 H' hN=>⟨its.length - (i+1),by omega,rfl,hN⟩,fun x H' hy=>?_⟩);refine bq fun hF=>?_;obtain⟨W3,rfl,ZR,ok3,s3,r3⟩:=h2 x H' hy;refine hF ⟨W3,ZV,its[i],p.1,p.2,rfl,ok3,en2.step ok2 s3,r3,by rw[ZR];exact e3,fun W4 ZP ZD ok4 s4 en4=>⟨W4,p.1,o4,Zs,Zr,rfl,ok4,en4,by rw[ZD];exact e4,fun W5 Zp ZO ok5 s5 en5=>?_⟩⟩;have st:=s2.trans (s3.trans<|s4.trans s5);cases o4 with
  |nx=>refine jZ e2 fun hc5 e2=>?_;exact(hP _ _ _).2 ⟨hlt,W5,Zs,rfl,ok5,st,en5,by rw[ZO];exact hc5,by rw[ZO];exact e2⟩
  |ct=>refine jZ e2 fun hc5 e2=>?_;exact(hP _ _ _).2 ⟨hlt,W5,Zs,rfl,ok5,st,en5,by rw[ZO];exact hc5,by rw[ZO];exact e2⟩
  |bk=>cases e2;exact q W5 Zp ZO ok5 (s1.trans st) en5
  |rt d=>cases e2;exact q W5 Zp ZO ok5 (s1.trans st) en5
  |ex C=>cases e2;exact q W5 Zp ZO ok5 (s1.trans st) en5
 .have e':i=its.length:=by omega
  subst e';rw[TB (SF _)] at e2;cases e2;exact hG (.inl ⟨hstop (SF _),q W2 ZU rfl ok2 (s1.trans s2) en2⟩)
def AK(C:Addr)(ea:EV):SX:=fun B O=>(ea B O).bind fun p=>some (.ex C,B,p.2)
theorem G4(he:PE (X.fl E).nox e (tD K ea))(hm:X.mg x=some (.ref C))(hC:jb X.K C)(hg:Gl X x:=by rfl)(hc:X.calm=true:=by rfl)(hd:(x==("__debug__":Str))=false:=by decide)
  (hs:starEach [e] X.env=[(false,eval e X.env)]:=by rfl):PS (X.fl E) (.Raise (some<|.Call (.Name x np) [e] [] cpos) none pos) (tXS K E<|AK C ea):=hX (zN (te:=tD K ea) (PE.nox he) hg hm hC hc hd hs) fun D L H h=>by
 refine el5 h fun W B o ZX Z5 eH ok en e q=>?_;subst eH;refine fF e fun p1 e1 e=>?_;cases e;exact⟨W,B,p1.1,p1.2,rfl,ok,en,e1,fun v W1 Z2 ok1 s1 r1=>q W1 L Z2 ok1 s1<|en.step ok s1⟩
def xr(cs:ś)(i:Nat)(body:SX)(suite:SV):SV:=fun B O=>(body B O).bind fun o=>match o.1 with
 | .nx=>some (.nx,o.2)
 | .bk=>some (.bk,o.2)
 | .ct=>some (.ct,o.2)
 | .rt d=>some (.rt d,o.2)
 | .ex C=>if C∈cs then(suite (o.2.1.set i<|some<|.ref o.2.2.length)<|o.2.2++[some (.exc C)]).bind fun z=>some (z.1,z.2.1.set i none,z.2.2) else none
theorem EnvR.unset(e:EnvR K W B L)(i:Nat):EnvR K W (B.set i none) (L.set i none) where
 len:=by simp[e.len]
 at_ j d h:=by
  by_cases hj:j=i
  .subst hj;by_cases hl:j<B.length
   .rw[Uz hl] at h;cases h
   .rw[UO.mpr (by simpa using hl)] at h;cases h
  .rw[S4 (Ne.symm hj)] at h⊢;exact e.at_ j d h
theorem JJ(lv:Lv X)(hN:X.N.Nodup)(hi:X.N[i]?=some n)(hl:X.env.scope.names.lookup n=some .local)(hm:X.mg y=some (.ref C0))
  (hcs:∀C∈cs,PySem.W.exmOne X.K (.ref C) (.ref C0)=some true)
  (hb:∀pn E,PSs (Cx.fl {X with pn:=pn} E) body<|tXS K E sx) (hs:∀e,PSs (X.mkd e) (Zk::suite)<|tDS K sv) (hg:Gl X y:=by rfl) (hd:(y==("__debug__":Str))=false:=by decide):
  PS X (.Try body [.ExceptHandler (some<|.Name y p) (some n) (Zk::suite) hp] [] [] pos) (tDS K<|xr cs i sx sv):=hX (R7 lv hN hi hl hg hm hb hs hd) fun D L H h=>by
 refine el5 h fun W B o ZX Z5 eH ok en e q=>?_;subst eH;obtain⟨⟨o1,ZY,Z4⟩,e1,e⟩:=bnd e;refine(⟨W,B,o1,ZY,Z4,rfl,ok,en,e1,fun W1 ZN Z2 ok1 s1 en1=>?_⟩);cases o1 with
 |nx=>cases e;exact q W1 ZN Z2 ok1 s1 en1
 |bk=>cases e;exact q W1 ZN Z2 ok1 s1 en1
 |ct=>cases e;exact q W1 ZN Z2 ok1 s1 en1
 |rt d=>cases e;exact q W1 ZN Z2 ok1 s1 en1
 |ex C=>
  have e:(if C∈cs then(sv (ZY.set i<|some<|.ref Z4.length)<|Z4++[some (.exc C)]).bind fun z=>some (z.1,z.2.1.set i none,z.2.2) else none)=some (o,ZX,Z5):=e;split at e
  .rename_i hC;obtain⟨⟨o2,ZV,Z3⟩,e2,e⟩:=bnd e;cases e;refine(⟨C,rfl,hcs C hC,fun a ha=>?_⟩);have okn:=pK (x:=.exc C) (o:=i4 a C) ok1 ha rfl;have sn:=j6 (K:=K) (x:=.exc C) (o:=i4 a C) ok1 ha;refine⟨W1.new a (i4 a C) (.exc C),ZY.set i (some<|.ref Z4.length),o2,ZV,Z3,rfl,okn,?_,?_,fun W2 ZU ZW ok2 s2 en2=>?_⟩
   .have:=(en1.step ok1 sn).set (nK (K:=K) (W:=W1) (p:=a) (o:=i4 a C) (x:=.exc C) ok1) i;rw[Z2] at this;exact this
   .show sv _ (W1.O++_)=_;rw[Z2];exact e2
   .have st:=(s1.trans sn).trans s2;cases o2 with
    |nx=>exact q W2 _ ZW ok2 st (en2.unset i)
    |bk=>exact q W2 _ ZW ok2 st (en2.unset i)
    |ct=>exact q W2 _ ZW ok2 st (en2.unset i)
    |rt d=>exact q W2 _ ZW ok2 st (en2.unset i)
  .cases e
end
def hV(n m:Nat)(es:SX):FX:=fun ds O=>if ds.length=m then(es (ds.map some++List.replicate (n - ds.length) none) O).bind fun o=>match o.1 with
  | .rt d=>some (.ok d,o.2.2)
  | .nx=>some (.ok .non,o.2.2)
  | .ex C=>some (.ex C,o.2.2)
  |_=>none
 else none
theorem jB{P:Program}{w:World}{K:Frag}{mg:ő}{base:Heap}{x qual:Str}{st:Stmt}{f:Addr}{fd:FuncData}{N ps:Ŗ}{k:Nat}{es:SX}(F:Fun K x qual st f fd)(S:FnScope N ps (fP st))
  (hb:∀(cdv:Value) (A:Around) (outer:ş) (s:Shared) (H:Hp) (E:XK),Room k (A.deeper<|envOfC qual (fP st) s.heap.objs.size f cdv)->PSs ((gk (CXr P w) P w K mg base N qual (fP st) f cdv A outer s H E).fl fun _=>E) (jm st) (tXS K (fun _=>E) es)):
  FnOk P w K mg base (CXr P w) (k+1) f fd ps (spX K<|hV N.length ps.length es):=by
 refine F.okX S (fun vs H Q E h=>?_) (fun cdv A outer s H vs Q E hr h=>?_)
 .obtain⟨W,ds,r,Z5,_,_,rr,e,_⟩:=h;unfold hV at e;split at e
  .rename_i hl;rw[←rr.length];exact hl
  .cases e
 .obtain⟨W,ds,r,Z5,rfl,ok,rr,e,q⟩:=h;refine⟨_,hb cdv A outer s W.H E hr,?_⟩;unfold hV at e;split at e
  .obtain⟨⟨o,ZX,Z3⟩,e1,e⟩:=bnd e;refine⟨W,_,o,ZX,Z3,rfl,ok,C1 rr,e1,fun W' Z0 Z2 ok' s' en'=>?_⟩;cases o with
   |rt z=>cases e;exact q W' Z2 ok' s'
   |nx=>cases e;exact q W' Z2 ok' s' _ .non
   |ex C=>cases e;exact q W' Z2 ok' s'
   |bk=>cases e
   |ct=>cases e
  .cases e
end L3
namespace L2
open PySem PySem.W PySem.Spec PyProof.Rows
def tCs(cs:Ř):TA:=fun _ H Q=>Q cs H
section
variable {X:Cx} {a b e:Expr} {es:Ś} {ta:TE} {p pos:Pos} {c:V} {cs:Ř}
theorem KD:PA X [] (tCs []):=g8
theorem pP(ha:PE X e (tC c))(hr:PA X es (tCs cs))(hs:starEach (e::es) X.env=(false,eval e X.env)::starEach es X.env:=by rfl):PA X (e::es) (tCs<|c::cs):=gz ha hr hs
theorem Qo:jt X (.builtin "isinstance") (fun xs H Q=>∃(e D p:Addr) (cs:Ř) (cvs:Ő) (k:Bool),xs=[.ref e,.ref p]/\H e=some (i4 e D)/\ExcIn X.K D/\H p=some (.tup cs)/\Vals cs cvs/\(∀us,Vals cs us->us=cvs)/\kitAny X.K (.ref D) cvs=some k/\Q (.bl k) H):=by
 intro pins s L H xs us Q I r h;obtain⟨e,D,p,cs,cvs,k,rfl,he,F,hp,rc,hu,hk,q⟩:=h;obtain⟨u,u2,rfl,ru,ru2⟩:=oO r;cases (show u=Value.ref e from ru);cases (show u2=Value.ref p from ru2);obtain⟨ho,_,_⟩:=(show(∃o,s.heap.get? e=some o/\o.cls=.ref D)/\_/\_ from I.hok e _ he)
 obtain⟨_,its,rv,⟨oc,od,odt,osl⟩,e1,e2,n,e3⟩:=(show ObjOk X.prog X.w H s.heap p (.tup cs) from I.hok p _ hp)
 have e2':oc=.type "tuple":=e2;have e3':odt=.seq its.toArray n:=e3;subst e2' e3';cases hu its rv;exact kia_tup (Au F) I.kIn ho e1 hk (fun z=>nomatch z) fun tk=>⟨.bl k,H,I.tok _,rfl,q⟩
theorem Jf(K:Frag)(ml:X.mg "isinstance"=none) (ha:PE X a ta) (hb:PE X b tb) (hg:Gl X "isinstance":=by rfl) (hs:starEach [a,b] X.env=[(false,eval a X.env),(false,eval b X.env)]:=by rfl) (hs2:starEach [b] X.env=[(false,eval b X.env)]:=by rfl) (hK:X.K=K:=by rfl):
  PE X (.Call (.Name "isinstance" p) [a,b] [] pos) (fun L H Q=>ta L H fun x H1=>tb L H1 fun y H2=>∃(e D p:Addr) (cs:Ř) (cvs:Ő) (k:Bool),[x,y]=[.ref e,.ref p]/\H2 e=some (i4 e D)/\ExcIn K D/\H2 p=some (.tup cs)/\Vals cs cvs/\(∀us,Vals cs us->us=cvs)/\kitAny K (.ref D) cvs=some k/\Q (.bl k) H2):=by
 subst hK;exact mI Qo hg ml rfl (gz ha (gz hb g8 hs2)<|by rw[hs,hs2]) (he:=by rw[hs,hs2]) (hpl:=by rw[hs2];rfl)
end
def clV:V->Š
 | .ref a=>some (.ref a)
 | .ty n=>some (.type n)
 |_=>none
def Hl(h:clV v=some u)(r:RelV v w):w=u:=by
 cases v with
 |ref a=>cases h;exact r
 |ty n=>cases h;exact r
 |_=>cases h
def DH(h:clV v=some u):RelV v u:=by
 cases v with
 |ref a=>cases h;rfl
 |ty n=>cases h;rfl
 |_=>cases h
def tw:Ř->Option Ő
 | []=>some []
 |v::r=>(clV v).bind fun u=>(tw r).bind fun us=>some (u::us)
theorem Bx:∀{vs:Ř} {us:Ő},tw vs=some us->Vals vs us/\∀ws,Vals vs ws->ws=us
 | [],us,h=>by cases h;exact⟨.nil,fun ws q=>by cases q;rfl⟩
 |v::r,us,h=>by
  obtain⟨u,h1,h⟩:=T8.mp h;obtain⟨us',h2,h⟩:=T8.mp h;cases h;obtain⟨a,b⟩:=Bx h2;refine(⟨.cons (DH h1) a,fun ws q=>?_⟩);cases q with
  |cons x y=>rw[Hl h1 x,b _ y]
end L2
namespace L3
open PySem PySem.Spec L2
section
variable {X:Cx} {K:Frag} {a b e:Expr} {es:Ś} {ea:EV} {p pos:Pos}
def m8(q:Addr->ř)(x:D)(O:M):SB:=match x with
 | .ref k=>match O[k]? with
  |some (some<|.exc C)=>(q C).bind fun b=>some (.bl b,O)
  |_=>none
 |_=>none
def IsX(K:Frag)(c:V)(q:Addr->ř):Prop:=∃cv,clV c=some cv/\∀C b,q C=some b->ExcIn K C/\kitOne K (.ref C) cv=some b
theorem zE(ok:Ok K W)(h:W.O[k]?=some (some<|.exc C))(r:DR K W (.ref k) v):∃a,v=.ref a/\W.H a=some (i4 a C):=by
 cases r with
 |ref ha=>
  obtain⟨a',ho,h1,h2,h3⟩:=ok.at_ k _ h;rw[ha] at h1;cases h1;exact⟨_,rfl,by rw[h2];cases (show _=_ from h3);rfl⟩
theorem xb{c:V}{q:Addr->ř}(hq:IsX K c q)(ml:X.mg "isinstance"=none) (ha:PE X a (tD K ea)) (hb:PE X b (tC c)) (hg:Gl X "isinstance":=by rfl) (hs:starEach [a,b] X.env=[(false,eval a X.env),(false,eval b X.env)]:=by rfl) (hs2:starEach [b] X.env=[(false,eval b X.env)]:=by rfl) (hK:X.K=K:=by rfl):
  PE X (.Call (.Name "isinstance" p) [a,b] [] pos) (tD K<|v1 (m8 q) ea):=fZ (R4 K ml ha hb hg hs hs2 hK) (kn (by
 intro W x d z Z5 Q ok r1 hf qq;obtain⟨cv,hcv,hq⟩:=hq;unfold m8 at hf;split at hf
 .split at hf
  .rename_i C hk;refine fF hf fun b hb hf=>?_;cases hf;obtain⟨a',rfl,hh⟩:=zE ok hk r1;obtain⟨h1,h2⟩:=hq C b hb;exact(⟨a',C,c,cv,b,rfl,hh,h1,DH hcv,h2,qq _ W rfl ok .refl (.bl _)⟩)
  .cases hf
 .cases hf))
def qY(qs:List (Addr->ř))(x:D)(O:M):SB:=match x with
 | .ref k=>match O[k]? with
  |some (some<|.exc C)=>match qs with
   | []=>none
   |_::_=>(optAll (fun q=>q C) qs).bind fun bs=>some (.bl (bs.any id),O)
  |_=>none
 |_=>none
inductive IsXs (K:Frag):Ř->List (Addr->ř)->Prop where
 |nil:IsXs K [] []
 |cons {c:V} {q:Addr->ř} {cs:Ř} {qs:List (Addr->ř)}:IsX K c q->IsXs K cs qs->IsXs K (c::cs) (q::qs)
theorem Ad{C:Addr}:∀{cs:Ř} {qs:List (Addr->ř)} {bs:ũ},IsXs K cs qs->optAll (fun q=>q C) qs=some bs->∃cvs,tw cs=some cvs/\PySem.W.kitAny K (.ref C) cvs=some (bs.any id)
 |_,_,_,.nil,e=>by cases e;exact⟨[],rfl,rfl⟩
 |_,_,_,.cons ⟨cv,h1,h2⟩ t,e=>by
  refine fF e fun b e1 e=>?_;refine fF e fun bs e2 e=>?_;cases e;obtain⟨cvs,h3,h4⟩:=Ad t e2;obtain⟨_,h5⟩:=h2 C b e1;refine(⟨cv::cvs,by simp[tw,h1,h3],?_⟩);simp only[PySem.W.kitAny,h5];cases b with
  |true=>rfl
  |false=>simpa using h4
theorem DU:∀{cs:Ř} {qs:List (Addr->ř)},IsXs K cs qs->cs.length=qs.length
 |_,_,.nil=>rfl
 |_,_,.cons _ t=>by simp[DU t]
theorem So{cs:Ř}{qs:List (Addr->ř)}(hq:IsXs K cs qs)(ml:X.mg "isinstance"=none) {k:Nat} {tpos:Pos} (ha:PE X a (tD K ea)) (hb:PA X es (tCs cs)) (hl:qs.length<=100:=by simp) (hg:Gl X "isinstance":=by rfl)
  (hs:starEach [a,.Tuple es k tpos] X.env=[(false,eval a X.env),(false,eval (.Tuple es k tpos) X.env)]:=by rfl) (hs2:starEach [.Tuple es k tpos] X.env=[(false,eval (.Tuple es k tpos) X.env)]:=by rfl) (hK:X.K=K:=by rfl):
  PE X (.Call (.Name "isinstance" p) [a,.Tuple es k tpos] [] pos) (tD K<|v1 (qY qs) ea):=by
 subst hK;refine fZ (Jf X.K ml ha (Dv hb) hg hs hs2 rfl) (kn ?_);intro W x d z Z5 Q ok r1 hf qq;refine⟨kR (by rw[DU hq];omega),fun p hp=>?_⟩;have ok2:=iG (o:=.tup cs) ok hp;have s2:=gP (W:=W) (o:=.tup cs) hp;unfold qY at hf;split at hf
 .split at hf
  .rename_i C hk;split at hf
   .cases hf
   .rename_i q0 qs0;refine fF hf fun bs hbs hf=>?_;cases hf;obtain⟨cvs,h1,h2⟩:=Ad hq hbs;obtain⟨v1,v2⟩:=Bx h1;obtain⟨a',rfl,hh⟩:=zE (W:=W.lay p (.tup cs)) ok2 hk (r1.step ok s2);refine(⟨a',C,p,cs,cvs,_,rfl,hh,?_,gH,v1,v2,h2,qq _ (W.lay p _) rfl ok2 s2 (.bl _)⟩);cases hq with
    |cons hq _=>
     obtain⟨cv,_,hq⟩:=hq;refine fF hbs fun b e1 _=>?_;exact((hq C b e1).1)
  .cases hf
 .cases hf
end
def JB{X:Cx}{tg iter:Expr}{t:TI}(h:PI X.nox tg iter t):PI X tg iter t:=fun pins s L H R I hw=>
 SH (h pins s L H R (I.wish _) hw) (fun v s1 z=>SH z (fun itv s2 ⟨it,fp,tn,Z6,H2,e,I2,T,st2,f2,q⟩=>⟨it,fp,tn,Z6,H2,e,I2.unwish,T,st2,f2,q⟩) fun _ _ z=>False.elim z) fun _ _ z=>False.elim z
section
variable {X:Cx} {E:St->XK} {K:Frag} {e e2:Expr} {es:Ś} {st:Ũ} {pos p:Pos} {sv:SV}
theorem qb(h:PSs X.nox st (tDS K sv)):PSs X st (tXS K E<|upS sv):=qu h.nox yy
def mD:List EV->G->M->Option M
 | [],_,O=>some O
 |ea::r,B,O=>(ea B O).bind fun p=>match p.1 with
  | .int i=>if i.natAbs.log2<1920 then mD r B p.2 else none
  |_=>none
def tJ(K:Frag)(l:List EV):St->Hp->(Hp->Prop)->Prop:=fun L H Q=>∃(W:Wd) (B:G) (Z5:M),W.H=H/\Ok K W/\EnvR K W B L/\mD l B W.O=some Z5/\∀W',W'.O=Z5->Ok K W'->Step W W'->Q W'.H
theorem BK(h:PJ X es t)(hi:∀L H Q,t' L H Q->t L H Q):PJ X es t':=fun pins s L H Q acc n a b I hw=>h pins s L H Q acc n a b I (hi _ _ _ hw)
theorem pj0:PJ X [] (tJ K []):=BK HF fun L H Q h=>by
 obtain⟨W,B,Z5,rfl,ok,en,e,q⟩:=h;cases e;exact(q W rfl ok .refl)
theorem jk(hx:x.length<=2000)(hr:PJ X es (tJ K l)):PJ X (.Constant (.str x) j p::es) (tJ K l):=Fz hx hr
theorem ka(he:PE X e (tD K ea))(hr:PJ X es (tJ K l)):PJ X (.FormattedValue e (-1) none p::es) (tJ K<|ea::l):=BK (GF he hr) fun L H Q h=>by
 obtain⟨W,B,Z5,rfl,ok,en,e,q⟩:=h;refine fF e fun p1 e1 e=>?_;refine(⟨W,B,p1.1,p1.2,rfl,ok,en,e1,fun v W1 Z2 ok1 s1 r1=>?_⟩);split at e
 .rename_i i hi;split at e
  .rename_i hl;rw[hi] at r1;cases r1;exact⟨i,rfl,hl,W1,B,Z5,rfl,ok1,en.step ok s1,by rw[Z2];exact e,fun W2 ZW ok2 s2=>q W2 ZW ok2<|s1.trans s2⟩
  .cases e
 .cases e
def yb(K:Frag)(l:List EV):TE:=fun L H Q=>∃(W:Wd) (B:G) (Z5:M),W.H=H/\Ok K W/\EnvR K W B L/\mD l B W.O=some Z5/\∀v W',W'.O=Z5->Ok K W'->Step W W'->Q v W'.H
theorem oG(h:PJ X (e::e2::es) (tJ K l))(hl:(e::e2::es).length<=400:=by decide):PE X (.JoinedStr (e::e2::es) pos) (yb K l):=fZ (IT h hl) fun L H Q h=>by
 obtain⟨W,B,Z5,rfl,ok,en,e,q⟩:=h;exact(⟨W,B,Z5,rfl,ok,en,e,fun W' h1 h2 h3 z=>q _ W' h1 h2 h3⟩)
def j5(C:Addr)(l:List EV):SX:=fun B O=>(mD l B O).bind fun Z5=>some (.ex C,B,Z5)
theorem pf(he:PE (X.fl E).nox e (yb K l))(hm:X.mg x=some (.ref C))(hC:jb X.K C)(hg:Gl X x:=by rfl)(hc:X.calm=true:=by rfl)(hd:(x==("__debug__":Str))=false:=by decide)
  (hs:starEach [e] X.env=[(false,eval e X.env)]:=by rfl):PS (X.fl E) (.Raise (some<|.Call (.Name x np) [e] [] cpos) none pos) (tXS K E<|j5 C l):=hX (zN (te:=yb K l) (PE.nox he) hg hm hC hc hd hs) fun D L H h=>by
 refine el5 h fun W B o ZX Z5 eH ok en e q=>?_;subst eH;refine fF e fun Z4 e1 e=>?_;cases e;exact⟨W,B,_,rfl,ok,en,e1,fun v W1 Z2 ok1 s1=>q W1 L Z2 ok1 s1<|en.step ok s1⟩
end
end L3
namespace L2
open PySem PySem.W PySem.Spec PySem.Calls PyProof.Rows PySem.SeqAt
def nc:V->V->ř
 | .int a,.int b=>some (a==b)
 | .bl a,.bl b=>some (a==b)
 |_,_=>none
def kZ:Value->Value->Bool
 | .int a _,.int b _=>a==b
 | .bool a,.bool b=>a==b
 |_,_=>false
def MA(h:nc y x=some b)(r:RelV y u)(rk:RelV x k):kZ u k=b/\∀A s,EqAt A s u k b:=by
 unfold nc at h;split at h
 .cases h;obtain⟨t,rfl⟩:=r;obtain⟨t',rfl⟩:=rk;exact(⟨rfl,fun A s=>(MeetsSeq.EqGives.int _ _ _ _).at _ _⟩)
 .cases h;cases r;cases rk;exact⟨rfl,fun A s=>EqAt.bool_bool _ _⟩
 .cases h
theorem uV(rk:RelV x k):∀{xs:Ř} {us:Ő} {bs:ũ},Vals xs us->L3.optAll (fun y=>nc y x) xs=some bs->us.map (fun u=>kZ u k)=bs/\∀u∈us,∀A s,EqAt A s u k (kZ u k)
 |_,_,_,.nil,e=>by cases e;exact⟨rfl,fun _ z=>nomatch z⟩
 |_,_,_,.cons r t,e=>by
  obtain⟨b,e1,e⟩:=T8.mp e;obtain⟨bs,e2,e⟩:=T8.mp e;cases e;obtain⟨h1,h2⟩:=MA e1 r rk;obtain⟨h3,h4⟩:=uV rk t e2;refine(⟨by rw[SN,h1,h3],fun u hu A s=>?_⟩);rcases S2.mp hu with z|z
  .subst z;rw[h1];exact h2 A s
  .exact h4 u z A s
section
variable {X:Cx} {a o:Expr} {ta to:TE} {pos:Pos}
def Ax:V->Ř->Hp->VK->Prop:=fun x vs H Q=>∃(l:Addr) (xs:Ř) (k:V) (bs:ũ),x=.ref l/\vs=[k]/\H l=some (.lst xs)/\L3.optAll (fun y=>nc y k) xs=some bs/\Q (.int (bs.countP id:Nat)) H
theorem Kz:MtM X "list.count" Ax:=by
 intro pins s L H x vs v us Q I rx rv h;obtain⟨l,xs,k,bs,rfl,rfl,hH,hb,q⟩:=h;cases rx;obtain⟨u,rfl,ru⟩:=rv.one;obtain⟨z,its,n,r,hl,e⟩:=I.lstM hH;obtain⟨h1,h2⟩:=uV ru r hb;refine(Vr F.slot_list_count ⟨_,e,rfl⟩ F.entry_list_count (F.args_list_count_2 _ _) (list_countAt l its.toArray n none #[] u (fun y=>kZ y u)) ⟨e,fun y hy=>h2 y (by simpa using hy) _ _,?_⟩);refine⟨.int _,H,I.tok _,⟨_,rfl⟩,?_⟩;have ec:its.toArray.toList.countP (fun y=>kZ y u)=bs.countP id:=by rw[←h1,List.countP_map];rfl
 rw[ec];exact q
def Bw:V->Ř->Hp->VK->Prop:=fun x vs H Q=>∃(l:Addr) (xs:Ř) (k:V) (bs:ũ) (j:Nat),x=.ref l/\vs=[k]/\H l=some (.lst xs)/\L3.optAll (fun y=>nc y k) xs=some bs/\bs.findIdx? id=some j/\Q (.int (j:Nat)) H
theorem Q9:MtM X "list.index" Bw:=by
 intro pins s L H x vs v us Q I rx rv h;obtain⟨l,xs,k,bs,j,rfl,rfl,hH,hb,hj,q⟩:=h;cases rx;obtain⟨u,rfl,ru⟩:=rv.one;obtain⟨z,its,n,r,hl,e⟩:=I.lstM hH;obtain⟨h1,h2⟩:=uV ru r hb;have hlen:bs.length=its.length:=by rw[←h1];simp
 obtain⟨hjl,hj1,hj2⟩:=List.findIdx?_eq_some_iff_getElem.mp hj;have hval:∀(m:Nat) (hm:m<its.toArray.size) (hm2:m<bs.length),kZ its.toArray[m] u=bs[m]:=fun m hm hm2=>by
  subst h1;simp
 have hjs:j<its.toArray.size:=by simpa using hlen▸hjl
 refine Vr F.slot_list_index ⟨_,e,rfl⟩ F.entry_list_index (F.args_list_index_2 _ _) (list_indexAt l its.toArray n none #[] u (fun y=>kZ y u) j hjs ?_ ?_ ?_) ⟨e,fun y hy=>h2 y (by simpa using hy) _ _,?_⟩
 .have:j<sizeLine:=by omega
  rw[Ue] at this;omega
 .show kZ its.toArray[j] u=true;rw[hval j hjs hjl];exact hj1
 .intro m hm hlt;show kZ its.toArray[m] u=false;rw[hval m hm ⋯];have:=hj2 m hlt;simpa using this
 .exact⟨.int _,H,I.tok _,⟨_,rfl⟩,q⟩
theorem Pg(K:Frag)(ho:PE X o to)(ha:PE X a ta)(hs:starEach [a] X.env=[(false,eval a X.env)]:=by rfl)
  (hbase:attributeBase o "count" X.env (eval o X.env)=eval o X.env:=by rfl) (hline:(apos.endLine==pos.line)=true:=by rfl) (hK:X.K=K:=by rfl)
  (hfew:((backTo pos<|starEach [a] X.env).all (fun x=>!x.1)&&(backToKw pos<|keywordEach [] X.env).all (fun x=>x.1.isSome)
   &&decide ([a].length+([]:ŝ).length+(if([]:ŝ).isEmpty then 0 else 1)<30))=true:=by rfl):
  PE X (.Call (.Attribute o "count" apos) [a] [] pos) (tBM K "list" Ax to<|iI ta jI):=by
 subst hK;exact so UX PySem.F.slot_list_count PySem.F.type_list_count Kz ho (gz ha g8 hs) hbase hfew hline hs
theorem OU(K:Frag)(ho:PE X o to)(ha:PE X a ta)(hs:starEach [a] X.env=[(false,eval a X.env)]:=by rfl)
  (hbase:attributeBase o "index" X.env (eval o X.env)=eval o X.env:=by rfl) (hline:(apos.endLine==pos.line)=true:=by rfl) (hK:X.K=K:=by rfl)
  (hfew:((backTo pos<|starEach [a] X.env).all (fun x=>!x.1)&&(backToKw pos<|keywordEach [] X.env).all (fun x=>x.1.isSome)
   &&decide ([a].length+([]:ŝ).length+(if([]:ŝ).isEmpty then 0 else 1)<30))=true:=by rfl):
  PE X (.Call (.Attribute o "index" apos) [a] [] pos) (tBM K "list" Bw to<|iI ta jI):=by
 subst hK;exact so UX PySem.F.slot_list_index PySem.F.type_list_index Q9 ho (gz ha g8 hs) hbase hfew hline hs
end
end L2
namespace L3
open PySem PySem.Spec L2
section
variable {X:Cx} {K:Frag} {a:Expr} {ea:EV} {pos:Pos}
def rN:D->D->ř
 | .int a,.int b=>some (a==b)
 | .bl a,.bl b=>some (a==b)
 |_,_=>none
theorem Li(h:rN d e=some b)(r:DR K W d v)(r2:DR K W e u):nc v u=some b:=by
 unfold rN at h;split at h
 .cases r;cases r2;exact h
 .cases r;cases r2;exact h
 .cases h
theorem xK(r2:DR K W e u):∀{ds:ŗ} {vs:Ř} {bs:ũ},DRs K W ds vs->optAll (fun y=>rN y e) ds=some bs->optAll (fun y=>nc y u) vs=some bs
 |_,_,_,.nil,h=>h
 |_,_,_,.cons r t,h=>by
  refine fF h fun b e1 h=>?_;refine fF h fun bs e2 h=>?_;cases h;simp only[optAll,Li e1 r r2,xK r2 t e2,Vb]
def uO(x y:D)(O:M):SB:=(lA O x).bind fun ds=>(optAll (fun d=>rN d y) ds).bind fun bs=>some (.int (bs.countP id:Nat),O)
def se(x y:D)(O:M):SB:=(lA O x).bind fun ds=>(optAll (fun d=>rN d y) ds).bind fun bs=>(bs.findIdx? id).bind fun j=>some (.int (j:Nat),O)
theorem Ep{o:Expr}{eo:EV}{apos:Pos}(ho:PE X o (tD K eo))(ha:PE X a (tD K ea))(hs:starEach [a] X.env=[(false,eval a X.env)]:=by rfl)
  (hbase:attributeBase o "count" X.env (eval o X.env)=eval o X.env:=by rfl) (hline:(apos.endLine==pos.line)=true:=by rfl) (hK:X.K=K:=by rfl)
  (hfew:((backTo pos<|starEach [a] X.env).all (fun x=>!x.1)&&(backToKw pos<|keywordEach [] X.env).all (fun x=>x.1.isSome)
   &&decide ([a].length+([]:ŝ).length+(if([]:ŝ).isEmpty then 0 else 1)<30))=true:=by rfl):
  PE X (.Call (.Attribute o "count" apos) [a] [] pos) (tD K<|jw uO eo ea):=fZ (Pg K ho ha hs hbase hline hK hfew) (wx (by
 intro W x y d e z Z5 Q ok r1 r2 hf q;refine fF hf fun ds h1 hf=>?_;refine fF hf fun bs h2 hf=>?_;cases hf;obtain⟨a,vs,rfl,hh,hs⟩:=rX ok h1 r1;exact⟨a,vs,y,bs,rfl,rfl,hh,xK r2 hs h2,q _ W rfl ok .refl (.int _)⟩))
theorem Sw{o:Expr}{eo:EV}{apos:Pos}(ho:PE X o (tD K eo))(ha:PE X a (tD K ea))(hs:starEach [a] X.env=[(false,eval a X.env)]:=by rfl)
  (hbase:attributeBase o "index" X.env (eval o X.env)=eval o X.env:=by rfl) (hline:(apos.endLine==pos.line)=true:=by rfl) (hK:X.K=K:=by rfl)
  (hfew:((backTo pos<|starEach [a] X.env).all (fun x=>!x.1)&&(backToKw pos<|keywordEach [] X.env).all (fun x=>x.1.isSome)
   &&decide ([a].length+([]:ŝ).length+(if([]:ŝ).isEmpty then 0 else 1)<30))=true:=by rfl):
  PE X (.Call (.Attribute o "index" apos) [a] [] pos) (tD K<|jw se eo ea):=fZ (OU K ho ha hs hbase hline hK hfew) (wx (by
 intro W x y d e z Z5 Q ok r1 r2 hf q;refine fF hf fun ds h1 hf=>?_;refine fF hf fun bs h2 hf=>?_;refine fF hf fun j h3 hf=>?_;cases hf;obtain⟨a,vs,rfl,hh,hs⟩:=rX ok h1 r1;exact⟨a,vs,y,bs,j,rfl,rfl,hh,xK r2 hs h2,h3,q _ W rfl ok .refl (.int _)⟩))
end
class Enc (J:Type) where
 d:J->D
 p:J->PyData
 k:Nat
 py_eq:∀(a:J) (O:M) (n:Nat),k<n->py n O (d a)=some (p a)
 lay:∀a,(p a).canLay0=true
 dep:∀a,(p a).depth<=k
 eqv:∀a b,PyData.eqv (p a) (p b)=true↔a=b
instance encInt:Enc Int where
 d i:=.int i
 p i:=.int i
 k:=0
 py_eq a O n h:=by cases n with|zero=>omega|succ n=>rfl
 lay a:=rfl
 dep a:=by simp[PyData.depth]
 eqv a b:=by simp[PyData.eqv]
instance encBool:Enc Bool where
 d i:=.bl i
 p i:=.bool i
 k:=0
 py_eq a O n h:=by cases n with|zero=>omega|succ n=>rfl
 lay a:=rfl
 dep a:=by simp[PyData.depth]
 eqv a b:=by cases a<;>cases b<;>simp[PyData.eqv]
section
variable {J β γ:Type} [Enc J] [Enc β] [Enc γ]
end
section
variable {J:Type} [Enc J] [DecidableEq J]
end
section
variable {B:G} {O:M}
theorem uf{ev:BV}{b:Bool}{Z4:M}(h:ev B O=some (b,Z4)):upB ev B O=some (.ok b,Z4):=by unfold upB;rw[h];rfl
theorem qD(h:ev B O=some (ds,Z4)):upL ev B O=some (.ok ds,Z4):=by unfold upL;rw[h];rfl
theorem nk(h:es B O=some (o,ZY,Z4)):upS es B O=some (upO o,ZY,Z4):=by unfold upS;rw[h];rfl
theorem rQ{a b:SX}{ZY:G}{Z4:M}(h:a B O=some (.nx,ZY,Z4)):gl a b B O=b ZY Z4:=by unfold gl;rw[h];rfl
theorem rD{t:BX}{a b:SX}{Z4:M}(h:t B O=some (.ok false,Z4)):iD t a b B O=b B Z4:=by unfold iD;rw[h];rfl
theorem ph(h:el B O=some (.ok ds,Z4)):vLX f el B O=f ds Z4:=by unfold vLX;rw[h];rfl
theorem zB(h:ea B O=some (.ok d,Z4)):iV ea B O=some (.nx,B,Z4):=by unfold iV;rw[h];rfl
theorem Ac(h:ea B O=some (.ok d,Z4)):kE ea B O=some (.rt d,B,Z4):=by unfold kE;rw[h];rfl
theorem sg(hl:ds.length=m)(h:es (ds.map some++List.replicate (n - ds.length) none) O=some (.rt d,ZY,Z4)):hV n m es ds O=some (.ok d,Z4):=by
 unfold hV;rw[if_pos hl,h];rfl
theorem Bl(hl:ds.length=m)(h:es (ds.map some++List.replicate (n - ds.length) none) O=some (.nx,ZY,Z4)):hV n m es ds O=some (.ok .non,Z4):=by
 unfold hV;rw[if_pos hl,h];rfl
end
structure Kp (k:Nat) (O Z5:M):Prop where
 len:O.length<=Z5.length
 at_:∀j,j<O.length->j≠k->Z5[j]?=O[j]?
def Kp.refl{k:Nat}{O:M}:Kp k O O:=⟨SF _,fun _ _ _=>rfl⟩
def Kp.trans{k:Nat}{O Z4 Z3:M}(h:Kp k O Z4)(g:Kp k Z4 Z3):Kp k O Z3:=⟨Tg h.len g.len,fun j hj n=>(g.at_ j (SU hj h.len) n).trans (h.at_ j hj n)⟩
def FZ{k:Nat}{O ex:M}:Kp k O (O++ex):=⟨by simp,fun j hj _=>S1 hj⟩
def oJ{k:Nat}{O:M}{o:Option Z9}:Kp k O (O.set k o):=⟨by simp,fun j hj n=>S4<|Ne.symm n⟩
structure Gr (O Z5:M):Prop where
 len:O.length<=Z5.length
 at_:∀j,j<O.length->Z5[j]?=O[j]?
def Gr.refl{O:M}:Gr O O:=⟨SF _,fun _ _=>rfl⟩
def Gr.trans{O Z4 Z3:M}(h:Gr O Z4)(g:Gr Z4 Z3):Gr O Z3:=⟨Tg h.len g.len,fun j hj=>(g.at_ j<|SU hj h.len).trans (h.at_ j hj)⟩
def Gr.get{j:Nat}{O Z5:M}{o:Option Z9}(h:Gr O Z5)(e:O[j]?=some o):Z5[j]?=some o:=(h.at_ j (SG.mp e).1).trans e
def gr_app{O ex:M}:Gr O (O++ex):=⟨by simp,fun j hj=>S1 hj⟩
def Gr.setN{j:Nat}{O Z5:M}{o:Option Z9}(h:Gr O Z5)(hj:O.length<=j):Gr O (Z5.set j o):=⟨by simpa using h.len,fun i hi=>by
 rw[S4 ⋯];exact h.at_ i hi⟩
open Classical in
def qOf(K:Frag)(cv:Value)(C:Addr):ř:=if ExcIn K C then kitOne K (.ref C) cv else none
def lw(h:clV c=some cv):IsX K c (qOf K cv):=⟨cv,h,fun C b e=>by
 unfold qOf at e;split at e
 .rename_i hC;exact⟨hC,e⟩
 .cases e⟩
def gR(h:ExcIn K C)(k:kitOne K (.ref C) cv=some b):qOf K cv C=some b:=by unfold qOf;rw[if_pos h];exact k
def xV(h1:subIn K (.ref T) (.type "BaseException")=some true) (h2:PySem.W.clsIn K T=some cd) (h3:PySem.W.typeIn K (.ref T)=some (.type "type")) (h4:subIn K (.ref C) (.ref T)=some true):PySem.W.exmOne K (.ref C) (.ref T)=some true:=by
 unfold PySem.W.exmOne PySem.W.kitCls;rw[h1];simp only[h2,h3,h4,Uk,Vy,beq_self_eq_true,if_true]
end L3
namespace L2
open PySem PySem.Spec PyProof.Rows
end L2
namespace L3
open PySem PySem.Spec L2
def ib(f:Str)(d:D):Ť->Ť
 | []=>[(f,d)]
 |(g,e)::r=>if g=f then(g,d)::r else(g,e)::ib f d r
section
variable {K:Frag} {W:Wd}
theorem FR.get{f:Str}:∀{fs:Ť} {vs:š} {d:D},FR K W fs vs->fs.lookup f=some d->∃v,vs.lookup f=some v/\DR K W d v
 |_,_,_,.nil,h=>by cases h
 |(g,e)::r,(g',e')::r',d,.cons h t,q=>by
  obtain⟨h1,h2⟩:=h;have h1:g=g':=h1;subst h1;rw[S7] at q⊢;cases hb:f==g with
  |true=>rw[hb] at q;cases q;exact⟨e',rfl,h2⟩
  |false=>rw[hb] at q;exact FR.get t q
theorem FR.none{f:Str}:∀{fs:Ť} {vs:š},FR K W fs vs->fs.lookup f=none->vs.lookup f=none
 |_,_,.nil,h=>rfl
 |(g,e)::r,(g',e')::r',.cons h t,q=>by
  obtain⟨h1,h2⟩:=h;have h1:g=g':=h1;subst h1;rw[S7] at q⊢;cases hb:f==g with
  |true=>rw[hb] at q;cases q
  |false=>rw[hb] at q;exact FR.none t q
theorem FR.put{f:Str}{d:D}{v:V}(r:DR K W d v):∀{fs:Ť} {vs:š},FR K W fs vs->FR K W (ib f d fs) (ia f v vs)
 |_,_,.nil=>.cons ⟨rfl,r⟩ .nil
 |(g,e)::l,(g',e')::l',.cons h t=>by
  obtain⟨h1,h2⟩:=h;have h1:g=g':=h1;subst h1;simp only[ib,ia];split
  .exact .cons ⟨rfl,r⟩ t
  .exact .cons ⟨rfl,h2⟩ (FR.put r t)
theorem FR.len:∀{fs:Ť} {vs:š},FR K W fs vs->fs.length=vs.length
 |_,_,.nil=>rfl
 |_,_,.cons _ t=>by simp[FR.len t]
theorem x5{k:Nat}{C:Addr}{fs:Ť}{v:V}(ok:Ok K W)(h:W.O[k]?=some (some<|.ins C fs))(r:DR K W (.ref k) v):∃a dx vs,v=.ref a/\W.ρ[k]?=some a/\W.H a=some (.ins C dx vs)/\FR K W fs vs:=by
 cases r with
 |ref ha=>
  obtain⟨a',ho,h1,h2,vs,⟨dx,rfl⟩,r⟩:=ok.at_ k _ h;rw[ha] at h1;cases h1;exact(⟨_,dx,vs,rfl,ha,h2,r⟩)
end
structure FldC (K:Frag) (C:Addr) (f:Str):Prop where
 cl:Cls K C
 na:NoAttr K C f
def iM(C:Addr)(f:Str)(x:D)(O:M):SB:=match x with
 | .ref k=>match O[k]? with
  |some (some<|.ins C' fs)=>if C'=C then(fs.lookup f).bind fun d=>some (d,O) else none
  |_=>none
 |_=>none
def oz(C:Addr)(f:Str)(eo ev:EV):SV:=fun B O=>(ev B O).bind fun p=>(eo B p.2).bind fun q=>match q.1 with
 | .ref k=>match q.2[k]? with
  |some (some<|.ins C' fs)=>if C'=C/\fs.length<1000 then some (.nx,B,q.2.set k<|some<|.ins C<|ib f p.1 fs) else none
  |_=>none
 |_=>none
section
variable {X:Cx} {K:Frag} {o e value:Expr} {es:Ś} {f m:Str} {pos pos' apos p:Pos} {eo ev:EV} {el:LV} {C:Addr}
theorem lC(hC:FldC K C f)(he:PE X e (tD K eo))(hb:attributeBase e f X.env (eval e X.env)=eval e X.env:=by rfl)(hK:X.K=K:=by rfl):PE X (.Attribute e f pos) (tD K<|v1 (iM C f) eo):=by
 subst hK;refine fZ (JG he hb) (kn ?_);intro W x d z Z5 Q ok r1 hf q;unfold iM at hf;split at hf
 .split at hf
  .rename_i k C' fs hk;split at hf
   .rename_i hc;subst hc;obtain⟨d',hl,hf⟩:=bnd hf;cases hf;obtain⟨a,dx,vs,rfl,_,hh,hr⟩:=x5 ok hk r1;obtain⟨v,hv,rv⟩:=hr.get hl;exact(⟨a,_,dx,vs,v,rfl,hh,hC.cl,hC.na,hv,q v W rfl ok .refl rv⟩)
   .cases hf
  .cases hf
 .cases hf
theorem uN(hC:FldC K C f)(ho:PE X o (tD K eo))(hv:PE X value (tD K ev))(hs:swapsWith value (some<|.Attribute o f pos') pos.line X.env=pure false:=by rfl)(hK:X.K=K:=by rfl):PS X (.Assign [.Attribute o f pos'] value pos) (tDS K<|oz C f eo ev):=by
 subst hK;refine hX (Fk ho hv hs) fun D L H h=>?_;refine el5 h fun W B out ZX Z5 eH ok en e q=>?_;subst eH;refine fF e fun p1 e1 e=>?_;refine fF e fun p2 e2 e=>?_;refine⟨W,B,p1.1,p1.2,rfl,ok,en,e1,fun y W1 ZJ ok1 s1 r1=>⟨W1,B,p2.1,p2.2,rfl,ok1,en.step ok s1,by rw[ZJ];exact e2,fun x W2 ZW ok2 s2 r2=>?_⟩⟩;split at e
 .rename_i k hk;rw[hk] at r2;split at e
  .rename_i C' fs hfs;split at e
   .rename_i hc;obtain⟨hc,hl⟩:=hc;subst hc;cases e;rw[←ZW] at hfs;obtain⟨a,dx,vs,rfl,ha,hh,hr⟩:=x5 ok2 hfs r2;have r1':=r1.step ok1 s2;have okp:=tF (o:=.ins C' dx (ia f y vs)) (x:=.ins C' (ib f p1.1 fs)) ok2 hfs ha ⟨_,⟨dx,rfl⟩,hr.put r1'⟩;have sp:=mz (o:=.ins C' dx (ia f y vs)) (x:=.ins C' (ib f p1.1 fs)) hfs ha;refine⟨a,C',dx,vs,rfl,hh,hC.cl,hC.na,by rw[←hr.len];exact hl,?_⟩;exact q (W2.put k a (.ins C' dx<|ia f y vs)<|.ins C'<|ib f p1.1 fs) L (by show W2.O.set _ _=_;rw[ZW]) okp ((s1.trans s2).trans sp) (((en.step ok s1).step ok1 s2).step ok2 sp)
   .cases e
  .cases e
 .cases e
structure MtC (P:Program) (w:World) (K:Frag) (mg:ő) (base:Heap) (CX:CXT) (k:Nat) (C:Addr) (m:Str) (ps:Ŗ) (sp:Sp):Prop where
 cl:Cls K C
 fn:∃f fd,Meth K C m f/\FnOk P w K mg base CX k f fd ps sp/\Binds K fd ps []
def noM(O:M)(C:Addr)(m:Str):D->Bool
 | .ref k=>match O[k]? with
  |some (some<|.ins C' fs)=>decide (C'=C)&&(fs.lookup m).isNone
  |_=>false
 |_=>false
def ly(C:Addr)(m:Str)(g:Fr)(eo:EV)(el:LV):EV:=fun B O=>(eo B O).bind fun p=>if noM p.2 C m p.1=true then(el B p.2).bind fun q=>g (p.1::q.1) q.2 else none
theorem PR{W:Wd}{d:D}{v:V}(ok:Ok K W)(h:noM W.O C m d=true)(r:DR K W d v):∃a dx fs,v=.ref a/\W.H a=some (.ins C dx fs)/\fs.lookup m=none:=by
 cases d with
 |ref k=>
  simp only[noM] at h;split at h
  .rename_i C' fs hk;simp only[Tq,TH,Option.isNone_iff_eq_none] at h;obtain⟨rfl,h2⟩:=h;obtain⟨a,dx,vs,e,_,hh,hr⟩:=x5 ok hk r;exact(⟨a,dx,vs,e,hh,hr.none h2⟩)
  .cases h
 |_=>cases h
theorem Kh:∀L H Q,tD K (ly C m g eo el) L H Q->CY C m (spM K g) [] E0 (tD K eo) (tDL K el) L H Q:=fun L H Q h=>by
 refine el4 h fun W B d Z5 eH ok en e q=>?_;subst eH;refine fF e fun p1 e1 e=>?_;refine⟨W,B,p1.1,p1.2,rfl,ok,en,e1,fun x W1 ZJ ok1 s1 r1=>?_⟩;split at e
 .rename_i hn;refine fF e fun p2 e2 e=>?_;rw[←ZJ] at hn;obtain⟨a,dx,fs,ex,hh,hl⟩:=PR ok1 hn r1;refine⟨a,dx,fs,ex,hh,hl,W1,B,p2.1,p2.2,rfl,ok1,en.step ok s1,by rw[ZJ];exact e2,fun vs W2 ZW ok2 s2 r2=>?_⟩;show spM K g (x::(vs++[])) W2.H Q E0;rw[TM];exact⟨W2,p1.1::p2.1,d,Z5,rfl,ok2,.cons (r1.step ok1 s2) r2,by rw[ZW];exact e,fun v W3 ZR ok3 s3 r3=>q v W3 ZR ok3 ((s1.trans s2).trans s3) r3⟩
 .cases e
theorem oU(M':MtC X.prog X.w X.K X.mg X.base CX0 k C m ps (spM K g))(hr:Room k X.A)(ho:PE X o (tD K eo))(ha:PA X (e::es) (tDL K el))
  (hst:starEach (e::es) X.env=(false,eval e X.env)::starEach es X.env:=by rfl) (hpl:(backTo pos<|starEach es X.env).any (·.1)=false:=by rfl)
  (ht:eval (.Call (.Attribute o m apos) (e::es) [] pos) X.env=(do
   let ov ←eval o X.env
   standAt apos.atName
   let (f,first) ←holding [ov] (getMethod ov m pl)
   callWith pos f first (backTo pos<|starEach (e::es) X.env) (backToKw pos<|keywordEach [] X.env)):=by rfl):PE X (.Call (.Attribute o m apos) (e::es) [] pos) (tD K<|ly C m g eo el):=by
 obtain⟨f,fd,hm,F,hb⟩:=M'.fn;exact(fZ (FB ho M'.cl hm F hr hb .nil y1 ha hst hpl ht) Kh)
structure MkC (P:Program) (w:World) (K:Frag) (mg:ő) (base:Heap) (CX:CXT) (k:Nat) (C:Addr) (x:Str) (ps:Ŗ) (sp:Sp):Prop where
 mgx:mg x=some (.ref C)
 fn:∃f fd,Mk K C f/\FnOk P w K mg base CX k f fd ps sp/\Binds K fd ps []
def sK(C:Addr)(g:Fr)(el:LV):EV:=fun B O=>(el B O).bind fun p=>(g (.ref p.2.length::p.1)<|p.2++[some (.ins C [])]).bind fun q=>match q.1 with
 | .non=>some (.ref p.2.length,q.2)
 |_=>none
theorem Hc:∀L H Q,tD K (sK C g el) L H Q->BE C (spM K g) [] E0 (tDL K el) L H Q:=fun L H Q h=>by
 refine el4 h fun W B d Z5 eH ok en e q=>?_;subst eH;refine fF e fun p1 e1 e=>?_;obtain⟨⟨d2,Z3⟩,e2,e⟩:=bnd e;refine(⟨W,B,p1.1,p1.2,rfl,ok,en,e1,fun vs W1 ZJ ok1 s1 r1 x dx hx hdx hne=>?_⟩);rw[TM];have oka:=iG (o:=.own x) ok1 hdx;have sa:=gP (W:=W1) (o:=.own x) hdx;have hx2:(W1.lay dx<|.own x).H x=none:=by show upd W1.H dx _ x=none;rw[fR (Ne.symm hne)];exact hx
 have okb:=pK (x:=.ins C []) (o:=.ins C dx []) oka hx2 ⟨[],⟨dx,rfl⟩,.nil⟩;have sb:=j6 (K:=K) (x:=.ins C []) (o:=.ins C dx []) oka hx2;have rb:=nK (K:=K) (W:=W1.lay dx (.own x)) (p:=x) (o:=.ins C dx []) (x:=.ins C []) oka;have hl:(W1.lay dx<|.own x).O.length=p1.2.length:=by show W1.O.length=_;rw[ZJ]
 rw[hl] at rb;cases d2 with
 |non=>
  have e:some (D.ref p1.2.length,Z3)=some (d,Z5):=e;obtain⟨hd,hm⟩:d=.ref p1.2.length/\Z5=Z3:=by cases e;exact⟨rfl,rfl⟩
  subst hd hm;refine⟨(W1.lay dx<|.own x).new x (.ins C dx []) (.ins C []),.ref p1.2.length::p1.1,.non,Z5,rfl,okb,.cons rb ((r1.step ok1 sa).step oka sb),?_,fun v W3 ZR ok3 s3 r3=>?_⟩
  .show g _ (W1.O++_)=_;rw[ZJ];exact e2
  .cases r3;exact⟨rfl,q _ W3 ZR ok3 (((s1.trans sa).trans sb).trans s3)<|rb.step okb s3⟩
 |_=>cases e
theorem QJ(M':MkC X.prog X.w X.K X.mg X.base CX0 k C x ps (spM K g))(hr:Room (k+1) X.A)(ha:PA X (e::es) (tDL K el))(hg:Gl X x:=by rfl)(hdb:(x==("__debug__":Str))=false:=by decide)
  (he:starEach (e::es) X.env=(false,eval e X.env)::starEach es X.env:=by rfl) (hpl:(backTo pos<|starEach es X.env).any (·.1)=false:=by rfl):PE X (.Call (.Name x p) (e::es) [] pos) (tD K<|sK C g el):=by
 obtain⟨f,fd,mk,F,hb⟩:=M'.fn;exact(fZ (Nl mk F hr hg M'.mgx hb .nil y1 ha hdb he hpl) Hc)
end
def dn(f:FX):Fr:=fun ds O=>(f ds O).bind fun p=>match p.1 with
 | .ok d=>some (d,p.2)
 | .ex _=>none
section
variable {P:Program} {w:World} {K:Frag} {mg:ő} {base:Heap} {k:Nat} {f:Addr} {fd:FuncData} {ps:Ŗ} {g:FX}
theorem D1:∀vs H Q E E',spM K (dn g) vs H Q E->spX K g vs H Q E':=fun vs H Q E E' h=>by
 obtain⟨W,ds,d,Z5,h1,h2,h3,e,q⟩:=h;obtain⟨⟨r,Z4⟩,e1,e⟩:=bnd e;cases r with
 |ok d'=>
  have e:some (d',Z4)=some (d,Z5):=e;obtain⟨rfl,rfl⟩:d'=d/\Z4=Z5:=by cases e;exact⟨rfl,rfl⟩
  exact⟨W,ds,.ok d',Z4,h1,h2,h3,e1,fun W' a b c v rv=>q v W' a b c rv⟩
 |ex C=>cases e
theorem Fn(F:FnOk P w K mg base (CXr P w) k f fd ps (spX K g)):FnOk P w K mg base CX0 k f fd ps (spM K<|dn g):=by
 refine⟨fun vs H Q E h=>F.len vs H Q E (D1 vs H Q E E h),fun A outer s H args us vs Q E hr he hb hv hs=>?_⟩;refine UL (F.run A outer s H args us vs Q (fun _ _ _=>False) hr he hb hv<|D1 vs H Q E _ hs) fun r s' h=>?_;cases r with
 |ok fl=>cases fl<;>exact h
 |error e=>
  obtain⟨a,C,H',Z8,_,_,z⟩:=h;exact(z.elim)
theorem Df.dn(D:DfX P w K mg base k x ps (spX K g)):Df P w K mg base k x ps (spM K<|L3.dn g):=let ⟨f,fd,F,r⟩:=D;⟨f,fd,Fn F,r⟩
end
end L3
namespace L2
open PySem PySem.W PySem.Spec PyProof.Rows
end L2
namespace L3
open PySem PySem.Spec L2
end L3
namespace L2
open PySem PySem.W PySem.Spec PyProof.Rows
end L2
namespace L3
open PySem PySem.Spec L2
end L3
namespace L2
open PySem PySem.W PySem.Spec PyProof.Rows
end L2
namespace L3
open PySem PySem.Spec L2
open PyProof.Rows (envOfC)
end L3
namespace L2
open PySem PyProof.Rows
section
open PySem.SeqAt
open PySem.AutoSeq1 (wpAny_loadPart')
open PySem.MeetsSeq PySem.MeetsSeq2 PySem.MeetsSeq3
end
end L2
namespace L3
open PySem PySem.Spec L2
end L3
namespace L2
open PySem PySem.Spec PyProof.Rows
def slot_long_next:Slot "longrange_iterator" "__next__" "longrange_iterator.__next__":=
 .of (owner:="longrange_iterator") (n:="__next__") (by rw[typeLookup_type,builtinLookup_eq_fast];kernel_rfl) (by decide +kernel) (by decide +kernel) (by decide +kernel)
  (by first|exact .inl (by decide +kernel)|exact .inr (by decide +kernel)) (by rw[isSubtype_type];kernel_rfl)
def Oi:entryFor table "longrange_iterator.__next__"=some Builtin.«longrange_iterator.__next__»:=entryFor_of_tree (by kernel_rfl)
def Bi:Manifest.owners.lookup (String.ofList ['r','o','t','a','r','e','t','i','_','e','g','n','a','r','g','n','o','l'].reverse)=some Manifest.sig_longrange_iterator:=by kernel_rfl
def Ob(a:Value):argsOk "longrange_iterator.__next__" ⟨[a],[]⟩:=by
 unfold argsOk;rw[signature?_of (id:="longrange_iterator.__next__") (n:=['_','_','t','x','e','n','_','_']) (o:=['r','o','t','a','r','e','t','i','_','e','g','n','a','r','g','n','o','l']) (by kernel_rfl) Bi];kernel_rfl
def BR:Slot "longrange_iterator" "__iter__" "longrange_iterator.__iter__":=
 .of (owner:="longrange_iterator") (n:="__iter__") (by rw[typeLookup_type,builtinLookup_eq_fast];kernel_rfl) (by decide +kernel) (by decide +kernel) (by decide +kernel)
  (by first|exact .inl (by decide +kernel)|exact .inr (by decide +kernel)) (by rw[isSubtype_type];kernel_rfl)
def G9(a:Value):argsOk "longrange_iterator.__iter__" ⟨[a],[]⟩:=by
 unfold argsOk;rw[signature?_of (id:="longrange_iterator.__iter__") (n:=['_','_','r','e','t','i','_','_']) (o:=['r','o','t','a','r','e','t','i','_','e','g','n','a','r','g','n','o','l']) (by kernel_rfl) Bi];kernel_rfl
def Qy:entryFor table "longrange_iterator.__iter__"=some Builtin.«dict_keyiterator.__iter__»:=
 entryFor_alias (id':="dict_keyiterator.__iter__") (by kernel_rfl) (by first|rfl|decide +kernel|(unfold String.splitOn;simp +decide [String.splitOnAux])) (by decide +kernel) (by kernel_rfl)
def ze(h:Heap)(it:Addr):Prop:=h.get? it=some {cls:=.type "longrange_iterator",dict:=none,data:=.fields #[rawInt 0,rawInt 0,rawInt 1],slots:=#[]}
section
variable {prog:Program} {w:World} {A:Around} {E:SC} {s:Shared}
theorem Iq(hr:IsRange s.heap r 0 b 1 t u v)(hb:b< -(2^62))(hsmall:Builtin.Range.small 0 b 1=false)
  (hQ:Q (.ref s.heap.objs.size) {s with heap:=s.heap.push {cls:=.type "longrange_iterator",data:=.fields #[rawInt 0,rawInt 0,rawInt 1]}}):
  wpAny (model prog w) A (pyIter<|.ref r) Q E s:=by
 have hT:s.TypeIs (.ref r) "range":=⟨_,hr,rfl⟩
 refine wpAny_pyIter_slot hT F.slot_range_iter (Vr F.slot_range_iter hT F.entry_range_iter (F.args_range_iter_1 _)
  (AutoRange.range___iter___range_0 r 0 b 1 t u v (by unfold Builtin.Range.small at hsmall;rw[hsmall];rfl)) ⟨hr,?_⟩)
 unfold Builtin.Range.small at hsmall;have hz:Builtin.Range.rangeSize 0 b 1=0:=by rw[Vx];split<;>omega
 simp only[hsmall,S8,if_false];rw[hz];exact⟨"longrange_iterator",_,⟨_,SM _ rfl,rfl⟩,slot_long_next.lookup,hQ⟩
theorem Jl(hit:ze s.heap it)(h:Q (.ref it) s):wpAny (model prog w) A (pyIter<|.ref it) Q E s:=by
 have hT:s.TypeIs (.ref it) "longrange_iterator":=⟨_,hit,rfl⟩
 refine wpAny_pyIter_slot hT BR (UJ BR hT Qy ?_<|G9 _);show wpAny _ _ (ret<|.ref it) _ _ s;exact SE ⟨_,rfl,"longrange_iterator",_,hT,slot_long_next.lookup,h⟩
theorem Lw(hh:A.handled=none)(hit:ze s.heap it)
  (hQ:∀h',Heap.ExtBut it s.heap h'->Q none {s with heap:=h'}):wpAny (model prog w) A (pyNext<|.ref it) Q E s:=by
 have hT:s.TypeIs (.ref it) "longrange_iterator":=⟨_,hit,rfl⟩
 unfold pyNext;refine SA (VQ (wpAny_callSpecial?_slot (name:=Str.ofString "__next__") hT slot_long_next
  (UJ slot_long_next hT Oi ?_<|Ob _)))
 unfold Builtin.«longrange_iterator.__next__»;wp_walk;simp only[raiseNew];refine SA (wpAny_handled ?_);first|rw[show A.in1.handled=none from hh]|rw[hh]
 refine SA (SE<|wpAny_throw ?_);refine SA (U9 (T:="StopIteration") (b:=true) ⟨_,SM _ rfl,rfl⟩ isSubtype_stop ?_);exact SE (hQ _<|((Heap.ExtBut.refl it s.heap).push _).push _)
end
theorem My{P:Program}{w:World}{K:Frag}{tg:Expr}(it:Addr):Turn P w K tg (Itr 0 0) [it] it (fun _ h=>ze h it) where
 mem:=by simp
 obj:=fun i h st b hb=>by
  have e:b=it:=by simpa using hb
  subst e;exact⟨_,st,fun v z=>by
   have z':Data.fields _=Data.cell v:=z;cases z'⟩
 keep:=fun i h h' st k=>k it nofun _ st
 item:=by
  intro X hP hw hK hc i pins s L H E I hf st hg;exact absurd (show i<0 from hg) (VF _)
 done:=by
  intro X hP hw hK hc i pins s L H E I hf st hg;subst hP hw hK;obtain⟨f0,f1,f2,f3,f4,f5⟩:=hf it nofun;exact(Lw (I.ok.hd hc) st fun h' eb=>⟨rfl,I.turned (t':=s.toks) (fun b o hb e=>eb b o hb e) f0 f1 f3 f4 f5⟩)
 self:=fun _ _ _ _ _ st h=>Jl st h
section
variable {X:Cx} {tg:Expr}
theorem Pp{pins:SL}{L:St}{H:Hp}{s:Shared}{R:It->Hp->Prop}{E:SC}{hi:Int}{t u v:Tok}{tk:Nat}(I:Inv X pins L H s)(h3:hi< -(2^62))(hs:Builtin.Range.small 0 hi 1=false)
  (q:R (Itr 0 0) H):wpAny (model X.prog X.w) X.A (pyIter<|.ref s.heap.objs.size) (PIE X pins L tg R) E {s with heap:=s.heap.push {cls:=.type "range",data:=.fields #[.int 0 t,.int hi u,.int 1 v]},toks:=tk}:=by
 refine Iq (IsRange.new ..) h3 hs ?_;have I1:Inv X pins L H {s with heap:=s.heap.push {cls:=.type "range",data:=.fields #[.int 0 t,.int hi u,.int 1 v]},toks:=tk}:=I.kept fun b o e=>SD _ e;refine⟨(s.heap.push {cls:=.type "range",data:=.fields #[.int 0 t,.int hi u,.int 1 v]}).objs.size,[(s.heap.push {cls:=.type "range",data:=.fields #[.int 0 t,.int hi u,.int 1 v]}).objs.size],_,_,H,rfl,
  I1.kept (t':=tk) fun b o e=>SD _ e,My _,?_,fun b hb=>?_,q⟩
 .exact SM _ rfl
 .have e:b=(s.heap.push {cls:=.type "range",data:=.fields #[.int 0 t,.int hi u,.int 1 v]}).objs.size:=by simpa using hb
  subst e;exact I1.fpOk (SF _) (I1.hok.fresh<|SF _)
theorem Ih{pins:SL}{L:St}{H:Hp}{s:Shared}{R:It->Hp->Prop}{E:SC}{hi:Int}{t u v:Tok}{tk:Nat}(I:Inv X pins L H s)(h3:hi< -(2^62))(hs:Builtin.Range.small 0 hi 1=true)
  (q:R (Itr 0 0) H):wpAny (model X.prog X.w) X.A (pyIter<|.ref s.heap.objs.size) (PIE X pins L tg R) E {s with heap:=s.heap.push {cls:=.type "range",data:=.fields #[.int 0 t,.int hi u,.int 1 v]},toks:=tk}:=by
 refine wpAny_pyIter_range (IsRange.new ..) hs ?_;have I1:Inv X pins L H {s with heap:=s.heap.push {cls:=.type "range",data:=.fields #[.int 0 t,.int hi u,.int 1 v]},toks:=tk}:=I.kept fun b o e=>SD _ e;refine⟨(s.heap.push {cls:=.type "range",data:=.fields #[.int 0 t,.int hi u,.int 1 v]}).objs.size,[(s.heap.push {cls:=.type "range",data:=.fields #[.int 0 t,.int hi u,.int 1 v]}).objs.size],_,_,H,rfl,
  I1.kept (t':=tk) fun b o e=>SD _ e,Dz _ 0 0,?_,fun b hb=>?_,q⟩
 .have e1:(0:Int)+((0:Nat):Int)*1=0:=by simp
  have e2:(((0:Nat):Nat):Int) - ((0:Nat):Int)=Builtin.Range.rangeSize 0 hi 1:=by rw[Vx];split<;>omega
  show IsRangeIter _ _ (0+((0:Nat):Int)*1) (((0:Nat):Int) - ((0:Nat):Int)) 1;rw[e1,e2];exact SM _ rfl
 .have e:b=(s.heap.push {cls:=.type "range",data:=.fields #[.int 0 t,.int hi u,.int 1 v]}).objs.size:=by simpa using hb
  subst e;exact I1.fpOk (SF _) (I1.hok.fresh<|SF _)
def FT(ta:TA):TI:=fun L H R=>ta L H fun vs H1=>∃j:Int,vs=[.int j]/\j<2^62/\R (Itr 0 j.toNat) H1
theorem OA{a:Expr}{ta:TA}{p pos:Pos}(hg:Gl X "range") (hm:X.mg "range"=none) (ha:PA X [a] ta) (hs:starEach [a] X.env=[(false,eval a X.env)]:=by rfl):PI X tg (.Call (.Name "range" p) [a] [] pos) (FT ta):=by
 intro pins s L H R I h;refine Call_ (kt I hg hm boot_range<|Tv (thn (ha pos pins s L H _ I h) fun us s1 hm=>?_) hs rfl);obtain⟨vs,H1,I1,r1,q1⟩:=hm;obtain⟨j,e,q2,q⟩:=q1;subst e;cases r1 with
 |cons r rr=>
  cases rr;obtain⟨t,rfl⟩:=r;by_cases hj:-(2^62)<=j
  .exact Vl (xu I1 ⋯ ⋯ hj q2<|by simpa using q)
  .have e0:j.toNat=0:=by omega
   rw[e0] at q;cases hsm:Builtin.Range.small 0 j 1 with
   |false=>exact Vl (Pp I1 ⋯ hsm q)
   |true=>exact Vl (Ih I1 ⋯ hsm q)
end
end L2
namespace L3
open PySem PySem.Spec L2
section
variable {X:Cx} {K:Frag} {ea:EV} {pos:Pos}
def rL(ea:EV):IV:=fun B O=>(ea B O).bind fun p=>match p.1 with
 | .int j=>if j<=1000000000 then some ((gh 0 j.toNat,none),p.2) else none
 |_=>none
theorem G5(mr:X.mg "range"=none) {tg a:Expr} {p:Pos} (ha:PE X a (tD K ea)) (hg:Gl X "range":=by rfl) (hs:starEach [a] X.env=[(false,eval a X.env)]:=by rfl):PI X tg (.Call (.Name "range" p) [a] [] pos) (tDI K<|rL ea):=nn (OA hg mr (gz ha g8 hs) hs) fun L H R h=>by
 refine el5 h fun W B its c Z5 eH ok en e q=>?_;subst eH;refine fF e fun p1 e1 e=>?_;split at e
 .rename_i j hj;split at e
  .rename_i hb;cases e;refine⟨W,B,p1.1,p1.2,rfl,ok,en,e1,fun v W1 Z2 ok1 s1 r1=>?_⟩;rw[hj] at r1;cases r1;exact⟨j,rfl,by omega,q _ W1 Z2 ok1 s1 xq⟩
  .cases e
 .cases e
theorem PP(h:ea B O=some (.int j,Z4))(hj:j<=1000000000):rL ea B O=some ((gh 0 j.toNat,none),Z4):=by
 unfold rL;rw[h];show(if j<=1000000000 then _ else _)=_;rw[if_pos hj]
end
def Wd.ice(W:Wd)(k:Nat)(d:Addr)(u:HO):Wd:=⟨W.ρ,W.O.set k none,upd W.H d u,W.hid⟩
section
variable {K:Frag} {W:Wd} {k:Nat} {d:Addr} {x:Z9} {u:HO}
theorem O9(h:RL (W.ice k d u) a):∃j o,j≠k/\W.O[j]?=some (some o)/\W.ρ[j]?=some a:=by
 obtain⟨j,o,h1,h2⟩:=h;have h1:(W.O.set k none)[j]?=some (some o):=h1;by_cases e:j=k
 .subst e;rw[List.getElem?_set] at h1;simp at h1
 .rw[S4 (Ne.symm e)] at h1;exact⟨j,o,e,h1,h2⟩
theorem sX(hk:W.O[k]?=some (some x))(ha:W.ρ[k]?=some d):Step W (W.ice k d u) where
 ρ _ _ h:=h
 live a h:=let ⟨j,o,_,h1,h2⟩:=O9 h;.inl ⟨j,o,h1,h2⟩
 keep a o e n:=by
  show upd W.H d u a=_;have hne:a≠d:=fun z=>n ⟨k,x,hk,by rw[z];exact ha⟩;rw[fR hne];exact e
 hid:=rfl
 still a h:=by
  show upd W.H d u a≠none;by_cases z:a=d
  .subst z;rw[gH];simp
  .rw[fR z];exact h
theorem KZ(ok:Ok K W)(hk:W.O[k]?=some (some x))(ha:W.ρ[k]?=some d):Ok K (W.ice k d u) where
 len:=by show W.ρ.length=(W.O.set k none).length;rw[Uq];exact ok.len
 nd:=ok.nd
 rs a m:=(sX (u:=u) hk ha).still a (ok.rs a m)
 at_ j o e:=by
  have e:(W.O.set k none)[j]?=some (some o):=e;have hj:j≠k:=fun z=>by subst z;rw[List.getElem?_set] at e;simp at e
  rw[S4 (Ne.symm hj)] at e;obtain⟨a,ho,h1,h2,h3⟩:=ok.at_ j o e;have hne:a≠d:=fun z=>by
   subst z;obtain⟨l1,g1⟩:=SG.mp h1;obtain⟨l2,g2⟩:=SG.mp ha;have hn:=T3.mp ok.nd;rcases U6 j k with z|z|z
   .exact hn j k l1 l2 z (g1.trans g2.symm)
   .exact hj z
   .exact hn k j l2 l1 z (g2.trans g1.symm)
  refine⟨a,ho,h1,by show upd W.H d u a=_;rw[fR hne];exact h2,?_⟩;have st:=sX (W:=W) (u:=u) hk ha;cases o with
  |lst ds=>obtain⟨vs,e,q⟩:=h3;exact⟨vs,e,q.step ok st⟩
  |dK kvs=>obtain⟨vs,e,q⟩:=h3;exact⟨vs,e,Paired.mapP q fun _ _ ⟨e,q⟩=>⟨e,q.step ok st⟩⟩
  |dN kvs=>obtain⟨vs,e,q⟩:=h3;exact⟨vs,e,Paired.mapP q fun _ _ ⟨e,q⟩=>⟨e,q.step ok st⟩⟩
  |ins C fs=>obtain⟨vs,e,q⟩:=h3;exact⟨vs,e,Paired.mapP q fun _ _ ⟨e,q⟩=>⟨e,q.step ok st⟩⟩
  |exc C=>exact h3
 hd0 a z:=⟨(sX (u:=u) hk ha).still a (ok.hd0 a z).1,(ok.hd0 a z).2⟩
end
def rh:Key->D
 | .inl i=>.int i
 | .inr x=>.str x
def Gg{K:Frag}{W:Wd}(k:Key):DR K W (rh k) (kV k):=by
 cases k with
 |inl i=>exact .int i
 |inr x=>exact .str x
def KR.get{K:Frag}{W:Wd}{kvs:List (Key×D)}{vs:List (Key×V)}(r:KR K W kvs vs):∀{i:Nat} {k:Key} {d:D} {k':Key} {v:V},kvs[i]?=some (k,d)->vs[i]?=some (k',v)->k=k'/\DR K W d v:=by
 induction r with
 |nil=>intro i k d k' v h;simp at h
 | @cons a b l r hd tl ih=>
  intro i k d k' v h h2;cases i with
  |zero=>
   simp at h h2;subst h h2;exact hd
  |succ i=>exact ih (by simpa using h) (by simpa using h2)
def tI(own:Ŗ)(cap:œ)(eo:EV)(g:GV)(tc:BV)(tk tv:EV):EV:=fun B O=>(eo B O).bind fun s=>(ig s.2 s.1).bind fun kvs=>match s.1 with
 | .ref n=>chk (kvs.length<=1000000) ((kF s.2.length none g tc tk tv (kvs.map fun kv=>.tup [rh kv.1,kv.2]) (gA own cap B)<|s.2.set n none++[some (.dK [])]).bind fun Z5=>some (.ref s.2.length,Z5))
 |_=>none
section
variable {X:Cx} {K:Frag} {N' own:Ŗ} {cap:œ} {scope:Scope} {kx vx o:Expr} {ifs elts:Ś} {pos apos cpos tpos:Pos} {eo:EV} {g:GV} {tc:BV} {tk tv:EV} {n:Nat}
theorem OW(ok1:Ok K W1)(hp:W1.H p=none)(jr:gc c W1.O/\∀(W2:Wd) (i:Nat),Ok K W2->gc c W2.O->Step W1 W2->(its.length<=i->Z6.stop i W2.H)/\∀d,its[i]?=some d->Z6.go i W2.H/\∀x H',Z6.yld i W2.H x H'->∃W3,W3.H=H'/\W3.O=W2.O/\Ok K W3/\Step W2 W3/\DR K W3 d x)(en:EnvR K W1 ZC ZM)
  (c0:gc c (W1.O++[some (.dK [])])) (e:kF W1.O.length c g tc tk tv its ZC (W1.O++[some (.dK [])])=some Z5) (hZ:∀W',W'.O=Z5->Ok K W'->Step W1 W'->DR K W' (.ref W1.O.length) (.ref p)->Z W'.H):
  uP Z6 (tDG K g) (tDB K tc) (tD K tk) (tD K tv) p ZM W1.H Z:=by
 obtain⟨c1,hj⟩:=jr;have ok0:=pK (x:=.dK []) (o:=.dK []) ok1 hp ⟨[],rfl,.nil⟩;have s0:=j6 (K:=K) (x:=.dK []) (o:=.dK []) ok1 hp;have r0:=nK (K:=K) (W:=W1) (p:=p) (o:=.dK []) (x:=.dK []) ok1;obtain⟨P,hP⟩:∃P:Nat->St->Hp->Prop,∀i ZU H2,P i ZU H2↔(i<=its.length/\∃W2 ZV,W2.H=H2/\Ok K W2/\Step (W1.new p (.dK [])<|.dK []) W2/\EnvR K W2 ZV ZU/\gc c W2.O/\kF W1.O.length c g tc tk tv (its.drop i) ZV W2.O=some Z5):=⟨_,fun _ _ _=>SR⟩
 refine⟨fun i m ZU H2=>m=its.length - i/\P i ZU H2,?_,?_⟩
 .exact⟨its.length,by simp,(hP _ _ _).2 ⟨TQ _,W1.new p (.dK []) (.dK []),ZC,rfl,ok0,.refl,en.step ok1 s0,c0,e⟩⟩
 rintro i m ZU H2 ⟨rfl,hi⟩;refine bq fun hG=>?_;obtain⟨hi,W2,ZV,rfl,ok2,s2,en2,c2,e2⟩:=(hP _ _ _).1 hi;obtain⟨hstop,hgo⟩:=hj W2 i ok2 c2 (s0.trans s2);by_cases hlt:i<its.length
 .have hd:its[i]?=some its[i]:=SO hlt;obtain⟨h1,h2⟩:=hgo _ hd;rw[Tj hlt] at e2;refine fF e2 fun pg e3 e2=>?_;refine fF e2 fun pt e4 e2=>?_;refine(hG<|.inr ⟨h1,P (i+1),fun Z0 H' hN=>⟨its.length - (i+1),by omega,rfl,hN⟩,fun x H' hy=>?_⟩);refine bq fun hF=>?_;obtain⟨W3,rfl,ZR,ok3,s3,r3⟩:=h2 x H' hy;refine hF ⟨W3,ZV,its[i],pg.1,pg.2,rfl,ok3,en2.step ok2 s3,r3,by rw[ZR];exact e3,fun W4 ZP ZD ok4 s4 en4=>⟨W4,pg.1,pt.1,pt.2,rfl,ok4,en4,by rw[ZD];exact e4,fun W5 ZO ok5 s5=>?_⟩⟩;have s25:=s3.trans (s4.trans s5);split at e2
  .rename_i ht;refine fF e2 fun py e5 e2=>?_;refine fF e2 fun pv e6 e2=>?_;refine fF e2 fun k e7 e2=>?_;refine fF e2 fun kvs e8 e2=>?_;obtain⟨⟨hl,c5⟩,e2⟩:=yT e2;refine(l6 (fun _=>?_)<|fun n=>absurd ht n);refine⟨W5,pg.1,py.1,py.2,rfl,ok5,en4.step ok4 s5,by rw[ZO];exact e5,fun y W6 Zw ok6 s6 r6=>⟨W6,pg.1,pv.1,pv.2,rfl,ok6,(en4.step ok4 s5).step ok5 s6,by rw[Zw];exact e6,fun v W7 Zo ok7 s7 r7=>?_⟩⟩;have s27:=(s25.trans s6).trans s7;rw[←Zo] at e8;have rp:DR K W7 (.ref W1.O.length) (.ref p):=(r0.step ok0 s2).step ok2 s27;obtain⟨n,a,us,hd,hv,hk,ha,hh,hs⟩:=o0 ok7 e8 rp;cases hd;cases hv;obtain⟨o8,s8⟩:=AJ (vs':=gU us k v) (kvs':=iY kvs k pv.1) ok7 hk ha (hs.put k r7);exact⟨us,k,hh,rB (by rw[←hs.len];omega),wX e7 (r6.step ok6 s7),(hP _ _ _).2 ⟨hlt,W7.put W1.O.length p (.dK<|gU us k v) (.dK<|iY kvs k pv.1),pg.1,rfl,o8,(s2.trans s27).trans s8,(((en4.step ok4 s5).step ok5 s6).step ok6 s7).step ok7 s8,by show gc c (W7.O.set _ _);rw[Zo];exact c5,by show kF _ c g tc tk tv _ _ (W7.O.set _ _)=_;rw[Zo];exact e2⟩⟩
  .rename_i ht;refine jZ e2 fun c5 e2=>?_;refine l6 (fun n=>absurd n ht) (fun _=>?_);exact(hP _ _ _).2 ⟨hlt,W5,pg.1,rfl,ok5,s2.trans s25,en4.step ok4 s5,by rw[ZO];exact c5,by rw[ZO];exact e2⟩
 .have e':i=its.length:=by omega
  subst e';rw[TB (SF _)] at e2;cases e2;exact hG (.inl ⟨hstop (SF _),hZ W2 rfl ok2 (s0.trans s2) (r0.step ok0 s2)⟩)
theorem Hz(S:CompScope X N' own cap scope)(ho:PE X o (tD K eo))
  (hg:∀cl C Z1 ZZ ex,PG (fO X N' scope cl C Z1 ZZ ex) (.Tuple elts n tpos)<|tDG K g) (ht:∀cl C Z1 ZZ ex,PIf (fO X N' scope cl C Z1 ZZ ex) ifs<|tDB K tc) (hk:∀cl C Z1 ZZ ex,PE (fO X N' scope cl C Z1 ZZ ex) kx<|tD K tk) (hv:∀cl C Z1 ZZ ex,PE (fO X N' scope cl C Z1 ZZ ex) vx<|tD K tv)
  (hx:∀e s,X.xe e s->False:=by exact fun _ _ z=>z) (hc:X.calm=true:=by rfl) (hs:∀x,foldedSetIterable (.Call (.Attribute o "items" apos) [] [] cpos) X.env x=pure x:=by intro _;rfl)
  (hbase:attributeBase o "items" X.env (eval o X.env)=eval o X.env:=by rfl) (hline:(apos.endLine==cpos.line)=true:=by rfl) (hK:X.K=K:=by rfl):
  PE X (.DictComp kx vx [⟨.Tuple elts n tpos,.Call (.Attribute o "items" apos) [] [] cpos,ifs,0⟩] scope pos) (tD K<|tI own cap eo g tc tk tv):=fZ (KW S (Go<|GT K ho hbase hline hK) hg ht hk hv hx hc hs) fun L H Q h=>by
 refine el4 h fun W B d Z5 eH ok en e q=>?_;subst eH;refine fF e fun p1 e1 e=>?_;refine fF e fun kvs e2 e=>?_;refine⟨W,B,p1.1,p1.2,rfl,ok,en,e1,fun x W1 ZJ ok1 s1 r1=>?_⟩;rw[←ZJ] at e2;obtain⟨k,a,vs,hd,rfl,hk1,ha1,hh,hs1⟩:=o0 ok1 e2 r1;rw[hd] at e;refine jZ e fun hl e=>?_;refine fF e fun Z3 e3 e=>?_;cases e;refine(⟨wg ok1 e2 r1,a,vs,rfl,rfl,hh,fun v hv=>?_⟩);have hav:a≠v:=fun z=>by rw[z,hv] at hh;cases hh
 refine⟨v,a,vs,rfl,gH,by rw[fR hav];exact hh,fun ob p hp=>?_⟩;have okL:=iG (o:=viO v a) ok1 hv;have stL:=gP (W:=W1) (o:=viO v a) hv;have hkL:(W1.lay v<|viO v a).O[k]?=some (some<|.dK kvs):=hk1;have haL:(W1.lay v<|viO v a).ρ[k]?=some a:=ha1;have okI:=KZ (u:=.frz ob (.dK vs)) okL hkL haL;have stI:=sX (W:=W1.lay v (viO v a)) (u:=.frz ob (.dK vs)) hkL haL;have krI:KR K ((W1.lay v<|viO v a).ice k a (.frz ob<|.dK vs)) kvs vs:=Paired.mapP hs1 fun _ _ ⟨e,q⟩=>⟨e,(q.step ok1 stL).step okL stI⟩
 have hfI:((W1.lay v<|viO v a).ice k a (.frz ob<|.dK vs)).H a=some (.frz ob<|.dK vs):=gH;generalize hWI:(W1.lay v<|viO v a).ice k a (.frz ob<|.dK vs)=WI at okI stI krI hfI;have Zd:WI.O=p1.2.set k none:=by rw[←hWI];show W1.O.set k none=_;rw[ZJ]
 have hHI:WI.H=upd (upd W1.H v<|viO v a) a (.frz ob<|.dK vs):=by rw[←hWI];rfl
 have hlen:p1.2.length=WI.O.length:=by rw[Zd,Uq]
 have stA:=(s1.trans stL).trans stI;rw[←hHI] at hp⊢;refine OW (c:=none) (its:=kvs.map fun kv=>.tup [rh kv.1,kv.2]) (ZC:=gA own cap B) okI hp ⟨trivial,fun W2 i ok2 _ s2=>?_⟩ ((en.step ok stA).cap own cap) trivial (Z5:=Z5) (by rw[←hlen,Zd];exact e3) fun W' h1 h2 h3 h4=>?_
 .have hf2:W2.H a=some (.frz ob<|.dK vs):=s2.keep _ _ hfI (okI.nofrz hfI);have kr2:KR K W2 kvs vs:=Paired.mapP krI fun _ _ ⟨e,q⟩=>⟨e,q.step okI s2⟩
  refine⟨fun hi=>⟨hf2,by rw[SW,krI.len] at hi;exact hi⟩,fun dd hdd=>?_⟩;rw[S6] at hdd;cases hkv:kvs[i]? with
  |none=>rw[hkv] at hdd;cases hdd
  |some kv=>
   rw[hkv] at hdd;simp at hdd;subst hdd;have hi:i<vs.length:=by rw[←krI.len];exact(SG.mp hkv).1
   refine⟨⟨hf2,hi⟩,fun x H' hy=>?_⟩;obtain⟨pp,kk,vv,rfl,hpn,rfl,hvs⟩:=hy;obtain⟨ek,rv⟩:=kr2.get (k:=kv.1) (d:=kv.2) hkv hvs;refine(⟨W2.lay pp (.tup [kV kk,vv]),rfl,rfl,iG ok2 hpn,gP hpn,?_⟩);rw[ek];exact mf ok2 hpn (.cons (Gg kk)<|.cons rv .nil)
 .refine q _ W' h1 h2 (stA.trans h3) ?_;rw[hlen];exact h4
end
end L3
namespace L2
open PySem PySem.Spec PyProof.Rows
section
open PySem.SeqAt
open PySem.AutoSeq1 (wpAny_loadPart')
open PySem.MeetsSeq PySem.MeetsSeq2 PySem.MeetsSeq3 PySem.SeqRoads2
theorem ES(l:Addr)(items:Array Value)(n:Nat)(dd:Ŧ)(sl:Array Š)(x:Value)(e:Nat->Bool)(k:Nat):
  ∀i:Nat,items.size - i=k->Meets (Builtin.«list.__contains__.loop» ⟨[.ref l,x,rawInt i],[]⟩)
   (fun A R s=>s.heap.get? l=some {cls:=.type "list",dict:=dd,data:=.seq items n,slots:=sl}/\(∀j (h:j<items.size),EqAt A.in1 s items[j] x<|e j)/\R (.ok<|.ret<|.bool<|((List.range items.size).drop i).any e) s):=by
 induction k with
 |zero=>
  intro i hk prog w A R s h;obtain⟨hp,g,d,tk,os⟩:=s;obtain⟨hl,he,h⟩:=h;wp_walk using Up hl;have hi:items[((i:Nat):Int).toNat]?=none:=by simp;omega
  have hd:(List.range items.size).drop i=[]:=by simp;omega
  rw[hd] at h;rw[hi];wp_walk;exact h
 |succ k ih=>
  intro i hk prog w A R s h;obtain⟨hp,g,d,tk,os⟩:=s;obtain⟨hl,he,h⟩:=h;wp_walk using Up hl;have hlt:i<items.size:=by omega
  have hi:items[((i:Nat):Int).toNat]?=some items[i]:=by simp[hlt]
  have hd:(List.range items.size).drop i=i::(List.range items.size).drop (i+1):=by simp[Tj,hlt]
  rw[hd,Uu] at h;rw[hi];refine SA (he i hlt prog w _ _ ?_);cases hb:e i with
  |true=>
   rw[hb] at h;wp_walk;exact h
  |false=>
   rw[hb] at h;have hc:((i:Int)+1)=((i+1:Nat):Int):=by push_cast;rfl
   wp_walk;rw[hc];exact⟨Uv plain_contains_loop _,Ua entry_contains_loop (by
    rw[TV plain_contains_loop _];exact ih (i+1) ⋯ prog w A R _ ⟨hl,he,by simpa using h⟩)⟩
theorem EQ(l:Addr)(items:Array Value)(n:Nat)(dd:Ŧ)(sl:Array Š)(x:Value)(e:Nat->Bool):
  Meets (Builtin.«list.__contains__» ⟨[.ref l,x],[]⟩)
   (fun A R s=>s.heap.get? l=some {cls:=.type "list",dict:=dd,data:=.seq items n,slots:=sl}/\(∀j (h:j<items.size),EqAt A.in1 s items[j] x<|e j)/\R (.ok<|.ret<|.bool<|(List.range items.size).any e) s):=by
 intro prog w A R s h;obtain⟨hp,g,d,tk,os⟩:=s;obtain⟨hl,he,h⟩:=h;wp_walk using Up hl;exact⟨Uv plain_contains_loop _,Ua entry_contains_loop (by
  rw[TV plain_contains_loop _];exact ES l items n dd sl x e _ 0 rfl prog w A R _ ⟨hl,he,by simpa using h⟩)⟩
theorem IM{prog:Program}{w:World}{A:Around}{E:SC}{s:Shared}{l:Addr}{items:Array Value}{x:Value}{Q:SC}(e:Nat->Bool)(hl:s.heap.IsList l items)(he:∀j (h:j<items.size),EqAt A.in1 s items[j] x<|e j)
  (h:Q (.bool<|(List.range items.size).any e) s):wpAny (model prog w) A (compareOp .In x<|.ref l) Q E s:=by
 obtain⟨⟨cls,dd,data,sl⟩,ho,hc,n,hd⟩:=id hl;simp only at hc hd;subst hc hd;exact in_meets ⟨_,ho,rfl⟩ F.slot_list_contains F.entry_list_contains (F.args_list_contains_2 _ _) (EQ l items n dd sl x e) ⟨ho,he,_,rfl,h⟩
end
theorem D9:∀{ds:List PyData} {i:Nat} {d:PyData},PyData.canLayAll0 ds=true->ds[i]?=some d->d.canLay0=true
 | [],i,d,_,h=>by simp at h
 |a::r,0,d,hl,h=>by simp[PyData.canLayAll0] at hl;simp at h;subst h;exact hl.1
 |a::r,i+1,d,hl,h=>by simp[PyData.canLayAll0] at hl;simp at h;exact D9 hl.2 h
def Q2{X:Cx}(hu:X.A.units+64<cLine):OpR X (compareOp .In) (fun x y H Q=>∃p xs ds d,y=.ref p/\SqL X.K H p xs/\Dps X.K H xs ds/\Dp X.K H x d/\(PyData.canLayAll0 ds&&d.canLay0&&decide (d.depth<=60))=true/\Q (.bl<|ds.any fun e=>PyData.eqv e d) H):=by
 intro pins s L H x y v u Q I rx ry h;obtain⟨p,xs,ds,d,rfl,hq,hs,hd,hc,q⟩:=h;simp only[Tq,TH] at hc;cases ry;obtain⟨its,rv,pl,hz⟩:=I.list hq;obtain⟨as,r1⟩:=hd.reads I rx;have hl:=rv.length;have hl2:=hs.len;refine(IM (fun j=>PyData.eqv (ds.getD j .none) d) pl.isList (fun j hj=>?_) ?_)
 .have hj':j<its.length:=by simpa using hj
  have hx:xs[j]?=some (xs[j]'⋯):=SO ⋯;obtain⟨e,he,hde⟩:=hs.get hx;obtain⟨w,hw,rw'⟩:=rv.get hx;obtain⟨bs,r2⟩:=hde.reads I rw';have e1:its.toArray[j]=w:=by
   have:its[j]?=some (its[j]'hj'):=SO hj';rw[this] at hw;cases hw;simp
  have e2:ds.getD j .none=e:=by simp[SK,he]
  rw[e1,e2];refine SeqAt.eqAt_reads e d _ s _ _ _ _ r2 r1 (D9 hc.1.1 he) hc.1.2 ?_;have:X.A.in1.units<=X.A.units+1:=by simp[Around.in1]
  have:=Nat.min_le_right e.depth d.depth;omega
 .have e:(List.range its.toArray.size).any (fun j=>PyData.eqv (ds.getD j .none) d)=ds.any fun e=>PyData.eqv e d:=by
   have hsz:its.toArray.size=ds.length:=by simp;omega
   rw[hsz,T1];simp only[Uh,TR];constructor
   .rintro⟨j,hj,e⟩;exact⟨ds[j],TU _,by simpa[SK,SO hj] using e⟩
   .rintro⟨e,hm,he⟩;obtain⟨j,hj⟩:=TK hm;exact(⟨j,(SG.mp hj).1,by simpa[SK,hj] using he⟩)
  rw[e];exact⟨.bl _,H,I,rfl,q⟩
section
variable {X:Cx} {N' own:Ŗ} {cap:œ} {scope:Scope} {tg iter elt:Expr} {ifs:Ś} {pos:Pos} {wi:TI} {g:TG} {tc:TT} {te:TE}
theorem E4(S:CompScope X N' own cap scope)(hi:PI X tg iter wi)
  (hg:∀cl C Z1 ZZ ex,PG (fO X.nox N' scope cl C Z1 ZZ ex) tg g) (ht:∀cl C Z1 ZZ ex,PIf (fO X.nox N' scope cl C Z1 ZZ ex) ifs tc) (he:∀cl C Z1 ZZ ex,PE (fO X.nox N' scope cl C Z1 ZZ ex) elt te)
  (hc:X.calm=true:=by rfl) (hs:∀x,foldedSetIterable iter X.env x=pure x:=by intro _;rfl):
  PE X (.ListComp elt [⟨tg,iter,ifs,0⟩] scope pos) (Dj own cap wi g tc te):=by
 intro pins s L H Q I h;rw[VP];obtain⟨cl,hcl,c1,c2⟩:=rT (scope:=scope) (env:=X.env) fun y hy hk=>I.ok.has y.1 (S.free y hy hk);refine(T6 (use:=none) rfl hs hcl S.kind S.names (thn (hi pins s L H _ I h) fun v s1 h1=>thn h1 fun itv s2 h2=>?_));obtain⟨it,fp,tn,Z6,H2,e,I2,T,st2,f2,q⟩:=h2;subst e;have S':CompScope X.nox N' own cap scope:=⟨S.kind,S.own1,S.free1,S.names,S.free,S.eq,S.cap⟩
 refine(AF (X:=X.nox) (RR:=fun acc C=>compPost (model X.prog X.w) X.A X.xe none (EP X pins L Q) acc C) (Z:=fun D=>Q<|.ref D) (fun _ _ z=>z) hc S' hg ht he (I2.wish _) T st2 f2 c1 c2 q ?_);intro D C s' m' H' I' hn' f' z;exact⟨m',hn',fun h'' hs''=>⟨.ref D,H',I'.unwish.letgo f' hs'',rfl,z⟩⟩
end
end L2
namespace L3
open PySem PySem.Spec L2
section
variable {X:Cx} {K:Frag} {a b:Expr} {ea eb:EV} {pos p:Pos} {k:Nat}
def ki(neg:Bool)(x y:D)(O:M):SB:=if neg=true then none else(gu O y).bind fun ds=>(optAll (py 65 O) ds).bind fun es=>(py 65 O x).bind fun d=>if(PyData.canLayAll0 es&&d.canLay0&&decide (d.depth<=60))=true then some (.bl (es.any fun e=>PyData.eqv e d),O) else none
theorem Qa:R2A K (fun x y H Q=>∃p xs ds d,y=.ref p/\SqL K H p xs/\Dps K H xs ds/\Dp K H x d/\(PyData.canLayAll0 ds&&d.canLay0&&decide (d.depth<=60))=true/\Q (.bl<|ds.any fun e=>PyData.eqv e d) H) (ki false):=by
 intro W x y d e z Z5 Q ok r1 r2 hf q;unfold ki at hf;rw[if_neg nofun] at hf;refine fF hf fun ds h1 hf=>?_;refine fF hf fun es h2 hf=>?_;obtain⟨d',h3,hf⟩:=bnd hf;split at hf
 .rename_i hc;cases hf;obtain⟨a,vs,rfl,hs,hv⟩:=lK ok h1 r2;exact(⟨a,vs,es,d',rfl,hs,mQ (lB ok 65) hv h2,lB ok _ _ _ _ r1 h3,hc,q _ W rfl ok .refl (.bl _)⟩)
 .cases hf
theorem AV(hr:Room k X.A)(ha:PE X a (tD K ea))(hb:PE X b (tD K eb))(hm:behindInMarks .In b=false:=by rfl)(hK:X.K=K:=by rfl):PE X (.Compare a [.In] [b] pos) (tD K<|v2 (ki false) ea eb):=by
 subst hK;exact yP (Q2 hr.units) Qa ha hb hm
end
section
variable {X:Cx} {E:St->XK} {K:Frag} {N' own:Ŗ} {cap:œ} {scope:Scope} {tg iter elt:Expr} {ifs:Ś} {pos:Pos} {ex:EX} {g:GV} {tc:BV} {te:EV}
def lI(own:Ŗ)(cap:œ)(ex:EX)(g:GV)(tc:BV)(te:EV):EX:=fun B O=>(ex B O).bind fun p=>match p.1 with
 | .ok d=>(lsC p.2 d).bind fun s=>if s.1.length<=1000000 then(gE s.2 g tc te s.1 (gA own cap B) p.2).bind fun q=>some (.ok (.lst q.1),q.2) else none
 | .ex C=>some (.ex C,p.2)
theorem yG(S:CompScope X N' own cap scope)(hi:PE X iter (tX K E ex))
  (hg:∀cl C Z1 ZZ ex,PG (fO X.nox N' scope cl C Z1 ZZ ex) tg<|tDG K g) (ht:∀cl C Z1 ZZ ex,PIf (fO X.nox N' scope cl C Z1 ZZ ex) ifs<|tDB K tc) (he:∀cl C Z1 ZZ ex,PE (fO X.nox N' scope cl C Z1 ZZ ex) elt<|tD K te)
  (hc:X.calm=true:=by rfl) (hs:∀x,foldedSetIterable iter X.env x=pure x:=by intro _;rfl) (hK:X.K=K:=by rfl):
  PE X (.ListComp elt [⟨tg,iter,ifs,0⟩] scope pos) (tX K E<|lI own cap ex g tc te):=by
 subst hK;refine fZ (E4 S (Cl hi) hg ht he hc hs) fun L H Q h=>?_;refine el4 h fun W B r Z5 eH ok en e q=>?_;subst eH;obtain⟨⟨r1,Z4⟩,e1,e⟩:=bnd e;refine(⟨W,B,r1,Z4,rfl,ok,en,e1,fun W1 ZJ ok1 s1=>?_⟩);cases r1 with
 |ex C=>
  cases e;exact q W1 ZJ ok1 s1
 |ok d=>
  intro v rv;obtain⟨⟨its,c⟩,e2,e⟩:=bnd e;split at e
  .rename_i hl;obtain⟨⟨rs,Z3⟩,e3,e⟩:=bnd e;cases e;obtain⟨c0,a,rfl,hh⟩:=xm ok1 (by rw[ZJ];exact e2) rv;obtain⟨vs0,h0,_⟩:=hh W1 ok1 c0 rv;refine(⟨a,rfl,⟨_,h0⟩,fun p hp=>?_⟩);have jr:JR X.K W1 (Itl X.K a) its c:=⟨c0,[d],[.ref a],.cons rv .nil,fun W2 i ok2 c2 r2=>by
    cases r2 with
    |cons r2 _=>
     obtain⟨vs,hs,hv⟩:=hh W2 ok2 c2 r2;refine⟨fun hi=>⟨vs,hs,by rw[←hv.length];exact hi⟩,fun d hd=>?_⟩;obtain⟨v,hv1,hv2⟩:=hv.get hd;refine(⟨⟨vs,v,hs,hv1⟩,fun x H' y=>?_⟩);obtain⟨rfl,y⟩:=y;have:=y vs hs;rw[hv1] at this;cases this;exact⟨W2,rfl,rfl,ok2,.refl,hv2⟩⟩
   refine zo ok1 hp jr ((en.step ok s1).cap own cap) hl (by rw[ZJ];exact e3) fun W' ys Zl ok' s' hp' hy r=>?_;obtain⟨a1,a2,a3⟩:=yZ s1 hp ok1 ok' s' hp' hy r;exact(q (W'.show W1.hid) Zl a1 a2 _ a3)
  .cases e
end
section
variable {K:Frag} {k:Nat}
theorem Pl(n:Nat):DRs K W (gh 0 n) ((List.range n).map fun k:Nat=>V.int (k:Int)):=by
 have h:=vo (K:=K) (W:=W) ((List.range n).map fun k:Nat=>(k:Int));rw[To,To] at h;have e:gh 0 n=(List.range n).map (D.int∘fun k:Nat=>(k:Int)):=by
  unfold gh;exact TZ fun k _=>by simp
 rw[e];exact h
end
end L3
namespace L2
open PySem PySem.Spec PyProof.Rows
end L2
namespace L3
open PySem PySem.Spec L2
end L3
namespace L3
open PySem L2
abbrev Nn(K:Frag)(x:Str):Prop:=nsIn K mainGlobals x=some none
abbrev Ng(K:Frag)(x:Str)(v:Value):Prop:=nsIn K mainGlobals x=some (some v)
structure Rm (P:Program) (w:World) (K:Frag) (mg:ő) (base h:Heap):Prop where
 X:K.In h
 G:h.Ns mainGlobals mg
structure Gf (K:Frag) (x:Str) (st:Stmt) (f:Addr) (fd:FuncData):Prop where
 a:Ng K x (.ref f)
 F:Fun K x x st f fd
structure Mf (K:Frag) (C:Addr) (x q:Str) (st:Stmt) (f:Addr) (fd:FuncData):Prop where
 a:findIn K (.ref C) x=some (some<|.ref f)
 i:isFn K (.ref f)=true
 F:Fun K x q st f fd
section
variable {P:Program} {w:World} {K:Frag} {mg:ő} {base h:Heap} {x q:Str} {st:Stmt} {f C:Addr} {fd:FuncData} {k:Nat} {ps:Ŗ} {sp:Sp} {CX:CXT}
theorem gf_mk{oc:Value}{od an:Ŧ}{osl:Array Š}{kV doc pm cdv ct:Value}(a:nsIn K mainGlobals x=some (some<|.ref f))(l:K.lookup f=some ⟨oc,od,.func (fnOf x x (ku st) (jm st) (fP st) .none kV doc pm an cdv ct),osl⟩)
  (c:codeIn K cdv x=true) (k:keepIn K (.ref f)=true):Gf K x st f (fnOf x x (ku st) (jm st) (fP st) .none kV doc pm an cdv ct):=⟨a,B2 l c k⟩
theorem mf_mk{oc:Value}{od an:Ŧ}{osl:Array Š}{kV doc pm cdv ct:Value}(a:findIn K (.ref C) x=some (some<|.ref f))(i:isFn K (.ref f)=true)(l:K.lookup f=some ⟨oc,od,.func (fnOf x q (ku st) (jm st) (fP st) .none kV doc pm an cdv ct),osl⟩)
  (c:codeIn K cdv q=true) (k:keepIn K (.ref f)=true):Mf K C x q st f (fnOf x q (ku st) (jm st) (fP st) .none kV doc pm an cdv ct):=⟨a,i,B2 l c k⟩
abbrev Bnd(x q:Str)(st:Stmt)(ps:Ŗ):Prop:=∀(kV doc pm:Value) (an:Ŧ) (cdv ct:Value) (us:Ő),us.length=ps.length->bindArgs (fnOf x q (ku st) (jm st) (fP st) .none kV doc pm an cdv ct) ⟨us,[]⟩=pure (ps.zip us)
theorem nq(a:nsIn K mainGlobals x=some v):nsIn K mainGlobals x=some v:=a
theorem Rm.n(R:Rm P w K mg base h)(z:Nn K x):mg x=none:=PySem.W.mg_none_of R.X R.G z
theorem Rm.g(R:Rm P w K mg base h)(z:Ng K x v):mg x=some v:=PySem.W.mg_of R.X R.G z
theorem fdk(R:Rm P w K mg base h)(A:Gf K x st f fd)(ok:FnOk P w K mg base CX0 k f fd ps sp)(hb:Bnd x x st ps:=by intro _ _ _ _ _ _ us hl;rcases us with _|⟨_,_|⟨_,_|⟨_,_|⟨_,_|⟨_,_|⟨_,_⟩⟩⟩⟩⟩⟩<;>first|rfl|cases hl):Df P w K mg base k x ps sp:=⟨_,_,ok,A.F.binds hb,A.F.kp,R.g A.a⟩
theorem fdX(R:Rm P w K mg base h)(A:Gf K x st f fd)(ok:FnOk P w K mg base (CXr P w) k f fd ps sp)(hb:Bnd x x st ps:=by intro _ _ _ _ _ _ us hl;rcases us with _|⟨_,_|⟨_,_|⟨_,_|⟨_,_|⟨_,_|⟨_,_⟩⟩⟩⟩⟩⟩<;>first|rfl|cases hl):DfX P w K mg base k x ps sp:=⟨_,_,ok,A.F.binds hb,A.F.kp,R.g A.a⟩
theorem fmK(cl:Cls K C)(A:Mf K C x q st f fd)(ok:FnOk P w K mg base CX k f fd ps sp)(hb:Bnd x q st ps:=by intro _ _ _ _ _ _ us hl;rcases us with _|⟨_,_|⟨_,_|⟨_,_|⟨_,_|⟨_,_|⟨_,_⟩⟩⟩⟩⟩⟩<;>first|rfl|cases hl):MtC P w K mg base CX k C x ps sp:=⟨cl,⟨_,_,⟨A.a,A.i,A.F.kp⟩,ok,A.F.binds hb⟩⟩
structure Oc (K:Frag) (C:Addr):Prop where
 cl:Cls K C
 ms:PySem.W.makesIn K C=true
 kc:keepIn K (.ref C)=true
theorem oc_mk(pg:PySem.W.plainGet K C Str.empty=true)(hd:PySem.W.hasDictIn K C=true)(po:PySem.W.plainOver K C=true)(sa:findIn K (.ref C) "__setattr__"=some (some<|.builtin "object.__setattr__")) (mk:PySem.W.makesIn K C=true) (kc:keepIn K (.ref C)=true):Oc K C:=⟨⟨pg,hd,po,sa⟩,mk,kc⟩
theorem fiK(R:Rm P w K mg base h)(z:Ng K y (.ref C))(Z9:Oc K C)(A:Mf K C "__init__" q st f fd) (ok:FnOk P w K mg base CX k f fd ps sp) (hb:Bnd "__init__" q st ps:=by intro _ _ _ _ _ _ us hl;rcases us with _|⟨_,_|⟨_,_|⟨_,_|⟨_,_|⟨_,_|⟨_,_⟩⟩⟩⟩⟩⟩<;>first|rfl|cases hl):MkC P w K mg base CX k C y ps sp:=⟨R.g z,⟨_,_,⟨Z9.ms,A.a,A.i,Z9.kc⟩,ok,A.F.binds hb⟩⟩
theorem fgI(R:Rm P w K mg base h)(z:Ng K x (.int i t)):mg x=some (.int i t)/\RelV (.int i) (.int i t)/\∀W,DR K W (.int i) (.int i):=⟨R.g z,⟨_,rfl⟩,fun _=>.int _⟩
theorem fgT(R:Rm P w K mg base h)(z:Ng K x (.ref p))(y:K.lookup p=some o)(c:o.cls=.type "tuple") (d:o.data=.seq #[.str s t] n):mg x=some (.ref p)/\RelV (.ref p) (.ref p)/\∀W,DR K W (.gt [.str s]) (.ref p):=
 ⟨R.g z,rfl,fun _=>.gt (vs:=[.str s]) (.inr ⟨o,_,n,y,c,d,(show 1<=sizeLine from kR (by decide)),.cons ⟨t,rfl⟩ .nil⟩)<|.cons (.str _) .nil⟩
theorem ri_mk{bm N nm q bs hdct sn sub ab col dd k0 k1 k2 k3 k5:_}(el:K.lookup C=some (excClassObj nm q C N bs bm hdct sn sub ab col dd k0 k1 k2 k3 k5 "ValueError.__new__")) (et:PySem.W.tailIn K yp bm=true) (en:PySem.W.nsOkIn K N=true) (ez:nsIn K N "__init__"=some none):jb K C:=⟨_,_,_,_,_,_,_,_,_,_,_,_,_,_,_,_,el,et,en,ez⟩
theorem ei_mk(hga:findIn K (.ref C) "__getattribute__"=some (some<|.builtin "BaseException.__getattribute__")) (hgn:findIn K (.ref C) "__getattr__"=some none) (hmB:PySem.W.mroIn K C (.type "BaseException")=some true) (ha:findIn K (.ref C) "__class__"=some (some<|.builtin "object.__class__")) (hn:PySem.W.specialIn K (.builtin "object.__class__") "__get__"=some (some<|.builtin "getset_descriptor.__get__")) (htk:PySem.W.takesIn K (.builtin "object.__class__")=some true) (hm:PySem.W.mroIn K C (.type "object")=some true) (cls:PySem.W.clsIn K C=some cd):ExcIn K C:=⟨hga,hgn,hmB,ha,hn,htk,hm,by rw[cls];rfl⟩
theorem HX(F:Fun K x q st f fd)(hb:∀(kV doc pm:Value) (an:Ŧ) (cdv ct:Value) (s:Shared) (v:Value),BindsTo s (fnOf x q (ku st) (jm st) (fP st) .none kV doc pm an cdv ct) ⟨[v],[]⟩ [("script",v)]):∀(s:Shared) (v:Value),BindsTo s fd ⟨[v],[]⟩ [("script",v)]:=by
 obtain⟨oc,od,kV,doc,pm,an,cdv,ct,osl,rfl,_,_⟩:=F.ex;exact fun s v=>hb kV doc pm an cdv ct s v
theorem feR(R:Rm P w K mg base h)(z:Ng K x (.ref C))(r:jb K C):mg x=some (.ref C)/\jb K C:=⟨R.g z,r⟩
end
end L3
namespace L3
open PySem PySem.Spec L2
def gS(kvs:List (NK×D))(k:NK):ţ:=(kvs.find? fun kv=>decide (kv.1=k)).map (·.2)
def jF(kvs:List (NK×D))(k:NK)(v:D):List (NK×D):=
 if(kvs.any fun kv=>decide (kv.1=k))=true then kvs.map (fun kv=>if kv.1=k then(kv.1,v) else kv) else kvs++[(k,v)]
def md:D->Option NK
 | .tup [.tup ds,.int n]=>(optAll inI ds).bind fun ns=>some (ns,n)
 |_=>none
def lf(O:M):D->Option (List<|NK×D)
 | .ref k=>match O[k]? with
  |some (some<|.dN kvs)=>some kvs
  |_=>none
 |_=>none
section
variable {K:Frag} {W:Wd}
theorem AC:∀{ds:ŗ} {vs:Ř} {ns:Ŕ},optAll inI ds=some ns->DRs K W ds vs->vs=ns.map V.int
 | [],_,ns,h,r=>by cases h;cases r;rfl
 |d::ds,_,ns,h,r=>by
  cases r with
  |cons r1 r2=>
   simp only[optAll] at h;refine fF h fun i e1 h=>?_;refine fF h fun is e2 h=>?_;cases h;have:=AC e2 r2;subst this;cases d<;>simp only[inI] at e1<;>cases e1
   cases r1;rfl
theorem wG{d:D}{k:NK}{v:V}(h:md d=some k)(r:DR K W d v):∃b,v=.ref b/\NKey W.H b k:=by
 unfold md at h;split at h
 .rename_i ds n;refine fF h fun ns e h=>?_;cases h;cases r with
  | @tup a vs _ hh rs=>
   cases rs with
   |cons r1 rs=>
    cases rs with
    |cons r2 rs=>
     cases rs;cases r2;cases r1 with
     | @tup b us _ hb ru=>
      have:=AC e ru;subst this;exact⟨a,rfl,b,hh,hb⟩
 .cases h
theorem wU(ok:Ok K W)(h:lf W.O d=some kvs)(r:DR K W d v):
  ∃k a vs,d=.ref k/\v=.ref a/\W.O[k]?=some (some<|.dN kvs)/\W.ρ[k]?=some a/\W.H a=some (.dT vs)/\NR K W kvs vs:=by
 cases d with
 |ref k=>
  simp only[lf] at h;split at h
  .rename_i kvs' hk;cases h;cases r with
   |ref ha=>
    obtain⟨a',ho,h1,h2,vs,rfl,r⟩:=ok.at_ k _ hk;rw[ha] at h1;cases h1;exact⟨k,_,vs,rfl,rfl,hk,ha,h2,r⟩
  .cases h
 |_=>simp[lf] at h
theorem NR.len(r:NR K W kvs vs):kvs.length=vs.length:=UQ r
theorem NR.any(r:NR K W kvs vs)(k:NK):(kvs.any fun kv=>decide (kv.1=k))=vs.any fun kv=>decide (kv.1=k):=by
 unfold NR at r;induction r with
 |nil=>rfl
 |cons h t ih=>rw[Uu,Uu,ih,h.1]
theorem NR.val(r:NR K W kvs vs)(k:NK):(gS kvs k).isSome=(il vs k).isSome:=by
 unfold NR at r;induction r with
 |nil=>rfl
 | @cons p q ps qs h t ih=>
  by_cases e:p.1=k
  .rw[m7 (by rw[←h.1];exact e)];simp[gS,S0,e]
  .rw[nl (by rw[←h.1];exact e)];simp only[gS,S0,e,U4] at ih⊢;exact ih
theorem NR.at{kvs:List (NK×D)}{vs:List (NK×V)}(r:NR K W kvs vs){k:NK}{d:D}(h:gS kvs k=some d):∃v,il vs k=some v/\DR K W d v:=by
 unfold NR at r;induction r with
 |nil=>cases h
 | @cons p q ps qs hd t ih=>
  by_cases e:p.1=k
  .have:gS (p::ps) k=some p.2:=by simp[gS,S0,e]
   rw[this] at h;cases h;exact⟨q.2,m7 (by rw[←hd.1];exact e),hd.2⟩
  .have:gS (p::ps) k=gS ps k:=by simp[gS,S0,e]
   rw[this] at h;obtain⟨v,h1,h2⟩:=ih h;exact⟨v,by rw[nl (by rw[←hd.1];exact e)];exact h1,h2⟩
theorem NR.put(r:NR K W kvs vs)(k:NK)(rv:DR K W d v):NR K W (jF kvs k d) (gU vs k v):=by
 unfold jF gU;rw[r.any k];by_cases e:(vs.any fun kv=>decide (kv.1=k))=true
 .rw[if_pos e,if_pos e];unfold NR at r⊢;clear e;induction r with
  |nil=>exact .nil
  | @cons p q ps qs h t ih=>
   refine .cons ?_ ih;show(if p.1=k then(p.1,d) else p).1=(if q.1=k then(q.1,v) else q).1/\DR K W (if p.1=k then(p.1,d) else p).2 (if q.1=k then(q.1,v) else q).2;by_cases e:p.1=k
   .rw[if_pos e,if_pos (by rw[←h.1];exact e)];exact⟨h.1,rv⟩
   .rw[if_neg e,if_neg (by rw[←h.1];exact e)];exact h
 .rw[if_neg e,if_neg e];exact VI r ⟨rfl,rv⟩
theorem M9{k:Nat}{a:Addr}{kvs kvs':List (NK×D)}{vs':List (NK×V)}(ok:Ok K W)(hk:W.O[k]?=some (some<|.dN kvs))(ha:W.ρ[k]?=some a)(hs:NR K W kvs' vs'):
  Ok K (W.put k a (.dT vs')<|.dN kvs')/\Step W (W.put k a (.dT vs')<|.dN kvs'):=⟨tF ok hk ha ⟨vs',rfl,hs⟩,mz hk ha⟩
theorem zz{H:Hp}{a b:Addr}{kvs:List (NK×V)}{k:NK}(e:H a=some (.dT kvs))(eb:NKey H b k):DGet H a (.ref b) (il kvs k):=.inr ⟨kvs,k,b,.inl e,rfl,eb,rfl⟩
theorem GO{H:Hp}{a b:Addr}{kvs:List (NK×V)}{k:NK}{v:V}(e:H a=some (.dT kvs))(eb:NKey H b k)(hl:kvs.length<sizeLine):vt H a (.ref b) v (upd H a<|.dT<|gU kvs k v):=.inr ⟨kvs,k,b,e,rfl,eb,hl,rfl⟩
end
section
variable {X:Cx} {K:Frag} {a b e o i value:Expr} {ea eb eo ei:EV} {pos p pos':Pos} {k:Nat}
def vA:EV:=fun _ O=>some (.ref O.length,O++[some (.dN [])])
theorem Io:PE X (.Dict [] [] pos) (tD K vA):=fZ OM fun L H Q h=>by
 refine el4 h fun W B d Z5 eH ok en e q=>?_;subst eH;cases e;intro pa hp;exact q _ (W.new pa (.dT [])<|.dN []) rfl (pK ok hp ⟨[],rfl,.nil⟩) (j6 ok hp) (nK ok)
def sA(x y:D)(O:M):SB:=(lf O x).bind fun kvs=>(md y).bind fun k=>(gS kvs k).bind fun d=>some (d,O)
theorem EK(hr:Room k X.A)(ha:PE X a (tD K ea))(hb:PE X b (tD K eb))(hs:ug b:=by exact fun _ _=>rfl):PE X (.Subscript a b pos) (tD K<|v2 sA ea eb):=
 fZ (z9 (by have:=hr.un;omega) ha hb hs) fun L H Q h=>by
  refine el4 h fun W B d Z5 eH ok en e q=>?_;subst eH;refine fF e fun p1 e1 e=>?_;refine fF e fun p2 e2 e=>?_;refine fF e fun kvs e3 e=>?_;refine fF e fun ky e4 e=>?_;refine fF e fun d2 e5 e=>?_;cases e;refine⟨W,B,p1.1,p1.2,rfl,ok,en,e1,fun x W1 Z2 ok1 s1 r1=>⟨W1,B,p2.1,p2.2,rfl,ok1,en.step ok s1,by rw[Z2];exact e2,fun y W2 ZW ok2 s2 r2=>?_⟩⟩;rw[←ZW] at e3;obtain⟨n,a,vs,hd,rfl,hk,ha,hh,hs⟩:=wU ok2 e3 (r1.step ok1 s2);obtain⟨b,rfl,hb⟩:=wG e4 r2;obtain⟨v,h1,h2⟩:=hs.at e5;exact⟨a,v,rfl,by rw[←h1];exact zz hh hb,q _ W2 ZW ok2 (s1.trans s2) h2⟩
def rn(neg:Bool)(y x:D)(O:M):SB:=(md y).bind fun k=>(lf O x).bind fun kvs=>some (.bl (xor neg (gS kvs k).isSome),O)
theorem Iv(neg:Bool):∀L H Q,tD K (v2 (rn neg) ea eb) L H Q->(fun L H Q=>tD K ea L H fun y H1=>tD K eb L H1 fun x H2=>∃a ov,x=.ref a/\DGet H2 a y ov/\Q (.bl<|xor neg ov.isSome) H2:TE) L H Q:=fun L H Q h=>by
 refine el4 h fun W B d Z5 eH ok en e q=>?_;subst eH;refine fF e fun p1 e1 e=>?_;refine fF e fun p2 e2 e=>?_;refine fF e fun k e3 e=>?_;refine fF e fun kvs e4 e=>?_;cases e;refine⟨W,B,p1.1,p1.2,rfl,ok,en,e1,fun x W1 Z2 ok1 s1 r1=>⟨W1,B,p2.1,p2.2,rfl,ok1,en.step ok s1,by rw[Z2];exact e2,fun y W2 ZW ok2 s2 r2=>?_⟩⟩;rw[←ZW] at e4;obtain⟨n,a,vs,_,rfl,_,_,hh,hs⟩:=wU ok2 e4 r2;obtain⟨b,rfl,hb⟩:=wG e3 (r1.step ok1 s2);refine⟨a,_,rfl,zz hh hb,?_⟩;rw[←hs.val k];exact q _ W2 ZW ok2 (s1.trans s2) (.bl _)
theorem Ry(hr:Room k X.A)(ha:PE X a (tD K ea))(hb:PE X b (tD K eb))(hm:behindInMarks .NotIn b=false:=by rfl):PT X (.Compare a [.NotIn] [b] pos) (tDB K<|vT<|v2 (rn true) ea eb):=
 l9 (Rw (Qt (by have:=hr.un;omega) ha hb) hm) (y9 fun L H Q h=>by
  have:=Iv true L H Q h;simp only[Bool.true_xor] at this;exact this)
def vS(eo ei ev:EV):SV:=fun B O=>(ev B O).bind fun v=>(eo B v.2).bind fun p=>(ei B p.2).bind fun q=>(md q.1).bind fun k=>(lf q.2 p.1).bind fun kvs=>match p.1 with
 | .ref n=>if kvs.length<16000000 then some (.nx,B,q.2.set n<|some<|.dN<|jF kvs k v.1) else none
 |_=>none
theorem Qz(hr:Room k X.A)(ho:PE X o (tD K eo))(hi:PE X i (tD K ei))(hv:PE X value (tD K ev))(hs:swapsWith value (some<|.Subscript o i pos') pos.line X.env=pure false:=by rfl):
  PS X (.Assign [.Subscript o i pos'] value pos) (tDS K<|vS eo ei ev):=hX (GS (by have:=hr.un;omega) ho hi hv hs) fun D L H h=>by
 refine el5 h fun W B o ZX Z5 eH ok en e q=>?_;subst eH;refine fF e fun v0 e0 e=>?_;refine fF e fun p1 e1 e=>?_;refine fF e fun p2 e2 e=>?_;refine fF e fun ky e3 e=>?_;refine fF e fun kvs e4 e=>?_;refine⟨W,B,v0.1,v0.2,rfl,ok,en,e0,fun z W0 Y9 ok0 s0 r0=>⟨W0,B,p1.1,p1.2,rfl,ok0,en.step ok s0,by rw[Y9];exact e1,fun x W1 Z2 ok1 s1 r1=>⟨W1,B,p2.1,p2.2,rfl,ok1,(en.step ok s0).step ok0 s1,by rw[Z2];exact e2,fun y W2 ZW ok2 s2 r2=>?_⟩⟩⟩;rw[←ZW] at e4;obtain⟨n,a,vs,hd,rfl,hk,ha,hh,hs⟩:=wU ok2 e4 (r1.step ok1 s2);rw[hd] at e;simp only at e;split at e
 .rename_i hl;cases e;obtain⟨b,rfl,hb⟩:=wG e3 r2;obtain⟨o3,s3⟩:=M9 (vs':=gU vs ky z) (kvs':=jF kvs ky v0.1) ok2 hk ha (hs.put ky<|(r0.step ok0 s1).step ok1 s2);refine⟨a,_,rfl,GO hh hb (by rw[←hs.len,Ue];omega),?_⟩;exact q (W2.put n a (.dT<|gU vs ky z)<|.dN<|jF kvs ky v0.1) L (by show W2.O.set _ _=_;rw[ZW]) o3 (((s0.trans s1).trans s2).trans s3) ((((en.step ok s0).step ok0 s1).step ok1 s2).step ok2 s3)
 .cases e
end
end L3
namespace L2
open PySem PySem.Spec PyProof.Rows
section
variable {prog:Program} {w:World} {A:Around} {E:SC} {s:Shared}
theorem Pz{Q:Ő->Shared->Prop}{r:Addr}{a b c:Int}{t u v:Tok}{n:Nat}(hh:A.handled=none)(hr:IsRange s.heap r a b c t u v)(hsmall:Builtin.Range.small a b c=true)(hn:Builtin.Range.rangeSize a b c=n)(hlen:n<=2^24)
  (hQ:∀(h':Heap) (tk:Nat) (acc:Array Value),(∀b o,s.heap.get? b=some o->h'.get? b=some o)->ItemsOf (fun i v=>∃t,v=.int (a+i*c) t) acc n->Q acc.toList {s with heap:=h',toks:=tk}):
  wpAny (model prog w) A (collect<|.ref r) Q E s:=by
 unfold collect;refine SA (wpAny_runValue<|Ua F.entry_proto_collect ?_);rw[TV F.plain_proto_collect _];show wpAny _ A.in1 (newList [] >>= fun l=>again<|.builtin "list.__iadd__" ⟨[l,.ref r],[]⟩) _ _ s;refine SA (TF ?_);refine SE ⟨Uv F.plain_list_iadd _,Ua F.entry_list_iadd ?_⟩;rw[TV F.plain_list_iadd _];show wpAny _ A.in1 (Builtin.List.listExtendWith (.ref s.heap.objs.size) (.ref r)<|.ref s.heap.objs.size) _ _ _;have hS:(s.heap.push {cls:=.type "list",data:=.seq ([]:Ő).toArray}).get? s.heap.objs.size=some {cls:=.type "list",data:=.seq #[] 0}:=SM _ rfl;have hr1:=SD {cls:=.type "list",data:=.seq ([]:Ő).toArray} hr;have fin:∀(h':Heap) (tk:Nat) (acc:Array Value) (c':Nat),(∀b o,b≠s.heap.objs.size->(s.heap.push {cls:=.type "list",data:=.seq ([]:Ő).toArray}).get? b=some o->h'.get? b=some o)->h'.get? s.heap.objs.size=some {cls:=.type "list",dict:=none,data:=.seq acc c',slots:=#[]}->
   ItemsOf (fun i v=>∃t,v=.int (a+i*c) t) acc n->wpAny (model prog w) A (match Value.ref s.heap.objs.size with
   |Value.ref a=>do
    match(←load a).data with
     |Data.seq xs _=>pure xs.toList
     |_=>unsupported "internal:collect"
   |_=>unsupported "internal:collect") Q E {s with heap:=h',toks:=tk}:=by
  intro h' tk acc c' hk hS' hacc;show wpAny _ A (load s.heap.objs.size >>= _) _ _ _;refine SA (wpAny_load hS' ?_);exact SE (hQ h' tk acc (fun b o hb=>hk b o (SY<|SI hb)<|SD _ hb) hacc)
 refine SH (wpAny_extend_range (A:=A) (s:={s with heap:=s.heap.push {cls:=.type "list",data:=.seq ([]:Ő).toArray}}) (R:=fun r' s'=>r'=.ok (.ret<|.ref s.heap.objs.size)/\∃h' tk acc c',s'={s with heap:=h',toks:=tk}/\(∀b o,b≠s.heap.objs.size->(s.heap.push {cls:=.type "list",data:=.seq ([]:Ő).toArray}).get? b=some o->h'.get? b=some o)/\h'.get? s.heap.objs.size=some {cls:=.type "list",dict:=none,data:=.seq acc c',slots:=#[]}/\ItemsOf (fun i v=>∃t,v=.int (a+i*c) t) acc n)
  hh hr1 hsmall hn hlen s.heap.objs.size (.ref s.heap.objs.size) 0 hS (fun h' tk acc c' h1 h2 h3=>⟨rfl,h',tk,acc,c',rfl,h1,h2,h3⟩)) (fun fi s' h=>?_) (fun e s' h=>?_)
 .cases fi with
  |done f=>
   obtain⟨e,h',tk,acc,c',rfl,h1,h2,h3⟩:=h;cases e;exact fin h' tk acc c' h1 h2 h3
  |again c2=>exact⟨h.1,UL h.2 fun r s'' hr=>by obtain⟨rfl,h',tk,acc,c',rfl,h1,h2,h3⟩:=hr;exact fin h' tk acc c' h1 h2 h3⟩
 .exact absurd h.1 nofun
theorem Lh{Q₁:SC}{r:Addr}{a b c:Int}{t u v:Tok}{n:Nat}(hh:A.handled=none)(hr:IsRange s.heap r a b c t u v)(hsmall:Builtin.Range.small a b c=true)(hn:Builtin.Range.rangeSize a b c=n)(hlen:n<=2^24)
  (h:∀(h':Heap) (tk:Nat) (acc:Array Value),(∀b o,s.heap.get? b=some o->h'.get? b=some o)->ItemsOf (fun i v=>∃t,v=.int (a+i*c) t) acc n->Q₁ (.ref h'.objs.size) {s with heap:=h'.push {cls:=.type "tuple",data:=.seq acc},toks:=tk}) (hsz:n<=sizeLine):
  codeAny (model prog w) A (.call (.builtin "tuple.__new__") ⟨[.type "tuple",.ref r],[]⟩) (wants Q₁ E) s:=by
 refine codeAny_of_tree ?_;show wpAny _ A.in1 (do checkBuiltinCall "tuple.__new__" ⟨[.type "tuple",.ref r],[]⟩;again (.builtin "tuple.__new__" ⟨[.type "tuple",.ref r],[]⟩)) _ _ s;refine SA (VN (F.newCall_tuple_1 _)<|SE ⟨Uv F.plain_tuple_new _,Ua F.entry_tuple_new ?_⟩);rw[TV F.plain_tuple_new _];have hsub:=sub_tuple_self;have hinit:=init_tuple_lookup;have hmh:=madeHere_tuple;have hTI:s.TypeIs (.ref r) "range":=⟨_,hr,rfl⟩
 have hh1:A.in1.handled=none:=hh;wp_walk using wpAny_typeOf hTI,Pz hh1 hr hsmall hn hlen;intro h' tk acc hk hacc;show wpAny _ _ (Builtin.Tuple.tupleExact acc.toList.toArray >>= fun v=>ret v) _ _ _;unfold Builtin.Tuple.tupleExact;refine SA (TF ?_ (by show acc.toList.toArray.size<=sizeLine;simp only[Array.toArray_toList];rw[hacc.1];exact hsz));refine SE ?_;have e:acc.toList.toArray=acc:=by simp
 rw[e];exact h h' tk acc hk hacc
theorem Op{Q:SC}{r:Addr}{a b c:Int}{t u v:Tok}{n:Nat}(hh:A.handled=none)(hr:IsRange s.heap r a b c t u v)(hsmall:Builtin.Range.small a b c=true)(hn:Builtin.Range.rangeSize a b c=n)(hlen:n<=2^24)
  (h:∀(h':Heap) (tk:Nat) (acc:Array Value),(∀b o,s.heap.get? b=some o->h'.get? b=some o)->ItemsOf (fun i v=>∃t,v=.int (a+i*c) t) acc n->Q (.ref h'.objs.size) {s with heap:=h'.push {cls:=.type "tuple",data:=.seq acc},toks:=tk}) (hsz:n<=sizeLine):
  wpAny (model prog w) A (call (.type "tuple") [.ref r]) Q E s:=by
 refine callType_codes (Q₁:=fun obj ZT=>ZT.TypeIs obj "tuple"/\Q obj ZT) F.called_tuple (F.typeCall_tuple_1 _) F.entry_object_init
  (Lh hh hr hsmall hn hlen (fun h' tk acc hk hacc=>⟨⟨_,SM _ rfl,rfl⟩,h h' tk acc hk hacc⟩) hsz) fun obj ZT ZQ=>?_
 exact⟨ZQ.1,F.args_object_init_2 obj _,object_init_meets F.called_tuple.init.lookup F.called_tuple.made (by decide) prog w A.in1 _ ZT ⟨ZQ.1,rfl,ZQ.2⟩⟩
end
section
variable {X:Cx} {a:Expr} {ta:TE} {p pos:Pos}
theorem GY(hacc:ItemsOf (fun i v=>∃t,v=.int (0+i*1) t) acc n):Vals ((List.range n).map fun k:Nat=>V.int (k:Int)) acc.toList:=by
 have hl:acc.toList.length=n:=by rw[Ub];exact hacc.1
 have key:∀(m:Nat) (l:Ő) (k0:Nat),l.length=m->(∀j v,l[j]?=some v->∃t,v=Value.int ((k0+j:Nat):Int) t)->Vals ((List.range' k0 m).map fun k:Nat=>V.int (k:Int)) l:=by
  intro m;induction m with
  |zero=>intro l k0 e _;have:=T7.mp e;subst this;exact .nil
  |succ m ih=>
   intro l k0 e hj;cases l with
   |nil=>simp at e
   |cons x l=>
    rw[List.range'_succ,SN];obtain⟨t,ex⟩:=hj 0 x rfl;refine .cons ⟨t,?_⟩ (ih l (k0+1) (by simpa using e) fun j v ev=>?_)
    .rw[ex];simp
    .obtain⟨t',e'⟩:=hj (j+1) v (by simpa using ev);exact⟨t',by rw[e'];congr 2;omega⟩
 rw[List.range_eq_range'];refine key n acc.toList 0 hl fun j v ev=>?_;obtain⟨t',e'⟩:=hacc.2 j v (by simpa using ev);exact⟨t',by rw[e'];simp⟩
theorem JF(hc:X.calm=true):jt X (.type "tuple") (fun xs H Q=>∃(r:Addr) (n:Nat),xs=[.ref r]/\H r=some (.rng 0 (n:Int))/\n<=1000000/\∀l,H l=none->Q (.ref l) (upd H l<|.tup ((List.range n).map fun k:Nat=>V.int (k:Int)))):=by
 intro pins s L H xs us Q I r h;obtain⟨r',n,rfl,e,hn,q⟩:=h;obtain⟨u,rfl,ru⟩:=lT r;cases ru;obtain⟨t,u,v,ho⟩:=(show ∃t u v,s.heap.get? r'=some {cls:=.type "range",data:=.fields #[.int 0 t,.int (n:Int) u,.int 1 v]} from I.hok r' _ e)
 refine Op (a:=0) (b:=n) (c:=1) (n:=n) (I.ok.hd hc) ho (small_one ⋯ ⋯ ⋯ ⋯) (by rw[Vx];split<;>omega) ⋯ (fun h' tk acc hk hacc=>?_) (kR hn);have I1:Inv X pins L H {s with heap:=h',toks:=tk}:=I.kept (t':=tk) hk;have hv:=GY hacc;have I2:Inv X pins L (upd H h'.objs.size<|.tup ((List.range n).map fun k:Nat=>V.int (k:Int))) {s with heap:=h'.push {cls:=.type "tuple",data:=.seq acc.toList.toArray},toks:=tk}:=
  I1.laid (t':=tk) (fun b o e=>SD _ e) (SF _) (show ObjOk X.prog X.w _ _ _ (.tup _) from⟨by rw[SW,T9];exact kR hn,acc.toList,hv,IsTup.new _ _⟩)
 have e2:acc.toList.toArray=acc:=by simp
 rw[e2] at I2;exact⟨.ref h'.objs.size,_,I2,rfl,q _<|I1.hok.fresh<|SF _⟩
theorem FP(ml:X.mg "tuple"=none) (ha:PE X a ta) (hg:Gl X "tuple":=by rfl) (hs:starEach [a] X.env=[(false,eval a X.env)]:=by rfl) (hc:X.calm=true:=by rfl):
  PE X (.Call (.Name "tuple" p) [a] [] pos) (fun L H Q=>ta L H fun x H1=>∃(r:Addr) (n:Nat),[x]=[.ref r]/\H1 r=some (.rng 0 (n:Int))/\n<=1000000/\∀l,H1 l=none->Q (.ref l) (upd H1 l<|.tup ((List.range n).map fun k:Nat=>V.int (k:Int)))):=
 sO (p:=p) (pos:=pos) (JF hc) hg ml rfl (gz ha g8 hs) (he:=hs)
theorem EF(K:Frag)(ml:X.mg "tuple"=none) (ha:PE X a ta) (hg:Gl X "tuple":=by rfl) (hs:starEach [a] X.env=[(false,eval a X.env)]:=by rfl) (hK:X.K=K:=by rfl):
  PE X (.Call (.Name "tuple" p) [a] [] pos) (fun L H Q=>ta L H fun x H1=>∃p ys,[x]=[V.ref p]/\((SqL K H1 p ys/\∀l,H1 l=none->Q (.ref l) (upd H1 l<|.tup ys))\/(SqT K H1 p ys/\Q (.ref p) H1))):=by
 subst hK;exact sO Mj hg ml rfl (gz ha g8 hs) (he:=hs)
end
end L2
namespace L3
open PySem PySem.Spec L2
section
variable {X:Cx} {K:Frag} {a:Expr} {ea:EV} {pos p p2 pos2:Pos} {k:Nat}
def rJ(x:D)(O:M):SB:=match x with
 | .int j=>if 0<=j/\j<=1000000 then some (.tup (gh 0 j.toNat),O) else none
 |_=>none
theorem FQ(ml:X.mg "tuple"=none) (mr:X.mg "range"=none) (ha:PE X a (tD K ea)) (hc:X.calm=true:=by rfl) (hg:Gl X "range":=by rfl) (hg2:Gl X "tuple":=by rfl) (hs:starEach [a] X.env=[(false,eval a X.env)]:=by rfl)
  (hs2:starEach [.Call (.Name "range" p2) [a] [] pos2] X.env=[(false,eval (.Call (.Name "range" p2) [a] [] pos2) X.env)]:=by rfl):
  PE X (.Call (.Name "tuple" p) [.Call (.Name "range" p2) [a] [] pos2] [] pos) (tD K<|v1 rJ ea):=fZ (FP ml (OT mr ha hg hs) hg2 hs2 hc) (kn (r:=fun x H1 Q=>∃j:Int,x=.int j/\∀r,H1 r=none->∃(r':Addr) (n:Nat),[V.ref r]=[.ref r']/\(upd H1 r<|.rng 0 j) r'=some (.rng 0 (n:Int))/\n<=1000000/\∀l,(upd H1 r<|.rng 0 j) l=none->Q (.ref l) (upd (upd H1 r<|.rng 0 j) l<|.tup ((List.range n).map fun k:Nat=>V.int (k:Int)))) (by
 intro W x d z Z5 Q ok r1 hf q;unfold rJ at hf;split at hf
 .rename_i j;split at hf
  .rename_i hj;cases hf;cases r1;refine⟨j,rfl,fun r hr=>⟨r,j.toNat,rfl,by rw[gH];congr 2;omega,by omega,fun l hl=>?_⟩⟩;have ok1:=iG (o:=.rng 0 j) ok hr;have hl1:(W.lay r<|.rng 0 j).H l=none:=hl;exact q _ ((W.lay r<|.rng 0 j).lay l (.tup ((List.range j.toNat).map fun k:Nat=>V.int (k:Int)))) rfl (iG ok1 hl1) ((gP hr).trans (gP hl1)) (mf ok1 hl1<|Pl _)
  .cases hf
 .cases hf))
def uo(x:D)(O:M):SB:=(gu O x).bind fun ds=>some (.tup ds,O)
theorem D8(ml:X.mg "tuple"=none) (ha:PE X a (tD K ea)) (hg:Gl X "tuple":=by rfl) (hs:starEach [a] X.env=[(false,eval a X.env)]:=by rfl) (hK:X.K=K:=by rfl):PE X (.Call (.Name "tuple" p) [a] [] pos) (tD K<|v1 uo ea):=fZ (EF K ml ha hg hs hK) (kn (by
 intro W x d z Z5 Q ok r1 hf q;refine fF hf fun ds hd hf=>?_;cases hf;obtain⟨a,vs,rfl,hs,hv⟩:=lK ok hd r1;exact⟨a,vs,rfl,.inl ⟨hs,fun p hp=>q _ (W.lay p<|.tup vs) rfl (iG ok hp) (gP hp) (mf ok hp hv)⟩⟩))
end
end L3
namespace Law
open PySem L2 L3
inductive Tr where
 |e (x:Œ)|ask (i j:Nat) (a b:Tr)
def at2(ss:List Ŕ)(x i:Nat):Int:=(ss.getD x []).getD i 0
def alk(ss:List Ŕ)(i j:Nat)(left:Ŝ):Ŝ:=left.filter fun x=>decide (at2 ss x i=at2 ss x j)
def unl(ss:List Ŕ)(i j:Nat)(left:Ŝ):Ŝ:=left.filter fun x=>!decide (at2 ss x i=at2 ss x j)
def cL(Z7:List (List Œ)):Option Œ:=(Z7.getD 0 []).find? fun t=>Z7.all fun l=>decide (t∈l)
def cE(es:List (List Œ))(left:Ŝ):Option Œ:=cL (left.map fun x=>es.getD x [])
def k6(ss:List Ŕ)(f:Ŝ->Option Tr)(left:Ŝ)(p:Nat×Nat):Option Tr:=
 if alk ss p.1 p.2 left=[]\/unl ss p.1 p.2 left=[] then none else match f (alk ss p.1 p.2 left) with
  |none=>none
  |some a=>match f (unl ss p.1 p.2 left) with
   |none=>none
   |some b=>some (.ask p.1 p.2 a b)
def ge(ps:ŕ)(ss:List Ŕ)(es:List (List Œ)):Nat->Ŝ->Option Tr
 |0,left=>(cE es left).map Tr.e
 |a+1,left=>match cE es left with
  |some x=>some (.e x)
  |none=>ps.findSome? (k6 ss (ge ps ss es a) left)
def dep:Tr->Nat
 | .e _=>0
 | .ask _ _ a b=>1+max (dep a) (dep b)
def wf(ps:ŕ):Tr->Prop
 | .e _=>True
 | .ask i j a b=>(i,j)∈ps/\wf ps a/\wf ps b
def iQ(s:Ŕ):Tr->Œ
 | .e x=>x
 | .ask i j a b=>if s.getD i 0=s.getD j 0 then iQ s a else iQ s b
section
variable {ps:ŕ} {ss:List Ŕ} {es:List (List Œ)}
theorem O1{left:Ŝ}{x:Œ}(h:cE es left=some x):∀y∈left,x∈es.getD y []:=by
 intro y hy;unfold cE cL at h;have:=Vh h;rw[Tf] at this;have:=this (es.getD y []) (Te.mpr ⟨y,hy,rfl⟩);simpa using this
theorem Br{left:Ŝ}(h:cE es left=none)(h0:left≠[])(x:Œ):∃y∈left,x∉es.getD y []:=by
 refine T2 fun hn=>?_;have all:∀y∈left,x∈es.getD y []:=fun y hy=>T2 fun z=>hn ⟨y,hy,z⟩;obtain⟨y,r,rfl⟩:=UI h0;unfold cE cL at h;have hx:x∈((y::r).map fun x=>es.getD x []).getD 0 []:=all y nofun;have:=T4.mp h x hx;apply this;rw[Tf];intro l hl;obtain⟨z,hz,rfl⟩:=Te.mp hl;simpa using all z hz
theorem xH{J β:Type}{f:J->Option β}:∀{l:List J},l.findSome? f=none->∀a∈l,f a=none
 | [],_,a,h=>by cases h
 |x::l,h,a,ha=>by
  rw[List.findSome?_cons] at h;cases hx:f x with
  |some b=>rw[hx] at h;cases h
  |none=>
   rw[hx] at h;rcases S2.mp ha with rfl|ha
   .exact hx
   .exact xH h a ha
theorem xv{f:Ŝ->Option Tr}{left:Ŝ}{p:Nat×Nat}:k6 ss f left p=none↔alk ss p.1 p.2 left=[]\/unl ss p.1 p.2 left=[]\/f (alk ss p.1 p.2 left)=none\/f (unl ss p.1 p.2 left)=none:=by
 unfold k6;by_cases h1:alk ss p.1 p.2 left=[]
 .simp[h1]
 .by_cases h2:unl ss p.1 p.2 left=[]
  .simp[h2]
  .rw[if_neg (fun z=>z.elim h1 h2)];cases h3:f (alk ss p.1 p.2 left) with
   |none=>simp
   |some a=>
    cases h4:f (unl ss p.1 p.2 left) with
    |none=>simp
    |some b=>simp[h1,h2]
theorem Bz:∀(a:Nat) (left:Ŝ),ge ps ss es (a+1) left=none->ge ps ss es a left=none:=by
 intro a;induction a with
 |zero=>
  intro left h;simp only[ge] at h⊢;split at h
  .cases h
  .rename_i hx;rw[hx];rfl
 |succ a ih=>
  intro left h;rw[ge] at h⊢;split at h
  .cases h
  .rename_i hx;rw[List.findSome?_eq_none_iff];intro p hp;have:=xH h p hp;rw[xv] at this⊢;rcases this with z|z|z|z
   .exact .inl z
   .exact .inr (.inl z)
   .exact .inr (.inr<|.inl<|ih _ z)
   .exact .inr (.inr<|.inr<|ih _ z)
theorem MN:∀(a:Nat) (left:Ŝ),left≠[]->ge ps ss es a left=none->∀t,wf ps t->dep t<=a->∃x∈left,iQ (ss.getD x []) t∉es.getD x []:=by
 intro a;induction a with
 |zero=>
  intro left h0 h t w d;simp only[ge,U5] at h;cases t with
  |e x=>exact Br h h0 x
  |ask i j t1 t2=>simp only[dep] at d;omega
 |succ a ih=>
  intro left h0 h t w d;have hm:=Bz a left h;have h':=h;rw[ge] at h;split at h
  .cases h
  .rename_i hx;cases t with
   |e x=>exact Br hx h0 x
   |ask i j t1 t2=>
    simp only[dep] at d;obtain⟨hp,w1,w2⟩:=w;have hq:=xH h (i,j) hp;rw[xv] at hq;have la:∀x∈alk ss i j left,x∈left/\iQ (ss.getD x []) (.ask i j t1 t2)=iQ (ss.getD x []) t1:=fun x hx=>by
     obtain⟨q1,q2⟩:=Ta.mp hx;refine⟨q1,?_⟩;have:(ss.getD x []).getD i 0=(ss.getD x []).getD j 0:=by simpa[at2] using q2
     simp only[iQ];rw[if_pos this]
    have lu:∀x∈unl ss i j left,x∈left/\iQ (ss.getD x []) (.ask i j t1 t2)=iQ (ss.getD x []) t2:=fun x hx=>by
     obtain⟨q1,q2⟩:=Ta.mp hx;refine⟨q1,?_⟩;have:¬(ss.getD x []).getD i 0=(ss.getD x []).getD j 0:=by simpa[at2] using q2
     simp only[iQ];rw[if_neg this]
    have pick1:∀l,l≠[]->(∀x∈l,x∈left/\iQ (ss.getD x []) (.ask i j t1 t2)=iQ (ss.getD x []) t1)->ge ps ss es a l=none->∃x∈left,iQ (ss.getD x []) (.ask i j t1 t2)∉es.getD x []:=fun l hl hm2 hn=>by
     obtain⟨x,hx,q⟩:=ih l hl hn t1 w1 ⋯;obtain⟨z1,z2⟩:=hm2 x hx;exact⟨x,z1,by rw[z2];exact q⟩
    have pick2:∀l,l≠[]->(∀x∈l,x∈left/\iQ (ss.getD x []) (.ask i j t1 t2)=iQ (ss.getD x []) t2)->ge ps ss es a l=none->∃x∈left,iQ (ss.getD x []) (.ask i j t1 t2)∉es.getD x []:=fun l hl hm2 hn=>by
     obtain⟨x,hx,q⟩:=ih l hl hn t2 w2 ⋯;obtain⟨z1,z2⟩:=hm2 x hx;exact⟨x,z1,by rw[z2];exact q⟩
    by_cases ha:alk ss i j left=[]
    .refine pick2 left h0 (fun x hx=>⟨hx,(lu x<|Ta.mpr ⟨hx,?_⟩).2⟩) hm;have:=TY.mp ha x hx;simpa using this
    .by_cases hu:unl ss i j left=[]
     .refine pick1 left h0 (fun x hx=>⟨hx,(la x<|Ta.mpr ⟨hx,?_⟩).2⟩) hm;have:=TY.mp hu x hx;simpa using this
     .rcases hq with z|z|z|z
      .exact absurd z ha
      .exact absurd z hu
      .exact pick1 _ ha la z
      .exact pick2 _ hu lu z
def ji(pm:ŕ)(em:Ŝ):Nat->Nat->Bool
 |0,m=>em.all fun e=>m &&& e !=m
 |a+1,m=>(em.all fun e=>m &&& e !=m)&&pm.all fun p=>m &&& p.1==0||(m &&& p.2==0||(ji pm em a (m &&& p.2)||ji pm em a (m &&& p.1)))
def Ms(left:Ŝ)(m:Nat):Prop:=∀x,x∈left↔m.testBit x=true
theorem Ms.zero{left:Ŝ}{m:Nat}(h:Ms left m):left=[]↔m=0:=by
 constructor
 .intro e;subst e;refine Nat.eq_of_testBit_eq fun i=>?_;have:=h i;simp at this;simp[this]
 .intro e;subst e;refine List.eq_nil_iff_forall_not_mem.mpr fun x hx=>?_;have:=(h x).mp hx;simp at this
structure Mk (ps:ŕ) (ss:List Ŕ) (es:List (List Œ)) (pm:ŕ) (em:Ŝ) (ends:List Œ):Prop where
 pl:pm.length=ps.length
 p1:∀(k:Nat) (p q:Nat×Nat),ps[k]?=some p->pm[k]?=some q->∀x,x<ss.length->(q.1.testBit x=decide (at2 ss x p.1=at2 ss x p.2))/\(q.2.testBit x=!decide (at2 ss x p.1=at2 ss x p.2))
 el:em.length=ends.length
 e1:∀(k:Nat) (e:Œ) (q:Nat),ends[k]?=some e->em[k]?=some q->∀x,x<ss.length->q.testBit x=decide (e∈es.getD x [])
 en:∀x,x<ss.length->∀e∈es.getD x [],e∈ends
theorem none_of(K:Mk ps ss es pm em ends):∀(a:Nat) (left:Ŝ) (m:Nat),Ms left m->(∀x∈left,x<ss.length)->left≠[]->ji pm em a m=true->ge ps ss es a left=none:=by
 have noend:∀(left:Ŝ) (m:Nat),Ms left m->(∀x∈left,x<ss.length)->left≠[]->(em.all fun e=>m &&& e !=m)=true->cE es left=none:=by
  intro left m hm hl h0 he;cases hc:cE es left with
  |none=>rfl
  |some y=>
   have hs:=O1 hc;obtain⟨x0,r,rfl⟩:=UI h0;have hy:=K.en x0 (hl x0 nofun) y (hs x0 nofun);obtain⟨k,hk⟩:=TK hy;have hkl:k<em.length:=by rw[K.el];exact(SG.mp hk).1
   have hq:=SO hkl;have:=Tf.mp he em[k] (TU _);have e2:m &&& em[k]=m:=by
    refine Nat.eq_of_testBit_eq fun i=>?_;rw[VG];cases hb:m.testBit i with
    |false=>rfl
    |true=>
     have hi:=(hm i).mpr hb;rw[K.e1 k y em[k] hk hq i (hl i hi)];simpa using hs i hi
   rw[e2] at this;simp at this
 intro a;induction a with
 |zero=>
  intro left m hm hl h0 h;rw[ge,noend left m hm hl h0 h];rfl
 |succ a ih=>
  intro left m hm hl h0 h;simp only[ji,Tq] at h;rw[ge,noend left m hm hl h0 h.1];show ps.findSome? _=none;rw[List.findSome?_eq_none_iff];intro p hp;rw[xv];obtain⟨k,hk⟩:=TK hp;have hkl:k<pm.length:=by rw[K.pl];exact(SG.mp hk).1
  have hq:=SO hkl;have hall:=Tf.mp h.2 pm[k] (TU _);have hbit:=K.p1 k p pm[k] hk hq;have ma:Ms (alk ss p.1 p.2 left) (m &&& pm[k].1):=fun x=>by
   unfold alk;rw[Ta,VG,Tq];constructor
   .rintro⟨h1,h2⟩;exact⟨(hm x).mp h1,by rw[(hbit x<|hl x h1).1];exact h2⟩
   .rintro⟨h1,h2⟩;have:=(hm x).mpr h1;exact⟨this,by rw[(hbit x<|hl x this).1] at h2;exact h2⟩
  have mu:Ms (unl ss p.1 p.2 left) (m &&& pm[k].2):=fun x=>by
   unfold unl;rw[Ta,VG,Tq];constructor
   .rintro⟨h1,h2⟩;exact⟨(hm x).mp h1,by rw[(hbit x<|hl x h1).2];exact h2⟩
   .rintro⟨h1,h2⟩;have:=(hm x).mpr h1;exact⟨this,by rw[(hbit x<|hl x this).2] at h2;exact h2⟩
  by_cases ha:alk ss p.1 p.2 left=[]
  .exact .inl ha
  .by_cases hu:unl ss p.1 p.2 left=[]
   .exact .inr (.inl hu)
   .simp only[Bool.or_eq_true,beq_iff_eq] at hall;rcases hall with z|z|z|z
    .exact absurd (ma.zero.mpr z) ha
    .exact absurd (mu.zero.mpr z) hu
    .exact .inr (.inr<|.inr<|ih _ _ mu (fun x hx=>hl x (Ta.mp hx).1) hu z)
    .exact .inr (.inr<|.inl<|ih _ _ ma (fun x hx=>hl x (Ta.mp hx).1) ha z)
end
end Law
namespace L3
open PySem L2
end L3
namespace L2
open PySem PySem.Spec PyProof.Rows
end L2
namespace L3
open PySem L2
end L3
namespace L2
open PySem PySem.Spec PyProof.Rows
section
open PySem.SeqAt
open PySem.AutoSeq1 (wpAny_loadPart')
open PySem.MeetsSeq PySem.MeetsSeq2 PySem.MeetsSeq3 PySem.SeqRoads2
end
end L2
namespace L3
open PySem PySem.Spec L2
end L3
namespace L2
open PySem PySem.Spec PyProof.Rows
end L2
namespace L3
open PySem L2
section
variable {X:Cx} {K:Frag} {a:Expr} {pos:Pos}
def sB(f:D->M->SB)(ev:EX):EX:=fun B O=>(ev B O).bind fun p=>match p.1 with
 | .ok d=>(f d p.2).bind fun q=>some (.ok q.1,q.2)
 | .ex C=>some (.ex C,p.2)
variable {E:St->XK} {ex:EX} {p:Pos}
theorem MI(ra:R1A K r f):∀L H Q,tX K E (sB f ex) L H Q->(fun L H Q=>tX K E ex L H fun x H1=>r x H1 Q:TE) L H Q:=fun L H Q h=>by
 refine el4 h fun W B rr Z5 eH ok en e q=>?_;subst eH;obtain⟨⟨p1,p2⟩,e1,e⟩:=bnd e;refine(⟨W,B,p1,p2,rfl,ok,en,e1,fun W1 Z2 ok1 s1=>?_⟩);cases p1 with
 |ex C=>cases e;exact q W1 Z2 ok1 s1
 |ok d=>
  intro v rv;obtain⟨⟨d2,Z3⟩,e2,e⟩:=bnd e;cases e;exact ra W1 v _ _ _ Q ok1 rv (by rw[Z2];exact e2) fun v W3 ZR ok3 s3 r3=>q W3 ZR ok3 (s1.trans s3) v r3
theorem OX(mm:X.mg "all"=none) (ha:PE X a (tX K E ex)) (hc:X.calm=true:=by rfl) (hg:Gl X "all":=by rfl) (hs:starEach [a] X.env=[(false,eval a X.env)]:=by rfl) (hK:X.K=K:=by rfl):PE X (.Call (.Name "all" p) [a] [] pos) (tX K E<|sB jp ex):=fZ (B8 K mm ha hc hg hs hK) (MI (by
 intro W x d z Z5 Q ok r1 hf q;refine fF hf fun ds h1 hf=>?_;refine fF hf fun ns h2 hf=>?_;cases hf;obtain⟨a,vs,rfl,hs,hv⟩:=lK ok h1 r1;have:=wE h2 hv;subst this;exact⟨a,ns,rfl,hs,q _ W rfl ok .refl (.bl _)⟩))
end
end L3
namespace L2
open PySem PySem.Spec PyProof.Rows HT
end L2
namespace L3
open PySem L2
end L3
namespace Law
open PySem L2 L3 PyProof.Rows
def Pj(h:∀j,j<i->v j=v' j):firstMet v i=firstMet v' i:=by
 unfold firstMet;have:(List.range i).map v=(List.range i).map v':=TZ fun j hj=>h j (TR.mp hj);rw[this]
def KI(s:Ŕ)(x:Int):l7 (s++[x])=if x∈s then l7 s else l7 s+1:=by
 unfold l7;rw[Tx,U8,firstMet_succ,step_length];have e:firstMet (fun i=>(s++[x]).getD i 0) s.length=firstMet (fun i=>s.getD i 0) s.length:=Pj fun j hj=>by
  simp[SK,S1 hj]
 have ex:(s++[x]).getD s.length 0=x:=by simp[SK]
 rw[e,ex,firstMet_any];have em:((List.range s.length).map fun i=>s.getD i 0)=s:=by
  apply List.ext_getElem
  .simp
  .intro i h1 h2;simp[SK,SO h2]
 rw[em];have eb:s.any (·==x)=decide (x∈s):=by
  rw[T1];simp[Uh]
 rw[eb];by_cases h:x∈s<;>simp[h]
def Sx:Nat->Nat->List (List Int×Nat)
 |0,_=>[([],0)]
 |n+1,m=>(Sx n m).flatMap fun p=>(List.range<|min (p.2+1) m).map fun(i:Nat)=>(p.1++[(i:Int)],max p.2<|i+1)
structure Gd (n m:Nat) (p:List Int×Nat):Prop where
 len:p.1.length=n
 mem:∀x:Int,x∈p.1↔0<=x/\x<p.2
 dist:l7 p.1=p.2
 le:p.2<=m
 len2:p.2<=n
 rise:∀(k:Nat) (x:Int),p.1[k]?=some x->0<=x/\x<=l7 (p.1.take k)
theorem nY(m:Nat):∀(n:Nat) (p:List Int×Nat),p∈Sx n m->Gd n m p
 |0,p,h=>by
  simp[Sx] at h;subst h;exact⟨rfl,fun x=>by simp,rfl,TQ _,SF _,fun k x e=>by simp at e⟩
 |n+1,p,h=>by
  simp only[Sx,Ug,Te,TR] at h;obtain⟨q,hq,i,hi,rfl⟩:=h;have g:=nY m n q hq;have him:i<m:=by omega
  have hiu:i<=q.2:=by omega
  refine(⟨by simp[g.len],fun x=>?_,?_,?_,?_,?_⟩)
  .simp only[Tb,Tu,g.mem];omega
  .show l7 (q.1++[(i:Int)])=max q.2 (i+1);rw[KI,g.dist];by_cases hm:(i:Int)∈q.1
   .rw[if_pos hm];have:=(g.mem _).mp hm;omega
   .rw[if_neg hm];have:¬(i:Int)<q.2:=fun z=>hm ((g.mem _).mpr ⟨by omega,z⟩);omega
  .have:=g.le;show max q.2 (i+1)<=m;omega
  .have:=g.len2;show max q.2 (i+1)<=n+1;omega
  .intro k x e;have e:(q.1++[(i:Int)])[k]?=some x:=e;show 0<=x/\x<=l7 ((q.1++[(i:Int)]).take k);by_cases hk:k<q.1.length
   .rw[S1 hk] at e;rw[List.take_append_of_le_length ⋯];exact g.rise k x e
   .rw[Th ⋯] at e;have hz:k=q.1.length:=by
     have:=(SG.mp e).1;simp at this;omega
    subst hz;simp at e;subst e;rw[List.take_append_of_le_length ⋯,Vz,g.dist];omega
def Gd.used(g:Gd n m p):(mxL p.1).getD (-1)+1=(p.2:Int):=by
 cases hn:mxL p.1 with
 |none=>
  have:p.1=[]:=by cases h:p.1 with
   |nil=>rfl
   |cons a r=>rw[h] at hn;cases hn
  have h0:p.2=0:=by
   rcases Nat.eq_zero_or_pos p.2 with z|z
   .exact z
   .have:=(g.mem 0).mpr ⟨by omega,by omega⟩;rw[‹p.1=[]›] at this;cases this
  simp[h0]
 |some M=>
  have hM:=zA hn;have h1:=(g.mem M).mp hM.1;have h2:=hM.2 ((p.2:Int) - 1) ((g.mem _).mpr ⟨by omega,by omega⟩);simp only[Option.getD_some];omega
def Rf(n:Nat)(h:8<=m):n<=7->Sx n m=Sx n 8:=by
 induction n with
 |zero=>intro _;rfl
 |succ n ih=>
  intro hn;rw[Sx,Sx,ih ⋯];rw[List.flatMap_def,List.flatMap_def];congr 1;apply TZ;intro p hp;have:=(nY 8 n p hp).len2;have e:min (p.2+1) m=min (p.2+1) 8:=by omega
  rw[e]
def BJ:∀n<8,∀m<9,(Sx n m).length<=877:=by decide +kernel
def p0(hn:n<=7)(m:Nat):(Sx n m).length<=877:=by
 by_cases h:m<9
 .exact BJ n ⋯ m h
 .rw[Rf n ⋯ hn];exact BJ n ⋯ 8 ⋯
def j3(s:Ŕ)(as:ť):Bool:=as.all fun a=>decide (s.getD a.1 0=s.getD a.2.1 0)==a.2.2
def InN(n:Nat)(as:ť):Prop:=∀a∈as,a.1<n/\a.2.1<n
theorem AL{J:Type}(f:Nat->J)(m:Nat):∀n,n<=m->∃p∈Sx n m,∀x y,x<n->y<n->(p.1.getD x 0=p.1.getD y 0↔f x=f y)
 |0,_=>⟨([],0),by simp[Sx],fun x y h=>by omega⟩
 |n+1,hn=>by
  obtain⟨p,hp,hf⟩:=AL f m n ⋯;have g:=nY m n p hp;have hg:=g.len2;have lt_of:∀x,x<n->p.1.getD x 0∈p.1:=fun x hx=>by
   rw[SK,SO (by rw[g.len];exact hx)];exact TU _
  obtain⟨i,hi,him⟩:∃i:Nat,i<min (p.2+1) m/\∀x,x<n->(p.1.getD x 0=(i:Int)↔f x=f n):=by
   by_cases h:∃x,x<n/\f x=f n
   .obtain⟨x0,hx0,e0⟩:=h;have h1:=(g.mem _).mp (lt_of x0 hx0);refine⟨(p.1.getD x0 0).toNat,by have:=g.le;omega,fun x hx=>?_⟩;have e:((p.1.getD x0 0).toNat:Int)=p.1.getD x0 0:=by omega
    rw[e,←e0];exact hf x x0 hx hx0
   .refine⟨p.2,by omega,fun x hx=>⟨fun e=>?_,fun e=>absurd ⟨x,hx,e⟩ h⟩⟩;have h1:=(g.mem _).mp (lt_of x hx);omega
  refine⟨(p.1++[(i:Int)],max p.2<|i+1),?_,?_⟩
  .simp only[Sx,Ug,Te,TR];exact⟨p,hp,i,hi,rfl⟩
  .have old:∀x,x<n->(p.1++[(i:Int)]).getD x 0=p.1.getD x 0:=fun x hx=>by
    simp[SK,S1 (show x<p.1.length by rw[g.len];exact hx)]
   have new:(p.1++[(i:Int)]).getD n 0=(i:Int):=by
    have:n=p.1.length:=g.len.symm;simp[SK,this]
   intro x y hx hy;show(p.1++[(i:Int)]).getD x 0=(p.1++[(i:Int)]).getD y 0↔_;rcases Nat.lt_succ_iff_lt_or_eq.mp hx with hx|rfl<;>rcases Nat.lt_succ_iff_lt_or_eq.mp hy with hy|rfl
   .rw[old x hx,old y hy];exact hf x y hx hy
   .rw[old x hx,new];exact him x hx
   .rw[old y hy,new];have:=him y hy;constructor
    .intro e;exact(this.mp e.symm).symm
    .intro e;exact(this.mpr e.symm).symm
   .simp
def FL(hv:InN n as)(h:g7 as=true):∃p∈Sx n n,j3 p.1 as=true:=by
 obtain⟨p,hp,hf⟩:=AL (fun x=>Conn as x) n n (SF _);have eqv:∀x y,Conn as x=Conn as y↔Conn as x y:=fun x y=>
  ⟨fun e=>by rw[e];exact .refl y,fun c=>funext fun z=>propext ⟨fun d=>c.symm.trans d,fun d=>c.trans d⟩⟩
 refine⟨p,hp,?_⟩;unfold j3;rw[Tf];intro a ha;obtain⟨h1,h2⟩:=hv a ha;have e:=(hf a.1 a.2.1 h1 h2).trans (eqv _ _);have ok:=yd as;cases hb:a.2.2 with
 |true=>
  have hm:(a.1,a.2.1,true)∈as:=by
   have e0:(a.1,a.2.1,true)=a:=by rw[←hb]
   rw[e0];exact ha
  have:Conn as a.1 a.2.1:=Conn.one (mem_nb.mpr<|.inl hm);rw[S3 (e.mpr this)];rfl
 |false=>
  have hc:=Tf.mp h a ha;rw[hb] at hc;simp at hc;have:¬Conn as a.1 a.2.1:=fun c=>hc (ok.conn c);rw[SJ (mt e.mp this)];rfl
def Kj(h:j3 s as=true):g7 as=true:=by
 have hall:=Tf.mp h;have con:∀x y,Conn as x y->s.getD x 0=s.getD y 0:=by
  intro x y c;induction c with
  |refl=>rfl
  |step _ e ih=>
   rw[ih];rcases mem_nb.mp e with z|z
   .have:=hall _ z;simpa using this
   .have:=hall _ z;simp at this;exact this.symm
 unfold g7;rw[Tf];intro a ha;have ok:=yd as;cases hb:a.2.2 with
 |true=>simp
 |false=>
  have h1:=hall a ha;rw[hb] at h1;simp only[Bool.false_or,Bool.not_eq_true',decide_eq_false_iff_not];intro e;have c:=(ok.iff (ok.named a ha).1).mp e;rw[con _ _ c] at h1;simp at h1
def gZ(n:Nat)(as:ť):List Ŕ:=((Sx n n).map (·.1)).filter fun s=>j3 s as
def wa(hv:InN n as):gZ n as=[]↔g7 as=false:=by
 constructor
 .intro h;cases hc:g7 as with
  |false=>rfl
  |true=>
   obtain⟨p,hp,hf⟩:=FL hv hc;have:p.1∈gZ n as:=Ta.mpr ⟨List.mem_map_of_mem hp,hf⟩;rw[h] at this;cases this
 .intro h;unfold gZ;rw[TY];intro s hs hf;rw[Kj hf] at h;cases h
def jv(gs:List (Int×Ŕ))(k:Int)(t:Int):List (Int×Ŕ):=
 if(gs.any fun g=>decide (g.1=k))=true then gs.map fun g=>if g.1=k then(g.1,g.2++[t]) else g else gs++[(k,[t])]
def mh:Nat->Ŕ->List (Int×Ŕ)->List (Int×Ŕ)
 |_,[],gs=>gs
 |i,k::r,gs=>mh (i+1) r (jv gs k (i:Int))
def grp(s:Ŕ):List (Int×Ŕ):=mh 0 s []
end Law
namespace L3
open PySem PySem.Spec L2
def Wp{J:Type}(r:Option (J×M))(Q:J->M->Prop):Prop:=∃a O,r=some (a,O)/\Q a O
def Ws(r:Option (Out×G×M))(Q:Out->G->M->Prop):Prop:=∃o B O,r=some (o,B,O)/\Q o B O
section
variable {J β:Type} {B:G} {O:M} {ea eb:EV} {ba bb:BV} {el:LV} {sa sb:SV} {i j n m:Nat} {d x y:D} {ds:ŗ} {b:Bool} {g:GV} {gs:GsV} {o:ţ} {iv:IV} {lo hi:OV}
theorem Wp.imp{r:Option (J×M)}{Q R:J->M->Prop}(h:Wp r Q)(f:∀a O,Q a O->R a O):Wp r R:=let ⟨a,O,e,q⟩:=h;⟨a,O,e,f a O q⟩
theorem Ws.imp{r:Option (Out×G×M)}{Q R:Out->G->M->Prop}(h:Ws r Q)(f:∀o B O,Q o B O->R o B O):Ws r R:=let ⟨a,B,O,e,q⟩:=h;⟨a,B,O,e,f a B O q⟩
theorem wp_some{a:J}{Q:J->M->Prop}:Wp (some (a,O)) Q↔Q a O:=⟨fun⟨_,_,e,q⟩=>by cases e;exact q,fun q=>⟨_,_,rfl,q⟩⟩
theorem ws_some{out:Out}{Q:Out->G->M->Prop}:Ws (some (out,B,O)) Q↔Q out B O:=⟨fun⟨_,_,_,e,q⟩=>by cases e;exact q,fun q=>⟨_,_,_,rfl,q⟩⟩
theorem wp_bind{r:Option (J×M)}{f:J×M->Option (β×M)}{Q:β->M->Prop}:Wp (r.bind f) Q↔Wp r fun a O=>Wp (f (a,O)) Q:=by
 cases r with
 |none=>exact⟨fun⟨_,_,e,_⟩=>(by cases e),fun⟨_,_,e,_⟩=>(by cases e)⟩
 |some p=>exact⟨fun h=>⟨p.1,p.2,rfl,h⟩,fun⟨_,_,e,h⟩=>by cases e;exact h⟩
theorem ws_bind{r:Option (J×M)}{f:J×M->Option (Out×G×M)}{Q:Out->G->M->Prop}:Ws (r.bind f) Q↔Wp r fun a O=>Ws (f (a,O)) Q:=by
 cases r with
 |none=>exact⟨fun⟨_,_,_,e,_⟩=>(by cases e),fun⟨_,_,e,_⟩=>(by cases e)⟩
 |some p=>exact⟨fun h=>⟨p.1,p.2,rfl,h⟩,fun⟨_,_,e,h⟩=>by cases e;exact h⟩
theorem wss_bind{r:Option (Out×G×M)}{f:Out×G×M->Option (Out×G×M)}{Q:Out->G->M->Prop}:Ws (r.bind f) Q↔Ws r fun o B O=>Ws (f (o,B,O)) Q:=by
 cases r with
 |none=>exact⟨fun⟨_,_,_,e,_⟩=>(by cases e),fun⟨_,_,_,e,_⟩=>(by cases e)⟩
 |some p=>exact⟨fun h=>⟨p.1,p.2.1,p.2.2,rfl,h⟩,fun⟨_,_,_,e,h⟩=>by cases e;exact h⟩
theorem wps_bind{r:Option (Out×G×M)}{f:Out×G×M->Option (β×M)}{Q:β->M->Prop}:Wp (r.bind f) Q↔Ws r fun o B O=>Wp (f (o,B,O)) Q:=by
 cases r with
 |none=>exact⟨fun⟨_,_,e,_⟩=>(by cases e),fun⟨_,_,_,e,_⟩=>(by cases e)⟩
 |some p=>exact⟨fun h=>⟨p.1,p.2.1,p.2.2,rfl,h⟩,fun⟨_,_,_,e,h⟩=>by cases e;exact h⟩
theorem wpo_bind{r:Option J}{f:J->Option (β×M)}{Q:β->M->Prop}:Wp (r.bind f) Q↔∃a,r=some a/\Wp (f a) Q:=by
 cases r with
 |none=>exact⟨fun⟨_,_,e,_⟩=>(by cases e),fun⟨_,e,_⟩=>(by cases e)⟩
 |some p=>exact⟨fun h=>⟨p,rfl,h⟩,fun⟨_,e,h⟩=>by cases e;exact h⟩
theorem ni{r:Option (J×M)}{a:J}{Q:J->M->Prop}(e:r=some (a,O))(h:Q a O):Wp r Q:=⟨_,_,e,h⟩
variable {R:D->M->Prop} {RL:ŗ->M->Prop} {RB:Bool->M->Prop} {RG:G->M->Prop} {RI:List D×Ck->M->Prop} {RO:Œ->M->Prop} {Q:Out->G->M->Prop}
theorem pc:Wp (be 0 (some d::B) O) R↔R d O:=wp_some
theorem oF:Wp (be (i+1) (o::B) O) R↔Wp (be i B O) R:=SR
theorem w_c:Wp (vC d B O) R↔R d O:=wp_some
def q1(f:D->M->SB)(R:D->M->Prop):D->M->Prop:=fun x O=>Wp (f x O) R
theorem q1_:q1 f R x O↔Wp (f x O) R:=SR
theorem Ow:Wp (v1 f ea B O) R↔Wp (ea B O) (q1 f R):=wp_bind
def q2b(f:D->D->M->SB)(x:D)(R:D->M->Prop):D->M->Prop:=fun y O=>Wp (f x y O) R
theorem QR:q2b f x R y O↔Wp (f x y O) R:=SR
def q2(f:D->D->M->SB)(eb:EV)(B:G)(R:D->M->Prop):D->M->Prop:=fun x O=>Wp (eb B O) (q2b f x R)
theorem q2_:q2 f eb B R x O↔Wp (eb B O) (q2b f x R):=SR
theorem Gm:Wp (v2 f ea eb B O) R↔Wp (ea B O) (q2 f eb B R):=wp_bind.trans ⟨fun h=>h.imp fun _ _ q=>wp_bind.mp q,fun h=>h.imp fun _ _ q=>wp_bind.mpr q⟩
def qL(f:Fr)(R:D->M->Prop):ŗ->M->Prop:=fun ds O=>Wp (f ds O) R
theorem qL_:qL f R ds O↔Wp (f ds O) R:=SR
theorem Hw:Wp (vL f el B O) R↔Wp (el B O) (qL f R):=wp_bind
theorem nT:Wp (fE B O) RL↔RL [] O:=wp_some
def qc2(x:D)(RL:ŗ->M->Prop):ŗ->M->Prop:=fun ds O=>RL (x::ds) O
theorem oK:qc2 x RL ds O↔RL (x::ds) O:=SR
def qc(el:LV)(B:G)(RL:ŗ->M->Prop):D->M->Prop:=fun x O=>Wp (el B O) (qc2 x RL)
theorem qc_:qc el B RL x O↔Wp (el B O) (qc2 x RL):=SR
theorem pO:Wp (fB ea el B O) RL↔Wp (ea B O) (qc el B RL):=wp_bind.trans ⟨fun h=>h.imp fun _ _ q=>(wp_bind.mp q).imp fun _ _ q=>(wp_some (Q:=RL)).mp q,fun h=>h.imp fun _ _ q=>wp_bind.mpr<|q.imp fun _ _ q=>(wp_some (Q:=RL)).mpr q⟩
def qT(RB:Bool->M->Prop):D->M->Prop:=fun d O=>∃b,d=.bl b/\RB b O
theorem qT_:qT RB (.bl b) O↔RB b O:=⟨fun⟨_,e,q⟩=>by cases e;exact q,fun q=>⟨_,rfl,q⟩⟩
theorem w_T:Wp (vT ea B O) RB↔Wp (ea B O) (qT RB):=wp_bind.trans ⟨fun h=>h.imp fun d O q=>by
  obtain⟨b,Z5,e,q⟩:=q;cases d<;>cases e
  exact⟨_,rfl,q⟩,fun h=>h.imp fun d O q=>by obtain⟨b,rfl,q⟩:=q;exact wp_some.mpr q⟩
def qTr(RB:Bool->M->Prop):D->M->Prop:=fun d O=>∃b,tru O d=some b/\RB b O
theorem MS:qTr RB (.bl b) O↔RB b O:=⟨fun⟨_,e,q⟩=>by cases e;exact q,fun q=>⟨_,rfl,q⟩⟩
theorem RS:Wp (gG ea B O) RB↔Wp (ea B O) (qTr RB):=wp_bind.trans ⟨fun h=>h.imp fun d O q=>by
  obtain⟨b,e,q⟩:=wpo_bind.mp q;exact⟨b,e,wp_some.mp q⟩,fun h=>h.imp fun d O ⟨b,e,q⟩=>wpo_bind.mpr ⟨b,e,wp_some.mpr q⟩⟩
def CO(RB:Bool->M->Prop):Bool->M->Prop:=fun b O=>RB (!b) O
theorem KP:CO RB b O↔RB (!b) O:=SR
theorem M0:Wp (iO ba B O) RB↔Wp (ba B O) (CO RB):=wp_bind.trans ⟨fun h=>h.imp fun _ _ q=>(wp_some (Q:=RB)).mp q,fun h=>h.imp fun _ _ q=>(wp_some (Q:=RB)).mpr q⟩
def vI(bb:BV)(B:G)(RB:Bool->M->Prop):Bool->M->Prop:=fun b O=>if b=true then Wp (bb B O) RB else RB false O
theorem IG:vI bb B RB true O↔Wp (bb B O) RB:=SR
theorem Pk:vI bb B RB false O↔RB false O:=SR
theorem EI:Wp (k9 ba bb B O) RB↔Wp (ba B O) (vI bb B RB):=wp_bind.trans ⟨fun h=>h.imp fun b _ q=>by cases b;exact(wp_some (Q:=RB)).mp q;exact q,fun h=>h.imp fun b _ q=>by cases b;exact(wp_some (Q:=RB)).mpr q;exact q⟩
def qOr(bb:BV)(B:G)(RB:Bool->M->Prop):Bool->M->Prop:=fun b O=>if b=true then RB true O else Wp (bb B O) RB
theorem NL:qOr bb B RB true O↔RB true O:=SR
theorem Im:qOr bb B RB false O↔Wp (bb B O) RB:=SR
theorem J1:Wp (bOr ba bb B O) RB↔Wp (ba B O) (qOr bb B RB):=wp_bind.trans ⟨fun h=>h.imp fun b _ q=>by cases b;exact q;exact(wp_some (Q:=RB)).mp q,fun h=>h.imp fun b _ q=>by cases b;exact q;exact(wp_some (Q:=RB)).mpr q⟩
theorem OD:Wp (fQ B O) RB↔RB true O:=wp_some
def qIf(ea eb:EV)(B:G)(R:D->M->Prop):Bool->M->Prop:=fun b O=>if b=true then Wp (ea B O) R else Wp (eb B O) R
theorem Oe:qIf ea eb B R true O↔Wp (ea B O) R:=SR
theorem Kv:qIf ea eb B R false O↔Wp (eb B O) R:=SR
theorem HK:Wp (vIf ba ea eb B O) R↔Wp (ba B O) (qIf ea eb B R):=wp_bind.trans ⟨fun h=>h.imp fun b _ q=>by cases b<;>exact q,fun h=>h.imp fun b _ q=>by cases b<;>exact q⟩
def kVA(eb:EV)(B:G)(d:D)(O:M):SB:=match d with
 | .bl true=>eb B O
 | .bl false=>some (.bl false,O)
 |_=>none
def qVA(eb:EV)(B:G)(R:D->M->Prop):D->M->Prop:=fun d O=>Wp (kVA eb B d O) R
theorem E6:qVA eb B R (.bl true) O↔Wp (eb B O) R:=SR
theorem Kx:Wp (l3 ea eb B O) R↔Wp (ea B O) (qVA eb B R):=wp_bind
def NO(eb:EV)(B:G)(d:D)(O:M):SB:=match d with
 | .bl true=>some (.bl true,O)
 | .bl false=>eb B O
 |_=>none
def qVO(eb:EV)(B:G)(R:D->M->Prop):D->M->Prop:=fun d O=>Wp (NO eb B d O) R
theorem Ri:qVO eb B R (.bl false) O↔Wp (eb B O) R:=SR
def qm2(f:D->D->M->SB)(eb:EV)(B:G)(R:D->M->Prop):D->M->Prop:=fun x O=>(∃l,gu O x=some l)/\Wp (eb B O) (q2b f x R)
theorem RH:Wp (jw f ea eb B O) R↔Wp (ea B O) (qm2 f eb B R):=wp_bind.trans ⟨fun h=>h.imp fun _ _ q=>by obtain⟨l,e,q⟩:=wpo_bind.mp q;exact⟨⟨l,e⟩,wp_bind.mp q⟩,fun h=>h.imp fun _ _ ⟨⟨l,e⟩,q⟩=>wpo_bind.mpr ⟨l,e,wp_bind.mpr q⟩⟩
theorem IF(h:O[k]?=some (some<|.lst ds)):qm2 f eb B R (.ref k) O↔Wp (eb B O) (q2b f (.ref k) R):=⟨fun q=>q.2,fun q=>⟨⟨_,n0 h⟩,q⟩⟩
theorem Qq:Wp (nC B O) RO↔RO none O:=wp_some
def qoS(RO:Œ->M->Prop):D->M->Prop:=fun d O=>∃k,d=.int k/\RO (some k) O
theorem Ix:qoS RO (.int k) O↔RO (some k) O:=⟨fun⟨_,e,q⟩=>by cases e;exact q,fun q=>⟨_,rfl,q⟩⟩
theorem Lo:Wp (m3 ea B O) RO↔Wp (ea B O) (qoS RO):=wp_bind.trans ⟨fun h=>h.imp fun d O q=>by
  obtain⟨b,Z5,e,q⟩:=q;cases d<;>cases e
  exact⟨_,rfl,q⟩,fun h=>h.imp fun d O q=>by obtain⟨b,rfl,q⟩:=q;exact wp_some.mpr q⟩
def qs3(x:D)(l:Œ)(R:D->M->Prop):Œ->M->Prop:=fun h O=>Wp (fSl x l h O) R
theorem LA:qs3 x l R h O↔Wp (fSl x l h O) R:=SR
def qs2(hi:OV)(B:G)(x:D)(R:D->M->Prop):Œ->M->Prop:=fun l O=>Wp (hi B O) (qs3 x l R)
theorem Ra:qs2 hi B x R l O↔Wp (hi B O) (qs3 x l R):=SR
def qs1(lo hi:OV)(B:G)(R:D->M->Prop):D->M->Prop:=fun x O=>Wp (lo B O) (qs2 hi B x R)
theorem Lb:qs1 lo hi B R x O↔Wp (lo B O) (qs2 hi B x R):=SR
theorem HY:Wp (vSl ea lo hi B O) R↔Wp (ea B O) (qs1 lo hi B R):=wp_bind.trans ⟨fun h=>h.imp fun _ _ q=>(wp_bind.mp q).imp fun _ _ q=>wp_bind.mp q,fun h=>h.imp fun _ _ q=>wp_bind.mpr<|q.imp fun _ _ q=>wp_bind.mpr q⟩
theorem J5:Wp (fD i d B O) RG↔RG (B.set i<|some d) O:=wp_some
theorem Hr:Wp (gF [] B O) RG↔RG B O:=wp_some
def qgc(gs:GsV)(ds:ŗ)(RG:G->M->Prop):G->M->Prop:=fun B O=>Wp (gs ds B O) RG
theorem Mr:qgc gs ds RG B O↔Wp (gs ds B O) RG:=SR
theorem QM:Wp (fN g gs (d::ds) B O) RG↔Wp (g d B O) (qgc gs ds RG):=wp_bind
theorem mv(h:ds.length=n):Wp (gy n gs (.tup ds) B O) RG↔Wp (gs ds B O) RG:=by
 show Wp (if ds.length=n then gs ds B O else none) RG↔_;rw[if_pos h]
def qSq(sb:SV)(Q:Out->G->M->Prop):Out->G->M->Prop:=fun o B O=>match o with
 | .nx=>Ws (sb B O) Q
 |o=>Q o B O
theorem Ht:qSq sb Q .nx B O↔Ws (sb B O) Q:=SR
theorem Mp:qSq sb Q (.rt d) B O↔Q (.rt d) B O:=SR
theorem Nf:qSq sb Q .bk B O↔Q .bk B O:=SR
theorem Rg:qSq sb Q .ct B O↔Q .ct B O:=SR
theorem y8:Ws (fH sa sb B O) Q↔Ws (sa B O) (qSq sb Q):=wss_bind.trans ⟨fun h=>h.imp fun o _ _ q=>by cases o<;>first|exact q|exact(ws_some (Q:=Q)).mp q,fun h=>h.imp fun o _ _ q=>by cases o<;>first|exact q|exact(ws_some (Q:=Q)).mpr q⟩
theorem Q3:Ws (sNx B O) Q↔Q .nx B O:=ws_some
def qEx(B:G)(Q:Out->G->M->Prop):D->M->Prop:=fun _ O=>Q .nx B O
theorem II:qEx B Q d O↔Q .nx B O:=SR
theorem Ib:Ws (kg ea B O) Q↔Wp (ea B O) (qEx B Q):=ws_bind.trans ⟨fun h=>h.imp fun _ _ q=>ws_some.mp q,fun h=>h.imp fun _ _ q=>ws_some.mpr q⟩
def qRt(B:G)(Q:Out->G->M->Prop):D->M->Prop:=fun d O=>Q (.rt d) B O
theorem Jr:qRt B Q d O↔Q (.rt d) B O:=SR
theorem FC:Ws (fM ea B O) Q↔Wp (ea B O) (qRt B Q):=ws_bind.trans ⟨fun h=>h.imp fun _ _ q=>ws_some.mp q,fun h=>h.imp fun _ _ q=>ws_some.mpr q⟩
def qSI(sa sb:SV)(B:G)(Q:Out->G->M->Prop):Bool->M->Prop:=fun b O=>if b=true then Ws (sa B O) Q else Ws (sb B O) Q
theorem En:qSI sa sb B Q true O↔Ws (sa B O) Q:=SR
theorem Me:qSI sa sb B Q false O↔Ws (sb B O) Q:=SR
theorem Fq:Ws (sIf ba sa sb B O) Q↔Wp (ba B O) (qSI sa sb B Q):=ws_bind.trans ⟨fun h=>h.imp fun b _ q=>by cases b<;>exact q,fun h=>h.imp fun b _ q=>by cases b<;>exact q⟩
def qNx(Q:Out->G->M->Prop):G->M->Prop:=fun B O=>Q .nx B O
theorem Il:qNx Q B O↔Q .nx B O:=SR
def qAs(g:GV)(B:G)(Q:Out->G->M->Prop):D->M->Prop:=fun d O=>Wp (g d B O) (qNx Q)
theorem Kk:qAs g B Q d O↔Wp (g d B O) (qNx Q):=SR
theorem zk:Ws (fS ea g B O) Q↔Wp (ea B O) (qAs g B Q):=ws_bind.trans ⟨fun h=>h.imp fun _ _ q=>(ws_bind.mp q).imp fun _ _ q=>ws_some.mp q,fun h=>h.imp fun _ _ q=>ws_bind.mpr<|q.imp fun _ _ q=>ws_some.mpr q⟩
def qFo(g:GV)(sb:SV)(B:G)(Q:Out->G->M->Prop):List D×Ck->M->Prop:=fun s O=>Ws (gD s.2 g sb s.1 B O) Q
theorem Qj:qFo g sb B Q (ds,c) O↔Ws (gD c g sb ds B O) Q:=SR
theorem E5:Ws (iz iv g sb B O) Q↔Wp (iv B O) (qFo g sb B Q):=ws_bind
def qIL(RI:List D×Ck->M->Prop):D->M->Prop:=fun d O=>∃s,lsC O d=some s/\RI s O
theorem Ev:Wp (ivL ea B O) RI↔Wp (ea B O) (qIL RI):=wp_bind.trans ⟨fun h=>h.imp fun d O q=>by
  obtain⟨b,e,q⟩:=wpo_bind.mp q;exact⟨b,e,wp_some.mp q⟩,fun h=>h.imp fun d O ⟨b,e,q⟩=>wpo_bind.mpr ⟨b,e,wp_some.mpr q⟩⟩
theorem MX:qIL RI (.lst ds) O↔RI (ds,none) O:=⟨fun⟨_,e,q⟩=>by cases e;exact q,fun q=>⟨_,rfl,q⟩⟩
def qIR(RI:List D×Ck->M->Prop):D->M->Prop:=fun d O=>∃k,d=.int k/\Wp (ivR (vC<|.int k) [] O) RI
theorem NE:Wp (ivR ea B O) RI↔Wp (ea B O) (qIR RI):=by
 refine wp_bind.trans ⟨fun h=>h.imp fun d O q=>?_,fun h=>h.imp fun d O q=>?_⟩
 .obtain⟨b,Z5,e,q⟩:=q;cases d with
  |int k=>exact⟨_,rfl,_,_,e,q⟩
  |_=>cases e
 .obtain⟨b,rfl,q⟩:=q;exact q
theorem kH(I:ŗ->G->M->Prop)(ds:ŗ)(h0:I ds B O)
  (hs:∀d r B O,I (d::r) B O->Wp (g d B O) fun ZY Z4=>Ws (sb ZY Z4) fun o ZV Z3=>match o with
   | .nx=>gc c Z3/\I r ZV Z3
   | .ct=>gc c Z3/\I r ZV Z3
   | .bk=>Q .nx ZV Z3
   | .rt d=>Q (.rt d) ZV Z3)
  (hq:∀B O,I [] B O->Q .nx B O):Ws (gD c g sb ds B O) Q:=by
 induction ds generalizing B O with
 |nil=>exact ws_some.mpr (hq _ _ h0)
 |cons d r ih=>
  refine ws_bind.mpr ((hs d r B O h0).imp fun ZY Z4 h=>wss_bind.mpr<|h.imp fun o ZV Z3 h=>?_);cases o with
  |nx=>show Ws (chk _ _) Q;rw[jy h.1];exact ih h.2
  |ct=>show Ws (chk _ _) Q;rw[jy h.1];exact ih h.2
  |bk=>exact ws_some.mpr h
  |rt d=>exact ws_some.mpr h
theorem Qf(I:G->M->Prop)(f:G->M->Nat)(N:Nat)(h0:I B O)(hN:f B O<N)
  (hs:∀B O,I B O->Wp (c B O) fun b Z4=>if b=true then Ws (sb B Z4) fun o ZV Z3=>match o with
   | .nx=>I ZV Z3/\f ZV Z3<f B O
   | .ct=>I ZV Z3/\f ZV Z3<f B O
   | .bk=>Q .nx ZV Z3
   | .rt d=>Q (.rt d) ZV Z3 else Q .nx B Z4):Ws (lc c sb N B O) Q:=by
 induction N generalizing B O with
 |zero=>omega
 |succ N ih=>
  refine ws_bind.mpr ((hs B O h0).imp fun b Z4 h=>?_);cases b with
  |false=>exact ws_some.mpr h
  |true=>
   refine wss_bind.mpr (Ws.imp h fun o ZV Z3 h=>?_);cases o with
   |nx=>exact ih (B:=ZV) (O:=Z3) h.1 (by have:=h.2;omega)
   |ct=>exact ih (B:=ZV) (O:=Z3) h.1 (by have:=h.2;omega)
   |bk=>exact ws_some.mpr h
   |rt d=>exact ws_some.mpr h
def qCo(own:Ŗ)(cap:œ)(g:GV)(tc:BV)(te:EV)(B:G)(R:D->M->Prop):List D×Ck->M->Prop:=fun s O=>s.1.length<=1000000/\Wp (gE s.2 g tc te s.1 (gA own cap B) O) fun rs O=>R (.lst rs) O
theorem lM:qCo own cap g tc te B R (ds,c) O↔ds.length<=1000000/\Wp (gE c g tc te ds (gA own cap B) O) fun rs O=>R (.lst rs) O:=SR
theorem QF:Wp (gQ own cap iv g tc te B O) R↔Wp (iv B O) (qCo own cap g tc te B R):=by
 rw[yQ];cases h:iv B O with
 |none=>exact⟨fun⟨_,_,e,_⟩=>(by cases e),fun⟨_,_,e,_⟩=>(by cases e)⟩
 |some p=>
  obtain⟨⟨its,c⟩,Z4⟩:=p;rw[wp_some,yj,lM];by_cases hl:its.length<=1000000
  .rw[if_pos hl];cases e:gE c g tc te its (gA own cap B) Z4 with
   |none=>exact⟨fun⟨_,_,e,_⟩=>(by cases e),fun⟨_,_,_,e,_⟩=>(by cases e)⟩
   |some q=>exact⟨fun⟨_,_,e,h⟩=>by cases e;exact⟨hl,_,_,rfl,h⟩,fun⟨_,_,_,e,h⟩=>by cases e;exact⟨_,_,rfl,h⟩⟩
  .rw[if_neg hl];exact⟨fun⟨_,_,e,_⟩=>(by cases e),fun h=>absurd h.1 hl⟩
theorem comp_inv{c:Ck}{tc:BV}{te:EV}(I:ŗ->ŗ->G->M->Prop)(ds:ŗ){R:ŗ->M->Prop}(h0:I [] ds B O)
  (hs:∀done d r B O,I done (d::r) B O->Wp (g d B O) fun ZY Z4=>Wp (tc ZY Z4) fun b Z3=>if b=true then Wp (te ZY Z3) fun x ZL=>gc c ZL/\I (done++[x]) r ZY ZL else gc c Z3/\I done r ZY Z3)
  (hq:∀done B O,I done [] B O->R done O):Wp (gE c g tc te ds B O) R:=by
 suffices H:∀(ds done:ŗ) (B:G) (O:M),I done ds B O->Wp (gE c g tc te ds B O) fun rs O=>R (done++rs) O from(H ds [] B O h0).imp fun rs O h=>h
 intro ds;induction ds with
 |nil=>intro done B O h;exact wp_some.mpr (by simpa using hq _ _ _ h)
 |cons d r ih=>
  intro done B O h;refine wp_bind.mpr ((hs done d r B O h).imp fun ZY Z4 h=>wp_bind.mpr<|h.imp fun b Z3 h=>?_);cases b with
  |true=>
   refine wp_bind.mpr (Wp.imp h fun x ZL h=>?_);show Wp (chk _ _) _;rw[jy h.1];refine wp_bind.mpr ((ih (done++[x]) ZY ZL h.2).imp fun rs Zr h=>wp_some.mpr ?_);simpa using h
  |false=>
   show Wp (chk _ _) _;have h:gc c Z3/\I done r ZY Z3:=h;rw[jy h.1];exact ih done ZY Z3 h.2
def ue(R:D->M->Prop):Out->G->M->Prop:=fun o _ O=>match o with
 | .rt d=>R d O
 | .nx=>R .non O
 |_=>False
theorem Si:ue R (.rt d) B O↔R d O:=SR
theorem PQ:ue R .nx B O↔R .non O:=SR
theorem iy(h:ds.length=m):Wp (gq n m sa ds O) R↔Ws (sa (ds.map some++List.replicate (n - ds.length) none) O) (ue R):=by
 unfold gq;rw[if_pos h];refine wps_bind.trans ⟨fun h=>h.imp fun o _ _ q=>?_,fun h=>h.imp fun o _ _ q=>?_⟩
 .cases o with
  |rt d=>exact(wp_some (Q:=R)).mp q
  |nx=>exact(wp_some (Q:=R)).mp q
  |bk=>obtain⟨_,_,e,_⟩:=q;cases e
  |ct=>obtain⟨_,_,e,_⟩:=q;cases e
 .cases o with
  |rt d=>exact(wp_some (Q:=R)).mpr q
  |nx=>exact(wp_some (Q:=R)).mpr q
  |bk=>exact absurd q id
  |ct=>exact absurd q id
theorem Ez{k:Nat}(h:k<=1000000000):qIR RI (.int (k:Int)) O↔RI (gh 0 k,none) O:=by
 have e:ivR (vC<|.int (k:Int)) [] O=some ((gh 0 k,none),O):=by
  show(if -1000000000<=(k:Int)/\(k:Int)<=1000000000 then some ((gh 0 ((k:Int).toNat),(none:Ck)),O) else none)=_;rw[if_pos ⋯];rfl
 constructor
 .rintro⟨_,e',q⟩;cases e';rw[e] at q;exact wp_some.mp q
 .intro q;exact⟨_,rfl,by rw[e];exact wp_some.mpr q⟩
theorem zL{k m:Nat}(h:k<m):(gh 0 m).drop k=.int (k:Int)::(gh 0 m).drop (k+1):=by
 have hl:(gh 0 m).length=m:=by simp[gh]
 rw[Tj ⋯];congr 1;simp[gh]
theorem Fo(I:Nat->G->M->Prop){m:Nat}(h0:I 0 B O)
  (hs:∀k B O,k<m->I k B O->Wp (g (.int (k:Int)) B O) fun ZY Z4=>Ws (sb ZY Z4) fun o ZV Z3=>match o with
   | .nx=>I (k+1) ZV Z3
   | .ct=>I (k+1) ZV Z3
   | .bk=>Q .nx ZV Z3
   | .rt d=>Q (.rt d) ZV Z3)
  (hq:∀B O,I m B O->Q .nx B O):Ws (gD none g sb (gh 0 m) B O) Q:=by
 have hl:(gh 0 m).length=m:=by simp[gh]
 refine kH (fun r B O=>∃k,k<=m/\r=(gh 0 m).drop k/\I k B O) _ ⟨0,by omega,rfl,h0⟩ ?_ ?_
 .rintro d r B O ⟨k,hk,e,h⟩;have hk':k<m:=by
   rcases VS k m with z|z
   .exact z
   .rw[TB ⋯] at e;cases e
  rw[zL hk'] at e;cases e;refine(hs k B O hk' h).imp fun ZY Z4 h=>h.imp fun o ZV Z3 h=>?_;cases o with
  |nx=>exact⟨trivial,k+1,hk',rfl,h⟩
  |ct=>exact⟨trivial,k+1,hk',rfl,h⟩
  |bk=>exact h
  |rt d=>exact h
 .rintro B O ⟨k,hk,e,h⟩;have:k=m:=by
   rcases VS k m with z|z
   .rw[zL z] at e;cases e
   .omega
  subst this;exact hq _ _ h
theorem OE{i j:Int}:gK (.int i) (.int j) O=some (.int (i+j),O):=rfl
theorem LU{i j:Int}:j2 (.int i) (.int j) O=some (.int (i - j),O):=rfl
theorem QH{i j:Int}:fGt (.int i) (.int j) O=some (.bl (decide (j<i)),O):=rfl
theorem M3{i j:Int}:fLt (.int i) (.int j) O=some (.bl (decide (i<j)),O):=rfl
theorem NC{i j:Int}:fGe (.int i) (.int j) O=some (.bl (decide (j<=i)),O):=rfl
theorem Nw{i j:Int}:fLe (.int i) (.int j) O=some (.bl (decide (i<=j)),O):=rfl
theorem Iw{i j:Int}:fEq (.int i) (.int j) O=some (.bl (decide (i=j)),O):=by unfold fEq;rw[sM];rfl
theorem HJ{i j:Int}:fNe (.int i) (.int j) O=some (.bl (!decide (i=j)),O):=by unfold fNe;rw[sM];rfl
theorem Fe{i j:Int}:qK (.int i) (.int j) O=some (.int (if j<i then j else i),O):=rfl
theorem KU{i j:Int}:xQ (.int i) (.int j) O=some (.int (if j>i then j else i),O):=rfl
theorem M7{i:Int}:kl (.int i) O=some (.int (-i),O):=rfl
theorem Nq{b:Bool}:zn (.bl b) O=some (.bl (!b),O):=rfl
theorem Om{b:Bool}:rH (.bl b) O=some (.int (if b=true then 1 else 0),O):=HC
theorem hU(h:ds.length<=1000):gn ds O=some (.tup ds,O):=if_pos h
theorem hW(h:ds.length<=1000):gf ds O=some (.lst ds,O):=if_pos h
theorem KG(h:ds.length<=1000):jW ds O=some (.ref O.length,O++[some (.lst ds)]):=if_pos h
end
section
variable {B:G} {O:M} {ea eo ei ev:EV} {el:LV} {k n:Nat} {d x y:D} {ds:ŗ} {o:ţ} {C:Addr} {f m:Str} {fs:Ť} {g:Fr}
variable {R:D->M->Prop} {RI:List D×Ck->M->Prop} {Q:Out->G->M->Prop}
def qIT(RI:List D×Ck->M->Prop):D->M->Prop:=fun d O=>∃s,lq d=some s/\RI (s,none) O
theorem Ki:Wp (ivT ea B O) RI↔Wp (ea B O) (qIT RI):=wp_bind.trans ⟨fun h=>h.imp fun d O q=>by
  obtain⟨b,e,q⟩:=wpo_bind.mp q;exact⟨b,e,wp_some.mp q⟩,fun h=>h.imp fun d O ⟨b,e,q⟩=>wpo_bind.mpr ⟨b,e,wp_some.mpr q⟩⟩
theorem Of:qIT RI (.tup ds) O↔RI (ds,none) O:=⟨fun⟨_,e,q⟩=>by cases e;exact q,fun q=>⟨_,rfl,q⟩⟩
theorem ux(h:O[k]?=some (some<|.ins C fs))(hf:fs.lookup f=some d):iM C f (.ref k) O=some (d,O):=by
 unfold iM;simp only[h,if_true,hf];rfl
def Cu(g:Fr)(d:D)(R:D->M->Prop):ŗ->M->Prop:=fun ds O=>Wp (g (d::ds) O) R
theorem P4:Cu g d R ds O↔Wp (g (d::ds) O) R:=SR
def qMe(C:Addr)(m:Str)(g:Fr)(el:LV)(B:G)(R:D->M->Prop):D->M->Prop:=fun d O=>Wp (if noM O C m d=true then(el B O).bind fun q=>g (d::q.1) q.2 else none) R
theorem LD:Wp (ly C m g eo el B O) R↔Wp (eo B O) (qMe C m g el B R):=wp_bind
theorem pj(h:O[k]?=some (some<|.ins C fs))(hf:fs.lookup m=none):qMe C m g el B R (.ref k) O↔Wp (el B O) (Cu g (.ref k) R):=by
 have e:noM O C m (.ref k)=true:=by simp[noM,h,hf]
 unfold qMe;rw[if_pos e];exact wp_bind
def qMk(C:Addr)(g:Fr)(R:D->M->Prop):ŗ->M->Prop:=fun ds O=>Wp (g (.ref O.length::ds)<|O++[some (.ins C [])]) fun d Z5=>d=.non/\R (.ref O.length) Z5
theorem F0:qMk C g R ds O↔Wp (g (.ref O.length::ds)<|O++[some (.ins C [])]) fun d Z5=>d=.non/\R (.ref O.length) Z5:=SR
theorem Po(h:Wp (el B O) (qMk C g R)):Wp (sK C g el B O) R:=wp_bind.mpr (h.imp fun ds O q=>wp_bind.mpr (q.imp fun d Z5 ⟨e,q⟩=>by subst e;exact wp_some.mpr q))
def qF2(C:Addr)(f:Str)(x:D)(B:G)(Q:Out->G->M->Prop):D->M->Prop:=fun d O=>Ws (match d with
 | .ref k=>match O[k]? with
  |some (some<|.ins C' fs)=>if C'=C/\fs.length<1000 then some (.nx,B,O.set k<|some<|.ins C<|ib f x fs) else none
  |_=>none
 |_=>none) Q
def qF1(C:Addr)(f:Str)(eo:EV)(B:G)(Q:Out->G->M->Prop):D->M->Prop:=fun x O=>Wp (eo B O) (qF2 C f x B Q)
theorem Sf:qF1 C f eo B Q x O↔Wp (eo B O) (qF2 C f x B Q):=SR
theorem KS:Ws (oz C f eo ev B O) Q↔Wp (ev B O) (qF1 C f eo B Q):=ws_bind.trans ⟨fun h=>h.imp fun _ _ q=>ws_bind.mp q,fun h=>h.imp fun _ _ q=>ws_bind.mpr q⟩
theorem uq(h:O[k]?=some (some<|.ins C fs))(hl:fs.length<1000):qF2 C f x B Q (.ref k) O↔Q .nx B (O.set k<|some<|.ins C<|ib f x fs):=by
 unfold qF2;simp only[h,hl,and_self,if_true];exact ws_some
def qN3(v o:D)(B:G)(Q:Out->G->M->Prop):D->M->Prop:=fun y O=>Ws ((md y).bind fun k=>(lf O o).bind fun kvs=>match o with
 | .ref n=>if kvs.length<16000000 then some (.nx,B,O.set n<|some<|.dN<|jF kvs k v) else none
 |_=>none) Q
def qN2(ei:EV)(v:D)(B:G)(Q:Out->G->M->Prop):D->M->Prop:=fun o O=>Wp (ei B O) (qN3 v o B Q)
theorem F8:qN2 ei x B Q d O↔Wp (ei B O) (qN3 x d B Q):=SR
def qN1(eo ei:EV)(B:G)(Q:Out->G->M->Prop):D->M->Prop:=fun v O=>Wp (eo B O) (qN2 ei v B Q)
theorem Ho:qN1 eo ei B Q x O↔Wp (eo B O) (qN2 ei x B Q):=SR
theorem Ft:Ws (vS eo ei ev B O) Q↔Wp (ev B O) (qN1 eo ei B Q):=ws_bind.trans ⟨fun h=>h.imp fun _ _ q=>(ws_bind.mp q).imp fun _ _ q=>ws_bind.mp q,fun h=>h.imp fun _ _ q=>ws_bind.mpr<|q.imp fun _ _ q=>ws_bind.mpr q⟩
theorem wp(h:O[k]?=some (some<|.dN kvs)):lf O (.ref k)=some kvs:=by simp only[lf,h]
theorem za:md (.tup [.tup (ns.map D.int),.int i])=some (ns,i):=by
 have:optAll inI (ns.map D.int)=some ns:=by
  have:=og (f:=inI) (g:=D.int) (h:=id) (l:=ns) (fun x _=>rfl);simpa using this
 simp only[md,this];rfl
theorem Ov(h:O[k]?=some (some<|.dN kvs))(hl:kvs.length<16000000):qN3 x (.ref k) B Q (.tup [.tup (ns.map D.int),.int i]) O↔Q .nx B (O.set k<|some<|.dN<|jF kvs (ns,i) x):=by
 unfold qN3;rw[za,wp h];simp only[Vb,hl,if_true];exact ws_some
theorem JC(h:O[k]?=some (some<|.dN kvs)):rn true (.tup [.tup (ns.map D.int),.int i]) (.ref k) O=some (.bl (!(gS kvs (ns,i)).isSome),O):=by
 unfold rn;rw[za,wp h];simp
theorem uS(h:O[k]?=some (some<|.dN kvs))(hv:gS kvs (ns,i)=some d):sA (.ref k) (.tup [.tup (ns.map D.int),.int i]) O=some (d,O):=by
 unfold sA;rw[za,wp h];simp[hv]
theorem HB{kvs:List (NK×D)}{k:NK}{d:D}(h:gS kvs k=none):gS (jF kvs k d) k=some d/\(jF kvs k d)=kvs++[(k,d)]:=by
 have hn:∀p∈kvs,p.1≠k:=fun p hp e=>by
  have:(kvs.find? fun kv=>decide (kv.1=k))=none:=by
   unfold gS at h;cases q:kvs.find? fun kv=>decide (kv.1=k) with
   |none=>rfl
   |some z=>rw[q] at h;cases h
  have:=T4.mp this p hp;simp[e] at this
 have ha:(kvs.any fun kv=>decide (kv.1=k))=false:=by
  rw[List.any_eq_false];intro p hp;simpa using hn p hp
 have e:jF kvs k d=kvs++[(k,d)]:=by unfold jF;rw[ha];rfl
 refine⟨?_,e⟩;rw[e];unfold gS;rw[List.find?_append];have:(kvs.find? fun kv=>decide (kv.1=k))=none:=T4.mpr fun p hp=>by simpa using hn p hp
 rw[this];simp
theorem v9{kvs:List (NK×D)}{k:NK}{d:D}(h:gS kvs k=some d):(k,d)∈kvs:=by
 unfold gS at h;cases q:kvs.find? fun kv=>decide (kv.1=k) with
 |none=>rw[q] at h;cases h
 |some z=>
  rw[q] at h;cases h;have h1:=Um q;have h2:=Vh q;simp at h2;rw[←h2];exact h1
end
def Wt(r:Option (OutX×G×M))(Q:OutX->G->M->Prop):Prop:=∃o B O,r=some (o,B,O)/\Q o B O
section
variable {J β:Type} {B:G} {O:M} {ex:EX} {bx:BX} {bv:BV} {el:LV} {lx:LX} {sx sy:SX} {sv:SV} {C:Addr} {d:D} {ds:ŗ} {b:Bool} {g:GV} {f:FX} {n m i:Nat}
variable {R:Rs D->M->Prop} {RB:Rs Bool->M->Prop} {RL:Rs ŗ->M->Prop} {Q:OutX->G->M->Prop} {QS:Out->G->M->Prop}
theorem Wt.imp{r:Option (OutX×G×M)}{Q R:OutX->G->M->Prop}(h:Wt r Q)(f:∀o B O,Q o B O->R o B O):Wt r R:=let ⟨a,B,O,e,q⟩:=h;⟨a,B,O,e,f a B O q⟩
theorem wt_some:Wt (some (o,B,O)) Q↔Q o B O:=⟨fun⟨_,_,_,e,q⟩=>by cases e;exact q,fun q=>⟨_,_,_,rfl,q⟩⟩
theorem wtp_bind{r:Option (J×M)}{f:J×M->Option (OutX×G×M)}:Wt (r.bind f) Q↔Wp r fun a O=>Wt (f (a,O)) Q:=by
 cases r with
 |none=>exact⟨fun⟨_,_,_,e,_⟩=>(by cases e),fun⟨_,_,e,_⟩=>(by cases e)⟩
 |some p=>exact⟨fun h=>⟨p.1,p.2,rfl,h⟩,fun⟨_,_,e,h⟩=>by cases e;exact h⟩
theorem wtt_bind{r:Option (OutX×G×M)}{f:OutX×G×M->Option (OutX×G×M)}:Wt (r.bind f) Q↔Wt r fun o B O=>Wt (f (o,B,O)) Q:=by
 cases r with
 |none=>exact⟨fun⟨_,_,_,e,_⟩=>(by cases e),fun⟨_,_,_,e,_⟩=>(by cases e)⟩
 |some p=>exact⟨fun h=>⟨p.1,p.2.1,p.2.2,rfl,h⟩,fun⟨_,_,_,e,h⟩=>by cases e;exact h⟩
theorem wts_bind{r:Option (Out×G×M)}{f:Out×G×M->Option (OutX×G×M)}:Wt (r.bind f) Q↔Ws r fun o B O=>Wt (f (o,B,O)) Q:=by
 cases r with
 |none=>exact⟨fun⟨_,_,_,e,_⟩=>(by cases e),fun⟨_,_,_,e,_⟩=>(by cases e)⟩
 |some p=>exact⟨fun h=>⟨p.1,p.2.1,p.2.2,rfl,h⟩,fun⟨_,_,_,e,h⟩=>by cases e;exact h⟩
theorem wst_bind{r:Option (OutX×G×M)}{f:OutX×G×M->Option (Out×G×M)}:Ws (r.bind f) QS↔Wt r fun o B O=>Ws (f (o,B,O)) QS:=by
 cases r with
 |none=>exact⟨fun⟨_,_,_,e,_⟩=>(by cases e),fun⟨_,_,_,e,_⟩=>(by cases e)⟩
 |some p=>exact⟨fun h=>⟨p.1,p.2.1,p.2.2,rfl,h⟩,fun⟨_,_,_,e,h⟩=>by cases e;exact h⟩
theorem wpt_bind{r:Option (OutX×G×M)}{f:OutX×G×M->Option (β×M)}{R:β->M->Prop}:Wp (r.bind f) R↔Wt r fun o B O=>Wp (f (o,B,O)) R:=by
 cases r with
 |none=>exact⟨fun⟨_,_,e,_⟩=>(by cases e),fun⟨_,_,_,e,_⟩=>(by cases e)⟩
 |some p=>exact⟨fun h=>⟨p.1,p.2.1,p.2.2,rfl,h⟩,fun⟨_,_,_,e,h⟩=>by cases e;exact h⟩
def qUp(R:Rs J->M->Prop):J->M->Prop:=fun a O=>R (.ok a) O
theorem pk{a:J}{R:Rs J->M->Prop}:qUp R a O↔R (.ok a) O:=SR
theorem Ox:Wp (upB bv B O) RB↔Wp (bv B O) (qUp RB):=wp_bind.trans ⟨fun h=>h.imp fun _ _ q=>(wp_some (Q:=RB)).mp q,fun h=>h.imp fun _ _ q=>(wp_some (Q:=RB)).mpr q⟩
theorem pN:Wp (upL el B O) RL↔Wp (el B O) (qUp RL):=wp_bind.trans ⟨fun h=>h.imp fun _ _ q=>(wp_some (Q:=RL)).mp q,fun h=>h.imp fun _ _ q=>(wp_some (Q:=RL)).mpr q⟩
def qUS(Q:OutX->G->M->Prop):Out->G->M->Prop:=fun o B O=>Q (upO o) B O
theorem EO:qUS Q .nx B O↔Q .nx B O:=SR
theorem O4:qUS Q (.rt d) B O↔Q (.rt d) B O:=SR
theorem OJ:Wt (upS sv B O) Q↔Ws (sv B O) (qUS Q):=wts_bind.trans ⟨fun h=>h.imp fun _ _ _ q=>(wt_some (Q:=Q)).mp q,fun h=>h.imp fun _ _ _ q=>(wt_some (Q:=Q)).mpr q⟩
def qLX(f:FX)(R:Rs D->M->Prop):Rs ŗ->M->Prop:=fun r O=>match r with
 | .ok ds=>Wp (f ds O) R
 | .ex C=>R (.ex C) O
theorem oZ:qLX f R (.ok ds) O↔Wp (f ds O) R:=SR
theorem Gz:qLX f R (.ex C) O↔R (.ex C) O:=SR
theorem oY:Wp (vLX f lx B O) R↔Wp (lx B O) (qLX f R):=wp_bind.trans ⟨fun h=>h.imp fun r _ q=>by cases r;exact q;exact(wp_some (Q:=R)).mp q,fun h=>h.imp fun r _ q=>by cases r;exact q;exact(wp_some (Q:=R)).mpr q⟩
def sY(d:D)(RL:Rs ŗ->M->Prop):Rs ŗ->M->Prop:=fun r O=>match r with
 | .ok ds=>RL (.ok<|d::ds) O
 | .ex C=>RL (.ex C) O
theorem MP:sY d RL (.ok ds) O↔RL (.ok<|d::ds) O:=SR
theorem Qp:sY d RL (.ex C) O↔RL (.ex C) O:=SR
def qcX(lx:LX)(B:G)(RL:Rs ŗ->M->Prop):Rs D->M->Prop:=fun r O=>match r with
 | .ok d=>Wp (lx B O) (sY d RL)
 | .ex C=>RL (.ex C) O
theorem IJ:qcX lx B RL (.ok d) O↔Wp (lx B O) (sY d RL):=SR
theorem RX:qcX lx B RL (.ex C) O↔RL (.ex C) O:=SR
def qNX(RB:Rs Bool->M->Prop):Rs Bool->M->Prop:=fun r O=>match r with
 | .ok b=>RB (.ok<|!b) O
 | .ex C=>RB (.ex C) O
theorem N1:qNX RB (.ok b) O↔RB (.ok<|!b) O:=SR
theorem OB:qNX RB (.ex C) O↔RB (.ex C) O:=SR
def qTX(RB:Rs Bool->M->Prop):Rs D->M->Prop:=fun r O=>match r with
 | .ok d=>∃b,d=.bl b/\RB (.ok b) O
 | .ex C=>RB (.ex C) O
theorem LY:qTX RB (.ex C) O↔RB (.ex C) O:=SR
def ui(sy:SX)(Q:OutX->G->M->Prop):OutX->G->M->Prop:=fun o B O=>match o with
 | .nx=>Wt (sy B O) Q
 |o=>Q o B O
theorem Jj:ui sy Q .nx B O↔Wt (sy B O) Q:=SR
theorem Ia:ui sy Q (.rt d) B O↔Q (.rt d) B O:=SR
theorem HW:ui sy Q (.ex C) B O↔Q (.ex C) B O:=SR
theorem N0:Wt (gl sx sy B O) Q↔Wt (sx B O) (ui sy Q):=wtt_bind.trans ⟨fun h=>h.imp fun o _ _ q=>by cases o<;>first|exact q|exact(wt_some (Q:=Q)).mp q,fun h=>h.imp fun o _ _ q=>by cases o<;>first|exact q|exact(wt_some (Q:=Q)).mpr q⟩
def qEX(B:G)(Q:OutX->G->M->Prop):Rs D->M->Prop:=fun r O=>match r with
 | .ok _=>Q .nx B O
 | .ex C=>Q (.ex C) B O
theorem NY:qEX B Q (.ok d) O↔Q .nx B O:=SR
theorem EC:qEX B Q (.ex C) O↔Q (.ex C) B O:=SR
theorem pH:Wt (iV ex B O) Q↔Wp (ex B O) (qEX B Q):=wtp_bind.trans ⟨fun h=>h.imp fun r _ q=>by cases r<;>exact(wt_some (Q:=Q)).mp q,fun h=>h.imp fun r _ q=>by cases r<;>exact(wt_some (Q:=Q)).mpr q⟩
def qRX(B:G)(Q:OutX->G->M->Prop):Rs D->M->Prop:=fun r O=>match r with
 | .ok d=>Q (.rt d) B O
 | .ex C=>Q (.ex C) B O
theorem Re:qRX B Q (.ok d) O↔Q (.rt d) B O:=SR
theorem GQ:qRX B Q (.ex C) O↔Q (.ex C) B O:=SR
theorem M2:Wt (kE ex B O) Q↔Wp (ex B O) (qRX B Q):=wtp_bind.trans ⟨fun h=>h.imp fun r _ q=>by cases r<;>exact(wt_some (Q:=Q)).mp q,fun h=>h.imp fun r _ q=>by cases r<;>exact(wt_some (Q:=Q)).mpr q⟩
def qIX(sx sy:SX)(B:G)(Q:OutX->G->M->Prop):Rs Bool->M->Prop:=fun r O=>match r with
 | .ok c=>if c=true then Wt (sx B O) Q else Wt (sy B O) Q
 | .ex C=>Q (.ex C) B O
theorem qp:qIX sx sy B Q (.ok true) O↔Wt (sx B O) Q:=SR
theorem AE:qIX sx sy B Q (.ok false) O↔Wt (sy B O) Q:=SR
theorem Ky:qIX sx sy B Q (.ex C) O↔Q (.ex C) B O:=SR
theorem nN:Wt (iD bx sx sy B O) Q↔Wp (bx B O) (qIX sx sy B Q):=wtp_bind.trans ⟨fun h=>h.imp fun r _ q=>by
  cases r with
  |ok c=>cases c<;>exact q
  |ex C=>exact(wt_some (Q:=Q)).mp q,fun h=>h.imp fun r _ q=>by
  cases r with
  |ok c=>cases c<;>exact q
  |ex C=>exact(wt_some (Q:=Q)).mpr q⟩
def wj(Q:OutX->G->M->Prop):G->M->Prop:=fun B O=>Q .nx B O
theorem Jx:wj Q B O↔Q .nx B O:=SR
def qAX(g:GV)(B:G)(Q:OutX->G->M->Prop):Rs D->M->Prop:=fun r O=>match r with
 | .ok d=>Wp (g d B O) (wj Q)
 | .ex C=>Q (.ex C) B O
theorem KC:qAX g B Q (.ok d) O↔Wp (g d B O) (wj Q):=SR
theorem GN:qAX g B Q (.ex C) O↔Q (.ex C) B O:=SR
theorem GB:Wt (oN ex g B O) Q↔Wp (ex B O) (qAX g B Q):=by
 refine wtp_bind.trans ⟨fun h=>h.imp fun r O q=>?_,fun h=>h.imp fun r O q=>?_⟩
 .cases r with
  |ok d=>exact(wtp_bind.mp q).imp fun _ _ q=>(wt_some (Q:=Q)).mp q
  |ex C=>exact(wt_some (Q:=Q)).mp q
 .cases r with
  |ok d=>exact wtp_bind.mpr (Wp.imp q fun _ _ q=>(wt_some (Q:=Q)).mpr q)
  |ex C=>exact(wt_some (Q:=Q)).mpr q
theorem Ed(h:mD l B O=some Z5)(hQ:Q (.ex C) B Z5):Wt (j5 C l B O) Q:=by
 unfold j5;rw[h];exact wt_some.mpr hQ
def sf(R:Rs D->M->Prop):OutX->G->M->Prop:=fun o _ O=>match o with
 | .rt d=>R (.ok d) O
 | .nx=>R (.ok .non) O
 | .ex C=>R (.ex C) O
 |_=>False
theorem Q5:sf R (.rt d) B O↔R (.ok d) O:=SR
theorem Kn:sf R .nx B O↔R (.ok .non) O:=SR
theorem K0:sf R (.ex C) B O↔R (.ex C) O:=SR
theorem jq(h:ds.length=m):Wp (hV n m sx ds O) R↔Wt (sx (ds.map some++List.replicate (n - ds.length) none) O) (sf R):=by
 unfold hV;rw[if_pos h];refine wpt_bind.trans ⟨fun h=>h.imp fun o _ _ q=>?_,fun h=>h.imp fun o _ _ q=>?_⟩
 .cases o with
  |rt d=>exact(wp_some (Q:=R)).mp q
  |nx=>exact(wp_some (Q:=R)).mp q
  |ex C=>exact(wp_some (Q:=R)).mp q
  |bk=>obtain⟨_,_,e,_⟩:=q;cases e
  |ct=>obtain⟨_,_,e,_⟩:=q;cases e
 .cases o with
  |rt d=>exact(wp_some (Q:=R)).mpr q
  |nx=>exact(wp_some (Q:=R)).mpr q
  |ex C=>exact(wp_some (Q:=R)).mpr q
  |bk=>exact absurd q id
  |ct=>exact absurd q id
theorem xc{R:D->M->Prop}(h:Wp (f ds O) fun r O=>∃d,r=.ok d/\R d O):Wp (dn f ds O) R:=by
 obtain⟨_,Z5,e,d,rfl,q⟩:=h;unfold dn;rw[e];exact wp_some.mpr q
theorem forX_inv(I:ŗ->G->M->Prop)(ds:ŗ)(h0:I ds B O)
  (hs:∀d r B O,I (d::r) B O->Wp (g d B O) fun ZY Z4=>Wt (sx ZY Z4) fun o ZV Z3=>match o with
   | .nx=>gc c Z3/\I r ZV Z3
   | .ct=>gc c Z3/\I r ZV Z3
   | .bk=>Q .nx ZV Z3
   | .rt d=>Q (.rt d) ZV Z3
   | .ex C=>Q (.ex C) ZV Z3)
  (hq:∀B O,I [] B O->Q .nx B O):Wt (li c g sx ds B O) Q:=by
 induction ds generalizing B O with
 |nil=>exact wt_some.mpr (hq _ _ h0)
 |cons d r ih=>
  refine wtp_bind.mpr ((hs d r B O h0).imp fun ZY Z4 h=>wtt_bind.mpr<|h.imp fun o ZV Z3 h=>?_);cases o with
  |nx=>show Wt (chk _ _) Q;rw[jy h.1];exact ih h.2
  |ct=>show Wt (chk _ _) Q;rw[jy h.1];exact ih h.2
  |bk=>exact wt_some.mpr h
  |rt d=>exact wt_some.mpr h
  |ex C=>exact wt_some.mpr h
def qFX(g:GV)(sx:SX)(B:G)(Q:OutX->G->M->Prop):List D×Ck->M->Prop:=fun s O=>Wt (li s.2 g sx s.1 B O) Q
theorem Jc:qFX g sx B Q (ds,c) O↔Wt (li c g sx ds B O) Q:=SR
def qTy(cs:ś)(i:Nat)(sv:SV)(QS:Out->G->M->Prop):OutX->G->M->Prop:=fun o B O=>match o with
 | .nx=>QS .nx B O
 | .bk=>QS .bk B O
 | .ct=>QS .ct B O
 | .rt d=>QS (.rt d) B O
 | .ex C=>C∈cs/\Ws (sv (B.set i<|some<|.ref O.length)<|O++[some (.exc C)]) fun o B O=>QS o (B.set i none) O
theorem Hk(h:Wt (sx B O) (qTy cs i sv QS)):Ws (xr cs i sx sv B O) QS:=by
 refine wst_bind.mpr (h.imp fun o ZY Z4 q=>?_);cases o with
 |nx=>exact ws_some.mpr q
 |bk=>exact ws_some.mpr q
 |ct=>exact ws_some.mpr q
 |rt d=>exact ws_some.mpr q
 |ex C=>
  obtain⟨h1,h2⟩:=q;show Ws (if C∈cs then _ else none) QS;rw[if_pos h1];exact wss_bind.mpr (h2.imp fun _ _ _ q=>ws_some.mpr q)
def qCX(own:Ŗ)(cap:œ)(g:GV)(tc:BV)(te:EV)(B:G)(R:Rs D->M->Prop):Rs D->M->Prop:=fun r O=>match r with
 | .ok d=>∃s,lsC O d=some s/\s.1.length<=1000000/\Wp (gE s.2 g tc te s.1 (gA own cap B) O) fun rs O=>R (.ok<|.lst rs) O
 | .ex C=>R (.ex C) O
theorem Ff(h:Wp (ex B O) (qCX own cap g tc te B R)):Wp (lI own cap ex g tc te B O) R:=by
 refine wp_bind.mpr (h.imp fun r O q=>?_);cases r with
 |ok d=>
  obtain⟨s,h1,h2,h3⟩:=q;show Wp ((lsC O d).bind _) R;rw[h1];show Wp (if s.1.length<=1000000 then _ else none) R;rw[if_pos h2];exact wp_bind.mpr (h3.imp fun _ _ q=>wp_some.mpr q)
 |ex C=>exact(wp_some (Q:=R)).mpr q
end
end L3
namespace L2
open PySem PySem.Spec PyProof.Rows
end L2
namespace L3
open PySem PySem.Spec PyProof.Rows L2
end L3
namespace Law
open PySem L2 L3
def top(i:Nat):Stmt:=PySem.Challenge.pw_morethanhalf_k19_no_such_things.main.body.getD i (.Pass ⟨0,0,0,0⟩)
section
variable {P:Program} {w:World} {K:Frag} {mg:ő} {base:Heap} {f:Addr} {fd:FuncData}
theorem t8:FnScope ["many","answers","i","j","alike"] ["many","answers"] (fP<|top 39):=by lia
def u5(iN:Addr):SX:=
  (gl (iD (upB<|vT<|v2 fLt (be 0)<|vC<|.int 0)
   (j5 iN<|(be 0)::[])
   (upS sNx))
  (Bb (ivL<|be 1) (gy 3<|fN (fD 2)<|fN (fD 3)<|fN (fD 4) gF)
   (gl (iD (upB<|iO<|k9 (vT<|jA fLe fLt (vC<|.int 0) (be 2)<|be 0)<|vT<|jA fLe fLt (vC<|.int 0) (be 3)<|be 0)
    (j5 iN<|(be 2)::((be 3)::((be 0)::[])))
    (upS sNx))
   (iD (upB<|vT<|v2 fEq (be 2)<|be 3)
    (j5 iN<|(be 2)::[])
    (upS sNx)))))
def t6(iN:Addr):FX:=hV 5 2 (u5 iN)
theorem JQ{k:Nat}{iN:Addr}(F:Fun K "check_things" "check_things" (top 39) f fd) (jV:mg "NoThing"=some (.ref iN)/\jb K iN):FnOk P w K mg base (CXr P w) (k+1) f fd ["many","answers"] (spX K<|t6 iN):=by
 unfold t6 u5;exact jB F t8 fun cdv A outer s H E hr=>
  (jf (kf (kz<|tU (fA 0) fJ)
   (gY<|pf (oG<|jk (by decide)<|ka (fA 0)<|jk (by decide) pj0) jV.1 jV.2)
   mO)
  (gY (Lg (QK ⟨rfl,rfl⟩) rfl (JB<|ie<|fA 1) (BT<|jh (n:=3)<|gw (fT (i:=2) t8.nd rfl (Or.inl rfl))<|gw (fT (i:=3) t8.nd rfl (Or.inl rfl))<|gw (fT (i:=4) t8.nd rfl (Or.inl rfl)) jx)
   (jf (kf (kz<|kK<|PW.pt<|AH (zy xP xy t7 vJ fJ (fA 2)<|fA 0)<|D2<|zy xP xy t7 vJ fJ (fA 3)<|fA 0)
    (gY<|pf (oG<|jk (by decide)<|ka (fA 2)<|jk (by decide)<|ka (fA 3)<|jk (by decide)<|ka (fA 0)<|jk (by decide) pj0) jV.1 jV.2)
    mO)
   (gY (kf (kz<|iP hr (fA 2)<|fA 3)
    (gY<|pf (oG<|jk (by decide)<|ka (fA 2)<|jk (by decide) pj0) jV.1 jV.2)
    mO))))))
theorem JU:FnScope ["homes","old","new"] ["homes","old","new"] (fP<|top 40):=by lia
theorem Dw:((["thing","home"]:Ŗ)++([("old",1),("new",2)]:œ).map (·.1)).Nodup:=by decide +kernel
def wD:SV:=
  (fM<|tI ["thing","home"] [("old",1),("new",2)] (be 0) (gy 2<|fN (fD 0)<|fN (fD 1) gF) fQ (be 0)<|vIf (vT<|v2 fEq (be 1)<|be 2) (be 3)<|be 1)
def lG:Fr:=gq 3 3 (wD)
theorem MD{k:Nat}(F:Fun K "moved" "moved" (top 40) f fd):FnOk P w K mg base CX0 (k+1) f fd ["homes","old","new"] (spM K<|lG):=by
 unfold lG wD;exact gM F JU fun cdv A outer s H E hr=>
  (fK (fU (Hz (own:=["thing","home"]) (cap:=[("old",1),("new",2)]) (iE rfl) (fA 0)
   (fun _ _ _ _ _=>(jh (n:=2)<|gw (fT (i:=0) Dw rfl (Or.inl rfl))<|gw (fT (i:=1) Dw rfl (Or.inl rfl)) jx)) (fun _ _ _ _ _=>iC)
   (fun _ _ _ _ _=>(fA 0)) (fun _ _ _ _ _=>(rm (iP hr (fA 1)<|fA 2) (fA 3)<|fA 1)))))
theorem pT:FnScope ["answers","homes","i","j","alike"] ["answers"] (fP<|top 41):=by lia
def wF(nu:Fr):SV:=
  (fH (fS rK<|fD 1)
  (fH (iz (ivL<|be 0) (gy 3<|fN (fD 2)<|fN (fD 3)<|fN (fD 4) gF)
   (fH (kg<|jT (be 1) (be 2)<|be 2)
   (fH (kg<|jT (be 1) (be 3)<|be 3)
   (sIf (gG<|be 4)
    (fS (vL nu<|fB (be 1)<|fB (v2 i9 (be 1)<|be 3)<|fB (v2 i9 (be 1)<|be 2) fE)<|fD 1)
    sNx))))
  (fM<|be 1)))
def nD(nu:Fr):Fr:=gq 5 1 (wF nu)
theorem QE{nu:Fr}{DV k:Nat}(F:Fun K "homes_of" "homes_of" (top 41) f fd) (u8:Df P w K mg base DV "moved" ["homes","old","new"] (spM K nu)) (RD:DV<=k):FnOk P w K mg base CX0 (k+1) f fd ["answers"] (spM K<|nD nu):=by
 unfold nD wF;exact gM F pT fun cdv A outer s H E hr=>
  (fL (gp (i:=1) pT.nd rfl (Or.inl rfl) BL)
  (fL (i5 Tc rfl (ie<|fA 0) (jh (n:=3)<|gw (fT (i:=2) pT.nd rfl (Or.inl rfl))<|gw (fT (i:=3) pT.nd rfl (Or.inl rfl))<|gw (fT (i:=4) pT.nd rfl (Or.inl rfl)) jx)
   (fL (uQ<|wY (fA 1) (fA 2)<|fA 2)
   (fL (uQ<|wY (fA 1) (fA 3)<|fA 3)
   (fK (gI (iX<|fA 4)
    (fK<|gp (i:=1) pT.nd rfl (Or.inl rfl) (gg u8 (hr.mono RD)<|fC (fA 1)<|fC (tm hr (fA 1)<|fA 3)<|fC (tm hr (fA 1)<|fA 2) fG))
    gC)))))
  (fK<|fU<|fA 1)))
theorem Ai:FnScope ["many","answers","homes"] ["many","answers"] (fP<|top 42):=by lia
theorem we:((["i","j","alike"]:Ŗ)++([("homes",2)]:œ).map (·.1)).Nodup:=by decide +kernel
def x9(nr:Fr)(nR:FX):SX:=
  (gl (iV<|vLX nR<|upL<|fB (be 0)<|fB (be 1) fE)
  (upS (fH (fS (vL nr<|fB (be 1) fE)<|fD 2)
  (fM<|v1 jp<|gQ ["i","j","alike"] [("homes",2)] (ivL<|be 1) (gy 3<|fN (fD 0)<|fN (fD 1)<|fN (fD 2) gF) fQ<|vOr (be 2)<|v2 fNe (v2 i9 (be 3)<|be 0)<|v2 i9 (be 3)<|be 1))))
def uT(nr:Fr)(nR:FX):FX:=hV 3 2 (x9 nr nR)
theorem Jv{nr:Fr}{nR:FX}{Ct CL k:Nat}(F:Fun K "can_be" "can_be" (top 42) f fd) (y0:Df P w K mg base Ct "homes_of" ["answers"] (spM K nr)) (F9:Ct<=k) (yc:DfX P w K mg base CL "check_things" ["many","answers"] (spX K nR)) (RP:CL<=k) (iB:mg "all"=none):FnOk P w K mg base (CXr P w) (k+1) f fd ["many","answers"] (spX K<|uT nr nR):=by
 unfold uT x9;exact jB F Ai fun cdv A outer s H E hr=>
  (jf (jX<|ij yc (hr.mono RP)<|ic<|fC (fA 0)<|fC (fA 1) fG)
  (qb (fL (gp (i:=2) Ai.nd rfl (Or.inr rfl) (gg y0 (hr.mono F9)<|fC (fA 1) fG))
  (fK (fU (qj iB (ke (own:=["i","j","alike"]) (cap:=[("homes",2)]) (iE rfl) (ie<|fA 1)
   (fun _ _ _ _ _=>(jh (n:=3)<|gw (fT (i:=0) we rfl (Or.inl rfl))<|gw (fT (i:=1) we rfl (Or.inl rfl))<|gw (fT (i:=2) we rfl (Or.inl rfl)) jx)) (fun _ _ _ _ _=>iC)
   (fun _ _ _ _ _=>(Lz (fA 2)<|sU<|Bq hr (tm hr (fA 3)<|fA 0)<|tm hr (fA 3)<|fA 1)))))))))
theorem P8:FnScope ["many","answers"] ["many","answers"] (fP<|top 43):=by lia
def y2(ir:FX)(nh:Addr):SX:=
  (iD (sQ<|bTX<|vLX ir<|upL<|fB (be 0)<|fB (be 1) fE)
   (AK nh<|vC<|.str "the answers cannot all be right")
   (upS sNx))
def xh(ir:FX)(nh:Addr):FX:=hV 2 2 (y2 ir nh)
theorem PB{ir:FX}{mw k:Nat}{nh:Addr}(F:Fun K "check_right" "check_right" (top 43) f fd) (ll:DfX P w K mg base mw "can_be" ["many","answers"] (spX K ir)) (qo:mw<=k) (rZ:mg "NoFit"=some (.ref nh)/\jb K nh):FnOk P w K mg base (CXr P w) (k+1) f fd ["many","answers"] (spX K<|xh ir nh):=by
 unfold xh y2;exact jB F P8 fun cdv A outer s H E hr=>
  (gY (kf (Mw<|JE<|ij ll (hr.mono qo)<|ic<|fC (fA 0)<|fC (fA 1) fG)
   (gY<|G4 iq rZ.1 rZ.2)
   mO))
theorem uJ:FnScope ["kinds","answers","i","j","alike"] ["kinds","answers"] (fP<|top 44):=by lia
def zf:SV:=
  (fH (iz (ivL<|be 1) (gy 3<|fN (fD 2)<|fN (fD 3)<|fN (fD 4) gF)
   (sIf (vT<|v2 fNe (v2 fEq (v2 fIx (be 0)<|be 2)<|v2 fIx (be 0)<|be 3)<|be 4)
    (fM<|vC<|.bl false)
    sNx))
  (fM<|vC<|.bl true))
def mG:Fr:=gq 5 2 (zf)
theorem HN{k:Nat}(F:Fun K "fits" "fits" (top 44) f fd):FnOk P w K mg base CX0 (k+1) f fd ["kinds","answers"] (spM K<|mG):=by
 unfold mG zf;exact gM F uJ fun cdv A outer s H E hr=>
  (fL (i5 Tc rfl (ie<|fA 1) (jh (n:=3)<|gw (fT (i:=2) uJ.nd rfl (Or.inl rfl))<|gw (fT (i:=3) uJ.nd rfl (Or.inl rfl))<|gw (fT (i:=4) uJ.nd rfl (Or.inl rfl)) jx)
   (fK (gI (lO hr (rV hr (gB (fA 0)<|fA 2)<|gB (fA 0)<|fA 3)<|fA 4)
    (fK<|fU ik)
    gC)))
  (fK<|fU ik))
theorem AD:FnScope ["sort","most","used"] ["sort","most"] (fP<|top 16):=by lia
theorem MB:((["number"]:Ŗ)++([("sort",0)]:œ).map (·.1)).Nodup:=by decide +kernel
def ya:SV:=
  (fH (fS (v2 gK (v2 oM (be 0)<|v1 kl<|vC<|.int 1)<|vC<|.int 1)<|fD 2)
  (fM<|gQ ["number"] [("sort",0)] (rL<|v2 qK (v2 gK (be 2)<|vC<|.int 1)<|be 1) (fD 0) fQ<|v2 gK (be 1)<|vL gf<|fB (be 0) fE))
def j8:Fr:=gq 3 2 (ya)
theorem HU{k:Nat}(F:Fun K "one_thing_more" "one_thing_more" (top 16) f fd) (nM:mg "max"=none) (xp:mg "min"=none) (iS:mg "range"=none):FnOk P w K mg base CX0 (k+1) f fd ["sort","most"] (spM K<|j8):=by
 unfold j8 ya;exact gM F AD fun cdv A outer s H E hr=>
  (fL (gp (i:=2) AD.nd rfl (Or.inl rfl) (js (IX nM (fA 0)<|vO fJ) fJ))
  (fK (fU (ke (own:=["number"]) (cap:=[("sort",0)]) (iE rfl) (G5 iS<|PV xp (js (fA 2) fJ)<|fA 1)
   (fun _ _ _ _ _=>(fT (i:=0) MB rfl (Or.inl rfl))) (fun _ _ _ _ _=>iC)
   (fun _ _ _ _ _=>(js (fA 1)<|gL<|fC (fA 0) fG))))))
theorem tG:FnScope ["many","most","sorts","step"] ["many","most"] (fP<|top 17):=by lia
theorem Ao:((["sort","longer"]:Ŗ)++([("most",1)]:œ).map (·.1)).Nodup:=by decide +kernel
def wK(nG:Fr)(jl:D)(i6:Addr):SX:=
  (gl (iD (upB<|bOr (vT<|v2 fLt (be 0)<|vC<|.int 0)<|vT<|v2 fGt (be 0)<|vC jl)
   (j5 i6<|(vC jl)::((be 0)::[]))
   (upS sNx))
  (upS (fH (fS (vL gf<|fB (vL gf fE) fE)<|fD 2)
  (fH (iz (ivR<|be 0) (fD 3)
   (fS (kN ["sort","longer"] [("most",1)] (ivL<|be 2) (fD 0) fQ (ivL<|vL nG<|fB (be 0)<|fB (be 2) fE) (fD 1) fQ<|be 1)<|fD 2))
  (fM<|be 2)))))
def ou(nG:Fr)(jl:D)(i6:Addr):FX:=hV 4 2 (wK nG jl i6)
theorem GC{nG:Fr}{AS k:Nat}{jl:D}{v_MOST_THINGS:V}{u_MOST_THINGS:Value}{i6:Addr}(F:Fun K "all_sorts" "all_sorts" (top 17) f fd) (yN:Df P w K mg base AS "one_thing_more" ["sort","most"] (spM K nG)) (Qe:AS<=k) (jH:mg "MOST_THINGS"=some u_MOST_THINGS/\RelV v_MOST_THINGS u_MOST_THINGS/\∀W,DR K W jl v_MOST_THINGS) (lY:mg "TooMany"=some (.ref i6)/\jb K i6) (iS:mg "range"=none):FnOk P w K mg base (CXr P w) (k+1) f fd ["many","most"] (spX K<|ou nG jl i6):=by
 unfold ou wK;exact jB F tG fun cdv A outer s H E hr=>
  (jf (kf (kz<|PW.pt<|ql (tU (fA 0) fJ)<|uH<|tH (fA 0)<|jS jH.1 jH.2.1 jH.2.2)
   (gY<|pf (oG<|jk (by decide)<|ka (jS jH.1 jH.2.1 jH.2.2)<|jk (by decide)<|ka (fA 0) pj0) lY.1 lY.2)
   mO)
  (qb (fL (gp (i:=2) tG.nd rfl (Or.inl rfl) (gL<|fC (gL fG) fG))
  (fL (i5 Tc rfl (xA iS<|fA 0) (fT (i:=3) tG.nd rfl (Or.inl rfl))
   (fK (Dh (i:=2) tG.nd rfl rfl (own:=["sort","longer"]) (cap:=[("most",1)]) (iE rfl) (ie<|fA 2)
   (fun _ _ _ _ _=>(fT (i:=0) Ao rfl (Or.inl rfl))) (fun _ _ _ _ _=>iC)
   (fun _ _ _ _ _=>(ie<|gg yN (hr.mono Qe)<|fC (fA 0)<|fC (fA 2) fG)) (fun _ _ _ _ _=>(fT (i:=1) Ao rfl (Or.inl rfl))) (fun _ _ _ _ _=>iC)
   (fun _ _ _ _ _=>(fA 1)))))
  (fK<|fU<|fA 2)))))
theorem GD:FnScope ["many","answers"] ["many","answers"] (fP<|top 45):=by lia
theorem Kc:((["sort"]:Ŗ)++([("answers",1)]:œ).map (·.1)).Nodup:=by decide +kernel
def yV(nU:Fr)(oC:FX)(iw:FX):SX:=
  (gl (iV<|vLX oC<|upL<|fB (be 0)<|fB (be 1) fE)
  (kE<|lI ["sort"] [("answers",1)] (vLX iw<|upL<|fB (be 0)<|fB (be 0) fE) (fD 0) (gG<|vL nU<|fB (be 0)<|fB (be 1) fE)<|be 0))
def yU(nU:Fr)(oC:FX)(iw:FX):FX:=hV 2 2 (yV nU oC iw)
theorem Pn{nU:Fr}{oC iw:FX}{DZ BO mo k:Nat}(F:Fun K "sorts_that_fit" "sorts_that_fit" (top 45) f fd) (yz:Df P w K mg base DZ "fits" ["kinds","answers"] (spM K nU)) (Mt:DZ<=k) (xO:DfX P w K mg base BO "check_right" ["many","answers"] (spX K oC)) (IH:BO<=k) (ln:DfX P w K mg base mo "all_sorts" ["many","most"] (spX K iw)) (qf:mo<=k):FnOk P w K mg base (CXr P w) (k+1) f fd ["many","answers"] (spX K<|yU nU oC iw):=by
 unfold yU yV;exact jB F GD fun cdv A outer s H E hr=>
  (jf (jX<|ij xO (hr.mono IH)<|ic<|fC (fA 0)<|fC (fA 1) fG)
  (gY (p6 (yG (own:=["sort"]) (cap:=[("answers",1)]) (iE rfl) (ij ln (hr.mono qf)<|ic<|fC (fA 0)<|fC (fA 0) fG)
   (fun _ _ _ _ _=>(fT (i:=0) Kc rfl (Or.inl rfl))) (fun _ _ _ _ _=>(vQ<|iX<|gg yz (hr.mono Mt)<|fC (fA 0)<|fC (fA 1) fG))
   (fun _ _ _ _ _=>(fA 0))))))
theorem uD:FnScope ["kinds","by_kind","thing","kind"] ["kinds"] (fP<|top 14):=by lia
def uX:SV:=
  (fH (fS rK<|fD 1)
  (fH (iz (xk<|be 0) (gy 2<|fN (fD 2)<|fN (fD 3) gF)
   (kg<|jw jU (jT (be 1) (be 3)<|vL jW fE)<|be 2))
  (fM<|v1 tY<|be 1)))
def mS:Fr:=gq 4 1 (uX)
theorem K8{k:Nat}(F:Fun K "alike_things" "alike_things" (top 14) f fd) (vm:mg "enumerate"=none) (nA:mg "list"=none):FnOk P w K mg base CX0 (k+1) f fd ["kinds"] (spM K<|mS):=by
 unfold mS uX;exact gM F uD fun cdv A outer s H E hr=>
  (fL (gp (i:=1) uD.nd rfl (Or.inl rfl) BL)
  (fL (i5 Tc rfl (NI vm<|fA 0) (jh (n:=2)<|gw (fT (i:=2) uD.nd rfl (Or.inl rfl))<|gw (fT (i:=3) uD.nd rfl (Or.inl rfl)) jx)
   (fK<|uQ<|Bg (wY (fA 1) (fA 3)<|wy fG)<|fA 2))
  (fK<|fU<|EH nA<|fA 1)))
theorem Cc:FnScope ["kinds","things"] ["kinds"] (fP<|top 15):=by lia
def sk(pR:Fr):SV:=
  (fH (iz (ivL<|vL pR<|fB (be 0) fE) (fD 1)
   (sIf (vT<|v2 fGt (v2 j0 (vC<|.int 2)<|v1 gX<|be 1)<|v1 gX<|be 0)
    (fM<|be 1)
    sNx))
  (fM<|vL gf fE))
def qv(pR:Fr):Fr:=gq 2 1 (sk pR)
theorem HZ{pR:Fr}{D0 k:Nat}(F:Fun K "more_than_half" "more_than_half" (top 15) f fd) (xT:Df P w K mg base D0 "alike_things" ["kinds"] (spM K pR)) (Qs:D0<=k) (iH:mg "len"=none):FnOk P w K mg base CX0 (k+1) f fd ["kinds"] (spM K<|qv pR):=by
 unfold qv sk;exact gM F Cc fun cdv A outer s H E hr=>
  (fL (i5 Tc rfl (ie<|gg xT (hr.mono Qs)<|fC (fA 0) fG) (fT (i:=1) Cc.nd rfl (Or.inl rfl))
   (fK (gI (tH (tQ fJ<|mK iH<|fA 1)<|mK iH<|fA 0)
    (fK<|fU<|fA 1)
    gC)))
  (fK<|fU<|gL fG))
theorem Cq:FnScope ["kinds","things"] ["kinds"] (fP<|top 20):=by lia
theorem Qh:((["thing"]:Ŗ)++([]:œ).map (·.1)).Nodup:=by decide +kernel
def yK(oo:Fr):SV:=
  (fH (fS (vL oo<|fB (be 0) fE)<|fD 1)
  (fM<|vIf (gG<|be 1) (gQ ["thing"] [] (ivL<|be 1) (fD 0) fQ<|vL gn<|fB (vC<|.str "one")<|fB (be 0) fE)<|vL gf<|fB (vL gn<|fB (vC<|.str "none") fE) fE))
def tV(oo:Fr):Fr:=gq 2 1 (yK oo)
theorem Mm{oo:Fr}{C8 k:Nat}(F:Fun K "half_ends" "half_ends" (top 20) f fd) (vR:Df P w K mg base C8 "more_than_half" ["kinds"] (spM K oo)) (Fm:C8<=k):FnOk P w K mg base CX0 (k+1) f fd ["kinds"] (spM K<|tV oo):=by
 unfold tV yK;exact gM F Cq fun cdv A outer s H E hr=>
  (fL (gp (i:=1) Cq.nd rfl (Or.inl rfl) (gg vR (hr.mono Fm)<|fC (fA 0) fG))
  (fK (fU (rm (iX<|fA 1) (ke (own:=["thing"]) (cap:=[]) (iE rfl) (ie<|fA 1)
   (fun _ _ _ _ _=>(fT (i:=0) Qh rfl (Or.inl rfl))) (fun _ _ _ _ _=>iC)
   (fun _ _ _ _ _=>(g5<|fC iq<|fC (fA 0) fG))) (gL<|fC (g5<|fC iq fG) fG)))))
theorem CB:FnScope ["ends","end"] ["ends"] (fP<|top 21):=by lia
theorem Mh:((["others"]:Ŗ)++([("end",1)]:œ).map (·.1)).Nodup:=by decide +kernel
def sj(gN:D):SV:=
  (fH (iz (ivL<|v2 fIx (be 0)<|vC<|.int 0) (fD 1)
   (sIf (gG<|v1 jp<|gQ ["others"] [("end",1)] (ivL<|be 0) (fD 0) fQ<|v2 (ki false) (be 1)<|be 0)
    (fM<|be 1)
    sNx))
  (fM<|vC gN))
def lE(gN:D):Fr:=gq 2 1 (sj gN)
theorem JK{k:Nat}{gN:D}{v_OPEN:V}{u_OPEN:Value}(F:Fun K "common_end" "common_end" (top 21) f fd) (io:mg "OPEN"=some u_OPEN/\RelV v_OPEN u_OPEN/\∀W,DR K W gN v_OPEN) (iB:mg "all"=none):FnOk P w K mg base CX0 (k+1) f fd ["ends"] (spM K<|lE gN):=by
 unfold lE sj;exact gM F CB fun cdv A outer s H E hr=>
  (fL (i5 Tc rfl (ie<|gB (fA 0) fJ) (fT (i:=1) CB.nd rfl (Or.inr rfl))
   (fK (gI (iX (qj iB (ke (own:=["others"]) (cap:=[("end",1)]) (iE rfl) (ie<|fA 0)
   (fun _ _ _ _ _=>(fT (i:=0) Mh rfl (Or.inl rfl))) (fun _ _ _ _ _=>iC)
   (fun _ _ _ _ _=>(AV hr (fA 1)<|fA 0)))))
    (fK<|fU<|fA 1)
    gC)))
  (fK<|fU<|jS io.1 io.2.1 io.2.2))
theorem Km:FnScope ["many","answers"] ["many","answers"] (fP<|top 46):=by lia
theorem Rh:((["sort"]:Ŗ)++([]:œ).map (·.1)).Nodup:=by decide +kernel
def w9(jO:Fr)(iu:Fr)(nL:FX):SX:=
  (kE<|vLX (upF jO)<|sE (lI ["sort"] [] (vLX nL<|upL<|fB (be 0)<|fB (be 1) fE) (fD 0) fQ<|vL iu<|fB (be 0) fE)<|upL fE)
def xi(jO:Fr)(iu:Fr)(nL:FX):FX:=hV 2 2 (w9 jO iu nL)
theorem Sc{jO iu:Fr}{nL:FX}{qS l8 zD k:Nat}(F:Fun K "tells" "tells" (top 46) f fd) (pC:Df P w K mg base qS "common_end" ["ends"] (spM K jO)) (wo:qS<=k) (lh:Df P w K mg base l8 "half_ends" ["kinds"] (spM K iu)) (qe:l8<=k) (xU:DfX P w K mg base zD "sorts_that_fit" ["many","answers"] (spX K nL)) (IQ:zD<=k):FnOk P w K mg base (CXr P w) (k+1) f fd ["many","answers"] (spX K<|xi jO iu nL):=by
 unfold xi w9;exact jB F Km fun cdv A outer s H E hr=>
  (gY (p6 (Nx pC (hr.mono wo) (NS (yG (own:=["sort"]) (cap:=[]) (iE rfl) (ij xU (hr.mono IQ)<|ic<|fC (fA 0)<|fC (fA 1) fG)
   (fun _ _ _ _ _=>(fT (i:=0) Rh rfl (Or.inl rfl))) (fun _ _ _ _ _=>iC)
   (fun _ _ _ _ _=>(gg lh (hr.mono qe)<|fC (fA 0) fG))) (ic fG)))))
theorem Ko:FnScope ["many"] ["many"] (fP<|top 23):=by lia
theorem Bv:((["i","j"]:Ŗ)++([("many",0)]:œ).map (·.1)).Nodup:=by decide +kernel
def yt:SV:=
  (fM<|kN ["i","j"] [("many",0)] (ivR<|be 0) (fD 0) fQ (qd (v2 gK (be 0)<|vC<|.int 1)<|be 2) (fD 1) fQ<|vL gn<|fB (be 0)<|fB (be 1) fE)
def mY:Fr:=gq 1 1 (yt)
theorem Sl{k:Nat}(F:Fun K "pairs_of" "pairs_of" (top 23) f fd) (iS:mg "range"=none):FnOk P w K mg base CX0 (k+1) f fd ["many"] (spM K<|mY):=by
 unfold mY yt;exact gM F Ko fun cdv A outer s H E hr=>
  (fK (fU (J8 (own:=["i","j"]) (cap:=[("many",0)]) (iE rfl) (xA iS<|fA 0)
   (fun _ _ _ _ _=>(fT (i:=0) Bv rfl (Or.inl rfl))) (fun _ _ _ _ _=>iC)
   (fun _ _ _ _ _=>(MK iS (js (fA 0) fJ)<|fA 2)) (fun _ _ _ _ _=>(fT (i:=1) Bv rfl (Or.inl rfl))) (fun _ _ _ _ _=>iC)
   (fun _ _ _ _ _=>(g5<|fC (fA 0)<|fC (fA 1) fG)))))
theorem M5:FnScope ["many","least","greatest"] ["many","least","greatest"] (fP<|top 11):=by lia
def qE(iN:Addr)(i6:Addr):SX:=
  (gl (iD (upB<|vT<|v2 fLt (be 0)<|be 1)
   (j5 iN<|(be 1)::((be 0)::[]))
   (upS sNx))
  (iD (upB<|vT<|v2 fGt (be 0)<|be 2)
   (j5 i6<|(be 2)::((be 0)::[]))
   (upS sNx)))
def jn(iN:Addr)(i6:Addr):FX:=hV 3 3 (qE iN i6)
theorem Nm{k:Nat}{iN:Addr}{i6:Addr}(F:Fun K "check_many" "check_many" (top 11) f fd) (jV:mg "NoThing"=some (.ref iN)/\jb K iN) (lY:mg "TooMany"=some (.ref i6)/\jb K i6):FnOk P w K mg base (CXr P w) (k+1) f fd ["many","least","greatest"] (spX K<|jn iN i6):=by
 unfold jn qE;exact jB F M5 fun cdv A outer s H E hr=>
  (jf (kf (kz<|tU (fA 0)<|fA 1)
   (gY<|pf (oG<|jk (by decide)<|ka (fA 1)<|jk (by decide)<|ka (fA 0) pj0) jV.1 jV.2)
   mO)
  (gY (kf (kz<|tH (fA 0)<|fA 2)
   (gY<|pf (oG<|jk (by decide)<|ka (fA 2)<|jk (by decide)<|ka (fA 0) pj0) lY.1 lY.2)
   mO)))
theorem QL:FnScope ["self","many","sorts","ends"] ["self","many","sorts","ends"] (fP<|j1 (top 25) 0):=by lia
def yo(ip:Fr)(fX:Addr):SV:=
  (fH (oz fX "pairs" (be 0)<|vL ip<|fB (be 1) fE)
  (fH (oz fX "sorts" (be 0)<|be 2)
  (fH (oz fX "ends" (be 0)<|be 3)
  (oz fX "searched" (be 0) vA))))
def sR(ip:Fr)(fX:Addr):Fr:=gq 4 4 (yo ip fX)
theorem EG{ip:Fr}{lZ k:Nat}{fX:Addr}(F:Fun K "__init__" "Search.__init__" (j1 (top 25) 0) f fd) (lm:Df P w K mg base lZ "pairs_of" ["many"] (spM K ip)) (qM:lZ<=k) (nW:FldC K fX "pairs") (lJ:FldC K fX "sorts") (pw:FldC K fX "ends") (mn:FldC K fX "searched"):FnOk P w K mg base CX0 (k+1) f fd ["self","many","sorts","ends"] (spM K<|sR ip fX):=by
 unfold sR yo;exact gM F QL fun cdv A outer s H E hr=>
  (fL (uN nW (fA 0)<|gg lm (hr.mono qM)<|fC (fA 1) fG)
  (fL (uN lJ (fA 0)<|fA 2)
  (fL (uN pw (fA 0)<|fA 3)
  (fK<|uN mn (fA 0) Io))))
theorem rq:FnScope ["self","i","j","left","asks","alike","unlike","if_alike","if_unlike"] ["self","i","j","left","asks"] (fP<|j1 (top 25) 3):=by lia
theorem Gv:((["number"]:Ŗ)++([("self",0),("i",1),("j",2)]:œ).map (·.1)).Nodup:=by decide +kernel
theorem RY:((["number"]:Ŗ)++([("self",0),("i",1),("j",2)]:œ).map (·.1)).Nodup:=by decide +kernel
def wq(i7:Fr)(fX:Addr):SV:=
  (fH (fS (v1 uo<|gQ ["number"] [("self",0),("i",1),("j",2)] (ivT<|be 3) (fD 0) (vT<|v2 fEq (v2 fIx (v2 fIx (v1 (iM fX "sorts")<|be 1)<|be 0)<|be 2)<|v2 fIx (v2 fIx (v1 (iM fX "sorts")<|be 1)<|be 0)<|be 3)<|be 0)<|fD 5)
  (fH (fS (v1 uo<|gQ ["number"] [("self",0),("i",1),("j",2)] (ivT<|be 3) (fD 0) (vT<|v2 fNe (v2 fIx (v2 fIx (v1 (iM fX "sorts")<|be 1)<|be 0)<|be 2)<|v2 fIx (v2 fIx (v1 (iM fX "sorts")<|be 1)<|be 0)<|be 3)<|be 0)<|fD 6)
  (fH (sIf (bOr (iO<|gG<|be 5)<|iO<|gG<|be 6)
   (fM<|vC .non)
   sNx)
  (fH (fS (ly fX "tree_within" i7 (be 0)<|fB (be 5)<|fB (v2 j2 (be 4)<|vC<|.int 1) fE)<|fD 7)
  (fH (sIf (vT<|v2 jz (be 7)<|vC .non)
   (fM<|vC .non)
   sNx)
  (fH (fS (ly fX "tree_within" i7 (be 0)<|fB (be 6)<|fB (v2 j2 (be 4)<|vC<|.int 1) fE)<|fD 8)
  (fH (sIf (vT<|v2 jz (be 8)<|vC .non)
   (fM<|vC .non)
   sNx)
  (fM<|vL gn<|fB (vC<|.str "ask")<|fB (be 1)<|fB (be 2)<|fB (be 7)<|fB (be 8) fE))))))))
def p9(i7:Fr)(fX:Addr):Fr:=gq 9 5 (wq i7 fX)
theorem P9{i7:Fr}{qC k:Nat}{fX:Addr}(F:Fun K "tree_asking" "Search.tree_asking" (j1 (top 25) 3) f fd) (ng:MtC P w K mg base CX0 qC fX "tree_within" ["self","left","asks"] (spM K i7)) (p7:qC<=k) (lJ:FldC K fX "sorts") (jM:mg "tuple"=none):FnOk P w K mg base CX0 (k+1) f fd ["self","i","j","left","asks"] (spM K<|p9 i7 fX):=by
 unfold p9 wq;exact gM F rq fun cdv A outer s H E hr=>
  (fL (gp (i:=5) rq.nd rfl (Or.inl rfl) (D8 jM (ke (own:=["number"]) (cap:=[("self",0),("i",1),("j",2)]) (iE rfl) (qQ<|fA 3)
   (fun _ _ _ _ _=>(fT (i:=0) Gv rfl (Or.inl rfl))) (fun _ _ _ _ _=>(vQ<|iP hr (gB (gB (lC lJ<|fA 1)<|fA 0)<|fA 2)<|gB (gB (lC lJ<|fA 1)<|fA 0)<|fA 3))
   (fun _ _ _ _ _=>(fA 0)))))
  (fL (gp (i:=6) rq.nd rfl (Or.inl rfl) (D8 jM (ke (own:=["number"]) (cap:=[("self",0),("i",1),("j",2)]) (iE rfl) (qQ<|fA 3)
   (fun _ _ _ _ _=>(fT (i:=0) RY rfl (Or.inl rfl))) (fun _ _ _ _ _=>(vQ<|lO hr (gB (gB (lC lJ<|fA 1)<|fA 0)<|fA 2)<|gB (gB (lC lJ<|fA 1)<|fA 0)<|fA 3))
   (fun _ _ _ _ _=>(fA 0)))))
  (fL (gI (PW.pt<|ql (kK<|iX<|fA 5)<|uH<|kK<|iX<|fA 6)
   (fK<|fU iJ)
   gC)
  (fL (gp (i:=7) rq.nd rfl (Or.inl rfl) (oU ng (hr.mono p7) (fA 0)<|fC (fA 5)<|fC (kA (fA 4) fJ) fG))
  (fL (gI (rl (fA 7) iJ)
   (fK<|fU iJ)
   gC)
  (fL (gp (i:=8) rq.nd rfl (Or.inl rfl) (oU ng (hr.mono p7) (fA 0)<|fC (fA 6)<|fC (kA (fA 4) fJ) fG))
  (fL (gI (rl (fA 8) iJ)
   (fK<|fU iJ)
   gC)
  (fK<|fU<|g5<|fC iq<|fC (fA 1)<|fC (fA 2)<|fC (fA 7)<|fC (fA 8) fG))))))))
theorem rR:FnScope ["self","left","asks","end","i","j","tree"] ["self","left","asks"] (fP<|j1 (top 25) 2):=by lia
theorem P3:((["number"]:Ŗ)++([("self",0)]:œ).map (·.1)).Nodup:=by decide +kernel
def v3(jO:Fr)(pQ:Fr)(gN:D)(fX:Addr):SV:=
  (fH (fS (vL jO<|fB (gQ ["number"] [("self",0)] (ivT<|be 1) (fD 0) fQ<|v2 fIx (v1 (iM fX "ends")<|be 1)<|be 0) fE)<|fD 3)
  (fH (sIf (vT<|v2 fNe (be 3)<|vC gN)
   (fM<|be 3)
   sNx)
  (fH (sIf (vT<|v2 fEq (be 2)<|vC<|.int 0)
   (fM<|vC .non)
   sNx)
  (fH (iz (ivL<|v1 (iM fX "pairs")<|be 0) (gy 2<|fN (fD 4)<|fN (fD 5) gF)
   (fH (fS (ly fX "tree_asking" pQ (be 0)<|fB (be 4)<|fB (be 5)<|fB (be 1)<|fB (be 2) fE)<|fD 6)
   (sIf (vT<|v2 lj (be 6)<|vC .non)
    (fM<|be 6)
    sNx)))
  (fM<|vC .non)))))
def t5(jO:Fr)(pQ:Fr)(gN:D)(fX:Addr):Fr:=gq 7 3 (v3 jO pQ gN fX)
theorem KL{jO pQ:Fr}{qS B6 k:Nat}{gN:D}{v_OPEN:V}{u_OPEN:Value}{fX:Addr}(F:Fun K "new_tree" "Search.new_tree" (j1 (top 25) 2) f fd) (pC:Df P w K mg base qS "common_end" ["ends"] (spM K jO)) (wo:qS<=k) (u6:MtC P w K mg base CX0 B6 fX "tree_asking" ["self","i","j","left","asks"] (spM K pQ)) (HG:B6<=k) (pw:FldC K fX "ends") (nW:FldC K fX "pairs") (io:mg "OPEN"=some u_OPEN/\RelV v_OPEN u_OPEN/\∀W,DR K W gN v_OPEN):FnOk P w K mg base CX0 (k+1) f fd ["self","left","asks"] (spM K<|t5 jO pQ gN fX):=by
 unfold t5 v3;exact gM F rR fun cdv A outer s H E hr=>
  (fL (gp (i:=3) rR.nd rfl (Or.inl rfl) (gg pC (hr.mono wo) (fC (ke (own:=["number"]) (cap:=[("self",0)]) (iE rfl) (qQ<|fA 1)
   (fun _ _ _ _ _=>(fT (i:=0) P3 rfl (Or.inl rfl))) (fun _ _ _ _ _=>iC)
   (fun _ _ _ _ _=>(gB (lC pw<|fA 1)<|fA 0))) fG)))
  (fL (gI (lO hr (fA 3)<|jS io.1 io.2.1 io.2.2)
   (fK<|fU<|fA 3)
   gC)
  (fL (gI (iP hr (fA 2) fJ)
   (fK<|fU iJ)
   gC)
  (fL (i5 Tc rfl (ie<|lC nW<|fA 0) (jh (n:=2)<|gw (fT (i:=4) rR.nd rfl (Or.inl rfl))<|gw (fT (i:=5) rR.nd rfl (Or.inl rfl)) jx)
   (fL (gp (i:=6) rR.nd rfl (Or.inl rfl) (oU u6 (hr.mono HG) (fA 0)<|fC (fA 4)<|fC (fA 5)<|fC (fA 1)<|fC (fA 2) fG))
   (fK (gI (Ef (fA 6) iJ)
    (fK<|fU<|fA 6)
    gC))))
  (fK<|fU iJ)))))
theorem Rb:FnScope ["self","left","asks"] ["self","left","asks"] (fP<|j1 (top 25) 1):=by lia
def vY(pM:Fr)(fX:Addr):SV:=
  (fH (sIf (vT<|v2 (rn true) (vL gn<|fB (be 1)<|fB (be 2) fE)<|v1 (iM fX "searched")<|be 0)
   (vS (v1 (iM fX "searched")<|be 0) (vL gn<|fB (be 1)<|fB (be 2) fE)<|ly fX "new_tree" pM (be 0)<|fB (be 1)<|fB (be 2) fE)
   sNx)
  (fM<|v2 sA (v1 (iM fX "searched")<|be 0)<|vL gn<|fB (be 1)<|fB (be 2) fE))
def uh(pM:Fr)(fX:Addr):Fr:=gq 3 3 (vY pM fX)
theorem EA{pM:Fr}{Av k:Nat}{fX:Addr}(F:Fun K "tree_within" "Search.tree_within" (j1 (top 25) 1) f fd) (xj:MtC P w K mg base CX0 Av fX "new_tree" ["self","left","asks"] (spM K pM)) (R5:Av<=k) (mn:FldC K fX "searched"):FnOk P w K mg base CX0 (k+1) f fd ["self","left","asks"] (spM K<|uh pM fX):=by
 unfold uh vY;exact gM F Rb fun cdv A outer s H E hr=>
  (fL (gI (Ry hr (g5<|fC (fA 1)<|fC (fA 2) fG)<|lC mn<|fA 0)
   (fK<|Qz hr (lC mn<|fA 0) (g5<|fC (fA 1)<|fC (fA 2) fG)<|oU xj (hr.mono R5) (fA 0)<|fC (fA 1)<|fC (fA 2) fG)
   gC)
  (fK<|fU<|EK hr (lC mn<|fA 0)<|g5<|fC (fA 1)<|fC (fA 2) fG))
theorem qy:FnScope ["many","sorts","ends","search","every","asks"] ["many","sorts","ends"] (fP<|top 26):=by lia
def uW(nI:Fr)(i7:Fr)(fX:Addr):SV:=
  (fH (fS (sK fX nI<|fB (be 0)<|fB (be 1)<|fB (be 2) fE)<|fD 3)
  (fH (fS (v1 rJ<|v1 gX<|be 1)<|fD 4)
  (fH (fS (vC<|.int 0)<|fD 5)
  (fH (lc (vT<|v2 jz (ly fX "tree_within" i7 (be 3)<|fB (be 4)<|fB (be 5) fE)<|vC .non)
   (pD 5 yR<|vC<|.int 1) 1000000)
  (fM<|vL gn<|fB (be 5)<|fB (ly fX "tree_within" i7 (be 3)<|fB (be 4)<|fB (be 5) fE) fE)))))
def sm(nI:Fr)(i7:Fr)(fX:Addr):Fr:=gq 6 3 (uW nI i7 fX)
theorem Jq{nI i7:Fr}{zU qC k:Nat}{fX:Addr}(F:Fun K "fewest_asks" "fewest_asks" (top 26) f fd) (xz:MkC P w K mg base CX0 zU fX "Search" ["self","many","sorts","ends"] (spM K nI)) (Mv:zU+1<=k) (ng:MtC P w K mg base CX0 qC fX "tree_within" ["self","left","asks"] (spM K i7)) (p7:qC<=k) (iH:mg "len"=none) (jM:mg "tuple"=none) (iS:mg "range"=none):FnOk P w K mg base CX0 (k+1) f fd ["many","sorts","ends"] (spM K<|sm nI i7 fX):=by
 unfold sm uW;exact gM F qy fun cdv A outer s H E hr=>
  (fL (gp (i:=3) qy.nd rfl (Or.inl rfl) (QJ xz (hr.mono Mv)<|fC (fA 0)<|fC (fA 1)<|fC (fA 2) fG))
  (fL (gp (i:=4) qy.nd rfl (Or.inl rfl) (FQ jM iS<|mK iH<|fA 1))
  (fL (gp (i:=5) qy.nd rfl (Or.inl rfl) fJ)
  (fL (yn 1000000 Tc (rl (oU ng (hr.mono p7) (fA 3)<|fC (fA 4)<|fC (fA 5) fG) iJ)
   (fK<|KN (i:=5) qy.nd rfl (Or.inl rfl) fJ))
  (fK<|fU<|g5<|fC (fA 5)<|fC (oU ng (hr.mono p7) (fA 3)<|fC (fA 4)<|fC (fA 5) fG) fG)))))
theorem zu:FnScope ["many","most","sorts"] ["many","most"] (fP<|top 35):=by lia
theorem OQ:((["sort"]:Ŗ)++([]:œ).map (·.1)).Nodup:=by decide +kernel
def xX(iu:Fr)(nt:Fr)(iw:FX):SX:=
  (gl (oN (vLX iw<|upL<|fB (be 0)<|fB (be 1) fE)<|fD 2)
  (upS<|fM<|vL nt<|fB (be 0)<|fB (be 2)<|fB (gQ ["sort"] [] (ivL<|be 2) (fD 0) fQ<|vL iu<|fB (be 0) fE) fE))
def tz(iu:Fr)(nt:Fr)(iw:FX):FX:=hV 3 2 (xX iu nt iw)
theorem Pu{iu nt:Fr}{iw:FX}{l8 Di mo k:Nat}(F:Fun K "fewest_of" "fewest_of" (top 35) f fd) (lh:Df P w K mg base l8 "half_ends" ["kinds"] (spM K iu)) (qe:l8<=k) (yF:Df P w K mg base Di "fewest_asks" ["many","sorts","ends"] (spM K nt)) (LR:Di<=k) (ln:DfX P w K mg base mo "all_sorts" ["many","most"] (spX K iw)) (qf:mo<=k):FnOk P w K mg base (CXr P w) (k+1) f fd ["many","most"] (spX K<|tz iu nt iw):=by
 unfold tz xX;exact jB F zu fun cdv A outer s H E hr=>
  (jf (Sn (i:=2) zu.nd rfl (Or.inl rfl) (ij ln (hr.mono qf)<|ic<|fC (fA 0)<|fC (fA 1) fG))
  (qb (fK (fU (gg yF (hr.mono LR) (fC (fA 0) (fC (fA 2) (fC (ke (own:=["sort"]) (cap:=[]) (iE rfl) (ie<|fA 2)
   (fun _ _ _ _ _=>(fT (i:=0) OQ rfl (Or.inl rfl))) (fun _ _ _ _ _=>iC)
   (fun _ _ _ _ _=>(gg lh (hr.mono qe)<|fC (fA 0) fG))) fG))))))))
theorem PH:FnScope ["many"] ["many"] (fP<|top 36):=by lia
def sI(gx:FX)(jN:FX)(oE:D):SX:=
  (gl (iV<|vLX gx<|upL<|fB (be 0)<|fB (vC<|.int 1)<|fB (vC oE) fE)
  (kE<|vLX jN<|upL<|fB (be 0)<|fB (be 0) fE))
def rM(gx:FX)(jN:FX)(oE:D):FX:=hV 1 1 (sI gx jN oE)
theorem F5{gx jN:FX}{ju qm k:Nat}{oE:D}{v_MOST_SEARCHED:V}{u_MOST_SEARCHED:Value}(F:Fun K "fewest" "fewest" (top 36) f fd) (ja:DfX P w K mg base ju "check_many" ["many","least","greatest"] (spX K gx)) (lr:ju<=k) (pU:DfX P w K mg base qm "fewest_of" ["many","most"] (spX K jN)) (yM:qm<=k) (p8:mg "MOST_SEARCHED"=some u_MOST_SEARCHED/\RelV v_MOST_SEARCHED u_MOST_SEARCHED/\∀W,DR K W oE v_MOST_SEARCHED):FnOk P w K mg base (CXr P w) (k+1) f fd ["many"] (spX K<|rM gx jN oE):=by
 unfold rM sI;exact jB F PH fun cdv A outer s H E hr=>
  (jf (jX<|ij ja (hr.mono lr)<|ic<|fC (fA 0)<|fC fJ<|fC (jS p8.1 p8.2.1 p8.2.2) fG)
  (gY<|p6<|ij pU (hr.mono yM)<|ic<|fC (fA 0)<|fC (fA 0) fG))
theorem No:FnScope ["many"] ["many"] (fP<|top 37):=by lia
def sr(gx:FX)(jN:FX)(oS:D):SX:=
  (gl (iV<|vLX gx<|upL<|fB (be 0)<|fB (vC<|.int 1)<|fB (vC oS) fE)
  (kE<|vLX jN<|upL<|fB (be 0)<|fB (vC<|.int 2) fE))
def pY(gx:FX)(jN:FX)(oS:D):FX:=hV 1 1 (sr gx jN oS)
theorem FV{gx jN:FX}{ju qm k:Nat}{oS:D}{v_MOST_SEARCHED_OF_TWO:V}{u_MOST_SEARCHED_OF_TWO:Value}(F:Fun K "fewest_of_two" "fewest_of_two" (top 37) f fd) (ja:DfX P w K mg base ju "check_many" ["many","least","greatest"] (spX K gx)) (lr:ju<=k) (pU:DfX P w K mg base qm "fewest_of" ["many","most"] (spX K jN)) (yM:qm<=k) (qG:mg "MOST_SEARCHED_OF_TWO"=some u_MOST_SEARCHED_OF_TWO/\RelV v_MOST_SEARCHED_OF_TWO u_MOST_SEARCHED_OF_TWO/\∀W,DR K W oS v_MOST_SEARCHED_OF_TWO):FnOk P w K mg base (CXr P w) (k+1) f fd ["many"] (spX K<|pY gx jN oS):=by
 unfold pY sr;exact jB F No fun cdv A outer s H E hr=>
  (jf (jX<|ij ja (hr.mono lr)<|ic<|fC (fA 0)<|fC fJ<|fC (jS qG.1 qG.2.1 qG.2.2) fG)
  (gY<|p6<|ij pU (hr.mono yM)<|ic<|fC (fA 0)<|fC fJ fG))
theorem wk:FnScope ["tree","alike","unlike"] ["tree"] (fP<|top 30):=by lia
def yx:SV:=
  (fH (sIf (vT<|v2 fNe (v2 fIx (be 0)<|vC<|.int 0)<|vC<|.str "ask")
   (fM<|vL gf fE)
   sNx)
  (fH (fS (vSl (be 0) (m3<|vC<|.int 3) nC)<|gy 2<|fN (fD 1)<|fN (fD 2) gF)
  (fM<|vIf (vT<|v2 fEq (be 1)<|be 2) (vL gf<|fB (be 1) fE)<|vL gf<|fB (be 1)<|fB (be 2) fE)))
def lW:Fr:=gq 3 1 (yx)
theorem Pc{k:Nat}(F:Fun K "branches" "branches" (top 30) f fd):FnOk P w K mg base CX0 (k+1) f fd ["tree"] (spM K<|lW):=by
 unfold lW yx;exact gM F wk fun cdv A outer s H E hr=>
  (fL (gI (lO hr (gB (fA 0) fJ) iq)
   (fK<|fU<|gL fG)
   gC)
  (fL (sZ (sD (fA 0) (rP fJ) xx)<|jh (n:=2)<|gw (fT (i:=1) wk.nd rfl (Or.inl rfl))<|gw (fT (i:=2) wk.nd rfl (Or.inl rfl)) jx)
  (fK<|fU<|rm (iP hr (fA 1)<|fA 2) (gL<|fC (fA 1) fG)<|gL<|fC (fA 1)<|fC (fA 2) fG)))
theorem CW:FnScope ["many","tree","things"] ["many","tree"] (fP<|top 31):=by lia
theorem Nz:((["thing"]:Ŗ)++([("many",0)]:œ).map (·.1)).Nodup:=by decide +kernel
def wb:SV:=
  (fH (fS (vSl (be 1) (m3<|vC<|.int 1)<|m3<|vC<|.int 3)<|fD 2)
  (fH (sIf (k9 (vT<|v2 fEq (v2 fIx (be 1)<|vC<|.int 0)<|vC<|.str "ask")<|vT<|v2 fEq (v2 fIx (be 2)<|vC<|.int 0)<|v2 fIx (be 2)<|vC<|.int 1)
   (fM<|vC<|.bl false)
   sNx)
  (fM<|v1 jp<|gQ ["thing"] [("many",0)] (ivT<|be 2) (fD 0) fQ<|jA fLe fLt (vC<|.int 0) (be 0)<|be 1)))
def qg:Fr:=gq 3 2 (wb)
theorem O7{k:Nat}(F:Fun K "names_things" "names_things" (top 31) f fd) (iB:mg "all"=none):FnOk P w K mg base CX0 (k+1) f fd ["many","tree"] (spM K<|qg):=by
 unfold qg wb;exact gM F CW fun cdv A outer s H E hr=>
  (fL (gp (i:=2) CW.nd rfl (Or.inl rfl) (sD (fA 1) (rP fJ)<|rP fJ))
  (fL (gI (PW.pt<|AH (iP hr (gB (fA 1) fJ) iq)<|D2<|iP hr (gB (fA 2) fJ)<|gB (fA 2) fJ)
   (fK<|fU ik)
   gC)
  (fK (fU (qj iB (ke (own:=["thing"]) (cap:=[("many",0)]) (iE rfl) (qQ<|fA 2)
   (fun _ _ _ _ _=>(fT (i:=0) Nz rfl (Or.inl rfl))) (fun _ _ _ _ _=>iC)
   (fun _ _ _ _ _=>(Nt xP xy t7 vJ fJ (fA 0)<|fA 1))))))))
theorem u3:FnScope ["many","tree","level"] ["many","tree"] (fP<|top 32):=by lia
theorem R0:((["part"]:Ŗ)++([("many",0)]:œ).map (·.1)).Nodup:=by decide +kernel
theorem AW:((["part","branch"]:Ŗ)++([]:œ).map (·.1)).Nodup:=by decide +kernel
def va(pL:Fr)(pG:Fr):SV:=
  (fH (fS (vL gf<|fB (be 1) fE)<|fD 2)
  (fH (lc (gG<|be 2)
   (fH (sIf (iO<|gG<|v1 jp<|gQ ["part"] [("many",0)] (ivL<|be 2) (fD 0) fQ<|vL pL<|fB (be 1)<|fB (be 0) fE)
    (fM<|vC<|.bl false)
    sNx)
   (fS (kN ["part","branch"] [] (ivL<|be 2) (fD 0) fQ (ivL<|vL pG<|fB (be 0) fE) (fD 1) fQ<|be 1)<|fD 2)) 1000000)
  (fM<|vC<|.bl true)))
def t0(pL:Fr)(pG:Fr):Fr:=gq 3 2 (va pL pG)
theorem HP{pL pG:Fr}{CJ Ca k:Nat}(F:Fun K "names_things_throughout" "names_things_throughout" (top 32) f fd) (wu:Df P w K mg base CJ "names_things" ["many","tree"] (spM K pL)) (IY:CJ<=k) (x8:Df P w K mg base Ca "branches" ["tree"] (spM K pG)) (El:Ca<=k) (iB:mg "all"=none):FnOk P w K mg base CX0 (k+1) f fd ["many","tree"] (spM K<|t0 pL pG):=by
 unfold t0 va;exact gM F u3 fun cdv A outer s H E hr=>
  (fL (gp (i:=2) u3.nd rfl (Or.inl rfl) (gL<|fC (fA 1) fG))
  (fL (yn 1000000 Tc (iX<|fA 2)
   (fL (gI (kK (iX (qj iB (ke (own:=["part"]) (cap:=[("many",0)]) (iE rfl) (ie<|fA 2)
   (fun _ _ _ _ _=>(fT (i:=0) R0 rfl (Or.inl rfl))) (fun _ _ _ _ _=>iC)
   (fun _ _ _ _ _=>(gg wu (hr.mono IY)<|fC (fA 1)<|fC (fA 0) fG))))))
    (fK<|fU ik)
    gC)
   (fK (Dh (i:=2) u3.nd rfl rfl (own:=["part","branch"]) (cap:=[]) (iE rfl) (ie<|fA 2)
   (fun _ _ _ _ _=>(fT (i:=0) AW rfl (Or.inl rfl))) (fun _ _ _ _ _=>iC)
   (fun _ _ _ _ _=>(ie<|gg x8 (hr.mono El)<|fC (fA 0) fG)) (fun _ _ _ _ _=>(fT (i:=1) AW rfl (Or.inl rfl))) (fun _ _ _ _ _=>iC)
   (fun _ _ _ _ _=>(fA 1))))))
  (fK<|fU ik)))
theorem oW:FnScope ["tree","kinds","i","j","alike","unlike"] ["tree","kinds"] (fP<|top 33):=by lia
def wl:SV:=
  (fH (lc (vT<|v2 fEq (v2 fIx (be 0)<|vC<|.int 0)<|vC<|.str "ask")
   (fH (fS (vSl (be 0) (m3<|vC<|.int 1) nC)<|gy 4<|fN (fD 2)<|fN (fD 3)<|fN (fD 4)<|fN (fD 5) gF)
   (fS (vIf (vT<|v2 fEq (v2 fIx (be 1)<|be 2)<|v2 fIx (be 1)<|be 3) (be 4)<|be 5)<|fD 0)) 1000000)
  (fM<|be 0))
def nw:Fr:=gq 6 2 (wl)
theorem P6{k:Nat}(F:Fun K "end_for" "end_for" (top 33) f fd):FnOk P w K mg base CX0 (k+1) f fd ["tree","kinds"] (spM K<|nw):=by
 unfold nw wl;exact gM F oW fun cdv A outer s H E hr=>
  (fL (yn 1000000 Tc (iP hr (gB (fA 0) fJ) iq)
   (fL (sZ (sD (fA 0) (rP fJ) xx)<|jh (n:=4)<|gw (fT (i:=2) oW.nd rfl (Or.inl rfl))<|gw (fT (i:=3) oW.nd rfl (Or.inl rfl))<|gw (fT (i:=4) oW.nd rfl (Or.inl rfl))<|gw (fT (i:=5) oW.nd rfl (Or.inl rfl)) jx)
   (fK<|gp (i:=0) oW.nd rfl (Or.inl rfl) (rm (iP hr (gB (fA 1)<|fA 2)<|gB (fA 1)<|fA 3) (fA 4)<|fA 5))))
  (fK<|fU<|fA 0))
theorem Na:FnScope ["many","tree"] ["many","tree"] (fP<|top 34):=by lia
theorem Ps:((["sort"]:Ŗ)++([("tree",1)]:œ).map (·.1)).Nodup:=by decide +kernel
def si(nH:Fr)(oy:Fr)(iu:Fr)(gx:FX)(iw:FX)(jl:D):SX:=
  (gl (iV<|vLX gx<|upL<|fB (be 0)<|fB (vC<|.int 0)<|fB (vC jl) fE)
  (gl (upS (sIf (iO<|gG<|vL nH<|fB (be 0)<|fB (be 1) fE)
   (fM<|vC<|.bl false)
   sNx))
  (kE<|sB jp<|lI ["sort"] [("tree",1)] (vLX iw<|upL<|fB (be 0)<|fB (be 0) fE) (fD 0) fQ<|v2 (ki false) (vL oy<|fB (be 1)<|fB (be 0) fE)<|vL iu<|fB (be 0) fE)))
def qR(nH:Fr)(oy:Fr)(iu:Fr)(gx:FX)(iw:FX)(jl:D):FX:=hV 2 2 (si nH oy iu gx iw jl)
theorem NT{nH oy iu:Fr}{gx iw:FX}{C5 z8 l8 ju mo k:Nat}{jl:D}{v_MOST_THINGS:V}{u_MOST_THINGS:Value}(F:Fun K "finds_out" "finds_out" (top 34) f fd) (zd:Df P w K mg base C5 "names_things_throughout" ["many","tree"] (spM K nH)) (M4:C5<=k) (wN:Df P w K mg base z8 "end_for" ["tree","kinds"] (spM K oy)) (HV:z8<=k) (lh:Df P w K mg base l8 "half_ends" ["kinds"] (spM K iu)) (qe:l8<=k) (ja:DfX P w K mg base ju "check_many" ["many","least","greatest"] (spX K gx)) (lr:ju<=k) (ln:DfX P w K mg base mo "all_sorts" ["many","most"] (spX K iw)) (qf:mo<=k) (jH:mg "MOST_THINGS"=some u_MOST_THINGS/\RelV v_MOST_THINGS u_MOST_THINGS/\∀W,DR K W jl v_MOST_THINGS) (iB:mg "all"=none):FnOk P w K mg base (CXr P w) (k+1) f fd ["many","tree"] (spX K<|qR nH oy iu gx iw jl):=by
 unfold qR si;exact jB F Na fun cdv A outer s H E hr=>
  (jf (jX<|ij ja (hr.mono lr)<|ic<|fC (fA 0)<|fC fJ<|fC (jS jH.1 jH.2.1 jH.2.2) fG)
  (jf (Eh (gI (kK<|iX<|gg zd (hr.mono M4)<|fC (fA 0)<|fC (fA 1) fG)
   (fK<|fU ik)
   gC))
  (gY (p6 (OX iB (yG (own:=["sort"]) (cap:=[("tree",1)]) (iE rfl) (ij ln (hr.mono qf)<|ic<|fC (fA 0)<|fC (fA 0) fG)
   (fun _ _ _ _ _=>(fT (i:=0) Ps rfl (Or.inl rfl))) (fun _ _ _ _ _=>iC)
   (fun _ _ _ _ _=>(AV hr (gg wN (hr.mono HV)<|fC (fA 1)<|fC (fA 0) fG)<|gg lh (hr.mono qe)<|fC (fA 0) fG))))))))
theorem Fd:FnScope ["row"] ["row"] (fP<|top 50):=by lia
def vz:SV:=
  (fM<|l3 (v1 (k7 "tuple")<|be 0)<|l3 (v2 fEq (v1 gX<|be 0)<|vC<|.int 2)<|v1 (k7 "bool")<|v2 fIx (be 0)<|vC<|.int 0)
def mT:Fr:=gq 1 1 (vz)
theorem Lx{k:Nat}(F:Fun K "is_row" "is_row" (top 50) f fd) (iU:mg "isinstance"=none) (jM:mg "tuple"=none) (iH:mg "len"=none) (yJ:mg "bool"=none):FnOk P w K mg base CX0 (k+1) f fd ["row"] (spM K<|mT):=by
 unfold mT vz;exact gM F Fd fun cdv A outer s H E hr=>
  (fK<|fU<|oQ (uI "tuple" iU (fA 0)<|rg rfl jM rfl (v:=.ty "tuple") rfl)<|oQ (rV hr (mK iH<|fA 0) fJ)<|sU<|uI "bool" iU (gB (fA 0) fJ)<|rg rfl yJ rfl (v:=.ty "bool") rfl)
theorem Rt:FnScope ["pairs","paper"] ["pairs","paper"] (fP<|top 51):=by lia
theorem Pm:((["row"]:Ŗ)++([]:œ).map (·.1)).Nodup:=by decide +kernel
def wZ(ow:Fr):SV:=
  (fM<|l3 (v1 (k7 "list")<|be 1)<|l3 (v2 fEq (v1 gX<|be 1)<|v1 gX<|be 0)<|v1 jp<|gQ ["row"] [] (ivL<|be 1) (fD 0) fQ<|vL ow<|fB (be 0) fE)
def rS(ow:Fr):Fr:=gq 2 2 (wZ ow)
theorem Fi{ow:Fr}{Ce k:Nat}(F:Fun K "is_paper_of" "is_paper_of" (top 51) f fd) (yD:Df P w K mg base Ce "is_row" ["row"] (spM K ow)) (Fy:Ce<=k) (iU:mg "isinstance"=none) (nA:mg "list"=none) (iH:mg "len"=none) (iB:mg "all"=none):FnOk P w K mg base CX0 (k+1) f fd ["pairs","paper"] (spM K<|rS ow):=by
 unfold rS wZ;exact gM F Rt fun cdv A outer s H E hr=>
  (fK (fU (oQ (uI "list" iU (fA 1)<|rg rfl nA rfl (v:=.ty "list") rfl) (oQ (rV hr (mK iH<|fA 1)<|mK iH<|fA 0) (sU (qj iB (ke (own:=["row"]) (cap:=[]) (iE rfl) (ie<|fA 1)
   (fun _ _ _ _ _=>(fT (i:=0) Pm rfl (Or.inl rfl))) (fun _ _ _ _ _=>iC)
   (fun _ _ _ _ _=>(gg yD (hr.mono Fy)<|fC (fA 0) fG)))))))))
theorem pz:FnScope ["many","answers","asks","paper","pairs","i","j","alike","rest"] ["many","answers","asks","paper"] (fP<|top 52):=by lia
def sd(ir:Fr)(jL:Fr)(ip:Fr)(pV:Fr)(jC:Fr)(gN:D):SV:=
  (fH (sIf (bOr (vT<|v2 fLt (be 2)<|vC<|.int 0)<|iO<|gG<|vL ir<|fB (be 0)<|fB (be 1) fE)
   (fM<|vC<|.bl false)
   sNx)
  (fH (sIf (vT<|v2 fEq (be 2)<|vC<|.int 0)
   (fM<|l3 (v1 (k7 "tuple")<|be 3)<|l3 (v2 fEq (v1 gX<|be 3)<|vC<|.int 0)<|v2 fEq (vL jL<|fB (be 0)<|fB (be 1) fE)<|vC gN)
   sNx)
  (fH (fS (vL ip<|fB (be 0) fE)<|fD 4)
  (fH (sIf (iO<|gG<|vL pV<|fB (be 4)<|fB (be 3) fE)
   (fM<|vC<|.bl false)
   sNx)
  (fH (iz (ivZ (be 4)<|be 3) (gy 2<|fN (gy 2<|fN (fD 5)<|fN (fD 6) gF)<|fN (gy 2<|fN (fD 7)<|fN (fD 8) gF) gF)
   (sIf (iO<|gG<|vL jC<|fB (be 0)<|fB (v2 gK (be 1)<|vL gf<|fB (vL gn<|fB (be 5)<|fB (be 6)<|fB (be 7) fE) fE)<|fB (v2 j2 (be 2)<|vC<|.int 1)<|fB (be 8) fE)
    (fM<|vC<|.bl false)
    sNx))
  (fM<|vC<|.bl true))))))
def qr(ir:Fr)(jL:Fr)(ip:Fr)(pV:Fr)(jC:Fr)(gN:D):Fr:=gq 9 4 (sd ir jL ip pV jC gN)
theorem EM{ir jL ip pV jC:Fr}{mw qJ lZ BW rC k:Nat}{gN:D}{v_OPEN:V}{u_OPEN:Value}(F:Fun K "is_let_by" "is_let_by" (top 52) f fd) (ll:Df P w K mg base mw "can_be" ["many","answers"] (spM K ir)) (qo:mw<=k) (om:Df P w K mg base qJ "tells" ["many","answers"] (spM K jL)) (zc:qJ<=k) (lm:Df P w K mg base lZ "pairs_of" ["many"] (spM K ip)) (qM:lZ<=k) (yE:Df P w K mg base BW "is_paper_of" ["pairs","paper"] (spM K pV)) (Ny:BW<=k) (rA:Df P w K mg base rC "is_let_by" ["many","answers","asks","paper"] (spM K jC)) (uZ:rC<=k) (io:mg "OPEN"=some u_OPEN/\RelV v_OPEN u_OPEN/\∀W,DR K W gN v_OPEN) (iU:mg "isinstance"=none) (jM:mg "tuple"=none) (iH:mg "len"=none) (u4:mg "zip"=none):FnOk P w K mg base CX0 (k+1) f fd ["many","answers","asks","paper"] (spM K<|qr ir jL ip pV jC gN):=by
 unfold qr sd;exact gM F pz fun cdv A outer s H E hr=>
  (fL (gI (PW.pt<|ql (tU (fA 2) fJ)<|uH<|kK<|iX<|gg ll (hr.mono qo)<|fC (fA 0)<|fC (fA 1) fG)
   (fK<|fU ik)
   gC)
  (fL (gI (iP hr (fA 2) fJ)
   (fK<|fU<|oQ (uI "tuple" iU (fA 3)<|rg rfl jM rfl (v:=.ty "tuple") rfl)<|oQ (rV hr (mK iH<|fA 3) fJ)<|sU<|rV hr (gg om (hr.mono zc)<|fC (fA 0)<|fC (fA 1) fG)<|jS io.1 io.2.1 io.2.2)
   gC)
  (fL (gp (i:=4) pz.nd rfl (Or.inl rfl) (gg lm (hr.mono qM)<|fC (fA 0) fG))
  (fL (gI (kK<|iX<|gg yE (hr.mono Ny)<|fC (fA 4)<|fC (fA 3) fG)
   (fK<|fU ik)
   gC)
  (fL (i5 Tc rfl (GP u4 (fA 4)<|fA 3) (jh (n:=2)<|gw (jh (n:=2)<|gw (fT (i:=5) pz.nd rfl (Or.inl rfl))<|gw (fT (i:=6) pz.nd rfl (Or.inl rfl)) jx)<|gw (jh (n:=2)<|gw (fT (i:=7) pz.nd rfl (Or.inl rfl))<|gw (fT (i:=8) pz.nd rfl (Or.inl rfl)) jx) jx)
   (fK (gI (kK<|iX<|gg rA (hr.mono uZ)<|fC (fA 0)<|fC (js (fA 1)<|gL<|fC (g5<|fC (fA 5)<|fC (fA 6)<|fC (fA 7) fG) fG)<|fC (kA (fA 2) fJ)<|fC (fA 8) fG)
    (fK<|fU ik)
    gC)))
  (fK<|fU ik))))))
theorem N7:FnScope ["many","asks","paper"] ["many","asks","paper"] (fP<|top 53):=by lia
def uC(jC:Fr)(gx:FX)(jE:D)(jP:D):SX:=
  (gl (iV<|vLX gx<|upL<|fB (be 0)<|fB (vC jP)<|fB (vC jE) fE)
  (upS<|fM<|vL jC<|fB (be 0)<|fB (vL gf fE)<|fB (be 1)<|fB (be 2) fE))
def qF(jC:Fr)(gx:FX)(jE:D)(jP:D):FX:=hV 3 3 (uC jC gx jE jP)
theorem Sq{jC:Fr}{gx:FX}{rC ju k:Nat}{jE:D}{v_GREATEST_THINGS:V}{u_GREATEST_THINGS:Value}{jP:D}{v_LEAST_THINGS:V}{u_LEAST_THINGS:Value}(F:Fun K "holds" "holds" (top 53) f fd) (rA:Df P w K mg base rC "is_let_by" ["many","answers","asks","paper"] (spM K jC)) (uZ:rC<=k) (ja:DfX P w K mg base ju "check_many" ["many","least","greatest"] (spX K gx)) (lr:ju<=k) (kX:mg "GREATEST_THINGS"=some u_GREATEST_THINGS/\RelV v_GREATEST_THINGS u_GREATEST_THINGS/\∀W,DR K W jE v_GREATEST_THINGS) (kP:mg "LEAST_THINGS"=some u_LEAST_THINGS/\RelV v_LEAST_THINGS u_LEAST_THINGS/\∀W,DR K W jP v_LEAST_THINGS):FnOk P w K mg base (CXr P w) (k+1) f fd ["many","asks","paper"] (spX K<|qF jC gx jE jP):=by
 unfold qF uC;exact jB F N7 fun cdv A outer s H E hr=>
  (jf (jX<|ij ja (hr.mono lr)<|ic<|fC (fA 0)<|fC (jS kP.1 kP.2.1 kP.2.2)<|fC (jS kX.1 kX.2.1 kX.2.2) fG)
  (qb<|fK<|fU<|gg rA (hr.mono uZ)<|fC (fA 0)<|fC (gL fG)<|fC (fA 1)<|fC (fA 2) fG))
theorem yO:FnScope ["many","answers","asks","i","j","alike","rest"] ["many","answers","asks","i","j"] (fP<|top 54):=by lia
def yX(jG:Fr):SV:=
  (fH (iz (ivT<|vL gn<|fB (vC<|.bl true)<|fB (vC<|.bl false) fE) (fD 5)
   (fH (fS (vL jG<|fB (be 0)<|fB (v2 gK (be 1)<|vL gf<|fB (vL gn<|fB (be 3)<|fB (be 4)<|fB (be 5) fE) fE)<|fB (v2 j2 (be 2)<|vC<|.int 1) fE)<|fD 6)
   (sIf (vT<|v2 lj (be 6)<|vC .non)
    (fM<|vL gn<|fB (be 5)<|fB (be 6) fE)
    sNx)))
  (fM<|vC .non))
def rE(jG:Fr):Fr:=gq 7 5 (yX jG)
theorem Qi{jG:Fr}{qk k:Nat}(F:Fun K "row_behind" "row_behind" (top 54) f fd) (qX:Df P w K mg base qk "paper_behind" ["many","answers","asks"] (spM K jG)) (wT:qk<=k):FnOk P w K mg base CX0 (k+1) f fd ["many","answers","asks","i","j"] (spM K<|rE jG):=by
 unfold rE yX;exact gM F yO fun cdv A outer s H E hr=>
  (fL (i5 Tc rfl (qQ<|g5<|fC ik<|fC ik fG) (fT (i:=5) yO.nd rfl (Or.inl rfl))
   (fL (gp (i:=6) yO.nd rfl (Or.inl rfl) (gg qX (hr.mono wT)<|fC (fA 0)<|fC (js (fA 1)<|gL<|fC (g5<|fC (fA 3)<|fC (fA 4)<|fC (fA 5) fG) fG)<|fC (kA (fA 2) fJ) fG))
   (fK (gI (Ef (fA 6) iJ)
    (fK<|fU<|g5<|fC (fA 5)<|fC (fA 6) fG)
    gC))))
  (fK<|fU iJ))
theorem qH:FnScope ["many","answers","asks","paper","i","j","row"] ["many","answers","asks"] (fP<|top 55):=by lia
def sH(ir:Fr)(jL:Fr)(ip:Fr)(nV:Fr)(gN:D):SV:=
  (fH (sIf (iO<|gG<|vL ir<|fB (be 0)<|fB (be 1) fE)
   (fM<|vC .non)
   sNx)
  (fH (sIf (vT<|v2 fEq (be 2)<|vC<|.int 0)
   (fM<|vIf (vT<|v2 fEq (vL jL<|fB (be 0)<|fB (be 1) fE)<|vC gN) (vL gn fE)<|vC .non)
   sNx)
  (fH (fS (vL jW fE)<|fD 3)
  (fH (iz (ivL<|vL ip<|fB (be 0) fE) (gy 2<|fN (fD 4)<|fN (fD 5) gF)
   (fH (fS (vL nV<|fB (be 0)<|fB (be 1)<|fB (be 2)<|fB (be 4)<|fB (be 5) fE)<|fD 6)
   (fH (sIf (vT<|v2 jz (be 6)<|vC .non)
    (fM<|vC .non)
    sNx)
   (kg<|jw jU (be 3)<|be 6))))
  (fM<|tO<|be 3)))))
def qB(ir:Fr)(jL:Fr)(ip:Fr)(nV:Fr)(gN:D):Fr:=gq 7 3 (sH ir jL ip nV gN)
theorem IP{ir jL ip nV:Fr}{mw qJ lZ DK k:Nat}{gN:D}{v_OPEN:V}{u_OPEN:Value}(F:Fun K "paper_behind" "paper_behind" (top 55) f fd) (ll:Df P w K mg base mw "can_be" ["many","answers"] (spM K ir)) (qo:mw<=k) (om:Df P w K mg base qJ "tells" ["many","answers"] (spM K jL)) (zc:qJ<=k) (lm:Df P w K mg base lZ "pairs_of" ["many"] (spM K ip)) (qM:lZ<=k) (wn:Df P w K mg base DK "row_behind" ["many","answers","asks","i","j"] (spM K nV)) (Mq:DK<=k) (io:mg "OPEN"=some u_OPEN/\RelV v_OPEN u_OPEN/\∀W,DR K W gN v_OPEN):FnOk P w K mg base CX0 (k+1) f fd ["many","answers","asks"] (spM K<|qB ir jL ip nV gN):=by
 unfold qB sH;exact gM F qH fun cdv A outer s H E hr=>
  (fL (gI (kK<|iX<|gg ll (hr.mono qo)<|fC (fA 0)<|fC (fA 1) fG)
   (fK<|fU iJ)
   gC)
  (fL (gI (iP hr (fA 2) fJ)
   (fK<|fU<|rm (iP hr (gg om (hr.mono zc)<|fC (fA 0)<|fC (fA 1) fG)<|jS io.1 io.2.1 io.2.2) (g5 fG) iJ)
   gC)
  (fL (gp (i:=3) qH.nd rfl (Or.inl rfl) (wy fG))
  (fL (i5 Tc rfl (ie<|gg lm (hr.mono qM)<|fC (fA 0) fG) (jh (n:=2)<|gw (fT (i:=4) qH.nd rfl (Or.inl rfl))<|gw (fT (i:=5) qH.nd rfl (Or.inl rfl)) jx)
   (fL (gp (i:=6) qH.nd rfl (Or.inl rfl) (gg wn (hr.mono Mq)<|fC (fA 0)<|fC (fA 1)<|fC (fA 2)<|fC (fA 4)<|fC (fA 5) fG))
   (fL (gI (rl (fA 6) iJ)
    (fK<|fU iJ)
    gC)
   (fK<|uQ<|Bg (fA 3)<|fA 6))))
  (fK<|fU<|FY<|fA 3)))))
theorem vn:FnScope ["many","asks","tree"] ["many"] (fP<|top 56):=by lia
def tN(jG:Fr)(gx:FX)(jK:FX)(jE:D)(jP:D):SX:=
  (gl (iV<|vLX gx<|upL<|fB (be 0)<|fB (vC jP)<|fB (vC jE) fE)
  (gl (oN (vLX jK<|upL<|fB (be 0) fE)<|gy 2<|fN (fD 1)<|fN (fD 2) gF)
  (upS<|fM<|vL jG<|fB (be 0)<|fB (vL gf fE)<|fB (v2 j2 (be 1)<|vC<|.int 1) fE)))
def pX(jG:Fr)(gx:FX)(jK:FX)(jE:D)(jP:D):FX:=hV 3 1 (tN jG gx jK jE jP)
theorem JW{jG:Fr}{gx jK:FX}{qk ju qi k:Nat}{jE:D}{v_GREATEST_THINGS:V}{u_GREATEST_THINGS:Value}{jP:D}{v_LEAST_THINGS:V}{u_LEAST_THINGS:Value}(F:Fun K "holding_paper" "holding_paper" (top 56) f fd) (qX:Df P w K mg base qk "paper_behind" ["many","answers","asks"] (spM K jG)) (wT:qk<=k) (ja:DfX P w K mg base ju "check_many" ["many","least","greatest"] (spX K gx)) (lr:ju<=k) (oB:DfX P w K mg base qi "fewest" ["many"] (spX K jK)) (yr:qi<=k) (kX:mg "GREATEST_THINGS"=some u_GREATEST_THINGS/\RelV v_GREATEST_THINGS u_GREATEST_THINGS/\∀W,DR K W jE v_GREATEST_THINGS) (kP:mg "LEAST_THINGS"=some u_LEAST_THINGS/\RelV v_LEAST_THINGS u_LEAST_THINGS/\∀W,DR K W jP v_LEAST_THINGS):FnOk P w K mg base (CXr P w) (k+1) f fd ["many"] (spX K<|pX jG gx jK jE jP):=by
 unfold pX tN;exact jB F vn fun cdv A outer s H E hr=>
  (jf (jX<|ij ja (hr.mono lr)<|ic<|fC (fA 0)<|fC (jS kP.1 kP.2.1 kP.2.2)<|fC (jS kX.1 kX.2.1 kX.2.2) fG)
  (jf (PL (ij oB (hr.mono yr)<|ic<|fC (fA 0) fG)<|BT<|jh (n:=2)<|gw (fT (i:=1) vn.nd rfl (Or.inl rfl))<|gw (fT (i:=2) vn.nd rfl (Or.inl rfl)) jx)
  (qb<|fK<|fU<|gg qX (hr.mono wT)<|fC (fA 0)<|fC (gL fG)<|fC (kA (fA 1) fJ) fG)))
end
def dA(a:An):D:=.tup [.int (a.1:Int),.int (a.2.1:Int),.bl a.2.2]
def Ls(O:M)(d:D)(ds:ŗ):Prop:=gu O d=some ds/\∃c,lsC O d=some (ds,c)/\gc c O/\∀Z5,Gr O Z5->gc c Z5
def Ls.lst:Ls O (.lst ds) ds:=⟨rfl,none,rfl,trivial,fun _ _=>trivial⟩
def Ls.ref(h:O[k]?=some (some<|.lst ds)):Ls O (.ref k) ds:=⟨n0 h,_,xG h,h,fun _ g=>g.get h⟩
def xD(h:Ls O d ds):(∃k,d=.ref k/\O[k]?=some (some<|.lst ds))\/(d=.lst ds)\/d=.scr ds:=by
 obtain⟨h1,_⟩:=h;cases d with
 |lst xs=>cases h1;exact .inr (.inl rfl)
 |scr xs=>cases h1;exact .inr (.inr rfl)
 |ref k=>
  simp only[gu] at h1;split at h1
  .rename_i xs hk;cases h1;exact .inl ⟨k,rfl,hk⟩
  .cases h1
 |_=>cases h1
def Ls.gr(h:Ls O d ds)(g:Gr O Z5):Ls Z5 d ds:=by
 rcases xD h with⟨k,rfl,hk⟩|rfl|rfl
 .exact .ref (g.get hk)
 .exact .lst
 .exact⟨rfl,none,rfl,trivial,fun _ _=>trivial⟩
theorem forX_inv(Pv:G->M->Prop):∀(its:ŗ) (B:G) (O:M),Pv B O->
  (∀d∈its,∀B O,Pv B O->∃ZY Z4 ZV Z3,g d B O=some (ZY,Z4)/\body ZY Z4=some (.nx,ZV,Z3)/\gc c Z3/\Pv ZV Z3)->∃ZX Z5,li c g body its B O=some (.nx,ZX,Z5)/\Pv ZX Z5
 | [],B,O,h,_=>⟨B,O,rfl,h⟩
 |d::r,B,O,h,hs=>by
  obtain⟨ZY,Z4,ZV,Z3,h1,h2,h3,h4⟩:=hs d nofun B O h;obtain⟨ZX,Z5,h5,h6⟩:=forX_inv Pv r ZV Z3 h4 fun d hd=>hs d (by simp[hd]);refine⟨ZX,Z5,?_,h6⟩;simp only[li,h1,bs,h2];rw[jy h3,h5]
def Ok2(n:Nat)(as:ť):Prop:=∀a∈as,a.1<n/\a.2.1<n/\a.1≠a.2.1
def Ok2.inN(h:Ok2 n as):InN n as:=fun a ha=>⟨(h a ha).1,(h a ha).2.1⟩
def Gx(hl:Ls O d (as.map dA))(hv:Ok2 n as):t6 C [.int (n:Int),d] O=some (.ok .non,O):=by
 obtain⟨h1,c,h2,h3,h4⟩:=hl;have main:=forX_inv (c:=c) (g:=(gy 3<|fN (fD 2)<|fN (fD 3)<|fN (fD 4) gF)) (body:=(gl (iD (upB<|iO<|k9 (vT<|jA fLe fLt (vC<|.int 0) (be 2)<|be 0)<|vT<|jA fLe fLt (vC<|.int 0) (be 3)<|be 0)
    (j5 C<|(be 2)::((be 3)::((be 0)::[])))
    (upS sNx))
   (iD (upB<|vT<|v2 fEq (be 2)<|be 3)
    (j5 C<|(be 2)::[])
    (upS sNx))))
  (fun B Z5=>Z5=O/\∃o2 o3 o4,B=[some (.int (n:Int)),some d,o2,o3,o4]) (as.map dA) [some (.int (n:Int)),some d,none,none,none] O ⟨rfl,_,_,_,rfl⟩ ?_
 .obtain⟨ZX,Z5,e,rfl,o2,o3,o4,rfl⟩:=main;refine Bl (ZY:=[some (.int (n:Int)),some d,o2,o3,o4]) rfl ?_;unfold u5;show gl _ _ [some (.int (n:Int)),some d,none,none,none] Z5=_;have t:vT (v2 fLt (be 0)<|vC<|.int 0) [some (.int (n:Int)),some d,none,none,none] Z5=some (false,Z5):=by
   have:¬((n:Int)<0):=by omega
   simp[fLt,fI0,this]
  rw[rQ (ZY:=[some (.int (n:Int)),some d,none,none,none]) (Z4:=Z5) ((rD<|uf t).trans (nk (o:=.nx) rfl))];have hi:ivL (be 1) [some (.int (n:Int)),some d,none,none,none] Z5=some ((as.map dA,c),Z5):=by
   simp[h2]
  show(ivL (be 1) _ Z5).bind _=_;rw[hi,bs];exact e
 .rintro x hx B Z5 ⟨rfl,o2,o3,o4,rfl⟩;obtain⟨a,ha,rfl⟩:=Te.mp hx;obtain⟨q1,q2,q3⟩:=hv a ha;refine⟨[some (.int (n:Int)),some d,some (.int (a.1:Int)),some (.int (a.2.1:Int)),some (.bl a.2.2)],Z5,[some (.int (n:Int)),some d,some (.int (a.1:Int)),some (.int (a.2.1:Int)),some (.bl a.2.2)],Z5,rfl,?_,h3,rfl,some (.int (a.1:Int)),some (.int (a.2.1:Int)),some (.bl a.2.2),rfl⟩;have t1:(iO<|k9 (vT<|jA fLe fLt (vC<|.int 0) (be 2)<|be 0)<|vT<|jA fLe fLt (vC<|.int 0) (be 3)<|be 0) [some (.int (n:Int)),some d,some (.int (a.1:Int)),some (.int (a.2.1:Int)),some (.bl a.2.2)] Z5=some (false,Z5):=by
   have b1:(0:Int)<=(a.1:Int):=by omega
   have b2:(0:Int)<=(a.2.1:Int):=by omega
   have b3:(a.1:Int)<(n:Int):=by omega
   have b4:(a.2.1:Int)<(n:Int):=by omega
   simp[fLe,fLt,fI0,b1,b2,b3,b4]
  have t2:vT (v2 fEq (be 2)<|be 3) [some (.int (n:Int)),some d,some (.int (a.1:Int)),some (.int (a.2.1:Int)),some (.bl a.2.2)] Z5=some (false,Z5):=by
   have:¬((a.1:Int)=(a.2.1:Int)):=by omega
   simp[fEq,eqD,this]
  rw[rQ (ZY:=[some (.int (n:Int)),some d,some (.int (a.1:Int)),some (.int (a.2.1:Int)),some (.bl a.2.2)]) (Z4:=Z5) ((rD<|uf t1).trans (nk (o:=.nx) rfl))];exact(rD<|uf t2).trans (nk (o:=.nx) rfl)
def kvH(hs:ŕ):List (Key×D):=hs.map fun p=>(Sum.inl (p.1:Int),D.int (p.2:Int))
def xW(hs:ŕ)(x:Nat):iK (kvH hs) (Sum.inl (x:Int))=(fY hs x).map fun r=>D.int (r:Int):=by
 unfold iK fY kvH;induction hs with
 |nil=>rfl
 |cons p r ih=>
  rw[SN,S0,S0];by_cases z:p.1=x
  .subst z;simp
  .have z':¬((Sum.inl (p.1:Int):Key)=Sum.inl (x:Int)):=fun e=>z (by injection e with e;omega);simp only[z,z',U4];exact ih
def D7(v:D)(h:iK kvs k=none):iY kvs k v=kvs++[(k,v)]:=by
 unfold iY;rw[if_neg];intro hc;obtain⟨kv,hm,he⟩:=Uh.mp hc;unfold iK at h;rw[U5,T4] at h;exact h kv hm he
def Ae{hs:ŕ}{k:Nat}(v:Nat)(h:k∉hs.map (·.1)):iY (kvH hs) (Sum.inl (k:Int)) (.int (v:Int))=kvH (hs++[(k,v)]):=by
 rw[D7 _ (by rw[xW,hVal_none.mpr h];rfl)];simp[kvH]
theorem At{o w:Nat}{n:Nat}:∀(hs done:ŕ) (o1 o2:ţ) (O:M),O[n]?=some (some<|.dK<|kvH<|hJ done o w)->((done++hs).map (·.1)).Nodup->(done++hs).length<=100000->
  kF n none (gy 2<|fN (fD 0)<|fN (fD 1) gF) fQ (be 0) (vIf (vT<|v2 fEq (be 1)<|be 2) (be 3)<|be 1) ((kvH hs).map fun kv=>.tup [rh kv.1,kv.2]) [o1,o2,some (.int (o:Int)),some (.int (w:Int))] O
   =some (O.set n<|some<|.dK<|kvH<|hJ (done++hs) o w)
 | [],done,o1,o2,O,h,_,_=>by
  simp only[kvH,U0,kF,TM];congr 1;apply List.ext_getElem?;intro j;by_cases e:j=n
  .subst e;rw[h,i8 h];rfl
  .rw[jo e]
 |p::hs,done,o1,o2,O,h,hn,hl=>by
  have hp:p.1∉(hJ done o w).map (·.1):=by
   rw[Dl];rw[Us,UE] at hn;exact fun hm=>hn.2.2 p.1 hm p.1 nofun rfl
  have e1:hJ done o w++[(p.1,if p.2=o then w else p.2)]=hJ (done++[p]) o w:=by simp[hJ]
  have hset:=i8 (y:=some (Z9.dK<|kvH<|hJ (done++[p]) o w)) h;have ih:=At (n:=n) (o:=o) (w:=w) hs (done++[p]) (some<|.int (p.1:Int)) (some<|.int (p.2:Int)) (O.set n<|some<|.dK<|kvH<|hJ (done++[p]) o w) hset (by simpa using hn) (by simpa using hl);have hg:gy 2 (fN (fD 0)<|fN (fD 1) gF) (.tup [.int (p.1:Int),.int (p.2:Int)]) [o1,o2,some (.int (o:Int)),some (.int (w:Int))] O=some ([some (.int (p.1:Int)),some (.int (p.2:Int)),some (.int (o:Int)),some (.int (w:Int))],O):=rfl;have hv:vIf (vT<|v2 fEq (be 1)<|be 2) (be 3) (be 1) [some (.int (p.1:Int)),some (.int (p.2:Int)),some (.int (o:Int)),some (.int (w:Int))] O=some (.int ((if p.2=o then w else p.2:Nat):Int),O):=by
   by_cases z:p.2=o
   .subst z;simp[fEq,eqD]
   .have z':¬((p.2:Int)=(o:Int)):=by omega
    simp[fEq,eqD,z,z']
  have hk:be 0 [some (.int (p.1:Int)),some (.int (p.2:Int)),some (.int (o:Int)),some (.int (w:Int))] O=some (.int (p.1:Int),O):=rfl;show kF n none _ fQ (be 0) _ (.tup [.int (p.1:Int),.int (p.2:Int)]::(kvH hs).map fun kv=>.tup [rh kv.1,kv.2]) _ O=_;simp only[kF,hg,bs];show(fQ _ _).bind _=_;simp only[fQ,bs,if_true,hk,hv,kU,ig,h];rw[jy ⟨by simp[kvH,hJ];simp at hl;omega,trivial⟩,Ae _ hp,e1];rw[ih];congr 1;rw[List.set_set,UC];rfl
theorem QB{h o w:Nat}{hs:ŕ}{O:M}(hh:O[h]?=some (some<|.dK<|kvH hs))(hn:hNd hs)(hl:hs.length<=100000):
  lG [.ref h,.int (o:Int),.int (w:Int)] O=some (.ref O.length,O.set h none++[some (.dK<|kvH<|hJ hs o w)]):=by
 have hlen:(O.set h none).length=O.length:=Uq ..;have h0:(O.set h none++[some (Z9.dK [])])[O.length]?=some (some<|.dK<|kvH<|hJ [] o w):=by
  rw[Th ⋯,hlen];simp[kvH,hJ]
 have e:=At (o:=o) (w:=w) (n:=O.length) hs [] none none (O.set h none++[some (.dK [])]) h0 (by simpa[hNd] using hn) (by simpa using hl);have hv:tI ["thing","home"] [("old",1),("new",2)] (be 0) (gy 2<|fN (fD 0)<|fN (fD 1) gF) fQ (be 0) (vIf (vT<|v2 fEq (be 1)<|be 2) (be 3)<|be 1) [some (.ref h),some (.int (o:Int)),some (.int (w:Int))] O=some (.ref O.length,O.set h none++[some (.dK<|kvH<|hJ hs o w)]):=by
  unfold tI;have hv0:be 0 [some (.ref h),some (.int (o:Int)),some (.int (w:Int))] O=some (.ref h,O):=rfl;rw[hv0,bs];show(ig O<|.ref h).bind _=_;simp only[ig,hh,bs];rw[jy (by simp[kvH];omega)];have hc:gA (["thing","home"]:Ŗ) [("old",1),("new",2)] [some (.ref h),some (.int (o:Int)),some (.int (w:Int))]=[none,none,some (.int (o:Int)),some (.int (w:Int))]:=rfl;rw[hc,e,bs];congr 2;have:(O.set h none++[some (Z9.dK [])]).set O.length (some<|.dK<|kvH<|hJ ([]++hs) o w)=O.set h none++[some (.dK<|kvH<|hJ hs o w)]:=by
   rw[List.set_append_right _ _ ⋯,hlen];simp
  exact this
 unfold lG wD;rw[kq,if_pos (show [D.ref h,D.int (o:Int),D.int (w:Int)].length=3 from rfl)];show je (fM _ [some (.ref h),some (.int (o:Int)),some (.int (w:Int))] O)=_;rw[pS,hv];rfl
structure On (s:Nat) (O Z5:M):Prop where
 len:Z5.length=O.length
 at_:∀j,j≠s->Z5[j]?=O[j]?
def On.refl:On s O O:=⟨rfl,fun _ _=>rfl⟩
def Ej:On s O (O.set s o):=⟨by simp,fun j n=>jo n⟩
def On.trans(h:On s O Z4)(g:On s Z4 Z3):On s O Z3:=⟨g.len.trans h.len,fun j n=>(g.at_ j n).trans (h.at_ j n)⟩
def On.gr(g:Gr O Z4)(h:On s Z4 Z3)(hs:O.length<=s):Gr O Z3:=⟨by rw[h.len];exact g.len,fun j hj=>by rw[h.at_ j ⋯];exact g.at_ j hj⟩
theorem AY{h x:Nat}{hs:ŕ}{O:M}{B:G}{ek:EV}(h0:B[1]?=some (some<|.ref h))(hk:ek B O=some (.int (x:Int),O))(hh:O[h]?=some (some<|.dK<|kvH hs))(hl:hs.length<100000):
  ∃d Z5,jT (be 1) ek ek B O=some (d,Z5)/\Z5[h]?=some (some<|.dK<|kvH<|gb hs x)/\On h O Z5:=by
 have hv:be 1 B O=some (.ref h,O):=DL h0;have hd:ig O (.ref h)=some (kvH hs):=by simp only[ig,hh]
 have hlen:(kvH hs).length<1000000:=by simp[kvH];omega
 unfold jT;rw[hv,bs];simp only[hd,bs,hk,kU,if_pos hlen,xW];cases hx:fY hs x with
 |some r=>
  refine⟨.int (r:Int),O,rfl,?_,.refl⟩;unfold gb;rw[hx];exact hh
 |none=>
  refine⟨.int (x:Int),O.set h (some<|.dK<|iY (kvH hs) (Sum.inl (x:Int))<|.int (x:Int)),rfl,?_,Ej⟩;rw[i8 hh,Ae _ (hVal_none.mp hx)];unfold gb;rw[hx];rfl
def sN(hh:O[h]?=some (some<|.dK<|kvH hs))(hx:fY hs x=some r):i9 (.ref h) (.int (x:Int)) O=some (.int (r:Int),O):=by
 unfold i9;simp only[ig,hh,bs,kU,xW,hx];rfl
abbrev tZ:SV:=(fH (kg<|jT (be 1) (be 2)<|be 2)
   (fH (kg<|jT (be 1) (be 3)<|be 3)
   (sIf (gG<|be 4)
    (fS (vL lG<|fB (be 1)<|fB (v2 i9 (be 1)<|be 3)<|fB (v2 i9 (be 1)<|be 2) fE)<|fD 1)
    sNx)))
theorem Fj(hh:O[h]?=some (some<|.dK<|kvH hs))(hn:hNd hs)(hl:hs.length<10000):
  ∃h' Z5,tZ [some d,some (.ref h),some (.int (a.1:Int)),some (.int (a.2.1:Int)),some (.bl a.2.2)] O=some (.nx,[some d,some (.ref h'),some (.int (a.1:Int)),some (.int (a.2.1:Int)),some (.bl a.2.2)],Z5)/\Z5[h']?=some (some<|.dK<|kvH<|jD hs a)/\(∀Zn,Gr Zn O->Zn.length<=h->Gr Zn Z5/\Zn.length<=h'):=by
 obtain⟨d1,Z4,e1,h1,o1⟩:=AY (x:=a.1) (B:=[some d,some (.ref h),some (.int (a.1:Int)),some (.int (a.2.1:Int)),some (.bl a.2.2)]) (ek:=be 2) rfl rfl hh ⋯;have l1:=tS hs a.1;obtain⟨d2,Z3,e2,h2,o2⟩:=AY (x:=a.2.1) (B:=[some d,some (.ref h),some (.int (a.1:Int)),some (.int (a.2.1:Int)),some (.bl a.2.2)]) (ek:=be 3) (O:=Z4) rfl rfl h1 ⋯;have l2:=tS (gb hs a.1) a.2.1;have s12:tZ [some d,some (.ref h),some (.int (a.1:Int)),some (.int (a.2.1:Int)),some (.bl a.2.2)] O=sIf (gG<|be 4) (fS (vL lG<|fB (be 1)<|fB (v2 i9 (be 1)<|be 3)<|fB (v2 i9 (be 1)<|be 2) fE)<|fD 1) sNx [some d,some (.ref h),some (.int (a.1:Int)),some (.int (a.2.1:Int)),some (.bl a.2.2)] Z3:=by
  unfold tZ;rw[jc,uG,e1];show mM _ (some (.nx,_,Z4))=_;rw[lV,jc,uG,e2];rfl
 rw[s12];have hb:gG (be 4) [some d,some (.ref h),some (.int (a.1:Int)),some (.int (a.2.1:Int)),some (.bl a.2.2)] Z3=some (a.2.2,Z3):=by simp
 cases hc:a.2.2 with
 |false=>
  rw[hc] at hb;refine⟨h,Z3,by rw[lN,hb];rfl,?_,fun Zn g0 hle=>⟨On.gr g0 (o1.trans o2) hle,hle⟩⟩;rw[h2];unfold jD;simp[hc]
 |true=>
  rw[hc] at hb;have vi:∃r,fY (gb (gb hs a.1) a.2.1) a.1=some r:=by
   rw[mJ];split
   .exact⟨_,rfl⟩
   .rw[mJ,if_pos rfl];exact⟨_,rfl⟩
  have vj:∃r,fY (gb (gb hs a.1) a.2.1) a.2.1=some r:=by rw[mJ,if_pos rfl];exact⟨_,rfl⟩
  obtain⟨ri,hi⟩:=vi;obtain⟨rj,hj⟩:=vj;have nd2:=tM (tM hn a.1) a.2.1;have em:=QB (o:=rj) (w:=ri) h2 nd2 ⋯;refine⟨Z3.length,Z3.set h none++[some (.dK<|kvH<|hJ (gb (gb hs a.1) a.2.1) rj ri)],?_,?_,fun Zn g0 hle=>?_⟩
  .rw[lN,hb];show fS _ _ _ _=_;have gj:=sN h2 hj;have gi:=sN h2 hi;simp[gj,gi,em]
  .have:(Z3.set h none).length=Z3.length:=Uq ..;rw[Th ⋯,this];simp[jD,hc,hi,hj]
  .have g2:=On.gr g0 (o1.trans o2) hle;refine⟨⟨by simp;have:=g2.len;omega,fun j hj'=>?_⟩,g2.len⟩;have hlt:j<Z3.length:=by have:=g2.len;omega
   rw[S1 (by simpa using hlt),jo ⋯];exact g2.at_ j hj'
def R9(hl:Ls O d (as.map dA))(hs:as.length<=1000):∃h Z5,nD lG [d] O=some (.ref h,Z5)/\Z5[h]?=some (some<|.dK<|kvH<|g6 as)/\Gr O Z5:=by
 obtain⟨h1,c,h2,h3,h4⟩:=hl;have main:=rY (c:=c) (g:=(gy 3<|fN (fD 2)<|fN (fD 3)<|fN (fD 4) gF)) (body:=tZ)
  (fun i B Z5=>∃h o2 o3 o4,B=[some d,some (.ref h),o2,o3,o4]/\Z5[h]?=some (some<|.dK<|kvH<|g6<|as.take i)/\Gr O Z5/\O.length<=h)
  (as.map dA) 0 [some d,some (.ref O.length),none,none,none] (O++[some (.dK [])]) ⟨O.length,_,_,_,rfl,by simp[kvH,g6],gr_app,SF _⟩ ?_
 .obtain⟨ZX,Z5,e,h,o2,o3,o4,rfl,hh,g,_⟩:=main;rw[Ut,SW,Vz] at hh;refine⟨h,Z5,?_,hh,g⟩;unfold nD wF;rw[kq,if_pos (show [d].length=1 from rfl)];show je (fH _ _ [some d,none,none,none,none] O)=_;have s1:fS rK (fD 1) [some d,none,none,none,none] O=some (.nx,[some d,some (.ref O.length),none,none,none],O++[some (.dK [])]):=rfl;have hi:ivL (be 0) [some d,some (.ref O.length),none,none,none] (O++[some (.dK [])])=some ((as.map dA,c),O++[some (.dK [])]):=by
   have hL:Ls (O++[some (.dK [])]) d (as.map dA):=Ls.gr ⟨h1,c,h2,h3,h4⟩ gr_app;have:lsC (O++[some (.dK [])]) d=some (as.map dA,c):=by
    cases d with
    |ref k=>
     rcases xD (O:=O) (d:=.ref k) ⟨h1,c,h2,h3,h4⟩ with⟨k',e,hk⟩|e|e
     .cases e;rw[xG hk] at h2;rw[xG ((gr_app (ex:=[some (.dK [])])).get hk)];exact h2
     .cases e
     .cases e
    |_=>exact h2
   simp[this]
  rw[jc,s1,lV,jc,mR,hi,mW,e];rfl
 .rintro j x B Z4 hx ⟨h,o2,o3,o4,rfl,hh,g,hle⟩;rw[Ut] at hh;rw[S6] at hx;cases ha:as[j]? with
  |none=>rw[ha] at hx;cases hx
  |some a=>
   rw[ha] at hx;cases hx;have hlen:(g6<|as.take j).length<10000:=by
    have:=RT (as.take j);have:=List.length_take_le j as;rw[UM] at*;omega
   obtain⟨h',Z3,e,hh2,hg⟩:=Fj (d:=d) (a:=a) hh (He _) hlen;obtain⟨g2,hle2⟩:=hg O g hle;refine⟨[some d,some (.ref h),some (.int (a.1:Int)),some (.int (a.2.1:Int)),some (.bl a.2.2)],Z4,_,Z3,rfl,e,h4 _ g2,h',some (.int (a.1:Int)),some (.int (a.2.1:Int)),some (.bl a.2.2),rfl,?_,g2,hle2⟩;rw[hh2,Ut,Hn as j a ha]
theorem tP{c:Ck}{g:GV}{tc:BV}{te:EV}{J:Type}{dn:J->D}{keep:J->Bool}{val:J->D}(Pv:G->Prop){O:M}(hc:gc c O):∀(l:List J) (B:G),Pv B->
  (∀x∈l,∀B,Pv B->∃ZY,g (dn x) B O=some (ZY,O)/\tc ZY O=some (keep x,O)/\(keep x=true->te ZY O=some (val x,O))/\Pv ZY)->
  gE c g tc te (l.map dn) B O=some ((l.filter keep).map val,O)
 | [],_,_,_=>rfl
 |x::r,B,h,hs=>by
  obtain⟨ZY,h1,h2,h3,h4⟩:=hs x nofun B h;have ih:=tP Pv hc r ZY h4 fun x hx=>hs x (by simp[hx]);simp only[SN,gE,h1,bs,h2];cases hk:keep x with
  |true=>simp only[if_true,h3 hk,bs,jy hc,ih,List.filter_cons_of_pos hk,SN]
  |false=>simp only[S8,if_false,jy hc,ih,Ux,hk]
def zS{J:Type}(l:List J):l.filter (fun _=>true)=l:=Ud.mpr nofun
section
variable {J:Type} {own:Str} {cap:œ} {fV:G} {iv:IV} {tc:BV} {te:EV} {B:G} {O:M} {c:Ck} {l:List J} {dn:J->D}
theorem LM(hi:iv B O=some ((l.map dn,c),O))(hl:l.length<=1000000)(hc:gc c O)(he:gA [own] cap B=none::fV)
  (ht:∀x∈l,tc (some (dn x)::fV) O=some (keep x,O)) (hv:∀x∈l,keep x=true->te (some (dn x)::fV) O=some (val x,O)):gQ [own] cap iv (fD 0) tc te B O=some (.lst ((l.filter keep).map val),O):=by
 rw[yQ,hi,yj,if_pos (by simpa using hl),he];rw[tP (g:=fD 0) (tc:=tc) (te:=te) (keep:=keep) (val:=val) (fun B=>∃o,B=o::fV) hc l (none::fV) ⟨none,rfl⟩ (by
  rintro x hx B ⟨o,rfl⟩;exact⟨some (dn x)::fV,rfl,ht x hx,hv x hx,_,rfl⟩)]
 rfl
theorem y3(hi:iv B O=some ((l.map dn,c),O))(hl:l.length<=1000000)(hc:gc c O)(he:gA [own] cap B=none::fV)
  (hv:∀x∈l,te (some (dn x)::fV) O=some (val x,O)):gQ [own] cap iv (fD 0) fQ te B O=some (.lst (l.map val),O):=by
 rw[LM (keep:=fun _=>true) (val:=val) hi hl hc he (fun _ _=>rfl) (fun x hx _=>hv x hx),zS]
end
def Ls.iv{O:M}{d:D}{ds:ŗ}{B:G}{i:Nat}(h:Ls O d ds)(Y8:B[i]?=some (some d)):∃c,ivL (be i) B O=some ((ds,c),O)/\gc c O/\∀Z5,Gr O Z5->gc c Z5:=by
 obtain⟨h1,c,h2,h3,h4⟩:=h;exact⟨c,by unfold ivL;rw[DL Y8,bs];show(lsC O d).bind _=_;rw[h2,bs],h3,h4⟩
section
variable {C CF:Addr} {n:Nat} {d:D} {as:ť} {O:M}
abbrev m5(C:Addr):FX:=uT (nD lG) (t6 C)
abbrev zi(C CF:Addr):FX:=xh (m5 C) CF
theorem BN(hl:Ls O d (as.map dA))(hv:Ok2 n as)(hs:as.length<=1000):∃Z5,m5 C [.int (n:Int),d] O=some (.ok (.bl<|g7 as),Z5)/\Gr O Z5:=by
 obtain⟨h,Z4,e1,hh,g⟩:=R9 hl hs;refine⟨Z4,?_,g⟩;have hc1:=Gx (C:=C) hl hv;obtain⟨c,hi,hck,_⟩:=(hl.gr g).iv (B:=[some (.int (n:Int)),some d,some (.ref h)]) (i:=1) rfl;have hcmp:gQ ["i","j","alike"] [("homes",2)] (ivL<|be 1) (gy 3<|fN (fD 0)<|fN (fD 1)<|fN (fD 2) gF) fQ (vOr (be 2)<|v2 fNe (v2 i9 (be 3)<|be 0)<|v2 i9 (be 3)<|be 1) [some (.int (n:Int)),some d,some (.ref h)] Z4=some (.lst ((as.map fun a=>a.2.2||!decide (fY (g6 as) a.1=fY (g6 as) a.2.1)).map D.bl),Z4):=by
  rw[yQ,hi,yj,if_pos (by simp;omega)];have ec:gA (["i","j","alike"]:Ŗ) [("homes",2)] [some (.int (n:Int)),some d,some (.ref h)]=[none,none,none,some (.ref h)]:=rfl;rw[ec,tP (dn:=dA) (keep:=fun _=>true) (val:=fun a=>D.bl (a.2.2||!decide (fY (g6 as) a.1=fY (g6 as) a.2.1))) (fun B=>∃o1 o2 o3,B=[o1,o2,o3,some (.ref h)]) hck as _ ⟨_,_,_,rfl⟩ ?_,zS]
  .simp
  .rintro a ha B ⟨o1,o2,o3,rfl⟩;obtain⟨n1,n2⟩:=(yd as).named a ha;obtain⟨r1,q1⟩:=TC.mp n1;obtain⟨r2,q2⟩:=TC.mp n2;have g1:=sN hh q1;have g2:=sN hh q2;refine⟨[some (.int (a.1:Int)),some (.int (a.2.1:Int)),some (.bl a.2.2),some (.ref h)],rfl,rfl,fun _=>?_,_,_,_,rfl⟩;have ht:v2 fNe (v2 i9 (be 3)<|be 0) (v2 i9 (be 3)<|be 1) [some (.int (a.1:Int)),some (.int (a.2.1:Int)),some (.bl a.2.2),some (.ref h)] Z4=some (.bl (!decide (fY (g6 as) a.1=fY (g6 as) a.2.1)),Z4):=by
    rw[e_2 (x:=.int (r1:Int)) (Z4:=Z4) (y:=.int (r2:Int)) (Z3:=Z4) (by rw[e_2 (x:=.ref h) (Z4:=Z4) (y:=.int (a.1:Int)) (Z3:=Z4) rfl rfl];exact g1) (by rw[e_2 (x:=.ref h) (Z4:=Z4) (y:=.int (a.2.1:Int)) (Z3:=Z4) rfl rfl];exact g2),q1,q2];simp[fNe,eqD];omega
   cases hb:a.2.2 with
   |true=>rfl
   |false=>
    rw[hb] at ht;rw[Kl];show uw _ _ (some (.bl false,Z4))=_;exact ht
 refine sg (ZY:=[some (.int (n:Int)),some d,some (.ref h)]) rfl ?_;unfold x9;show gl _ _ [some (.int (n:Int)),some d,none] O=_;rw[rQ (ZY:=[some (.int (n:Int)),some d,none]) (Z4:=O) (zB (d:=.non) (by rw[ph (ds:=[.int (n:Int),d]) (Z4:=O) (qD rfl)];exact hc1))];refine nk (o:=.rt _) ?_;have s1:fS (vL (nD lG)<|fB (be 1) fE) (fD 2) [some (.int (n:Int)),some d,none] O=some (.nx,[some (.int (n:Int)),some d,some (.ref h)],Z4):=by
  simp[e1]
 rw[jc,s1,lV,pS,e_1 hcmp];simp only[jp,gu,bs,Ar];show some (Out.rt (.bl _),_,_)=_;congr 4;unfold g7;simp[VD]
theorem RF(hl:Ls O d (as.map dA))(hv:Ok2 n as)(hs:as.length<=1000)(hc:g7 as=true):∃Z5,zi C CF [.int (n:Int),d] O=some (.ok .non,Z5)/\Gr O Z5:=by
 obtain⟨Z4,e,g⟩:=BN (C:=C) hl hv hs;rw[hc] at e;refine⟨Z4,Bl (ZY:=[some (.int (n:Int)),some d]) rfl ?_,g⟩;unfold y2;show iD _ _ _ [some (.int (n:Int)),some d] O=_;have e2:vLX (m5 C) (upL<|fB (be 0)<|fB (be 1) fE) [some (.int (n:Int)),some d] O=some (.ok (.bl true),Z4):=by
  rw[ph (ds:=[.int (n:Int),d]) (Z4:=O) (qD rfl)];exact e
 have e3:sQ (bTX<|vLX (m5 C)<|upL<|fB (be 0)<|fB (be 1) fE) [some (.int (n:Int)),some d] O=some (.ok false,Z4):=by
  unfold sQ bTX;rw[e2];rfl
 rw[rD e3];exact nk (o:=.nx) rfl
end
def dI(s:Ŕ):D:=.lst (s.map D.int)
def LZ(a b:Bool)(O:M):eqD (.bl a) (.bl b) O=some (a==b):=by
 cases a<;>cases b<;>rfl
abbrev mi:SV:=(sIf (vT<|v2 fNe (v2 fEq (v2 fIx (be 0)<|be 2)<|v2 fIx (be 0)<|be 3)<|be 4)
    (fM<|vC<|.bl false)
    sNx)
theorem D5(hc:gc c O):∀(as:ť) (o2 o3 o4:ţ),InN s.length as->
  (j3 s as=true->∃o2' o3' o4',gD c (gy 3<|fN (fD 2)<|fN (fD 3)<|fN (fD 4) gF) mi (as.map dA) [some (dI s),some d,o2,o3,o4] O=some (.nx,[some (dI s),some d,o2',o3',o4'],O))/\
  (j3 s as=false->∃ZX,gD c (gy 3<|fN (fD 2)<|fN (fD 3)<|fN (fD 4) gF) mi (as.map dA) [some (dI s),some d,o2,o3,o4] O=some (.rt (.bl false),ZX,O))
 | [],o2,o3,o4,_=>⟨fun _=>⟨o2,o3,o4,rfl⟩,fun h=>by cases h⟩
 |a::as,o2,o3,o4,hv=>by
  obtain⟨h1,h2⟩:=hv a nofun;obtain⟨ih1,ih2⟩:=D5 (s:=s) (d:=d) hc as (some<|.int (a.1:Int)) (some<|.int (a.2.1:Int)) (some<|.bl a.2.2) (fun x hx=>hv x<|by simp[hx]);have hg:gy 3 (fN (fD 2)<|fN (fD 3)<|fN (fD 4) gF) (dA a) [some (dI s),some d,o2,o3,o4] O=some ([some (dI s),some d,some (.int (a.1:Int)),some (.int (a.2.1:Int)),some (.bl a.2.2)],O):=rfl;have ix:∀x:Nat,x<s.length->fIx (dI s) (.int (x:Int)) O=some (.int (s.getD x 0),O):=fun x hx=>by
   simp only[fIx,dI,gu];rw[kW (j:=x) (v:=.int (s.getD x 0)) (by rw[S6,SK];simp[SO hx])];rfl
  have t:vT (v2 fNe (v2 fEq (v2 fIx (be 0)<|be 2)<|v2 fIx (be 0)<|be 3)<|be 4) [some (dI s),some d,some (.int (a.1:Int)),some (.int (a.2.1:Int)),some (.bl a.2.2)] O=some (!(decide (s.getD a.1 0=s.getD a.2.1 0)==a.2.2),O):=by
   rw[Cs,e_2 (x:=.bl (decide (s.getD a.1 0=s.getD a.2.1 0))) (Z4:=O) (y:=.bl a.2.2) (Z3:=O) (by
    rw[e_2 (x:=.int (s.getD a.1 0)) (Z4:=O) (y:=.int (s.getD a.2.1 0)) (Z3:=O) (by rw[e_2 (x:=dI s) (Z4:=O) (y:=.int (a.1:Int)) (Z3:=O) rfl rfl];exact ix _ h1) (by rw[e_2 (x:=dI s) (Z4:=O) (y:=.int (a.2.1:Int)) (Z3:=O) rfl rfl];exact ix _ h2)];rfl) rfl]
   simp only[fNe,LZ,bs];rfl
  have ef:j3 s (a::as)=((decide (s.getD a.1 0=s.getD a.2.1 0)==a.2.2)&&j3 s as):=rfl;rw[ef];cases hb:(decide (s.getD a.1 0=s.getD a.2.1 0)==a.2.2) with
  |true=>
   rw[hb] at t;have hbd:mi [some (dI s),some d,some (.int (a.1:Int)),some (.int (a.2.1:Int)),some (.bl a.2.2)] O=some (.nx,[some (dI s),some d,some (.int (a.1:Int)),some (.int (a.2.1:Int)),some (.bl a.2.2)],O):=by
    unfold mi;rw[lN,t];rfl
   have step:gD c (gy 3<|fN (fD 2)<|fN (fD 3)<|fN (fD 4) gF) mi ((a::as).map dA) [some (dI s),some d,o2,o3,o4] O=gD c (gy 3<|fN (fD 2)<|fN (fD 3)<|fN (fD 4) gF) mi (as.map dA) [some (dI s),some d,some (.int (a.1:Int)),some (.int (a.2.1:Int)),some (.bl a.2.2)] O:=by
    rw[SN];simp only[gD,hg,bs,hbd];rw[jy hc]
   rw[step,Vy];exact⟨ih1,ih2⟩
  |false=>
   rw[hb] at t;have hbd:mi [some (dI s),some d,some (.int (a.1:Int)),some (.int (a.2.1:Int)),some (.bl a.2.2)] O=some (.rt (.bl false),[some (dI s),some d,some (.int (a.1:Int)),some (.int (a.2.1:Int)),some (.bl a.2.2)],O):=by
    unfold mi;rw[lN,t];rfl
   refine⟨fun z=>by simp at z,fun _=>⟨[some (dI s),some d,some (.int (a.1:Int)),some (.int (a.2.1:Int)),some (.bl a.2.2)],?_⟩⟩;rw[SN];simp only[gD,hg,bs,hbd]
def Rc(hl:Ls O d (as.map dA))(hv:InN s.length as):mG [dI s,d] O=some (.bl (j3 s as),O):=by
 obtain⟨c,hi,hck,_⟩:=hl.iv (B:=[some (dI s),some d,none,none,none]) (i:=1) rfl;obtain⟨l1,l2⟩:=D5 (s:=s) (d:=d) hck as none none none hv;unfold mG zf;rw[kq,if_pos (show [dI s,d].length=2 from rfl)];show je (fH _ _ [some (dI s),some d,none,none,none] O)=_;rw[jc,mR,hi,mW];cases hb:j3 s as with
 |true=>
  obtain⟨o2,o3,o4,e⟩:=l1 hb;rw[e];rfl
 |false=>
  obtain⟨ZX,e⟩:=l2 hb;rw[e];rfl
def ext(m:Nat)(p:List Int×Nat):List (List Int×Nat):=(List.range<|min (p.2+1) m).map fun(i:Nat)=>(p.1++[(i:Int)],max p.2<|i+1)
def dS(p:List Int×Nat):D:=dI p.1
def Oj(g:Gd n k.toNat s)(hn:n<=7):j8 [dS s,.int k] O=some (.lst ((ext k.toNat s).map dS),O):=by
 have hl:s.1.length<=1000:=by rw[g.len];omega
 have hu:=g.used;have h2:=g.len2;have s1:fS (v2 gK (v2 oM (be 0)<|v1 kl<|vC<|.int 1)<|vC<|.int 1) (fD 2) [some (dS s),some (.int k),none] O=some (.nx,[some (dS s),some (.int k),some (.int (s.2:Int))],O):=by
  have e1:v2 oM (be 0) (v1 kl<|vC<|.int 1) [some (dS s),some (.int k),none] O=some (.int ((mxL s.1).getD (-1)),O):=by
   rw[e_2 (x:=dS s) (Z4:=O) (y:=.int (-1)) (Z3:=O) rfl (by simp[kl])];simp only[oM,dS,dI,gu,bs,HE]
  rw[wc,e_2 (x:=.int ((mxL s.1).getD (-1))) (Z4:=O) (y:=.int 1) (Z3:=O) e1 rfl];simp only[gK,hu];rfl
 have s2:v2 qK (v2 gK (be 2)<|vC<|.int 1) (be 1) [some (dS s),some (.int k),some (.int (s.2:Int))] O=some (.int (min ((s.2:Int)+1) k),O):=by
  rw[e_2 (x:=.int ((s.2:Int)+1)) (Z4:=O) (y:=.int k) (Z3:=O) (by simp[gK]) rfl];show some (D.int (if k<(s.2:Int)+1 then k else(s.2:Int)+1),O)=_;have e0:(if k<(s.2:Int)+1 then k else(s.2:Int)+1)=min ((s.2:Int)+1) k:=by
   simp only[Int.min_def];split<;>split<;>omega
  rw[e0]
 have s3:gQ ["number"] [("sort",0)] (rL<|v2 qK (v2 gK (be 2)<|vC<|.int 1)<|be 1) (fD 0) fQ (v2 gK (be 1)<|vL gf<|fB (be 0) fE) [some (dS s),some (.int k),some (.int (s.2:Int))] O=some (.lst ((List.range<|min (s.2+1) k.toNat).map fun i:Nat=>dI<|s.1++[(i:Int)]),O):=by
  refine y3 (l:=List.range (min (s.2+1) k.toNat)) (dn:=fun i:Nat=>D.int (i:Int)) (c:=none) (fV:=[some (dS s)]) ?_ (by simp;omega) trivial rfl ?_
  .rw[PP s2 (by have:=Int.min_le_left ((s.2:Int)+1) k;omega)];have hm:(min ((s.2:Int)+1) k).toNat=min (s.2+1) k.toNat:=by simp only[Int.min_def,Nat.min_def];split<;>split<;>omega
   rw[hm];simp[gh]
  .intro i _;rw[e_2 (x:=dS s) (Z4:=O) (y:=.lst [.int (i:Int)]) (Z3:=O) rfl rfl];show qN (.lst<|s.1.map D.int) (.lst [.int (i:Int)]) O=_;unfold qN;simp only[lA,bs];rw[if_pos (by simp;omega)];simp[dI]
 unfold j8 ya;rw[kq,if_pos (show [dS s,D.int k].length=2 from rfl)];show je (fH _ _ [some (dS s),some (.int k),none] O)=_;rw[jc,s1,lV,pS,s3];simp[ext,dS,Function.comp_def,je,kRt]
theorem Bp{J:Type}{f:J->D}{O:M}{k:D}:∀(l:List J) (a o:ţ),∃o',kC none (fD 1) fQ (be 1) (l.map f) [a,o,some k] O=some (l.map f,[a,o',some k],O)
 | [],a,o=>⟨o,rfl⟩
 |p::l,a,o=>by
  obtain⟨o',e⟩:=Bp l a (some<|f p);refine⟨o',?_⟩;have hg:fD 1 (f p) [a,o,some k] O=some ([a,some (f p),some k],O):=rfl;have hv:be 1 [a,some (f p),some k] O=some (f p,O):=rfl;simp only[SN,kC,hg,bs];show(fQ _ _).bind _=_;simp only[fQ,bs,if_true,hv,lF];rw[e];rfl
theorem Aa(hn:n<=7):∀(ps:List (List Int×Nat)) (a o:ţ),(∀p∈ps,Gd n k.toNat p)->
  jd none (fD 0) fQ (ivL<|vL j8<|fB (be 0)<|fB (be 2) fE) (fD 1) fQ (be 1) (ps.map dS) [a,o,some (.int k)] O=some ((ps.flatMap<|ext k.toNat).map dS,O)
 | [],a,o,_=>rfl
 |p::ps,a,o,hg=>by
  have e1:=Oj (O:=O) (hg p nofun) hn;obtain⟨o',e3⟩:=Bp (f:=dS) (O:=O) (k:=.int k) (ext k.toNat p) (some<|dS p) o;have e4:=Aa (O:=O) hn ps (some<|dS p) o' (fun q hq=>hg q<|by simp[hq]);have h0:fD 0 (dS p) [a,o,some (.int k)] O=some ([some (dS p),o,some (.int k)],O):=rfl;have hv:ivL (vL j8<|fB (be 0)<|fB (be 2) fE) [some (dS p),o,some (.int k)] O=some (((ext k.toNat p).map dS,none),O):=by
   simp[e1,lsC]
  rw[SN];simp only[jd,h0,bs];show(fQ _ _).bind _=_;simp only[fQ,bs,if_true,hv,lF];rw[e3];simp only[bs,lF];rw[e4];simp
def L9(n m:Nat):Sx (n+1) m=(Sx n m).flatMap (ext m):=rfl
def xg{O:M}{n:Nat}{k:Int}{C:Addr}(hn:n<=7):ou j8 (.int 7) C [.int (n:Int),.int k] O=some (.ok (.lst<|(Sx n k.toNat).map dS),O):=by
 have main:=rY (c:=none) (g:=fD 3) (body:=(fS (kN ["sort","longer"] [("most",1)] (ivL<|be 2) (fD 0) fQ (ivL<|vL j8<|fB (be 0)<|fB (be 2) fE) (fD 1) fQ<|be 1)<|fD 2))
  (fun i B Z5=>∃(o:ţ),B=[some (.int (n:Int)),some (.int k),some (.lst<|(Sx i k.toNat).map dS),o]/\Z5=O)
  (gh 0 n) 0 [some (.int (n:Int)),some (.int k),some (.lst [.lst []]),none] O ⟨none,rfl,rfl⟩ ?_
 .obtain⟨ZX,Z5,e,o,rfl,rfl⟩:=main;rw[Mn,Ut] at e;refine sg (ZY:=[some (.int (n:Int)),some (.int k),some (.lst<|(Sx n k.toNat).map dS),o]) rfl ?_;unfold wK;show gl _ _ [some (.int (n:Int)),some (.int k),none,none] Z5=_;have t:(bOr (vT<|v2 fLt (be 0)<|vC<|.int 0)<|vT<|v2 fGt (be 0)<|vC<|.int 7) [some (.int (n:Int)),some (.int k),none,none] Z5=some (false,Z5):=by
   have a1:¬((n:Int)<0):=by omega
   have a2:¬((7:Int)<n):=by omega
   simp[fLt,fGt,fI0,a1,a2]
  rw[rQ (ZY:=[some (.int (n:Int)),some (.int k),none,none]) (Z4:=Z5) ((rD<|uf t).trans (nk (o:=.nx) rfl))];refine nk (o:=.rt _) ?_;have s1:fS (vL gf<|fB (vL gf fE) fE) (fD 2) [some (.int (n:Int)),some (.int k),none,none] Z5=some (.nx,[some (.int (n:Int)),some (.int k),some (.lst [.lst []]),none],Z5):=rfl;have hr:ivR (be 0) [some (.int (n:Int)),some (.int k),some (.lst [.lst []]),none] Z5=some ((gh 0 n,none),Z5):=by
   have hb:(-1000000000:Int)<=(n:Int)/\(n:Int)<=1000000000:=by omega
   simp[hb]
  rw[jc,s1,lV,jc,mR,hr,mW,e];rfl
 .rintro j d B Z4 hd ⟨o,rfl,rfl⟩;obtain⟨hjn,rfl⟩:=EL hd;rw[Ut];have e:=Aa (n:=j) (k:=k) (O:=Z4) ⋯ (Sx j k.toNat) none none (fun p hp=>nY _ j p hp);rw[←L9] at e;have hl:((Sx (j+1) k.toNat).map dS).length<=1000000:=by
   have:=p0 (n:=j+1) ⋯ k.toNat
   simp;omega
  refine⟨[some (.int (n:Int)),some (.int k),some (.lst<|(Sx j k.toNat).map dS),some (.int (j:Int))],Z4,[some (.int (n:Int)),some (.int k),some (.lst<|(Sx (j+1) k.toNat).map dS),some (.int (j:Int))],Z4,rfl,?_,trivial,some (.int (j:Int)),rfl,rfl⟩;have hv:ivL (be 2) [some (.int (n:Int)),some (.int k),some (.lst<|(Sx j k.toNat).map dS),some (.int (j:Int))] Z4=some (((Sx j k.toNat).map dS,none),Z4):=rfl;have hc:gA (["sort","longer"]:Ŗ) [("most",1)] [some (.int (n:Int)),some (.int k),some (.lst<|(Sx j k.toNat).map dS),some (.int (j:Int))]=[none,none,some (.int k)]:=rfl;rw[wc,yf,hv,xB,hc,e,wL,if_pos hl];rfl
section
variable {C CF CT:Addr} {n:Nat} {d:D} {as:ť} {O:M}
abbrev qV(C CF CT:Addr):FX:=yU mG (zi C CF) (ou j8 (.int 7) CT)
theorem yg{n m:Nat}{s:Ŕ}(h:s∈(Sx n m).map (·.1)):s.length=n:=by
 obtain⟨p,hp,rfl⟩:=Te.mp h;exact(nY m n p hp).len
theorem Rz(hl:Ls O d (as.map dA))(hv:Ok2 n as)(hs:as.length<=1000)(hn:n<=7)(hc:g7 as=true):∃Z5,qV C CF CT [.int (n:Int),d] O=some (.ok (.lst<|(gZ n as).map dI),Z5)/\Gr O Z5:=by
 obtain⟨Z4,e,g⟩:=RF (C:=C) (CF:=CF) hl hv hs hc;refine⟨Z4,?_,g⟩;refine sg (ZY:=[some (.int (n:Int)),some d]) rfl ?_;unfold yV;show gl _ _ [some (.int (n:Int)),some d] O=_;rw[rQ (ZY:=[some (.int (n:Int)),some d]) (Z4:=Z4) (zB (d:=.non) (by rw[ph (ds:=[.int (n:Int),d]) (Z4:=O) (qD rfl)];exact e))];refine Ac ?_;have ea:vLX (ou j8 (.int 7) CT) (upL<|fB (be 0)<|fB (be 0) fE) [some (.int (n:Int)),some d] Z4=some (.ok (.lst (((Sx n n).map (·.1)).map dI)),Z4):=by
  rw[ph (ds:=[.int (n:Int),.int (n:Int)]) (Z4:=Z4) (qD rfl),xg hn];simp[dS,Function.comp_def]
 have hlen:((Sx n n).map (·.1)).length<=1000000:=by have:=p0 hn n;simp;omega
 have ec:gE none (fD 0) (gG<|vL mG<|fB (be 0)<|fB (be 1) fE) (be 0) (((Sx n n).map (·.1)).map dI) [none,some d] Z4=some ((((Sx n n).map (·.1)).filter fun s=>j3 s as).map dI,Z4):=by
  refine tP (c:=none) (fun B=>∃o,B=[o,some d]) trivial _ _ ⟨none,rfl⟩ ?_;rintro s hs B ⟨o,rfl⟩;have hf:=Rc (s:=s) (hl.gr g) (by rw[yg hs];exact hv.inN);exact⟨[some (dI s),some d],rfl,by simp[hf],fun _=>rfl,_,rfl⟩
 unfold lI;rw[ea];show(if(((Sx n n).map (·.1)).map dI).length<=1000000 then _ else _)=_;rw[if_pos (by simpa using hlen)];have hcap:gA (["sort"]:Ŗ) [("answers",1)] [some (.int (n:Int)),some d]=[none,some d]:=rfl;show(gE none (fD 0) (gG<|vL mG<|fB (be 0)<|fB (be 1) fE) (be 0) (((Sx n n).map (·.1)).map dI) (gA ["sort"] [("answers",1)] [some (.int (n:Int)),some d]) Z4).bind _=_;rw[hcap,ec];rfl
end
abbrev Gp:=Int×Nat×Ŕ
structure Gs (O:M) (lo:Nat) (b:Nat) (gs:List Gp):Prop where
 dic:O[b]?=some (some<|.dK<|gs.map fun g=>(Sum.inl g.1,D.ref g.2.1))
 at_:∀g∈gs,O[g.2.1]?=some (some<|.lst<|g.2.2.map D.int)
 key:(gs.map (·.1)).Nodup
 lo1:lo<=b
 lo2:∀g∈gs,lo<=g.2.1
 nd:(gs.map (·.2.1)).Nodup
 len:∀g∈gs,g.2.2.length<=1000
def iF(gs:List Gp):List (Int×Ŕ):=gs.map fun g=>(g.1,g.2.2)
def vN(gs:List Gp)(k:Int):iK (gs.map fun g=>((Sum.inl g.1:Key),D.ref g.2.1)) (Sum.inl k)=(gs.find? fun g=>decide (g.1=k)).map fun g=>D.ref g.2.1:=by
 unfold iK;induction gs with
 |nil=>rfl
 |cons p r ih=>
  rw[SN,S0,S0];by_cases z:p.1=k
  .simp[z]
  .have z':¬((Sum.inl p.1:Key)=Sum.inl k):=fun e=>z (by injection e);simp only[z,z',U4];exact ih
theorem Sb{gs:List Gp}{k t:Int}{g:Gp}(hk:(gs.map (·.1)).Nodup)(hf:gs.find? (fun g=>decide (g.1=k))=some g):
  jv (iF gs) k t=iF (gs.map fun x=>if x.1=k then(x.1,x.2.1,x.2.2++[t]) else x):=by
 have hm:=Um hf;have he:g.1=k:=by simpa using Vh hf
 unfold jv;rw[if_pos (by
  rw[Uh];exact⟨(g.1,g.2.2),Te.mpr ⟨g,hm,rfl⟩,by simpa using he⟩)]
 unfold iF;rw[To,To];apply TZ;intro x _;simp only[Function.comp];split<;>rfl
def N5{gs:List Gp}{k t:Int}{r:Nat}(hf:gs.find? (fun g=>decide (g.1=k))=none):jv (iF gs) k t=iF (gs++[(k,r,[t])]):=by
 unfold jv;rw[if_neg]
 .simp[iF]
 .intro hc;obtain⟨x,hx,e⟩:=Uh.mp hc;obtain⟨g,hg,rfl⟩:=Te.mp hx;rw[T4] at hf;exact hf g hg e
abbrev uR:SV:=(kg<|jw jU (jT (be 1) (be 3)<|vL jW fE)<|be 2)
theorem GL{d:D}{b lo:Nat}{gs:List Gp}{O:M}{t k:Int}(h:Gs O lo b gs)(hlo:lo<=O.length)(hl:gs.length<1000)(hlt:∀g∈gs,g.2.2.length<1000):
  ∃gs' Z5,uR [some d,some (.ref b),some (.int t),some (.int k)] O=some (.nx,[some d,some (.ref b),some (.int t),some (.int k)],Z5)/\Gs Z5 lo b gs'/\iF gs'=jv (iF gs) k t/\(∀j,j<lo->Z5[j]?=O[j]?)/\O.length<=Z5.length:=by
 have hb:b<O.length:=(SG.mp h.dic).1;have hv1:be 1 [some d,some (.ref b),some (.int t),some (.int k)] O=some (.ref b,O):=rfl;have hd:ig O (.ref b)=some (gs.map fun g=>(Sum.inl g.1,D.ref g.2.1)):=by simp only[ig,h.dic]
 have g1:Gr O (O++[some (Z9.lst [])]):=gr_app;have hd2:ig (O++[some (Z9.lst [])]) (.ref b)=some (gs.map fun g=>(Sum.inl g.1,D.ref g.2.1)):=by simp only[ig,g1.get h.dic]
 have hv3:be 3 [some d,some (.ref b),some (.int t),some (.int k)] O=some (.int k,O):=rfl;have hnw:vL jW fE [some d,some (.ref b),some (.int t),some (.int k)] O=some (.ref O.length,O++[some (.lst [])]):=rfl;have hlen:(gs.map fun g=>((Sum.inl g.1:Key),D.ref g.2.1)).length<1000000:=by simp;omega
 cases hf:gs.find? (fun g=>decide (g.1=k)) with
 |some g=>
  have hm:=Um hf;have he:g.1=k:=by simpa using Vh hf
  have hs:jT (be 1) (be 3) (vL jW fE) [some d,some (.ref b),some (.int t),some (.int k)] O=some (.ref g.2.1,O++[some (.lst [])]):=by
   unfold jT;rw[hv1,bs];simp only[hd,bs,hv3,hnw,kU,hd2,if_pos hlen,vN,hf];rfl
  have ha:=g1.get (h.at_ g hm);generalize ZJ:O++[some (Z9.lst [])]=Z4 at hs g1 ha;have hlen1:Z4.length=O.length+1:=by rw[←ZJ];simp
  have hap:jU (.ref g.2.1) (.int t) Z4=some (.non,Z4.set g.2.1<|some<|.lst<|g.2.2.map D.int++[.int t]):=by
   have:=hlt g hm;simp only[jU,qh ha,if_pos (show(g.2.2.map D.int).length<1000000 by simp;omega),yl]
  refine⟨gs.map fun x=>if x.1=k then(x.1,x.2.1,x.2.2++[t]) else x,Z4.set g.2.1 (some<|.lst<|g.2.2.map D.int++[.int t]),?_,?_,(Sb h.key hf).symm,fun j hj=>?_,by rw[Uq,hlen1];omega⟩
  .unfold uR;rw[uG];unfold jw;rw[hs,bs];show kEx _ ((gu Z4<|.ref g.2.1).bind _)=_;rw[n0 ha,bs];show kEx _ (jU (.ref g.2.1) (.int t) Z4)=_;rw[hap];rfl
  .have hkeys:(gs.map fun x=>if x.1=k then(x.1,x.2.1,x.2.2++[t]) else x).map (fun g=>((Sum.inl g.1:Key),D.ref g.2.1))=gs.map fun g=>(Sum.inl g.1,D.ref g.2.1):=by
    rw[To];apply TZ;intro x _;simp only[Function.comp];split<;>rfl
   have hk1:(gs.map fun x=>if x.1=k then(x.1,x.2.1,x.2.2++[t]) else x).map (·.1)=gs.map (·.1):=by
    rw[To];apply TZ;intro x _;simp only[Function.comp];split<;>rfl
   have hk2:(gs.map fun x=>if x.1=k then(x.1,x.2.1,x.2.2++[t]) else x).map (·.2.1)=gs.map (·.2.1):=by
    rw[To];apply TZ;intro x _;simp only[Function.comp];split<;>rfl
   have hbg:b≠g.2.1:=fun z=>by
    have h1:=h.dic;rw[z,h.at_ g hm] at h1;cases h1
   refine⟨?_,fun x hx=>?_,by rw[hk1];exact h.key,h.lo1,fun x hx=>?_,by rw[hk2];exact h.nd,fun x hx=>?_⟩
   .rw[hkeys,jo hbg];exact g1.get h.dic
   .obtain⟨y,hy,rfl⟩:=Te.mp hx;by_cases hyk:y.1=k
    .have:y=g:=by
      have hn:=h.key;obtain⟨i,hi⟩:=TK hy;obtain⟨j,hj⟩:=TK hm;have e1:(gs.map (·.1))[i]?=some k:=by rw[S6,hi];simp[hyk]
      have e2:(gs.map (·.1))[j]?=some k:=by rw[S6,hj];simp[he]
      obtain⟨l1,q1⟩:=SG.mp e1;obtain⟨l2,q2⟩:=SG.mp e2;have hp:=T3.mp hn;rcases U6 i j with z|z|z
      .exact absurd (q1.trans q2.symm) (hp i j l1 l2 z)
      .subst z;rw[hi] at hj;cases hj;rfl
      .exact absurd (q2.trans q1.symm) (hp j i l2 l1 z)
     subst this;rw[if_pos hyk];show(Z4.set y.2.1 _)[y.2.1]?=_;rw[i8 ha];simp
    .rw[if_neg hyk];have hne:y.2.1≠g.2.1:=fun z=>by
      have hn:=h.nd;obtain⟨i,hi⟩:=TK hy;obtain⟨j,hj⟩:=TK hm;have e1:(gs.map (·.2.1))[i]?=some g.2.1:=by rw[S6,hi];simp[z]
      have e2:(gs.map (·.2.1))[j]?=some g.2.1:=by rw[S6,hj];simp
      obtain⟨l1,q1⟩:=SG.mp e1;obtain⟨l2,q2⟩:=SG.mp e2;have hp:=T3.mp hn;rcases U6 i j with w|w|w
      .exact absurd (q1.trans q2.symm) (hp i j l1 l2 w)
      .subst w;rw[hi] at hj;cases hj;exact hyk he
      .exact absurd (q2.trans q1.symm) (hp j i l2 l1 w)
     rw[jo hne];exact g1.get (h.at_ y hy)
   .obtain⟨y,hy,rfl⟩:=Te.mp hx;split
    .exact h.lo2 y hy
    .exact h.lo2 y hy
   .obtain⟨y,hy,rfl⟩:=Te.mp hx;have:=hlt y hy;split
    .simp;omega
    .omega
  .rw[jo (by have:=h.lo2 g hm;omega)];exact g1.at_ j ⋯
 |none=>
  have hs:jT (be 1) (be 3) (vL jW fE) [some d,some (.ref b),some (.int t),some (.int k)] O=some (.ref O.length,(O++[some (Z9.lst [])]).set b (some<|Z9.dK<|iY (gs.map fun g=>((Sum.inl g.1:Key),D.ref g.2.1)) (Sum.inl k)<|.ref O.length)):=by
   unfold jT;rw[hv1,bs];simp only[hd,bs,hv3,hnw,kU,hd2,if_pos hlen,vN,hf];rfl
  have hput:iY (gs.map fun g=>((Sum.inl g.1:Key),D.ref g.2.1)) (Sum.inl k) (.ref O.length)=(gs++[(k,O.length,[t])]).map fun g=>(Sum.inl g.1,D.ref g.2.1):=by
   rw[D7 _ (by rw[vN,hf];rfl)];simp
  rw[hput] at hs;have ha:((O++[some (Z9.lst [])]).set b (some<|.dK<|(gs++[(k,O.length,[t])]).map fun g=>(Sum.inl g.1,D.ref g.2.1)))[O.length]?=some (some<|.lst []):=by
   rw[jo ⋯];simp
  have hbk:((O++[some (Z9.lst [])]).set b (some<|.dK<|(gs++[(k,O.length,[t])]).map fun g=>(Sum.inl g.1,D.ref g.2.1)))[b]?=some (some<|.dK<|(gs++[(k,O.length,[t])]).map fun g=>(Sum.inl g.1,D.ref g.2.1)):=i8 (g1.get h.dic);have hold:∀j,j<O.length->j≠b->((O++[some (Z9.lst [])]).set b (some<|.dK<|(gs++[(k,O.length,[t])]).map fun g=>(Sum.inl g.1,D.ref g.2.1)))[j]?=O[j]?:=fun j hj hne=>by
   rw[jo hne];exact g1.at_ j hj
  have hlen1:((O++[some (Z9.lst [])]).set b (some<|.dK<|(gs++[(k,O.length,[t])]).map fun g=>(Sum.inl g.1,D.ref g.2.1))).length=O.length+1:=by simp
  generalize ZJ:(O++[some (Z9.lst [])]).set b (some<|.dK<|(gs++[(k,O.length,[t])]).map fun g=>(Sum.inl g.1,D.ref g.2.1))=Z4 at hs ha hbk hold hlen1;have hap:jU (.ref O.length) (.int t) Z4=some (.non,Z4.set O.length<|some<|.lst [.int t]):=by
   simp only[jU,qh ha,if_pos (show([]:ŗ).length<1000000 by decide),yl];rfl
  refine⟨gs++[(k,O.length,[t])],Z4.set O.length (some<|.lst [.int t]),?_,?_,(N5 hf).symm,fun j hj=>?_,by rw[Uq,hlen1];omega⟩
  .unfold uR;rw[uG];unfold jw;rw[hs,bs];show kEx _ ((gu Z4<|.ref O.length).bind _)=_;rw[n0 ha,bs];show kEx _ (jU (.ref O.length) (.int t) Z4)=_;rw[hap];rfl
  .have hgl:∀g∈gs,g.2.1<O.length:=fun g hg=>(SG.mp<|h.at_ g hg).1;refine⟨by rw[jo ⋯];exact hbk,fun x hx=>?_,?_,h.lo1,fun x hx=>?_,?_,fun x hx=>?_⟩
   .rcases Tb.mp hx with hx|hx
    .have hl1:=hgl x hx;have hxb:x.2.1≠b:=fun z=>by
      have h1:=h.dic;rw[←z,h.at_ x hx] at h1;cases h1
     rw[jo ⋯,hold _ hl1 hxb];exact h.at_ x hx
    .have:x=(k,O.length,[t]):=by simpa using hx
     subst this;exact i8 ha
   .rw[Us,UE];refine⟨h.key,by simp,fun a ha1 c hc e=>?_⟩;have:c=k:=by simpa using hc
    subst this e;obtain⟨g,hg,rfl⟩:=Te.mp ha1;rw[T4] at hf;exact hf g hg nofun
   .rcases Tb.mp hx with hx|hx
    .exact h.lo2 x hx
    .have:x=(k,O.length,[t]):=by simpa using hx
     subst this;exact hlo
   .rw[Us,UE];refine⟨h.nd,by simp,fun a ha1 c hc e=>?_⟩;have:c=O.length:=by simpa using hc
    subst this e;obtain⟨g,hg,e⟩:=Te.mp ha1;have:=hgl g hg;omega
   .rcases Tb.mp hx with hx|hx
    .exact h.len x hx
    .have:x=(k,O.length,[t]):=by simpa using hx
     subst this;simp
  .have hb2:=h.lo1;rw[jo ⋯];exact hold j ⋯ ⋯
theorem Db:∀(l:Ŕ) (i:Nat) (k:Int) (gs:List (Int×Ŕ)),mh i (l++[k]) gs=jv (mh i l gs) k ((i+l.length:Nat):Int)
 | [],i,k,gs=>by simp[mh]
 |x::l,i,k,gs=>by
  rw[List.cons_append,mh,mh,Db l (i+1) k];congr 2;simp;omega
def Pe(gs:List (Int×Ŕ))(k t:Int):(jv gs k t).length<=gs.length+1:=by
 unfold jv;split<;>simp
def LO{gs:List (Int×Ŕ)}{k t:Int}{m:Nat}(h:∀g∈gs,g.2.length<=m):∀g∈jv gs k t,g.2.length<=m+1:=by
 intro g hg;unfold jv at hg;split at hg
 .obtain⟨x,hx,rfl⟩:=Te.mp hg;have:=h x hx;split
  .simp;omega
  .omega
 .rcases Tb.mp hg with hg|hg
  .have:=h g hg;omega
  .have:g=(k,[t]):=by simpa using hg
   subst this;simp
def OS(hs:s.length<=500):∃b gs Z5,mS [dI s] O=some (.lst (gs.map fun g:Gp=>D.ref g.2.1),Z5)/\Gs Z5 O.length b gs/\iF gs=grp s/\Gr O Z5:=by
 have main:=rY (c:=none) (g:=(gy 2<|fN (fD 2)<|fN (fD 3) gF)) (body:=uR)
  (fun i B Z5=>∃(gs:List Gp) (o2 o3:ţ),B=[some (dI s),some (.ref O.length),o2,o3]/\Gs Z5 O.length O.length gs/\iF gs=grp (s.take i)/\gs.length<=i/\(∀g∈gs,g.2.2.length<=i)/\Gr O Z5)
  ((List.range s.length).map fun i:Nat=>D.tup [.int (i:Int),.int (s.getD i 0)]) 0 [some (dI s),some (.ref O.length),none,none] (O++[some (.dK [])])
  ⟨[],none,none,rfl,⟨by simp,fun g h=>by simp at h,by simp,SF _,fun g h=>by simp at h,by simp,fun g h=>by simp at h⟩,rfl,SF _,fun g h=>by simp at h,gr_app⟩ ?_
 .obtain⟨ZX,Z5,e,gs,o2,o3,rfl,G1,hst,_,_,gr⟩:=main;rw[Ut,SW,T9,Vz] at hst;refine⟨O.length,gs,Z5,?_,G1,hst,gr⟩;unfold mS uX;rw[kq,if_pos (show [dI s].length=1 from rfl)];show je (fH _ _ [some (dI s),none,none,none] O)=_;have s1:fS rK (fD 1) [some (dI s),none,none,none] O=some (.nx,[some (dI s),some (.ref O.length),none,none],O++[some (.dK [])]):=rfl;have hi:xk (be 0) [some (dI s),some (.ref O.length),none,none] (O++[some (.dK [])])=some (((List.range s.length).map fun i:Nat=>D.tup [.int (i:Int),.int (s.getD i 0)],none),O++[some (.dK [])]):=by
   have he:lQ (s.map D.int)=(List.range s.length).map fun i:Nat=>D.tup [.int (i:Int),.int (s.getD i 0)]:=by
    apply List.ext_getElem?;intro i;by_cases hi:i<s.length
    .simp[lQ,hi]
    .simp[lQ];rw[List.getElem?_eq_none (by simpa using hi),List.getElem?_eq_none (by simpa using hi)];rfl
   show some ((lQ (s.map D.int),none),_)=_;rw[he]
  rw[jc,s1,lV,jc,mR,hi,mW,e,lV,pS];have hv:v1 tY (be 1) [some (dI s),some (.ref O.length),o2,o3] Z5=some (.lst (gs.map fun g:Gp=>D.ref g.2.1),Z5):=by
   rw[e_1 (x:=.ref O.length) (Z4:=Z5) rfl];unfold tY;simp only[ig,G1.dic,bs,To];rfl
  rw[hv];rfl
 .rintro j x B Z4 hx ⟨gs,o2,o3,rfl,G1,hst,hl,hlt,gr⟩;rw[Ut] at hst hl hlt;have hj:j<s.length:=by
   have:=(SG.mp hx).1;simpa using this
  rw[S6,List.getElem?_range hj] at hx;simp at hx;subst hx;obtain⟨gs',Z3,e,G2,hst2,hold,hlen⟩:=GL (d:=dI s) (t:=(j:Int)) (k:=s.getD j 0) G1 gr.len ⋯ (fun g hg=>by have:=hlt g hg;omega);have hsj:s[j]?=some (s.getD j 0):=by rw[SK,SO hj];rfl
  have hgrp:grp (s.take<|j+1)=jv (grp<|s.take j) (s.getD j 0) (j:Int):=by
   rw[List.take_succ,hsj];show mh 0 (s.take j++[s.getD j 0]) []=_;rw[Db];have:(s.take j).length=j:=by rw[UM];omega
   rw[this,Ut];rfl
  refine⟨[some (dI s),some (.ref O.length),some (.int (j:Int)),some (.int<|s.getD j 0)],Z4,_,Z3,?_,e,trivial,gs',_,_,rfl,G2,?_,?_,?_,?_⟩
  .simp
  .rw[Ut,hst2,hst,hgrp]
  .have:gs'.length=(jv (iF gs) (s.getD j 0) (j:Int)).length:=by rw[←hst2];simp[iF]
   have h2:=Pe (iF gs) (s.getD j 0) (j:Int);have:(iF gs).length=gs.length:=by simp[iF]
   omega
  .intro g hg;have hm:(g.1,g.2.2)∈jv (iF gs) (s.getD j 0) (j:Int):=by rw[←hst2];exact Te.mpr ⟨g,hg,rfl⟩
   have:=LO (m:=j) (fun x hx=>by
    obtain⟨y,hy,rfl⟩:=Te.mp hx;exact hlt y hy) _ hm
   have:g.2.2.length<=j+1:=this;omega
  .exact⟨Tg gr.len hlen,fun i hi=>(hold i hi).trans (gr.at_ i hi)⟩
def gW(s:Ŕ):Ŕ:=match(grp s).find? fun g=>decide ((s.length:Int)<2*(g.2.length:Int)) with
 |some g=>g.2
 |none=>[]
def Px:∀n<8,∀p∈Sx n n,gW p.1=((List.range n).filter fun t:Nat=>decide ((t:Int)∈gW p.1)).map fun t:Nat=>(t:Int):=by decide +kernel
abbrev lP:SV:=(sIf (vT<|v2 fGt (v2 j0 (vC<|.int 2)<|v1 gX<|be 1)<|v1 gX<|be 0) (fM<|be 1) sNx)
theorem AI(hs:s.length<=500):∀(gs:List Gp) (o:ţ),(∀g∈gs,O[g.2.1]?=some (some<|.lst<|g.2.2.map D.int))->(∀g∈gs,g.2.2.length<=1000)->
  (∀g,gs.find? (fun g=>decide ((s.length:Int)<2*(g.2.2.length:Int)))=some g->∃ZX,gD none (fD 1) lP (gs.map fun g:Gp=>D.ref g.2.1) [some (dI s),o] O=some (.rt (.ref g.2.1),ZX,O))/\
  (gs.find? (fun g=>decide ((s.length:Int)<2*(g.2.2.length:Int)))=none->∃o',gD none (fD 1) lP (gs.map fun g:Gp=>D.ref g.2.1) [some (dI s),o] O=some (.nx,[some (dI s),o'],O))
 | [],o,_,_=>⟨(fun g h=>by cases h),fun _=>⟨o,rfl⟩⟩
 |g::gs,o,h,hl=>by
  have h0:=h g nofun;have hl0:=hl g nofun;obtain⟨i1,i2⟩:=AI (s:=s) hs gs (some<|.ref g.2.1) (fun x hx=>h x<|by simp[hx]) (fun x hx=>hl x<|by simp[hx]);have hg:fD 1 (.ref g.2.1) [some (dI s),o] O=some ([some (dI s),some (.ref g.2.1)],O):=rfl;have t:vT (v2 fGt (v2 j0 (vC<|.int 2)<|v1 gX<|be 1)<|v1 gX<|be 0) [some (dI s),some (.ref g.2.1)] O=some (decide ((s.length:Int)<2*(g.2.2.length:Int)),O):=by
   have a1:v1 gX (be 1) [some (dI s),some (.ref g.2.1)] O=some (.int (g.2.2.length:Int),O):=by
    rw[e_1 (x:=.ref g.2.1) (Z4:=O) rfl,Lc h0];simp
   have a2:v1 gX (be 0) [some (dI s),some (.ref g.2.1)] O=some (.int (s.length:Int),O):=by
    rw[e_1 (x:=dI s) (Z4:=O) rfl];simp[dI,gX,gu]
   have a3:v2 j0 (vC<|.int 2) (v1 gX<|be 1) [some (dI s),some (.ref g.2.1)] O=some (.int (2*(g.2.2.length:Int)),O):=by
    rw[e_2 (x:=.int 2) (Z4:=O) (y:=.int (g.2.2.length:Int)) (Z3:=O) rfl a1];have hc:CMul 2 (g.2.2.length:Int):=.inl ⟨by decide,by decide⟩;simp only[j0,if_pos hc]
   rw[Cs,e_2 a3 a2];rfl
  rw[S0];cases hb:decide ((s.length:Int)<2*(g.2.2.length:Int)) with
  |true=>
   rw[hb] at t;have hbd:lP [some (dI s),some (.ref g.2.1)] O=some (.rt (.ref g.2.1),[some (dI s),some (.ref g.2.1)],O):=by
    unfold lP;rw[lN,t];rfl
   refine⟨fun g' h=>?_,fun h=>by cases h⟩;cases h;refine⟨[some (dI s),some (.ref g.2.1)],?_⟩;rw[SN];simp only[gD,hg,bs,hbd]
  |false=>
   rw[hb] at t;have hbd:lP [some (dI s),some (.ref g.2.1)] O=some (.nx,[some (dI s),some (.ref g.2.1)],O):=by
    unfold lP;rw[lN,t];rfl
   have step:gD none (fD 1) lP ((g::gs).map fun g:Gp=>D.ref g.2.1) [some (dI s),o] O=gD none (fD 1) lP (gs.map fun g:Gp=>D.ref g.2.1) [some (dI s),some (.ref g.2.1)] O:=by
    rw[SN];simp only[gD,hg,bs,hbd,lF]
   rw[step];exact⟨i1,i2⟩
theorem Se{s:Ŕ}{gs:List Gp}(hst:iF gs=grp s):gW s=match gs.find? (fun g=>decide ((s.length:Int)<2*(g.2.2.length:Int))) with
  |some g=>g.2.2
  |none=>[]:=by
 unfold gW;rw[←hst];unfold iF;rw[List.find?_map];simp only[Function.comp_def];cases gs.find? fun g=>decide ((s.length:Int)<2*(g.2.2.length:Int))<;>rfl
abbrev nJ:Fr:=qv mS
def Jt(hs:s.length<=500):∃d Z5,nJ [dI s] O=some (d,Z5)/\Ls Z5 d ((gW s).map D.int)/\Gr O Z5:=by
 obtain⟨b,gs,Z4,e,G1,hst,gr⟩:=OS (O:=O) hs;obtain⟨l1,l2⟩:=AI (s:=s) (O:=Z4) hs gs none G1.at_ G1.len;have hi:ivL (vL mS<|fB (be 0) fE) [some (dI s),none] O=some ((gs.map fun g:Gp=>D.ref g.2.1,none),Z4):=by
  have:vL mS (fB (be 0) fE) [some (dI s),none] O=some (.lst (gs.map fun g:Gp=>D.ref g.2.1),Z4):=e;unfold ivL;rw[this];rfl
 have hm:=Se hst;cases hf:gs.find? (fun g=>decide ((s.length:Int)<2*(g.2.2.length:Int))) with
 |some g=>
  rw[hf] at hm;obtain⟨ZX,e2⟩:=l1 g hf;refine⟨.ref g.2.1,Z4,?_,?_,gr⟩
  .unfold nJ qv sk;rw[kq,if_pos (show [dI s].length=1 from rfl)];show je (fH _ _ [some (dI s),none] O)=_;rw[jc,mR,hi,mW,e2];rfl
  .rw[hm];exact .ref (G1.at_ g<|Um hf)
 |none=>
  rw[hf] at hm;obtain⟨o',e2⟩:=l2 hf;refine⟨.lst [],Z4,?_,by rw[hm];exact .lst,gr⟩;unfold nJ qv sk;rw[kq,if_pos (show [dI s].length=1 from rfl)];show je (fH _ _ [some (dI s),none] O)=_;rw[jc,mR,hi,mW,e2];rfl
def dE(x:Œ):D:=match x with
 |some t=>.tup [.str "one",.int t]
 |none=>.tup [.str "none"]
def hE(s:Ŕ):List Œ:=if gW s=[] then [none] else(gW s).map some
abbrev jQ:Fr:=tV nJ
def vX(hs:s.length<=500)(hl:(gW s).length<=1000):∃Z5,jQ [dI s] O=some (.lst ((hE s).map dE),Z5)/\Gr O Z5:=by
 obtain⟨d,Z4,e,hL,g⟩:=Jt (O:=O) hs;refine⟨Z4,?_,g⟩;have s1:fS (vL nJ<|fB (be 0) fE) (fD 1) [some (dI s),none] O=some (.nx,[some (dI s),some d],Z4):=by
  have:vL nJ (fB (be 0) fE) [some (dI s),none] O=some (d,Z4):=e;rw[wc,this];rfl
 have t:gG (be 1) [some (dI s),some d] Z4=some (!decide (gW s=[]),Z4):=by
  rw[B3];show qW (some (d,Z4))=_;rcases xD hL with⟨k,rfl,hk⟩|rfl|rfl
  .simp only[qW];cases hm:gW s with
   |nil=>rw[hm] at hk;simp[tru,hk,kTr]
   |cons a r=>rw[hm] at hk;simp[tru,hk,kTr]
  .cases hm:gW s with
   |nil=>rfl
   |cons a r=>rfl
  .cases hm:gW s with
   |nil=>rfl
   |cons a r=>rfl
 obtain⟨c,hi,hck,_⟩:=hL.iv (B:=[some (dI s),some d]) (i:=1) rfl;have c2:gQ ["thing"] [] (ivL<|be 1) (fD 0) fQ (vL gn<|fB (vC<|.str "one")<|fB (be 0) fE) [some (dI s),some d] Z4=some (.lst ((gW s).map fun t=>dE<|some t),Z4):=
  y3 (l:=gW s) (dn:=D.int) (c:=c) (fV:=[]) hi ⋯ hck rfl fun t _=>rfl
 unfold jQ tV yK;rw[kq,if_pos (show [dI s].length=1 from rfl)];show je (fH _ _ [some (dI s),none] O)=_;rw[jc,s1,lV,pS];unfold hE;by_cases h0:gW s=[]
 .rw[if_pos h0];rw[S3 h0] at t;have:vIf (gG<|be 1) (gQ ["thing"] [] (ivL<|be 1) (fD 0) fQ<|vL gn<|fB (vC<|.str "one")<|fB (be 0) fE) (vL gf<|fB (vL gn<|fB (vC<|.str "none") fE) fE) [some (dI s),some d] Z4=some (.lst ([none].map dE),Z4):=by
   rw[Da,t];rfl
  rw[this];rfl
 .rw[if_neg h0];rw[SJ h0] at t;have:vIf (gG<|be 1) (gQ ["thing"] [] (ivL<|be 1) (fD 0) fQ<|vL gn<|fB (vC<|.str "one")<|fB (be 0) fE) (vL gf<|fB (vL gn<|fB (vC<|.str "none") fE) fE) [some (dI s),some d] Z4=some (.lst (((gW s).map some).map dE),Z4):=by
   rw[Da,t];show gQ _ _ _ _ _ _ _ Z4=_;rw[c2,To];rfl
  rw[this];rfl
def so1:PyData.strOk "one"=true:=by decide +kernel
def so2:PyData.strOk "none"=true:=by decide +kernel
def pE(x:Œ):PyData:=match x with
 |some t=>.tuple [.str "one",.int t]
 |none=>.tuple [.str "none"]
def rW{O:M}(x:Œ):py 65 O (dE x)=some (pE x):=by cases x<;>rfl
def yL(x:Œ):(pE x).canLay0=true:=by cases x<;>simp[pE,PyData.canLay0,PyData.canLayAll0,so1,so2]
def Ab(x:Œ):(pE x).depth<=60:=by cases x<;>simp[pE,PyData.depth,PyData.depthAll]
def HA(x y:Œ):PyData.eqv (pE x) (pE y)=decide (x=y):=by
 rw[T1];cases x<;>cases y<;>simp[pE,PyData.eqv,PyData.eqvAll]
theorem As:∀l:List Œ,PyData.canLayAll0 (l.map pE)=true
 | []=>rfl
 |x::l=>by simp[PyData.canLayAll0,yL x,As l]
def y7{O:M}(x:Œ)(l:List Œ):ki false (dE x) (.lst<|l.map dE) O=some (.bl (decide (x∈l)),O):=by
 have h1:optAll (py 65 O) (l.map dE)=some (l.map pE):=og fun x _=>rW x;have h4:decide ((pE x).depth<=60)=true:=S3 (Ab x);have h5:(l.map pE).any (fun e=>PyData.eqv e<|pE x)=decide (x∈l):=by
  rw[T1,List.any_map,Uh];simp only[Function.comp,TH,HA];constructor
  .rintro⟨y,hy,rfl⟩;exact hy
  .intro h;exact⟨x,h,rfl⟩
 unfold ki;rw[if_neg nofun];simp only[gu,bs,h1,rW,As,yL,h4,Bool.and_self,if_true,h5]
def lz(ss:List Ŕ):Option Œ:=(hE<|ss.getD 0 []).find? fun t=>ss.all fun s=>decide (t∈hE s)
def dEs(ss:List Ŕ):D:=.lst (ss.map fun s=>.lst<|(hE s).map dE)
abbrev mj:SV:=(sIf (gG<|v1 jp<|gQ ["others"] [("end",1)] (ivL<|be 0) (fD 0) fQ<|v2 (ki false) (be 1)<|be 0)
    (fM<|be 1)
    sNx)
theorem z5{ss:List Ŕ}{O:M}(hl:ss.length<=1000000):∀(l:List Œ) (o:ţ),
  (∀t,l.find? (fun t=>ss.all fun s=>decide (t∈hE s))=some t->∃ZX,gD none (fD 1) mj (l.map dE) [some (dEs ss),o] O=some (.rt (dE t),ZX,O))/\
  (l.find? (fun t=>ss.all fun s=>decide (t∈hE s))=none->∃o',gD none (fD 1) mj (l.map dE) [some (dEs ss),o] O=some (.nx,[some (dEs ss),o'],O))
 | [],o=>⟨(fun t h=>by cases h),fun _=>⟨o,rfl⟩⟩
 |t::l,o=>by
  obtain⟨i1,i2⟩:=z5 (ss:=ss) (O:=O) hl l (some<|dE t);have hc:gQ ["others"] [("end",1)] (ivL<|be 0) (fD 0) fQ (v2 (ki false) (be 1)<|be 0) [some (dEs ss),some (dE t)] O=some (.lst (ss.map fun s=>D.bl<|decide (t∈hE s)),O):=
   y3 (l:=ss) (dn:=fun s=>D.lst<|(hE s).map dE) (c:=none) (fV:=[some (dE t)]) rfl hl trivial rfl fun s _=>by
    rw[e_2 (x:=dE t) (Z4:=O) (y:=.lst ((hE s).map dE)) (Z3:=O) rfl rfl];exact y7 t (hE s)
  have ht:gG (v1 jp<|gQ ["others"] [("end",1)] (ivL<|be 0) (fD 0) fQ<|v2 (ki false) (be 1)<|be 0) [some (dEs ss),some (dE t)] O=some (ss.all fun s=>decide (t∈hE s),O):=by
   rw[B3,e_1 hc];have:ss.map (fun s=>D.bl<|decide (t∈hE s))=(ss.map fun s=>decide (t∈hE s)).map D.bl:=by simp
   rw[this];simp only[jp,gu,bs,Ar,VD];rfl
  have hg:fD 1 (dE t) [some (dEs ss),o] O=some ([some (dEs ss),some (dE t)],O):=rfl;rw[S0];cases hb:ss.all fun s=>decide (t∈hE s) with
  |true=>
   rw[hb] at ht;have hbd:mj [some (dEs ss),some (dE t)] O=some (.rt (dE t),[some (dEs ss),some (dE t)],O):=by
    unfold mj;rw[lN,ht];rfl
   refine⟨fun t' h=>?_,fun h=>by cases h⟩;cases h;refine⟨[some (dEs ss),some (dE t)],?_⟩;rw[SN];simp only[gD,hg,bs,hbd]
  |false=>
   rw[hb] at ht;have hbd:mj [some (dEs ss),some (dE t)] O=some (.nx,[some (dEs ss),some (dE t)],O):=by
    unfold mj;rw[lN,ht];rfl
   have step:gD none (fD 1) mj ((t::l).map dE) [some (dEs ss),o] O=gD none (fD 1) mj (l.map dE) [some (dEs ss),some (dE t)] O:=by
    rw[SN];simp only[gD,hg,bs,hbd,lF]
   rw[step];exact⟨i1,i2⟩
def gJ:D:=.gt [.str "open"]
def j4(o:Option Œ):D:=match o with
 |some t=>dE t
 |none=>gJ
def E7{ss:List Ŕ}{O:M}(hl:ss.length<=1000000)(h0:ss≠[]):lE gJ [dEs ss] O=some (j4 (lz ss),O):=by
 have hi:ivL (v2 fIx (be 0)<|vC<|.int 0) [some (dEs ss),none] O=some (((hE<|ss.getD 0 []).map dE,none),O):=by
  cases ss with
  |nil=>exact absurd rfl h0
  |cons s ss=>
   have h1:v2 fIx (be 0) (vC<|.int 0) [some (dEs<|s::ss),none] O=some (.lst ((hE s).map dE),O):=by
    rw[e_2 (x:=dEs (s::ss)) (Z4:=O) (y:=.int 0) (Z3:=O) rfl rfl];simp only[fIx,dEs,gu];rw[show(0:Int)=((0:Nat):Int) from rfl,kW (j:=0) (v:=.lst ((hE s).map dE)) rfl];rfl
   unfold ivL;rw[h1];rfl
 obtain⟨l1,l2⟩:=z5 (ss:=ss) (O:=O) hl (hE<|ss.getD 0 []) none;unfold lE sj;rw[kq,if_pos (show [dEs ss].length=1 from rfl)];show je (fH _ _ [some (dEs ss),none] O)=_;rw[jc,mR,hi,mW];cases hc:lz ss with
 |some t=>
  obtain⟨ZX,e⟩:=l1 t hc;rw[e];rfl
 |none=>
  obtain⟨o',e⟩:=l2 hc;rw[e];rfl
def Nu{n:Nat}(hn:n<=7){s:Ŕ}(hs:s∈(Sx n n).map (·.1)):gW s=((List.range n).filter fun t:Nat=>decide ((t:Int)∈gW s)).map fun t:Nat=>(t:Int):=by
 obtain⟨p,hp,rfl⟩:=Te.mp hs;exact Px n ⋯ p hp
def BY{n:Nat}(hn:n<=7){s:Ŕ}(hs:s∈(Sx n n).map (·.1)):(gW s).length<=n:=by
 rw[Nu hn hs,SW];have:=Ul (fun t:Nat=>decide ((t:Int)∈gW s)) (List.range n);simpa using this
section
variable {C CF CT:Addr} {n:Nat} {d:D} {as:ť} {O:M}
abbrev tT(C CF CT:Addr):FX:=xi (lE gJ) jQ (qV C CF CT)
theorem DP{n:Nat}(hn:n<=7):∀(l:List Ŕ) (o:ţ) (O:M),(∀s∈l,s∈(Sx n n).map (·.1))->
  ∃Z5,gE none (fD 0) fQ (vL jQ<|fB (be 0) fE) (l.map dI) [o] O=some (l.map fun s=>.lst ((hE s).map dE),Z5)/\Gr O Z5
 | [],o,O,_=>⟨O,rfl,.refl⟩
 |s::l,o,O,h=>by
  have hs:=h s nofun;have h1:=yg hs;have h2:=BY hn hs;obtain⟨Z4,e1,g1⟩:=vX (s:=s) (O:=O) ⋯ ⋯;obtain⟨Z3,e2,g2⟩:=DP hn l (some<|dI s) Z4 (fun x hx=>h x<|by simp[hx]);refine⟨Z3,?_,g1.trans g2⟩;have hg:fD 0 (dI s) [o] O=some ([some (dI s)],O):=rfl;have hv:vL jQ (fB (be 0) fE) [some (dI s)] O=some (.lst ((hE s).map dE),Z4):=e1;rw[SN];simp only[gE,hg,bs];show(fQ _ _).bind _=_;simp only[fQ,bs,if_true,hv,lF];rw[e2];rfl
theorem Hs(h:s∈gZ n as):s∈(Sx n n).map (·.1):=(Ta.mp h).1
theorem KH(hn:n<=7):(gZ n as).length<=1000:=by
 have h1:=Ul (fun s=>j3 s as) ((Sx n n).map (·.1));have:=p0 hn n;unfold gZ;rw[SW] at h1;omega
theorem Ku(hl:Ls O d (as.map dA))(hv:Ok2 n as)(hs:as.length<=1000)(hn:n<=7)(hf:gZ n as≠[]):∃Z5,tT C CF CT [.int (n:Int),d] O=some (.ok (j4<|lz<|gZ n as),Z5)/\Gr O Z5:=by
 have hc:g7 as=true:=by
  cases h:g7 as with
  |true=>rfl
  |false=>exact absurd ((wa hv.inN).mpr h) hf
 obtain⟨Z4,e1,g1⟩:=Rz (C:=C) (CF:=CF) (CT:=CT) hl hv hs hn hc;obtain⟨Z3,e2,g2⟩:=DP hn (gZ n as) none Z4 (fun s h=>Hs h);refine⟨Z3,?_,g1.trans g2⟩;have hlen:=KH (as:=as) hn;refine sg (ZY:=[some (.int (n:Int)),some d]) rfl ?_;unfold w9;show kE _ [some (.int (n:Int)),some d] O=_;have ec:lI ["sort"] [] (vLX (qV C CF CT)<|upL<|fB (be 0)<|fB (be 1) fE) (fD 0) fQ (vL jQ<|fB (be 0) fE) [some (.int (n:Int)),some d] O=some (.ok (dEs<|gZ n as),Z3):=by
  have ea:vLX (qV C CF CT) (upL<|fB (be 0)<|fB (be 1) fE) [some (.int (n:Int)),some d] O=some (.ok (.lst<|(gZ n as).map dI),Z4):=by
   rw[ph (ds:=[.int (n:Int),d]) (Z4:=O) (qD rfl)];exact e1
  unfold lI;rw[ea];show(if((gZ n as).map dI).length<=1000000 then _ else _)=_;rw[if_pos (by simp;omega)];have hcap:gA (["sort"]:Ŗ) [] [some (.int (n:Int)),some d]=[none]:=rfl;show(gE none (fD 0) fQ (vL jQ<|fB (be 0) fE) ((gZ n as).map dI) (gA ["sort"] [] [some (.int (n:Int)),some d]) Z4).bind _=_;rw[hcap,e2];rfl
 have el:sE (lI ["sort"] [] (vLX (qV C CF CT)<|upL<|fB (be 0)<|fB (be 1) fE) (fD 0) fQ<|vL jQ<|fB (be 0) fE) (upL fE) [some (.int (n:Int)),some d] O=some (.ok [dEs (gZ n as)],Z3):=by
  unfold sE;rw[ec];rfl
 refine Ac ?_;rw[ph el];show(upF<|lE gJ) _ _=_;have hco:=E7 (ss:=gZ n as) (O:=Z3) ⋯ hf;unfold upF;rw[hco];rfl
end
def wpA:=And.intro @y8 (And.intro @zk<|And.intro @Fq<|And.intro @FC<|And.intro @Ib<|And.intro @Q3<|And.intro @E5<|And.intro @Ev<|And.intro @NE<|And.intro @QF<|And.intro @Ow<|And.intro @Gm<|And.intro @Hw<|And.intro @nT<|And.intro @pO<|And.intro @w_c<|And.intro @pc<|And.intro @oF<|And.intro @w_T<|And.intro @RS<|And.intro @M0<|And.intro @EI<|And.intro @J1<|And.intro @OD<|And.intro @HK<|And.intro @Kx<|And.intro @RH<|And.intro @Qq<|And.intro @Lo<|And.intro @HY<|And.intro @J5<|And.intro @Hr<|And.intro @QM<|And.intro @q1_<|And.intro @q2_<|And.intro @QR<|And.intro @qL_<|And.intro @qc_<|And.intro @oK<|And.intro @qT_<|And.intro @MS<|And.intro @KP<|And.intro @IG<|And.intro @Pk<|And.intro @NL<|And.intro @Im<|And.intro @Oe<|And.intro @Kv<|And.intro @E6<|And.intro @Ri<|And.intro @Ix<|And.intro @Lb<|And.intro @Ra<|And.intro @LA<|And.intro @Mr<|And.intro @Ht<|And.intro @Mp<|And.intro @Nf<|And.intro @Rg<|And.intro @II<|And.intro @Jr<|And.intro @En<|And.intro @Me<|And.intro @Kk<|And.intro @Il<|And.intro @Qj<|And.intro @MX<|And.intro @Si<|And.intro @PQ<|And.intro @wp_some<|And.intro @ws_some<|And.intro @OE<|And.intro @LU<|And.intro @QH<|And.intro @M3<|And.intro @NC<|And.intro @Nw<|And.intro @Iw<|And.intro @HJ<|And.intro @Fe<|And.intro @KU<|And.intro @M7<|And.intro @Nq<|And.intro @Om<|And.intro @Ki<|And.intro @Of<|And.intro @LD<|And.intro @P4<|And.intro @KS<|And.intro @Sf<|And.intro @Ft<|And.intro @Ho<|And.intro @F8<|And.intro @pk<|And.intro @Ox<|And.intro @pN<|And.intro @EO<|And.intro @O4<|And.intro @OJ<|And.intro @oZ<|And.intro @Gz<|And.intro @oY<|And.intro @MP<|And.intro @Qp<|And.intro @IJ<|And.intro @RX<|And.intro @N1<|And.intro @OB<|And.intro @LY<|And.intro @Jj<|And.intro @Ia<|And.intro @HW<|And.intro @N0<|And.intro @NY<|And.intro @EC<|And.intro @pH<|And.intro @Re<|And.intro @GQ<|And.intro @M2<|And.intro @qp<|And.intro @AE<|And.intro @Ky<|And.intro @nN<|And.intro @Jx<|And.intro @KC<|And.intro @GN<|And.intro @GB<|And.intro @Q5<|And.intro @Kn<|And.intro @K0<|And.intro @Jc<|@wt_some)
local macro_rules | `(tactic| simp!)=>`(tactic| simp only [wpA,List.set_cons_zero,List.set_cons_succ])
local macro_rules | `(tactic| simp! [$ts,*])=>`(tactic| simp only [$ts,*,wpA,List.set_cons_zero,List.set_cons_succ])
def CU{J:Type}{r:Option (J×M)}{a:J}{Z5:M}(h:Wp r fun d m=>d=a/\m=Z5):r=some (a,Z5):=by
 obtain⟨d,m,e,rfl,rfl⟩:=h;exact e
def dP(p:Nat×Nat):D:=.tup [.int (p.1:Int),.int (p.2:Int)]
theorem zm{β:Type}{g:GV}{te:EV}{dm:β->D}{val:β->D}(Qv:G->Prop){O:M}:∀(l:List β) (B:G),Qv B->(∀b∈l,∀B,Qv B->∃ZY,g (dm b) B O=some (ZY,O)/\te ZY O=some (val b,O)/\Qv ZY)->
  ∃ZX,kC none g fQ te (l.map dm) B O=some (l.map val,ZX,O)/\Qv ZX
 | [],B,h,_=>⟨B,rfl,h⟩
 |b::l,B,h,hs=>by
  obtain⟨ZY,e1,e2,h1⟩:=hs b nofun B h;obtain⟨ZX,e3,h3⟩:=zm Qv l ZY h1 fun b hb=>hs b (by simp[hb]);refine⟨ZX,?_,h3⟩;rw[SN];simp only[kC,e1,bs,fQ,if_true,e2,lF,e3];rfl
theorem vd{J β:Type}{g g2:GV}{iv2:IV}{te:EV}{dn:J->D}{dm:β->D}{inn:J->List β}{val:J->β->D}(Pv:G->Prop)(Qv:J->G->Prop){O:M}(hPQ:∀a B,Qv a B->Pv B):∀(l:List J) (B:G),Pv B->
  (∀a∈l,∀B,Pv B->∃ZY,g (dn a) B O=some (ZY,O)/\iv2 ZY O=some (((inn a).map dm,none),O)/\Qv a ZY)->
  (∀a∈l,∀b∈inn a,∀B,Qv a B->∃ZY,g2 (dm b) B O=some (ZY,O)/\te ZY O=some (val a b,O)/\Qv a ZY)->
  jd none g fQ iv2 g2 fQ te (l.map dn) B O=some (l.flatMap fun a=>(inn a).map (val a),O)
 | [],B,_,_,_=>rfl
 |a::l,B,h,hs,hi=>by
  obtain⟨ZY,e1,e2,h1⟩:=hs a nofun B h;obtain⟨ZV,e3,h2⟩:=zm (Qv a) (inn a) ZY h1 (hi a nofun);have ih:=vd (dm:=dm) (val:=val) Pv Qv hPQ l ZV (hPQ a _ h2) (fun a ha=>hs a<|by simp[ha]) fun a ha=>hi a (by simp[ha]);rw[SN];simp only[jd,e1,bs,fQ,if_true,e2,e3,lF];have ih':jd none g (fun _ O=>some (true,O)) iv2 g2 (fun _ O=>some (true,O)) te (l.map dn) ZV O=some (l.flatMap fun a=>(inn a).map (val a),O):=ih;rw[show(fQ:BV)=fun _ O=>some (true,O) from rfl] at*;rw[ih'];rfl
def prs(n:Nat):ŕ:=(List.range n).flatMap fun i=>(List.range<|n - (i+1)).map fun j=>(i,i+1+j)
def vU{n:Nat}{O:M}(hn:n<=100):mY [.int (n:Int)] O=some (.lst ((prs n).map dP),O):=by
 unfold mY yt;rw[kq,if_pos (show [D.int (n:Int)].length=1 from rfl)];show je (fM _ [some (.int (n:Int))] O)=_;have hb:(-1000000000:Int)<=(n:Int)/\(n:Int)<=1000000000:=by omega
 have hr:ivR (be 0) [some (.int (n:Int))] O=some (((List.range n).map fun i:Nat=>D.int (i:Int),none),O):=by
  simp[hb,gh]
 have hc:=vd (g:=fD 0) (g2:=fD 1) (iv2:=qd (v2 gK (be 0)<|vC<|.int 1) (be 2)) (te:=vL gn (fB (be 0)<|fB (be 1) fE)) (dn:=fun i:Nat=>D.int (i:Int)) (dm:=fun j:Nat=>D.int (j:Int)) (inn:=fun i=>(List.range<|n - (i+1)).map fun j=>i+1+j) (val:=fun i j=>dP (i,j))
  (fun B=>∃a b,B=[a,b,some (.int (n:Int))]) (fun i B=>∃b,B=[some (.int (i:Int)),b,some (.int (n:Int))]) (O:=O) (fun i B ⟨b,e⟩=>⟨_,_,e⟩) (List.range n) [none,none,some (.int (n:Int))] ⟨_,_,rfl⟩ ?_ ?_
 .have hcap:gA (["i","j"]:Ŗ) [("many",0)] [some (.int (n:Int))]=[none,none,some (.int (n:Int))]:=rfl;have hlen:((List.range n).flatMap fun i=>((List.range<|n - (i+1)).map fun j=>i+1+j).map (fun j=>dP (i,j))).length<=1000000:=by
   rw[List.length_flatMap];have:∀(l:Ŝ),(l.map fun i=>(((List.range<|n - (i+1)).map fun j=>i+1+j).map (fun j=>dP (i,j))).length).sum<=l.length*n:=by
    intro l;induction l with
    |nil=>simp
    |cons x l ih=>simp only[SN,List.sum_cons,SW,T9,S9] at ih⊢;rw[Nat.add_mul];omega
   have:=this (List.range n);rw[T9] at this;have h2:n*n<=100*100:=Nat.mul_le_mul hn hn;omega
  have e:((List.range n).flatMap fun i=>((List.range<|n - (i+1)).map fun j=>i+1+j).map (fun j=>dP (i,j)))=(prs n).map dP:=by
   unfold prs;rw[VA];congr 1;funext i;rw[To,To];rfl
  rw[pS,yf,hr,xB,hcap,hc,wL,if_pos hlen,e];rfl
 .rintro i hi B ⟨a,b,rfl⟩;rw[TR] at hi;refine⟨[some (.int (i:Int)),b,some (.int (n:Int))],rfl,?_,⟨_,rfl⟩⟩;have hv:v2 gK (be 0) (vC<|.int 1) [some (.int (i:Int)),b,some (.int (n:Int))] O=some (.int ((i:Int)+1),O):=rfl;have hv2:be 2 [some (.int (i:Int)),b,some (.int (n:Int))] O=some (.int (n:Int),O):=rfl;have hbb:((-1000000000:Int)<=(i:Int)+1/\(i:Int)+1<=1000000000)/\-1000000000<=(n:Int)/\(n:Int)<=1000000000:=by omega
  rw[FA,hv,GX,hv2,PY,if_pos hbb];have e2:((n:Int) - ((i:Int)+1)).toNat=n - (i+1):=by omega
  rw[e2];unfold gh;rw[To];congr 4
 .rintro i hi j hj B ⟨b,rfl⟩;exact⟨[some (.int (i:Int)),some (.int (j:Int)),some (.int (n:Int))],rfl,rfl,⟨_,rfl⟩⟩
theorem nj{J:Type}{c:Ck}{g:GV}{tc:BV}{te:EV}{dn:J->D}{keep:J->Bool}{val:J->D}(Pv:G->Prop){O:M}{B:G}(hc:gc c O)(l:List J)(h0:Pv B)
  (hs:∀a∈l,∀B,Pv B->Wp (g (dn a) B O) fun ZY Z4=>Z4=O/\Pv ZY/\Wp (tc ZY O) fun b Z3=>b=keep a/\Z3=O/\(keep a=true->Wp (te ZY O) fun x ZL=>x=val a/\ZL=O)) {R:ŗ->M->Prop} (hR:R ((l.filter keep).map val) O):Wp (gE c g tc te (l.map dn) B O) R:=by
 refine comp_inv (fun done r B Z5=>∃i,i<=l.length/\Z5=O/\Pv B/\r=(l.drop i).map dn/\done=((l.take i).filter keep).map val) _ ⟨0,by omega,rfl,h0,rfl,rfl⟩ ?_ ?_
 .rintro done d r B Z5 ⟨i,hi,rfl,hp,e,rfl⟩;have hi':i<l.length:=by
   rcases VS i l.length with z|z
   .exact z
   .rw[TB z] at e;cases e
  rw[Tj hi',SN] at e;cases e;have ht:l.take (i+1)=l.take i++[l[i]]:=by rw[List.take_append_getElem hi']
  refine(hs l[i] (TU hi') B hp).imp fun ZY Z4 ⟨e,hp1,h⟩=>?_;subst e;refine h.imp fun b Z3 ⟨e1,e2,h⟩=>?_;subst e1;subst e2;cases hk:keep l[i] with
  |true=>
   show Wp _ _;refine(h hk).imp fun x ZL ⟨e1,e2⟩=>?_;subst e1;subst e2;refine⟨hc,i+1,hi',rfl,hp1,rfl,?_⟩;rw[ht,List.filter_append,Us];simp[hk]
  |false=>
   show gc c _/\_;refine⟨hc,i+1,hi',rfl,hp1,rfl,?_⟩;rw[ht,List.filter_append,Us];simp[hk]
 .rintro done B Z5 ⟨i,hi,rfl,_,e,rfl⟩;have:l.length<=i:=by
   have:=congrArg List.length e;simp at this;omega
  rw[List.take_of_length_le this];exact hR
def mL{O:M}(l:ũ):jp (.lst<|l.map D.bl) O=some (.bl (l.all id),O):=by
 have:optAll inB (l.map D.bl)=some l:=by
  have:=og (f:=inB) (g:=D.bl) (h:=id) (l:=l) (fun x _=>rfl);simpa using this
 unfold jp;show(optAll inB<|l.map D.bl).bind _=_;rw[this];rfl
def xY(h:a.length+b.length<=1000000):gK (.lst a) (.lst b) O=some (.lst (a++b),O):=if_pos h
def qt{ds:ŗ}{j:Nat}{v:D}{O:M}(h:ds[j]?=some v):fIx (.lst ds) (.int (j:Int)) O=some (v,O):=by
 show(atI ds (j:Int)).bind _=_;rw[kW h];rfl
def Pap:Nat->Type
 |0=>Unit
 |k+1=>List (Bool×Pap k)
def dPp:(k:Nat)->Pap k->D
 |0,_=>.tup []
 |k+1,(rows:List (Bool×Pap k))=>.lst (rows.map fun r=>.tup [.bl r.1,dPp k r.2])
def Sh(n:Nat):(k:Nat)->Pap k->Prop
 |0,_=>True
 |k+1,(rows:List (Bool×Pap k))=>rows.length=(prs n).length/\∀r∈rows,Sh n k r.2
def mB(n:Nat):(k:Nat)->ť->Pap k->Bool
 |0,as,_=>g7 as&&(lz<|gZ n as).isNone
 |k+1,as,(rows:List (Bool×Pap k))=>g7 as&&((prs n).zip rows).all fun x=>mB n k (as++[(x.1.1,x.1.2,x.2.1)]) x.2.2
def dR(k:Nat)(r:Bool×Pap k):D:=.tup [.bl r.1,dPp k r.2]
def dX(k:Nat)(x:(Nat×Nat)×(Bool×Pap k)):D:=.tup [dP x.1,dR k x.2]
def Fg{k:Nat}(rows:List (Bool×Pap k)):dPp (k+1) rows=.lst (rows.map<|dR k):=rfl
theorem zY{k:Nat}:∀(ps:ŕ) (rows:List (Bool×Pap k)),i0 (ps.map dP) (rows.map<|dR k)=(ps.zip rows).map (dX k)
 | [],_=>by simp[i0]
 |_::_,[]=>by simp[i0]
 |p::ps,r::rows=>by simp[i0,dX,zY ps rows]
def BS{n:Nat}{p:Nat×Nat}(h:p∈prs n):p.1<n/\p.2<n/\p.1≠p.2:=by
 unfold prs at h;obtain⟨i,hi,h⟩:=Ug.mp h;obtain⟨j,hj,rfl⟩:=Te.mp h;have h1:=TR.mp hi;have h2:=TR.mp hj;refine⟨h1,?_,?_⟩<;>simp<;>omega
section
variable {O:M}
theorem GW:mT [.tup [.bl b,x]] O=some (.bl true,O):=by
 apply CU;unfold mT vz;refine(iy rfl).mpr ?_;show Ws (fM _ [some (.tup [.bl b,x])] O) _;have t1:k7 "tuple" (.tup [.bl b,x]) O=some (.bl true,O):=rfl;have t2:gX (.tup [.bl b,x]) O=some (.int 2,O):=rfl;have t3:fIx (.tup [.bl b,x]) (.int 0) O=some (.bl b,O):=rfl;have t4:k7 "bool" (.bl b) O=some (.bl true,O):=rfl;simp![t1,t2,t3,t4,VO];exact⟨by first|trivial|rfl,by first|trivial|rfl⟩
end
section
variable {O:M} {n k:Nat} {C CF CT:Addr}
theorem Bs(o:Option Œ):fEq (j4 o) gJ O=some (.bl o.isNone,O):=by
 have h1:("open":Str)≠"none":=by decide +kernel
 have h2:PyData.strOk "open"=true:=by decide +kernel
 have po:py 65 O gJ=some (.tuple [.str "open"]):=rfl;rcases o with _|_|i
 .show(eqD gJ gJ O).bind _=_;have:eqD gJ gJ O=some true:=by
   show((py 65 O gJ).bind fun d=>(py 65 O gJ).bind fun e=>if(d.canLay0&&e.canLay0&&decide (d.depth<=64))=true then some (PyData.eqv d e) else none)=_;rw[po];simp[PyData.canLay0,PyData.canLayAll0,PyData.depth,PyData.depthAll,PyData.eqv,PyData.eqvAll,h2]
  rw[this];rfl
 .show(eqD (dE none) gJ O).bind _=_;have:eqD (dE none) gJ O=some false:=by
   show((py 65 O<|dE none).bind fun d=>(py 65 O gJ).bind fun e=>if(d.canLay0&&e.canLay0&&decide (d.depth<=64))=true then some (PyData.eqv d e) else none)=_;rw[po,rW];simp[pE,PyData.canLay0,PyData.canLayAll0,PyData.depth,PyData.depthAll,PyData.eqv,PyData.eqvAll,h2,so2,h1,h1.symm]
  rw[this];rfl
 .show(eqD (dE<|some i) gJ O).bind _=_;have:eqD (dE<|some i) gJ O=some false:=by
   show((py 65 O<|dE<|some i).bind fun d=>(py 65 O gJ).bind fun e=>if(d.canLay0&&e.canLay0&&decide (d.depth<=64))=true then some (PyData.eqv d e) else none)=_;rw[po,rW];simp[pE,PyData.canLay0,PyData.canLayAll0,PyData.depth,PyData.depthAll,PyData.eqv,PyData.eqvAll,h2,so1]
  rw[this];rfl
theorem MW{rows:List (Bool×Pap k)}{ps:ŕ}(hl:rows.length=ps.length)(hb:rows.length<=1000):rS mT [.lst (ps.map dP),.lst (rows.map<|dR k)] O=some (.bl true,O):=by
 apply CU;unfold rS wZ;refine(iy rfl).mpr ?_;show Ws (fM _ [some (.lst<|ps.map dP),some (.lst<|rows.map<|dR k)] O) _;have t1:k7 "list" (.lst<|rows.map<|dR k) O=some (.bl true,O):=rfl;have t2:gX (.lst<|rows.map<|dR k) O=some (.int (rows.length:Int),O):=by
  show some (D.int ((rows.map<|dR k).length:Int),O)=_;simp
 have t3:gX (.lst<|ps.map dP) O=some (.int (rows.length:Int),O):=by
  show some (D.int ((ps.map dP).length:Int),O)=_;simp[hl]
 simp![t1,t2,t3,VO];rw[lM];refine⟨by simp;omega,?_⟩;refine nj (dn:=dR k) (keep:=fun _=>true) (val:=fun _=>D.bl true) (fun B=>∃o,B=[o]) (show gc none O from trivial) rows ⟨_,rfl⟩ ?_ ?_
 .rintro r hr B ⟨o,rfl⟩;simp!;refine⟨trivial,⟨_,rfl⟩,trivial,trivial,fun _=>?_⟩;have:mT [dR k r] O=some (.bl true,O):=GW;rw[this];simp!;exact⟨trivial,trivial⟩
 .have ea:((rows.filter fun _=>true).map fun _=>D.bl true)=(rows.map fun _=>true).map D.bl:=by rw[Ud.mpr nofun,To];rfl
  rw[ea];simp![mL];have:((rows.map fun _=>true).all id)=true:=by simp
  rw[this];exact⟨by first|trivial|rfl,by first|trivial|rfl⟩
def mmL(C CF CT:Addr):Nat->ŗ->M->SB
 |0=>fun _ _=>none
 |m+1=>qr (dn<|m5 C) (dn<|tT C CF CT) mY (rS mT) (mmL C CF CT m) gJ
theorem uE(hv:Ok2 n as)(hs:as.length<=1000):Wp (dn (m5 C) [.int (n:Int),.lst (as.map dA)] O) fun d Z5=>d=.bl (g7 as)/\Gr O Z5:=by
 obtain⟨Z5,e,g⟩:=BN (C:=C) (O:=O) Ls.lst hv hs;exact xc ⟨_,_,e,_,rfl,rfl,g⟩
theorem zq(hv:Ok2 n as)(hs:as.length<=1000)(hn:n<=7)(hf:gZ n as≠[]):Wp (dn (tT C CF CT) [.int (n:Int),.lst (as.map dA)] O) fun d Z5=>d=j4 (lz<|gZ n as)/\Gr O Z5:=by
 obtain⟨Z5,e,g⟩:=Ku (C:=C) (CF:=CF) (CT:=CT) (O:=O) Ls.lst hv hs hn hf;exact xc ⟨_,_,e,_,rfl,rfl,g⟩
theorem Jk(hn:n<=7)(hp:(prs n).length<=1000):∀(k:Nat) (as:ť) (p:Pap k) (O:M) (m:Nat),k<m->Ok2 n as->as.length+k<=100->Sh n k p->Wp (mmL C CF CT m [.int (n:Int),.lst (as.map dA),.int (k:Int),dPp k p] O) fun d Z5=>d=.bl (mB n k as p)/\Gr O Z5:=by
 intro k;induction k with
 |zero=>
  intro as p O m hm hv hl _;obtain⟨m,rfl⟩:∃j,m=j+1:=⟨m - 1,by omega⟩
  unfold mmL qr sd;refine(iy rfl).mpr ?_;show Ws (fH _ _ [some (.int (n:Int)),some (.lst<|as.map dA),some (.int ((0:Nat):Int)),some (.tup []),none,none,none,none,none] O) _;have e0:decide (((0:Nat):Int)<0)=false:=by simp
  have e1:decide (((0:Nat):Int)=0)=true:=by simp
  simp![e0];refine(uE hv ⋯).imp ?_;rintro _ Z4 ⟨rfl,g1⟩;have hle:mB n 0 as p=(g7 as&&(lz<|gZ n as).isNone):=rfl;cases hc:g7 as with
  |false=>
   simp![Ts];rw[hle,hc];exact⟨rfl,g1⟩
  |true=>
   have t1:∀O:M,k7 "tuple" (.tup []) O=some (.bl true,O):=fun _=>rfl;have t2:∀O:M,gX (.tup []) O=some (.int 0,O):=fun _=>rfl;simp![Td,e1,t1,t2,VO];have hf:gZ n as≠[]:=fun z=>by
    have:=(wa (n:=n) (as:=as)<|hv.inN).mp z;rw[hc] at this;cases this
   refine(zq hv ⋯ hn hf).imp ?_;rintro _ Z3 ⟨rfl,g2⟩;simp![Bs];rw[hle,hc];exact⟨rfl,g1.trans g2⟩
 |succ k ih=>
  rintro as (rows:List (Bool×Pap k)) O m hm hv hl ⟨hrl,hrs⟩;obtain⟨m,rfl⟩:∃j,m=j+1:=⟨m - 1,by omega⟩
  have hle:mB n (k+1) as rows=(g7 as&&((prs n).zip (rows:List (Bool×Pap k))).all fun x=>mB n k (as++[(x.1.1,x.1.2,x.2.1)]) x.2.2):=rfl;generalize mB n (k+1) as rows=res at hle;rw[Fg];unfold mmL qr sd;refine(iy rfl).mpr ?_;show Ws (fH _ _ [some (.int (n:Int)),some (.lst<|as.map dA),some (.int ((k+1:Nat):Int)),some (.lst<|List.map (dR k) rows),none,none,none,none,none] O) _;have e0:decide (((k+1:Nat):Int)<0)=false:=by simp;omega
  have e1:decide (((k+1:Nat):Int)=0)=false:=by simp;omega
  simp![e0];refine(uE hv ⋯).imp ?_;rintro _ Z4 ⟨rfl,g1⟩;cases hc:g7 as with
  |false=>
   simp![Ts];rw[hle,hc];exact⟨rfl,g1⟩
  |true=>
   rw[hc,Vy] at hle;simp![Td,e1,vU (show n<=100 by omega),MW hrl ⋯];have hz:ivZ (be 4) (be 3) [some (.int (n:Int)),some (.lst<|as.map dA),some (.int ((k+1:Nat):Int)),some (.lst<|List.map (dR k) rows),some (.lst<|(prs n).map dP),none,none,none,none] Z4=some ((((prs n).zip rows).map (dX k),none),Z4):=by
    show some ((i0 ((prs n).map dP) (List.map (dR k) rows),none),Z4)=_;rw[zY]
   refine ni hz ?_;simp!;refine kH (fun r B Z5=>Gr O Z5/\∃(l:List ((Nat×Nat)×(Bool×Pap k))) (o5 o6 o7 o8:ţ),r=l.map (dX k)/\B=[some (.int (n:Int)),some (.lst<|as.map dA),some (.int ((k+1:Nat):Int)),some (.lst<|List.map (dR k) rows),some (.lst<|(prs n).map dP),o5,o6,o7,o8]/\(∀x∈l,x∈(prs n).zip rows)/\res=l.all fun x=>mB n k (as++[(x.1.1,x.1.2,x.2.1)]) x.2.2) _ ⟨g1,_,_,_,_,_,rfl,rfl,fun x h=>h,hle⟩ ?_ ?_
   .rintro d r B Z3 ⟨g2,l,o5,o6,o7,o8,hl2,rfl,hm2,hres⟩;cases l with
    |nil=>cases hl2
    |cons x l=>
     rw[SN] at hl2;injection hl2 with h1 h2
     subst h1 h2;have hx:=hm2 x nofun;have hx1:=(UT (a:=x.1) (b:=x.2) hx).1;have hx2:=(UT (a:=x.1) (b:=x.2) hx).2;have ok:=BS hx1;show Wp (gy 2 _ (.tup [dP x.1,dR k x.2]) _ _) _;refine(mv rfl).mpr ?_;simp!;show Wp (gy 2 _ (.tup [.int (x.1.1:Int),.int (x.1.2:Int)]) _ _) _;refine(mv rfl).mpr ?_;simp!;show Wp (gy 2 _ (.tup [.bl x.2.1,dPp k x.2.2]) _ _) _;refine(mv rfl).mpr ?_;simp!;rw[hU nofun];simp!;rw[hW nofun];simp!;rw[xY (by simp;omega)];simp!;have ea:as.map dA++[D.tup [.int (x.1.1:Int),.int (x.1.2:Int),.bl x.2.1]]=(as++[(x.1.1,x.1.2,x.2.1)]).map dA:=by simp[dA]
     have ek:(((k+1:Nat):Int) - 1)=(k:Int):=by omega
     rw[ea,ek];have hv2:Ok2 n (as++[(x.1.1,x.1.2,x.2.1)]):=by
      intro a ha;rcases Tb.mp ha with h|h
      .exact hv a h
      .cases Tu.mp h;exact ok
     refine(ih (as++[(x.1.1,x.1.2,x.2.1)]) x.2.2 Z3 m ⋯ hv2 (by simp;omega)<|hrs x.2 hx2).imp ?_;rintro _ ZL ⟨rfl,g3⟩;rw[List.all_cons] at hres;cases hb:mB n k (as++[(x.1.1,x.1.2,x.2.1)]) x.2.2 with
     |false=>
      simp![Ts];rw[hres,hb];exact⟨rfl,g2.trans g3⟩
     |true=>
      simp![Td];rw[hb,Vy] at hres;exact⟨trivial,g2.trans g3,l,_,_,_,_,rfl,rfl,fun y hy=>hm2 y (by simp[hy]),hres⟩
   .rintro B Z3 ⟨g2,l,o5,o6,o7,o8,hl2,rfl,hm2,hres⟩;cases l with
    |cons x l=>cases hl2
    |nil=>
     simp!;rw[hres];exact⟨rfl,g2⟩
end
def dEl(l:List Œ):D:=.lst (l.map dE)
def so3:PyData.strOk "open"=true:=by decide +kernel
def Hj:fIx (.lst<|d::ds) (.int 0) O=some (d,O):=by
 rw[B4,show(0:Int)=((0:Nat):Int) from rfl,kW (j:=0) (v:=d) rfl];rfl
def NU(h0:Z7≠[])(hl:Z7.length<=100000):Wp (lE gJ [.lst (Z7.map dEl)] O) fun d Z5=>d=j4 (cL Z7)/\Z5=O:=by
 obtain⟨l0,r,rfl⟩:=UI h0;unfold lE sj;refine(iy rfl).mpr ?_;show Ws (fH _ _ [some (.lst<|(l0::r).map dEl),none] O) _;simp![SN];rw[Hj];simp![dEl];generalize hL:l0::r=Z7 at hl;have hLm:D.lst (l0.map dE)::r.map dEl=Z7.map dEl:=by rw[←hL];rfl
 refine kH (fun rr B Z5=>Z5=O/\(∃o,B=[some (.lst<|D.lst (l0.map dE)::r.map dEl),o])/\∃q,rr=q.map dE/\cL Z7=q.find? fun t=>Z7.all fun l=>decide (t∈l)) _ ⟨rfl,⟨_,rfl⟩,l0,rfl,by rw[←hL];rfl⟩ ?_ ?_
 .rintro d rr B Z5 ⟨rfl,⟨o,rfl⟩,q,e,hq⟩;cases q with
  |nil=>cases e
  |cons t q=>
   cases e;simp![lM];rw[hLm];refine⟨by simp;omega,?_⟩;show Wp (gE none _ _ _ _ [none,some (dE t)] _) _;refine nj (dn:=dEl) (fun B=>∃o,B=[o,some (dE t)]) (c:=none) trivial Z7 ⟨_,rfl⟩ (keep:=fun _=>true) (val:=fun l=>D.bl<|decide (t∈l)) ?_ ?_
   .rintro l hl B ⟨o,rfl⟩;simp![dEl,y7];exact⟨trivial,⟨_,rfl⟩,trivial,trivial,fun _=>⟨trivial,trivial⟩⟩
   .have ef:(Z7.filter fun _=>true).map (fun l=>D.bl<|decide (t∈l))=(Z7.map fun l=>decide (t∈l)).map D.bl:=by
     rw[Ud.mpr (fun _ _=>rfl),To];rfl
    rw[ef];simp![mL];have ea:(Z7.map fun l=>decide (t∈l)).all id=Z7.all fun l=>decide (t∈l):=by rw[VD];rfl
    rw[ea];rw[S0] at hq;cases hb:Z7.all fun l=>decide (t∈l) with
    |true=>
     rw[hb] at hq;simp!;rw[hq];exact⟨rfl,trivial⟩
    |false=>
     rw[hb] at hq;simp!;exact⟨trivial,trivial,⟨_,rfl⟩,q,rfl,hq⟩
 .rintro B Z5 ⟨rfl,⟨o,rfl⟩,q,e,hq⟩;cases q with
  |cons t q=>cases e
  |nil=>
   simp!;rw[hq];exact⟨rfl,trivial⟩
def dTr:Tr->D
 | .e x=>dE x
 | .ask i j a b=>.tup [.str "ask",.int (i:Int),.int (j:Int),dTr a,dTr b]
def dO:Option Tr->D
 |none=>.non
 |some t=>dTr t
def zH(t:Tr):∃ds,dTr t=.tup ds:=by
 cases t with
 |e x=>cases x<;>exact⟨_,rfl⟩
 |ask i j a b=>exact⟨_,rfl⟩
def v7{o:Option Tr}{O:M}:jz (dO o) .non O=some (.bl o.isNone,O):=by
 cases o with
 |none=>rfl
 |some t=>obtain⟨ds,e⟩:=zH t;show jz (dTr t) .non O=_;rw[e];rfl
def Ey{o:Option Tr}{O:M}:lj (dO o) .non O=some (.bl o.isSome,O):=by
 cases o with
 |none=>rfl
 |some t=>obtain⟨ds,e⟩:=zH t;show lj (dTr t) .non O=_;rw[e];rfl
def dN(l:Ŝ):D:=.tup ((l.map fun x:Nat=>(x:Int)).map D.int)
structure Sp (n:Nat) (ps:ŕ) (ss:List Ŕ) (es:List (List Œ)):Prop where
 len:es.length=ss.length
 few:ss.length<=2000
 sl:∀s∈ss,s.length=n
 pr:∀p∈ps,p.1<n/\p.2<n
 pl:ps.length<=1000
structure Sr (C:Addr) (ps:ŕ) (ss:List Ŕ) (es:List (List Œ)) (O:M) (k m:Nat) (kvs:List (NK×D)):Prop where
 obj:O[k]?=some (some<|.ins C [("pairs",.lst<|ps.map dP),("sorts",.lst<|ss.map fun s=>.lst<|s.map D.int),("ends",.lst<|es.map dEl),("searched",.ref m)])
 dic:O[m]?=some (some<|.dN kvs)
 good:∀p∈kvs,∃(left:Ŝ) (a:Nat),p.1=(left.map (fun x:Nat=>(x:Int)),(a:Int))/\p.2=dO (ge ps ss es a left)
section
variable {C:Addr} {n:Nat} {ps:ŕ} {ss:List Ŕ} {es:List (List Œ)} {O Z5:M} {k m:Nat} {kvs:List (NK×D)}
theorem Sr.ne(h:Sr C ps ss es O k m kvs):k≠m:=fun e=>by
 have h1:=h.obj;rw[e,h.dic] at h1;cases h1
theorem Sr.f1(h:Sr C ps ss es O k m kvs):iM C "pairs" (.ref k) O=some (.lst (ps.map dP),O):=ux h.obj rfl
theorem Sr.f2(h:Sr C ps ss es O k m kvs):iM C "sorts" (.ref k) O=some (.lst (ss.map fun s=>.lst<|s.map D.int),O):=ux h.obj rfl
theorem Sr.f3(h:Sr C ps ss es O k m kvs):iM C "ends" (.ref k) O=some (.lst (es.map dEl),O):=ux h.obj rfl
theorem Sr.f4(h:Sr C ps ss es O k m kvs):iM C "searched" (.ref k) O=some (.ref m,O):=ux h.obj rfl
def cc:Nat->Nat->Nat
 |0,_=>1
 |a+1,o=>1+o*(2*cc a (o - 1))
def opn(ss:List Ŕ)(left:Ŝ)(p:Nat×Nat):Bool:=!decide (alk ss p.1 p.2 left=[])&&!decide (unl ss p.1 p.2 left=[])
def op(ps:ŕ)(ss:List Ŕ)(left:Ŝ):Nat:=(ps.filter<|opn ss left).length
theorem Eb{J:Type}{f g:J->Bool}(h:∀x,f x=true->g x=true){p:J}(h1:f p=false)(h2:g p=true):∀{l:List J},p∈l->(l.filter f).length+1<=(l.filter g).length:=by
 have le:∀l:List J,(l.filter f).length<=(l.filter g).length:=by
  intro l;induction l with
  |nil=>simp
  |cons x l ih=>
   rw[Ux,Ux];cases hf:f x with
   |true=>rw[h x hf];simpa using ih
   |false=>cases hg:g x<;>simp<;>omega
 intro l;induction l with
 |nil=>intro m;cases m
 |cons x l ih=>
  intro m;rw[Ux,Ux];rcases S2.mp m with rfl|m
  .rw[h1,h2];have:=le l;simp;omega
  .have:=ih m;cases hf:f x with
   |true=>rw[h x hf];simp;omega
   |false=>cases hg:g x<;>simp<;>omega
theorem zC{f:Nat->Bool}{l1 l2:Ŝ}(hs:∀x∈l1,x∈l2)(h:l2.filter f=[]):l1.filter f=[]:=by
 rw[TY] at h⊢;exact fun x hx=>h x (hs x hx)
theorem Ba{left l1:Ŝ}(hs:∀x∈l1,x∈left)(p:Nat×Nat)(h:opn ss l1 p=true):opn ss left p=true:=by
 unfold opn at h⊢;simp only[Tq,Bool.not_eq_true',decide_eq_false_iff_not] at h⊢;exact⟨fun e=>h.1 (zC hs e),fun e=>h.2<|zC hs e⟩
theorem ME{left:Ŝ}{p:Nat×Nat}(hp:p∈ps)(ho:opn ss left p=true):op ps ss (alk ss p.1 p.2 left)+1<=op ps ss left:=by
 refine Eb (Ba fun x hx=>(Ta.mp hx).1) ?_ ho hp;have:unl ss p.1 p.2 (alk ss p.1 p.2 left)=[]:=by
  unfold unl alk;rw[TY];intro x hx;have:=(Ta.mp hx).2;simpa using this
 show opn ss (alk ss p.1 p.2 left) p=false;unfold opn;rw[S3 this];simp
theorem EU{left:Ŝ}{p:Nat×Nat}(hp:p∈ps)(ho:opn ss left p=true):op ps ss (unl ss p.1 p.2 left)+1<=op ps ss left:=by
 refine Eb (Ba fun x hx=>(Ta.mp hx).1) ?_ ho hp;have:alk ss p.1 p.2 (unl ss p.1 p.2 left)=[]:=by
  unfold unl alk;rw[TY];intro x hx;have:=(Ta.mp hx).2;simpa using this
 show opn ss (unl ss p.1 p.2 left) p=false;unfold opn;rw[S3 this];rfl
theorem Cz(a o:Nat):1<=cc a o:=by cases a<;>simp[cc]
theorem sC:∀(a:Nat) {o o':Nat},o<=o'->cc a o<=cc a o'
 |0,_,_,_=>SF _
 |a+1,o,o',h=>by
  show 1+o*(2*cc a (o - 1))<=1+o'*(2*cc a (o' - 1));have h1:=sC a (show o - 1<=o' - 1 by omega);have:=Nat.mul_le_mul h (Nat.mul_le_mul_left 2 h1);omega
abbrev key(left:Ŝ)(a:Nat):NK:=(left.map (fun x:Nat=>(x:Int)),(a:Int))
def Tw(C:Addr)(n:Nat)(ps:ŕ)(ss:List Ŕ)(es:List (List Œ))(a:Nat)(f:Fr):Prop:=
 ∀(left:Ŝ) (k m:Nat) (kvs:List (NK×D)) (O:M),Sr C ps ss es O k m kvs->left≠[]->(∀x∈left,x<ss.length)->left.length<=2000->(gS kvs (key left a)=none->kvs.length+cc a (op ps ss left)<=15000000)->
  Wp (f [.ref k,dN left,.int (a:Int)] O) fun d Z5=>d=dO (ge ps ss es a left)/\∃kvs',Sr C ps ss es Z5 k m kvs'/\kvs'.length<=kvs.length+(if(gS kvs<|key left a).isSome then 0 else cc a (op ps ss left))/\(gS kvs'<|key left a).isSome=true/\Kp m O Z5
theorem Tw.le{c:Nat}{o:ţ}{a b:Nat}(h:a<=b+(if o.isSome then 0 else c)):a<=b+c:=by
 cases o<;>simp at h<;>omega
theorem x4{ds:ŗ}{j:Nat}{v:D}{O:M}(h:ds[j]?=some v):fIx (.lst ds) (.int (j:Int)) O=some (v,O):=by
 rw[B4,kW h];rfl
theorem ix1{x:Nat}{O:M}(hx:x<ss.length):fIx (.lst<|ss.map fun s=>.lst<|s.map D.int) (.int (x:Int)) O=some (.lst ((ss.getD x []).map D.int),O):=
 x4 (by simp[hx,SK])
theorem ix2{x i:Nat}{O:M}(S:Sp n ps ss es)(hx:x<ss.length)(hi:i<n):fIx (.lst<|(ss.getD x []).map D.int) (.int (i:Int)) O=some (.int (at2 ss x i),O):=by
 have hs:=S.sl _ (TU hx);refine x4 ?_;unfold at2;simp[SK,hx,SO (show i<(ss[x]).length by omega)]
theorem DC{ds:ŗ}{O:M}:uo (.lst ds) O=some (.tup ds,O):=rfl
theorem B0{ds:ŗ}{O:M}{RB:Bool->M->Prop}:qTr RB (.tup ds) O↔RB (!ds.isEmpty) O:=⟨fun⟨_,e,q⟩=>by cases e;exact q,fun q=>⟨_,rfl,q⟩⟩
theorem rG{l:Ŝ}:(l.map fun x:Nat=>(x:Int)).map D.int=l.map fun x:Nat=>D.int (x:Int):=by rw[To];rfl
theorem isE:(!((l.map fun x:Nat=>(x:Int)).map D.int).isEmpty)=!decide (l=[]):=by cases l<;>rfl
theorem MJ{f:Fr}{a:Nat}(S:Sp n ps ss es)(T:Tw C n ps ss es a f){left:Ŝ}{p:Nat×Nat}(h:Sr C ps ss es O k m kvs)(hm:p∈ps)(hl:∀x∈left,x<ss.length)(hll:left.length<=2000)(hc:opn ss left p=true->kvs.length+2*cc a (op ps ss left - 1)<=15000000):
  Wp (p9 f C [.ref k,.int (p.1:Int),.int (p.2:Int),dN left,.int ((a+1:Nat):Int)] O) fun d Z5=>d=dO (k6 ss (ge ps ss es a) left p)/\∃kvs',Sr C ps ss es Z5 k m kvs'/\kvs'.length<=kvs.length+(if opn ss left p=true then 2*cc a (op ps ss left - 1) else 0)/\Kp m O Z5:=by
 have hp:=S.pr p hm;unfold p9 wq;refine(iy rfl).mpr ?_;show Ws (fH _ _ [some (.ref k),some (.int (p.1:Int)),some (.int (p.2:Int)),some (dN left),some (.int ((a+1:Nat):Int)),none,none,none,none] O) _;unfold dN;simp![lM,SW];refine⟨by omega,?_⟩;rw[rG];refine nj (dn:=fun x:Nat=>D.int (x:Int)) (fun B=>∃o,B=[o,some (.ref k),some (.int (p.1:Int)),some (.int (p.2:Int))]) (c:=none) trivial left ⟨_,rfl⟩ (keep:=fun x=>decide (at2 ss x p.1=at2 ss x p.2)) (val:=fun x:Nat=>D.int (x:Int)) ?_ ?_
 .rintro x hx B ⟨o,rfl⟩;simp![h.f2,ix1 (hl x hx),ix2 S (hl x hx) hp.1,ix2 S (hl x hx) hp.2];exact⟨trivial,⟨_,rfl⟩,trivial,trivial,fun _=>⟨trivial,trivial⟩⟩
 have ea:(left.filter fun x=>decide (at2 ss x p.1=at2 ss x p.2)).map (fun x:Nat=>D.int (x:Int))=((alk ss p.1 p.2 left).map fun x:Nat=>(x:Int)).map D.int:=by rw[rG];rfl
 rw[ea];simp![DC,lM,SW];refine⟨by omega,?_⟩;refine nj (dn:=fun x:Nat=>D.int (x:Int)) (fun B=>∃o,B=[o,some (.ref k),some (.int (p.1:Int)),some (.int (p.2:Int))]) (c:=none) trivial left ⟨_,rfl⟩ (keep:=fun x=>!decide (at2 ss x p.1=at2 ss x p.2)) (val:=fun x:Nat=>D.int (x:Int)) ?_ ?_
 .rintro x hx B ⟨o,rfl⟩;simp![h.f2,ix1 (hl x hx),ix2 S (hl x hx) hp.1,ix2 S (hl x hx) hp.2];exact⟨trivial,⟨_,rfl⟩,trivial,trivial,fun _=>⟨trivial,trivial⟩⟩
 have eu:(left.filter fun x=>!decide (at2 ss x p.1=at2 ss x p.2)).map (fun x:Nat=>D.int (x:Int))=((unl ss p.1 p.2 left).map fun x:Nat=>(x:Int)).map D.int:=by rw[rG];rfl
 rw[eu];have la:(alk ss p.1 p.2 left).length<=2000:=Tg (Ul _ _) hll;have lu:(unl ss p.1 p.2 left).length<=2000:=Tg (Ul _ _) hll;have ma:∀x∈alk ss p.1 p.2 left,x<ss.length:=fun x hx=>hl x (Ta.mp hx).1;have mu:∀x∈unl ss p.1 p.2 left,x<ss.length:=fun x hx=>hl x (Ta.mp hx).1;simp![DC,B0,isE];unfold k6;have hop:opn ss left p=(!decide (alk ss p.1 p.2 left=[])&&!decide (unl ss p.1 p.2 left=[])):=rfl;have hoa:=ME (ss:=ss) (left:=left) hm;have hou:=EU (ss:=ss) (left:=left) hm;generalize opn ss left p=bo at hop hoa hou hc;generalize alk ss p.1 p.2 left=al at la ma hop hoa;generalize unl ss p.1 p.2 left=un at lu mu hop hou;by_cases ha:al=[]
 .rw[S3 ha,if_pos (.inl ha)];simp![Td,Ts];exact⟨rfl,kvs,h,by omega,.refl⟩
 .rw[SJ ha];simp![Td,Ts,B0,isE];by_cases hu:un=[]
  .rw[S3 hu,if_pos (.inr hu)];simp![Td,Ts];exact⟨rfl,kvs,h,by omega,.refl⟩
  .rw[SJ hu,if_neg (fun z=>z.elim ha hu)];have hbo:bo=true:=by rw[hop,SJ ha,SJ hu];rfl
   subst hbo;have c0:=hc rfl;have c1:=sC a (show op ps ss al<=op ps ss left - 1 by have:=hoa rfl;omega);have c2:=sC a (show op ps ss un<=op ps ss left - 1 by have:=hou rfl;omega);rw[if_pos rfl];simp![Td,Ts];rw[pj h.obj rfl];simp!;have e1:((a+1:Nat):Int) - 1=(a:Int):=by omega
   rw[e1];refine(T al k m kvs O h ha ma la<|fun _=>by omega).imp ?_;rintro _ Z4 ⟨rfl,kvs1,h1,hl1,_,g1⟩;have hl1:=Tw.le hl1;simp![v7];cases hta:ge ps ss es a al with
   |none=>
    simp![Vs];exact⟨rfl,kvs1,h1,by omega,g1⟩
   |some ta=>
    simp![Vt];rw[pj h1.obj rfl];simp!;rw[e1];refine(T un k m kvs1 Z4 h1 hu mu lu<|fun _=>by omega).imp ?_;rintro _ Z3 ⟨rfl,kvs2,h2,hl2,_,g2⟩;have hl2:=Tw.le hl2;simp![v7];cases htu:ge ps ss es a un with
    |none=>
     simp![Vs];exact⟨rfl,kvs2,h2,by omega,g1.trans g2⟩
    |some tu=>
     simp![Vt];rw[hU nofun];simp!;exact⟨rfl,kvs2,h2,by omega,g1.trans g2⟩
end
def Oh{o:Option Œ}{O:M}:fNe (j4 o) gJ O=some (.bl o.isSome,O):=by
 have key:∀(x:PyData),py 65 O (j4 o)=some x->x.canLay0=true->x.depth<=64->PyData.eqv x (.tuple [.str "open"])=!o.isSome->fNe (j4 o) gJ O=some (.bl o.isSome,O):=by
  intro x h1 h2 h3 h4;have e2:py 65 O gJ=some (.tuple [.str "open"]):=rfl;have l2:(PyData.tuple [.str "open"]).canLay0=true:=by simp[PyData.canLay0,PyData.canLayAll0,so3]
  have ee:eqD (j4 o) gJ O=some (!o.isSome):=by
   have:eqD (j4 o) gJ O=(py 65 O<|j4 o).bind fun d=>(py 65 O gJ).bind fun e=>if(d.canLay0&&e.canLay0&&decide (d.depth<=64))=true then some (PyData.eqv d e) else none:=by
    cases o with
    |none=>rfl
    |some t=>cases t<;>rfl
   rw[this,h1,e2];simp only[Vb,h2,l2,S3 h3,Bool.and_self,if_true,h4]
  unfold fNe;rw[ee];simp
 cases o with
 |none=>exact key (.tuple [.str "open"]) rfl (by simp[PyData.canLay0,PyData.canLayAll0,so3]) (by simp[PyData.depth,PyData.depthAll]) (by simp[PyData.eqv,PyData.eqvAll])
 |some t=>
  refine key (pE t) (rW t) (yL t) (Tg (Ab t)<|by decide) ?_;cases t with
  |none=>simp[pE,PyData.eqv,PyData.eqvAll];decide +kernel
  |some t=>simp[pE,PyData.eqv,PyData.eqvAll]
section
variable {C:Addr} {n:Nat} {ps:ŕ} {ss:List Ŕ} {es:List (List Œ)} {O Z5:M} {k m:Nat} {kvs:List (NK×D)}
theorem ix3{x:Nat}{O:M}(hx:x<es.length):fIx (.lst<|es.map dEl) (.int (x:Int)) O=some (dEl (es.getD x []),O):=x4 (by simp[hx,SK])
abbrev vF(C:Addr)(f:Fr):Fr:=t5 (lE gJ) (p9 f C) gJ C
theorem IK{f:Fr}{a:Nat}(S:Sp n ps ss es)(T:∀b,b+1=a->Tw C n ps ss es b f){left:Ŝ}(h:Sr C ps ss es O k m kvs)(h0:left≠[])(hl:∀x∈left,x<ss.length)(hll:left.length<=2000)(hc:kvs.length+cc a (op ps ss left)<=15000000):
  Wp (vF C f [.ref k,dN left,.int (a:Int)] O) fun d Z5=>d=dO (ge ps ss es a left)/\∃kvs',Sr C ps ss es Z5 k m kvs'/\kvs'.length+1<=kvs.length+cc a (op ps ss left)/\Kp m O Z5:=by
 unfold vF t5 v3;refine(iy rfl).mpr ?_;show Ws (fH _ _ [some (.ref k),some (dN left),some (.int (a:Int)),none,none,none,none] O) _;unfold dN;simp![lM,SW];refine⟨by omega,?_⟩;rw[rG];refine nj (dn:=fun x:Nat=>D.int (x:Int)) (fun B=>∃o,B=[o,some (.ref k)]) (c:=none) trivial left ⟨_,rfl⟩ (keep:=fun _=>true) (val:=fun x:Nat=>dEl<|es.getD x []) ?_ ?_
 .rintro x hx B ⟨o,rfl⟩;simp![h.f3,ix3 (show x<es.length by rw[S.len];exact hl x hx)];exact⟨trivial,⟨_,rfl⟩,trivial,trivial,fun _=>⟨trivial,trivial⟩⟩
 have ev:(left.filter fun _=>true).map (fun x:Nat=>dEl<|es.getD x [])=(left.map fun x=>es.getD x []).map dEl:=by
  rw[Ud.mpr (fun _ _=>rfl),To];rfl
 rw[ev,←rG];refine(NU (by simpa using h0) (by simp;omega)).imp ?_;rintro _ Z4 ⟨rfl,rfl⟩;simp![Oh];have hcE:cL (left.map fun x=>es.getD x [])=cE es left:=rfl;rw[hcE];have hpos:=Cz a (op ps ss left);cases he:cE es left with
 |some x=>
  simp![Uk];have et:ge ps ss es a left=some (.e x):=by cases a<;>simp[ge,he]
  rw[et];exact⟨rfl,kvs,h,by omega,.refl⟩
 |none=>
  simp![Vu];cases a with
  |zero=>
   have et:ge ps ss es 0 left=none:=by simp[ge,he]
   rw[et];simp![Int.natCast_zero,VO];exact⟨rfl,kvs,h,by omega,.refl⟩
  |succ a=>
   have ez:decide (((a+1:Nat):Int)=0)=false:=SJ ⋯;rw[ez];simp![h.f1];have et:ge ps ss es (a+1) left=ps.findSome? (k6 ss (ge ps ss es a) left):=by simp[ge,he]
   rw[et];have hcc:cc (a+1) (op ps ss left)=1+op ps ss left*(2*cc a (op ps ss left - 1)):=rfl;rw[hcc] at hc⊢;generalize hq:cc a (op ps ss left - 1)=q at hc⊢;refine kH (fun rr B Z5=>∃qs kvs' o3 o4 o5 o6,rr=qs.map dP/\(∀p∈qs,p∈ps)/\ps.findSome? (k6 ss (ge ps ss es a) left)=qs.findSome? (k6 ss (ge ps ss es a) left)/\B=[some (.ref k),some (.tup<|(left.map fun x:Nat=>(x:Int)).map D.int),some (.int ((a+1:Nat):Int)),o3,o4,o5,o6]/\Sr C ps ss es Z5 k m kvs'/\kvs'.length+op qs ss left*(2*q)<=kvs.length+op ps ss left*(2*q)/\Kp m Z4 Z5) _ ⟨ps,kvs,_,_,_,_,rfl,fun p h=>h,rfl,rfl,h,by omega,.refl⟩ ?_ ?_
   .rintro d rr B Z3 ⟨qs,kvs2,o3,o4,o5,o6,e,hm,hf,rfl,h2,hl2,g2⟩;cases qs with
    |nil=>cases e
    |cons p qs=>
     cases e;have e3:op (p::qs) ss left*(2*q)=op qs ss left*(2*q)+(if opn ss left p=true then 2*q else 0):=by
      unfold op;rw[Ux];cases opn ss left p with
      |true=>simp[Nat.add_mul]
      |false=>simp
     rw[e3] at hl2;unfold dP;rw[mv (n:=2) rfl];simp!;rw[pj h2.obj rfl];simp!;refine(MJ S (T a rfl) (p:=p) h2 (hm p nofun) hl hll (fun ho=>by rw[hq];rw[if_pos ho] at hl2;omega)).imp ?_;rintro _ ZL ⟨rfl,kvs3,h3,hl3,g3⟩;rw[hq] at hl3;simp![Ey];rw[List.findSome?_cons] at hf;cases ha:k6 ss (ge ps ss es a) left p with
     |some t=>
      rw[ha] at hf;simp![Uk];rw[hf];exact⟨rfl,kvs3,h3,by omega,g2.trans g3⟩
     |none=>
      rw[ha] at hf;simp![Vu];exact⟨trivial,qs,kvs3,_,_,_,_,rfl,fun p h=>hm p (by simp[h]),hf,rfl,h3,by omega,g2.trans g3⟩
   .rintro B Z3 ⟨qs,kvs2,o3,o4,o5,o6,e,hm,hf,rfl,h2,hl2,g2⟩;cases qs with
    |cons p qs=>cases e
    |nil=>
     simp!;rw[hf];refine⟨rfl,kvs2,h2,?_,g2⟩;omega
abbrev vE(C:Addr)(f:Fr):Fr:=uh (vF C f) C
theorem Aj(S:Sp n ps ss es)(T:∀b,b+1=a->Tw C n ps ss es b f):Tw C n ps ss es a (vE C f):=by
 intro left k m kvs O h h0 hl hll hc;have hpos:=Cz a (op ps ss left);unfold vE uh vY;refine(iy rfl).mpr ?_;show Ws (fH _ _ [some (.ref k),some (dN left),some (.int (a:Int))] O) _;simp!;rw[hU nofun];simp![h.f4];unfold dN;rw[JC h.dic];simp!;cases hv:gS kvs (left.map (fun x:Nat=>(x:Int)),(a:Int)) with
 |some d=>
  simp![Uk,Td,h.f4];rw[hU nofun];simp!;rw[uS h.dic hv];simp!;obtain⟨left',a',e1,e2⟩:=h.good _ (v9 hv);have ea:a'=a:=by
   have:=congrArg Prod.snd e1;simp at this;omega
  have el:left'=left:=by
   have:=congrArg Prod.fst e1;simp only at this;exact(List.map_inj_right (fun x y e=>by have e:(x:Int)=(y:Int):=e;omega)).mp this.symm
  subst ea el;exact⟨e2,kvs,h,by simp,by rw[hv];rfl,.refl⟩
 |none=>
  simp![Vu,Ts];rw[pj h.obj rfl];simp!;have hc:=hc hv;refine(IK S T (left:=left) h h0 hl hll hc).imp ?_;rintro _ Z4 ⟨rfl,kvs1,h1,hl1,g1⟩;simp![h1.f4];rw[hU nofun];simp!;rw[Ov h1.dic ⋯];simp!;cases hv1:gS kvs1 (left.map (fun x:Nat=>(x:Int)),(a:Int)) with
  |none=>
   obtain⟨w1,w2⟩:=HB (d:=dO (ge ps ss es a left)) hv1;rw[w2] at w1;rw[w2];have h2:Sr C ps ss es (Z4.set m<|some<|.dN<|kvs1++[((left.map (fun x:Nat=>(x:Int)),(a:Int)),dO<|ge ps ss es a left)]) k m (kvs1++[((left.map (fun x:Nat=>(x:Int)),(a:Int)),dO<|ge ps ss es a left)]):=by
    refine⟨by rw[jo h1.ne];exact h1.obj,i8 h1.dic,?_⟩;intro p hp;rcases Tb.mp hp with hp|hp
    .exact h1.good p hp
    .rw[Tu] at hp;subst hp;exact⟨left,a,rfl,rfl⟩
   simp![h2.f4];rw[hU nofun];simp!;rw[uS h2.dic w1];simp!;exact⟨trivial,_,h2,by simp;omega,by rw[w1];rfl,g1.trans oJ⟩
  |some d1=>
   obtain⟨left',a',e1,e2⟩:=h1.good _ (v9 hv1);have ea:a'=a:=by
    have:=congrArg Prod.snd e1;simp at this;omega
   have el:left'=left:=by
    have:=congrArg Prod.fst e1;simp only at this;exact(List.map_inj_right (fun x y e=>by have e:(x:Int)=(y:Int):=e;omega)).mp this.symm
   subst ea el;have e2:d1=dO (ge ps ss es a' left'):=e2;subst e2;have hm1:=v9 hv1;generalize hK:((left'.map (fun x:Nat=>(x:Int)),(a':Int)):NK)=K at hv1 hm1;have hany:(kvs1.any fun kv=>decide (kv.1=K))=true:=by
    rw[Uh];exact⟨_,hm1,by simp⟩
   have hp2:jF kvs1 K (dO<|ge ps ss es a' left')=kvs1.map fun kv=>if kv.1=K then(kv.1,dO<|ge ps ss es a' left') else kv:=by unfold jF;rw[if_pos hany]
   rw[hp2];have hval:gS (kvs1.map fun kv=>if kv.1=K then(kv.1,dO<|ge ps ss es a' left') else kv) K=some (dO<|ge ps ss es a' left'):=by
    clear hp2 hany hm1 hl1 h1 hc;unfold gS at hv1⊢;induction kvs1 with
    |nil=>cases hv1
    |cons z r ih=>
     rw[SN];by_cases hz:z.1=K
     .simp[S0,hz]
     .simp only[S0,hz,U4,if_false] at hv1⊢;exact ih hv1
   have h2:Sr C ps ss es (Z4.set m<|some<|.dN<|kvs1.map fun kv=>if kv.1=K then(kv.1,dO<|ge ps ss es a' left') else kv) k m (kvs1.map fun kv=>if kv.1=K then(kv.1,dO<|ge ps ss es a' left') else kv):=by
    refine⟨by rw[jo h1.ne];exact h1.obj,i8 h1.dic,?_⟩;intro p hp;obtain⟨z,hz,rfl⟩:=Te.mp hp;by_cases e:z.1=K
    .rw[if_pos e];exact⟨left',a',by rw[hK];exact e,rfl⟩
    .rw[if_neg e];exact h1.good z hz
   simp![h2.f4];rw[hU nofun];simp!;rw[←hK] at hval h2⊢;rw[uS h2.dic hval];simp!;exact⟨trivial,_,h2,by simp;omega,by rw[hval];rfl,g1.trans oJ⟩
def ut(C:Addr):Nat->ŗ->M->SB
 |0=>fun _ _=>none
 |f+1=>vE C (ut C f)
theorem Dm(S:Sp n ps ss es):∀(a f:Nat),a<f->Tw C n ps ss es a (ut C f)
 |a,0,h=>by omega
 |0,f+1,_=>Aj S fun b e=>by omega
 |a+1,f+1,h=>Aj S fun b e=>by
  have:b=a:=by omega
  subst this;exact Dm S b f ⋯
end
def DM(h:s∈(Sx n m).map (·.1)):s.length=n:=by
 obtain⟨p,hp,rfl⟩:=Te.mp h;exact((nY m n p hp).len)
section
variable {C:Addr} {n:Nat} {ss:List Ŕ} {es:List (List Œ)} {O:M}
abbrev vM(C:Addr):Fr:=sR mY C
theorem pf2:ib "sorts" d [("pairs",p)]=([("pairs",p),("sorts",d)]:Ť):=by
 unfold ib;rw[if_neg (by decide +kernel)];rfl
theorem pf3:ib "ends" d [("pairs",p),("sorts",q)]=([("pairs",p),("sorts",q),("ends",d)]:Ť):=by
 unfold ib;rw[if_neg (by decide +kernel)];unfold ib;rw[if_neg (by decide +kernel)];rfl
theorem pf4:ib "searched" d [("pairs",p),("sorts",q),("ends",r)]=([("pairs",p),("sorts",q),("ends",r),("searched",d)]:Ť):=by
 unfold ib;rw[if_neg (by decide +kernel)];unfold ib;rw[if_neg (by decide +kernel)];unfold ib;rw[if_neg (by decide +kernel)];rfl
theorem JO(hn:n<=100)(hk:O[k]?=some (some<|.ins C [])):Wp (vM C [.ref k,.int (n:Int),.lst (ss.map dI),.lst (es.map dEl)] O) fun d Z5=>d=.non/\∃m,O.length<=m/\Sr C (prs n) ss es Z5 k m []/\Kp k O Z5:=by
 unfold vM sR yo;refine(iy rfl).mpr ?_;show Ws (fH _ _ [some (.ref k),some (.int (n:Int)),some (.lst<|ss.map dI),some (.lst<|es.map dEl)] O) _;simp![vU hn];rw[uq hk nofun];simp!;have h1:(O.set k<|some<|Z9.ins C<|ib "pairs" (.lst<|(prs n).map dP) [])[k]?=some (some<|Z9.ins C [("pairs",.lst<|(prs n).map dP)]):=i8 hk;have g1:Kp k O (O.set k<|some<|Z9.ins C<|ib "pairs" (.lst<|(prs n).map dP) []):=oJ;generalize O.set k (some<|Z9.ins C<|ib "pairs" (.lst<|(prs n).map dP) [])=Z4 at h1 g1;rw[uq h1 nofun];simp!;rw[pf2];have h2:=i8 (y:=some (Z9.ins C [("pairs",.lst<|(prs n).map dP),("sorts",.lst<|ss.map dI)])) h1;have g2:Kp k Z4 (Z4.set k<|some<|Z9.ins C [("pairs",.lst<|(prs n).map dP),("sorts",.lst<|ss.map dI)]):=oJ;generalize Z4.set k (some<|Z9.ins C [("pairs",.lst<|(prs n).map dP),("sorts",.lst<|ss.map dI)])=Z3 at h2 g2;rw[uq h2 nofun];simp!;rw[pf3];have h3:=i8 (y:=some (Z9.ins C [("pairs",.lst<|(prs n).map dP),("sorts",.lst<|ss.map dI),("ends",.lst<|es.map dEl)])) h2;have g3:Kp k Z3 (Z3.set k<|some<|Z9.ins C [("pairs",.lst<|(prs n).map dP),("sorts",.lst<|ss.map dI),("ends",.lst<|es.map dEl)]):=oJ;generalize Z3.set k (some<|Z9.ins C [("pairs",.lst<|(prs n).map dP),("sorts",.lst<|ss.map dI),("ends",.lst<|es.map dEl)])=ZL at h3 g3;have g03:=(g1.trans g2).trans g3;have ev:vA [some (.ref k),some (.int (n:Int)),some (.lst<|ss.map dI),some (.lst<|es.map dEl)] ZL=some (.ref ZL.length,ZL++[some (.dN [])]):=rfl;rw[ev];simp!;have h4:(ZL++[some (Z9.dN [])])[k]?=some (some<|Z9.ins C [("pairs",.lst<|(prs n).map dP),("sorts",.lst<|ss.map dI),("ends",.lst<|es.map dEl)]):=gr_app.get h3;rw[uq h4 nofun];simp!;rw[pf4];have hk3:k<ZL.length:=(SG.mp h3).1;refine⟨trivial,ZL.length,g03.len,⟨i8 h4,?_,fun p h=>by cases h⟩,(g03.trans FZ).trans oJ⟩;rw[jo ⋯];simp
theorem M6(h:B[i]?=some (some<|.int x))(hQ:Q .nx (B.set i<|some<|.int<|x+1) O):Ws (pD i yR (vC<|.int 1) B O) Q:=by
 unfold pD;rw[h];exact ws_some.mpr hQ
abbrev yI(C:Addr):Fr:=sm (vM C) (ut C 10) C
def cs(o:Nat):Nat->Nat
 |0=>0
 |a+1=>cs o a+cc a o
theorem GG(h:a<=b):cs o a<=cs o b:=by
 induction h with
 |refl=>exact SF _
 |step _ ih=>exact Tg ih (UN _ _)
theorem N6(hn:n<=100)(S:Sp n (prs n) ss es)(h0:ss≠[])(hN:N<10)(ht:ge (prs n) ss es N (List.range ss.length)=some t)(hno:∀a,a<N->ge (prs n) ss es a (List.range ss.length)=none)(hcc:cs (prs n).length (N+1)<=15000000):
  Wp (yI C [.int (n:Int),.lst (ss.map dI),.lst (es.map dEl)] O) fun d Z5=>d=.tup [.int (N:Int),dTr t]/\Gr O Z5:=by
 unfold yI sm uW;refine(iy rfl).mpr ?_;show Ws (fH _ _ [some (.int (n:Int)),some (.lst<|ss.map dI),some (.lst<|es.map dEl),none,none,none] O) _;rw[y8,zk];refine Po ?_;simp![F0];refine(JO (C:=C) (n:=n) (ss:=ss) (es:=es) (k:=O.length) hn nofun).imp ?_;rintro _ Z4 ⟨rfl,m,hml0,h1,g1⟩;have hml:O.length<=m:=by simp at hml0;omega
 have hG:Gr O Z4:=by
  refine⟨by have:=g1.len;simp at this;omega,fun j hj=>?_⟩;rw[g1.at_ j (by simp;omega) ⋯,S1 hj]
 have hlen:(List.range ss.length)≠[]:=by
  intro e;have:=congrArg List.length e;simp at this;exact h0 this
 have hlt:∀x∈List.range ss.length,x<ss.length:=fun x hx=>TR.mp hx;have hfew:(List.range ss.length).length<=2000:=by rw[T9];exact S.few
 have e5:rJ (.int (ss.length:Int)) Z4=some (dN (List.range ss.length),Z4):=by
  have hb:(0:Int)<=(ss.length:Int)/\(ss.length:Int)<=1000000:=by have:=S.few;omega
  unfold rJ;simp only;rw[if_pos hb];unfold dN gh;rw[To];simp
 simp![ER,SW,e5];refine⟨trivial,?_⟩;refine Qf (fun B Z5=>∃a kvs,a<=N/\B=[some (.int (n:Int)),some (.lst<|ss.map dI),some (.lst<|es.map dEl),some (.ref O.length),some (dN<|List.range ss.length),some (.int (a:Int))]/\Sr C (prs n) ss es Z5 O.length m kvs/\kvs.length<=cs (prs n).length a/\Gr O Z5) (fun B _=>match B with
  | [_,_,_,_,_,some (.int a)]=>N - a.toNat
  |_=>0) 1000000 ⟨0,[],by omega,rfl,h1,SF _,hG⟩ (by show N - (0:Int).toNat<1000000;omega) ?_
 rintro B Z3 ⟨a,kvs,ha,rfl,h2,hl2,g2⟩;have hca:=GG (o:=(prs n).length) (show a+1<=N+1 by omega);have hcs:cs (prs n).length (a+1)=cs (prs n).length a+cc a (prs n).length:=rfl;have hop:=sC a (show op (prs n) ss (List.range ss.length)<=(prs n).length from Ul _ _);have T:=Dm (C:=C) S a 10 ⋯;simp!;rw[pj h2.obj rfl];simp!;refine(T (List.range ss.length) O.length m kvs Z3 h2 hlen hlt hfew<|fun _=>by omega).imp ?_;rintro _ ZL ⟨rfl,kvs3,h3,hl3,hk3,g3⟩;have hl3:=Tw.le hl3;have hG3:Gr O ZL:=⟨Tg g2.len g3.len,fun j hj=>by rw[g3.at_ j (by have:=g2.len;omega) ⋯];exact g2.at_ j hj⟩
 simp![v7];by_cases hlt2:a<N
 .rw[hno a hlt2];simp only[Vs,if_true];refine M6 (x:=(a:Int)) rfl ?_;refine⟨⟨a+1,kvs3,by omega,by simp,h3,by omega,hG3⟩,?_⟩;show N - ((a:Int)+1).toNat<N - (a:Int).toNat
  omega
 .have:a=N:=by omega
  subst this;rw[ht];simp![Vt,S8,if_false];rw[pj h3.obj rfl];simp!;refine(T (List.range ss.length) O.length m kvs3 ZL h3 hlen hlt hfew (fun z=>by rw[z] at hk3;cases hk3)).imp ?_;rintro _ Zr ⟨rfl,kvs4,h4,hl4,_,g4⟩;have hG4:Gr O Zr:=⟨Tg hG3.len g4.len,fun j hj=>by rw[g4.at_ j (by have:=hG3.len;omega) ⋯];exact hG3.at_ j hj⟩
  simp!;rw[hU nofun];simp!;rw[ht];exact⟨rfl,hG4⟩
end
def msk(f:Nat->Bool):Nat->Nat
 |0=>0
 |n+1=>msk f n|||(if f n then 2^n else 0)
theorem vW(f:Nat->Bool)(x:Nat):∀n,(msk f n).testBit x=(decide (x<n)&&f x)
 |0=>by simp[msk]
 |n+1=>by
  rw[msk,Nat.testBit_or,vW f x n];have h2:(if f n then 2^n else 0:Nat).testBit x=(decide (n=x)&&f n):=by
   cases f n with
   |true=>simp[Nat.testBit_two_pow]
   |false=>simp
  rw[h2];by_cases e:n=x
  .subst e;simp
  .by_cases h:x<n
   .simp[e,h,show x<n+1 by omega]
   .simp[e,h,show ¬x<n+1 by omega]
def pmO(ps:ŕ)(ss:List Ŕ):ŕ:=ps.map fun p=>(msk (fun x=>decide (at2 ss x p.1=at2 ss x p.2)) ss.length,msk (fun x=>!decide (at2 ss x p.1=at2 ss x p.2)) ss.length)
def emO(ends:List Œ)(es:List (List Œ))(n:Nat):Ŝ:=ends.map fun e=>msk (fun x=>decide (e∈es.getD x [])) n
def Pf(ps:ŕ)(ss:List Ŕ)(es:List (List Œ))(ends:List Œ)(h:∀x,x<ss.length->∀e∈es.getD x [],e∈ends):Mk ps ss es (pmO ps ss) (emO ends es ss.length) ends:=by
 refine⟨by simp[pmO],?_,by simp[emO],?_,h⟩
 .intro k p q hp hq x hx;simp only[pmO,S6,hp,Vg,Option.some.injEq] at hq;subst hq;simp[vW,hx]
 .intro k e q he hq x hx;simp only[emO,S6,he,Vg,Option.some.injEq] at hq;subst hq;simp[vW,hx]
def fW(n m:Nat):List Ŕ:=(Sx n m).map (·.1)
def gm(n m:Nat):List (List Œ):=(fW n m).map hE
def ii(n:Nat):List Œ:=none::(List.range n).map fun t:Nat=>some (t:Int)
def NP(n:Nat):Ms (List.range n) (2^n - 1):=fun x=>by rw[TR,Nat.testBit_two_pow_sub_one];simp
def lD(hL:(fW n m).length=Z7)(h0:0<Z7)(he:((gm n m).all fun l=>l.all fun e=>decide (e∈ii n))=true)(h1:pmO (prs n) (fW n m)=pm)(h2:emO (ii n) (gm n m) Z7=em)(h3:ji pm em a (2^Z7 - 1)=true):∀b,b<=a->ge (prs n) (fW n m) (gm n m) b (List.range (fW n m).length)=none:=by
 have top:ge (prs n) (fW n m) (gm n m) a (List.range (fW n m).length)=none:=by
  have K:=Pf (prs n) (fW n m) (gm n m) (ii n) (fun x hx e h=>by
   have hx':x<(gm n m).length:=by simp[gm];exact hx
   have hm:(gm n m).getD x []∈gm n m:=by rw[SK,SO hx'];exact TU _
   have:=Tf.mp (Tf.mp he _ hm) e h;simpa using this)
  rw[hL] at K;rw[h1,h2] at K;refine none_of K a _ _ (NP _) (fun x hx=>TR.mp hx) ?_ (by rw[hL];exact h3);intro e;have:=congrArg List.length e;rw[T9,hL] at this;simp at this;omega
 intro b hb;have step:∀k,∀b,b+k=a->ge (prs n) (fW n m) (gm n m) b (List.range (fW n m).length)=none:=by
  intro k;induction k with
  |zero=>
   intro b e;have:b=a:=by omega
   subst this;exact top
  |succ k ih=>
   intro b e;exact Bz _ _ (ih (b+1) ⋯)
 exact step (a - b) b ⋯
def wfB(ps:ŕ):Tr->Bool
 | .e _=>true
 | .ask i j a b=>decide ((i,j)∈ps)&&(wfB ps a&&wfB ps b)
theorem xw:∀{t:Tr},wfB ps t=true->wf ps t
 | .e _,_=>trivial
 | .ask i j a b,h=>by
  simp only[wfB,Tq,TH] at h;exact⟨h.1,xw h.2.1,xw h.2.2⟩
def jR(n m N:Nat)(t:Tr):Bool:=wfB (prs n) t&&(decide (dep t<=N)&&((List.range (fW n m).length).all fun x=>decide (iQ ((fW n m).getD x []) t∈(gm n m).getD x [])))
structure Few (n m N:Nat):Prop where
 pos:0<(fW n m).length
 yes:∃t,ge (prs n) (fW n m) (gm n m) N (List.range (fW n m).length)=some t
 no:∀a,a<N->ge (prs n) (fW n m) (gm n m) a (List.range (fW n m).length)=none
def Ga(h:0<(fW n m).length):List.range (fW n m).length≠[]:=fun e=>by
 have:=congrArg List.length e;rw[T9] at this;simp at this;rw[this] at h;exact absurd h (by decide)
def j9(hp:0<(fW n m).length)(t:Tr)(h:jR n m N t=true):∃t,ge (prs n) (fW n m) (gm n m) N (List.range (fW n m).length)=some t:=by
 simp only[jR,Tq,TH] at h;obtain⟨h1,h2,h3⟩:=h;cases ht:ge (prs n) (fW n m) (gm n m) N (List.range (fW n m).length) with
 |some t=>exact⟨t,rfl⟩
 |none=>
  obtain⟨x,hx,q⟩:=MN N _ (Ga hp) ht t (xw h1) h2;have:=Tf.mp h3 x hx;exact absurd (by simpa using this) q
def CK:(fW 1 1).length=1:=by decide +kernel
def BM:Tr:=.e (some 0)
def Rx:jR 1 1 0 BM=true:=by decide +kernel
def Qx:Few 1 1 0:=⟨by rw[CK];decide,j9 (by rw[CK];decide) BM Rx,fun a ha=>absurd ha<|VF _⟩
def u7:(fW 2 2).length=2:=by decide +kernel
def DS:Tr:=.ask 0 1 (.e<|some 0) (.e none)
def Jm:jR 2 2 1 DS=true:=by decide +kernel
def Qr:((gm 2 2).all fun l=>l.all fun e=>decide (e∈ii 2))=true:=by decide +kernel
def Gn:pmO (prs 2) (fW 2 2)=[(1,2)]:=by decide +kernel
def Hm:emO (ii 2) (gm 2 2) 2=[2,1,1]:=by decide +kernel
def GJ:ji [(1,2)] [2,1,1] 0 (2^2 - 1)=true:=by decide +kernel
def zx:Few 2 2 1:=⟨by rw[u7];decide,j9 (by rw[u7];decide) DS Jm,fun a ha=>lD u7 (by decide) Qr Gn Hm GJ a ⋯⟩
def w5:(fW 3 3).length=5:=by decide +kernel
def Az:Tr:=.ask 0 1 (.e<|some 0) (.ask 0 2 (.e<|some 0)<|.ask 1 2 (.e<|some 1)<|.e none)
def EW:jR 3 3 3 Az=true:=by decide +kernel
def Je:((gm 3 3).all fun l=>l.all fun e=>decide (e∈ii 3))=true:=by decide +kernel
def QG:pmO (prs 3) (fW 3 3)=[(3,28),(5,26),(9,22)]:=by decide +kernel
def G6:emO (ii 3) (gm 3 3) 5=[16,7,11,13]:=by decide +kernel
def Kt:ji [(3,28),(5,26),(9,22)] [16,7,11,13] 2 (2^5 - 1)=true:=by decide +kernel
def IC:Few 3 3 3:=⟨by rw[w5];decide,j9 (by rw[w5];decide) Az EW,fun a ha=>lD w5 (by decide) Je QG G6 Kt a ⋯⟩
def wW:(fW 4 4).length=15:=by decide +kernel
def Cb:Tr:=.ask 0 1 (.ask 0 2 (.e<|some 0)<|.ask 0 3 (.e<|some 0)<|.e none) (.ask 0 2 (.ask 0 3 (.e<|some 0)<|.e none)<|.ask 1 2 (.ask 1 3 (.e<|some 1)<|.e none)<|.e none)
def RM:jR 4 4 4 Cb=true:=by decide +kernel
def JA:((gm 4 4).all fun l=>l.all fun e=>decide (e∈ii 4))=true:=by decide +kernel
def LN:pmO (prs 4) (fW 4 4)=[(31,32736),(227,32540),(2341,30426),(1795,30972),(4677,28090),(8745,24022)]:=by decide +kernel
def P2:emO (ii 4) (gm 4 4) 15=[32216,39,519,547,549]:=by decide +kernel
def Q6:ji [(31,32736),(227,32540),(2341,30426),(1795,30972),(4677,28090),(8745,24022)] [32216,39,519,547,549] 3 (2^15 - 1)=true:=by decide +kernel
def LG:Few 4 4 4:=⟨by rw[wW];decide,j9 (by rw[wW];decide) Cb RM,fun a ha=>lD wW (by decide) JA LN P2 Q6 a ⋯⟩
def xN:(fW 5 5).length=52:=by decide +kernel
def Aw:Tr:=.ask 0 1 (.ask 0 2 (.e<|some 0)<|.ask 0 3 (.e<|some 0)<|.ask 0 4 (.e<|some 0)<|.ask 2 3 (.ask 2 4 (.e<|some 2)<|.e none)<|.e none) (.ask 0 2 (.ask 0 3 (.e<|some 0)<|.ask 0 4 (.e<|some 0)<|.ask 1 3 (.ask 1 4 (.e<|some 1)<|.e none)<|.e none)<|.ask 1 3 (.ask 0 4 (.ask 1 2 (.e<|some 1)<|.e none)<|.ask 1 2 (.e<|some 1)<|.ask 1 4 (.e<|some 1)<|.e none)<|.ask 2 4 (.ask 1 2 (.e<|some 1)<|.ask 2 3 (.e<|some 2)<|.e none)<|.ask 0 3 (.ask 0 4 (.e<|some 0)<|.e none)<|.e none)
def NF:jR 5 5 6 Aw=true:=by decide +kernel
def Nd:((gm 5 5).all fun l=>l.all fun e=>decide (e∈ii 5))=true:=by decide +kernel
def OY:pmO (prs 5) (fW 5 5)=[(32767,4503599627337728),(33521695,4503599593848800),(515631186147,4503083996184348),(150120148797733,4353479478572762),(34326183967,4503565301186528),(8248218091747,4495351409278748),(300240297593125,4203359329777370),(131943274612483,4371656352758012),(600475689062981,3903123938307514),(1162227319611945,3341372307758550)]:=by decide +kernel
def PF:emO (ii 5) (gm 5 5) 52=[4467275106120704,34395884031,1105753278975,35190615802399,36320156812003,36323178875685]:=by decide +kernel
def Np:ji [(32767,4503599627337728),(33521695,4503599593848800),(515631186147,4503083996184348),(150120148797733,4353479478572762),(34326183967,4503565301186528),(8248218091747,4495351409278748),(300240297593125,4203359329777370),(131943274612483,4371656352758012),(600475689062981,3903123938307514),(1162227319611945,3341372307758550)] [4467275106120704,34395884031,1105753278975,35190615802399,36320156812003,36323178875685] 5 (2^52 - 1)=true:=by decide +kernel
def Nb:Few 5 5 6:=⟨by rw[xN];decide,j9 (by rw[xN];decide) Aw NF,fun a ha=>lD xN (by decide) Nd OY PF Np a ⋯⟩
def D4:(fW 1 2).length=1:=by decide +kernel
def zQ:Tr:=.e (some 0)
def Hg:jR 1 2 0 zQ=true:=by decide +kernel
def Hi:Few 1 2 0:=⟨by rw[D4];decide,j9 (by rw[D4];decide) zQ Hg,fun a ha=>absurd ha<|VF _⟩
def x3:(fW 3 2).length=4:=by decide +kernel
def DJ:Tr:=.ask 0 1 (.e<|some 0) (.e<|some 2)
def HR:jR 3 2 1 DJ=true:=by decide +kernel
def Mi:((gm 3 2).all fun l=>l.all fun e=>decide (e∈ii 3))=true:=by decide +kernel
def JV:pmO (prs 3) (fW 3 2)=[(3,12),(5,10),(9,6)]:=by decide +kernel
def Hu:emO (ii 3) (gm 3 2) 4=[0,7,11,13]:=by decide +kernel
def LI:ji [(3,12),(5,10),(9,6)] [0,7,11,13] 0 (2^4 - 1)=true:=by decide +kernel
def FE:Few 3 2 1:=⟨by rw[x3];decide,j9 (by rw[x3];decide) DJ HR,fun a ha=>lD x3 (by decide) Mi JV Hu LI a ⋯⟩
def yS:(fW 4 2).length=8:=by decide +kernel
def Bo:Tr:=.ask 0 1 (.ask 0 2 (.e<|some 0)<|.ask 0 3 (.e<|some 0)<|.e none) (.ask 0 2 (.ask 0 3 (.e<|some 0)<|.e none)<|.ask 0 3 (.e none)<|.e<|some 1)
def JM:jR 4 2 3 Bo=true:=by decide +kernel
def Lm:((gm 4 2).all fun l=>l.all fun e=>decide (e∈ii 4))=true:=by decide +kernel
def Hx:pmO (prs 4) (fW 4 2)=[(15,240),(51,204),(85,170),(195,60),(165,90),(153,102)]:=by decide +kernel
def Sz:emO (ii 4) (gm 4 2) 8=[104,23,135,147,149]:=by decide +kernel
def Q0:ji [(15,240),(51,204),(85,170),(195,60),(165,90),(153,102)] [104,23,135,147,149] 2 (2^8 - 1)=true:=by decide +kernel
def KB:Few 4 2 3:=⟨by rw[yS];decide,j9 (by rw[yS];decide) Bo JM,fun a ha=>lD yS (by decide) Lm Hx Sz Q0 a ⋯⟩
def yh:(fW 5 2).length=16:=by decide +kernel
def Ci:Tr:=.ask 0 1 (.ask 0 2 (.e<|some 0)<|.ask 0 3 (.e<|some 0)<|.e<|some 4) (.ask 0 2 (.ask 0 3 (.e<|some 0)<|.e<|some 4)<|.ask 0 3 (.e<|some 4)<|.e<|some 1)
def Ln:jR 5 2 3 Ci=true:=by decide +kernel
def FM:((gm 5 2).all fun l=>l.all fun e=>decide (e∈ii 5))=true:=by decide +kernel
def QD:pmO (prs 5) (fW 5 2)=[(255,65280),(3855,61680),(13107,52428),(21845,43690),(61455,4080),(52275,13260),(43605,21930),(50115,15420),(42405,23130),(39321,26214)]:=by decide +kernel
def PU:emO (ii 5) (gm 5 2) 16=[0,6015,59519,59279,56243,48597]:=by decide +kernel
def NH:ji [(255,65280),(3855,61680),(13107,52428),(21845,43690),(61455,4080),(52275,13260),(43605,21930),(50115,15420),(42405,23130),(39321,26214)] [0,6015,59519,59279,56243,48597] 2 (2^16 - 1)=true:=by decide +kernel
def Hh:Few 5 2 3:=⟨by rw[yh];decide,j9 (by rw[yh];decide) Ci Ln,fun a ha=>lD yh (by decide) FM QD PU NH a ⋯⟩
def xM:(fW 6 2).length=32:=by decide +kernel
def Cp:Tr:=.ask 0 1 (.ask 2 3 (.ask 0 2 (.e<|some 0)<|.ask 4 5 (.e<|some 4)<|.e none)<|.ask 0 4 (.e<|some 0)<|.ask 0 5 (.e<|some 0)<|.e none) (.ask 2 3 (.ask 2 4 (.e<|some 2)<|.ask 2 5 (.e<|some 2)<|.e none)<|.ask 0 2 (.ask 4 5 (.e<|some 4)<|.e none)<|.ask 4 5 (.e<|some 4)<|.e none)
def Mg:jR 6 2 4 Cp=true:=by decide +kernel
def Fu:((gm 6 2).all fun l=>l.all fun e=>decide (e∈ii 6))=true:=by decide +kernel
def Pr:pmO (prs 6) (fW 6 2)=[(65535,4294901760),(16711935,4278255360),(252645135,4042322160),(858993459,3435973836),(1431655765,2863311530),(4278190335,16776960),(4042264335,252702960),(3435934515,859032780),(2863289685,1431677610),(4027576335,267390960),(3425946675,869020620),(2857740885,1437226410),(3284386755,1010580540),(2779096485,1515870810),(2576980377,1717986918)]:=by decide +kernel
def NG:emO (ii 6) (gm 6 2) 32=[375941248,18290559,3900708735,3893854335,3783755535,3381891891,2845152597]:=by decide +kernel
def Ja:ji [(65535,4294901760),(16711935,4278255360),(252645135,4042322160),(858993459,3435973836),(1431655765,2863311530),(4278190335,16776960),(4042264335,252702960),(3435934515,859032780),(2863289685,1431677610),(4027576335,267390960),(3425946675,869020620),(2857740885,1437226410),(3284386755,1010580540),(2779096485,1515870810),(2576980377,1717986918)] [375941248,18290559,3900708735,3893854335,3783755535,3381891891,2845152597] 3 (2^32 - 1)=true:=by decide +kernel
def O2:Few 6 2 4:=⟨by rw[xM];decide,j9 (by rw[xM];decide) Cp Mg,fun a ha=>lD xM (by decide) Fu Pr NG Ja a ⋯⟩
def wA:(fW 7 2).length=64:=by decide +kernel
def AT:Tr:=.ask 0 1 (.ask 2 3 (.ask 0 2 (.e<|some 0)<|.ask 4 5 (.e<|some 4)<|.e<|some 6)<|.ask 0 4 (.e<|some 0)<|.ask 0 5 (.e<|some 0)<|.e<|some 6) (.ask 2 3 (.ask 2 4 (.e<|some 2)<|.ask 2 5 (.e<|some 2)<|.e<|some 6)<|.ask 0 2 (.ask 4 5 (.e<|some 4)<|.e<|some 6)<|.ask 4 5 (.e<|some 4)<|.e<|some 6)
def GI:jR 7 2 4 AT=true:=by decide +kernel
def Ei:((gm 7 2).all fun l=>l.all fun e=>decide (e∈ii 7))=true:=by decide +kernel
def Ik:pmO (prs 7) (fW 7 2)=[(4294967295,18446744069414584320),(281470681808895,18446462603027742720),(71777214294589695,18374966859414961920),(1085102592571150095,17361641481138401520),(3689348814741910323,14757395258967641292),(6148914691236517205,12297829382473034410),(18446462598732906495,281474976645120),(18374966855153418495,71777218556133120),(17361641477348724495,1085102596360827120),(14757395256390660915,3689348817318890700),(12297829381041378645,6148914692668172970),(18374687579166474495,72056494543077120),(17361393124654452495,1085350949055099120),(14757226376558555955,3689517697150995660),(12297735558912431445,6149008514797120170),(17298308644996116495,1148435428713435120),(14714328930390887475,3732415143318664140),(12273903644374837845,6172840429334713770),(14106333703424951235,4340410370284600380),(11936128518282651045,6510615555426900570),(11068046444225730969,7378697629483820646)]:=by decide +kernel
def Nh:emO (ii 7) (gm 7 2) 64=[0,78557353124790271,18368186717078257663,18367956918359588863,18309358446157201663,17431155488012078863,14833691363206476595,12375256076794582357]:=by decide +kernel
def Mz:ji [(4294967295,18446744069414584320),(281470681808895,18446462603027742720),(71777214294589695,18374966859414961920),(1085102592571150095,17361641481138401520),(3689348814741910323,14757395258967641292),(6148914691236517205,12297829382473034410),(18446462598732906495,281474976645120),(18374966855153418495,71777218556133120),(17361641477348724495,1085102596360827120),(14757395256390660915,3689348817318890700),(12297829381041378645,6148914692668172970),(18374687579166474495,72056494543077120),(17361393124654452495,1085350949055099120),(14757226376558555955,3689517697150995660),(12297735558912431445,6149008514797120170),(17298308644996116495,1148435428713435120),(14714328930390887475,3732415143318664140),(12273903644374837845,6172840429334713770),(14106333703424951235,4340410370284600380),(11936128518282651045,6510615555426900570),(11068046444225730969,7378697629483820646)] [0,78557353124790271,18368186717078257663,18367956918359588863,18309358446157201663,17431155488012078863,14833691363206476595,12375256076794582357] 3 (2^64 - 1)=true:=by decide +kernel
def RA:Few 7 2 4:=⟨by rw[wA];decide,j9 (by rw[wA];decide) AT GI,fun a ha=>lD wA (by decide) Ei Ik Nh Mz a ⋯⟩
def Gb:∀n<8,∀p∈prs n,p.1<n/\p.2<n:=by decide +kernel
def xo:∀n<8,(prs n).length<=1000:=by decide +kernel
def OZ{n m:Nat}(hn:n<=7):Sp n (prs n) (fW n m) (gm n m):=by
 refine⟨by simp[gm],?_,fun s hs=>DM hs,fun p hp=>Gb n ⋯ p hp,xo n ⋯⟩;have:=p0 hn m;simp only[fW,SW];omega
section
variable {C CN CT:Addr} {n m:Nat} {O:M}
abbrev ww(CT:Addr):FX:=ou j8 (.int 7) CT
theorem qa(h1:lo<=(n:Int))(h2:(n:Int)<=hi):Wp (jn CN CT [.int (n:Int),.int lo,.int hi] O) fun r Z5=>r=.ok .non/\Z5=O:=by
 unfold jn qE;refine(jq rfl).mpr ?_;show Wt (gl _ _ [some (.int (n:Int)),some (.int lo),some (.int hi)] O) _;simp!;rw[SJ ⋯];simp!;rw[SJ ⋯];simp!;exact⟨trivial,trivial⟩
theorem zK(hm:∀s∈fW n m,(gW s).length<=1000)(hn:n<=7):∀(l:List Ŕ) (o:ţ) (O:M),(∀s∈l,s∈fW n m)->
  ∃Z5,gE none (fD 0) fQ (vL jQ<|fB (be 0) fE) (l.map dI) [o] O=some ((l.map hE).map dEl,Z5)/\Gr O Z5
 | [],o,O,_=>⟨O,rfl,.refl⟩
 |s::l,o,O,h=>by
  have hs:=h s nofun;obtain⟨Z4,e1,g1⟩:=vX (s:=s) (O:=O) (by rw[DM hs];omega) (hm s hs);obtain⟨Z3,e2,g2⟩:=zK hm hn l (some<|dI s) Z4 (fun x hx=>h x<|by simp[hx]);refine⟨Z3,?_,g1.trans g2⟩;have hg:fD 0 (dI s) [o] O=some ([some (dI s)],O):=rfl;have hv:vL jQ (fB (be 0) fE) [some (dI s)] O=some (dEl (hE s),Z4):=e1;rw[SN];simp only[gE,hg,bs];show(fQ _ _).bind _=_;simp only[fQ,bs,if_true,hv,lF];rw[e2];rfl
abbrev tK(C CT:Addr):FX:=tz jQ (yI C) (ww CT)
theorem AN(hn:n<=7)(hN:N<10)(hm:∀s∈fW n m,(gW s).length<=1000)(F:Few n m N)(hcs:cs (prs n).length (N+1)<=15000000)(ht:ge (prs n) (fW n m) (gm n m) N (List.range (fW n m).length)=some t):
  Wp (tK C CT [.int (n:Int),.int (m:Int)] O) fun r Z5=>r=.ok (.tup [.int (N:Int),dTr t])/\Gr O Z5:=by
 unfold tK tz xX;refine(jq rfl).mpr ?_;show Wt (gl _ _ [some (.int (n:Int)),some (.int (m:Int)),none] O) _;simp!;have ea:ww CT [.int (n:Int),.int (m:Int)] O=some (.ok (.lst<|(fW n m).map dI),O):=by
  have:=xg (O:=O) (n:=n) (k:=(m:Int)) (C:=CT) ⋯;rw[show((m:Int)).toNat=m by omega] at this;rw[show(fW n m).map dI=(Sx n m).map dS by simp[fW,dS,Function.comp_def]];exact this
 rw[ea];simp!;rw[lM];have S:=OZ (n:=n) (m:=m) hn;refine⟨by have:=S.few;(try simp);omega,?_⟩;obtain⟨Z4,e1,g1⟩:=zK hm hn (fW n m) none O fun s hs=>hs;refine ni e1 ?_;simp!;have hne:fW n m≠[]:=List.ne_nil_of_length_pos F.pos;refine(N6 (C:=C) (O:=Z4) ⋯ S hne hN ht F.no hcs).imp ?_;rintro _ Z3 ⟨rfl,g2⟩;simp!;exact⟨trivial,g1.trans g2⟩
end
def jY{β:Type}(f:Bool->Option β):Option (Bool×β):=match f true with
 |some r=>some (true,r)
 |none=>match f false with
  |some r=>some (false,r)
  |none=>none
def l5{J β:Type}(f:J->Option β):List J->Option (List β)
 | []=>some []
 |a::l=>match f a with
  |none=>none
  |some b=>match l5 f l with
   |none=>none
   |some r=>some (b::r)
def pb(n:Nat):(k:Nat)->ť->Option (Pap k)
 |0,as=>if g7 as&&(lz<|gZ n as).isNone then some () else none
 |k+1,as=>if g7 as then(l5 (fun p=>jY fun b=>pb n k<|as++[(p.1,p.2,b)]) (prs n):Option (List<|Bool×Pap k)) else none
def dPo(k:Nat)(o:Option (Pap k)):D:=match o with
 |some p=>dPp k p
 |none=>.non
def dRo(k:Nat)(o:Option (Bool×Pap k)):D:=match o with
 |some r=>dR k r
 |none=>.non
def P0:jz .non .non O=some (.bl true,O):=rfl
def Md:lj (dPp k p) .non O=some (.bl true,O):=by cases k<;>rfl
def E8:lj .non .non O=some (.bl false,O):=rfl
def FF(h:O[k]?=some (some<|.lst ds))(hl:ds.length<1000000):jU (.ref k) y O=some (.non,O.set k<|some<|.lst<|ds++[y]):=by simp only[jU,qh h,if_pos hl,yl]
section
variable {n:Nat} {C CF CT:Addr}
theorem NQ(hl:as.length<=100)
  (hF:∀(b:Bool) (O:M),Wp (F [.int (n:Int),.lst ((as++[(i,j,b)]).map dA),.int (k:Int)] O) fun d Z5=>d=dPo k (f b)/\Gr O Z5) (O:M):
  Wp (rE F [.int (n:Int),.lst (as.map dA),.int ((k+1:Nat):Int),.int (i:Int),.int (j:Int)] O) fun d Z5=>d=dRo k (jY f)/\Gr O Z5:=by
 unfold rE yX;refine(iy rfl).mpr ?_;show Ws (fH _ _ [some (.int (n:Int)),some (.lst<|as.map dA),some (.int ((k+1:Nat):Int)),some (.int (i:Int)),some (.int (j:Int)),none,none] O) _;have ek:(((k+1:Nat):Int) - 1)=(k:Int):=by omega
 have ea:∀b:Bool,as.map dA++[D.tup [.int (i:Int),.int (j:Int),.bl b]]=(as++[(i,j,b)]).map dA:=fun b=>by simp[dA]
 simp!;rw[hU nofun];simp!;refine kH (fun r B Z5=>∃(l:ũ) (o5 o6:ţ),r=l.map D.bl/\B=[some (.int (n:Int)),some (.lst<|as.map dA),some (.int ((k+1:Nat):Int)),some (.int (i:Int)),some (.int (j:Int)),o5,o6]/\Gr O Z5/\(l=[true,false]\/(l=[false]/\f true=none)\/(l=[]/\f true=none/\f false=none))) _ ⟨[true,false],_,_,rfl,rfl,.refl,.inl rfl⟩ ?_ ?_
 .rintro d r B Z4 ⟨l,o5,o6,hr,rfl,g1,hl3⟩;cases l with
  |nil=>cases hr
  |cons b l=>
   rw[SN] at hr;injection hr with h1 h2
   subst h1 h2;simp!;rw[hU nofun];simp!;rw[hW nofun];simp!;rw[xY (by simp;omega)];simp!;rw[ea,ek];refine(hF b Z4).imp ?_;rintro _ Z3 ⟨rfl,g2⟩;have g:=g1.trans g2;cases hf:f b with
   |some p=>
    have e:jY f=some (b,p):=by
     rcases hl3 with h|⟨h,h'⟩|⟨h,_⟩
     .injection h with h1 _
      subst h1;simp only[jY,hf]
     .injection h with h1 _
      subst h1;simp only[jY,h',hf]
     .cases h
    simp![dPo,Md];rw[hU nofun];simp!;rw[e];exact⟨rfl,g⟩
   |none=>
    simp![dPo,E8];refine⟨trivial,l,_,_,rfl,rfl,g,?_⟩;rcases hl3 with h|⟨h,h'⟩|⟨h,_⟩
    .injection h with h1 h2
     subst h1 h2;exact .inr (.inl ⟨rfl,hf⟩)
    .injection h with h1 h2
     subst h1 h2;exact .inr (.inr ⟨rfl,h',hf⟩)
    .cases h
 .rintro B Z4 ⟨l,o5,o6,hr,rfl,g1,hl3⟩;cases l with
  |cons b l=>cases hr
  |nil=>
   simp!;have e:jY f=none:=by
    rcases hl3 with h|⟨h,_⟩|⟨_,h1,h2⟩
    .cases h
    .cases h
    .simp only[jY,h1,h2]
   rw[e];exact⟨rfl,g1⟩
def mmB(C CF CT:Addr):Nat->ŗ->M->SB
 |0=>fun _ _=>none
 |m+1=>qB (dn<|m5 C) (dn<|tT C CF CT) mY (rE<|mmB C CF CT m) gJ
theorem Lq(hn:n<=7)(hp:(prs n).length<=1000):∀(k:Nat) (as:ť) (O:M) (m:Nat),k<m->Ok2 n as->as.length+k<=100->Wp (mmB C CF CT m [.int (n:Int),.lst (as.map dA),.int (k:Int)] O) fun d Z5=>d=dPo k (pb n k as)/\Gr O Z5:=by
 intro k;induction k with
 |zero=>
  intro as O m hm hv hl;obtain⟨m,rfl⟩:∃j,m=j+1:=⟨m - 1,by omega⟩
  unfold mmB qB sH;refine(iy rfl).mpr ?_;show Ws (fH _ _ [some (.int (n:Int)),some (.lst<|as.map dA),some (.int ((0:Nat):Int)),none,none,none,none] O) _;have e1:decide (((0:Nat):Int)=0)=true:=by simp
  simp!;refine(uE hv ⋯).imp ?_;rintro _ Z4 ⟨rfl,g1⟩;have hle:pb n 0 as=if g7 as&&(lz<|gZ n as).isNone then some () else none:=rfl
  cases hc:g7 as with
  |false=>
   simp![Ts];rw[hle,hc];exact⟨rfl,g1⟩
  |true=>
   simp![Td,e1];have hf:gZ n as≠[]:=fun z=>by
    have:=(wa (n:=n) (as:=as)<|hv.inN).mp z;rw[hc] at this;cases this
   refine(zq hv ⋯ hn hf).imp ?_;rintro _ Z3 ⟨rfl,g2⟩;have g:=g1.trans g2;simp![Bs];rw[hle,hc];cases (lz<|gZ n as).isNone with
   |true=>
    simp!;rw[hU nofun];simp!;exact⟨rfl,g⟩
   |false=>
    simp!;exact⟨rfl,g⟩
 |succ k ih=>
  intro as O m hm hv hl;obtain⟨m,rfl⟩:∃j,m=j+1:=⟨m - 1,by omega⟩
  unfold mmB qB sH;refine(iy rfl).mpr ?_;show Ws (fH _ _ [some (.int (n:Int)),some (.lst<|as.map dA),some (.int ((k+1:Nat):Int)),none,none,none,none] O) _;have e1:decide (((k+1:Nat):Int)=0)=false:=by simp;omega
  simp!;refine(uE hv ⋯).imp ?_;rintro _ Z4 ⟨rfl,g1⟩;have hle:pb n (k+1) as=if g7 as then(l5 (fun p=>jY fun b=>pb n k<|as++[(p.1,p.2,b)]) (prs n):Option (List<|Bool×Pap k)) else none:=rfl
  generalize pb n (k+1) as=res at hle;cases hc:g7 as with
  |false=>
   simp![Ts];rw[hle,hc];exact⟨rfl,g1⟩
  |true=>
   rw[hc,if_pos rfl] at hle;simp![Td,e1];rw[KG nofun];simp![vU (show n<=100 by omega)];refine kH (fun r B Z5=>∃(l:ŕ) (rows:List (Bool×Pap k)) (o4 o5 o6:ţ),r=l.map dP/\B=[some (.int (n:Int)),some (.lst<|as.map dA),some (.int ((k+1:Nat):Int)),some (.ref Z4.length),o4,o5,o6]/\Gr Z4 Z5/\Z5[Z4.length]?=some (some<|.lst<|rows.map<|dR k)/\rows.length+l.length=(prs n).length/\(∀x∈l,x∈prs n)/\res=match l5 (fun p=>jY fun b=>pb n k<|as++[(p.1,p.2,b)]) l with
    |none=>none
    |some r=>some (rows++r:List (Bool×Pap k))) _ ⟨_,[],_,_,_,rfl,rfl,gr_app,by simp,by simp,fun x h=>h,?_⟩ ?_ ?_
   .rw[hle];cases l5 (fun p=>jY fun b=>pb n k<|as++[(p.1,p.2,b)]) (prs n)<;>rfl
   .rintro d r B Z3 ⟨l,rows,o4,o5,o6,hr,rfl,g2,hrow,hlen,hin,hres⟩;cases l with
    |nil=>cases hr
    |cons x l=>
     rw[SN] at hr;injection hr with h1 h2
     subst h1 h2;have ok:=BS (hin x nofun);show Wp (gy 2 _ (.tup [.int (x.1:Int),.int (x.2:Int)]) _ _) _;refine(mv rfl).mpr ?_;simp!;have hv2:∀b,Ok2 n (as++[(x.1,x.2,b)]):=by
      intro b a ha;rcases Tb.mp ha with h|h
      .exact hv a h
      .cases Tu.mp h;exact ok
     refine(NQ (f:=fun b=>pb n k<|as++[(x.1,x.2,b)]) ⋯ (fun b O=>ih (as++[(x.1,x.2,b)]) O m ⋯ (hv2 b) (by simp;omega)) Z3).imp ?_;rintro _ ZL ⟨rfl,g3⟩;have hrow3:ZL[Z4.length]?=some (some<|.lst<|rows.map<|dR k):=g3.get hrow;simp only[l5] at hres;cases hb:jY (fun b=>pb n k<|as++[(x.1,x.2,b)]) with
     |none=>
      rw[hb] at hres;simp![dRo,P0];rw[hres];exact⟨rfl,g1.trans<|g2.trans g3⟩
     |some q=>
      rw[hb] at hres;have hq:∀O:M,jz (dR k q) .non O=some (.bl false,O):=fun _=>rfl;simp![dRo,hq];rw[IF hrow3];simp!;rw[FF hrow3 (by simp at hlen⊢;omega)];simp!;refine⟨trivial,l,rows++[q],_,_,_,rfl,rfl,(g2.trans g3).setN (SF _),?_,by simp at hlen⊢;omega,fun y hy=>hin y (by simp[hy]),?_⟩
      .rw[i8 hrow3,Us];rfl
      .rw[hres];cases l5 (fun p=>jY fun b=>pb n k<|as++[(p.1,p.2,b)]) l with
       |none=>rfl
       |some r=>simp
   .rintro B Z3 ⟨l,rows,o4,o5,o6,hr,rfl,g2,hrow,hlen,hin,hres⟩;cases l with
    |cons x l=>cases hr
    |nil=>
     simp!;refine ni (O:=Z3.set Z4.length none) (a:=.lst (rows.map<|dR k)) ?_ ?_
     .rw[Lj];exact NN hrow
     .simp!;simp only[l5,TM] at hres;rw[hres];exact⟨rfl,g1.trans<|g2.setN<|SF _⟩
end
inductive Tz where
 |no|one (i:Int)|ask (i j:Int) (a b:Tz)
def kd(s:Ŕ)(i:Int):Int:=s.getD i.toNat 0
def led(s:Ŕ):Tz->Œ
 | .no=>none
 | .one i=>some i
 | .ask i j a b=>if kd s i=kd s j then led s a else led s b
def dpz:Tz->Nat
 | .ask _ _ a b=>max (dpz a) (dpz b)+1
 |_=>0
def inr(n:Nat)(i:Int):Prop:=0<=i/\i<(n:Int)
def nmz(n:Nat):Tz->Prop
 | .no=>True
 | .one i=>inr n i
 | .ask i j a b=>(i≠j/\inr n i/\inr n j)/\nmz n a/\nmz n b
def so4:PyData.strOk "ask"=true:=by decide +kernel
def Ak:("none":Str)≠"ask":=by decide +kernel
def D3:("one":Str)≠"ask":=by decide +kernel
section
variable {O:M}
theorem Bk:fEq (.str "ask") (.str "ask") O=some (.bl true,O):=by simp[so4]
theorem DB:fEq (.str "none") (.str "ask") O=some (.bl false,O):=by simp[so4,so2,Ak]
theorem zr:fEq (.str "one") (.str "ask") O=some (.bl false,O):=by simp[so4,so1,D3]
theorem RQ:fNe (.str "ask") (.str "ask") O=some (.bl false,O):=by simp[so4]
theorem Kf:fNe (.str "none") (.str "ask") O=some (.bl true,O):=by simp[so4,so2,Ak]
theorem NV:fNe (.str "one") (.str "ask") O=some (.bl true,O):=by simp[so4,so1,D3]
theorem me{ds:ŗ}{j:Nat}{v:D}(h:ds[j]?=some v):fIx (.tup ds) (.int (j:Int)) O=some (v,O):=by rw[QA,kW h];rfl
theorem sl_tup(h:¬(HT.sIx ds.length 0 lo=0/\HT.sIx ds.length ds.length hi=ds.length)):fSl (.tup ds) lo hi O=some (.tup (k8 ds lo hi),O):=by
 rw[Qu,if_neg h]
theorem GE{s:Ŕ}{i:Nat}(h:i<s.length):fIx (.lst<|s.map D.int) (.int (i:Int)) O=some (.int (s.getD i 0),O):=qt (by simp[h,SK])
theorem Al{s:Ŕ}{i:Int}{n:Nat}(hs:s.length=n)(h:inr n i):fIx (.lst<|s.map D.int) (.int i) O=some (.int (kd s i),O):=by
 have:=GE (O:=O) (s:=s) (i:=i.toNat) (by have:=h.1;have:=h.2;omega);rw[UP h.1] at this;exact this
theorem R6(h:Wp (ea B O) fun x O=>Wp (eb B O) fun y O=>Wp (f x y O) fun b O=>(b=.bl true/\Wp (ec B O) fun z O=>Wp (g y z O) R)\/(b=.bl false/\R (.bl false) O)):Wp (jA f g ea eb ec B O) R:=by
 refine wp_bind.mpr (h.imp fun x O h=>wp_bind.mpr<|h.imp fun y O h=>wp_bind.mpr<|h.imp fun b O h=>?_);rcases h with⟨rfl,h⟩|⟨rfl,h⟩
 .exact wp_bind.mpr h
 .exact wp_some.mpr h
theorem LH:qTr RB (.lst ds) O↔RB (!ds.isEmpty) O:=⟨fun⟨_,e,q⟩=>by cases e;exact q,fun q=>⟨_,rfl,q⟩⟩
end
def dZ:Tz->D
 | .no=>.tup [.str "none"]
 | .one i=>.tup [.str "one",.int i]
 | .ask i j a b=>.tup [.str "ask",.int i,.int j,dZ a,dZ b]
def pZ:Tz->PyData
 | .no=>.tuple [.str "none"]
 | .one i=>.tuple [.str "one",.int i]
 | .ask i j a b=>.tuple [.str "ask",.int i,.int j,pZ a,pZ b]
theorem su(O:M):∀(t:Tz) (n:Nat),dpz t+2<=n->py n O (dZ t)=some (pZ t)
 | .no,n+2,_=>rfl
 | .one i,n+2,_=>rfl
 | .ask i j a u,n+3,h=>by
  simp only[dpz] at h;have ha:=su O a (n+2) ⋯;have hu:=su O u (n+2) ⋯;show(optAll (py (n+2) O) [.str "ask",.int i,.int j,dZ a,dZ u]).bind _=_;simp only[optAll,ha,hu,Ol,JH,bs,pZ]
 | .no,0,h=>by simp at h
 | .no,1,h=>by simp at h
 | .one _,0,h=>by simp at h
 | .one _,1,h=>by simp at h
 | .ask _ _ _ _,0,h=>by simp at h
 | .ask _ _ _ _,1,h=>by simp at h
 | .ask _ _ _ _,2,h=>by simp[dpz] at h
theorem vw:∀t:Tz,(pZ t).canLay0=true
 | .no=>by simp[pZ,PyData.canLay0,PyData.canLayAll0,so2]
 | .one _=>by simp[pZ,PyData.canLay0,PyData.canLayAll0,so1]
 | .ask i j a u=>by simp[pZ,PyData.canLay0,PyData.canLayAll0,vw a,vw u,so4]
theorem uY:∀t:Tz,(pZ t).depth<=dpz t+1
 | .no=>by simp[pZ,PyData.depth,PyData.depthAll]
 | .one i=>by simp[pZ,PyData.depth,PyData.depthAll]
 | .ask i j a u=>by
  have ha:=uY a;have hu:=uY u;simp only[pZ,PyData.depth,PyData.depthAll,dpz];omega
theorem zb:∀t u:Tz,PyData.eqv (pZ t) (pZ u)=true↔t=u
 | .no,.no=>by simp[pZ,PyData.eqv,PyData.eqvAll]
 | .no,.one _=>by simp[pZ,PyData.eqv,PyData.eqvAll]
 | .no,.ask _ _ _ _=>by simp[pZ,PyData.eqv,PyData.eqvAll]
 | .one _,.no=>by simp[pZ,PyData.eqv,PyData.eqvAll]
 | .one _,.one _=>by simp[pZ,PyData.eqv,PyData.eqvAll]
 | .one _,.ask _ _ _ _=>by simp[pZ,PyData.eqv,PyData.eqvAll]
 | .ask _ _ _ _,.no=>by simp[pZ,PyData.eqv,PyData.eqvAll]
 | .ask _ _ _ _,.one _=>by simp[pZ,PyData.eqv,PyData.eqvAll]
 | .ask i j a b,.ask i' j' a' b'=>by
  have ha:=zb a a';have hb:=zb b b';simp only[pZ,PyData.eqv,PyData.eqvAll,Tq,ha,hb];simp
open Classical in
def LC{t u:Tz}{O:M}(ht:dpz t<=40)(hu:dpz u<=40):eqD (dZ t) (dZ u) O=some (decide (t=u)):=by
 have e:eqD (dZ t) (dZ u) O=(py 65 O<|dZ t).bind fun d=>(py 65 O<|dZ u).bind fun e=>if(d.canLay0&&e.canLay0&&decide (d.depth<=64))=true then some (PyData.eqv d e) else none:=by
  cases t<;>cases u<;>rfl
 have hd:=uY t;rw[e,su O t 65 ⋯,su O u 65 ⋯];simp only[bs,vw];rw[if_pos (by simp;omega)];congr 1;rw[T1,zb,TH]
open Classical in
def JD{t u:Tz}{O:M}(ht:dpz t<=40)(hu:dpz u<=40):fEq (dZ t) (dZ u) O=some (.bl (decide (t=u)),O):=by
 unfold fEq;rw[LC ht hu];rfl
section
variable {O:M} {i j:Int} {a b:Tz}
theorem z0:fIx (dZ<|.ask i j a b) (.int 0) O=some (.str "ask",O):=me (j:=0) rfl
theorem z1:fIx (dZ<|.ask i j a b) (.int 1) O=some (.int i,O):=me (j:=1) rfl
theorem z2:fIx (dZ<|.ask i j a b) (.int 2) O=some (.int j,O):=me (j:=2) rfl
theorem z3:fIx (dZ<|.ask i j a b) (.int 3) O=some (dZ a,O):=me (j:=3) rfl
theorem wM:fIx (dZ .no) (.int 0) O=some (.str "none",O):=me (j:=0) rfl
theorem xl:fIx (dZ<|.one i) (.int 0) O=some (.str "one",O):=me (j:=0) rfl
end
theorem Dg{c:BV}{sb:SV}{B:G}{O:M}{Q:Out->G->M->Prop}(I:Nat->G->M->Prop)(m N:Nat)(h0:I m B O)(hN:m<N)
  (hs:∀m B O,I m B O->Wp (c B O) fun b Z4=>if b=true then Ws (sb B Z4) fun o ZV Z3=>match o with
   | .nx=>∃m',m'<m/\I m' ZV Z3
   | .ct=>∃m',m'<m/\I m' ZV Z3
   | .bk=>Q .nx ZV Z3
   | .rt d=>Q (.rt d) ZV Z3 else Q .nx B Z4):Ws (lc c sb N B O) Q:=by
 induction N generalizing B O m with
 |zero=>omega
 |succ N ih=>
  refine ws_bind.mpr ((hs m B O h0).imp fun b Z4 h=>?_);cases b with
  |false=>exact ws_some.mpr h
  |true=>
   refine wss_bind.mpr (Ws.imp h fun o ZV Z3 h=>?_);cases o with
   |nx=>obtain⟨m',h1,h2⟩:=h;exact ih (B:=ZV) (O:=Z3) m' h2 ⋯
   |ct=>obtain⟨m',h1,h2⟩:=h;exact ih (B:=ZV) (O:=Z3) m' h2 ⋯
   |bk=>exact ws_some.mpr h
   |rt d=>exact ws_some.mpr h
section
variable {n m:Nat} {O:M}
def jg:Tz->Ŕ
 | .no=>[]
 | .one i=>[i]
 | .ask i j _ _=>[i,j]
theorem Fl(t:Tz):fSl (dZ t) (some 1) (some 3) O=some (.tup ((jg t).map D.int),O):=by
 cases t<;>rfl
theorem MM:fSl (dZ<|.ask i j a b) (some 3) none O=some (.tup [dZ a,dZ b],O):=by rfl
theorem LS:fSl (dZ<|.ask i j a b) (some 1) none O=some (.tup [.int i,.int j,dZ a,dZ b],O):=by rfl
def inB(n:Nat)(i:Int):Bool:=decide (0<=i)&&decide (i<(n:Int))
def nmB(n:Nat):Tz->Bool
 | .ask i j _ _=>!decide (i=j)&&[i,j].all (inB n)
 |t=>(jg t).all (inB n)
theorem KM(t:Tz):Wp (qg [.int (n:Int),dZ t] O) fun d Z5=>d=.bl (nmB n t)/\Z5=O:=by
 unfold qg wb;refine(iy rfl).mpr ?_;show Ws (fH _ _ [some (.int (n:Int)),some (dZ t),none] O) _;simp![Fl];have hl:(jg t).length<=2:=by cases t<;>simp[jg]
 have key:∀{R:D->M->Prop},R (.lst<|((jg t).map (inB n)).map D.bl) O->qCo ["thing"] [("many",0)] (fD 0) fQ (jA fLe fLt (vC<|.int 0) (be 0)<|be 1) [some (.int (n:Int)),some (dZ t),some (.tup<|(jg t).map D.int)] R ((jg t).map D.int,none) O:=by
  intro R hR;rw[lM];refine⟨by simp;omega,?_⟩;refine nj (dn:=D.int) (fun B=>∃o,B=[o,some (.int (n:Int))]) (c:=none) trivial (jg t) ⟨_,rfl⟩ (keep:=fun _=>true) (val:=fun i=>D.bl<|inB n i) ?_ ?_
  .rintro i hi B ⟨o,rfl⟩;simp!;refine⟨trivial,⟨_,rfl⟩,trivial,trivial,fun _=>?_⟩;refine R6 ?_;simp!;unfold inB;cases h:decide (0<=i) with
   |true=>refine .inl ⟨rfl,?_⟩;simp
   |false=>exact .inr ⟨rfl,by simp⟩
  .rw[Ud.mpr nofun];rw[To] at hR;exact hR
 cases t with
 |no=>
  simp![wM,DB];refine key ?_;simp![mL];exact⟨rfl,trivial⟩
 |one i=>
  simp![xl,zr];refine key ?_;simp![mL];refine⟨?_,trivial⟩;simp[nmB,jg]
 |ask i j a b=>
  have e0:fIx (.tup<|(jg<|.ask i j a b).map D.int) (.int 0) O=some (.int i,O):=me (j:=0) rfl;have e1:fIx (.tup<|(jg<|.ask i j a b).map D.int) (.int 1) O=some (.int j,O):=me (j:=1) rfl;simp![z0,Bk,e0,e1];by_cases h:i=j
  .rw[S3 h];simp!;exact⟨by simp[nmB,h],trivial⟩
  .rw[SJ h];simp!;refine key ?_;simp![mL];refine⟨?_,trivial⟩;simp[nmB,jg,h]
open Classical in
def brn:Tz->List Tz
 | .ask _ _ a b=>if a=b then [a] else [a,b]
 |_=>[]
theorem Ji(t:Tz):(brn t).length<=2:=by
 cases t<;>simp only[brn]<;>try split
 all_goals simp
open Classical in
theorem Sj(h:dpz t<=40):Wp (lW [dZ t] O) fun d Z5=>d=.lst ((brn t).map dZ)/\Z5=O:=by
 unfold lW yx;refine(iy rfl).mpr ?_;show Ws (fH _ _ [some (dZ t),none,none] O) _;cases t with
 |no=>
  simp![wM,Kf];rw[hW nofun];simp!;exact⟨rfl,trivial⟩
 |one i=>
  simp![xl,NV];rw[hW nofun];simp!;exact⟨rfl,trivial⟩
 |ask i j a b=>
  simp only[dpz] at h;simp![z0,RQ,MM];rw[mv (n:=2) rfl];simp!;rw[JD ⋯ ⋯];simp!;by_cases e:a=b
  .rw[S3 e];simp!;rw[hW nofun];simp!;exact⟨by simp only[brn,if_pos e];rfl,trivial⟩
  .rw[SJ e];simp!;rw[hW nofun];simp!;exact⟨by simp only[brn,if_neg e];rfl,trivial⟩
theorem Cd:inB n i=true↔inr n i:=by unfold inB inr;simp
theorem vy(t:Tz):nmz n t↔nmB n t=true/\∀u∈brn t,nmz n u:=by
 cases t with
 |no=>simp[nmz,nmB,jg,brn]
 |one i=>simp[nmz,nmB,jg,brn,Cd]
 |ask i j a b=>
  have hb:(∀u∈brn (.ask i j a b),nmz n u)↔nmz n a/\nmz n b:=by
   simp only[brn];split
   .rename_i e;subst e;simp
   .simp
  rw[hb];simp[nmz,nmB,Cd,and_assoc]
abbrev vG:Fr:=t0 qg lW
theorem Qm(h:dpz t<k)(hu:u∈brn t):dpz u<k - 1:=by
 cases t with
 |no=>cases hu
 |one i=>cases hu
 |ask i j a b=>
  simp only[dpz] at h;have:u=a\/u=b:=by
   simp only[brn] at hu;split at hu
   .simp at hu;exact .inl hu
   .simpa using hu
  rcases this with rfl|rfl<;>omega
theorem Dr(Z7:List Tz):(Z7.flatMap brn).length<=2*Z7.length:=by
 induction Z7 with
 |nil=>simp
 |cons t Z7 ih=>have:=Ji t;simp only[List.flatMap_cons,Tx,S9];omega
open Classical in
theorem Nj(h:dpz t<=18):Wp (vG [.int (n:Int),dZ t] O) fun d Z5=>d=.bl (decide (nmz n t))/\Z5=O:=by
 unfold vG t0 va;refine(iy rfl).mpr ?_;show Ws (fH _ _ [some (.int (n:Int)),some (dZ t),none] O) _;simp!;rw[hW nofun];simp!;refine Dg (fun k B Z5=>Z5=O/\∃Z7:List Tz,B=[some (.int (n:Int)),some (dZ t),some (.lst<|Z7.map dZ)]/\(nmz n t↔∀u∈Z7,nmz n u)/\(∀u∈Z7,dpz u<k)/\Z7.length*2^k<=524288/\k<=19) (dpz t+1) 1000000 ⟨rfl,[t],rfl,by simp,by simp,?_,by omega⟩ ⋯ ?_
 .have:2^(dpz t+1)<=2^19:=Ve (by decide) ⋯;simp only[U8];omega
 rintro k B Z5 ⟨rfl,Z7,rfl,hL,hd,hk,hk2⟩;have hp:1<=2^k:=Nat.one_le_two_pow;have hLl:Z7.length<=524288:=Tg (Nat.le_mul_of_pos_right _ hp) hk;simp![LH];cases Z7 with
 |nil=>
  simp![U0,List.isEmpty_nil,Td,S8,if_false];exact⟨by rw[S3 (hL.mpr nofun)],trivial⟩
 |cons u0 L0=>
  generalize hLe:u0::L0=Z7 at*;have he:(Z7.map dZ).isEmpty=false:=by rw[←hLe];rfl
  have h0:0<k:=by have:=hd u0 (by rw[←hLe];simp);omega
  simp![he,Ts,if_true,lM];refine⟨by simp;omega,?_⟩;refine nj (dn:=dZ) (fun B=>∃o,B=[o,some (.int (n:Int))]) (c:=none) trivial Z7 ⟨_,rfl⟩ (keep:=fun _=>true) (val:=fun u=>D.bl<|nmB n u) ?_ ?_
  .rintro u hu B ⟨o,rfl⟩;simp!;refine⟨trivial,⟨_,rfl⟩,trivial,trivial,fun _=>?_⟩;exact KM u
  .have e1:(Z7.filter fun _=>true).map (fun u=>D.bl<|nmB n u)=(Z7.map<|nmB n).map D.bl:=by
    rw[Ud.mpr nofun,To];rfl
   rw[e1];simp![mL];cases hall:(Z7.map<|nmB n).all id with
   |false=>
    simp![Ts];refine⟨?_,trivial⟩;rw[SJ];intro hz;rw[List.all_eq_false] at hall;obtain⟨b,hb,hb2⟩:=hall;obtain⟨u,hu,rfl⟩:=Te.mp hb;exact hb2 ((vy u).mp (hL.mp hz u hu)).1
   |true=>
    simp![Td];have hall2:∀u∈Z7,nmB n u=true:=by
     rw[Tf] at hall;exact fun u hu=>hall _ (Te.mpr ⟨u,hu,rfl⟩)
    have hc:=vd (g:=fD 0) (g2:=fD 1) (iv2:=ivL (vL lW<|fB (be 0) fE)) (te:=be 1) (dn:=dZ) (dm:=dZ) (inn:=brn) (val:=fun _ u=>dZ u)
     (fun B=>∃a b,B=[a,b]) (fun u B=>∃b,B=[some (dZ u),b]) (O:=Z5) (fun i B ⟨b,e⟩=>⟨_,_,e⟩) Z7 [none,none] ⟨_,_,rfl⟩ ?_ ?_
    .have hlen:((Z7.flatMap fun a=>(brn a).map fun u=>dZ u):ŗ).length<=1000000:=by
      rw[←VA,SW];have:=Dr Z7;have:2*Z7.length<=Z7.length*2^k:=by
       rw[VR];exact Nat.mul_le_mul_left _ (Tg (by decide:2<=2^1)<|Ve (by decide) h0)
      omega
     have hr:ivL (be 2) [some (.int (n:Int)),some (dZ t),some (.lst<|Z7.map dZ)] Z5=some ((Z7.map dZ,none),Z5):=rfl;have hcap:gA (["part","branch"]:Ŗ) [] [some (.int (n:Int)),some (dZ t),some (.lst<|Z7.map dZ)]=[none,none]:=rfl;have hv:kN ["part","branch"] [] (ivL<|be 2) (fD 0) fQ (ivL<|vL lW<|fB (be 0) fE) (fD 1) fQ (be 1) [some (.int (n:Int)),some (dZ t),some (.lst<|Z7.map dZ)] Z5=some (.lst ((Z7.flatMap brn).map dZ),Z5):=by
      rw[yf,hr,xB,hcap,hc,wL,if_pos hlen,←VA]
     rw[hv];simp!;refine⟨k - 1,by omega,trivial,Z7.flatMap brn,rfl,?_,?_,?_,by omega⟩
     .rw[hL];constructor
      .intro q u hu;obtain⟨v,hv1,hv2⟩:=Ug.mp hu;exact((vy v).mp (q v hv1)).2 u hv2
      .intro q u hu;exact(vy u).mpr ⟨hall2 u hu,fun v hv=>q v<|Ug.mpr ⟨u,hu,hv⟩⟩
     .intro u hu;obtain⟨v,hv1,hv2⟩:=Ug.mp hu;exact Qm (hd v hv1) hv2
     .have h1:=Dr Z7;have h2:(Z7.flatMap brn).length*2^(k - 1)<=2*Z7.length*2^(k - 1):=Nat.mul_le_mul_right _ h1;have h3:2*Z7.length*2^(k - 1)=Z7.length*2^k:=by
       have:2^k=2*2^(k - 1):=by rw[←Nat.pow_succ'];congr 1;omega
       rw[this,VR 2 Z7.length,Nat.mul_assoc]
      omega
    .rintro u hu B ⟨a,b,rfl⟩;refine⟨[some (dZ u),b],rfl,?_,_,rfl⟩;obtain⟨d,Z3,e,rfl,rfl⟩:=Sj (O:=Z5) (t:=u) (by have:=hd u hu;omega);have e2:vL lW (fB (be 0) fE) [some (dZ u),b] Z3=some (.lst ((brn u).map dZ),Z3):=e;unfold ivL;rw[e2];rfl
    .rintro u hu v hv B ⟨b,rfl⟩;exact⟨[some (dZ u),some (dZ v)],rfl,rfl,_,rfl⟩
theorem Q8(hs:s.length=n)(hw:nmz n t)(hd:dpz t<=40):Wp (nw [dZ t,dI s] O) fun d Z5=>d=dE (led s t)/\Z5=O:=by
 unfold nw wl;refine(iy rfl).mpr ?_;show Ws (fH _ _ [some (dZ t),some (.lst<|s.map D.int),none,none,none,none] O) _;rw[y8];refine Dg (fun m B Z5=>Z5=O/\∃u o2 o3 o4 o5,dpz u=m/\nmz n u/\led s u=led s t/\B=[some (dZ u),some (.lst<|s.map D.int),o2,o3,o4,o5]) (dpz t) 1000000 ⟨rfl,t,_,_,_,_,rfl,hw,rfl,rfl⟩ ⋯ ?_;rintro m B Z5 ⟨rfl,u,o2,o3,o4,o5,rfl,hu,he,rfl⟩;cases u with
 |no=>
  simp![wM,DB,S8,if_false];simp only[led] at he;exact⟨by rw[←he];rfl,trivial⟩
 |one i=>
  simp![xl,zr,S8,if_false];simp only[led] at he;exact⟨by rw[←he];rfl,trivial⟩
 |ask i j a b=>
  obtain⟨⟨_,hi,hj⟩,w1,w2⟩:=hu;simp![z0,Bk,if_true,LS];rw[mv (n:=4) rfl];simp![Al hs hi,Al hs hj];simp only[led] at he;by_cases hq:kd s i=kd s j
  .rw[if_pos hq] at he;rw[S3 hq];simp!;exact⟨dpz a,by simp only[dpz];omega,trivial,a,_,_,_,_,rfl,w1,he,rfl⟩
  .rw[if_neg hq] at he;rw[SJ hq];simp!;exact⟨dpz b,by simp only[dpz];omega,trivial,b,_,_,_,_,rfl,w2,he,rfl⟩
end
theorem ET{f:D->M->SB}{ev:EX}{B:G}{O:M}{R:Rs D->M->Prop}(h:Wp (ev B O) fun r O=>match r with
  | .ok d=>Wp (f d O) fun x O=>R (.ok x) O
  | .ex C=>R (.ex C) O):Wp (sB f ev B O) R:=by
 refine wp_bind.mpr (h.imp fun r O q=>?_);cases r with
 |ok d=>exact wp_bind.mpr (Wp.imp q fun _ _ q=>(wp_some (Q:=R)).mpr q)
 |ex C=>exact(wp_some (Q:=R)).mpr q
def srt(n:Nat):List Ŕ:=(Sx n n).map (·.1)
def Sv{n:Nat}{s:Ŕ}(h:s∈srt n):s.length=n:=yg h
def FG{n:Nat}(hn:n<=7):(srt n).length<=877:=by unfold srt;rw[SW];exact p0 hn n
def E9{n:Nat}(hn:n<=7){s:Ŕ}(h:s∈srt n):(gW s).length<=1000:=by
 have:=BY hn h;omega
def Fnd(n:Nat)(t:Tz):Prop:=nmz n t/\∀s∈srt n,led s t∈hE s
section
variable {C CN CT:Addr} {n:Nat} {O:M}
theorem IZ(hn:n<=7)(hw:nmz n t)(hd:dpz t<=40)(hR:∀Z5,Gr O Z5->R (((srt n).map fun s=>decide (led s t∈hE s)).map D.bl) Z5):Wp (gE none (fD 0) fQ (v2 (ki false) (vL nw<|fB (be 1)<|fB (be 0) fE)<|vL jQ<|fB (be 0) fE) ((srt n).map dI) [none,some (dZ t)] O) R:=by
 refine comp_inv (fun done r B Z5=>∃l1 l2,srt n=l1++l2/\r=l2.map dI/\done=(l1.map fun s=>decide (led s t∈hE s)).map D.bl/\(∃o,B=[o,some (dZ t)])/\Gr O Z5) _ ⟨[],srt n,rfl,rfl,rfl,⟨_,rfl⟩,.refl⟩ ?_ ?_
 .rintro done d r B Z4 ⟨l1,l2,hl,e,rfl,⟨o,rfl⟩,g1⟩;cases l2 with
  |nil=>cases e
  |cons s l2=>
   cases e;have hs:s∈srt n:=by rw[hl];simp
   have hl2:=Sv hs;simp!;show Wp _ _;refine(Q8 (n:=n) (t:=t) (s:=s) hl2 hw hd).imp ?_;rintro _ Z3 ⟨rfl,rfl⟩;simp!;obtain⟨ZL,e3,g3⟩:=vX (s:=s) (O:=Z3) ⋯ (E9 hn hs);refine ni e3 ?_;simp![y7];refine⟨trivial,l1++[s],l2,by rw[hl];simp,rfl,?_,⟨_,rfl⟩,g1.trans g3⟩;simp
 .rintro done B Z4 ⟨l1,l2,hl,e,rfl,_,g1⟩;cases l2 with
  |cons s l2=>cases e
  |nil=>
   rw[TM] at hl;rw[←hl];exact hR Z4 g1
abbrev lg(CN CT:Addr):FX:=qR vG nw jQ (jn CN CT) (ww CT) (.int 7)
abbrev fFi(CN CT:Addr):Fr:=dn (lg CN CT)
open Classical in
theorem FD(hn:n<=7)(hd:dpz t<=18):Wp (fFi CN CT [.int (n:Int),dZ t] O) fun d Z5=>d=.bl (decide (Fnd n t))/\Gr O Z5:=by
 refine xc ?_;unfold lg qR si;refine(jq rfl).mpr ?_;show Wt (gl _ _ [some (.int (n:Int)),some (dZ t)] O) _;simp!;refine(qa (n:=n) ⋯ ⋯).imp ?_;rintro _ O ⟨rfl,rfl⟩;simp!;refine(Nj (n:=n) hd).imp ?_;rintro _ O ⟨rfl,rfl⟩;by_cases hw:nmz n t
 .rw[S3 hw];simp![Td];refine ET (Ff ?_);simp!;refine ni (xg (O:=O) (n:=n) (k:=(n:Int)) (C:=CT) hn) ?_;have e1:(Sx n<|(n:Int).toNat).map dS=(srt n).map dI:=by
   unfold srt;rw[Int.toNat_natCast,To];rfl
  rw[e1];have hf:=FG hn;refine⟨_,rfl,by simp;omega,?_⟩;refine IZ hn hw ⋯ fun Z5 g=>?_;simp![mL];refine⟨_,rfl,?_,g⟩;congr 1;rw[T1,VD,Tf,TH];constructor
  .intro h;exact⟨hw,fun s hs=>by have:=h s hs;simpa using this⟩
  .intro h s hs;simpa using h.2 s hs
 .rw[SJ hw];simp![Ts];refine⟨_,rfl,?_,.refl⟩;rw[SJ fun h=>hw h.1]
end
section
variable {P:Program} {w:World} {K:Frag} {mg:ő} {base:Heap} {f:Addr} {fd:FuncData}
theorem L8:FnScope ["cell"] ["cell"] (fP<|top 58):=by lia
def yq:SV:=
  (fM<|vL jW<|fB (v2 xQ (vC<|.int 0)<|v2 j2 (be 0)<|v2 ko (vC<|.int 10)<|vC<|.int 18)<|fB (v2 j0 (v2 gK (v2 rf (be 0)<|vC<|.int 2147483629)<|vC<|.int 1)<|v1 rH<|v2 fNe (be 0)<|v2 ko (vC<|.int 10)<|vC<|.int 18) fE)
def qO:Fr:=gq 1 1 (yq)
theorem Kr{k:Nat}(F:Fun K "_law_hand" "_law_hand" (top 58) f fd) (yH:mg "int"=none) (nM:mg "max"=none):FnOk P w K mg base CX0 (k+1) f fd ["cell"] (spM K<|qO):=by
 unfold qO yq;exact gM F L8 fun cdv A outer s H E hr=>
  (fK<|fU<|wy<|fC (GR nM fJ<|kA (fA 0)<|mH fJ fJ)<|fC (tQ (js (tq (fA 0) fJ) fJ)<|Es yH<|Bq hr (fA 0)<|mH fJ fJ) fG)
theorem Dx:FnScope ["hand","many","taken"] ["hand","many"] (fP<|top 59):=by lia
def sw:SV:=
  (fH (sIf (vT<|v2 fGt (v2 fIx (be 0)<|vC<|.int 0)<|vC<|.int 0)
   (fH (fS (v2 rf (v2 fIx (be 0)<|vC<|.int 0)<|be 1)<|fD 2)
   (fH (fS (v2 xF (v2 fIx (be 0)<|vC<|.int 0)<|be 1)<|rz (be 0)<|vC<|.int 0)
   (fM<|be 2)))
   sNx)
  (fH (fS (v2 rf (v2 j0 (v2 fIx (be 0)<|vC<|.int 1)<|vC<|.int 48271)<|vC<|.int 2147483647)<|rz (be 0)<|vC<|.int 1)
  (fM<|v2 rf (v2 xF (v2 ko (v2 gK (v2 fIx (be 0)<|vC<|.int 1)<|vC<|.int 1)<|vC<|.int 7)<|vC<|.int 8)<|be 1)))
def m9:Fr:=gq 3 2 (sw)
theorem Pb{k:Nat}(F:Fun K "_law_take" "_law_take" (top 59) f fd):FnOk P w K mg base CX0 (k+1) f fd ["hand","many"] (spM K<|m9):=by
 unfold m9 sw;exact gM F Dx fun cdv A outer s H E hr=>
  (fL (gI (tH (gB (fA 0) fJ) fJ)
   (fL (gp (i:=2) Dx.nd rfl (Or.inl rfl) (tq (gB (fA 0) fJ)<|fA 1))
   (fL (sZ (BA (gB (fA 0) fJ)<|fA 1)<|BD (fA 0) fJ)
   (fK<|fU<|fA 2)))
   gC)
  (fL (sZ (tq (tQ (gB (fA 0) fJ) fJ) fJ)<|BD (fA 0) fJ)
  (fK<|fU<|tq (BA (mH (js (gB (fA 0) fJ) fJ) fJ) fJ)<|fA 1)))
theorem wm:FnScope ["caught","others","kinds"] ["caught"] (fP<|top 60):=by lia
def qP(oV:Addr->ř)(ny:Addr->ř)(nB:Addr->ř)(nP:Addr->ř)(pB:Addr->ř)(oa:Addr->ř)(oq:Addr->ř)(nS:Addr->ř)(oH:Addr->ř):SV:=
  (fH (sIf (vT<|v2 jz (be 0)<|vC .non)
   (fM<|vC<|.str "told")
   sNx)
  (fH (fS (v1 (qY [oa,pB,nP,nB,ny,oV])<|be 0)<|fD 1)
  (fH (fS (vL gf<|fB (v1 (m8 nS)<|be 0)<|fB (v1 (m8 oq)<|be 0) fE)<|fD 2)
  (fH (sIf (bOr (gG<|be 1)<|bOr (iO<|gG<|v1 (m8 oH)<|be 0)<|vT<|v2 fNe (jw uO (be 2)<|vC<|.bl true)<|vC<|.int 1)
   (fM<|vC<|.str "odd")
   sNx)
  (fM<|v2 fIx (vL gf<|fB (vC<|.str "NoThing")<|fB (vC<|.str "TooMany") fE)<|jw se (be 2)<|vC<|.bl true)))))
def mP(oV:Addr->ř)(ny:Addr->ř)(nB:Addr->ř)(nP:Addr->ř)(pB:Addr->ř)(oa:Addr->ř)(oq:Addr->ř)(nS:Addr->ř)(oH:Addr->ř):Fr:=gq 3 1 (qP oV ny nB nP pB oa oq nS oH)
theorem LQ{k:Nat}{vZ:Addr}{oV:Addr->ř}{wQ:Addr}{ny:Addr->ř}{xS:Addr}{nB:Addr->ř}{yk:Addr}{nP:Addr->ř}{wB:Addr}{pB:Addr->ř}{wz:Addr}{oa:Addr->ř}{yW:Addr}{oq:Addr->ř}{yY:Addr}{nS:Addr->ř}{oH:Addr->ř}(F:Fun K "_law_kind" "_law_kind" (top 60) f fd) (uF:mg "NoneYet"=some (.ref vZ)/\IsX K (.ref vZ) oV) (t9:mg "NoText"=some (.ref wQ)/\IsX K (.ref wQ) ny) (uA:mg "NoName"=some (.ref xS)/\IsX K (.ref xS) nB) (sJ:mg "NoForm"=some (.ref yk)/\IsX K (.ref yk) nP) (tE:mg "NoFit"=some (.ref wB)/\IsX K (.ref wB) pB) (uB:mg "NoAsk"=some (.ref wz)/\IsX K (.ref wz) oa) (sT:mg "TooMany"=some (.ref yW)/\IsX K (.ref yW) oq) (uK:mg "NoThing"=some (.ref yY)/\IsX K (.ref yY) nS) (xf:IsX K (.ty "ValueError") oH) (iU:mg "isinstance"=none) (wS:mg "ValueError"=none):FnOk P w K mg base CX0 (k+1) f fd ["caught"] (spM K<|mP oV ny nB nP pB oa oq nS oH):=by
 unfold mP qP;exact gM F wm fun cdv A outer s H E hr=>
  (fL (gI (rl (fA 0) iJ)
   (fK<|fU iq)
   gC)
  (fL (gp (i:=1) wm.nd rfl (Or.inl rfl) (So (.cons uB.2<|.cons tE.2<|.cons sJ.2<|.cons uA.2<|.cons t9.2<|.cons uF.2 .nil) iU (fA 0)<|pP (kY rfl uB.1 rfl (v:=.ref wz))<|pP (kY rfl tE.1 rfl (v:=.ref wB))<|pP (kY rfl sJ.1 rfl (v:=.ref yk))<|pP (kY rfl uA.1 rfl (v:=.ref xS))<|pP (kY rfl t9.1 rfl (v:=.ref wQ))<|pP (kY rfl uF.1 rfl (v:=.ref vZ)) KD))
  (fL (gp (i:=2) wm.nd rfl (Or.inl rfl) (gL<|fC (xb uK.2 iU (fA 0)<|kY rfl uK.1 rfl (v:=.ref yY))<|fC (xb sT.2 iU (fA 0)<|kY rfl sT.1 rfl (v:=.ref yW)) fG))
  (fL (gI (PW.pt<|ql (iX<|fA 1)<|ql (kK<|iX<|xb xf iU (fA 0)<|rg rfl wS rfl (v:=.ty "ValueError") rfl)<|uH<|lO hr (Ep (fA 2) ik) fJ)
   (fK<|fU iq)
   gC)
  (fK<|fU<|gB (gL<|fC iq<|fC iq fG)<|Sw (fA 2) ik)))))
theorem sG:FnScope ["door","many","tree","asks","paper","caught","e"] ["door","many","tree","asks","paper"] (fP<|top 61):=by lia
def wt(oP:Fr)(pJ:FX)(jK:FX)(nF:FX)(nO:FX)(pi:FX)(nQ:ś):SV:=
  (fH (fS (vC .non)<|fD 5)
  (fH (xr nQ 6
   (iD (upB<|vT<|v2 fEq (be 0)<|vC<|.int 0)
    (iV<|vLX pJ<|upL<|fB (be 1)<|fB (be 2) fE)
    (iD (upB<|vT<|v2 fEq (be 0)<|vC<|.int 1)
     (iV<|vLX jK<|upL<|fB (be 1) fE)
     (iD (upB<|vT<|v2 fEq (be 0)<|vC<|.int 2)
      (iV<|vLX nF<|upL<|fB (be 1) fE)
      (iD (upB<|vT<|v2 fEq (be 0)<|vC<|.int 3)
       (iV<|vLX nO<|upL<|fB (be 1)<|fB (be 3)<|fB (be 4) fE)
       (iV<|vLX pi<|upL<|fB (be 1) fE)))))
   (fS (be 6)<|fD 5))
  (fM<|vL oP<|fB (be 5) fE)))
def ua(oP:Fr)(pJ:FX)(jK:FX)(nF:FX)(nO:FX)(pi:FX)(nQ:ś):Fr:=gq 7 5 (wt oP pJ jK nF nO pi nQ)
theorem Ge{oP:Fr}{pJ jK nF nO pi:FX}{zX Ch qi Cy By C2 k:Nat}{T_HalfError:Addr}{nQ:ś}(F:Fun K "_law_said" "_law_said" (top 61) f fd) (uU:Df P w K mg base zX "_law_kind" ["caught"] (spM K oP)) (Ro:zX<=k) (yC:DfX P w K mg base Ch "finds_out" ["many","tree"] (spX K pJ)) (Nc:Ch<=k) (oB:DfX P w K mg base qi "fewest" ["many"] (spX K jK)) (yr:qi<=k) (xZ:DfX P w K mg base Cy "fewest_of_two" ["many"] (spX K nF)) (Mu:Cy<=k) (vP:DfX P w K mg base By "holds" ["many","asks","paper"] (spX K nO)) (Jh:By<=k) (v8:DfX P w K mg base C2 "holding_paper" ["many"] (spX K pi)) (Jw:C2<=k) (sW:mg "HalfError"=some (.ref T_HalfError)/\∀C∈nQ,PySem.W.exmOne K (.ref C) (.ref T_HalfError)=some true):FnOk P w K mg base CX0 (k+1) f fd ["door","many","tree","asks","paper"] (spM K<|ua oP pJ jK nF nO pi nQ):=by
 unfold ua wt;exact gM F sG fun cdv A outer s H E hr=>
  (fL (gp (i:=5) sG.nd rfl (Or.inl rfl) iJ)
  (fL (JJ (i:=6) ⟨rfl,rfl⟩ sG.nd rfl rfl sW.1 sW.2 (fun _ _=>
   (gY (kf (kz<|iP hr (fA 0) fJ)
    (gY<|jX<|ij yC (hr.mono Nc)<|ic<|fC (fA 1)<|fC (fA 2) fG)
    (gY (kf (kz<|iP hr (fA 0) fJ)
     (gY<|jX<|ij oB (hr.mono yr)<|ic<|fC (fA 1) fG)
     (gY (kf (kz<|iP hr (fA 0) fJ)
      (gY<|jX<|ij xZ (hr.mono Mu)<|ic<|fC (fA 1) fG)
      (gY (kf (kz<|iP hr (fA 0) fJ)
       (gY<|jX<|ij vP (hr.mono Jh)<|ic<|fC (fA 1)<|fC (fA 3)<|fC (fA 4) fG)
       (gY<|jX<|ij v8 (hr.mono Jw)<|ic<|fC (fA 1) fG)))))))))) fun _=>
   (fK<|gp (i:=5) sG.nd rfl (Or.inl rfl) (fA 6)))
  (fK<|fU<|gg uU (hr.mono Ro)<|fC (fA 5) fG)))
theorem jJ:FnScope ["script","cell","hand","far","tree","asks","paper","door","least","most","many"] ["script"] (fP<|top 62):=by lia
def yB(nv:Fr)(j7:Fr)(lU:Fr):SV:=
  (fH (iz (ivL<|v2 gK (vL gf<|fB (v2 ko (vC<|.int 10)<|vC<|.int 18) fE)<|vSl (be 0) nC<|m3<|vC<|.int 8) (fD 1)
   (fH (fS (vL nv<|fB (be 1) fE)<|fD 2)
   (fH (fS (vL j7<|fB (be 2)<|fB (v2 fIx (vL gf<|fB (vC<|.int 1)<|fB (vC<|.int 9)<|fB (v2 ko (vC<|.int 10)<|vC<|.int 20) fE)<|vL j7<|fB (be 2)<|fB (vC<|.int 3) fE) fE)<|fD 3)
   (fH (fS (v2 fIx (vL gf<|fB (vL gn<|fB (vC<|.str "none") fE)<|fB (vL gn<|fB (vC<|.str "one")<|fB (vC<|.int 0) fE)<|fB (vL gn<|fB (vC<|.str "ask")<|fB (vC<|.int 0)<|fB (vC<|.int 1)<|fB (vL gn<|fB (vC<|.str "one")<|fB (vC<|.int 0) fE)<|fB (vL gn<|fB (vC<|.str "none") fE) fE) fE)<|vL j7<|fB (be 2)<|fB (vC<|.int 3) fE)<|fD 4)
   (fH (fS (vL j7<|fB (be 2)<|fB (vC<|.int 5) fE)<|fD 5)
   (fH (fS (v2 fIx (vL gf<|fB (vL gn fE)<|fB (vL gf fE)<|fB (vL gf<|fB (vL gn<|fB (vC<|.bl true)<|fB (vL gn fE) fE) fE)<|fB (v2 j0 (vL gf<|fB (vL gn<|fB (vC<|.bl false)<|fB (vL gf fE) fE) fE)<|vC<|.int 6) fE)<|vL j7<|fB (be 2)<|fB (vC<|.int 4) fE)<|fD 6)
   (iz (ivR<|vC<|.int 5) (fD 7)
    (fH (fS (v2 fIx (vL gf<|fB (vC<|.int 0)<|fB (vC<|.int 1)<|fB (vC<|.int 1)<|fB (vC<|.int 2)<|fB (vC<|.int 2) fE)<|be 7)<|fD 8)
    (fH (fS (v2 fIx (vL gf<|fB (vC<|.int 7)<|fB (vC<|.int 5)<|fB (vC<|.int 7)<|fB (vC<|.int 4)<|fB (vC<|.int 4) fE)<|be 7)<|fD 9)
    (fH (iz (ivL<|vL gf<|fB (v2 j2 (be 8)<|vC<|.int 1)<|fB (v1 kl<|vC<|.int 1)<|fB (v2 j2 (v2 j2 (be 8)<|vC<|.int 1)<|be 3)<|fB (v1 kl<|v2 ko (vC<|.int 10)<|vC<|.int 20) fE) (fD 10)
     (sIf (vT<|v2 fNe (vL lU<|fB (be 7)<|fB (be 10)<|fB (be 4)<|fB (be 5)<|fB (be 6) fE)<|vC<|.str "NoThing")
      (fM<|vC<|.bl false)
      sNx))
    (fH (iz (ivL<|vL gf<|fB (v2 gK (be 9)<|vC<|.int 1)<|fB (vC<|.int 8)<|fB (v2 gK (v2 gK (be 9)<|vC<|.int 1)<|be 3)<|fB (v2 ko (vC<|.int 10)<|vC<|.int 20) fE) (fD 10)
     (sIf (vT<|v2 fNe (vL lU<|fB (be 7)<|fB (be 10)<|fB (be 4)<|fB (be 5)<|fB (be 6) fE)<|vC<|.str "TooMany")
      (fM<|vC<|.bl false)
      sNx))
    (iz (ivL<|vL gf<|fB (be 8)<|fB (be 9)<|fB (v2 gK (be 8)<|vL j7<|fB (be 2)<|fB (v2 j2 (v2 gK (be 9)<|vC<|.int 1)<|be 8) fE) fE) (fD 10)
     (sIf (vT<|v2 fNe (vL lU<|fB (be 7)<|fB (be 10)<|fB (vL gn<|fB (vC<|.str "none") fE)<|fB (vC<|.int 0)<|fB (vL gn fE) fE)<|vC<|.str "told")
      (fM<|vC<|.bl false)
      sNx)))))))))))))
  (fM<|vC<|.bl true))
def uc(nv:Fr)(j7:Fr)(lU:Fr):Fr:=gq 11 1 (yB nv j7 lU)
theorem R3{nv j7 lU:Fr}{DI DA Dd k:Nat}(F:Fun K "law" "law" (top 62) f fd) (vh:Df P w K mg base DI "_law_hand" ["cell"] (spM K nv)) (Hb:DI<=k) (my:Df P w K mg base DA "_law_take" ["hand","many"] (spM K j7)) (oI:DA<=k) (qw:Df P w K mg base Dd "_law_said" ["door","many","tree","asks","paper"] (spM K lU)) (w6:Dd<=k) (iS:mg "range"=none):FnOk P w K mg base CX0 (k+1) f fd ["script"] (spM K<|uc nv j7 lU):=by
 unfold uc yB;refine gM F jJ fun cdv A outer s H E hr=>?_;refine fL ?_ ?_
 .refine i5 ?_ ?_ ?_ ?_ ?_
  .exact Tc
  .exact rfl
  .refine ie ?_;refine js ?_ ?_
   .refine gL ?_;refine fC ?_ ?_
    .exact(mH fJ fJ)
    exact fG
   exact(sD (fA 0) xx<|rP fJ)
  .exact(fT (i:=1) jJ.nd rfl (Or.inl rfl))
  refine fL ?_ ?_
  .refine gp (i:=2) ?_ ?_ ?_ ?_
   .exact jJ.nd
   .exact rfl
   .exact(Or.inl rfl)
   refine gg vh (hr.mono Hb) ?_;refine fC ?_ ?_
   .exact(fA 1)
   exact fG
  refine fL ?_ ?_
  .refine gp (i:=3) ?_ ?_ ?_ ?_
   .exact jJ.nd
   .exact rfl
   .exact(Or.inl rfl)
   refine gg my (hr.mono oI) ?_;refine fC ?_ ?_
   .exact(fA 2)
   refine fC ?_ ?_
   .refine gB ?_ ?_
    .refine gL ?_;refine fC ?_ ?_
     .exact fJ
     refine fC ?_ ?_
     .exact fJ
     refine fC ?_ ?_
     .exact(mH fJ fJ)
     exact fG
    refine gg my (hr.mono oI) ?_;refine fC ?_ ?_
    .exact(fA 2)
    refine fC ?_ ?_
    .exact fJ
    exact fG
   exact fG
  refine fL ?_ ?_
  .refine gp (i:=4) ?_ ?_ ?_ ?_
   .exact jJ.nd
   .exact rfl
   .exact(Or.inl rfl)
   refine gB ?_ ?_
   .refine gL ?_;refine fC ?_ ?_
    .refine g5 ?_;refine fC ?_ ?_
     .exact iq
     exact fG
    refine fC ?_ ?_
    .refine g5 ?_;refine fC ?_ ?_
     .exact iq
     refine fC ?_ ?_
     .exact fJ
     exact fG
    refine fC ?_ ?_
    .refine g5 ?_;refine fC ?_ ?_
     .exact iq
     refine fC ?_ ?_
     .exact fJ
     refine fC ?_ ?_
     .exact fJ
     refine fC ?_ ?_
     .refine g5 ?_;refine fC ?_ ?_
      .exact iq
      refine fC ?_ ?_
      .exact fJ
      exact fG
     refine fC ?_ ?_
     .refine g5 ?_;refine fC ?_ ?_
      .exact iq
      exact fG
     exact fG
    exact fG
   refine gg my (hr.mono oI) ?_;refine fC ?_ ?_
   .exact(fA 2)
   refine fC ?_ ?_
   .exact fJ
   exact fG
  refine fL ?_ ?_
  .refine gp (i:=5) ?_ ?_ ?_ ?_
   .exact jJ.nd
   .exact rfl
   .exact(Or.inl rfl)
   refine gg my (hr.mono oI) ?_;refine fC ?_ ?_
   .exact(fA 2)
   refine fC ?_ ?_
   .exact fJ
   exact fG
  refine fL ?_ ?_
  .refine gp (i:=6) ?_ ?_ ?_ ?_
   .exact jJ.nd
   .exact rfl
   .exact(Or.inl rfl)
   refine gB ?_ ?_
   .refine gL ?_;refine fC ?_ ?_
    .refine g5 ?_;exact fG
    refine fC ?_ ?_
    .refine gL ?_;exact fG
    refine fC ?_ ?_
    .refine gL ?_;refine fC ?_ ?_
     .refine g5 ?_;refine fC ?_ ?_
      .exact ik
      refine fC ?_ ?_
      .refine g5 ?_;exact fG
      exact fG
     exact fG
    refine fC ?_ ?_
    .refine tQ ?_ ?_
     .refine gL ?_;refine fC ?_ ?_
      .refine g5 ?_;refine fC ?_ ?_
       .exact ik
       refine fC ?_ ?_
       .refine gL ?_;exact fG
       exact fG
      exact fG
     exact fJ
    exact fG
   refine gg my (hr.mono oI) ?_;refine fC ?_ ?_
   .exact(fA 2)
   refine fC ?_ ?_
   .exact fJ
   exact fG
  refine fK ?_;refine i5 ?_ ?_ ?_ ?_ ?_
  .exact Tc
  .exact rfl
  .exact(xA iS fJ)
  .exact(fT (i:=7) jJ.nd rfl (Or.inl rfl))
  refine fL ?_ ?_
  .refine gp (i:=8) ?_ ?_ ?_ ?_
   .exact jJ.nd
   .exact rfl
   .exact(Or.inl rfl)
   refine gB ?_ ?_
   .refine gL ?_;refine fC ?_ ?_
    .exact fJ
    refine fC ?_ ?_
    .exact fJ
    refine fC ?_ ?_
    .exact fJ
    refine fC ?_ ?_
    .exact fJ
    refine fC ?_ ?_
    .exact fJ
    exact fG
   exact(fA 7)
  refine fL ?_ ?_
  .refine gp (i:=9) ?_ ?_ ?_ ?_
   .exact jJ.nd
   .exact rfl
   .exact(Or.inl rfl)
   refine gB ?_ ?_
   .refine gL ?_;refine fC ?_ ?_
    .exact fJ
    refine fC ?_ ?_
    .exact fJ
    refine fC ?_ ?_
    .exact fJ
    refine fC ?_ ?_
    .exact fJ
    refine fC ?_ ?_
    .exact fJ
    exact fG
   exact(fA 7)
  refine fL ?_ ?_
  .refine i5 ?_ ?_ ?_ ?_ ?_
   .exact Tc
   .exact rfl
   .refine ie ?_;refine gL ?_;refine fC ?_ ?_
    .exact(kA (fA 8) fJ)
    refine fC ?_ ?_
    .exact(vO fJ)
    refine fC ?_ ?_
    .exact(kA (kA (fA 8) fJ)<|fA 3)
    refine fC ?_ ?_
    .exact(vO<|mH fJ fJ)
    exact fG
   .exact(fT (i:=10) jJ.nd rfl (Or.inl rfl))
   refine fK ?_;refine gI ?_ ?_ ?_
   .refine lO hr ?_ ?_
    .refine gg qw (hr.mono w6) ?_;refine fC ?_ ?_
     .exact(fA 7)
     refine fC ?_ ?_
     .exact(fA 10)
     refine fC ?_ ?_
     .exact(fA 4)
     refine fC ?_ ?_
     .exact(fA 5)
     refine fC ?_ ?_
     .exact(fA 6)
     exact fG
    exact iq
   .refine fK ?_;refine fU ?_;exact ik
   exact gC
  refine fL ?_ ?_
  .refine i5 ?_ ?_ ?_ ?_ ?_
   .exact Tc
   .exact rfl
   .refine ie ?_;refine gL ?_;refine fC ?_ ?_
    .refine js ?_ ?_
     .exact(fA 9)
     exact fJ
    refine fC ?_ ?_
    .exact fJ
    refine fC ?_ ?_
    .refine js ?_ ?_
     .refine js ?_ ?_
      .exact(fA 9)
      exact fJ
     exact(fA 3)
    refine fC ?_ ?_
    .exact(mH fJ fJ)
    exact fG
   .exact(fT (i:=10) jJ.nd rfl (Or.inl rfl))
   refine fK ?_;refine gI ?_ ?_ ?_
   .refine lO hr ?_ ?_
    .refine gg qw (hr.mono w6) ?_;refine fC ?_ ?_
     .exact(fA 7)
     refine fC ?_ ?_
     .exact(fA 10)
     refine fC ?_ ?_
     .exact(fA 4)
     refine fC ?_ ?_
     .exact(fA 5)
     refine fC ?_ ?_
     .exact(fA 6)
     exact fG
    exact iq
   .refine fK ?_;refine fU ?_;exact ik
   exact gC
  refine fK ?_;refine i5 ?_ ?_ ?_ ?_ ?_
  .exact Tc
  .exact rfl
  .refine ie ?_;refine gL ?_;refine fC ?_ ?_
   .exact(fA 8)
   refine fC ?_ ?_
   .exact(fA 9)
   refine fC ?_ ?_
   .refine js ?_ ?_
    .exact(fA 8)
    refine gg my (hr.mono oI) ?_;refine fC ?_ ?_
    .exact(fA 2)
    refine fC ?_ ?_
    .exact(kA (js (fA 9) fJ)<|fA 8)
    exact fG
   exact fG
  .exact(fT (i:=10) jJ.nd rfl (Or.inl rfl))
  refine fK ?_;refine gI ?_ ?_ ?_
  .refine lO hr ?_ ?_
   .refine gg qw (hr.mono w6) ?_;refine fC ?_ ?_
    .exact(fA 7)
    refine fC ?_ ?_
    .exact(fA 10)
    refine fC ?_ ?_
    .refine g5 ?_;refine fC ?_ ?_
     .exact iq
     exact fG
    refine fC ?_ ?_
    .exact fJ
    refine fC ?_ ?_
    .refine g5 ?_;exact fG
    exact fG
   exact iq
  .refine fK ?_;refine fU ?_;exact ik
  exact gC
 refine fK ?_;refine fU ?_;exact ik
end
def Sm(i:Int):Prop:=i.natAbs<2^100
def Sm.log(h:Sm i):i.natAbs.log2<1920:=by
 by_cases h0:i.natAbs=0
 .rw[h0];decide
 .exact(Nat.log2_lt h0).mpr (SU h<|Ve (by decide)<|by decide)
section
variable {CS C CF CT:Addr} {O:M} {n:Nat} {m lo hi:Int}
theorem sV(h:ea B O=some (.int i,O))(hs:Sm i):mD (ea::l) B O=mD l B O:=by
 show(ea B O).bind _=_;rw[h,bs];show(if i.natAbs.log2<1920 then _ else none)=_;rw[if_pos hs.log]
theorem Ly(hm:Sm m)(hl:Sm lo)(h:m<lo):Wp (jn C CT [.int m,.int lo,.int hi] O) fun r Z5=>r=.ex C/\Z5=O:=by
 unfold jn qE;refine(jq rfl).mpr ?_;show Wt (gl _ _ [some (.int m),some (.int lo),some (.int hi)] O) _;simp!;rw[S3 h];simp!;refine Ed (Z5:=O) (by rw[sV rfl hl,sV rfl hm];rfl) ?_;simp!;exact⟨trivial,trivial⟩
theorem M8(hm:Sm m)(hh:Sm hi)(h0:lo<=m)(h:hi<m):Wp (jn C CT [.int m,.int lo,.int hi] O) fun r Z5=>r=.ex CT/\Z5=O:=by
 unfold jn qE;refine(jq rfl).mpr ?_;show Wt (gl _ _ [some (.int m),some (.int lo),some (.int hi)] O) _;simp!;rw[SJ ⋯];simp!;rw[S3 h];simp!;refine Ed (Z5:=O) (by rw[sV rfl hh,sV rfl hm];rfl) ?_;simp!;exact⟨trivial,trivial⟩
def fnA:Nat->Nat
 |2=>1
 |3=>3
 |4=>4
 |5=>6
 |_=>0
def fnB:Nat->Nat
 |2=>1
 |3=>1
 |4=>3
 |5=>3
 |6=>4
 |7=>4
 |_=>0
theorem zw{n:Nat}(h1:1<=n)(h5:n<=5):Few n n (fnA n):=by
 have:n=1\/n=2\/n=3\/n=4\/n=5:=by omega
 rcases this with rfl|rfl|rfl|rfl|rfl
 .exact Qx
 .exact zx
 .exact IC
 .exact LG
 .exact Nb
theorem zt{n:Nat}(h1:1<=n)(h5:n<=7):Few n 2 (fnB n):=by
 have:n=1\/n=2\/n=3\/n=4\/n=5\/n=6\/n=7:=by omega
 rcases this with rfl|rfl|rfl|rfl|rfl|rfl|rfl
 .exact Hi
 .exact zx
 .exact FE
 .exact KB
 .exact Hh
 .exact O2
 .exact RA
theorem Jg:∀n<6,∀s∈fW n n,(gW s).length<=1000:=by decide +kernel
theorem Gh:∀n<8,∀s∈fW n 2,(gW s).length<=1000:=by decide +kernel
theorem B9:∀n<6,cs (prs n).length (fnA n+1)<=15000000/\fnA n<10:=by decide +kernel
theorem Du:∀n<8,cs (prs n).length (fnB n+1)<=15000000/\fnB n<10:=by decide +kernel
theorem LK:∀n<5,2<=n->fnA n=fnA n - 1+1/\fnA n - 1<=3:=by decide +kernel
abbrev mV(CS C CT:Addr):FX:=rM (jn C CT) (tK CS CT) (.int 5)
abbrev oA(CS C CT:Addr):FX:=pY (jn C CT) (tK CS CT) (.int 7)
abbrev pF(C CF CT:Addr):FX:=qF (mmL C CF CT 10) (jn C CT) (.int 4) (.int 2)
abbrev pA(CS C CF CT:Addr):FX:=pX (mmB C CF CT 10) (jn C CT) (mV CS C CT) (.int 4) (.int 2)
def xn(CS C CF CT:Addr)(q:Nat)(m:Int)(t a p:D)(O:M):Option (Rs D×M):=match q with
 |0=>lg C CT [.int m,t] O
 |1=>mV CS C CT [.int m] O
 |2=>oA CS C CT [.int m] O
 |3=>pF C CF CT [.int m,a,p] O
 |_=>pA CS C CF CT [.int m] O
def leD(q:Nat):Int:=([0,1,1,2,2]:Ŕ).getD q 0
def moD(q:Nat):Int:=([7,5,7,4,4]:Ŕ).getD q 0
theorem Cn:∀q<5,(leD q).natAbs<2^100/\(moD q).natAbs<2^100:=by decide
theorem DQ(hq:q<5)(h:∀O:M,Wp (jn C CT [.int m,.int (leD q),.int (moD q)] O) fun r Z5=>r=.ex E/\Z5=O):Wp (xn CS C CF CT q m t a p O) fun r Z5=>r=.ex E/\Z5=O:=by
 have:q=0\/q=1\/q=2\/q=3\/q=4:=by omega
 rcases this with rfl|rfl|rfl|rfl|rfl
 .show Wp (lg C CT [.int m,t] O) _;unfold lg qR si;refine(jq rfl).mpr ?_;show Wt (gl _ _ [some (.int m),some t] O) _;simp!;refine(h O).imp ?_;rintro _ O ⟨rfl,rfl⟩;simp!;exact⟨trivial,trivial⟩
 .show Wp (mV CS C CT [.int m] O) _;unfold mV rM sI;refine(jq rfl).mpr ?_;show Wt (gl _ _ [some (.int m)] O) _;simp!;refine(h O).imp ?_;rintro _ O ⟨rfl,rfl⟩;simp!;exact⟨trivial,trivial⟩
 .show Wp (oA CS C CT [.int m] O) _;unfold oA pY sr;refine(jq rfl).mpr ?_;show Wt (gl _ _ [some (.int m)] O) _;simp!;refine(h O).imp ?_;rintro _ O ⟨rfl,rfl⟩;simp!;exact⟨trivial,trivial⟩
 .show Wp (pF C CF CT [.int m,a,p] O) _;unfold pF qF uC;refine(jq rfl).mpr ?_;show Wt (gl _ _ [some (.int m),some a,some p] O) _;simp!;refine(h O).imp ?_;rintro _ O ⟨rfl,rfl⟩;simp!;exact⟨trivial,trivial⟩
 .show Wp (pA CS C CF CT [.int m] O) _;unfold pA pX tN;refine(jq rfl).mpr ?_;show Wt (gl _ _ [some (.int m),none,none] O) _;simp!;refine(h O).imp ?_;rintro _ O ⟨rfl,rfl⟩;simp!;exact⟨trivial,trivial⟩
theorem Ag(h1:1<=n)(h5:n<=5):Wp (mV CS C CT [.int (n:Int)] O) fun r Z5=>(∃t,r=.ok (.tup [.int (fnA n:Int),dTr t]))/\Gr O Z5:=by
 obtain⟨t,ht⟩:=(zw h1 h5).yes;unfold mV rM sI;refine(jq rfl).mpr ?_;show Wt (gl _ _ [some (.int (n:Int))] O) _;simp!;refine(qa ⋯ ⋯).imp ?_;rintro _ O ⟨rfl,rfl⟩;simp!;refine(AN (C:=CS) (CT:=CT) (m:=n) ⋯ (B9 n ⋯).2 (Jg n ⋯) (zw h1 h5) (B9 n ⋯).1 ht).imp ?_;rintro _ Z3 ⟨rfl,g⟩;simp!;exact⟨⟨t,rfl⟩,g⟩
theorem GH(h1:1<=n)(h5:n<=7):Wp (oA CS C CT [.int (n:Int)] O) fun r Z5=>(∃x,r=.ok x)/\Gr O Z5:=by
 obtain⟨t,ht⟩:=(zt h1 h5).yes;unfold oA pY sr;refine(jq rfl).mpr ?_;show Wt (gl _ _ [some (.int (n:Int))] O) _;simp!;refine(qa ⋯ ⋯).imp ?_;rintro _ O ⟨rfl,rfl⟩;simp!;refine(AN (C:=CS) (CT:=CT) (m:=2) ⋯ (Du n ⋯).2 (Gh n ⋯) (zt h1 h5) (Du n ⋯).1 ht).imp ?_;rintro _ Z3 ⟨rfl,g⟩;simp!;exact⟨⟨_,rfl⟩,g⟩
theorem J7(hq:q<5)(h0:leD q<=(n:Int))(h1:(n:Int)<=moD q):Wp (xn CS C CF CT q (n:Int) (dZ .no) (.int 0) (.tup []) O) fun r Z5=>(∃x,r=.ok x)/\Gr O Z5:=by
 have:q=0\/q=1\/q=2\/q=3\/q=4:=by omega
 rcases this with rfl|rfl|rfl|rfl|rfl
 .have h7:n<=7:=by simp only[moD] at h1;simp at h1;omega
  obtain⟨d,Z5,e,_,g⟩:=FD (CN:=C) (CT:=CT) (O:=O) (n:=n) (t:=.no) h7 (by simp[dpz]);show Wp (lg C CT [.int (n:Int),dZ .no] O) _;have e2:dn (lg C CT) [.int (n:Int),dZ .no] O=some (d,Z5):=e;unfold dn at e2;cases hr:lg C CT [.int (n:Int),dZ .no] O with
  |none=>rw[hr] at e2;cases e2
  |some r=>
   rw[hr] at e2;obtain⟨r1,Z4⟩:=r;cases r1 with
   |ex E=>cases e2
   |ok x=>cases e2;exact⟨_,_,rfl,⟨_,rfl⟩,g⟩
 .refine(Ag (n:=n) ?_ ?_).imp ?_
  .simp only[leD] at h0;simp at h0;omega
  .simp only[moD] at h1;simp at h1;omega
  .rintro r Z5 ⟨⟨t,e⟩,g⟩;exact⟨⟨_,e⟩,g⟩
 .refine GH (n:=n) ?_ ?_
  .simp only[leD] at h0;simp at h0;omega
  .simp only[moD] at h1;simp at h1;omega
 .have h2:2<=n:=by simp only[leD] at h0;simp at h0;omega
  have h4:n<=4:=by simp only[moD] at h1;simp at h1;omega
  show Wp (pF C CF CT [.int (n:Int),.int 0,.tup []] O) _;unfold pF qF uC;refine(jq rfl).mpr ?_;show Wt (gl _ _ [some (.int (n:Int)),some (.int 0),some (.tup [])] O) _;simp!;refine(qa (CN:=C) (CT:=CT) (n:=n) (O:=O) (lo:=2) (hi:=4) ⋯ ⋯).imp ?_;rintro _ Z4 ⟨rfl,rfl⟩;simp!;rw[hW nofun];simp!;refine(Jk (n:=n) ⋯ (xo n ⋯) 0 [] () Z4 10 ⋯ (fun a h=>by simp at h) nofun trivial).imp ?_;rintro _ Z3 ⟨rfl,g⟩;simp!;exact⟨⟨_,rfl⟩,g⟩
 .have h2:2<=n:=by simp only[leD] at h0;simp at h0;omega
  have h4:n<=4:=by simp only[moD] at h1;simp at h1;omega
  obtain⟨ek,k3⟩:=LK n ⋯ h2;show Wp (pA CS C CF CT [.int (n:Int)] O) _;unfold pA pX tN;refine(jq rfl).mpr ?_;show Wt (gl _ _ [some (.int (n:Int)),none,none] O) _;simp!;refine(qa (CN:=C) (CT:=CT) (n:=n) (O:=O) (lo:=2) (hi:=4) ⋯ ⋯).imp ?_;rintro _ Z4 ⟨rfl,rfl⟩;simp!;refine(Ag ⋯ ⋯).imp ?_;rintro _ Z3 ⟨⟨t,rfl⟩,g2⟩;simp!;refine(mv rfl).mpr ?_;simp!;rw[hW nofun];simp!;have e3:((fnA n:Int) - 1)=((fnA n - 1:Nat):Int):=by omega
  rw[e3];refine(Lq (n:=n) ⋯ (xo n ⋯) (fnA n - 1) [] Z3 10 ⋯ (fun a h=>by simp at h) (by simp;omega)).imp ?_;rintro _ ZL ⟨rfl,g3⟩;simp!;exact⟨⟨_,rfl⟩,g2.trans g3⟩
end
def wd:Nat->Str
 |0=>"told"
 |1=>"NoThing"
 |_=>"TooMany"
section
variable {q1 q2 q3 q4 q5 q6 q7 q8 q9:Addr->ř} {C:Addr}
theorem CI{O:M}{k:Nat}(w:Nat)(hw:w=1\/w=2)(hk:O[k]?=some (some<|.exc C))(h1:q1 C=some false)(h2:q2 C=some false)(h3:q3 C=some false)(h4:q4 C=some false)(h5:q5 C=some false)(h6:q6 C=some false)(h7:q7 C=some (w==2))(h8:q8 C=some (w==1))(h9:q9 C=some true):
  mP q1 q2 q3 q4 q5 q6 q7 q8 q9 [.ref k] O=some (.str (wd w),O):=by
 have x:∀q b,q C=some b->m8 q (.ref k) O=some (.bl b,O):=fun q b h=>by simp only[m8,hk,h,Vb]
 have y:qY [q6,q5,q4,q3,q2,q1] (.ref k) O=some (.bl false,O):=by simp[qY,hk,optAll,h1,h2,h3,h4,h5,h6]
 have e0:jz (.ref k) .non O=some (.bl false,O):=rfl;rcases hw with rfl|rfl
 .have c:uO (.lst [.bl true,.bl false]) (.bl true) O=some (.int 1,O):=rfl;have i:se (.lst [.bl true,.bl false]) (.bl true) O=some (.int 0,O):=rfl;have z:atI [D.str "NoThing",.str "TooMany"] 0=some (.str "NoThing"):=rfl;simp[mP,qP,e0,x _ _ h7,x _ _ h8,x _ _ h9,y,gf,zV,gu,c,i,fNe,sM,z,wd]
 .have c:uO (.lst [.bl false,.bl true]) (.bl true) O=some (.int 1,O):=rfl;have i:se (.lst [.bl false,.bl true]) (.bl true) O=some (.int 1,O):=rfl;have z:atI [D.str "NoThing",.str "TooMany"] 1=some (.str "TooMany"):=rfl;simp[mP,qP,e0,x _ _ h7,x _ _ h8,x _ _ h9,y,gf,zV,gu,c,i,fNe,sM,z,wd]
theorem PN{O:M}:mP q1 q2 q3 q4 q5 q6 q7 q8 q9 [.non] O=some (.str (wd 0),O):=by
 have e0:jz .non .non O=some (.bl true,O):=rfl;simp[mP,qP,e0,wd]
end
structure Kd (f:Fr) (C CT:Addr) (cs:ś):Prop where
 m1:C∈cs
 m2:CT∈cs
 k0:∀O:M,f [.non] O=some (.str (wd 0),O)
 k1:∀(O:M) (k:Nat),O[k]?=some (some<|.exc C)->f [.ref k] O=some (.str (wd 1),O)
 k2:∀(O:M) (k:Nat),O[k]?=some (some<|.exc CT)->f [.ref k] O=some (.str (wd 2),O)
section
variable {CS C CF CT:Addr} {O:M} {f:Fr} {cs:ś}
def nZ(f:Fr)(CS C CF CT:Addr)(cs:ś):Fr:=ua f (lg C CT) (mV CS C CT) (oA CS C CT) (pF C CF CT) (pA CS C CF CT) cs
theorem yw(K:Kd f C CT cs)(hq:q<5)(h:Wp (xn CS C CF CT q m t a p O) fun r Z5=>Gr O Z5/\(((∃x,r=.ok x)/\w=0)\/(r=.ex C/\w=1)\/(r=.ex CT/\w=2))):
  Wp (nZ f CS C CF CT cs [.int (q:Int),.int m,t,a,p] O) fun d Z5=>d=.str (wd w)/\Gr O Z5:=by
 unfold nZ ua wt;refine(iy rfl).mpr ?_;show Ws (fH _ _ [some (.int (q:Int)),some (.int m),some t,some a,some p,none,none] O) _;simp!;refine Hk ?_;have fin:∀(r:Rs D) (Z5:M),Gr O Z5/\(((∃x,r=.ok x)/\w=0)\/(r=.ex C/\w=1)\/(r=.ex CT/\w=2))->qEX [some (.int (q:Int)),some (.int m),some t,some a,some p,some .non,none] (qTy cs 6 (fS (be 6)<|fD 5)<|qSq (fM<|vL f<|fB (be 5) fE)<|ue fun d Z5=>d=.str (wd w)/\Gr O Z5) r Z5:=by
  rintro r Z5 ⟨g,hr⟩;rcases hr with⟨⟨x,rfl⟩,rfl⟩|⟨rfl,rfl⟩|⟨rfl,rfl⟩
  .simp!;show Ws (fM _ [some (.int (q:Int)),some (.int m),some t,some a,some p,some .non,none] Z5) _;simp![K.k0];exact⟨trivial,g⟩
  .simp!;refine⟨K.m1,?_⟩;show Ws (fS _ _ [some (.int (q:Int)),some (.int m),some t,some a,some p,some .non,some (.ref Z5.length)] _) _;simp!;rw[K.k1 _ _ nofun];simp!;exact⟨trivial,g.trans gr_app⟩
  .simp!;refine⟨K.m2,?_⟩;show Ws (fS _ _ [some (.int (q:Int)),some (.int m),some t,some a,some p,some .non,some (.ref Z5.length)] _) _;simp!;rw[K.k2 _ _ nofun];simp!;exact⟨trivial,g.trans gr_app⟩
 have d0:∀i j:Nat,i≠j->decide ((i:Int)=(j:Int))=false:=fun i j h=>SJ ⋯;have:q=0\/q=1\/q=2\/q=3\/q=4:=by omega
 rcases this with rfl|rfl|rfl|rfl|rfl
 .simp!;rw[S3 (show((0:Nat):Int)=0 from rfl)];simp only[nN,qp,pH,oY,pN,pO,oF,pc,qc_,oK,nT,pk,oZ];exact h.imp fin
 .simp!;rw[SJ (show ¬((1:Nat):Int)=0 by decide)];simp!;rw[S3 (show((1:Nat):Int)=1 from rfl)];simp only[nN,qp,pH,oY,pN,pO,oF,pc,qc_,oK,nT,pk,oZ];exact h.imp fin
 .simp!;rw[SJ (show ¬((2:Nat):Int)=0 by decide)];simp!;rw[SJ (show ¬((2:Nat):Int)=1 by decide)];simp!;rw[S3 (show((2:Nat):Int)=2 from rfl)];simp only[nN,qp,pH,oY,pN,pO,oF,pc,qc_,oK,nT,pk,oZ];exact h.imp fin
 .simp!;rw[SJ (show ¬((3:Nat):Int)=0 by decide)];simp!;rw[SJ (show ¬((3:Nat):Int)=1 by decide)];simp!;rw[SJ (show ¬((3:Nat):Int)=2 by decide)];simp!;rw[S3 (show((3:Nat):Int)=3 from rfl)];simp only[nN,qp,pH,oY,pN,pO,oF,pc,qc_,oK,nT,pk,oZ];exact h.imp fin
 .simp!;rw[SJ (show ¬((4:Nat):Int)=0 by decide)];simp!;rw[SJ (show ¬((4:Nat):Int)=1 by decide)];simp!;rw[SJ (show ¬((4:Nat):Int)=2 by decide)];simp!;rw[SJ (show ¬((4:Nat):Int)=3 by decide)];simp only[nN,AE,pH,oY,pN,pO,oF,pc,qc_,oK,nT,pk,oZ];exact h.imp fin
theorem Rn(K:Kd f C CT cs)(hq:q<5)(hm:Sm m)(h:m<leD q):Wp (nZ f CS C CF CT cs [.int (q:Int),.int m,t,a,p] O) fun d Z5=>d=.str (wd 1)/\Gr O Z5:=
 yw K hq ((DQ hq fun O=>Ly hm (Cn q hq).1 h).imp fun r Z5 ⟨e1,e2⟩=>⟨by rw[e2];exact .refl,.inr<|.inl ⟨e1,rfl⟩⟩)
theorem Mx:∀q<5,leD q<=moD q:=by decide
theorem Oa(K:Kd f C CT cs)(hq:q<5)(hm:Sm m)(h:moD q<m):Wp (nZ f CS C CF CT cs [.int (q:Int),.int m,t,a,p] O) fun d Z5=>d=.str (wd 2)/\Gr O Z5:=
 yw K hq ((DQ hq fun O=>M8 hm (Cn q hq).2 (by have:=Mx q hq;omega) h).imp fun r Z5 ⟨e1,e2⟩=>⟨by rw[e2];exact .refl,.inr<|.inr ⟨e1,rfl⟩⟩)
theorem K4(K:Kd f C CT cs){q n:Nat}(hq:q<5)(h0:leD q<=(n:Int))(h1:(n:Int)<=moD q):Wp (nZ f CS C CF CT cs [.int (q:Int),.int (n:Int),dZ .no,.int 0,.tup []] O) fun d Z5=>d=.str (wd 0)/\Gr O Z5:=
 yw K hq ((J7 hq h0 h1).imp fun r Z5 ⟨e1,e2⟩=>⟨e2,.inl ⟨e1,rfl⟩⟩)
theorem yu:PyData.strOk "told"=true/\PyData.strOk "NoThing"=true/\PyData.strOk "TooMany"=true:=by decide +kernel
theorem R8:fNe (.str<|wd 0) (.str "told") O=some (.bl false,O):=by simp[wd,yu]
theorem P7:fNe (.str<|wd 1) (.str "NoThing") O=some (.bl false,O):=by simp[wd,yu]
theorem ED:fNe (.str<|wd 2) (.str "TooMany") O=some (.bl false,O):=by simp[wd,yu]
end
def Hd(O:M)(k:Nat):Prop:=∃a b,O[k]?=some (some<|.lst [.int a,.int b])
def ot(O:M)(k:Nat)(a b:Int):M:=O.set k (some<|.lst [.int a,.int b])
def Dn(k:Nat)(O Z5:M):Prop:=∃a b,Z5=ot O k a b
def Hd.set{O:M}{k:Nat}(h:Hd O k)(a b:Int):(ot O k a b)[k]?=some (some<|.lst [.int a,.int b]):=let ⟨_,_,e⟩:=h;i8 e
def Dn.hd{O Z5:M}{k:Nat}(h:Hd O k)(d:Dn k O Z5):Hd Z5 k:=let ⟨a,b,e⟩:=d;⟨a,b,by rw[e];exact h.set a b⟩
def ON{O:M}{k:Nat}{m:Int}(h:Hd O k)(h0:0<m)(h1:m<2^200):∃r Z5,m9 [.ref k,.int m] O=some (.int r,Z5)/\Dn k O Z5/\0<=r/\r<m:=by
 obtain⟨a,b,hk⟩:=h;by_cases ha:0<a
 .refine⟨a%m,ot O k (a/m) b,?_,⟨_,_,rfl⟩,VH _ ⋯,Vv _ h0⟩;have hq:kj a m:=h0;have hd:m6 a m:=⟨h0,h1⟩
  simp[m9,sw,x6 hk,qh hk,ha,hq,hd,ot]
 .have hb1:=VH (b*48271) (b:=2147483647) (by decide);have hb2:=Vv (b*48271) (b:=2147483647) (by decide);refine⟨_,ot O k a (b*48271%2147483647),?_,⟨_,_,rfl⟩,VH ((b*48271%2147483647+1)^7/8) ⋯,Vv _ h0⟩;have hp:kh (b*48271%2147483647+1) 7:=⟨by decide,by decide,by omega⟩
  have hm:CMul b 48271:=.inr ⟨by decide,by decide⟩;have hq:kj ((b*48271%2147483647+1)^7/8) m:=h0;have hq2:kj (b*48271) 2147483647:=by unfold kj;decide
  have hd:m6 ((b*48271%2147483647+1)^7) 8:=by unfold m6;decide
  have hk2:=i8 (y:=some (Z9.lst [.int a,.int (b*48271%2147483647)])) hk;simp[m9,sw,x6 hk,qh hk,ha,hm,hp,hq,hq2,hd,x6 hk2,ot]
def J3(c:Int)(O:M):∃a b,qO [.int c] O=some (.ref O.length,O++[some (.lst [.int a,.int b])]):=by
 have h1:kh 10 18:=by unfold kh;decide
 have h2:kj c 2147483629:=by unfold kj;decide
 have h3:∀(x:Int) (b:Bool),CMul x (if b then 1 else 0):=fun x b=>.inr (by cases b<;>decide);have h4:∀(x:Int) (p:Prop) [Decidable p],CMul x (if p then 1 else 0):=fun x p _=>.inr (by split<;>decide);have h5:∀(x:Int) (p:Prop) [Decidable p],CMul x (if p then 0 else 1):=fun x p _=>.inr (by split<;>decide);simp[qO,yq,h1,h2,h3,h4,h5]
def KQ{O:M}{a b:Int}:Hd (O++[some (.lst [.int a,.int b])]) O.length:=⟨a,b,by simp⟩
def gr_hd{O Z5:M}{k:Nat}(h:Hd O k)(g:Gr O Z5):Hd Z5 k:=let ⟨a,b,e⟩:=h;⟨a,b,g.get e⟩
section
variable {CS C CF CT:Addr} {O:M} {f:Fr} {cs:ś}
theorem Hd.gr(h:Hd O k)(g:Gr O Z5):Hd Z5 k:=let ⟨a,b,e⟩:=h;⟨a,b,g.get e⟩
theorem pI(h:Hd O k)(h0:0<m)(h1:m<2^200):Wp (m9 [.ref k,.int m] O) fun d Z5=>∃r:Nat,d=.int (r:Int)/\(r:Int)<m/\Hd Z5 k:=by
 obtain⟨r,Z5,e,d,b1,b2⟩:=ON h h0 h1;exact⟨_,_,e,r.toNat,by rw[UP b1],by omega,Dn.hd h d⟩
theorem zh{ds:ŗ}{r:Nat}(h:r<ds.length){R:D->M->Prop}(hR:∀v,R v O):Wp (fIx (.lst ds) (.int (r:Int)) O) R:=ni (qt<|SO h) (hR _)
theorem QO:j0 (.lst [x]) (.int 6) O=some (.lst [x,x,x,x,x,x],O):=by rfl
def ye(f:Fr)(CS C CF CT:Addr)(cs:ś):Fr:=uc qO m9 (nZ f CS C CF CT cs)
theorem Em:∀q<5,([D.int 0,.int 1,.int 1,.int 2,.int 2]:ŗ)[q]?=some (.int<|leD q):=fun q hq=>by
 have:q=0\/q=1\/q=2\/q=3\/q=4:=by omega
 rcases this with rfl|rfl|rfl|rfl|rfl<;>rfl
theorem OL:∀q<5,([D.int 7,.int 5,.int 7,.int 4,.int 4]:ŗ)[q]?=some (.int<|moD q):=fun q hq=>by
 have:q=0\/q=1\/q=2\/q=3\/q=4:=by omega
 rcases this with rfl|rfl|rfl|rfl|rfl<;>rfl
theorem b_D:∀q<5,0<=leD q/\leD q<=2/\4<=moD q/\moD q<=7:=by decide
theorem PM(K:Kd f C CT cs)(ns:Ŕ)(_:ns.length<=63):∃Z5,ye f CS C CF CT cs [.scr (ns.map D.int)] []=some (.bl true,Z5):=by
 suffices h:Wp (ye f CS C CF CT cs [.scr (ns.map D.int)] []) fun d _=>d=.bl true by
  obtain⟨d,Z5,e,rfl⟩:=h;exact⟨Z5,e⟩
 have hp:ko (.int 10) (.int 18) []=some (.int (10^18),[]):=by
  have h1:kh 10 18:=by unfold kh;decide
  simp[h1]
 have hp20:∀O:M,ko (.int 10) (.int 20) O=some (.int (10^20),O):=fun O=>by
  have h1:kh 10 20:=by unfold kh;decide
  simp[h1]
 have hsl:fSl (.scr<|ns.map D.int) none (some 8) []=some (.lst ((ns.take 8).map D.int),[]):=by
  show some (D.lst (k8 (ns.map D.int) none<|some 8),([]:M))=_;unfold k8;rw[HT.sIx_none,show(some (8:Int))=some ((8:Nat):Int) from rfl,HT.sIx_nat,List.drop_zero,Nat.sub_zero,SW,←List.map_take,List.take_eq_take_min (i:=8)]
 unfold ye uc yB;refine(iy rfl).mpr ?_;show Ws (fH _ _ [some (.scr<|ns.map D.int),none,none,none,none,none,none,none,none,none,none] []) _;simp![hp];rw[hW nofun];simp![hsl];rw[xY (by simp;omega)];simp!;refine kH (fun r B _=>∃(l:Ŕ) (o1 o2 o3 o4 o5 o6 o7 o8 o9 o10:ţ),r=l.map D.int/\B=[some (.scr<|ns.map D.int),o1,o2,o3,o4,o5,o6,o7,o8,o9,o10]) _ ⟨(10^18:Int)::ns.take 8,_,_,_,_,_,_,_,_,_,_,rfl,rfl⟩ ?_ ?_
 .rintro d r B O ⟨l,o1,o2,o3,o4,o5,o6,o7,o8,o9,o10,hr,rfl⟩;cases l with
  |nil=>cases hr
  |cons c l=>
   rw[SN] at hr;injection hr with h3 h4
   subst h3 h4;simp!;obtain⟨a,b,eh⟩:=J3 c O;refine ni eh ?_;have d1:Hd (O++[some (.lst [.int a,.int b])]) O.length:=KQ;generalize O++[some (Z9.lst [.int a,.int b])]=Z4 at d1;generalize O.length=h at d1;simp![hp20];rw[hW nofun];simp!;refine(pI (m:=3) d1 (by decide)<|by decide).imp ?_;rintro _ Z3 ⟨r,rfl,hr3,d2⟩;obtain⟨w,hw,w0,w1⟩:∃w:Int,([D.int 1,.int 9,.int (10^20)]:ŗ)[r]?=some (.int w)/\0<w/\w<=10^20:=by
    have:r=0\/r=1\/r=2:=by omega
    rcases this with rfl|rfl|rfl
    .exact⟨1,rfl,by decide,by decide⟩
    .exact⟨9,rfl,by decide,by decide⟩
    .exact⟨10^20,rfl,by decide,by decide⟩
   simp!;rw[qt hw];simp!;refine(pI (m:=w) d2 w0 ⋯).imp ?_;rintro _ ZL ⟨far,rfl,hfar,d3⟩;simp!;rw[hU nofun];simp!;rw[hU nofun];simp!;rw[hU nofun];simp!;rw[hU nofun];simp!;rw[hU nofun];simp!;rw[hW nofun];simp!;refine(pI (m:=3) d3 (by decide)<|by decide).imp ?_;rintro _ Zr ⟨r4,rfl,hr4,d4⟩;simp!;refine zh (by simp;omega) fun tr=>?_;simp!;refine(pI (m:=5) d4 (by decide)<|by decide).imp ?_;rintro _ Y2 ⟨r5,rfl,hr5,d5⟩;simp!;rw[hU nofun];simp!;rw[hW nofun];simp!;rw[hU nofun];simp!;rw[hU nofun];simp!;rw[hW nofun];simp!;rw[hW nofun];simp!;rw[hU nofun];simp!;rw[hW nofun];simp![QO];rw[hW nofun];simp!;refine(pI (m:=4) d5 (by decide)<|by decide).imp ?_;rintro _ Y1 ⟨r6,rfl,hr6,d6⟩;simp!;refine zh (by simp;omega) fun pa=>?_;simp!;have hfar2:(far:Int)<10^20:=by omega
   refine(Ez (k:=5)<|by decide).mpr ?_;simp!;refine Fo (fun q B Z5=>∃(o7 o8 o9 o10:ţ),B=[some (.scr<|ns.map D.int),some (.int c),some (.ref h),some (.int (far:Int)),some tr,some (.int (r5:Int)),some pa,o7,o8,o9,o10]/\Hd Z5 h) ⟨_,_,_,_,rfl,d6⟩ ?_ ?_
   .rintro q B Y7 hq ⟨o7,o8,o9,o10,rfl,d7⟩;obtain⟨b1,b2,b3,b4⟩:=b_D q hq;simp!;rw[hW nofun];simp!;rw[qt (Em q hq)];simp!;rw[hW nofun];simp!;rw[qt (OL q hq)];simp![hp20];rw[hW nofun];simp!;refine kH (fun r B Z5=>∃(l:Ŕ) (o10:ţ),r=l.map D.int/\(∀x∈l,x<leD q/\Sm x)/\B=[some (.scr<|ns.map D.int),some (.int c),some (.ref h),some (.int (far:Int)),some tr,some (.int (r5:Int)),some pa,some (.int (q:Int)),some (.int<|leD q),some (.int<|moD q),o10]/\Hd Z5 h) _ ⟨[leD q - 1,-1,leD q - 1 - (far:Int),-(10^20)],_,rfl,?_,rfl,d7⟩ ?_ ?_
    .intro x hx;simp only[S2,TN,U3] at hx;unfold Sm;rcases hx with rfl|rfl|rfl|rfl<;>constructor<;>omega
    .rintro d r B Y6 ⟨l,o10,hr,hl,rfl,d8⟩;cases l with
     |nil=>cases hr
     |cons x l=>
      rw[SN] at hr;injection hr with h5 h6
      subst h5 h6;obtain⟨x1,x2⟩:=hl x nofun;simp!;refine(Rn K hq x2 x1).imp ?_;rintro _ Zc ⟨rfl,g9⟩;simp![P7];exact⟨trivial,l,_,rfl,fun y hy=>hl y (by simp[hy]),rfl,d8.gr g9⟩
    rintro B Y6 ⟨l,o10,hr,hl,rfl,d8⟩;simp![hp20];rw[hW nofun];simp!;refine kH (fun r B Z5=>∃(l:Ŕ) (o10:ţ),r=l.map D.int/\(∀x∈l,moD q<x/\Sm x)/\B=[some (.scr<|ns.map D.int),some (.int c),some (.ref h),some (.int (far:Int)),some tr,some (.int (r5:Int)),some pa,some (.int (q:Int)),some (.int<|leD q),some (.int<|moD q),o10]/\Hd Z5 h) _ ⟨[moD q+1,8,moD q+1+(far:Int),10^20],_,rfl,?_,rfl,d8⟩ ?_ ?_
    .intro x hx;simp only[S2,TN,U3] at hx;unfold Sm;rcases hx with rfl|rfl|rfl|rfl<;>constructor<;>omega
    .rintro d r B Zc ⟨l,o10,hr,hl,rfl,d9⟩;cases l with
     |nil=>cases hr
     |cons x l=>
      rw[SN] at hr;injection hr with h5 h6
      subst h5 h6;obtain⟨x1,x2⟩:=hl x nofun;simp!;refine(Oa K hq x2 x1).imp ?_;rintro _ Y5 ⟨rfl,g10⟩;simp![ED];exact⟨trivial,l,_,rfl,fun y hy=>hl y (by simp[hy]),rfl,d9.gr g10⟩
    rintro B Zc ⟨l,o10,hr,hl,rfl,d9⟩;simp!;refine(pI (m:=moD q+1 - leD q) d9 ⋯ ⋯).imp ?_;rintro _ Y5 ⟨r10,rfl,hr10,d10⟩;simp!;rw[hW nofun];simp!;refine kH (fun r B Z5=>∃(l:Ŝ) (o10:ţ),r=l.map (fun n:Nat=>D.int (n:Int))/\(∀n∈l,leD q<=((n:Nat):Int)/\((n:Nat):Int)<=moD q)/\B=[some (.scr<|ns.map D.int),some (.int c),some (.ref h),some (.int (far:Int)),some tr,some (.int (r5:Int)),some pa,some (.int (q:Int)),some (.int<|leD q),some (.int<|moD q),o10]/\Hd Z5 h) _ ⟨[(leD q).toNat,(moD q).toNat,(leD q).toNat+r10],_,?_,?_,rfl,d10⟩ ?_ ?_
    .have e1:(((leD q).toNat:Nat):Int)=leD q:=UP b1;have e2:(((moD q).toNat:Nat):Int)=moD q:=UP ⋯;simp only[SN,U0,Int.natCast_add,e1,e2]
    .intro n hn;simp only[S2,TN,U3] at hn;rcases hn with rfl|rfl|rfl<;>constructor<;>omega
    .rintro d r B Y4 ⟨l,o10,hr,hl,rfl,d11⟩;cases l with
     |nil=>cases hr
     |cons x l=>
      rw[SN] at hr;injection hr with h5 h6
      subst h5 h6;obtain⟨x1,x2⟩:=hl x nofun;simp!;rw[hU nofun];simp!;rw[hU nofun];simp!;refine(K4 K hq x1 x2).imp ?_;rintro _ Y0 ⟨rfl,g12⟩;simp![R8];exact⟨trivial,l,_,rfl,fun y hy=>hl y (by simp[hy]),rfl,d11.gr g12⟩
    .rintro B Y4 ⟨l,o10,hr,hl,rfl,d11⟩;exact⟨_,_,_,_,rfl,d11⟩
   .rintro B Y7 ⟨o7,o8,o9,o10,rfl,d7⟩;exact⟨trivial,l,_,_,_,_,_,_,_,_,_,_,rfl,rfl⟩
 .rintro B O ⟨l,o1,o2,o3,o4,o5,o6,o7,o8,o9,o10,hr,rfl⟩;simp!
end
theorem all_mk{l:PySem.W.OpenLaw}{w:World}{K:Frag}{h:Heap}{mg:ő}{fa f1 f2 f3 f4 f5 f6 f7 f8 f9 dz eV eW fm fo dQ fh eM eD eC dF dD dU fg eA fv eT fb dG dL dt fr eY dB eR eS eZ dq dC eF eB eG ai ac aa ad aZ a8 a9 bd a7 bA:Addr}{d1 d2 d3 d4 d5 d6 d7 d8 d9 d10 d11 eO eE eg fy dJ fx eK fw du dw fz fc e9 fq dy eQ eI fk eX dl dv ff dH eP fj dM eU ft eJ c8:FuncData}{bM:ClassData}(X:K.In h)(G:h.Ns mainGlobals mg)(fe:mg "law"=some (.ref fa))
  (bY:Ng K "Search" (.ref ai))
  (bH:Ng K "NoThing" (.ref ac))
  (bO:Ng K "NoFit" (.ref aa))
  (bF:Ng K "TooMany" (.ref ad))
  (bW:Ng K "NoneYet" (.ref aZ))
  (b8:Ng K "NoText" (.ref a8))
  (b5:Ng K "NoName" (.ref a9))
  (bZ:Ng K "NoForm" (.ref bd))
  (b9:Ng K "NoAsk" (.ref a7))
  (bS:Ng K "HalfError" (.ref bA))
  (A1:Gf K "check_things" (top 39) f1 d1)
  (A2:Gf K "moved" (top 40) f2 d2)
  (A3:Gf K "homes_of" (top 41) f3 d3)
  (A4:Gf K "can_be" (top 42) f4 d4)
  (A5:Gf K "check_right" (top 43) f5 d5)
  (A6:Gf K "fits" (top 44) f6 d6)
  (A7:Gf K "one_thing_more" (top 16) f7 d7)
  (A8:Gf K "all_sorts" (top 17) f8 d8)
  (A9:Gf K "sorts_that_fit" (top 45) f9 d9)
  (cX:Gf K "alike_things" (top 14) dz d10)
  (dc:Gf K "more_than_half" (top 15) eV d11)
  (da:Gf K "half_ends" (top 20) eW eO)
  (df:Gf K "common_end" (top 21) fm eE)
  (cK:Gf K "tells" (top 46) fo eg)
  (cN:Gf K "pairs_of" (top 23) dQ fy)
  (cZ:Gf K "check_many" (top 11) fh dJ)
  (cU:Mf K ai "__init__" "Search.__init__" (j1 (top 25) 0) eM fx)
  (cQ:Mf K ai "tree_asking" "Search.tree_asking" (j1 (top 25) 3) eD eK)
  (dg:Mf K ai "new_tree" "Search.new_tree" (j1 (top 25) 2) eC fw)
  (cr:Mf K ai "tree_within" "Search.tree_within" (j1 (top 25) 1) dF du)
  (db:Gf K "fewest_asks" (top 26) dD dw)
  (cT:Gf K "fewest_of" (top 35) dU fz)
  (cR:Gf K "fewest" (top 36) fg fc)
  (dj:Gf K "fewest_of_two" (top 37) eA e9)
  (c9:Gf K "branches" (top 30) fv fq)
  (c3:Gf K "names_things" (top 31) eT dy)
  (cV:Gf K "names_things_throughout" (top 32) fb eQ)
  (cW:Gf K "end_for" (top 33) dG eI)
  (cM:Gf K "finds_out" (top 34) dL fk)
  (cS:Gf K "is_row" (top 50) dt eX)
  (cY:Gf K "is_paper_of" (top 51) fr dl)
  (cu:Gf K "is_let_by" (top 52) eY dv)
  (cO:Gf K "holds" (top 53) dB ff)
  (dh:Gf K "row_behind" (top 54) eR dH)
  (cC:Gf K "paper_behind" (top 55) eS eP)
  (c7:Gf K "holding_paper" (top 56) eZ fj)
  (di:Gf K "_law_hand" (top 58) dq dM)
  (de:Gf K "_law_take" (top 59) dC eU)
  (c4:Gf K "_law_kind" (top 60) eF ft)
  (cP:Gf K "_law_said" (top 61) eB eJ)
  (cB:Gf K "law" (top 62) eG c8)
  {dW:Tok} (bN:Ng K "MOST_THINGS" (.int 7 dW))
  {b0:Addr} {bP:Obj} {dk:Tok} {cx:Nat} (cw:Ng K "OPEN" (.ref b0)) (cy:K.lookup b0=some bP) (bR:bP.cls=.type "tuple") (bU:bP.data=.seq #[.str "open" dk] cx)
  {eL:Tok} (bD:Ng K "MOST_SEARCHED" (.int 5 eL))
  {eN:Tok} (ao:Ng K "MOST_SEARCHED_OF_TWO" (.int 7 eN))
  {dY:Tok} (aT:Ng K "GREATEST_THINGS" (.int 4 dY))
  {fu:Tok} (bJ:Ng K "LEAST_THINGS" (.int 2 fu))
  (cG:Nn K "all")
  (cI:Nn K "max")
  (cJ:Nn K "min")
  (cn:Nn K "range")
  (bV:Nn K "enumerate")
  (cA:Nn K "list")
  (cH:Nn K "len")
  (cm:Nn K "tuple")
  (bT:Nn K "isinstance")
  (cz:Nn K "bool")
  (cD:Nn K "zip")
  (cF:Nn K "int")
  (bQ:Nn K "ValueError")
  (ah:Oc K ai)
  (bB:findIn K (.ref ai) "pairs"=some none)
  (bz:findIn K (.ref ai) "sorts"=some none)
  (bI:findIn K (.ref ai) "ends"=some none)
  (az:findIn K (.ref ai) "searched"=some none)
  (am:subIn K (.ref bA) (.type "BaseException")=some true) (ak:PySem.W.clsIn K bA=some bM) (aj:PySem.W.typeIn K (.ref bA)=some (.type "type"))
  (cp:jb K aa)
  (ag:ExcIn K aa)
  (bg:kitOne K (.ref aa) (.ref aZ)=some false)
  (bC:kitOne K (.ref aa) (.ref a8)=some false)
  (bG:kitOne K (.ref aa) (.ref a9)=some false)
  (bE:kitOne K (.ref aa) (.ref bd)=some false)
  (bK:kitOne K (.ref aa) (.ref aa)=some true)
  (bL:kitOne K (.ref aa) (.ref a7)=some false)
  (br:kitOne K (.ref aa) (.ref ad)=some false)
  (bj:kitOne K (.ref aa) (.ref ac)=some false)
  (ax:kitOne K (.ref aa) (.type "ValueError")=some true)
  (aI:subIn K (.ref aa) (.ref bA)=some true)
  (b7:jb K ac)
  (ae:ExcIn K ac)
  (aG:kitOne K (.ref ac) (.ref aZ)=some false)
  (aM:kitOne K (.ref ac) (.ref a8)=some false)
  (aX:kitOne K (.ref ac) (.ref a9)=some false)
  (aO:kitOne K (.ref ac) (.ref bd)=some false)
  (bu:kitOne K (.ref ac) (.ref aa)=some false)
  (bf:kitOne K (.ref ac) (.ref a7)=some false)
  (ay:kitOne K (.ref ac) (.ref ad)=some false)
  (aB:kitOne K (.ref ac) (.ref ac)=some true)
  (ar:kitOne K (.ref ac) (.type "ValueError")=some true)
  (av:subIn K (.ref ac) (.ref bA)=some true)
  (b6:jb K ad)
  (af:ExcIn K ad)
  (aC:kitOne K (.ref ad) (.ref aZ)=some false)
  (aV:kitOne K (.ref ad) (.ref a8)=some false)
  (aS:kitOne K (.ref ad) (.ref a9)=some false)
  (aY:kitOne K (.ref ad) (.ref bd)=some false)
  (bw:kitOne K (.ref ad) (.ref aa)=some false)
  (bh:kitOne K (.ref ad) (.ref a7)=some false)
  (aD:kitOne K (.ref ad) (.ref ad)=some true)
  (aH:kitOne K (.ref ad) (.ref ac)=some false)
  (aq:kitOne K (.ref ad) (.type "ValueError")=some true)
  (aw:subIn K (.ref ad) (.ref bA)=some true):
  ∃fd:FuncData,(∀(s:Shared) (v:Value),BindsTo s fd ⟨[v],[]⟩ [("script",v)])/\∀base:Heap,K.In base->base.Ns mainGlobals mg->FnOk l.prog w K mg base CX0 38 fa fd ["script"] (uu K):=by
 cases fe.symm.trans (PySem.W.mg_of X G cB.a);refine⟨c8,HX cB.F fun _ _ _ _ _ _ _ _=>.of_eq rfl,fun base _ _=>?_⟩;have R:Rm l.prog w K mg base h:=⟨X,G⟩
 have nW:FldC K ai "pairs":=⟨ah.cl,bB⟩
 have lJ:FldC K ai "sorts":=⟨ah.cl,bz⟩
 have pw:FldC K ai "ends":=⟨ah.cl,bI⟩
 have mn:FldC K ai "searched":=⟨ah.cl,az⟩
 have iB:=R.n cG;have nM:=R.n cI;have xp:=R.n cJ;have iS:=R.n cn;have vm:=R.n bV;have nA:=R.n cA;have iH:=R.n cH;have jM:=R.n cm;have iU:=R.n bT;have yJ:=R.n cz;have u4:=R.n cD;have yH:=R.n cF;have wS:=R.n bQ;have jH:=fgI R bN;have io:=fgT R cw cy bR bU;have p8:=fgI R bD;have qG:=fgI R ao;have kX:=fgI R aT;have kP:=fgI R bJ;have jV:=feR R bH b7;have rZ:=feR R bO cp;have lY:=feR R bF b6;have uF:mg "NoneYet"=some (.ref aZ)/\IsX K (.ref aZ) (qOf K<|.ref aZ):=⟨R.g bW,lw rfl⟩
 have cf:(qOf K<|.ref aZ) aa=some false:=gR ag bg;have aA:(qOf K<|.ref aZ) ac=some false:=gR ae aG;have aL:(qOf K<|.ref aZ) ad=some false:=gR af aC;have t9:mg "NoText"=some (.ref a8)/\IsX K (.ref a8) (qOf K<|.ref a8):=⟨R.g b8,lw rfl⟩
 have cg:(qOf K<|.ref a8) aa=some false:=gR ag bC;have aW:(qOf K<|.ref a8) ac=some false:=gR ae aM;have aP:(qOf K<|.ref a8) ad=some false:=gR af aV;have uA:mg "NoName"=some (.ref a9)/\IsX K (.ref a9) (qOf K<|.ref a9):=⟨R.g b5,lw rfl⟩
 have ci:(qOf K<|.ref a9) aa=some false:=gR ag bG;have aR:(qOf K<|.ref a9) ac=some false:=gR ae aX;have aQ:(qOf K<|.ref a9) ad=some false:=gR af aS;have sJ:mg "NoForm"=some (.ref bd)/\IsX K (.ref bd) (qOf K<|.ref bd):=⟨R.g bZ,lw rfl⟩
 have cj:(qOf K<|.ref bd) aa=some false:=gR ag bE;have aN:(qOf K<|.ref bd) ac=some false:=gR ae aO;have aU:(qOf K<|.ref bd) ad=some false:=gR af aY;have tE:mg "NoFit"=some (.ref aa)/\IsX K (.ref aa) (qOf K<|.ref aa):=⟨R.g bO,lw rfl⟩
 have ck:(qOf K<|.ref aa) aa=some true:=gR ag bK;have bt:(qOf K<|.ref aa) ac=some false:=gR ae bu;have bp:(qOf K<|.ref aa) ad=some false:=gR af bw;have uB:mg "NoAsk"=some (.ref a7)/\IsX K (.ref a7) (qOf K<|.ref a7):=⟨R.g b9,lw rfl⟩
 have cq:(qOf K<|.ref a7) aa=some false:=gR ag bL;have bi:(qOf K<|.ref a7) ac=some false:=gR ae bf;have bn:(qOf K<|.ref a7) ad=some false:=gR af bh;have sT:mg "TooMany"=some (.ref ad)/\IsX K (.ref ad) (qOf K<|.ref ad):=⟨R.g bF,lw rfl⟩
 have cb:(qOf K<|.ref ad) aa=some false:=gR ag br;have aE:(qOf K<|.ref ad) ac=some false:=gR ae ay;have aJ:(qOf K<|.ref ad) ad=some true:=gR af aD;have uK:mg "NoThing"=some (.ref ac)/\IsX K (.ref ac) (qOf K<|.ref ac):=⟨R.g bH,lw rfl⟩
 have ce:(qOf K<|.ref ac) aa=some false:=gR ag bj;have aK:(qOf K<|.ref ac) ac=some true:=gR ae aB;have aF:(qOf K<|.ref ac) ad=some false:=gR af aH;have xf:IsX K (.ty "ValueError") (qOf K<|.type "ValueError"):=lw rfl;have bX:(qOf K<|.type "ValueError") aa=some true:=gR ag ax;have au:(qOf K<|.type "ValueError") ac=some true:=gR ae ar;have ap:(qOf K<|.type "ValueError") ad=some true:=gR af aq;have sW:mg "HalfError"=some (.ref bA)/\∀C∈([aa,ac,ad]:ś),PySem.W.exmOne K (.ref C) (.ref bA)=some true:=⟨R.g bS,fun C hC=>by
  simp only[S2,TN,U3] at hC;rcases hC with rfl|rfl|rfl
  .exact xV am ak aj aI
  .exact xV am ak aj av
  .exact xV am ak aj aw⟩
 have yc:=fdX (k:=1) R A1 (JQ A1.F jV);have u8:=fdk (k:=1) R A2 (MD A2.F);have y0:=fdk (k:=2) R A3 (QE A3.F u8 ⋯);have ll:=fdX (k:=3) R A4 (Jv A4.F y0 ⋯ yc ⋯ iB);have xO:=fdX (k:=4) R A5 (PB A5.F ll ⋯ rZ);have yz:=fdk (k:=1) R A6 (HN A6.F);have yN:=fdk (k:=1) R A7 (HU A7.F nM xp iS);have ln:=fdX (k:=2) R A8 (GC A8.F yN ⋯ jH lY iS);have xU:=fdX (k:=5) R A9 (Pn A9.F yz ⋯ xO ⋯ ln ⋯);have xT:=fdk (k:=1) R cX (K8 cX.F vm nA);have vR:=fdk (k:=2) R dc (HZ dc.F xT ⋯ iH);have lh:=fdk (k:=3) R da (Mm da.F vR ⋯);have pC:=fdk (k:=1) R df (JK df.F io iB);have om:=fdX (k:=6) R cK (Sc cK.F pC ⋯ lh ⋯ xU ⋯);have lm:=fdk (k:=1) R cN (Sl cN.F iS);have ja:=fdX (k:=1) R cZ (Nm cZ.F jV lY);have xz:=fiK (k:=2) R bY ah cU (EG cU.F lm ⋯ nW lJ pw mn);have ng:∀n,MtC l.prog w K mg base CX0 (2+3*n) ai "tree_within" ["self","left","asks"] (spM K<|ut ai n):=fun n=>by
  induction n with
  |zero=>exact fmK ah.cl cr wH
  |succ n ih=>
   have u6:=fmK (k:=2+3*n+1) ah.cl cQ (P9 cQ.F ih ⋯ lJ jM);have xj:=fmK (k:=2+3*n+2) ah.cl dg (KL dg.F pC ⋯ u6 ⋯ pw nW io);exact fmK (k:=2+3*n+3) ah.cl cr (EA cr.F xj ⋯ mn)
 have yF:=fdk (k:=33) R db (Jq db.F xz ⋯ (ng 10) ⋯ iH jM iS);have pU:=fdX (k:=34) R cT (Pu cT.F lh ⋯ yF ⋯ ln ⋯);have oB:=fdX (k:=35) R cR (F5 cR.F ja ⋯ pU ⋯ p8);have xZ:=fdX (k:=35) R dj (FV dj.F ja ⋯ pU ⋯ qG);have x8:=fdk (k:=1) R c9 (Pc c9.F);have wu:=fdk (k:=1) R c3 (O7 c3.F iB);have zd:=fdk (k:=2) R cV (HP cV.F wu ⋯ x8 ⋯ iB);have wN:=fdk (k:=1) R cW (P6 cW.F);have yC:=fdX (k:=4) R cM (NT cM.F zd ⋯ wN ⋯ lh ⋯ ja ⋯ ln ⋯ jH iB);have yD:=fdk (k:=1) R cS (Lx cS.F iU jM iH yJ);have yE:=fdk (k:=2) R cY (Fi cY.F yD ⋯ iU nA iH iB);have rA:∀n,Df l.prog w K mg base (7+n) "is_let_by" ["many","answers","asks","paper"] (spM K<|mmL ac aa ad n):=fun n=>by
  induction n with
  |zero=>exact fdk R cu wH
  |succ n ih=>exact fdk (k:=7+n+1) R cu (EM cu.F (Df.dn ll) ⋯ (Df.dn om) ⋯ lm ⋯ yE ⋯ ih ⋯ io iU jM iH u4)
 have vP:=fdX (k:=18) R cO (Sq cO.F (rA 10) ⋯ ja ⋯ kX kP);have qX:∀n,Df l.prog w K mg base (7+2*n) "paper_behind" ["many","answers","asks"] (spM K<|mmB ac aa ad n):=fun n=>by
  induction n with
  |zero=>exact fdk R cC wH
  |succ n ih=>
   have wn:=fdk (k:=7+2*n+1) R dh (Qi dh.F ih ⋯);exact fdk (k:=7+2*n+2) R cC (IP cC.F (Df.dn ll) ⋯ (Df.dn om) ⋯ lm ⋯ wn ⋯ io)
 have v8:=fdX (k:=36) R c7 (JW c7.F (qX 10) ⋯ ja ⋯ oB ⋯ kX kP);have vh:=fdk (k:=1) R di (Kr di.F yH nM);have my:=fdk (k:=1) R de (Pb de.F);have uU:=fdk (k:=1) R c4 (LQ c4.F uF t9 uA sJ tE uB sT uK xf iU wS);have qw:=fdk (k:=37) R cP (Ge cP.F uU ⋯ yC ⋯ oB ⋯ xZ ⋯ vP ⋯ v8 ⋯ sW);exact NX (R3 cB.F vh ⋯ my ⋯ qw ⋯ iS) (PM (CS:=ai) (C:=ac) (CF:=aa) (CT:=ad) (cs:=[aa,ac,ad]) ⟨by simp,by simp,fun O=>PN,fun O k hk=>CI 1 (.inl rfl) hk aA aW aR aN bt bi aE aK au,fun O k hk=>CI 2 (.inr rfl) hk aL aP aQ aU bp bn aJ aF ap⟩)
theorem walk{l:PySem.W.OpenLaw}{q:Program}{loose:Ŗ}{XP:ő->Heap->Prop}{YP:World->Heap->Prop}{d:DefRec}{K:Params->Frag}(hn:l.most=some 63)(hdf:d.params.defaults=[])
  (hY:∀(w:World) (h:Heap),YP w h->(K w.params).In h)
  (F:∀(w:World) (mg:ő) (fa:Addr) (h:Heap),(K w.params).In h->h.Ns mainGlobals mg->mg d.name=some (.ref fa)->
   ∃fd:FuncData,(∀(s:Shared) (u:Value),BindsTo s fd ⟨[u],[]⟩ [("script",u)])/\∀base:Heap,(K w.params).In base->base.Ns mainGlobals mg->FnOk l.prog w (K w.params) mg base CX0 38 fa fd ["script"] (uu<|K w.params)):
  PySem.W.WalkO q loose XP YP l.row.toRowW d [] (fun f vs=>PySem.call f vs):=
 L2.walk_of (n:=63) (k:=38) (x:="script") (CX:=fun _=>CX0) (sp:=fun w=>uu<|K w.params) hn (by decide) hdf ⟨rfl,by decide,by decide,rfl⟩ hY F (fun _ _ a ns hl hO hS=>⟨a,ns,rfl,hO,hS,hl,fun _=>rfl⟩) fun _ _ _ _ _ z=>z
end Law
namespace PySem.W.Fast
def tw11940828520159400292:=0
def tw14800451252811920147:=0
def tw4268883266435690709:=0
def tw7632829423473274231:=0
def tw6255345512177177765:=0
def tw6128456995356209712:=0
def tw13789958853479090251:=0
def tw4303318708789722486:=0
def tw16926019044406320295:=0
def tw14865379106547518990:=0
def tw12760661666722382207:=0
def tw1742094043519077054:=0
def tw8467657745869045175:=0
def tw2928544765103544755:=0
def tw2161382584808399207:=0
def tw2410126854261772046:=0
def tw3680310289635544420:=0
def tw15178491152240168963:=0
def tw4452888533461906506:=0
def tw1468321718743211953:=0
def tw14369316900522134849:=0
def tw5041817940057730385:=0
def tw9294320424814008784:=0
def tw11574020378253993805:=0
def tw2808341869880671990:=0
def tw1775503595373283834:=0
def tw15637016794257171246:=0
def tw2332692401382373374:=0
def tw5376125861360422204:=0
def tw1065844977748129655:=0
def tw13221566875227473286:=0
def tw2269102380340050368:=0
def tw12220178287591943711:=0
def tw10946206328547794269:=0
def tw14302761240943776994:=0
def tw258271355130407130:=0
def tw15606199178757578361:=0
def tw1492114336182120821:=0
def tw9929566547318205203:=0
def tw7968546263161493043:=0
def tw3381132398941699314:=0
def tw14306782866842955967:=0
def tw16936883736507823424:=0
def tw11186934399332543160:=0
def tw12107745300978996209:=0
def tw16256364190246496286:=0
def tw18174190672714448467:=0
def tw3435031571657812288:=0
def tw5944960798615194124:=0
def tw9000275499988318804:=0
def tw4524760497536186983:=0
def tw12765159108898012782:=0
def tw419881974456582568:=0
def tw4826468669788764367:=0
def tw14603157380447432385:=0
def tw14997561888070221024:=0
def tw16714774533977546247:=0
def tw8543314256921872718:=0
def tw11723698204005882070:=0
def tw17206282607282492883:=0
end PySem.W.Fast
open PySem PySem.W PyProof.Rows
set_option maxRecDepth 100000 in
set_option maxHeartbeats 0 in
theorem PySem.Challenge.cw_morethanhalf_k19_no_such_things_holds : PySem.Challenge.rw_morethanhalf_k19_no_such_things.Holds := by
 w_on;o_law;k_head;(case hw=>w_witness2)
 k_fill
 refine Law.walk (l:=PySem.Challenge.rw_morethanhalf_k19_no_such_things) rfl rfl (fun w h Y=>PySem.W.kIn_of Y) ?F
 case F=>
  intro w mg fa h KX G hmg;refine' Law.all_mk KX G hmg (L3.nq ?_) (L3.nq ?_) (L3.nq ?_) (L3.nq ?_) (L3.nq ?_) (L3.nq ?_) (L3.nq ?_) (L3.nq ?_) (L3.nq ?_) (L3.nq ?_) (L3.gf_mk ?_ ?_ ?_ ?_) (L3.gf_mk ?_ ?_ ?_ ?_) (L3.gf_mk ?_ ?_ ?_ ?_) (L3.gf_mk ?_ ?_ ?_ ?_) (L3.gf_mk ?_ ?_ ?_ ?_) (L3.gf_mk ?_ ?_ ?_ ?_) (L3.gf_mk ?_ ?_ ?_ ?_) (L3.gf_mk ?_ ?_ ?_ ?_) (L3.gf_mk ?_ ?_ ?_ ?_) (L3.gf_mk ?_ ?_ ?_ ?_) (L3.gf_mk ?_ ?_ ?_ ?_) (L3.gf_mk ?_ ?_ ?_ ?_) (L3.gf_mk ?_ ?_ ?_ ?_) (L3.gf_mk ?_ ?_ ?_ ?_) (L3.gf_mk ?_ ?_ ?_ ?_) (L3.gf_mk ?_ ?_ ?_ ?_) (L3.mf_mk ?_ ?_ ?_ ?_ ?_) (L3.mf_mk ?_ ?_ ?_ ?_ ?_) (L3.mf_mk ?_ ?_ ?_ ?_ ?_) (L3.mf_mk ?_ ?_ ?_ ?_ ?_) (L3.gf_mk ?_ ?_ ?_ ?_) (L3.gf_mk ?_ ?_ ?_ ?_) (L3.gf_mk ?_ ?_ ?_ ?_) (L3.gf_mk ?_ ?_ ?_ ?_) (L3.gf_mk ?_ ?_ ?_ ?_) (L3.gf_mk ?_ ?_ ?_ ?_) (L3.gf_mk ?_ ?_ ?_ ?_) (L3.gf_mk ?_ ?_ ?_ ?_) (L3.gf_mk ?_ ?_ ?_ ?_) (L3.gf_mk ?_ ?_ ?_ ?_) (L3.gf_mk ?_ ?_ ?_ ?_) (L3.gf_mk ?_ ?_ ?_ ?_) (L3.gf_mk ?_ ?_ ?_ ?_) (L3.gf_mk ?_ ?_ ?_ ?_) (L3.gf_mk ?_ ?_ ?_ ?_) (L3.gf_mk ?_ ?_ ?_ ?_) (L3.gf_mk ?_ ?_ ?_ ?_) (L3.gf_mk ?_ ?_ ?_ ?_) (L3.gf_mk ?_ ?_ ?_ ?_) (L3.gf_mk ?_ ?_ ?_ ?_) (L3.gf_mk ?_ ?_ ?_ ?_) (L3.nq ?_) (L3.nq ?_) ?_ ?bR ?bU (L3.nq ?_) (L3.nq ?_) (L3.nq ?_) (L3.nq ?_) (L3.nq ?_) (L3.nq ?_) (L3.nq ?_) (L3.nq ?_) (L3.nq ?_) (L3.nq ?_) (L3.nq ?_) (L3.nq ?_) (L3.nq ?_) (L3.nq ?_) (L3.nq ?_) (L3.nq ?_) (L3.nq ?_) (L3.oc_mk ?_ ?_ ?_ ?_ ?_ ?_) ?_ ?_ ?_ ?_ ?_ ?_ ?_ (L3.ri_mk ?_ ?_ ?_ ?_) (L3.ei_mk ?_ ?_ ?_ ?_ ?_ ?_ ?_ ?_) ?_ ?_ ?_ ?_ ?_ ?_ ?_ ?_ ?_ ?_ (L3.ri_mk ?_ ?_ ?_ ?_) (L3.ei_mk ?_ ?_ ?_ ?_ ?_ ?_ ?_ ?_) ?_ ?_ ?_ ?_ ?_ ?_ ?_ ?_ ?_ ?_ (L3.ri_mk ?_ ?_ ?_ ?_) (L3.ei_mk ?_ ?_ ?_ ?_ ?_ ?_ ?_ ?_) ?_ ?_ ?_ ?_ ?_ ?_ ?_ ?_ ?_ ?_;any_goals k_is
  (case bR=>rfl)
  (case bU=>rfl)
  all_goals(first|k_is|kit_is|kernel_rfl|skip)

