import PyProof.Rows.All
import Wide.All
import OpenK.AllK
import Wide.FinOn
import Lean
import PyProof.EqAt
import PyProof.EqKinds
import PyProof.TupleCall
import KE.KUnpack
import PyProof.NeKinds
import PyProof.FactsAll.tuple_2
import PyProof.WalksMore
import PyProof.AttrMissHeap
import KE.KDictOf
import PyProof.ExcBaseAll.ValueError
import KE.KTryMore
import PyProof.Rows.CallKwBuiltin
import PySem.Challenge.RW_mixform_k25_one_equation
set_option Elab.async false
set_option linter.all false
set_option maxRecDepth 100000
set_option maxHeartbeats 4000000
set_option bootstrap.genMatcherCode false
local macro_rules|`(⋯)=>`(by lia)
section
open PySem PySem.W PySem.Spec PyProof.Rows
def Rr:=@wpAny_bind
def Rt:=@Option.bind_eq_some_iff
def Rv:=@Heap.get?_push_of_some
def Rw:=@wpAny_pure
def Ry:=@Bool.and_eq_true
def Rz:=@List.size_toArray
def RA:=@of_decide_eq_true
def RB:=@List.getElem?_eq_some_iff
def RC:=@List.mem_cons_of_mem
def RD:=@kasC_bind
def RE:=@Nat.le_refl
def RF:=@List.mem_cons_self
def RG:=@Heap.get?_push_size
def RH:=@kasC_pure
def RI:=@List.length_map
def RJ:=@Heap.lt_size
def RK:=@Nat.le_trans
def RL:=@List.mem_cons
def RM:=@List.not_mem_nil
def RN:=@List.append_assoc
def RP:=@Option.map_eq_some_iff
def RQ:=@List.length_append
def RT:=@List.getElem?_set_ne
def RU:=@List.length_cons
def RW:=@List.getElem?_map
def RY:=@Array.length_toList
def RZ:=@Nat.lt_of_lt_of_le
def R0:=@List.mem_append
def R3:=@eq_of_beq
def R4:=@List.getElem?_eq_getElem
def R5:=@decide_eq_false
def R6:=@List.lookup_cons
def R7:=@KeyOrd.kle_trans
def R8:=@Heap.get?_update_other
def R9:=@decide_eq_true
def Sa:=@Heap.size_push
def Sb:=@Nat.ne_of_lt
def Sd:=@List.mem_append_right
def Se:=@wpAny_setField_rec
def Sf:=@List.mem_singleton
def Sg:=@List.mem_map
def Sh:=@List.all_eq_true
def Si:=@List.any_eq_true
def Sj:=@Int.emod_nonneg
def Sk:=@Int.emod_lt_of_pos
def Sl:=@List.append_nil
def Sm:=@Bool.or_eq_true
def Sn:=@List.getElem?_append_left
def So:=@List.getElem?_append_right
def Sr:=@List.map_cons
def Ss:=@List.map_append
def Su:=@List.getElem?_set_self
def Sv:=@List.mem_range
def Sw:=@Array.eq_empty_of_size_eq_zero
def Sy:=@Array.getD_eq_getD_getElem?
def Sz:=@Array.toList_append
def SA:=@Array.toList_extract
def SB:=@Array.toList_inj
def SC:=@Array.toList_reverse
def SD:=@Bool.and_false
def SE:=@Bool.and_true
def SF:=@Bool.eq_iff_iff
def SG:=@Bool.false_eq_true
def SJ:=@Bool.false_ne_true
def SL:=@Bool.not_eq_true'
def SM:=@Bool.not_true
def SN:=@Bool.or_eq_true_iff
def SQ:=@Bool.or_true
def SR:=@Classical.byContradiction
def SU:=@F.args_tuple_iterator_next_1
def SV:=@F.entry_tuple_iterator_next
def SW:=@F.slot_tuple_iterator_next
def SX:=@F.slot_zip_next
def SY:=@Int.le_refl
def SZ:=@Int.lt_or_gt_of_ne
def S4:=@Int.mul_assoc
def S5:=@Int.mul_comm
def S6:=@Int.mul_le_mul_of_nonneg_left
def S7:=@Int.mul_le_mul_of_nonneg_right
def S8:=@Int.mul_nonneg
def S9:=@Int.mul_zero
def Ta:=@Int.natAbs_mul
def Tb:=@Int.sub_self
def Tc:=@Int.sub_zero
def Td:=@Int.toNat_natCast
def Te:=@Int.zero_add
def Tf:=@Int.zero_mul
def Th:=@KeyOrd.kle_of_klt
def Ti:=@KeyOrd.kle_refl
def Tj:=@KeyOrd.klt_of_kle_of_klt
def Tn:=@KeyOrd.klt_of_klt_of_kle
def To:=@List.Perm.append_left
def Tp:=@List.Perm.refl
def Tq:=@List.all_cons
def Tr:=@List.any_eq_false
def Tt:=@List.any_map
def Tu:=@List.cons.injEq
def Tv:=@List.cons_append
def Tw:=@List.dropLast_concat_getLast
def Tx:=@List.drop_eq_getElem_cons
def Tz:=@List.drop_of_length_le
def TC:=@List.drop_sublist
def TF:=@List.drop_succ_cons
def TH:=@List.drop_zero
def TJ:=@List.eq_nil_of_length_eq_zero
def TK:=@List.eq_of_mem_replicate
def TL:=@List.exists_mem_of_ne_nil
def TM:=@List.filterMap_cons
def TN:=@List.flatMap_cons
def TQ:=@List.flatten_cons
def TR:=@List.forIn_cons
def TU:=@List.getD_eq_getElem?_getD
def TV:=@List.getElem?_cons_zero
def TX:=@List.getElem?_replicate
def TY:=@List.getElem?_set
def TZ:=@List.getElem?_take_of_lt
def T2:=@List.getElem_mem
def T3:=@List.getElem_of_mem
def T4:=@List.getElem_toArray
def T5:=@List.length_drop
def T6:=@List.length_nil
def T7:=@List.length_range
def T8:=@List.length_range'
def T9:=@List.length_replicate
def Ua:=@List.length_set
def Ub:=@List.length_singleton
def Uc:=@List.length_take
def Ud:=@List.length_zip
def Ue:=@List.map_congr_left
def Ug:=@List.map_flatMap
def Uh:=@List.map_map
def Ui:=@List.map_nil
def Uj:=@List.mem_append_left
def Uk:=@List.mem_filter
def Ul:=@List.mem_filterMap
def Um:=@List.mem_flatMap
def Uo:=@List.mem_iff_getElem?
def Uq:=@List.mem_of_getElem?
def Ur:=@List.mem_of_mem_take
def Us:=@List.nil_append
def Ut:=@List.nodup_cons
def Uu:=@List.of_mem_zip
def Uv:=@List.pairwise_append
def Uw:=@List.pairwise_cons
def Ux:=@List.pairwise_iff_getElem
def Uy:=@List.pairwise_map
def Uz:=@List.perm_append_comm
def UA:=@List.replicate_succ
def UB:=@List.set_eq_take_append_cons_drop
def UC:=@List.sum_cons
def UD:=@List.take_add_one
def UE:=@List.take_append_drop
def UF:=@List.take_length
def UG:=@List.take_of_length_le
def UH:=@List.take_sublist
def UI:=@List.take_succ_cons
def UJ:=@List.take_zero
def UK:=@List.zipIdx_cons
def UL:=@List.zip_cons_cons
def UM:=@List.zip_nil_left
def UN:=@List.zip_nil_right
def UO:=@Nat.le_mul_of_pos_left
def UP:=@Nat.le_of_lt
def UQ:=@Nat.le_succ
def UR:=@Nat.lt_irrefl
def US:=@Nat.lt_of_le_of_lt
def UT:=@Nat.lt_succ_of_lt
def UU:=@Nat.lt_succ_self
def UV:=@Nat.mul_le_mul
def UW:=@Nat.mul_le_mul_right
def UX:=@Nat.ne_of_gt
def UY:=@Nat.sub_self
def UZ:=@Nat.succ_mul
def U0:=@Nat.zero_add
def U1:=@Nat.zero_le
def U2:=@Ne.symm
def U4:=@Option.some.inj
def U5:=@PyProof.Rows.callWith_type1
def U6:=@PyProof.Rows.slot_tuple_getitem
def U7:=@PySem.F.args_tuple_add_2
def U8:=@PySem.F.entry_tuple_add
def U9:=@PySem.F.slot_tuple_add
def Va:=@PySem.F.slot_tuple_mul
def Vb:=@PySem.W.cellsFrom_some
def Vc:=@PySem.W.kia_one
def Vd:=@PySem.mem_of_lookup
def Ve:=@beq_eq_false_iff_ne
def Vf:=@beq_self_eq_true
def Vg:=@call_meets
def Vh:=@congrArg
def Vi:=@decide_eq_true_eq
def Vj:=@if_false
def Vk:=@if_neg
def Vl:=@if_pos
def Vm:=@if_true
def Vn:=@kasC_get
def Vo:=@kasC_lift
def Vp:=@kasC_modify
def Vq:=@kasC_range
def Vr:=@noFill_tuple_add
def Vs:=@of_decide_eq_false
def Vt:=@or_false
def Vu:=@pushCells_keeps
def Vv:=@sizeLine_eq
def Vw:=@wpAny_Call_Name_kw
def Vx:=@wpAny_callSpecial?_slot
def Vy:=@wpAny_call_entry
def Vz:=@wpAny_field
def VA:=@wpAny_holding
def VB:=@wpAny_mono
def VC:=@wpAny_newObj_type
def VD:=@wpAny_onRaise
def VE:=@wpAny_passesOwn
def VF:=@wpAny_pyIter_list
def VG:=@wpAny_pyIter_tuple
def VH:=@wpAny_rule
def VI:=@wpAny_seqItems
def VJ:=@wpAny_standAt
def VL:=@wpAny_truthy_bool
def VM:=@wpAny_typeOf
def VN:=@wpAny_updateSeq_pair
end
section
namespace L2
open PySem PySem.Spec PyProof.Rows
noncomputable abbrev Key:=Sum Int Str
noncomputable def Dp:Key->Value->Bool
 |.inl k,v=>Value.isInt k v
 |.inr x,v=>Value.isStrOf x v
noncomputable def MY(w:World):Key->Int
 |.inl k=>hashInt k
 |.inr x=>hashStr w x
theorem br:∀{k:Key}{v:Value},Dp k v=true->(∃i t,k=Sum.inl i/\v=Value.int i t)\/(∃x t,k=Sum.inr x/\v=Value.str x t)
 |.inl i,v,h=>by obtain⟨t,e⟩:=Value.isInt_shape (k:=i) (v:=v) h;exact .inl ⟨i,t,rfl,e⟩
 |.inr x,v,h=>by obtain⟨t,e⟩:=Value.isStrOf_shape (x:=x) (v:=v) h;exact .inr ⟨x,t,rfl,e⟩
theorem Fe(a b:Int):decide ((Sum.inl a:Key)=Sum.inl b)=(a==b):=by
 by_cases e:a=b
 ·subst e;simp
 ·have h:¬(Sum.inl a:Key)=Sum.inl b:=λq=>e (Sum.inl.inj q)
  rw[R5 h];exact(Ve.mpr e).symm
theorem Fh(a b:Str):decide ((Sum.inr a:Key)=Sum.inr b)=decide (a=b):=by
 by_cases e:a=b
 ·subst e;simp
 ·have h:¬(Sum.inr a:Key)=Sum.inr b:=λq=>e (Sum.inr.inj q)
  rw[R5 h,R5 e]
theorem Ff(a:Int)(b:Str):decide ((Sum.inl a:Key)=Sum.inr b)=false:=R5 (λq=>nomatch q)
theorem Fg(a:Str)(b:Int):decide ((Sum.inr a:Key)=Sum.inl b)=false:=R5 (λq=>nomatch q)
noncomputable def pv(prog:Program)(w:World):PySem.KeyKind prog w Key where
 is:=Dp
 hash:=MY w
 inj:=λv a b ha hb=>by
  rcases br ha with ⟨i,t,rfl,rfl⟩|⟨x,t,rfl,rfl⟩
  ·rcases br hb with ⟨j,u,rfl,e⟩|⟨y,u,rfl,e⟩
   ·injection e with e1 _;rw[e1]
   ·exact nomatch e
  ·rcases br hb with ⟨j,u,rfl,e⟩|⟨y,u,rfl,e⟩
   ·exact nomatch e
   ·injection e with e1 _;rw[e1]
 byValue:=λk v h=>by rcases br h with ⟨i,t,rfl,rfl⟩|⟨x,t,rfl,rfl⟩<;>rfl
 pyHash:=λhv h=>by
  rcases br hv with ⟨i,t,rfl,rfl⟩|⟨x,t,rfl,rfl⟩
  ·exact wpAny_pyHash_int h
  ·exact wpAny_pyHash_str h
 eqBool:=λhu hv h=>by
  rcases br hu with ⟨i,t,rfl,rfl⟩|⟨x,t,rfl,rfl⟩
  ·rcases br hv with ⟨j,u,rfl,rfl⟩|⟨y,u,rfl,rfl⟩
   ·rw[Fe]at h;exact wpAny_eqBool_int h
   ·rw[Ff]at h;exact SeqAt.EqAt.int_str i t y u _ _ _ _ h
  ·rcases br hv with ⟨j,u,rfl,rfl⟩|⟨y,u,rfl,rfl⟩
   ·rw[Fg]at h;exact SeqAt.EqAt.str_int x t j u _ _ _ _ h
   ·rw[Fh]at h;exact wpAny_eqBool_str h
 «strs»:=λk x t v h=>by
  rcases br h with ⟨i,u,rfl,e⟩|⟨y,u,rfl,e⟩
  ·exact nomatch e
  ·injection e with e1 _;subst e1;cases v<;>rfl
end L2
namespace L2
open PySem PySem.Spec PyProof.Rows
inductive V where
 |aW|bl (b:Bool)|int (i:Int)|str (x:Str)|Em (b:Array UInt8)|AO (b:UInt64)|ref (a:Addr)|ty (n:String)
 deriving DecidableEq
noncomputable def RelV:V->Value->Prop
 |.aW,u=>u=Value.none
 |.bl b,u=>u=Value.bool b
 |.int i,u=>∃t,u=Value.int i t
 |.str x,u=>∃t,u=Value.str x t
 |.Em b,u=>∃t,u=Value.bytes b t
 |.AO b,u=>∃t,u=Value.float b t
 |.ref a,u=>u=Value.ref a
 |.ty n,u=>u=Value.type n
noncomputable abbrev ar:List V->List Value->Prop:=Paired RelV
theorem ar.length{xs:List V}{us:List Value}(r:ar xs us):xs.length=us.length:=Paired.length r
theorem ar.get:∀{xs:List V}{us:List Value}{i:Nat}{x:V},ar xs us->xs[i]?=some x->∃u,us[i]?=some u/\RelV x u
 |_,_,_,_,.nil,e=>by simp at e
 |_,_,0,_,.cons r _,e=>by simp at e;subst e;exact⟨_,rfl,r⟩
 |_,_,i+1,x,.cons _ t,e=>by obtain⟨u,h1,h2⟩:=ar.get (i:=i) (x:=x) t (by simpa using e);exact⟨u,by simpa using h1,h2⟩
theorem ar.set{x:V}{u:Value}(r:RelV x u):∀{xs:List V}{us:List Value}(i:Nat),ar xs us->ar (xs.set i x) (us.set i u)
 |_,_,_,.nil=>.nil
 |_,_,0,.cons _ t=>.cons r t
 |_,_,i+1,.cons q t=>.cons q (ar.set r i t)
theorem ar.append:∀{xs ys:List V}{us ws:List Value},ar xs us->ar ys ws->ar (xs++ys) (us++ws)
 |_,_,_,_,.nil,s=>s
 |_,_,_,_,.cons r t,s=>.cons r (ar.append t s)
theorem ar.take:∀{xs:List V}{us:List Value}(n:Nat),ar xs us->ar (xs.take n) (us.take n)
 |_,_,0,_=>.nil
 |_,_,_+1,.nil=>.nil
 |_,_,n+1,.cons r t=>.cons r (ar.take n t)
theorem ar.drop:∀{xs:List V}{us:List Value}(n:Nat),ar xs us->ar (xs.drop n) (us.drop n)
 |_,_,0,r=>r
 |_,_,_+1,.nil=>.nil
 |_,_,n+1,.cons _ t=>ar.drop n t
noncomputable def D1:Option V->Option Value->Prop
 |some v,some u=>RelV v u
 |none,none=>True
 |_,_=>False
noncomputable def KV{κ:Type}:List (κ×V)->List (κ×Value)->Prop:=Paired λ(p:κ×V)(q:κ×Value)=>p.1=q.1/\RelV p.2 q.2
noncomputable def kV:Key->V
 |.inl i=>.int i
 |.inr x=>.str x
inductive HO where
 |lst (xs:List V)
 |tup (xs:List V)
 |dK (cY:List (Key×V))|dT (cY:List (List Key×V))
 |set (S:Int->Bool) (n:Nat)
 |ins (C dx:Addr) (fs:List (Str×V))
 |own (x:Addr)
 |xd (fs:List (Str×V))
 |met (f x:Addr)
 |Nz (lo hi:Int)
 |uH (o:Obj) (u:HO)
 |A5 (ps:Array Value)
 |ext (φ:Heap->Prop)
noncomputable abbrev Hp:=Addr->Option HO
noncomputable def upd(H:Hp)(a:Addr)(o:HO):Hp:=λb=>if b=a then some o else H b
theorem aM{H:Hp}{a:Addr}{o:HO}:upd H a o a=some o:=by unfold upd;rw[Vl rfl]
theorem aJ{H:Hp}{a b:Addr}{o:HO}(h:b≠a):upd H a o b=H b:=by unfold upd;rw[Vk h]
theorem bc{H:Hp}{a b:Addr}{o:HO}(h:H a=some o)(h':H b=none):a≠b:=by intro e;subst e;rw[h]at h';cases h'
noncomputable def mD(h:Heap)(a:Addr)(items:Array Value):Prop:=∃o,h.get? a=some o/\o.cls= .type "tuple"/\∃n,o.data= .seq items n/\o.dict=none/\o.slots=#[]
theorem mD.is{h:Heap}{a:Addr}{items:Array Value}:mD h a items->IsTup h a items
 |⟨o,a,b,n,c,_⟩=>⟨o,a,b,n,c⟩
theorem mD.new(h:Heap)(items:Array Value):mD (h.push {cls:=.type "tuple",data:=.seq items}) h.objs.size items:=⟨_,RG _ rfl,rfl,_,rfl,rfl,rfl⟩
section
variable(P:Program)(w:World)
noncomputable def bM(H:Hp)(h:Heap)(a:Addr):HO->Prop
 |.lst xs=>xs.length<=sizeLine/\∃(its:List Value)(n:Nat),ar xs its/\h.get? a=some {cls:=.type "list",data:=.seq its.toArray n}
 |.tup xs=>xs.length<=sizeLine/\∃its:List Value,ar xs its/\mD h a its.toArray
 |.dK cY=>cY.length<=sizeLine/\(a==sysModules)=false/\∃vs,KV cY vs/\h.DictOf (pv P w) a vs
 |.dT cY=>cY.length<=sizeLine/\(a==sysModules)=false/\∃xs:List (List Key×Addr×Value),
   Paired (λ(p:List Key×V)(q:List Key×Addr×Value)=>p.1=q.1/\H q.2.1=some (.tup (p.1.map kV))/\RelV p.2 q.2.2) cY xs/\
   ∃o es ep,h.get? a=some o/\o.ExactDict/\o.data= .dict es ep/\es.toList=xs.map (entryOfKey (tupleKind (pv P w)))/\(xs.map (·.1)).Nodup
 |.set S n=>h.SetOf (intKind P w) a S n
 |.ins C dx fs=>H dx=some (.own a)/\fs.length<=1000/\dx≠a/\h.get? a=some (PySem.W.instObj C dx)/\
   ∃mA,h.Ns1 dx mA/\(∀f,D1 (fs.lookup f) (mA f))/\PySem.Within mA (fs.map (·.1))
 |.own _=>∃o,h.get? a=some o
 |.xd fs=>∃mA,h.Ns1 a mA/\∀f,D1 (fs.lookup f) (mA f)
 |.Nz lo hi=>∃t u v,h.get? a=some {cls:=.type "range",data:=.fields #[.int lo t,.int hi u,.int 1 v]}
 |.uH o u=>h.get? a=some o/\bM H h a u
 |.A5 ps=>h.get? a=some {cls:=.none,data:=.fields ps}
 |.met f x=>h.get? a=some (PySem.W.methodObj (.ref f) (.ref x))
 |.ext φ=>φ h/\(∃o,h.get? a=some o)/\∀h1 h2:Heap,φ h1->(∀o,h1.get? a=some o->h2.get? a=some o)->φ h2
noncomputable def fg(H:Hp)(h:Heap):Prop:=∀a o,H a=some o->bM P w H h a o
end
section
variable{P:Program}{w:World}{H H':Hp}{h h':Heap}{a:Addr}{o:HO}
theorem bM.lt(x:bM P w H h a o):a<h.objs.size:=by
 cases o with
 |lst xs=>obtain⟨_,_,_,_,e⟩:=x;exact RJ e
 |tup xs=>obtain⟨_,_,_,p⟩:=x;exact p.is.lt
 |dK cY=>obtain⟨_,_,_,_,o,_,_,e,_⟩:=x;exact RJ e
 |dT cY=>obtain⟨_,_,_,_,o,_,_,e,_⟩:=x;exact RJ e
 |set S n=>obtain⟨o,_,_,_,e,_⟩:=x;exact RJ e
 |ins C dx fs=>obtain⟨_,_,_,e,_⟩:=x;exact RJ e
 |own y=>obtain⟨_,e⟩:=x;exact RJ e
 |xd fs=>obtain⟨_,⟨_,_,_,e,_⟩,_⟩:=x;exact RJ e
 |Nz lo hi=>obtain⟨_,_,_,e⟩:=x;exact RJ e
 |uH ob u=>obtain⟨e,_⟩:=x;exact RJ e
 |A5 ps=>exact RJ (show h.get? a=some _ from x)
 |met f y=>exact RJ (show h.get? a=some _ from x)
 |ext φ=>obtain⟨_,⟨_,e⟩,_⟩:=x;exact RJ e
theorem Paired.Jj{α β:Type}{F G:α->β->Prop}:∀{l₁:List α}{l₂:List β},Paired F l₁ l₂->(∀a b,F a b->G a b)->Paired G l₁ l₂
 |_,_,.nil,_=>.nil
 |_,_,.cons r t,f=>.cons (f _ _ r) (Paired.Jj t f)
theorem bM.tT(x:bM P w H h a o)(k:∀b u,(b=a\/H b=some (.own a))->h.get? b=some u->h'.get? b=some u)
  (ho:∀b,H b=some (.own a)->H' b=some (.own a)) (ht:∀b xs,H b=some (.tup xs)->H' b=some (.tup xs)):bM P w H' h' a o:=by
 induction o with
 |lst xs=>obtain⟨z,its,n,r,e⟩:=x;exact⟨z,its,n,r,k _ _ (.inl rfl) e⟩
 |tup xs=>obtain⟨z,its,r,ob,e,c⟩:=x;exact⟨z,its,r,ob,k _ _ (.inl rfl) e,c⟩
 |dK cY=>obtain⟨z,y,vs,r,ob,es,ep,e,c⟩:=x;exact⟨z,y,vs,r,ob,es,ep,k _ _ (.inl rfl) e,c⟩
 |dT cY=>obtain⟨z,y,xs,r,ob,es,ep,e,c⟩:=x;exact⟨z,y,xs,Paired.Jj r λp q z=>⟨z.1,ht _ _ z.2.1,z.2.2⟩,ob,es,ep,k _ _ (.inl rfl) e,c⟩
 |set S n=>obtain⟨ob,es,ep,t,e,c⟩:=x;exact⟨ob,es,ep,t,k _ _ (.inl rfl) e,c⟩
 |ins C dx fs=>obtain⟨d,z,ne,e,mA,⟨od,es,ep,e2,c⟩,r⟩:=x;exact⟨ho _ d,z,ne,k _ _ (.inl rfl) e,mA,⟨od,es,ep,k _ _ (.inr d) e2,c⟩,r⟩
 |own y=>obtain⟨ob,e⟩:=x;exact⟨ob,k _ _ (.inl rfl) e⟩
 |xd fs=>obtain⟨mA,⟨od,es,ep,e,c⟩,r⟩:=x;exact⟨mA,⟨od,es,ep,k _ _ (.inl rfl) e,c⟩,r⟩
 |Nz lo hi=>obtain⟨t,u,v,e⟩:=x;exact⟨t,u,v,k _ _ (.inl rfl) e⟩
 |uH ob u ih=>obtain⟨e,q⟩:=x;exact⟨k _ _ (.inl rfl) e,ih q⟩
 |A5 ps=>have e:h.get? a=some {cls:=.none,data:=.fields ps}:=x;show h'.get? a=some {cls:=.none,data:=.fields ps};exact k a _ (.inl rfl) e
 |met f y=>have e:h.get? a=some (PySem.W.methodObj (.ref f) (.ref y)):=x;show h'.get? a=some (PySem.W.methodObj (.ref f) (.ref y));exact k a _ (.inl rfl) e
 |ext φ=>obtain⟨p,⟨o,e⟩,st⟩:=x;exact⟨st _ _ p λo q=>k _ _ (.inl rfl) q,⟨o,k _ _ (.inl rfl) e⟩,st⟩
theorem fg.lt(x:fg P w H h)(e:H a=some o):a<h.objs.size:=(x a o e).lt
theorem fg.fresh(x:fg P w H h)(e:h.objs.size<=a):H a=none:=by
 cases q:H a with
 |none=>rfl
 |some u=>exact absurd (RZ (x.lt q) e) (UR _)
theorem fg.kept(x:fg P w H h)(k:∀b u,h.get? b=some u->h'.get? b=some u):fg P w H h':=λa o e=>
 (x a o e).tT (λb u _ q=>k b u q) (λ_ q=>q) λ_ _ q=>q
theorem fg.laid(x:fg P w H h)(k:∀b u,h.get? b=some u->h'.get? b=some u)(hp:h.objs.size<=a)(new:bM P w (upd H a o) h' a o):fg P w (upd H a o) h':=λb u e=>by
 have hn:=x.fresh hp;by_cases hb:b=a
 ·subst hb;rw[aM]at e;cases e;exact new
 ·rw[aJ hb]at e;exact(x b u e).tT (λc v _ q=>k c v q) (λc q=>by rw[aJ (bc q hn)];exact q) λc xs q=>by rw[aJ (bc q hn)];exact q
end
noncomputable def Rd(H:Hp)(a:Addr)(u:HO):Prop:=H a=some u\/∃o,H a=some (.uH o u)
theorem Rd.ok{P:Program}{w:World}{H:Hp}{h:Heap}{a:Addr}{u:HO}(r:Rd H a u)(x:fg P w H h):bM P w H h a u:=by
 rcases r with r|⟨o,r⟩
 ·exact x a u r
 ·obtain⟨_,q⟩:=x a _ r;exact q
noncomputable def KC:Option HO->Prop
 |some (.lst _)=>True
 |some (.dK _)=>True
 |some (.dT _)=>True
 |some (.set _ _)=>True
 |some (.ins _ _ _)=>True
 |some (.ext _)=>True
 |_=>False
section
variable{P:Program}{w:World}{H:Hp}{h h':Heap}{x e:Addr}{o':HO}
theorem fg.write(ok:fg P w H h)(mu:KC (H x))(he:e=x\/H e=some (.own x))(k:∀b u,b≠e->h.get? b=some u->h'.get? b=some u)(Ha:∃u,h'.get? e=some u)
  (new:bM P w (upd H x o') h' x o'):fg P w (upd H x o') h':=λb u q=>by
 have Jp:∀c y,H c=some (.own y)->c≠x:=λc y r z=>by subst z;rw[r]at mu;exact mu
 have Na:∀c xs,H c=some (.tup xs)->c≠x:=λc xs r z=>by subst z;rw[r]at mu;exact mu
 by_cases hb:b=x
 ·subst hb;rw[aM]at q;cases q;exact new
 ·rw[aJ hb]at q;by_cases hbe:b=e
  ·have q':H b=some (.own x):=by
    rcases he with z|z
    ·exact absurd (hbe.trans z) hb
    ·rw[hbe];exact z
   rw[q]at q';cases q';obtain⟨v,hv⟩:=Ha;exact⟨v,by rw[hbe];exact hv⟩
  ·refine(ok b u q).tT (λc v hc r=>k c v ?_ r) (λc r=>by rw[aJ (Jp c b r)];exact r) λc xs r=>by rw[aJ (Na c xs r)];exact r
   rcases hc with rfl|hc
   ·exact hbe
   ·rintro rfl;rcases he with z|z
    ·exact Jp c b hc z
    ·rw[hc]at z;cases z;exact hb rfl
end
structure Un(fs ex:List Addr)(H H':Hp)(h h':Heap):Prop where
 keep:∀b o,h.get? b=some o->H b=none->b∉fs->b∉ex->h'.get? b=some o
 slot:∀b o,h.get? b=some o->H b=none->b∈fs->b∉ex->∃sl,h'.get? b=some {o with slots:=sl}
 free:∀b o,h.get? b=some o->H b=none->b∉ex->H' b=none
 there:∀b o,h.get? b=some o->b∉ex->∃o',h'.get? b=some o'
 tups:∀b xs,H b=some (.tup xs)->H' b=some (.tup xs)
 frzs:∀b o u,H b=some (.uH o u)->H' b=some (.uH o u)
 tbls:∀b ps,H b=some (.A5 ps)->∃more,H' b=some (.A5 (ps++more))
section
variable{fs L7 ex Q9:List Addr}{H H1 H2:Hp}{h h1 h2 h':Heap}{a x e:Addr}{o:HO}
theorem Un.any(u:Un fs ex H H1 h h1){b:Addr}{ob:Obj}(q:h.get? b=some ob)(n:H b=none)(hx:b∉ex):∃sl,h1.get? b=some {ob with slots:=sl}:=by
 by_cases hb:b∈fs
 ·exact u.slot b ob q n hb hx
 ·exact⟨ob.slots,u.keep b ob q n hb hx⟩
theorem Un.trans(a:Un fs ex H H1 h h1)(b:Un fs ex H1 H2 h1 h2):Un fs ex H H2 h h2 where
 keep:=λc ob q n hc hx=>b.keep c ob (a.keep c ob q n hc hx) (a.free c ob q n hx) hc hx
 slot:=λc ob q n hc hx=>by obtain⟨sl,e1⟩:=a.slot c ob q n hc hx;obtain⟨NJ,e2⟩:=b.slot c _ e1 (a.free c ob q n hx) hc hx;exact⟨NJ,e2⟩
 free:=λc ob q n hx=>by obtain⟨o',e1⟩:=a.there c ob q hx;exact b.free c o' e1 (a.free c ob q n hx) hx
 there:=λc ob q hx=>by obtain⟨o',e1⟩:=a.there c ob q hx;exact b.there c o' e1 hx
 tups:=λc xs q=>b.tups c xs (a.tups c xs q)
 frzs:=λc ob xs q=>b.frzs c ob xs (a.frzs c ob xs q)
 tbls:=λc ps q=>by obtain⟨m1,e1⟩:=a.tbls c ps q;obtain⟨m2,e2⟩:=b.tbls c _ e1;exact⟨m1++m2,by rw[e2,Array.append_assoc]⟩
theorem Un.kept(k:∀b u,h.get? b=some u->h'.get? b=some u):Un fs ex H H h h':=
 ⟨λb ob q _ _ _=>k b ob q,λb ob q _ _ _=>⟨ob.slots,k b ob q⟩,λ_ _ _ n _=>n,λb ob q _=>⟨ob,k b ob q⟩,λ_ _ q=>q,λ_ _ _ q=>q,λ_ ps q=>⟨#[],by rw[q];simp⟩⟩
theorem Un.refl:Un fs ex H H h h:=Un.kept λ_ _ q=>q
theorem Un.laid(k:∀b u,h.get? b=some u->h'.get? b=some u)(hp:h.objs.size<=a)(hn:H a=none):Un fs ex H (upd H a o) h h' where
 keep:=λb u q _ _ _=>k b u q
 slot:=λb u q _ _ _=>⟨u.slots,k b u q⟩
 free:=λb u q n _=>by rw[aJ (Sb (RZ (RJ q) hp))];exact n
 there:=λb u q _=>⟨u,k b u q⟩
 tups:=λb xs q=>by rw[aJ (bc q hn)];exact q
 frzs:=λb u xs q=>by rw[aJ (bc q hn)];exact q
 tbls:=λb ps q=>⟨#[],by rw[aJ (bc q hn),q];simp⟩
theorem Un.write(mu:KC (H x))(he:e=x\/H e=some (.own x))(k:∀b u,b≠e->h.get? b=some u->h'.get? b=some u)(Ha:∃u,h'.get? e=some u):Un fs ex H (upd H x o) h h':=by
 have hx:∀b,H b=none->b≠x:=λb n z=>by subst z;rw[n]at mu;exact mu
 have hb:∀b,H b=none->b≠e:=λb n z=>by
  subst z;rcases he with r|r
  ·exact hx b n r
  ·rw[n]at r;cases r
 have hm:∀b u,H b=some u->¬KC (some u)->b≠x:=λb u q nm z=>by subst z;rw[q]at mu;exact nm mu
 refine⟨λb u q n _ _=>k b u (hb b n) q,λb u q n _ _=>⟨u.slots,k b u (hb b n) q⟩,λb u q n _=>by rw[aJ (hx b n)];exact n,λb u q _=>?_,
  λb xs q=>by rw[aJ (hm b _ q λz=>z)];exact q,λb u xs q=>by rw[aJ (hm b _ q λz=>z)];exact q,λb ps q=>⟨#[],by rw[aJ (hm b _ q λz=>z),q];simp⟩⟩
 by_cases hbe:b=e
 ·subst hbe;exact Ha
 ·exact⟨u,k b u hbe q⟩
end
noncomputable def Lh(h:Heap)(H:Hp):List Addr:=(List.range h.objs.size).filter λa=>(H a).isSome
noncomputable def o4(h:Heap)(H:Hp):Heap:=PySem.W.hideAll h (Lh h H)
theorem wu(h:Heap)(H:Hp):(o4 h H).objs.size=h.objs.size:=PySem.W.hideAll_size _ _
theorem yR{h:Heap}{H:Hp}{b:Addr}{o:Obj}(e:h.get? b=some o)(n:H b=none):(o4 h H).get? b=some o:=
 PySem.W.hideAll_get _ e λhm=>by have q:(H b).isSome=true:=(Uk.mp hm).2;rw[n]at q;simp at q
theorem B6{h:Heap}{H:Hp}{b:Addr}{o:Obj}(e:(o4 h H).get? b=some o):h.get? b=some o/\H b=none:=by
 have e':h.get? b=some o:=PySem.W.of_hideAll (Lh h H) e;refine⟨e',?_⟩;cases q:H b with
 |none=>rfl
 |some x=>have hm:b∈Lh h H:=Uk.mpr ⟨Sv.mpr (RJ e'),by simp[q]⟩;have z:(o4 h H).get? b=none:=PySem.W.hideAll_none (Lh h H) hm;rw[z]at e;cases e
noncomputable def Bd(g h:Heap)(L:Addr):List (Addr×Obj):=(List.range h.objs.size).filterMap λa=>if a=L\/(g.get? a).isSome=true then none else(h.get? a).map λo=>(a,o)
noncomputable def rest(g h:Heap)(L d:Addr):List (Addr×Obj):=(Bd g h L).filter λp=>decide (p.1≠d)
end L2
namespace L2
open PySem PySem.Spec PyProof.Rows
structure Mod(K:PySem.W.Frag)(mg:Str->Option Value)(base:Heap):Prop where
 MZ:K.In base
 glob:base.Ns mainGlobals mg
 blt:∃mb,base.Ns builtinsNs mb/\∀x:Str,x≠"__name__"->mb x=bootBuiltins x
 nolimit:base.NoLimit
structure Cx where
 prog:Program
 w:World
 K:PySem.W.Frag
 mg:Str->Option Value
 base:Heap
 A:Around
 N:List Str
 s₀:Shared
 H₀:Hp
 env:Env
 outer:List Env
 stack:List Env
 ex:List Addr
 fn:Str->Bool
 calm:Bool
 pn:List (Addr×Obj)
 xe:Value->Shared->Prop
noncomputable def j7(l:List Env):List Addr:=l.filterMap (·.frame)
noncomputable abbrev Cx.fs(X:Cx):List Addr:=j7 X.outer
noncomputable def Hu(sc:Scope)(x:Str):Prop:=sc.names.lookup x=some .local\/sc.names.lookup x=some .cell\/sc.names.lookup x=some .free
noncomputable def Loc(sc:Scope)(x:Str):Prop:=sc.names.lookup x=some .local\/sc.names.lookup x=some .cell
noncomputable def Look(env:Env)(h:Heap)(m:Str->Option Value)(x:Str)(u:Value):Prop:=
 (env.kindOf x=some .local/\m x=some u)\/((env.kindOf x=some .cell\/env.kindOf x=some .free)/\∃c,env.cells.lookup x=some c/\h.IsCell c (some u))
structure Cx.Ok(X:Cx):Prop where
 mod:Mod X.K X.mg X.base
 kind:X.env.scope.kind= .function
 glob:X.env.globals=mainGlobals
 blt:X.env.builtins=builtinsNs
 above:X.s₀.heap.objs.size<=X.env.locals
 inj:∀x y c,X.env.cells.lookup x=some c->X.env.cells.lookup y=some c->x=y
 has:∀x,(X.env.kindOf x=some .cell\/X.env.kindOf x=some .free)->∃c,X.env.cells.lookup x=some c
 Es:∀x c,X.fn x=true->X.env.cells.lookup x=some c->X.s₀.heap.objs.size<=c
 hd:X.calm=true->X.A.handled=none
 frames:X.A.frames=some X.stack
 Ld:X.stack=X.outer\/(X.stack=X.env::X.outer/\X.env.frame=some X.env.locals)
 HZ:∀b∈X.ex,b≠X.env.locals/\∀x c,X.env.cells.lookup x=some c->c≠b
 bs:∀b o,X.base.get? b=some o->X.s₀.heap.get? b=some o/\X.H₀ b=none
 C5:X.base.objs.size<=X.s₀.heap.objs.size
 tw:∀b o,X.base.get? b=some o->b∉X.ex
 we:∀b∈X.ex,b∉X.fs
 lj:X.s₀.heap.FunFrames X.base X.outer
 G5:∀b∈X.fs,X.H₀ b=none
structure Inv(X:Cx)(pins:List (Addr×Obj))(σ:List (Option V))(H:Hp)(s:Shared):Prop where
 ok:X.Ok
 os:s.os=X.s₀.os
 bare:AllBare s.gens
 base:Un X.fs X.ex X.H₀ H X.s₀.heap s.heap
 loc:∃m,s.heap.Ns X.env.locals m/\∀(i:Nat)(x:Str)(v:V),X.N[i]?=some x->σ[i]?=some (some v)->Hu X.env.scope x->∃u,RelV v u/\Look X.env s.heap m x u
 cell:∀x c,X.env.cells.lookup x=some c->∃v,s.heap.IsCell c v
 free:H X.env.locals=none
 eJ:∀x c,X.env.cells.lookup x=some c->H c=none
 pin:∀p∈X.pn++pins,s.heap.get? p.1=some p.2/\H p.1=none/\p.1≠X.env.locals/\p.1∉X.fs/\∀v,p.2.data≠ .cell v
 hok:fg X.prog X.w H s.heap
 len:σ.length=X.N.length
section
variable{X:Cx}{pins:List (Addr×Obj)}{σ:List (Option V)}{H H':Hp}{s:Shared}{h':Heap}
theorem Cx.Ok.M8(ok:X.Ok){b:Addr}{o:Obj}(e:X.base.get? b=some o):b∉X.fs:=λhb=>by have:=(ok.lj.mem hb).1;rw[e]at this;cases this
theorem Inv.bs(I:Inv X pins σ H s):∀b o,X.base.get? b=some o->s.heap.get? b=some o/\H b=none:=λb o e=>
 ⟨I.base.keep b o (I.ok.bs b o e).1 (I.ok.bs b o e).2 (I.ok.M8 e) (I.ok.tw b o e),I.base.free b o (I.ok.bs b o e).1 (I.ok.bs b o e).2 (I.ok.tw b o e)⟩
theorem Inv.bk(I:Inv X pins σ H s):∀b o,X.base.get? b=some o->s.heap.get? b=some o:=λb o e=>(I.bs b o e).1
theorem Inv.mod(I:Inv X pins σ H s):Mod X.K X.mg X.base:=I.ok.mod
theorem Inv.qH(I:Inv X pins σ H s):X.K.In s.heap:=I.ok.mod.MZ.keeps I.bk
theorem Inv.fr(I:Inv X pins σ H s):∃m,Fr X.base X.env.locals s.heap m:=
 let ⟨m,hn,_⟩:=I.loc
 ⟨m,hn,I.bk,RK I.ok.C5 I.ok.above⟩
theorem Inv.lt(I:Inv X pins σ H s):X.env.locals<s.heap.objs.size:=let ⟨_,hn,_⟩:=I.loc;hn.lt
theorem Inv.sz(I:Inv X pins σ H s):X.s₀.heap.objs.size<=s.heap.objs.size:=RK I.ok.above (UP I.lt)
theorem Inv.M9(I:Inv X pins σ H s){a:Addr}(h:s.heap.objs.size<=a):a∉X.fs:=λhb=>by obtain⟨_,o,ho,_⟩:=I.ok.lj.mem hb;exact absurd (RZ (RJ ho) (RK I.sz h)) (UR _)
theorem Inv.Eu(I:Inv X pins σ H s):∀x c,X.env.cells.lookup x=some c->c≠X.env.locals:=λx c e z=>by obtain⟨v,o,ho,hd⟩:=I.cell x c e;obtain⟨m,⟨o',es,ep,EU,mz,_⟩,_⟩:=I.loc;rw[z,EU]at ho;cases ho;rw[mz]at hd;cases hd
theorem Inv.lj(I:Inv X pins σ H s):s.heap.FunFrames X.base X.outer:=by
 have all:∀(l:List Env),(∀b∈j7 l,b∈X.fs)->X.s₀.heap.FunFrames X.base l->s.heap.FunFrames X.base l:=by
  intro l
  induction l with
  |nil=>intro _ _;trivial
  |cons env r ih=>
   intro hs hl;obtain⟨hk,⟨L,o,hf,hn,ho,hd⟩,hr⟩:=hl;have hL:L∈X.fs:=hs L (by unfold j7;rw[TM,hf];exact RF);obtain⟨sl,e⟩:=I.base.slot L o ho (I.ok.G5 L hL) hL λz=>I.ok.we L z hL
   exact⟨hk,⟨L,_,hf,hn,e,hd⟩,ih (λb hb=>hs b (by unfold j7;rw[TM,hf];exact RC _ hb)) hr⟩
 exact all X.outer (λ_ hb=>hb) I.ok.lj
theorem Inv.stack(I:Inv X pins σ H s):s.heap.FunFrames X.base X.stack:=by
 rcases I.ok.Ld with e|⟨e,hf⟩
 ·rw[e];exact I.lj
 ·rw[e];obtain⟨m,hn,_⟩:=I.loc;refine .cons (by rw[I.ok.kind];decide) hf hn ?_ I.lj;exact Heap.get?_none_of_le (RK I.ok.C5 I.ok.above)
theorem Inv.pN(I:Inv X pins σ H s):∀b∈j7 X.stack,b∈X.env.locals::X.fs:=λb hb=>by
 rcases I.ok.Ld with e|⟨e,hf⟩
 ·rw[e]at hb;exact RC _ hb
 ·rw[e]at hb;unfold j7 at hb;rw[TM,hf]at hb;exact hb
theorem Inv.vE(I:Inv X pins σ H s):∀b∈j7 X.stack,H b=none:=λb hb=>by
 rcases RL.mp (I.pN b hb)with e|hb
 ·rw[e];exact I.free
 ·obtain⟨_,o,ho,_⟩:=I.ok.lj.mem hb;exact I.base.free b o ho (I.ok.G5 b hb) λz=>I.ok.we b z hb
theorem Inv.step{g':Array GenState}{t':Nat}{d':Drawn}{ch:List Addr}(I:Inv X pins σ H s)
  (AU:∀b∈ch,(b∈X.ex\/X.s₀.heap.objs.size<=b)/\b≠X.env.locals/\(∀x c,X.env.cells.lookup x=some c->c≠b)/\∀p∈X.pn++pins,p.1≠b)
  (keep:∀b o,b≠X.env.locals->b∉X.fs->b∉ch->s.heap.get? b=some o->H b=none->h'.get? b=some o)
  (slot:∀b o,b≠X.env.locals->b∈X.fs->b∉ch->s.heap.get? b=some o->H b=none->∃sl,h'.get? b=some {o with slots:=sl}) (free:∀b o,b∉ch->s.heap.get? b=some o->H b=none->H' b=none)
  (there:∀b o,b∉ch->s.heap.get? b=some o->∃o',h'.get? b=some o')
  (tups:∀b xs,H b=some (.tup xs)->H' b=some (.tup xs)) (frzs:∀b o u,H b=some (.uH o u)->H' b=some (.uH o u)) (tbls:∀b ps,H b=some (.A5 ps)->∃more,H' b=some (.A5 (ps++more)))
  (ns:∀m,s.heap.Ns X.env.locals m->h'.Ns X.env.locals m) (hok:fg X.prog X.w H' h') (hg:AllBare g'):
  Inv X pins σ H' {s with heap:=h',gens:=g',drawn:=d',toks:=t'}:=by
 have OX:∀b o,X.s₀.heap.get? b=some o->b≠X.env.locals:=λb o e=>Sb (RZ (RJ e) I.ok.above)
 have K6:∀b o,X.s₀.heap.get? b=some o->b∉X.ex->b∉ch:=λb o e hx hb=>by
  rcases (AU b hb).1 with z|z
  ·exact hx z
  ·exact absurd (RZ (RJ e) z) (UR _)
 have cellK:∀x c,X.env.cells.lookup x=some c->∀v,s.heap.IsCell c v->h'.IsCell c v:=λx c e v⟨o,ho,hd⟩=>by
  have Jl:c∉ch:=λz=>(AU c z).2.2.1 x c e rfl
  by_cases hc:c∈X.fs
  ·obtain⟨sl,q⟩:=slot c o (I.Eu x c e) hc Jl ho (I.eJ x c e);exact⟨_,q,hd⟩
  ·exact⟨o,keep c o (I.Eu x c e) hc Jl ho (I.eJ x c e),hd⟩
 refine⟨I.ok,I.os,hg,⟨λb o e n hb hx=>?_,λb o e n hb hx=>?_,λb o e n hx=>?_,λb o e hx=>?_,λb xs e=>tups b xs (I.base.tups b xs e),λb o xs e=>frzs b o xs (I.base.frzs b o xs e),λb ps e=>?_⟩,?_,λx c e=>?_,?_,λx c e=>?_,λp hp=>?_,hok,I.len⟩
 ·exact keep b o (OX b o e) hb (K6 b o e hx) (I.base.keep b o e n hb hx) (I.base.free b o e n hx)
 ·obtain⟨sl,e1⟩:=I.base.slot b o e n hb hx;obtain⟨NJ,e2⟩:=slot b _ (OX b o e) hb (K6 b o e hx) e1 (I.base.free b o e n hx);exact⟨NJ,e2⟩
 ·obtain⟨o',e1⟩:=I.base.there b o e hx;exact free b o' (K6 b o e hx) e1 (I.base.free b o e n hx)
 ·obtain⟨o',e1⟩:=I.base.there b o e hx;exact there b o' (K6 b o e hx) e1
 ·obtain⟨m1,e1⟩:=I.base.tbls b ps e;obtain⟨m2,e2⟩:=tbls b _ e1;exact⟨m1++m2,by rw[e2,Array.append_assoc]⟩
 ·obtain⟨m,hn,hl⟩:=I.loc;refine⟨m,ns m hn,λi x v e1 e2 e3=>?_⟩;obtain⟨u,r,l⟩:=hl i x v e1 e2 e3;refine⟨u,r,?_⟩;rcases l with l|⟨k,c,e,z⟩
  ·exact .inl l
  ·exact .inr ⟨k,c,e,cellK x c e _ z⟩
 ·obtain⟨v,z⟩:=I.cell x c e;exact⟨v,cellK x c e v z⟩
 ·obtain⟨m,⟨o,_,_,ho,_⟩,_⟩:=I.loc;exact free _ o (λz=>(AU _ z).2.1 rfl) ho I.free
 ·obtain⟨v,o,ho,hd⟩:=I.cell x c e;exact free c o (λz=>(AU c z).2.2.1 x c e rfl) ho (I.eJ x c e)
 ·obtain⟨e,n,ne,nf,d⟩:=I.pin p hp;have Jl:p.1∉ch:=λz=>(AU p.1 z).2.2.2 p hp rfl
  exact⟨keep p.1 p.2 ne nf Jl e n,free p.1 p.2 Jl e n,ne,nf,d⟩
theorem Inv.un{t':Nat}(I:Inv X pins σ H s)(u:Un X.fs [] H H' s.heap h')(hok:fg X.prog X.w H' h'):Inv X pins σ H' {s with heap:=h',toks:=t'}:=by
 obtain⟨m,⟨o,es,ep,ho,r⟩,_⟩:=id I.loc;obtain⟨sl,hL⟩:=u.any ho I.free (by simp);exact I.step (g':=s.gens) (d':=s.drawn) (ch:=[]) (λ_ z=>nomatch z) (λb o _ hb _ e n=>u.keep b o e n hb (by simp)) (λb o _ hb _ e n=>u.slot b o e n hb (by simp)) (λb o _ e n=>u.free b o e n (by simp)) (λb o _ e=>u.there b o e (by simp)) u.tups u.frzs u.tbls (λm' hm=>by
  obtain⟨o',ek,L3,EU,r'⟩:=hm;rw[ho]at EU;cases EU;exact⟨_,ek,L3,hL,r'⟩) hok I.bare
theorem Inv.call{g':Array GenState}{t':Nat}{d':Drawn}{ch:List Addr}(I:Inv X pins σ H s)(u:Un (j7 X.stack) ch H H' s.heap h')(hok:fg X.prog X.w H' h')(hg:AllBare g')
  (AU:∀b∈ch,(b∈X.ex\/X.s₀.heap.objs.size<=b)/\b≠X.env.locals/\(∀x c,X.env.cells.lookup x=some c->c≠b)/\∀p∈X.pn++pins,p.1≠b):
  Inv X pins σ H' {s with heap:=h',gens:=g',drawn:=d',toks:=t'}:=by
 obtain⟨m,⟨o,es,ep,ho,r⟩,_⟩:=id I.loc;obtain⟨sl,hL⟩:=u.any ho I.free λz=>(AU _ z).2.1 rfl
 exact I.step (ch:=ch) AU (λb o hL hb hc e n=>u.keep b o e n (λz=>(RL.mp (I.pN b z)).elim hL hb) hc) (λb o _ _ hc e n=>u.any e n hc) (λb o hc e n=>u.free b o e n hc) (λb o hc e=>u.there b o e hc) u.tups u.frzs u.tbls (λm' hm=>by
  obtain⟨o',ek,L3,EU,r'⟩:=hm;rw[ho]at EU;cases EU;exact⟨_,ek,L3,hL,r'⟩) hok hg
theorem Inv.turned{t':Nat}{it:Addr}(I:Inv X pins σ H s)(k:∀b o,b≠it->s.heap.get? b=some o->h'.get? b=some o)(hn:H it=none)(hL:it≠X.env.locals)
  (h1:it∈X.ex\/X.s₀.heap.objs.size<=it) (h2:∀x c,X.env.cells.lookup x=some c->c≠it) (h3:∀p∈X.pn++pins,p.1≠it):Inv X pins σ H {s with heap:=h',toks:=t'}:=by
 have OY:∀b u,H b=some u->b≠it:=λb u e z=>by rw[z,hn]at e;cases e
 refine I.step (g':=s.gens) (d':=s.drawn) (ch:=[it]) (λb hb=>?_) (λb o _ _ hc e _=>k b o (λz=>hc (by simp[z])) e) (λb o _ _ hc e _=>⟨o.slots,k b o (λz=>hc (by simp[z])) e⟩) (λ_ _ _ _ n=>n)
  (λb o hc e=>⟨o,k b o (λz=>hc (by simp[z])) e⟩) (λ_ _ e=>e) (λ_ _ _ e=>e) (λb ps e=>⟨#[],by rw[e];simp⟩) (λm hm=>?_) (λb u e=>?_) I.bare
 ·have e:b=it:=by simpa using hb
  subst e;exact⟨h1,hL,h2,h3⟩
 ·obtain⟨o,es,ep,ho,r⟩:=hm;exact⟨o,es,ep,k _ o (U2 hL) ho,r⟩
 ·refine(I.hok b u e).tT (λc v hc q=>k c v ?_ q) (λ_ q=>q) λ_ _ q=>q
  rcases hc with z|z
  ·rw[z];exact OY b u e
  ·exact OY c _ z
theorem Inv.tok(I:Inv X pins σ H s)(t:Nat):Inv X pins σ H {s with toks:=t}:=I.un (h':=s.heap) (t':=t) Un.refl I.hok
theorem Inv.kept{t':Nat}(I:Inv X pins σ H s)(k:∀b u,s.heap.get? b=some u->h'.get? b=some u):Inv X pins σ H {s with heap:=h',toks:=t'}:=I.un (Un.kept k) (I.hok.kept k)
theorem Inv.laid{a:Addr}{o:HO}{t':Nat}(I:Inv X pins σ H s)(k:∀b u,s.heap.get? b=some u->h'.get? b=some u)(hp:s.heap.objs.size<=a)(new:bM X.prog X.w (upd H a o) h' a o):
  Inv X pins σ (upd H a o) {s with heap:=h',toks:=t'}:=I.un (Un.laid k hp (I.hok.fresh hp)) (I.hok.laid k hp new)
theorem Inv.write{x e:Addr}{o:HO}{t':Nat}(I:Inv X pins σ H s)(mu:KC (H x))(he:e=x\/H e=some (.own x))(k:∀b u,b≠e->s.heap.get? b=some u->h'.get? b=some u)(Ha:∃u,h'.get? e=some u)
  (new:bM X.prog X.w (upd H x o) h' x o):Inv X pins σ (upd H x o) {s with heap:=h',toks:=t'}:=I.un (Un.write mu he k Ha) (I.hok.write mu he k Ha new)
theorem Inv.weak{σ':List (Option V)}(I:Inv X pins σ H s)(hl:σ'.length=σ.length)(w:∀(i:Nat)v,σ'[i]?=some (some v)->σ[i]?=some (some v)):Inv X pins σ' H s:=
 ⟨I.ok,I.os,I.bare,I.base,let ⟨m,hn,BH⟩:=I.loc;⟨m,hn,λi x v e1 e2 e3=>BH i x v e1 (w i v e2) e3⟩,I.cell,I.free,I.eJ,I.pin,I.hok,hl.trans I.len⟩
theorem Inv.vj{DC:List (Addr×Obj)}(I:Inv X pins σ H s)(h:∀p∈DC,s.heap.get? p.1=some p.2/\H p.1=none/\p.1≠X.env.locals/\p.1∉X.fs/\∀v,p.2.data≠ .cell v):Inv X DC σ H s:=
 ⟨I.ok,I.os,I.bare,I.base,I.loc,I.cell,I.free,I.eJ,λp hp=>(R0.mp hp).elim (λz=>I.pin p (Uj _ z)) (h p),I.hok,I.len⟩
theorem jf{N:List Str}(hN:N.Nodup){i j:Nat}{x:Str}(a:N[i]?=some x)(b:N[j]?=some x):i=j:=by obtain⟨h1,e1⟩:=RB.mp a;obtain⟨h2,e2⟩:=RB.mp b;exact(List.getElem_inj hN).mp (e1.trans e2.symm)
theorem n9{M:Model}{A:Around}{E:Value->Shared->Prop}{i:Nat}{x:Str}{v:V}{u:Value}{Q:Unit->Shared->Prop}(I:Inv X pins σ H s)(hN:X.N.Nodup)(hi:X.N[i]?=some x)(hx:Loc X.env.scope x)(r:RelV v u)
  (h:∀s',Inv X pins (σ.set i (some v)) H s'->(∃a,Heap.SameBut a s.heap s'.heap/\(a=X.env.locals\/X.env.cells.lookup x=some a))->Q () s') (hf:X.fn x=true\/X.env.scope.names.lookup x=some .local:=by first|exact .inl rfl|exact .inr rfl|assumption):wpAny M A (storeName X.env x u) Q E s:=by
 obtain⟨m,hn,hl⟩:=id I.loc;have Mq:(X.env.scope.kind== .class||(X.env.scope.kind== .module&&X.env.locals != X.env.globals))=false:=by rw[I.ok.kind];rfl
 have hiσ:i<σ.length:=by rw[I.len];exact(RB.mp hi).1
 have Eu:=I.Eu;have tracked:∀{a:Addr}{h':Heap},(∃o,s.heap.get? a=some o/\H a=none)->Heap.SameBut a s.heap h'->fg X.prog X.w H h':=λ {a h'} ha hs b ob e=>by
  obtain⟨_,_,Di⟩:=ha;refine(I.hok b ob e).tT (λc w' hc q=>(hs.2 c ?_).trans q) (λ_ q=>q) λ_ _ q=>q
  rintro rfl;rcases hc with rfl|hc
  ·rw[Di]at e;cases e
  ·rw[Di]at hc;cases hc
 rcases hx with hk|hk
 ·refine wpAny_storeName_local hk hn (λh' Qn hs=>?_) Mq;obtain⟨oL,_,_,K2,_⟩:=id hn;refine h _ ⟨I.ok,I.os,I.bare,⟨λb o e n hb hx=>?_,λb o e n hb hx=>?_,I.base.free,λb o e hx=>?_,I.base.tups,I.base.frzs,I.base.tbls⟩,⟨_,Qn,λj y v' e1 e2 e3=>?_⟩,λy c e=>?_,I.free,I.eJ,λp hp=>?_,tracked ⟨oL,K2,I.free⟩ hs,by simpa using I.len⟩ ⟨_,hs,.inl rfl⟩
  ·exact(hs.2 b (Sb (RZ (RJ e) I.ok.above))).trans (I.base.keep b o e n hb hx)
  ·obtain⟨sl,e1⟩:=I.base.slot b o e n hb hx;exact⟨sl,(hs.2 b (Sb (RZ (RJ e) I.ok.above))).trans e1⟩
  ·obtain⟨o',e1⟩:=I.base.there b o e hx;exact⟨o',(hs.2 b (Sb (RZ (RJ e) I.ok.above))).trans e1⟩
  ·by_cases hj:j=i
   ·subst hj;rw[hi]at e1;cases e1;rw[Su hiσ]at e2;cases e2;exact⟨u,r,.inl ⟨hk,by simp⟩⟩
   ·rw[RT (U2 hj)]at e2;obtain⟨u',r',q⟩:=hl j y v' e1 e2 e3;refine⟨u',r',?_⟩;rcases q with ⟨k,e⟩|⟨k,c,e,z⟩
    ·refine .inl ⟨k,?_⟩;have:y≠x:=λe=>hj (jf hN e1 (e▸hi))
     simp[this,e]
    ·exact .inr ⟨k,c,e,z.sameBut hs (Eu y c e)⟩
  ·obtain⟨w',z⟩:=I.cell y c e;exact⟨w',z.sameBut hs (Eu y c e)⟩
  ·obtain⟨e,n,ne,nf,d⟩:=I.pin p hp;exact⟨(hs.2 p.1 ne).trans e,n,ne,nf,d⟩
 ·have yQ:X.fn x=true:=by
   rcases hf with z|z
   ·exact z
   ·rw[z]at hk;cases hk
  obtain⟨c,hc⟩:=I.ok.has x (.inl hk);obtain⟨w',z⟩:=I.cell x c hc;refine wpAny_storeName_cell I.ok.kind hk hc z (λh' oZ hs=>?_);obtain⟨oc,OJ,MB⟩:=id z;refine h {s with heap:=h'} ⟨I.ok,I.os,I.bare,⟨λb o e n hb hx=>?_,λb o e n hb hx=>?_,I.base.free,λb o e hx=>?_,I.base.tups,I.base.frzs,I.base.tbls⟩,⟨m,hn.sameBut hs (U2 (Eu x c hc)),λj y v' e1 e2 e3=>?_⟩,λy c' e=>?_,I.free,I.eJ,λp hp=>?_,tracked ⟨oc,OJ,I.eJ x c hc⟩ hs,by simpa using I.len⟩ ⟨c,hs,.inr hc⟩
  ·exact(hs.2 b (Sb (RZ (RJ e) (I.ok.Es x c yQ hc)))).trans (I.base.keep b o e n hb hx)
  ·obtain⟨sl,e1⟩:=I.base.slot b o e n hb hx;exact⟨sl,(hs.2 b (Sb (RZ (RJ e) (I.ok.Es x c yQ hc)))).trans e1⟩
  ·obtain⟨o',e1⟩:=I.base.there b o e hx;exact⟨o',(hs.2 b (Sb (RZ (RJ e) (I.ok.Es x c yQ hc)))).trans e1⟩
  ·by_cases hj:j=i
   ·subst hj;rw[hi]at e1;cases e1;rw[Su hiσ]at e2;cases e2;exact⟨u,r,.inr ⟨.inl hk,c,hc,oZ⟩⟩
   ·rw[RT (U2 hj)]at e2;obtain⟨u',r',q⟩:=hl j y v' e1 e2 e3;refine⟨u',r',?_⟩;rcases q with q|⟨k,c',e,z'⟩
    ·exact .inl q
    ·refine .inr ⟨k,c',e,z'.sameBut hs ?_⟩;rintro rfl;exact hj (jf hN e1 (I.ok.inj _ _ _ e hc▸hi))
  ·by_cases hcc:c'=c
   ·subst hcc;exact⟨_,oZ⟩
   ·obtain⟨w2,z2⟩:=I.cell y c' e;exact⟨w2,z2.sameBut hs hcc⟩
  ·obtain⟨e,n,ne,nf,d⟩:=I.pin p hp;refine⟨(hs.2 p.1 ?_).trans e,n,ne,nf,d⟩;intro q;rw[q,OJ]at e;have q':oc=p.2:=U4 e;exact d w' (by rw[<-q'];exact MB)
theorem rA{M:Model}{A:Around}{E:Value->Shared->Prop}{i:Nat}{x:Str}{v:V}{u:Value}{Q:Unit->Shared->Prop}(I:Inv X pins σ H s)(hN:X.N.Nodup)(hi:X.N[i]?=some x)(hx:Loc X.env.scope x)(r:RelV v u)
  (h:∀s',Inv X pins (σ.set i (some v)) H s'->Q () s') (hf:X.fn x=true\/X.env.scope.names.lookup x=some .local:=by first|exact .inl rfl|exact .inr rfl|assumption):wpAny M A (storeName X.env x u) Q E s:=
 n9 I hN hi hx r (λs' I' _=>h s' I') hf
theorem Inv.HG{s':Shared}{ch:List Addr}(I:Inv X pins σ H s)(ho:s'.os=s.os)(u:Un (j7 X.stack) ch H H' s.heap s'.heap)(hok:fg X.prog X.w H' s'.heap)(hg:AllBare s'.gens)
  (AU:∀b∈ch,(b∈X.ex\/X.s₀.heap.objs.size<=b)/\b≠X.env.locals/\(∀x c,X.env.cells.lookup x=some c->c≠b)/\∀p∈X.pn++pins,p.1≠b):Inv X pins σ H' s':=by
 obtain⟨h',g',d',t',o'⟩:=s';have e:o'=s.os:=ho;subst e;exact I.call (g':=g') (t':=t') (d':=d') u hok hg AU
end
noncomputable abbrev XK:=Value->Option Addr->Hp->Prop
noncomputable abbrev St:=List (Option V)
noncomputable abbrev VK:=V->Hp->Prop
noncomputable abbrev TE:=St->Hp->VK->Prop
noncomputable abbrev TT:=St->Hp->(Bool->Hp->Prop)->Prop
noncomputable abbrev TA:=St->Hp->(List V->Hp->Prop)->Prop
structure Ends where
 nx:St->Hp->Prop
 rt:VK
 bk:St->Hp->Prop:=λ_ _=>False
 ct:St->Hp->Prop:=λ_ _=>False
noncomputable abbrev TS:=Ends->St->Hp->Prop
inductive EP(X:Cx)(pins:List (Addr×Obj))(σ:St)(Q:VK)(u:Value)(s':Shared):Prop
 |mk (v:V) (H':Hp) (i:Inv X pins σ H' s') (r:RelV v u) (q:Q v H'):EP X pins σ Q u s'
inductive TP(X:Cx)(pins:List (Addr×Obj))(σ:St)(Q:Bool->Hp->Prop)(b:Bool)(s':Shared):Prop
 |mk (H':Hp) (i:Inv X pins σ H' s') (q:Q b H'):TP X pins σ Q b s'
inductive AP(X:Cx)(pins:List (Addr×Obj))(σ:St)(Q:List V->Hp->Prop)(us:List Value)(s':Shared):Prop
 |mk (vs:List V) (H':Hp) (i:Inv X pins σ H' s') (r:ar vs us) (q:Q vs H'):AP X pins σ Q us s'
noncomputable def SP(X:Cx)(pins:List (Addr×Obj))(D:Ends)(f:Flow)(s':Shared):Prop:=
 match f with
 |.next=>∃σ' H',Inv X pins σ' H' s'/\D.nx σ' H'
 |.brk=>∃σ' H',Inv X pins σ' H' s'/\D.bk σ' H'
 |.cont=>∃σ' H',Inv X pins σ' H' s'/\D.ct σ' H'
 |.ret u=>∃v σ' H',Inv X pins σ' H' s'/\RelV v u/\D.rt v H'
noncomputable def PE(X:Cx)(e:Expr)(t:TE):Prop:=
 ∀(pins:List (Addr×Obj))(s:Shared)(σ:St)(H:Hp)(Q:VK),Inv X pins σ H s->t σ H Q->wpAny (model X.prog X.w) X.A (eval e X.env) (EP X pins σ Q) X.xe s
noncomputable def PT(X:Cx)(e:Expr)(t:TT):Prop:=
 ∀(pins:List (Addr×Obj))(s:Shared)(σ:St)(H:Hp)(Q:Bool->Hp->Prop),Inv X pins σ H s->t σ H Q->wpAny (model X.prog X.w) X.A (isTrue e X.env (eval e X.env)) (TP X pins σ Q) X.xe s
noncomputable def PW(X:Cx)(e:Expr)(t:TT):Prop:=
 ∀(whole:Sem Value)(pins:List (Addr×Obj))(s:Shared)(σ:St)(H:Hp)(Q:Bool->Hp->Prop),Inv X pins σ H s->t σ H Q->wpAny (model X.prog X.w) X.A (isTrue e X.env whole) (TP X pins σ Q) X.xe s
theorem PW.pt{X:Cx}{e:Expr}{t:TT}(h:PW X e t):PT X e t:=h _
noncomputable def PA(X:Cx)(es:List Expr)(t:TA):Prop:=
 ∀(pos:Pos)(pins:List (Addr×Obj))(s:Shared)(σ:St)(H:Hp)(Q:List V->Hp->Prop),Inv X pins σ H s->t σ H Q->wpAny (model X.prog X.w) X.A (spliced (backTo pos (starEach es X.env))) (AP X pins σ Q) X.xe s
noncomputable def PS(X:Cx)(st:Stmt)(t:TS):Prop:=
 ∀(pins:List (Addr×Obj))(s:Shared)(σ:St)(H:Hp)(D:Ends),Inv X pins σ H s->t D σ H->wpAny (model X.prog X.w) X.A (exec st X.env) (SP X pins D) X.xe s
noncomputable def vU(X:Cx)(st:List Stmt)(t:TS):Prop:=
 ∀(pins:List (Addr×Obj))(s:Shared)(σ:St)(H:Hp)(D:Ends),Inv X pins σ H s->t D σ H->wpAny (model X.prog X.w) X.A (execs st X.env) (SP X pins D) X.xe s
theorem bY{α:Type}{t:Sem α}{Q Q':α->Shared->Prop}{M:Model}{A:Around}{E:Value->Shared->Prop}{s:Shared}(h:wpAny M A t Q E s)(hQ:∀a s,Q a s->Q' a s):wpAny M A t Q' E s:=VB h hQ λ_ _ x=>x
end L2
namespace L2
open PySem PySem.Spec PyProof.Rows
section
variable{X:Cx}
theorem bin{a b:Expr}{ta tb:TE}(ha:PE X a ta)(hb:PE X b tb){pins:List (Addr×Obj)}{s:Shared}{σ:St}{H:Hp}{R:V->V->Hp->Prop}(I:Inv X pins σ H s)(h:ta σ H λx H1=>tb σ H1 λy H2=>R x y H2)
  {α:Type} {Q:α->Shared->Prop} {f:Value->Value->Sem α}
  (hf:∀v u s2 x y H2,Inv X pins σ H2 s2->RelV x v->RelV y u->R x y H2->wpAny (model X.prog X.w) X.A (f v u) Q X.xe s2):
  wpAny (model X.prog X.w) X.A (eval a X.env) (λv s₁=>wpAny (model X.prog X.w) X.A (eval b X.env) (λu s₂=>wpAny (model X.prog X.w) X.A (f v u) Q X.xe s₂) X.xe s₁) X.xe s:=by
 refine bY (ha pins s σ H _ I h) λv s1⟨x,H1,I1,r1,q1⟩=>?_
 refine bY (hb pins s1 σ H1 _ I1 q1) λu s2⟨y,H2,I2,r2,q2⟩=>?_
 exact hf v u s2 x y H2 I2 r1 r2 q2
noncomputable def mS(i:Nat):TE:=λσ H Q=>∃v,σ[i]?=some (some v)/\Q v H
noncomputable def tC(v:V):TE:=λ_ H Q=>Q v H
theorem zJ{i:Nat}{x:Str}{pos:Pos}(hN:X.N[i]?=some x)(hv:Hu X.env.scope x)(hd:(x==("__debug__":Str))=false:=by decide)(AS:(x==("__classdict__":Str))=false:=by decide):PE X (.Name x pos) (mS i):=by
 intro pins s σ H Q I h;obtain⟨v,e,h⟩:=h;obtain⟨m,hn,hl⟩:=I.loc;obtain⟨u,r,l⟩:=hl i x v hN e hv;have fin:EP X pins σ Q u s:=⟨v,H,I,r,h⟩;rcases l with ⟨hk,hm⟩|⟨hk,c,hc,Dg⟩
 ·exact wpAny_Name (wpAny_loadName_local I.ok.kind hk hn hm fin) hd
 ·rcases hk with hk|hk
  ·exact wpAny_Name (wpAny_loadName_cell I.ok.kind hk hc Dg fin) hd
  ·exact wpAny_Name (wpAny_loadName_free I.ok.kind hk hc Dg fin AS) hd
theorem zI{i j pos}:PE X (.Constant (.int i) j pos) (tC (.int i)):=λ_ _ _ H _ I h=>wpAny_Constant_int ⟨.int i,H,I.tok _,⟨_,rfl⟩,h⟩
theorem Jy{b j pos}:PE X (.Constant (.bool b) j pos) (tC (.bl b)):=λ_ _ _ H _ I h=>Constant_bool ⟨.bl b,H,I,rfl,h⟩
theorem FS{j pos}:PE X (.Constant .none j pos) (tC .aW):=λ_ _ _ H _ I h=>Constant_none ⟨.aW,H,I,rfl,h⟩
theorem FW{x j pos}:PE X (.Constant (.str x) j pos) (tC (.str x)):=λ_ _ _ H _ I h=>Calls.Constant_str ⟨.str x,H,I.tok _,⟨_,rfl⟩,h⟩
noncomputable def Gl(X:Cx)(x:Str):Prop:=X.env.kindOf x=some .globalImplicit
theorem u5{E:Value->Shared->Prop}{pins:List (Addr×Obj)}{s:Shared}{σ:St}{H:Hp}{x:Str}{u:Value}{pos:Pos}{Q:Value->Shared->Prop}(I:Inv X pins σ H s)(hg:Gl X x)(hm:X.mg x=some u)(h:Q u s)
  (hd:(x==("__debug__":Str))=false:=by decide):wpAny (model X.prog X.w) X.A (eval (.Name x pos) X.env) Q E s:=
 Calls.Name_function_global I.ok.kind hg (Calls.loadGlobal_global (by rw[I.ok.glob];exact I.mod.glob.keeps I.bk) hm h) hd
theorem lH{E:Value->Shared->Prop}{pins:List (Addr×Obj)}{s:Shared}{σ:St}{H:Hp}{x:Str}{u:Value}{pos:Pos}{Q:Value->Shared->Prop}(I:Inv X pins σ H s)(hg:Gl X x)(hm:X.mg x=none)(hv:bootBuiltins x=some u)(h:Q u s)
  (hn:x≠"__name__":=by decide) (hd:(x==("__debug__":Str))=false:=by decide):wpAny (model X.prog X.w) X.A (eval (.Name x pos) X.env) Q E s:=by
 obtain⟨mb,h1,h2⟩:=I.mod.blt;exact Calls.Name_function_global I.ok.kind hg (Calls.loadGlobal_builtin (by rw[I.ok.glob];exact I.mod.glob.keeps I.bk) hm (by rw[I.ok.blt];exact h1.keeps I.bk) ((h2 x hn).trans hv) h) hd
theorem Ci{x:Str}{v:V}{u:Value}{pos:Pos}(hg:Gl X x)(hm:X.mg x=some u)(r:RelV v u)(hd:(x==("__debug__":Str))=false:=by decide):PE X (.Name x pos) (tC v):=
 λ_ _ _ H _ I h=>u5 I hg hm ⟨v,H,I,r,h⟩ hd
theorem Ce{x:Str}{v:V}{u:Value}{pos:Pos}(hg:Gl X x)(hm:X.mg x=none)(hv:bootBuiltins x=some u)(r:RelV v u)(hn:x≠"__name__":=by decide)(hd:(x==("__debug__":Str))=false:=by decide):PE X (.Name x pos) (tC v):=
 λ_ _ _ H _ I h=>lH I hg hm hv ⟨v,H,I,r,h⟩ hn hd
variable{a b:Expr}{ta tb:TE}{pos:Pos}
noncomputable def tB(t:TE):TT:=λσ H Q=>t σ H λx H1=>∃c,x= .bl c/\Q c H1
variable{tA Lf:TT}{rest:List Expr}
noncomputable def NP(t u:TT):TT:=λσ H Q=>t σ H λc H1=>if c=true then u σ H1 Q else Q false H1
noncomputable def QX(t u:TT):TT:=λσ H Q=>t σ H λc H1=>if c=true then Q true H1 else u σ H1 Q
noncomputable def NT(t:TT):TT:=λσ H Q=>t σ H λc H1=>Q (!c) H1
theorem Cz(ha:PT X a tA):PW X (.BoolOp .And [a] pos) tA:=by
 intro wh pins s σ H Q I h;refine isTrue_and (bY (ha pins s σ H Q I h) λc s1 e=>?_);cases c with
 |true=>exact isTrue_and_nil e
 |false=>exact e
theorem F8(ha:PT X a tA):PW X (.BoolOp .Or [a] pos) tA:=by
 intro wh pins s σ H Q I h;refine isTrue_or (bY (ha pins s σ H Q I h) λc s1 e=>?_);cases c with
 |false=>exact isTrue_or_nil e
 |true=>exact e
theorem F7(ha:PT X a tA)(hb:PW X (.BoolOp .And (b::rest) pos) Lf):PW X (.BoolOp .And (a::b::rest) pos) (NP tA Lf):=by
 intro wh pins s σ H Q I h;refine isTrue_and (bY (ha pins s σ H _ I h) λc s1⟨H1,I1,q1⟩=>?_);cases c with
 |true=>exact hb wh pins s1 σ H1 Q I1 q1
 |false=>exact⟨H1,I1,q1⟩
theorem JG(ha:PT X a tA)(hb:PW X (.BoolOp .Or (b::rest) pos) Lf):PW X (.BoolOp .Or (a::b::rest) pos) (QX tA Lf):=by
 intro wh pins s σ H Q I h;refine isTrue_or (bY (ha pins s σ H _ I h) λc s1⟨H1,I1,q1⟩=>?_);cases c with
 |true=>exact⟨H1,I1,q1⟩
 |false=>exact hb wh pins s1 σ H1 Q I1 q1
theorem F6(ha:PT X a tA):PT X (.UnaryOp .Not a pos) (NT tA):=by intro pins s σ H Q I h;exact isTrue_not (bY (ha pins s σ H (λc H1=>Q (!c) H1) I h) λ_ _⟨H1,i,q⟩=>⟨H1,i,q⟩)
noncomputable def Kb(ta tb:TE):TE:=λσ H Q=>ta σ H λx H1=>∃c,x= .bl c/\if c=true then tb σ H1 Q else Q (.bl false) H1
noncomputable def NW(ta tb:TE):TE:=λσ H Q=>ta σ H λx H1=>∃c,x= .bl c/\if c=true then Q (.bl true) H1 else tb σ H1 Q
noncomputable def Kh(ta:TE):TE:=λσ H Q=>ta σ H λx H1=>∃c,x= .bl c/\Q (.bl (!c)) H1
theorem FV{op}{t:TE}(h:PE X a t):PE X (.BoolOp op [a] pos) t:=λpins s σ H Q I hw=>BoolOp_one (h pins s σ H Q I hw)
theorem FP(ha:PE X a ta)(hb:PE X (.BoolOp .And (b::rest) pos) tb):PE X (.BoolOp .And (a::b::rest) pos) (Kb ta tb):=by
 intro pins s σ H Q I h;refine BoolOp_and (bY (ha pins s σ H _ I h) λv s1⟨x,H1,I1,r1,q1⟩=>?_);obtain⟨c,rfl,q1⟩:=q1;cases r1;refine VL ?_;cases c with
 |true=>exact hb pins s1 σ H1 Q I1 q1
 |false=>exact⟨.bl false,H1,I1,rfl,q1⟩
theorem JA(ha:PE X a ta)(hb:PE X (.BoolOp .Or (b::rest) pos) tb):PE X (.BoolOp .Or (a::b::rest) pos) (NW ta tb):=by
 intro pins s σ H Q I h;refine BoolOp_or (bY (ha pins s σ H _ I h) λv s1⟨x,H1,I1,r1,q1⟩=>?_);obtain⟨c,rfl,q1⟩:=q1;cases r1;refine VL ?_;cases c with
 |false=>exact hb pins s1 σ H1 Q I1 q1
 |true=>exact⟨.bl true,H1,I1,rfl,q1⟩
theorem FU(ha:PE X a ta):PE X (.UnaryOp .Not a pos) (Kh ta):=by intro pins s σ H Q I h;refine UnaryOp_ (bY (ha pins s σ H _ I h) λv s1⟨x,H1,I1,r1,q1⟩=>?_);obtain⟨c,rfl,q1⟩:=q1;cases r1;exact not_of (VL ⟨.bl (!c),H1,I1,rfl,q1⟩)
end
end L2
namespace L2
open PySem PySem.Spec PyProof.Rows
noncomputable def df(K:PySem.W.Frag)(H:Hp)(a:Addr)(xs:List V):Prop:=
 Rd H a (.lst xs)\/
  ∃(o:Obj)(its:Array Value)(n:Nat),K.lookup a=some o/\o.cls= .type "list"/\o.dict=none/\o.data= .seq its n/\its.size<=sizeLine/\ar xs its.toList
noncomputable def eC(K:PySem.W.Frag)(H:Hp)(a:Addr)(xs:List V):Prop:=
 Rd H a (.tup xs)\/
  ∃(o:Obj)(its:Array Value)(n:Nat),K.lookup a=some o/\o.cls= .type "tuple"/\o.data= .seq its n/\its.size<=sizeLine/\ar xs its.toList
noncomputable def LB:Value->Option V
 |.none=>some .aW
 |.bool b=>some (.bl b)
 |.int i _=>some (.int i)
 |.str x _=>some (.str x)
 |.bytes b _=>some (.Em b)
 |.float b _=>some (.AO b)
 |.ref a=>some (.ref a)
 |.type n=>some (.ty n)
 |_=>none
theorem RelV.abs{x:V}{u:Value}(r:RelV x u):LB u=some x:=by
 cases x with
 |aW=>cases r;rfl
 |bl _=>cases r;rfl
 |int _=>obtain⟨t,rfl⟩:=r;rfl
 |str _=>obtain⟨t,rfl⟩:=r;rfl
 |Em _=>obtain⟨t,rfl⟩:=r;rfl
 |AO _=>obtain⟨t,rfl⟩:=r;rfl
 |ref _=>cases r;rfl
 |ty _=>cases r;rfl
theorem RelV.inj{x y:V}{u:Value}(r:RelV x u)(q:RelV y u):x=y:=U4 (r.abs.symm.trans q.abs)
theorem ar.inj:∀{xs ys:List V}{us:List Value},ar xs us->ar ys us->xs=ys
 |_,_,_,.nil,.nil=>rfl
 |_,_,_,.cons r t,.cons r' t'=>by rw[r.inj r',ar.inj t t']
section
variable{X:Cx}{pins:List (Addr×Obj)}{σ:St}{H:Hp}{s:Shared}{a:Addr}{xs ys:List V}
theorem df.of{K:PySem.W.Frag}(h:H a=some (.lst xs)):df K H a xs:=.inl (.inl h)
theorem eC.of{K:PySem.W.Frag}(h:H a=some (.tup xs)):eC K H a xs:=.inl (.inl h)
theorem Inv.list(I:Inv X pins σ H s)(h:df X.K H a xs):∃its:List Value,ar xs its/\PlainL s.heap a its.toArray/\xs.length<=sizeLine:=by
 rcases h with h|⟨o,its,n,hk,hc,hd,hs,hz,r⟩
 ·obtain⟨z,its,n,r,e⟩:=h.ok I.hok;exact⟨its,r,⟨_,n,e,rfl,rfl,rfl⟩,z⟩
 ·refine⟨its.toList,r,⟨o,n,I.qH a o hk,hc,hd,by simpa using hs⟩,?_⟩;have e:=r.length;simp only[RY]at e
  lia
theorem Inv.tuple(I:Inv X pins σ H s)(h:eC X.K H a xs):∃its:List Value,ar xs its/\IsTup s.heap a its.toArray/\xs.length<=sizeLine:=by
 rcases h with h|⟨o,its,n,hk,hc,hs,hz,r⟩
 ·obtain⟨z,its,r,p⟩:=h.ok I.hok;exact⟨its,r,p.is,z⟩
 ·refine⟨its.toList,r,⟨o,I.qH a o hk,hc,n,by simpa using hs⟩,?_⟩;have e:=r.length;simp only[RY]at e
  lia
theorem Inv.zk(I:Inv X pins σ H s)(h:df X.K H a xs)(h':df X.K H a ys):xs=ys:=by
 obtain⟨its,r,⟨o,n,e,_,_,d⟩,_⟩:=I.list h;obtain⟨its',r',⟨o',n',e',_,_,d'⟩,_⟩:=I.list h';rw[e]at e';cases e';rw[d]at d';injection d' with d1 _;have:its=its':=by simpa using Vh Array.toList d1
 subst this;exact r.inj r'
theorem Inv.xc(I:Inv X pins σ H s)(h:eC X.K H a xs)(h':eC X.K H a ys):xs=ys:=by
 obtain⟨its,r,⟨o,e,_,n,d⟩,_⟩:=I.tuple h;obtain⟨its',r',⟨o',e',_,n',d'⟩,_⟩:=I.tuple h';rw[e]at e';cases e';rw[d]at d';injection d' with d1 _;have:its=its':=by simpa using Vh Array.toList d1
 subst this;exact r.inj r'
end
noncomputable abbrev Cx.dW(X:Cx)(E:Value->Shared->Prop):Cx:={X with xe:=E}
theorem Cx.Ok.dW{X:Cx}(ok:X.Ok)(E:Value->Shared->Prop):(X.dW E).Ok:=
 ⟨ok.mod,ok.kind,ok.glob,ok.blt,ok.above,ok.inj,ok.has,ok.Es,ok.hd,ok.frames,ok.Ld,ok.HZ,ok.bs,ok.C5,ok.tw,ok.we,ok.lj,ok.G5⟩
theorem Cx.Ok.gu{X:Cx}{E:Value->Shared->Prop}(ok:(X.dW E).Ok):X.Ok:=
 ⟨ok.mod,ok.kind,ok.glob,ok.blt,ok.above,ok.inj,ok.has,ok.Es,ok.hd,ok.frames,ok.Ld,ok.HZ,ok.bs,ok.C5,ok.tw,ok.we,ok.lj,ok.G5⟩
section
variable{X:Cx}{pins:List (Addr×Obj)}{σ:St}{H:Hp}{s:Shared}{E:Value->Shared->Prop}
theorem Inv.dW(I:Inv X pins σ H s)(E:Value->Shared->Prop):Inv (X.dW E) pins σ H s:=⟨I.ok.dW E,I.os,I.bare,I.base,I.loc,I.cell,I.free,I.eJ,I.pin,I.hok,I.len⟩
theorem Inv.gu(I:Inv (X.dW E) pins σ H s):Inv X pins σ H s:=⟨I.ok.gu,I.os,I.bare,I.base,I.loc,I.cell,I.free,I.eJ,I.pin,I.hok,I.len⟩
theorem SP.gu{D:Ends}{f:Flow}{s':Shared}(h:SP (X.dW E) pins D f s'):SP X pins D f s':=by
 cases f with
 |next=>obtain⟨σ',H',I,q⟩:=h;exact⟨σ',H',I.gu,q⟩
 |brk=>obtain⟨σ',H',I,q⟩:=h;exact⟨σ',H',I.gu,q⟩
 |cont=>obtain⟨σ',H',I,q⟩:=h;exact⟨σ',H',I.gu,q⟩
 |ret u=>obtain⟨v,σ',H',I,r,q⟩:=h;exact⟨v,σ',H',I.gu,r,q⟩
end
section
variable{X:Cx}{st:Stmt}{rest:List Stmt}{t u:TS}{e:Expr}{te:TE}{pos:Pos}
noncomputable def Ao:TS:=λD σ H=>D.nx σ H
noncomputable def Kk(t u:TS):TS:=λD σ H=>t {D with nx:=u D} σ H
theorem Cu:vU X [] Ao:=λ_ _ σ H _ I h=>wpAny_execs_nil ⟨σ,H,I,h⟩
theorem zP(h1:PS X st t)(h2:vU X rest u):vU X (st::rest) (Kk t u):=by
 intro pins s σ H D I h;refine wpAny_execs_cons (bY (h1 pins s σ H {D with nx:=u D} I h) λf s1 q=>?_);cases f with
 |next=>obtain⟨σ',H',I',q⟩:=q;exact h2 pins s1 σ' H' D I' q
 |ret v=>exact q
 |brk=>exact q
 |cont=>exact q
noncomputable def An:TS:=λD σ H=>D.bk σ H
noncomputable def DJ:TS:=λD σ H=>D.ct σ H
theorem Cq:PS X (.Pass pos) Ao:=λ_ _ σ H _ I h=>wpAny_Pass ⟨σ,H,I,h⟩
theorem zO:PS X (.Break pos) An:=λ_ _ σ H _ I h=>wpAny_Break ⟨σ,H,I,h⟩
theorem ra:PS X (.Continue pos) DJ:=λ_ _ σ H _ I h=>wpAny_Continue ⟨σ,H,I,h⟩
theorem Inv.quiet{pins:List (Addr×Obj)}{σ:St}{H:Hp}{s:Shared}(I:Inv X pins σ H s):interactive X.env=false:=by simp[interactive,I.ok.kind]
noncomputable def rD(te:TE):TS:=λD σ H=>te σ H λ_ H1=>D.nx σ H1
theorem kH(he:PE X e te)(hs:swapsWith e none pos.line X.env=pure false:=by rfl):PS X (.Expr e pos) (rD te):=by intro pins s σ H D I h;exact wpAny_Expr_any (bY (he pins s σ H _ I h) λv s1⟨x,H1,I1,r1,q1⟩=>⟨σ,H1,I1,q1⟩) I.quiet hs
noncomputable def GE(te:TE):TS:=λD σ H=>te σ H D.rt
theorem tM(he:PE X e te):PS X (.Return (some e) pos) (GE te):=by intro pins s σ H D I h;exact wpAny_Return_some (bY (he pins s σ H _ I h) λv s1⟨x,H1,I1,r1,q1⟩=>⟨x,σ,H1,I1,r1,q1⟩)
noncomputable def DL:TS:=λD _ H=>D.rt .aW H
theorem Cr:PS X (.Return none pos) DL:=λ_ _ σ H _ I h=>wpAny_Return_none ⟨.aW,σ,H,I,rfl,h⟩
noncomputable def Kf(c:TT)(t u:TS):TS:=λD σ H=>c σ H λb H1=>if b=true then t D σ H1 else u D σ H1
theorem JE{c:Expr}{a b:List Stmt}{tc:TT}(hc:PT X c tc)(ha:vU X a t)(hb:vU X b u):PS X (.If c a b pos) (Kf tc t u):=by
 intro pins s σ H D I h;refine wpAny_If (bY (hc pins s σ H _ I h) λd s1⟨H1,I1,q1⟩=>?_);cases d with
 |true=>exact ha pins s1 σ H1 D I1 q1
 |false=>exact hb pins s1 σ H1 D I1 q1
end
noncomputable abbrev TG:=V->St->Hp->(St->Hp->Prop)->Prop
noncomputable abbrev vV:=List V->St->Hp->(St->Hp->Prop)->Prop
noncomputable def PG(X:Cx)(target:Expr)(t:TG):Prop:=
 ∀(pins:List (Addr×Obj))(s:Shared)(σ:St)(H:Hp)(v:V)(u:Value)(Q:St->Hp->Prop),Inv X pins σ H s->RelV v u->t v σ H Q->
  wpAny (model X.prog X.w) X.A (assign target X.env u) (λ_ s'=>∃σ' H',Inv X pins σ' H' s'/\Q σ' H') X.xe s
noncomputable def GZ(X:Cx)(ts:List Expr)(t:vV):Prop:=
 ∀(pins:List (Addr×Obj))(s:Shared)(σ:St)(H:Hp)(vs:List V)(us:List Value)(Q:St->Hp->Prop),Inv X pins σ H s->ar vs us->t vs σ H Q->
  wpAny (model X.prog X.w) X.A (assignInOrder ((assignEach ts X.env).map (·.2)) us) (λ_ s'=>∃σ' H',Inv X pins σ' H' s'/\Q σ' H') X.xe s
noncomputable abbrev D2:=V->V->V->Hp->(Hp->Prop)->Prop
noncomputable def Hr(X:Cx)(t:D2):Prop:=
 ∀(pins:List (Addr×Obj))(s:Shared)(σ:St)(H:Hp)(o i v:V)(ov iv u:Value)(Q:Hp->Prop),Inv X pins σ H s->RelV o ov->RelV i iv->RelV v u->t o i v H Q->
  wpAny (model X.prog X.w) X.A (setItem ov iv u) (λ_ s'=>∃H',Inv X pins σ H' s'/\Q H') X.xe s
section
variable{X:Cx}{pos:Pos}
noncomputable def eM(i:Nat):TG:=λv σ H Q=>Q (σ.set i (some v)) H
theorem Cj{i:Nat}{x:Str}(hN:X.N.Nodup)(hi:X.N[i]?=some x)(hx:Loc X.env.scope x)(hf:X.fn x=true\/X.env.scope.names.lookup x=some .local:=by first|exact .inl rfl|exact .inr rfl|assumption):PG X (.Name x pos) (eM i):=by intro pins s σ H v u Q I r h;exact wpAny_assign_Name (rA I hN hi hx r (λs' I'=>⟨_,H,I',h⟩) hf)
noncomputable def EH:vV:=λvs σ H Q=>vs=[]/\Q σ H
noncomputable def yD(t:TG)(u:vV):vV:=λvs σ H Q=>∃v r,vs=v::r/\t v σ H λσ' H'=>u r σ' H' Q
theorem Cm:GZ X [] EH:=by intro pins s σ H vs us Q I r h;obtain⟨e,h⟩:=h;subst e;cases r;exact assignInOrder_nil ⟨σ,H,I,h⟩
theorem zL{e:Expr}{es:List Expr}{t:TG}{u:vV}(h1:PG X e t)(h2:GZ X es u)
  (hs:(assignEach (e::es) X.env).map (·.2)=assign e X.env::(assignEach es X.env).map (·.2):=by rfl):GZ X (e::es) (yD t u):=by
 intro pins s σ H vs us Q I r h;obtain⟨v,vr,e1,h⟩:=h;subst e1;cases r with
 |cons r rr=>rw[hs];refine assignInOrder_cons (bY (h1 pins s σ H _ _ _ I r h) λ_ s1⟨σ1,H1,I1,q1⟩=>?_);exact h2 pins s1 σ1 H1 _ _ Q I1 rr q1
noncomputable def EI(K:PySem.W.Frag)(n:Nat)(t:vV):TG:=λv σ H Q=>∃a xs,v= .ref a/\eC K H a xs/\xs.length=n/\t xs σ H Q
theorem zK{es:List Expr}{k:Nat}{t:vV}{n:Nat}(hc:X.calm=true)(h:GZ X es t)
  (hn:(assignEach es X.env).length=n:=by rfl) (nI:(assignEach es X.env).findIdx? (·.1)=none:=by rfl):PG X (.Tuple es k pos) (EI X.K n t):=by
 intro pins s σ H v u Q I r hw;obtain⟨a,xs,e1,hq,hl,hw⟩:=hw;subst e1;cases r;obtain⟨its,rv,ht,hz⟩:=I.tuple hq;refine assign_Tuple_tuple (I.ok.hd hc) ht (by simp[hn,<-hl,rv.length]) nI λh' hx=>?_
 have I1:Inv X pins σ H {s with heap:=h'}:=I.kept (t':=s.toks) λb o e=>hx b o (Sb (RJ e)) e
 exact h pins _ σ H xs _ Q I1 (by simpa using rv) hw
noncomputable def Ia(to ti:TE)(t:D2):TG:=λv σ H Q=>to σ H λo H1=>ti σ H1 λi H2=>t o i v H2 λH3=>Q σ H3
theorem FZ{o i:Expr}{to ti:TE}{t:D2}(ho:PE X o to)(hi:PE X i ti)(hs:Hr X t)
  (ha:∀v,assign (.Subscript o i pos) X.env v=(do
   let ov<-holding [v] (eval o X.env)
   let iv<-holding [v,ov] (eval i X.env)
   standAt pos
   holding [v,ov,iv] (setItem ov iv v)
   release [v,ov,iv] []):=by intro _;rfl):PG X (.Subscript o i pos) (Ia to ti t):=by
 intro pins s σ H v u Q I r h;rw[ha];refine Rr (VA (bY (ho pins s σ H _ I h) λov s1⟨x,H1,I1,r1,q1⟩=>?_));refine Rr (VA (bY (hi pins s1 σ H1 _ I1 q1) λiv s2⟨y,H2,I2,r2,q2⟩=>?_));refine Rr (VJ (Rr (VA (bY (hs pins s2 σ H2 x y v ov iv u _ I2 r1 r2 r q2) λ_ s3⟨H3,I3,q3⟩=>?_))));exact wpAny_release ⟨σ,H3,I3,q3⟩
noncomputable def pP(te:TE)(g:TG):TS:=λD σ H=>te σ H λx H1=>g x σ H1 D.nx
theorem zN{tg e:Expr}{te:TE}{g:TG}(he:PE X e te)(hg:PG X tg g)(hs:swapsWithSole [tg] e pos.line X.env=pure false:=by rfl)(hw:swappedStores [tg] e X.env=pure none:=by rfl)
  (h1:(assignEach [tg] X.env).map (·.2)=[assign tg X.env]:=by rfl):PS X (.Assign [tg] e pos) (pP te g):=by
 intro pins s σ H D I h;refine wpAny_Assign_stores (bY (he pins s σ H _ I h) λv s1⟨x,H1,I1,r1,q1⟩=>?_) hs hw;rw[h1];exact bY (hg pins s1 σ H1 x v _ I1 r1 q1) λ_ s2 q=>q
theorem tN{i:Nat}{x:Str}{e:Expr}{te:TE}{pos':Pos}(hN:X.N.Nodup)(hi:X.N[i]?=some x)(hx:Loc X.env.scope x)(he:PE X e te)(hs:swapsWith e (some (.Name x pos')) pos.line X.env=pure false:=by rfl)(hf:X.fn x=true\/X.env.scope.names.lookup x=some .local:=by first|exact .inl rfl|exact .inr rfl|assumption):
  PS X (.Assign [.Name x pos'] e pos) (pP te (eM i)):=by
 intro pins s σ H D I h;refine wpAny_Assign_Name (bY (he pins s σ H _ I h) λv s1⟨y,H1,I1,r1,q1⟩=>?_) hs;exact rA I1 hN hi hx r1 (λs2 I2=>⟨_,H1,I2,q1⟩) hf
end
structure It where
 go:Nat->Hp->Prop
 yld:Nat->Hp->V->Hp->Prop
 stop:Nat->Hp->Prop
noncomputable def iO(X:Cx)(pins:List (Addr×Obj))(H:Hp)(b:Addr):Prop:=
 H b=none/\b≠X.env.locals/\b∉X.fs/\(b∈X.ex\/X.s₀.heap.objs.size<=b)/\(∀x c,X.env.cells.lookup x=some c->c≠b)/\∀p∈X.pn++pins,p.1≠b
theorem Inv.yA{X:Cx}{pins:List (Addr×Obj)}{σ:St}{H H':Hp}{s:Shared}{b:Addr}(I:Inv X pins σ H s)(hb:s.heap.objs.size<=b)(hn:H' b=none):iO X pins H' b:=by
 refine⟨hn,UX (RZ I.lt hb),I.M9 hb,.inr (RK I.sz hb),λx c e z=>?_,λp hp z=>?_⟩
 ·obtain⟨v,q⟩:=I.cell x c e;exact absurd (RZ q.lt (by rw[z];exact hb)) (UR _)
 ·exact absurd (RZ (RJ (I.pin p hp).1) (by rw[z];exact hb)) (UR _)
structure Turn(P:Program)(w:World)(K:PySem.W.Frag)(tg:Expr)(J:It)(fp:List Addr)(it:Addr)(tn:Nat->Heap->Prop):Prop where
 mem:it∈fp
 obj:∀i h,tn i h->∀b∈fp,∃o,h.get? b=some o/\∀v,o.data≠ .cell v
 keep:∀i h h',tn i h->(∀b∈fp,∀o,h.get? b=some o->h'.get? b=some o)->tn i h'
 item:∀(X:Cx),X.prog=P->X.w=w->X.K=K->X.calm=true->∀(i:Nat)(pins:List (Addr×Obj))(s:Shared)(σ:St)(H:Hp)(E:Value->Shared->Prop),Inv X pins σ H s->(∀b∈fp,iO X pins H b)->tn i s.heap->J.go i H->
  wpAny (model P w) X.A (pyNext (.ref it)) (λr s1=>∃u,r=some u/\
   wpAny (model P w) X.A (letOwnedTupleGo tg (.ref it) u) (λ_ s2=>∃x H',Inv X pins σ H' s2/\RelV x u/\J.yld i H x H'/\tn (i+1) s2.heap/\∀b∈fp,H' b=none) E s1) E s
 done:∀(X:Cx),X.prog=P->X.w=w->X.K=K->X.calm=true->∀(i:Nat)(pins:List (Addr×Obj))(s:Shared)(σ:St)(H:Hp)(E:Value->Shared->Prop),Inv X pins σ H s->(∀b∈fp,iO X pins H b)->tn i s.heap->J.stop i H->
  wpAny (model P w) X.A (pyNext (.ref it)) (λr s1=>r=none/\Inv X pins σ H s1) E s
 self:∀(A:Around)(i:Nat)(s:Shared)(Q:Value->Shared->Prop)(E:Value->Shared->Prop),tn i s.heap->Q (.ref it) s->wpAny (model P w) A (pyIter (.ref it)) Q E s
noncomputable abbrev TI:=St->Hp->(It->Hp->Prop)->Prop
noncomputable def N6(X:Cx)(pins:List (Addr×Obj))(σ:St)(tg:Expr)(R:It->Hp->Prop)(pX:Value)(s2:Shared):Prop:=
 ∃(it:Addr)(fp:List Addr)(tn:Nat->Heap->Prop)(J:It)(H':Hp),pX= .ref it/\Inv X pins σ H' s2/\Turn X.prog X.w X.K tg J fp it tn/\tn 0 s2.heap/\(∀b∈fp,iO X pins H' b)/\R J H'
noncomputable def PI(X:Cx)(tg iter:Expr)(wi:TI):Prop:=
 ∀(pins:List (Addr×Obj))(s:Shared)(σ:St)(H:Hp)(R:It->Hp->Prop),Inv X pins σ H s->wi σ H R->
  wpAny (model X.prog X.w) X.A (eval iter X.env) (λv s1=>wpAny (model X.prog X.w) X.A (pyIter v) (N6 X pins σ tg R) X.xe s1) X.xe s
theorem yK{M:Model}{A:Around}{E:Value->Shared->Prop}{s:Shared}{tg:Expr}{it:Addr}{u:Value}{o:Obj}{n:String}{vs:Array Value}{Q:Unit->Shared->Prop}(ho:s.heap.get? it=some o)(hc:o.cls= .type n)(hd:o.data= .fields vs)
  (hn:["enumerate","zip","dict_itemiterator","dict_reverseitemiterator","odict_iterator","itertools.zip_longest","itertools.pairwise"].contains n=false) (hQ:Q () s):wpAny M A (letOwnedTupleGo tg (.ref it) u) Q E s:=by
 unfold letOwnedTupleGo;cases tg<;>first
  |exact Rw hQ
  |(cases u<;>first
    |exact Rw hQ
    |(refine Rr (wpAny_load ho ?_);rw[hc,hd];show wpAny M A (if (["enumerate","zip","dict_itemiterator","dict_reverseitemiterator","odict_iterator","itertools.zip_longest","itertools.pairwise"].contains n&&vs[0]?==some (rawInt _))=true then _ else _) Q E s;rw[Vk (by intro h;rw[hn,Bool.false_and]at h;cases h)];exact Rw hQ))
noncomputable def Kz(K:PySem.W.Frag)(a:Addr):It:=
 ⟨λi H=>∃xs x,df K H a xs/\xs[i]?=some x,λi H x H'=>H'=H/\∀xs,df K H a xs->xs[i]?=some x,λi H=>∃xs,df K H a xs/\xs.length<=i⟩
noncomputable def Ls(K:PySem.W.Frag)(a:Addr):It:=
 ⟨λi H=>∃xs x,eC K H a xs/\xs[i]?=some x,λi H x H'=>H'=H/\∀xs,eC K H a xs->xs[i]?=some x,λi H=>∃xs,eC K H a xs/\xs.length<=i⟩
noncomputable def KA(lo:Int)(n:Nat):It:=⟨λi _=>i<n,λi H x H'=>H'=H/\x= .int (lo+i),λi _=>n<=i⟩
theorem xf{P:Program}{w:World}{K:PySem.W.Frag}{tg:Expr}(a it:Addr):Turn P w K tg (Kz K a) [it] it (λi h=>h.IsListIter it a i) where
 mem:=by simp
 obj:=λi h st b hb=>by
  have e:b=it:=by simpa using hb
  subst e;obtain⟨o,e,c,d⟩:=st;exact⟨o,e,λv z=>by rw[d]at z;cases z⟩
 keep:=λi h h' st k=>st.at λo e=>k it (by simp) o e
 item:=by
  intro X hP hw hK hc i pins s σ H E I hf st hg;subst hP hw hK;obtain⟨xs,x,hq,hx⟩:=hg;obtain⟨its,rv,p,hz⟩:=I.list hq;obtain⟨u,hu,ru⟩:=rv.get hx;obtain⟨f0,f1,f2,f3,f4,f5⟩:=hf it (by simp);refine wpAny_pyNext_list_item st p.isList (x:=u) (by simpa using hu) λh' ao sb=>?_
  have I1:Inv X pins σ H {s with heap:=h'}:=I.turned (t':=s.toks) (λb o hb e=>(sb.2 b hb).trans e) f0 f1 f3 f4 f5;obtain⟨o,e,c,d⟩:=id ao;exact⟨u,rfl,yK (s:={s with heap:=h'}) e c d (by decide) ⟨x,H,I1,ru,⟨rfl,λys hy=>by rw[I.zk hy hq];exact hx⟩,ao,λb hb=>(hf b hb).1⟩⟩
 done:=by intro X hP hw hK hc i pins s σ H E I hf st hg;subst hP hw hK;obtain⟨xs,hq,hx⟩:=hg;obtain⟨its,rv,p,hz⟩:=I.list hq;obtain⟨f0,f1,f2,f3,f4,f5⟩:=hf it (by simp);have hl:=rv.length;exact wpAny_pyNext_list_end (I.ok.hd hc) st p.isList (by simp;lia) λh' eb=>⟨rfl,I.turned (t':=s.toks) (λb o hb e=>eb b o hb e) f0 f1 f3 f4 f5⟩
 self:=λ_ _ _ _ _ st h=>wpAny_pyIter_listiter st h
theorem tW{P:Program}{w:World}{K:PySem.W.Frag}{tg:Expr}(a it:Addr):Turn P w K tg (Ls K a) [it] it (λi h=>h.IsTupleIter it a i) where
 mem:=by simp
 obj:=λi h st b hb=>by
  have e:b=it:=by simpa using hb
  subst e;obtain⟨o,e,c,d⟩:=st;exact⟨o,e,λv z=>by rw[d]at z;cases z⟩
 keep:=λi h h' st k=>st.at λo e=>k it (by simp) o e
 item:=by
  intro X hP hw hK hc i pins s σ H E I hf st hg;subst hP hw hK;obtain⟨xs,x,hq,hx⟩:=hg;obtain⟨its,rv,p,hz⟩:=I.tuple hq;obtain⟨u,hu,ru⟩:=rv.get hx;obtain⟨f0,f1,f2,f3,f4,f5⟩:=hf it (by simp);refine wpAny_pyNext_tuple_item st (show s.heap.IsTuple a its.toArray from p) (x:=u) (by simpa using hu) λh' ao sb=>?_
  have I1:Inv X pins σ H {s with heap:=h'}:=I.turned (t':=s.toks) (λb o hb e=>(sb.2 b hb).trans e) f0 f1 f3 f4 f5;obtain⟨o,e,c,d⟩:=id ao;exact⟨u,rfl,yK (s:={s with heap:=h'}) e c d (by decide) ⟨x,H,I1,ru,⟨rfl,λys hy=>by rw[I.xc hy hq];exact hx⟩,ao,λb hb=>(hf b hb).1⟩⟩
 done:=by intro X hP hw hK hc i pins s σ H E I hf st hg;subst hP hw hK;obtain⟨xs,hq,hx⟩:=hg;obtain⟨its,rv,p,hz⟩:=I.tuple hq;obtain⟨f0,f1,f2,f3,f4,f5⟩:=hf it (by simp);have hl:=rv.length;exact wpAny_pyNext_tuple_end (I.ok.hd hc) st (show s.heap.IsTuple a its.toArray from p) (by simp;lia) λh' eb=>⟨rfl,I.turned (t':=s.toks) (λb o hb e=>eb b o hb e) f0 f1 f3 f4 f5⟩
 self:=λ_ _ _ _ _ st h=>wpAny_pyIter_tupleiter st h
theorem tV{P:Program}{w:World}{K:PySem.W.Frag}{tg:Expr}(it:Addr)(lo:Int)(n:Nat):Turn P w K tg (KA lo n) [it] it (λi h=>IsRangeIter h it (lo+(i:Nat)*1) ((n:Int)-(i:Nat)) 1) where
 mem:=by simp
 obj:=λi h st b hb=>by
  have e:b=it:=by simpa using hb
  subst e;exact⟨_,st,λv z=>by
   have z':Data.fields _=Data.cell v:=z;cases z'⟩
 keep:=λi h h' st k=>k it (by simp) _ st
 item:=by
  intro X hP hw hK hc i pins s σ H E I hf st hg;subst hP hw hK;obtain⟨f0,f1,f2,f3,f4,f5⟩:=hf it (by simp);have W:=Walks.range (prog:=X.prog) (w:=X.w) (I.ok.hd hc) it lo 1 n;refine W.item i s _ _ hg st λv h' tk hv ao kk=>?_
  obtain⟨t,rfl⟩:=hv;have I1:Inv X pins σ H {s with heap:=h',toks:=tk}:=I.turned (λb o hb e=>kk b o (by simpa using hb) e) f0 f1 f3 f4 f5;refine⟨_,rfl,yK (s:={s with heap:=h',toks:=tk}) (n:="range_iterator") ao rfl rfl (by decide) ⟨.int (lo+i),H,I1,⟨t,?_⟩,⟨rfl,rfl⟩,ao,λb hb=>(hf b hb).1⟩⟩;rw[Int.mul_one]
 done:=by intro X hP hw hK hc i pins s σ H E I hf st hg;subst hP hw hK;obtain⟨f0,f1,f2,f3,f4,f5⟩:=hf it (by simp);exact wpAny_pyNext_range_end (I.ok.hd hc) st (by have:n<=i:=hg;lia) λh' eb=>⟨rfl,I.turned (t':=s.toks) (λb o hb e=>eb b o hb e) f0 f1 f3 f4 f5⟩
 self:=λ_ _ _ _ _ st h=>wpAny_pyIter_rangeiter st h
end L2
namespace L2
open PySem PySem.Spec PyProof.Rows
section
variable{X:Cx}{tg:Expr}
theorem zT{pins:List (Addr×Obj)}{σ:St}{H:Hp}{s:Shared}{R:It->Hp->Prop}{E:Value->Shared->Prop}{lo hi:Int}{t u v:Tok}{tk:Nat}(I:Inv X pins σ H s)(h1: -(2^62)<=lo)(h2:lo<2^62)(h3: -(2^62)<=hi)(h4:hi<2^62)
  (q:R (KA lo (hi-lo).toNat) H):wpAny (model X.prog X.w) X.A (pyIter (.ref s.heap.objs.size)) (N6 X pins σ tg R) E {s with heap:=s.heap.push {cls:=.type "range",data:=.fields #[.int lo t,.int hi u,.int 1 v]},toks:=tk}:=by
 refine wpAny_pyIter_range (IsRange.new ..) (small_one h1 h2 h3 h4) ?_;have I1:Inv X pins σ H {s with heap:=s.heap.push {cls:=.type "range",data:=.fields #[.int lo t,.int hi u,.int 1 v]},toks:=tk}:=I.kept λb o e=>Rv _ e
 refine⟨(s.heap.push {cls:=.type "range",data:=.fields #[.int lo t,.int hi u,.int 1 v]}).objs.size,[(s.heap.push {cls:=.type "range",data:=.fields #[.int lo t,.int hi u,.int 1 v]}).objs.size],_,_,H,rfl,
  I1.kept (t':=tk) λb o e=>Rv _ e,tV _ lo (hi-lo).toNat,?_,λb hb=>?_,q⟩
 ·have e1:lo+((0:Nat):Int)*1=lo:=by simp
  have e2:(((hi-lo).toNat:Nat):Int)-((0:Nat):Int)=Builtin.Range.rangeSize lo hi 1:=by rw[rangeSize_one];split<;>lia
  show IsRangeIter _ _ (lo+((0:Nat):Int)*1) ((((hi-lo).toNat:Nat):Int)-((0:Nat):Int)) 1;rw[e1,e2];exact RG _ rfl
 ·have e:b=(s.heap.push {cls:=.type "range",data:=.fields #[.int lo t,.int hi u,.int 1 v]}).objs.size:=by simpa using hb
  subst e;exact I1.yA (RE _) (I1.hok.fresh (RE _))
noncomputable def IQ(ta:TA):TI:=λσ H R=>ta σ H λvs H1=>∃j:Int,vs=[.int j]/\ -(2^62)<=j/\j<2^62/\R (KA 0 j.toNat) H1
theorem wN{a:Expr}{ta:TA}{p pos:Pos}(hg:Gl X "range")(hm:X.mg "range"=none)(ha:PA X [a] ta)(hs:starEach [a] X.env=[(false,eval a X.env)]:=by rfl):PI X tg (.Call (.Name "range" p) [a] [] pos) (IQ ta):=by
 intro pins s σ H R I h;refine Call_ (lH I hg hm boot_range (U5 (bY (ha pos pins s σ H _ I h) λus s1⟨vs,H1,I1,r1,q1⟩=>?_) hs rfl));obtain⟨j,e,q1,q2,q⟩:=q1;subst e;cases r1 with
 |cons r rr=>cases rr;obtain⟨t,rfl⟩:=r;exact call_range_1 (zT I1 ⋯ ⋯ q1 q2 (by simpa using q))
noncomputable def Ke(wi:TI)(g:TG)(tb:TS):TS:=λD σ H=>wi σ H λJ H1=>∃W:Nat->Nat->St->Hp->Prop,(∃m,W 0 m σ H1)/\∀i m σ H,W i m σ H->
 (J.stop i H/\D.nx σ H)\/(J.go i H/\∃N:St->Hp->Prop,(∀σ' H',N σ' H'->∃m',m'<m/\W (i+1) m' σ' H')/\∀x H',J.yld i H x H'->g x σ H' λσ2 H2=>tb {D with nx:=N,ct:=N,bk:=D.nx} σ2 H2)
noncomputable def lR(fp:List Addr)(h:Heap):List (Addr×Obj):=fp.filterMap λb=>(h.get? b).map λo=>(b,o)
theorem fy{fp:List Addr}{h:Heap}{b:Addr}{o:Obj}(hb:b∈fp)(e:h.get? b=some o):(b,o)∈lR fp h:=Ul.mpr ⟨b,hb,by rw[e];rfl⟩
theorem wK{fp:List Addr}{h:Heap}{p:Addr×Obj}(hp:p∈lR fp h):p.1∈fp/\h.get? p.1=some p.2:=by
 obtain⟨b,hb,e⟩:=Ul.mp hp;cases q:h.get? b with
 |none=>rw[q]at e;cases e
 |some o=>rw[q]at e;have e':(b,o)=p:=U4 e;subst e';exact⟨hb,q⟩
theorem Inv.pinned{pins:List (Addr×Obj)}{σ:St}{H:Hp}{s:Shared}{fp:List Addr}(I:Inv X pins σ H s)(hf:∀b∈fp,iO X pins H b)(ho:∀b∈fp,∃o,s.heap.get? b=some o/\∀v,o.data≠ .cell v):Inv X (pins++lR fp s.heap) σ H s:=
 I.vj λp hp=>(R0.mp hp).elim (λz=>I.pin p (Sd _ z)) λz=>by obtain⟨hb,e⟩:=wK z;obtain⟨f0,f1,f2,_⟩:=hf p.1 hb;obtain⟨o,e',d⟩:=ho p.1 hb;rw[e]at e';cases e';exact⟨e,f0,f1,f2,d⟩
theorem Inv.jx{pins pl:List (Addr×Obj)}{σ:St}{H:Hp}{s:Shared}(I:Inv X (pins++pl) σ H s):Inv X pins σ H s:=I.vj λp hp=>I.pin p (Sd _ (Uj _ hp))
theorem F5{iter:Expr}{body:List Stmt}{wi:TI}{g:TG}{tb:TS}{pos:Pos}(hp:PassesOwn (model X.prog X.w) X.A X.env X.xe)(hc:X.calm=true)(hi:PI X tg iter wi)(hg:PG X tg g)(hb:vU X body tb)
  (hs:∀x,foldedSetIterable iter X.env x=pure x:=by intro _;rfl):PS X (.For tg iter body [] pos) (Ke wi g tb):=by
 intro pins s σ H D I h;refine wpAny_For (bY (hi pins s σ H _ I h) λv s1 h1=>bY h1 λpX s2 h2=>?_) hs;obtain⟨it,fp,tn,J,H2,e,I2,T,dR,f2,W,⟨m0,w0⟩,turn⟩:=h2;subst e;have pM:∀{H':Hp},(∀b∈fp,H' b=none)->∀b∈fp,iO X pins H' b:=λhn b hb=>⟨hn b hb,(f2 b hb).2⟩
 refine codeAny_forLoop_any (λn s'=>∃i σ' H',Inv X pins σ' H' s'/\tn i s'.heap/\(∀b∈fp,H' b=none)/\W i n σ' H') ?_ m0 ⟨0,σ,H2,I2,dR,λb hb=>(f2 b hb).1,w0⟩;rintro n s3 ⟨i,σ3,H3,I3,Hh,Of,w3⟩;rcases turn i n σ3 H3 w3 with ⟨stop,qn⟩|⟨go,N,hN,step⟩
 ·refine VE hp (bY (T.done X rfl rfl rfl hc i pins s3 σ3 H3 X.xe I3 (pM Of) Hh stop) λr s4⟨hr,I4⟩=>?_);subst hr;exact wpAny_execs_nil ⟨σ3,H3,I4,qn⟩
 ·refine VE hp (bY (T.item X rfl rfl rfl hc i pins s3 σ3 H3 X.xe I3 (pM Of) Hh go) λr s4⟨u,hr,h4⟩=>?_);subst hr;refine VE hp (bY h4 λ_ s5⟨x,H5,I5,r5,y5,NN,L6⟩=>?_);have Ph:=I5.pinned (pM L6) (T.obj _ _ NN);refine VE hp (bY (hg _ s5 σ3 H5 x u _ Ph r5 (step x H5 y5)) λ_ s6⟨σ6,H6,I6,q6⟩=>?_);refine VE hp (bY (hb _ s6 σ6 H6 _ I6 q6) λf s7 q7=>?_);have again:∀{σ7:St}{H7:Hp},Inv X (pins++lR fp s5.heap) σ7 H7 s7->N σ7 H7->∃m,m<n/\∃i σ' H',Inv X pins σ' H' s7/\tn i s7.heap/\(∀b∈fp,H' b=none)/\W i m σ' H':=λ {σ7 H7} I7 n7=>by obtain⟨m',hm,w7⟩:=hN σ7 H7 n7;refine⟨m',hm,i+1,σ7,H7,I7.jx,T.keep _ _ _ NN λb hb o e=>(I7.pin (b,o) (Sd _ (Sd _ (fy hb e)))).1,λb hb=>?_,w7⟩;obtain⟨o,e,d⟩:=T.obj _ _ NN b hb;exact(I7.pin (b,o) (Sd _ (Sd _ (fy hb e)))).2.1
  cases f with
  |next=>obtain⟨σ7,H7,I7,n7⟩:=q7;exact again I7 n7
  |cont=>obtain⟨σ7,H7,I7,n7⟩:=q7;exact again I7 n7
  |brk=>obtain⟨σ7,H7,I7,q7⟩:=q7;exact⟨σ7,H7,I7.jx,q7⟩
  |ret v=>obtain⟨x7,σ7,H7,I7,r7,q7⟩:=q7;exact⟨x7,σ7,H7,I7.jx,r7,q7⟩
end
end L2
namespace L2
open PySem PySem.Spec PyProof.Rows
noncomputable abbrev R2:=V->V->Hp->VK->Prop
noncomputable def kR(X:Cx)(f:Value->Value->Sem Value)(r:R2):Prop:=
 ∀(pins:List (Addr×Obj))(s:Shared)(σ:St)(H:Hp)(x y:V)(v u:Value)(Q:VK),Inv X pins σ H s->RelV x v->RelV y u->r x y H Q->
  wpAny (model X.prog X.w) X.A (f v u) (EP X pins σ Q) X.xe s
noncomputable def Lz(X:Cx)(f:Value->Sem Value)(r:V->Hp->VK->Prop):Prop:=
 ∀(pins:List (Addr×Obj))(s:Shared)(σ:St)(H:Hp)(x:V)(v:Value)(Q:VK),Inv X pins σ H s->RelV x v->r x H Q->
  wpAny (model X.prog X.w) X.A (f v) (EP X pins σ Q) X.xe s
noncomputable def c7(X:Cx)(f:Value)(r:List V->Hp->VK->Prop):Prop:=
 ∀(pins:List (Addr×Obj))(s:Shared)(σ:St)(H:Hp)(xs:List V)(us:List Value)(Q:VK),Inv X pins σ H s->ar xs us->r xs H Q->
  wpAny (model X.prog X.w) X.A (call f us) (EP X pins σ Q) X.xe s
noncomputable def Ly(X:Cx)(r:V->Hp->(Bool->Hp->Prop)->Prop):Prop:=
 ∀(pins:List (Addr×Obj))(s:Shared)(σ:St)(H:Hp)(x:V)(v:Value)(Q:Bool->Hp->Prop),Inv X pins σ H s->RelV x v->r x H Q->
  wpAny (model X.prog X.w) X.A (truthy v) (TP X pins σ Q) X.xe s
noncomputable def Lg(r:R2)(ta tb:TE):TE:=λσ H Q=>ta σ H λx H1=>tb σ H1 λy H2=>r x y H2 Q
noncomputable def Q0(r:V->Hp->VK->Prop)(ta:TE):TE:=λσ H Q=>ta σ H λx H1=>r x H1 Q
noncomputable def rI(C:Int->Int->Prop)(g:Int->Int->V):R2:=λx y H Q=>∃i j,x= .int i/\y= .int j/\C i j/\Q (g i j) H
noncomputable def DE(g:Int->Int->V):R2:=λx y H Q=>∃i j,x= .int i/\y= .int j/\Q (g i j) H
noncomputable def rU(g:Int->V):V->Hp->VK->Prop:=λx H Q=>∃i,x= .int i/\Q (g i) H
section
variable{X:Cx}{a b c:Expr}{ta tb tc:TE}{pos:Pos}
theorem Eg(ha:PE X a ta)(hb:PE X b tb){pins:List (Addr×Obj)}{s:Shared}{σ:St}{H:Hp}{R:V->V->Hp->Prop}(I:Inv X pins σ H s)
  (h:ta σ H λx H1=>tb σ H1 λy H2=>R x y H2) {Q:Value->Shared->Prop} {f:Value->Value->Sem Value}
  (hf:∀v u s2 x y H2,Inv X pins σ H2 s2->RelV x v->RelV y u->R x y H2->wpAny (model X.prog X.w) X.A (f v u) Q X.xe s2):
  wpAny (model X.prog X.w) X.A (eval a X.env) (λv s₁=>wpAny (model X.prog X.w) X.A (eval b X.env) (λu s₂=>wpAny (model X.prog X.w) X.A (f v u) Q X.xe s₂) X.xe s₁) X.xe s:=by
 refine bY (ha pins s σ H _ I h) λv s1⟨x,H1,I1,r1,q1⟩=>?_
 refine bY (hb pins s1 σ H1 _ I1 q1) λu s2⟨y,H2,I2,r2,q2⟩=>?_
 exact hf v u s2 x y H2 I2 r1 r2 q2
theorem Jz{op:Operator}{r:R2}(ho:kR X (binaryOp op) r)(ha:PE X a ta)(hb:PE X b tb):PE X (.BinOp a op b pos) (Lg r ta tb):=by intro pins s σ H Q I h;exact wpAny_BinOp (Eg ha hb I h λv u s2 x y H2 I2 rx ry q=>ho pins s2 σ H2 x y v u Q I2 rx ry q)
theorem JB{op:UnaryOp}{r:V->Hp->VK->Prop}(ho:Lz X (unaryOp op) r)(ha:PE X a ta):PE X (.UnaryOp op a pos) (Q0 r ta):=by intro pins s σ H Q I h;exact UnaryOp_ (bY (ha pins s σ H _ I h) λv s1⟨x,H1,I1,r1,q1⟩=>ho pins s1 σ H1 x v Q I1 r1 q1)
theorem K9{f:Value->Value->Sem Value}{C:Int->Int->Prop}{g:Int->Int->Int}
  (rule:∀(i j:Int)(t u:Tok)(s:Shared)(Q:Value->Shared->Prop)(E:Value->Shared->Prop),C i j->Q (.int (g i j) s.toks) {s with toks:=s.toks+1}->wpAny (model X.prog X.w) X.A (f (.int i t) (.int j u)) Q E s):
  kR X f (rI C λi j=>.int (g i j)):=by
 intro pins s σ H x y v u Q I rx ry h;obtain⟨i,j,rfl,rfl,hc,q⟩:=h;obtain⟨t,rfl⟩:=rx;obtain⟨t',rfl⟩:=ry;exact rule i j t t' s _ _ hc ⟨.int (g i j),H,I.tok _,⟨_,rfl⟩,q⟩
theorem Js{f:Value->Value->Sem Value}{g:Int->Int->Int}
  (rule:∀(i j:Int)(t u:Tok)(s:Shared)(Q:Value->Shared->Prop)(E:Value->Shared->Prop),Q (.int (g i j) s.toks) {s with toks:=s.toks+1}->wpAny (model X.prog X.w) X.A (f (.int i t) (.int j u)) Q E s):
  kR X f (DE λi j=>.int (g i j)):=by
 intro pins s σ H x y v u Q I rx ry h;obtain⟨i,j,rfl,rfl,q⟩:=h;obtain⟨t,rfl⟩:=rx;obtain⟨t',rfl⟩:=ry;exact rule i j t t' s _ _ ⟨.int (g i j),H,I.tok _,⟨_,rfl⟩,q⟩
theorem B7{f:Value->Value->Sem Value}{g:Int->Int->Bool}
  (rule:∀(i j:Int)(t u:Tok)(s:Shared)(Q:Value->Shared->Prop)(E:Value->Shared->Prop),Q (.bool (g i j)) s->wpAny (model X.prog X.w) X.A (f (.int i t) (.int j u)) Q E s):
  kR X f (DE λi j=>.bl (g i j)):=by
 intro pins s σ H x y v u Q I rx ry h;obtain⟨i,j,rfl,rfl,q⟩:=h;obtain⟨t,rfl⟩:=rx;obtain⟨t',rfl⟩:=ry;exact rule i j t t' s _ _ ⟨.bl (g i j),H,I,rfl,q⟩
noncomputable def Ln(i j:Int):Prop:=0<j/\j<1073741824
noncomputable def DT(i j:Int):Prop:=(-(2^64)<i/\i<2^64)\/(-(2^64)<j/\j<2^64)
theorem DT.ok{i j:Int}(h:DT i j):IntMulOk i j:=by
 rcases h with ⟨h1,h2⟩|⟨h1,h2⟩
 ·exact .of_left (intBits_le_64 h1 h2)
 ·exact .of_right (intBits_le_64 h1 h2)
theorem FE:kR X (binaryOp .Add) (DE λi j=>.int (i+j)):=Js λ_ _ _ _ _ _ _ q=>add_int q
theorem FL:kR X (binaryOp .Sub) (DE λi j=>.int (i-j)):=Js λ_ _ _ _ _ _ _ q=>sub_int q
theorem FK:kR X (binaryOp .Mult) (rI DT λi j=>.int (i*j)):=K9 λ_ _ _ _ _ _ _ hc q=>mul_int q hc.ok
theorem La:kR X (binaryOp .FloorDiv) (rI Ln λi j=>.int (i/j)):=K9 λi j _ _ _ _ _ hc q=>by have h1:(0:Int)<j:=hc.1;have h2:j<1073741824:=hc.2;exact floordiv_int ⋯ (by rw[Int.fdiv_eq_ediv_of_nonneg i ⋯];exact q) (.inl (PyProof.noPylong_small ⋯))
theorem FJ:kR X (binaryOp .Mod) (rI (λ_ j=>0<j) λi j=>.int (i % j)):=K9 λi j _ _ _ _ _ hc q=>by have h1:(0:Int)<j:=hc;exact mod_int' ⋯ (by rw[Int.fmod_eq_emod_of_nonneg i ⋯];exact q)
theorem rY{f:Value->Sem Value}{g:Int->Int}
  (rule:∀(i:Int)(t:Tok)(s:Shared)(Q:Value->Shared->Prop)(E:Value->Shared->Prop),Q (.int (g i) s.toks) {s with toks:=s.toks+1}->wpAny (model X.prog X.w) X.A (f (.int i t)) Q E s):
  Lz X f (rU λi=>.int (g i)):=by
 intro pins s σ H x v Q I rx h;obtain⟨i,rfl,q⟩:=h;obtain⟨t,rfl⟩:=rx;exact rule i t s _ _ ⟨.int (g i),H,I.tok _,⟨_,rfl⟩,q⟩
theorem GJ:Lz X (unaryOp .USub) (rU λi=>.int (-i)):=rY λ_ _ _ _ _ q=>neg_int q
end
section
variable{X:Cx}{a b c:Expr}{ta tb tc:TE}{pos:Pos}
theorem yv{pins:List (Addr×Obj)}{σ:St}{H:Hp}{s:Shared}{Q:VK}{k k':Bool}(I:Inv X pins σ H s)(q:Q (.bl k) H)(e:k=k'):EP X pins σ Q (.bool k') s:=by subst e;exact⟨.bl k,H,I,rfl,q⟩
theorem Jw:kR X (compareOp .Lt) (DE λi j=>.bl (decide (i<j))):=B7 λ_ _ _ _ _ _ _ q=>lt_int q
theorem Jv:kR X (compareOp .LtE) (DE λi j=>.bl (decide (i<=j))):=B7 λ_ _ _ _ _ _ _ q=>le_int q
theorem Ju:kR X (compareOp .Gt) (DE λi j=>.bl (decide (j<i))):=B7 λ_ _ _ _ _ _ _ q=>gt_int q
theorem Jt:kR X (compareOp .GtE) (DE λi j=>.bl (decide (j<=i))):=B7 λ_ _ _ _ _ _ _ q=>ge_int q
theorem FI:kR X (compareOp .Is) (λx y H Q=>y= .aW/\Q (.bl (decide (x= .aW))) H):=by
 intro pins s σ H x y v u Q I rx ry h;obtain⟨rfl,q⟩:=h;cases ry;refine is_none_gen (yv I q ?_);cases x<;>first
  |(cases rx;rfl)
  |(obtain⟨t,rfl⟩:=rx;rfl)
theorem Ca:kR X (compareOp .IsNot) (λx y H Q=>y= .aW/\Q (.bl (!decide (x= .aW))) H):=by
 intro pins s σ H x y v u Q I rx ry h;obtain⟨rfl,q⟩:=h;cases ry;refine isnot_none_gen (yv I q ?_);cases x<;>first
  |(cases rx;rfl)
  |(obtain⟨t,rfl⟩:=rx;rfl)
theorem Cg{op:CmpOp}{r:R2}(ho:kR X (compareOp op) r)(ha:PE X a ta)(hb:PE X b tb)(hm:behindInMarks op b=false):PE X (.Compare a [op] [b] pos) (Lg r ta tb):=by intro pins s σ H Q I h;exact wpAny_Compare1 (Eg ha hb I h λv u s2 x y H2 I2 rx ry q=>ho pins s2 σ H2 x y v u Q I2 rx ry q) hm
noncomputable def Kl(t:TE):TT:=λσ H Q=>t σ H λx H'=>∃k,x= .bl k/\Q k H'
theorem Cv{op:CmpOp}{r:R2}(ho:kR X (compareOp op) r)(ha:PE X a ta)(hb:PE X b tb)(hm:behindInMarks op b=false):PT X (.Compare a [op] [b] pos) (Kl (Lg r ta tb)):=by
 intro pins s σ H Q I h;refine wpAny_isTrue_Compare1 (bY (ha pins s σ H _ I h) λv s1⟨x,H1,I1,r1,q1⟩=>bY (hb pins s1 σ H1 _ I1 q1) λu s2⟨y,H2,I2,r2,q2⟩=>
  bY (ho pins s2 σ H2 x y v u _ I2 r1 r2 q2) λc s3⟨z,H3,I3,r3,k,e,q3⟩=>?_) hm
 subst e;cases r3;exact VL ⟨H3,I3,q3⟩
noncomputable def Ht(K:PySem.W.Frag)(x:V)(H:Hp)(k:Bool):Prop:=
 match x with
 |.aW=>k=false
 |.bl b=>k=b
 |.int i=>k=(i != 0)
 |.str y=>y.length<=sizeLine/\k=((y.length:Int) != 0)
 |.Em y=>y.size<=sizeLine/\k=((y.size:Int) != 0)
 |.ref p=>(∃xs,df K H p xs/\k= !xs.isEmpty)\/(∃xs,eC K H p xs/\k= !xs.isEmpty)\/∃cY,H p=some (.dK cY)/\k= !cY.isEmpty
 |_=>False
theorem sT{κ:Type}{cY:List (κ×V)}{vs:List (κ×Value)}(r:KV cY vs):(!vs.isEmpty)= !cY.isEmpty:=by cases r<;>rfl
theorem lE{xs:List V}{its:List Value}(r:ar xs its):(!its.toArray.isEmpty)= !xs.isEmpty:=by cases r<;>simp
theorem jE:(sizeLine:Nat)<2^63:=by rw[Vv];decide
theorem GI:Ly X (λx H Q=>∃k,Ht X.K x H k/\Q k H):=by
 intro pins s σ H x v Q I rx h;obtain⟨k,e,q⟩:=h;have hl:=jE;have hs:sizeLine=16777216:=Vv;cases x with
 |aW=>cases rx;have e':k=false:=e;subst e';exact truthy_none ⟨H,I,q⟩
 |bl b=>cases rx;have e':k=b:=e;subst e';exact VL ⟨H,I,q⟩
 |int i=>obtain⟨t,rfl⟩:=rx;have e':k=(i != 0):=e;subst e';exact PySem.P.truthy_int ⟨H,I,q⟩
 |str y=>obtain⟨t,rfl⟩:=rx;obtain⟨hy,e'⟩:y.length<=sizeLine/\k=((y.length:Int) != 0):=e;subst e';exact PySem.P.truthy_str ⋯ ⟨H,I.tok _,q⟩
 |Em y=>obtain⟨t,rfl⟩:=rx;obtain⟨hy,e'⟩:y.size<=sizeLine/\k=((y.size:Int) != 0):=e;subst e';exact PySem.W.truthy_bytes ⋯ ⟨H,I.tok _,q⟩
 |ref p=>
  cases rx;have e':(∃xs,df X.K H p xs/\k= !xs.isEmpty)\/(∃xs,eC X.K H p xs/\k= !xs.isEmpty)\/∃cY,H p=some (.dK cY)/\k= !cY.isEmpty:=e;rcases e' with ⟨xs,hx,e'⟩|⟨xs,hx,e'⟩|⟨cY,hx,e'⟩
  ·subst e';obtain⟨its,r,pl,hz⟩:=I.list hx;have hlen:=r.length;exact wpAny_truthy_list pl.isList (by simp only[Rz];lia) ⟨H,I.tok _,by rw[lE r];exact q⟩
  ·subst e';obtain⟨its,r,pl,hz⟩:=I.tuple hx;have hlen:=r.length;exact truthy_tuple pl (by simp only[Rz];lia) ⟨H,I.tok _,by rw[lE r];exact q⟩
  ·subst e';obtain⟨hz,hS,vs,r,m⟩:cY.length<=sizeLine/\(p==sysModules)=false/\∃vs,KV cY vs/\s.heap.DictOf (pv X.prog X.w) p vs:=I.hok p _ hx;have hlen:cY.length=vs.length:=Paired.length r;exact wpAny_truthy_dict hS m ⋯ ⟨H,I.tok _,by rw[sT r];exact q⟩
 |_=>exact(show False from e).elim
theorem zQ(ha:PE X a ta)(he:∀whole,isTrue a X.env whole=(do let v<-whole;standAt a.pos;holding [v] (truthy v))):
  PT X a (λσ H Q=>ta σ H λx H'=>∃k,Ht X.K x H' k/\Q k H'):=by
 intro pins s σ H Q I h;exact isTrue_plain (bY (ha pins s σ H _ I h) λv s1⟨x,H1,I1,r1,q1⟩=>GI pins s1 σ H1 x v Q I1 r1 q1) (he _)
theorem vals1{x:V}{us:List Value}(r:ar [x] us):∃u,us=[u]/\RelV x u:=by
 cases r with
 |cons r1 r2=>cases r2;exact⟨_,rfl,r1⟩
theorem vals2{x y:V}{us:List Value}(r:ar [x,y] us):∃u w',us=[u,w']/\RelV x u/\RelV y w':=by
 cases r with
 |cons r1 r2=>
  cases r2 with
  |cons r3 r4=>cases r4;exact⟨_,_,rfl,r1,r3⟩
theorem xW:c7 X (.builtin "abs") (λxs H Q=>∃i,xs=[.int i]/\Q (.int (if i<0 then -i else i)) H):=by intro pins s σ H xs us Q I r h;obtain⟨i,rfl,q⟩:=h;obtain⟨u,rfl,t,rfl⟩:=vals1 r;exact call_abs_int λu tk=>⟨.int (if i<0 then -i else i),H,I.tok _,⟨_,rfl⟩,q⟩
theorem vZ(hc:X.calm=true):c7 X (.builtin "max") (λxs H Q=>∃i j,xs=[.int i,.int j]/\Q (.int (if j>i then j else i)) H):=by
 intro pins s σ H xs us Q I r h;obtain⟨i,j,rfl,q⟩:=h;obtain⟨u,w',rfl,⟨t,rfl⟩,⟨t',rfl⟩⟩:=vals2 r;refine max_two_ints (I.ok.hd hc) λh' tk k=>⟨_,H,I.kept k,?_,q⟩
 by_cases hj:j>i
 ·rw[Vl hj,Vl hj];exact⟨_,rfl⟩
 ·rw[Vk hj,Vk hj];exact⟨_,rfl⟩
theorem nq:c7 X (.type "int") (λxs H Q=>(∃i,xs=[.int i]/\Q (.int i) H)\/∃k,xs=[.bl k]/\Q (.int (if k then 1 else 0)) H):=by
 intro pins s σ H xs us Q I r h;rcases h with ⟨i,rfl,q⟩|⟨k,rfl,q⟩
 ·obtain⟨u,rfl,t,rfl⟩:=vals1 r;exact call_int_int ⟨.int i,H,I,⟨_,rfl⟩,q⟩
 ·obtain⟨u,rfl,r1⟩:=vals1 r;cases r1;exact call_int_bool ⟨.int (if k then 1 else 0),H,I.tok _,⟨_,rfl⟩,q⟩
noncomputable def Lu(K:PySem.W.Frag)(x:V)(H:Hp)(n:Nat):Prop:=
 match x with
 |.str y=>y.length<=sizeLine/\n=y.length
 |.Em y=>y.size<=sizeLine/\n=y.size
 |.ref p=>(∃xs,df K H p xs/\n=xs.length)\/∃xs,eC K H p xs/\n=xs.length
 |_=>False
theorem kX:c7 X (.builtin "len") (λxs H Q=>∃x n,xs=[x]/\Lu X.K x H n/\Q (.int n) H):=by
 intro pins s σ H xs us Q I r h;obtain⟨x,n,rfl,e,q⟩:=h;obtain⟨u,rfl,rx⟩:=vals1 r;have hl:=jE;have hs:sizeLine=16777216:=Vv;cases x with
 |str y=>obtain⟨t,rfl⟩:=rx;obtain⟨hy,e'⟩:y.length<=sizeLine/\n=y.length:=e;subst e';exact len_str ⋯ ⟨.int _,H,I.tok _,⟨_,rfl⟩,q⟩
 |Em y=>obtain⟨t,rfl⟩:=rx;obtain⟨hy,e'⟩:y.size<=sizeLine/\n=y.size:=e;subst e';exact PySem.W.len_bytes ⋯ ⟨.int _,H,I.tok _,⟨_,rfl⟩,q⟩
 |ref p=>
  cases rx;have e':(∃xs,df X.K H p xs/\n=xs.length)\/∃xs,eC X.K H p xs/\n=xs.length:=e;rcases e' with ⟨xs,hx,e'⟩|⟨xs,hx,e'⟩
  ·subst e';obtain⟨its,r',pl,hz⟩:=I.list hx;have hlen:=r'.length;exact Calls.call_len_list pl.isList (by simp only[Rz];lia) ⟨.int xs.length,H,I.tok _,⟨_,by simp only[Rz];rw[hlen]⟩,q⟩
  ·subst e';obtain⟨its,r',pl,hz⟩:=I.tuple hx;have hlen:=r'.length;exact len_tuple pl (by simp only[Rz];lia) ⟨.int xs.length,H,I.tok _,⟨_,by simp only[Rz];rw[hlen]⟩,q⟩
 |_=>exact(show False from e).elim
end
end L2
namespace L2
open PySem PySem.Spec PyProof.Rows
structure DZ(h:Heap)(x dx C:Addr)(mA:Str->Option Value):Prop where
 obj:h.get? x=some (PySem.W.instObj C dx)
 ns:h.Ns1 dx mA
 ne:dx≠x
theorem wI{h:Heap}{dx:Addr}{mA:Str->Option Value}(n:h.Ns1 dx mA):∃od,h.get? dx=some od/\∀name,PySem.W.lookIn name od=some (mA name):=by
 obtain⟨o,es,ep,ho,hd,hk,_,hm⟩:=n;refine⟨o,ho,λname=>?_⟩;have e:=hm name;unfold nsFind findBy at e;rw[<-Array.find?_toList]at e;unfold PySem.W.lookIn;rw[hd];dsimp only;split
 ·rename_i y q;rw[q]at e;exact Vh some e
 ·rename_i q;rw[q]at e;have a:es.toList.any (·.refKey)=false:=by rw[Tr];intro y hy;obtain⟨z,t,Mv⟩:=hk y (Array.mem_toList_iff.mp hy);simp[DictEntry.refKey,Mv]
  have a':¬es.toList.any (·.refKey)=true:=by rw[a];exact SJ
  rw[Vk a'];exact Vh some e
theorem DZ.look{h:Heap}{x dx C:Addr}{mA:Str->Option Value}(I:DZ h x dx C mA):∃od,PySem.W.InstAt h x (PySem.W.instObj C dx) C (some od)/\∀name,PySem.W.lookIn name od=some (mA name):=
 let ⟨od,ho,hl⟩:=wI I.ns
 ⟨od,⟨I.obj,rfl,rfl,ho⟩,hl⟩
section
variable{P:Program}{w:World}{H H':Hp}{h h':Heap}{a C dx:Addr}{fs L7:List (Str×V)}
theorem BP(hok:fg P w H h)(e:H a=some (.ins C dx fs)):∃mA,DZ h a dx C mA/\(∀f,D1 (fs.lookup f) (mA f))/\PySem.Within mA (fs.map (·.1))/\fs.length<=1000/\H dx=some (.own a):=by obtain⟨d,z,ne,ob,mA,n,r,q⟩:=(show bM P w H h a (.ins C dx fs) from hok a _ e);exact⟨mA,⟨ob,n,ne⟩,r,q,z,d⟩
end
structure Lo(K:PySem.W.Frag)(C:Addr):Prop where
 pg:PySem.W.plainGet K C Str.empty=true
 hd:PySem.W.hasDictIn K C=true
 po:PySem.W.plainOver K C=true
 sa:PySem.W.findIn K (.ref C) "__setattr__"=some (some (.builtin "object.__setattr__"))
theorem Lo.get{K:PySem.W.Frag}{C:Addr}(c:Lo K C)(f:Str):PySem.W.plainGet K C f=true:=c.pg
section
variable{X:Cx}{pins:List (Addr×Obj)}{σ:St}{H:Hp}{s:Shared}{A:Around}{E:Value->Shared->Prop}{Q:Value->Shared->Prop}{c:Value}{b:Bool}
inductive iS(K:PySem.W.Frag)(H:Hp):V->Value->Prop where
 |aW:iS K H .aW (.type "NoneType")
 |bl (x:Bool):iS K H (.bl x) (.type "bool")
 |int (i:Int):iS K H (.int i) (.type "int")
 |str (x:Str):iS K H (.str x) (.type "str")
 |AO (x:UInt64):iS K H (.AO x) (.type "float")
 |lst {a:Addr} {xs:List V} (e:H a=some (.lst xs)):iS K H (.ref a) (.type "list")
 |uH {a:Addr} {o:Obj} {xs:List V} (e:H a=some (.uH o (.lst xs))):iS K H (.ref a) (.type "list")
 |tup {a:Addr} {xs:List V} (e:H a=some (.tup xs)):iS K H (.ref a) (.type "tuple")
 |dK {a:Addr} {cY:List (Key×V)} (e:H a=some (.dK cY)):iS K H (.ref a) (.type "dict")
 |dT {a:Addr} {cY:List (List Key×V)} (e:H a=some (.dT cY)):iS K H (.ref a) (.type "dict")
 |ins {a C dx:Addr} {fs:List (Str×V)} (e:H a=some (.ins C dx fs)) (cl:Lo K C) (ha:PySem.W.findIn K (.ref C) "__class__"=some (some (.builtin "object.__class__")))
   (hn:PySem.W.specialIn K (.builtin "object.__class__") "__get__"=some (some (.builtin "getset_descriptor.__get__"))) (OO:PySem.W.takesIn K (.builtin "object.__class__")=some true)
   (hm:PySem.W.mroIn K C (.type "object")=some true):iS K H (.ref a) (.ref C)
theorem wA{x:V}{u t:Value}(I:Inv X pins σ H s)(rx:RelV x u)(ty:iS X.K H x t)(e:PySem.W.kitOne X.K t c=some b)(h:∀tk,Q (.bool b) {s with toks:=tk}):
  wpAny (model X.prog X.w) A (call (.builtin "isinstance") [u,c]) Q E s:=by
 cases ty with
 |aW=>cases (show u=Value.none from rx);exact Vc PySem.W.kitx_none I.qH True.intro e (λz=>nomatch z) h
 |bl y=>cases (show u=Value.bool y from rx);exact Vc PySem.W.kitx_bool I.qH True.intro e (λz=>nomatch z) h
 |int i=>obtain⟨t,q⟩:=(show∃t,u=Value.int i t from rx);cases q;exact Vc PySem.W.kitx_int I.qH True.intro e (λz=>nomatch z) h
 |str y=>obtain⟨t,q⟩:=(show∃t,u=Value.str y t from rx);cases q;exact Vc PySem.W.kitx_str I.qH True.intro e (λz=>nomatch z) h
 |AO y=>obtain⟨t,q⟩:=(show∃t,u=Value.float y t from rx);cases q;exact Vc PySem.W.kitx_float I.qH True.intro e (λz=>nomatch z) h
 |@lst a xs ea=>cases (show u=Value.ref a from rx);obtain⟨_,_,n,_,h1⟩:=(show bM X.prog X.w H s.heap a (.lst xs) from I.hok a _ ea);exact Vc PySem.W.kitx_list I.qH ⟨_,h1,rfl⟩ e (λz=>nomatch z) h
 |@uH a ob xs ea=>cases (show u=Value.ref a from rx);obtain⟨_,_,_,n,_,h1⟩:=(show bM X.prog X.w H s.heap a (.uH ob (.lst xs)) from I.hok a _ ea);exact Vc PySem.W.kitx_list I.qH ⟨_,h1,rfl⟩ e (λz=>nomatch z) h
 |@tup a xs ea=>cases (show u=Value.ref a from rx);obtain⟨_,_,_,p⟩:=(show bM X.prog X.w H s.heap a (.tup xs) from I.hok a _ ea);obtain⟨o,h1,h2,_⟩:=p;exact Vc PySem.W.kitx_tuple I.qH ⟨o,h1,h2⟩ e (λz=>nomatch z) h
 |@dK a cY ea=>cases (show u=Value.ref a from rx);obtain⟨_,_,vs,_,p⟩:=(show bM X.prog X.w H s.heap a (.dK cY) from I.hok a _ ea);obtain⟨o,es,ep,h1,h2,_⟩:=p;exact Vc PySem.W.kitx_dict I.qH ⟨o,h1,h2.1⟩ e (λz=>nomatch z) h
 |@dT a cY ea=>cases (show u=Value.ref a from rx);obtain⟨_,_,xs,_,o,es,ep,h1,h2,_⟩:=(show bM X.prog X.w H s.heap a (.dT cY) from I.hok a _ ea);exact Vc PySem.W.kitx_dict I.qH ⟨o,h1,h2.1⟩ e (λz=>nomatch z) h
 |@ins a C dx fs ea cl ha hn OO hm=>cases (show u=Value.ref a from rx);obtain⟨mA,O,_⟩:=BP I.hok ea;obtain⟨od,J,_⟩:=O.look;exact Vc (PySem.W.kitx_own (cl.get _) cl.hd ha hn OO hm) I.qH J e (λz=>nomatch z) h
end
end L2
namespace L2
open PySem PySem.Spec PyProof.Rows
structure iP(k:Nat)(A:Around):Prop where
 hd:A.handled=none
 dp:A.depth+3*k+5<recursionLimit
 un:A.units+16*k+200<cLine
theorem iP.deeper{k:Nat}{A:Around}(r:iP (k+1) A)(env:Env):iP k (A.deeper env):=
 ⟨r.hd,by have:=r.dp;show A.depth+1+3*k+5<_;lia,by have:=r.un;show A.units+3+16*k+200<_;lia⟩
theorem iP.depth{k:Nat}{A:Around}(r:iP k A):A.depth<recursionLimit:=by have:=r.dp;lia
noncomputable def GD:TA:=λ_ H Q=>Q [] H
noncomputable def vI(ta:TE)(tr:TA):TA:=λσ H Q=>ta σ H λx H1=>tr σ H1 λxs H2=>Q (x::xs) H2
section
variable{X:Cx}{e:Expr}{es:List Expr}{te:TE}{t:TA}{pos:Pos}
theorem gd:PA X [] GD:=λ_ _ _ _ H Q I h=>Calls.spliced_nil ⟨[],H,I,.nil,h⟩
theorem cH(ha:PE X e te)(hr:PA X es t)(hs:starEach (e::es) X.env=(false,eval e X.env)::starEach es X.env:=by rfl):PA X (e::es) (vI te t):=by intro pos pins s σ H Q I h;rw[hs];show wpAny _ _ (spliced ((false,eval e X.env)::backTo pos (starEach es X.env))) _ _ s;refine Calls.spliced_cons (bY (ha pins s σ H _ I h) λu s1⟨x,H1,I1,r1,q1⟩=>?_);exact bY (hr pos pins s1 σ H1 _ I1 q1) λus s2⟨xs,H2,I2,r2,q2⟩=>⟨x::xs,H2,I2,.cons r1 r2,q2⟩
noncomputable def NX(t:TA):TE:=λσ H Q=>t σ H λxs H1=>xs.length<=sizeLine/\∀p,H1 p=none->Q (.ref p) (upd H1 p (.tup xs))
noncomputable def NS(t:TA):TE:=λσ H Q=>t σ H λxs H1=>xs.length<=sizeLine/\∀p,H1 p=none->Q (.ref p) (upd H1 p (.lst xs))
theorem FY{x1}(h:PA X es t):PE X (.Tuple es x1 pos) (NX t):=by intro pins s σ H Q I hq;refine wpAny_Tuple_spliced (bY (h pos pins s σ H _ I hq) λus s1⟨xs,H1,I1,r,z,q⟩=>⟨by rw[<-r.length];exact z,?_⟩);have hf:H1 s1.heap.objs.size=none:=I1.hok.fresh (RE _);refine⟨.ref s1.heap.objs.size,upd H1 s1.heap.objs.size (.tup xs),I1.laid (t':=s1.toks) (λb u e=>Rv _ e) (RE _) ?_,rfl,q _ hf⟩;exact⟨z,us,r,⟨_,RG _ rfl,rfl,_,rfl,rfl,rfl⟩⟩
theorem tE(h:PA X es t):PE X (.List es pos) (NS t):=by intro pins s σ H Q I hq;refine wpAny_List_spliced (bY (h pos pins s σ H _ I hq) λus s1⟨xs,H1,I1,r,z,q⟩=>⟨by rw[<-r.length];exact z,?_⟩);have hf:H1 s1.heap.objs.size=none:=I1.hok.fresh (RE _);refine⟨.ref s1.heap.objs.size,upd H1 s1.heap.objs.size (.lst xs),I1.laid (t':=s1.toks) (λb u e=>Rv _ e) (RE _) ?_,rfl,q _ hf⟩;exact⟨z,us,0,r,RG _ rfl⟩
end
noncomputable abbrev Sp:=List V->Hp->VK->XK->Prop
noncomputable abbrev kP:=List Env->Hp->Shared->XK->Value->Shared->Prop
structure A8(P:Program)(w:World)(K:PySem.W.Frag)(mg:Str->Option Value)(base:Heap)(A:Around)(outer:List Env)(s:Shared)(H:Hp):Prop where
 frames:A.frames=some outer
 mod:Mod K mg base
 bs:∀b o,base.get? b=some o->s.heap.get? b=some o/\H b=none
 C5:base.objs.size<=s.heap.objs.size
 lj:s.heap.FunFrames base outer
 G5:∀b∈j7 outer,H b=none
 hok:fg P w H s.heap
 bare:AllBare s.gens
noncomputable def CE(outer:List Env)(P:Program)(w:World)(H:Hp)(s:Shared)(Q:VK)(u:Value)(s':Shared):Prop:=
 ∃v H',s'.os=s.os/\AllBare s'.gens/\Un (j7 outer) [] H H' s.heap s'.heap/\fg P w H' s'.heap/\RelV v u/\Q v H'
noncomputable def CR(CX:kP)(outer:List Env)(P:Program)(w:World)(H:Hp)(s:Shared)(Q:VK)(E:XK)(r:Result)(s':Shared):Prop:=
 match r with
 |.ok (.ret u)=>CE outer P w H s Q u s'
 |.ok _=>False
 |.error e=>CX outer H s E e s'
structure jy(P:Program)(w:World)(K:PySem.W.Frag)(mg:Str->Option Value)(base:Heap)(CX:kP)(k:Nat)(f:Addr)(fd:FuncData)(ps:List Str)(sp:Sp):Prop where
 len:∀vs H Q E,sp vs H Q E->vs.length=ps.length
 run:∀(A:Around)(outer:List Env)(s:Shared)(H:Hp)(args:Args)(us:List Value)(vs:List V)(Q:VK)(E:XK),iP k A->A8 P w K mg base A outer s H->BindsTo s fd args (ps.zip us)->ar vs us->sp vs H Q E->
  codeAny (model P w) A (.call (.ref f) args) (CR CX outer P w H s Q E) s
theorem jy.imp{P:Program}{w:World}{K:PySem.W.Frag}{mg:Str->Option Value}{base:Heap}{CX:kP}{k:Nat}{f:Addr}{fd:FuncData}{ps:List Str}{sp O3:Sp}(F:jy P w K mg base CX k f fd ps sp)
  (h:∀vs H Q E,O3 vs H Q E->sp vs H Q E):jy P w K mg base CX k f fd ps O3:=
 ⟨λvs H Q E q=>F.len vs H Q E (h _ _ _ _ q),λA outer s H args us vs Q E hr he hb hv hs=>F.run A outer s H args us vs Q E hr he hb hv (h _ _ _ _ hs)⟩
section
variable{X:Cx}{pins:List (Addr×Obj)}{σ:St}{H:Hp}{s s':Shared}
theorem Inv.LZ(I:Inv X pins σ H s):A8 X.prog X.w X.K X.mg X.base X.A X.stack s H:=
 ⟨I.ok.frames,I.ok.mod,I.bs,RK I.ok.C5 I.sz,I.stack,I.vE,I.hok,I.bare⟩
theorem Inv.after{Q:VK}{u:Value}(I:Inv X pins σ H s)(h:CE X.stack X.prog X.w H s Q u s'):EP X pins σ Q u s':=by obtain⟨v,H',os,bare,un,hok,r,q⟩:=h;obtain⟨hh,g,d,t,QQ⟩:=s';obtain rfl:QQ=s.os:=os;exact⟨v,H',I.call (h':=hh) (g':=g) (d':=d) (t':=t) (ch:=[]) un hok bare (λb z=>absurd z (by simp)),r,q⟩
end
noncomputable def Kd(sp:Sp)(wc:List V)(E:XK)(t:TA):TE:=λσ H Q=>t σ H λvs H1=>sp (vs++wc) H1 Q E
noncomputable def Binds(K:PySem.W.Frag)(fd:FuncData)(ps:List Str)(ds:List Value):Prop:=
 ∀(s:Shared)(us:List Value),K.In s.heap->(us++ds).length=ps.length->BindsTo s fd ⟨us,[]⟩ (ps.zip (us++ds))
theorem Binds.all{K:PySem.W.Frag}{fd:FuncData}{ps:List Str}(h:∀us:List Value,us.length=ps.length->bindArgs fd ⟨us,[]⟩=pure (ps.zip us)):Binds K fd ps []:=λs us _ hl=>by rw[Sl]at hl ⊢;exact .of_eq (h us hl)
noncomputable def r8(CX:kP)(X:Cx)(E:XK):Prop:=∀(pins:List (Addr×Obj))(σ:St)(H:Hp)(s:Shared)(e:Value)(s':Shared),Inv X pins σ H s->CX X.stack H s E e s'->X.xe e s'
section
variable{X:Cx}{CX:kP}{k:Nat}{f C:Addr}{fd:FuncData}{ps:List Str}{sp:Sp}{wc:List V}{ds:List Value}{E:XK}{x m:Str}{p pos apos:Pos}{e o:Expr}{es:List Expr}{ta:TE}{t:TA}
theorem Ge{pins:List (Addr×Obj)}{σ:St}{H:Hp}{s:Shared}{Q:VK}{us:List Value}{vs:List V}(F:jy X.prog X.w X.K X.mg X.base CX k f fd ps sp)(hr:iP k X.A)(hb:Binds X.K fd ps ds)(hd:ar wc ds)(hx:r8 CX X E)
  (I:Inv X pins σ H s) (r:ar vs us) (h:sp (vs++wc) H Q E):wpAny (model X.prog X.w) X.A (call (.ref f) us) (EP X pins σ Q) X.xe s:=by
 have r2:ar (vs++wc) (us++ds):=r.append hd;have hl:(us++ds).length=ps.length:=by rw[<-r2.length];exact F.len _ _ _ _ h
 refine wpAny_call (codeAny_mono (F.run X.A X.stack s H ⟨us,[]⟩ (us++ds) (vs++wc) Q E hr I.LZ (hb s us I.qH hl) r2 h) λr s' hq=>?_);cases r with
 |error e=>exact hx pins σ H s e s' I hq
 |ok fl=>
  cases fl with
  |ret u=>exact I.after hq
  |next=>exact False.elim hq
  |brk=>exact False.elim hq
  |cont=>exact False.elim hq
theorem Cf(F:jy X.prog X.w X.K X.mg X.base CX k f fd ps sp)(hr:iP k X.A)(hg:Gl X x)(hm:X.mg x=some (.ref f))(hk:PySem.W.keepIn X.K (.ref f)=true)(hb:Binds X.K fd ps ds)(hd:ar wc ds)(hx:r8 CX X E)
  (ha:PA X (e::es) t) (BE:(x==("__debug__":Str))=false:=by decide) (he:starEach (e::es) X.env=(false,eval e X.env)::starEach es X.env:=by rfl) (rV:(backTo pos (starEach es X.env)).any (·.1)=false:=by rfl):
  PE X (.Call (.Name x p) (e::es) [] pos) (Kd sp wc E t):=by
 intro pins s σ H Q I h;refine Vw (u5 I hg hm ?_ BE);refine PySem.W.callWith_K (h₀:=X.base) I.ok.mod.MZ hk (bY (ha pos pins s σ H _ I h) λus s1⟨vs,H1,I1,r,q⟩=>⟨I1.qH,?_⟩) he rV;exact Ge F hr hb hd hx I1 r q
end
structure fi(N P:List Str)(sc:Scope):Prop where
 kind:sc.kind= .function
 co:sc.isCoroutine=false
 gen:sc.isGenerator=false
 nd:N.Nodup
 pre:N.take P.length=P
 par:∀x∈P,sc.names.lookup x=some .local\/sc.names.lookup x=some .cell
 FA:∀y∈sc.names,y.2≠ .free
theorem ni{kindOf:Str->Option NameKind}{x:Str}:∀{binds:List (Str×Value)}{m:Str->Option Value},(∀v,(x,v)∉binds)->bindL kindOf binds m x=m x
 |[],_,_=>rfl
 |(n,v)::r,m,h=>by
  unfold bindL;rw[ni λw hw=>h w (RC _ hw)];split
  ·have:x≠n:=by rintro rfl;exact h v RF
   simp[this]
  ·rfl
theorem ng{kindOf:Str->Option NameKind}{x:Str}:∀{binds:List (Str×Value)}{m:Str->Option Value},(∀v,(x,v)∉binds)->bindC kindOf binds m x=m x
 |[],_,_=>rfl
 |(n,v)::r,m,h=>by
  unfold bindC;rw[ng λw hw=>h w (RC _ hw)];split
  ·rfl
  ·have:x≠n:=by rintro rfl;exact h v RF
   simp[this]
theorem nh{kindOf:Str->Option NameKind}{x:Str}{v:Value}:∀{P:List Str}{vs:List Value}{i:Nat}{m:Str->Option Value},P.Nodup->P[i]?=some x->vs[i]?=some v->kindOf x=some .local->
  bindL kindOf (P.zip vs) m x=some v
 |[],_,_,_,_,h,_,_=>by simp at h
 |_::_,[],_,_,_,_,h,_=>by simp at h
 |p::P,w::vs,0,m,nd,h1,h2,hk=>by simp at h1 h2;subst h1;subst h2;show bindL kindOf ((p,w)::P.zip vs) m p=_;unfold bindL;rw[ni λv hv=>(Ut.mp nd).1 (Uu hv).1,Vl hk];simp
 |p::P,w::vs,i+1,m,nd,h1,h2,hk=>by show bindL kindOf ((p,w)::P.zip vs) m x=_;unfold bindL;exact nh (i:=i) (Ut.mp nd).2 (by simpa using h1) (by simpa using h2) hk
theorem m9{kindOf:Str->Option NameKind}{x:Str}{v:Value}:∀{P:List Str}{vs:List Value}{i:Nat}{m:Str->Option Value},P.Nodup->P[i]?=some x->vs[i]?=some v->kindOf x≠some .local->
  bindC kindOf (P.zip vs) m x=some v
 |[],_,_,_,_,h,_,_=>by simp at h
 |_::_,[],_,_,_,_,h,_=>by simp at h
 |p::P,w::vs,0,m,nd,h1,h2,hk=>by simp at h1 h2;subst h1;subst h2;show bindC kindOf ((p,w)::P.zip vs) m p=_;unfold bindC;rw[ng λv hv=>(Ut.mp nd).1 (Uu hv).1,Vk hk];simp
 |p::P,w::vs,i+1,m,nd,h1,h2,hk=>by show bindC kindOf ((p,w)::P.zip vs) m x=_;unfold bindC;exact m9 (i:=i) (Ut.mp nd).2 (by simpa using h1) (by simpa using h2) hk
noncomputable def start(N:List Str)(vs:List V):St:=vs.map some++List.replicate (N.length-vs.length) none
noncomputable def ql(CX:kP)(P:Program)(w:World)(K:PySem.W.Frag)(mg:Str->Option Value)(base:Heap)(N:List Str)(qual:Str)(scope:Scope)(f:Addr)(cd:Value)(A:Around)(outer:List Env)(s:Shared)(H:Hp)(E:XK):Cx where
 prog:=P
 w:=w
 K:=K
 mg:=mg
 base:=base
 A:=A.deeper (envOfC qual scope s.heap.objs.size f cd)
 N:=N
 s₀:=s
 H₀:=H
 env:=envOfC qual scope s.heap.objs.size f cd
 outer:=outer
 stack:=envOfC qual scope s.heap.objs.size f cd::outer
 ex:=[]
 calm:=true
 fn:=λ_=>true
 pn:=[]
 xe:=λe s'=>wpAny (model P w) (A.deeper (envOfC qual scope s.heap.objs.size f cd)) (leaving (envOfC qual scope s.heap.objs.size f cd) e) (λ_ s''=>CX outer H s E e s'') (λe' s''=>CX outer H s E e' s'') s'
theorem qi{sc:Scope}{n:Nat}{x:Str}(h:sc.names.lookup x=some .cell):∃c,(cellsFrom n sc.names []).lookup x=some c:=by have q:=Vb sc.names n [] (.inl h);exact Option.isSome_iff_exists.mp q
theorem wy{CX:kP}{P:Program}{w:World}{K:PySem.W.Frag}{mg:Str->Option Value}{base:Heap}{N ps:List Str}{qual:Str}{scope:Scope}{f:Addr}{cd:Value}{A:Around}{outer:List Env}{s s1:Shared}{H:Hp}{E:XK}{us:List Value}{vs:List V}
  (S:fi N ps scope) (hd:A.handled=none) (e0:A8 P w K mg base A outer s H) (hl:vs.length=ps.length) (r:ar vs us)
  (x:InCallC s s.heap.objs.size (bindL (envOfC qual scope s.heap.objs.size f cd).kindOf (ps.zip us) λ_=>none) (cellsFrom (s.heap.objs.size+1) scope.names []) (bindC (envOfC qual scope s.heap.objs.size f cd).kindOf (ps.zip us) λ_=>none) s1):
  Inv (ql CX P w K mg base N qual scope f cd A outer s H E) [] (start N vs) H s1:=by
 have rV:ps.length<=N.length:=by have:=Vh List.length S.pre;rw[Uc]at this;lia
 obtain⟨h1,tk,rfl,hk⟩:=x.done;have Jo:∀b:Addr,b∉(ql CX P w K mg base N qual scope f cd A outer s H E).ex:=λb z=>absurd (show b∈([]:List Addr) from z) (by simp)
 refine⟨⟨e0.mod,S.kind,rfl,rfl,RE _,λy z c h1 h2=>?_,λy hy=>?_,λy c _ h=>?_,λ_=>hd,Around.frames_deeper e0.frames,.inr ⟨rfl,rfl⟩,λb z=>absurd z (Jo b),e0.bs,e0.C5,λb _ _=>Jo b,λb z=>absurd z (Jo b),e0.lj,e0.G5⟩,
  rfl,e0.bare,Un.kept hk,⟨_,x.toInCall.ns,λi y v h1 h2 h3=>?_⟩,λy c h=>⟨_,x.cell y c h⟩,e0.hok.fresh (RE _),λy c h=>?_,λp hp=>absurd (show p∈([]:List (Addr×Obj)) from hp) (by simp),e0.hok.kept hk,?_⟩
 ·exact name_of_addr x.apart (Vd h1) (Vd h2)
 ·have hy:scope.names.lookup y=some .cell\/scope.names.lookup y=some .free:=hy;rcases hy with hy|hy
  ·exact qi hy
  ·exact absurd rfl (S.FA _ (Vd hy))
 ·exact UP (x.above y c (Vd h))
 ·have hi:i<vs.length:=by
   unfold start at h2;by_cases hi:i<vs.length
   ·exact hi
   ·rw[So (by simpa using hi)]at h2;rw[TX]at h2;split at h2<;>cases h2
  have ha:vs[i]?=some v:=by
   unfold start at h2;rw[Sn (by simpa using hi),RW]at h2;cases e:vs[i]? with
   |none=>rw[e]at h2;cases h2
   |some a=>rw[e]at h2;cases h2;rfl
  obtain⟨u,hu,rv⟩:=r.get ha;have hp:ps[i]?=some y:=by rw[<-S.pre,TZ ⋯];exact h1
  have OW:ps.Nodup:=by rw[<-S.pre];exact S.nd.sublist (UH _ _)
  refine⟨u,rv,?_⟩;rcases S.par y (Uq hp)with k|k
  ·exact .inl ⟨k,nh OW hp hu k⟩
  ·obtain⟨c,e⟩:=qi (n:=s.heap.objs.size+1) k;refine .inr ⟨.inl k,c,e,?_⟩;have q:=x.cell y c e;rw[m9 OW hp hu (by show scope.names.lookup y≠_;rw[k];decide)]at q;exact q
 ·exact e0.hok.fresh (UP (x.above y c (Vd h)))
 ·unfold start;show _=N.length;rw[RQ,RI,T9]
  lia
end L2
namespace L2
open PySem PySem.Spec PyProof.Rows
section
variable{X:Cx}{x:Str}{p pos:Pos}{e:Expr}{es:List Expr}{t:TA}{id T:String}{r:List V->Hp->VK->Prop}
noncomputable def NR(r:List V->Hp->VK->Prop)(t:TA):TE:=λσ H Q=>t σ H λvs H1=>r vs H1 Q
theorem qV(hc:c7 X (.builtin id) r)(hg:Gl X x)(hm:X.mg x=none)(hv:bootBuiltins x=some (.builtin id))(ha:PA X (e::es) t)(hn:x≠"__name__":=by decide)(BE:(x==("__debug__":Str))=false:=by decide)
  (he:starEach (e::es) X.env=(false,eval e X.env)::starEach es X.env:=by rfl) (rV:(backTo pos (starEach es X.env)).any (·.1)=false:=by rfl):PE X (.Call (.Name x p) (e::es) [] pos) (NR r t):=by
 intro pins s σ H Q I h;refine Vw (lH I hg hm hv ?_ hn BE);exact PyProof.Rows.callWith_builtin1 (bY (ha pos pins s σ H _ I h) λus s1⟨vs,H1,I1,r1,q1⟩=>hc pins s1 σ H1 vs us Q I1 r1 q1) he rV
theorem wM(hc:c7 X (.type T) r)(hg:Gl X x)(hm:X.mg x=none)(hv:bootBuiltins x=some (.type T))(ha:PA X (e::es) t)(hn:x≠"__name__":=by decide)(BE:(x==("__debug__":Str))=false:=by decide)
  (he:starEach (e::es) X.env=(false,eval e X.env)::starEach es X.env:=by rfl) (rV:(backTo pos (starEach es X.env)).any (·.1)=false:=by rfl):PE X (.Call (.Name x p) (e::es) [] pos) (NR r t):=by
 intro pins s σ H Q I h;refine Vw (lH I hg hm hv ?_ hn BE);exact U5 (bY (ha pos pins s σ H _ I h) λus s1⟨vs,H1,I1,r1,q1⟩=>hc pins s1 σ H1 vs us Q I1 r1 q1) he rV
end
end L2
namespace HT
open PySem PyProof.Rows
section
variable{prog:Program}{w:World}{A:Around}{E:Value->Shared->Prop}{s:Shared}
theorem Bt{t b:Addr}{vs ws:List Value}{Q:Value->Shared->Prop}(ht:IsTup s.heap t vs.toArray)(hb:IsTup s.heap b ws.toArray)(hv:vs≠[])
  (h1:ws=[]->Q (.ref t) s) (h2:ws≠[]->Q (.ref s.heap.objs.size) {s with heap:=s.heap.push {cls:=.type "tuple",data:=.seq (vs++ws).toArray}})
  (lC:vs.length+ws.length<=sizeLine):wpAny (model prog w) A (binaryOp .Add (.ref t) (.ref b)) Q E s:=by
 obtain⟨⟨cls,dd,data,sl⟩,ho,hc,n,hd⟩:=id ht;obtain⟨⟨Et,uz,data2,vA⟩,qB,rR,n2,hd2⟩:=id hb;simp only at hc hd rR hd2;subst hc hd rR hd2;have e:vs.toArray++ws.toArray=(vs++ws).toArray:=by simp
 by_cases hw:ws=[]
 ·exact concat_meets ⟨_,ho,rfl⟩ ⟨_,qB,rfl⟩ Vr seq_tuple_add U9 U8 (U7 _ _)
   (tuple_addW1 t b vs.toArray ws.toArray n n2 dd uz sl vA (by simpa using hv) (by simp[hw])) ⟨ho,qB,h1 hw⟩
 ·refine concat_meets ⟨_,ho,rfl⟩ ⟨_,qB,rfl⟩ Vr seq_tuple_add U9 U8 (U7 _ _)
   (tuple_addW2 t b vs.toArray ws.toArray n n2 dd uz sl vA (by simpa using hv) (by simpa using hw) (by rw[Rz,Rz];exact lC)) ⟨ho,qB,?_⟩
  rw[e];exact h2 hw
noncomputable def bW(n d:Nat):Option Int->Nat
 |none=>d
 |some v=>if v<0 then(v+(n:Int)).toNat else min v.toNat n
theorem lX(n d:Nat):bW n d none=d:=rfl
theorem vx(n d k:Nat):bW n d (some (k:Int))=min k n:=by show (if (k:Int)<0 then((k:Int)+(n:Int)).toNat else min (k:Int).toNat n)=min k n;rw[Vk ⋯,Td]
theorem Gf(n d:Nat)(hd:d<=n)(o:Option Int):bW n d o<=n:=by
 cases o with
 |none=>exact hd
 |some v=>
  show (if v<0 then(v+(n:Int)).toNat else min v.toNat n)<=n;by_cases hv:v<0
  ·rw[Vl hv];lia
  ·rw[Vk hv];exact Nat.min_le_right _ _
theorem ux(v:Int)(n d:Nat):(if v<0 then max (v+(n:Int)) 0 else min v (n:Int))=((bW n d (some v):Nat):Int):=by
 show (if v<0 then max (v+(n:Int)) 0 else min v (n:Int))=(((if v<0 then(v+(n:Int)).toNat else min v.toNat n):Nat):Int);by_cases hv:v<0
 ·simp only[Vl hv];lia
 ·simp only[Vk hv];lia
theorem se(lo hi:Option Int)(n:Nat):Builtin.Slice.sliceAdjust lo hi 1 (n:Int)=(((bW n 0 lo:Nat):Int),((bW n n hi:Nat):Int)):=by
 have h1:¬((1:Int)<0):=⋯
 unfold Builtin.Slice.sliceAdjust;simp only[h1,Vj];refine Prod.ext ?_ ?_
 ·cases lo with
  |none=>rfl
  |some v=>exact ux v n 0
 ·cases hi with
  |none=>rfl
  |some v=>exact ux v n n
theorem tH(i j:Nat):Builtin.Slice.slicePlaces (i:Int) (j:Int) 1=j-i:=by
 unfold Builtin.Slice.slicePlaces;have h1:(1:Int)>0:=⋯
 simp only[h1,Vm,Int.ediv_one];split<;>lia
theorem lY{v:Value}{o:Option Int}{Q:Option Int->Shared->Prop}(p:IsPart v o)(h:Q o s):wpAny (model prog w) A (Builtin.Slice.slicePartIndex v) Q E s:=by
 cases p with
 |none=>exact slicePart_none h
 |int i t=>exact slicePart_int h
theorem eY{sl:Addr}{vl vu:Value}{lo hi:Option Int}{n:Nat}{Q:Int×Int×Nat->Shared->Prop}(hs:s.heap.IsSliceOf sl vl vu .none)(pl:IsPart vl lo)(pu:IsPart vu hi)
  (h:Q (((bW n 0 lo:Nat):Int),1,bW n n hi-bW n 0 lo) s):wpAny (model prog w) A (Builtin.Slice.sliceApplied (.ref sl) (pure (n:Int))) Q E s:=by
 obtain⟨os,EX,BC,ID⟩:=id hs;unfold Builtin.Slice.sliceApplied Builtin.Slice.sliceFields;refine Rr (Rr (Vz EX ID (x:=vl) rfl (Rr (Vz EX ID (x:=vu) rfl (Rr (Vz EX ID (x:=.none) rfl (Rw ?_)))))));refine Rr (slicePart_none ?_);show wpAny _ _ (if ((1:Int)==0)=true then _ else _) _ _ s;rw[Vk (by decide)];refine Rr (lY pl (Rr (lY pu (Rr (Rw ?_)))));show wpAny _ _ (match Builtin.Slice.sliceAdjust lo hi 1 (n:Int)with|(lo,hi)=>pure (lo,(1:Int),Builtin.Slice.slicePlaces lo hi 1)) _ _ s;rw[se lo hi n];show wpAny _ _ (pure (((bW n 0 lo:Nat):Int),(1:Int),Builtin.Slice.slicePlaces ((bW n 0 lo:Nat):Int) ((bW n n hi:Nat):Int) 1)) _ _ s;rw[tH];exact Rw h
theorem zM(xs:Array Value)(i k:Nat):((List.range k).filterMap λ(m:Nat)=>xs[((i:Int)+(m:Int)*1).toNat]?).toArray=((xs.toList.drop i).take k).toArray:=by
 have e:(λ(m:Nat)=>xs[((i:Int)+(m:Int)*1).toNat]?)=λm=>xs[i+m]?:=by
  funext m;have:((i:Int)+(m:Int)*1).toNat=i+m:=⋯
  rw[this]
 rw[e];have:=pick_run xs i k;rw[List.filterMap_map]at this;have e2:((λx=>xs[x]?) ∘ λx=>i+x)=λm=>xs[i+m]?:=rfl
 rw[e2]at this;rw[this]
theorem iY{t sl:Addr}{items:Array Value}{vl vu:Value}{lo hi:Option Int}{Q:Value->Shared->Prop}(ht:IsTup s.heap t items)(hs:s.heap.IsSliceOf sl vl vu .none)(pl:IsPart vl lo)(pu:IsPart vu hi)
  (hw:¬(bW items.size 0 lo=0/\bW items.size items.size hi=items.size))
  (h:Q (.ref s.heap.objs.size) {s with heap:=s.heap.push {cls:=.type "tuple",data:=.seq ((items.toList.drop (bW items.size 0 lo)).take (bW items.size items.size hi-bW items.size 0 lo)).toArray}})
  (lC:items.size<=sizeLine):wpAny (model prog w) A (getItem (.ref t) (.ref sl)) Q E s:=by
 have uO:sizeOk (.seq ((items.toList.drop (bW items.size 0 lo)).take (bW items.size items.size hi-bW items.size 0 lo)).toArray):=by
  show ((items.toList.drop (bW items.size 0 lo)).take (bW items.size items.size hi-bW items.size 0 lo)).toArray.size<=sizeLine;rw[Rz,Uc,T5,RY]
  lia
 have hj:bW items.size items.size hi<=items.size:=Gf _ _ (RE _) hi;obtain⟨os,EX,BC,ID⟩:=id hs;have Mo:s.TypeIs (.ref sl) "slice":=⟨os,EX,BC⟩;unfold getItem
 try with_reducible refine VA ?_
 first|refine Rr (Rw ?_)|skip
 refine Rr (wpAny_sequenceKey ht.typeIs (by decide) ?_);refine Rr (Vx (name:=Str.ofString "__getitem__") ht.typeIs U6
  (Vy U6 ht.typeIs entry_tuple_getitem ?_ (args_tuple_getitem _ _)))
 show wpAny _ _ (Builtin.Tuple.tupleItemsOf (.ref t) >>=_) _ _ s;refine Rr (tupleItemsOf_ ht ?_);refine Rr (VM Mo ?_);rw[Vl (by decide)];refine Rr (eY hs pl pu ?_);have Qp:¬((((bW items.size 0 lo:Nat):Int)==0&&(1:Int)==1&&(bW items.size items.size hi-bW items.size 0 lo)==items.size)=true):=by intro q;rw[Ry,Ry]at q;have q1:((bW items.size 0 lo:Nat):Int)=0:=R3 q.1.1;have q2:bW items.size items.size hi-bW items.size 0 lo=items.size:=R3 q.2;exact hw ⟨by lia,by lia⟩
 show wpAny _ _ (if (((bW items.size 0 lo:Nat):Int)==0&&(1:Int)==1&&(bW items.size items.size hi-bW items.size 0 lo)==items.size)=true then _ else _) _ _ s;rw[Vk Qp,zM]
 first
  |exact Rr (m:=Builtin.Tuple.tupleExact _) (VC (Rw ⟨_,rfl,Rw h⟩) uO)
  |exact Rr (m:=Builtin.Tuple.tupleExact _) (VC (Rr (Rw (Rw ⟨_,rfl,Rw h⟩))) uO)
  |exact Rr (Rr (m:=Builtin.Tuple.tupleExact _) (VC (Rw (Rw ⟨_,rfl,Rw h⟩)) uO))
  |exact Rr (Rr (m:=Builtin.Tuple.tupleExact _) (VC (Rw ⟨_,rfl,Rw h⟩) uO))
end
end HT
namespace L2
open PySem PySem.Spec PyProof.Rows
noncomputable abbrev TO:=St->Hp->(Option Int->Hp->Prop)->Prop
noncomputable def PO(X:Cx)(e:Option Expr)(t:TO):Prop:=
 ∀(pins:List (Addr×Obj))(s:Shared)(σ:St)(H:Hp)(Q:Option Int->Hp->Prop),Inv X pins σ H s->t σ H Q->
  wpAny (model X.prog X.w) X.A (evalPart e X.env) (λu s'=>∃o H',Inv X pins σ H' s'/\IsPart u o/\Q o H') X.xe s
noncomputable def CK:TO:=λ_ H Q=>Q none H
noncomputable def Kj(t:TE):TO:=λσ H Q=>t σ H λx H1=>∃i,x= .int i/\Q (some i) H1
theorem intsAre_of{ns:List Int}:∀{us:List Value},ar (ns.map V.int) us->IntsAre us ns:=by
 induction ns with
 |nil=>intro us r;rw[Ui]at r;cases r;exact .nil
 |cons n ns ih=>
  intro us r;rw[Sr]at r;cases r with
  |cons r1 r2=>obtain⟨t,e⟩:=r1;subst e;exact .cons n t (ih r2)
section
variable{X:Cx}{e:Expr}{te:TE}{lo hi:Option Expr}{tl th:TO}{pos p2:Pos}
theorem vk:PO X none CK:=by intro pins s σ H Q I h;rw[evalPart_none];exact Rw ⟨none,H,I,.none,h⟩
theorem vm(h:PE X e te):PO X (some e) (Kj te):=by
 intro pins s σ H Q I hw;rw[evalPart_some];refine bY (h pins s σ H _ I hw) λu s1⟨x,H1,I1,r1,q1⟩=>?_
 obtain⟨i,rfl,q⟩:=q1;obtain⟨t,rfl⟩:=r1;exact⟨some i,H1,I1,.int i t,q⟩
noncomputable def Hs(X:Cx)(r:V->Option Int->Option Int->Hp->VK->Prop):Prop:=
 ∀(pins:List (Addr×Obj))(s:Shared)(σ:St)(H:Hp)(x:V)(v vl vu:Value)(lo hi:Option Int)(sl:Addr)(Q:VK),Inv X pins σ H s->RelV x v->s.heap.IsSliceOf sl vl vu .none->IsPart vl lo->IsPart vu hi->r x lo hi H Q->
  ∃T id,typeLookup (.type T) "__getitem__"=pure (some (.builtin id))/\s.TypeIs v T/\wpAny (model X.prog X.w) X.A (getItem v (.ref sl)) (EP X pins σ Q) X.xe s
noncomputable def QZ(r:V->Option Int->Option Int->Hp->VK->Prop)(te:TE)(tl th:TO):TE:=λσ H Q=>te σ H λx H1=>tl σ H1 λl H2=>th σ H2 λu H3=>r x l u H3 Q
theorem qX{r:V->Option Int->Option Int->Hp->VK->Prop}(hr:Hs X r)(he:PE X e te)(hl:PO X lo tl)(hu:PO X hi th):PE X (.Subscript e (.Slice lo hi none p2) pos) (QZ r te tl th):=by
 intro pins s σ H Q I h;refine Subscript_ (bY (he pins s σ H _ I h) λv s1⟨x,H1,I1,r1,q1⟩=>?_);refine wpAny_Slice (bY (hl pins s1 σ H1 _ I1 q1) λvl s2⟨l,H2,I2,pl,q2⟩=>bY (hu pins s2 σ H2 _ I2 q2) λvu s3⟨u,H3,I3,pu,q3⟩=>?_);rw[evalPart_none];refine Rw ?_;have I4:Inv X pins σ H3 {s3 with heap:=s3.heap.push {cls:=.type "slice",data:=.fields #[vl,vu,.none]}}:=I3.kept (t':=s3.toks) λb ob q=>Rv _ q
 obtain⟨T,id,hT,ht,hg⟩:=hr pins {s3 with heap:=s3.heap.push {cls:=.type "slice",data:=.fields #[vl,vu,.none]}} σ H3 x v vl vu l u s3.heap.objs.size Q I4 r1 (Heap.IsSliceOf.new ..) pl pu q3;show wpAny (model X.prog X.w) X.A (subscriptTail e (.Slice lo hi none p2) v (.ref s3.heap.objs.size)) (EP X pins σ Q) X.xe {s3 with heap:=s3.heap.push {cls:=.type "slice",data:=.fields #[vl,vu,.none]}};exact tail_any (ops:=[.ref s3.heap.objs.size,v]) ht hT hg (by with_unfolding_all rfl)
noncomputable def mF(xs:List V)(lo hi:Option Int):List V:=(xs.drop (HT.bW xs.length 0 lo)).take (HT.bW xs.length xs.length hi-HT.bW xs.length 0 lo)
theorem jR(xs:List V)(lo hi:Option Int):(mF xs lo hi).length<=xs.length:=by
 unfold mF;rw[Uc,T5]
 lia
noncomputable def Nx(K:PySem.W.Frag):V->Option Int->Option Int->Hp->VK->Prop:=λx lo hi H Q=>∃a xs,x= .ref a/\eC K H a xs/\
 ¬(HT.bW xs.length 0 lo=0/\HT.bW xs.length xs.length hi=xs.length)/\∀p,H p=none->Q (.ref p) (upd H p (.tup (mF xs lo hi)))
theorem Gr:Hs X (Nx X.K):=by
 intro pins s σ H x v vl vu lo hi sl Q I rx hs pl pu h;obtain⟨a,xs,rfl,hx,hw,q⟩:=h;cases rx;obtain⟨its,r,ht,hz⟩:=I.tuple hx;have hlen:its.toArray.size=xs.length:=by rw[Rz];exact r.length.symm
 refine⟨"tuple",_,U6.lookup,ht.typeIs,?_⟩;refine HT.iY ht hs pl pu (by rw[hlen];exact hw) ?_ (by rw[hlen];exact hz);rw[hlen];refine⟨.ref s.heap.objs.size,_,I.laid (t':=s.toks) (o:=.tup (mF xs lo hi)) (λb ob q=>Rv _ q) (RE _) ?_,rfl,q _ (I.hok.fresh (RE _))⟩;exact⟨RK (jR xs lo hi) hz,_,(r.drop (HT.bW xs.length 0 lo)).take (HT.bW xs.length xs.length hi-HT.bW xs.length 0 lo),mD.new _ _⟩
noncomputable def JH(K:PySem.W.Frag):R2:=λx y H Q=>∃a b xs ys,x= .ref a/\y= .ref b/\eC K H a xs/\eC K H b ys/\xs≠[]/\xs.length+ys.length<=sizeLine/\
 (ys=[]->Q (.ref a) H)/\(ys≠[]->∀p,H p=none->Q (.ref p) (upd H p (.tup (xs++ys))))
theorem ar.px{xs:List V}{us:List Value}(r:ar xs us):us=[]↔xs=[]:=by
 cases r with
 |nil=>simp
 |cons _ _=>simp
theorem B9:kR X (binaryOp .Add) (JH X.K):=by intro pins s σ H x y v u Q I rx ry h;obtain⟨a,b,xs,ys,rfl,rfl,ha,hb,hx,hz,q1,q2⟩:=h;cases rx;cases ry;obtain⟨its,r1,p1,_⟩:=I.tuple ha;obtain⟨aK,r2,p2,_⟩:=I.tuple hb;refine HT.Bt p1 p2 (λz=>hx (r1.px.mp z)) (λz=>⟨.ref a,H,I,rfl,q1 (r2.px.mp z)⟩) (λz=>?_) (by rw[<-r1.length,<-r2.length];exact hz);refine⟨.ref s.heap.objs.size,_,I.laid (t':=s.toks) (o:=.tup (xs++ys)) (λb ob q=>Rv _ q) (RE _) ?_,rfl,q2 (λw=>z (r2.px.mpr w)) _ (I.hok.fresh (RE _))⟩;exact⟨by rw[RQ];exact hz,_,r1.append r2,mD.new _ _⟩
end
end L2
namespace L2
open PySem PySem.Spec PyProof.Rows
noncomputable def pd(n:Nat)(i:Int):Option Nat:=if 0<=i then(if i<n then some i.toNat else none) else if -(n:Int)<=i then some (i+n).toNat else none
noncomputable def kT{α:Type}(xs:List α)(i:Int):Option α:=(pd xs.length i).bind λj=>xs[j]?
theorem uV{n:Nat}{i:Int}{j:Nat}(h:pd n i=some j):seqIndex? i n=some j/\j<n/\ -(n:Int)<=i/\i<n:=by
 unfold pd at h;by_cases h0:0<=i
 ·rw[Vl h0]at h;by_cases h1:i<n
  ·rw[Vl h1]at h;have e:i.toNat=j:=U4 h;exact⟨by rw[seqIndex_of h0 h1,e],by lia,by lia,h1⟩
  ·rw[Vk h1]at h;cases h
 ·rw[Vk h0]at h;by_cases h1: -(n:Int)<=i
  ·rw[Vl h1]at h;have e:(i+n).toNat=j:=U4 h;exact⟨by rw[seqIndex_neg ⋯ h1,e],by lia,h1,by lia⟩
  ·rw[Vk h1]at h;cases h
theorem ue{α:Type}{xs:List α}{i:Int}{v:α}(h:kT xs i=some v):∃j,seqIndex? i xs.length=some j/\xs[j]?=some v/\j<xs.length/\ -(xs.length:Int)<=i/\i<xs.length:=by
 unfold kT at h;cases e:pd xs.length i with
 |none=>rw[e]at h;cases h
 |some j=>rw[e]at h;obtain⟨h1,h2,h3,h4⟩:=uV e;exact⟨j,h1,h,h2,h3,h4⟩
theorem kf{α:Type}{xs:List α}{j:Nat}{v:α}(h:xs[j]?=some v):kT xs (j:Int)=some v:=by
 have hj:j<xs.length:=(RB.mp h).1;have e:pd xs.length (j:Int)=some j:=by unfold pd;rw[Vl ⋯,Vl ⋯];simp
 unfold kT;rw[e];exact h
theorem qe{α:Type}(xs:List α)(v:α):kT (xs++[v]) (-1)=some v:=by
 have hl:(xs++[v]).length=xs.length+1:=by simp
 have e:pd (xs++[v]).length (-1)=some xs.length:=by
  unfold pd;rw[hl,Vk (by decide),Vl ⋯];congr 1
  lia
 unfold kT;rw[e];show (xs++[v])[xs.length]?=some v;simp
noncomputable def kc(b:Expr):Prop:=∀o i,subscripted b false o i=operate [o,i] (getItem o i)
noncomputable def KB(X:Cx)(r:R2):Prop:=
 ∀(value slice:Expr)(pins:List (Addr×Obj))(s:Shared)(σ:St)(H:Hp)(x y:V)(v u:Value)(Q:VK),Inv X pins σ H s->RelV x v->RelV y u->r x y H Q->
  subscripted slice false v u=operate [v,u] (getItem v u)->wpAny (model X.prog X.w) X.A (subscriptTail value slice v u) (EP X pins σ Q) X.xe s
noncomputable def N5(X:Cx)(id:String)(r:V->List V->Hp->VK->Prop):Prop:=
 ∀(pins:List (Addr×Obj))(s:Shared)(σ:St)(H:Hp)(x:V)(xs:List V)(v:Value)(us:List Value)(Q:VK),Inv X pins σ H s->RelV x v->ar xs us->r x xs H Q->
  wpAny (model X.prog X.w) X.A (call (.builtin id) (v::us)) (EP X pins σ Q) X.xe s
section
variable{X:Cx}{a b:Expr}{ta tb:TE}{pos:Pos}
theorem DB{r:R2}(hr:KB X r)(ha:PE X a ta)(hb:PE X b tb)(hs:kc b):PE X (.Subscript a b pos) (Lg r ta tb):=by intro pins s σ H Q I h;exact Subscript_ (Eg ha hb I h λv u s2 x y H2 I2 rx ry q=>hr a b pins s2 σ H2 x y v u Q I2 rx ry q (hs _ _))
noncomputable def Nq(K:PySem.W.Frag):R2:=λx y H Q=>∃p xs i v,x= .ref p/\y= .int i/\df K H p xs/\kT xs i=some v/\Q v H
noncomputable def Nr(K:PySem.W.Frag):R2:=λx y H Q=>∃p xs i v,x= .ref p/\y= .int i/\eC K H p xs/\kT xs i=some v/\Q v H
theorem pf:KB X (Nq X.K):=by
 intro value slice pins s σ H x y v u Q I rx ry h hs;obtain⟨p,xs,i,z,rfl,rfl,hq,he,q⟩:=h;cases rx;obtain⟨t,rfl⟩:=ry;obtain⟨its,r,pl,hz⟩:=I.list hq;obtain⟨j,h1,h2,h3,h4,h5⟩:=ue he;obtain⟨w,ew,JL⟩:=r.get h2;have hl:=r.length;have hn:=jE;have fin:EP X pins σ Q w s:=⟨z,H,I,JL,q⟩;by_cases h0:0<=i
 ·have hj:i.toNat=j:=by rw[seqIndex_of h0 h5]at h1;exact U4 h1
  exact item_listR pl.isList h0 ⋯ (by rw[hj];simpa using ew) fin hs
 ·have hj:(i+(its.toArray.size:Int)).toNat=j:=by rw[seqIndex_neg ⋯ h4]at h1;rw[Rz,<-hl];exact U4 h1
  exact subscriptTail_builtinR (x:=w) pl.isList.typeIs slot_list_getitem.lookup
   (wpAny_getItem_list_neg (Q:=λr s'=>r=w/\EP X pins σ Q r s') pl.isList ⋯ (by rw[Rz]<;>lia) ⋯ (by rw[hj];simpa using ew) ⟨rfl,fin⟩) hs
theorem Fb:KB X (Nr X.K):=by
 intro value slice pins s σ H x y v u Q I rx ry h hs;obtain⟨p,xs,i,z,rfl,rfl,hq,he,q⟩:=h;cases rx;obtain⟨t,rfl⟩:=ry;obtain⟨its,r,pl,hz⟩:=I.tuple hq;obtain⟨j,h1,h2,h3,h4,h5⟩:=ue he;obtain⟨w,ew,JL⟩:=r.get h2;have hl:=r.length;have hn:=jE;have fin:EP X pins σ Q w s:=⟨z,H,I,JL,q⟩;exact subscriptTail_builtinR (x:=w) pl.typeIs slot_tuple_getitem.lookup
  (getItem_tuple (j:=j) (Q:=λr s'=>r=w/\EP X pins σ Q r s') pl ⋯ ⋯ (by rw[Rz,<-hl];exact h1) (by simpa using ew) ⟨rfl,fin⟩) hs
theorem tf(its:List Value)(n j:Nat)(u:Value):Obj.mapSeq (·.setIfInBounds j u) {cls:=.type "list",data:=.seq its.toArray n}={cls:=.type "list",data:=.seq (its.set j u).toArray n}:=by simp[Obj.mapSeq]
theorem Inv.lst{pins:List (Addr×Obj)}{σ:St}{H:Hp}{s:Shared}{p:Addr}{xs:List V}(I:Inv X pins σ H s)(h:H p=some (.lst xs)):
  ∃(its:List Value)(n:Nat),ar xs its/\s.heap.get? p=some {cls:=.type "list",data:=.seq its.toArray n}/\xs.length<=sizeLine:=by
 obtain⟨z,its,n,r,e⟩:=I.hok p _ h;exact⟨its,n,r,e,z⟩
theorem Inv.Fp{pins:List (Addr×Obj)}{σ:St}{H:Hp}{s:Shared}{p:Addr}{xs ys:List V}{its its':List Value}{n n':Nat}{f:Obj->Obj}(I:Inv X pins σ H s)(h:H p=some (.lst xs))
  (ho:s.heap.get? p=some {cls:=.type "list",data:=.seq its.toArray n}) (hf:f {cls:=.type "list",data:=.seq its.toArray n}={cls:=.type "list",data:=.seq its'.toArray n'}) (r:ar ys its') (hz:ys.length<=sizeLine) (t:Nat):
  Inv X pins σ (upd H p (.lst ys)) {s with heap:=s.heap.update p f,toks:=t}:=by
 have e:(s.heap.update p f).get? p=some {cls:=.type "list",data:=.seq its'.toArray n'}:=by rw[Heap.get?_update_self f ho (by rw[hf]<;>rfl),hf]
 refine I.write (x:=p) (e:=p) (by rw[h];trivial) (.inl rfl) (λb u hb q=>(R8 _ _ (U2 hb)).trans q) ⟨_,e⟩ ?_;exact⟨hz,its',n',r,e⟩
noncomputable def DF:V->V->V->Hp->(Hp->Prop)->Prop:=λo i v H Q=>∃p xs k j,o= .ref p/\i= .int k/\H p=some (.lst xs)/\pd xs.length k=some j/\Q (upd H p (.lst (xs.set j v)))
theorem set_list:Hr X DF:=by
 intro pins s σ H o i v ov iv u Q I ro ri rv h;obtain⟨p,xs,k,j,rfl,rfl,hp,hj,q⟩:=h;cases ro;obtain⟨t,rfl⟩:=ri;obtain⟨its,n,r,ho,hz⟩:=I.lst hp;obtain⟨h1,h2,h3,h4⟩:=uV hj;have hl:=r.length;have hn:=jE;have I':Inv X pins σ (upd H p (.lst (xs.set j v))) {s with heap:=s.heap.update p (Obj.mapSeq (·.setIfInBounds j u))}:=
  I.Fp hp ho (tf its n j u) (r.set rv j) (by rw[Ua];exact hz) s.toks
 by_cases h0:0<=k
 ·have hk:k.toNat=j:=by rw[seqIndex_of h0 h4]at h1;exact U4 h1
  exact PySem.W.ki_setAt ho h0 ⋯ (by rw[Rz,<-hl];exact h4) (by rw[hk];exact⟨_,I',q⟩)
 ·have hk:(k+(its.toArray.size:Int)).toNat=j:=by rw[seqIndex_neg ⋯ h3]at h1;rw[Rz,<-hl];exact U4 h1
  exact PySem.W.ki_setBack ho ⋯ (by rw[Rz,<-hl];exact h3) ⋯ (by rw[hk];exact⟨_,I',q⟩)
theorem pI(lo hi:Option Int)(n:Nat):(sliceBounds lo hi none n).1=((HT.bW n 0 lo:Nat):Int)/\(sliceBounds lo hi none n).2.1=((HT.bW n n hi:Nat):Int)/\(sliceBounds lo hi none n).2.2=1:=by
 refine⟨?_,?_,rfl⟩
 ·cases lo with
  |none=>simp[sliceBounds,HT.bW]
  |some i=>
   simp only[sliceBounds,HT.bW,Option.getD_none,show (1:Int)>0 by decide,Vm];by_cases h:i<0
   ·simp only[h,Vm]<;>lia
   ·simp only[h,Vj]<;>lia
 ·cases hi with
  |none=>simp[sliceBounds,HT.bW]
  |some i=>
   simp only[sliceBounds,HT.bW,Option.getD_none,show (1:Int)>0 by decide,Vm];by_cases h:i<0
   ·simp only[h,Vm]<;>lia
   ·simp only[h,Vj]<;>lia
theorem mP(its:List Value)(lo hi:Option Int):slicePick its.toArray lo hi none=((its.drop (HT.bW its.length 0 lo)).take (HT.bW its.length its.length hi-HT.bW its.length 0 lo)).toArray:=by obtain⟨h1,h2,h3⟩:=pI lo hi its.toArray.size;unfold slicePick;rw[h1,h2,h3];simp only[sliceRange_one,pick_run,Rz]<;>rfl
noncomputable def Nw(K:PySem.W.Frag):V->Option Int->Option Int->Hp->VK->Prop:=λx lo hi H Q=>∃a xs,x= .ref a/\df K H a xs/\∀p,H p=none->Q (.ref p) (upd H p (.lst (mF xs lo hi)))
theorem vB:Hs X (Nw X.K):=by intro pins s σ H x v vl vu lo hi sl Q I rx hs pl pu h;obtain⟨a,xs,rfl,hx,q⟩:=h;cases rx;obtain⟨its,r,ht,hz⟩:=I.list hx;have hlen:=r.length;refine⟨"list",_,slot_list_getitem.lookup,ht.isList.typeIs,?_⟩;refine wpAny_getItem_list_slice ht.isList hs pl pu .none (by simp) ?_ (by rw[Rz]<;>lia);rw[mP,<-hlen];refine⟨.ref s.heap.objs.size,_,I.laid (t':=s.toks) (o:=.lst (mF xs lo hi)) (λb ob q=>Rv _ q) (RE _) ?_,rfl,q _ (I.hok.fresh (RE _))⟩;exact⟨RK (jR xs lo hi) hz,_,0,(r.drop (HT.bW xs.length 0 lo)).take (HT.bW xs.length xs.length hi-HT.bW xs.length 0 lo),RG _ rfl⟩
theorem fj:c7 X (.type "list") (λxs H Q=>∃p ys,xs=[.ref p]/\(df X.K H p ys\/eC X.K H p ys)/\∀l,H l=none->Q (.ref l) (upd H l (.lst ys))):=by
 intro pins s σ H xs us Q I r h;obtain⟨p,ys,rfl,hq,q⟩:=h;obtain⟨u,rfl,rx⟩:=vals1 r;cases rx;have fin:∀(its:List Value),ar ys its->ys.length<=sizeLine->∀(h':Heap)(c':Nat),(∀b o',s.heap.get? b=some o'->h'.get? b=some o')->
   h'.get? s.heap.objs.size=some {cls:=.type "list",dict:=none,data:=.seq its.toArray c',slots:=#[]}->EP X pins σ Q (.ref s.heap.objs.size) {s with heap:=h'}:=λits r' hz h' c' kp e=>
  ⟨.ref s.heap.objs.size,_,I.laid (t':=s.toks) kp (RE _) (show bM X.prog X.w _ h' _ (.lst ys) from⟨hz,its,c',r',e⟩),rfl,q _ (I.hok.fresh (RE _))⟩
 rcases hq with hq|hq
 ·obtain⟨its,r',pl,hz⟩:=I.list hq;have hlen:=r'.length;obtain⟨o,ho,hc,n,hd⟩:=pl.isList;exact call_list_seq p (.inl rfl) ho hc hd (λh' c' kp e=>fin its r' hz h' c' kp e) (by simp only[Rz]<;>lia)
 ·obtain⟨its,r',pl,hz⟩:=I.tuple hq;have hlen:=r'.length;obtain⟨o,ho,hc,n,hd⟩:=pl;exact call_list_seq p (.inr rfl) ho hc hd (λh' c' kp e=>fin its r' hz h' c' kp e) (by simp only[Rz]<;>lia)
theorem gX:c7 X (.type "tuple") (λxs H Q=>∃p ys,xs=[.ref p]/\((df X.K H p ys/\∀l,H l=none->Q (.ref l) (upd H l (.tup ys)))\/(eC X.K H p ys/\Q (.ref p) H))):=by
 intro pins s σ H xs us Q I r h;obtain⟨p,ys,rfl,h⟩:=h;obtain⟨u,rfl,rx⟩:=vals1 r;cases rx;rcases h with ⟨hq,q⟩|⟨hq,q⟩
 ·obtain⟨its,r',pl,hz⟩:=I.list hq;have hlen:=r'.length;refine call_tuple_list pl.isList (λh' kp=>?_) (by simp only[Rz]<;>lia);have I1:Inv X pins σ H {s with heap:=h'}:=I.kept (t':=s.toks) kp;have I2:Inv X pins σ (upd H h'.objs.size (.tup ys)) {s with heap:=h'.push {cls:=.type "tuple",data:=.seq its.toArray}}:=
   I1.laid (t':=s.toks) (λb o e=>Rv _ e) (RE _) (show bM X.prog X.w _ _ _ (.tup ys) from⟨hz,its,r',mD.new _ _⟩)
  exact⟨.ref h'.objs.size,_,I2,rfl,q _ (I1.hok.fresh (RE _))⟩
 ·obtain⟨its,r',pl,hz⟩:=I.tuple hq;exact call_tuple_same pl ⟨.ref p,H,I,rfl,q⟩
noncomputable def N3(K:PySem.W.Frag)(T:String)(x:V)(H:Hp):Prop:=match x with
 |.str _=>T="str"
 |.int _=>T="int"
 |.ref p=>(T="list"/\∃xs,df K H p xs)\/(T="tuple"/\∃o,K.lookup p=some o/\o.cls= .type "tuple"/\o.dict=none)\/
   (T="dict"/\((∃cY,H p=some (.dK cY))\/∃cY,H p=some (.dT cY)))\/(T="set"/\∃S n,H p=some (.set S n))
 |_=>False
theorem Aw{pins:List (Addr×Obj)}{σ:St}{H:Hp}{s:Shared}{T:String}{x:V}{v:Value}(I:Inv X pins σ H s)(r:RelV x v)(ty:N3 X.K T x H):
  s.TypeIs v T/\∀a,v= .ref a->∃ob,s.heap.get? a=some ob/\ob.dict=none:=by
 cases x with
 |str z=>obtain⟨t,rfl⟩:=r;cases (show T="str" from ty);exact⟨typeIs_str s z t,λ_ e=>nomatch e⟩
 |int i=>obtain⟨t,rfl⟩:=r;cases (show T="int" from ty);exact⟨typeIs_int s i t,λ_ e=>nomatch e⟩
 |ref p=>
  cases r;rcases ty with ⟨rfl,xs,hq⟩|⟨rfl,o,hk,hc,hd⟩|⟨rfl,hk⟩|⟨rfl,S,n,hk⟩
  ·obtain⟨its,_,pl,_⟩:=I.list hq;refine⟨pl.isList.typeIs,λa e=>?_⟩;cases e;obtain⟨o,n,e,c,hd,_⟩:=pl;exact⟨o,e,hd⟩
  ·refine⟨⟨o,I.qH p o hk,hc⟩,λa e=>?_⟩;cases e;exact⟨o,I.qH _ o hk,hd⟩
  ·have z:∃o,s.heap.get? p=some o/\o.ExactDict:=by
    rcases hk with ⟨cY,hk⟩|⟨cY,hk⟩
    ·obtain⟨_,_,_,_,o,_,_,e,ex,_⟩:=I.hok p _ hk;exact⟨o,e,ex⟩
    ·obtain⟨_,_,_,_,o,_,_,e,ex,_⟩:=I.hok p _ hk;exact⟨o,e,ex⟩
   obtain⟨o,e,ex⟩:=z;refine⟨⟨o,e,ex.1⟩,λa e2=>?_⟩;cases e2;exact⟨o,e,ex.2.1⟩
  ·obtain⟨o,_,_,_,e,ex,_⟩:=I.hok p _ hk;refine⟨⟨o,e,ex.1⟩,λa e2=>?_⟩;cases e2;exact⟨o,e,ex.2.1⟩
 |_=>exact False.elim ty
noncomputable def Kc(K:PySem.W.Frag)(T:String)(r:V->List V->Hp->VK->Prop)(to:TE):TE:=λσ H Q=>to σ H λx H1=>N3 K T x H1/\r x [] H1 Q
noncomputable def NQ(K:PySem.W.Frag)(T:String)(r:V->List V->Hp->VK->Prop)(to:TE)(t:TA):TE:=λσ H Q=>to σ H λx H1=>N3 K T x H1/\t σ H1 λxs H2=>r x xs H2 Q
variable{o e:Expr}{es:List Expr}{to:TE}{t:TA}{name:Str}{apos fS:Pos}{T id:String}{r:V->List V->Hp->VK->Prop}
theorem FQ(pa:PlainAttrs T)(slot:Slot T name id)(MH:typeOf (.builtin id)=pure (.type "method_descriptor"))(hm:N5 X id r)(ho:PE X o to)
  (yN:attributeBase o name X.env (eval o X.env)=eval o X.env:=by rfl) (yV:(apos.endLine==fS.line)=true:=by rfl):PE X (.Call (.Attribute o name apos) [] [] fS) (Kc X.K T r to):=by
 intro pins s σ H Q I h;refine wpAny_Call_method0_late yN yV (bY (ho pins s σ H _ I h) λv s1⟨x,H1,I1,r1,ty,q1⟩=>?_);obtain⟨h1,h2⟩:=Aw I1 r1 ty;exact⟨T,id,pa,slot,MH,h1,h2,Calls.callWith_builtin rfl (PySem.evalArgs_none (hm pins s1 σ H1 x [] v [] Q I1 r1 .nil q1))⟩
theorem DA(pa:PlainAttrs T)(slot:Slot T name id)(MH:typeOf (.builtin id)=pure (.type "method_descriptor"))(hm:N5 X id r)(ho:PE X o to)(ha:PA X (e::es) t)
  (yN:attributeBase o name X.env (eval o X.env)=eval o X.env:=by rfl)
  (Ms:((backTo fS (starEach (e::es) X.env)).all (λx=> !x.1)&&(backToKw fS (keywordEach [] X.env)).all (λx=>x.1.isSome)
   &&decide ((e::es).length+([]:List Keyword).length+(if ([]:List Keyword).isEmpty then 0 else 1)<30))=true:=by rfl)
  (yV:(apos.endLine==fS.line)=true:=by rfl) (hs:starEach (e::es) X.env=(false,eval e X.env)::starEach es X.env:=by rfl) (EZ:(backTo fS (starEach es X.env)).any (·.1)=false:=by rfl):
  PE X (.Call (.Attribute o name apos) (e::es) [] fS) (NQ X.K T r to t):=by
 intro pins s σ H Q I h;refine wpAny_Call_method_late yN Ms yV rfl (bY (ho pins s σ H _ I h) λv s1⟨x,H1,I1,r1,ty,q1⟩=>?_);obtain⟨h1,h2⟩:=Aw I1 r1 ty;refine⟨T,id,pa,slot,MH,h1,h2,?_⟩;have hA:=ha fS pins s1 σ H1 _ I1 q1;rw[hs]at hA ⊢;refine Calls.callWith_builtin (by show (false||(backTo fS (starEach es X.env)).any (·.1))=false;rw[EZ]<;>rfl) (Calls.evalArgs_plain ?_);exact bY hA λus s2⟨vs,H2,I2,r2,q2⟩=>hm pins s2 σ H2 x vs v us Q I2 r1 r2 q2
end
end L2
namespace L2
open PySem PySem.Spec PyProof.Rows
noncomputable def Ho(X:Cx)(id:String)(r:V->List V->Hp->VK->Prop):Prop:=
 ∀(pins:List (Addr×Obj))(s:Shared)(σ:St)(H:Hp)(x:V)(xs:List V)(v:Value)(us:List Value)(Q:VK),Inv X pins σ H s->RelV x v->ar xs us->r x xs H Q->
  wpAny (model X.prog X.w) X.A (call (.builtin id) (v::us)) (EP X pins σ Q) X.xe s
theorem ar.cons_inv{x:V}{xs:List V}{us:List Value}(h:ar (x::xs) us):∃u ut,us=u::ut/\RelV x u/\ar xs ut:=by
 cases h with
 |cons r t=>exact⟨_,_,rfl,r,t⟩
theorem ar.one{x:V}{us:List Value}(h:ar [x] us):∃u,us=[u]/\RelV x u:=
 have ⟨u,ut,e,r,t⟩:=h.cons_inv
 ⟨u,by cases t;exact e,r⟩
theorem ar.two{x y:V}{us:List Value}(h:ar [x,y] us):∃u v,us=[u,v]/\RelV x u/\RelV y v:=
 have ⟨u,ut,e,r,t⟩:=h.cons_inv;have ⟨v,e2,q⟩:=t.one
 ⟨u,v,e2▸e,r,q⟩
theorem ar.zero:∀{us:List Value},ar [] us->us=[]
 |_,.nil=>rfl
theorem ar.dropLast{xs:List V}{us:List Value}(h:ar xs us):ar xs.dropLast us.dropLast:=by
 induction h with
 |nil=>exact .nil
 |cons r t ih=>
  cases t with
  |nil=>exact .nil
  |cons q t'=>exact .cons r ih
theorem ar.rep{xs:List V}{us:List Value}(h:ar xs us):∀k:Nat,ar (List.replicate k xs).flatten (List.replicate k us).flatten
 |0=>.nil
 |k+1=>by rw[UA,UA,TQ,TQ];exact ar.append h (ar.rep h k)
theorem sI{α:Type}(l:List α):l.eraseIdx (l.length-1)=l.dropLast:=by
 induction l with
 |nil=>rfl
 |cons a r ih=>
  cases r with
  |nil=>rfl
  |cons b r=>
   have e:(a::b::r).length-1=((b::r).length-1)+1:=by
    have h1:(a::b::r).length=r.length+2:=rfl;have h2:(b::r).length=r.length+1:=rfl
    lia
   rw[e,List.eraseIdx_cons_succ,ih]
   all_goals rfl
theorem foldl_rep(its:List Value):∀(k:Nat)(acc:List Value),
  List.foldl (λx1 x2=>x1++x2) acc.toArray (List.replicate k its.toArray)=(acc++(List.replicate k its).flatten).toArray
 |0,acc=>by simp
 |k+1,acc=>by
  have e:acc.toArray++its.toArray=(acc++its).toArray:=by simp
  have e2:(acc++its)++(List.replicate k its).flatten=acc++(List.replicate (k+1) its).flatten:=by rw[UA,TQ,RN]
  rw[<-e2,<-foldl_rep its k (acc++its),<-e,UA,List.foldl_cons]
section
variable{X:Cx}{pins:List (Addr×Obj)}{σ:St}{H:Hp}{s:Shared}{l b:Addr}{xs ys zs:List V}
theorem Inv.zp{its its':List Value}{n:Nat}{f:Array Value->Array Value}{t':Nat}(I:Inv X pins σ H s)(hH:H l=some (.lst xs))
  (e:s.heap.get? l=some {cls:=.type "list",data:=.seq its.toArray n}) (hf:f its.toArray=its'.toArray) (hv:ar ys its') (hz:ys.length<=sizeLine):
  Inv X pins σ (upd H l (.lst ys)) {s with heap:=s.heap.update l (Obj.mapSeq f),toks:=t'}:=by
 have q:=PySem.IsL.update e f;rw[hf]at q;refine I.write (x:=l) (e:=l) (by rw[hH];exact trivial) (.inl rfl) (λb' u hb hu=>(R8 s.heap (Obj.mapSeq f) (U2 hb)).trans hu) ⟨_,q⟩ ?_;exact⟨hz,its',_,hv,q⟩
theorem Inv.Jd{its:List Value}{t':Nat}(I:Inv X pins σ H s)(hv:ar ys its)(hz:ys.length<=sizeLine):
  Inv X pins σ (upd H s.heap.objs.size (.lst ys)) {s with heap:=s.heap.push {cls:=.type "list",data:=.seq its.toArray},toks:=t'}:=
 I.laid (λ_ _ q=>Rv _ q) (RE _) ⟨hz,its,0,hv,RG _ rfl⟩
theorem Inv.fresh(I:Inv X pins σ H s):H s.heap.objs.size=none:=I.hok.fresh (RE _)
theorem Inv.qL(I:Inv X pins σ H s)(hH:H l=some (.lst xs)):xs.length<=sizeLine/\∃(its:List Value)(n:Nat),ar xs its/\xs.length=its.length/\s.heap.get? l=some {cls:=.type "list",data:=.seq its.toArray n}:=by obtain⟨z,its,n,r,e⟩:=I.hok l _ hH;exact⟨z,its,n,r,r.length,e⟩
theorem zB{n:Nat}(h:n<=sizeLine):Builtin.List.listTooLong n=false:=by unfold Builtin.List.listTooLong;exact R5 ⋯
end
section
variable{X:Cx}
noncomputable def vt:V->List V->Hp->VK->Prop:=λx vs H Q=>∃l xs y,x= .ref l/\vs=[y]/\H l=some (.lst xs)/\xs.length<sizeLine/\Q .aW (upd H l (.lst (xs++[y])))
theorem nT:Ho X "list.append" vt:=by
 intro pins s σ H x vs v us Q I rx rv h;obtain⟨l,xs,y,rfl,rfl,hH,hz,q⟩:=h;cases rx;obtain⟨u,rfl,ru⟩:=rv.one;obtain⟨z,its,n,r,hl,e⟩:=I.qL hH;refine Vg F.slot_list_append ⟨_,e,rfl⟩ F.entry_list_append (F.args_list_append_2 _ _) (PySem.list_append l its.toArray n u (by rw[Rz];lia)) ⟨e,?_⟩;refine⟨.aW,_,I.zp (its':=its++[u]) hH e (by simp) (r.append (.cons ru .nil)) ?_,rfl,q⟩;rw[RQ,Ub]
 lia
noncomputable def CA:V->List V->Hp->VK->Prop:=λx vs H Q=>∃l b xs zs,x= .ref l/\vs=[.ref b]/\H l=some (.lst xs)/\H b=some (.lst zs)/\xs.length+zs.length<=sizeLine/\Q .aW (upd H l (.lst (xs++zs)))
theorem Hf:Ho X "list.extend" CA:=by
 intro pins s σ H x vs v us Q I rx rv h;obtain⟨l,b,xs,zs,rfl,rfl,hH,hB,hz,q⟩:=h;cases rx;obtain⟨u,rfl,ru⟩:=rv.one;cases ru;obtain⟨z,its,n,r,hl,e⟩:=I.qL hH;obtain⟨z2,aK,n2,r2,fh,e2⟩:=I.qL hB;have lC:its.toArray.size+aK.toArray.size<=sizeLine:=by rw[Rz,Rz];lia
 have II:¬(!its.toArray.isEmpty&&Builtin.List.listTooLong (its.toArray.size+aK.toArray.size))=true:=by rw[zB lC,SD];exact SJ
 refine Vg F.slot_list_extend ⟨_,e,rfl⟩ F.entry_list_extend (F.args_list_extend_2 _ _)
  (AutoSeq1.list_extend_list_list_0 l its.toArray n b aK.toArray n2 II (by rw[Rz];lia) ⋯) ⟨e,e2,?_⟩
 refine⟨.aW,_,I.zp (its':=its++aK) hH e (by simp) (r.append r2) ?_,rfl,q⟩;rw[RQ]
 lia
noncomputable def Nv:V->List V->Hp->VK->Prop:=λx vs H Q=>∃l xs y,x= .ref l/\vs=[]/\H l=some (.lst xs)/\xs[xs.length-1]?=some y/\Q y (upd H l (.lst xs.dropLast))
theorem M7:Ho X "list.pop" Nv:=by
 intro pins s σ H x vs v us Q I rx rv h;obtain⟨l,xs,y,rfl,rfl,hH,hy,q⟩:=h;cases rx;have MN:=rv.zero;subst MN;obtain⟨z,its,n,r,hl,e⟩:=I.qL hH;obtain⟨u,hu,ru⟩:=r.get hy;have QG:its.toArray[its.toArray.size-1]?=some u:=by show its.toArray[its.length-1]?=some u;rw[<-Array.getElem?_toList,<-hl];exact hu
 refine Vg F.slot_list_pop ⟨_,e,rfl⟩ F.entry_list_pop (F.args_list_pop_1 _) (MeetsSeq.list_pop_last l its.toArray n u QG (by rw[Rz];lia)) ⟨e,?_⟩;refine⟨y,_,I.zp (its':=its.dropLast) hH e ?_ r.dropLast ?_,ru,q⟩
 ·show its.toArray.eraseIdxIfInBounds (its.toArray.size-1)=its.dropLast.toArray;rw[Rz,List.eraseIdxIfInBounds_toArray,sI]
 ·rw[List.length_dropLast]
  lia
noncomputable def zS:V->List V->Hp->VK->Prop:=λx vs H Q=>∃l xs,x= .ref l/\vs=[]/\H l=some (.lst xs)/\Q .aW (upd H l (.lst []))
theorem zx:Ho X "list.clear" zS:=by intro pins s σ H x vs v us Q I rx rv h;obtain⟨l,xs,rfl,rfl,hH,q⟩:=h;cases rx;have MN:=rv.zero;subst MN;obtain⟨z,its,n,r,hl,e⟩:=I.qL hH;refine Vg F.slot_list_clear ⟨_,e,rfl⟩ F.entry_list_clear (F.args_list_clear_1 _) (AutoSeq1.list_clear_list_0 l its.toArray n (by rw[Rz];lia)) ⟨e,?_⟩;exact⟨.aW,_,I.zp (its':=[]) (ys:=[]) hH e rfl .nil (U1 _),rfl,q⟩
noncomputable def Nm:R2:=λx y H Q=>∃l b xs zs,x= .ref l/\y= .ref b/\H l=some (.lst xs)/\H b=some (.lst zs)/\xs.length+zs.length<=sizeLine/\∀p,H p=none->Q (.ref p) (upd H p (.lst (xs++zs)))
theorem FG:kR X (binaryOp .Add) Nm:=by
 intro pins s σ H x y v u Q I rx ry h;obtain⟨l,b,xs,zs,rfl,rfl,hH,hB,hz,q⟩:=h;cases rx;cases ry;obtain⟨z,its,n,r,hl,e⟩:=I.qL hH;obtain⟨z2,aK,n2,r2,fh,e2⟩:=I.qL hB;refine PySem.P.add_list e e2 ?_ (by rw[Rz,Rz];lia);have ea:its.toArray++aK.toArray=(its++aK).toArray:=by simp
 rw[ea];exact⟨.ref _,_,I.Jd (t':=s.toks) (r.append r2) (by rw[RQ];lia),rfl,q _ I.fresh⟩
theorem len_rep{α:Type}(xs:List α)(k:Nat):(List.replicate k xs).flatten.length=k*xs.length:=by
 induction k with
 |zero=>simp
 |succ k ih=>rw[UA,TQ,RQ,ih,UZ,Nat.add_comm]
end
end L2
namespace Att
open PySem PySem.W PySem.Calls PyProof.Rows
theorem j9{P:Params}{h:Heap}:∀(ns:List Int)(vs:List Value),WellAll P h vs (ns.map WData.int)->IntsAre vs ns:=by
 intro ns
 induction ns with
 |nil=>intro vs w;rw[Ui]at w;cases w;exact .nil
 |cons n ns ih=>
  intro vs w;rw[Sr]at w;cases w with
  |cons a b=>cases a;exact .cons _ _ (ih _ b)
theorem wY{l:OpenLaw}{n:Nat}(hn:l.most=some n){P:Params}{h:Heap}{args:List WData}{vals:List Value}
  (BL:l.row.toRowW.claim.pre args=true) (MQ:WellAll P h vals args):
  ∃a vs ns,vals=[Value.ref a]/\args=[WData.list (ns.map WData.int)]/\h.get? a=some {cls:=.type "list",data:=.seq vs.toArray}/\IntsAre vs ns/\ns.length<=n:=by
 have Qy:WShape.hasAll [] args [.list .int]=true:=(pre_splitW BL).1;have hc:l.pre.holds [] {args:=args}=true:=(pre_splitW BL).2;obtain⟨d,r,rfl,h1,h2⟩:=hasAllW_cons Qy;obtain rfl:=hasAllW_nil h2;obtain⟨xs,rfl,h3⟩:=hasW_list h1;obtain⟨ns,rfl⟩:=items_int h3;have hlen:ns.length<=n:=by
  unfold OpenLaw.pre at hc;have h4:(WTm.not (.lt (.lit (.int (n:Int))) (.len (.arg 0)))).holds [] {args:=[.list (ns.map .int)]}=true:=by have h4:=(holds_andW hc).1;rw[hn]at h4;exact h4
  have h5:=condW_of h4 (w_not (w_lt w_lit (w_len_list (w_arg rfl))));rw[RI]at h5;refine Nat.le_of_not_lt λq=>?_
  have q':(n:Int)<((ns.length:Nat):Int):=⋯
  first
   |(rw[R9 q']at h5;exact absurd h5 (by decide))
   |(simp at h5;lia)
 cases MQ with
 |cons w1 w2=>
  cases w2;cases w1 with
  |list ho hall=>exact⟨_,_,ns,rfl,rfl,ho,j9 ns _ hall,hlen⟩
theorem wO(l:OpenLaw)(args:List WData):l.row.toRowW.claim.post args (.bool true) args=true:=
 postW_of (r:=l.row.toRowW) (X:=(true==true))
  (show WShape.has [] (.bool true) .bool=true by first|rfl|decide|simp[WShape.has,WShape.arms,WShape.armsAll])
  (show (WTm.eq .res (.lit (.bool true))).value [] {args:=args,res:=some (.bool true),after:=args}=some (.bool (true==true)) from w_eq_bool (w_res rfl) w_lit) rfl
theorem qf{l:OpenLaw}{n:Nat}{q:Program}{loose:List Str}{XP:(Str->Option Value)->Heap->Prop}{YP:World->Heap->Prop}{d:DefRec}
  (hn:l.most=some n) (Iz:d.params.defaults=[])
  (call:∀(w:World)(s₀ s₁:Shared)(mg mb:Str->Option Value)(fa:Addr)(o:Obj)(pm cd doc:Value)(a:Addr)(vs:List Value)(ns:List Int),
   Ground q loose [] XP w s₀ mg mb s₁.heap->YP w s₁.heap->
   s₁.heap.get? fa=some o->o.data= .func (docDef d.name d.params d.body d.scope pm cd doc)->s₁.heap.CodeRec cd d.name->mg d.name=some (.ref fa)->
   s₁.heap.get? a=some {cls:=.type "list",data:=.seq vs.toArray}->IntsAre vs ns->ns.length<=n->s₁.gens=#[]->
   codeAny (model l.prog w) callerA (.call (.ref fa) ⟨[.ref a],[]⟩) (λr s'=>r= .ok (.ret (.bool true))/\OldK s₁.heap s'.heap/\s'.os=s₁.os/\AllBare s'.gens) s₁):
  WalkO q loose XP YP l.row.toRowW d [] (λf vs=>PySem.call f vs):=by
 intro w s₀ s₁ mg mb G Y fa o pm cd doc dV kV ho hd AS hD hmg hg args vals as BL hlay hrd MQ o6;obtain rfl:dV= .none:=Dflts.none hD Iz;obtain rfl:kV= .none:=Dflts.noKw hD;obtain⟨a,vs,ns,rfl,rfl,EV,hints,hlen⟩:=wY hn BL MQ;refine enter_call (codeAny_mono (call w s₀ s₁ mg mb fa o pm cd doc a vs ns G Y ho (fd_plain hd) AS hmg EV hints hlen hg) λr s' hq=>?_);obtain⟨rfl,h2,h3,h4⟩:=hq;exact⟨.inl ⟨.bool true,.bool true,[],rfl,λ_=>rfl,.bool true,wO l _,λ_=>⟨List.Pairwise.nil,λ_ hm=>(nomatch hm)⟩⟩,h2,h3,h4⟩
end Att
namespace L2
open PySem PySem.Spec PyProof.Rows
theorem ot:∀{vs:List Value}{ns:List Int},IntsAre vs ns->ar (ns.map V.int) vs
 |_,_,.nil=>.nil
 |_,_,.cons n t h=>.cons ⟨t,rfl⟩ (ot h)
noncomputable def D0(H:Hp):Prop:=∀b,H b=none\/∃o xs,H b=some (.uH o (.lst xs))
theorem zh{P:Program}{w:World}{K:PySem.W.Frag}{mg mb:Str->Option Value}{CX:kP}{k:Nat}{fa a:Addr}{fd:FuncData}{x:Str}{sp:Sp}{s₁:Shared}{vs:List Value}{ns:List Int}
  (KX:K.In s₁.heap) (xq:s₁.heap.Ns mainGlobals mg) (hb:s₁.heap.Ns builtinsNs mb) (qx:∀x:Str,x≠"__name__"->mb x=bootBuiltins x) (cL:s₁.heap.NoLimit) (hg:s₁.gens=#[])
  (ha:s₁.heap.get? a=some {cls:=.type "list",data:=.seq vs.toArray}) (hi:IntsAre vs ns) (hl:ns.length<=sizeLine) (hr:iP k callerA)
  (F:∀base:Heap,K.In base->base.Ns mainGlobals mg->jy P w K mg base CX k fa fd [x] sp) (Iq:∀(s:Shared)(u:Value),BindsTo s fd ⟨[u],[]⟩ [(x,u)])
  (pW:∀H:Hp,D0 H->df K H a (ns.map V.int)->sp [.ref a] H (λv _=>v= .bl true) λ_ _ _=>False)
  (Mf:∀H e s',CX [] H s₁ (λ_ _ _=>False) e s'->False):
  codeAny (model P w) callerA (.call (.ref fa) ⟨[.ref a],[]⟩) (λr s'=>r= .ok (.ret (.bool true))/\OldK s₁.heap s'.heap/\s'.os=s₁.os/\AllBare s'.gens) s₁:=by
 have rv:=ot hi;have M1:=hi.length;have core:∀H:Hp,D0 H->df K H a (ns.map V.int)->fg P w H s₁.heap->(∀b,H b≠none->b=a)->(H a≠none->K.lookup a=none)->
   codeAny (model P w) callerA (.call (.ref fa) ⟨[.ref a],[]⟩) (λr s'=>r= .ok (.ret (.bool true))/\OldK s₁.heap s'.heap/\s'.os=s₁.os/\AllBare s'.gens) s₁:=by
  intro H hO hS hok hA hK;have uk:∀{b:Addr}{o:Obj},s₁.heap.get? b=some o->H b=none->(o4 s₁.heap H).get? b=some o:=λe n=>yR e n
  have Jo:∀{b:Addr}{o:Obj}{es:Array DictEntry}{ep:Nat},s₁.heap.get? b=some o->o.data= .dict es ep->H b=none:=λ {b o es ep} e d=>by
   cases q:H b with
   |none=>rfl
   |some u=>have e':b=a:=hA b (by rw[q];simp);subst e';rw[ha]at e;cases e;have d':Data.seq vs.toArray _=Data.dict es ep:=d;cases d'
  have K7:∀{b:Addr}{m:Str->Option Value},s₁.heap.Ns b m->(o4 s₁.heap H).Ns b m:=λ {b m} ⟨o,es,ep,e,d,r⟩=>⟨o,es,ep,uk e (Jo e d),d,r⟩
  have Oo:K.In (o4 s₁.heap H):=λb o e=>uk (KX b o e) (by
   cases q:H b with
   |none=>rfl
   |some u=>
    have e':b=a:=hA b (by rw[q];simp);subst e';rw[hK (by rw[q];simp)]at e;cases e)
  have hM:Mod K mg (o4 s₁.heap H):=⟨Oo,K7 xq,⟨mb,K7 hb,qx⟩,let ⟨mc,h1,h2⟩:=cL;⟨mc,K7 h1,h2⟩⟩;have e0:A8 P w K mg (o4 s₁.heap H) callerA [] s₁ H:=⟨rfl,hM,λb o e=>B6 e,Nat.le_of_eq (wu _ _),trivial,λb hb=>absurd (show b∈([]:List Addr) from hb) (by simp),hok,.of_eq hg⟩;refine codeAny_mono ((F _ Oo (K7 xq)).run callerA [] s₁ H ⟨[.ref a],[]⟩ [.ref a] [.ref a] _ _ hr e0 (Iq s₁ (.ref a)) (.cons rfl .nil) (pW H hO hS)) λr s' h=>?_
  cases r with
  |error e=>exact(Mf H e s' h).elim
  |ok fl=>
   cases fl with
   |next=>exact False.elim h
   |brk=>exact False.elim h
   |cont=>exact False.elim h
   |ret u=>
    obtain⟨v,H',os,bare,un,BJ,r',q⟩:=h;have q':v= .bl true:=q;subst q';obtain rfl:u=Value.bool true:=r';refine⟨rfl,OldK.of_keep λb o e=>?_,os,bare⟩;cases q:H b with
    |none=>exact un.keep b o e q (by intro z;exact absurd (show b∈([]:List Addr) from z) (by simp)) (by simp)
    |some u=>
     rcases hO b with z|⟨ob,xs,z⟩
     ·rw[q]at z;cases z
     ·have z2:=un.frzs b ob _ z;obtain⟨e1,_⟩:=hok b _ z;obtain⟨e2,_⟩:=BJ b _ z2;rw[e]at e1;cases e1;exact e2
 cases hk:K.lookup a with
 |some o=>have e:=KX a o hk;rw[ha]at e;cases e;refine core (λ_=>none) (λ_=>.inl rfl) (.inr ⟨_,vs.toArray,_,hk,rfl,rfl,rfl,by rw[Rz,M1];exact hl,by simpa using rv⟩) (λb u z=>by have z':(none:Option HO)=some u:=z;cases z') (λb z=>absurd rfl z) λz=>absurd rfl z
 |none=>
  refine core (λb=>if b=a then some (.uH {cls:=.type "list",data:=.seq vs.toArray} (.lst (ns.map V.int))) else none) (λb=>?_) (.inl (.inr ⟨{cls:=.type "list",data:=.seq vs.toArray},Vl rfl⟩)) (λb u z=>?_) (λb z=>?_) λ_=>hk
  ·by_cases hb:b=a
   ·exact .inr ⟨_,_,Vl hb⟩
   ·exact .inl (Vk hb)
  ·by_cases hb:b=a
   ·have z':=(Vl hb).symm.trans z;cases z';subst hb;exact⟨ha,by rw[RI];exact hl,vs,_,rv,ha⟩
   ·have z':=(Vk hb).symm.trans z;cases z'
  ·by_cases hb:b=a
   ·exact hb
   ·exact absurd (Vk hb) z
end L2
namespace L2
open PySem PySem.Spec PyProof.Rows
theorem CT{l:PySem.W.OpenLaw}{n k:Nat}{q:Program}{loose:List Str}{XP:(Str->Option Value)->Heap->Prop}{YP:World->Heap->Prop}{d:DefRec}{K:Params->PySem.W.Frag}{CX:World->kP}{sp:World->Sp}{x:Str}
  (hn:l.most=some n) (qA:n<=sizeLine) (Iz:d.params.defaults=[]) (hr:iP k callerA)
  (hY:∀(w:World)(h:Heap),YP w h->(K w.params).In h)
  (F:∀(w:World)(mg:Str->Option Value)(fa:Addr)(h:Heap),(K w.params).In h->h.Ns mainGlobals mg->mg d.name=some (.ref fa)->
   ∃fd:FuncData,(∀(s:Shared)(u:Value),BindsTo s fd ⟨[u],[]⟩ [(x,u)])/\
    ∀base:Heap,(K w.params).In base->base.Ns mainGlobals mg->jy l.prog w (K w.params) mg base (CX w) k fa fd [x] (sp w))
  (pW:∀(w:World)(H:Hp)(a:Addr)(ns:List Int),ns.length<=n->D0 H->df (K w.params) H a (ns.map V.int)->sp w [.ref a] H (λv _=>v= .bl true) λ_ _ _=>False)
  (Mf:∀(w:World)(H:Hp)(s:Shared)(e:Value)(s':Shared),CX w [] H s (λ_ _ _=>False) e s'->False):
  PySem.W.WalkO q loose XP YP l.row.toRowW d [] (λf vs=>PySem.call f vs):=by
 refine Att.qf hn Iz λw s₀ s₁ mg mb fa o pm cd doc a vs ns G Y ho hd AS hmg EV hints hlen hg=>?_
 have KX:=hY w _ Y;obtain⟨fd,hb,hF⟩:=F w mg fa _ KX G.T.g hmg;exact zh KX G.T.g G.T.b G.T.builtins G.T.nolimit hg EV hints (RK hlen qA) hr hF hb (λH hO hS=>pW w H a ns hlen hO hS) λH e s'=>Mf w H s₁ e s'
end L2
namespace L2
open PySem PySem.Spec PyProof.Rows
noncomputable def oQ(s:Stmt):Arguments:=match s with
 |.FunctionDef _ a _ _ _ _ _ _ _ _=>a
 |_=>{posonlyargs:=[],args:=[],vararg:=none,kwonlyargs:=[],kw_defaults:=[],kwarg:=none,defaults:=[]}
noncomputable def iV(s:Stmt):List Stmt:=match s with
 |.FunctionDef _ _ b _ _ _ _ _ _ _=>b
 |_=>[]
noncomputable def bI(s:Stmt):Scope:=match s with
 |.FunctionDef _ _ _ _ _ _ sc _ _ _=>sc
 |_=>{kind:=.function,names:=[],isGenerator:=false,isCoroutine:=false}
noncomputable abbrev E0:XK:=λ_ _ _=>False
theorem IV{A B:Prop}(h:B):if false=true then A else B:=by rw[Vk SJ];exact h
theorem IW{A B:Prop}(h:A):if true=true then A else B:=by rw[Vl rfl];exact h
noncomputable def bO(H H':Hp):Prop:=∀b o,H b=some o->H' b=some o
theorem bO.refl(H:Hp):bO H H:=λ_ _ h=>h
theorem bO.trans{H H1 H2:Hp}(a:bO H H1)(b:bO H1 H2):bO H H2:=λc o h=>b c o (a c o h)
end L2
end
section
namespace Mx
open PySem PyProof.Rows
inductive D where
 |int (i:Int)
 |str (x:Str)
 |tup (ds:List D)
mutual
noncomputable def D.kl:D->D->Bool
 |.int i,.int j=>i==j
 |.str x,.str y=>x==y
 |.tup a,.tup b=>D.eqs a b
 |_,_=>false
noncomputable def D.eqs:List D->List D->Bool
 |[],[]=>true
 |x::xs,y::ys=>D.kl x y&&D.eqs xs ys
 |_,_=>false
end
mutual
noncomputable def D.lt:D->D->Bool
 |.int i,.int j=>decide (i<j)
 |.int _,_=>true
 |.str _,.int _=>false
 |.str x,.str y=>decide (x.cps.toList<y.cps.toList)
 |.str _,.tup _=>true
 |.tup a,.tup b=>D.de a b
 |.tup _,_=>false
noncomputable def D.de:List D->List D->Bool
 |[],[]=>false
 |[],_::_=>true
 |_::_,[]=>false
 |x::xs,y::ys=>if D.kl x y=true then D.de xs ys else D.lt x y
end
mutual
theorem D.cv:∀a b:D,D.kl a b=true↔a=b
 |.int i,.int j=>by simp[D.kl]
 |.str x,.str y=>by simp[D.kl]
 |.tup a,.tup b=>by simp only[D.kl,D.tup.injEq];exact D.uD a b
 |.int _,.str _=>by simp[D.kl]
 |.int _,.tup _=>by simp[D.kl]
 |.str _,.int _=>by simp[D.kl]
 |.str _,.tup _=>by simp[D.kl]
 |.tup _,.int _=>by simp[D.kl]
 |.tup _,.str _=>by simp[D.kl]
theorem D.uD:∀a b:List D,D.eqs a b=true↔a=b
 |[],[]=>by simp[D.eqs]
 |[],_::_=>by simp[D.eqs]
 |_::_,[]=>by simp[D.eqs]
 |x::xs,y::ys=>by simp only[D.eqs,Ry,Tu];rw[D.cv x y,D.uD xs ys]
end
noncomputable instance:DecidableEq D:=λa b=>if h:D.kl a b=true then isTrue ((D.cv a b).mp h) else isFalse λe=>h ((D.cv a b).mpr e)
theorem D.km(a b:D):D.kl a b=decide (a=b):=by rw[SF,D.cv];simp
theorem D.cD(x y:D)(xs ys:List D):D.de (x::xs) (y::ys)=if x=y then D.de xs ys else D.lt x y:=by
 rw[D.de];by_cases h:x=y
 ·rw[Vl h,Vl ((D.cv x y).mpr h)]
 ·rw[Vk h,Vk λe=>h ((D.cv x y).mp e)]
mutual
theorem D.lt_irrefl:∀a:D,D.lt a a=false
 |.int i=>by simp[D.lt]
 |.str x=>by simp only[D.lt];exact strKind.irrefl _
 |.tup a=>by simp only[D.lt];exact D.lL a
theorem D.lL:∀a:List D,D.de a a=false
 |[]=>by simp[D.de]
 |x::xs=>by rw[D.cD,Vl rfl];exact D.lL xs
end
mutual
theorem D.fY:∀a b:D,D.lt a b=false->D.lt b a=false->a=b
 |.int i,.int j,h1,h2=>by simp only[D.lt,decide_eq_false_iff_not]at h1 h2;congr 1;lia
 |.str x,.str y,h1,h2=>by simp only[D.lt]at h1 h2;have:=strKind.total _ _ h1 h2;congr 1;cases x;cases y;simp only at this;congr 1;exact SB.mp this
 |.tup a,.tup b,h1,h2=>by simp only[D.lt]at h1 h2;rw[D.nR a b h1 h2]
 |.int _,.str _,h1,_=>by simp[D.lt]at h1
 |.int _,.tup _,h1,_=>by simp[D.lt]at h1
 |.str _,.int _,_,h2=>by simp[D.lt]at h2
 |.str _,.tup _,h1,_=>by simp[D.lt]at h1
 |.tup _,.int _,_,h2=>by simp[D.lt]at h2
 |.tup _,.str _,_,h2=>by simp[D.lt]at h2
theorem D.nR:∀a b:List D,D.de a b=false->D.de b a=false->a=b
 |[],[],_,_=>rfl
 |[],_::_,h1,_=>by simp[D.de]at h1
 |_::_,[],_,h2=>by simp[D.de]at h2
 |x::xs,y::ys,h1,h2=>by
  rw[D.cD]at h1 h2;by_cases h:x=y
  ·subst h;rw[Vl rfl]at h1 h2;rw[D.nR xs ys h1 h2]
  ·rw[Vk h]at h1;rw[Vk (U2 h)]at h2;exact absurd (D.fY x y h1 h2) h
end
mutual
theorem D.lt_trans:∀a b c:D,D.lt a b=true->D.lt b c=true->D.lt a c=true
 |.int i,.int j,.int k,h1,h2=>by simp only[D.lt,Vi]at *;lia
 |.int _,_,.str _,_,_=>by simp[D.lt]
 |.int _,_,.tup _,_,_=>by simp[D.lt]
 |.int _,.str _,.int _,_,h2=>by simp[D.lt]at h2
 |.int _,.tup _,.int _,_,h2=>by simp[D.lt]at h2
 |.str _,.int _,_,h1,_=>by simp[D.lt]at h1
 |.str x,.str y,.str z,h1,h2=>by simp only[D.lt]at *;exact strKind.trans _ _ _ h1 h2
 |.str _,.str _,.int _,_,h2=>by simp[D.lt]at h2
 |.str _,_,.tup _,_,_=>by simp[D.lt]
 |.str _,.tup _,.int _,_,h2=>by simp[D.lt]at h2
 |.str _,.tup _,.str _,_,h2=>by simp[D.lt]at h2
 |.tup _,.int _,_,h1,_=>by simp[D.lt]at h1
 |.tup _,.str _,_,h1,_=>by simp[D.lt]at h1
 |.tup _,.tup _,.int _,_,h2=>by simp[D.lt]at h2
 |.tup _,.tup _,.str _,_,h2=>by simp[D.lt]at h2
 |.tup a,.tup b,.tup c,h1,h2=>by simp only[D.lt]at *;exact D.nS a b c h1 h2
theorem D.nS:∀a b c:List D,D.de a b=true->D.de b c=true->D.de a c=true
 |[],[],_,h1,_=>by simp[D.de]at h1
 |[],_::_,[],_,h2=>by simp[D.de]at h2
 |[],_::_,_::_,_,_=>by simp[D.de]
 |_::_,[],_,h1,_=>by simp[D.de]at h1
 |_::_,_::_,[],_,h2=>by simp[D.de]at h2
 |x::xs,y::ys,z::zs,h1,h2=>by
  rw[D.cD]at h1 h2 ⊢;by_cases h:x=y
  ·subst h;rw[Vl rfl]at h1;by_cases h':x=z
   ·rw[Vl h']at h2 ⊢;exact D.nS xs ys zs h1 h2
   ·rw[Vk h']at h2 ⊢;exact h2
  ·rw[Vk h]at h1;by_cases h':y=z
   ·subst h';rw[Vk h];exact h1
   ·rw[Vk h']at h2;have h3:=D.lt_trans x y z h1 h2;by_cases h'':x=z
    ·subst h'';rw[D.lt_irrefl]at h3;cases h3
    ·rw[Vk h''];exact h3
end
@[reducible] noncomputable def HK:KeyOrd where
 α:=D
 blt:=D.lt
 irrefl:=D.lt_irrefl
 trans:=D.lt_trans
 negTrans:=λa b c h=>by
  cases h1:D.lt a b with
  |true=>exact .inl rfl
  |false=>
   right;cases h2:D.lt b a with
   |true=>exact D.lt_trans b a c h2 h
   |false=>rw[D.fY a b h1 h2]at h;exact h
 total:=D.fY
end Mx
end
section
namespace MxSort
open PySem PySem.W PyProof.Rows
section
variable{O:KeyOrd}{key:Nat->O.α}
noncomputable def sU(key:Nat->O.α)(p:Array Nat)(i:Nat):O.α:=key (p.getD i 0)
noncomputable def Up(key:Nat->O.α)(p:Array Nat)(n:Nat):Prop:=∀i j,i<=j->j<n->O.kle (sU key p i) (sU key p j)
noncomputable def Dn(key:Nat->O.α)(p:Array Nat)(n:Nat):Prop:=∀i j,i<=j->j<n->O.kle (sU key p j) (sU key p i)
theorem uK{p q:Array Nat}{i j:Nat}(h:p[i]?=q[j]?):p.getD i 0=q.getD j 0:=by
 have e1:∀(p:Array Nat)(i:Nat),p.getD i 0=(p[i]?).getD 0:=λp i=>by simp[Sy]
 rw[e1,e1,h]
theorem uX{p:Array Nat}{i j:Nat}(hj:j<=p.size)(k:Nat):sU key (kas_rev p i j) k=if i<=k/\k<j then sU key p (i+j-1-k) else sU key p k:=by
 have e:=getElem?_mirror_all (i:=i) hj k;unfold kas_rev sU;by_cases h1:i<=k/\k<j
 ·rw[Vl h1]at e ⊢;exact Vh key (uK e)
 ·rw[Vk h1]at e ⊢;exact Vh key (uK e)
noncomputable def Ord(N:Nat)(p:Array Nat):Prop:=p.toList.Perm (List.range N)
theorem Ord.size{N:Nat}{p:Array Nat}(h:Ord N p):p.size=N:=by have:=h.length_eq;rw[T7]at this;rw[<-this];simp
variable{cmp:Nat->Nat->(Bool->Shared->Prop)->Shared->Prop}{s:Shared}{N:Nat}
noncomputable def Tells(O:KeyOrd)(key:Nat->O.α)(cmp:Nat->Nat->(Bool->Shared->Prop)->Shared->Prop)(N:Nat)(s:Shared):Prop:=
 ∀i j,i<N->j<N->∀C:Bool->Shared->Prop,C (O.blt (key i) (key j)) s->cmp i j C s
theorem Up.succ{p:Array Nat}{n:Nat}(h:Up key p n)(h1:1<=n)(h2:O.kle (sU key p (n-1)) (sU key p n)):Up key p (n+1):=λi j gF hj=>by
 by_cases e:j=n
 ·subst e;by_cases e2:i=j
  ·subst e2;exact Ti _
  ·exact R7 (h i (j-1) ⋯ ⋯) h2
 ·exact h i j gF ⋯
theorem Dn.succ{p:Array Nat}{n:Nat}(h:Dn key p n)(h1:1<=n)(h2:O.kle (sU key p n) (sU key p (n-1))):Dn key p (n+1):=λi j gF hj=>by
 by_cases e:j=n
 ·subst e;by_cases e2:i=j
  ·subst e2;exact Ti _
  ·exact R7 h2 (h i (j-1) ⋯ ⋯)
 ·exact h i j gF ⋯
theorem Dn.of{p q:Array Nat}{n:Nat}(e:∀k,sU key q k=sU key p k)(h:Dn key p n):Dn key q n:=λi j a b=>by rw[e,e];exact h i j a b
theorem Ay{p:Array Nat}{n:Nat}(hn:n<=p.size)(h:Dn key p n):Up key (kas_rev p 0 n) n:=λi j gF hj=>by rw[uX hn,uX hn,Vl ⋯,Vl ⋯];exact h _ _ ⋯ ⋯
end
end MxSort
end
section
namespace Mx
open PySem PySem.Spec PyProof.Rows L2 PySem.SeqAt
mutual
noncomputable def D.dep:D->Nat
 |.int _=>0
 |.str _=>0
 |.tup ds=>D.dh ds+1
noncomputable def D.dh:List D->Nat
 |[]=>0
 |d::ds=>max (D.dep d) (D.dh ds)
end
mutual
noncomputable def DV(H:Hp):V->D->Prop
 |x,.int i=>x= .int i
 |x,.str z=>x= .str z
 |x,.tup ds=>∃a xs,x= .ref a/\H a=some (.tup xs)/\a9 H xs ds
noncomputable def a9(H:Hp):List V->List D->Prop
 |[],[]=>True
 |x::xs,d::ds=>DV H x d/\a9 H xs ds
 |[],_::_=>False
 |_::_,[]=>False
end
theorem a9.nil{H:Hp}:a9 H [] []:=by unfold a9;trivial
theorem a9.cons{H:Hp}{x:V}{xs:List V}{d:D}{ds:List D}(h:DV H x d)(t:a9 H xs ds):a9 H (x::xs) (d::ds):=by unfold a9;exact⟨h,t⟩
theorem DV.int{H:Hp}{i:Int}:DV H (.int i) (.int i):=by unfold DV;rfl
theorem DV.str{H:Hp}{x:Str}:DV H (.str x) (.str x):=by unfold DV;rfl
theorem DV.tup{H:Hp}{a:Addr}{xs:List V}{ds:List D}(h:H a=some (.tup xs))(t:a9 H xs ds):DV H (.ref a) (.tup ds):=by unfold DV;exact⟨a,xs,rfl,h,t⟩
theorem DV.ae{H:Hp}{x:V}{ds:List D}(h:DV H x (.tup ds)):∃a xs,x= .ref a/\H a=some (.tup xs)/\a9 H xs ds:=by unfold DV at h;exact h
theorem DV.int_inv{H:Hp}{x:V}{i:Int}(h:DV H x (.int i)):x= .int i:=by unfold DV at h;exact h
theorem DV.str_inv{H:Hp}{x:V}{i:Str}(h:DV H x (.str i)):x= .str i:=by unfold DV at h;exact h
theorem a9.cons_inv{H:Hp}{xs:List V}{d:D}{ds:List D}(h:a9 H xs (d::ds)):∃x r,xs=x::r/\DV H x d/\a9 H r ds:=by
 cases xs with
 |nil=>unfold a9 at h;exact h.elim
 |cons x r=>unfold a9 at h;exact⟨x,r,rfl,h⟩
theorem a9.length{H:Hp}:∀{xs:List V}{ds:List D},a9 H xs ds->xs.length=ds.length
 |[],[],_=>rfl
 |[],_::_,h=>by unfold a9 at h;exact h.elim
 |_::_,[],h=>by unfold a9 at h;exact h.elim
 |_::xs,_::ds,h=>by unfold a9 at h;simp[a9.length h.2]
theorem a9.get{H:Hp}:∀{xs:List V}{ds:List D}{i:Nat}{x:V},a9 H xs ds->xs[i]?=some x->∃d,ds[i]?=some d/\DV H x d
 |[],_,_,_,_,e=>by simp at e
 |_::_,[],_,_,h,_=>by unfold a9 at h;exact h.elim
 |_::_,_::_,0,_,h,e=>by unfold a9 at h;simp at e;subst e;exact⟨_,rfl,h.1⟩
 |_::xs,_::ds,i+1,x,h,e=>by unfold a9 at h;obtain⟨d,e1,e2⟩:=a9.get (i:=i) h.2 (by simpa using e);exact⟨d,by simpa using e1,e2⟩
theorem a9.append{H:Hp}:∀{xs ys:List V}{ds es:List D},a9 H xs ds->a9 H ys es->a9 H (xs++ys) (ds++es)
 |[],_,[],_,_,h=>h
 |[],_,_::_,_,h,_=>by unfold a9 at h;exact h.elim
 |_::_,_,[],_,h,_=>by unfold a9 at h;exact h.elim
 |_::xs,ys,_::ds,es,h,h'=>by unfold a9 at h;exact a9.cons h.1 (a9.append h.2 h')
noncomputable def Bb(H H':Hp):Prop:=∀a xs,H a=some (.tup xs)->H' a=some (.tup xs)
mutual
theorem DV.mono{H H':Hp}(t:Bb H H'):∀{x:V}{d:D},DV H x d->DV H' x d
 |x,.int i,h=>by unfold DV at h ⊢;exact h
 |x,.str z,h=>by unfold DV at h ⊢;exact h
 |x,.tup ds,h=>by obtain⟨a,xs,e,e1,e2⟩:=h.ae;subst e;exact DV.tup (t a xs e1) (a9.mono t e2)
theorem a9.mono{H H':Hp}(t:Bb H H'):∀{xs:List V}{ds:List D},a9 H xs ds->a9 H' xs ds
 |[],[],_=>a9.nil
 |[],_::_,h=>by unfold a9 at h;exact h.elim
 |_::_,[],h=>by unfold a9 at h;exact h.elim
 |_::xs,_::ds,h=>by unfold a9 at h;exact a9.cons (DV.mono t h.1) (a9.mono t h.2)
end
mutual
theorem DV.inj{H:Hp}:∀{x:V}{d e:D},DV H x d->DV H x e->d=e
 |x,.int i,e,h1,h2=>by
  have:=h1.int_inv;subst this;cases e with
  |int j=>have:=h2.int_inv;injection this with q;rw[q]
  |str j=>have:=h2.str_inv;cases this
  |tup j=>obtain⟨_,_,q,_⟩:=h2.ae;cases q
 |x,.str i,e,h1,h2=>by
  have:=h1.str_inv;subst this;cases e with
  |int j=>have:=h2.int_inv;cases this
  |str j=>have:=h2.str_inv;injection this with q;rw[q]
  |tup j=>obtain⟨_,_,q,_⟩:=h2.ae;cases q
 |x,.tup ds,e,h1,h2=>by
  obtain⟨a,xs,q,e1,e2⟩:=h1.ae;subst q;cases e with
  |int j=>have:=h2.int_inv;cases this
  |str j=>have:=h2.str_inv;cases this
  |tup j=>obtain⟨b,ys,q,f1,f2⟩:=h2.ae;cases q;rw[e1]at f1;cases f1;rw[a9.inj e2 f2]
theorem a9.inj{H:Hp}:∀{xs:List V}{ds es:List D},a9 H xs ds->a9 H xs es->ds=es
 |[],[],[],_,_=>rfl
 |[],[],_::_,_,h=>by unfold a9 at h;exact h.elim
 |[],_::_,_,h,_=>by unfold a9 at h;exact h.elim
 |_::_,[],_,h,_=>by unfold a9 at h;exact h.elim
 |_::_,_::_,[],_,h=>by unfold a9 at h;exact h.elim
 |_::xs,_::ds,_::es,h1,h2=>by unfold a9 at h1 h2;rw[DV.inj h1.1 h2.1,a9.inj h1.2 h2.2]
end
noncomputable def KG(ds es:List D)(j:Nat):Bool:=match ds[j]?,es[j]? with
 |some d,some e=>D.kl d e
 |_,_=>true
theorem ud:∀ds es:List D,((List.range (min ds.length es.length)).all (KG ds es)&&ds.length==es.length)=D.eqs ds es
 |[],[]=>by simp[D.eqs]
 |[],_::_=>by simp[D.eqs]
 |_::_,[]=>by simp[D.eqs]
 |d::ds,e::es=>by
  have ih:=ud ds es;have hm:min (d::ds).length (e::es).length=min ds.length es.length+1:=by simp only[RU];lia
  have e1:((d::ds).length==(e::es).length)=(ds.length==es.length):=by rw[SF];simp
  rw[hm,List.range_succ_eq_map,Tq,List.all_map,e1,D.eqs,<-ih,Bool.and_assoc];rfl
theorem oR{d:D}:∀{ds:List D}{j:Nat},ds[j]?=some d->D.dep d<=D.dh ds
 |[],_,h=>by simp at h
 |d'::ds,0,h=>by simp at h;subst h;unfold D.dh;lia
 |d'::ds,j+1,h=>by have:=oR (ds:=ds) (j:=j) (by simpa using h);unfold D.dh;lia
section
variable{P:Program}{w:World}{H:Hp}{s:Shared}
theorem au(hok:fg P w H s.heap){a:Addr}{xs:List V}(h:H a=some (.tup xs)):∃its:List Value,ar xs its/\s.heap.IsTuple a its.toArray:=by obtain⟨_,its,r,t⟩:=hok a _ h;exact⟨its,r,t.is⟩
theorem eq_data(hok:fg P w H s.heap):∀(n:Nat)(d e:D)(x y:V)(u v:Value)(A:Around),D.dep d<=n->A.units+n<cLine->DV H x d->DV H y e->RelV x u->RelV y v->EqAt A s u v (D.kl d e):=by
 intro n
 induction n with
 |zero=>
  intro d e x y u v A hd hu hx hy rx ry;cases d with
  |int i=>
   have:=hx.int_inv;subst this;obtain⟨t,rfl⟩:=rx;cases e with
   |int j=>have:=hy.int_inv;subst this;obtain⟨t',rfl⟩:=ry;exact EqAt.int_int i t j t'
   |str j=>have:=hy.str_inv;subst this;obtain⟨t',rfl⟩:=ry;exact EqAt.int_str i t j t'
   |tup j=>obtain⟨b,ys,q,f1,f2⟩:=hy.ae;subst q;cases ry;obtain⟨its,_,ht⟩:=au hok f1;exact EqAt.int_tuple i t ht ⋯
  |str i=>
   have:=hx.str_inv;subst this;obtain⟨t,rfl⟩:=rx;cases e with
   |int j=>have:=hy.int_inv;subst this;obtain⟨t',rfl⟩:=ry;exact EqAt.str_int i t j t'
   |str j=>have:=hy.str_inv;subst this;obtain⟨t',rfl⟩:=ry;exact EqAt.str_str i t j t'
   |tup j=>obtain⟨b,ys,q,f1,f2⟩:=hy.ae;subst q;cases ry;obtain⟨its,_,ht⟩:=au hok f1;exact EqAt.str_tuple i t ht ⋯
  |tup ds=>unfold D.dep at hd;lia
 |succ n ih=>
  intro d e x y u v A hd hu hx hy rx ry;cases d with
  |int i=>exact ih (.int i) e x y u v A (by unfold D.dep;lia) ⋯ hx hy rx ry
  |str i=>exact ih (.str i) e x y u v A (by unfold D.dep;lia) ⋯ hx hy rx ry
  |tup ds=>
   obtain⟨a,xs,q,e1,e2⟩:=hx.ae;subst q;cases rx;obtain⟨its,r1,ht⟩:=au hok e1;cases e with
   |int j=>have:=hy.int_inv;subst this;obtain⟨t',rfl⟩:=ry;exact EqAt.tuple_int j t' ht ⋯
   |str j=>have:=hy.str_inv;subst this;obtain⟨t',rfl⟩:=ry;exact EqAt.tuple_str j t' ht ⋯
   |tup es=>
    obtain⟨b,ys,q,f1,f2⟩:=hy.ae;subst q;cases ry;obtain⟨aK,r2,ck⟩:=au hok f1;by_cases fN:a=b
    ·subst fN;rw[e1]at f1;cases f1;have:=a9.inj e2 f2;subst this;have q:D.kl (.tup ds) (.tup ds)=true:=(D.cv _ _).mpr rfl;rw[q];exact EqAt.same _
    ·have l1:its.toArray.size=ds.length:=by rw[Rz,<-r1.length,e2.length]
     have l2:aK.toArray.size=es.length:=by rw[Rz,<-r2.length,f2.length]
     have key:=RcAt.tuples (A:=A) (e:=KG ds es) ht ck ⋯ (λj h1 h2=>?_)
     ·have q:=ud ds es;rw[<-l1,<-l2]at q;rw[q]at key;exact EqAt.of_refs fN key
     ·have nE:j<xs.length:=by rw[e2.length,<-l1];exact h1
      have nF:j<ys.length:=by rw[f2.length,<-l2];exact h2
      obtain⟨d,g1,g2⟩:=e2.get (i:=j) (x:=xs[j]) (by simp[nE]);obtain⟨e,k1,k2⟩:=f2.get (i:=j) (x:=ys[j]) (by simp[nF]);obtain⟨u,BM,ru⟩:=r1.get (i:=j) (x:=xs[j]) (by simp[nE]);obtain⟨v,E7,rv⟩:=r2.get (i:=j) (x:=ys[j]) (by simp[nF]);have eu:its.toArray[j]=u:=by have:its[j]?=some u:=BM;simp only[T4];have q:=RB.mp this;exact q.2
      have ev:aK.toArray[j]=v:=by have:aK[j]?=some v:=E7;simp only[T4];have q:=RB.mp this;exact q.2
      rw[eu,ev];have ee:KG ds es j=D.kl d e:=by unfold KG;rw[g1,k1]
      rw[ee];refine ih d e xs[j] ys[j] u v A.in1 ?_ (by show A.units+1+n<cLine;lia) g2 k2 ru rv;have:=oR g1;unfold D.dep at hd
      lia
end
mutual
noncomputable def D.cM:D->D->Prop
 |.int _,.int _=>True
 |.str _,.str _=>True
 |.tup a,.tup b=>D.eQ a b
 |_,_=>False
noncomputable def D.eQ:List D->List D->Prop
 |x::xs,y::ys=>D.cM x y/\D.eQ xs ys
 |_,_=>True
end
noncomputable def DX(A:Around)(s:Shared)(u v:Value)(b:Bool):Prop:=
 ∀(prog:Program)(w:World)(E:Value->Shared->Prop)(Q:Value->Shared->Prop),Q (.bool b) s->wpAny (model prog w) A (richCompare .Lt u v) Q E s
inductive Zp(A:Around)(s:Shared):List Value->List Value->List D->List D->Prop
 |nil {ws:List Value} {es:List D}:ws.length=es.length->Zp A s [] ws [] es
 |qR {vs:List Value} {ds:List D}:vs.length=ds.length->Zp A s vs [] ds []
 |cons {v w:Value} {d e:D} {vs ws:List Value} {ds es:List D}:EqAt A s v w (D.kl d e)->(d≠e->DX A s v w (D.lt d e))->Zp A s vs ws ds es->Zp A s (v::vs) (w::ws) (d::ds) (e::es)
section
open PySem.AutoSeq1 (wpAny_loadPart')
open PySem.MeetsSeq PySem.MeetsSeq2 PySem.MeetsSeq3
theorem mV(l b:Addr)(items cn:Array Value)(n n2:Nat)(dd uz:Option Addr)(sl vA:Array (Option Value))(ds es:List D)(z1:items.size=ds.length)(z2:cn.size=es.length):
  Meets (Builtin.«tuple.__lt__» ⟨[.ref l,.ref b],[]⟩)
   (λA R s=>s.heap.get? l=some {cls:=.type "tuple",dict:=dd,data:=.seq items n,slots:=sl}/\s.heap.get? b=some {cls:=.type "tuple",dict:=uz,data:=.seq cn n2,slots:=vA}/\
    Zp A.in1 s items.toList cn.toList ds es/\R (.ok (.ret (.bool (D.de ds es)))) s):=
 .of_wp λprog w A R s h=>by
  obtain⟨hp,g,d,tk,os⟩:=s;obtain⟨hl,hb,MR,h⟩:=h;have f2:=AutoSeq1.sub_tuple_tuple
  wp_walk using wpAny_loadPart' hl,wpAny_loadPart' hb,wpAny_forIn_list _ (λrest b s'=>b.1=none/\s'=⟨hp,g,d,tk,os⟩/\∃(vs ws:List Value)(mG ek:List D),rest=vs.zip ws/\
   Zp A.in1 ⟨hp,g,d,tk,os⟩ vs ws mG ek/\mG.length+cn.size=ek.length+items.size/\R (.ok (.ret (.bool (D.de mG ek)))) ⟨hp,g,d,tk,os⟩) _
  case turn=>
   rintro⟨y,x⟩ rest b s' ⟨jW,rfl,vs,ws,mG,ek,hz,uP,hlen,hR⟩;cases uP with
   |nil _=>rw[UM]at hz;cases hz
   |qR _=>rw[UN]at hz;cases hz
   |cons he hl zc=>
    rename_i v wv d0 e0 xt ws' ds'' es'';rw[UL]at hz;injection hz with hyx y8;injection hyx with hy hx;subst hy hx;rw[D.cD]at hR;simp only[RU]at hlen;refine Rr (he prog w _ _ ?_);by_cases hde:d0=e0
    ·rw[Vl hde]at hR;rw[(D.cv d0 e0).mpr hde]
     wp_walk
     exact⟨rfl,rfl,_,_,_,_,y8,zc,by lia,hR⟩
    ·rw[Vk hde]at hR;have LU:D.kl d0 e0=false:=by rw[D.km];exact R5 hde
     rw[LU];have ME:=hl hde prog w
     wp_walk using ME
     exact⟨_,rfl,by simpa using hR⟩
  case fin=>
   rintro⟨b1,b2⟩ s' ⟨jW,rfl,vs,ws,mG,ek,hz,uP,hlen,hR⟩;simp only at jW;subst jW;have hv:D.de mG ek=decide (items.size<cn.size):=by
    cases uP with
    |nil _=>
     cases ek with
     |nil=>simp only[T6]at hlen;rw[D.de];exact(R5 ⋯).symm
     |cons c u=>simp only[T6,RU]at hlen;rw[D.de];exact(R9 ⋯).symm
    |qR _=>
     cases mG with
     |nil=>simp only[T6]at hlen;rw[D.de];exact(R5 ⋯).symm
     |cons c u=>simp only[T6,RU]at hlen;rw[D.de];exact(R5 ⋯).symm
    |cons he hl zc=>rw[UL]at hz;cases hz
   rw[hv]at hR
   wp_walk
   exact⟨_,rfl,by simpa [Builtin.Tuple.tupleCompareSizes]using hR⟩
  case h=>exact⟨rfl,rfl,items.toList,cn.toList,ds,es,rfl,MR,by lia,h⟩
end
section
variable{P:Program}{w:World}{H:Hp}{s:Shared}
theorem AL(hok:fg P w H s.heap){A:Around}{n:Nat}(hu:A.units+n<cLine)(ih:∀(d e:D)(x y:V)(u v:Value),D.dep d<=n->D.cM d e->DV H x d->DV H y e->RelV x u->RelV y v->DX A s u v (D.lt d e)):
  ∀{xs ys:List V}{us vs:List Value}{ds es:List D},D.dh ds<=n->D.eQ ds es->a9 H xs ds->a9 H ys es->ar xs us->ar ys vs->Zp A s us vs ds es
 |[],ys,us,vs,[],es,_,_,_,h2,r1,r2=>by cases r1;exact .nil (by rw[<-r2.length,h2.length])
 |x::xs,[],us,vs,ds,[],_,_,h1,_,r1,r2=>by cases r2;exact .qR (by rw[<-r1.length,h1.length])
 |[],_,_,_,_::_,_,_,_,h,_,_,_=>by unfold a9 at h;exact h.elim
 |_::_,_,_,_,[],_,_,_,h,_,_,_=>by unfold a9 at h;exact h.elim
 |_::_,[],_,_,_::_,_::_,_,_,_,h,_,_=>by unfold a9 at h;exact h.elim
 |_::_,_::_,_,_,_::_,[],_,_,_,h,_,_=>by unfold a9 at h;exact h.elim
 |x::xs,y::ys,us,vs,d::ds,e::es,hd,hl,h1,h2,r1,r2=>by
  unfold a9 at h1 h2;unfold D.eQ at hl;unfold D.dh at hd;cases r1 with
  |cons r1 t1=>
   cases r2 with
   |cons r2 t2=>exact .cons (eq_data hok n d e x y _ _ A ⋯ hu h1.1 h2.1 r1 r2) (λ_=>ih d e x y _ _ ⋯ hl.1 h1.1 h2.1 r1 r2) (AL hok hu ih ⋯ hl.2 h1.2 h2.2 t1 t2)
theorem BW(hok:fg P w H s.heap):∀(n:Nat)(d e:D)(x y:V)(u v:Value)(A:Around),D.dep d<=n->A.units+n<cLine->D.cM d e->DV H x d->DV H y e->RelV x u->RelV y v->DX A s u v (D.lt d e):=by
 intro n
 induction n with
 |zero=>
  intro d e x y u v A hd hu hl hx hy rx ry;cases d with
  |int i=>
   have:=hx.int_inv;subst this;obtain⟨t,rfl⟩:=rx;cases e with
   |int j=>have:=hy.int_inv;subst this;obtain⟨t',rfl⟩:=ry;intro prog wd E Q q;exact(PyProof.Rows.lt_int q:wpAny (model prog wd) A (compareOp .Lt (.int i t) (.int j t')) Q E s)
   |str j=>unfold D.cM at hl;exact hl.elim
   |tup j=>unfold D.cM at hl;exact hl.elim
  |str i=>
   have:=hx.str_inv;subst this;obtain⟨t,rfl⟩:=rx;cases e with
   |int j=>unfold D.cM at hl;exact hl.elim
   |str j=>have:=hy.str_inv;subst this;obtain⟨t',rfl⟩:=ry;intro prog wd E Q q;exact(PySem.P.lt_str q:wpAny (model prog wd) A (compareOp .Lt (.str i t) (.str j t')) Q E s)
   |tup j=>unfold D.cM at hl;exact hl.elim
  |tup ds=>unfold D.dep at hd;lia
 |succ n ih=>
  intro d e x y u v A hd hu hl hx hy rx ry;cases d with
  |int i=>exact ih (.int i) e x y u v A (by unfold D.dep;lia) ⋯ hl hx hy rx ry
  |str i=>exact ih (.str i) e x y u v A (by unfold D.dep;lia) ⋯ hl hx hy rx ry
  |tup ds=>
   obtain⟨a,xs,q,e1,e2⟩:=hx.ae;subst q;cases rx;cases e with
   |int j=>unfold D.cM at hl;exact hl.elim
   |str j=>unfold D.cM at hl;exact hl.elim
   |tup es=>
    obtain⟨b,ys,q,f1,f2⟩:=hy.ae;subst q;cases ry;obtain⟨its,r1,ht⟩:=au hok e1;obtain⟨aK,r2,ck⟩:=au hok f1;have l1:its.toArray.size=ds.length:=by rw[Rz,<-r1.length,e2.length]
    have l2:aK.toArray.size=es.length:=by rw[Rz,<-r2.length,f2.length]
    have mz:D.dh ds<=n:=by unfold D.dep at hd;lia
    have BH:D.eQ ds es:=by unfold D.cM at hl;exact hl
    have zz:Zp A.in1 s its aK ds es:=AL hok (n:=n) (by show A.units+1+n<cLine;lia) (λd e x y u v hd2 fh zb hy2 rx2 ry2=>ih d e x y u v A.in1 hd2 (by show A.units+1+n<cLine;lia) fh zb hy2 rx2 ry2) mz BH e2 f2 r1 r2;intro prog wd E Q q;obtain⟨⟨cls,dd,data,sl⟩,ho,hc,k,xo⟩:=id ht;obtain⟨⟨Et,uz,data2,vA⟩,qB,rR,k2,mK⟩:=id ck;simp only at hc xo rR mK;subst hc xo rR mK;have q':Q (.bool (D.de ds es)) s:=by have z:=q;unfold D.lt at z;exact z
    exact richCompare_meets_room (op:=.Lt) ⟨_,ho,rfl⟩ ⟨_,qB,rfl⟩ PySem.F.slot_tuple_lt PySem.F.entry_tuple_lt (PySem.F.args_tuple_lt_2 _ _) (mV a b its.toArray aK.toArray k k2 dd uz sl vA ds es l1 l2)
     ⟨ho,qB,zz,show Value.bool (D.de ds es)≠Value.notImplemented/\Q (.bool (D.de ds es)) s from⟨(λx=>nomatch x),q'⟩⟩ ⋯
end
end Mx
end
section
namespace Mx
open PySem PySem.W PySem.Spec PyProof.Rows L2 PySem.SeqAt MxSort
section
variable{P:Program}{w:World}{H:Hp}{prog:Program}{s:Shared}{A:Around}
theorem BS{b:Bool}{n m:Nat}{Q:Bool->Shared->Prop}{us vs:List Value}{ds es:List D}(z:Zp A s us vs ds es):∀(i:Nat),1<=i->ds.length+m=es.length+n->Q (D.de ds es) s->KatLex prog w A b (decide (n<m)) Q (us.zip vs) i s:=by
 induction z with
 |nil hl=>
  intro i hi hlen q;rw[UM];refine kat_nil ?_;rename_i ws es;cases es with
  |nil=>simp only[T6]at hlen;rw[D.de]at q;rw[R5 ⋯];exact q
  |cons c u=>simp only[T6,RU]at hlen;rw[D.de]at q;rw[R9 ⋯];exact q
 |qR hl=>
  intro i hi hlen q;rw[UN];refine kat_nil ?_;rename_i vs ds;cases ds with
  |nil=>simp only[T6]at hlen;rw[D.de]at q;rw[R5 ⋯];exact q
  |cons c u=>simp only[T6,RU]at hlen;rw[D.de]at q;rw[R5 ⋯];exact q
 |cons he hl z' ih=>
  intro i hi hlen q;rename_i v wv d e xt ws' mG ek;rw[UL];simp only[RU]at hlen;rw[D.cD]at q;refine kat_cons (he prog w _ _ ?_);by_cases hde:d=e
  ·rw[(D.cv d e).mpr hde];rw[Vl hde]at q;exact kat_yes (ih (i+1) ⋯ ⋯ q)
  ·rw[show D.kl d e=false by rw[D.km];exact R5 hde];rw[Vk hde]at q;refine kat_no ?_;rw[show (b&&i==0)=false by rw[show (i==0)=false by simp;lia];simp];exact kat_one v wv (hl hde prog w _ _ q)
end
noncomputable def kS(ds es:List D):Prop:=es.Perm ds/\es.Pairwise λa b=>D.lt b a=false
theorem a9.map{H:Hp}{xs:List V}{ds:List D}(h:a9 H xs ds):∀{p:List Nat},(∀i∈p,i<xs.length)->a9 H (p.map λi=>xs.getD i .aW) (p.map λi=>ds.getD i (.int 0))
 |[],_=>a9.nil
 |i::p,hp=>by have hi:=hp i RF;obtain⟨d,e1,e2⟩:=h.get (i:=i) (x:=xs[i]) (by simp[hi]);refine a9.cons ?_ (a9.map h λj hj=>hp j (RC _ hj));dsimp only;rw[show xs.getD i .aW=xs[i] by simp[hi],show ds.getD i (.int 0)=d by simp[e1]];exact e2
theorem rM{xs:List V}{us:List Value}(h:ar xs us):∀{p:List Nat},(∀i∈p,i<xs.length)->ar (p.map λi=>xs.getD i .aW) (p.map λi=>us.getD i .none)
 |[],_=>.nil
 |i::p,hp=>by have hi:=hp i RF;obtain⟨u,e1,e2⟩:=h.get (i:=i) (x:=xs[i]) (by simp[hi]);refine .cons ?_ (rM h λj hj=>hp j (RC _ hj));dsimp only;rw[show xs.getD i .aW=xs[i] by simp[hi],show us.getD i .none=u by simp[e1]];exact e2
theorem f6{α:Type}(l:List α)(d:α):(List.range l.length).map (λi=>l.getD i d)=l:=by
 refine List.ext_getElem (by simp) λi h1 h2=>?_
 simp at h1;simp[h1]
end Mx
end
section
namespace L2
open PySem PySem.Spec PyProof.Rows
noncomputable def oM(env:Env):List (Str×NameKind)->List (Str×Addr)->List (Str×Addr)
 |[],cs=>cs
 |(n,k)::r,cs=>oM env r (if k== .free then(n,(env.cells.lookup n).getD 0)::cs else cs)
noncomputable def fK(scope:Scope)(env:Env):List (Str×Addr):=oM env scope.names []
theorem lh{env:Env}:∀(l:List (Str×NameKind))(cs:List (Str×Addr)),(∀y∈l,y.2= .free->∃c,env.cells.lookup y.1=some c)->
  (forIn l cs (λx r=>do
   if x.2==NameKind.free then do let a<-cellOf env x.1;pure (ForInStep.yield ((x.1,a)::r)) else pure (ForInStep.yield r)):Sem (List (Str×Addr)))=pure (oM env l cs)
 |[],cs,_=>rfl
 |(n,k)::r,cs,h=>by
  rw[TR];have ih:=λcs=>lh r cs λy hy=>h y (RC _ hy)
  cases hk:(k==NameKind.free) with
  |false=>simp only[hk,SG,Vj,oM,pure_bind];exact ih cs
  |true=>
   obtain⟨c,hc⟩:=h (n,k) RF (by simpa using hk);have oZ:env.cells.lookup n=some c:=hc;have e:cellOf env n=pure c:=by unfold cellOf;rw[oZ]
   simp only[hk,Vm,oM,e,pure_bind,oZ,Option.getD_some];exact ih _
theorem gY{scope:Scope}{env:Env}(h:∀y∈scope.names,y.2= .free->∃c,env.cells.lookup y.1=some c):closureFor scope env=pure (fK scope env):=by have q:=lh (env:=env) scope.names [] h;unfold closureFor fK;rw[<-q];simp only[bind_pure]
theorem jQ{env:Env}{x:Str}{c:Addr}:∀(l:List (Str×NameKind))(cs:List (Str×Addr)),(∀y∈l,y.2= .free->∃c,env.cells.lookup y.1=some c)->
  (∀c,cs.lookup x=some c->env.cells.lookup x=some c)->(oM env l cs).lookup x=some c->env.cells.lookup x=some c
 |[],cs,_,h2,h=>h2 c h
 |(n,k)::r,cs,h1,h2,h=>by
  refine jQ r _ (λy hy=>h1 y (RC _ hy)) (λc' oZ=>?_) h;by_cases hk:(k==NameKind.free)=true
  ·rw[Vl hk]at oZ;rw[R6]at oZ;by_cases hx:(x==n)=true
   ·rw[hx]at oZ;have za:x=n:=by simpa using hx
    subst za;obtain⟨c₁,e⟩:=h1 (x,k) RF (by simpa using hk);have e':env.cells.lookup x=some c₁:=e;rw[e']at oZ ⊢;simpa using oZ
   ·rw[Bool.not_eq_true]at hx;rw[hx]at oZ;exact h2 c' oZ
  ·rw[Vk hk]at oZ;exact h2 c' oZ
theorem kZ{env:Env}{x:Str}:∀(l:List (Str×NameKind))(cs:List (Str×Addr)),(((x,NameKind.free)∈l)\/∃c,cs.lookup x=some c)->∃c,(oM env l cs).lookup x=some c
 |[],cs,h=>by
  rcases h with h|h
  ·cases h
  ·exact h
 |(n,k)::r,cs,h=>by
  refine kZ r _ ?_;by_cases hk:(k==NameKind.free)=true
  ·rw[Vl hk];by_cases hx:(x==n)=true
   ·exact .inr ⟨_,by rw[R6,hx]⟩
   ·rw[Bool.not_eq_true]at hx;rcases h with h|h
    ·rcases RL.mp h with e|h
     ·injection e with e1 e2;subst e1;simp at hx
     ·exact .inl h
    ·exact .inr (by obtain⟨c,e⟩:=h;exact⟨c,by rw[R6,hx];exact e⟩)
  ·rw[Vk hk];rcases h with h|h
   ·rcases RL.mp h with e|h
    ·injection e with e1 e2;subst e2;exact absurd rfl hk
    ·exact .inl h
   ·exact .inr h
theorem aZ{env:Env}{x:Str}:∀{names:List (Str×NameKind)}{k:NameKind},names.lookup x=some k->
  (names.map λ(n,k)=>if (k==NameKind.free&&env.scope.kind== .function&&env.kindOf n==some .cell) then(n,NameKind.cell) else(n,k)).lookup x=
   some (if (k==NameKind.free&&env.scope.kind== .function&&env.kindOf x==some .cell) then NameKind.cell else k)
 |[],_,h=>by simp at h
 |(n,k')::r,k,h=>by
  have ih:=@aZ env x r k;show List.lookup x ((if (k'==NameKind.free&&env.scope.kind== .function&&env.kindOf n==some .cell)=true then(n,NameKind.cell) else(n,k'))::_)=_;cases hx:x==n with
  |true=>
   have za:x=n:=by simpa using hx
   subst za;simp only[R6,hx]at h;cases h;by_cases hc:(k'==NameKind.free&&env.scope.kind== .function&&env.kindOf x==some .cell)=true
   ·simp only[hc,Vm,R6,hx]
   ·rw[Vk hc,Vk hc];simp only[R6,hx]
  |false=>
   simp only[R6,hx]at h;by_cases hc:(k'==NameKind.free&&env.scope.kind== .function&&env.kindOf n==some .cell)=true
   ·rw[Vl hc];simp only[R6,hx];exact ih h
   ·rw[Vk hc];simp only[R6,hx];exact ih h
theorem bX{env:Env}{x:Str}:∀{names:List (Str×NameKind)},names.lookup x=none->
  (names.map λ(n,k)=>if (k==NameKind.free&&env.scope.kind== .function&&env.kindOf n==some .cell) then(n,NameKind.cell) else(n,k)).lookup x=none
 |[],h=>rfl
 |(n,k')::r,h=>by
  show List.lookup x ((if (k'==NameKind.free&&env.scope.kind== .function&&env.kindOf n==some .cell)=true then(n,NameKind.cell) else(n,k'))::_)=_;cases hx:x==n with
  |true=>simp only[R6,hx]at h;cases h
  |false=>
   simp only[R6,hx]at h;by_cases hc:(k'==NameKind.free&&env.scope.kind== .function&&env.kindOf n==some .cell)=true
   ·rw[Vl hc];simp only[R6,hx];exact bX h
   ·rw[Vk hc];simp only[R6,hx];exact bX h
noncomputable def c8(cap:List (Option Nat))(σ:St):St:=cap.map λo=>o.bind λi=>(σ[i]?).join
noncomputable def CW(X:Cx)(ifs:List Expr)(t:TT):Prop:=
 ∀(pins:List (Addr×Obj))(s:Shared)(σ:St)(H:Hp)(Q:Bool->Hp->Prop),Inv X pins σ H s->t σ H Q->
  wpAny (model X.prog X.w) X.A (forIn ifs true λc r=>if r=true then do let ok<-isTrue c X.env (eval c X.env);pure (ForInStep.yield ok) else pure (ForInStep.yield r)) (TP X pins σ Q) X.xe s
noncomputable def NY:TT:=λ_ H Q=>Q true H
theorem Cw{X:Cx}:CW X [] NY:=λ_ _ _ H _ I h=>wpAny_tests_nil ⟨H,I,h⟩
theorem Cy{X:Cx}{c:Expr}{t:TT}(h:PT X c t):CW X [c] t:=λpins s σ H Q I hw=>wpAny_tests_one (h pins s σ H Q I hw)
noncomputable def Hl(J:It)(g:TG)(tt:TT)(te:TE)(σ0:St)(D:Addr)(F:Hp->Prop)(H1:Hp):Prop:=
 ∃W:Nat->Nat->List V->Hp->Prop,(∃m,W 0 m [] (upd H1 D (.lst [])))/\∀i m acc H,W i m acc H->
  (J.stop i H/\F H)\/(J.go i H/\∀x H',J.yld i H x H'->g x σ0 H' λσ2 H2=>tt σ2 H2 λb H3=>if b=true then te σ2 H3 λv H4=>∃gO,H4 D=some (.lst gO)/\gO.length<sizeLine/\
   ∃m',m'<m/\W (i+1) m' (gO++[v]) (upd H4 D (.lst (gO++[v]))) else∃m',m'<m/\W (i+1) m' acc H3)
end L2
end
section
namespace Mx
open PySem PySem.W PySem.Spec PyProof.Rows L2 PySem.SeqAt
section
variable{X:Cx}
noncomputable def Np(K:PySem.W.Frag):List V->Hp->VK->Prop:=λxs H Q=>∃x T t b,xs=[x,.ty T]/\iS K H x t/\PySem.W.kitOne K t (.type T)=some b/\Q (.bl b) H
theorem xY:c7 X (.builtin "isinstance") (Np X.K):=by intro pins s σ H xs us Q I r h;obtain⟨x,T,t,b,rfl,ty,hk,q⟩:=h;obtain⟨u,v,rfl,r1,r2⟩:=r.two;cases r2;exact wA I r1 ty hk λtk=>⟨.bl b,H,I.tok tk,rfl,q⟩
end
end Mx
end
section
namespace Mx
open PySem PySem.Spec PySem.W PyProof.Rows L2 PySem.SeqAt
section
variable{X:Cx}{pos:Pos}
noncomputable def uJ(K:PySem.W.Frag)(n:Nat)(t:vV):TG:=λv σ H Q=>∃a xs,v= .ref a/\(eC K H a xs\/df K H a xs)/\xs.length=n/\t xs σ H Q
theorem Ck{es:List Expr}{k:Nat}{t:vV}{n:Nat}(hc:X.calm=true)(h:GZ X es t)(hn:(assignEach es X.env).length=n)(nI:(assignEach es X.env).findIdx? (·.1)=none):PG X (.Tuple es k pos) (uJ X.K n t):=by
 intro pins s σ H v u Q I r hw;obtain⟨a,xs,rfl,hq|hq,hl,hw⟩:=hw
 ·exact zK hc h hn nI pins s σ H _ u Q I r ⟨a,xs,rfl,hq,hl,hw⟩
 cases r;obtain⟨its,rv,pl,_⟩:=I.list hq;have e:(assignEach es X.env).length=its.toArray.size:=by rw[hn,<-hl,rv.length,Rz]
 rw[arm_assign_Tuple];refine Rr (VJ ?_);unfold unpack;rw[nI,e];refine Rr (VA (PySem.W.kun_itemsOf (I.ok.hd hc) pl.isList λh' hx=>?_));exact h pins _ σ H xs _ Q (I.kept (t':=s.toks) λb o z=>hx b o (Sb (RJ z)) z) rv hw
end
end Mx
end
section
namespace Mx
open PySem PySem.W PySem.Spec PyProof.Rows L2
structure xF(z TI TO i1 i2:Addr):Prop where
 TIz:TI≠z
 TOz:TO≠z
 i1z:i1≠z
 i2z:i2≠z
 TITO:TI≠TO
 TIi1:TI≠i1
 TIi2:TI≠i2
 TOi1:TO≠i1
 TOi2:TO≠i2
 i12:i1≠i2
theorem b9{H:Hp}{p:Addr}(h:H p=none)(o:HO):bO H (upd H p o):=λb u q=>by rw[aJ (bc q h)];exact q
theorem nY{H H':Hp}(h:bO H H'):Bb H H':=λa xs q=>h a _ q
theorem Aa{H1 H:Hp}{D:Addr}{o:HO}(h:bO H1 H)(hD:H1 D=none):bO H1 (upd H D o):=λb u q=>by rw[aJ (bc q hD)];exact h b u q
theorem mq{H:Hp}{D:Addr}{xs ys:List V}(hD:H D=some (.lst xs)):Bb H (upd H D (.lst ys)):=λb zs q=>by
 by_cases e:b=D
 ·subst e;rw[hD]at q;cases q
 ·rw[aJ e];exact q
theorem G0{α:Type}{x y:α}{r:List α}:kT (x::y::r) 1=some y:=kf (j:=1) rfl
theorem at2{α:Type}{x y z:α}{r:List α}:kT (x::y::z::r) 2=some z:=kf (j:=2) rfl
section
variable{K:PySem.W.Frag}{g:TG}{tt:TT}{te:TE}{σ0:L2.St}{D:Addr}{F:Hp->Prop}{H1:Hp}
theorem qj{J:It}{n:Nat}(hD:H1 D=none)(E:Nat->List Mx.D)(hE:E 0=[])(hn:n<sizeLine)(go:∀i H,i<n->bO H1 H->J.go i H)(stop:∀H,bO H1 H->J.stop n H)
  (hs:∀i x H H',i<n->bO H1 H->J.yld i H x H'->bO H H'/\∀(N:V->Hp->Prop)(M:Hp->Prop),(∀v H4 e,bO H' H4->DV H4 v e->E (i+1)=E i++[e]->N v H4)->(∀H3,bO H' H3->E (i+1)=E i->M H3)->
   g x σ0 H' λσ2 H2=>tt σ2 H2 λb H3=>if b=true then te σ2 H3 N else M H3)
  (hd:∀H acc,bO H1 H->H D=some (.lst acc)->a9 H acc (E n)->F H):Hl J g tt te σ0 D F H1:=by
 refine⟨λi m acc H=>m=n-i/\i<=n/\bO H1 H/\H D=some (.lst acc)/\a9 H acc (E i)/\acc.length<=i,⟨n,by simp,U1 _,b9 hD _,aM,by rw[hE];exact a9.nil,RE _⟩,?_⟩;rintro i m acc H ⟨rfl,hi,hS,Mh,jX,uM⟩;by_cases cO:i<n
 ·refine .inr ⟨go i H cO hS,λx H' y=>?_⟩;obtain⟨s1,st⟩:=hs i x H H' cO hS y;refine st _ _ (λv H4 e s4 he e4=>?_) (λH3 s3 e3=>?_)
  ·have ND:=s1.trans s4;have Ii:=ND _ _ Mh;refine⟨acc,Ii,by lia,n-(i+1),by lia,rfl,cO,Aa (hS.trans ND) hD,aM,?_,by simp;lia⟩;rw[e4];exact(a9.append (jX.mono (nY ND)) (a9.cons he a9.nil)).mono (mq Ii)
  ·have NC:=s1.trans s3;exact⟨n-(i+1),by lia,rfl,cO,hS.trans NC,NC _ _ Mh,by rw[e3];exact jX.mono (nY NC),by lia⟩
 ·have e:i=n:=⋯
  subst e;exact .inl ⟨stop H hS,hd H acc hS Mh jX⟩
end
noncomputable def bZ:Bool->Heap->Addr->Addr->Nat->Prop
 |false,h,i,l,k=>h.IsListIter i l k
 |true,h,i,l,k=>h.IsTupleIter i l k
noncomputable def fO:Bool->Heap->Addr->Array Value->Prop
 |false,h,l,xs=>h.IsList l xs
 |true,h,l,xs=>h.IsTuple l xs
theorem bZ.at:∀{b:Bool}{h h':Heap}{i l:Addr}{k:Nat},bZ b h i l k->(∀o,h.get? i=some o->h'.get? i=some o)->bZ b h' i l k
 |false,_,_,_,_,_,x,e=>Heap.IsListIter.at x e
 |true,_,_,_,_,_,x,e=>Heap.IsTupleIter.at x e
theorem fO.at:∀{b:Bool}{h h':Heap}{l:Addr}{xs:Array Value},fO b h l xs->(∀o,h.get? l=some o->h'.get? l=some o)->fO b h' l xs
 |false,_,_,_,_,x,e=>let ⟨o,ho,r⟩:=x;⟨o,e o ho,r⟩
 |true,_,_,_,_,x,e=>let ⟨o,ho,r⟩:=x;⟨o,e o ho,r⟩
theorem bZ.obj:∀{b:Bool}{h:Heap}{i l:Addr}{k:Nat},bZ b h i l k->∃o,h.get? i=some o/\∀v,o.data≠ .cell v
 |false,_,_,_,_,x=>by obtain⟨o,e,c,d⟩:=x;exact⟨o,e,λv q=>by rw[d]at q;cases q⟩
 |true,_,_,_,_,x=>by obtain⟨o,e,c,d⟩:=x;exact⟨o,e,λv q=>by rw[d]at q;cases q⟩
section
variable{prog:Program}{w:World}{A:Around}{E:Value->Shared->Prop}{s:Shared}
theorem tU{it t:Addr}{i:Nat}{items:Array Value}{x:Value}{Q:Value->Shared->Prop}(hit:s.heap.IsTupleIter it t i)(ht:s.heap.IsTuple t items)(hx:items[i]?=some x)
  (hQ:∀h',h'.IsTupleIter it t (i+1)->Heap.SameBut it s.heap h'->Q x {s with heap:=h'}):wpAny (model prog w) A (Builtin.SmallTypes.nextOf (.ref it)) Q E s:=by
 obtain⟨o,ho,hc,hd⟩:=id hit;obtain⟨ol,MC,_,nl,IC⟩:=ht;unfold Builtin.SmallTypes.nextOf;refine Rr (Vx (name:=Str.ofString "__next__") hit.typeIs SW (Vy SW hit.typeIs SV (show wpAny _ _ (field (.ref it) 0 >>=_) _ _ s from Rr (Vz ho hd (x:=.ref t) rfl ?_)) (SU _)));show wpAny _ _ (if (Value.ref t==Value.none)=true then _ else _) _ _ s;rw[Vk (show¬((Value.ref t==Value.none)=true) from SJ)];refine(show wpAny _ _ (field (.ref it) 1 >>=_) _ _ s from Rr (Vz ho hd (x:=.int i 0) rfl (show wpAny _ _ (seqItems? (.ref t) >>=_) _ _ s from Rr (VI MC IC ?_))));simp only[Td,hx];refine Rr (wpAny_setField ho hd (by simp) (Rw ⟨x,rfl,Rw (hQ _ ⟨_,Heap.get?_update_self _ ho (Obj.isFreed_of_fields (Obj.data_mapFields hd _)),(Obj.cls_mapFields ..).trans hc,?_⟩ (Heap.SameBut.update ..))⟩));rw[Obj.data_mapFields hd];simp[rawInt]
theorem xa{it t:Addr}{i:Nat}{items:Array Value}{Q:Value->Shared->Prop}(hh:A.handled=none)(hit:s.heap.IsTupleIter it t i)(ht:s.heap.IsTuple t items)(hx:items[i]?=none)
  (hE:∀h' e,Heap.ExtBut it s.heap h'->(∃o,h'.get? e=some o/\o.cls= .type "StopIteration")->E (.ref e) {s with heap:=h'}):wpAny (model prog w) A (Builtin.SmallTypes.nextOf (.ref it)) Q E s:=by
 obtain⟨o,ho,hc,hd⟩:=id hit;obtain⟨ol,MC,_,nl,IC⟩:=ht;unfold Builtin.SmallTypes.nextOf;refine Rr (Vx (name:=Str.ofString "__next__") hit.typeIs SW (Vy SW hit.typeIs SV (show wpAny _ _ (field (.ref it) 0 >>=_) _ _ s from Rr (Vz ho hd (x:=.ref t) rfl ?_)) (SU _)));show wpAny _ _ (if (Value.ref t==Value.none)=true then _ else _) _ _ s;rw[Vk (show¬((Value.ref t==Value.none)=true) from SJ)];refine(show wpAny _ _ (field (.ref it) 1 >>=_) _ _ s from Rr (Vz ho hd (x:=.int i 0) rfl (show wpAny _ _ (seqItems? (.ref t) >>=_) _ _ s from Rr (VI MC IC ?_))));simp only[Td,hx];refine Rr (VH (Rr (wpAny_setField ho hd (by simp) (show wpAny _ _ (newExc (.type "StopIteration") [] >>=_) _ _ _ from Rr ?_))));simp only[newExc,newTuple];refine Rr (VC (Rr (m:=firstArgMember _ _) (wpAny_of_eq (a:=Value.none) (by first|rfl|(simp only[firstArgMember];rfl)) (VC ?_ (by size_fits)))) (by size_fits));simp only[raiseNew];refine Rr (wpAny_handled ?_)
 first|rw[show A.in1.handled=none from hh]|rw[hh]
 exact Rr (Rw (wpAny_throw (hE _ _ (((Heap.SameBut.update ..).extBut.push _).push _) ⟨_,RG _ rfl,rfl⟩)))
theorem iB{b:Bool}{it l:Addr}{i:Nat}{items:Array Value}{x:Value}{Q:Value->Shared->Prop}(hit:bZ b s.heap it l i)(hl:fO b s.heap l items)(hx:items[i]?=some x)
  (hQ:∀h',bZ b h' it l (i+1)->Heap.SameBut it s.heap h'->Q x {s with heap:=h'}):wpAny (model prog w) A (Builtin.SmallTypes.nextOf (.ref it)) Q E s:=by
 cases b with
 |false=>exact wpAny_nextOf_list_item hit hl hx hQ
 |true=>exact tU hit hl hx hQ
theorem nK{b:Bool}{it l:Addr}{i:Nat}{items:Array Value}{Q:Value->Shared->Prop}(hh:A.handled=none)(hit:bZ b s.heap it l i)(hl:fO b s.heap l items)(hx:items[i]?=none)
  (hE:∀h' e,Heap.ExtBut it s.heap h'->(∃o,h'.get? e=some o/\o.cls= .type "StopIteration")->E (.ref e) {s with heap:=h'}):wpAny (model prog w) A (Builtin.SmallTypes.nextOf (.ref it)) Q E s:=by
 cases b with
 |false=>exact wpAny_nextOf_list_end hh hit hl hx hE
 |true=>exact xa hh hit hl hx hE
end
structure jz(z TO i1 i2 l:Addr):Prop where
 z:l≠z
 o:l≠TO
 a:l≠i1
 b:l≠i2
section
variable{prog:Program}{w:World}{A:Around}{E:Value->Shared->Prop}{s:Shared}
theorem xh{b1 b2:Bool}{z TI TO i1 i2 l1 l2:Addr}{k1 k2:Nat}{xs ys:Array Value}{x y a b:Value}{Q:Option Value->Shared->Prop}(D:xF z TI TO i1 i2)(O1:jz z TO i1 i2 l1)(O2:jz z TO i1 i2 l2)
  (hz:IsZip s.heap z TI TO .none) (Ml:IsPair s.heap TI (.ref i1) (.ref i2)) (Mn:IsPair s.heap TO a b) (h1:bZ b1 s.heap i1 l1 k1) (h2:bZ b2 s.heap i2 l2 k2) (j8:fO b1 s.heap l1 xs) (fh:fO b2 s.heap l2 ys) (hx:xs[k1]?=some x) (hy:ys[k2]?=some y)
  (hQ:∀h',IsZip h' z TI TO (rawInt s.heap.objs.size)->IsPair h' TO x y->bZ b1 h' i1 l1 (k1+1)->bZ b2 h' i2 l2 (k2+1)->IsPair h' s.heap.objs.size x y->
   (∀c o,c≠z->c≠TO->c≠i1->c≠i2->s.heap.get? c=some o->h'.get? c=some o)->Q (some (.ref s.heap.objs.size)) {s with heap:=h'}):wpAny (model prog w) A (pyNext (.ref z)) Q E s:=by
 have hT:s.TypeIs (.ref z) "zip":=⟨_,hz,rfl⟩;unfold pyNext;refine Rr (wpAny_attempt (Vx (name:=Str.ofString "__next__") hT SX (Vy SX hT F.entry_zip_next ?_ (F.args_zip_next_1 _))));refine(show wpAny _ _ (field (.ref z) 2 >>=_) _ _ _ from Rr (Vz hz rfl (x:=.bool false) rfl (show wpAny _ _ (field (.ref z) 3 >>=_) _ _ _ from Rr (Vz hz rfl (x:=.ref TI) rfl (Rr (VI Ml rfl (show wpAny _ _ (Builtin.SmallTypes.ownedTupleIsFree (.ref z) >>=_) _ _ _ from Rr ?_)))))));unfold Builtin.SmallTypes.ownedTupleIsFree;refine Rr (Vz hz rfl (x:=.none) rfl (Rw ?_));simp only[Vm];refine Rr (VH (Rr (Vz hz rfl (x:=.ref TO) rfl (Rr (Se hz (by simp) λg1 z1 e1=>Rr ?_)))))
 replace z1:IsZip g1 z TI TO .ellipsis:=z1
 simp only[UK,List.zipIdx_nil,TR,List.forIn_nil];refine Rr (Rr (VD (show wpAny _ _ (Builtin.SmallTypes.nextOf (.ref i1) >>=_) _ _ _ from Rr (iB (h1.at λo q=>e1.extBut _ o D.i1z q) (j8.at λo q=>e1.extBut _ o O1.z q) hx λg2 j1 e2=>Rw ?_))));have t2:IsPair g2 TO a b:=e2.extBut _ _ D.TOi1 (e1.extBut _ _ D.TOz Mn);refine Rr (VI t2 rfl (Rr (VN t2 λg3 t3 e3=>Rr (wpAny_letGo (Rw ?_)))))
 replace t3:IsPair g3 TO x b:=t3
 refine Rr (Rr (VD (show wpAny _ _ (Builtin.SmallTypes.nextOf (.ref i2) >>=_) _ _ _ from Rr (iB (h2.at λo q=>e3.extBut _ o D.TOi2.symm (e2.extBut _ o D.i12.symm (e1.extBut _ o D.i2z q))) (fh.at λo q=>e3.extBut _ o O2.o (e2.extBut _ o O2.a (e1.extBut _ o O2.z q))) hy λg4 j2 e4=>Rw ?_))));have t4:IsPair g4 TO x b:=e4.extBut _ _ D.TOi2 t3;refine Rr (VI t4 rfl (Rr (VN t4 λg5 t5 e5=>Rr (wpAny_letGo (Rw (Rw ?_))))))
 replace t5:IsPair g5 TO x y:=t5
 refine Rr (VI t5 rfl (Rr (wpAny_newTuple ?_)));have sz:g5.objs.size=s.heap.objs.size:=by rw[e5.1,e4.1,e3.1,e2.1,e1.1]
 have z5:IsZip g5 z TI TO .ellipsis:=e5.extBut _ _ D.TOz.symm (e4.extBut _ _ D.i2z.symm (e3.extBut _ _ D.TOz.symm (e2.extBut _ _ D.i1z.symm z1)));have old:∀c o,c≠z->c≠TO->c≠i1->c≠i2->s.heap.get? c=some o->g5.get? c=some o:=λc o c1 c2 c3 c4 q=>e5.extBut _ _ c2 (e4.extBut _ _ c4 (e3.extBut _ _ c2 (e2.extBut _ _ c3 (e1.extBut _ _ c1 q))))
 have n1:bZ b1 g5 i1 l1 (k1+1):=j1.at λo q=>e5.extBut _ o D.TOi1.symm (e4.extBut _ o D.i12 (e3.extBut _ o D.TOi1.symm q))
 have n2:bZ b2 g5 i2 l2 (k2+1):=j2.at λo q=>e5.extBut _ o D.TOi2.symm q
 have Pb:z<g5.objs.size:=RJ z5;refine(show wpAny _ _ (Builtin.SmallTypes.ownedTupleHandOut (.ref z) (.ref g5.objs.size) >>=_) _ _ _ from Rr ?_);unfold Builtin.SmallTypes.ownedTupleHandOut;have z6:IsZip (g5.push {cls:=.type "tuple",data:=.seq #[x,y]}) z TI TO .ellipsis:=Rv _ z5;refine Rr (Se z6 (by simp) λg7 z7 e7=>?_)
 replace z7:IsZip g7 z TI TO (rawInt g5.objs.size):=z7
 refine Se z7 (by simp) λg8 z8 e8=>?_
 replace z8:IsZip g8 z TI TO (rawInt g5.objs.size):=z8
 have up:∀c o,c≠z->g5.get? c=some o->g8.get? c=some o:=λc o c1 q=>e8.extBut _ _ c1 (e7.extBut _ _ c1 (Rv _ q))
 have t8:IsPair g8 g5.objs.size x y:=e8.extBut _ _ (UX Pb) (e7.extBut _ _ (UX Pb) (RG _ rfl));rw[sz]at z8 t8;refine Rw ⟨_,rfl,Rw ?_⟩;show Q (some (.ref g5.objs.size)) _;rw[sz];exact hQ g8 z8 (up _ _ D.TOz t5) (n1.at λo q=>up _ o D.i1z q) (n2.at λo q=>up _ o D.i2z q) t8 λc o c1 c2 c3 c4 q=>up c o c1 (old c o c1 c2 c3 c4 q)
theorem AJ{b1 b2:Bool}{z TI TO i1 i2 l1 l2:Addr}{k1 k2:Nat}{xs ys:Array Value}{a b:Value}{Q:Option Value->Shared->Prop}(hh:A.handled=none)(D:xF z TI TO i1 i2)(O1:jz z TO i1 i2 l1)(O2:jz z TO i1 i2 l2)
  (hz:IsZip s.heap z TI TO .none) (Ml:IsPair s.heap TI (.ref i1) (.ref i2)) (Mn:IsPair s.heap TO a b) (h1:bZ b1 s.heap i1 l1 k1) (h2:bZ b2 s.heap i2 l2 k2) (j8:fO b1 s.heap l1 xs) (fh:fO b2 s.heap l2 ys) (IE:xs[k1]?=none\/ys[k2]?=none)
  (hQ:∀h',(∀c o,c≠z->c≠TO->c≠i1->c≠i2->s.heap.get? c=some o->h'.get? c=some o)->Q none {s with heap:=h'}):wpAny (model prog w) A (pyNext (.ref z)) Q E s:=by
 have hT:s.TypeIs (.ref z) "zip":=⟨_,hz,rfl⟩;unfold pyNext;refine Rr (wpAny_attempt (Vx (name:=Str.ofString "__next__") hT SX (Vy SX hT F.entry_zip_next ?_ (F.args_zip_next_1 _))));have stop:∀(h':Heap)(e:Addr),(∀c o,c≠z->c≠TO->c≠i1->c≠i2->s.heap.get? c=some o->h'.get? c=some o)->(∃o,h'.get? e=some o/\o.cls= .type "StopIteration")->wpAny (model prog w) A (isInstance (.ref e) (.type "StopIteration")) (λr s'=>r=true/\Q none s') E {s with heap:=h'}:=λh' e kk he=>by obtain⟨o,ho,hc⟩:=he;exact wpAny_isInstance (T:="StopIteration") (b:=true) ⟨o,ho,hc⟩ isSubtype_stop ⟨rfl,hQ _ kk⟩
 refine(show wpAny _ _ (field (.ref z) 2 >>=_) _ _ _ from Rr (Vz hz rfl (x:=.bool false) rfl (show wpAny _ _ (field (.ref z) 3 >>=_) _ _ _ from Rr (Vz hz rfl (x:=.ref TI) rfl (Rr (VI Ml rfl (show wpAny _ _ (Builtin.SmallTypes.ownedTupleIsFree (.ref z) >>=_) _ _ _ from Rr ?_)))))));unfold Builtin.SmallTypes.ownedTupleIsFree;refine Rr (Vz hz rfl (x:=.none) rfl (Rw ?_));simp only[Vm];refine Rr (VH (Rr (Vz hz rfl (x:=.ref TO) rfl (Rr (Se hz (by simp) λg1 z1 e1=>Rr ?_)))))
 replace z1:IsZip g1 z TI TO .ellipsis:=z1
 simp only[UK,List.zipIdx_nil,TR,List.forIn_nil];refine Rr (Rr (VD ?_));show wpAny _ _ (Builtin.SmallTypes.nextOf (.ref i1) >>=_) _ _ _;cases hx:xs[k1]? with
 |none=>
  refine Rr (nK hh (h1.at λo q=>e1.extBut _ o D.i1z q) (j8.at λo q=>e1.extBut _ o O1.z q) hx λg2 e e2 he=>?_);obtain⟨oe,EW,Iw⟩:=he;have z2:IsZip g2 z TI TO .ellipsis:=e2 _ _ D.i1z.symm z1;have Mr:e≠z:=λx=>by subst x;rw[z2]at EW;cases EW;simp at Iw
  refine Se z2 (by simp) λg3 _ e3=>?_
  refine Rr (VB (stop g3 e (λc o c1 _ c3 _ x=>e3.extBut _ _ c1 (e2 _ _ c3 (e1.extBut _ _ c1 x))) ⟨oe,e3.extBut _ _ Mr EW,Iw⟩) (λr s' q=>?_) λ_ _ q=>q);obtain⟨rfl,q⟩:=q;exact Rw q
 |some x=>
  have hy:ys[k2]?=none:=by rcases IE with h|h;rw[hx]at h;cases h;exact h
  refine Rr (iB (h1.at λo q=>e1.extBut _ o D.i1z q) (j8.at λo q=>e1.extBut _ o O1.z q) hx λg2 j1 e2=>Rw ?_);have t2:IsPair g2 TO a b:=e2.extBut _ _ D.TOi1 (e1.extBut _ _ D.TOz Mn);refine Rr (VI t2 rfl (Rr (VN t2 λg3 t3 e3=>Rr (wpAny_letGo (Rw ?_)))));refine Rr (Rr (VD (show wpAny _ _ (Builtin.SmallTypes.nextOf (.ref i2) >>=_) _ _ _ from Rr (nK hh (h2.at λo q=>e3.extBut _ o D.TOi2.symm (e2.extBut _ o D.i12.symm (e1.extBut _ o D.i2z q))) (fh.at λo q=>e3.extBut _ o O2.o (e2.extBut _ o O2.a (e1.extBut _ o O2.z q))) hy λg4 e e4 he=>?_))));obtain⟨oe,EW,Iw⟩:=he;have z4:IsZip g4 z TI TO .ellipsis:=e4 _ _ D.i2z.symm (e3.extBut _ _ D.TOz.symm (e2.extBut _ _ D.i1z.symm z1));have Mr:e≠z:=λx=>by subst x;rw[z4]at EW;cases EW;simp at Iw
  refine Se z4 (by simp) λg5 _ e5=>?_
  refine Rr (VB (stop g5 e (λc o c1 c2 c3 c4 x=>e5.extBut _ _ c1 (e4 _ _ c4 (e3.extBut _ _ c2 (e2.extBut _ _ c3 (e1.extBut _ _ c1 x))))) ⟨oe,e5.extBut _ _ Mr EW,Iw⟩) (λr s' q=>?_) λ_ _ q=>q);obtain⟨rfl,q⟩:=q;exact Rw q
end
noncomputable def qD:Bool->Addr->Obj
 |false,l=>{cls:=.type "list_iterator",data:=.fields #[.ref l,.int 0 0]}
 |true,l=>{cls:=.type "tuple_iterator",data:=.fields #[.ref l,.int 0 0]}
theorem qE:∀{b:Bool}{h:Heap}{i l:Addr},h.get? i=some (qD b l)->bZ b h i l 0
 |false,_,_,_,e=>⟨_,e,rfl,rfl⟩
 |true,_,_,_,e=>⟨_,e,rfl,rfl⟩
theorem nJ(b:Bool)(l:Addr):(qD b l).isFreed=false:=by cases b<;>rfl
noncomputable abbrev Lj(h:Heap)(b1:Bool)(l1:Addr):Heap:=h.push (qD b1 l1)
noncomputable abbrev Lk(h:Heap)(b1 b2:Bool)(l1 l2:Addr):Heap:=(Lj h b1 l1).push (qD b2 l2)
noncomputable abbrev Ll(h:Heap)(b1 b2:Bool)(l1 l2:Addr):Heap:=(Lk h b1 b2 l1 l2).push {cls:=.type "tuple",data:=.seq #[.ref h.objs.size,.ref (Lj h b1 l1).objs.size]}
noncomputable abbrev Lm(h:Heap)(b1 b2:Bool)(l1 l2:Addr):Heap:=(Ll h b1 b2 l1 l2).push {cls:=.type "tuple",data:=.seq #[.none,.none]}
noncomputable abbrev Hk(h:Heap)(b1 b2:Bool)(l1 l2:Addr):Heap:=(Lm h b1 b2 l1 l2).push {cls:=.type "zip",data:=.fields #[.none,.bool false,.bool false,.ref (Lk h b1 b2 l1 l2).objs.size,.ref (Ll h b1 b2 l1 l2).objs.size]}
theorem fO.push{b:Bool}{h:Heap}{l:Addr}{xs:Array Value}(x:fO b h l xs)(o:Obj):fO b (h.push o) l xs:=x.at λ_ e=>Rv _ e
theorem AK(b1 b2:Bool)(l1 l2:Addr)(xs ys:Array Value):
  Meets (Builtin.«zip.__new__» ⟨[.type "zip",.ref l1,.ref l2],[]⟩) (λ_ R s=>fO b1 s.heap l1 xs/\fO b2 s.heap l2 ys/\R (.ok (.ret (.ref (Lm s.heap b1 b2 l1 l2).objs.size))) {s with heap:=Hk s.heap b1 b2 l1 l2}):=
 .of_wp λprog w A R s h=>by
  obtain⟨hp,g,d,tk,os⟩:=s;obtain⟨j8,fh,h⟩:=h;have QA:=sub_zip;have KQ:=fh.push (qD b1 l1);cases b1<;>cases b2
  ·have k1:Heap.IsList (Shared.heap ⟨hp,g,d,tk,os⟩) l1 xs:=j8;have k2:Heap.IsList (Shared.heap ⟨hp.push {cls:=.type "list_iterator",data:=.fields #[.ref l1,.int 0 0]},g,d,tk,os⟩) l2 ys:=KQ
   wp_walk using VF k1,VF k2
   exact⟨_,rfl,h⟩
  ·have k1:Heap.IsList (Shared.heap ⟨hp,g,d,tk,os⟩) l1 xs:=j8;have k2:Heap.IsTuple (Shared.heap ⟨hp.push {cls:=.type "list_iterator",data:=.fields #[.ref l1,.int 0 0]},g,d,tk,os⟩) l2 ys:=KQ
   wp_walk using VF k1,VG k2
   exact⟨_,rfl,h⟩
  ·have k1:Heap.IsTuple (Shared.heap ⟨hp,g,d,tk,os⟩) l1 xs:=j8;have k2:Heap.IsList (Shared.heap ⟨hp.push {cls:=.type "tuple_iterator",data:=.fields #[.ref l1,.int 0 0]},g,d,tk,os⟩) l2 ys:=KQ
   wp_walk using VG k1,VF k2
   exact⟨_,rfl,h⟩
  ·have k1:Heap.IsTuple (Shared.heap ⟨hp,g,d,tk,os⟩) l1 xs:=j8;have k2:Heap.IsTuple (Shared.heap ⟨hp.push {cls:=.type "tuple_iterator",data:=.fields #[.ref l1,.int 0 0]},g,d,tk,os⟩) l2 ys:=KQ
   wp_walk using VG k1,VG k2
   exact⟨_,rfl,h⟩
section
variable{prog:Program}{w:World}{A:Around}{E:Value->Shared->Prop}{s:Shared}
theorem v8{b1 b2:Bool}{l1 l2:Addr}{xs ys:Array Value}{Q:Value->Shared->Prop}(j8:fO b1 s.heap l1 xs)(fh:fO b2 s.heap l2 ys)
  (h:∀h',IsZip h' (s.heap.objs.size+4) (s.heap.objs.size+2) (s.heap.objs.size+3) .none->IsPair h' (s.heap.objs.size+2) (.ref s.heap.objs.size) (.ref (s.heap.objs.size+1))->IsPair h' (s.heap.objs.size+3) .none .none->
   bZ b1 h' s.heap.objs.size l1 0->bZ b2 h' (s.heap.objs.size+1) l2 0->(∀c o,s.heap.get? c=some o->h'.get? c=some o)->Q (.ref (s.heap.objs.size+4)) {s with heap:=h'}):wpAny (model prog w) A (call (.type "zip") [.ref l1,.ref l2]) Q E s:=by
 refine callType_new F.called_zip (by decide) (F.typeCall_zip_2 _ _) (F.newCall_zip_2 _ _) (λobj=>F.args_object_init_3 obj _ _) F.entry_zip_new (AK b1 b2 l1 l2 xs ys) ⟨j8,fh,?_⟩;have y1:(Lj s.heap b1 l1).objs.size=s.heap.objs.size+1:=Sa ..;have y2:(Lk s.heap b1 b2 l1 l2).objs.size=s.heap.objs.size+2:=by rw[Sa,y1]
 have y3:(Ll s.heap b1 b2 l1 l2).objs.size=s.heap.objs.size+3:=by rw[Sa,y2]
 have y4:(Lm s.heap b1 b2 l1 l2).objs.size=s.heap.objs.size+4:=by rw[Sa,y3]
 have g5:(Hk s.heap b1 b2 l1 l2).get? (Lm s.heap b1 b2 l1 l2).objs.size=some _:=RG _ rfl;have g4:(Hk s.heap b1 b2 l1 l2).get? (Ll s.heap b1 b2 l1 l2).objs.size=some _:=Rv _ (RG _ rfl);have g3:(Hk s.heap b1 b2 l1 l2).get? (Lk s.heap b1 b2 l1 l2).objs.size=some _:=Rv _ (Rv _ (RG _ rfl));have g2:(Hk s.heap b1 b2 l1 l2).get? (Lj s.heap b1 l1).objs.size=some _:=Rv _ (Rv _ (Rv _ (RG _ (nJ b2 l2))));have g1:(Hk s.heap b1 b2 l1 l2).get? s.heap.objs.size=some _:=Rv _ (Rv _ (Rv _ (Rv _ (RG _ (nJ b1 l1)))));show _/\_;rw[y2,y3,y4]at g5;rw[y1,y2]at g3;rw[y3]at g4;rw[y1]at g2;rw[y4];exact⟨⟨_,g5,rfl⟩,h _ g5 g3 g4 (qE g1) (qE g2) λc o x=>Rv _ (Rv _ (Rv _ (Rv _ (Rv _ x))))⟩
end
noncomputable def rT:Bool->List V->HO
 |false,xs=>.lst xs
 |true,xs=>.tup xs
theorem uN{b:Bool}{xs ys:List V}(h:rT b xs=rT b ys):xs=ys:=by
 cases b with
 |false=>injection h
 |true=>injection h
noncomputable def Lr(b1 b2:Bool)(l1 l2:Addr):It where
 go:=λi H=>∃xs ys x y,H l1=some (rT b1 xs)/\H l2=some (rT b2 ys)/\xs[i]?=some x/\ys[i]?=some y
 yld:=λi H v H'=>∃p x y,v= .ref p/\H p=none/\H'=upd H p (.tup [x,y])/\∀xs ys,H l1=some (rT b1 xs)->H l2=some (rT b2 ys)->xs[i]?=some x/\ys[i]?=some y
 stop:=λi H=>∃xs ys,H l1=some (rT b1 xs)/\H l2=some (rT b2 ys)/\(xs.length<=i\/ys.length<=i)
theorem gN{X:Cx}{pins:List (Addr×Obj)}{s:Shared}{σ:L2.St}{H:Hp}(I:Inv X pins σ H s){b:Bool}{l:Addr}{xs:List V}(h:H l=some (rT b xs)):∃its:List Value,ar xs its/\fO b s.heap l its.toArray:=by
 cases b with
 |false=>obtain⟨its,r,p,_⟩:=I.list (.inl (.inl h));exact⟨its,r,p.isList⟩
 |true=>obtain⟨its,r,p,_⟩:=I.tuple (.inl (.inl h));exact⟨its,r,p⟩
noncomputable def Q4(b1 b2:Bool)(z TI TO i1 i2 l1 l2:Addr)(i:Nat)(h:Heap):Prop:=IsZip h z TI TO .none/\IsPair h TI (.ref i1) (.ref i2)/\(∃a b,IsPair h TO a b)/\bZ b1 h i1 l1 i/\bZ b2 h i2 l2 i
theorem xg{P:Program}{w:World}{K:PySem.W.Frag}{es:List Expr}{k:Nat}{tp:Pos}{b1 b2:Bool}{z TI TO i1 i2 l1 l2:Addr}(ap:xF z TI TO i1 i2):
  Turn P w K (.Tuple es k tp) (Lr b1 b2 l1 l2) [z,TI,TO,i1,i2] z (Q4 b1 b2 z TI TO i1 i2 l1 l2) where
 mem:=by simp
 obj:=λi h st b hb=>by
  obtain⟨s1,s2,⟨a,b',s3⟩,s4,s5⟩:=st;simp only[RL,RM,Vt]at hb;rcases hb with rfl|rfl|rfl|rfl|rfl
  ·exact⟨_,s1,λv q=>by cases q⟩
  ·exact⟨_,s2,λv q=>by cases q⟩
  ·exact⟨_,s3,λv q=>by cases q⟩
  ·exact s4.obj
  ·exact s5.obj
 keep:=λi h h' st kk=>by obtain⟨s1,s2,⟨a,b',s3⟩,s4,s5⟩:=st;exact⟨kk z (by simp) _ s1,kk TI (by simp) _ s2,⟨a,b',kk TO (by simp) _ s3⟩,s4.at λo e=>kk i1 (by simp) o e,s5.at λo e=>kk i2 (by simp) o e⟩
 item:=by
  intro X hP hw hK hc i pins s σ H E I hf st hg;subst hP hw hK;obtain⟨xs,ys,x,y,j8,fh,hx,hy⟩:=hg;obtain⟨s1,s2,⟨a,b',s3⟩,s4,s5⟩:=st;obtain⟨gU,r1,p1⟩:=gN I j8;obtain⟨aK,r2,p2⟩:=gN I fh;obtain⟨u1,BM,QS⟩:=r1.get hx;obtain⟨u2,QB,QT⟩:=r2.get hy;have ne:∀{l:Addr}{o:HO},H l=some o->∀b∈[z,TI,TO,i1,i2],l≠b:=λ {l o} hl b hb e=>by subst e;rw[(hf l hb).1]at hl;cases hl
  have off:∀{l:Addr}{o:HO},H l=some o->jz z TO i1 i2 l:=λ {l o} hl=>⟨ne hl z (by simp),ne hl TO (by simp),ne hl i1 (by simp),ne hl i2 (by simp)⟩
  refine xh ap (off j8) (off fh) s1 s2 s3 s4 s5 p1 p2 (by simpa using BM) (by simpa using QB) λh' a1 a2 a3 a4 a5 a7=>⟨_,rfl,?_⟩
  refine wpAny_letOwnedTupleGo_zip (s:={s with heap:=h'}) a1 λh2 c1 c2=>?_
  have P5:s.heap.objs.size≠z:=λe=>by have:=RJ s1;rw[<-e]at this;exact UR _ this
  have Mm:IsPair h2 TI (.ref i1) (.ref i2):=(c2.2 TI ap.TIz).trans (a7 TI _ ap.TIz ap.TITO ap.TIi1 ap.TIi2 s2);have Mk:h2.get? s.heap.objs.size=some {cls:=.type "tuple",data:=.seq #[u1,u2]}:=(c2.2 _ P5).trans a5;have kk:∀b o,b∉[z,TI,TO,i1,i2]->s.heap.get? b=some o->h2.get? b=some o:=λb o hb e=>by simp only[RL,RM,Vt,not_or]at hb;exact(c2.2 b hb.1).trans (a7 b o hb.1 hb.2.2.1 hb.2.2.2.1 hb.2.2.2.2 e)
  have lt:∀{b:Addr}{o:Obj},s.heap.get? b=some o->b≠s.heap.objs.size:=λe=>Sb (RJ e)
  have Jn:∀b u,H b=some u->b∉[z,TI,TO,i1,i2]:=λb u e hb=>by rw[(hf b hb).1]at e;cases e
  have G8:H s.heap.objs.size=none:=I.fresh;have I2:Inv X pins σ (upd H s.heap.objs.size (.tup [x,y])) {s with heap:=h2,toks:=s.toks}:=by
   refine I.step (g':=s.gens) (d':=s.drawn) (ch:=[z,TI,TO,i1,i2]) (λb hb=>⟨(hf b hb).2.2.2.1,(hf b hb).2.1,(hf b hb).2.2.2.2.1,(hf b hb).2.2.2.2.2⟩) (λb o _ _ hb e _=>kk b o hb e) (λb o _ _ hb e _=>⟨o.slots,kk b o hb e⟩)
    (λb o hb e n=>by rw[aJ (lt e)];exact n) (λb o hb e=>⟨o,kk b o hb e⟩) (λb zs e=>by rw[aJ (bc e G8)];exact e) (λb o u e=>by rw[aJ (bc e G8)];exact e)
    (λb ps e=>⟨#[],by rw[aJ (bc e G8),e];simp⟩) (λm hm=>?_) (λb u e=>?_) I.bare
   ·obtain⟨o,ek,ep,ho,rr⟩:=hm;exact⟨o,ek,ep,kk _ o (λhb=>(hf _ hb).2.1 rfl) ho,rr⟩
   ·by_cases hb:b=s.heap.objs.size
    ·subst hb;rw[aM]at e;cases e;exact⟨by show 2<=sizeLine;decide,[u1,u2],.cons QS (.cons QT .nil),_,Mk,rfl,0,rfl,rfl,rfl⟩
    ·rw[aJ hb]at e;refine(I.hok b u e).tT (λc v hc q=>kk c v ?_ q) (λc q=>by rw[aJ (bc q G8)];exact q) λc zs q=>by rw[aJ (bc q G8)];exact q
     rcases hc with rfl|hc
     ·exact Jn c u e
     ·exact Jn c _ hc
  refine⟨.ref s.heap.objs.size,_,I2,rfl,⟨s.heap.objs.size,x,y,rfl,G8,rfl,λxx Li q1 q2=>?_⟩,⟨c1,Mm,⟨u1,u2,(c2.2 TO ap.TOz).trans a2⟩,a3.at λo e=>(c2.2 i1 ap.i1z).trans e,a4.at λo e=>(c2.2 i2 ap.i2z).trans e⟩,λb hb=>?_⟩
  ·rw[j8]at q1;rw[fh]at q2;rw[uN (U4 q1).symm,uN (U4 q2).symm];exact⟨hx,hy⟩
  ·rw[aJ (λe=>?_)]
   ·exact(hf b hb).1
   ·have q:∃o,s.heap.get? b=some o:=by
     simp only[RL,RM,Vt]at hb;rcases hb with rfl|rfl|rfl|rfl|rfl
     ·exact⟨_,s1⟩
     ·exact⟨_,s2⟩
     ·exact⟨_,s3⟩
     ·obtain⟨o,e,_⟩:=s4.obj;exact⟨o,e⟩
     ·obtain⟨o,e,_⟩:=s5.obj;exact⟨o,e⟩
    obtain⟨o,q⟩:=q;exact lt q e
 done:=by
  intro X hP hw hK hc i pins s σ H E I hf st hg;subst hP hw hK;obtain⟨xs,ys,j8,fh,IE⟩:=hg;obtain⟨s1,s2,⟨a,b',s3⟩,s4,s5⟩:=st;obtain⟨gU,r1,p1⟩:=gN I j8;obtain⟨aK,r2,p2⟩:=gN I fh;have ne:∀{l:Addr}{o:HO},H l=some o->∀b∈[z,TI,TO,i1,i2],l≠b:=λ {l o} hl b hb e=>by subst e;rw[(hf l hb).1]at hl;cases hl
  have off:∀{l:Addr}{o:HO},H l=some o->jz z TO i1 i2 l:=λ {l o} hl=>⟨ne hl z (by simp),ne hl TO (by simp),ne hl i1 (by simp),ne hl i2 (by simp)⟩
  have e1:=r1.length;have e2:=r2.length;refine AJ (I.ok.hd hc) ap (off j8) (off fh) s1 s2 s3 s4 s5 p1 p2 (by simp;lia) λh' kk=>⟨rfl,?_⟩
  have Jn:∀b u,H b=some u->b∉[z,TI,TO,i1,i2]:=λb u e hb=>by rw[(hf b hb).1]at e;cases e
  have Jb:∀b o,b∉[z,TI,TO,i1,i2]->s.heap.get? b=some o->h'.get? b=some o:=λb o hb e=>by simp only[RL,RM,Vt,not_or]at hb;exact kk b o hb.1 hb.2.2.1 hb.2.2.2.1 hb.2.2.2.2 e
  refine I.step (g':=s.gens) (d':=s.drawn) (t':=s.toks) (h':=h') (ch:=[z,TI,TO,i1,i2]) (λb hb=>⟨(hf b hb).2.2.2.1,(hf b hb).2.1,(hf b hb).2.2.2.2.1,(hf b hb).2.2.2.2.2⟩) (λb o _ _ hb e _=>Jb b o hb e) (λb o _ _ hb e _=>⟨o.slots,Jb b o hb e⟩)
   (λb o hb e n=>n) (λb o hb e=>⟨o,Jb b o hb e⟩) (λb zs e=>e) (λb o u e=>e) (λb ps e=>⟨#[],by rw[e];simp⟩) (λm hm=>?_) (λb u e=>?_) I.bare
  ·obtain⟨o,ek,ep,ho,rr⟩:=hm;exact⟨o,ek,ep,Jb _ o (λhb=>(hf _ hb).2.1 rfl) ho,rr⟩
  ·refine(I.hok b u e).tT (λc v hc q=>Jb c v ?_ q) (λc q=>q) λc zs q=>q
   rcases hc with rfl|hc
   ·exact Jn c u e
   ·exact Jn c _ hc
 self:=λ_ _ _ _ _ st h=>wpAny_pyIter_zip st.1 h
noncomputable def IR(ta:TA):TI:=λσ H R=>ta σ H λvs H1=>∃b1 b2 l1 l2 xs ys,vs=[.ref l1,.ref l2]/\H1 l1=some (rT b1 xs)/\H1 l2=some (rT b2 ys)/\R (Lr b1 b2 l1 l2) H1
theorem Cn{X:Cx}{es:List Expr}{k:Nat}{tp:Pos}{a b:Expr}{ta:TA}{p pos:Pos}(hg:Gl X "zip")(hm:X.mg "zip"=none)(ha:PA X [a,b] ta)(hs:starEach [a,b] X.env=[(false,eval a X.env),(false,eval b X.env)]:=by rfl)(Hd:starEach [b] X.env=[(false,eval b X.env)]:=by rfl):
  PI X (.Tuple es k tp) (.Call (.Name "zip" p) [a,b] [] pos) (IR ta):=by
 intro pins s σ H R I h;refine Call_ (lH I hg hm boot_zip (U5 (bY (ha pos pins s σ H _ I h) λus s1⟨vs,H1,I1,r1,q1⟩=>?_) (by rw[hs,Hd]) (by rw[Hd];rfl)));obtain⟨b1,b2,l1,l2,xs,ys,e,e1,e2,q⟩:=q1;subst e;obtain⟨u,v,rfl,ru,rv⟩:=r1.two;cases ru;cases rv;obtain⟨gU,_,p1⟩:=gN I1 e1;obtain⟨aK,_,p2⟩:=gN I1 e2;refine v8 p1 p2 λh' g1 g2 g3 g4 g5 kk=>?_
 refine wpAny_pyIter_zip (s:={s1 with heap:=h'}) g1 ?_;have I2:Inv X pins σ H1 {s1 with heap:=h'}:=I1.kept (t':=s1.toks) kk;refine⟨s1.heap.objs.size+4,[s1.heap.objs.size+4,s1.heap.objs.size+2,s1.heap.objs.size+3,s1.heap.objs.size,s1.heap.objs.size+1],_,_,H1,rfl,I2,xg (l1:=l1) (l2:=l2) ⟨?_,?_,?_,?_,?_,?_,?_,?_,?_,?_⟩,⟨g1,g2,⟨_,_,g3⟩,g4,g5⟩,λb hb=>?_,q⟩
 iterate 10 (first|(apply Sb;lia)|(apply UX;lia))
 have mB:s1.heap.objs.size<=b:=by simp only[RL,RM,Vt]at hb;rcases hb with h|h|h|h|h<;>(rw[h];first|exact Nat.le_add_right _ _|exact RE _)
 exact I1.yA mB (I1.hok.fresh mB)
end Mx
end
section
namespace MxTim
open PySem PySem.W PyProof.Rows
noncomputable def Dc:Bool->Keyed->Array Keyed->Nat->Nat->Nat->StateT SortSt Sem (Option Nat):=sortPriv% PySem.Builtin.gallop
theorem EJ(gV:Bool)(k:Keyed)(xs:Array Keyed)(b m h:Nat):Dc gV k xs b m h=(do
 let past (i:Nat):StateT SortSt Sem (Option Bool):=do
  let y<-elem' xs (b+i)
  if gV then lt' y k else return (<-lt' k y).map (!·)
 let mut la:=0
 let mut st:=1
 let mut u:=0
 let mut v:=0
 let some c0<-past h|return none
 if c0 then
  let mx:=m-h
  for _ in [0:m] do
   if st>=mx then break
   let some c1<-past (h+st)|return none
   if !c1 then break
   la:=st
   st:=2*st+1
  u:=h+la+1
  v:=h+min st mx
 else
  let mx:=h+1
  for _ in [0:m] do
   if st>=mx then break
   let some c1<-past (h-st)|return none
   if c1 then break
   la:=st
   st:=2*st+1
  u:=h+1-min st mx
  v:=h-la
 for _ in [0:m] do
  if u>=v then break
  let mm:=u+(v-u)/2
  let some c2<-past mm|return none
  if c2 then u:=mm+1 else v:=mm
 return some v):=rfl
section
variable{prog:Program}{w:World}{A:Around}{E:Value->Shared->Prop}{κ:SortKind}{s:Shared}{O:KeyOrd}{ky:Keyed->O.α}{Mem:Keyed->Prop}
noncomputable def Tells(prog:Program)(w:World)(A:Around)(κ:SortKind)(s:Shared)(O:KeyOrd)(ky:Keyed->O.α)(Mem:Keyed->Prop):Prop:=
 ∀x y,Mem x->Mem y->∀C:Bool->Shared->Prop,C (O.blt (ky x) (ky y)) s->wpAny (model prog w) A (keyLt' κ x.1 y.1) C (λ_ _=>False) s
theorem qN(T:Tells prog w A κ s O ky Mem){x y:Keyed}(hx:Mem x)(hy:Mem y){st:SortSt}(hk:kindOf st=κ){Q:Option Bool->SortSt->Shared->Prop}(h:Q (some (O.blt (ky x) (ky y))) st s):kasC (model prog w) A E (lt' x y) Q st s:=by rw[lt'_eq];refine RD (Vn ?_);rw[hk];refine RD (Vo (wpAny_attempt (VB (T x y hx hy (λc s'=>Q (some c) st s') h) (λc s' hc=>?_) λ_ _ hF=>hF.elim)));exact RH hc
theorem aT{xs:Array Keyed}{i:Nat}{x:Keyed}(hx:xs[i]?=some x){st:SortSt}{Q:Keyed->SortSt->Shared->Prop}(h:Q x st s):kasC (model prog w) A E (elem' xs i) Q st s:=by rw[elem'_eq,hx];exact RH h
theorem cZ{β:Type}{l:List Nat}{b0:β}{f:Nat->β->StateT SortSt Sem (ForInStep β)}{Q:β->SortSt->Shared->Prop}(Inv:Nat->β->SortSt->Prop){dz:SortSt}(h0:Inv 0 b0 dz)
  (step:∀j b st x,j<l.length->Inv j b st->kasC (model prog w) A E (f x b) (λr ao s'=>s'=s/\match r with|.done b'=>Q b' ao s|.yield b'=>Inv (j+1) b' ao) st s)
  (fin:∀b st,Inv l.length b st->Q b st s):kasC (model prog w) A E (forIn l b0 f) Q dz s:=by
 have go:∀(l':List Nat)(j:Nat)(b:β)(st:SortSt),j+l'.length=l.length->Inv j b st->kasC (model prog w) A E (forIn l' b f) Q st s:=by
  intro l'
  induction l' with
  |nil=>intro j b st hj hI;simp only[T6,Nat.add_zero]at hj;subst hj;exact kasC_nil (fin b st hI)
  |cons x l' ih=>
   intro j b st hj hI;simp only[RU]at hj;refine kasC_cons (VB (step j b st x ⋯ hI) (λr s' h'=>?_) λ_ _ e=>e);obtain⟨r,ao⟩:=r;obtain⟨rfl,h'⟩:=h';cases r with
   |done b'=>exact h'
   |yield b'=>exact ih (j+1) b' ao ⋯ h'
 exact go l 0 b0 dz ⋯ h0
theorem bR{α:Type}{m:StateT SortSt Sem α}{Q Q':α->SortSt->Shared->Prop}{st:SortSt}(h:kasC (model prog w) A E m Q st s)(hq:∀a ao s',Q a ao s'->Q' a ao s'):kasC (model prog w) A E m Q' st s:=by unfold kasC at h ⊢;exact VB h (λr s' h'=>hq _ _ _ h') λ_ _ e=>e
noncomputable def dX(O:KeyOrd)(ky:Keyed->O.α)(gV:Bool)(k:Keyed)(g:Nat->Keyed)(i:Nat):Bool:=if gV=true then O.blt (ky (g i)) (ky k) else !O.blt (ky k) (ky (g i))
theorem jC(T:Tells prog w A κ s O ky Mem){gV:Bool}{k:Keyed}{xs:Array Keyed}{b m h:Nat}(g:Nat->Keyed)(hg:∀i,i<m->xs[b+i]?=some (g i))(hm:∀i,i<m->Mem (g i))(hk:Mem k)(hh:h<m)
  (mono:∀i j,i<=j->j<m->dX O ky gV k g j=true->dX O ky gV k g i=true) {st:SortSt} (hs:kindOf st=κ) {Q:Option Nat->SortSt->Shared->Prop}
  (q:∀v,v<=m->(∀i,i<v->dX O ky gV k g i=true)->(∀i,v<=i->i<m->dX O ky gV k g i=false)->Q (some v) st s):kasC (model prog w) A E (Dc gV k xs b m h) Q st s:=by
 have past:∀(i:Nat){R:Option Bool->SortSt->Shared->Prop},i<m->R (some (dX O ky gV k g i)) st s->kasC (model prog w) A E (do
   let y<-elem' xs (b+i)
   if gV=true then lt' y k else do
    let r<-lt' k y
    pure (r.map (!·))) R st s:=λi R hi hR=>by
  refine RD (aT (hg i hi) ?_);unfold dX at hR;cases gV with
  |true=>rw[Vl rfl]at hR ⊢;exact qN T (hm i hi) hk hs hR
  |false=>rw[Vk (by simp)]at hR ⊢;exact RD (qN T hk (hm i hi) hs (RH hR))
 have vc:∀i j,i<=j->j<m->dX O ky gV k g i=false->dX O ky gV k g j=false:=λi j gF hj hi=>by
  cases c:dX O ky gV k g j with
  |false=>rfl
  |true=>rw[mono i j gF hj c]at hi;cases hi
 rw[EJ];dsimp only;refine RD (past h hh ?_);dsimp only;cases c0:dX O ky gV k g h with
 |true=>
  rw[Vl rfl];refine RD (bR (Q:=λr ao s'=>st=ao/\s=s'/\∃la sp,r=(none,la,sp)/\h+la<m/\la<sp/\dX O ky gV k g (h+la)=true/\∀i,h+min sp (m-h)<=i->i<m->dX O ky gV k g i=false) (Vq (cZ (λj r ao=>st=ao/\∃la sp,r=(none,la,sp)/\h+la<m/\la<sp/\j+1<=sp/\dX O ky gV k g (h+la)=true) ⟨rfl,0,1,rfl,by lia,by lia,by lia,c0⟩ (λj r ao x hj hI=>?_) (λr ao hI=>?_))) (λr ao s' hI=>?_))
  ·obtain⟨rfl,la,sp,rfl,uM,pW,IF,hb⟩:=hI;dsimp only;by_cases c:sp>=m-h
   ·rw[Vl c];exact RH ⟨rfl,rfl,rfl,la,sp,rfl,uM,pW,hb,λi hi qy=>by lia⟩
   ·rw[Vk c];refine RD (past _ ⋯ ?_);dsimp only;cases cb:dX O ky gV k g (h+sp) with
    |true=>rw[Vk (by simp)];exact RH ⟨rfl,rfl,_,_,rfl,by lia,by lia,by lia,cb⟩
    |false=>rw[Vl (by simp)];exact RH ⟨rfl,rfl,rfl,la,sp,rfl,uM,pW,hb,λi hi qy=>vc (h+sp) i ⋯ qy cb⟩
  ·obtain⟨rfl,la,sp,rfl,uM,pW,IF,hb⟩:=hI;rw[T8]at IF;exact⟨rfl,rfl,la,sp,rfl,uM,pW,hb,λi hi qy=>by lia⟩
  obtain⟨rfl,rfl,la,sp,rfl,uM,pW,hb,AW⟩:=hI;have o6:∀i,i<h+la+1->dX O ky gV k g i=true:=λi hi=>mono i _ ⋯ uM hb
  dsimp only;refine RD (Vq (cZ (λj r ao=>st=ao/\∃u v,r=(none,u,v)/\v<=m/\u<=v/\v-u+j<=m/\(∀i,i<u->dX O ky gV k g i=true)/\(∀i,v<=i->i<m->dX O ky gV k g i=false)) ⟨rfl,_,_,rfl,by lia,by lia,by lia,o6,AW⟩ (λj r ao x hj hI=>?_) (λr ao hI=>?_)))
  ·obtain⟨rfl,u,v,rfl,hv,MO,IG,h1,h2⟩:=hI;dsimp only;by_cases c:u>=v
   ·rw[Vl c];have e:u=v:=⋯
    subst e;exact RH ⟨rfl,RH (q u hv h1 h2)⟩
   ·rw[Vk c];have Ql:u+(v-u)/2<v:=⋯
    refine RD (past _ ⋯ ?_);dsimp only;cases cb:dX O ky gV k g (u+(v-u)/2) with
    |true=>rw[Vl rfl];exact RH ⟨rfl,rfl,_,_,rfl,hv,by lia,by lia,λi hi=>mono i _ ⋯ ⋯ cb,h2⟩
    |false=>rw[Vk (by simp)];exact RH ⟨rfl,rfl,_,_,rfl,by lia,by lia,by lia,h1,λi hi qy=>vc _ i hi qy cb⟩
  ·obtain⟨rfl,u,v,rfl,hv,MO,IG,h1,h2⟩:=hI;have e:u=v:=by
    rw[T8]at IG
    lia
   subst e;exact RH (q u hv h1 h2)
 |false=>
  rw[Vk (by simp)];refine RD (bR (Q:=λr ao s'=>st=ao/\s=s'/\∃la sp,r=(none,la,sp)/\la<=h/\la<sp/\dX O ky gV k g (h-la)=false/\∀i,i<h+1-min sp (h+1)->dX O ky gV k g i=true) (Vq (cZ (λj r ao=>st=ao/\∃la sp,r=(none,la,sp)/\la<=h/\la<sp/\j+1<=sp/\dX O ky gV k g (h-la)=false) ⟨rfl,0,1,rfl,by lia,by lia,by lia,c0⟩ (λj r ao x hj hI=>?_) (λr ao hI=>?_))) (λr ao s' hI=>?_))
  ·obtain⟨rfl,la,sp,rfl,uM,pW,IF,hb⟩:=hI;dsimp only;by_cases c:sp>=h+1
   ·rw[Vl c];exact RH ⟨rfl,rfl,rfl,la,sp,rfl,uM,pW,hb,λi hi=>by lia⟩
   ·rw[Vk c];refine RD (past _ ⋯ ?_);dsimp only;cases cb:dX O ky gV k g (h-sp) with
    |true=>rw[Vl rfl];exact RH ⟨rfl,rfl,rfl,la,sp,rfl,uM,pW,hb,λi hi=>mono i (h-sp) ⋯ ⋯ cb⟩
    |false=>rw[Vk (by simp)];exact RH ⟨rfl,rfl,_,_,rfl,by lia,by lia,by lia,cb⟩
  ·obtain⟨rfl,la,sp,rfl,uM,pW,IF,hb⟩:=hI;rw[T8]at IF;exact⟨rfl,rfl,la,sp,rfl,uM,pW,hb,λi hi=>by lia⟩
  obtain⟨rfl,rfl,la,sp,rfl,uM,pW,hb,o6⟩:=hI;have AW:∀i,h-la<=i->i<m->dX O ky gV k g i=false:=λi hi qy=>vc (h-la) i ⋯ qy hb
  dsimp only;refine RD (Vq (cZ (λj r ao=>st=ao/\∃u v,r=(none,u,v)/\v<=m/\u<=v/\v-u+j<=m/\(∀i,i<u->dX O ky gV k g i=true)/\(∀i,v<=i->i<m->dX O ky gV k g i=false)) ⟨rfl,_,_,rfl,by lia,by lia,by lia,o6,AW⟩ (λj r ao x hj hI=>?_) (λr ao hI=>?_)))
  ·obtain⟨rfl,u,v,rfl,hv,MO,IG,h1,h2⟩:=hI;dsimp only;by_cases c:u>=v
   ·rw[Vl c];have e:u=v:=⋯
    subst e;exact RH ⟨rfl,RH (q u hv h1 h2)⟩
   ·rw[Vk c];have Ql:u+(v-u)/2<v:=⋯
    refine RD (past _ ⋯ ?_);dsimp only;cases cb:dX O ky gV k g (u+(v-u)/2) with
    |true=>rw[Vl rfl];exact RH ⟨rfl,rfl,_,_,rfl,hv,by lia,by lia,λi hi=>mono i _ ⋯ ⋯ cb,h2⟩
    |false=>rw[Vk (by simp)];exact RH ⟨rfl,rfl,_,_,rfl,by lia,by lia,by lia,h1,λi hi qy=>vc _ i hi qy cb⟩
  ·obtain⟨rfl,u,v,rfl,hv,MO,IG,h1,h2⟩:=hI;have e:u=v:=by
    rw[T8]at IG
    lia
   subst e;exact RH (q u hv h1 h2)
end
section
variable{O:KeyOrd}{ky:Keyed->O.α}
noncomputable def le(O:KeyOrd)(ky:Keyed->O.α)(x y:Keyed):Prop:=O.kle (ky x) (ky y)
noncomputable def iQ(O:KeyOrd)(ky:Keyed->O.α)(l:List Keyed):Prop:=l.Pairwise (le O ky)
structure MI(O:KeyOrd)(ky:Keyed->O.α)(la lb out:List Keyed)(i j:Nat):Prop where
 p:out.Perm (la.take i++lb.take j)
 s:iQ O ky out
 a:∀x∈out,∀y∈la.drop i,le O ky x y
 b:∀x∈out,∀y∈lb.drop j,le O ky x y
theorem cQ{l:List Keyed}{i k:Nat}:l.drop i=(l.drop i).take k++l.drop (i+k):=by rw[<-List.drop_drop,UE]
theorem iJ{l:List Keyed}{i k:Nat}:l.take (i+k)=l.take i++(l.drop i).take k:=by rw[List.take_add]
theorem MI.qc{la lb out:List Keyed}{i j k:Nat}(h:MI O ky la lb out i j)(sa:iQ O ky la)(hk:∀x∈(la.drop i).take k,∀y∈lb.drop j,le O ky x y):MI O ky la lb (out++(la.drop i).take k) (i+k) j:=by
 have sd:iQ O ky (la.drop i):=sa.sublist (TC _ _);rw[cQ (k:=k)]at sd;obtain⟨s1,s2,s3⟩:=Uv.mp sd;have Ft:∀y∈(la.drop i).take k,y∈la.drop i:=λy hy=>Ur hy
 have wJ:∀y∈la.drop (i+k),y∈la.drop i:=λy hy=>by rw[cQ (k:=k)];exact Sd _ hy
 refine⟨?_,Uv.mpr ⟨h.s,s1,λx hx y hy=>h.a x hx y (Ft y hy)⟩,λx hx y hy=>?_,λx hx y hy=>?_⟩
 ·rw[iJ];refine(h.p.append_right _).trans ?_;rw[RN,RN];exact To _ Uz
 ·rcases R0.mp hx with hx|hx
  ·exact h.a x hx y (wJ y hy)
  ·exact s3 x hx y hy
 ·rcases R0.mp hx with hx|hx
  ·exact h.b x hx y hy
  ·exact hk x hx y hy
theorem MI.qd{la lb out:List Keyed}{i j k:Nat}(h:MI O ky la lb out i j)(sb:iQ O ky lb)(hk:∀x∈(lb.drop j).take k,∀y∈la.drop i,le O ky x y):MI O ky la lb (out++(lb.drop j).take k) i (j+k):=by
 have sd:iQ O ky (lb.drop j):=sb.sublist (TC _ _);rw[cQ (k:=k)]at sd;obtain⟨s1,s2,s3⟩:=Uv.mp sd;have Ft:∀y∈(lb.drop j).take k,y∈lb.drop j:=λy hy=>Ur hy
 have wJ:∀y∈lb.drop (j+k),y∈lb.drop j:=λy hy=>by rw[cQ (k:=k)];exact Sd _ hy
 refine⟨?_,Uv.mpr ⟨h.s,s1,λx hx y hy=>h.b x hx y (Ft y hy)⟩,λx hx y hy=>?_,λx hx y hy=>?_⟩
 ·rw[iJ];refine(h.p.append_right _).trans ?_;rw[RN]
 ·rcases R0.mp hx with hx|hx
  ·exact h.a x hx y hy
  ·exact hk x hx y hy
 ·rcases R0.mp hx with hx|hx
  ·exact h.b x hx y (wJ y hy)
  ·exact s3 x hx y hy
noncomputable def rZ(O:KeyOrd)(ky:Keyed->O.α)(la lb out:List Keyed):Prop:=out.Perm (la++lb)/\iQ O ky out
theorem MI.uC{la lb out:List Keyed}{i j:Nat}(h:MI O ky la lb out i j)(sa:iQ O ky la)(hj:lb.length<=j):rZ O ky la lb (out++la.drop i++lb.drop j):=by have e:lb.drop j=[]:=Tz hj;have e2:lb.take j=lb:=UG hj;rw[e,Sl];refine⟨?_,Uv.mpr ⟨h.s,sa.sublist (TC _ _),h.a⟩⟩;refine(h.p.append_right _).trans ?_;rw[e2,RN];refine(To _ Uz).trans ?_;rw[<-RN,UE]
theorem MI.HM{la lb out:List Keyed}{i j:Nat}(h:MI O ky la lb out i j)(sb:iQ O ky lb)(hi:la.length<=i):rZ O ky la lb (out++la.drop i++lb.drop j):=by have e:la.drop i=[]:=Tz hi;have e2:la.take i=la:=UG hi;rw[e,Sl];refine⟨?_,Uv.mpr ⟨h.s,sb.sublist (TC _ _),h.b⟩⟩;refine(h.p.append_right _).trans ?_;rw[e2,RN,UE]
theorem MI.uZ{la lb out:List Keyed}{i j:Nat}(h:MI O ky la lb out i j)(sa:iQ O ky la)(sb:iQ O ky lb)(hl:∀x∈lb.drop j,∀y∈la.drop i,le O ky x y):rZ O ky la lb (out++lb.drop j++la.drop i):=by
 refine⟨?_,Uv.mpr ⟨Uv.mpr ⟨h.s,sb.sublist (TC _ _),h.b⟩,sa.sublist (TC _ _),λx hx y hy=>?_⟩⟩
 ·refine((h.p.append_right _).append_right _).trans ?_;rw[RN (la.take i),UE];refine(Uz).trans ?_;rw[<-RN];refine(List.Perm.append_right _ Uz).trans ?_;rw[UE]
 ·rcases R0.mp hx with hx|hx
  ·exact h.a x hx y hy
  ·exact hl x hx y hy
theorem MI.start{la lb:List Keyed}:MI O ky la lb [] 0 0:=⟨by simp,List.Pairwise.nil,λx hx=>absurd hx (by simp),λx hx=>absurd hx (by simp)⟩
end
noncomputable def Fv:Array Keyed->Array Keyed->StateT SortSt Sem (Array Keyed):=sortPriv% PySem.Builtin.mergeLo
noncomputable def setG:Nat->StateT SortSt Sem Unit:=sortPriv% PySem.Builtin.setMinGallop
noncomputable abbrev GS:=Option (Array Keyed)×Array Keyed×Nat×Nat×Nat×Nat×Nat
noncomputable abbrev SS:=Option (Array Keyed)×Array Keyed×Nat×Nat×Nat×Nat
noncomputable abbrev OS:=Option (Array Keyed)×Array Keyed×Nat×Nat×Nat
noncomputable def A4(x y o:Array Keyed)(i j:Nat):Array Keyed:=o++x.extract i x.size++y.extract j y.size
noncomputable def wX(x y o:Array Keyed)(i j:Nat):Array Keyed:=o++y.extract j y.size++x.extract i x.size
noncomputable def KP(x y o:Array Keyed)(i j mg ca cb:Nat):StateT SortSt Sem (ForInStep GS):=do
 let e<-elem' x i
 if (i+1+1==x.size)=true then pure (.done (some (wX x y (o.push e) (i+1) j),o.push e,i+1,j,mg,ca,cb))
 else if (decide (ca<7)&&decide (cb<7))=true then pure (.done (none,o.push e,i+1,j,mg,ca,cb))
 else pure (.yield (none,o.push e,i+1,j,mg,ca,cb))
noncomputable def KO(x y o:Array Keyed)(i j mg ca rQ:Nat):StateT SortSt Sem (ForInStep GS):=do
 let e<-elem' y j
 if (j+1==y.size)=true then pure (.done (some (A4 x y (o.push e) i (j+1)),o.push e,i,j+1,mg,ca,rQ))
 else do
  let f<-elem' x i
  let r<-Dc true f y (j+1) (y.size-(j+1)) 0
  match r with
  |some k=>
   if k>0 then
    if (j+1+k==y.size)=true then pure (.done (some (A4 x y (o.push e++y.extract (j+1) (j+1+k)) i (j+1+k)),o.push e++y.extract (j+1) (j+1+k),i,j+1+k,mg,ca,k))
    else KP x y (o.push e++y.extract (j+1) (j+1+k)) i (j+1+k) mg ca k
   else KP x y (o.push e) i (j+1) mg ca k
  |_=>pure (.done (some (A4 x y (o.push e) i (j+1)),o.push e,i,j+1,mg,ca,rQ))
noncomputable def KN(x y o:Array Keyed)(i j mg LN rQ:Nat):StateT SortSt Sem (ForInStep GS):=do
 setG mg
 let e<-elem' y j
 let r<-Dc false e x i (x.size-i) 0
 match r with
 |some k=>
  if k>0 then
   if (i+k+1==x.size)=true then pure (.done (some (wX x y (o++x.extract i (i+k)) (i+k) j),o++x.extract i (i+k),i+k,j,mg,k,rQ))
   else if (i+k==x.size)=true then pure (.done (some (A4 x y (o++x.extract i (i+k)) (i+k) j),o++x.extract i (i+k),i+k,j,mg,k,rQ))
   else KO x y (o++x.extract i (i+k)) (i+k) j mg k rQ
  else KO x y o i j mg k rQ
 |_=>pure (.done (some (A4 x y o i j),o,i,j,mg,LN,rQ))
noncomputable def NK(x y:Array Keyed)(mg:Nat)(r:SS):StateT SortSt Sem (ForInStep SS):=do
 let e<-elem' y r.2.2.2.1
 let f<-elem' x r.2.2.1
 let c<-lt' e f
 match c with
 |some yw=>
  if yw=true then do
   let e<-elem' y r.2.2.2.1
   if (r.2.2.2.1+1==y.size)=true then pure (.done (some (A4 x y (r.2.1.push e) r.2.2.1 (r.2.2.2.1+1)),r.2.1.push e,r.2.2.1,r.2.2.2.1+1,0,r.2.2.2.2.2+1))
   else if r.2.2.2.2.2+1>=mg then pure (.done (none,r.2.1.push e,r.2.2.1,r.2.2.2.1+1,0,r.2.2.2.2.2+1))
   else pure (.yield (none,r.2.1.push e,r.2.2.1,r.2.2.2.1+1,0,r.2.2.2.2.2+1))
  else do
   let f<-elem' x r.2.2.1
   if (r.2.2.1+1+1==x.size)=true then pure (.done (some (wX x y (r.2.1.push f) (r.2.2.1+1) r.2.2.2.1),r.2.1.push f,r.2.2.1+1,r.2.2.2.1,r.2.2.2.2.1+1,0))
   else if r.2.2.2.2.1+1>=mg then pure (.done (none,r.2.1.push f,r.2.2.1+1,r.2.2.2.1,r.2.2.2.2.1+1,0))
   else pure (.yield (none,r.2.1.push f,r.2.2.1+1,r.2.2.2.1,r.2.2.2.2.1+1,0))
 |_=>pure (.done (some (A4 x y r.2.1 r.2.2.1 r.2.2.2.1),r.2.1,r.2.2.1,r.2.2.2.1,r.2.2.2.2.1,r.2.2.2.2.2))
noncomputable def FM(x y:Array Keyed)(r:OS):StateT SortSt Sem (ForInStep OS):=do
 let a<-forIn [:x.size+y.size] ((none,r.2.1,r.2.2.1,r.2.2.2.1,0,0):SS) λ_ a=>NK x y r.2.2.2.2 a
 match a.1 with
 |some v=>pure (.done (some v,a.2.1,a.2.2.1,a.2.2.2.1,r.2.2.2.2))
 |none=>do
  rule "list.sort.gallop"
  let b<-forIn [:x.size+y.size] ((none,a.2.1,a.2.2.1,a.2.2.2.1,r.2.2.2.2+1,a.2.2.2.2.1,a.2.2.2.2.2):GS) λ_ b=>
   if b.2.2.2.2.1>1 then KN x y b.2.1 b.2.2.1 b.2.2.2.1 (b.2.2.2.2.1-1) b.2.2.2.2.2.1 b.2.2.2.2.2.2 else KN x y b.2.1 b.2.2.1 b.2.2.2.1 b.2.2.2.2.1 b.2.2.2.2.2.1 b.2.2.2.2.2.2
  match b.1 with
  |some v=>pure (.done (some v,b.2.1,b.2.2.1,b.2.2.2.1,b.2.2.2.2.1))
  |none=>do
   setG (b.2.2.2.2.1+1)
   pure (.yield (none,b.2.1,b.2.2.1,b.2.2.2.1,b.2.2.2.2.1+1))
noncomputable def OR(x y:Array Keyed):StateT SortSt Sem (Array Keyed):=do
 rule "list.sort.merge-lo"
 let e<-elem' y 0
 if (1==y.size)=true then pure (A4 x y #[e] 0 1)
 else if (0+1==x.size)=true then pure (wX x y #[e] 0 1)
 else do
  let st<-get
  let r<-forIn [:x.size+y.size] ((none,#[e],0,1,gallopOf st):OS) λ_ r=>FM x y r
  match r.1 with
  |some a=>pure a
  |none=>unsupported "internal:list.sort.merge-bound"
theorem B0(x y:Array Keyed):Fv x y=OR x y:=by kernel_rfl
theorem kn(x:Array Keyed)(i:Nat):(x.extract i x.size).toList=x.toList.drop i:=by rw[SA];show (x.toList.drop i).take (x.size-i)=_;exact UG (by rw[T5];simp)
theorem k9(x:Array Keyed)(i k:Nat):(x.extract i (i+k)).toList=(x.toList.drop i).take k:=by rw[SA];show (x.toList.drop i).take (i+k-i)=_;rw[Nat.add_sub_cancel_left]
theorem gh(x y o:Array Keyed)(i j:Nat):(A4 x y o i j).toList=o.toList++x.toList.drop i++y.toList.drop j:=by unfold A4;rw[Sz,Sz,kn,kn]
theorem gM(x y o:Array Keyed)(i j:Nat):(wX x y o i j).toList=o.toList++y.toList.drop j++x.toList.drop i:=by unfold wX;rw[Sz,Sz,kn,kn]
theorem aG{x:Array Keyed}{i:Nat}(h:i<x.size):x[i]?=some (kas_item x i):=by unfold kas_item;simp[Array.getD,h]
theorem take_one{x:Array Keyed}{i:Nat}(h:i<x.size):(x.toList.drop i).take 1=[kas_item x i]:=by have e:x.toList.drop i=x.toList[i]'(by simpa using h)::x.toList.drop (i+1):=Tx (by simpa using h);rw[e];unfold kas_item;simp[Array.getD,h]
theorem gJ{x o:Array Keyed}{i:Nat}(h:i<x.size):(o.push (kas_item x i)).toList=o.toList++(x.toList.drop i).take 1:=by rw[take_one h];simp
section
variable{O:KeyOrd}{ky:Keyed->O.α}{Mem:Keyed->Prop}
theorem cJ{x:Array Keyed}(sx:iQ O ky x.toList){i j:Nat}(gF:i<=j)(hj:j<x.size):le O ky (kas_item x i) (kas_item x j):=by
 have e:∀k,(h:k<x.size)->kas_item x k=x.toList[k]'(by simpa using h):=λk h=>by unfold kas_item;simp[Array.getD,h]
 rw[e i ⋯,e j hj];by_cases c:i=j
 ·subst c;exact Ti _
 ·exact Ux.mp sx i j (by simpa using (show i<x.size by lia)) (by simpa using hj) ⋯
theorem cG{x:Array Keyed}{i:Nat}{e:Keyed}(h:e∈x.toList.drop i):∃k,i<=k/\k<x.size/\e=kas_item x k:=by
 obtain⟨k,hk,rfl⟩:=T3 h;rw[T5]at hk;have AX:i+k<x.size:=by simp at hk;lia
 refine⟨i+k,by lia,AX,?_⟩;rw[List.getElem_drop];unfold kas_item;simp[Array.getD,AX]
theorem a6{x:Array Keyed}{i n:Nat}{e:Keyed}(h:e∈(x.toList.drop i).take n):∃k,i<=k/\k<i+n/\k<x.size/\e=kas_item x k:=by
 obtain⟨k,hk,rfl⟩:=T3 h;rw[Uc,T5]at hk;have AX:i+k<x.size:=by simp at hk;lia
 refine⟨i+k,by lia,by lia,AX,?_⟩;rw[List.getElem_take,List.getElem_drop];unfold kas_item;simp[Array.getD,AX]
structure MP(O:KeyOrd)(ky:Keyed->O.α)(Mem:Keyed->Prop)(x y:Array Keyed):Prop where
 sa:iQ O ky x.toList
 sb:iQ O ky y.toList
 ma:∀i,i<x.size->Mem (kas_item x i)
 mb:∀i,i<y.size->Mem (kas_item y i)
 pa:1<=x.size
 pb:1<=y.size
 first:O.blt (ky (kas_item y 0)) (ky (kas_item x 0))=true
 last:∀j,j<y.size->O.blt (ky (kas_item y j)) (ky (kas_item x (x.size-1)))=true
theorem MP.lst{x y:Array Keyed}(h:MP O ky Mem x y){i j:Nat}(hi:i+1=x.size):∀e∈y.toList.drop j,∀f∈x.toList.drop i,le O ky e f:=λe he f hf=>by
 obtain⟨k,_,k2,rfl⟩:=cG he;obtain⟨l,l1,l2,rfl⟩:=cG hf;have:l=x.size-1:=⋯
 subst this;exact Th (h.last k k2)
structure Ba(O:KeyOrd)(ky:Keyed->O.α)(x y o:Array Keyed)(i j:Nat):Prop where
 m:MI O ky x.toList y.toList o.toList i j
 i1:i+1<x.size
 j1:j<y.size
noncomputable def GP(O:KeyOrd)(ky:Keyed->O.α)(x y:Array Keyed)(n:Nat)(v:Option (Array Keyed))(o:Array Keyed)(i j:Nat):Prop:=(∃a,v=some a/\rZ O ky x.toList y.toList a.toList)\/(v=none/\Ba O ky x y o i j/\n<=i+j)
noncomputable def SI(dz st:SortSt):Prop:=kindOf st=kindOf dz/\arrOf st=arrOf dz/\pendingOf st=pendingOf dz/\failedOf st=failedOf dz
theorem SI.refl(st:SortSt):SI st st:=⟨rfl,rfl,rfl,rfl⟩
theorem SI.trans{a b c:SortSt}(h:SI a b)(g:SI b c):SI a c:=⟨g.1.trans h.1,g.2.1.trans h.2.1,g.2.2.1.trans h.2.2.1,g.2.2.2.trans h.2.2.2⟩
variable{prog:Program}{w:World}{A:Around}{E:Value->Shared->Prop}{κ:SortKind}{s:Shared}
theorem kJ{g:Nat}{st:SortSt}{Q:Unit->SortSt->Shared->Prop}(h:∀ao,SI st ao->Q () ao s):kasC (model prog w) A E (setG g) Q st s:=by
 have e:setG g=modify λt=>SortSt.mk' (kindOf t) (arrOf t) (pendingOf t) g (failedOf t):=by kernel_rfl
 rw[e];exact Vp (h _ ⟨rfl,rfl,rfl,rfl⟩)
noncomputable def xA(O:KeyOrd)(ky:Keyed->O.α)(x y:Array Keyed)(n:Nat):ForInStep GS->Prop
 |.done r=>GP O ky x y n r.1 r.2.1 r.2.2.1 r.2.2.2.1
 |.yield r=>r.1=none/\GP O ky x y n r.1 r.2.1 r.2.2.1 r.2.2.2.1
theorem yI{x y o:Array Keyed}(M:MP O ky Mem x y){i j mg ca cb n:Nat}(h:MI O ky x.toList y.toList o.toList i j)(hi:i+1<x.size)(hj:j<y.size)(hk:∀l,j<=l->l<y.size->le O ky (kas_item x i) (kas_item y l))(hn:n<=i+1+j){st:SortSt}{Q:ForInStep GS->SortSt->Shared->Prop}
  (q:∀r,xA O ky x y n r->Q r st s):kasC (model prog w) A E (KP x y o i j mg ca cb) Q st s:=by
 unfold KP;refine RD (aT (aG ⋯) ?_);have m1:=h.qc (k:=1) M.sa (λe he f hf=>by
  obtain⟨a,a1,a2,a3,rfl⟩:=a6 he;obtain⟨b,b1,b2,rfl⟩:=cG hf;have:a=i:=⋯
  subst this;exact hk b b1 b2)
 rw[<-gJ (x:=x) ⋯]at m1;by_cases c:(i+1+1==x.size)=true
 ·rw[Vl c];have c':i+1+1=x.size:=by simpa using c
  refine RH (q _ (.inl ⟨_,rfl,?_⟩));rw[gM];exact m1.uZ M.sa M.sb (M.lst c')
 ·rw[Vk c];have c':¬i+1+1=x.size:=by simpa using c
  have g:GP O ky x y n none (o.push (kas_item x i)) (i+1) j:=.inr ⟨rfl,⟨m1,by lia,hj⟩,by lia⟩;by_cases d:(decide (ca<7)&&decide (cb<7))=true
  ·rw[Vl d];exact RH (q _ g)
  ·rw[Vk d];exact RH (q _ ⟨rfl,g⟩)
theorem yH(T:Tells prog w A κ s O ky Mem){x y o:Array Keyed}(M:MP O ky Mem x y){i j mg ca cb n:Nat}(h:MI O ky x.toList y.toList o.toList i j)(hi:i+1<x.size)(hj:j<y.size)(hk:∀l,i<=l->l<x.size->le O ky (kas_item y j) (kas_item x l))(hn:n<=i+j+1){st:SortSt}(hs:kindOf st=κ)
  {Q:ForInStep GS->SortSt->Shared->Prop} (q:∀r,xA O ky x y n r->Q r st s):kasC (model prog w) A E (KO x y o i j mg ca cb) Q st s:=by
 unfold KO;refine RD (aT (aG hj) ?_);have m1:=h.qd (k:=1) M.sb (λe he f hf=>by
  obtain⟨a,a1,a2,a3,rfl⟩:=a6 he;obtain⟨b,b1,b2,rfl⟩:=cG hf;have:a=j:=⋯
  subst this;exact hk b b1 b2)
 rw[<-gJ (x:=y) hj]at m1;by_cases c:(j+1==y.size)=true
 ·rw[Vl c];have c':j+1=y.size:=by simpa using c
  refine RH (q _ (.inl ⟨_,rfl,?_⟩));rw[gh];exact m1.uC M.sa (by simp;lia)
 ·rw[Vk c];have c':¬j+1=y.size:=by simpa using c
  refine RD (aT (aG ⋯) (RD ?_));refine jC T (λt=>kas_item y (j+1+t)) (λt ht=>aG ⋯) (λt ht=>M.mb _ ⋯) (M.ma i ⋯) ⋯ (λa b fN hb qx=>?_) hs (λk hk1 cO mB=>?_)
  ·unfold dX at qx ⊢;rw[Vl rfl]at qx ⊢;have:=cJ M.sb (show j+1+a<=j+1+b by lia) ⋯;exact Tj this qx
  ·have lo:∀t,t<k->O.blt (ky (kas_item y (j+1+t))) (ky (kas_item x i))=true:=λt ht=>by have:=cO t ht;unfold dX at this;rw[Vl rfl]at this;exact this
   have wt:∀l,j+1+k<=l->l<y.size->le O ky (kas_item x i) (kas_item y l):=λl j8 fh=>by have z:=mB (l-(j+1)) ⋯ ⋯;unfold dX at z;rw[Vl rfl]at z;have z2:O.blt (ky (kas_item y (j+1+(l-(j+1))))) (ky (kas_item x i))=false:=z;rw[show j+1+(l-(j+1))=l by lia]at z2;exact z2
   dsimp only;by_cases k0:k>0
   ·rw[Vl k0];have m2:=m1.qd (k:=k) M.sb (λe he f hf=>by
     obtain⟨a,a1,a2,a3,rfl⟩:=a6 he;obtain⟨b,b1,b2,rfl⟩:=cG hf;have h1:=lo (a-(j+1)) ⋯;rw[show j+1+(a-(j+1))=a by lia]at h1;exact R7 (Th h1) (cJ M.sa b1 b2))
    rw[<-k9,<-Sz]at m2;by_cases d:(j+1+k==y.size)=true
    ·rw[Vl d];have d':j+1+k=y.size:=by simpa using d
     refine RH (q _ (.inl ⟨_,rfl,?_⟩));rw[gh];exact m2.uC M.sa (by simp;lia)
    ·rw[Vk d];have d':¬j+1+k=y.size:=by simpa using d
     exact yI M m2 hi ⋯ wt ⋯ q
   ·rw[Vk k0];have:k=0:=⋯
    subst this;exact yI M m1 hi ⋯ wt ⋯ q
theorem yG(T:Tells prog w A κ s O ky Mem){x y o:Array Keyed}(M:MP O ky Mem x y){i j mg ca cb n:Nat}(h:Ba O ky x y o i j)(hn:n<=i+j){dz st:SortSt}(hs:kindOf st=κ)(nI:SI dz st)
  {Q:ForInStep GS->SortSt->Shared->Prop} (q:∀r ao,SI dz ao->xA O ky x y n r->Q r ao s):kasC (model prog w) A E (KN x y o i j mg ca cb) Q st s:=by
 unfold KN;have hi:=h.i1;have hj:=h.j1;refine RD (kJ λtS h1=>?_);have E1:kindOf tS=κ:=h1.1.trans hs;have q':=λr=>q r tS (nI.trans h1)
 refine RD (aT (aG hj) (RD ?_));refine jC T (λt=>kas_item x (i+t)) (λt ht=>aG ⋯) (λt ht=>M.ma _ ⋯) (M.mb j hj) ⋯ (λa b fN hb qx=>?_) E1 (λk hk1 cO mB=>?_)
 ·unfold dX at qx ⊢;rw[Vk (by simp)]at qx ⊢;have:=cJ M.sa (show i+a<=i+b by lia) ⋯;cases z:O.blt (ky (kas_item y j)) (ky (kas_item x (i+a))) with
  |false=>rfl
  |true=>have z2:O.blt (ky (kas_item y j)) (ky (kas_item x (i+b)))=true:=Tn z this;have yO:(!O.blt (ky (kas_item y j)) (ky (kas_item x (i+b))))=true:=qx;rw[z2]at yO;cases yO
 ·have lo:∀t,t<k->le O ky (kas_item x (i+t)) (kas_item y j):=λt ht=>by have z:=cO t ht;unfold dX at z;rw[Vk (by simp)]at z;have z2:(!O.blt (ky (kas_item y j)) (ky (kas_item x (i+t))))=true:=z;show O.blt (ky (kas_item y j)) (ky (kas_item x (i+t)))=false;simpa using z2
  have wt:∀l,i+k<=l->l<x.size->le O ky (kas_item y j) (kas_item x l):=λl j8 fh=>by
   have z:=mB (l-i) ⋯ ⋯;unfold dX at z;rw[Vk (by simp)]at z;have z2:(!O.blt (ky (kas_item y j)) (ky (kas_item x (i+(l-i)))))=false:=z;rw[show i+(l-i)=l by lia]at z2;have z3:O.blt (ky (kas_item y j)) (ky (kas_item x l))=true:=by simpa using z2
   exact Th z3
  dsimp only;by_cases k0:k>0
  ·rw[Vl k0];have m2:=h.m.qc (k:=k) M.sa (λe he f hf=>by
    obtain⟨a,a1,a2,a3,rfl⟩:=a6 he;obtain⟨b,b1,b2,rfl⟩:=cG hf;have h1:=lo (a-i) ⋯;rw[show i+(a-i)=a by lia]at h1;exact R7 h1 (cJ M.sb b1 b2))
   rw[<-k9,<-Sz]at m2;by_cases c:(i+k+1==x.size)=true
   ·rw[Vl c];have c':i+k+1=x.size:=by simpa using c
    refine RH (q' _ (.inl ⟨_,rfl,?_⟩));rw[gM];exact m2.uZ M.sa M.sb (M.lst c')
   ·rw[Vk c];have c':¬i+k+1=x.size:=by simpa using c
    by_cases d:(i+k==x.size)=true
    ·rw[Vl d];have d':i+k=x.size:=by simpa using d
     refine RH (q' _ (.inl ⟨_,rfl,?_⟩));rw[gh];exact m2.HM M.sb (by simp;lia)
    ·rw[Vk d];have d':¬i+k=x.size:=by simpa using d
     exact yH T M m2 ⋯ hj wt ⋯ E1 q'
  ·rw[Vk k0];have:k=0:=⋯
   subst this;exact yH T M h.m hi hj wt ⋯ E1 q'
end
section
variable{O:KeyOrd}{ky:Keyed->O.α}{Mem:Keyed->Prop}
variable{prog:Program}{w:World}{A:Around}{E:Value->Shared->Prop}{κ:SortKind}{s:Shared}
noncomputable def SStep(O:KeyOrd)(ky:Keyed->O.α)(x y:Array Keyed)(n:Nat):ForInStep SS->Prop
 |.done r=>GP O ky x y n r.1 r.2.1 r.2.2.1 r.2.2.2.1
 |.yield r=>r.1=none/\GP O ky x y n r.1 r.2.1 r.2.2.1 r.2.2.2.1
theorem GP.none{x y:Array Keyed}{n:Nat}{v:Option (Array Keyed)}{o:Array Keyed}{i j:Nat}(h:GP O ky x y n v o i j)(hv:v=none):Ba O ky x y o i j/\n<=i+j:=by
 rcases h with ⟨a,e,_⟩|⟨_,h⟩
 ·rw[hv]at e;cases e
 ·exact h
theorem Gu(T:Tells prog w A κ s O ky Mem){x y:Array Keyed}(M:MP O ky Mem x y){mg:Nat}{r:SS}(h:Ba O ky x y r.2.1 r.2.2.1 r.2.2.2.1){n:Nat}(hn:n<=r.2.2.1+r.2.2.2.1+1){st:SortSt}(hs:kindOf st=κ)
  {Q:ForInStep SS->SortSt->Shared->Prop} (q:∀r',SStep O ky x y n r'->Q r' st s):kasC (model prog w) A E (NK x y mg r) Q st s:=by
 obtain⟨v,o,i,j,ca,cb⟩:=r;have hi:i+1<x.size:=h.i1;have hj:j<y.size:=h.j1;have hm:MI O ky x.toList y.toList o.toList i j:=h.m;dsimp only at hn;unfold NK;dsimp only;refine RD (aT (aG hj) (RD (aT (aG ⋯) (RD (qN T (M.mb j hj) (M.ma i ⋯) hs ?_)))));dsimp only;cases c:O.blt (ky (kas_item y j)) (ky (kas_item x i)) with
 |true=>
  rw[Vl rfl];refine RD (aT (aG hj) ?_);have m1:=hm.qd (k:=1) M.sb (λe he f hf=>by
   obtain⟨a,a1,a2,a3,rfl⟩:=a6 he;obtain⟨b,b1,b2,rfl⟩:=cG hf;have:a=j:=⋯
   subst this;exact R7 (Th c) (cJ M.sa b1 b2))
  rw[<-gJ (x:=y) hj]at m1;by_cases d:(j+1==y.size)=true
  ·rw[Vl d];have d':j+1=y.size:=by simpa using d
   refine RH (q _ (.inl ⟨_,rfl,?_⟩));rw[gh];exact m1.uC M.sa (by simp;lia)
  ·rw[Vk d];have d':¬j+1=y.size:=by simpa using d
   have g:GP O ky x y n none (o.push (kas_item y j)) i (j+1):=.inr ⟨rfl,⟨m1,hi,by lia⟩,by lia⟩;by_cases e:cb+1>=mg
   ·rw[Vl e];exact RH (q _ g)
   ·rw[Vk e];exact RH (q _ ⟨rfl,g⟩)
 |false=>
  rw[Vk (by simp)];refine RD (aT (aG ⋯) ?_);have m1:=hm.qc (k:=1) M.sa (λe he f hf=>by
   obtain⟨a,a1,a2,a3,rfl⟩:=a6 he;obtain⟨b,b1,b2,rfl⟩:=cG hf;have:a=i:=⋯
   subst this;exact R7 (show O.kle (ky (kas_item x a)) (ky (kas_item y j)) from c) (cJ M.sb b1 b2))
  rw[<-gJ (x:=x) ⋯]at m1;by_cases d:(i+1+1==x.size)=true
  ·rw[Vl d];have d':i+1+1=x.size:=by simpa using d
   refine RH (q _ (.inl ⟨_,rfl,?_⟩));rw[gM];exact m1.uZ M.sa M.sb (M.lst d')
  ·rw[Vk d];have d':¬i+1+1=x.size:=by simpa using d
   have g:GP O ky x y n none (o.push (kas_item x i)) (i+1) j:=.inr ⟨rfl,⟨m1,by lia,hj⟩,by lia⟩;by_cases e:ca+1>=mg
   ·rw[Vl e];exact RH (q _ g)
   ·rw[Vk e];exact RH (q _ ⟨rfl,g⟩)
noncomputable def Hq(O:KeyOrd)(ky:Keyed->O.α)(x y:Array Keyed)(n:Nat):ForInStep OS->Prop
 |.done r=>∃a,r.1=some a/\rZ O ky x.toList y.toList a.toList
 |.yield r=>r.1=none/\Ba O ky x y r.2.1 r.2.2.1 r.2.2.2.1/\n<=r.2.2.1+r.2.2.2.1
theorem Cc(T:Tells prog w A κ s O ky Mem){x y:Array Keyed}(M:MP O ky Mem x y){r:OS}(h:Ba O ky x y r.2.1 r.2.2.1 r.2.2.2.1){n:Nat}(hn:n<=r.2.2.1+r.2.2.2.1){dz st:SortSt}(hs:kindOf st=κ)(nI:SI dz st)
  {Q:ForInStep OS->SortSt->Shared->Prop} (q:∀r' ao,SI dz ao->Hq O ky x y (n+1) r'->Q r' ao s):kasC (model prog w) A E (FM x y r) Q st s:=by
 unfold FM;have hp:=M.pa;refine RD (bR (Q:=λa ao s'=>st=ao/\s=s'/\GP O ky x y (n+1) a.1 a.2.1 a.2.2.1 a.2.2.2.1) (Vq (cZ (λjj a ao=>st=ao/\a.1=none/\Ba O ky x y a.2.1 a.2.2.1 a.2.2.2.1/\n+jj<=a.2.2.1+a.2.2.2.1) ⟨rfl,rfl,h,by simpa using hn⟩ (λjj a ao z hj hI=>?_) (λa ao hI=>?_))) (λa ao s' hI=>?_))
 ·obtain⟨rfl,a0,D6,an⟩:=hI;refine Gu T M D6 (n:=n+jj+1) ⋯ hs (λr' iM=>⟨rfl,?_⟩);cases r' with
  |done b=>
   refine⟨rfl,rfl,?_⟩;rcases iM with ⟨v,e,m⟩|⟨e,ok,l⟩
   ·exact .inl ⟨v,e,m⟩
   ·exact .inr ⟨e,ok,by lia⟩
  |yield b=>obtain⟨b0,gb⟩:=iM;obtain⟨ok,l⟩:=gb.none b0;exact⟨rfl,b0,ok,by lia⟩
 ·obtain⟨rfl,a0,D6,an⟩:=hI;rw[T8]at an;exact⟨rfl,rfl,.inr ⟨a0,D6,by lia⟩⟩
 obtain⟨rfl,rfl,ga⟩:=hI;rcases ga with ⟨v,e,m⟩|⟨e,ok,l⟩
 ·rw[e];exact RH (q _ _ nI ⟨v,rfl,m⟩)
 ·rw[e];refine RD (Vo (VH ?_));refine RD (bR (Q:=λb ao s'=>SI dz ao/\s=s'/\GP O ky x y (n+1) b.1 b.2.1 b.2.2.1 b.2.2.2.1) (Vq (cZ (λjj b ao=>SI dz ao/\kindOf ao=κ/\b.1=none/\Ba O ky x y b.2.1 b.2.2.1 b.2.2.2.1/\n+1<=b.2.2.1+b.2.2.2.1) ⟨nI,hs,rfl,ok,l⟩ (λjj b ao z hj hI=>?_) (λb ao hI=>?_))) (λb ao s' hI=>?_))
  ·obtain⟨si,ks,b0,Bo,bn⟩:=hI;have kk:∀dR,SI dz dR->kindOf dR=κ:=λdR h2=>(h2.1.trans si.1.symm).trans ks
   by_cases c:b.2.2.2.2.1>1
   ·rw[Vl c];refine yG T M Bo bn ks si (λr' dR h2 iM=>⟨rfl,?_⟩);cases r' with
    |done b'=>exact⟨h2,rfl,iM⟩
    |yield b'=>obtain⟨c0,gc⟩:=iM;obtain⟨FC,l'⟩:=gc.none c0;exact⟨h2,kk dR h2,c0,FC,l'⟩
   ·rw[Vk c];refine yG T M Bo bn ks si (λr' dR h2 iM=>⟨rfl,?_⟩);cases r' with
    |done b'=>exact⟨h2,rfl,iM⟩
    |yield b'=>obtain⟨c0,gc⟩:=iM;obtain⟨FC,l'⟩:=gc.none c0;exact⟨h2,kk dR h2,c0,FC,l'⟩
  ·obtain⟨si,ks,b0,Bo,bn⟩:=hI;exact⟨si,rfl,.inr ⟨b0,Bo,bn⟩⟩
  obtain⟨si,rfl,gb⟩:=hI;rcases gb with ⟨v,e2,m⟩|⟨e2,Nc,l2⟩
  ·rw[e2];exact RH (q _ _ si ⟨v,rfl,m⟩)
  ·rw[e2];exact RD (kJ λdR h2=>RH (q _ _ (si.trans h2) ⟨rfl,Nc,l2⟩))
theorem B2(T:Tells prog w A κ s O ky Mem){x y:Array Keyed}(M:MP O ky Mem x y){st:SortSt}(hs:kindOf st=κ){Q:Array Keyed->SortSt->Shared->Prop}(q:∀v ao,SI st ao->rZ O ky x.toList y.toList v.toList->Q v ao s):kasC (model prog w) A E (Fv x y) Q st s:=by
 rw[B0];unfold OR;have hp:=M.pa;have hq:=M.pb;refine RD (Vo (VH ?_));refine RD (aT (aG ⋯) ?_);have m1:=(MI.start (O:=O) (ky:=ky) (la:=x.toList) (lb:=y.toList)).qd (k:=1) M.sb (λe he f hf=>by
  obtain⟨a,a1,a2,a3,rfl⟩:=a6 he;obtain⟨b,b1,b2,rfl⟩:=cG hf;have:a=0:=⋯
  subst this;exact R7 (Th M.first) (cJ M.sa (U1 b) b2))
 have e0:(#[kas_item y 0]:Array Keyed).toList=[]++(y.toList.drop 0).take 1:=by rw[take_one ⋯];rfl
 rw[<-e0,U0]at m1;by_cases c:(1==y.size)=true
 ·rw[Vl c];have c':1=y.size:=by simpa using c
  refine RH (q _ _ (SI.refl _) ?_);rw[gh];exact m1.uC M.sa (by simp;lia)
 ·rw[Vk c];have c':¬1=y.size:=by simpa using c
  by_cases d:(0+1==x.size)=true
  ·rw[Vl d];have d':0+1=x.size:=by simpa using d
   refine RH (q _ _ (SI.refl _) ?_);rw[gM];exact m1.uZ M.sa M.sb (M.lst d')
  ·rw[Vk d];have d':¬0+1=x.size:=by simpa using d
   refine RD (Vn ?_);refine RD (bR (Q:=λr ao s'=>SI st ao/\s=s'/\∃a,r.1=some a/\rZ O ky x.toList y.toList a.toList) (Vq (cZ (λjj r ao=>SI st ao/\r.1=none/\Ba O ky x y r.2.1 r.2.2.1 r.2.2.2.1/\jj+1<=r.2.2.1+r.2.2.2.1) ⟨SI.refl _,rfl,⟨m1,(show 0+1<x.size by lia),(show 1<y.size by lia)⟩,by simp⟩ (λjj r ao z hj hI=>?_) (λr ao hI=>?_))) (λr ao s' hI=>?_))
   ·obtain⟨si,r0,CC,rn⟩:=hI;refine Cc T M CC rn (si.1.trans hs) si (λr' dR h2 iM=>⟨rfl,?_⟩);cases r' with
    |done b=>exact⟨h2,rfl,iM⟩
    |yield b=>exact⟨h2,iM.1,iM.2.1,iM.2.2⟩
   ·obtain⟨si,r0,CC,rn⟩:=hI;rw[T8]at rn;have h1:=CC.i1;have h2:=CC.j1
    lia
   obtain⟨si,rfl,a,e,m⟩:=hI;rw[e];exact RH (q _ _ si m)
end
section
variable{O:KeyOrd}{ky:Keyed->O.α}
structure HI(O:KeyOrd)(ky:Keyed->O.α)(la lb R:List Keyed)(i j:Nat):Prop where
 p:R.Perm (la.drop i++lb.drop j)
 s:iQ O ky R
 a:∀x∈la.take i,∀y∈R,le O ky x y
 b:∀x∈lb.take j,∀y∈R,le O ky x y
theorem gv{l:List Keyed}{i k:Nat}(h:k<=i):l.take i=l.take k++(l.drop k).take (i-k):=by have:=iJ (l:=l) (i:=k) (k:=i-k);rw[show k+(i-k)=i by lia]at this;exact this
theorem kU{l:List Keyed}{i k:Nat}(h:k<=i):l.drop k=(l.drop k).take (i-k)++l.drop i:=by have:=cQ (l:=l) (i:=k) (k:=i-k);rw[show k+(i-k)=i by lia]at this;exact this
theorem HI.qc{la lb R:List Keyed}{i k j:Nat}(h:HI O ky la lb R i j)(hk:k<=i)(sa:iQ O ky la)(hb:∀e∈(la.drop k).take (i-k),∀y∈lb.take j,le O ky y e):HI O ky la lb ((la.drop k).take (i-k)++R) k j:=by
 have st:iQ O ky (la.take i):=sa.sublist (UH _ _);rw[gv hk]at st;obtain⟨s1,s2,s3⟩:=Uv.mp st;have m1:∀y∈(la.drop k).take (i-k),y∈la.take i:=λy hy=>by rw[gv hk];exact Sd _ hy
 have m2:∀y∈la.take k,y∈la.take i:=λy hy=>by rw[gv hk];exact Uj _ hy
 refine⟨?_,Uv.mpr ⟨s2,h.s,λx hx y hy=>h.a x (m1 x hx) y hy⟩,λx hx y hy=>?_,λx hx y hy=>?_⟩
 ·refine(h.p.append_left _).trans ?_;rw[<-RN,<-kU (l:=la) hk]
 ·rcases R0.mp hy with hy|hy
  ·exact s3 x hx y hy
  ·exact h.a x (m2 x hx) y hy
 ·rcases R0.mp hy with hy|hy
  ·exact hb y hy x hx
  ·exact h.b x hx y hy
theorem HI.qd{la lb R:List Keyed}{i k j:Nat}(h:HI O ky la lb R i j)(hk:k<=j)(sb:iQ O ky lb)(hb:∀e∈(lb.drop k).take (j-k),∀y∈la.take i,le O ky y e):HI O ky la lb ((lb.drop k).take (j-k)++R) i k:=by
 have st:iQ O ky (lb.take j):=sb.sublist (UH _ _);rw[gv hk]at st;obtain⟨s1,s2,s3⟩:=Uv.mp st;have m1:∀y∈(lb.drop k).take (j-k),y∈lb.take j:=λy hy=>by rw[gv hk];exact Sd _ hy
 have m2:∀y∈lb.take k,y∈lb.take j:=λy hy=>by rw[gv hk];exact Uj _ hy
 refine⟨?_,Uv.mpr ⟨s2,h.s,λx hx y hy=>h.b x (m1 x hx) y hy⟩,λx hx y hy=>?_,λx hx y hy=>?_⟩
 ·refine(h.p.append_left _).trans ?_;rw[<-RN];refine(List.Perm.append_right _ Uz).trans ?_;rw[RN,<-kU (l:=lb) hk]
 ·rcases R0.mp hy with hy|hy
  ·exact hb y hy x hx
  ·exact h.a x hx y hy
 ·rcases R0.mp hy with hy|hy
  ·exact s3 x hx y hy
  ·exact h.b x (m2 x hx) y hy
theorem HI.jB{la lb R:List Keyed}{i j:Nat}(h:HI O ky la lb R i j)(sa:iQ O ky la)(sb:iQ O ky lb)(hf:∀x∈lb.take j,∀y∈la.take i,le O ky x y):rZ O ky la lb (lb.take j++la.take i++R):=by
 refine⟨?_,?_⟩
 ·refine(h.p.append_left _).trans ?_;rw[RN,<-RN (la.take i),UE];refine(Uz).trans ?_;rw[RN];refine To _ ((Uz).trans ?_);rw[UE]
 ·refine Uv.mpr ⟨Uv.mpr ⟨sb.sublist (UH _ _),sa.sublist (UH _ _),hf⟩,h.s,λx hx y hy=>?_⟩;rcases R0.mp hx with hx|hx
  ·exact h.b x hx y hy
  ·exact h.a x hx y hy
theorem HI.uB{la lb R:List Keyed}{j:Nat}(h:HI O ky la lb R 0 j)(sa:iQ O ky la)(sb:iQ O ky lb):rZ O ky la lb (la.take 0++lb.take j++R):=by have:=h.jB sa sb (λx hx y hy=>absurd hy (by simp));simpa using this
theorem HI.Ex{la lb R:List Keyed}{i:Nat}(h:HI O ky la lb R i 0)(sa:iQ O ky la)(sb:iQ O ky lb):rZ O ky la lb (la.take i++lb.take 0++R):=by have:=h.jB sa sb (λx hx y hy=>absurd hx (by simp));simpa using this
theorem HI.start{la lb:List Keyed}:HI O ky la lb [] la.length lb.length:=⟨by simp,List.Pairwise.nil,λx _ y hy=>absurd hy (by simp),λx _ y hy=>absurd hy (by simp)⟩
end
noncomputable def Fu:Array Keyed->Array Keyed->StateT SortSt Sem (Array Keyed):=sortPriv% PySem.Builtin.mergeHi
noncomputable abbrev GH:=Option (Array Keyed)×Nat×Nat×Array Keyed×Nat×Nat×Nat
noncomputable abbrev SH:=Option (Array Keyed)×Nat×Nat×Array Keyed×Nat×Nat
noncomputable abbrev OH:=Option (Array Keyed)×Nat×Nat×Array Keyed×Nat
noncomputable def mI(x y o:Array Keyed)(i j:Nat):Array Keyed:=x.extract 0 i++y.extract 0 j++o.reverse
noncomputable def wj(x y o:Array Keyed)(i j:Nat):Array Keyed:=y.extract 0 j++x.extract 0 i++o.reverse
noncomputable def K0(x y o:Array Keyed)(i j mg ca cb:Nat):StateT SortSt Sem (ForInStep GH):=do
 let e<-elem' x (i-1)
 if (i-1==0)=true then pure (.done (some (mI x y (o.push e) (i-1) j),i-1,j,o.push e,mg,ca,cb))
 else if (decide (ca<7)&&decide (cb<7))=true then pure (.done (none,i-1,j,o.push e,mg,ca,cb))
 else pure (.yield (none,i-1,j,o.push e,mg,ca,cb))
noncomputable def fh(x y o:Array Keyed)(i j mg ca rQ:Nat):StateT SortSt Sem (ForInStep GH):=do
 let e<-elem' y (j-1)
 if (j-1==1)=true then pure (.done (some (wj x y (o.push e) i (j-1)),i,j-1,o.push e,mg,ca,rQ))
 else do
  let f<-elem' x (i-1)
  let r<-Dc true f y 0 (j-1) (j-1-1)
  match r with
  |some k=>
   if j-1-k>0 then
    if (k==1)=true then pure (.done (some (wj x y (o.push e++(y.extract k (j-1)).reverse) i k),i,k,o.push e++(y.extract k (j-1)).reverse,mg,ca,j-1-k))
    else if (k==0)=true then pure (.done (some (mI x y (o.push e++(y.extract k (j-1)).reverse) i k),i,k,o.push e++(y.extract k (j-1)).reverse,mg,ca,j-1-k))
    else K0 x y (o.push e++(y.extract k (j-1)).reverse) i k mg ca (j-1-k)
   else K0 x y (o.push e) i (j-1) mg ca (j-1-k)
  |_=>pure (.done (some (mI x y (o.push e) i (j-1)),i,j-1,o.push e,mg,ca,rQ))
noncomputable def j8(x y o:Array Keyed)(i j mg LN rQ:Nat):StateT SortSt Sem (ForInStep GH):=do
 setG mg
 let e<-elem' y (j-1)
 let r<-Dc false e x 0 i (i-1)
 match r with
 |some k=>
  if i-k>0 then
   if (k==0)=true then pure (.done (some (mI x y (o++(x.extract k i).reverse) k j),k,j,o++(x.extract k i).reverse,mg,i-k,rQ))
   else fh x y (o++(x.extract k i).reverse) k j mg (i-k) rQ
  else fh x y o i j mg (i-k) rQ
 |_=>pure (.done (some (mI x y o i j),i,j,o,mg,LN,rQ))
noncomputable def NI(x y:Array Keyed)(mg:Nat)(r:SH):StateT SortSt Sem (ForInStep SH):=do
 let e<-elem' y (r.2.2.1-1)
 let f<-elem' x (r.2.1-1)
 let c<-lt' e f
 match c with
 |some xw=>
  if xw=true then do
   let f<-elem' x (r.2.1-1)
   if (r.2.1-1==0)=true then pure (.done (some (mI x y (r.2.2.2.1.push f) (r.2.1-1) r.2.2.1),r.2.1-1,r.2.2.1,r.2.2.2.1.push f,r.2.2.2.2.1+1,0))
   else if r.2.2.2.2.1+1>=mg then pure (.done (none,r.2.1-1,r.2.2.1,r.2.2.2.1.push f,r.2.2.2.2.1+1,0))
   else pure (.yield (none,r.2.1-1,r.2.2.1,r.2.2.2.1.push f,r.2.2.2.2.1+1,0))
  else do
   let e<-elem' y (r.2.2.1-1)
   if (r.2.2.1-1==1)=true then pure (.done (some (wj x y (r.2.2.2.1.push e) r.2.1 (r.2.2.1-1)),r.2.1,r.2.2.1-1,r.2.2.2.1.push e,0,r.2.2.2.2.2+1))
   else if r.2.2.2.2.2+1>=mg then pure (.done (none,r.2.1,r.2.2.1-1,r.2.2.2.1.push e,0,r.2.2.2.2.2+1))
   else pure (.yield (none,r.2.1,r.2.2.1-1,r.2.2.2.1.push e,0,r.2.2.2.2.2+1))
 |_=>pure (.done (some (mI x y r.2.2.2.1 r.2.1 r.2.2.1),r.2.1,r.2.2.1,r.2.2.2.1,r.2.2.2.2.1,r.2.2.2.2.2))
noncomputable def FN(x y:Array Keyed)(r:OH):StateT SortSt Sem (ForInStep OH):=do
 let a<-forIn [:x.size+y.size] ((none,r.2.1,r.2.2.1,r.2.2.2.1,0,0):SH) λ_ a=>NI x y r.2.2.2.2 a
 match a.1 with
 |some v=>pure (.done (some v,a.2.1,a.2.2.1,a.2.2.2.1,r.2.2.2.2))
 |none=>do
  rule "list.sort.gallop"
  let b<-forIn [:x.size+y.size] ((none,a.2.1,a.2.2.1,a.2.2.2.1,r.2.2.2.2+1,a.2.2.2.2.1,a.2.2.2.2.2):GH) λ_ b=>
   if b.2.2.2.2.1>1 then j8 x y b.2.2.2.1 b.2.1 b.2.2.1 (b.2.2.2.2.1-1) b.2.2.2.2.2.1 b.2.2.2.2.2.2 else j8 x y b.2.2.2.1 b.2.1 b.2.2.1 b.2.2.2.2.1 b.2.2.2.2.2.1 b.2.2.2.2.2.2
  match b.1 with
  |some v=>pure (.done (some v,b.2.1,b.2.2.1,b.2.2.2.1,b.2.2.2.2.1))
  |none=>do
   setG (b.2.2.2.2.1+1)
   pure (.yield (none,b.2.1,b.2.2.1,b.2.2.2.1,b.2.2.2.2.1+1))
noncomputable def OA(x y:Array Keyed):StateT SortSt Sem (Array Keyed):=do
 rule "list.sort.merge-hi"
 let e<-elem' x (x.size-1)
 if (x.size-1==0)=true then pure (mI x y #[e] (x.size-1) y.size)
 else if (y.size==1)=true then pure (wj x y #[e] (x.size-1) y.size)
 else do
  let st<-get
  let r<-forIn [:x.size+y.size] ((none,x.size-1,y.size,#[e],gallopOf st):OH) λ_ r=>FN x y r
  match r.1 with
  |some a=>pure a
  |none=>unsupported "internal:list.sort.merge-bound"
theorem BY(x y:Array Keyed):Fu x y=OA x y:=by kernel_rfl
theorem oV(x:Array Keyed)(i:Nat):(x.extract 0 i).toList=x.toList.take i:=by rw[SA];show (x.toList.drop 0).take (i-0)=_;simp
theorem uF(x:Array Keyed){k i:Nat}:(x.extract k i).toList=(x.toList.drop k).take (i-k):=by rw[SA]
theorem eK(x y o:Array Keyed)(i j:Nat):(mI x y o i j).toList=x.toList.take i++y.toList.take j++o.toList.reverse:=by unfold mI;rw[Sz,Sz,oV,oV,SC]
theorem gE(x y o:Array Keyed)(i j:Nat):(wj x y o i j).toList=y.toList.take j++x.toList.take i++o.toList.reverse:=by unfold wj;rw[Sz,Sz,oV,oV,SC]
theorem vw(x o:Array Keyed)(k i:Nat):(o++(x.extract k i).reverse).toList.reverse=(x.toList.drop k).take (i-k)++o.toList.reverse:=by rw[Sz,SC,List.reverse_append,List.reverse_reverse,uF]
theorem jq{x o:Array Keyed}{i:Nat}(h1:1<=i)(h2:i<=x.size):(o.push (kas_item x (i-1))).toList.reverse=(x.toList.drop (i-1)).take (i-(i-1))++o.toList.reverse:=by rw[show i-(i-1)=1 by lia,take_one ⋯];simp
section
variable{O:KeyOrd}{ky:Keyed->O.α}{Mem:Keyed->Prop}
variable{prog:Program}{w:World}{A:Around}{E:Value->Shared->Prop}{κ:SortKind}{s:Shared}
theorem fz{x:Array Keyed}{i:Nat}{e:Keyed}(h:e∈x.toList.take i):∃k,k<i/\k<x.size/\e=kas_item x k:=by
 have h':e∈(x.toList.drop 0).take i:=by simpa using h
 obtain⟨k,_,k1,k2,e⟩:=a6 h';exact⟨k,by lia,k2,e⟩
structure A9(O:KeyOrd)(ky:Keyed->O.α)(x y o:Array Keyed)(i j:Nat):Prop where
 m:HI O ky x.toList y.toList o.toList.reverse i j
 i1:1<=i
 i2:i<x.size
 j1:2<=j
 j2:j<=y.size
theorem MP.fst{x y:Array Keyed}(h:MP O ky Mem x y){i:Nat}(hi:i<=x.size):∀e∈y.toList.take 1,∀f∈x.toList.take i,le O ky e f:=λe he f hf=>by
 obtain⟨k,k1,k2,rfl⟩:=fz he;obtain⟨l,l1,l2,rfl⟩:=fz hf;have:k=0:=⋯
 subst this;exact R7 (Th h.first) (cJ h.sa (U1 l) l2)
noncomputable def HP(O:KeyOrd)(ky:Keyed->O.α)(x y:Array Keyed)(n:Nat)(v:Option (Array Keyed))(o:Array Keyed)(i j:Nat):Prop:=(∃a,v=some a/\rZ O ky x.toList y.toList a.toList)\/(v=none/\A9 O ky x y o i j/\i+j+n<=x.size+y.size)
theorem HP.none{x y:Array Keyed}{n:Nat}{v:Option (Array Keyed)}{o:Array Keyed}{i j:Nat}(h:HP O ky x y n v o i j)(hv:v=none):A9 O ky x y o i j/\i+j+n<=x.size+y.size:=by
 rcases h with ⟨a,e,_⟩|⟨_,h⟩
 ·rw[hv]at e;cases e
 ·exact h
noncomputable def xB(O:KeyOrd)(ky:Keyed->O.α)(x y:Array Keyed)(n:Nat):ForInStep GH->Prop
 |.done r=>HP O ky x y n r.1 r.2.2.2.1 r.2.1 r.2.2.1
 |.yield r=>r.1=none/\HP O ky x y n r.1 r.2.2.2.1 r.2.1 r.2.2.1
theorem yU{x y o:Array Keyed}(M:MP O ky Mem x y){i j mg ca cb n:Nat}(h:HI O ky x.toList y.toList o.toList.reverse i j)(hi:1<=i)(wt:i<x.size)(hj:2<=j)(BG:j<=y.size)(hk:∀l,l<j->le O ky (kas_item y l) (kas_item x (i-1)))(hn:i-1+j+n<=x.size+y.size){st:SortSt}{Q:ForInStep GH->SortSt->Shared->Prop}
  (q:∀r,xB O ky x y n r->Q r st s):kasC (model prog w) A E (K0 x y o i j mg ca cb) Q st s:=by
 unfold K0;refine RD (aT (aG ⋯) ?_);have m1:=h.qc (k:=i-1) ⋯ M.sa (λe he f hf=>by
  obtain⟨a,a1,a2,a3,rfl⟩:=a6 he;obtain⟨b,b1,b2,rfl⟩:=fz hf;have:a=i-1:=⋯
  subst this;exact hk b b1)
 rw[<-jq (x:=x) hi ⋯]at m1;by_cases c:(i-1==0)=true
 ·rw[Vl c];have c':i-1=0:=by simpa using c
  refine RH (q _ (.inl ⟨_,rfl,?_⟩));rw[eK];rw[c']at m1 ⊢;exact m1.uB M.sa M.sb
 ·rw[Vk c];have c':¬i-1=0:=by simpa using c
  have g:HP O ky x y n none (o.push (kas_item x (i-1))) (i-1) j:=.inr ⟨rfl,⟨m1,by lia,by lia,hj,BG⟩,by lia⟩;by_cases d:(decide (ca<7)&&decide (cb<7))=true
  ·rw[Vl d];exact RH (q _ g)
  ·rw[Vk d];exact RH (q _ ⟨rfl,g⟩)
theorem yT(T:Tells prog w A κ s O ky Mem){x y o:Array Keyed}(M:MP O ky Mem x y){i j mg ca cb n:Nat}(h:HI O ky x.toList y.toList o.toList.reverse i j)(hi:1<=i)(wt:i<x.size)(hj:2<=j)(BG:j<=y.size)(hk:∀l,l<i->le O ky (kas_item x l) (kas_item y (j-1)))(hn:i+(j-1)+n<=x.size+y.size){st:SortSt}(hs:kindOf st=κ)
  {Q:ForInStep GH->SortSt->Shared->Prop} (q:∀r,xB O ky x y n r->Q r st s):kasC (model prog w) A E (fh x y o i j mg ca cb) Q st s:=by
 unfold fh;refine RD (aT (aG ⋯) ?_);have m1:=h.qd (k:=j-1) ⋯ M.sb (λe he f hf=>by
  obtain⟨a,a1,a2,a3,rfl⟩:=a6 he;obtain⟨b,b1,b2,rfl⟩:=fz hf;have:a=j-1:=⋯
  subst this;exact hk b b1)
 rw[<-jq (x:=y) ⋯ BG]at m1;by_cases c:(j-1==1)=true
 ·rw[Vl c];have c':j-1=1:=by simpa using c
  refine RH (q _ (.inl ⟨_,rfl,?_⟩));rw[gE];rw[c']at m1 ⊢;exact m1.jB M.sa M.sb (M.fst ⋯)
 ·rw[Vk c];have c':¬j-1=1:=by simpa using c
  refine RD (aT (aG ⋯) (RD ?_));refine jC T (λt=>kas_item y t) (λt ht=>by rw[U0];exact aG ⋯) (λt ht=>M.mb _ ⋯) (M.ma (i-1) ⋯) ⋯ (λa b fN hb qx=>?_) hs (λk hk1 cO mB=>?_)
  ·unfold dX at qx ⊢;rw[Vl rfl]at qx ⊢;have:=cJ M.sb fN ⋯;exact Tj this qx
  ·have lo:∀t,t<k->le O ky (kas_item y t) (kas_item x (i-1)):=λt ht=>by have z:=cO t ht;unfold dX at z;rw[Vl rfl]at z;exact Th z
   have up:∀t,k<=t->t<j-1->le O ky (kas_item x (i-1)) (kas_item y t):=λt h1 h2=>by have z:=mB t h1 h2;unfold dX at z;rw[Vl rfl]at z;exact z
   dsimp only;by_cases k0:j-1-k>0
   ·rw[Vl k0];have m2:=m1.qd (k:=k) ⋯ M.sb (λe he f hf=>by
     obtain⟨a,a1,a2,a3,rfl⟩:=a6 he;obtain⟨b,b1,b2,rfl⟩:=fz hf;exact R7 (cJ M.sa (show b<=i-1 by lia) ⋯) (up a a1 ⋯))
    rw[<-vw]at m2;by_cases d:(k==1)=true
    ·rw[Vl d];have d':k=1:=by simpa using d
     subst d';refine RH (q _ (.inl ⟨_,rfl,?_⟩));rw[gE];exact m2.jB M.sa M.sb (M.fst ⋯)
    ·rw[Vk d];have d':¬k=1:=by simpa using d
     by_cases e:(k==0)=true
     ·rw[Vl e];have e':k=0:=by simpa using e
      subst e';refine RH (q _ (.inl ⟨_,rfl,?_⟩));rw[eK];exact m2.Ex M.sa M.sb
     ·rw[Vk e];have e':¬k=0:=by simpa using e
      exact yU M m2 hi wt ⋯ ⋯ lo ⋯ q
   ·rw[Vk k0];exact yU M m1 hi wt ⋯ ⋯ (λl hl=>lo l ⋯) ⋯ q
theorem yS(T:Tells prog w A κ s O ky Mem){x y o:Array Keyed}(M:MP O ky Mem x y){i j mg ca cb n:Nat}(h:A9 O ky x y o i j)(hn:i+j+n<=x.size+y.size){dz st:SortSt}(hs:kindOf st=κ)(nI:SI dz st)
  {Q:ForInStep GH->SortSt->Shared->Prop} (q:∀r ao,SI dz ao->xB O ky x y n r->Q r ao s):kasC (model prog w) A E (j8 x y o i j mg ca cb) Q st s:=by
 unfold j8;have hi:=h.i1;have wt:=h.i2;have hj:=h.j1;have BG:=h.j2;refine RD (kJ λtS h1=>?_);have E1:kindOf tS=κ:=h1.1.trans hs;have q':=λr=>q r tS (nI.trans h1)
 refine RD (aT (aG ⋯) (RD ?_));refine jC T (λt=>kas_item x t) (λt ht=>by rw[U0];exact aG ⋯) (λt ht=>M.ma _ ⋯) (M.mb (j-1) ⋯) ⋯ (λa b fN hb qx=>?_) E1 (λk hk1 cO mB=>?_)
 ·unfold dX at qx ⊢;rw[Vk (by simp)]at qx ⊢;have:=cJ M.sa fN ⋯;cases z:O.blt (ky (kas_item y (j-1))) (ky (kas_item x a)) with
  |false=>rfl
  |true=>have z2:O.blt (ky (kas_item y (j-1))) (ky (kas_item x b))=true:=Tn z this;have yO:(!O.blt (ky (kas_item y (j-1))) (ky (kas_item x b)))=true:=qx;rw[z2]at yO;cases yO
 ·have lo:∀t,t<k->le O ky (kas_item x t) (kas_item y (j-1)):=λt ht=>by have z:=cO t ht;unfold dX at z;rw[Vk (by simp)]at z;have z2:(!O.blt (ky (kas_item y (j-1))) (ky (kas_item x t)))=true:=z;show O.blt (ky (kas_item y (j-1))) (ky (kas_item x t))=false;simpa using z2
  have up:∀t,k<=t->t<i->le O ky (kas_item y (j-1)) (kas_item x t):=λt h1 h2=>by
   have z:=mB t h1 h2;unfold dX at z;rw[Vk (by simp)]at z;have z2:(!O.blt (ky (kas_item y (j-1))) (ky (kas_item x t)))=false:=z;have z3:O.blt (ky (kas_item y (j-1))) (ky (kas_item x t))=true:=by simpa using z2
   exact Th z3
  dsimp only;by_cases k0:i-k>0
  ·rw[Vl k0];have m2:=h.m.qc (k:=k) ⋯ M.sa (λe he f hf=>by
    obtain⟨a,a1,a2,a3,rfl⟩:=a6 he;obtain⟨b,b1,b2,rfl⟩:=fz hf;exact R7 (cJ M.sb (show b<=j-1 by lia) ⋯) (up a a1 ⋯))
   rw[<-vw]at m2;by_cases e:(k==0)=true
   ·rw[Vl e];have e':k=0:=by simpa using e
    subst e';refine RH (q' _ (.inl ⟨_,rfl,?_⟩));rw[eK];exact m2.uB M.sa M.sb
   ·rw[Vk e];have e':¬k=0:=by simpa using e
    exact yT T M m2 ⋯ ⋯ hj BG lo ⋯ E1 q'
  ·rw[Vk k0];exact yT T M h.m hi wt hj BG (λl hl=>lo l ⋯) ⋯ E1 q'
noncomputable def Pf(O:KeyOrd)(ky:Keyed->O.α)(x y:Array Keyed)(n:Nat):ForInStep SH->Prop
 |.done r=>HP O ky x y n r.1 r.2.2.2.1 r.2.1 r.2.2.1
 |.yield r=>r.1=none/\HP O ky x y n r.1 r.2.2.2.1 r.2.1 r.2.2.1
theorem Gq(T:Tells prog w A κ s O ky Mem){x y:Array Keyed}(M:MP O ky Mem x y){mg:Nat}{r:SH}(h:A9 O ky x y r.2.2.2.1 r.2.1 r.2.2.1){n:Nat}(hn:r.2.1+r.2.2.1+n<=x.size+y.size+1){st:SortSt}(hs:kindOf st=κ)
  {Q:ForInStep SH->SortSt->Shared->Prop} (q:∀r',Pf O ky x y n r'->Q r' st s):kasC (model prog w) A E (NI x y mg r) Q st s:=by
 obtain⟨v,i,j,o,ca,cb⟩:=r;have hi:1<=i:=h.i1;have wt:i<x.size:=h.i2;have hj:2<=j:=h.j1;have BG:j<=y.size:=h.j2;have hm:HI O ky x.toList y.toList o.toList.reverse i j:=h.m;dsimp only at hn;unfold NI;dsimp only;refine RD (aT (aG ⋯) (RD (aT (aG ⋯) (RD (qN T (M.mb (j-1) ⋯) (M.ma (i-1) ⋯) hs ?_)))));dsimp only;cases c:O.blt (ky (kas_item y (j-1))) (ky (kas_item x (i-1))) with
 |true=>
  rw[Vl rfl];refine RD (aT (aG ⋯) ?_);have m1:=hm.qc (k:=i-1) ⋯ M.sa (λe he f hf=>by
   obtain⟨a,a1,a2,a3,rfl⟩:=a6 he;obtain⟨b,b1,b2,rfl⟩:=fz hf;have:a=i-1:=⋯
   subst this;exact R7 (cJ M.sb (show b<=j-1 by lia) ⋯) (Th c))
  rw[<-jq (x:=x) hi ⋯]at m1;by_cases d:(i-1==0)=true
  ·rw[Vl d];have d':i-1=0:=by simpa using d
   refine RH (q _ (.inl ⟨_,rfl,?_⟩));rw[eK];rw[d']at m1 ⊢;exact m1.uB M.sa M.sb
  ·rw[Vk d];have d':¬i-1=0:=by simpa using d
   have g:HP O ky x y n none (o.push (kas_item x (i-1))) (i-1) j:=.inr ⟨rfl,⟨m1,by lia,by lia,hj,BG⟩,by lia⟩;by_cases e:ca+1>=mg
   ·rw[Vl e];exact RH (q _ g)
   ·rw[Vk e];exact RH (q _ ⟨rfl,g⟩)
 |false=>
  rw[Vk (by simp)];refine RD (aT (aG ⋯) ?_);have m1:=hm.qd (k:=j-1) ⋯ M.sb (λe he f hf=>by
   obtain⟨a,a1,a2,a3,rfl⟩:=a6 he;obtain⟨b,b1,b2,rfl⟩:=fz hf;have:a=j-1:=⋯
   subst this;exact R7 (cJ M.sa (show b<=i-1 by lia) ⋯) c)
  rw[<-jq (x:=y) ⋯ BG]at m1;by_cases d:(j-1==1)=true
  ·rw[Vl d];have d':j-1=1:=by simpa using d
   refine RH (q _ (.inl ⟨_,rfl,?_⟩));rw[gE];rw[d']at m1 ⊢;exact m1.jB M.sa M.sb (M.fst ⋯)
  ·rw[Vk d];have d':¬j-1=1:=by simpa using d
   have g:HP O ky x y n none (o.push (kas_item y (j-1))) i (j-1):=.inr ⟨rfl,⟨m1,hi,wt,by lia,by lia⟩,by lia⟩;by_cases e:cb+1>=mg
   ·rw[Vl e];exact RH (q _ g)
   ·rw[Vk e];exact RH (q _ ⟨rfl,g⟩)
noncomputable def Pe(O:KeyOrd)(ky:Keyed->O.α)(x y:Array Keyed)(n:Nat):ForInStep OH->Prop
 |.done r=>∃a,r.1=some a/\rZ O ky x.toList y.toList a.toList
 |.yield r=>r.1=none/\A9 O ky x y r.2.2.2.1 r.2.1 r.2.2.1/\r.2.1+r.2.2.1+n<=x.size+y.size
theorem Cd(T:Tells prog w A κ s O ky Mem){x y:Array Keyed}(M:MP O ky Mem x y){r:OH}(h:A9 O ky x y r.2.2.2.1 r.2.1 r.2.2.1){n:Nat}(hn:r.2.1+r.2.2.1+n<=x.size+y.size){dz st:SortSt}(hs:kindOf st=κ)(nI:SI dz st)
  {Q:ForInStep OH->SortSt->Shared->Prop} (q:∀r' ao,SI dz ao->Pe O ky x y (n+1) r'->Q r' ao s):kasC (model prog w) A E (FN x y r) Q st s:=by
 unfold FN;have hp:=M.pa;refine RD (bR (Q:=λa ao s'=>st=ao/\s=s'/\HP O ky x y (n+1) a.1 a.2.2.2.1 a.2.1 a.2.2.1) (Vq (cZ (λjj a ao=>st=ao/\a.1=none/\A9 O ky x y a.2.2.2.1 a.2.1 a.2.2.1/\a.2.1+a.2.2.1+n+jj<=x.size+y.size) ⟨rfl,rfl,h,by simpa using hn⟩ (λjj a ao z hj hI=>?_) (λa ao hI=>?_))) (λa ao s' hI=>?_))
 ·obtain⟨rfl,a0,D6,an⟩:=hI;refine Gq T M D6 (n:=n+jj+1) ⋯ hs (λr' iM=>⟨rfl,?_⟩);cases r' with
  |done b=>
   refine⟨rfl,rfl,?_⟩;rcases iM with ⟨v,e,m⟩|⟨e,ok,l⟩
   ·exact .inl ⟨v,e,m⟩
   ·exact .inr ⟨e,ok,by lia⟩
  |yield b=>obtain⟨b0,gb⟩:=iM;obtain⟨ok,l⟩:=gb.none b0;exact⟨rfl,b0,ok,by lia⟩
 ·obtain⟨rfl,a0,D6,an⟩:=hI;rw[T8]at an;exact⟨rfl,rfl,.inr ⟨a0,D6,by lia⟩⟩
 obtain⟨rfl,rfl,ga⟩:=hI;rcases ga with ⟨v,e,m⟩|⟨e,ok,l⟩
 ·rw[e];exact RH (q _ _ nI ⟨v,rfl,m⟩)
 ·rw[e];refine RD (Vo (VH ?_));refine RD (bR (Q:=λb ao s'=>SI dz ao/\s=s'/\HP O ky x y (n+1) b.1 b.2.2.2.1 b.2.1 b.2.2.1) (Vq (cZ (λjj b ao=>SI dz ao/\kindOf ao=κ/\b.1=none/\A9 O ky x y b.2.2.2.1 b.2.1 b.2.2.1/\b.2.1+b.2.2.1+(n+1)<=x.size+y.size) ⟨nI,hs,rfl,ok,l⟩ (λjj b ao z hj hI=>?_) (λb ao hI=>?_))) (λb ao s' hI=>?_))
  ·obtain⟨si,ks,b0,Bo,bn⟩:=hI;have kk:∀dR,SI dz dR->kindOf dR=κ:=λdR h2=>(h2.1.trans si.1.symm).trans ks
   by_cases c:b.2.2.2.2.1>1
   ·rw[Vl c];refine yS T M Bo bn ks si (λr' dR h2 iM=>⟨rfl,?_⟩);cases r' with
    |done b'=>exact⟨h2,rfl,iM⟩
    |yield b'=>obtain⟨c0,gc⟩:=iM;obtain⟨FC,l'⟩:=gc.none c0;exact⟨h2,kk dR h2,c0,FC,l'⟩
   ·rw[Vk c];refine yS T M Bo bn ks si (λr' dR h2 iM=>⟨rfl,?_⟩);cases r' with
    |done b'=>exact⟨h2,rfl,iM⟩
    |yield b'=>obtain⟨c0,gc⟩:=iM;obtain⟨FC,l'⟩:=gc.none c0;exact⟨h2,kk dR h2,c0,FC,l'⟩
  ·obtain⟨si,ks,b0,Bo,bn⟩:=hI;exact⟨si,rfl,.inr ⟨b0,Bo,bn⟩⟩
  obtain⟨si,rfl,gb⟩:=hI;rcases gb with ⟨v,e2,m⟩|⟨e2,Nc,l2⟩
  ·rw[e2];exact RH (q _ _ si ⟨v,rfl,m⟩)
  ·rw[e2];exact RD (kJ λdR h2=>RH (q _ _ (si.trans h2) ⟨rfl,Nc,l2⟩))
theorem BZ(T:Tells prog w A κ s O ky Mem){x y:Array Keyed}(M:MP O ky Mem x y){st:SortSt}(hs:kindOf st=κ){Q:Array Keyed->SortSt->Shared->Prop}(q:∀v ao,SI st ao->rZ O ky x.toList y.toList v.toList->Q v ao s):kasC (model prog w) A E (Fu x y) Q st s:=by
 rw[BY];unfold OA;have hp:=M.pa;have hq:=M.pb;refine RD (Vo (VH ?_));refine RD (aT (aG ⋯) ?_);have m0:=HI.start (O:=O) (ky:=ky) (la:=x.toList) (lb:=y.toList);have lx:x.toList.length=x.size:=by simp
 have ly:y.toList.length=y.size:=by simp
 rw[lx,ly]at m0;have m1:=m0.qc (k:=x.size-1) ⋯ M.sa (λe he f hf=>by
  obtain⟨a,a1,a2,a3,rfl⟩:=a6 he;obtain⟨b,b1,b2,rfl⟩:=fz hf;have:a=x.size-1:=⋯
  subst this;exact Th (M.last b b2))
 have e0:(#[kas_item x (x.size-1)]:Array Keyed).toList.reverse=(x.toList.drop (x.size-1)).take (x.size-(x.size-1))++[]:=by rw[show x.size-(x.size-1)=1 by lia,take_one ⋯];rfl
 rw[<-e0]at m1;by_cases c:(x.size-1==0)=true
 ·rw[Vl c];have c':x.size-1=0:=by simpa using c
  refine RH (q _ _ (SI.refl _) ?_);rw[eK];rw[c']at m1 ⊢;exact m1.uB M.sa M.sb
 ·rw[Vk c];have c':¬x.size-1=0:=by simpa using c
  by_cases d:(y.size==1)=true
  ·rw[Vl d];have d':y.size=1:=by simpa using d
   refine RH (q _ _ (SI.refl _) ?_);rw[gE];rw[d']at m1 ⊢;exact m1.jB M.sa M.sb (M.fst ⋯)
  ·rw[Vk d];have d':¬y.size=1:=by simpa using d
   refine RD (Vn ?_);refine RD (bR (Q:=λr ao s'=>SI st ao/\s=s'/\∃a,r.1=some a/\rZ O ky x.toList y.toList a.toList) (Vq (cZ (λjj r ao=>SI st ao/\r.1=none/\A9 O ky x y r.2.2.2.1 r.2.1 r.2.2.1/\r.2.1+r.2.2.1+(jj+1)<=x.size+y.size) ⟨SI.refl _,rfl,⟨m1,(show 1<=x.size-1 by lia),(show x.size-1<x.size by lia),(show 2<=y.size by lia),RE _⟩,(show x.size-1+y.size+(0+1)<=x.size+y.size by lia)⟩ (λjj r ao z hj hI=>?_) (λr ao hI=>?_))) (λr ao s' hI=>?_))
   ·obtain⟨si,r0,CC,rn⟩:=hI;refine Cd T M CC rn (si.1.trans hs) si (λr' dR h2 iM=>⟨rfl,?_⟩);cases r' with
    |done b=>exact⟨h2,rfl,iM⟩
    |yield b=>exact⟨h2,iM.1,iM.2.1,iM.2.2⟩
   ·obtain⟨si,r0,CC,rn⟩:=hI;rw[T8]at rn;have h1:=CC.i1;have h2:=CC.j1
    lia
   obtain⟨si,rfl,a,e,m⟩:=hI;rw[e];exact RH (q _ _ si m)
end
noncomputable def Jh:Nat->StateT SortSt Sem Bool:=sortPriv% PySem.Builtin.mergeAt
noncomputable def back(M:Array Keyed)(p:Nat)(a:Array Keyed):Array Keyed:=M.toList.zipIdx.foldl (λb(q,j)=>b.setIfInBounds (p+j) q) a
theorem Fs(i:Nat):Jh i=(do
 let t<-get
 let (some (p,n,pw),some (q,m,_)):=((pendingOf t)[i]?,(pendingOf t)[i+1]?)|unsupported "internal:list.sort.pending"
 set (SortSt.mk' (kindOf t) (arrOf t) (((pendingOf t).setIfInBounds i (p,n+m,pw)).eraseIdxIfInBounds (i+1)) (gallopOf t) (failedOf t))
 let some k<-Dc false (<-elem' (arrOf t) q) (arrOf t) p n 0|return false
 let (p,n):=(p+k,n-k)
 if n==0 then return true
 let some m<-Dc true (<-elem' (arrOf t) (p+n-1)) (arrOf t) q m (m-1)|return false
 if m==0 then return true
 let x:=(arrOf t).extract p q
 let y:=(arrOf t).extract q (q+m)
 let M<-if n<=m then Fv x y else Fu x y
 modify λt=>SortSt.mk' (kindOf t) (back M p (arrOf t)) (pendingOf t) (gallopOf t) (failedOf t)
 return (failedOf (<-get)).isNone):=by kernel_rfl
theorem mY:∀(M:List Keyed)(p c:Nat)(a:Array Keyed),p+c+M.length<=a.size->((M.zipIdx c).foldl (λb(q:Keyed×Nat)=>b.setIfInBounds (p+q.2) q.1) a).toList=a.toList.take (p+c)++M++a.toList.drop (p+c+M.length)
 |[],p,c,a,h=>by simp
 |e::M,p,c,a,h=>by
  rw[UK,List.foldl_cons];simp only[RU]at h;have ih:=mY M p (c+1) (a.setIfInBounds (p+c) e) (by rw[Array.size_setIfInBounds];lia);rw[ih];have hs:(a.setIfInBounds (p+c) e).toList=a.toList.take (p+c)++[e]++a.toList.drop (p+c+1):=by rw[Array.toList_setIfInBounds];rw[UB];rw[Vl (by simp;lia)];simp
  have hl:(a.toList.take (p+c)++[e]).length=p+c+1:=by simp;lia
  rw[hs];have e1:(a.toList.take (p+c)++[e]++a.toList.drop (p+c+1)).take (p+(c+1))=a.toList.take (p+c)++[e]:=by rw[show p+(c+1)=(a.toList.take (p+c)++[e]).length by lia,List.take_left]
  have e2:(a.toList.take (p+c)++[e]++a.toList.drop (p+c+1)).drop (p+(c+1)+M.length)=a.toList.drop (p+c+(e::M).length):=by
   rw[show p+(c+1)+M.length=(a.toList.take (p+c)++[e]).length+M.length by lia,List.drop_append,Tz (Nat.le_add_right _ _),Us,Nat.add_sub_cancel_left,List.drop_drop];congr 1;simp only[RU]
   lia
  rw[e1,e2];simp
section
variable{O:KeyOrd}{ky:Keyed->O.α}{Mem:Keyed->Prop}
variable{prog:Program}{w:World}{A:Around}{E:Value->Shared->Prop}{κ:SortKind}{s:Shared}
theorem zg{t st:SortSt}{Q:PUnit->SortSt->Shared->Prop}(h:Q ⟨⟩ t s):kasC (model prog w) A E (set t:StateT SortSt Sem PUnit) Q st s:=by unfold kasC;rw[StateT.run_set];exact Rw h
theorem er(n1 n2 pw z:Nat):((#[(0,n1,pw),(n1,n2,z)]:Array (Nat×Nat×Nat)).setIfInBounds 0 (0,n1+n2,pw)).eraseIdxIfInBounds (0+1)=#[(0,n1+n2,pw)]:=by simp[Array.eraseIdxIfInBounds]
end
noncomputable def aL(lo n m:Nat):StateT SortSt Sem AscSt:=
 forIn [n:m] ((none,n):AscSt) λ_ r=>do
  let x<-ltAt' (lo+r.2) (lo+r.2-1)
  match x with
  |some c=>if c=true then pure (.done (none,r.2)) else pure (.yield (none,r.2+1))
  |_=>pure (.done (some none,r.2))
noncomputable def t3(lo n m:Nat):StateT SortSt Sem (Option Nat):=do
 reverseSlice' lo (lo+n)
 let r<-aL lo n m
 match r.1 with
 |some v=>pure v
 |none=>pure (some r.2)
noncomputable def dL(lo n m:Nat):StateT SortSt Sem DescSt:=
 forIn [n:m] ((none,n,0):DescSt) λ_ r=>do
  let x<-ltAt' (lo+r.2.1) (lo+r.2.1-1)
  match x with
  |some c=>
   if c=true then
    if r.2.2>0 then do
     reverseSlice' (lo+r.2.1-(r.2.2+1)) (lo+r.2.1)
     pure (.yield (none,r.2.1+1,0))
    else pure (.yield (none,r.2.1+1,0))
   else do
    let y<-ltAt' (lo+r.2.1-1) (lo+r.2.1)
    match y with
    |some d=>if d=true then pure (.done (none,r.2.1,r.2.2)) else pure (.yield (none,r.2.1+1,r.2.2+1))
    |_=>pure (.done (some none,r.2.1,r.2.2))
  |_=>pure (.done (some none,r.2.1,r.2.2))
noncomputable def dP(lo n m:Nat):StateT SortSt Sem (Option Nat):=do
 rule "list.sort.descending-run"
 let r<-dL lo (n+1) m
 match r.1 with
 |some v=>pure v
 |none=>
  if r.2.2>0 then do
   reverseSlice' (lo+r.2.1-(r.2.2+1)) (lo+r.2.1)
   t3 lo r.2.1 m
  else t3 lo r.2.1 m
noncomputable def cR(lo m:Nat):StateT SortSt Sem (Option Nat):=do
 let r<-aL lo 1 m
 match r.1 with
 |some v=>pure v
 |none=>
  if (r.2==m)=true then pure (some r.2)
  else if r.2>1 then do
   let x<-ltAt' lo (lo+r.2-1)
   match x with
   |some c=>if c=true then pure (some r.2) else do
     reverseSlice' lo (lo+r.2)
     dP lo r.2 m
   |_=>pure none
  else dP lo r.2 m
theorem HE(lo m:Nat):countRun' lo m=cR lo m:=by kernel_rfl
noncomputable def pL(lo k:Nat):StateT SortSt Sem (Option Bool×Nat×Nat):=
 forIn [:k] ((none,0,k):Option Bool×Nat×Nat) λ_ r=>
  if r.2.1>=r.2.2 then pure (.done (none,r.2.1,r.2.2)) else do
   let x<-ltAt' (lo+k) (lo+(r.2.1+r.2.2)/2)
   match x with
   |some c=>if c=true then pure (.yield (none,r.2.1,(r.2.1+r.2.2)/2)) else pure (.yield (none,(r.2.1+r.2.2)/2+1,r.2.2))
   |_=>pure (.done (some false,r.2.1,r.2.2))
noncomputable def bS(lo n ok:Nat):StateT SortSt Sem Bool:=do
 let r<-forIn [max ok 1:n] ((none,()):Option Bool×Unit) λk _=>do
  let r<-pL lo k
  match r.1 with
  |some v=>pure (.done (some v,()))
  |none=>do
   moveDown' (lo+k) (lo+r.2.1)
   pure (.yield (none,()))
 match r.1 with
 |some v=>pure v
 |none=>pure true
theorem Hw(lo n ok:Nat):binarySort' lo n ok=bS lo n ok:=by kernel_rfl
section
variable{O:KeyOrd}{ky:Keyed->O.α}{Mem:Keyed->Prop}
variable{prog:Program}{w:World}{A:Around}{E:Value->Shared->Prop}{κ:SortKind}{s:Shared}
theorem dO{β:Type}{a b:Nat}{b0:β}{f:Nat->β->StateT SortSt Sem (ForInStep β)}{Q:β->SortSt->Shared->Prop}(Inv:Nat->β->SortSt->Prop){dz:SortSt}(h0:Inv a b0 dz)
  (step:∀x c st,a<=x->x<b->Inv x c st->kasC (model prog w) A E (f x c) (λr ao s'=>s'=s/\match r with|.done b'=>Q b' ao s|.yield b'=>Inv (x+1) b' ao) st s)
  (fin:∀c st,Inv (max a b) c st->Q c st s):kasC (model prog w) A E (forIn [a:b] b0 f) Q dz s:=by
 have go:∀(n x:Nat)(c:β)(st:SortSt),x+n=max a b->a<=x->Inv x c st->kasC (model prog w) A E (forIn (List.range' x n) c f) Q st s:=by
  intro n
  induction n with
  |zero=>
   intro x c st hx hax hI;have e:x=max a b:=⋯
   subst e;exact kasC_nil (fin c st hI)
  |succ n ih=>
   intro x c st hx hax hI;rw[List.range'_succ];refine kasC_cons (VB (step x c st hax ⋯ hI) (λr s' h'=>?_) λ_ _ e=>e);obtain⟨r,ao⟩:=r;obtain⟨rfl,h'⟩:=h';cases r with
   |done b'=>exact h'
   |yield b'=>exact ih (x+1) b' ao ⋯ ⋯ h'
 exact Vq (go (b-a) a b0 dz ⋯ (RE _) h0)
structure Bs(κ:SortKind)(P:Array (Nat×Nat×Nat))(lo:Nat)(b:Array Keyed)(st:SortSt):Prop where
 k:kindOf st=κ
 f:failedOf st=none
 p:pendingOf st=P
 pm:(arrOf st).toList.Perm b.toList
 lw:∀i,i<lo->kas_item (arrOf st) i=kas_item b i
variable{P:Array (Nat×Nat×Nat)}{lo:Nat}{b:Array Keyed}
theorem Bs.size{st:SortSt}(h:Bs κ P lo b st):(arrOf st).size=b.size:=by have:=h.pm.length_eq;simpa using this
theorem Bs.mem{st:SortSt}(h:Bs κ P lo b st)(hb:∀x∈b.toList,Mem x){i:Nat}(hi:i<b.size):Mem (kas_item (arrOf st) i):=by
 have Hb:i<(arrOf st).size:=by rw[h.size];exact hi
 refine hb _ (h.pm.mem_iff.mp ?_);have e:kas_item (arrOf st) i=(arrOf st)[i]:=by unfold kas_item;simp[Array.getD,Hb]
 rw[e];simp
theorem i6{p q:Array Keyed}{i j:Nat}(h:p[i]?=q[j]?):kas_item p i=kas_item q j:=by unfold kas_item;rw[Sy,Sy,h]
theorem i7{a:Array Keyed}{i j:Nat}(hj:j<=a.size)(k:Nat):kas_item (mirror a i j ((j-i)/2)) k=if i<=k/\k<j then kas_item a (i+j-1-k) else kas_item a k:=by
 have e:=getElem?_mirror_all (i:=i) hj k;by_cases h1:i<=k/\k<j
 ·rw[Vl h1]at e ⊢;exact i6 e
 ·rw[Vk h1]at e ⊢;exact i6 e
theorem lG{a:Array Keyed}{src d:Nat}(hs:src<a.size)(hd:d<=src)(k:Nat):
  kas_item (bubble a src d) k=if k=src-d then kas_item a src else if src-d<k/\k<=src then kas_item a (k-1) else kas_item a k:=by
 have e:=getElem?_bubble hs d hd k;by_cases h1:k=src-d
 ·rw[Vl h1]at e ⊢;exact i6 e
 ·rw[Vk h1]at e ⊢;by_cases h2:src-d<k/\k<=src
  ·rw[Vl h2]at e ⊢;exact i6 e
  ·rw[Vk h2]at e ⊢;exact i6 e
theorem Bs.rev{st:SortSt}(h:Bs κ P lo b st){i j:Nat}(hi:lo<=i)(hj:j<=b.size):Bs κ P lo b (setArr st (mirror (arrOf st) i j ((j-i)/2))):=
 ⟨h.k,h.f,h.p,(Array.perm_iff_toList_perm.mp (mirror_perm _ _ _ _)).trans h.pm,λk hk=>by
  have:=i7 (a:=arrOf st) (i:=i) (j:=j) (by rw[h.size];exact hj) k;rw[Vk ⋯]at this;exact this.trans (h.lw k hk)⟩
theorem Bs.Po{st:SortSt}(h:Bs κ P lo b st){c d:Nat}(hs:c<b.size)(hd:lo+d<=c):Bs κ P lo b (setArr st (bubble (arrOf st) c d)):=
 ⟨h.k,h.f,h.p,(Array.perm_iff_toList_perm.mp (bubble_perm _ _ _)).trans h.pm,λk hk=>by
  have:=lG (a:=arrOf st) (src:=c) (d:=d) (by rw[h.size];exact hs) ⋯ k;rw[Vk ⋯,Vk ⋯]at this;exact this.trans (h.lw k hk)⟩
theorem i9(T:Tells prog w A κ s O ky Mem)(hb:∀x∈b.toList,Mem x){st:SortSt}(h:Bs κ P lo b st){i j:Nat}(hi:i<b.size)(hj:j<b.size){Q:Option Bool->SortSt->Shared->Prop}
  (q:Q (some (O.blt (ky (kas_item (arrOf st) i)) (ky (kas_item (arrOf st) j)))) st s):kasC (model prog w) A E (ltAt' i j) Q st s:=by
 rw[ltAt'_eq];refine RD (Vn ?_);dsimp only;exact RD (aT (aG (by rw[h.size];exact hi)) (RD (aT (aG (by rw[h.size];exact hj)) (qN T (h.mem hb hi) (h.mem hb hj) h.k q))))
noncomputable def Up(O:KeyOrd)(ky:Keyed->O.α)(lo:Nat)(a:Array Keyed)(n:Nat):Prop:=∀i j,lo<=i->i<=j->j<lo+n->O.kle (ky (kas_item a i)) (ky (kas_item a j))
noncomputable def Dn(O:KeyOrd)(ky:Keyed->O.α)(lo:Nat)(a:Array Keyed)(n:Nat):Prop:=∀i j,lo<=i->i<=j->j<lo+n->O.kle (ky (kas_item a j)) (ky (kas_item a i))
noncomputable def Lq(O:KeyOrd)(ky:Keyed->O.α)(lo:Nat)(a:Array Keyed)(n q:Nat):Prop:=∀k,lo+n-(q+1)<=k->k<lo+n->ky (kas_item a k)=ky (kas_item a (lo+n-1))
theorem Up.succ{a:Array Keyed}{n:Nat}(h:Up O ky lo a n)(h1:1<=n)(h2:O.kle (ky (kas_item a (lo+n-1))) (ky (kas_item a (lo+n)))):Up O ky lo a (n+1):=λi j hi gF hj=>by
 by_cases e:j=lo+n
 ·subst e;by_cases e2:i=lo+n
  ·subst e2;exact Ti _
  ·exact R7 (h i (lo+n-1) hi ⋯ ⋯) h2
 ·exact h i j hi gF ⋯
theorem Dn.succ{a:Array Keyed}{n:Nat}(h:Dn O ky lo a n)(h1:1<=n)(h2:O.kle (ky (kas_item a (lo+n))) (ky (kas_item a (lo+n-1)))):Dn O ky lo a (n+1):=λi j hi gF hj=>by
 by_cases e:j=lo+n
 ·subst e;by_cases e2:i=lo+n
  ·subst e2;exact Ti _
  ·exact R7 h2 (h i (lo+n-1) hi ⋯ ⋯)
 ·exact h i j hi gF ⋯
theorem Dn.of{a c:Array Keyed}{n:Nat}(e:∀k,ky (kas_item c k)=ky (kas_item a k))(h:Dn O ky lo a n):Dn O ky lo c n:=λi j x y z=>by rw[e,e];exact h i j x y z
theorem Up.one(a:Array Keyed):Up O ky lo a 1:=λi j x y z=>by rw[show i=j by lia];exact Ti _
theorem Dn.one(a:Array Keyed):Dn O ky lo a 1:=λi j x y z=>by rw[show i=j by lia];exact Ti _
theorem yl{a:Array Keyed}{i j:Nat}(hj:j<=a.size)(he:∀k,i<=k->k<j->ky (kas_item a k)=ky (kas_item a (j-1)))(k:Nat):ky (kas_item (mirror a i j ((j-i)/2)) k)=ky (kas_item a k):=by
 rw[i7 hj];split
 ·rename_i h;rw[he (i+j-1-k) ⋯ ⋯,he k h.1 h.2]
 ·rfl
theorem Ay{a:Array Keyed}{n:Nat}(hn:lo+n<=a.size)(h:Dn O ky lo a n):Up O ky lo (mirror a lo (lo+n) ((lo+n-lo)/2)) n:=λi j hi gF hj=>by rw[i7 hn,i7 hn,Vl ⋯,Vl ⋯];exact h _ _ ⋯ ⋯ ⋯
theorem CZ(T:Tells prog w A κ s O ky Mem)(hb:∀x∈b.toList,Mem x){st:SortSt}(h:Bs κ P lo b st){n m:Nat}(hz:lo+m<=b.size)(h1:1<=n)(hn:n<=m)(hu:Up O ky lo (arrOf st) n){Q:AscSt->SortSt->Shared->Prop}
  (q:∀k,n<=k->k<=m->Up O ky lo (arrOf st) k->(k<m->O.blt (ky (kas_item (arrOf st) (lo+k))) (ky (kas_item (arrOf st) (lo+k-1)))=true)->Q (none,k) st s):kasC (model prog w) A E (aL lo n m) Q st s:=by
 unfold aL;refine dO (λx r ao=>st=ao/\r=(none,x)/\Up O ky lo (arrOf st) x) ⟨rfl,rfl,hu⟩ (λx r ao hx1 zb hI=>?_) (λr ao hI=>?_)
 ·obtain⟨rfl,rfl,hu⟩:=hI;dsimp only;refine RD (i9 T hb h ⋯ ⋯ ?_);dsimp only;cases c:O.blt (ky (kas_item (arrOf st) (lo+x))) (ky (kas_item (arrOf st) (lo+x-1))) with
  |true=>rw[Vl rfl];exact RH ⟨rfl,q x hx1 ⋯ hu λ_=>c⟩
  |false=>rw[Vk (by simp)];exact RH ⟨rfl,rfl,rfl,hu.succ ⋯ c⟩
 ·obtain⟨rfl,rfl,hu⟩:=hI;rw[show max n m=m by lia]at hu ⊢;exact q m hn (RE _) hu λz=>absurd z ⋯
theorem pF{i j:Nat}{st:SortSt}{Q:Unit->SortSt->Shared->Prop}(q:Q () (setArr st (mirror (arrOf st) i j ((j-i)/2))) s):kasC (model prog w) A E (reverseSlice' i j) Q st s:=by rw[reverseSlice'_eq];exact Vp q
theorem HJ(T:Tells prog w A κ s O ky Mem)(hb:∀x∈b.toList,Mem x){st:SortSt}(h:Bs κ P lo b st){n m:Nat}(hz:lo+m<=b.size)(h1:1<=n)(hn:n<=m)(hd:Dn O ky lo (arrOf st) n){Q:DescSt->SortSt->Shared->Prop}
  (q:∀ao k e,Bs κ P lo b ao->n<=k->k<=m->e+1<=k->Dn O ky lo (arrOf ao) k->Lq O ky lo (arrOf ao) k e->Q (none,k,e) ao s):kasC (model prog w) A E (dL lo n m) Q st s:=by
 unfold dL;have one:∀(a:Array Keyed)(k:Nat),1<=k->Lq O ky lo a k 0:=λa k hk j x y=>by rw[show j=lo+k-1 by lia]
 refine dO (λx r ao=>∃e,r=(none,x,e)/\Bs κ P lo b ao/\e+1<=x/\Dn O ky lo (arrOf ao) x/\Lq O ky lo (arrOf ao) x e) ⟨0,rfl,h,by lia,hd,one _ _ h1⟩ (λx r ao hx1 zb hI=>?_) (λr ao hI=>?_)
 ·obtain⟨e,rfl,h,he,hd,hq⟩:=hI;have lC:=h.size;dsimp only;refine RD (i9 T hb h ⋯ ⋯ ?_);dsimp only;cases c:O.blt (ky (kas_item (arrOf ao) (lo+x))) (ky (kas_item (arrOf ao) (lo+x-1))) with
  |true=>
   rw[Vl rfl];have mz:=hd.succ ⋯ (Th c);by_cases d:e>0
   ·rw[Vl d];refine RD (pF (RH ⟨rfl,0,rfl,h.rev ⋯ ⋯,by lia,?_,one _ _ ⋯⟩));exact Dn.of (yl ⋯ hq) mz
   ·rw[Vk d];exact RH ⟨rfl,0,rfl,h,by lia,mz,one _ _ ⋯⟩
  |false=>
   rw[Vk (by simp)];refine RD (i9 T hb h ⋯ ⋯ ?_);dsimp only;cases d:O.blt (ky (kas_item (arrOf ao) (lo+x-1))) (ky (kas_item (arrOf ao) (lo+x))) with
   |true=>rw[Vl rfl];exact RH ⟨rfl,q ao x e h hx1 ⋯ he hd hq⟩
   |false=>
    rw[Vk (by simp)];have heq:ky (kas_item (arrOf ao) (lo+x))=ky (kas_item (arrOf ao) (lo+x-1)):=O.total _ _ c d;refine RH ⟨rfl,e+1,rfl,h,by lia,hd.succ ⋯ (by rw[heq];exact Ti _),λk k1 k2=>?_⟩;rw[show lo+(x+1)-1=lo+x by lia];by_cases z:k=lo+x
    ·rw[z]
    ·rw[hq k ⋯ ⋯,heq]
 ·obtain⟨e,rfl,h,he,hd,hq⟩:=hI;rw[show max n m=m by lia]at hd hq he ⊢;exact q ao m e h hn (RE _) he hd hq
theorem DI(T:Tells prog w A κ s O ky Mem)(hb:∀x∈b.toList,Mem x){st:SortSt}(h:Bs κ P lo b st){n m:Nat}(hz:lo+m<=b.size)(h1:1<=n)(hn:n<=m)(hd:Dn O ky lo (arrOf st) n){Q:Option Nat->SortSt->Shared->Prop}
  (q:∀ao k,Bs κ P lo b ao->1<=k->k<=m->Up O ky lo (arrOf ao) k->Q (some k) ao s):kasC (model prog w) A E (t3 lo n m) Q st s:=by
 unfold t3;have lC:=h.size;refine RD (pF (RD (CZ T hb (h.rev (RE _) ⋯) hz h1 hn (Ay ⋯ hd) λk k1 k2 ku _=>?_)));exact RH (q _ k (h.rev (RE _) ⋯) ⋯ k2 ku)
theorem C8(T:Tells prog w A κ s O ky Mem)(hb:∀x∈b.toList,Mem x){st:SortSt}(h:Bs κ P lo b st){n m:Nat}(hz:lo+m<=b.size)(h1:1<=n)(hn:n+1<=m)(hd:Dn O ky lo (arrOf st) (n+1)){Q:Option Nat->SortSt->Shared->Prop}
  (q:∀ao k,Bs κ P lo b ao->1<=k->k<=m->Up O ky lo (arrOf ao) k->Q (some k) ao s):kasC (model prog w) A E (dP lo n m) Q st s:=by
 unfold dP;refine RD (Vo (VH ?_));refine RD (HJ T hb h hz ⋯ hn hd λao k e h' k1 k2 ke kd kq=>?_);dsimp only;have lC:=h'.size;by_cases d:e>0
 ·rw[Vl d];exact RD (pF (DI T hb (h'.rev ⋯ ⋯) hz ⋯ k2 (Dn.of (yl ⋯ kq) kd) q))
 ·rw[Vk d];exact DI T hb h' hz ⋯ k2 kd q
theorem HF(T:Tells prog w A κ s O ky Mem)(hb:∀x∈b.toList,Mem x){st:SortSt}(h:Bs κ P lo b st){m:Nat}(hz:lo+m<=b.size)(h1:1<=m){Q:Option Nat->SortSt->Shared->Prop}
  (q:∀ao k,Bs κ P lo b ao->1<=k->k<=m->Up O ky lo (arrOf ao) k->Q (some k) ao s):kasC (model prog w) A E (countRun' lo m) Q st s:=by
 rw[HE];unfold cR;have lC:=h.size;refine RD (CZ T hb h hz (RE _) h1 (Up.one _) λn n1 n2 nu nl=>?_);dsimp only;by_cases e:(n==m)=true
 ·rw[Vl e];exact RH (q _ n h n1 n2 nu)
 ·rw[Vk e];have e':n≠m:=by simpa using e
  have cO:=nl ⋯;by_cases hn:n>1
  ·rw[Vl hn];refine RD (i9 T hb h ⋯ ⋯ ?_);dsimp only;cases c:O.blt (ky (kas_item (arrOf st) lo)) (ky (kas_item (arrOf st) (lo+n-1))) with
   |true=>rw[Vl rfl];exact RH (q _ n h n1 n2 nu)
   |false=>
    rw[Vk (by simp)];have all:∀k,lo<=k->k<lo+n->ky (kas_item (arrOf st) k)=ky (kas_item (arrOf st) (lo+n-1)):=λk k1 k2=>by refine KeyOrd.kle_antisymm (nu k (lo+n-1) k1 ⋯ ⋯) (R7 (show O.kle (ky (kas_item (arrOf st) (lo+n-1))) (ky (kas_item (arrOf st) lo)) from c) (nu lo k (RE _) k1 k2))
    refine RD (pF (C8 T hb (h.rev (RE _) ⋯) hz n1 ⋯ (Dn.of (yl ⋯ all) (Dn.succ (λi j hi gF hj=>?_) n1 (Th cO))) q));rw[all i hi ⋯,all j ⋯ hj];exact Ti _
  ·rw[Vk hn];have e1:n=1:=⋯
   subst e1;exact C8 T hb h hz n1 ⋯ (Dn.succ (Dn.one _) n1 (Th cO)) q
theorem Jx(T:Tells prog w A κ s O ky Mem)(hb:∀x∈b.toList,Mem x){st:SortSt}(h:Bs κ P lo b st){k:Nat}(hz:lo+k<b.size)(hu:Up O ky lo (arrOf st) k){Q:Option Bool×Nat×Nat->SortSt->Shared->Prop}
  (q:∀l r,l<=k->(∀i,lo<=i->i<lo+l->O.kle (ky (kas_item (arrOf st) i)) (ky (kas_item (arrOf st) (lo+k))))->(∀i,lo+l<=i->i<lo+k->O.klt (ky (kas_item (arrOf st) (lo+k))) (ky (kas_item (arrOf st) i)))->Q (none,l,r) st s):kasC (model prog w) A E (pL lo k) Q st s:=by
 unfold pL;refine dO (λx c ao=>st=ao/\∃l r,c=(none,l,r)/\l<=r/\r<=k/\r-l<=k-x/\(∀i,lo<=i->i<lo+l->O.kle (ky (kas_item (arrOf st) i)) (ky (kas_item (arrOf st) (lo+k))))/\(∀i,lo+r<=i->i<lo+k->O.klt (ky (kas_item (arrOf st) (lo+k))) (ky (kas_item (arrOf st) i))))
  ⟨rfl,0,k,rfl,by lia,by lia,by lia,λi a c=>absurd a ⋯,λi a c=>absurd a ⋯⟩ (λx r ao hx1 zb hI=>?_) (λr ao hI=>?_)
 ·obtain⟨rfl,l,r,rfl,lr,rk,rl,o6,AW⟩:=hI;dsimp only;by_cases c:l>=r
  ·rw[Vl c];have e:l=r:=⋯
   subst e;exact RH ⟨rfl,q l l rk o6 AW⟩
  ·rw[Vk c];refine RD (i9 T hb h ⋯ ⋯ ?_);dsimp only;cases d:O.blt (ky (kas_item (arrOf st) (lo+k))) (ky (kas_item (arrOf st) (lo+(l+r)/2))) with
   |true=>rw[Vl rfl];exact RH ⟨rfl,rfl,l,(l+r)/2,rfl,by lia,by lia,by lia,o6,λi i1 i2=>Tn d (hu _ _ ⋯ i1 i2)⟩
   |false=>rw[Vk (by simp)];exact RH ⟨rfl,rfl,(l+r)/2+1,r,rfl,by lia,by lia,by lia,λi i1 i2=>R7 (hu i (lo+(l+r)/2) i1 ⋯ ⋯) d,AW⟩
 ·obtain⟨rfl,l,r,rfl,lr,rk,rl,o6,AW⟩:=hI;have e:l=r:=⋯
  subst e;exact q l l rk o6 AW
theorem Hx(T:Tells prog w A κ s O ky Mem)(hb:∀x∈b.toList,Mem x){st:SortSt}(h:Bs κ P lo b st){n k:Nat}(hz:lo+n<=b.size)(h1:1<=k)(hk:k<=n)(hu:Up O ky lo (arrOf st) k){Q:Bool->SortSt->Shared->Prop}
  (q:∀ao,Bs κ P lo b ao->Up O ky lo (arrOf ao) n->Q true ao s):kasC (model prog w) A E (binarySort' lo n k) Q st s:=by
 rw[Hw];unfold bS;refine RD (dO (λx c ao=>c=(none,())/\Bs κ P lo b ao/\Up O ky lo (arrOf ao) x) ⟨rfl,h,by rw[show max k 1=k by lia];exact hu⟩ (λx r ao hx1 zb hI=>?_) (λr ao hI=>?_))
 ·obtain⟨rfl,h,hu⟩:=hI;have lC:=h.size;refine RD (Jx T hb h ⋯ hu λl r hl o6 AW=>?_);dsimp only;rw[moveDown'_eq];refine RD (Vp (RH ⟨rfl,rfl,h.Po ⋯ ⋯,λi j hi gF hj=>?_⟩));show O.kle (ky (kas_item (bubble (arrOf ao) (lo+x) (lo+x-(lo+l))) i)) (ky (kas_item (bubble (arrOf ao) (lo+x) (lo+x-(lo+l))) j));rw[lG ⋯ ⋯,lG ⋯ ⋯,show lo+x-(lo+x-(lo+l))=lo+l by lia]
  repeat' split
  all_goals first
   |(exfalso;lia)
   |exact Ti _
   |exact o6 _ ⋯ ⋯
   |exact Th (AW _ ⋯ ⋯)
   |exact hu _ _ ⋯ ⋯ ⋯
 ·obtain⟨rfl,h,hu⟩:=hI;rw[show max (max k 1) n=n by lia]at hu;exact RH (q _ h hu)
end
noncomputable def Nk(size pw:Nat):StateT SortSt Sem (Option Unit×Unit):=
 forIn [:size] ((none,()):Option Unit×Unit) λ_ _=>do
  let st<-get
  match (if (pendingOf st).size>1 then(pendingOf st)[(pendingOf st).size-2]? else none) with
  |some (_,_,older)=>
   if older<=pw then pure (.done (none,())) else do
    let ok<-Jh ((pendingOf st).size-2)
    if (!ok)=true then pure (.done (some (),())) else pure (.yield (none,()))
  |_=>pure (.done (none,()))
noncomputable def KD(size lo n:Nat):StateT SortSt Sem (ForInStep (Option Unit×Nat)):=do
 let st<-get
 match (pendingOf st).back? with
 |some (s1,n1,_)=>do
  let r<-Nk size (power' size (2*s1+n1) (2*s1+n1+n1+n) size)
  match r.1 with
  |some v=>pure (.done (some v,lo))
  |none=>do
   modify λs=>setPending s ((pendingOf s).modify ((pendingOf s).size-1) λ(st,len,_)=>(st,len,power' size (2*s1+n1) (2*s1+n1+n1+n) size))
   modify λs=>setPending s ((pendingOf s).push (lo,n,0))
   pure (.yield (none,lo+n))
 |_=>do
  modify λs=>setPending s ((pendingOf s).push (lo,n,0))
  pure (.yield (none,lo+n))
noncomputable def Ka(size mr lo:Nat):StateT SortSt Sem (ForInStep (Option Unit×Nat)):=
 if lo>=size then pure (.done (none,lo)) else do
  let f<-countRun' lo (size-lo)
  match f with
  |some n=>
   if n<mr then do
    rule "list.sort.binary-insertion"
    let ok<-binarySort' lo (min (size-lo) mr) n
    if (!ok)=true then pure (.done (some (),lo)) else KD size lo (min (size-lo) mr)
   else KD size lo n
  |_=>pure (.done (some (),lo))
noncomputable def ix(p:Array (Nat×Nat×Nat)):Nat:=if (if p.size-2>0 then p[p.size-2-1]?.map (·.2.1) else none).any (· < (p[p.size-2+1]?.elim 0 (·.2.1))) then p.size-2-1 else p.size-2
noncomputable def K5(size:Nat):StateT SortSt Sem (Option Unit×Unit):=
 forIn [:size] ((none,()):Option Unit×Unit) λ_ _=>do
  let st<-get
  if (pendingOf st).size<=1 then pure (.done (none,())) else do
   let ok<-Jh (ix (pendingOf st))
   if (!ok)=true then pure (.done (some (),())) else pure (.yield (none,()))
noncomputable def sR:StateT SortSt Sem Unit:=do
 let st<-get
 let r<-forIn [:(arrOf st).size] ((none,0):Option Unit×Nat) λ_ r=>Ka (arrOf st).size (minRun' (arrOf st).size (arrOf st).size 0) r.2
 match r.1 with
 |some v=>pure v
 |none=>do
  let r<-K5 (arrOf st).size
  match r.1 with
  |some v=>pure v
  |none=>pure ()
theorem JM:sortRuns'=sR:=by kernel_rfl
section
variable{O:KeyOrd}{ky:Keyed->O.α}{Mem:Keyed->Prop}
variable{prog:Program}{w:World}{A:Around}{E:Value->Shared->Prop}{κ:SortKind}{s:Shared}{a:Array Keyed}
theorem Up.J9{b:Array Keyed}{n:Nat}(hn:b.size=n)(h:Up O ky 0 b n):iQ O ky b.toList:=by
 refine Ux.mpr λi j hi hj gF=>?_
 have e:∀k,(h:k<b.size)->kas_item b k=b.toList[k]'(by simpa using h):=λk h=>by unfold kas_item;simp[Array.getD,h]
 have wx:j<b.size:=by simpa using hj
 rw[<-e i ⋯,<-e j wx];exact h i j ⋯ ⋯ ⋯
end
section
variable{O:KeyOrd}{ky:Keyed->O.α}{Mem:Keyed->Prop}
variable{prog:Program}{w:World}{A:Around}{E:Value->Shared->Prop}{κ:SortKind}{s:Shared}
theorem item_list(b:Array Keyed)(t:Nat):kas_item b t=b.toList.getD t (Value.none,Value.none):=by unfold kas_item;simp[Array.getD,List.getD];split<;>simp_all
theorem Gy{l:List Keyed}(h:iQ O ky l){i j:Nat}(gF:i<=j)(hj:j<l.length):le O ky (l.getD i (Value.none,Value.none)) (l.getD j (Value.none,Value.none)):=by
 rcases Nat.lt_or_ge i j with c|c
 ·have:=Ux.mp h i j ⋯ hj c;rw[TU,TU,R4 hj,R4 ⋯];exact this
 ·have e:i=j:=⋯
  subst e;exact Ti _
theorem yE{l m:List Keyed}{d:Keyed}{i:Nat}(h:i<l.length):(l++m).getD i d=l.getD i d:=by rw[TU,TU,Sn h]
theorem yF{l m:List Keyed}{d:Keyed}{i:Nat}(h:l.length<=i):(l++m).getD i d=m.getD (i-l.length) d:=by rw[TU,TU,So h]
theorem M5(T:Tells prog w A κ s O ky Mem){a:Array Keyed}{P:Array (Nat×Nat×Nat)}{i p n1 n2 pw z g:Nat}(P0:P[i]?=some (p,n1,pw))(Mk:P[i+1]?=some (p+n1,n2,z))(lC:p+n1+n2<=a.size)(h1:1<=n1)(h2:1<=n2)(hm:∀i,i<a.size->Mem (kas_item a i))
  (sA:∀i j,p<=i->i<=j->j<p+n1->le O ky (kas_item a i) (kas_item a j)) (sB:∀i j,p+n1<=i->i<=j->j<p+n1+n2->le O ky (kas_item a i) (kas_item a j))
  {Q:Bool->SortSt->Shared->Prop} (q:∀ao:SortSt,kindOf ao=κ->pendingOf ao=(P.setIfInBounds i (p,n1+n2,pw)).eraseIdxIfInBounds (i+1)->failedOf ao=none->(arrOf ao).toList.Perm a.toList->Up O ky p (arrOf ao) (n1+n2)->
   (∀t,t<p\/p+n1+n2<=t->kas_item (arrOf ao) t=kas_item a t)->Q true ao s):
  kasC (model prog w) A E (Jh i) Q (SortSt.mk' κ a P g none) s:=by
 rw[Fs];refine RD (Vn ?_);dsimp only;have e0:(pendingOf (SortSt.mk' κ a P g none))[i]?=some (p,n1,pw):=P0;have e1:(pendingOf (SortSt.mk' κ a P g none))[i+1]?=some (p+n1,n2,z):=Mk;rw[e0,e1];dsimp only;refine RD (zg ?_);refine RD (aT (aG (x:=a) (show p+n1<a.size by lia)) (RD ?_));refine jC T (λt=>kas_item a (p+t)) (λt ht=>aG (x:=a) ⋯) (λt ht=>hm _ ⋯) (hm (p+n1) ⋯) ⋯ (λi j gF hj hb=>?_) rfl (λk hk1 cO mB=>?_)
 ·unfold dX at hb ⊢;rw[Vk (by simp)]at hb ⊢;have:=sA (p+i) (p+j) ⋯ ⋯ ⋯;cases zz:O.blt (ky (kas_item a (p+n1))) (ky (kas_item a (p+i))) with
  |false=>rfl
  |true=>have z2:O.blt (ky (kas_item a (p+n1))) (ky (kas_item a (p+j)))=true:=Tn zz this;have jW:(!O.blt (ky (kas_item a (p+n1))) (ky (kas_item a (p+j))))=true:=hb;rw[z2]at jW;cases jW
 have lo:∀t,p<=t->t<p+k->le O ky (kas_item a t) (kas_item a (p+n1)):=λt h0 ht=>by have zz:=cO (t-p) ⋯;unfold dX at zz;rw[Vk (by simp)]at zz;have z2:(!O.blt (ky (kas_item a (p+n1))) (ky (kas_item a (p+(t-p)))))=true:=zz;rw[show p+(t-p)=t by lia]at z2;show O.blt (ky (kas_item a (p+n1))) (ky (kas_item a t))=false;simpa using z2
 have up:∀t,p+k<=t->t<p+n1->O.blt (ky (kas_item a (p+n1))) (ky (kas_item a t))=true:=λt h1 h2=>by have zz:=mB (t-p) ⋯ ⋯;unfold dX at zz;rw[Vk (by simp)]at zz;have z2:(!O.blt (ky (kas_item a (p+n1))) (ky (kas_item a (p+(t-p)))))=false:=zz;rw[show p+(t-p)=t by lia]at z2;simpa using z2
 have Ak:∀b:Array Keyed,(∀i j,i<j->j<b.size->le O ky (kas_item b i) (kas_item b j))->iQ O ky b.toList:=λb hb=>by
  refine Ux.mpr λi j hi hj gF=>?_
  have e:∀k,(h:k<b.size)->kas_item b k=b.toList[k]'(by simpa using h):=λk h=>by unfold kas_item;simp[Array.getD,h]
  rw[<-e i (by simpa using hi),<-e j (by simpa using hj)];exact hb i j gF (by simpa using hj)
 dsimp only;by_cases c:(n1-k==0)=true
 ·rw[Vl c];have c':n1-k=0:=by simpa using c
  refine RH (q _ rfl rfl rfl (Tp _) (λi j hi gF hj=>?_) λt _=>rfl);by_cases ci:j<p+n1
  ·exact sA i j hi gF ci
  ·by_cases cj:i<p+n1
   ·exact R7 (lo i hi ⋯) (sB (p+n1) j (RE _) ⋯ ⋯)
   ·exact sB i j ⋯ ⋯ ⋯
 ·rw[Vk c];have c':¬n1-k=0:=by simpa using c
  refine RD (aT (aG (x:=a) (show p+k+(n1-k)-1<a.size by lia)) (RD ?_));have el:p+k+(n1-k)-1=p+n1-1:=⋯
  refine jC T (λt=>kas_item a (p+n1+t)) (λt ht=>aG (x:=a) ⋯) (λt ht=>hm _ ⋯) (hm _ ⋯) ⋯ (λi j gF hj hb=>?_) rfl (λm hm1 hmlt hmge=>?_)
  ·unfold dX at hb ⊢;rw[Vl rfl]at hb ⊢;exact Tj (sB (p+n1+i) (p+n1+j) ⋯ ⋯ ⋯) hb
  have Pl:∀t,p+n1<=t->t<p+n1+m->O.blt (ky (kas_item a t)) (ky (kas_item a (p+n1-1)))=true:=λt h1 h2=>by have zz:=hmlt (t-(p+n1)) ⋯;unfold dX at zz;rw[Vl rfl,el]at zz;have z2:O.blt (ky (kas_item a (p+n1+(t-(p+n1))))) (ky (kas_item a (p+n1-1)))=true:=zz;rw[show p+n1+(t-(p+n1))=t by lia]at z2;exact z2
  have Ob:∀t,p+n1+m<=t->t<p+n1+n2->le O ky (kas_item a (p+n1-1)) (kas_item a t):=λt h1 h2=>by have zz:=hmge (t-(p+n1)) ⋯ ⋯;unfold dX at zz;rw[Vl rfl,el]at zz;have z2:O.blt (ky (kas_item a (p+n1+(t-(p+n1))))) (ky (kas_item a (p+n1-1)))=false:=zz;rw[show p+n1+(t-(p+n1))=t by lia]at z2;exact z2
  have m0:m≠0:=λe=>by have z1:=Ob (p+n1) ⋯ ⋯;have z2:=up (p+n1-1) ⋯ ⋯;exact KeyOrd.not_klt_of_kle z1 z2
  dsimp only;rw[Vk (by simpa using m0)];have gx:∀t,t<n1-k->kas_item (a.extract (p+k) (p+n1)) t=kas_item a (p+k+t):=λt ht=>by unfold kas_item;simp[Array.getD,show t<p+n1-(p+k) by lia,show p+k+t<a.size by lia,show min (p+n1) a.size=p+n1 by lia]
  have gy:∀t,t<m->kas_item (a.extract (p+n1) (p+n1+m)) t=kas_item a (p+n1+t):=λt ht=>by unfold kas_item;simp[Array.getD,show p+n1+t<a.size by lia,show min (p+n1+m) a.size=p+n1+m by lia,ht]
  have sx:(a.extract (p+k) (p+n1)).size=n1-k:=by simp;lia
  have sy:(a.extract (p+n1) (p+n1+m)).size=m:=by simp;lia
  have MM:MP O ky Mem (a.extract (p+k) (p+n1)) (a.extract (p+n1) (p+n1+m)):=by
   refine⟨Ak _ λi j gF hj=>?_,Ak _ λi j gF hj=>?_,λi hi=>?_,λi hi=>?_,by lia,by lia,?_,λj hj=>?_⟩
   ·rw[gx i ⋯,gx j ⋯];exact sA _ _ ⋯ ⋯ ⋯
   ·rw[gy i ⋯,gy j ⋯];exact sB _ _ ⋯ ⋯ ⋯
   ·rw[gx i ⋯];exact hm _ ⋯
   ·rw[gy i ⋯];exact hm _ ⋯
   ·rw[gx 0 ⋯,gy 0 ⋯];exact up (p+k) (RE _) ⋯
   ·rw[sx,gx (n1-k-1) ⋯,gy j ⋯,show p+k+(n1-k-1)=p+n1-1 by lia];exact Pl _ ⋯ ⋯
  have lx:(a.extract (p+k) (p+n1)).toList=(a.toList.drop (p+k)).take (n1-k):=by have:=uF a (k:=p+k) (i:=p+n1);rw[show p+n1-(p+k)=n1-k by lia]at this;exact this
  have ly:(a.extract (p+n1) (p+n1+m)).toList=(a.toList.drop (p+n1)).take m:=k9 a (p+n1) m;have fin:∀(v:Array Keyed)(ao:SortSt),kindOf ao=κ->arrOf ao=a->pendingOf ao=(P.setIfInBounds i (p,n1+n2,pw)).eraseIdxIfInBounds (i+1)->failedOf ao=none->rZ O ky (a.extract (p+k) (p+n1)).toList (a.extract (p+n1) (p+n1+m)).toList v.toList->
    kasC (model prog w) A E (do
     modify λt=>SortSt.mk' (kindOf t) (back v (p+k) (arrOf t)) (pendingOf t) (gallopOf t) (failedOf t)
     let t<-get
     pure (failedOf t).isNone) Q ao s:=λv ao k1 k2 k3 k4 hv=>by
   refine RD (Vp (RD (Vn (RH ?_))));obtain⟨vp,vs⟩:=hv;have vl:v.toList.length=n1-k+m:=by
    rw[vp.length_eq,RQ];simp only[RY]
    lia
   have bl:(back v (p+k) a).toList=a.toList.take (p+k)++v.toList++a.toList.drop (p+n1+m):=by
    have:=mY v.toList (p+k) 0 a ⋯;unfold back;refine Eq.trans ?_ (this.trans ?_)
    ·rfl
    ·rw[Nat.add_zero,vl,show p+k+(n1-k+m)=p+n1+m by lia]
   have al:a.toList.length=a.size:=RY;have QV:a.toList=a.toList.take (p+k)++((a.toList.drop (p+k)).take (n1-k)++(a.toList.drop (p+n1)).take m)++a.toList.drop (p+n1+m):=by have b1:=kU (l:=a.toList) (i:=p+n1) (k:=p+k) ⋯;rw[show p+n1-(p+k)=n1-k by lia]at b1;rw[RN,RN,<-cQ (l:=a.toList) (i:=p+n1) (k:=m),<-b1,UE]
   have pm:(back v (p+k) a).toList.Perm a.toList:=by
    rw[bl]
    conv=>rhs;rw[QV]
    rw[lx,ly]at vp;exact((Tp _).append vp).append (Tp _)
   have M6:∀e∈v.toList,(∃t,p+k<=t/\t<p+n1/\e=kas_item a t)\/(∃t,p+n1<=t/\t<p+n1+m/\e=kas_item a t):=λe he=>by
    rw[lx,ly]at vp;rcases R0.mp (vp.mem_iff.mp he)with he|he
    ·obtain⟨t,t1,t2,t3,rfl⟩:=a6 he;exact .inl ⟨t,t1,by lia,rfl⟩
    ·obtain⟨t,t1,t2,t3,rfl⟩:=a6 he;exact .inr ⟨t,t1,by lia,rfl⟩
   have G0:∀t,t<p+k->kas_item (back v (p+k) a) t=kas_item a t:=λt ht=>by rw[item_list,item_list,bl,RN,yE (by rw[Uc];lia)];rw[TU,TU,TZ ht]
   have at2:∀t,p+k<=t->t<p+n1+m->kas_item (back v (p+k) a) t=v.toList.getD (t-(p+k)) (Value.none,Value.none):=λt h1 h2=>by
    have hl:(a.toList.take (p+k)).length=p+k:=by rw[Uc];lia
    rw[item_list,bl,RN,yF ⋯,hl,yE ⋯]
   have LD:∀t,p+n1+m<=t->kas_item (back v (p+k) a) t=kas_item a t:=λt h1=>by
    have hl:(a.toList.take (p+k)++v.toList).length=p+n1+m:=by rw[RQ,Uc];lia
    rw[item_list,item_list,bl,yF ⋯,hl];rw[TU,TU,List.getElem?_drop];congr 2
    lia
   have wJ:∀t,p+k<=t->t<p+n1+m->(∃u,p+k<=u/\u<p+n1/\kas_item (back v (p+k) a) t=kas_item a u)\/(∃u,p+n1<=u/\u<p+n1+m/\kas_item (back v (p+k) a) t=kas_item a u):=λt h1 h2=>by rw[at2 t h1 h2];refine M6 _ ?_;rw[TU,R4 ⋯];exact T2 _
   have ss:Up O ky p (back v (p+k) a) (n1+n2):=λi j hi gF hj=>by
    show le O ky (kas_item (back v (p+k) a) i) (kas_item (back v (p+k) a) j);by_cases c1:j<p+k
    ·rw[G0 i ⋯,G0 j c1];exact sA i j hi gF ⋯
    by_cases c2:j<p+n1+m
    ·by_cases c3:i<p+k
     ·rw[G0 i c3];rcases wJ j ⋯ c2 with ⟨u,u1,u2,e⟩|⟨u,u1,u2,e⟩
      ·rw[e];exact sA i u hi ⋯ u2
      ·rw[e];exact R7 (lo i hi c3) (sB (p+n1) u (RE _) u1 ⋯)
     ·rw[at2 i ⋯ ⋯,at2 j ⋯ c2];exact Gy vs ⋯ ⋯
    ·rw[LD j ⋯];by_cases c3:i<p+k
     ·rw[G0 i c3];exact R7 (lo i hi c3) (sB (p+n1) j (RE _) ⋯ ⋯)
     by_cases c4:i<p+n1+m
     ·rcases wJ i ⋯ c4 with ⟨u,u1,u2,e⟩|⟨u,u1,u2,e⟩
      ·rw[e];exact R7 (sA u (p+n1-1) ⋯ ⋯ ⋯) (Ob j ⋯ ⋯)
      ·rw[e];exact sB u j u1 ⋯ ⋯
     ·rw[LD i ⋯];exact sB i j ⋯ gF ⋯
   have qq:=q (SortSt.mk' (kindOf ao) (back v (p+k) (arrOf ao)) (pendingOf ao) (gallopOf ao) (failedOf ao)) k1 k3 k4 (by rw[k2];exact pm) (by rw[k2];exact ss) (λt ht=>by
    show kas_item (back v (p+k) (arrOf ao)) t=_;rw[k2];rcases ht with ht|ht
    ·exact G0 t ⋯
    ·exact LD t ⋯)
   have e:(failedOf ao).isNone=true:=by rw[k4];rfl
   show Q (failedOf ao).isNone _ s;rw[e];exact qq
  by_cases d:n1-k<=m
  ·rw[Vl d];refine RD (B2 T MM rfl λv ao si hv=>?_);exact fin v ao si.1 si.2.1 si.2.2.1 si.2.2.2 hv
  ·rw[Vk d];refine RD (BZ T MM rfl λv ao si hv=>?_);exact fin v ao si.1 si.2.1 si.2.2.1 si.2.2.2 hv
end
section
variable{O:KeyOrd}{ky:Keyed->O.α}{Mem:Keyed->Prop}
variable{prog:Program}{w:World}{A:Around}{E:Value->Shared->Prop}{κ:SortKind}{s:Shared}{a:Array Keyed}
noncomputable def Rn(O:KeyOrd)(ky:Keyed->O.α)(b:Array Keyed):List (Nat×Nat×Nat)->Nat->Nat->Prop
 |[],lo,hi=>lo=hi
 |x::r,lo,hi=>x.1=lo/\1<=x.2.1/\Up O ky lo b x.2.1/\Rn O ky b r (lo+x.2.1) hi
theorem Rn.le{b:Array Keyed}:∀{l:List (Nat×Nat×Nat)}{lo hi:Nat},Rn O ky b l lo hi->lo+l.length<=hi
 |[],lo,hi,h=>by have h:lo=hi:=h;simp;lia
 |x::r,lo,hi,h=>by
  obtain⟨_,h2,_,h4⟩:=h;have:=Rn.le h4;simp only[RU]
  lia
theorem Rn.app{b:Array Keyed}:∀{l m:List (Nat×Nat×Nat)}{lo hi:Nat},Rn O ky b (l++m) lo hi↔∃k,Rn O ky b l lo k/\Rn O ky b m k hi
 |[],m,lo,hi=>⟨λh=>⟨lo,rfl,h⟩,λ⟨k,h1,h2⟩=>by have h1:lo=k:=h1;subst h1;exact h2⟩
 |x::r,m,lo,hi=>by
  constructor
  ·rintro⟨h1,h2,h3,h4⟩;obtain⟨k,k1,k2⟩:=Rn.app.mp h4;exact⟨k,⟨h1,h2,h3,k1⟩,k2⟩
  ·rintro⟨k,⟨h1,h2,h3,h4⟩,k2⟩;exact⟨h1,h2,h3,Rn.app.mpr ⟨k,h4,k2⟩⟩
theorem Rn.congr{b c:Array Keyed}:∀{l:List (Nat×Nat×Nat)}{lo hi:Nat},Rn O ky b l lo hi->(∀t,lo<=t->t<hi->kas_item c t=kas_item b t)->Rn O ky c l lo hi
 |[],lo,hi,h,_=>h
 |x::r,lo,hi,⟨h1,h2,h3,h4⟩,e=>by have hl:=Rn.le h4;refine⟨h1,h2,λi j hi gF hj=>?_,Rn.congr h4 λt a b=>e t ⋯ b⟩;rw[e i ⋯ ⋯,e j ⋯ ⋯];exact h3 i j hi gF hj
structure Ru(O:KeyOrd)(ky:Keyed->O.α)(κ:SortKind)(a:Array Keyed)(lo:Nat)(st:SortSt):Prop where
 k:kindOf st=κ
 f:failedOf st=none
 pm:(arrOf st).toList.Perm a.toList
 rn:Rn O ky (arrOf st) (pendingOf st).toList 0 lo
theorem Ru.size{lo:Nat}{st:SortSt}(h:Ru O ky κ a lo st):(arrOf st).size=a.size:=by have:=h.pm.length_eq;simpa using this
theorem Ru.mem{lo:Nat}{st:SortSt}(h:Ru O ky κ a lo st)(hb:∀x∈a.toList,Mem x){i:Nat}(hi:i<(arrOf st).size):Mem (kas_item (arrOf st) i):=by refine hb _ (h.pm.mem_iff.mp ?_);unfold kas_item;simp[Array.getD,hi]
theorem Gv{α:Type}{l:List α}{i:Nat}(h:i+1<l.length):∃l1 x y l2,l=l1++x::y::l2/\l1.length=i:=by refine⟨l.take i,l[i],l[i+1],l.drop (i+2),?_,by rw[Uc];lia⟩;rw[<-Tx h,<-Tx ⋯,UE]
theorem sJ{P:Array (Nat×Nat×Nat)}{l1 l2:List (Nat×Nat×Nat)}{x y v:Nat×Nat×Nat}{i:Nat}(h:P.toList=l1++x::y::l2)(hi:l1.length=i):((P.setIfInBounds i v).eraseIdxIfInBounds (i+1)).toList=l1++v::l2:=by
 have lC:P.size=l1.length+(l2.length+2):=by
  have:=Vh List.length h;simp at this
  lia
 have e1:(P.setIfInBounds i v).toList=l1++v::y::l2:=by rw[Array.toList_setIfInBounds,h,<-hi,List.set_append_right _ _ (RE _)];simp
 unfold Array.eraseIdxIfInBounds;rw[dif_pos (by rw[Array.size_setIfInBounds];lia),Array.toList_eraseIdx,e1,<-hi];rw[List.eraseIdx_append_of_length_le ⋯];simp
theorem rf(T:Tells prog w A κ s O ky Mem)(hb:∀x∈a.toList,Mem x){lo i:Nat}{st:SortSt}(h:Ru O ky κ a lo st)(o6:lo<=a.size)(hi:i+1<(pendingOf st).size){Q:Bool->SortSt->Shared->Prop}
  (q:∀ao,Ru O ky κ a lo ao->(pendingOf ao).size+1=(pendingOf st).size->(∀t,lo<=t->kas_item (arrOf ao) t=kas_item (arrOf st) t)->Q true ao s):kasC (model prog w) A E (Jh i) Q st s:=by
 obtain⟨l1,x,y,l2,hl,hlen⟩:=Gv (l:=(pendingOf st).toList) (i:=i) (by simpa using hi);have lC:=h.size;have rn:=h.rn;rw[hl]at rn;obtain⟨p,r1,r2⟩:=Rn.app.mp rn;obtain⟨xp,xn,xw⟩:=x;obtain⟨yp,yn,yw⟩:=y;obtain⟨e1,x1,x2,e2,y1,y2,r3⟩:=r2;have e1:xp=p:=e1;have e2:yp=p+xn:=e2;subst e1 e2;have h3:=r3.le;simp only at x1 x2 y1 y2 r3 h3;have eP:∀j,(pendingOf st)[j]?=(l1++(xp,xn,xw)::(xp+xn,yn,yw)::l2)[j]?:=λj=>by rw[<-hl,Array.getElem?_toList]
 have g1:(pendingOf st)[i]?=some (xp,xn,xw):=by rw[eP,So ⋯,show i-l1.length=0 by lia];rfl
 have g2:(pendingOf st)[i+1]?=some (xp+xn,yn,yw):=by rw[eP,So ⋯,show i+1-l1.length=1 by lia];rfl
 have KM:st=SortSt.mk' κ (arrOf st) (pendingOf st) (gallopOf st) none:=by have e:st=SortSt.mk' (kindOf st) (arrOf st) (pendingOf st) (gallopOf st) (failedOf st):=rfl;rw[h.k,h.f]at e;exact e
 have z:=M5 (E:=E) T (a:=arrOf st) (P:=pendingOf st) (g:=gallopOf st) g1 g2 ⋯ x1 y1 (λi hi=>h.mem hb hi) (λi j a b c=>x2 i j a b c) (λi j a b c=>y2 i j a b c) (Q:=Q) λao k1 k2 k3 k4 k5 k6=>?_
 ·rw[<-KM]at z;exact z
 ·have ee:=sJ (v:=(xp,xn+yn,xw)) hl hlen;refine q ao ⟨k1,k3,k4.trans h.pm,?_⟩ ?_ λt ht=>k6 t (.inr ⋯)
  ·rw[k2,ee];refine Rn.app.mpr ⟨xp,r1.congr λt _ ht=>k6 t (.inl ht),rfl,by show 1<=xn+yn;lia,k5,?_⟩;have:Rn O ky (arrOf ao) l2 (xp+xn+yn) lo:=r3.congr λt ht _=>k6 t (.inr ht)
   rw[Nat.add_assoc]at this;exact this
  ·rw[k2,<-RY,ee,<-RY,hl];simp
   lia
theorem F9(T:Tells prog w A κ s O ky Mem)(hb:∀x∈a.toList,Mem x){lo size pw:Nat}{st:SortSt}(h:Ru O ky κ a lo st)(o6:lo<=a.size)(hp:1<=(pendingOf st).size){Q:Option Unit×Unit->SortSt->Shared->Prop}
  (q:∀ao,Ru O ky κ a lo ao->1<=(pendingOf ao).size->(∀t,lo<=t->kas_item (arrOf ao) t=kas_item (arrOf st) t)->Q (none,()) ao s):kasC (model prog w) A E (Nk size pw) Q st s:=by
 unfold Nk;refine dO (λ_ c ao=>c=(none,())/\Ru O ky κ a lo ao/\1<=(pendingOf ao).size/\∀t,lo<=t->kas_item (arrOf ao) t=kas_item (arrOf st) t) ⟨rfl,h,hp,λ_ _=>rfl⟩ (λx c ao _ _ hI=>?_) (λc ao hI=>?_)
 ·obtain⟨rfl,h',BK,he⟩:=hI;refine RD (Vn ?_);by_cases c1:(pendingOf ao).size>1
  ·rw[Vl c1];have:(pendingOf ao)[(pendingOf ao).size-2]?=some (pendingOf ao)[(pendingOf ao).size-2]:=by simp
   rw[this];dsimp only;by_cases c2:(pendingOf ao)[(pendingOf ao).size-2].2.2<=pw
   ·rw[Vl c2];exact RH ⟨rfl,q _ h' BK he⟩
   ·rw[Vk c2];refine RD (rf T hb h' o6 ⋯ λdR h2 s2 e2=>?_);rw[Vk (by simp)];exact RH ⟨rfl,rfl,h2,by lia,λt ht=>(e2 t ht).trans (he t ht)⟩
  ·rw[Vk c1];exact RH ⟨rfl,q _ h' BK he⟩
 ·obtain⟨rfl,h',BK,he⟩:=hI;exact q _ h' BK he
theorem Rn.Nh{b:Array Keyed}{l:List (Nat×Nat×Nat)}{x y:Nat×Nat×Nat}{lo hi:Nat}(h:Rn O ky b (l++[x]) lo hi)(e1:y.1=x.1)(e2:y.2.1=x.2.1):Rn O ky b (l++[y]) lo hi:=by obtain⟨k,k1,h1,h2,h3,h4⟩:=Rn.app.mp h;exact Rn.app.mpr ⟨k,k1,e1.trans h1,by rw[e2];exact h2,by rw[e2];exact h3,by rw[e2];exact h4⟩
theorem snoc{α:Type}{P:Array α}(h:1<=P.size):∃l x,P.toList=l++[x]/\P.back?=some x:=by
 have dw:P.toList≠[]:=λz=>by have:=Vh List.length z;simp at this;rw[this]at h;simp at h
 refine⟨P.toList.dropLast,P.toList.getLast dw,(Tw dw).symm,?_⟩;rw[<-Array.getLast?_toList,List.getLast?_eq_some_getLast dw]
theorem jZ{α:Type}(f:α->α):∀(l:List α)(x:α),(l++[x]).modify l.length f=l++[f x]
 |[],x=>rfl
 |y::l,x=>by show y::(l++[x]).modify l.length f=y::(l++[f x]);rw[jZ f l x]
theorem xG(T:Tells prog w A κ s O ky Mem)(hb:∀x∈a.toList,Mem x){size lo n:Nat}{st:SortSt}(h:Ru O ky κ a lo st)(o6:lo<=a.size)(hn:1<=n)(hu:Up O ky lo (arrOf st) n)(h0:1<=(pendingOf st).size\/lo=0){Q:ForInStep (Option Unit×Nat)->SortSt->Shared->Prop}
  (q:∀ao,Ru O ky κ a (lo+n) ao->1<=(pendingOf ao).size->Q (.yield (none,lo+n)) ao s):kasC (model prog w) A E (KD size lo n) Q st s:=by
 unfold KD;refine RD (Vn ?_);by_cases hp:1<=(pendingOf st).size
 ·obtain⟨l,x,hl,P9⟩:=snoc hp;rw[P9];obtain⟨s1,n1,w1⟩:=x;dsimp only;refine RD (F9 T hb h o6 hp λdR h2 p2 e2=>?_);dsimp only;obtain⟨l2,x2,fh,Qa⟩:=snoc p2;have MS:(pendingOf dR).size=l2.length+1:=by
   have:=Vh List.length fh;simp at this
   lia
  refine RD (Vp (RD (Vp (RH (q _ ⟨h2.k,h2.f,h2.pm,?_⟩ ?_)))))
  ·show Rn O ky (arrOf dR) (((pendingOf dR).modify ((pendingOf dR).size-1) _).push (lo,n,0)).toList 0 (lo+n);rw[Array.toList_push,Array.toList_modify,fh,MS];have em:(l2++[x2]).modify (l2.length+1-1) (λ(x:Nat×Nat×Nat)=>(x.1,x.2.1,power' size (2*s1+n1) (2*s1+n1+n1+n) size))=l2++[(x2.1,x2.2.1,power' size (2*s1+n1) (2*s1+n1+n1+n) size)]:=by rw[Nat.add_sub_cancel];exact jZ _ _ _
   rw[show (λ(x:Nat×Nat×Nat)=>match x with|(st,len,_)=>(st,len,power' size (2*s1+n1) (2*s1+n1+n1+n) size))=λ(x:Nat×Nat×Nat)=>(x.1,x.2.1,power' size (2*s1+n1) (2*s1+n1+n1+n) size) from rfl,em];have rn:=h2.rn;rw[fh]at rn;refine Rn.app.mpr ⟨lo,rn.Nh rfl rfl,rfl,hn,λi j hi gF hj=>?_,rfl⟩;rw[e2 i hi,e2 j ⋯];exact hu i j hi gF hj
  ·show 1<=(((pendingOf dR).modify ((pendingOf dR).size-1) _).push (lo,n,0)).size;rw[Array.size_push]
   lia
 ·have hz:(pendingOf st).size=0:=⋯
  have e:(pendingOf st).back?=none:=by rw[Array.back?_eq_none_iff];exact Sw hz
  rw[e];have Mw:lo=0:=h0.resolve_left hp;subst Mw;refine RD (Vp (RH (q _ ⟨h.k,h.f,h.pm,?_⟩ ?_)))
  ·show Rn O ky (arrOf st) ((pendingOf st).push (0,n,0)).toList 0 (0+n);rw[Array.toList_push,Sw hz];exact⟨rfl,hn,hu,rfl⟩
  ·show 1<=((pendingOf st).push (0,n,0)).size;rw[Array.size_push]
   lia
theorem GA(T:Tells prog w A κ s O ky Mem)(hb:∀x∈a.toList,Mem x){mr lo:Nat}{st:SortSt}(h:Ru O ky κ a lo st)(o6:lo<a.size)(hm:1<=mr)(h0:1<=(pendingOf st).size\/lo=0){Q:ForInStep (Option Unit×Nat)->SortSt->Shared->Prop}
  (q:∀ao n,1<=n->lo+n<=a.size->Ru O ky κ a (lo+n) ao->1<=(pendingOf ao).size->Q (.yield (none,lo+n)) ao s):kasC (model prog w) A E (Ka a.size mr lo) Q st s:=by
 unfold Ka;rw[Vk ⋯];have lC:=h.size;have jW:∀x∈(arrOf st).toList,Mem x:=λx hx=>hb x (h.pm.mem_iff.mp hx)
 have b0:Bs κ (pendingOf st) lo (arrOf st) st:=⟨h.k,h.f,rfl,Tp _,λ_ _=>rfl⟩;have O8:∀{ao:SortSt},Bs κ (pendingOf st) lo (arrOf st) ao->Ru O ky κ a lo ao:=λb=>⟨b.k,b.f,b.pm.trans h.pm,by rw[b.p];exact h.rn.congr λt _ ht=>b.lw t ht⟩
 refine RD (HF T jW b0 (m:=a.size-lo) ⋯ ⋯ λao k b' k1 k2 ku=>?_);dsimp only;by_cases c:k<mr
 ·rw[Vl c];refine RD (Vo (VH ?_));refine RD (Hx T jW b' (n:=min (a.size-lo) mr) ⋯ k1 ⋯ ku λdR b2 u2=>?_);rw[Vk (by simp)];exact xG T hb (O8 b2) ⋯ ⋯ u2 (by rw[b2.p];exact h0) λHh h3 p3=>q Hh _ ⋯ ⋯ h3 p3
 ·rw[Vk c];exact xG T hb (O8 b') ⋯ ⋯ ku (by rw[b'.p];exact h0) λHh h3 p3=>q Hh _ ⋯ ⋯ h3 p3
theorem IX{P:Array (Nat×Nat×Nat)}(h:1<P.size):ix P+1<P.size:=by
 have key:ix P=P.size-2-1\/ix P=P.size-2:=by
  unfold ix;generalize Option.any _ _=b;cases b
  ·exact .inr rfl
  ·exact .inl rfl
 rcases key with e|e<;>lia
theorem Fw(T:Tells prog w A κ s O ky Mem)(hb:∀x∈a.toList,Mem x){st:SortSt}(h:Ru O ky κ a a.size st){Q:Option Unit×Unit->SortSt->Shared->Prop}
  (q:∀ao,Ru O ky κ a a.size ao->(pendingOf ao).size<=1->Q (none,()) ao s):kasC (model prog w) A E (K5 a.size) Q st s:=by
 unfold K5;have hle:=h.rn.le;simp at hle;refine dO (λx c ao=>c=(none,())/\Ru O ky κ a a.size ao/\(pendingOf ao).size<=max 1 (a.size-x)) ⟨rfl,h,by lia⟩ (λx c ao _ hx hI=>?_) (λc ao hI=>?_)
 ·obtain⟨rfl,h',hp⟩:=hI;refine RD (Vn ?_);by_cases c1:(pendingOf ao).size<=1
  ·rw[Vl c1];exact RH ⟨rfl,q _ h' c1⟩
  ·rw[Vk c1];refine RD (rf T hb h' (RE _) (IX ⋯) λdR h2 s2 _=>?_);rw[Vk (by simp)];exact RH ⟨rfl,rfl,h2,by lia⟩
 ·obtain⟨rfl,h',hp⟩:=hI;exact q _ h' ⋯
theorem lP:∀(f n r:Nat),1<=n->1<=minRun' f n r
 |0,n,r,h=>by
  have e:minRun' 0 n r=n+r:=by kernel_rfl
  rw[e];lia
 |f+1,n,r,h=>by
  rw[minRun'_succ];split
  ·lia
  ·exact lP f (n/2) _ ⋯
theorem Gg(T:Tells prog w A κ s O ky Mem)(hb:∀x∈a.toList,Mem x)(h2:2<=a.size){g:Nat}{Q:Unit->SortSt->Shared->Prop}
  (q:∀ao:SortSt,failedOf ao=none->(arrOf ao).toList.Perm a.toList->iQ O ky (arrOf ao).toList->Q () ao s):kasC (model prog w) A E sortRuns' Q (SortSt.mk' κ a #[] g none) s:=by
 rw[JM];unfold sR;refine RD (Vn ?_);have OT:=lP a.size a.size 0 ⋯;show kasC _ _ _ (do
  let r<-forIn [:a.size] ((none,0):Option Unit×Nat) λ_ r=>Ka a.size (minRun' a.size a.size 0) r.2
  match r.1 with
  |some v=>pure v
  |none=>do
   let r<-K5 a.size
   match r.1 with
   |some v=>pure v
   |none=>pure ()) _ _ _
 generalize minRun' a.size a.size 0=mr at OT ⊢;refine RD (bR (Q:=λr ao s'=>s=s'/\r.1=none/\Ru O ky κ a a.size ao) (dO (λx c ao=>∃lo,c=(none,lo)/\x<=lo/\lo<=a.size/\Ru O ky κ a lo ao/\(1<=(pendingOf ao).size\/lo=0)) ⟨0,rfl,RE _,by lia,⟨rfl,rfl,Tp _,rfl⟩,.inr rfl⟩ (λx c ao _ hx hI=>?_) (λc ao hI=>?_)) (λr ao s' hI=>?_))
 ·obtain⟨lo,rfl,QE,o6,h,h0⟩:=hI;by_cases c:lo<a.size
  ·exact GA T hb h c OT h0 λdR n n1 n2 h2 p2=>⟨rfl,lo+n,rfl,by lia,n2,h2,.inl p2⟩
  ·have e:lo=a.size:=⋯
   subst e;unfold Ka;rw[Vl (RE _)];exact RH ⟨rfl,rfl,rfl,h⟩
 ·obtain⟨lo,rfl,QE,o6,h,h0⟩:=hI;have e:lo=a.size:=⋯
  subst e;exact⟨rfl,rfl,h⟩
 ·obtain⟨rfl,e,h⟩:=hI;obtain⟨r1,r2⟩:=r;cases e;refine RD (Fw T hb h λdR g1 g2=>RH (q dR g1.f g1.pm ?_));have rn:=g1.rn
  match hl:(pendingOf dR).toList,rn with
  |[],rn=>have rn:0=a.size:=rn;lia
  |[x],rn=>obtain⟨_,_,u,e⟩:=rn;have e:0+x.2.1=a.size:=e;exact Up.J9 (g1.size.trans ⋯) u
  |x::y::r,_=>
   exfalso;have:=Vh List.length hl;simp at this
   lia
end
end MxTim
end
section
namespace Mx
open PySem PySem.W PySem.Spec PyProof.Rows L2 PySem.SeqAt MxSort
theorem qY{α β:Type}{f:α->β}{l l':List β}(h:l.Perm l'):∀r:List α,l=r.map f->∃p:List α,p.Perm r/\l'=p.map f:=by
 induction h with
 |nil=>intro r e;exact⟨r,Tp _,e⟩
 |cons x h ih=>
  intro r e;cases r with
  |nil=>cases e
  |cons y r=>rw[Sr]at e;injection e with e1 e2;obtain⟨p,p1,p2⟩:=ih r e2;exact⟨y::p,p1.cons y,by rw[Sr,e1,p2]⟩
 |swap x y l=>
  intro r e;cases r with
  |nil=>cases e
  |cons a r=>
   cases r with
   |nil=>rw[Sr]at e;injection e with e1 e2;cases e2
   |cons b r=>rw[Sr,Sr]at e;injection e with e1 e2;injection e2 with e3 e4;exact⟨b::a::r,List.Perm.swap a b r,by rw[Sr,Sr,e1,e3,e4]⟩
 |trans h1 h2 ih1 ih2=>intro r e;obtain⟨p,p1,p2⟩:=ih1 r e;obtain⟨q,q1,q2⟩:=ih2 p p2;exact⟨q,q1.trans p1,q2⟩
section
variable{prog:Program}{w:World}{A:Around}{E:Value->Shared->Prop}{s:Shared}
noncomputable def DW{O:KeyOrd}(vs:List Value)(key:Nat->O.α):Prop:=∀i j,i<vs.length->j<vs.length->vs.getD i Value.none=vs.getD j Value.none->key i=key j
open Classical in
noncomputable def Fi{O:KeyOrd}(vs:List Value)(key:Nat->O.α)(k:Keyed):O.α:=if h:∃i,i<vs.length/\vs.getD i Value.none=k.1 then key (Classical.choose h) else key 0
theorem kA{O:KeyOrd}{vs:List Value}{key:Nat->O.α}(hi:DW vs key){i:Nat}(h:i<vs.length)(v:Value):Fi vs key (vs.getD i Value.none,v)=key i:=by unfold Fi;have ex:∃j,j<vs.length/\vs.getD j Value.none=((vs.getD i Value.none,v):Keyed).1:=⟨i,h,rfl⟩;rw[dif_pos ex];have z:=Classical.choose_spec ex;exact hi _ _ z.1 h z.2
theorem rO(vs:List Value):(vs.toArray.zip vs.toArray).toList=(List.range vs.length).map λi=>(vs.getD i Value.none,vs.getD i Value.none):=by
 refine List.ext_getElem (by simp) λi h1 h2=>?_
 simp at h1;simp[h1]
theorem Gd{κ:SortKind}{vs:List Value}{O:KeyOrd}{key:Nat->O.α}(T:Tells O key (kas_ask prog w A κ vs) vs.length s)(hi:DW vs key)(h2:2<=vs.length)(PH:vs.length<1000000){Q:SortSt->Shared->Prop}
  (hG:∀(p:Array Nat)(ao:SortSt),Ord vs.length p->Up key p vs.length->(arrOf ao).map (·.2)=(p.toList.map λi=>vs.getD i Value.none).toArray->failedOf ao=none->Q ao s):
  wpAny (model prog w) A ((sortRuns').run (SortSt.mk' κ (vs.toArray.zip vs.toArray) #[] 7 none)) (λr s'=>Q r.2 s') E s:=by
 have hz:(vs.toArray.zip vs.toArray).size=vs.length:=by simp
 have T':MxTim.Tells prog w A κ s O (Fi vs key) (λk=>∃i,i<vs.length/\k=(vs.getD i Value.none,vs.getD i Value.none)):=by rintro x y ⟨i,Hb,rfl⟩ ⟨j,wx,rfl⟩ C hC;rw[kA hi Hb,kA hi wx]at hC;exact T i j Hb wx C hC
 have run:=MxTim.Gg (E:=E) T' (a:=vs.toArray.zip vs.toArray) (λx hx=>by
   rw[rO]at hx;obtain⟨i,i1,i2⟩:=Sg.mp hx;exact⟨i,Sv.mp i1,i2.symm⟩) ⋯ (g:=7) (Q:=λ_ ao s'=>Q ao s') (λao f pm J9=>?_)
 ·exact run
 ·rw[rO]at pm;obtain⟨p,p1,p2⟩:=qY pm.symm (List.range vs.length) rfl;have hl:p.length=vs.length:=by rw[p1.length_eq,T7]
  have cO:∀i∈p,i<vs.length:=λi hi=>Sv.mp (p1.mem_iff.mp hi)
  refine hG p.toArray ao (by unfold MxSort.Ord;exact p1) (λi j gF hj=>?_) ?_ f
  ·by_cases e:i=j
   ·subst e;exact Ti _
   ·unfold MxTim.iQ at J9;rw[p2,Uy,Ux]at J9;have z:=J9 i j ⋯ ⋯ ⋯;unfold MxTim.le at z;rw[kA hi (cO _ (T2 _)),kA hi (cO _ (T2 _))]at z;unfold sU;rw[show p.toArray.getD i 0=p[i] by simp[Array.getD,show i<p.length by lia],show p.toArray.getD j 0=p[j] by simp[Array.getD,show j<p.length by lia]];exact z
  ·apply SB.mp;rw[Array.toList_map,p2,Uh];rfl
theorem Aj{a:Addr}{vs:List Value}{n:Nat}{P:PySem.Fin->Shared->Prop}(ho:s.heap.get? a=some (seqObj "list" vs.toArray n))(PL:vs.length<1000000){O:KeyOrd}{key:Nat->O.α}
  (hk:2<=vs.length->∀h',(∀b o,b≠a->s.heap.get? b=some o->h'.get? b=some o)->∃κ:SortKind,(∀(Q:SortKind->Shared->Prop)(E:Value->Shared->Prop),Q κ {s with heap:=h'}->wpAny (model prog w) A (keyKind' vs.toArray) Q E {s with heap:=h'})/\
   Tells O key (kas_ask prog w A κ vs) vs.length {s with heap:=h'}/\DW vs key)
  (h:∀(p:Array Nat)(h':Heap)(e:Nat),Ord vs.length p->Up key p vs.length->(∀b o,b≠a->s.heap.get? b=some o->h'.get? b=some o)->h'.get? a=some (seqObj "list" (p.toList.map λi=>vs.getD i Value.none).toArray e)->
   P (.done (.ret .none)) {s with heap:=h'}):wpAny (model prog w) A (Builtin.«list.sort» ⟨[.ref a],[]⟩) P E s:=by
 have ha:a<s.heap.objs.size:=RJ ho;have AZ:vs.length<=sizeLine:=by rw[Vv];lia
 rw[list_sort_plain];refine Rr (listItems_at ho rfl (Rr (listUpdate_at ho rfl ?_ (by rw[Rz];exact AZ) (U1 _))));obtain⟨e1,OG⟩:∃e1,(s.heap.update a (Obj.mapSeq λ_=>(#[]:Array Value))).get? a=some (seqObj "list" #[] e1):=⟨_,get?_update_seq ho λ_=>#[]⟩;refine Rr (seqEpoch_at OG rfl (Rr (wpAny_newTuple ?_ AZ)));refine Rr (wpAny_newList (VA ?_) (U1 _));show wpAny (model prog w) A _ P E {s with heap:=((s.heap.update a (Obj.mapSeq λ_=>(#[]:Array Value))).push (seqObj "tuple" vs.toArray 0)).push (seqObj "list" #[] 0)};generalize hh:((s.heap.update a (Obj.mapSeq λ_=>(#[]:Array Value))).push (seqObj "tuple" vs.toArray 0)).push (seqObj "list" #[] 0)=h1;have k1:∀b o,b≠a->s.heap.get? b=some o->h1.get? b=some o:=λb o hb e=>by rw[<-hh];exact Rv _ (Rv _ ((R8 s.heap _ (U2 hb)).trans e))
 have Mp:h1.get? a=some (seqObj "list" #[] e1):=by rw[<-hh];exact Rv _ (Rv _ OG)
 dsimp only;have fin:∀(ao:SortSt)(p:Array Nat),Ord vs.length p->Up key p vs.length->(arrOf ao).map (·.2)=(p.toList.map λi=>vs.getD i Value.none).toArray->failedOf ao=none->
   wpAny (model prog w) A (do
    let touched:=(<-seqEpoch a) != e1
    Builtin.List.listUpdate (.ref a) λ_=>(arrOf ao).map (·.2)
    if let some e:=failedOf ao then rule "list.sort.comparison-raised";throw e
    if touched then rule "list.sort.modified";raiseError "ValueError" "list modified during sort"
    ret .none) P E {s with heap:=h1}:=λao p hp hu EY hf=>by
  refine Rr (seqEpoch_at (s:={s with heap:=h1}) Mp rfl ?_);have lC:(p.toList.map λi=>vs.getD i Value.none).toArray.size=vs.length:=by rw[Rz,RI,RY,hp.size]
  rw[EY];refine Rr (listUpdate_at (s:={s with heap:=h1}) Mp rfl ?_ (U1 _) (by rw[lC];lia));rw[hf];simp only[bne_self_eq_false,SG,Vj];obtain⟨c2,rR⟩:∃c2,(h1.update a (Obj.mapSeq λ_=>(p.toList.map λi=>vs.getD i Value.none).toArray)).get? a=some (seqObj "list" (p.toList.map λi=>vs.getD i Value.none).toArray c2):=⟨_,get?_update_seq Mp λ_=>_⟩;exact Rw (h p _ c2 hp hu (λb o hb e=>(R8 h1 _ (U2 hb)).trans (k1 b o hb e)) rR)
 by_cases h2:2<=vs.length
 ·have qA:¬vs.toArray.size<2:=by rw[Rz];lia
  rw[Vk qA,Vk qA];obtain⟨κ,Qh,T,hi⟩:=hk h2 h1 k1;refine Rr (Qh _ _ ?_);refine Rr (VB (Gd (s:={s with heap:=h1}) (Q:=λao s'=>s'={s with heap:=h1}/\∃p:Array Nat,Ord vs.length p/\Up key p vs.length/\(arrOf ao).map (·.2)=(p.toList.map λi=>vs.getD i Value.none).toArray/\failedOf ao=none) T hi h2 PL
   (λp ao hp hu ho hf=>⟨rfl,p,hp,hu,ho,hf⟩)) ?_ λ_ _ e=>e)
  rintro⟨⟨⟩,ao⟩ s' ⟨rfl,p,hp,hu,EY,hf⟩;exact fin ao p hp hu EY hf
 ·have qA:vs.toArray.size<2:=by rw[Rz];lia
  rw[Vl qA,Vl qA];refine Rr (Rw ?_);rw[StateT.run_pure];refine Rr (Rw ?_);refine fin (SortSt.mk' general' (vs.toArray.zip vs.toArray) #[] 7 none) (List.range vs.length).toArray (by unfold MxSort.Ord;simp) (λi j gF hj=>?_) ?_ rfl
  ·rw[show i=j by lia];exact Ti _
  ·apply SB.mp;show (((vs.toArray.zip vs.toArray)).map (·.2)).toList=_
   match vs,h2 with
   |[],_=>simp
   |[v],_=>simp
   |_::_::_,h2=>exact absurd (by simp) h2
end
inductive SK where
 |tt|ts|ti|s|i
 deriving DecidableEq
noncomputable def SK.ok:SK->D->Prop
 |.tt,d=>∃f r,d= .tup (.tup f::r)
 |.ts,d=>∃f r,d= .tup (.str f::r)
 |.ti,d=>∃f r,d= .tup (.int f::r)
 |.s,d=>∃x,d= .str x
 |.i,d=>∃x,d= .int x
noncomputable def SK.κ:SK->SortKind
 |.tt=>tuples' false
 |.ts=>tuples' true
 |.ti=>tuples' true
 |.s=>oneType'
 |.i=>oneType'
noncomputable def SK.f:SK->String
 |.tt=>"tuple"
 |.ts=>"str"
 |.s=>"str"
 |_=>"int"
section
variable{P:Program}{w:World}{H:Hp}{prog:Program}{s:Shared}{A:Around}
theorem BU{b:Bool}{n m:Nat}{Q:Bool->Shared->Prop}{v wv:Value}{us vs:List Value}{d e:D}{ds es:List D}(z:Zp A s (v::us) (wv::vs) (d::ds) (e::es))
  (hs:b=true->∀{E:Value->Shared->Prop},wpAny (model prog w) A (oneLt' true v wv) (λr s'=>r=D.lt d e/\s'=s) E s)
  (hlen:ds.length+m=es.length+n) (q:Q (D.de (d::ds) (e::es)) s):KatLex prog w A b (decide (n<m)) Q ((v::us).zip (wv::vs)) 0 s:=by
 cases z with
 |cons he hl z'=>
  rw[UL];rw[D.cD]at q;refine kat_cons (he prog w _ _ ?_);by_cases hde:d=e
  ·rw[(D.cv d e).mpr hde];rw[Vl hde]at q;exact kat_yes (BS z' 1 ⋯ hlen q)
  ·rw[show D.kl d e=false by rw[D.km];exact R5 hde];rw[Vk hde]at q;refine kat_no ?_;cases b with
   |false=>rw[show (false&&0==0)=false by rfl];exact kat_one v wv (hl hde prog w _ _ q)
   |true=>rw[show (true&&0==0)=true by rfl];exact VB (hs rfl) (λr s'⟨e1,e2⟩=>by subst e1 e2;exact q) λ_ _ x=>x
theorem ph(hok:fg P w H s.heap){n:Nat}(hu:A.units+n<cLine){b:Bool}{d0 e0:D}{dr er:List D}{x y:V}{u v:Value}(hd:D.dep (.tup (d0::dr))<=n+1)(hl:D.cM (.tup (d0::dr)) (.tup (e0::er)))
  (hs:b=true->(∃p q,d0= .str p/\e0= .str q)\/∃p q,d0= .int p/\e0= .int q) (hx:DV H x (.tup (d0::dr))) (hy:DV H y (.tup (e0::er))) (rx:RelV x u) (ry:RelV y v) {Q:Bool->Shared->Prop} {E:Value->Shared->Prop}
  (q:Q (D.lt (.tup (d0::dr)) (.tup (e0::er))) s):wpAny (model prog w) A (keyLt' (tuples' b) u v) Q E s:=by
 obtain⟨a,xs,q1,e1,e2⟩:=hx.ae;subst q1;cases rx;obtain⟨b',ys,q1,f1,f2⟩:=hy.ae;subst q1;cases ry;obtain⟨its,r1,o,ho,hc,k,xo⟩:=au hok e1;obtain⟨aK,r2,o2,qB,rR,k2,mK⟩:=au hok f1;obtain⟨x0,xr,rfl,G6,Oh⟩:=e2.cons_inv;obtain⟨y0,yr,rfl,Oi,PF⟩:=f2.cons_inv;cases r1 with
 |cons r10 r1r=>
  cases r2 with
  |cons r20 r2r=>
   rename_i u0 ur v0 vr;have mz:D.dh (d0::dr)<=n:=by unfold D.dep at hd;lia
   have BH:D.eQ (d0::dr) (e0::er):=by unfold D.cM at hl;exact hl
   have zz:Zp A s (u0::ur) (v0::vr) (d0::dr) (e0::er):=AL hok hu (λd e x y u v hd2 fh zb hy2 rx2 ry2=>BW hok n d e x y u v A hd2 hu fh zb hy2 rx2 ry2) mz BH e2 f2 (.cons r10 r1r) (.cons r20 r2r);refine kat_lt ho xo qB mK ?_;have l1:(u0::ur).toArray.size=(d0::dr).length:=by rw[Rz,RU,RU,<-r1r.length,Oh.length]
   have l2:(v0::vr).toArray.size=(e0::er).length:=by rw[Rz,RU,RU,<-r2r.length,PF.length]
   have q':Q (D.de (d0::dr) (e0::er)) s:=by have z:=q;unfold D.lt at z;exact z
   refine BU zz (λhb=>?_) (by rw[l1,l2];simp only[RU];lia) q';intro E';rcases hs hb with ⟨p,q2,rfl,rfl⟩|⟨p,q2,rfl,rfl⟩
   ·have z1:=G6.str_inv;have z2:=Oi.str_inv;subst z1 z2;obtain⟨t,rfl⟩:=r10;obtain⟨t',rfl⟩:=r20;exact oneLt_str ⟨by unfold D.lt;rfl,rfl⟩
   ·have z1:=G6.int_inv;have z2:=Oi.int_inv;subst z1 z2;obtain⟨t,rfl⟩:=r10;obtain⟨t',rfl⟩:=r20;exact oneLt_int ⟨by unfold D.lt;rfl,rfl⟩
theorem nL(x y:Value):keyLt' oneType' x y=oneLt' true x y:=rfl
theorem BV(hok:fg P w H s.heap){n:Nat}(hu:A.units+n<cLine)(k:SK){d e:D}{x y:V}{u v:Value}(hd:D.dep d<=n+1)(hl:D.cM d e)(fd:k.ok d)(fe:k.ok e)(hx:DV H x d)(hy:DV H y e)(rx:RelV x u)(ry:RelV y v){Q:Bool->Shared->Prop}{E:Value->Shared->Prop}
  (q:Q (D.lt d e) s):wpAny (model prog w) A (keyLt' k.κ u v) Q E s:=by
 cases k with
 |tt=>obtain⟨f,r,rfl⟩:=fd;obtain⟨f',r',rfl⟩:=fe;exact ph (b:=false) hok hu hd hl (λz=>nomatch z) hx hy rx ry q
 |ts=>obtain⟨f,r,rfl⟩:=fd;obtain⟨f',r',rfl⟩:=fe;exact ph hok hu hd hl (λ_=>.inl ⟨_,_,rfl,rfl⟩) hx hy rx ry q
 |ti=>obtain⟨f,r,rfl⟩:=fd;obtain⟨f',r',rfl⟩:=fe;exact ph hok hu hd hl (λ_=>.inr ⟨_,_,rfl,rfl⟩) hx hy rx ry q
 |s=>obtain⟨f,rfl⟩:=fd;obtain⟨f',rfl⟩:=fe;have z1:=hx.str_inv;have z2:=hy.str_inv;subst z1 z2;obtain⟨t,rfl⟩:=rx;obtain⟨t',rfl⟩:=ry;show wpAny _ _ (keyLt' oneType' _ _) _ _ _;rw[nL];unfold D.lt at q;exact oneLt_str q
 |i=>obtain⟨f,rfl⟩:=fd;obtain⟨f',rfl⟩:=fe;have z1:=hx.int_inv;have z2:=hy.int_inv;subst z1 z2;obtain⟨t,rfl⟩:=rx;obtain⟨t',rfl⟩:=ry;show wpAny _ _ (keyLt' oneType' _ _) _ _ _;rw[nL];unfold D.lt at q;exact oneLt_int q
theorem uY(hok:fg P w H s.heap){k:SK}(hk:k= .tt\/k= .ts\/k= .ti):∀{xs:List V}{us:List Value}{ds:List D},a9 H xs ds->ar xs us->(∀d∈ds,k.ok d)->
  ∃fs,KatTups s.heap us fs/\fs.length=us.length/\∀v∈fs,Looks (model prog w) s.heap (typeOf v) (.type k.f)
 |[],us,ds,_,r,_=>by cases r;exact⟨[],KatTups.nil,rfl,λv hv=>absurd hv (by simp)⟩
 |x::xs,us,ds,h,r,hf=>by
  cases r with
  |cons r0 rr=>
   cases ds with
   |nil=>unfold a9 at h;exact h.elim
   |cons d ds=>
    unfold a9 at h;obtain⟨fs,t,l,lk⟩:=uY hok hk h.2 rr λd hd=>hf d (RC _ hd)
    have sh:∃d0 dr,d= .tup (d0::dr)/\((k= .ts/\∃p,d0= .str p)\/(k= .ti/\∃p,d0= .int p)\/(k= .tt/\∃p,d0= .tup p)):=by
     have z:=hf d RF;rcases hk with rfl|rfl|rfl
     ·obtain⟨f,r,rfl⟩:=z;exact⟨_,_,rfl,.inr (.inr ⟨rfl,_,rfl⟩)⟩
     ·obtain⟨f,r,rfl⟩:=z;exact⟨_,_,rfl,.inl ⟨rfl,_,rfl⟩⟩
     ·obtain⟨f,r,rfl⟩:=z;exact⟨_,_,rfl,.inr (.inl ⟨rfl,_,rfl⟩)⟩
    obtain⟨d0,dr,rfl,AV⟩:=sh;obtain⟨a,ys,q1,e1,e2⟩:=h.1.ae;subst q1;cases r0;obtain⟨its,r1,o,ho,hc,kk,xo⟩:=au hok e1;obtain⟨x0,xr,rfl,G6,Oh⟩:=e2.cons_inv;cases r1 with
    |cons r10 r1r=>
     rename_i u0 ur;refine⟨u0::fs,KatTups.cons ho hc xo (by simp) t,by simp[l],λv hv=>?_⟩;rcases RL.mp hv with rfl|hv
     ·rcases AV with ⟨hb,p,rfl⟩|⟨hb,p,rfl⟩|⟨hb,p,rfl⟩
      ·have z1:=G6.str_inv;subst z1;obtain⟨t',rfl⟩:=r10;rw[hb];exact Looks.of_pure rfl
      ·have z1:=G6.int_inv;subst z1;obtain⟨t',rfl⟩:=r10;rw[hb];exact Looks.of_pure rfl
      ·obtain⟨a2,y2,q2,g1,g2⟩:=G6.ae;subst q2;cases r10;obtain⟨aK,_,o2,qB,rR,_⟩:=au hok g1;rw[hb];show Looks (model prog w) _ _ (Value.type "tuple");rw[<-rR];exact(Looks.ld qB).andThen .now
     ·exact lk v hv
theorem vF:∀{xs:List V}{us:List Value}{ds:List D},a9 H xs ds->ar xs us->(∀d∈ds,SK.s.ok d)->∃ss,StrsAre us ss
 |[],us,ds,_,r,_=>by cases r;exact⟨[],.nil⟩
 |x::xs,us,ds,h,r,hf=>by
  cases r with
  |cons r0 rr=>
   cases ds with
   |nil=>unfold a9 at h;exact h.elim
   |cons d ds=>
    unfold a9 at h;obtain⟨ss,q⟩:=vF h.2 rr λd hd=>hf d (RC _ hd)
    obtain⟨y,rfl⟩:=hf d RF;have z1:=h.1.str_inv;subst z1;obtain⟨t,rfl⟩:=r0;exact⟨y::ss,.cons y t q⟩
theorem uU:∀{xs:List V}{us:List Value}{ds:List D},a9 H xs ds->ar xs us->(∀d∈ds,SK.i.ok d)->∃ss,IntsAre us ss
 |[],us,ds,_,r,_=>by cases r;exact⟨[],.nil⟩
 |x::xs,us,ds,h,r,hf=>by
  cases r with
  |cons r0 rr=>
   cases ds with
   |nil=>unfold a9 at h;exact h.elim
   |cons d ds=>
    unfold a9 at h;obtain⟨ss,q⟩:=uU h.2 rr λd hd=>hf d (RC _ hd)
    obtain⟨y,rfl⟩:=hf d RF;have z1:=h.1.int_inv;subst z1;obtain⟨t,rfl⟩:=r0;exact⟨y::ss,.cons y t q⟩
theorem Ja(hok:fg P w H s.heap)(k:SK){xs:List V}{us:List Value}{ds:List D}(hd:a9 H xs ds)(r:ar xs us)(hf:∀d∈ds,k.ok d)(h2:2<=us.length){Q:SortKind->Shared->Prop}{E:Value->Shared->Prop}(q:Q k.κ s):
  wpAny (model prog w) A (keyKind' us.toArray) Q E s:=by
 have tup:k= .tt\/k= .ts\/k= .ti->wpAny (model prog w) A (keyKind' us.toArray) Q E s:=λhk=>by obtain⟨fs,t,l,lk⟩:=uY (prog:=prog) hok hk hd r hf;refine kat_kind t ⋯ lk (by rcases hk with rfl|rfl|rfl<;>rfl) ?_;rcases hk with rfl|rfl|rfl<;>exact q
 cases k with
 |tt=>exact tup (.inl rfl)
 |ts=>exact tup (.inr (.inl rfl))
 |ti=>exact tup (.inr (.inr rfl))
 |s=>
  obtain⟨ss,hs⟩:=vF hd r hf
  match us,h2,hs with
  |v1::v2::vs,_,hs=>rw[keyKind_strs hs];exact Rw q
 |i=>
  obtain⟨ss,hs⟩:=uU hd r hf
  match us,h2,hs with
  |v1::v2::vs,_,hs=>rw[keyKind_ints hs];exact Rw q
end
noncomputable def kQ(ds:List D):Prop:=ds.length<1000000/\(2<=ds.length->D.dh ds<=100/\(∃k:SK,∀d∈ds,k.ok d)/\∀d∈ds,∀e∈ds,D.cM d e)
section
variable{X:Cx}{pins:List (Addr×Obj)}{σ:L2.St}{H:Hp}
theorem w5{s:Shared}{A:Around}{Q:PySem.Fin->Shared->Prop}{E:Value->Shared->Prop}(hu:A.units+148<cLine)(I:Inv X pins σ H s){ys:List V}{its:List Value}{ds:List D}(rv:ar ys its)(jX:a9 H ys ds)(hc:kQ ds)
  (q:∀(l:Addr)(zs:List V)(es:List D)(s':Shared),H l=none->a9 H zs es->kS ds es->Inv X pins σ (upd H l (.lst zs)) s'->Q (.done (.ret (.ref l))) s'):
  wpAny (model X.prog X.w) A (do let l<-newList its;let _<-holding [l] (call (.builtin "list.sort") [l] []);ret l) Q E s:=by
 obtain⟨hlen,hc⟩:=hc;have hl:=rv.length;have fh:=jX.length;have AZ:its.length<=sizeLine:=by rw[Vv];lia
 refine Rr (wpAny_newList ?_ (by simpa using AZ));have K2:(s.heap.push (seqObj "list" its.toArray 0)).get? s.heap.objs.size=some (seqObj "list" its.toArray 0):=RG _ rfl;show wpAny _ _ _ _ _ {s with heap:=s.heap.push (seqObj "list" its.toArray 0)};have ne:∀b o,s.heap.get? b=some o->b≠s.heap.objs.size:=λb o e=>Sb (RJ e)
 refine Rr (VA (Vy slot_list_sort (s:={s with heap:=s.heap.push (seqObj "list" its.toArray 0)}) ⟨_,K2,rfl⟩ entry_list_sort
  (Aj (s:={s with heap:=s.heap.push (seqObj "list" its.toArray 0)}) (O:=HK) (key:=λi=>ds.getD i (.int 0)) K2 ⋯ (λh2 h' kk=>?_) λp h' e hp hup kk hD=>?_) (args_list_sort _)))
 ·obtain⟨Qb,⟨k,hf⟩,AY⟩:=hc ⋯;have BJ:fg X.prog X.w H h':=I.hok.kept λb o e=>kk b o (ne b o e) (Rv _ e)
  refine⟨k.κ,λQ' E' q'=>Ja (s:={s with heap:=h'}) BJ k jX rv hf ⋯ q',λi j hi hj C hC=>?_,λi j hi hj eij=>?_⟩
  ·obtain⟨di,HU,KH⟩:=jX.get (i:=i) (x:=ys[i]'⋯) (by simp);obtain⟨dj,KI,LY⟩:=jX.get (i:=j) (x:=ys[j]'⋯) (by simp);obtain⟨ui,MJ,NA⟩:=rv.get (i:=i) (x:=ys[i]'⋯) (by simp);obtain⟨uj,MK,NB⟩:=rv.get (i:=j) (x:=ys[j]'⋯) (by simp);unfold kas_ask;rw[show its.getD i Value.none=ui by simp[MJ],show its.getD j Value.none=uj by simp[MK]];have ki:ds.getD i (.int 0)=di:=by simp[HU]
   have kj:ds.getD j (.int 0)=dj:=by simp[KI]
   have mi:di∈ds:=Uq HU;have mj:dj∈ds:=Uq KI;refine BV (s:={s with heap:=h'}) BJ (n:=100) (by show A.units+1+100<cLine;lia) k (RK (oR HU) ⋯) (AY di mi dj mj) (hf di mi) (hf dj mj) KH LY NA NB ?_;have Ol:C (D.lt (ds.getD i (.int 0)) (ds.getD j (.int 0))) {s with heap:=h'}:=hC;rw[ki,kj]at Ol;exact Ol
  ·obtain⟨di,HU,KH⟩:=jX.get (i:=i) (x:=ys[i]'⋯) (by simp);obtain⟨dj,KI,LY⟩:=jX.get (i:=j) (x:=ys[j]'⋯) (by simp);obtain⟨ui,MJ,NA⟩:=rv.get (i:=i) (x:=ys[i]'⋯) (by simp);obtain⟨uj,MK,NB⟩:=rv.get (i:=j) (x:=ys[j]'⋯) (by simp);rw[show its.getD i Value.none=ui by simp[MJ],show its.getD j Value.none=uj by simp[MK]]at eij;subst eij;have ki:ds.getD i (.int 0)=di:=by simp[HU]
   have kj:ds.getD j (.int 0)=dj:=by simp[KI]
   show ds.getD i (.int 0)=ds.getD j (.int 0);rw[ki,kj];rw[NA.inj NB]at KH;exact KH.inj LY
 ·refine⟨_,rfl,Rw ?_⟩;have BK:p.toList.Perm (List.range its.length):=hp;have KZ:∀i∈p.toList,i<ys.length:=λi hi=>by
   have:=Sv.mp (BK.mem_iff.mp hi)
   lia
  have new:bM X.prog X.w (upd H s.heap.objs.size (.lst (p.toList.map λi=>ys.getD i .aW))) h' s.heap.objs.size (.lst (p.toList.map λi=>ys.getD i .aW)):=
   ⟨by rw[RI,BK.length_eq,T7];rw[Vv];lia,_,e,rM rv KZ,hD⟩
  have I2:=I.laid (t':=s.toks) (a:=s.heap.objs.size) (λb o q=>kk b o (ne b o q) (Rv _ q)) (RE _) new;refine q _ _ (p.toList.map λi=>ds.getD i (.int 0)) _ (I.hok.fresh (RE _)) (jX.map KZ) ⟨?_,?_⟩ I2
  ·have e1:=BK.map (λi=>ds.getD i (.int 0));rw[show its.length=ds.length by lia]at e1;rw[f6]at e1;exact e1
  ·have ML:∀i j,i<=j->j<its.length->D.lt (ds.getD (p.getD j 0) (.int 0)) (ds.getD (p.getD i 0) (.int 0))=false:=hup;have lC:p.toList.length=its.length:=by rw[BK.length_eq,T7]
   rw[Uy,Ux];intro i j hi hj gF;have:=ML i j ⋯ ⋯;rw[show p.getD i 0=p.toList[i] by simp at hi;simp[Array.getD,hi],show p.getD j 0=p.toList[j] by simp at hj;simp[Array.getD,hj]]at this;exact this
end
noncomputable def Ga(K:PySem.W.Frag):List V->Hp->VK->Prop:=λxs H Q=>∃a ys ds,xs=[.ref a]/\(df K H a ys\/eC K H a ys)/\a9 H ys ds/\kQ ds/\∀l zs es,H l=none->a9 H zs es->kS ds es->Q (.ref l) (upd H l (.lst zs))
theorem oJ{X:Cx}(hu:X.A.units+150<cLine):c7 X (.builtin "sorted") (Ga X.K):=by
 intro pins s σ H xs us Q I r h;obtain⟨a,ys,ds,rfl,hq,jX,hc,q⟩:=h;obtain⟨u,rfl,ru⟩:=r.one;cases ru;have sh:∃(its:List Value)(T:String)(o:Obj)(n:Nat),ar ys its/\(T="list"\/T="tuple")/\s.heap.get? a=some o/\o.cls= .type T/\o.data= .seq its.toArray n:=by
  rcases hq with hq|hq
  ·obtain⟨its,rv,⟨o,n,ho,hc,_,hd⟩,_⟩:=I.list hq;exact⟨its,"list",o,n,rv,.inl rfl,ho,hc,hd⟩
  ·obtain⟨its,rv,⟨o,ho,hc,n,hd⟩,_⟩:=I.tuple hq;exact⟨its,"tuple",o,n,rv,.inr rfl,ho,hc,hd⟩
 obtain⟨its,T,o,n,rv,hT,ho,G9,hd⟩:=sh;have AZ:its.length<=sizeLine:=by rw[Vv,<-rv.length,jX.length];have:=hc.1;lia
 refine Calls.call_function_entry kind_sorted plain_sorted entry_sorted (args_sorted1 _) ?_;unfold Builtin.«sorted»;refine Rr (m:=checkCount "sorted" 1 1 _) (Rw (Rr (wpAny_collect_seq a hT ho G9 hd (λh1 k1=>?_) (by rw[Rz];exact AZ))));have I1:Inv X pins σ H {s with heap:=h1}:=I.kept (t':=s.toks) k1;exact w5 (A:=X.A.in1) (by show X.A.units+1+148<cLine;lia) I1 rv jX hc λl zs es s' hl hz hso I2=>⟨_,rfl,.ref l,_,I2,rfl,q l zs es hl hz hso⟩
end Mx
end
section
namespace Mx
open PySem PySem.W PySem.Spec PyProof.Rows L2
theorem any_range(bs:List Bool):((List.range bs.length).any λi=>bs.getD i false)=bs.any id:=by
 have h:=f6 bs false;have e:((List.range bs.length).map λi=>bs.getD i false).any id=bs.any id:=by rw[h]
 rw[Tt]at e;exact e
theorem pE(ns:List Int):∀j,preSum (λi=>ns.getD i 0) j=(ns.take j).sum
 |0=>by simp[preSum]
 |j+1=>by
  rw[preSum,pE ns j];by_cases h:j<ns.length
  ·have e:ns.take (j+1)=ns.take j++[ns[j]]:=by rw[List.take_append_getElem h]
   rw[e,List.sum_append];simp[h]
  ·rw[UG ⋯,UG ⋯];simp[show ns.length<=j by lia]
theorem HA{bs:List Bool}{its:List Value}(r:ar (bs.map V.bl) its){i:Nat}{v:Value}(h:its[i]?=some v):v= .bool (bs.getD i false):=by
 have hl:=r.length;have hi:i<bs.length:=by
  have:=(RB.mp h).1;simp at hl
  lia
 obtain⟨u,hu,ru⟩:=r.get (i:=i) (x:=V.bl (bs.getD i false)) (by simp[hi]);rw[h]at hu;cases hu;exact ru
theorem int_at{ns:List Int}{its:List Value}(r:ar (ns.map V.int) its){i:Nat}{v:Value}(h:its[i]?=some v):∃t,v= .int (ns.getD i 0) t:=by
 have hl:=r.length;have hi:i<ns.length:=by
  have:=(RB.mp h).1;simp at hl
  lia
 obtain⟨u,hu,ru⟩:=r.get (i:=i) (x:=V.int (ns.getD i 0)) (by simp[hi]);rw[h]at hu;cases hu;exact ru
section
variable{X:Cx}
theorem qF{prog:Program}{w:World}{A:Around}{E:Value->Shared->Prop}{s:Shared}{l:Addr}{items:Array Value}{Q:Value->Shared->Prop}(hl:s.heap.IsList l items)
  (h:∀s2:Shared,s2={s with heap:=s.heap.push {cls:=.type "list_iterator",data:=.fields #[.ref l,.int 0 0]}}->(s2.heap.IsListIter s.heap.objs.size l 0/\s2.heap.IsList l items)->(∀b∈[s.heap.objs.size,l],b<s2.heap.objs.size)->l≠s.heap.objs.size->
   (∀(b:Addr)(o:Obj),s.heap.get? b=some o->b∉[s.heap.objs.size]/\s2.heap.get? b=some o)->Q (.ref s.heap.objs.size) s2):wpAny (model prog w) A (pyIter (.ref l)) Q E s:=by
 have lt:l<s.heap.objs.size:=by obtain⟨_,e,_⟩:=hl;exact RJ e
 refine VF hl (h _ rfl ⟨⟨_,RG _ rfl,rfl,rfl⟩,hl.push _⟩ (λb hb=>?_) (Sb lt) λb o e=>⟨?_,Rv _ e⟩)
 ·show b<(s.heap.push _).objs.size;rw[Sa];simp only[RL,RM,Vt]at hb;have lt':l<s.heap.objs.size:=lt;rcases hb with rfl|rfl
  ·exact UU _
  ·exact UT lt'
 ·intro hb;have:=RJ e;rw[Sf.mp hb]at this;exact UR _ this
noncomputable def Nl(K:PySem.W.Frag):List V->Hp->VK->Prop:=λxs H Q=>∃(l:Addr)(bs:List Bool),xs=[.ref l]/\df K H l (bs.map V.bl)/\Q (.bl (bs.any id)) H
noncomputable def Ny(K:PySem.W.Frag):List V->Hp->VK->Prop:=λxs H Q=>∃(l:Addr)(ns:List Int),xs=[.ref l]/\df K H l (ns.map V.int)/\Q (.int ns.sum) H
theorem xX(hc:X.calm=true):c7 X (.builtin "any") (Nl X.K):=by
 intro pins s σ H xs us Q I r h;obtain⟨l,bs,rfl,hq,q⟩:=h;obtain⟨u,rfl,ru⟩:=r.one;cases ru;obtain⟨its,rv,pl,hz⟩:=I.list hq;have hl:its.length=bs.length:=by rw[<-rv.length];simp
 refine call_any_walk (qF pl.isList λs2 e st fp ne old=>?_);refine⟨_,_,_,_,_,_,λi=>bs.getD i false,rfl,Walks.list (A:=X.A.in1) (I.ok.hd hc) _ l ne its.toArray,st,λi v s' Q' E' hv hQ=>?_,λh' tk hk=>?_⟩
 ·have E6:its.toArray[i]?=some v:=hv;rw[HA rv (show its[i]?=some v by simpa using E6)];exact VL hQ
 ·subst e;refine⟨.bl _,H,I.kept λb o e=>hk b o (old b o e).1 (old b o e).2,rfl,?_⟩;rw[show its.toArray.size=bs.length by simp[hl],any_range];exact q
theorem xZ(hc:X.calm=true):c7 X (.builtin "sum") (Ny X.K):=by
 intro pins s σ H xs us Q I r h;obtain⟨l,ns,rfl,hq,q⟩:=h;obtain⟨u,rfl,ru⟩:=r.one;cases ru;obtain⟨its,rv,pl,hz⟩:=I.list hq;have hl:its.length=ns.length:=by rw[<-rv.length];simp
 refine call_sum_walkG (qF pl.isList λs2 e st fp ne old=>?_);refine⟨_,_,_,_,_,_,λi=>ns.getD i 0,rfl,Walks.list (A:=X.A.in1) (I.ok.hd hc) _ l ne its.toArray,st,fp,λi v hv=>?_,λh' tk t' hk=>?_⟩
 ·have E6:its.toArray[i]?=some v:=hv;exact int_at rv (by simpa using E6)
 ·subst e;refine⟨.int _,H,I.kept λb o e=>hk b o (old b o e).1 (old b o e).2,⟨t',rfl⟩,?_⟩;rw[show its.toArray.size=ns.length by simp[hl],pE,UF];exact q
end
theorem gn{i:Nat}{v:V}{σ:L2.St}{H:Hp}{k:L2.St->Hp->Prop}(h:k (σ.set i (some v)) H):eM i v σ H k:=h
end Mx
end
section
namespace Mx
open PySem PySem.W PySem.Spec PyProof.Rows L2 HT
open PySem.AutoSeq1 (wpAny_loadPart')
theorem tuple_addW0(l b:Addr)(items cn:Array Value)(n n2:Nat)(dd uz:Option Addr)(sl vA:Array (Option Value))(Rg:items.isEmpty=true):
  Meets (Builtin.«tuple.__add__» ⟨[.ref l,.ref b],[]⟩) (λ_ R s=>s.heap.get? l=some {cls:=.type "tuple",dict:=dd,data:=.seq items n,slots:=sl}/\s.heap.get? b=some {cls:=.type "tuple",dict:=uz,data:=.seq cn n2,slots:=vA}/\R (.ok (.ret (Value.ref b))) s):=
 .of_wp λprog w A R s h=>by
  obtain⟨hp,g,d,tk,os⟩:=s;obtain⟨hl,hb,h⟩:=h;have f2:=sub_tuple_tuple
  wp_walk using wpAny_loadPart' hl,wpAny_loadPart' hb
  exact⟨_,rfl,h⟩
theorem zf{α:Type}(pre:List α)(x:α):pd (pre++[x]).length (-1)=some pre.length:=by
 unfold pd;rw[Vk (by decide),Vl (by simp;lia)];simp
 lia
theorem qe{α:Type}(pre:List α)(x:α):kT (pre++[x]) (-1)=some x:=by unfold kT;rw[zf];simp
end Mx
end
section
namespace Mx
open PySem PySem.W PySem.Spec PyProof.Rows L2
noncomputable def Nu(K:PySem.W.Frag):List V->Hp->VK->Prop:=λxs H Q=>∃(l:Addr)(ns:List Int),xs=[.ref l]/\df K H l (ns.map V.int)/\ns≠[]/\∀m,m∈ns->(∀a∈ns,m<=a)->Q (.int m) H
theorem G2{X:Cx}(hc:X.calm=true):c7 X (.builtin "min") (Nu X.K):=by
 intro pins s σ H xs us Q I r h;obtain⟨l,ns,rfl,hq,dw,q⟩:=h;obtain⟨u,rfl,ru⟩:=r.one;cases ru;obtain⟨its,rv,pl,hz⟩:=I.list hq;have i1:IntsAre its ns:=intsAre_of rv;have ET:=i1.numsOf;have xm:=i1.allInts;have hl:=pl.isList;obtain⟨xs,IP⟩:=xm.items;have qA:numsOf (intItems xs).toList=ns:=by rw[<-IP];exact ET
 rw[nums_intItems]at qA;rw[IP]at hl;have hlen:ns.length=xs.size:=by rw[<-qA,RI,RY]
 have y7:0<xs.size:=by rw[<-hlen];exact List.length_pos_iff.mpr dw
 refine min_intList (I.ok.hd hc) hl y7 λv h' tk hv hk=>?_
 obtain⟨t,rfl⟩:=intItems_at hv;obtain⟨h1,h2⟩:=argBest_lt (numAt xs) (xs.size-1);refine⟨.int _,H,I.kept hk,⟨t,rfl⟩,q _ ?_ λa ha=>?_⟩
 ·rw[numAt_eq,qA];exact getD_mem ⋯
 ·obtain⟨j,hj,rfl⟩:=mem_getD ha;rw[<-qA,<-numAt_eq];exact h2 j ⋯
noncomputable def Nt(K:PySem.W.Frag):List V->Hp->VK->Prop:=λxs H Q=>∃(l:Addr)(ns:List Int),xs=[.ref l]/\df K H l (ns.map V.int)/\ns≠[]/\∀m,m∈ns->(∀a∈ns,a<=m)->Q (.int m) H
theorem v5{X:Cx}(hc:X.calm=true):c7 X (.builtin "max") (Nt X.K):=by
 intro pins s σ H xs us Q I r h;obtain⟨l,ns,rfl,hq,dw,q⟩:=h;obtain⟨u,rfl,ru⟩:=r.one;cases ru;obtain⟨its,rv,pl,hz⟩:=I.list hq;have i1:IntsAre its ns:=intsAre_of rv;have ET:=i1.numsOf;have xm:=i1.allInts;have hl:=pl.isList;obtain⟨xs,IP⟩:=xm.items;have qA:numsOf (intItems xs).toList=ns:=by rw[<-IP];exact ET
 rw[nums_intItems]at qA;rw[IP]at hl;have hlen:ns.length=xs.size:=by rw[<-qA,RI,RY]
 have y7:0<xs.size:=by rw[<-hlen];exact List.length_pos_iff.mpr dw
 refine max_intList (I.ok.hd hc) hl y7 λv h' tk hv hk=>?_
 obtain⟨t,rfl⟩:=intItems_at hv;obtain⟨h1,h2⟩:=argBest_gt (numAt xs) (xs.size-1);refine⟨.int _,H,I.kept hk,⟨t,rfl⟩,q _ ?_ λa ha=>?_⟩
 ·rw[numAt_eq,qA];exact getD_mem ⋯
 ·obtain⟨j,hj,rfl⟩:=mem_getD ha;rw[<-qA,<-numAt_eq];exact h2 j ⋯
end Mx
end
section
namespace L2
open PySem PySem.Spec PyProof.Rows
noncomputable def ej(e:Expr)(d:Nat)(it acc:Value)(env:Env)(target:Expr)(ifs:List Expr)(p:Pos)(body:Sem Unit):Sem PySem.Fin:=do
 standAt p
 match<-pyNext it with
 |none=>pure (.done .next)
 |some v=>
  letOwnedTupleGo target it v
  assign target env v
  let mut ok:=true
  for c in ifs do
   if ok then ok<-isTrue c env (eval c env)
  if ok then body
  again (.compLoop e d it acc env)
theorem oO{prog:Program}{w:World}{A:Around}{R:Result->Shared->Prop}{s:Shared}{elt target:Expr}{gens:List Comprehension}{scope:Scope}{pos:Pos}{d:Nat}{ifs:List Expr}{p:Pos}{it acc:Value}{env:Env}{body:Sem Unit}(heq:compTurn (.ListComp elt gens scope pos) d it acc env=ej (.ListComp elt gens scope pos) d it acc env target ifs p body){EE:Value->Shared->Prop}
  (Ij:∀x s',EE x s'->notedBy (model prog w) A env (λx s'=>R (.error x) s') x s') (I:Nat->Shared->Prop)
  (turn:∀n s,I n s->wpAny (model prog w) A (pyNext it) (λr s₁=>match r with
   |none=>R (.ok .next) s₁
   |some v=>wpAny (model prog w) A (letOwnedTupleGo target it v) (λ_ s₁'=>wpAny (model prog w) A (assign target env v) (λ_ s₂=>
     wpAny (model prog w) A (forIn ifs true λc r=>if r=true then do let ok<-isTrue c env (eval c env);pure (ForInStep.yield ok) else pure (ForInStep.yield r)) (λok s₃=>
      if ok=true then wpAny (model prog w) A body (λ_ s₄=>∃m,m<n/\I m s₄) EE s₃
      else∃m,m<n/\I m s₃) EE s₂) EE s₁') EE s₁) EE s)
  (n:Nat) (h:I n s):codeAny (model prog w) A (.compLoop (.ListComp elt gens scope pos) d it acc env) R s:=by
 refine codeAny_loop rfl I (λn s hI=>?_) n h;show wpAny _ A ((compTurn (.ListComp elt gens scope pos) d it acc env).onRaise (λx=>do noteFrame x env;theTreesLotGoes x)) _ _ s;refine wpAny_noted ?_;rw[heq];unfold ej;refine Rr (VJ (Rr (VB (turn n s hI) (λr s₁ h₁=>?_) Ij)));cases r with
 |none=>exact Rw h₁
 |some v=>
  refine Rr (VB h₁ (λ_ s₁' h₁'=>?_) Ij);refine Rr (VB h₁' (λ_ s₂ h₂=>Rr (VB h₂ (λok s₃ h₃=>?_) Ij)) Ij);cases ok with
  |false=>exact Rw ⟨rfl,h₃⟩
  |true=>exact Rr (VB h₃ (λ_ s₄ h₄=>Rw ⟨rfl,h₄⟩) Ij)
noncomputable def ij(elt:Expr)(acc:Value)(env:Env):Sem Unit:=do let _<-call (.builtin "list.append") [acc,<-eval elt env]
noncomputable def nextOf(e:Expr)(d:Nat)(iter:Expr)(acc:Value)(env:Env):Sem Unit:=do
 let x<-eval iter env
 standAt iter.pos
 let x<-foldedSetIterable iter env x
 let _<-runOwn (.compStart e d (<-holding [x] (pyIter x)) acc env) env
theorem rJ(elt target iter:Expr)(ifs:List Expr)(scope:Scope)(pos:Pos)(it acc:Value)(env:Env):
  compTurn (.ListComp elt [⟨target,iter,ifs,0⟩] scope pos) 0 it acc env=ej (.ListComp elt [⟨target,iter,ifs,0⟩] scope pos) 0 it acc env target ifs iter.pos (ij elt acc env):=by rfl
theorem rK(elt target iter bj b8:Expr)(ifs cC:List Expr)(scope:Scope)(pos:Pos)(it acc:Value)(env:Env):
  compTurn (.ListComp elt [⟨target,iter,ifs,0⟩,⟨bj,b8,cC,0⟩] scope pos) 0 it acc env=
   ej (.ListComp elt [⟨target,iter,ifs,0⟩,⟨bj,b8,cC,0⟩] scope pos) 0 it acc env target ifs iter.pos (nextOf (.ListComp elt [⟨target,iter,ifs,0⟩,⟨bj,b8,cC,0⟩] scope pos) 1 b8 acc env):=by
 unfold ej nextOf;simp only[bind_assoc,pure_bind];rfl
theorem CP(elt target iter bj b8:Expr)(ifs cC:List Expr)(scope:Scope)(pos:Pos)(it acc:Value)(env:Env):
  compTurn (.ListComp elt [⟨target,iter,ifs,0⟩,⟨bj,b8,cC,0⟩] scope pos) 1 it acc env=
   ej (.ListComp elt [⟨target,iter,ifs,0⟩,⟨bj,b8,cC,0⟩] scope pos) 1 it acc env bj cC b8.pos (ij elt acc env):=by rfl
noncomputable def Le(σ σ2:St):Prop:=σ2.length=σ.length/\∀(j:Nat)(v:V),σ[j]?=some (some v)->σ2[j]?=some (some v)
theorem Le.refl(σ:St):Le σ σ:=⟨rfl,λ_ _ h=>h⟩
noncomputable def GL(σ0:St)(g:TG):Prop:=∀x σ H(Q:St->Hp->Prop),Le σ0 σ->g x σ H Q->g x σ H λσ2 H2=>Le σ0 σ2/\Q σ2 H2
noncomputable def Hn(σ0:St)(g:vV):Prop:=∀x σ H(Q:St->Hp->Prop),Le σ0 σ->g x σ H Q->g x σ H λσ2 H2=>Le σ0 σ2/\Q σ2 H2
theorem Le.set{k:Nat}{σ0 σ:St}{v:Option V}(h:σ0[k]?=some none)(q:Le σ0 σ):Le σ0 (σ.set k v):=⟨by simpa using q.1,λj w hj=>by
 rw[RT (by rintro rfl;rw[h]at hj;cases hj)];exact q.2 j w hj⟩
theorem By{σ0:St}{k:Nat}(h:σ0[k]?=some none):GL σ0 (eM k):=λx σ H Q p q=>⟨p.set h,q⟩
theorem Bz{σ0:St}:Hn σ0 EH:=λx σ H Q p q=>⟨q.1,p,q.2⟩
theorem yJ{σ0:St}{k:Nat}{u:vV}(h:σ0[k]?=some none)(hu:Hn σ0 u):Hn σ0 (yD (eM k) u):=λx σ H Q p q=>by obtain⟨v,r,e,q⟩:=q;exact⟨v,r,e,hu r _ H Q (p.set h) q⟩
theorem EK{σ0:St}{K:PySem.W.Frag}{n:Nat}{u:vV}(hu:Hn σ0 u):GL σ0 (EI K n u):=λx σ H Q p q=>by obtain⟨a,xs,e,h1,h2,q⟩:=q;exact⟨a,xs,e,h1,h2,hu xs σ H Q p q⟩
theorem Inv.le{X:Cx}{pins:List (Addr×Obj)}{σ σ2:St}{H:Hp}{s:Shared}(I:Inv X pins σ2 H s)(h:Le σ σ2):Inv X pins σ H s:=I.weak h.1.symm h.2
noncomputable abbrev TB:=St->Hp->(Hp->Prop)->Prop
noncomputable def PB(X:Cx)(body:Sem Unit)(tb:TB):Prop:=∀(pins:List (Addr×Obj))(s:Shared)(σ:St)(H:Hp)(Q:Hp->Prop),Inv X pins σ H s->tb σ H Q->wpAny (model X.prog X.w) X.A body (λ_ s'=>∃H',Inv X pins σ H' s'/\Q H') X.xe s
noncomputable def p9(J:It)(g:TG)(tt:TT)(tb:TB)(σ0:St)(F:Hp->Prop)(H1:Hp):Prop:=
 ∃W:Nat->Nat->Hp->Prop,(∃m,W 0 m H1)/\∀i m H,W i m H->
  (J.stop i H/\F H)\/(J.go i H/\∀x H',J.yld i H x H'->g x σ0 H' λσ2 H2=>tt σ2 H2 λb H3=>if b=true then tb σ2 H3 λH4=>∃m',m'<m/\W (i+1) m' H4 else∃m',m'<m/\W (i+1) m' H3)
section
variable{X:Cx}{g:TG}{tt:TT}{tb:TB}
theorem ny(hc:X.calm=true){elt target:Expr}{gens:List Comprehension}{scope:Scope}{pos:Pos}{d:Nat}{ifs:List Expr}{p:Pos}{acc:Value}{body:Sem Unit}{R:Result->Shared->Prop}{pins:List (Addr×Obj)}{σ0:St}{H0:Hp}{s0:Shared}{it:Addr}{fp:List Addr}{tn:Nat->Heap->Prop}{J:It}{F:Hp->Prop}
  (heq:compTurn (.ListComp elt gens scope pos) d (.ref it) acc X.env=ej (.ListComp elt gens scope pos) d (.ref it) acc X.env target ifs p body) (hx:∀x s',X.xe x s'->notedBy (model X.prog X.w) X.A X.env (λx s'=>R (.error x) s') x s')
  (hg:PG X target g) (mB:GL σ0 g) (ht:CW X ifs tt) (hb:PB X body tb) (I0:Inv X pins σ0 H0 s0) (T:Turn X.prog X.w X.K target J fp it tn) (dz:tn 0 s0.heap) (f0:∀b∈fp,iO X pins H0 b)
  (hW:p9 J g tt tb σ0 F H0) (fin:∀s' H',Inv X pins σ0 H' s'->F H'->R (.ok .next) s'):codeAny (model X.prog X.w) X.A (.compLoop (.ListComp elt gens scope pos) d (.ref it) acc X.env) R s0:=by
 obtain⟨W,⟨m0,w0⟩,turn⟩:=hW;have pM:∀{H':Hp},(∀b∈fp,H' b=none)->∀b∈fp,iO X pins H' b:=λhn b hb=>⟨hn b hb,(f0 b hb).2⟩
 refine oO heq hx (λn s'=>∃i H',Inv X pins σ0 H' s'/\tn i s'.heap/\(∀b∈fp,H' b=none)/\W i n H') ?_ m0 ⟨0,H0,I0,dz,λb hb=>(f0 b hb).1,w0⟩;rintro n s4 ⟨i,H4,I4,O6,Og,w4⟩;rcases turn i n H4 w4 with ⟨stop,qn⟩|⟨go,step⟩
 ·refine bY (T.done X rfl rfl rfl hc i pins s4 _ H4 X.xe I4 (pM Og) O6 stop) λr s5⟨hr,I5⟩=>?_
  subst hr;exact fin s5 H4 I5 qn
 ·refine bY (T.item X rfl rfl rfl hc i pins s4 _ H4 X.xe I4 (pM Og) O6 go) λr s5⟨u,hr,h5⟩=>?_
  subst hr;refine bY h5 λ_ s6⟨x,H6,I6,r6,y6,NO,PC⟩=>?_
  have Pi:=I6.pinned (pM PC) (T.obj _ _ NO);have again:∀{s7:Shared}{σ7:St}{H7:Hp}{m7:Nat},Inv X (pins++lR fp s6.heap) σ7 H7 s7->Le σ0 σ7->m7<n->W (i+1) m7 H7->
    ∃m,m<n/\∃i H',Inv X pins σ0 H' s7/\tn i s7.heap/\(∀b∈fp,H' b=none)/\W i m H':=λ {s7 σ7 H7 m7} I7 hσ hm w7=>by
   refine⟨m7,hm,i+1,H7,I7.jx.le hσ,T.keep _ _ _ NO λb hb o e=>(I7.pin (b,o) (Sd _ (Sd _ (fy hb e)))).1,λb hb=>?_,w7⟩;obtain⟨o,e,d⟩:=T.obj _ _ NO b hb;exact(I7.pin (b,o) (Sd _ (Sd _ (fy hb e)))).2.1
  refine bY (hg _ s6 _ H6 x u _ Pi r6 (mB x _ H6 _ (Le.refl _) (step x H6 y6))) λ_ s7⟨σ7,H7,I7,OQ,q7⟩=>?_
  refine bY (ht _ s7 σ7 H7 _ I7 q7) λb s8⟨H8,I8,q8⟩=>?_
  cases b with
  |false=>rw[Vk (by simp)]at q8 ⊢;obtain⟨m',hm,w8⟩:=q8;exact again I8 OQ hm w8
  |true=>
   rw[Vl rfl]at q8 ⊢;refine bY (hb _ s8 σ7 H8 _ I8 q8) λ_ s9⟨H9,I9,m',hm,w9⟩=>?_
   exact again I9 OQ hm w9
noncomputable def vJ(D:Addr)(te:TE):TB:=λσ H Q=>te σ H λv H4=>∃gO,H4 D=some (.lst gO)/\gO.length<sizeLine/\Q (upd H4 D (.lst (gO++[v])))
theorem kF{elt:Expr}{te:TE}{D:Addr}(he:PE X elt te):PB X (ij elt (.ref D) X.env) (vJ D te):=by intro pins s σ H Q I h;unfold ij;refine Rr (bY (he pins s σ H _ I h) λy s9⟨v,H9,I9,r9,gO,PU,hz,q⟩=>?_);refine Rr (bY (nT _ s9 σ H9 (.ref D) [v] (.ref D) [y] (λ_ H'=>H'=upd H9 D (.lst (gO++[v]))) I9 rfl (.cons r9 .nil) ⟨D,gO,v,rfl,rfl,PU,hz,rfl⟩) λ_ s10⟨_,Q6,Pg,_,Pr⟩=>?_);subst Pr;exact Rw ⟨_,Pg,q⟩
theorem oP{prog:Program}{w:World}{A:Around}{R:Result->Shared->Prop}{s:Shared}{elt target iter bj b8:Expr}{ifs cC:List Expr}{scope:Scope}{pos:Pos}{it acc:Value}{env:Env}
  (h0:codeAny (model prog w) A (.compLoop (.ListComp elt [⟨target,iter,ifs,0⟩,⟨bj,b8,cC,0⟩] scope pos) 1 it acc env) R s)
  (h:wpAny (model prog w) A (pyIter it) (λkz s'=>codeAny (model prog w) A (.compLoop (.ListComp elt [⟨target,iter,ifs,0⟩,⟨bj,b8,cC,0⟩] scope pos) 1 kz acc env) R s')
   (notedBy (model prog w) A env λx s'=>R (.error x) s') s):
  codeAny (model prog w) A (.compStart (.ListComp elt [⟨target,iter,ifs,0⟩,⟨bj,b8,cC,0⟩] scope pos) 1 it acc env) R s:=by
 refine codeAny_of_tree ?_;show wpAny _ _ ((compStart (.ListComp elt [⟨target,iter,ifs,0⟩,⟨bj,b8,cC,0⟩] scope pos) 1 it acc env).onRaise (λx=>do noteFrame x env;standAt theWindowsPlace)) _ _ s;refine wpAny_notedAt ?_;unfold compStart;show wpAny _ _ (ask >>=_) _ _ s;refine Rr (wpAny_askSetting (wpAny_ite ?_));split
 ·first
   |exact Rr (Rw (Rw (And.intro rfl h0)))
   |exact Rw (And.intro rfl h0)
 ·first
   |exact Rr (VH (Rr (VJ (Rr (VB h (λkz s' h'=>Rw (And.intro rfl h')) λ_ _ x=>x)))))
   |(refine Rr (VH ?_);show wpAny _ _ (standAt b8.pos >>=_) _ _ s;exact Rr (VJ (Rr (VB h (λkz s' h'=>Rw (And.intro rfl h')) λ_ _ x=>x))))
noncomputable def Ki(wi:TI)(g:TG)(tt:TT)(tb:TB):TB:=λσ H Q=>GL σ g/\wi σ H λJ H1=>p9 J g tt tb σ Q H1
theorem vi{elt target iter bj b8:Expr}{ifs cC:List Expr}{scope:Scope}{pos:Pos}{acc:Value}{wi:TI}{te:TB}(hc:X.calm=true)(hp:PassesOwn (model X.prog X.w) X.A X.env X.xe)(hi:PI X bj b8 wi)(hg:PG X bj g)(ht:CW X cC tt)(he:PB X (ij elt acc X.env) te)
  (hs:∀x,foldedSetIterable b8 X.env x=pure x:=by intro _;rfl):PB X (nextOf (.ListComp elt [⟨target,iter,ifs,0⟩,⟨bj,b8,cC,0⟩] scope pos) 1 b8 acc X.env) (Ki wi g tt te):=by
 intro pins s σ H Q I ⟨mB,h⟩;unfold nextOf;refine Rr (bY (hi pins s σ H _ I h) λx s₁ h₁=>?_);refine Rr (VJ (Rr (wpAny_of_eq (hs x) (Rr (VA (bY h₁ λpX s₂ h₂=>?_))))));obtain⟨it,fp,tn,J,H2,e,I2,T,dR,f2,hW⟩:=h₂;subst e;have loop:codeAny (model X.prog X.w) X.A (.compLoop (.ListComp elt [⟨target,iter,ifs,0⟩,⟨bj,b8,cC,0⟩] scope pos) 1 (.ref it) acc X.env) (λr s'=>match r with|.ok f=>∃H',Inv X pins σ H' s'/\Q H'|.error e=>cameBackBy (model X.prog X.w) X.A X.env X.xe e s') s₂:=
  ny hc (CP ..) (λx s' q=>hp x s' q) hg mB ht he I2 T dR f2 hW λs' H' I' q=>⟨H',I',q⟩
 have run:wpAny (model X.prog X.w) X.A (runOwn (.compStart (.ListComp elt [⟨target,iter,ifs,0⟩,⟨bj,b8,cC,0⟩] scope pos) 1 (.ref it) acc X.env) X.env) (λ_ s'=>∃H',Inv X pins σ H' s'/\Q H') X.xe s₂:=
  wpAny_runOwn (oP loop (T.self _ 0 _ _ _ dR loop))
 exact Rr (VB run (λf s' q=>Rw q) λ_ _ z=>z)
end
theorem gw{x:Str}{c:Addr}:∀(names:List (Str×NameKind))(n:Nat)(acc:List (Str×Addr)),(cellsFrom n names acc).lookup x=some c->(n<=c/\(x,NameKind.cell)∈names)\/acc.lookup x=some c
 |[],n,acc,h=>.inr h
 |(y,k)::r,n,acc,h=>by
  unfold cellsFrom at h;by_cases hk:(k==NameKind.cell)=true
  ·rw[Vl hk]at h;rcases gw r (n+1) _ h with ⟨h1,h2⟩|h1
   ·exact .inl ⟨RK (UQ _) h1,RC _ h2⟩
   ·rw[R6]at h1;cases hb:x==y with
    |true=>
     rw[hb]at h1;cases h1;have:x=y:=by simpa using hb
     subst this;have:k=NameKind.cell:=by simpa using hk
     subst this;exact .inl ⟨RE _,RF⟩
    |false=>rw[hb]at h1;exact .inr h1
  ·rw[Vk hk]at h;rcases gw r n _ h with ⟨h1,h2⟩|h1
   ·exact .inl ⟨h1,RC _ h2⟩
   ·exact .inr h1
theorem sG{x y:Str}{c:Addr}:∀(names:List (Str×NameKind))(n:Nat)(acc:List (Str×Addr)),(∀x c,acc.lookup x=some c->c<n)->(∀x y c,acc.lookup x=some c->acc.lookup y=some c->x=y)->
  (cellsFrom n names acc).lookup x=some c->(cellsFrom n names acc).lookup y=some c->x=y
 |[],n,acc,h1,h2,hx,hy=>h2 x y c hx hy
 |(z,k)::r,n,acc,h1,h2,hx,hy=>by
  unfold cellsFrom at hx hy;by_cases hk:(k==NameKind.cell)=true
  ·rw[Vl hk]at hx hy;refine sG r (n+1) _ (λa b fN=>?_) (λa b e ha hb=>?_) hx hy
   ·rw[R6]at fN;cases hq:a==z with
    |true=>rw[hq]at fN;cases fN;exact UU _
    |false=>rw[hq]at fN;exact UT (h1 a b fN)
   ·rw[R6]at ha hb;cases hq:a==z with
    |true=>
     rw[hq]at ha;cases ha;cases hq2:b==z with
     |true=>
      have e1:a=z:=by simpa using hq
      have e2:b=z:=by simpa using hq2
      rw[e1,e2]
     |false=>rw[hq2]at hb;exact absurd (h1 b _ hb) (UR _)
    |false=>
     rw[hq]at ha;cases hq2:b==z with
     |true=>rw[hq2]at hb;cases hb;exact absurd (h1 a _ ha) (UR _)
     |false=>rw[hq2]at hb;exact h2 a b e ha hb
  ·rw[Vk hk]at hx hy;exact sG r n acc h1 h2 hx hy
theorem oK{x:Str}{c:Addr}:∀(names:List (Str×NameKind))(n:Nat)(acc:List (Str×Addr)),(x,NameKind.cell)∉names->acc.lookup x=some c->(cellsFrom n names acc).lookup x=some c
 |[],n,acc,_,h=>h
 |(z,k)::r,n,acc,hn,h=>by
  unfold cellsFrom;by_cases hk:(k==NameKind.cell)=true
  ·rw[Vl hk];refine oK r (n+1) _ (λz'=>hn (RC _ z')) ?_;rw[R6];have:(x==z)=false:=by
    cases hq:x==z with
    |false=>rfl
    |true=>
     have e1:x=z:=by simpa using hq
     have e2:k=NameKind.cell:=by simpa using hk
     subst e1 e2;exact absurd RF hn
   rw[this];exact h
  ·rw[Vk hk];exact oK r n acc (λz'=>hn (RC _ z')) h
theorem kY{x:Str}{c:Addr}:∀(names:List (Str×NameKind))(h:Heap)(acc:List (Str×Addr)),(∀x c,acc.lookup x=some c->∃v,h.IsCell c v)->(cellsFrom h.objs.size names acc).lookup x=some c->∃v,(pushCells h names).IsCell c v
 |[],h,acc,ha,hx=>ha x c hx
 |(z,k)::r,h,acc,ha,hx=>by
  unfold cellsFrom at hx;unfold pushCells;by_cases hk:(k==NameKind.cell)=true
  ·rw[Vl hk]at hx ⊢;refine kY r _ ((z,h.objs.size)::acc) (λa b fN=>?_) (by rw[Sa];exact hx);rw[R6]at fN;cases hq:a==z with
   |true=>rw[hq]at fN;cases fN;exact⟨none,_,RG _ rfl,rfl⟩
   |false=>rw[hq]at fN;obtain⟨v,o,ho,hd⟩:=ha a b fN;exact⟨v,o,Rv _ ho,hd⟩
  ·rw[Vk hk]at hx ⊢;exact kY r h acc ha hx
theorem rN{M:Model}{A:Around}{E:Value->Shared->Prop}{s:Shared}{scope:Scope}{globals:Addr}{cl:List (Str×Addr)}{qual:Str}{out:Env}{Q:Env->Shared->Prop}
  (hQ:∀h',h'=pushCells (s.heap.push {cls:=.type "dict",data:=.dict #[]}) scope.names->Q (newEnv scope s.heap.objs.size globals (cellsFrom (s.heap.objs.size+1) scope.names cl) qual none .none (some out) builtinsNs) {s with heap:=h'}):
  wpAny M A (newFunctionEnv scope globals cl [] qual none .none (some out)) Q E s:=by
 simp only[newFunctionEnv,Option.isSome_some,Vm];refine Rr (wpAny_alloc ?_);refine Rr (wpAny_layCells _ (λname kind cells=>by cases hkc:kind==NameKind.cell<;>simp[hkc]) _ _ _ _ ?_);rw[show ({s with heap:=s.heap.push {cls:=.type "dict",data:=.dict #[]}}:Shared).heap.objs.size=s.heap.objs.size+1 from Sa ..];rw[List.forIn_nil];exact Rr (Rw (Rw (hQ _ rfl)))
noncomputable def gR(X:Cx)(scope:Scope)(N':List Str)(C:Addr)(s:Shared)(H:Hp)(fp:List Addr)(xe:Value->Shared->Prop):Cx:=
 {X with N:=N',s₀:=s,H₀:=H,env:=compEnvC scope (cellsFrom (C+1) scope.names (fK scope X.env)) C X.env,outer:=X.stack,stack:=X.stack,ex:=fp,fn:=λx=>scope.names.lookup x==some .cell,pn:=[],xe:=xe}
structure fI(X:Cx)(scope:Scope)(N':List Str)(cap:List (Option Nat)):Prop where
 kind:scope.kind= .function
 nd:∀y∈scope.names,scope.names.lookup y.1=some y.2
 free:∀y∈scope.names,y.2= .free->X.env.scope.names.lookup y.1=some .cell\/X.env.scope.names.lookup y.1=some .free
 v9:∀(j i:Nat),cap[j]?=some (some i)->∃x,N'[j]?=some x/\X.N[i]?=some x/\scope.names.lookup x=some .free
 len:cap.length=N'.length
section
variable{X:Cx}{scope:Scope}{N':List Str}{cap:List (Option Nat)}{pins:List (Addr×Obj)}{σ:St}{H:Hp}{s:Shared}
theorem fI.frees(B:fI X scope N' cap)(ok:X.Ok):∀y∈scope.names,y.2= .free->∃c,X.env.cells.lookup y.1=some c:=λy hy hf=>ok.has y.1 (B.free y hy hf)
theorem fI.up(B:fI X scope N' cap)(ok:X.Ok){x:Str}{c:Addr}(h:(fK scope X.env).lookup x=some c):X.env.cells.lookup x=some c:=
 jQ scope.names [] (B.frees ok) (λ_ z=>by simp at z) h
theorem fI.qT(B:fI X scope N' cap){x:Str}(h:scope.names.lookup x=some .free):(x,NameKind.cell)∉scope.names:=λz=>by have:=B.nd _ z;rw[h]at this;cases this
theorem sC{xe:Value->Shared->Prop}(B:fI X scope N' cap)(I:Inv X pins σ H s){fp:List Addr}{tk:Nat}(hf:∀b∈fp,iO X pins H b)(cO:∀b∈fp,b<s.heap.objs.size):
  Inv (gR X scope N' s.heap.objs.size s H fp xe) [] (c8 cap σ) H {s with heap:=pushCells (s.heap.push {cls:=.type "dict",data:=.dict #[]}) scope.names,toks:=tk}:=by
 have ok:=I.ok;have hz:(s.heap.push {cls:=.type "dict",data:=.dict #[]}).objs.size=s.heap.objs.size+1:=Sa ..;have hk:∀b o,s.heap.get? b=some o->(pushCells (s.heap.push {cls:=.type "dict",data:=.dict #[]}) scope.names).get? b=some o:=λb o e=>Vu _ _ _ _ (Rv _ e)
 have xq:(pushCells (s.heap.push {cls:=.type "dict",data:=.dict #[]}) scope.names).Ns s.heap.objs.size λ_=>none:=(Heap.Ns.new s.heap (.type "dict")).keeps (Vu _ _)
 have Pp:∀x c,(fK scope X.env).lookup x=some c->c<s.heap.objs.size:=λx c h=>by obtain⟨v,z⟩:=I.cell x c (B.up ok h);exact z.lt
 have yc:∀x c,(cellsFrom (s.heap.objs.size+1) scope.names (fK scope X.env)).lookup x=some c->(s.heap.objs.size+1<=c/\(x,NameKind.cell)∈scope.names)\/X.env.cells.lookup x=some c:=λx c h=>(gw _ _ _ h).imp id (B.up ok)
 have sV:∀x,scope.names.lookup x=some .free->(compEnvC scope (cellsFrom (s.heap.objs.size+1) scope.names (fK scope X.env)) s.heap.objs.size X.env).kindOf x=some .cell\/(compEnvC scope (cellsFrom (s.heap.objs.size+1) scope.names (fK scope X.env)) s.heap.objs.size X.env).kindOf x=some .free:=λx hx=>by
  have q:=aZ (env:=X.env) hx;by_cases hc:(NameKind.free==NameKind.free&&X.env.scope.kind== .function&&X.env.kindOf x==some .cell)=true
  ·rw[Vl hc]at q;exact .inl q
  ·rw[Vk hc]at q;exact .inr q
 refine⟨⟨ok.mod,?kind,ok.glob,ok.blt,RE _,?inj,?has,?Es,ok.hd,ok.frames,.inl rfl,?HZ,I.bs,RK ok.C5 I.sz,?tw,?we,I.stack,I.vE⟩,
  rfl,I.bare,Un.kept hk,⟨_,xq,?loc⟩,?cell,I.hok.fresh (RE _),?eJ,?pin,I.hok.kept hk,?len⟩
 case kind=>exact B.kind
 case inj=>exact λx y c h1 h2=>sG _ _ _ (λx c h=>UT (Pp x c h)) (λx y c h1 h2=>ok.inj x y c (B.up ok h1) (B.up ok h2)) h1 h2
 case has=>
  intro x hx;cases hl:scope.names.lookup x with
  |none=>
   have q:=bX (env:=X.env) hl;exact absurd hx (by
    have q':(compEnvC scope (cellsFrom (s.heap.objs.size+1) scope.names (fK scope X.env)) s.heap.objs.size X.env).kindOf x=none:=q;show¬((compEnvC scope (cellsFrom (s.heap.objs.size+1) scope.names (fK scope X.env)) s.heap.objs.size X.env).kindOf x=some .cell\/(compEnvC scope (cellsFrom (s.heap.objs.size+1) scope.names (fK scope X.env)) s.heap.objs.size X.env).kindOf x=some .free);rw[q'];simp)
  |some k=>
   have q:(compEnvC scope (cellsFrom (s.heap.objs.size+1) scope.names (fK scope X.env)) s.heap.objs.size X.env).kindOf x=some (if (k==NameKind.free&&X.env.scope.kind== .function&&X.env.kindOf x==some .cell) then NameKind.cell else k):=aZ (env:=X.env) hl;have hm:=Vd hl;by_cases EM:k= .free
   ·subst EM;obtain⟨c,G9⟩:=kZ (env:=X.env) scope.names [] (.inl hm);exact⟨c,oK _ _ _ (B.qT hl) G9⟩
   ·have hb:(k==NameKind.free)=false:=by simpa using EM
    have za:(compEnvC scope (cellsFrom (s.heap.objs.size+1) scope.names (fK scope X.env)) s.heap.objs.size X.env).kindOf x=some .cell\/(compEnvC scope (cellsFrom (s.heap.objs.size+1) scope.names (fK scope X.env)) s.heap.objs.size X.env).kindOf x=some .free:=hx;rw[q,hb]at za;simp only[Bool.false_and,SG,Vj,Option.some.injEq]at za;rcases za with z|z
    ·subst z;exact Option.isSome_iff_exists.mp (Vb scope.names _ _ (.inl hl))
    ·exact absurd z EM
 case Es=>
  intro x c yQ h;have yQ:(scope.names.lookup x==some .cell)=true:=yQ;rcases gw _ _ _ h with ⟨h1,_⟩|h1
  ·exact RK (UQ _) h1
  ·exfalso;have e:=R3 yQ;have:∀(l:List (Str×NameKind))(cs:List (Str×Addr)),(∀c,cs.lookup x≠some c)->(∀y∈l,y.1=x->y.2≠ .free)->(oM X.env l cs).lookup x=none:=by
    intro l
    induction l with
    |nil=>
     intro cs BC _;cases hq:cs.lookup x with
     |none=>exact hq
     |some c=>exact absurd hq (BC c)
    |cons y l ih=>
     intro cs BC hl;obtain⟨n,k⟩:=y;show (oM X.env l (if (k==NameKind.free)=true then(n,(X.env.cells.lookup n).getD 0)::cs else cs)).lookup x=none;refine ih _ (λc=>?_) λy hy=>hl y (RC _ hy)
     by_cases hk:(k==NameKind.free)=true
     ·rw[Vl hk,R6];have:(x==n)=false:=by
       cases hq:x==n with
       |false=>rfl
       |true=>
        have e1:x=n:=by simpa using hq
        have e2:k=NameKind.free:=by simpa using hk
        exact absurd e2 (hl (n,k) RF e1.symm)
      rw[this];exact BC c
     ·rw[Vk hk];exact BC c
   have q:=this scope.names [] (λc z=>by simp at z) λy hy e1 e2=>by have:=B.nd y hy;rw[e1,e2,e]at this;cases this
   unfold fK at h1;rw[q]at h1;cases h1
 case HZ=>
  intro b hb;refine⟨Sb (cO b hb),λx c e=>?_⟩;rcases yc x c e with ⟨h1,_⟩|h1
  ·intro z;subst z;exact absurd (RZ (cO c hb) (RK (UQ _) h1)) (UR _)
  ·exact(hf b hb).2.2.2.2.1 x c h1
 case tw=>
  intro b o e hb;rcases (hf b hb).2.2.2.1 with z|z
  ·exact ok.tw b o e z
  ·exact absurd (RZ (RJ (ok.bs b o e).1) z) (UR _)
 case we=>
  intro b hb hs;rcases RL.mp (I.pN b hs)with z|z
  ·exact(hf b hb).2.1 z
  ·exact(hf b hb).2.2.1 z
 case loc=>
  intro j x v h1 h2 h3;have hj:∃i,cap[j]?=some (some i)/\(σ[i]?).join=some v:=by
   unfold c8 at h2;rw[RW]at h2;cases hc:cap[j]? with
   |none=>rw[hc]at h2;cases h2
   |some o=>
    rw[hc]at h2;cases o with
    |none=>cases h2
    |some i=>exact⟨i,rfl,by simpa using h2⟩
  obtain⟨i,hc,hv⟩:=hj;obtain⟨x',e1,e2,e3⟩:=B.v9 j i hc;have ex:x'=x:=by have LV:N'[j]?=some x:=h1;rw[LV]at e1;injection e1 with e1;exact e1.symm
  subst ex;have E6:σ[i]?=some (some v):=by
   cases q:σ[i]? with
   |none=>rw[q]at hv;cases hv
   |some o=>rw[q]at hv;cases o with
    |none=>cases hv
    |some z=>simp at hv;rw[hv]
  have IM:=B.free _ (Vd e3) rfl;obtain⟨m,hn,hl⟩:=I.loc;obtain⟨u,r,l⟩:=hl i x' v e2 E6 (.inr IM);refine⟨u,r,?_⟩;obtain⟨c,G9⟩:=kZ (env:=X.env) scope.names [] (.inl (Vd e3));have Ox:=B.up ok G9;rcases l with ⟨k,_⟩|⟨k,c',e,z⟩
  ·exfalso;have k':X.env.scope.names.lookup x'=some .local:=k;rcases IM with q|q
   ·rw[k']at q;cases q
   ·rw[k']at q;cases q
  ·have Pu:c'=c:=by rw[e]at Ox;injection Ox
   subst Pu;exact .inr ⟨sV x' e3,c',oK _ _ _ (B.qT e3) G9,by obtain⟨o,ho,hd⟩:=z;exact⟨o,hk _ _ ho,hd⟩⟩
 case cell=>intro x c e;refine kY scope.names (s.heap.push {cls:=.type "dict",data:=.dict #[]}) (fK scope X.env) (λa b fN=>?_) (by rw[hz];exact e);obtain⟨v,o,ho,hd⟩:=I.cell a b (B.up ok fN);exact⟨v,o,Rv _ ho,hd⟩
 case eJ=>
  intro x c e;rcases yc x c e with ⟨h1,_⟩|h1
  ·exact I.hok.fresh (RK (UQ _) h1)
  ·exact I.eJ x c h1
 case pin=>intro p hp;cases hp
 case len=>show (c8 cap σ).length=N'.length;unfold c8;rw[RI];exact B.len
noncomputable def CY(X:Cx)(C:Addr)(x:Value)(s':Shared):Prop:=∃m,s'.heap.Ns C m/\∀h',Heap.SameBut C s'.heap h'->∀yd:Env,yd.locals=C->wpAny (model X.prog X.w) X.A (passOn "comprehension.variables-let-go" x yd:Sem Value) (λ_ _=>False) X.xe {s' with heap:=h'}
structure Bc(X:Cx)(scope:Scope)(N':List Str)(xb:Addr->Shared->Hp->List Addr->Value->Shared->Prop):Prop where
 note:∀(pins:List (Addr×Obj))(σ:St)(C:Addr)(s s1:Shared)(H H1:Hp)(fp:List Addr)x s',Inv X pins σ H1 s1->(∀b∈fp,iO X pins H1 b)->s1.heap.objs.size<C->s={s1 with heap:=s1.heap.push {cls:=.type "list",data:=.seq ([]:List Value).toArray},toks:=s1.toks}->H=upd H1 s1.heap.objs.size (.lst [])->C=s.heap.objs.size->
  xb C s H fp x s'->notedBy (model X.prog X.w) X.A (gR X scope N' C s H fp (xb C s H fp)).env (CY X C) x s'
variable{elt tg iter:Expr}{ifs:List Expr}{pos:Pos}{wi:TI}{g:TG}{tt:TT}
theorem nr{gens:List Comprehension}{xb:Addr->Shared->Hp->List Addr->Value->Shared->Prop}{pins:List (Addr×Obj)}{σ:St}{H2:Hp}{s2:Shared}{it:Addr}{fp:List Addr}{tn:Nat->Heap->Prop}{J:It}{F:Hp->Prop}{tb:Addr->TB}{body:Value->Env->Sem Unit}{p:Pos}{RR:Value->Addr->Result->Shared->Prop}(hc:X.calm=true)(B:fI X scope N' cap)(hX:Bc X scope N' xb)
  (heq:∀pX acc env,compTurn (.ListComp elt (⟨tg,iter,ifs,0⟩::gens) scope pos) 0 pX acc env=ej (.ListComp elt (⟨tg,iter,ifs,0⟩::gens) scope pos) 0 pX acc env tg ifs p (body acc env))
  (mB:GL (c8 cap σ) g) (hg:∀C s H fp,PG (gR X scope N' C s H fp (xb C s H fp)) tg g) (ht:∀C s H fp,CW (gR X scope N' C s H fp (xb C s H fp)) ifs tt) (hb:∀C s H fp D,PB (gR X scope N' C s H fp (xb C s H fp)) (body (.ref D) (gR X scope N' C s H fp (xb C s H fp)).env) (tb D))
  (I2:Inv X pins σ H2 s2) (T:Turn X.prog X.w X.K tg J fp it tn) (dR:tn 0 s2.heap) (f2:∀b∈fp,iO X pins H2 b) (hF:p9 J g tt (tb s2.heap.objs.size) (c8 cap σ) F (upd H2 s2.heap.objs.size (.lst [])))
  (P3:∀C s' H' m,s2.heap.objs.size<C->Inv X pins σ H' s'->s'.heap.Ns C m->iO X pins H' C->F H'->RR (.ref s2.heap.objs.size) C (.ok .next) s') (Ot:∀C x s',CY X C x s'->RR (.ref s2.heap.objs.size) C (.error x) s') {E:Value->Shared->Prop}:
  wpAny (model X.prog X.w) X.A (newList []) (λacc s₃=>wpAny (model X.prog X.w) X.A (newFunctionEnv scope X.env.globals (fK scope X.env) [] X.env.qual none .none (some X.env)) (λyd s₄=>
   codeAny (model X.prog X.w) X.A (.compStart (.ListComp elt (⟨tg,iter,ifs,0⟩::gens) scope pos) 0 (.ref it) acc {yd with scope:=relabel scope X.env}) (RR acc yd.locals) s₄) E s₃) E s2:=by
 refine VC (rN λh₁ hh₁=>?_);have I3:=I2.Jd (ys:=[]) (its:=[]) (t':=s2.toks) .nil (U1 _);dsimp only at hh₁ ⊢;have hC:(s2.heap.push {cls:=.type "list",data:=.seq ([]:List Value).toArray}).objs.size=s2.heap.objs.size+1:=Sa ..;generalize hD:s2.heap.objs.size=D at *;have AO:∀b∈fp,b<D:=λb hb=>by obtain⟨o,e,_⟩:=T.obj 0 _ dR b hb;rw[<-hD];exact RJ e
 have f3:∀b∈fp,iO X pins (upd H2 D (.lst [])) b:=λb hb=>⟨by rw[aJ (Sb (AO b hb))];exact(f2 b hb).1,(f2 b hb).2⟩
 generalize hs3:({s2 with heap:=s2.heap.push {cls:=.type "list",data:=.seq ([]:List Value).toArray},toks:=s2.toks}:Shared)=s3 at I3;have y9:s3.heap=s2.heap.push {cls:=.type "list",data:=.seq ([]:List Value).toArray}:=by rw[<-hs3]
 have Df:s3.heap.objs.size=D+1:=by rw[y9];exact hC
 have IB:=sC (xe:=xb s3.heap.objs.size s3 (upd H2 D (.lst [])) fp) (tk:=s2.toks) B I3 f3 (λb hb=>by rw[Df];exact UT (AO b hb));have hk:∀b o,s3.heap.get? b=some o->(pushCells (s3.heap.push {cls:=.type "dict",data:=.dict #[]}) scope.names).get? b=some o:=λb o e=>Vu _ _ _ _ (Rv _ e)
 rw[<-y9]at hh₁;rw[<-hh₁]at IB hk;have e4:({s3 with heap:=h₁,toks:=s2.toks}:Shared)={s2 with heap:=h₁}:=by rw[<-hs3]
 rw[e4]at IB;rw[hC];have pM:∀{H':Hp},(∀b∈fp,H' b=none)->∀b∈fp,iO (gR X scope N' s3.heap.objs.size s3 (upd H2 D (.lst [])) fp (xb s3.heap.objs.size s3 (upd H2 D (.lst [])) fp)) [] H' b:=λhn b hb=>
  ⟨hn b hb,by show b≠s3.heap.objs.size;rw[Df];exact Sb (UT (AO b hb)),λz=>(by
   rcases RL.mp (I3.pN b z)with q|q
   ·exact(f3 b hb).2.1 q
   ·exact(f3 b hb).2.2.1 q),.inl hb,(IB.ok.HZ b hb).2,λp hp=>absurd hp (by intro z;cases z)⟩
 have loop:∀s':Shared,s'={s2 with heap:=h₁}->codeAny (model X.prog X.w) X.A (.compLoop (.ListComp elt (⟨tg,iter,ifs,0⟩::gens) scope pos) 0 (.ref it) (.ref D) (gR X scope N' s3.heap.objs.size s3 (upd H2 D (.lst [])) fp (xb s3.heap.objs.size s3 (upd H2 D (.lst [])) fp)).env)
   (RR (.ref D) (D+1)) s':=by
  rintro s' rfl;refine ny (X:=gR X scope N' s3.heap.objs.size s3 (upd H2 D (.lst [])) fp (xb s3.heap.objs.size s3 (upd H2 D (.lst [])) fp)) hc (heq _ _ _) (λx s' q=>?_) (hg _ _ _ _) mB (ht _ _ _ _) (hb _ _ _ _ D) IB T (T.keep _ _ _ dR (λb hb o e=>hk b o (by rw[y9];exact Rv _ e))) (pM λb hb=>(f3 b hb).1) hF λs5 H5 I5 qn=>?_
  ·have z:=hX.note pins σ s3.heap.objs.size s3 s2 (upd H2 D (.lst [])) H2 fp x s' I2 f2 (by rw[Df,hD];exact UU _) hs3.symm (by rw[hD]) rfl q;rw[Df]at z;exact VB z (λ_ s'' w=>Ot (D+1) x s'' w) λy s'' w=>Ot (D+1) y s'' w
  ·obtain⟨m5,Qo,_⟩:=I5.loc;have un:Un (j7 X.stack) fp H2 H5 s2.heap s5.heap:=by
    have u1:Un (j7 X.stack) fp H2 (upd H2 D (.lst [])) s2.heap s3.heap:=by rw[y9];exact Un.laid (λb u e=>Rv _ e) (by rw[hD];exact RE _) (by rw[<-hD];exact I2.fresh)
    exact u1.trans I5.base
   have hI:Inv X pins σ H5 s5:=I2.HG (ch:=fp) (I5.os.trans (by show s3.os=s2.os;rw[<-hs3])) un I5.hok I5.bare λb hb=>⟨(f2 b hb).2.2.2.1,(f2 b hb).2.1,(f2 b hb).2.2.2.2.1,(f2 b hb).2.2.2.2.2⟩
   have My:s5.heap.Ns (D+1) m5:=by have q:s5.heap.Ns s3.heap.objs.size m5:=Qo;rw[Df]at q;exact q
   have L6:H5 (D+1)=none:=by have q:H5 s3.heap.objs.size=none:=I5.free;rw[Df]at q;exact q
   exact P3 (D+1) s5 H5 m5 (UU _) hI My (I2.yA (by rw[hD];exact UQ _) L6) qn
 have LX:({newEnv scope (D+1) X.env.globals (cellsFrom (D+1+1) scope.names (fK scope X.env)) X.env.qual none .none (some X.env) builtinsNs with scope:=relabel scope X.env}:Env)=(gR X scope N' s3.heap.objs.size s3 (upd H2 D (.lst [])) fp (xb s3.heap.objs.size s3 (upd H2 D (.lst [])) fp)).env:=by unfold gR;rw[Df];rfl
 have go:=codeAny_compStart_list (loop _ rfl) (T.self X.A 0 _ _ _ (T.keep _ _ _ dR (λb hb o e=>hk b o (by rw[y9];exact Rv _ e))) (loop _ rfl));rw[<-LX]at go;exact go
end
noncomputable def pQ(cap:List (Option Nat))(wi:TI)(g:TG)(tt:TT)(tb:Addr->TB):TE:=λσ H Q=>wi σ H λJ H1=>∀D,H1 D=none->GL (c8 cap σ) g/\p9 J g tt (tb D) (c8 cap σ) (λH'=>Q (.ref D) H') (upd H1 D (.lst []))
section
variable{X:Cx}{scope:Scope}{N':List Str}{cap:List (Option Nat)}{elt tg iter:Expr}{ifs:List Expr}{gens:List Comprehension}{pos p:Pos}{wi:TI}{g:TG}{tt:TT}{tb:Addr->TB}{body:Value->Env->Sem Unit}{xb:Addr->Shared->Hp->List Addr->Value->Shared->Prop}
theorem qW(hc:X.calm=true)(B:fI X scope N' cap)(hX:Bc X scope N' xb)(hi:PI X tg iter wi)(heq:∀pX acc env,compTurn (.ListComp elt (⟨tg,iter,ifs,0⟩::gens) scope pos) 0 pX acc env=ej (.ListComp elt (⟨tg,iter,ifs,0⟩::gens) scope pos) 0 pX acc env tg ifs p (body acc env))
  (hg:∀C s H fp,PG (gR X scope N' C s H fp (xb C s H fp)) tg g) (ht:∀C s H fp,CW (gR X scope N' C s H fp (xb C s H fp)) ifs tt) (hb:∀C s H fp D,PB (gR X scope N' C s H fp (xb C s H fp)) (body (.ref D) (gR X scope N' C s H fp (xb C s H fp)).env) (tb D))
  (hs:∀x,foldedSetIterable iter X.env x=pure x:=by intro _;rfl):PE X (.ListComp elt (⟨tg,iter,ifs,0⟩::gens) scope pos) (pQ cap wi g tt tb):=by
 intro pins s σ H Q I h;rw[eval_ListComp];refine wpAny_comprehension_free (use:=none) rfl hs (gY (B.frees I.ok)) B.kind (λy hy e=>by rw[B.nd y hy,e]) (bY (hi pins s σ H _ I h) λx s₁ h₁=>bY h₁ λpX s₂ h₂=>?_);obtain⟨it,fp,tn,J,H2,e,I2,T,dR,f2,hF⟩:=h₂;subst e;obtain⟨mB,hW⟩:=hF _ I2.fresh;refine nr (RR:=λacc C=>compPost (model X.prog X.w) X.A X.xe none (EP X pins σ Q) acc C) hc B hX heq mB hg ht hb I2 T dR f2 hW (λC s' H' m hC I' hn fC q=>?_) λC x s' z=>z
 refine⟨m,hn,λh' E2=>⟨.ref _,H',I'.turned (t':=s'.toks) (λb o hb e=>(E2.2 b hb).trans e) fC.1 fC.2.1 fC.2.2.2.1 fC.2.2.2.2.1 fC.2.2.2.2.2,rfl,q⟩⟩
theorem j3{i:Nat}{x:Str}{pos' J8:Pos}(hc:X.calm=true)(hN:X.N.Nodup)(Hb:X.N[i]?=some x)(hx:X.env.kindOf x=some .local)(B:fI X scope N' cap)(hX:Bc X scope N' xb)(hi:PI X tg iter wi)(heq:∀pX acc env,compTurn (.ListComp elt (⟨tg,iter,ifs,0⟩::gens) scope pos) 0 pX acc env=ej (.ListComp elt (⟨tg,iter,ifs,0⟩::gens) scope pos) 0 pX acc env tg ifs p (body acc env))
  (hg:∀C s H fp,PG (gR X scope N' C s H fp (xb C s H fp)) tg g) (ht:∀C s H fp,CW (gR X scope N' C s H fp (xb C s H fp)) ifs tt) (hb:∀C s H fp D,PB (gR X scope N' C s H fp (xb C s H fp)) (body (.ref D) (gR X scope N' C s H fp (xb C s H fp)).env) (tb D))
  (hs:∀x,foldedSetIterable iter X.env x=pure x:=by intro _;rfl)
  (E5:swapsWith (.ListComp elt (⟨tg,iter,ifs,0⟩::gens) scope pos) (some (.Name x pos')) J8.line X.env=pure true:=by rfl):
  PS X (.Assign [.Name x pos'] (.ListComp elt (⟨tg,iter,ifs,0⟩::gens) scope pos) J8) (pP (pQ cap wi g tt tb) (eM i)):=by
 intro pins s σ H D I h;rw[exec_Assign_Name_used _ _ _ _ E5];refine Rr (VJ (Rr ?_));show wpAny _ X.A (do let _<-comprehension (.ListComp elt (⟨tg,iter,ifs,0⟩::gens) scope pos) scope X.env _ (newList []) false (eval iter X.env) (some (assign (.Name x pos') X.env))) _ _ s;refine Rr (VB (wpAny_comprehension_free (use:=some (assign (.Name x pos') X.env)) (Q:=λ_ s'=>SP X pins D .next s') rfl hs (gY (B.frees I.ok)) B.kind (λy hy e=>by rw[B.nd y hy,e]) (bY (hi pins s σ H _ I h) λx s₁ h₁=>bY h₁ λpX s₂ h₂=>?_))
  (λ_ s' hq=>Rw (Rw hq)) λ_ _ e=>e)
 obtain⟨it,fp,tn,J,H2,e,I2,T,dR,f2,hF⟩:=h₂;subst e;obtain⟨mB,hW⟩:=hF _ I2.fresh;refine nr (RR:=λacc C=>compPost (model X.prog X.w) X.A X.xe (some (assign (.Name _ pos') X.env)) (λ_ s'=>SP X pins D .next s') acc C) hc B hX heq mB hg ht hb I2 T dR f2 hW (λC s' H' m hC I' hn fC q=>?_) λC x s' z=>z
 show wpAny _ X.A (assign (.Name _ pos') X.env (.ref _)) _ _ _;refine wpAny_assign_Name (n9 (v:=.ref _) I' hN Hb (.inl hx) rfl (λs3 I3 E2=>?_) (.inr hx));obtain⟨a,sb,ha⟩:=E2;have PQ:C≠a:=by
  rcases ha with rfl|ha
  ·exact fC.2.1
  ·exact U2 (fC.2.2.2.2.1 _ a ha)
 refine⟨m,hn.sameBut sb PQ,λh' hsb'=>?_⟩;exact⟨_,H',I3.turned (t':=s3.toks) (λb o hb e=>(hsb'.2 b hb).trans e) fC.1 fC.2.1 fC.2.2.2.1 fC.2.2.2.2.1 fC.2.2.2.2.2,q⟩
end
inductive oz(X:Cx)(E:XK)(e:Value)(s':Shared):Prop
noncomputable def xj(_:Program)(_:World):kP:=λ_ _ _ _ _ _=>False
structure iR(X:Cx):Prop where
 pn:X.pn=[]
 st:True
section
variable{X:Cx}{E:XK}
theorem Gz{CX:kP}{P:Program}{w:World}{K:PySem.W.Frag}{mg:Str->Option Value}{base:Heap}{N:List Str}{qual:Str}{scope:Scope}{f:Addr}{cd:Value}{A:Around}{outer:List Env}{s:Shared}{H:Hp}:iR (ql CX P w K mg base N qual scope f cd A outer s H E):=⟨rfl,trivial⟩
theorem CJ{scope:Scope}{N':List Str}{C:Addr}{s:Shared}{H:Hp}{fp:List Addr}{xe:Value->Shared->Prop}(st:iR X):iR (gR X scope N' C s H fp xe):=⟨rfl,trivial⟩
theorem AF{pins:List (Addr×Obj)}{σ:St}{H:Hp}{s s':Shared}{e:Value}(I:Inv X pins σ H s)(Rm:X.pn=[])(c:xj X.prog X.w X.stack H s E e s'):oz X E e s':=False.elim c
theorem CU(st:iR X)(hx:∀e s',oz X E e s'->X.xe e s')(zb:∀e s',X.xe e s'->oz X E e s'):PassesOwn (model X.prog X.w) X.A X.env X.xe:=λe s' h=>by cases zb e s' h
end
section
variable{X:Cx}{E:XK}{scope:Scope}{N':List Str}
noncomputable def xu(X:Cx)(scope:Scope)(N':List Str)(E:XK)(C:Addr)(s:Shared)(H:Hp)(fp:List Addr):Value->Shared->Prop:=oz (gR X scope N' C s H fp λ_ _=>False) E
theorem GU{C:Addr}{s:Shared}{H:Hp}{fp:List Addr}{e:Value}{s':Shared}{xe:Value->Shared->Prop}(h:oz (gR X scope N' C s H fp xe) E e s'):xu X scope N' E C s H fp e s':=by cases h
theorem vf{C:Addr}{s:Shared}{H:Hp}{fp:List Addr}(st:iR X):PassesOwn (model X.prog X.w) X.A (gR X scope N' C s H fp (xu X scope N' E C s H fp)).env (xu X scope N' E C s H fp):=λ_ _ h=>by cases h
theorem kO(st:iR X)(Rp:∀e s',oz X E e s'->X.xe e s'):Bc X scope N' (xu X scope N' E):=⟨λpins σ C s s1 H H1 fp x s' I1 f1 hC hs hH Df hxb=>by cases hxb⟩
end
end L2
end
section
namespace Rx
open PySem PySem.W PySem.Spec PyProof.Rows L2 PySem.SeqAt
inductive Dt where
 |aW|bl (b:Bool)|int (i:Int)|str (x:Str)|tup (ds:List Dt)|lst (ds:List Dt)|dC (ns:List Int)
 |gA (ks vs:List Dt)|obj (ks:List Str) (vs:List Dt)|exc (c:Nat)
noncomputable abbrev Frag:=PySem.W.Frag
noncomputable def KL(K:Frag)(a:Addr)(xs:List V):Prop:=∃(o:Obj)(its:Array Value)(n:Nat),K.lookup a=some o/\o.cls= .type "list"/\o.dict=none/\o.data= .seq its n/\its.size<=sizeLine/\ar xs its.toList
mutual
noncomputable def RV(K:Frag)(A:Addr->Prop)(H:Hp):V->Dt->Prop
 |x,.aW=>x= .aW
 |x,.bl b=>x= .bl b
 |x,.int i=>x= .int i
 |x,.str z=>x= .str z
 |x,.tup ds=>∃a xs,x= .ref a/\H a=some (.tup xs)/\aq K A H xs ds
 |x,.lst ds=>∃a xs,x= .ref a/\H a=some (.lst xs)/\¬A a/\aq K A H xs ds
 |x,.dC ns=>∃a,x= .ref a/\((Rd H a (.lst (ns.map V.int))/\¬A a)\/KL K a (ns.map V.int))
 |_,.gA _ _=>False
 |x,.obj ks vs=>∃a cY,x= .ref a/\H a=some (.dK cY)/\¬A a/\cY.map (·.1)=ks.map Sum.inr/\aq K A H (cY.map (·.2)) vs
 |_,.exc _=>False
noncomputable def aq(K:Frag)(A:Addr->Prop)(H:Hp):List V->List Dt->Prop
 |[],[]=>True
 |x::xs,d::ds=>RV K A H x d/\aq K A H xs ds
 |[],_::_=>False
 |_::_,[]=>False
end
section
variable{K:Frag}{A B:Addr->Prop}{H H':Hp}
theorem RV.az{x:V}(h:RV K A H x .aW):x= .aW:=by unfold RV at h;exact h
theorem RV.ay{x:V}{b}(h:RV K A H x (.bl b)):x= .bl b:=by unfold RV at h;exact h
theorem RV.int_inv{x:V}{b}(h:RV K A H x (.int b)):x= .int b:=by unfold RV at h;exact h
theorem RV.str_inv{x:V}{b}(h:RV K A H x (.str b)):x= .str b:=by unfold RV at h;exact h
theorem RV.ae{x:V}{ds}(h:RV K A H x (.tup ds)):∃a xs,x= .ref a/\H a=some (.tup xs)/\aq K A H xs ds:=by unfold RV at h;exact h
theorem RV.lst_inv{x:V}{ds}(h:RV K A H x (.lst ds)):∃a xs,x= .ref a/\H a=some (.lst xs)/\¬A a/\aq K A H xs ds:=by unfold RV at h;exact h
theorem RV.d4{x:V}{ns}(h:RV K A H x (.dC ns)):∃a,x= .ref a/\((Rd H a (.lst (ns.map V.int))/\¬A a)\/KL K a (ns.map V.int)):=by unfold RV at h;exact h
theorem RV.jL{x:V}{ns}(h:RV K A H x (.dC ns)):∃a,x= .ref a/\df K H a (ns.map V.int):=by
 obtain⟨a,e,h|h⟩:=h.d4
 ·exact⟨a,e,.inl h.1⟩
 ·exact⟨a,e,.inr h⟩
theorem RV.gC{x:V}{ks vs}(h:RV K A H x (.gA ks vs)):False:=by unfold RV at h;exact h
theorem RV.jg{x:V}{ks vs}(h:RV K A H x (.obj ks vs)):∃a cY,x= .ref a/\H a=some (.dK cY)/\¬A a/\cY.map (·.1)=ks.map Sum.inr/\aq K A H (cY.map (·.2)) vs:=by unfold RV at h;exact h
theorem RV.gD{x:V}{ks}(h:RV K A H x (.exc ks)):False:=by unfold RV at h;exact h
theorem RV.iD:RV K A H .aW .aW:=by unfold RV;rfl
theorem RV.qQ{b}:RV K A H (.bl b) (.bl b):=by unfold RV;rfl
theorem RV.cU{b}:RV K A H (.int b) (.int b):=by unfold RV;rfl
theorem RV.jG{b}:RV K A H (.str b) (.str b):=by unfold RV;rfl
theorem RV.d9{a xs ds}(h:H a=some (.tup xs))(t:aq K A H xs ds):RV K A H (.ref a) (.tup ds):=by unfold RV;exact⟨a,xs,rfl,h,t⟩
theorem RV.d8{a xs ds}(h:H a=some (.lst xs))(n:¬A a)(t:aq K A H xs ds):RV K A H (.ref a) (.lst ds):=by unfold RV;exact⟨a,xs,rfl,h,n,t⟩
theorem RV.tq{a cY ks vs}(h:H a=some (.dK cY))(n:¬A a)(e:cY.map (·.1)=ks.map Sum.inr)(t:aq K A H (cY.map (·.2)) vs):RV K A H (.ref a) (.obj ks vs):=by unfold RV;exact⟨a,cY,rfl,h,n,e,t⟩
theorem aq.nil:aq K A H [] []:=by unfold aq;trivial
theorem aq.cons{x d xs ds}(h:RV K A H x d)(t:aq K A H xs ds):aq K A H (x::xs) (d::ds):=by unfold aq;exact⟨h,t⟩
theorem aq.nil_inv{xs}(h:aq K A H xs []):xs=[]:=by
 cases xs with
 |nil=>rfl
 |cons=>unfold aq at h;exact h.elim
theorem aq.dN{ds}(h:aq K A H [] ds):ds=[]:=by
 cases ds with
 |nil=>rfl
 |cons=>unfold aq at h;exact h.elim
theorem aq.cons_inv{xs d ds}(h:aq K A H xs (d::ds)):∃x r,xs=x::r/\RV K A H x d/\aq K A H r ds:=by
 cases xs with
 |nil=>unfold aq at h;exact h.elim
 |cons x r=>unfold aq at h;exact⟨x,r,rfl,h⟩
theorem aq.wb{x xs ds}(h:aq K A H (x::xs) ds):∃d r,ds=d::r/\RV K A H x d/\aq K A H xs r:=by
 cases ds with
 |nil=>unfold aq at h;exact h.elim
 |cons d r=>unfold aq at h;exact⟨d,r,rfl,h⟩
theorem aq.length:∀{xs ds},aq K A H xs ds->xs.length=ds.length
 |[],[],_=>rfl
 |[],_::_,h=>by unfold aq at h;exact h.elim
 |_::_,[],h=>by unfold aq at h;exact h.elim
 |_::xs,_::ds,h=>by unfold aq at h;simp[aq.length h.2]
theorem aq.get:∀{xs ds}{i:Nat}{x},aq K A H xs ds->xs[i]?=some x->∃d,ds[i]?=some d/\RV K A H x d
 |[],_,_,_,_,e=>by simp at e
 |_::_,[],_,_,h,_=>by unfold aq at h;exact h.elim
 |_::_,_::_,0,_,h,e=>by unfold aq at h;simp at e;subst e;exact⟨_,rfl,h.1⟩
 |_::xs,_::ds,i+1,x,h,e=>by unfold aq at h;obtain⟨d,e1,e2⟩:=aq.get (i:=i) h.2 (by simpa using e);exact⟨d,by simpa using e1,e2⟩
theorem aq.getD:∀{xs ds}{i:Nat}{d},aq K A H xs ds->ds[i]?=some d->∃x,xs[i]?=some x/\RV K A H x d
 |_,[],_,_,_,e=>by simp at e
 |[],_::_,_,_,h,_=>by unfold aq at h;exact h.elim
 |_::_,_::_,0,_,h,e=>by unfold aq at h;simp at e;subst e;exact⟨_,rfl,h.1⟩
 |_::xs,_::ds,i+1,x,h,e=>by unfold aq at h;obtain⟨d,e1,e2⟩:=aq.getD (i:=i) h.2 (by simpa using e);exact⟨d,by simpa using e1,e2⟩
theorem aq.append:∀{xs ys ds es},aq K A H xs ds->aq K A H ys es->aq K A H (xs++ys) (ds++es)
 |[],_,[],_,_,h=>h
 |[],_,_::_,_,h,_=>by unfold aq at h;exact h.elim
 |_::_,_,[],_,h,_=>by unfold aq at h;exact h.elim
 |_::xs,ys,_::ds,es,h,h'=>by unfold aq at h;exact aq.cons h.1 (aq.append h.2 h')
theorem aq.take:∀{xs ds}(n:Nat),aq K A H xs ds->aq K A H (xs.take n) (ds.take n)
 |[],ds,n,h=>by rw[h.dN];simp;exact aq.nil
 |x::xs,[],n,h=>by unfold aq at h;exact h.elim
 |x::xs,d::ds,0,h=>by simp;exact aq.nil
 |x::xs,d::ds,n+1,h=>by unfold aq at h;simp only[UI];exact aq.cons h.1 (aq.take n h.2)
theorem aq.drop:∀{xs ds}(n:Nat),aq K A H xs ds->aq K A H (xs.drop n) (ds.drop n)
 |[],ds,n,h=>by rw[h.dN];simp;exact aq.nil
 |x::xs,[],n,h=>by unfold aq at h;exact h.elim
 |x::xs,d::ds,0,h=>h
 |x::xs,d::ds,n+1,h=>by unfold aq at h;simp only[TF];exact aq.drop n h.2
theorem aq.set:∀{xs ds}(n:Nat){x d},aq K A H xs ds->RV K A H x d->aq K A H (xs.set n x) (ds.set n d)
 |[],ds,n,_,_,h,_=>by rw[h.dN];simp;exact aq.nil
 |x::xs,[],n,_,_,h,_=>by unfold aq at h;exact h.elim
 |x::xs,d::ds,0,_,_,h,h'=>by unfold aq at h;simp only[List.set_cons_zero];exact aq.cons h' h.2
 |x::xs,d::ds,n+1,_,_,h,h'=>by unfold aq at h;simp only[List.set_cons_succ];exact aq.cons h.1 (aq.set n h.2 h')
theorem aq.rep{xs ds}(h:aq K A H xs ds):∀k:Nat,aq K A H (List.replicate k xs).flatten (List.replicate k ds).flatten
 |0=>by simp;exact aq.nil
 |k+1=>by rw[UA,UA,TQ,TQ];exact h.append (aq.rep h k)
structure ba(X:Addr->Prop)(H H':Hp):Prop where
 kp:∀b o,H b=some o->¬X b->H' b=some o
 tp:∀b xs,H b=some (.tup xs)->H' b=some (.tup xs)
theorem ba.of_same{X:Addr->Prop}(s:bO H H'):ba X H H':=⟨λb o e _=>s b o e,λb xs e=>s b _ e⟩
theorem ba.refl{X:Addr->Prop}:ba X H H:=⟨λ_ _ e _=>e,λ_ _ e=>e⟩
theorem ba.trans{X:Addr->Prop}{H1:Hp}(a:ba X H H1)(b:ba X H1 H'):ba X H H':=⟨λc o e n=>b.kp c o (a.kp c o e n) n,λc xs e=>b.tp c xs (a.tp c xs e)⟩
theorem ba.mono{X Y:Addr->Prop}(a:ba X H H')(h:∀b,X b->Y b):ba Y H H':=⟨λb o e n=>a.kp b o e λz=>n (h b z),a.tp⟩
theorem zU{X:Addr->Prop}{a:Addr}{u:HO}(e:ba X H H')(n:¬X a)(h:Rd H a u):Rd H' a u:=by
 rcases h with h|⟨o,h⟩
 ·exact .inl (e.kp _ _ h n)
 ·exact .inr ⟨o,e.kp _ _ h n⟩
mutual
theorem RV.mono{X:Addr->Prop}(e:ba X H H')(hX:∀b,X b->A b)(hB:∀b,B b->A b):∀{x d},RV K A H x d->RV K B H' x d
 |x,.aW,h=>by rw[h.az];exact RV.iD
 |x,.bl b,h=>by rw[h.ay];exact RV.qQ
 |x,.int b,h=>by rw[h.int_inv];exact RV.cU
 |x,.str b,h=>by rw[h.str_inv];exact RV.jG
 |x,.tup ds,h=>by obtain⟨a,xs,rfl,h1,h2⟩:=h.ae;exact RV.d9 (e.tp _ _ h1) (aq.mono e hX hB h2)
 |x,.lst ds,h=>by obtain⟨a,xs,rfl,h1,h3,h2⟩:=h.lst_inv;exact RV.d8 (e.kp _ _ h1 λz=>h3 (hX _ z)) (λz=>h3 (hB _ z)) (aq.mono e hX hB h2)
 |x,.dC ns,h=>by
  obtain⟨a,rfl,⟨h1,h3⟩|h1⟩:=h.d4
  ·unfold RV;exact⟨a,rfl,.inl ⟨zU e (λz=>h3 (hX _ z)) h1,λz=>h3 (hB _ z)⟩⟩
  ·unfold RV;exact⟨a,rfl,.inr h1⟩
 |x,.gA ..,h=>h.gC.elim
 |x,.obj ks vs,h=>by obtain⟨a,cY,rfl,h1,h3,h4,h2⟩:=h.jg;exact RV.tq (e.kp _ _ h1 λz=>h3 (hX _ z)) (λz=>h3 (hB _ z)) h4 (aq.mono e hX hB h2)
 |x,.exc ..,h=>h.gD.elim
theorem aq.mono{X:Addr->Prop}(e:ba X H H')(hX:∀b,X b->A b)(hB:∀b,B b->A b):∀{xs ds},aq K A H xs ds->aq K B H' xs ds
 |[],[],_=>aq.nil
 |[],_::_,h=>by unfold aq at h;exact h.elim
 |_::_,[],h=>by unfold aq at h;exact h.elim
 |_::xs,_::ds,h=>by unfold aq at h;exact aq.cons (RV.mono e hX hB h.1) (aq.mono e hX hB h.2)
end
theorem RV.same{x d}(h:RV K A H x d)(s:bO H H'):RV K A H' x d:=h.mono (X:=λ_=>False) (ba.of_same s) (λ_ z=>z.elim) λ_ z=>z
theorem aq.same{x d}(h:aq K A H x d)(s:bO H H'):aq K A H' x d:=h.mono (X:=λ_=>False) (ba.of_same s) (λ_ z=>z.elim) λ_ z=>z
theorem RV.weak{x d}(h:RV K A H x d)(hB:∀b,B b->A b):RV K B H x d:=h.mono (X:=λ_=>False) ba.refl (λ_ z=>z.elim) hB
theorem aq.weak{x d}(h:aq K A H x d)(hB:∀b,B b->A b):aq K B H x d:=h.mono (X:=λ_=>False) ba.refl (λ_ z=>z.elim) hB
mutual
theorem RV.avoid{p:Addr}(hp:H p=none):∀{x d},RV K A H x d->RV K (λb=>A b\/b=p) H x d
 |x,.aW,h=>by rw[h.az];exact RV.iD
 |x,.bl b,h=>by rw[h.ay];exact RV.qQ
 |x,.int b,h=>by rw[h.int_inv];exact RV.cU
 |x,.str b,h=>by rw[h.str_inv];exact RV.jG
 |x,.tup ds,h=>by obtain⟨a,xs,rfl,h1,h2⟩:=h.ae;exact RV.d9 h1 (aq.avoid hp h2)
 |x,.lst ds,h=>by obtain⟨a,xs,rfl,h1,h3,h2⟩:=h.lst_inv;exact RV.d8 h1 (λz=>z.elim h3 λe=>by rw[e,hp]at h1;cases h1) (aq.avoid hp h2)
 |x,.dC ns,h=>by
  obtain⟨a,rfl,⟨h1,h3⟩|h1⟩:=h.d4
  ·unfold RV;refine⟨a,rfl,.inl ⟨h1,λz=>z.elim h3 λe=>?_⟩⟩;subst e;rcases h1 with h1|⟨o,h1⟩<;>(rw[hp]at h1;cases h1)
  ·unfold RV;exact⟨a,rfl,.inr h1⟩
 |x,.gA ..,h=>h.gC.elim
 |x,.obj ks vs,h=>by obtain⟨a,cY,rfl,h1,h3,h4,h2⟩:=h.jg;exact RV.tq h1 (λz=>z.elim h3 λe=>by rw[e,hp]at h1;cases h1) h4 (aq.avoid hp h2)
 |x,.exc ..,h=>h.gD.elim
theorem aq.avoid{p:Addr}(hp:H p=none):∀{xs ds},aq K A H xs ds->aq K (λb=>A b\/b=p) H xs ds
 |[],[],_=>aq.nil
 |[],_::_,h=>by unfold aq at h;exact h.elim
 |_::_,[],h=>by unfold aq at h;exact h.elim
 |_::xs,_::ds,h=>by unfold aq at h;exact aq.cons (RV.avoid hp h.1) (aq.avoid hp h.2)
end
end
section
variable{K:Frag}{A B:Addr->Prop}{H:Hp}
mutual
theorem RV.cm(hp:∀b,B b->A b\/H b=none):∀{x d},RV K A H x d->RV K B H x d
 |x,.aW,h=>by rw[h.az];exact RV.iD
 |x,.bl b,h=>by rw[h.ay];exact RV.qQ
 |x,.int b,h=>by rw[h.int_inv];exact RV.cU
 |x,.str b,h=>by rw[h.str_inv];exact RV.jG
 |x,.tup ds,h=>by obtain⟨a,xs,rfl,h1,h2⟩:=h.ae;exact RV.d9 h1 (aq.cm hp h2)
 |x,.lst ds,h=>by obtain⟨a,xs,rfl,h1,h3,h2⟩:=h.lst_inv;exact RV.d8 h1 (λz=>(hp a z).elim h3 λe=>by rw[e]at h1;cases h1) (aq.cm hp h2)
 |x,.dC ns,h=>by
  obtain⟨a,rfl,⟨h1,h3⟩|h1⟩:=h.d4
  ·unfold RV;refine⟨a,rfl,.inl ⟨h1,λz=>(hp a z).elim h3 λe=>?_⟩⟩;rcases h1 with h1|⟨o,h1⟩<;>(rw[e]at h1;cases h1)
  ·unfold RV;exact⟨a,rfl,.inr h1⟩
 |x,.gA ..,h=>h.gC.elim
 |x,.obj ks vs,h=>by obtain⟨a,cY,rfl,h1,h3,h4,h2⟩:=h.jg;exact RV.tq h1 (λz=>(hp a z).elim h3 λe=>by rw[e]at h1;cases h1) h4 (aq.cm hp h2)
 |x,.exc ..,h=>h.gD.elim
theorem aq.cm(hp:∀b,B b->A b\/H b=none):∀{xs ds},aq K A H xs ds->aq K B H xs ds
 |[],[],_=>aq.nil
 |[],_::_,h=>by unfold aq at h;exact h.elim
 |_::_,[],h=>by unfold aq at h;exact h.elim
 |_::xs,_::ds,h=>by unfold aq at h;exact aq.cons (RV.cm hp h.1) (aq.cm hp h.2)
end
end
mutual
noncomputable def nV:Dt->Bool
 |.aW|.bl _|.int _|.str _=>true
 |.tup ds=>jH ds
 |_=>false
noncomputable def jH:List Dt->Bool
 |[]=>true
 |d::ds=>nV d&&jH ds
end
mutual
theorem RV.nV{K:Frag}{A B:Addr->Prop}{H:Hp}:∀{x d},RV K A H x d->nV d=true->RV K B H x d
 |x,.aW,h,_=>by rw[h.az];exact RV.iD
 |x,.bl b,h,_=>by rw[h.ay];exact RV.qQ
 |x,.int b,h,_=>by rw[h.int_inv];exact RV.cU
 |x,.str b,h,_=>by rw[h.str_inv];exact RV.jG
 |x,.tup ds,h,n=>by obtain⟨a,xs,rfl,h1,h2⟩:=h.ae;exact RV.d9 h1 (aq.jH h2 (by simpa [Rx.nV]using n))
 |x,.lst ds,_,n=>by simp[Rx.nV]at n
 |x,.dC ds,_,n=>by simp[Rx.nV]at n
 |x,.gA ..,h,_=>h.gC.elim
 |x,.obj ..,_,n=>by simp[Rx.nV]at n
 |x,.exc ..,h,_=>h.gD.elim
theorem aq.jH{K:Frag}{A B:Addr->Prop}{H:Hp}:∀{xs ds},aq K A H xs ds->jH ds=true->aq K B H xs ds
 |[],[],_,_=>aq.nil
 |[],_::_,h,_=>by unfold aq at h;exact h.elim
 |_::_,[],h,_=>by unfold aq at h;exact h.elim
 |_::xs,_::ds,h,n=>by unfold aq at h;simp only[Rx.jH,Ry]at n;exact aq.cons (RV.nV h.1 n.1) (aq.jH h.2 n.2)
end
mutual
noncomputable def toD:Dt->Option Mx.D
 |.int i=>some (.int i)
 |.str x=>some (.str x)
 |.tup ds=>(fD ds).map Mx.D.tup
 |_=>none
noncomputable def fD:List Dt->Option (List Mx.D)
 |[]=>some []
 |d::ds=>(toD d).bind λm=>(fD ds).map (m:: ·)
end
mutual
noncomputable def ofD:Mx.D->Dt
 |.int i=>.int i
 |.str x=>.str x
 |.tup ds=>.tup (bK ds)
noncomputable def bK:List Mx.D->List Dt
 |[]=>[]
 |d::ds=>ofD d::bK ds
end
theorem jh:∀ds:List Mx.D,bK ds=ds.map ofD
 |[]=>by simp[bK]
 |d::ds=>by simp[bK,jh ds]
mutual
theorem GG:∀m:Mx.D,toD (ofD m)=some m
 |.int i=>by simp[ofD,toD]
 |.str x=>by simp[ofD,toD]
 |.tup ds=>by simp[ofD,toD,kM ds]
theorem kM:∀ms:List Mx.D,fD (bK ms)=some ms
 |[]=>by simp[bK,fD]
 |m::ms=>by simp[bK,fD,GG m,kM ms]
end
mutual
theorem FB:∀{d:Dt}{m:Mx.D},toD d=some m->d=ofD m
 |.int i,m,h=>by simp[toD]at h;subst h;simp[ofD]
 |.str i,m,h=>by simp[toD]at h;subst h;simp[ofD]
 |.tup ds,m,h=>by simp only[toD,RP]at h;obtain⟨ms,h1,rfl⟩:=h;rw[ji h1];simp[ofD]
 |.aW,m,h=>by simp[toD]at h
 |.bl _,m,h=>by simp[toD]at h
 |.lst _,m,h=>by simp[toD]at h
 |.dC _,m,h=>by simp[toD]at h
 |.gA _ _,m,h=>by simp[toD]at h
 |.obj _ _,m,h=>by simp[toD]at h
 |.exc _,m,h=>by simp[toD]at h
theorem ji:∀{ds:List Dt}{ms:List Mx.D},fD ds=some ms->ds=bK ms
 |[],ms,h=>by simp[fD]at h;subst h;simp[bK]
 |d::ds,ms,h=>by simp only[fD,Rt,RP]at h;obtain⟨m,h1,r,h2,rfl⟩:=h;rw[FB h1,ji h2];simp[bK]
end
mutual
theorem RV.dv{K:Frag}{A:Addr->Prop}{H:Hp}:∀{x}{m:Mx.D},RV K A H x (ofD m)->Mx.DV H x m
 |x,.int i,h=>by simp only[ofD]at h;rw[h.int_inv];exact Mx.DV.int
 |x,.str i,h=>by simp only[ofD]at h;rw[h.str_inv];exact Mx.DV.str
 |x,.tup ms,h=>by simp only[ofD]at h;obtain⟨a,xs,rfl,h1,h2⟩:=h.ae;exact Mx.DV.tup h1 (aq.wc h2)
theorem aq.wc{K:Frag}{A:Addr->Prop}{H:Hp}:∀{xs}{ms:List Mx.D},aq K A H xs (bK ms)->Mx.a9 H xs ms
 |[],[],_=>Mx.a9.nil
 |[],_::_,h=>by simp only[bK]at h;unfold aq at h;exact h.elim
 |_::_,[],h=>by simp only[bK]at h;unfold aq at h;exact h.elim
 |_::xs,_::ds,h=>by simp only[bK]at h;unfold aq at h;exact Mx.a9.cons (RV.dv h.1) (aq.wc h.2)
end
mutual
theorem RV.Jq{K:Frag}{A:Addr->Prop}{H:Hp}:∀{x}{m:Mx.D},Mx.DV H x m->RV K A H x (ofD m)
 |x,.int i,h=>by simp only[ofD];rw[h.int_inv];exact RV.cU
 |x,.str i,h=>by simp only[ofD];rw[h.str_inv];exact RV.jG
 |x,.tup ms,h=>by simp only[ofD];obtain⟨a,xs,rfl,h1,h2⟩:=h.ae;exact RV.d9 h1 (aq.tD h2)
theorem aq.tD{K:Frag}{A:Addr->Prop}{H:Hp}:∀{xs}{ms:List Mx.D},Mx.a9 H xs ms->aq K A H xs (bK ms)
 |[],[],_=>by simp only[bK];exact aq.nil
 |[],_::_,h=>by unfold Mx.a9 at h;exact h.elim
 |_::_,[],h=>by unfold Mx.a9 at h;exact h.elim
 |_::xs,_::ds,h=>by simp only[bK];unfold Mx.a9 at h;exact aq.cons (RV.Jq h.1) (aq.tD h.2)
end
mutual
noncomputable def dy:Dt->Dt->Bool
 |.aW,.aW=>true
 |.bl a,.bl b=>a==b
 |.int a,.int b=>a==b
 |.bl a,.int b=>(if a then(1:Int) else 0)==b
 |.int a,.bl b=>a==(if b then(1:Int) else 0)
 |.str a,.str b=>a==b
 |.tup a,.tup b=>dZ a b
 |.lst a,.lst b=>dZ a b
 |_,_=>false
noncomputable def dZ:List Dt->List Dt->Bool
 |[],[]=>true
 |x::xs,y::ys=>dy x y&&dZ xs ys
 |_,_=>false
end
mutual
noncomputable def pl:Dt->Bool
 |.aW|.bl _|.int _|.str _=>true
 |.tup ds=>mO ds
 |.lst ds=>mO ds
 |_=>false
noncomputable def mO:List Dt->Bool
 |[]=>true
 |d::ds=>pl d&&mO ds
end
mutual
noncomputable def dp:Dt->Nat
 |.tup ds=>qm ds+1
 |.lst ds=>qm ds+1
 |_=>0
noncomputable def qm:List Dt->Nat
 |[]=>0
 |d::ds=>max (dp d) (qm ds)
end
mutual
theorem gK:∀d:Dt,pl d=true->dy d d=true
 |.aW,_=>by simp[dy]
 |.bl b,_=>by simp[dy]
 |.int b,_=>by simp[dy]
 |.str b,_=>by simp[dy]
 |.tup ds,h=>by simp only[dy];exact iH ds (by simpa [pl]using h)
 |.lst ds,h=>by simp only[dy];exact iH ds (by simpa [pl]using h)
 |.dC _,h=>by simp[pl]at h
 |.gA _ _,h=>by simp[pl]at h
 |.obj _ _,h=>by simp[pl]at h
 |.exc _,h=>by simp[pl]at h
theorem iH:∀ds:List Dt,mO ds=true->dZ ds ds=true
 |[],_=>by simp[dZ]
 |d::ds,h=>by simp only[mO,Ry]at h;simp only[dZ,Ry];exact⟨gK d h.1,iH ds h.2⟩
end
noncomputable def Q1:Dt->Nat
 |.aW=>0|.bl _=>1|.int _=>2|.str _=>3|.tup _=>4|.lst _=>5|_=>6
noncomputable def NZ(H:Hp):V->Nat
 |.aW=>0|.bl _=>1|.int _=>2|.str _=>3
 |.ref a=>(match H a with|some (.tup _)=>4|some (.lst _)=>5|_=>6)
 |_=>6
theorem RV.tg{K:Frag}{A:Addr->Prop}{H:Hp}{x:V}{d:Dt}(h:RV K A H x d)(n:pl d=true):NZ H x=Q1 d:=by
 cases d with
 |aW=>rw[h.az];rfl
 |bl=>rw[h.ay];rfl
 |int=>rw[h.int_inv];rfl
 |str=>rw[h.str_inv];rfl
 |tup=>obtain⟨a,xs,rfl,h1,_⟩:=h.ae;unfold NZ;dsimp only;rw[h1];rfl
 |lst=>obtain⟨a,xs,rfl,h1,_⟩:=h.lst_inv;unfold NZ;dsimp only;rw[h1];rfl
 |_=>simp[pl]at n
mutual
theorem RV.inj{K:Frag}{A B:Addr->Prop}{H:Hp}:∀{x d e},RV K A H x d->RV K B H x e->pl d=true->pl e=true->d=e
 |x,.aW,e,h,g,m,n=>by have t:=(h.tg m).symm.trans (g.tg n);cases e<;>first|rfl|exact absurd t (Vs rfl)
 |x,.bl b,e,h,g,m,n=>by have t:=(h.tg m).symm.trans (g.tg n);cases e<;>first|exact absurd t (Vs rfl)|(cases h.ay.symm.trans g.ay;rfl)
 |x,.int b,e,h,g,m,n=>by have t:=(h.tg m).symm.trans (g.tg n);cases e<;>first|exact absurd t (Vs rfl)|(cases h.int_inv.symm.trans g.int_inv;rfl)
 |x,.str b,e,h,g,m,n=>by have t:=(h.tg m).symm.trans (g.tg n);cases e<;>first|exact absurd t (Vs rfl)|(cases h.str_inv.symm.trans g.str_inv;rfl)
 |x,.tup ds,e,h,g,m,n=>by
  have t:=(h.tg m).symm.trans (g.tg n);cases e with
  |tup es=>obtain⟨a,xs,rfl,h1,h2⟩:=h.ae;obtain⟨b,ys,q,g1,g2⟩:=g.ae;cases q;rw[h1]at g1;cases g1;rw[aq.inj h2 g2 (by simpa [pl]using m) (by simpa [pl]using n)]
  |_=>exact absurd t (Vs rfl)
 |x,.lst ds,e,h,g,m,n=>by
  have t:=(h.tg m).symm.trans (g.tg n);cases e with
  |lst es=>obtain⟨a,xs,rfl,h1,_,h2⟩:=h.lst_inv;obtain⟨b,ys,q,g1,_,g2⟩:=g.lst_inv;cases q;rw[h1]at g1;cases g1;rw[aq.inj h2 g2 (by simpa [pl]using m) (by simpa [pl]using n)]
  |_=>exact absurd t (Vs rfl)
 |x,.dC ds,_,_,_,n,_=>by simp[pl]at n
 |x,.gA ..,_,_,_,n,_=>by simp[pl]at n
 |x,.obj ..,_,_,_,n,_=>by simp[pl]at n
 |x,.exc ..,_,_,_,n,_=>by simp[pl]at n
theorem aq.inj{K:Frag}{A B:Addr->Prop}{H:Hp}:∀{xs ds es},aq K A H xs ds->aq K B H xs es->mO ds=true->mO es=true->ds=es
 |xs,[],es,h,g,_,_=>by
  cases xs with
  |nil=>rw[g.dN]
  |cons=>unfold aq at h;exact h.elim
 |xs,d::ds,es,h,g,m,n=>by
  cases xs with
  |nil=>unfold aq at h;exact h.elim
  |cons x xs=>unfold aq at h;obtain⟨e,t,rfl,g1,g2⟩:=g.wb;have m':=Bool.and_eq_true_iff.mp m;have n':=Bool.and_eq_true_iff.mp n;rw[RV.inj h.1 g1 m'.1 n'.1,aq.inj h.2 g2 m'.2 n'.2]
end
noncomputable def vq(ds es:List Dt)(j:Nat):Bool:=match ds[j]?,es[j]? with
 |some d,some e=>dy d e
 |_,_=>true
theorem cP:∀ds es:List Dt,((List.range (min ds.length es.length)).all (vq ds es)&&ds.length==es.length)=dZ ds es
 |[],[]=>by simp[dZ]
 |[],_::_=>by simp[dZ]
 |_::_,[]=>by simp[dZ]
 |d::ds,e::es=>by
  have ih:=cP ds es;have hm:min (d::ds).length (e::es).length=min ds.length es.length+1:=by simp only[RU];lia
  have e1:((d::ds).length==(e::es).length)=(ds.length==es.length):=by rw[SF];simp
  rw[hm,List.range_succ_eq_map,Tq,List.all_map,e1,dZ,<-ih,Bool.and_assoc];rfl
theorem k7{d:Dt}:∀{ds:List Dt}{j:Nat},ds[j]?=some d->dp d<=qm ds
 |[],_,h=>by simp at h
 |d'::ds,0,h=>by simp at h;subst h;unfold qm;lia
 |d'::ds,j+1,h=>by have:=k7 (ds:=ds) (j:=j) (by simpa using h);unfold qm;lia
theorem ei{d:Dt}:∀{ds:List Dt}{j:Nat},mO ds=true->ds[j]?=some d->pl d=true
 |[],_,_,h=>by simp at h
 |d'::ds,0,n,h=>by simp at h;subst h;simp only[mO,Ry]at n;exact n.1
 |d'::ds,j+1,n,h=>by simp only[mO,Ry]at n;exact ei (ds:=ds) (j:=j) n.2 (by simpa using h)
section
variable{P:Program}{w:World}{K:Frag}{A B:Addr->Prop}{H:Hp}{s:Shared}
theorem aP(hok:fg P w H s.heap){a:Addr}{xs:List V}(h:H a=some (.lst xs)):∃its:List Value,ar xs its/\s.heap.IsList a its.toArray:=by obtain⟨_,its,n,r,t⟩:=hok a _ h;exact⟨its,r,⟨_,t,rfl,_,rfl⟩⟩
theorem Da(hok:fg P w H s.heap):∀(n:Nat)(d e:Dt)(x y:V)(u v:Value)(R:Around),dp d<=n->pl d=true->pl e=true->R.units+n<cLine->RV K A H x d->RV K B H y e->RelV x u->RelV y v->EqAt R s u v (dy d e):=by
 intro n
 induction n with
 |zero=>
  intro d e x y u v R hd o7 fX hu hx hy rx ry;cases d with
  |aW=>
   have:=hx.az;subst this;cases rx;cases e with
   |aW=>have:=hy.az;subst this;cases ry;exact EqAt.same _
   |bl j=>have:=hy.ay;subst this;cases ry;exact EqAt.none_bool j
   |int j=>have:=hy.int_inv;subst this;obtain⟨t',rfl⟩:=ry;exact EqAt.none_int j t'
   |str j=>have:=hy.str_inv;subst this;obtain⟨t',rfl⟩:=ry;exact EqAt.none_str j t'
   |tup j=>obtain⟨b,ys,q,f1,f2⟩:=hy.ae;subst q;cases ry;obtain⟨its,_,ht⟩:=Mx.au hok f1;exact EqAt.none_tuple ht ⋯
   |lst j=>obtain⟨b,ys,q,f1,_,f2⟩:=hy.lst_inv;subst q;cases ry;obtain⟨its,_,ht⟩:=aP hok f1;exact EqAt.none_list ht ⋯
   |_=>simp[pl]at fX
  |bl i=>
   have:=hx.ay;subst this;cases rx;cases e with
   |aW=>have:=hy.az;subst this;cases ry;exact EqAt.bool_none _
   |bl j=>have:=hy.ay;subst this;cases ry;exact EqAt.bool_bool i j
   |int j=>have:=hy.int_inv;subst this;obtain⟨t',rfl⟩:=ry;exact EqAt.bool_int i j t'
   |str j=>have:=hy.str_inv;subst this;obtain⟨t',rfl⟩:=ry;exact EqAt.bool_str i j t'
   |tup j=>obtain⟨b,ys,q,f1,f2⟩:=hy.ae;subst q;cases ry;obtain⟨its,_,ht⟩:=Mx.au hok f1;exact EqAt.bool_tuple i ht ⋯
   |lst j=>obtain⟨b,ys,q,f1,_,f2⟩:=hy.lst_inv;subst q;cases ry;obtain⟨its,_,ht⟩:=aP hok f1;exact EqAt.bool_list i ht ⋯
   |_=>simp[pl]at fX
  |int i=>
   have:=hx.int_inv;subst this;obtain⟨t,rfl⟩:=rx;cases e with
   |aW=>have:=hy.az;subst this;cases ry;exact EqAt.int_none i t
   |bl j=>have:=hy.ay;subst this;cases ry;exact EqAt.int_bool i t j
   |int j=>have:=hy.int_inv;subst this;obtain⟨t',rfl⟩:=ry;exact EqAt.int_int i t j t'
   |str j=>have:=hy.str_inv;subst this;obtain⟨t',rfl⟩:=ry;exact EqAt.int_str i t j t'
   |tup j=>obtain⟨b,ys,q,f1,f2⟩:=hy.ae;subst q;cases ry;obtain⟨its,_,ht⟩:=Mx.au hok f1;exact EqAt.int_tuple i t ht ⋯
   |lst j=>obtain⟨b,ys,q,f1,_,f2⟩:=hy.lst_inv;subst q;cases ry;obtain⟨its,_,ht⟩:=aP hok f1;exact EqAt.int_list i t ht ⋯
   |_=>simp[pl]at fX
  |str i=>
   have:=hx.str_inv;subst this;obtain⟨t,rfl⟩:=rx;cases e with
   |aW=>have:=hy.az;subst this;cases ry;exact EqAt.str_none i t
   |bl j=>have:=hy.ay;subst this;cases ry;exact EqAt.str_bool i t j
   |int j=>have:=hy.int_inv;subst this;obtain⟨t',rfl⟩:=ry;exact EqAt.str_int i t j t'
   |str j=>have:=hy.str_inv;subst this;obtain⟨t',rfl⟩:=ry;exact EqAt.str_str i t j t'
   |tup j=>obtain⟨b,ys,q,f1,f2⟩:=hy.ae;subst q;cases ry;obtain⟨its,_,ht⟩:=Mx.au hok f1;exact EqAt.str_tuple i t ht ⋯
   |lst j=>obtain⟨b,ys,q,f1,_,f2⟩:=hy.lst_inv;subst q;cases ry;obtain⟨its,_,ht⟩:=aP hok f1;exact EqAt.str_list i t ht ⋯
   |_=>simp[pl]at fX
  |tup ds=>unfold dp at hd;lia
  |lst ds=>unfold dp at hd;lia
  |_=>simp[pl]at o7
 |succ n ih=>
  intro d e x y u v R hd o7 fX hu hx hy rx ry;cases d with
  |tup ds=>
   obtain⟨a,xs,q,e1,e2⟩:=hx.ae;subst q;cases rx;obtain⟨its,r1,ht⟩:=Mx.au hok e1;cases e with
   |aW=>have:=hy.az;subst this;cases ry;exact EqAt.tuple_none ht ⋯
   |bl j=>have:=hy.ay;subst this;cases ry;exact EqAt.tuple_bool j ht ⋯
   |int j=>have:=hy.int_inv;subst this;obtain⟨t',rfl⟩:=ry;exact EqAt.tuple_int j t' ht ⋯
   |str j=>have:=hy.str_inv;subst this;obtain⟨t',rfl⟩:=ry;exact EqAt.tuple_str j t' ht ⋯
   |lst j=>obtain⟨b,ys,q,f1,_,f2⟩:=hy.lst_inv;subst q;cases ry;obtain⟨aK,_,ck⟩:=aP hok f1;exact EqAt.tuple_list ht ck ⋯
   |tup es=>
    obtain⟨b,ys,q,f1,f2⟩:=hy.ae;subst q;cases ry;obtain⟨aK,r2,ck⟩:=Mx.au hok f1;by_cases fN:a=b
    ·subst fN;have:=RV.inj hx hy o7 fX;cases this;rw[gK _ o7];exact EqAt.same _
    ·have l1:its.toArray.size=ds.length:=by rw[Rz,<-r1.length,e2.length]
     have l2:aK.toArray.size=es.length:=by rw[Rz,<-r2.length,f2.length]
     have key:=RcAt.tuples (A:=R) (e:=vq ds es) ht ck ⋯ (λj h1 h2=>?_)
     ·have q:=cP ds es;rw[<-l1,<-l2]at q;rw[q]at key;exact EqAt.of_refs fN key
     ·have nE:j<xs.length:=by rw[e2.length,<-l1];exact h1
      have nF:j<ys.length:=by rw[f2.length,<-l2];exact h2
      obtain⟨d,g1,g2⟩:=e2.get (i:=j) (x:=xs[j]) (by simp[nE]);obtain⟨e,k1,k2⟩:=f2.get (i:=j) (x:=ys[j]) (by simp[nF]);obtain⟨u,BM,ru⟩:=r1.get (i:=j) (x:=xs[j]) (by simp[nE]);obtain⟨v,E7,rv⟩:=r2.get (i:=j) (x:=ys[j]) (by simp[nF]);have eu:its.toArray[j]=u:=by simp only[T4];exact(RB.mp BM).2
      have ev:aK.toArray[j]=v:=by simp only[T4];exact(RB.mp E7).2
      rw[eu,ev,show vq ds es j=dy d e by unfold vq;rw[g1,k1]];have:=k7 g1;unfold dp at hd;exact ih d e xs[j] ys[j] u v R.in1 ⋯ (ei (by simpa [pl]using o7) g1) (ei (by simpa [pl]using fX) k1) (by show R.units+1+n<cLine;lia) g2 k2 ru rv
   |_=>simp[pl]at fX
  |lst ds=>
   obtain⟨a,xs,q,e1,_,e2⟩:=hx.lst_inv;subst q;cases rx;obtain⟨its,r1,ht⟩:=aP hok e1;cases e with
   |aW=>have:=hy.az;subst this;cases ry;exact EqAt.list_none ht ⋯
   |bl j=>have:=hy.ay;subst this;cases ry;exact EqAt.list_bool j ht ⋯
   |int j=>have:=hy.int_inv;subst this;obtain⟨t',rfl⟩:=ry;exact EqAt.list_int j t' ht ⋯
   |str j=>have:=hy.str_inv;subst this;obtain⟨t',rfl⟩:=ry;exact EqAt.list_str j t' ht ⋯
   |tup j=>obtain⟨b,ys,q,f1,f2⟩:=hy.ae;subst q;cases ry;obtain⟨aK,_,ck⟩:=Mx.au hok f1;exact EqAt.list_tuple ht ck ⋯
   |lst es=>
    obtain⟨b,ys,q,f1,_,f2⟩:=hy.lst_inv;subst q;cases ry;obtain⟨aK,r2,ck⟩:=aP hok f1;by_cases fN:a=b
    ·subst fN;have:=RV.inj hx hy o7 fX;cases this;rw[gK _ o7];exact EqAt.same _
    ·have l1:its.toArray.size=ds.length:=by rw[Rz,<-r1.length,e2.length]
     have l2:aK.toArray.size=es.length:=by rw[Rz,<-r2.length,f2.length]
     have q:=cP ds es;by_cases hl:ds.length=es.length
     ·have key:=RcAt.lists (A:=R) (e:=vq ds es) ht ck ⋯ ⋯ (λj h1 h2=>?_)
      ·rw[hl,Nat.min_self,Vf,SE]at q;rw[l1,hl,q]at key;exact EqAt.of_refs fN key
      ·have nE:j<xs.length:=by rw[e2.length,<-l1];exact h1
       have nF:j<ys.length:=by rw[f2.length,<-l2];exact h2
       obtain⟨d,g1,g2⟩:=e2.get (i:=j) (x:=xs[j]) (by simp[nE]);obtain⟨e,k1,k2⟩:=f2.get (i:=j) (x:=ys[j]) (by simp[nF]);obtain⟨u,BM,ru⟩:=r1.get (i:=j) (x:=xs[j]) (by simp[nE]);obtain⟨v,E7,rv⟩:=r2.get (i:=j) (x:=ys[j]) (by simp[nF]);have eu:its.toArray[j]=u:=by simp only[T4];exact(RB.mp BM).2
       have ev:aK.toArray[j]=v:=by simp only[T4];exact(RB.mp E7).2
       rw[eu,ev,show vq ds es j=dy d e by unfold vq;rw[g1,k1]];have:=k7 g1;unfold dp at hd;exact ih d e xs[j] ys[j] u v R.in1 ⋯ (ei (by simpa [pl]using o7) g1) (ei (by simpa [pl]using fX) k1) (by show R.units+1+n<cLine;lia) g2 k2 ru rv
     ·have key:=RcAt.lists_lengths (A:=R) ht ck (by rw[l1,l2];simpa using hl) ⋯;have hb:(ds.length==es.length)=false:=by simpa using hl
      rw[hb,SD]at q;show EqAt R s _ _ (dZ ds es);rw[<-q];exact EqAt.of_refs fN key
   |_=>simp[pl]at fX
  |_=>exact ih _ e x y u v R (by unfold dp;lia) o7 fX ⋯ hx hy rx ry
end
inductive R(α:Type)where
 |ok (a:α)|ex (c:Nat)|bad
noncomputable def R.bind{α β:Type}:R α->(α->R β)->R β
 |.ok a,f=>f a
 |.ex c,_=>.ex c
 |.bad,_=>.bad
@[simp] theorem R.af{α β:Type}(a:α)(f:α->R β):(R.ok a).bind f=f a:=rfl
noncomputable def R.nx{α:Type}:R α->R α
 |.ok a=>.ok a
 |_=>.bad
noncomputable abbrev lim:Nat:=1000000
noncomputable abbrev ah:=List (Option Dt)
noncomputable abbrev Sx:=Option (List Int)
noncomputable def ab(b:Bool){α:Type}(r:R α):R α:=if b then r else .bad
@[simp] theorem guard_true{α:Type}(r:R α):ab true r=r:=rfl
noncomputable def mM(o:Operator)(a b:Dt):R Dt:=match o with
 |.Add=>match a,b with
  |.int i,.int j=>.ok (.int (i+j))
  |.lst x,.lst y=>ab (decide (x.length+y.length<=lim)) (.ok (.lst (x++y)))
  |.tup x,.tup y=>ab (decide (x.length+y.length<=lim)) (.ok (.tup (x++y)))
  |_,_=>.bad
 |.Sub=>match a,b with
  |.int i,.int j=>.ok (.int (i-j))
  |_,_=>.bad
 |.Mult=>match a,b with
  |.int i,.int j=>ab (decide (i.natAbs<2^64)||decide (j.natAbs<2^64)) (.ok (.int (i*j)))
  |.tup x,.int k=>ab (decide (k.natAbs<=lim)&&decide (x.length*k.toNat<=lim)) (.ok (.tup (List.replicate k.toNat x).flatten))
  |_,_=>.bad
 |.FloorDiv=>match a,b with
  |.int i,.int j=>ab (decide (0<j)&&decide (j.natAbs.log2<9000)) (.ok (.int (i/j)))
  |_,_=>.bad
 |.Mod=>match a,b with
  |.int i,.int j=>ab (decide (0<j)) (.ok (.int (i % j)))
  |_,_=>.bad
 |_=>.bad
noncomputable def inD(d:Dt)(ds:List Dt):Bool:=ds.any λe=>dy e d
noncomputable def qo(d e:Dt):Bool:=pl d&&pl e&&decide (dp d<=100)
noncomputable def itemsOf:Dt->Option (List Dt)
 |.lst ds=>some ds
 |.tup ds=>some ds
 |.dC ns=>some (ns.map Dt.int)
 |_=>none
noncomputable def dc:Dt->Option (List Dt)
 |.lst ds=>some ds
 |.tup ds=>some ds
 |_=>none
mutual
noncomputable def u7:Mx.D->Mx.D->Bool
 |.int _,.int _=>true
 |.str _,.str _=>true
 |.tup a,.tup b=>lK a b
 |_,_=>false
noncomputable def lK:List Mx.D->List Mx.D->Bool
 |x::xs,y::ys=>u7 x y&&lK xs ys
 |_,_=>true
end
noncomputable def dg:CmpOp->Dt->Dt->R Bool
 |.Eq,a,b=>ab (qo a b) (.ok (dy a b))
 |.NotEq,a,b=>ab (qo a b) (.ok (!dy a b))
 |.Lt,.int i,.int j=>.ok (decide (i<j))
 |.LtE,.int i,.int j=>.ok (decide (i<=j))
 |.Gt,.int i,.int j=>.ok (decide (j<i))
 |.GtE,.int i,.int j=>.ok (decide (j<=i))
 |.GtE,.tup a,.tup b=>match fD a,fD b with
  |some xs,some ys=>ab (lK xs ys&&decide (Mx.D.dh xs<=100)) (.ok (!Mx.D.de xs ys))
  |_,_=>.bad
 |.Is,a,.aW=>.ok (match a with|.aW=>true|_=>false)
 |.IsNot,a,.aW=>.ok (match a with|.aW=>false|_=>true)
 |.NotIn,a,.lst ds=>ab (pl a&&mO ds&&decide (qm ds<=100)) (.ok (!inD a ds))
 |_,_,_=>.bad
noncomputable def dU:Dt->R Bool
 |.aW=>.ok false
 |.bl b=>.ok b
 |.int i=>.ok (i != 0)
 |.str y=>ab (decide (y.length<=lim)) (.ok ((y.length:Int) != 0))
 |.lst ds=>.ok !ds.isEmpty
 |.tup ds=>.ok !ds.isEmpty
 |.dC ds=>.ok !ds.isEmpty
 |_=>.bad
noncomputable def sf(ds:List Dt)(i:Int):R Dt:=match kT ds i with
 |some d=>.ok d
 |none=>.bad
noncomputable def cT:Dt->Dt->R Dt
 |.lst ds,.int i=>sf ds i
 |.tup ds,.int i=>sf ds i
 |.dC ns,.int i=>sf (ns.map Dt.int) i
 |_,_=>.bad
noncomputable def cutD{α:Type}(xs:List α)(lo hi:Option Int):List α:=(xs.drop (HT.bW xs.length 0 lo)).take (HT.bW xs.length xs.length hi-HT.bW xs.length 0 lo)
noncomputable def gj:Dt->Option Int->Option Int->R Dt
 |.lst ds,lo,hi=>.ok (.lst (cutD ds lo hi))
 |.dC ds,lo,hi=>.ok (.lst (cutD (ds.map Dt.int) lo hi))
 |.tup ds,lo,hi=>.ok (.tup (cutD ds lo hi))
 |_,_,_=>.bad
inductive BI where
 |len|abs|max2|sum|any|maxL|sorted|tuple|list|int|isi (T:String)|dvm
 deriving DecidableEq
noncomputable def intsOf:List Dt->Option (List Int)
 |[]=>some []
 |.int i::r=>(intsOf r).map (i:: ·)
 |_=>none
noncomputable def iU:List Dt->Option (List Bool)
 |[]=>some []
 |.bl i::r=>(iU r).map (i:: ·)
 |_=>none
noncomputable def u6(a b:Mx.D):Bool:= !Mx.D.lt b a
noncomputable def dQ(ds:List Mx.D):List Mx.D:=ds.mergeSort u6
noncomputable def IY(k:Mx.SK):Mx.D->Bool
 |.tup (.tup _::_)=>k== .tt
 |.tup (.str _::_)=>k== .ts
 |.tup (.int _::_)=>k== .ti
 |.str _=>k== .s
 |.int _=>k== .i
 |_=>false
noncomputable def jA(ds:List Mx.D):Bool:=decide (ds.length<1000000)&&(decide (ds.length<2)||(decide (Mx.D.dh ds<=100)&&([Mx.SK.tt,.ts,.ti,.s,.i].any λk=>ds.all (IY k))&&ds.all λd=>ds.all λe=>u7 d e))
noncomputable def dd:List Str->List Str
 |[]=>[]
 |x::r=>if x∈dd r then dd r else x::dd r
noncomputable def tj:List Int->Int
 |[]=>0
 |[a]=>a
 |a::r=>min a (tj r)
noncomputable def dm:List Int->Int
 |[]=>0
 |[a]=>a
 |a::r=>max a (dm r)
noncomputable def strsOf:List Dt->Option (List Str)
 |[]=>some []
 |.str i::r=>(strsOf r).map (i:: ·)
 |_=>none
noncomputable def dq(xs ys:List Dt):List Dt:=List.zipWith (λx y=>Dt.tup [x,y]) xs ys
noncomputable def yk:Nat->List Dt->List Dt
 |_,[]=>[]
 |i,x::xs=>Dt.tup [.int i,x]::yk (i+1) xs
noncomputable def wz(T:String):Dt->R Bool
 |.str _=>.ok (T=="str")
 |.int _=>.ok (T=="int")
 |.bl _=>.ok (T=="bool"||T=="int")
 |.lst _=>.ok (T=="list")
 |.tup _=>.ok (T=="tuple")
 |.aW=>.ok false
 |_=>.bad
noncomputable def Pq(d:Dt):Option (Str×Dt):=match d with
 |.tup ds=>match ds with
  |[a,v]=>match a with
   |.str k=>some (k,v)
   |_=>none
  |_=>none
 |_=>none
noncomputable def eD(b:BI)(as:List Dt):R Dt:=match b with
 |.len=>match as with
  |[.lst ds]=>.ok (.int ds.length)
  |[.tup ds]=>.ok (.int ds.length)
  |[.dC ds]=>.ok (.int ds.length)
  |_=>.bad
 |.abs=>match as with
  |[.int i]=>.ok (.int (if i<0 then -i else i))
  |_=>.bad
 |.max2=>match as with
  |[.int i,.int j]=>.ok (.int (if j>i then j else i))
  |_=>.bad
 |.sum=>match as with
  |[.lst ds]=>match intsOf ds with|some ns=>.ok (.int ns.sum)|none=>.bad
  |[.tup ds]=>match intsOf ds with|some ns=>.ok (.int ns.sum)|none=>.bad
  |_=>.bad
 |.any=>match as with
  |[.lst ds]=>match iU ds with|some ns=>.ok (.bl (ns.any id))|none=>.bad
  |_=>.bad
 |.sorted=>match as with
  |[d]=>match itemsOf d with
   |some ds=>match fD ds with
    |some ms=>ab (jA ms) (.ok (.lst (bK (dQ ms))))
    |none=>.bad
   |none=>.bad
  |_=>.bad
 |.tuple=>match as with
  |[.lst ds]=>.ok (.tup ds)
  |[.tup ds]=>.ok (.tup ds)
  |_=>.bad
 |.list=>match as with
  |[.lst ds]=>.ok (.lst ds)
  |[.tup ds]=>.ok (.lst ds)
  |[.dC ns]=>.ok (.lst (ns.map Dt.int))
  |_=>.bad
 |.int=>match as with
  |[.int i]=>.ok (.int i)
  |[.bl b]=>.ok (.int (if b then 1 else 0))
  |_=>.bad
 |.isi T=>match as with
  |[d]=>(wz T d).bind λb=>.ok (.bl b)
  |_=>.bad
 |.maxL=>match as with
  |[.lst ds]=>match intsOf ds with|some ns=>ab (!ns.isEmpty) (.ok (.int (dm ns)))|none=>.bad
  |_=>.bad
 |.dvm=>match as with
  |[.int i,.int j]=>ab (decide (j≠0)&&decide (j.natAbs.log2<9000)) (.ok (.tup [.int (i.fdiv j),.int (i.fmod j)]))
  |_=>.bad
noncomputable def isStr:Dt->Bool
 |.str _=>true
 |_=>false
inductive MT where
 |join
 deriving DecidableEq
noncomputable def QM:MT->Dt->List Dt->R Dt
 |.join,.str z,[.lst ds]=>match strsOf ds with
  |some ys=>ab (decide ((ys.map (·.length)).sum+ys.length*z.length<=lim)) (.ok (.str (PySem.Txt.join z ys)))
  |none=>.bad
 |_,_,_=>.bad
inductive Tg where
 |nm (i:Nat)|tp (is:List Nat)
 deriving DecidableEq
mutual
inductive C where
 |con (d:Dt)|var (i:Nat)|mvr (i:Nat)
 |bin (o:Operator) (a b:C)|cmp (o:CmpOp) (a b:C)|ch (o p:CmpOp) (a b c:C)
 |neg (a:C)|nt (a:C)|and (a b:C)|or (a b:C)|ite (t a b:C)
 |idx (a b:C)|sliL (a lo:C)|sliH (a hi:C)|sliB (a lo hi:C)
 |tup (es:Cs)|lst (es:Cs)
 |call (f:Nat) (es:Cs) (ds:List Dt)|callD (f:Nat) (es:Cs)|popD|lenD
 |bi (b:BI) (es:Cs)|mt (m:MT) (o:C) (es:Cs)
 |Ic (i:Nat) (k e:C)|bH (i:Nat)|gtO (o k e:C)
 |comp (cap:List (Option Nat)) (it:mX) (tg:Tg) (ts:Cs) (e:C)
 |gZ (cap:List (Option Nat)) (it:mX) (tg:Tg) (ts:Cs) (g6:mX) (jM:Tg) (Hi:Cs) (e:C)
inductive Cs where
 |nil|cons (c:C) (cs:Cs)
inductive mX where
 |seq (c:C)|rng1 (c:C)|rng2 (a b:C)|zip (a b:C)|enum (c:C)|zipR (a c:C)
end
noncomputable def Cs.all(p:C->Bool):Cs->Bool
 |.nil=>true
 |.cons c cs=>p c&&cs.all p
mutual
noncomputable def lk:C->Nat
 |.mvr _=>1
 |.and _ _=>0
 |.or _ _=>0
 |.ite _ a b=>max (lk a) (lk b)
 |.idx a _=>if lk a<=1 then 0 else 2
 |.sliL a _=>if lk a<=1 then 0 else 2
 |.sliH a _=>if lk a<=1 then 0 else 2
 |.sliB a _ _=>if lk a<=1 then 0 else 2
 |.bin _ a b=>if lk a<=1/\lk b<=1 then 0 else 2
 |.tup es=>if qK es=0 then 0 else 2
 |.lst es=>if qK es=0 then 0 else 2
 |.call _ es _=>if qK es=0 then 0 else 2
 |.callD _ es=>if qK es=0 then 0 else 2
 |.bi _ es=>if qK es<=1 then 0 else 2
 |.Ic _ _ e=>lk e
 |.gtO o _ e=>if lk o=0 then lk e else 2
 |_=>0
noncomputable def qK:Cs->Nat
 |.nil=>0
 |.cons c cs=>max (lk c) (qK cs)
end
noncomputable def sZ:mX->Nat
 |.seq c=>lk c
 |.zip a b=>max (lk a) (lk b)
 |.enum c=>lk c
 |.zipR a _=>lk a
 |_=>0
noncomputable def fresh(fr:Nat->Bool):C->Bool
 |.lst _=>true
 |.comp ..=>true
 |.gZ ..=>true
 |.bi .sorted _=>true
 |.bi .list _=>true
 |.bin ..=>true
 |.sliH ..=>true
 |.call f _ _=>fr f
 |.callD f _=>fr f
 |_=>false
noncomputable def cc(c:C)(d:Dt):Bool:=decide (lk c=0)||nV d
noncomputable def l9(c:C)(d:Dt):Bool:=decide (lk c=0)||match d with|.lst ds=>jH ds|d=>nV d
noncomputable def eN(ρ:ah)(i:Nat):R Dt:=match ρ[i]? with
 |some (some d)=>.ok d
 |_=>.bad
noncomputable def j6(cap:List (Option Nat))(ρ:ah):ah:=cap.map λo=>o.bind λi=>(ρ[i]?).join
noncomputable def hU:List Nat->List Dt->ah->R ah
 |[],[],ρ=>.ok ρ
 |i::is,d::ds,ρ=>hU is ds (ρ.set i (some d))
 |_,_,_=>.bad
noncomputable def d5:Tg->Dt->ah->R ah
 |.nm i,d,ρ=>.ok (ρ.set i (some d))
 |.tp is,.tup ds,ρ=>hU is ds ρ
 |_,_,_=>.bad
noncomputable def Ad(is:List Nat)(d:Dt)(ρ:ah):R ah:=match d with
 |.tup ds=>hU is ds ρ
 |.lst ds=>hU is ds ρ
 |_=>.bad
noncomputable def aQ(f:Dt->Sx->R (List Dt×Sx)):List Dt->Sx->R (List Dt×Sx)
 |[],S=>.ok ([],S)
 |x::xs,S=>(f x S).bind λp=>(aQ f xs p.2).bind λq=>.ok (p.1++q.1,q.2)
noncomputable def aR(tg:Tg)(N2:ah->Sx->R (Bool×Sx))(body:ah->Sx->R (List Dt×Sx))(ρ:ah)(d:Dt)(S:Sx):R (List Dt×Sx):=
 (d5 tg d ρ).bind λρ1=>(N2 ρ1 S).bind λb=>if b.1 then body ρ1 b.2 else .ok ([],b.2)
noncomputable def bh(lo:Int)(n:Nat):List Dt:=(List.range n).map λ(i:Nat)=>Dt.int (lo+(i:Int))
noncomputable def LQ(d:Mx.D):List Dt->List Dt->Option Dt
 |k::ks,v::vs=>if toD k=some d then some v else LQ d ks vs
 |_,_=>none
noncomputable def HQ(d:Mx.D)(v:Dt):List Dt->List Dt->List Dt
 |k::ks,x::vs=>(if toD k=some d then v else x)::HQ d v ks vs
 |_,vs=>vs
noncomputable def IZ(k:Dt):Option Mx.D:=match toD k with
 |some (.tup ds)=>if Mx.D.dep (.tup ds)<=8 then some (.tup ds) else none
 |_=>none
noncomputable def HL(z k e:Dt):R Dt:=match z with
 |.gA ks vs=>match IZ k with
  |some d=>.ok ((LQ d ks vs).getD e)
  |none=>.bad
 |_=>.bad
noncomputable def HR(z k v:Dt):R Dt:=match z with
 |.gA ks vs=>match IZ k with
  |some d=>ab (decide (ks.length<lim)) (.ok (if (LQ d ks vs).isSome then .gA ks (HQ d v ks vs) else .gA (ks++[k]) (vs++[v])))
  |none=>.bad
 |_=>.bad
noncomputable def zH(ks vs:List Mx.D):List Mx.D:=(ks.zip vs).map λz=>.tup [z.1,z.2]
noncomputable def HS(z:Dt):R Dt:=match z with
 |.gA ks vs=>match fD ks,fD vs with
  |some ms,some ns=>ab (jA (zH ms ns)) (.ok (.lst (bK (dQ (zH ms ns)))))
  |_,_=>.bad
 |_=>.bad
noncomputable def MW:Dt->Bool
 |.obj _ _=>true
 |_=>false
noncomputable def O0(y:Str):List Str->List Dt->Option Dt
 |k::ks,v::vs=>if k=y then some v else O0 y ks vs
 |_,_=>none
noncomputable def Jr(z k e:Dt):R Dt:=match z with
 |.obj ks vs=>match k with
  |.str y=>.ok ((O0 y ks vs).getD e)
  |_=>.bad
 |_=>.bad
noncomputable def IU(ρ:ah)(i:Nat):Bool:=match ρ[i]? with|some (some (.gA _ _))=>true|_=>false
noncomputable abbrev FT:=Nat->List Dt->Sx->R (Dt×Sx)
mutual
noncomputable def ev(F:FT):C->ah->Sx->R (Dt×Sx)
 |.con d,_,S=>.ok (d,S)
 |.var i,ρ,S=>(eN ρ i).bind λd=>.ok (d,S)
 |.mvr i,ρ,S=>(eN ρ i).bind λd=>.ok (d,S)
 |.bin o a b,ρ,S=>(ev F a ρ S).bind λx=>(ev F b ρ x.2).bind λy=>(mM o x.1 y.1).bind λd=>.ok (d,y.2)
 |.cmp o a b,ρ,S=>(ev F a ρ S).bind λx=>(ev F b ρ x.2).bind λy=>(dg o x.1 y.1).bind λd=>.ok (.bl d,y.2)
 |.ch o p a b c,ρ,S=>(ev F a ρ S).bind λx=>(ev F b ρ x.2).bind λy=>(dg o x.1 y.1).bind λd=>
   if d then(ev F c ρ y.2).bind λz=>(dg p y.1 z.1).bind λe=>.ok (.bl e,z.2) else .ok (.bl false,y.2)
 |.neg a,ρ,S=>(ev F a ρ S).bind λx=>match x.1 with|.int i=>.ok (.int (-i),x.2)|_=>.bad
 |.nt a,ρ,S=>(ev F a ρ S).bind λx=>match x.1 with|.bl b=>.ok (.bl !b,x.2)|_=>.bad
 |.and a b,ρ,S=>(ev F a ρ S).bind λx=>match x.1 with|.bl true=>(ev F b ρ x.2).bind λy=>(match y.1 with|.bl c=>.ok (.bl c,y.2)|_=>.bad)|.bl false=>.ok (.bl false,x.2)|_=>.bad
 |.or a b,ρ,S=>(ev F a ρ S).bind λx=>match x.1 with|.bl false=>(ev F b ρ x.2).bind λy=>(match y.1 with|.bl c=>.ok (.bl c,y.2)|_=>.bad)|.bl true=>.ok (.bl true,x.2)|_=>.bad
 |.ite t a b,ρ,S=>(cN F t ρ S).bind λx=>if x.1 then ev F a ρ x.2 else ev F b ρ x.2
 |.idx a b,ρ,S=>(ev F a ρ S).bind λx=>(ev F b ρ x.2).bind λy=>(cT x.1 y.1).bind λd=>.ok (d,y.2)
 |.sliL a l,ρ,S=>(ev F a ρ S).bind λx=>(ev F l ρ x.2).bind λy=>match y.1 with|.int i=>(gj x.1 (some i) none).bind λd=>.ok (d,y.2)|_=>.bad
 |.sliH a h,ρ,S=>(ev F a ρ S).bind λx=>(ev F h ρ x.2).bind λy=>match y.1 with|.int i=>(gj x.1 none (some i)).bind λd=>.ok (d,y.2)|_=>.bad
 |.sliB a l h,ρ,S=>(ev F a ρ S).bind λx=>(ev F l ρ x.2).bind λy=>match y.1 with|.int i=>(ev F h ρ y.2).bind λz=>(match z.1 with|.int j=>(gj x.1 (some i) (some j)).bind λd=>.ok (d,z.2)|_=>.bad)|_=>.bad
 |.tup es,ρ,S=>(gS F es ρ S).bind λx=>ab (decide (x.1.length<=lim)) (.ok (.tup x.1,x.2))
 |.lst es,ρ,S=>(gS F es ρ S).bind λx=>ab (decide (x.1.length<=lim)) (.ok (.lst x.1,x.2))
 |.call f es ds,ρ,S=>(gS F es ρ S).bind λx=>(F f (x.1++ds) none).bind λy=>.ok (y.1,x.2)
 |.callD f es,ρ,S=>ab S.isSome ((gS F es ρ S).bind λx=>match x.2 with|some s=>F f x.1 (some s)|none=>.bad)
 |.popD,_,S=>match S with|some ns=>ab (!ns.isEmpty) (.ok (.int (ns.getLastD 0),some ns.dropLast))|none=>.bad
 |.lenD,_,S=>match S with|some ns=>.ok (.int ns.length,S)|none=>.bad
 |.Ic i k e,ρ,S=>ab (IU ρ i) ((ev F k ρ S).bind λx=>(ev F e ρ x.2).bind λy=>(eN ρ i).bind λz=>(HL z x.1 y.1).bind λd=>.ok (d,y.2))
 |.bH i,ρ,S=>(eN ρ i).bind λz=>(HS z).bind λd=>.ok (d,S)
 |.gtO o k e,ρ,S=>(ev F o ρ S).bind λz=>ab (MW z.1) ((ev F k ρ z.2).bind λx=>(ev F e ρ x.2).bind λy=>(Jr z.1 x.1 y.1).bind λd=>.ok (d,y.2))
 |.bi b es,ρ,S=>(gS F es ρ S).bind λx=>(eD b x.1).bind λd=>.ok (d,x.2)
 |.mt m o es,ρ,S=>(ev F o ρ S).bind λy=>ab (isStr y.1) ((gS F es ρ y.2).bind λx=>(QM m y.1 x.1).bind λd=>.ok (d,x.2))
 |.comp cap it tg ts e,ρ,S=>(d7 F it ρ S).bind λx=>ab (decide (x.1.length<=lim)&&(decide (sZ it<=1)||mH F it ρ S))
   ((aQ (aR tg (bp F ts) (λρ1 S1=>(ev F e ρ1 S1).bind λy=>ab (cc e y.1) (.ok ([y.1],y.2))) (j6 cap ρ)) x.1 x.2).bind λq=>.ok (.lst q.1,q.2))
 |.gZ cap it tg ts g6 jM Hi e,ρ,S=>(d7 F it ρ S).bind λx=>ab (decide (x.1.length<=lim)&&(decide (sZ it<=1)||mH F it ρ S))
   ((aQ (aR tg (bp F ts) (λρ1 S1=>(d7 F g6 ρ1 S1).bind λx2=>ab (decide (x.1.length*x2.1.length<=lim)&&decide (sZ g6=0))
    (aQ (aR jM (bp F Hi) (λρ2 S2=>(ev F e ρ2 S2).bind λy=>ab (cc e y.1) (.ok ([y.1],y.2))) ρ1) x2.1 x2.2)) (j6 cap ρ)) x.1 x.2).bind λq=>.ok (.lst q.1,q.2))
noncomputable def cN(F:FT):C->ah->Sx->R (Bool×Sx)
 |.nt a,ρ,S=>(cN F a ρ S).bind λx=>.ok (!x.1,x.2)
 |.and a b,ρ,S=>(cN F a ρ S).bind λx=>if x.1 then cN F b ρ x.2 else .ok (false,x.2)
 |.or a b,ρ,S=>(cN F a ρ S).bind λx=>if x.1 then .ok (true,x.2) else cN F b ρ x.2
 |.cmp o a b,ρ,S=>(ev F a ρ S).bind λx=>(ev F b ρ x.2).bind λy=>(dg o x.1 y.1).bind λd=>.ok (d,y.2)
 |.ch o p a b c,ρ,S=>(ev F a ρ S).bind λx=>(ev F b ρ x.2).bind λy=>(dg o x.1 y.1).bind λd=>
   if d then(ev F c ρ y.2).bind λz=>(dg p y.1 z.1).bind λe=>.ok (e,z.2) else .ok (false,y.2)
 |.var i,ρ,S=>(eN ρ i).bind λd=>(dU d).bind λb=>.ok (b,S)
 |.mvr i,ρ,S=>(eN ρ i).bind λd=>(dU d).bind λb=>.ok (b,S)
 |.call f es ds,ρ,S=>(gS F es ρ S).bind λx=>(F f (x.1++ds) none).bind λy=>(dU y.1).bind λb=>.ok (b,x.2)
 |.callD f es,ρ,S=>ab S.isSome ((gS F es ρ S).bind λx=>match x.2 with|some s=>(F f x.1 (some s)).bind λy=>(dU y.1).bind λb=>.ok (b,y.2)|none=>.bad)
 |.bi b es,ρ,S=>(gS F es ρ S).bind λx=>(eD b x.1).bind λd=>(dU d).bind λb=>.ok (b,x.2)
 |.idx a b,ρ,S=>(ev F a ρ S).bind λx=>(ev F b ρ x.2).bind λy=>(cT x.1 y.1).bind λd=>(dU d).bind λb=>.ok (b,y.2)
 |_,_,_=>.bad
noncomputable def gS(F:FT):Cs->ah->Sx->R (List Dt×Sx)
 |.nil,_,S=>.ok ([],S)
 |.cons c cs,ρ,S=>(ev F c ρ S).bind λx=>(gS F cs ρ x.2).bind λy=>.ok (x.1::y.1,y.2)
noncomputable def bp(F:FT):Cs->ah->Sx->R (Bool×Sx)
 |.nil,_,S=>.ok (true,S)
 |.cons c .nil,ρ,S=>cN F c ρ S
 |_,_,_=>.bad
noncomputable def d7(F:FT):mX->ah->Sx->R (List Dt×Sx)
 |.seq c,ρ,S=>(ev F c ρ S).bind λx=>match itemsOf x.1 with|some ds=>.ok (ds,x.2)|none=>.bad
 |.rng1 c,ρ,S=>(ev F c ρ S).bind λx=>match x.1 with|.int j=>ab (decide (j<=lim)&&decide (-lim<=j)) (.ok (bh 0 j.toNat,x.2))|_=>.bad
 |.rng2 a b,ρ,S=>(ev F a ρ S).bind λx=>(ev F b ρ x.2).bind λy=>match x.1,y.1 with
   |.int i,.int j=>ab (decide (i.natAbs<=lim)&&decide (j.natAbs<=lim)) (.ok (bh i (j-i).toNat,y.2))|_,_=>.bad
 |.zip a b,ρ,S=>(ev F a ρ S).bind λx=>(ev F b ρ x.2).bind λy=>match dc x.1,dc y.1 with
   |some xs,some ys=>.ok (dq xs ys,y.2)|_,_=>.bad
 |.enum c,ρ,S=>(ev F c ρ S).bind λx=>match dc x.1 with|some ds=>.ok (yk 0 ds,x.2)|none=>.bad
 |.zipR a c,ρ,S=>(ev F a ρ S).bind λx=>(ev F c ρ x.2).bind λy=>match dc x.1,y.1 with
   |some xs,.int j=>ab (decide (j<=lim)&&decide (-lim<=j)) (.ok (dq xs (bh 0 j.toNat),y.2))|_,_=>.bad
noncomputable def mH(F:FT):mX->ah->Sx->Bool
 |.seq c,ρ,S=>match ev F c ρ S with|.ok x=>nV x.1|_=>false
 |_,_,_=>false
end
inductive Fl where
 |next|brk|cnt|ret (d:Dt)
mutual
inductive T where
 |asg (i:Nat) (c:C)|asgM (i:Nat) (c:C)|asgD (i:Nat) (c:C)|mov (i j:Nat)|asgT (is:List Nat) (c:C)
 |aug (i:Nat) (o:Operator) (c:C)
 |Ac (i:Nat) (k v:C)|ins (i:Nat) (k v:C)|app (i:Nat) (c:C)|xtd (i:Nat) (c:C)|clr (i:Nat)
 |HN (c:C)|ret (c:C)|retN|ifs (t:C) (a b:Ts)|fr (tg:Tg) (it:mX) (b:Ts)|wh (t:C) (b:Ts)
 |LR (i:Nat)|dset (i:Nat) (k v:C)
 |rs (k:Nat) (vs:List Nat)|tr (b:Ts) (A5:List (Option Bool))|brk|cnt|pas
inductive Ts where
 |nil|cons (t:T) (ts:Ts)
end
noncomputable abbrev RS:=R (Fl×ah×Sx)
noncomputable def forL(tg:Tg)(body:ah->Sx->RS):List Dt->ah->Sx->RS
 |[],ρ,S=>.ok (.next,ρ,S)
 |x::xs,ρ,S=>(d5 tg x ρ).bind λρ1=>(body ρ1 S).bind λp=>match p.1 with
  |.next=>forL tg body xs p.2.1 p.2.2
  |.cnt=>forL tg body xs p.2.1 p.2.2
  |.brk=>.ok (.next,p.2)
  |.ret d=>.ok (.ret d,p.2)
noncomputable def N4(test:ah->Sx->R (Bool×Sx))(body:ah->Sx->RS):Nat->ah->Sx->RS
 |0,_,_=>.bad
 |n+1,ρ,S=>(test ρ S).bind λb=>if b.1 then(body ρ b.2).bind λp=>match p.1 with
   |.next=>N4 test body n p.2.1 p.2.2
   |.cnt=>N4 test body n p.2.1 p.2.2
   |.brk=>.ok (.next,p.2)
   |.ret d=>.ok (.ret d,p.2)
  else .ok (.next,ρ,b.2)
noncomputable def Km:Nat:=100000
noncomputable def isLE(ρ:ah)(i:Nat):Bool:=match ρ[i]? with
 |some (some (.lst _))=>true
 |_=>false
noncomputable def pj(ρ:ah)(i:Nat):R (List Dt):=match ρ[i]? with
 |some (some (.lst ds))=>.ok ds
 |_=>.bad
mutual
noncomputable def ex(F:FT):T->ah->Sx->RS
 |.asg i c,ρ,S=>(ev F c ρ S).bind λx=>ab (cc c x.1) (.ok (.next,ρ.set i (some x.1),x.2))
 |.asgM i c,ρ,S=>(ev F c ρ S).bind λx=>ab (l9 c x.1) (.ok (.next,ρ.set i (some x.1),x.2))
 |.asgD i c,ρ,S=>(ev F c ρ S).bind λx=>match x.1 with|.lst ds=>(match intsOf ds with|some ns=>ab (decide (lk c=0)&&decide (i<ρ.length)) (.ok (.next,ρ.set i none,some ns))|none=>.bad)|_=>.bad
 |.mov i j,ρ,S=>(eN ρ j).bind λd=>.ok (.next,(ρ.set j none).set i (some d),S)
 |.asgT is c,ρ,S=>(ev F c ρ S).bind λx=>ab (cc c x.1) ((Ad is x.1 ρ).bind λρ1=>.ok (.next,ρ1,x.2))
 |.aug i o c,ρ,S=>(eN ρ i).bind λd=>(ev F c ρ S).bind λx=>match d,x.1 with
   |.int _,.int _=>(mM o d x.1).bind λz=>.ok (.next,ρ.set i (some z),x.2)
   |.str _,.str _=>(mM o d x.1).bind λz=>.ok (.next,ρ.set i (some z),x.2)
   |_,_=>.bad
 |.Ac i k v,ρ,S=>ab (isLE ρ i) ((ev F v ρ S).bind λx=>(ev F k ρ x.2).bind λy=>ab (cc v x.1) ((pj ρ i).bind λds=>match y.1 with
   |.int n=>(match pd ds.length n with|some j=>.ok (.next,ρ.set i (some (.lst (ds.set j x.1))),y.2)|none=>.bad)|_=>.bad))
 |.ins i k v,ρ,S=>ab (isLE ρ i) ((ev F k ρ S).bind λy=>(ev F v ρ y.2).bind λx=>ab (cc v x.1) ((pj ρ i).bind λds=>ab (decide (ds.length<=lim)) (match y.1 with
   |.int n=>ab (decide (0<=n)&&decide (n.toNat<=ds.length)) (.ok (.next,ρ.set i (some (.lst (ds.take n.toNat++x.1::ds.drop n.toNat))),x.2))|_=>.bad)))
 |.LR i,ρ,S=>.ok (.next,ρ.set i (some (.gA [] [])),S)
 |.dset i k v,ρ,S=>ab (IU ρ i) ((ev F v ρ S).bind λx=>(ev F k ρ x.2).bind λy=>(eN ρ i).bind λz=>ab (decide (lk v=0)) ((HR z y.1 x.1).bind λd=>.ok (.next,ρ.set i (some d),y.2)))
 |.app i c,ρ,S=>ab (isLE ρ i) ((ev F c ρ S).bind λx=>ab (cc c x.1) ((pj ρ i).bind λds=>ab (decide (ds.length<=lim)) (.ok (.next,ρ.set i (some (.lst (ds++[x.1]))),x.2))))
 |.xtd i c,ρ,S=>ab (isLE ρ i) ((ev F c ρ S).bind λx=>ab (decide (lk c<=1)) ((pj ρ i).bind λds=>match x.1 with
   |.lst es=>ab (decide (ds.length+es.length<=lim)) (.ok (.next,ρ.set i (some (.lst (ds++es))),x.2))|.tup es=>ab (decide (ds.length+es.length<=lim)) (.ok (.next,ρ.set i (some (.lst (ds++es))),x.2))|_=>.bad))
 |.clr i,ρ,S=>(pj ρ i).bind λ_=>.ok (.next,ρ.set i (some (.lst [])),S)
 |.HN c,ρ,S=>(ev F c ρ S).bind λx=>.ok (.next,ρ,x.2)
 |.ret c,ρ,S=>(ev F c ρ S).bind λx=>.ok (.ret x.1,ρ,x.2)
 |.retN,ρ,S=>.ok (.ret .aW,ρ,S)
 |.ifs t a b,ρ,S=>(cN F t ρ S).bind λx=>if x.1 then aU F a ρ x.2 else aU F b ρ x.2
 |.fr tg it b,ρ,S=>(d7 F it ρ S).bind λx=>ab (decide (sZ it=0)||mH F it ρ S) (forL tg (aU F b) x.1 ρ x.2)
 |.wh t b,ρ,S=>N4 (cN F t) (aU F b) Km ρ S
 |.rs _ _,_,_=>.bad
 |.tr b A5,ρ,S=>ab S.isNone (match aU F b ρ S with|.ex k=>(match A5[k]? with|some (some v)=>.ok (.ret (.bl v),ρ,S)|_=>.bad)|r=>r)
 |.brk,ρ,S=>.ok (.brk,ρ,S)
 |.cnt,ρ,S=>.ok (.cnt,ρ,S)
 |.pas,ρ,S=>.ok (.next,ρ,S)
noncomputable def aU(F:FT):Ts->ah->Sx->RS
 |.nil,ρ,S=>.ok (.next,ρ,S)
 |.cons t ts,ρ,S=>(ex F t ρ S).bind λp=>match p.1 with
  |.next=>aU F ts p.2.1 p.2.2
  |f=>.ok (f,p.2)
end
structure Fn where
 ps:Nat
 n:Nat
 bo:Bool
 body:Ts
noncomputable def hJ(F:FT)(f:Fn)(args:List Dt)(S:Sx):R (Dt×Sx):=
 if args.length+(if f.bo then 1 else 0)=f.ps then
  (aU F f.body ((if f.bo then[none] else[])++args.map some++List.replicate (f.n-f.ps) none) S).bind λp=>match p.1 with
   |.next=>.ok (.aW,p.2.2)
   |.ret d=>.ok (d,p.2.2)
   |_=>.bad
 else .bad
noncomputable def ax(fs:List Fn):Nat->FT
 |0,_,_,_=>.bad
 |n+1,f,args,S=>match fs[f]? with
  |some g=>hJ (ax fs n) g args S
  |none=>.bad
structure G where
 fns:List (Str×Nat×List Dt×Bool)
 cons:List (Str×Dt)
 bls:List Str
 fr:Nat->Bool
 xs:List (Str×List (Str×Bool))
structure Gm where
 names:List (Str×NameKind)
 N:List Str
 M:List Bool
 δ:Option Nat
 κ:Option Nat
noncomputable def AA:Option NameKind->Bool
 |some .local=>true
 |some .cell=>true
 |some .free=>true
 |_=>false
noncomputable def zo:Option NameKind->Bool
 |some .local=>true
 |some .cell=>true
 |_=>false
noncomputable def De:Option NameKind->Bool
 |some .globalImplicit=>true
 |_=>false
noncomputable def BR(x:Str):List Str->Option Nat
 |[]=>none
 |y::r=>if x==y then some 0 else(BR x r).map (· + 1)
theorem pe{x:Str}:∀{l:List Str}{i:Nat},BR x l=some i->l[i]?=some x
 |[],i,h=>by simp[BR]at h
 |y::r,i,h=>by
  unfold BR at h;by_cases e:(x==y)=true
  ·rw[Vl e]at h;cases h;have:x=y:=by simpa using e
   simp[this]
  ·rw[Vk e]at h;obtain⟨j,h1,rfl⟩:=RP.mp h;simp[pe h1]
noncomputable def fB(x:Str):Bool:= !(x==("__debug__":Str))&& !(x==("__classdict__":Str))&& !(x==("__name__":Str))
noncomputable def slot(Γ:Gm)(x:Str):Option Nat:=if AA (Γ.names.lookup x)&&fB x then BR x Γ.N else none
noncomputable def hV(Γ:Gm)(x:Str):Option Nat:=if zo (Γ.names.lookup x)&&fB x then BR x Γ.N else none
noncomputable def fH(Γ:Gm)(i:Nat):Bool:=Γ.M[i]?==some true
noncomputable def plainS(Γ:Gm)(i:Nat):Bool:= !fH Γ i&& !(Γ.δ==some i)
noncomputable def sN(x:Str):List (Str×Nat×List Dt×Bool)->Option (Nat×Nat×List Dt×Bool)
 |[]=>none
 |y::r=>if x==y.1 then some (0,y.2) else(sN x r).map λp=>(p.1+1,p.2)
noncomputable def xS:List (Str×Nat×BI):=[("len",1,.len),("abs",1,.abs),("max",2,.max2),("sum",1,.sum),("any",1,.any),("max",1,.maxL),("sorted",1,.sorted),("tuple",1,.tuple),("list",1,.list),("int",1,.int),("divmod",2,.dvm)]
noncomputable def sr(x:Str)(n:Nat):Option BI:=(xS.find? λt=>t.1==x&&t.2.1==n).map (·.2.2)
noncomputable def tX(x:Str):Option String:=
 if x==("str":Str) then some "str" else if x==("int":Str) then some "int" else if x==("bool":Str) then some "bool"
 else if x==("list":Str) then some "list" else if x==("tuple":Str) then some "tuple" else none
noncomputable def qU(Γ:Gm):Expr->Option Nat
 |.Name x _=>(hV Γ x).bind λi=>if plainS Γ i then some i else none
 |_=>none
noncomputable def fZ(Γ:Gm):List Expr->Option (List Nat)
 |[]=>some []
 |e::es=>(qU Γ e).bind λi=>(fZ Γ es).map (i:: ·)
noncomputable def qh(Γ:Gm):Expr->Option Tg
 |.Name x p=>(qU Γ (.Name x p)).map .nm
 |.Tuple es _ _=>(fZ Γ es).map .tp
 |_=>none
noncomputable def LM(names:List (Str×NameKind)):List Str:=names.filterMap λp=>if AA (some p.2) then some p.1 else none
noncomputable def Eh(names:List (Str×NameKind))(N:List Str):List (Option Nat):=names.filterMap λp=>match p.2 with
 |.local=>some none
 |.free=>some (BR p.1 N)
 |.cell=>some none
 |_=>none
noncomputable def Ei(cap:List (Option Nat))(M:List Bool):List Bool:=cap.map λo=>o.elim false λi=>M[i]?==some true
noncomputable def A2(δ:Option Nat):List (Option Nat)->Option Nat
 |[]=>none
 |o::r=>if δ.isSome&&o==δ then some 0 else(A2 δ r).map (· + 1)
noncomputable def a8(Γ:Gm)(sc:Scope):Gm×List (Option Nat):=
 let cap:=Eh sc.names Γ.N
 (⟨sc.names,LM sc.names,Ei cap Γ.M,A2 Γ.δ cap,A2 Γ.κ cap⟩,cap)
noncomputable def aY:Tg->List Nat
 |.nm i=>[i]
 |.tp is=>is
noncomputable def xU(names on:List (Str×NameKind))(N' Nn:List Str)(cap:List (Option Nat)):Bool:=
 names.all (λy=>names.lookup y.1==some y.2&&(y.2 != .free||(on.lookup y.1==some .cell||on.lookup y.1==some .free)))&&
 (cap.length==N'.length)&&(List.range cap.length).all (λj=>match cap[j]? with
  |some (some i)=>(match N'[j]? with
   |some x=>Nn[i]?==some x&&names.lookup x==some .free
   |none=>false)
  |_=>true)
noncomputable def MV(Γ:Gm):Expr->Bool
 |.Name x _=>match slot Γ x with
  |some i=>Γ.δ==some i
  |none=>false
 |_=>false
mutual
noncomputable def cE:Nat->G->Gm->Expr->Option C
 |0,_,_,_=>none
 |n+1,g,Γ,e=>match e with
  |.Constant k _ _=>match k with
   |.int i=>some (.con (.int i))
   |.str x=>some (.con (.str x))
   |.bool x=>some (.con (.bl x))
   |.none=>some (.con .aW)
   |_=>none
  |.Name x _=>match slot Γ x with
   |some i=>if Γ.δ==some i||Γ.κ==some i then none else if fH Γ i then some (.mvr i) else some (.var i)
   |none=>if De (Γ.names.lookup x)&&fB x then(g.cons.lookup x).map .con else none
  |.BinOp a o b _=>(cE n g Γ a).bind λa'=>(cE n g Γ b).bind λb'=>some (.bin o a' b')
  |.UnaryOp o a _=>(cE n g Γ a).bind λa'=>match o with
   |.USub=>some (.neg a')
   |.Not=>some (.nt a')
   |_=>none
  |.BoolOp o vs _=>cB n g Γ o vs
  |.Compare a os bs _=>match os,bs with
   |[o],[b]=>(cE n g Γ a).bind λa'=>(cE n g Γ b).bind λb'=>some (.cmp o a' b')
   |_,_=>none
  |.Subscript a b _=>match b with
   |.Slice (some l) none none _=>(cE n g Γ a).bind λa'=>(cE n g Γ l).bind λl'=>some (.sliL a' l')
   |.Slice none (some h) none _=>(cE n g Γ a).bind λa'=>(cE n g Γ h).bind λh'=>some (.sliH a' h')
   |b=>(cE n g Γ a).bind λa'=>(cE n g Γ b).bind λb'=>some (.idx a' b')
  |.Tuple es _ _=>(xV n g Γ es).bind λek=>some (.tup ek)
  |.List es _=>(xV n g Γ es).bind λek=>some (.lst ek)
  |.Call f as ks pos=>match f,as,ks with
   |.Name f _,a::as,[]=>uv n g Γ f a as
   |_,_,_=>none
  |.ListComp elt gens sc _=>
   let b:=a8 Γ sc
   if sc.kind== .function then(match gens with
   |[⟨tg,it,ifs,0⟩]=>(cI n g Γ tg it).bind λkz=>(qh b.1 tg).bind λmf=>(Bq n g b.1 ifs).bind λpV=>(cE n g b.1 elt).bind λe'=>
    if xU sc.names Γ.names b.1.N Γ.N b.2&&decide b.1.N.Nodup then some (.comp b.2 kz mf pV e') else none
   |[⟨tg,it,ifs,0⟩,⟨jM,g6,cC,0⟩]=>(cI n g Γ tg it).bind λkz=>(qh b.1 tg).bind λmf=>(Bq n g b.1 ifs).bind λpV=>(cI n g b.1 jM g6).bind λqC=>(qh b.1 jM).bind λmh=>(Bq n g b.1 cC).bind λrH=>(cE n g b.1 elt).bind λe'=>
    if xU sc.names Γ.names b.1.N Γ.N b.2&&decide b.1.N.Nodup&&(aY mh).all (λi=> !(aY mf).contains i) then some (.gZ b.2 kz mf pV qC mh rH e') else none
   |_=>none) else none
  |_=>none
noncomputable def xV:Nat->G->Gm->List Expr->Option Cs
 |0,_,_,_=>none
 |n+1,g,Γ,es=>match es with
  |[]=>some .nil
  |e::es=>(cE n g Γ e).bind λe'=>(xV n g Γ es).bind λek=>some (.cons e' ek)
noncomputable def Bq:Nat->G->Gm->List Expr->Option Cs
 |0,_,_,_=>none
 |n+1,g,Γ,es=>match es with
  |[]=>some .nil
  |[e]=>(cE n g Γ e).bind λe'=>some (.cons e' .nil)
  |_=>none
noncomputable def cB:Nat->G->Gm->BoolOp->List Expr->Option C
 |0,_,_,_,_=>none
 |n+1,g,Γ,o,es=>match es with
  |[e]=>cE n g Γ e
  |e::es=>(cE n g Γ e).bind λe'=>(cB n g Γ o es).bind λek=>some (match o with|.And=>.and e' ek|.Or=>.or e' ek)
  |[]=>none
noncomputable def cI:Nat->G->Gm->Expr->Expr->Option mX
 |0,_,_,_,_=>none
 |n+1,g,Γ,tg,e=>match e with
  |.Call (.Name f p) [a] [] q=>if f==("range":Str) then(if De (Γ.names.lookup f)&&g.bls.contains f then(cE n g Γ a).bind λa'=>some (.rng1 a') else none)
   else(cE n g Γ (.Call (.Name f p) [a] [] q)).bind λc=>some (.seq c)
  |.Call (.Name f p) [a,b] [] q=>if f==("range":Str) then(if De (Γ.names.lookup f)&&g.bls.contains f then none else none)
   else if f==("zip":Str) then(match tg with
    |.Tuple ..=>if De (Γ.names.lookup f)&&g.bls.contains f then(cE n g Γ a).bind λa'=>(cE n g Γ b).bind λb'=>some (.zip a' b') else none
    |_=>none)
   else(cE n g Γ (.Call (.Name f p) [a,b] [] q)).bind λc=>some (.seq c)
  |e=>(cE n g Γ e).bind λc=>some (.seq c)
noncomputable def uv:Nat->G->Gm->Str->Expr->List Expr->Option C
 |0,_,_,_,_,_=>none
 |n+1,g,Γ,f,a,as=>if De (Γ.names.lookup f)&&fB f then(match sN f g.fns with
  |some (k,np,fT,bo)=>if bo then(match a with
    |.Name x _=>match slot Γ x with
     |some i=>if Γ.δ==some i&&as.length+1==np then none else none
     |none=>none
    |_=>none)
   else if as.length+1<=np&&np-(as.length+1)<=fT.length then(xV n g Γ (a::as)).bind λes=>some (.call k es (fT.drop (fT.length-(np-(as.length+1))))) else none
  |none=>if g.bls.contains f then
    (if f==("len":Str)&&MV Γ a&&as.isEmpty then none
    else if f==("isinstance":Str) then(match as with
     |[.Name t _]=>if De (Γ.names.lookup t)&&g.bls.contains t then(tX t).bind λT=>(cE n g Γ a).bind λa'=>some (.bi (.isi T) (.cons a' .nil)) else none
     |_=>none)
    else match a,as with
     |.Call (.Name r _) [b] [] _,[]=>if r==("reversed":Str) then none
       else if r==("set":Str) then none
       else(sr f (as.length+1)).bind λi=>(xV n g Γ (a::as)).bind λes=>some (.bi i es)
     |.Call (.Name r _) [b,c] [] _,[]=>if r==("zip":Str) then none
       else(sr f (as.length+1)).bind λi=>(xV n g Γ (a::as)).bind λes=>some (.bi i es)
     |_,_=>(sr f (as.length+1)).bind λi=>(xV n g Γ (a::as)).bind λes=>some (.bi i es))
    else none)
  else none
end
section
variable{P:Program}{w:World}{K:Frag}{A B:Addr->Prop}{H:Hp}{s:Shared}
theorem elts(hok:fg P w H s.heap){A6 iN:List V}{i1 i2:List Dt}{gU aK:List Value}{R:Around}{n:Nat}(g1:aq K A H A6 i1)(g2:aq K B H iN i2)(r1:ar A6 gU)(r2:ar iN aK)(l1:gU.toArray.size=i1.length)(l2:aK.toArray.size=i2.length)
  (p1:mO i1=true) (p2:mO i2=true) (hd:qm i1<=n) (hu:R.in1.units+n<cLine) (j:Nat) (h1:j<gU.toArray.size) (h2:j<aK.toArray.size):EqAt R.in1 s gU.toArray[j] aK.toArray[j] (vq i1 i2 j):=by
 have nE:j<A6.length:=by rw[g1.length,<-l1];exact h1
 have nF:j<iN.length:=by rw[g2.length,<-l2];exact h2
 obtain⟨d,c1,c2⟩:=g1.get (i:=j) (x:=A6[j]) (by simp[nE]);obtain⟨e,k1,k2⟩:=g2.get (i:=j) (x:=iN[j]) (by simp[nF]);obtain⟨u,BM,ru⟩:=r1.get (i:=j) (x:=A6[j]) (by simp[nE]);obtain⟨v,E7,rv⟩:=r2.get (i:=j) (x:=iN[j]) (by simp[nF]);have eu:gU.toArray[j]=u:=by simp only[T4];exact(RB.mp BM).2
 have ev:aK.toArray[j]=v:=by simp only[T4];exact(RB.mp E7).2
 rw[eu,ev,show vq i1 i2 j=dy d e by unfold vq;rw[c1,k1]];exact Da hok n d e A6[j] iN[j] u v R.in1 (RK (k7 c1) hd) (ei p1 c1) (ei p2 k1) hu c2 k2 ru rv
theorem JK(hok:fg P w H s.heap)(n:Nat)(d e:Dt)(x y:V)(u v:Value)(R:Around)(hd:dp d<=n+1)(o7:pl d=true)(fX:pl e=true)(hu:R.units+n+1<cLine)(hx:RV K A H x d)(hy:RV K B H y e)(rx:RelV x u)(ry:RelV y v):RcAt R s u v (dy d e):=by
 cases d with
 |aW=>
  have:=hx.az;subst this;cases rx;cases e with
  |aW=>have:=hy.az;subst this;cases ry;exact RcAt.none_none
  |bl i2=>have:=hy.ay;subst this;cases ry;exact RcAt.none_bool i2
  |int i2=>have:=hy.int_inv;subst this;obtain⟨t2,rfl⟩:=ry;exact RcAt.none_int i2 t2
  |str i2=>have:=hy.str_inv;subst this;obtain⟨t2,rfl⟩:=ry;exact RcAt.none_str i2 t2
  |tup i2=>obtain⟨a2,iN,q2,f2,g2⟩:=hy.ae;subst q2;cases ry;obtain⟨aK,r2,ck⟩:=Mx.au hok f2;exact RcAt.none_tuple ck ⋯
  |lst i2=>obtain⟨a2,iN,q2,f2,_,g2⟩:=hy.lst_inv;subst q2;cases ry;obtain⟨aK,r2,ck⟩:=aP hok f2;exact RcAt.none_list ck ⋯
  |_=>simp[pl]at fX
 |bl i1=>
  have:=hx.ay;subst this;cases rx;cases e with
  |aW=>have:=hy.az;subst this;cases ry;exact RcAt.bool_none i1
  |bl i2=>have:=hy.ay;subst this;cases ry;exact RcAt.bool_bool i1 i2
  |int i2=>have:=hy.int_inv;subst this;obtain⟨t2,rfl⟩:=ry;exact RcAt.bool_int i1 i2 t2
  |str i2=>have:=hy.str_inv;subst this;obtain⟨t2,rfl⟩:=ry;exact RcAt.bool_str i1 i2 t2
  |tup i2=>obtain⟨a2,iN,q2,f2,g2⟩:=hy.ae;subst q2;cases ry;obtain⟨aK,r2,ck⟩:=Mx.au hok f2;exact RcAt.bool_tuple i1 ck ⋯
  |lst i2=>obtain⟨a2,iN,q2,f2,_,g2⟩:=hy.lst_inv;subst q2;cases ry;obtain⟨aK,r2,ck⟩:=aP hok f2;exact RcAt.bool_list i1 ck ⋯
  |_=>simp[pl]at fX
 |int i1=>
  have:=hx.int_inv;subst this;obtain⟨t1,rfl⟩:=rx;cases e with
  |aW=>have:=hy.az;subst this;cases ry;exact RcAt.int_none i1 t1
  |bl i2=>have:=hy.ay;subst this;cases ry;exact RcAt.int_bool i1 t1 i2
  |int i2=>have:=hy.int_inv;subst this;obtain⟨t2,rfl⟩:=ry;exact RcAt.int_int i1 t1 i2 t2
  |str i2=>have:=hy.str_inv;subst this;obtain⟨t2,rfl⟩:=ry;exact RcAt.int_str i1 t1 i2 t2
  |tup i2=>obtain⟨a2,iN,q2,f2,g2⟩:=hy.ae;subst q2;cases ry;obtain⟨aK,r2,ck⟩:=Mx.au hok f2;exact RcAt.int_tuple i1 t1 ck ⋯
  |lst i2=>obtain⟨a2,iN,q2,f2,_,g2⟩:=hy.lst_inv;subst q2;cases ry;obtain⟨aK,r2,ck⟩:=aP hok f2;exact RcAt.int_list i1 t1 ck ⋯
  |_=>simp[pl]at fX
 |str i1=>
  have:=hx.str_inv;subst this;obtain⟨t1,rfl⟩:=rx;cases e with
  |aW=>have:=hy.az;subst this;cases ry;exact RcAt.str_none i1 t1
  |bl i2=>have:=hy.ay;subst this;cases ry;exact RcAt.str_bool i1 t1 i2
  |int i2=>have:=hy.int_inv;subst this;obtain⟨t2,rfl⟩:=ry;exact RcAt.str_int i1 t1 i2 t2
  |str i2=>have:=hy.str_inv;subst this;obtain⟨t2,rfl⟩:=ry;exact RcAt.str_str i1 t1 i2 t2
  |tup i2=>obtain⟨a2,iN,q2,f2,g2⟩:=hy.ae;subst q2;cases ry;obtain⟨aK,r2,ck⟩:=Mx.au hok f2;exact RcAt.str_tuple i1 t1 ck ⋯
  |lst i2=>obtain⟨a2,iN,q2,f2,_,g2⟩:=hy.lst_inv;subst q2;cases ry;obtain⟨aK,r2,ck⟩:=aP hok f2;exact RcAt.str_list i1 t1 ck ⋯
  |_=>simp[pl]at fX
 |tup i1=>
  obtain⟨a1,A6,q1,f1,g1⟩:=hx.ae;subst q1;cases rx;obtain⟨gU,r1,iZ⟩:=Mx.au hok f1;cases e with
  |aW=>have:=hy.az;subst this;cases ry;exact RcAt.tuple_none iZ ⋯
  |bl i2=>have:=hy.ay;subst this;cases ry;exact RcAt.tuple_bool i2 iZ ⋯
  |int i2=>have:=hy.int_inv;subst this;obtain⟨t2,rfl⟩:=ry;exact RcAt.tuple_int i2 t2 iZ ⋯
  |str i2=>have:=hy.str_inv;subst this;obtain⟨t2,rfl⟩:=ry;exact RcAt.tuple_str i2 t2 iZ ⋯
  |tup i2=>
   obtain⟨a2,iN,q2,f2,g2⟩:=hy.ae;subst q2;cases ry;obtain⟨aK,r2,ck⟩:=Mx.au hok f2;have l1:gU.toArray.size=i1.length:=by rw[Rz,<-r1.length,g1.length]
   have l2:aK.toArray.size=i2.length:=by rw[Rz,<-r2.length,g2.length]
   have key:=RcAt.tuples (A:=R) (e:=vq i1 i2) iZ ck ⋯ (elts hok g1 g2 r1 r2 l1 l2 (by simpa [pl]using o7) (by simpa [pl]using fX) (n:=n) (by unfold dp at hd;lia) (by show R.units+1+n<cLine;lia));have q:=cP i1 i2;rw[<-l1,<-l2]at q;rw[q]at key;exact key
  |lst i2=>obtain⟨a2,iN,q2,f2,_,g2⟩:=hy.lst_inv;subst q2;cases ry;obtain⟨aK,r2,ck⟩:=aP hok f2;exact RcAt.tuple_list iZ ck ⋯
  |_=>simp[pl]at fX
 |lst i1=>
  obtain⟨a1,A6,q1,f1,_,g1⟩:=hx.lst_inv;subst q1;cases rx;obtain⟨gU,r1,iZ⟩:=aP hok f1;cases e with
  |aW=>have:=hy.az;subst this;cases ry;exact RcAt.list_none iZ ⋯
  |bl i2=>have:=hy.ay;subst this;cases ry;exact RcAt.list_bool i2 iZ ⋯
  |int i2=>have:=hy.int_inv;subst this;obtain⟨t2,rfl⟩:=ry;exact RcAt.list_int i2 t2 iZ ⋯
  |str i2=>have:=hy.str_inv;subst this;obtain⟨t2,rfl⟩:=ry;exact RcAt.list_str i2 t2 iZ ⋯
  |tup i2=>obtain⟨a2,iN,q2,f2,g2⟩:=hy.ae;subst q2;cases ry;obtain⟨aK,r2,ck⟩:=Mx.au hok f2;exact RcAt.list_tuple iZ ck ⋯
  |lst i2=>
   obtain⟨a2,iN,q2,f2,_,g2⟩:=hy.lst_inv;subst q2;cases ry;obtain⟨aK,r2,ck⟩:=aP hok f2;have l1:gU.toArray.size=i1.length:=by rw[Rz,<-r1.length,g1.length]
   have l2:aK.toArray.size=i2.length:=by rw[Rz,<-r2.length,g2.length]
   have q:=cP i1 i2;by_cases hl:i1.length=i2.length
   ·have key:=RcAt.lists (A:=R) (e:=vq i1 i2) iZ ck ⋯ ⋯ (elts hok g1 g2 r1 r2 l1 l2 (by simpa [pl]using o7) (by simpa [pl]using fX) (n:=n) (by unfold dp at hd;lia) (by show R.units+1+n<cLine;lia));rw[hl,Nat.min_self,Vf,SE]at q;rw[l1,hl,q]at key;exact key
   ·have key:=RcAt.lists_lengths (A:=R) iZ ck (by rw[l1,l2];simpa using hl) ⋯;have hb:(i1.length==i2.length)=false:=by simpa using hl
    rw[hb,SD]at q;show RcAt R s _ _ (dZ i1 i2);rw[<-q];exact key
  |_=>simp[pl]at fX
 |_=>simp[pl]at o7
theorem CB(hok:fg P w H s.heap)(n:Nat)(d e:Dt)(x y:V)(u v:Value)(R:Around)(hd:dp d<=n+1)(o7:pl d=true)(fX:pl e=true)(hu:R.units+n+1<cLine)(hx:RV K A H x d)(hy:RV K B H y e)(rx:RelV x u)(ry:RelV y v):RcNeAt R s u v (!dy d e):=by
 cases d with
 |aW=>
  have:=hx.az;subst this;cases rx;cases e with
  |aW=>have:=hy.az;subst this;cases ry;exact RcNeAt.none_none
  |bl i2=>have:=hy.ay;subst this;cases ry;exact RcNeAt.none_bool i2
  |int i2=>have:=hy.int_inv;subst this;obtain⟨t2,rfl⟩:=ry;exact RcNeAt.none_int i2 t2
  |str i2=>have:=hy.str_inv;subst this;obtain⟨t2,rfl⟩:=ry;exact RcNeAt.none_str i2 t2
  |tup i2=>obtain⟨a2,iN,q2,f2,g2⟩:=hy.ae;subst q2;cases ry;obtain⟨aK,r2,ck⟩:=Mx.au hok f2;exact RcNeAt.none_tuple ck ⋯
  |lst i2=>obtain⟨a2,iN,q2,f2,_,g2⟩:=hy.lst_inv;subst q2;cases ry;obtain⟨aK,r2,ck⟩:=aP hok f2;exact RcNeAt.none_list ck ⋯
  |_=>simp[pl]at fX
 |bl i1=>
  have:=hx.ay;subst this;cases rx;cases e with
  |aW=>have:=hy.az;subst this;cases ry;exact RcNeAt.bool_none i1
  |bl i2=>have:=hy.ay;subst this;cases ry;exact RcNeAt.bool_bool i1 i2
  |int i2=>have:=hy.int_inv;subst this;obtain⟨t2,rfl⟩:=ry;exact RcNeAt.bool_int i1 i2 t2
  |str i2=>have:=hy.str_inv;subst this;obtain⟨t2,rfl⟩:=ry;exact RcNeAt.bool_str i1 i2 t2
  |tup i2=>obtain⟨a2,iN,q2,f2,g2⟩:=hy.ae;subst q2;cases ry;obtain⟨aK,r2,ck⟩:=Mx.au hok f2;exact RcNeAt.bool_tuple i1 ck ⋯
  |lst i2=>obtain⟨a2,iN,q2,f2,_,g2⟩:=hy.lst_inv;subst q2;cases ry;obtain⟨aK,r2,ck⟩:=aP hok f2;exact RcNeAt.bool_list i1 ck ⋯
  |_=>simp[pl]at fX
 |int i1=>
  have:=hx.int_inv;subst this;obtain⟨t1,rfl⟩:=rx;cases e with
  |aW=>have:=hy.az;subst this;cases ry;exact RcNeAt.int_none i1 t1
  |bl i2=>have:=hy.ay;subst this;cases ry;exact RcNeAt.int_bool i1 t1 i2
  |int i2=>have:=hy.int_inv;subst this;obtain⟨t2,rfl⟩:=ry;exact RcNeAt.int_int i1 t1 i2 t2
  |str i2=>have:=hy.str_inv;subst this;obtain⟨t2,rfl⟩:=ry;exact RcNeAt.int_str i1 t1 i2 t2
  |tup i2=>obtain⟨a2,iN,q2,f2,g2⟩:=hy.ae;subst q2;cases ry;obtain⟨aK,r2,ck⟩:=Mx.au hok f2;exact RcNeAt.int_tuple i1 t1 ck ⋯
  |lst i2=>obtain⟨a2,iN,q2,f2,_,g2⟩:=hy.lst_inv;subst q2;cases ry;obtain⟨aK,r2,ck⟩:=aP hok f2;exact RcNeAt.int_list i1 t1 ck ⋯
  |_=>simp[pl]at fX
 |str i1=>
  have:=hx.str_inv;subst this;obtain⟨t1,rfl⟩:=rx;cases e with
  |aW=>have:=hy.az;subst this;cases ry;exact RcNeAt.str_none i1 t1
  |bl i2=>have:=hy.ay;subst this;cases ry;exact RcNeAt.str_bool i1 t1 i2
  |int i2=>have:=hy.int_inv;subst this;obtain⟨t2,rfl⟩:=ry;exact RcNeAt.str_int i1 t1 i2 t2
  |str i2=>have:=hy.str_inv;subst this;obtain⟨t2,rfl⟩:=ry;exact RcNeAt.str_str i1 t1 i2 t2
  |tup i2=>obtain⟨a2,iN,q2,f2,g2⟩:=hy.ae;subst q2;cases ry;obtain⟨aK,r2,ck⟩:=Mx.au hok f2;exact RcNeAt.str_tuple i1 t1 ck ⋯
  |lst i2=>obtain⟨a2,iN,q2,f2,_,g2⟩:=hy.lst_inv;subst q2;cases ry;obtain⟨aK,r2,ck⟩:=aP hok f2;exact RcNeAt.str_list i1 t1 ck ⋯
  |_=>simp[pl]at fX
 |tup i1=>
  obtain⟨a1,A6,q1,f1,g1⟩:=hx.ae;subst q1;cases rx;obtain⟨gU,r1,iZ⟩:=Mx.au hok f1;cases e with
  |aW=>have:=hy.az;subst this;cases ry;exact RcNeAt.tuple_none iZ ⋯
  |bl i2=>have:=hy.ay;subst this;cases ry;exact RcNeAt.tuple_bool i2 iZ ⋯
  |int i2=>have:=hy.int_inv;subst this;obtain⟨t2,rfl⟩:=ry;exact RcNeAt.tuple_int i2 t2 iZ ⋯
  |str i2=>have:=hy.str_inv;subst this;obtain⟨t2,rfl⟩:=ry;exact RcNeAt.tuple_str i2 t2 iZ ⋯
  |tup i2=>
   obtain⟨a2,iN,q2,f2,g2⟩:=hy.ae;subst q2;cases ry;obtain⟨aK,r2,ck⟩:=Mx.au hok f2;have l1:gU.toArray.size=i1.length:=by rw[Rz,<-r1.length,g1.length]
   have l2:aK.toArray.size=i2.length:=by rw[Rz,<-r2.length,g2.length]
   have key:=RcNeAt.tuples (A:=R) (e:=vq i1 i2) iZ ck ⋯ (elts hok g1 g2 r1 r2 l1 l2 (by simpa [pl]using o7) (by simpa [pl]using fX) (n:=n) (by unfold dp at hd;lia) (by show R.units+1+n<cLine;lia));have q:=cP i1 i2;rw[<-l1,<-l2]at q;rw[q]at key;exact key
  |lst i2=>obtain⟨a2,iN,q2,f2,_,g2⟩:=hy.lst_inv;subst q2;cases ry;obtain⟨aK,r2,ck⟩:=aP hok f2;exact RcNeAt.tuple_list iZ ck ⋯
  |_=>simp[pl]at fX
 |lst i1=>
  obtain⟨a1,A6,q1,f1,_,g1⟩:=hx.lst_inv;subst q1;cases rx;obtain⟨gU,r1,iZ⟩:=aP hok f1;cases e with
  |aW=>have:=hy.az;subst this;cases ry;exact RcNeAt.list_none iZ ⋯
  |bl i2=>have:=hy.ay;subst this;cases ry;exact RcNeAt.list_bool i2 iZ ⋯
  |int i2=>have:=hy.int_inv;subst this;obtain⟨t2,rfl⟩:=ry;exact RcNeAt.list_int i2 t2 iZ ⋯
  |str i2=>have:=hy.str_inv;subst this;obtain⟨t2,rfl⟩:=ry;exact RcNeAt.list_str i2 t2 iZ ⋯
  |tup i2=>obtain⟨a2,iN,q2,f2,g2⟩:=hy.ae;subst q2;cases ry;obtain⟨aK,r2,ck⟩:=Mx.au hok f2;exact RcNeAt.list_tuple iZ ck ⋯
  |lst i2=>
   obtain⟨a2,iN,q2,f2,_,g2⟩:=hy.lst_inv;subst q2;cases ry;obtain⟨aK,r2,ck⟩:=aP hok f2;have l1:gU.toArray.size=i1.length:=by rw[Rz,<-r1.length,g1.length]
   have l2:aK.toArray.size=i2.length:=by rw[Rz,<-r2.length,g2.length]
   have q:=cP i1 i2;by_cases hl:i1.length=i2.length
   ·have key:=RcNeAt.lists (A:=R) (e:=vq i1 i2) iZ ck ⋯ ⋯ (elts hok g1 g2 r1 r2 l1 l2 (by simpa [pl]using o7) (by simpa [pl]using fX) (n:=n) (by unfold dp at hd;lia) (by show R.units+1+n<cLine;lia));rw[hl,Nat.min_self,Vf,SE]at q;rw[l1,hl,q]at key;exact key
   ·have key:=RcNeAt.lists_lengths (A:=R) iZ ck (by rw[l1,l2];simpa using hl) ⋯;have hb:(i1.length==i2.length)=false:=by simpa using hl
    rw[hb,SD]at q;show RcNeAt R s _ _ (!dZ i1 i2);rw[<-q];exact key
  |_=>simp[pl]at fX
 |_=>simp[pl]at o7
end
end Rx
end
section
namespace Mx
open PySem PySem.Spec PyProof.Rows L2 PySem.SeqAt
theorem qS:fillsNumberSlot (.type "tuple") "mul"=pure false:=
 PySem.fillsNumberSlot_seq (id:="tuple.__mul__") (r:=some (.builtin "tuple.__rmul__")) Va.lookup (by decide +kernel) PySem.F.slot_tuple_rmul.lookup (by decide +kernel)
theorem wU:seqRepeat? (.type "tuple")=pure (some (.builtin "tuple.__mul__")):=by unfold seqRepeat?;rw[PySem.seqSlot_of (T:="tuple") (name:="__mul__") (id:="tuple.__mul__") Va.lookup (by decide +kernel),PySem.seqSlot_of (T:="tuple") (name:="__rmul__") (id:="tuple.__rmul__") PySem.F.slot_tuple_rmul.lookup (by decide +kernel)];rfl
theorem zV(a:Int)(t:Tok)(l:Addr)(its:Array Value)(n:Nat):
  Meets (Builtin.«int.__rmul__» ⟨[.int a t,.ref l],[]⟩) (λ_ R s=>s.heap.get? l=some {cls:=.type "tuple",dict:=none,data:=.seq its n,slots:=#[]}/\R (.ok (.ret Value.notImplemented)) s):=
 .of_wp λprog w A R s h=>by obtain⟨hp,g,d,tk,os⟩:=s;obtain⟨hl,h⟩:=h;wp_walk;exact⟨_,rfl,h⟩
theorem CN(l:Addr)(its:List Value)(n:Nat)(k:Int)(u:Tok)(h1: -(2^63)<=k)(h2:k<2^63)(hz:its.length*k.toNat<=sizeLine):
  Meets (Builtin.«tuple.__mul__» ⟨[.ref l,.int k u],[]⟩) (λ_ R s=>s.heap.get? l=some {cls:=.type "tuple",dict:=none,data:=.seq its.toArray n,slots:=#[]}/\
   ((its=[]\/k=1)->R (.ok (.ret (.ref l))) s)/\(¬(its=[]\/k=1)->R (.ok (.ret (Value.ref s.heap.objs.size))) {s with heap:=s.heap.push {cls:=.type "tuple",data:=.seq (List.replicate k.toNat its).flatten.toArray}})):=
 .of_wp λprog w A R s h=>by
  obtain⟨hp,g,d,tk,os⟩:=s;obtain⟨hl,q1,q2⟩:=h;have hT:(⟨hp,g,d,tk,os⟩:Shared).TypeIs (.ref l) "tuple":=⟨_,hl,rfl⟩
  wp_walk
  rw[Vk (by simp only[Sm,Vi];lia)];dsimp only;refine Rr (tupleItemsOf_ ⟨_,hl,rfl,n,rfl⟩ ?_);have e1:(its.toArray.isEmpty||k==1)=decide (its=[]\/k=1):=by
   cases its with
   |nil=>simp
   |cons a r=>rw[SF];simp
  rw[e1];by_cases hc:its=[]\/k=1
  ·rw[R9 hc,Vl rfl];unfold Builtin.Tuple.tupleIsExact;refine Rr (Rr (VM hT (Rw ?_)));rw[Vl (by rfl)];exact Rr (VH (Rw ⟨_,rfl,q1 hc⟩))
  ·rw[R5 hc,Vk (by simp)];have dw:its≠[]:=λz=>hc (.inl z)
   have he:its.toArray.isEmpty=false:=by cases its with|nil=>exact absurd rfl dw|cons a r=>rfl
   rw[he,Bool.or_false];by_cases hk:k<=0
   ·rw[R9 hk,Vl rfl];have k0:k.toNat=0:=⋯
    rw[k0]at q2;exact Rr (VC (Rw ⟨_,rfl,q2 hc⟩))
   ·rw[R5 hk,Vk (by simp)];have OD:(its.toArray.size:Int)*k=((its.length*k.toNat:Nat):Int):=by rw[Rz,Int.natCast_mul,Int.toNat_of_nonneg ⋯]
    have AZ:=Vv;rw[Vk (by rw[OD];lia)];unfold Builtin.Tuple.tupleTooMany;rw[Vk (by rw[OD];intro z;have:=RA z;lia)];have Mz:List.foldl (λx1 x2=>x1++x2) #[] (List.replicate k.toNat its.toArray)=(List.replicate k.toNat its).flatten.toArray:=by have:=foldl_rep its k.toNat [];rw[Us]at this;exact this
    rw[Mz];refine Rr (VC (Rw ⟨_,rfl,q2 hc⟩) ?_);show (List.replicate k.toNat its).flatten.toArray.size<=sizeLine;rw[Rz,len_rep,Nat.mul_comm];exact hz
section
variable{X:Cx}
noncomputable def JJ:R2:=λx y H Q=>∃l k xs,x= .ref l/\y= .int k/\H l=some (.tup xs)/\ -(2^63)<=k/\k<2^63/\xs.length*k.toNat<=sizeLine/\
 ((xs=[]\/k=1)->Q (.ref l) H)/\∀p,H p=none->Q (.ref p) (upd H p (.tup (List.replicate k.toNat xs).flatten))
theorem Cb:kR X (binaryOp .Mult) JJ:=by
 intro pins s σ H x y v u Q I rx ry h;obtain⟨l,k,xs,rfl,rfl,hH,h1,h2,hz,q1,q2⟩:=h;cases rx;obtain⟨t,rfl⟩:=ry;obtain⟨z,its,r,⟨c,dd,dt,sl⟩,e,w1,n,w2,w3,w4⟩:=(show bM X.prog X.w H s.heap l (.tup xs) from I.hok l _ hH);simp only at w1 w2 w3 w4;subst w1 w2 w3 w4;have hl:=r.length;refine wpAny_binaryOp_repeat_ref (T:="tuple") (U:="int") (by decide) ⟨_,e,rfl⟩ (λs'=>typeIs_int s' k t) qS F.fills_int_mul F.slot_int_rmul wU F.slot_int_index.lookup
  (Vg F.slot_int_rmul (typeIs_int s k t) F.entry_int_rmul (F.args_int_rmul_2 _ _) (zV k t l its.toArray n)
   ⟨e,rfl,⟨_,e,rfl⟩,Vg Va ⟨_,e,rfl⟩ PySem.F.entry_tuple_mul (PySem.F.args_tuple_mul_2 _ _) (CN l its n k t h1 h2 (by rw[<-hl];exact hz)) ⟨e,λhc=>?_,λhc=>?_⟩⟩)
 ·refine⟨.ref l,H,I,rfl,q1 (hc.imp (λz=>?_) id)⟩;subst z;cases r;rfl
 ·exact⟨.ref s.heap.objs.size,_,I.laid (t':=s.toks) (o:=.tup (List.replicate k.toNat xs).flatten) (λb o q=>Rv _ q) (RE _) ⟨by rw[len_rep,Nat.mul_comm];exact hz,_,r.rep k.toNat,mD.new _ _⟩,rfl,q2 _ (I.hok.fresh (RE _))⟩
theorem oI:c7 X (.builtin "divmod") (λxs H Q=>∃i j,xs=[.int i,.int j]/\j≠0/\j.natAbs.log2<9000/\∀p,H p=none->Q (.ref p) (upd H p (.tup [.int (i.fdiv j),.int (i.fmod j)]))):=by intro pins s σ H xs us Q I r h;obtain⟨i,j,rfl,h1,h2,q⟩:=h;obtain⟨u,w',rfl,⟨t,rfl⟩,⟨t',rfl⟩⟩:=r.two;refine divmod_int h1 ?_ (.inl (PyProof.noPylong_of_log2 h2));refine⟨.ref s.heap.objs.size,_,?_,rfl,q _ (I.hok.fresh (RE _))⟩;exact I.laid (λb o e=>Rv _ e) (RE _) ⟨by simp only[RU,T6];rw[Vv];decide,[.int (i.fdiv j) s.toks,.int (i.fmod j) (s.toks+1)],.cons ⟨_,rfl⟩ (.cons ⟨_,rfl⟩ .nil),mD.new _ _⟩
theorem v7(hc:X.calm=true):c7 X (.builtin "sum") (λxs H Q=>∃(l:Addr)(ns:List Int),xs=[.ref l]/\H l=some (.tup (ns.map V.int))/\Q (.int ns.sum) H):=by
 intro pins s σ H xs us Q I r h;obtain⟨l,ns,rfl,hq,q⟩:=h;obtain⟨u,rfl,ru⟩:=r.one;cases ru;obtain⟨_,its,rv,tn⟩:=(show bM X.prog X.w H s.heap l (.tup (ns.map V.int)) from I.hok l _ hq);have hl:its.length=ns.length:=by rw[<-rv.length];simp
 have ht:s.heap.IsTuple l its.toArray:=tn.is;have cO:l<s.heap.objs.size:=tn.is.lt;refine call_sum_walkG (VG ht ?_);refine⟨s.heap.objs.size,_,_,_,_,_,λi=>ns.getD i 0,rfl,Walks.tuple (A:=X.A.in1) (I.ok.hd hc) s.heap.objs.size l (Sb cO) its.toArray,⟨⟨_,RG _ rfl,rfl,rfl⟩,ht.push _⟩,λb hb=>?_,λi v hv=>?_,λh' tk t' hk=>?_⟩
 ·rcases RL.mp hb with rfl|hb
  ·exact RJ (RG _ rfl)
  ·obtain rfl:=Sf.mp hb;exact Nat.lt_trans cO (RJ (RG _ rfl))
 ·have E6:its.toArray[i]?=some v:=hv;exact int_at rv (by simpa using E6)
 ·refine⟨.int _,H,I.kept λb o e=>hk b o (λz=>UR _ ((Sf.mp z)▸RJ e)) (Rv _ e),⟨t',rfl⟩,?_⟩;rw[show its.toArray.size=ns.length by simp[hl],pE,UF];exact q
end
noncomputable def DU(A:Around)(s:Shared)(u v:Value)(b:Bool):Prop:=
 ∀(prog:Program)(w:World)(E:Value->Shared->Prop)(Q:Value->Shared->Prop),Q (.bool b) s->wpAny (model prog w) A (richCompare .GtE u v) Q E s
inductive Zg(A:Around)(s:Shared):List Value->List Value->List D->List D->Prop
 |nil {ws:List Value} {es:List D}:ws.length=es.length->Zg A s [] ws [] es
 |qR {vs:List Value} {ds:List D}:vs.length=ds.length->Zg A s vs [] ds []
 |cons {v w:Value} {d e:D} {vs ws:List Value} {ds es:List D}:EqAt A s v w (D.kl d e)->(d≠e->DU A s v w (!D.lt d e))->Zg A s vs ws ds es->Zg A s (v::vs) (w::ws) (d::ds) (e::es)
section
open PySem.AutoSeq1 (wpAny_loadPart')
open PySem.MeetsSeq PySem.MeetsSeq2 PySem.MeetsSeq3
theorem mU(l b:Addr)(items cn:Array Value)(n n2:Nat)(dd uz:Option Addr)(sl vA:Array (Option Value))(ds es:List D)(z1:items.size=ds.length)(z2:cn.size=es.length):
  Meets (Builtin.«tuple.__ge__» ⟨[.ref l,.ref b],[]⟩)
   (λA R s=>s.heap.get? l=some {cls:=.type "tuple",dict:=dd,data:=.seq items n,slots:=sl}/\s.heap.get? b=some {cls:=.type "tuple",dict:=uz,data:=.seq cn n2,slots:=vA}/\
    Zg A.in1 s items.toList cn.toList ds es/\R (.ok (.ret (.bool (!D.de ds es)))) s):=
 .of_wp λprog w A R s h=>by
  obtain⟨hp,g,d,tk,os⟩:=s;obtain⟨hl,hb,MR,h⟩:=h;have f2:=AutoSeq1.sub_tuple_tuple
  wp_walk using wpAny_loadPart' hl,wpAny_loadPart' hb,wpAny_forIn_list _ (λrest b s'=>b.1=none/\s'=⟨hp,g,d,tk,os⟩/\∃(vs ws:List Value)(mG ek:List D),rest=vs.zip ws/\
   Zg A.in1 ⟨hp,g,d,tk,os⟩ vs ws mG ek/\mG.length+cn.size=ek.length+items.size/\R (.ok (.ret (.bool (!D.de mG ek)))) ⟨hp,g,d,tk,os⟩) _
  case turn=>
   rintro⟨y,x⟩ rest b s' ⟨jW,rfl,vs,ws,mG,ek,hz,uP,hlen,hR⟩;cases uP with
   |nil _=>rw[UM]at hz;cases hz
   |qR _=>rw[UN]at hz;cases hz
   |cons he hl zc=>
    rename_i v wv d0 e0 xt ws' ds'' es'';rw[UL]at hz;injection hz with hyx y8;injection hyx with hy hx;subst hy hx;rw[D.cD]at hR;simp only[RU]at hlen;refine Rr (he prog w _ _ ?_);by_cases hde:d0=e0
    ·rw[Vl hde]at hR;rw[(D.cv d0 e0).mpr hde]
     wp_walk
     exact⟨rfl,rfl,_,_,_,_,y8,zc,by lia,hR⟩
    ·rw[Vk hde]at hR;have LU:D.kl d0 e0=false:=by rw[D.km];exact R5 hde
     rw[LU];have ME:=hl hde prog w
     wp_walk using ME
     exact⟨_,rfl,by simpa using hR⟩
  case fin=>
   rintro⟨b1,b2⟩ s' ⟨jW,rfl,vs,ws,mG,ek,hz,uP,hlen,hR⟩;simp only at jW;subst jW;have hv:(!D.de mG ek)=decide (cn.size<=items.size):=by
    cases uP with
    |nil _=>
     cases ek with
     |nil=>simp only[T6]at hlen;rw[D.de];exact(R9 ⋯).symm
     |cons c u=>simp only[T6,RU]at hlen;rw[D.de];exact(R5 ⋯).symm
    |qR _=>
     cases mG with
     |nil=>simp only[T6]at hlen;rw[D.de];exact(R9 ⋯).symm
     |cons c u=>simp only[T6,RU]at hlen;rw[D.de];exact(R9 ⋯).symm
    |cons he hl zc=>rw[UL]at hz;cases hz
   rw[hv]at hR
   wp_walk
   exact⟨_,rfl,by simpa [Builtin.Tuple.tupleCompareSizes]using hR⟩
  case h=>exact⟨rfl,rfl,items.toList,cn.toList,ds,es,rfl,MR,by lia,h⟩
end
section
variable{P:Program}{w:World}{H:Hp}{s:Shared}
theorem DS(hok:fg P w H s.heap){A:Around}{n:Nat}(hu:A.units+n<cLine)(ih:∀(d e:D)(x y:V)(u v:Value),D.dep d<=n->D.cM d e->DV H x d->DV H y e->RelV x u->RelV y v->DU A s u v (!D.lt d e)):
  ∀{xs ys:List V}{us vs:List Value}{ds es:List D},D.dh ds<=n->D.eQ ds es->a9 H xs ds->a9 H ys es->ar xs us->ar ys vs->Zg A s us vs ds es
 |[],ys,us,vs,[],es,_,_,_,h2,r1,r2=>by cases r1;exact .nil (by rw[<-r2.length,h2.length])
 |x::xs,[],us,vs,ds,[],_,_,h1,_,r1,r2=>by cases r2;exact .qR (by rw[<-r1.length,h1.length])
 |[],_,_,_,_::_,_,_,_,h,_,_,_=>by unfold a9 at h;exact h.elim
 |_::_,_,_,_,[],_,_,_,h,_,_,_=>by unfold a9 at h;exact h.elim
 |_::_,[],_,_,_::_,_::_,_,_,_,h,_,_=>by unfold a9 at h;exact h.elim
 |_::_,_::_,_,_,_::_,[],_,_,_,h,_,_=>by unfold a9 at h;exact h.elim
 |x::xs,y::ys,us,vs,d::ds,e::es,hd,hl,h1,h2,r1,r2=>by
  unfold a9 at h1 h2;unfold D.eQ at hl;unfold D.dh at hd;cases r1 with
  |cons r1 t1=>
   cases r2 with
   |cons r2 t2=>exact .cons (eq_data hok n d e x y _ _ A ⋯ hu h1.1 h2.1 r1 r2) (λ_=>ih d e x y _ _ ⋯ hl.1 h1.1 h2.1 r1 r2) (DS hok hu ih ⋯ hl.2 h1.2 h2.2 t1 t2)
theorem Bx(hok:fg P w H s.heap):∀(n:Nat)(d e:D)(x y:V)(u v:Value)(A:Around),D.dep d<=n->A.units+n<cLine->D.cM d e->DV H x d->DV H y e->RelV x u->RelV y v->DU A s u v (!D.lt d e):=by
 intro n
 induction n with
 |zero=>
  intro d e x y u v A hd hu hl hx hy rx ry;cases d with
  |int i=>
   have:=hx.int_inv;subst this;obtain⟨t,rfl⟩:=rx;cases e with
   |int j=>have:=hy.int_inv;subst this;obtain⟨t',rfl⟩:=ry;intro prog wd E Q q;exact(PyProof.Rows.ge_int (by unfold D.lt at q;rw[show decide (j<=i)= !decide (i<j) from by by_cases h:i<j<;>simp[h]<;>lia];exact q):wpAny (model prog wd) A (compareOp .GtE (.int i t) (.int j t')) Q E s)
   |str j=>unfold D.cM at hl;exact hl.elim
   |tup j=>unfold D.cM at hl;exact hl.elim
  |str i=>
   have:=hx.str_inv;subst this;obtain⟨t,rfl⟩:=rx;cases e with
   |int j=>unfold D.cM at hl;exact hl.elim
   |str j=>have:=hy.str_inv;subst this;obtain⟨t',rfl⟩:=ry;intro prog wd E Q q;exact(PySem.P.ge_str q:wpAny (model prog wd) A (compareOp .GtE (.str i t) (.str j t')) Q E s)
   |tup j=>unfold D.cM at hl;exact hl.elim
  |tup ds=>unfold D.dep at hd;lia
 |succ n ih=>
  intro d e x y u v A hd hu hl hx hy rx ry;cases d with
  |int i=>exact ih (.int i) e x y u v A (by unfold D.dep;lia) ⋯ hl hx hy rx ry
  |str i=>exact ih (.str i) e x y u v A (by unfold D.dep;lia) ⋯ hl hx hy rx ry
  |tup ds=>
   obtain⟨a,xs,q,e1,e2⟩:=hx.ae;subst q;cases rx;cases e with
   |int j=>unfold D.cM at hl;exact hl.elim
   |str j=>unfold D.cM at hl;exact hl.elim
   |tup es=>
    obtain⟨b,ys,q,f1,f2⟩:=hy.ae;subst q;cases ry;obtain⟨its,r1,ht⟩:=au hok e1;obtain⟨aK,r2,ck⟩:=au hok f1;have l1:its.toArray.size=ds.length:=by rw[Rz,<-r1.length,e2.length]
    have l2:aK.toArray.size=es.length:=by rw[Rz,<-r2.length,f2.length]
    have mz:D.dh ds<=n:=by unfold D.dep at hd;lia
    have BH:D.eQ ds es:=by unfold D.cM at hl;exact hl
    have zz:Zg A.in1 s its aK ds es:=DS hok (n:=n) (by show A.units+1+n<cLine;lia) (λd e x y u v hd2 fh zb hy2 rx2 ry2=>ih d e x y u v A.in1 hd2 (by show A.units+1+n<cLine;lia) fh zb hy2 rx2 ry2) mz BH e2 f2 r1 r2;intro prog wd E Q q;obtain⟨⟨cls,dd,data,sl⟩,ho,hc,k,xo⟩:=id ht;obtain⟨⟨Et,uz,data2,vA⟩,qB,rR,k2,mK⟩:=id ck;simp only at hc xo rR mK;subst hc xo rR mK;have q':Q (.bool (!D.de ds es)) s:=by have z:=q;unfold D.lt at z;exact z
    exact richCompare_meets_room (op:=.GtE) ⟨_,ho,rfl⟩ ⟨_,qB,rfl⟩ PySem.F.slot_tuple_ge PySem.F.entry_tuple_ge (PySem.F.args_tuple_ge_2 _ _) (mU a b its.toArray aK.toArray k k2 dd uz sl vA ds es l1 l2)
     ⟨ho,qB,zz,show Value.bool (!D.de ds es)≠Value.notImplemented/\Q (.bool (!D.de ds es)) s from⟨(λx=>nomatch x),q'⟩⟩ ⋯
end
end Mx
end
section
namespace HT
open PySem PyProof.Rows
section
variable{prog:Program}{w:World}{A:Around}{E:Value->Shared->Prop}{s:Shared}
theorem gT{t sl:Addr}{items:Array Value}{vl vu:Value}{lo hi:Option Int}{Q:Value->Shared->Prop}(ht:IsTup s.heap t items)(hs:s.heap.IsSliceOf sl vl vu .none)(pl:IsPart vl lo)(pu:IsPart vu hi)
  (hw:bW items.size 0 lo=0/\bW items.size items.size hi=items.size) (h:Q (.ref t) s) (lC:items.size<=sizeLine):wpAny (model prog w) A (getItem (.ref t) (.ref sl)) Q E s:=by
 obtain⟨os,EX,BC,ID⟩:=id hs;have Mo:s.TypeIs (.ref sl) "slice":=⟨os,EX,BC⟩;unfold getItem
 try with_reducible refine VA ?_
 first|refine Rr (Rw ?_)|skip
 refine Rr (wpAny_sequenceKey ht.typeIs (by decide) ?_);refine Rr (Vx (name:=Str.ofString "__getitem__") ht.typeIs U6
  (Vy U6 ht.typeIs entry_tuple_getitem ?_ (args_tuple_getitem _ _)))
 show wpAny _ _ (Builtin.Tuple.tupleItemsOf (.ref t) >>=_) _ _ s;refine Rr (tupleItemsOf_ ht ?_);refine Rr (VM Mo ?_);rw[Vl (by decide)];refine Rr (eY hs pl pu ?_);show wpAny _ _ (if (((bW items.size 0 lo:Nat):Int)==0&&(1:Int)==1&&(bW items.size items.size hi-bW items.size 0 lo)==items.size)=true then _ else _) _ _ s;rw[Vl (by rw[hw.1,hw.2];simp)];refine Rr (Rr (VM ht.typeIs (Rw ?_)));rw[Vl (by decide)];refine Rr (VH ?_);exact Rw ⟨_,rfl,Rw h⟩
end
end HT
namespace Rx
open PySem PySem.W PySem.Spec PyProof.Rows L2 PySem.SeqAt
noncomputable abbrev N0:Addr->Prop:=λ_=>False
noncomputable def fJ(K:Frag)(A:Addr->Prop)(H:Hp)(v:V):Dt->Prop
 |.lst ds=>∃a xs,v= .ref a/\H a=some (.lst xs)/\aq K A H xs ds
 |d=>RV K A H v d
noncomputable def oy(K:Frag)(A:Addr->Prop)(H:Hp):List V->List Dt->Prop
 |[],[]=>True
 |x::xs,d::ds=>fJ K A H x d/\oy K A H xs ds
 |_,_=>False
section
variable{K:Frag}{A B:Addr->Prop}{H H':Hp}
theorem RV.one{v d}(h:RV K A H v d):fJ K A H v d:=by
 cases d with
 |lst ds=>obtain⟨a,xs,h1,h2,_,h3⟩:=h.lst_inv;exact⟨a,xs,h1,h2,h3⟩
 |_=>exact h
theorem fJ.ext{X:Addr->Prop}{v d}(h:fJ K A H v d)(e:ba X H H')(hX:∀b,X b->A b)(hv:∀ds a,d= .lst ds->v= .ref a->¬X a):fJ K A H' v d:=by
 cases d with
 |lst ds=>obtain⟨a,xs,h1,h2,h3⟩:=h;exact⟨a,xs,h1,e.kp _ _ h2 (hv ds a rfl h1),h3.mono e hX λ_ z=>z⟩
 |_=>exact RV.mono e hX (λ_ z=>z) h
theorem aq.ones:∀{vs ds},aq K A H vs ds->oy K A H vs ds
 |[],[],_=>trivial
 |[],_::_,h=>by unfold aq at h;exact h.elim
 |_::_,[],h=>by unfold aq at h;exact h.elim
 |_::_,_::_,h=>by unfold aq at h;exact⟨h.1.one,h.2.ones⟩
end
structure PR(K:Frag)(fr:Bool)(xs:List V)(ds:List Dt)(H:Hp)(d:Dt)(v:V)(H':Hp):Prop where
 same:bO H H'
 val:∀A:Addr->Prop,(∀a,A a->∃o,H a=some o)->oy K A H xs ds->RV K A H' v d
 j7:fr=true->∀es,d= .lst es->∃a ys,v= .ref a/\H a=none/\H' a=some (.lst ys)/\∀A:Addr->Prop,(∀a,A a->∃o,H a=some o)->oy K A H xs ds->aq K (λb=>A b\/b=a) H' ys es
noncomputable def rP(K:Frag)(fr:Bool)(f:List Dt->R Dt):List V->Hp->VK->Prop:=λxs H Q=>∃ds d,aq K N0 H xs ds/\f ds= .ok d/\∀v H',PR K fr xs ds H d v H'->Q v H'
section
variable{K:Frag}{fr:Bool}{xs:List V}{ds:List Dt}{H H':Hp}{d:Dt}{v:V}
noncomputable def pY:Dt->Bool
 |.aW|.bl _|.int _|.str _=>true
 |_=>false
noncomputable def rW:Dt->V
 |.bl b=>.bl b
 |.int b=>.int b
 |.str b=>.str b
 |_=>.aW
theorem rg{A:Addr->Prop}(h:pY d=true):RV K A H (rW d) d:=by
 cases d with
 |aW=>exact RV.iD
 |bl b=>exact RV.qQ
 |int b=>exact RV.cU
 |str b=>exact RV.jG
 |_=>simp[pY]at h
theorem PR.sc(h:pY d=true):PR K fr xs ds H d (rW d) H:=⟨bO.refl _,λA _ _=>rg h,λ_ es e=>by subst e;simp[pY]at h⟩
theorem PR.tv{p:Addr}{ys:List V}{es:List Dt}(hp:H p=none)(h:∀A:Addr->Prop,oy K A H xs ds->aq K A H ys es):PR K fr xs ds H (.lst es) (.ref p) (upd H p (.lst ys)):=by
 have s:=Mx.b9 hp (.lst ys);refine⟨s,λA hA q=>RV.d8 aM (λz=>?_) ((h A q).same s),λ_ ek e=>?_⟩
 ·obtain⟨o,e⟩:=hA p z;rw[hp]at e;cases e
 ·cases e;exact⟨p,ys,rfl,hp,aM,λA hA q=>((h A q).avoid hp).same s⟩
theorem PR.zy{p:Addr}{ys:List V}{es:List Dt}(hp:H p=none)(h:∀A:Addr->Prop,oy K A H xs ds->aq K A H ys es):PR K fr xs ds H (.tup es) (.ref p) (upd H p (.tup ys)):=by have s:=Mx.b9 hp (.tup ys);exact⟨s,λA hA q=>RV.d9 aM ((h A q).same s),λ_ ek e=>by cases e⟩
theorem PR.qI{p:Addr}{ys:List V}{es:List Dt}(hp:H p=some (.tup ys))(h:∀A:Addr->Prop,oy K A H xs ds->aq K A H ys es):PR K fr xs ds H (.tup es) (.ref p) H:=
 ⟨bO.refl _,λA hA q=>RV.d9 hp (h A q),λ_ ek e=>by cases e⟩
theorem dJ:lim<=sizeLine:=by rw[Vv];decide
theorem bq{b:Bool}{α:Type}{r:R α}{a:α}(h:ab b r= .ok a):b=true/\r= .ok a:=by
 cases b with
 |true=>exact⟨rfl,h⟩
 |false=>cases h
theorem fJ.aP{A:Addr->Prop}{a:Addr}{xs:List V}{es:List Dt}(h:fJ K A H (.ref a) (.lst es))(e:H a=some (.lst xs)):aq K A H xs es:=by obtain⟨b,ys,q,h1,h2⟩:=h;cases q;rw[e]at h1;cases h1;exact h2
theorem fJ.au{A:Addr->Prop}{a:Addr}{xs:List V}{es:List Dt}(h:fJ K A H (.ref a) (.tup es))(e:H a=some (.tup xs)):aq K A H xs es:=by obtain⟨b,ys,q,h1,h2⟩:=RV.ae h;cases q;rw[e]at h1;cases h1;exact h2
end
section
variable{X:Cx}
noncomputable def r2(K:Frag)(f:Dt->Dt->R Dt):R2:=λx y H Q=>∃d e z,RV K N0 H x d/\RV K N0 H y e/\f d e= .ok z/\∀v H',PR K true [x,y] [d,e] H z v H'->Q v H'
theorem nU{i:Int}(h:i.natAbs<2^64): -(2^64)<i/\i<2^64:=⋯
theorem FH:kR X (binaryOp .FloorDiv) (rI (λ_ j=>0<j/\j.natAbs.log2<9000) λi j=>.int (i/j)):=K9 λi j _ _ _ _ _ hc q=>by have h1:(0:Int)<j:=hc.1;exact floordiv_int ⋯ (by rw[Int.fdiv_eq_ediv_of_nonneg i ⋯];exact q) (.inl (PyProof.noPylong_of_log2 hc.2))
theorem FF(o:Operator):kR X (binaryOp o) (r2 X.K (mM o)):=by
 intro pins s σ H x y v u Q I rx ry h;obtain⟨d,e,z,hx,hy,he,q⟩:=h;have K1:=dJ;unfold mM at he;split at he
 ·split at he
  ·rename_i i j;cases he;exact FE pins s σ H x y v u Q I rx ry ⟨i,j,hx.int_inv,hy.int_inv,q _ _ (PR.sc (d:=.int _) rfl)⟩
  ·rename_i i j;obtain⟨g,he⟩:=bq he;cases he;obtain⟨a,xs,rfl,h1,_,h2⟩:=hx.lst_inv;obtain⟨b,ys,rfl,k1,_,k2⟩:=hy.lst_inv;refine FG pins s σ H _ _ v u Q I rx ry ⟨a,b,xs,ys,rfl,rfl,h1,k1,?_,λp hp=>q _ _ (PR.tv hp λA w=>?_)⟩
   ·rw[h2.length,k2.length];exact RK (RA g) K1
   ·exact(fJ.aP w.1 h1).append (fJ.aP w.2.1 k1)
  ·rename_i i j;obtain⟨g,he⟩:=bq he;cases he;obtain⟨a,xs,rfl,h1,h2⟩:=hx.ae;obtain⟨b,ys,rfl,k1,k2⟩:=hy.ae;by_cases hd:xs=[]
   ·subst hd;cases h2.dN;cases rx;cases ry;obtain⟨its,r1,p1,_⟩:=I.tuple (eC.of h1);obtain⟨aK,r2,p2,_⟩:=I.tuple (eC.of k1);cases r1;obtain⟨⟨cls,dd,data,sl⟩,ho,hc,n,xo⟩:=p1;obtain⟨⟨Et,uz,data2,vA⟩,qB,rR,n2,mK⟩:=p2;simp only at hc xo rR mK;subst hc xo rR mK;exact concat_meets ⟨_,ho,rfl⟩ ⟨_,qB,rfl⟩ Vr seq_tuple_add U9 U8 (U7 _ _)
     (Mx.tuple_addW0 a b _ _ n n2 dd uz sl vA rfl) ⟨ho,qB,⟨.ref b,H,I,rfl,q _ _ (PR.qI k1 λA w=>fJ.au w.2.1 k1)⟩⟩
   ·refine B9 pins s σ H (.ref a) (.ref b) v u Q I rx ry ⟨a,b,xs,ys,rfl,rfl,eC.of h1,eC.of k1,hd,?_,λe=>?_,λe p hp=>?_⟩
    ·rw[h2.length,k2.length];exact RK (RA g) K1
    ·subst e;cases k2.dN;rw[Sl]at q;exact q _ _ (PR.qI h1 λA w=>fJ.au w.1 h1)
    ·exact q _ _ (PR.zy hp λA w=>(fJ.au w.1 h1).append (fJ.au w.2.1 k1))
  ·cases he
 ·split at he
  ·rename_i i j;cases he;exact FL pins s σ H x y v u Q I rx ry ⟨i,j,hx.int_inv,hy.int_inv,q _ _ (PR.sc (d:=.int _) rfl)⟩
  ·cases he
 ·split at he
  ·rename_i i j;obtain⟨g,he⟩:=bq he;cases he;refine FK pins s σ H x y v u Q I rx ry ⟨i,j,hx.int_inv,hy.int_inv,?_,q _ _ (PR.sc (d:=.int _) rfl)⟩;rw[Sm]at g;rcases g with g|g
   ·exact .inl (nU (RA g))
   ·exact .inr (nU (RA g))
  ·rename_i i j;obtain⟨g,he⟩:=bq he;cases he;obtain⟨a,xs,rfl,h1,h2⟩:=hx.ae;rw[Ry]at g;have g1:=RA g.1;have g2:=RA g.2;have cL:lim=1000000:=rfl;refine Mx.Cb pins s σ H _ _ v u Q I rx ry ⟨a,j,xs,rfl,hy.int_inv,h1,by lia,by lia,?_,λhc=>?_,λp hp=>q _ _ (PR.zy hp λA w=>(fJ.au w.1 h1).rep _)⟩
   ·rw[h2.length];exact RK g2 K1
   ·refine q _ _ (PR.qI h1 λA w=>?_);have:=fJ.au w.1 h1;rcases hc with rfl|rfl
    ·cases this.dN;have e:(List.replicate j.toNat ([]:List Dt)).flatten=[]:=by simp
     rw[e];exact aq.nil
    ·have e:(List.replicate (1:Int).toNat i).flatten=i:=by simp
     rw[e];exact this
  ·cases he
 ·split at he
  ·rename_i i j;obtain⟨g,he⟩:=bq he;cases he;rw[Ry]at g;exact FH pins s σ H x y v u Q I rx ry ⟨i,j,hx.int_inv,hy.int_inv,⟨RA g.1,RA g.2⟩,q _ _ (PR.sc (d:=.int _) rfl)⟩
  ·cases he
 ·split at he
  ·rename_i i j;obtain⟨g,he⟩:=bq he;cases he;exact FJ pins s σ H x y v u Q I rx ry ⟨i,j,hx.int_inv,hy.int_inv,RA g,q _ _ (PR.sc (d:=.int _) rfl)⟩
  ·cases he
 ·cases he
noncomputable def rC(K:Frag)(o:CmpOp):R2:=λx y H Q=>∃d e z,RV K N0 H x d/\RV K N0 H y e/\dg o d e= .ok z/\Q (.bl z) H
theorem Be{pins:List (Addr×Obj)}{s:Shared}{σ:L2.St}{H:Hp}{K:Frag}(I:Inv X pins σ H s)(hu:X.A.units+150<cLine){xs:List V}{ds:List Dt}{its:List Value}{x:V}{u:Value}{d:Dt}(r:ar xs its)(g:aq K N0 H xs ds)(rx:RelV x u)(hx:RV K N0 H x d)(p1:pl d=true)(p2:mO ds=true)(hd:qm ds<=100):
  ∃e:Value->Bool,(∀y,y∈its.toArray->EqAt X.A.in1 s y u (e y))/\its.toArray.any e=inD d ds:=by
 classical
 let e:Value->Bool:=λy=>decide (∃(j:Nat)(d':Dt),its[j]?=some y/\ds[j]?=some d'/\dy d' d=true)
 have key:∀(j:Nat)(y:Value)(d':Dt),its[j]?=some y->ds[j]?=some d'->e y=dy d' d:=λj y d' h1 h2=>by
  rw[SF];constructor
  ·intro h;obtain⟨j',Q7,k1,k2,k3⟩:=RA h;have hj:j<xs.length:=by rw[r.length];exact(RB.mp h1).1
   have wx:j'<xs.length:=by rw[r.length];exact(RB.mp k1).1
   obtain⟨u1,a1,a2⟩:=r.get (i:=j) (x:=xs[j]) (by simp[hj]);obtain⟨u2,b1,b2⟩:=r.get (i:=j') (x:=xs[j']) (by simp[wx]);rw[h1]at a1;cases a1;rw[k1]at b1;cases b1;have ex:=RelV.inj a2 b2;obtain⟨d1,c1,c2⟩:=g.get (i:=j) (x:=xs[j]) (by simp[hj]);obtain⟨d2,e1,e2⟩:=g.get (i:=j') (x:=xs[j']) (by simp[wx]);rw[h2]at c1;cases c1;rw[k2]at e1;cases e1;rw[<-ex]at e2;rw[RV.inj c2 e2 (ei p2 h2) (ei p2 k2)];exact k3
  ·intro h;exact R9 ⟨j,d',h1,h2,h⟩
 refine⟨e,λy hy=>?_,?_⟩
 ·obtain⟨j,hj⟩:=Uo.mp (by simpa using hy:y∈its);have OC:j<xs.length:=by rw[r.length];exact(RB.mp hj).1
  obtain⟨d',h1,h2⟩:=g.get (i:=j) (x:=xs[j]) (by simp[OC]);obtain⟨u1,a1,a2⟩:=r.get (i:=j) (x:=xs[j]) (by simp[OC]);rw[hj]at a1;cases a1;rw[key j y d' hj h1];exact Da I.hok 100 d' d xs[j] x y u X.A.in1 (RK (k7 h1) hd) (ei p2 h1) p1 (by show X.A.units+1+100<cLine;lia) h2 hx a2 rx
 ·rw[List.any_toArray];unfold inD;have hlen:its.length=ds.length:=by rw[<-r.length,g.length]
  clear_value e
  clear r g p2 hd
  induction its generalizing ds with
  |nil=>
   cases ds with
   |nil=>rfl
   |cons=>simp at hlen
  |cons y ys ih=>
   cases ds with
   |nil=>simp at hlen
   |cons d' mG=>rw[List.any_cons,List.any_cons,key 0 y d' rfl rfl,ih (λj y d' h1 h2=>key (j+1) y d' (by simpa using h1) (by simpa using h2)) (by simpa using hlen)]
mutual
theorem u9:∀{d e:Mx.D},u7 d e=true->Mx.D.cM d e
 |.int _,.int _,_=>by unfold Mx.D.cM;trivial
 |.str _,.str _,_=>by unfold Mx.D.cM;trivial
 |.tup a,.tup b,h=>by unfold Mx.D.cM;exact jF (by simpa [u7]using h)
 |.int _,.str _,h=>by simp[u7]at h
 |.int _,.tup _,h=>by simp[u7]at h
 |.str _,.int _,h=>by simp[u7]at h
 |.str _,.tup _,h=>by simp[u7]at h
 |.tup _,.int _,h=>by simp[u7]at h
 |.tup _,.str _,h=>by simp[u7]at h
theorem jF:∀{d e:List Mx.D},lK d e=true->Mx.D.eQ d e
 |[],_,_=>by unfold Mx.D.eQ;trivial
 |_::_,[],_=>by unfold Mx.D.eQ;trivial
 |x::xs,y::ys,h=>by simp only[lK,Ry]at h;unfold Mx.D.eQ;exact⟨u9 h.1,jF h.2⟩
end
theorem zD(o:CmpOp)(hu:X.A.units+150<cLine):kR X (compareOp o) (rC X.K o):=by
 intro pins s σ H x y v u Q I rx ry h;obtain⟨d,e,z,hx,hy,he,q⟩:=h;unfold dg at he;split at he
 ·obtain⟨g,he⟩:=bq he;cases he;unfold qo at g;rw[Ry,Ry]at g;exact JK I.hok 100 d e x y v u X.A (Nat.le_succ_of_le (RA g.2)) g.1.1 g.1.2 ⋯ hx hy rx ry X.prog X.w X.xe (EP X pins σ Q) ⟨.bl _,H,I,rfl,q⟩
 ·obtain⟨g,he⟩:=bq he;cases he;unfold qo at g;rw[Ry,Ry]at g;exact CB I.hok 100 d e x y v u X.A (Nat.le_succ_of_le (RA g.2)) g.1.1 g.1.2 ⋯ hx hy rx ry X.prog X.w X.xe (EP X pins σ Q) ⟨.bl _,H,I,rfl,q⟩
 ·rename_i i j;cases he;exact Jw pins s σ H x y v u Q I rx ry ⟨i,j,hx.int_inv,hy.int_inv,q⟩
 ·rename_i i j;cases he;exact Jv pins s σ H x y v u Q I rx ry ⟨i,j,hx.int_inv,hy.int_inv,q⟩
 ·rename_i i j;cases he;exact Ju pins s σ H x y v u Q I rx ry ⟨i,j,hx.int_inv,hy.int_inv,q⟩
 ·rename_i i j;cases he;exact Jt pins s σ H x y v u Q I rx ry ⟨i,j,hx.int_inv,hy.int_inv,q⟩
 ·split at he
  ·rename_i xs ys h1 h2;obtain⟨g,he⟩:=bq he;cases he;rw[Ry]at g;rw[ji h1]at hx;rw[ji h2]at hy;exact Mx.Bx I.hok 101 (.tup xs) (.tup ys) x y v u X.A (by have:=RA g.2;unfold Mx.D.dep;lia) ⋯ (by unfold Mx.D.cM;exact jF g.1) (RV.dv (m:=.tup xs) (by rw[ofD];exact hx)) (RV.dv (m:=.tup ys) (by rw[ofD];exact hy)) rx ry X.prog X.w X.xe (EP X pins σ Q) ⟨.bl _,H,I,rfl,by unfold Mx.D.lt at *;exact q⟩
  ·cases he
 ·cases he;refine FI pins s σ H x y v u Q I rx ry ⟨hy.az,?_⟩;cases d with
  |aW=>rw[hx.az];exact q
  |bl b=>rw[hx.ay];exact q
  |int b=>rw[hx.int_inv];exact q
  |str b=>rw[hx.str_inv];exact q
  |tup b=>obtain⟨a,xs,rfl,_⟩:=hx.ae;exact q
  |lst b=>obtain⟨a,xs,rfl,_⟩:=hx.lst_inv;exact q
  |dC b=>obtain⟨a,rfl,_⟩:=hx.d4;exact q
  |gA=>exact hx.gC.elim
  |obj=>obtain⟨a,xs,rfl,_⟩:=hx.jg;exact q
  |exc=>exact hx.gD.elim
 ·cases he;refine Ca pins s σ H x y v u Q I rx ry ⟨hy.az,?_⟩;cases d with
  |aW=>rw[hx.az];exact q
  |bl b=>rw[hx.ay];exact q
  |int b=>rw[hx.int_inv];exact q
  |str b=>rw[hx.str_inv];exact q
  |tup b=>obtain⟨a,xs,rfl,_⟩:=hx.ae;exact q
  |lst b=>obtain⟨a,xs,rfl,_⟩:=hx.lst_inv;exact q
  |dC b=>obtain⟨a,rfl,_⟩:=hx.d4;exact q
  |gA=>exact hx.gC.elim
  |obj=>obtain⟨a,xs,rfl,_⟩:=hx.jg;exact q
  |exc=>exact hx.gD.elim
 ·obtain⟨g,he⟩:=bq he;cases he;rw[Ry,Ry]at g;obtain⟨a,xs,rfl,h1,_,h2⟩:=hy.lst_inv;cases ry;obtain⟨its,r,t⟩:=aP I.hok h1;obtain⟨e,k1,k2⟩:=Be I hu r h2 rx hx g.1.1 g.1.2 (RA g.2);exact notIn_listAt e t k1 ⟨.bl _,H,I,by rw[k2];rfl,q⟩
 ·cases he
theorem sj{ds:List Dt}{i:Int}{d:Dt}(h:sf ds i= .ok d):kT ds i=some d:=by
 unfold sf at h;split at h
 ·cases h;assumption
 ·cases h
theorem kg{K:Frag}{A:Addr->Prop}{H:Hp}{xs:List V}{ds:List Dt}{i:Int}{d:Dt}(g:aq K A H xs ds)(h:kT ds i=some d):∃v,kT xs i=some v/\RV K A H v d:=by
 unfold kT at h ⊢;rw[g.length];cases e:pd ds.length i with
 |none=>rw[e]at h;cases h
 |some j=>rw[e]at h;obtain⟨v,h1,h2⟩:=g.getD (i:=j) h;exact⟨v,h1,h2⟩
noncomputable def rX(K:Frag):R2:=λx y H Q=>∃d e z,RV K N0 H x d/\RV K N0 H y e/\cT d e= .ok z/\∀v,PR K false [x,y] [d,e] H z v H->Q v H
theorem E9:KB X (rX X.K):=by
 intro value slice pins s σ H x y v u Q I rx ry h hs;obtain⟨d,e,z,hx,hy,he,q⟩:=h;unfold cT at he;split at he
 ·rename_i ds i;obtain⟨a,xs,rfl,h1,_,h2⟩:=hx.lst_inv;have nG:=sj he;obtain⟨w,k1,k2⟩:=kg h2 nG;refine pf value slice pins s σ H _ y v u Q I rx ry ⟨a,xs,i,w,rfl,hy.int_inv,df.of h1,k1,q w ⟨bO.refl _,λA _ q'=>?_,λz=>by cases z⟩⟩ hs;obtain⟨w',m1,m2⟩:=kg (fJ.aP q'.1 h1) nG;rw[k1]at m1;cases m1;exact m2
 ·rename_i ds i;obtain⟨a,xs,rfl,h1,h2⟩:=hx.ae;have nG:=sj he;obtain⟨w,k1,k2⟩:=kg h2 nG;refine Fb value slice pins s σ H _ y v u Q I rx ry ⟨a,xs,i,w,rfl,hy.int_inv,eC.of h1,k1,q w ⟨bO.refl _,λA _ q'=>?_,λz=>by cases z⟩⟩ hs;obtain⟨w',m1,m2⟩:=kg (fJ.au q'.1 h1) nG;rw[k1]at m1;cases m1;exact m2
 ·rename_i ns i;obtain⟨a,rfl,h1⟩:=hx.jL;have nG:=sj he;have e1:kT ((ns.map V.int)) i=some (rW z)/\pY z=true:=by
   unfold kT at nG ⊢;rw[RI]at nG ⊢;cases e:pd ns.length i with
   |none=>rw[e]at nG;cases nG
   |some j=>
    rw[e]at nG;simp only[Option.bind_some,RW]at nG ⊢;cases en:ns[j]? with
    |none=>rw[en]at nG;cases nG
    |some k=>rw[en]at nG;simp at nG;subst nG;exact⟨rfl,rfl⟩
  exact pf value slice pins s σ H _ y v u Q I rx ry ⟨a,_,i,_,rfl,hy.int_inv,h1,e1.1,q _ (PR.sc e1.2)⟩ hs
 ·cases he
noncomputable def rS(K:Frag):V->Option Int->Option Int->Hp->VK->Prop:=λx lo hi H Q=>∃d z,RV K N0 H x d/\gj d lo hi= .ok z/\∀v H',PR K true [x] [d] H z v H'->Q v H'
theorem aq.cut{K:Frag}{A:Addr->Prop}{H:Hp}{xs:List V}{ds:List Dt}{lo hi:Option Int}(g:aq K A H xs ds):aq K A H (mF xs lo hi) (cutD ds lo hi):=by unfold mF cutD;rw[g.length];exact(g.drop _).take _
theorem sH{xs:List V}{lo hi:Option Int}(h:HT.bW xs.length 0 lo=0/\HT.bW xs.length xs.length hi=xs.length):mF xs lo hi=xs:=by unfold mF;rw[h.1,h.2];simp
theorem pH:Hs X (λx lo hi H Q=>∃a xs,x= .ref a/\H a=some (.tup xs)/\(HT.bW xs.length 0 lo=0/\HT.bW xs.length xs.length hi=xs.length)/\Q (.ref a) H):=by
 intro pins s σ H x v vl vu lo hi sl Q I rx hs pl pu h;obtain⟨a,xs,rfl,hx,hw,q⟩:=h;cases rx;obtain⟨its,r,ht,hz⟩:=I.tuple (eC.of hx);have hlen:its.toArray.size=xs.length:=by rw[Rz];exact r.length.symm
 refine⟨"tuple",_,U6.lookup,ht.typeIs,?_⟩;refine HT.gT ht hs pl pu (by rw[hlen];exact hw) ⟨.ref a,H,I,rfl,q⟩ (by rw[hlen];exact hz)
theorem i4{K:Frag}{A:Addr->Prop}{H:Hp}:∀{ns:List Int},aq K A H (ns.map V.int) (ns.map Dt.int)
 |[]=>aq.nil
 |_::_=>aq.cons RV.cU i4
theorem Af:Hs X (rS X.K):=by
 intro pins s σ H x v vl vu lo hi sl Q I rx hs pl pu h;obtain⟨d,z,hx,he,q⟩:=h;unfold gj at he;split at he
 ·cases he;obtain⟨a,xs,rfl,h1,_,h2⟩:=hx.lst_inv;exact vB pins s σ H _ v vl vu lo hi sl Q I rx hs pl pu ⟨a,xs,rfl,df.of h1,λp hp=>q _ _ (PR.tv hp λA w=>(fJ.aP w.1 h1).cut)⟩
 ·cases he;obtain⟨a,rfl,h1⟩:=hx.jL;exact vB pins s σ H _ v vl vu lo hi sl Q I rx hs pl pu ⟨a,_,rfl,h1,λp hp=>q _ _ (PR.tv hp λA w=>aq.cut i4)⟩
 ·cases he;obtain⟨a,xs,rfl,h1,h2⟩:=hx.ae;by_cases hw:HT.bW xs.length 0 lo=0/\HT.bW xs.length xs.length hi=xs.length
  ·refine pH pins s σ H _ v vl vu lo hi sl Q I rx hs pl pu ⟨a,xs,rfl,h1,hw,q _ _ (PR.qI h1 λA w=>?_)⟩;have:=(fJ.au w.1 h1).cut (lo:=lo) (hi:=hi);rw[sH hw]at this;exact this
  ·exact Gr pins s σ H _ v vl vu lo hi sl Q I rx hs pl pu ⟨a,xs,rfl,eC.of h1,hw,λp hp=>q _ _ (PR.zy hp λA w=>(fJ.au w.1 h1).cut)⟩
 ·cases he
theorem i5{K:Frag}{A:Addr->Prop}{H:Hp}:∀{xs:List V}{ds:List Dt}{ns:List Int},aq K A H xs ds->intsOf ds=some ns->xs=ns.map V.int
 |xs,[],ns,g,h=>by simp[intsOf]at h;subst h;exact g.nil_inv
 |xs,d::ds,ns,g,h=>by
  obtain⟨x,r,rfl,g1,g2⟩:=g.cons_inv;cases d with
  |int i=>simp only[intsOf,RP]at h;obtain⟨ms,h1,rfl⟩:=h;rw[i5 g2 h1,g1.int_inv];rfl
  |_=>simp[intsOf]at h
theorem uu{K:Frag}{A:Addr->Prop}{H:Hp}:∀{xs:List V}{ds:List Dt}{ns:List Bool},aq K A H xs ds->iU ds=some ns->xs=ns.map V.bl
 |xs,[],ns,g,h=>by simp[iU]at h;subst h;exact g.nil_inv
 |xs,d::ds,ns,g,h=>by
  obtain⟨x,r,rfl,g1,g2⟩:=g.cons_inv;cases d with
  |bl i=>simp only[iU,RP]at h;obtain⟨ms,h1,rfl⟩:=h;rw[uu g2 h1,g1.ay];rfl
  |_=>simp[iU]at h
theorem zv:∀(ns:List Int),ns≠[]->tj ns∈ns/\∀a∈ns,tj ns<=a
 |[],h=>absurd rfl h
 |[a],_=>by simp[tj]
 |a::b::r,_=>by
  have ih:=zv (b::r) (by simp);have e:tj (a::b::r)=min a (tj (b::r)):=rfl;rw[e];constructor
  ·by_cases h:a<=tj (b::r)
   ·rw[Int.min_eq_left h];exact RF
   ·rw[Int.min_eq_right ⋯];exact RC _ ih.1
  ·intro c hc;rcases RL.mp hc with e|hc
   ·rw[e];exact Int.min_le_left _ _
   ·exact Int.le_trans (Int.min_le_right _ _) (ih.2 c hc)
theorem cF:∀(ns:List Int),ns≠[]->dm ns∈ns/\∀a∈ns,a<=dm ns
 |[],h=>absurd rfl h
 |[a],_=>by simp[dm]
 |a::b::r,_=>by
  have ih:=cF (b::r) (by simp);have e:dm (a::b::r)=max a (dm (b::r)):=rfl;rw[e];constructor
  ·by_cases h:a<=dm (b::r)
   ·rw[Int.max_eq_right h];exact RC _ ih.1
   ·rw[Int.max_eq_left ⋯];exact RF
  ·intro c hc;rcases RL.mp hc with e|hc
   ·rw[e];exact Int.le_max_left _ _
   ·exact Int.le_trans (ih.2 c hc) (Int.le_max_right _ _)
theorem hZ:∀{l l':List Mx.D},l.Perm l'->(l.Pairwise λa b=>Mx.D.lt b a=false)->(l'.Pairwise λa b=>Mx.D.lt b a=false)->l=l'
 |[],l',p,_,_=>(List.nil_perm.mp p).symm
 |a::t,l',p,h1,h2=>by
  cases l' with
  |nil=>exact absurd p.length_eq (by simp)
  |cons b t'=>
   rw[Uw]at h1 h2;have fN:a=b:=by
    have ha:a∈b::t':=p.mem_iff.mp RF;have hb:b∈a::t:=p.mem_iff.mpr RF;rcases RL.mp ha with e|ha
    ·exact e
    rcases RL.mp hb with e|hb
    ·exact e.symm
    exact Mx.D.fY a b (h2.1 a ha) (h1.1 b hb)
   subst fN;rw[hZ (List.perm_cons a |>.mp p) h1.2 h2.2]
theorem lZ(ms:List Mx.D):(dQ ms).Perm ms/\(dQ ms).Pairwise λa b=>Mx.D.lt b a=false:=by
 unfold dQ;refine⟨List.mergeSort_perm ms u6,?_⟩;have h:=List.pairwise_mergeSort (le:=u6) (λa b c h1 h2=>by
  unfold u6 at *;simp only[SL]at *;cases h3:Mx.D.lt c a with
  |false=>rfl
  |true=>
   rcases Mx.HK.negTrans c b a h3 with h|h
   ·have h:Mx.D.lt c b=true:=h;rw[h2]at h;cases h
   ·have h:Mx.D.lt b a=true:=h;rw[h1]at h;cases h) (λa b=>by
  unfold u6;cases h:Mx.D.lt b a with
  |false=>rfl
  |true=>
   cases h':Mx.D.lt a b with
   |false=>rfl
   |true=>have:=Mx.D.lt_trans a b a h' h;rw[Mx.D.lt_irrefl]at this;cases this) ms
 exact h.imp λq=>by unfold u6 at q;simpa using q
theorem Ai{ms es:List Mx.D}(h:Mx.kS ms es):es=dQ ms:=hZ (h.1.trans (lZ ms).1.symm) h.2 (lZ ms).2
theorem Fc{k:Mx.SK}{d:Mx.D}(h:IY k d=true):k.ok d:=by
 unfold IY at h;split at h
 ·have e:=R3 h;subst e;exact⟨_,_,rfl⟩
 ·have e:=R3 h;subst e;exact⟨_,_,rfl⟩
 ·have e:=R3 h;subst e;exact⟨_,_,rfl⟩
 ·have e:=R3 h;subst e;exact⟨_,rfl⟩
 ·have e:=R3 h;subst e;exact⟨_,rfl⟩
 ·cases h
theorem Br{ms:List Mx.D}(h:jA ms=true):Mx.kQ ms:=by
 unfold jA at h;rw[Ry,Sm]at h;obtain⟨h1,h2⟩:=h;refine⟨RA h1,λh3=>?_⟩;rcases h2 with h2|h2
 ·have:=RA h2
  lia
 ·rw[Ry,Ry]at h2;obtain⟨⟨h4,h5⟩,h6⟩:=h2;refine⟨RA h4,?_,λd hd e he=>u9 (Sh.mp (Sh.mp h6 d hd) e he)⟩;obtain⟨k,_,hk⟩:=Si.mp h5;exact⟨k,λd hd=>Fc (Sh.mp hk d hd)⟩
theorem mN{α:Type}[DecidableEq α]{a b:List α}(ha:a.Nodup)(hb:b.Nodup)(h:∀x,x∈a↔x∈b):a.Perm b:=by rw[List.perm_iff_count];intro x;rw[ha.count,hb.count];simp[h x]
end
end Rx
end
section
namespace Rx
open PySem PySem.W PySem.Spec PyProof.Rows L2 PySem.SeqAt
section
variable{X:Cx}
noncomputable def G1:BI->Value
 |.len=>.builtin "len"|.abs=>.builtin "abs"|.max2=>.builtin "max"|.sum=>.builtin "sum"|.any=>.builtin "any"
 |.maxL=>.builtin "max"|.sorted=>.builtin "sorted"|.tuple=>.type "tuple"|.list=>.type "list"|.int=>.type "int"|.dvm=>.builtin "divmod"|_=>.none
noncomputable def Gb:BI->Bool
 |.isi _=>false|_=>true
theorem bt{K:Frag}{A:Addr->Prop}{H:Hp}{xs:List V}{d:Dt}(h:aq K A H xs [d]):∃x,xs=[x]/\RV K A H x d:=by obtain⟨x,r,rfl,h1,h2⟩:=h.cons_inv;rw[h2.nil_inv];exact⟨x,rfl,h1⟩
theorem vM{K:Frag}{A:Addr->Prop}{H:Hp}{xs:List V}{d e:Dt}(h:aq K A H xs [d,e]):∃x y,xs=[x,y]/\RV K A H x d/\RV K A H y e:=by obtain⟨x,r,rfl,h1,h2⟩:=h.cons_inv;obtain⟨y,rfl,h3⟩:=bt h2;exact⟨x,y,rfl,h1,h3⟩
theorem Bm(b:BI)(hr:Gb b=true)(hc:X.calm=true)(hu:X.A.units+150<cLine):c7 X (G1 b) (rP X.K true (eD b)):=by
 intro pins s σ H xs us Q I r h;obtain⟨ds,d,hx,he,q⟩:=h;have K1:=dJ;unfold eD at he;split at he
 ·split at he
  ·cases he;obtain⟨x,rfl,h1⟩:=bt hx;obtain⟨a,ys,rfl,h2,_,h3⟩:=h1.lst_inv;exact kX pins s σ H _ us Q I r ⟨_,_,rfl,.inl ⟨ys,df.of h2,rfl⟩,by rw[h3.length];exact q _ _ (PR.sc (d:=.int _) rfl)⟩
  ·cases he;obtain⟨x,rfl,h1⟩:=bt hx;obtain⟨a,ys,rfl,h2,h3⟩:=h1.ae;exact kX pins s σ H _ us Q I r ⟨_,_,rfl,.inr ⟨ys,eC.of h2,rfl⟩,by rw[h3.length];exact q _ _ (PR.sc (d:=.int _) rfl)⟩
  ·cases he;obtain⟨x,rfl,h1⟩:=bt hx;obtain⟨a,rfl,h2⟩:=h1.jL;exact kX pins s σ H _ us Q I r ⟨_,_,rfl,.inl ⟨_,h2,rfl⟩,by rw[RI];exact q _ _ (PR.sc (d:=.int _) rfl)⟩
  ·cases he
 ·split at he
  ·cases he;obtain⟨x,rfl,h1⟩:=bt hx;exact xW pins s σ H _ us Q I r ⟨_,by rw[h1.int_inv],q _ _ (PR.sc (d:=.int _) rfl)⟩
  ·cases he
 ·split at he
  ·cases he;obtain⟨x,y,rfl,h1,h2⟩:=vM hx;exact vZ hc pins s σ H _ us Q I r ⟨_,_,by rw[h1.int_inv,h2.int_inv],q _ _ (PR.sc (d:=.int _) rfl)⟩
  ·cases he
 ·split at he
  ·split at he
   ·rename_i ns xq;cases he;obtain⟨x,rfl,h1⟩:=bt hx;obtain⟨a,ys,rfl,h2,_,h3⟩:=h1.lst_inv;rw[i5 h3 xq]at h2;exact Mx.xZ hc pins s σ H _ us Q I r ⟨a,ns,rfl,df.of h2,q _ _ (PR.sc (d:=.int _) rfl)⟩
   ·cases he
  ·split at he
   ·rename_i ns xq;cases he;obtain⟨x,rfl,h1⟩:=bt hx;obtain⟨a,ys,rfl,h2,h3⟩:=h1.ae;rw[i5 h3 xq]at h2;exact Mx.v7 hc pins s σ H _ us Q I r ⟨a,ns,rfl,h2,q _ _ (PR.sc (d:=.int _) rfl)⟩
   ·cases he
  ·cases he
 ·split at he
  ·split at he
   ·rename_i ns xq;cases he;obtain⟨x,rfl,h1⟩:=bt hx;obtain⟨a,ys,rfl,h2,_,h3⟩:=h1.lst_inv;rw[uu h3 xq]at h2;exact Mx.xX hc pins s σ H _ us Q I r ⟨a,ns,rfl,df.of h2,q _ _ (PR.sc (d:=.bl _) rfl)⟩
   ·cases he
  ·cases he
 ·split at he
  ·rename_i d0;split at he
   ·rename_i es hes;split at he
    ·rename_i ms hms;obtain⟨g,he⟩:=bq he;cases he;have cs:=Br g;obtain⟨x,rfl,h1⟩:=bt hx;have Pw:=ji hms;have go:∀{a:Addr}{ys:List V},x= .ref a->(df X.K H a ys\/eC X.K H a ys)->aq X.K N0 H ys es->wpAny (model X.prog X.w) X.A (call (G1 .sorted) us) (EP X pins σ Q) X.xe s:=by intro a ys ex hs g;subst ex;rw[Pw]at g;refine Mx.oJ hu pins s σ H _ us Q I r ⟨a,ys,ms,rfl,hs,g.wc,cs,λm zs qs hm hz hso=>q _ _ ?_⟩;have e:=Ai hso;subst e;exact PR.tv hm λA _=>aq.tD hz
     unfold itemsOf at hes;split at hes
     ·cases hes;obtain⟨a,ys,e1,h2,_,h3⟩:=h1.lst_inv;exact go e1 (.inl (df.of h2)) h3
     ·cases hes;obtain⟨a,ys,e1,h2,h3⟩:=h1.ae;exact go e1 (.inr (eC.of h2)) h3
     ·cases hes;obtain⟨a,e1,h2⟩:=h1.jL;exact go e1 (.inl h2) i4
     ·cases hes
    ·cases he
   ·cases he
  ·cases he
 ·split at he
  ·cases he;obtain⟨x,rfl,h1⟩:=bt hx;obtain⟨a,ys,rfl,h2,_,h3⟩:=h1.lst_inv;exact gX pins s σ H _ us Q I r ⟨a,ys,rfl,.inl ⟨df.of h2,λl hl=>q _ _ (PR.zy hl λA w=>fJ.aP w.1 h2)⟩⟩
  ·cases he;obtain⟨x,rfl,h1⟩:=bt hx;obtain⟨a,ys,rfl,h2,h3⟩:=h1.ae;exact gX pins s σ H _ us Q I r ⟨a,ys,rfl,.inr ⟨eC.of h2,q _ _ (PR.qI h2 λA w=>fJ.au w.1 h2)⟩⟩
  ·cases he
 ·split at he
  ·cases he;obtain⟨x,rfl,h1⟩:=bt hx;obtain⟨a,ys,rfl,h2,_,h3⟩:=h1.lst_inv;exact fj pins s σ H _ us Q I r ⟨a,ys,rfl,.inl (df.of h2),λl hl=>q _ _ (PR.tv hl λA w=>fJ.aP w.1 h2)⟩
  ·cases he;obtain⟨x,rfl,h1⟩:=bt hx;obtain⟨a,ys,rfl,h2,h3⟩:=h1.ae;exact fj pins s σ H _ us Q I r ⟨a,ys,rfl,.inr (eC.of h2),λl hl=>q _ _ (PR.tv hl λA w=>fJ.au w.1 h2)⟩
  ·cases he;obtain⟨x,rfl,h1⟩:=bt hx;obtain⟨a,rfl,h2⟩:=h1.jL;exact fj pins s σ H _ us Q I r ⟨a,_,rfl,.inl h2,λl hl=>q _ _ (PR.tv hl λA w=>i4)⟩
  ·cases he
 ·split at he
  ·cases he;obtain⟨x,rfl,h1⟩:=bt hx;exact nq pins s σ H _ us Q I r (.inl ⟨_,by rw[h1.int_inv],q _ _ (PR.sc (d:=.int _) rfl)⟩)
  ·cases he;obtain⟨x,rfl,h1⟩:=bt hx;exact nq pins s σ H _ us Q I r (.inr ⟨_,by rw[h1.ay],q _ _ (PR.sc (d:=.int _) rfl)⟩)
  ·cases he
 ·cases hr
 ·split at he
  ·split at he
   ·rename_i ns xq;obtain⟨g,he⟩:=bq he;cases he;obtain⟨x,rfl,h1⟩:=bt hx;obtain⟨a,ys,rfl,h2,_,h3⟩:=h1.lst_inv;rw[i5 h3 xq]at h2;have dw:ns≠[]:=λe=>by rw[e]at g;cases g
    refine Mx.v5 hc pins s σ H _ us Q I r ⟨a,ns,rfl,df.of h2,dw,λm m1 m2=>?_⟩;have:=cF ns dw;have e:m=dm ns:=Int.le_antisymm (this.2 _ m1) (m2 _ this.1);rw[e];exact q _ _ (PR.sc (d:=.int _) rfl)
   ·cases he
  ·cases he
 ·split at he
  ·rename_i i j;obtain⟨g,he⟩:=bq he;cases he;obtain⟨x,y,rfl,h1,h2⟩:=vM hx;rw[Ry]at g;refine Mx.oI pins s σ H _ us Q I r ⟨i,j,by rw[h1.int_inv,h2.int_inv],RA g.1,RA g.2,λp hp=>q _ _ (PR.zy hp λA w=>aq.cons RV.cU (aq.cons RV.cU aq.nil))⟩
  ·cases he
end
structure Fm where
 K:Frag
 H0:Hp
 d0:Option Addr
 Ek:Nat->Prop
 P:Program
 w:World
structure Ow where
 W:Addr->Prop
 A:Addr->Prop
 dr:Option Addr
noncomputable def Ow.wd(o:Ow):Addr->Prop:=λa=>o.W a\/o.dr=some a
noncomputable def Ow.d(o:Ow):Addr->Prop:=λa=>o.dr=some a
noncomputable def OV(Φ:Fm)(o:Ow)(H:Hp)(v:V):Dt->Prop
 |.lst ds=>∃a xs,v= .ref a/\H a=some (.lst xs)/\o.A a/\¬o.W a/\o.dr≠some a/\Φ.H0 a=none/\aq Φ.K o.A H xs ds
 |.gA ks vs=>False
 |d=>RV Φ.K o.A H v d
structure ER(Φ:Fm)(Γ:Gm)(o:Ow)(ρ:ah)(S:Sx)(σ:L2.St)(H:Hp):Prop where
 len:σ.length=ρ.length
 wa:∀a,o.W a->o.A a
 da:∀a,o.dr=some a->o.A a
 al:∀a,o.A a->∃x,H a=some x
 val:∀(i:Nat)(d:Dt),ρ[i]?=some (some d)->∃v,σ[i]?=some (some v)/\(if fH Γ i=true then OV Φ o H v d else RV Φ.K o.A H v d)
 dk:∀(i:Nat)(ks vs:List Dt),ρ[i]?=some (some (.gA ks vs))->Γ.κ=some i
 inj:∀(i j:Nat)(a:Addr)(d e:List Dt),fH Γ i=true->fH Γ j=true->ρ[i]?=some (some (.lst d))->ρ[j]?=some (some (.lst e))->σ[i]?=some (some (.ref a))->σ[j]?=some (some (.ref a))->i=j
 drw:∀a,o.dr=some a->∃ns:List Int,S=some ns/\H a=some (.lst (ns.map V.int))
 drn:o.dr=none->S=none
 drs:∀(i:Nat)(a:Addr),Γ.δ=some i->o.dr=some a->σ[i]?=some (some (.ref a))
 dr0:∀a,o.dr=some a->Φ.d0=some a\/Φ.H0 a=none
 ent:ba (λb=>Φ.d0=some b) Φ.H0 H
section
variable{Φ:Fm}{Γ:Gm}{o:Ow}{ρ:ah}{S S':Sx}{σ:L2.St}{H H':Hp}
noncomputable def nD:Dt->Bool
 |.gA _ _=>false
 |_=>true
theorem OV.val{v:V}{d:Dt}(h:OV Φ o H v d)(nd:nD d=true)(wa:∀a,o.W a->o.A a)(da:∀a,o.dr=some a->o.A a):RV Φ.K o.wd H v d:=by
 have hw:∀b,o.wd b->o.A b:=λb z=>z.elim (wa b) (da b)
 cases d with
 |lst ds=>obtain⟨a,xs,rfl,h1,h2,h3,h4,_,h5⟩:=h;exact RV.d8 h1 (λz=>z.elim h3 h4) (h5.weak hw)
 |gA=>cases nd
 |_=>exact RV.weak h hw
theorem OV.one{v:V}{d:Dt}(h:OV Φ o H v d)(nd:nD d=true):fJ Φ.K o.A H v d:=by
 cases d with
 |lst ds=>obtain⟨a,xs,rfl,h1,h2,h3,h4,_,h5⟩:=h;exact⟨a,xs,rfl,h1,h5⟩
 |gA=>cases nd
 |_=>exact h
theorem OV.ext{v:V}{d:Dt}(h:OV Φ o H v d)(da:∀a,o.dr=some a->o.A a)(e:ba o.d H H'):OV Φ o H' v d:=by
 cases d with
 |lst ds=>obtain⟨a,xs,rfl,h1,h2,h3,h4,h6,h5⟩:=h;exact⟨a,xs,rfl,e.kp _ _ h1 h4,h2,h3,h4,h6,h5.mono e da λ_ z=>z⟩
 |gA=>exact h.elim
 |_=>exact RV.mono e da (λ_ z=>z) h
theorem Dk.set{κ:Option Nat}{i:Nat}{d:Dt}(h:∀(i:Nat)(ks vs:List Dt),ρ[i]?=some (some (.gA ks vs))->κ=some i)(nd:nD d=true):∀(j:Nat)(ks vs:List Dt),(ρ.set i (some d))[j]?=some (some (.gA ks vs))->κ=some j:=λj ks vs hj=>by
 by_cases e:j=i
 ·subst e;rw[TY]at hj;simp only[Vm]at hj;split at hj
  ·cases hj;cases nd
  ·cases hj
 ·rw[RT (U2 e)]at hj;exact h j ks vs hj
theorem RV.nd{K:Frag}{A:Addr->Prop}{v:V}{d:Dt}(h:RV K A H v d):nD d=true:=by
 cases d with
 |gA=>unfold RV at h;exact h.elim
 |_=>rfl
theorem ER.nd(er:ER Φ Γ o ρ S σ H){i:Nat}{d:Dt}(h:ρ[i]?=some (some d))(n:Γ.κ≠some i):nD d=true:=by
 cases d with
 |gA ks vs=>exact absurd (er.dk i ks vs h) n
 |_=>rfl
theorem ER.iL(er:ER Φ Γ o ρ S σ H):∀b,o.wd b->o.A b:=λb z=>z.elim (er.wa b) (er.da b)
theorem ER.ua(er:ER Φ Γ o ρ S σ H):∀b,o.wd b->∃x,H b=some x:=λb z=>er.al b (er.iL b z)
theorem ba.al{X:Addr->Prop}(e:ba X H H'){b:Addr}{x:HO}(h:H b=some x)(hx:X b->∃y,H' b=some y):∃y,H' b=some y:=by
 by_cases z:X b
 ·exact hx z
 ·exact⟨x,e.kp _ _ h z⟩
theorem ER.step(er:ER Φ Γ o ρ S σ H)(e:ba o.d H H')(hd:∀a,o.dr=some a->∃ns:List Int,S'=some ns/\H' a=some (.lst (ns.map V.int)))(hn:o.dr=none->S'=none):ER Φ Γ o ρ S' σ H' where
 len:=er.len
 wa:=er.wa
 da:=er.da
 al:=λa ha=>by obtain⟨x,hx⟩:=er.al a ha;exact e.al hx λz=>by obtain⟨ns,_,h⟩:=hd a z;exact⟨_,h⟩
 val:=λi d h=>by
  obtain⟨v,h1,h2⟩:=er.val i d h;refine⟨v,h1,?_⟩;by_cases m:fH Γ i=true
  ·rw[Vl m]at h2 ⊢;exact h2.ext er.da e
  ·rw[Vk m]at h2 ⊢;exact h2.mono e er.da λ_ z=>z
 dk:=er.dk
 inj:=er.inj
 drw:=hd
 drn:=hn
 drs:=er.drs
 dr0:=er.dr0
 ent:=⟨λb x h n=>by
   refine e.kp _ _ (er.ent.kp b x h n) λz=>?_
   rcases er.dr0 b z with q|q
   ·exact n q
   ·(rw[h]at q;cases q),λb xs h=>e.tp _ _ (er.ent.tp b xs h)⟩
theorem ER.grow(er:ER Φ Γ o ρ S σ H)(s:bO H H'):ER Φ Γ o ρ S σ H':=er.step (ba.of_same s) (λa h=>by
 obtain⟨ns,h1,h2⟩:=er.drw a h;exact⟨ns,h1,s _ _ h2⟩) er.drn
end
noncomputable def mR(Ek:Nat->Prop){α:Type}(r:R α)(P:α->Prop):Prop:=match r with
 |.ok a=>P a
 |.ex k=>Ek k
 |.bad=>False
section
variable{Ek:Nat->Prop}{α β:Type}
theorem aa{r:R α}{f:α->R β}{P:β->Prop}:mR Ek (r.bind f) P↔mR Ek r λa=>mR Ek (f a) P:=by cases r<;>rfl
theorem ag{r:R α}{P Q:α->Prop}(h:mR Ek r P)(hq:∀a,r= .ok a->P a->Q a):mR Ek r Q:=by
 cases r with
 |ok a=>exact hq a rfl h
 |ex k=>exact h
 |bad=>exact h
theorem aN{b:Bool}{r:R α}{P:α->Prop}(h:mR Ek (ab b r) P):b=true/\mR Ek r P:=by
 cases b with
 |true=>exact⟨rfl,h⟩
 |false=>exact h.elim
end
structure EO(K:Frag)(fr:Nat->Bool)(o:Ow)(c:C)(H:Hp)(d:Dt)(v:V)(H':Hp):Prop where
 ext:ba o.d H H'
 val:RV K o.wd H' v d
 dz:lk c=0->RV K o.A H' v d
 tS:lk c<=1->fJ K o.A H' v d
 j7:fresh fr c=true->∀ds,d= .lst ds->∃a xs,v= .ref a/\H a=none/\H' a=some (.lst xs)/\aq K (λb=>o.wd b\/b=a) H' xs ds/\(lk c=0->aq K (λb=>o.A b\/b=a) H' xs ds)
structure Pd(K:Frag)(o:Ow)(cs:Cs)(H:Hp)(ds:List Dt)(vs:List V)(H':Hp):Prop where
 ext:ba o.d H H'
 val:aq K o.wd H' vs ds
 dz:qK cs=0->aq K o.A H' vs ds
 tS:qK cs<=1->oy K o.A H' vs ds
section
variable(Φ:Fm)(Γ:Gm)(F:FT)(fr:Nat->Bool)
inductive bV(c:C)(σ:L2.St)(H:Hp)(Q:VK):Prop
 |mk (o:Ow) (ρ:ah) (S:Sx) (e:ER Φ Γ o ρ S σ H) (m:mR Φ.Ek (ev F c ρ S) λp=>∀v H',EO Φ.K fr o c H p.1 v H'->ER Φ Γ o ρ p.2 σ H'->Q v H'):bV c σ H Q
inductive fL(c:C)(σ:L2.St)(H:Hp)(Q:Bool->Hp->Prop):Prop
 |mk (o:Ow) (ρ:ah) (S:Sx) (e:ER Φ Γ o ρ S σ H) (m:mR Φ.Ek (cN F c ρ S) λp=>∀H',ba o.d H H'->ER Φ Γ o ρ p.2 σ H'->Q p.1 H'):fL c σ H Q
inductive mT(cs:Cs)(σ:L2.St)(H:Hp)(Q:List V->Hp->Prop):Prop
 |mk (o:Ow) (ρ:ah) (S:Sx) (e:ER Φ Γ o ρ S σ H) (m:mR Φ.Ek (gS F cs ρ S) λp=>∀vs H',Pd Φ.K o cs H p.1 vs H'->ER Φ Γ o ρ p.2 σ H'->Q vs H'):mT cs σ H Q
inductive oh(cs:Cs)(σ:L2.St)(H:Hp)(Q:Bool->Hp->Prop):Prop
 |mk (o:Ow) (ρ:ah) (S:Sx) (e:ER Φ Γ o ρ S σ H) (m:mR Φ.Ek (bp F cs ρ S) λp=>∀H',ba o.d H H'->ER Φ Γ o ρ p.2 σ H'->Q p.1 H'):oh cs σ H Q
end
structure Wk(K:Frag)(A X:Addr->Prop)(J:It)(H:Hp)(ds:List Dt):Prop where
 go:∀(i:Nat)(H1:Hp),i<ds.length->ba X H H1->J.go i H1
 stop:∀(H1:Hp),ba X H H1->J.stop ds.length H1
 yld:∀(i:Nat)(x:V)(H1 H2:Hp),i<ds.length->ba X H H1->J.yld i H1 x H2->bO H1 H2/\∃d,ds[i]?=some d/\∀B:Addr->Prop,(∀b,B b->A b\/H b=none)->RV K B H2 x d
structure IO(K:Frag)(o:Ow)(it:mX)(nl:Bool)(H:Hp)(ds:List Dt)(J:It)(H':Hp):Prop where
 ext:ba o.d H H'
 w1:sZ it<=1->Wk K o.A o.d J H' ds
 w0:sZ it=0->Wk K o.A o.A J H' ds
 w2:nl=true->Wk K o.A o.A J H' ds
inductive pR(Φ:Fm)(Γ:Gm)(F:FT)(it:mX)(σ:L2.St)(H:Hp)(Q:It->Hp->Prop):Prop
 |mk (o:Ow) (ρ:ah) (S:Sx) (e:ER Φ Γ o ρ S σ H) (m:mR Φ.Ek (d7 F it ρ S) λp=>∀J H',IO Φ.K o it (mH F it ρ S) H p.1 J H'->ER Φ Γ o ρ p.2 σ H'->Q J H'):pR Φ Γ F it σ H Q
structure GX(g:G)(Γ:Gm)(X:Cx):Prop where
 N:X.N=Γ.N
 nd:Γ.N.Nodup
 vis:∀x,AA (Γ.names.lookup x)=true->Hu X.env.scope x
 loc:∀x,zo (Γ.names.lookup x)=true->Loc X.env.scope x/\(X.fn x=true\/X.env.scope.names.lookup x=some .local)
 gl:∀x,De (Γ.names.lookup x)=true->Gl X x
 fre:∀x,(Γ.names.lookup x=some .cell\/Γ.names.lookup x=some .free)->(X.env.scope.names.lookup x=some .cell\/X.env.scope.names.lookup x=some .free)
 calm:X.calm=true
 un:X.A.units+150<cLine
 con:∀x d,g.cons.lookup x=some d->∃u,pY d=true/\X.mg x=some u/\RelV (rW d) u
 bl:∀x∈g.bls,X.mg x=none
structure FO(K:Frag)(W:Addr->Prop)(dr:Option Addr)(fr:Bool)(H:Hp)(d:Dt)(S':Sx)(v:V)(H':Hp):Prop where
 ext:ba (λb=>dr=some b) H H'
 val:RV K W H' v d
 drw:∀a,dr=some a->∃ns:List Int,S'=some ns/\H' a=some (.lst (ns.map V.int))
 j7:fr=true->∀ds,d= .lst ds->∃a xs,v= .ref a/\H a=none/\H' a=some (.lst xs)/\aq K (λb=>W b\/b=a) H' xs ds
noncomputable def O4(K:Frag)(xv:Nat->Value)(F:List Dt->Sx->R (Dt×Sx))(np:Nat)(fr bo:Bool):Sp:=λvs H Q E=>
 vs.length=np/\∃(W:Addr->Prop)(dr:Option Addr)(args:List Dt)(S:Sx)(xt:List V),
  (if bo=true then∃(a:Addr)(ns:List Int),vs= .ref a::xt/\dr=some a/\W a/\S=some ns/\H a=some (.lst (ns.map V.int)) else vs=xt/\dr=none/\S=none)/\
  aq K W H xt args/\(∀a,W a->∃x,H a=some x)/\
  match F args S with
  |.ok p=>∀v H',FO K W dr fr H p.1 p.2 v H'->Q v H'
  |.ex k=>∀H',ba (λb=>dr=some b) H H'->E (xv k) none H'
  |.bad=>False
noncomputable def mW(Φ:Fm)(xv:Nat->Value):XK:=λv _ H'=>∃k,v=xv k/\Φ.Ek k/\ba (λb=>Φ.d0=some b) Φ.H0 H'
structure FX(g:G)(xv:Nat->Value)(CX:kP)(P:Program)(w:World)(K:Frag)(mg:Str->Option Value)(base:Heap)(n k:Nat)(F:FT):Prop where
 fn:∀x f np fT bo,sN x g.fns=some (f,np,fT,bo)->∃(fa:Addr)(fd:FuncData)(ps:List Str),ps.length=np/\mg x=some (.ref fa)/\PySem.W.keepIn K (.ref fa)=true/\
  jy P w K mg base CX k fa fd ps (O4 K xv (F f) np (g.fr f) bo)/\(∀j,j<=fT.length->∃ds,ar ((fT.drop j).map rW) ds/\Binds K fd ps ds)/\fT.all pY=true
end Rx
end
section
namespace L2
open PySem PySem.Spec PyProof.Rows
noncomputable def Lw(X:Cx)(st:Stmt)(t:TS):Prop:=∀(s:Shared)(σ:St)(H:Hp)(D:Ends),Inv X [] σ H s->t D σ H->wpAny (model X.prog X.w) X.A (exec st X.env) (SP X [] D) X.xe s
noncomputable def ox(X:Cx)(st:List Stmt)(t:TS):Prop:=∀(s:Shared)(σ:St)(H:Hp)(D:Ends),Inv X [] σ H s->t D σ H->wpAny (model X.prog X.w) X.A (execs st X.env) (SP X [] D) X.xe s
theorem F4{X:Cx}{st:Stmt}{t:TS}(h:PS X st t):Lw X st t:=λs σ H D=>h [] s σ H D
theorem Ct{X:Cx}{st:List Stmt}{t:TS}(h:vU X st t):ox X st t:=λs σ H D=>h [] s σ H D
theorem wR{X:Cx}{st:Stmt}{rest:List Stmt}{t u:TS}(h1:Lw X st t)(h2:ox X rest u):ox X (st::rest) (Kk t u):=by
 intro s σ H D I hq;refine wpAny_execs_cons (bY (h1 s σ H {D with nx:=u D} I hq) λf s1 z=>?_);cases f with
 |next=>obtain⟨σ1,H1,I1,q1⟩:=z;exact h2 s1 σ1 H1 D I1 q1
 |brk=>exact z
 |cont=>exact z
 |ret v=>exact z
theorem ED{CX:kP}{P:Program}{w:World}{K:PySem.W.Frag}{mg:Str->Option Value}{base:Heap}{k:Nat}{f:Addr}{name qual:Str}{params:Arguments}{body:List Stmt}{scope:Scope}{dV kV doc pm fM ct oc:Value}{an od:Option Addr}
  {vd:Array (Option Value)} {N ps:List Str} {sp:Sp} (lk:K.lookup f=some ⟨oc,od,.func (PySem.W.fnOf name qual params body scope dV kV doc pm an fM ct),vd⟩) (AS:PySem.W.codeIn K fM qual=true) (S:fi N ps scope)
  (len:∀vs H Q E,sp vs H Q E->vs.length=ps.length)
  (Ir:∀(A:Around)(outer:List Env)(s:Shared)(H:Hp)(vs:List V)(Q:VK)(E:XK),iP k (A.deeper (envOfC qual scope s.heap.objs.size f fM))->sp vs H Q E->
   ∃t,ox (ql CX P w K mg base N qual scope f fM A outer s H E) body t/\t {nx:=λ_ H'=>Q .aW H',rt:=Q} (start N vs) H):
  jy P w K mg base CX (k+1) f (PySem.W.fnOf name qual params body scope dV kV doc pm an fM ct) ps sp:=by
 refine⟨len,λA outer s H args us vs Q E hr e0 hb r pW=>?_⟩;have KX:K.In s.heap:=e0.mod.MZ.keeps λb o e=>(e0.bs b o e).1
 have IH:∀y∈ps.zip us,scope.names.lookup y.1=some .local\/(scope.names.lookup y.1=some .cell/\((cellsFrom (s.heap.objs.size+1) scope.names []).lookup y.1).isSome=true):=λ⟨n,v⟩hy=>by
  rcases S.par n (Uu hy).1 with q|q
  ·exact .inl q
  ·exact .inr ⟨q,Vb _ _ _ (.inl q)⟩
 refine codeAny_call_function hr.depth (KX _ _ lk) rfl S.co S.gen rfl (PySem.W.codeRec_of KX AS) (hb _ _ _ _ (wpAny_newFunctionEnv_cells S.kind IH λenv he s1 x=>?_));subst he;refine⟨(e0.mod.nolimit.keeps λb o e=>(e0.bs b o e).1).keeps x.toInCall.keep,codeAny_func ?_⟩;obtain⟨t,ht,hq⟩:=Ir A outer s H vs Q E (hr.deeper _) pW;have I:Inv (ql CX P w K mg base N qual scope f fM A outer s H E) [] (start N vs) H s1:=wy S hr.hd e0 (len _ _ _ _ pW) r x;refine VB (ht s1 (start N vs) H _ I hq) (λfl s' hs=>?_) λe s' hs=>hs
 have fin:∀{σ':St}{H':Hp}{v:V}{u:Value},Inv (ql CX P w K mg base N qual scope f fM A outer s H E) [] σ' H' s'->RelV v u->Q v H'->CE outer P w H s Q u s':=
  λ {σ' H' v u} J rv q=>⟨v,H',J.os,J.bare,J.base,J.hok,rv,q⟩
 cases fl with
 |ret u=>obtain⟨v,σ',H',J,rv,q⟩:=hs;exact fin J rv q
 |next=>obtain⟨σ',H',J,q⟩:=hs;exact fin (v:=V.aW) (u:=Value.none) J rfl q
 |brk=>obtain⟨_,_,_,q⟩:=hs;exact q.elim
 |cont=>obtain⟨_,_,_,q⟩:=hs;exact q.elim
end L2
end
section
namespace Rx
open PySem PySem.W PySem.Spec PyProof.Rows L2 PySem.SeqAt
noncomputable def LA(K:Frag)(mg:Str->Option Value)(C:Addr)(ts:List (Str×Bool)):Prop:=True
structure HX(g:G)(xv:Nat->Value)(CX:kP)(k:Nat)(F:FT)(Φ:Fm)(X:Cx):Prop where
 K:Φ.K=X.K
 P:Φ.P=X.prog
 w:Φ.w=X.w
 fx:∃n,FX g xv CX X.prog X.w X.K X.mg X.base n k F
 room:iP k X.A
 cx:CX=xj X.prog X.w
 st:iR X
 xgx:∀e s',oz X (mW Φ xv) e s'->X.xe e s'
 xk:∀k x ts,g.xs[k]?=some (x,ts)->∃C,xv k= .ref C/\X.mg x=some (.ref C)/\LA X.K X.mg C ts
theorem HX.pass{g:G}{xv:Nat->Value}{CX:kP}{k:Nat}{F:FT}{Φ:Fm}{X:Cx}(h:HX g xv CX k F Φ X):r8 CX X (mW Φ xv):=λpins σ H s e s' I c=>by have hc:=h.cx;subst hc;exact h.xgx e s' (AF I h.st.pn c)
theorem bz{X:Cx}{e:Expr}{t t':TE}(h:PE X e t)(hi:∀σ H Q,t' σ H Q->t σ H Q):PE X e t':=λpins s σ H Q I q=>h pins s σ H Q I (hi σ H Q q)
theorem tO{X:Cx}{e:Expr}{t t':TT}(h:PT X e t)(hi:∀σ H Q,t' σ H Q->t σ H Q):PT X e t':=λpins s σ H Q I q=>h pins s σ H Q I (hi σ H Q q)
theorem zR{X:Cx}{e:Expr}{t t':TT}(h:PW X e t)(hi:∀σ H Q,t' σ H Q->t σ H Q):PW X e t':=λwh pins s σ H Q I q=>h wh pins s σ H Q I (hi σ H Q q)
theorem zG{X:Cx}{e:List Expr}{t t':TA}(h:PA X e t)(hi:∀σ H Q,t' σ H Q->t σ H Q):PA X e t':=λpos pins s σ H Q I q=>h pos pins s σ H Q I (hi σ H Q q)
theorem tF{X:Cx}{tg e:Expr}{t t':TI}(h:PI X tg e t)(hi:∀σ H Q,t' σ H Q->t σ H Q):PI X tg e t':=λpins s σ H Q I q=>h pins s σ H Q I (hi σ H Q q)
section
variable{Φ:Fm}{Γ:Gm}{F:FT}{fr:Nat->Bool}{o:Ow}{ρ:ah}{S:Sx}{σ:L2.St}{H H':Hp}
theorem EO.sc{c:C}{d:Dt}(h:pY d=true):EO Φ.K fr o c H d (rW d) H:=⟨ba.refl,rg h,λ_=>rg h,λ_=>(rg h).one,λ_ ds e=>by subst e;simp[pY]at h⟩
theorem EO.wg{c:C}{d:Dt}{v:V}{H1:Hp}(e:ba o.d H H1)(h:EO Φ.K fr o c H1 d v H')(hf:fresh fr c=true->∀ds,d= .lst ds->∀a,H1 a=none->H a=none):EO Φ.K fr o c H d v H':=
 ⟨e.trans h.ext,h.val,h.dz,h.tS,λf ds ed=>by
  obtain⟨a,xs,h1,h2,h3⟩:=h.j7 f ds ed;exact⟨a,xs,h1,hf f ds ed a h2,h3⟩⟩
theorem yq{X:Addr->Prop}{H1:Hp}(e:ba X H H1)(hx:∀b,X b->∃y,H1 b=some y){a:Addr}(h:H1 a=none):H a=none:=by
 cases q:H a with
 |none=>rfl
 |some x=>obtain⟨y,z⟩:=e.al q (hx a);rw[h]at z;cases z
theorem ER.eR{S1:Sx}{H1:Hp}(aF:ER Φ Γ o ρ S1 σ H1)(e:ba o.d H H1){a:Addr}(h:H1 a=none):H a=none:=yq e (λb z=>aF.al b (aF.da b z)) h
theorem EO.keep{c:C}{d:Dt}{v:V}{H1 H2:Hp}(h:EO Φ.K fr o c H d v H1)(e:ba o.d H1 H2)(wa:∀b,o.wd b->o.A b):RV Φ.K o.wd H2 v d/\(lk c=0->RV Φ.K o.A H2 v d)/\(lk c<=1->fJ Φ.K o.A H2 v d):=by
 have hd:∀b,o.d b->o.wd b:=λb z=>.inr z
 refine⟨h.val.mono e hd λ_ z=>z,λl=>(h.dz l).mono e (λb z=>wa b (hd b z)) λ_ z=>z,λl=>?_⟩;refine(h.tS l).ext e (λb z=>wa b (hd b z)) λds a ed ev z=>?_
 subst ed ev;obtain⟨b,xs,q,_,n,_⟩:=h.val.lst_inv;cases q;exact n (.inr z)
theorem EO.pr{c:C}{xs:List V}{ds:List Dt}{d:Dt}{v:V}{H1 H2:Hp}{S1:Sx}{f:Bool}(aF:ER Φ Γ o ρ S1 σ H1)(e:ba o.d H H1)(hv:aq Φ.K o.wd H1 xs ds)(h1:lk c<=1->oy Φ.K o.A H1 xs ds)(hl:lk c=0\/lk c=2)
  (pr:PR Φ.K f xs ds H1 d v H2) (hf:fresh fr c=true->f=true):EO Φ.K fr o c H d v H2/\ER Φ Γ o ρ S1 σ H2:=by
 have q0:lk c=0->RV Φ.K o.A H2 v d:=λl=>pr.val o.A aF.al (h1 ⋯)
 refine⟨⟨e.trans (ba.of_same pr.same),pr.val o.wd aF.ua hv.ones,q0,λl=>(q0 ⋯).one,λfc es ed=>?_⟩,aF.grow pr.same⟩;obtain⟨a,ys,k1,k2,k3,k4⟩:=pr.j7 (hf fc) es ed;exact⟨a,ys,k1,aF.eR e k2,k3,k4 o.wd aF.ua hv.ones,λl=>k4 o.A aF.al (h1 ⋯)⟩
theorem je{A:Addr->Prop}{K:Frag}{v:V}{d:Dt}(h:RV K A H v d):RV K N0 H v d:=h.weak λ_ z=>z.elim
theorem Fy{A:Addr->Prop}{K:Frag}{v:List V}{d:List Dt}(h:aq K A H v d):aq K N0 H v d:=h.weak λ_ z=>z.elim
end
section
variable{X:Cx}{Φ:Fm}{Γ:Gm}{F:FT}{fr:Nat->Bool}{g:G}
theorem rj{e:Expr}{d:Dt}(hd:pY d=true)(h:PE X e (tC (rW d))):PE X e (bV Φ Γ F fr (.con d)):=bz h λσ H Q q=>by obtain⟨o,ρ,S,er,q⟩:=q;exact q _ _ (EO.sc hd) er
theorem oY{Ek:Nat->Prop}{ρ:ah}{i:Nat}{P:Dt->Prop}(h:mR Ek (eN ρ i) P):∃d,ρ[i]?=some (some d)/\P d:=by
 unfold eN at h;split at h
 ·exact⟨_,by assumption,h⟩
 ·exact h.elim
theorem J1{e:Expr}{i:Nat}(h:PE X e (mS i))(hm:fH Γ i=false):PE X e (bV Φ Γ F fr (.var i)):=bz h λσ H Q q=>by obtain⟨o,ρ,S,er,q⟩:=q;unfold ev at q;rw[aa]at q;obtain⟨d,hd,q⟩:=oY q;obtain⟨v,h1,h2⟩:=er.val i d hd;rw[hm,Vk (by simp)]at h2;exact⟨v,h1,q v H ⟨ba.refl,h2.weak er.iL,λ_=>h2,λ_=>h2.one,λz=>by simp[fresh]at z⟩ er⟩
theorem JT{e:Expr}{i:Nat}(h:PE X e (mS i))(hm:fH Γ i=true)(hκ:Γ.κ≠some i):PE X e (bV Φ Γ F fr (.mvr i)):=bz h λσ H Q q=>by obtain⟨o,ρ,S,er,q⟩:=q;unfold ev at q;rw[aa]at q;obtain⟨d,hd,q⟩:=oY q;obtain⟨v,h1,h2⟩:=er.val i d hd;rw[hm,Vl rfl]at h2;exact⟨v,h1,q v H ⟨ba.refl,h2.val (er.nd hd hκ) er.wa er.da,λz=>by simp[lk]at z,λ_=>h2.one (er.nd hd hκ),λz=>by simp[fresh]at z⟩ er⟩
theorem ja{Ek:Nat->Prop}{r:R Dt}{P:Dt->Prop}(dw:∀k,r≠ .ex k)(h:mR Ek r P):∃d,r= .ok d/\P d:=by
 cases r with
 |ok a=>exact⟨a,rfl,h⟩
 |ex k=>exact absurd rfl (dw k)
 |bad=>exact h.elim
theorem c9{b:Bool}{α:Type}{r:R α}(h:∀k,r≠ .ex k):∀k,ab b r≠ .ex k:=by
 intro k;cases b
 ·intro z;cases z
 ·exact h k
theorem FD(o:Operator)(d e:Dt):∀k,mM o d e≠ .ex k:=by intro k;unfold mM;split<;>first|(intro z;cases z;done)|(split<;>first|(intro z;cases z;done)|(exact c9 (λk z=>by cases z) k))
theorem uy(o:CmpOp)(d e:Dt):∀k,dg o d e≠ .ex k:=by intro k;unfold dg;split<;>first|(intro z;cases z;done)|(exact c9 (λk z=>by cases z) k)|(split<;>first|(intro z;cases z;done)|(exact c9 (λk z=>by cases z) k))
theorem sg(ds:List Dt)(i:Int):∀k,sf ds i≠ .ex k:=by intro k;unfold sf;split<;>(intro z;cases z)
theorem uQ(d e:Dt):∀k,cT d e≠ .ex k:=by
 intro k;unfold cT;split
 ·exact sg _ _ k
 ·exact sg _ _ k
 ·exact sg _ _ k
 ·intro z;cases z
theorem CH(d:Dt)(lo hi:Option Int):∀k,gj d lo hi≠ .ex k:=by intro k;unfold gj;split<;>first|(intro z;cases z;done)|(exact c9 (λk z=>by cases z) k)
theorem CO(d:Dt):∀k,dU d≠ .ex k:=by intro k;unfold dU;split<;>first|(intro z;cases z;done)|(exact c9 (λk z=>by cases z) k)
theorem jb{Ek:Nat->Prop}{r:R Bool}{P:Bool->Prop}(dw:∀k,r≠ .ex k)(h:mR Ek r P):∃d,r= .ok d/\P d:=by
 cases r with
 |ok a=>exact⟨a,rfl,h⟩
 |ex k=>exact absurd rfl (dw k)
 |bad=>exact h.elim
theorem td{op:Operator}{a b:C}:(lk (.bin op a b)=0\/lk (.bin op a b)=2)/\(lk (.bin op a b)<=1->lk a<=1/\lk b<=1):=by
 have e:lk (.bin op a b)=if lk a<=1/\lk b<=1 then 0 else 2:=by rw[lk]
 rw[e];split
 ·rename_i h;exact⟨.inl rfl,λ_=>h⟩
 ·exact⟨.inr rfl,λz=>by lia⟩
theorem JO{a b:Expr}{a' b':C}{op:Operator}{pos:Pos}(hK:Φ.K=X.K)(ha:PE X a (bV Φ Γ F fr a'))(hb:PE X b (bV Φ Γ F fr b')):PE X (.BinOp a op b pos) (bV Φ Γ F fr (.bin op a' b')):=bz (Jz (FF op) ha hb) λσ H Q q=>by
 obtain⟨o,ρ,S,er,q⟩:=q;unfold ev at q;rw[aa]at q;refine⟨o,ρ,S,er,ag q λp _ q x H1 bw aF=>?_⟩;rw[aa]at q;refine⟨o,ρ,p.2,aF,ag q λp2 _ q y H2 eo2 fk=>?_⟩;rw[aa]at q;obtain⟨z,hz,q⟩:=ja (FD _ _ _) q;obtain⟨k1,k2,k3⟩:=bw.keep eo2.ext er.iL;refine⟨p.1,p2.1,z,hK▸je k1,hK▸je eo2.val,hz,λv H3 pr=>?_⟩;rw[<-hK]at pr;obtain⟨e1,e2⟩:=EO.pr (fr:=fr) (H:=H) (c:=.bin op a' b') fk (bw.ext.trans eo2.ext) (aq.cons k1 (aq.cons eo2.val aq.nil)) (λl=>⟨k3 (td.2 l).1,eo2.tS (td.2 l).2,trivial⟩) td.1 pr λ_=>rfl
 exact q v H3 e1 e2
theorem JP{a b:Expr}{a' b':C}{op:CmpOp}{pos:Pos}(hK:Φ.K=X.K)(hu:X.A.units+150<cLine)(hm:behindInMarks op b=false)(ha:PE X a (bV Φ Γ F fr a'))(hb:PE X b (bV Φ Γ F fr b')):PE X (.Compare a [op] [b] pos) (bV Φ Γ F fr (.cmp op a' b')):=bz (Cg (zD op hu) ha hb hm) λσ H Q q=>by obtain⟨o,ρ,S,er,q⟩:=q;unfold ev at q;rw[aa]at q;refine⟨o,ρ,S,er,ag q λp _ q x H1 bw aF=>?_⟩;rw[aa]at q;refine⟨o,ρ,p.2,aF,ag q λp2 _ q y H2 eo2 fk=>?_⟩;rw[aa]at q;obtain⟨z,hz,q⟩:=jb (uy _ _ _) q;obtain⟨k1,k2,k3⟩:=bw.keep eo2.ext er.iL;refine⟨p.1,p2.1,z,hK▸je k1,hK▸je eo2.val,hz,q _ _ ?_ fk⟩;have:=EO.sc (Φ:=Φ) (fr:=fr) (o:=o) (H:=H2) (c:=.cmp op a' b') (d:=.bl z) rfl;exact this.wg (bw.ext.trans eo2.ext) λf=>by simp[fresh]at f
theorem Gi{a b:Expr}{a' b':C}{op:CmpOp}{pos:Pos}(hK:Φ.K=X.K)(hu:X.A.units+150<cLine)(hm:behindInMarks op b=false)(ha:PE X a (bV Φ Γ F fr a'))(hb:PE X b (bV Φ Γ F fr b')):PT X (.Compare a [op] [b] pos) (fL Φ Γ F (.cmp op a' b')):=tO (Cv (zD op hu) ha hb hm) λσ H Q q=>by obtain⟨o,ρ,S,er,q⟩:=q;unfold cN at q;rw[aa]at q;refine⟨o,ρ,S,er,ag q λp _ q x H1 bw aF=>?_⟩;rw[aa]at q;refine⟨o,ρ,p.2,aF,ag q λp2 _ q y H2 eo2 fk=>?_⟩;rw[aa]at q;obtain⟨z,hz,q⟩:=jb (uy _ _ _) q;obtain⟨k1,k2,k3⟩:=bw.keep eo2.ext er.iL;exact⟨p.1,p2.1,z,hK▸je k1,hK▸je eo2.val,hz,z,rfl,q _ (bw.ext.trans eo2.ext) fk⟩
end
section
variable{X:Cx}{Φ:Fm}{Γ:Gm}{F:FT}{fr:Nat->Bool}{g:G}
theorem aq.emp{K:Frag}{A:Addr->Prop}{H:Hp}{xs:List V}{ds:List Dt}(h:aq K A H xs ds):ds.isEmpty=xs.isEmpty:=by
 have:=h.length;cases xs with
 |nil=>cases ds with
  |nil=>rfl
  |cons=>simp at this
 |cons=>cases ds with
  |nil=>simp at this
  |cons=>rfl
theorem JU{a:Expr}{a':C}{pos:Pos}(ha:PE X a (bV Φ Γ F fr a')):PE X (.UnaryOp .USub a pos) (bV Φ Γ F fr (.neg a')):=bz (JB GJ ha) λσ H Q q=>by
 obtain⟨o,ρ,S,er,q⟩:=q;unfold ev at q;rw[aa]at q;refine⟨o,ρ,S,er,ag q λp _ q x H1 bw aF=>?_⟩;split at q
 ·rename_i i hi;have:=bw.val;rw[hi]at this;refine⟨i,this.int_inv,q _ _ ?_ aF⟩;exact(EO.sc (Φ:=Φ) (fr:=fr) (o:=o) (H:=H1) (c:=.neg a') (d:=.int (-i)) rfl).wg bw.ext λf=>by simp[fresh]at f
 ·exact q.elim
theorem NG{a:Expr}{a':C}{pos:Pos}(ha:PE X a (bV Φ Γ F fr a')):PE X (.UnaryOp .Not a pos) (bV Φ Γ F fr (.nt a')):=bz (FU ha) λσ H Q q=>by
 obtain⟨o,ρ,S,er,q⟩:=q;unfold ev at q;rw[aa]at q;refine⟨o,ρ,S,er,ag q λp _ q x H1 bw aF=>?_⟩;split at q
 ·rename_i i hi;have:=bw.val;rw[hi]at this;refine⟨i,this.ay,q _ _ ?_ aF⟩;exact(EO.sc (Φ:=Φ) (fr:=fr) (o:=o) (H:=H1) (c:=.nt a') (d:=.bl (!i)) rfl).wg bw.ext λf=>by simp[fresh]at f
 ·exact q.elim
theorem JW{a:Expr}{a':C}{pos:Pos}(ha:PT X a (fL Φ Γ F a')):PT X (.UnaryOp .Not a pos) (fL Φ Γ F (.nt a')):=tO (F6 ha) λσ H Q q=>by obtain⟨o,ρ,S,er,q⟩:=q;unfold cN at q;rw[aa]at q;exact⟨o,ρ,S,er,ag q λp _ q H1 e1 aF=>q _ e1 aF⟩
theorem JN{a b:Expr}{rest:List Expr}{a' b':C}{pos:Pos}(ha:PE X a (bV Φ Γ F fr a'))(hb:PE X (.BoolOp .And (b::rest) pos) (bV Φ Γ F fr b')):PE X (.BoolOp .And (a::b::rest) pos) (bV Φ Γ F fr (.and a' b')):=bz (FP ha hb) λσ H Q q=>by
 obtain⟨o,ρ,S,er,q⟩:=q;unfold ev at q;rw[aa]at q;refine⟨o,ρ,S,er,ag q λp _ q x H1 bw aF=>?_⟩;have sc:∀(H3:Hp)(t:Bool),ba o.d H H3->EO Φ.K fr o (.and a' b') H (.bl t) (.bl t) H3:=λH3 t e3=>
  (EO.sc (Φ:=Φ) (fr:=fr) (o:=o) (H:=H3) (c:=.and a' b') (d:=.bl t) rfl).wg e3 λf=>by simp[fresh]at f
 split at q
 ·rename_i hi;have:=bw.val;rw[hi]at this;refine⟨true,this.ay,?_⟩;rw[aa]at q;refine⟨o,ρ,p.2,aF,ag q λp2 _ q y H2 eo2 fk=>?_⟩;split at q
  ·rename_i c hc;have h2:=eo2.val;rw[hc]at h2;rw[h2.ay];exact q _ _ (sc H2 c (bw.ext.trans eo2.ext)) fk
  ·exact q.elim
 ·rename_i hi;have:=bw.val;rw[hi]at this;exact⟨false,this.ay,q _ _ (sc H1 false bw.ext) aF⟩
 ·exact q.elim
theorem NH{a b:Expr}{rest:List Expr}{a' b':C}{pos:Pos}(ha:PE X a (bV Φ Γ F fr a'))(hb:PE X (.BoolOp .Or (b::rest) pos) (bV Φ Γ F fr b')):PE X (.BoolOp .Or (a::b::rest) pos) (bV Φ Γ F fr (.or a' b')):=bz (JA ha hb) λσ H Q q=>by
 obtain⟨o,ρ,S,er,q⟩:=q;unfold ev at q;rw[aa]at q;refine⟨o,ρ,S,er,ag q λp _ q x H1 bw aF=>?_⟩;have sc:∀(H3:Hp)(t:Bool),ba o.d H H3->EO Φ.K fr o (.or a' b') H (.bl t) (.bl t) H3:=λH3 t e3=>
  (EO.sc (Φ:=Φ) (fr:=fr) (o:=o) (H:=H3) (c:=.or a' b') (d:=.bl t) rfl).wg e3 λf=>by simp[fresh]at f
 split at q
 ·rename_i hi;have:=bw.val;rw[hi]at this;refine⟨false,this.ay,?_⟩;rw[aa]at q;refine⟨o,ρ,p.2,aF,ag q λp2 _ q y H2 eo2 fk=>?_⟩;split at q
  ·rename_i c hc;have h2:=eo2.val;rw[hc]at h2;rw[h2.ay];exact q _ _ (sc H2 c (bw.ext.trans eo2.ext)) fk
  ·exact q.elim
 ·rename_i hi;have:=bw.val;rw[hi]at this;exact⟨true,this.ay,q _ _ (sc H1 true bw.ext) aF⟩
 ·exact q.elim
theorem Gh{a b:Expr}{rest:List Expr}{a' b':C}{pos:Pos}(ha:PT X a (fL Φ Γ F a'))(hb:PW X (.BoolOp .And (b::rest) pos) (fL Φ Γ F b')):PW X (.BoolOp .And (a::b::rest) pos) (fL Φ Γ F (.and a' b')):=zR (F7 ha hb) λσ H Q q=>by
 obtain⟨o,ρ,S,er,q⟩:=q;unfold cN at q;rw[aa]at q;refine⟨o,ρ,S,er,ag q λp _ q H1 e1 aF=>?_⟩;cases hp:p.1 with
 |true=>rw[hp]at q;rw[Vl rfl];exact⟨o,ρ,p.2,aF,ag q λp2 _ q H2 e2 fk=>q _ (e1.trans e2) fk⟩
 |false=>rw[hp]at q;rw[Vk (by simp)];exact q _ e1 aF
theorem JX{a b:Expr}{rest:List Expr}{a' b':C}{pos:Pos}(ha:PT X a (fL Φ Γ F a'))(hb:PW X (.BoolOp .Or (b::rest) pos) (fL Φ Γ F b')):PW X (.BoolOp .Or (a::b::rest) pos) (fL Φ Γ F (.or a' b')):=zR (JG ha hb) λσ H Q q=>by
 obtain⟨o,ρ,S,er,q⟩:=q;unfold cN at q;rw[aa]at q;refine⟨o,ρ,S,er,ag q λp _ q H1 e1 aF=>?_⟩;cases hp:p.1 with
 |false=>rw[hp]at q;rw[Vk (by simp)];exact⟨o,ρ,p.2,aF,ag q λp2 _ q H2 e2 fk=>q _ (e1.trans e2) fk⟩
 |true=>rw[hp]at q;rw[Vl rfl];exact q _ e1 aF
theorem zm{a b:C}:(lk (.idx a b)=0\/lk (.idx a b)=2)/\(lk (.idx a b)<=1->lk a<=1):=by
 have e:lk (.idx a b)=if lk a<=1 then 0 else 2:=by rw[lk]
 rw[e];split
 ·rename_i h;exact⟨.inl rfl,λ_=>h⟩
 ·exact⟨.inr rfl,λz=>by lia⟩
theorem JQ{a b:Expr}{a' b':C}{pos:Pos}(hK:Φ.K=X.K)(hs:kc b)(ha:PE X a (bV Φ Γ F fr a'))(hb:PE X b (bV Φ Γ F fr b')):PE X (.Subscript a b pos) (bV Φ Γ F fr (.idx a' b')):=bz (DB E9 ha hb hs) λσ H Q q=>by
 obtain⟨o,ρ,S,er,q⟩:=q;unfold ev at q;rw[aa]at q;refine⟨o,ρ,S,er,ag q λp _ q x H1 bw aF=>?_⟩;rw[aa]at q;refine⟨o,ρ,p.2,aF,ag q λp2 _ q y H2 eo2 fk=>?_⟩;rw[aa]at q;obtain⟨z,hz,q⟩:=ja (uQ _ _) q;obtain⟨k1,k2,k3⟩:=bw.keep eo2.ext er.iL;refine⟨p.1,p2.1,z,hK▸je k1,hK▸je eo2.val,hz,λv pr=>?_⟩;rw[<-hK]at pr;have PJ:∃i,p2.1= .int i:=by
  cases hd:p2.1 with
  |int i=>exact⟨i,rfl⟩
  |_=>rw[hd]at hz;unfold cT at hz;split at hz<;>first|(rename_i h;cases h;done)|(cases hz;done)|contradiction
 obtain⟨i,hi⟩:=PJ;have v2:∀A:Addr->Prop,fJ Φ.K A H2 y p2.1:=λA=>by have:=eo2.val;rw[hi]at this ⊢;rw[this.int_inv];exact(RV.cU (K:=Φ.K) (A:=A)).one
 obtain⟨e1,e2⟩:=EO.pr (fr:=fr) (H:=H) (c:=.idx a' b') fk (bw.ext.trans eo2.ext) (aq.cons k1 (aq.cons eo2.val aq.nil)) (λl=>⟨k3 (zm.2 l),v2 _,trivial⟩) zm.1 pr λz=>by simp[fresh]at z
 exact q v H2 e1 e2
theorem kI{a:Expr}{a':C}(hK:Φ.K=X.K)(ha:PE X a (bV Φ Γ F fr a'))(he:∀whole,isTrue a X.env whole=(do let v<-whole;standAt a.pos;holding [v] (truthy v)))
  (BF:∀ρ S,cN F a' ρ S=(ev F a' ρ S).bind λx=>(dU x.1).bind λb=>.ok (b,x.2)):PT X a (fL Φ Γ F a'):=tO (zQ ha he) λσ H Q q=>by
 obtain⟨o,ρ,S,er,q⟩:=q;rw[BF,aa]at q;refine⟨o,ρ,S,er,ag q λp _ q x H1 bw aF=>?_⟩;rw[aa]at q;obtain⟨b,hb,q⟩:=jb (CO _) q;refine⟨b,?_,q _ bw.ext aF⟩;have hv:=bw.val;rw[hK]at hv;unfold dU at hb;split at hb
 ·rename_i hd;rw[hd]at hv;cases hb;rw[hv.az];rfl
 ·rename_i hd;rw[hd]at hv;cases hb;rw[hv.ay];rfl
 ·rename_i hd;rw[hd]at hv;cases hb;rw[hv.int_inv];rfl
 ·rename_i hd;rw[hd]at hv;obtain⟨g1,hb⟩:=bq hb;cases hb;rw[hv.str_inv];exact⟨RK (RA g1) dJ,rfl⟩
 ·rename_i hd;rw[hd]at hv;cases hb;obtain⟨a,xs,rfl,h1,_,h2⟩:=hv.lst_inv;refine .inl ⟨xs,df.of h1,?_⟩;rw[h2.emp]
 ·rename_i hd;rw[hd]at hv;cases hb;obtain⟨a,xs,rfl,h1,h2⟩:=hv.ae;refine .inr (.inl ⟨xs,eC.of h1,?_⟩);rw[h2.emp]
 ·rename_i hd;rw[hd]at hv;cases hb;obtain⟨a,rfl,h1⟩:=hv.jL;refine .inl ⟨_,h1,?_⟩;simp
 ·cases hb
end
section
variable{X:Cx}{Φ:Fm}{Γ:Gm}{F:FT}{fr:Nat->Bool}{g:G}
theorem Fo{a b:C}{c:C}(hc:lk c=if lk a<=1 then 0 else 2):(lk c=0\/lk c=2)/\(lk c<=1->lk a<=1):=by
 rw[hc];split
 ·rename_i h;exact⟨.inl rfl,λ_=>h⟩
 ·exact⟨.inr rfl,λz=>by lia⟩
theorem uG{o:Ow}{ρ:ah}{S:Sx}{σ:L2.St}{H H1 H2:Hp}{a' c:C}{d:Dt}{x:V}{lo hi:Option Int}{Q:VK}(hK:Φ.K=X.K)(hc:lk c=if lk a'<=1 then 0 else 2)(hf:fresh fr c=true->True)(er:ER Φ Γ o ρ S σ H2)(bw:EO Φ.K fr o a' H d x H1)(e:ba o.d H1 H2)
  (q:mR Φ.Ek (gj d lo hi) λz=>∀v H3,EO Φ.K fr o c H z v H3->ER Φ Γ o ρ S σ H3->Q v H3):rS X.K x lo hi H2 Q:=by
 obtain⟨z,hz,q⟩:=ja (CH _ _ _) q;obtain⟨k1,k2,k3⟩:=bw.keep e er.iL;refine⟨d,z,hK▸je k1,hz,λv H3 pr=>?_⟩;rw[<-hK]at pr;have hl:=Fo (b:=c) hc;obtain⟨e1,e2⟩:=EO.pr (fr:=fr) (H:=H) (c:=c) er (bw.ext.trans e) (aq.cons k1 aq.nil) (λl=>⟨k3 (hl.2 l),trivial⟩) hl.1 pr λ_=>rfl
 exact q v H3 e1 e2
theorem Gp{a l:Expr}{a' l':C}{p2 pos:Pos}(hK:Φ.K=X.K)(ha:PE X a (bV Φ Γ F fr a'))(hl:PE X l (bV Φ Γ F fr l')):PE X (.Subscript a (.Slice (some l) none none p2) pos) (bV Φ Γ F fr (.sliL a' l')):=bz (qX Af ha (vm hl) vk) λσ H Q q=>by
 obtain⟨o,ρ,S,er,q⟩:=q;unfold ev at q;rw[aa]at q;refine⟨o,ρ,S,er,ag q λp _ q x H1 bw aF=>?_⟩;rw[aa]at q;refine⟨o,ρ,p.2,aF,ag q λp2 _ q y H2 eo2 fk=>?_⟩;split at q
 ·rename_i i hi;have hv:=eo2.val;rw[hi]at hv;refine⟨i,hv.int_inv,?_⟩;rw[aa]at q;exact uG hK (by rw[lk]) (λ_=>trivial) fk bw eo2.ext (ag q λz _ q v H3 e1 e2=>q v H3 e1 e2)
 ·exact q.elim
theorem Gn{a l:Expr}{a' l':C}{p2 pos:Pos}(hK:Φ.K=X.K)(ha:PE X a (bV Φ Γ F fr a'))(hl:PE X l (bV Φ Γ F fr l')):PE X (.Subscript a (.Slice none (some l) none p2) pos) (bV Φ Γ F fr (.sliH a' l')):=bz (qX Af ha vk (vm hl)) λσ H Q q=>by
 obtain⟨o,ρ,S,er,q⟩:=q;unfold ev at q;rw[aa]at q;refine⟨o,ρ,S,er,ag q λp _ q x H1 bw aF=>?_⟩;rw[aa]at q;refine⟨o,ρ,p.2,aF,ag q λp2 _ q y H2 eo2 fk=>?_⟩;split at q
 ·rename_i i hi;have hv:=eo2.val;rw[hi]at hv;refine⟨i,hv.int_inv,?_⟩;rw[aa]at q;exact uG hK (by rw[lk]) (λ_=>trivial) fk bw eo2.ext (ag q λz _ q v H3 e1 e2=>q v H3 e1 e2)
 ·exact q.elim
theorem JV:PA X [] (mT Φ Γ F .nil):=zG gd λσ H Q q=>by obtain⟨o,ρ,S,er,q⟩:=q;exact q _ _ ⟨ba.refl,aq.nil,λ_=>aq.nil,λ_=>trivial⟩ er
theorem Gj{e:Expr}{es:List Expr}{c:C}{cs:Cs}(hs:starEach (e::es) X.env=(false,eval e X.env)::starEach es X.env)(h:PE X e (bV Φ Γ F fr c))(hr:PA X es (mT Φ Γ F cs)):PA X (e::es) (mT Φ Γ F (.cons c cs)):=zG (cH h hr hs) λσ H Q q=>by
 obtain⟨o,ρ,S,er,q⟩:=q;unfold gS at q;rw[aa]at q;refine⟨o,ρ,S,er,ag q λp _ q x H1 bw aF=>?_⟩;rw[aa]at q;refine⟨o,ρ,p.2,aF,ag q λp2 _ q xs H2 eo2 fk=>?_⟩;obtain⟨k1,k2,k3⟩:=bw.keep eo2.ext er.iL;have el:qK (.cons c cs)=max (lk c) (qK cs):=by rw[qK]
 exact q _ _ ⟨bw.ext.trans eo2.ext,aq.cons k1 eo2.val,λl=>aq.cons (k2 ⋯) (eo2.dz ⋯),λl=>⟨k3 ⋯,eo2.tS ⋯⟩⟩ fk
theorem Dr{cs:Cs}{c:C}(hc:lk c=if qK cs=0 then 0 else 2):(lk c<=1->lk c=0)/\(lk c=0->qK cs=0):=by
 rw[hc];split
 ·rename_i h;exact⟨λ_=>rfl,λ_=>h⟩
 ·exact⟨λz=>by lia,λz=>by lia⟩
theorem J0{es:List Expr}{cs:Cs}{x1:Nat}{pos:Pos}(h:PA X es (mT Φ Γ F cs)):PE X (.Tuple es x1 pos) (bV Φ Γ F fr (.tup cs)):=bz (FY h) λσ H Q q=>by
 obtain⟨o,ρ,S,er,q⟩:=q;unfold ev at q;rw[aa]at q;refine⟨o,ρ,S,er,ag q λp _ q xs H1 bw aF=>?_⟩;obtain⟨g1,q⟩:=aN q;refine⟨by rw[bw.val.length];exact RK (RA g1) dJ,λa ha=>?_⟩;have s:=Mx.b9 ha (.tup xs);have hl:=Dr (cs:=cs) (c:=.tup cs) (by rw[lk]);have q0:lk (.tup cs)=0->RV Φ.K o.A (upd H1 a (.tup xs)) (.ref a) (.tup p.1):=λl=>RV.d9 aM ((bw.dz (hl.2 l)).same s)
 exact q _ _ ⟨bw.ext.trans (ba.of_same s),RV.d9 aM (bw.val.same s),q0,λl=>(q0 (hl.1 l)).one,λz=>by simp[fresh]at z⟩ (aF.grow s)
theorem JS{es:List Expr}{cs:Cs}{pos:Pos}(h:PA X es (mT Φ Γ F cs)):PE X (.List es pos) (bV Φ Γ F fr (.lst cs)):=bz (tE h) λσ H Q q=>by
 obtain⟨o,ρ,S,er,q⟩:=q;unfold ev at q;rw[aa]at q;refine⟨o,ρ,S,er,ag q λp _ q xs H1 bw aF=>?_⟩;obtain⟨g1,q⟩:=aN q;refine⟨by rw[bw.val.length];exact RK (RA g1) dJ,λa ha=>?_⟩;have s:=Mx.b9 ha (.lst xs);have hl:=Dr (cs:=cs) (c:=.lst cs) (by rw[lk]);have na:¬o.A a:=λz=>by obtain⟨y,hy⟩:=aF.al a z;rw[ha]at hy;cases hy
 have q0:lk (.lst cs)=0->RV Φ.K o.A (upd H1 a (.lst xs)) (.ref a) (.lst p.1):=λl=>RV.d8 aM na ((bw.dz (hl.2 l)).same s)
 refine q _ _ ⟨bw.ext.trans (ba.of_same s),RV.d8 aM (λz=>na (aF.iL a z)) (bw.val.same s),q0,λl=>(q0 (hl.1 l)).one,λ_ ds e=>?_⟩ (aF.grow s);cases e;exact⟨a,xs,rfl,aF.eR bw.ext ha,aM,(bw.val.avoid ha).same s,λl=>((bw.dz (hl.2 l)).avoid ha).same s⟩
theorem Ed(b:BI)(ds:List Dt):∀k,eD b ds≠ .ex k:=by
 intro k;unfold eD;split<;>split
 all_goals first
  |(intro z;cases z;done)
  |(exact c9 (λk z=>by cases z) k)
  |(split<;>first|(intro z;cases z;done)|(exact c9 (λk z=>by cases z) k)|(split<;>first|(intro z;cases z;done)|(exact c9 (λk z=>by cases z) k)))
  |(rename_i T d;unfold wz;split<;>(intro z;cases z))
theorem Ds{b:BI}{cs:Cs}:(lk (.bi b cs)=0\/lk (.bi b cs)=2)/\(lk (.bi b cs)<=1->qK cs<=1):=by
 have e:lk (.bi b cs)=if qK cs<=1 then 0 else 2:=by rw[lk]
 rw[e];split
 ·rename_i h;exact⟨.inl rfl,λ_=>h⟩
 ·exact⟨.inr rfl,λz=>by lia⟩
theorem yu{b:BI}{cs:Cs}{σ:L2.St}{H:Hp}{Q:VK}(hK:Φ.K=X.K)(q:bV Φ Γ F fr (.bi b cs) σ H Q):NR (rP X.K true (eD b)) (mT Φ Γ F cs) σ H Q:=by
 obtain⟨o,ρ,S,er,q⟩:=q;unfold ev at q;rw[aa]at q;refine⟨o,ρ,S,er,ag q λp _ q xs H1 bw aF=>?_⟩;rw[aa]at q;obtain⟨z,hz,q⟩:=ja (Ed _ _) q;refine⟨p.1,z,hK▸Fy bw.val,hz,λv H3 pr=>?_⟩;rw[<-hK]at pr;obtain⟨e1,e2⟩:=EO.pr (fr:=fr) (H:=H) (c:=.bi b cs) aF bw.ext bw.val (λl=>bw.tS (Ds.2 l)) Ds.1 pr λ_=>rfl
 exact q v H3 e1 e2
end
noncomputable def Cs.len:Cs->Nat
 |.nil=>0
 |.cons _ cs=>cs.len+1
theorem uE{F:FT}:∀{cs:Cs}{ρ:ah}{S:Sx}{p:List Dt×Sx},gS F cs ρ S= .ok p->p.1.length=cs.len
 |.nil,ρ,S,p,h=>by unfold gS at h;cases h;rfl
 |.cons c cs,ρ,S,p,h=>by
  unfold gS at h;cases h1:ev F c ρ S with
  |ok x=>
   rw[h1]at h;simp only[R.af]at h;cases h2:gS F cs ρ x.2 with
   |ok y=>rw[h2]at h;cases h;simp[Cs.len,uE h2]
   |ex k=>rw[h2]at h;cases h
   |bad=>rw[h2]at h;cases h
  |ex k=>rw[h1]at h;cases h
  |bad=>rw[h1]at h;cases h
section
variable{X:Cx}{Φ:Fm}{Γ:Gm}{F:FT}{g:G}{xv:Nat->Value}{CX:kP}{k:Nat}
theorem qp{H H':Hp}(e:ba (λb=>(none:Option Addr)=some b) H H'):bO H H':=λb o h=>e.kp b o h (by simp)
theorem tP{K:Frag}{A:Addr->Prop}{H:Hp}:∀{ds:List Dt},ds.all pY=true->aq K A H (ds.map rW) ds
 |[],_=>aq.nil
 |d::ds,h=>by rw[Tq,Ry]at h;exact aq.cons (rg h.1) (tP h.2)
theorem s_call{x:Str}{f np j:Nat}{fT:List Dt}{e:Expr}{es:List Expr}{cs:Cs}{p pos:Pos}(hX:HX g xv CX k F Φ X)(hG:Gl X x)(BE:(x==("__debug__":Str))=false)(yQ:sN x g.fns=some (f,np,fT,false))(hj:j<=fT.length)(hn:cs.len+(fT.drop j).length=np)
  (hs:starEach (e::es) X.env=(false,eval e X.env)::starEach es X.env) (rV:(backTo pos (starEach es X.env)).any (·.1)=false) (ha:PA X (e::es) (mT Φ Γ F cs)):PE X (.Call (.Name x p) (e::es) [] pos) (bV Φ Γ F g.fr (.call f cs (fT.drop j))):=by
 obtain⟨n,fx⟩:=hX.fx;obtain⟨fa,fd,ps,Ro,hmg,Qi,hok,hb,Qx⟩:=fx.fn x f np fT false yQ;obtain⟨wc,jX,P8⟩:=hb j hj;refine bz (Cf hok hX.room hG hmg Qi P8 jX hX.pass ha BE hs rV) λσ H Q q=>?_
 obtain⟨o,ρ,S,er,q⟩:=q;unfold ev at q;rw[aa]at q;refine⟨o,ρ,S,er,ag q λp hp q vs H1 bw aF=>?_⟩;have ON:(fT.drop j).all pY=true:=Sh.mpr λd hd=>Sh.mp Qx d (List.mem_of_mem_drop hd)
 rw[aa]at q;have el:lk (.call f cs (fT.drop j))=if qK cs=0 then 0 else 2:=by rw[lk]
 refine⟨?_,?_⟩
 ·rw[RQ,bw.val.length,RI,uE hp];exact hn
 by_cases hl:qK cs=0
 ·rw[Vl hl]at el;refine⟨o.A,none,p.1++fT.drop j,none,vs++(fT.drop j).map rW,⟨rfl,rfl,rfl⟩,?_,aF.al,?_⟩
  ·rw[<-hX.K];exact(bw.dz hl).append (tP ON)
  ·cases hr:F f (p.1++fT.drop j) none with
   |ok y=>rw[hr]at q;intro v H' fo;rw[<-hX.K]at fo;have sm:=qp fo.ext;refine q v H' ⟨bw.ext.trans (ba.of_same sm),fo.val.weak aF.iL,λ_=>fo.val,λ_=>fo.val.one,λfc ds ed=>?_⟩ (aF.grow sm);obtain⟨a,xs,h1,h2,h3,h4⟩:=fo.j7 fc ds ed;exact⟨a,xs,h1,aF.eR bw.ext h2,h3,h4.weak λb z=>z.elim (λz=>.inl (aF.iL b z)) .inr,λ_=>h4⟩
   |ex kk=>rw[hr]at q;intro H' e';exact⟨kk,rfl,q,aF.ent.trans (e'.mono λb z=>by cases z)⟩
   |bad=>rw[hr]at q;exact q.elim
 ·rw[Vk hl]at el;refine⟨o.wd,none,p.1++fT.drop j,none,vs++(fT.drop j).map rW,⟨rfl,rfl,rfl⟩,?_,aF.ua,?_⟩
  ·rw[<-hX.K];exact bw.val.append (tP ON)
  ·cases hr:F f (p.1++fT.drop j) none with
   |ok y=>rw[hr]at q;intro v H' fo;rw[<-hX.K]at fo;have sm:=qp fo.ext;refine q v H' ⟨bw.ext.trans (ba.of_same sm),fo.val,λz=>by rw[el]at z;lia,λz=>by rw[el]at z;lia,λfc ds ed=>?_⟩ (aF.grow sm);obtain⟨a,xs,h1,h2,h3,h4⟩:=fo.j7 fc ds ed;exact⟨a,xs,h1,aF.eR bw.ext h2,h3,h4,λz=>by rw[el]at z;lia⟩
   |ex kk=>rw[hr]at q;intro H' e';exact⟨kk,rfl,q,aF.ent.trans (e'.mono λb z=>by cases z)⟩
   |bad=>rw[hr]at q;exact q.elim
theorem Bp{t:Str}{T:String}(h:tX t=some T):bootBuiltins t=some (.type T):=by
 unfold tX at h;split at h
 ·rename_i e;cases h;rw[R3 e];exact PyProof.Rows.boot_str
 split at h
 ·rename_i e;cases h;rw[R3 e];exact PyProof.Rows.boot_int
 split at h
 ·rename_i e;cases h;rw[R3 e];exact PyProof.Rows.boot_bool
 split at h
 ·rename_i e;cases h;rw[R3 e];exact PyProof.Rows.boot_list
 split at h
 ·rename_i e;cases h;rw[R3 e];exact PyProof.Rows.boot_tuple
 ·cases h
theorem CQ{t:Str}{T:String}(h:tX t=some T):T="str"\/T="int"\/T="bool"\/T="list"\/T="tuple":=by
 unfold tX at h;split at h
 ·cases h;simp
 split at h
 ·cases h;simp
 split at h
 ·cases h;simp
 split at h
 ·cases h;simp
 split at h
 ·cases h;simp
 ·cases h
theorem E8{K:Frag}{A:Addr->Prop}{H:Hp}{x:V}{d:Dt}{T:String}{b:Bool}(hT:T="str"\/T="int"\/T="bool"\/T="list"\/T="tuple")(hx:RV K A H x d)(h:wz T d= .ok b):∃t,iS K H x t/\PySem.W.kitOne K t (.type T)=some b:=by
 unfold wz at h;split at h
 ·cases h;rw[hx.str_inv];refine⟨_,.str _,?_⟩;rcases hT with rfl|rfl|rfl|rfl|rfl<;>rfl
 ·cases h;rw[hx.int_inv];refine⟨_,.int _,?_⟩;rcases hT with rfl|rfl|rfl|rfl|rfl<;>rfl
 ·cases h;rw[hx.ay];refine⟨_,.bl _,?_⟩;rcases hT with rfl|rfl|rfl|rfl|rfl<;>rfl
 ·cases h;obtain⟨a,xs,rfl,h1,_⟩:=hx.lst_inv;refine⟨_,.lst h1,?_⟩;rcases hT with rfl|rfl|rfl|rfl|rfl<;>rfl
 ·cases h;obtain⟨a,xs,rfl,h1,_⟩:=hx.ae;refine⟨_,.tup h1,?_⟩;rcases hT with rfl|rfl|rfl|rfl|rfl<;>rfl
 ·cases h;rw[hx.az];refine⟨_,.aW,?_⟩;rcases hT with rfl|rfl|rfl|rfl|rfl<;>rfl
 ·cases h
theorem BQ(T:String)(d:Dt):∀k,wz T d≠ .ex k:=by intro k;unfold wz;split<;>(intro z;cases z)
theorem JR{a:Expr}{a':C}{t:Str}{T:String}{p tp pos:Pos}(hK:Φ.K=X.K)(hG:Gl X "isinstance")(hm:X.mg "isinstance"=none)(PY:Gl X t)(Qm:X.mg t=none)(hT:tX t=some T)(hn:t≠"__name__")(BE:(t==("__debug__":Str))=false)
  (hs:starEach (a::[.Name t tp]) X.env=(false,eval a X.env)::starEach [.Name t tp] X.env) (ha:PE X a (bV Φ Γ F g.fr a')):PE X (.Call (.Name "isinstance" p) [a,.Name t tp] [] pos) (bV Φ Γ F g.fr (.bi (.isi T) (.cons a' .nil))):=by
 refine bz (qV Mx.xY hG hm PyProof.Rows.boot_isinstance (cH ha (cH (Ce (v:=.ty T) PY Qm (Bp hT) rfl hn BE) gd) hs) (by decide) (by decide) hs) λσ H Q q=>?_
 obtain⟨o,ρ,S,er,q⟩:=q;unfold ev gS gS at q;rw[aa,aa]at q;refine⟨o,ρ,S,er,ag q λp hp q x H1 bw aF=>?_⟩;simp only[R.af]at q;have q:mR Φ.Ek ((eD (.isi T) [p.1]).bind λd=>R.ok (d,p.2)) _:=q;unfold eD at q;simp only at q;rw[aa,aa]at q;obtain⟨b,hb,q⟩:=jb (BQ _ _) q;obtain⟨ty,k1,k2⟩:=E8 (CQ hT) (hK▸bw.val) hb;refine⟨x,T,ty,b,rfl,k1,k2,q _ _ ?_ aF⟩;exact(EO.sc (Φ:=Φ) (fr:=g.fr) (o:=o) (H:=H1) (c:=.bi (.isi T) (.cons a' .nil)) (d:=.bl b) rfl).wg bw.ext λf=>by simp[fresh]at f
end
noncomputable def MU(K:Frag)(tl:TE):TI:=λσ H R=>tl σ H λx H1=>(∃a xs,x= .ref a/\df K H1 a xs/\R (Kz K a) H1)\/(∃a xs,x= .ref a/\eC K H1 a xs/\R (Ls K a) H1)
theorem F2{X:Cx}{tg l:Expr}{tl:TE}(hl:PE X l tl):PI X tg l (MU X.K tl):=by
 intro pins s σ H R I h;refine bY (hl pins s σ H _ I h) λv s1⟨x,H1,I1,r1,q1⟩=>?_
 rcases q1 with ⟨a,xs,e,hq,q⟩|⟨a,xs,e,hq,q⟩
 ·subst e;cases r1;obtain⟨its,rv,p,hz⟩:=I1.list hq;refine VF p.isList ?_;refine⟨s1.heap.objs.size,[s1.heap.objs.size],_,_,H1,rfl,I1.kept (t':=s1.toks) λb o e=>Rv _ e,xf a _,⟨_,RG _ rfl,rfl,rfl⟩,λb hb=>?_,q⟩;have e:b=s1.heap.objs.size:=by simpa using hb
  subst e;exact I1.yA (RE _) (I1.hok.fresh (RE _))
 ·subst e;cases r1;obtain⟨its,rv,p,hz⟩:=I1.tuple hq;refine VG (show s1.heap.IsTuple a its.toArray from p) ?_;refine⟨s1.heap.objs.size,[s1.heap.objs.size],_,_,H1,rfl,I1.kept (t':=s1.toks) λb o e=>Rv _ e,tW a _,⟨_,RG _ rfl,rfl,rfl⟩,λb hb=>?_,q⟩;have e:b=s1.heap.objs.size:=by simpa using hb
  subst e;exact I1.yA (RE _) (I1.hok.fresh (RE _))
section
variable{X:Cx}{Φ:Fm}{Γ:Gm}{F:FT}{g:G}{xv:Nat->Value}{CX:kP}{k:Nat}{K:Frag}
theorem vT{A Y:Addr->Prop}{a:Addr}{xs:List V}{ds:List Dt}{H:Hp}(ha:H a=some (.lst xs))(hn:¬Y a)(hY:∀b,Y b->A b)(h:aq K A H xs ds):Wk K A Y (Kz K a) H ds where
 go:=λi H1 hi e=>⟨xs,xs[i]'(by rw[h.length];exact hi),df.of (e.kp _ _ ha hn),by simp⟩
 stop:=λH1 e=>⟨xs,df.of (e.kp _ _ ha hn),by rw[h.length];exact RE _⟩
 yld:=λi x H1 H2 hi e y=>by obtain⟨rfl,y⟩:=y;obtain⟨d,h1,h2⟩:=h.get (y xs (df.of (e.kp _ _ ha hn)));exact⟨bO.refl _,d,h1,λB hB=>(h2.cm (B:=λb=>A b\/B b) λb z=>z.elim .inl (hB b)).mono e (λb z=>.inl (hY b z)) λ_ z=>.inr z⟩
theorem t7{A Y:Addr->Prop}{a:Addr}{xs:List V}{ds:List Dt}{H:Hp}(ha:H a=some (.tup xs))(hY:∀b,Y b->A b)(h:aq K A H xs ds):Wk K A Y (Ls K a) H ds where
 go:=λi H1 hi e=>⟨xs,xs[i]'(by rw[h.length];exact hi),eC.of (e.tp _ _ ha),by simp⟩
 stop:=λH1 e=>⟨xs,eC.of (e.tp _ _ ha),by rw[h.length];exact RE _⟩
 yld:=λi x H1 H2 hi e y=>by obtain⟨rfl,y⟩:=y;obtain⟨d,h1,h2⟩:=h.get (y xs (eC.of (e.tp _ _ ha)));exact⟨bO.refl _,d,h1,λB hB=>(h2.cm (B:=λb=>A b\/B b) λb z=>z.elim .inl (hB b)).mono e (λb z=>.inl (hY b z)) λ_ z=>.inr z⟩
theorem AC{A Y:Addr->Prop}{a:Addr}{ns:List Int}{H:Hp}(ha:(Rd H a (.lst (ns.map V.int))/\¬Y a)\/KL K a (ns.map V.int)):Wk K A Y (Kz K a) H (ns.map Dt.int):=by
 have sq:∀H1,ba Y H H1->df K H1 a (ns.map V.int):=λH1 e=>by
  rcases ha with ⟨h,n⟩|h
  ·exact .inl (zU e n h)
  ·exact .inr h
 refine⟨λi H1 hi e=>?_,λH1 e=>⟨_,sq H1 e,by simp⟩,λi x H1 H2 hi e y=>?_⟩
 ·rw[RI]at hi;exact⟨_,.int ns[i],sq H1 e,by simp[hi]⟩
 ·obtain⟨rfl,y⟩:=y;have:=y _ (sq _ e);rw[RW]at this;obtain⟨m,h1,rfl⟩:=RP.mp this;exact⟨bO.refl _,.int m,by simp[h1],λ_ _=>RV.cU⟩
theorem t6{A Y:Addr->Prop}{lo:Int}{n:Nat}{H:Hp}:Wk K A Y (KA lo n) H (bh lo n) where
 go:=λi H1 hi e=>by unfold bh at hi;simp at hi;exact hi
 stop:=λH1 e=>by unfold bh;simp only[RI,T7];exact RE _
 yld:=λi x H1 H2 hi e y=>by obtain⟨rfl,rfl⟩:=y;unfold bh at hi;simp at hi;exact⟨bO.refl _,.int (lo+i),by unfold bh;simp[hi],λ_ _=>RV.cU⟩
theorem zY{tg a:Expr}{a':C}(hK:Φ.K=X.K)(ha:PE X a (bV Φ Γ F g.fr a')):PI X tg a (pR Φ Γ F (.seq a')):=tF (F2 ha) λσ H Q q=>by
 obtain⟨o,ρ,S,er,q⟩:=q;unfold d7 at q;rw[aa]at q;refine⟨o,ρ,S,er,ag q λp he q x H1 bw aF=>?_⟩;have AY:sZ (.seq a')=lk a':=rfl;cases hd:p.1 with
 |lst ds=>
  rw[hd]at q;have hv:=bw.val;have h0:=bw.dz;have h1:=bw.tS;rw[hd]at hv h0 h1;obtain⟨b,xs,rfl,f1,fn,f2⟩:=hv.lst_inv;refine .inl ⟨b,xs,rfl,df.of f1,q _ _ ⟨bw.ext,λl=>?_,λl=>?_,λl=>by unfold mH at l;rw[he]at l;simp only[hd,nV]at l;cases l⟩ aF⟩
  ·rw[<-hK];exact vT f1 (λz=>fn (.inr z)) aF.da (fJ.aP (h1 (by rw[AY]at l;exact l)) f1)
  ·rw[<-hK];have:=h0 (by rw[AY]at l;exact l);obtain⟨b',xx,e',g1,gn,g2⟩:=this.lst_inv;cases e';exact vT g1 gn (λ_ z=>z) g2
 |tup ds=>
  rw[hd]at q;have hv:=bw.val;have h0:=bw.dz;have h1:=bw.tS;rw[hd]at hv h0 h1;obtain⟨b,xs,rfl,f1,f2⟩:=hv.ae;refine .inr ⟨b,xs,rfl,eC.of f1,q _ _ ⟨bw.ext,λl=>?_,λl=>?_,λl=>?_⟩ aF⟩
  ·rw[<-hK];exact t7 f1 aF.da (fJ.au (h1 (by rw[AY]at l;exact l)) f1)
  ·rw[<-hK];exact t7 f1 (λ_ z=>z) (fJ.au (h0 (by rw[AY]at l;exact l)).one f1)
  ·rw[<-hK];unfold mH at l;rw[he]at l;simp only[hd]at l;exact t7 f1 (λ_ z=>z) (fJ.au (hv.nV l:RV Φ.K o.A H1 (.ref b) (.tup ds)).one f1)
 |dC ns=>
  rw[hd]at q;have hv:=bw.val;have h0:=bw.dz;rw[hd]at hv h0;obtain⟨b,rfl,hb⟩:=hv.d4;have Qz:df X.K H1 b (ns.map V.int):=by
   rw[<-hK];rcases hb with hb|hb
   ·exact .inl hb.1
   ·exact .inr hb
  refine .inl ⟨b,_,rfl,Qz,q _ _ ⟨bw.ext,λl=>?_,λl=>?_,λl=>by unfold mH at l;rw[he]at l;simp only[hd,nV]at l;cases l⟩ aF⟩
  ·rw[<-hK];exact AC (hb.imp (λz=>⟨z.1,λw=>z.2 (.inr w)⟩) id)
  ·rw[<-hK];obtain⟨b',e',jW⟩:=(h0 (by rw[AY]at l;exact l)).d4;cases e';exact AC jW
 |_=>rw[hd]at q;exact q.elim
theorem Gk{tg a:Expr}{a':C}{p pos:Pos}(hG:Gl X "range")(hm:X.mg "range"=none)(hs:starEach [a] X.env=[(false,eval a X.env)])(ha:PE X a (bV Φ Γ F g.fr a')):PI X tg (.Call (.Name "range" p) [a] [] pos) (pR Φ Γ F (.rng1 a')):=
 tF (wN hG hm (cH ha gd (by rw[hs];rfl)) hs) λσ H Q q=>by
 obtain⟨o,ρ,S,er,q⟩:=q;unfold d7 at q;rw[aa]at q;refine⟨o,ρ,S,er,ag q λp _ q x H1 bw aF=>?_⟩;cases hd:p.1 with
 |int j=>rw[hd]at q;obtain⟨g1,q⟩:=aN q;rw[Ry]at g1;have a1:=RA g1.1;have a2:=RA g1.2;have hl:lim=1000000:=rfl;have hv:=bw.val;rw[hd]at hv;exact⟨j,by rw[hv.int_inv],by lia,by lia,q _ _ ⟨bw.ext,λ_=>t6,λ_=>t6,λ_=>t6⟩ aF⟩
 |_=>rw[hd]at q;exact q.elim
theorem AD{A Y:Addr->Prop}{b1 b2:Bool}{l1 l2:Addr}{xs ys:List V}{ds es:List Dt}{H:Hp}(h1:H l1=some (Mx.rT b1 xs))(h2:H l2=some (Mx.rT b2 ys))(n1:b1=false->¬Y l1)(n2:b2=false->¬Y l2)(hY:∀b,Y b->A b)(g1:aq K A H xs ds)(g2:aq K A H ys es):Wk K A Y (Mx.Lr b1 b2 l1 l2) H (dq ds es):=by
 have k1:∀H1,ba Y H H1->H1 l1=some (Mx.rT b1 xs):=λH1 e=>by
  cases b1 with
  |false=>exact e.kp _ _ h1 (n1 rfl)
  |true=>exact e.tp _ _ h1
 have k2:∀H1,ba Y H H1->H1 l2=some (Mx.rT b2 ys):=λH1 e=>by
  cases b2 with
  |false=>exact e.kp _ _ h2 (n2 rfl)
  |true=>exact e.tp _ _ h2
 have hz:(dq ds es).length=min xs.length ys.length:=by unfold dq;rw[List.length_zipWith,g1.length,g2.length]
 refine⟨λi H1 hi e=>?_,λH1 e=>?_,λi x H1 H2 hi e y=>?_⟩
 ·rw[hz]at hi;exact⟨xs,ys,xs[i]'⋯,ys[i]'⋯,k1 H1 e,k2 H1 e,by simp,by simp⟩
 ·exact⟨xs,ys,k1 H1 e,k2 H1 e,by lia⟩
 ·obtain⟨p,x1,y1,rfl,hp,rfl,q⟩:=y;obtain⟨q1,q2⟩:=q xs ys (k1 H1 e) (k2 H1 e);obtain⟨d,a1,a2⟩:=g1.get q1;obtain⟨c,c1,c2⟩:=g2.get q2;have s:=Mx.b9 hp (.tup [x1,y1]);refine⟨s,.tup [d,c],by unfold dq;rw[List.getElem?_zipWith,a1,c1],λB hB=>RV.d9 aM ?_⟩;have av:∀{v:V}{dd:Dt},RV K A H v dd->RV K B (upd H1 p (.tup [x1,y1])) v dd:=λh=>((h.cm (B:=λb=>A b\/B b) λb z=>z.elim .inl (hB b)).mono e (λb z=>.inl (hY b z)) λ_ z=>.inr z).same s
  exact aq.cons (av a2) (aq.cons (av c2) aq.nil)
theorem eX{A B:Addr->Prop}{H:Hp}{x:V}{d:Dt}{ds:List Dt}(h:dc d=some ds)(hv:RV K A H x d)(h1:fJ K B H x d):∃b l xs,x= .ref l/\H l=some (Mx.rT b xs)/\(b=false->¬A l)/\aq K B H xs ds:=by
 unfold dc at h;split at h
 ·cases h;obtain⟨a,xs,rfl,f1,fn,f2⟩:=hv.lst_inv;exact⟨false,a,xs,rfl,f1,λ_=>fn,fJ.aP h1 f1⟩
 ·cases h;obtain⟨a,xs,rfl,f1,f2⟩:=hv.ae;exact⟨true,a,xs,rfl,f1,λz=>(by cases z),fJ.au h1 f1⟩
 ·cases h
theorem J3{es:List Expr}{kk:Nat}{tp:Pos}{a b:Expr}{a' b':C}{p pos:Pos}(hK:Φ.K=X.K)(hG:Gl X "zip")(hm:X.mg "zip"=none)(hs:starEach [a,b] X.env=[(false,eval a X.env),(false,eval b X.env)])(Hd:starEach [b] X.env=[(false,eval b X.env)])(ha:PE X a (bV Φ Γ F g.fr a'))(hb:PE X b (bV Φ Γ F g.fr b')):
  PI X (.Tuple es kk tp) (.Call (.Name "zip" p) [a,b] [] pos) (pR Φ Γ F (.zip a' b')):=
 tF (Mx.Cn hG hm (cH ha (cH hb gd (by rw[Hd];rfl)) (by rw[hs,Hd])) hs Hd) λσ H Q q=>by
 obtain⟨o,ρ,S,er,q⟩:=q;unfold d7 at q;rw[aa]at q;refine⟨o,ρ,S,er,ag q λp _ q x H1 bw aF=>?_⟩;rw[aa]at q;refine⟨o,ρ,p.2,aF,ag q λp2 _ q y H2 eo2 fk=>?_⟩;have AY:sZ (.zip a' b')=max (lk a') (lk b'):=rfl;split at q
 ·rename_i ds es e1 e2;obtain⟨k1,k2,k3⟩:=bw.keep eo2.ext er.iL;obtain⟨c1,l1,xs,rfl,f1,Pz,f2⟩:=eX e1 k1 k1.one;obtain⟨c2,l2,ys,rfl,g1,PD,g2⟩:=eX e2 eo2.val eo2.val.one;refine⟨c1,c2,l1,l2,xs,ys,rfl,f1,g1,q _ _ ⟨bw.ext.trans eo2.ext,λl=>?_,λl=>?_,λl=>by unfold mH at l;cases l⟩ fk⟩
  ·rw[AY]at l;obtain⟨HB,QJ,xx,e',EC,_,L5⟩:=eX e1 k1 (k3 ⋯);obtain⟨HC,QK,Li,G3,EG,_,L8⟩:=eX e2 eo2.val (eo2.tS ⋯);cases e';cases G3;have i1:c1=HB/\xs=xx:=by rw[f1]at EC;cases c1<;>cases HB<;>first|(cases EC;exact⟨rfl,rfl⟩)|cases EC
   have i2:c2=HC/\ys=Li:=by rw[g1]at EG;cases c2<;>cases HC<;>first|(cases EG;exact⟨rfl,rfl⟩)|cases EG
   obtain⟨rfl,rfl⟩:=i1;obtain⟨rfl,rfl⟩:=i2;exact AD f1 g1 (λz w=>Pz z (.inr w)) (λz w=>PD z (.inr w)) fk.da L5 L8
  ·rw[AY]at l;obtain⟨HB,QJ,xx,e',EC,Jk,L5⟩:=eX e1 (k2 ⋯) (k2 ⋯).one;obtain⟨HC,QK,Li,G3,EG,Fz,L8⟩:=eX e2 (eo2.dz ⋯) (eo2.dz ⋯).one;cases e';cases G3;have i1:c1=HB/\xs=xx:=by rw[f1]at EC;cases c1<;>cases HB<;>first|(cases EC;exact⟨rfl,rfl⟩)|cases EC
   have i2:c2=HC/\ys=Li:=by rw[g1]at EG;cases c2<;>cases HC<;>first|(cases EG;exact⟨rfl,rfl⟩)|cases EG
   obtain⟨rfl,rfl⟩:=i1;obtain⟨rfl,rfl⟩:=i2;exact AD f1 g1 Jk Fz (λ_ z=>z) L5 L8
 ·exact q.elim
end
noncomputable def rE:List Nat->vV
 |[]=>EH
 |i::is=>yD (eM i) (rE is)
noncomputable def DM(K:Frag):Tg->TG
 |.nm i=>eM i
 |.tp is=>EI K is.length (rE is)
section
variable{X:Cx}{Φ:Fm}{Γ:Gm}{F:FT}{g:G}{xv:Nat->Value}{CX:kP}{k:Nat}{K:Frag}
theorem jt{x:Str}{i:Nat}(h:hV Γ x=some i):zo (Γ.names.lookup x)=true/\fB x=true/\Γ.N[i]?=some x:=by
 unfold hV at h;split at h
 ·rename_i c;rw[Ry]at c;exact⟨c.1,c.2,pe h⟩
 ·cases h
theorem vC{x:Str}{i:Nat}(h:slot Γ x=some i):AA (Γ.names.lookup x)=true/\fB x=true/\Γ.N[i]?=some x:=by
 unfold slot at h;split at h
 ·rename_i c;rw[Ry]at c;exact⟨c.1,c.2,pe h⟩
 ·cases h
theorem jk{e:Expr}{i:Nat}(h:qU Γ e=some i):∃x p,e= .Name x p/\hV Γ x=some i/\plainS Γ i=true:=by
 unfold qU at h;split at h
 ·rename_i x p;obtain⟨j,h1,h2⟩:=Rt.mp h;split at h2
  ·cases h2;exact⟨x,p,rfl,h1,by assumption⟩
  ·cases h2
 ·cases h
theorem DG{e:Expr}{i:Nat}(gx:GX g Γ X)(h:qU Γ e=some i):PG X e (eM i):=by obtain⟨x,p,rfl,h1,_⟩:=jk h;obtain⟨a,b,c⟩:=jt h1;obtain⟨l1,l2⟩:=gx.loc x a;exact Cj (gx.N▸gx.nd) (by rw[gx.N];exact c) l1 l2
theorem zZ(gx:GX g Γ X):∀{es:List Expr}{is:List Nat},fZ Γ es=some is->GZ X es (rE is)/\es.length=is.length/\∀e∈es,∃x p,e= .Name x p
 |[],is,h=>by cases h;exact⟨Cm,rfl,λe z=>by cases z⟩
 |e::es,is,h=>by
  unfold fZ at h;obtain⟨i,h1,h2⟩:=Rt.mp h;obtain⟨js,h3,rfl⟩:=RP.mp h2;obtain⟨k1,k2,k3⟩:=zZ gx h3;obtain⟨x,p,ex,_⟩:=jk h1;refine⟨zL (DG gx h1) k1 (by subst ex;rfl),by simp[k2],λe' z=>?_⟩;rcases RL.mp z with rfl|z
  ·exact⟨x,p,ex⟩
  ·exact k3 e' z
theorem iE{env:Env}:∀{es:List Expr},(∀e∈es,∃x p,e=Expr.Name x p)->(assignEach es env).length=es.length/\(assignEach es env).findIdx? (·.1)=none
 |[],_=>⟨rfl,rfl⟩
 |e::es,h=>by
  obtain⟨x,p,rfl⟩:=h e RF;obtain⟨h1,h2⟩:=iE (es:=es) (env:=env) λe' z=>h e' (RC _ z)
  have q:assignEach (Expr.Name x p::es) env=(false,assign (.Name x p) env)::assignEach es env:=rfl;rw[q];refine⟨by simp[h1],?_⟩;rw[List.findIdx?_cons];simp[h2]
theorem tQ{e:Expr}{t:Tg}(gx:GX g Γ X)(h:qh Γ e=some t):PG X e (DM X.K t):=by
 unfold qh at h;split at h
 ·obtain⟨i,h1,rfl⟩:=RP.mp h;exact DG gx h1
 ·obtain⟨is,h1,rfl⟩:=RP.mp h;obtain⟨k1,k2,k3⟩:=zZ gx h1;obtain⟨n1,n2⟩:=iE (env:=X.env) k3;exact zK gx.calm k1 (by rw[n1,k2]) n2
 ·cases h
theorem eZ{e:Expr}{t:Tg}(h:qh Γ e=some t):∀i∈aY t,plainS Γ i=true/\∃x,hV Γ x=some i:=by
 have many:∀{es:List Expr}{is:List Nat},fZ Γ es=some is->∀i∈is,plainS Γ i=true/\∃x,hV Γ x=some i:=by
  intro es
  induction es with
  |nil=>intro is h i hi;cases h;cases hi
  |cons e es ih=>
   intro is h i hi;unfold fZ at h;obtain⟨j,h1,h2⟩:=Rt.mp h;obtain⟨js,h3,rfl⟩:=RP.mp h2;rcases RL.mp hi with rfl|hi
   ·obtain⟨x,p,_,k1,k2⟩:=jk h1;exact⟨k2,x,k1⟩
   ·exact ih h3 i hi
 unfold qh at h;split at h
 ·obtain⟨j,h1,rfl⟩:=RP.mp h;intro i hi;have:i=j:=by simpa [aY]using hi
  subst this;obtain⟨x,p,_,k1,k2⟩:=jk h1;exact⟨k2,x,k1⟩
 ·obtain⟨is,h1,rfl⟩:=RP.mp h;exact many h1
 ·cases h
theorem jl{i:Nat}(h:plainS Γ i=true):fH Γ i=false/\Γ.δ≠some i:=by unfold plainS at h;rw[Ry]at h;refine⟨by simpa using h.1,λe=>?_⟩;rw[e]at h;simp at h
theorem ER.set{o:Ow}{ρ:ah}{S:Sx}{σ:L2.St}{H:Hp}{i:Nat}{v:V}{d:Dt}(er:ER Φ Γ o ρ S σ H)(hp:plainS Γ i=true)(h:RV Φ.K o.A H v d):ER Φ Γ o (ρ.set i (some d)) S (σ.set i (some v)) H where
 len:=by rw[Ua,Ua];exact er.len
 wa:=er.wa
 da:=er.da
 al:=er.al
 val:=λj e he=>by
  by_cases hj:j=i
  ·subst hj;rw[TY]at he;simp only[Vm]at he;split at he
   ·rename_i cO;cases he;refine⟨v,by rw[Su (by rw[er.len];exact cO)],?_⟩;rw[(jl hp).1,Vk (by simp)];exact h
   ·cases he
  ·rw[RT (U2 hj)]at he;obtain⟨w,h1,h2⟩:=er.val j e he;exact⟨w,by rw[RT (U2 hj)];exact h1,h2⟩
 inj:=λa b c e f ha hb h1 h2 h3 h4=>by
  have na:a≠i:=λz=>by rw[z,(jl hp).1]at ha;cases ha
  have nb:b≠i:=λz=>by rw[z,(jl hp).1]at hb;cases hb
  rw[RT (U2 na)]at h1 h3;rw[RT (U2 nb)]at h2 h4;exact er.inj a b c e f ha hb h1 h2 h3 h4
 dk:=Dk.set er.dk h.nd
 drw:=er.drw
 drn:=er.drn
 drs:=λj a hj ha=>by rw[RT (λz=>(jl hp).2 (by rw[z];exact hj))];exact er.drs j a hj ha
 dr0:=er.dr0
 ent:=er.ent
theorem kL{o:Ow}{S:Sx}{H:Hp}{Q:L2.St->Hp->Prop}:∀{is:List Nat}{ds:List Dt}{xs:List V}{ρ ρ1:ah}{σ:L2.St},ER Φ Γ o ρ S σ H->(∀i∈is,plainS Γ i=true)->aq Φ.K o.A H xs ds->hU is ds ρ= .ok ρ1->(∀σ1,ER Φ Γ o ρ1 S σ1 H->(∀k,k∉is->σ1[k]?=σ[k]?/\ρ1[k]?=ρ[k]?)->Q σ1 H)->rE is xs σ H Q/\xs.length=is.length
 |[],ds,xs,ρ,ρ1,σ,er,_,hx,h,q=>by
  cases ds with
  |nil=>cases h;rw[hx.nil_inv];exact⟨⟨rfl,q σ er λ_ _=>⟨rfl,rfl⟩⟩,rfl⟩
  |cons=>cases h
 |i::is,ds,xs,ρ,ρ1,σ,er,hp,hx,h,q=>by
  cases ds with
  |nil=>cases h
  |cons d ds=>
   obtain⟨x,r,rfl,h1,h2⟩:=hx.cons_inv;obtain⟨k1,k2⟩:=kL (er.set (hp i RF) h1) (λj hj=>hp j (RC _ hj)) h2 h λσ1 aF hk=>q σ1 aF λk AX=>by
    have n1:k≠i:=λz=>AX (by rw[z];exact RF)
    obtain⟨a1,a2⟩:=hk k λz=>AX (RC _ z)
    rw[RT (U2 n1)]at a1 a2;exact⟨a1,a2⟩
   exact⟨⟨x,r,rfl,k1⟩,by simp[k2]⟩
theorem Aq{o:Ow}{S:Sx}{H:Hp}{Q:L2.St->Hp->Prop}{t:Tg}{d:Dt}{x:V}{ρ ρ1:ah}{σ:L2.St}(er:ER Φ Γ o ρ S σ H)(hp:∀i∈aY t,plainS Γ i=true)(hx:RV Φ.K o.A H x d)(h:d5 t d ρ= .ok ρ1)(q:∀σ1,ER Φ Γ o ρ1 S σ1 H->(∀k,k∉aY t->σ1[k]?=σ[k]?/\ρ1[k]?=ρ[k]?)->Q σ1 H):DM Φ.K t x σ H Q:=by
 cases t with
 |nm i=>
  cases h;exact q _ (er.set (hp i (by simp[aY])) hx) λk hk=>by
   have n1:k≠i:=λz=>hk (by simp[aY,z])
   rw[RT (U2 n1),RT (U2 n1)];exact⟨rfl,rfl⟩
 |tp is=>
  unfold d5 at h;cases d with
  |tup ds=>obtain⟨a,xs,rfl,h1,h2⟩:=hx.ae;obtain⟨k1,k2⟩:=kL er hp h2 h q;exact⟨a,xs,rfl,eC.of h1,k2,k1⟩
  |_=>cases h
theorem jr:∀(is:List Nat)(ds:List Dt)(ρ:ah)(k:Nat),hU is ds ρ≠ .ex k
 |[],[],_,_=>λz=>by cases z
 |[],_::_,_,_=>λz=>by cases z
 |_::_,[],_,_=>λz=>by cases z
 |_::is,_::ds,ρ,k=>jr is ds _ k
theorem rm(t:Tg)(d:Dt)(ρ:ah):∀k,d5 t d ρ≠ .ex k:=by
 intro k;cases t with
 |nm i=>intro z;cases z
 |tp is=>
  cases d with
  |tup ds=>exact jr is ds ρ k
  |_=>intro z;cases z
theorem Ae(is:List Nat)(d:Dt)(ρ:ah):∀k,Ad is d ρ≠ .ex k:=by
 intro k;cases d with
 |tup ds=>exact jr is ds ρ k
 |lst ds=>exact jr is ds ρ k
 |_=>intro z;cases z
theorem CM{o:Ow}{S:Sx}{H:Hp}{Q:L2.St->Hp->Prop}{is:List Nat}{d:Dt}{x:V}{ρ ρ1:ah}{σ:L2.St}(er:ER Φ Γ o ρ S σ H)(hp:∀i∈is,plainS Γ i=true)(hx:RV Φ.K o.A H x d)(h:Ad is d ρ= .ok ρ1)(q:∀σ1,ER Φ Γ o ρ1 S σ1 H->(∀k,k∉is->σ1[k]?=σ[k]?/\ρ1[k]?=ρ[k]?)->Q σ1 H):Mx.uJ Φ.K is.length (rE is) x σ H Q:=by
 cases d with
 |tup ds=>obtain⟨a,xs,rfl,h1,h2⟩:=hx.ae;obtain⟨k1,k2⟩:=kL er hp h2 h q;exact⟨a,xs,rfl,.inl (eC.of h1),k2,k1⟩
 |lst ds=>obtain⟨a,xs,rfl,h1,_,h2⟩:=hx.lst_inv;obtain⟨k1,k2⟩:=kL er hp h2 h q;exact⟨a,xs,rfl,.inr (df.of h1),k2,k1⟩
 |_=>cases h
theorem JZ{es:List Expr}{is:List Nat}{kk:Nat}{tp:Pos}(gx:GX g Γ X)(h:fZ Γ es=some is):PG X (.Tuple es kk tp) (Mx.uJ X.K is.length (rE is)):=by obtain⟨k1,k2,k3⟩:=zZ gx h;obtain⟨n1,n2⟩:=iE (env:=X.env) k3;exact Mx.Ck gx.calm k1 (by rw[n1,k2]) n2
theorem lM{Ek:Nat->Prop}{α:Type}{r:R α}{P:α->Prop}(dw:∀k,r≠ .ex k)(h:mR Ek r P):∃d,r= .ok d/\P d:=by
 cases r with
 |ok a=>exact⟨a,rfl,h⟩
 |ex k=>exact absurd rfl (dw k)
 |bad=>exact h.elim
theorem sD{sc:Scope}(gx:GX g Γ X)(hk:sc.kind= .function)(hb:xU sc.names Γ.names (a8 Γ sc).1.N Γ.N (a8 Γ sc).2=true):fI X sc (a8 Γ sc).1.N (a8 Γ sc).2:=by
 unfold xU at hb;rw[Ry,Ry]at hb;obtain⟨⟨h1,h2⟩,h3⟩:=hb;rw[Sh]at h1 h3;refine⟨hk,λy hy=>?_,λy hy e=>?_,λj i hj=>?_,by simpa using h2⟩
 ·have:=h1 y hy;rw[Ry]at this;exact R3 this.1
 ·have:=h1 y hy;rw[Ry,e]at this;have h:=this.2;simp at h;exact gx.fre y.1 h
 ·have cO:j<(a8 Γ sc).2.length:=(RB.mp hj).1;have:=h3 j (Sv.mpr cO);rw[hj]at this;simp only at this;cases hx:(a8 Γ sc).1.N[j]? with
  |none=>rw[hx]at this;cases this
  |some x=>rw[hx]at this;simp only[Ry]at this;exact⟨x,rfl,by rw[gx.N];exact R3 this.1,R3 this.2⟩
theorem fv{sc:Scope}{C:Addr}{s:Shared}{H:Hp}{fp:List Addr}{xe:Value->Shared->Prop}(gx:GX g Γ X)(B:fI X sc (a8 Γ sc).1.N (a8 Γ sc).2)(jY:(a8 Γ sc).1.N.Nodup):GX g (a8 Γ sc).1 (gR X sc (a8 Γ sc).1.N C s H fp xe) where
 N:=rfl
 nd:=jY
 vis:=λx h=>by
  have hn:(a8 Γ sc).1.names=sc.names:=rfl;rw[hn]at h;cases hl:sc.names.lookup x with
  |none=>rw[hl]at h;cases h
  |some kk=>
   have q:=aZ (env:=X.env) hl;have q':(gR X sc (a8 Γ sc).1.N C s H fp xe).env.scope.names.lookup x=_:=q;by_cases hc:(kk==NameKind.free&&X.env.scope.kind== .function&&X.env.kindOf x==some .cell)=true
   ·rw[Vl hc]at q';exact .inr (.inl q')
   ·rw[Vk hc]at q';rw[hl]at h;cases kk with
    |«local»=>exact .inl q'
    |cell=>exact .inr (.inl q')
    |free=>exact .inr (.inr q')
    |globalExplicit=>cases h
    |globalImplicit=>cases h
 loc:=λx h=>by
  have hn:(a8 Γ sc).1.names=sc.names:=rfl;rw[hn]at h;cases hl:sc.names.lookup x with
  |none=>rw[hl]at h;cases h
  |some kk=>
   have q:=aZ (env:=X.env) hl;have q':(gR X sc (a8 Γ sc).1.N C s H fp xe).env.scope.names.lookup x=_:=q;rw[hl]at h;cases kk with
   |«local»=>rw[Vk (by simp)]at q';exact⟨.inl q',.inr q'⟩
   |cell=>rw[Vk (by simp)]at q';exact⟨.inr q',.inl (by show (sc.names.lookup x==some .cell)=true;rw[hl];rfl)⟩
   |free=>cases h
   |globalExplicit=>cases h
   |globalImplicit=>cases h
 gl:=λx h=>by
  have hn:(a8 Γ sc).1.names=sc.names:=rfl;rw[hn]at h;cases hl:sc.names.lookup x with
  |none=>rw[hl]at h;cases h
  |some kk=>
   have q:=aZ (env:=X.env) hl;have q':(gR X sc (a8 Γ sc).1.N C s H fp xe).env.scope.names.lookup x=_:=q;rw[hl]at h;cases kk with
   |globalImplicit=>rw[Vk (by simp)]at q';exact q'
   |«local»=>cases h
   |cell=>cases h
   |free=>cases h
   |globalExplicit=>cases h
 fre:=λx h=>by
  have hn:(a8 Γ sc).1.names=sc.names:=rfl;rw[hn]at h;rcases h with hl|hl
  ·have q:=aZ (env:=X.env) hl;have q':(gR X sc (a8 Γ sc).1.N C s H fp xe).env.scope.names.lookup x=_:=q;rw[Vk (by simp)]at q';exact .inl q'
  ·have q:=aZ (env:=X.env) hl;have q':(gR X sc (a8 Γ sc).1.N C s H fp xe).env.scope.names.lookup x=_:=q;by_cases hc:(NameKind.free==NameKind.free&&X.env.scope.kind== .function&&X.env.kindOf x==some .cell)=true
   ·rw[Vl hc]at q';exact .inl q'
   ·rw[Vk hc]at q';exact .inr q'
 calm:=gx.calm
 un:=gx.un
 con:=gx.con
 bl:=gx.bl
end
theorem join_some{α:Type}{o:Option (Option α)}{a:α}(h:o.join=some a):o=some (some a):=by
 cases o with
 |none=>cases h
 |some x=>cases x with
  |none=>cases h
  |some y=>simp at h;rw[h]
theorem fQ{cap:List (Option Nat)}{ρ:ah}{j:Nat}{d:Dt}(h:(j6 cap ρ)[j]?=some (some d)):∃i,cap[j]?=some (some i)/\ρ[i]?=some (some d):=by
 unfold j6 at h;rw[RW]at h;cases hc:cap[j]? with
 |none=>rw[hc]at h;cases h
 |some o=>
  rw[hc]at h;cases o with
  |none=>cases h
  |some i=>refine⟨i,rfl,join_some ?_⟩;simpa using h
theorem eE{cap:List (Option Nat)}{σ:L2.St}{i j:Nat}{v:V}(hc:cap[j]?=some (some i))(h:σ[i]?=some (some v)):(c8 cap σ)[j]?=some (some v):=by unfold c8;rw[RW,hc];simp[h]
theorem uW{δ:Option Nat}:∀{cap:List (Option Nat)}{j:Nat},A2 δ cap=some j->∃i,δ=some i/\cap[j]?=some (some i)
 |[],j,h=>by simp[A2]at h
 |o::r,j,h=>by
  unfold A2 at h;split at h
  ·rename_i c;rw[Ry]at c;cases h;cases δ with
   |none=>simp at c
   |some i=>exact⟨i,rfl,by simp[R3 c.2]⟩
  ·obtain⟨k,h1,rfl⟩:=RP.mp h;obtain⟨i,h2,h3⟩:=uW h1;exact⟨i,h2,by simpa using h3⟩
section
variable{X:Cx}{Φ:Fm}{Γ:Gm}{F:FT}{g:G}{xv:Nat->Value}{CX:kP}{k:Nat}{K:Frag}
noncomputable def Ow.plus(o:Ow)(D:Addr):Ow:=⟨o.W,λb=>o.A b\/b=D,o.dr⟩
theorem kv{sc:Scope}{i j:Nat}(hc:(a8 Γ sc).2[j]?=some (some i)):fH (a8 Γ sc).1 j=fH Γ i:=by have e:(a8 Γ sc).1.M=Ei (a8 Γ sc).2 Γ.M:=rfl;unfold fH;rw[e];unfold Ei;rw[RW,hc];simp
theorem qG{i:Nat}:∀{cap:List (Option Nat)}{j:Nat},cap[j]?=some (some i)->∃j',A2 (some i) cap=some j'/\cap[j']?=some (some i)
 |[],j,h=>by cases h
 |o::r,j,h=>by
  unfold A2;by_cases e:o=some i
  ·refine⟨0,?_,by rw[e];rfl⟩;rw[e];simp
  ·rw[Vk (by simp[e])];cases j with
   |zero=>cases h;exact absurd rfl e
   |succ j=>obtain⟨j',h1,h2⟩:=qG (cap:=r) (j:=j) h;exact⟨j'+1,by rw[h1];rfl,h2⟩
theorem ER.a8{sc:Scope}{o:Ow}{ρ:ah}{S:Sx}{σ:L2.St}{H:Hp}{D:Addr}(er:ER Φ Γ o ρ S σ H)(B:fI X sc (a8 Γ sc).1.N (a8 Γ sc).2)(jY:(Rx.a8 Γ sc).1.N.Nodup)(hD:H D=none):
  ER Φ (Rx.a8 Γ sc).1 (o.plus D) (j6 (Rx.a8 Γ sc).2 ρ) S (c8 (Rx.a8 Γ sc).2 σ) (upd H D (.lst [])):=by
 have s:=Mx.b9 hD (.lst []);have av:∀b,(o.A b\/b=D)->o.A b\/H b=none:=λb z=>z.elim .inl λe=>.inr (by rw[e];exact hD)
 refine⟨?_,λa h=>.inl (er.wa a h),λa h=>.inl (er.da a h),λa h=>?_,λj d h=>?_,λj ks vs h=>?_,λj j' a d e hm hm' h1 h2 h3 h4=>?_,λa h=>?_,er.drn,λj a hj ha=>?_,er.dr0,er.ent.trans (ba.of_same s)⟩
 ·unfold c8 j6;rw[RI,RI]
 ·rcases h with h|h
  ·obtain⟨x,hx⟩:=er.al a h;exact⟨x,s _ _ hx⟩
  ·subst h;exact⟨_,aM⟩
 ·obtain⟨i,hc,hr⟩:=fQ h;obtain⟨v,h1,h2⟩:=er.val i d hr;refine⟨v,eE hc h1,?_⟩;rw[kv hc];by_cases hm:fH Γ i=true
  ·rw[Vl hm]at h2 ⊢;cases d with
   |lst ds=>obtain⟨a,xs,e1,e2,e3,e4,e5,e6,e7⟩:=h2;exact⟨a,xs,e1,s _ _ e2,.inl e3,e4,e5,e6,(e7.cm av).same s⟩
   |gA=>exact h2.elim
   |_=>exact RV.same (RV.cm av h2) s
  ·rw[Vk hm]at h2 ⊢;exact(h2.cm av).same s
 ·obtain⟨i,hc,hr⟩:=fQ h;have hk:=er.dk i ks vs hr;obtain⟨j',k1,k2⟩:=qG hc;obtain⟨x,n1,n2,_⟩:=B.v9 j i hc;obtain⟨x',Jk,Fz,_⟩:=B.v9 j' i k2;rw[n2]at Fz;cases Fz;show A2 Γ.κ (Rx.a8 Γ sc).2=some j;rw[hk,k1,jf jY n1 Jk]
 ·obtain⟨i,hc,hr⟩:=fQ h1;obtain⟨i',oZ,iM⟩:=fQ h2;rw[kv hc]at hm;rw[kv oZ]at hm';obtain⟨v,k1,_⟩:=er.val i _ hr;obtain⟨v',OP,_⟩:=er.val i' _ iM;rw[eE hc k1]at h3;rw[eE oZ OP]at h4;cases h3;cases h4;have:=er.inj i i' a d e hm hm' hr iM k1 OP;subst this;obtain⟨x,n1,n2,_⟩:=B.v9 j i hc;obtain⟨x',Jk,Fz,_⟩:=B.v9 j' i oZ;rw[n2]at Fz;cases Fz;exact jf jY n1 Jk
 ·obtain⟨ns,e1,e2⟩:=er.drw a h;exact⟨ns,e1,s _ _ e2⟩
 ·obtain⟨i,h1,h2⟩:=uW (show A2 Γ.δ (Rx.a8 Γ sc).2=some j from hj);exact eE h2 (er.drs i a h1 ha)
theorem yb{sc:Scope}{x:Str}{i:Nat}(B:fI X sc (a8 Γ sc).1.N (a8 Γ sc).2)(h:hV (a8 Γ sc).1 x=some i):(a8 Γ sc).2[i]?=some none:=by
 obtain⟨a,b,c⟩:=jt h;have cO:i<(a8 Γ sc).2.length:=by rw[B.len];exact(RB.mp c).1
 cases hc:(a8 Γ sc).2[i]? with
 |none=>rw[List.getElem?_eq_none_iff]at hc;lia
 |some o=>
  cases o with
  |none=>rfl
  |some j=>obtain⟨y,n1,_,n3⟩:=B.v9 i j hc;rw[c]at n1;cases n1;have hn:(a8 Γ sc).1.names=sc.names:=rfl;rw[hn,n3]at a;cases a
theorem sF{cap:List (Option Nat)}{σ:L2.St}{i:Nat}(h:cap[i]?=some none):(c8 cap σ)[i]?=some none:=by unfold c8;rw[RW,h];rfl
theorem lz{σ0:L2.St}{t:Tg}{K:Frag}(h:∀i∈aY t,σ0[i]?=some none):GL σ0 (DM K t):=by
 have many:∀{is:List Nat},(∀i∈is,σ0[i]?=some none)->Hn σ0 (rE is):=by
  intro is
  induction is with
  |nil=>intro _;exact Bz
  |cons i is ih=>intro hs;exact yJ (hs i RF) (ih λj hj=>hs j (RC _ hj))
 cases t with
 |nm i=>exact By (h i (by simp[aY]))
 |tp is=>exact EK (many h)
theorem pU{sc:Scope}{e:Expr}{t:Tg}{σ:L2.St}(B:fI X sc (a8 Γ sc).1.N (a8 Γ sc).2)(h:qh (a8 Γ sc).1 e=some t):∀i∈aY t,(c8 (a8 Γ sc).2 σ)[i]?=some none:=λi hi=>by obtain⟨_,x,hx⟩:=eZ h i hi;exact sF (yb B hx)
noncomputable def DY(Γ:Gm)(ρ:ah)(σ:L2.St)(D:Addr):Prop:=∀(j:Nat)(d:List Dt),fH Γ j=true->ρ[j]?=some (some (.lst d))->σ[j]?≠some (some (.ref D))
theorem vS{H:Hp}{D:Addr}{acc gO:List V}(hD:H D=some (.lst acc)):ba (λb=>b=D) H (upd H D (.lst gO)):=⟨λb o h n=>by rw[aJ n];exact h,Mx.mq hD⟩
theorem ER.emit{o:Ow}{ρ:ah}{S:Sx}{σ:L2.St}{H:Hp}{D:Addr}{acc gO:List V}(er:ER Φ Γ o ρ S σ H)(hD:H D=some (.lst acc))(hn:DY Γ ρ σ D)(oD:o.A D)(nd:o.dr≠some D)(h0:∀x,Φ.H0 D=some x->Φ.d0=some D):ER Φ Γ o ρ S σ (upd H D (.lst gO)):=by
 have up:ba (λb=>b=D) H (upd H D (.lst gO)):=vS hD;have uA:∀b,b=D->o.A b:=λb z=>by rw[z];exact oD
 refine⟨er.len,er.wa,er.da,λa ha=>?_,λj dd h=>?_,er.dk,er.inj,λa ha=>?_,er.drn,er.drs,er.dr0,?_⟩
 ·obtain⟨x,hx⟩:=er.al a ha;exact up.al hx λz=>⟨_,by rw[z];exact aM⟩
 ·obtain⟨w,h1,h2⟩:=er.val j dd h;refine⟨w,h1,?_⟩;by_cases hm:fH Γ j=true
  ·rw[Vl hm]at h2 ⊢;cases dd with
   |lst ds=>
    obtain⟨a,xs,e1,e2,e3,e4,e5,e6,e7⟩:=h2;have aD:a≠D:=λz=>hn j ds hm h (by rw[h1,e1,z])
    exact⟨a,xs,e1,up.kp _ _ e2 aD,e3,e4,e5,e6,e7.mono up uA λ_ z=>z⟩
   |gA=>exact h2.elim
   |_=>exact RV.mono up uA (λ_ z=>z) h2
  ·rw[Vk hm]at h2 ⊢;exact h2.mono up uA λ_ z=>z
 ·obtain⟨ns,e1,e2⟩:=er.drw a ha;exact⟨ns,e1,up.kp _ _ e2 (λz=>nd (by rw[<-z];exact ha))⟩
 ·refine⟨λb x h n=>up.kp _ _ (er.ent.kp b x h n) λz=>?_,λb xs h=>up.tp _ _ (er.ent.tp b xs h)⟩;subst z;exact n (h0 x h)
theorem Wk.less{A Y Y':Addr->Prop}{J:It}{H:Hp}{ds:List Dt}(w:Wk K A Y J H ds)(h:∀b,Y' b->Y b):Wk K A Y' J H ds:=⟨λi H1 hi e=>w.go i H1 hi (e.mono h),λH1 e=>w.stop H1 (e.mono h),λi x H1 H2 hi e y=>w.yld i x H1 H2 hi (e.mono h) y⟩
theorem IO.Pa{Φ:Fm}{Γ:Gm}{o:Ow}{ρ:ah}{S:Sx}{σ:L2.St}{it:mX}{nl:Bool}{H H1:Hp}{ds:List Dt}{J:It}(io:IO Φ.K o it nl H ds J H1)(er:ER Φ Γ o ρ S σ H1)(h:(decide (sZ it<=1)||nl)=true):Wk Φ.K o.A o.d J H1 ds:=by
 rcases SN.mp h with h|h
 ·exact io.w1 (RA h)
 ·exact(io.w2 h).less er.da
theorem Wk.plus{A Y:Addr->Prop}{J:It}{H:Hp}{ds:List Dt}{D:Addr}(w:Wk K A Y J H ds)(hD:H D=none):Wk K (λb=>A b\/b=D) (λb=>Y b\/b=D) J (upd H D (.lst [])) ds:=by
 have ex:∀H1,ba (λb=>Y b\/b=D) (upd H D (.lst [])) H1->ba Y H H1:=λH1 e=>⟨λb o h n=>by
   have nb:b≠D:=λz=>by rw[z,hD]at h;cases h
   exact e.kp b o (by rw[aJ nb];exact h) λz=>z.elim n nb,λb xs h=>by
   have nb:b≠D:=λz=>by rw[z,hD]at h;cases h
   exact e.tp b xs (by rw[aJ nb];exact h)⟩
 refine⟨λi H1 hi e=>w.go i H1 hi (ex H1 e),λH1 e=>w.stop H1 (ex H1 e),λi x H1 H2 hi e y=>?_⟩;obtain⟨s,d,hd,hv⟩:=w.yld i x H1 H2 hi (ex H1 e) y;refine⟨s,d,hd,λB hB=>hv B λb hb=>?_⟩;rcases hB b hb with (z|z)|z
 ·exact .inl z
 ·exact .inr (by rw[z];exact hD)
 ·by_cases nb:b=D
  ·exact .inr (by rw[nb];exact hD)
  ·rw[aJ nb]at z;exact .inr z
structure A7(Φ:Fm)(Γ:Gm)(o:Ow)(D:Addr)(ρ:ah)(σ:L2.St)(S:Sx)(acc:List V)(es:List Dt)(H:Hp):Prop where
 at':H D=some (.lst acc)
 rv:aq Φ.K o.A H acc es
 er:ER Φ Γ o ρ S σ H
structure Ky(Φ:Fm)(o:Ow)(D:Addr):Prop where
 oD:o.A D
 nd:o.dr≠some D
 h0:∀x,Φ.H0 D=some x->Φ.d0=some D
noncomputable def Yd(o:Ow)(D:Addr):Addr->Prop:=λb=>o.d b\/b=D
theorem ER.back{o:Ow}{ρ ρ':ah}{S S':Sx}{σ σ':L2.St}{H H':Hp}{D:Addr}(fx:Ky Φ o D)(hn:DY Γ ρ σ D)(er:ER Φ Γ o ρ S σ H)(Ey:ER Φ Γ o ρ' S' σ' H')(e:ba (Yd o D) H H')(Re:∃acc,H D=some (.lst acc)):ER Φ Γ o ρ S' σ H':=by
 have uA:∀b,Yd o D b->o.A b:=λb z=>z.elim (er.da b) λq=>by rw[q];exact fx.oD
 refine⟨er.len,er.wa,er.da,Ey.al,λj dd h=>?_,er.dk,er.inj,Ey.drw,Ey.drn,er.drs,er.dr0,Ey.ent⟩;obtain⟨w,h1,h2⟩:=er.val j dd h;refine⟨w,h1,?_⟩;by_cases hm:fH Γ j=true
 ·rw[Vl hm]at h2 ⊢;cases dd with
  |lst ds=>
   obtain⟨a,xs,e1,e2,e3,e4,e5,e6,e7⟩:=h2;have aD:a≠D:=λz=>hn j ds hm h (by rw[h1,e1,z])
   exact⟨a,xs,e1,e.kp _ _ e2 (λz=>z.elim e5 aD),e3,e4,e5,e6,e7.mono e uA λ_ z=>z⟩
  |gA=>exact h2.elim
  |_=>exact RV.mono e uA (λ_ z=>z) h2
 ·rw[Vk hm]at h2 ⊢;exact h2.mono e uA λ_ z=>z
theorem tZ{tg:Tg}{ts:Cs}{o:Ow}{D:Addr}{ρ:ah}{σ:L2.St}{J:It}{ds:List Dt}{H1:Hp}{tb:TB}{fb:ah->Sx->R (List Dt×Sx)}{m a0:Nat}(fx:Ky Φ o D)(hp:∀i∈aY tg,plainS Γ i=true)(wk:Wk Φ.K o.A (Yd o D) J H1 ds)(hn:DY Γ ρ σ D)
  (hb:∀(ρ1:ah)(σ1:L2.St)(S:Sx)(acc:List V)(es:List Dt)(H2:Hp)(P:List Dt×Sx->Prop),DY Γ ρ1 σ1 D->(∀k,k∉aY tg->σ1[k]?=σ[k]?/\ρ1[k]?=ρ[k]?)->A7 Φ Γ o D ρ1 σ1 S acc es H2->ba (Yd o D) H1 H2->acc.length+m<=a0+ds.length*m->0<ds.length->mR Φ.Ek (fb ρ1 S) P->
   ∀Q:Hp->Prop,(∀H5 r iT,P r->A7 Φ Γ o D ρ1 σ1 r.2 iT (es++r.1) H5->ba (Yd o D) H2 H5->iT.length<=acc.length+m->Q H5)->tb σ1 H2 Q)
  {S:Sx} {acc:List V} {es:List Dt} {P:List Dt×Sx->Prop} (c:A7 Φ Γ o D ρ σ S acc es H1) (ha:acc.length<=a0) (q:mR Φ.Ek (aQ (aR tg (bp F ts) fb ρ) ds S) P) {Fn:Hp->Prop}
  (fin:∀H5 r iT,P r->A7 Φ Γ o D ρ σ r.2 iT (es++r.1) H5->ba (Yd o D) H1 H5->iT.length<=a0+ds.length*m->Fn H5):p9 J (DM Φ.K tg) (oh Φ Γ F ts) tb σ Fn H1:=by
 refine⟨λi mm H2=>mm=ds.length-i/\i<=ds.length/\∃S2 oA yo,A7 Φ Γ o D ρ σ S2 oA (es++yo) H2/\ba (Yd o D) H1 H2/\oA.length<=a0+i*m/\mR Φ.Ek (aQ (aR tg (bp F ts) fb ρ) (ds.drop i) S2) λr=>P (yo++r.1,r.2),
  ⟨_,rfl,U1 _,S,acc,[],by rw[Sl];exact c,ba.refl,by lia,q⟩,?_⟩
 rintro i mm H2 ⟨rfl,hi,S2,oA,yo,c2,AN,fh,q⟩;by_cases cO:i<ds.length
 ·refine .inr ⟨wk.go i H2 cO AN,λx H3 y=>?_⟩;obtain⟨s3,d,hd,hx⟩:=wk.yld i x H2 H3 cO AN y;have za:=hx o.A λb z=>.inl z
  have Ez:=c2.er.grow s3;have LW:ds.drop i=d::ds.drop (i+1):=by rw[Tx cO];congr 1;exact(RB.mp hd).2
  rw[LW]at q;unfold aQ at q;rw[aa]at q;unfold aR at q;rw[aa]at q;obtain⟨ρ1,hρ,q⟩:=lM (rm _ _ _) q;refine Aq Ez hp za hρ λσ1 L4 hk=>?_
  rw[aa]at q;refine⟨o,ρ1,S2,L4,ag q λb _ q H4 e4 KJ=>?_⟩;have Od:ba (Yd o D) H3 H4:=e4.mono λb z=>.inl z
  have QN:DY Γ ρ1 σ1 D:=λj dd hm h1 h2=>by
   have nj:j∉aY tg:=λz=>by rw[(jl (hp j z)).1]at hm;cases hm
   obtain⟨k1,k2⟩:=hk j nj;rw[k1]at h2;rw[k2]at h1;exact hn j dd hm h1 h2
  have uA:∀b,Yd o D b->o.A b:=λb z=>z.elim (Ez.da b) λq=>by rw[q];exact fx.oD
  have Ii:H4 D=some (.lst oA):=e4.kp _ _ (s3 _ _ c2.at') fx.nd;have OL:aq Φ.K o.A H4 oA (es++yo):=(c2.rv.same s3).mono Od uA λ_ z=>z
  have HY:ba (Yd o D) H2 H4:=(ba.of_same s3).trans Od;have hmul:ds.length*m=(ds.length-(i+1))*m+(i*m+m):=by
   rw[<-UZ i m,<-Nat.add_mul];congr 1
   lia
  have OF:(i+1)*m=i*m+m:=UZ i m;have hz:0<=(ds.length-(i+1))*m:=U1 _;cases jW:b.1 with
  |false=>rw[jW]at q;refine IV ?_;refine⟨ds.length-(i+1),by lia,rfl,cO,b.2,oA,yo,⟨Ii,OL,c2.er.back fx hn KJ HY ⟨_,c2.at'⟩⟩,AN.trans HY,by lia,?_⟩;simp only[SG,Vj]at q;have q:mR Φ.Ek ((aQ (aR tg (bp F ts) fb ρ) (ds.drop (i+1)) b.2).bind λq=>R.ok (([]:List Dt)++q.1,q.2)) _:=q;rw[aa]at q;exact ag q λr _ q=>q
  |true=>
   rw[jW]at q;refine IW ?_;simp only[Vm]at q;refine hb ρ1 σ1 b.2 oA (es++yo) H4 _ QN hk ⟨Ii,OL,KJ⟩ (AN.trans HY) ⋯ ⋯ q _ λH5 r iT q c5 e5 l5=>?_
   rw[aa]at q;refine⟨ds.length-(i+1),by lia,rfl,cO,r.2,iT,yo++r.1,⟨c5.at',by rw[<-RN];exact c5.rv,c2.er.back fx hn c5.er (HY.trans e5) ⟨_,c2.at'⟩⟩,(AN.trans HY).trans e5,by lia,ag q λr' _ q=>?_⟩;have q:P (yo++(r.1++r'.1),r'.2):=q;rw[RN];exact q
 ·have e:i=ds.length:=⋯
  subst e;refine .inl ⟨wk.stop H2 AN,?_⟩;rw[List.drop_length]at q;have q:P (yo++[],S2):=q;rw[Sl]at q;exact fin H2 (yo,S2) oA q c2 AN fh
theorem yj{o:Ow}{D:Addr}{c:C}{ρ:ah}{σ:L2.St}{S:Sx}{acc:List V}{es:List Dt}{H:Hp}{P:List Dt×Sx->Prop}(fx:Ky Φ o D)(hn:DY Γ ρ σ D)(cs:A7 Φ Γ o D ρ σ S acc es H)(hl:acc.length<sizeLine)
  (q:mR Φ.Ek ((ev F c ρ S).bind λy=>ab (cc c y.1) (.ok ([y.1],y.2))) P) (Q:Hp->Prop) (fin:∀H5 r iT,P r->A7 Φ Γ o D ρ σ r.2 iT (es++r.1) H5->ba (Yd o D) H H5->iT.length<=acc.length+1->Q H5):vJ D (bV Φ Γ F g.fr c) σ H Q:=by
 rw[aa]at q;refine⟨o,ρ,S,cs.er,ag q λy _ q v H5 eo5 er6=>?_⟩;obtain⟨gs,q⟩:=aN q;have e5:ba (Yd o D) H H5:=eo5.ext.mono λb z=>.inl z
 have Mg:H5 D=some (.lst acc):=eo5.ext.kp _ _ cs.at' fx.nd;have uA:∀b,Yd o D b->o.A b:=λb z=>z.elim (cs.er.da b) λq=>by rw[q];exact fx.oD
 have hv:RV Φ.K o.A H5 v y.1:=by
  unfold cc at gs;rw[Sm]at gs;rcases gs with gs|gs
  ·exact eo5.dz (RA gs)
  ·exact eo5.val.nV gs
 have up:ba (λb=>b=D) H5 (upd H5 D (.lst (acc++[v]))):=vS Mg;refine⟨acc,Mg,hl,fin _ ([y.1],y.2) (acc++[v]) q ⟨aM,?_,er6.emit Mg hn fx.oD fx.nd fx.h0⟩ (e5.trans (up.mono λb z=>.inr z)) (by simp)⟩;exact((cs.rv.mono e5 uA λ_ z=>z).append (aq.cons hv aq.nil)).mono up (λb z=>by rw[z];exact fx.oD) λ_ z=>z
theorem vN:2*lim<sizeLine:=by rw[Vv];decide
theorem nk{sc:Scope}{o:Ow}{ρ:ah}{S:Sx}{σ:L2.St}{H:Hp}{D:Addr}(er:ER Φ Γ o ρ S σ H)(B:fI X sc (a8 Γ sc).1.N (a8 Γ sc).2)(jY:(Rx.a8 Γ sc).1.N.Nodup)(hD:H D=none):
  Ky Φ (o.plus D) D/\DY (a8 Γ sc).1 (j6 (a8 Γ sc).2 ρ) (c8 (a8 Γ sc).2 σ) D/\A7 Φ (a8 Γ sc).1 (o.plus D) D (j6 (a8 Γ sc).2 ρ) (c8 (a8 Γ sc).2 σ) S [] [] (upd H D (.lst [])):=by
 refine⟨⟨.inr rfl,λz=>?_,λx hx=>?_⟩,λj d hm h1 h2=>?_,⟨aM,aq.nil,er.a8 B jY hD⟩⟩
 ·obtain⟨y,hy⟩:=er.al D (er.da D z);rw[hD]at hy;cases hy
 ·by_cases hz:Φ.d0=some D
  ·exact hz
  ·have:=er.ent.kp D x hx hz;rw[hD]at this;cases this
 ·obtain⟨ii,hc,Qu⟩:=fQ h1;obtain⟨w',k1,k2⟩:=er.val ii _ Qu;rw[<-kv hc,Vl hm]at k2;obtain⟨a',xx,LV,G3,_⟩:=k2;rw[eE hc k1]at h2;cases h2;cases LV;rw[hD]at G3;cases G3
theorem uq{sc:Scope}{o:Ow}{ρ:ah}{S S2:Sx}{σ:L2.St}{H H1 H2:Hp}{D:Addr}{acc:List V}{ds:List Dt}{c:C}(hc:lk c=0)(io:ba o.d H H1)(aF:ER Φ Γ o ρ S σ H1)(hD:H1 D=none){ρ2:ah}{σ2:L2.St}(cs:A7 Φ (a8 Γ sc).1 (o.plus D) D ρ2 σ2 S2 acc ds H2)(ex:ba (Yd (o.plus D) D) (upd H1 D (.lst [])) H2):
  EO Φ.K g.fr o c H (.lst ds) (.ref D) H2/\ER Φ Γ o ρ S2 σ H2:=by
 have AN:ba o.d H1 H2:=⟨λb x h n=>by
   have nb:b≠D:=λz=>by rw[z,hD]at h;cases h
   exact ex.kp b x (by rw[aJ nb];exact h) λz=>z.elim n nb,λb xs h=>by
   have nb:b≠D:=λz=>by rw[z,hD]at h;cases h
   exact ex.tp b xs (by rw[aJ nb];exact h)⟩
 have nA:¬o.A D:=λz=>by obtain⟨y,hy⟩:=aF.al D z;rw[hD]at hy;cases hy
 have dn:H D=none:=aF.eR io hD;have v0:RV Φ.K o.A H2 (.ref D) (.lst ds):=RV.d8 cs.at' nA (cs.rv.weak λb z=>.inl z);refine⟨⟨io.trans AN,v0.weak aF.iL,λ_=>v0,λ_=>v0.one,λ_ mG ed=>?_⟩,aF.step AN (λa ha=>cs.er.drw a ha) cs.er.drn⟩;cases ed;exact⟨D,acc,rfl,dn,cs.at',cs.rv.weak λb z=>z.elim (λz=>.inl (aF.iL b z)) .inr,λ_=>cs.rv⟩
theorem zX{sc:Scope}{tg:Expr}{it:mX}{t:Tg}{ts:Cs}{c:C}(hK:Φ.K=X.K)(B:fI X sc (a8 Γ sc).1.N (a8 Γ sc).2)(jY:(a8 Γ sc).1.N.Nodup)(Do:qh (a8 Γ sc).1 tg=some t){σ:L2.St}{H:Hp}{Q:VK}
  (q:bV Φ Γ F g.fr (.comp (a8 Γ sc).2 it t ts c) σ H Q):pQ (a8 Γ sc).2 (pR Φ Γ F it) (DM X.K t) (oh Φ (a8 Γ sc).1 F ts) (λD=>vJ D (bV Φ (a8 Γ sc).1 F g.fr c)) σ H Q:=by
 obtain⟨o,ρ,S,er,q⟩:=q;unfold ev at q;rw[aa]at q;refine⟨o,ρ,S,er,ag q λp _ q J H1 io aF D hD=>⟨lz (pU B Do),?_⟩⟩;obtain⟨g1,q⟩:=aN q;rw[Ry]at g1;have cL:=RA g1.1;have wk:=(io.Pa aF g1.2).plus hD;rw[aa]at q;have lC:=vN;obtain⟨fx,hn,cs⟩:=nk (X:=X) aF B jY hD;rw[<-hK];refine tZ (m:=1) (a0:=0) fx (λi hi=>(eZ Do i hi).1) wk hn (λρ1 σ1 S1 acc es H2 P n1 hk c1 e1 hl _ q Q fin=>yj fx n1 c1 ⋯ q Q fin) cs (U1 _) q λH5 r iT q c5 e5 l5=>?_
 obtain⟨k1,k2⟩:=uq (g:=g) (c:=.comp (a8 Γ sc).2 it t ts c) rfl io.ext aF hD c5 e5;exact q _ _ k1 k2
theorem vy{sc:Scope}{tg jM:Expr}{it g6:mX}{t t2:Tg}{ts Hi:Cs}{c:C}(hK:Φ.K=X.K)(B:fI X sc (a8 Γ sc).1.N (a8 Γ sc).2)(jY:(a8 Γ sc).1.N.Nodup)(Do:qh (a8 Γ sc).1 tg=some t)(IL:qh (a8 Γ sc).1 jM=some t2)(IA:∀i∈aY t2,i∉aY t){σ:L2.St}{H:Hp}{Q:VK}
  (q:bV Φ Γ F g.fr (.gZ (a8 Γ sc).2 it t ts g6 t2 Hi c) σ H Q):pQ (a8 Γ sc).2 (pR Φ Γ F it) (DM X.K t) (oh Φ (a8 Γ sc).1 F ts) (λD=>Ki (pR Φ (a8 Γ sc).1 F g6) (DM X.K t2) (oh Φ (a8 Γ sc).1 F Hi) (vJ D (bV Φ (a8 Γ sc).1 F g.fr c))) σ H Q:=by
 obtain⟨o,ρ,S,er,q⟩:=q;unfold ev at q;rw[aa]at q;refine⟨o,ρ,S,er,ag q λp _ q J H1 io aF D hD=>⟨lz (pU B Do),?_⟩⟩;obtain⟨g1,q⟩:=aN q;rw[Ry]at g1;have cL:=RA g1.1;have wk:=(io.Pa aF g1.2).plus hD;rw[aa]at q;have lC:=vN;obtain⟨fx,hn,cs⟩:=nk (X:=X) aF B jY hD;rw[<-hK];have hdiv:p.1.length*(lim/p.1.length)<=lim:=Nat.mul_div_le _ _;refine tZ (m:=lim/p.1.length) (a0:=0) fx (λi hi=>(eZ Do i hi).1) wk hn (λρ1 σ1 S1 acc es H2 P n1 hk c1 e1 hl hp0 q Q fin=>?_) cs (U1 _) q λH5 r iT q c5 e5 l5=>?_
 ·refine⟨lz λi hi=>?_,?_⟩
  ·rw[(hk i (IA i hi)).1];exact pU B IL i hi
  ·rw[aa]at q;refine⟨o.plus D,ρ1,S1,c1.er,ag q λx2 _ q J2 H3 io2 Ez=>?_⟩;obtain⟨g2,q⟩:=aN q;rw[Ry]at g2;have fh:=RA g2.1;have uA:∀b,Yd (o.plus D) D b->(o.plus D).A b:=λb z=>z.elim (Ez.da b) λq=>.inr q
   have Q3:=(io2.w0 (RA g2.2)).less uA;have e3:ba (Yd (o.plus D) D) H2 H3:=io2.ext.mono λb z=>.inl z
   have Ri:x2.1.length<=lim/p.1.length:=(Nat.le_div_iff_mul_le hp0).mpr (by rw[Nat.mul_comm];exact fh);refine tZ (m:=1) (a0:=acc.length) fx (λi hi=>(eZ IL i hi).1) Q3 n1 (λρ2 σ2 S2 oA yo H4 P2 n2 hk2 c2 e2 hl _ q Q fin=>yj fx n2 c2 ⋯ q Q fin) ⟨io2.ext.kp _ _ c1.at' fx.nd,c1.rv.mono e3 uA λ_ z=>z,Ez⟩ (RE _) q λH5 r iT q c5 e5 l5=>?_
   exact fin H5 r iT q c5 (e3.trans e5) ⋯
 ·obtain⟨k1,k2⟩:=uq (g:=g) (c:=.gZ (a8 Γ sc).2 it t ts g6 t2 Hi c) rfl io.ext aF hD c5 e5;exact q _ _ k1 k2
end
noncomputable def wq:Expr->Bool
 |.Starred ..=>false
 |.Slice ..=>false
 |.Set ..=>false
 |.Call (.Name _ _) [] _ _=>false
 |_=>true
theorem cA{e:Expr}(h:wq e=true)(es:List Expr)(env:Env):starEach (e::es) env=(false,eval e env)::starEach es env:=by cases e<;>first|rfl|(simp[wq]at h)
theorem Dh{e:Expr}(h:wq e=true):kc e:=by intro o i;cases e<;>first|rfl|(simp[wq]at h)
theorem BD{e:Expr}(h:wq e=true)(op:CmpOp):behindInMarks op e=false:=by cases e<;>first|rfl|(simp[wq]at h)
theorem iz{e:Expr}(h:wq e=true)(env:Env):∀x,foldedSetIterable e env x=pure x:=by intro x;cases e<;>first|rfl|(simp[wq]at h)
theorem cV{X:Cx}{Φ:Fm}{Γ:Gm}{F:FT}{e:Expr}{c:C}(h:∀ρ S,cN F c ρ S= .bad):PT X e (fL Φ Γ F c):=λpins s σ H Q I q=>by obtain⟨o,ρ,S,er,q⟩:=q;rw[h]at q;exact q.elim
section
variable{g:G}{xv:Nat->Value}{CX:kP}{k:Nat}{F:FT}
structure Pk(g:G)(F:FT)(n:Nat)(Γ:Gm)(X:Cx)(Φ:Fm):Prop where
 e:∀e c,cE n g Γ e=some c->PE X e (bV Φ Γ F g.fr c)/\PT X e (fL Φ Γ F c)/\wq e=true
 es:∀es cs,xV n g Γ es=some cs->PA X es (mT Φ Γ F cs)/\cs.len=es.length/\∀e∈es,wq e=true
 ts:∀es cs,Bq n g Γ es=some cs->CW X es (oh Φ Γ F cs)
 b:∀o es c pos,cB n g Γ o es=some c->PE X (.BoolOp o es pos) (bV Φ Γ F g.fr c)/\PW X (.BoolOp o es pos) (fL Φ Γ F c)
 i:∀tg e it,cI n g Γ tg e=some it->PI X tg e (pR Φ Γ F it)/\wq e=true
 c:∀f a as c p pos,uv n g Γ f a as=some c->PE X (.Call (.Name f p) (a::as) [] pos) (bV Φ Γ F g.fr c)/\PT X (.Call (.Name f p) (a::as) [] pos) (fL Φ Γ F c)
theorem qa{es:List Expr}{env:Env}{pos:Pos}(h:∀e∈es,wq e=true):(backTo pos (starEach es env)).any (·.1)=false:=by
 induction es with
 |nil=>rfl
 |cons e es ih=>rw[cA (h e RF)];show (false||(backTo pos (starEach es env)).any (·.1))=false;rw[ih λe' z=>h e' (RC _ z)];rfl
theorem tu{x y:Str}(h:(x==y)=false):x≠y:=λe=>by subst e;rw[Vf]at h;cases h
theorem eS{x:Str}(h:fB x=true):(x==("__debug__":Str))=false/\(x==("__classdict__":Str))=false/\x≠"__name__":=by unfold fB at h;rw[Ry,Ry]at h;have h1:=h.1.1;have h2:=h.1.2;have h3:=h.2;rw[SL]at h1 h2 h3;exact⟨h1,h2,tu h3⟩
noncomputable def N2:C->Bool
 |.nt _|.and ..|.or ..|.cmp ..|.ch ..|.var _|.mvr _|.call ..|.callD ..|.bi ..|.idx ..=>true
 |_=>false
theorem bQ{F:FT}{c:C}{ρ:ah}{S:Sx}(h:N2 c=false):cN F c ρ S= .bad:=by cases c<;>first|rfl|cases h
theorem boot_divmod:bootBuiltins "divmod"=some (.builtin "divmod"):=by decide +kernel
theorem xT:∀t∈xS,Gb t.2.2=true/\bootBuiltins t.1=some (G1 t.2.2):=by
 intro t ht;simp only[xS,RL,RM,Vt]at ht;rcases ht with rfl|rfl|rfl|rfl|rfl|rfl|rfl|rfl|rfl|rfl|rfl
 ·exact⟨rfl,PySem.boot_len⟩
 ·exact⟨rfl,PyProof.Rows.boot_abs⟩
 ·exact⟨rfl,PyProof.Rows.boot_max⟩
 ·exact⟨rfl,PyProof.Rows.boot_sum⟩
 ·exact⟨rfl,PyProof.Rows.boot_any⟩
 ·exact⟨rfl,PyProof.Rows.boot_max⟩
 ·exact⟨rfl,PyProof.Rows.boot_sorted⟩
 ·exact⟨rfl,PyProof.Rows.boot_tuple⟩
 ·exact⟨rfl,PyProof.Rows.boot_list⟩
 ·exact⟨rfl,PyProof.Rows.boot_int⟩
 ·exact⟨rfl,boot_divmod⟩
theorem Bl{x:Str}{n:Nat}{b:BI}(h:sr x n=some b):Gb b=true/\bootBuiltins x=some (G1 b):=by unfold sr at h;obtain⟨t,h1,rfl⟩:=RP.mp h;have hm:=List.mem_of_find?_eq_some h1;have hp:=List.find?_some h1;rw[Ry]at hp;rw[<-R3 hp.1];exact xT t hm
theorem Ef{b:BI}(h:Gb b=true):(∃id,G1 b= .builtin id)\/∃T,G1 b= .type T:=by cases b<;>first|exact .inl ⟨_,rfl⟩|exact .inr ⟨_,rfl⟩|cases h
theorem oH{x:Str}(h:g.bls.contains x=true):x∈g.bls:=by simpa using h
theorem NF{X:Cx}{Φ:Fm}{Γ:Gm}{x:Str}{n:Nat}{b:BI}{a:Expr}{as:List Expr}{cs:Cs}{p pos:Pos}(hK:Φ.K=X.K)(gx:GX g Γ X)(hG:Gl X x)(hm:X.mg x=none)(hx:fB x=true)(hb:sr x n=some b)(hs:starEach (a::as) X.env=(false,eval a X.env)::starEach as X.env)(rV:(backTo pos (starEach as X.env)).any (·.1)=false)
  (ha:PA X (a::as) (mT Φ Γ F cs)):PE X (.Call (.Name x p) (a::as) [] pos) (bV Φ Γ F g.fr (.bi b cs)):=by
 obtain⟨h1,h2⟩:=Bl hb;obtain⟨n1,n2,n3⟩:=eS hx;have hc:=Bm (X:=X) b h1 gx.calm gx.un;rcases Ef h1 with ⟨id,e⟩|⟨T,e⟩
 ·rw[e]at h2 hc;exact bz (qV hc hG hm h2 ha n3 n1 hs rV) λσ H Q q=>yu hK q
 ·rw[e]at h2 hc;exact bz (wM hc hG hm h2 ha n3 n1 hs rV) λσ H Q q=>yu hK q
theorem sS{X:Cx}{Φ:Fm}{sc:Scope}{N':List Str}{C:Addr}{s:Shared}{H:Hp}{fp:List Addr}(hX:HX g xv CX k F Φ X):HX g xv CX k F Φ (gR X sc N' C s H fp (xu X sc N' (mW Φ xv) C s H fp)) where
 K:=hX.K
 P:=hX.P
 w:=hX.w
 fx:=hX.fx
 room:=hX.room
 cx:=hX.cx
 st:=CJ hX.st
 xgx:=λe s' h=>GU h
 xk:=hX.xk
theorem ju(n:Nat):∀(Γ:Gm)(X:Cx)(Φ:Fm),GX g Γ X->HX g xv CX k F Φ X->Pk g F n Γ X Φ:=by
 induction n with
 |zero=>intro Γ X Φ gx hX;exact⟨λe c h=>by simp[cE]at h,λe c h=>by simp[xV]at h,λe c h=>by simp[Bq]at h,λo e c p h=>by simp[cB]at h,λo e c h=>by simp[cI]at h,λf a as c p q h=>by simp[uv]at h⟩
 |succ n ih=>
  intro Γ X Φ gx hX;have I:=ih Γ X Φ gx hX;have hK:=hX.K;have hu:=gx.un;refine⟨λe c h=>?_,λes cs h=>?_,λes cs h=>?_,λo es c pos h=>?_,λtg e it h=>?_,λf a as c p pos h=>?_⟩
  ·
   unfold cE at h;split at h
   ·split at h
    ·cases h;exact⟨rj rfl zI,cV λρ S=>bQ rfl,rfl⟩
    ·cases h;exact⟨rj rfl FW,cV λρ S=>bQ rfl,rfl⟩
    ·cases h;exact⟨rj rfl Jy,cV λρ S=>bQ rfl,rfl⟩
    ·cases h;exact⟨rj rfl FS,cV λρ S=>bQ rfl,rfl⟩
    ·cases h
   ·
    rename_i x p;split at h
    ·rename_i i hi;obtain⟨v1,v2,v3⟩:=vC hi;obtain⟨n1,n2,n3⟩:=eS v2;have hv:PE X (.Name x p) (mS i):=zJ (by rw[gx.N];exact v3) (gx.vis x v1) n1 n2;split at h
     ·cases h
     rename_i hδκ;split at h
     ·rename_i hm;cases h;have:=JT (Φ:=Φ) (F:=F) (fr:=g.fr) hv hm λz=>hδκ (by simp[z])
      exact⟨this,kI hK this (λ_=>rfl) (λρ S=>by rw[cN,ev];cases eN ρ i<;>rfl),rfl⟩
     ·rename_i hm;cases h;have:=J1 (Φ:=Φ) (F:=F) (fr:=g.fr) hv (by simpa using hm);exact⟨this,kI hK this (λ_=>rfl) (λρ S=>by rw[cN,ev];cases eN ρ i<;>rfl),rfl⟩
    ·split at h
     ·rename_i hg;rw[Ry]at hg;obtain⟨d,h1,rfl⟩:=RP.mp h;obtain⟨u,k1,k2,k3⟩:=gx.con x d h1;exact⟨rj k1 (Ci (gx.gl x hg.1) k2 k3 (eS hg.2).1),cV λρ S=>bQ rfl,rfl⟩
     ·cases h
   ·obtain⟨a',h1,h⟩:=Rt.mp h;obtain⟨b',h2,h⟩:=Rt.mp h;cases h;exact⟨JO hK (I.e _ _ h1).1 (I.e _ _ h2).1,cV λρ S=>bQ rfl,rfl⟩
   ·obtain⟨a',h1,h9⟩:=Rt.mp h;clear h;split at h9
    ·cases h9;exact⟨JU (I.e _ _ h1).1,cV λρ S=>bQ rfl,rfl⟩
    ·cases h9;exact⟨NG (I.e _ _ h1).1,JW (I.e _ _ h1).2.1,rfl⟩
    ·cases h9
   ·obtain⟨k1,k2⟩:=I.b _ _ _ _ h;exact⟨k1,k2.pt,rfl⟩
   ·split at h
    ·obtain⟨a',h1,h⟩:=Rt.mp h;obtain⟨b',h2,h⟩:=Rt.mp h;cases h;have hm:=BD (I.e _ _ h2).2.2;exact⟨JP hK hu (hm _) (I.e _ _ h1).1 (I.e _ _ h2).1,Gi hK hu (hm _) (I.e _ _ h1).1 (I.e _ _ h2).1,rfl⟩
    ·cases h
   ·split at h
    ·obtain⟨a',h1,h⟩:=Rt.mp h;obtain⟨b',h2,h⟩:=Rt.mp h;cases h;exact⟨Gp hK (I.e _ _ h1).1 (I.e _ _ h2).1,cV λρ S=>bQ rfl,rfl⟩
    ·obtain⟨a',h1,h⟩:=Rt.mp h;obtain⟨b',h2,h⟩:=Rt.mp h;cases h;exact⟨Gn hK (I.e _ _ h1).1 (I.e _ _ h2).1,cV λρ S=>bQ rfl,rfl⟩
    ·obtain⟨a',h1,h⟩:=Rt.mp h;obtain⟨b',h2,h⟩:=Rt.mp h;cases h;have k1:=λpos=>JQ (pos:=pos) hK (Dh (I.e _ _ h2).2.2) (I.e _ _ h1).1 (I.e _ _ h2).1
     refine⟨k1 _,kI hK (k1 _) (λ_=>rfl) (λρ S=>?_),rfl⟩;rw[cN,ev];cases ev F a' ρ S with
     |ok x=>
      simp only[R.af];cases ev F b' ρ x.2 with
      |ok y=>simp only[R.af];cases cT x.1 y.1<;>rfl
      |ex k=>rfl
      |bad=>rfl
     |ex k=>rfl
     |bad=>rfl
   ·obtain⟨ek,h1,h⟩:=Rt.mp h;cases h;exact⟨J0 (I.es _ _ h1).1,cV λρ S=>bQ rfl,rfl⟩
   ·obtain⟨ek,h1,h⟩:=Rt.mp h;cases h;exact⟨JS (I.es _ _ h1).1,cV λρ S=>bQ rfl,rfl⟩
   ·split at h
    ·obtain⟨k1,k2⟩:=I.c _ _ _ _ _ _ h;exact⟨k1,k2,rfl⟩
    ·cases h
   ·
    rename_i elt gens sc pos;split at h
    ·rename_i hk;split at h
     ·rename_i tg it ifs;obtain⟨kz,h1,h⟩:=Rt.mp h;obtain⟨mf,h2,h⟩:=Rt.mp h;obtain⟨pV,h3,h⟩:=Rt.mp h;obtain⟨e',h4,h⟩:=Rt.mp h;split at h
      ·rename_i hb;cases h;rw[Ry]at hb;have EM:sc.kind= .function:=R3 hk;have B:=sD gx EM hb.1;have jY:(a8 Γ sc).1.N.Nodup:=RA hb.2;have J:=λC s H fp=>ih (a8 Γ sc).1 (gR X sc (a8 Γ sc).1.N C s H fp (xu X sc (a8 Γ sc).1.N (mW Φ xv) C s H fp)) Φ (fv gx B jY) (sS hX)
       refine⟨bz (qW (xb:=xu X sc (a8 Γ sc).1.N (mW Φ xv)) (body:=λacc env=>ij elt acc env) gx.calm B (kO hX.st hX.xgx) (I.i _ _ _ h1).1 (λpX acc env=>rJ ..) (λC s H fp=>tQ (fv gx B jY) h2) (λC s H fp=>(J C s H fp).ts _ _ h3) (λC s H fp D=>kF ((J C s H fp).e _ _ h4).1) (iz (I.i _ _ _ h1).2 _)) λσ H Q q=>zX hK B jY h2 q,cV λρ S=>bQ rfl,rfl⟩
      ·cases h
     ·rename_i tg it ifs jM g6 cC;obtain⟨kz,h1,h⟩:=Rt.mp h;obtain⟨mf,h2,h⟩:=Rt.mp h;obtain⟨pV,h3,h⟩:=Rt.mp h;obtain⟨qC,h5,h⟩:=Rt.mp h;obtain⟨mh,h6,h⟩:=Rt.mp h;obtain⟨rH,h7,h⟩:=Rt.mp h;obtain⟨e',h4,h⟩:=Rt.mp h;split at h
      ·rename_i hb;cases h;rw[Ry,Ry]at hb;have EM:sc.kind= .function:=R3 hk;have B:=sD gx EM hb.1.1;have jY:(a8 Γ sc).1.N.Nodup:=RA hb.1.2;have IA:∀i∈aY mh,i∉aY mf:=λi hi z=>by have:=Sh.mp hb.2 i hi;simp[z]at this
       have J:=λC s H fp=>ih (a8 Γ sc).1 (gR X sc (a8 Γ sc).1.N C s H fp (xu X sc (a8 Γ sc).1.N (mW Φ xv) C s H fp)) Φ (fv gx B jY) (sS hX)
       refine⟨bz (qW (xb:=xu X sc (a8 Γ sc).1.N (mW Φ xv)) (body:=λacc env=>nextOf (.ListComp elt [⟨tg,it,ifs,0⟩,⟨jM,g6,cC,0⟩] sc pos) 1 g6 acc env) gx.calm B (kO hX.st hX.xgx) (I.i _ _ _ h1).1 (λpX acc env=>rK ..) (λC s H fp=>tQ (fv gx B jY) h2) (λC s H fp=>(J C s H fp).ts _ _ h3)
        (λC s H fp D=>vi gx.calm (vf hX.st) ((J C s H fp).i _ _ _ h5).1 (tQ (fv gx B jY) h6) ((J C s H fp).ts _ _ h7) (kF ((J C s H fp).e _ _ h4).1) (iz ((J C s H fp).i _ _ _ h5).2 _)) (iz (I.i _ _ _ h1).2 _)) λσ H Q q=>vy hK B jY h2 h6 IA q,cV λρ S=>bQ rfl,rfl⟩
      ·cases h
     ·cases h
    ·cases h
   ·cases h
  ·
   unfold xV at h;split at h
   ·cases h;exact⟨JV,rfl,λe z=>by cases z⟩
   ·obtain⟨e',h1,h⟩:=Rt.mp h;obtain⟨ek,h2,h⟩:=Rt.mp h;cases h;obtain⟨k1,k2,k3⟩:=I.es _ _ h2;refine⟨Gj (cA (I.e _ _ h1).2.2 _ _) (I.e _ _ h1).1 k1,by simp[Cs.len,k2],λe z=>?_⟩;rcases RL.mp z with rfl|z
    ·exact(I.e _ _ h1).2.2
    ·exact k3 e z
  ·
   unfold Bq at h;split at h
   ·cases h;exact λpins s σ H Q I q=>Cw pins s σ H Q I (by obtain⟨o,ρ,S,er,q⟩:=q;rw[bp]at q;exact q _ ba.refl er)
   ·obtain⟨e',h1,h⟩:=Rt.mp h;cases h;refine λpins s σ H Q I' q=>Cy (I.e _ _ h1).2.1 pins s σ H Q I' ?_
    obtain⟨o,ρ,S,er,q⟩:=q;rw[bp]at q;exact⟨o,ρ,S,er,q⟩
   ·cases h
  ·
   unfold cB at h;split at h
   ·rename_i e;have k1:=(I.e _ _ h).1;have k2:=(I.e _ _ h).2.1;refine⟨FV k1,?_⟩;cases o with
    |And=>exact Cz k2
    |Or=>exact F8 k2
   ·rename_i e es dw;obtain⟨e',h1,h⟩:=Rt.mp h;obtain⟨ek,h2,h⟩:=Rt.mp h;cases h;cases es with
    |nil=>exact(dw rfl).elim
    |cons b rest=>
     obtain⟨k1,k2⟩:=I.b o _ _ pos h2;cases o with
     |And=>exact⟨JN (I.e _ _ h1).1 k1,Gh (I.e _ _ h1).2.1 k2⟩
     |Or=>exact⟨NH (I.e _ _ h1).1 k1,JX (I.e _ _ h1).2.1 k2⟩
   ·cases h
  ·
   unfold cI at h;split at h
   ·rename_i f p a q;split at h
    ·rename_i hf;have ef:=R3 hf;subst ef;split at h
     ·rename_i hg;rw[Ry]at hg;obtain⟨a',h1,h⟩:=Rt.mp h;cases h;exact⟨Gk (gx.gl _ hg.1) (gx.bl _ (oH hg.2)) (cA (I.e _ _ h1).2.2 [] _) (I.e _ _ h1).1,rfl⟩
     ·cases h
    ·obtain⟨c,h1,h⟩:=Rt.mp h;cases h;exact⟨zY hK (I.e _ _ h1).1,rfl⟩
   ·rename_i f p a b q;split at h
    ·rename_i hf;have ef:=R3 hf;subst ef;split at h
     ·cases h
     ·cases h
    split at h
    ·rename_i hf;have ef:=R3 hf;subst ef;split at h
     ·split at h
      ·rename_i hg;rw[Ry]at hg;obtain⟨a',h1,h⟩:=Rt.mp h;obtain⟨b',h2,h⟩:=Rt.mp h;cases h;have e2:=cA (I.e _ _ h2).2.2 [] X.env;exact⟨J3 hK (gx.gl _ hg.1) (gx.bl _ (oH hg.2)) (by rw[cA (I.e _ _ h1).2.2,e2];rfl) e2 (I.e _ _ h1).1 (I.e _ _ h2).1,rfl⟩
      ·cases h
     ·cases h
    ·obtain⟨c,h1,h⟩:=Rt.mp h;cases h;exact⟨zY hK (I.e _ _ h1).1,rfl⟩
   ·obtain⟨c,h1,h⟩:=Rt.mp h;cases h;exact⟨zY hK (I.e _ _ h1).1,(I.e _ _ h1).2.2⟩
  ·
   have tr:∀{c:C},(∀ρ S,cN F c ρ S=(ev F c ρ S).bind λx=>(dU x.1).bind λb=>.ok (b,x.2))->PE X (.Call (.Name f p) (a::as) [] pos) (bV Φ Γ F g.fr c)->PE X (.Call (.Name f p) (a::as) [] pos) (bV Φ Γ F g.fr c)/\PT X (.Call (.Name f p) (a::as) [] pos) (fL Φ Γ F c):=λhe h=>⟨h,kI hK h (λ_=>rfl) he⟩
   have Oe:∀(b:BI)(cs:Cs)ρ S,cN F (.bi b cs) ρ S=(ev F (.bi b cs) ρ S).bind λx=>(dU x.1).bind λb=>.ok (b,x.2):=λb cs ρ S=>by
    rw[cN,ev];cases gS F cs ρ S with
    |ok x=>simp only[R.af];cases eD b x.1<;>rfl
    |ex k=>rfl
    |bad=>rfl
   have Pv:∀(f:Nat)(cs:Cs)(ds:List Dt)ρ S,cN F (.call f cs ds) ρ S=(ev F (.call f cs ds) ρ S).bind λx=>(dU x.1).bind λb=>.ok (b,x.2):=λf cs ds ρ S=>by
    rw[cN,ev];cases gS F cs ρ S with
    |ok x=>simp only[R.af];cases F f (x.1++ds) none<;>rfl
    |ex k=>rfl
    |bad=>rfl
   have Q8:∀(f:Nat)(cs:Cs)ρ S,cN F (.callD f cs) ρ S=(ev F (.callD f cs) ρ S).bind λx=>(dU x.1).bind λb=>.ok (b,x.2):=λf cs ρ S=>by
    rw[cN,ev];cases S.isSome with
    |false=>rfl
    |true=>
     simp only[guard_true];cases gS F cs ρ S with
     |ok x=>
      simp only[R.af];cases x.2 with
      |none=>rfl
      |some s=>rfl
     |ex k=>rfl
     |bad=>rfl
   unfold uv at h;split at h
   ·rename_i hg;rw[Ry]at hg;have Mi:=gx.gl f hg.1;obtain⟨n1,n2,n3⟩:=eS hg.2;split at h
    ·rename_i kk np fT bo yQ;split at h
     ·
      rename_i hdp;have:bo=true:=hdp;subst this;split at h
      ·rename_i y yp;split at h
       ·rename_i i hi;split at h
        ·cases h
        ·cases h
       ·cases h
      ·cases h
     ·rename_i hdp;have:bo=false:=by simpa using hdp
      subst this;split at h
      ·rename_i hn;rw[Ry]at hn;have a1:=RA hn.1;have a2:=RA hn.2;obtain⟨es,h1,h⟩:=Rt.mp h;cases h;obtain⟨k1,k2,k3⟩:=I.es _ _ h1;refine tr (Pv _ _ _) (s_call hX Mi n1 yQ (Nat.sub_le _ _) ?_ (cA (k3 a RF) _ _) (qa λe z=>k3 e (RC _ z)) k1);rw[k2,T5,RU]
       lia
      ·cases h
    ·split at h
     ·rename_i hbl;have hm:=gx.bl f (oH hbl);split at h
      ·cases h
      split at h
      ·rename_i hisi;have ef:=R3 hisi;subst ef;split at h
       ·rename_i t tp hnl;split at h
        ·rename_i hg2;rw[Ry]at hg2;obtain⟨T,h1,h⟩:=Rt.mp h;obtain⟨a',h2,h⟩:=Rt.mp h;cases h;have tn:t≠"__name__"/\(t==("__debug__":Str))=false:=by
          unfold tX at h1;split at h1
          ·rename_i e;rw[R3 e];exact⟨by decide,by decide⟩
          split at h1
          ·rename_i e;rw[R3 e];exact⟨by decide,by decide⟩
          split at h1
          ·rename_i e;rw[R3 e];exact⟨by decide,by decide⟩
          split at h1
          ·rename_i e;rw[R3 e];exact⟨by decide,by decide⟩
          split at h1
          ·rename_i e;rw[R3 e];exact⟨by decide,by decide⟩
          ·cases h1
         exact tr (Oe _ _) (JR hK Mi hm (gx.gl t hg2.1) (gx.bl t (oH hg2.2)) h1 tn.1 tn.2 (cA (I.e _ _ h2).2.2 _ _) (I.e _ _ h2).1)
        ·cases h
       ·cases h
      ·have regular:∀{c:C},((sr f (as.length+1)).bind λi=>(xV n g Γ (a::as)).bind λes=>some (C.bi i es))=some c->PE X (.Call (.Name f p) (a::as) [] pos) (bV Φ Γ F g.fr c)/\PT X (.Call (.Name f p) (a::as) [] pos) (fL Φ Γ F c):=λ {c} h=>by obtain⟨b,h1,h⟩:=Rt.mp h;obtain⟨es,h2,h⟩:=Rt.mp h;cases h;obtain⟨k1,k2,k3⟩:=I.es _ _ h2;exact tr (Oe _ _) (NF hK gx Mi hm hg.2 h1 (cA (k3 a RF) _ _) (qa λe z=>k3 e (RC _ z)) k1)
       split at h
       ·rename_i r rp b rq;split at h
        ·cases h
        split at h
        ·cases h
        ·exact regular h
       ·rename_i r rp b c rq zz;split at h
        ·cases h
        ·exact regular h
       ·exact regular h
     ·cases h
   ·cases h
end
structure OI(Φ:Fm)(W:Addr->Prop)(o:Ow):Prop where
 w:o.W=W
 d:∀a,Φ.d0=some a->o.dr=some a
structure SO(Φ:Fm)(Γ:Gm)(W:Addr->Prop)(o:Ow)(H:Hp)(ρ':ah)(S':Sx)(σ':L2.St)(H':Hp):Prop where
 ex:∃o',OI Φ W o'/\ER Φ Γ o' ρ' S' σ' H'/\∀b,o'.A b->o.A b\/H b=none
 ext:ba o.A H H'
 al:∀b x,H b=some x->∃y,H' b=some y
structure RO(Φ:Fm)(W:Addr->Prop)(fF:Bool)(d:Dt)(S':Sx)(v:V)(H':Hp):Prop where
 val:RV Φ.K W H' v d
 ent:ba (λb=>Φ.d0=some b) Φ.H0 H'
 drw:∀a,Φ.d0=some a->∃ns:List Int,S'=some ns/\H' a=some (.lst (ns.map V.int))
 j7:fF=true->∀ds,d= .lst ds->∃a xs,v= .ref a/\Φ.H0 a=none/\H' a=some (.lst xs)/\aq Φ.K (λb=>W b\/b=a) H' xs ds
noncomputable def cX(Φ:Fm)(Γ:Gm)(W:Addr->Prop)(fF:Bool)(o:Ow)(H:Hp)(D:Ends)(p:Fl×ah×Sx):Prop:=match p.1 with
 |.next=>∀σ' H',SO Φ Γ W o H p.2.1 p.2.2 σ' H'->D.nx σ' H'
 |.brk=>∀σ' H',SO Φ Γ W o H p.2.1 p.2.2 σ' H'->D.bk σ' H'
 |.cnt=>∀σ' H',SO Φ Γ W o H p.2.1 p.2.2 σ' H'->D.ct σ' H'
 |.ret d=>∀v H',RO Φ W fF d p.2.2 v H'->D.rt v H'
inductive ka(Φ:Fm)(Γ:Gm)(F:FT)(W:Addr->Prop)(fF:Bool)(t:T)(D:Ends)(σ:L2.St)(H:Hp):Prop
 |mk (o:Ow) (ρ:ah) (S:Sx) (i:OI Φ W o) (e:ER Φ Γ o ρ S σ H) (m:mR Φ.Ek (ex F t ρ S) (cX Φ Γ W fF o H D)):ka Φ Γ F W fF t D σ H
inductive kb(Φ:Fm)(Γ:Gm)(F:FT)(W:Addr->Prop)(fF:Bool)(t:Ts)(D:Ends)(σ:L2.St)(H:Hp):Prop
 |mk (o:Ow) (ρ:ah) (S:Sx) (i:OI Φ W o) (e:ER Φ Γ o ρ S σ H) (m:mR Φ.Ek (aU F t ρ S) (cX Φ Γ W fF o H D)):kb Φ Γ F W fF t D σ H
theorem bE{X:Cx}{e:Stmt}{t t':TS}(h:PS X e t)(hi:∀D σ H,t' D σ H->t D σ H):PS X e t':=λpins s σ H D I q=>h pins s σ H D I (hi D σ H q)
theorem vo{X:Cx}{e:List Stmt}{t t':TS}(h:vU X e t)(hi:∀D σ H,t' D σ H->t D σ H):vU X e t':=λpins s σ H D I q=>h pins s σ H D I (hi D σ H q)
section
variable{X:Cx}{Φ:Fm}{Γ:Gm}{F:FT}{g:G}{W:Addr->Prop}{fF:Bool}{o:Ow}{ρ:ah}{S:Sx}{σ:L2.St}{H H':Hp}
theorem ER.dA(er:ER Φ Γ o ρ S σ H){H1:Hp}(e:ba o.d H H1):ba o.A H H1:=e.mono er.da
theorem ER.C9{S1:Sx}{ρ1:ah}{σ1:L2.St}{H1:Hp}(aF:ER Φ Γ o ρ1 S1 σ1 H1)(e:ba o.d H H1):∀b x,H b=some x->∃y,H1 b=some y:=λb x h=>e.al h λz=>aF.al b (aF.da b z)
theorem SO.gi{S':Sx}{ρ':ah}{σ':L2.St}(oi:OI Φ W o)(er:ER Φ Γ o ρ' S' σ' H')(e:ba o.d H H'):SO Φ Γ W o H ρ' S' σ' H':=⟨⟨o,oi,er,λb z=>.inl z⟩,e.mono er.da,er.C9 e⟩
theorem SO.go{o':Ow}{H1 H2:Hp}{ρ2:ah}{S2:Sx}{σ2:L2.St}(e:ba o.A H H1)(hA:∀b,o'.A b->o.A b\/H b=none)(xm:∀b x,H b=some x->∃y,H1 b=some y)(h:SO Φ Γ W o' H1 ρ2 S2 σ2 H2):SO Φ Γ W o H ρ2 S2 σ2 H2:=by
 obtain⟨⟨o2,K8,fk,Ih⟩,e2,a2⟩:=h;refine⟨⟨o2,K8,fk,λb z=>?_⟩,⟨λb x h n=>?_,λb xs h=>e2.tp _ _ (e.tp _ _ h)⟩,λb x h=>?_⟩
 ·rcases Ih b z with q|q
  ·exact hA b q
  ·refine .inr ?_;cases hb:H b with
   |none=>rfl
   |some x=>obtain⟨y,hy⟩:=xm b x hb;rw[q]at hy;cases hy
 ·refine e2.kp _ _ (e.kp _ _ h n) λz=>?_
  rcases hA b z with q|q
  ·exact n q
  ·rw[h]at q;cases q
 ·obtain⟨y,hy⟩:=xm b x h;exact a2 b y hy
theorem jw{fr:Nat->Bool}{c:C}{d:Dt}{v:V}{H1:Hp}(h:cc c d=true)(eo:EO Φ.K fr o c H d v H1):RV Φ.K o.A H1 v d:=by
 unfold cc at h;rw[Sm]at h;rcases h with h|h
 ·exact eo.dz (RA h)
 ·exact eo.val.nV h
theorem DQ{i:Nat}{c:C}{st:Stmt}(hp:plainS Γ i=true)(h:PS X st (pP (bV Φ Γ F g.fr c) (eM i))):PS X st (ka Φ Γ F W fF (.asg i c)):=bE h λD σ H q=>by obtain⟨o,ρ,S,oi,er,q⟩:=q;unfold ex at q;rw[aa]at q;refine⟨o,ρ,S,er,ag q λp _ q v H1 eo aF=>?_⟩;obtain⟨gs,q⟩:=aN q;exact q _ _ (SO.gi oi (aF.set hp (jw gs eo)) eo.ext)
theorem GM{i:Nat}{c:C}{st:Stmt}(hp:plainS Γ i=true)(hf:fresh g.fr c=true)(h:PS X st (pP (bV Φ Γ F g.fr c) (eM i))):PS X st (ka Φ Γ F W fF (.asgM i c)):=bE h λD σ H q=>by
 obtain⟨o,ρ,S,oi,er,q⟩:=q;unfold ex at q;rw[aa]at q;refine⟨o,ρ,S,er,ag q λp _ q v H1 eo aF=>?_⟩;obtain⟨gs,q⟩:=aN q;have hv:RV Φ.K o.A H1 v p.1:=by
  by_cases hd:∃ds,p.1= .lst ds
  ·obtain⟨ds,hd⟩:=hd;obtain⟨a,xs,rfl,h1,h2,h3,h4⟩:=eo.j7 hf ds hd;have na:¬o.A a:=λz=>by obtain⟨x,hx⟩:=er.al a z;rw[h1]at hx;cases hx
   rw[hd]at gs ⊢;refine RV.d8 h2 na ?_;unfold l9 at gs;rcases SN.mp gs with z|z
   ·exact(h4 (RA z)).weak λb w=>.inl w
   ·exact h3.jH z
  ·refine jw ?_ eo;unfold l9 at gs;unfold cc;cases hq:p.1 with
   |lst ds=>exact absurd ⟨ds,hq⟩ hd
   |_=>rw[hq]at gs;exact gs
 exact q _ _ (SO.gi oi (aF.set hp hv) eo.ext)
theorem ER.own{S1:Sx}{H1:Hp}{fr:Nat->Bool}{c:C}{d:Dt}{v:V}{i:Nat}(oi:OI Φ W o)(er:ER Φ Γ o ρ S σ H)(aF:ER Φ Γ o ρ S1 σ H1)(hm:fH Γ i=true)(hδ:Γ.δ≠some i)(hf:fresh fr c=true)(hl:l9 c d=true)(eo:EO Φ.K fr o c H d v H1):
  ∃o',OI Φ W o'/\ER Φ Γ o' (ρ.set i (some d)) S1 (σ.set i (some v)) H1/\∀b,o'.A b->o.A b\/H b=none:=by
 by_cases hd:∃ds,d= .lst ds
 ·obtain⟨ds,rfl⟩:=hd;obtain⟨a,xs,rfl,h1,h2,h3,h4⟩:=eo.j7 hf ds rfl;have h4:aq Φ.K (λb=>o.A b\/b=a) H1 xs ds:=by
   unfold l9 at hl;rcases SN.mp hl with l|l
   ·exact h4 (RA l)
   ·exact h3.jH l
  have nA:¬o.A a:=λz=>by obtain⟨y,hy⟩:=er.al a z;rw[h1]at hy;cases hy
  have h0:Φ.H0 a=none:=by
   cases q:Φ.H0 a with
   |none=>rfl
   |some x=>
    by_cases AV:Φ.d0=some a
    ·exact absurd (er.da a (oi.d a AV)) nA
    ·rw[er.ent.kp a x q AV]at h1;cases h1
  have av:∀b,(o.A b\/b=a)->o.A b\/H b=none:=λb z=>z.elim .inl λe=>.inr (by rw[e];exact h1)
  have dA:∀b,o.d b->(o.A b\/b=a):=λb z=>.inl (er.da b z)
  refine⟨⟨o.W,λb=>o.A b\/b=a,o.dr⟩,⟨oi.w,oi.d⟩,⟨?_,λb z=>.inl (er.wa b z),λb z=>.inl (er.da b z),λb z=>?_,λj e he=>?_,Dk.set er.dk rfl,λj j' b e e' m m' k1 k2 k3 k4=>?_,aF.drw,aF.drn,λj b hj hb=>?_,aF.dr0,aF.ent⟩,av⟩
  ·rw[Ua,Ua];exact er.len
  ·rcases z with z|z
   ·exact aF.al b z
   ·rw[z];exact⟨_,h2⟩
  ·by_cases hj:j=i
   ·subst hj;rw[TY]at he;simp only[Vm]at he;split at he
    ·rename_i cO;cases he;refine⟨.ref a,by rw[Su (by rw[er.len];exact cO)],?_⟩;rw[Vl hm];exact⟨a,xs,rfl,h2,.inr rfl,λz=>nA (er.wa a z),λz=>nA (er.da a z),h0,h4⟩
    ·cases he
   ·rw[RT (U2 hj)]at he;obtain⟨w,k1,k2⟩:=er.val j e he;refine⟨w,by rw[RT (U2 hj)];exact k1,?_⟩;by_cases hmj:fH Γ j=true
    ·rw[Vl hmj]at k2 ⊢;cases e with
     |lst es=>obtain⟨b,ys,e1,e2,e3,e4,e5,e6,e7⟩:=k2;exact⟨b,ys,e1,eo.ext.kp _ _ e2 e5,.inl e3,e4,e5,e6,(e7.cm av).mono eo.ext dA λ_ z=>z⟩
     |gA=>exact k2.elim
     |_=>exact(RV.cm av k2).mono eo.ext dA λ_ z=>z
    ·rw[Vk hmj]at k2 ⊢;exact(k2.cm av).mono eo.ext dA λ_ z=>z
  ·
   have other:∀{j:Nat}{e:List Dt}{b:Addr},j≠i->fH Γ j=true->(ρ.set i (some (.lst ds)))[j]?=some (some (.lst e))->(σ.set i (some (.ref a)))[j]?=some (some (.ref b))->b≠a/\ρ[j]?=some (some (.lst e))/\σ[j]?=some (some (.ref b)):=λ {j e b} hj m k1 k3=>by rw[RT (U2 hj)]at k1 k3;obtain⟨w,n1,n2⟩:=er.val j _ k1;rw[Vl m]at n2;obtain⟨b',ys,e1,e2,_⟩:=n2;rw[k3]at n1;cases n1;cases e1;refine⟨λz=>?_,k1,k3⟩;rw[z,h1]at e2;cases e2
   by_cases hj:j=i
   ·by_cases wx:j'=i
    ·rw[hj,wx]
    ·obtain⟨n,_,_⟩:=other wx m' k2 k4;subst hj;have cO:j<σ.length:=by have:=(RB.mp k3).1;rw[Ua]at this;exact this
     rw[Su cO]at k3;cases k3;exact absurd rfl n
   ·obtain⟨n,p1,p2⟩:=other hj m k1 k3;by_cases wx:j'=i
    ·subst wx;have cO:j'<σ.length:=by have:=(RB.mp k4).1;rw[Ua]at this;exact this
     rw[Su cO]at k4;cases k4;exact absurd rfl n
    ·obtain⟨_,p3,p4⟩:=other wx m' k2 k4;exact er.inj j j' b e e' m m' p1 p3 p2 p4
  ·rw[RT (λz=>hδ (by rw[z];exact hj))];exact aF.drs j b hj hb
 ·
  have nl:∀e,d≠ .lst e:=λe z=>hd ⟨e,z⟩
  have hv:RV Φ.K o.A H1 v d:=by
   unfold l9 at hl;rcases SN.mp hl with l|l
   ·exact eo.dz (RA l)
   ·cases d with
    |lst ds=>exact absurd rfl (nl ds)
    |_=>exact eo.val.nV l
  refine⟨o,oi,⟨?_,aF.wa,aF.da,aF.al,λj e he=>?_,Dk.set aF.dk hv.nd,λj j' b e e' m m' k1 k2 k3 k4=>?_,aF.drw,aF.drn,λj b hj hb=>?_,aF.dr0,aF.ent⟩,λb z=>.inl z⟩
  ·rw[Ua,Ua];exact er.len
  ·by_cases hj:j=i
   ·subst hj;rw[TY]at he;simp only[Vm]at he;split at he
    ·rename_i cO;cases he;refine⟨v,by rw[Su (by rw[er.len];exact cO)],?_⟩;rw[Vl hm];cases d with
     |lst ds=>exact absurd rfl (nl ds)
     |gA=>cases hv.nd
     |_=>exact hv
    ·cases he
   ·rw[RT (U2 hj)]at he;obtain⟨w,k1,k2⟩:=aF.val j e he;exact⟨w,by rw[RT (U2 hj)];exact k1,k2⟩
  ·have other:∀{j:Nat}{e:List Dt},(ρ.set i (some d))[j]?=some (some (.lst e))->j≠i:=λ {j e} k1 z=>by
    subst z;rw[TY]at k1;simp only[Vm]at k1;split at k1
    ·cases k1;exact nl e rfl
    ·cases k1
   have n1:=other k1;have n2:=other k2;rw[RT (U2 n1)]at k1 k3;rw[RT (U2 n2)]at k2 k4;exact aF.inj j j' b e e' m m' k1 k2 k3 k4
  ·rw[RT (λz=>hδ (by rw[z];exact hj))];exact aF.drs j b hj hb
theorem AE{i:Nat}{c:C}{st:Stmt}(hm:fH Γ i=true)(hδ:Γ.δ≠some i)(hf:fresh g.fr c=true)(h:PS X st (pP (bV Φ Γ F g.fr c) (eM i))):PS X st (ka Φ Γ F W fF (.asgM i c)):=bE h λD σ H q=>by obtain⟨o,ρ,S,oi,er,q⟩:=q;unfold ex at q;rw[aa]at q;refine⟨o,ρ,S,er,ag q λp _ q v H1 eo aF=>?_⟩;obtain⟨gs,q⟩:=aN q;exact q _ _ ⟨ER.own oi er aF hm hδ hf gs eo,er.dA eo.ext,aF.C9 eo.ext⟩
end
end Rx
end
section
namespace Mx
open PySem PySem.Spec PySem.W PyProof.Rows L2 PySem.SeqAt
section
variable{X:Cx}{pos:Pos}
noncomputable def JI:V->List V->Hp->VK->Prop:=λx vs H Q=>∃l xs k y,x= .ref l/\vs=[.int ((k:Nat):Int),y]/\H l=some (.lst xs)/\k<=xs.length/\xs.length<sizeLine/\Q .aW (upd H l (.lst (xs.take k++y::xs.drop k)))
theorem Fx:Ho X "list.insert" JI:=by
 intro pins s σ H x vs v us Q I rx rv h;obtain⟨l,xs,k,y,rfl,rfl,hH,hk,hz,q⟩:=h;cases rx;obtain⟨u,ut,rfl,ru,rt⟩:=rv.cons_inv;obtain⟨w,rfl,JL⟩:=rt.one;obtain⟨t,rfl⟩:=ru;obtain⟨z,its,n,r,hl,e⟩:=I.qL hH;have hn:=jE;have PK:((k:Nat):Int)<2^63:=by have:=US hk (Nat.lt_trans hz hn);exact_mod_cast this
 have hf:¬(!Builtin.List.listFitsIndex ((k:Nat):Int))=true:=by rw[show Builtin.List.listFitsIndex ((k:Nat):Int)=true from fitsIndex_both (Int.le_trans (by decide) (Int.natCast_nonneg k)) PK];exact SJ
 have hv:ar (xs.take k++y::xs.drop k) (its.take k++w::its.drop k):=(r.take k).append (.cons JL (r.drop k));have MS:(xs.take k++y::xs.drop k).length<=sizeLine:=by rw[RQ,RU,Uc,T5];lia
 have he:(λxs:Array Value=>have k':=if ((k:Nat):Int)<0 then(((k:Nat):Int)+(xs.size:Int)).toNat else min ((k:Nat):Int).toNat xs.size;(xs.extract 0 k').push w++xs.extract k') its.toArray=(its.take k++w::its.drop k).toArray:=by
  show (have k':=if ((k:Nat):Int)<0 then(((k:Nat):Int)+(its.toArray.size:Int)).toNat else min ((k:Nat):Int).toNat its.toArray.size;(its.toArray.extract 0 k').push w++its.toArray.extract k')=_;rw[Vk ⋯];have:min ((k:Nat):Int).toNat its.toArray.size=k:=by rw[Rz];lia
  rw[this];apply SB.mp;simp;exact UG (by simp)
 have ha:argsOk "list.insert" {pos:=[Value.ref l,Value.int ((k:Nat):Int) t,w]}:=F.args_list_insert_3 _ _ _;have lC:its.toArray.size<=sizeLine:=by rw[Rz];lia
 generalize hK:((k:Nat):Int)=K at *;have hm:=PySem.AutoSeq1.list_insert_list_int_val_1 l its.toArray n K t w hf lC;exact Vg (rest:=[Value.int K t,w]) F.slot_list_insert ⟨_,e,rfl⟩ F.entry_list_insert ha hm ⟨e,.aW,_,I.zp hH e he hv MS,rfl,q⟩
noncomputable def uT:List Expr->Option (List Int)
 |[]=>some []
 |.Constant (.int i) _ _::es=>(uT es).map (i:: ·)
 |_=>none
noncomputable def nQ:List Expr->Option (List (List Int))
 |[]=>some []
 |.List es _::rs=>(uT es).bind λl=>(nQ rs).map (l:: ·)
 |_=>none
noncomputable def Kg(l:List Int):TA:=λ_ H Q=>Q (l.map V.int) H
theorem vg:∀{es:List Expr}{l:List Int},uT es=some l->PA X es (Kg l)
 |[],l,h=>by cases h;exact gd
 |e::es,l,h=>by
  unfold uT at h;split at h
  ·rename_i h0;cases h0
  ·rename_i i j p ek h0;cases h0;obtain⟨l',h1,rfl⟩:=RP.mp h;exact λpos pins s σ H Q I q=>cH (zI (i:=i) (j:=j) (pos:=p)) (vg h1) rfl pos pins s σ H Q I q
  ·cases h
noncomputable def QY(L:List (List Int)):TA:=λ_ H Q=>∀(as:List Addr)(H1:Hp),bO H H1->as.length=L.length->(∀(k:Nat)(a:Addr)(l:List Int),as[k]?=some a->L[k]?=some l->H a=none/\H1 a=some (.lst (l.map V.int)))->Q (as.map V.ref) H1
theorem vh:∀{es:List Expr}{L:List (List Int)},nQ es=some L->(∀l∈L,l.length<=sizeLine)->PA X es (QY L)
 |[],L,h,_=>by cases h;exact λpos pins s σ H Q I q=>gd pos pins s σ H Q I (q [] H (λ_ _ e=>e) rfl λk a l h=>by cases h)
 |e::es,L,h,hz=>by
  unfold nQ at h;split at h
  ·rename_i h0;cases h0
  ·rename_i es1 p ek h0;cases h0;obtain⟨l,h1,h⟩:=Rt.mp h;obtain⟨L',h2,rfl⟩:=RP.mp h;intro pos pins s σ H Q I q;refine cH (tE (vg h1) (pos:=p)) (vh h2 λx hx=>hz x (RC _ hx)) rfl pos pins s σ H Q I ⟨by rw[RI];exact hz l RF,λa ha as H1 sm hl hk=>?_⟩;have s0:=b9 ha (.lst (l.map V.int));refine q (a::as) H1 (s0.trans sm) (by rw[RU,RU,hl]) λk b l' e1 e2=>?_
   cases k with
   |zero=>cases e1;cases e2;exact⟨ha,sm _ _ aM⟩
   |succ k=>
    obtain⟨f1,f2⟩:=hk k b l' e1 e2;refine⟨?_,f2⟩;by_cases hb:b=a
    ·rw[hb];exact ha
    ·rw[aJ hb]at f1;exact f1
  ·cases h
end
end Mx
end
section
namespace Rx
open PySem PySem.W PySem.Spec PyProof.Rows L2 PySem.SeqAt
section
variable{X:Cx}{Φ:Fm}{Γ:Gm}{F:FT}{g:G}{W:Addr->Prop}{fF:Bool}{o:Ow}{ρ:ah}{S:Sx}{σ:L2.St}{H H':Hp}
theorem kC{Ek:Nat->Prop}{ρ:ah}{i:Nat}{P:List Dt->Prop}(h:mR Ek (pj ρ i) P):∃ds,ρ[i]?=some (some (.lst ds))/\P ds:=by
 unfold pj at h;split at h
 ·exact⟨_,by assumption,h⟩
 ·exact h.elim
theorem Az{a:Addr}{u:HO}:∀b x,H b=some x->∃y,upd H a u b=some y:=λb x h=>by
 by_cases z:b=a
 ·subst z;exact⟨_,aM⟩
 ·exact⟨x,by rw[aJ z];exact h⟩
theorem o9{ρ:ah}{i:Nat}(h:isLE ρ i=true):∃ds,ρ[i]?=some (some (.lst ds)):=by
 unfold isLE at h;split at h
 ·exact⟨_,by assumption⟩
 ·cases h
theorem ER.chg{i:Nat}{a:Addr}{ds es:List Dt}{xs ys:List V}(er:ER Φ Γ o ρ S σ H)(hm:fH Γ i=true)(hr:ρ[i]?=some (some (.lst ds)))(hs:σ[i]?=some (some (.ref a)))(hx:H a=some (.lst xs))(hy:aq Φ.K o.A H ys es):
  ER Φ Γ o (ρ.set i (some (.lst es))) S σ (upd H a (.lst ys))/\ba o.A H (upd H a (.lst ys))/\∀b x,H b=some x->∃y,upd H a (.lst ys) b=some y:=by
 obtain⟨v,h1,h2⟩:=er.val i _ hr;rw[Vl hm]at h2;rw[hs]at h1;cases h1;obtain⟨b,zs,e1,e2,e3,e4,e5,e6,e7⟩:=h2;cases e1;have up:ba (λb=>b=a) H (upd H a (.lst ys)):=⟨λb o h n=>by rw[aJ n];exact h,Mx.mq hx⟩;have sub:∀b,b=a->o.A b:=λb z=>by rw[z];exact e3
 refine⟨⟨by rw[Ua];exact er.len,er.wa,er.da,λb hb=>?_,λj d hd=>?_,Dk.set er.dk rfl,λj j' b d d' m m' k1 k2 k3 k4=>?_,λb hb=>?_,er.drn,er.drs,er.dr0,?_⟩,up.mono sub,Az⟩
 ·obtain⟨x,hx⟩:=er.al b hb;exact Az b x hx
 ·by_cases hj:j=i
  ·subst hj;rw[TY]at hd;simp only[Vm]at hd;split at hd
   ·cases hd;refine⟨.ref a,hs,?_⟩;rw[Vl hm];exact⟨a,ys,rfl,aM,e3,e4,e5,e6,hy.mono up sub λ_ z=>z⟩
   ·cases hd
  ·rw[RT (U2 hj)]at hd;obtain⟨w,k1,k2⟩:=er.val j d hd;refine⟨w,k1,?_⟩;by_cases hmj:fH Γ j=true
   ·rw[Vl hmj]at k2 ⊢;cases d with
    |lst dl=>obtain⟨b,Q5,n1,n2,n3,n4,n5,n6,n7⟩:=k2;refine⟨b,Q5,n1,up.kp _ _ n2 (λz=>?_),n3,n4,n5,n6,n7.mono up sub λ_ z=>z⟩;subst n1 z;exact hj (er.inj j i b dl ds hmj hm hd hr k1 hs)
    |gA=>exact k2.elim
    |_=>exact RV.mono up sub (λ_ z=>z) k2
   ·rw[Vk hmj]at k2 ⊢;exact k2.mono up sub λ_ z=>z
 ·have same:∀{j:Nat}{d:List Dt},(ρ.set i (some (.lst es)))[j]?=some (some (.lst d))->∃d',ρ[j]?=some (some (.lst d')):=λ {j d} q=>by
   by_cases hj:j=i
   ·subst hj;exact⟨ds,hr⟩
   ·rw[RT (U2 hj)]at q;exact⟨d,q⟩
  obtain⟨d1,q1⟩:=same k1;obtain⟨d2,q2⟩:=same k2;exact er.inj j j' b d1 d2 m m' q1 q2 k3 k4
 ·obtain⟨ns,n1,n2⟩:=er.drw b hb;exact⟨ns,n1,up.kp _ _ n2 λz=>e5 (by rw[<-z];exact hb)⟩
 ·refine⟨λb x h n=>up.kp _ _ (er.ent.kp b x h n) λz=>?_,λb xs h=>up.tp _ _ (er.ent.tp b xs h)⟩;subst z;rw[h]at e6;cases e6
theorem iG{i:Nat}{ds:List Dt}(er:ER Φ Γ o ρ S σ H)(hm:fH Γ i=true)(hr:ρ[i]?=some (some (.lst ds))):∃a xs,σ[i]?=some (some (.ref a))/\H a=some (.lst xs)/\aq Φ.K o.A H xs ds:=by obtain⟨v,h1,h2⟩:=er.val i _ hr;rw[Vl hm]at h2;obtain⟨a,xs,e1,e2,e3,e4,e5,e6,e7⟩:=h2;subst e1;exact⟨a,xs,h1,e2,e7⟩
theorem Ko{i:Nat}{c:C}{st:Stmt}(hm:fH Γ i=true)(h:PS X st (rD (NQ X.K "list" vt (mS i) (vI (bV Φ Γ F g.fr c) GD)))):PS X st (ka Φ Γ F W fF (.app i c)):=bE h λD σ H q=>by obtain⟨o,ρ,S,oi,er,q⟩:=q;unfold ex at q;obtain⟨gl,q⟩:=aN q;obtain⟨ds,hr⟩:=o9 gl;obtain⟨a,xs,h1,h2,h3⟩:=iG er hm hr;rw[aa]at q;refine⟨.ref a,h1,.inl ⟨rfl,_,df.of h2⟩,o,ρ,S,er,ag q λp _ q v H1 eo aF=>?_⟩;obtain⟨gs,q⟩:=aN q;rw[aa]at q;obtain⟨mG,e1,q⟩:=kC q;rw[hr]at e1;cases e1;obtain⟨gl,q⟩:=aN q;obtain⟨a',xx,nE,nF,AQ⟩:=iG aF hm hr;rw[h1]at nE;cases nE;have lC:=dJ;have AZ:=Vv;have Qj:lim=1000000:=rfl;have IC:=RA gl;refine⟨a,xx,v,rfl,rfl,nF,by rw[AQ.length];lia,?_⟩;obtain⟨k1,k2,k3⟩:=aF.chg hm hr h1 nF (AQ.append (aq.cons (jw gs eo) aq.nil));exact q _ _ (SO.go (er.dA eo.ext) (λb z=>.inl z) (aF.C9 eo.ext) ⟨⟨o,oi,k1,λb z=>.inl z⟩,k2,k3⟩)
theorem Kq{i:Nat}{st:Stmt}(hm:fH Γ i=true)(h:PS X st (rD (Kc X.K "list" zS (mS i)))):PS X st (ka Φ Γ F W fF (.clr i)):=bE h λD σ H q=>by obtain⟨o,ρ,S,oi,er,q⟩:=q;unfold ex at q;rw[aa]at q;obtain⟨ds,hr,q⟩:=kC q;obtain⟨a,xs,h1,h2,h3⟩:=iG er hm hr;obtain⟨k1,k2,k3⟩:=er.chg hm hr h1 h2 (aq.nil (K:=Φ.K) (A:=o.A));exact⟨.ref a,h1,.inl ⟨rfl,_,df.of h2⟩,a,xs,rfl,rfl,h2,q _ _ ⟨⟨o,oi,k1,λb z=>.inl z⟩,k2,k3⟩⟩
theorem GT{i:Nat}{k v:C}{st:Stmt}(hm:fH Γ i=true)(h:PS X st (pP (bV Φ Γ F g.fr v) (Ia (mS i) (bV Φ Γ F g.fr k) DF))):PS X st (ka Φ Γ F W fF (.Ac i k v)):=bE h λD σ H q=>by
 obtain⟨o,ρ,S,oi,er,q⟩:=q;unfold ex at q;obtain⟨gl,q⟩:=aN q;obtain⟨ds,hr⟩:=o9 gl;obtain⟨a,xs,h1,h2,h3⟩:=iG er hm hr;rw[aa]at q;refine⟨o,ρ,S,er,ag q λp _ q x H1 eo aF=>?_⟩;rw[aa]at q;refine⟨.ref a,h1,o,ρ,p.2,aF,ag q λp2 _ q y H2 eo2 fk=>?_⟩;obtain⟨gs,q⟩:=aN q;rw[aa]at q;obtain⟨mG,e1,q⟩:=kC q;rw[hr]at e1;cases e1;obtain⟨a',xx,nE,nF,AQ⟩:=iG fk hm hr;rw[h1]at nE;cases nE;cases hd:p2.1 with
 |int n=>
  rw[hd]at q eo2;simp only at q;cases hj:pd ds.length n with
  |none=>rw[hj]at q;exact q.elim
  |some j=>
   rw[hj]at q;have hx:RV Φ.K o.A H2 x p.1:=by
    unfold cc at gs;rw[Sm]at gs;obtain⟨k1,k2,k3⟩:=eo.keep eo2.ext er.iL;rcases gs with gs|gs
    ·exact k2 (RA gs)
    ·exact k1.nV gs
   refine⟨a,xx,n,j,rfl,eo2.val.int_inv,nF,by rw[AQ.length];exact hj,?_⟩;obtain⟨k1,k2,k3⟩:=fk.chg hm hr h1 nF (AQ.set j hx);exact q _ _ (SO.go (er.dA (eo.ext.trans eo2.ext)) (λb z=>.inl z) (fk.C9 (eo.ext.trans eo2.ext)) ⟨⟨o,oi,k1,λb z=>.inl z⟩,k2,k3⟩)
 |_=>rw[hd]at q;exact q.elim
theorem Kv{i:Nat}{k v:C}{st:Stmt}(hm:fH Γ i=true)(h:PS X st (rD (NQ X.K "list" Mx.JI (mS i) (vI (bV Φ Γ F g.fr k) (vI (bV Φ Γ F g.fr v) GD))))):PS X st (ka Φ Γ F W fF (.ins i k v)):=bE h λD σ H q=>by
 obtain⟨o,ρ,S,oi,er,q⟩:=q;unfold ex at q;obtain⟨gl,q⟩:=aN q;obtain⟨ds,hr⟩:=o9 gl;obtain⟨a,xs,h1,h2,h3⟩:=iG er hm hr;rw[aa]at q;refine⟨.ref a,h1,.inl ⟨rfl,_,df.of h2⟩,o,ρ,S,er,ag q λp _ q y H1 eo aF=>?_⟩;rw[aa]at q;refine⟨o,ρ,p.2,aF,ag q λp2 _ q x H2 eo2 fk=>?_⟩;obtain⟨gs,q⟩:=aN q;rw[aa]at q;obtain⟨mG,e1,q⟩:=kC q;rw[hr]at e1;cases e1;obtain⟨gz,q⟩:=aN q;obtain⟨a',xx,nE,nF,AQ⟩:=iG fk hm hr;rw[h1]at nE;cases nE;cases hd:p.1 with
 |int n=>rw[hd]at q eo;simp only at q;obtain⟨gn,q⟩:=aN q;rw[Ry]at gn;have n0:=RA gn.1;have nl:=RA gn.2;have lC:=dJ;have AZ:=Vv;have Qj:lim=1000000:=rfl;have IC:=RA gz;have hx:=jw gs eo2;refine⟨a,xx,n.toNat,x,rfl,by rw[eo.val.int_inv,Int.toNat_of_nonneg n0],nF,by rw[AQ.length];exact nl,by rw[AQ.length];lia,?_⟩;obtain⟨k1,k2,k3⟩:=fk.chg hm hr h1 nF ((AQ.take n.toNat).append (aq.cons hx (AQ.drop n.toNat)));exact q _ _ (SO.go (er.dA (eo.ext.trans eo2.ext)) (λb z=>.inl z) (fk.C9 (eo.ext.trans eo2.ext)) ⟨⟨o,oi,k1,λb z=>.inl z⟩,k2,k3⟩)
 |_=>rw[hd]at q;exact q.elim
theorem Ks{c:C}{st:Stmt}(h:PS X st (rD (bV Φ Γ F g.fr c))):PS X st (ka Φ Γ F W fF (.HN c)):=bE h λD σ H q=>by obtain⟨o,ρ,S,oi,er,q⟩:=q;unfold ex at q;rw[aa]at q;exact⟨o,ρ,S,er,ag q λp _ q v H1 eo aF=>q _ _ (SO.gi oi aF eo.ext)⟩
theorem GN{is:List Nat}{c:C}{st:Stmt}(hK:Φ.K=X.K)(hp:∀i∈is,plainS Γ i=true)(h:PS X st (pP (bV Φ Γ F g.fr c) (Mx.uJ X.K is.length (rE is)))):PS X st (ka Φ Γ F W fF (.asgT is c)):=bE h λD σ H q=>by obtain⟨o,ρ,S,oi,er,q⟩:=q;unfold ex at q;rw[aa]at q;refine⟨o,ρ,S,er,ag q λp _ q v H1 eo aF=>?_⟩;obtain⟨gs,q⟩:=aN q;rw[aa]at q;obtain⟨ρ1,hρ,q⟩:=lM (Ae _ _ _) q;rw[<-hK];exact CM aF hp (jw gs eo) hρ λσ1 fk _=>q _ _ (SO.gi oi fk eo.ext)
theorem ER.h0{a:Addr}(oi:OI Φ W o)(er:ER Φ Γ o ρ S σ H)(h:H a=none):Φ.H0 a=none:=by
 cases q:Φ.H0 a with
 |none=>rfl
 |some x=>
  by_cases AV:Φ.d0=some a
  ·obtain⟨y,hy⟩:=er.al a (er.da a (oi.d a AV));rw[h]at hy;cases hy
  ·rw[er.ent.kp a x q AV]at h;cases h
theorem DR{c:C}{st:Stmt}(hf:fF=true->fresh g.fr c=true)(h:PS X st (GE (bV Φ Γ F g.fr c))):PS X st (ka Φ Γ F W fF (.ret c)):=bE h λD σ H q=>by
 obtain⟨o,ρ,S,oi,er,q⟩:=q;unfold ex at q;rw[aa]at q;refine⟨o,ρ,S,er,ag q λp BF q v H1 eo aF=>?_⟩;have hw:∀b,W b->o.wd b:=λb z=>.inl (by rw[oi.w];exact z)
 refine q _ _ ⟨eo.val.weak hw,aF.ent,λa ha=>aF.drw a (oi.d a ha),λhfF ds ed=>?_⟩;obtain⟨a,xs,h1,h2,h3,h4,_⟩:=eo.j7 (hf hfF) ds ed;exact⟨a,xs,h1,er.h0 oi h2,h3,h4.weak λb z=>z.imp (hw b) id⟩
theorem GQ{i:Nat}{st:Stmt}(hm:fH Γ i=true)(hκ:Γ.κ≠some i)(h:PS X st (GE (mS i))):PS X st (ka Φ Γ F W fF (.ret (.mvr i))):=bE h λD σ H q=>by
 obtain⟨o,ρ,S,oi,er,q⟩:=q;unfold ex ev at q;rw[aa,aa]at q;obtain⟨d,hd,q⟩:=oY q;obtain⟨v,k1,k2⟩:=er.val i d hd;rw[Vl hm]at k2;have hw:∀b,W b->o.wd b:=λb z=>.inl (by rw[oi.w];exact z)
 have QC:∀b,W b->o.A b:=λb z=>er.wa b (by rw[oi.w];exact z)
 refine⟨v,k1,q _ _ ⟨(k2.val (er.nd hd hκ) er.wa er.da).weak hw,er.ent,λa ha=>er.drw a (oi.d a ha),λhfF ds ed=>?_⟩⟩;simp only at ed;subst ed;obtain⟨a,xs,e1,e2,e3,e4,e5,e6,e7⟩:=k2;exact⟨a,xs,e1,e6,e2,e7.weak λb z=>z.elim (QC b) λy=>by rw[y];exact e3⟩
theorem GR{st:Stmt}(h:PS X st DL):PS X st (ka Φ Γ F W fF .retN):=bE h λD σ H q=>by obtain⟨o,ρ,S,oi,er,q⟩:=q;exact q _ _ ⟨RV.iD,er.ent,λa ha=>er.drw a (oi.d a ha),λ_ ds ed=>by cases ed⟩
theorem GO{st:Stmt}(h:PS X st Ao):PS X st (ka Φ Γ F W fF .pas):=bE h λD σ H q=>by obtain⟨o,ρ,S,oi,er,q⟩:=q;exact q _ _ (SO.gi oi er ba.refl)
theorem Kp{st:Stmt}(h:PS X st An):PS X st (ka Φ Γ F W fF .brk):=bE h λD σ H q=>by obtain⟨o,ρ,S,oi,er,q⟩:=q;exact q _ _ (SO.gi oi er ba.refl)
theorem Kr{st:Stmt}(h:PS X st DJ):PS X st (ka Φ Γ F W fF .cnt):=bE h λD σ H q=>by obtain⟨o,ρ,S,oi,er,q⟩:=q;exact q _ _ (SO.gi oi er ba.refl)
theorem cX.go{o':Ow}{H1:Hp}{D D':Ends}{p:Fl×ah×Sx}(e:ba o.A H H1)(hA:∀b,o'.A b->o.A b\/H b=none)(xm:∀b x,H b=some x->∃y,H1 b=some y)
  (hn:∀σ' H',D.nx σ' H'->D'.nx σ' H') (hb:∀σ' H',D.bk σ' H'->D'.bk σ' H') (hc:∀σ' H',D.ct σ' H'->D'.ct σ' H') (hr:∀v H',D.rt v H'->D'.rt v H') (h:cX Φ Γ W fF o H D p):cX Φ Γ W fF o' H1 D' p:=by
 unfold cX at h ⊢;cases hp:p.1 with
 |next=>rw[hp]at h;exact λσ' H' so=>hn _ _ (h σ' H' (SO.go e hA xm so))
 |brk=>rw[hp]at h;exact λσ' H' so=>hb _ _ (h σ' H' (SO.go e hA xm so))
 |cnt=>rw[hp]at h;exact λσ' H' so=>hc _ _ (h σ' H' (SO.go e hA xm so))
 |ret d=>rw[hp]at h;exact λv H' ro=>hr _ _ (h v H' ro)
theorem AI:vU X [] (kb Φ Γ F W fF .nil):=vo Cu λD σ H q=>by obtain⟨o,ρ,S,oi,er,q⟩:=q;exact q _ _ (SO.gi oi er ba.refl)
theorem CV{st:Stmt}{pO:List Stmt}{t:T}{ts:Ts}(h1:PS X st (ka Φ Γ F W fF t))(h2:vU X pO (kb Φ Γ F W fF ts)):vU X (st::pO) (kb Φ Γ F W fF (.cons t ts)):=vo (zP h1 h2) λD σ H q=>by
 obtain⟨o,ρ,S,oi,er,q⟩:=q;unfold aU at q;rw[aa]at q;refine⟨o,ρ,S,oi,er,ag q λp _ q=>?_⟩;unfold cX;cases hp:p.1 with
 |next=>rw[hp]at q;intro σ1 H1 so;obtain⟨⟨o1,Nb,aF,Me⟩,e1,a1⟩:=so;exact⟨o1,p.2.1,p.2.2,Nb,aF,ag q λp2 _ q=>cX.go e1 Me a1 (λ_ _ z=>z) (λ_ _ z=>z) (λ_ _ z=>z) (λ_ _ z=>z) q⟩
 |brk=>rw[hp]at q;exact q
 |cnt=>rw[hp]at q;exact q
 |ret d=>rw[hp]at q;exact q
theorem Ku{t:C}{a b:Ts}{st:Stmt}(h:PS X st (Kf (fL Φ Γ F t) (kb Φ Γ F W fF a) (kb Φ Γ F W fF b))):PS X st (ka Φ Γ F W fF (.ifs t a b)):=bE h λD σ H q=>by
 obtain⟨o,ρ,S,oi,er,q⟩:=q;unfold ex at q;rw[aa]at q;refine⟨o,ρ,S,er,ag q λp _ q H1 e1 aF=>?_⟩;have go:∀{ts:Ts},mR Φ.Ek (aU F ts ρ p.2) (cX Φ Γ W fF o H D)->kb Φ Γ F W fF ts D σ H1:=λq=>⟨o,ρ,p.2,oi,aF,ag q λp2 _ q=>cX.go (er.dA e1) (λb z=>.inl z) (aF.C9 e1) (λ_ _ z=>z) (λ_ _ z=>z) (λ_ _ z=>z) (λ_ _ z=>z) q⟩
 cases hp:p.1 with
 |true=>rw[hp]at q;exact IW (go q)
 |false=>rw[hp]at q;exact IV (go q)
theorem Kt{tg:Tg}{it:mX}{b:Ts}{st:Stmt}(hK:Φ.K=X.K)(hp:∀i∈aY tg,plainS Γ i=true)(h:PS X st (Ke (pR Φ Γ F it) (DM X.K tg) (kb Φ Γ F W fF b))):PS X st (ka Φ Γ F W fF (.fr tg it b)):=bE h λD σ H q=>by
 obtain⟨o,ρ,S,oi,er,q⟩:=q;unfold ex at q;rw[aa]at q;refine⟨o,ρ,S,er,ag q λp _ q J H1 io aF=>?_⟩;obtain⟨gs,q⟩:=aN q;have wk:Wk Φ.K o.A o.A J H1 p.1:=(SN.mp gs).elim (λz=>io.w0 (RA z)) io.w2;refine⟨λi m σ2 H2=>m=p.1.length-i/\i<=p.1.length/\∃o2 ρ2 S2,OI Φ W o2/\ER Φ Γ o2 ρ2 S2 σ2 H2/\ba o.A H1 H2/\(∀b,o2.A b->o.A b\/H1 b=none)/\(∀b x,H1 b=some x->∃y,H2 b=some y)/\mR Φ.Ek (forL tg (aU F b) (p.1.drop i) ρ2 S2) (cX Φ Γ W fF o H D),
  ⟨_,rfl,U1 _,o,ρ,p.2,oi,aF,ba.refl,λb z=>.inl z,λb x hx=>⟨x,hx⟩,q⟩,?_⟩
 rintro i m σ2 H2 ⟨rfl,hi,o2,ρ2,S2,K8,fk,e2,Ih,N9,q⟩;have eH:ba o.A H H2:=(er.dA io.ext).trans e2;have aH:∀b x,H b=some x->∃y,H2 b=some y:=λb x hx=>by obtain⟨y,hy⟩:=aF.C9 io.ext b x hx;exact N9 b y hy
 have A1:∀b,o2.A b->o.A b\/H b=none:=λb z=>(Ih b z).imp id λq=>by
  cases hb:H b with
  |none=>rfl
  |some x=>obtain⟨y,hy⟩:=aF.C9 io.ext b x hb;rw[q]at hy;cases hy
 by_cases cO:i<p.1.length
 ·refine .inr ⟨wk.go i H2 cO e2,?_⟩;have hd:∃d,p.1[i]?=some d:=⟨p.1[i],by simp[cO]⟩;obtain⟨d0,AV⟩:=hd;have LW:p.1.drop i=d0::p.1.drop (i+1):=by rw[Tx cO];congr 1;exact(RB.mp AV).2
  rw[LW]at q;unfold forL at q;rw[aa]at q;obtain⟨ρ3,hρ,q⟩:=lM (rm _ _ _) q;rw[aa]at q;refine⟨λσ3 H3=>i+1<=p.1.length/\∃o3 ρ3 S3,OI Φ W o3/\ER Φ Γ o3 ρ3 S3 σ3 H3/\ba o.A H1 H3/\(∀b,o3.A b->o.A b\/H1 b=none)/\(∀b x,H1 b=some x->∃y,H3 b=some y)/\mR Φ.Ek (forL tg (aU F b) (p.1.drop (i+1)) ρ3 S3) (cX Φ Γ W fF o H D),λσ3 H3 z=>⟨p.1.length-(i+1),by lia,rfl,z⟩,λx H3 y=>?_⟩;obtain⟨s3,d,hd,hx⟩:=wk.yld i x H2 H3 cO e2 y;rw[AV]at hd;cases hd;have za:=hx o2.A Ih;rw[<-hK];refine Aq (fk.grow s3) hp za hρ λσ4 L4 _=>?_
  refine⟨o2,ρ3,S2,K8,L4,ag q λp2 _ q=>?_⟩;have again:∀{σ5:L2.St}{H5:Hp},SO Φ Γ W o2 H3 p2.2.1 p2.2.2 σ5 H5->mR Φ.Ek (forL tg (aU F b) (p.1.drop (i+1)) p2.2.1 p2.2.2) (cX Φ Γ W fF o H D)->i+1<=p.1.length/\∃o3 ρ3 S3,OI Φ W o3/\ER Φ Γ o3 ρ3 S3 σ5 H5/\ba o.A H1 H5/\(∀b,o3.A b->o.A b\/H1 b=none)/\(∀b x,H1 b=some x->∃y,H5 b=some y)/\mR Φ.Ek (forL tg (aU F b) (p.1.drop (i+1)) ρ3 S3) (cX Φ Γ W fF o H D):=λ {σ5 H5} so q=>by have QU:=SO.go (o:=o) (H:=H1) (e2.trans (ba.of_same s3)) Ih (λb x hx=>by obtain⟨y,hy⟩:=N9 b x hx;exact⟨y,s3 _ _ hy⟩) so;obtain⟨⟨o5,QP,KJ,PN⟩,e5,a5⟩:=QU;exact⟨cO,o5,_,_,QP,KJ,e5,PN,a5,q⟩
  unfold cX;cases fX:p2.1 with
  |next=>rw[fX]at q;exact λσ5 H5 so=>again so q
  |cnt=>rw[fX]at q;exact λσ5 H5 so=>again so q
  |brk=>rw[fX]at q;intro σ5 H5 so;have q:cX Φ Γ W fF o H D (.next,p2.2):=q;unfold cX at q;exact q σ5 H5 (SO.go (eH.trans (ba.of_same s3)) A1 (λb x hx=>by obtain⟨y,hy⟩:=aH b x hx;exact⟨y,s3 _ _ hy⟩) so)
  |ret d=>rw[fX]at q;have q:cX Φ Γ W fF o H D (.ret d,p2.2):=q;exact q
 ·have e:i=p.1.length:=⋯
  subst e;rw[List.drop_length]at q;have q:cX Φ Γ W fF o H D (.next,ρ2,S2):=q;unfold cX at q;exact .inl ⟨wk.stop H2 e2,q _ _ ⟨⟨o2,K8,fk,A1⟩,eH,aH⟩⟩
end
noncomputable def HD(L:List (List Int))(b:C):C:=.bi .list (.cons (.idx (.con (.tup (L.map λl=>.tup (l.map Dt.int)))) b) .nil)
noncomputable def Ng:Expr->Option (List (List Int)×Expr)
 |.Subscript (.List es _) b _=>(Mx.nQ es).bind λL=>if decide (L.length<=1000)&&L.all (λl=>decide (l.length<=1000)) then some (L,b) else none
 |_=>none
theorem F3{e b:Expr}{L:List (List Int)}(h:Ng e=some (L,b)):∃es p pos,e= .Subscript (.List es p) b pos/\Mx.nQ es=some L/\L.length<=1000/\∀l∈L,l.length<=1000:=by
 unfold Ng at h;split at h
 ·obtain⟨L',h1,h⟩:=Rt.mp h;split at h
  ·rename_i hc;cases h;rw[Ry]at hc;exact⟨_,_,_,rfl,h1,RA hc.1,λl hl=>RA (Sh.mp hc.2 l hl)⟩
  ·cases h
 ·cases h
section
variable{X:Cx}{Φ:Fm}{Γ:Gm}{F:FT}{g:G}
theorem JC{L:List (List Int)}{b:C}{ρ:ah}{S:Sx}:ev F (HD L b) ρ S=(ev F b ρ S).bind λx=>(cT (.tup (L.map λl=>.tup (l.map Dt.int))) x.1).bind λd=>(eD .list [d]).bind λz=>.ok (z,x.2):=by
 rw[HD,ev,gS,ev,ev,R.af];cases ev F b ρ S with
 |ok x=>
  rw[R.af,R.af];cases cT (.tup (L.map λl=>.tup (l.map Dt.int))) x.1 with
  |ok d=>rw[R.af,R.af,R.af,gS,R.af];rfl
  |ex k=>rfl
  |bad=>rfl
 |ex k=>rfl
 |bad=>rfl
theorem rh{K:Frag}{A:Addr->Prop}{H:Hp}:∀l:List Int,aq K A H (l.map V.int) (l.map Dt.int)
 |[]=>aq.nil
 |_::l=>aq.cons RV.cU (rh l)
theorem JY{es:List Expr}{L:List (List Int)}{b:Expr}{b':C}{p1 pos:Pos}(hL:Mx.nQ es=some L)(l1:L.length<=1000)(l2:∀l∈L,l.length<=1000)(hs:kc b)(hb:PE X b (bV Φ Γ F g.fr b')):PE X (.Subscript (.List es p1) b pos) (bV Φ Γ F g.fr (HD L b')):=by
 have AZ:=Vv;refine bz (DB pf (tE (Mx.vh hL λl hl=>by have:=l2 l hl;lia)) hb hs) λσ H Q q=>?_
 obtain⟨o,ρ,S,er,q⟩:=q;rw[JC,aa]at q;intro as H1 sm hl hk;refine⟨by rw[RI,hl];lia,λp hp=>?_⟩;have s2:=sm.trans (Mx.b9 hp (.lst (as.map V.ref)));refine⟨o,ρ,S,er.grow s2,ag q λx _ q y H3 eo Ez=>?_⟩;rw[aa]at q;obtain⟨z,hz,q⟩:=ja (uQ _ _) q;have nA:∀c,H c=none->¬o.A c:=λc hc w=>by obtain⟨u,hu⟩:=er.al c w;rw[hc]at hu;cases hu
 have nd:∀c,H c=none->¬o.d c:=λc hc w=>nA c hc (er.da c w)
 have Qq:H p=none:=by
  cases h:H p with
  |none=>rfl
  |some u=>have:=sm p u h;rw[hp]at this;cases this
 cases hx:x.1 with
 |int i=>
  rw[hx]at hz;have hz:sf (L.map λl=>Dt.tup (l.map Dt.int)) i= .ok z:=hz;unfold sf at hz;cases ha:kT (L.map λl=>Dt.tup (l.map Dt.int)) i with
  |none=>rw[ha]at hz;cases hz
  |some d=>
   rw[ha]at hz;cases hz;unfold kT at ha;rw[RI]at ha;cases hi:pd L.length i with
   |none=>rw[hi]at ha;cases ha
   |some j=>
    rw[hi]at ha;have ha:(L.map λl=>Dt.tup (l.map Dt.int))[j]?=some z:=ha;rw[RW]at ha;obtain⟨l,OE,rfl⟩:=RP.mp ha;have Mu:j<as.length:=by rw[hl];exact(RB.mp OE).1
    have Ou:as[j]?=some as[j]:=R4 Mu;obtain⟨f1,f2⟩:=hk j as[j] l Ou OE;have g2:H3 as[j]=some (.lst (l.map V.int)):=eo.ext.kp _ _ ((Mx.b9 hp (.lst (as.map V.ref))) _ _ f2) (nd _ f1);have g1:H3 p=some (.lst (as.map V.ref)):=eo.ext.kp _ _ aM (nd _ Qq);have hy:y= .int i:=by have:=eo.val;rw[hx]at this;exact this.int_inv
    have q:∀v H',EO Φ.K g.fr o (HD L b') H (.lst (l.map Dt.int)) v H'->ER Φ Γ o ρ x.2 σ H'->Q v H':=q;have rv:∀A:Addr->Prop,aq Φ.K A H3 (l.map V.int) (l.map Dt.int):=λA=>rh l
    have val:∀A:Addr->Prop,(∀c,H c=none->¬A c)->RV Φ.K A H3 (.ref as[j]) (.lst (l.map Dt.int)):=λA hA=>RV.d8 g2 (hA _ f1) (rv A)
    have nw:∀c,H c=none->¬o.wd c:=λc hc w=>by obtain⟨u,hu⟩:=er.ua c w;rw[hc]at hu;cases hu
    refine⟨p,as.map V.ref,i,.ref as[j],rfl,hy,df.of g1,?_,q _ _ ⟨(ba.of_same s2).trans eo.ext,val _ nw,λ_=>val _ nA,λ_=>(val _ nA).one,λ_ ds e=>?_⟩ Ez⟩
    ·unfold kT;rw[RI,hl,hi];show (as.map V.ref)[j]?=_;rw[RW,Ou];rfl
    ·cases e;exact⟨as[j],l.map V.int,rfl,f1,g2,rv _,λ_=>rv _⟩
 |_=>rw[hx]at hz;cases hz
end
noncomputable def ze:Expr->Bool
 |.Tuple ..=>true
 |.List ..=>true
 |_=>false
noncomputable def lD:Expr->Bool
 |.ListComp ..=>true
 |.SetComp ..=>true
 |.DictComp ..=>true
 |_=>false
noncomputable def En(n:Nat)(g:G)(Γ:Gm)(i:Nat)(e:Expr):Option T:=match e with
 |.Name y p=>match slot Γ y with
  |some j=>if fH Γ j then none else(cE n g Γ (.Name y p)).bind λc=>some (.asg i c)
  |none=>(cE n g Γ (.Name y p)).bind λc=>some (.asg i c)
 |e=>(cE n g Γ e).bind λc=>some (if fresh g.fr c&&lk c != 0 then .asgM i c else .asg i c)
noncomputable def Ep(n:Nat)(g:G)(Γ:Gm)(fF:Bool)(e:Expr):Option T:=match e with
 |.Name y p=>match slot Γ y with
  |some j=>if fH Γ j then(if Γ.δ==some j||Γ.κ==some j then none else some (.ret (.mvr j))) else(cE n g Γ (.Name y p)).bind λc=>if fF then none else some (.ret c)
  |none=>(cE n g Γ (.Name y p)).bind λc=>if fF then none else some (.ret c)
 |e=>(cE n g Γ e).bind λc=>if !fF||fresh g.fr c then some (.ret c) else none
mutual
noncomputable def cS:Nat->G->Gm->Bool->Bool->Stmt->Option T
 |0,_,_,_,_,_=>none
 |n+1,g,Γ,dp,fF,st=>match st with
  |.Assign tgs e _=>match tgs with
   |[.Name x _]=>(hV Γ x).bind λi=>
     if Γ.δ==some i then none
     else if fH Γ i then(if Γ.κ==some i then none else match Ng e with
      |some (L,b)=>(cE n g Γ b).bind λb'=>some (.asgM i (HD L b'))
      |none=>(cE n g Γ e).bind λc=>if fresh g.fr c then some (.asgM i c) else none)
     else En n g Γ i e
   |[.Tuple es _ _]=>if ze e then none else(fZ Γ es).bind λis=>(cE n g Γ e).bind λc=>some (.asgT is c)
   |[.Subscript (.Name x _) k _]=>(slot Γ x).bind λi=>if fH Γ i then(cE n g Γ e).bind λv'=>(cE n g Γ k).bind λk'=>if Γ.κ==some i then none else some (.Ac i k' v') else none
   |_=>none
  |.Expr ex _=>match ex with
   |.Call (.Attribute (.Name x _) m ap) [a] [] cp=>(slot Γ x).bind λi=>if fH Γ i&&ap.endLine==cp.line then(cE n g Γ a).bind λa'=>
     (if m==("append":Str) then some (.app i a') else none) else none
   |.Call (.Attribute (.Name x _) m ap) [] [] cp=>(slot Γ x).bind λi=>if fH Γ i&&ap.endLine==cp.line&&m==("clear":Str) then some (.clr i) else none
   |.Call (.Attribute (.Name x _) m ap) [a,b] [] cp=>(slot Γ x).bind λi=>if fH Γ i&&ap.endLine==cp.line&&m==("insert":Str) then(cE n g Γ a).bind λa'=>(cE n g Γ b).bind λb'=>some (.ins i a' b') else none
   |e=>if lD e then none else(cE n g Γ e).bind λc=>some (.HN c)
  |.Return (some e) _=>Ep n g Γ fF e
  |.Return none _=>some .retN
  |.If t a b _=>(cE n g Γ t).bind λt'=>(Er n g Γ dp fF a).bind λa'=>(Er n g Γ dp fF b).bind λb'=>some (.ifs t' a' b')
  |.For tg it b els _=>match els with
   |[]=>(cI n g Γ tg it).bind λkz=>(qh Γ tg).bind λmf=>(Er n g Γ dp fF b).bind λb'=>some (.fr mf kz b')
   |_=>none
  |.Raise _ _ _=>some (.rs 0 [])
  |.Break _=>some .brk
  |.Continue _=>some .cnt
  |.Pass _=>some .pas
  |_=>none
noncomputable def Er:Nat->G->Gm->Bool->Bool->List Stmt->Option Ts
 |0,_,_,_,_,_=>none
 |n+1,g,Γ,dp,fF,pO=>match pO with
  |[]=>some .nil
  |st::pO=>(cS n g Γ dp fF st).bind λt=>(Er n g Γ dp fF pO).bind λts=>some (.cons t ts)
end
section
variable{g:G}{xv:Nat->Value}{CX:kP}{k:Nat}{F:FT}{X:Cx}{Φ:Fm}{Γ:Gm}{W:Addr->Prop}
theorem rB{e:Expr}(h:lD e=false)(t:Option Expr)(l:Nat)(env:Env):swapsWith e t l env=pure false:=by cases e<;>first|rfl|(simp[lD]at h)
theorem og{e:Expr}{t:Expr}(ht:∀x p,t≠ .Name x p)(l:Nat)(env:Env):swapsWith e (some t) l env=pure false:=by cases e<;>first|rfl|(cases t<;>first|rfl|exact absurd rfl (ht _ _))
theorem qj{n:Nat}{elt:Expr}{gens:List Comprehension}{sc:Scope}{fS:Pos}{c:C}(h:cE (n+1) g Γ (.ListComp elt gens sc fS)=some c):sc.kind= .function/\xU sc.names Γ.names (a8 Γ sc).1.N Γ.N (a8 Γ sc).2=true/\(a8 Γ sc).1.N.Nodup/\
  ((∃tg it ifs kz mf pV e',gens=[⟨tg,it,ifs,0⟩]/\cI n g Γ tg it=some kz/\qh (a8 Γ sc).1 tg=some mf/\Bq n g (a8 Γ sc).1 ifs=some pV/\cE n g (a8 Γ sc).1 elt=some e'/\c= .comp (a8 Γ sc).2 kz mf pV e')\/
   (∃tg it ifs jM g6 cC kz mf pV qC mh rH e',gens=[⟨tg,it,ifs,0⟩,⟨jM,g6,cC,0⟩]/\cI n g Γ tg it=some kz/\qh (a8 Γ sc).1 tg=some mf/\Bq n g (a8 Γ sc).1 ifs=some pV/\cI n g (a8 Γ sc).1 jM g6=some qC/\qh (a8 Γ sc).1 jM=some mh/\Bq n g (a8 Γ sc).1 cC=some rH/\cE n g (a8 Γ sc).1 elt=some e'/\
   (∀i∈aY mh,i∉aY mf)/\c= .gZ (a8 Γ sc).2 kz mf pV qC mh rH e')):=by
 unfold cE at h;simp only at h;split at h
 ·rename_i hk;split at h
  ·rename_i tg it ifs;obtain⟨kz,h1,h⟩:=Rt.mp h;obtain⟨mf,h2,h⟩:=Rt.mp h;obtain⟨pV,h3,h⟩:=Rt.mp h;obtain⟨e',h4,h⟩:=Rt.mp h;split at h
   ·rename_i hb;cases h;rw[Ry]at hb;exact⟨R3 hk,hb.1,RA hb.2,.inl ⟨tg,it,ifs,kz,mf,pV,e',rfl,h1,h2,h3,h4,rfl⟩⟩
   ·cases h
  ·rename_i tg it ifs jM g6 cC;obtain⟨kz,h1,h⟩:=Rt.mp h;obtain⟨mf,h2,h⟩:=Rt.mp h;obtain⟨pV,h3,h⟩:=Rt.mp h;obtain⟨qC,h5,h⟩:=Rt.mp h;obtain⟨mh,h6,h⟩:=Rt.mp h;obtain⟨rH,h7,h⟩:=Rt.mp h;obtain⟨e',h4,h⟩:=Rt.mp h;split at h
   ·rename_i hb;cases h;rw[Ry,Ry]at hb;refine⟨R3 hk,hb.1.1,RA hb.1.2,.inr ⟨tg,it,ifs,jM,g6,cC,kz,mf,pV,qC,mh,rH,e',rfl,h1,h2,h3,h5,h6,h7,h4,λi hi z=>?_,rfl⟩⟩;have:=Sh.mp hb.2 i hi;simp[z]at this
   ·cases h
  ·cases h
 ·cases h
theorem jo{n i:Nat}{x:Str}{e:Expr}{c:C}{pos' pos:Pos}(gx:GX g Γ X)(hX:HX g xv CX k F Φ X)(hs:hV Γ x=some i)(h:cE n g Γ e=some c):PS X (.Assign [.Name x pos'] e pos) (pP (bV Φ Γ F g.fr c) (eM i)):=by
 have S:=ju (F:=F) n Γ X Φ gx hX;obtain⟨a1,a2,a3⟩:=jt hs;obtain⟨l1,l2⟩:=gx.loc x a1;have hN:X.N.Nodup:=gx.N▸gx.nd;have hi:X.N[i]?=some x:=by rw[gx.N];exact a3
 by_cases hc:lD e=true
 ·cases n with
  |zero=>simp[cE]at h
  |succ n=>
   cases e with
   |ListComp elt gens sc fS=>
    have P1:=(S.e _ _ h).1;obtain⟨hk,hb,jY,Iv⟩:=qj h;cases E5:(X.env.blockKind== .function&&X.env.kindOf x==some .local&&pos'.line==(Expr.ListComp elt gens sc fS).pos.line&& !(sc.names.any λ(n,k)=>n==x&&(k== .local||k== .cell))) with
    |false=>exact tN hN hi l1 P1 (by show pure (X.env.blockKind== .function&&X.env.kindOf x==some .local&&pos'.line==(Expr.ListComp elt gens sc fS).pos.line&& !(sc.names.any λ(n,k)=>n==x&&(k== .local||k== .cell)))=_;rw[E5]) l2
    |true=>
     have hl:X.env.kindOf x=some .local:=by rw[Ry,Ry,Ry]at E5;exact R3 E5.1.1.2
     have B:=sD gx hk hb;have S1:=ju (F:=F) n Γ X Φ gx hX;have J:=λC s H fp=>ju (F:=F) n (a8 Γ sc).1 (gR X sc (a8 Γ sc).1.N C s H fp (xu X sc (a8 Γ sc).1.N (mW Φ xv) C s H fp)) Φ (fv gx B jY) (sS hX)
     rcases Iv with ⟨tg,it,ifs,kz,mf,pV,e',rfl,h1,h2,h3,h4,rfl⟩|⟨tg,it,ifs,jM,g6,cC,kz,mf,pV,qC,mh,rH,e',rfl,h1,h2,h3,h5,h6,h7,h4,IA,rfl⟩
     ·refine bE (j3 (xb:=xu X sc (a8 Γ sc).1.N (mW Φ xv)) (body:=λacc env=>ij elt acc env) (i:=i) gx.calm hN hi hl B (kO hX.st hX.xgx) (S1.i _ _ _ h1).1 (λpX acc env=>rJ ..) (λC s H fp=>tQ (fv gx B jY) h2) (λC s H fp=>(J C s H fp).ts _ _ h3) (λC s H fp D=>kF ((J C s H fp).e _ _ h4).1) (iz (S1.i _ _ _ h1).2 _) ?_) λD σ H q=>zX hX.K B jY h2 q
      show pure (X.env.blockKind== .function&&X.env.kindOf x==some .local&&pos'.line==(Expr.ListComp elt [⟨tg,it,ifs,0⟩] sc fS).pos.line&& !(sc.names.any λ(n,k)=>n==x&&(k== .local||k== .cell)))=_;rw[E5]
     ·refine bE (j3 (xb:=xu X sc (a8 Γ sc).1.N (mW Φ xv)) (body:=λacc env=>nextOf (.ListComp elt [⟨tg,it,ifs,0⟩,⟨jM,g6,cC,0⟩] sc fS) 1 g6 acc env) (i:=i) gx.calm hN hi hl B (kO hX.st hX.xgx) (S1.i _ _ _ h1).1 (λpX acc env=>rK ..) (λC s H fp=>tQ (fv gx B jY) h2) (λC s H fp=>(J C s H fp).ts _ _ h3)
       (λC s H fp D=>vi gx.calm (vf hX.st) ((J C s H fp).i _ _ _ h5).1 (tQ (fv gx B jY) h6) ((J C s H fp).ts _ _ h7) (kF ((J C s H fp).e _ _ h4).1) (iz ((J C s H fp).i _ _ _ h5).2 _)) (iz (S1.i _ _ _ h1).2 _) ?_) λD σ H q=>vy hX.K B jY h2 h6 IA q
      show pure (X.env.blockKind== .function&&X.env.kindOf x==some .local&&pos'.line==(Expr.ListComp elt [⟨tg,it,ifs,0⟩,⟨jM,g6,cC,0⟩] sc fS).pos.line&& !(sc.names.any λ(n,k)=>n==x&&(k== .local||k== .cell)))=_;rw[E5]
   |SetComp=>simp[cE]at h
   |DictComp=>simp[cE]at h
   |_=>simp[lD]at hc
 ·exact tN hN hi l1 (S.e _ _ h).1 (rB (by simpa using hc) _ _ _) l2
structure Lx(g:G)(F:FT)(n:Nat)(Γ:Gm)(X:Cx)(Φ:Fm)(W:Addr->Prop)(dp fF:Bool):Prop where
 s:∀st t,cS n g Γ dp fF st=some t->PS X st (ka Φ Γ F W fF t)
 ss:∀pO ts,Er n g Γ dp fF pO=some ts->vU X pO (kb Φ Γ F W fF ts)
theorem mw{x:Str}{i:Nat}{p:Pos}(gx:GX g Γ X)(h:slot Γ x=some i):PE X (.Name x p) (mS i):=by obtain⟨v1,v2,v3⟩:=vC h;obtain⟨n1,n2,n3⟩:=eS v2;exact zJ (by rw[gx.N];exact v3) (gx.vis x v1) n1 n2
theorem D8{n i:Nat}{x:Str}{e:Expr}{t:T}{pos' pos:Pos}{fF:Bool}(gx:GX g Γ X)(hX:HX g xv CX k F Φ X)(hs:hV Γ x=some i)(hp:plainS Γ i=true)(h:En n g Γ i e=some t):PS X (.Assign [.Name x pos'] e pos) (ka Φ Γ F W fF t):=by
 have Gb:∀{e:Expr}{t:T},((cE n g Γ e).bind λc=>some (T.asg i c))=some t->PS X (.Assign [.Name x pos'] e pos) (ka Φ Γ F W fF t):=λ {e t} h=>by obtain⟨c,h1,h⟩:=Rt.mp h;cases h;exact DQ hp (jo gx hX hs h1)
 unfold En at h;split at h
 ·rename_i y p;split at h
  ·rename_i j hj;split at h
   ·cases h
   ·exact Gb h
  ·exact Gb h
 ·obtain⟨c,h1,h⟩:=Rt.mp h;cases h;split
  ·rename_i hf;rw[Ry]at hf;exact GM hp hf.1 (jo gx hX hs h1)
  ·exact DQ hp (jo gx hX hs h1)
theorem Gc{n:Nat}{e:Expr}{t:T}{pos:Pos}{fF:Bool}(gx:GX g Γ X)(hX:HX g xv CX k F Φ X)(h:Ep n g Γ fF e=some t):PS X (.Return (some e) pos) (ka Φ Γ F W fF t):=by
 have S:=ju (F:=F) n Γ X Φ gx hX;have plain:∀{e:Expr}{t:T},((cE n g Γ e).bind λc=>if fF then none else some (T.ret c))=some t->PS X (.Return (some e) pos) (ka Φ Γ F W fF t):=λ {e t} h=>by
  obtain⟨c,h1,h⟩:=Rt.mp h;split at h
  ·cases h
  ·rename_i hf;cases h;exact DR (λz=>absurd z hf) (tM (S.e _ _ h1).1)
 unfold Ep at h;split at h
 ·rename_i y p;split at h
  ·rename_i j hj;split at h
   ·rename_i hm;split at h
    ·cases h
    ·rename_i hk;cases h;exact GQ hm (λz=>hk (by simp[z])) (tM (mw gx hj))
   ·exact plain h
  ·exact plain h
 ·obtain⟨c,h1,h⟩:=Rt.mp h;split at h
  ·rename_i hf;cases h;refine DR (λz=>?_) (tM (S.e _ _ h1).1);rw[z]at hf;simpa using hf
  ·cases h
theorem Ag{dp fF:Bool}(n:Nat):∀(Γ:Gm)(X:Cx)(Φ:Fm),GX g Γ X->HX g xv CX k F Φ X->(dp=false->Φ.d0=none)->PassesOwn (model X.prog X.w) X.A X.env X.xe->Lx g F n Γ X Φ W dp fF:=by
 induction n with
 |zero=>intro Γ X Φ gx hX hd ho;exact⟨λst t h=>by simp[cS]at h,λst t h=>by simp[Er]at h⟩
 |succ n ih=>
  intro Γ X Φ gx hX hd ho;have I:=ih Γ X Φ gx hX hd ho;have S:=ju (F:=F) n Γ X Φ gx hX;have hK:=hX.K;refine⟨λst t h=>?_,λpO ts h=>?_⟩
  ·unfold cS at h;split at h
   ·split at h
    ·rename_i e pos x xp;obtain⟨i,hs,h⟩:=Rt.mp h;split at h
     ·cases h
     ·rename_i hδ;have hδ':Γ.δ≠some i:=λz=>hδ (by rw[z];exact Vf _)
      split at h
      ·rename_i hm;split at h
       ·cases h
       split at h
       ·rename_i L b hp;obtain⟨b',h1,h⟩:=Rt.mp h;cases h;obtain⟨es,p,pos,he,hL,l1,l2⟩:=F3 hp;subst he;obtain⟨a1,a2,a3⟩:=jt hs;obtain⟨l3,l4⟩:=gx.loc x a1;exact AE hm hδ' rfl (tN (gx.N▸gx.nd) (by rw[gx.N];exact a3) l3 (JY hL l1 l2 (Dh (S.e _ _ h1).2.2) (S.e _ _ h1).1) rfl l4)
       obtain⟨c,h1,h⟩:=Rt.mp h;split at h
       ·rename_i hf;cases h;exact AE hm hδ' hf (jo gx hX hs h1)
       ·cases h
      ·rename_i hm;refine D8 gx hX hs ?_ h;unfold plainS;rw[Ry];exact⟨by simpa using hm,by simpa using hδ'⟩
    ·rename_i e pos tg0 es kk tp;split at h
     ·cases h
     ·rename_i hdisp;obtain⟨is,h1,h⟩:=Rt.mp h;obtain⟨c,h2,h⟩:=Rt.mp h;cases h;have Do:qh Γ (.Tuple es kk tp)=some (.tp is):=by rw[qh,h1];rfl
      refine GN hK (λi hi=>(eZ Do i hi).1) (zN (S.e _ _ h2).1 (JZ gx h1) (show swapsWithSole [Expr.Tuple es kk tp] e pos.line X.env=pure false from og (e:=e) (t:=Expr.Tuple es kk tp) (λx p z=>by cases z) pos.line X.env) ?_);cases e<;>first|rfl|(simp[ze]at hdisp)
    ·rename_i v pos tg0 x xp kx sp;obtain⟨i,hs,h⟩:=Rt.mp h;split at h
     ·rename_i hm;obtain⟨v',h1,h⟩:=Rt.mp h;obtain⟨k',h2,h⟩:=Rt.mp h;have Qg:=(S.e _ _ h2).2.2;split at h
      ·cases h
      ·cases h;refine GT hm (zN (S.e _ _ h1).1 (FZ (mw gx hs) (S.e _ _ h2).1 set_list (by intro _;cases kx<;>first|rfl|(simp[wq]at Qg))) (show swapsWithSole [Expr.Subscript (Expr.Name x xp) kx sp] v pos.line X.env=pure false from og (e:=v) (t:=Expr.Subscript (Expr.Name x xp) kx sp) (λx p z=>by cases z) pos.line X.env) ?_);cases v<;>rfl
     ·cases h
    ·cases h
   ·split at h
    ·rename_i pos x xp m ap a cp;obtain⟨i,hs,h⟩:=Rt.mp h;split at h
     ·rename_i hm;rw[Ry]at hm;obtain⟨a',h1,h9⟩:=Rt.mp h;clear h;have nI:=cA (S.e _ _ h1).2.2 [] X.env;split at h9
      ·rename_i hma;have em:=R3 hma;subst em;cases h9;exact Ko hm.1 (kH (DA PySem.F.plainAttrs_list PySem.F.slot_list_append PySem.F.type_list_append nT (mw gx hs) (cH (S.e _ _ h1).1 gd nI) rfl (by rw[nI];rfl) hm.2 nI rfl))
      ·cases h9
     ·cases h
    ·rename_i pos x xp m ap cp;obtain⟨i,hs,h9⟩:=Rt.mp h;clear h;split at h9
     ·rename_i hm;rw[Ry,Ry]at hm;have em:=R3 hm.2;subst em;cases h9;exact Kq hm.1.1 (kH (FQ PySem.F.plainAttrs_list PySem.F.slot_list_clear PySem.F.type_list_clear zx (mw gx hs) rfl hm.1.2))
     ·cases h9
    ·rename_i pos x xp m ap a b cp;obtain⟨i,hs,h9⟩:=Rt.mp h;clear h;split at h9
     ·rename_i hm;rw[Ry,Ry]at hm;have em:=R3 hm.2;subst em;obtain⟨a',h1,h9⟩:=Rt.mp h9;obtain⟨b',h2,h9⟩:=Rt.mp h9;cases h9;have ha:=cA (S.e _ _ h1).2.2 [b] X.env;have hb:=cA (S.e _ _ h2).2.2 [] X.env;exact Kv hm.1.1 (kH (DA PySem.F.plainAttrs_list PySem.F.slot_list_insert PySem.F.type_list_insert Mx.Fx (mw gx hs) (cH (S.e _ _ h1).1 (cH (S.e _ _ h2).1 gd hb) ha) rfl (by rw[ha,hb];rfl) hm.1.2 ha (by rw[hb];rfl)))
     ·cases h9
    ·split at h
     ·cases h
     ·rename_i hc;obtain⟨c,h1,h⟩:=Rt.mp h;cases h;exact Ks (kH (S.e _ _ h1).1 (rB (by simpa using hc) _ _ _))
   ·exact Gc gx hX h
   ·cases h;exact GR Cr
   ·obtain⟨t',h1,h⟩:=Rt.mp h;obtain⟨a',h2,h⟩:=Rt.mp h;obtain⟨b',h3,h⟩:=Rt.mp h;cases h;exact Ku (JE (S.e _ _ h1).2.1 (I.ss _ _ h2) (I.ss _ _ h3))
   ·split at h
    ·obtain⟨kz,h1,h⟩:=Rt.mp h;obtain⟨mf,h2,h⟩:=Rt.mp h;obtain⟨b',h3,h⟩:=Rt.mp h;cases h;exact Kt hK (λi hi=>(eZ h2 i hi).1) (F5 ho gx.calm (S.i _ _ _ h1).1 (tQ gx h2) (I.ss _ _ h3) (iz (S.i _ _ _ h1).2 _))
    ·cases h
   ·cases h;exact λpins s σ H D I q=>by obtain⟨o,ρ,S,oi,er,m⟩:=q;unfold ex at m;exact m.elim
   ·cases h;exact Kp zO
   ·cases h;exact Kr ra
   ·cases h;exact GO Cq
   ·cases h
  ·unfold Er at h;split at h
   ·cases h;exact AI
   ·obtain⟨t,h1,h⟩:=Rt.mp h;obtain⟨pV,h2,h⟩:=Rt.mp h;cases h;exact CV (I.s _ _ h1) (I.ss _ _ h2)
end
noncomputable def Eo(n:Nat)(g:G)(Γ:Gm)(dp fF:Bool):List Stmt->Option Ts
 |[]=>some .nil
 |st::pO=>(cS n g Γ dp fF st).bind λt=>(Eo n g Γ dp fF pO).bind λts=>some (.cons t ts)
section
variable{g:G}{xv:Nat->Value}{CX:kP}{k:Nat}{F:FT}{X:Cx}{Φ:Fm}{Γ:Gm}{W:Addr->Prop}
theorem GX.dW{Γ:Gm}{X:Cx}{E:Value->Shared->Prop}(gx:GX g Γ X):GX g Γ (X.dW E):=⟨gx.N,gx.nd,gx.vis,gx.loc,gx.gl,gx.fre,gx.calm,gx.un,gx.con,gx.bl⟩
theorem my{X:Cx}{E:Value->Shared->Prop}{E':XK}{e:Value}{s':Shared}(h:oz (X.dW E) E' e s'):oz X E' e s':=by cases h
theorem AG{X:Cx}{E:Value->Shared->Prop}{E':XK}{e:Value}{s':Shared}(h:oz X E' e s'):oz (X.dW E) E' e s':=by cases h
theorem AH{st:Stmt}{pO:List Stmt}{t:T}{ts:Ts}{fF:Bool}(h1:Lw X st (ka Φ Γ F W fF t))(h2:ox X pO (kb Φ Γ F W fF ts)):ox X (st::pO) (kb Φ Γ F W fF (.cons t ts)):=λs σ H D I q=>wR h1 h2 s σ H D I (by
 obtain⟨o,ρ,S,oi,er,q⟩:=q;unfold aU at q;rw[aa]at q;refine⟨o,ρ,S,oi,er,ag q λp _ q=>?_⟩;unfold cX;cases hp:p.1 with
 |next=>rw[hp]at q;intro σ1 H1 so;obtain⟨⟨o1,Nb,aF,Me⟩,e1,a1⟩:=so;exact⟨o1,p.2.1,p.2.2,Nb,aF,ag q λp2 _ q=>cX.go e1 Me a1 (λ_ _ z=>z) (λ_ _ z=>z) (λ_ _ z=>z) (λ_ _ z=>z) q⟩
 |brk=>rw[hp]at q;unfold mR cX at q;exact q
 |cnt=>rw[hp]at q;unfold mR cX at q;exact q
 |ret d=>rw[hp]at q;unfold mR cX at q;exact q)
theorem xQ{dp fF:Bool}{n:Nat}(MA:X.env.scope.names=Γ.names)(gx:GX g Γ X)(hX:HX g xv CX k F Φ X)(hd:dp=false->Φ.d0=none)(own:PassesOwn (model X.prog X.w) X.A X.env X.xe):∀{pO:List Stmt}{ts:Ts},Eo n g Γ dp fF pO=some ts->ox X pO (kb Φ Γ F W fF ts)
 |[],ts,h=>by cases h;exact Ct AI
 |st::pO,ts,h=>by obtain⟨t,h1,h⟩:=Rt.mp h;obtain⟨pV,h2,h⟩:=Rt.mp h;cases h;refine AH ?_ (xQ MA gx hX hd own h2);exact F4 ((Ag (dp:=dp) (fF:=fF) (W:=W) n Γ X Φ gx hX hd own).s _ _ h1)
theorem rd{X:Cx}{E:Value->Shared->Prop}{st:List Stmt}{t:TS}(h:ox (X.dW E) st t)(hx:∀e s',E e s'->X.xe e s'):ox X st t:=λs σ H D I hw=>
 VB (h s σ H D (I.dW _) hw) (λ_ _ q=>q.gu) λe s' z=>hx e s' z
end
section
variable{P:Program}{w:World}{K:Frag}{mg:Str->Option Value}{base:Heap}{g:G}{xv:Nat->Value}{F:FT}{k:Nat}
structure MG(g:G)(mg:Str->Option Value):Prop where
 con:∀x d,g.cons.lookup x=some d->∃u,pY d=true/\mg x=some u/\RelV (rW d) u
 bl:∀x∈g.bls,mg x=none
noncomputable def XG(g:G)(K:Frag)(mg:Str->Option Value)(xv:Nat->Value):Prop:=∀k x ts,g.xs[k]?=some (x,ts)->∃C,xv k= .ref C/\mg x=some (.ref C)/\LA K mg C ts
noncomputable def wV(bo:Bool)(args:List Dt)(n ps:Nat):ah:=(if bo then[none] else[])++args.map some++List.replicate (n-ps) none
theorem lW{bo:Bool}{args:List Dt}{n ps i:Nat}{d:Dt}(h:(wV bo args n ps)[i]?=some (some d)):∃j,args[j]?=some d/\i=j+(if bo then 1 else 0):=by
 unfold wV at h;have tail:∀{i:Nat},(args.map some++List.replicate (n-ps) (none:Option Dt))[i]?=some (some d)->args[i]?=some d:=λ {i} h=>by
  by_cases hi:i<args.length
  ·rw[Sn (by simpa using hi),RW]at h;cases e:args[i]? with
   |none=>rw[e]at h;cases h
   |some a=>rw[e]at h;cases h;rfl
  ·rw[So (by simpa using hi),TX]at h;split at h<;>cases h
 cases bo with
 |false=>simp only[SG,Vj,Us]at h;exact⟨i,tail h,rfl⟩
 |true=>
  simp only[Vm,RN]at h;cases i with
  |zero=>cases h
  |succ i=>have h:(args.map some++List.replicate (n-ps) (none:Option Dt))[i]?=some (some d):=h;exact⟨i,tail h,rfl⟩
theorem nZ{N:List Str}{vs:List V}{i:Nat}{v:V}(h:vs[i]?=some v):(start N vs)[i]?=some (some v):=by unfold L2.start;have hi:=(RB.mp h).1;rw[Sn (by simpa using hi),RW,h];rfl
theorem ym{M:List Bool}{δ:Option Nat}{names:List (Str×NameKind)}{N:List Str}{np:Nat}{bo:Bool}{vs xt:List V}{H:Hp}{W:Addr->Prop}{dr:Option Addr}{args:List Dt}{S:Sx}{Ek:Nat->Prop}{κ:Option Nat}{P:Program}{w:World}
  (hM:∀i,i<np->M[i]?≠some true) (hδ:bo=true->δ=some 0) (Rk:np<=N.length) (hl:vs.length=np)
  (hd:if bo=true then∃(a:Addr)(ns:List Int),vs= .ref a::xt/\dr=some a/\W a/\S=some ns/\H a=some (.lst (ns.map V.int)) else vs=xt/\dr=none/\S=none)
  (ha:aq K W H xt args) (hw:∀a,W a->∃x,H a=some x):ER ⟨K,H,dr,Ek,P,w⟩ ⟨names,N,M,δ,κ⟩ ⟨W,W,dr⟩ (wV bo args N.length np) S (start N vs) H/\args.length+(if bo then 1 else 0)=np:=by
 have uM:=ha.length;have Io:args.length+(if bo then 1 else 0)=np:=by
  cases bo with
  |false=>
   simp only[SG,Vj]at hd ⊢;obtain⟨e,_,_⟩:=hd;subst e
   lia
  |true=>
   simp only[Vm]at hd ⊢;obtain⟨a,ns,e,_⟩:=hd;rw[e]at hl;simp at hl
   lia
 refine⟨⟨?_,λa z=>z,λa z=>?_,hw,λi d h=>?_,λi ks vs h=>?_,λi j a d e hm hm' h1 h2 _ _=>?_,λa z=>?_,λz=>?_,λi a hi z=>?_,λa z=>.inl z,ba.refl⟩,Io⟩
 ·unfold L2.start wV;simp only[RQ,RI,T9];cases bo<;>simp at Io ⊢<;>lia
 ·cases bo with
  |false=>simp only[SG,Vj]at hd;rw[hd.2.1]at z;cases z
  |true=>simp only[Vm]at hd;obtain⟨b,ns,_,e,hb,_⟩:=hd;rw[e]at z;cases z;exact hb
 ·obtain⟨j,hj,rfl⟩:=lW h;obtain⟨v,h1,h2⟩:=ha.getD hj;have Mu:=(RB.mp hj).1;have hm:fH ⟨names,N,M,δ,κ⟩ (j+if bo=true then 1 else 0)=false:=by unfold fH;have:=hM (j+if bo=true then 1 else 0) ⋯;simpa using this
  refine⟨v,nZ ?_,?_⟩
  ·cases bo with
   |false=>simp only[SG,Vj]at hd ⊢;rw[hd.1];exact h1
   |true=>simp only[Vm]at hd ⊢;obtain⟨b,ns,e,_⟩:=hd;rw[e];simpa using h1
  ·rw[hm,Vk (by simp)];exact h2
 ·obtain⟨j,hj,rfl⟩:=lW h;obtain⟨v,h1,h2⟩:=ha.getD hj;cases h2.nd
 ·obtain⟨j1,hj,rfl⟩:=lW h1;have Mu:=(RB.mp hj).1;exfalso;unfold fH at hm;exact hM (j1+if bo=true then 1 else 0) ⋯ (R3 hm)
 ·cases bo with
  |false=>simp only[SG,Vj]at hd;rw[hd.2.1]at z;cases z
  |true=>simp only[Vm]at hd;obtain⟨b,ns,_,e,_,e2,e3⟩:=hd;rw[e]at z;cases z;exact⟨ns,e2,e3⟩
 ·cases bo with
  |false=>simp only[SG,Vj]at hd;exact hd.2.2
  |true=>simp only[Vm]at hd;obtain⟨b,ns,_,e,_⟩:=hd;rw[e]at z;cases z
 ·cases bo with
  |false=>simp only[SG,Vj]at hd;rw[hd.2.1]at z;cases z
  |true=>simp only[Vm]at hd;obtain⟨b,ns,e1,e,_⟩:=hd;rw[e]at z;cases z;have hi:δ=some i:=hi;rw[hδ rfl]at hi;cases hi;exact nZ (by rw[e1];rfl)
theorem Ig{CX:kP}{N ps:List Str}{sc:Scope}{M:List Bool}{δ κ:Option Nat}{qual:Str}{f:Addr}{fM:Value}{A:Around}{outer:List Env}{s:Shared}{H:Hp}{E:XK}(m:MG g mg)(S:fi N ps sc)(hr:iP k (A.deeper (envOfC qual sc s.heap.objs.size f fM))):
  GX g ⟨sc.names,N,M,δ,κ⟩ (ql CX P w K mg base N qual sc f fM A outer s H E) where
 N:=rfl
 nd:=S.nd
 vis:=λx h=>by
  have h:AA (sc.names.lookup x)=true:=h;show Hu sc x;unfold Hu;cases hl:sc.names.lookup x with
  |none=>rw[hl]at h;cases h
  |some kk=>
   rw[hl]at h;cases kk with
   |«local»=>exact .inl rfl
   |cell=>exact .inr (.inl rfl)
   |free=>exact .inr (.inr rfl)
   |globalExplicit=>cases h
   |globalImplicit=>cases h
 loc:=λx h=>by
  have h:zo (sc.names.lookup x)=true:=h;refine⟨?_,.inl rfl⟩;show L2.Loc sc x;unfold L2.Loc;cases hl:sc.names.lookup x with
  |none=>rw[hl]at h;cases h
  |some kk=>
   rw[hl]at h;cases kk with
   |«local»=>exact .inl rfl
   |cell=>exact .inr rfl
   |free=>cases h
   |globalExplicit=>cases h
   |globalImplicit=>cases h
 gl:=λx h=>by
  have h:De (sc.names.lookup x)=true:=h;show sc.names.lookup x=_;cases hl:sc.names.lookup x with
  |none=>rw[hl]at h;cases h
  |some kk=>
   rw[hl]at h;cases kk with
   |globalImplicit=>rfl
   |«local»=>cases h
   |cell=>cases h
   |free=>cases h
   |globalExplicit=>cases h
 fre:=λx h=>h
 calm:=rfl
 un:=by have:=hr.un;show (A.deeper (envOfC qual sc s.heap.objs.size f fM)).units+150<cLine;lia
 con:=m.con
 bl:=m.bl
theorem nC{name qual:Str}{params:Arguments}{body:List Stmt}{scope:Scope}{dV kV doc pm fM ct oc:Value}{an od:Option Addr}{vd:Array (Option Value)}{f:Addr}{N ps:List Str}{M:List Bool}{δ κ:Option Nat}{bo fF:Bool}{n m:Nat}{ts:Ts}
  (lk:K.lookup f=some ⟨oc,od,.func (PySem.W.fnOf name qual params body scope dV kV doc pm an fM ct),vd⟩) (AS:PySem.W.codeIn K fM qual=true) (S:fi N ps scope) (hm:MG g mg) (BN:XG g K mg xv) (fx:FX g xv (xj P w) P w K mg base m k F)
  (hM:∀i,i<ps.length->M[i]?≠some true) (hδ:bo=true->δ=some 0) (hc:Eo n g ⟨scope.names,N,M,δ,κ⟩ bo fF body=some ts):
  jy P w K mg base (xj P w) (k+1) f (PySem.W.fnOf name qual params body scope dV kV doc pm an fM ct) ps (O4 K xv (hJ F ⟨ps.length,N.length,bo,ts⟩) ps.length fF bo):=by
 have rV:ps.length<=N.length:=by have:=Vh List.length S.pre;rw[Uc]at this;lia
 refine ED lk AS S (λvs H Q E h=>h.1) λA outer s H vs Q E hr h=>?_
 obtain⟨hl,W,dr,args,S0,xt,hd,ha,hw,h⟩:=h;have er:=ym (K:=K) (names:=scope.names) (N:=N) (κ:=κ) (P:=P) (w:=w) (Ek:=λkk=>∀H',ba (λb=>dr=some b) H H'->E (xv kk) none H') hM hδ rV hl hd ha hw;obtain⟨er,xm⟩:=er;generalize hXX:ql (xj P w) P w K mg base N qual scope f fM A outer s H E=X;generalize hΦ:(⟨K,H,dr,λkk=>∀H',ba (λb=>dr=some b) H H'->E (xv kk) none H',P,w⟩:Fm)=Φ at er;have hΦE:∀v a H',mW Φ xv v a H'->E v none H':=λv a H' z=>by obtain⟨kk,rfl,z1,z2⟩:=z;subst hΦ;exact z1 H' z2
 have Q2:∀e s',oz X (mW Φ xv) e s'->X.xe e s':=λe s' z=>by subst hXX;cases z
 have st:iR X:=by subst hXX;exact Gz
 have gx:GX g ⟨scope.names,N,M,δ,κ⟩ X:=by subst hXX;exact Ig (P:=P) (w:=w) (K:=K) (base:=base) (CX:=xj P w) (M:=M) (δ:=δ) (outer:=outer) (H:=H) (E:=E) hm S hr
 have O7:iR (X.dW (oz X (mW Φ xv))):=⟨st.pn,st.st⟩;have hX:HX g xv (xj P w) k F Φ (X.dW (oz X (mW Φ xv))):=by
  refine⟨?_,?_,?_,⟨m,?_⟩,?_,?_,O7,λe s' z=>my z,?_⟩
  ·subst hΦ hXX;rfl
  ·subst hΦ hXX;rfl
  ·subst hΦ hXX;rfl
  ·subst hXX;exact fx
  ·subst hXX;exact hr
  ·subst hXX;rfl
  ·subst hXX;exact BN
 have own:PassesOwn (model (X.dW (oz X (mW Φ xv))).prog (X.dW (oz X (mW Φ xv))).w) (X.dW (oz X (mW Φ xv))).A (X.dW (oz X (mW Φ xv))).env (X.dW (oz X (mW Φ xv))).xe:=CU (E:=mW Φ xv) O7 (λe s' z=>my z) λe s' z=>AG z
 have d0:Φ.d0=dr:=by subst hΦ;rfl
 have SS:=xQ (dp:=bo) (fF:=fF) (W:=W) (n:=n) (Γ:=⟨scope.names,N,M,δ,κ⟩) (by subst hXX;rfl) gx.dW hX (λz=>by
  rw[d0];subst z;simp only[SG,Vj]at hd;exact hd.2.1) own hc
 refine⟨_,rd SS Q2,⟨W,W,dr⟩,_,S0,⟨rfl,λa z=>by rw[d0]at z;exact z⟩,er,?_⟩;subst hΦ;unfold hJ at h;simp only at h;rw[Vl xm]at h;have h:(match (aU F ts (wV bo args N.length ps.length) S0).bind (λp=>match p.1 with
   |.next=>R.ok (Dt.aW,p.2.2)
   |.ret d=>R.ok (d,p.2.2)
   |_=>R.bad) with
  |.ok p=>∀v H',FO K W dr fF H p.1 p.2 v H'->Q v H'
  |.ex kk=>∀H',ba (λb=>dr=some b) H H'->E (xv kk) none H'
  |.bad=>False):=h
 cases he:aU F ts (wV bo args N.length ps.length) S0 with
 |ok p=>
  rw[he]at h;simp only[R.af]at h;show cX _ _ _ _ _ _ _ p;unfold cX;cases hp:p.1 with
  |next=>rw[hp]at h;intro σ' H' so;obtain⟨o',oi,Ey,_⟩:=so.ex;exact h _ _ ⟨Ey.ent,RV.iD,λa z=>Ey.drw a (oi.d a z),λ_ ds e=>by cases e⟩
  |ret d=>rw[hp]at h;intro v H' ro;exact h _ _ ⟨ro.ent,ro.val,ro.drw,ro.j7⟩
  |brk=>rw[hp]at h;exact h.elim
  |cnt=>rw[hp]at h;exact h.elim
 |ex kk=>rw[he]at h;exact h
 |bad=>rw[he]at h;exact h.elim
end
structure xy(g:G)(K:Frag)(mg:Str->Option Value)(e:Str×Nat×List Dt×Bool)(idx:Nat)(fn:Fn):Prop where
 ex:∃(fa:Addr)(ps N:List Str)(M:List Bool)(δ κ:Option Nat)(n:Nat)(oc:Value)(od an:Option Addr)(vd:Array (Option Value))(params:Arguments)(body:List Stmt)(scope:Scope)(dV kV doc pm fM ct:Value),
  K.lookup fa=some ⟨oc,od,.func (PySem.W.fnOf e.1 e.1 params body scope dV kV doc pm an fM ct),vd⟩/\PySem.W.codeIn K fM e.1=true/\PySem.W.keepIn K (.ref fa)=true/\mg e.1=some (.ref fa)/\fi N ps scope/\(∀i,i<ps.length->M[i]?≠some true)/\
  (e.2.2.2=true->δ=some 0)/\ps.length=e.2.1/\Eo n g ⟨scope.names,N,M,δ,κ⟩ e.2.2.2 (g.fr idx) body=some fn.body/\fn.ps=ps.length/\fn.n=N.length/\fn.bo=e.2.2.2/\
  (∀j,j<=e.2.2.1.length->∃ds,ar ((e.2.2.1.drop j).map rW) ds/\Binds K (PySem.W.fnOf e.1 e.1 params body scope dV kV doc pm an fM ct) ps ds)/\e.2.2.1.all pY=true
noncomputable def pZ(g:G)(K:Frag)(mg:Str->Option Value):Nat->List (Str×Nat×List Dt×Bool)->List Fn->Prop
 |_,[],[]=>True
 |i,e::es,f::fs=>xy g K mg e i f/\pZ g K mg (i+1) es fs
 |_,_,_=>False
section
variable{g:G}{K:Frag}{mg:Str->Option Value}
theorem oW{x:Str}:∀{es:List (Str×Nat×List Dt×Bool)}{fs:List Fn}{i j:Nat}{r:Nat×List Dt×Bool},pZ g K mg i es fs->sN x es=some (j,r)->∃f,xy g K mg (x,r) (i+j) f/\fs[j]?=some f
 |[],fs,i,j,r,_,h=>by simp[sN]at h
 |e::es,[],i,j,r,h,_=>h.elim
 |e::es,f::fs,i,j,r,ok,h=>by
  obtain⟨o1,o2⟩:=ok;unfold sN at h;split at h
  ·rename_i hx;cases h;have ex:x=e.1:=R3 hx;subst ex;exact⟨f,o1,rfl⟩
  ·obtain⟨p,h1,h2⟩:=RP.mp h;obtain⟨j',r'⟩:=p;cases h2;obtain⟨f',k1,k2⟩:=oW o2 h1;refine⟨f',?_,k2⟩;have:i+(j'+1)=i+1+j':=⋯
   rw[this];exact k1
variable{P:Program}{w:World}{base:Heap}{xv:Nat->Value}{fs:List Fn}
theorem lV(hm:MG g mg)(BN:XG g K mg xv)(ok:pZ g K mg 0 g.fns fs):∀n,FX g xv (xj P w) P w K mg base n n (ax fs n)
 |0=>⟨λx f np fT bo h=>by
   obtain⟨fn,⟨fa,ps,N,M,δ,κ,n,oc,od,an,vd,params,body,scope,dV,kV,doc,pm,fM,ct,h1,h2,h3,h4,h5,h6,h7,h8,h9,L9,Ma,Mb,Mc,Md⟩,hf⟩:=oW ok h;refine⟨fa,_,ps,h8,h4,h3,⟨λvs H Q E q=>q.1.trans h8.symm,λA outer s H args us vs Q E _ _ _ _ q=>?_⟩,Mc,Md⟩;obtain⟨_,W,dr,as,S,xt,_,_,_,q⟩:=q;exact q.elim⟩
 |n+1=>⟨λx f np fT bo h=>by
   have ih:=lV hm BN ok n;obtain⟨fn,⟨fa,ps,N,M,δ,κ,m,oc,od,an,vd,params,body,scope,dV,kV,doc,pm,fM,ct,h1,h2,h3,h4,h5,h6,h7,h8,h9,L9,Ma,Mb,Mc,Md⟩,hf⟩:=oW ok h;rw[U0]at h9;refine⟨fa,_,ps,h8,h4,h3,?_,Mc,Md⟩;have:=nC (xv:=xv) (P:=P) (w:=w) (base:=base) h1 h2 h5 hm BN ih h6 h7 h9;have e:(ax fs (n+1)) f=hJ (ax fs n) ⟨ps.length,N.length,bo,fn.body⟩:=by funext args S;show (match fs[f]? with|some g=>hJ (ax fs n) g args S|none=>R.bad)=_;rw[hf];obtain⟨a1,a2,a3,a4⟩:=fn;simp only at L9 Ma Mb;subst L9 Ma Mb;rfl
   have PM:ps.length=np:=h8;rw[e,<-PM];exact this⟩
noncomputable def vD(K:Frag):Sp:=λvs H Q _=>∃(a:Addr)(ns:List Int),vs=[.ref a]/\df K H a (ns.map V.int)/\ns.length<=63/\∀H',Q (.bl true) H'
theorem len0{P:List Value->Prop}(h:P []):∀us:List Value,us.length=0->P us:=λus e=>TJ e▸h
theorem lenS{n:Nat}{P:List Value->Prop}(h:∀a(us:List Value),us.length=n->P (a::us)):∀us:List Value,us.length=n+1->P us:=λus e=>by
 cases us with
 |nil=>cases e
 |cons a t=>exact h a t (Nat.succ.inj e)
theorem binds0{fd:FuncData}{ps:List Str}(h:∀us:List Value,us.length=ps.length->bindArgs fd ⟨us,[]⟩=pure (ps.zip us)):∀j,j<=([]:List Dt).length->∃ds,ar ((([]:List Dt).drop j).map rW) ds/\Binds K fd ps ds:=λj hj=>by
 have:j=0:=by simpa using hj
 subst this;exact⟨[],.nil,Binds.all h⟩
noncomputable def QL(names:List (Str×NameKind))(ps:List Str):List Str:=ps++names.filterMap λp=>if zo (some p.2)&& !ps.contains p.1 then some p.1 else none
noncomputable def He(N ms:List Str):List Bool:=N.map λx=>ms.contains x
theorem Ji{N ms ps:List Str}(h:((He N ms).take ps.length).all (λb=> !b)=true):∀i,i<ps.length->(He N ms)[i]?≠some true:=λi hi e=>by have hm:true∈(He N ms).take ps.length:=Uo.mpr ⟨i,by rw[TZ hi];exact e⟩;have:=Sh.mp h true hm;cases this
end
end Rx
end
section
namespace Rx
open PySem PySem.W PySem.Spec PyProof.Rows L2
section
variable{F:FT}{S:Sx}{ρ:ah}
theorem cw{tg:Tg}{body:ah->Sx->RS}{ds:List Dt}(P:List Dt->ah->Prop)(h0:P [] ρ)
  (step:∀pre x post ρ,ds=pre++x::post->P pre ρ->∃ρ1 ρ2,d5 tg x ρ= .ok ρ1/\body ρ1 S= .ok (.next,ρ2,S)/\P (pre++[x]) ρ2):∃ρ',forL tg body ds ρ S= .ok (.next,ρ',S)/\P ds ρ':=by
 have key:∀(post pre:List Dt)(ρ:ah),ds=pre++post->P pre ρ->∃ρ',forL tg body post ρ S= .ok (.next,ρ',S)/\P ds ρ':=by
  intro post
  induction post with
  |nil=>intro pre ρ e h;rw[Sl]at e;subst e;exact⟨ρ,rfl,h⟩
  |cons x post ih=>intro pre ρ e h;obtain⟨ρ1,ρ2,h1,h2,h3⟩:=step pre x post ρ e h;obtain⟨ρ',h4,h5⟩:=ih (pre++[x]) ρ2 (by rw[e];simp) h3;refine⟨ρ',?_,h5⟩;rw[forL,h1,R.af,h2,R.af];exact h4
 exact key ds [] ρ rfl h0
theorem iX{tg:Tg}{body:ah->Sx->RS}{ds:List Dt}(P:List Dt->ah->Prop)(T:Dt->Prop)(h0:P [] ρ)
  (step:∀pre x post ρ,ds=pre++x::post->P pre ρ->∃ρ1 ρ2,d5 tg x ρ= .ok ρ1/\((body ρ1 S= .ok (.next,ρ2,S)/\P (pre++[x]) ρ2)\/∃d,body ρ1 S= .ok (.ret d,ρ2,S)/\T d)):
  (∃ρ',forL tg body ds ρ S= .ok (.next,ρ',S)/\P ds ρ')\/∃d ρ',forL tg body ds ρ S= .ok (.ret d,ρ',S)/\T d:=by
 have key:∀(post pre:List Dt)(ρ:ah),ds=pre++post->P pre ρ->(∃ρ',forL tg body post ρ S= .ok (.next,ρ',S)/\P ds ρ')\/∃d ρ',forL tg body post ρ S= .ok (.ret d,ρ',S)/\T d:=by
  intro post
  induction post with
  |nil=>intro pre ρ e h;rw[Sl]at e;subst e;exact .inl ⟨ρ,rfl,h⟩
  |cons x post ih=>
   intro pre ρ e h;obtain⟨ρ1,ρ2,h1,h2|⟨d,h2,h3⟩⟩:=step pre x post ρ e h
   ·rw[forL,h1,R.af,h2.1,R.af];exact ih (pre++[x]) ρ2 (by rw[e];simp) h2.2
   ·exact .inr ⟨d,ρ2,by rw[forL,h1,R.af,h2,R.af],h3⟩
 exact key ds [] ρ rfl h0
theorem jT{α β:Type}(f:α->β):∀l:List α,(l.flatMap λx=>[f x])=l.map f
 |[]=>rfl
 |x::l=>by rw[TN,jT f l];rfl
theorem fm{α β:Type}(p:α->Bool)(f:α->β):∀l:List α,(l.flatMap λx=>if p x=true then[f x] else[])=(l.filter p).map f
 |[]=>rfl
 |x::l=>by
  rw[TN,fm p f l];by_cases h:p x=true
  ·rw[Vl h,List.filter_cons_of_pos h];rfl
  ·rw[Vk h,List.filter_cons_of_neg h];rfl
end
theorem CG{fs:List Fn}{n k:Nat}{g:Fn}{args:List Dt}{S:Sx}(h:fs[k]?=some g):ax fs (n+1) k args S=hJ (ax fs n) g args S:=by show (match fs[k]? with|some g=>hJ (ax fs n) g args S|none=>R.bad)=_;rw[h]
noncomputable def Jm(d:Dt)(S:Sx):R (Dt×Sx):=match d with|.int i=>.ok (.int (-i),S)|_=>.bad
noncomputable def OZ(d:Dt)(S:Sx):R (Dt×Sx):=match d with|.bl b=>.ok (.bl !b,S)|_=>.bad
noncomputable def Hz(d:Dt)(S:Sx):R (Dt×Sx):=match d with|.bl c=>.ok (.bl c,S)|_=>.bad
noncomputable def D4(f:Sx->R (Dt×Sx))(d:Dt)(S:Sx):R (Dt×Sx):=match d with|.bl true=>(f S).bind (λy=>Hz y.1 y.2)|.bl false=>.ok (.bl false,S)|_=>.bad
noncomputable def Nf(f:Sx->R (Dt×Sx))(d:Dt)(S:Sx):R (Dt×Sx):=match d with|.bl false=>(f S).bind (λy=>Hz y.1 y.2)|.bl true=>.ok (.bl true,S)|_=>.bad
noncomputable def Dw(k:List Dt->Dt)(ds:List Dt)(S:Sx):R (Dt×Sx):=ab (decide (ds.length<=lim)) (.ok (k ds,S))
noncomputable def MX(o:Option (List Dt))(S:Sx):R (List Dt×Sx):=match o with|some ds=>.ok (ds,S)|none=>.bad
noncomputable def J6(d e:Dt)(S:Sx):R (Dt×Sx):=match e with|.int i=>(gj d (some i) none).bind λd=>.ok (d,S)|_=>.bad
noncomputable def J5(d e:Dt)(S:Sx):R (Dt×Sx):=match e with|.int i=>(gj d none (some i)).bind λd=>.ok (d,S)|_=>.bad
theorem RX:
  (∀{F:FT}{S:Sx}{ρ:ah}{d:Dt},ev F (.con d) ρ S= .ok (d,S))/\
  (∀{F:FT}{S:Sx}{ρ:ah}{i:Nat},ev F (.var i) ρ S=(eN ρ i).bind λd=>.ok (d,S))/\
  (∀{F:FT}{S:Sx}{ρ:ah}{i:Nat},ev F (.mvr i) ρ S=(eN ρ i).bind λd=>.ok (d,S))/\
  (∀{F:FT}{S:Sx}{ρ:ah}{o:Operator}{a b:C},ev F (.bin o a b) ρ S=(ev F a ρ S).bind λx=>(ev F b ρ x.2).bind λy=>(mM o x.1 y.1).bind λd=>.ok (d,y.2))/\
  (∀{F:FT}{S:Sx}{ρ:ah}{o:CmpOp}{a b:C},ev F (.cmp o a b) ρ S=(ev F a ρ S).bind λx=>(ev F b ρ x.2).bind λy=>(dg o x.1 y.1).bind λd=>.ok (.bl d,y.2))/\
  (∀{F:FT}{S:Sx}{ρ:ah}{a:C},ev F (.neg a) ρ S=(ev F a ρ S).bind λx=>Jm x.1 x.2)/\
  (∀{F:FT}{S:Sx}{ρ:ah}{a:C},ev F (.nt a) ρ S=(ev F a ρ S).bind λx=>OZ x.1 x.2)/\
  (∀{F:FT}{S:Sx}{ρ:ah}{a b:C},ev F (.and a b) ρ S=(ev F a ρ S).bind λx=>D4 (ev F b ρ) x.1 x.2)/\
  (∀{F:FT}{S:Sx}{ρ:ah}{a b:C},ev F (.or a b) ρ S=(ev F a ρ S).bind λx=>Nf (ev F b ρ) x.1 x.2)/\
  (∀{F:FT}{S:Sx}{ρ:ah}{a b c:C},ev F (.ite a b c) ρ S=(cN F a ρ S).bind λx=>if x.1=true then ev F b ρ x.2 else ev F c ρ x.2)/\
  (∀{F:FT}{S:Sx}{ρ:ah}{a b:C},ev F (.idx a b) ρ S=(ev F a ρ S).bind λx=>(ev F b ρ x.2).bind λy=>(cT x.1 y.1).bind λd=>.ok (d,y.2))/\
  (∀{F:FT}{S:Sx}{ρ:ah}{a b:C},ev F (.sliL a b) ρ S=(ev F a ρ S).bind λx=>(ev F b ρ x.2).bind λy=>J6 x.1 y.1 y.2)/\
  (∀{F:FT}{S:Sx}{ρ:ah}{a b:C},ev F (.sliH a b) ρ S=(ev F a ρ S).bind λx=>(ev F b ρ x.2).bind λy=>J5 x.1 y.1 y.2)/\
  (∀{F:FT}{S:Sx}{ρ:ah}{f:Nat}{es:Cs}{ds:List Dt},ev F (.call f es ds) ρ S=(gS F es ρ S).bind λx=>(F f (x.1++ds) none).bind λy=>.ok (y.1,x.2))/\
  (∀{F:FT}{S:Sx}{ρ:ah}{u:BI}{es:Cs},ev F (.bi u es) ρ S=(gS F es ρ S).bind λx=>(eD u x.1).bind λd=>.ok (d,x.2))/\
  (∀{F:FT}{S:Sx}{ρ:ah}{es:Cs},ev F (.tup es) ρ S=(gS F es ρ S).bind λx=>Dw .tup x.1 x.2)/\
  (∀{F:FT}{S:Sx}{ρ:ah}{es:Cs},ev F (.lst es) ρ S=(gS F es ρ S).bind λx=>Dw .lst x.1 x.2)/\
  (∀{F:FT}{S:Sx}{ρ:ah},gS F .nil ρ S= .ok ([],S))/\
  (∀{F:FT}{S:Sx}{ρ:ah}{a:C}{es:Cs},gS F (.cons a es) ρ S=(ev F a ρ S).bind λx=>(gS F es ρ x.2).bind λy=>.ok (x.1::y.1,y.2))/\
  (∀{F:FT}{S:Sx}{ρ:ah}{o:CmpOp}{a b:C},cN F (.cmp o a b) ρ S=(ev F a ρ S).bind λx=>(ev F b ρ x.2).bind λy=>(dg o x.1 y.1).bind λd=>.ok (d,y.2))/\
  (∀{F:FT}{S:Sx}{ρ:ah}{a b:C},cN F (.and a b) ρ S=(cN F a ρ S).bind λx=>if x.1=true then cN F b ρ x.2 else .ok (false,x.2))/\
  (∀{F:FT}{S:Sx}{ρ:ah}{a b:C},cN F (.or a b) ρ S=(cN F a ρ S).bind λx=>if x.1=true then .ok (true,x.2) else cN F b ρ x.2)/\
  (∀{F:FT}{S:Sx}{ρ:ah}{a:C},cN F (.nt a) ρ S=(cN F a ρ S).bind λx=>.ok (!x.1,x.2))/\
  (∀{F:FT}{S:Sx}{ρ:ah}{f:Nat}{es:Cs}{ds:List Dt},cN F (.call f es ds) ρ S=(gS F es ρ S).bind λx=>(F f (x.1++ds) none).bind λy=>(dU y.1).bind λb=>.ok (b,x.2))/\
  (∀{F:FT}{S:Sx}{ρ:ah}{u:BI}{es:Cs},cN F (.bi u es) ρ S=(gS F es ρ S).bind λx=>(eD u x.1).bind λd=>(dU d).bind λb=>.ok (b,x.2))/\
  (∀{F:FT}{S:Sx}{ρ:ah}{i:Nat},cN F (.var i) ρ S=(eN ρ i).bind λd=>(dU d).bind λb=>.ok (b,S))/\
  (∀{F:FT}{S:Sx}{ρ:ah}{i:Nat},cN F (.mvr i) ρ S=(eN ρ i).bind λd=>(dU d).bind λb=>.ok (b,S))/\
  (∀{F:FT}{S:Sx}{ρ:ah}{a b:C},cN F (.idx a b) ρ S=(ev F a ρ S).bind λx=>(ev F b ρ x.2).bind λy=>(cT x.1 y.1).bind λd=>(dU d).bind λb=>.ok (b,y.2))/\
  (∀{F:FT}{S:Sx}{ρ:ah},bp F .nil ρ S= .ok (true,S))/\
  (∀{F:FT}{S:Sx}{ρ:ah}{a:C},bp F (.cons a .nil) ρ S=cN F a ρ S)/\
  (∀{F:FT}{S:Sx}{ρ:ah}{a:C},d7 F (.seq a) ρ S=(ev F a ρ S).bind λx=>MX (itemsOf x.1) x.2)/\
  (∀{F:FT}{S:Sx}{ρ:ah}{a:C},d7 F (.enum a) ρ S=(ev F a ρ S).bind λx=>MX ((dc x.1).map (yk 0)) x.2)/\
  (∀{d:Dt}{ρ:ah},eN (some d::ρ) 0= .ok d)/\
  (∀{e:Option Dt}{ρ:ah}{i:Nat},eN (e::ρ) (i+1)=eN ρ i)/\
  (∀{S:Sx}{i:Int},Jm (.int i) S= .ok (.int (-i),S))/\
  (∀{S:Sx}{b:Bool},OZ (.bl b) S= .ok (.bl !b,S))/\
  (∀{S:Sx}{f:Sx->R (Dt×Sx)},D4 f (.bl false) S= .ok (.bl false,S))/\
  (∀{S:Sx}{f:Sx->R (Dt×Sx)},D4 f (.bl true) S=(f S).bind λy=>Hz y.1 y.2)/\
  (∀{S:Sx}{f:Sx->R (Dt×Sx)},Nf f (.bl true) S= .ok (.bl true,S))/\
  (∀{S:Sx}{f:Sx->R (Dt×Sx)},Nf f (.bl false) S=(f S).bind λy=>Hz y.1 y.2)/\
  (∀{S:Sx}{b:Bool},Hz (.bl b) S= .ok (.bl b,S))/\
  (∀{S:Sx}{ds:List Dt},MX (some ds) S= .ok (ds,S))/\
  (∀{ds:List Dt}{f:List Dt->List Dt},(some ds).map f=some (f ds))/\
  (∀{S:Sx}{k:List Dt->Dt},Dw k [] S= .ok (k [],S))/\
  (∀{S:Sx}{k:List Dt->Dt}{a:Dt},Dw k [a] S= .ok (k [a],S))/\
  (∀{S:Sx}{k:List Dt->Dt}{a b:Dt},Dw k [a,b] S= .ok (k [a,b],S))/\
  (∀{S:Sx}{k:List Dt->Dt}{a b c:Dt},Dw k [a,b,c] S= .ok (k [a,b,c],S))/\
  (∀{S:Sx}{k:List Dt->Dt}{a b c d:Dt},Dw k [a,b,c,d] S= .ok (k [a,b,c,d],S))/\
  (∀{S:Sx}{k:List Dt->Dt}{a b c d e:Dt},Dw k [a,b,c,d,e] S= .ok (k [a,b,c,d,e],S))/\
  (∀{S:Sx}{d:Dt}{i:Int},J6 d (.int i) S=(gj d (some i) none).bind λd=>.ok (d,S))/\
  (∀{S:Sx}{d:Dt}{i:Int},J5 d (.int i) S=(gj d none (some i)).bind λd=>.ok (d,S))/\
  (∀{m n:Int},mM .Add (.int m) (.int n)= .ok (.int (m+n)))/\
  (∀{m n:Int},mM .Sub (.int m) (.int n)= .ok (.int (m-n)))/\
  (∀{m n:Int},dg .Lt (.int m) (.int n)= .ok (decide (m<n)))/\
  (∀{m n:Int},dg .LtE (.int m) (.int n)= .ok (decide (m<=n)))/\
  (∀{m n:Int},dg .Gt (.int m) (.int n)= .ok (decide (n<m)))/\
  (∀{m n:Int},dg .GtE (.int m) (.int n)= .ok (decide (n<=m)))/\
  (∀{m n:Int},dg .Eq (.int m) (.int n)= .ok (m==n))/\
  (∀{m n:Int},dg .NotEq (.int m) (.int n)= .ok (!(m==n)))/\
  (∀{m n:Str},dg .Eq (.str m) (.str n)= .ok (m==n))/\
  (∀{m n:Str},dg .NotEq (.str m) (.str n)= .ok (!(m==n)))/\
  (∀{ns:List Int},eD .len [.dC ns]= .ok (.int ns.length))/\
  (∀{ds:List Dt},eD .len [.lst ds]= .ok (.int ds.length))/\
  (∀{ds:List Dt},eD .len [.tup ds]= .ok (.int ds.length))/\
  (∀{ds:List Dt},eD .tuple [.lst ds]= .ok (.tup ds))/\
  (∀{ds:List Dt},eD .tuple [.tup ds]= .ok (.tup ds))/\
  (∀{ds:List Dt},eD .list [.lst ds]= .ok (.lst ds))/\
  (∀{ds:List Dt},eD .list [.tup ds]= .ok (.lst ds))/\
  (∀{m n:Int},eD .max2 [.int m,.int n]= .ok (.int (if n>m then n else m)))/\
  (∀{t:Bool},dU (.bl t)= .ok t)/\
  (∀{ds:List Dt},dU (.lst ds)= .ok !ds.isEmpty)/\
  (∀{ds:List Dt},dU (.tup ds)= .ok !ds.isEmpty)/\
  (∀{ds:List Dt},itemsOf (.lst ds)=some ds)/\
  (∀{ds:List Dt},itemsOf (.tup ds)=some ds)/\
  (∀{ds:List Dt},dc (.lst ds)=some ds)/\
  (∀{ds:List Dt},dc (.tup ds)=some ds)/\
  (∀{α β:Type}{x:α}{f:α->R β},(R.ok x).bind f=f x)/\
  (∀{α:Type}{r:R α},ab true r=r)/\
  (∀{ds:List Dt},(ds++[]:List Dt)=ds)/\
  (∀{e v:Option Dt}{ρ:ah},(e::ρ).set 0 v=v::ρ)/\
  (∀{e v:Option Dt}{ρ:ah}{i:Nat},(e::ρ).set (i+1) v=e::ρ.set i v)/\
  (∀{d:Dt}{ρ:ah}{i:Nat},d5 (.nm i) d ρ= .ok (ρ.set i (some d)))/\
  (∀{is:List Nat}{ds:List Dt}{ρ:ah},d5 (.tp is) (.tup ds) ρ=hU is ds ρ)/\
  (∀{ρ:ah},hU [] [] ρ= .ok ρ)/\
  (∀{i:Nat}{is:List Nat}{d:Dt}{ds:List Dt}{ρ:ah},hU (i::is) (d::ds) ρ=hU is ds (ρ.set i (some d)))/\
  (∀{d:Dt},cT (.tup [d]) (.int 0)= .ok d)/\
  (∀{d d2:Dt},cT (.tup [d,d2]) (.int 0)= .ok d)/\
  (∀{d d2:Dt},cT (.tup [d,d2]) (.int 1)= .ok d2)/\
  (∀{d d2 d3:Dt},cT (.tup [d,d2,d3]) (.int 0)= .ok d)/\
  (∀{d d2 d3:Dt},cT (.tup [d,d2,d3]) (.int 1)= .ok d2)/\
  (∀{d d2 d3:Dt},cT (.tup [d,d2,d3]) (.int 2)= .ok d3):=
 ⟨@λ_ _ _ _=>rfl,
  @λ_ _ _ _=>rfl,
  @λ_ _ _ _=>rfl,
  @λ_ _ _ _ _ _=>rfl,
  @λ_ _ _ _ _ _=>rfl,
  @λ_ _ _ _=>rfl,
  @λ_ _ _ _=>rfl,
  @λ_ _ _ _ _=>rfl,
  @λ_ _ _ _ _=>rfl,
  @λ_ _ _ _ _ _=>rfl,
  @λ_ _ _ _ _=>rfl,
  @λ_ _ _ _ _=>rfl,
  @λ_ _ _ _ _=>rfl,
  @λ_ _ _ _ _ _=>rfl,
  @λ_ _ _ _ _=>rfl,
  @λ_ _ _ _=>rfl,
  @λ_ _ _ _=>rfl,
  @λ_ _ _=>rfl,
  @λ_ _ _ _ _=>rfl,
  @λ_ _ _ _ _ _=>rfl,
  @λ_ _ _ _ _=>rfl,
  @λ_ _ _ _ _=>rfl,
  @λ_ _ _ _=>rfl,
  @λ_ _ _ _ _ _=>rfl,
  @λ_ _ _ _ _=>rfl,
  @λ_ _ _ _=>rfl,
  @λ_ _ _ _=>rfl,
  @λ_ _ _ _ _=>rfl,
  @λ_ _ _=>rfl,
  @λ_ _ _ _=>rfl,
  @λ_ _ _ _=>rfl,
  @λF S ρ a=>by rw[d7];cases ev F a ρ S with|ok x=>(simp only[R.af];cases dc x.1<;>rfl)|ex k=>rfl|bad=>rfl,
  @λ_ _=>rfl,
  @λ_ _ _=>rfl,
  @λ_ _=>rfl,
  @λ_ _=>rfl,
  @λ_ _=>rfl,
  @λ_ _=>rfl,
  @λ_ _=>rfl,
  @λ_ _=>rfl,
  @λ_ _=>rfl,
  @λ_ _=>rfl,
  @λ_ _=>rfl,
  @λ_ _=>rfl,
  @λ_ _ _=>rfl,
  @λ_ _ _ _=>rfl,
  @λ_ _ _ _ _=>rfl,
  @λ_ _ _ _ _ _=>rfl,
  @λ_ _ _ _ _ _ _=>rfl,
  @λ_ _ _=>rfl,
  @λ_ _ _=>rfl,
  @λ_ _=>rfl,
  @λ_ _=>rfl,
  @λ_ _=>rfl,
  @λ_ _=>rfl,
  @λ_ _=>rfl,
  @λ_ _=>rfl,
  @λ_ _=>rfl,
  @λ_ _=>rfl,
  @λ_ _=>rfl,
  @λ_ _=>rfl,
  @λ_=>rfl,
  @λ_=>rfl,
  @λ_=>rfl,
  @λ_=>rfl,
  @λ_=>rfl,
  @λ_=>rfl,
  @λ_=>rfl,
  @λ_ _=>rfl,
  @λ_=>rfl,
  @λ_=>rfl,
  @λ_=>rfl,
  @λ_=>rfl,
  @λ_=>rfl,
  @λ_=>rfl,
  @λ_=>rfl,
  @λ_ _ _ _=>rfl,
  @λ_ _=>rfl,
  @λds=>Sl ds,
  @λ_ _ _=>rfl,
  @λ_ _ _ _=>rfl,
  @λ_ _ _=>rfl,
  @λ_ _ _=>rfl,
  @λ_=>rfl,
  @λ_ _ _ _ _=>rfl,
  @λ_=>rfl,
  @λ_ _=>rfl,
  @λ_ _=>rfl,
  @λ_ _ _=>rfl,
  @λ_ _ _=>rfl,
  @λ_ _ _=>rfl⟩
section
variable{F:FT}{S:Sx}{ρ:ah}
theorem aI{i j:Int}(h:i.natAbs<2^64\/j.natAbs<2^64):mM .Mult (.int i) (.int j)= .ok (.int (i*j)):=by show ab (decide (i.natAbs<2^64)||decide (j.natAbs<2^64)) _=_;rw[show (decide (i.natAbs<2^64)||decide (j.natAbs<2^64))=true by simpa using h];rfl
theorem bT{i j:Int}(h:0<j):mM .Mod (.int i) (.int j)= .ok (.int (i % j)):=by show ab (decide (0<j)) _=_;rw[R9 h];rfl
theorem pC{i j:Int}(h:0<j)(h2:j.natAbs.log2<9000):mM .FloorDiv (.int i) (.int j)= .ok (.int (i/j)):=by show ab (decide (0<j)&&decide (j.natAbs.log2<9000)) _=_;rw[R9 h,R9 h2];rfl
noncomputable def fin(r:RS):R (Dt×Sx):=r.bind λp=>match p.1 with
 |.next=>.ok (.aW,p.2.2)
 |.ret d=>.ok (d,p.2.2)
 |_=>.bad
noncomputable def Ts.app:Ts->Ts->Ts
 |.nil,b=>b
 |.cons t a,b=>.cons t (a.app b)
theorem oU:∀{a b:Ts}{ρ:ah}{S:Sx},aU F (a.app b) ρ S=(aU F a ρ S).bind λp=>match p.1 with
  |.next=>aU F b p.2.1 p.2.2
  |f=>.ok (f,p.2)
 |.nil,b,ρ,S=>rfl
 |.cons t a,b,ρ,S=>by
  show aU F (.cons t (a.app b)) ρ S=_;rw[aU,aU];cases ex F t ρ S with
  |ok p=>
   obtain⟨f,ρ1,S1⟩:=p;cases f with
   |next=>exact oU
   |brk=>rfl
   |cnt=>rfl
   |ret d=>rfl
  |ex k=>rfl
  |bad=>rfl
section
variable{r:R (Dt×Sx)}{ts:Ts}
theorem eI{t:T}{ρ1:ah}{S1:Sx}(h:ex F t ρ S= .ok (.next,ρ1,S1))(k:fin (aU F ts ρ1 S1)=r):fin (aU F (.cons t ts) ρ S)=r:=by rw[aU,h];exact k
theorem iW{t:T}{ρ1:ah}{S1:Sx}{d:Dt}(h:ex F t ρ S= .ok (.ret d,ρ1,S1)):fin (aU F (.cons t ts) ρ S)= .ok (d,S1):=by rw[aU,h];rfl
theorem aC{i:Nat}{c:C}{d:Dt}{S1:Sx}(h:ev F c ρ S= .ok (d,S1))(hs:cc c d=true)(k:fin (aU F ts (ρ.set i (some d)) S1)=r):fin (aU F (.cons (.asg i c) ts) ρ S)=r:=by refine eI ?_ k;rw[ex,h,R.af,hs];rfl
theorem dG{i:Nat}{c:C}{d:Dt}{S1:Sx}(h:ev F c ρ S= .ok (d,S1))(hs:l9 c d=true)(k:fin (aU F ts (ρ.set i (some d)) S1)=r):fin (aU F (.cons (.asgM i c) ts) ρ S)=r:=by refine eI ?_ k;rw[ex,h,R.af,hs];rfl
theorem aw{c:C}{d:Dt}{S1:Sx}(h:ev F c ρ S= .ok (d,S1)):fin (aU F (.cons (.ret c) ts) ρ S)= .ok (d,S1):=by refine iW (ρ1:=ρ) ?_;rw[ex,h];rfl
theorem yx{t:C}{a b:Ts}{x:Bool}{S1:Sx}(h:cN F t ρ S= .ok (x,S1))(k:fin (aU F ((if x=true then a else b).app ts) ρ S1)=r):fin (aU F (.cons (.ifs t a b) ts) ρ S)=r:=by rw[<-k,oU,aU,ex,h,R.af];cases x<;>rfl
theorem jS{t:C}{a b:Ts}{S1:Sx}(h:cN F t ρ S= .ok (true,S1))(k:fin (aU F (a.app ts) ρ S1)=r):fin (aU F (.cons (.ifs t a b) ts) ρ S)=r:=yx h (by rw[Vl rfl];exact k)
theorem dY{t:C}{a b:Ts}{S1:Sx}(h:cN F t ρ S= .ok (false,S1))(k:fin (aU F (b.app ts) ρ S1)=r):fin (aU F (.cons (.ifs t a b) ts) ρ S)=r:=yx h (by rw[Vk (by simp)];exact k)
theorem bJ{tg:Tg}{it:mX}{b:Ts}{ds:List Dt}{ρ1:ah}{S1 S2:Sx}(h:d7 F it ρ S= .ok (ds,S1))(hl:sZ it=0)(hf:forL tg (aU F b) ds ρ S1= .ok (.next,ρ1,S2))(k:fin (aU F ts ρ1 S2)=r):fin (aU F (.cons (.fr tg it b) ts) ρ S)=r:=by refine eI ?_ k;rw[ex,h,R.af,R9 hl,Bool.true_or];exact hf
end
end
theorem aB{fs:List Fn}{n k ps m:Nat}{body:Ts}{args:List Dt}{r:R (Dt×Sx)}{S:Sx}(h:fs[k]?=some ⟨ps,m,false,body⟩)(hn:1<=n)(hl:args.length=ps)(q:fin (aU (ax fs (n-1)) body (args.map some++List.replicate (m-ps) none) S)=r):ax fs n k args S=r:=by obtain⟨n,rfl⟩:∃m,n=m+1:=⟨n-1,by lia⟩;rw[CG h];unfold hJ;simp only[SG,Vj,Nat.add_zero,hl,Vm,Us];exact q
noncomputable def uf:Ts:=(.cons (.ifs (.cmp .Lt (.var 1) (.bi .len (.cons (.var 0) .nil))) (.cons (.ret (.idx (.var 0) (.var 1))) .nil) .nil) (.cons (.asg 2 (.bin .Add (.bin .Mult (.var 1) (.con (.int 7919))) (.con (.int 5)))) (.cons (.ifs (.cmp .Gt (.bi .len (.cons (.var 0) .nil)) (.con (.int 0))) (.cons (.asg 2 (.bin .Add (.bin .Add (.bin .Mult (.bin .Mod (.idx (.var 0) (.bin .Mod (.var 1) (.bi .len (.cons (.var 0) .nil)))) (.con (.int 2147483647))) (.con (.int 48271))) (.bin .Mult (.bin .Mult (.var 1) (.var 1)) (.con (.int 7919)))) (.con (.int 11)))) .nil) .nil) (.cons (.ret (.bin .Mod (.bin .Mult (.var 2) (.var 2)) (.con (.int 2147483629)))) .nil))))
theorem uR{ns:List Int}{k:Nat}(h:k<ns.length):cT (.dC ns) (.int k)= .ok (.int ns[k]):=by show sf (ns.map Dt.int) k=_;unfold sf;rw[L2.kf (v:=.int ns[k]) (by simp[h])]
noncomputable def eF(ns:List Int)(k:Nat):Int:=if h:k<ns.length then ns[k] else
 let m:Int:=if h:0<ns.length then ns[k % ns.length]'(Nat.mod_lt _ h) % 2147483647*48271+k*k*7919+11 else k*7919+5
 m*m % 2147483629
theorem uw{fs:List Fn}{ic:Nat}(hc:fs[ic]?=some ⟨2,3,false,uf⟩){n:Nat}(hn:1<=n){ns:List Int}{k:Nat}(hk:k<1000000):ax fs n ic [.dC ns,.int k] none= .ok (.int (eF ns k),none):=by
 refine aB hc hn rfl ?_;show fin (aU (ax fs (n-1)) uf [some (.dC ns),some (.int k),none] none)=_;by_cases h:k<ns.length
 ·refine jS (S1:=none) (by simp only[RX];simp[h]) ?_;exact(aw (d:=.int ns[k]) (S1:=none) (by simp only[RX,uR h])).trans (by simp[eF,h])
 ·have b1:(k:Int)*k<=1000000*1000000:=by
   have:k*k<=1000000*1000000:=UV ⋯ ⋯;rw[<-Int.natCast_mul]
   lia
  have b0:(0:Int)<=(k:Int)*k:=S8 ⋯ ⋯;have m1:=aI (i:=k) (j:=7919) (.inl ⋯);refine dY (S1:=none) (by simp only[RX];simp;lia) (aC (d:=.int (k*7919+5)) (S1:=none) (by simp only[RX,m1]) rfl ?_);by_cases h2:0<ns.length
  ·have hm:=Nat.mod_lt k h2;have e1:((k:Int) % (ns.length:Int))=((k % ns.length:Nat):Int):=by simp
   generalize hx:ns[k % ns.length]=x;have r1:=Sj x (b:=2147483647) (by decide);have r2:=Sk x (b:=2147483647) (by decide);have m2:=bT (i:=k) (j:=ns.length) ⋯;rw[e1]at m2;have m3:=bT (i:=x) (j:=2147483647) (by decide);have m4:=aI (i:=x % 2147483647) (j:=48271) (.inl ⋯);have m5:=aI (i:=k) (j:=k) (.inl ⋯);have m6:=aI (i:=(k:Int)*k) (j:=7919) (.inl ⋯);have m7:=aI (i:=x % 2147483647*48271+k*k*7919+11) (j:=x % 2147483647*48271+k*k*7919+11) (.inl ⋯);have m8:=bT (i:=(x % 2147483647*48271+k*k*7919+11)*(x % 2147483647*48271+k*k*7919+11)) (j:=2147483629) (by decide);refine jS (S1:=none) (by simp only[RX];simp;lia) (aC (d:=.int (x % 2147483647*48271+k*k*7919+11)) (S1:=none) ?_ rfl ?_)
   ·simp only[RX,m2,m3,m4,m5,m6,uR hm,hx]
   ·refine(aw (d:=_) (S1:=none) (by simp only[RX,m7,m8];rfl)).trans ?_;simp[eF,h,h2,hx]
  ·have z0:decide ((0:Int)<ns.length)=false:=R5 ⋯;have m7:=aI (i:=k*7919+5) (j:=k*7919+5) (.inl ⋯);have m8:=bT (i:=((k:Int)*7919+5)*(k*7919+5)) (j:=2147483629) (by decide);refine dY (S1:=none) (by simp only[RX,z0]) ((aw (d:=_) (S1:=none) (by simp only[RX,m7,m8];rfl)).trans ?_);simp[eF,h,h2]
section
variable{F:FT}{S S1 S2:Sx}{ρ ρ1:ah}{ts:Ts}{r:RS}{d:Dt}{ds:List Dt}
theorem nx{t:T}(h:ex F t ρ S= .ok (.next,ρ1,S1))(k:aU F ts ρ1 S1=r):aU F (.cons t ts) ρ S=r:=by rw[aU,h];exact k
theorem fA{i:Nat}{c:C}(h:ev F c ρ S= .ok (d,S1))(hs:cc c d=true)(k:aU F ts (ρ.set i (some d)) S1=r):aU F (.cons (.asg i c) ts) ρ S=r:=by refine nx ?_ k;rw[ex,h,R.af,hs];rfl
theorem pB{c:C}(h:ev F c ρ S= .ok (d,S1)):aU F (.cons (.ret c) ts) ρ S= .ok (.ret d,ρ,S1):=by rw[aU,ex,h];rfl
theorem Dx{t:C}{a b:Ts}{x:Bool}(h:cN F t ρ S= .ok (x,S1))(k:aU F ((if x=true then a else b).app ts) ρ S1=r):aU F (.cons (.ifs t a b) ts) ρ S=r:=by rw[<-k,oU,aU,ex,h,R.af];cases x<;>rfl
theorem pA{t:C}{a b:Ts}(h:cN F t ρ S= .ok (true,S1))(k:aU F (a.app ts) ρ S1=r):aU F (.cons (.ifs t a b) ts) ρ S=r:=Dx h (by rw[Vl rfl];exact k)
theorem iF{t:C}{a b:Ts}(h:cN F t ρ S= .ok (false,S1))(k:aU F (b.app ts) ρ S1=r):aU F (.cons (.ifs t a b) ts) ρ S=r:=Dx h (by rw[Vk (by simp)];exact k)
theorem tx{tg:Tg}{it:mX}{b:Ts}(h:d7 F it ρ S= .ok (ds,S1))(hl:sZ it=0)(hf:forL tg (aU F b) ds ρ S1= .ok (.next,ρ1,S2))(k:aU F ts ρ1 S2=r):aU F (.cons (.fr tg it b) ts) ρ S=r:=by refine nx ?_ k;rw[ex,h,R.af,R9 hl,Bool.true_or];exact hf
theorem o8{i:Nat}(hl:ρ[i]?=some (some (.lst ds))):isLE ρ i=true:=by unfold isLE;rw[hl]
theorem pq{i:Nat}(hl:ρ[i]?=some (some (.lst ds))):pj ρ i= .ok ds:=by unfold pj;rw[hl]
theorem EA{i:Nat}{c:C}(hl:ρ[i]?=some (some (.lst ds)))(h:ev F c ρ S= .ok (d,S1))(hs:cc c d=true)(hz:ds.length<=lim):ex F (.app i c) ρ S= .ok (.next,ρ.set i (some (.lst (ds++[d]))),S1):=by rw[ex,o8 hl,guard_true,h,R.af,hs,guard_true,pq hl,R.af,R9 hz];rfl
theorem Bu{i:Nat}{k v:C}{n:Int}{j:Nat}(hl:ρ[i]?=some (some (.lst ds)))(h:ev F v ρ S= .ok (d,S1))(h2:ev F k ρ S1= .ok (.int n,S2))(hs:cc v d=true)(hz:pd ds.length n=some j):ex F (.Ac i k v) ρ S= .ok (.next,ρ.set i (some (.lst (ds.set j d))),S2):=by rw[ex,o8 hl,guard_true,h,R.af,h2,R.af,hs,guard_true,pq hl,R.af];show (match pd ds.length n with|some j=>R.ok (Fl.next,ρ.set i (some (.lst (ds.set j d))),S2)|none=>.bad)=_;rw[hz]
theorem EB{i:Nat}{k v:C}{n:Nat}(hl:ρ[i]?=some (some (.lst ds)))(h2:ev F k ρ S= .ok (.int n,S1))(h:ev F v ρ S1= .ok (d,S2))(hs:cc v d=true)(hz:ds.length<=lim)(hn:n<=ds.length):ex F (.ins i k v) ρ S= .ok (.next,ρ.set i (some (.lst (ds.take n++d::ds.drop n))),S2):=by rw[ex,o8 hl,guard_true,h2,R.af,h,R.af,hs,guard_true,pq hl,R.af,R9 hz,guard_true];show ab (decide (0<=(n:Int))&&decide ((n:Int).toNat<=ds.length)) _=_;rw[R9 ⋯,R9 ⋯];rfl
theorem lQ{i:Nat}{c:C}(hl:ρ[i]?=some (some (.lst ds)))(h:ev F c ρ S= .ok (d,S1))(hs:cc c d=true)(hz:ds.length<=lim)(k:aU F ts (ρ.set i (some (.lst (ds++[d])))) S1=r):aU F (.cons (.app i c) ts) ρ S=r:=nx (EA hl h hs hz) k
theorem dH{c:C}(h:ev F c ρ S= .ok (d,S1))(hd:itemsOf d=some ds):d7 F (.seq c) ρ S= .ok (ds,S1):=by show (ev F c ρ S).bind (λx=>match itemsOf x.1 with|some ds=>R.ok (ds,x.2)|none=>.bad)=_;rw[h,R.af];show (match itemsOf d with|some ds=>R.ok (ds,S1)|none=>.bad)=_;rw[hd]
theorem fw{c:C}{n:Nat}(h:ev F c ρ S= .ok (.int n,S1))(hn:n<=lim):d7 F (.rng1 c) ρ S= .ok (bh 0 n,S1):=by show (ev F c ρ S).bind (λx=>match x.1 with|.int j=>ab (decide (j<=lim)&&decide (-lim<=j)) (.ok (bh 0 j.toNat,x.2))|_=>.bad)=_;rw[h,R.af];show ab (decide ((n:Int)<=lim)&&decide (-lim<=(n:Int))) (R.ok (bh 0 (n:Int).toNat,S1))=_;rw[show (decide ((n:Int)<=lim)&&decide (-lim<=(n:Int)))=true by have:lim=1000000:=rfl;simp;lia];simp
theorem lF{a b:C}{da db:Dt}{xs ys:List Dt}(ha:ev F a ρ S= .ok (da,S1))(hb:ev F b ρ S1= .ok (db,S2))(h1:dc da=some xs)(h2:dc db=some ys):d7 F (.zip a b) ρ S= .ok (dq xs ys,S2):=by show (ev F a ρ S).bind (λx=>(ev F b ρ x.2).bind λy=>match dc x.1,dc y.1 with|some xs,some ys=>R.ok (dq xs ys,y.2)|_,_=>.bad)=_;rw[ha,R.af,hb,R.af];show (match dc da,dc db with|some xs,some ys=>R.ok (dq xs ys,S2)|_,_=>.bad)=_;rw[h1,h2]
noncomputable def bC(F:FT)(e:C):ah->Sx->R (List Dt×Sx):=λρ1 S1=>(ev F e ρ1 S1).bind λy=>ab (cc e y.1) (.ok ([y.1],y.2))
theorem bf{cap:List (Option Nat)}{it:mX}{tg:Tg}{cs:Cs}{e:C}{out:List Dt}(h:d7 F it ρ S= .ok (ds,S1))(hl:ds.length<=lim)(hk:(decide (sZ it<=1)||mH F it ρ S)=true)(hc:aQ (aR tg (bp F cs) (bC F e) (j6 cap ρ)) ds S1= .ok (out,S2)):
  ev F (.comp cap it tg cs e) ρ S= .ok (.lst out,S2):=by
 rw[ev,h,R.af,R9 hl,hk,SE,guard_true];show (aQ (aR tg (bp F cs) (bC F e) (j6 cap ρ)) ds S1).bind _=_;rw[hc];rfl
theorem aX{tg:Tg}{e:C}{y:Dt}(hs:d5 tg d ρ= .ok ρ1)(he:ev F e ρ1 S= .ok (y,S1))(hb:cc e y=true):aR tg (bp F .nil) (bC F e) ρ d S= .ok ([y],S1):=by unfold aR bC;rw[hs,R.af,bp,R.af];simp only[Vm,he,R.af,hb,guard_true]
theorem turn_if{tg:Tg}{c e:C}{b:Bool}{y:Dt}(hs:d5 tg d ρ= .ok ρ1)(hc:cN F c ρ1 S= .ok (b,S))(he:b=true->ev F e ρ1 S= .ok (y,S)/\cc e y=true):aR tg (bp F (.cons c .nil)) (bC F e) ρ d S= .ok (if b=true then[y] else[],S):=by
 unfold aR bC;rw[hs,R.af,bp,hc,R.af];cases b with
 |false=>rfl
 |true=>simp only[Vm,(he rfl).1,R.af,(he rfl).2,guard_true]
theorem zd{k:Nat}(h:ds[k]?=some d):cT (.tup ds) (.int k)= .ok d/\cT (.lst ds) (.int k)= .ok d:=by
 have:sf ds k= .ok d:=by unfold sf;rw[L2.kf h]
 exact⟨this,this⟩
end
theorem mZ{ms:List Mx.D}(h:jA ms=true):eD .sorted [.lst (bK ms)]= .ok (.lst (bK (dQ ms)))/\eD .sorted [.tup (bK ms)]= .ok (.lst (bK (dQ ms))):=by
 constructor
 ·show (match fD (bK ms)with|some ms=>ab (jA ms) (R.ok (Dt.lst (bK (dQ ms))))|none=>.bad)=_;rw[kM];show ab (jA ms) _=_;rw[h];rfl
 ·show (match fD (bK ms)with|some ms=>ab (jA ms) (R.ok (Dt.lst (bK (dQ ms))))|none=>.bad)=_;rw[kM];show ab (jA ms) _=_;rw[h];rfl
theorem ya{ms:List Mx.D}(k:Mx.SK)(hl:ms.length<1000000)(hd:Mx.D.dh ms<=100)(hk:∀d∈ms,IY k d=true)(hp:∀d∈ms,∀e∈ms,u7 d e=true):jA ms=true:=by
 have AX:([Mx.SK.tt,.ts,.ti,.s,.i].any λk=>ms.all (IY k))=true:=by rw[Si];exact⟨k,by cases k<;>simp,Sh.mpr hk⟩
 unfold jA;rw[AX,R9 hl,R9 hd];simp only[Bool.true_and,Sm,Ry];exact .inr (Sh.mpr λd h=>Sh.mpr λe h2=>hp d h e h2)
theorem oS{n:Nat}:∀{ms:List Mx.D},(∀d∈ms,Mx.D.dep d<=n)->Mx.D.dh ms<=n
 |[],_=>by simp[Mx.D.dh]
 |m::ms,h=>by
  have h1:=h m RF;have h2:=oS λd hd=>h d (RC _ hd)
  simp only[Mx.D.dh]
  lia
theorem bF(ms:List Mx.D):(dQ ms).Perm ms:=List.mergeSort_perm ..
theorem dD{d:Mx.D}{ms:List Mx.D}:d∈dQ ms↔d∈ms:=(bF ms).mem_iff
theorem wC(a b c:Mx.D)(h1:u6 a b=true)(h2:u6 b c=true):u6 a c=true:=by
 unfold u6 at *;simp only[SL]at *;cases h:Mx.D.lt c a with
 |false=>rfl
 |true=>
  exfalso;cases h3:Mx.D.lt a b with
  |true=>rw[Mx.D.lt_trans c a b h h3]at h2;cases h2
  |false=>have:=Mx.D.fY a b h3 h1;subst this;rw[h]at h2;cases h2
theorem wB(a b:Mx.D):(u6 a b||u6 b a)=true:=by
 unfold u6;cases h:Mx.D.lt b a with
 |false=>rfl
 |true=>
  cases h2:Mx.D.lt a b with
  |false=>rfl
  |true=>have:=Mx.D.lt_trans a b a h2 h;rw[Mx.D.lt_irrefl]at this;cases this
theorem jv(ms:List Mx.D):(dQ ms).Pairwise λa b=>u6 a b=true:=List.pairwise_mergeSort wC wB ms
theorem md:∀{a b:List Mx.D},a.Pairwise (λx y=>Mx.D.lt x y=true)->b.Pairwise (λx y=>Mx.D.lt x y=true)->(∀x,x∈a↔x∈b)->a=b
 |[],[],_,_,_=>rfl
 |[],y::b,_,_,h=>by have:=(h y).mpr RF;cases this
 |x::a,[],_,_,h=>by have:=(h x).mp RF;cases this
 |x::a,y::b,ha,hb,h=>by
  have AR:=Uw.mp ha;have jW:=Uw.mp hb;have Py:x=y:=by
   rcases RL.mp ((h x).mp RF)with e|e
   ·exact e
   ·rcases RL.mp ((h y).mpr RF)with e2|e2
    ·exact e2.symm
    ·have:=Mx.D.lt_trans x y x (AR.1 y e2) (jW.1 x e);rw[Mx.D.lt_irrefl]at this;cases this
  subst Py;rw[md AR.2 jW.2 λz=>?_];constructor
  ·intro hz;rcases RL.mp ((h z).mp (RC _ hz))with e|e
   ·subst e;have:=AR.1 z hz;rw[Mx.D.lt_irrefl]at this;cases this
   ·exact e
  ·intro hz;rcases RL.mp ((h z).mpr (RC _ hz))with e|e
   ·subst e;have:=jW.1 z hz;rw[Mx.D.lt_irrefl]at this;cases this
   ·exact e
variable{fs:List Fn}
noncomputable def xN(ic:Nat):Ts:=(.cons (.asg 3 (.bin .Add (.bin .Mult (.bin .Mod (.call ic (.cons (.var 0) (.cons (.var 1) .nil)) []) (.con (.int 2147483647))) (.bin .Add (.con (.int 48271)) (.bin .Mult (.con (.int 2)) (.var 1)))) (.bin .Mult (.con (.int 31)) (.var 1)))) (.cons (.ret (.bin .Mod (.bin .FloorDiv (.bin .Mod (.var 3) (.con (.int 2147483629))) (.con (.int 7))) (.var 2))) .nil))
noncomputable def gf(ns:List Int)(k many:Nat):Nat:=((((eF ns k % 2147483647)*(48271+2*k)+31*k) % 2147483629/7) % many).toNat
theorem gg{ns:List Int}{k many:Nat}(h:0<many):gf ns k many<many:=by
 unfold gf;have h1:=Sj (((eF ns k % 2147483647)*(48271+2*k)+31*k) % 2147483629/7) (b:=many) ⋯;have h2:=Sk (((eF ns k % 2147483647)*(48271+2*k)+31*k) % 2147483629/7) (b:=many) ⋯
 lia
structure t9(fs:List Fn)(ip:Nat):Prop where
 ex:∃ic,fs[ic]?=some ⟨2,3,false,uf⟩/\fs[ip]?=some ⟨3,4,false,xN ic⟩
theorem Co{ip:Nat}(hp:t9 fs ip){n:Nat}(hn:2<=n){ns:List Int}{k many:Nat}(hk:k<1000000)(hm:0<many):ax fs n ip [.dC ns,.int k,.int many] none= .ok (.int (gf ns k many),none):=by
 obtain⟨ic,h1,h2⟩:=hp.ex;refine aB h2 ⋯ rfl ?_;show fin (aU (ax fs (n-1)) (xN ic) [some (.dC ns),some (.int k),some (.int many),none] none)=_;have hc:=uw h1 (n:=n-1) ⋯ (ns:=ns) hk;generalize hx:eF ns k=x at hc;have r1:=Sj x (b:=2147483647) (by decide);have r2:=Sk x (b:=2147483647) (by decide);have m1:=bT (i:=x) (j:=2147483647) (by decide);have m2:=aI (i:=2) (j:=k) (.inl (by decide));have m3:=aI (i:=x % 2147483647) (j:=48271+2*k) (.inl ⋯);have m4:=aI (i:=31) (j:=k) (.inl (by decide));have m5:=bT (i:=x % 2147483647*(48271+2*k)+31*k) (j:=2147483629) (by decide);have m6:=pC (i:=(x % 2147483647*(48271+2*k)+31*k) % 2147483629) (j:=7) (by decide) (by decide);have m7:=bT (i:=(x % 2147483647*(48271+2*k)+31*k) % 2147483629/7) (j:=many) ⋯;refine aC (d:=.int (x % 2147483647*(48271+2*k)+31*k)) (S1:=none) (by simp only[RX,hc,m1,m2,m3,m4]) rfl ?_;refine(aw (d:=_) (S1:=none) (by simp only[RX,m5,m6,m7];rfl)).trans ?_;have h1:=Sj (((x % 2147483647)*(48271+2*k)+31*k) % 2147483629/7) (b:=many) ⋯;have e:((gf ns k many:Nat):Int)=((x % 2147483647)*(48271+2*k)+31*k) % 2147483629/7 % many:=by unfold gf;rw[hx];omega
 rw[e]
theorem gL{n:Nat}{pre post:List Dt}{x:Dt}(h:bh 0 n=pre++x::post):pre.length<n/\x= .int pre.length:=by
 have hl:(bh 0 n).length=n:=by simp[bh]
 have h1:pre.length<n:=by rw[<-hl,h];simp
 refine⟨h1,?_⟩;have e:(bh 0 n)[pre.length]?=some x:=by rw[h];simp
 unfold bh at e;simp[h1]at e;exact e.symm
variable{fs:List Fn}
mutual
noncomputable def sm:Dt->Bool
 |.int _=>true
 |.str _=>true
 |.tup ds=>NL ds
 |.lst ds=>NL ds
 |_=>false
noncomputable def NL:List Dt->Bool
 |[]=>true
 |d::ds=>sm d&&NL ds
end
theorem qJ{α:Type}:∀l:List α,l=[]\/∃a x,l=a++[x]
 |[]=>.inl rfl
 |x::l=>.inr ⟨(x::l).dropLast,(x::l).getLast (by simp),(Tw (by simp)).symm⟩
variable{fs:List Fn}
theorem qr{α β:Type}{f:α->List β}{k:Nat}:∀{l:List α},(∀x∈l,(f x).length<=k)->(l.flatMap f).length<=l.length*k
 |[],_=>by simp
 |x::l,h=>by
  have h1:=h x RF;have h2:=qr λy hy=>h y (RC _ hy)
  rw[TN,RQ,RU,UZ]
  lia
theorem B8{a b:List Dt}(h:a.length+b.length<=lim):mM .Add (.lst a) (.lst b)= .ok (.lst (a++b)):=by show ab (decide (a.length+b.length<=lim)) _=_;rw[R9 h];rfl
variable{fs:List Fn}
section
variable{F:FT}{S:Sx}{ρ:ah}
theorem fU(b:BI)(e:C):ev F (.bi b (.cons e .nil)) ρ S=(ev F e ρ S).bind λx=>(eD b [x.1]).bind λd=>.ok (d,x.2):=by simp only[RX];cases ev F e ρ S<;>rfl
theorem ints_map(l:List Int):intsOf (l.map Dt.int)=some l:=by
 induction l with
 |nil=>rfl
 |cons x l ih=>rw[Sr,intsOf,ih];rfl
theorem Ee(l:List Int):eD .sum [.lst (l.map Dt.int)]= .ok (.int l.sum):=by show (match intsOf (l.map Dt.int)with|some ns=>R.ok (Dt.int ns.sum)|none=>.bad)=_;rw[ints_map]
end
variable{fs:List Fn}
noncomputable def kW(F:FT)(n:Nat)(g6:mX)(jM:Tg)(C7:Cs)(e:C):ah->Sx->R (List Dt×Sx):=λρ1 S1=>(d7 F g6 ρ1 S1).bind λx2=>ab (decide (n*x2.1.length<=lim)&&decide (sZ g6=0)) (aQ (aR jM (bp F C7) (bC F e) ρ1) x2.1 x2.2)
theorem k8{F:FT}{ρ:ah}{S S1 S2:Sx}{ds:List Dt}{cap:List (Option Nat)}{it g6:mX}{tg jM:Tg}{cs C7:Cs}{e:C}{out:List Dt}(h:d7 F it ρ S= .ok (ds,S1))(hl:ds.length<=lim)(hk:(decide (sZ it<=1)||mH F it ρ S)=true)(hc:aQ (aR tg (bp F cs) (kW F ds.length g6 jM C7 e) (j6 cap ρ)) ds S1= .ok (out,S2)):
  ev F (.gZ cap it tg cs g6 jM C7 e) ρ S= .ok (.lst out,S2):=by
 rw[ev,h,R.af,R9 hl,hk,SE,guard_true];show (aQ (aR tg (bp F cs) (kW F ds.length g6 jM C7 e) (j6 cap ρ)) ds S1).bind _=_;rw[hc];rfl
theorem Av{F:FT}{ρ ρ1:ah}{S S1 S2:Sx}{d:Dt}{ds out:List Dt}{n:Nat}{g6:mX}{tg jM:Tg}{C7:Cs}{e:C}(hs:d5 tg d ρ= .ok ρ1)(h:d7 F g6 ρ1 S= .ok (ds,S1))(hl:n*ds.length<=lim)(hk:sZ g6=0)(hc:aQ (aR jM (bp F C7) (bC F e) ρ1) ds S1= .ok (out,S2)):
  aR tg (bp F .nil) (kW F n g6 jM C7 e) ρ d S= .ok (out,S2):=by
 unfold aR kW;rw[hs,R.af,bp,R.af];simp only[Vm,h,R.af,R9 hl,R9 hk,SE,guard_true,hc]
variable{fs:List Fn}
noncomputable def tI(l:List Int):Dt:=.tup (l.map Dt.int)
noncomputable def lI(R:List (List Int)):Dt:=.lst (R.map tI)
section
variable{F:FT}{S:Sx}{ρ:ah}
theorem dF{f:Dt->Sx->R (List Dt×Sx)}{g:Int->Dt}:∀{l:List Int},(∀x∈l,f (.int x) S= .ok ([g x],S))->aQ f (l.map Dt.int) S= .ok (l.map g,S)
 |[],_=>rfl
 |x::l,h=>by rw[Sr,aQ,h x RF,R.af,dF λy hy=>h y (RC _ hy)];rfl
theorem bP{α:Type}{t:α->Dt}{f:Dt->Sx->R (List Dt×Sx)}{g:α->List Dt}:∀{l:List α},(∀x∈l,f (t x) S= .ok (g x,S))->aQ f (l.map t) S= .ok (l.flatMap g,S)
 |[],_=>rfl
 |x::l,h=>by rw[Sr,aQ,h x RF,R.af,bP λy hy=>h y (RC _ hy)];rfl
theorem bb{α:Type}{t:α->Dt}{f:Dt->Sx->R (List Dt×Sx)}{g:α->Dt}{l:List α}(h:∀x∈l,f (t x) S= .ok ([g x],S)):aQ f (l.map t) S= .ok (l.map g,S):=by rw[bP (g:=λx=>[g x]) h,jT]
theorem ff(a b:List Int):dq (a.map Dt.int) (b.map Dt.int)=(a.zip b).map λp=>.tup [.int p.1,.int p.2]:=by
 unfold dq
 induction a generalizing b with
 |nil=>rfl
 |cons x a ih=>cases b with|nil=>rfl|cons y b=>simp[ih]
theorem vH(l:List Int):eD .sum [tI l]= .ok (.int l.sum):=by show (match intsOf (l.map Dt.int)with|some ns=>R.ok (Dt.int ns.sum)|none=>.bad)=_;rw[ints_map]
end
noncomputable def ak(a b:List Int):Int:=((a.zip b).map λp=>p.1*p.2).sum
noncomputable abbrev Hg(x:Int):Prop:=x.natAbs<2^64
noncomputable def qg:Ts:=(.cons (.ret (.bi .sum (.cons (.comp [none,none,none] (.zip (.var 0) (.var 1)) (.tp [1,2]) .nil (.bin .Mult (.var 1) (.var 2))) .nil))) .nil)
theorem Cp{ip N:Nat}(hf:fs[ip]?=some ⟨2,2,false,qg⟩)(hN:1<=N){a b:List Int}(hb:∀x∈b,Hg x)(hl:a.length<=1000):ax fs N ip [tI a,tI b] none= .ok (.int (ak a b),none):=by
 have cL:lim=1000000:=rfl;refine aB hf hN rfl ?_;show fin (aU (ax fs (N-1)) qg [some (tI a),some (tI b)] none)=_;refine aw ?_;have hc:aQ (aR (.tp [1,2]) (bp (ax fs (N-1)) .nil) (bC (ax fs (N-1)) (.bin .Mult (.var 1) (.var 2))) [none,none,none]) (dq (a.map Dt.int) (b.map Dt.int)) none= .ok ((a.zip b).map λp=>.int (p.1*p.2),none):=by
  rw[ff];refine bb λp hp=>?_
  have m:=aI (i:=p.1) (j:=p.2) (.inr (hb p.2 (Uu hp).2));exact aX (ρ1:=[none,some (.int p.1),some (.int p.2)]) rfl (by simp only[RX,m]) rfl
 rw[fU,bf (ds:=dq (a.map Dt.int) (b.map Dt.int)) (S1:=none) (lF (S1:=none) (S2:=none) rfl rfl rfl rfl) (by rw[ff,RI,Ud];lia) rfl hc,R.af];have e:((a.zip b).map λp=>Dt.int (p.1*p.2))=((a.zip b).map λp=>p.1*p.2).map Dt.int:=by rw[Uh];rfl
 rw[e,Ee];rfl
noncomputable def gI(l:List Int)(p:Nat):Int:=l.getD p 0
noncomputable def bB(r:List Int)(p:Nat)(b:List Int):List Int:=(r.zip b).map λq=>gI b p*q.1-gI r p*q.2
theorem iA{l:List Int}{p:Nat}(h:p<l.length):cT (tI l) (.int p)= .ok (.int (gI l p)):=by refine(zd (ds:=l.map Dt.int) (k:=p) (d:=.int (gI l p)) ?_).1;rw[RW,R4 h];simp[gI,List.getD,R4 h]
noncomputable def xH:Ts:=(.cons (.ret (.bi .tuple (.cons (.comp [none,none,none,some 2,some 1,some 0] (.zip (.var 0) (.var 2)) (.tp [1,2]) .nil (.bin .Sub (.bin .Mult (.idx (.var 3) (.var 4)) (.var 1)) (.bin .Mult (.idx (.var 5) (.var 4)) (.var 2)))) .nil))) .nil)
theorem fq{l:List Int}{p:Nat}(h:p<l.length):gI l p∈l:=by simp[gI,List.getD,R4 h]
theorem yf{ic N:Nat}(hf:fs[ic]?=some ⟨3,3,false,xH⟩)(hN:1<=N){r b:List Int}{p:Nat}(hr:p<r.length)(hb:p<b.length)(Qv:∀x∈r,Hg x)(KS:∀x∈b,Hg x)(hl:r.length<=1000):ax fs N ic [tI r,.int p,tI b] none= .ok (tI (bB r p b),none):=by
 have cL:lim=1000000:=rfl;refine aB hf hN rfl ?_;show fin (aU (ax fs (N-1)) xH [some (tI r),some (.int p),some (tI b)] none)=_;refine aw ?_;have i1:=iA hr;have i2:=iA hb;have hc:aQ (aR (.tp [1,2]) (bp (ax fs (N-1)) .nil) (bC (ax fs (N-1)) (.bin .Sub (.bin .Mult (.idx (.var 3) (.var 4)) (.var 1)) (.bin .Mult (.idx (.var 5) (.var 4)) (.var 2)))) [none,none,none,some (tI b),some (.int p),some (tI r)]) (dq (r.map Dt.int) (b.map Dt.int)) none= .ok ((r.zip b).map λq=>.int (gI b p*q.1-gI r p*q.2),none):=by
  rw[ff];refine bb λq hq=>?_
  have m1:=aI (i:=gI b p) (j:=q.1) (.inr (Qv _ (Uu hq).1));have m2:=aI (i:=gI r p) (j:=q.2) (.inr (KS _ (Uu hq).2));exact aX (ρ1:=[none,some (.int q.1),some (.int q.2),some (tI b),some (.int p),some (tI r)]) rfl (by simp only[RX,i1,i2,m1,m2]) rfl
 rw[fU,bf (ds:=dq (r.map Dt.int) (b.map Dt.int)) (S1:=none) (lF (S1:=none) (S2:=none) rfl rfl rfl rfl) (by rw[ff,RI,Ud];lia) rfl hc,R.af];have e:((r.zip b).map λq=>Dt.int (gI b p*q.1-gI r p*q.2))=(bB r p b).map Dt.int:=by unfold bB;rw[Uh];rfl
 rw[e];rfl
theorem oN{r b:List Int}(h:r.length=b.length)(p:Nat):(bB r p b).length=r.length:=by
 unfold bB;rw[RI,Ud]
 lia
theorem ib{r b:List Int}{p k:Nat}(h:r.length=b.length)(hk:k<r.length):gI (bB r p b) k=gI b p*gI r k-gI r p*gI b k:=by
 have hz:k<(r.zip b).length:=by rw[Ud];lia
 unfold bB gI;rw[List.getD,RW,R4 hz,List.getElem_zip];simp[List.getD,R4 hk,R4 (h▸hk:k<b.length)]
theorem ye{r b:List Int}{p:Nat}{B:Nat}(hr:p<r.length)(hb:p<b.length)(h1:∀x∈r,x.natAbs<=B)(h2:∀x∈b,x.natAbs<=B):∀x∈bB r p b,x.natAbs<=2*B*B:=by
 intro x hx;obtain⟨q,hq,rfl⟩:=Sg.mp hx;have a1:=UV (h2 _ (fq hb)) (h1 _ (Uu hq).1);have a2:=UV (h1 _ (fq hr)) (h2 _ (Uu hq).2);have e1:(gI b p*q.1).natAbs=(gI b p).natAbs*q.1.natAbs:=Ta ..;have e2:(gI r p*q.2).natAbs=(gI r p).natAbs*q.2.natAbs:=Ta ..;have:2*B*B=B*B+B*B:=by rw[Nat.mul_assoc,Nat.two_mul]
 lia
theorem sM{F:FT}{ρ:ah}{S S1:Sx}{b:BI}{es:Cs}{v:Bool}(h:ev F (.bi b es) ρ S= .ok (.bl v,S1)):cN F (.bi b es) ρ S= .ok (v,S1):=by
 rw[ev]at h;rw[cN];cases h1:gS F es ρ S with
 |ok x=>
  rw[h1]at h;simp only[R.af]at h ⊢;cases h2:eD b x.1 with
  |ok d=>rw[h2]at h;simp only[R.af]at h ⊢;cases h;rfl
  |ex k=>rw[h2]at h;cases h
  |bad=>rw[h2]at h;cases h
 |ex k=>rw[h1]at h;cases h
 |bad=>rw[h1]at h;cases h
theorem Bn(l:List Bool):iU (l.map Dt.bl)=some l:=by
 induction l with
 |nil=>rfl
 |cons x l ih=>rw[Sr,iU,ih];rfl
theorem su(l:List Bool):eD .any [.lst (l.map Dt.bl)]= .ok (.bl (l.any id)):=by show (match iU (l.map Dt.bl)with|some ns=>R.ok (Dt.bl (ns.any id))|none=>.bad)=_;rw[Bn]
theorem oG(i:Int):eD .abs [.int i]= .ok (.int i.natAbs):=by show R.ok (Dt.int (if i<0 then -i else i))=_;congr 2;split<;>lia
noncomputable def ug:C:=(.bi .any (.cons (.gZ [none,none,none] (.seq (.var 0)) (.nm 1) .nil (.seq (.var 1)) (.nm 2) .nil (.cmp .Gt (.bi .abs (.cons (.var 2) .nil)) (.con (.int 3)))) .nil))
noncomputable def uh:C:=(.bi .any (.cons (.comp [none,none] (.seq (.var 2)) (.nm 1) .nil (.cmp .Gt (.bi .abs (.cons (.var 1) .nil)) (.con (.int 20)))) .nil))
noncomputable def Bf:Ts:=(.cons (.ifs (.cmp .Gt (.bi .len (.cons (.var 0) .nil)) (.con (.int 16))) (.cons (.rs 0 []) .nil) .nil) (.cons (.ifs (.cmp .Gt (.var 1) (.con (.int 4))) (.cons (.rs 0 []) .nil) .nil) (.cons (.ifs ug (.cons (.rs 0 []) .nil) .nil) (.cons (.ifs uh (.cons (.rs 0 []) .nil) .nil) .nil))))
noncomputable def vX(M:List (List Int)):Bool:=M.any λr=>r.any λx=>decide (3<x.natAbs)
noncomputable def vY(r:List Int):Bool:=r.any λx=>decide (20<x.natAbs)
noncomputable def brk(M:List (List Int))(many:Int)(r:List Int):Bool:=decide (16<M.length)||decide (4<many)||vX M||vY r
noncomputable def vW:Ts:=(.cons (.fr (.tp [2,3]) (.zip (.var 0) (.var 1)) (.cons (.ifs (.cmp .Gt (.var 2) (.var 3)) (.cons (.ret (.con (.bl false))) .nil) .nil) .nil)) (.cons (.ret (.con (.bl true))) .nil))
noncomputable def Ec(iu:Nat):Ts:=(.cons (.fr (.nm 2) (.seq (.var 1)) (.cons (.ifs (.call iu (.cons (.var 2) (.cons (.var 0) .nil)) []) (.cons (.ret (.con (.bl true))) .nil) .nil) .nil)) (.cons (.ret (.con (.bl false))) .nil))
variable{fs:List Fn}
noncomputable def pD(q:Nat×List Int):Dt:=.tup [.int q.1,tI q.2]
noncomputable def j5:Nat->Nat
 |0=>20
 |p+1=>2*j5 p*j5 p
theorem um:∀p,1<=j5 p
 |0=>by decide
 |p+1=>by have:=um p;have h:1*1<=2*j5 p*j5 p:=UV ⋯ this;simpa [j5]using h
theorem oF(p:Nat):j5 p<=j5 (p+1):=by have:=um p;have h:1*j5 p<=2*j5 p*j5 p:=UV ⋯ (RE _);simpa [j5]using h
theorem sk{p q:Nat}(h:p<=q):j5 p<=j5 q:=by
 induction h with
 |refl=>exact RE _
 |step _ ih=>exact RK ih (oF _)
structure xl(m p:Nat)(PS:List (Nat×List Int))(LS:List (List Int)):Prop where
 len:∀r∈LS,r.length=m+1
 bd:∀r∈LS,∀x∈r,x.natAbs<=j5 p
 pl:∀q∈PS,q.1<p/\q.2.length=m+1/\gI q.2 q.1≠0
 pb:∀q∈PS,∀x∈q.2,x.natAbs<=j5 p
 zr:∀q∈PS,∀r∈LS,gI r q.1=0
 nd:(PS.map (·.1)).Nodup
 ct:PS.length<=p
theorem xl.next{m p:Nat}{PS:List (Nat×List Int)}{LS:List (List Int)}(h:xl m p PS LS):xl m (p+1) PS LS:=
 ⟨h.len,λr hr x hx=>RK (h.bd r hr x hx) (oF p),λq hq=>⟨by have:=(h.pl q hq).1;lia,(h.pl q hq).2⟩,λq hq x hx=>RK (h.pb q hq x hx) (oF p),h.zr,h.nd,by have:=h.ct;lia⟩
theorem xl.clear{m p:Nat}{PS:List (Nat×List Int)}{LS:List (List Int)}{b:List Int}(h:xl m p PS LS)(hp:p<m)(hb:b∈LS)(hn:gI b p≠0):xl m (p+1) (PS.map (λq=>(q.1,bB q.2 p b))++[(p,b)]) (LS.map λr=>bB r p b):=by
 have lb:=h.len b hb;refine⟨?_,?_,?_,?_,?_,?_,?_⟩
 ·intro r hr;obtain⟨r0,h0,rfl⟩:=Sg.mp hr;rw[oN (by rw[h.len r0 h0,lb]),h.len r0 h0]
 ·intro r hr x hx;obtain⟨r0,h0,rfl⟩:=Sg.mp hr;exact ye (by rw[h.len r0 h0];lia) (by rw[lb];lia) (h.bd r0 h0) (h.bd b hb) x hx
 ·intro q hq;rcases R0.mp hq with hq|hq
  ·obtain⟨q0,h0,rfl⟩:=Sg.mp hq;obtain⟨h1,h2,h3⟩:=h.pl q0 h0;refine⟨by show q0.1<p+1;lia,by show (bB q0.2 p b).length=_;rw[oN (by rw[h2,lb]),h2],?_⟩;show gI (bB q0.2 p b) q0.1≠0;rw[ib (by rw[h2,lb]) (by rw[h2];lia),h.zr q0 h0 b hb,S9,Tc];exact Int.mul_ne_zero hn h3
  ·rw[Sf]at hq;subst hq;exact⟨by show p<p+1;lia,lb,hn⟩
 ·intro q hq x hx;rcases R0.mp hq with hq|hq
  ·obtain⟨q0,h0,rfl⟩:=Sg.mp hq;exact ye (by rw[(h.pl q0 h0).2.1];lia) (by rw[lb];lia) (h.pb q0 h0) (h.bd b hb) x hx
  ·rw[Sf]at hq;subst hq;exact RK (h.bd b hb x hx) (oF p)
 ·intro q hq r hr;obtain⟨r0,h0,rfl⟩:=Sg.mp hr;have l0:=h.len r0 h0;rcases R0.mp hq with hq|hq
  ·obtain⟨q0,h1,rfl⟩:=Sg.mp hq;show gI (bB r0 p b) q0.1=0;rw[ib (by rw[l0,lb]) (by rw[l0];have:=(h.pl q0 h1).1;lia),h.zr q0 h1 r0 h0,h.zr q0 h1 b hb,S9,S9,Tc]
  ·rw[Sf]at hq;subst hq;show gI (bB r0 p b) p=0;rw[ib (by rw[l0,lb]) (by rw[l0];lia),S5,Tb]
 ·rw[Ss,Uh,List.nodup_append];refine⟨h.nd,by simp,λa ha c hc e=>?_⟩;obtain⟨q,hq,rfl⟩:=Sg.mp ha;rw[Sr,Ui,Sf]at hc;have:=(h.pl q hq).1;have e:q.1=c:=e
  lia
 ·rw[RQ,RI];have:=h.ct;simp only[RU,T6]
  lia
noncomputable def C2:C:=(.comp [none,none,some 5] (.seq (.var 3)) (.nm 1) (.cons (.cmp .NotEq (.idx (.var 1) (.var 2)) (.con (.int 0))) .nil) (.var 1))
noncomputable def xP(ic:Nat):C:=(.comp [none,none,none,some 7,some 5] (.seq (.var 4)) (.tp [1,2]) .nil (.tup (.cons (.var 1) (.cons (.call ic (.cons (.var 2) (.cons (.var 4) (.cons (.var 3) .nil))) []) .nil))))
noncomputable def C3(ic:Nat):C:=(.comp [none,none,some 7,some 5] (.seq (.var 3)) (.nm 1) .nil (.call ic (.cons (.var 1) (.cons (.var 3) (.cons (.var 2) .nil))) []))
noncomputable def C0(ic:Nat):Ts:=(.cons (.asg 6 C2) (.cons (.ifs (.var 6) (.cons (.asg 7 (.idx (.var 6) (.con (.int 0)))) (.cons (.asg 4 (.bin .Add (xP ic) (.lst (.cons (.tup (.cons (.var 5) (.cons (.var 7) .nil))) .nil)))) (.cons (.asg 3 (C3 ic)) .nil))) .nil) .nil))
noncomputable def C1:C:=(.comp [none,none,none] (.zip (.var 0) (.var 2)) (.tp [1,2]) .nil (.bin .Add (.bi .tuple (.cons (.var 1) .nil)) (.tup (.cons (.var 2) .nil))))
noncomputable def xO:C:=(.bi .any (.cons (.comp [none,none,some 1] (.seq (.var 3)) (.nm 1) .nil (.cmp .NotEq (.idx (.var 1) (.var 2)) (.con (.int 0)))) .nil))
noncomputable def Bh(ic:Nat):Ts:=(.cons (.asg 3 C1) (.cons (.asg 4 (.lst .nil)) (.cons (.fr (.nm 5) (.rng1 (.var 1)) (C0 ic)) (.cons (.ifs xO (.cons (.ret (.con .aW)) .nil) .nil) (.cons (.ret (.var 4)) .nil)))))
theorem zip_rows(M:List (List Int))(r:List Int):dq (M.map tI) (r.map Dt.int)=(M.zip r).map λq=>.tup [tI q.1,.int q.2]:=by
 unfold dq
 induction M generalizing r with
 |nil=>rfl
 |cons x a ih=>cases r with|nil=>rfl|cons y b=>simp[ih]
theorem eh(l:List Int):nV (tI l)=true:=by
 show jH (l.map Dt.int)=true
 induction l with
 |nil=>rfl
 |cons x l ih=>rw[Sr,jH,ih];rfl
variable{fs:List Fn}
theorem uo{l:List Int}(h:l≠[]):eD .maxL [.lst (l.map Dt.int)]= .ok (.int (dm l)):=by
 show (match intsOf (l.map Dt.int)with|some ns=>ab (!ns.isEmpty) (R.ok (Dt.int (dm ns)))|none=>.bad)=_;rw[ints_map];cases l with
 |nil=>exact absurd rfl h
 |cons=>rfl
noncomputable def gB:Nat->Nat->Nat
 |0,_=>1
 |1,f=>20+3*f
 |2,f=>6*(20+3*f)
 |3,f=>36*(20+3*f)
 |_,_=>0
noncomputable def xM:C:=(.bi .maxL (.cons (.gZ [none,none,none] (.seq (.var 0)) (.nm 1) .nil (.seq (.var 1)) (.nm 2) .nil (.bi .abs (.cons (.var 2) .nil))) .nil))
noncomputable def xK:C:=(.bi .maxL (.cons (.comp [none,none] (.seq (.var 1)) (.nm 1) .nil (.bi .abs (.cons (.var 1) .nil))) .nil))
noncomputable def xJ:Ts:=(.cons (.ifs (.cmp .Eq (.var 2) (.con (.int 0))) (.cons (.ret (.con (.int 1))) .nil) .nil) (.cons (.asg 4 xM) (.cons (.asg 5 xK) (.cons (.asg 6 (.tup (.cons (.con (.int 1)) (.cons (.bin .Mult (.con (.int 2)) (.var 4)) (.cons (.bin .Mult (.bin .Mult (.con (.int 4)) (.var 4)) (.var 4)) (.cons (.con (.int 0)) .nil)))))) (.cons (.ret (.bin .Mult (.idx (.var 6) (.bin .Sub (.var 2) (.con (.int 1)))) (.bin .Add (.var 5) (.bin .Mult (.var 3) (.var 4))))) .nil)))))
theorem Ew{α:Type}(xs:List α){p:Nat}(h:p<=xs.length):cutD xs none (some (p:Int))=xs.take p:=by unfold cutD;rw[HT.lX,HT.vx,TH,Nat.sub_zero,Nat.min_eq_left h]
theorem yi{α:Type}(xs:List α){p:Nat}(h:p<=xs.length):cutD xs (some (p:Int)) none=xs.drop p:=by unfold cutD;rw[HT.lX,HT.vx,Nat.min_eq_left h,UG (by rw[T5];lia)]
noncomputable def C4:C:=(.gZ [none,none,none,some 2,some 4] (.seq (.var 3)) (.nm 1) .nil (.rng1 (.bin .Add (.var 3) (.con (.int 1)))) (.nm 2) .nil (.bin .Add (.bin .Add (.sliH (.var 1) (.var 4)) (.tup (.cons (.var 2) .nil))) (.sliL (.var 1) (.bin .Add (.var 4) (.con (.int 1))))))
noncomputable def Bk:Ts:=(.cons (.asg 3 (.lst (.cons (.bin .Mult (.tup (.cons (.con (.int 0)) .nil)) (.var 0)) .nil))) (.cons (.fr (.nm 4) (.seq (.var 1)) (.cons (.asg 3 C4) .nil)) (.cons (.ret (.var 3)) .nil)))
theorem vv{m:Nat}(x:Int)(h:m<=1000):mM .Mult (.tup [.int x]) (.int m)= .ok (tI (List.replicate m x)):=by
 show ab (decide (((m:Int)).natAbs<=lim)&&decide ([Dt.int x].length*((m:Int)).toNat<=lim)) (R.ok (Dt.tup (List.replicate ((m:Int)).toNat [Dt.int x]).flatten))=_;have cL:lim=1000000:=rfl;rw[R9 ⋯,R9 (by simp;lia)];have e:(List.replicate ((m:Int)).toNat [Dt.int x]).flatten=(List.replicate m x).map Dt.int:=by
  rw[Td,List.map_replicate]
  induction m with
  |zero=>rfl
  |succ m ih=>rw[UA,TQ,ih ⋯,UA];rfl
 rw[e];rfl
variable{fs:List Fn}
noncomputable abbrev N7(m:Nat)(q:List Int):Prop:=q.length=m/\∀x∈q,(0:Int)<=x/\x.natAbs<2^200
theorem vn{A B:Nat}:∀{l q:List Int},(∀x∈l,x.natAbs<=A)->(∀x∈q,x.natAbs<=B)->(ak l q).natAbs<=l.length*(A*B)
 |[],q,_,_=>by simp[ak]
 |x::l,[],_,_=>by simp[ak]
 |x::l,y::q,h1,h2=>by
  have ih:=vn (l:=l) (q:=q) (λz hz=>h1 z (RC _ hz)) λz hz=>h2 z (RC _ hz)
  have e:ak (x::l) (y::q)=x*y+ak l q:=rfl;have h3:=UV (h1 x RF) (h2 y RF);have h4:(x*y).natAbs=x.natAbs*y.natAbs:=Ta ..;have h5:=Int.natAbs_add_le (x*y) (ak l q);rw[e,RU,UZ]
  lia
theorem qk{α:Type}(xs:List α)(h:xs≠[]):cutD xs none (some (-1))=xs.dropLast:=by
 unfold cutD;have:xs.length≠0:=λz=>h (TJ z)
 have e:HT.bW xs.length xs.length (some (-1))=xs.length-1:=by
  show (if (-1:Int)<0 then((-1:Int)+(xs.length:Int)).toNat else min (-1:Int).toNat xs.length)=_;rw[Vl (by decide)]
  lia
 rw[HT.lX,e,TH,Nat.sub_zero,List.dropLast_eq_take]
noncomputable def xI(ip:Nat):Ts:=(.cons (.asgT [5,6] (.bi .dvm (.cons (.bin .Sub (.idx (.var 4) (.neg (.con (.int 1)))) (.call ip (.cons (.sliH (.var 4) (.neg (.con (.int 1)))) (.cons (.var 0) .nil)) [])) (.cons (.idx (.var 4) (.var 3)) .nil)))) (.cons (.ifs (.or (.cmp .NotEq (.var 6) (.con (.int 0))) (.cmp .Lt (.var 5) (.con (.int 0)))) (.cons (.ret (.con .aW)) .nil) .nil) (.cons (.Ac 2 (.var 3) (.var 5)) .nil)))
noncomputable def Bg(ip:Nat):Ts:=(.cons (.asgM 2 (.bi .list (.cons (.var 0) .nil))) (.cons (.fr (.tp [3,4]) (.seq (.var 1)) (xI ip)) (.cons (.ret (.bi .tuple (.cons (.mvr 2) .nil))) .nil)))
theorem wH{x:Int}(h:x.natAbs<=j5 4)(h0:x≠0):x.natAbs.log2<9000:=by
 have h1:x.natAbs<2^100:=US h (by decide);have h2:x.natAbs.log2<100:=(Nat.log2_lt ⋯).mpr h1
 lia
noncomputable def Bi(is ig iw ic:Nat):Ts:=(.cons (.asg 3 (.call is (.cons (.var 0) (.cons (.var 1) (.cons (.var 2) .nil))) [])) (.cons (.ifs (.cmp .Is (.var 3) (.con .aW)) (.cons (.ret (.lst .nil)) .nil) .nil) (.cons (.asg 4 (.comp [none,none,none] (.seq (.var 3)) (.tp [1,2]) .nil (.var 1))) (.cons (.asg 5 (.comp [none,none,some 4] (.rng1 (.var 1)) (.nm 1) (.cons (.cmp .NotIn (.var 1) (.var 2)) .nil) (.var 1))) (.cons (.asg 6 (.call ig (.cons (.var 0) (.cons (.var 2) (.cons (.bi .len (.cons (.var 4) .nil)) (.cons (.bi .len (.cons (.var 5) .nil)) .nil)))) [])) (.cons (.asg 7 (.comp [none,none,some 3] (.seq (.call iw (.cons (.var 1) (.cons (.var 5) (.cons (.var 6) .nil))) [])) (.nm 1) .nil (.call ic (.cons (.var 1) (.cons (.var 2) .nil)) []))) (.cons (.ret (.comp [none,none] (.seq (.var 7)) (.nm 1) (.cons (.cmp .IsNot (.var 1) (.con .aW)) .nil) (.var 1))) .nil)))))))
structure xD(fs:List Fn)(ip il is ig iw ic io:Nat):Prop where
 p:fs[ip]?=some ⟨2,2,false,qg⟩
 l:fs[il]?=some ⟨3,3,false,xH⟩
 s:fs[is]?=some ⟨3,8,false,Bh il⟩
 g:fs[ig]?=some ⟨4,7,false,xJ⟩
 w:fs[iw]?=some ⟨3,5,false,Bk⟩
 c:fs[ic]?=some ⟨2,7,false,Bg ip⟩
 o:fs[io]?=some ⟨3,8,false,Bi is ig iw ic⟩
theorem oq{α:Type}(p:α->Bool):∀l:List α,(l.filter p).length+(l.filter λx=> !p x).length=l.length
 |[]=>rfl
 |x::l=>by have:=oq p l;rw[List.filter_cons,List.filter_cons];cases p x<;>simp<;>lia
theorem qv{m:Nat}{L:List Nat}(hn:L.Nodup)(hl:∀p∈L,p<m):((List.range m).filter λp=> !decide (p∈L)).length+L.length=m:=by
 have h1:(((List.range m).filter λp=>decide (p∈L))).Perm L:=mN (List.Pairwise.filter _ List.nodup_range) hn λx=>by rw[Uk,Sv,Vi];exact⟨λh=>h.2,λh=>⟨hl x h,h⟩⟩
 have h2:=h1.length_eq;have h3:=oq (λp=>decide (p∈L)) (List.range m);rw[T7]at h3
 lia
theorem JF{m s f g:Nat}(hs:s+f=m)(hm:m<=4)(hg:g<=gB s f):(g+1)^f<=900000:=by
 refine RK (Nat.pow_le_pow_left (Nat.succ_le_succ hg) f) ?_;have hf:f<=4:=⋯
 have Qw:s<=4:=⋯
 match s,f,Qw,hf,hs with
 |0,0,_,_,_=>decide
 |0,1,_,_,_=>decide
 |0,2,_,_,_=>decide
 |0,3,_,_,_=>decide
 |0,4,_,_,_=>decide
 |1,0,_,_,_=>decide
 |1,1,_,_,_=>decide
 |1,2,_,_,_=>decide
 |1,3,_,_,_=>decide
 |1,4,_,_,h=>lia
 |2,0,_,_,_=>decide
 |2,1,_,_,_=>decide
 |2,2,_,_,_=>decide
 |2,3,_,_,h=>lia
 |2,4,_,_,h=>lia
 |3,0,_,_,_=>decide
 |3,1,_,_,_=>decide
 |3,2,_,_,h=>lia
 |3,3,_,_,h=>lia
 |3,4,_,_,h=>lia
 |4,0,_,_,_=>decide
 |4,1,_,_,h=>lia
 |4,2,_,_,h=>lia
 |4,3,_,_,h=>lia
 |4,4,_,_,h=>lia
theorem BO(p:Nat)(L:List Nat):dg .NotIn (.int p) (.lst (L.map λ(q:Nat)=>Dt.int q))= .ok (!decide (p∈L)):=by
 have h:∀L:List Nat,mO (L.map λ(q:Nat)=>Dt.int q)=true/\qm (L.map λ(q:Nat)=>Dt.int q)=0/\inD (.int p) (L.map λ(q:Nat)=>Dt.int q)=decide (p∈L):=by
  intro L
  induction L with
  |nil=>exact⟨rfl,rfl,rfl⟩
  |cons q L ih=>
   refine⟨by rw[Sr,mO,ih.1];rfl,by rw[Sr,qm,ih.2.1];rfl,?_⟩;have e:dy (.int (q:Int)) (.int (p:Int))=decide (p=q):=by
    simp only[dy];rw[SF];simp
    lia
   have:=ih.2.2;unfold inD at this ⊢;rw[Sr,List.any_cons,this,e,SF];simp
 obtain⟨h1,h2,h3⟩:=h L;show ab (pl (.int (p:Int))&&mO (L.map λ(q:Nat)=>Dt.int q)&&decide (qm (L.map λ(q:Nat)=>Dt.int q)<=100)) (R.ok (!inD (.int p) (L.map λ(q:Nat)=>Dt.int q)))=_;rw[h1,h2,h3];rfl
variable{fs:List Fn}
theorem B5(rs:List Mx.D):ofD (.tup rs)= .tup (bK rs):=by simp[ofD]
variable{fs:List Fn}
noncomputable def dI(q:List Int):Mx.D:=.tup (q.map Mx.D.int)
noncomputable def rY:Mx.D->List Int
 |.tup ds=>ds.filterMap λd=>match d with|.int i=>some i|_=>none
 |_=>[]
theorem gp(q:List Int):rY (dI q)=q:=by
 show (q.map Mx.D.int).filterMap _=q;rw[List.filterMap_map]
 induction q with
 |nil=>rfl
 |cons x q ih=>rw[TM];simp only[Function.comp];exact Vh _ ih
theorem DK(q:List Int):tI q=ofD (dI q):=by unfold dI;rw[B5,jh,Uh];exact Vh Dt.tup (Ue λx _=>by simp[ofD])
theorem Dq(Q:List (List Int)):lI Q= .lst (bK (Q.map dI)):=by unfold lI;rw[jh,Uh];congr 1;exact Ue λq _=>DK q
theorem kB:∀a b:List Int,lK (a.map Mx.D.int) (b.map Mx.D.int)=true
 |[],_=>by simp[lK]
 |_::_,[]=>by simp[lK]
 |x::a,y::b=>by simp only[Sr,lK,u7,Bool.true_and];exact kB a b
noncomputable def Eb(ik io iv:Nat):Ts:=(.cons (.HN (.call ik (.cons (.var 0) (.cons (.var 1) (.cons (.tup .nil) .nil))) [])) (.cons (.asgM 2 (.lst .nil)) (.cons (.fr (.nm 3) (.seq (.bi .sorted (.cons (.call io (.cons (.var 0) (.cons (.var 1) (.cons (.bin .Mult (.tup (.cons (.con (.int 0)) .nil)) (.bi .len (.cons (.var 0) .nil))) .nil))) []) .nil))) (.cons (.ifs (.and (.cmp .Gt (.bi .sum (.cons (.var 3) .nil)) (.con (.int 0))) (.nt (.call iv (.cons (.var 3) (.cons (.mvr 2) .nil)) []))) (.cons (.app 2 (.var 3)) .nil) .nil) .nil)) (.cons (.ret (.mvr 2)) .nil))))
noncomputable def Ea(ik io iv ie:Nat):Ts:=(.cons (.HN (.call ik (.cons (.var 0) (.cons (.var 1) (.cons (.var 2) .nil))) [])) (.cons (.asg 3 (.call ie (.cons (.var 0) (.cons (.var 1) .nil)) [])) (.cons (.ret (.bi .sorted (.cons (.comp [none,none,some 3] (.seq (.call io (.cons (.var 0) (.cons (.var 1) (.cons (.var 2) .nil))) [])) (.nm 1) (.cons (.nt (.call iv (.cons (.var 1) (.cons (.var 2) .nil)) [])) .nil) (.var 1)) .nil))) .nil)))
theorem aA(x y:Int)(l q:List Int):ak (x::l) (y::q)=x*y+ak l q:=rfl
theorem gH(q:List Int):ak [] q=0:=rfl
theorem tJ(q:List Int):ak q []=0:=by cases q<;>rfl
theorem qZ(α β:Int):∀{r b:List Int}(z:List Int),r.length=b.length->ak ((r.zip b).map λq=>α*q.1-β*q.2) z=α*ak r z-β*ak b z
 |[],[],z,_=>by simp[ak]
 |x::r,y::b,[],_=>by simp[ak]
 |x::r,y::b,u::z,h=>by
  have ih:=qZ α β (r:=r) (b:=b) z (by simpa using h);rw[UL,Sr,aA,aA,aA,ih]
  grind
 |[],_::_,_,h=>by simp at h
 |_::_,[],_,h=>by simp at h
theorem lS{r b:List Int}{p:Nat}(z:List Int)(h:r.length=b.length):ak (bB r p b) z=gI b p*ak r z-gI r p*ak b z:=qZ _ _ z h
noncomputable def d6(p:Nat)(S:List (Nat×List Int)×List (List Int)):List (Nat×List Int)×List (List Int):=
 match S.2.filter λq=> !(gI q p==0) with
 |[]=>S
 |b::_=>(S.1.map (λq=>(q.1,bB q.2 p b))++[(p,b)],S.2.map λr=>bB r p b)
noncomputable def bL(L0:List (List Int)):Nat->List (Nat×List Int)×List (List Int)
 |0=>([],L0)
 |p+1=>d6 p (bL L0 p)
noncomputable def rowsOf(M:List (List Int))(r:List Int):List (List Int):=(M.zip r).map λq=>q.1++[q.2]
structure Sq(m p:Nat)(L0:List (List Int))(PS:List (Nat×List Int))(LS:List (List Int)):Prop where
 st:xl m p PS LS
 zl:∀r∈LS,∀i,i<p->gI r i=0
 pz:∀q∈PS,∀q'∈PS,q'.1≠q.1->gI q.2 q'.1=0
 ev:∀z,(∀r∈L0,ak r z=0)↔(∀q∈PS,ak q.2 z=0)/\∀r∈LS,ak r z=0
 ln:LS.length=L0.length
 o0:PS=[]->LS=L0
 o1:∀q,PS=[q]->q.2∈L0/\LS=L0.map λr=>bB r q.1 q.2
 o2:∀q1 q2,PS=[q1,q2]->∃r1∈L0,∃r2∈L0,q1.1<q2.1/\gI r1 q1.1≠0/\q2.2=bB r2 q1.1 r1/\q1.2=bB r1 q2.1 q2.2
theorem Sq.next{m p:Nat}{L0:List (List Int)}{PS:List (Nat×List Int)}{LS:List (List Int)}(h:Sq m p L0 PS LS)(hz:∀r∈LS,gI r p=0):Sq m (p+1) L0 PS LS:=
 ⟨h.st.next,λr hr i hi=>by
  by_cases e:i=p
  ·rw[e];exact hz r hr
  ·exact h.zl r hr i ⋯,h.pz,h.ev,h.ln,h.o0,h.o1,h.o2⟩
theorem Sq.clear{m p:Nat}{L0:List (List Int)}{PS:List (Nat×List Int)}{LS:List (List Int)}{b:List Int}(h:Sq m p L0 PS LS)(hp:p<m)(hb:b∈LS)(hn:gI b p≠0):Sq m (p+1) L0 (PS.map (λq=>(q.1,bB q.2 p b))++[(p,b)]) (LS.map λr=>bB r p b):=by
 have lb:=h.st.len b hb;have nI:=h.st.clear hp hb hn;refine⟨nI,?_,?_,?_,by rw[RI,h.ln],λe=>by simp at e,?_,?_⟩
 ·intro r hr i hi;obtain⟨r0,h0,rfl⟩:=Sg.mp hr;have l0:=h.st.len r0 h0;rw[ib (by rw[l0,lb]) (by rw[l0];lia)];by_cases e:i=p
  ·rw[e,S5,Tb]
  ·rw[h.zl r0 h0 i ⋯,h.zl b hb i ⋯,S9,S9,Tc]
 ·intro q hq q' hq' dw;rcases R0.mp hq with hq|hq
  ·obtain⟨q0,h0,rfl⟩:=Sg.mp hq;have l0:=(h.st.pl q0 h0).2.1;rcases R0.mp hq' with hq'|hq'
   ·obtain⟨q1,h1,rfl⟩:=Sg.mp hq';have p1:=(h.st.pl q1 h1).1;show gI (bB q0.2 p b) q1.1=0;rw[ib (by rw[l0,lb]) (by rw[l0];lia),h.pz q0 h0 q1 h1 dw,h.st.zr q1 h1 b hb,S9,S9,Tc]
   ·rw[Sf]at hq';subst hq';show gI (bB q0.2 p b) p=0;rw[ib (by rw[l0,lb]) (by rw[l0];lia),S5,Tb]
  ·rw[Sf]at hq;subst hq;rcases R0.mp hq' with hq'|hq'
   ·obtain⟨q1,h1,rfl⟩:=Sg.mp hq';exact h.st.zr q1 h1 b hb
   ·rw[Sf]at hq';subst hq';exact absurd rfl dw
 ·intro z;rw[h.ev z];constructor
  ·rintro⟨h1,h2⟩;have Iu:=h2 b hb;refine⟨λq hq=>?_,λr hr=>?_⟩
   ·rcases R0.mp hq with hq|hq
    ·obtain⟨q0,h0,rfl⟩:=Sg.mp hq;show ak (bB q0.2 p b) z=0;rw[lS z (by rw[(h.st.pl q0 h0).2.1,lb]),h1 q0 h0,Iu,S9,S9,Tc]
    ·rw[Sf]at hq;subst hq;exact Iu
   ·obtain⟨r0,h0,rfl⟩:=Sg.mp hr;rw[lS z (by rw[h.st.len r0 h0,lb]),h2 r0 h0,Iu,S9,S9,Tc]
  ·rintro⟨h1,h2⟩;have Iu:ak b z=0:=h1 (p,b) (Sd _ (Sf.mpr rfl));have back:∀r:List Int,r.length=b.length->ak (bB r p b) z=0->ak r z=0:=λr hl hr=>by rw[lS z hl,Iu,S9,Tc]at hr;exact(Int.mul_eq_zero.mp hr).resolve_left hn
   exact⟨λq hq=>back q.2 (by rw[(h.st.pl q hq).2.1,lb]) (h1 (q.1,bB q.2 p b) (Uj _ (Sg.mpr ⟨q,hq,rfl⟩))),λr hr=>back r (by rw[h.st.len r hr,lb]) (h2 _ (Sg.mpr ⟨r,hr,rfl⟩))⟩
 ·intro q e;cases PS with
  |nil=>have e0:=h.o0 rfl;simp only[Ui,Us,Tu,and_true]at e;subst e;rw[e0]at hb;exact⟨hb,by rw[e0]⟩
  |cons q0 PS=>have:=Vh List.length e;simp at this
 ·intro q1 q2 e;cases PS with
  |nil=>have:=Vh List.length e;simp at this
  |cons q0 PS=>
   cases PS with
   |nil=>obtain⟨k1,k2⟩:=h.o1 q0 rfl;simp only[Sr,Ui,List.singleton_append,Tu,and_true]at e;obtain⟨e1,e2⟩:=e;subst e1 e2;rw[k2]at hb;obtain⟨r2,h2,rfl⟩:=Sg.mp hb;have:=h.st.pl q0 RF;exact⟨q0.2,k1,r2,h2,this.1,this.2.2,rfl,rfl⟩
   |cons q' PS=>have:=Vh List.length e;simp at this
theorem Sq.zero{m:Nat}{L0:List (List Int)}(h:xl m 0 [] L0):Sq m 0 L0 [] L0:=⟨h,λ_ _ i hi=>by lia,by simp,λz=>by simp,rfl,λ_=>rfl,λ_ e=>(by cases e),λ_ _ e=>(by cases e)⟩
theorem Sq.step{m p:Nat}{L0:List (List Int)}{S:List (Nat×List Int)×List (List Int)}(h:Sq m p L0 S.1 S.2)(hp:p<m):Sq m (p+1) L0 (d6 p S).1 (d6 p S).2:=by
 unfold d6;cases e:S.2.filter λq=> !(gI q p==0) with
 |nil=>
  refine h.next λr hr=>?_
  have:=List.filter_eq_nil_iff.mp e r hr;simpa using this
 |cons b bs=>
  have:b∈S.2.filter λq=> !(gI q p==0):=by rw[e];exact RF
  have:=Uk.mp this;exact h.clear hp this.1 (by simpa using this.2)
theorem Sq.all{m:Nat}{L0:List (List Int)}(h:xl m 0 [] L0):∀p,p<=m->Sq m p L0 (bL L0 p).1 (bL L0 p).2
 |0,_=>Sq.zero h
 |p+1,hp=>(Sq.all h p ⋯).step ⋯
theorem jn{l x:List Int}(g:Int)(h:l.length=x.length):ak (l++[g]) (x++[-1])=ak l x-g:=by
 induction l generalizing x with
 |nil=>cases x with|nil=>simp[ak]|cons=>simp at h
 |cons a l ih=>cases x with
  |nil=>simp at h
  |cons b x=>
   have:=ih (x:=x) (by simpa using h);rw[Tv,Tv,aA,aA,this]
   lia
noncomputable def fP(M:List (List Int))(r x:List Int):Prop:=∀q∈M.zip r,ak q.1 x=q.2
theorem rz{m:Nat}{M:List (List Int)}{r x:List Int}(hl:∀q∈M,q.length=m)(hx:x.length=m):fP M r x↔∀z∈rowsOf M r,ak z (x++[-1])=0:=by
 unfold fP rowsOf;constructor
 ·intro h z hz;obtain⟨q,hq,rfl⟩:=Sg.mp hz;rw[jn _ (by rw[hl _ (Uu hq).1,hx]),h q hq,Tb]
 ·intro h q hq;have:=h _ (Sg.mpr ⟨q,hq,rfl⟩);rw[jn _ (by rw[hl _ (Uu hq).1,hx])]at this
  lia
theorem aE(a:Int)(l:List Int)(i:Nat):gI (a::l) (i+1)=gI l i:=by simp[gI]
theorem q5:∀{l:List Int}(z:List Int),(∀i,i<l.length->gI l i=0)->ak l z=0
 |[],z,_=>rfl
 |a::l,[],_=>rfl
 |a::l,u::z,h=>by have h0:a=0:=h 0 (by simp);rw[aA,h0,q5 z λi hi=>by have:=h (i+1) (by simpa using hi);rwa [aE]at this];simp
noncomputable def oE(m:Nat)(LS:List (List Int)):Bool:=(LS.map λq=> !(gI q m==0)).any id
theorem wG{l:List Int}{m:Nat}(h:l.length=m+1):∃a g,l=a++[g]/\a.length=m/\gI l m=g:=by
 have dw:l≠[]:=λe=>by rw[e]at h;simp at h
 obtain⟨a,g,e⟩:=(qJ l).resolve_left dw;refine⟨a,g,e,by rw[e,RQ]at h;simpa using h,?_⟩;subst e;have:a.length=m:=by rw[RQ]at h;simpa using h
 subst this;simp[gI]
theorem ir{a:List Int}{g:Int}{i:Nat}(h:i<a.length):gI (a++[g]) i=gI a i:=by simp[gI,List.getD,Sn h]
theorem Sq.sol{m:Nat}{M:List (List Int)}{r x:List Int}{PS:List (Nat×List Int)}{LS:List (List Int)}(h:Sq m m (rowsOf M r) PS LS)(hl:∀q∈M,q.length=m)(hx:x.length=m):
  fP M r x↔oE m LS=false/\∀q∈PS,ak q.2 (x++[-1])=0:=by
 rw[rz hl hx,h.ev];have key:∀q∈LS,ak q (x++[-1])= - gI q m:=λq hq=>by
  obtain⟨a,g,e,ha,hg⟩:=wG (h.st.len q hq);rw[hg];have hz:=h.zl q hq;subst e;rw[jn g (by rw[ha,hx]),q5 x λi hi=>by have:=hz i ⋯;rwa [ir hi]at this]
  lia
 have:(∀q∈LS,ak q (x++[-1])=0)↔oE m LS=false:=by
  unfold oE;rw[Tt,Tr];constructor
  ·intro h1 q hq;have:=h1 q hq;rw[key q hq]at this;have:gI q m=0:=⋯
   simp[this]
  ·intro h1 q hq;rw[key q hq];have:=h1 q hq;simp at this
   lia
 rw[this];exact And.comm
theorem bD{l:List Int}{p:Nat}{x:Int}(h:p<l.length):gI (l.set p x) p=x:=by simp[gI,List.getD,h]
theorem bg{l:List Int}{p i:Nat}{x:Int}(h:i≠p):gI (l.set p x) i=gI l i:=by simp[gI,List.getD,TY,U2 h]
theorem iq:∀{a b:List Int},a.length=b.length->(∀i,i<a.length->gI a i=gI b i)->a=b
 |[],[],_,_=>rfl
 |x::a,y::b,h,e=>by have h0:x=y:=e 0 (by simp);rw[h0,iq (a:=a) (b:=b) (by simpa using h) λi hi=>by have:=e (i+1) (by simpa using hi);rwa [aE,aE]at this]
 |[],_::_,h,_=>by simp at h
 |_::_,[],h,_=>by simp at h
theorem uI{l:List Int}{x:Int}(h:x∈l):∃i,i<l.length/\gI l i=x:=by obtain⟨i,hi,e⟩:=T3 h;exact⟨i,hi,by simp[gI,List.getD,hi,e]⟩
theorem jJ:∀{l x q:List Int}{p:Nat},x.length=q.length->p<x.length->x.length<=l.length->(∀i,i<x.length->i≠p->gI l i*gI x i=gI l i*gI q i)->ak l x=ak l q+gI l p*(gI x p-gI q p)
 |[],x,q,p,_,h2,h3,_=>by simp at h3;rw[h3]at h2;simp at h2
 |a::l,[],q,p,_,h2,_,_=>by simp at h2
 |a::l,u::x,[],p,h1,_,_,_=>by simp at h1
 |a::l,u::x,v::q,0,h1,h2,h3,h=>by
  have e:ak l x=ak l q:=by
   have:∀{l x q:List Int},x.length=q.length->x.length<=l.length->(∀i,i<x.length->gI l i*gI x i=gI l i*gI q i)->ak l x=ak l q:=by
    intro l x q
    induction l generalizing x q with
    |nil=>intro _ _ _;rfl
    |cons a l ih=>
     intro h1 h2 h;cases x with
     |nil=>cases q with|nil=>rfl|cons=>simp at h1
     |cons u x=>cases q with
      |nil=>simp at h1
      |cons v q=>rw[aA,aA,ih (by simpa using h1) (by simpa using h2) λi hi=>by have:=h (i+1) (by simpa using hi);rwa [aE,aE,aE]at this];have:=h 0 (by simp);have:a*u=a*v:=this;rw[this]
   exact this (by simpa using h1) (by simpa using h3) λi hi=>by have:=h (i+1) (by simpa using hi) ⋯;rwa [aE,aE,aE]at this
  rw[aA,aA,e];show a*u+_=a*v+_+a*(u-v)
  grind
 |a::l,u::x,v::q,p+1,h1,h2,h3,h=>by
  have ih:=jJ (l:=l) (x:=x) (q:=q) (p:=p) (by simpa using h1) (by simpa using h2) (by simpa using h3) λi hi dw=>by have:=h (i+1) (by simpa using hi) ⋯;rwa [aE,aE,aE]at this
  have h0:a*u=a*v:=h 0 (by simp) ⋯;rw[aA,aA,ih,aE,aE,aE,h0]
  lia
noncomputable def fV(eq q:List Int):Int:= - ak eq (q++[-1])
noncomputable def cu(q:List Int):List (Nat×List Int)->List Int->Option (List Int)
 |[],w=>some w
 |z::PS,w=>if (!((fV z.2 q).fmod (gI z.2 z.1)==0))=true\/(fV z.2 q).fdiv (gI z.2 z.1)<0 then none else cu q PS (w.set z.1 ((fV z.2 q).fdiv (gI z.2 z.1)))
theorem fR{q:List Int}:∀{PS:List (Nat×List Int)}{w x:List Int},(PS.map (·.1)).Nodup->(∀z∈PS,z.1<w.length/\gI z.2 z.1≠0)->
  (cu q PS w=some x↔x.length=w.length/\(∀i,i<w.length->i∉PS.map (·.1)->gI x i=gI w i)/\∀z∈PS,gI z.2 z.1*gI x z.1=fV z.2 q/\0<=gI x z.1)
 |[],w,x,_,_=>by
  unfold cu;constructor
  ·intro h;cases h;exact⟨rfl,λ_ _ _=>rfl,by simp⟩
  ·rintro⟨h1,h2,_⟩;rw[iq h1 λi hi=>h2 i ⋯ (by simp)]
 |z::PS,w,x,nd,hz=>by
  rw[Sr,Ut]at nd;obtain⟨z1,z2⟩:=hz z RF;unfold cu;have jX:=Int.mul_fdiv_add_fmod (fV z.2 q) (gI z.2 z.1);generalize hn:(fV z.2 q).fdiv (gI z.2 z.1)=n at jX;generalize hr:(fV z.2 q).fmod (gI z.2 z.1)=rest at jX;have ih:=fR (q:=q) (PS:=PS) (w:=w.set z.1 n) (x:=x) nd.2 λy hy=>by rw[Ua];exact hz y (RC _ hy)
  by_cases hb:(!(rest==0))=true\/n<0
  ·rw[Vl hb];constructor
   ·intro h;cases h
   ·rintro⟨_,_,h3⟩;obtain⟨k1,k2⟩:=h3 z RF;rw[<-k1,Int.mul_fmod_right]at hr;rw[<-k1,Int.mul_fdiv_cancel_left _ z2]at hn;rcases hb with hb|hb
    ·rw[<-hr]at hb;simp at hb
    ·lia
  ·rw[Vk hb,ih];have r0:rest=0:=by
    by_cases h:rest=0
    ·exact h
    ·exact absurd (.inl (by simp[h])) hb
   have n0:0<=n:=by have:=λh=>hb (.inr h);lia
   rw[r0,Int.add_zero]at jX;rw[Ua];constructor
   ·rintro⟨h1,h2,h3⟩;have xz:gI x z.1=n:=by rw[h2 z.1 z1 nd.1,bD z1]
    refine⟨h1,λi hi sP=>?_,λy hy=>?_⟩
    ·rw[Sr,RL,not_or]at sP;rw[h2 i hi sP.2,bg sP.1]
    ·rcases RL.mp hy with rfl|hy
     ·rw[xz];exact⟨jX,n0⟩
     ·exact h3 y hy
   ·rintro⟨h1,h2,h3⟩;obtain⟨k1,k2⟩:=h3 z RF;have xz:gI x z.1=n:=by rw[<-k1,Int.mul_fdiv_cancel_left _ z2]at hn;exact hn
    refine⟨h1,λi hi sP=>?_,λy hy=>h3 y (RC _ hy)⟩;by_cases e:i=z.1
    ·rw[e,bD z1,xz]
    ·rw[bg e];exact h2 i hi (by rw[Sr,RL,not_or];exact⟨e,sP⟩)
noncomputable def AB(g p:Nat)(Q:List (List Int)):List (List Int):=Q.flatMap λq=>(List.range (g+1)).map λ(n:Nat)=>q.set p (n:Int)
noncomputable def du(g:Nat):List Nat->List (List Int)->List (List Int)
 |[],Q=>Q
 |p::FR,Q=>du g FR (AB g p Q)
theorem f9{g:Nat}:∀{FR:List Nat}{Q:List (List Int)}{q':List Int},q'∈du g FR Q↔∃q∈Q,q'.length=q.length/\(∀i,i<q.length->i∉FR->gI q' i=gI q i)/\∀i,i∈FR->i<q.length->∃n:Nat,n<=g/\gI q' i=n
 |[],Q,q'=>by
  unfold du;constructor
  ·intro h;exact⟨q',h,rfl,λ_ _ _=>rfl,by simp⟩
  ·rintro⟨q,hq,h1,h2,_⟩;rw[iq h1 λi hi=>h2 i ⋯ (by simp)];exact hq
 |p::FR,Q,q'=>by
  unfold du;rw[f9];constructor
  ·rintro⟨q1,Hc,h1,h2,h3⟩;obtain⟨q,hq,h⟩:=Um.mp Hc;obtain⟨n,hn,rfl⟩:=Sg.mp h;have hn:=Sv.mp hn;rw[Ua]at h1 h2 h3;refine⟨q,hq,h1,λi hi sP=>?_,λi hi hl=>?_⟩
   ·rw[RL,not_or]at sP;rw[h2 i hi sP.2,bg sP.1]
   ·by_cases e:i∈FR
    ·exact h3 i e hl
    ·have:i=p:=(RL.mp hi).resolve_right e;subst this;exact⟨n,by lia,by rw[h2 i hl e,bD hl]⟩
  ·rintro⟨q,hq,h1,h2,h3⟩;by_cases hp:p<q.length
   ·obtain⟨n,hn,en⟩:=h3 p RF hp;refine⟨q.set p n,Um.mpr ⟨q,hq,Sg.mpr ⟨n,Sv.mpr ⋯,rfl⟩⟩,by rw[Ua];exact h1,?_,?_⟩
    ·rw[Ua];intro i hi sP;by_cases e:i=p
     ·rw[e,en,bD hp]
     ·rw[bg e];exact h2 i hi (by rw[RL,not_or];exact⟨e,sP⟩)
    ·rw[Ua];exact λi hi hl=>h3 i (RC _ hi) hl
   ·refine⟨q.set p (0:Nat),Um.mpr ⟨q,hq,Sg.mpr ⟨0,Sv.mpr ⋯,rfl⟩⟩,by rw[Ua];exact h1,?_,?_⟩
    ·rw[Ua];intro i hi sP;rw[bg ⋯];exact h2 i hi (by rw[RL,not_or];exact⟨by lia,sP⟩)
    ·rw[Ua];exact λi hi hl=>h3 i (RC _ hi) hl
noncomputable def cy(m:Nat)(PS:List (Nat×List Int)):List Nat:=(List.range m).filter λp=> !decide (p∈PS.map (·.1))
noncomputable def wZ(m g:Nat)(PS:List (Nat×List Int)):List (List Int):=(du g (cy m PS) [List.replicate m 0]).filterMap λq=>cu q PS q
theorem jU{x:List Int}{m:Nat}(h:x.length=m):gI (x++[-1]) m= -1:=by subst h;simp[gI]
theorem fu(m i:Nat):gI (List.replicate m 0) i=0:=by simp only[gI,List.getD,TX];split<;>rfl
theorem Sq.goal{m:Nat}{L0:List (List Int)}{PS:List (Nat×List Int)}{LS:List (List Int)}(h:Sq m m L0 PS LS){x q:List Int}(hx:x.length=m)(hq:q.length=m)(h1:∀i,i<m->i∉PS.map (·.1)->gI x i=gI q i)(h2:∀i,i<m->i∈PS.map (·.1)->gI q i=0):
  ∀z∈PS,ak z.2 (x++[-1])=gI z.2 z.1*gI x z.1-fV z.2 q:=λz hz=>by
 obtain⟨z1,z2,z3⟩:=h.st.pl z hz;have e:=jJ (l:=z.2) (x:=x++[-1]) (q:=q++[-1]) (p:=z.1) (by simp[hx,hq]) (by simp[hx];lia) (by simp[hx,z2]) λi hi dw=>by
  have hi:i<m+1:=by simpa [hx]using hi
  by_cases qy:i=m
  ·rw[qy,jU hx,jU hq]
  ·rw[ir ⋯,ir ⋯];by_cases hp:i∈PS.map (·.1)
   ·obtain⟨z',QI,e⟩:=Sg.mp hp;have e:z'.1=i:=e;rw[<-e,h.pz z hz z' QI (by rw[e];exact dw),Tf,Tf]
   ·rw[h1 i ⋯ hp]
 rw[e,ir ⋯,ir ⋯,h2 z.1 ⋯ (Sg.mpr ⟨z,hz,rfl⟩)];unfold fV;rw[Tc]
 lia
theorem BX{m g:Nat}{L0:List (List Int)}{PS:List (Nat×List Int)}{LS:List (List Int)}(h:Sq m m L0 PS LS){x:List Int}:
  x∈wZ m g PS↔x.length=m/\(∀i,i<m->0<=gI x i)/\(∀z∈PS,ak z.2 (x++[-1])=0)/\∀i∈cy m PS,gI x i<=g:=by
 unfold wZ;rw[Ul];have kr:∀i,i∈cy m PS↔i<m/\i∉PS.map (·.1):=λi=>by unfold cy;rw[Uk,Sv];simp
 constructor
 ·rintro⟨q,hq,hc⟩;obtain⟨q0,h0,h1,h2,h3⟩:=f9.mp hq;rw[Sf]at h0;subst h0;rw[T9]at h1 h2 h3;obtain⟨k1,k2,k3⟩:=(fR h.st.nd λz hz=>⟨by rw[h1];exact(h.st.pl z hz).1,(h.st.pl z hz).2.2⟩).mp hc;rw[h1]at k1 k2;have qz:∀i,i<m->i∈PS.map (·.1)->gI q i=0:=λi hi hp=>by rw[h2 i hi λz=>((kr i).mp z).2 hp,fu]
  refine⟨k1,λi hi=>?_,λz hz=>?_,λi hi=>?_⟩
  ·by_cases hp:i∈PS.map (·.1)
   ·obtain⟨z,hz,rfl⟩:=Sg.mp hp;exact(k3 z hz).2
   ·obtain⟨n,_,e⟩:=h3 i ((kr i).mpr ⟨hi,hp⟩) hi;rw[k2 i hi hp,e]
    lia
  ·rw[h.goal k1 h1 k2 qz z hz,(k3 z hz).1,Tb]
  ·obtain⟨qy,hp⟩:=(kr i).mp hi;obtain⟨n,hn,e⟩:=h3 i hi qy;rw[k2 i qy hp,e]
   lia
 ·rintro⟨h1,h2,h3,h4⟩
  let q:=(List.range m).map λi=>if i∈PS.map (·.1) then 0 else gI x i
  have lq:q.length=m:=by simp[q]
  have gq:∀i,i<m->gI q i=if i∈PS.map (·.1) then 0 else gI x i:=λi hi=>by simp only[q,gI,List.getD,RW,List.getElem?_range hi];rfl
  have q1:∀i,i<m->i∉PS.map (·.1)->gI x i=gI q i:=λi hi hp=>by rw[gq i hi,Vk hp]
  have q2:∀i,i<m->i∈PS.map (·.1)->gI q i=0:=λi hi hp=>by rw[gq i hi,Vl hp]
  refine⟨q,f9.mpr ⟨_,Sf.mpr rfl,by rw[lq,T9],λi hi sP=>?_,λi hi hl=>?_⟩,(fR h.st.nd λz hz=>⟨by rw[lq];exact(h.st.pl z hz).1,(h.st.pl z hz).2.2⟩).mpr ⟨by rw[lq,h1],λi hi hp=>q1 i ⋯ hp,λz hz=>⟨?_,h2 z.1 (h.st.pl z hz).1⟩⟩⟩
  ·rw[T9]at hi;rw[fu];by_cases hp:i∈PS.map (·.1)
   ·exact q2 i hi hp
   ·exact absurd ((kr i).mpr ⟨hi,hp⟩) sP
  ·obtain⟨qy,hp⟩:=(kr i).mp hi;have:=h2 i qy;have:=h4 i hi;exact⟨(gI x i).toNat,by lia,by rw[<-q1 i qy hp];lia⟩
  ·have:=h3 z hz;rw[h.goal h1 lq q1 q2 z hz]at this
   lia
noncomputable def aS(a b:List Int):Bool:=(a.zip b).all λq=>decide (q.1<=q.2)
noncomputable def bu(a:List Int)(F:List (List Int)):Bool:=F.any λf=>aS f a
noncomputable def aV:List (List Int)->List (List Int)->List (List Int)
 |[],F=>F
 |q::Q,F=>aV Q (if (decide (0<q.sum)&& !bu q F)=true then F++[q] else F)
noncomputable def bH(Q:List (List Int)):List (List Int):=(dQ (Q.map dI)).map rY
noncomputable def ltI(a b:List Int):Bool:=Mx.D.de (a.map Mx.D.int) (b.map Mx.D.int)
theorem cg(x y:Int)(a b:List Int):aS (x::a) (y::b)=(decide (x<=y)&&aS a b):=rfl
theorem cK:∀{a b:List Int},a.length=b.length->(aS a b=true↔∀i,i<a.length->gI a i<=gI b i)
 |[],[],_=>⟨λ_ i hi=>by simp at hi,λ_=>rfl⟩
 |x::a,y::b,h=>by
  have ih:=cK (a:=a) (b:=b) (by simpa using h);rw[cg,Ry,Vi,ih];constructor
  ·rintro⟨h1,h2⟩ i hi;cases i with
   |zero=>exact h1
   |succ i=>rw[aE,aE];exact h2 i (by simpa using hi)
  ·intro h;exact⟨h 0 (by simp),λi hi=>by have:=h (i+1) (by simpa using hi);rwa [aE,aE]at this⟩
 |[],_::_,h=>by simp at h
 |_::_,[],h=>by simp at h
theorem gr(a:List Int):aS a a=true:=(cK rfl).mpr λ_ _=>SY _
theorem jP{a b c:List Int}(h1:a.length=b.length)(h2:b.length=c.length)(k1:aS a b=true)(k2:aS b c=true):aS a c=true:=
 (cK (h1.trans h2)).mpr λi hi=>Int.le_trans ((cK h1).mp k1 i hi) ((cK h2).mp k2 i ⋯)
theorem qM(x y:Int)(a b:List Int):ltI (x::a) (y::b)=if x=y then ltI a b else decide (x<y):=by
 show Mx.D.de (.int x::a.map Mx.D.int) (.int y::b.map Mx.D.int)=_;rw[Mx.D.cD];by_cases h:x=y
 ·rw[Vl (by rw[h]),Vl h];rfl
 ·rw[Vk (λz=>h (by injection z)),Vk h];simp[Mx.D.lt]
theorem vQ:∀{a b:List Int},a.length=b.length->aS a b=true->ltI b a=false
 |[],[],_,_=>by simp[ltI,Mx.D.de]
 |x::a,y::b,h,u=>by
  rw[cg,Ry,Vi]at u;rw[qM];by_cases e:y=x
  ·rw[Vl e];exact vQ (by simpa using h) u.2
  ·rw[Vk e];exact R5 ⋯
 |[],_::_,h,_=>by simp at h
 |_::_,[],h,_=>by simp at h
theorem kD:∀{a b:List Int},a.length=b.length->ltI a b=false->ltI b a=false->a=b
 |[],[],_,_,_=>rfl
 |x::a,y::b,h,h1,h2=>by
  rw[qM]at h1 h2;by_cases e:x=y
  ·rw[Vl e]at h1;rw[Vl e.symm]at h2;rw[e,kD (by simpa using h) h1 h2]
  ·rw[Vk e]at h1;rw[Vk (U2 e)]at h2;have:=Vs h1;have:=Vs h2
   lia
 |[],_::_,h,_,_=>by simp at h
 |_::_,[],h,_,_=>by simp at h
theorem c6{Q:List (List Int)}{q:List Int}:q∈bH Q↔q∈Q:=by
 unfold bH;rw[Sg];constructor
 ·rintro⟨d,hd,rfl⟩;obtain⟨q,hq,rfl⟩:=Sg.mp (dD.mp hd);rwa [gp]
 ·intro h;exact⟨dI q,dD.mpr (Sg.mpr ⟨q,h,rfl⟩),gp q⟩
theorem iI(Q:List (List Int)):(bH Q).Pairwise λa b=>ltI b a=false:=by
 unfold bH;rw[Uy];refine List.Pairwise.imp_of_mem ?_ (jv (Q.map dI));intro a b ha hb h;obtain⟨p,_,rfl⟩:=Sg.mp (dD.mp ha);obtain⟨q,_,rfl⟩:=Sg.mp (dD.mp hb);rw[gp,gp];have h:(!Mx.D.lt (dI q) (dI p))=true:=h;unfold ltI;have e:Mx.D.lt (dI q) (dI p)=Mx.D.de (q.map Mx.D.int) (p.map Mx.D.int):=by unfold dI Mx.D.lt;rfl
 rw[e]at h;simpa using h
theorem ve{a:List Int}{F G:List (List Int)}(h:bu a F=true):bu a (F++G)=true:=by unfold bu at *;rw[List.any_append,h,Bool.true_or]
theorem nO:∀{Q F:List (List Int)},∃t,aV Q F=F++t
 |[],F=>⟨[],by simp[aV]⟩
 |q::Q,F=>by
  unfold aV;obtain⟨t,e⟩:=nO (Q:=Q) (F:=if (decide (0<q.sum)&& !bu q F)=true then F++[q] else F);rw[e];split
  ·exact⟨[q]++t,by simp⟩
  ·exact⟨t,rfl⟩
theorem nM:∀{Q F:List (List Int)}{f:List Int},f∈aV Q F->f∈F\/(f∈Q/\0<f.sum)
 |[],F,f,h=>.inl h
 |q::Q,F,f,h=>by
  unfold aV at h;rcases nM h with h|⟨h1,h2⟩
  ·split at h
   ·rename_i hc;rcases R0.mp h with h|h
    ·exact .inl h
    ·rw[Sf]at h;subst h;rw[Ry,Vi]at hc;exact .inr ⟨RF,hc.1⟩
   ·exact .inl h
  ·exact .inr ⟨RC _ h1,h2⟩
theorem nN:∀{Q F:List (List Int)}{q:List Int},q∈Q->0<q.sum->bu q (aV Q F)=true
 |[],F,q,h,_=>by cases h
 |p::Q,F,q,h,h0=>by
  unfold aV;rcases RL.mp h with rfl|h
  ·obtain⟨t,e⟩:=nO (Q:=Q) (F:=if (decide (0<q.sum)&& !bu q F)=true then F++[q] else F);rw[e];refine ve ?_;rw[R9 h0,Bool.true_and];cases ho:bu q F with
   |true=>exact ho
   |false=>show bu q (F++[q])=true;unfold bu;rw[List.any_append];simp[gr]
  ·exact nN h h0
noncomputable def xE(a b:List Int):Prop:=ltI a b=true/\aS a b=false/\aS b a=false
theorem Fq{a b:List Int}(hl:a.length=b.length)(h1:ltI b a=false)(h2:aS a b=false):xE a b:=by
 have h3:ltI a b=true:=by
  cases h:ltI a b with
  |true=>rfl
  |false=>have:=kD hl h h1;rw[this,gr]at h2;cases h2
 refine⟨h3,h2,?_⟩;cases h:aS b a with
 |false=>rfl
 |true=>rw[vQ hl.symm h]at h3;cases h3
theorem i8{m:Nat}:∀{Q F:List (List Int)},(∀q∈Q,q.length=m)->(∀f∈F,f.length=m)->Q.Pairwise (λa b=>ltI b a=false)->(∀f∈F,∀q∈Q,ltI q f=false)->F.Pairwise xE->(aV Q F).Pairwise xE
 |[],F,_,_,_,_,h=>h
 |q::Q,F,hQ,hF,hs,hc,h=>by
  rw[Uw]at hs;unfold aV;refine i8 (λz hz=>hQ z (RC _ hz)) ?_ hs.2 ?_ ?_
  ·intro f hf;split at hf
   ·rcases R0.mp hf with hf|hf
    ·exact hF f hf
    ·rw[Sf]at hf;subst hf;exact hQ f RF
   ·exact hF f hf
  ·intro f hf z hz;split at hf
   ·rcases R0.mp hf with hf|hf
    ·exact hc f hf z (RC _ hz)
    ·rw[Sf]at hf;subst hf;exact hs.1 z hz
   ·exact hc f hf z (RC _ hz)
  ·split
   ·rename_i hq;rw[Ry]at hq;have ho:bu q F=false:=by simpa using hq.2
    unfold bu at ho;rw[Tr]at ho;rw[Uv];refine⟨h,List.pairwise_singleton ..,λa ha b hb=>?_⟩;rw[Sf]at hb;subst hb;exact Fq (by rw[hF a ha,hQ b RF]) (hc a ha b RF) (by simpa using ho a ha)
   ·exact h
noncomputable def unit(m i:Nat):List Int:=(List.replicate m 0).set i 1
theorem Ax(m i:Nat):(unit m i).length=m:=by simp[unit]
theorem vR{m i j:Nat}(h:i<m):gI (unit m i) j=if j=i then 1 else 0:=by
 unfold unit;by_cases e:j=i
 ·rw[Vl e,e,bD (by simpa using h)]
 ·rw[Vk e,bg e,fu]
theorem jK{l:List Int}{m i:Nat}{v:Int}(hl:l.length=m)(h:i<m)(x:List Int)(hx:x.length=m):ak l (x.set i v)=ak l x+gI l i*(v-gI x i):=by
 have:=jJ (l:=l) (x:=x.set i v) (q:=x) (p:=i) (by simp) (by simp[hx,h]) (by simp[hx,hl]) λj hj dw=>by rw[bg dw]
 rw[this,bD ⋯]
theorem nW(l:List Int):∀m,ak l (List.replicate m 0)=0:=by
 induction l with
 |nil=>intro m;rfl
 |cons a l ih=>
  intro m;cases m with
  |zero=>rfl
  |succ m=>rw[UA,aA,ih];lia
theorem wQ{l:List Int}{m i:Nat}(hl:l.length=m)(h:i<m):ak l (unit m i)=gI l i:=by
 unfold unit;rw[jK hl h _ (by simp),nW,fu]
 lia
theorem vG:∀{y:List Int},(∀i,i<y.length->0<=gI y i)->(∃i,i<y.length/\0<gI y i)->0<y.sum
 |[],_,⟨i,hi,_⟩=>by simp at hi
 |a::y,h,⟨i,hi,hp⟩=>by
  have ha:0<=a:=h 0 (by simp);have hy:∀i,i<y.length->0<=gI y i:=λi hi=>by have:=h (i+1) (by simpa using hi);rwa [aE]at this
  have ns:∀{y:List Int},(∀i,i<y.length->0<=gI y i)->0<=y.sum:=by
   intro y
   induction y with
   |nil=>intro _;simp
   |cons b y ih=>
    intro h;have:=h 0 (by simp);have hb:0<=b:=this;have:=ih λi hi=>by have:=h (i+1) (by simpa using hi);rwa [aE]at this
    rw[UC];lia
  rw[UC];cases i with
  |zero=>have:0<a:=hp;have:=ns hy;lia
  |succ i=>have:=vG hy ⟨i,by simpa using hi,by rwa [aE]at hp⟩;lia
theorem dB(a b:Int):a<b\/b<=a:=⋯
noncomputable def D3(M:List (List Int)):List Int:=M.flatMap λq=>q.map λx=>(x.natAbs:Int)
noncomputable def jN(M:List (List Int)):Int:=dm (D3 M)
noncomputable def mJ(s f:Nat)(top goal:Int):Int:=if s=0 then 1 else([1,2*top,4*top*top,0]:List Int).getD (s-1) 0*(goal+f*top)
theorem j4{M:List (List Int)}{x:List Int}:fP M (List.replicate M.length 0) x↔∀q∈M,ak q x=0:=by
 unfold fP
 induction M with
 |nil=>simp
 |cons q M ih=>rw[RU,UA,UL];simp only[List.forall_mem_cons];rw[ih]
theorem Nd{k:Nat}{ai xi ρ:Int}{t G:Int}(hi:ai≠0)(ht:(ai.natAbs:Int)<=t)(hρ:(ρ.natAbs:Int)<=G)(hx:G+k*t<xi){L:List (Int×Int)}(hk:L.length<=k)(hL:∀p∈L,(p.1.natAbs:Int)<=t/\0<=p.2)(h:ai*xi+(L.map λp=>p.1*p.2).sum=ρ):
  ∃p∈L,ai*p.1<0/\(ai.natAbs:Int)<=p.2:=by
 refine SR λhn=>?_
 have key:∀(σ:Int),σ*ai=ai.natAbs->(σ=1\/σ= -1)->∀p∈L,- (t*(ai.natAbs-1))<=σ*(p.1*p.2):=by
  intro σ hσ hs p hp;obtain⟨p1,p2⟩:=hL p hp;have a1:1<=ai.natAbs:=⋯
  have tn:0<=t*((ai.natAbs:Int)-1):=S8 ⋯ ⋯;rcases dB (σ*p.1) 0 with hneg|y7
  ·have K3:ai*p.1<0:=by
    rcases hs with rfl|rfl
    ·have:0<ai:=⋯
     exact Int.mul_neg_of_pos_of_neg this ⋯
    ·have:ai<0:=⋯
     exact Int.mul_neg_of_neg_of_pos this ⋯
   have cO:p.2<=(ai.natAbs:Int)-1:=by
    rcases dB p.2 ai.natAbs with z|z
    ·lia
    ·exact absurd ⟨p,hp,K3,z⟩ hn
   have e1:σ*(p.1*p.2)= - ((p.1.natAbs:Int)*p.2):=by
    rw[<-S4];have:σ*p.1= - (p.1.natAbs:Int):=by rcases hs with rfl|rfl<;>lia
    rw[this,Int.neg_mul]
   have e2:(p.1.natAbs:Int)*p.2<=t*(ai.natAbs-1):=Int.mul_le_mul p1 cO p2 ⋯
   lia
  ·have:0<=σ*(p.1*p.2):=by rw[<-S4];exact S8 y7 p2
   lia
 obtain⟨σ,hσ,hs⟩:∃σ:Int,σ*ai=ai.natAbs/\(σ=1\/σ= -1):=by
  rcases SZ hi with z|z
  ·exact⟨-1,by lia,.inr rfl⟩
  ·exact⟨1,by lia,.inl rfl⟩
 have sm:∀L:List (Int×Int),(∀p∈L,- (t*(ai.natAbs-1))<=σ*(p.1*p.2))-> - ((L.length:Int)*(t*(ai.natAbs-1)))<=σ*(L.map λp=>p.1*p.2).sum:=by
  intro L
  induction L with
  |nil=>intro _;simp
  |cons p L ih=>
   intro h;have h1:=ih λq hq=>h q (RC _ hq)
   have h2:=h p RF;rw[Sr,UC,Int.mul_add,RU];have:((L.length+1:Nat):Int)*(t*(ai.natAbs-1))=L.length*(t*(ai.natAbs-1))+t*(ai.natAbs-1):=by rw[Int.natCast_add,Int.add_mul];simp
   lia
 have h1:=sm L (key σ hσ hs);have h2:σ*(ai*xi)+σ*(L.map λp=>p.1*p.2).sum=σ*ρ:=by rw[<-Int.mul_add,h]
 have h3:σ*(ai*xi)=ai.natAbs*xi:=by rw[<-S4,hσ]
 have h8:σ*ρ<=G:=by rcases hs with rfl|rfl<;>lia
 have a1:(1:Int)<=ai.natAbs:=⋯
 have tn:0<=t*((ai.natAbs:Int)-1):=S8 ⋯ ⋯;have h4:(L.length:Int)*(t*(ai.natAbs-1))<=k*(t*(ai.natAbs-1)):=S7 ⋯ tn;have h5:(ai.natAbs:Int)*(G+k*t+1)<=ai.natAbs*xi:=S6 ⋯ ⋯;have h6:(ai.natAbs:Int)*(G+k*t+1)=ai.natAbs*G+k*(t*(ai.natAbs-1))+k*t+ai.natAbs:=by grind
 have h7:0<=(k:Int)*t:=S8 ⋯ ⋯;have h9:(1:Int)*G<=ai.natAbs*G:=S7 a1 ⋯
 lia
theorem lU:∀{a x:List Int}{i:Nat},i<a.length->i<x.length->gI a i*gI x i+(((a.zip x).eraseIdx i).map λp=>p.1*p.2).sum=ak a x
 |[],_,_,h,_=>by simp at h
 |_::_,[],_,_,h=>by simp at h
 |u::a,v::x,0,_,_=>rfl
 |u::a,v::x,i+1,h1,h2=>by
  have ih:=lU (a:=a) (x:=x) (i:=i) (by simpa using h1) (by simpa using h2);rw[aE,aE,UL,List.eraseIdx_cons_succ,Sr,UC,aA,<-ih];show _+(u*v+_)=_
  lia
theorem CD{m:Nat}{a x:List Int}{t ρ G:Int}(hl:a.length=m)(hx:x.length=m)(hn:∀i,i<m->0<=gI x i)(ht:∀z∈a,(z.natAbs:Int)<=t)(hρ:(ρ.natAbs:Int)<=G)(hs:ak a x=ρ){i:Nat}(hi:i<m)(h0:gI a i≠0)(QD:G+((m-1:Nat):Int)*t<gI x i):
  ∃j,j<m/\j≠i/\gI a i*gI a j<0/\((gI a i).natAbs:Int)<=gI x j:=by
 have hz:(a.zip x).length=m:=by rw[Ud];lia
 have mem:∀p∈(a.zip x).eraseIdx i,∃j,j<m/\j≠i/\p=(gI a j,gI x j):=λp hp=>by obtain⟨j,hj,e⟩:=List.mem_eraseIdx_iff_getElem?.mp hp;rw[List.getElem?_zip_eq_some]at e;have h1:=(RB.mp e.1).1;refine⟨j,by lia,hj,?_⟩;have e1:=get_gI' h1;have e2:=get_gI' (l:=x) (k:=j) ⋯;rw[e1]at e;rw[e2]at e;have q1:=U4 e.1;have q2:=U4 e.2;rw[q1,q2]
 obtain⟨p,hp,k1,k2⟩:=Nd (k:=m-1) (t:=t) (G:=G) h0 (ht _ (fq ⋯)) hρ QD (L:=(a.zip x).eraseIdx i) (by rw[List.length_eraseIdx_of_lt ⋯,hz];lia) (λp hp=>by
  obtain⟨j,hj,_,rfl⟩:=mem p hp;exact⟨ht _ (fq ⋯),hn j hj⟩) (by rw[lU ⋯ ⋯,hs])
 obtain⟨j,hj,dw,rfl⟩:=mem p hp;exact⟨j,hj,dw,k1,k2⟩
where
 get_gI' {l:List Int} {k:Nat} (h:k<l.length):l[k]?=some (gI l k):=by simp[gI,List.getD,h]
theorem wL{u v:Int}(h:u*v<0):u*(v.natAbs:Int)+v*(u.natAbs:Int)=0:=by
 have hu:u≠0:=λz=>by rw[z,Tf]at h;lia
 rcases SZ hu with z|z
 ·have w:0<v:=by
   rcases dB 0 v with w|w
   ·exact w
   ·have:=Int.mul_nonneg_of_nonpos_of_nonpos (Int.le_of_lt z) w;lia
  have e1:(v.natAbs:Int)=v:=⋯
  have e2:(u.natAbs:Int)= - u:=⋯
  rw[e1,e2];grind
 ·have w:v<0:=by
   rcases dB v 0 with w|w
   ·exact w
   ·have:=S8 (Int.le_of_lt z) w;lia
  have e1:(v.natAbs:Int)= - v:=⋯
  have e2:(u.natAbs:Int)=u:=⋯
  rw[e1,e2];grind
theorem f7{m i:Nat}{PS:List (Nat×List Int)}:i∈cy m PS↔i<m/\i∉PS.map (·.1):=by unfold cy;rw[Uk,Sv];simp
theorem vb{l:List Int}{x:Int}(h:x∈l):x<=dm l:=(cF l (λe=>by rw[e]at h;cases h)).2 x h
theorem Ar{M:List (List Int)}{q:List Int}{z:Int}(hq:q∈M)(hz:z∈q):(z.natAbs:Int)<=jN M:=vb (Um.mpr ⟨q,hq,Sg.mpr ⟨z,hz,rfl⟩⟩)
theorem As{M:List (List Int)}{t:Int}(h:∀q∈M,∀z∈q,(z.natAbs:Int)<=t)(ht:0<=t):jN M<=t:=by
 unfold jN;by_cases e:D3 M=[]
 ·rw[e];exact ht
 ·obtain⟨q,hq,h'⟩:=Um.mp (cF _ e).1;obtain⟨x,hx,ex⟩:=Sg.mp h';rw[<-ex];exact h q hq x hx
theorem jD{l:List Int}(h:l.length=3):∃a b c,l=[a,b,c]:=by
 match l,h with
 |[a,b,c],_=>exact⟨a,b,c,rfl⟩
theorem qu{m p:Nat}{L0:List (List Int)}{PS:List (Nat×List Int)}{LS:List (List Int)}(S:Sq m m L0 PS LS):(cy m PS).length+PS.length=m:=by
 have:=qv (m:=m) (L:=PS.map (·.1)) S.st.nd λp hp=>by obtain⟨q,hq,rfl⟩:=Sg.mp hp;exact(S.st.pl q hq).1
 rw[RI]at this;exact this
variable{fs:List Fn}
structure gW(D:Dt)(M:List (List Int)):Prop where
 it:itemsOf D=some (M.map tI)
 sq:dc D=some (M.map tI)
 ln:eD .len [D]= .ok (.int M.length)
theorem gW.lst(M:List (List Int)):gW (lI M) M:=⟨rfl,rfl,by show R.ok (Dt.int ((M.map tI).length:Nat))=_;rw[RI]⟩
theorem C6{ik N:Nat}(hf:fs[ik]?=some ⟨3,3,false,Bf⟩)(hN:1<=N){D:Dt}{M:List (List Int)}(hD:gW D M){many:Int}{r:List Int}(hR:M.length<=1000)(P4:∀q∈M,q.length<=100)(hr:r.length<=1000)(hb:brk M many r=false):
  ax fs N ik [D,.int many,tI r] none= .ok (.aW,none):=by
 have cL:lim=1000000:=rfl;refine aB hf hN rfl ?_;show fin (aU (ax fs (N-1)) Bf [some (D),some (.int many),some (tI r)] none)=_;have ln:=hD.ln;unfold brk at hb;simp only[Bool.or_eq_false_iff,decide_eq_false_iff_not]at hb;obtain⟨⟨⟨h1,h2⟩,h3⟩,h4⟩:=hb;refine dY (S1:=none) (by simp only[RX,ln];rw[R5 ⋯]) ?_;refine dY (S1:=none) (by simp only[RX,R5 h2]) ?_;have hA:ev (ax fs (N-1)) ug [some (D),some (.int many),some (tI r)] none= .ok (.bl (vX M),none):=by
  have hc:aQ (aR (.nm 1) (bp (ax fs (N-1)) .nil) (kW (ax fs (N-1)) (M.map tI).length (.seq (.var 1)) (.nm 2) .nil (.cmp .Gt (.bi .abs (.cons (.var 2) .nil)) (.con (.int 3)))) [none,none,none]) (M.map tI) none= .ok (M.flatMap λq=>q.map λx=>.bl (decide ((3:Int)<x.natAbs)),none):=bP λq hq=>by have hl:=P4 q hq;refine Av (ρ1:=[none,some (tI q),none]) (ds:=q.map Dt.int) (S1:=none) rfl rfl ?_ rfl (dF λx hx=>aX (ρ1:=[none,some (tI q),some (.int x)]) rfl (by simp only[RX,oG]) rfl);rw[RI,RI];exact RK (UV hR hl) (by decide)
  unfold ug;rw[fU,k8 (ds:=M.map tI) (S1:=none) (dH (d:=D) rfl hD.it) (by rw[RI];lia) rfl hc,R.af];have e:(M.flatMap λq=>q.map λx=>Dt.bl (decide ((3:Int)<x.natAbs)))=(M.flatMap λq=>q.map λx=>decide ((3:Int)<x.natAbs)).map Dt.bl:=by rw[Ug];congr 1;funext q;rw[Uh];rfl
  rw[e,su];show R.ok (Dt.bl _,none)=_;congr 3;unfold vX;rw[List.any_flatMap];congr 1;funext q;rw[Tt];congr 1;funext x;show decide _=decide _;congr 1;exact propext ⋯
 have hB:ev (ax fs (N-1)) uh [some (D),some (.int many),some (tI r)] none= .ok (.bl (vY r),none):=by
  have hc:aQ (aR (.nm 1) (bp (ax fs (N-1)) .nil) (bC (ax fs (N-1)) (.cmp .Gt (.bi .abs (.cons (.var 1) .nil)) (.con (.int 20)))) [none,none]) (r.map Dt.int) none= .ok (r.map λx=>.bl (decide ((20:Int)<x.natAbs)),none):=dF λx hx=>aX (ρ1:=[none,some (.int x)]) rfl (by simp only[RX,oG]) rfl
  unfold uh;rw[fU,bf (ds:=r.map Dt.int) (S1:=none) rfl (by rw[RI];lia) rfl hc,R.af];have e:(r.map λx=>Dt.bl (decide ((20:Int)<x.natAbs)))=(r.map λx=>decide ((20:Int)<x.natAbs)).map Dt.bl:=by rw[Uh];rfl
  rw[e,su];show R.ok (Dt.bl _,none)=_;congr 3;unfold vY;rw[Tt];congr 1;funext x;show decide _=decide _;congr 1;exact propext ⋯
 have tA:cN (ax fs (N-1)) ug [some (D),some (.int many),some (tI r)] none= .ok (vX M,none):=sM hA;have tB:cN (ax fs (N-1)) uh [some (D),some (.int many),some (tI r)] none= .ok (vY r,none):=sM hB;rw[h3]at tA;rw[h4]at tB;exact dY (S1:=none) tA (dY (S1:=none) tB rfl)
theorem J4{ic is N:Nat}(hc:fs[ic]?=some ⟨3,3,false,xH⟩)(hf:fs[is]?=some ⟨3,8,false,Bh ic⟩)(hN:2<=N){D:Dt}{M:List (List Int)}(hD:gW D M){r:List Int}{m:Nat}(hm:m<=4)(hM:M.length<=16)(hr:r.length<=16)(Il:∀q∈M,q.length=m)(Mj:∀q∈M,∀x∈q,x.natAbs<=3)(MD:∀x∈r,x.natAbs<=20):
  ax fs N is [D,.int m,tI r] none= .ok ((if oE m (bL (rowsOf M r) m).2=true then .aW else .lst ((bL (rowsOf M r) m).1.map pD)),none)/\Sq m m (rowsOf M r) (bL (rowsOf M r) m).1 (bL (rowsOf M r) m).2:=by
 have cL:lim=1000000:=rfl;have b4:j5 3<2^64:=by decide
 let L0:=rowsOf M r
 have s0:xl m 0 [] L0:=by
  refine⟨λq hq=>?_,λq hq x hx=>?_,by simp,by simp,by simp,by simp,by simp⟩
  ·obtain⟨z,hz,rfl⟩:=Sg.mp hq;rw[RQ,Il _ (Uu hz).1];rfl
  ·obtain⟨z,hz,rfl⟩:=Sg.mp hq;show x.natAbs<=20;rcases R0.mp hx with hx|hx
   ·have:=Mj _ (Uu hz).1 x hx;lia
   ·rw[Sf]at hx;subst hx;exact MD _ (Uu hz).2
 have l0:L0.length<=16:=by show ((M.zip r).map _).length<=16;rw[RI,Ud];lia
 have sq:=λp(hp:p<=m)=>Sq.all s0 p hp
 have hF:ev (ax fs (N-1)) C1 [some (D),some (.int m),some (tI r),none,none,none,none,none] none= .ok (.lst (L0.map tI),none):=by
  have wo:aQ (aR (.tp [1,2]) (bp (ax fs (N-1)) .nil) (bC (ax fs (N-1)) (.bin .Add (.bi .tuple (.cons (.var 1) .nil)) (.tup (.cons (.var 2) .nil)))) [none,none,none]) (dq (M.map tI) (r.map Dt.int)) none= .ok ((M.zip r).map λq=>tI (q.1++[q.2]),none):=by
   rw[zip_rows];refine bb λq hq=>?_
   have hl:=Il _ (Uu hq).1;have ha:mM .Add (tI q.1) (.tup [.int q.2])= .ok (tI (q.1++[q.2])):=by show ab (decide ((q.1.map Dt.int).length+1<=lim)) (R.ok (Dt.tup (q.1.map Dt.int++[.int q.2])))=_;rw[R9 (by rw[RI];lia),guard_true];unfold tI;rw[Ss];rfl
   have ht:eD .tuple [tI q.1]= .ok (tI q.1):=rfl;exact aX (ρ1:=[none,some (tI q.1),some (.int q.2)]) rfl (by simp only[RX,ht,ha]) (by unfold cc;rw[eh,SQ])
  have e:((M.zip r).map λq=>tI (q.1++[q.2]))=L0.map tI:=by show _=((M.zip r).map _).map tI;rw[Uh];rfl
  rw[e]at wo;exact bf (ds:=dq (M.map tI) (r.map Dt.int)) (S1:=none) (lF (S1:=none) (S2:=none) (da:=D) rfl rfl hD.sq rfl) (by rw[zip_rows,RI,Ud];lia) rfl wo
 have loop:=cw (S:=none) (tg:=.nm 5) (body:=aU (ax fs (N-1)) (C0 ic)) (ds:=bh 0 m) (ρ:=[some (D),some (.int m),some (tI r),some (.lst (L0.map tI)),some (.lst []),none,none,none])
  (λpre ρ=>∃x5 x6 x7,ρ=[some (D),some (.int m),some (tI r),some (.lst ((bL L0 pre.length).2.map tI)),some (.lst ((bL L0 pre.length).1.map pD)),x5,x6,x7]) ⟨none,none,none,rfl⟩ (by
   rintro pre x post ρ e ⟨x5,x6,x7,rfl⟩;obtain⟨h1,rfl⟩:=gL e;generalize hp:pre.length=p at *;have e1:(pre++[Dt.int p]).length=p+1:=by rw[RQ,hp];rfl
   have NM:=sq p ⋯;have st:=NM.st;have hl:(bL L0 p).2.length<=16:=by rw[NM.ln];exact l0
   have KM:bL L0 (p+1)=d6 p (bL L0 p):=rfl;generalize hS:bL L0 p=S at *;obtain⟨PS,LS⟩:=S;dsimp only at st hl NM;have hB:j5 p<2^64:=US (sk ⋯) b4;have hH:ev (ax fs (N-1)) C2 [some (D),some (.int m),some (tI r),some (.lst (LS.map tI)),some (.lst (PS.map pD)),some (.int p),x6,x7] none= .ok (.lst ((LS.filter λq=> !(gI q p==0)).map tI),none):=by
    have wo:aQ (aR (.nm 1) (bp (ax fs (N-1)) (.cons (.cmp .NotEq (.idx (.var 1) (.var 2)) (.con (.int 0))) .nil)) (bC (ax fs (N-1)) (.var 1)) [none,none,some (.int p)]) (LS.map tI) none= .ok (LS.flatMap λq=>if (!(gI q p==0))=true then[tI q] else[],none):=bP λq hq=>by have hi:=iA (l:=q) (p:=p) (by rw[st.len q hq];lia);exact turn_if (ρ1:=[none,some (tI q),some (.int p)]) rfl (by simp only[RX,hi]) λ_=>⟨by simp only[RX],by unfold cc;rw[eh,SQ]⟩
    rw[fm]at wo;exact bf (ds:=LS.map tI) (S1:=none) rfl (by rw[RI];lia) rfl wo
   generalize hv:(LS.filter λq=> !(gI q p==0))=hav at hH;cases hav with
   |nil=>
    refine⟨_,_,rfl,fA (d:=.lst []) (S1:=none) hH rfl (iF (S1:=none) rfl rfl),some (.int p),some (.lst []),x7,?_⟩;have e3:d6 p (PS,LS)=(PS,LS):=by unfold d6;rw[show (PS,LS).2=LS from rfl,hv]
    rw[e1,KM,e3];rfl
   |cons b bs=>
    have Ov:b∈LS/\gI b p≠0:=by
     have:b∈LS.filter λq=> !(gI q p==0):=by rw[hv];exact RF
     have:=Uk.mp this;exact⟨this.1,by simpa using this.2⟩
    have lb:=st.len b Ov.1;have KS:∀x∈b,Hg x:=λx hx=>US (st.bd b Ov.1 x hx) hB
    have hP:ev (ax fs (N-1)) (xP ic) [some (D),some (.int m),some (tI r),some (.lst (LS.map tI)),some (.lst (PS.map pD)),some (.int p),some (.lst ((b::bs).map tI)),some (tI b)] none= .ok (.lst ((PS.map λq=>(q.1,bB q.2 p b)).map pD),none):=by
     have wo:aQ (aR (.tp [1,2]) (bp (ax fs (N-1)) .nil) (bC (ax fs (N-1)) (.tup (.cons (.var 1) (.cons (.call ic (.cons (.var 2) (.cons (.var 4) (.cons (.var 3) .nil))) []) .nil)))) [none,none,none,some (tI b),some (.int p)]) (PS.map pD) none= .ok (PS.map λq=>pD (q.1,bB q.2 p b),none):=bb λq hq=>by have fh:=(st.pl q hq).2.1;have:=yf hc (N:=N-1) ⋯ (r:=q.2) (b:=b) (p:=p) ⋯ ⋯ (λx hx=>US (st.pb q hq x hx) hB) KS ⋯;exact aX (ρ1:=[none,some (.int q.1),some (tI q.2),some (tI b),some (.int p)]) rfl (by simp only[RX,this];rfl) (by unfold cc;simp only[pD,nV,jH,eh,SE,SQ])
     have e2:(PS.map λq=>pD (q.1,bB q.2 p b))=(PS.map λq=>(q.1,bB q.2 p b)).map pD:=by rw[Uh];rfl
     rw[e2]at wo;exact bf (ds:=PS.map pD) (S1:=none) rfl (by rw[RI];have:=st.ct;lia) rfl wo
    have hL:∀y4,ev (ax fs (N-1)) (C3 ic) [some (D),some (.int m),some (tI r),some (.lst (LS.map tI)),y4,some (.int p),some (.lst ((b::bs).map tI)),some (tI b)] none= .ok (.lst ((LS.map λq=>bB q p b).map tI),none):=λy4=>by
     have wo:aQ (aR (.nm 1) (bp (ax fs (N-1)) .nil) (bC (ax fs (N-1)) (.call ic (.cons (.var 1) (.cons (.var 3) (.cons (.var 2) .nil))) [])) [none,none,some (tI b),some (.int p)]) (LS.map tI) none= .ok (LS.map λq=>tI (bB q p b),none):=bb λq hq=>by have fh:=st.len q hq;have:=yf hc (N:=N-1) ⋯ (r:=q) (b:=b) (p:=p) ⋯ ⋯ (λx hx=>US (st.bd q hq x hx) hB) KS ⋯;exact aX (ρ1:=[none,some (tI q),some (tI b),some (.int p)]) rfl (by simp only[RX,this]) (by unfold cc;rw[eh,SQ])
     have e2:(LS.map λq=>tI (bB q p b))=(LS.map λq=>bB q p b).map tI:=by rw[Uh];rfl
     rw[e2]at wo;exact bf (ds:=LS.map tI) (S1:=none) rfl (by rw[RI];lia) rfl wo
    have hAdd:ev (ax fs (N-1)) (.bin .Add (xP ic) (.lst (.cons (.tup (.cons (.var 5) (.cons (.var 7) .nil))) .nil))) [some (D),some (.int m),some (tI r),some (.lst (LS.map tI)),some (.lst (PS.map pD)),some (.int p),some (.lst ((b::bs).map tI)),some (tI b)] none= .ok (.lst ((PS.map (λq=>(q.1,bB q.2 p b))++[(p,b)]).map pD),none):=by rw[ev,hP,R.af];simp only[RX];show (mM .Add (.lst ((PS.map λq=>(q.1,bB q.2 p b)).map pD)) (.lst [pD (p,b)])).bind _=_;show (ab (decide (((PS.map λq=>(q.1,bB q.2 p b)).map pD).length+1<=lim)) _).bind _=_;rw[R9 (by rw[RI,RI];have:=st.ct;lia),guard_true,Ss];rfl
    refine⟨_,_,rfl,fA (d:=.lst ((b::bs).map tI)) (S1:=none) hH rfl (pA (S1:=none) rfl (fA (d:=tI b) (S1:=none) (by have h0:=(zd (ds:=(b::bs).map tI) (k:=0) (d:=tI b) rfl).2;simp only[RX];exact Vh (R.bind · _) h0) (by unfold cc;rw[eh,SQ]) (fA (S1:=none) hAdd rfl (fA (S1:=none) (hL _) rfl rfl)))),some (.int p),some (.lst ((b::bs).map tI)),some (tI b),?_⟩;have e3:d6 p (PS,LS)=(PS.map (λq=>(q.1,bB q.2 p b))++[(p,b)],LS.map λr=>bB r p b):=by unfold d6;rw[show (PS,LS).2=LS from rfl,hv]
    rw[e1,KM,e3];rfl)
 obtain⟨ρ1,fG,x5,x6,x7,rfl⟩:=loop;have em:(bh 0 m).length=m:=by simp[bh]
 rw[em]at fG;have Lc:=sq m (RE _);have st:=Lc.st;have hl:(bL L0 m).2.length<=16:=by rw[Lc.ln];exact l0
 refine⟨?_,Lc⟩;show _=R.ok ((if oE m (bL L0 m).2=true then Dt.aW else Dt.lst ((bL L0 m).1.map pD)),none);generalize bL L0 m=S at *;obtain⟨PS,LS⟩:=S;dsimp only at st hl Lc;have hA:cN (ax fs (N-1)) xO [some (D),some (.int m),some (tI r),some (.lst (LS.map tI)),some (.lst (PS.map pD)),x5,x6,x7] none= .ok ((LS.map λq=> !(gI q m==0)).any id,none):=by
  have wo:aQ (aR (.nm 1) (bp (ax fs (N-1)) .nil) (bC (ax fs (N-1)) (.cmp .NotEq (.idx (.var 1) (.var 2)) (.con (.int 0)))) [none,none,some (.int m)]) (LS.map tI) none= .ok (LS.map λq=>.bl (!(gI q m==0)),none):=bb λq hq=>by have hi:=iA (l:=q) (p:=m) (by rw[st.len q hq];lia);exact aX (ρ1:=[none,some (tI q),some (.int m)]) rfl (by simp only[RX,hi]) rfl
  refine sM ?_;rw[fU,bf (ds:=LS.map tI) (S1:=none) rfl (by rw[RI];lia) rfl wo,R.af];have e:(LS.map λq=>Dt.bl (!(gI q m==0)))=(LS.map λq=> !(gI q m==0)).map Dt.bl:=by rw[Uh];rfl
  rw[e,su];rfl
 have body:∀{x:R (Dt×Sx)},fin (aU (ax fs (N-1)) (.cons (.ifs xO (.cons (.ret (.con .aW)) .nil) .nil) (.cons (.ret (.var 4)) .nil)) [some (D),some (.int m),some (tI r),some (.lst (LS.map tI)),some (.lst (PS.map pD)),x5,x6,x7] none)=x->ax fs N is [D,.int m,tI r] none=x:=λ {x} h=>by refine aB hf ⋯ rfl ?_;show fin (aU (ax fs (N-1)) (Bh ic) [some (D),some (.int m),some (tI r),none,none,none,none,none] none)=_;exact aC (S1:=none) hF rfl (aC (d:=.lst []) (S1:=none) rfl rfl (bJ (ds:=bh 0 m) (S1:=none) (fw (n:=m) rfl ⋯) rfl fG h))
 have KU:oE m LS=(LS.map λq=> !(gI q m==0)).any id:=rfl;cases hb:((LS.map λq=> !(gI q m==0)).any id) with
 |true=>rw[hb]at hA KU;dsimp only;rw[KU,Vl rfl];exact body (jS (S1:=none) hA (aw rfl))
 |false=>rw[hb]at hA KU;dsimp only;rw[KU,Vk (by simp)];exact body (dY (S1:=none) hA (aw rfl))
variable{fs:List Fn}
noncomputable def eO(r:List Int):Int:=dm (r.map λx=>(x.natAbs:Int))
theorem yM(s f:Nat)(t g:Int)(h:s=0):mJ s f t g=1:=by unfold mJ;rw[Vl h]
theorem Ie{ig N:Nat}(hf:fs[ig]?=some ⟨4,7,false,xJ⟩)(hN:1<=N){D:Dt}{M:List (List Int)}(hD:gW D M){r:List Int}{m s f:Nat}(hm:1<=m)(Ik:s≠0->M≠[])(IK:s≠0->r≠[])(hM:M.length<=16)(hr:r.length<=16)(Il:∀q∈M,q.length=m)(Rj:m<=4)(Mj:∀q∈M,∀x∈q,x.natAbs<=3)(MD:∀x∈r,x.natAbs<=20)(hs:s<=4)(Rh:f<=4):
  ax fs N ig [D,tI r,.int s,.int f] none= .ok (.int (mJ s f (jN M) (eO r)),none):=by
 have cL:lim=1000000:=rfl;by_cases h0:s=0
 ·subst h0;rw[yM _ _ _ _ rfl];refine aB hf hN rfl ?_;show fin (aU (ax fs (N-1)) xJ [some (D),some (tI r),some (.int 0),some (.int f),none,none,none] none)=_;exact jS (S1:=none) rfl (aw rfl)
 have Ik:=Ik h0;have IK:=IK h0
 let A:=M.flatMap λq=>q.map λx=>(x.natAbs:Int)
 have Oj:A≠[]:=by obtain⟨q,hq⟩:=TL M Ik;have hl:=Il q hq;obtain⟨x,hx⟩:=TL q (by intro z;rw[z]at hl;simp at hl;lia);intro z;have:(x.natAbs:Int)∈A:=Um.mpr ⟨q,hq,Sg.mpr ⟨x,hx,rfl⟩⟩;rw[z]at this;cases this
 let G:=r.map λx=>(x.natAbs:Int)
 have Om:G≠[]:=λz=>IK (List.map_eq_nil_iff.mp z)
 have tA:=cF A Oj;have tG:=cF G Om;have bA:0<=dm A/\dm A<=3:=by
  obtain⟨q,hq,h⟩:=Um.mp tA.1;obtain⟨x,hx,e⟩:=Sg.mp h;have:=Mj q hq x hx
  lia
 have bG:0<=dm G/\dm G<=20:=by
  obtain⟨x,hx,e⟩:=Sg.mp tG.1;have:=MD x hx
  lia
 have hT:ev (ax fs (N-1)) xM [some (D),some (tI r),some (.int s),some (.int f),none,none,none] none= .ok (.int (dm A),none):=by
  have hc:aQ (aR (.nm 1) (bp (ax fs (N-1)) .nil) (kW (ax fs (N-1)) (M.map tI).length (.seq (.var 1)) (.nm 2) .nil (.bi .abs (.cons (.var 2) .nil))) [none,none,none]) (M.map tI) none= .ok (M.flatMap λq=>q.map λx=>.int x.natAbs,none):=bP λq hq=>by have hl:=Il q hq;refine Av (ρ1:=[none,some (tI q),none]) (ds:=q.map Dt.int) (S1:=none) rfl rfl ?_ rfl (dF λx hx=>aX (ρ1:=[none,some (tI q),some (.int x)]) rfl (by simp only[RX,oG]) rfl);rw[RI,RI];exact RK (UV hM (by lia:q.length<=4)) (by decide)
  unfold xM;rw[fU,k8 (ds:=M.map tI) (S1:=none) (dH (d:=D) rfl hD.it) (by rw[RI];lia) rfl hc,R.af];have e:(M.flatMap λq=>q.map λx=>Dt.int x.natAbs)=A.map Dt.int:=by show _=(M.flatMap _).map Dt.int;rw[Ug];congr 1;funext q;rw[Uh];rfl
  rw[e,uo Oj];rfl
 have hG:ev (ax fs (N-1)) xK [some (D),some (tI r),some (.int s),some (.int f),some (.int (dm A)),none,none] none= .ok (.int (dm G),none):=by
  have hc:aQ (aR (.nm 1) (bp (ax fs (N-1)) .nil) (bC (ax fs (N-1)) (.bi .abs (.cons (.var 1) .nil))) [none,none]) (r.map Dt.int) none= .ok (r.map λx=>.int x.natAbs,none):=dF λx hx=>aX (ρ1:=[none,some (.int x)]) rfl (by simp only[RX,oG]) rfl
  unfold xK;rw[fU,bf (ds:=r.map Dt.int) (S1:=none) rfl (by rw[RI];lia) rfl hc,R.af];have e:(r.map λx=>Dt.int x.natAbs)=G.map Dt.int:=by show _=(r.map _).map Dt.int;rw[Uh];rfl
  rw[e,uo Om];rfl
 have eA:jN M=dm A:=rfl;have eG:eO r=dm G:=rfl;rw[eA,eG];generalize dm A=top at hT hG bA;generalize dm G=goal at hG bG;have m1:=aI (i:=2) (j:=top) (.inl (by decide));have m2:=aI (i:=4) (j:=top) (.inl (by decide));have m3:=aI (i:=4*top) (j:=top) (.inr ⋯);have m4:=aI (i:=(f:Int)) (j:=top) (.inr ⋯);have hi:cT (.tup [.int 1,.int (2*top),.int (4*top*top),.int 0]) (.int ((s:Int)-1))= .ok (.int (([1,2*top,4*top*top,0]:List Int).getD (s-1) 0)):=by
  match s,h0,hs with
  |1,_,_=>rfl
  |2,_,_=>rfl
  |3,_,_=>rfl
  |4,_,_=>rfl
 have ft:0<=(f:Int)*top/\(f:Int)*top<=3*f:=⟨S8 ⋯ bA.1,by have:=S6 bA.2 (show (0:Int)<=f by lia);lia⟩;have m5:=λmi=>aI (i:=mi) (j:=goal+(f:Int)*top) (.inr ⋯)
 have s0:((s:Int)==0)=false:=Ve.mpr ⋯;have eg:mJ s f top goal=([1,2*top,4*top*top,0]:List Int).getD (s-1) 0*(goal+f*top):=by unfold mJ;rw[Vk h0]
 rw[eg];refine aB hf hN rfl ?_;show fin (aU (ax fs (N-1)) xJ [some (D),some (tI r),some (.int s),some (.int f),none,none,none] none)=_;refine dY (S1:=none) (by simp only[RX,s0]) (aC (S1:=none) hT rfl (aC (S1:=none) hG rfl (aC (d:=.tup [.int 1,.int (2*top),.int (4*top*top),.int 0]) (S1:=none) (by simp only[RX,m1,m2,m3]) rfl (aw ?_))));simp only[RX,hi,m4,m5]
theorem Kn{iw N:Nat}(hf:fs[iw]?=some ⟨3,5,false,Bk⟩)(hN:1<=N){m g:Nat}{FR:List Nat}(hm:m<=4)(PV:∀p∈FR,p<m)(hg:(g+1)^FR.length<=900000):
  ax fs N iw [.int m,.lst (FR.map λ(p:Nat)=>Dt.int p),.int g] none= .ok (lI (du g FR [List.replicate m 0]),none)/\(du g FR [List.replicate m 0]).length<=900000:=by
 have cL:lim=1000000:=rfl;have loop:=cw (S:=none) (tg:=.nm 4) (body:=aU (ax fs (N-1)) (.cons (.asg 3 C4) .nil)) (ds:=FR.map λ(p:Nat)=>Dt.int p) (ρ:=[some (.int m),some (.lst (FR.map λ(p:Nat)=>Dt.int p)),some (.int g),some (lI [List.replicate m 0]),none])
  (λpre ρ=>∃Q x4,Q.length<=(g+1)^pre.length/\(∀q∈Q,q.length=m/\∀x∈q,(0:Int)<=x/\x<=(g:Int))/\(∀rest,FR=FR.take pre.length++rest->du g rest Q=du g FR [List.replicate m 0])/\ρ=[some (.int m),some (.lst (FR.map λ(p:Nat)=>Dt.int p)),some (.int g),some (lI Q),x4])
  ⟨[List.replicate m 0],none,by simp,λq hq=>by rw[Sf]at hq;subst hq;exact⟨by simp,λx hx=>by have:=TK hx;lia⟩,λrest e=>by rw[T6,UJ,Us]at e;rw[<-e],rfl⟩ (by
   rintro pre x post ρ e ⟨Q,x4,hl,hQ,hW,rfl⟩;have hx:x∈FR.map λ(p:Nat)=>Dt.int p:=by rw[e];simp
   obtain⟨p,hp,rfl⟩:=Sg.mp hx;have Rl:=PV p hp;have rV:pre.length+1<=FR.length:=by
    have:=Vh List.length e;simp at this
    lia
   have OK:(g+1)^(pre.length+1)<=900000:=RK (Nat.pow_le_pow_right ⋯ rV) hg;have Rf:Q.length*(g+1)<=(g+1)^(pre.length+1):=by rw[Nat.pow_succ];exact UW _ hl
   have BA:Q.length<=Q.length*(g+1):=Nat.le_mul_of_pos_right _ ⋯;have hc:aQ (aR (.nm 1) (bp (ax fs (N-1)) .nil) (kW (ax fs (N-1)) (Q.map tI).length (.rng1 (.bin .Add (.var 3) (.con (.int 1)))) (.nm 2) .nil (.bin .Add (.bin .Add (.sliH (.var 1) (.var 4)) (.tup (.cons (.var 2) .nil))) (.sliL (.var 1) (.bin .Add (.var 4) (.con (.int 1)))))) [none,none,none,some (.int g),some (.int p)]) (Q.map tI) none= .ok (Q.flatMap λq=>(List.range (g+1)).map λ(n:Nat)=>tI (q.set p n),none):=bP λq hq=>by
    have lq:=(hQ q hq).1;refine Av (ρ1:=[none,some (tI q),none,some (.int g),some (.int p)]) (ds:=bh 0 (g+1)) (S1:=none) rfl (fw (n:=g+1) (by simp only[RX];rfl) ?_) ?_ rfl ?_
    ·have:g+1<=(g+1)^(pre.length+1):=by rw[Nat.pow_succ];exact UO _ (Nat.pow_pos ⋯)
     lia
    ·rw[RI];simp only[bh,RI,T7]
     lia
    ·have er:bh 0 (g+1)=(List.range (g+1)).map λ(n:Nat)=>Dt.int n:=by unfold bh;exact Ue λi _=>by rw[Te]
     rw[er];refine bb λn hn=>?_
     have c1:gj (tI q) none (some (p:Int))= .ok (tI (q.take p)):=by show R.ok (Dt.tup (cutD (q.map Dt.int) none (some (p:Int))))=_;rw[Ew _ (by rw[RI];lia),<-List.map_take];rfl
     have c2:gj (tI q) (some ((p:Int)+1)) none= .ok (tI (q.drop (p+1))):=by show R.ok (Dt.tup (cutD (q.map Dt.int) (some (((p+1:Nat)):Int)) none))=_;rw[yi _ (by rw[RI];lia),<-List.map_drop];rfl
     have a1:mM .Add (tI (q.take p)) (.tup [.int n])= .ok (tI (q.take p++[(n:Int)])):=by show ab (decide (((q.take p).map Dt.int).length+1<=lim)) (R.ok (Dt.tup ((q.take p).map Dt.int++[.int n])))=_;rw[R9 (by rw[RI,Uc];lia),guard_true];unfold tI;rw[Ss];rfl
     have a2:mM .Add (tI (q.take p++[(n:Int)])) (tI (q.drop (p+1)))= .ok (tI (q.set p n)):=by show ab (decide (((q.take p++[(n:Int)]).map Dt.int).length+((q.drop (p+1)).map Dt.int).length<=lim)) (R.ok (Dt.tup ((q.take p++[(n:Int)]).map Dt.int++(q.drop (p+1)).map Dt.int)))=_;rw[R9 (by simp only[RI,RQ,Uc,T5,RU,T6];lia),guard_true,<-Ss,UB,Vl ⋯,RN];rfl
     exact aX (ρ1:=[none,some (tI q),some (.int n),some (.int g),some (.int p)]) rfl (by simp only[RX,c1,c2,a1,a2]) (by unfold cc;rw[eh,SQ])
   have BF:=k8 (F:=ax fs (N-1)) (cap:=[none,none,none,some 2,some 4]) (it:=.seq (.var 3)) (ρ:=[some (.int m),some (.lst (FR.map λ(p:Nat)=>Dt.int p)),some (.int g),some (lI Q),some (.int p)]) (S:=none) (ds:=Q.map tI) (S1:=none) rfl (by rw[RI];lia) rfl hc;have e2:(Q.flatMap λq=>(List.range (g+1)).map λ(n:Nat)=>tI (q.set p n))=(Q.flatMap λq=>(List.range (g+1)).map λ(n:Nat)=>q.set p (n:Int)).map tI:=by rw[Ug];congr 1;funext q;rw[Uh];rfl
   rw[e2]at BF;refine⟨_,_,rfl,fA (S1:=none) BF rfl rfl,Q.flatMap λq=>(List.range (g+1)).map λ(n:Nat)=>q.set p (n:Int),some (.int p),?_,?_,?_,rfl⟩
   ·have:=qr (f:=λq=>(List.range (g+1)).map λ(n:Nat)=>q.set p (n:Int)) (k:=g+1) (l:=Q) λq _=>by simp
    rw[RQ,Ub]
    lia
   ·intro q' hq';obtain⟨q,hq,h⟩:=Um.mp hq';obtain⟨n,hn,rfl⟩:=Sg.mp h;have hn:=Sv.mp hn;refine⟨by rw[Ua];exact(hQ q hq).1,λx hx=>?_⟩;rcases List.mem_or_eq_of_mem_set hx with hx|hx
    ·exact(hQ q hq).2 x hx
    ·lia
   ·intro rest er;have Qr:FR[pre.length]?=some p:=by
     have h1:=Vh (λl=>l[pre.length]?) e;simp only[RW,So (RE _),UY,TV]at h1;cases kr:FR[pre.length]? with
     |none=>rw[kr]at h1;cases h1
     |some p'=>
      rw[kr]at h1;have h1:Dt.int (p':Int)=Dt.int (p:Int):=U4 h1;have h2:(p':Int)=p:=by injection h1
      exact Vh some ⋯
    rw[RQ,Ub]at er;have h2:FR=FR.take pre.length++p::rest:=by rw[UD,Qr,RN]at er;exact er
    exact hW (p::rest) h2)
 obtain⟨ρ1,fG,Q,x4,hl,hQ,hW,rfl⟩:=loop;rw[RI]at hl hW;have eW:=hW [] (by rw[UF,Sl]);have eW:Q=du g FR [List.replicate m 0]:=eW;rw[<-eW];refine⟨aB hf hN rfl ?_,by lia⟩;show fin (aU (ax fs (N-1)) Bk [some (.int m),some (.lst (FR.map λ(p:Nat)=>Dt.int p)),some (.int g),none,none] none)=_;have h0:=vv (m:=m) 0 ⋯;exact aC (d:=lI [List.replicate m 0]) (S1:=none) (by simp only[RX,h0];rfl) rfl (bJ (ds:=FR.map λ(p:Nat)=>Dt.int p) (S1:=none) rfl rfl fG (aw rfl))
theorem HH{ip ic N:Nat}(hp:fs[ip]?=some ⟨2,2,false,qg⟩)(hf:fs[ic]?=some ⟨2,7,false,Bg ip⟩)(hN:2<=N){m:Nat}{PS:List (Nat×List Int)}{LS:List (List Int)}(hm:m<=4)(st:xl m m PS LS){q:List Int}(hq:N7 m q)(hs:∀x∈q,Hg x):
  ax fs N ic [tI q,.lst (PS.map pD)] none= .ok (((cu q PS q).elim .aW tI),none):=by
 have cL:lim=1000000:=rfl;have loop:=iX (S:=none) (tg:=.tp [3,4]) (body:=aU (ax fs (N-1)) (xI ip)) (ds:=PS.map pD) (ρ:=[some (tI q),some (.lst (PS.map pD)),some (.lst (q.map Dt.int)),none,none,none,none])
  (λpre ρ=>∃w x3 x4 x5 x6,N7 m w/\(∀rest,PS=PS.take pre.length++rest->cu q rest w=cu q PS q)/\ρ=[some (tI q),some (.lst (PS.map pD)),some (.lst (w.map Dt.int)),x3,x4,x5,x6]) (λd=>d= .aW/\cu q PS q=none) ⟨q,none,none,none,none,hq,λrest e=>by rw[T6,UJ,Us]at e;rw[<-e],rfl⟩ (by
   rintro pre x post ρ e ⟨w,x3,x4,x5,x6,hw,hC,rfl⟩;obtain⟨z,uP,rfl⟩:∃z,PS[pre.length]?=some z/\pD z=x:=by
    have h1:=Vh (λl=>l[pre.length]?) e;simp only[RW,So (RE _),UY,TV]at h1;cases kr:PS[pre.length]? with
    |none=>rw[kr]at h1;cases h1
    |some z=>rw[kr]at h1;exact⟨z,rfl,U4 h1⟩
   have hz:z∈PS:=Uq uP;have E4:PS=PS.take pre.length++z::PS.drop (pre.length+1):=by
    have cO:=(RB.mp uP).1
    conv=>lhs;rw[<-UE pre.length PS]
    rw[Tx cO,(RB.mp uP).2]
   have G7:=hC _ E4;have PP:∀rest,PS=PS.take (pre.length+1)++rest->rest=PS.drop (pre.length+1):=λrest er=>by have:=Vh (List.drop (pre.length+1)) er;rw[List.drop_append_of_le_length (by have cO:=(RB.mp uP).1;rw[Uc];lia)]at this;rw[this,List.drop_take,UY,UJ,Us]
   obtain⟨z1,z2,z3⟩:=st.pl z hz;have Pc:z.2≠[]:=λh=>by rw[h]at z2;simp at z2
   obtain⟨l,y,ey⟩:∃l y,z.2=l++[y]:=(qJ z.2).resolve_left Pc;have hi:cT (tI z.2) (.int (-1))= .ok (.int y):=by show sf (z.2.map Dt.int) (-1)=_;rw[ey,Ss];unfold sf;have:kT (l.map Dt.int++[y].map Dt.int) (-1)=some (.int y):=Mx.qe _ _;rw[this]
   have hc:gj (tI z.2) none (some (-1))= .ok (tI l):=by show R.ok (Dt.tup (cutD (z.2.map Dt.int) none (some (-1))))=_;rw[qk _ (by rw[Ne,List.map_eq_nil_iff];exact Pc),ey,Ss];simp[tI]
   have hl:l.length=m:=by rw[ey,RQ]at z2;simpa using z2
   have Qs:=Cp (N:=N-1) hp ⋯ (a:=l) (b:=q) hs ⋯;have Qf:=iA (l:=z.2) (p:=z.1) ⋯;have BB:=RK (st.pb z hz _ (fq (by lia:z.1<z.2.length))) (sk hm);have KW:eD .dvm [.int (y-ak l q),.int (gI z.2 z.1)]= .ok (.tup [.int ((y-ak l q).fdiv (gI z.2 z.1)),.int ((y-ak l q).fmod (gI z.2 z.1))]):=by show ab (decide (gI z.2 z.1≠0)&&decide ((gI z.2 z.1).natAbs.log2<9000)) _=_;rw[R9 z3,R9 (wH BB z3)];rfl
   have jX:=Int.mul_fdiv_add_fmod (y-ak l q) (gI z.2 z.1);have Ip:(y-ak l q).natAbs<2^200:=by
    have P7:=sk hm;have b1:∀x∈z.2,x.natAbs<=j5 4:=λx hx=>RK (st.pb z hz x hx) P7
    have b2:=vn (A:=j5 4) (B:=2^64) (l:=l) (q:=q) (λx hx=>b1 x (by rw[ey];exact Uj _ hx)) λx hx=>UP (hs x hx)
    have b3:=b1 y (by rw[ey];simp);have b5:l.length*(j5 4*2^64)<=4*(j5 4*2^64):=UW _ ⋯;have b6:=Int.natAbs_sub_le y (ak l q);have b7:j5 4+4*(j5 4*2^64)<2^200:=by decide
    exact US (RK b6 (Nat.add_le_add b3 (RK b2 b5))) b7
   have KY:fV z.2 q=y-ak l q:=by
    unfold fV;rw[ey,jn y (by rw[hl,hq.1])]
    lia
   rw[cu,KY]at G7;generalize MA:y-ak l q=nm at KW jX Ip G7;generalize nm.fdiv (gI z.2 z.1)=n at KW jX G7;generalize nm.fmod (gI z.2 z.1)=rest at KW jX G7;have nG:∀{ts:Ts}{r:RS},aU (ax fs (N-1)) ts [some (tI q),some (.lst (PS.map pD)),some (.lst (w.map Dt.int)),some (.int z.1),some (tI z.2),some (.int n),some (.int rest)] none=r->
     aU (ax fs (N-1)) (.cons (.asgT [5,6] (.bi .dvm (.cons (.bin .Sub (.idx (.var 4) (.neg (.con (.int 1)))) (.call ip (.cons (.sliH (.var 4) (.neg (.con (.int 1)))) (.cons (.var 0) .nil)) [])) (.cons (.idx (.var 4) (.var 3)) .nil)))) ts) [some (tI q),some (.lst (PS.map pD)),some (.lst (w.map Dt.int)),some (.int z.1),some (tI z.2),x5,x6] none=r:=λ {ts r} h=>by
    refine nx (ρ1:=[some (tI q),some (.lst (PS.map pD)),some (.lst (w.map Dt.int)),some (.int z.1),some (tI z.2),some (.int n),some (.int rest)]) (S1:=none) ?_ h;have hv:ev (ax fs (N-1)) (.bi .dvm (.cons (.bin .Sub (.idx (.var 4) (.neg (.con (.int 1)))) (.call ip (.cons (.sliH (.var 4) (.neg (.con (.int 1)))) (.cons (.var 0) .nil)) [])) (.cons (.idx (.var 4) (.var 3)) .nil))) [some (tI q),some (.lst (PS.map pD)),some (.lst (w.map Dt.int)),some (.int z.1),some (tI z.2),x5,x6] none= .ok (.tup [.int n,.int rest],none):=by simp only[RX,hi,hc,Qs,Qf,MA,KW]
    rw[ex,hv];rfl
   refine⟨[some (tI q),some (.lst (PS.map pD)),some (.lst (w.map Dt.int)),some (.int z.1),some (tI z.2),x5,x6],?_⟩;by_cases hb:(!(rest==0))=true\/n<0
   ·refine⟨[some (tI q),some (.lst (PS.map pD)),some (.lst (w.map Dt.int)),some (.int z.1),some (tI z.2),some (.int n),some (.int rest)],rfl,.inr ⟨.aW,nG (pA (S1:=none) ?_ (pB rfl)),rfl,by rw[<-G7,Vl hb]⟩⟩;simp only[RX];rcases hb with h|h
    ·rw[h];rfl
    ·cases (!(rest==0)) with
     |true=>rfl
     |false=>rw[Vk (by simp),R9 h]
   ·have h1:(!(rest==0))=false:=by cases h:(!(rest==0))with|true=>exact absurd (.inl h) hb|false=>rfl
    have h2:¬n<0:=λz=>hb (.inr z)
    refine⟨_,rfl,.inl ⟨nG (iF (S1:=none) (by simp only[RX,h1,R5 h2];rfl) (nx (Bu (ds:=w.map Dt.int) (d:=.int n) (S1:=none) (S2:=none) (n:=(z.1:Int)) (j:=z.1) rfl rfl rfl rfl ?_) rfl)),w.set z.1 n,some (.int z.1),some (tI z.2),some (.int n),some (.int rest),⟨by rw[Ua];exact hw.1,λx hx=>?_⟩,?_,?_⟩⟩
    ·unfold pd;rw[RI,Vl ⋯,Vl (by rw[hw.1];lia)];simp
    ·rcases List.mem_or_eq_of_mem_set hx with hx|hx
     ·exact hw.2 x hx
     ·subst hx;refine⟨by lia,US ?_ Ip⟩;have r0:rest=0:=by simpa using h1
      have e:nm.natAbs=(gI z.2 z.1).natAbs*x.natAbs:=by rw[<-jX,r0,Int.add_zero,Ta]
      rw[e];exact UO _ (Int.natAbs_pos.mpr z3)
    ·intro rs er;rw[RQ,Ub]at er;rw[PP rs er,<-G7,Vk hb]
    ·rw[List.map_set];rfl)
 have body:∀{x:R (Dt×Sx)},fin (aU (ax fs (N-1)) (.cons (.fr (.tp [3,4]) (.seq (.var 1)) (xI ip)) (.cons (.ret (.bi .tuple (.cons (.mvr 2) .nil))) .nil)) [some (tI q),some (.lst (PS.map pD)),some (.lst (q.map Dt.int)),none,none,none,none] none)=x->ax fs N ic [tI q,.lst (PS.map pD)] none=x:=λ {x} h=>by refine aB hf ⋯ rfl ?_;show fin (aU (ax fs (N-1)) (Bg ip) [some (tI q),some (.lst (PS.map pD)),none,none,none,none,none] none)=_;exact dG (d:=.lst (q.map Dt.int)) (S1:=none) rfl rfl h
 rcases loop with ⟨ρ',h1,w,x3,x4,x5,x6,hw,hC,rfl⟩|⟨d,ρ',h1,rfl,hC⟩
 ·have:=hC [] (by rw[RI,UF,Sl]);rw[<-this];exact body (bJ (ds:=PS.map pD) (S1:=none) rfl rfl h1 (aw rfl))
 ·rw[hC];refine body (iW (ρ1:=ρ') (S1:=none) ?_);rw[ex];exact h1
theorem DO{iu N:Nat}(hf:fs[iu]?=some ⟨2,4,false,vW⟩)(hN:1<=N)(a b:List Int):ax fs N iu [tI a,tI b] none= .ok (.bl (aS a b),none):=by
 have loop:=iX (S:=none) (tg:=.tp [2,3]) (body:=aU (ax fs (N-1)) (.cons (.ifs (.cmp .Gt (.var 2) (.var 3)) (.cons (.ret (.con (.bl false))) .nil) .nil) .nil)) (ds:=dq (a.map Dt.int) (b.map Dt.int)) (ρ:=[some (tI a),some (tI b),none,none])
  (λpre ρ=>(∀q∈(a.zip b).take pre.length,q.1<=q.2)/\∃x y,ρ=[some (tI a),some (tI b),x,y]) (λd=>d= .bl false/\aS a b=false) ⟨by simp,none,none,rfl⟩ (by
   rintro pre x post ρ e ⟨hle,x2,x3,rfl⟩;rw[ff]at e;obtain⟨q,sQ,rfl⟩:∃q,(a.zip b)[pre.length]?=some q/\ .tup [.int q.1,.int q.2]=x:=by
    have h1:=Vh (λl=>l[pre.length]?) e;simp only[RW,So (RE _),UY,TV]at h1;cases kr:(a.zip b)[pre.length]? with
    |none=>rw[kr]at h1;cases h1
    |some z=>rw[kr]at h1;exact⟨z,rfl,U4 h1⟩
   refine⟨_,[some (tI a),some (tI b),some (.int q.1),some (.int q.2)],rfl,?_⟩;by_cases h:q.2<q.1
   ·exact .inr ⟨_,pA (S1:=none) (by simp only[RX,R9 h]) (pB rfl),rfl,by unfold aS;rw[List.all_eq_false];exact⟨q,Uq sQ,by simp;lia⟩⟩
   ·refine .inl ⟨iF (S1:=none) (by simp only[RX,R5 h]) rfl,λz hz=>?_,_,_,rfl⟩;rw[RQ,Ub,UD,sQ]at hz;rcases R0.mp hz with hz|hz
    ·exact hle z hz
    ·have:z=q:=by simpa using hz
     subst this
     lia)
 have it:d7 (ax fs (N-1)) (.zip (.var 0) (.var 1)) [some (tI a),some (tI b),none,none] none= .ok (dq (a.map Dt.int) (b.map Dt.int),none):=lF (S1:=none) (S2:=none) rfl rfl rfl rfl;rcases loop with ⟨ρ',h1,hle,x,y,rfl⟩|⟨d,ρ',h1,rfl,hu⟩
 ·have:aS a b=true:=by unfold aS;rw[Sh];intro q hq;refine R9 (hle q ?_);rw[ff,RI,UF];exact hq
  rw[this];exact aB hf hN rfl (bJ it rfl h1 (aw rfl))
 ·rw[hu];refine aB hf hN rfl (iW (ρ1:=ρ') (S1:=none) ?_);rw[ex];exact(Vh (R.bind · _) it).trans h1
theorem Dz{iu io N:Nat}(hu:fs[iu]?=some ⟨2,4,false,vW⟩)(hf:fs[io]?=some ⟨2,3,false,Ec iu⟩)(hN:2<=N)(a:List Int)(M:List (List Int)):ax fs N io [tI a,lI M] none= .ok (.bl (bu a M),none):=by
 have loop:=iX (S:=none) (tg:=.nm 2) (body:=aU (ax fs (N-1)) (.cons (.ifs (.call iu (.cons (.var 2) (.cons (.var 0) .nil)) []) (.cons (.ret (.con (.bl true))) .nil) .nil) .nil)) (ds:=M.map tI) (ρ:=[some (tI a),some (lI M),none])
  (λpre ρ=>(∀q∈M.take pre.length,aS q a=false)/\∃x,ρ=[some (tI a),some (lI M),x]) (λd=>d= .bl true/\bu a M=true) ⟨by simp,none,rfl⟩ (by
   rintro pre x post ρ e ⟨hle,x2,rfl⟩;obtain⟨q,sQ,rfl⟩:∃q,M[pre.length]?=some q/\tI q=x:=by
    have h1:=Vh (λl=>l[pre.length]?) e;simp only[RW,So (RE _),UY,TV]at h1;cases kr:M[pre.length]? with
    |none=>rw[kr]at h1;cases h1
    |some z=>rw[kr]at h1;exact⟨z,rfl,U4 h1⟩
   refine⟨_,[some (tI a),some (lI M),some (tI q)],rfl,?_⟩;have hv:=DO hu (N:=N-1) ⋯ q a;cases hq:aS q a with
   |true=>rw[hq]at hv;exact .inr ⟨_,pA (S1:=none) (by simp only[RX,hv]) (pB rfl),rfl,by unfold bu;rw[Si];exact⟨q,Uq sQ,hq⟩⟩
   |false=>
    rw[hq]at hv;refine .inl ⟨iF (S1:=none) (by simp only[RX,hv]) rfl,λz hz=>?_,_,rfl⟩;rw[RQ,Ub,UD,sQ]at hz;rcases R0.mp hz with hz|hz
    ·exact hle z hz
    ·have:z=q:=by simpa using hz
     subst this;exact hq)
 rcases loop with ⟨ρ',h1,hle,x,rfl⟩|⟨d,ρ',h1,rfl,hu⟩
 ·have:bu a M=false:=by unfold bu;rw[Tr];intro q hq;rw[hle q (by rw[RI,UF];exact hq)];exact SJ
  rw[this];exact aB hf ⋯ rfl (bJ (ds:=M.map tI) (S1:=none) rfl rfl h1 (aw rfl))
 ·rw[hu];refine aB hf ⋯ rfl (iW (ρ1:=ρ') (S1:=none) ?_);rw[ex];exact h1
variable{fs:List Fn}
structure mC(m:Nat)(M:List (List Int))(r:List Int):Prop where
 m1:1<=m
 m4:m<=4
 ln:M.length<=16
 rl:r.length=M.length
 wd:∀q∈M,q.length=m
 bd:∀q∈M,∀x∈q,x.natAbs<=3
 rb:∀x∈r,x.natAbs<=20
noncomputable def eU(m:Nat)(M:List (List Int))(r:List Int):List (Nat×List Int):=(bL (rowsOf M r) m).1
noncomputable def gQ(m:Nat)(M:List (List Int))(r:List Int):Int:=mJ (eU m M r).length (cy m (eU m M r)).length (jN M) (eO r)
noncomputable def dS(m:Nat)(M:List (List Int))(r:List Int):List (List Int):=if oE m (bL (rowsOf M r) m).2=true then[] else wZ m (gQ m M r).toNat (eU m M r)
theorem yL{s f:Nat}{t g:Int}(hs:s<=4)(t0:0<=t)(t3:t<=3)(g0:0<=g)(Rb:g<=20):0<=mJ s f t g/\(mJ s f t g).toNat<=gB s f:=by
 have ft:0<=(f:Int)*t/\(f:Int)*t<=3*f:=⟨S8 ⋯ t0,by have:=S6 t3 (show (0:Int)<=f by lia);lia⟩;have hx:g+(f:Int)*t<=20+3*f:=⋯
 have ub:∀mi k:Int,mi<=k->0<=k->0<=mi->0<=mi*(g+(f:Int)*t)/\mi*(g+(f:Int)*t)<=k*(20+3*f):=λmi k hk h1 h2=>⟨S8 h2 ⋯,Int.mul_le_mul hk hx ⋯ h1⟩
 match s,hs with
 |0,_=>exact⟨show (0:Int)<=1 by decide,RE 1⟩
 |1,_=>
  have:=ub 1 1 ⋯ ⋯ ⋯;show 0<=1*(g+(f:Int)*t)/\(1*(g+(f:Int)*t)).toNat<=20+3*f
  lia
 |2,_=>
  have:=ub (2*t) 6 ⋯ ⋯ ⋯;show 0<=2*t*(g+(f:Int)*t)/\(2*t*(g+(f:Int)*t)).toNat<=6*(20+3*f)
  lia
 |3,_=>
  have q:0<=t*t/\t*t<=9:=⟨S8 t0 t0,by have:=Int.mul_le_mul t3 t3 t0 (by decide:(0:Int)<=3);lia⟩;have e3:4*t*t=4*(t*t):=S4 ..;have:=ub (4*t*t) 36 ⋯ ⋯ ⋯;show 0<=4*t*t*(g+(f:Int)*t)/\(4*t*t*(g+(f:Int)*t)).toNat<=36*(20+3*f)
  lia
 |4,_=>show 0<=(0:Int)*(g+(f:Int)*t)/\((0:Int)*(g+(f:Int)*t)).toNat<=0;rw[Tf];exact⟨SY _,RE _⟩
theorem Au(M:List (List Int)):0<=jN M:=by
 unfold jN;by_cases e:D3 M=[]
 ·rw[e];exact SY 0
 ·obtain⟨q,hq,h'⟩:=Um.mp (cF _ e).1;obtain⟨x,hx,ex⟩:=Sg.mp h';rw[<-ex]
  lia
theorem ko{r:List Int}(h:∀x∈r,x.natAbs<=20):0<=eO r/\eO r<=20:=by
 unfold eO;by_cases e:(r.map λx=>(x.natAbs:Int))=[]
 ·rw[e];exact⟨SY 0,by decide⟩
 ·obtain⟨x,hx,ex⟩:=Sg.mp (cF _ e).1;rw[<-ex];have:=h x hx
  lia
section
variable{ip il is ig iw ic io:Nat}(H:xD fs ip il is ig iw ic io)
include H
theorem DH{N m:Nat}{D:Dt}{M:List (List Int)}(hD:gW D M){r:List Int}(hN:4<=N)(E:mC m M r):ax fs N io [D,.int m,tI r] none= .ok (lI (dS m M r),none)/\(dS m M r).length<=900000:=by
 have cL:lim=1000000:=rfl;obtain⟨h,sq⟩:=J4 H.l H.s (N:=N-1) ⋯ hD E.m4 E.ln (by rw[E.rl];exact E.ln) E.wd E.bd E.rb;have st:=sq.st;cases BB:oE m (bL (rowsOf M r) m).2 with
 |true=>
  rw[BB,Vl rfl]at h;have e:dS m M r=[]:=by unfold dS;rw[BB,Vl rfl]
  rw[e];refine⟨aB H.o ⋯ rfl ?_,by simp⟩;show fin (aU (ax fs (N-1)) (Bi is ig iw ic) [some D,some (.int m),some (tI r),none,none,none,none,none] none)=_;exact aC (d:=.aW) (S1:=none) (by simp only[RX,h]) rfl (jS (S1:=none) (by simp only[RX];rfl) (aw rfl))
 |false=>
 rw[BB,Vk (by simp)]at h;have eV:dS m M r=wZ m (gQ m M r).toNat (eU m M r):=by unfold dS;rw[BB,Vk (by simp)]
 have eB:gQ m M r=mJ (eU m M r).length (cy m (eU m M r)).length (jN M) (eO r):=rfl;have ep:eU m M r=(bL (rowsOf M r) m).1:=rfl;rw[eV,ep];rw[ep]at eB;have Ik:(bL (rowsOf M r) m).1≠[]->M≠[]:=λdw e=>by
  obtain⟨z,hz⟩:=TL _ dw;have e0:∀p,bL (rowsOf [] r) p=([],[]):=λp=>by
   induction p with
   |zero=>rfl
   |succ p ih=>unfold bL;rw[ih];rfl
  rw[e,e0 m]at hz;cases hz
 generalize (bL (rowsOf M r) m).1=PS at *;generalize (bL (rowsOf M r) m).2=LS at *;have o7:∀p∈PS.map (·.1),p<m:=λp hp=>by obtain⟨q,hq,rfl⟩:=Sg.mp hp;exact(st.pl q hq).1
 have Oy:=qv st.nd o7;rw[RI]at Oy
 let FR:=(List.range m).filter λp=> !decide (p∈PS.map (·.1))
 have h4:ev (ax fs (N-1)) (.comp [none,none,none] (.seq (.var 3)) (.tp [1,2]) .nil (.var 1)) [some D,some (.int m),some (tI r),some (.lst (PS.map pD)),none,none,none,none] none= .ok (.lst ((PS.map (·.1)).map λ(p:Nat)=>Dt.int p),none):=by
  have hc:aQ (aR (.tp [1,2]) (bp (ax fs (N-1)) .nil) (bC (ax fs (N-1)) (.var 1)) [none,none,none]) (PS.map pD) none= .ok (PS.map λq=>.int q.1,none):=bb λq hq=>aX (ρ1:=[none,some (.int q.1),some (tI q.2)]) rfl rfl rfl
  have e:(PS.map λq=>Dt.int (q.1:Int))=(PS.map (·.1)).map λ(p:Nat)=>Dt.int p:=by rw[Uh];rfl
  rw[e]at hc;exact bf (ds:=PS.map pD) (S1:=none) rfl (by rw[RI];have:=E.m4;lia) rfl hc
 have h5:ev (ax fs (N-1)) (.comp [none,none,some 4] (.rng1 (.var 1)) (.nm 1) (.cons (.cmp .NotIn (.var 1) (.var 2)) .nil) (.var 1)) [some D,some (.int m),some (tI r),some (.lst (PS.map pD)),some (.lst ((PS.map (·.1)).map λ(p:Nat)=>Dt.int p)),none,none,none] none= .ok (.lst (FR.map λ(p:Nat)=>Dt.int p),none):=by
  have er:bh 0 m=(List.range m).map λ(n:Nat)=>Dt.int n:=by unfold bh;exact Ue λi _=>by rw[Te]
  have hc:aQ (aR (.nm 1) (bp (ax fs (N-1)) (.cons (.cmp .NotIn (.var 1) (.var 2)) .nil)) (bC (ax fs (N-1)) (.var 1)) [none,none,some (.lst ((PS.map (·.1)).map λ(p:Nat)=>Dt.int p))]) (bh 0 m) none= .ok ((List.range m).flatMap λp=>if (!decide (p∈PS.map (·.1)))=true then[Dt.int p] else[],none):=by
   rw[er];refine bP λp hp=>?_
   have KZ:=BO p (PS.map (·.1));exact turn_if (ρ1:=[none,some (.int p),some (.lst ((PS.map (·.1)).map λ(p:Nat)=>Dt.int p))]) rfl (by rw[cN];show (dg .NotIn (.int p) _).bind _=_;rw[KZ];rfl) λ_=>⟨rfl,rfl⟩
  rw[fm]at hc;exact bf (ds:=bh 0 m) (S1:=none) (fw (n:=m) rfl (by have:=E.m4;lia)) (by simp[bh];have:=E.m4;lia) rfl hc
 have kr:FR.length+PS.length=m:=Oy;have m4:=E.m4;have dw:PS.length≠0->M≠[]:=λz=>Ik λe=>z (by rw[e];rfl)
 have Qe:=Ie H.g (N:=N-1) ⋯ hD E.m1 dw (λz e=>dw z (TJ (by rw[<-E.rl,e];rfl))) E.ln (by rw[E.rl];exact E.ln) E.wd E.m4 E.bd E.rb (s:=PS.length) (f:=FR.length) ⋯ ⋯;have KY:=yL (s:=PS.length) (f:=FR.length) ⋯ (Au M) (As (λq hq z hz=>by have:=E.bd q hq z hz;lia) (by decide)) (ko E.rb).1 (ko E.rb).2;have Pt:cy m PS=FR:=rfl;rw[Pt]at eB;obtain⟨g,eg⟩:∃g:Nat,(gQ m M r).toNat=g:=⟨_,rfl⟩;have Px:mJ PS.length FR.length (jN M) (eO r)=(g:Int):=by rw[<-eB];rw[<-eB]at KY;lia
 have hg:ax fs (N-1) ig [D,tI r,.int PS.length,.int FR.length] none= .ok (.int g,none):=by rw[<-Px];exact Qe
 have Oz:g<=gB PS.length FR.length:=by rw[<-eg,eB];exact KY.2
 rw[eg];have OK:=JF (m:=m) ⋯ E.m4 Oz;obtain⟨hq,BA⟩:=Kn H.w (N:=N-1) ⋯ (FR:=FR) E.m4 (λp hp=>Sv.mp (Uk.mp hp).1) OK;have hQ:∀q∈du g FR [List.replicate m 0],q.length=m/\∀x∈q,(0:Int)<=x/\x<=(g:Int):=λq hq'=>by
  obtain⟨q0,k0,k1,k2,k3⟩:=f9.mp hq';rw[Sf]at k0;subst k0;rw[T9]at k1 k2 k3;refine⟨k1,λx hx=>?_⟩;obtain⟨i,hi,rfl⟩:=uI hx;by_cases hf:i∈FR
  ·obtain⟨n,hn,e⟩:=k3 i hf ⋯
   lia
  ·rw[k2 i ⋯ hf,fu]
   lia
 have eL:wZ m g PS=(du g FR [List.replicate m 0]).filterMap λq=>cu q PS q:=rfl
 rw[eL];generalize du g FR [List.replicate m 0]=Q at hq BA hQ;have Rc:g<2^64:=US Oz (by
  have hs:PS.length<=4:=⋯
  have hf:FR.length<=4:=⋯
  generalize PS.length=s at hs;generalize FR.length=f at hf
  match s,hs with
  |0,_=>simp only[gB];lia
  |1,_=>simp only[gB];lia
  |2,_=>simp only[gB];lia
  |3,_=>simp only[gB];lia
  |4,_=>simp only[gB];lia)
 let cf:List Int->Dt:=λq=>(cu q PS q).elim .aW tI
 have Oc:∀q∈Q,ax fs (N-1) ic [tI q,.lst (PS.map pD)] none= .ok (cf q,none)/\(cf q= .aW\/∃q',cf q=tI q'):=λq hq'=>by
  have Hc:=hQ q hq';refine⟨HH H.p H.c (N:=N-1) ⋯ E.m4 st (q:=q) ⟨Hc.1,λx hx=>⟨(Hc.2 x hx).1,by have:=Hc.2 x hx;lia⟩⟩ (λx hx=>by have:=Hc.2 x hx;show x.natAbs<_;lia),?_⟩;show (cu q PS q).elim Dt.aW tI= .aW\/∃q',(cu q PS q).elim Dt.aW tI=tI q';cases cu q PS q with
  |none=>exact .inl rfl
  |some x=>exact .inr ⟨x,rfl⟩
 have yP:ev (ax fs (N-1)) (.call iw (.cons (.var 1) (.cons (.var 5) (.cons (.var 6) .nil))) []) [some D,some (.int m),some (tI r),some (.lst (PS.map pD)),some (.lst ((PS.map (·.1)).map λ(p:Nat)=>Dt.int p)),some (.lst (FR.map λ(p:Nat)=>Dt.int p)),some (.int g),none] none= .ok (lI Q,none):=by simp only[RX,hq]
 have h7:ev (ax fs (N-1)) (.comp [none,none,some 3] (.seq (.call iw (.cons (.var 1) (.cons (.var 5) (.cons (.var 6) .nil))) [])) (.nm 1) .nil (.call ic (.cons (.var 1) (.cons (.var 2) .nil)) [])) [some D,some (.int m),some (tI r),some (.lst (PS.map pD)),some (.lst ((PS.map (·.1)).map λ(p:Nat)=>Dt.int p)),some (.lst (FR.map λ(p:Nat)=>Dt.int p)),some (.int g),none] none= .ok (.lst (Q.map cf),none):=by
  have hc:aQ (aR (.nm 1) (bp (ax fs (N-1)) .nil) (bC (ax fs (N-1)) (.call ic (.cons (.var 1) (.cons (.var 2) .nil)) [])) [none,none,some (.lst (PS.map pD))]) (Q.map tI) none= .ok (Q.map cf,none):=bb λq hq'=>by
   obtain⟨k1,k2⟩:=Oc q hq';exact aX (ρ1:=[none,some (tI q),some (.lst (PS.map pD))]) rfl (by simp only[RX,k1]) (by
    unfold cc;rcases k2 with e|⟨q',e⟩
    ·rw[e];exact SQ _
    ·rw[e,eh,SQ])
  exact bf (ds:=Q.map tI) (S1:=none) (dH yP rfl) (by rw[RI];lia) rfl hc
 let keep:List (List Int):=Q.filterMap λq=>cu q PS q
 have h8:ev (ax fs (N-1)) (.comp [none,none] (.seq (.var 7)) (.nm 1) (.cons (.cmp .IsNot (.var 1) (.con .aW)) .nil) (.var 1)) [some D,some (.int m),some (tI r),some (.lst (PS.map pD)),some (.lst ((PS.map (·.1)).map λ(p:Nat)=>Dt.int p)),some (.lst (FR.map λ(p:Nat)=>Dt.int p)),some (.int g),some (.lst (Q.map cf))] none= .ok (lI keep,none):=by
  have hc:aQ (aR (.nm 1) (bp (ax fs (N-1)) (.cons (.cmp .IsNot (.var 1) (.con .aW)) .nil)) (bC (ax fs (N-1)) (.var 1)) [none,none]) (Q.map cf) none= .ok (Q.flatMap λq=>(match cf q with|.tup ds=>[Dt.tup ds]|_=>[]),none):=bP λq hq'=>by
   rcases (Oc q hq').2 with e|⟨q',e⟩
   ·rw[e];exact turn_if (b:=false) (y:=.aW) (ρ1:=[none,some .aW]) rfl rfl λz=>by cases z
   ·rw[e];exact turn_if (b:=true) (y:=tI q') (ρ1:=[none,some (tI q')]) rfl rfl λz=>⟨rfl,by unfold cc;rw[eh,SQ]⟩
  have e:(Q.flatMap λq=>(match cf q with|.tup ds=>[Dt.tup ds]|_=>[]))=keep.map tI:=by
   have:∀l:List (List Int),(l.flatMap λq=>(match cf q with|.tup ds=>[Dt.tup ds]|_=>[]))=(l.filterMap λq=>cu q PS q).map tI:=by
    intro l
    induction l with
    |nil=>rfl
    |cons q l ih=>
     rw[TN,TM,ih];show (match (cu q PS q).elim Dt.aW tI with|.tup ds=>[Dt.tup ds]|_=>[])++_=_;cases cu q PS q with
     |none=>rfl
     |some x=>rfl
   exact this Q
  rw[e]at hc;exact bf (ds:=Q.map cf) (S1:=none) rfl (by rw[RI];lia) rfl hc
 refine⟨aB H.o ⋯ rfl ?_,RK (List.length_filterMap_le _ _) BA⟩;show fin (aU (ax fs (N-1)) (Bi is ig iw ic) [some D,some (.int m),some (tI r),none,none,none,none,none] none)=_;refine aC (d:=.lst (PS.map pD)) (S1:=none) (by simp only[RX,h]) rfl (dY (S1:=none) (by simp only[RX];rfl) (aC (S1:=none) h4 rfl (aC (S1:=none) h5 rfl (aC (d:=.int g) (S1:=none) ?_ rfl (aC (S1:=none) h7 rfl (aw h8))))));have l4:eD .len [.lst ((PS.map (·.1)).map λ(p:Nat)=>Dt.int p)]= .ok (.int PS.length):=by show R.ok (Dt.int (((PS.map (·.1)).map λ(p:Nat)=>Dt.int p).length:Nat))=_;rw[RI,RI]
 have l5:eD .len [.lst (FR.map λ(p:Nat)=>Dt.int p)]= .ok (.int FR.length):=by show R.ok (Dt.int ((FR.map λ(p:Nat)=>Dt.int p).length:Nat))=_;rw[RI]
 simp only[RX,l4,l5,hg]
end
variable{fs:List Fn}
theorem pJ{Q:List (List Int)}{m:Nat}(hm:1<=m)(hl:Q.length<=900000)(h:∀q∈Q,q.length=m):eD .sorted [lI Q]= .ok (lI (bH Q)):=by
 have hd:∀q:List Int,Mx.D.dh (q.map Mx.D.int)=0:=λq=>by
  induction q with
  |nil=>rfl
  |cons x q ih=>simp[Mx.D.dh,Mx.D.dep,ih]
 have LO:jA (Q.map dI)=true:=by
  refine ya .ti (by rw[RI];lia) (oS λd mz=>?_) (λd mz=>?_) λd mz e he=>?_
  ·obtain⟨q,_,rfl⟩:=Sg.mp mz;simp[dI,Mx.D.dep,hd]
  ·obtain⟨q,hq,rfl⟩:=Sg.mp mz;have:=h q hq;cases q with
   |nil=>simp at this;lia
   |cons x q=>rfl
  ·obtain⟨q,_,rfl⟩:=Sg.mp mz;obtain⟨q2,_,rfl⟩:=Sg.mp he;simp only[dI,u7];exact kB q q2
 have pm:=bF (Q.map dI);unfold bH;rw[Dq,(mZ LO).1,Dq,Uh];congr 3;have:∀l:List Mx.D,(∀y∈l,y∈Q.map dI)->l.map (dI ∘ rY)=l:=by
  intro l
  induction l with
  |nil=>intro _;rfl
  |cons y l ih=>intro h;obtain⟨q,_,rfl⟩:=Sg.mp (h y RF);rw[Sr,ih λz hz=>h z (RC _ hz)];simp only[Function.comp,gp]
 exact(this _ λy hy=>pm.mem_iff.mp hy).symm
theorem pK(Q:List (List Int)):(bH Q).length=Q.length:=by unfold bH;rw[RI,(bF _).length_eq,RI]
noncomputable def zeros(n:Nat):List Int:=List.replicate n 0
noncomputable def bx(m:Nat)(M:List (List Int)):List (List Int):=aV (bH (dS m M (zeros M.length))) []
theorem mC.zero{m:Nat}{M:List (List Int)}{r:List Int}(E:mC m M r):mC m M (zeros M.length):=⟨E.m1,E.m4,E.ln,by simp[zeros],E.wd,E.bd,λx hx=>by rw[TK hx];decide⟩
theorem mC.brk{m:Nat}{M:List (List Int)}{r:List Int}(E:mC m M r){r':List Int}(h:∀x∈r',x.natAbs<=20):Rx.brk M m r'=false:=by
 have h1:vX M=false:=by
  unfold vX;rw[Tr];intro q hq z;obtain⟨x,hx,hz⟩:=Si.mp z;have:=RA hz;have:=E.bd q hq x hx
  lia
 have h2:vY r'=false:=by
  unfold vY;rw[Tr];intro x hx z;have:=RA z;have:=h x hx
  lia
 unfold Rx.brk;rw[h1,h2,R5 (by have:=E.ln;lia),R5 (by have:=E.m4;lia)];rfl
theorem mC.QW{m:Nat}{M:List (List Int)}{r:List Int}(E:mC m M r):xl m 0 [] (rowsOf M r):=by
 refine⟨λq hq=>?_,λq hq x hx=>?_,by simp,by simp,by simp,by simp,by simp⟩
 ·obtain⟨z,hz,rfl⟩:=Sg.mp hq;rw[RQ,E.wd _ (Uu hz).1];rfl
 ·obtain⟨z,hz,rfl⟩:=Sg.mp hq;show x.natAbs<=20;rcases R0.mp hx with hx|hx
  ·have:=E.bd _ (Uu hz).1 x hx;lia
  ·rw[Sf]at hx;subst hx;exact E.rb _ (Uu hz).2
theorem mC.sq{m:Nat}{M:List (List Int)}{r:List Int}(E:mC m M r):Sq m m (rowsOf M r) (eU m M r) (bL (rowsOf M r) m).2:=Sq.all E.QW m (RE _)
theorem mC.Pn{m:Nat}{M:List (List Int)}{r:List Int}(E:mC m M r):0<=gQ m M r:=by have h:=qu (p:=0) E.sq;exact(yL (by have:=E.m4;lia) (Au M) (As (λq hq z hz=>by have:=E.bd q hq z hz;lia) (by decide)) (ko E.rb).1 (ko E.rb).2).1
theorem dM{m:Nat}{M:List (List Int)}{r x:List Int}(E:mC m M r):x∈dS m M r↔x.length=m/\(∀i,i<m->0<=gI x i)/\fP M r x/\∀i∈cy m (eU m M r),gI x i<=gQ m M r:=by
 have hb:=E.Pn;unfold dS;cases BB:oE m (bL (rowsOf M r) m).2 with
 |true=>
  rw[Vl rfl];constructor
  ·intro h;cases h
  ·rintro⟨h1,_,h3,_⟩;have:=((E.sq.sol E.wd h1).mp h3).1;rw[BB]at this;cases this
 |false=>
  rw[Vk (by simp),BX E.sq];constructor
  ·rintro⟨h1,h2,h3,h4⟩;exact⟨h1,h2,(E.sq.sol E.wd h1).mpr ⟨BB,h3⟩,λi hi=>by have:=h4 i hi;lia⟩
  ·rintro⟨h1,h2,h3,h4⟩;exact⟨h1,h2,((E.sq.sol E.wd h1).mp h3).2,λi hi=>by have:=h4 i hi;lia⟩
theorem wm(n:Nat):eO (zeros n)=0:=by
 unfold eO;by_cases e:((zeros n).map λx=>(x.natAbs:Int))=[]
 ·rw[e];rfl
 ·obtain⟨x,hx,ex⟩:=Sg.mp (cF _ e).1;rw[<-ex,TK hx];rfl
variable{fs:List Fn}
theorem sX(Q Q' F:List (List Int)):aV (Q++Q') F=aV Q' (aV Q F):=by
 induction Q generalizing F with
 |nil=>rfl
 |cons q Q ih=>rw[Tv,aV,aV,ih]
theorem lJ(Q F:List (List Int)):(aV Q F).length<=Q.length+F.length:=by
 induction Q generalizing F with
 |nil=>simp[aV]
 |cons q Q ih=>
  rw[aV,RU];refine RK (ih _) ?_;split
  ·rw[RQ,Ub];lia
  ·lia
structure xC(fs:List Fn)(ip il is ig iw ic io ik iu iv ie:Nat):Prop where
 S:xD fs ip il is ig iw ic io
 k:fs[ik]?=some ⟨3,3,false,Bf⟩
 u:fs[iu]?=some ⟨2,4,false,vW⟩
 v:fs[iv]?=some ⟨2,3,false,Ec iu⟩
 e:fs[ie]?=some ⟨2,4,false,Eb ik io iv⟩
section
variable{ip il is ig iw ic io ik iu iv ie:Nat}(H:xC fs ip il is ig iw ic io ik iu iv ie)
include H
theorem Du{N m:Nat}{D:Dt}{M:List (List Int)}(hD:gW D M)(hN:6<=N)(E:mC m M (zeros M.length)):ax fs N ie [D,.int m] none= .ok (lI (bx m M),none)/\(bx m M).length<=900000:=by
 have cL:lim=1000000:=rfl;have hk:=C6 H.k (N:=N-1) ⋯ hD (M:=M) (many:=m) (r:=[]) (by have:=E.ln;lia) (λq hq=>by rw[E.wd q hq];have:=E.m4;lia) (by simp) (E.brk (r':=[]) (by simp));have hk:ax fs (N-1) ik [D,.int m,.tup []] none= .ok (.aW,none):=hk;obtain⟨hq,BA⟩:=DH H.S (N:=N-1) hD ⋯ E;have hQ:∀q∈dS m M (zeros M.length),q.length=m:=λq h=>((dM E).mp h).1
 have hs:=pJ E.m1 BA hQ;have ln:=hD.ln;have IK:=vv (m:=M.length) 0 (by have:=E.ln;lia);have l2:(bH (dS m M (zeros M.length))).length<=900000:=by rw[pK];exact BA
 have eV:bx m M=aV (bH (dS m M (zeros M.length))) []:=rfl;rw[eV];have hq:ax fs (N-1) io [D,.int m,tI (List.replicate M.length 0)] none= .ok (lI (dS m M (zeros M.length)),none):=hq;generalize dS m M (zeros M.length)=Q at hq hs l2 hQ;generalize bH Q=Q' at hs l2;have loop:=cw (S:=none) (tg:=.nm 3) (body:=aU (ax fs (N-1)) (.cons (.ifs (.and (.cmp .Gt (.bi .sum (.cons (.var 3) .nil)) (.con (.int 0))) (.nt (.call iv (.cons (.var 3) (.cons (.mvr 2) .nil)) []))) (.cons (.app 2 (.var 3)) .nil) .nil) .nil)) (ds:=Q'.map tI) (ρ:=[some D,some (.int m),some (lI []),none])
  (λpre ρ=>∃x,ρ=[some D,some (.int m),some (lI (aV (Q'.take pre.length) [])),x]) ⟨none,by rw[T6,UJ];rfl⟩ (by
   rintro pre x post ρ e ⟨x3,rfl⟩;obtain⟨q,sQ,rfl⟩:∃q,Q'[pre.length]?=some q/\tI q=x:=by
    have h1:=Vh (λl=>l[pre.length]?) e;simp only[RW,So (RE _),UY,TV]at h1;cases kr:Q'[pre.length]? with
    |none=>rw[kr]at h1;cases h1
    |some z=>rw[kr]at h1;exact⟨z,rfl,U4 h1⟩
   have rV:pre.length<Q'.length:=(RB.mp sQ).1;have e1:aV (Q'.take (pre++[tI q]).length) []=if (decide (0<q.sum)&& !bu q (aV (Q'.take pre.length) []))=true then aV (Q'.take pre.length) []++[q] else aV (Q'.take pre.length) []:=by rw[RQ,Ub,UD,sQ,sX];rfl
   have hF:(aV (Q'.take pre.length) []).length<=900000:=by
    have:=lJ (Q'.take pre.length) [];rw[Uc,T6]at this
    lia
   have hv:=Dz H.u H.v (N:=N-1) ⋯ q (aV (Q'.take pre.length) []);generalize aV (Q'.take pre.length) []=F at *;have MF:=vH q;by_cases h0:0<q.sum
   ·cases ho:bu q F with
    |true=>rw[ho]at hv e1;exact⟨_,_,rfl,iF (S1:=none) (by simp only[RX,MF,R9 h0,hv];rfl) rfl,some (tI q),by rw[e1,SM,SD,Vk (by simp)];rfl⟩
    |false=>rw[ho]at hv e1;refine⟨_,_,rfl,pA (S1:=none) (by simp only[RX,MF,R9 h0,hv];rfl) (lQ (ds:=F.map tI) (d:=tI q) (S1:=none) rfl rfl (by unfold cc;rw[eh,SQ]) (by rw[RI];lia) rfl),some (tI q),?_⟩;rw[e1,Bool.not_false,SE,R9 h0,Vl rfl];unfold lI;rw[Ss];rfl
   ·exact⟨_,_,rfl,iF (S1:=none) (by simp only[RX,MF,R5 h0];rfl) rfl,some (tI q),by rw[e1,R5 h0,Bool.false_and,Vk (by simp)];rfl⟩)
 obtain⟨ρ1,fG,x3,rfl⟩:=loop;rw[RI,UF]at fG;have PX:=lJ Q' [];rw[T6]at PX;refine⟨aB H.e ⋯ rfl ?_,by lia⟩;show fin (aU (ax fs (N-1)) (Eb ik io iv) [some (D),some (.int m),none,none] none)=_;refine eI (ρ1:=[some (D),some (.int m),none,none]) (S1:=none) (by rw[ex];simp only[RX,hk]) (dG (d:=.lst []) (S1:=none) rfl rfl (bJ (ds:=Q'.map tI) (S1:=none) (dH (d:=lI Q') ?_ rfl) rfl fG (aw rfl)));simp only[RX,ln,IK,hq,hs]
end
variable{fs:List Fn}
theorem oC{α:Type}{t:α->Dt}{L:List α}{pre post:List Dt}{x:Dt}(e:L.map t=pre++x::post):∃q,L[pre.length]?=some q/\t q=x:=by
 have h1:=Vh (λl=>l[pre.length]?) e;simp only[RW,So (RE _),UY,TV]at h1;cases kr:L[pre.length]? with
 |none=>rw[kr]at h1;cases h1
 |some z=>rw[kr]at h1;exact⟨z,rfl,U4 h1⟩
theorem w6{α:Type}{L:List α}{k:Nat}{q:α}(h:L[k]?=some q):L.take (k+1)=L.take k++[q]:=by rw[UD,h];rfl
theorem om(l:List Int):fD (l.map Dt.int)=some (l.map Mx.D.int):=by
 induction l with
 |nil=>rfl
 |cons x l ih=>rw[Sr,fD,ih];simp[toD]
theorem nz(q:List Int):Mx.D.dh (q.map Mx.D.int)=0:=by
 induction q with
 |nil=>rfl
 |cons x q ih=>simp[Mx.D.dh,Mx.D.dep,ih]
theorem Ib(a b:List Int):dg .GtE (tI a) (tI b)= .ok (!ltI a b):=by
 show (match fD (a.map Dt.int),fD (b.map Dt.int) with
  |some xs,some ys=>ab (lK xs ys&&decide (Mx.D.dh xs<=100)) (R.ok (!Mx.D.de xs ys))
  |_,_=>.bad)=_
 rw[om,om];dsimp only;rw[kB,nz];rfl
theorem zj(l:List Int):eD .len [tI l]= .ok (.int l.length):=by show R.ok (Dt.int ((l.map Dt.int).length:Nat))=_;rw[RI]
noncomputable def Bj:Ts:=(.cons (.ret (.and (.bi (.isi "int") (.cons (.var 0) .nil)) (.nt (.bi (.isi "bool") (.cons (.var 0) .nil))))) .nil)
theorem GK{iw N:Nat}(hf:fs[iw]?=some ⟨1,1,false,Bj⟩)(hN:1<=N)(i:Int):ax fs N iw [.int i] none= .ok (.bl true,none):=by refine aB hf hN rfl ?_;show fin (aU (ax fs (N-1)) Bj [some (.int i)] none)=_;exact aw rfl
noncomputable def Hy:Ts:=(.cons (.asg 2 (.con (.int 0))) (.cons (.fr (.nm 3) (.rng1 (.bi .len (.cons (.var 0) .nil))) (.cons (.asg 2 (.bin .Add (.var 2) (.bin .Mult (.idx (.var 0) (.var 3)) (.idx (.var 1) (.var 3))))) .nil)) (.cons (.ret (.var 2)) .nil)))
theorem nX:∀{a b:List Int}{k:Nat},k<a.length->k<b.length->ak (a.take (k+1)) b=ak (a.take k) b+gI a k*gI b k
 |[],_,_,h,_=>by simp at h
 |_::_,[],_,_,h=>by simp at h
 |x::a,y::b,0,_,_=>by
  show x*y+ak (a.take 0) b=0+x*y;rw[UJ,gH]
  lia
 |x::a,y::b,k+1,h1,h2=>by
  rw[UI,UI,aA,aA,nX (by simpa using h1) (by simpa using h2),aE,aE]
  lia
theorem O9{iw N:Nat}{D:Dt}(hf:fs[iw]?=some ⟨2,4,false,Hy⟩)(hN:1<=N){a b:List Int}(ha:∀x∈a,Hg x)(hl:a.length<=b.length)(hz:a.length<=1000)(hD:∀k,k<b.length->cT D (.int k)= .ok (.int (gI b k))):ax fs N iw [tI a,D] none= .ok (.int (ak a b),none):=by
 have cL:lim=1000000:=rfl;have loop:=cw (S:=none) (tg:=.nm 3) (body:=aU (ax fs (N-1)) (.cons (.asg 2 (.bin .Add (.var 2) (.bin .Mult (.idx (.var 0) (.var 3)) (.idx (.var 1) (.var 3))))) .nil)) (ds:=bh 0 a.length) (ρ:=[some (tI a),some D,some (.int 0),none])
  (λpre ρ=>∃x,ρ=[some (tI a),some D,some (.int (ak (a.take pre.length) b)),x]) ⟨none,rfl⟩ (by
   rintro pre y post ρ e ⟨x,rfl⟩;obtain⟨h1,rfl⟩:=gL e;have e1:(pre++[Dt.int pre.length]).length=pre.length+1:=by simp
   generalize pre.length=k at *;have i1:=iA (l:=a) (p:=k) h1;have i2:=hD k ⋯;have m:=aI (i:=gI a k) (j:=gI b k) (.inl (ha _ (fq h1)));refine⟨_,_,rfl,fA (d:=.int (ak (a.take k) b+gI a k*gI b k)) (S1:=none) (by simp only[RX,i1,i2,m]) rfl rfl,some (.int k),?_⟩;rw[e1,nX h1 ⋯];rfl)
 obtain⟨ρ1,fG,x,rfl⟩:=loop;have em:(bh 0 a.length).length=a.length:=by simp[bh]
 rw[em,UF]at fG;have ln:=zj a;refine aB hf hN rfl ?_;show fin (aU (ax fs (N-1)) Hy [some (tI a),some D,none,none] none)=_;exact aC (d:=.int 0) (S1:=none) rfl rfl (bJ (ds:=bh 0 a.length) (S1:=none) (fw (n:=a.length) (by simp only[RX,ln]) ⋯) rfl fG (aw rfl))
noncomputable def Hv(iu:Nat):Ts:=(.cons (.fr (.nm 2) (.seq (.var 0)) (.cons (.ifs (.call iu (.cons (.var 2) (.cons (.var 1) .nil)) []) (.cons (.ret (.con (.bl true))) .nil) .nil) .nil)) (.cons (.ret (.con (.bl false))) .nil))
theorem D5{iu io N:Nat}(hu:fs[iu]?=some ⟨2,4,false,vW⟩)(hf:fs[io]?=some ⟨2,3,false,Hv iu⟩)(hN:2<=N)(a:List Int)(M:List (List Int)):ax fs N io [lI M,tI a] none= .ok (.bl (bu a M),none):=by
 have loop:=iX (S:=none) (tg:=.nm 2) (body:=aU (ax fs (N-1)) (.cons (.ifs (.call iu (.cons (.var 2) (.cons (.var 1) .nil)) []) (.cons (.ret (.con (.bl true))) .nil) .nil) .nil)) (ds:=M.map tI) (ρ:=[some (lI M),some (tI a),none])
  (λpre ρ=>(∀q∈M.take pre.length,aS q a=false)/\∃x,ρ=[some (lI M),some (tI a),x]) (λd=>d= .bl true/\bu a M=true) ⟨by simp,none,rfl⟩ (by
   rintro pre x post ρ e ⟨hle,x2,rfl⟩;obtain⟨q,sQ,rfl⟩:=oC e;refine⟨_,[some (lI M),some (tI a),some (tI q)],rfl,?_⟩;have hv:=DO hu (N:=N-1) ⋯ q a;cases hq:aS q a with
   |true=>rw[hq]at hv;exact .inr ⟨_,pA (S1:=none) (by simp only[RX,hv]) (pB rfl),rfl,by unfold bu;rw[Si];exact⟨q,Uq sQ,hq⟩⟩
   |false=>
    rw[hq]at hv;refine .inl ⟨iF (S1:=none) (by simp only[RX,hv]) rfl,λz hz=>?_,_,rfl⟩;rw[RQ,Ub,w6 sQ]at hz;rcases R0.mp hz with hz|hz
    ·exact hle z hz
    ·rw[Sf]at hz;subst hz;exact hq)
 rcases loop with ⟨ρ',h1,hle,x,rfl⟩|⟨d,ρ',h1,rfl,hu⟩
 ·have:bu a M=false:=by unfold bu;rw[Tr];intro q hq;rw[hle q (by rw[RI,UF];exact hq)];exact SJ
  rw[this];exact aB hf ⋯ rfl (bJ (ds:=M.map tI) (S1:=none) rfl rfl h1 (aw rfl))
 ·rw[hu];refine aB hf ⋯ rfl (iW (ρ1:=ρ') (S1:=none) ?_);rw[ex];exact h1
noncomputable def D9(iw:Nat):Ts:=(.cons (.ifs (.nt (.bi (.isi "list") (.cons (.var 0) .nil))) (.cons (.ret (.con (.bl false))) .nil) .nil) (.cons (.fr (.nm 2) (.seq (.var 0)) (.cons (.ifs (.or (.nt (.bi (.isi "tuple") (.cons (.var 2) .nil))) (.cmp .NotEq (.bi .len (.cons (.var 2) .nil)) (.var 1))) (.cons (.ret (.con (.bl false))) .nil) .nil) (.cons (.fr (.nm 3) (.seq (.var 2)) (.cons (.ifs (.or (.nt (.call iw (.cons (.var 3) .nil) [])) (.cmp .Lt (.var 3) (.con (.int 0)))) (.cons (.ret (.con (.bl false))) .nil) .nil) .nil)) .nil))) (.cons (.fr (.tp [4,5]) (.zip (.sliH (.var 0) (.neg (.con (.int 1)))) (.sliL (.var 0) (.con (.int 1)))) (.cons (.ifs (.cmp .GtE (.var 4) (.var 5)) (.cons (.ret (.con (.bl false))) .nil) .nil) .nil)) (.cons (.ret (.con (.bl true))) .nil))))
theorem GY(A B:List (List Int)):dq (A.map tI) (B.map tI)=(A.zip B).map λq=>.tup [tI q.1,tI q.2]:=by
 unfold dq
 induction A generalizing B with
 |nil=>rfl
 |cons x a ih=>cases B with|nil=>rfl|cons y b=>simp[ih]
theorem D7{iw ia N m:Nat}(hw:fs[iw]?=some ⟨1,1,false,Bj⟩)(hf:fs[ia]?=some ⟨2,6,false,D9 iw⟩)(hN:2<=N){F:List (List Int)}(hl:∀q∈F,q.length=m)(hn:∀q∈F,∀i,i<m->0<=gI q i)(hs:F.Pairwise xE):ax fs N ia [lI F,.int m] none= .ok (.bl true,none):=by
 have Je:=cw (S:=none) (tg:=.nm 2) (body:=aU (ax fs (N-1)) (.cons (.ifs (.or (.nt (.bi (.isi "tuple") (.cons (.var 2) .nil))) (.cmp .NotEq (.bi .len (.cons (.var 2) .nil)) (.var 1))) (.cons (.ret (.con (.bl false))) .nil) .nil) (.cons (.fr (.nm 3) (.seq (.var 2)) (.cons (.ifs (.or (.nt (.call iw (.cons (.var 3) .nil) [])) (.cmp .Lt (.var 3) (.con (.int 0)))) (.cons (.ret (.con (.bl false))) .nil) .nil) .nil)) .nil))) (ds:=F.map tI) (ρ:=[some (lI F),some (.int m),none,none,none,none])
  (λpre ρ=>∃x y,ρ=[some (lI F),some (.int m),x,y,none,none]) ⟨none,none,rfl⟩ (by
   rintro pre x post ρ e ⟨x2,x3,rfl⟩;obtain⟨q,sQ,rfl⟩:=oC e;have hq:=Uq sQ;have lq:=hl q hq;have ln:=zj q;rw[lq]at ln;have inner:=cw (S:=none) (tg:=.nm 3) (body:=aU (ax fs (N-1)) (.cons (.ifs (.or (.nt (.call iw (.cons (.var 3) .nil) [])) (.cmp .Lt (.var 3) (.con (.int 0)))) (.cons (.ret (.con (.bl false))) .nil) .nil) .nil)) (ds:=q.map Dt.int) (ρ:=[some (lI F),some (.int m),some (tI q),x3,none,none])
    (λpre ρ=>∃y,ρ=[some (lI F),some (.int m),some (tI q),y,none,none]) ⟨x3,rfl⟩ (by
     rintro pre x post ρ e ⟨y,rfl⟩;obtain⟨z,uP,rfl⟩:=oC e;obtain⟨i,hi,rfl⟩:=uI (Uq uP);have hz:=hn q hq i ⋯;have w:=GK hw (N:=N-1) ⋯ (gI q i);exact⟨_,_,rfl,iF (S1:=none) (by simp only[RX,w,SM,R5 (show¬gI q i<0 by lia)];rfl) rfl,some (.int (gI q i)),rfl⟩)
   obtain⟨ρ1,fG,y,rfl⟩:=inner;have dw:((m:Int)==(m:Int))=true:=Vf _;have hi:eD (.isi "tuple") [tI q]= .ok (.bl true):=rfl;refine⟨_,_,rfl,iF (S1:=none) (by simp only[RX,hi,ln,dw,SM];rfl) (tx (ds:=q.map Dt.int) (S1:=none) rfl rfl fG rfl),some (tI q),y,rfl⟩)
 obtain⟨ρ1,h1,x2,x3,rfl⟩:=Je;have c1:gj (lI F) none (some (-1))= .ok (lI F.dropLast):=by
  show R.ok (Dt.lst (cutD (F.map tI) none (some (-1))))=_;cases F with
  |nil=>rfl
  |cons q F=>rw[qk _ (by simp)];unfold lI;rw[List.map_dropLast]
 have c2:gj (lI F) (some 1) none= .ok (lI (F.drop 1)):=by
  show R.ok (Dt.lst (cutD (F.map tI) (some ((1:Nat):Int)) none))=_;cases F with
  |nil=>rfl
  |cons q F=>rw[yi _ (by simp)];unfold lI;rw[List.map_drop]
 have IJ:∀q∈F.dropLast.zip (F.drop 1),xE q.1 q.2:=by
  have:∀{F:List (List Int)},F.Pairwise xE->∀q∈F.dropLast.zip (F.drop 1),xE q.1 q.2:=by
   intro F
   induction F with
   |nil=>intro _ q hq;simp at hq
   |cons a F ih=>
    intro h q hq;rw[Uw]at h;cases F with
    |nil=>simp at hq
    |cons b F=>
     rw[List.dropLast_cons_of_ne_nil (by simp),TF,TH,UL]at hq;rcases RL.mp hq with rfl|hq
     ·exact h.1 b RF
     ·exact ih h.2 q (by rw[TF,TH];exact hq)
  exact this hs
 have Jf:=cw (S:=none) (tg:=.tp [4,5]) (body:=aU (ax fs (N-1)) (.cons (.ifs (.cmp .GtE (.var 4) (.var 5)) (.cons (.ret (.con (.bl false))) .nil) .nil) .nil)) (ds:=dq (F.dropLast.map tI) ((F.drop 1).map tI)) (ρ:=[some (lI F),some (.int m),x2,x3,none,none])
  (λpre ρ=>∃x y,ρ=[some (lI F),some (.int m),x2,x3,x,y]) ⟨none,none,rfl⟩ (by
   rintro pre x post ρ e ⟨x4,x5,rfl⟩;rw[GY]at e;obtain⟨q,sQ,rfl⟩:=oC e;have h:=(IJ q (Uq sQ)).1;have g:=Ib q.1 q.2;rw[h]at g;exact⟨_,[some (lI F),some (.int m),x2,x3,some (tI q.1),some (tI q.2)],rfl,iF (S1:=none) (by simp only[RX,g,SM]) rfl,_,_,rfl⟩)
 obtain⟨ρ2,h2,x4,x5,rfl⟩:=Jf;have hi:eD (.isi "list") [lI F]= .ok (.bl true):=rfl;refine aB hf ⋯ rfl ?_;show fin (aU (ax fs (N-1)) (D9 iw) [some (lI F),some (.int m),none,none,none,none] none)=_;refine dY (S1:=none) (by simp only[RX,hi,SM]) (bJ (ds:=F.map tI) (S1:=none) rfl rfl h1 (bJ (ds:=dq (F.dropLast.map tI) ((F.drop 1).map tI)) (S1:=none) (lF (S1:=none) (S2:=none) (da:=lI F.dropLast) (db:=lI (F.drop 1)) (by simp only[RX,c1]) (by simp only[RX,c2]) rfl rfl) rfl h2 (aw rfl)))
noncomputable def LP(a1 a2 a3 b1 b2 b3 c1 c2 c3:Int):Int:=a1*(b2*c3-b3*c2)+a2*(b3*c1-b1*c3)+a3*(b1*c2-b2*c1)
noncomputable def Lies(m:Nat)(B:List (List Int))(g:Int)(x:List Int):Prop:=∃y:List Int,y.length=m/\(∀b∈B,ak b y=0)/\(∀i,i<m->0<=gI y i/\gI y i<=gI x i/\gI y i<=g)/\∃i,i<m/\0<gI y i
noncomputable def p2(a b:List Int)(i j:Nat):Int:=gI a i*gI b j-gI a j*gI b i
section
variable{a b c x:List Int}{t:Int}{k:Nat}
noncomputable def d3(a b c:List Int)(i j k:Nat):Int:=LP (gI a i) (gI a j) (gI a k) (gI b i) (gI b j) (gI b k) (gI c i) (gI c j) (gI c k)
end
section
variable{m:Nat}{M:List (List Int)}{r x:List Int}{k:Nat}
theorem wF{B:List (List Int)}{g:Int}(hk:k<m)(lB:∀b∈B,b.length=m)(h0:∀b∈B,gI b k=0)(hg:1<=g)(hn:∀i,i<m->0<=gI x i)(hx:1<=gI x k):Lies m B g x:=by
 refine⟨unit m k,Ax m k,λb hb=>by rw[wQ (lB b hb) hk,h0 b hb],λi hi=>?_,k,hk,?_⟩
 ·have:=hn i hi;rw[vR hk];split
  ·rename_i e;subst e;lia
  ·lia
 ·rw[vR hk,Vl rfl];decide
theorem wD{a:List Int}{t G:Int}(la:a.length=m)(lx:x.length=m)(ht:∀z∈a,(z.natAbs:Int)<=t)(hn:∀i,i<m->0<=gI x i)(hG:((ak a x).natAbs:Int)<=G)(hk:k<m)(t1:1<=t)(hx:G+((m-1:Nat):Int)*t<gI x k)(hm:2<=m):Lies m [a] (((m-1:Nat):Int)*t) x:=by
 have Do:t<=((m-1:Nat):Int)*t:=by
  have:(1:Int)*t<=((m-1:Nat):Int)*t:=S7 ⋯ ⋯
  lia
 by_cases h0:gI a k=0
 ·exact wF hk (by simp[la]) (by simp[h0]) ⋯ hn ⋯
 obtain⟨j,hj,dw,K3,Rq⟩:=CD la lx hn ht hG rfl hk h0 hx;have aj:=ht _ (fq (by lia:j<a.length));have ai:=ht _ (fq (by lia:k<a.length));have j0:gI a j≠0:=λz=>by rw[z,S9]at K3;lia
 refine⟨((List.replicate m 0).set k ((gI a j).natAbs:Int)).set j ((gI a k).natAbs:Int),by simp,λb hb=>?_,λi hi=>?_,k,hk,?_⟩
 ·rw[Sf]at hb;rw[hb,jK la hj _ (by simp),jK la hk _ (by simp),nW,bg dw,fu,fu];have:=wL K3
  grind
 ·have:=hn i hi;by_cases e1:i=j
  ·rw[e1,bD (by simpa using hj)];lia
  ·rw[bg e1];by_cases e2:i=k
   ·rw[e2,bD (by simpa using hk)];lia
   ·rw[bg e2,fu];lia
 ·rw[bg (U2 dw),bD (by simpa using hk)];lia
end
section
variable{m:Nat}{M:List (List Int)}{r x:List Int}
theorem zF{y:List Int}{F:List (List Int)}(hF:∀f∈F,f.length=m)(ly:y.length=m)(lx:x.length=m)(h:bu y F=true)(hu:aS y x=true):bu x F=true:=by obtain⟨f,hf,k⟩:=Si.mp h;exact Si.mpr ⟨f,hf,jP (by rw[hF f hf,ly]) (by rw[ly,lx]) k hu⟩
theorem nP(E:mC m M (zeros M.length)):∀f∈bx m M,f∈dS m M (zeros M.length)/\0<f.sum:=λf hf=>by
 rcases nM hf with h|⟨h1,h2⟩
 ·cases h
 ·exact⟨c6.mp h1,h2⟩
noncomputable def iC(m:Nat)(M:List (List Int))(r:List Int):List (List Int):=bH ((dS m M r).filter λx=> !bu x (bx m M))
theorem zu(E:mC m M r):x∈iC m M r↔x∈dS m M r/\bu x (bx m M)=false:=by unfold iC;rw[c6,Uk,SL]
noncomputable def mQ(a b:List Int):List Int:=List.zipWith (· - ·) a b
theorem Am:∀{a b:List Int}{i:Nat},a.length=b.length->gI (mQ a b) i=gI a i-gI b i
 |[],[],i,_=>by simp[mQ,gI]
 |x::a,y::b,0,_=>rfl
 |x::a,y::b,i+1,h=>by show gI ((x-y)::mQ a b) (i+1)=_;rw[aE,aE,aE];exact Am (by simpa using h)
theorem q9:∀{l a b:List Int},a.length=b.length->ak l (mQ a b)=ak l a-ak l b
 |[],_,_,_=>by rw[gH,gH,gH];rfl
 |q::l,[],[],_=>by show ak (q::l) []=_;rw[tJ];rfl
 |q::l,x::a,y::b,h=>by
  show ak (q::l) ((x-y)::mQ a b)=_;rw[aA,aA,aA,q9 (by simpa using h)]
  grind
theorem ou{g m:Nat}{F0:List Nat}:∀{FR:List Nat}{Q:List (List Int)},FR.Nodup->(∀p∈FR,p∈F0/\p<m)->(∀q∈Q,q.length=m)->Q.Pairwise (λa b=>∃i,i∈F0/\i∉FR/\gI a i≠gI b i)->(du g FR Q).Pairwise λa b=>∃i,i∈F0/\gI a i≠gI b i
 |[],Q,_,_,_,h=>h.imp λ⟨i,h1,_,h2⟩=>⟨i,h1,h2⟩
 |p::FR,Q,nd,hF,hl,h=>by
  obtain⟨n1,n2⟩:=Ut.mp nd;obtain⟨p0,pm⟩:=hF p RF;show (du g FR (AB g p Q)).Pairwise _;refine ou n2 (λz hz=>hF z (RC _ hz)) (λq hq=>?_) ?_
  ·obtain⟨q',k1,k2⟩:=Um.mp hq;obtain⟨n,_,rfl⟩:=Sg.mp k2;rw[Ua];exact hl q' k1
  ·unfold AB;refine List.pairwise_flatMap.mpr ⟨λq hq=>?_,?_⟩
   ·rw[Uy];exact List.pairwise_lt_range.imp λ {a b} fN=>⟨p,p0,n1,by rw[bD (by rw[hl q hq];exact pm),bD (by rw[hl q hq];exact pm)];lia⟩
   ·refine h.imp λ {a b} fN x hx y hy=>?_
    obtain⟨i,i1,i2,i3⟩:=fN;obtain⟨_,_,rfl⟩:=Sg.mp hx;obtain⟨_,_,rfl⟩:=Sg.mp hy;have OB:i≠p:=λz=>i2 (z▸RF)
    exact⟨i,i1,λz=>i2 (RC _ z),by rw[bg OB,bg OB];exact i3⟩
theorem Ah(E:mC m M r):(dS m M r).Pairwise (· ≠ ·):=by
 unfold dS;split
 ·exact List.Pairwise.nil
 ·unfold wZ;have lw:∀q∈du (gQ m M r).toNat (cy m (eU m M r)) [List.replicate m 0],q.length=m:=λq hq=>by obtain⟨q',k1,k2,_⟩:=f9.mp hq;rw[Sf]at k1;rw[k2,k1,T9]
  have hF:∀p∈cy m (eU m M r),p∈cy m (eU m M r)/\p<m:=λp hp=>⟨hp,(f7.mp hp).1⟩
  have nd:(cy m (eU m M r)).Nodup:=List.nodup_range.filter _;have w:=ou (g:=(gQ m M r).toNat) (Q:=[List.replicate m 0]) nd hF (by simp) (by simp);rw[List.pairwise_filterMap];refine List.Pairwise.imp_of_mem (λ {a b} ha hb fN x hx y hy e=>?_) w;obtain⟨i,i1,i2⟩:=fN;obtain⟨im,ip⟩:=f7.mp i1;have pl:∀q:List Int,q.length=m->∀z∈eU m M r,z.1<q.length/\gI z.2 z.1≠0:=λq lq z hz=>⟨by rw[lq];exact(E.sq.st.pl z hz).1,(E.sq.st.pl z hz).2.2⟩
  have la:=lw a ha;have lb:=lw b hb;have h1:=((fR E.sq.st.nd (pl a la)).mp hx).2.1 i ⋯ ip;have h2:=((fR E.sq.st.nd (pl b lb)).mp hy).2.1 i ⋯ ip;rw[<-e]at h2;exact i2 (h1.symm.trans h2)
theorem Al(Q:List (List Int)):(bH Q).Perm Q:=by unfold bH;have:=(bF (Q.map dI)).map rY;rwa [Uh,show (rY ∘ dI:List Int->List Int)=id from funext gp,List.map_id]at this
end
variable{fs:List Fn}
section
variable{ip il is ig iw ic io ik iu iv ie:Nat}(H:xC fs ip il is ig iw ic io ik iu iv ie)
include H
theorem Jg{N m it:Nat}{D:Dt}{M:List (List Int)}{r:List Int}(ht:fs[it]?=some ⟨3,4,false,Ea ik io iv ie⟩)(hD:gW D M)(hN:7<=N)(E:mC m M r):ax fs N it [D,.int m,tI r] none= .ok (lI (iC m M r),none)/\(iC m M r).length<=900000:=by
 have cL:lim=1000000:=rfl;have hk:=C6 H.k (N:=N-1) ⋯ hD (many:=m) (r:=r) (by have:=E.ln;lia) (λq hq=>by rw[E.wd q hq];have:=E.m4;lia) (by have:=E.rl;have:=E.ln;lia) (E.brk E.rb);obtain⟨hF,_⟩:=Du H (N:=N-1) hD ⋯ E.zero;obtain⟨hq,BA⟩:=DH H.S (N:=N-1) hD ⋯ E;have Os:∀q∈dS m M r,q.length=m:=λq hq=>((dM E).mp hq).1
 generalize hF':bx m M=F at hF;have hL:iC m M r=bH ((dS m M r).filter λx=> !bu x F):=by rw[<-hF'];rfl
 rw[hL];generalize dS m M r=Q at hq BA Os;have hv:∀q,ax fs (N-1) iv [tI q,lI F] none= .ok (.bl (bu q F),none):=λq=>Dz H.u H.v (N:=N-1) ⋯ q F
 have yP:ev (ax fs (N-1)) (.call io (.cons (.var 0) (.cons (.var 1) (.cons (.var 2) .nil))) []) [some D,some (.int m),some (tI r),some (lI F)] none= .ok (lI Q,none):=by simp only[RX,hq]
 have hc:aQ (aR (.nm 1) (bp (ax fs (N-1)) (.cons (.nt (.call iv (.cons (.var 1) (.cons (.var 2) .nil)) [])) .nil)) (bC (ax fs (N-1)) (.var 1)) [none,none,some (lI F)]) (Q.map tI) none= .ok (Q.flatMap λq=>if (!bu q F)=true then[tI q] else[],none):=bP λq hq'=>by have:=hv q;exact turn_if (ρ1:=[none,some (tI q),some (lI F)]) rfl (by simp only[RX,this]) λ_=>⟨rfl,by unfold cc;rw[eh,SQ]⟩
 rw[fm]at hc;have Iy:=bf (F:=ax fs (N-1)) (cap:=[none,none,some 3]) (ρ:=[some D,some (.int m),some (tI r),some (lI F)]) (ds:=Q.map tI) (S1:=none) (dH yP rfl) (by rw[RI];lia) rfl hc;have hle:=RK (List.length_filter_le (λx=> !bu x F) Q) BA;have hs:=pJ (Q:=Q.filter λq=> !bu q F) E.m1 hle λq h=>Os q (Uk.mp h).1
 refine⟨aB ht ⋯ rfl ?_,by rw[pK];exact hle⟩;show fin (aU (ax fs (N-1)) (Ea ik io iv ie) [some D,some (.int m),some (tI r),none] none)=_;refine eI (ρ1:=[some D,some (.int m),some (tI r),none]) (S1:=none) (by rw[ex];simp only[RX,hk]) (aC (d:=lI F) (S1:=none) (by simp only[RX,hF]) rfl (aw ?_));rw[fU];refine(Vh (R.bind · _) Iy).trans ?_;show (eD .sorted [lI (Q.filter λq=> !bu q F)]).bind _=_;rw[hs];rfl
end
end Rx
end
section
namespace Rx
open PySem PySem.W PySem.Spec PyProof.Rows L2 PySem.SeqAt
theorem Ab{fs:List Fn}{n k:Nat}{g:Fn}{args:List Dt}{S:Sx}(h:fs[k]?=some g):ax fs (n+1) k args S=hJ (ax fs n) g args S:=by show (match fs[k]? with|some g=>hJ (ax fs n) g args S|none=>R.bad)=_;rw[h]
section
variable{g:G}{K:Frag}{mg:Str->Option Value}{P:Program}{w:World}{base:Heap}{fs:List Fn}
theorem sW{n L m:Nat}{params:Arguments}{body:List Stmt}{scope:Scope}{dV kV doc pm fM ct oc:Value}{an od:Option Addr}{vd:Array (Option Value)}{f:Addr}{N ps:List Str}{M:List Bool}{δ κ:Option Nat}{fF:Bool}{ts:Ts}
  {xv:Nat->Value} (hm:MG g mg) (BN:XG g K mg xv) (ok:pZ g K mg 0 g.fns fs) (lk:K.lookup f=some ⟨oc,od,.func (PySem.W.fnOf "law" "law" params body scope dV kV doc pm an fM ct),vd⟩) (AS:PySem.W.codeIn K fM "law"=true) (S:fi N ps scope)
  (hM:∀i,i<ps.length->M[i]?≠some true) (hp:ps.length=1) (hc:Eo m g ⟨scope.names,N,M,δ,κ⟩ false fF body=some ts) (hf:fs[L]?=some ⟨1,N.length,false,ts⟩)
  (hn:∀ns:List Int,ns.length<=63->∃S,ax fs (n+1) L [.dC ns] none= .ok (.bl true,S)):
  jy P w K mg base (xj P w) (n+1) f (PySem.W.fnOf "law" "law" params body scope dV kV doc pm an fM ct) ps (vD K):=by
 have h:=nC (xv:=xv) (P:=P) (w:=w) (base:=base) lk AS S hm BN (lV (P:=P) (w:=w) (base:=base) (xv:=xv) hm BN ok n) hM (λz=>by cases z) hc;refine h.imp λvs H Q E q=>?_
 obtain⟨a,ns,rfl,hs,hl,hq⟩:=q;obtain⟨S',hS⟩:=hn ns hl;rw[Ab hf]at hS;rw[hp];refine⟨rfl,N0,none,[.dC ns],none,[.ref a],⟨rfl,rfl,rfl⟩,aq.cons ?_ aq.nil,λb z=>z.elim,?_⟩
 ·unfold RV;refine⟨a,rfl,?_⟩;rcases hs with hs|hs
  ·exact .inl ⟨hs,λz=>z⟩
  ·exact .inr hs
 ·rw[hS];intro v H' fo;rw[fo.val.ay];exact hq H'
end
theorem walkR{l:PySem.W.OpenLaw}{q:Program}{k:Nat}{loose:List Str}{XP:(Str->Option Value)->Heap->Prop}{YP:World->Heap->Prop}{d:DefRec}{K:Params->PySem.W.Frag}(hn:l.most=some 63)(Iz:d.params.defaults=[])(hr:iP k callerA)
  (hY:∀(w:World)(h:Heap),YP w h->(K w.params).In h)
  (F:∀(w:World)(mg:Str->Option Value)(fa:Addr)(h:Heap),(K w.params).In h->h.Ns mainGlobals mg->mg d.name=some (.ref fa)->
   ∃fd:FuncData,(∀(s:Shared)(u:Value),BindsTo s fd ⟨[u],[]⟩ [("_law_script",u)])/\∀base:Heap,(K w.params).In base->base.Ns mainGlobals mg->jy l.prog w (K w.params) mg base (xj l.prog w) k fa fd ["_law_script"] (vD (K w.params))):
  PySem.W.WalkO q loose XP YP l.row.toRowW d [] (λf vs=>PySem.call f vs):=
 L2.CT (n:=63) (k:=k) (x:="_law_script") (CX:=λw=>xj l.prog w) (sp:=λw=>vD (K w.params)) hn (by decide) Iz hr hY F (λ_ _ a ns hl _ hS=>⟨a,ns,rfl,hS,hl,λ_=>rfl⟩) λ_ _ _ _ _ z=>z
structure Row where
 nm:Str
 s:Stmt
 ps:List Str
 ms:List Str:=[]
 dr:Option Str:=none
 dp:Bool:=false
 fT:List Dt:=[]
 dk:Option Str:=none
namespace Row
noncomputable def N(r:Row):List Str:=QL (bI r.s).names r.ps
noncomputable def gm(r:Row):Gm:=⟨(bI r.s).names,r.N,He r.N r.ms,if r.dp then some 0 else r.dr.bind (BR · r.N),r.dk.bind (BR · r.N)⟩
noncomputable def fn(g:G)(j:Nat)(r:Row):Option Fn:=(Eo 60 g r.gm r.dp (g.fr j) (iV r.s)).map λts=>⟨r.ps.length,r.N.length,r.dp,ts⟩
noncomputable def ent(r:Row):Str×Nat×List Dt×Bool:=(r.nm,r.ps.length,r.fT,r.dp)
noncomputable def ok(r:Row):Bool:=
 ((bI r.s).kind== .function)&& !(bI r.s).isCoroutine&& !(bI r.s).isGenerator&&decide r.N.Nodup&&decide (r.N.take r.ps.length=r.ps)&&
 (r.ps.all λx=>(bI r.s).names.lookup x==some .local||(bI r.s).names.lookup x==some .cell)&&((bI r.s).names.all λy=>y.2 != .free)&&
 ((He r.N r.ms).take r.ps.length).all (λb=> !b)&&r.fT.all pY
theorem scope{r:Row}(h:r.ok=true):fi r.N r.ps (bI r.s)/\(∀i,i<r.ps.length->(He r.N r.ms)[i]?≠some true)/\r.fT.all pY=true:=by
 unfold ok at h;simp only[Ry]at h;obtain⟨⟨⟨⟨⟨⟨⟨⟨h1,h2⟩,h3⟩,h4⟩,h5⟩,h6⟩,h7⟩,h8⟩,h9⟩:=h;refine⟨⟨R3 h1,by simpa using h2,by simpa using h3,RA h4,RA h5,λx hx=>?_,λy hy e=>?_⟩,Ji h8,h9⟩
 ·have:=Sh.mp h6 x hx;rcases SN.mp this with z|z
  ·exact .inl (R3 z)
  ·exact .inr (R3 z)
 ·have:=Sh.mp h7 y hy;rw[e]at this;cases this
end Row
noncomputable def qt(g:G):Nat->List Row->Option (List Fn)
 |_,[]=>some []
 |j,r::rs=>(r.fn g j).bind λf=>(qt g (j+1) rs).map (f:: ·)
noncomputable def Fd(K:Frag)(nm:Str)(s:Stmt)(ps:List Str)(fT:List Dt):Prop:=∃(fa:Addr)(oc dV kV doc pm fM ct:Value)(od an:Option Addr)(vd:Array (Option Value)),
 nsIn K mainGlobals nm=some (some (.ref fa))/\K.lookup fa=some ⟨oc,od,.func (fnOf nm nm (oQ s) (iV s) (bI s) dV kV doc pm an fM ct),vd⟩/\codeIn K fM nm=true/\keepIn K (.ref fa)=true/\(fT=[]->dV= .none)/\
 ∀j,j<=fT.length->∃ds,ar ((fT.drop j).map rW) ds/\Binds K (fnOf nm nm (oQ s) (iV s) (bI s) dV kV doc pm an fM ct) ps ds
noncomputable def Kx(K:Frag):List Row->Prop
 |[]=>True
 |r::rs=>Fd K r.nm r.s r.ps r.fT/\Kx K rs
section
variable{g:G}{K:Frag}{mg:Str->Option Value}{h:Heap}{fs:List Fn}
theorem yz(X:K.In h)(Gs:h.Ns mainGlobals mg):∀{rs:List Row}{i:Nat}{fs:List Fn},rs.all Row.ok=true->qt g i rs=some fs->Kx K rs->pZ g K mg i (rs.map Row.ent) fs
 |[],i,fs,_,e,_=>by cases e;trivial
 |r::rs,i,fs,hk,e,F=>by rw[Tq,Ry]at hk;obtain⟨f,e1,e⟩:=Rt.mp e;obtain⟨L7,e2,rfl⟩:=RP.mp e;obtain⟨ts,c1,rfl⟩:=RP.mp e1;obtain⟨⟨fa,oc,dV,kV,doc,pm,fM,ct,od,an,vd,a,l,c,k,_,b⟩,F⟩:=F;obtain⟨s1,s2,s3⟩:=Row.scope hk.1;exact⟨⟨fa,r.ps,r.N,_,_,_,60,oc,od,an,vd,_,_,_,dV,kV,doc,pm,fM,ct,l,c,k,mg_of X Gs a,s1,s2,λz=>Vl z,rfl,c1,rfl,rfl,rfl,b,s3⟩,yz X Gs hk.2 e2 F⟩
theorem EF{rs:List Row}:∀{L i:Nat}{fs:List Fn}{r:Row},qt g i rs=some fs->rs[L]?=some r->∃ts,Eo 60 g r.gm r.dp (g.fr (i+L)) (iV r.s)=some ts/\fs[L]?=some ⟨r.ps.length,r.N.length,r.dp,ts⟩:=by
 induction rs with
 |nil=>intro L i fs r _ e;simp at e
 |cons r0 rs ih=>
  intro L i fs r e hr;obtain⟨f,e1,e⟩:=Rt.mp e;obtain⟨L7,e2,rfl⟩:=RP.mp e;cases L with
  |zero=>cases hr;obtain⟨ts,c1,rfl⟩:=RP.mp e1;exact⟨ts,c1,rfl⟩
  |succ L=>obtain⟨ts,c1,c2⟩:=ih e2 (by simpa using hr);exact⟨ts,by rw[show i+(L+1)=i+1+L by lia];exact c1,by simpa using c2⟩
theorem yt:∀{rs:List Row}{L:Nat}{r:Row},Kx K rs->rs[L]?=some r->Fd K r.nm r.s r.ps r.fT
 |[],L,r,_,e=>by simp at e
 |r0::rs,0,r,F,e=>by cases e;exact F.1
 |r0::rs,L+1,r,F,e=>yt F.2 (by simpa using e)
noncomputable def Lv(K:Frag):List Str->Prop
 |[]=>True
 |x::xs=>nsIn K mainGlobals x=some none/\Lv K xs
noncomputable def Lp(K:Frag):List (Str×Dt)->Prop
 |[]=>True
 |x::xs=>(∃u,nsIn K mainGlobals x.1=some (some u)/\pY x.2=true/\RelV (rW x.2) u)/\Lp K xs
theorem zA{x:Str}:∀{xs:List Str},Lv K xs->x∈xs->nsIn K mainGlobals x=some none
 |y::xs,h,hx=>by
  rcases RL.mp hx with rfl|hx
  ·exact h.1
  ·exact zA h.2 hx
theorem yh{x:Str}{d:Dt}:∀{xs:List (Str×Dt)},Lp K xs->xs.lookup x=some d->∃u,nsIn K mainGlobals x=some (some u)/\pY d=true/\RelV (rW d) u
 |[],_,e=>by simp at e
 |y::xs,h,e=>by
  rw[R6]at e;split at e
  ·rename_i q;cases e;rw[R3 q];exact h.1
  ·exact yh h.2 e
noncomputable def N8(K:Frag)(xs:List (Str×List (Str×Bool))):Prop:=xs=[]
noncomputable def Kw(g:G)(mg:Str->Option Value)(k:Nat):Value:=((g.xs[k]?).bind λx=>mg x.1).getD .none
theorem GV(X:K.In h)(Gs:h.Ns mainGlobals mg){xs:List (Str×List (Str×Bool))}{k:Nat}{x:Str}{ts:List (Str×Bool)}(hx:N8 K xs)(e:xs[k]?=some (x,ts)):∃C,mg x=some (.ref C)/\LA K mg C ts:=by rw[show xs=[] from hx]at e;cases e
theorem law_mk{l:OpenLaw}{w:World}{fa:Addr}{rs:List Row}{cons:List (Str×Dt)}{bls:List Str}{fr:Nat->Bool}{xs:List (Str×List (Str×Bool))}{L n:Nat}{sL:Stmt}{ms:List Str}{dr kd:Option Str}(X:K.In h)(Gs:h.Ns mainGlobals mg)(Qd:mg "law"=some (.ref fa))
  (hL:rs[L]?=some ⟨"law",sL,["_law_script"],ms,dr,false,[],kd⟩) (hk:rs.all Row.ok=true) (hfs:qt ⟨rs.map Row.ent,cons,bls,fr,xs⟩ 0 rs=some fs)
  (hb:∀(s:Shared)(v:Value)(kV doc pm fM ct:Value)(an:Option Addr),BindsTo s (fnOf "law" "law" (oQ sL) (iV sL) (bI sL) .none kV doc pm an fM ct) ⟨[v],[]⟩ [("_law_script",v)])
  (hn:∀ns:List Int,ns.length<=63->∃S,ax fs (n+1) L [.dC ns] none= .ok (.bl true,S)) (B:Lv K bls) (C:Lp K cons) (F:Kx K rs) (E:N8 K xs):
  ∃fd:FuncData,(∀(s:Shared)(v:Value),BindsTo s fd ⟨[v],[]⟩ [("_law_script",v)])/\∀base:Heap,K.In base->base.Ns mainGlobals mg->jy l.prog w K mg base (xj l.prog w) (n+1) fa fd ["_law_script"] (vD K):=by
 have BN:XG ⟨rs.map Row.ent,cons,bls,fr,xs⟩ K mg (Kw ⟨rs.map Row.ent,cons,bls,fr,xs⟩ mg):=λk x ts e=>by obtain⟨C,h1,h2⟩:=GV X Gs E e;have e:xs[k]?=some (x,ts):=e;exact⟨C,by simp[Kw,e,h1],h1,h2⟩
 have hm:MG ⟨rs.map Row.ent,cons,bls,fr,xs⟩ mg:=⟨λx d hx=>by
   obtain⟨u,k1,k2,k3⟩:=yh C hx;exact⟨u,k2,mg_of X Gs k1,k3⟩,λx hx=>mg_none_of X Gs (zA B hx)⟩
 have ok:=yz (g:=⟨rs.map Row.ent,cons,bls,fr,xs⟩) X Gs hk hfs F;obtain⟨Ra,oc,dV,kV,doc,pm,fM,ct,od,an,vd,a,lk,c,k,hd,b⟩:=yt F hL;cases hd rfl;have e:=Qd.symm.trans (mg_of X Gs a);cases e;obtain⟨ts,c1,c2⟩:=EF hfs hL;have hok:=Row.scope (Sh.mp hk _ (Uo.mpr ⟨L,hL⟩));exact⟨_,λs v=>hb s v kV doc pm fM ct an,λbase _ _=>sW hm BN ok lk c hok.1 hok.2.1 rfl c1 c2 hn⟩
end
end Rx
end
section
namespace K25
open PySem PySem.W PySem.Spec PyProof.Rows L2 Mx Rx
noncomputable def top(i:Nat):Stmt:=PySem.Challenge.pw_mixform_k25_one_equation.main.body.getD i (.Pass ⟨0,0,0,0⟩)
noncomputable abbrev rows:List Rx.Row:=[⟨"product",top 4,["one","other"],[],none,false,[],none⟩,
 ⟨"cleared",top 6,["row","place","by"],[],none,false,[],none⟩,
 ⟨"settled",top 7,["rows","many","right"],[],none,false,[],none⟩,
 ⟨"greatest",top 8,["rows","right","settled_many","free_many"],[],none,false,[],none⟩,
 ⟨"walked",top 9,["many","free","bound"],[],none,false,[],none⟩,
 ⟨"completed",top 10,["row","pairs"],["whole"],none,false,[],none⟩,
 ⟨"solutions",top 11,["rows","many","right"],[],none,false,[],none⟩,
 ⟨"check_bounds",top 17,["rows","many","right"],[],none,false,[],none⟩,
 ⟨"lies_under",top 18,["one","other"],[],none,false,[],none⟩,
 ⟨"lies_over",top 19,["row","found"],[],none,false,[],none⟩,
 ⟨"least",top 20,["rows","many"],["found"],none,false,[],none⟩,
 ⟨"least_to",top 21,["rows","many","right"],[],none,false,[],none⟩,
 ⟨"_law_cell",top 23,["_law_script","_law_k"],[],none,false,[],none⟩,
 ⟨"_law_pick",top 24,["_law_script","_law_k","_law_many"],[],none,false,[],none⟩,
 ⟨"_law_whole",top 25,["_law_found"],[],none,false,[],none⟩,
 ⟨"_law_under",top 26,["_law_one","_law_other"],[],none,false,[],none⟩,
 ⟨"_law_any_under",top 27,["_law_rows","_law_row"],[],none,false,[],none⟩,
 ⟨"_law_are_rows",top 28,["_law_found","_law_many"],[],none,false,[],none⟩,
 ⟨"_law_thinned",top 29,["_law_rows"],["_law_left"],none,false,[],none⟩,
 ⟨"_law_free",top 30,["_law_a","_law_b","_law_c"],["_law_found"],none,false,[],none⟩,
 ⟨"_law_top",top 31,["_law_a","_law_c","_law_right"],[],none,false,[],none⟩,
 ⟨"_law_bound",top 32,["_law_a","_law_b","_law_c","_law_right"],["_law_found"],none,false,[],none⟩,
 ⟨"_law_order",top 33,["_law_script","_law_many"],["_law_order_here"],none,false,[],none⟩,
 ⟨"_law_turned",top 34,["_law_rows","_law_order_here"],["_law_found"],none,false,[],none⟩,
 ⟨"_law_same",top 35,["_law_found","_law_due","_law_many"],[],none,false,[],none⟩,
 ⟨"law",top 36,["_law_script"],[],none,false,[],none⟩]
noncomputable abbrev cons:List (Str×Dt):=[("MOST_ROWS",(.int 16)),("MOST_MANY",(.int 4)),("MOST_NUMBER",(.int 3)),("MOST_RIGHT",(.int 20))]
noncomputable abbrev bls:List Str:=["abs","any","bool","divmod","int","isinstance","len","list","max","range","sorted","sum","tuple","zip"]
noncomputable abbrev fr(i:Nat):Bool:=[false,false,false,false,false,false,true,false,false,false,true,true,false,true,false,false,false,false,true,true,false,true,true,true,false,false].getD i false
noncomputable abbrev xs:List (Str×List (Str×Bool)):=[]
noncomputable def LF:Ts:=(.cons (.asgM 1 (.lst .nil)) (.cons (.fr (.tp [3,2]) (.seq (.bi .sorted (.cons (.comp [none,none] (.seq (.var 0)) (.nm 1) .nil (.tup (.cons (.bi .sum (.cons (.var 1) .nil)) (.cons (.var 1) .nil)))) .nil))) (.cons (.ifs (.nt (.call 16 (.cons (.mvr 1) (.cons (.var 2) .nil)) [])) (.cons (.app 1 (.var 2)) .nil) .nil) .nil)) (.cons (.ret (.mvr 1)) .nil)))
noncomputable def LG:Ts:=(.cons (.asgM 3 (.lst .nil)) (.cons (.fr (.nm 4) (.rng1 (.bin .Add (.var 2) (.con (.int 1)))) (.cons (.fr (.nm 5) (.rng1 (.bin .Add (.var 2) (.con (.int 1)))) (.cons (.ifs (.and (.cmp .Gt (.bin .Add (.var 4) (.var 5)) (.con (.int 0))) (.cmp .Eq (.bin .Mod (.bin .Add (.bin .Mult (.var 0) (.var 4)) (.bin .Mult (.var 1) (.var 5))) (.var 2)) (.con (.int 0)))) (.cons (.app 3 (.tup (.cons (.var 4) (.cons (.var 5) (.cons (.bin .FloorDiv (.bin .Add (.bin .Mult (.var 0) (.var 4)) (.bin .Mult (.var 1) (.var 5))) (.var 2)) .nil))))) .nil) .nil) .nil)) .nil)) (.cons (.ret (.call 18 (.cons (.mvr 3) .nil) [])) .nil)))
noncomputable def LH:Ts:=(.cons (.ifs (.cmp .Eq (.var 0) (.con (.int 0))) (.cons (.ret (.con (.int 0))) .nil) .nil) (.cons (.ret (.bi .max2 (.cons (.bin .Sub (.var 1) (.con (.int 1))) (.cons (.bin .FloorDiv (.bin .Add (.var 2) (.bin .Mult (.var 1) (.bin .Sub (.var 0) (.con (.int 1))))) (.var 0)) .nil)))) .nil))
noncomputable def LI:Ts:=(.cons (.asgM 4 (.lst .nil)) (.cons (.fr (.nm 5) (.rng1 (.bin .Add (.call 20 (.cons (.var 0) (.cons (.var 2) (.cons (.var 3) .nil))) []) (.con (.int 1)))) (.cons (.fr (.nm 6) (.rng1 (.bin .Add (.call 20 (.cons (.var 1) (.cons (.var 2) (.cons (.var 3) .nil))) []) (.con (.int 1)))) (.cons (.asg 7 (.bin .Sub (.bin .Add (.bin .Mult (.var 0) (.var 5)) (.bin .Mult (.var 1) (.var 6))) (.var 3))) (.cons (.ifs (.and (.cmp .GtE (.var 7) (.con (.int 0))) (.cmp .Eq (.bin .Mod (.var 7) (.var 2)) (.con (.int 0)))) (.cons (.app 4 (.tup (.cons (.var 5) (.cons (.var 6) (.cons (.bin .FloorDiv (.var 7) (.var 2)) .nil))))) .nil) .nil) .nil))) .nil)) (.cons (.ret (.call 18 (.cons (.mvr 4) .nil) [])) .nil)))
noncomputable def LJ:Ts:=(.cons (.asgM 2 (.bi .list (.cons (.idx (.con (.tup [(.tup [(.int 0),(.int 1),(.int 2)]),(.tup [(.int 0),(.int 2),(.int 1)]),(.tup [(.int 1),(.int 0),(.int 2)]),(.tup [(.int 1),(.int 2),(.int 0)]),(.tup [(.int 2),(.int 0),(.int 1)]),(.tup [(.int 2),(.int 1),(.int 0)])])) (.call 13 (.cons (.var 0) (.cons (.con (.int 5)) (.cons (.con (.int 6)) .nil))) [])) .nil))) (.cons (.ifs (.cmp .Eq (.var 1) (.con (.int 4))) (.cons (.ins 2 (.call 13 (.cons (.var 0) (.cons (.con (.int 6)) (.cons (.con (.int 4)) .nil))) []) (.con (.int 3))) .nil) .nil) (.cons (.ret (.mvr 2)) .nil)))
noncomputable def LK:Ts:=(.cons (.asgM 2 (.lst .nil)) (.cons (.fr (.nm 3) (.seq (.var 0)) (.cons (.asg 4 (.bin .Add (.var 3) (.tup (.cons (.con (.int 0)) .nil)))) (.cons (.app 2 (.bi .tuple (.cons (.comp [none,none,some 4] (.seq (.var 1)) (.nm 1) .nil (.idx (.var 2) (.var 1))) .nil))) .nil))) (.cons (.ret (.bi .sorted (.cons (.mvr 2) .nil))) .nil)))
noncomputable def LL:Ts:=(.cons (.ret (.and (.call 17 (.cons (.var 0) (.cons (.var 2) .nil)) []) (.cmp .Eq (.var 0) (.var 1)))) .nil)
noncomputable def KF:Ts:=(.cons (.asg 1 (.bin .Mod (.call 12 (.cons (.var 0) (.cons (.con (.int 0)) .nil)) []) (.con (.int 4)))) (.cons (.asg 2 (.bin .Mod (.call 12 (.cons (.var 0) (.cons (.con (.int 1)) .nil)) []) (.con (.int 4)))) (.cons (.asg 3 (.bin .Add (.con (.int 1)) (.bin .Mod (.call 12 (.cons (.var 0) (.cons (.con (.int 2)) .nil)) []) (.con (.int 3))))) (.cons (.asg 4 (.bin .Sub (.bin .Mod (.call 12 (.cons (.var 0) (.cons (.con (.int 3)) .nil)) []) (.con (.int 41))) (.con (.int 20)))) (.cons (.asg 5 (.bin .Add (.con (.int 3)) (.call 13 (.cons (.var 0) (.cons (.con (.int 4)) (.cons (.con (.int 2)) .nil))) []))) (.cons (.asg 6 (.bin .Sub (.con (.int 1)) (.bin .Mult (.con (.int 2)) (.call 13 (.cons (.var 0) (.cons (.con (.int 7)) (.cons (.con (.int 2)) .nil))) [])))) (.cons (.asg 7 (.call 22 (.cons (.var 0) (.cons (.var 5) .nil)) [])) (.cons (.asg 8 (.idx (.call 23 (.cons (.lst (.cons (.tup (.cons (.bin .Mult (.var 6) (.var 1)) (.cons (.bin .Mult (.var 6) (.var 2)) (.cons (.bin .Sub (.con (.int 0)) (.bin .Mult (.var 6) (.var 3))) .nil)))) .nil)) (.cons (.var 7) .nil)) []) (.con (.int 0)))) (.cons (.asg 9 (.bin .Add (.con (.int 1)) (.call 13 (.cons (.var 0) (.cons (.con (.int 8)) (.cons (.con (.int 3)) .nil))) []))) (.cons (.asg 10 (.comp [none,none,some 8] (.rng1 (.var 9)) (.nm 1) .nil (.var 2))) (.cons (.asg 11 (.call 23 (.cons (.call 19 (.cons (.var 1) (.cons (.var 2) (.cons (.var 3) .nil))) []) (.cons (.var 7) .nil)) [])) (.cons (.ifs (.cmp .Eq (.var 5) (.con (.int 4))) (.cons (.asg 11 (.bi .sorted (.cons (.bin .Add (.var 11) (.lst (.cons (.bi .tuple (.cons (.comp [none,none] (.seq (.var 7)) (.nm 1) .nil (.bi .int (.cons (.cmp .Eq (.var 1) (.con (.int 3))) .nil))) .nil)) .nil))) .nil))) .nil) .nil) (.cons (.ifs (.nt (.call 24 (.cons (.call 10 (.cons (.var 10) (.cons (.var 5) .nil)) []) (.cons (.var 11) (.cons (.var 5) .nil))) [])) (.cons (.ret (.con (.bl false))) .nil) .nil) (.cons (.asg 11 (.call 23 (.cons (.call 21 (.cons (.var 1) (.cons (.var 2) (.cons (.var 3) (.cons (.var 4) .nil)))) []) (.cons (.var 7) .nil)) [])) (.cons (.ret (.call 24 (.cons (.call 11 (.cons (.var 10) (.cons (.var 5) (.cons (.bi .tuple (.cons (.comp [none,none,some 4,some 6] (.seq (.var 10)) (.nm 1) .nil (.bin .Mult (.var 3) (.var 2))) .nil)) .nil))) []) (.cons (.var 11) (.cons (.var 5) .nil))) [])) .nil)))))))))))))))
noncomputable def fs:List Fn:=[⟨2,2,false,qg⟩,⟨3,3,false,xH⟩,⟨3,8,false,Bh 1⟩,⟨4,7,false,xJ⟩,⟨3,5,false,Bk⟩,⟨2,7,false,Bg 0⟩,⟨3,8,false,Bi 2 3 4 5⟩,⟨3,3,false,Bf⟩,⟨2,4,false,vW⟩,⟨2,3,false,Ec 8⟩,⟨2,4,false,Eb 7 6 9⟩,⟨3,4,false,Ea 7 6 9 10⟩,⟨2,3,false,uf⟩,⟨3,4,false,xN 12⟩,⟨1,1,false,Bj⟩,⟨2,4,false,vW⟩,⟨2,3,false,Hv 15⟩,⟨2,6,false,D9 14⟩,⟨1,4,false,LF⟩,⟨3,6,false,LG⟩,⟨3,3,false,LH⟩,⟨4,8,false,LI⟩,⟨2,3,false,LJ⟩,⟨2,5,false,LK⟩,⟨3,3,false,LL⟩,⟨1,12,false,KF⟩]
theorem hok:rows.all Rx.Row.ok=true:=by decide +kernel
theorem hfs:qt ⟨rows.map Rx.Row.ent,cons,bls,fr,xs⟩ 0 rows=some fs:=by kernel_rfl
noncomputable def aO:List (List Int)->List (List Int)->List (List Int)
 |[],F=>F
 |q::Q,F=>aO Q (if bu q F=true then F else F++[q])
theorem rG:∀{Q F:List (List Int)},∃t,aO Q F=F++t
 |[],F=>⟨[],by simp[aO]⟩
 |q::Q,F=>by
  unfold aO;obtain⟨t,e⟩:=rG (Q:=Q) (F:=if bu q F=true then F else F++[q]);rw[e];split
  ·exact⟨t,rfl⟩
  ·exact⟨[q]++t,by simp⟩
theorem ml:∀{Q F:List (List Int)}{f:List Int},f∈aO Q F->f∈F\/f∈Q
 |[],F,f,h=>.inl h
 |q::Q,F,f,h=>by
  unfold aO at h;rcases ml h with h|h
  ·split at h
   ·exact .inl h
   ·rcases R0.mp h with h|h
    ·exact .inl h
    ·rw[Sf]at h;exact .inr (h▸RF)
  ·exact .inr (RC _ h)
theorem mn:∀{Q F:List (List Int)}{q:List Int},q∈Q->bu q (aO Q F)=true
 |[],F,q,h=>by cases h
 |q'::Q,F,q,h=>by
  unfold aO;rcases RL.mp h with rfl|h
  ·obtain⟨t,e⟩:=rG (Q:=Q) (F:=if bu q F=true then F else F++[q]);rw[e];refine ve ?_;split
   ·assumption
   ·exact Si.mpr ⟨q,Sd _ (List.mem_singleton_self _),gr q⟩
  ·exact mn h
theorem kK:∀{a b:List Int},a.length=b.length->aS a b=true->a.sum<=b.sum/\(a.sum=b.sum->a=b)
 |[],[],_,_=>⟨by simp,λ_=>rfl⟩
 |x::a,y::b,h,hu=>by rw[cg,Ry]at hu;obtain⟨h1,h2⟩:=kK (a:=a) (b:=b) (by simpa using h) hu.2;have:=RA hu.1;rw[UC,UC];exact⟨by lia,λe=>by rw[h2 ⋯,show x=y by lia]⟩
 |[],_::_,h,_=>by simp at h
 |_::_,[],h,_=>by simp at h
theorem iK{m:Nat}:∀{Q F:List (List Int)},(∀q∈Q,q.length=m)->(∀f∈F,f.length=m)->Q.Pairwise (λa b=>a.sum<=b.sum)->(∀f∈F,∀q∈Q,f.sum<=q.sum)->F.Pairwise (λa b=>aS a b=false/\aS b a=false)->(aO Q F).Pairwise λa b=>aS a b=false/\aS b a=false
 |[],F,_,_,_,_,h=>h
 |q::Q,F,lq,lf,hs,hf,h=>by
  unfold aO;have OM:=Uw.mp hs;refine iK (λz hz=>lq z (RC _ hz)) (λf h1=>?_) OM.2 (λf h1 z hz=>?_) ?_
  ·split at h1
   ·exact lf f h1
   ·rcases R0.mp h1 with h1|h1
    ·exact lf f h1
    ·rw[Sf]at h1;rw[h1];exact lq q RF
  ·split at h1
   ·exact hf f h1 z (RC _ hz)
   ·rcases R0.mp h1 with h1|h1
    ·exact hf f h1 z (RC _ hz)
    ·rw[Sf]at h1;rw[h1];exact OM.1 z hz
  ·split
   ·exact h
   ·rename_i ho;refine Uv.mpr ⟨h,List.pairwise_singleton _ _,λf h1 z hz=>?_⟩;rw[Sf]at hz;subst hz;have n1:aS f z=false:=by
     cases e:aS f z with
     |false=>rfl
     |true=>exact absurd (Si.mpr ⟨f,h1,e⟩) ho
    refine⟨n1,?_⟩;cases e:aS z f with
    |false=>rfl
    |true=>have l1:=lf f h1;have l2:=lq z RF;obtain⟨k1,k2⟩:=kK (by rw[l1,l2]) e;have:=k2 (by have:=hf f h1 z RF;lia);rw[this,gr]at n1;cases n1
theorem rL{a b:List Int}(h:a.length=b.length)(h1:aS a b=true)(h2:aS b a=true):a=b:=by obtain⟨k1,k2⟩:=kK h h1;obtain⟨k3,_⟩:=kK h.symm h2;exact k2 ⋯
theorem qb{L:List (List Int)}(h:L.Pairwise λa b=>aS a b=false/\aS b a=false):∀{a b:List Int},a∈L->b∈L->aS a b=true->a=b:=by
 induction L with
 |nil=>intro a b ha;cases ha
 |cons x L ih=>
  intro a b ha hb hu;obtain⟨h1,h2⟩:=Uw.mp h;rcases RL.mp ha with rfl|AR
  ·rcases RL.mp hb with rfl|jW
   ·rfl
   ·rw[(h1 b jW).1]at hu;cases hu
  ·rcases RL.mp hb with rfl|jW
   ·rw[(h1 a AR).2]at hu;cases hu
   ·exact ih h2 AR jW hu
theorem qO{m:Nat}{Q:List (List Int)}(lq:∀q∈Q,q.length=m)(hs:Q.Pairwise (λa b=>a.sum<=b.sum)){x:List Int}:x∈aO Q []↔x∈Q/\∀y∈Q,aS y x=true->y=x:=by
 have ap:=iK (F:=[]) lq (by simp) hs (by simp) List.Pairwise.nil;have sub:∀f∈aO Q [],f∈Q:=λf hf=>by
  rcases ml hf with h|h
  ·cases h
  ·exact h
 constructor
 ·intro hx;refine⟨sub x hx,λy hy hu=>?_⟩;obtain⟨g,hg,EL⟩:=Si.mp (mn (F:=[]) hy);have lg:=lq g (sub g hg);have ly:=lq y hy;have lx:=lq x (sub x hx);have:=qb ap hg hx (jP (by rw[lg,ly]) (by rw[ly,lx]) EL hu);rw[this]at EL;exact rL (by rw[ly,lx]) hu EL
 ·rintro⟨hx,ES⟩;obtain⟨g,hg,Mt⟩:=Si.mp (mn (F:=[]) hx);rw[<-ES g (sub g hg) Mt];exact hg
noncomputable def pS(q:List Int):Mx.D:=.tup [.int q.sum,dI q]
noncomputable def Hj:Mx.D->List Int
 |.tup [_,d]=>rY d
 |_=>[]
theorem vO(q:List Int):Hj (pS q)=q:=gp q
noncomputable def pT(q:List Int):Dt:=.tup [.int q.sum,tI q]
theorem zC(q:List Int):ofD (pS q)=pT q:=by unfold pS pT;rw[ofD,bK,bK,bK,<-DK,ofD]
noncomputable def bU(Q:List (List Int)):List (List Int):=(dQ (Q.map pS)).map Hj
theorem cW(Q:List (List Int)):(bU Q).Perm Q:=by
 have:=(bF (Q.map pS)).map Hj;rw[Uh]at this;have e:Q.map (Hj ∘ pS)=Q:=by rw[show (Hj ∘ pS)=id from funext vO,List.map_id]
 rwa [e]at this
theorem cq(Q:List (List Int)):(bU Q).Pairwise λa b=>a.sum<=b.sum:=by
 unfold bU;rw[Uy];refine List.Pairwise.imp_of_mem ?_ (jv (Q.map pS));intro a b ha hb h;obtain⟨p,_,rfl⟩:=Sg.mp (dD.mp ha);obtain⟨q,_,rfl⟩:=Sg.mp (dD.mp hb);rw[vO,vO];have h:(!Mx.D.lt (pS q) (pS p))=true:=h;unfold pS at h;rw[Mx.D.lt,Mx.D.cD]at h;by_cases e:p.sum<=q.sum
 ·exact e
 ·rw[Vk (by intro z;have:=Mx.D.int.inj z;lia)]at h;rw[Mx.D.lt,R9 ⋯]at h;cases h
theorem J7{Q:List (List Int)}(hl:Q.length<=900000):eD .sorted [.lst (Q.map pT)]= .ok (.lst ((bU Q).map pT)):=by
 have LO:jA (Q.map pS)=true:=by
  refine ya .ti (by rw[RI];lia) (oS λd mz=>?_) (λd mz=>?_) λd mz e he=>?_
  ·obtain⟨q,_,rfl⟩:=Sg.mp mz;simp[pS,dI,Mx.D.dep,Mx.D.dh,nz]
  ·obtain⟨q,hq,rfl⟩:=Sg.mp mz;rfl
  ·obtain⟨q,_,rfl⟩:=Sg.mp mz;obtain⟨q2,_,rfl⟩:=Sg.mp he;simp only[pS,dI,u7,lK,kB,Bool.and_self,Bool.true_and]
 have e1:Q.map pT=bK (Q.map pS):=by rw[jh,Uh];congr 1;funext q;exact(zC q).symm
 have pm:=bF (Q.map pS);have e2:∀l:List Mx.D,(∀y∈l,y∈Q.map pS)->(l.map Hj).map pT=bK l:=by
  intro l
  induction l with
  |nil=>intro _;rfl
  |cons y l ih=>intro h;obtain⟨q,_,rfl⟩:=Sg.mp (h y RF);rw[Sr,Sr,ih λz hz=>h z (RC _ hz),vO,bK,zC]
 rw[e1,(mZ LO).1];unfold bU;rw[e2 _ λy hy=>pm.mem_iff.mp hy]
noncomputable def CL:Ts:=(.cons (.ifs (.nt (.call 16 (.cons (.mvr 1) (.cons (.var 2) .nil)) [])) (.cons (.app 1 (.var 2)) .nil) .nil) .nil)
theorem oj{N:Nat}(hN:2<=N){P:Option Dt}:∀(Q F:List (List Int))(x2 x3:Option Dt),F.length+Q.length<=900000->∃y2 y3,forL (.tp [3,2]) (aU (ax fs N) CL) (Q.map pT) [P,some (lI F),x2,x3] none= .ok (.next,[P,some (lI (aO Q F)),y2,y3],none)
 |[],F,x2,x3,_=>⟨x2,x3,rfl⟩
 |q::Q,F,x2,x3,hl=>by
  have cL:lim=1000000:=rfl;rw[RU]at hl;have ha:=D5 (fs:=fs) (iu:=15) (io:=16) rfl rfl hN q F;have key:∀F':List (List Int),F'.length+Q.length<=900000->aO (q::Q) F=aO Q F'->aU (ax fs N) CL [P,some (lI F),some (tI q),some (.int q.sum)] none= .ok (.next,[P,some (lI F'),some (tI q),some (.int q.sum)],none)->∃y2 y3,forL (.tp [3,2]) (aU (ax fs N) CL) ((q::Q).map pT) [P,some (lI F),x2,x3] none= .ok (.next,[P,some (lI (aO (q::Q) F)),y2,y3],none):=λF' BH et hb=>by obtain⟨y2,y3,ih⟩:=oj hN (P:=P) Q F' (some (tI q)) (some (.int q.sum)) BH;refine⟨y2,y3,?_⟩;rw[Sr,forL];show ((aU (ax fs N) CL [P,some (lI F),some (tI q),some (.int q.sum)] none).bind _)=_;rw[hb,R.af,et];exact ih
  cases ho:bu q F with
  |true=>rw[ho]at ha;exact key F ⋯ (by rw[aO,ho];rfl) (iF (S1:=none) (by simp only[RX,ha];rfl) rfl)
  |false=>rw[ho]at ha;refine key (F++[q]) (by rw[RQ,Ub];lia) (by rw[aO,ho];rfl) (pA (S1:=none) (by simp only[RX,ha];rfl) (lQ (ds:=F.map tI) (d:=tI q) (S1:=none) rfl (by simp only[RX]) rfl (by rw[RI];lia) ?_));rw[show F.map tI++[tI q]=(F++[q]).map tI by rw[Ss];rfl];rfl
theorem vL{N:Nat}(hN:3<=N){Q:List (List Int)}(hl:Q.length<=900000):ax fs N 18 [lI Q] none= .ok (lI (aO (bU Q) []),none):=by
 have cL:lim=1000000:=rfl;have hc:aQ (aR (.nm 1) (bp (ax fs (N-1)) .nil) (bC (ax fs (N-1)) (.tup (.cons (.bi .sum (.cons (.var 1) .nil)) (.cons (.var 1) .nil)))) [none,none]) (Q.map tI) none= .ok (Q.map pT,none):=bb λq hq=>by have:=vH q;exact aX (ρ1:=[none,some (tI q)]) rfl (by simp only[RX,this];rfl) rfl
 have BF:=bf (F:=ax fs (N-1)) (cap:=[none,none]) (ρ:=[some (lI Q),some (lI []),none,none]) (S:=none) (ds:=Q.map tI) (S1:=none) (dH (c:=.var 0) (d:=lI Q) rfl rfl) (by rw[RI];lia) rfl hc;have hs:=J7 hl;obtain⟨y2,y3,Qk⟩:=oj (N:=N-1) ⋯ (P:=some (lI Q)) (bU Q) [] none none (by rw[(cW Q).length_eq];simpa using hl);refine aB (body:=LF) rfl ⋯ rfl ?_;show fin (aU (ax fs (N-1)) LF [some (lI Q),none,none,none] none)=_;exact dG (d:=lI []) (S1:=none) rfl rfl (bJ (ds:=(bU Q).map pT) (S1:=none) (dH (d:=.lst ((bU Q).map pT)) (by simp only[RX];rw[BF];simp only[RX,hs]) rfl) rfl Qk (aw rfl))
noncomputable def jV(X Y:Nat)(t:Nat->Nat->Option (List Int)):List (List Int):=(List.range X).flatMap λx=>(List.range Y).filterMap (t x)
theorem jd{X Y:Nat}{t:Nat->Nat->Option (List Int)}{q:List Int}:q∈jV X Y t↔∃x y,x<X/\y<Y/\t x y=some q:=by
 unfold jV;simp only[Um,Ul,Sv];constructor
 ·rintro⟨x,hx,y,hy,e⟩;exact⟨x,y,hx,hy,e⟩
 ·rintro⟨x,y,hx,hy,e⟩;exact⟨x,hx,y,hy,e⟩
theorem yy{Y:Nat}(t:Nat->Option (List Int)):((List.range Y).filterMap t).length<=Y:=by have:=List.length_filterMap_le t (List.range Y);rwa [T7]at this
theorem fW(n Y:Nat)(t:Nat->Nat->Option (List Int)):(jV n Y t).length<=n*Y:=by
 unfold jV
 induction n with
 |zero=>simp
 |succ n ih=>
  rw[List.range_succ,List.flatMap_append,RQ,TN,List.flatMap_nil,Sl,UZ];have:=yy (Y:=Y) (t n)
  lia
theorem uL{G:ah->Sx->RS}{iy Y:Nat}{t:Nat->Option (List Int)}{E:List (List Int)->Option Dt->Option Dt->ah}(E3:∀A y z d,d5 (.nm iy) d (E A y z)= .ok (E A (some d) z))
  (hb:∀(A:List (List Int))(y:Nat)(z:Option Dt),A.length<=900000->y<Y->∃z',G (E A (some (.int y)) z) none= .ok (.next,E (A++(t y).toList) (some (.int y)) z',none)) (A0:List (List Int)) (y0 z0:Option Dt) (hA:A0.length+Y<=900000):
  ∃y1 z1,forL (.nm iy) G (bh 0 Y) (E A0 y0 z0) none= .ok (.next,E (A0++(List.range Y).filterMap t) y1 z1,none):=by
 have loop:=cw (S:=none) (tg:=.nm iy) (ds:=bh 0 Y) (ρ:=E A0 y0 z0) (body:=G) (λpre ρ=>∃y z,ρ=E (A0++(List.range pre.length).filterMap t) y z) ⟨y0,z0,by simp⟩ (by
  rintro pre d post ρ e ⟨y,z,rfl⟩;obtain⟨hj,rfl⟩:=gL e;obtain⟨z',h⟩:=hb (A0++(List.range pre.length).filterMap t) pre.length z (by rw[RQ];have:=yy (Y:=pre.length) t;lia) hj;refine⟨_,_,E3 _ _ _ _,h,some (.int pre.length),z',?_⟩;rw[RQ,Ub,List.range_succ,List.filterMap_append,RN];have e3:[pre.length].filterMap t=(t pre.length).toList:=by rw[TM,List.filterMap_nil];cases t pre.length<;>rfl
  rw[e3])
 obtain⟨ρ1,h,y,z,rfl⟩:=loop;rw[show (bh 0 Y).length=Y by simp[bh]]at h;exact⟨y,z,h⟩
theorem qw{G:ah->Sx->RS}{ix X Y:Nat}{t:Nat->Nat->Option (List Int)}{E:List (List Int)->Option Dt->Option Dt->Option Dt->ah}(E3:∀A x y z d,d5 (.nm ix) d (E A x y z)= .ok (E A (some d) y z))
  (hb:∀(A:List (List Int))(x:Nat)(y z:Option Dt),A.length+Y<=900000->x<X->∃y' z',G (E A (some (.int x)) y z) none= .ok (.next,E (A++(List.range Y).filterMap (t x)) (some (.int x)) y' z',none)) (KR:X*Y<=800000) (hY:Y<=1000):
  ∃x1 y1 z1,forL (.nm ix) G (bh 0 X) (E [] none none none) none= .ok (.next,E (jV X Y t) x1 y1 z1,none):=by
 have hlen:∀n,((List.range n).flatMap λx=>(List.range Y).filterMap (t x)).length<=n*Y:=λn=>fW n Y t
 have loop:=cw (S:=none) (tg:=.nm ix) (ds:=bh 0 X) (ρ:=E [] none none none) (body:=G) (λpre ρ=>∃x y z,ρ=E ((List.range pre.length).flatMap λx=>(List.range Y).filterMap (t x)) x y z) ⟨none,none,none,by simp⟩ (by
  rintro pre d post ρ e ⟨x,y,z,rfl⟩;obtain⟨hj,rfl⟩:=gL e;obtain⟨y',z',h⟩:=hb ((List.range pre.length).flatMap λx=>(List.range Y).filterMap (t x)) pre.length y z (by
   have:=hlen pre.length;have:pre.length*Y<=X*Y:=UW _ ⋯
   lia) hj
  refine⟨_,_,E3 _ _ _ _ _,h,some (.int pre.length),y',z',?_⟩;rw[RQ,Ub,List.range_succ,List.flatMap_append,TN,List.flatMap_nil,Sl])
 obtain⟨ρ1,h,x,y,z,rfl⟩:=loop;rw[show (bh 0 X).length=X by simp[bh]]at h;exact⟨x,y,z,h⟩
noncomputable def sO(a b c:Int)(x y:Nat):Option (List Int):=if 0<(x:Int)+y/\(a*x+b*y) % c=0 then some [(x:Int),y,(a*x+b*y)/c] else none
noncomputable def bN(a b c:Nat):List (List Int):=jV (c+1) (c+1) (sO a b c)
noncomputable def GB:Ts:=(.cons (.ifs (.and (.cmp .Gt (.bin .Add (.var 4) (.var 5)) (.con (.int 0))) (.cmp .Eq (.bin .Mod (.bin .Add (.bin .Mult (.var 0) (.var 4)) (.bin .Mult (.var 1) (.var 5))) (.var 2)) (.con (.int 0)))) (.cons (.app 3 (.tup (.cons (.var 4) (.cons (.var 5) (.cons (.bin .FloorDiv (.bin .Add (.bin .Mult (.var 0) (.var 4)) (.bin .Mult (.var 1) (.var 5))) (.var 2)) .nil))))) .nil) .nil) .nil)
noncomputable def NU:Ts:=(.cons (.fr (.nm 5) (.rng1 (.bin .Add (.var 2) (.con (.int 1)))) GB) .nil)
theorem oB(A:List (List Int))(q:List Int):A.map tI++[tI q]=(A++[q]).map tI:=by rw[Ss];rfl
theorem Bv{F:FT}{a b c:Nat}(ha:a<=3)(hb:b<=3)(c1:1<=c)(c3:c<=3)(A:List (List Int))(x y:Nat)(hA:A.length<=900000):aU F GB [some (.int a),some (.int b),some (.int c),some (lI A),some (.int x),some (.int y)] none= .ok (.next,[some (.int a),some (.int b),some (.int c),some (lI (A++(sO a b c x y).toList)),some (.int x),some (.int y)],none):=by
 have cL:lim=1000000:=rfl;have m1:=aI (i:=(a:Int)) (j:=(x:Int)) (.inl ⋯);have m2:=aI (i:=(b:Int)) (j:=(y:Int)) (.inl ⋯);have m3:=bT (i:=(a:Int)*x+(b:Int)*y) (j:=(c:Int)) ⋯;have hc:c=1\/c=2\/c=3:=⋯
 have m4:=pC (i:=(a:Int)*x+(b:Int)*y) (j:=(c:Int)) ⋯ (by rcases hc with rfl|rfl|rfl<;>decide);by_cases h1:0<(x:Int)+y
 ·by_cases h2:((a:Int)*x+(b:Int)*y) % (c:Int)=0
  ·have ht:sO a b c x y=some [(x:Int),y,((a:Int)*x+(b:Int)*y)/c]:=by unfold sO;rw[Vl ⟨h1,h2⟩]
   rw[ht];refine pA (S1:=none) (by simp only[RX,m1,m2,m3,R9 h1,h2];rfl) (lQ (ds:=A.map tI) (d:=tI [(x:Int),y,((a:Int)*x+(b:Int)*y)/c]) (S1:=none) rfl (by simp only[RX,m1,m2,m4];rfl) rfl (by rw[RI];lia) ?_);rw[oB];rfl
  ·have ht:sO a b c x y=none:=by unfold sO;rw[Vk λz=>h2 z.2]
   rw[ht];refine iF (S1:=none) (by simp only[RX,m1,m2,m3,R9 h1,Vm,Ve.mpr h2]) ?_;rw[show A++(none:Option (List Int)).toList=A by simp];rfl
 ·have ht:sO a b c x y=none:=by unfold sO;rw[Vk λz=>h1 z.1]
  rw[ht];refine iF (S1:=none) (by simp only[RX,R5 h1];rfl) ?_;rw[show A++(none:Option (List Int)).toList=A by simp];rfl
theorem Bw{N a b c:Nat}(hN:4<=N)(ha:a<=3)(hb:b<=3)(c1:1<=c)(c3:c<=3):ax fs N 19 [.int a,.int b,.int c] none= .ok (lI (aO (bU (bN a b c)) []),none):=by
 have cL:lim=1000000:=rfl;have KR:(c+1)*(c+1)<=800000:=RK (UV (by lia:c+1<=4) (by lia:c+1<=4)) (by decide);have e1:(c:Int)+1=((c+1:Nat):Int):=⋯
 obtain⟨x1,y1,z1,h⟩:=qw (G:=aU (ax fs (N-1)) NU) (ix:=4) (X:=c+1) (Y:=c+1) (t:=sO a b c) (E:=λA x y _=>[some (.int a),some (.int b),some (.int c),some (lI A),x,y]) (λA x y z d=>rfl) (λA x y z hA hx=>by
  obtain⟨y',z',hi⟩:=uL (G:=aU (ax fs (N-1)) GB) (iy:=5) (Y:=c+1) (t:=sO a b c x) (E:=λA y _=>[some (.int a),some (.int b),some (.int c),some (lI A),some (.int x),y]) (λA y z d=>rfl) (λA y z hA _=>⟨none,Bv ha hb c1 c3 A x y hA⟩) A y none hA;exact⟨y',none,tx (ds:=bh 0 (c+1)) (S1:=none) (fw (n:=c+1) (by simp only[RX,e1]) ⋯) rfl hi rfl⟩) KR ⋯
 have hl:(bN a b c).length<=900000:=by
  have:=fW (c+1) (c+1) (sO a b c);unfold bN
  lia
 have ht:=vL (N:=N-1) ⋯ hl;refine aB (body:=LG) rfl ⋯ rfl ?_;show fin (aU (ax fs (N-1)) LG [some (.int a),some (.int b),some (.int c),none,none,none] none)=_;refine dG (d:=lI []) (S1:=none) rfl rfl (bJ (ds:=bh 0 (c+1)) (S1:=none) (fw (n:=c+1) (by simp only[RX,e1]) ⋯) rfl h (aw ?_));show ev (ax fs (N-1)) (.call 18 (.cons (.mvr 3) .nil) []) [some (.int a),some (.int b),some (.int c),some (lI (bN a b c)),x1,y1] none=_;simp only[RX,ht]
noncomputable def fE(a c:Nat)(r:Int):Nat:=if a=0 then 0 else(max ((c:Int)-1) ((r+c*((a:Int)-1))/a)).toNat
theorem DN{N a c:Nat}{r:Int}(hN:1<=N)(ha:a<=3)(c1:1<=c)(c3:c<=3):ax fs N 20 [.int a,.int c,.int r] none= .ok (.int (fE a c r),none):=by
 refine aB (body:=LH) rfl hN rfl ?_;show fin (aU (ax fs (N-1)) LH [some (.int a),some (.int c),some (.int r)] none)=_;by_cases h0:a=0
 ·subst h0;exact jS (S1:=none) (by simp only[RX];rfl) (aw rfl)
 ·have AR:a=1\/a=2\/a=3:=⋯
  have m1:=aI (i:=(c:Int)) (j:=(a:Int)-1) (.inl ⋯);have m2:=pC (i:=r+c*((a:Int)-1)) (j:=(a:Int)) ⋯ (by rcases AR with rfl|rfl|rfl<;>decide);have e:((fE a c r:Nat):Int)=if (r+c*((a:Int)-1))/a>(c:Int)-1 then(r+c*((a:Int)-1))/a else(c:Int)-1:=by unfold fE;rw[Vk h0];generalize (r+c*((a:Int)-1))/a=z;split<;>lia
  rw[e];exact dY (S1:=none) (by simp only[RX,Ve.mpr (show (a:Int)≠0 by lia)]) (aw (by simp only[RX,m1,m2]))
theorem kN{a c:Nat}{r:Int}(ha:a<=3)(c3:c<=3)(hr:r<=20):fE a c r<=40:=by
 unfold fE;split
 ·lia
 ·have hh:(r+c*((a:Int)-1))/a<=40:=by
   have h1:(c:Int)*((a:Int)-1)<=3*2:=Int.mul_le_mul ⋯ ⋯ ⋯ (by decide);have AR:a=1\/a=2\/a=3:=⋯
   rcases AR with rfl|rfl|rfl<;>lia
  lia
noncomputable def AM(a b c r:Int)(x y:Nat):Option (List Int):=if 0<=a*x+b*y-r/\(a*x+b*y-r) % c=0 then some [(x:Int),y,(a*x+b*y-r)/c] else none
noncomputable def gP(a b c:Nat)(r:Int):List (List Int):=jV (fE a c r+1) (fE b c r+1) (AM a b c r)
noncomputable def GC:Ts:=(.cons (.asg 7 (.bin .Sub (.bin .Add (.bin .Mult (.var 0) (.var 5)) (.bin .Mult (.var 1) (.var 6))) (.var 3))) (.cons (.ifs (.and (.cmp .GtE (.var 7) (.con (.int 0))) (.cmp .Eq (.bin .Mod (.var 7) (.var 2)) (.con (.int 0)))) (.cons (.app 4 (.tup (.cons (.var 5) (.cons (.var 6) (.cons (.bin .FloorDiv (.var 7) (.var 2)) .nil))))) .nil) .nil) .nil))
noncomputable def NV:Ts:=(.cons (.fr (.nm 6) (.rng1 (.bin .Add (.call 20 (.cons (.var 1) (.cons (.var 2) (.cons (.var 3) .nil))) []) (.con (.int 1)))) GC) .nil)
theorem Ej{F:FT}{a b c:Nat}{r:Int}(ha:a<=3)(hb:b<=3)(c1:1<=c)(c3:c<=3)(A:List (List Int))(x y:Nat)(z:Option Dt)(hA:A.length<=900000):∃z',aU F GC [some (.int a),some (.int b),some (.int c),some (.int r),some (lI A),some (.int x),some (.int y),z] none= .ok (.next,[some (.int a),some (.int b),some (.int c),some (.int r),some (lI (A++(AM a b c r x y).toList)),some (.int x),some (.int y),z'],none):=by
 have cL:lim=1000000:=rfl;have m1:=aI (i:=(a:Int)) (j:=(x:Int)) (.inl ⋯);have m2:=aI (i:=(b:Int)) (j:=(y:Int)) (.inl ⋯);refine⟨some (.int ((a:Int)*x+(b:Int)*y-r)),fA (d:=.int ((a:Int)*x+(b:Int)*y-r)) (S1:=none) (by simp only[RX,m1,m2]) rfl ?_⟩;unfold AM;generalize (a:Int)*x+(b:Int)*y-r=n;have m3:=bT (i:=n) (j:=(c:Int)) ⋯;have hc:c=1\/c=2\/c=3:=⋯
 have m4:=pC (i:=n) (j:=(c:Int)) ⋯ (by rcases hc with rfl|rfl|rfl<;>decide);by_cases h1:0<=n
 ·by_cases h2:n % (c:Int)=0
  ·rw[Vl ⟨h1,h2⟩];refine pA (S1:=none) (by simp only[RX,m3,R9 h1,h2];rfl) (lQ (ds:=A.map tI) (d:=tI [(x:Int),y,n/c]) (S1:=none) rfl (by simp only[RX,m4];rfl) rfl (by rw[RI];lia) ?_);rw[oB];rfl
  ·rw[Vk λz=>h2 z.2];refine iF (S1:=none) (by simp only[RX,m3,R9 h1,Vm,Ve.mpr h2]) ?_;rw[show A++(none:Option (List Int)).toList=A by simp];rfl
 ·rw[Vk λz=>h1 z.1];refine iF (S1:=none) (by simp only[RX,R5 h1];rfl) ?_;rw[show A++(none:Option (List Int)).toList=A by simp];rfl
theorem El{N a b c:Nat}{r:Int}(hN:4<=N)(ha:a<=3)(hb:b<=3)(c1:1<=c)(c3:c<=3)(hr:r<=20):ax fs N 21 [.int a,.int b,.int c,.int r] none= .ok (lI (aO (bU (gP a b c r)) []),none):=by
 have cL:lim=1000000:=rfl;have t1:=kN (r:=r) ha c3 hr;have t2:=kN (r:=r) hb c3 hr;have k1:=DN (N:=N-1) (r:=r) ⋯ ha c1 c3;have k2:=DN (N:=N-1) (r:=r) ⋯ hb c1 c3;unfold gP;generalize fE a c r=X at *;generalize fE b c r=Y at *;have KR:(X+1)*(Y+1)<=800000:=RK (UV (by lia:X+1<=41) (by lia:Y+1<=41)) (by decide);have e1:(X:Int)+1=((X+1:Nat):Int):=⋯
 have e2:(Y:Int)+1=((Y+1:Nat):Int):=⋯
 obtain⟨x1,y1,z1,h⟩:=qw (G:=aU (ax fs (N-1)) NV) (ix:=5) (X:=X+1) (Y:=Y+1) (t:=AM a b c r) (E:=λA x y z=>[some (.int a),some (.int b),some (.int c),some (.int r),some (lI A),x,y,z]) (λA x y z d=>rfl) (λA x y z hA hx=>by
  obtain⟨y',z',hi⟩:=uL (G:=aU (ax fs (N-1)) GC) (iy:=6) (Y:=Y+1) (t:=AM a b c r x) (E:=λA y z=>[some (.int a),some (.int b),some (.int c),some (.int r),some (lI A),some (.int x),y,z]) (λA y z d=>rfl) (λA y z hA _=>Ej ha hb c1 c3 A x y z hA) A y z hA;exact⟨y',z',tx (ds:=bh 0 (Y+1)) (S1:=none) (fw (n:=Y+1) (by simp only[RX,k2,e2]) ⋯) rfl hi rfl⟩) KR ⋯
 have hl:(jV (X+1) (Y+1) (AM a b c r)).length<=900000:=RK (fW _ _ _) ⋯;have ht:=vL (N:=N-1) ⋯ hl;refine aB (body:=LI) rfl ⋯ rfl ?_;show fin (aU (ax fs (N-1)) LI [some (.int a),some (.int b),some (.int c),some (.int r),none,none,none,none] none)=_;refine dG (d:=lI []) (S1:=none) rfl rfl (bJ (ds:=bh 0 (X+1)) (S1:=none) (fw (n:=X+1) (by simp only[RX,k1,e1]) ⋯) rfl h (aw ?_));simp only[RX,ht]
section
variable{ns:List Int}
theorem Im:t9 fs 13:=⟨12,rfl,rfl⟩
theorem pk{N:Nat}(hN:2<=N)(k many:Nat)(h1:k<30000)(h2:0<many):ax fs N 13 [.dC ns,.int k,.int many] none= .ok (.int (gf ns k many),none):=Co (fs:=fs) Im (n:=N) hN (ns:=ns) (k:=k) (many:=many) ⋯ h2
noncomputable def eT(O:List Nat):Dt:=.lst (O.map λ(i:Nat)=>.int i)
theorem zE{N m:Nat}(hN:3<=N)(hm:m=3\/m=4):∃O:List Nat,ax fs N 22 [.dC ns,.int m] none= .ok (eT O,none)/\O.Perm (List.range m):=by
 have k5:ax fs (N-1) 13 [.dC ns,.int 5,.int 6] none=_:=pk (ns:=ns) (N:=N-1) ⋯ 5 6 (by decide) (by decide);have k6:ax fs (N-1) 13 [.dC ns,.int 6,.int 4] none=_:=pk (ns:=ns) (N:=N-1) ⋯ 6 4 (by decide) (by decide);have l5:=gg (ns:=ns) (k:=5) (many:=6) (by decide);have l6:=gg (ns:=ns) (k:=6) (many:=4) (by decide);generalize gf ns 5 6=p at k5 l5;generalize gf ns 6 4=q at k6 l6;obtain⟨B,hB,lB,p3,p4⟩:∃B:List Nat,cT (.tup [(.tup [(.int 0),(.int 1),(.int 2)]),(.tup [(.int 0),(.int 2),(.int 1)]),(.tup [(.int 1),(.int 0),(.int 2)]),(.tup [(.int 1),(.int 2),(.int 0)]),(.tup [(.int 2),(.int 0),(.int 1)]),(.tup [(.int 2),(.int 1),(.int 0)])]) (.int p)= .ok (.tup (B.map λ(i:Nat)=>.int i))/\B.length=3/\B.Perm (List.range 3)/\(B.take q++3::B.drop q).Perm (List.range 4):=by
  have hp:p=0\/p=1\/p=2\/p=3\/p=4\/p=5:=⋯
  have hq:q=0\/q=1\/q=2\/q=3:=⋯
  rcases hp with rfl|rfl|rfl|rfl|rfl|rfl
  ·exact⟨[0,1,2],rfl,rfl,by decide,by rcases hq with rfl|rfl|rfl|rfl<;>decide⟩
  ·exact⟨[0,2,1],rfl,rfl,by decide,by rcases hq with rfl|rfl|rfl|rfl<;>decide⟩
  ·exact⟨[1,0,2],rfl,rfl,by decide,by rcases hq with rfl|rfl|rfl|rfl<;>decide⟩
  ·exact⟨[1,2,0],rfl,rfl,by decide,by rcases hq with rfl|rfl|rfl|rfl<;>decide⟩
  ·exact⟨[2,0,1],rfl,rfl,by decide,by rcases hq with rfl|rfl|rfl|rfl<;>decide⟩
  ·exact⟨[2,1,0],rfl,rfl,by decide,by rcases hq with rfl|rfl|rfl|rfl<;>decide⟩
 have cL:lim=1000000:=rfl;have start:∀{r},fin (aU (ax fs (N-1)) (.cons (.ifs (.cmp .Eq (.var 1) (.con (.int 4))) (.cons (.ins 2 (.call 13 (.cons (.var 0) (.cons (.con (.int 6)) (.cons (.con (.int 4)) .nil))) []) (.con (.int 3))) .nil) .nil) (.cons (.ret (.mvr 2)) .nil)) [some (.dC ns),some (.int m),some (eT B)] none)=r->ax fs N 22 [.dC ns,.int m] none=r:=λ {r} h=>by refine aB (body:=LJ) rfl ⋯ rfl ?_;show fin (aU (ax fs (N-1)) LJ [some (.dC ns),some (.int m),none] none)=_;exact dG (d:=eT B) (S1:=none) (by simp only[RX,k5,hB];rfl) rfl h
 rcases hm with rfl|rfl
 ·exact⟨B,start (dY (S1:=none) (by simp only[RX];rfl) (aw rfl)),p3⟩
 ·refine⟨B.take q++3::B.drop q,start (jS (S1:=none) (by simp only[RX];rfl) (eI (EB (ds:=B.map λ(i:Nat)=>.int i) (d:=.int 3) (S1:=none) (S2:=none) (n:=q) rfl (by simp only[RX,k6]) rfl rfl (by rw[RI,lB];lia) (by rw[RI,lB];lia)) (aw ?_))),p4⟩;show Rx.R.ok ((Dt.lst ((B.map λ(i:Nat)=>Dt.int i).take q++Dt.int 3::(B.map λ(i:Nat)=>Dt.int i).drop q)),(none:Sx))=_;unfold eT;rw[Ss,Sr,List.map_take,List.map_drop];rfl
noncomputable def gk(O:List Nat)(q:List Int):List Int:=O.map λi=>gI (q++[0]) i
noncomputable def GF:Ts:=(.cons (.asg 4 (.bin .Add (.var 3) (.tup (.cons (.con (.int 0)) .nil)))) (.cons (.app 2 (.bi .tuple (.cons (.comp [none,none,some 4] (.seq (.var 1)) (.nm 1) .nil (.idx (.var 2) (.var 1))) .nil))) .nil))
theorem oo{F:FT}{O:List Nat}{P:Option Dt}(hO:∀i∈O,i<4)(lO:O.length<=1000):∀(Q A:List (List Int))(x3 x4:Option Dt),(∀q∈Q,q.length=3)->A.length+Q.length<=900000->∃y3 y4,forL (.nm 3) (aU F GF) (Q.map tI) [P,some (eT O),some (lI A),x3,x4] none= .ok (.next,[P,some (eT O),some (lI (A++Q.map (gk O))),y3,y4],none)
 |[],A,x3,x4,_,_=>⟨x3,x4,by simp[forL]⟩
 |q::Q,A,x3,x4,hq,hl=>by
  have cL:lim=1000000:=rfl;rw[RU]at hl;have lq:=hq q RF;obtain⟨y3,y4,ih⟩:=oo (F:=F) (P:=P) hO lO Q (A++[gk O q]) (some (tI q)) (some (tI (q++[0]))) (λz hz=>hq z (RC _ hz)) (by rw[RQ,Ub];lia);refine⟨y3,y4,?_⟩;have ad:mM .Add (tI q) (.tup [.int 0])= .ok (tI (q++[0])):=by show ab (decide ((q.map Dt.int).length+[Dt.int 0].length<=lim)) _=_;rw[R9 (by rw[RI,lq,Ub];lia)];show Rx.R.ok (Dt.tup (q.map Dt.int++[Dt.int 0]))=_;unfold tI;rw[Ss];rfl
  have hc:aQ (aR (.nm 1) (bp F .nil) (bC F (.idx (.var 2) (.var 1))) [none,none,some (tI (q++[0]))]) (O.map λ(i:Nat)=>.int i) none= .ok (O.map λi=>.int (gI (q++[0]) i),none):=bb λi hi=>by have:=iA (l:=q++[0]) (p:=i) (by rw[RQ,lq,Ub];have:=hO i hi;lia);exact aX (ρ1:=[none,some (.int i),some (tI (q++[0]))]) rfl (by simp only[RX,this]) rfl
  have BF:=bf (F:=F) (cap:=[none,none,some 4]) (ρ:=[P,some (eT O),some (lI A),some (tI q),some (tI (q++[0]))]) (S:=none) (ds:=O.map λ(i:Nat)=>.int i) (S1:=none) (dH (c:=.var 1) (d:=eT O) rfl rfl) (by rw[RI];lia) rfl hc;have et:(.tup (O.map λi=>.int (gI (q++[0]) i)):Dt)=tI (gk O q):=by unfold tI gk;rw[Uh];rfl
  have hb:aU F GF [P,some (eT O),some (lI A),some (tI q),x4] none= .ok (.next,[P,some (eT O),some (lI (A++[gk O q])),some (tI q),some (tI (q++[0]))],none):=by refine fA (d:=tI (q++[0])) (S1:=none) (by simp only[RX,ad]) rfl (lQ (ds:=A.map tI) (d:=tI (gk O q)) (S1:=none) rfl (by simp only[RX];rw[BF];simp only[RX,et]) rfl (by rw[RI];lia) ?_);rw[oB];rfl
  rw[Sr,forL];show ((aU F GF [P,some (eT O),some (lI A),some (tI q),x4] none).bind _)=_;rw[hb,R.af,Sr,show A++gk O q::Q.map (gk O)=(A++[gk O q])++Q.map (gk O) by simp];exact ih
theorem jO{N m:Nat}{O:List Nat}(hN:1<=N)(hO:O.Perm (List.range m))(m1:1<=m)(m4:m<=4){Q:List (List Int)}(hq:∀q∈Q,q.length=3)(hl:Q.length<=900000):ax fs N 23 [lI Q,eT O] none= .ok (lI (bH (Q.map (gk O))),none):=by
 have lO:O.length=m:=by rw[hO.length_eq,T7]
 obtain⟨y3,y4,h⟩:=oo (F:=ax fs (N-1)) (P:=some (lI Q)) (O:=O) (λi hi=>by have:=Sv.mp (hO.mem_iff.mp hi);lia) ⋯ Q [] none none hq (by simpa using hl);rw[Us]at h;have hs:=pJ (Q:=Q.map (gk O)) (m:=m) m1 (by rw[RI];exact hl) λz hz=>by obtain⟨q,_,rfl⟩:=Sg.mp hz;unfold gk;rw[RI,lO]
 refine aB (body:=LK) rfl hN rfl ?_;show fin (aU (ax fs (N-1)) LK [some (lI Q),some (eT O),none,none,none] none)=_;exact dG (d:=lI []) (S1:=none) rfl rfl (bJ (ds:=Q.map tI) (S1:=none) (dH (d:=lI Q) rfl rfl) rfl h (aw (by simp only[RX,hs])))
end
structure On(m n:Nat)(l:List Int)(ρ:Int):Prop where
 m2:2<=m
 m4:m<=4
 n1:1<=n
 OU:n<=16
 ll:l.length=m
 lb:∀x∈l,x.natAbs<=3
 ne:∃i,i<m/\gI l i≠0
 rb:ρ.natAbs<=20
section
variable{m n:Nat}{l:List Int}{ρ:Int}{x:List Int}
theorem On.HW(h:On m n l ρ):mC m (List.replicate n l) (List.replicate n ρ):=⟨by have:=h.m2;lia,h.m4,by rw[T9];exact h.OU,by rw[T9,T9],λq hq=>by rw[TK hq];exact h.ll,λq hq=>by rw[TK hq];exact h.lb,λz hz=>by rw[TK hz];exact h.rb⟩
theorem zW:Rx.rowsOf (List.replicate n l) (List.replicate n ρ)=List.replicate n (l++[ρ]):=by unfold Rx.rowsOf;rw[List.zip_replicate,Nat.min_self,List.map_replicate]
theorem yg(L:List Int)(p i:Nat):gI (bB L p L) i=0:=by
 by_cases hi:i<L.length
 ·rw[ib rfl hi];lia
 ·unfold gI;rw[TU,List.getElem?_eq_none (by rw[oN rfl];lia)];rfl
theorem n8{p:Nat}{S:List (Nat×List Int)×List (List Int)}(h:∀q∈S.2,gI q p=0):d6 p S=S:=by unfold d6;rw[List.filter_eq_nil_iff.mpr λq hq=>by rw[h q hq];decide]
theorem vz(n1:1<=n)(L:List Int):∀p,((∀i,i<p->gI L i=0)/\bL (List.replicate n L) p=([],List.replicate n L))\/∃p0,p0<p/\gI L p0≠0/\(bL (List.replicate n L) p).1=[(p0,L)]/\∀q∈(bL (List.replicate n L) p).2,∀i,gI q i=0
 |0=>.inl ⟨λi hi=>by lia,rfl⟩
 |p+1=>by
  rcases vz n1 L p with ⟨h1,h2⟩|⟨p0,h1,h2,h3,h4⟩
  ·by_cases hp:gI L p=0
   ·refine .inl ⟨λi hi=>?_,?_⟩
    ·by_cases e:i=p
     ·rw[e];exact hp
     ·exact h1 i ⋯
    ·show d6 p (bL (List.replicate n L) p)=_;rw[n8,h2];intro q hq;rw[h2]at hq;rw[TK hq];exact hp
   ·refine .inr ⟨p,by lia,hp,?_⟩;have e:bL (List.replicate n L) (p+1)=([(p,L)],(List.replicate n L).map λr=>bB r p L):=by show d6 p (bL (List.replicate n L) p)=_;rw[h2];unfold d6;obtain⟨k,rfl⟩:∃k,n=k+1:=⟨n-1,by lia⟩;rw[show (([]:List (Nat×List Int)),List.replicate (k+1) L).2=L::List.replicate k L from rfl,List.filter_cons_of_pos (by simp[hp])];rfl
    rw[e];refine⟨rfl,λq hq i=>?_⟩;obtain⟨q0,Qt,rfl⟩:=Sg.mp hq;rw[TK Qt];exact yg L p i
  ·refine .inr ⟨p0,by lia,h2,?_⟩;have e:bL (List.replicate n L) (p+1)=bL (List.replicate n L) p:=n8 λq hq=>h4 q hq p
   rw[e];exact⟨h3,h4⟩
theorem On.QR(h:On m n l ρ):(eU m (List.replicate n l) (List.replicate n ρ)).length=1:=by
 unfold eU;rw[zW];rcases vz h.n1 (l++[ρ]) m with ⟨h1,_⟩|⟨p0,_,_,h3,_⟩
 ·obtain⟨i,hi,dw⟩:=h.ne;have:=h1 i hi;rw[ir (by rw[h.ll];exact hi)]at this;exact absurd this dw
 ·rw[h3];rfl
theorem On.N1(h:On m n l ρ):1<=jN (List.replicate n l):=by
 obtain⟨i,hi,dw⟩:=h.ne;have:=Ar (M:=List.replicate n l) (q:=l) (List.mem_replicate.mpr ⟨by have:=h.n1;lia,rfl⟩) (fq (l:=l) (p:=i) (by rw[h.ll];exact hi))
 lia
theorem On.Oa(h:On m n l ρ):gQ m (List.replicate n l) (List.replicate n ρ)=eO (List.replicate n ρ)+((m-1:Nat):Int)*jN (List.replicate n l):=by
 have hf:=qu (p:=0) h.HW.sq;have hp:=h.QR;unfold gQ;have Qc:(cy m (eU m (List.replicate n l) (List.replicate n ρ))).length=m-1:=⋯
 rw[hp,Qc];show 1*_=_;rw[Int.one_mul]
theorem On.DP(h:On m n l ρ)(lx:x.length=m)(hn:∀i,i<m->0<=gI x i)(hs:ak l x=ρ){k:Nat}(hk:k<m)(hb:gQ m (List.replicate n l) (List.replicate n ρ)<gI x k):Lies m [l] (((m-1:Nat):Int)*jN (List.replicate n l)) x:=by have EN:l∈List.replicate n l:=List.mem_replicate.mpr ⟨by have:=h.n1;lia,rfl⟩;rw[h.Oa]at hb;refine wD h.ll lx (λz hz=>Ar EN hz) hn (G:=eO (List.replicate n ρ)) ?_ hk h.N1 hb h.m2;rw[hs];exact vb (Sg.mpr ⟨ρ,List.mem_replicate.mpr ⟨by have:=h.n1;lia,rfl⟩,rfl⟩)
structure Hm(m:Nat)(l x:List Int):Prop where
 lx:x.length=m
 nn:∀i,i<m->0<=gI x i
 s0:ak l x=0
 ps:∃i,i<m/\0<gI x i
theorem On.GW(h:On m n l ρ):On m n l 0:=⟨h.m2,h.m4,h.n1,h.OU,h.ll,h.lb,h.ne,by decide⟩
theorem ow:zeros (List.replicate n l).length=List.replicate n 0:=by rw[T9];rfl
theorem On.G4(h:On m n l ρ):mC m (List.replicate n l) (zeros (List.replicate n l).length):=by rw[ow];exact h.GW.HW
theorem On.yC(h:On m n l ρ)(hx:Hm m l x):bu x (bx m (List.replicate n l))=true:=by
 have E:=h.G4;have ez:=ow (n:=n) (l:=l);have LC:∀y,ak l y=0->∀q∈List.replicate n l,ak q y=0:=λy hy q hq=>by rw[TK hq];exact hy
 have tell:∀y:List Int,Hm m l y->(∀i∈cy m (eU m (List.replicate n l) (zeros (List.replicate n l).length)),gI y i<=gQ m (List.replicate n l) (zeros (List.replicate n l).length))->bu y (bx m (List.replicate n l))=true:=λy hy h4=>
  nN (F:=[]) (c6.mpr ((dM E).mpr ⟨hy.lx,hy.nn,j4.mpr (LC y hy.s0),h4⟩)) (vG (by rw[hy.lx];exact hy.nn) (by rw[hy.lx];exact hy.ps))
 by_cases hall:∀i∈cy m (eU m (List.replicate n l) (zeros (List.replicate n l).length)),gI x i<=gQ m (List.replicate n l) (zeros (List.replicate n l).length)
 ·exact tell x hx hall
 ·obtain⟨k,hk,hb⟩:∃k∈cy m (eU m (List.replicate n l) (zeros (List.replicate n l).length)),gQ m (List.replicate n l) (zeros (List.replicate n l).length)<gI x k:=SR λhc=>hall λi hi=>by
   rcases dB (gQ m (List.replicate n l) (zeros (List.replicate n l).length)) (gI x i)with z|z
   ·exact absurd ⟨i,hi,z⟩ hc
   ·exact z
  rw[ez]at hk hb;obtain⟨y,ly,hy,h1,h2⟩:=h.GW.DP hx.lx hx.nn hx.s0 (f7.mp hk).1 hb;have QH:Hm m l y:=⟨ly,λi hi=>(h1 i hi).1,hy l (by simp),h2⟩;refine zF (λf hf=>((dM E).mp (nP E f hf).1).1) ly hx.lx (tell y QH λi hi=>?_) ((cK (by rw[ly,hx.lx])).mpr λi hi=>(h1 i ⋯).2.1);rw[ez]at hi ⊢;rw[h.GW.Oa];have g0:=wm n;have:=(h1 i (f7.mp hi).1).2.2;show _<=eO (zeros n)+_
  lia
theorem K4{M:List (List Int)}(E:mC m M (zeros M.length)):(∀f∈bx m M,f.length=m/\(∀i,i<m->0<=gI f i)/\(∀q∈M,ak q f=0)/\0<f.sum)/\(bx m M).Pairwise xE:=by refine⟨λf hf=>?_,i8 (m:=m) (λq hq=>((dM E).mp (c6.mp hq)).1) (by simp) (iI _) (by simp) List.Pairwise.nil⟩;obtain⟨h1,h2⟩:=nP E f hf;obtain⟨k1,k2,k3,_⟩:=(dM E).mp h1;exact⟨k1,k2,j4.mp k3,h2⟩
theorem On.least(h:On m n l ρ):x∈bx m (List.replicate n l)↔Hm m l x/\∀y,Hm m l y->aS y x=true->y=x:=by
 have E:=h.G4;have EN:l∈List.replicate n l:=List.mem_replicate.mpr ⟨by have:=h.n1;lia,rfl⟩;obtain⟨p1,p2⟩:=K4 E;have hm:∀f∈bx m (List.replicate n l),Hm m l f:=λf hf=>by
  obtain⟨k1,k2,k3,k4⟩:=p1 f hf;refine⟨k1,k2,k3 l EN,SR λw=>?_⟩;have:f=List.replicate m 0:=iq (by simp[k1]) λi hi=>by
   rw[fu];have:=k2 i ⋯;have:¬0<gI f i:=λz=>w ⟨i,by lia,z⟩
   lia
  rw[this]at k4;simp at k4
 have ap:(bx m (List.replicate n l)).Pairwise λa b=>aS a b=false/\aS b a=false:=p2.imp λz=>z.2
 constructor
 ·intro hx;refine⟨hm x hx,λy hy hu=>?_⟩;obtain⟨g,hg,EL⟩:=Si.mp (h.yC hy);have lg:=(hm g hg).lx;have lx:=(hm x hx).lx;have:=qb ap hg hx (jP (by rw[lg,hy.lx]) (by rw[hy.lx,lx]) EL hu);rw[this]at EL;exact rL (by rw[hy.lx,lx]) hu EL
 ·rintro⟨hx,ES⟩;obtain⟨g,hg,Mt⟩:=Si.mp (h.yC hx);rw[<-ES g (hm g hg) Mt];exact hg
theorem tR(n1:1<=n):fP (List.replicate n l) (List.replicate n ρ) x↔ak l x=ρ:=by
 unfold fP;rw[List.zip_replicate,Nat.min_self];constructor
 ·intro h;exact h (l,ρ) (List.mem_replicate.mpr ⟨by lia,rfl⟩)
 ·intro h q hq;rw[TK hq];exact h
theorem On.A3(h:On m n l ρ):x∈iC m (List.replicate n l) (List.replicate n ρ)↔(x.length=m/\(∀i,i<m->0<=gI x i)/\ak l x=ρ)/\∀y,Hm m l y->aS y x=false:=by
 have E:=h.HW;have E0:=h.G4;have M0:∀f∈bx m (List.replicate n l),f.length=m:=λf hf=>(h.least.mp hf).1.lx
 have key:x.length=m->(bu x (bx m (List.replicate n l))=false↔∀y,Hm m l y->aS y x=false):=λlx=>by
  constructor
  ·intro ho y hy;cases hu:aS y x with
   |false=>rfl
   |true=>rw[zF M0 hy.lx lx (h.yC hy) hu]at ho;cases ho
  ·intro ha;cases ho:bu x (bx m (List.replicate n l)) with
   |false=>rfl
   |true=>obtain⟨f,hf,hu⟩:=Si.mp ho;rw[ha f (h.least.mp hf).1]at hu;cases hu
 rw[zu E,dM E,tR h.n1];constructor
 ·rintro⟨⟨lx,hn,hs,_⟩,ho⟩;exact⟨⟨lx,hn,hs⟩,(key lx).mp ho⟩
 ·rintro⟨⟨lx,hn,hs⟩,ha⟩;refine⟨⟨lx,hn,hs,λk hk=>?_⟩,(key lx).mpr ha⟩;rcases dB (gQ m (List.replicate n l) (List.replicate n ρ)) (gI x k)with hb|hb
  ·obtain⟨y,ly,hy,h1,h2⟩:=h.DP lx hn hs (f7.mp hk).1 hb;have:=ha y ⟨ly,λi hi=>(h1 i hi).1,hy l (by simp),h2⟩;rw[(cK (by rw[ly,lx])).mpr λi hi=>(h1 i ⋯).2.1]at this;cases this
  ·exact hb
theorem On.Gw(h:On m n l ρ):(iC m (List.replicate n l) (List.replicate n ρ)).Pairwise xE:=by
 have nd:(iC m (List.replicate n l) (List.replicate n ρ)).Pairwise (· ≠ ·):=(Al _).nodup_iff.mpr ((Ah h.HW).filter _);have no:∀{c d:List Int},c∈iC m (List.replicate n l) (List.replicate n ρ)->d∈iC m (List.replicate n l) (List.replicate n ρ)->c≠d->aS c d=false:=λ {c d} hc hd dw=>by
  obtain⟨⟨lc,nc,sc⟩,_⟩:=h.A3.mp hc;obtain⟨⟨ld,_,sd⟩,od⟩:=h.A3.mp hd;cases hu:aS c d with
  |false=>rfl
  |true=>
   have hle:=(cK (by rw[lc,ld])).mp hu;have le:(mQ d c).length=m:=by unfold mQ;rw[List.length_zipWith,lc,ld,Nat.min_self]
   have ea:∀i,gI (mQ d c) i=gI d i-gI c i:=λi=>Am (by rw[lc,ld])
   have:=od (mQ d c) ⟨le,λi hi=>by rw[ea];have:=hle i ⋯;lia,by rw[q9 (by rw[lc,ld]),sd,sc];lia,SR λw=>dw (iq (by rw[lc,ld]) λi hi=>by
    have:=hle i hi;have:¬0<gI (mQ d c) i:=λz=>w ⟨i,by lia,z⟩
    rw[ea]at this
    lia)⟩
   rw[(cK (by rw[le,ld])).mpr λi hi=>by rw[ea];have:=nc i ⋯;lia]at this;cases this
 refine List.Pairwise.imp_of_mem (λ {a b} ha hb z=>⟨?_,no ha hb z.2,no hb ha (U2 z.2)⟩) ((iI _).and nd);cases hl:ltI a b with
 |true=>rfl
 |false=>exact absurd (kD (by rw[(h.A3.mp ha).1.1,(h.A3.mp hb).1.1]) hl z.1) z.2
end
noncomputable def U3(a b c:Nat):List Int:=[(a:Int),b,-(c:Int)]
section
variable{a b c:Nat}{r x y z:Int}{v:List Int}
theorem jI:ak (U3 a b c) [x,y,z]=a*x+b*y-c*z:=by
 show (a:Int)*x+(b*y+(-(c:Int)*z+0))=_;rw[Int.neg_mul]
 lia
theorem mv{x' y' z':Int}:aS [x,y,z] [x',y',z']=true↔x<=x'/\y<=y'/\z<=z':=by rw[cg,cg,cg,show aS ([]:List Int) []=true from rfl];simp
theorem B3:(∀i,i<3->0<=gI [x,y,z] i)↔0<=x/\0<=y/\0<=z:=by
 constructor
 ·intro h;exact⟨h 0 (by decide),h 1 (by decide),h 2 (by decide)⟩
 ·rintro⟨h0,h1,h2⟩ i hi;have:i=0\/i=1\/i=2:=⋯
  rcases this with rfl|rfl|rfl<;>assumption
theorem Lb:(∃i,i<3/\0<gI [x,y,z] i)↔0<x\/0<y\/0<z:=by
 constructor
 ·rintro⟨i,hi,h⟩;have:i=0\/i=1\/i=2:=⋯
  rcases this with rfl|rfl|rfl
  ·exact .inl h
  ·exact .inr (.inl h)
  ·exact .inr (.inr h)
 ·rintro(h|h|h)
  ·exact⟨0,by decide,h⟩
  ·exact⟨1,by decide,h⟩
  ·exact⟨2,by decide,h⟩
theorem Dj:Hm 3 (U3 a b c) [x,y,z]↔(0<=x/\0<=y/\0<=z)/\(a:Int)*x+b*y=c*z/\(0<x\/0<y\/0<z):=by
 constructor
 ·intro h;have:=h.s0;rw[jI]at this;exact⟨B3.mp h.nn,by lia,Lb.mp h.ps⟩
 ·rintro⟨h1,h2,h3⟩;exact⟨rfl,B3.mpr h1,by rw[jI];lia,Lb.mpr h3⟩
theorem gG(c1:1<=c):[x,y,z]∈bN a b c↔Hm 3 (U3 a b c) [x,y,z]/\x<=c/\y<=c:=by
 have cp:(0:Int)<c:=⋯
 unfold bN;rw[jd,Dj];constructor
 ·rintro⟨p,q,hp,hq,h⟩;unfold sO at h;split at h
  ·rename_i hc;obtain⟨h1,h2⟩:=hc;cases h;have e:=Int.mul_ediv_add_emod ((a:Int)*p+b*q) c;rw[h2]at e;have n1:(0:Int)<=(a:Int)*p:=S8 ⋯ ⋯;have n2:(0:Int)<=(b:Int)*q:=S8 ⋯ ⋯;exact⟨⟨⟨by lia,by lia,Int.ediv_nonneg ⋯ ⋯⟩,by lia,by lia⟩,by lia,by lia⟩
  ·cases h
 ·rintro⟨⟨⟨h1,h2,h3⟩,h4,h5⟩,hx,hy⟩;have QF:0<x+y:=by
   rcases h5 with h5|h5|h5
   ·lia
   ·lia
   ·have:(0:Int)<c*z:=Int.mul_pos cp h5;refine SR λw=>?_
    have e1:x=0:=⋯
    have e2:y=0:=⋯
    rw[e1,e2,S9,S9]at h4
    lia
  refine⟨x.toNat,y.toNat,by lia,by lia,?_⟩;unfold sO;rw[Int.toNat_of_nonneg h1,Int.toNat_of_nonneg h2,h4,Vl ⟨QF,Int.mul_emod_right _ _⟩,Int.mul_ediv_cancel_left _ ⋯]
theorem oX:∀q∈bN a b c,∃x y z,q=[x,y,z]:=λq hq=>by
 obtain⟨p,k,_,_,h⟩:=jd.mp hq;unfold sO at h;split at h
 ·cases h;exact⟨_,_,_,rfl⟩
 ·cases h
theorem Dd(cp:1<=c)(h1:(c:Int)<=x)(hy:0<=y)(h:(a:Int)*x+b*y=c*z):(a:Int)<=z:=by
 have n1:(a:Int)*c<=a*x:=S6 h1 ⋯;have n2:(0:Int)<=(b:Int)*y:=S8 ⋯ hy;refine Int.le_of_mul_le_mul_left (a:=(c:Int)) ?_ ⋯;rw[S5 (c:Int) a]
 lia
theorem yY(c1:1<=c):Hm 3 (U3 a b c) [(c:Int),0,a]:=Dj.mpr ⟨⟨by lia,by decide,by lia⟩,by rw[S9,Int.add_zero,S5],.inl ⋯⟩
theorem yW(c1:1<=c):Hm 3 (U3 a b c) [0,(c:Int),b]:=Dj.mpr ⟨⟨by decide,by lia,by lia⟩,by rw[S9,Te,S5],.inr (.inl ⋯)⟩
theorem dE(c1:1<=c):v∈aO (bU (bN a b c)) []↔Hm 3 (U3 a b c) v/\∀y,Hm 3 (U3 a b c) y->aS y v=true->y=v:=by
 have pm:∀q,q∈bU (bN a b c)↔q∈bN a b c:=λq=>(cW _).mem_iff
 rw[qO (m:=3) (λq hq=>by obtain⟨x,y,z,rfl⟩:=oX q ((pm q).mp hq);rfl) (cq _)];constructor
 ·rintro⟨h1,h2⟩;have h1:=(pm v).mp h1;obtain⟨x,y,z,rfl⟩:=oX v h1;obtain⟨k1,k2,k3⟩:=(gG c1).mp h1;refine⟨k1,λw hw hu=>h2 w ((pm w).mpr ?_) hu⟩;obtain⟨x',y',z',rfl⟩:=jD hw.lx;obtain⟨u1,u2,_⟩:=mv.mp hu;exact(gG c1).mpr ⟨hw,by lia,by lia⟩
 ·rintro⟨h1,h2⟩;obtain⟨x,y,z,rfl⟩:=jD h1.lx;obtain⟨⟨n1,n2,n3⟩,e,p⟩:=Dj.mp h1;have hx:x<=c:=SR λw=>by
   have:=h2 _ (yY c1) (mv.mpr ⟨by lia,n2,Dd c1 ⋯ n2 e⟩);injection this with e1
   lia
  have hy:y<=c:=SR λw=>by
   have:=h2 _ (yW c1) (mv.mpr ⟨n1,by lia,Dd (a:=b) (b:=a) c1 (x:=y) (y:=x) ⋯ n1 ⋯⟩);injection this with _ e1;injection e1 with e1
   lia
  refine⟨(pm _).mpr ((gG c1).mpr ⟨h1,hx,hy⟩),λw hw hu=>h2 w ?_ hu⟩;have hw:=(pm w).mp hw;obtain⟨x',y',z',rfl⟩:=oX w hw;exact((gG c1).mp hw).1
theorem jc(c1:1<=c):[x,y,z]∈gP a b c r↔((0<=x/\0<=y/\0<=z)/\(a:Int)*x+b*y-r=c*z)/\x<=fE a c r/\y<=fE b c r:=by
 have cp:(0:Int)<c:=⋯
 unfold gP;rw[jd];constructor
 ·rintro⟨p,q,hp,hq,h⟩;unfold AM at h;split at h
  ·rename_i hc;obtain⟨h1,h2⟩:=hc;cases h;have e:=Int.mul_ediv_add_emod ((a:Int)*p+b*q-r) c;rw[h2]at e;exact⟨⟨⟨by lia,by lia,Int.ediv_nonneg h1 ⋯⟩,by lia⟩,by lia,by lia⟩
  ·cases h
 ·rintro⟨⟨⟨h1,h2,h3⟩,h4⟩,hx,hy⟩;refine⟨x.toNat,y.toNat,by lia,by lia,?_⟩;unfold AM;rw[Int.toNat_of_nonneg h1,Int.toNat_of_nonneg h2,h4,Vl ⟨S8 ⋯ h3,Int.mul_emod_right _ _⟩,Int.mul_ediv_cancel_left _ ⋯]
theorem kh:∀q∈gP a b c r,∃x y z,q=[x,y,z]:=λq hq=>by
 obtain⟨p,k,_,_,h⟩:=jd.mp hq;unfold AM at h;split at h
 ·cases h;exact⟨_,_,_,rfl⟩
 ·cases h
theorem le_top(c1:1<=c)(n1:0<=x)(n2:0<=y)(e:(a:Int)*x+b*y-r=c*z)(h0:a=0->x<1)(h1:(c:Int)<=x->z<a):x<=fE a c r:=by
 unfold fE;split
 ·rename_i ha;have:=h0 ha;lia
 ·rename_i ha;by_cases hx:x<=(c:Int)-1
  ·lia
  ·have hz:=h1 ⋯;have n3:(0:Int)<=(b:Int)*y:=S8 ⋯ n2;have n4:(c:Int)*z<=c*((a:Int)-1):=S6 ⋯ ⋯;have:x<=(r+c*((a:Int)-1))/a:=Int.le_ediv_of_mul_le ⋯ (by rw[S5];lia)
   lia
theorem e9(c1:1<=c):v∈aO (bU (gP a b c r)) []↔(v.length=3/\(∀i,i<3->0<=gI v i)/\ak (U3 a b c) v=r)/\∀y,Hm 3 (U3 a b c) y->aS y v=false:=by
 have pm:∀q,q∈bU (gP a b c r)↔q∈gP a b c r:=λq=>(cW _).mem_iff
 rw[qO (m:=3) (λq hq=>by obtain⟨x,y,z,rfl⟩:=kh q ((pm q).mp hq);rfl) (cq _)];constructor
 ·rintro⟨h1,h2⟩;have h1:=(pm v).mp h1;obtain⟨x,y,z,rfl⟩:=kh v h1;obtain⟨⟨⟨n1,n2,n3⟩,e⟩,k2,k3⟩:=(jc c1).mp h1;refine⟨⟨rfl,B3.mpr ⟨n1,n2,n3⟩,by rw[jI];lia⟩,λw hw=>?_⟩;cases hu:aS w [x,y,z] with
  |false=>rfl
  |true=>
   obtain⟨x',y',z',rfl⟩:=jD hw.lx;obtain⟨u1,u2,u3⟩:=mv.mp hu;obtain⟨⟨m1,m2,m3⟩,e',p⟩:=Dj.mp hw;have:=h2 [x-x',y-y',z-z'] ((pm _).mpr ((jc c1).mpr ⟨⟨⟨by lia,by lia,by lia⟩,by rw[Int.mul_sub,Int.mul_sub,Int.mul_sub];lia⟩,by lia,by lia⟩)) (mv.mpr ⟨by lia,by lia,by lia⟩);injection this with e1 e2;injection e2 with e2 e3;injection e3 with e3
   lia
 ·rintro⟨⟨lv,nv,sv⟩,h2⟩;obtain⟨x,y,z,rfl⟩:=jD lv;obtain⟨n1,n2,n3⟩:=B3.mp nv;rw[jI]at sv;have no:∀x' y' z',Hm 3 (U3 a b c) [x',y',z']->¬(x'<=x/\y'<=y/\z'<=z):=λx' y' z' hw k=>by have:=h2 _ hw;rw[mv.mpr k]at this;cases this
  have hx:x<=fE a c r:=le_top (a:=a) (b:=b) c1 n1 n2 (z:=z) ⋯ (λha=>by
   have:=no 1 0 0 (Dj.mpr ⟨by decide,by rw[ha];simp,.inl (by decide)⟩)
   lia) λhc=>by
    have:=no c 0 a (yY c1)
    lia
  have hy:y<=fE b c r:=le_top (a:=b) (b:=a) (x:=y) (y:=x) c1 n2 n1 (z:=z) ⋯ (λha=>by
   have:=no 0 1 0 (Dj.mpr ⟨by decide,by rw[ha];simp,.inr (.inl (by decide))⟩)
   lia) λhc=>by
    have:=no 0 c b (yW c1)
    lia
  refine⟨(pm _).mpr ((jc c1).mpr ⟨⟨⟨n1,n2,n3⟩,by lia⟩,hx,hy⟩),λw hw hu=>?_⟩;have hw:=(pm w).mp hw;obtain⟨x',y',z',rfl⟩:=kh w hw;obtain⟨⟨⟨m1,m2,m3⟩,e'⟩,_,_⟩:=(jc c1).mp hw;obtain⟨u1,u2,u3⟩:=mv.mp hu;refine SR λdw=>?_
  refine no (x-x') (y-y') (z-z') (Dj.mpr ⟨⟨by lia,by lia,by lia⟩,by rw[Int.mul_sub,Int.mul_sub,Int.mul_sub];lia,SR λw=>dw ?_⟩) ⟨by lia,by lia,by lia⟩;rw[show x'=x by lia,show y'=y by lia,show z'=z by lia]
end
noncomputable def Pm(O:List Nat)(v:List Int):List Int:=O.map (gI v)
noncomputable def p6(m:Nat)(l x:List Int):Prop:=Hm m l x/\∀y,Hm m l y->aS y x=true->y=x
noncomputable def p5(m:Nat)(l:List Int)(ρ:Int)(x:List Int):Prop:=(x.length=m/\(∀i,i<m->0<=gI x i)/\ak l x=ρ)/\∀y,Hm m l y->aS y x=false
theorem Nj{a b:List Int}(h:a.Perm b):a.sum=b.sum:=by
 induction h with
 |nil=>rfl
 |cons x _ ih=>rw[UC,UC,ih]
 |swap x y l=>rw[UC,UC,UC,UC];lia
 |trans _ _ h1 h2=>exact h1.trans h2
theorem tL{m:Nat}{u v:List Int}(lu:u.length=m)(lv:v.length=m):ak u v=((List.range m).map λi=>gI u i*gI v i).sum:=by
 unfold ak;congr 1;refine List.ext_getElem (by simp[lu,lv]) λi h1 h2=>?_
 have hi:i<m:=by simpa using h2
 simp[gI,List.getD,R4 (show i<u.length by lia),R4 (show i<v.length by lia)]
section
variable{m:Nat}{O:List Nat}(hO:O.Perm (List.range m)){u v:List Int}
include hO
theorem sY:O.length=m:=by rw[hO.length_eq,T7]
theorem mL{i:Nat}:i∈O↔i<m:=by rw[hO.mem_iff,Sv]
theorem QO:O.Nodup:=hO.nodup_iff.mpr List.nodup_range
theorem g9:(Pm O v).length=m:=by unfold Pm;rw[RI,sY hO]
omit hO in
theorem mE{k:Nat}(hk:k<O.length):gI (Pm O v) k=gI v O[k]:=by unfold Pm;rw[show gI (O.map (gI v)) k=(O.map (gI v))[k]'(by simpa using hk) by unfold gI;rw[TU,R4];rfl,List.getElem_map]
theorem uc(P:Int->Prop):(∀k,k<m->P (gI (Pm O v) k))↔∀i,i<m->P (gI v i):=by
 have ll:=sY hO;constructor
 ·intro h i hi;obtain⟨k,hk,e⟩:=List.mem_iff_getElem.mp ((mL hO).mpr hi);have:=h k ⋯;rwa [mE hk,e]at this
 ·intro h k hk;rw[mE ⋯];exact h _ ((mL hO).mp (T2 _))
theorem vP(lu:u.length=m)(lv:v.length=m):aS (Pm O u) (Pm O v)=aS u v:=by
 have ll:=sY hO;rw[SF,cK (by rw[g9 hO,g9 hO]),cK (by rw[lu,lv]),g9 hO,lu];constructor
 ·intro h i hi;obtain⟨k,hk,e⟩:=List.mem_iff_getElem.mp ((mL hO).mpr hi);have:=h k ⋯;rwa [mE hk,mE hk,e]at this
 ·intro h k hk;rw[mE ⋯,mE ⋯];exact h _ ((mL hO).mp (T2 _))
theorem tK(lu:u.length=m)(lv:v.length=m):ak (Pm O u) (Pm O v)=ak u v:=by rw[tL lu lv];unfold ak Pm;rw[List.zip_map',Uh];exact Nj (hO.map λi=>gI u i*gI v i)
theorem oa{x:List Int}(lx:x.length=m):∃v,v.length=m/\Pm O v=x:=by
 have ll:=sY hO;refine⟨(List.range m).map λi=>gI x (O.idxOf i),by simp,iq (by rw[g9 hO,lx]) λk hk=>?_⟩;rw[g9 hO]at hk;rw[mE ⋯];have hb:O[k]<m:=(mL hO).mp (T2 _);have e:gI ((List.range m).map λi=>gI x (O.idxOf i)) O[k]=gI x (O.idxOf O[k]):=by unfold gI;rw[TU,RW,List.getElem?_range hb];rfl
 rw[e,(QO hO).idxOf_getElem]
theorem uS(lu:u.length=m)(lv:v.length=m)(h:Pm O u=Pm O v):u=v:=by
 have ll:=sY hO;refine iq (by rw[lu,lv]) λi hi=>?_
 obtain⟨k,hk,e⟩:=List.mem_iff_getElem.mp ((mL hO).mpr (by lia:i<m));have h1:=mE (O:=O) (v:=u) hk;have h2:=mE (O:=O) (v:=v) hk;rw[e]at h1 h2;rw[<-h1,<-h2,h]
theorem yX(lu:u.length=m)(lv:v.length=m):Hm m (Pm O u) (Pm O v)↔Hm m u v:=by
 have pos:(∃i,i<m/\0<gI (Pm O v) i)↔∃i,i<m/\0<gI v i:=by
  have:=uc hO (v:=v) (λz=>¬0<z);constructor
  ·rintro⟨i,hi,h⟩;exact SR λw=>this.mpr (λj hj z=>w ⟨j,hj,z⟩) i hi h
  ·rintro⟨i,hi,h⟩;exact SR λw=>this.mp (λj hj z=>w ⟨j,hj,z⟩) i hi h
 constructor
 ·intro h;exact⟨lv,(uc hO (λz=>0<=z)).mp h.nn,by rw[<-tK hO lu lv];exact h.s0,pos.mp h.ps⟩
 ·intro h;exact⟨g9 hO,(uc hO (λz=>0<=z)).mpr h.nn,by rw[tK hO lu lv];exact h.s0,pos.mpr h.ps⟩
theorem qP(lu:u.length=m)(lv:v.length=m):p6 m (Pm O u) (Pm O v)↔p6 m u v:=by
 unfold p6;rw[yX hO lu lv];refine and_congr_right λ_=>?_
 constructor
 ·intro h y hy hu;exact uS hO hy.lx lv (h (Pm O y) ((yX hO lu hy.lx).mpr hy) (by rw[vP hO hy.lx lv];exact hu))
 ·intro h y hy hu;obtain⟨w,lw,rfl⟩:=oa hO hy.lx;rw[h w ((yX hO lu lw).mp hy) (by rw[<-vP hO lw lv];exact hu)]
theorem va{ρ:Int}(lu:u.length=m)(lv:v.length=m):p5 m (Pm O u) ρ (Pm O v)↔p5 m u ρ v:=by
 unfold p5;rw[tK hO lu lv,uc hO (λz=>0<=z),g9 hO,lv];refine and_congr_right λ_=>?_
 constructor
 ·intro h y hy;rw[<-vP hO hy.lx lv];exact h (Pm O y) ((yX hO lu hy.lx).mpr hy)
 ·intro h y hy;obtain⟨w,lw,rfl⟩:=oa hO hy.lx;rw[vP hO lw lv];exact h w ((yX hO lu lw).mp hy)
end
theorem Dv(a b:List Int):Mx.D.lt (dI a) (dI b)=ltI a b:=by unfold dI ltI;rw[Mx.D.lt]
theorem oT{m:Nat}{A B:List (List Int)}(lA:∀q∈A,q.length=m)(hA:A.Pairwise xE)(hB:B.Nodup)(h:∀x,x∈A↔x∈B):A=bH B:=by
 have lB:∀q∈bH B,q.length=m:=λq hq=>lA q ((h q).mpr (c6.mp hq))
 have nB:(bH B).Nodup:=by
  have pm:(bH B).Perm B:=by have:=(bF (B.map dI)).map Rx.rY;rw[Uh,show (Rx.rY ∘ dI)=id from funext gp,List.map_id]at this;exact this
  exact pm.nodup_iff.mpr hB
 have sB:(bH B).Pairwise λa b=>ltI a b=true:=by
  have:=(iI B).and nB;refine List.Pairwise.imp_of_mem (λ {a b} ha hb z=>?_) this;cases e:ltI a b with
  |true=>rfl
  |false=>exact absurd (kD (by rw[lB a ha,lB b hb]) e z.1) z.2
 have key:A.map dI=(bH B).map dI:=md (Uy.mpr (hA.imp λz=>by rw[Dv];exact z.1)) (Uy.mpr (sB.imp λz=>by rw[Dv];exact z)) λx=>by
  rw[Sg,Sg];constructor
  ·rintro⟨q,hq,rfl⟩;exact⟨q,c6.mpr ((h q).mp hq),rfl⟩
  ·rintro⟨q,hq,rfl⟩;exact⟨q,(h q).mpr (c6.mp hq),rfl⟩
 have:=Vh (List.map Rx.rY) key;rw[Uh,Uh,show (Rx.rY ∘ dI)=id from funext gp,List.map_id,List.map_id]at this;exact this
noncomputable def W3(s:Int)(a b c:Nat):List Int:=[s*a,s*b,0-s*c]
section
variable{s:Int}{a b c:Nat}{r x y z w:Int}{v:List Int}
theorem jm:ak (W3 s a b c) [x,y,z]=s*ak (U3 a b c) [x,y,z]:=by
 rw[jI];show s*a*x+(s*b*y+((0-s*c)*z+0))=_
 grind
theorem kG:ak (W3 s a b c++[0]) [x,y,z,w]=s*ak (U3 a b c) [x,y,z]:=by rw[<-jm];show s*a*x+(s*b*y+((0-s*c)*z+(0*w+0)))=s*a*x+(s*b*y+((0-s*c)*z+0));rw[Tf];rfl
theorem pG(hs:s=1\/s= -1){q:Int}:s*q=0↔q=0:=by rcases hs with rfl|rfl<;>lia
theorem s_eq(hs:s=1\/s= -1){p q:Int}:s*q=s*p↔q=p:=by rcases hs with rfl|rfl<;>lia
theorem Dl(hs:s=1\/s= -1):Hm 3 (W3 s a b c) v↔Hm 3 (U3 a b c) v:=by
 constructor
 ·intro h;obtain⟨x,y,z,rfl⟩:=jD h.lx;exact⟨h.lx,h.nn,by have:=h.s0;rwa [jm,pG hs]at this,h.ps⟩
 ·intro h;obtain⟨x,y,z,rfl⟩:=jD h.lx;exact⟨h.lx,h.nn,by rw[jm,pG hs];exact h.s0,h.ps⟩
theorem zw(hs:s=1\/s= -1):p6 3 (W3 s a b c) v↔p6 3 (U3 a b c) v:=by unfold p6;simp only[Dl hs]
theorem zq(hs:s=1\/s= -1):p5 3 (W3 s a b c) (s*r) v↔p5 3 (U3 a b c) r v:=by
 unfold p5;simp only[Dl hs];refine and_congr_left λ_=>?_
 constructor
 ·rintro⟨h1,h2,h3⟩;obtain⟨x,y,z,rfl⟩:=jD h1;rw[jm,s_eq hs]at h3;exact⟨h1,h2,h3⟩
 ·rintro⟨h1,h2,h3⟩;obtain⟨x,y,z,rfl⟩:=jD h1;refine⟨h1,h2,?_⟩;rw[jm,s_eq hs];exact h3
theorem zi{l:List Int}(h:l.length=4):∃a b c d,l=[a,b,c,d]:=by
 match l,h with
 |[a,b,c,d],_=>exact⟨a,b,c,d,rfl⟩
theorem B4:(∀i,i<4->0<=gI [x,y,z,w] i)↔(∀i,i<3->0<=gI [x,y,z] i)/\0<=w:=by
 rw[B3];constructor
 ·intro h;exact⟨⟨h 0 (by decide),h 1 (by decide),h 2 (by decide)⟩,h 3 (by decide)⟩
 ·rintro⟨⟨h0,h1,h2⟩,h3⟩ i hi;have:i=0\/i=1\/i=2\/i=3:=⋯
  rcases this with rfl|rfl|rfl|rfl<;>assumption
theorem Ni:(∃i,i<4/\0<gI [x,y,z,w] i)↔(∃i,i<3/\0<gI [x,y,z] i)\/0<w:=by
 rw[Lb];constructor
 ·rintro⟨i,hi,h⟩;have:i=0\/i=1\/i=2\/i=3:=⋯
  rcases this with rfl|rfl|rfl|rfl
  ·exact .inl (.inl h)
  ·exact .inl (.inr (.inl h))
  ·exact .inl (.inr (.inr h))
  ·exact .inr h
 ·rintro((h|h|h)|h)
  ·exact⟨0,by decide,h⟩
  ·exact⟨1,by decide,h⟩
  ·exact⟨2,by decide,h⟩
  ·exact⟨3,by decide,h⟩
theorem tY{x' y' z' w':Int}:aS [x,y,z,w] [x',y',z',w']=true↔aS [x,y,z] [x',y',z']=true/\w<=w':=by
 rw[mv,cg,cg,cg,cg,show aS ([]:List Int) []=true from rfl];simp;constructor
 ·rintro⟨h1,h2,h3,h4⟩;exact⟨⟨h1,h2,h3⟩,h4⟩
 ·rintro⟨⟨h1,h2,h3⟩,h4⟩;exact⟨h1,h2,h3,h4⟩
theorem Dm(hs:s=1\/s= -1):Hm 4 (W3 s a b c++[0]) [x,y,z,w]↔((∀i,i<3->0<=gI [x,y,z] i)/\ak (U3 a b c) [x,y,z]=0/\0<=w)/\((∃i,i<3/\0<gI [x,y,z] i)\/0<w):=by
 constructor
 ·intro h;have h0:=h.s0;rw[kG,pG hs]at h0;exact⟨⟨(B4.mp h.nn).1,h0,(B4.mp h.nn).2⟩,Ni.mp h.ps⟩
 ·rintro⟨⟨h1,h2,h3⟩,h4⟩;exact⟨rfl,B4.mpr ⟨h1,h3⟩,by rw[kG,pG hs];exact h2,Ni.mpr h4⟩
theorem yZ(hs:s=1\/s= -1):Hm 4 (W3 s a b c++[0]) [0,0,0,1]:=(Dm hs).mpr ⟨⟨B3.mpr (by decide),by rw[jI];simp,by decide⟩,.inr (by decide)⟩
theorem nH(hs:s=1\/s= -1):Hm 4 (W3 s a b c++[0]) [x,y,z,0]↔Hm 3 (U3 a b c) [x,y,z]:=by
 rw[Dm hs];constructor
 ·rintro⟨⟨h1,h2,_⟩,h|h⟩
  ·exact⟨rfl,h1,h2,h⟩
  ·exact absurd h (by decide)
 ·intro h;exact⟨⟨h.nn,h.s0,by decide⟩,.inl h.ps⟩
theorem tm(hs:s=1\/s= -1):p6 4 (W3 s a b c++[0]) v↔(∃q,v=q++[0]/\p6 3 (U3 a b c) q)\/v=[0,0,0,1]:=by
 constructor
 ·rintro⟨h1,h2⟩;obtain⟨x,y,z,w,rfl⟩:=zi h1.lx;obtain⟨n3,w0⟩:=B4.mp h1.nn;by_cases hw:w=0
  ·subst hw;refine .inl ⟨[x,y,z],rfl,(nH hs).mp h1,λq hq hu=>?_⟩;obtain⟨x',y',z',rfl⟩:=jD hq.lx;have:=h2 [x',y',z',0] ((nH hs).mpr hq) (tY.mpr ⟨hu,SY _⟩);injection this with e1 e2;injection e2 with e2 e3;injection e3 with e3;rw[e1,e2,e3]
  ·obtain⟨k1,k2,k3⟩:=B3.mp n3;exact .inr (h2 _ (yZ hs) (tY.mpr ⟨mv.mpr ⟨k1,k2,k3⟩,by lia⟩)).symm
 ·rintro(⟨q,rfl,h1,h2⟩|rfl)
  ·obtain⟨x,y,z,rfl⟩:=jD h1.lx;refine⟨(nH hs).mpr h1,λq hq hu=>?_⟩;obtain⟨x',y',z',w',rfl⟩:=zi hq.lx;obtain⟨u1,u2⟩:=tY.mp (show aS [x',y',z',w'] [x,y,z,0]=true from hu);have hw:w'=0:=by have:=(B4.mp hq.nn).2;lia
   subst hw;have:=h2 _ ((nH hs).mp hq) u1;injection this with e1 e2;injection e2 with e2 e3;injection e3 with e3;rw[e1,e2,e3];rfl
  ·refine⟨yZ hs,λq hq hu=>?_⟩;obtain⟨x',y',z',w',rfl⟩:=zi hq.lx;obtain⟨u1,u2⟩:=tY.mp hu;obtain⟨k1,k2,k3⟩:=mv.mp u1;obtain⟨n1,n2,n3⟩:=B3.mp (B4.mp hq.nn).1;have e1:x'=0:=⋯
   have e2:y'=0:=⋯
   have e3:z'=0:=⋯
   subst e1 e2 e3;have:0<w':=by
    rcases Ni.mp hq.ps with h|h
    ·rcases Lb.mp h with h|h|h<;>exact absurd h (by decide)
    ·exact h
   rw[show w'=1 by lia]
theorem zt(hs:s=1\/s= -1):p5 4 (W3 s a b c++[0]) (s*r) v↔∃q,v=q++[0]/\p5 3 (U3 a b c) r q:=by
 constructor
 ·rintro⟨⟨h1,h2,h3⟩,h4⟩;obtain⟨x,y,z,w,rfl⟩:=zi h1;obtain⟨n3,w0⟩:=B4.mp h2;have hw:w=0:=SR λe=>by obtain⟨k1,k2,k3⟩:=B3.mp n3;have:=h4 _ (yZ hs);rw[tY.mpr ⟨mv.mpr ⟨k1,k2,k3⟩,by lia⟩]at this;cases this
  subst hw;rw[kG,s_eq hs]at h3;refine⟨[x,y,z],rfl,⟨rfl,n3,h3⟩,λq hq=>?_⟩;obtain⟨x',y',z',rfl⟩:=jD hq.lx;cases hu:aS [x',y',z'] [x,y,z] with
  |false=>rfl
  |true=>have:=h4 [x',y',z',0] ((nH hs).mpr hq);rw[tY.mpr ⟨hu,SY _⟩]at this;cases this
 ·rintro⟨q,rfl,⟨h1,h2,h3⟩,h4⟩;obtain⟨x,y,z,rfl⟩:=jD h1;refine⟨⟨rfl,B4.mpr ⟨h2,by decide⟩,?_⟩,λq hq=>?_⟩
  ·show ak (W3 s a b c++[0]) [x,y,z,0]=_;rw[kG,h3]
  obtain⟨x',y',z',w',rfl⟩:=zi hq.lx;cases hu:aS [x',y',z',w'] ([x,y,z]++[0]) with
  |false=>rfl
  |true=>
   obtain⟨u1,u2⟩:=tY.mp (show aS [x',y',z',w'] [x,y,z,0]=true from hu);have hw:w'=0:=by have:=(B4.mp hq.nn).2;lia
   subst hw;have:=h4 _ ((nH hs).mp hq);rw[u1]at this;cases this
end
theorem Oq:xC fs 0 1 2 3 4 5 6 7 8 9 10:=⟨⟨rfl,rfl,rfl,rfl,rfl,rfl,rfl⟩,rfl,rfl,rfl,rfl⟩
theorem DD(l:List Int):pl (tI l)=true/\dp (tI l)<=1:=by
 have:∀l:List Int,mO (l.map Dt.int)=true/\qm (l.map Dt.int)=0:=by
  intro l
  induction l with
  |nil=>exact⟨rfl,rfl⟩
  |cons x l ih=>exact⟨by rw[Sr,mO,ih.1];rfl,by rw[Sr,qm,ih.2];rfl⟩
 exact⟨by unfold tI;rw[pl];exact(this l).1,by unfold tI;rw[dp,(this l).2];lia⟩
theorem JD(M:List (List Int)):pl (lI M)=true/\dp (lI M)<=2:=by
 have:∀M:List (List Int),mO (M.map tI)=true/\qm (M.map tI)<=1:=by
  intro M
  induction M with
  |nil=>exact⟨rfl,by simp[qm]⟩
  |cons x l ih=>exact⟨by rw[Sr,mO,ih.1,(DD x).1];rfl,by rw[Sr,qm];have:=(DD x).2;lia⟩
 exact⟨by unfold lI;rw[pl];exact(this M).1,by unfold lI;rw[dp];have:=(this M).2;lia⟩
theorem HV(M:List (List Int)):dg .Eq (lI M) (lI M)= .ok true/\dg .NotEq (lI M) (lI M)= .ok false:=by
 obtain⟨h1,h2⟩:=JD M;have ok:qo (lI M) (lI M)=true:=by unfold qo;rw[h1,R9 ⋯];rfl
 have e:=gK _ h1;constructor
 ·show ab (qo (lI M) (lI M)) (R.ok (dy (lI M) (lI M)))=_;rw[ok,e];rfl
 ·show ab (qo (lI M) (lI M)) (R.ok (!dy (lI M) (lI M)))=_;rw[ok,e];rfl
theorem me{O:List Nat}(hO:O.Perm (List.range 3)){q:List Int}(lq:q.length=3):gk O q=Pm O q:=by
 unfold gk Pm;refine Ue λi hi=>?_
 exact ir (by rw[lq];exact(mL hO).mp hi)
theorem Ap(O:List Nat)(q:List Int):gk O q=Pm O (q++[0]):=rfl
theorem CI(q:List Int):bH [q]=[q]:=by
 have pm:(bH [q]).Perm [q]:=by have:=(bF ([q].map dI)).map Rx.rY;rw[Uh,show (Rx.rY ∘ dI)=id from funext gp,List.map_id]at this;exact this
 exact List.perm_singleton.mp pm
theorem Gx{B:List (List Int)}(h:B.Nodup):(bH B).Nodup:=by
 have pm:(bH B).Perm B:=by have:=(bF (B.map dI)).map Rx.rY;rw[Uh,show (Rx.rY ∘ dI)=id from funext gp,List.map_id]at this;exact this
 exact pm.nodup_iff.mpr h
theorem kE{Q:List (List Int)}{f:List Int->List Int}(lq:∀q∈Q,q.length=3)(hs:Q.Pairwise (λa b=>a.sum<=b.sum))(hf:∀p q:List Int,p.length=3->q.length=3->f p=f q->p=q):((aO Q []).map f).Nodup:=by
 have ap:=iK (F:=[]) lq (by simp) hs (by simp) List.Pairwise.nil;refine Uy.mpr (List.Pairwise.imp_of_mem (λ {p q} hp hq h e=>?_) ap);have l1:∀z∈aO Q [],z.length=3:=λz hz=>by
  rcases ml hz with h|h
  ·cases h
  ·exact lq z h
 have:=hf p q (l1 p hp) (l1 q hq) e;rw[this,gr]at h;cases h.1
section
variable{a b c n:Nat}{s r:Int}{O:List Nat}
theorem yB:∀q∈bU (bN a b c),q.length=3:=λq hq=>by obtain⟨x,y,z,rfl⟩:=oX q ((cW _).mem_iff.mp hq);rfl
theorem xR:∀q∈bU (gP a b c r),q.length=3:=λq hq=>by obtain⟨x,y,z,rfl⟩:=kh q ((cW _).mem_iff.mp hq);rfl
theorem IS(hO:O.Perm (List.range 3)):∀p q:List Int,p.length=3->q.length=3->gk O p=gk O q->p=q:=λp q lp lq e=>by rw[me hO lp,me hO lq]at e;exact uS hO lp lq e
theorem IT(hO:O.Perm (List.range 4)):∀p q:List Int,p.length=3->q.length=3->gk O p=gk O q->p=q:=λp q lp lq e=>by rw[Ap,Ap]at e;exact List.append_cancel_right (uS hO (by simp[lp]) (by simp[lq]) e)
theorem Fj(hs:s=1\/s= -1)(c1:1<=c)(hO:O.Perm (List.range 3))(h:On 3 n (Pm O (W3 s a b c)) r):bx 3 (List.replicate n (Pm O (W3 s a b c)))=bH ((aO (bU (bN a b c)) []).map (gk O)):=by
 refine oT (m:=3) (λq hq=>(h.least.mp hq).1.lx) (K4 h.G4).2 (kE yB (cq _) (IS hO)) λx=>?_
 rw[h.least,Sg];constructor
 ·intro hx;obtain⟨v,lv,rfl⟩:=oa hO hx.1.lx;have:=(zw hs).mp ((qP hO (u:=W3 s a b c) rfl lv).mp hx);exact⟨v,(dE c1).mpr this,me hO lv⟩
 ·rintro⟨q,hq,rfl⟩;have:=(dE c1).mp hq;rw[me hO this.1.lx];exact(qP hO (u:=W3 s a b c) rfl this.1.lx).mpr ((zw hs).mpr this)
theorem M3(hs:s=1\/s= -1)(c1:1<=c)(hO:O.Perm (List.range 3))(h:On 3 n (Pm O (W3 s a b c)) (s*r)):iC 3 (List.replicate n (Pm O (W3 s a b c))) (List.replicate n (s*r))=bH ((aO (bU (gP a b c r)) []).map (gk O)):=by
 refine oT (m:=3) (λq hq=>(h.A3.mp hq).1.1) h.Gw (kE xR (cq _) (IS hO)) λx=>?_
 rw[h.A3,Sg];constructor
 ·intro hx;obtain⟨v,lv,rfl⟩:=oa hO hx.1.1;have:=(zq hs).mp ((va hO (u:=W3 s a b c) rfl lv).mp hx);exact⟨v,(e9 c1).mpr this,me hO lv⟩
 ·rintro⟨q,hq,rfl⟩;have:=(e9 c1).mp hq;rw[me hO this.1.1];exact(va hO (u:=W3 s a b c) rfl this.1.1).mpr ((zq hs).mpr this)
theorem Fk(hs:s=1\/s= -1)(c1:1<=c)(hO:O.Perm (List.range 4))(h:On 4 n (Pm O (W3 s a b c++[0])) r):bx 4 (List.replicate n (Pm O (W3 s a b c++[0])))=bH (bH ((aO (bU (bN a b c)) []).map (gk O))++[Pm O [0,0,0,1]]):=by
 have nd:=Gx (kE (yB (a:=a) (b:=b) (c:=c)) (cq _) (IT hO));have l3:∀q∈aO (bU (bN a b c)) [],q.length=3:=λq hq=>((dE c1).mp hq).1.lx
 have ne:∀q∈aO (bU (bN a b c)) [],gk O q≠Pm O [0,0,0,1]:=λq hq e=>by have:=uS hO (by simp[l3 q hq]) rfl e;obtain⟨x,y,z,rfl⟩:=jD (l3 q hq);injection this with _ e;injection e with _ e;injection e with _ e;injection e with e;exact absurd e (by decide)
 refine oT (m:=4) (λq hq=>(h.least.mp hq).1.lx) (K4 h.G4).2 ?_ λx=>?_
 ·refine List.nodup_append.mpr ⟨nd,by simp,λp hp q hq e=>?_⟩;rw[Sf]at hq;obtain⟨z,hz,rfl⟩:=Sg.mp (c6.mp hp);exact ne z hz (e.trans hq)
 ·rw[h.least,R0,c6,Sg,Sf];constructor
  ·intro hx;obtain⟨v,lv,rfl⟩:=oa hO hx.1.lx;rcases (tm hs).mp ((qP hO (u:=W3 s a b c++[0]) rfl lv).mp hx)with ⟨q,rfl,hq⟩|rfl
   ·exact .inl ⟨q,(dE c1).mpr hq,rfl⟩
   ·exact .inr rfl
  ·rintro(⟨q,hq,rfl⟩|rfl)
   ·exact(qP hO (u:=W3 s a b c++[0]) rfl (by simp[l3 q hq])).mpr ((tm hs).mpr (.inl ⟨q,rfl,(dE c1).mp hq⟩))
   ·exact(qP hO (u:=W3 s a b c++[0]) rfl rfl).mpr ((tm hs).mpr (.inr rfl))
theorem M4(hs:s=1\/s= -1)(c1:1<=c)(hO:O.Perm (List.range 4))(h:On 4 n (Pm O (W3 s a b c++[0])) (s*r)):iC 4 (List.replicate n (Pm O (W3 s a b c++[0]))) (List.replicate n (s*r))=bH ((aO (bU (gP a b c r)) []).map (gk O)):=by
 have l3:∀q∈aO (bU (gP a b c r)) [],q.length=3:=λq hq=>((e9 c1).mp hq).1.1
 refine oT (m:=4) (λq hq=>(h.A3.mp hq).1.1) h.Gw (kE xR (cq _) (IT hO)) λx=>?_
 rw[h.A3,Sg];constructor
 ·intro hx;obtain⟨v,lv,rfl⟩:=oa hO hx.1.1;obtain⟨q,rfl,hq⟩:=(zt hs).mp ((va hO (u:=W3 s a b c++[0]) rfl lv).mp hx);exact⟨q,(e9 c1).mpr hq,rfl⟩
 ·rintro⟨q,hq,rfl⟩;exact(va hO (u:=W3 s a b c++[0]) rfl (by simp[l3 q hq])).mpr ((zt hs).mpr ⟨q,rfl,(e9 c1).mp hq⟩)
theorem Dy{m:Nat}{u:List Int}{ρ:Int}(hm:m=3\/m=4)(hO:O.Perm (List.range m))(lu:u.length=m)(hb:∀i,i<m->(gI u i).natAbs<=3)(h2:gI u 2≠0)(n1:1<=n)(n3:n<=3)(hr:ρ.natAbs<=20):On m n (Pm O u) ρ:=by
 refine⟨by lia,by lia,n1,by lia,g9 hO,λx hx=>?_,?_,hr⟩
 ·obtain⟨i,hi,rfl⟩:=Sg.mp hx;exact hb i ((mL hO).mp hi)
 ·obtain⟨k,hk,e⟩:=List.mem_iff_getElem.mp ((mL hO).mpr (by lia:2<m));refine⟨k,by rw[sY hO]at hk;exact hk,?_⟩;rw[mE hk,e];exact h2
end
section
variable{ns:List Int}
theorem ce{N:Nat}(hN:1<=N)(k:Nat)(h:k<1000):ax fs N 12 [.dC ns,.int k] none= .ok (.int (eF ns k),none):=uw (fs:=fs) (ic:=12) rfl hN ⋯
theorem z9{N m:Nat}{F:List (List Int)}(hN:3<=N)(hl:∀q∈F,q.length=m)(hn:∀q∈F,∀i,i<m->0<=gI q i)(hs:F.Pairwise xE):ax fs N 24 [lI F,lI F,.int m] none= .ok (.bl true,none):=by have P6:=D7 (iw:=14) (ia:=17) (fs:=fs) rfl rfl (N:=N-1) (m:=m) ⋯ (F:=F) hl hn hs;have he:=(HV F).1;refine aB (body:=LL) rfl ⋯ rfl ?_;show fin (aU (ax fs (N-1)) LL [some (lI F),some (lI F),some (.int m)] none)=_;exact aw (by simp only[RX,P6,he])
theorem rF:∀(Q F:List (List Int)),(aO Q F).length<=Q.length+F.length:=λQ=>by
 induction Q with
 |nil=>intro F;simp[aO]
 |cons q Q ih=>
  intro F;unfold aO;have:=ih (if bu q F=true then F else F++[q]);split at this
  ·rename_i e;rw[Vl e,RU];lia
  ·rename_i e;rw[Vk e,RU];rw[RQ,Ub]at this;lia
theorem vK{a b c:Nat}(c3:c<=3):(aO (bU (bN a b c)) []).length<=16:=by
 have g:=fW (c+1) (c+1) (sO a b c);have g2:(c+1)*(c+1)<=4*4:=UV ⋯ ⋯;have g4:=rF (bU (bN a b c)) [];rw[(cW _).length_eq]at g4;unfold bN at g4 ⊢;simp at g4
 lia
noncomputable def Jc:Nat->Ts->Ts
 |0,t=>t
 |n+1,.cons _ ts=>Jc n ts
 |_+1,.nil=>.nil
theorem CF{F:FT}{l:List Int}{n:Nat}{x0 x1 x2 x3 x4 x5 x6 x7 x10 x11:Option Dt}(n3:n<=3):ev F (.comp [none,none,some 8] (.rng1 (.var 9)) (.nm 1) .nil (.var 2)) [x0,x1,x2,x3,x4,x5,x6,x7,some (tI l),some (.int n),x10,x11] none= .ok (lI (List.replicate n l),none):=by
 have cL:lim=1000000:=rfl;have hc:aQ (aR (.nm 1) (bp F .nil) (bC F (.var 2)) [none,none,some (tI l)]) ((List.range n).map λ(i:Nat)=>Dt.int (0+(i:Int))) none= .ok ((List.range n).map λ_=>tI l,none):=bb λi _=>aX (ρ1:=[none,some (.int (0+(i:Int))),some (tI l)]) rfl rfl rfl
 have:=bf (F:=F) (cap:=[none,none,some 8]) (ρ:=[x0,x1,x2,x3,x4,x5,x6,x7,some (tI l),some (.int n),x10,x11]) (S:=none) (ds:=bh 0 n) (S1:=none) (fw (c:=.var 9) (n:=n) rfl ⋯) (by simp[bh];lia) rfl hc;have e:((List.range n).map λ_=>tI l)=List.replicate n (tI l):=by simp[List.eq_replicate_iff]
 rw[this,e];unfold lI;rw[List.map_replicate]
theorem wW{F:FT}{l:List Int}{n:Nat}{s r:Int}(hs:s.natAbs<2^64){x0 x1 x2 x3 x5 x7 x8 x9 x11:Option Dt}(n3:n<=3):ev F (.comp [none,none,some 4,some 6] (.seq (.var 10)) (.nm 1) .nil (.bin .Mult (.var 3) (.var 2))) [x0,x1,x2,x3,some (.int r),x5,some (.int s),x7,x8,x9,some (lI (List.replicate n l)),x11] none= .ok (.lst ((List.replicate n (s*r)).map Dt.int),none):=by
 have cL:lim=1000000:=rfl;have m1:=aI (i:=s) (j:=r) (.inl hs);have hc:aQ (aR (.nm 1) (bp F .nil) (bC F (.bin .Mult (.var 3) (.var 2))) [none,none,some (.int r),some (.int s)]) ((List.replicate n l).map tI) none= .ok ((List.replicate n l).map λ_=>.int (s*r),none):=bb λq _=>aX (ρ1:=[none,some (tI q),some (.int r),some (.int s)]) rfl (by simp only[RX,m1]) rfl
 have:=bf (F:=F) (cap:=[none,none,some 4,some 6]) (ρ:=[x0,x1,x2,x3,some (.int r),x5,some (.int s),x7,x8,x9,some (lI (List.replicate n l)),x11]) (S:=none) (ds:=(List.replicate n l).map tI) (S1:=none) (dH (c:=.var 10) (d:=lI (List.replicate n l)) rfl rfl) (by rw[RI,T9];lia) rfl hc;rw[this,List.map_replicate,List.map_replicate]
theorem CS{F:FT}{O:List Nat}(hO:O.Perm (List.range 4)){x0 x1 x2 x3 x4 x5 x6 x8 x9 x10 x11:Option Dt}:ev F (.comp [none,none] (.seq (.var 7)) (.nm 1) .nil (.bi .int (.cons (.cmp .Eq (.var 1) (.con (.int 3))) .nil))) [x0,x1,x2,x3,x4,x5,x6,some (eT O),x8,x9,x10,x11] none= .ok (.lst ((Pm O [0,0,0,1]).map Dt.int),none):=by
 have cL:lim=1000000:=rfl;have hc:aQ (aR (.nm 1) (bp F .nil) (bC F (.bi .int (.cons (.cmp .Eq (.var 1) (.con (.int 3))) .nil))) [none,none]) (O.map λ(i:Nat)=>.int i) none= .ok (O.map λi=>.int (gI [0,0,0,1] i),none):=bb λi hi=>by
  have h4:=(mL hO).mp hi;refine aX (ρ1:=[none,some (.int i)]) rfl ?_ rfl;have:i=0\/i=1\/i=2\/i=3:=⋯
  rcases this with rfl|rfl|rfl|rfl<;>rfl
 have:=bf (F:=F) (cap:=[none,none]) (ρ:=[x0,x1,x2,x3,x4,x5,x6,some (eT O),x8,x9,x10,x11]) (S:=none) (ds:=O.map λ(i:Nat)=>.int i) (S1:=none) (dH (c:=.var 7) (d:=eT O) rfl rfl) (by rw[RI,sY hO];lia) rfl hc;rw[this];unfold Pm;rw[Uh];rfl
theorem u4{a b c n m:Nat}{s r:Int}{O:List Nat}{M:List (List Int)}{x8 x9:Option Dt}(ha:a<=3)(hb:b<=3)(c1:1<=c)(c3:c<=3)(hs:s=1\/s= -1)(r1:r.natAbs<=20)(n3:n<=3)(m1:1<=m)(m4:m<=4)(hO:O.Perm (List.range m)){l:List Int}(h:On m n l (s*r))(hM:M=List.replicate n l)(e1:iC m M (List.replicate n (s*r))=bH ((aO (bU (gP a b c r)) []).map (gk O))):
  fin (aU (ax fs 59) (Jc 12 KF) [some (.dC ns),some (.int a),some (.int b),some (.int c),some (.int r),some (.int m),some (.int s),some (eT O),x8,x9,some (lI M),some (lI (bx m M))] none)= .ok (.bl true,none):=by
 have E0:=h.G4;subst hM;obtain⟨p1,p2⟩:=K4 E0;obtain⟨L1,_⟩:=Du Oq (N:=59) (gW.lst (List.replicate n l)) (by decide) E0;obtain⟨L2,_⟩:=Jg Oq (it:=11) (N:=59) rfl (gW.lst (List.replicate n l)) (by decide) h.HW;have s1:=z9 (N:=59) (by decide) (λq hq=>(p1 q hq).1) (λq hq=>(p1 q hq).2.1) p2;have s2:=z9 (N:=59) (m:=m) (F:=iC m (List.replicate n l) (List.replicate n (s*r))) (by decide) (λq hq=>(h.A3.mp hq).1.1) (λq hq=>(h.A3.mp hq).1.2.1) h.Gw;have B1:=El (N:=59) (r:=r) (by decide) ha hb c1 c3 ⋯;have T1:=jO (N:=59) (O:=O) (by decide) hO m1 m4 (Q:=aO (bU (gP a b c r)) []) (λq hq=>((e9 c1).mp hq).1.1) (by
  have t1:=kN (r:=r) ha c3 ⋯;have t2:=kN (r:=r) hb c3 ⋯;have g:=fW (fE a c r+1) (fE b c r+1) (AM a b c r);have g2:(fE a c r+1)*(fE b c r+1)<=41*41:=UV ⋯ ⋯;have g4:=rF (bU (gP a b c r)) [];rw[(cW _).length_eq]at g4;unfold gP at g4 ⊢;simp at g4
  lia)
 rw[<-e1]at T1;refine dY (S1:=none) (by simp only[RX,L1,s1];rfl) ?_;refine aC (d:=lI (iC m (List.replicate n l) (List.replicate n (s*r)))) (S1:=none) (by simp only[RX,B1,T1]) rfl ?_;have R1:=λx11=>wW (F:=ax fs 59) (l:=l) (n:=n) (s:=s) (r:=r) (by rcases hs with rfl|rfl<;>decide) (x0:=some (.dC ns)) (x1:=some (.int a)) (x2:=some (.int b)) (x3:=some (.int c)) (x5:=some (.int m)) (x7:=some (eT O)) (x8:=x8) (x9:=x9) (x11:=x11) n3
 refine aw ?_;have Pj:ax fs 59 11 [lI (List.replicate n l),.int m,.tup ((List.replicate n (s*r)).map Dt.int)] none=_:=L2;simp only[RX];rw[R1];simp only[RX,Pj,s2]
theorem law_true:∀ns:List Int,ns.length<=63->∃S,ax fs 60 25 [.dC ns] none= .ok (.bl true,S):=λns _=>by
 have k0:ax fs 59 12 [.dC ns,.int 0] none=_:=ce (ns:=ns) (N:=59) (by decide) 0 (by decide);have k1:ax fs 59 12 [.dC ns,.int 1] none=_:=ce (ns:=ns) (N:=59) (by decide) 1 (by decide);have k2:ax fs 59 12 [.dC ns,.int 2] none=_:=ce (ns:=ns) (N:=59) (by decide) 2 (by decide);have k3:ax fs 59 12 [.dC ns,.int 3] none=_:=ce (ns:=ns) (N:=59) (by decide) 3 (by decide);generalize eF ns 0=d0 at k0;generalize eF ns 1=d1 at k1;generalize eF ns 2=d2 at k2;generalize eF ns 3=d3 at k3;obtain⟨a,ea,ha⟩:∃a:Nat,d0 % 4=a/\a<=3:=⟨(d0 % 4).toNat,by lia,by lia⟩;obtain⟨b,eb,hb⟩:∃a:Nat,d1 % 4=a/\a<=3:=⟨(d1 % 4).toNat,by lia,by lia⟩;obtain⟨c,ec,c1,c3⟩:∃a:Nat,1+d2 % 3=a/\1<=a/\a<=3:=⟨(1+d2 % 3).toNat,by lia,by lia,by lia⟩;obtain⟨r,er,hr⟩:∃r:Int,d3 % 41-20=r/\r.natAbs<=20:=⟨_,rfl,by lia⟩;have q4:ax fs 59 13 [.dC ns,.int 4,.int 2] none=_:=pk (ns:=ns) (N:=59) (by decide) 4 2 (by decide) (by decide);have q7:ax fs 59 13 [.dC ns,.int 7,.int 2] none=_:=pk (ns:=ns) (N:=59) (by decide) 7 2 (by decide) (by decide);have q8:ax fs 59 13 [.dC ns,.int 8,.int 3] none=_:=pk (ns:=ns) (N:=59) (by decide) 8 3 (by decide) (by decide);have l4:=gg (ns:=ns) (k:=4) (many:=2) (by decide);have l7:=gg (ns:=ns) (k:=7) (many:=2) (by decide);have l8:=gg (ns:=ns) (k:=8) (many:=3) (by decide);generalize gf ns 4 2=p4 at q4 l4;generalize gf ns 7 2=p7 at q7 l7;generalize gf ns 8 3=p8 at q8 l8;obtain⟨m,em,hm⟩:∃m:Nat,(3:Int)+p4=m/\(m=3\/m=4):=⟨3+p4,by lia,by lia⟩;obtain⟨n,en,n1,n3⟩:∃n:Nat,(1:Int)+p8=n/\1<=n/\n<=3:=⟨1+p8,by lia,by lia,by lia⟩;obtain⟨s,es,hs⟩:∃s:Int,(1:Int)-2*p7=s/\(s=1\/s= -1):=⟨_,rfl,by lia⟩;have E2:s.natAbs<2^64:=by rcases hs with rfl|rfl<;>decide
 obtain⟨O,PZ,hO⟩:=zE (ns:=ns) (N:=59) (m:=m) (by decide) hm;have m1:=bT (i:=d0) (j:=4) (by decide);have m2:=bT (i:=d1) (j:=4) (by decide);have m3:=bT (i:=d2) (j:=3) (by decide);have m4:=bT (i:=d3) (j:=41) (by decide);have m5:=aI (i:=2) (j:=(p7:Int)) (.inl (by decide));have m6:=aI (i:=s) (j:=(a:Int)) (.inl E2);have m7:=aI (i:=s) (j:=(b:Int)) (.inl E2);have m8:=aI (i:=s) (j:=(c:Int)) (.inl E2);have T0:=jO (N:=59) (O:=O) (by decide) hO ⋯ ⋯ (Q:=[W3 s a b c]) (λq hq=>by rw[Sf]at hq;rw[hq];rfl) (by simp);rw[List.map_singleton,CI]at T0;have T0:ax fs 59 23 [.lst [.tup [.int (s*a),.int (s*b),.int (0-s*c)]],eT O] none= .ok (lI [gk O (W3 s a b c)],none):=T0;have i0:cT (lI [gk O (W3 s a b c)]) (.int 0)= .ok (tI (gk O (W3 s a b c))):=rfl;have F1:=Bw (N:=59) (by decide) ha hb c1 c3;have T1:=jO (N:=59) (O:=O) (by decide) hO ⋯ ⋯ (Q:=aO (bU (bN a b c)) []) (λq hq=>((dE c1).mp hq).1.lx) (by have:=vK (a:=a) (b:=b) c3;lia);have O5:(s*r).natAbs<=20:=by rw[Ta];rcases hs with rfl|rfl<;>simpa using hr
 have cz:s*(c:Int)≠0:=by rcases hs with rfl|rfl<;>lia
 have sE:∀z:Int,z=s*a\/z=s*b\/z=0-s*c\/z=0->z.natAbs<=3:=λz hz=>by rcases hs with rfl|rfl<;>lia
 refine⟨none,aB (body:=KF) rfl (by decide) rfl ?_⟩;show fin (aU (ax fs 59) KF [some (.dC ns),none,none,none,none,none,none,none,none,none,none,none] none)=_;refine aC (d:=.int a) (S1:=none) (by simp only[RX,k0,m1,ea]) rfl ?_;refine aC (d:=.int b) (S1:=none) (by simp only[RX,k1,m2,eb]) rfl ?_;refine aC (d:=.int c) (S1:=none) (by simp only[RX,k2,m3,ec]) rfl ?_;refine aC (d:=.int r) (S1:=none) (by simp only[RX,k3,m4,er]) rfl ?_;refine aC (d:=.int m) (S1:=none) (by simp only[RX,q4,em]) rfl ?_;refine aC (d:=.int s) (S1:=none) (by simp only[RX,q7,m5,es]) rfl ?_;refine aC (d:=eT O) (S1:=none) (by simp only[RX,PZ]) rfl ?_;refine aC (d:=tI (gk O (W3 s a b c))) (S1:=none) (by simp only[RX,m6,m7,m8,T0,i0]) rfl ?_;refine aC (d:=.int n) (S1:=none) (by simp only[RX,q8,en]) rfl ?_;refine aC (d:=lI (List.replicate n (gk O (W3 s a b c)))) (S1:=none) (CF n3) rfl ?_;refine aC (d:=lI (bH ((aO (bU (bN a b c)) []).map (gk O)))) (S1:=none) (by simp only[RX,F1,T1]) rfl ?_;rcases hm with rfl|rfl
 ·have et:=me hO (q:=W3 s a b c) rfl;have h:On 3 n (Pm O (W3 s a b c)) (s*r):=Dy (.inl rfl) hO rfl (λi hi=>by
   have:i=0\/i=1\/i=2:=⋯
   rcases this with rfl|rfl|rfl
   ·exact sE _ (.inl rfl)
   ·exact sE _ (.inr (.inl rfl))
   ·exact sE _ (.inr (.inr (.inl rfl)))) (show 0-s*(c:Int)≠0 by lia) n1 n3 O5
  have e0:=Fj hs c1 hO h;have e1:=M3 hs c1 hO h;refine dY (S1:=none) (by simp only[RX];rfl) ?_;rw[<-e0,et];exact u4 ha hb c1 c3 hs hr n3 (by decide) (by decide) hO h rfl e1
 ·have h:On 4 n (Pm O (W3 s a b c++[0])) (s*r):=Dy (.inr rfl) hO rfl (λi hi=>by
   have:i=0\/i=1\/i=2\/i=3:=⋯
   rcases this with rfl|rfl|rfl|rfl
   ·exact sE _ (.inl rfl)
   ·exact sE _ (.inr (.inl rfl))
   ·exact sE _ (.inr (.inr (.inl rfl)))
   ·exact sE _ (.inr (.inr (.inr rfl)))) (show 0-s*(c:Int)≠0 by lia) n1 n3 O5
  have e0:=Fk hs c1 hO h;have e1:=M4 hs c1 hO h;rw[Ap];have Un:=λx11=>CS (F:=ax fs 59) hO (x0:=some (.dC ns)) (x1:=some (.int a)) (x2:=some (.int b)) (x3:=some (.int c)) (x4:=some (.int r)) (x5:=some (.int (4:Nat))) (x6:=some (.int s)) (x8:=some (tI (Pm O (W3 s a b c++[0])))) (x9:=some (.int n)) (x10:=some (lI (List.replicate n (Pm O (W3 s a b c++[0]))))) (x11:=x11)
  have lT:∀q∈bH ((aO (bU (bN a b c)) []).map (gk O))++[Pm O [0,0,0,1]],q.length=4:=λq hq=>by
   rcases R0.mp hq with hq|hq
   ·obtain⟨z,_,rfl⟩:=Sg.mp (c6.mp hq);exact g9 hO
   ·rw[Sf]at hq;rw[hq];exact g9 hO
  have tl:=vK (a:=a) (b:=b) c3;have lN:(bH ((aO (bU (bN a b c)) []).map (gk O))++[Pm O [0,0,0,1]]).length<=900000:=by
   rw[RQ,pK,RI,Ub]
   lia
  have sd:=pJ (m:=4) (by decide) lN lT;rw[<-e0]at sd;generalize bH ((aO (bU (bN a b c)) []).map (gk O))=T at sd lN;have cL:lim=1000000:=rfl;have ca:mM .Add (lI T) (.lst [.tup ((Pm O [0,0,0,1]).map Dt.int)])= .ok (lI (T++[Pm O [0,0,0,1]])):=by have:=B8 (a:=T.map tI) (b:=[tI (Pm O [0,0,0,1])]) (by rw[RI,Ub];rw[RQ,Ub]at lN;lia);rw[oB]at this;exact this
  refine jS (S1:=none) (by simp only[RX];rfl) ?_;refine aC (d:=lI (bx 4 (List.replicate n (Pm O (W3 s a b c++[0]))))) (S1:=none) (by simp only[RX];erw [Un];simp only[RX,ca,sd]) rfl ?_;exact u4 ha hb c1 c3 hs hr n3 (by decide) (by decide) hO h rfl e1
end
end K25
end
section
namespace PySem.W.Fast
theorem tw6454014920095896819:True:=⟨⟩
theorem tw14561929113722053809:True:=⟨⟩
theorem tw7669683684676391573:True:=⟨⟩
theorem tw13285601041313247502:True:=⟨⟩
theorem tw11001748744162644339:True:=⟨⟩
theorem tw10206033030133153807:True:=⟨⟩
theorem tw6023630672403750427:True:=⟨⟩
theorem tw2397303169321417576:True:=⟨⟩
theorem tw10754111426849001955:True:=⟨⟩
theorem tw5926607207904847724:True:=⟨⟩
theorem tw8804347671236502049:True:=⟨⟩
theorem tw15153756843682315658:True:=⟨⟩
theorem tw6342979891523359935:True:=⟨⟩
theorem tw1923533828864393557:True:=⟨⟩
theorem tw11555682971375378055:True:=⟨⟩
theorem tw13847637930628869149:True:=⟨⟩
theorem tw2742454620354733302:True:=⟨⟩
theorem tw7199939521242830781:True:=⟨⟩
theorem tw17694632861829846151:True:=⟨⟩
theorem tw13459276063807617571:True:=⟨⟩
theorem tw8903989777640036430:True:=⟨⟩
theorem tw7773508975906784703:True:=⟨⟩
theorem tw8240093451919603977:True:=⟨⟩
theorem tw1394606720843399861:True:=⟨⟩
theorem tw6436768264334293042:True:=⟨⟩
theorem tw10644728205195386076:True:=⟨⟩
theorem tw2369052294911856692:True:=⟨⟩
theorem tw4082652705085606551:True:=⟨⟩
theorem tw8054900433382211159:True:=⟨⟩
theorem tw6089772968279714852:True:=⟨⟩
theorem tw1158413441276572074:True:=⟨⟩
theorem tw12213407598384614139:True:=⟨⟩
theorem tw13651985456670129699:True:=⟨⟩
theorem tw11311704508070845912:True:=⟨⟩
theorem tw16082787038172199230:True:=⟨⟩
theorem tw5938535702836289668:True:=⟨⟩
theorem tw4189056566759877227:True:=⟨⟩
theorem tw123507879057410269:True:=⟨⟩
theorem tw5446955624593478124:True:=⟨⟩
theorem tw9769576365879385456:True:=⟨⟩
theorem tw15317122667110080798:True:=⟨⟩
theorem tw12352404224746094180:True:=⟨⟩
theorem tw15565813336745272799:True:=⟨⟩
theorem tw5195774453022184873:True:=⟨⟩
theorem tw4660241311201473269:True:=⟨⟩
theorem tw15088367016340636261:True:=⟨⟩
theorem tw18253815001553884441:True:=⟨⟩
theorem tw3814442922297472070:True:=⟨⟩
theorem tw9941894283522027714:True:=⟨⟩
theorem tw4917875855009801792:True:=⟨⟩
theorem tw14941111117672344602:True:=⟨⟩
theorem tw16976168974534911571:True:=⟨⟩
theorem tw4599848667025714031:True:=⟨⟩
theorem tw3112898150942151547:True:=⟨⟩
theorem tw12831907947715401909:True:=⟨⟩
theorem tw13589511406424414298:True:=⟨⟩
theorem tw18310037555423960506:True:=⟨⟩
theorem tw6955459146506130092:True:=⟨⟩
theorem tw10723615986658338756:True:=⟨⟩
theorem tw10910822864916666479:True:=⟨⟩
theorem tw4438786342997481086:True:=⟨⟩
theorem tw16795768201674437574:True:=⟨⟩
theorem tw12352846498322460452:True:=⟨⟩
theorem tw15206286781311938525:True:=⟨⟩
theorem tw5360029908709145972:True:=⟨⟩
theorem tw6218087197609149512:True:=⟨⟩
theorem tw5302529706497755014:True:=⟨⟩
theorem tw6103031303940764672:True:=⟨⟩
theorem tw17952627852070396998:True:=⟨⟩
theorem tw1919462765934744877:True:=⟨⟩
theorem tw15555410733451603999:True:=⟨⟩
theorem tw9601729258991600067:True:=⟨⟩
theorem tw17897993348293885680:True:=⟨⟩
theorem tw8210012279066622631:True:=⟨⟩
theorem tw735757594498329946:True:=⟨⟩
theorem tw6579631676512531630:True:=⟨⟩
theorem tw6453291176286946474:True:=⟨⟩
theorem tw2657272962281737120:True:=⟨⟩
theorem tw2106831018925315594:True:=⟨⟩
theorem tw10789963912587160133:True:=⟨⟩
end PySem.W.Fast
open PySem PySem.W PyProof.Rows Rx
set_option maxHeartbeats 0 in
theorem PySem.Challenge.cw_mixform_k25_one_equation_holds : PySem.Challenge.rw_mixform_k25_one_equation.Holds := by
 w_on;o_law;k_head;(case hw=>w_witness2)
 k_fill
 refine walkR (k:=60) (l:=PySem.Challenge.rw_mixform_k25_one_equation) rfl rfl ⟨rfl,by decide,by decide⟩ (λw h Y=>kIn_of Y) ?F
 case F=>
  intro w mg fa h KX G hmg;refine law_mk (rs:=K25.rows) (cons:=K25.cons) (bls:=K25.bls) (xs:=K25.xs) (L:=25) (n:=59) KX G hmg rfl K25.hok K25.hfs (λs v _ _ _ _ _ _=>.of_eq rfl) K25.law_true ?B ?C ?D ?E
  case B=>exact⟨by k_is,by k_is,by k_is,by k_is,by k_is,by k_is,by k_is,by k_is,by k_is,by k_is,by k_is,by k_is,by k_is,by k_is,trivial⟩
  case C=>exact⟨⟨_,by k_is,rfl,by first|rfl|exact⟨_,rfl⟩⟩,⟨_,by k_is,rfl,by first|rfl|exact⟨_,rfl⟩⟩,⟨_,by k_is,rfl,by first|rfl|exact⟨_,rfl⟩⟩,⟨_,by k_is,rfl,by first|rfl|exact⟨_,rfl⟩⟩,trivial⟩
  case D=>
   refine⟨?_,?_,?_,?_,?_,?_,?_,?_,?_,?_,?_,?_,?_,?_,?_,?_,?_,?_,?_,?_,?_,?_,?_,?_,?_,?_,trivial⟩
   all_goals exact⟨_,_,_,_,_,_,_,_,_,_,_,by k_is,by k_is,by k_is,by k_is,λ_=>rfl,binds0 (by repeat first|exact len0 rfl|refine lenS λ_=>?_)⟩
  case E=>exact rfl
#print axioms PySem.Challenge.cw_mixform_k25_one_equation_holds
end