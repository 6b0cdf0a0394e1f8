import PyProof.Rows.All
import Wide.All
import OpenK.AllK
import Wide.FinOn
import Lean
import PyProof.EqAt
import PyProof.EqKinds
import PyProof.TupleCall
import PyProof.NeKinds
import PyProof.FactsAll.tuple_2
import PyProof.WalksMore
import PyProof.AttrMissHeap
import KE.KDictOf
import PyProof.ExcBaseAll.ValueError
import KE.KTryMore
import PyProof.Rows.CallKwBuiltin
import PySem.Challenge.RW_mixform_k24_least_for_a_right
set_option Elab.async false
set_option linter.all false
set_option maxRecDepth 100000
set_option maxHeartbeats 4000000
set_option bootstrap.genMatcherCode false
local macro_rules|`(⋯)=>`(by lia)
section
open PySem PySem.W PySem.Spec PyProof.Rows
def PY:=@wpAny_bind
def PZ:=@Option.bind_eq_some_iff
def P0:=@Heap.get?_push_of_some
def P4:=@wpAny_pure
def P5:=@Bool.and_eq_true
def P6:=@List.size_toArray
def P7:=@of_decide_eq_true
def P8:=@List.getElem?_eq_some_iff
def P9:=@List.mem_cons_of_mem
def Qa:=@kasC_bind
def Qb:=@Nat.le_refl
def Qc:=@List.mem_cons_self
def Qd:=@Heap.get?_push_size
def Qe:=@kasC_pure
def Qf:=@List.length_map
def Qg:=@Heap.lt_size
def Qh:=@Nat.le_trans
def Qi:=@List.mem_cons
def Qj:=@List.not_mem_nil
def Qk:=@List.append_assoc
def Ql:=@Option.map_eq_some_iff
def Qm:=@List.length_append
def Qn:=@List.getElem?_set_ne
def Qo:=@List.length_cons
def Qp:=@List.getElem?_map
def Qq:=@Array.length_toList
def Qr:=@Nat.lt_of_lt_of_le
def Qs:=@List.mem_append
def Qt:=@eq_of_beq
def Qu:=@List.getElem?_eq_getElem
def Qv:=@decide_eq_false
def Qw:=@List.lookup_cons
def Qx:=@KeyOrd.kle_trans
def Qy:=@Heap.get?_update_other
def Qz:=@decide_eq_true
def QA:=@Heap.size_push
def QB:=@Nat.ne_of_lt
def QC:=@List.mem_append_right
def QD:=@wpAny_setField_rec
def QE:=@List.mem_singleton
def QF:=@List.mem_map
def QG:=@List.all_eq_true
def QH:=@List.any_eq_true
def QI:=@Int.emod_nonneg
def QJ:=@Int.emod_lt_of_pos
def QK:=@List.append_nil
def QL:=@Bool.or_eq_true
def QM:=@List.getElem?_append_left
def QN:=@List.getElem?_append_right
def QO:=@List.map_cons
def QP:=@List.map_append
def QQ:=@List.getElem?_set_self
def QR:=@List.mem_range
def QS:=@Array.eq_empty_of_size_eq_zero
def QT:=@Array.getD_eq_getD_getElem?
def QU:=@Array.toList_append
def QV:=@Array.toList_extract
def QW:=@Array.toList_inj
def QX:=@Array.toList_reverse
def QY:=@Bool.and_false
def QZ:=@Bool.and_true
def Q0:=@Bool.eq_iff_iff
def Q1:=@Bool.false_eq_true
def Q2:=@Bool.false_ne_true
def Q3:=@Bool.not_eq_true'
def Q4:=@Bool.not_true
def Q5:=@Bool.or_eq_true_iff
def Q6:=@Bool.or_true
def Q7:=@Classical.byContradiction
def Q8:=@F.args_tuple_iterator_next_1
def Q9:=@F.entry_tuple_iterator_next
def Ra:=@F.slot_tuple_iterator_next
def Rb:=@F.slot_zip_next
def Rc:=@Int.le_refl
def Re:=@Int.lt_or_gt_of_ne
def Rf:=@Int.mul_assoc
def Rg:=@Int.mul_comm
def Rh:=@Int.mul_le_mul_of_nonneg_left
def Ri:=@Int.mul_le_mul_of_nonneg_right
def Rj:=@Int.mul_nonneg
def Rk:=@Int.mul_zero
def Rl:=@Int.natAbs_mul
def Rm:=@Int.natCast_add
def Ro:=@Int.natCast_mul
def Rp:=@Int.sub_self
def Rq:=@Int.sub_zero
def Rr:=@Int.toNat_natCast
def Rt:=@Int.zero_add
def Rv:=@Int.zero_mul
def Rw:=@KeyOrd.kle_of_klt
def Ry:=@KeyOrd.kle_refl
def Rz:=@KeyOrd.klt_of_kle_of_klt
def RA:=@KeyOrd.klt_of_klt_of_kle
def RB:=@List.Perm.append_left
def RC:=@List.Perm.refl
def RD:=@List.all_cons
def RE:=@List.any_eq_false
def RF:=@List.any_map
def RG:=@List.cons.injEq
def RH:=@List.cons_append
def RI:=@List.dropLast_concat_getLast
def RJ:=@List.drop_eq_getElem_cons
def RK:=@List.drop_of_length_le
def RL:=@List.drop_sublist
def RM:=@List.drop_succ_cons
def RN:=@List.drop_zero
def RP:=@List.eq_nil_of_length_eq_zero
def RQ:=@List.eq_of_mem_replicate
def RT:=@List.exists_mem_of_ne_nil
def RU:=@List.filterMap_cons
def RW:=@List.flatMap_cons
def RY:=@List.flatten_cons
def RZ:=@List.forIn_cons
def R0:=@List.getD_eq_getElem?_getD
def R1:=@List.getElem?_cons_zero
def R3:=@List.getElem?_replicate
def R4:=@List.getElem?_set
def R5:=@List.getElem?_take_of_lt
def R6:=@List.getElem_mem
def R7:=@List.getElem_of_mem
def R8:=@List.getElem_toArray
def R9:=@List.length_drop
def Sa:=@List.length_nil
def Sb:=@List.length_range
def Sd:=@List.length_range'
def Se:=@List.length_replicate
def Sf:=@List.length_set
def Sg:=@List.length_singleton
def Sh:=@List.length_take
def Si:=@List.length_zip
def Sj:=@List.map_congr_left
def Sk:=@List.map_flatMap
def Sl:=@List.map_map
def Sm:=@List.map_nil
def Sn:=@List.mem_append_left
def So:=@List.mem_filter
def Sr:=@List.mem_filterMap
def Ss:=@List.mem_flatMap
def Su:=@List.mem_iff_getElem?
def Sv:=@List.mem_of_getElem?
def Sw:=@List.mem_of_mem_take
def Sy:=@List.nil_append
def Sz:=@List.nodup_cons
def SA:=@List.of_mem_zip
def SB:=@List.pairwise_append
def SC:=@List.pairwise_cons
def SD:=@List.pairwise_iff_getElem
def SE:=@List.pairwise_map
def SF:=@List.perm_append_comm
def SG:=@List.replicate_succ
def SJ:=@List.set_eq_take_append_cons_drop
def SL:=@List.sum_cons
def SM:=@List.take_add_one
def SN:=@List.take_append_drop
def SQ:=@List.take_length
def SR:=@List.take_of_length_le
def SU:=@List.take_sublist
def SV:=@List.take_succ_cons
def SW:=@List.take_zero
def SX:=@List.zipIdx_cons
def SY:=@List.zip_cons_cons
def SZ:=@List.zip_nil_left
def S4:=@List.zip_nil_right
def S5:=@Nat.le_mul_of_pos_left
def S6:=@Nat.le_of_lt
def S7:=@Nat.le_succ
def S8:=@Nat.lt_irrefl
def S9:=@Nat.lt_of_le_of_lt
def Ta:=@Nat.lt_succ_of_lt
def Tb:=@Nat.lt_succ_self
def Tc:=@Nat.mul_le_mul
def Td:=@Nat.mul_le_mul_right
def Te:=@Nat.ne_of_gt
def Tf:=@Nat.sub_self
def Th:=@Nat.succ_mul
def Ti:=@Nat.zero_add
def Tj:=@Nat.zero_le
def Tn:=@Ne.symm
def To:=@Option.some.inj
def Tp:=@PyProof.Rows.callWith_type1
def Tq:=@PyProof.Rows.slot_tuple_getitem
def Tr:=@PySem.F.args_tuple_add_2
def Tt:=@PySem.F.entry_tuple_add
def Tu:=@PySem.F.slot_tuple_add
def Tv:=@PySem.F.slot_tuple_mul
def Tw:=@PySem.W.cellsFrom_some
def Tx:=@PySem.W.kia_one
def Tz:=@PySem.mem_of_lookup
def TC:=@beq_eq_false_iff_ne
def TF:=@beq_self_eq_true
def TH:=@call_meets
def TJ:=@congrArg
def TK:=@decide_eq_true_eq
def TL:=@if_false
def TM:=@if_neg
def TN:=@if_pos
def TQ:=@if_true
def TR:=@kasC_get
def TU:=@kasC_lift
def TV:=@kasC_modify
def TX:=@kasC_range
def TY:=@noFill_tuple_add
def TZ:=@of_decide_eq_false
def T2:=@or_false
def T3:=@pushCells_keeps
def T4:=@sizeLine_eq
def T5:=@wpAny_Call_Name_kw
def T6:=@wpAny_callSpecial?_slot
def T7:=@wpAny_call_entry
def T8:=@wpAny_field
def T9:=@wpAny_holding
def Ua:=@wpAny_mono
def Ub:=@wpAny_newObj_type
def Uc:=@wpAny_onRaise
def Ud:=@wpAny_passesOwn
def Ue:=@wpAny_pyIter_list
def Ug:=@wpAny_pyIter_tuple
def Uh:=@wpAny_rule
def Ui:=@wpAny_seqItems
def Uj:=@wpAny_standAt
def Uk:=@wpAny_truthy_bool
def Ul:=@wpAny_typeOf
def Um:=@wpAny_updateSeq_pair
end
section
namespace L2
open PySem PySem.Spec PyProof.Rows
noncomputable abbrev Key:=Sum Int Str
noncomputable def B8:Key->Value->Bool
 |.inl k,v=>Value.isInt k v
 |.inr x,v=>Value.isStrOf x v
noncomputable def Lw(w:World):Key->Int
 |.inl k=>hashInt k
 |.inr x=>hashStr w x
theorem bw:∀{k:Key}{v:Value},B8 k v=true->(∃i t,k=Sum.inl i/\v=Value.int i t)\/(∃x t,k=Sum.inr x/\v=Value.str x t)
 |.inl i,v,h=>by obtain⟨t,e⟩:=Value.isInt_shape (k:=i) (v:=v) h;exact .inl ⟨i,t,rfl,e⟩
 |.inr x,v,h=>by obtain⟨t,e⟩:=Value.isStrOf_shape (x:=x) (v:=v) h;exact .inr ⟨x,t,rfl,e⟩
theorem DK(a b:Int):decide ((Sum.inl a:Key)=Sum.inl b)=(a==b):=by
 by_cases e:a=b
 ·subst e;simp
 ·have h:¬(Sum.inl a:Key)=Sum.inl b:=λq=>e (Sum.inl.inj q)
  rw[Qv h];exact(TC.mpr e).symm
theorem DN(a b:Str):decide ((Sum.inr a:Key)=Sum.inr b)=decide (a=b):=by
 by_cases e:a=b
 ·subst e;simp
 ·have h:¬(Sum.inr a:Key)=Sum.inr b:=λq=>e (Sum.inr.inj q)
  rw[Qv h,Qv e]
theorem DL(a:Int)(b:Str):decide ((Sum.inl a:Key)=Sum.inr b)=false:=Qv (λq=>nomatch q)
theorem DM(a:Str)(b:Int):decide ((Sum.inr a:Key)=Sum.inl b)=false:=Qv (λq=>nomatch q)
noncomputable def oz(prog:Program)(w:World):PySem.KeyKind prog w Key where
 is:=B8
 hash:=Lw w
 inj:=λv a b ha hb=>by
  rcases bw ha with ⟨i,t,rfl,rfl⟩|⟨x,t,rfl,rfl⟩
  ·rcases bw hb with ⟨j,u,rfl,e⟩|⟨y,u,rfl,e⟩
   ·injection e with e1 _;rw[e1]
   ·exact nomatch e
  ·rcases bw hb with ⟨j,u,rfl,e⟩|⟨y,u,rfl,e⟩
   ·exact nomatch e
   ·injection e with e1 _;rw[e1]
 byValue:=λk v h=>by rcases bw h with ⟨i,t,rfl,rfl⟩|⟨x,t,rfl,rfl⟩<;>rfl
 pyHash:=λhv h=>by
  rcases bw hv with ⟨i,t,rfl,rfl⟩|⟨x,t,rfl,rfl⟩
  ·exact wpAny_pyHash_int h
  ·exact wpAny_pyHash_str h
 eqBool:=λhu hv h=>by
  rcases bw hu with ⟨i,t,rfl,rfl⟩|⟨x,t,rfl,rfl⟩
  ·rcases bw hv with ⟨j,u,rfl,rfl⟩|⟨y,u,rfl,rfl⟩
   ·rw[DK]at h;exact wpAny_eqBool_int h
   ·rw[DL]at h;exact SeqAt.EqAt.int_str i t y u _ _ _ _ h
  ·rcases bw hv with ⟨j,u,rfl,rfl⟩|⟨y,u,rfl,rfl⟩
   ·rw[DM]at h;exact SeqAt.EqAt.str_int x t j u _ _ _ _ h
   ·rw[DN]at h;exact wpAny_eqBool_str h
 «strs»:=λk x t v h=>by
  rcases bw h with ⟨i,u,rfl,e⟩|⟨y,u,rfl,e⟩
  ·exact nomatch e
  ·injection e with e1 _;subst e1;cases v<;>rfl
end L2
namespace L2
open PySem PySem.Spec PyProof.Rows
inductive V where
 |aW|bl (b:Bool)|int (i:Int)|str (x:Str)|C2 (b:Array UInt8)|zF (b:UInt64)|ref (a:Addr)|ty (n:String)
 deriving DecidableEq
noncomputable def RelV:V->Value->Prop
 |.aW,u=>u=Value.none
 |.bl b,u=>u=Value.bool b
 |.int i,u=>∃t,u=Value.int i t
 |.str x,u=>∃t,u=Value.str x t
 |.C2 b,u=>∃t,u=Value.bytes b t
 |.zF b,u=>∃t,u=Value.float b t
 |.ref a,u=>u=Value.ref a
 |.ty n,u=>u=Value.type n
noncomputable abbrev au:List V->List Value->Prop:=Paired RelV
theorem au.length{xs:List V}{us:List Value}(r:au xs us):xs.length=us.length:=Paired.length r
theorem au.get:∀{xs:List V}{us:List Value}{i:Nat}{x:V},au xs us->xs[i]?=some x->∃u,us[i]?=some u/\RelV x u
 |_,_,_,_,.nil,e=>by simp at e
 |_,_,0,_,.cons r _,e=>by simp at e;subst e;exact⟨_,rfl,r⟩
 |_,_,i+1,x,.cons _ t,e=>by obtain⟨u,h1,h2⟩:=au.get (i:=i) (x:=x) t (by simpa using e);exact⟨u,by simpa using h1,h2⟩
theorem au.set{x:V}{u:Value}(r:RelV x u):∀{xs:List V}{us:List Value}(i:Nat),au xs us->au (xs.set i x) (us.set i u)
 |_,_,_,.nil=>.nil
 |_,_,0,.cons _ t=>.cons r t
 |_,_,i+1,.cons q t=>.cons q (au.set r i t)
theorem au.append:∀{xs ys:List V}{us ws:List Value},au xs us->au ys ws->au (xs++ys) (us++ws)
 |_,_,_,_,.nil,s=>s
 |_,_,_,_,.cons r t,s=>.cons r (au.append t s)
theorem au.take:∀{xs:List V}{us:List Value}(n:Nat),au xs us->au (xs.take n) (us.take n)
 |_,_,0,_=>.nil
 |_,_,_+1,.nil=>.nil
 |_,_,n+1,.cons r t=>.cons r (au.take n t)
theorem au.drop:∀{xs:List V}{us:List Value}(n:Nat),au xs us->au (xs.drop n) (us.drop n)
 |_,_,0,r=>r
 |_,_,_+1,.nil=>.nil
 |_,_,n+1,.cons _ t=>au.drop n t
noncomputable def CJ:Option V->Option Value->Prop
 |some v,some u=>RelV v u
 |none,none=>True
 |_,_=>False
noncomputable def KV{κ:Type}:List (κ×V)->List (κ×Value)->Prop:=Paired λ(p:κ×V)(q:κ×Value)=>p.1=q.1/\RelV p.2 q.2
noncomputable def kV:Key->V
 |.inl i=>.int i
 |.inr x=>.str x
inductive HO where
 |lst (xs:List V)
 |tup (xs:List V)
 |dK (cY:List (Key×V))|dT (cY:List (List Key×V))
 |set (S:Int->Bool) (n:Nat)
 |ins (C dx:Addr) (fs:List (Str×V))
 |own (x:Addr)
 |xd (fs:List (Str×V))
 |met (f x:Addr)
 |L6 (lo hi:Int)
 |tO (o:Obj) (u:HO)
 |zP (ps:Array Value)
 |ext (φ:Heap->Prop)
noncomputable abbrev Hp:=Addr->Option HO
noncomputable def upd(H:Hp)(a:Addr)(o:HO):Hp:=λb=>if b=a then some o else H b
theorem aQ{H:Hp}{a:Addr}{o:HO}:upd H a o a=some o:=by unfold upd;rw[TN rfl]
theorem aJ{H:Hp}{a b:Addr}{o:HO}(h:b≠a):upd H a o b=H b:=by unfold upd;rw[TM h]
theorem bg{H:Hp}{a b:Addr}{o:HO}(h:H a=some o)(h':H b=none):a≠b:=by intro e;subst e;rw[h]at h';cases h'
noncomputable def lT(h:Heap)(a:Addr)(items:Array Value):Prop:=∃o,h.get? a=some o/\o.cls= .type "tuple"/\∃n,o.data= .seq items n/\o.dict=none/\o.slots=#[]
theorem lT.is{h:Heap}{a:Addr}{items:Array Value}:lT h a items->IsTup h a items
 |⟨o,a,b,n,c,_⟩=>⟨o,a,b,n,c⟩
theorem lT.new(h:Heap)(items:Array Value):lT (h.push {cls:=.type "tuple",data:=.seq items}) h.objs.size items:=⟨_,Qd _ rfl,rfl,_,rfl,rfl,rfl⟩
section
variable(P:Program)(w:World)
noncomputable def bM(H:Hp)(h:Heap)(a:Addr):HO->Prop
 |.lst xs=>xs.length<=sizeLine/\∃(its:List Value)(n:Nat),au xs its/\h.get? a=some {cls:=.type "list",data:=.seq its.toArray n}
 |.tup xs=>xs.length<=sizeLine/\∃its:List Value,au xs its/\lT h a its.toArray
 |.dK cY=>cY.length<=sizeLine/\(a==sysModules)=false/\∃vs,KV cY vs/\h.DictOf (oz P w) a vs
 |.dT cY=>cY.length<=sizeLine/\(a==sysModules)=false/\∃xs:List (List Key×Addr×Value),
   Paired (λ(p:List Key×V)(q:List Key×Addr×Value)=>p.1=q.1/\H q.2.1=some (.tup (p.1.map kV))/\RelV p.2 q.2.2) cY xs/\
   ∃o es ep,h.get? a=some o/\o.ExactDict/\o.data= .dict es ep/\es.toList=xs.map (entryOfKey (tupleKind (oz P w)))/\(xs.map (·.1)).Nodup
 |.set S n=>h.SetOf (intKind P w) a S n
 |.ins C dx fs=>H dx=some (.own a)/\fs.length<=1000/\dx≠a/\h.get? a=some (PySem.W.instObj C dx)/\
   ∃mA,h.Ns1 dx mA/\(∀f,CJ (fs.lookup f) (mA f))/\PySem.Within mA (fs.map (·.1))
 |.own _=>∃o,h.get? a=some o
 |.xd fs=>∃mA,h.Ns1 a mA/\∀f,CJ (fs.lookup f) (mA f)
 |.L6 lo hi=>∃t u v,h.get? a=some {cls:=.type "range",data:=.fields #[.int lo t,.int hi u,.int 1 v]}
 |.tO o u=>h.get? a=some o/\bM H h a u
 |.zP ps=>h.get? a=some {cls:=.none,data:=.fields ps}
 |.met f x=>h.get? a=some (PySem.W.methodObj (.ref f) (.ref x))
 |.ext φ=>φ h/\(∃o,h.get? a=some o)/\∀h1 h2:Heap,φ h1->(∀o,h1.get? a=some o->h2.get? a=some o)->φ h2
noncomputable def fv(H:Hp)(h:Heap):Prop:=∀a o,H a=some o->bM P w H h a o
end
section
variable{P:Program}{w:World}{H H':Hp}{h h':Heap}{a:Addr}{o:HO}
theorem bM.lt(x:bM P w H h a o):a<h.objs.size:=by
 cases o with
 |lst xs=>obtain⟨_,_,_,_,e⟩:=x;exact Qg e
 |tup xs=>obtain⟨_,_,_,p⟩:=x;exact p.is.lt
 |dK cY=>obtain⟨_,_,_,_,o,_,_,e,_⟩:=x;exact Qg e
 |dT cY=>obtain⟨_,_,_,_,o,_,_,e,_⟩:=x;exact Qg e
 |set S n=>obtain⟨o,_,_,_,e,_⟩:=x;exact Qg e
 |ins C dx fs=>obtain⟨_,_,_,e,_⟩:=x;exact Qg e
 |own y=>obtain⟨_,e⟩:=x;exact Qg e
 |xd fs=>obtain⟨_,⟨_,_,_,e,_⟩,_⟩:=x;exact Qg e
 |L6 lo hi=>obtain⟨_,_,_,e⟩:=x;exact Qg e
 |tO ob u=>obtain⟨e,_⟩:=x;exact Qg e
 |zP ps=>exact Qg (show h.get? a=some _ from x)
 |met f y=>exact Qg (show h.get? a=some _ from x)
 |ext φ=>obtain⟨_,⟨_,e⟩,_⟩:=x;exact Qg e
theorem Paired.Hs{α β:Type}{F G:α->β->Prop}:∀{l₁:List α}{l₂:List β},Paired F l₁ l₂->(∀a b,F a b->G a b)->Paired G l₁ l₂
 |_,_,.nil,_=>.nil
 |_,_,.cons r t,f=>.cons (f _ _ r) (Paired.Hs t f)
theorem bM.sC(x:bM P w H h a o)(k:∀b u,(b=a\/H b=some (.own a))->h.get? b=some u->h'.get? b=some u)
  (ho:∀b,H b=some (.own a)->H' b=some (.own a)) (ht:∀b xs,H b=some (.tup xs)->H' b=some (.tup xs)):bM P w H' h' a o:=by
 induction o with
 |lst xs=>obtain⟨z,its,n,r,e⟩:=x;exact⟨z,its,n,r,k _ _ (.inl rfl) e⟩
 |tup xs=>obtain⟨z,its,r,ob,e,c⟩:=x;exact⟨z,its,r,ob,k _ _ (.inl rfl) e,c⟩
 |dK cY=>obtain⟨z,y,vs,r,ob,es,ep,e,c⟩:=x;exact⟨z,y,vs,r,ob,es,ep,k _ _ (.inl rfl) e,c⟩
 |dT cY=>obtain⟨z,y,xs,r,ob,es,ep,e,c⟩:=x;exact⟨z,y,xs,Paired.Hs r λp q z=>⟨z.1,ht _ _ z.2.1,z.2.2⟩,ob,es,ep,k _ _ (.inl rfl) e,c⟩
 |set S n=>obtain⟨ob,es,ep,t,e,c⟩:=x;exact⟨ob,es,ep,t,k _ _ (.inl rfl) e,c⟩
 |ins C dx fs=>obtain⟨d,z,ne,e,mA,⟨od,es,ep,e2,c⟩,r⟩:=x;exact⟨ho _ d,z,ne,k _ _ (.inl rfl) e,mA,⟨od,es,ep,k _ _ (.inr d) e2,c⟩,r⟩
 |own y=>obtain⟨ob,e⟩:=x;exact⟨ob,k _ _ (.inl rfl) e⟩
 |xd fs=>obtain⟨mA,⟨od,es,ep,e,c⟩,r⟩:=x;exact⟨mA,⟨od,es,ep,k _ _ (.inl rfl) e,c⟩,r⟩
 |L6 lo hi=>obtain⟨t,u,v,e⟩:=x;exact⟨t,u,v,k _ _ (.inl rfl) e⟩
 |tO ob u ih=>obtain⟨e,q⟩:=x;exact⟨k _ _ (.inl rfl) e,ih q⟩
 |zP ps=>have e:h.get? a=some {cls:=.none,data:=.fields ps}:=x;show h'.get? a=some {cls:=.none,data:=.fields ps};exact k a _ (.inl rfl) e
 |met f y=>have e:h.get? a=some (PySem.W.methodObj (.ref f) (.ref y)):=x;show h'.get? a=some (PySem.W.methodObj (.ref f) (.ref y));exact k a _ (.inl rfl) e
 |ext φ=>obtain⟨p,⟨o,e⟩,st⟩:=x;exact⟨st _ _ p λo q=>k _ _ (.inl rfl) q,⟨o,k _ _ (.inl rfl) e⟩,st⟩
theorem fv.lt(x:fv P w H h)(e:H a=some o):a<h.objs.size:=(x a o e).lt
theorem fv.fresh(x:fv P w H h)(e:h.objs.size<=a):H a=none:=by
 cases q:H a with
 |none=>rfl
 |some u=>exact absurd (Qr (x.lt q) e) (S8 _)
theorem fv.kept(x:fv P w H h)(k:∀b u,h.get? b=some u->h'.get? b=some u):fv P w H h':=λa o e=>
 (x a o e).sC (λb u _ q=>k b u q) (λ_ q=>q) λ_ _ q=>q
theorem fv.laid(x:fv P w H h)(k:∀b u,h.get? b=some u->h'.get? b=some u)(hp:h.objs.size<=a)(new:bM P w (upd H a o) h' a o):fv P w (upd H a o) h':=λb u e=>by
 have hn:=x.fresh hp;by_cases hb:b=a
 ·subst hb;rw[aQ]at e;cases e;exact new
 ·rw[aJ hb]at e;exact(x b u e).sC (λc v _ q=>k c v q) (λc q=>by rw[aJ (bg q hn)];exact q) λc xs q=>by rw[aJ (bg q hn)];exact q
end
noncomputable def Rd(H:Hp)(a:Addr)(u:HO):Prop:=H a=some u\/∃o,H a=some (.tO o u)
theorem Rd.ok{P:Program}{w:World}{H:Hp}{h:Heap}{a:Addr}{u:HO}(r:Rd H a u)(x:fv P w H h):bM P w H h a u:=by
 rcases r with r|⟨o,r⟩
 ·exact x a u r
 ·obtain⟨_,q⟩:=x a _ r;exact q
noncomputable def Ji:Option HO->Prop
 |some (.lst _)=>True
 |some (.dK _)=>True
 |some (.dT _)=>True
 |some (.set _ _)=>True
 |some (.ins _ _ _)=>True
 |some (.ext _)=>True
 |_=>False
section
variable{P:Program}{w:World}{H:Hp}{h h':Heap}{x e:Addr}{o':HO}
theorem fv.write(ok:fv P w H h)(mu:Ji (H x))(he:e=x\/H e=some (.own x))(k:∀b u,b≠e->h.get? b=some u->h'.get? b=some u)(FD:∃u,h'.get? e=some u)
  (new:bM P w (upd H x o') h' x o'):fv P w (upd H x o') h':=λb u q=>by
 have Hz:∀c y,H c=some (.own y)->c≠x:=λc y r z=>by subst z;rw[r]at mu;exact mu
 have LG:∀c xs,H c=some (.tup xs)->c≠x:=λc xs r z=>by subst z;rw[r]at mu;exact mu
 by_cases hb:b=x
 ·subst hb;rw[aQ]at q;cases q;exact new
 ·rw[aJ hb]at q;by_cases hbe:b=e
  ·have q':H b=some (.own x):=by
    rcases he with z|z
    ·exact absurd (hbe.trans z) hb
    ·rw[hbe];exact z
   rw[q]at q';cases q';obtain⟨v,hv⟩:=FD;exact⟨v,by rw[hbe];exact hv⟩
  ·refine(ok b u q).sC (λc v hc r=>k c v ?_ r) (λc r=>by rw[aJ (Hz c b r)];exact r) λc xs r=>by rw[aJ (LG c xs r)];exact r
   rcases hc with rfl|hc
   ·exact hbe
   ·rintro rfl;rcases he with z|z
    ·exact Hz c b hc z
    ·rw[hc]at z;cases z;exact hb rfl
end
structure Un(fs ex:List Addr)(H H':Hp)(h h':Heap):Prop where
 keep:∀b o,h.get? b=some o->H b=none->b∉fs->b∉ex->h'.get? b=some o
 slot:∀b o,h.get? b=some o->H b=none->b∈fs->b∉ex->∃sl,h'.get? b=some {o with slots:=sl}
 free:∀b o,h.get? b=some o->H b=none->b∉ex->H' b=none
 there:∀b o,h.get? b=some o->b∉ex->∃o',h'.get? b=some o'
 tups:∀b xs,H b=some (.tup xs)->H' b=some (.tup xs)
 frzs:∀b o u,H b=some (.tO o u)->H' b=some (.tO o u)
 tbls:∀b ps,H b=some (.zP ps)->∃more,H' b=some (.zP (ps++more))
section
variable{fs KC ex Pr:List Addr}{H H1 H2:Hp}{h h1 h2 h':Heap}{a x e:Addr}{o:HO}
theorem Un.any(u:Un fs ex H H1 h h1){b:Addr}{ob:Obj}(q:h.get? b=some ob)(n:H b=none)(hx:b∉ex):∃sl,h1.get? b=some {ob with slots:=sl}:=by
 by_cases hb:b∈fs
 ·exact u.slot b ob q n hb hx
 ·exact⟨ob.slots,u.keep b ob q n hb hx⟩
theorem Un.trans(a:Un fs ex H H1 h h1)(b:Un fs ex H1 H2 h1 h2):Un fs ex H H2 h h2 where
 keep:=λc ob q n hc hx=>b.keep c ob (a.keep c ob q n hc hx) (a.free c ob q n hx) hc hx
 slot:=λc ob q n hc hx=>by obtain⟨sl,e1⟩:=a.slot c ob q n hc hx;obtain⟨Mg,e2⟩:=b.slot c _ e1 (a.free c ob q n hx) hc hx;exact⟨Mg,e2⟩
 free:=λc ob q n hx=>by obtain⟨o',e1⟩:=a.there c ob q hx;exact b.free c o' e1 (a.free c ob q n hx) hx
 there:=λc ob q hx=>by obtain⟨o',e1⟩:=a.there c ob q hx;exact b.there c o' e1 hx
 tups:=λc xs q=>b.tups c xs (a.tups c xs q)
 frzs:=λc ob xs q=>b.frzs c ob xs (a.frzs c ob xs q)
 tbls:=λc ps q=>by obtain⟨m1,e1⟩:=a.tbls c ps q;obtain⟨m2,e2⟩:=b.tbls c _ e1;exact⟨m1++m2,by rw[e2,Array.append_assoc]⟩
theorem Un.kept(k:∀b u,h.get? b=some u->h'.get? b=some u):Un fs ex H H h h':=
 ⟨λb ob q _ _ _=>k b ob q,λb ob q _ _ _=>⟨ob.slots,k b ob q⟩,λ_ _ _ n _=>n,λb ob q _=>⟨ob,k b ob q⟩,λ_ _ q=>q,λ_ _ _ q=>q,λ_ ps q=>⟨#[],by rw[q];simp⟩⟩
theorem Un.refl:Un fs ex H H h h:=Un.kept λ_ _ q=>q
theorem Un.laid(k:∀b u,h.get? b=some u->h'.get? b=some u)(hp:h.objs.size<=a)(hn:H a=none):Un fs ex H (upd H a o) h h' where
 keep:=λb u q _ _ _=>k b u q
 slot:=λb u q _ _ _=>⟨u.slots,k b u q⟩
 free:=λb u q n _=>by rw[aJ (QB (Qr (Qg q) hp))];exact n
 there:=λb u q _=>⟨u,k b u q⟩
 tups:=λb xs q=>by rw[aJ (bg q hn)];exact q
 frzs:=λb u xs q=>by rw[aJ (bg q hn)];exact q
 tbls:=λb ps q=>⟨#[],by rw[aJ (bg q hn),q];simp⟩
theorem Un.write(mu:Ji (H x))(he:e=x\/H e=some (.own x))(k:∀b u,b≠e->h.get? b=some u->h'.get? b=some u)(FD:∃u,h'.get? e=some u):Un fs ex H (upd H x o) h h':=by
 have hx:∀b,H b=none->b≠x:=λb n z=>by subst z;rw[n]at mu;exact mu
 have hb:∀b,H b=none->b≠e:=λb n z=>by
  subst z;rcases he with r|r
  ·exact hx b n r
  ·rw[n]at r;cases r
 have hm:∀b u,H b=some u->¬Ji (some u)->b≠x:=λb u q nm z=>by subst z;rw[q]at mu;exact nm mu
 refine⟨λb u q n _ _=>k b u (hb b n) q,λb u q n _ _=>⟨u.slots,k b u (hb b n) q⟩,λb u q n _=>by rw[aJ (hx b n)];exact n,λb u q _=>?_,
  λb xs q=>by rw[aJ (hm b _ q λz=>z)];exact q,λb u xs q=>by rw[aJ (hm b _ q λz=>z)];exact q,λb ps q=>⟨#[],by rw[aJ (hm b _ q λz=>z),q];simp⟩⟩
 by_cases hbe:b=e
 ·subst hbe;exact FD
 ·exact⟨u,k b u hbe q⟩
end
noncomputable def JU(h:Heap)(H:Hp):List Addr:=(List.range h.objs.size).filter λa=>(H a).isSome
noncomputable def n9(h:Heap)(H:Hp):Heap:=PySem.W.hideAll h (JU h H)
theorem vt(h:Heap)(H:Hp):(n9 h H).objs.size=h.objs.size:=PySem.W.hideAll_size _ _
theorem xT{h:Heap}{H:Hp}{b:Addr}{o:Obj}(e:h.get? b=some o)(n:H b=none):(n9 h H).get? b=some o:=
 PySem.W.hideAll_get _ e λhm=>by have q:(H b).isSome=true:=(So.mp hm).2;rw[n]at q;simp at q
theorem A0{h:Heap}{H:Hp}{b:Addr}{o:Obj}(e:(n9 h H).get? b=some o):h.get? b=some o/\H b=none:=by
 have e':h.get? b=some o:=PySem.W.of_hideAll (JU h H) e;refine⟨e',?_⟩;cases q:H b with
 |none=>rfl
 |some x=>have hm:b∈JU h H:=So.mpr ⟨QR.mpr (Qg e'),by simp[q]⟩;have z:(n9 h H).get? b=none:=PySem.W.hideAll_none (JU h H) hm;rw[z]at e;cases e
noncomputable def zY(g h:Heap)(L:Addr):List (Addr×Obj):=(List.range h.objs.size).filterMap λa=>if a=L\/(g.get? a).isSome=true then none else(h.get? a).map λo=>(a,o)
noncomputable def rest(g h:Heap)(L d:Addr):List (Addr×Obj):=(zY g h L).filter λp=>decide (p.1≠d)
end L2
namespace L2
open PySem PySem.Spec PyProof.Rows
structure Mod(K:PySem.W.Frag)(mg:Str->Option Value)(base:Heap):Prop where
 Lx:K.In base
 glob:base.Ns mainGlobals mg
 blt:∃mb,base.Ns builtinsNs mb/\∀x:Str,x≠"__name__"->mb x=bootBuiltins x
 nolimit:base.NoLimit
structure Cx where
 prog:Program
 w:World
 K:PySem.W.Frag
 mg:Str->Option Value
 base:Heap
 A:Around
 N:List Str
 s₀:Shared
 H₀:Hp
 env:Env
 outer:List Env
 stack:List Env
 ex:List Addr
 fn:Str->Bool
 calm:Bool
 pn:List (Addr×Obj)
 xe:Value->Shared->Prop
noncomputable def jO(l:List Env):List Addr:=l.filterMap (·.frame)
noncomputable abbrev Cx.fs(X:Cx):List Addr:=jO X.outer
noncomputable def FW(sc:Scope)(x:Str):Prop:=sc.names.lookup x=some .local\/sc.names.lookup x=some .cell\/sc.names.lookup x=some .free
noncomputable def Loc(sc:Scope)(x:Str):Prop:=sc.names.lookup x=some .local\/sc.names.lookup x=some .cell
noncomputable def Look(env:Env)(h:Heap)(m:Str->Option Value)(x:Str)(u:Value):Prop:=
 (env.kindOf x=some .local/\m x=some u)\/((env.kindOf x=some .cell\/env.kindOf x=some .free)/\∃c,env.cells.lookup x=some c/\h.IsCell c (some u))
structure Cx.Ok(X:Cx):Prop where
 mod:Mod X.K X.mg X.base
 kind:X.env.scope.kind= .function
 glob:X.env.globals=mainGlobals
 blt:X.env.builtins=builtinsNs
 above:X.s₀.heap.objs.size<=X.env.locals
 inj:∀x y c,X.env.cells.lookup x=some c->X.env.cells.lookup y=some c->x=y
 has:∀x,(X.env.kindOf x=some .cell\/X.env.kindOf x=some .free)->∃c,X.env.cells.lookup x=some c
 C7:∀x c,X.fn x=true->X.env.cells.lookup x=some c->X.s₀.heap.objs.size<=c
 hd:X.calm=true->X.A.handled=none
 frames:X.A.frames=some X.stack
 JR:X.stack=X.outer\/(X.stack=X.env::X.outer/\X.env.frame=some X.env.locals)
 Gr:∀b∈X.ex,b≠X.env.locals/\∀x c,X.env.cells.lookup x=some c->c≠b
 bs:∀b o,X.base.get? b=some o->X.s₀.heap.get? b=some o/\X.H₀ b=none
 BV:X.base.objs.size<=X.s₀.heap.objs.size
 rW:∀b o,X.base.get? b=some o->b∉X.ex
 vj:∀b∈X.ex,b∉X.fs
 kJ:X.s₀.heap.FunFrames X.base X.outer
 Fz:∀b∈X.fs,X.H₀ b=none
structure Inv(X:Cx)(pins:List (Addr×Obj))(σ:List (Option V))(H:Hp)(s:Shared):Prop where
 ok:X.Ok
 os:s.os=X.s₀.os
 bare:AllBare s.gens
 base:Un X.fs X.ex X.H₀ H X.s₀.heap s.heap
 loc:∃m,s.heap.Ns X.env.locals m/\∀(i:Nat)(x:Str)(v:V),X.N[i]?=some x->σ[i]?=some (some v)->FW X.env.scope x->∃u,RelV v u/\Look X.env s.heap m x u
 cell:∀x c,X.env.cells.lookup x=some c->∃v,s.heap.IsCell c v
 free:H X.env.locals=none
 eO:∀x c,X.env.cells.lookup x=some c->H c=none
 pin:∀p∈X.pn++pins,s.heap.get? p.1=some p.2/\H p.1=none/\p.1≠X.env.locals/\p.1∉X.fs/\∀v,p.2.data≠ .cell v
 hok:fv X.prog X.w H s.heap
 len:σ.length=X.N.length
section
variable{X:Cx}{pins:List (Addr×Obj)}{σ:List (Option V)}{H H':Hp}{s:Shared}{h':Heap}
theorem Cx.Ok.LD(ok:X.Ok){b:Addr}{o:Obj}(e:X.base.get? b=some o):b∉X.fs:=λhb=>by have:=(ok.kJ.mem hb).1;rw[e]at this;cases this
theorem Inv.bs(I:Inv X pins σ H s):∀b o,X.base.get? b=some o->s.heap.get? b=some o/\H b=none:=λb o e=>
 ⟨I.base.keep b o (I.ok.bs b o e).1 (I.ok.bs b o e).2 (I.ok.LD e) (I.ok.rW b o e),I.base.free b o (I.ok.bs b o e).1 (I.ok.bs b o e).2 (I.ok.rW b o e)⟩
theorem Inv.bk(I:Inv X pins σ H s):∀b o,X.base.get? b=some o->s.heap.get? b=some o:=λb o e=>(I.bs b o e).1
theorem Inv.mod(I:Inv X pins σ H s):Mod X.K X.mg X.base:=I.ok.mod
theorem Inv.pZ(I:Inv X pins σ H s):X.K.In s.heap:=I.ok.mod.Lx.keeps I.bk
theorem Inv.fr(I:Inv X pins σ H s):∃m,Fr X.base X.env.locals s.heap m:=
 let ⟨m,hn,_⟩:=I.loc
 ⟨m,hn,I.bk,Qh I.ok.BV I.ok.above⟩
theorem Inv.lt(I:Inv X pins σ H s):X.env.locals<s.heap.objs.size:=let ⟨_,hn,_⟩:=I.loc;hn.lt
theorem Inv.sz(I:Inv X pins σ H s):X.s₀.heap.objs.size<=s.heap.objs.size:=Qh I.ok.above (S6 I.lt)
theorem Inv.LF(I:Inv X pins σ H s){a:Addr}(h:s.heap.objs.size<=a):a∉X.fs:=λhb=>by obtain⟨_,o,ho,_⟩:=I.ok.kJ.mem hb;exact absurd (Qr (Qg ho) (Qh I.sz h)) (S8 _)
theorem Inv.Da(I:Inv X pins σ H s):∀x c,X.env.cells.lookup x=some c->c≠X.env.locals:=λx c e z=>by obtain⟨v,o,ho,hd⟩:=I.cell x c e;obtain⟨m,⟨o',es,ep,AA,qM,_⟩,_⟩:=I.loc;rw[z,AA]at ho;cases ho;rw[qM]at hd;cases hd
theorem Inv.kJ(I:Inv X pins σ H s):s.heap.FunFrames X.base X.outer:=by
 have all:∀(l:List Env),(∀b∈jO l,b∈X.fs)->X.s₀.heap.FunFrames X.base l->s.heap.FunFrames X.base l:=by
  intro l
  induction l with
  |nil=>intro _ _;trivial
  |cons env r ih=>
   intro hs hl;obtain⟨hk,⟨L,o,hf,hn,ho,hd⟩,hr⟩:=hl;have hL:L∈X.fs:=hs L (by unfold jO;rw[RU,hf];exact Qc);obtain⟨sl,e⟩:=I.base.slot L o ho (I.ok.Fz L hL) hL λz=>I.ok.vj L z hL
   exact⟨hk,⟨L,_,hf,hn,e,hd⟩,ih (λb hb=>hs b (by unfold jO;rw[RU,hf];exact P9 _ hb)) hr⟩
 exact all X.outer (λ_ hb=>hb) I.ok.kJ
theorem Inv.stack(I:Inv X pins σ H s):s.heap.FunFrames X.base X.stack:=by
 rcases I.ok.JR with e|⟨e,hf⟩
 ·rw[e];exact I.kJ
 ·rw[e];obtain⟨m,hn,_⟩:=I.loc;refine .cons (by rw[I.ok.kind];decide) hf hn ?_ I.kJ;exact Heap.get?_none_of_le (Qh I.ok.BV I.ok.above)
theorem Inv.oM(I:Inv X pins σ H s):∀b∈jO X.stack,b∈X.env.locals::X.fs:=λb hb=>by
 rcases I.ok.JR with e|⟨e,hf⟩
 ·rw[e]at hb;exact P9 _ hb
 ·rw[e]at hb;unfold jO at hb;rw[RU,hf]at hb;exact hb
theorem Inv.uN(I:Inv X pins σ H s):∀b∈jO X.stack,H b=none:=λb hb=>by
 rcases Qi.mp (I.oM b hb)with e|hb
 ·rw[e];exact I.free
 ·obtain⟨_,o,ho,_⟩:=I.ok.kJ.mem hb;exact I.base.free b o ho (I.ok.Fz b hb) λz=>I.ok.vj b z hb
theorem Inv.step{g':Array GenState}{t':Nat}{d':Drawn}{ch:List Addr}(I:Inv X pins σ H s)
  (zH:∀b∈ch,(b∈X.ex\/X.s₀.heap.objs.size<=b)/\b≠X.env.locals/\(∀x c,X.env.cells.lookup x=some c->c≠b)/\∀p∈X.pn++pins,p.1≠b)
  (keep:∀b o,b≠X.env.locals->b∉X.fs->b∉ch->s.heap.get? b=some o->H b=none->h'.get? b=some o)
  (slot:∀b o,b≠X.env.locals->b∈X.fs->b∉ch->s.heap.get? b=some o->H b=none->∃sl,h'.get? b=some {o with slots:=sl}) (free:∀b o,b∉ch->s.heap.get? b=some o->H b=none->H' b=none)
  (there:∀b o,b∉ch->s.heap.get? b=some o->∃o',h'.get? b=some o')
  (tups:∀b xs,H b=some (.tup xs)->H' b=some (.tup xs)) (frzs:∀b o u,H b=some (.tO o u)->H' b=some (.tO o u)) (tbls:∀b ps,H b=some (.zP ps)->∃more,H' b=some (.zP (ps++more)))
  (ns:∀m,s.heap.Ns X.env.locals m->h'.Ns X.env.locals m) (hok:fv X.prog X.w H' h') (hg:AllBare g'):
  Inv X pins σ H' {s with heap:=h',gens:=g',drawn:=d',toks:=t'}:=by
 have Np:∀b o,X.s₀.heap.get? b=some o->b≠X.env.locals:=λb o e=>QB (Qr (Qg e) I.ok.above)
 have JL:∀b o,X.s₀.heap.get? b=some o->b∉X.ex->b∉ch:=λb o e hx hb=>by
  rcases (zH b hb).1 with z|z
  ·exact hx z
  ·exact absurd (Qr (Qg e) z) (S8 _)
 have cellK:∀x c,X.env.cells.lookup x=some c->∀v,s.heap.IsCell c v->h'.IsCell c v:=λx c e v⟨o,ho,hd⟩=>by
  have Hu:c∉ch:=λz=>(zH c z).2.2.1 x c e rfl
  by_cases hc:c∈X.fs
  ·obtain⟨sl,q⟩:=slot c o (I.Da x c e) hc Hu ho (I.eO x c e);exact⟨_,q,hd⟩
  ·exact⟨o,keep c o (I.Da x c e) hc Hu ho (I.eO x c e),hd⟩
 refine⟨I.ok,I.os,hg,⟨λb o e n hb hx=>?_,λb o e n hb hx=>?_,λb o e n hx=>?_,λb o e hx=>?_,λb xs e=>tups b xs (I.base.tups b xs e),λb o xs e=>frzs b o xs (I.base.frzs b o xs e),λb ps e=>?_⟩,?_,λx c e=>?_,?_,λx c e=>?_,λp hp=>?_,hok,I.len⟩
 ·exact keep b o (Np b o e) hb (JL b o e hx) (I.base.keep b o e n hb hx) (I.base.free b o e n hx)
 ·obtain⟨sl,e1⟩:=I.base.slot b o e n hb hx;obtain⟨Mg,e2⟩:=slot b _ (Np b o e) hb (JL b o e hx) e1 (I.base.free b o e n hx);exact⟨Mg,e2⟩
 ·obtain⟨o',e1⟩:=I.base.there b o e hx;exact free b o' (JL b o e hx) e1 (I.base.free b o e n hx)
 ·obtain⟨o',e1⟩:=I.base.there b o e hx;exact there b o' (JL b o e hx) e1
 ·obtain⟨m1,e1⟩:=I.base.tbls b ps e;obtain⟨m2,e2⟩:=tbls b _ e1;exact⟨m1++m2,by rw[e2,Array.append_assoc]⟩
 ·obtain⟨m,hn,hl⟩:=I.loc;refine⟨m,ns m hn,λi x v e1 e2 e3=>?_⟩;obtain⟨u,r,l⟩:=hl i x v e1 e2 e3;refine⟨u,r,?_⟩;rcases l with l|⟨k,c,e,z⟩
  ·exact .inl l
  ·exact .inr ⟨k,c,e,cellK x c e _ z⟩
 ·obtain⟨v,z⟩:=I.cell x c e;exact⟨v,cellK x c e v z⟩
 ·obtain⟨m,⟨o,_,_,ho,_⟩,_⟩:=I.loc;exact free _ o (λz=>(zH _ z).2.1 rfl) ho I.free
 ·obtain⟨v,o,ho,hd⟩:=I.cell x c e;exact free c o (λz=>(zH c z).2.2.1 x c e rfl) ho (I.eO x c e)
 ·obtain⟨e,n,ne,nf,d⟩:=I.pin p hp;have Hu:p.1∉ch:=λz=>(zH p.1 z).2.2.2 p hp rfl
  exact⟨keep p.1 p.2 ne nf Hu e n,free p.1 p.2 Hu e n,ne,nf,d⟩
theorem Inv.un{t':Nat}(I:Inv X pins σ H s)(u:Un X.fs [] H H' s.heap h')(hok:fv X.prog X.w H' h'):Inv X pins σ H' {s with heap:=h',toks:=t'}:=by
 obtain⟨m,⟨o,es,ep,ho,r⟩,_⟩:=id I.loc;obtain⟨sl,hL⟩:=u.any ho I.free (by simp);exact I.step (g':=s.gens) (d':=s.drawn) (ch:=[]) (λ_ z=>nomatch z) (λb o _ hb _ e n=>u.keep b o e n hb (by simp)) (λb o _ hb _ e n=>u.slot b o e n hb (by simp)) (λb o _ e n=>u.free b o e n (by simp)) (λb o _ e=>u.there b o e (by simp)) u.tups u.frzs u.tbls (λm' hm=>by
  obtain⟨o',fw,Ky,AA,r'⟩:=hm;rw[ho]at AA;cases AA;exact⟨_,fw,Ky,hL,r'⟩) hok I.bare
theorem Inv.call{g':Array GenState}{t':Nat}{d':Drawn}{ch:List Addr}(I:Inv X pins σ H s)(u:Un (jO X.stack) ch H H' s.heap h')(hok:fv X.prog X.w H' h')(hg:AllBare g')
  (zH:∀b∈ch,(b∈X.ex\/X.s₀.heap.objs.size<=b)/\b≠X.env.locals/\(∀x c,X.env.cells.lookup x=some c->c≠b)/\∀p∈X.pn++pins,p.1≠b):
  Inv X pins σ H' {s with heap:=h',gens:=g',drawn:=d',toks:=t'}:=by
 obtain⟨m,⟨o,es,ep,ho,r⟩,_⟩:=id I.loc;obtain⟨sl,hL⟩:=u.any ho I.free λz=>(zH _ z).2.1 rfl
 exact I.step (ch:=ch) zH (λb o hL hb hc e n=>u.keep b o e n (λz=>(Qi.mp (I.oM b z)).elim hL hb) hc) (λb o _ _ hc e n=>u.any e n hc) (λb o hc e n=>u.free b o e n hc) (λb o hc e=>u.there b o e hc) u.tups u.frzs u.tbls (λm' hm=>by
  obtain⟨o',fw,Ky,AA,r'⟩:=hm;rw[ho]at AA;cases AA;exact⟨_,fw,Ky,hL,r'⟩) hok hg
theorem Inv.turned{t':Nat}{it:Addr}(I:Inv X pins σ H s)(k:∀b o,b≠it->s.heap.get? b=some o->h'.get? b=some o)(hn:H it=none)(hL:it≠X.env.locals)
  (h1:it∈X.ex\/X.s₀.heap.objs.size<=it) (h2:∀x c,X.env.cells.lookup x=some c->c≠it) (h3:∀p∈X.pn++pins,p.1≠it):Inv X pins σ H {s with heap:=h',toks:=t'}:=by
 have Nq:∀b u,H b=some u->b≠it:=λb u e z=>by rw[z,hn]at e;cases e
 refine I.step (g':=s.gens) (d':=s.drawn) (ch:=[it]) (λb hb=>?_) (λb o _ _ hc e _=>k b o (λz=>hc (by simp[z])) e) (λb o _ _ hc e _=>⟨o.slots,k b o (λz=>hc (by simp[z])) e⟩) (λ_ _ _ _ n=>n)
  (λb o hc e=>⟨o,k b o (λz=>hc (by simp[z])) e⟩) (λ_ _ e=>e) (λ_ _ _ e=>e) (λb ps e=>⟨#[],by rw[e];simp⟩) (λm hm=>?_) (λb u e=>?_) I.bare
 ·have e:b=it:=by simpa using hb
  subst e;exact⟨h1,hL,h2,h3⟩
 ·obtain⟨o,es,ep,ho,r⟩:=hm;exact⟨o,es,ep,k _ o (Tn hL) ho,r⟩
 ·refine(I.hok b u e).sC (λc v hc q=>k c v ?_ q) (λ_ q=>q) λ_ _ q=>q
  rcases hc with z|z
  ·rw[z];exact Nq b u e
  ·exact Nq c _ z
theorem Inv.tok(I:Inv X pins σ H s)(t:Nat):Inv X pins σ H {s with toks:=t}:=I.un (h':=s.heap) (t':=t) Un.refl I.hok
theorem Inv.kept{t':Nat}(I:Inv X pins σ H s)(k:∀b u,s.heap.get? b=some u->h'.get? b=some u):Inv X pins σ H {s with heap:=h',toks:=t'}:=I.un (Un.kept k) (I.hok.kept k)
theorem Inv.laid{a:Addr}{o:HO}{t':Nat}(I:Inv X pins σ H s)(k:∀b u,s.heap.get? b=some u->h'.get? b=some u)(hp:s.heap.objs.size<=a)(new:bM X.prog X.w (upd H a o) h' a o):
  Inv X pins σ (upd H a o) {s with heap:=h',toks:=t'}:=I.un (Un.laid k hp (I.hok.fresh hp)) (I.hok.laid k hp new)
theorem Inv.write{x e:Addr}{o:HO}{t':Nat}(I:Inv X pins σ H s)(mu:Ji (H x))(he:e=x\/H e=some (.own x))(k:∀b u,b≠e->s.heap.get? b=some u->h'.get? b=some u)(FD:∃u,h'.get? e=some u)
  (new:bM X.prog X.w (upd H x o) h' x o):Inv X pins σ (upd H x o) {s with heap:=h',toks:=t'}:=I.un (Un.write mu he k FD) (I.hok.write mu he k FD new)
theorem Inv.weak{σ':List (Option V)}(I:Inv X pins σ H s)(hl:σ'.length=σ.length)(w:∀(i:Nat)v,σ'[i]?=some (some v)->σ[i]?=some (some v)):Inv X pins σ' H s:=
 ⟨I.ok,I.os,I.bare,I.base,let ⟨m,hn,Ds⟩:=I.loc;⟨m,hn,λi x v e1 e2 e3=>Ds i x v e1 (w i v e2) e3⟩,I.cell,I.free,I.eO,I.pin,I.hok,hl.trans I.len⟩
theorem Inv.uw{Cf:List (Addr×Obj)}(I:Inv X pins σ H s)(h:∀p∈Cf,s.heap.get? p.1=some p.2/\H p.1=none/\p.1≠X.env.locals/\p.1∉X.fs/\∀v,p.2.data≠ .cell v):Inv X Cf σ H s:=
 ⟨I.ok,I.os,I.bare,I.base,I.loc,I.cell,I.free,I.eO,λp hp=>(Qs.mp hp).elim (λz=>I.pin p (Sn _ z)) (h p),I.hok,I.len⟩
theorem i6{N:List Str}(hN:N.Nodup){i j:Nat}{x:Str}(a:N[i]?=some x)(b:N[j]?=some x):i=j:=by obtain⟨h1,e1⟩:=P8.mp a;obtain⟨h2,e2⟩:=P8.mp b;exact(List.getElem_inj hN).mp (e1.trans e2.symm)
theorem m9{M:Model}{A:Around}{E:Value->Shared->Prop}{i:Nat}{x:Str}{v:V}{u:Value}{Q:Unit->Shared->Prop}(I:Inv X pins σ H s)(hN:X.N.Nodup)(hi:X.N[i]?=some x)(hx:Loc X.env.scope x)(r:RelV v u)
  (h:∀s',Inv X pins (σ.set i (some v)) H s'->(∃a,Heap.SameBut a s.heap s'.heap/\(a=X.env.locals\/X.env.cells.lookup x=some a))->Q () s') (hf:X.fn x=true\/X.env.scope.names.lookup x=some .local:=by first|exact .inl rfl|exact .inr rfl|assumption):wpAny M A (storeName X.env x u) Q E s:=by
 obtain⟨m,hn,hl⟩:=id I.loc;have K2:(X.env.scope.kind== .class||(X.env.scope.kind== .module&&X.env.locals != X.env.globals))=false:=by rw[I.ok.kind];rfl
 have hiσ:i<σ.length:=by rw[I.len];exact(P8.mp hi).1
 have Da:=I.Da;have tracked:∀{a:Addr}{h':Heap},(∃o,s.heap.get? a=some o/\H a=none)->Heap.SameBut a s.heap h'->fv X.prog X.w H h':=λ {a h'} ha hs b ob e=>by
  obtain⟨_,_,B6⟩:=ha;refine(I.hok b ob e).sC (λc w' hc q=>(hs.2 c ?_).trans q) (λ_ q=>q) λ_ _ q=>q
  rintro rfl;rcases hc with rfl|hc
  ·rw[B6]at e;cases e
  ·rw[B6]at hc;cases hc
 rcases hx with hk|hk
 ·refine wpAny_storeName_local hk hn (λh' OE hs=>?_) K2;obtain⟨oL,_,_,JD,_⟩:=id hn;refine h _ ⟨I.ok,I.os,I.bare,⟨λb o e n hb hx=>?_,λb o e n hb hx=>?_,I.base.free,λb o e hx=>?_,I.base.tups,I.base.frzs,I.base.tbls⟩,⟨_,OE,λj y v' e1 e2 e3=>?_⟩,λy c e=>?_,I.free,I.eO,λp hp=>?_,tracked ⟨oL,JD,I.free⟩ hs,by simpa using I.len⟩ ⟨_,hs,.inl rfl⟩
  ·exact(hs.2 b (QB (Qr (Qg e) I.ok.above))).trans (I.base.keep b o e n hb hx)
  ·obtain⟨sl,e1⟩:=I.base.slot b o e n hb hx;exact⟨sl,(hs.2 b (QB (Qr (Qg e) I.ok.above))).trans e1⟩
  ·obtain⟨o',e1⟩:=I.base.there b o e hx;exact⟨o',(hs.2 b (QB (Qr (Qg e) I.ok.above))).trans e1⟩
  ·by_cases hj:j=i
   ·subst hj;rw[hi]at e1;cases e1;rw[QQ hiσ]at e2;cases e2;exact⟨u,r,.inl ⟨hk,by simp⟩⟩
   ·rw[Qn (Tn hj)]at e2;obtain⟨u',r',q⟩:=hl j y v' e1 e2 e3;refine⟨u',r',?_⟩;rcases q with ⟨k,e⟩|⟨k,c,e,z⟩
    ·refine .inl ⟨k,?_⟩;have:y≠x:=λe=>hj (i6 hN e1 (e▸hi))
     simp[this,e]
    ·exact .inr ⟨k,c,e,z.sameBut hs (Da y c e)⟩
  ·obtain⟨w',z⟩:=I.cell y c e;exact⟨w',z.sameBut hs (Da y c e)⟩
  ·obtain⟨e,n,ne,nf,d⟩:=I.pin p hp;exact⟨(hs.2 p.1 ne).trans e,n,ne,nf,d⟩
 ·have xS:X.fn x=true:=by
   rcases hf with z|z
   ·exact z
   ·rw[z]at hk;cases hk
  obtain⟨c,hc⟩:=I.ok.has x (.inl hk);obtain⟨w',z⟩:=I.cell x c hc;refine wpAny_storeName_cell I.ok.kind hk hc z (λh' n8 hs=>?_);obtain⟨oc,Na,Lb⟩:=id z;refine h {s with heap:=h'} ⟨I.ok,I.os,I.bare,⟨λb o e n hb hx=>?_,λb o e n hb hx=>?_,I.base.free,λb o e hx=>?_,I.base.tups,I.base.frzs,I.base.tbls⟩,⟨m,hn.sameBut hs (Tn (Da x c hc)),λj y v' e1 e2 e3=>?_⟩,λy c' e=>?_,I.free,I.eO,λp hp=>?_,tracked ⟨oc,Na,I.eO x c hc⟩ hs,by simpa using I.len⟩ ⟨c,hs,.inr hc⟩
  ·exact(hs.2 b (QB (Qr (Qg e) (I.ok.C7 x c xS hc)))).trans (I.base.keep b o e n hb hx)
  ·obtain⟨sl,e1⟩:=I.base.slot b o e n hb hx;exact⟨sl,(hs.2 b (QB (Qr (Qg e) (I.ok.C7 x c xS hc)))).trans e1⟩
  ·obtain⟨o',e1⟩:=I.base.there b o e hx;exact⟨o',(hs.2 b (QB (Qr (Qg e) (I.ok.C7 x c xS hc)))).trans e1⟩
  ·by_cases hj:j=i
   ·subst hj;rw[hi]at e1;cases e1;rw[QQ hiσ]at e2;cases e2;exact⟨u,r,.inr ⟨.inl hk,c,hc,n8⟩⟩
   ·rw[Qn (Tn hj)]at e2;obtain⟨u',r',q⟩:=hl j y v' e1 e2 e3;refine⟨u',r',?_⟩;rcases q with q|⟨k,c',e,z'⟩
    ·exact .inl q
    ·refine .inr ⟨k,c',e,z'.sameBut hs ?_⟩;rintro rfl;exact hj (i6 hN e1 (I.ok.inj _ _ _ e hc▸hi))
  ·by_cases hcc:c'=c
   ·subst hcc;exact⟨_,n8⟩
   ·obtain⟨w2,z2⟩:=I.cell y c' e;exact⟨w2,z2.sameBut hs hcc⟩
  ·obtain⟨e,n,ne,nf,d⟩:=I.pin p hp;refine⟨(hs.2 p.1 ?_).trans e,n,ne,nf,d⟩;intro q;rw[q,Na]at e;have q':oc=p.2:=To e;exact d w' (by rw[<-q'];exact Lb)
theorem qA{M:Model}{A:Around}{E:Value->Shared->Prop}{i:Nat}{x:Str}{v:V}{u:Value}{Q:Unit->Shared->Prop}(I:Inv X pins σ H s)(hN:X.N.Nodup)(hi:X.N[i]?=some x)(hx:Loc X.env.scope x)(r:RelV v u)
  (h:∀s',Inv X pins (σ.set i (some v)) H s'->Q () s') (hf:X.fn x=true\/X.env.scope.names.lookup x=some .local:=by first|exact .inl rfl|exact .inr rfl|assumption):wpAny M A (storeName X.env x u) Q E s:=
 m9 I hN hi hx r (λs' I' _=>h s' I') hf
theorem Inv.Gb{s':Shared}{ch:List Addr}(I:Inv X pins σ H s)(ho:s'.os=s.os)(u:Un (jO X.stack) ch H H' s.heap s'.heap)(hok:fv X.prog X.w H' s'.heap)(hg:AllBare s'.gens)
  (zH:∀b∈ch,(b∈X.ex\/X.s₀.heap.objs.size<=b)/\b≠X.env.locals/\(∀x c,X.env.cells.lookup x=some c->c≠b)/\∀p∈X.pn++pins,p.1≠b):Inv X pins σ H' s':=by
 obtain⟨h',g',d',t',o'⟩:=s';have e:o'=s.os:=ho;subst e;exact I.call (g':=g') (t':=t') (d':=d') u hok hg zH
end
noncomputable abbrev XK:=Value->Option Addr->Hp->Prop
noncomputable abbrev St:=List (Option V)
noncomputable abbrev VK:=V->Hp->Prop
noncomputable abbrev TE:=St->Hp->VK->Prop
noncomputable abbrev TT:=St->Hp->(Bool->Hp->Prop)->Prop
noncomputable abbrev TA:=St->Hp->(List V->Hp->Prop)->Prop
structure Ends where
 nx:St->Hp->Prop
 rt:VK
 bk:St->Hp->Prop:=λ_ _=>False
 ct:St->Hp->Prop:=λ_ _=>False
noncomputable abbrev TS:=Ends->St->Hp->Prop
inductive EP(X:Cx)(pins:List (Addr×Obj))(σ:St)(Q:VK)(u:Value)(s':Shared):Prop
 |mk (v:V) (H':Hp) (i:Inv X pins σ H' s') (r:RelV v u) (q:Q v H'):EP X pins σ Q u s'
inductive TP(X:Cx)(pins:List (Addr×Obj))(σ:St)(Q:Bool->Hp->Prop)(b:Bool)(s':Shared):Prop
 |mk (H':Hp) (i:Inv X pins σ H' s') (q:Q b H'):TP X pins σ Q b s'
inductive AP(X:Cx)(pins:List (Addr×Obj))(σ:St)(Q:List V->Hp->Prop)(us:List Value)(s':Shared):Prop
 |mk (vs:List V) (H':Hp) (i:Inv X pins σ H' s') (r:au vs us) (q:Q vs H'):AP X pins σ Q us s'
noncomputable def SP(X:Cx)(pins:List (Addr×Obj))(D:Ends)(f:Flow)(s':Shared):Prop:=
 match f with
 |.next=>∃σ' H',Inv X pins σ' H' s'/\D.nx σ' H'
 |.brk=>∃σ' H',Inv X pins σ' H' s'/\D.bk σ' H'
 |.cont=>∃σ' H',Inv X pins σ' H' s'/\D.ct σ' H'
 |.ret u=>∃v σ' H',Inv X pins σ' H' s'/\RelV v u/\D.rt v H'
noncomputable def PE(X:Cx)(e:Expr)(t:TE):Prop:=
 ∀(pins:List (Addr×Obj))(s:Shared)(σ:St)(H:Hp)(Q:VK),Inv X pins σ H s->t σ H Q->wpAny (model X.prog X.w) X.A (eval e X.env) (EP X pins σ Q) X.xe s
noncomputable def PT(X:Cx)(e:Expr)(t:TT):Prop:=
 ∀(pins:List (Addr×Obj))(s:Shared)(σ:St)(H:Hp)(Q:Bool->Hp->Prop),Inv X pins σ H s->t σ H Q->wpAny (model X.prog X.w) X.A (isTrue e X.env (eval e X.env)) (TP X pins σ Q) X.xe s
noncomputable def PW(X:Cx)(e:Expr)(t:TT):Prop:=
 ∀(whole:Sem Value)(pins:List (Addr×Obj))(s:Shared)(σ:St)(H:Hp)(Q:Bool->Hp->Prop),Inv X pins σ H s->t σ H Q->wpAny (model X.prog X.w) X.A (isTrue e X.env whole) (TP X pins σ Q) X.xe s
theorem PW.pt{X:Cx}{e:Expr}{t:TT}(h:PW X e t):PT X e t:=h _
noncomputable def PA(X:Cx)(es:List Expr)(t:TA):Prop:=
 ∀(pos:Pos)(pins:List (Addr×Obj))(s:Shared)(σ:St)(H:Hp)(Q:List V->Hp->Prop),Inv X pins σ H s->t σ H Q->wpAny (model X.prog X.w) X.A (spliced (backTo pos (starEach es X.env))) (AP X pins σ Q) X.xe s
noncomputable def PS(X:Cx)(st:Stmt)(t:TS):Prop:=
 ∀(pins:List (Addr×Obj))(s:Shared)(σ:St)(H:Hp)(D:Ends),Inv X pins σ H s->t D σ H->wpAny (model X.prog X.w) X.A (exec st X.env) (SP X pins D) X.xe s
noncomputable def uY(X:Cx)(st:List Stmt)(t:TS):Prop:=
 ∀(pins:List (Addr×Obj))(s:Shared)(σ:St)(H:Hp)(D:Ends),Inv X pins σ H s->t D σ H->wpAny (model X.prog X.w) X.A (execs st X.env) (SP X pins D) X.xe s
theorem bX{α:Type}{t:Sem α}{Q Q':α->Shared->Prop}{M:Model}{A:Around}{E:Value->Shared->Prop}{s:Shared}(h:wpAny M A t Q E s)(hQ:∀a s,Q a s->Q' a s):wpAny M A t Q' E s:=Ua h hQ λ_ _ x=>x
end L2
namespace L2
open PySem PySem.Spec PyProof.Rows
section
variable{X:Cx}
theorem bin{a b:Expr}{ta tb:TE}(ha:PE X a ta)(hb:PE X b tb){pins:List (Addr×Obj)}{s:Shared}{σ:St}{H:Hp}{R:V->V->Hp->Prop}(I:Inv X pins σ H s)(h:ta σ H λx H1=>tb σ H1 λy H2=>R x y H2)
  {α:Type} {Q:α->Shared->Prop} {f:Value->Value->Sem α}
  (hf:∀v u s2 x y H2,Inv X pins σ H2 s2->RelV x v->RelV y u->R x y H2->wpAny (model X.prog X.w) X.A (f v u) Q X.xe s2):
  wpAny (model X.prog X.w) X.A (eval a X.env) (λv s₁=>wpAny (model X.prog X.w) X.A (eval b X.env) (λu s₂=>wpAny (model X.prog X.w) X.A (f v u) Q X.xe s₂) X.xe s₁) X.xe s:=by
 refine bX (ha pins s σ H _ I h) λv s1⟨x,H1,I1,r1,q1⟩=>?_
 refine bX (hb pins s1 σ H1 _ I1 q1) λu s2⟨y,H2,I2,r2,q2⟩=>?_
 exact hf v u s2 x y H2 I2 r1 r2 q2
noncomputable def oQ(i:Nat):TE:=λσ H Q=>∃v,σ[i]?=some (some v)/\Q v H
noncomputable def tC(v:V):TE:=λ_ H Q=>Q v H
theorem yH{i:Nat}{x:Str}{pos:Pos}(hN:X.N[i]?=some x)(hv:FW X.env.scope x)(hd:(x==("__debug__":Str))=false:=by decide)(zG:(x==("__classdict__":Str))=false:=by decide):PE X (.Name x pos) (oQ i):=by
 intro pins s σ H Q I h;obtain⟨v,e,h⟩:=h;obtain⟨m,hn,hl⟩:=I.loc;obtain⟨u,r,l⟩:=hl i x v hN e hv;have fin:EP X pins σ Q u s:=⟨v,H,I,r,h⟩;rcases l with ⟨hk,hm⟩|⟨hk,c,hc,B3⟩
 ·exact wpAny_Name (wpAny_loadName_local I.ok.kind hk hn hm fin) hd
 ·rcases hk with hk|hk
  ·exact wpAny_Name (wpAny_loadName_cell I.ok.kind hk hc B3 fin) hd
  ·exact wpAny_Name (wpAny_loadName_free I.ok.kind hk hc B3 fin zG) hd
theorem Ei{i j pos}:PE X (.Constant (.int i) j pos) (tC (.int i)):=λ_ _ _ H _ I h=>wpAny_Constant_int ⟨.int i,H,I.tok _,⟨_,rfl⟩,h⟩
theorem HJ{b j pos}:PE X (.Constant (.bool b) j pos) (tC (.bl b)):=λ_ _ _ H _ I h=>Constant_bool ⟨.bl b,H,I,rfl,h⟩
theorem El{j pos}:PE X (.Constant .none j pos) (tC .aW):=λ_ _ _ H _ I h=>Constant_none ⟨.aW,H,I,rfl,h⟩
theorem Eo{x j pos}:PE X (.Constant (.str x) j pos) (tC (.str x)):=λ_ _ _ H _ I h=>Calls.Constant_str ⟨.str x,H,I.tok _,⟨_,rfl⟩,h⟩
noncomputable def Gl(X:Cx)(x:Str):Prop:=X.env.kindOf x=some .globalImplicit
theorem uf{E:Value->Shared->Prop}{pins:List (Addr×Obj)}{s:Shared}{σ:St}{H:Hp}{x:Str}{u:Value}{pos:Pos}{Q:Value->Shared->Prop}(I:Inv X pins σ H s)(hg:Gl X x)(hm:X.mg x=some u)(h:Q u s)
  (hd:(x==("__debug__":Str))=false:=by decide):wpAny (model X.prog X.w) X.A (eval (.Name x pos) X.env) Q E s:=
 Calls.Name_function_global I.ok.kind hg (Calls.loadGlobal_global (by rw[I.ok.glob];exact I.mod.glob.keeps I.bk) hm h) hd
theorem kP{E:Value->Shared->Prop}{pins:List (Addr×Obj)}{s:Shared}{σ:St}{H:Hp}{x:Str}{u:Value}{pos:Pos}{Q:Value->Shared->Prop}(I:Inv X pins σ H s)(hg:Gl X x)(hm:X.mg x=none)(hv:bootBuiltins x=some u)(h:Q u s)
  (hn:x≠"__name__":=by decide) (hd:(x==("__debug__":Str))=false:=by decide):wpAny (model X.prog X.w) X.A (eval (.Name x pos) X.env) Q E s:=by
 obtain⟨mb,h1,h2⟩:=I.mod.blt;exact Calls.Name_function_global I.ok.kind hg (Calls.loadGlobal_builtin (by rw[I.ok.glob];exact I.mod.glob.keeps I.bk) hm (by rw[I.ok.blt];exact h1.keeps I.bk) ((h2 x hn).trans hv) h) hd
theorem Be{x:Str}{v:V}{u:Value}{pos:Pos}(hg:Gl X x)(hm:X.mg x=some u)(r:RelV v u)(hd:(x==("__debug__":Str))=false:=by decide):PE X (.Name x pos) (tC v):=
 λ_ _ _ H _ I h=>uf I hg hm ⟨v,H,I,r,h⟩ hd
theorem Bb{x:Str}{v:V}{u:Value}{pos:Pos}(hg:Gl X x)(hm:X.mg x=none)(hv:bootBuiltins x=some u)(r:RelV v u)(hn:x≠"__name__":=by decide)(hd:(x==("__debug__":Str))=false:=by decide):PE X (.Name x pos) (tC v):=
 λ_ _ _ H _ I h=>kP I hg hm hv ⟨v,H,I,r,h⟩ hn hd
variable{a b:Expr}{ta tb:TE}{pos:Pos}
noncomputable def tB(t:TE):TT:=λσ H Q=>t σ H λx H1=>∃c,x= .bl c/\Q c H1
variable{tA JS:TT}{rest:List Expr}
noncomputable def Mm(t u:TT):TT:=λσ H Q=>t σ H λc H1=>if c=true then u σ H1 Q else Q false H1
noncomputable def Pf(t u:TT):TT:=λσ H Q=>t σ H λc H1=>if c=true then Q true H1 else u σ H1 Q
noncomputable def Mp(t:TT):TT:=λσ H Q=>t σ H λc H1=>Q (!c) H1
theorem Bq(ha:PT X a tA):PW X (.BoolOp .And [a] pos) tA:=by
 intro wh pins s σ H Q I h;refine isTrue_and (bX (ha pins s σ H Q I h) λc s1 e=>?_);cases c with
 |true=>exact isTrue_and_nil e
 |false=>exact e
theorem EB(ha:PT X a tA):PW X (.BoolOp .Or [a] pos) tA:=by
 intro wh pins s σ H Q I h;refine isTrue_or (bX (ha pins s σ H Q I h) λc s1 e=>?_);cases c with
 |false=>exact isTrue_or_nil e
 |true=>exact e
theorem EA(ha:PT X a tA)(hb:PW X (.BoolOp .And (b::rest) pos) JS):PW X (.BoolOp .And (a::b::rest) pos) (Mm tA JS):=by
 intro wh pins s σ H Q I h;refine isTrue_and (bX (ha pins s σ H _ I h) λc s1⟨H1,I1,q1⟩=>?_);cases c with
 |true=>exact hb wh pins s1 σ H1 Q I1 q1
 |false=>exact⟨H1,I1,q1⟩
theorem HW(ha:PT X a tA)(hb:PW X (.BoolOp .Or (b::rest) pos) JS):PW X (.BoolOp .Or (a::b::rest) pos) (Pf tA JS):=by
 intro wh pins s σ H Q I h;refine isTrue_or (bX (ha pins s σ H _ I h) λc s1⟨H1,I1,q1⟩=>?_);cases c with
 |true=>exact⟨H1,I1,q1⟩
 |false=>exact hb wh pins s1 σ H1 Q I1 q1
theorem Ez(ha:PT X a tA):PT X (.UnaryOp .Not a pos) (Mp tA):=by intro pins s σ H Q I h;exact isTrue_not (bX (ha pins s σ H (λc H1=>Q (!c) H1) I h) λ_ _⟨H1,i,q⟩=>⟨H1,i,q⟩)
noncomputable def IE(ta tb:TE):TE:=λσ H Q=>ta σ H λx H1=>∃c,x= .bl c/\if c=true then tb σ H1 Q else Q (.bl false) H1
noncomputable def Mq(ta tb:TE):TE:=λσ H Q=>ta σ H λx H1=>∃c,x= .bl c/\if c=true then Q (.bl true) H1 else tb σ H1 Q
noncomputable def IL(ta:TE):TE:=λσ H Q=>ta σ H λx H1=>∃c,x= .bl c/\Q (.bl (!c)) H1
theorem En{op}{t:TE}(h:PE X a t):PE X (.BoolOp op [a] pos) t:=λpins s σ H Q I hw=>BoolOp_one (h pins s σ H Q I hw)
theorem Eg(ha:PE X a ta)(hb:PE X (.BoolOp .And (b::rest) pos) tb):PE X (.BoolOp .And (a::b::rest) pos) (IE ta tb):=by
 intro pins s σ H Q I h;refine BoolOp_and (bX (ha pins s σ H _ I h) λv s1⟨x,H1,I1,r1,q1⟩=>?_);obtain⟨c,rfl,q1⟩:=q1;cases r1;refine Uk ?_;cases c with
 |true=>exact hb pins s1 σ H1 Q I1 q1
 |false=>exact⟨.bl false,H1,I1,rfl,q1⟩
theorem HN(ha:PE X a ta)(hb:PE X (.BoolOp .Or (b::rest) pos) tb):PE X (.BoolOp .Or (a::b::rest) pos) (Mq ta tb):=by
 intro pins s σ H Q I h;refine BoolOp_or (bX (ha pins s σ H _ I h) λv s1⟨x,H1,I1,r1,q1⟩=>?_);obtain⟨c,rfl,q1⟩:=q1;cases r1;refine Uk ?_;cases c with
 |false=>exact hb pins s1 σ H1 Q I1 q1
 |true=>exact⟨.bl true,H1,I1,rfl,q1⟩
theorem Em(ha:PE X a ta):PE X (.UnaryOp .Not a pos) (IL ta):=by intro pins s σ H Q I h;refine UnaryOp_ (bX (ha pins s σ H _ I h) λv s1⟨x,H1,I1,r1,q1⟩=>?_);obtain⟨c,rfl,q1⟩:=q1;cases r1;exact not_of (Uk ⟨.bl (!c),H1,I1,rfl,q1⟩)
end
end L2
namespace L2
open PySem PySem.Spec PyProof.Rows
noncomputable def dJ(K:PySem.W.Frag)(H:Hp)(a:Addr)(xs:List V):Prop:=
 Rd H a (.lst xs)\/
  ∃(o:Obj)(its:Array Value)(n:Nat),K.lookup a=some o/\o.cls= .type "list"/\o.dict=none/\o.data= .seq its n/\its.size<=sizeLine/\au xs its.toList
noncomputable def fz(K:PySem.W.Frag)(H:Hp)(a:Addr)(xs:List V):Prop:=
 Rd H a (.tup xs)\/
  ∃(o:Obj)(its:Array Value)(n:Nat),K.lookup a=some o/\o.cls= .type "tuple"/\o.data= .seq its n/\its.size<=sizeLine/\au xs its.toList
noncomputable def Ke:Value->Option V
 |.none=>some .aW
 |.bool b=>some (.bl b)
 |.int i _=>some (.int i)
 |.str x _=>some (.str x)
 |.bytes b _=>some (.C2 b)
 |.float b _=>some (.zF b)
 |.ref a=>some (.ref a)
 |.type n=>some (.ty n)
 |_=>none
theorem RelV.abs{x:V}{u:Value}(r:RelV x u):Ke u=some x:=by
 cases x with
 |aW=>cases r;rfl
 |bl _=>cases r;rfl
 |int _=>obtain⟨t,rfl⟩:=r;rfl
 |str _=>obtain⟨t,rfl⟩:=r;rfl
 |C2 _=>obtain⟨t,rfl⟩:=r;rfl
 |zF _=>obtain⟨t,rfl⟩:=r;rfl
 |ref _=>cases r;rfl
 |ty _=>cases r;rfl
theorem RelV.inj{x y:V}{u:Value}(r:RelV x u)(q:RelV y u):x=y:=To (r.abs.symm.trans q.abs)
theorem au.inj:∀{xs ys:List V}{us:List Value},au xs us->au ys us->xs=ys
 |_,_,_,.nil,.nil=>rfl
 |_,_,_,.cons r t,.cons r' t'=>by rw[r.inj r',au.inj t t']
section
variable{X:Cx}{pins:List (Addr×Obj)}{σ:St}{H:Hp}{s:Shared}{a:Addr}{xs ys:List V}
theorem dJ.of{K:PySem.W.Frag}(h:H a=some (.lst xs)):dJ K H a xs:=.inl (.inl h)
theorem fz.of{K:PySem.W.Frag}(h:H a=some (.tup xs)):fz K H a xs:=.inl (.inl h)
theorem Inv.list(I:Inv X pins σ H s)(h:dJ X.K H a xs):∃its:List Value,au xs its/\PlainL s.heap a its.toArray/\xs.length<=sizeLine:=by
 rcases h with h|⟨o,its,n,hk,hc,hd,hs,hz,r⟩
 ·obtain⟨z,its,n,r,e⟩:=h.ok I.hok;exact⟨its,r,⟨_,n,e,rfl,rfl,rfl⟩,z⟩
 ·refine⟨its.toList,r,⟨o,n,I.pZ a o hk,hc,hd,by simpa using hs⟩,?_⟩;have e:=r.length;simp only[Qq]at e
  lia
theorem Inv.tuple(I:Inv X pins σ H s)(h:fz X.K H a xs):∃its:List Value,au xs its/\IsTup s.heap a its.toArray/\xs.length<=sizeLine:=by
 rcases h with h|⟨o,its,n,hk,hc,hs,hz,r⟩
 ·obtain⟨z,its,r,p⟩:=h.ok I.hok;exact⟨its,r,p.is,z⟩
 ·refine⟨its.toList,r,⟨o,I.pZ a o hk,hc,n,by simpa using hs⟩,?_⟩;have e:=r.length;simp only[Qq]at e
  lia
theorem Inv.yi(I:Inv X pins σ H s)(h:dJ X.K H a xs)(h':dJ X.K H a ys):xs=ys:=by
 obtain⟨its,r,⟨o,n,e,_,_,d⟩,_⟩:=I.list h;obtain⟨its',r',⟨o',n',e',_,_,d'⟩,_⟩:=I.list h';rw[e]at e';cases e';rw[d]at d';injection d' with d1 _;have:its=its':=by simpa using TJ Array.toList d1
 subst this;exact r.inj r'
theorem Inv.vU(I:Inv X pins σ H s)(h:fz X.K H a xs)(h':fz X.K H a ys):xs=ys:=by
 obtain⟨its,r,⟨o,e,_,n,d⟩,_⟩:=I.tuple h;obtain⟨its',r',⟨o',e',_,n',d'⟩,_⟩:=I.tuple h';rw[e]at e';cases e';rw[d]at d';injection d' with d1 _;have:its=its':=by simpa using TJ Array.toList d1
 subst this;exact r.inj r'
end
noncomputable abbrev Cx.eh(X:Cx)(E:Value->Shared->Prop):Cx:={X with xe:=E}
theorem Cx.Ok.eh{X:Cx}(ok:X.Ok)(E:Value->Shared->Prop):(X.eh E).Ok:=
 ⟨ok.mod,ok.kind,ok.glob,ok.blt,ok.above,ok.inj,ok.has,ok.C7,ok.hd,ok.frames,ok.JR,ok.Gr,ok.bs,ok.BV,ok.rW,ok.vj,ok.kJ,ok.Fz⟩
theorem Cx.Ok.gA{X:Cx}{E:Value->Shared->Prop}(ok:(X.eh E).Ok):X.Ok:=
 ⟨ok.mod,ok.kind,ok.glob,ok.blt,ok.above,ok.inj,ok.has,ok.C7,ok.hd,ok.frames,ok.JR,ok.Gr,ok.bs,ok.BV,ok.rW,ok.vj,ok.kJ,ok.Fz⟩
section
variable{X:Cx}{pins:List (Addr×Obj)}{σ:St}{H:Hp}{s:Shared}{E:Value->Shared->Prop}
theorem Inv.eh(I:Inv X pins σ H s)(E:Value->Shared->Prop):Inv (X.eh E) pins σ H s:=⟨I.ok.eh E,I.os,I.bare,I.base,I.loc,I.cell,I.free,I.eO,I.pin,I.hok,I.len⟩
theorem Inv.gA(I:Inv (X.eh E) pins σ H s):Inv X pins σ H s:=⟨I.ok.gA,I.os,I.bare,I.base,I.loc,I.cell,I.free,I.eO,I.pin,I.hok,I.len⟩
theorem SP.gA{D:Ends}{f:Flow}{s':Shared}(h:SP (X.eh E) pins D f s'):SP X pins D f s':=by
 cases f with
 |next=>obtain⟨σ',H',I,q⟩:=h;exact⟨σ',H',I.gA,q⟩
 |brk=>obtain⟨σ',H',I,q⟩:=h;exact⟨σ',H',I.gA,q⟩
 |cont=>obtain⟨σ',H',I,q⟩:=h;exact⟨σ',H',I.gA,q⟩
 |ret u=>obtain⟨v,σ',H',I,r,q⟩:=h;exact⟨v,σ',H',I.gA,r,q⟩
end
section
variable{X:Cx}{st:Stmt}{rest:List Stmt}{t u:TS}{e:Expr}{te:TE}{pos:Pos}
noncomputable def zg:TS:=λD σ H=>D.nx σ H
noncomputable def IQ(t u:TS):TS:=λD σ H=>t {D with nx:=u D} σ H
theorem Bm:uY X [] zg:=λ_ _ σ H _ I h=>wpAny_execs_nil ⟨σ,H,I,h⟩
theorem yN(h1:PS X st t)(h2:uY X rest u):uY X (st::rest) (IQ t u):=by
 intro pins s σ H D I h;refine wpAny_execs_cons (bX (h1 pins s σ H {D with nx:=u D} I h) λf s1 q=>?_);cases f with
 |next=>obtain⟨σ',H',I',q⟩:=q;exact h2 pins s1 σ' H' D I' q
 |ret v=>exact q
 |brk=>exact q
 |cont=>exact q
noncomputable def zf:TS:=λD σ H=>D.bk σ H
noncomputable def Ct:TS:=λD σ H=>D.ct σ H
theorem Bj:PS X (.Pass pos) zg:=λ_ _ σ H _ I h=>wpAny_Pass ⟨σ,H,I,h⟩
theorem yL:PS X (.Break pos) zf:=λ_ _ σ H _ I h=>wpAny_Break ⟨σ,H,I,h⟩
theorem qo:PS X (.Continue pos) Ct:=λ_ _ σ H _ I h=>wpAny_Continue ⟨σ,H,I,h⟩
theorem Inv.quiet{pins:List (Addr×Obj)}{σ:St}{H:Hp}{s:Shared}(I:Inv X pins σ H s):interactive X.env=false:=by simp[interactive,I.ok.kind]
noncomputable def uR(te:TE):TS:=λD σ H=>te σ H λ_ H1=>D.nx σ H1
theorem oE(he:PE X e te)(hs:swapsWith e none pos.line X.env=pure false:=by rfl):PS X (.Expr e pos) (uR te):=by intro pins s σ H D I h;exact wpAny_Expr_any (bX (he pins s σ H _ I h) λv s1⟨x,H1,I1,r1,q1⟩=>⟨σ,H1,I1,q1⟩) I.quiet hs
noncomputable def E4(te:TE):TS:=λD σ H=>te σ H D.rt
theorem sg(he:PE X e te):PS X (.Return (some e) pos) (E4 te):=by intro pins s σ H D I h;exact wpAny_Return_some (bX (he pins s σ H _ I h) λv s1⟨x,H1,I1,r1,q1⟩=>⟨x,σ,H1,I1,r1,q1⟩)
noncomputable def Cu:TS:=λD _ H=>D.rt .aW H
theorem Bk:PS X (.Return none pos) Cu:=λ_ _ σ H _ I h=>wpAny_Return_none ⟨.aW,σ,H,I,rfl,h⟩
noncomputable def IJ(c:TT)(t u:TS):TS:=λD σ H=>c σ H λb H1=>if b=true then t D σ H1 else u D σ H1
theorem HU{c:Expr}{a b:List Stmt}{tc:TT}(hc:PT X c tc)(ha:uY X a t)(hb:uY X b u):PS X (.If c a b pos) (IJ tc t u):=by
 intro pins s σ H D I h;refine wpAny_If (bX (hc pins s σ H _ I h) λd s1⟨H1,I1,q1⟩=>?_);cases d with
 |true=>exact ha pins s1 σ H1 D I1 q1
 |false=>exact hb pins s1 σ H1 D I1 q1
end
noncomputable abbrev TG:=V->St->Hp->(St->Hp->Prop)->Prop
noncomputable abbrev wo:=List V->St->Hp->(St->Hp->Prop)->Prop
noncomputable def PG(X:Cx)(target:Expr)(t:TG):Prop:=
 ∀(pins:List (Addr×Obj))(s:Shared)(σ:St)(H:Hp)(v:V)(u:Value)(Q:St->Hp->Prop),Inv X pins σ H s->RelV v u->t v σ H Q->
  wpAny (model X.prog X.w) X.A (assign target X.env u) (λ_ s'=>∃σ' H',Inv X pins σ' H' s'/\Q σ' H') X.xe s
noncomputable def FQ(X:Cx)(ts:List Expr)(t:wo):Prop:=
 ∀(pins:List (Addr×Obj))(s:Shared)(σ:St)(H:Hp)(vs:List V)(us:List Value)(Q:St->Hp->Prop),Inv X pins σ H s->au vs us->t vs σ H Q->
  wpAny (model X.prog X.w) X.A (assignInOrder ((assignEach ts X.env).map (·.2)) us) (λ_ s'=>∃σ' H',Inv X pins σ' H' s'/\Q σ' H') X.xe s
noncomputable abbrev CK:=V->V->V->Hp->(Hp->Prop)->Prop
noncomputable def FS(X:Cx)(t:CK):Prop:=
 ∀(pins:List (Addr×Obj))(s:Shared)(σ:St)(H:Hp)(o i v:V)(ov iv u:Value)(Q:Hp->Prop),Inv X pins σ H s->RelV o ov->RelV i iv->RelV v u->t o i v H Q->
  wpAny (model X.prog X.w) X.A (setItem ov iv u) (λ_ s'=>∃H',Inv X pins σ H' s'/\Q H') X.xe s
section
variable{X:Cx}{pos:Pos}
noncomputable def eR(i:Nat):TG:=λv σ H Q=>Q (σ.set i (some v)) H
theorem Bf{i:Nat}{x:Str}(hN:X.N.Nodup)(hi:X.N[i]?=some x)(hx:Loc X.env.scope x)(hf:X.fn x=true\/X.env.scope.names.lookup x=some .local:=by first|exact .inl rfl|exact .inr rfl|assumption):PG X (.Name x pos) (eR i):=by intro pins s σ H v u Q I r h;exact wpAny_assign_Name (qA I hN hi hx r (λs' I'=>⟨_,H,I',h⟩) hf)
noncomputable def Dl:wo:=λvs σ H Q=>vs=[]/\Q σ H
noncomputable def xD(t:TG)(u:wo):wo:=λvs σ H Q=>∃v r,vs=v::r/\t v σ H λσ' H'=>u r σ' H' Q
theorem Bg:FQ X [] Dl:=by intro pins s σ H vs us Q I r h;obtain⟨e,h⟩:=h;subst e;cases r;exact assignInOrder_nil ⟨σ,H,I,h⟩
theorem yI{e:Expr}{es:List Expr}{t:TG}{u:wo}(h1:PG X e t)(h2:FQ X es u)
  (hs:(assignEach (e::es) X.env).map (·.2)=assign e X.env::(assignEach es X.env).map (·.2):=by rfl):FQ X (e::es) (xD t u):=by
 intro pins s σ H vs us Q I r h;obtain⟨v,vr,e1,h⟩:=h;subst e1;cases r with
 |cons r rr=>rw[hs];refine assignInOrder_cons (bX (h1 pins s σ H _ _ _ I r h) λ_ s1⟨σ1,H1,I1,q1⟩=>?_);exact h2 pins s1 σ1 H1 _ _ Q I1 rr q1
noncomputable def Dm(K:PySem.W.Frag)(n:Nat)(t:wo):TG:=λv σ H Q=>∃a xs,v= .ref a/\fz K H a xs/\xs.length=n/\t xs σ H Q
theorem Es{es:List Expr}{k:Nat}{t:wo}{n:Nat}(hc:X.calm=true)(h:FQ X es t)
  (hn:(assignEach es X.env).length=n:=by rfl) (pT:(assignEach es X.env).findIdx? (·.1)=none:=by rfl):PG X (.Tuple es k pos) (Dm X.K n t):=by
 intro pins s σ H v u Q I r hw;obtain⟨a,xs,e1,hq,hl,hw⟩:=hw;subst e1;cases r;obtain⟨its,rv,ht,hz⟩:=I.tuple hq;refine assign_Tuple_tuple (I.ok.hd hc) ht (by simp[hn,<-hl,rv.length]) pT λh' hx=>?_
 have I1:Inv X pins σ H {s with heap:=h'}:=I.kept (t':=s.toks) λb o e=>hx b o (QB (Qg e)) e
 exact h pins _ σ H xs _ Q I1 (by simpa using rv) hw
noncomputable def Gv(to ti:TE)(t:CK):TG:=λv σ H Q=>to σ H λo H1=>ti σ H1 λi H2=>t o i v H2 λH3=>Q σ H3
theorem Er{o i:Expr}{to ti:TE}{t:CK}(ho:PE X o to)(hi:PE X i ti)(hs:FS X t)
  (ha:∀v,assign (.Subscript o i pos) X.env v=(do
   let ov<-holding [v] (eval o X.env)
   let iv<-holding [v,ov] (eval i X.env)
   standAt pos
   holding [v,ov,iv] (setItem ov iv v)
   release [v,ov,iv] []):=by intro _;rfl):PG X (.Subscript o i pos) (Gv to ti t):=by
 intro pins s σ H v u Q I r h;rw[ha];refine PY (T9 (bX (ho pins s σ H _ I h) λov s1⟨x,H1,I1,r1,q1⟩=>?_));refine PY (T9 (bX (hi pins s1 σ H1 _ I1 q1) λiv s2⟨y,H2,I2,r2,q2⟩=>?_));refine PY (Uj (PY (T9 (bX (hs pins s2 σ H2 x y v ov iv u _ I2 r1 r2 r q2) λ_ s3⟨H3,I3,q3⟩=>?_))));exact wpAny_release ⟨σ,H3,I3,q3⟩
noncomputable def oO(te:TE)(g:TG):TS:=λD σ H=>te σ H λx H1=>g x σ H1 D.nx
theorem yK{tg e:Expr}{te:TE}{g:TG}(he:PE X e te)(hg:PG X tg g)(hs:swapsWithSole [tg] e pos.line X.env=pure false:=by rfl)(hw:swappedStores [tg] e X.env=pure none:=by rfl)
  (h1:(assignEach [tg] X.env).map (·.2)=[assign tg X.env]:=by rfl):PS X (.Assign [tg] e pos) (oO te g):=by
 intro pins s σ H D I h;refine wpAny_Assign_stores (bX (he pins s σ H _ I h) λv s1⟨x,H1,I1,r1,q1⟩=>?_) hs hw;rw[h1];exact bX (hg pins s1 σ H1 x v _ I1 r1 q1) λ_ s2 q=>q
theorem yM{i:Nat}{x:Str}{e:Expr}{te:TE}{pos':Pos}(hN:X.N.Nodup)(hi:X.N[i]?=some x)(hx:Loc X.env.scope x)(he:PE X e te)(hs:swapsWith e (some (.Name x pos')) pos.line X.env=pure false:=by rfl)(hf:X.fn x=true\/X.env.scope.names.lookup x=some .local:=by first|exact .inl rfl|exact .inr rfl|assumption):
  PS X (.Assign [.Name x pos'] e pos) (oO te (eR i)):=by
 intro pins s σ H D I h;refine wpAny_Assign_Name (bX (he pins s σ H _ I h) λv s1⟨y,H1,I1,r1,q1⟩=>?_) hs;exact qA I1 hN hi hx r1 (λs2 I2=>⟨_,H1,I2,q1⟩) hf
end
structure It where
 go:Nat->Hp->Prop
 yld:Nat->Hp->V->Hp->Prop
 stop:Nat->Hp->Prop
noncomputable def iI(X:Cx)(pins:List (Addr×Obj))(H:Hp)(b:Addr):Prop:=
 H b=none/\b≠X.env.locals/\b∉X.fs/\(b∈X.ex\/X.s₀.heap.objs.size<=b)/\(∀x c,X.env.cells.lookup x=some c->c≠b)/\∀p∈X.pn++pins,p.1≠b
theorem Inv.xC{X:Cx}{pins:List (Addr×Obj)}{σ:St}{H H':Hp}{s:Shared}{b:Addr}(I:Inv X pins σ H s)(hb:s.heap.objs.size<=b)(hn:H' b=none):iI X pins H' b:=by
 refine⟨hn,Te (Qr I.lt hb),I.LF hb,.inr (Qh I.sz hb),λx c e z=>?_,λp hp z=>?_⟩
 ·obtain⟨v,q⟩:=I.cell x c e;exact absurd (Qr q.lt (by rw[z];exact hb)) (S8 _)
 ·exact absurd (Qr (Qg (I.pin p hp).1) (by rw[z];exact hb)) (S8 _)
structure Turn(P:Program)(w:World)(K:PySem.W.Frag)(tg:Expr)(J:It)(fp:List Addr)(it:Addr)(tn:Nat->Heap->Prop):Prop where
 mem:it∈fp
 obj:∀i h,tn i h->∀b∈fp,∃o,h.get? b=some o/\∀v,o.data≠ .cell v
 keep:∀i h h',tn i h->(∀b∈fp,∀o,h.get? b=some o->h'.get? b=some o)->tn i h'
 item:∀(X:Cx),X.prog=P->X.w=w->X.K=K->X.calm=true->∀(i:Nat)(pins:List (Addr×Obj))(s:Shared)(σ:St)(H:Hp)(E:Value->Shared->Prop),Inv X pins σ H s->(∀b∈fp,iI X pins H b)->tn i s.heap->J.go i H->
  wpAny (model P w) X.A (pyNext (.ref it)) (λr s1=>∃u,r=some u/\
   wpAny (model P w) X.A (letOwnedTupleGo tg (.ref it) u) (λ_ s2=>∃x H',Inv X pins σ H' s2/\RelV x u/\J.yld i H x H'/\tn (i+1) s2.heap/\∀b∈fp,H' b=none) E s1) E s
 done:∀(X:Cx),X.prog=P->X.w=w->X.K=K->X.calm=true->∀(i:Nat)(pins:List (Addr×Obj))(s:Shared)(σ:St)(H:Hp)(E:Value->Shared->Prop),Inv X pins σ H s->(∀b∈fp,iI X pins H b)->tn i s.heap->J.stop i H->
  wpAny (model P w) X.A (pyNext (.ref it)) (λr s1=>r=none/\Inv X pins σ H s1) E s
 self:∀(A:Around)(i:Nat)(s:Shared)(Q:Value->Shared->Prop)(E:Value->Shared->Prop),tn i s.heap->Q (.ref it) s->wpAny (model P w) A (pyIter (.ref it)) Q E s
noncomputable abbrev TI:=St->Hp->(It->Hp->Prop)->Prop
noncomputable def MA(X:Cx)(pins:List (Addr×Obj))(σ:St)(tg:Expr)(R:It->Hp->Prop)(oY:Value)(s2:Shared):Prop:=
 ∃(it:Addr)(fp:List Addr)(tn:Nat->Heap->Prop)(J:It)(H':Hp),oY= .ref it/\Inv X pins σ H' s2/\Turn X.prog X.w X.K tg J fp it tn/\tn 0 s2.heap/\(∀b∈fp,iI X pins H' b)/\R J H'
noncomputable def PI(X:Cx)(tg iter:Expr)(wi:TI):Prop:=
 ∀(pins:List (Addr×Obj))(s:Shared)(σ:St)(H:Hp)(R:It->Hp->Prop),Inv X pins σ H s->wi σ H R->
  wpAny (model X.prog X.w) X.A (eval iter X.env) (λv s1=>wpAny (model X.prog X.w) X.A (pyIter v) (MA X pins σ tg R) X.xe s1) X.xe s
theorem xN{M:Model}{A:Around}{E:Value->Shared->Prop}{s:Shared}{tg:Expr}{it:Addr}{u:Value}{o:Obj}{n:String}{vs:Array Value}{Q:Unit->Shared->Prop}(ho:s.heap.get? it=some o)(hc:o.cls= .type n)(hd:o.data= .fields vs)
  (hn:["enumerate","zip","dict_itemiterator","dict_reverseitemiterator","odict_iterator","itertools.zip_longest","itertools.pairwise"].contains n=false) (hQ:Q () s):wpAny M A (letOwnedTupleGo tg (.ref it) u) Q E s:=by
 unfold letOwnedTupleGo;cases tg<;>first
  |exact P4 hQ
  |(cases u<;>first
    |exact P4 hQ
    |(refine PY (wpAny_load ho ?_);rw[hc,hd];show wpAny M A (if (["enumerate","zip","dict_itemiterator","dict_reverseitemiterator","odict_iterator","itertools.zip_longest","itertools.pairwise"].contains n&&vs[0]?==some (rawInt _))=true then _ else _) Q E s;rw[TM (by intro h;rw[hn,Bool.false_and]at h;cases h)];exact P4 hQ))
noncomputable def Je(K:PySem.W.Frag)(a:Addr):It:=
 ⟨λi H=>∃xs x,dJ K H a xs/\xs[i]?=some x,λi H x H'=>H'=H/\∀xs,dJ K H a xs->xs[i]?=some x,λi H=>∃xs,dJ K H a xs/\xs.length<=i⟩
noncomputable def J6(K:PySem.W.Frag)(a:Addr):It:=
 ⟨λi H=>∃xs x,fz K H a xs/\xs[i]?=some x,λi H x H'=>H'=H/\∀xs,fz K H a xs->xs[i]?=some x,λi H=>∃xs,fz K H a xs/\xs.length<=i⟩
noncomputable def Jf(lo:Int)(n:Nat):It:=⟨λi _=>i<n,λi H x H'=>H'=H/\x= .int (lo+i),λi _=>n<=i⟩
theorem vV{P:Program}{w:World}{K:PySem.W.Frag}{tg:Expr}(a it:Addr):Turn P w K tg (Je K a) [it] it (λi h=>h.IsListIter it a i) where
 mem:=by simp
 obj:=λi h st b hb=>by
  have e:b=it:=by simpa using hb
  subst e;obtain⟨o,e,c,d⟩:=st;exact⟨o,e,λv z=>by rw[d]at z;cases z⟩
 keep:=λi h h' st k=>st.at λo e=>k it (by simp) o e
 item:=by
  intro X hP hw hK hc i pins s σ H E I hf st hg;subst hP hw hK;obtain⟨xs,x,hq,hx⟩:=hg;obtain⟨its,rv,p,hz⟩:=I.list hq;obtain⟨u,hu,ru⟩:=rv.get hx;obtain⟨f0,f1,f2,f3,f4,f5⟩:=hf it (by simp);refine wpAny_pyNext_list_item st p.isList (x:=u) (by simpa using hu) λh' ak sb=>?_
  have I1:Inv X pins σ H {s with heap:=h'}:=I.turned (t':=s.toks) (λb o hb e=>(sb.2 b hb).trans e) f0 f1 f3 f4 f5;obtain⟨o,e,c,d⟩:=id ak;exact⟨u,rfl,xN (s:={s with heap:=h'}) e c d (by decide) ⟨x,H,I1,ru,⟨rfl,λys hy=>by rw[I.yi hy hq];exact hx⟩,ak,λb hb=>(hf b hb).1⟩⟩
 done:=by intro X hP hw hK hc i pins s σ H E I hf st hg;subst hP hw hK;obtain⟨xs,hq,hx⟩:=hg;obtain⟨its,rv,p,hz⟩:=I.list hq;obtain⟨f0,f1,f2,f3,f4,f5⟩:=hf it (by simp);have hl:=rv.length;exact wpAny_pyNext_list_end (I.ok.hd hc) st p.isList (by simp;lia) λh' eb=>⟨rfl,I.turned (t':=s.toks) (λb o hb e=>eb b o hb e) f0 f1 f3 f4 f5⟩
 self:=λ_ _ _ _ _ st h=>wpAny_pyIter_listiter st h
theorem sM{P:Program}{w:World}{K:PySem.W.Frag}{tg:Expr}(a it:Addr):Turn P w K tg (J6 K a) [it] it (λi h=>h.IsTupleIter it a i) where
 mem:=by simp
 obj:=λi h st b hb=>by
  have e:b=it:=by simpa using hb
  subst e;obtain⟨o,e,c,d⟩:=st;exact⟨o,e,λv z=>by rw[d]at z;cases z⟩
 keep:=λi h h' st k=>st.at λo e=>k it (by simp) o e
 item:=by
  intro X hP hw hK hc i pins s σ H E I hf st hg;subst hP hw hK;obtain⟨xs,x,hq,hx⟩:=hg;obtain⟨its,rv,p,hz⟩:=I.tuple hq;obtain⟨u,hu,ru⟩:=rv.get hx;obtain⟨f0,f1,f2,f3,f4,f5⟩:=hf it (by simp);refine wpAny_pyNext_tuple_item st (show s.heap.IsTuple a its.toArray from p) (x:=u) (by simpa using hu) λh' ak sb=>?_
  have I1:Inv X pins σ H {s with heap:=h'}:=I.turned (t':=s.toks) (λb o hb e=>(sb.2 b hb).trans e) f0 f1 f3 f4 f5;obtain⟨o,e,c,d⟩:=id ak;exact⟨u,rfl,xN (s:={s with heap:=h'}) e c d (by decide) ⟨x,H,I1,ru,⟨rfl,λys hy=>by rw[I.vU hy hq];exact hx⟩,ak,λb hb=>(hf b hb).1⟩⟩
 done:=by intro X hP hw hK hc i pins s σ H E I hf st hg;subst hP hw hK;obtain⟨xs,hq,hx⟩:=hg;obtain⟨its,rv,p,hz⟩:=I.tuple hq;obtain⟨f0,f1,f2,f3,f4,f5⟩:=hf it (by simp);have hl:=rv.length;exact wpAny_pyNext_tuple_end (I.ok.hd hc) st (show s.heap.IsTuple a its.toArray from p) (by simp;lia) λh' eb=>⟨rfl,I.turned (t':=s.toks) (λb o hb e=>eb b o hb e) f0 f1 f3 f4 f5⟩
 self:=λ_ _ _ _ _ st h=>wpAny_pyIter_tupleiter st h
theorem sJ{P:Program}{w:World}{K:PySem.W.Frag}{tg:Expr}(it:Addr)(lo:Int)(n:Nat):Turn P w K tg (Jf lo n) [it] it (λi h=>IsRangeIter h it (lo+(i:Nat)*1) ((n:Int)-(i:Nat)) 1) where
 mem:=by simp
 obj:=λi h st b hb=>by
  have e:b=it:=by simpa using hb
  subst e;exact⟨_,st,λv z=>by
   have z':Data.fields _=Data.cell v:=z;cases z'⟩
 keep:=λi h h' st k=>k it (by simp) _ st
 item:=by
  intro X hP hw hK hc i pins s σ H E I hf st hg;subst hP hw hK;obtain⟨f0,f1,f2,f3,f4,f5⟩:=hf it (by simp);have W:=Walks.range (prog:=X.prog) (w:=X.w) (I.ok.hd hc) it lo 1 n;refine W.item i s _ _ hg st λv h' tk hv ak kk=>?_
  obtain⟨t,rfl⟩:=hv;have I1:Inv X pins σ H {s with heap:=h',toks:=tk}:=I.turned (λb o hb e=>kk b o (by simpa using hb) e) f0 f1 f3 f4 f5;refine⟨_,rfl,xN (s:={s with heap:=h',toks:=tk}) (n:="range_iterator") ak rfl rfl (by decide) ⟨.int (lo+i),H,I1,⟨t,?_⟩,⟨rfl,rfl⟩,ak,λb hb=>(hf b hb).1⟩⟩;rw[Int.mul_one]
 done:=by intro X hP hw hK hc i pins s σ H E I hf st hg;subst hP hw hK;obtain⟨f0,f1,f2,f3,f4,f5⟩:=hf it (by simp);exact wpAny_pyNext_range_end (I.ok.hd hc) st (by have:n<=i:=hg;lia) λh' eb=>⟨rfl,I.turned (t':=s.toks) (λb o hb e=>eb b o hb e) f0 f1 f3 f4 f5⟩
 self:=λ_ _ _ _ _ st h=>wpAny_pyIter_rangeiter st h
end L2
namespace L2
open PySem PySem.Spec PyProof.Rows
section
variable{X:Cx}{tg:Expr}
theorem yR{pins:List (Addr×Obj)}{σ:St}{H:Hp}{s:Shared}{R:It->Hp->Prop}{E:Value->Shared->Prop}{lo hi:Int}{t u v:Tok}{tk:Nat}(I:Inv X pins σ H s)(h1: -(2^62)<=lo)(h2:lo<2^62)(h3: -(2^62)<=hi)(h4:hi<2^62)
  (q:R (Jf lo (hi-lo).toNat) H):wpAny (model X.prog X.w) X.A (pyIter (.ref s.heap.objs.size)) (MA X pins σ tg R) E {s with heap:=s.heap.push {cls:=.type "range",data:=.fields #[.int lo t,.int hi u,.int 1 v]},toks:=tk}:=by
 refine wpAny_pyIter_range (IsRange.new ..) (small_one h1 h2 h3 h4) ?_;have I1:Inv X pins σ H {s with heap:=s.heap.push {cls:=.type "range",data:=.fields #[.int lo t,.int hi u,.int 1 v]},toks:=tk}:=I.kept λb o e=>P0 _ e
 refine⟨(s.heap.push {cls:=.type "range",data:=.fields #[.int lo t,.int hi u,.int 1 v]}).objs.size,[(s.heap.push {cls:=.type "range",data:=.fields #[.int lo t,.int hi u,.int 1 v]}).objs.size],_,_,H,rfl,
  I1.kept (t':=tk) λb o e=>P0 _ e,sJ _ lo (hi-lo).toNat,?_,λb hb=>?_,q⟩
 ·have e1:lo+((0:Nat):Int)*1=lo:=by simp
  have e2:(((hi-lo).toNat:Nat):Int)-((0:Nat):Int)=Builtin.Range.rangeSize lo hi 1:=by rw[rangeSize_one];split<;>lia
  show IsRangeIter _ _ (lo+((0:Nat):Int)*1) ((((hi-lo).toNat:Nat):Int)-((0:Nat):Int)) 1;rw[e1,e2];exact Qd _ rfl
 ·have e:b=(s.heap.push {cls:=.type "range",data:=.fields #[.int lo t,.int hi u,.int 1 v]}).objs.size:=by simpa using hb
  subst e;exact I1.xC (Qb _) (I1.hok.fresh (Qb _))
noncomputable def Hb(ta:TA):TI:=λσ H R=>ta σ H λvs H1=>∃j:Int,vs=[.int j]/\ -(2^62)<=j/\j<2^62/\R (Jf 0 j.toNat) H1
theorem vK{a:Expr}{ta:TA}{p pos:Pos}(hg:Gl X "range")(hm:X.mg "range"=none)(ha:PA X [a] ta)(hs:starEach [a] X.env=[(false,eval a X.env)]:=by rfl):PI X tg (.Call (.Name "range" p) [a] [] pos) (Hb ta):=by
 intro pins s σ H R I h;refine Call_ (kP I hg hm boot_range (Tp (bX (ha pos pins s σ H _ I h) λus s1⟨vs,H1,I1,r1,q1⟩=>?_) hs rfl));obtain⟨j,e,q1,q2,q⟩:=q1;subst e;cases r1 with
 |cons r rr=>cases rr;obtain⟨t,rfl⟩:=r;exact call_range_1 (yR I1 ⋯ ⋯ q1 q2 (by simpa using q))
noncomputable def IH(wi:TI)(g:TG)(tb:TS):TS:=λD σ H=>wi σ H λJ H1=>∃W:Nat->Nat->St->Hp->Prop,(∃m,W 0 m σ H1)/\∀i m σ H,W i m σ H->
 (J.stop i H/\D.nx σ H)\/(J.go i H/\∃N:St->Hp->Prop,(∀σ' H',N σ' H'->∃m',m'<m/\W (i+1) m' σ' H')/\∀x H',J.yld i H x H'->g x σ H' λσ2 H2=>tb {D with nx:=N,ct:=N,bk:=D.nx} σ2 H2)
noncomputable def lg(fp:List Addr)(h:Heap):List (Addr×Obj):=fp.filterMap λb=>(h.get? b).map λo=>(b,o)
theorem fE{fp:List Addr}{h:Heap}{b:Addr}{o:Obj}(hb:b∈fp)(e:h.get? b=some o):(b,o)∈lg fp h:=Sr.mpr ⟨b,hb,by rw[e];rfl⟩
theorem vH{fp:List Addr}{h:Heap}{p:Addr×Obj}(hp:p∈lg fp h):p.1∈fp/\h.get? p.1=some p.2:=by
 obtain⟨b,hb,e⟩:=Sr.mp hp;cases q:h.get? b with
 |none=>rw[q]at e;cases e
 |some o=>rw[q]at e;have e':(b,o)=p:=To e;subst e';exact⟨hb,q⟩
theorem Inv.pinned{pins:List (Addr×Obj)}{σ:St}{H:Hp}{s:Shared}{fp:List Addr}(I:Inv X pins σ H s)(hf:∀b∈fp,iI X pins H b)(ho:∀b∈fp,∃o,s.heap.get? b=some o/\∀v,o.data≠ .cell v):Inv X (pins++lg fp s.heap) σ H s:=
 I.uw λp hp=>(Qs.mp hp).elim (λz=>I.pin p (QC _ z)) λz=>by obtain⟨hb,e⟩:=vH z;obtain⟨f0,f1,f2,_⟩:=hf p.1 hb;obtain⟨o,e',d⟩:=ho p.1 hb;rw[e]at e';cases e';exact⟨e,f0,f1,f2,d⟩
theorem Inv.jh{pins pl:List (Addr×Obj)}{σ:St}{H:Hp}{s:Shared}(I:Inv X (pins++pl) σ H s):Inv X pins σ H s:=I.uw λp hp=>I.pin p (QC _ (Sn _ hp))
theorem Ey{iter:Expr}{body:List Stmt}{wi:TI}{g:TG}{tb:TS}{pos:Pos}(hp:PassesOwn (model X.prog X.w) X.A X.env X.xe)(hc:X.calm=true)(hi:PI X tg iter wi)(hg:PG X tg g)(hb:uY X body tb)
  (hs:∀x,foldedSetIterable iter X.env x=pure x:=by intro _;rfl):PS X (.For tg iter body [] pos) (IH wi g tb):=by
 intro pins s σ H D I h;refine wpAny_For (bX (hi pins s σ H _ I h) λv s1 h1=>bX h1 λoY s2 h2=>?_) hs;obtain⟨it,fp,tn,J,H2,e,I2,T,d5,f2,W,⟨m0,w0⟩,turn⟩:=h2;subst e;have oK:∀{H':Hp},(∀b∈fp,H' b=none)->∀b∈fp,iI X pins H' b:=λhn b hb=>⟨hn b hb,(f2 b hb).2⟩
 refine codeAny_forLoop_any (λn s'=>∃i σ' H',Inv X pins σ' H' s'/\tn i s'.heap/\(∀b∈fp,H' b=none)/\W i n σ' H') ?_ m0 ⟨0,σ,H2,I2,d5,λb hb=>(f2 b hb).1,w0⟩;rintro n s3 ⟨i,σ3,H3,I3,FJ,MN,w3⟩;rcases turn i n σ3 H3 w3 with ⟨stop,qn⟩|⟨go,N,hN,step⟩
 ·refine Ud hp (bX (T.done X rfl rfl rfl hc i pins s3 σ3 H3 X.xe I3 (oK MN) FJ stop) λr s4⟨hr,I4⟩=>?_);subst hr;exact wpAny_execs_nil ⟨σ3,H3,I4,qn⟩
 ·refine Ud hp (bX (T.item X rfl rfl rfl hc i pins s3 σ3 H3 X.xe I3 (oK MN) FJ go) λr s4⟨u,hr,h4⟩=>?_);subst hr;refine Ud hp (bX h4 λ_ s5⟨x,H5,I5,r5,y5,Mk,KB⟩=>?_);have NL:=I5.pinned (oK KB) (T.obj _ _ Mk);refine Ud hp (bX (hg _ s5 σ3 H5 x u _ NL r5 (step x H5 y5)) λ_ s6⟨σ6,H6,I6,q6⟩=>?_);refine Ud hp (bX (hb _ s6 σ6 H6 _ I6 q6) λf s7 q7=>?_);have again:∀{σ7:St}{H7:Hp},Inv X (pins++lg fp s5.heap) σ7 H7 s7->N σ7 H7->∃m,m<n/\∃i σ' H',Inv X pins σ' H' s7/\tn i s7.heap/\(∀b∈fp,H' b=none)/\W i m σ' H':=λ {σ7 H7} I7 n7=>by obtain⟨m',hm,w7⟩:=hN σ7 H7 n7;refine⟨m',hm,i+1,σ7,H7,I7.jh,T.keep _ _ _ Mk λb hb o e=>(I7.pin (b,o) (QC _ (QC _ (fE hb e)))).1,λb hb=>?_,w7⟩;obtain⟨o,e,d⟩:=T.obj _ _ Mk b hb;exact(I7.pin (b,o) (QC _ (QC _ (fE hb e)))).2.1
  cases f with
  |next=>obtain⟨σ7,H7,I7,n7⟩:=q7;exact again I7 n7
  |cont=>obtain⟨σ7,H7,I7,n7⟩:=q7;exact again I7 n7
  |brk=>obtain⟨σ7,H7,I7,q7⟩:=q7;exact⟨σ7,H7,I7.jh,q7⟩
  |ret v=>obtain⟨x7,σ7,H7,I7,r7,q7⟩:=q7;exact⟨x7,σ7,H7,I7.jh,r7,q7⟩
end
end L2
namespace L2
open PySem PySem.Spec PyProof.Rows
noncomputable abbrev R2:=V->V->Hp->VK->Prop
noncomputable def kr(X:Cx)(f:Value->Value->Sem Value)(r:R2):Prop:=
 ∀(pins:List (Addr×Obj))(s:Shared)(σ:St)(H:Hp)(x y:V)(v u:Value)(Q:VK),Inv X pins σ H s->RelV x v->RelV y u->r x y H Q->
  wpAny (model X.prog X.w) X.A (f v u) (EP X pins σ Q) X.xe s
noncomputable def Kc(X:Cx)(f:Value->Sem Value)(r:V->Hp->VK->Prop):Prop:=
 ∀(pins:List (Addr×Obj))(s:Shared)(σ:St)(H:Hp)(x:V)(v:Value)(Q:VK),Inv X pins σ H s->RelV x v->r x H Q->
  wpAny (model X.prog X.w) X.A (f v) (EP X pins σ Q) X.xe s
noncomputable def c7(X:Cx)(f:Value)(r:List V->Hp->VK->Prop):Prop:=
 ∀(pins:List (Addr×Obj))(s:Shared)(σ:St)(H:Hp)(xs:List V)(us:List Value)(Q:VK),Inv X pins σ H s->au xs us->r xs H Q->
  wpAny (model X.prog X.w) X.A (call f us) (EP X pins σ Q) X.xe s
noncomputable def Kb(X:Cx)(r:V->Hp->(Bool->Hp->Prop)->Prop):Prop:=
 ∀(pins:List (Addr×Obj))(s:Shared)(σ:St)(H:Hp)(x:V)(v:Value)(Q:Bool->Hp->Prop),Inv X pins σ H s->RelV x v->r x H Q->
  wpAny (model X.prog X.w) X.A (truthy v) (TP X pins σ Q) X.xe s
noncomputable def JT(r:R2)(ta tb:TE):TE:=λσ H Q=>ta σ H λx H1=>tb σ H1 λy H2=>r x y H2 Q
noncomputable def Pi(r:V->Hp->VK->Prop)(ta:TE):TE:=λσ H Q=>ta σ H λx H1=>r x H1 Q
noncomputable def rI(C:Int->Int->Prop)(g:Int->Int->V):R2:=λx y H Q=>∃i j,x= .int i/\y= .int j/\C i j/\Q (g i j) H
noncomputable def Ci(g:Int->Int->V):R2:=λx y H Q=>∃i j,x= .int i/\y= .int j/\Q (g i j) H
noncomputable def rU(g:Int->V):V->Hp->VK->Prop:=λx H Q=>∃i,x= .int i/\Q (g i) H
section
variable{X:Cx}{a b c:Expr}{ta tb tc:TE}{pos:Pos}
theorem CZ(ha:PE X a ta)(hb:PE X b tb){pins:List (Addr×Obj)}{s:Shared}{σ:St}{H:Hp}{R:V->V->Hp->Prop}(I:Inv X pins σ H s)
  (h:ta σ H λx H1=>tb σ H1 λy H2=>R x y H2) {Q:Value->Shared->Prop} {f:Value->Value->Sem Value}
  (hf:∀v u s2 x y H2,Inv X pins σ H2 s2->RelV x v->RelV y u->R x y H2->wpAny (model X.prog X.w) X.A (f v u) Q X.xe s2):
  wpAny (model X.prog X.w) X.A (eval a X.env) (λv s₁=>wpAny (model X.prog X.w) X.A (eval b X.env) (λu s₂=>wpAny (model X.prog X.w) X.A (f v u) Q X.xe s₂) X.xe s₁) X.xe s:=by
 refine bX (ha pins s σ H _ I h) λv s1⟨x,H1,I1,r1,q1⟩=>?_
 refine bX (hb pins s1 σ H1 _ I1 q1) λu s2⟨y,H2,I2,r2,q2⟩=>?_
 exact hf v u s2 x y H2 I2 r1 r2 q2
theorem HM{op:Operator}{r:R2}(ho:kr X (binaryOp op) r)(ha:PE X a ta)(hb:PE X b tb):PE X (.BinOp a op b pos) (JT r ta tb):=by intro pins s σ H Q I h;exact wpAny_BinOp (CZ ha hb I h λv u s2 x y H2 I2 rx ry q=>ho pins s2 σ H2 x y v u Q I2 rx ry q)
theorem HQ{op:UnaryOp}{r:V->Hp->VK->Prop}(ho:Kc X (unaryOp op) r)(ha:PE X a ta):PE X (.UnaryOp op a pos) (Pi r ta):=by intro pins s σ H Q I h;exact UnaryOp_ (bX (ha pins s σ H _ I h) λv s1⟨x,H1,I1,r1,q1⟩=>ho pins s1 σ H1 x v Q I1 r1 q1)
theorem JO{f:Value->Value->Sem Value}{C:Int->Int->Prop}{g:Int->Int->Int}
  (rule:∀(i j:Int)(t u:Tok)(s:Shared)(Q:Value->Shared->Prop)(E:Value->Shared->Prop),C i j->Q (.int (g i j) s.toks) {s with toks:=s.toks+1}->wpAny (model X.prog X.w) X.A (f (.int i t) (.int j u)) Q E s):
  kr X f (rI C λi j=>.int (g i j)):=by
 intro pins s σ H x y v u Q I rx ry h;obtain⟨i,j,rfl,rfl,hc,q⟩:=h;obtain⟨t,rfl⟩:=rx;obtain⟨t',rfl⟩:=ry;exact rule i j t t' s _ _ hc ⟨.int (g i j),H,I.tok _,⟨_,rfl⟩,q⟩
theorem HC{f:Value->Value->Sem Value}{g:Int->Int->Int}
  (rule:∀(i j:Int)(t u:Tok)(s:Shared)(Q:Value->Shared->Prop)(E:Value->Shared->Prop),Q (.int (g i j) s.toks) {s with toks:=s.toks+1}->wpAny (model X.prog X.w) X.A (f (.int i t) (.int j u)) Q E s):
  kr X f (Ci λi j=>.int (g i j)):=by
 intro pins s σ H x y v u Q I rx ry h;obtain⟨i,j,rfl,rfl,q⟩:=h;obtain⟨t,rfl⟩:=rx;obtain⟨t',rfl⟩:=ry;exact rule i j t t' s _ _ ⟨.int (g i j),H,I.tok _,⟨_,rfl⟩,q⟩
theorem A2{f:Value->Value->Sem Value}{g:Int->Int->Bool}
  (rule:∀(i j:Int)(t u:Tok)(s:Shared)(Q:Value->Shared->Prop)(E:Value->Shared->Prop),Q (.bool (g i j)) s->wpAny (model X.prog X.w) X.A (f (.int i t) (.int j u)) Q E s):
  kr X f (Ci λi j=>.bl (g i j)):=by
 intro pins s σ H x y v u Q I rx ry h;obtain⟨i,j,rfl,rfl,q⟩:=h;obtain⟨t,rfl⟩:=rx;obtain⟨t',rfl⟩:=ry;exact rule i j t t' s _ _ ⟨.bl (g i j),H,I,rfl,q⟩
noncomputable def J0(i j:Int):Prop:=0<j/\j<1073741824
noncomputable def CB(i j:Int):Prop:=(-(2^64)<i/\i<2^64)\/(-(2^64)<j/\j<2^64)
theorem CB.ok{i j:Int}(h:CB i j):IntMulOk i j:=by
 rcases h with ⟨h1,h2⟩|⟨h1,h2⟩
 ·exact .of_left (intBits_le_64 h1 h2)
 ·exact .of_right (intBits_le_64 h1 h2)
theorem D5:kr X (binaryOp .Add) (Ci λi j=>.int (i+j)):=HC λ_ _ _ _ _ _ _ q=>add_int q
theorem Ed:kr X (binaryOp .Sub) (Ci λi j=>.int (i-j)):=HC λ_ _ _ _ _ _ _ q=>sub_int q
theorem Ec:kr X (binaryOp .Mult) (rI CB λi j=>.int (i*j)):=JO λ_ _ _ _ _ _ _ hc q=>mul_int q hc.ok
theorem JP:kr X (binaryOp .FloorDiv) (rI J0 λi j=>.int (i/j)):=JO λi j _ _ _ _ _ hc q=>by have h1:(0:Int)<j:=hc.1;have h2:j<1073741824:=hc.2;exact floordiv_int ⋯ (by rw[Int.fdiv_eq_ediv_of_nonneg i ⋯];exact q) (.inl (PyProof.noPylong_small ⋯))
theorem Eb:kr X (binaryOp .Mod) (rI (λ_ j=>0<j) λi j=>.int (i % j)):=JO λi j _ _ _ _ _ hc q=>by have h1:(0:Int)<j:=hc;exact mod_int' ⋯ (by rw[Int.fmod_eq_emod_of_nonneg i ⋯];exact q)
theorem E8{f:Value->Sem Value}{g:Int->Int}
  (rule:∀(i:Int)(t:Tok)(s:Shared)(Q:Value->Shared->Prop)(E:Value->Shared->Prop),Q (.int (g i) s.toks) {s with toks:=s.toks+1}->wpAny (model X.prog X.w) X.A (f (.int i t)) Q E s):
  Kc X f (rU λi=>.int (g i)):=by
 intro pins s σ H x v Q I rx h;obtain⟨i,rfl,q⟩:=h;obtain⟨t,rfl⟩:=rx;exact rule i t s _ _ ⟨.int (g i),H,I.tok _,⟨_,rfl⟩,q⟩
theorem E9:Kc X (unaryOp .USub) (rU λi=>.int (-i)):=E8 λ_ _ _ _ _ q=>neg_int q
end
section
variable{X:Cx}{a b c:Expr}{ta tb tc:TE}{pos:Pos}
theorem xy{pins:List (Addr×Obj)}{σ:St}{H:Hp}{s:Shared}{Q:VK}{k k':Bool}(I:Inv X pins σ H s)(q:Q (.bl k) H)(e:k=k'):EP X pins σ Q (.bool k') s:=by subst e;exact⟨.bl k,H,I,rfl,q⟩
theorem HG:kr X (compareOp .Lt) (Ci λi j=>.bl (decide (i<j))):=A2 λ_ _ _ _ _ _ _ q=>lt_int q
theorem HF:kr X (compareOp .LtE) (Ci λi j=>.bl (decide (i<=j))):=A2 λ_ _ _ _ _ _ _ q=>le_int q
theorem HE:kr X (compareOp .Gt) (Ci λi j=>.bl (decide (j<i))):=A2 λ_ _ _ _ _ _ _ q=>gt_int q
theorem HD:kr X (compareOp .GtE) (Ci λi j=>.bl (decide (j<=i))):=A2 λ_ _ _ _ _ _ _ q=>ge_int q
theorem Ea:kr X (compareOp .Is) (λx y H Q=>y= .aW/\Q (.bl (decide (x= .aW))) H):=by
 intro pins s σ H x y v u Q I rx ry h;obtain⟨rfl,q⟩:=h;cases ry;refine is_none_gen (xy I q ?_);cases x<;>first
  |(cases rx;rfl)
  |(obtain⟨t,rfl⟩:=rx;rfl)
theorem A5:kr X (compareOp .IsNot) (λx y H Q=>y= .aW/\Q (.bl (!decide (x= .aW))) H):=by
 intro pins s σ H x y v u Q I rx ry h;obtain⟨rfl,q⟩:=h;cases ry;refine isnot_none_gen (xy I q ?_);cases x<;>first
  |(cases rx;rfl)
  |(obtain⟨t,rfl⟩:=rx;rfl)
theorem Bd{op:CmpOp}{r:R2}(ho:kr X (compareOp op) r)(ha:PE X a ta)(hb:PE X b tb)(hm:behindInMarks op b=false):PE X (.Compare a [op] [b] pos) (JT r ta tb):=by intro pins s σ H Q I h;exact wpAny_Compare1 (CZ ha hb I h λv u s2 x y H2 I2 rx ry q=>ho pins s2 σ H2 x y v u Q I2 rx ry q) hm
noncomputable def IR(t:TE):TT:=λσ H Q=>t σ H λx H'=>∃k,x= .bl k/\Q k H'
theorem Bn{op:CmpOp}{r:R2}(ho:kr X (compareOp op) r)(ha:PE X a ta)(hb:PE X b tb)(hm:behindInMarks op b=false):PT X (.Compare a [op] [b] pos) (IR (JT r ta tb)):=by
 intro pins s σ H Q I h;refine wpAny_isTrue_Compare1 (bX (ha pins s σ H _ I h) λv s1⟨x,H1,I1,r1,q1⟩=>bX (hb pins s1 σ H1 _ I1 q1) λu s2⟨y,H2,I2,r2,q2⟩=>
  bX (ho pins s2 σ H2 x y v u _ I2 r1 r2 q2) λc s3⟨z,H3,I3,r3,k,e,q3⟩=>?_) hm
 subst e;cases r3;exact Uk ⟨H3,I3,q3⟩
noncomputable def FV(K:PySem.W.Frag)(x:V)(H:Hp)(k:Bool):Prop:=
 match x with
 |.aW=>k=false
 |.bl b=>k=b
 |.int i=>k=(i != 0)
 |.str y=>y.length<=sizeLine/\k=((y.length:Int) != 0)
 |.C2 y=>y.size<=sizeLine/\k=((y.size:Int) != 0)
 |.ref p=>(∃xs,dJ K H p xs/\k= !xs.isEmpty)\/(∃xs,fz K H p xs/\k= !xs.isEmpty)\/∃cY,H p=some (.dK cY)/\k= !cY.isEmpty
 |_=>False
theorem rE{κ:Type}{cY:List (κ×V)}{vs:List (κ×Value)}(r:KV cY vs):(!vs.isEmpty)= !cY.isEmpty:=by cases r<;>rfl
theorem kN{xs:List V}{its:List Value}(r:au xs its):(!its.toArray.isEmpty)= !xs.isEmpty:=by cases r<;>simp
theorem kR:(sizeLine:Nat)<2^63:=by rw[T4];decide
theorem E6:Kb X (λx H Q=>∃k,FV X.K x H k/\Q k H):=by
 intro pins s σ H x v Q I rx h;obtain⟨k,e,q⟩:=h;have hl:=kR;have hs:sizeLine=16777216:=T4;cases x with
 |aW=>cases rx;have e':k=false:=e;subst e';exact truthy_none ⟨H,I,q⟩
 |bl b=>cases rx;have e':k=b:=e;subst e';exact Uk ⟨H,I,q⟩
 |int i=>obtain⟨t,rfl⟩:=rx;have e':k=(i != 0):=e;subst e';exact PySem.P.truthy_int ⟨H,I,q⟩
 |str y=>obtain⟨t,rfl⟩:=rx;obtain⟨hy,e'⟩:y.length<=sizeLine/\k=((y.length:Int) != 0):=e;subst e';exact PySem.P.truthy_str ⋯ ⟨H,I.tok _,q⟩
 |C2 y=>obtain⟨t,rfl⟩:=rx;obtain⟨hy,e'⟩:y.size<=sizeLine/\k=((y.size:Int) != 0):=e;subst e';exact PySem.W.truthy_bytes ⋯ ⟨H,I.tok _,q⟩
 |ref p=>
  cases rx;have e':(∃xs,dJ X.K H p xs/\k= !xs.isEmpty)\/(∃xs,fz X.K H p xs/\k= !xs.isEmpty)\/∃cY,H p=some (.dK cY)/\k= !cY.isEmpty:=e;rcases e' with ⟨xs,hx,e'⟩|⟨xs,hx,e'⟩|⟨cY,hx,e'⟩
  ·subst e';obtain⟨its,r,pl,hz⟩:=I.list hx;have hlen:=r.length;exact wpAny_truthy_list pl.isList (by simp only[P6];lia) ⟨H,I.tok _,by rw[kN r];exact q⟩
  ·subst e';obtain⟨its,r,pl,hz⟩:=I.tuple hx;have hlen:=r.length;exact truthy_tuple pl (by simp only[P6];lia) ⟨H,I.tok _,by rw[kN r];exact q⟩
  ·subst e';obtain⟨hz,hS,vs,r,m⟩:cY.length<=sizeLine/\(p==sysModules)=false/\∃vs,KV cY vs/\s.heap.DictOf (oz X.prog X.w) p vs:=I.hok p _ hx;have hlen:cY.length=vs.length:=Paired.length r;exact wpAny_truthy_dict hS m ⋯ ⟨H,I.tok _,by rw[rE r];exact q⟩
 |_=>exact(show False from e).elim
theorem yO(ha:PE X a ta)(he:∀whole,isTrue a X.env whole=(do let v<-whole;standAt a.pos;holding [v] (truthy v))):
  PT X a (λσ H Q=>ta σ H λx H'=>∃k,FV X.K x H' k/\Q k H'):=by
 intro pins s σ H Q I h;exact isTrue_plain (bX (ha pins s σ H _ I h) λv s1⟨x,H1,I1,r1,q1⟩=>E6 pins s1 σ H1 x v Q I1 r1 q1) (he _)
theorem vals1{x:V}{us:List Value}(r:au [x] us):∃u,us=[u]/\RelV x u:=by
 cases r with
 |cons r1 r2=>cases r2;exact⟨_,rfl,r1⟩
theorem vals2{x y:V}{us:List Value}(r:au [x,y] us):∃u w',us=[u,w']/\RelV x u/\RelV y w':=by
 cases r with
 |cons r1 r2=>
  cases r2 with
  |cons r3 r4=>cases r4;exact⟨_,_,rfl,r1,r3⟩
theorem wO:c7 X (.builtin "abs") (λxs H Q=>∃i,xs=[.int i]/\Q (.int (if i<0 then -i else i)) H):=by intro pins s σ H xs us Q I r h;obtain⟨i,rfl,q⟩:=h;obtain⟨u,rfl,t,rfl⟩:=vals1 r;exact call_abs_int λu tk=>⟨.int (if i<0 then -i else i),H,I.tok _,⟨_,rfl⟩,q⟩
theorem va(hc:X.calm=true):c7 X (.builtin "max") (λxs H Q=>∃i j,xs=[.int i,.int j]/\Q (.int (if j>i then j else i)) H):=by
 intro pins s σ H xs us Q I r h;obtain⟨i,j,rfl,q⟩:=h;obtain⟨u,w',rfl,⟨t,rfl⟩,⟨t',rfl⟩⟩:=vals2 r;refine max_two_ints (I.ok.hd hc) λh' tk k=>⟨_,H,I.kept k,?_,q⟩
 by_cases hj:j>i
 ·rw[TN hj,TN hj];exact⟨_,rfl⟩
 ·rw[TM hj,TM hj];exact⟨_,rfl⟩
theorem vc(hc:X.calm=true):c7 X (.builtin "min") (λxs H Q=>∃i j,xs=[.int i,.int j]/\Q (.int (if j<i then j else i)) H):=by
 intro pins s σ H xs us Q I r h;obtain⟨i,j,rfl,q⟩:=h;obtain⟨u,w',rfl,⟨t,rfl⟩,⟨t',rfl⟩⟩:=vals2 r;refine min_two_ints (I.ok.hd hc) λh' tk k=>⟨_,H,I.kept k,?_,q⟩
 by_cases hj:j<i
 ·rw[TN hj,TN hj];exact⟨_,rfl⟩
 ·rw[TM hj,TM hj];exact⟨_,rfl⟩
noncomputable def J7(K:PySem.W.Frag)(x:V)(H:Hp)(n:Nat):Prop:=
 match x with
 |.str y=>y.length<=sizeLine/\n=y.length
 |.C2 y=>y.size<=sizeLine/\n=y.size
 |.ref p=>(∃xs,dJ K H p xs/\n=xs.length)\/∃xs,fz K H p xs/\n=xs.length
 |_=>False
theorem kB:c7 X (.builtin "len") (λxs H Q=>∃x n,xs=[x]/\J7 X.K x H n/\Q (.int n) H):=by
 intro pins s σ H xs us Q I r h;obtain⟨x,n,rfl,e,q⟩:=h;obtain⟨u,rfl,rx⟩:=vals1 r;have hl:=kR;have hs:sizeLine=16777216:=T4;cases x with
 |str y=>obtain⟨t,rfl⟩:=rx;obtain⟨hy,e'⟩:y.length<=sizeLine/\n=y.length:=e;subst e';exact len_str ⋯ ⟨.int _,H,I.tok _,⟨_,rfl⟩,q⟩
 |C2 y=>obtain⟨t,rfl⟩:=rx;obtain⟨hy,e'⟩:y.size<=sizeLine/\n=y.size:=e;subst e';exact PySem.W.len_bytes ⋯ ⟨.int _,H,I.tok _,⟨_,rfl⟩,q⟩
 |ref p=>
  cases rx;have e':(∃xs,dJ X.K H p xs/\n=xs.length)\/∃xs,fz X.K H p xs/\n=xs.length:=e;rcases e' with ⟨xs,hx,e'⟩|⟨xs,hx,e'⟩
  ·subst e';obtain⟨its,r',pl,hz⟩:=I.list hx;have hlen:=r'.length;exact Calls.call_len_list pl.isList (by simp only[P6];lia) ⟨.int xs.length,H,I.tok _,⟨_,by simp only[P6];rw[hlen]⟩,q⟩
  ·subst e';obtain⟨its,r',pl,hz⟩:=I.tuple hx;have hlen:=r'.length;exact len_tuple pl (by simp only[P6];lia) ⟨.int xs.length,H,I.tok _,⟨_,by simp only[P6];rw[hlen]⟩,q⟩
 |_=>exact(show False from e).elim
end
end L2
namespace L2
open PySem PySem.Spec PyProof.Rows
structure CH(h:Heap)(x dx C:Addr)(mA:Str->Option Value):Prop where
 obj:h.get? x=some (PySem.W.instObj C dx)
 ns:h.Ns1 dx mA
 ne:dx≠x
theorem vE{h:Heap}{dx:Addr}{mA:Str->Option Value}(n:h.Ns1 dx mA):∃od,h.get? dx=some od/\∀name,PySem.W.lookIn name od=some (mA name):=by
 obtain⟨o,es,ep,ho,hd,hk,_,hm⟩:=n;refine⟨o,ho,λname=>?_⟩;have e:=hm name;unfold nsFind findBy at e;rw[<-Array.find?_toList]at e;unfold PySem.W.lookIn;rw[hd];dsimp only;split
 ·rename_i y q;rw[q]at e;exact TJ some e
 ·rename_i q;rw[q]at e;have a:es.toList.any (·.refKey)=false:=by rw[RE];intro y hy;obtain⟨z,t,K6⟩:=hk y (Array.mem_toList_iff.mp hy);simp[DictEntry.refKey,K6]
  have a':¬es.toList.any (·.refKey)=true:=by rw[a];exact Q2
  rw[TM a'];exact TJ some e
theorem CH.look{h:Heap}{x dx C:Addr}{mA:Str->Option Value}(I:CH h x dx C mA):∃od,PySem.W.InstAt h x (PySem.W.instObj C dx) C (some od)/\∀name,PySem.W.lookIn name od=some (mA name):=
 let ⟨od,ho,hl⟩:=vE I.ns
 ⟨od,⟨I.obj,rfl,rfl,ho⟩,hl⟩
section
variable{P:Program}{w:World}{H H':Hp}{h h':Heap}{a C dx:Addr}{fs KC:List (Str×V)}
theorem AJ(hok:fv P w H h)(e:H a=some (.ins C dx fs)):∃mA,CH h a dx C mA/\(∀f,CJ (fs.lookup f) (mA f))/\PySem.Within mA (fs.map (·.1))/\fs.length<=1000/\H dx=some (.own a):=by obtain⟨d,z,ne,ob,mA,n,r,q⟩:=(show bM P w H h a (.ins C dx fs) from hok a _ e);exact⟨mA,⟨ob,n,ne⟩,r,q,z,d⟩
end
structure J1(K:PySem.W.Frag)(C:Addr):Prop where
 pg:PySem.W.plainGet K C Str.empty=true
 hd:PySem.W.hasDictIn K C=true
 po:PySem.W.plainOver K C=true
 sa:PySem.W.findIn K (.ref C) "__setattr__"=some (some (.builtin "object.__setattr__"))
theorem J1.get{K:PySem.W.Frag}{C:Addr}(c:J1 K C)(f:Str):PySem.W.plainGet K C f=true:=c.pg
section
variable{X:Cx}{pins:List (Addr×Obj)}{σ:St}{H:Hp}{s:Shared}{A:Around}{E:Value->Shared->Prop}{Q:Value->Shared->Prop}{c:Value}{b:Bool}
inductive iM(K:PySem.W.Frag)(H:Hp):V->Value->Prop where
 |aW:iM K H .aW (.type "NoneType")
 |bl (x:Bool):iM K H (.bl x) (.type "bool")
 |int (i:Int):iM K H (.int i) (.type "int")
 |str (x:Str):iM K H (.str x) (.type "str")
 |zF (x:UInt64):iM K H (.zF x) (.type "float")
 |lst {a:Addr} {xs:List V} (e:H a=some (.lst xs)):iM K H (.ref a) (.type "list")
 |tO {a:Addr} {o:Obj} {xs:List V} (e:H a=some (.tO o (.lst xs))):iM K H (.ref a) (.type "list")
 |tup {a:Addr} {xs:List V} (e:H a=some (.tup xs)):iM K H (.ref a) (.type "tuple")
 |dK {a:Addr} {cY:List (Key×V)} (e:H a=some (.dK cY)):iM K H (.ref a) (.type "dict")
 |dT {a:Addr} {cY:List (List Key×V)} (e:H a=some (.dT cY)):iM K H (.ref a) (.type "dict")
 |ins {a C dx:Addr} {fs:List (Str×V)} (e:H a=some (.ins C dx fs)) (cl:J1 K C) (ha:PySem.W.findIn K (.ref C) "__class__"=some (some (.builtin "object.__class__")))
   (hn:PySem.W.specialIn K (.builtin "object.__class__") "__get__"=some (some (.builtin "getset_descriptor.__get__"))) (Nf:PySem.W.takesIn K (.builtin "object.__class__")=some true)
   (hm:PySem.W.mroIn K C (.type "object")=some true):iM K H (.ref a) (.ref C)
theorem vy{x:V}{u t:Value}(I:Inv X pins σ H s)(rx:RelV x u)(ty:iM X.K H x t)(e:PySem.W.kitOne X.K t c=some b)(h:∀tk,Q (.bool b) {s with toks:=tk}):
  wpAny (model X.prog X.w) A (call (.builtin "isinstance") [u,c]) Q E s:=by
 cases ty with
 |aW=>cases (show u=Value.none from rx);exact Tx PySem.W.kitx_none I.pZ True.intro e (λz=>nomatch z) h
 |bl y=>cases (show u=Value.bool y from rx);exact Tx PySem.W.kitx_bool I.pZ True.intro e (λz=>nomatch z) h
 |int i=>obtain⟨t,q⟩:=(show∃t,u=Value.int i t from rx);cases q;exact Tx PySem.W.kitx_int I.pZ True.intro e (λz=>nomatch z) h
 |str y=>obtain⟨t,q⟩:=(show∃t,u=Value.str y t from rx);cases q;exact Tx PySem.W.kitx_str I.pZ True.intro e (λz=>nomatch z) h
 |zF y=>obtain⟨t,q⟩:=(show∃t,u=Value.float y t from rx);cases q;exact Tx PySem.W.kitx_float I.pZ True.intro e (λz=>nomatch z) h
 |@lst a xs ea=>cases (show u=Value.ref a from rx);obtain⟨_,_,n,_,h1⟩:=(show bM X.prog X.w H s.heap a (.lst xs) from I.hok a _ ea);exact Tx PySem.W.kitx_list I.pZ ⟨_,h1,rfl⟩ e (λz=>nomatch z) h
 |@tO a ob xs ea=>cases (show u=Value.ref a from rx);obtain⟨_,_,_,n,_,h1⟩:=(show bM X.prog X.w H s.heap a (.tO ob (.lst xs)) from I.hok a _ ea);exact Tx PySem.W.kitx_list I.pZ ⟨_,h1,rfl⟩ e (λz=>nomatch z) h
 |@tup a xs ea=>cases (show u=Value.ref a from rx);obtain⟨_,_,_,p⟩:=(show bM X.prog X.w H s.heap a (.tup xs) from I.hok a _ ea);obtain⟨o,h1,h2,_⟩:=p;exact Tx PySem.W.kitx_tuple I.pZ ⟨o,h1,h2⟩ e (λz=>nomatch z) h
 |@dK a cY ea=>cases (show u=Value.ref a from rx);obtain⟨_,_,vs,_,p⟩:=(show bM X.prog X.w H s.heap a (.dK cY) from I.hok a _ ea);obtain⟨o,es,ep,h1,h2,_⟩:=p;exact Tx PySem.W.kitx_dict I.pZ ⟨o,h1,h2.1⟩ e (λz=>nomatch z) h
 |@dT a cY ea=>cases (show u=Value.ref a from rx);obtain⟨_,_,xs,_,o,es,ep,h1,h2,_⟩:=(show bM X.prog X.w H s.heap a (.dT cY) from I.hok a _ ea);exact Tx PySem.W.kitx_dict I.pZ ⟨o,h1,h2.1⟩ e (λz=>nomatch z) h
 |@ins a C dx fs ea cl ha hn Nf hm=>cases (show u=Value.ref a from rx);obtain⟨mA,O,_⟩:=AJ I.hok ea;obtain⟨od,J,_⟩:=O.look;exact Tx (PySem.W.kitx_own (cl.get _) cl.hd ha hn Nf hm) I.pZ J e (λz=>nomatch z) h
end
end L2
namespace L2
open PySem PySem.Spec PyProof.Rows
structure iJ(k:Nat)(A:Around):Prop where
 hd:A.handled=none
 dp:A.depth+3*k+5<recursionLimit
 un:A.units+16*k+200<cLine
theorem iJ.deeper{k:Nat}{A:Around}(r:iJ (k+1) A)(env:Env):iJ k (A.deeper env):=
 ⟨r.hd,by have:=r.dp;show A.depth+1+3*k+5<_;lia,by have:=r.un;show A.units+3+16*k+200<_;lia⟩
theorem iJ.depth{k:Nat}{A:Around}(r:iJ k A):A.depth<recursionLimit:=by have:=r.dp;lia
noncomputable def IK:TA:=λ_ H Q=>Q [] H
noncomputable def Cr(ta:TE)(tr:TA):TA:=λσ H Q=>ta σ H λx H1=>tr σ H1 λxs H2=>Q (x::xs) H2
section
variable{X:Cx}{e:Expr}{es:List Expr}{te:TE}{t:TA}{pos:Pos}
theorem k9:PA X [] IK:=λ_ _ _ _ H Q I h=>Calls.spliced_nil ⟨[],H,I,.nil,h⟩
theorem fJ(ha:PE X e te)(hr:PA X es t)(hs:starEach (e::es) X.env=(false,eval e X.env)::starEach es X.env:=by rfl):PA X (e::es) (Cr te t):=by intro pos pins s σ H Q I h;rw[hs];show wpAny _ _ (spliced ((false,eval e X.env)::backTo pos (starEach es X.env))) _ _ s;refine Calls.spliced_cons (bX (ha pins s σ H _ I h) λu s1⟨x,H1,I1,r1,q1⟩=>?_);exact bX (hr pos pins s1 σ H1 _ I1 q1) λus s2⟨xs,H2,I2,r2,q2⟩=>⟨x::xs,H2,I2,.cons r1 r2,q2⟩
noncomputable def Mr(t:TA):TE:=λσ H Q=>t σ H λxs H1=>xs.length<=sizeLine/\∀p,H1 p=none->Q (.ref p) (upd H1 p (.tup xs))
noncomputable def Mo(t:TA):TE:=λσ H Q=>t σ H λxs H1=>xs.length<=sizeLine/\∀p,H1 p=none->Q (.ref p) (upd H1 p (.lst xs))
theorem Ep{x1}(h:PA X es t):PE X (.Tuple es x1 pos) (Mr t):=by intro pins s σ H Q I hq;refine wpAny_Tuple_spliced (bX (h pos pins s σ H _ I hq) λus s1⟨xs,H1,I1,r,z,q⟩=>⟨by rw[<-r.length];exact z,?_⟩);have hf:H1 s1.heap.objs.size=none:=I1.hok.fresh (Qb _);refine⟨.ref s1.heap.objs.size,upd H1 s1.heap.objs.size (.tup xs),I1.laid (t':=s1.toks) (λb u e=>P0 _ e) (Qb _) ?_,rfl,q _ hf⟩;exact⟨z,us,r,⟨_,Qd _ rfl,rfl,_,rfl,rfl,rfl⟩⟩
theorem Ej(h:PA X es t):PE X (.List es pos) (Mo t):=by intro pins s σ H Q I hq;refine wpAny_List_spliced (bX (h pos pins s σ H _ I hq) λus s1⟨xs,H1,I1,r,z,q⟩=>⟨by rw[<-r.length];exact z,?_⟩);have hf:H1 s1.heap.objs.size=none:=I1.hok.fresh (Qb _);refine⟨.ref s1.heap.objs.size,upd H1 s1.heap.objs.size (.lst xs),I1.laid (t':=s1.toks) (λb u e=>P0 _ e) (Qb _) ?_,rfl,q _ hf⟩;exact⟨z,us,0,r,Qd _ rfl⟩
end
noncomputable abbrev Sp:=List V->Hp->VK->XK->Prop
noncomputable abbrev kn:=List Env->Hp->Shared->XK->Value->Shared->Prop
structure zT(P:Program)(w:World)(K:PySem.W.Frag)(mg:Str->Option Value)(base:Heap)(A:Around)(outer:List Env)(s:Shared)(H:Hp):Prop where
 frames:A.frames=some outer
 mod:Mod K mg base
 bs:∀b o,base.get? b=some o->s.heap.get? b=some o/\H b=none
 BV:base.objs.size<=s.heap.objs.size
 kJ:s.heap.FunFrames base outer
 Fz:∀b∈jO outer,H b=none
 hok:fv P w H s.heap
 bare:AllBare s.gens
noncomputable def CE(outer:List Env)(P:Program)(w:World)(H:Hp)(s:Shared)(Q:VK)(u:Value)(s':Shared):Prop:=
 ∃v H',s'.os=s.os/\AllBare s'.gens/\Un (jO outer) [] H H' s.heap s'.heap/\fv P w H' s'.heap/\RelV v u/\Q v H'
noncomputable def CR(CX:kn)(outer:List Env)(P:Program)(w:World)(H:Hp)(s:Shared)(Q:VK)(E:XK)(r:Result)(s':Shared):Prop:=
 match r with
 |.ok (.ret u)=>CE outer P w H s Q u s'
 |.ok _=>False
 |.error e=>CX outer H s E e s'
structure ji(P:Program)(w:World)(K:PySem.W.Frag)(mg:Str->Option Value)(base:Heap)(CX:kn)(k:Nat)(f:Addr)(fd:FuncData)(ps:List Str)(sp:Sp):Prop where
 len:∀vs H Q E,sp vs H Q E->vs.length=ps.length
 run:∀(A:Around)(outer:List Env)(s:Shared)(H:Hp)(args:Args)(us:List Value)(vs:List V)(Q:VK)(E:XK),iJ k A->zT P w K mg base A outer s H->BindsTo s fd args (ps.zip us)->au vs us->sp vs H Q E->
  codeAny (model P w) A (.call (.ref f) args) (CR CX outer P w H s Q E) s
theorem ji.imp{P:Program}{w:World}{K:PySem.W.Frag}{mg:Str->Option Value}{base:Heap}{CX:kn}{k:Nat}{f:Addr}{fd:FuncData}{ps:List Str}{sp Nv:Sp}(F:ji P w K mg base CX k f fd ps sp)
  (h:∀vs H Q E,Nv vs H Q E->sp vs H Q E):ji P w K mg base CX k f fd ps Nv:=
 ⟨λvs H Q E q=>F.len vs H Q E (h _ _ _ _ q),λA outer s H args us vs Q E hr he hb hv hs=>F.run A outer s H args us vs Q E hr he hb hv (h _ _ _ _ hs)⟩
section
variable{X:Cx}{pins:List (Addr×Obj)}{σ:St}{H:Hp}{s s':Shared}
theorem Inv.Kx(I:Inv X pins σ H s):zT X.prog X.w X.K X.mg X.base X.A X.stack s H:=
 ⟨I.ok.frames,I.ok.mod,I.bs,Qh I.ok.BV I.sz,I.stack,I.uN,I.hok,I.bare⟩
theorem Inv.after{Q:VK}{u:Value}(I:Inv X pins σ H s)(h:CE X.stack X.prog X.w H s Q u s'):EP X pins σ Q u s':=by obtain⟨v,H',os,bare,un,hok,r,q⟩:=h;obtain⟨hh,g,d,t,O8⟩:=s';obtain rfl:O8=s.os:=os;exact⟨v,H',I.call (h':=hh) (g':=g) (d':=d) (t':=t) (ch:=[]) un hok bare (λb z=>absurd z (by simp)),r,q⟩
end
noncomputable def IG(sp:Sp)(vi:List V)(E:XK)(t:TA):TE:=λσ H Q=>t σ H λvs H1=>sp (vs++vi) H1 Q E
noncomputable def Binds(K:PySem.W.Frag)(fd:FuncData)(ps:List Str)(ds:List Value):Prop:=
 ∀(s:Shared)(us:List Value),K.In s.heap->(us++ds).length=ps.length->BindsTo s fd ⟨us,[]⟩ (ps.zip (us++ds))
theorem Binds.all{K:PySem.W.Frag}{fd:FuncData}{ps:List Str}(h:∀us:List Value,us.length=ps.length->bindArgs fd ⟨us,[]⟩=pure (ps.zip us)):Binds K fd ps []:=λs us _ hl=>by rw[QK]at hl ⊢;exact .of_eq (h us hl)
noncomputable def qR(CX:kn)(X:Cx)(E:XK):Prop:=∀(pins:List (Addr×Obj))(σ:St)(H:Hp)(s:Shared)(e:Value)(s':Shared),Inv X pins σ H s->CX X.stack H s E e s'->X.xe e s'
section
variable{X:Cx}{CX:kn}{k:Nat}{f C:Addr}{fd:FuncData}{ps:List Str}{sp:Sp}{vi:List V}{ds:List Value}{E:XK}{x m:Str}{p pos apos:Pos}{e o:Expr}{es:List Expr}{ta:TE}{t:TA}
theorem EI{pins:List (Addr×Obj)}{σ:St}{H:Hp}{s:Shared}{Q:VK}{us:List Value}{vs:List V}(F:ji X.prog X.w X.K X.mg X.base CX k f fd ps sp)(hr:iJ k X.A)(hb:Binds X.K fd ps ds)(hd:au vi ds)(hx:qR CX X E)
  (I:Inv X pins σ H s) (r:au vs us) (h:sp (vs++vi) H Q E):wpAny (model X.prog X.w) X.A (call (.ref f) us) (EP X pins σ Q) X.xe s:=by
 have r2:au (vs++vi) (us++ds):=r.append hd;have hl:(us++ds).length=ps.length:=by rw[<-r2.length];exact F.len _ _ _ _ h
 refine wpAny_call (codeAny_mono (F.run X.A X.stack s H ⟨us,[]⟩ (us++ds) (vs++vi) Q E hr I.Kx (hb s us I.pZ hl) r2 h) λr s' hq=>?_);cases r with
 |error e=>exact hx pins σ H s e s' I hq
 |ok fl=>
  cases fl with
  |ret u=>exact I.after hq
  |next=>exact False.elim hq
  |brk=>exact False.elim hq
  |cont=>exact False.elim hq
theorem Bc(F:ji X.prog X.w X.K X.mg X.base CX k f fd ps sp)(hr:iJ k X.A)(hg:Gl X x)(hm:X.mg x=some (.ref f))(hk:PySem.W.keepIn X.K (.ref f)=true)(hb:Binds X.K fd ps ds)(hd:au vi ds)(hx:qR CX X E)
  (ha:PA X (e::es) t) (Ax:(x==("__debug__":Str))=false:=by decide) (he:starEach (e::es) X.env=(false,eval e X.env)::starEach es X.env:=by rfl) (qO:(backTo pos (starEach es X.env)).any (·.1)=false:=by rfl):
  PE X (.Call (.Name x p) (e::es) [] pos) (IG sp vi E t):=by
 intro pins s σ H Q I h;refine T5 (uf I hg hm ?_ Ax);refine PySem.W.callWith_K (h₀:=X.base) I.ok.mod.Lx hk (bX (ha pos pins s σ H _ I h) λus s1⟨vs,H1,I1,r,q⟩=>⟨I1.pZ,?_⟩) he qO;exact EI F hr hb hd hx I1 r q
end
structure fy(N P:List Str)(sc:Scope):Prop where
 kind:sc.kind= .function
 co:sc.isCoroutine=false
 gen:sc.isGenerator=false
 nd:N.Nodup
 pre:N.take P.length=P
 par:∀x∈P,sc.names.lookup x=some .local\/sc.names.lookup x=some .cell
 D1:∀y∈sc.names,y.2≠ .free
theorem mC{kindOf:Str->Option NameKind}{x:Str}:∀{binds:List (Str×Value)}{m:Str->Option Value},(∀v,(x,v)∉binds)->bindL kindOf binds m x=m x
 |[],_,_=>rfl
 |(n,v)::r,m,h=>by
  unfold bindL;rw[mC λw hw=>h w (P9 _ hw)];split
  ·have:x≠n:=by rintro rfl;exact h v Qc
   simp[this]
  ·rfl
theorem mz{kindOf:Str->Option NameKind}{x:Str}:∀{binds:List (Str×Value)}{m:Str->Option Value},(∀v,(x,v)∉binds)->bindC kindOf binds m x=m x
 |[],_,_=>rfl
 |(n,v)::r,m,h=>by
  unfold bindC;rw[mz λw hw=>h w (P9 _ hw)];split
  ·rfl
  ·have:x≠n:=by rintro rfl;exact h v Qc
   simp[this]
theorem mB{kindOf:Str->Option NameKind}{x:Str}{v:Value}:∀{P:List Str}{vs:List Value}{i:Nat}{m:Str->Option Value},P.Nodup->P[i]?=some x->vs[i]?=some v->kindOf x=some .local->
  bindL kindOf (P.zip vs) m x=some v
 |[],_,_,_,_,h,_,_=>by simp at h
 |_::_,[],_,_,_,_,h,_=>by simp at h
 |p::P,w::vs,0,m,nd,h1,h2,hk=>by simp at h1 h2;subst h1;subst h2;show bindL kindOf ((p,w)::P.zip vs) m p=_;unfold bindL;rw[mC λv hv=>(Sz.mp nd).1 (SA hv).1,TN hk];simp
 |p::P,w::vs,i+1,m,nd,h1,h2,hk=>by show bindL kindOf ((p,w)::P.zip vs) m x=_;unfold bindL;exact mB (i:=i) (Sz.mp nd).2 (by simpa using h1) (by simpa using h2) hk
theorem my{kindOf:Str->Option NameKind}{x:Str}{v:Value}:∀{P:List Str}{vs:List Value}{i:Nat}{m:Str->Option Value},P.Nodup->P[i]?=some x->vs[i]?=some v->kindOf x≠some .local->
  bindC kindOf (P.zip vs) m x=some v
 |[],_,_,_,_,h,_,_=>by simp at h
 |_::_,[],_,_,_,_,h,_=>by simp at h
 |p::P,w::vs,0,m,nd,h1,h2,hk=>by simp at h1 h2;subst h1;subst h2;show bindC kindOf ((p,w)::P.zip vs) m p=_;unfold bindC;rw[mz λv hv=>(Sz.mp nd).1 (SA hv).1,TM hk];simp
 |p::P,w::vs,i+1,m,nd,h1,h2,hk=>by show bindC kindOf ((p,w)::P.zip vs) m x=_;unfold bindC;exact my (i:=i) (Sz.mp nd).2 (by simpa using h1) (by simpa using h2) hk
noncomputable def start(N:List Str)(vs:List V):St:=vs.map some++List.replicate (N.length-vs.length) none
noncomputable def px(CX:kn)(P:Program)(w:World)(K:PySem.W.Frag)(mg:Str->Option Value)(base:Heap)(N:List Str)(qual:Str)(scope:Scope)(f:Addr)(cd:Value)(A:Around)(outer:List Env)(s:Shared)(H:Hp)(E:XK):Cx where
 prog:=P
 w:=w
 K:=K
 mg:=mg
 base:=base
 A:=A.deeper (envOfC qual scope s.heap.objs.size f cd)
 N:=N
 s₀:=s
 H₀:=H
 env:=envOfC qual scope s.heap.objs.size f cd
 outer:=outer
 stack:=envOfC qual scope s.heap.objs.size f cd::outer
 ex:=[]
 calm:=true
 fn:=λ_=>true
 pn:=[]
 xe:=λe s'=>wpAny (model P w) (A.deeper (envOfC qual scope s.heap.objs.size f cd)) (leaving (envOfC qual scope s.heap.objs.size f cd) e) (λ_ s''=>CX outer H s E e s'') (λe' s''=>CX outer H s E e' s'') s'
theorem pj{sc:Scope}{n:Nat}{x:Str}(h:sc.names.lookup x=some .cell):∃c,(cellsFrom n sc.names []).lookup x=some c:=by have q:=Tw sc.names n [] (.inl h);exact Option.isSome_iff_exists.mp q
theorem vw{CX:kn}{P:Program}{w:World}{K:PySem.W.Frag}{mg:Str->Option Value}{base:Heap}{N ps:List Str}{qual:Str}{scope:Scope}{f:Addr}{cd:Value}{A:Around}{outer:List Env}{s s1:Shared}{H:Hp}{E:XK}{us:List Value}{vs:List V}
  (S:fy N ps scope) (hd:A.handled=none) (e0:zT P w K mg base A outer s H) (hl:vs.length=ps.length) (r:au vs us)
  (x:InCallC s s.heap.objs.size (bindL (envOfC qual scope s.heap.objs.size f cd).kindOf (ps.zip us) λ_=>none) (cellsFrom (s.heap.objs.size+1) scope.names []) (bindC (envOfC qual scope s.heap.objs.size f cd).kindOf (ps.zip us) λ_=>none) s1):
  Inv (px CX P w K mg base N qual scope f cd A outer s H E) [] (start N vs) H s1:=by
 have qO:ps.length<=N.length:=by have:=TJ List.length S.pre;rw[Sh]at this;lia
 obtain⟨h1,tk,rfl,hk⟩:=x.done;have Hy:∀b:Addr,b∉(px CX P w K mg base N qual scope f cd A outer s H E).ex:=λb z=>absurd (show b∈([]:List Addr) from z) (by simp)
 refine⟨⟨e0.mod,S.kind,rfl,rfl,Qb _,λy z c h1 h2=>?_,λy hy=>?_,λy c _ h=>?_,λ_=>hd,Around.frames_deeper e0.frames,.inr ⟨rfl,rfl⟩,λb z=>absurd z (Hy b),e0.bs,e0.BV,λb _ _=>Hy b,λb z=>absurd z (Hy b),e0.kJ,e0.Fz⟩,
  rfl,e0.bare,Un.kept hk,⟨_,x.toInCall.ns,λi y v h1 h2 h3=>?_⟩,λy c h=>⟨_,x.cell y c h⟩,e0.hok.fresh (Qb _),λy c h=>?_,λp hp=>absurd (show p∈([]:List (Addr×Obj)) from hp) (by simp),e0.hok.kept hk,?_⟩
 ·exact name_of_addr x.apart (Tz h1) (Tz h2)
 ·have hy:scope.names.lookup y=some .cell\/scope.names.lookup y=some .free:=hy;rcases hy with hy|hy
  ·exact pj hy
  ·exact absurd rfl (S.D1 _ (Tz hy))
 ·exact S6 (x.above y c (Tz h))
 ·have hi:i<vs.length:=by
   unfold start at h2;by_cases hi:i<vs.length
   ·exact hi
   ·rw[QN (by simpa using hi)]at h2;rw[R3]at h2;split at h2<;>cases h2
  have ha:vs[i]?=some v:=by
   unfold start at h2;rw[QM (by simpa using hi),Qp]at h2;cases e:vs[i]? with
   |none=>rw[e]at h2;cases h2
   |some a=>rw[e]at h2;cases h2;rfl
  obtain⟨u,hu,rv⟩:=r.get ha;have hp:ps[i]?=some y:=by rw[<-S.pre,R5 ⋯];exact h1
  have Nm:ps.Nodup:=by rw[<-S.pre];exact S.nd.sublist (SU _ _)
  refine⟨u,rv,?_⟩;rcases S.par y (Sv hp)with k|k
  ·exact .inl ⟨k,mB Nm hp hu k⟩
  ·obtain⟨c,e⟩:=pj (n:=s.heap.objs.size+1) k;refine .inr ⟨.inl k,c,e,?_⟩;have q:=x.cell y c e;rw[my Nm hp hu (by show scope.names.lookup y≠_;rw[k];decide)]at q;exact q
 ·exact e0.hok.fresh (S6 (x.above y c (Tz h)))
 ·unfold start;show _=N.length;rw[Qm,Qf,Se]
  lia
end L2
namespace L2
open PySem PySem.Spec PyProof.Rows
section
variable{X:Cx}{x:Str}{p pos:Pos}{e:Expr}{es:List Expr}{t:TA}{id T:String}{r:List V->Hp->VK->Prop}
noncomputable def Mn(r:List V->Hp->VK->Prop)(t:TA):TE:=λσ H Q=>t σ H λvs H1=>r vs H1 Q
theorem qf(hc:c7 X (.builtin id) r)(hg:Gl X x)(hm:X.mg x=none)(hv:bootBuiltins x=some (.builtin id))(ha:PA X (e::es) t)(hn:x≠"__name__":=by decide)(Ax:(x==("__debug__":Str))=false:=by decide)
  (he:starEach (e::es) X.env=(false,eval e X.env)::starEach es X.env:=by rfl) (qO:(backTo pos (starEach es X.env)).any (·.1)=false:=by rfl):PE X (.Call (.Name x p) (e::es) [] pos) (Mn r t):=by
 intro pins s σ H Q I h;refine T5 (kP I hg hm hv ?_ hn Ax);exact PyProof.Rows.callWith_builtin1 (bX (ha pos pins s σ H _ I h) λus s1⟨vs,H1,I1,r1,q1⟩=>hc pins s1 σ H1 vs us Q I1 r1 q1) he qO
theorem vJ(hc:c7 X (.type T) r)(hg:Gl X x)(hm:X.mg x=none)(hv:bootBuiltins x=some (.type T))(ha:PA X (e::es) t)(hn:x≠"__name__":=by decide)(Ax:(x==("__debug__":Str))=false:=by decide)
  (he:starEach (e::es) X.env=(false,eval e X.env)::starEach es X.env:=by rfl) (qO:(backTo pos (starEach es X.env)).any (·.1)=false:=by rfl):PE X (.Call (.Name x p) (e::es) [] pos) (Mn r t):=by
 intro pins s σ H Q I h;refine T5 (kP I hg hm hv ?_ hn Ax);exact Tp (bX (ha pos pins s σ H _ I h) λus s1⟨vs,H1,I1,r1,q1⟩=>hc pins s1 σ H1 vs us Q I1 r1 q1) he qO
end
end L2
namespace HT
open PySem PyProof.Rows
section
variable{prog:Program}{w:World}{A:Around}{E:Value->Shared->Prop}{s:Shared}
theorem Am{t b:Addr}{vs ws:List Value}{Q:Value->Shared->Prop}(ht:IsTup s.heap t vs.toArray)(hb:IsTup s.heap b ws.toArray)(hv:vs≠[])
  (h1:ws=[]->Q (.ref t) s) (h2:ws≠[]->Q (.ref s.heap.objs.size) {s with heap:=s.heap.push {cls:=.type "tuple",data:=.seq (vs++ws).toArray}})
  (mJ:vs.length+ws.length<=sizeLine):wpAny (model prog w) A (binaryOp .Add (.ref t) (.ref b)) Q E s:=by
 obtain⟨⟨cls,dd,data,sl⟩,ho,hc,n,hd⟩:=id ht;obtain⟨⟨C9,tx,data2,uI⟩,pQ,qL,n2,hd2⟩:=id hb;simp only at hc hd qL hd2;subst hc hd qL hd2;have e:vs.toArray++ws.toArray=(vs++ws).toArray:=by simp
 by_cases hw:ws=[]
 ·exact concat_meets ⟨_,ho,rfl⟩ ⟨_,pQ,rfl⟩ TY seq_tuple_add Tu Tt (Tr _ _)
   (tuple_addW1 t b vs.toArray ws.toArray n n2 dd tx sl uI (by simpa using hv) (by simp[hw])) ⟨ho,pQ,h1 hw⟩
 ·refine concat_meets ⟨_,ho,rfl⟩ ⟨_,pQ,rfl⟩ TY seq_tuple_add Tu Tt (Tr _ _)
   (tuple_addW2 t b vs.toArray ws.toArray n n2 dd tx sl uI (by simpa using hv) (by simpa using hw) (by rw[P6,P6];exact mJ)) ⟨ho,pQ,?_⟩
  rw[e];exact h2 hw
noncomputable def bU(n d:Nat):Option Int->Nat
 |none=>d
 |some v=>if v<0 then(v+(n:Int)).toNat else min v.toNat n
theorem lD(n d:Nat):bU n d none=d:=rfl
theorem uG(n d k:Nat):bU n d (some (k:Int))=min k n:=by show (if (k:Int)<0 then((k:Int)+(n:Int)).toNat else min (k:Int).toNat n)=min k n;rw[TM ⋯,Rr]
theorem EJ(n d:Nat)(hd:d<=n)(o:Option Int):bU n d o<=n:=by
 cases o with
 |none=>exact hd
 |some v=>
  show (if v<0 then(v+(n:Int)).toNat else min v.toNat n)<=n;by_cases hv:v<0
  ·rw[TN hv];lia
  ·rw[TM hv];exact Nat.min_le_right _ _
theorem tu(v:Int)(n d:Nat):(if v<0 then max (v+(n:Int)) 0 else min v (n:Int))=((bU n d (some v):Nat):Int):=by
 show (if v<0 then max (v+(n:Int)) 0 else min v (n:Int))=(((if v<0 then(v+(n:Int)).toNat else min v.toNat n):Nat):Int);by_cases hv:v<0
 ·simp only[TN hv];lia
 ·simp only[TM hv];lia
theorem qU(lo hi:Option Int)(n:Nat):Builtin.Slice.sliceAdjust lo hi 1 (n:Int)=(((bU n 0 lo:Nat):Int),((bU n n hi:Nat):Int)):=by
 have h1:¬((1:Int)<0):=⋯
 unfold Builtin.Slice.sliceAdjust;simp only[h1,TL];refine Prod.ext ?_ ?_
 ·cases lo with
  |none=>rfl
  |some v=>exact tu v n 0
 ·cases hi with
  |none=>rfl
  |some v=>exact tu v n n
theorem se(i j:Nat):Builtin.Slice.slicePlaces (i:Int) (j:Int) 1=j-i:=by
 unfold Builtin.Slice.slicePlaces;have h1:(1:Int)>0:=⋯
 simp only[h1,TQ,Int.ediv_one];split<;>lia
theorem lF{v:Value}{o:Option Int}{Q:Option Int->Shared->Prop}(p:IsPart v o)(h:Q o s):wpAny (model prog w) A (Builtin.Slice.slicePartIndex v) Q E s:=by
 cases p with
 |none=>exact slicePart_none h
 |int i t=>exact slicePart_int h
theorem fm{sl:Addr}{vl vu:Value}{lo hi:Option Int}{n:Nat}{Q:Int×Int×Nat->Shared->Prop}(hs:s.heap.IsSliceOf sl vl vu .none)(pl:IsPart vl lo)(pu:IsPart vu hi)
  (h:Q (((bU n 0 lo:Nat):Int),1,bU n n hi-bU n 0 lo) s):wpAny (model prog w) A (Builtin.Slice.sliceApplied (.ref sl) (pure (n:Int))) Q E s:=by
 obtain⟨os,Dx,Av,GW⟩:=id hs;unfold Builtin.Slice.sliceApplied Builtin.Slice.sliceFields;refine PY (PY (T8 Dx GW (x:=vl) rfl (PY (T8 Dx GW (x:=vu) rfl (PY (T8 Dx GW (x:=.none) rfl (P4 ?_)))))));refine PY (slicePart_none ?_);show wpAny _ _ (if ((1:Int)==0)=true then _ else _) _ _ s;rw[TM (by decide)];refine PY (lF pl (PY (lF pu (PY (P4 ?_)))));show wpAny _ _ (match Builtin.Slice.sliceAdjust lo hi 1 (n:Int)with|(lo,hi)=>pure (lo,(1:Int),Builtin.Slice.slicePlaces lo hi 1)) _ _ s;rw[qU lo hi n];show wpAny _ _ (pure (((bU n 0 lo:Nat):Int),(1:Int),Builtin.Slice.slicePlaces ((bU n 0 lo:Nat):Int) ((bU n n hi:Nat):Int) 1)) _ _ s;rw[se];exact P4 h
theorem yJ(xs:Array Value)(i k:Nat):((List.range k).filterMap λ(m:Nat)=>xs[((i:Int)+(m:Int)*1).toNat]?).toArray=((xs.toList.drop i).take k).toArray:=by
 have e:(λ(m:Nat)=>xs[((i:Int)+(m:Int)*1).toNat]?)=λm=>xs[i+m]?:=by
  funext m;have:((i:Int)+(m:Int)*1).toNat=i+m:=⋯
  rw[this]
 rw[e];have:=pick_run xs i k;rw[List.filterMap_map]at this;have e2:((λx=>xs[x]?) ∘ λx=>i+x)=λm=>xs[i+m]?:=rfl
 rw[e2]at this;rw[this]
theorem iR{t sl:Addr}{items:Array Value}{vl vu:Value}{lo hi:Option Int}{Q:Value->Shared->Prop}(ht:IsTup s.heap t items)(hs:s.heap.IsSliceOf sl vl vu .none)(pl:IsPart vl lo)(pu:IsPart vu hi)
  (hw:¬(bU items.size 0 lo=0/\bU items.size items.size hi=items.size))
  (h:Q (.ref s.heap.objs.size) {s with heap:=s.heap.push {cls:=.type "tuple",data:=.seq ((items.toList.drop (bU items.size 0 lo)).take (bU items.size items.size hi-bU items.size 0 lo)).toArray}})
  (mJ:items.size<=sizeLine):wpAny (model prog w) A (getItem (.ref t) (.ref sl)) Q E s:=by
 have tV:sizeOk (.seq ((items.toList.drop (bU items.size 0 lo)).take (bU items.size items.size hi-bU items.size 0 lo)).toArray):=by
  show ((items.toList.drop (bU items.size 0 lo)).take (bU items.size items.size hi-bU items.size 0 lo)).toArray.size<=sizeLine;rw[P6,Sh,R9,Qq]
  lia
 have hj:bU items.size items.size hi<=items.size:=EJ _ _ (Qb _) hi;obtain⟨os,Dx,Av,GW⟩:=id hs;have K0:s.TypeIs (.ref sl) "slice":=⟨os,Dx,Av⟩;unfold getItem
 try with_reducible refine T9 ?_
 first|refine PY (P4 ?_)|skip
 refine PY (wpAny_sequenceKey ht.typeIs (by decide) ?_);refine PY (T6 (name:=Str.ofString "__getitem__") ht.typeIs Tq
  (T7 Tq ht.typeIs entry_tuple_getitem ?_ (args_tuple_getitem _ _)))
 show wpAny _ _ (Builtin.Tuple.tupleItemsOf (.ref t) >>=_) _ _ s;refine PY (tupleItemsOf_ ht ?_);refine PY (Ul K0 ?_);rw[TN (by decide)];refine PY (fm hs pl pu ?_);have FE:¬((((bU items.size 0 lo:Nat):Int)==0&&(1:Int)==1&&(bU items.size items.size hi-bU items.size 0 lo)==items.size)=true):=by intro q;rw[P5,P5]at q;have q1:((bU items.size 0 lo:Nat):Int)=0:=Qt q.1.1;have q2:bU items.size items.size hi-bU items.size 0 lo=items.size:=Qt q.2;exact hw ⟨by lia,by lia⟩
 show wpAny _ _ (if (((bU items.size 0 lo:Nat):Int)==0&&(1:Int)==1&&(bU items.size items.size hi-bU items.size 0 lo)==items.size)=true then _ else _) _ _ s;rw[TM FE,yJ]
 first
  |exact PY (m:=Builtin.Tuple.tupleExact _) (Ub (P4 ⟨_,rfl,P4 h⟩) tV)
  |exact PY (m:=Builtin.Tuple.tupleExact _) (Ub (PY (P4 (P4 ⟨_,rfl,P4 h⟩))) tV)
  |exact PY (PY (m:=Builtin.Tuple.tupleExact _) (Ub (P4 (P4 ⟨_,rfl,P4 h⟩)) tV))
  |exact PY (PY (m:=Builtin.Tuple.tupleExact _) (Ub (P4 ⟨_,rfl,P4 h⟩) tV))
end
end HT
namespace L2
open PySem PySem.Spec PyProof.Rows
noncomputable abbrev TO:=St->Hp->(Option Int->Hp->Prop)->Prop
noncomputable def PO(X:Cx)(e:Option Expr)(t:TO):Prop:=
 ∀(pins:List (Addr×Obj))(s:Shared)(σ:St)(H:Hp)(Q:Option Int->Hp->Prop),Inv X pins σ H s->t σ H Q->
  wpAny (model X.prog X.w) X.A (evalPart e X.env) (λu s'=>∃o H',Inv X pins σ H' s'/\IsPart u o/\Q o H') X.xe s
noncomputable def BC:TO:=λ_ H Q=>Q none H
noncomputable def IP(t:TE):TO:=λσ H Q=>t σ H λx H1=>∃i,x= .int i/\Q (some i) H1
theorem intsAre_of{ns:List Int}:∀{us:List Value},au (ns.map V.int) us->IntsAre us ns:=by
 induction ns with
 |nil=>intro us r;rw[Sm]at r;cases r;exact .nil
 |cons n ns ih=>
  intro us r;rw[QO]at r;cases r with
  |cons r1 r2=>obtain⟨t,e⟩:=r1;subst e;exact .cons n t (ih r2)
section
variable{X:Cx}{e:Expr}{te:TE}{lo hi:Option Expr}{tl th:TO}{pos p2:Pos}
theorem ux:PO X none BC:=by intro pins s σ H Q I h;rw[evalPart_none];exact P4 ⟨none,H,I,.none,h⟩
theorem uy(h:PE X e te):PO X (some e) (IP te):=by
 intro pins s σ H Q I hw;rw[evalPart_some];refine bX (h pins s σ H _ I hw) λu s1⟨x,H1,I1,r1,q1⟩=>?_
 obtain⟨i,rfl,q⟩:=q1;obtain⟨t,rfl⟩:=r1;exact⟨some i,H1,I1,.int i t,q⟩
noncomputable def FU(X:Cx)(r:V->Option Int->Option Int->Hp->VK->Prop):Prop:=
 ∀(pins:List (Addr×Obj))(s:Shared)(σ:St)(H:Hp)(x:V)(v vl vu:Value)(lo hi:Option Int)(sl:Addr)(Q:VK),Inv X pins σ H s->RelV x v->s.heap.IsSliceOf sl vl vu .none->IsPart vl lo->IsPart vu hi->r x lo hi H Q->
  ∃T id,typeLookup (.type T) "__getitem__"=pure (some (.builtin id))/\s.TypeIs v T/\wpAny (model X.prog X.w) X.A (getItem v (.ref sl)) (EP X pins σ Q) X.xe s
noncomputable def Ph(r:V->Option Int->Option Int->Hp->VK->Prop)(te:TE)(tl th:TO):TE:=λσ H Q=>te σ H λx H1=>tl σ H1 λl H2=>th σ H2 λu H3=>r x l u H3 Q
theorem qh{r:V->Option Int->Option Int->Hp->VK->Prop}(hr:FU X r)(he:PE X e te)(hl:PO X lo tl)(hu:PO X hi th):PE X (.Subscript e (.Slice lo hi none p2) pos) (Ph r te tl th):=by
 intro pins s σ H Q I h;refine Subscript_ (bX (he pins s σ H _ I h) λv s1⟨x,H1,I1,r1,q1⟩=>?_);refine wpAny_Slice (bX (hl pins s1 σ H1 _ I1 q1) λvl s2⟨l,H2,I2,pl,q2⟩=>bX (hu pins s2 σ H2 _ I2 q2) λvu s3⟨u,H3,I3,pu,q3⟩=>?_);rw[evalPart_none];refine P4 ?_;have I4:Inv X pins σ H3 {s3 with heap:=s3.heap.push {cls:=.type "slice",data:=.fields #[vl,vu,.none]}}:=I3.kept (t':=s3.toks) λb ob q=>P0 _ q
 obtain⟨T,id,hT,ht,hg⟩:=hr pins {s3 with heap:=s3.heap.push {cls:=.type "slice",data:=.fields #[vl,vu,.none]}} σ H3 x v vl vu l u s3.heap.objs.size Q I4 r1 (Heap.IsSliceOf.new ..) pl pu q3;show wpAny (model X.prog X.w) X.A (subscriptTail e (.Slice lo hi none p2) v (.ref s3.heap.objs.size)) (EP X pins σ Q) X.xe {s3 with heap:=s3.heap.push {cls:=.type "slice",data:=.fields #[vl,vu,.none]}};exact tail_any (ops:=[.ref s3.heap.objs.size,v]) ht hT hg (by with_unfolding_all rfl)
noncomputable def lU(xs:List V)(lo hi:Option Int):List V:=(xs.drop (HT.bU xs.length 0 lo)).take (HT.bU xs.length xs.length hi-HT.bU xs.length 0 lo)
theorem jB(xs:List V)(lo hi:Option Int):(lU xs lo hi).length<=xs.length:=by
 unfold lU;rw[Sh,R9]
 lia
noncomputable def L4(K:PySem.W.Frag):V->Option Int->Option Int->Hp->VK->Prop:=λx lo hi H Q=>∃a xs,x= .ref a/\fz K H a xs/\
 ¬(HT.bU xs.length 0 lo=0/\HT.bU xs.length xs.length hi=xs.length)/\∀p,H p=none->Q (.ref p) (upd H p (.tup (lU xs lo hi)))
theorem EW:FU X (L4 X.K):=by
 intro pins s σ H x v vl vu lo hi sl Q I rx hs pl pu h;obtain⟨a,xs,rfl,hx,hw,q⟩:=h;cases rx;obtain⟨its,r,ht,hz⟩:=I.tuple hx;have hlen:its.toArray.size=xs.length:=by rw[P6];exact r.length.symm
 refine⟨"tuple",_,Tq.lookup,ht.typeIs,?_⟩;refine HT.iR ht hs pl pu (by rw[hlen];exact hw) ?_ (by rw[hlen];exact hz);rw[hlen];refine⟨.ref s.heap.objs.size,_,I.laid (t':=s.toks) (o:=.tup (lU xs lo hi)) (λb ob q=>P0 _ q) (Qb _) ?_,rfl,q _ (I.hok.fresh (Qb _))⟩;exact⟨Qh (jB xs lo hi) hz,_,(r.drop (HT.bU xs.length 0 lo)).take (HT.bU xs.length xs.length hi-HT.bU xs.length 0 lo),lT.new _ _⟩
noncomputable def HY(K:PySem.W.Frag):R2:=λx y H Q=>∃a b xs ys,x= .ref a/\y= .ref b/\fz K H a xs/\fz K H b ys/\xs≠[]/\xs.length+ys.length<=sizeLine/\
 (ys=[]->Q (.ref a) H)/\(ys≠[]->∀p,H p=none->Q (.ref p) (upd H p (.tup (xs++ys))))
theorem au.oA{xs:List V}{us:List Value}(r:au xs us):us=[]↔xs=[]:=by
 cases r with
 |nil=>simp
 |cons _ _=>simp
theorem A4:kr X (binaryOp .Add) (HY X.K):=by intro pins s σ H x y v u Q I rx ry h;obtain⟨a,b,xs,ys,rfl,rfl,ha,hb,hx,hz,q1,q2⟩:=h;cases rx;cases ry;obtain⟨its,r1,p1,_⟩:=I.tuple ha;obtain⟨aM,r2,p2,_⟩:=I.tuple hb;refine HT.Am p1 p2 (λz=>hx (r1.oA.mp z)) (λz=>⟨.ref a,H,I,rfl,q1 (r2.oA.mp z)⟩) (λz=>?_) (by rw[<-r1.length,<-r2.length];exact hz);refine⟨.ref s.heap.objs.size,_,I.laid (t':=s.toks) (o:=.tup (xs++ys)) (λb ob q=>P0 _ q) (Qb _) ?_,rfl,q2 (λw=>z (r2.oA.mpr w)) _ (I.hok.fresh (Qb _))⟩;exact⟨by rw[Qm];exact hz,_,r1.append r2,lT.new _ _⟩
end
end L2
namespace L2
open PySem PySem.Spec PyProof.Rows
noncomputable def oo(n:Nat)(i:Int):Option Nat:=if 0<=i then(if i<n then some i.toNat else none) else if -(n:Int)<=i then some (i+n).toNat else none
noncomputable def mv{α:Type}(xs:List α)(i:Int):Option α:=(oo xs.length i).bind λj=>xs[j]?
theorem t7{n:Nat}{i:Int}{j:Nat}(h:oo n i=some j):seqIndex? i n=some j/\j<n/\ -(n:Int)<=i/\i<n:=by
 unfold oo at h;by_cases h0:0<=i
 ·rw[TN h0]at h;by_cases h1:i<n
  ·rw[TN h1]at h;have e:i.toNat=j:=To h;exact⟨by rw[seqIndex_of h0 h1,e],by lia,by lia,h1⟩
  ·rw[TM h1]at h;cases h
 ·rw[TM h0]at h;by_cases h1: -(n:Int)<=i
  ·rw[TN h1]at h;have e:(i+n).toNat=j:=To h;exact⟨by rw[seqIndex_neg ⋯ h1,e],by lia,h1,by lia⟩
  ·rw[TM h1]at h;cases h
theorem sU{α:Type}{xs:List α}{i:Int}{v:α}(h:mv xs i=some v):∃j,seqIndex? i xs.length=some j/\xs[j]?=some v/\j<xs.length/\ -(xs.length:Int)<=i/\i<xs.length:=by
 unfold mv at h;cases e:oo xs.length i with
 |none=>rw[e]at h;cases h
 |some j=>rw[e]at h;obtain⟨h1,h2,h3,h4⟩:=t7 e;exact⟨j,h1,h,h2,h3,h4⟩
theorem jT{α:Type}{xs:List α}{j:Nat}{v:α}(h:xs[j]?=some v):mv xs (j:Int)=some v:=by
 have hj:j<xs.length:=(P8.mp h).1;have e:oo xs.length (j:Int)=some j:=by unfold oo;rw[TN ⋯,TN ⋯];simp
 unfold mv;rw[e];exact h
theorem pd{α:Type}(xs:List α)(v:α):mv (xs++[v]) (-1)=some v:=by
 have hl:(xs++[v]).length=xs.length+1:=by simp
 have e:oo (xs++[v]).length (-1)=some xs.length:=by
  unfold oo;rw[hl,TM (by decide),TN ⋯];congr 1
  lia
 unfold mv;rw[e];show (xs++[v])[xs.length]?=some v;simp
noncomputable def nB(b:Expr):Prop:=∀o i,subscripted b false o i=operate [o,i] (getItem o i)
noncomputable def Jg(X:Cx)(r:R2):Prop:=
 ∀(value slice:Expr)(pins:List (Addr×Obj))(s:Shared)(σ:St)(H:Hp)(x y:V)(v u:Value)(Q:VK),Inv X pins σ H s->RelV x v->RelV y u->r x y H Q->
  subscripted slice false v u=operate [v,u] (getItem v u)->wpAny (model X.prog X.w) X.A (subscriptTail value slice v u) (EP X pins σ Q) X.xe s
noncomputable def Mz(X:Cx)(id:String)(r:V->List V->Hp->VK->Prop):Prop:=
 ∀(pins:List (Addr×Obj))(s:Shared)(σ:St)(H:Hp)(x:V)(xs:List V)(v:Value)(us:List Value)(Q:VK),Inv X pins σ H s->RelV x v->au xs us->r x xs H Q->
  wpAny (model X.prog X.w) X.A (call (.builtin id) (v::us)) (EP X pins σ Q) X.xe s
section
variable{X:Cx}{a b:Expr}{ta tb:TE}{pos:Pos}
theorem HL{r:R2}(hr:Jg X r)(ha:PE X a ta)(hb:PE X b tb)(hs:nB b):PE X (.Subscript a b pos) (JT r ta tb):=by intro pins s σ H Q I h;exact Subscript_ (CZ ha hb I h λv u s2 x y H2 I2 rx ry q=>hr a b pins s2 σ H2 x y v u Q I2 rx ry q (hs _ _))
noncomputable def LU(K:PySem.W.Frag):R2:=λx y H Q=>∃p xs i v,x= .ref p/\y= .int i/\dJ K H p xs/\mv xs i=some v/\Q v H
noncomputable def LV(K:PySem.W.Frag):R2:=λx y H Q=>∃p xs i v,x= .ref p/\y= .int i/\fz K H p xs/\mv xs i=some v/\Q v H
theorem ua:Jg X (LU X.K):=by
 intro value slice pins s σ H x y v u Q I rx ry h hs;obtain⟨p,xs,i,z,rfl,rfl,hq,he,q⟩:=h;cases rx;obtain⟨t,rfl⟩:=ry;obtain⟨its,r,pl,hz⟩:=I.list hq;obtain⟨j,h1,h2,h3,h4,h5⟩:=sU he;obtain⟨w,ew,L9⟩:=r.get h2;have hl:=r.length;have hn:=kR;have fin:EP X pins σ Q w s:=⟨z,H,I,L9,q⟩;by_cases h0:0<=i
 ·have hj:i.toNat=j:=by rw[seqIndex_of h0 h5]at h1;exact To h1
  exact item_listR pl.isList h0 ⋯ (by rw[hj];simpa using ew) fin hs
 ·have hj:(i+(its.toArray.size:Int)).toNat=j:=by rw[seqIndex_neg ⋯ h4]at h1;rw[P6,<-hl];exact To h1
  exact subscriptTail_builtinR (x:=w) pl.isList.typeIs slot_list_getitem.lookup
   (wpAny_getItem_list_neg (Q:=λr s'=>r=w/\EP X pins σ Q r s') pl.isList ⋯ (by rw[P6]<;>lia) ⋯ (by rw[hj];simpa using ew) ⟨rfl,fin⟩) hs
theorem DI:Jg X (LV X.K):=by
 intro value slice pins s σ H x y v u Q I rx ry h hs;obtain⟨p,xs,i,z,rfl,rfl,hq,he,q⟩:=h;cases rx;obtain⟨t,rfl⟩:=ry;obtain⟨its,r,pl,hz⟩:=I.tuple hq;obtain⟨j,h1,h2,h3,h4,h5⟩:=sU he;obtain⟨w,ew,L9⟩:=r.get h2;have hl:=r.length;have hn:=kR;have fin:EP X pins σ Q w s:=⟨z,H,I,L9,q⟩;exact subscriptTail_builtinR (x:=w) pl.typeIs slot_tuple_getitem.lookup
  (getItem_tuple (j:=j) (Q:=λr s'=>r=w/\EP X pins σ Q r s') pl ⋯ ⋯ (by rw[P6,<-hl];exact h1) (by simpa using ew) ⟨rfl,fin⟩) hs
theorem rO(its:List Value)(n j:Nat)(u:Value):Obj.mapSeq (·.setIfInBounds j u) {cls:=.type "list",data:=.seq its.toArray n}={cls:=.type "list",data:=.seq (its.set j u).toArray n}:=by simp[Obj.mapSeq]
theorem Inv.lst{pins:List (Addr×Obj)}{σ:St}{H:Hp}{s:Shared}{p:Addr}{xs:List V}(I:Inv X pins σ H s)(h:H p=some (.lst xs)):
  ∃(its:List Value)(n:Nat),au xs its/\s.heap.get? p=some {cls:=.type "list",data:=.seq its.toArray n}/\xs.length<=sizeLine:=by
 obtain⟨z,its,n,r,e⟩:=I.hok p _ h;exact⟨its,n,r,e,z⟩
theorem Inv.DQ{pins:List (Addr×Obj)}{σ:St}{H:Hp}{s:Shared}{p:Addr}{xs ys:List V}{its its':List Value}{n n':Nat}{f:Obj->Obj}(I:Inv X pins σ H s)(h:H p=some (.lst xs))
  (ho:s.heap.get? p=some {cls:=.type "list",data:=.seq its.toArray n}) (hf:f {cls:=.type "list",data:=.seq its.toArray n}={cls:=.type "list",data:=.seq its'.toArray n'}) (r:au ys its') (hz:ys.length<=sizeLine) (t:Nat):
  Inv X pins σ (upd H p (.lst ys)) {s with heap:=s.heap.update p f,toks:=t}:=by
 have e:(s.heap.update p f).get? p=some {cls:=.type "list",data:=.seq its'.toArray n'}:=by rw[Heap.get?_update_self f ho (by rw[hf]<;>rfl),hf]
 refine I.write (x:=p) (e:=p) (by rw[h];trivial) (.inl rfl) (λb u hb q=>(Qy _ _ (Tn hb)).trans q) ⟨_,e⟩ ?_;exact⟨hz,its',n',r,e⟩
noncomputable def Cj:V->V->V->Hp->(Hp->Prop)->Prop:=λo i v H Q=>∃p xs k j,o= .ref p/\i= .int k/\H p=some (.lst xs)/\oo xs.length k=some j/\Q (upd H p (.lst (xs.set j v)))
theorem set_list:FS X Cj:=by
 intro pins s σ H o i v ov iv u Q I ro ri rv h;obtain⟨p,xs,k,j,rfl,rfl,hp,hj,q⟩:=h;cases ro;obtain⟨t,rfl⟩:=ri;obtain⟨its,n,r,ho,hz⟩:=I.lst hp;obtain⟨h1,h2,h3,h4⟩:=t7 hj;have hl:=r.length;have hn:=kR;have I':Inv X pins σ (upd H p (.lst (xs.set j v))) {s with heap:=s.heap.update p (Obj.mapSeq (·.setIfInBounds j u))}:=
  I.DQ hp ho (rO its n j u) (r.set rv j) (by rw[Sf];exact hz) s.toks
 by_cases h0:0<=k
 ·have hk:k.toNat=j:=by rw[seqIndex_of h0 h4]at h1;exact To h1
  exact PySem.W.ki_setAt ho h0 ⋯ (by rw[P6,<-hl];exact h4) (by rw[hk];exact⟨_,I',q⟩)
 ·have hk:(k+(its.toArray.size:Int)).toNat=j:=by rw[seqIndex_neg ⋯ h3]at h1;rw[P6,<-hl];exact To h1
  exact PySem.W.ki_setBack ho ⋯ (by rw[P6,<-hl];exact h3) ⋯ (by rw[hk];exact⟨_,I',q⟩)
theorem oH(lo hi:Option Int)(n:Nat):(sliceBounds lo hi none n).1=((HT.bU n 0 lo:Nat):Int)/\(sliceBounds lo hi none n).2.1=((HT.bU n n hi:Nat):Int)/\(sliceBounds lo hi none n).2.2=1:=by
 refine⟨?_,?_,rfl⟩
 ·cases lo with
  |none=>simp[sliceBounds,HT.bU]
  |some i=>
   simp only[sliceBounds,HT.bU,Option.getD_none,show (1:Int)>0 by decide,TQ];by_cases h:i<0
   ·simp only[h,TQ]<;>lia
   ·simp only[h,TL]<;>lia
 ·cases hi with
  |none=>simp[sliceBounds,HT.bU]
  |some i=>
   simp only[sliceBounds,HT.bU,Option.getD_none,show (1:Int)>0 by decide,TQ];by_cases h:i<0
   ·simp only[h,TQ]<;>lia
   ·simp only[h,TL]<;>lia
theorem me(its:List Value)(lo hi:Option Int):slicePick its.toArray lo hi none=((its.drop (HT.bU its.length 0 lo)).take (HT.bU its.length its.length hi-HT.bU its.length 0 lo)).toArray:=by obtain⟨h1,h2,h3⟩:=oH lo hi its.toArray.size;unfold slicePick;rw[h1,h2,h3];simp only[sliceRange_one,pick_run,P6]<;>rfl
noncomputable def LZ(K:PySem.W.Frag):V->Option Int->Option Int->Hp->VK->Prop:=λx lo hi H Q=>∃a xs,x= .ref a/\dJ K H a xs/\∀p,H p=none->Q (.ref p) (upd H p (.lst (lU xs lo hi)))
theorem uJ:FU X (LZ X.K):=by intro pins s σ H x v vl vu lo hi sl Q I rx hs pl pu h;obtain⟨a,xs,rfl,hx,q⟩:=h;cases rx;obtain⟨its,r,ht,hz⟩:=I.list hx;have hlen:=r.length;refine⟨"list",_,slot_list_getitem.lookup,ht.isList.typeIs,?_⟩;refine wpAny_getItem_list_slice ht.isList hs pl pu .none (by simp) ?_ (by rw[P6]<;>lia);rw[me,<-hlen];refine⟨.ref s.heap.objs.size,_,I.laid (t':=s.toks) (o:=.lst (lU xs lo hi)) (λb ob q=>P0 _ q) (Qb _) ?_,rfl,q _ (I.hok.fresh (Qb _))⟩;exact⟨Qh (jB xs lo hi) hz,_,0,(r.drop (HT.bU xs.length 0 lo)).take (HT.bU xs.length xs.length hi-HT.bU xs.length 0 lo),Qd _ rfl⟩
theorem fA:c7 X (.type "list") (λxs H Q=>∃p ys,xs=[.ref p]/\(dJ X.K H p ys\/fz X.K H p ys)/\∀l,H l=none->Q (.ref l) (upd H l (.lst ys))):=by
 intro pins s σ H xs us Q I r h;obtain⟨p,ys,rfl,hq,q⟩:=h;obtain⟨u,rfl,rx⟩:=vals1 r;cases rx;have fin:∀(its:List Value),au ys its->ys.length<=sizeLine->∀(h':Heap)(c':Nat),(∀b o',s.heap.get? b=some o'->h'.get? b=some o')->
   h'.get? s.heap.objs.size=some {cls:=.type "list",dict:=none,data:=.seq its.toArray c',slots:=#[]}->EP X pins σ Q (.ref s.heap.objs.size) {s with heap:=h'}:=λits r' hz h' c' kp e=>
  ⟨.ref s.heap.objs.size,_,I.laid (t':=s.toks) kp (Qb _) (show bM X.prog X.w _ h' _ (.lst ys) from⟨hz,its,c',r',e⟩),rfl,q _ (I.hok.fresh (Qb _))⟩
 rcases hq with hq|hq
 ·obtain⟨its,r',pl,hz⟩:=I.list hq;have hlen:=r'.length;obtain⟨o,ho,hc,n,hd⟩:=pl.isList;exact call_list_seq p (.inl rfl) ho hc hd (λh' c' kp e=>fin its r' hz h' c' kp e) (by simp only[P6]<;>lia)
 ·obtain⟨its,r',pl,hz⟩:=I.tuple hq;have hlen:=r'.length;obtain⟨o,ho,hc,n,hd⟩:=pl;exact call_list_seq p (.inr rfl) ho hc hd (λh' c' kp e=>fin its r' hz h' c' kp e) (by simp only[P6]<;>lia)
theorem gY:c7 X (.type "tuple") (λxs H Q=>∃p ys,xs=[.ref p]/\((dJ X.K H p ys/\∀l,H l=none->Q (.ref l) (upd H l (.tup ys)))\/(fz X.K H p ys/\Q (.ref p) H))):=by
 intro pins s σ H xs us Q I r h;obtain⟨p,ys,rfl,h⟩:=h;obtain⟨u,rfl,rx⟩:=vals1 r;cases rx;rcases h with ⟨hq,q⟩|⟨hq,q⟩
 ·obtain⟨its,r',pl,hz⟩:=I.list hq;have hlen:=r'.length;refine call_tuple_list pl.isList (λh' kp=>?_) (by simp only[P6]<;>lia);have I1:Inv X pins σ H {s with heap:=h'}:=I.kept (t':=s.toks) kp;have I2:Inv X pins σ (upd H h'.objs.size (.tup ys)) {s with heap:=h'.push {cls:=.type "tuple",data:=.seq its.toArray}}:=
   I1.laid (t':=s.toks) (λb o e=>P0 _ e) (Qb _) (show bM X.prog X.w _ _ _ (.tup ys) from⟨hz,its,r',lT.new _ _⟩)
  exact⟨.ref h'.objs.size,_,I2,rfl,q _ (I1.hok.fresh (Qb _))⟩
 ·obtain⟨its,r',pl,hz⟩:=I.tuple hq;exact call_tuple_same pl ⟨.ref p,H,I,rfl,q⟩
noncomputable def Mw(K:PySem.W.Frag)(T:String)(x:V)(H:Hp):Prop:=match x with
 |.str _=>T="str"
 |.int _=>T="int"
 |.ref p=>(T="list"/\∃xs,dJ K H p xs)\/(T="tuple"/\∃o,K.lookup p=some o/\o.cls= .type "tuple"/\o.dict=none)\/
   (T="dict"/\((∃cY,H p=some (.dK cY))\/∃cY,H p=some (.dT cY)))\/(T="set"/\∃S n,H p=some (.set S n))
 |_=>False
theorem zk{pins:List (Addr×Obj)}{σ:St}{H:Hp}{s:Shared}{T:String}{x:V}{v:Value}(I:Inv X pins σ H s)(r:RelV x v)(ty:Mw X.K T x H):
  s.TypeIs v T/\∀a,v= .ref a->∃ob,s.heap.get? a=some ob/\ob.dict=none:=by
 cases x with
 |str z=>obtain⟨t,rfl⟩:=r;cases (show T="str" from ty);exact⟨typeIs_str s z t,λ_ e=>nomatch e⟩
 |int i=>obtain⟨t,rfl⟩:=r;cases (show T="int" from ty);exact⟨typeIs_int s i t,λ_ e=>nomatch e⟩
 |ref p=>
  cases r;rcases ty with ⟨rfl,xs,hq⟩|⟨rfl,o,hk,hc,hd⟩|⟨rfl,hk⟩|⟨rfl,S,n,hk⟩
  ·obtain⟨its,_,pl,_⟩:=I.list hq;refine⟨pl.isList.typeIs,λa e=>?_⟩;cases e;obtain⟨o,n,e,c,hd,_⟩:=pl;exact⟨o,e,hd⟩
  ·refine⟨⟨o,I.pZ p o hk,hc⟩,λa e=>?_⟩;cases e;exact⟨o,I.pZ _ o hk,hd⟩
  ·have z:∃o,s.heap.get? p=some o/\o.ExactDict:=by
    rcases hk with ⟨cY,hk⟩|⟨cY,hk⟩
    ·obtain⟨_,_,_,_,o,_,_,e,ex,_⟩:=I.hok p _ hk;exact⟨o,e,ex⟩
    ·obtain⟨_,_,_,_,o,_,_,e,ex,_⟩:=I.hok p _ hk;exact⟨o,e,ex⟩
   obtain⟨o,e,ex⟩:=z;refine⟨⟨o,e,ex.1⟩,λa e2=>?_⟩;cases e2;exact⟨o,e,ex.2.1⟩
  ·obtain⟨o,_,_,_,e,ex,_⟩:=I.hok p _ hk;refine⟨⟨o,e,ex.1⟩,λa e2=>?_⟩;cases e2;exact⟨o,e,ex.2.1⟩
 |_=>exact False.elim ty
noncomputable def IF(K:PySem.W.Frag)(T:String)(r:V->List V->Hp->VK->Prop)(to:TE):TE:=λσ H Q=>to σ H λx H1=>Mw K T x H1/\r x [] H1 Q
noncomputable def NA(K:PySem.W.Frag)(T:String)(r:V->List V->Hp->VK->Prop)(to:TE)(t:TA):TE:=λσ H Q=>to σ H λx H1=>Mw K T x H1/\t σ H1 λxs H2=>r x xs H2 Q
variable{o e:Expr}{es:List Expr}{to:TE}{t:TA}{name:Str}{apos fZ:Pos}{T id:String}{r:V->List V->Hp->VK->Prop}
theorem Eh(pa:PlainAttrs T)(slot:Slot T name id)(Li:typeOf (.builtin id)=pure (.type "method_descriptor"))(hm:Mz X id r)(ho:PE X o to)
  (xQ:attributeBase o name X.env (eval o X.env)=eval o X.env:=by rfl) (xX:(apos.endLine==fZ.line)=true:=by rfl):PE X (.Call (.Attribute o name apos) [] [] fZ) (IF X.K T r to):=by
 intro pins s σ H Q I h;refine wpAny_Call_method0_late xQ xX (bX (ho pins s σ H _ I h) λv s1⟨x,H1,I1,r1,ty,q1⟩=>?_);obtain⟨h1,h2⟩:=zk I1 r1 ty;exact⟨T,id,pa,slot,Li,h1,h2,Calls.callWith_builtin rfl (PySem.evalArgs_none (hm pins s1 σ H1 x [] v [] Q I1 r1 .nil q1))⟩
theorem HK(pa:PlainAttrs T)(slot:Slot T name id)(Li:typeOf (.builtin id)=pure (.type "method_descriptor"))(hm:Mz X id r)(ho:PE X o to)(ha:PA X (e::es) t)
  (xQ:attributeBase o name X.env (eval o X.env)=eval o X.env:=by rfl)
  (K4:((backTo fZ (starEach (e::es) X.env)).all (λx=> !x.1)&&(backToKw fZ (keywordEach [] X.env)).all (λx=>x.1.isSome)
   &&decide ((e::es).length+([]:List Keyword).length+(if ([]:List Keyword).isEmpty then 0 else 1)<30))=true:=by rfl)
  (xX:(apos.endLine==fZ.line)=true:=by rfl) (hs:starEach (e::es) X.env=(false,eval e X.env)::starEach es X.env:=by rfl) (Dz:(backTo fZ (starEach es X.env)).any (·.1)=false:=by rfl):
  PE X (.Call (.Attribute o name apos) (e::es) [] fZ) (NA X.K T r to t):=by
 intro pins s σ H Q I h;refine wpAny_Call_method_late xQ K4 xX rfl (bX (ho pins s σ H _ I h) λv s1⟨x,H1,I1,r1,ty,q1⟩=>?_);obtain⟨h1,h2⟩:=zk I1 r1 ty;refine⟨T,id,pa,slot,Li,h1,h2,?_⟩;have hA:=ha fZ pins s1 σ H1 _ I1 q1;rw[hs]at hA ⊢;refine Calls.callWith_builtin (by show (false||(backTo fZ (starEach es X.env)).any (·.1))=false;rw[Dz]<;>rfl) (Calls.evalArgs_plain ?_);exact bX hA λus s2⟨vs,H2,I2,r2,q2⟩=>hm pins s2 σ H2 x vs v us Q I2 r1 r2 q2
end
end L2
namespace L2
open PySem PySem.Spec PyProof.Rows
noncomputable def Jh(X:Cx)(id:String)(r:V->List V->Hp->VK->Prop):Prop:=
 ∀(pins:List (Addr×Obj))(s:Shared)(σ:St)(H:Hp)(x:V)(xs:List V)(v:Value)(us:List Value)(Q:VK),Inv X pins σ H s->RelV x v->au xs us->r x xs H Q->
  wpAny (model X.prog X.w) X.A (call (.builtin id) (v::us)) (EP X pins σ Q) X.xe s
theorem au.cons_inv{x:V}{xs:List V}{us:List Value}(h:au (x::xs) us):∃u ut,us=u::ut/\RelV x u/\au xs ut:=by
 cases h with
 |cons r t=>exact⟨_,_,rfl,r,t⟩
theorem au.one{x:V}{us:List Value}(h:au [x] us):∃u,us=[u]/\RelV x u:=
 have ⟨u,ut,e,r,t⟩:=h.cons_inv
 ⟨u,by cases t;exact e,r⟩
theorem au.two{x y:V}{us:List Value}(h:au [x,y] us):∃u v,us=[u,v]/\RelV x u/\RelV y v:=
 have ⟨u,ut,e,r,t⟩:=h.cons_inv;have ⟨v,e2,q⟩:=t.one
 ⟨u,v,e2▸e,r,q⟩
theorem au.zero:∀{us:List Value},au [] us->us=[]
 |_,.nil=>rfl
theorem au.dropLast{xs:List V}{us:List Value}(h:au xs us):au xs.dropLast us.dropLast:=by
 induction h with
 |nil=>exact .nil
 |cons r t ih=>
  cases t with
  |nil=>exact .nil
  |cons q t'=>exact .cons r ih
theorem au.rep{xs:List V}{us:List Value}(h:au xs us):∀k:Nat,au (List.replicate k xs).flatten (List.replicate k us).flatten
 |0=>.nil
 |k+1=>by rw[SG,SG,RY,RY];exact au.append h (au.rep h k)
theorem rj{α:Type}(l:List α):l.eraseIdx (l.length-1)=l.dropLast:=by
 induction l with
 |nil=>rfl
 |cons a r ih=>
  cases r with
  |nil=>rfl
  |cons b r=>
   have e:(a::b::r).length-1=((b::r).length-1)+1:=by
    have h1:(a::b::r).length=r.length+2:=rfl;have h2:(b::r).length=r.length+1:=rfl
    lia
   rw[e,List.eraseIdx_cons_succ,ih]
   all_goals rfl
theorem foldl_rep(its:List Value):∀(k:Nat)(acc:List Value),
  List.foldl (λx1 x2=>x1++x2) acc.toArray (List.replicate k its.toArray)=(acc++(List.replicate k its).flatten).toArray
 |0,acc=>by simp
 |k+1,acc=>by
  have e:acc.toArray++its.toArray=(acc++its).toArray:=by simp
  have e2:(acc++its)++(List.replicate k its).flatten=acc++(List.replicate (k+1) its).flatten:=by rw[SG,RY,Qk]
  rw[<-e2,<-foldl_rep its k (acc++its),<-e,SG,List.foldl_cons]
section
variable{X:Cx}{pins:List (Addr×Obj)}{σ:St}{H:Hp}{s:Shared}{l b:Addr}{xs ys zs:List V}
theorem Inv.AR{its its':List Value}{n:Nat}{f:Array Value->Array Value}{t':Nat}(I:Inv X pins σ H s)(hH:H l=some (.lst xs))
  (e:s.heap.get? l=some {cls:=.type "list",data:=.seq its.toArray n}) (hf:f its.toArray=its'.toArray) (hv:au ys its') (hz:ys.length<=sizeLine):
  Inv X pins σ (upd H l (.lst ys)) {s with heap:=s.heap.update l (Obj.mapSeq f),toks:=t'}:=by
 have q:=PySem.IsL.update e f;rw[hf]at q;refine I.write (x:=l) (e:=l) (by rw[hH];exact trivial) (.inl rfl) (λb' u hb hu=>(Qy s.heap (Obj.mapSeq f) (Tn hb)).trans hu) ⟨_,q⟩ ?_;exact⟨hz,its',_,hv,q⟩
theorem Inv.Hn{its:List Value}{t':Nat}(I:Inv X pins σ H s)(hv:au ys its)(hz:ys.length<=sizeLine):
  Inv X pins σ (upd H s.heap.objs.size (.lst ys)) {s with heap:=s.heap.push {cls:=.type "list",data:=.seq its.toArray},toks:=t'}:=
 I.laid (λ_ _ q=>P0 _ q) (Qb _) ⟨hz,its,0,hv,Qd _ rfl⟩
theorem Inv.fresh(I:Inv X pins σ H s):H s.heap.objs.size=none:=I.hok.fresh (Qb _)
theorem Inv.rN(I:Inv X pins σ H s)(hH:H l=some (.lst xs)):xs.length<=sizeLine/\∃(its:List Value)(n:Nat),au xs its/\xs.length=its.length/\s.heap.get? l=some {cls:=.type "list",data:=.seq its.toArray n}:=by obtain⟨z,its,n,r,e⟩:=I.hok l _ hH;exact⟨z,its,n,r,r.length,e⟩
theorem yA{n:Nat}(h:n<=sizeLine):Builtin.List.listTooLong n=false:=by unfold Builtin.List.listTooLong;exact Qv ⋯
end
section
variable{X:Cx}
noncomputable def uD:V->List V->Hp->VK->Prop:=λx vs H Q=>∃l xs y,x= .ref l/\vs=[y]/\H l=some (.lst xs)/\xs.length<sizeLine/\Q .aW (upd H l (.lst (xs++[y])))
theorem mU:Jh X "list.append" uD:=by
 intro pins s σ H x vs v us Q I rx rv h;obtain⟨l,xs,y,rfl,rfl,hH,hz,q⟩:=h;cases rx;obtain⟨u,rfl,ru⟩:=rv.one;obtain⟨z,its,n,r,hl,e⟩:=I.rN hH;refine TH F.slot_list_append ⟨_,e,rfl⟩ F.entry_list_append (F.args_list_append_2 _ _) (PySem.list_append l its.toArray n u (by rw[P6];lia)) ⟨e,?_⟩;refine⟨.aW,_,I.AR (its':=its++[u]) hH e (by simp) (r.append (.cons ru .nil)) ?_,rfl,q⟩;rw[Qm,Sg]
 lia
noncomputable def Br:V->List V->Hp->VK->Prop:=λx vs H Q=>∃l b xs zs,x= .ref l/\vs=[.ref b]/\H l=some (.lst xs)/\H b=some (.lst zs)/\xs.length+zs.length<=sizeLine/\Q .aW (upd H l (.lst (xs++zs)))
theorem FI:Jh X "list.extend" Br:=by
 intro pins s σ H x vs v us Q I rx rv h;obtain⟨l,b,xs,zs,rfl,rfl,hH,hB,hz,q⟩:=h;cases rx;obtain⟨u,rfl,ru⟩:=rv.one;cases ru;obtain⟨z,its,n,r,hl,e⟩:=I.rN hH;obtain⟨z2,aM,n2,r2,eU,e2⟩:=I.rN hB;have mJ:its.toArray.size+aM.toArray.size<=sizeLine:=by rw[P6,P6];lia
 have G4:¬(!its.toArray.isEmpty&&Builtin.List.listTooLong (its.toArray.size+aM.toArray.size))=true:=by rw[yA mJ,QY];exact Q2
 refine TH F.slot_list_extend ⟨_,e,rfl⟩ F.entry_list_extend (F.args_list_extend_2 _ _)
  (AutoSeq1.list_extend_list_list_0 l its.toArray n b aM.toArray n2 G4 (by rw[P6];lia) ⋯) ⟨e,e2,?_⟩
 refine⟨.aW,_,I.AR (its':=its++aM) hH e (by simp) (r.append r2) ?_,rfl,q⟩;rw[Qm]
 lia
noncomputable def LY:V->List V->Hp->VK->Prop:=λx vs H Q=>∃l xs y,x= .ref l/\vs=[]/\H l=some (.lst xs)/\xs[xs.length-1]?=some y/\Q y (upd H l (.lst xs.dropLast))
theorem LB:Jh X "list.pop" LY:=by
 intro pins s σ H x vs v us Q I rx rv h;obtain⟨l,xs,y,rfl,rfl,hH,hy,q⟩:=h;cases rx;have Ln:=rv.zero;subst Ln;obtain⟨z,its,n,r,hl,e⟩:=I.rN hH;obtain⟨u,hu,ru⟩:=r.get hy;have OX:its.toArray[its.toArray.size-1]?=some u:=by show its.toArray[its.length-1]?=some u;rw[<-Array.getElem?_toList,<-hl];exact hu
 refine TH F.slot_list_pop ⟨_,e,rfl⟩ F.entry_list_pop (F.args_list_pop_1 _) (MeetsSeq.list_pop_last l its.toArray n u OX (by rw[P6];lia)) ⟨e,?_⟩;refine⟨y,_,I.AR (its':=its.dropLast) hH e ?_ r.dropLast ?_,ru,q⟩
 ·show its.toArray.eraseIdxIfInBounds (its.toArray.size-1)=its.dropLast.toArray;rw[P6,List.eraseIdxIfInBounds_toArray,rj]
 ·rw[List.length_dropLast]
  lia
noncomputable def yQ:V->List V->Hp->VK->Prop:=λx vs H Q=>∃l xs,x= .ref l/\vs=[]/\H l=some (.lst xs)/\Q .aW (upd H l (.lst []))
theorem yv:Jh X "list.clear" yQ:=by intro pins s σ H x vs v us Q I rx rv h;obtain⟨l,xs,rfl,rfl,hH,q⟩:=h;cases rx;have Ln:=rv.zero;subst Ln;obtain⟨z,its,n,r,hl,e⟩:=I.rN hH;refine TH F.slot_list_clear ⟨_,e,rfl⟩ F.entry_list_clear (F.args_list_clear_1 _) (AutoSeq1.list_clear_list_0 l its.toArray n (by rw[P6];lia)) ⟨e,?_⟩;exact⟨.aW,_,I.AR (its':=[]) (ys:=[]) hH e rfl .nil (Tj _),rfl,q⟩
noncomputable def LQ:R2:=λx y H Q=>∃l b xs zs,x= .ref l/\y= .ref b/\H l=some (.lst xs)/\H b=some (.lst zs)/\xs.length+zs.length<=sizeLine/\∀p,H p=none->Q (.ref p) (upd H p (.lst (xs++zs)))
theorem D7:kr X (binaryOp .Add) LQ:=by
 intro pins s σ H x y v u Q I rx ry h;obtain⟨l,b,xs,zs,rfl,rfl,hH,hB,hz,q⟩:=h;cases rx;cases ry;obtain⟨z,its,n,r,hl,e⟩:=I.rN hH;obtain⟨z2,aM,n2,r2,eU,e2⟩:=I.rN hB;refine PySem.P.add_list e e2 ?_ (by rw[P6,P6];lia);have ea:its.toArray++aM.toArray=(its++aM).toArray:=by simp
 rw[ea];exact⟨.ref _,_,I.Hn (t':=s.toks) (r.append r2) (by rw[Qm];lia),rfl,q _ I.fresh⟩
theorem len_rep{α:Type}(xs:List α)(k:Nat):(List.replicate k xs).flatten.length=k*xs.length:=by
 induction k with
 |zero=>simp
 |succ k ih=>rw[SG,RY,Qm,ih,Th,Nat.add_comm]
end
end L2
namespace Att
open PySem PySem.W PySem.Calls PyProof.Rows
theorem jR{P:Params}{h:Heap}:∀(ns:List Int)(vs:List Value),WellAll P h vs (ns.map WData.int)->IntsAre vs ns:=by
 intro ns
 induction ns with
 |nil=>intro vs w;rw[Sm]at w;cases w;exact .nil
 |cons n ns ih=>
  intro vs w;rw[QO]at w;cases w with
  |cons a b=>cases a;exact .cons _ _ (ih _ b)
theorem vQ{l:OpenLaw}{n:Nat}(hn:l.most=some n){P:Params}{h:Heap}{args:List WData}{vals:List Value}
  (AD:l.row.toRowW.claim.pre args=true) (Lo:WellAll P h vals args):
  ∃a vs ns,vals=[Value.ref a]/\args=[WData.list (ns.map WData.int)]/\h.get? a=some {cls:=.type "list",data:=.seq vs.toArray}/\IntsAre vs ns/\ns.length<=n:=by
 have ON:WShape.hasAll [] args [.list .int]=true:=(pre_splitW AD).1;have hc:l.pre.holds [] {args:=args}=true:=(pre_splitW AD).2;obtain⟨d,r,rfl,h1,h2⟩:=hasAllW_cons ON;obtain rfl:=hasAllW_nil h2;obtain⟨xs,rfl,h3⟩:=hasW_list h1;obtain⟨ns,rfl⟩:=items_int h3;have hlen:ns.length<=n:=by
  unfold OpenLaw.pre at hc;have h4:(WTm.not (.lt (.lit (.int (n:Int))) (.len (.arg 0)))).holds [] {args:=[.list (ns.map .int)]}=true:=by have h4:=(holds_andW hc).1;rw[hn]at h4;exact h4
  have h5:=condW_of h4 (w_not (w_lt w_lit (w_len_list (w_arg rfl))));rw[Qf]at h5;refine Nat.le_of_not_lt λq=>?_
  have q':(n:Int)<((ns.length:Nat):Int):=⋯
  first
   |(rw[Qz q']at h5;exact absurd h5 (by decide))
   |(simp at h5;lia)
 cases Lo with
 |cons w1 w2=>
  cases w2;cases w1 with
  |list ho hall=>exact⟨_,_,ns,rfl,rfl,ho,jR ns _ hall,hlen⟩
theorem vL(l:OpenLaw)(args:List WData):l.row.toRowW.claim.post args (.bool true) args=true:=
 postW_of (r:=l.row.toRowW) (X:=(true==true))
  (show WShape.has [] (.bool true) .bool=true by first|rfl|decide|simp[WShape.has,WShape.arms,WShape.armsAll])
  (show (WTm.eq .res (.lit (.bool true))).value [] {args:=args,res:=some (.bool true),after:=args}=some (.bool (true==true)) from w_eq_bool (w_res rfl) w_lit) rfl
theorem pe{l:OpenLaw}{n:Nat}{q:Program}{loose:List Str}{XP:(Str->Option Value)->Heap->Prop}{YP:World->Heap->Prop}{d:DefRec}
  (hn:l.most=some n) (GU:d.params.defaults=[])
  (call:∀(w:World)(s₀ s₁:Shared)(mg mb:Str->Option Value)(fa:Addr)(o:Obj)(pm cd doc:Value)(a:Addr)(vs:List Value)(ns:List Int),
   Ground q loose [] XP w s₀ mg mb s₁.heap->YP w s₁.heap->
   s₁.heap.get? fa=some o->o.data= .func (docDef d.name d.params d.body d.scope pm cd doc)->s₁.heap.CodeRec cd d.name->mg d.name=some (.ref fa)->
   s₁.heap.get? a=some {cls:=.type "list",data:=.seq vs.toArray}->IntsAre vs ns->ns.length<=n->s₁.gens=#[]->
   codeAny (model l.prog w) callerA (.call (.ref fa) ⟨[.ref a],[]⟩) (λr s'=>r= .ok (.ret (.bool true))/\OldK s₁.heap s'.heap/\s'.os=s₁.os/\AllBare s'.gens) s₁):
  WalkO q loose XP YP l.row.toRowW d [] (λf vs=>PySem.call f vs):=by
 intro w s₀ s₁ mg mb G Y fa o pm cd doc dV kV ho hd zG hD hmg hg args vals as AD hlay hrd Lo og;obtain rfl:dV= .none:=Dflts.none hD GU;obtain rfl:kV= .none:=Dflts.noKw hD;obtain⟨a,vs,ns,rfl,rfl,Dv,hints,hlen⟩:=vQ hn AD Lo;refine enter_call (codeAny_mono (call w s₀ s₁ mg mb fa o pm cd doc a vs ns G Y ho (fd_plain hd) zG hmg Dv hints hlen hg) λr s' hq=>?_);obtain⟨rfl,h2,h3,h4⟩:=hq;exact⟨.inl ⟨.bool true,.bool true,[],rfl,λ_=>rfl,.bool true,vL l _,λ_=>⟨List.Pairwise.nil,λ_ hm=>(nomatch hm)⟩⟩,h2,h3,h4⟩
end Att
namespace L2
open PySem PySem.Spec PyProof.Rows
theorem nr:∀{vs:List Value}{ns:List Int},IntsAre vs ns->au (ns.map V.int) vs
 |_,_,.nil=>.nil
 |_,_,.cons n t h=>.cons ⟨t,rfl⟩ (nr h)
noncomputable def CI(H:Hp):Prop:=∀b,H b=none\/∃o xs,H b=some (.tO o (.lst xs))
theorem yg{P:Program}{w:World}{K:PySem.W.Frag}{mg mb:Str->Option Value}{CX:kn}{k:Nat}{fa a:Addr}{fd:FuncData}{x:Str}{sp:Sp}{s₁:Shared}{vs:List Value}{ns:List Int}
  (KX:K.In s₁.heap) (v8:s₁.heap.Ns mainGlobals mg) (hb:s₁.heap.Ns builtinsNs mb) (pK:∀x:Str,x≠"__name__"->mb x=bootBuiltins x) (dF:s₁.heap.NoLimit) (hg:s₁.gens=#[])
  (ha:s₁.heap.get? a=some {cls:=.type "list",data:=.seq vs.toArray}) (hi:IntsAre vs ns) (hl:ns.length<=sizeLine) (hr:iJ k callerA)
  (F:∀base:Heap,K.In base->base.Ns mainGlobals mg->ji P w K mg base CX k fa fd [x] sp) (GK:∀(s:Shared)(u:Value),BindsTo s fd ⟨[u],[]⟩ [(x,u)])
  (oX:∀H:Hp,CI H->dJ K H a (ns.map V.int)->sp [.ref a] H (λv _=>v= .bl true) λ_ _ _=>False)
  (KN:∀H e s',CX [] H s₁ (λ_ _ _=>False) e s'->False):
  codeAny (model P w) callerA (.call (.ref fa) ⟨[.ref a],[]⟩) (λr s'=>r= .ok (.ret (.bool true))/\OldK s₁.heap s'.heap/\s'.os=s₁.os/\AllBare s'.gens) s₁:=by
 have rv:=nr hi;have Ly:=hi.length;have core:∀H:Hp,CI H->dJ K H a (ns.map V.int)->fv P w H s₁.heap->(∀b,H b≠none->b=a)->(H a≠none->K.lookup a=none)->
   codeAny (model P w) callerA (.call (.ref fa) ⟨[.ref a],[]⟩) (λr s'=>r= .ok (.ret (.bool true))/\OldK s₁.heap s'.heap/\s'.os=s₁.os/\AllBare s'.gens) s₁:=by
  intro H hO hS hok hA hK;have sY:∀{b:Addr}{o:Obj},s₁.heap.get? b=some o->H b=none->(n9 s₁.heap H).get? b=some o:=λe n=>xT e n
  have Hy:∀{b:Addr}{o:Obj}{es:Array DictEntry}{ep:Nat},s₁.heap.get? b=some o->o.data= .dict es ep->H b=none:=λ {b o es ep} e d=>by
   cases q:H b with
   |none=>rfl
   |some u=>have e':b=a:=hA b (by rw[q];simp);subst e';rw[ha]at e;cases e;have d':Data.seq vs.toArray _=Data.dict es ep:=d;cases d'
  have JM:∀{b:Addr}{m:Str->Option Value},s₁.heap.Ns b m->(n9 s₁.heap H).Ns b m:=λ {b m} ⟨o,es,ep,e,d,r⟩=>⟨o,es,ep,sY e (Hy e d),d,r⟩
  have MV:K.In (n9 s₁.heap H):=λb o e=>sY (KX b o e) (by
   cases q:H b with
   |none=>rfl
   |some u=>
    have e':b=a:=hA b (by rw[q];simp);subst e';rw[hK (by rw[q];simp)]at e;cases e)
  have hM:Mod K mg (n9 s₁.heap H):=⟨MV,JM v8,⟨mb,JM hb,pK⟩,let ⟨mc,h1,h2⟩:=dF;⟨mc,JM h1,h2⟩⟩;have e0:zT P w K mg (n9 s₁.heap H) callerA [] s₁ H:=⟨rfl,hM,λb o e=>A0 e,Nat.le_of_eq (vt _ _),trivial,λb hb=>absurd (show b∈([]:List Addr) from hb) (by simp),hok,.of_eq hg⟩;refine codeAny_mono ((F _ MV (JM v8)).run callerA [] s₁ H ⟨[.ref a],[]⟩ [.ref a] [.ref a] _ _ hr e0 (GK s₁ (.ref a)) (.cons rfl .nil) (oX H hO hS)) λr s' h=>?_
  cases r with
  |error e=>exact(KN H e s' h).elim
  |ok fl=>
   cases fl with
   |next=>exact False.elim h
   |brk=>exact False.elim h
   |cont=>exact False.elim h
   |ret u=>
    obtain⟨v,H',os,bare,un,AB,r',q⟩:=h;have q':v= .bl true:=q;subst q';obtain rfl:u=Value.bool true:=r';refine⟨rfl,OldK.of_keep λb o e=>?_,os,bare⟩;cases q:H b with
    |none=>exact un.keep b o e q (by intro z;exact absurd (show b∈([]:List Addr) from z) (by simp)) (by simp)
    |some u=>
     rcases hO b with z|⟨ob,xs,z⟩
     ·rw[q]at z;cases z
     ·have z2:=un.frzs b ob _ z;obtain⟨e1,_⟩:=hok b _ z;obtain⟨e2,_⟩:=AB b _ z2;rw[e]at e1;cases e1;exact e2
 cases hk:K.lookup a with
 |some o=>have e:=KX a o hk;rw[ha]at e;cases e;refine core (λ_=>none) (λ_=>.inl rfl) (.inr ⟨_,vs.toArray,_,hk,rfl,rfl,rfl,by rw[P6,Ly];exact hl,by simpa using rv⟩) (λb u z=>by have z':(none:Option HO)=some u:=z;cases z') (λb z=>absurd rfl z) λz=>absurd rfl z
 |none=>
  refine core (λb=>if b=a then some (.tO {cls:=.type "list",data:=.seq vs.toArray} (.lst (ns.map V.int))) else none) (λb=>?_) (.inl (.inr ⟨{cls:=.type "list",data:=.seq vs.toArray},TN rfl⟩)) (λb u z=>?_) (λb z=>?_) λ_=>hk
  ·by_cases hb:b=a
   ·exact .inr ⟨_,_,TN hb⟩
   ·exact .inl (TM hb)
  ·by_cases hb:b=a
   ·have z':=(TN hb).symm.trans z;cases z';subst hb;exact⟨ha,by rw[Qf];exact hl,vs,_,rv,ha⟩
   ·have z':=(TM hb).symm.trans z;cases z'
  ·by_cases hb:b=a
   ·exact hb
   ·exact absurd (TM hb) z
end L2
namespace L2
open PySem PySem.Spec PyProof.Rows
theorem BJ{l:PySem.W.OpenLaw}{n k:Nat}{q:Program}{loose:List Str}{XP:(Str->Option Value)->Heap->Prop}{YP:World->Heap->Prop}{d:DefRec}{K:Params->PySem.W.Frag}{CX:World->kn}{sp:World->Sp}{x:Str}
  (hn:l.most=some n) (pP:n<=sizeLine) (GU:d.params.defaults=[]) (hr:iJ k callerA)
  (hY:∀(w:World)(h:Heap),YP w h->(K w.params).In h)
  (F:∀(w:World)(mg:Str->Option Value)(fa:Addr)(h:Heap),(K w.params).In h->h.Ns mainGlobals mg->mg d.name=some (.ref fa)->
   ∃fd:FuncData,(∀(s:Shared)(u:Value),BindsTo s fd ⟨[u],[]⟩ [(x,u)])/\
    ∀base:Heap,(K w.params).In base->base.Ns mainGlobals mg->ji l.prog w (K w.params) mg base (CX w) k fa fd [x] (sp w))
  (oX:∀(w:World)(H:Hp)(a:Addr)(ns:List Int),ns.length<=n->CI H->dJ (K w.params) H a (ns.map V.int)->sp w [.ref a] H (λv _=>v= .bl true) λ_ _ _=>False)
  (KN:∀(w:World)(H:Hp)(s:Shared)(e:Value)(s':Shared),CX w [] H s (λ_ _ _=>False) e s'->False):
  PySem.W.WalkO q loose XP YP l.row.toRowW d [] (λf vs=>PySem.call f vs):=by
 refine Att.pe hn GU λw s₀ s₁ mg mb fa o pm cd doc a vs ns G Y ho hd zG hmg Dv hints hlen hg=>?_
 have KX:=hY w _ Y;obtain⟨fd,hb,hF⟩:=F w mg fa _ KX G.T.g hmg;exact yg KX G.T.g G.T.b G.T.builtins G.T.nolimit hg Dv hints (Qh hlen pP) hr hF hb (λH hO hS=>oX w H a ns hlen hO hS) λH e s'=>KN w H s₁ e s'
end L2
namespace L2
open PySem PySem.Spec PyProof.Rows
noncomputable def nQ(s:Stmt):Arguments:=match s with
 |.FunctionDef _ a _ _ _ _ _ _ _ _=>a
 |_=>{posonlyargs:=[],args:=[],vararg:=none,kwonlyargs:=[],kw_defaults:=[],kwarg:=none,defaults:=[]}
noncomputable def iP(s:Stmt):List Stmt:=match s with
 |.FunctionDef _ _ b _ _ _ _ _ _ _=>b
 |_=>[]
noncomputable def bJ(s:Stmt):Scope:=match s with
 |.FunctionDef _ _ _ _ _ _ sc _ _ _=>sc
 |_=>{kind:=.function,names:=[],isGenerator:=false,isCoroutine:=false}
noncomputable abbrev E0:XK:=λ_ _ _=>False
theorem He{A B:Prop}(h:B):if false=true then A else B:=by rw[TM Q2];exact h
theorem Hf{A B:Prop}(h:A):if true=true then A else B:=by rw[TN rfl];exact h
noncomputable def bV(H H':Hp):Prop:=∀b o,H b=some o->H' b=some o
theorem bV.refl(H:Hp):bV H H:=λ_ _ h=>h
theorem bV.trans{H H1 H2:Hp}(a:bV H H1)(b:bV H1 H2):bV H H2:=λc o h=>b c o (a c o h)
end L2
end
section
namespace Mx
open PySem PyProof.Rows
inductive D where
 |int (i:Int)
 |str (x:Str)
 |tup (ds:List D)
mutual
noncomputable def D.jV:D->D->Bool
 |.int i,.int j=>i==j
 |.str x,.str y=>x==y
 |.tup a,.tup b=>D.eqs a b
 |_,_=>false
noncomputable def D.eqs:List D->List D->Bool
 |[],[]=>true
 |x::xs,y::ys=>D.jV x y&&D.eqs xs ys
 |_,_=>false
end
mutual
noncomputable def D.lt:D->D->Bool
 |.int i,.int j=>decide (i<j)
 |.int _,_=>true
 |.str _,.int _=>false
 |.str x,.str y=>decide (x.cps.toList<y.cps.toList)
 |.str _,.tup _=>true
 |.tup a,.tup b=>D.dm a b
 |.tup _,_=>false
noncomputable def D.dm:List D->List D->Bool
 |[],[]=>false
 |[],_::_=>true
 |_::_,[]=>false
 |x::xs,y::ys=>if D.jV x y=true then D.dm xs ys else D.lt x y
end
mutual
theorem D.cz:∀a b:D,D.jV a b=true↔a=b
 |.int i,.int j=>by simp[D.jV]
 |.str x,.str y=>by simp[D.jV]
 |.tup a,.tup b=>by simp only[D.jV,D.tup.injEq];exact D.tJ a b
 |.int _,.str _=>by simp[D.jV]
 |.int _,.tup _=>by simp[D.jV]
 |.str _,.int _=>by simp[D.jV]
 |.str _,.tup _=>by simp[D.jV]
 |.tup _,.int _=>by simp[D.jV]
 |.tup _,.str _=>by simp[D.jV]
theorem D.tJ:∀a b:List D,D.eqs a b=true↔a=b
 |[],[]=>by simp[D.eqs]
 |[],_::_=>by simp[D.eqs]
 |_::_,[]=>by simp[D.eqs]
 |x::xs,y::ys=>by simp only[D.eqs,P5,RG];rw[D.cz x y,D.tJ xs ys]
end
noncomputable instance:DecidableEq D:=λa b=>if h:D.jV a b=true then isTrue ((D.cz a b).mp h) else isFalse λe=>h ((D.cz a b).mpr e)
theorem D.jW(a b:D):D.jV a b=decide (a=b):=by rw[Q0,D.cz];simp
theorem D.de(x y:D)(xs ys:List D):D.dm (x::xs) (y::ys)=if x=y then D.dm xs ys else D.lt x y:=by
 rw[D.dm];by_cases h:x=y
 ·rw[TN h,TN ((D.cz x y).mpr h)]
 ·rw[TM h,TM λe=>h ((D.cz x y).mp e)]
mutual
theorem D.lt_irrefl:∀a:D,D.lt a a=false
 |.int i=>by simp[D.lt]
 |.str x=>by simp only[D.lt];exact strKind.irrefl _
 |.tup a=>by simp only[D.lt];exact D.kT a
theorem D.kT:∀a:List D,D.dm a a=false
 |[]=>by simp[D.dm]
 |x::xs=>by rw[D.de,TN rfl];exact D.kT xs
end
mutual
theorem D.gk:∀a b:D,D.lt a b=false->D.lt b a=false->a=b
 |.int i,.int j,h1,h2=>by simp only[D.lt,decide_eq_false_iff_not]at h1 h2;congr 1;lia
 |.str x,.str y,h1,h2=>by simp only[D.lt]at h1 h2;have:=strKind.total _ _ h1 h2;congr 1;cases x;cases y;simp only at this;congr 1;exact QW.mp this
 |.tup a,.tup b,h1,h2=>by simp only[D.lt]at h1 h2;rw[D.mS a b h1 h2]
 |.int _,.str _,h1,_=>by simp[D.lt]at h1
 |.int _,.tup _,h1,_=>by simp[D.lt]at h1
 |.str _,.int _,_,h2=>by simp[D.lt]at h2
 |.str _,.tup _,h1,_=>by simp[D.lt]at h1
 |.tup _,.int _,_,h2=>by simp[D.lt]at h2
 |.tup _,.str _,_,h2=>by simp[D.lt]at h2
theorem D.mS:∀a b:List D,D.dm a b=false->D.dm b a=false->a=b
 |[],[],_,_=>rfl
 |[],_::_,h1,_=>by simp[D.dm]at h1
 |_::_,[],_,h2=>by simp[D.dm]at h2
 |x::xs,y::ys,h1,h2=>by
  rw[D.de]at h1 h2;by_cases h:x=y
  ·subst h;rw[TN rfl]at h1 h2;rw[D.mS xs ys h1 h2]
  ·rw[TM h]at h1;rw[TM (Tn h)]at h2;exact absurd (D.gk x y h1 h2) h
end
mutual
theorem D.lt_trans:∀a b c:D,D.lt a b=true->D.lt b c=true->D.lt a c=true
 |.int i,.int j,.int k,h1,h2=>by simp only[D.lt,TK]at *;lia
 |.int _,_,.str _,_,_=>by simp[D.lt]
 |.int _,_,.tup _,_,_=>by simp[D.lt]
 |.int _,.str _,.int _,_,h2=>by simp[D.lt]at h2
 |.int _,.tup _,.int _,_,h2=>by simp[D.lt]at h2
 |.str _,.int _,_,h1,_=>by simp[D.lt]at h1
 |.str x,.str y,.str z,h1,h2=>by simp only[D.lt]at *;exact strKind.trans _ _ _ h1 h2
 |.str _,.str _,.int _,_,h2=>by simp[D.lt]at h2
 |.str _,_,.tup _,_,_=>by simp[D.lt]
 |.str _,.tup _,.int _,_,h2=>by simp[D.lt]at h2
 |.str _,.tup _,.str _,_,h2=>by simp[D.lt]at h2
 |.tup _,.int _,_,h1,_=>by simp[D.lt]at h1
 |.tup _,.str _,_,h1,_=>by simp[D.lt]at h1
 |.tup _,.tup _,.int _,_,h2=>by simp[D.lt]at h2
 |.tup _,.tup _,.str _,_,h2=>by simp[D.lt]at h2
 |.tup a,.tup b,.tup c,h1,h2=>by simp only[D.lt]at *;exact D.mT a b c h1 h2
theorem D.mT:∀a b c:List D,D.dm a b=true->D.dm b c=true->D.dm a c=true
 |[],[],_,h1,_=>by simp[D.dm]at h1
 |[],_::_,[],_,h2=>by simp[D.dm]at h2
 |[],_::_,_::_,_,_=>by simp[D.dm]
 |_::_,[],_,h1,_=>by simp[D.dm]at h1
 |_::_,_::_,[],_,h2=>by simp[D.dm]at h2
 |x::xs,y::ys,z::zs,h1,h2=>by
  rw[D.de]at h1 h2 ⊢;by_cases h:x=y
  ·subst h;rw[TN rfl]at h1;by_cases h':x=z
   ·rw[TN h']at h2 ⊢;exact D.mT xs ys zs h1 h2
   ·rw[TM h']at h2 ⊢;exact h2
  ·rw[TM h]at h1;by_cases h':y=z
   ·subst h';rw[TM h];exact h1
   ·rw[TM h']at h2;have h3:=D.lt_trans x y z h1 h2;by_cases h'':x=z
    ·subst h'';rw[D.lt_irrefl]at h3;cases h3
    ·rw[TM h''];exact h3
end
@[reducible] noncomputable def Ge:KeyOrd where
 α:=D
 blt:=D.lt
 irrefl:=D.lt_irrefl
 trans:=D.lt_trans
 negTrans:=λa b c h=>by
  cases h1:D.lt a b with
  |true=>exact .inl rfl
  |false=>
   right;cases h2:D.lt b a with
   |true=>exact D.lt_trans b a c h2 h
   |false=>rw[D.gk a b h1 h2]at h;exact h
 total:=D.gk
end Mx
end
section
namespace MxSort
open PySem PySem.W PyProof.Rows
section
variable{O:KeyOrd}{key:Nat->O.α}
noncomputable def rF(key:Nat->O.α)(p:Array Nat)(i:Nat):O.α:=key (p.getD i 0)
noncomputable def Up(key:Nat->O.α)(p:Array Nat)(n:Nat):Prop:=∀i j,i<=j->j<n->O.kle (rF key p i) (rF key p j)
noncomputable def Dn(key:Nat->O.α)(p:Array Nat)(n:Nat):Prop:=∀i j,i<=j->j<n->O.kle (rF key p j) (rF key p i)
theorem tQ{p q:Array Nat}{i j:Nat}(h:p[i]?=q[j]?):p.getD i 0=q.getD j 0:=by
 have e1:∀(p:Array Nat)(i:Nat),p.getD i 0=(p[i]?).getD 0:=λp i=>by simp[QT]
 rw[e1,e1,h]
theorem uc{p:Array Nat}{i j:Nat}(hj:j<=p.size)(k:Nat):rF key (kas_rev p i j) k=if i<=k/\k<j then rF key p (i+j-1-k) else rF key p k:=by
 have e:=getElem?_mirror_all (i:=i) hj k;unfold kas_rev rF;by_cases h1:i<=k/\k<j
 ·rw[TN h1]at e ⊢;exact TJ key (tQ e)
 ·rw[TM h1]at e ⊢;exact TJ key (tQ e)
noncomputable def Ord(N:Nat)(p:Array Nat):Prop:=p.toList.Perm (List.range N)
theorem Ord.size{N:Nat}{p:Array Nat}(h:Ord N p):p.size=N:=by have:=h.length_eq;rw[Sb]at this;rw[<-this];simp
variable{cmp:Nat->Nat->(Bool->Shared->Prop)->Shared->Prop}{s:Shared}{N:Nat}
noncomputable def Tells(O:KeyOrd)(key:Nat->O.α)(cmp:Nat->Nat->(Bool->Shared->Prop)->Shared->Prop)(N:Nat)(s:Shared):Prop:=
 ∀i j,i<N->j<N->∀C:Bool->Shared->Prop,C (O.blt (key i) (key j)) s->cmp i j C s
theorem Up.succ{p:Array Nat}{n:Nat}(h:Up key p n)(h1:1<=n)(h2:O.kle (rF key p (n-1)) (rF key p n)):Up key p (n+1):=λi j eT hj=>by
 by_cases e:j=n
 ·subst e;by_cases e2:i=j
  ·subst e2;exact Ry _
  ·exact Qx (h i (j-1) ⋯ ⋯) h2
 ·exact h i j eT ⋯
theorem Dn.succ{p:Array Nat}{n:Nat}(h:Dn key p n)(h1:1<=n)(h2:O.kle (rF key p n) (rF key p (n-1))):Dn key p (n+1):=λi j eT hj=>by
 by_cases e:j=n
 ·subst e;by_cases e2:i=j
  ·subst e2;exact Ry _
  ·exact Qx h2 (h i (j-1) ⋯ ⋯)
 ·exact h i j eT ⋯
theorem Dn.of{p q:Array Nat}{n:Nat}(e:∀k,rF key q k=rF key p k)(h:Dn key p n):Dn key q n:=λi j a b=>by rw[e,e];exact h i j a b
theorem zo{p:Array Nat}{n:Nat}(hn:n<=p.size)(h:Dn key p n):Up key (kas_rev p 0 n) n:=λi j eT hj=>by rw[uc hn,uc hn,TN ⋯,TN ⋯];exact h _ _ ⋯ ⋯
end
end MxSort
end
section
namespace Mx
open PySem PySem.Spec PyProof.Rows L2 PySem.SeqAt
mutual
noncomputable def D.dep:D->Nat
 |.int _=>0
 |.str _=>0
 |.tup ds=>D.dC ds+1
noncomputable def D.dC:List D->Nat
 |[]=>0
 |d::ds=>max (D.dep d) (D.dC ds)
end
mutual
noncomputable def DV(H:Hp):V->D->Prop
 |x,.int i=>x= .int i
 |x,.str z=>x= .str z
 |x,.tup ds=>∃a xs,x= .ref a/\H a=some (.tup xs)/\bb H xs ds
noncomputable def bb(H:Hp):List V->List D->Prop
 |[],[]=>True
 |x::xs,d::ds=>DV H x d/\bb H xs ds
 |[],_::_=>False
 |_::_,[]=>False
end
theorem bb.nil{H:Hp}:bb H [] []:=by unfold bb;trivial
theorem bb.cons{H:Hp}{x:V}{xs:List V}{d:D}{ds:List D}(h:DV H x d)(t:bb H xs ds):bb H (x::xs) (d::ds):=by unfold bb;exact⟨h,t⟩
theorem DV.int{H:Hp}{i:Int}:DV H (.int i) (.int i):=by unfold DV;rfl
theorem DV.str{H:Hp}{x:Str}:DV H (.str x) (.str x):=by unfold DV;rfl
theorem DV.tup{H:Hp}{a:Addr}{xs:List V}{ds:List D}(h:H a=some (.tup xs))(t:bb H xs ds):DV H (.ref a) (.tup ds):=by unfold DV;exact⟨a,xs,rfl,h,t⟩
theorem DV.ae{H:Hp}{x:V}{ds:List D}(h:DV H x (.tup ds)):∃a xs,x= .ref a/\H a=some (.tup xs)/\bb H xs ds:=by unfold DV at h;exact h
theorem DV.int_inv{H:Hp}{x:V}{i:Int}(h:DV H x (.int i)):x= .int i:=by unfold DV at h;exact h
theorem DV.str_inv{H:Hp}{x:V}{i:Str}(h:DV H x (.str i)):x= .str i:=by unfold DV at h;exact h
theorem bb.cons_inv{H:Hp}{xs:List V}{d:D}{ds:List D}(h:bb H xs (d::ds)):∃x r,xs=x::r/\DV H x d/\bb H r ds:=by
 cases xs with
 |nil=>unfold bb at h;exact h.elim
 |cons x r=>unfold bb at h;exact⟨x,r,rfl,h⟩
theorem bb.length{H:Hp}:∀{xs:List V}{ds:List D},bb H xs ds->xs.length=ds.length
 |[],[],_=>rfl
 |[],_::_,h=>by unfold bb at h;exact h.elim
 |_::_,[],h=>by unfold bb at h;exact h.elim
 |_::xs,_::ds,h=>by unfold bb at h;simp[bb.length h.2]
theorem bb.get{H:Hp}:∀{xs:List V}{ds:List D}{i:Nat}{x:V},bb H xs ds->xs[i]?=some x->∃d,ds[i]?=some d/\DV H x d
 |[],_,_,_,_,e=>by simp at e
 |_::_,[],_,_,h,_=>by unfold bb at h;exact h.elim
 |_::_,_::_,0,_,h,e=>by unfold bb at h;simp at e;subst e;exact⟨_,rfl,h.1⟩
 |_::xs,_::ds,i+1,x,h,e=>by unfold bb at h;obtain⟨d,e1,e2⟩:=bb.get (i:=i) h.2 (by simpa using e);exact⟨d,by simpa using e1,e2⟩
theorem bb.append{H:Hp}:∀{xs ys:List V}{ds es:List D},bb H xs ds->bb H ys es->bb H (xs++ys) (ds++es)
 |[],_,[],_,_,h=>h
 |[],_,_::_,_,h,_=>by unfold bb at h;exact h.elim
 |_::_,_,[],_,h,_=>by unfold bb at h;exact h.elim
 |_::xs,ys,_::ds,es,h,h'=>by unfold bb at h;exact bb.cons h.1 (bb.append h.2 h')
noncomputable def zW(H H':Hp):Prop:=∀a xs,H a=some (.tup xs)->H' a=some (.tup xs)
mutual
theorem DV.mono{H H':Hp}(t:zW H H'):∀{x:V}{d:D},DV H x d->DV H' x d
 |x,.int i,h=>by unfold DV at h ⊢;exact h
 |x,.str z,h=>by unfold DV at h ⊢;exact h
 |x,.tup ds,h=>by obtain⟨a,xs,e,e1,e2⟩:=h.ae;subst e;exact DV.tup (t a xs e1) (bb.mono t e2)
theorem bb.mono{H H':Hp}(t:zW H H'):∀{xs:List V}{ds:List D},bb H xs ds->bb H' xs ds
 |[],[],_=>bb.nil
 |[],_::_,h=>by unfold bb at h;exact h.elim
 |_::_,[],h=>by unfold bb at h;exact h.elim
 |_::xs,_::ds,h=>by unfold bb at h;exact bb.cons (DV.mono t h.1) (bb.mono t h.2)
end
mutual
theorem DV.inj{H:Hp}:∀{x:V}{d e:D},DV H x d->DV H x e->d=e
 |x,.int i,e,h1,h2=>by
  have:=h1.int_inv;subst this;cases e with
  |int j=>have:=h2.int_inv;injection this with q;rw[q]
  |str j=>have:=h2.str_inv;cases this
  |tup j=>obtain⟨_,_,q,_⟩:=h2.ae;cases q
 |x,.str i,e,h1,h2=>by
  have:=h1.str_inv;subst this;cases e with
  |int j=>have:=h2.int_inv;cases this
  |str j=>have:=h2.str_inv;injection this with q;rw[q]
  |tup j=>obtain⟨_,_,q,_⟩:=h2.ae;cases q
 |x,.tup ds,e,h1,h2=>by
  obtain⟨a,xs,q,e1,e2⟩:=h1.ae;subst q;cases e with
  |int j=>have:=h2.int_inv;cases this
  |str j=>have:=h2.str_inv;cases this
  |tup j=>obtain⟨b,ys,q,f1,f2⟩:=h2.ae;cases q;rw[e1]at f1;cases f1;rw[bb.inj e2 f2]
theorem bb.inj{H:Hp}:∀{xs:List V}{ds es:List D},bb H xs ds->bb H xs es->ds=es
 |[],[],[],_,_=>rfl
 |[],[],_::_,_,h=>by unfold bb at h;exact h.elim
 |[],_::_,_,h,_=>by unfold bb at h;exact h.elim
 |_::_,[],_,h,_=>by unfold bb at h;exact h.elim
 |_::_,_::_,[],_,h=>by unfold bb at h;exact h.elim
 |_::xs,_::ds,_::es,h1,h2=>by unfold bb at h1 h2;rw[DV.inj h1.1 h2.1,bb.inj h1.2 h2.2]
end
noncomputable def Jk(ds es:List D)(j:Nat):Bool:=match ds[j]?,es[j]? with
 |some d,some e=>D.jV d e
 |_,_=>true
theorem sT:∀ds es:List D,((List.range (min ds.length es.length)).all (Jk ds es)&&ds.length==es.length)=D.eqs ds es
 |[],[]=>by simp[D.eqs]
 |[],_::_=>by simp[D.eqs]
 |_::_,[]=>by simp[D.eqs]
 |d::ds,e::es=>by
  have ih:=sT ds es;have hm:min (d::ds).length (e::es).length=min ds.length es.length+1:=by simp only[Qo];lia
  have e1:((d::ds).length==(e::es).length)=(ds.length==es.length):=by rw[Q0];simp
  rw[hm,List.range_succ_eq_map,RD,List.all_map,e1,D.eqs,<-ih,Bool.and_assoc];rfl
theorem nR{d:D}:∀{ds:List D}{j:Nat},ds[j]?=some d->D.dep d<=D.dC ds
 |[],_,h=>by simp at h
 |d'::ds,0,h=>by simp at h;subst h;unfold D.dC;lia
 |d'::ds,j+1,h=>by have:=nR (ds:=ds) (j:=j) (by simpa using h);unfold D.dC;lia
section
variable{P:Program}{w:World}{H:Hp}{s:Shared}
theorem ar(hok:fv P w H s.heap){a:Addr}{xs:List V}(h:H a=some (.tup xs)):∃its:List Value,au xs its/\s.heap.IsTuple a its.toArray:=by obtain⟨_,its,r,t⟩:=hok a _ h;exact⟨its,r,t.is⟩
theorem eq_data(hok:fv P w H s.heap):∀(n:Nat)(d e:D)(x y:V)(u v:Value)(A:Around),D.dep d<=n->A.units+n<cLine->DV H x d->DV H y e->RelV x u->RelV y v->EqAt A s u v (D.jV d e):=by
 intro n
 induction n with
 |zero=>
  intro d e x y u v A hd hu hx hy rx ry;cases d with
  |int i=>
   have:=hx.int_inv;subst this;obtain⟨t,rfl⟩:=rx;cases e with
   |int j=>have:=hy.int_inv;subst this;obtain⟨t',rfl⟩:=ry;exact EqAt.int_int i t j t'
   |str j=>have:=hy.str_inv;subst this;obtain⟨t',rfl⟩:=ry;exact EqAt.int_str i t j t'
   |tup j=>obtain⟨b,ys,q,f1,f2⟩:=hy.ae;subst q;cases ry;obtain⟨its,_,ht⟩:=ar hok f1;exact EqAt.int_tuple i t ht ⋯
  |str i=>
   have:=hx.str_inv;subst this;obtain⟨t,rfl⟩:=rx;cases e with
   |int j=>have:=hy.int_inv;subst this;obtain⟨t',rfl⟩:=ry;exact EqAt.str_int i t j t'
   |str j=>have:=hy.str_inv;subst this;obtain⟨t',rfl⟩:=ry;exact EqAt.str_str i t j t'
   |tup j=>obtain⟨b,ys,q,f1,f2⟩:=hy.ae;subst q;cases ry;obtain⟨its,_,ht⟩:=ar hok f1;exact EqAt.str_tuple i t ht ⋯
  |tup ds=>unfold D.dep at hd;lia
 |succ n ih=>
  intro d e x y u v A hd hu hx hy rx ry;cases d with
  |int i=>exact ih (.int i) e x y u v A (by unfold D.dep;lia) ⋯ hx hy rx ry
  |str i=>exact ih (.str i) e x y u v A (by unfold D.dep;lia) ⋯ hx hy rx ry
  |tup ds=>
   obtain⟨a,xs,q,e1,e2⟩:=hx.ae;subst q;cases rx;obtain⟨its,r1,ht⟩:=ar hok e1;cases e with
   |int j=>have:=hy.int_inv;subst this;obtain⟨t',rfl⟩:=ry;exact EqAt.tuple_int j t' ht ⋯
   |str j=>have:=hy.str_inv;subst this;obtain⟨t',rfl⟩:=ry;exact EqAt.tuple_str j t' ht ⋯
   |tup es=>
    obtain⟨b,ys,q,f1,f2⟩:=hy.ae;subst q;cases ry;obtain⟨aM,r2,b9⟩:=ar hok f1;by_cases fS:a=b
    ·subst fS;rw[e1]at f1;cases f1;have:=bb.inj e2 f2;subst this;have q:D.jV (.tup ds) (.tup ds)=true:=(D.cz _ _).mpr rfl;rw[q];exact EqAt.same _
    ·have l1:its.toArray.size=ds.length:=by rw[P6,<-r1.length,e2.length]
     have l2:aM.toArray.size=es.length:=by rw[P6,<-r2.length,f2.length]
     have key:=RcAt.tuples (A:=A) (e:=Jk ds es) ht b9 ⋯ (λj h1 h2=>?_)
     ·have q:=sT ds es;rw[<-l1,<-l2]at q;rw[q]at key;exact EqAt.of_refs fS key
     ·have pI:j<xs.length:=by rw[e2.length,<-l1];exact h1
      have pJ:j<ys.length:=by rw[f2.length,<-l2];exact h2
      obtain⟨d,g1,g2⟩:=e2.get (i:=j) (x:=xs[j]) (by simp[pI]);obtain⟨e,k1,k2⟩:=f2.get (i:=j) (x:=ys[j]) (by simp[pJ]);obtain⟨u,AF,ru⟩:=r1.get (i:=j) (x:=xs[j]) (by simp[pI]);obtain⟨v,DF,rv⟩:=r2.get (i:=j) (x:=ys[j]) (by simp[pJ]);have eu:its.toArray[j]=u:=by have:its[j]?=some u:=AF;simp only[R8];have q:=P8.mp this;exact q.2
      have ev:aM.toArray[j]=v:=by have:aM[j]?=some v:=DF;simp only[R8];have q:=P8.mp this;exact q.2
      rw[eu,ev];have ee:Jk ds es j=D.jV d e:=by unfold Jk;rw[g1,k1]
      rw[ee];refine ih d e xs[j] ys[j] u v A.in1 ?_ (by show A.units+1+n<cLine;lia) g2 k2 ru rv;have:=nR g1;unfold D.dep at hd
      lia
end
mutual
noncomputable def D.cN:D->D->Prop
 |.int _,.int _=>True
 |.str _,.str _=>True
 |.tup a,.tup b=>D.eY a b
 |_,_=>False
noncomputable def D.eY:List D->List D->Prop
 |x::xs,y::ys=>D.cN x y/\D.eY xs ys
 |_,_=>True
end
noncomputable def CF(A:Around)(s:Shared)(u v:Value)(b:Bool):Prop:=
 ∀(prog:Program)(w:World)(E:Value->Shared->Prop)(Q:Value->Shared->Prop),Q (.bool b) s->wpAny (model prog w) A (richCompare .Lt u v) Q E s
inductive Zp(A:Around)(s:Shared):List Value->List Value->List D->List D->Prop
 |nil {ws:List Value} {es:List D}:ws.length=es.length->Zp A s [] ws [] es
 |qa {vs:List Value} {ds:List D}:vs.length=ds.length->Zp A s vs [] ds []
 |cons {v w:Value} {d e:D} {vs ws:List Value} {ds es:List D}:EqAt A s v w (D.jV d e)->(d≠e->CF A s v w (D.lt d e))->Zp A s vs ws ds es->Zp A s (v::vs) (w::ws) (d::ds) (e::es)
section
open PySem.AutoSeq1 (wpAny_loadPart')
open PySem.MeetsSeq PySem.MeetsSeq2 PySem.MeetsSeq3
theorem ml(l b:Addr)(items cn:Array Value)(n n2:Nat)(dd tx:Option Addr)(sl uI:Array (Option Value))(ds es:List D)(z1:items.size=ds.length)(z2:cn.size=es.length):
  Meets (Builtin.«tuple.__lt__» ⟨[.ref l,.ref b],[]⟩)
   (λA R s=>s.heap.get? l=some {cls:=.type "tuple",dict:=dd,data:=.seq items n,slots:=sl}/\s.heap.get? b=some {cls:=.type "tuple",dict:=tx,data:=.seq cn n2,slots:=uI}/\
    Zp A.in1 s items.toList cn.toList ds es/\R (.ok (.ret (.bool (D.dm ds es)))) s):=
 .of_wp λprog w A R s h=>by
  obtain⟨hp,g,d,tk,os⟩:=s;obtain⟨hl,hb,Lq,h⟩:=h;have f2:=AutoSeq1.sub_tuple_tuple
  wp_walk using wpAny_loadPart' hl,wpAny_loadPart' hb,wpAny_forIn_list _ (λrest b s'=>b.1=none/\s'=⟨hp,g,d,tk,os⟩/\∃(vs ws:List Value)(mG fw:List D),rest=vs.zip ws/\
   Zp A.in1 ⟨hp,g,d,tk,os⟩ vs ws mG fw/\mG.length+cn.size=fw.length+items.size/\R (.ok (.ret (.bool (D.dm mG fw)))) ⟨hp,g,d,tk,os⟩) _
  case turn=>
   rintro⟨y,x⟩ rest b s' ⟨nZ,rfl,vs,ws,mG,fw,hz,tW,hlen,hR⟩;cases tW with
   |nil _=>rw[SZ]at hz;cases hz
   |qa _=>rw[S4]at hz;cases hz
   |cons he hl yc=>
    rename_i v wv d0 e0 v9 ws' ds'' es'';rw[SY]at hz;injection hz with hyx x8;injection hyx with hy hx;subst hy hx;rw[D.de]at hR;simp only[Qo]at hlen;refine PY (he prog w _ _ ?_);by_cases hde:d0=e0
    ·rw[TN hde]at hR;rw[(D.cz d0 e0).mpr hde]
     wp_walk
     exact⟨rfl,rfl,_,_,_,_,x8,yc,by lia,hR⟩
    ·rw[TM hde]at hR;have Ks:D.jV d0 e0=false:=by rw[D.jW];exact Qv hde
     rw[Ks];have Lg:=hl hde prog w
     wp_walk using Lg
     exact⟨_,rfl,by simpa using hR⟩
  case fin=>
   rintro⟨b1,b2⟩ s' ⟨nZ,rfl,vs,ws,mG,fw,hz,tW,hlen,hR⟩;simp only at nZ;subst nZ;have hv:D.dm mG fw=decide (items.size<cn.size):=by
    cases tW with
    |nil _=>
     cases fw with
     |nil=>simp only[Sa]at hlen;rw[D.dm];exact(Qv ⋯).symm
     |cons c u=>simp only[Sa,Qo]at hlen;rw[D.dm];exact(Qz ⋯).symm
    |qa _=>
     cases mG with
     |nil=>simp only[Sa]at hlen;rw[D.dm];exact(Qv ⋯).symm
     |cons c u=>simp only[Sa,Qo]at hlen;rw[D.dm];exact(Qv ⋯).symm
    |cons he hl yc=>rw[SY]at hz;cases hz
   rw[hv]at hR
   wp_walk
   exact⟨_,rfl,by simpa [Builtin.Tuple.tupleCompareSizes]using hR⟩
  case h=>exact⟨rfl,rfl,items.toList,cn.toList,ds,es,rfl,Lq,by lia,h⟩
end
section
variable{P:Program}{w:World}{H:Hp}{s:Shared}
theorem zD(hok:fv P w H s.heap){A:Around}{n:Nat}(hu:A.units+n<cLine)(ih:∀(d e:D)(x y:V)(u v:Value),D.dep d<=n->D.cN d e->DV H x d->DV H y e->RelV x u->RelV y v->CF A s u v (D.lt d e)):
  ∀{xs ys:List V}{us vs:List Value}{ds es:List D},D.dC ds<=n->D.eY ds es->bb H xs ds->bb H ys es->au xs us->au ys vs->Zp A s us vs ds es
 |[],ys,us,vs,[],es,_,_,_,h2,r1,r2=>by cases r1;exact .nil (by rw[<-r2.length,h2.length])
 |x::xs,[],us,vs,ds,[],_,_,h1,_,r1,r2=>by cases r2;exact .qa (by rw[<-r1.length,h1.length])
 |[],_,_,_,_::_,_,_,_,h,_,_,_=>by unfold bb at h;exact h.elim
 |_::_,_,_,_,[],_,_,_,h,_,_,_=>by unfold bb at h;exact h.elim
 |_::_,[],_,_,_::_,_::_,_,_,_,h,_,_=>by unfold bb at h;exact h.elim
 |_::_,_::_,_,_,_::_,[],_,_,_,h,_,_=>by unfold bb at h;exact h.elim
 |x::xs,y::ys,us,vs,d::ds,e::es,hd,hl,h1,h2,r1,r2=>by
  unfold bb at h1 h2;unfold D.eY at hl;unfold D.dC at hd;cases r1 with
  |cons r1 t1=>
   cases r2 with
   |cons r2 t2=>exact .cons (eq_data hok n d e x y _ _ A ⋯ hu h1.1 h2.1 r1 r2) (λ_=>ih d e x y _ _ ⋯ hl.1 h1.1 h2.1 r1 r2) (zD hok hu ih ⋯ hl.2 h1.2 h2.2 t1 t2)
theorem AS(hok:fv P w H s.heap):∀(n:Nat)(d e:D)(x y:V)(u v:Value)(A:Around),D.dep d<=n->A.units+n<cLine->D.cN d e->DV H x d->DV H y e->RelV x u->RelV y v->CF A s u v (D.lt d e):=by
 intro n
 induction n with
 |zero=>
  intro d e x y u v A hd hu hl hx hy rx ry;cases d with
  |int i=>
   have:=hx.int_inv;subst this;obtain⟨t,rfl⟩:=rx;cases e with
   |int j=>have:=hy.int_inv;subst this;obtain⟨t',rfl⟩:=ry;intro prog wd E Q q;exact(PyProof.Rows.lt_int q:wpAny (model prog wd) A (compareOp .Lt (.int i t) (.int j t')) Q E s)
   |str j=>unfold D.cN at hl;exact hl.elim
   |tup j=>unfold D.cN at hl;exact hl.elim
  |str i=>
   have:=hx.str_inv;subst this;obtain⟨t,rfl⟩:=rx;cases e with
   |int j=>unfold D.cN at hl;exact hl.elim
   |str j=>have:=hy.str_inv;subst this;obtain⟨t',rfl⟩:=ry;intro prog wd E Q q;exact(PySem.P.lt_str q:wpAny (model prog wd) A (compareOp .Lt (.str i t) (.str j t')) Q E s)
   |tup j=>unfold D.cN at hl;exact hl.elim
  |tup ds=>unfold D.dep at hd;lia
 |succ n ih=>
  intro d e x y u v A hd hu hl hx hy rx ry;cases d with
  |int i=>exact ih (.int i) e x y u v A (by unfold D.dep;lia) ⋯ hl hx hy rx ry
  |str i=>exact ih (.str i) e x y u v A (by unfold D.dep;lia) ⋯ hl hx hy rx ry
  |tup ds=>
   obtain⟨a,xs,q,e1,e2⟩:=hx.ae;subst q;cases rx;cases e with
   |int j=>unfold D.cN at hl;exact hl.elim
   |str j=>unfold D.cN at hl;exact hl.elim
   |tup es=>
    obtain⟨b,ys,q,f1,f2⟩:=hy.ae;subst q;cases ry;obtain⟨its,r1,ht⟩:=ar hok e1;obtain⟨aM,r2,b9⟩:=ar hok f1;have l1:its.toArray.size=ds.length:=by rw[P6,<-r1.length,e2.length]
    have l2:aM.toArray.size=es.length:=by rw[P6,<-r2.length,f2.length]
    have qM:D.dC ds<=n:=by unfold D.dep at hd;lia
    have Ds:D.eY ds es:=by unfold D.cN at hl;exact hl
    have zz:Zp A.in1 s its aM ds es:=zD hok (n:=n) (by show A.units+1+n<cLine;lia) (λd e x y u v hd2 eU yb hy2 rx2 ry2=>ih d e x y u v A.in1 hd2 (by show A.units+1+n<cLine;lia) eU yb hy2 rx2 ry2) qM Ds e2 f2 r1 r2;intro prog wd E Q q;obtain⟨⟨cls,dd,data,sl⟩,ho,hc,k,v7⟩:=id ht;obtain⟨⟨C9,tx,data2,uI⟩,pQ,qL,k2,lY⟩:=id b9;simp only at hc v7 qL lY;subst hc v7 qL lY;have q':Q (.bool (D.dm ds es)) s:=by have z:=q;unfold D.lt at z;exact z
    exact richCompare_meets_room (op:=.Lt) ⟨_,ho,rfl⟩ ⟨_,pQ,rfl⟩ PySem.F.slot_tuple_lt PySem.F.entry_tuple_lt (PySem.F.args_tuple_lt_2 _ _) (ml a b its.toArray aM.toArray k k2 dd tx sl uI ds es l1 l2)
     ⟨ho,pQ,zz,show Value.bool (D.dm ds es)≠Value.notImplemented/\Q (.bool (D.dm ds es)) s from⟨(λx=>nomatch x),q'⟩⟩ ⋯
end
end Mx
end
section
namespace Mx
open PySem PySem.W PySem.Spec PyProof.Rows L2 PySem.SeqAt MxSort
section
variable{P:Program}{w:World}{H:Hp}{prog:Program}{s:Shared}{A:Around}
theorem AM{b:Bool}{n m:Nat}{Q:Bool->Shared->Prop}{us vs:List Value}{ds es:List D}(z:Zp A s us vs ds es):∀(i:Nat),1<=i->ds.length+m=es.length+n->Q (D.dm ds es) s->KatLex prog w A b (decide (n<m)) Q (us.zip vs) i s:=by
 induction z with
 |nil hl=>
  intro i hi hlen q;rw[SZ];refine kat_nil ?_;rename_i ws es;cases es with
  |nil=>simp only[Sa]at hlen;rw[D.dm]at q;rw[Qv ⋯];exact q
  |cons c u=>simp only[Sa,Qo]at hlen;rw[D.dm]at q;rw[Qz ⋯];exact q
 |qa hl=>
  intro i hi hlen q;rw[S4];refine kat_nil ?_;rename_i vs ds;cases ds with
  |nil=>simp only[Sa]at hlen;rw[D.dm]at q;rw[Qv ⋯];exact q
  |cons c u=>simp only[Sa,Qo]at hlen;rw[D.dm]at q;rw[Qv ⋯];exact q
 |cons he hl z' ih=>
  intro i hi hlen q;rename_i v wv d e v9 ws' mG fw;rw[SY];simp only[Qo]at hlen;rw[D.de]at q;refine kat_cons (he prog w _ _ ?_);by_cases hde:d=e
  ·rw[(D.cz d e).mpr hde];rw[TN hde]at q;exact kat_yes (ih (i+1) ⋯ ⋯ q)
  ·rw[show D.jV d e=false by rw[D.jW];exact Qv hde];rw[TM hde]at q;refine kat_no ?_;rw[show (b&&i==0)=false by rw[show (i==0)=false by simp;lia];simp];exact kat_one v wv (hl hde prog w _ _ q)
end
noncomputable def kv(ds es:List D):Prop:=es.Perm ds/\es.Pairwise λa b=>D.lt b a=false
theorem bb.map{H:Hp}{xs:List V}{ds:List D}(h:bb H xs ds):∀{p:List Nat},(∀i∈p,i<xs.length)->bb H (p.map λi=>xs.getD i .aW) (p.map λi=>ds.getD i (.int 0))
 |[],_=>bb.nil
 |i::p,hp=>by have hi:=hp i Qc;obtain⟨d,e1,e2⟩:=h.get (i:=i) (x:=xs[i]) (by simp[hi]);refine bb.cons ?_ (bb.map h λj hj=>hp j (P9 _ hj));dsimp only;rw[show xs.getD i .aW=xs[i] by simp[hi],show ds.getD i (.int 0)=d by simp[e1]];exact e2
theorem qG{xs:List V}{us:List Value}(h:au xs us):∀{p:List Nat},(∀i∈p,i<xs.length)->au (p.map λi=>xs.getD i .aW) (p.map λi=>us.getD i .none)
 |[],_=>.nil
 |i::p,hp=>by have hi:=hp i Qc;obtain⟨u,e1,e2⟩:=h.get (i:=i) (x:=xs[i]) (by simp[hi]);refine .cons ?_ (qG h λj hj=>hp j (P9 _ hj));dsimp only;rw[show xs.getD i .aW=xs[i] by simp[hi],show us.getD i .none=u by simp[e1]];exact e2
theorem gp{α:Type}(l:List α)(d:α):(List.range l.length).map (λi=>l.getD i d)=l:=by
 refine List.ext_getElem (by simp) λi h1 h2=>?_
 simp at h1;simp[h1]
end Mx
end
section
namespace L2
open PySem PySem.Spec PyProof.Rows
noncomputable def nN(env:Env):List (Str×NameKind)->List (Str×Addr)->List (Str×Addr)
 |[],cs=>cs
 |(n,k)::r,cs=>nN env r (if k== .free then(n,(env.cells.lookup n).getD 0)::cs else cs)
noncomputable def fO(scope:Scope)(env:Env):List (Str×Addr):=nN env scope.names []
theorem kH{env:Env}:∀(l:List (Str×NameKind))(cs:List (Str×Addr)),(∀y∈l,y.2= .free->∃c,env.cells.lookup y.1=some c)->
  (forIn l cs (λx r=>do
   if x.2==NameKind.free then do let a<-cellOf env x.1;pure (ForInStep.yield ((x.1,a)::r)) else pure (ForInStep.yield r)):Sem (List (Str×Addr)))=pure (nN env l cs)
 |[],cs,_=>rfl
 |(n,k)::r,cs,h=>by
  rw[RZ];have ih:=λcs=>kH r cs λy hy=>h y (P9 _ hy)
  cases hk:(k==NameKind.free) with
  |false=>simp only[hk,Q1,TL,nN,pure_bind];exact ih cs
  |true=>
   obtain⟨c,hc⟩:=h (n,k) Qc (by simpa using hk);have n8:env.cells.lookup n=some c:=hc;have e:cellOf env n=pure c:=by unfold cellOf;rw[n8]
   simp only[hk,TQ,nN,e,pure_bind,n8,Option.getD_some];exact ih _
theorem gZ{scope:Scope}{env:Env}(h:∀y∈scope.names,y.2= .free->∃c,env.cells.lookup y.1=some c):closureFor scope env=pure (fO scope env):=by have q:=kH (env:=env) scope.names [] h;unfold closureFor fO;rw[<-q];simp only[bind_pure]
theorem jA{env:Env}{x:Str}{c:Addr}:∀(l:List (Str×NameKind))(cs:List (Str×Addr)),(∀y∈l,y.2= .free->∃c,env.cells.lookup y.1=some c)->
  (∀c,cs.lookup x=some c->env.cells.lookup x=some c)->(nN env l cs).lookup x=some c->env.cells.lookup x=some c
 |[],cs,_,h2,h=>h2 c h
 |(n,k)::r,cs,h1,h2,h=>by
  refine jA r _ (λy hy=>h1 y (P9 _ hy)) (λc' n8=>?_) h;by_cases hk:(k==NameKind.free)=true
  ·rw[TN hk]at n8;rw[Qw]at n8;by_cases hx:(x==n)=true
   ·rw[hx]at n8;have ya:x=n:=by simpa using hx
    subst ya;obtain⟨c₁,e⟩:=h1 (x,k) Qc (by simpa using hk);have e':env.cells.lookup x=some c₁:=e;rw[e']at n8 ⊢;simpa using n8
   ·rw[Bool.not_eq_true]at hx;rw[hx]at n8;exact h2 c' n8
  ·rw[TM hk]at n8;exact h2 c' n8
theorem kD{env:Env}{x:Str}:∀(l:List (Str×NameKind))(cs:List (Str×Addr)),(((x,NameKind.free)∈l)\/∃c,cs.lookup x=some c)->∃c,(nN env l cs).lookup x=some c
 |[],cs,h=>by
  rcases h with h|h
  ·cases h
  ·exact h
 |(n,k)::r,cs,h=>by
  refine kD r _ ?_;by_cases hk:(k==NameKind.free)=true
  ·rw[TN hk];by_cases hx:(x==n)=true
   ·exact .inr ⟨_,by rw[Qw,hx]⟩
   ·rw[Bool.not_eq_true]at hx;rcases h with h|h
    ·rcases Qi.mp h with e|h
     ·injection e with e1 e2;subst e1;simp at hx
     ·exact .inl h
    ·exact .inr (by obtain⟨c,e⟩:=h;exact⟨c,by rw[Qw,hx];exact e⟩)
  ·rw[TM hk];rcases h with h|h
   ·rcases Qi.mp h with e|h
    ·injection e with e1 e2;subst e2;exact absurd rfl hk
    ·exact .inl h
   ·exact .inr h
theorem a6{env:Env}{x:Str}:∀{names:List (Str×NameKind)}{k:NameKind},names.lookup x=some k->
  (names.map λ(n,k)=>if (k==NameKind.free&&env.scope.kind== .function&&env.kindOf n==some .cell) then(n,NameKind.cell) else(n,k)).lookup x=
   some (if (k==NameKind.free&&env.scope.kind== .function&&env.kindOf x==some .cell) then NameKind.cell else k)
 |[],_,h=>by simp at h
 |(n,k')::r,k,h=>by
  have ih:=@a6 env x r k;show List.lookup x ((if (k'==NameKind.free&&env.scope.kind== .function&&env.kindOf n==some .cell)=true then(n,NameKind.cell) else(n,k'))::_)=_;cases hx:x==n with
  |true=>
   have ya:x=n:=by simpa using hx
   subst ya;simp only[Qw,hx]at h;cases h;by_cases hc:(k'==NameKind.free&&env.scope.kind== .function&&env.kindOf x==some .cell)=true
   ·simp only[hc,TQ,Qw,hx]
   ·rw[TM hc,TM hc];simp only[Qw,hx]
  |false=>
   simp only[Qw,hx]at h;by_cases hc:(k'==NameKind.free&&env.scope.kind== .function&&env.kindOf n==some .cell)=true
   ·rw[TN hc];simp only[Qw,hx];exact ih h
   ·rw[TM hc];simp only[Qw,hx];exact ih h
theorem bW{env:Env}{x:Str}:∀{names:List (Str×NameKind)},names.lookup x=none->
  (names.map λ(n,k)=>if (k==NameKind.free&&env.scope.kind== .function&&env.kindOf n==some .cell) then(n,NameKind.cell) else(n,k)).lookup x=none
 |[],h=>rfl
 |(n,k')::r,h=>by
  show List.lookup x ((if (k'==NameKind.free&&env.scope.kind== .function&&env.kindOf n==some .cell)=true then(n,NameKind.cell) else(n,k'))::_)=_;cases hx:x==n with
  |true=>simp only[Qw,hx]at h;cases h
  |false=>
   simp only[Qw,hx]at h;by_cases hc:(k'==NameKind.free&&env.scope.kind== .function&&env.kindOf n==some .cell)=true
   ·rw[TN hc];simp only[Qw,hx];exact bW h
   ·rw[TM hc];simp only[Qw,hx];exact bW h
noncomputable def c8(cap:List (Option Nat))(σ:St):St:=cap.map λo=>o.bind λi=>(σ[i]?).join
noncomputable def BM(X:Cx)(ifs:List Expr)(t:TT):Prop:=
 ∀(pins:List (Addr×Obj))(s:Shared)(σ:St)(H:Hp)(Q:Bool->Hp->Prop),Inv X pins σ H s->t σ H Q->
  wpAny (model X.prog X.w) X.A (forIn ifs true λc r=>if r=true then do let ok<-isTrue c X.env (eval c X.env);pure (ForInStep.yield ok) else pure (ForInStep.yield r)) (TP X pins σ Q) X.xe s
noncomputable def Ms:TT:=λ_ H Q=>Q true H
theorem Bo{X:Cx}:BM X [] Ms:=λ_ _ _ H _ I h=>wpAny_tests_nil ⟨H,I,h⟩
theorem Bp{X:Cx}{c:Expr}{t:TT}(h:PT X c t):BM X [c] t:=λpins s σ H Q I hw=>wpAny_tests_one (h pins s σ H Q I hw)
noncomputable def FM(J:It)(g:TG)(tt:TT)(te:TE)(σ0:St)(D:Addr)(F:Hp->Prop)(H1:Hp):Prop:=
 ∃W:Nat->Nat->List V->Hp->Prop,(∃m,W 0 m [] (upd H1 D (.lst [])))/\∀i m acc H,W i m acc H->
  (J.stop i H/\F H)\/(J.go i H/\∀x H',J.yld i H x H'->g x σ0 H' λσ2 H2=>tt σ2 H2 λb H3=>if b=true then te σ2 H3 λv H4=>∃gS,H4 D=some (.lst gS)/\gS.length<sizeLine/\
   ∃m',m'<m/\W (i+1) m' (gS++[v]) (upd H4 D (.lst (gS++[v]))) else∃m',m'<m/\W (i+1) m' acc H3)
end L2
end
section
namespace Mx
open PySem PySem.W PySem.Spec PyProof.Rows L2 PySem.SeqAt
section
variable{X:Cx}
noncomputable def LR(K:PySem.W.Frag):List V->Hp->VK->Prop:=λxs H Q=>∃x T t b,xs=[x,.ty T]/\iM K H x t/\PySem.W.kitOne K t (.type T)=some b/\Q (.bl b) H
theorem wR:c7 X (.builtin "isinstance") (LR X.K):=by intro pins s σ H xs us Q I r h;obtain⟨x,T,t,b,rfl,ty,hk,q⟩:=h;obtain⟨u,v,rfl,r1,r2⟩:=r.two;cases r2;exact vy I r1 ty hk λtk=>⟨.bl b,H,I.tok tk,rfl,q⟩
end
end Mx
end
section
namespace Mx
open PySem PySem.W PySem.Spec PyProof.Rows L2
structure wq(z TI TO i1 i2:Addr):Prop where
 TIz:TI≠z
 TOz:TO≠z
 i1z:i1≠z
 i2z:i2≠z
 TITO:TI≠TO
 TIi1:TI≠i1
 TIi2:TI≠i2
 TOi1:TO≠i1
 TOi2:TO≠i2
 i12:i1≠i2
theorem dX{H:Hp}{p:Addr}(h:H p=none)(o:HO):bV H (upd H p o):=λb u q=>by rw[aJ (bg q h)];exact q
theorem mY{H H':Hp}(h:bV H H'):zW H H':=λa xs q=>h a _ q
theorem yY{H1 H:Hp}{D:Addr}{o:HO}(h:bV H1 H)(hD:H1 D=none):bV H1 (upd H D o):=λb u q=>by rw[aJ (bg q hD)];exact h b u q
theorem lN{H:Hp}{D:Addr}{xs ys:List V}(hD:H D=some (.lst xs)):zW H (upd H D (.lst ys)):=λb zs q=>by
 by_cases e:b=D
 ·subst e;rw[hD]at q;cases q
 ·rw[aJ e];exact q
theorem Fv{α:Type}{x y:α}{r:List α}:mv (x::y::r) 1=some y:=jT (j:=1) rfl
theorem at2{α:Type}{x y z:α}{r:List α}:mv (x::y::z::r) 2=some z:=jT (j:=2) rfl
section
variable{K:PySem.W.Frag}{g:TG}{tt:TT}{te:TE}{σ0:L2.St}{D:Addr}{F:Hp->Prop}{H1:Hp}
theorem pq{J:It}{n:Nat}(hD:H1 D=none)(E:Nat->List Mx.D)(hE:E 0=[])(hn:n<sizeLine)(go:∀i H,i<n->bV H1 H->J.go i H)(stop:∀H,bV H1 H->J.stop n H)
  (hs:∀i x H H',i<n->bV H1 H->J.yld i H x H'->bV H H'/\∀(N:V->Hp->Prop)(M:Hp->Prop),(∀v H4 e,bV H' H4->DV H4 v e->E (i+1)=E i++[e]->N v H4)->(∀H3,bV H' H3->E (i+1)=E i->M H3)->
   g x σ0 H' λσ2 H2=>tt σ2 H2 λb H3=>if b=true then te σ2 H3 N else M H3)
  (hd:∀H acc,bV H1 H->H D=some (.lst acc)->bb H acc (E n)->F H):FM J g tt te σ0 D F H1:=by
 refine⟨λi m acc H=>m=n-i/\i<=n/\bV H1 H/\H D=some (.lst acc)/\bb H acc (E i)/\acc.length<=i,⟨n,by simp,Tj _,dX hD _,aQ,by rw[hE];exact bb.nil,Qb _⟩,?_⟩;rintro i m acc H ⟨rfl,hi,hS,KP,jF,tS⟩;by_cases cK:i<n
 ·refine .inr ⟨go i H cK hS,λx H' y=>?_⟩;obtain⟨s1,st⟩:=hs i x H H' cK hS y;refine st _ _ (λv H4 e s4 he e4=>?_) (λH3 s3 e3=>?_)
  ·have Mb:=s1.trans s4;have GC:=Mb _ _ KP;refine⟨acc,GC,by lia,n-(i+1),by lia,rfl,cK,yY (hS.trans Mb) hD,aQ,?_,by simp;lia⟩;rw[e4];exact(bb.append (jF.mono (mY Mb)) (bb.cons he bb.nil)).mono (lN GC)
  ·have Ma:=s1.trans s3;exact⟨n-(i+1),by lia,rfl,cK,hS.trans Ma,Ma _ _ KP,by rw[e3];exact jF.mono (mY Ma),by lia⟩
 ·have e:i=n:=⋯
  subst e;exact .inl ⟨stop H hS,hd H acc hS KP jF⟩
end
noncomputable def bY:Bool->Heap->Addr->Addr->Nat->Prop
 |false,h,i,l,k=>h.IsListIter i l k
 |true,h,i,l,k=>h.IsTupleIter i l k
noncomputable def fV:Bool->Heap->Addr->Array Value->Prop
 |false,h,l,xs=>h.IsList l xs
 |true,h,l,xs=>h.IsTuple l xs
theorem bY.at:∀{b:Bool}{h h':Heap}{i l:Addr}{k:Nat},bY b h i l k->(∀o,h.get? i=some o->h'.get? i=some o)->bY b h' i l k
 |false,_,_,_,_,_,x,e=>Heap.IsListIter.at x e
 |true,_,_,_,_,_,x,e=>Heap.IsTupleIter.at x e
theorem fV.at:∀{b:Bool}{h h':Heap}{l:Addr}{xs:Array Value},fV b h l xs->(∀o,h.get? l=some o->h'.get? l=some o)->fV b h' l xs
 |false,_,_,_,_,x,e=>let ⟨o,ho,r⟩:=x;⟨o,e o ho,r⟩
 |true,_,_,_,_,x,e=>let ⟨o,ho,r⟩:=x;⟨o,e o ho,r⟩
theorem bY.obj:∀{b:Bool}{h:Heap}{i l:Addr}{k:Nat},bY b h i l k->∃o,h.get? i=some o/\∀v,o.data≠ .cell v
 |false,_,_,_,_,x=>by obtain⟨o,e,c,d⟩:=x;exact⟨o,e,λv q=>by rw[d]at q;cases q⟩
 |true,_,_,_,_,x=>by obtain⟨o,e,c,d⟩:=x;exact⟨o,e,λv q=>by rw[d]at q;cases q⟩
section
variable{prog:Program}{w:World}{A:Around}{E:Value->Shared->Prop}{s:Shared}
theorem sI{it t:Addr}{i:Nat}{items:Array Value}{x:Value}{Q:Value->Shared->Prop}(hit:s.heap.IsTupleIter it t i)(ht:s.heap.IsTuple t items)(hx:items[i]?=some x)
  (hQ:∀h',h'.IsTupleIter it t (i+1)->Heap.SameBut it s.heap h'->Q x {s with heap:=h'}):wpAny (model prog w) A (Builtin.SmallTypes.nextOf (.ref it)) Q E s:=by
 obtain⟨o,ho,hc,hd⟩:=id hit;obtain⟨ol,Lc,_,nl,Jv⟩:=ht;unfold Builtin.SmallTypes.nextOf;refine PY (T6 (name:=Str.ofString "__next__") hit.typeIs Ra (T7 Ra hit.typeIs Q9 (show wpAny _ _ (field (.ref it) 0 >>=_) _ _ s from PY (T8 ho hd (x:=.ref t) rfl ?_)) (Q8 _)));show wpAny _ _ (if (Value.ref t==Value.none)=true then _ else _) _ _ s;rw[TM (show¬((Value.ref t==Value.none)=true) from Q2)];refine(show wpAny _ _ (field (.ref it) 1 >>=_) _ _ s from PY (T8 ho hd (x:=.int i 0) rfl (show wpAny _ _ (seqItems? (.ref t) >>=_) _ _ s from PY (Ui Lc Jv ?_))));simp only[Rr,hx];refine PY (wpAny_setField ho hd (by simp) (P4 ⟨x,rfl,P4 (hQ _ ⟨_,Heap.get?_update_self _ ho (Obj.isFreed_of_fields (Obj.data_mapFields hd _)),(Obj.cls_mapFields ..).trans hc,?_⟩ (Heap.SameBut.update ..))⟩));rw[Obj.data_mapFields hd];simp[rawInt]
theorem vT{it t:Addr}{i:Nat}{items:Array Value}{Q:Value->Shared->Prop}(hh:A.handled=none)(hit:s.heap.IsTupleIter it t i)(ht:s.heap.IsTuple t items)(hx:items[i]?=none)
  (hE:∀h' e,Heap.ExtBut it s.heap h'->(∃o,h'.get? e=some o/\o.cls= .type "StopIteration")->E (.ref e) {s with heap:=h'}):wpAny (model prog w) A (Builtin.SmallTypes.nextOf (.ref it)) Q E s:=by
 obtain⟨o,ho,hc,hd⟩:=id hit;obtain⟨ol,Lc,_,nl,Jv⟩:=ht;unfold Builtin.SmallTypes.nextOf;refine PY (T6 (name:=Str.ofString "__next__") hit.typeIs Ra (T7 Ra hit.typeIs Q9 (show wpAny _ _ (field (.ref it) 0 >>=_) _ _ s from PY (T8 ho hd (x:=.ref t) rfl ?_)) (Q8 _)));show wpAny _ _ (if (Value.ref t==Value.none)=true then _ else _) _ _ s;rw[TM (show¬((Value.ref t==Value.none)=true) from Q2)];refine(show wpAny _ _ (field (.ref it) 1 >>=_) _ _ s from PY (T8 ho hd (x:=.int i 0) rfl (show wpAny _ _ (seqItems? (.ref t) >>=_) _ _ s from PY (Ui Lc Jv ?_))));simp only[Rr,hx];refine PY (Uh (PY (wpAny_setField ho hd (by simp) (show wpAny _ _ (newExc (.type "StopIteration") [] >>=_) _ _ _ from PY ?_))));simp only[newExc,newTuple];refine PY (Ub (PY (m:=firstArgMember _ _) (wpAny_of_eq (a:=Value.none) (by first|rfl|(simp only[firstArgMember];rfl)) (Ub ?_ (by size_fits)))) (by size_fits));simp only[raiseNew];refine PY (wpAny_handled ?_)
 first|rw[show A.in1.handled=none from hh]|rw[hh]
 exact PY (P4 (wpAny_throw (hE _ _ (((Heap.SameBut.update ..).extBut.push _).push _) ⟨_,Qd _ rfl,rfl⟩)))
theorem ir{b:Bool}{it l:Addr}{i:Nat}{items:Array Value}{x:Value}{Q:Value->Shared->Prop}(hit:bY b s.heap it l i)(hl:fV b s.heap l items)(hx:items[i]?=some x)
  (hQ:∀h',bY b h' it l (i+1)->Heap.SameBut it s.heap h'->Q x {s with heap:=h'}):wpAny (model prog w) A (Builtin.SmallTypes.nextOf (.ref it)) Q E s:=by
 cases b with
 |false=>exact wpAny_nextOf_list_item hit hl hx hQ
 |true=>exact sI hit hl hx hQ
theorem mL{b:Bool}{it l:Addr}{i:Nat}{items:Array Value}{Q:Value->Shared->Prop}(hh:A.handled=none)(hit:bY b s.heap it l i)(hl:fV b s.heap l items)(hx:items[i]?=none)
  (hE:∀h' e,Heap.ExtBut it s.heap h'->(∃o,h'.get? e=some o/\o.cls= .type "StopIteration")->E (.ref e) {s with heap:=h'}):wpAny (model prog w) A (Builtin.SmallTypes.nextOf (.ref it)) Q E s:=by
 cases b with
 |false=>exact wpAny_nextOf_list_end hh hit hl hx hE
 |true=>exact vT hh hit hl hx hE
end
structure jk(z TO i1 i2 l:Addr):Prop where
 z:l≠z
 o:l≠TO
 a:l≠i1
 b:l≠i2
section
variable{prog:Program}{w:World}{A:Around}{E:Value->Shared->Prop}{s:Shared}
theorem vY{b1 b2:Bool}{z TI TO i1 i2 l1 l2:Addr}{k1 k2:Nat}{xs ys:Array Value}{x y a b:Value}{Q:Option Value->Shared->Prop}(D:wq z TI TO i1 i2)(O1:jk z TO i1 i2 l1)(O2:jk z TO i1 i2 l2)
  (hz:IsZip s.heap z TI TO .none) (KW:IsPair s.heap TI (.ref i1) (.ref i2)) (KZ:IsPair s.heap TO a b) (h1:bY b1 s.heap i1 l1 k1) (h2:bY b2 s.heap i2 l2 k2) (jP:fV b1 s.heap l1 xs) (eU:fV b2 s.heap l2 ys) (hx:xs[k1]?=some x) (hy:ys[k2]?=some y)
  (hQ:∀h',IsZip h' z TI TO (rawInt s.heap.objs.size)->IsPair h' TO x y->bY b1 h' i1 l1 (k1+1)->bY b2 h' i2 l2 (k2+1)->IsPair h' s.heap.objs.size x y->
   (∀c o,c≠z->c≠TO->c≠i1->c≠i2->s.heap.get? c=some o->h'.get? c=some o)->Q (some (.ref s.heap.objs.size)) {s with heap:=h'}):wpAny (model prog w) A (pyNext (.ref z)) Q E s:=by
 have hT:s.TypeIs (.ref z) "zip":=⟨_,hz,rfl⟩;unfold pyNext;refine PY (wpAny_attempt (T6 (name:=Str.ofString "__next__") hT Rb (T7 Rb hT F.entry_zip_next ?_ (F.args_zip_next_1 _))));refine(show wpAny _ _ (field (.ref z) 2 >>=_) _ _ _ from PY (T8 hz rfl (x:=.bool false) rfl (show wpAny _ _ (field (.ref z) 3 >>=_) _ _ _ from PY (T8 hz rfl (x:=.ref TI) rfl (PY (Ui KW rfl (show wpAny _ _ (Builtin.SmallTypes.ownedTupleIsFree (.ref z) >>=_) _ _ _ from PY ?_)))))));unfold Builtin.SmallTypes.ownedTupleIsFree;refine PY (T8 hz rfl (x:=.none) rfl (P4 ?_));simp only[TQ];refine PY (Uh (PY (T8 hz rfl (x:=.ref TO) rfl (PY (QD hz (by simp) λg1 z1 e1=>PY ?_)))))
 replace z1:IsZip g1 z TI TO .ellipsis:=z1
 simp only[SX,List.zipIdx_nil,RZ,List.forIn_nil];refine PY (PY (Uc (show wpAny _ _ (Builtin.SmallTypes.nextOf (.ref i1) >>=_) _ _ _ from PY (ir (h1.at λo q=>e1.extBut _ o D.i1z q) (jP.at λo q=>e1.extBut _ o O1.z q) hx λg2 j1 e2=>P4 ?_))));have t2:IsPair g2 TO a b:=e2.extBut _ _ D.TOi1 (e1.extBut _ _ D.TOz KZ);refine PY (Ui t2 rfl (PY (Um t2 λg3 t3 e3=>PY (wpAny_letGo (P4 ?_)))))
 replace t3:IsPair g3 TO x b:=t3
 refine PY (PY (Uc (show wpAny _ _ (Builtin.SmallTypes.nextOf (.ref i2) >>=_) _ _ _ from PY (ir (h2.at λo q=>e3.extBut _ o D.TOi2.symm (e2.extBut _ o D.i12.symm (e1.extBut _ o D.i2z q))) (eU.at λo q=>e3.extBut _ o O2.o (e2.extBut _ o O2.a (e1.extBut _ o O2.z q))) hy λg4 j2 e4=>P4 ?_))));have t4:IsPair g4 TO x b:=e4.extBut _ _ D.TOi2 t3;refine PY (Ui t4 rfl (PY (Um t4 λg5 t5 e5=>PY (wpAny_letGo (P4 (P4 ?_))))))
 replace t5:IsPair g5 TO x y:=t5
 refine PY (Ui t5 rfl (PY (wpAny_newTuple ?_)));have sz:g5.objs.size=s.heap.objs.size:=by rw[e5.1,e4.1,e3.1,e2.1,e1.1]
 have z5:IsZip g5 z TI TO .ellipsis:=e5.extBut _ _ D.TOz.symm (e4.extBut _ _ D.i2z.symm (e3.extBut _ _ D.TOz.symm (e2.extBut _ _ D.i1z.symm z1)));have old:∀c o,c≠z->c≠TO->c≠i1->c≠i2->s.heap.get? c=some o->g5.get? c=some o:=λc o c1 c2 c3 c4 q=>e5.extBut _ _ c2 (e4.extBut _ _ c4 (e3.extBut _ _ c2 (e2.extBut _ _ c3 (e1.extBut _ _ c1 q))))
 have n1:bY b1 g5 i1 l1 (k1+1):=j1.at λo q=>e5.extBut _ o D.TOi1.symm (e4.extBut _ o D.i12 (e3.extBut _ o D.TOi1.symm q))
 have n2:bY b2 g5 i2 l2 (k2+1):=j2.at λo q=>e5.extBut _ o D.TOi2.symm q
 have NF:z<g5.objs.size:=Qg z5;refine(show wpAny _ _ (Builtin.SmallTypes.ownedTupleHandOut (.ref z) (.ref g5.objs.size) >>=_) _ _ _ from PY ?_);unfold Builtin.SmallTypes.ownedTupleHandOut;have z6:IsZip (g5.push {cls:=.type "tuple",data:=.seq #[x,y]}) z TI TO .ellipsis:=P0 _ z5;refine PY (QD z6 (by simp) λg7 z7 e7=>?_)
 replace z7:IsZip g7 z TI TO (rawInt g5.objs.size):=z7
 refine QD z7 (by simp) λg8 z8 e8=>?_
 replace z8:IsZip g8 z TI TO (rawInt g5.objs.size):=z8
 have up:∀c o,c≠z->g5.get? c=some o->g8.get? c=some o:=λc o c1 q=>e8.extBut _ _ c1 (e7.extBut _ _ c1 (P0 _ q))
 have t8:IsPair g8 g5.objs.size x y:=e8.extBut _ _ (Te NF) (e7.extBut _ _ (Te NF) (Qd _ rfl));rw[sz]at z8 t8;refine P4 ⟨_,rfl,P4 ?_⟩;show Q (some (.ref g5.objs.size)) _;rw[sz];exact hQ g8 z8 (up _ _ D.TOz t5) (n1.at λo q=>up _ o D.i1z q) (n2.at λo q=>up _ o D.i2z q) t8 λc o c1 c2 c3 c4 q=>up c o c1 (old c o c1 c2 c3 c4 q)
theorem zB{b1 b2:Bool}{z TI TO i1 i2 l1 l2:Addr}{k1 k2:Nat}{xs ys:Array Value}{a b:Value}{Q:Option Value->Shared->Prop}(hh:A.handled=none)(D:wq z TI TO i1 i2)(O1:jk z TO i1 i2 l1)(O2:jk z TO i1 i2 l2)
  (hz:IsZip s.heap z TI TO .none) (KW:IsPair s.heap TI (.ref i1) (.ref i2)) (KZ:IsPair s.heap TO a b) (h1:bY b1 s.heap i1 l1 k1) (h2:bY b2 s.heap i2 l2 k2) (jP:fV b1 s.heap l1 xs) (eU:fV b2 s.heap l2 ys) (GY:xs[k1]?=none\/ys[k2]?=none)
  (hQ:∀h',(∀c o,c≠z->c≠TO->c≠i1->c≠i2->s.heap.get? c=some o->h'.get? c=some o)->Q none {s with heap:=h'}):wpAny (model prog w) A (pyNext (.ref z)) Q E s:=by
 have hT:s.TypeIs (.ref z) "zip":=⟨_,hz,rfl⟩;unfold pyNext;refine PY (wpAny_attempt (T6 (name:=Str.ofString "__next__") hT Rb (T7 Rb hT F.entry_zip_next ?_ (F.args_zip_next_1 _))));have stop:∀(h':Heap)(e:Addr),(∀c o,c≠z->c≠TO->c≠i1->c≠i2->s.heap.get? c=some o->h'.get? c=some o)->(∃o,h'.get? e=some o/\o.cls= .type "StopIteration")->wpAny (model prog w) A (isInstance (.ref e) (.type "StopIteration")) (λr s'=>r=true/\Q none s') E {s with heap:=h'}:=λh' e kk he=>by obtain⟨o,ho,hc⟩:=he;exact wpAny_isInstance (T:="StopIteration") (b:=true) ⟨o,ho,hc⟩ isSubtype_stop ⟨rfl,hQ _ kk⟩
 refine(show wpAny _ _ (field (.ref z) 2 >>=_) _ _ _ from PY (T8 hz rfl (x:=.bool false) rfl (show wpAny _ _ (field (.ref z) 3 >>=_) _ _ _ from PY (T8 hz rfl (x:=.ref TI) rfl (PY (Ui KW rfl (show wpAny _ _ (Builtin.SmallTypes.ownedTupleIsFree (.ref z) >>=_) _ _ _ from PY ?_)))))));unfold Builtin.SmallTypes.ownedTupleIsFree;refine PY (T8 hz rfl (x:=.none) rfl (P4 ?_));simp only[TQ];refine PY (Uh (PY (T8 hz rfl (x:=.ref TO) rfl (PY (QD hz (by simp) λg1 z1 e1=>PY ?_)))))
 replace z1:IsZip g1 z TI TO .ellipsis:=z1
 simp only[SX,List.zipIdx_nil,RZ,List.forIn_nil];refine PY (PY (Uc ?_));show wpAny _ _ (Builtin.SmallTypes.nextOf (.ref i1) >>=_) _ _ _;cases hx:xs[k1]? with
 |none=>
  refine PY (mL hh (h1.at λo q=>e1.extBut _ o D.i1z q) (jP.at λo q=>e1.extBut _ o O1.z q) hx λg2 e e2 he=>?_);obtain⟨oe,Dw,GQ⟩:=he;have z2:IsZip g2 z TI TO .ellipsis:=e2 _ _ D.i1z.symm z1;have K3:e≠z:=λx=>by subst x;rw[z2]at Dw;cases Dw;simp at GQ
  refine QD z2 (by simp) λg3 _ e3=>?_
  refine PY (Ua (stop g3 e (λc o c1 _ c3 _ x=>e3.extBut _ _ c1 (e2 _ _ c3 (e1.extBut _ _ c1 x))) ⟨oe,e3.extBut _ _ K3 Dw,GQ⟩) (λr s' q=>?_) λ_ _ q=>q);obtain⟨rfl,q⟩:=q;exact P4 q
 |some x=>
  have hy:ys[k2]?=none:=by rcases GY with h|h;rw[hx]at h;cases h;exact h
  refine PY (ir (h1.at λo q=>e1.extBut _ o D.i1z q) (jP.at λo q=>e1.extBut _ o O1.z q) hx λg2 j1 e2=>P4 ?_);have t2:IsPair g2 TO a b:=e2.extBut _ _ D.TOi1 (e1.extBut _ _ D.TOz KZ);refine PY (Ui t2 rfl (PY (Um t2 λg3 t3 e3=>PY (wpAny_letGo (P4 ?_)))));refine PY (PY (Uc (show wpAny _ _ (Builtin.SmallTypes.nextOf (.ref i2) >>=_) _ _ _ from PY (mL hh (h2.at λo q=>e3.extBut _ o D.TOi2.symm (e2.extBut _ o D.i12.symm (e1.extBut _ o D.i2z q))) (eU.at λo q=>e3.extBut _ o O2.o (e2.extBut _ o O2.a (e1.extBut _ o O2.z q))) hy λg4 e e4 he=>?_))));obtain⟨oe,Dw,GQ⟩:=he;have z4:IsZip g4 z TI TO .ellipsis:=e4 _ _ D.i2z.symm (e3.extBut _ _ D.TOz.symm (e2.extBut _ _ D.i1z.symm z1));have K3:e≠z:=λx=>by subst x;rw[z4]at Dw;cases Dw;simp at GQ
  refine QD z4 (by simp) λg5 _ e5=>?_
  refine PY (Ua (stop g5 e (λc o c1 c2 c3 c4 x=>e5.extBut _ _ c1 (e4 _ _ c4 (e3.extBut _ _ c2 (e2.extBut _ _ c3 (e1.extBut _ _ c1 x))))) ⟨oe,e5.extBut _ _ K3 Dw,GQ⟩) (λr s' q=>?_) λ_ _ q=>q);obtain⟨rfl,q⟩:=q;exact P4 q
end
noncomputable def pV:Bool->Addr->Obj
 |false,l=>{cls:=.type "list_iterator",data:=.fields #[.ref l,.int 0 0]}
 |true,l=>{cls:=.type "tuple_iterator",data:=.fields #[.ref l,.int 0 0]}
theorem pW:∀{b:Bool}{h:Heap}{i l:Addr},h.get? i=some (pV b l)->bY b h i l 0
 |false,_,_,_,e=>⟨_,e,rfl,rfl⟩
 |true,_,_,_,e=>⟨_,e,rfl,rfl⟩
theorem mK(b:Bool)(l:Addr):(pV b l).isFreed=false:=by cases b<;>rfl
noncomputable abbrev JW(h:Heap)(b1:Bool)(l1:Addr):Heap:=h.push (pV b1 l1)
noncomputable abbrev JX(h:Heap)(b1 b2:Bool)(l1 l2:Addr):Heap:=(JW h b1 l1).push (pV b2 l2)
noncomputable abbrev JY(h:Heap)(b1 b2:Bool)(l1 l2:Addr):Heap:=(JX h b1 b2 l1 l2).push {cls:=.type "tuple",data:=.seq #[.ref h.objs.size,.ref (JW h b1 l1).objs.size]}
noncomputable abbrev JZ(h:Heap)(b1 b2:Bool)(l1 l2:Addr):Heap:=(JY h b1 b2 l1 l2).push {cls:=.type "tuple",data:=.seq #[.none,.none]}
noncomputable abbrev FL(h:Heap)(b1 b2:Bool)(l1 l2:Addr):Heap:=(JZ h b1 b2 l1 l2).push {cls:=.type "zip",data:=.fields #[.none,.bool false,.bool false,.ref (JX h b1 b2 l1 l2).objs.size,.ref (JY h b1 b2 l1 l2).objs.size]}
theorem fV.push{b:Bool}{h:Heap}{l:Addr}{xs:Array Value}(x:fV b h l xs)(o:Obj):fV b (h.push o) l xs:=x.at λ_ e=>P0 _ e
theorem zC(b1 b2:Bool)(l1 l2:Addr)(xs ys:Array Value):
  Meets (Builtin.«zip.__new__» ⟨[.type "zip",.ref l1,.ref l2],[]⟩) (λ_ R s=>fV b1 s.heap l1 xs/\fV b2 s.heap l2 ys/\R (.ok (.ret (.ref (JZ s.heap b1 b2 l1 l2).objs.size))) {s with heap:=FL s.heap b1 b2 l1 l2}):=
 .of_wp λprog w A R s h=>by
  obtain⟨hp,g,d,tk,os⟩:=s;obtain⟨jP,eU,h⟩:=h;have OP:=sub_zip;have Js:=eU.push (pV b1 l1);cases b1<;>cases b2
  ·have k1:Heap.IsList (Shared.heap ⟨hp,g,d,tk,os⟩) l1 xs:=jP;have k2:Heap.IsList (Shared.heap ⟨hp.push {cls:=.type "list_iterator",data:=.fields #[.ref l1,.int 0 0]},g,d,tk,os⟩) l2 ys:=Js
   wp_walk using Ue k1,Ue k2
   exact⟨_,rfl,h⟩
  ·have k1:Heap.IsList (Shared.heap ⟨hp,g,d,tk,os⟩) l1 xs:=jP;have k2:Heap.IsTuple (Shared.heap ⟨hp.push {cls:=.type "list_iterator",data:=.fields #[.ref l1,.int 0 0]},g,d,tk,os⟩) l2 ys:=Js
   wp_walk using Ue k1,Ug k2
   exact⟨_,rfl,h⟩
  ·have k1:Heap.IsTuple (Shared.heap ⟨hp,g,d,tk,os⟩) l1 xs:=jP;have k2:Heap.IsList (Shared.heap ⟨hp.push {cls:=.type "tuple_iterator",data:=.fields #[.ref l1,.int 0 0]},g,d,tk,os⟩) l2 ys:=Js
   wp_walk using Ug k1,Ue k2
   exact⟨_,rfl,h⟩
  ·have k1:Heap.IsTuple (Shared.heap ⟨hp,g,d,tk,os⟩) l1 xs:=jP;have k2:Heap.IsTuple (Shared.heap ⟨hp.push {cls:=.type "tuple_iterator",data:=.fields #[.ref l1,.int 0 0]},g,d,tk,os⟩) l2 ys:=Js
   wp_walk using Ug k1,Ug k2
   exact⟨_,rfl,h⟩
section
variable{prog:Program}{w:World}{A:Around}{E:Value->Shared->Prop}{s:Shared}
theorem ve{b1 b2:Bool}{l1 l2:Addr}{xs ys:Array Value}{Q:Value->Shared->Prop}(jP:fV b1 s.heap l1 xs)(eU:fV b2 s.heap l2 ys)
  (h:∀h',IsZip h' (s.heap.objs.size+4) (s.heap.objs.size+2) (s.heap.objs.size+3) .none->IsPair h' (s.heap.objs.size+2) (.ref s.heap.objs.size) (.ref (s.heap.objs.size+1))->IsPair h' (s.heap.objs.size+3) .none .none->
   bY b1 h' s.heap.objs.size l1 0->bY b2 h' (s.heap.objs.size+1) l2 0->(∀c o,s.heap.get? c=some o->h'.get? c=some o)->Q (.ref (s.heap.objs.size+4)) {s with heap:=h'}):wpAny (model prog w) A (call (.type "zip") [.ref l1,.ref l2]) Q E s:=by
 refine callType_new F.called_zip (by decide) (F.typeCall_zip_2 _ _) (F.newCall_zip_2 _ _) (λobj=>F.args_object_init_3 obj _ _) F.entry_zip_new (zC b1 b2 l1 l2 xs ys) ⟨jP,eU,?_⟩;have y1:(JW s.heap b1 l1).objs.size=s.heap.objs.size+1:=QA ..;have y2:(JX s.heap b1 b2 l1 l2).objs.size=s.heap.objs.size+2:=by rw[QA,y1]
 have y3:(JY s.heap b1 b2 l1 l2).objs.size=s.heap.objs.size+3:=by rw[QA,y2]
 have y4:(JZ s.heap b1 b2 l1 l2).objs.size=s.heap.objs.size+4:=by rw[QA,y3]
 have g5:(FL s.heap b1 b2 l1 l2).get? (JZ s.heap b1 b2 l1 l2).objs.size=some _:=Qd _ rfl;have g4:(FL s.heap b1 b2 l1 l2).get? (JY s.heap b1 b2 l1 l2).objs.size=some _:=P0 _ (Qd _ rfl);have g3:(FL s.heap b1 b2 l1 l2).get? (JX s.heap b1 b2 l1 l2).objs.size=some _:=P0 _ (P0 _ (Qd _ rfl));have g2:(FL s.heap b1 b2 l1 l2).get? (JW s.heap b1 l1).objs.size=some _:=P0 _ (P0 _ (P0 _ (Qd _ (mK b2 l2))));have g1:(FL s.heap b1 b2 l1 l2).get? s.heap.objs.size=some _:=P0 _ (P0 _ (P0 _ (P0 _ (Qd _ (mK b1 l1)))));show _/\_;rw[y2,y3,y4]at g5;rw[y1,y2]at g3;rw[y3]at g4;rw[y1]at g2;rw[y4];exact⟨⟨_,g5,rfl⟩,h _ g5 g3 g4 (pW g1) (pW g2) λc o x=>P0 _ (P0 _ (P0 _ (P0 _ (P0 _ x))))⟩
end
noncomputable def qN:Bool->List V->HO
 |false,xs=>.lst xs
 |true,xs=>.tup xs
theorem tT{b:Bool}{xs ys:List V}(h:qN b xs=qN b ys):xs=ys:=by
 cases b with
 |false=>injection h
 |true=>injection h
noncomputable def J5(b1 b2:Bool)(l1 l2:Addr):It where
 go:=λi H=>∃xs ys x y,H l1=some (qN b1 xs)/\H l2=some (qN b2 ys)/\xs[i]?=some x/\ys[i]?=some y
 yld:=λi H v H'=>∃p x y,v= .ref p/\H p=none/\H'=upd H p (.tup [x,y])/\∀xs ys,H l1=some (qN b1 xs)->H l2=some (qN b2 ys)->xs[i]?=some x/\ys[i]?=some y
 stop:=λi H=>∃xs ys,H l1=some (qN b1 xs)/\H l2=some (qN b2 ys)/\(xs.length<=i\/ys.length<=i)
theorem gQ{X:Cx}{pins:List (Addr×Obj)}{s:Shared}{σ:L2.St}{H:Hp}(I:Inv X pins σ H s){b:Bool}{l:Addr}{xs:List V}(h:H l=some (qN b xs)):∃its:List Value,au xs its/\fV b s.heap l its.toArray:=by
 cases b with
 |false=>obtain⟨its,r,p,_⟩:=I.list (.inl (.inl h));exact⟨its,r,p.isList⟩
 |true=>obtain⟨its,r,p,_⟩:=I.tuple (.inl (.inl h));exact⟨its,r,p⟩
noncomputable def Pm(b1 b2:Bool)(z TI TO i1 i2 l1 l2:Addr)(i:Nat)(h:Heap):Prop:=IsZip h z TI TO .none/\IsPair h TI (.ref i1) (.ref i2)/\(∃a b,IsPair h TO a b)/\bY b1 h i1 l1 i/\bY b2 h i2 l2 i
theorem vW{P:Program}{w:World}{K:PySem.W.Frag}{es:List Expr}{k:Nat}{tp:Pos}{b1 b2:Bool}{z TI TO i1 i2 l1 l2:Addr}(ap:wq z TI TO i1 i2):
  Turn P w K (.Tuple es k tp) (J5 b1 b2 l1 l2) [z,TI,TO,i1,i2] z (Pm b1 b2 z TI TO i1 i2 l1 l2) where
 mem:=by simp
 obj:=λi h st b hb=>by
  obtain⟨s1,s2,⟨a,b',s3⟩,s4,s5⟩:=st;simp only[Qi,Qj,T2]at hb;rcases hb with rfl|rfl|rfl|rfl|rfl
  ·exact⟨_,s1,λv q=>by cases q⟩
  ·exact⟨_,s2,λv q=>by cases q⟩
  ·exact⟨_,s3,λv q=>by cases q⟩
  ·exact s4.obj
  ·exact s5.obj
 keep:=λi h h' st kk=>by obtain⟨s1,s2,⟨a,b',s3⟩,s4,s5⟩:=st;exact⟨kk z (by simp) _ s1,kk TI (by simp) _ s2,⟨a,b',kk TO (by simp) _ s3⟩,s4.at λo e=>kk i1 (by simp) o e,s5.at λo e=>kk i2 (by simp) o e⟩
 item:=by
  intro X hP hw hK hc i pins s σ H E I hf st hg;subst hP hw hK;obtain⟨xs,ys,x,y,jP,eU,hx,hy⟩:=hg;obtain⟨s1,s2,⟨a,b',s3⟩,s4,s5⟩:=st;obtain⟨gV,r1,p1⟩:=gQ I jP;obtain⟨aM,r2,p2⟩:=gQ I eU;obtain⟨u1,AF,Pb⟩:=r1.get hx;obtain⟨u2,OQ,Pc⟩:=r2.get hy;have ne:∀{l:Addr}{o:HO},H l=some o->∀b∈[z,TI,TO,i1,i2],l≠b:=λ {l o} hl b hb e=>by subst e;rw[(hf l hb).1]at hl;cases hl
  have off:∀{l:Addr}{o:HO},H l=some o->jk z TO i1 i2 l:=λ {l o} hl=>⟨ne hl z (by simp),ne hl TO (by simp),ne hl i1 (by simp),ne hl i2 (by simp)⟩
  refine vY ap (off jP) (off eU) s1 s2 s3 s4 s5 p1 p2 (by simpa using AF) (by simpa using OQ) λh' a1 a2 a3 a4 a5 a7=>⟨_,rfl,?_⟩
  refine wpAny_letOwnedTupleGo_zip (s:={s with heap:=h'}) a1 λh2 c1 c2=>?_
  have Oj:s.heap.objs.size≠z:=λe=>by have:=Qg s1;rw[<-e]at this;exact S8 _ this
  have KY:IsPair h2 TI (.ref i1) (.ref i2):=(c2.2 TI ap.TIz).trans (a7 TI _ ap.TIz ap.TITO ap.TIi1 ap.TIi2 s2);have KU:h2.get? s.heap.objs.size=some {cls:=.type "tuple",data:=.seq #[u1,u2]}:=(c2.2 _ Oj).trans a5;have kk:∀b o,b∉[z,TI,TO,i1,i2]->s.heap.get? b=some o->h2.get? b=some o:=λb o hb e=>by simp only[Qi,Qj,T2,not_or]at hb;exact(c2.2 b hb.1).trans (a7 b o hb.1 hb.2.2.1 hb.2.2.2.1 hb.2.2.2.2 e)
  have lt:∀{b:Addr}{o:Obj},s.heap.get? b=some o->b≠s.heap.objs.size:=λe=>QB (Qg e)
  have Hw:∀b u,H b=some u->b∉[z,TI,TO,i1,i2]:=λb u e hb=>by rw[(hf b hb).1]at e;cases e
  have FC:H s.heap.objs.size=none:=I.fresh;have I2:Inv X pins σ (upd H s.heap.objs.size (.tup [x,y])) {s with heap:=h2,toks:=s.toks}:=by
   refine I.step (g':=s.gens) (d':=s.drawn) (ch:=[z,TI,TO,i1,i2]) (λb hb=>⟨(hf b hb).2.2.2.1,(hf b hb).2.1,(hf b hb).2.2.2.2.1,(hf b hb).2.2.2.2.2⟩) (λb o _ _ hb e _=>kk b o hb e) (λb o _ _ hb e _=>⟨o.slots,kk b o hb e⟩)
    (λb o hb e n=>by rw[aJ (lt e)];exact n) (λb o hb e=>⟨o,kk b o hb e⟩) (λb zs e=>by rw[aJ (bg e FC)];exact e) (λb o u e=>by rw[aJ (bg e FC)];exact e)
    (λb ps e=>⟨#[],by rw[aJ (bg e FC),e];simp⟩) (λm hm=>?_) (λb u e=>?_) I.bare
   ·obtain⟨o,fw,ep,ho,rr⟩:=hm;exact⟨o,fw,ep,kk _ o (λhb=>(hf _ hb).2.1 rfl) ho,rr⟩
   ·by_cases hb:b=s.heap.objs.size
    ·subst hb;rw[aQ]at e;cases e;exact⟨by show 2<=sizeLine;decide,[u1,u2],.cons Pb (.cons Pc .nil),_,KU,rfl,0,rfl,rfl,rfl⟩
    ·rw[aJ hb]at e;refine(I.hok b u e).sC (λc v hc q=>kk c v ?_ q) (λc q=>by rw[aJ (bg q FC)];exact q) λc zs q=>by rw[aJ (bg q FC)];exact q
     rcases hc with rfl|hc
     ·exact Hw c u e
     ·exact Hw c _ hc
  refine⟨.ref s.heap.objs.size,_,I2,rfl,⟨s.heap.objs.size,x,y,rfl,FC,rfl,λzQ JV q1 q2=>?_⟩,⟨c1,KY,⟨u1,u2,(c2.2 TO ap.TOz).trans a2⟩,a3.at λo e=>(c2.2 i1 ap.i1z).trans e,a4.at λo e=>(c2.2 i2 ap.i2z).trans e⟩,λb hb=>?_⟩
  ·rw[jP]at q1;rw[eU]at q2;rw[tT (To q1).symm,tT (To q2).symm];exact⟨hx,hy⟩
  ·rw[aJ (λe=>?_)]
   ·exact(hf b hb).1
   ·have q:∃o,s.heap.get? b=some o:=by
     simp only[Qi,Qj,T2]at hb;rcases hb with rfl|rfl|rfl|rfl|rfl
     ·exact⟨_,s1⟩
     ·exact⟨_,s2⟩
     ·exact⟨_,s3⟩
     ·obtain⟨o,e,_⟩:=s4.obj;exact⟨o,e⟩
     ·obtain⟨o,e,_⟩:=s5.obj;exact⟨o,e⟩
    obtain⟨o,q⟩:=q;exact lt q e
 done:=by
  intro X hP hw hK hc i pins s σ H E I hf st hg;subst hP hw hK;obtain⟨xs,ys,jP,eU,GY⟩:=hg;obtain⟨s1,s2,⟨a,b',s3⟩,s4,s5⟩:=st;obtain⟨gV,r1,p1⟩:=gQ I jP;obtain⟨aM,r2,p2⟩:=gQ I eU;have ne:∀{l:Addr}{o:HO},H l=some o->∀b∈[z,TI,TO,i1,i2],l≠b:=λ {l o} hl b hb e=>by subst e;rw[(hf l hb).1]at hl;cases hl
  have off:∀{l:Addr}{o:HO},H l=some o->jk z TO i1 i2 l:=λ {l o} hl=>⟨ne hl z (by simp),ne hl TO (by simp),ne hl i1 (by simp),ne hl i2 (by simp)⟩
  have e1:=r1.length;have e2:=r2.length;refine zB (I.ok.hd hc) ap (off jP) (off eU) s1 s2 s3 s4 s5 p1 p2 (by simp;lia) λh' kk=>⟨rfl,?_⟩
  have Hw:∀b u,H b=some u->b∉[z,TI,TO,i1,i2]:=λb u e hb=>by rw[(hf b hb).1]at e;cases e
  have Hk:∀b o,b∉[z,TI,TO,i1,i2]->s.heap.get? b=some o->h'.get? b=some o:=λb o hb e=>by simp only[Qi,Qj,T2,not_or]at hb;exact kk b o hb.1 hb.2.2.1 hb.2.2.2.1 hb.2.2.2.2 e
  refine I.step (g':=s.gens) (d':=s.drawn) (t':=s.toks) (h':=h') (ch:=[z,TI,TO,i1,i2]) (λb hb=>⟨(hf b hb).2.2.2.1,(hf b hb).2.1,(hf b hb).2.2.2.2.1,(hf b hb).2.2.2.2.2⟩) (λb o _ _ hb e _=>Hk b o hb e) (λb o _ _ hb e _=>⟨o.slots,Hk b o hb e⟩)
   (λb o hb e n=>n) (λb o hb e=>⟨o,Hk b o hb e⟩) (λb zs e=>e) (λb o u e=>e) (λb ps e=>⟨#[],by rw[e];simp⟩) (λm hm=>?_) (λb u e=>?_) I.bare
  ·obtain⟨o,fw,ep,ho,rr⟩:=hm;exact⟨o,fw,ep,Hk _ o (λhb=>(hf _ hb).2.1 rfl) ho,rr⟩
  ·refine(I.hok b u e).sC (λc v hc q=>Hk c v ?_ q) (λc q=>q) λc zs q=>q
   rcases hc with rfl|hc
   ·exact Hw c u e
   ·exact Hw c _ hc
 self:=λ_ _ _ _ _ st h=>wpAny_pyIter_zip st.1 h
noncomputable def Hc(ta:TA):TI:=λσ H R=>ta σ H λvs H1=>∃b1 b2 l1 l2 xs ys,vs=[.ref l1,.ref l2]/\H1 l1=some (qN b1 xs)/\H1 l2=some (qN b2 ys)/\R (J5 b1 b2 l1 l2) H1
theorem Bh{X:Cx}{es:List Expr}{k:Nat}{tp:Pos}{a b:Expr}{ta:TA}{p pos:Pos}(hg:Gl X "zip")(hm:X.mg "zip"=none)(ha:PA X [a,b] ta)(hs:starEach [a,b] X.env=[(false,eval a X.env),(false,eval b X.env)]:=by rfl)(FG:starEach [b] X.env=[(false,eval b X.env)]:=by rfl):
  PI X (.Tuple es k tp) (.Call (.Name "zip" p) [a,b] [] pos) (Hc ta):=by
 intro pins s σ H R I h;refine Call_ (kP I hg hm boot_zip (Tp (bX (ha pos pins s σ H _ I h) λus s1⟨vs,H1,I1,r1,q1⟩=>?_) (by rw[hs,FG]) (by rw[FG];rfl)));obtain⟨b1,b2,l1,l2,xs,ys,e,e1,e2,q⟩:=q1;subst e;obtain⟨u,v,rfl,ru,rv⟩:=r1.two;cases ru;cases rv;obtain⟨gV,_,p1⟩:=gQ I1 e1;obtain⟨aM,_,p2⟩:=gQ I1 e2;refine ve p1 p2 λh' g1 g2 g3 g4 g5 kk=>?_
 refine wpAny_pyIter_zip (s:={s1 with heap:=h'}) g1 ?_;have I2:Inv X pins σ H1 {s1 with heap:=h'}:=I1.kept (t':=s1.toks) kk;refine⟨s1.heap.objs.size+4,[s1.heap.objs.size+4,s1.heap.objs.size+2,s1.heap.objs.size+3,s1.heap.objs.size,s1.heap.objs.size+1],_,_,H1,rfl,I2,vW (l1:=l1) (l2:=l2) ⟨?_,?_,?_,?_,?_,?_,?_,?_,?_,?_⟩,⟨g1,g2,⟨_,_,g3⟩,g4,g5⟩,λb hb=>?_,q⟩
 iterate 10 (first|(apply QB;lia)|(apply Te;lia))
 have lS:s1.heap.objs.size<=b:=by simp only[Qi,Qj,T2]at hb;rcases hb with h|h|h|h|h<;>(rw[h];first|exact Nat.le_add_right _ _|exact Qb _)
 exact I1.xC lS (I1.hok.fresh lS)
end Mx
end
section
namespace MxTim
open PySem PySem.W PyProof.Rows
noncomputable def B0:Bool->Keyed->Array Keyed->Nat->Nat->Nat->StateT SortSt Sem (Option Nat):=sortPriv% PySem.Builtin.gallop
theorem Do(gW:Bool)(k:Keyed)(xs:Array Keyed)(b m h:Nat):B0 gW k xs b m h=(do
 let past (i:Nat):StateT SortSt Sem (Option Bool):=do
  let y<-elem' xs (b+i)
  if gW then lt' y k else return (<-lt' k y).map (!·)
 let mut la:=0
 let mut st:=1
 let mut u:=0
 let mut v:=0
 let some c0<-past h|return none
 if c0 then
  let mx:=m-h
  for _ in [0:m] do
   if st>=mx then break
   let some c1<-past (h+st)|return none
   if !c1 then break
   la:=st
   st:=2*st+1
  u:=h+la+1
  v:=h+min st mx
 else
  let mx:=h+1
  for _ in [0:m] do
   if st>=mx then break
   let some c1<-past (h-st)|return none
   if c1 then break
   la:=st
   st:=2*st+1
  u:=h+1-min st mx
  v:=h-la
 for _ in [0:m] do
  if u>=v then break
  let mm:=u+(v-u)/2
  let some c2<-past mm|return none
  if c2 then u:=mm+1 else v:=mm
 return some v):=rfl
section
variable{prog:Program}{w:World}{A:Around}{E:Value->Shared->Prop}{κ:SortKind}{s:Shared}{O:KeyOrd}{ky:Keyed->O.α}{Mem:Keyed->Prop}
noncomputable def Tells(prog:Program)(w:World)(A:Around)(κ:SortKind)(s:Shared)(O:KeyOrd)(ky:Keyed->O.α)(Mem:Keyed->Prop):Prop:=
 ∀x y,Mem x->Mem y->∀C:Bool->Shared->Prop,C (O.blt (ky x) (ky y)) s->wpAny (model prog w) A (keyLt' κ x.1 y.1) C (λ_ _=>False) s
theorem p8(T:Tells prog w A κ s O ky Mem){x y:Keyed}(hx:Mem x)(hy:Mem y){st:SortSt}(hk:kindOf st=κ){Q:Option Bool->SortSt->Shared->Prop}(h:Q (some (O.blt (ky x) (ky y))) st s):kasC (model prog w) A E (lt' x y) Q st s:=by rw[lt'_eq];refine Qa (TR ?_);rw[hk];refine Qa (TU (wpAny_attempt (Ua (T x y hx hy (λc s'=>Q (some c) st s') h) (λc s' hc=>?_) λ_ _ hF=>hF.elim)));exact Qe hc
theorem aS{xs:Array Keyed}{i:Nat}{x:Keyed}(hx:xs[i]?=some x){st:SortSt}{Q:Keyed->SortSt->Shared->Prop}(h:Q x st s):kasC (model prog w) A E (elem' xs i) Q st s:=by rw[elem'_eq,hx];exact Qe h
theorem cZ{β:Type}{l:List Nat}{b0:β}{f:Nat->β->StateT SortSt Sem (ForInStep β)}{Q:β->SortSt->Shared->Prop}(Inv:Nat->β->SortSt->Prop){dH:SortSt}(h0:Inv 0 b0 dH)
  (step:∀j b st x,j<l.length->Inv j b st->kasC (model prog w) A E (f x b) (λr ak s'=>s'=s/\match r with|.done b'=>Q b' ak s|.yield b'=>Inv (j+1) b' ak) st s)
  (fin:∀b st,Inv l.length b st->Q b st s):kasC (model prog w) A E (forIn l b0 f) Q dH s:=by
 have go:∀(l':List Nat)(j:Nat)(b:β)(st:SortSt),j+l'.length=l.length->Inv j b st->kasC (model prog w) A E (forIn l' b f) Q st s:=by
  intro l'
  induction l' with
  |nil=>intro j b st hj hI;simp only[Sa,Nat.add_zero]at hj;subst hj;exact kasC_nil (fin b st hI)
  |cons x l' ih=>
   intro j b st hj hI;simp only[Qo]at hj;refine kasC_cons (Ua (step j b st x ⋯ hI) (λr s' h'=>?_) λ_ _ e=>e);obtain⟨r,ak⟩:=r;obtain⟨rfl,h'⟩:=h';cases r with
   |done b'=>exact h'
   |yield b'=>exact ih (j+1) b' ak ⋯ h'
 exact go l 0 b0 dH ⋯ h0
theorem bR{α:Type}{m:StateT SortSt Sem α}{Q Q':α->SortSt->Shared->Prop}{st:SortSt}(h:kasC (model prog w) A E m Q st s)(hq:∀a ak s',Q a ak s'->Q' a ak s'):kasC (model prog w) A E m Q' st s:=by unfold kasC at h ⊢;exact Ua h (λr s' h'=>hq _ _ _ h') λ_ _ e=>e
noncomputable def et(O:KeyOrd)(ky:Keyed->O.α)(gW:Bool)(k:Keyed)(g:Nat->Keyed)(i:Nat):Bool:=if gW=true then O.blt (ky (g i)) (ky k) else !O.blt (ky k) (ky (g i))
theorem jr(T:Tells prog w A κ s O ky Mem){gW:Bool}{k:Keyed}{xs:Array Keyed}{b m h:Nat}(g:Nat->Keyed)(hg:∀i,i<m->xs[b+i]?=some (g i))(hm:∀i,i<m->Mem (g i))(hk:Mem k)(hh:h<m)
  (mono:∀i j,i<=j->j<m->et O ky gW k g j=true->et O ky gW k g i=true) {st:SortSt} (hs:kindOf st=κ) {Q:Option Nat->SortSt->Shared->Prop}
  (q:∀v,v<=m->(∀i,i<v->et O ky gW k g i=true)->(∀i,v<=i->i<m->et O ky gW k g i=false)->Q (some v) st s):kasC (model prog w) A E (B0 gW k xs b m h) Q st s:=by
 have past:∀(i:Nat){R:Option Bool->SortSt->Shared->Prop},i<m->R (some (et O ky gW k g i)) st s->kasC (model prog w) A E (do
   let y<-elem' xs (b+i)
   if gW=true then lt' y k else do
    let r<-lt' k y
    pure (r.map (!·))) R st s:=λi R hi hR=>by
  refine Qa (aS (hg i hi) ?_);unfold et at hR;cases gW with
  |true=>rw[TN rfl]at hR ⊢;exact p8 T (hm i hi) hk hs hR
  |false=>rw[TM (by simp)]at hR ⊢;exact Qa (p8 T hk (hm i hi) hs (Qe hR))
 have uo:∀i j,i<=j->j<m->et O ky gW k g i=false->et O ky gW k g j=false:=λi j eT hj hi=>by
  cases c:et O ky gW k g j with
  |false=>rfl
  |true=>rw[mono i j eT hj c]at hi;cases hi
 rw[Do];dsimp only;refine Qa (past h hh ?_);dsimp only;cases c0:et O ky gW k g h with
 |true=>
  rw[TN rfl];refine Qa (bR (Q:=λr ak s'=>st=ak/\s=s'/\∃la sp,r=(none,la,sp)/\h+la<m/\la<sp/\et O ky gW k g (h+la)=true/\∀i,h+min sp (m-h)<=i->i<m->et O ky gW k g i=false) (TX (cZ (λj r ak=>st=ak/\∃la sp,r=(none,la,sp)/\h+la<m/\la<sp/\j+1<=sp/\et O ky gW k g (h+la)=true) ⟨rfl,0,1,rfl,by lia,by lia,by lia,c0⟩ (λj r ak x hj hI=>?_) (λr ak hI=>?_))) (λr ak s' hI=>?_))
  ·obtain⟨rfl,la,sp,rfl,tS,oX,GZ,hb⟩:=hI;dsimp only;by_cases c:sp>=m-h
   ·rw[TN c];exact Qe ⟨rfl,rfl,rfl,la,sp,rfl,tS,oX,hb,λi hi pN=>by lia⟩
   ·rw[TM c];refine Qa (past _ ⋯ ?_);dsimp only;cases cb:et O ky gW k g (h+sp) with
    |true=>rw[TM (by simp)];exact Qe ⟨rfl,rfl,_,_,rfl,by lia,by lia,by lia,cb⟩
    |false=>rw[TN (by simp)];exact Qe ⟨rfl,rfl,rfl,la,sp,rfl,tS,oX,hb,λi hi pN=>uo (h+sp) i ⋯ pN cb⟩
  ·obtain⟨rfl,la,sp,rfl,tS,oX,GZ,hb⟩:=hI;rw[Sd]at GZ;exact⟨rfl,rfl,la,sp,rfl,tS,oX,hb,λi hi pN=>by lia⟩
  obtain⟨rfl,rfl,la,sp,rfl,tS,oX,hb,zK⟩:=hI;have og:∀i,i<h+la+1->et O ky gW k g i=true:=λi hi=>mono i _ ⋯ tS hb
  dsimp only;refine Qa (TX (cZ (λj r ak=>st=ak/\∃u v,r=(none,u,v)/\v<=m/\u<=v/\v-u+j<=m/\(∀i,i<u->et O ky gW k g i=true)/\(∀i,v<=i->i<m->et O ky gW k g i=false)) ⟨rfl,_,_,rfl,by lia,by lia,by lia,og,zK⟩ (λj r ak x hj hI=>?_) (λr ak hI=>?_)))
  ·obtain⟨rfl,u,v,rfl,hv,DD,G2,h1,h2⟩:=hI;dsimp only;by_cases c:u>=v
   ·rw[TN c];have e:u=v:=⋯
    subst e;exact Qe ⟨rfl,Qe (q u hv h1 h2)⟩
   ·rw[TM c];have OC:u+(v-u)/2<v:=⋯
    refine Qa (past _ ⋯ ?_);dsimp only;cases cb:et O ky gW k g (u+(v-u)/2) with
    |true=>rw[TN rfl];exact Qe ⟨rfl,rfl,_,_,rfl,hv,by lia,by lia,λi hi=>mono i _ ⋯ ⋯ cb,h2⟩
    |false=>rw[TM (by simp)];exact Qe ⟨rfl,rfl,_,_,rfl,by lia,by lia,by lia,h1,λi hi pN=>uo _ i hi pN cb⟩
  ·obtain⟨rfl,u,v,rfl,hv,DD,G2,h1,h2⟩:=hI;have e:u=v:=by
    rw[Sd]at G2
    lia
   subst e;exact Qe (q u hv h1 h2)
 |false=>
  rw[TM (by simp)];refine Qa (bR (Q:=λr ak s'=>st=ak/\s=s'/\∃la sp,r=(none,la,sp)/\la<=h/\la<sp/\et O ky gW k g (h-la)=false/\∀i,i<h+1-min sp (h+1)->et O ky gW k g i=true) (TX (cZ (λj r ak=>st=ak/\∃la sp,r=(none,la,sp)/\la<=h/\la<sp/\j+1<=sp/\et O ky gW k g (h-la)=false) ⟨rfl,0,1,rfl,by lia,by lia,by lia,c0⟩ (λj r ak x hj hI=>?_) (λr ak hI=>?_))) (λr ak s' hI=>?_))
  ·obtain⟨rfl,la,sp,rfl,tS,oX,GZ,hb⟩:=hI;dsimp only;by_cases c:sp>=h+1
   ·rw[TN c];exact Qe ⟨rfl,rfl,rfl,la,sp,rfl,tS,oX,hb,λi hi=>by lia⟩
   ·rw[TM c];refine Qa (past _ ⋯ ?_);dsimp only;cases cb:et O ky gW k g (h-sp) with
    |true=>rw[TN rfl];exact Qe ⟨rfl,rfl,rfl,la,sp,rfl,tS,oX,hb,λi hi=>mono i (h-sp) ⋯ ⋯ cb⟩
    |false=>rw[TM (by simp)];exact Qe ⟨rfl,rfl,_,_,rfl,by lia,by lia,by lia,cb⟩
  ·obtain⟨rfl,la,sp,rfl,tS,oX,GZ,hb⟩:=hI;rw[Sd]at GZ;exact⟨rfl,rfl,la,sp,rfl,tS,oX,hb,λi hi=>by lia⟩
  obtain⟨rfl,rfl,la,sp,rfl,tS,oX,hb,og⟩:=hI;have zK:∀i,h-la<=i->i<m->et O ky gW k g i=false:=λi hi pN=>uo (h-la) i ⋯ pN hb
  dsimp only;refine Qa (TX (cZ (λj r ak=>st=ak/\∃u v,r=(none,u,v)/\v<=m/\u<=v/\v-u+j<=m/\(∀i,i<u->et O ky gW k g i=true)/\(∀i,v<=i->i<m->et O ky gW k g i=false)) ⟨rfl,_,_,rfl,by lia,by lia,by lia,og,zK⟩ (λj r ak x hj hI=>?_) (λr ak hI=>?_)))
  ·obtain⟨rfl,u,v,rfl,hv,DD,G2,h1,h2⟩:=hI;dsimp only;by_cases c:u>=v
   ·rw[TN c];have e:u=v:=⋯
    subst e;exact Qe ⟨rfl,Qe (q u hv h1 h2)⟩
   ·rw[TM c];have OC:u+(v-u)/2<v:=⋯
    refine Qa (past _ ⋯ ?_);dsimp only;cases cb:et O ky gW k g (u+(v-u)/2) with
    |true=>rw[TN rfl];exact Qe ⟨rfl,rfl,_,_,rfl,hv,by lia,by lia,λi hi=>mono i _ ⋯ ⋯ cb,h2⟩
    |false=>rw[TM (by simp)];exact Qe ⟨rfl,rfl,_,_,rfl,by lia,by lia,by lia,h1,λi hi pN=>uo _ i hi pN cb⟩
  ·obtain⟨rfl,u,v,rfl,hv,DD,G2,h1,h2⟩:=hI;have e:u=v:=by
    rw[Sd]at G2
    lia
   subst e;exact Qe (q u hv h1 h2)
end
section
variable{O:KeyOrd}{ky:Keyed->O.α}
noncomputable def le(O:KeyOrd)(ky:Keyed->O.α)(x y:Keyed):Prop:=O.kle (ky x) (ky y)
noncomputable def iK(O:KeyOrd)(ky:Keyed->O.α)(l:List Keyed):Prop:=l.Pairwise (le O ky)
structure MI(O:KeyOrd)(ky:Keyed->O.α)(la lb out:List Keyed)(i j:Nat):Prop where
 p:out.Perm (la.take i++lb.take j)
 s:iK O ky out
 a:∀x∈out,∀y∈la.drop i,le O ky x y
 b:∀x∈out,∀y∈lb.drop j,le O ky x y
theorem cQ{l:List Keyed}{i k:Nat}:l.drop i=(l.drop i).take k++l.drop (i+k):=by rw[<-List.drop_drop,SN]
theorem iE{l:List Keyed}{i k:Nat}:l.take (i+k)=l.take i++(l.drop i).take k:=by rw[List.take_add]
theorem MI.o8{la lb out:List Keyed}{i j k:Nat}(h:MI O ky la lb out i j)(sa:iK O ky la)(hk:∀x∈(la.drop i).take k,∀y∈lb.drop j,le O ky x y):MI O ky la lb (out++(la.drop i).take k) (i+k) j:=by
 have sd:iK O ky (la.drop i):=sa.sublist (RL _ _);rw[cQ (k:=k)]at sd;obtain⟨s1,s2,s3⟩:=SB.mp sd;have DT:∀y∈(la.drop i).take k,y∈la.drop i:=λy hy=>Sw hy
 have vG:∀y∈la.drop (i+k),y∈la.drop i:=λy hy=>by rw[cQ (k:=k)];exact QC _ hy
 refine⟨?_,SB.mpr ⟨h.s,s1,λx hx y hy=>h.a x hx y (DT y hy)⟩,λx hx y hy=>?_,λx hx y hy=>?_⟩
 ·rw[iE];refine(h.p.append_right _).trans ?_;rw[Qk,Qk];exact RB _ SF
 ·rcases Qs.mp hx with hx|hx
  ·exact h.a x hx y (vG y hy)
  ·exact s3 x hx y hy
 ·rcases Qs.mp hx with hx|hx
  ·exact h.b x hx y hy
  ·exact hk x hx y hy
theorem MI.o9{la lb out:List Keyed}{i j k:Nat}(h:MI O ky la lb out i j)(sb:iK O ky lb)(hk:∀x∈(lb.drop j).take k,∀y∈la.drop i,le O ky x y):MI O ky la lb (out++(lb.drop j).take k) i (j+k):=by
 have sd:iK O ky (lb.drop j):=sb.sublist (RL _ _);rw[cQ (k:=k)]at sd;obtain⟨s1,s2,s3⟩:=SB.mp sd;have DT:∀y∈(lb.drop j).take k,y∈lb.drop j:=λy hy=>Sw hy
 have vG:∀y∈lb.drop (j+k),y∈lb.drop j:=λy hy=>by rw[cQ (k:=k)];exact QC _ hy
 refine⟨?_,SB.mpr ⟨h.s,s1,λx hx y hy=>h.b x hx y (DT y hy)⟩,λx hx y hy=>?_,λx hx y hy=>?_⟩
 ·rw[iE];refine(h.p.append_right _).trans ?_;rw[Qk]
 ·rcases Qs.mp hx with hx|hx
  ·exact h.a x hx y hy
  ·exact hk x hx y hy
 ·rcases Qs.mp hx with hx|hx
  ·exact h.b x hx y (vG y hy)
  ·exact s3 x hx y hy
noncomputable def qQ(O:KeyOrd)(ky:Keyed->O.α)(la lb out:List Keyed):Prop:=out.Perm (la++lb)/\iK O ky out
theorem MI.tH{la lb out:List Keyed}{i j:Nat}(h:MI O ky la lb out i j)(sa:iK O ky la)(hj:lb.length<=j):qQ O ky la lb (out++la.drop i++lb.drop j):=by have e:lb.drop j=[]:=RK hj;have e2:lb.take j=lb:=SR hj;rw[e,QK];refine⟨?_,SB.mpr ⟨h.s,sa.sublist (RL _ _),h.a⟩⟩;refine(h.p.append_right _).trans ?_;rw[e2,Qk];refine(RB _ SF).trans ?_;rw[<-Qk,SN]
theorem MI.Gg{la lb out:List Keyed}{i j:Nat}(h:MI O ky la lb out i j)(sb:iK O ky lb)(hi:la.length<=i):qQ O ky la lb (out++la.drop i++lb.drop j):=by have e:la.drop i=[]:=RK hi;have e2:la.take i=la:=SR hi;rw[e,QK];refine⟨?_,SB.mpr ⟨h.s,sb.sublist (RL _ _),h.b⟩⟩;refine(h.p.append_right _).trans ?_;rw[e2,Qk,SN]
theorem MI.ue{la lb out:List Keyed}{i j:Nat}(h:MI O ky la lb out i j)(sa:iK O ky la)(sb:iK O ky lb)(hl:∀x∈lb.drop j,∀y∈la.drop i,le O ky x y):qQ O ky la lb (out++lb.drop j++la.drop i):=by
 refine⟨?_,SB.mpr ⟨SB.mpr ⟨h.s,sb.sublist (RL _ _),h.b⟩,sa.sublist (RL _ _),λx hx y hy=>?_⟩⟩
 ·refine((h.p.append_right _).append_right _).trans ?_;rw[Qk (la.take i),SN];refine(SF).trans ?_;rw[<-Qk];refine(List.Perm.append_right _ SF).trans ?_;rw[SN]
 ·rcases Qs.mp hx with hx|hx
  ·exact h.a x hx y hy
  ·exact hl x hx y hy
theorem MI.start{la lb:List Keyed}:MI O ky la lb [] 0 0:=⟨by simp,List.Pairwise.nil,λx hx=>absurd hx (by simp),λx hx=>absurd hx (by simp)⟩
end
noncomputable def DW:Array Keyed->Array Keyed->StateT SortSt Sem (Array Keyed):=sortPriv% PySem.Builtin.mergeLo
noncomputable def setG:Nat->StateT SortSt Sem Unit:=sortPriv% PySem.Builtin.setMinGallop
noncomputable abbrev GS:=Option (Array Keyed)×Array Keyed×Nat×Nat×Nat×Nat×Nat
noncomputable abbrev SS:=Option (Array Keyed)×Array Keyed×Nat×Nat×Nat×Nat
noncomputable abbrev OS:=Option (Array Keyed)×Array Keyed×Nat×Nat×Nat
noncomputable def zO(x y o:Array Keyed)(i j:Nat):Array Keyed:=o++x.extract i x.size++y.extract j y.size
noncomputable def vP(x y o:Array Keyed)(i j:Nat):Array Keyed:=o++y.extract j y.size++x.extract i x.size
noncomputable def Jr(x y o:Array Keyed)(i j mg ca cb:Nat):StateT SortSt Sem (ForInStep GS):=do
 let e<-elem' x i
 if (i+1+1==x.size)=true then pure (.done (some (vP x y (o.push e) (i+1) j),o.push e,i+1,j,mg,ca,cb))
 else if (decide (ca<7)&&decide (cb<7))=true then pure (.done (none,o.push e,i+1,j,mg,ca,cb))
 else pure (.yield (none,o.push e,i+1,j,mg,ca,cb))
noncomputable def Jq(x y o:Array Keyed)(i j mg ca qK:Nat):StateT SortSt Sem (ForInStep GS):=do
 let e<-elem' y j
 if (j+1==y.size)=true then pure (.done (some (zO x y (o.push e) i (j+1)),o.push e,i,j+1,mg,ca,qK))
 else do
  let f<-elem' x i
  let r<-B0 true f y (j+1) (y.size-(j+1)) 0
  match r with
  |some k=>
   if k>0 then
    if (j+1+k==y.size)=true then pure (.done (some (zO x y (o.push e++y.extract (j+1) (j+1+k)) i (j+1+k)),o.push e++y.extract (j+1) (j+1+k),i,j+1+k,mg,ca,k))
    else Jr x y (o.push e++y.extract (j+1) (j+1+k)) i (j+1+k) mg ca k
   else Jr x y (o.push e) i (j+1) mg ca k
  |_=>pure (.done (some (zO x y (o.push e) i (j+1)),o.push e,i,j+1,mg,ca,qK))
noncomputable def Jp(x y o:Array Keyed)(i j mg Ko qK:Nat):StateT SortSt Sem (ForInStep GS):=do
 setG mg
 let e<-elem' y j
 let r<-B0 false e x i (x.size-i) 0
 match r with
 |some k=>
  if k>0 then
   if (i+k+1==x.size)=true then pure (.done (some (vP x y (o++x.extract i (i+k)) (i+k) j),o++x.extract i (i+k),i+k,j,mg,k,qK))
   else if (i+k==x.size)=true then pure (.done (some (zO x y (o++x.extract i (i+k)) (i+k) j),o++x.extract i (i+k),i+k,j,mg,k,qK))
   else Jq x y (o++x.extract i (i+k)) (i+k) j mg k qK
  else Jq x y o i j mg k qK
 |_=>pure (.done (some (zO x y o i j),o,i,j,mg,Ko,qK))
noncomputable def Mh(x y:Array Keyed)(mg:Nat)(r:SS):StateT SortSt Sem (ForInStep SS):=do
 let e<-elem' y r.2.2.2.1
 let f<-elem' x r.2.2.1
 let c<-lt' e f
 match c with
 |some yw=>
  if yw=true then do
   let e<-elem' y r.2.2.2.1
   if (r.2.2.2.1+1==y.size)=true then pure (.done (some (zO x y (r.2.1.push e) r.2.2.1 (r.2.2.2.1+1)),r.2.1.push e,r.2.2.1,r.2.2.2.1+1,0,r.2.2.2.2.2+1))
   else if r.2.2.2.2.2+1>=mg then pure (.done (none,r.2.1.push e,r.2.2.1,r.2.2.2.1+1,0,r.2.2.2.2.2+1))
   else pure (.yield (none,r.2.1.push e,r.2.2.1,r.2.2.2.1+1,0,r.2.2.2.2.2+1))
  else do
   let f<-elem' x r.2.2.1
   if (r.2.2.1+1+1==x.size)=true then pure (.done (some (vP x y (r.2.1.push f) (r.2.2.1+1) r.2.2.2.1),r.2.1.push f,r.2.2.1+1,r.2.2.2.1,r.2.2.2.2.1+1,0))
   else if r.2.2.2.2.1+1>=mg then pure (.done (none,r.2.1.push f,r.2.2.1+1,r.2.2.2.1,r.2.2.2.2.1+1,0))
   else pure (.yield (none,r.2.1.push f,r.2.2.1+1,r.2.2.2.1,r.2.2.2.2.1+1,0))
 |_=>pure (.done (some (zO x y r.2.1 r.2.2.1 r.2.2.2.1),r.2.1,r.2.2.1,r.2.2.2.1,r.2.2.2.2.1,r.2.2.2.2.2))
noncomputable def Ee(x y:Array Keyed)(r:OS):StateT SortSt Sem (ForInStep OS):=do
 let a<-forIn [:x.size+y.size] ((none,r.2.1,r.2.2.1,r.2.2.2.1,0,0):SS) λ_ a=>Mh x y r.2.2.2.2 a
 match a.1 with
 |some v=>pure (.done (some v,a.2.1,a.2.2.1,a.2.2.2.1,r.2.2.2.2))
 |none=>do
  rule "list.sort.gallop"
  let b<-forIn [:x.size+y.size] ((none,a.2.1,a.2.2.1,a.2.2.2.1,r.2.2.2.2+1,a.2.2.2.2.1,a.2.2.2.2.2):GS) λ_ b=>
   if b.2.2.2.2.1>1 then Jp x y b.2.1 b.2.2.1 b.2.2.2.1 (b.2.2.2.2.1-1) b.2.2.2.2.2.1 b.2.2.2.2.2.2 else Jp x y b.2.1 b.2.2.1 b.2.2.2.1 b.2.2.2.2.1 b.2.2.2.2.2.1 b.2.2.2.2.2.2
  match b.1 with
  |some v=>pure (.done (some v,b.2.1,b.2.2.1,b.2.2.2.1,b.2.2.2.2.1))
  |none=>do
   setG (b.2.2.2.2.1+1)
   pure (.yield (none,b.2.1,b.2.2.1,b.2.2.2.1,b.2.2.2.2.1+1))
noncomputable def Nk(x y:Array Keyed):StateT SortSt Sem (Array Keyed):=do
 rule "list.sort.merge-lo"
 let e<-elem' y 0
 if (1==y.size)=true then pure (zO x y #[e] 0 1)
 else if (0+1==x.size)=true then pure (vP x y #[e] 0 1)
 else do
  let st<-get
  let r<-forIn [:x.size+y.size] ((none,#[e],0,1,gallopOf st):OS) λ_ r=>Ee x y r
  match r.1 with
  |some a=>pure a
  |none=>unsupported "internal:list.sort.merge-bound"
theorem AX(x y:Array Keyed):DW x y=Nk x y:=by kernel_rfl
theorem jX(x:Array Keyed)(i:Nat):(x.extract i x.size).toList=x.toList.drop i:=by rw[QV];show (x.toList.drop i).take (x.size-i)=_;exact SR (by rw[R9];simp)
theorem kG(x:Array Keyed)(i k:Nat):(x.extract i (i+k)).toList=(x.toList.drop i).take k:=by rw[QV];show (x.toList.drop i).take (i+k-i)=_;rw[Nat.add_sub_cancel_left]
theorem gv(x y o:Array Keyed)(i j:Nat):(zO x y o i j).toList=o.toList++x.toList.drop i++y.toList.drop j:=by unfold zO;rw[QU,QU,jX,jX]
theorem gP(x y o:Array Keyed)(i j:Nat):(vP x y o i j).toList=o.toList++y.toList.drop j++x.toList.drop i:=by unfold vP;rw[QU,QU,jX,jX]
theorem aG{x:Array Keyed}{i:Nat}(h:i<x.size):x[i]?=some (kas_item x i):=by unfold kas_item;simp[Array.getD,h]
theorem take_one{x:Array Keyed}{i:Nat}(h:i<x.size):(x.toList.drop i).take 1=[kas_item x i]:=by have e:x.toList.drop i=x.toList[i]'(by simpa using h)::x.toList.drop (i+1):=RJ (by simpa using h);rw[e];unfold kas_item;simp[Array.getD,h]
theorem gN{x o:Array Keyed}{i:Nat}(h:i<x.size):(o.push (kas_item x i)).toList=o.toList++(x.toList.drop i).take 1:=by rw[take_one h];simp
section
variable{O:KeyOrd}{ky:Keyed->O.α}{Mem:Keyed->Prop}
theorem cJ{x:Array Keyed}(sx:iK O ky x.toList){i j:Nat}(eT:i<=j)(hj:j<x.size):le O ky (kas_item x i) (kas_item x j):=by
 have e:∀k,(h:k<x.size)->kas_item x k=x.toList[k]'(by simpa using h):=λk h=>by unfold kas_item;simp[Array.getD,h]
 rw[e i ⋯,e j hj];by_cases c:i=j
 ·subst c;exact Ry _
 ·exact SD.mp sx i j (by simpa using (show i<x.size by lia)) (by simpa using hj) ⋯
theorem cF{x:Array Keyed}{i:Nat}{e:Keyed}(h:e∈x.toList.drop i):∃k,i<=k/\k<x.size/\e=kas_item x k:=by
 obtain⟨k,hk,rfl⟩:=R7 h;rw[R9]at hk;have zL:i+k<x.size:=by simp at hk;lia
 refine⟨i+k,by lia,zL,?_⟩;rw[List.getElem_drop];unfold kas_item;simp[Array.getD,zL]
theorem a9{x:Array Keyed}{i n:Nat}{e:Keyed}(h:e∈(x.toList.drop i).take n):∃k,i<=k/\k<i+n/\k<x.size/\e=kas_item x k:=by
 obtain⟨k,hk,rfl⟩:=R7 h;rw[Sh,R9]at hk;have zL:i+k<x.size:=by simp at hk;lia
 refine⟨i+k,by lia,by lia,zL,?_⟩;rw[List.getElem_take,List.getElem_drop];unfold kas_item;simp[Array.getD,zL]
structure MP(O:KeyOrd)(ky:Keyed->O.α)(Mem:Keyed->Prop)(x y:Array Keyed):Prop where
 sa:iK O ky x.toList
 sb:iK O ky y.toList
 ma:∀i,i<x.size->Mem (kas_item x i)
 mb:∀i,i<y.size->Mem (kas_item y i)
 pa:1<=x.size
 pb:1<=y.size
 first:O.blt (ky (kas_item y 0)) (ky (kas_item x 0))=true
 last:∀j,j<y.size->O.blt (ky (kas_item y j)) (ky (kas_item x (x.size-1)))=true
theorem MP.lst{x y:Array Keyed}(h:MP O ky Mem x y){i j:Nat}(hi:i+1=x.size):∀e∈y.toList.drop j,∀f∈x.toList.drop i,le O ky e f:=λe he f hf=>by
 obtain⟨k,_,k2,rfl⟩:=cF he;obtain⟨l,l1,l2,rfl⟩:=cF hf;have:l=x.size-1:=⋯
 subst this;exact Rw (h.last k k2)
structure zV(O:KeyOrd)(ky:Keyed->O.α)(x y o:Array Keyed)(i j:Nat):Prop where
 m:MI O ky x.toList y.toList o.toList i j
 i1:i+1<x.size
 j1:j<y.size
noncomputable def GP(O:KeyOrd)(ky:Keyed->O.α)(x y:Array Keyed)(n:Nat)(v:Option (Array Keyed))(o:Array Keyed)(i j:Nat):Prop:=(∃a,v=some a/\qQ O ky x.toList y.toList a.toList)\/(v=none/\zV O ky x y o i j/\n<=i+j)
noncomputable def SI(dH st:SortSt):Prop:=kindOf st=kindOf dH/\arrOf st=arrOf dH/\pendingOf st=pendingOf dH/\failedOf st=failedOf dH
theorem SI.refl(st:SortSt):SI st st:=⟨rfl,rfl,rfl,rfl⟩
theorem SI.trans{a b c:SortSt}(h:SI a b)(g:SI b c):SI a c:=⟨g.1.trans h.1,g.2.1.trans h.2.1,g.2.2.1.trans h.2.2.1,g.2.2.2.trans h.2.2.2⟩
variable{prog:Program}{w:World}{A:Around}{E:Value->Shared->Prop}{κ:SortKind}{s:Shared}
theorem kb{g:Nat}{st:SortSt}{Q:Unit->SortSt->Shared->Prop}(h:∀ak,SI st ak->Q () ak s):kasC (model prog w) A E (setG g) Q st s:=by
 have e:setG g=modify λt=>SortSt.mk' (kindOf t) (arrOf t) (pendingOf t) g (failedOf t):=by kernel_rfl
 rw[e];exact TV (h _ ⟨rfl,rfl,rfl,rfl⟩)
noncomputable def we(O:KeyOrd)(ky:Keyed->O.α)(x y:Array Keyed)(n:Nat):ForInStep GS->Prop
 |.done r=>GP O ky x y n r.1 r.2.1 r.2.2.1 r.2.2.2.1
 |.yield r=>r.1=none/\GP O ky x y n r.1 r.2.1 r.2.2.1 r.2.2.2.1
theorem xK{x y o:Array Keyed}(M:MP O ky Mem x y){i j mg ca cb n:Nat}(h:MI O ky x.toList y.toList o.toList i j)(hi:i+1<x.size)(hj:j<y.size)(hk:∀l,j<=l->l<y.size->le O ky (kas_item x i) (kas_item y l))(hn:n<=i+1+j){st:SortSt}{Q:ForInStep GS->SortSt->Shared->Prop}
  (q:∀r,we O ky x y n r->Q r st s):kasC (model prog w) A E (Jr x y o i j mg ca cb) Q st s:=by
 unfold Jr;refine Qa (aS (aG ⋯) ?_);have m1:=h.o8 (k:=1) M.sa (λe he f hf=>by
  obtain⟨a,a1,a2,a3,rfl⟩:=a9 he;obtain⟨b,b1,b2,rfl⟩:=cF hf;have:a=i:=⋯
  subst this;exact hk b b1 b2)
 rw[<-gN (x:=x) ⋯]at m1;by_cases c:(i+1+1==x.size)=true
 ·rw[TN c];have c':i+1+1=x.size:=by simpa using c
  refine Qe (q _ (.inl ⟨_,rfl,?_⟩));rw[gP];exact m1.ue M.sa M.sb (M.lst c')
 ·rw[TM c];have c':¬i+1+1=x.size:=by simpa using c
  have g:GP O ky x y n none (o.push (kas_item x i)) (i+1) j:=.inr ⟨rfl,⟨m1,by lia,hj⟩,by lia⟩;by_cases d:(decide (ca<7)&&decide (cb<7))=true
  ·rw[TN d];exact Qe (q _ g)
  ·rw[TM d];exact Qe (q _ ⟨rfl,g⟩)
theorem xJ(T:Tells prog w A κ s O ky Mem){x y o:Array Keyed}(M:MP O ky Mem x y){i j mg ca cb n:Nat}(h:MI O ky x.toList y.toList o.toList i j)(hi:i+1<x.size)(hj:j<y.size)(hk:∀l,i<=l->l<x.size->le O ky (kas_item y j) (kas_item x l))(hn:n<=i+j+1){st:SortSt}(hs:kindOf st=κ)
  {Q:ForInStep GS->SortSt->Shared->Prop} (q:∀r,we O ky x y n r->Q r st s):kasC (model prog w) A E (Jq x y o i j mg ca cb) Q st s:=by
 unfold Jq;refine Qa (aS (aG hj) ?_);have m1:=h.o9 (k:=1) M.sb (λe he f hf=>by
  obtain⟨a,a1,a2,a3,rfl⟩:=a9 he;obtain⟨b,b1,b2,rfl⟩:=cF hf;have:a=j:=⋯
  subst this;exact hk b b1 b2)
 rw[<-gN (x:=y) hj]at m1;by_cases c:(j+1==y.size)=true
 ·rw[TN c];have c':j+1=y.size:=by simpa using c
  refine Qe (q _ (.inl ⟨_,rfl,?_⟩));rw[gv];exact m1.tH M.sa (by simp;lia)
 ·rw[TM c];have c':¬j+1=y.size:=by simpa using c
  refine Qa (aS (aG ⋯) (Qa ?_));refine jr T (λt=>kas_item y (j+1+t)) (λt ht=>aG ⋯) (λt ht=>M.mb _ ⋯) (M.ma i ⋯) ⋯ (λa b fS hb pK=>?_) hs (λk hk1 cK lS=>?_)
  ·unfold et at pK ⊢;rw[TN rfl]at pK ⊢;have:=cJ M.sb (show j+1+a<=j+1+b by lia) ⋯;exact Rz this pK
  ·have lo:∀t,t<k->O.blt (ky (kas_item y (j+1+t))) (ky (kas_item x i))=true:=λt ht=>by have:=cK t ht;unfold et at this;rw[TN rfl]at this;exact this
   have vq:∀l,j+1+k<=l->l<y.size->le O ky (kas_item x i) (kas_item y l):=λl jP eU=>by have z:=lS (l-(j+1)) ⋯ ⋯;unfold et at z;rw[TN rfl]at z;have z2:O.blt (ky (kas_item y (j+1+(l-(j+1))))) (ky (kas_item x i))=false:=z;rw[show j+1+(l-(j+1))=l by lia]at z2;exact z2
   dsimp only;by_cases k0:k>0
   ·rw[TN k0];have m2:=m1.o9 (k:=k) M.sb (λe he f hf=>by
     obtain⟨a,a1,a2,a3,rfl⟩:=a9 he;obtain⟨b,b1,b2,rfl⟩:=cF hf;have h1:=lo (a-(j+1)) ⋯;rw[show j+1+(a-(j+1))=a by lia]at h1;exact Qx (Rw h1) (cJ M.sa b1 b2))
    rw[<-kG,<-QU]at m2;by_cases d:(j+1+k==y.size)=true
    ·rw[TN d];have d':j+1+k=y.size:=by simpa using d
     refine Qe (q _ (.inl ⟨_,rfl,?_⟩));rw[gv];exact m2.tH M.sa (by simp;lia)
    ·rw[TM d];have d':¬j+1+k=y.size:=by simpa using d
     exact xK M m2 hi ⋯ vq ⋯ q
   ·rw[TM k0];have:k=0:=⋯
    subst this;exact xK M m1 hi ⋯ vq ⋯ q
theorem xI(T:Tells prog w A κ s O ky Mem){x y o:Array Keyed}(M:MP O ky Mem x y){i j mg ca cb n:Nat}(h:zV O ky x y o i j)(hn:n<=i+j){dH st:SortSt}(hs:kindOf st=κ)(pT:SI dH st)
  {Q:ForInStep GS->SortSt->Shared->Prop} (q:∀r ak,SI dH ak->we O ky x y n r->Q r ak s):kasC (model prog w) A E (Jp x y o i j mg ca cb) Q st s:=by
 unfold Jp;have hi:=h.i1;have hj:=h.j1;refine Qa (kb λsv h1=>?_);have DA:kindOf sv=κ:=h1.1.trans hs;have q':=λr=>q r sv (pT.trans h1)
 refine Qa (aS (aG hj) (Qa ?_));refine jr T (λt=>kas_item x (i+t)) (λt ht=>aG ⋯) (λt ht=>M.ma _ ⋯) (M.mb j hj) ⋯ (λa b fS hb pK=>?_) DA (λk hk1 cK lS=>?_)
 ·unfold et at pK ⊢;rw[TM (by simp)]at pK ⊢;have:=cJ M.sa (show i+a<=i+b by lia) ⋯;cases z:O.blt (ky (kas_item y j)) (ky (kas_item x (i+a))) with
  |false=>rfl
  |true=>have z2:O.blt (ky (kas_item y j)) (ky (kas_item x (i+b)))=true:=RA z this;have xR:(!O.blt (ky (kas_item y j)) (ky (kas_item x (i+b))))=true:=pK;rw[z2]at xR;cases xR
 ·have lo:∀t,t<k->le O ky (kas_item x (i+t)) (kas_item y j):=λt ht=>by have z:=cK t ht;unfold et at z;rw[TM (by simp)]at z;have z2:(!O.blt (ky (kas_item y j)) (ky (kas_item x (i+t))))=true:=z;show O.blt (ky (kas_item y j)) (ky (kas_item x (i+t)))=false;simpa using z2
  have vq:∀l,i+k<=l->l<x.size->le O ky (kas_item y j) (kas_item x l):=λl jP eU=>by
   have z:=lS (l-i) ⋯ ⋯;unfold et at z;rw[TM (by simp)]at z;have z2:(!O.blt (ky (kas_item y j)) (ky (kas_item x (i+(l-i)))))=false:=z;rw[show i+(l-i)=l by lia]at z2;have z3:O.blt (ky (kas_item y j)) (ky (kas_item x l))=true:=by simpa using z2
   exact Rw z3
  dsimp only;by_cases k0:k>0
  ·rw[TN k0];have m2:=h.m.o8 (k:=k) M.sa (λe he f hf=>by
    obtain⟨a,a1,a2,a3,rfl⟩:=a9 he;obtain⟨b,b1,b2,rfl⟩:=cF hf;have h1:=lo (a-i) ⋯;rw[show i+(a-i)=a by lia]at h1;exact Qx h1 (cJ M.sb b1 b2))
   rw[<-kG,<-QU]at m2;by_cases c:(i+k+1==x.size)=true
   ·rw[TN c];have c':i+k+1=x.size:=by simpa using c
    refine Qe (q' _ (.inl ⟨_,rfl,?_⟩));rw[gP];exact m2.ue M.sa M.sb (M.lst c')
   ·rw[TM c];have c':¬i+k+1=x.size:=by simpa using c
    by_cases d:(i+k==x.size)=true
    ·rw[TN d];have d':i+k=x.size:=by simpa using d
     refine Qe (q' _ (.inl ⟨_,rfl,?_⟩));rw[gv];exact m2.Gg M.sb (by simp;lia)
    ·rw[TM d];have d':¬i+k=x.size:=by simpa using d
     exact xJ T M m2 ⋯ hj vq ⋯ DA q'
  ·rw[TM k0];have:k=0:=⋯
   subst this;exact xJ T M h.m hi hj vq ⋯ DA q'
end
section
variable{O:KeyOrd}{ky:Keyed->O.α}{Mem:Keyed->Prop}
variable{prog:Program}{w:World}{A:Around}{E:Value->Shared->Prop}{κ:SortKind}{s:Shared}
noncomputable def SStep(O:KeyOrd)(ky:Keyed->O.α)(x y:Array Keyed)(n:Nat):ForInStep SS->Prop
 |.done r=>GP O ky x y n r.1 r.2.1 r.2.2.1 r.2.2.2.1
 |.yield r=>r.1=none/\GP O ky x y n r.1 r.2.1 r.2.2.1 r.2.2.2.1
theorem GP.none{x y:Array Keyed}{n:Nat}{v:Option (Array Keyed)}{o:Array Keyed}{i j:Nat}(h:GP O ky x y n v o i j)(hv:v=none):zV O ky x y o i j/\n<=i+j:=by
 rcases h with ⟨a,e,_⟩|⟨_,h⟩
 ·rw[hv]at e;cases e
 ·exact h
theorem EX(T:Tells prog w A κ s O ky Mem){x y:Array Keyed}(M:MP O ky Mem x y){mg:Nat}{r:SS}(h:zV O ky x y r.2.1 r.2.2.1 r.2.2.2.1){n:Nat}(hn:n<=r.2.2.1+r.2.2.2.1+1){st:SortSt}(hs:kindOf st=κ)
  {Q:ForInStep SS->SortSt->Shared->Prop} (q:∀r',SStep O ky x y n r'->Q r' st s):kasC (model prog w) A E (Mh x y mg r) Q st s:=by
 obtain⟨v,o,i,j,ca,cb⟩:=r;have hi:i+1<x.size:=h.i1;have hj:j<y.size:=h.j1;have hm:MI O ky x.toList y.toList o.toList i j:=h.m;dsimp only at hn;unfold Mh;dsimp only;refine Qa (aS (aG hj) (Qa (aS (aG ⋯) (Qa (p8 T (M.mb j hj) (M.ma i ⋯) hs ?_)))));dsimp only;cases c:O.blt (ky (kas_item y j)) (ky (kas_item x i)) with
 |true=>
  rw[TN rfl];refine Qa (aS (aG hj) ?_);have m1:=hm.o9 (k:=1) M.sb (λe he f hf=>by
   obtain⟨a,a1,a2,a3,rfl⟩:=a9 he;obtain⟨b,b1,b2,rfl⟩:=cF hf;have:a=j:=⋯
   subst this;exact Qx (Rw c) (cJ M.sa b1 b2))
  rw[<-gN (x:=y) hj]at m1;by_cases d:(j+1==y.size)=true
  ·rw[TN d];have d':j+1=y.size:=by simpa using d
   refine Qe (q _ (.inl ⟨_,rfl,?_⟩));rw[gv];exact m1.tH M.sa (by simp;lia)
  ·rw[TM d];have d':¬j+1=y.size:=by simpa using d
   have g:GP O ky x y n none (o.push (kas_item y j)) i (j+1):=.inr ⟨rfl,⟨m1,hi,by lia⟩,by lia⟩;by_cases e:cb+1>=mg
   ·rw[TN e];exact Qe (q _ g)
   ·rw[TM e];exact Qe (q _ ⟨rfl,g⟩)
 |false=>
  rw[TM (by simp)];refine Qa (aS (aG ⋯) ?_);have m1:=hm.o8 (k:=1) M.sa (λe he f hf=>by
   obtain⟨a,a1,a2,a3,rfl⟩:=a9 he;obtain⟨b,b1,b2,rfl⟩:=cF hf;have:a=i:=⋯
   subst this;exact Qx (show O.kle (ky (kas_item x a)) (ky (kas_item y j)) from c) (cJ M.sb b1 b2))
  rw[<-gN (x:=x) ⋯]at m1;by_cases d:(i+1+1==x.size)=true
  ·rw[TN d];have d':i+1+1=x.size:=by simpa using d
   refine Qe (q _ (.inl ⟨_,rfl,?_⟩));rw[gP];exact m1.ue M.sa M.sb (M.lst d')
  ·rw[TM d];have d':¬i+1+1=x.size:=by simpa using d
   have g:GP O ky x y n none (o.push (kas_item x i)) (i+1) j:=.inr ⟨rfl,⟨m1,by lia,hj⟩,by lia⟩;by_cases e:ca+1>=mg
   ·rw[TN e];exact Qe (q _ g)
   ·rw[TM e];exact Qe (q _ ⟨rfl,g⟩)
noncomputable def FP(O:KeyOrd)(ky:Keyed->O.α)(x y:Array Keyed)(n:Nat):ForInStep OS->Prop
 |.done r=>∃a,r.1=some a/\qQ O ky x.toList y.toList a.toList
 |.yield r=>r.1=none/\zV O ky x y r.2.1 r.2.2.1 r.2.2.2.1/\n<=r.2.2.1+r.2.2.2.1
theorem A7(T:Tells prog w A κ s O ky Mem){x y:Array Keyed}(M:MP O ky Mem x y){r:OS}(h:zV O ky x y r.2.1 r.2.2.1 r.2.2.2.1){n:Nat}(hn:n<=r.2.2.1+r.2.2.2.1){dH st:SortSt}(hs:kindOf st=κ)(pT:SI dH st)
  {Q:ForInStep OS->SortSt->Shared->Prop} (q:∀r' ak,SI dH ak->FP O ky x y (n+1) r'->Q r' ak s):kasC (model prog w) A E (Ee x y r) Q st s:=by
 unfold Ee;have hp:=M.pa;refine Qa (bR (Q:=λa ak s'=>st=ak/\s=s'/\GP O ky x y (n+1) a.1 a.2.1 a.2.2.1 a.2.2.2.1) (TX (cZ (λjj a ak=>st=ak/\a.1=none/\zV O ky x y a.2.1 a.2.2.1 a.2.2.2.1/\n+jj<=a.2.2.1+a.2.2.2.1) ⟨rfl,rfl,h,by simpa using hn⟩ (λjj a ak z hj hI=>?_) (λa ak hI=>?_))) (λa ak s' hI=>?_))
 ·obtain⟨rfl,a0,CN,an⟩:=hI;refine EX T M CN (n:=n+jj+1) ⋯ hs (λr' iG=>⟨rfl,?_⟩);cases r' with
  |done b=>
   refine⟨rfl,rfl,?_⟩;rcases iG with ⟨v,e,m⟩|⟨e,ok,l⟩
   ·exact .inl ⟨v,e,m⟩
   ·exact .inr ⟨e,ok,by lia⟩
  |yield b=>obtain⟨b0,gb⟩:=iG;obtain⟨ok,l⟩:=gb.none b0;exact⟨rfl,b0,ok,by lia⟩
 ·obtain⟨rfl,a0,CN,an⟩:=hI;rw[Sd]at an;exact⟨rfl,rfl,.inr ⟨a0,CN,by lia⟩⟩
 obtain⟨rfl,rfl,ga⟩:=hI;rcases ga with ⟨v,e,m⟩|⟨e,ok,l⟩
 ·rw[e];exact Qe (q _ _ pT ⟨v,rfl,m⟩)
 ·rw[e];refine Qa (TU (Uh ?_));refine Qa (bR (Q:=λb ak s'=>SI dH ak/\s=s'/\GP O ky x y (n+1) b.1 b.2.1 b.2.2.1 b.2.2.2.1) (TX (cZ (λjj b ak=>SI dH ak/\kindOf ak=κ/\b.1=none/\zV O ky x y b.2.1 b.2.2.1 b.2.2.2.1/\n+1<=b.2.2.1+b.2.2.2.1) ⟨pT,hs,rfl,ok,l⟩ (λjj b ak z hj hI=>?_) (λb ak hI=>?_))) (λb ak s' hI=>?_))
  ·obtain⟨si,ks,b0,Ai,bn⟩:=hI;have kk:∀d5,SI dH d5->kindOf d5=κ:=λd5 h2=>(h2.1.trans si.1.symm).trans ks
   by_cases c:b.2.2.2.2.1>1
   ·rw[TN c];refine xI T M Ai bn ks si (λr' d5 h2 iG=>⟨rfl,?_⟩);cases r' with
    |done b'=>exact⟨h2,rfl,iG⟩
    |yield b'=>obtain⟨c0,gc⟩:=iG;obtain⟨D3,l'⟩:=gc.none c0;exact⟨h2,kk d5 h2,c0,D3,l'⟩
   ·rw[TM c];refine xI T M Ai bn ks si (λr' d5 h2 iG=>⟨rfl,?_⟩);cases r' with
    |done b'=>exact⟨h2,rfl,iG⟩
    |yield b'=>obtain⟨c0,gc⟩:=iG;obtain⟨D3,l'⟩:=gc.none c0;exact⟨h2,kk d5 h2,c0,D3,l'⟩
  ·obtain⟨si,ks,b0,Ai,bn⟩:=hI;exact⟨si,rfl,.inr ⟨b0,Ai,bn⟩⟩
  obtain⟨si,rfl,gb⟩:=hI;rcases gb with ⟨v,e2,m⟩|⟨e2,LI,l2⟩
  ·rw[e2];exact Qe (q _ _ si ⟨v,rfl,m⟩)
  ·rw[e2];exact Qa (kb λd5 h2=>Qe (q _ _ (si.trans h2) ⟨rfl,LI,l2⟩))
theorem AY(T:Tells prog w A κ s O ky Mem){x y:Array Keyed}(M:MP O ky Mem x y){st:SortSt}(hs:kindOf st=κ){Q:Array Keyed->SortSt->Shared->Prop}(q:∀v ak,SI st ak->qQ O ky x.toList y.toList v.toList->Q v ak s):kasC (model prog w) A E (DW x y) Q st s:=by
 rw[AX];unfold Nk;have hp:=M.pa;have hq:=M.pb;refine Qa (TU (Uh ?_));refine Qa (aS (aG ⋯) ?_);have m1:=(MI.start (O:=O) (ky:=ky) (la:=x.toList) (lb:=y.toList)).o9 (k:=1) M.sb (λe he f hf=>by
  obtain⟨a,a1,a2,a3,rfl⟩:=a9 he;obtain⟨b,b1,b2,rfl⟩:=cF hf;have:a=0:=⋯
  subst this;exact Qx (Rw M.first) (cJ M.sa (Tj b) b2))
 have e0:(#[kas_item y 0]:Array Keyed).toList=[]++(y.toList.drop 0).take 1:=by rw[take_one ⋯];rfl
 rw[<-e0,Ti]at m1;by_cases c:(1==y.size)=true
 ·rw[TN c];have c':1=y.size:=by simpa using c
  refine Qe (q _ _ (SI.refl _) ?_);rw[gv];exact m1.tH M.sa (by simp;lia)
 ·rw[TM c];have c':¬1=y.size:=by simpa using c
  by_cases d:(0+1==x.size)=true
  ·rw[TN d];have d':0+1=x.size:=by simpa using d
   refine Qe (q _ _ (SI.refl _) ?_);rw[gP];exact m1.ue M.sa M.sb (M.lst d')
  ·rw[TM d];have d':¬0+1=x.size:=by simpa using d
   refine Qa (TR ?_);refine Qa (bR (Q:=λr ak s'=>SI st ak/\s=s'/\∃a,r.1=some a/\qQ O ky x.toList y.toList a.toList) (TX (cZ (λjj r ak=>SI st ak/\r.1=none/\zV O ky x y r.2.1 r.2.2.1 r.2.2.2.1/\jj+1<=r.2.2.1+r.2.2.2.1) ⟨SI.refl _,rfl,⟨m1,(show 0+1<x.size by lia),(show 1<y.size by lia)⟩,by simp⟩ (λjj r ak z hj hI=>?_) (λr ak hI=>?_))) (λr ak s' hI=>?_))
   ·obtain⟨si,r0,Bv,rn⟩:=hI;refine A7 T M Bv rn (si.1.trans hs) si (λr' d5 h2 iG=>⟨rfl,?_⟩);cases r' with
    |done b=>exact⟨h2,rfl,iG⟩
    |yield b=>exact⟨h2,iG.1,iG.2.1,iG.2.2⟩
   ·obtain⟨si,r0,Bv,rn⟩:=hI;rw[Sd]at rn;have h1:=Bv.i1;have h2:=Bv.j1
    lia
   obtain⟨si,rfl,a,e,m⟩:=hI;rw[e];exact Qe (q _ _ si m)
end
section
variable{O:KeyOrd}{ky:Keyed->O.α}
structure HI(O:KeyOrd)(ky:Keyed->O.α)(la lb R:List Keyed)(i j:Nat):Prop where
 p:R.Perm (la.drop i++lb.drop j)
 s:iK O ky R
 a:∀x∈la.take i,∀y∈R,le O ky x y
 b:∀x∈lb.take j,∀y∈R,le O ky x y
theorem gC{l:List Keyed}{i k:Nat}(h:k<=i):l.take i=l.take k++(l.drop k).take (i-k):=by have:=iE (l:=l) (i:=k) (k:=i-k);rw[show k+(i-k)=i by lia]at this;exact this
theorem kz{l:List Keyed}{i k:Nat}(h:k<=i):l.drop k=(l.drop k).take (i-k)++l.drop i:=by have:=cQ (l:=l) (i:=k) (k:=i-k);rw[show k+(i-k)=i by lia]at this;exact this
theorem HI.o8{la lb R:List Keyed}{i k j:Nat}(h:HI O ky la lb R i j)(hk:k<=i)(sa:iK O ky la)(hb:∀e∈(la.drop k).take (i-k),∀y∈lb.take j,le O ky y e):HI O ky la lb ((la.drop k).take (i-k)++R) k j:=by
 have st:iK O ky (la.take i):=sa.sublist (SU _ _);rw[gC hk]at st;obtain⟨s1,s2,s3⟩:=SB.mp st;have m1:∀y∈(la.drop k).take (i-k),y∈la.take i:=λy hy=>by rw[gC hk];exact QC _ hy
 have m2:∀y∈la.take k,y∈la.take i:=λy hy=>by rw[gC hk];exact Sn _ hy
 refine⟨?_,SB.mpr ⟨s2,h.s,λx hx y hy=>h.a x (m1 x hx) y hy⟩,λx hx y hy=>?_,λx hx y hy=>?_⟩
 ·refine(h.p.append_left _).trans ?_;rw[<-Qk,<-kz (l:=la) hk]
 ·rcases Qs.mp hy with hy|hy
  ·exact s3 x hx y hy
  ·exact h.a x (m2 x hx) y hy
 ·rcases Qs.mp hy with hy|hy
  ·exact hb y hy x hx
  ·exact h.b x hx y hy
theorem HI.o9{la lb R:List Keyed}{i k j:Nat}(h:HI O ky la lb R i j)(hk:k<=j)(sb:iK O ky lb)(hb:∀e∈(lb.drop k).take (j-k),∀y∈la.take i,le O ky y e):HI O ky la lb ((lb.drop k).take (j-k)++R) i k:=by
 have st:iK O ky (lb.take j):=sb.sublist (SU _ _);rw[gC hk]at st;obtain⟨s1,s2,s3⟩:=SB.mp st;have m1:∀y∈(lb.drop k).take (j-k),y∈lb.take j:=λy hy=>by rw[gC hk];exact QC _ hy
 have m2:∀y∈lb.take k,y∈lb.take j:=λy hy=>by rw[gC hk];exact Sn _ hy
 refine⟨?_,SB.mpr ⟨s2,h.s,λx hx y hy=>h.b x (m1 x hx) y hy⟩,λx hx y hy=>?_,λx hx y hy=>?_⟩
 ·refine(h.p.append_left _).trans ?_;rw[<-Qk];refine(List.Perm.append_right _ SF).trans ?_;rw[Qk,<-kz (l:=lb) hk]
 ·rcases Qs.mp hy with hy|hy
  ·exact hb y hy x hx
  ·exact h.a x hx y hy
 ·rcases Qs.mp hy with hy|hy
  ·exact s3 x hx y hy
  ·exact h.b x (m2 x hx) y hy
theorem HI.jq{la lb R:List Keyed}{i j:Nat}(h:HI O ky la lb R i j)(sa:iK O ky la)(sb:iK O ky lb)(hf:∀x∈lb.take j,∀y∈la.take i,le O ky x y):qQ O ky la lb (lb.take j++la.take i++R):=by
 refine⟨?_,?_⟩
 ·refine(h.p.append_left _).trans ?_;rw[Qk,<-Qk (la.take i),SN];refine(SF).trans ?_;rw[Qk];refine RB _ ((SF).trans ?_);rw[SN]
 ·refine SB.mpr ⟨SB.mpr ⟨sb.sublist (SU _ _),sa.sublist (SU _ _),hf⟩,h.s,λx hx y hy=>?_⟩;rcases Qs.mp hx with hx|hx
  ·exact h.b x hx y hy
  ·exact h.a x hx y hy
theorem HI.tF{la lb R:List Keyed}{j:Nat}(h:HI O ky la lb R 0 j)(sa:iK O ky la)(sb:iK O ky lb):qQ O ky la lb (la.take 0++lb.take j++R):=by have:=h.jq sa sb (λx hx y hy=>absurd hy (by simp));simpa using this
theorem HI.Dd{la lb R:List Keyed}{i:Nat}(h:HI O ky la lb R i 0)(sa:iK O ky la)(sb:iK O ky lb):qQ O ky la lb (la.take i++lb.take 0++R):=by have:=h.jq sa sb (λx hx y hy=>absurd hx (by simp));simpa using this
theorem HI.start{la lb:List Keyed}:HI O ky la lb [] la.length lb.length:=⟨by simp,List.Pairwise.nil,λx _ y hy=>absurd hy (by simp),λx _ y hy=>absurd hy (by simp)⟩
end
noncomputable def DU:Array Keyed->Array Keyed->StateT SortSt Sem (Array Keyed):=sortPriv% PySem.Builtin.mergeHi
noncomputable abbrev GH:=Option (Array Keyed)×Nat×Nat×Array Keyed×Nat×Nat×Nat
noncomputable abbrev SH:=Option (Array Keyed)×Nat×Nat×Array Keyed×Nat×Nat
noncomputable abbrev OH:=Option (Array Keyed)×Nat×Nat×Array Keyed×Nat
noncomputable def lX(x y o:Array Keyed)(i j:Nat):Array Keyed:=x.extract 0 i++y.extract 0 j++o.reverse
noncomputable def vm(x y o:Array Keyed)(i j:Nat):Array Keyed:=y.extract 0 j++x.extract 0 i++o.reverse
noncomputable def JA(x y o:Array Keyed)(i j mg ca cb:Nat):StateT SortSt Sem (ForInStep GH):=do
 let e<-elem' x (i-1)
 if (i-1==0)=true then pure (.done (some (lX x y (o.push e) (i-1) j),i-1,j,o.push e,mg,ca,cb))
 else if (decide (ca<7)&&decide (cb<7))=true then pure (.done (none,i-1,j,o.push e,mg,ca,cb))
 else pure (.yield (none,i-1,j,o.push e,mg,ca,cb))
noncomputable def eU(x y o:Array Keyed)(i j mg ca qK:Nat):StateT SortSt Sem (ForInStep GH):=do
 let e<-elem' y (j-1)
 if (j-1==1)=true then pure (.done (some (vm x y (o.push e) i (j-1)),i,j-1,o.push e,mg,ca,qK))
 else do
  let f<-elem' x (i-1)
  let r<-B0 true f y 0 (j-1) (j-1-1)
  match r with
  |some k=>
   if j-1-k>0 then
    if (k==1)=true then pure (.done (some (vm x y (o.push e++(y.extract k (j-1)).reverse) i k),i,k,o.push e++(y.extract k (j-1)).reverse,mg,ca,j-1-k))
    else if (k==0)=true then pure (.done (some (lX x y (o.push e++(y.extract k (j-1)).reverse) i k),i,k,o.push e++(y.extract k (j-1)).reverse,mg,ca,j-1-k))
    else JA x y (o.push e++(y.extract k (j-1)).reverse) i k mg ca (j-1-k)
   else JA x y (o.push e) i (j-1) mg ca (j-1-k)
  |_=>pure (.done (some (lX x y (o.push e) i (j-1)),i,j-1,o.push e,mg,ca,qK))
noncomputable def jP(x y o:Array Keyed)(i j mg Ko qK:Nat):StateT SortSt Sem (ForInStep GH):=do
 setG mg
 let e<-elem' y (j-1)
 let r<-B0 false e x 0 i (i-1)
 match r with
 |some k=>
  if i-k>0 then
   if (k==0)=true then pure (.done (some (lX x y (o++(x.extract k i).reverse) k j),k,j,o++(x.extract k i).reverse,mg,i-k,qK))
   else eU x y (o++(x.extract k i).reverse) k j mg (i-k) qK
  else eU x y o i j mg (i-k) qK
 |_=>pure (.done (some (lX x y o i j),i,j,o,mg,Ko,qK))
noncomputable def Mf(x y:Array Keyed)(mg:Nat)(r:SH):StateT SortSt Sem (ForInStep SH):=do
 let e<-elem' y (r.2.2.1-1)
 let f<-elem' x (r.2.1-1)
 let c<-lt' e f
 match c with
 |some xw=>
  if xw=true then do
   let f<-elem' x (r.2.1-1)
   if (r.2.1-1==0)=true then pure (.done (some (lX x y (r.2.2.2.1.push f) (r.2.1-1) r.2.2.1),r.2.1-1,r.2.2.1,r.2.2.2.1.push f,r.2.2.2.2.1+1,0))
   else if r.2.2.2.2.1+1>=mg then pure (.done (none,r.2.1-1,r.2.2.1,r.2.2.2.1.push f,r.2.2.2.2.1+1,0))
   else pure (.yield (none,r.2.1-1,r.2.2.1,r.2.2.2.1.push f,r.2.2.2.2.1+1,0))
  else do
   let e<-elem' y (r.2.2.1-1)
   if (r.2.2.1-1==1)=true then pure (.done (some (vm x y (r.2.2.2.1.push e) r.2.1 (r.2.2.1-1)),r.2.1,r.2.2.1-1,r.2.2.2.1.push e,0,r.2.2.2.2.2+1))
   else if r.2.2.2.2.2+1>=mg then pure (.done (none,r.2.1,r.2.2.1-1,r.2.2.2.1.push e,0,r.2.2.2.2.2+1))
   else pure (.yield (none,r.2.1,r.2.2.1-1,r.2.2.2.1.push e,0,r.2.2.2.2.2+1))
 |_=>pure (.done (some (lX x y r.2.2.2.1 r.2.1 r.2.2.1),r.2.1,r.2.2.1,r.2.2.2.1,r.2.2.2.2.1,r.2.2.2.2.2))
noncomputable def Ef(x y:Array Keyed)(r:OH):StateT SortSt Sem (ForInStep OH):=do
 let a<-forIn [:x.size+y.size] ((none,r.2.1,r.2.2.1,r.2.2.2.1,0,0):SH) λ_ a=>Mf x y r.2.2.2.2 a
 match a.1 with
 |some v=>pure (.done (some v,a.2.1,a.2.2.1,a.2.2.2.1,r.2.2.2.2))
 |none=>do
  rule "list.sort.gallop"
  let b<-forIn [:x.size+y.size] ((none,a.2.1,a.2.2.1,a.2.2.2.1,r.2.2.2.2+1,a.2.2.2.2.1,a.2.2.2.2.2):GH) λ_ b=>
   if b.2.2.2.2.1>1 then jP x y b.2.2.2.1 b.2.1 b.2.2.1 (b.2.2.2.2.1-1) b.2.2.2.2.2.1 b.2.2.2.2.2.2 else jP x y b.2.2.2.1 b.2.1 b.2.2.1 b.2.2.2.2.1 b.2.2.2.2.2.1 b.2.2.2.2.2.2
  match b.1 with
  |some v=>pure (.done (some v,b.2.1,b.2.2.1,b.2.2.2.1,b.2.2.2.2.1))
  |none=>do
   setG (b.2.2.2.2.1+1)
   pure (.yield (none,b.2.1,b.2.2.1,b.2.2.2.1,b.2.2.2.2.1+1))
noncomputable def M4(x y:Array Keyed):StateT SortSt Sem (Array Keyed):=do
 rule "list.sort.merge-hi"
 let e<-elem' x (x.size-1)
 if (x.size-1==0)=true then pure (lX x y #[e] (x.size-1) y.size)
 else if (y.size==1)=true then pure (vm x y #[e] (x.size-1) y.size)
 else do
  let st<-get
  let r<-forIn [:x.size+y.size] ((none,x.size-1,y.size,#[e],gallopOf st):OH) λ_ r=>Ef x y r
  match r.1 with
  |some a=>pure a
  |none=>unsupported "internal:list.sort.merge-bound"
theorem AV(x y:Array Keyed):DU x y=M4 x y:=by kernel_rfl
theorem nU(x:Array Keyed)(i:Nat):(x.extract 0 i).toList=x.toList.take i:=by rw[QV];show (x.toList.drop 0).take (i-0)=_;simp
theorem tM(x:Array Keyed){k i:Nat}:(x.extract k i).toList=(x.toList.drop k).take (i-k):=by rw[QV]
theorem eQ(x y o:Array Keyed)(i j:Nat):(lX x y o i j).toList=x.toList.take i++y.toList.take j++o.toList.reverse:=by unfold lX;rw[QU,QU,nU,nU,QX]
theorem gJ(x y o:Array Keyed)(i j:Nat):(vm x y o i j).toList=y.toList.take j++x.toList.take i++o.toList.reverse:=by unfold vm;rw[QU,QU,nU,nU,QX]
theorem uF(x o:Array Keyed)(k i:Nat):(o++(x.extract k i).reverse).toList.reverse=(x.toList.drop k).take (i-k)++o.toList.reverse:=by rw[QU,QX,List.reverse_append,List.reverse_reverse,tM]
theorem jf{x o:Array Keyed}{i:Nat}(h1:1<=i)(h2:i<=x.size):(o.push (kas_item x (i-1))).toList.reverse=(x.toList.drop (i-1)).take (i-(i-1))++o.toList.reverse:=by rw[show i-(i-1)=1 by lia,take_one ⋯];simp
section
variable{O:KeyOrd}{ky:Keyed->O.α}{Mem:Keyed->Prop}
variable{prog:Program}{w:World}{A:Around}{E:Value->Shared->Prop}{κ:SortKind}{s:Shared}
theorem fG{x:Array Keyed}{i:Nat}{e:Keyed}(h:e∈x.toList.take i):∃k,k<i/\k<x.size/\e=kas_item x k:=by
 have h':e∈(x.toList.drop 0).take i:=by simpa using h
 obtain⟨k,_,k1,k2,e⟩:=a9 h';exact⟨k,by lia,k2,e⟩
structure zU(O:KeyOrd)(ky:Keyed->O.α)(x y o:Array Keyed)(i j:Nat):Prop where
 m:HI O ky x.toList y.toList o.toList.reverse i j
 i1:1<=i
 i2:i<x.size
 j1:2<=j
 j2:j<=y.size
theorem MP.fst{x y:Array Keyed}(h:MP O ky Mem x y){i:Nat}(hi:i<=x.size):∀e∈y.toList.take 1,∀f∈x.toList.take i,le O ky e f:=λe he f hf=>by
 obtain⟨k,k1,k2,rfl⟩:=fG he;obtain⟨l,l1,l2,rfl⟩:=fG hf;have:k=0:=⋯
 subst this;exact Qx (Rw h.first) (cJ h.sa (Tj l) l2)
noncomputable def HP(O:KeyOrd)(ky:Keyed->O.α)(x y:Array Keyed)(n:Nat)(v:Option (Array Keyed))(o:Array Keyed)(i j:Nat):Prop:=(∃a,v=some a/\qQ O ky x.toList y.toList a.toList)\/(v=none/\zU O ky x y o i j/\i+j+n<=x.size+y.size)
theorem HP.none{x y:Array Keyed}{n:Nat}{v:Option (Array Keyed)}{o:Array Keyed}{i j:Nat}(h:HP O ky x y n v o i j)(hv:v=none):zU O ky x y o i j/\i+j+n<=x.size+y.size:=by
 rcases h with ⟨a,e,_⟩|⟨_,h⟩
 ·rw[hv]at e;cases e
 ·exact h
noncomputable def wg(O:KeyOrd)(ky:Keyed->O.α)(x y:Array Keyed)(n:Nat):ForInStep GH->Prop
 |.done r=>HP O ky x y n r.1 r.2.2.2.1 r.2.1 r.2.2.1
 |.yield r=>r.1=none/\HP O ky x y n r.1 r.2.2.2.1 r.2.1 r.2.2.1
theorem xW{x y o:Array Keyed}(M:MP O ky Mem x y){i j mg ca cb n:Nat}(h:HI O ky x.toList y.toList o.toList.reverse i j)(hi:1<=i)(vq:i<x.size)(hj:2<=j)(Az:j<=y.size)(hk:∀l,l<j->le O ky (kas_item y l) (kas_item x (i-1)))(hn:i-1+j+n<=x.size+y.size){st:SortSt}{Q:ForInStep GH->SortSt->Shared->Prop}
  (q:∀r,wg O ky x y n r->Q r st s):kasC (model prog w) A E (JA x y o i j mg ca cb) Q st s:=by
 unfold JA;refine Qa (aS (aG ⋯) ?_);have m1:=h.o8 (k:=i-1) ⋯ M.sa (λe he f hf=>by
  obtain⟨a,a1,a2,a3,rfl⟩:=a9 he;obtain⟨b,b1,b2,rfl⟩:=fG hf;have:a=i-1:=⋯
  subst this;exact hk b b1)
 rw[<-jf (x:=x) hi ⋯]at m1;by_cases c:(i-1==0)=true
 ·rw[TN c];have c':i-1=0:=by simpa using c
  refine Qe (q _ (.inl ⟨_,rfl,?_⟩));rw[eQ];rw[c']at m1 ⊢;exact m1.tF M.sa M.sb
 ·rw[TM c];have c':¬i-1=0:=by simpa using c
  have g:HP O ky x y n none (o.push (kas_item x (i-1))) (i-1) j:=.inr ⟨rfl,⟨m1,by lia,by lia,hj,Az⟩,by lia⟩;by_cases d:(decide (ca<7)&&decide (cb<7))=true
  ·rw[TN d];exact Qe (q _ g)
  ·rw[TM d];exact Qe (q _ ⟨rfl,g⟩)
theorem xV(T:Tells prog w A κ s O ky Mem){x y o:Array Keyed}(M:MP O ky Mem x y){i j mg ca cb n:Nat}(h:HI O ky x.toList y.toList o.toList.reverse i j)(hi:1<=i)(vq:i<x.size)(hj:2<=j)(Az:j<=y.size)(hk:∀l,l<i->le O ky (kas_item x l) (kas_item y (j-1)))(hn:i+(j-1)+n<=x.size+y.size){st:SortSt}(hs:kindOf st=κ)
  {Q:ForInStep GH->SortSt->Shared->Prop} (q:∀r,wg O ky x y n r->Q r st s):kasC (model prog w) A E (eU x y o i j mg ca cb) Q st s:=by
 unfold eU;refine Qa (aS (aG ⋯) ?_);have m1:=h.o9 (k:=j-1) ⋯ M.sb (λe he f hf=>by
  obtain⟨a,a1,a2,a3,rfl⟩:=a9 he;obtain⟨b,b1,b2,rfl⟩:=fG hf;have:a=j-1:=⋯
  subst this;exact hk b b1)
 rw[<-jf (x:=y) ⋯ Az]at m1;by_cases c:(j-1==1)=true
 ·rw[TN c];have c':j-1=1:=by simpa using c
  refine Qe (q _ (.inl ⟨_,rfl,?_⟩));rw[gJ];rw[c']at m1 ⊢;exact m1.jq M.sa M.sb (M.fst ⋯)
 ·rw[TM c];have c':¬j-1=1:=by simpa using c
  refine Qa (aS (aG ⋯) (Qa ?_));refine jr T (λt=>kas_item y t) (λt ht=>by rw[Ti];exact aG ⋯) (λt ht=>M.mb _ ⋯) (M.ma (i-1) ⋯) ⋯ (λa b fS hb pK=>?_) hs (λk hk1 cK lS=>?_)
  ·unfold et at pK ⊢;rw[TN rfl]at pK ⊢;have:=cJ M.sb fS ⋯;exact Rz this pK
  ·have lo:∀t,t<k->le O ky (kas_item y t) (kas_item x (i-1)):=λt ht=>by have z:=cK t ht;unfold et at z;rw[TN rfl]at z;exact Rw z
   have up:∀t,k<=t->t<j-1->le O ky (kas_item x (i-1)) (kas_item y t):=λt h1 h2=>by have z:=lS t h1 h2;unfold et at z;rw[TN rfl]at z;exact z
   dsimp only;by_cases k0:j-1-k>0
   ·rw[TN k0];have m2:=m1.o9 (k:=k) ⋯ M.sb (λe he f hf=>by
     obtain⟨a,a1,a2,a3,rfl⟩:=a9 he;obtain⟨b,b1,b2,rfl⟩:=fG hf;exact Qx (cJ M.sa (show b<=i-1 by lia) ⋯) (up a a1 ⋯))
    rw[<-uF]at m2;by_cases d:(k==1)=true
    ·rw[TN d];have d':k=1:=by simpa using d
     subst d';refine Qe (q _ (.inl ⟨_,rfl,?_⟩));rw[gJ];exact m2.jq M.sa M.sb (M.fst ⋯)
    ·rw[TM d];have d':¬k=1:=by simpa using d
     by_cases e:(k==0)=true
     ·rw[TN e];have e':k=0:=by simpa using e
      subst e';refine Qe (q _ (.inl ⟨_,rfl,?_⟩));rw[eQ];exact m2.Dd M.sa M.sb
     ·rw[TM e];have e':¬k=0:=by simpa using e
      exact xW M m2 hi vq ⋯ ⋯ lo ⋯ q
   ·rw[TM k0];exact xW M m1 hi vq ⋯ ⋯ (λl hl=>lo l ⋯) ⋯ q
theorem xU(T:Tells prog w A κ s O ky Mem){x y o:Array Keyed}(M:MP O ky Mem x y){i j mg ca cb n:Nat}(h:zU O ky x y o i j)(hn:i+j+n<=x.size+y.size){dH st:SortSt}(hs:kindOf st=κ)(pT:SI dH st)
  {Q:ForInStep GH->SortSt->Shared->Prop} (q:∀r ak,SI dH ak->wg O ky x y n r->Q r ak s):kasC (model prog w) A E (jP x y o i j mg ca cb) Q st s:=by
 unfold jP;have hi:=h.i1;have vq:=h.i2;have hj:=h.j1;have Az:=h.j2;refine Qa (kb λsv h1=>?_);have DA:kindOf sv=κ:=h1.1.trans hs;have q':=λr=>q r sv (pT.trans h1)
 refine Qa (aS (aG ⋯) (Qa ?_));refine jr T (λt=>kas_item x t) (λt ht=>by rw[Ti];exact aG ⋯) (λt ht=>M.ma _ ⋯) (M.mb (j-1) ⋯) ⋯ (λa b fS hb pK=>?_) DA (λk hk1 cK lS=>?_)
 ·unfold et at pK ⊢;rw[TM (by simp)]at pK ⊢;have:=cJ M.sa fS ⋯;cases z:O.blt (ky (kas_item y (j-1))) (ky (kas_item x a)) with
  |false=>rfl
  |true=>have z2:O.blt (ky (kas_item y (j-1))) (ky (kas_item x b))=true:=RA z this;have xR:(!O.blt (ky (kas_item y (j-1))) (ky (kas_item x b)))=true:=pK;rw[z2]at xR;cases xR
 ·have lo:∀t,t<k->le O ky (kas_item x t) (kas_item y (j-1)):=λt ht=>by have z:=cK t ht;unfold et at z;rw[TM (by simp)]at z;have z2:(!O.blt (ky (kas_item y (j-1))) (ky (kas_item x t)))=true:=z;show O.blt (ky (kas_item y (j-1))) (ky (kas_item x t))=false;simpa using z2
  have up:∀t,k<=t->t<i->le O ky (kas_item y (j-1)) (kas_item x t):=λt h1 h2=>by
   have z:=lS t h1 h2;unfold et at z;rw[TM (by simp)]at z;have z2:(!O.blt (ky (kas_item y (j-1))) (ky (kas_item x t)))=false:=z;have z3:O.blt (ky (kas_item y (j-1))) (ky (kas_item x t))=true:=by simpa using z2
   exact Rw z3
  dsimp only;by_cases k0:i-k>0
  ·rw[TN k0];have m2:=h.m.o8 (k:=k) ⋯ M.sa (λe he f hf=>by
    obtain⟨a,a1,a2,a3,rfl⟩:=a9 he;obtain⟨b,b1,b2,rfl⟩:=fG hf;exact Qx (cJ M.sb (show b<=j-1 by lia) ⋯) (up a a1 ⋯))
   rw[<-uF]at m2;by_cases e:(k==0)=true
   ·rw[TN e];have e':k=0:=by simpa using e
    subst e';refine Qe (q' _ (.inl ⟨_,rfl,?_⟩));rw[eQ];exact m2.tF M.sa M.sb
   ·rw[TM e];have e':¬k=0:=by simpa using e
    exact xV T M m2 ⋯ ⋯ hj Az lo ⋯ DA q'
  ·rw[TM k0];exact xV T M h.m hi vq hj Az (λl hl=>lo l ⋯) ⋯ DA q'
noncomputable def NJ(O:KeyOrd)(ky:Keyed->O.α)(x y:Array Keyed)(n:Nat):ForInStep SH->Prop
 |.done r=>HP O ky x y n r.1 r.2.2.2.1 r.2.1 r.2.2.1
 |.yield r=>r.1=none/\HP O ky x y n r.1 r.2.2.2.1 r.2.1 r.2.2.1
theorem EV(T:Tells prog w A κ s O ky Mem){x y:Array Keyed}(M:MP O ky Mem x y){mg:Nat}{r:SH}(h:zU O ky x y r.2.2.2.1 r.2.1 r.2.2.1){n:Nat}(hn:r.2.1+r.2.2.1+n<=x.size+y.size+1){st:SortSt}(hs:kindOf st=κ)
  {Q:ForInStep SH->SortSt->Shared->Prop} (q:∀r',NJ O ky x y n r'->Q r' st s):kasC (model prog w) A E (Mf x y mg r) Q st s:=by
 obtain⟨v,i,j,o,ca,cb⟩:=r;have hi:1<=i:=h.i1;have vq:i<x.size:=h.i2;have hj:2<=j:=h.j1;have Az:j<=y.size:=h.j2;have hm:HI O ky x.toList y.toList o.toList.reverse i j:=h.m;dsimp only at hn;unfold Mf;dsimp only;refine Qa (aS (aG ⋯) (Qa (aS (aG ⋯) (Qa (p8 T (M.mb (j-1) ⋯) (M.ma (i-1) ⋯) hs ?_)))));dsimp only;cases c:O.blt (ky (kas_item y (j-1))) (ky (kas_item x (i-1))) with
 |true=>
  rw[TN rfl];refine Qa (aS (aG ⋯) ?_);have m1:=hm.o8 (k:=i-1) ⋯ M.sa (λe he f hf=>by
   obtain⟨a,a1,a2,a3,rfl⟩:=a9 he;obtain⟨b,b1,b2,rfl⟩:=fG hf;have:a=i-1:=⋯
   subst this;exact Qx (cJ M.sb (show b<=j-1 by lia) ⋯) (Rw c))
  rw[<-jf (x:=x) hi ⋯]at m1;by_cases d:(i-1==0)=true
  ·rw[TN d];have d':i-1=0:=by simpa using d
   refine Qe (q _ (.inl ⟨_,rfl,?_⟩));rw[eQ];rw[d']at m1 ⊢;exact m1.tF M.sa M.sb
  ·rw[TM d];have d':¬i-1=0:=by simpa using d
   have g:HP O ky x y n none (o.push (kas_item x (i-1))) (i-1) j:=.inr ⟨rfl,⟨m1,by lia,by lia,hj,Az⟩,by lia⟩;by_cases e:ca+1>=mg
   ·rw[TN e];exact Qe (q _ g)
   ·rw[TM e];exact Qe (q _ ⟨rfl,g⟩)
 |false=>
  rw[TM (by simp)];refine Qa (aS (aG ⋯) ?_);have m1:=hm.o9 (k:=j-1) ⋯ M.sb (λe he f hf=>by
   obtain⟨a,a1,a2,a3,rfl⟩:=a9 he;obtain⟨b,b1,b2,rfl⟩:=fG hf;have:a=j-1:=⋯
   subst this;exact Qx (cJ M.sa (show b<=i-1 by lia) ⋯) c)
  rw[<-jf (x:=y) ⋯ Az]at m1;by_cases d:(j-1==1)=true
  ·rw[TN d];have d':j-1=1:=by simpa using d
   refine Qe (q _ (.inl ⟨_,rfl,?_⟩));rw[gJ];rw[d']at m1 ⊢;exact m1.jq M.sa M.sb (M.fst ⋯)
  ·rw[TM d];have d':¬j-1=1:=by simpa using d
   have g:HP O ky x y n none (o.push (kas_item y (j-1))) i (j-1):=.inr ⟨rfl,⟨m1,hi,vq,by lia,by lia⟩,by lia⟩;by_cases e:cb+1>=mg
   ·rw[TN e];exact Qe (q _ g)
   ·rw[TM e];exact Qe (q _ ⟨rfl,g⟩)
noncomputable def NI(O:KeyOrd)(ky:Keyed->O.α)(x y:Array Keyed)(n:Nat):ForInStep OH->Prop
 |.done r=>∃a,r.1=some a/\qQ O ky x.toList y.toList a.toList
 |.yield r=>r.1=none/\zU O ky x y r.2.2.2.1 r.2.1 r.2.2.1/\r.2.1+r.2.2.1+n<=x.size+y.size
theorem A8(T:Tells prog w A κ s O ky Mem){x y:Array Keyed}(M:MP O ky Mem x y){r:OH}(h:zU O ky x y r.2.2.2.1 r.2.1 r.2.2.1){n:Nat}(hn:r.2.1+r.2.2.1+n<=x.size+y.size){dH st:SortSt}(hs:kindOf st=κ)(pT:SI dH st)
  {Q:ForInStep OH->SortSt->Shared->Prop} (q:∀r' ak,SI dH ak->NI O ky x y (n+1) r'->Q r' ak s):kasC (model prog w) A E (Ef x y r) Q st s:=by
 unfold Ef;have hp:=M.pa;refine Qa (bR (Q:=λa ak s'=>st=ak/\s=s'/\HP O ky x y (n+1) a.1 a.2.2.2.1 a.2.1 a.2.2.1) (TX (cZ (λjj a ak=>st=ak/\a.1=none/\zU O ky x y a.2.2.2.1 a.2.1 a.2.2.1/\a.2.1+a.2.2.1+n+jj<=x.size+y.size) ⟨rfl,rfl,h,by simpa using hn⟩ (λjj a ak z hj hI=>?_) (λa ak hI=>?_))) (λa ak s' hI=>?_))
 ·obtain⟨rfl,a0,CN,an⟩:=hI;refine EV T M CN (n:=n+jj+1) ⋯ hs (λr' iG=>⟨rfl,?_⟩);cases r' with
  |done b=>
   refine⟨rfl,rfl,?_⟩;rcases iG with ⟨v,e,m⟩|⟨e,ok,l⟩
   ·exact .inl ⟨v,e,m⟩
   ·exact .inr ⟨e,ok,by lia⟩
  |yield b=>obtain⟨b0,gb⟩:=iG;obtain⟨ok,l⟩:=gb.none b0;exact⟨rfl,b0,ok,by lia⟩
 ·obtain⟨rfl,a0,CN,an⟩:=hI;rw[Sd]at an;exact⟨rfl,rfl,.inr ⟨a0,CN,by lia⟩⟩
 obtain⟨rfl,rfl,ga⟩:=hI;rcases ga with ⟨v,e,m⟩|⟨e,ok,l⟩
 ·rw[e];exact Qe (q _ _ pT ⟨v,rfl,m⟩)
 ·rw[e];refine Qa (TU (Uh ?_));refine Qa (bR (Q:=λb ak s'=>SI dH ak/\s=s'/\HP O ky x y (n+1) b.1 b.2.2.2.1 b.2.1 b.2.2.1) (TX (cZ (λjj b ak=>SI dH ak/\kindOf ak=κ/\b.1=none/\zU O ky x y b.2.2.2.1 b.2.1 b.2.2.1/\b.2.1+b.2.2.1+(n+1)<=x.size+y.size) ⟨pT,hs,rfl,ok,l⟩ (λjj b ak z hj hI=>?_) (λb ak hI=>?_))) (λb ak s' hI=>?_))
  ·obtain⟨si,ks,b0,Ai,bn⟩:=hI;have kk:∀d5,SI dH d5->kindOf d5=κ:=λd5 h2=>(h2.1.trans si.1.symm).trans ks
   by_cases c:b.2.2.2.2.1>1
   ·rw[TN c];refine xU T M Ai bn ks si (λr' d5 h2 iG=>⟨rfl,?_⟩);cases r' with
    |done b'=>exact⟨h2,rfl,iG⟩
    |yield b'=>obtain⟨c0,gc⟩:=iG;obtain⟨D3,l'⟩:=gc.none c0;exact⟨h2,kk d5 h2,c0,D3,l'⟩
   ·rw[TM c];refine xU T M Ai bn ks si (λr' d5 h2 iG=>⟨rfl,?_⟩);cases r' with
    |done b'=>exact⟨h2,rfl,iG⟩
    |yield b'=>obtain⟨c0,gc⟩:=iG;obtain⟨D3,l'⟩:=gc.none c0;exact⟨h2,kk d5 h2,c0,D3,l'⟩
  ·obtain⟨si,ks,b0,Ai,bn⟩:=hI;exact⟨si,rfl,.inr ⟨b0,Ai,bn⟩⟩
  obtain⟨si,rfl,gb⟩:=hI;rcases gb with ⟨v,e2,m⟩|⟨e2,LI,l2⟩
  ·rw[e2];exact Qe (q _ _ si ⟨v,rfl,m⟩)
  ·rw[e2];exact Qa (kb λd5 h2=>Qe (q _ _ (si.trans h2) ⟨rfl,LI,l2⟩))
theorem AW(T:Tells prog w A κ s O ky Mem){x y:Array Keyed}(M:MP O ky Mem x y){st:SortSt}(hs:kindOf st=κ){Q:Array Keyed->SortSt->Shared->Prop}(q:∀v ak,SI st ak->qQ O ky x.toList y.toList v.toList->Q v ak s):kasC (model prog w) A E (DU x y) Q st s:=by
 rw[AV];unfold M4;have hp:=M.pa;have hq:=M.pb;refine Qa (TU (Uh ?_));refine Qa (aS (aG ⋯) ?_);have m0:=HI.start (O:=O) (ky:=ky) (la:=x.toList) (lb:=y.toList);have lx:x.toList.length=x.size:=by simp
 have ly:y.toList.length=y.size:=by simp
 rw[lx,ly]at m0;have m1:=m0.o8 (k:=x.size-1) ⋯ M.sa (λe he f hf=>by
  obtain⟨a,a1,a2,a3,rfl⟩:=a9 he;obtain⟨b,b1,b2,rfl⟩:=fG hf;have:a=x.size-1:=⋯
  subst this;exact Rw (M.last b b2))
 have e0:(#[kas_item x (x.size-1)]:Array Keyed).toList.reverse=(x.toList.drop (x.size-1)).take (x.size-(x.size-1))++[]:=by rw[show x.size-(x.size-1)=1 by lia,take_one ⋯];rfl
 rw[<-e0]at m1;by_cases c:(x.size-1==0)=true
 ·rw[TN c];have c':x.size-1=0:=by simpa using c
  refine Qe (q _ _ (SI.refl _) ?_);rw[eQ];rw[c']at m1 ⊢;exact m1.tF M.sa M.sb
 ·rw[TM c];have c':¬x.size-1=0:=by simpa using c
  by_cases d:(y.size==1)=true
  ·rw[TN d];have d':y.size=1:=by simpa using d
   refine Qe (q _ _ (SI.refl _) ?_);rw[gJ];rw[d']at m1 ⊢;exact m1.jq M.sa M.sb (M.fst ⋯)
  ·rw[TM d];have d':¬y.size=1:=by simpa using d
   refine Qa (TR ?_);refine Qa (bR (Q:=λr ak s'=>SI st ak/\s=s'/\∃a,r.1=some a/\qQ O ky x.toList y.toList a.toList) (TX (cZ (λjj r ak=>SI st ak/\r.1=none/\zU O ky x y r.2.2.2.1 r.2.1 r.2.2.1/\r.2.1+r.2.2.1+(jj+1)<=x.size+y.size) ⟨SI.refl _,rfl,⟨m1,(show 1<=x.size-1 by lia),(show x.size-1<x.size by lia),(show 2<=y.size by lia),Qb _⟩,(show x.size-1+y.size+(0+1)<=x.size+y.size by lia)⟩ (λjj r ak z hj hI=>?_) (λr ak hI=>?_))) (λr ak s' hI=>?_))
   ·obtain⟨si,r0,Bv,rn⟩:=hI;refine A8 T M Bv rn (si.1.trans hs) si (λr' d5 h2 iG=>⟨rfl,?_⟩);cases r' with
    |done b=>exact⟨h2,rfl,iG⟩
    |yield b=>exact⟨h2,iG.1,iG.2.1,iG.2.2⟩
   ·obtain⟨si,r0,Bv,rn⟩:=hI;rw[Sd]at rn;have h1:=Bv.i1;have h2:=Bv.j1
    lia
   obtain⟨si,rfl,a,e,m⟩:=hI;rw[e];exact Qe (q _ _ si m)
end
noncomputable def Hq:Nat->StateT SortSt Sem Bool:=sortPriv% PySem.Builtin.mergeAt
noncomputable def back(M:Array Keyed)(p:Nat)(a:Array Keyed):Array Keyed:=M.toList.zipIdx.foldl (λb(q,j)=>b.setIfInBounds (p+j) q) a
theorem DS(i:Nat):Hq i=(do
 let t<-get
 let (some (p,n,pw),some (q,m,_)):=((pendingOf t)[i]?,(pendingOf t)[i+1]?)|unsupported "internal:list.sort.pending"
 set (SortSt.mk' (kindOf t) (arrOf t) (((pendingOf t).setIfInBounds i (p,n+m,pw)).eraseIdxIfInBounds (i+1)) (gallopOf t) (failedOf t))
 let some k<-B0 false (<-elem' (arrOf t) q) (arrOf t) p n 0|return false
 let (p,n):=(p+k,n-k)
 if n==0 then return true
 let some m<-B0 true (<-elem' (arrOf t) (p+n-1)) (arrOf t) q m (m-1)|return false
 if m==0 then return true
 let x:=(arrOf t).extract p q
 let y:=(arrOf t).extract q (q+m)
 let M<-if n<=m then DW x y else DU x y
 modify λt=>SortSt.mk' (kindOf t) (back M p (arrOf t)) (pendingOf t) (gallopOf t) (failedOf t)
 return (failedOf (<-get)).isNone):=by kernel_rfl
theorem mw:∀(M:List Keyed)(p c:Nat)(a:Array Keyed),p+c+M.length<=a.size->((M.zipIdx c).foldl (λb(q:Keyed×Nat)=>b.setIfInBounds (p+q.2) q.1) a).toList=a.toList.take (p+c)++M++a.toList.drop (p+c+M.length)
 |[],p,c,a,h=>by simp
 |e::M,p,c,a,h=>by
  rw[SX,List.foldl_cons];simp only[Qo]at h;have ih:=mw M p (c+1) (a.setIfInBounds (p+c) e) (by rw[Array.size_setIfInBounds];lia);rw[ih];have hs:(a.setIfInBounds (p+c) e).toList=a.toList.take (p+c)++[e]++a.toList.drop (p+c+1):=by rw[Array.toList_setIfInBounds];rw[SJ];rw[TN (by simp;lia)];simp
  have hl:(a.toList.take (p+c)++[e]).length=p+c+1:=by simp;lia
  rw[hs];have e1:(a.toList.take (p+c)++[e]++a.toList.drop (p+c+1)).take (p+(c+1))=a.toList.take (p+c)++[e]:=by rw[show p+(c+1)=(a.toList.take (p+c)++[e]).length by lia,List.take_left]
  have e2:(a.toList.take (p+c)++[e]++a.toList.drop (p+c+1)).drop (p+(c+1)+M.length)=a.toList.drop (p+c+(e::M).length):=by
   rw[show p+(c+1)+M.length=(a.toList.take (p+c)++[e]).length+M.length by lia,List.drop_append,RK (Nat.le_add_right _ _),Sy,Nat.add_sub_cancel_left,List.drop_drop];congr 1;simp only[Qo]
   lia
  rw[e1,e2];simp
section
variable{O:KeyOrd}{ky:Keyed->O.α}{Mem:Keyed->Prop}
variable{prog:Program}{w:World}{A:Around}{E:Value->Shared->Prop}{κ:SortKind}{s:Shared}
theorem yf{t st:SortSt}{Q:PUnit->SortSt->Shared->Prop}(h:Q ⟨⟩ t s):kasC (model prog w) A E (set t:StateT SortSt Sem PUnit) Q st s:=by unfold kasC;rw[StateT.run_set];exact P4 h
theorem er(n1 n2 pw z:Nat):((#[(0,n1,pw),(n1,n2,z)]:Array (Nat×Nat×Nat)).setIfInBounds 0 (0,n1+n2,pw)).eraseIdxIfInBounds (0+1)=#[(0,n1+n2,pw)]:=by simp[Array.eraseIdxIfInBounds]
end
noncomputable def aL(lo n m:Nat):StateT SortSt Sem AscSt:=
 forIn [n:m] ((none,n):AscSt) λ_ r=>do
  let x<-ltAt' (lo+r.2) (lo+r.2-1)
  match x with
  |some c=>if c=true then pure (.done (none,r.2)) else pure (.yield (none,r.2+1))
  |_=>pure (.done (some none,r.2))
noncomputable def t3(lo n m:Nat):StateT SortSt Sem (Option Nat):=do
 reverseSlice' lo (lo+n)
 let r<-aL lo n m
 match r.1 with
 |some v=>pure v
 |none=>pure (some r.2)
noncomputable def dL(lo n m:Nat):StateT SortSt Sem DescSt:=
 forIn [n:m] ((none,n,0):DescSt) λ_ r=>do
  let x<-ltAt' (lo+r.2.1) (lo+r.2.1-1)
  match x with
  |some c=>
   if c=true then
    if r.2.2>0 then do
     reverseSlice' (lo+r.2.1-(r.2.2+1)) (lo+r.2.1)
     pure (.yield (none,r.2.1+1,0))
    else pure (.yield (none,r.2.1+1,0))
   else do
    let y<-ltAt' (lo+r.2.1-1) (lo+r.2.1)
    match y with
    |some d=>if d=true then pure (.done (none,r.2.1,r.2.2)) else pure (.yield (none,r.2.1+1,r.2.2+1))
    |_=>pure (.done (some none,r.2.1,r.2.2))
  |_=>pure (.done (some none,r.2.1,r.2.2))
noncomputable def dP(lo n m:Nat):StateT SortSt Sem (Option Nat):=do
 rule "list.sort.descending-run"
 let r<-dL lo (n+1) m
 match r.1 with
 |some v=>pure v
 |none=>
  if r.2.2>0 then do
   reverseSlice' (lo+r.2.1-(r.2.2+1)) (lo+r.2.1)
   t3 lo r.2.1 m
  else t3 lo r.2.1 m
noncomputable def cR(lo m:Nat):StateT SortSt Sem (Option Nat):=do
 let r<-aL lo 1 m
 match r.1 with
 |some v=>pure v
 |none=>
  if (r.2==m)=true then pure (some r.2)
  else if r.2>1 then do
   let x<-ltAt' lo (lo+r.2-1)
   match x with
   |some c=>if c=true then pure (some r.2) else do
     reverseSlice' lo (lo+r.2)
     dP lo r.2 m
   |_=>pure none
  else dP lo r.2 m
theorem F9(lo m:Nat):countRun' lo m=cR lo m:=by kernel_rfl
noncomputable def pL(lo k:Nat):StateT SortSt Sem (Option Bool×Nat×Nat):=
 forIn [:k] ((none,0,k):Option Bool×Nat×Nat) λ_ r=>
  if r.2.1>=r.2.2 then pure (.done (none,r.2.1,r.2.2)) else do
   let x<-ltAt' (lo+k) (lo+(r.2.1+r.2.2)/2)
   match x with
   |some c=>if c=true then pure (.yield (none,r.2.1,(r.2.1+r.2.2)/2)) else pure (.yield (none,(r.2.1+r.2.2)/2+1,r.2.2))
   |_=>pure (.done (some false,r.2.1,r.2.2))
noncomputable def bS(lo n ok:Nat):StateT SortSt Sem Bool:=do
 let r<-forIn [max ok 1:n] ((none,()):Option Bool×Unit) λk _=>do
  let r<-pL lo k
  match r.1 with
  |some v=>pure (.done (some v,()))
  |none=>do
   moveDown' (lo+k) (lo+r.2.1)
   pure (.yield (none,()))
 match r.1 with
 |some v=>pure v
 |none=>pure true
theorem F3(lo n ok:Nat):binarySort' lo n ok=bS lo n ok:=by kernel_rfl
section
variable{O:KeyOrd}{ky:Keyed->O.α}{Mem:Keyed->Prop}
variable{prog:Program}{w:World}{A:Around}{E:Value->Shared->Prop}{κ:SortKind}{s:Shared}
theorem dW{β:Type}{a b:Nat}{b0:β}{f:Nat->β->StateT SortSt Sem (ForInStep β)}{Q:β->SortSt->Shared->Prop}(Inv:Nat->β->SortSt->Prop){dH:SortSt}(h0:Inv a b0 dH)
  (step:∀x c st,a<=x->x<b->Inv x c st->kasC (model prog w) A E (f x c) (λr ak s'=>s'=s/\match r with|.done b'=>Q b' ak s|.yield b'=>Inv (x+1) b' ak) st s)
  (fin:∀c st,Inv (max a b) c st->Q c st s):kasC (model prog w) A E (forIn [a:b] b0 f) Q dH s:=by
 have go:∀(n x:Nat)(c:β)(st:SortSt),x+n=max a b->a<=x->Inv x c st->kasC (model prog w) A E (forIn (List.range' x n) c f) Q st s:=by
  intro n
  induction n with
  |zero=>
   intro x c st hx hax hI;have e:x=max a b:=⋯
   subst e;exact kasC_nil (fin c st hI)
  |succ n ih=>
   intro x c st hx hax hI;rw[List.range'_succ];refine kasC_cons (Ua (step x c st hax ⋯ hI) (λr s' h'=>?_) λ_ _ e=>e);obtain⟨r,ak⟩:=r;obtain⟨rfl,h'⟩:=h';cases r with
   |done b'=>exact h'
   |yield b'=>exact ih (x+1) b' ak ⋯ ⋯ h'
 exact TX (go (b-a) a b0 dH ⋯ (Qb _) h0)
structure Bs(κ:SortKind)(P:Array (Nat×Nat×Nat))(lo:Nat)(b:Array Keyed)(st:SortSt):Prop where
 k:kindOf st=κ
 f:failedOf st=none
 p:pendingOf st=P
 pm:(arrOf st).toList.Perm b.toList
 lw:∀i,i<lo->kas_item (arrOf st) i=kas_item b i
variable{P:Array (Nat×Nat×Nat)}{lo:Nat}{b:Array Keyed}
theorem Bs.size{st:SortSt}(h:Bs κ P lo b st):(arrOf st).size=b.size:=by have:=h.pm.length_eq;simpa using this
theorem Bs.mem{st:SortSt}(h:Bs κ P lo b st)(hb:∀x∈b.toList,Mem x){i:Nat}(hi:i<b.size):Mem (kas_item (arrOf st) i):=by
 have Ay:i<(arrOf st).size:=by rw[h.size];exact hi
 refine hb _ (h.pm.mem_iff.mp ?_);have e:kas_item (arrOf st) i=(arrOf st)[i]:=by unfold kas_item;simp[Array.getD,Ay]
 rw[e];simp
theorem iW{p q:Array Keyed}{i j:Nat}(h:p[i]?=q[j]?):kas_item p i=kas_item q j:=by unfold kas_item;rw[QT,QT,h]
theorem iX{a:Array Keyed}{i j:Nat}(hj:j<=a.size)(k:Nat):kas_item (mirror a i j ((j-i)/2)) k=if i<=k/\k<j then kas_item a (i+j-1-k) else kas_item a k:=by
 have e:=getElem?_mirror_all (i:=i) hj k;by_cases h1:i<=k/\k<j
 ·rw[TN h1]at e ⊢;exact iW e
 ·rw[TM h1]at e ⊢;exact iW e
theorem kO{a:Array Keyed}{src d:Nat}(hs:src<a.size)(hd:d<=src)(k:Nat):
  kas_item (bubble a src d) k=if k=src-d then kas_item a src else if src-d<k/\k<=src then kas_item a (k-1) else kas_item a k:=by
 have e:=getElem?_bubble hs d hd k;by_cases h1:k=src-d
 ·rw[TN h1]at e ⊢;exact iW e
 ·rw[TM h1]at e ⊢;by_cases h2:src-d<k/\k<=src
  ·rw[TN h2]at e ⊢;exact iW e
  ·rw[TM h2]at e ⊢;exact iW e
theorem Bs.rev{st:SortSt}(h:Bs κ P lo b st){i j:Nat}(hi:lo<=i)(hj:j<=b.size):Bs κ P lo b (setArr st (mirror (arrOf st) i j ((j-i)/2))):=
 ⟨h.k,h.f,h.p,(Array.perm_iff_toList_perm.mp (mirror_perm _ _ _ _)).trans h.pm,λk hk=>by
  have:=iX (a:=arrOf st) (i:=i) (j:=j) (by rw[h.size];exact hj) k;rw[TM ⋯]at this;exact this.trans (h.lw k hk)⟩
theorem Bs.NP{st:SortSt}(h:Bs κ P lo b st){c d:Nat}(hs:c<b.size)(hd:lo+d<=c):Bs κ P lo b (setArr st (bubble (arrOf st) c d)):=
 ⟨h.k,h.f,h.p,(Array.perm_iff_toList_perm.mp (bubble_perm _ _ _)).trans h.pm,λk hk=>by
  have:=kO (a:=arrOf st) (src:=c) (d:=d) (by rw[h.size];exact hs) ⋯ k;rw[TM ⋯,TM ⋯]at this;exact this.trans (h.lw k hk)⟩
theorem iZ(T:Tells prog w A κ s O ky Mem)(hb:∀x∈b.toList,Mem x){st:SortSt}(h:Bs κ P lo b st){i j:Nat}(hi:i<b.size)(hj:j<b.size){Q:Option Bool->SortSt->Shared->Prop}
  (q:Q (some (O.blt (ky (kas_item (arrOf st) i)) (ky (kas_item (arrOf st) j)))) st s):kasC (model prog w) A E (ltAt' i j) Q st s:=by
 rw[ltAt'_eq];refine Qa (TR ?_);dsimp only;exact Qa (aS (aG (by rw[h.size];exact hi)) (Qa (aS (aG (by rw[h.size];exact hj)) (p8 T (h.mem hb hi) (h.mem hb hj) h.k q))))
noncomputable def Up(O:KeyOrd)(ky:Keyed->O.α)(lo:Nat)(a:Array Keyed)(n:Nat):Prop:=∀i j,lo<=i->i<=j->j<lo+n->O.kle (ky (kas_item a i)) (ky (kas_item a j))
noncomputable def Dn(O:KeyOrd)(ky:Keyed->O.α)(lo:Nat)(a:Array Keyed)(n:Nat):Prop:=∀i j,lo<=i->i<=j->j<lo+n->O.kle (ky (kas_item a j)) (ky (kas_item a i))
noncomputable def J4(O:KeyOrd)(ky:Keyed->O.α)(lo:Nat)(a:Array Keyed)(n q:Nat):Prop:=∀k,lo+n-(q+1)<=k->k<lo+n->ky (kas_item a k)=ky (kas_item a (lo+n-1))
theorem Up.succ{a:Array Keyed}{n:Nat}(h:Up O ky lo a n)(h1:1<=n)(h2:O.kle (ky (kas_item a (lo+n-1))) (ky (kas_item a (lo+n)))):Up O ky lo a (n+1):=λi j hi eT hj=>by
 by_cases e:j=lo+n
 ·subst e;by_cases e2:i=lo+n
  ·subst e2;exact Ry _
  ·exact Qx (h i (lo+n-1) hi ⋯ ⋯) h2
 ·exact h i j hi eT ⋯
theorem Dn.succ{a:Array Keyed}{n:Nat}(h:Dn O ky lo a n)(h1:1<=n)(h2:O.kle (ky (kas_item a (lo+n))) (ky (kas_item a (lo+n-1)))):Dn O ky lo a (n+1):=λi j hi eT hj=>by
 by_cases e:j=lo+n
 ·subst e;by_cases e2:i=lo+n
  ·subst e2;exact Ry _
  ·exact Qx h2 (h i (lo+n-1) hi ⋯ ⋯)
 ·exact h i j hi eT ⋯
theorem Dn.of{a c:Array Keyed}{n:Nat}(e:∀k,ky (kas_item c k)=ky (kas_item a k))(h:Dn O ky lo a n):Dn O ky lo c n:=λi j x y z=>by rw[e,e];exact h i j x y z
theorem Up.one(a:Array Keyed):Up O ky lo a 1:=λi j x y z=>by rw[show i=j by lia];exact Ry _
theorem Dn.one(a:Array Keyed):Dn O ky lo a 1:=λi j x y z=>by rw[show i=j by lia];exact Ry _
theorem xl{a:Array Keyed}{i j:Nat}(hj:j<=a.size)(he:∀k,i<=k->k<j->ky (kas_item a k)=ky (kas_item a (j-1)))(k:Nat):ky (kas_item (mirror a i j ((j-i)/2)) k)=ky (kas_item a k):=by
 rw[iX hj];split
 ·rename_i h;rw[he (i+j-1-k) ⋯ ⋯,he k h.1 h.2]
 ·rfl
theorem zo{a:Array Keyed}{n:Nat}(hn:lo+n<=a.size)(h:Dn O ky lo a n):Up O ky lo (mirror a lo (lo+n) ((lo+n-lo)/2)) n:=λi j hi eT hj=>by rw[iX hn,iX hn,TN ⋯,TN ⋯];exact h _ _ ⋯ ⋯ ⋯
theorem BO(T:Tells prog w A κ s O ky Mem)(hb:∀x∈b.toList,Mem x){st:SortSt}(h:Bs κ P lo b st){n m:Nat}(hz:lo+m<=b.size)(h1:1<=n)(hn:n<=m)(hu:Up O ky lo (arrOf st) n){Q:AscSt->SortSt->Shared->Prop}
  (q:∀k,n<=k->k<=m->Up O ky lo (arrOf st) k->(k<m->O.blt (ky (kas_item (arrOf st) (lo+k))) (ky (kas_item (arrOf st) (lo+k-1)))=true)->Q (none,k) st s):kasC (model prog w) A E (aL lo n m) Q st s:=by
 unfold aL;refine dW (λx r ak=>st=ak/\r=(none,x)/\Up O ky lo (arrOf st) x) ⟨rfl,rfl,hu⟩ (λx r ak hx1 yb hI=>?_) (λr ak hI=>?_)
 ·obtain⟨rfl,rfl,hu⟩:=hI;dsimp only;refine Qa (iZ T hb h ⋯ ⋯ ?_);dsimp only;cases c:O.blt (ky (kas_item (arrOf st) (lo+x))) (ky (kas_item (arrOf st) (lo+x-1))) with
  |true=>rw[TN rfl];exact Qe ⟨rfl,q x hx1 ⋯ hu λ_=>c⟩
  |false=>rw[TM (by simp)];exact Qe ⟨rfl,rfl,rfl,hu.succ ⋯ c⟩
 ·obtain⟨rfl,rfl,hu⟩:=hI;rw[show max n m=m by lia]at hu ⊢;exact q m hn (Qb _) hu λz=>absurd z ⋯
theorem oF{i j:Nat}{st:SortSt}{Q:Unit->SortSt->Shared->Prop}(q:Q () (setArr st (mirror (arrOf st) i j ((j-i)/2))) s):kasC (model prog w) A E (reverseSlice' i j) Q st s:=by rw[reverseSlice'_eq];exact TV q
theorem Gd(T:Tells prog w A κ s O ky Mem)(hb:∀x∈b.toList,Mem x){st:SortSt}(h:Bs κ P lo b st){n m:Nat}(hz:lo+m<=b.size)(h1:1<=n)(hn:n<=m)(hd:Dn O ky lo (arrOf st) n){Q:DescSt->SortSt->Shared->Prop}
  (q:∀ak k e,Bs κ P lo b ak->n<=k->k<=m->e+1<=k->Dn O ky lo (arrOf ak) k->J4 O ky lo (arrOf ak) k e->Q (none,k,e) ak s):kasC (model prog w) A E (dL lo n m) Q st s:=by
 unfold dL;have one:∀(a:Array Keyed)(k:Nat),1<=k->J4 O ky lo a k 0:=λa k hk j x y=>by rw[show j=lo+k-1 by lia]
 refine dW (λx r ak=>∃e,r=(none,x,e)/\Bs κ P lo b ak/\e+1<=x/\Dn O ky lo (arrOf ak) x/\J4 O ky lo (arrOf ak) x e) ⟨0,rfl,h,by lia,hd,one _ _ h1⟩ (λx r ak hx1 yb hI=>?_) (λr ak hI=>?_)
 ·obtain⟨e,rfl,h,he,hd,hq⟩:=hI;have mJ:=h.size;dsimp only;refine Qa (iZ T hb h ⋯ ⋯ ?_);dsimp only;cases c:O.blt (ky (kas_item (arrOf ak) (lo+x))) (ky (kas_item (arrOf ak) (lo+x-1))) with
  |true=>
   rw[TN rfl];have qM:=hd.succ ⋯ (Rw c);by_cases d:e>0
   ·rw[TN d];refine Qa (oF (Qe ⟨rfl,0,rfl,h.rev ⋯ ⋯,by lia,?_,one _ _ ⋯⟩));exact Dn.of (xl ⋯ hq) qM
   ·rw[TM d];exact Qe ⟨rfl,0,rfl,h,by lia,qM,one _ _ ⋯⟩
  |false=>
   rw[TM (by simp)];refine Qa (iZ T hb h ⋯ ⋯ ?_);dsimp only;cases d:O.blt (ky (kas_item (arrOf ak) (lo+x-1))) (ky (kas_item (arrOf ak) (lo+x))) with
   |true=>rw[TN rfl];exact Qe ⟨rfl,q ak x e h hx1 ⋯ he hd hq⟩
   |false=>
    rw[TM (by simp)];have heq:ky (kas_item (arrOf ak) (lo+x))=ky (kas_item (arrOf ak) (lo+x-1)):=O.total _ _ c d;refine Qe ⟨rfl,e+1,rfl,h,by lia,hd.succ ⋯ (by rw[heq];exact Ry _),λk k1 k2=>?_⟩;rw[show lo+(x+1)-1=lo+x by lia];by_cases z:k=lo+x
    ·rw[z]
    ·rw[hq k ⋯ ⋯,heq]
 ·obtain⟨e,rfl,h,he,hd,hq⟩:=hI;rw[show max n m=m by lia]at hd hq he ⊢;exact q ak m e h hn (Qb _) he hd hq
theorem Cq(T:Tells prog w A κ s O ky Mem)(hb:∀x∈b.toList,Mem x){st:SortSt}(h:Bs κ P lo b st){n m:Nat}(hz:lo+m<=b.size)(h1:1<=n)(hn:n<=m)(hd:Dn O ky lo (arrOf st) n){Q:Option Nat->SortSt->Shared->Prop}
  (q:∀ak k,Bs κ P lo b ak->1<=k->k<=m->Up O ky lo (arrOf ak) k->Q (some k) ak s):kasC (model prog w) A E (t3 lo n m) Q st s:=by
 unfold t3;have mJ:=h.size;refine Qa (oF (Qa (BO T hb (h.rev (Qb _) ⋯) hz h1 hn (zo ⋯ hd) λk k1 k2 ku _=>?_)));exact Qe (q _ k (h.rev (Qb _) ⋯) ⋯ k2 ku)
theorem BY(T:Tells prog w A κ s O ky Mem)(hb:∀x∈b.toList,Mem x){st:SortSt}(h:Bs κ P lo b st){n m:Nat}(hz:lo+m<=b.size)(h1:1<=n)(hn:n+1<=m)(hd:Dn O ky lo (arrOf st) (n+1)){Q:Option Nat->SortSt->Shared->Prop}
  (q:∀ak k,Bs κ P lo b ak->1<=k->k<=m->Up O ky lo (arrOf ak) k->Q (some k) ak s):kasC (model prog w) A E (dP lo n m) Q st s:=by
 unfold dP;refine Qa (TU (Uh ?_));refine Qa (Gd T hb h hz ⋯ hn hd λak k e h' k1 k2 ke kd kq=>?_);dsimp only;have mJ:=h'.size;by_cases d:e>0
 ·rw[TN d];exact Qa (oF (Cq T hb (h'.rev ⋯ ⋯) hz ⋯ k2 (Dn.of (xl ⋯ kq) kd) q))
 ·rw[TM d];exact Cq T hb h' hz ⋯ k2 kd q
theorem Ga(T:Tells prog w A κ s O ky Mem)(hb:∀x∈b.toList,Mem x){st:SortSt}(h:Bs κ P lo b st){m:Nat}(hz:lo+m<=b.size)(h1:1<=m){Q:Option Nat->SortSt->Shared->Prop}
  (q:∀ak k,Bs κ P lo b ak->1<=k->k<=m->Up O ky lo (arrOf ak) k->Q (some k) ak s):kasC (model prog w) A E (countRun' lo m) Q st s:=by
 rw[F9];unfold cR;have mJ:=h.size;refine Qa (BO T hb h hz (Qb _) h1 (Up.one _) λn n1 n2 nu nl=>?_);dsimp only;by_cases e:(n==m)=true
 ·rw[TN e];exact Qe (q _ n h n1 n2 nu)
 ·rw[TM e];have e':n≠m:=by simpa using e
  have cK:=nl ⋯;by_cases hn:n>1
  ·rw[TN hn];refine Qa (iZ T hb h ⋯ ⋯ ?_);dsimp only;cases c:O.blt (ky (kas_item (arrOf st) lo)) (ky (kas_item (arrOf st) (lo+n-1))) with
   |true=>rw[TN rfl];exact Qe (q _ n h n1 n2 nu)
   |false=>
    rw[TM (by simp)];have all:∀k,lo<=k->k<lo+n->ky (kas_item (arrOf st) k)=ky (kas_item (arrOf st) (lo+n-1)):=λk k1 k2=>by refine KeyOrd.kle_antisymm (nu k (lo+n-1) k1 ⋯ ⋯) (Qx (show O.kle (ky (kas_item (arrOf st) (lo+n-1))) (ky (kas_item (arrOf st) lo)) from c) (nu lo k (Qb _) k1 k2))
    refine Qa (oF (BY T hb (h.rev (Qb _) ⋯) hz n1 ⋯ (Dn.of (xl ⋯ all) (Dn.succ (λi j hi eT hj=>?_) n1 (Rw cK))) q));rw[all i hi ⋯,all j ⋯ hj];exact Ry _
  ·rw[TM hn];have e1:n=1:=⋯
   subst e1;exact BY T hb h hz n1 ⋯ (Dn.succ (Dn.one _) n1 (Rw cK)) q
theorem HH(T:Tells prog w A κ s O ky Mem)(hb:∀x∈b.toList,Mem x){st:SortSt}(h:Bs κ P lo b st){k:Nat}(hz:lo+k<b.size)(hu:Up O ky lo (arrOf st) k){Q:Option Bool×Nat×Nat->SortSt->Shared->Prop}
  (q:∀l r,l<=k->(∀i,lo<=i->i<lo+l->O.kle (ky (kas_item (arrOf st) i)) (ky (kas_item (arrOf st) (lo+k))))->(∀i,lo+l<=i->i<lo+k->O.klt (ky (kas_item (arrOf st) (lo+k))) (ky (kas_item (arrOf st) i)))->Q (none,l,r) st s):kasC (model prog w) A E (pL lo k) Q st s:=by
 unfold pL;refine dW (λx c ak=>st=ak/\∃l r,c=(none,l,r)/\l<=r/\r<=k/\r-l<=k-x/\(∀i,lo<=i->i<lo+l->O.kle (ky (kas_item (arrOf st) i)) (ky (kas_item (arrOf st) (lo+k))))/\(∀i,lo+r<=i->i<lo+k->O.klt (ky (kas_item (arrOf st) (lo+k))) (ky (kas_item (arrOf st) i))))
  ⟨rfl,0,k,rfl,by lia,by lia,by lia,λi a c=>absurd a ⋯,λi a c=>absurd a ⋯⟩ (λx r ak hx1 yb hI=>?_) (λr ak hI=>?_)
 ·obtain⟨rfl,l,r,rfl,lr,rk,rl,og,zK⟩:=hI;dsimp only;by_cases c:l>=r
  ·rw[TN c];have e:l=r:=⋯
   subst e;exact Qe ⟨rfl,q l l rk og zK⟩
  ·rw[TM c];refine Qa (iZ T hb h ⋯ ⋯ ?_);dsimp only;cases d:O.blt (ky (kas_item (arrOf st) (lo+k))) (ky (kas_item (arrOf st) (lo+(l+r)/2))) with
   |true=>rw[TN rfl];exact Qe ⟨rfl,rfl,l,(l+r)/2,rfl,by lia,by lia,by lia,og,λi i1 i2=>RA d (hu _ _ ⋯ i1 i2)⟩
   |false=>rw[TM (by simp)];exact Qe ⟨rfl,rfl,(l+r)/2+1,r,rfl,by lia,by lia,by lia,λi i1 i2=>Qx (hu i (lo+(l+r)/2) i1 ⋯ ⋯) d,zK⟩
 ·obtain⟨rfl,l,r,rfl,lr,rk,rl,og,zK⟩:=hI;have e:l=r:=⋯
  subst e;exact q l l rk og zK
theorem F4(T:Tells prog w A κ s O ky Mem)(hb:∀x∈b.toList,Mem x){st:SortSt}(h:Bs κ P lo b st){n k:Nat}(hz:lo+n<=b.size)(h1:1<=k)(hk:k<=n)(hu:Up O ky lo (arrOf st) k){Q:Bool->SortSt->Shared->Prop}
  (q:∀ak,Bs κ P lo b ak->Up O ky lo (arrOf ak) n->Q true ak s):kasC (model prog w) A E (binarySort' lo n k) Q st s:=by
 rw[F3];unfold bS;refine Qa (dW (λx c ak=>c=(none,())/\Bs κ P lo b ak/\Up O ky lo (arrOf ak) x) ⟨rfl,h,by rw[show max k 1=k by lia];exact hu⟩ (λx r ak hx1 yb hI=>?_) (λr ak hI=>?_))
 ·obtain⟨rfl,h,hu⟩:=hI;have mJ:=h.size;refine Qa (HH T hb h ⋯ hu λl r hl og zK=>?_);dsimp only;rw[moveDown'_eq];refine Qa (TV (Qe ⟨rfl,rfl,h.NP ⋯ ⋯,λi j hi eT hj=>?_⟩));show O.kle (ky (kas_item (bubble (arrOf ak) (lo+x) (lo+x-(lo+l))) i)) (ky (kas_item (bubble (arrOf ak) (lo+x) (lo+x-(lo+l))) j));rw[kO ⋯ ⋯,kO ⋯ ⋯,show lo+x-(lo+x-(lo+l))=lo+l by lia]
  repeat' split
  all_goals first
   |(exfalso;lia)
   |exact Ry _
   |exact og _ ⋯ ⋯
   |exact Rw (zK _ ⋯ ⋯)
   |exact hu _ _ ⋯ ⋯ ⋯
 ·obtain⟨rfl,h,hu⟩:=hI;rw[show max (max k 1) n=n by lia]at hu;exact Qe (q _ h hu)
end
noncomputable def LO(size pw:Nat):StateT SortSt Sem (Option Unit×Unit):=
 forIn [:size] ((none,()):Option Unit×Unit) λ_ _=>do
  let st<-get
  match (if (pendingOf st).size>1 then(pendingOf st)[(pendingOf st).size-2]? else none) with
  |some (_,_,older)=>
   if older<=pw then pure (.done (none,())) else do
    let ok<-Hq ((pendingOf st).size-2)
    if (!ok)=true then pure (.done (some (),())) else pure (.yield (none,()))
  |_=>pure (.done (none,()))
noncomputable def Jj(size lo n:Nat):StateT SortSt Sem (ForInStep (Option Unit×Nat)):=do
 let st<-get
 match (pendingOf st).back? with
 |some (s1,n1,_)=>do
  let r<-LO size (power' size (2*s1+n1) (2*s1+n1+n1+n) size)
  match r.1 with
  |some v=>pure (.done (some v,lo))
  |none=>do
   modify λs=>setPending s ((pendingOf s).modify ((pendingOf s).size-1) λ(st,len,_)=>(st,len,power' size (2*s1+n1) (2*s1+n1+n1+n) size))
   modify λs=>setPending s ((pendingOf s).push (lo,n,0))
   pure (.yield (none,lo+n))
 |_=>do
  modify λs=>setPending s ((pendingOf s).push (lo,n,0))
  pure (.yield (none,lo+n))
noncomputable def ID(size mr lo:Nat):StateT SortSt Sem (ForInStep (Option Unit×Nat)):=
 if lo>=size then pure (.done (none,lo)) else do
  let f<-countRun' lo (size-lo)
  match f with
  |some n=>
   if n<mr then do
    rule "list.sort.binary-insertion"
    let ok<-binarySort' lo (min (size-lo) mr) n
    if (!ok)=true then pure (.done (some (),lo)) else Jj size lo (min (size-lo) mr)
   else Jj size lo n
  |_=>pure (.done (some (),lo))
noncomputable def ix(p:Array (Nat×Nat×Nat)):Nat:=if (if p.size-2>0 then p[p.size-2-1]?.map (·.2.1) else none).any (· < (p[p.size-2+1]?.elim 0 (·.2.1))) then p.size-2-1 else p.size-2
noncomputable def JK(size:Nat):StateT SortSt Sem (Option Unit×Unit):=
 forIn [:size] ((none,()):Option Unit×Unit) λ_ _=>do
  let st<-get
  if (pendingOf st).size<=1 then pure (.done (none,())) else do
   let ok<-Hq (ix (pendingOf st))
   if (!ok)=true then pure (.done (some (),())) else pure (.yield (none,()))
noncomputable def sR:StateT SortSt Sem Unit:=do
 let st<-get
 let r<-forIn [:(arrOf st).size] ((none,0):Option Unit×Nat) λ_ r=>ID (arrOf st).size (minRun' (arrOf st).size (arrOf st).size 0) r.2
 match r.1 with
 |some v=>pure v
 |none=>do
  let r<-JK (arrOf st).size
  match r.1 with
  |some v=>pure v
  |none=>pure ()
theorem Ib:sortRuns'=sR:=by kernel_rfl
section
variable{O:KeyOrd}{ky:Keyed->O.α}{Mem:Keyed->Prop}
variable{prog:Program}{w:World}{A:Around}{E:Value->Shared->Prop}{κ:SortKind}{s:Shared}{a:Array Keyed}
theorem Up.IA{b:Array Keyed}{n:Nat}(hn:b.size=n)(h:Up O ky 0 b n):iK O ky b.toList:=by
 refine SD.mpr λi j hi hj eT=>?_
 have e:∀k,(h:k<b.size)->kas_item b k=b.toList[k]'(by simpa using h):=λk h=>by unfold kas_item;simp[Array.getD,h]
 have pO:j<b.size:=by simpa using hj
 rw[<-e i ⋯,<-e j pO];exact h i j ⋯ ⋯ ⋯
end
section
variable{O:KeyOrd}{ky:Keyed->O.α}{Mem:Keyed->Prop}
variable{prog:Program}{w:World}{A:Around}{E:Value->Shared->Prop}{κ:SortKind}{s:Shared}
theorem item_list(b:Array Keyed)(t:Nat):kas_item b t=b.toList.getD t (Value.none,Value.none):=by unfold kas_item;simp[Array.getD,List.getD];split<;>simp_all
theorem EZ{l:List Keyed}(h:iK O ky l){i j:Nat}(eT:i<=j)(hj:j<l.length):le O ky (l.getD i (Value.none,Value.none)) (l.getD j (Value.none,Value.none)):=by
 rcases Nat.lt_or_ge i j with c|c
 ·have:=SD.mp h i j ⋯ hj c;rw[R0,R0,Qu hj,Qu ⋯];exact this
 ·have e:i=j:=⋯
  subst e;exact Ry _
theorem xF{l m:List Keyed}{d:Keyed}{i:Nat}(h:i<l.length):(l++m).getD i d=l.getD i d:=by rw[R0,R0,QM h]
theorem xG{l m:List Keyed}{d:Keyed}{i:Nat}(h:l.length<=i):(l++m).getD i d=m.getD (i-l.length) d:=by rw[R0,R0,QN h]
theorem Lz(T:Tells prog w A κ s O ky Mem){a:Array Keyed}{P:Array (Nat×Nat×Nat)}{i p n1 n2 pw z g:Nat}(Of:P[i]?=some (p,n1,pw))(KU:P[i+1]?=some (p+n1,n2,z))(mJ:p+n1+n2<=a.size)(h1:1<=n1)(h2:1<=n2)(hm:∀i,i<a.size->Mem (kas_item a i))
  (sA:∀i j,p<=i->i<=j->j<p+n1->le O ky (kas_item a i) (kas_item a j)) (sB:∀i j,p+n1<=i->i<=j->j<p+n1+n2->le O ky (kas_item a i) (kas_item a j))
  {Q:Bool->SortSt->Shared->Prop} (q:∀ak:SortSt,kindOf ak=κ->pendingOf ak=(P.setIfInBounds i (p,n1+n2,pw)).eraseIdxIfInBounds (i+1)->failedOf ak=none->(arrOf ak).toList.Perm a.toList->Up O ky p (arrOf ak) (n1+n2)->
   (∀t,t<p\/p+n1+n2<=t->kas_item (arrOf ak) t=kas_item a t)->Q true ak s):
  kasC (model prog w) A E (Hq i) Q (SortSt.mk' κ a P g none) s:=by
 rw[DS];refine Qa (TR ?_);dsimp only;have e0:(pendingOf (SortSt.mk' κ a P g none))[i]?=some (p,n1,pw):=Of;have e1:(pendingOf (SortSt.mk' κ a P g none))[i+1]?=some (p+n1,n2,z):=KU;rw[e0,e1];dsimp only;refine Qa (yf ?_);refine Qa (aS (aG (x:=a) (show p+n1<a.size by lia)) (Qa ?_));refine jr T (λt=>kas_item a (p+t)) (λt ht=>aG (x:=a) ⋯) (λt ht=>hm _ ⋯) (hm (p+n1) ⋯) ⋯ (λi j eT hj hb=>?_) rfl (λk hk1 cK lS=>?_)
 ·unfold et at hb ⊢;rw[TM (by simp)]at hb ⊢;have:=sA (p+i) (p+j) ⋯ ⋯ ⋯;cases zz:O.blt (ky (kas_item a (p+n1))) (ky (kas_item a (p+i))) with
  |false=>rfl
  |true=>have z2:O.blt (ky (kas_item a (p+n1))) (ky (kas_item a (p+j)))=true:=RA zz this;have nZ:(!O.blt (ky (kas_item a (p+n1))) (ky (kas_item a (p+j))))=true:=hb;rw[z2]at nZ;cases nZ
 have lo:∀t,p<=t->t<p+k->le O ky (kas_item a t) (kas_item a (p+n1)):=λt h0 ht=>by have zz:=cK (t-p) ⋯;unfold et at zz;rw[TM (by simp)]at zz;have z2:(!O.blt (ky (kas_item a (p+n1))) (ky (kas_item a (p+(t-p)))))=true:=zz;rw[show p+(t-p)=t by lia]at z2;show O.blt (ky (kas_item a (p+n1))) (ky (kas_item a t))=false;simpa using z2
 have up:∀t,p+k<=t->t<p+n1->O.blt (ky (kas_item a (p+n1))) (ky (kas_item a t))=true:=λt h1 h2=>by have zz:=lS (t-p) ⋯ ⋯;unfold et at zz;rw[TM (by simp)]at zz;have z2:(!O.blt (ky (kas_item a (p+n1))) (ky (kas_item a (p+(t-p)))))=false:=zz;rw[show p+(t-p)=t by lia]at z2;simpa using z2
 have zd:∀b:Array Keyed,(∀i j,i<j->j<b.size->le O ky (kas_item b i) (kas_item b j))->iK O ky b.toList:=λb hb=>by
  refine SD.mpr λi j hi hj eT=>?_
  have e:∀k,(h:k<b.size)->kas_item b k=b.toList[k]'(by simpa using h):=λk h=>by unfold kas_item;simp[Array.getD,h]
  rw[<-e i (by simpa using hi),<-e j (by simpa using hj)];exact hb i j eT (by simpa using hj)
 dsimp only;by_cases c:(n1-k==0)=true
 ·rw[TN c];have c':n1-k=0:=by simpa using c
  refine Qe (q _ rfl rfl rfl (RC _) (λi j hi eT hj=>?_) λt _=>rfl);by_cases ci:j<p+n1
  ·exact sA i j hi eT ci
  ·by_cases cj:i<p+n1
   ·exact Qx (lo i hi ⋯) (sB (p+n1) j (Qb _) ⋯ ⋯)
   ·exact sB i j ⋯ ⋯ ⋯
 ·rw[TM c];have c':¬n1-k=0:=by simpa using c
  refine Qa (aS (aG (x:=a) (show p+k+(n1-k)-1<a.size by lia)) (Qa ?_));have el:p+k+(n1-k)-1=p+n1-1:=⋯
  refine jr T (λt=>kas_item a (p+n1+t)) (λt ht=>aG (x:=a) ⋯) (λt ht=>hm _ ⋯) (hm _ ⋯) ⋯ (λi j eT hj hb=>?_) rfl (λm hm1 hmlt hmge=>?_)
  ·unfold et at hb ⊢;rw[TN rfl]at hb ⊢;exact Rz (sB (p+n1+i) (p+n1+j) ⋯ ⋯ ⋯) hb
  have NO:∀t,p+n1<=t->t<p+n1+m->O.blt (ky (kas_item a t)) (ky (kas_item a (p+n1-1)))=true:=λt h1 h2=>by have zz:=hmlt (t-(p+n1)) ⋯;unfold et at zz;rw[TN rfl,el]at zz;have z2:O.blt (ky (kas_item a (p+n1+(t-(p+n1))))) (ky (kas_item a (p+n1-1)))=true:=zz;rw[show p+n1+(t-(p+n1))=t by lia]at z2;exact z2
  have MF:∀t,p+n1+m<=t->t<p+n1+n2->le O ky (kas_item a (p+n1-1)) (kas_item a t):=λt h1 h2=>by have zz:=hmge (t-(p+n1)) ⋯ ⋯;unfold et at zz;rw[TN rfl,el]at zz;have z2:O.blt (ky (kas_item a (p+n1+(t-(p+n1))))) (ky (kas_item a (p+n1-1)))=false:=zz;rw[show p+n1+(t-(p+n1))=t by lia]at z2;exact z2
  have m0:m≠0:=λe=>by have z1:=MF (p+n1) ⋯ ⋯;have z2:=up (p+n1-1) ⋯ ⋯;exact KeyOrd.not_klt_of_kle z1 z2
  dsimp only;rw[TM (by simpa using m0)];have gx:∀t,t<n1-k->kas_item (a.extract (p+k) (p+n1)) t=kas_item a (p+k+t):=λt ht=>by unfold kas_item;simp[Array.getD,show t<p+n1-(p+k) by lia,show p+k+t<a.size by lia,show min (p+n1) a.size=p+n1 by lia]
  have gy:∀t,t<m->kas_item (a.extract (p+n1) (p+n1+m)) t=kas_item a (p+n1+t):=λt ht=>by unfold kas_item;simp[Array.getD,show p+n1+t<a.size by lia,show min (p+n1+m) a.size=p+n1+m by lia,ht]
  have sx:(a.extract (p+k) (p+n1)).size=n1-k:=by simp;lia
  have sy:(a.extract (p+n1) (p+n1+m)).size=m:=by simp;lia
  have MM:MP O ky Mem (a.extract (p+k) (p+n1)) (a.extract (p+n1) (p+n1+m)):=by
   refine⟨zd _ λi j eT hj=>?_,zd _ λi j eT hj=>?_,λi hi=>?_,λi hi=>?_,by lia,by lia,?_,λj hj=>?_⟩
   ·rw[gx i ⋯,gx j ⋯];exact sA _ _ ⋯ ⋯ ⋯
   ·rw[gy i ⋯,gy j ⋯];exact sB _ _ ⋯ ⋯ ⋯
   ·rw[gx i ⋯];exact hm _ ⋯
   ·rw[gy i ⋯];exact hm _ ⋯
   ·rw[gx 0 ⋯,gy 0 ⋯];exact up (p+k) (Qb _) ⋯
   ·rw[sx,gx (n1-k-1) ⋯,gy j ⋯,show p+k+(n1-k-1)=p+n1-1 by lia];exact NO _ ⋯ ⋯
  have lx:(a.extract (p+k) (p+n1)).toList=(a.toList.drop (p+k)).take (n1-k):=by have:=tM a (k:=p+k) (i:=p+n1);rw[show p+n1-(p+k)=n1-k by lia]at this;exact this
  have ly:(a.extract (p+n1) (p+n1+m)).toList=(a.toList.drop (p+n1)).take m:=kG a (p+n1) m;have fin:∀(v:Array Keyed)(ak:SortSt),kindOf ak=κ->arrOf ak=a->pendingOf ak=(P.setIfInBounds i (p,n1+n2,pw)).eraseIdxIfInBounds (i+1)->failedOf ak=none->qQ O ky (a.extract (p+k) (p+n1)).toList (a.extract (p+n1) (p+n1+m)).toList v.toList->
    kasC (model prog w) A E (do
     modify λt=>SortSt.mk' (kindOf t) (back v (p+k) (arrOf t)) (pendingOf t) (gallopOf t) (failedOf t)
     let t<-get
     pure (failedOf t).isNone) Q ak s:=λv ak k1 k2 k3 k4 hv=>by
   refine Qa (TV (Qa (TR (Qe ?_))));obtain⟨vp,vs⟩:=hv;have vl:v.toList.length=n1-k+m:=by
    rw[vp.length_eq,Qm];simp only[Qq]
    lia
   have bl:(back v (p+k) a).toList=a.toList.take (p+k)++v.toList++a.toList.drop (p+n1+m):=by
    have:=mw v.toList (p+k) 0 a ⋯;unfold back;refine Eq.trans ?_ (this.trans ?_)
    ·rfl
    ·rw[Nat.add_zero,vl,show p+k+(n1-k+m)=p+n1+m by lia]
   have al:a.toList.length=a.size:=Qq;have Pe:a.toList=a.toList.take (p+k)++((a.toList.drop (p+k)).take (n1-k)++(a.toList.drop (p+n1)).take m)++a.toList.drop (p+n1+m):=by have b1:=kz (l:=a.toList) (i:=p+n1) (k:=p+k) ⋯;rw[show p+n1-(p+k)=n1-k by lia]at b1;rw[Qk,Qk,<-cQ (l:=a.toList) (i:=p+n1) (k:=m),<-b1,SN]
   have pm:(back v (p+k) a).toList.Perm a.toList:=by
    rw[bl]
    conv=>rhs;rw[Pe]
    rw[lx,ly]at vp;exact((RC _).append vp).append (RC _)
   have LA:∀e∈v.toList,(∃t,p+k<=t/\t<p+n1/\e=kas_item a t)\/(∃t,p+n1<=t/\t<p+n1+m/\e=kas_item a t):=λe he=>by
    rw[lx,ly]at vp;rcases Qs.mp (vp.mem_iff.mp he)with he|he
    ·obtain⟨t,t1,t2,t3,rfl⟩:=a9 he;exact .inl ⟨t,t1,by lia,rfl⟩
    ·obtain⟨t,t1,t2,t3,rfl⟩:=a9 he;exact .inr ⟨t,t1,by lia,rfl⟩
   have Fv:∀t,t<p+k->kas_item (back v (p+k) a) t=kas_item a t:=λt ht=>by rw[item_list,item_list,bl,Qk,xF (by rw[Sh];lia)];rw[R0,R0,R5 ht]
   have at2:∀t,p+k<=t->t<p+n1+m->kas_item (back v (p+k) a) t=v.toList.getD (t-(p+k)) (Value.none,Value.none):=λt h1 h2=>by
    have hl:(a.toList.take (p+k)).length=p+k:=by rw[Sh];lia
    rw[item_list,bl,Qk,xG ⋯,hl,xF ⋯]
   have Kf:∀t,p+n1+m<=t->kas_item (back v (p+k) a) t=kas_item a t:=λt h1=>by
    have hl:(a.toList.take (p+k)++v.toList).length=p+n1+m:=by rw[Qm,Sh];lia
    rw[item_list,item_list,bl,xG ⋯,hl];rw[R0,R0,List.getElem?_drop];congr 2
    lia
   have vG:∀t,p+k<=t->t<p+n1+m->(∃u,p+k<=u/\u<p+n1/\kas_item (back v (p+k) a) t=kas_item a u)\/(∃u,p+n1<=u/\u<p+n1+m/\kas_item (back v (p+k) a) t=kas_item a u):=λt h1 h2=>by rw[at2 t h1 h2];refine LA _ ?_;rw[R0,Qu ⋯];exact R6 _
   have ss:Up O ky p (back v (p+k) a) (n1+n2):=λi j hi eT hj=>by
    show le O ky (kas_item (back v (p+k) a) i) (kas_item (back v (p+k) a) j);by_cases c1:j<p+k
    ·rw[Fv i ⋯,Fv j c1];exact sA i j hi eT ⋯
    by_cases c2:j<p+n1+m
    ·by_cases c3:i<p+k
     ·rw[Fv i c3];rcases vG j ⋯ c2 with ⟨u,u1,u2,e⟩|⟨u,u1,u2,e⟩
      ·rw[e];exact sA i u hi ⋯ u2
      ·rw[e];exact Qx (lo i hi c3) (sB (p+n1) u (Qb _) u1 ⋯)
     ·rw[at2 i ⋯ ⋯,at2 j ⋯ c2];exact EZ vs ⋯ ⋯
    ·rw[Kf j ⋯];by_cases c3:i<p+k
     ·rw[Fv i c3];exact Qx (lo i hi c3) (sB (p+n1) j (Qb _) ⋯ ⋯)
     by_cases c4:i<p+n1+m
     ·rcases vG i ⋯ c4 with ⟨u,u1,u2,e⟩|⟨u,u1,u2,e⟩
      ·rw[e];exact Qx (sA u (p+n1-1) ⋯ ⋯ ⋯) (MF j ⋯ ⋯)
      ·rw[e];exact sB u j u1 ⋯ ⋯
     ·rw[Kf i ⋯];exact sB i j ⋯ eT ⋯
   have qq:=q (SortSt.mk' (kindOf ak) (back v (p+k) (arrOf ak)) (pendingOf ak) (gallopOf ak) (failedOf ak)) k1 k3 k4 (by rw[k2];exact pm) (by rw[k2];exact ss) (λt ht=>by
    show kas_item (back v (p+k) (arrOf ak)) t=_;rw[k2];rcases ht with ht|ht
    ·exact Fv t ⋯
    ·exact Kf t ⋯)
   have e:(failedOf ak).isNone=true:=by rw[k4];rfl
   show Q (failedOf ak).isNone _ s;rw[e];exact qq
  by_cases d:n1-k<=m
  ·rw[TN d];refine Qa (AY T MM rfl λv ak si hv=>?_);exact fin v ak si.1 si.2.1 si.2.2.1 si.2.2.2 hv
  ·rw[TM d];refine Qa (AW T MM rfl λv ak si hv=>?_);exact fin v ak si.1 si.2.1 si.2.2.1 si.2.2.2 hv
end
section
variable{O:KeyOrd}{ky:Keyed->O.α}{Mem:Keyed->Prop}
variable{prog:Program}{w:World}{A:Around}{E:Value->Shared->Prop}{κ:SortKind}{s:Shared}{a:Array Keyed}
noncomputable def Rn(O:KeyOrd)(ky:Keyed->O.α)(b:Array Keyed):List (Nat×Nat×Nat)->Nat->Nat->Prop
 |[],lo,hi=>lo=hi
 |x::r,lo,hi=>x.1=lo/\1<=x.2.1/\Up O ky lo b x.2.1/\Rn O ky b r (lo+x.2.1) hi
theorem Rn.le{b:Array Keyed}:∀{l:List (Nat×Nat×Nat)}{lo hi:Nat},Rn O ky b l lo hi->lo+l.length<=hi
 |[],lo,hi,h=>by have h:lo=hi:=h;simp;lia
 |x::r,lo,hi,h=>by
  obtain⟨_,h2,_,h4⟩:=h;have:=Rn.le h4;simp only[Qo]
  lia
theorem Rn.app{b:Array Keyed}:∀{l m:List (Nat×Nat×Nat)}{lo hi:Nat},Rn O ky b (l++m) lo hi↔∃k,Rn O ky b l lo k/\Rn O ky b m k hi
 |[],m,lo,hi=>⟨λh=>⟨lo,rfl,h⟩,λ⟨k,h1,h2⟩=>by have h1:lo=k:=h1;subst h1;exact h2⟩
 |x::r,m,lo,hi=>by
  constructor
  ·rintro⟨h1,h2,h3,h4⟩;obtain⟨k,k1,k2⟩:=Rn.app.mp h4;exact⟨k,⟨h1,h2,h3,k1⟩,k2⟩
  ·rintro⟨k,⟨h1,h2,h3,h4⟩,k2⟩;exact⟨h1,h2,h3,Rn.app.mpr ⟨k,h4,k2⟩⟩
theorem Rn.congr{b c:Array Keyed}:∀{l:List (Nat×Nat×Nat)}{lo hi:Nat},Rn O ky b l lo hi->(∀t,lo<=t->t<hi->kas_item c t=kas_item b t)->Rn O ky c l lo hi
 |[],lo,hi,h,_=>h
 |x::r,lo,hi,⟨h1,h2,h3,h4⟩,e=>by have hl:=Rn.le h4;refine⟨h1,h2,λi j hi eT hj=>?_,Rn.congr h4 λt a b=>e t ⋯ b⟩;rw[e i ⋯ ⋯,e j ⋯ ⋯];exact h3 i j hi eT hj
structure Ru(O:KeyOrd)(ky:Keyed->O.α)(κ:SortKind)(a:Array Keyed)(lo:Nat)(st:SortSt):Prop where
 k:kindOf st=κ
 f:failedOf st=none
 pm:(arrOf st).toList.Perm a.toList
 rn:Rn O ky (arrOf st) (pendingOf st).toList 0 lo
theorem Ru.size{lo:Nat}{st:SortSt}(h:Ru O ky κ a lo st):(arrOf st).size=a.size:=by have:=h.pm.length_eq;simpa using this
theorem Ru.mem{lo:Nat}{st:SortSt}(h:Ru O ky κ a lo st)(hb:∀x∈a.toList,Mem x){i:Nat}(hi:i<(arrOf st).size):Mem (kas_item (arrOf st) i):=by refine hb _ (h.pm.mem_iff.mp ?_);unfold kas_item;simp[Array.getD,hi]
theorem EY{α:Type}{l:List α}{i:Nat}(h:i+1<l.length):∃l1 x y l2,l=l1++x::y::l2/\l1.length=i:=by refine⟨l.take i,l[i],l[i+1],l.drop (i+2),?_,by rw[Sh];lia⟩;rw[<-RJ h,<-RJ ⋯,SN]
theorem rm{P:Array (Nat×Nat×Nat)}{l1 l2:List (Nat×Nat×Nat)}{x y v:Nat×Nat×Nat}{i:Nat}(h:P.toList=l1++x::y::l2)(hi:l1.length=i):((P.setIfInBounds i v).eraseIdxIfInBounds (i+1)).toList=l1++v::l2:=by
 have mJ:P.size=l1.length+(l2.length+2):=by
  have:=TJ List.length h;simp at this
  lia
 have e1:(P.setIfInBounds i v).toList=l1++v::y::l2:=by rw[Array.toList_setIfInBounds,h,<-hi,List.set_append_right _ _ (Qb _)];simp
 unfold Array.eraseIdxIfInBounds;rw[dif_pos (by rw[Array.size_setIfInBounds];lia),Array.toList_eraseIdx,e1,<-hi];rw[List.eraseIdx_append_of_length_le ⋯];simp
theorem qr(T:Tells prog w A κ s O ky Mem)(hb:∀x∈a.toList,Mem x){lo i:Nat}{st:SortSt}(h:Ru O ky κ a lo st)(og:lo<=a.size)(hi:i+1<(pendingOf st).size){Q:Bool->SortSt->Shared->Prop}
  (q:∀ak,Ru O ky κ a lo ak->(pendingOf ak).size+1=(pendingOf st).size->(∀t,lo<=t->kas_item (arrOf ak) t=kas_item (arrOf st) t)->Q true ak s):kasC (model prog w) A E (Hq i) Q st s:=by
 obtain⟨l1,x,y,l2,hl,hlen⟩:=EY (l:=(pendingOf st).toList) (i:=i) (by simpa using hi);have mJ:=h.size;have rn:=h.rn;rw[hl]at rn;obtain⟨p,r1,r2⟩:=Rn.app.mp rn;obtain⟨xp,xn,xw⟩:=x;obtain⟨yp,yn,yw⟩:=y;obtain⟨e1,x1,x2,e2,y1,y2,r3⟩:=r2;have e1:xp=p:=e1;have e2:yp=p+xn:=e2;subst e1 e2;have h3:=r3.le;simp only at x1 x2 y1 y2 r3 h3;have eP:∀j,(pendingOf st)[j]?=(l1++(xp,xn,xw)::(xp+xn,yn,yw)::l2)[j]?:=λj=>by rw[<-hl,Array.getElem?_toList]
 have g1:(pendingOf st)[i]?=some (xp,xn,xw):=by rw[eP,QN ⋯,show i-l1.length=0 by lia];rfl
 have g2:(pendingOf st)[i+1]?=some (xp+xn,yn,yw):=by rw[eP,QN ⋯,show i+1-l1.length=1 by lia];rfl
 have Jo:st=SortSt.mk' κ (arrOf st) (pendingOf st) (gallopOf st) none:=by have e:st=SortSt.mk' (kindOf st) (arrOf st) (pendingOf st) (gallopOf st) (failedOf st):=rfl;rw[h.k,h.f]at e;exact e
 have z:=Lz (E:=E) T (a:=arrOf st) (P:=pendingOf st) (g:=gallopOf st) g1 g2 ⋯ x1 y1 (λi hi=>h.mem hb hi) (λi j a b c=>x2 i j a b c) (λi j a b c=>y2 i j a b c) (Q:=Q) λak k1 k2 k3 k4 k5 k6=>?_
 ·rw[<-Jo]at z;exact z
 ·have ee:=rm (v:=(xp,xn+yn,xw)) hl hlen;refine q ak ⟨k1,k3,k4.trans h.pm,?_⟩ ?_ λt ht=>k6 t (.inr ⋯)
  ·rw[k2,ee];refine Rn.app.mpr ⟨xp,r1.congr λt _ ht=>k6 t (.inl ht),rfl,by show 1<=xn+yn;lia,k5,?_⟩;have:Rn O ky (arrOf ak) l2 (xp+xn+yn) lo:=r3.congr λt ht _=>k6 t (.inr ht)
   rw[Nat.add_assoc]at this;exact this
  ·rw[k2,<-Qq,ee,<-Qq,hl];simp
   lia
theorem EC(T:Tells prog w A κ s O ky Mem)(hb:∀x∈a.toList,Mem x){lo size pw:Nat}{st:SortSt}(h:Ru O ky κ a lo st)(og:lo<=a.size)(hp:1<=(pendingOf st).size){Q:Option Unit×Unit->SortSt->Shared->Prop}
  (q:∀ak,Ru O ky κ a lo ak->1<=(pendingOf ak).size->(∀t,lo<=t->kas_item (arrOf ak) t=kas_item (arrOf st) t)->Q (none,()) ak s):kasC (model prog w) A E (LO size pw) Q st s:=by
 unfold LO;refine dW (λ_ c ak=>c=(none,())/\Ru O ky κ a lo ak/\1<=(pendingOf ak).size/\∀t,lo<=t->kas_item (arrOf ak) t=kas_item (arrOf st) t) ⟨rfl,h,hp,λ_ _=>rfl⟩ (λx c ak _ _ hI=>?_) (λc ak hI=>?_)
 ·obtain⟨rfl,h',AC,he⟩:=hI;refine Qa (TR ?_);by_cases c1:(pendingOf ak).size>1
  ·rw[TN c1];have:(pendingOf ak)[(pendingOf ak).size-2]?=some (pendingOf ak)[(pendingOf ak).size-2]:=by simp
   rw[this];dsimp only;by_cases c2:(pendingOf ak)[(pendingOf ak).size-2].2.2<=pw
   ·rw[TN c2];exact Qe ⟨rfl,q _ h' AC he⟩
   ·rw[TM c2];refine Qa (qr T hb h' og ⋯ λd5 h2 s2 e2=>?_);rw[TM (by simp)];exact Qe ⟨rfl,rfl,h2,by lia,λt ht=>(e2 t ht).trans (he t ht)⟩
  ·rw[TM c1];exact Qe ⟨rfl,q _ h' AC he⟩
 ·obtain⟨rfl,h',AC,he⟩:=hI;exact q _ h' AC he
theorem Rn.LN{b:Array Keyed}{l:List (Nat×Nat×Nat)}{x y:Nat×Nat×Nat}{lo hi:Nat}(h:Rn O ky b (l++[x]) lo hi)(e1:y.1=x.1)(e2:y.2.1=x.2.1):Rn O ky b (l++[y]) lo hi:=by obtain⟨k,k1,h1,h2,h3,h4⟩:=Rn.app.mp h;exact Rn.app.mpr ⟨k,k1,e1.trans h1,by rw[e2];exact h2,by rw[e2];exact h3,by rw[e2];exact h4⟩
theorem snoc{α:Type}{P:Array α}(h:1<=P.size):∃l x,P.toList=l++[x]/\P.back?=some x:=by
 have cM:P.toList≠[]:=λz=>by have:=TJ List.length z;simp at this;rw[this]at h;simp at h
 refine⟨P.toList.dropLast,P.toList.getLast cM,(RI cM).symm,?_⟩;rw[<-Array.getLast?_toList,List.getLast?_eq_some_getLast cM]
theorem jI{α:Type}(f:α->α):∀(l:List α)(x:α),(l++[x]).modify l.length f=l++[f x]
 |[],x=>rfl
 |y::l,x=>by show y::(l++[x]).modify l.length f=y::(l++[f x]);rw[jI f l x]
theorem wu(T:Tells prog w A κ s O ky Mem)(hb:∀x∈a.toList,Mem x){size lo n:Nat}{st:SortSt}(h:Ru O ky κ a lo st)(og:lo<=a.size)(hn:1<=n)(hu:Up O ky lo (arrOf st) n)(h0:1<=(pendingOf st).size\/lo=0){Q:ForInStep (Option Unit×Nat)->SortSt->Shared->Prop}
  (q:∀ak,Ru O ky κ a (lo+n) ak->1<=(pendingOf ak).size->Q (.yield (none,lo+n)) ak s):kasC (model prog w) A E (Jj size lo n) Q st s:=by
 unfold Jj;refine Qa (TR ?_);by_cases hp:1<=(pendingOf st).size
 ·obtain⟨l,x,hl,Os⟩:=snoc hp;rw[Os];obtain⟨s1,n1,w1⟩:=x;dsimp only;refine Qa (EC T hb h og hp λd5 h2 p2 e2=>?_);dsimp only;obtain⟨l2,x2,eU,Ot⟩:=snoc p2;have OY:(pendingOf d5).size=l2.length+1:=by
   have:=TJ List.length eU;simp at this
   lia
  refine Qa (TV (Qa (TV (Qe (q _ ⟨h2.k,h2.f,h2.pm,?_⟩ ?_)))))
  ·show Rn O ky (arrOf d5) (((pendingOf d5).modify ((pendingOf d5).size-1) _).push (lo,n,0)).toList 0 (lo+n);rw[Array.toList_push,Array.toList_modify,eU,OY];have em:(l2++[x2]).modify (l2.length+1-1) (λ(x:Nat×Nat×Nat)=>(x.1,x.2.1,power' size (2*s1+n1) (2*s1+n1+n1+n) size))=l2++[(x2.1,x2.2.1,power' size (2*s1+n1) (2*s1+n1+n1+n) size)]:=by rw[Nat.add_sub_cancel];exact jI _ _ _
   rw[show (λ(x:Nat×Nat×Nat)=>match x with|(st,len,_)=>(st,len,power' size (2*s1+n1) (2*s1+n1+n1+n) size))=λ(x:Nat×Nat×Nat)=>(x.1,x.2.1,power' size (2*s1+n1) (2*s1+n1+n1+n) size) from rfl,em];have rn:=h2.rn;rw[eU]at rn;refine Rn.app.mpr ⟨lo,rn.LN rfl rfl,rfl,hn,λi j hi eT hj=>?_,rfl⟩;rw[e2 i hi,e2 j ⋯];exact hu i j hi eT hj
  ·show 1<=(((pendingOf d5).modify ((pendingOf d5).size-1) _).push (lo,n,0)).size;rw[Array.size_push]
   lia
 ·have hz:(pendingOf st).size=0:=⋯
  have e:(pendingOf st).back?=none:=by rw[Array.back?_eq_none_iff];exact QS hz
  rw[e];have K7:lo=0:=h0.resolve_left hp;subst K7;refine Qa (TV (Qe (q _ ⟨h.k,h.f,h.pm,?_⟩ ?_)))
  ·show Rn O ky (arrOf st) ((pendingOf st).push (0,n,0)).toList 0 (0+n);rw[Array.toList_push,QS hz];exact⟨rfl,hn,hu,rfl⟩
  ·show 1<=((pendingOf st).push (0,n,0)).size;rw[Array.size_push]
   lia
theorem E2(T:Tells prog w A κ s O ky Mem)(hb:∀x∈a.toList,Mem x){mr lo:Nat}{st:SortSt}(h:Ru O ky κ a lo st)(og:lo<a.size)(hm:1<=mr)(h0:1<=(pendingOf st).size\/lo=0){Q:ForInStep (Option Unit×Nat)->SortSt->Shared->Prop}
  (q:∀ak n,1<=n->lo+n<=a.size->Ru O ky κ a (lo+n) ak->1<=(pendingOf ak).size->Q (.yield (none,lo+n)) ak s):kasC (model prog w) A E (ID a.size mr lo) Q st s:=by
 unfold ID;rw[TM ⋯];have mJ:=h.size;have nZ:∀x∈(arrOf st).toList,Mem x:=λx hx=>hb x (h.pm.mem_iff.mp hx)
 have b0:Bs κ (pendingOf st) lo (arrOf st) st:=⟨h.k,h.f,rfl,RC _,λ_ _=>rfl⟩;have NC:∀{ak:SortSt},Bs κ (pendingOf st) lo (arrOf st) ak->Ru O ky κ a lo ak:=λb=>⟨b.k,b.f,b.pm.trans h.pm,by rw[b.p];exact h.rn.congr λt _ ht=>b.lw t ht⟩
 refine Qa (Ga T nZ b0 (m:=a.size-lo) ⋯ ⋯ λak k b' k1 k2 ku=>?_);dsimp only;by_cases c:k<mr
 ·rw[TN c];refine Qa (TU (Uh ?_));refine Qa (F4 T nZ b' (n:=min (a.size-lo) mr) ⋯ k1 ⋯ ku λd5 b2 u2=>?_);rw[TM (by simp)];exact wu T hb (NC b2) ⋯ ⋯ u2 (by rw[b2.p];exact h0) λFJ h3 p3=>q FJ _ ⋯ ⋯ h3 p3
 ·rw[TM c];exact wu T hb (NC b') ⋯ ⋯ ku (by rw[b'.p];exact h0) λFJ h3 p3=>q FJ _ ⋯ ⋯ h3 p3
theorem Hg{P:Array (Nat×Nat×Nat)}(h:1<P.size):ix P+1<P.size:=by
 have key:ix P=P.size-2-1\/ix P=P.size-2:=by
  unfold ix;generalize Option.any _ _=b;cases b
  ·exact .inr rfl
  ·exact .inl rfl
 rcases key with e|e<;>lia
theorem DX(T:Tells prog w A κ s O ky Mem)(hb:∀x∈a.toList,Mem x){st:SortSt}(h:Ru O ky κ a a.size st){Q:Option Unit×Unit->SortSt->Shared->Prop}
  (q:∀ak,Ru O ky κ a a.size ak->(pendingOf ak).size<=1->Q (none,()) ak s):kasC (model prog w) A E (JK a.size) Q st s:=by
 unfold JK;have hle:=h.rn.le;simp at hle;refine dW (λx c ak=>c=(none,())/\Ru O ky κ a a.size ak/\(pendingOf ak).size<=max 1 (a.size-x)) ⟨rfl,h,by lia⟩ (λx c ak _ hx hI=>?_) (λc ak hI=>?_)
 ·obtain⟨rfl,h',hp⟩:=hI;refine Qa (TR ?_);by_cases c1:(pendingOf ak).size<=1
  ·rw[TN c1];exact Qe ⟨rfl,q _ h' c1⟩
  ·rw[TM c1];refine Qa (qr T hb h' (Qb _) (Hg ⋯) λd5 h2 s2 _=>?_);rw[TM (by simp)];exact Qe ⟨rfl,rfl,h2,by lia⟩
 ·obtain⟨rfl,h',hp⟩:=hI;exact q _ h' ⋯
theorem kW:∀(f n r:Nat),1<=n->1<=minRun' f n r
 |0,n,r,h=>by
  have e:minRun' 0 n r=n+r:=by kernel_rfl
  rw[e];lia
 |f+1,n,r,h=>by
  rw[minRun'_succ];split
  ·lia
  ·exact kW f (n/2) _ ⋯
theorem EK(T:Tells prog w A κ s O ky Mem)(hb:∀x∈a.toList,Mem x)(h2:2<=a.size){g:Nat}{Q:Unit->SortSt->Shared->Prop}
  (q:∀ak:SortSt,failedOf ak=none->(arrOf ak).toList.Perm a.toList->iK O ky (arrOf ak).toList->Q () ak s):kasC (model prog w) A E sortRuns' Q (SortSt.mk' κ a #[] g none) s:=by
 rw[Ib];unfold sR;refine Qa (TR ?_);have Nl:=kW a.size a.size 0 ⋯;show kasC _ _ _ (do
  let r<-forIn [:a.size] ((none,0):Option Unit×Nat) λ_ r=>ID a.size (minRun' a.size a.size 0) r.2
  match r.1 with
  |some v=>pure v
  |none=>do
   let r<-JK a.size
   match r.1 with
   |some v=>pure v
   |none=>pure ()) _ _ _
 generalize minRun' a.size a.size 0=mr at Nl ⊢;refine Qa (bR (Q:=λr ak s'=>s=s'/\r.1=none/\Ru O ky κ a a.size ak) (dW (λx c ak=>∃lo,c=(none,lo)/\x<=lo/\lo<=a.size/\Ru O ky κ a lo ak/\(1<=(pendingOf ak).size\/lo=0)) ⟨0,rfl,Qb _,by lia,⟨rfl,rfl,RC _,rfl⟩,.inr rfl⟩ (λx c ak _ hx hI=>?_) (λc ak hI=>?_)) (λr ak s' hI=>?_))
 ·obtain⟨lo,rfl,OW,og,h,h0⟩:=hI;by_cases c:lo<a.size
  ·exact E2 T hb h c Nl h0 λd5 n n1 n2 h2 p2=>⟨rfl,lo+n,rfl,by lia,n2,h2,.inl p2⟩
  ·have e:lo=a.size:=⋯
   subst e;unfold ID;rw[TN (Qb _)];exact Qe ⟨rfl,rfl,rfl,h⟩
 ·obtain⟨lo,rfl,OW,og,h,h0⟩:=hI;have e:lo=a.size:=⋯
  subst e;exact⟨rfl,rfl,h⟩
 ·obtain⟨rfl,e,h⟩:=hI;obtain⟨r1,r2⟩:=r;cases e;refine Qa (DX T hb h λd5 g1 g2=>Qe (q d5 g1.f g1.pm ?_));have rn:=g1.rn
  match hl:(pendingOf d5).toList,rn with
  |[],rn=>have rn:0=a.size:=rn;lia
  |[x],rn=>obtain⟨_,_,u,e⟩:=rn;have e:0+x.2.1=a.size:=e;exact Up.IA (g1.size.trans ⋯) u
  |x::y::r,_=>
   exfalso;have:=TJ List.length hl;simp at this
   lia
end
end MxTim
end
section
namespace Mx
open PySem PySem.W PySem.Spec PyProof.Rows L2 PySem.SeqAt MxSort
theorem qi{α β:Type}{f:α->β}{l l':List β}(h:l.Perm l'):∀r:List α,l=r.map f->∃p:List α,p.Perm r/\l'=p.map f:=by
 induction h with
 |nil=>intro r e;exact⟨r,RC _,e⟩
 |cons x h ih=>
  intro r e;cases r with
  |nil=>cases e
  |cons y r=>rw[QO]at e;injection e with e1 e2;obtain⟨p,p1,p2⟩:=ih r e2;exact⟨y::p,p1.cons y,by rw[QO,e1,p2]⟩
 |swap x y l=>
  intro r e;cases r with
  |nil=>cases e
  |cons a r=>
   cases r with
   |nil=>rw[QO]at e;injection e with e1 e2;cases e2
   |cons b r=>rw[QO,QO]at e;injection e with e1 e2;injection e2 with e3 e4;exact⟨b::a::r,List.Perm.swap a b r,by rw[QO,QO,e1,e3,e4]⟩
 |trans h1 h2 ih1 ih2=>intro r e;obtain⟨p,p1,p2⟩:=ih1 r e;obtain⟨q,q1,q2⟩:=ih2 p p2;exact⟨q,q1.trans p1,q2⟩
section
variable{prog:Program}{w:World}{A:Around}{E:Value->Shared->Prop}{s:Shared}
noncomputable def CD{O:KeyOrd}(vs:List Value)(key:Nat->O.α):Prop:=∀i j,i<vs.length->j<vs.length->vs.getD i Value.none=vs.getD j Value.none->key i=key j
open Classical in
noncomputable def DO{O:KeyOrd}(vs:List Value)(key:Nat->O.α)(k:Keyed):O.α:=if h:∃i,i<vs.length/\vs.getD i Value.none=k.1 then key (Classical.choose h) else key 0
theorem j4{O:KeyOrd}{vs:List Value}{key:Nat->O.α}(hi:CD vs key){i:Nat}(h:i<vs.length)(v:Value):DO vs key (vs.getD i Value.none,v)=key i:=by unfold DO;have ex:∃j,j<vs.length/\vs.getD j Value.none=((vs.getD i Value.none,v):Keyed).1:=⟨i,h,rfl⟩;rw[dif_pos ex];have z:=Classical.choose_spec ex;exact hi _ _ z.1 h z.2
theorem qJ(vs:List Value):(vs.toArray.zip vs.toArray).toList=(List.range vs.length).map λi=>(vs.getD i Value.none,vs.getD i Value.none):=by
 refine List.ext_getElem (by simp) λi h1 h2=>?_
 simp at h1;simp[h1]
theorem EH{κ:SortKind}{vs:List Value}{O:KeyOrd}{key:Nat->O.α}(T:Tells O key (kas_ask prog w A κ vs) vs.length s)(hi:CD vs key)(h2:2<=vs.length)(N4:vs.length<1000000){Q:SortSt->Shared->Prop}
  (hG:∀(p:Array Nat)(ak:SortSt),Ord vs.length p->Up key p vs.length->(arrOf ak).map (·.2)=(p.toList.map λi=>vs.getD i Value.none).toArray->failedOf ak=none->Q ak s):
  wpAny (model prog w) A ((sortRuns').run (SortSt.mk' κ (vs.toArray.zip vs.toArray) #[] 7 none)) (λr s'=>Q r.2 s') E s:=by
 have hz:(vs.toArray.zip vs.toArray).size=vs.length:=by simp
 have T':MxTim.Tells prog w A κ s O (DO vs key) (λk=>∃i,i<vs.length/\k=(vs.getD i Value.none,vs.getD i Value.none)):=by rintro x y ⟨i,Ay,rfl⟩ ⟨j,pO,rfl⟩ C hC;rw[j4 hi Ay,j4 hi pO]at hC;exact T i j Ay pO C hC
 have run:=MxTim.EK (E:=E) T' (a:=vs.toArray.zip vs.toArray) (λx hx=>by
   rw[qJ]at hx;obtain⟨i,i1,i2⟩:=QF.mp hx;exact⟨i,QR.mp i1,i2.symm⟩) ⋯ (g:=7) (Q:=λ_ ak s'=>Q ak s') (λak f pm IA=>?_)
 ·exact run
 ·rw[qJ]at pm;obtain⟨p,p1,p2⟩:=qi pm.symm (List.range vs.length) rfl;have hl:p.length=vs.length:=by rw[p1.length_eq,Sb]
  have cK:∀i∈p,i<vs.length:=λi hi=>QR.mp (p1.mem_iff.mp hi)
  refine hG p.toArray ak (by unfold MxSort.Ord;exact p1) (λi j eT hj=>?_) ?_ f
  ·by_cases e:i=j
   ·subst e;exact Ry _
   ·unfold MxTim.iK at IA;rw[p2,SE,SD]at IA;have z:=IA i j ⋯ ⋯ ⋯;unfold MxTim.le at z;rw[j4 hi (cK _ (R6 _)),j4 hi (cK _ (R6 _))]at z;unfold rF;rw[show p.toArray.getD i 0=p[i] by simp[Array.getD,show i<p.length by lia],show p.toArray.getD j 0=p[j] by simp[Array.getD,show j<p.length by lia]];exact z
  ·apply QW.mp;rw[Array.toList_map,p2,Sl];rfl
theorem zc{a:Addr}{vs:List Value}{n:Nat}{P:PySem.Fin->Shared->Prop}(ho:s.heap.get? a=some (seqObj "list" vs.toArray n))(N6:vs.length<1000000){O:KeyOrd}{key:Nat->O.α}
  (hk:2<=vs.length->∀h',(∀b o,b≠a->s.heap.get? b=some o->h'.get? b=some o)->∃κ:SortKind,(∀(Q:SortKind->Shared->Prop)(E:Value->Shared->Prop),Q κ {s with heap:=h'}->wpAny (model prog w) A (keyKind' vs.toArray) Q E {s with heap:=h'})/\
   Tells O key (kas_ask prog w A κ vs) vs.length {s with heap:=h'}/\CD vs key)
  (h:∀(p:Array Nat)(h':Heap)(e:Nat),Ord vs.length p->Up key p vs.length->(∀b o,b≠a->s.heap.get? b=some o->h'.get? b=some o)->h'.get? a=some (seqObj "list" (p.toList.map λi=>vs.getD i Value.none).toArray e)->
   P (.done (.ret .none)) {s with heap:=h'}):wpAny (model prog w) A (Builtin.«list.sort» ⟨[.ref a],[]⟩) P E s:=by
 have ha:a<s.heap.objs.size:=Qg ho;have B7:vs.length<=sizeLine:=by rw[T4];lia
 rw[list_sort_plain];refine PY (listItems_at ho rfl (PY (listUpdate_at ho rfl ?_ (by rw[P6];exact B7) (Tj _))));obtain⟨e1,M9⟩:∃e1,(s.heap.update a (Obj.mapSeq λ_=>(#[]:Array Value))).get? a=some (seqObj "list" #[] e1):=⟨_,get?_update_seq ho λ_=>#[]⟩;refine PY (seqEpoch_at M9 rfl (PY (wpAny_newTuple ?_ B7)));refine PY (wpAny_newList (T9 ?_) (Tj _));show wpAny (model prog w) A _ P E {s with heap:=((s.heap.update a (Obj.mapSeq λ_=>(#[]:Array Value))).push (seqObj "tuple" vs.toArray 0)).push (seqObj "list" #[] 0)};generalize hh:((s.heap.update a (Obj.mapSeq λ_=>(#[]:Array Value))).push (seqObj "tuple" vs.toArray 0)).push (seqObj "list" #[] 0)=h1;have k1:∀b o,b≠a->s.heap.get? b=some o->h1.get? b=some o:=λb o hb e=>by rw[<-hh];exact P0 _ (P0 _ ((Qy s.heap _ (Tn hb)).trans e))
 have K1:h1.get? a=some (seqObj "list" #[] e1):=by rw[<-hh];exact P0 _ (P0 _ M9)
 dsimp only;have fin:∀(ak:SortSt)(p:Array Nat),Ord vs.length p->Up key p vs.length->(arrOf ak).map (·.2)=(p.toList.map λi=>vs.getD i Value.none).toArray->failedOf ak=none->
   wpAny (model prog w) A (do
    let touched:=(<-seqEpoch a) != e1
    Builtin.List.listUpdate (.ref a) λ_=>(arrOf ak).map (·.2)
    if let some e:=failedOf ak then rule "list.sort.comparison-raised";throw e
    if touched then rule "list.sort.modified";raiseError "ValueError" "list modified during sort"
    ret .none) P E {s with heap:=h1}:=λak p hp hu Dy hf=>by
  refine PY (seqEpoch_at (s:={s with heap:=h1}) K1 rfl ?_);have mJ:(p.toList.map λi=>vs.getD i Value.none).toArray.size=vs.length:=by rw[P6,Qf,Qq,hp.size]
  rw[Dy];refine PY (listUpdate_at (s:={s with heap:=h1}) K1 rfl ?_ (Tj _) (by rw[mJ];lia));rw[hf];simp only[bne_self_eq_false,Q1,TL];obtain⟨c2,qL⟩:∃c2,(h1.update a (Obj.mapSeq λ_=>(p.toList.map λi=>vs.getD i Value.none).toArray)).get? a=some (seqObj "list" (p.toList.map λi=>vs.getD i Value.none).toArray c2):=⟨_,get?_update_seq K1 λ_=>_⟩;exact P4 (h p _ c2 hp hu (λb o hb e=>(Qy h1 _ (Tn hb)).trans (k1 b o hb e)) qL)
 by_cases h2:2<=vs.length
 ·have pP:¬vs.toArray.size<2:=by rw[P6];lia
  rw[TM pP,TM pP];obtain⟨κ,Oz,T,hi⟩:=hk h2 h1 k1;refine PY (Oz _ _ ?_);refine PY (Ua (EH (s:={s with heap:=h1}) (Q:=λak s'=>s'={s with heap:=h1}/\∃p:Array Nat,Ord vs.length p/\Up key p vs.length/\(arrOf ak).map (·.2)=(p.toList.map λi=>vs.getD i Value.none).toArray/\failedOf ak=none) T hi h2 N6
   (λp ak hp hu ho hf=>⟨rfl,p,hp,hu,ho,hf⟩)) ?_ λ_ _ e=>e)
  rintro⟨⟨⟩,ak⟩ s' ⟨rfl,p,hp,hu,Dy,hf⟩;exact fin ak p hp hu Dy hf
 ·have pP:vs.toArray.size<2:=by rw[P6];lia
  rw[TN pP,TN pP];refine PY (P4 ?_);rw[StateT.run_pure];refine PY (P4 ?_);refine fin (SortSt.mk' general' (vs.toArray.zip vs.toArray) #[] 7 none) (List.range vs.length).toArray (by unfold MxSort.Ord;simp) (λi j eT hj=>?_) ?_ rfl
  ·rw[show i=j by lia];exact Ry _
  ·apply QW.mp;show (((vs.toArray.zip vs.toArray)).map (·.2)).toList=_
   match vs,h2 with
   |[],_=>simp
   |[v],_=>simp
   |_::_::_,h2=>exact absurd (by simp) h2
end
inductive SK where
 |tt|ts|ti|s|i
 deriving DecidableEq
noncomputable def SK.ok:SK->D->Prop
 |.tt,d=>∃f r,d= .tup (.tup f::r)
 |.ts,d=>∃f r,d= .tup (.str f::r)
 |.ti,d=>∃f r,d= .tup (.int f::r)
 |.s,d=>∃x,d= .str x
 |.i,d=>∃x,d= .int x
noncomputable def SK.κ:SK->SortKind
 |.tt=>tuples' false
 |.ts=>tuples' true
 |.ti=>tuples' true
 |.s=>oneType'
 |.i=>oneType'
noncomputable def SK.f:SK->String
 |.tt=>"tuple"
 |.ts=>"str"
 |.s=>"str"
 |_=>"int"
section
variable{P:Program}{w:World}{H:Hp}{prog:Program}{s:Shared}{A:Around}
theorem AN{b:Bool}{n m:Nat}{Q:Bool->Shared->Prop}{v wv:Value}{us vs:List Value}{d e:D}{ds es:List D}(z:Zp A s (v::us) (wv::vs) (d::ds) (e::es))
  (hs:b=true->∀{E:Value->Shared->Prop},wpAny (model prog w) A (oneLt' true v wv) (λr s'=>r=D.lt d e/\s'=s) E s)
  (hlen:ds.length+m=es.length+n) (q:Q (D.dm (d::ds) (e::es)) s):KatLex prog w A b (decide (n<m)) Q ((v::us).zip (wv::vs)) 0 s:=by
 cases z with
 |cons he hl z'=>
  rw[SY];rw[D.de]at q;refine kat_cons (he prog w _ _ ?_);by_cases hde:d=e
  ·rw[(D.cz d e).mpr hde];rw[TN hde]at q;exact kat_yes (AM z' 1 ⋯ hlen q)
  ·rw[show D.jV d e=false by rw[D.jW];exact Qv hde];rw[TM hde]at q;refine kat_no ?_;cases b with
   |false=>rw[show (false&&0==0)=false by rfl];exact kat_one v wv (hl hde prog w _ _ q)
   |true=>rw[show (true&&0==0)=true by rfl];exact Ua (hs rfl) (λr s'⟨e1,e2⟩=>by subst e1 e2;exact q) λ_ _ x=>x
theorem ou(hok:fv P w H s.heap){n:Nat}(hu:A.units+n<cLine){b:Bool}{d0 e0:D}{dr er:List D}{x y:V}{u v:Value}(hd:D.dep (.tup (d0::dr))<=n+1)(hl:D.cN (.tup (d0::dr)) (.tup (e0::er)))
  (hs:b=true->(∃p q,d0= .str p/\e0= .str q)\/∃p q,d0= .int p/\e0= .int q) (hx:DV H x (.tup (d0::dr))) (hy:DV H y (.tup (e0::er))) (rx:RelV x u) (ry:RelV y v) {Q:Bool->Shared->Prop} {E:Value->Shared->Prop}
  (q:Q (D.lt (.tup (d0::dr)) (.tup (e0::er))) s):wpAny (model prog w) A (keyLt' (tuples' b) u v) Q E s:=by
 obtain⟨a,xs,q1,e1,e2⟩:=hx.ae;subst q1;cases rx;obtain⟨b',ys,q1,f1,f2⟩:=hy.ae;subst q1;cases ry;obtain⟨its,r1,o,ho,hc,k,v7⟩:=ar hok e1;obtain⟨aM,r2,o2,pQ,qL,k2,lY⟩:=ar hok f1;obtain⟨x0,xr,rfl,FA,MQ⟩:=e2.cons_inv;obtain⟨y0,yr,rfl,MR,N3⟩:=f2.cons_inv;cases r1 with
 |cons r10 r1r=>
  cases r2 with
  |cons r20 r2r=>
   rename_i u0 ur v0 vr;have qM:D.dC (d0::dr)<=n:=by unfold D.dep at hd;lia
   have Ds:D.eY (d0::dr) (e0::er):=by unfold D.cN at hl;exact hl
   have zz:Zp A s (u0::ur) (v0::vr) (d0::dr) (e0::er):=zD hok hu (λd e x y u v hd2 eU yb hy2 rx2 ry2=>AS hok n d e x y u v A hd2 hu eU yb hy2 rx2 ry2) qM Ds e2 f2 (.cons r10 r1r) (.cons r20 r2r);refine kat_lt ho v7 pQ lY ?_;have l1:(u0::ur).toArray.size=(d0::dr).length:=by rw[P6,Qo,Qo,<-r1r.length,MQ.length]
   have l2:(v0::vr).toArray.size=(e0::er).length:=by rw[P6,Qo,Qo,<-r2r.length,N3.length]
   have q':Q (D.dm (d0::dr) (e0::er)) s:=by have z:=q;unfold D.lt at z;exact z
   refine AN zz (λhb=>?_) (by rw[l1,l2];simp only[Qo];lia) q';intro E';rcases hs hb with ⟨p,q2,rfl,rfl⟩|⟨p,q2,rfl,rfl⟩
   ·have z1:=FA.str_inv;have z2:=MR.str_inv;subst z1 z2;obtain⟨t,rfl⟩:=r10;obtain⟨t',rfl⟩:=r20;exact oneLt_str ⟨by unfold D.lt;rfl,rfl⟩
   ·have z1:=FA.int_inv;have z2:=MR.int_inv;subst z1 z2;obtain⟨t,rfl⟩:=r10;obtain⟨t',rfl⟩:=r20;exact oneLt_int ⟨by unfold D.lt;rfl,rfl⟩
theorem mM(x y:Value):keyLt' oneType' x y=oneLt' true x y:=rfl
theorem AQ(hok:fv P w H s.heap){n:Nat}(hu:A.units+n<cLine)(k:SK){d e:D}{x y:V}{u v:Value}(hd:D.dep d<=n+1)(hl:D.cN d e)(fd:k.ok d)(fe:k.ok e)(hx:DV H x d)(hy:DV H y e)(rx:RelV x u)(ry:RelV y v){Q:Bool->Shared->Prop}{E:Value->Shared->Prop}
  (q:Q (D.lt d e) s):wpAny (model prog w) A (keyLt' k.κ u v) Q E s:=by
 cases k with
 |tt=>obtain⟨f,r,rfl⟩:=fd;obtain⟨f',r',rfl⟩:=fe;exact ou (b:=false) hok hu hd hl (λz=>nomatch z) hx hy rx ry q
 |ts=>obtain⟨f,r,rfl⟩:=fd;obtain⟨f',r',rfl⟩:=fe;exact ou hok hu hd hl (λ_=>.inl ⟨_,_,rfl,rfl⟩) hx hy rx ry q
 |ti=>obtain⟨f,r,rfl⟩:=fd;obtain⟨f',r',rfl⟩:=fe;exact ou hok hu hd hl (λ_=>.inr ⟨_,_,rfl,rfl⟩) hx hy rx ry q
 |s=>obtain⟨f,rfl⟩:=fd;obtain⟨f',rfl⟩:=fe;have z1:=hx.str_inv;have z2:=hy.str_inv;subst z1 z2;obtain⟨t,rfl⟩:=rx;obtain⟨t',rfl⟩:=ry;show wpAny _ _ (keyLt' oneType' _ _) _ _ _;rw[mM];unfold D.lt at q;exact oneLt_str q
 |i=>obtain⟨f,rfl⟩:=fd;obtain⟨f',rfl⟩:=fe;have z1:=hx.int_inv;have z2:=hy.int_inv;subst z1 z2;obtain⟨t,rfl⟩:=rx;obtain⟨t',rfl⟩:=ry;show wpAny _ _ (keyLt' oneType' _ _) _ _ _;rw[mM];unfold D.lt at q;exact oneLt_int q
theorem ud(hok:fv P w H s.heap){k:SK}(hk:k= .tt\/k= .ts\/k= .ti):∀{xs:List V}{us:List Value}{ds:List D},bb H xs ds->au xs us->(∀d∈ds,k.ok d)->
  ∃fs,KatTups s.heap us fs/\fs.length=us.length/\∀v∈fs,Looks (model prog w) s.heap (typeOf v) (.type k.f)
 |[],us,ds,_,r,_=>by cases r;exact⟨[],KatTups.nil,rfl,λv hv=>absurd hv (by simp)⟩
 |x::xs,us,ds,h,r,hf=>by
  cases r with
  |cons r0 rr=>
   cases ds with
   |nil=>unfold bb at h;exact h.elim
   |cons d ds=>
    unfold bb at h;obtain⟨fs,t,l,lk⟩:=ud hok hk h.2 rr λd hd=>hf d (P9 _ hd)
    have sh:∃d0 dr,d= .tup (d0::dr)/\((k= .ts/\∃p,d0= .str p)\/(k= .ti/\∃p,d0= .int p)\/(k= .tt/\∃p,d0= .tup p)):=by
     have z:=hf d Qc;rcases hk with rfl|rfl|rfl
     ·obtain⟨f,r,rfl⟩:=z;exact⟨_,_,rfl,.inr (.inr ⟨rfl,_,rfl⟩)⟩
     ·obtain⟨f,r,rfl⟩:=z;exact⟨_,_,rfl,.inl ⟨rfl,_,rfl⟩⟩
     ·obtain⟨f,r,rfl⟩:=z;exact⟨_,_,rfl,.inr (.inl ⟨rfl,_,rfl⟩)⟩
    obtain⟨d0,dr,rfl,zI⟩:=sh;obtain⟨a,ys,q1,e1,e2⟩:=h.1.ae;subst q1;cases r0;obtain⟨its,r1,o,ho,hc,kk,v7⟩:=ar hok e1;obtain⟨x0,xr,rfl,FA,MQ⟩:=e2.cons_inv;cases r1 with
    |cons r10 r1r=>
     rename_i u0 ur;refine⟨u0::fs,KatTups.cons ho hc v7 (by simp) t,by simp[l],λv hv=>?_⟩;rcases Qi.mp hv with rfl|hv
     ·rcases zI with ⟨hb,p,rfl⟩|⟨hb,p,rfl⟩|⟨hb,p,rfl⟩
      ·have z1:=FA.str_inv;subst z1;obtain⟨t',rfl⟩:=r10;rw[hb];exact Looks.of_pure rfl
      ·have z1:=FA.int_inv;subst z1;obtain⟨t',rfl⟩:=r10;rw[hb];exact Looks.of_pure rfl
      ·obtain⟨a2,y2,q2,g1,g2⟩:=FA.ae;subst q2;cases r10;obtain⟨aM,_,o2,pQ,qL,_⟩:=ar hok g1;rw[hb];show Looks (model prog w) _ _ (Value.type "tuple");rw[<-qL];exact(Looks.ld pQ).andThen .now
     ·exact lk v hv
theorem uO:∀{xs:List V}{us:List Value}{ds:List D},bb H xs ds->au xs us->(∀d∈ds,SK.s.ok d)->∃ss,StrsAre us ss
 |[],us,ds,_,r,_=>by cases r;exact⟨[],.nil⟩
 |x::xs,us,ds,h,r,hf=>by
  cases r with
  |cons r0 rr=>
   cases ds with
   |nil=>unfold bb at h;exact h.elim
   |cons d ds=>
    unfold bb at h;obtain⟨ss,q⟩:=uO h.2 rr λd hd=>hf d (P9 _ hd)
    obtain⟨y,rfl⟩:=hf d Qc;have z1:=h.1.str_inv;subst z1;obtain⟨t,rfl⟩:=r0;exact⟨y::ss,.cons y t q⟩
theorem tY:∀{xs:List V}{us:List Value}{ds:List D},bb H xs ds->au xs us->(∀d∈ds,SK.i.ok d)->∃ss,IntsAre us ss
 |[],us,ds,_,r,_=>by cases r;exact⟨[],.nil⟩
 |x::xs,us,ds,h,r,hf=>by
  cases r with
  |cons r0 rr=>
   cases ds with
   |nil=>unfold bb at h;exact h.elim
   |cons d ds=>
    unfold bb at h;obtain⟨ss,q⟩:=tY h.2 rr λd hd=>hf d (P9 _ hd)
    obtain⟨y,rfl⟩:=hf d Qc;have z1:=h.1.int_inv;subst z1;obtain⟨t,rfl⟩:=r0;exact⟨y::ss,.cons y t q⟩
theorem Hj(hok:fv P w H s.heap)(k:SK){xs:List V}{us:List Value}{ds:List D}(hd:bb H xs ds)(r:au xs us)(hf:∀d∈ds,k.ok d)(h2:2<=us.length){Q:SortKind->Shared->Prop}{E:Value->Shared->Prop}(q:Q k.κ s):
  wpAny (model prog w) A (keyKind' us.toArray) Q E s:=by
 have tup:k= .tt\/k= .ts\/k= .ti->wpAny (model prog w) A (keyKind' us.toArray) Q E s:=λhk=>by obtain⟨fs,t,l,lk⟩:=ud (prog:=prog) hok hk hd r hf;refine kat_kind t ⋯ lk (by rcases hk with rfl|rfl|rfl<;>rfl) ?_;rcases hk with rfl|rfl|rfl<;>exact q
 cases k with
 |tt=>exact tup (.inl rfl)
 |ts=>exact tup (.inr (.inl rfl))
 |ti=>exact tup (.inr (.inr rfl))
 |s=>
  obtain⟨ss,hs⟩:=uO hd r hf
  match us,h2,hs with
  |v1::v2::vs,_,hs=>rw[keyKind_strs hs];exact P4 q
 |i=>
  obtain⟨ss,hs⟩:=tY hd r hf
  match us,h2,hs with
  |v1::v2::vs,_,hs=>rw[keyKind_ints hs];exact P4 q
end
noncomputable def ko(ds:List D):Prop:=ds.length<1000000/\(2<=ds.length->D.dC ds<=100/\(∃k:SK,∀d∈ds,k.ok d)/\∀d∈ds,∀e∈ds,D.cN d e)
section
variable{X:Cx}{pins:List (Addr×Obj)}{σ:L2.St}{H:Hp}
theorem vS{s:Shared}{A:Around}{Q:PySem.Fin->Shared->Prop}{E:Value->Shared->Prop}(hu:A.units+148<cLine)(I:Inv X pins σ H s){ys:List V}{its:List Value}{ds:List D}(rv:au ys its)(jF:bb H ys ds)(hc:ko ds)
  (q:∀(l:Addr)(zs:List V)(es:List D)(s':Shared),H l=none->bb H zs es->kv ds es->Inv X pins σ (upd H l (.lst zs)) s'->Q (.done (.ret (.ref l))) s'):
  wpAny (model X.prog X.w) A (do let l<-newList its;let _<-holding [l] (call (.builtin "list.sort") [l] []);ret l) Q E s:=by
 obtain⟨hlen,hc⟩:=hc;have hl:=rv.length;have eU:=jF.length;have B7:its.length<=sizeLine:=by rw[T4];lia
 refine PY (wpAny_newList ?_ (by simpa using B7));have JD:(s.heap.push (seqObj "list" its.toArray 0)).get? s.heap.objs.size=some (seqObj "list" its.toArray 0):=Qd _ rfl;show wpAny _ _ _ _ _ {s with heap:=s.heap.push (seqObj "list" its.toArray 0)};have ne:∀b o,s.heap.get? b=some o->b≠s.heap.objs.size:=λb o e=>QB (Qg e)
 refine PY (T9 (T7 slot_list_sort (s:={s with heap:=s.heap.push (seqObj "list" its.toArray 0)}) ⟨_,JD,rfl⟩ entry_list_sort
  (zc (s:={s with heap:=s.heap.push (seqObj "list" its.toArray 0)}) (O:=Ge) (key:=λi=>ds.getD i (.int 0)) JD ⋯ (λh2 h' kk=>?_) λp h' e hp hup kk hD=>?_) (args_list_sort _)))
 ·obtain⟨Ou,⟨k,hf⟩,zM⟩:=hc ⋯;have AB:fv X.prog X.w H h':=I.hok.kept λb o e=>kk b o (ne b o e) (P0 _ e)
  refine⟨k.κ,λQ' E' q'=>Hj (s:={s with heap:=h'}) AB k jF rv hf ⋯ q',λi j hi hj C hC=>?_,λi j hi hj eij=>?_⟩
  ·obtain⟨di,Gn,Jl⟩:=jF.get (i:=i) (x:=ys[i]'⋯) (by simp);obtain⟨dj,Jm,Kw⟩:=jF.get (i:=j) (x:=ys[j]'⋯) (by simp);obtain⟨ui,Lj,L7⟩:=rv.get (i:=i) (x:=ys[i]'⋯) (by simp);obtain⟨uj,Lk,L8⟩:=rv.get (i:=j) (x:=ys[j]'⋯) (by simp);unfold kas_ask;rw[show its.getD i Value.none=ui by simp[Lj],show its.getD j Value.none=uj by simp[Lk]];have ki:ds.getD i (.int 0)=di:=by simp[Gn]
   have kj:ds.getD j (.int 0)=dj:=by simp[Jm]
   have mi:di∈ds:=Sv Gn;have mj:dj∈ds:=Sv Jm;refine AQ (s:={s with heap:=h'}) AB (n:=100) (by show A.units+1+100<cLine;lia) k (Qh (nR Gn) ⋯) (zM di mi dj mj) (hf di mi) (hf dj mj) Jl Kw L7 L8 ?_;have MU:C (D.lt (ds.getD i (.int 0)) (ds.getD j (.int 0))) {s with heap:=h'}:=hC;rw[ki,kj]at MU;exact MU
  ·obtain⟨di,Gn,Jl⟩:=jF.get (i:=i) (x:=ys[i]'⋯) (by simp);obtain⟨dj,Jm,Kw⟩:=jF.get (i:=j) (x:=ys[j]'⋯) (by simp);obtain⟨ui,Lj,L7⟩:=rv.get (i:=i) (x:=ys[i]'⋯) (by simp);obtain⟨uj,Lk,L8⟩:=rv.get (i:=j) (x:=ys[j]'⋯) (by simp);rw[show its.getD i Value.none=ui by simp[Lj],show its.getD j Value.none=uj by simp[Lk]]at eij;subst eij;have ki:ds.getD i (.int 0)=di:=by simp[Gn]
   have kj:ds.getD j (.int 0)=dj:=by simp[Jm]
   show ds.getD i (.int 0)=ds.getD j (.int 0);rw[ki,kj];rw[L7.inj L8]at Jl;exact Jl.inj Kw
 ·refine⟨_,rfl,P4 ?_⟩;have AC:p.toList.Perm (List.range its.length):=hp;have Jy:∀i∈p.toList,i<ys.length:=λi hi=>by
   have:=QR.mp (AC.mem_iff.mp hi)
   lia
  have new:bM X.prog X.w (upd H s.heap.objs.size (.lst (p.toList.map λi=>ys.getD i .aW))) h' s.heap.objs.size (.lst (p.toList.map λi=>ys.getD i .aW)):=
   ⟨by rw[Qf,AC.length_eq,Sb];rw[T4];lia,_,e,qG rv Jy,hD⟩
  have I2:=I.laid (t':=s.toks) (a:=s.heap.objs.size) (λb o q=>kk b o (ne b o q) (P0 _ q)) (Qb _) new;refine q _ _ (p.toList.map λi=>ds.getD i (.int 0)) _ (I.hok.fresh (Qb _)) (jF.map Jy) ⟨?_,?_⟩ I2
  ·have e1:=AC.map (λi=>ds.getD i (.int 0));rw[show its.length=ds.length by lia]at e1;rw[gp]at e1;exact e1
  ·have Lm:∀i j,i<=j->j<its.length->D.lt (ds.getD (p.getD j 0) (.int 0)) (ds.getD (p.getD i 0) (.int 0))=false:=hup;have mJ:p.toList.length=its.length:=by rw[AC.length_eq,Sb]
   rw[SE,SD];intro i j hi hj eT;have:=Lm i j ⋯ ⋯;rw[show p.getD i 0=p.toList[i] by simp at hi;simp[Array.getD,hi],show p.getD j 0=p.toList[j] by simp at hj;simp[Array.getD,hj]]at this;exact this
end
noncomputable def ED(K:PySem.W.Frag):List V->Hp->VK->Prop:=λxs H Q=>∃a ys ds,xs=[.ref a]/\(dJ K H a ys\/fz K H a ys)/\bb H ys ds/\ko ds/\∀l zs es,H l=none->bb H zs es->kv ds es->Q (.ref l) (upd H l (.lst zs))
theorem nL{X:Cx}(hu:X.A.units+150<cLine):c7 X (.builtin "sorted") (ED X.K):=by
 intro pins s σ H xs us Q I r h;obtain⟨a,ys,ds,rfl,hq,jF,hc,q⟩:=h;obtain⟨u,rfl,ru⟩:=r.one;cases ru;have sh:∃(its:List Value)(T:String)(o:Obj)(n:Nat),au ys its/\(T="list"\/T="tuple")/\s.heap.get? a=some o/\o.cls= .type T/\o.data= .seq its.toArray n:=by
  rcases hq with hq|hq
  ·obtain⟨its,rv,⟨o,n,ho,hc,_,hd⟩,_⟩:=I.list hq;exact⟨its,"list",o,n,rv,.inl rfl,ho,hc,hd⟩
  ·obtain⟨its,rv,⟨o,ho,hc,n,hd⟩,_⟩:=I.tuple hq;exact⟨its,"tuple",o,n,rv,.inr rfl,ho,hc,hd⟩
 obtain⟨its,T,o,n,rv,hT,ho,B4,hd⟩:=sh;have B7:its.length<=sizeLine:=by rw[T4,<-rv.length,jF.length];have:=hc.1;lia
 refine Calls.call_function_entry kind_sorted plain_sorted entry_sorted (args_sorted1 _) ?_;unfold Builtin.«sorted»;refine PY (m:=checkCount "sorted" 1 1 _) (P4 (PY (wpAny_collect_seq a hT ho B4 hd (λh1 k1=>?_) (by rw[P6];exact B7))));have I1:Inv X pins σ H {s with heap:=h1}:=I.kept (t':=s.toks) k1;exact vS (A:=X.A.in1) (by show X.A.units+1+148<cLine;lia) I1 rv jF hc λl zs es s' hl hz hso I2=>⟨_,rfl,.ref l,_,I2,rfl,q l zs es hl hz hso⟩
end Mx
end
section
namespace Mx
open PySem PySem.W PySem.Spec PyProof.Rows L2
theorem any_range(bs:List Bool):((List.range bs.length).any λi=>bs.getD i false)=bs.any id:=by
 have h:=gp bs false;have e:((List.range bs.length).map λi=>bs.getD i false).any id=bs.any id:=by rw[h]
 rw[RF]at e;exact e
theorem oC(ns:List Int):∀j,preSum (λi=>ns.getD i 0) j=(ns.take j).sum
 |0=>by simp[preSum]
 |j+1=>by
  rw[preSum,oC ns j];by_cases h:j<ns.length
  ·have e:ns.take (j+1)=ns.take j++[ns[j]]:=by rw[List.take_append_getElem h]
   rw[e,List.sum_append];simp[h]
  ·rw[SR ⋯,SR ⋯];simp[show ns.length<=j by lia]
theorem F6{bs:List Bool}{its:List Value}(r:au (bs.map V.bl) its){i:Nat}{v:Value}(h:its[i]?=some v):v= .bool (bs.getD i false):=by
 have hl:=r.length;have hi:i<bs.length:=by
  have:=(P8.mp h).1;simp at hl
  lia
 obtain⟨u,hu,ru⟩:=r.get (i:=i) (x:=V.bl (bs.getD i false)) (by simp[hi]);rw[h]at hu;cases hu;exact ru
theorem int_at{ns:List Int}{its:List Value}(r:au (ns.map V.int) its){i:Nat}{v:Value}(h:its[i]?=some v):∃t,v= .int (ns.getD i 0) t:=by
 have hl:=r.length;have hi:i<ns.length:=by
  have:=(P8.mp h).1;simp at hl
  lia
 obtain⟨u,hu,ru⟩:=r.get (i:=i) (x:=V.int (ns.getD i 0)) (by simp[hi]);rw[h]at hu;cases hu;exact ru
section
variable{X:Cx}
theorem pX{prog:Program}{w:World}{A:Around}{E:Value->Shared->Prop}{s:Shared}{l:Addr}{items:Array Value}{Q:Value->Shared->Prop}(hl:s.heap.IsList l items)
  (h:∀s2:Shared,s2={s with heap:=s.heap.push {cls:=.type "list_iterator",data:=.fields #[.ref l,.int 0 0]}}->(s2.heap.IsListIter s.heap.objs.size l 0/\s2.heap.IsList l items)->(∀b∈[s.heap.objs.size,l],b<s2.heap.objs.size)->l≠s.heap.objs.size->
   (∀(b:Addr)(o:Obj),s.heap.get? b=some o->b∉[s.heap.objs.size]/\s2.heap.get? b=some o)->Q (.ref s.heap.objs.size) s2):wpAny (model prog w) A (pyIter (.ref l)) Q E s:=by
 have lt:l<s.heap.objs.size:=by obtain⟨_,e,_⟩:=hl;exact Qg e
 refine Ue hl (h _ rfl ⟨⟨_,Qd _ rfl,rfl,rfl⟩,hl.push _⟩ (λb hb=>?_) (QB lt) λb o e=>⟨?_,P0 _ e⟩)
 ·show b<(s.heap.push _).objs.size;rw[QA];simp only[Qi,Qj,T2]at hb;have lt':l<s.heap.objs.size:=lt;rcases hb with rfl|rfl
  ·exact Tb _
  ·exact Ta lt'
 ·intro hb;have:=Qg e;rw[QE.mp hb]at this;exact S8 _ this
noncomputable def LP(K:PySem.W.Frag):List V->Hp->VK->Prop:=λxs H Q=>∃(l:Addr)(bs:List Bool),xs=[.ref l]/\dJ K H l (bs.map V.bl)/\Q (.bl (bs.any id)) H
noncomputable def L5(K:PySem.W.Frag):List V->Hp->VK->Prop:=λxs H Q=>∃(l:Addr)(ns:List Int),xs=[.ref l]/\dJ K H l (ns.map V.int)/\Q (.int ns.sum) H
theorem wQ(hc:X.calm=true):c7 X (.builtin "any") (LP X.K):=by
 intro pins s σ H xs us Q I r h;obtain⟨l,bs,rfl,hq,q⟩:=h;obtain⟨u,rfl,ru⟩:=r.one;cases ru;obtain⟨its,rv,pl,hz⟩:=I.list hq;have hl:its.length=bs.length:=by rw[<-rv.length];simp
 refine call_any_walk (pX pl.isList λs2 e st fp ne old=>?_);refine⟨_,_,_,_,_,_,λi=>bs.getD i false,rfl,Walks.list (A:=X.A.in1) (I.ok.hd hc) _ l ne its.toArray,st,λi v s' Q' E' hv hQ=>?_,λh' tk hk=>?_⟩
 ·have DE:its.toArray[i]?=some v:=hv;rw[F6 rv (show its[i]?=some v by simpa using DE)];exact Uk hQ
 ·subst e;refine⟨.bl _,H,I.kept λb o e=>hk b o (old b o e).1 (old b o e).2,rfl,?_⟩;rw[show its.toArray.size=bs.length by simp[hl],any_range];exact q
theorem wU(hc:X.calm=true):c7 X (.builtin "sum") (L5 X.K):=by
 intro pins s σ H xs us Q I r h;obtain⟨l,ns,rfl,hq,q⟩:=h;obtain⟨u,rfl,ru⟩:=r.one;cases ru;obtain⟨its,rv,pl,hz⟩:=I.list hq;have hl:its.length=ns.length:=by rw[<-rv.length];simp
 refine call_sum_walkG (pX pl.isList λs2 e st fp ne old=>?_);refine⟨_,_,_,_,_,_,λi=>ns.getD i 0,rfl,Walks.list (A:=X.A.in1) (I.ok.hd hc) _ l ne its.toArray,st,fp,λi v hv=>?_,λh' tk t' hk=>?_⟩
 ·have DE:its.toArray[i]?=some v:=hv;exact int_at rv (by simpa using DE)
 ·subst e;refine⟨.int _,H,I.kept λb o e=>hk b o (old b o e).1 (old b o e).2,⟨t',rfl⟩,?_⟩;rw[show its.toArray.size=ns.length by simp[hl],oC,SQ];exact q
end
theorem gn{i:Nat}{v:V}{σ:L2.St}{H:Hp}{k:L2.St->Hp->Prop}(h:k (σ.set i (some v)) H):eR i v σ H k:=h
end Mx
end
section
namespace Mx
open PySem PySem.W PySem.Spec PyProof.Rows L2 HT
open PySem.AutoSeq1 (wpAny_loadPart')
theorem tuple_addW0(l b:Addr)(items cn:Array Value)(n n2:Nat)(dd tx:Option Addr)(sl uI:Array (Option Value))(PC:items.isEmpty=true):
  Meets (Builtin.«tuple.__add__» ⟨[.ref l,.ref b],[]⟩) (λ_ R s=>s.heap.get? l=some {cls:=.type "tuple",dict:=dd,data:=.seq items n,slots:=sl}/\s.heap.get? b=some {cls:=.type "tuple",dict:=tx,data:=.seq cn n2,slots:=uI}/\R (.ok (.ret (Value.ref b))) s):=
 .of_wp λprog w A R s h=>by
  obtain⟨hp,g,d,tk,os⟩:=s;obtain⟨hl,hb,h⟩:=h;have f2:=sub_tuple_tuple
  wp_walk using wpAny_loadPart' hl,wpAny_loadPart' hb
  exact⟨_,rfl,h⟩
theorem ye{α:Type}(pre:List α)(x:α):oo (pre++[x]).length (-1)=some pre.length:=by
 unfold oo;rw[TM (by decide),TN (by simp;lia)];simp
 lia
theorem pd{α:Type}(pre:List α)(x:α):mv (pre++[x]) (-1)=some x:=by unfold mv;rw[ye];simp
end Mx
end
section
namespace Mx
open PySem PySem.W PySem.Spec PyProof.Rows L2
noncomputable def LX(K:PySem.W.Frag):List V->Hp->VK->Prop:=λxs H Q=>∃(l:Addr)(ns:List Int),xs=[.ref l]/\dJ K H l (ns.map V.int)/\ns≠[]/\∀m,m∈ns->(∀a∈ns,m<=a)->Q (.int m) H
theorem Fx{X:Cx}(hc:X.calm=true):c7 X (.builtin "min") (LX X.K):=by
 intro pins s σ H xs us Q I r h;obtain⟨l,ns,rfl,hq,cM,q⟩:=h;obtain⟨u,rfl,ru⟩:=r.one;cases ru;obtain⟨its,rv,pl,hz⟩:=I.list hq;have i1:IntsAre its ns:=intsAre_of rv;have Du:=i1.numsOf;have v5:=i1.allInts;have hl:=pl.isList;obtain⟨xs,Ha⟩:=v5.items;have pP:numsOf (intItems xs).toList=ns:=by rw[<-Ha];exact Du
 rw[nums_intItems]at pP;rw[Ha]at hl;have hlen:ns.length=xs.size:=by rw[<-pP,Qf,Qq]
 have xZ:0<xs.size:=by rw[<-hlen];exact List.length_pos_iff.mpr cM
 refine min_intList (I.ok.hd hc) hl xZ λv h' tk hv hk=>?_
 obtain⟨t,rfl⟩:=intItems_at hv;obtain⟨h1,h2⟩:=argBest_lt (numAt xs) (xs.size-1);refine⟨.int _,H,I.kept hk,⟨t,rfl⟩,q _ ?_ λa ha=>?_⟩
 ·rw[numAt_eq,pP];exact getD_mem ⋯
 ·obtain⟨j,hj,rfl⟩:=mem_getD ha;rw[<-pP,<-numAt_eq];exact h2 j ⋯
noncomputable def LW(K:PySem.W.Frag):List V->Hp->VK->Prop:=λxs H Q=>∃(l:Addr)(ns:List Int),xs=[.ref l]/\dJ K H l (ns.map V.int)/\ns≠[]/\∀m,m∈ns->(∀a∈ns,a<=m)->Q (.int m) H
theorem vb{X:Cx}(hc:X.calm=true):c7 X (.builtin "max") (LW X.K):=by
 intro pins s σ H xs us Q I r h;obtain⟨l,ns,rfl,hq,cM,q⟩:=h;obtain⟨u,rfl,ru⟩:=r.one;cases ru;obtain⟨its,rv,pl,hz⟩:=I.list hq;have i1:IntsAre its ns:=intsAre_of rv;have Du:=i1.numsOf;have v5:=i1.allInts;have hl:=pl.isList;obtain⟨xs,Ha⟩:=v5.items;have pP:numsOf (intItems xs).toList=ns:=by rw[<-Ha];exact Du
 rw[nums_intItems]at pP;rw[Ha]at hl;have hlen:ns.length=xs.size:=by rw[<-pP,Qf,Qq]
 have xZ:0<xs.size:=by rw[<-hlen];exact List.length_pos_iff.mpr cM
 refine max_intList (I.ok.hd hc) hl xZ λv h' tk hv hk=>?_
 obtain⟨t,rfl⟩:=intItems_at hv;obtain⟨h1,h2⟩:=argBest_gt (numAt xs) (xs.size-1);refine⟨.int _,H,I.kept hk,⟨t,rfl⟩,q _ ?_ λa ha=>?_⟩
 ·rw[numAt_eq,pP];exact getD_mem ⋯
 ·obtain⟨j,hj,rfl⟩:=mem_getD ha;rw[<-pP,<-numAt_eq];exact h2 j ⋯
end Mx
end
section
namespace L2
open PySem PySem.Spec PyProof.Rows
noncomputable def eM(e:Expr)(d:Nat)(it acc:Value)(env:Env)(target:Expr)(ifs:List Expr)(p:Pos)(body:Sem Unit):Sem PySem.Fin:=do
 standAt p
 match<-pyNext it with
 |none=>pure (.done .next)
 |some v=>
  letOwnedTupleGo target it v
  assign target env v
  let mut ok:=true
  for c in ifs do
   if ok then ok<-isTrue c env (eval c env)
  if ok then body
  again (.compLoop e d it acc env)
theorem nO{prog:Program}{w:World}{A:Around}{R:Result->Shared->Prop}{s:Shared}{elt target:Expr}{gens:List Comprehension}{scope:Scope}{pos:Pos}{d:Nat}{ifs:List Expr}{p:Pos}{it acc:Value}{env:Env}{body:Sem Unit}(heq:compTurn (.ListComp elt gens scope pos) d it acc env=eM (.ListComp elt gens scope pos) d it acc env target ifs p body){EE:Value->Shared->Prop}
  (GD:∀x s',EE x s'->notedBy (model prog w) A env (λx s'=>R (.error x) s') x s') (I:Nat->Shared->Prop)
  (turn:∀n s,I n s->wpAny (model prog w) A (pyNext it) (λr s₁=>match r with
   |none=>R (.ok .next) s₁
   |some v=>wpAny (model prog w) A (letOwnedTupleGo target it v) (λ_ s₁'=>wpAny (model prog w) A (assign target env v) (λ_ s₂=>
     wpAny (model prog w) A (forIn ifs true λc r=>if r=true then do let ok<-isTrue c env (eval c env);pure (ForInStep.yield ok) else pure (ForInStep.yield r)) (λok s₃=>
      if ok=true then wpAny (model prog w) A body (λ_ s₄=>∃m,m<n/\I m s₄) EE s₃
      else∃m,m<n/\I m s₃) EE s₂) EE s₁') EE s₁) EE s)
  (n:Nat) (h:I n s):codeAny (model prog w) A (.compLoop (.ListComp elt gens scope pos) d it acc env) R s:=by
 refine codeAny_loop rfl I (λn s hI=>?_) n h;show wpAny _ A ((compTurn (.ListComp elt gens scope pos) d it acc env).onRaise (λx=>do noteFrame x env;theTreesLotGoes x)) _ _ s;refine wpAny_noted ?_;rw[heq];unfold eM;refine PY (Uj (PY (Ua (turn n s hI) (λr s₁ h₁=>?_) GD)));cases r with
 |none=>exact P4 h₁
 |some v=>
  refine PY (Ua h₁ (λ_ s₁' h₁'=>?_) GD);refine PY (Ua h₁' (λ_ s₂ h₂=>PY (Ua h₂ (λok s₃ h₃=>?_) GD)) GD);cases ok with
  |false=>exact P4 ⟨rfl,h₃⟩
  |true=>exact PY (Ua h₃ (λ_ s₄ h₄=>P4 ⟨rfl,h₄⟩) GD)
noncomputable def ib(elt:Expr)(acc:Value)(env:Env):Sem Unit:=do let _<-call (.builtin "list.append") [acc,<-eval elt env]
noncomputable def nextOf(e:Expr)(d:Nat)(iter:Expr)(acc:Value)(env:Env):Sem Unit:=do
 let x<-eval iter env
 standAt iter.pos
 let x<-foldedSetIterable iter env x
 let _<-runOwn (.compStart e d (<-holding [x] (pyIter x)) acc env) env
theorem qD(elt target iter:Expr)(ifs:List Expr)(scope:Scope)(pos:Pos)(it acc:Value)(env:Env):
  compTurn (.ListComp elt [⟨target,iter,ifs,0⟩] scope pos) 0 it acc env=eM (.ListComp elt [⟨target,iter,ifs,0⟩] scope pos) 0 it acc env target ifs iter.pos (ib elt acc env):=by rfl
theorem qE(elt target iter bo bZ:Expr)(ifs cC:List Expr)(scope:Scope)(pos:Pos)(it acc:Value)(env:Env):
  compTurn (.ListComp elt [⟨target,iter,ifs,0⟩,⟨bo,bZ,cC,0⟩] scope pos) 0 it acc env=
   eM (.ListComp elt [⟨target,iter,ifs,0⟩,⟨bo,bZ,cC,0⟩] scope pos) 0 it acc env target ifs iter.pos (nextOf (.ListComp elt [⟨target,iter,ifs,0⟩,⟨bo,bZ,cC,0⟩] scope pos) 1 bZ acc env):=by
 unfold eM nextOf;simp only[bind_assoc,pure_bind];rfl
theorem BG(elt target iter bo bZ:Expr)(ifs cC:List Expr)(scope:Scope)(pos:Pos)(it acc:Value)(env:Env):
  compTurn (.ListComp elt [⟨target,iter,ifs,0⟩,⟨bo,bZ,cC,0⟩] scope pos) 1 it acc env=
   eM (.ListComp elt [⟨target,iter,ifs,0⟩,⟨bo,bZ,cC,0⟩] scope pos) 1 it acc env bo cC bZ.pos (ib elt acc env):=by rfl
noncomputable def Le(σ σ2:St):Prop:=σ2.length=σ.length/\∀(j:Nat)(v:V),σ[j]?=some (some v)->σ2[j]?=some (some v)
theorem Le.refl(σ:St):Le σ σ:=⟨rfl,λ_ _ h=>h⟩
noncomputable def GL(σ0:St)(g:TG):Prop:=∀x σ H(Q:St->Hp->Prop),Le σ0 σ->g x σ H Q->g x σ H λσ2 H2=>Le σ0 σ2/\Q σ2 H2
noncomputable def FN(σ0:St)(g:wo):Prop:=∀x σ H(Q:St->Hp->Prop),Le σ0 σ->g x σ H Q->g x σ H λσ2 H2=>Le σ0 σ2/\Q σ2 H2
theorem Le.set{k:Nat}{σ0 σ:St}{v:Option V}(h:σ0[k]?=some none)(q:Le σ0 σ):Le σ0 (σ.set k v):=⟨by simpa using q.1,λj w hj=>by
 rw[Qn (by rintro rfl;rw[h]at hj;cases hj)];exact q.2 j w hj⟩
theorem Ap{σ0:St}{k:Nat}(h:σ0[k]?=some none):GL σ0 (eR k):=λx σ H Q p q=>⟨p.set h,q⟩
theorem Aq{σ0:St}:FN σ0 Dl:=λx σ H Q p q=>⟨q.1,p,q.2⟩
theorem xM{σ0:St}{k:Nat}{u:wo}(h:σ0[k]?=some none)(hu:FN σ0 u):FN σ0 (xD (eR k) u):=λx σ H Q p q=>by obtain⟨v,r,e,q⟩:=q;exact⟨v,r,e,hu r _ H Q (p.set h) q⟩
theorem Dp{σ0:St}{K:PySem.W.Frag}{n:Nat}{u:wo}(hu:FN σ0 u):GL σ0 (Dm K n u):=λx σ H Q p q=>by obtain⟨a,xs,e,h1,h2,q⟩:=q;exact⟨a,xs,e,h1,h2,hu xs σ H Q p q⟩
theorem Inv.le{X:Cx}{pins:List (Addr×Obj)}{σ σ2:St}{H:Hp}{s:Shared}(I:Inv X pins σ2 H s)(h:Le σ σ2):Inv X pins σ H s:=I.weak h.1.symm h.2
noncomputable abbrev TB:=St->Hp->(Hp->Prop)->Prop
noncomputable def PB(X:Cx)(body:Sem Unit)(tb:TB):Prop:=∀(pins:List (Addr×Obj))(s:Shared)(σ:St)(H:Hp)(Q:Hp->Prop),Inv X pins σ H s->tb σ H Q->wpAny (model X.prog X.w) X.A body (λ_ s'=>∃H',Inv X pins σ H' s'/\Q H') X.xe s
noncomputable def o6(J:It)(g:TG)(tt:TT)(tb:TB)(σ0:St)(F:Hp->Prop)(H1:Hp):Prop:=
 ∃W:Nat->Nat->Hp->Prop,(∃m,W 0 m H1)/\∀i m H,W i m H->
  (J.stop i H/\F H)\/(J.go i H/\∀x H',J.yld i H x H'->g x σ0 H' λσ2 H2=>tt σ2 H2 λb H3=>if b=true then tb σ2 H3 λH4=>∃m',m'<m/\W (i+1) m' H4 else∃m',m'<m/\W (i+1) m' H3)
section
variable{X:Cx}{g:TG}{tt:TT}{tb:TB}
theorem mF(hc:X.calm=true){elt target:Expr}{gens:List Comprehension}{scope:Scope}{pos:Pos}{d:Nat}{ifs:List Expr}{p:Pos}{acc:Value}{body:Sem Unit}{R:Result->Shared->Prop}{pins:List (Addr×Obj)}{σ0:St}{H0:Hp}{s0:Shared}{it:Addr}{fp:List Addr}{tn:Nat->Heap->Prop}{J:It}{F:Hp->Prop}
  (heq:compTurn (.ListComp elt gens scope pos) d (.ref it) acc X.env=eM (.ListComp elt gens scope pos) d (.ref it) acc X.env target ifs p body) (hx:∀x s',X.xe x s'->notedBy (model X.prog X.w) X.A X.env (λx s'=>R (.error x) s') x s')
  (hg:PG X target g) (lS:GL σ0 g) (ht:BM X ifs tt) (hb:PB X body tb) (I0:Inv X pins σ0 H0 s0) (T:Turn X.prog X.w X.K target J fp it tn) (dH:tn 0 s0.heap) (f0:∀b∈fp,iI X pins H0 b)
  (hW:o6 J g tt tb σ0 F H0) (fin:∀s' H',Inv X pins σ0 H' s'->F H'->R (.ok .next) s'):codeAny (model X.prog X.w) X.A (.compLoop (.ListComp elt gens scope pos) d (.ref it) acc X.env) R s0:=by
 obtain⟨W,⟨m0,w0⟩,turn⟩:=hW;have oK:∀{H':Hp},(∀b∈fp,H' b=none)->∀b∈fp,iI X pins H' b:=λhn b hb=>⟨hn b hb,(f0 b hb).2⟩
 refine nO heq hx (λn s'=>∃i H',Inv X pins σ0 H' s'/\tn i s'.heap/\(∀b∈fp,H' b=none)/\W i n H') ?_ m0 ⟨0,H0,I0,dH,λb hb=>(f0 b hb).1,w0⟩;rintro n s4 ⟨i,H4,I4,Nx,MO,w4⟩;rcases turn i n H4 w4 with ⟨stop,qn⟩|⟨go,step⟩
 ·refine bX (T.done X rfl rfl rfl hc i pins s4 _ H4 X.xe I4 (oK MO) Nx stop) λr s5⟨hr,I5⟩=>?_
  subst hr;exact fin s5 H4 I5 qn
 ·refine bX (T.item X rfl rfl rfl hc i pins s4 _ H4 X.xe I4 (oK MO) Nx go) λr s5⟨u,hr,h5⟩=>?_
  subst hr;refine bX h5 λ_ s6⟨x,H6,I6,r6,y6,Ml,N1⟩=>?_
  have NM:=I6.pinned (oK N1) (T.obj _ _ Ml);have again:∀{s7:Shared}{σ7:St}{H7:Hp}{m7:Nat},Inv X (pins++lg fp s6.heap) σ7 H7 s7->Le σ0 σ7->m7<n->W (i+1) m7 H7->
    ∃m,m<n/\∃i H',Inv X pins σ0 H' s7/\tn i s7.heap/\(∀b∈fp,H' b=none)/\W i m H':=λ {s7 σ7 H7 m7} I7 hσ hm w7=>by
   refine⟨m7,hm,i+1,H7,I7.jh.le hσ,T.keep _ _ _ Ml λb hb o e=>(I7.pin (b,o) (QC _ (QC _ (fE hb e)))).1,λb hb=>?_,w7⟩;obtain⟨o,e,d⟩:=T.obj _ _ Ml b hb;exact(I7.pin (b,o) (QC _ (QC _ (fE hb e)))).2.1
  refine bX (hg _ s6 _ H6 x u _ NM r6 (lS x _ H6 _ (Le.refl _) (step x H6 y6))) λ_ s7⟨σ7,H7,I7,Nj,q7⟩=>?_
  refine bX (ht _ s7 σ7 H7 _ I7 q7) λb s8⟨H8,I8,q8⟩=>?_
  cases b with
  |false=>rw[TM (by simp)]at q8 ⊢;obtain⟨m',hm,w8⟩:=q8;exact again I8 Nj hm w8
  |true=>
   rw[TN rfl]at q8 ⊢;refine bX (hb _ s8 σ7 H8 _ I8 q8) λ_ s9⟨H9,I9,m',hm,w9⟩=>?_
   exact again I9 Nj hm w9
noncomputable def uS(D:Addr)(te:TE):TB:=λσ H Q=>te σ H λv H4=>∃gS,H4 D=some (.lst gS)/\gS.length<sizeLine/\Q (upd H4 D (.lst (gS++[v])))
theorem j7{elt:Expr}{te:TE}{D:Addr}(he:PE X elt te):PB X (ib elt (.ref D) X.env) (uS D te):=by intro pins s σ H Q I h;unfold ib;refine PY (bX (he pins s σ H _ I h) λy s9⟨v,H9,I9,r9,gS,Ob,hz,q⟩=>?_);refine PY (bX (mU _ s9 σ H9 (.ref D) [v] (.ref D) [y] (λ_ H'=>H'=upd H9 D (.lst (gS++[v]))) I9 rfl (.cons r9 .nil) ⟨D,gS,v,rfl,rfl,Ob,hz,rfl⟩) λ_ s10⟨_,Po,NK,_,NT⟩=>?_);subst NT;exact P4 ⟨_,NK,q⟩
theorem nP{prog:Program}{w:World}{A:Around}{R:Result->Shared->Prop}{s:Shared}{elt target iter bo bZ:Expr}{ifs cC:List Expr}{scope:Scope}{pos:Pos}{it acc:Value}{env:Env}
  (h0:codeAny (model prog w) A (.compLoop (.ListComp elt [⟨target,iter,ifs,0⟩,⟨bo,bZ,cC,0⟩] scope pos) 1 it acc env) R s)
  (h:wpAny (model prog w) A (pyIter it) (λj3 s'=>codeAny (model prog w) A (.compLoop (.ListComp elt [⟨target,iter,ifs,0⟩,⟨bo,bZ,cC,0⟩] scope pos) 1 j3 acc env) R s')
   (notedBy (model prog w) A env λx s'=>R (.error x) s') s):
  codeAny (model prog w) A (.compStart (.ListComp elt [⟨target,iter,ifs,0⟩,⟨bo,bZ,cC,0⟩] scope pos) 1 it acc env) R s:=by
 refine codeAny_of_tree ?_;show wpAny _ _ ((compStart (.ListComp elt [⟨target,iter,ifs,0⟩,⟨bo,bZ,cC,0⟩] scope pos) 1 it acc env).onRaise (λx=>do noteFrame x env;standAt theWindowsPlace)) _ _ s;refine wpAny_notedAt ?_;unfold compStart;show wpAny _ _ (ask >>=_) _ _ s;refine PY (wpAny_askSetting (wpAny_ite ?_));split
 ·first
   |exact PY (P4 (P4 (And.intro rfl h0)))
   |exact P4 (And.intro rfl h0)
 ·first
   |exact PY (Uh (PY (Uj (PY (Ua h (λj3 s' h'=>P4 (And.intro rfl h')) λ_ _ x=>x)))))
   |(refine PY (Uh ?_);show wpAny _ _ (standAt bZ.pos >>=_) _ _ s;exact PY (Uj (PY (Ua h (λj3 s' h'=>P4 (And.intro rfl h')) λ_ _ x=>x))))
noncomputable def IM(wi:TI)(g:TG)(tt:TT)(tb:TB):TB:=λσ H Q=>GL σ g/\wi σ H λJ H1=>o6 J g tt tb σ Q H1
theorem uv{elt target iter bo bZ:Expr}{ifs cC:List Expr}{scope:Scope}{pos:Pos}{acc:Value}{wi:TI}{te:TB}(hc:X.calm=true)(hp:PassesOwn (model X.prog X.w) X.A X.env X.xe)(hi:PI X bo bZ wi)(hg:PG X bo g)(ht:BM X cC tt)(he:PB X (ib elt acc X.env) te)
  (hs:∀x,foldedSetIterable bZ X.env x=pure x:=by intro _;rfl):PB X (nextOf (.ListComp elt [⟨target,iter,ifs,0⟩,⟨bo,bZ,cC,0⟩] scope pos) 1 bZ acc X.env) (IM wi g tt te):=by
 intro pins s σ H Q I ⟨lS,h⟩;unfold nextOf;refine PY (bX (hi pins s σ H _ I h) λx s₁ h₁=>?_);refine PY (Uj (PY (wpAny_of_eq (hs x) (PY (T9 (bX h₁ λoY s₂ h₂=>?_))))));obtain⟨it,fp,tn,J,H2,e,I2,T,d5,f2,hW⟩:=h₂;subst e;have loop:codeAny (model X.prog X.w) X.A (.compLoop (.ListComp elt [⟨target,iter,ifs,0⟩,⟨bo,bZ,cC,0⟩] scope pos) 1 (.ref it) acc X.env) (λr s'=>match r with|.ok f=>∃H',Inv X pins σ H' s'/\Q H'|.error e=>cameBackBy (model X.prog X.w) X.A X.env X.xe e s') s₂:=
  mF hc (BG ..) (λx s' q=>hp x s' q) hg lS ht he I2 T d5 f2 hW λs' H' I' q=>⟨H',I',q⟩
 have run:wpAny (model X.prog X.w) X.A (runOwn (.compStart (.ListComp elt [⟨target,iter,ifs,0⟩,⟨bo,bZ,cC,0⟩] scope pos) 1 (.ref it) acc X.env) X.env) (λ_ s'=>∃H',Inv X pins σ H' s'/\Q H') X.xe s₂:=
  wpAny_runOwn (nP loop (T.self _ 0 _ _ _ d5 loop))
 exact PY (Ua run (λf s' q=>P4 q) λ_ _ z=>z)
end
theorem gD{x:Str}{c:Addr}:∀(names:List (Str×NameKind))(n:Nat)(acc:List (Str×Addr)),(cellsFrom n names acc).lookup x=some c->(n<=c/\(x,NameKind.cell)∈names)\/acc.lookup x=some c
 |[],n,acc,h=>.inr h
 |(y,k)::r,n,acc,h=>by
  unfold cellsFrom at h;by_cases hk:(k==NameKind.cell)=true
  ·rw[TN hk]at h;rcases gD r (n+1) _ h with ⟨h1,h2⟩|h1
   ·exact .inl ⟨Qh (S7 _) h1,P9 _ h2⟩
   ·rw[Qw]at h1;cases hb:x==y with
    |true=>
     rw[hb]at h1;cases h1;have:x=y:=by simpa using hb
     subst this;have:k=NameKind.cell:=by simpa using hk
     subst this;exact .inl ⟨Qb _,Qc⟩
    |false=>rw[hb]at h1;exact .inr h1
  ·rw[TM hk]at h;rcases gD r n _ h with ⟨h1,h2⟩|h1
   ·exact .inl ⟨h1,P9 _ h2⟩
   ·exact .inr h1
theorem rf{x y:Str}{c:Addr}:∀(names:List (Str×NameKind))(n:Nat)(acc:List (Str×Addr)),(∀x c,acc.lookup x=some c->c<n)->(∀x y c,acc.lookup x=some c->acc.lookup y=some c->x=y)->
  (cellsFrom n names acc).lookup x=some c->(cellsFrom n names acc).lookup y=some c->x=y
 |[],n,acc,h1,h2,hx,hy=>h2 x y c hx hy
 |(z,k)::r,n,acc,h1,h2,hx,hy=>by
  unfold cellsFrom at hx hy;by_cases hk:(k==NameKind.cell)=true
  ·rw[TN hk]at hx hy;refine rf r (n+1) _ (λa b fS=>?_) (λa b e ha hb=>?_) hx hy
   ·rw[Qw]at fS;cases hq:a==z with
    |true=>rw[hq]at fS;cases fS;exact Tb _
    |false=>rw[hq]at fS;exact Ta (h1 a b fS)
   ·rw[Qw]at ha hb;cases hq:a==z with
    |true=>
     rw[hq]at ha;cases ha;cases hq2:b==z with
     |true=>
      have e1:a=z:=by simpa using hq
      have e2:b=z:=by simpa using hq2
      rw[e1,e2]
     |false=>rw[hq2]at hb;exact absurd (h1 b _ hb) (S8 _)
    |false=>
     rw[hq]at ha;cases hq2:b==z with
     |true=>rw[hq2]at hb;cases hb;exact absurd (h1 a _ ha) (S8 _)
     |false=>rw[hq2]at hb;exact h2 a b e ha hb
  ·rw[TM hk]at hx hy;exact rf r n acc h1 h2 hx hy
theorem nM{x:Str}{c:Addr}:∀(names:List (Str×NameKind))(n:Nat)(acc:List (Str×Addr)),(x,NameKind.cell)∉names->acc.lookup x=some c->(cellsFrom n names acc).lookup x=some c
 |[],n,acc,_,h=>h
 |(z,k)::r,n,acc,hn,h=>by
  unfold cellsFrom;by_cases hk:(k==NameKind.cell)=true
  ·rw[TN hk];refine nM r (n+1) _ (λz'=>hn (P9 _ z')) ?_;rw[Qw];have:(x==z)=false:=by
    cases hq:x==z with
    |false=>rfl
    |true=>
     have e1:x=z:=by simpa using hq
     have e2:k=NameKind.cell:=by simpa using hk
     subst e1 e2;exact absurd Qc hn
   rw[this];exact h
  ·rw[TM hk];exact nM r n acc (λz'=>hn (P9 _ z')) h
theorem kC{x:Str}{c:Addr}:∀(names:List (Str×NameKind))(h:Heap)(acc:List (Str×Addr)),(∀x c,acc.lookup x=some c->∃v,h.IsCell c v)->(cellsFrom h.objs.size names acc).lookup x=some c->∃v,(pushCells h names).IsCell c v
 |[],h,acc,ha,hx=>ha x c hx
 |(z,k)::r,h,acc,ha,hx=>by
  unfold cellsFrom at hx;unfold pushCells;by_cases hk:(k==NameKind.cell)=true
  ·rw[TN hk]at hx ⊢;refine kC r _ ((z,h.objs.size)::acc) (λa b fS=>?_) (by rw[QA];exact hx);rw[Qw]at fS;cases hq:a==z with
   |true=>rw[hq]at fS;cases fS;exact⟨none,_,Qd _ rfl,rfl⟩
   |false=>rw[hq]at fS;obtain⟨v,o,ho,hd⟩:=ha a b fS;exact⟨v,o,P0 _ ho,hd⟩
  ·rw[TM hk]at hx ⊢;exact kC r h acc ha hx
theorem qH{M:Model}{A:Around}{E:Value->Shared->Prop}{s:Shared}{scope:Scope}{globals:Addr}{cl:List (Str×Addr)}{qual:Str}{out:Env}{Q:Env->Shared->Prop}
  (hQ:∀h',h'=pushCells (s.heap.push {cls:=.type "dict",data:=.dict #[]}) scope.names->Q (newEnv scope s.heap.objs.size globals (cellsFrom (s.heap.objs.size+1) scope.names cl) qual none .none (some out) builtinsNs) {s with heap:=h'}):
  wpAny M A (newFunctionEnv scope globals cl [] qual none .none (some out)) Q E s:=by
 simp only[newFunctionEnv,Option.isSome_some,TQ];refine PY (wpAny_alloc ?_);refine PY (wpAny_layCells _ (λname kind cells=>by cases hkc:kind==NameKind.cell<;>simp[hkc]) _ _ _ _ ?_);rw[show ({s with heap:=s.heap.push {cls:=.type "dict",data:=.dict #[]}}:Shared).heap.objs.size=s.heap.objs.size+1 from QA ..];rw[List.forIn_nil];exact PY (P4 (P4 (hQ _ rfl)))
noncomputable def gT(X:Cx)(scope:Scope)(N':List Str)(C:Addr)(s:Shared)(H:Hp)(fp:List Addr)(xe:Value->Shared->Prop):Cx:=
 {X with N:=N',s₀:=s,H₀:=H,env:=compEnvC scope (cellsFrom (C+1) scope.names (fO scope X.env)) C X.env,outer:=X.stack,stack:=X.stack,ex:=fp,fn:=λx=>scope.names.lookup x==some .cell,pn:=[],xe:=xe}
structure fM(X:Cx)(scope:Scope)(N':List Str)(cap:List (Option Nat)):Prop where
 kind:scope.kind= .function
 nd:∀y∈scope.names,scope.names.lookup y.1=some y.2
 free:∀y∈scope.names,y.2= .free->X.env.scope.names.lookup y.1=some .cell\/X.env.scope.names.lookup y.1=some .free
 vf:∀(j i:Nat),cap[j]?=some (some i)->∃x,N'[j]?=some x/\X.N[i]?=some x/\scope.names.lookup x=some .free
 len:cap.length=N'.length
section
variable{X:Cx}{scope:Scope}{N':List Str}{cap:List (Option Nat)}{pins:List (Addr×Obj)}{σ:St}{H:Hp}{s:Shared}
theorem fM.frees(B:fM X scope N' cap)(ok:X.Ok):∀y∈scope.names,y.2= .free->∃c,X.env.cells.lookup y.1=some c:=λy hy hf=>ok.has y.1 (B.free y hy hf)
theorem fM.up(B:fM X scope N' cap)(ok:X.Ok){x:Str}{c:Addr}(h:(fO scope X.env).lookup x=some c):X.env.cells.lookup x=some c:=
 jA scope.names [] (B.frees ok) (λ_ z=>by simp at z) h
theorem fM.qc(B:fM X scope N' cap){x:Str}(h:scope.names.lookup x=some .free):(x,NameKind.cell)∉scope.names:=λz=>by have:=B.nd _ z;rw[h]at this;cases this
theorem q9{xe:Value->Shared->Prop}(B:fM X scope N' cap)(I:Inv X pins σ H s){fp:List Addr}{tk:Nat}(hf:∀b∈fp,iI X pins H b)(cK:∀b∈fp,b<s.heap.objs.size):
  Inv (gT X scope N' s.heap.objs.size s H fp xe) [] (c8 cap σ) H {s with heap:=pushCells (s.heap.push {cls:=.type "dict",data:=.dict #[]}) scope.names,toks:=tk}:=by
 have ok:=I.ok;have hz:(s.heap.push {cls:=.type "dict",data:=.dict #[]}).objs.size=s.heap.objs.size+1:=QA ..;have hk:∀b o,s.heap.get? b=some o->(pushCells (s.heap.push {cls:=.type "dict",data:=.dict #[]}) scope.names).get? b=some o:=λb o e=>T3 _ _ _ _ (P0 _ e)
 have v8:(pushCells (s.heap.push {cls:=.type "dict",data:=.dict #[]}) scope.names).Ns s.heap.objs.size λ_=>none:=(Heap.Ns.new s.heap (.type "dict")).keeps (T3 _ _)
 have NR:∀x c,(fO scope X.env).lookup x=some c->c<s.heap.objs.size:=λx c h=>by obtain⟨v,z⟩:=I.cell x c (B.up ok h);exact z.lt
 have wW:∀x c,(cellsFrom (s.heap.objs.size+1) scope.names (fO scope X.env)).lookup x=some c->(s.heap.objs.size+1<=c/\(x,NameKind.cell)∈scope.names)\/X.env.cells.lookup x=some c:=λx c h=>(gD _ _ _ h).imp id (B.up ok)
 have rG:∀x,scope.names.lookup x=some .free->(compEnvC scope (cellsFrom (s.heap.objs.size+1) scope.names (fO scope X.env)) s.heap.objs.size X.env).kindOf x=some .cell\/(compEnvC scope (cellsFrom (s.heap.objs.size+1) scope.names (fO scope X.env)) s.heap.objs.size X.env).kindOf x=some .free:=λx hx=>by
  have q:=a6 (env:=X.env) hx;by_cases hc:(NameKind.free==NameKind.free&&X.env.scope.kind== .function&&X.env.kindOf x==some .cell)=true
  ·rw[TN hc]at q;exact .inl q
  ·rw[TM hc]at q;exact .inr q
 refine⟨⟨ok.mod,?kind,ok.glob,ok.blt,Qb _,?inj,?has,?C7,ok.hd,ok.frames,.inl rfl,?Gr,I.bs,Qh ok.BV I.sz,?rW,?vj,I.stack,I.uN⟩,
  rfl,I.bare,Un.kept hk,⟨_,v8,?loc⟩,?cell,I.hok.fresh (Qb _),?eO,?pin,I.hok.kept hk,?len⟩
 case kind=>exact B.kind
 case inj=>exact λx y c h1 h2=>rf _ _ _ (λx c h=>Ta (NR x c h)) (λx y c h1 h2=>ok.inj x y c (B.up ok h1) (B.up ok h2)) h1 h2
 case has=>
  intro x hx;cases hl:scope.names.lookup x with
  |none=>
   have q:=bW (env:=X.env) hl;exact absurd hx (by
    have q':(compEnvC scope (cellsFrom (s.heap.objs.size+1) scope.names (fO scope X.env)) s.heap.objs.size X.env).kindOf x=none:=q;show¬((compEnvC scope (cellsFrom (s.heap.objs.size+1) scope.names (fO scope X.env)) s.heap.objs.size X.env).kindOf x=some .cell\/(compEnvC scope (cellsFrom (s.heap.objs.size+1) scope.names (fO scope X.env)) s.heap.objs.size X.env).kindOf x=some .free);rw[q'];simp)
  |some k=>
   have q:(compEnvC scope (cellsFrom (s.heap.objs.size+1) scope.names (fO scope X.env)) s.heap.objs.size X.env).kindOf x=some (if (k==NameKind.free&&X.env.scope.kind== .function&&X.env.kindOf x==some .cell) then NameKind.cell else k):=a6 (env:=X.env) hl;have hm:=Tz hl;by_cases Dr:k= .free
   ·subst Dr;obtain⟨c,B4⟩:=kD (env:=X.env) scope.names [] (.inl hm);exact⟨c,nM _ _ _ (B.qc hl) B4⟩
   ·have hb:(k==NameKind.free)=false:=by simpa using Dr
    have ya:(compEnvC scope (cellsFrom (s.heap.objs.size+1) scope.names (fO scope X.env)) s.heap.objs.size X.env).kindOf x=some .cell\/(compEnvC scope (cellsFrom (s.heap.objs.size+1) scope.names (fO scope X.env)) s.heap.objs.size X.env).kindOf x=some .free:=hx;rw[q,hb]at ya;simp only[Bool.false_and,Q1,TL,Option.some.injEq]at ya;rcases ya with z|z
    ·subst z;exact Option.isSome_iff_exists.mp (Tw scope.names _ _ (.inl hl))
    ·exact absurd z Dr
 case C7=>
  intro x c xS h;have xS:(scope.names.lookup x==some .cell)=true:=xS;rcases gD _ _ _ h with ⟨h1,_⟩|h1
  ·exact Qh (S7 _) h1
  ·exfalso;have e:=Qt xS;have:∀(l:List (Str×NameKind))(cs:List (Str×Addr)),(∀c,cs.lookup x≠some c)->(∀y∈l,y.1=x->y.2≠ .free)->(nN X.env l cs).lookup x=none:=by
    intro l
    induction l with
    |nil=>
     intro cs Av _;cases hq:cs.lookup x with
     |none=>exact hq
     |some c=>exact absurd hq (Av c)
    |cons y l ih=>
     intro cs Av hl;obtain⟨n,k⟩:=y;show (nN X.env l (if (k==NameKind.free)=true then(n,(X.env.cells.lookup n).getD 0)::cs else cs)).lookup x=none;refine ih _ (λc=>?_) λy hy=>hl y (P9 _ hy)
     by_cases hk:(k==NameKind.free)=true
     ·rw[TN hk,Qw];have:(x==n)=false:=by
       cases hq:x==n with
       |false=>rfl
       |true=>
        have e1:x=n:=by simpa using hq
        have e2:k=NameKind.free:=by simpa using hk
        exact absurd e2 (hl (n,k) Qc e1.symm)
      rw[this];exact Av c
     ·rw[TM hk];exact Av c
   have q:=this scope.names [] (λc z=>by simp at z) λy hy e1 e2=>by have:=B.nd y hy;rw[e1,e2,e]at this;cases this
   unfold fO at h1;rw[q]at h1;cases h1
 case Gr=>
  intro b hb;refine⟨QB (cK b hb),λx c e=>?_⟩;rcases wW x c e with ⟨h1,_⟩|h1
  ·intro z;subst z;exact absurd (Qr (cK c hb) (Qh (S7 _) h1)) (S8 _)
  ·exact(hf b hb).2.2.2.2.1 x c h1
 case rW=>
  intro b o e hb;rcases (hf b hb).2.2.2.1 with z|z
  ·exact ok.rW b o e z
  ·exact absurd (Qr (Qg (ok.bs b o e).1) z) (S8 _)
 case vj=>
  intro b hb hs;rcases Qi.mp (I.oM b hs)with z|z
  ·exact(hf b hb).2.1 z
  ·exact(hf b hb).2.2.1 z
 case loc=>
  intro j x v h1 h2 h3;have hj:∃i,cap[j]?=some (some i)/\(σ[i]?).join=some v:=by
   unfold c8 at h2;rw[Qp]at h2;cases hc:cap[j]? with
   |none=>rw[hc]at h2;cases h2
   |some o=>
    rw[hc]at h2;cases o with
    |none=>cases h2
    |some i=>exact⟨i,rfl,by simpa using h2⟩
  obtain⟨i,hc,hv⟩:=hj;obtain⟨x',e1,e2,e3⟩:=B.vf j i hc;have ex:x'=x:=by have Kt:N'[j]?=some x:=h1;rw[Kt]at e1;injection e1 with e1;exact e1.symm
  subst ex;have DE:σ[i]?=some (some v):=by
   cases q:σ[i]? with
   |none=>rw[q]at hv;cases hv
   |some o=>rw[q]at hv;cases o with
    |none=>cases hv
    |some z=>simp at hv;rw[hv]
  have G9:=B.free _ (Tz e3) rfl;obtain⟨m,hn,hl⟩:=I.loc;obtain⟨u,r,l⟩:=hl i x' v e2 DE (.inr G9);refine⟨u,r,?_⟩;obtain⟨c,B4⟩:=kD (env:=X.env) scope.names [] (.inl (Tz e3));have MZ:=B.up ok B4;rcases l with ⟨k,_⟩|⟨k,c',e,z⟩
  ·exfalso;have k':X.env.scope.names.lookup x'=some .local:=k;rcases G9 with q|q
   ·rw[k']at q;cases q
   ·rw[k']at q;cases q
  ·have NV:c'=c:=by rw[e]at MZ;injection MZ
   subst NV;exact .inr ⟨rG x' e3,c',nM _ _ _ (B.qc e3) B4,by obtain⟨o,ho,hd⟩:=z;exact⟨o,hk _ _ ho,hd⟩⟩
 case cell=>intro x c e;refine kC scope.names (s.heap.push {cls:=.type "dict",data:=.dict #[]}) (fO scope X.env) (λa b fS=>?_) (by rw[hz];exact e);obtain⟨v,o,ho,hd⟩:=I.cell a b (B.up ok fS);exact⟨v,o,P0 _ ho,hd⟩
 case eO=>
  intro x c e;rcases wW x c e with ⟨h1,_⟩|h1
  ·exact I.hok.fresh (Qh (S7 _) h1)
  ·exact I.eO x c h1
 case pin=>intro p hp;cases hp
 case len=>show (c8 cap σ).length=N'.length;unfold c8;rw[Qf];exact B.len
noncomputable def BN(X:Cx)(C:Addr)(x:Value)(s':Shared):Prop:=∃m,s'.heap.Ns C m/\∀h',Heap.SameBut C s'.heap h'->∀wX:Env,wX.locals=C->wpAny (model X.prog X.w) X.A (passOn "comprehension.variables-let-go" x wX:Sem Value) (λ_ _=>False) X.xe {s' with heap:=h'}
structure zX(X:Cx)(scope:Scope)(N':List Str)(xb:Addr->Shared->Hp->List Addr->Value->Shared->Prop):Prop where
 note:∀(pins:List (Addr×Obj))(σ:St)(C:Addr)(s s1:Shared)(H H1:Hp)(fp:List Addr)x s',Inv X pins σ H1 s1->(∀b∈fp,iI X pins H1 b)->s1.heap.objs.size<C->s={s1 with heap:=s1.heap.push {cls:=.type "list",data:=.seq ([]:List Value).toArray},toks:=s1.toks}->H=upd H1 s1.heap.objs.size (.lst [])->C=s.heap.objs.size->
  xb C s H fp x s'->notedBy (model X.prog X.w) X.A (gT X scope N' C s H fp (xb C s H fp)).env (BN X C) x s'
variable{elt tg iter:Expr}{ifs:List Expr}{pos:Pos}{wi:TI}{g:TG}{tt:TT}
theorem mE{gens:List Comprehension}{xb:Addr->Shared->Hp->List Addr->Value->Shared->Prop}{pins:List (Addr×Obj)}{σ:St}{H2:Hp}{s2:Shared}{it:Addr}{fp:List Addr}{tn:Nat->Heap->Prop}{J:It}{F:Hp->Prop}{tb:Addr->TB}{body:Value->Env->Sem Unit}{p:Pos}{RR:Value->Addr->Result->Shared->Prop}(hc:X.calm=true)(B:fM X scope N' cap)(hX:zX X scope N' xb)
  (heq:∀oY acc env,compTurn (.ListComp elt (⟨tg,iter,ifs,0⟩::gens) scope pos) 0 oY acc env=eM (.ListComp elt (⟨tg,iter,ifs,0⟩::gens) scope pos) 0 oY acc env tg ifs p (body acc env))
  (lS:GL (c8 cap σ) g) (hg:∀C s H fp,PG (gT X scope N' C s H fp (xb C s H fp)) tg g) (ht:∀C s H fp,BM (gT X scope N' C s H fp (xb C s H fp)) ifs tt) (hb:∀C s H fp D,PB (gT X scope N' C s H fp (xb C s H fp)) (body (.ref D) (gT X scope N' C s H fp (xb C s H fp)).env) (tb D))
  (I2:Inv X pins σ H2 s2) (T:Turn X.prog X.w X.K tg J fp it tn) (d5:tn 0 s2.heap) (f2:∀b∈fp,iI X pins H2 b) (hF:o6 J g tt (tb s2.heap.objs.size) (c8 cap σ) F (upd H2 s2.heap.objs.size (.lst [])))
  (Oh:∀C s' H' m,s2.heap.objs.size<C->Inv X pins σ H' s'->s'.heap.Ns C m->iI X pins H' C->F H'->RR (.ref s2.heap.objs.size) C (.ok .next) s') (MX:∀C x s',BN X C x s'->RR (.ref s2.heap.objs.size) C (.error x) s') {E:Value->Shared->Prop}:
  wpAny (model X.prog X.w) X.A (newList []) (λacc s₃=>wpAny (model X.prog X.w) X.A (newFunctionEnv scope X.env.globals (fO scope X.env) [] X.env.qual none .none (some X.env)) (λwX s₄=>
   codeAny (model X.prog X.w) X.A (.compStart (.ListComp elt (⟨tg,iter,ifs,0⟩::gens) scope pos) 0 (.ref it) acc {wX with scope:=relabel scope X.env}) (RR acc wX.locals) s₄) E s₃) E s2:=by
 refine Ub (qH λh₁ hh₁=>?_);have I3:=I2.Hn (ys:=[]) (its:=[]) (t':=s2.toks) .nil (Tj _);dsimp only at hh₁ ⊢;have hC:(s2.heap.push {cls:=.type "list",data:=.seq ([]:List Value).toArray}).objs.size=s2.heap.objs.size+1:=QA ..;generalize hD:s2.heap.objs.size=D at *;have zF:∀b∈fp,b<D:=λb hb=>by obtain⟨o,e,_⟩:=T.obj 0 _ d5 b hb;rw[<-hD];exact Qg e
 have f3:∀b∈fp,iI X pins (upd H2 D (.lst [])) b:=λb hb=>⟨by rw[aJ (QB (zF b hb))];exact(f2 b hb).1,(f2 b hb).2⟩
 generalize hs3:({s2 with heap:=s2.heap.push {cls:=.type "list",data:=.seq ([]:List Value).toArray},toks:=s2.toks}:Shared)=s3 at I3;have x9:s3.heap=s2.heap.push {cls:=.type "list",data:=.seq ([]:List Value).toArray}:=by rw[<-hs3]
 have B2:s3.heap.objs.size=D+1:=by rw[x9];exact hC
 have IB:=q9 (xe:=xb s3.heap.objs.size s3 (upd H2 D (.lst [])) fp) (tk:=s2.toks) B I3 f3 (λb hb=>by rw[B2];exact Ta (zF b hb));have hk:∀b o,s3.heap.get? b=some o->(pushCells (s3.heap.push {cls:=.type "dict",data:=.dict #[]}) scope.names).get? b=some o:=λb o e=>T3 _ _ _ _ (P0 _ e)
 rw[<-x9]at hh₁;rw[<-hh₁]at IB hk;have e4:({s3 with heap:=h₁,toks:=s2.toks}:Shared)={s2 with heap:=h₁}:=by rw[<-hs3]
 rw[e4]at IB;rw[hC];have oK:∀{H':Hp},(∀b∈fp,H' b=none)->∀b∈fp,iI (gT X scope N' s3.heap.objs.size s3 (upd H2 D (.lst [])) fp (xb s3.heap.objs.size s3 (upd H2 D (.lst [])) fp)) [] H' b:=λhn b hb=>
  ⟨hn b hb,by show b≠s3.heap.objs.size;rw[B2];exact QB (Ta (zF b hb)),λz=>(by
   rcases Qi.mp (I3.oM b z)with q|q
   ·exact(f3 b hb).2.1 q
   ·exact(f3 b hb).2.2.1 q),.inl hb,(IB.ok.Gr b hb).2,λp hp=>absurd hp (by intro z;cases z)⟩
 have loop:∀s':Shared,s'={s2 with heap:=h₁}->codeAny (model X.prog X.w) X.A (.compLoop (.ListComp elt (⟨tg,iter,ifs,0⟩::gens) scope pos) 0 (.ref it) (.ref D) (gT X scope N' s3.heap.objs.size s3 (upd H2 D (.lst [])) fp (xb s3.heap.objs.size s3 (upd H2 D (.lst [])) fp)).env)
   (RR (.ref D) (D+1)) s':=by
  rintro s' rfl;refine mF (X:=gT X scope N' s3.heap.objs.size s3 (upd H2 D (.lst [])) fp (xb s3.heap.objs.size s3 (upd H2 D (.lst [])) fp)) hc (heq _ _ _) (λx s' q=>?_) (hg _ _ _ _) lS (ht _ _ _ _) (hb _ _ _ _ D) IB T (T.keep _ _ _ d5 (λb hb o e=>hk b o (by rw[x9];exact P0 _ e))) (oK λb hb=>(f3 b hb).1) hF λs5 H5 I5 qn=>?_
  ·have z:=hX.note pins σ s3.heap.objs.size s3 s2 (upd H2 D (.lst [])) H2 fp x s' I2 f2 (by rw[B2,hD];exact Tb _) hs3.symm (by rw[hD]) rfl q;rw[B2]at z;exact Ua z (λ_ s'' w=>MX (D+1) x s'' w) λy s'' w=>MX (D+1) y s'' w
  ·obtain⟨m5,OF,_⟩:=I5.loc;have un:Un (jO X.stack) fp H2 H5 s2.heap s5.heap:=by
    have u1:Un (jO X.stack) fp H2 (upd H2 D (.lst [])) s2.heap s3.heap:=by rw[x9];exact Un.laid (λb u e=>P0 _ e) (by rw[hD];exact Qb _) (by rw[<-hD];exact I2.fresh)
    exact u1.trans I5.base
   have hI:Inv X pins σ H5 s5:=I2.Gb (ch:=fp) (I5.os.trans (by show s3.os=s2.os;rw[<-hs3])) un I5.hok I5.bare λb hb=>⟨(f2 b hb).2.2.2.1,(f2 b hb).2.1,(f2 b hb).2.2.2.2.1,(f2 b hb).2.2.2.2.2⟩
   have K8:s5.heap.Ns (D+1) m5:=by have q:s5.heap.Ns s3.heap.objs.size m5:=OF;rw[B2]at q;exact q
   have KB:H5 (D+1)=none:=by have q:H5 s3.heap.objs.size=none:=I5.free;rw[B2]at q;exact q
   exact Oh (D+1) s5 H5 m5 (Tb _) hI K8 (I2.xC (by rw[hD];exact S7 _) KB) qn
 have Kv:({newEnv scope (D+1) X.env.globals (cellsFrom (D+1+1) scope.names (fO scope X.env)) X.env.qual none .none (some X.env) builtinsNs with scope:=relabel scope X.env}:Env)=(gT X scope N' s3.heap.objs.size s3 (upd H2 D (.lst [])) fp (xb s3.heap.objs.size s3 (upd H2 D (.lst [])) fp)).env:=by unfold gT;rw[B2];rfl
 have go:=codeAny_compStart_list (loop _ rfl) (T.self X.A 0 _ _ _ (T.keep _ _ _ d5 (λb hb o e=>hk b o (by rw[x9];exact P0 _ e))) (loop _ rfl));rw[<-Kv]at go;exact go
end
noncomputable def oP(cap:List (Option Nat))(wi:TI)(g:TG)(tt:TT)(tb:Addr->TB):TE:=λσ H Q=>wi σ H λJ H1=>∀D,H1 D=none->GL (c8 cap σ) g/\o6 J g tt (tb D) (c8 cap σ) (λH'=>Q (.ref D) H') (upd H1 D (.lst []))
section
variable{X:Cx}{scope:Scope}{N':List Str}{cap:List (Option Nat)}{elt tg iter:Expr}{ifs:List Expr}{gens:List Comprehension}{pos p:Pos}{wi:TI}{g:TG}{tt:TT}{tb:Addr->TB}{body:Value->Env->Sem Unit}{xb:Addr->Shared->Hp->List Addr->Value->Shared->Prop}
theorem qg(hc:X.calm=true)(B:fM X scope N' cap)(hX:zX X scope N' xb)(hi:PI X tg iter wi)(heq:∀oY acc env,compTurn (.ListComp elt (⟨tg,iter,ifs,0⟩::gens) scope pos) 0 oY acc env=eM (.ListComp elt (⟨tg,iter,ifs,0⟩::gens) scope pos) 0 oY acc env tg ifs p (body acc env))
  (hg:∀C s H fp,PG (gT X scope N' C s H fp (xb C s H fp)) tg g) (ht:∀C s H fp,BM (gT X scope N' C s H fp (xb C s H fp)) ifs tt) (hb:∀C s H fp D,PB (gT X scope N' C s H fp (xb C s H fp)) (body (.ref D) (gT X scope N' C s H fp (xb C s H fp)).env) (tb D))
  (hs:∀x,foldedSetIterable iter X.env x=pure x:=by intro _;rfl):PE X (.ListComp elt (⟨tg,iter,ifs,0⟩::gens) scope pos) (oP cap wi g tt tb):=by
 intro pins s σ H Q I h;rw[eval_ListComp];refine wpAny_comprehension_free (use:=none) rfl hs (gZ (B.frees I.ok)) B.kind (λy hy e=>by rw[B.nd y hy,e]) (bX (hi pins s σ H _ I h) λx s₁ h₁=>bX h₁ λoY s₂ h₂=>?_);obtain⟨it,fp,tn,J,H2,e,I2,T,d5,f2,hF⟩:=h₂;subst e;obtain⟨lS,hW⟩:=hF _ I2.fresh;refine mE (RR:=λacc C=>compPost (model X.prog X.w) X.A X.xe none (EP X pins σ Q) acc C) hc B hX heq lS hg ht hb I2 T d5 f2 hW (λC s' H' m hC I' hn fC q=>?_) λC x s' z=>z
 refine⟨m,hn,λh' hsb=>⟨.ref _,H',I'.turned (t':=s'.toks) (λb o hb e=>(hsb.2 b hb).trans e) fC.1 fC.2.1 fC.2.2.2.1 fC.2.2.2.2.1 fC.2.2.2.2.2,rfl,q⟩⟩
theorem jJ{i:Nat}{x:Str}{pos' Iz:Pos}(hc:X.calm=true)(hN:X.N.Nodup)(Ay:X.N[i]?=some x)(hx:X.env.kindOf x=some .local)(B:fM X scope N' cap)(hX:zX X scope N' xb)(hi:PI X tg iter wi)(heq:∀oY acc env,compTurn (.ListComp elt (⟨tg,iter,ifs,0⟩::gens) scope pos) 0 oY acc env=eM (.ListComp elt (⟨tg,iter,ifs,0⟩::gens) scope pos) 0 oY acc env tg ifs p (body acc env))
  (hg:∀C s H fp,PG (gT X scope N' C s H fp (xb C s H fp)) tg g) (ht:∀C s H fp,BM (gT X scope N' C s H fp (xb C s H fp)) ifs tt) (hb:∀C s H fp D,PB (gT X scope N' C s H fp (xb C s H fp)) (body (.ref D) (gT X scope N' C s H fp (xb C s H fp)).env) (tb D))
  (hs:∀x,foldedSetIterable iter X.env x=pure x:=by intro _;rfl)
  (DC:swapsWith (.ListComp elt (⟨tg,iter,ifs,0⟩::gens) scope pos) (some (.Name x pos')) Iz.line X.env=pure true:=by rfl):
  PS X (.Assign [.Name x pos'] (.ListComp elt (⟨tg,iter,ifs,0⟩::gens) scope pos) Iz) (oO (oP cap wi g tt tb) (eR i)):=by
 intro pins s σ H D I h;rw[exec_Assign_Name_used _ _ _ _ DC];refine PY (Uj (PY ?_));show wpAny _ X.A (do let _<-comprehension (.ListComp elt (⟨tg,iter,ifs,0⟩::gens) scope pos) scope X.env _ (newList []) false (eval iter X.env) (some (assign (.Name x pos') X.env))) _ _ s;refine PY (Ua (wpAny_comprehension_free (use:=some (assign (.Name x pos') X.env)) (Q:=λ_ s'=>SP X pins D .next s') rfl hs (gZ (B.frees I.ok)) B.kind (λy hy e=>by rw[B.nd y hy,e]) (bX (hi pins s σ H _ I h) λx s₁ h₁=>bX h₁ λoY s₂ h₂=>?_))
  (λ_ s' hq=>P4 (P4 hq)) λ_ _ e=>e)
 obtain⟨it,fp,tn,J,H2,e,I2,T,d5,f2,hF⟩:=h₂;subst e;obtain⟨lS,hW⟩:=hF _ I2.fresh;refine mE (RR:=λacc C=>compPost (model X.prog X.w) X.A X.xe (some (assign (.Name _ pos') X.env)) (λ_ s'=>SP X pins D .next s') acc C) hc B hX heq lS hg ht hb I2 T d5 f2 hW (λC s' H' m hC I' hn fC q=>?_) λC x s' z=>z
 show wpAny _ X.A (assign (.Name _ pos') X.env (.ref _)) _ _ _;refine wpAny_assign_Name (m9 (v:=.ref _) I' hN Ay (.inl hx) rfl (λs3 I3 hsb=>?_) (.inr hx));obtain⟨a,sb,ha⟩:=hsb;have Oa:C≠a:=by
  rcases ha with rfl|ha
  ·exact fC.2.1
  ·exact Tn (fC.2.2.2.2.1 _ a ha)
 refine⟨m,hn.sameBut sb Oa,λh' hsb'=>?_⟩;exact⟨_,H',I3.turned (t':=s3.toks) (λb o hb e=>(hsb'.2 b hb).trans e) fC.1 fC.2.1 fC.2.2.2.1 fC.2.2.2.2.1 fC.2.2.2.2.2,q⟩
end
inductive nE(X:Cx)(E:XK)(e:Value)(s':Shared):Prop
noncomputable def vZ(_:Program)(_:World):kn:=λ_ _ _ _ _ _=>False
structure iL(X:Cx):Prop where
 pn:X.pn=[]
 st:True
section
variable{X:Cx}{E:XK}
theorem E1{CX:kn}{P:Program}{w:World}{K:PySem.W.Frag}{mg:Str->Option Value}{base:Heap}{N:List Str}{qual:Str}{scope:Scope}{f:Addr}{cd:Value}{A:Around}{outer:List Env}{s:Shared}{H:Hp}:iL (px CX P w K mg base N qual scope f cd A outer s H E):=⟨rfl,trivial⟩
theorem BA{scope:Scope}{N':List Str}{C:Addr}{s:Shared}{H:Hp}{fp:List Addr}{xe:Value->Shared->Prop}(st:iL X):iL (gT X scope N' C s H fp xe):=⟨rfl,trivial⟩
theorem zw{pins:List (Addr×Obj)}{σ:St}{H:Hp}{s s':Shared}{e:Value}(I:Inv X pins σ H s)(PP:X.pn=[])(c:vZ X.prog X.w X.stack H s E e s'):nE X E e s':=False.elim c
theorem BK(st:iL X)(hx:∀e s',nE X E e s'->X.xe e s')(yb:∀e s',X.xe e s'->nE X E e s'):PassesOwn (model X.prog X.w) X.A X.env X.xe:=λe s' h=>by cases yb e s' h
end
section
variable{X:Cx}{E:XK}{scope:Scope}{N':List Str}
noncomputable def wb(X:Cx)(scope:Scope)(N':List Str)(E:XK)(C:Addr)(s:Shared)(H:Hp)(fp:List Addr):Value->Shared->Prop:=nE (gT X scope N' C s H fp λ_ _=>False) E
theorem Fp{C:Addr}{s:Shared}{H:Hp}{fp:List Addr}{e:Value}{s':Shared}{xe:Value->Shared->Prop}(h:nE (gT X scope N' C s H fp xe) E e s'):wb X scope N' E C s H fp e s':=by cases h
theorem uu{C:Addr}{s:Shared}{H:Hp}{fp:List Addr}(st:iL X):PassesOwn (model X.prog X.w) X.A (gT X scope N' C s H fp (wb X scope N' E C s H fp)).env (wb X scope N' E C s H fp):=λ_ _ h=>by cases h
theorem kl(st:iL X)(PU:∀e s',nE X E e s'->X.xe e s'):zX X scope N' (wb X scope N' E):=⟨λpins σ C s s1 H H1 fp x s' I1 f1 hC hs hH B2 hxb=>by cases hxb⟩
end
end L2
end
section
namespace Rx
open PySem PySem.W PySem.Spec PyProof.Rows L2 PySem.SeqAt
inductive Dt where
 |aW|bl (b:Bool)|int (i:Int)|str (x:Str)|tup (ds:List Dt)|lst (ds:List Dt)|cc (ns:List Int)
 |gE (ks vs:List Dt)|obj (ks:List Str) (vs:List Dt)|exc (c:Nat)
noncomputable abbrev Frag:=PySem.W.Frag
noncomputable def KL(K:Frag)(a:Addr)(xs:List V):Prop:=∃(o:Obj)(its:Array Value)(n:Nat),K.lookup a=some o/\o.cls= .type "list"/\o.dict=none/\o.data= .seq its n/\its.size<=sizeLine/\au xs its.toList
mutual
noncomputable def RV(K:Frag)(A:Addr->Prop)(H:Hp):V->Dt->Prop
 |x,.aW=>x= .aW
 |x,.bl b=>x= .bl b
 |x,.int i=>x= .int i
 |x,.str z=>x= .str z
 |x,.tup ds=>∃a xs,x= .ref a/\H a=some (.tup xs)/\aq K A H xs ds
 |x,.lst ds=>∃a xs,x= .ref a/\H a=some (.lst xs)/\¬A a/\aq K A H xs ds
 |x,.cc ns=>∃a,x= .ref a/\((Rd H a (.lst (ns.map V.int))/\¬A a)\/KL K a (ns.map V.int))
 |_,.gE _ _=>False
 |x,.obj ks vs=>∃a cY,x= .ref a/\H a=some (.dK cY)/\¬A a/\cY.map (·.1)=ks.map Sum.inr/\aq K A H (cY.map (·.2)) vs
 |_,.exc _=>False
noncomputable def aq(K:Frag)(A:Addr->Prop)(H:Hp):List V->List Dt->Prop
 |[],[]=>True
 |x::xs,d::ds=>RV K A H x d/\aq K A H xs ds
 |[],_::_=>False
 |_::_,[]=>False
end
section
variable{K:Frag}{A B:Addr->Prop}{H H':Hp}
theorem RV.aB{x:V}(h:RV K A H x .aW):x= .aW:=by unfold RV at h;exact h
theorem RV.az{x:V}{b}(h:RV K A H x (.bl b)):x= .bl b:=by unfold RV at h;exact h
theorem RV.int_inv{x:V}{b}(h:RV K A H x (.int b)):x= .int b:=by unfold RV at h;exact h
theorem RV.str_inv{x:V}{b}(h:RV K A H x (.str b)):x= .str b:=by unfold RV at h;exact h
theorem RV.ae{x:V}{ds}(h:RV K A H x (.tup ds)):∃a xs,x= .ref a/\H a=some (.tup xs)/\aq K A H xs ds:=by unfold RV at h;exact h
theorem RV.lst_inv{x:V}{ds}(h:RV K A H x (.lst ds)):∃a xs,x= .ref a/\H a=some (.lst xs)/\¬A a/\aq K A H xs ds:=by unfold RV at h;exact h
theorem RV.eF{x:V}{ns}(h:RV K A H x (.cc ns)):∃a,x= .ref a/\((Rd H a (.lst (ns.map V.int))/\¬A a)\/KL K a (ns.map V.int)):=by unfold RV at h;exact h
theorem RV.jx{x:V}{ns}(h:RV K A H x (.cc ns)):∃a,x= .ref a/\dJ K H a (ns.map V.int):=by
 obtain⟨a,e,h|h⟩:=h.eF
 ·exact⟨a,e,.inl h.1⟩
 ·exact⟨a,e,.inr h⟩
theorem RV.gF{x:V}{ks vs}(h:RV K A H x (.gE ks vs)):False:=by unfold RV at h;exact h
theorem RV.i8{x:V}{ks vs}(h:RV K A H x (.obj ks vs)):∃a cY,x= .ref a/\H a=some (.dK cY)/\¬A a/\cY.map (·.1)=ks.map Sum.inr/\aq K A H (cY.map (·.2)) vs:=by unfold RV at h;exact h
theorem RV.gG{x:V}{ks}(h:RV K A H x (.exc ks)):False:=by unfold RV at h;exact h
theorem RV.iz:RV K A H .aW .aW:=by unfold RV;rfl
theorem RV.p9{b}:RV K A H (.bl b) (.bl b):=by unfold RV;rfl
theorem RV.du{b}:RV K A H (.int b) (.int b):=by unfold RV;rfl
theorem RV.jw{b}:RV K A H (.str b) (.str b):=by unfold RV;rfl
theorem RV.eJ{a xs ds}(h:H a=some (.tup xs))(t:aq K A H xs ds):RV K A H (.ref a) (.tup ds):=by unfold RV;exact⟨a,xs,rfl,h,t⟩
theorem RV.fH{a xs ds}(h:H a=some (.lst xs))(n:¬A a)(t:aq K A H xs ds):RV K A H (.ref a) (.lst ds):=by unfold RV;exact⟨a,xs,rfl,h,n,t⟩
theorem RV.rR{a cY ks vs}(h:H a=some (.dK cY))(n:¬A a)(e:cY.map (·.1)=ks.map Sum.inr)(t:aq K A H (cY.map (·.2)) vs):RV K A H (.ref a) (.obj ks vs):=by unfold RV;exact⟨a,cY,rfl,h,n,e,t⟩
theorem aq.nil:aq K A H [] []:=by unfold aq;trivial
theorem aq.cons{x d xs ds}(h:RV K A H x d)(t:aq K A H xs ds):aq K A H (x::xs) (d::ds):=by unfold aq;exact⟨h,t⟩
theorem aq.nil_inv{xs}(h:aq K A H xs []):xs=[]:=by
 cases xs with
 |nil=>rfl
 |cons=>unfold aq at h;exact h.elim
theorem aq.dS{ds}(h:aq K A H [] ds):ds=[]:=by
 cases ds with
 |nil=>rfl
 |cons=>unfold aq at h;exact h.elim
theorem aq.cons_inv{xs d ds}(h:aq K A H xs (d::ds)):∃x r,xs=x::r/\RV K A H x d/\aq K A H r ds:=by
 cases xs with
 |nil=>unfold aq at h;exact h.elim
 |cons x r=>unfold aq at h;exact⟨x,r,rfl,h⟩
theorem aq.vg{x xs ds}(h:aq K A H (x::xs) ds):∃d r,ds=d::r/\RV K A H x d/\aq K A H xs r:=by
 cases ds with
 |nil=>unfold aq at h;exact h.elim
 |cons d r=>unfold aq at h;exact⟨d,r,rfl,h⟩
theorem aq.length:∀{xs ds},aq K A H xs ds->xs.length=ds.length
 |[],[],_=>rfl
 |[],_::_,h=>by unfold aq at h;exact h.elim
 |_::_,[],h=>by unfold aq at h;exact h.elim
 |_::xs,_::ds,h=>by unfold aq at h;simp[aq.length h.2]
theorem aq.get:∀{xs ds}{i:Nat}{x},aq K A H xs ds->xs[i]?=some x->∃d,ds[i]?=some d/\RV K A H x d
 |[],_,_,_,_,e=>by simp at e
 |_::_,[],_,_,h,_=>by unfold aq at h;exact h.elim
 |_::_,_::_,0,_,h,e=>by unfold aq at h;simp at e;subst e;exact⟨_,rfl,h.1⟩
 |_::xs,_::ds,i+1,x,h,e=>by unfold aq at h;obtain⟨d,e1,e2⟩:=aq.get (i:=i) h.2 (by simpa using e);exact⟨d,by simpa using e1,e2⟩
theorem aq.getD:∀{xs ds}{i:Nat}{d},aq K A H xs ds->ds[i]?=some d->∃x,xs[i]?=some x/\RV K A H x d
 |_,[],_,_,_,e=>by simp at e
 |[],_::_,_,_,h,_=>by unfold aq at h;exact h.elim
 |_::_,_::_,0,_,h,e=>by unfold aq at h;simp at e;subst e;exact⟨_,rfl,h.1⟩
 |_::xs,_::ds,i+1,x,h,e=>by unfold aq at h;obtain⟨d,e1,e2⟩:=aq.getD (i:=i) h.2 (by simpa using e);exact⟨d,by simpa using e1,e2⟩
theorem aq.append:∀{xs ys ds es},aq K A H xs ds->aq K A H ys es->aq K A H (xs++ys) (ds++es)
 |[],_,[],_,_,h=>h
 |[],_,_::_,_,h,_=>by unfold aq at h;exact h.elim
 |_::_,_,[],_,h,_=>by unfold aq at h;exact h.elim
 |_::xs,ys,_::ds,es,h,h'=>by unfold aq at h;exact aq.cons h.1 (aq.append h.2 h')
theorem aq.take:∀{xs ds}(n:Nat),aq K A H xs ds->aq K A H (xs.take n) (ds.take n)
 |[],ds,n,h=>by rw[h.dS];simp;exact aq.nil
 |x::xs,[],n,h=>by unfold aq at h;exact h.elim
 |x::xs,d::ds,0,h=>by simp;exact aq.nil
 |x::xs,d::ds,n+1,h=>by unfold aq at h;simp only[SV];exact aq.cons h.1 (aq.take n h.2)
theorem aq.drop:∀{xs ds}(n:Nat),aq K A H xs ds->aq K A H (xs.drop n) (ds.drop n)
 |[],ds,n,h=>by rw[h.dS];simp;exact aq.nil
 |x::xs,[],n,h=>by unfold aq at h;exact h.elim
 |x::xs,d::ds,0,h=>h
 |x::xs,d::ds,n+1,h=>by unfold aq at h;simp only[RM];exact aq.drop n h.2
theorem aq.set:∀{xs ds}(n:Nat){x d},aq K A H xs ds->RV K A H x d->aq K A H (xs.set n x) (ds.set n d)
 |[],ds,n,_,_,h,_=>by rw[h.dS];simp;exact aq.nil
 |x::xs,[],n,_,_,h,_=>by unfold aq at h;exact h.elim
 |x::xs,d::ds,0,_,_,h,h'=>by unfold aq at h;simp only[List.set_cons_zero];exact aq.cons h' h.2
 |x::xs,d::ds,n+1,_,_,h,h'=>by unfold aq at h;simp only[List.set_cons_succ];exact aq.cons h.1 (aq.set n h.2 h')
theorem aq.rep{xs ds}(h:aq K A H xs ds):∀k:Nat,aq K A H (List.replicate k xs).flatten (List.replicate k ds).flatten
 |0=>by simp;exact aq.nil
 |k+1=>by rw[SG,SG,RY,RY];exact h.append (aq.rep h k)
structure bc(X:Addr->Prop)(H H':Hp):Prop where
 kp:∀b o,H b=some o->¬X b->H' b=some o
 tp:∀b xs,H b=some (.tup xs)->H' b=some (.tup xs)
theorem bc.of_same{X:Addr->Prop}(s:bV H H'):bc X H H':=⟨λb o e _=>s b o e,λb xs e=>s b _ e⟩
theorem bc.refl{X:Addr->Prop}:bc X H H:=⟨λ_ _ e _=>e,λ_ _ e=>e⟩
theorem bc.trans{X:Addr->Prop}{H1:Hp}(a:bc X H H1)(b:bc X H1 H'):bc X H H':=⟨λc o e n=>b.kp c o (a.kp c o e n) n,λc xs e=>b.tp c xs (a.tp c xs e)⟩
theorem bc.mono{X Y:Addr->Prop}(a:bc X H H')(h:∀b,X b->Y b):bc Y H H':=⟨λb o e n=>a.kp b o e λz=>n (h b z),a.tp⟩
theorem yS{X:Addr->Prop}{a:Addr}{u:HO}(e:bc X H H')(n:¬X a)(h:Rd H a u):Rd H' a u:=by
 rcases h with h|⟨o,h⟩
 ·exact .inl (e.kp _ _ h n)
 ·exact .inr ⟨o,e.kp _ _ h n⟩
mutual
theorem RV.mono{X:Addr->Prop}(e:bc X H H')(hX:∀b,X b->A b)(hB:∀b,B b->A b):∀{x d},RV K A H x d->RV K B H' x d
 |x,.aW,h=>by rw[h.aB];exact RV.iz
 |x,.bl b,h=>by rw[h.az];exact RV.p9
 |x,.int b,h=>by rw[h.int_inv];exact RV.du
 |x,.str b,h=>by rw[h.str_inv];exact RV.jw
 |x,.tup ds,h=>by obtain⟨a,xs,rfl,h1,h2⟩:=h.ae;exact RV.eJ (e.tp _ _ h1) (aq.mono e hX hB h2)
 |x,.lst ds,h=>by obtain⟨a,xs,rfl,h1,h3,h2⟩:=h.lst_inv;exact RV.fH (e.kp _ _ h1 λz=>h3 (hX _ z)) (λz=>h3 (hB _ z)) (aq.mono e hX hB h2)
 |x,.cc ns,h=>by
  obtain⟨a,rfl,⟨h1,h3⟩|h1⟩:=h.eF
  ·unfold RV;exact⟨a,rfl,.inl ⟨yS e (λz=>h3 (hX _ z)) h1,λz=>h3 (hB _ z)⟩⟩
  ·unfold RV;exact⟨a,rfl,.inr h1⟩
 |x,.gE ..,h=>h.gF.elim
 |x,.obj ks vs,h=>by obtain⟨a,cY,rfl,h1,h3,h4,h2⟩:=h.i8;exact RV.rR (e.kp _ _ h1 λz=>h3 (hX _ z)) (λz=>h3 (hB _ z)) h4 (aq.mono e hX hB h2)
 |x,.exc ..,h=>h.gG.elim
theorem aq.mono{X:Addr->Prop}(e:bc X H H')(hX:∀b,X b->A b)(hB:∀b,B b->A b):∀{xs ds},aq K A H xs ds->aq K B H' xs ds
 |[],[],_=>aq.nil
 |[],_::_,h=>by unfold aq at h;exact h.elim
 |_::_,[],h=>by unfold aq at h;exact h.elim
 |_::xs,_::ds,h=>by unfold aq at h;exact aq.cons (RV.mono e hX hB h.1) (aq.mono e hX hB h.2)
end
theorem RV.same{x d}(h:RV K A H x d)(s:bV H H'):RV K A H' x d:=h.mono (X:=λ_=>False) (bc.of_same s) (λ_ z=>z.elim) λ_ z=>z
theorem aq.same{x d}(h:aq K A H x d)(s:bV H H'):aq K A H' x d:=h.mono (X:=λ_=>False) (bc.of_same s) (λ_ z=>z.elim) λ_ z=>z
theorem RV.weak{x d}(h:RV K A H x d)(hB:∀b,B b->A b):RV K B H x d:=h.mono (X:=λ_=>False) bc.refl (λ_ z=>z.elim) hB
theorem aq.weak{x d}(h:aq K A H x d)(hB:∀b,B b->A b):aq K B H x d:=h.mono (X:=λ_=>False) bc.refl (λ_ z=>z.elim) hB
mutual
theorem RV.avoid{p:Addr}(hp:H p=none):∀{x d},RV K A H x d->RV K (λb=>A b\/b=p) H x d
 |x,.aW,h=>by rw[h.aB];exact RV.iz
 |x,.bl b,h=>by rw[h.az];exact RV.p9
 |x,.int b,h=>by rw[h.int_inv];exact RV.du
 |x,.str b,h=>by rw[h.str_inv];exact RV.jw
 |x,.tup ds,h=>by obtain⟨a,xs,rfl,h1,h2⟩:=h.ae;exact RV.eJ h1 (aq.avoid hp h2)
 |x,.lst ds,h=>by obtain⟨a,xs,rfl,h1,h3,h2⟩:=h.lst_inv;exact RV.fH h1 (λz=>z.elim h3 λe=>by rw[e,hp]at h1;cases h1) (aq.avoid hp h2)
 |x,.cc ns,h=>by
  obtain⟨a,rfl,⟨h1,h3⟩|h1⟩:=h.eF
  ·unfold RV;refine⟨a,rfl,.inl ⟨h1,λz=>z.elim h3 λe=>?_⟩⟩;subst e;rcases h1 with h1|⟨o,h1⟩<;>(rw[hp]at h1;cases h1)
  ·unfold RV;exact⟨a,rfl,.inr h1⟩
 |x,.gE ..,h=>h.gF.elim
 |x,.obj ks vs,h=>by obtain⟨a,cY,rfl,h1,h3,h4,h2⟩:=h.i8;exact RV.rR h1 (λz=>z.elim h3 λe=>by rw[e,hp]at h1;cases h1) h4 (aq.avoid hp h2)
 |x,.exc ..,h=>h.gG.elim
theorem aq.avoid{p:Addr}(hp:H p=none):∀{xs ds},aq K A H xs ds->aq K (λb=>A b\/b=p) H xs ds
 |[],[],_=>aq.nil
 |[],_::_,h=>by unfold aq at h;exact h.elim
 |_::_,[],h=>by unfold aq at h;exact h.elim
 |_::xs,_::ds,h=>by unfold aq at h;exact aq.cons (RV.avoid hp h.1) (aq.avoid hp h.2)
end
end
section
variable{K:Frag}{A B:Addr->Prop}{H:Hp}
mutual
theorem RV.ck(hp:∀b,B b->A b\/H b=none):∀{x d},RV K A H x d->RV K B H x d
 |x,.aW,h=>by rw[h.aB];exact RV.iz
 |x,.bl b,h=>by rw[h.az];exact RV.p9
 |x,.int b,h=>by rw[h.int_inv];exact RV.du
 |x,.str b,h=>by rw[h.str_inv];exact RV.jw
 |x,.tup ds,h=>by obtain⟨a,xs,rfl,h1,h2⟩:=h.ae;exact RV.eJ h1 (aq.ck hp h2)
 |x,.lst ds,h=>by obtain⟨a,xs,rfl,h1,h3,h2⟩:=h.lst_inv;exact RV.fH h1 (λz=>(hp a z).elim h3 λe=>by rw[e]at h1;cases h1) (aq.ck hp h2)
 |x,.cc ns,h=>by
  obtain⟨a,rfl,⟨h1,h3⟩|h1⟩:=h.eF
  ·unfold RV;refine⟨a,rfl,.inl ⟨h1,λz=>(hp a z).elim h3 λe=>?_⟩⟩;rcases h1 with h1|⟨o,h1⟩<;>(rw[e]at h1;cases h1)
  ·unfold RV;exact⟨a,rfl,.inr h1⟩
 |x,.gE ..,h=>h.gF.elim
 |x,.obj ks vs,h=>by obtain⟨a,cY,rfl,h1,h3,h4,h2⟩:=h.i8;exact RV.rR h1 (λz=>(hp a z).elim h3 λe=>by rw[e]at h1;cases h1) h4 (aq.ck hp h2)
 |x,.exc ..,h=>h.gG.elim
theorem aq.ck(hp:∀b,B b->A b\/H b=none):∀{xs ds},aq K A H xs ds->aq K B H xs ds
 |[],[],_=>aq.nil
 |[],_::_,h=>by unfold aq at h;exact h.elim
 |_::_,[],h=>by unfold aq at h;exact h.elim
 |_::xs,_::ds,h=>by unfold aq at h;exact aq.cons (RV.ck hp h.1) (aq.ck hp h.2)
end
end
mutual
noncomputable def kY:Dt->Bool
 |.aW|.bl _|.int _|.str _=>true
 |.tup ds=>iA ds
 |_=>false
noncomputable def iA:List Dt->Bool
 |[]=>true
 |d::ds=>kY d&&iA ds
end
mutual
theorem RV.kY{K:Frag}{A B:Addr->Prop}{H:Hp}:∀{x d},RV K A H x d->kY d=true->RV K B H x d
 |x,.aW,h,_=>by rw[h.aB];exact RV.iz
 |x,.bl b,h,_=>by rw[h.az];exact RV.p9
 |x,.int b,h,_=>by rw[h.int_inv];exact RV.du
 |x,.str b,h,_=>by rw[h.str_inv];exact RV.jw
 |x,.tup ds,h,n=>by obtain⟨a,xs,rfl,h1,h2⟩:=h.ae;exact RV.eJ h1 (aq.iA h2 (by simpa [Rx.kY]using n))
 |x,.lst ds,_,n=>by simp[Rx.kY]at n
 |x,.cc ds,_,n=>by simp[Rx.kY]at n
 |x,.gE ..,h,_=>h.gF.elim
 |x,.obj ..,_,n=>by simp[Rx.kY]at n
 |x,.exc ..,h,_=>h.gG.elim
theorem aq.iA{K:Frag}{A B:Addr->Prop}{H:Hp}:∀{xs ds},aq K A H xs ds->iA ds=true->aq K B H xs ds
 |[],[],_,_=>aq.nil
 |[],_::_,h,_=>by unfold aq at h;exact h.elim
 |_::_,[],h,_=>by unfold aq at h;exact h.elim
 |_::xs,_::ds,h,n=>by unfold aq at h;simp only[Rx.iA,P5]at n;exact aq.cons (RV.kY h.1 n.1) (aq.iA h.2 n.2)
end
mutual
noncomputable def toD:Dt->Option Mx.D
 |.int i=>some (.int i)
 |.str x=>some (.str x)
 |.tup ds=>(fL ds).map Mx.D.tup
 |_=>none
noncomputable def fL:List Dt->Option (List Mx.D)
 |[]=>some []
 |d::ds=>(toD d).bind λm=>(fL ds).map (m:: ·)
end
mutual
noncomputable def ofD:Mx.D->Dt
 |.int i=>.int i
 |.str x=>.str x
 |.tup ds=>.tup (cv ds)
noncomputable def cv:List Mx.D->List Dt
 |[]=>[]
 |d::ds=>ofD d::cv ds
end
theorem k7:∀ds:List Mx.D,cv ds=ds.map ofD
 |[]=>by simp[cv]
 |d::ds=>by simp[cv,k7 ds]
mutual
theorem E5:∀m:Mx.D,toD (ofD m)=some m
 |.int i=>by simp[ofD,toD]
 |.str x=>by simp[ofD,toD]
 |.tup ds=>by simp[ofD,toD,kg ds]
theorem kg:∀ms:List Mx.D,fL (cv ms)=some ms
 |[]=>by simp[cv,fL]
 |m::ms=>by simp[cv,fL,E5 m,kg ms]
end
mutual
theorem D2:∀{d:Dt}{m:Mx.D},toD d=some m->d=ofD m
 |.int i,m,h=>by simp[toD]at h;subst h;simp[ofD]
 |.str i,m,h=>by simp[toD]at h;subst h;simp[ofD]
 |.tup ds,m,h=>by simp only[toD,Ql]at h;obtain⟨ms,h1,rfl⟩:=h;rw[i9 h1];simp[ofD]
 |.aW,m,h=>by simp[toD]at h
 |.bl _,m,h=>by simp[toD]at h
 |.lst _,m,h=>by simp[toD]at h
 |.cc _,m,h=>by simp[toD]at h
 |.gE _ _,m,h=>by simp[toD]at h
 |.obj _ _,m,h=>by simp[toD]at h
 |.exc _,m,h=>by simp[toD]at h
theorem i9:∀{ds:List Dt}{ms:List Mx.D},fL ds=some ms->ds=cv ms
 |[],ms,h=>by simp[fL]at h;subst h;simp[cv]
 |d::ds,ms,h=>by simp only[fL,PZ,Ql]at h;obtain⟨m,h1,r,h2,rfl⟩:=h;rw[D2 h1,i9 h2];simp[cv]
end
mutual
theorem RV.dv{K:Frag}{A:Addr->Prop}{H:Hp}:∀{x}{m:Mx.D},RV K A H x (ofD m)->Mx.DV H x m
 |x,.int i,h=>by simp only[ofD]at h;rw[h.int_inv];exact Mx.DV.int
 |x,.str i,h=>by simp only[ofD]at h;rw[h.str_inv];exact Mx.DV.str
 |x,.tup ms,h=>by simp only[ofD]at h;obtain⟨a,xs,rfl,h1,h2⟩:=h.ae;exact Mx.DV.tup h1 (aq.vi h2)
theorem aq.vi{K:Frag}{A:Addr->Prop}{H:Hp}:∀{xs}{ms:List Mx.D},aq K A H xs (cv ms)->Mx.bb H xs ms
 |[],[],_=>Mx.bb.nil
 |[],_::_,h=>by simp only[cv]at h;unfold aq at h;exact h.elim
 |_::_,[],h=>by simp only[cv]at h;unfold aq at h;exact h.elim
 |_::xs,_::ds,h=>by simp only[cv]at h;unfold aq at h;exact Mx.bb.cons (RV.dv h.1) (aq.vi h.2)
end
mutual
theorem RV.HA{K:Frag}{A:Addr->Prop}{H:Hp}:∀{x}{m:Mx.D},Mx.DV H x m->RV K A H x (ofD m)
 |x,.int i,h=>by simp only[ofD];rw[h.int_inv];exact RV.du
 |x,.str i,h=>by simp only[ofD];rw[h.str_inv];exact RV.jw
 |x,.tup ms,h=>by simp only[ofD];obtain⟨a,xs,rfl,h1,h2⟩:=h.ae;exact RV.eJ h1 (aq.rZ h2)
theorem aq.rZ{K:Frag}{A:Addr->Prop}{H:Hp}:∀{xs}{ms:List Mx.D},Mx.bb H xs ms->aq K A H xs (cv ms)
 |[],[],_=>by simp only[cv];exact aq.nil
 |[],_::_,h=>by unfold Mx.bb at h;exact h.elim
 |_::_,[],h=>by unfold Mx.bb at h;exact h.elim
 |_::xs,_::ds,h=>by simp only[cv];unfold Mx.bb at h;exact aq.cons (RV.HA h.1) (aq.rZ h.2)
end
mutual
noncomputable def dG:Dt->Dt->Bool
 |.aW,.aW=>true
 |.bl a,.bl b=>a==b
 |.int a,.int b=>a==b
 |.bl a,.int b=>(if a then(1:Int) else 0)==b
 |.int a,.bl b=>a==(if b then(1:Int) else 0)
 |.str a,.str b=>a==b
 |.tup a,.tup b=>eD a b
 |.lst a,.lst b=>eD a b
 |_,_=>false
noncomputable def eD:List Dt->List Dt->Bool
 |[],[]=>true
 |x::xs,y::ys=>dG x y&&eD xs ys
 |_,_=>false
end
mutual
noncomputable def pl:Dt->Bool
 |.aW|.bl _|.int _|.str _=>true
 |.tup ds=>l8 ds
 |.lst ds=>l8 ds
 |_=>false
noncomputable def l8:List Dt->Bool
 |[]=>true
 |d::ds=>pl d&&l8 ds
end
mutual
noncomputable def dp:Dt->Nat
 |.tup ds=>pA ds+1
 |.lst ds=>pA ds+1
 |_=>0
noncomputable def pA:List Dt->Nat
 |[]=>0
 |d::ds=>max (dp d) (pA ds)
end
mutual
theorem gO:∀d:Dt,pl d=true->dG d d=true
 |.aW,_=>by simp[dG]
 |.bl b,_=>by simp[dG]
 |.int b,_=>by simp[dG]
 |.str b,_=>by simp[dG]
 |.tup ds,h=>by simp only[dG];exact iD ds (by simpa [pl]using h)
 |.lst ds,h=>by simp only[dG];exact iD ds (by simpa [pl]using h)
 |.cc _,h=>by simp[pl]at h
 |.gE _ _,h=>by simp[pl]at h
 |.obj _ _,h=>by simp[pl]at h
 |.exc _,h=>by simp[pl]at h
theorem iD:∀ds:List Dt,l8 ds=true->eD ds ds=true
 |[],_=>by simp[eD]
 |d::ds,h=>by simp only[l8,P5]at h;simp only[eD,P5];exact⟨gO d h.1,iD ds h.2⟩
end
noncomputable def Pj:Dt->Nat
 |.aW=>0|.bl _=>1|.int _=>2|.str _=>3|.tup _=>4|.lst _=>5|_=>6
noncomputable def Mt(H:Hp):V->Nat
 |.aW=>0|.bl _=>1|.int _=>2|.str _=>3
 |.ref a=>(match H a with|some (.tup _)=>4|some (.lst _)=>5|_=>6)
 |_=>6
theorem RV.tg{K:Frag}{A:Addr->Prop}{H:Hp}{x:V}{d:Dt}(h:RV K A H x d)(n:pl d=true):Mt H x=Pj d:=by
 cases d with
 |aW=>rw[h.aB];rfl
 |bl=>rw[h.az];rfl
 |int=>rw[h.int_inv];rfl
 |str=>rw[h.str_inv];rfl
 |tup=>obtain⟨a,xs,rfl,h1,_⟩:=h.ae;unfold Mt;dsimp only;rw[h1];rfl
 |lst=>obtain⟨a,xs,rfl,h1,_⟩:=h.lst_inv;unfold Mt;dsimp only;rw[h1];rfl
 |_=>simp[pl]at n
mutual
theorem RV.inj{K:Frag}{A B:Addr->Prop}{H:Hp}:∀{x d e},RV K A H x d->RV K B H x e->pl d=true->pl e=true->d=e
 |x,.aW,e,h,g,m,n=>by have t:=(h.tg m).symm.trans (g.tg n);cases e<;>first|rfl|exact absurd t (TZ rfl)
 |x,.bl b,e,h,g,m,n=>by have t:=(h.tg m).symm.trans (g.tg n);cases e<;>first|exact absurd t (TZ rfl)|(cases h.az.symm.trans g.az;rfl)
 |x,.int b,e,h,g,m,n=>by have t:=(h.tg m).symm.trans (g.tg n);cases e<;>first|exact absurd t (TZ rfl)|(cases h.int_inv.symm.trans g.int_inv;rfl)
 |x,.str b,e,h,g,m,n=>by have t:=(h.tg m).symm.trans (g.tg n);cases e<;>first|exact absurd t (TZ rfl)|(cases h.str_inv.symm.trans g.str_inv;rfl)
 |x,.tup ds,e,h,g,m,n=>by
  have t:=(h.tg m).symm.trans (g.tg n);cases e with
  |tup es=>obtain⟨a,xs,rfl,h1,h2⟩:=h.ae;obtain⟨b,ys,q,g1,g2⟩:=g.ae;cases q;rw[h1]at g1;cases g1;rw[aq.inj h2 g2 (by simpa [pl]using m) (by simpa [pl]using n)]
  |_=>exact absurd t (TZ rfl)
 |x,.lst ds,e,h,g,m,n=>by
  have t:=(h.tg m).symm.trans (g.tg n);cases e with
  |lst es=>obtain⟨a,xs,rfl,h1,_,h2⟩:=h.lst_inv;obtain⟨b,ys,q,g1,_,g2⟩:=g.lst_inv;cases q;rw[h1]at g1;cases g1;rw[aq.inj h2 g2 (by simpa [pl]using m) (by simpa [pl]using n)]
  |_=>exact absurd t (TZ rfl)
 |x,.cc ds,_,_,_,n,_=>by simp[pl]at n
 |x,.gE ..,_,_,_,n,_=>by simp[pl]at n
 |x,.obj ..,_,_,_,n,_=>by simp[pl]at n
 |x,.exc ..,_,_,_,n,_=>by simp[pl]at n
theorem aq.inj{K:Frag}{A B:Addr->Prop}{H:Hp}:∀{xs ds es},aq K A H xs ds->aq K B H xs es->l8 ds=true->l8 es=true->ds=es
 |xs,[],es,h,g,_,_=>by
  cases xs with
  |nil=>rw[g.dS]
  |cons=>unfold aq at h;exact h.elim
 |xs,d::ds,es,h,g,m,n=>by
  cases xs with
  |nil=>unfold aq at h;exact h.elim
  |cons x xs=>unfold aq at h;obtain⟨e,t,rfl,g1,g2⟩:=g.vg;have m':=Bool.and_eq_true_iff.mp m;have n':=Bool.and_eq_true_iff.mp n;rw[RV.inj h.1 g1 m'.1 n'.1,aq.inj h.2 g2 m'.2 n'.2]
end
noncomputable def uC(ds es:List Dt)(j:Nat):Bool:=match ds[j]?,es[j]? with
 |some d,some e=>dG d e
 |_,_=>true
theorem cP:∀ds es:List Dt,((List.range (min ds.length es.length)).all (uC ds es)&&ds.length==es.length)=eD ds es
 |[],[]=>by simp[eD]
 |[],_::_=>by simp[eD]
 |_::_,[]=>by simp[eD]
 |d::ds,e::es=>by
  have ih:=cP ds es;have hm:min (d::ds).length (e::es).length=min ds.length es.length+1:=by simp only[Qo];lia
  have e1:((d::ds).length==(e::es).length)=(ds.length==es.length):=by rw[Q0];simp
  rw[hm,List.range_succ_eq_map,RD,List.all_map,e1,eD,<-ih,Bool.and_assoc];rfl
theorem kE{d:Dt}:∀{ds:List Dt}{j:Nat},ds[j]?=some d->dp d<=pA ds
 |[],_,h=>by simp at h
 |d'::ds,0,h=>by simp at h;subst h;unfold pA;lia
 |d'::ds,j+1,h=>by have:=kE (ds:=ds) (j:=j) (by simpa using h);unfold pA;lia
theorem eK{d:Dt}:∀{ds:List Dt}{j:Nat},l8 ds=true->ds[j]?=some d->pl d=true
 |[],_,_,h=>by simp at h
 |d'::ds,0,n,h=>by simp at h;subst h;simp only[l8,P5]at n;exact n.1
 |d'::ds,j+1,n,h=>by simp only[l8,P5]at n;exact eK (ds:=ds) (j:=j) n.2 (by simpa using h)
section
variable{P:Program}{w:World}{K:Frag}{A B:Addr->Prop}{H:Hp}{s:Shared}
theorem aP(hok:fv P w H s.heap){a:Addr}{xs:List V}(h:H a=some (.lst xs)):∃its:List Value,au xs its/\s.heap.IsList a its.toArray:=by obtain⟨_,its,n,r,t⟩:=hok a _ h;exact⟨its,r,⟨_,t,rfl,_,rfl⟩⟩
theorem BZ(hok:fv P w H s.heap):∀(n:Nat)(d e:Dt)(x y:V)(u v:Value)(R:Around),dp d<=n->pl d=true->pl e=true->R.units+n<cLine->RV K A H x d->RV K B H y e->RelV x u->RelV y v->EqAt R s u v (dG d e):=by
 intro n
 induction n with
 |zero=>
  intro d e x y u v R hd oh fT hu hx hy rx ry;cases d with
  |aW=>
   have:=hx.aB;subst this;cases rx;cases e with
   |aW=>have:=hy.aB;subst this;cases ry;exact EqAt.same _
   |bl j=>have:=hy.az;subst this;cases ry;exact EqAt.none_bool j
   |int j=>have:=hy.int_inv;subst this;obtain⟨t',rfl⟩:=ry;exact EqAt.none_int j t'
   |str j=>have:=hy.str_inv;subst this;obtain⟨t',rfl⟩:=ry;exact EqAt.none_str j t'
   |tup j=>obtain⟨b,ys,q,f1,f2⟩:=hy.ae;subst q;cases ry;obtain⟨its,_,ht⟩:=Mx.ar hok f1;exact EqAt.none_tuple ht ⋯
   |lst j=>obtain⟨b,ys,q,f1,_,f2⟩:=hy.lst_inv;subst q;cases ry;obtain⟨its,_,ht⟩:=aP hok f1;exact EqAt.none_list ht ⋯
   |_=>simp[pl]at fT
  |bl i=>
   have:=hx.az;subst this;cases rx;cases e with
   |aW=>have:=hy.aB;subst this;cases ry;exact EqAt.bool_none _
   |bl j=>have:=hy.az;subst this;cases ry;exact EqAt.bool_bool i j
   |int j=>have:=hy.int_inv;subst this;obtain⟨t',rfl⟩:=ry;exact EqAt.bool_int i j t'
   |str j=>have:=hy.str_inv;subst this;obtain⟨t',rfl⟩:=ry;exact EqAt.bool_str i j t'
   |tup j=>obtain⟨b,ys,q,f1,f2⟩:=hy.ae;subst q;cases ry;obtain⟨its,_,ht⟩:=Mx.ar hok f1;exact EqAt.bool_tuple i ht ⋯
   |lst j=>obtain⟨b,ys,q,f1,_,f2⟩:=hy.lst_inv;subst q;cases ry;obtain⟨its,_,ht⟩:=aP hok f1;exact EqAt.bool_list i ht ⋯
   |_=>simp[pl]at fT
  |int i=>
   have:=hx.int_inv;subst this;obtain⟨t,rfl⟩:=rx;cases e with
   |aW=>have:=hy.aB;subst this;cases ry;exact EqAt.int_none i t
   |bl j=>have:=hy.az;subst this;cases ry;exact EqAt.int_bool i t j
   |int j=>have:=hy.int_inv;subst this;obtain⟨t',rfl⟩:=ry;exact EqAt.int_int i t j t'
   |str j=>have:=hy.str_inv;subst this;obtain⟨t',rfl⟩:=ry;exact EqAt.int_str i t j t'
   |tup j=>obtain⟨b,ys,q,f1,f2⟩:=hy.ae;subst q;cases ry;obtain⟨its,_,ht⟩:=Mx.ar hok f1;exact EqAt.int_tuple i t ht ⋯
   |lst j=>obtain⟨b,ys,q,f1,_,f2⟩:=hy.lst_inv;subst q;cases ry;obtain⟨its,_,ht⟩:=aP hok f1;exact EqAt.int_list i t ht ⋯
   |_=>simp[pl]at fT
  |str i=>
   have:=hx.str_inv;subst this;obtain⟨t,rfl⟩:=rx;cases e with
   |aW=>have:=hy.aB;subst this;cases ry;exact EqAt.str_none i t
   |bl j=>have:=hy.az;subst this;cases ry;exact EqAt.str_bool i t j
   |int j=>have:=hy.int_inv;subst this;obtain⟨t',rfl⟩:=ry;exact EqAt.str_int i t j t'
   |str j=>have:=hy.str_inv;subst this;obtain⟨t',rfl⟩:=ry;exact EqAt.str_str i t j t'
   |tup j=>obtain⟨b,ys,q,f1,f2⟩:=hy.ae;subst q;cases ry;obtain⟨its,_,ht⟩:=Mx.ar hok f1;exact EqAt.str_tuple i t ht ⋯
   |lst j=>obtain⟨b,ys,q,f1,_,f2⟩:=hy.lst_inv;subst q;cases ry;obtain⟨its,_,ht⟩:=aP hok f1;exact EqAt.str_list i t ht ⋯
   |_=>simp[pl]at fT
  |tup ds=>unfold dp at hd;lia
  |lst ds=>unfold dp at hd;lia
  |_=>simp[pl]at oh
 |succ n ih=>
  intro d e x y u v R hd oh fT hu hx hy rx ry;cases d with
  |tup ds=>
   obtain⟨a,xs,q,e1,e2⟩:=hx.ae;subst q;cases rx;obtain⟨its,r1,ht⟩:=Mx.ar hok e1;cases e with
   |aW=>have:=hy.aB;subst this;cases ry;exact EqAt.tuple_none ht ⋯
   |bl j=>have:=hy.az;subst this;cases ry;exact EqAt.tuple_bool j ht ⋯
   |int j=>have:=hy.int_inv;subst this;obtain⟨t',rfl⟩:=ry;exact EqAt.tuple_int j t' ht ⋯
   |str j=>have:=hy.str_inv;subst this;obtain⟨t',rfl⟩:=ry;exact EqAt.tuple_str j t' ht ⋯
   |lst j=>obtain⟨b,ys,q,f1,_,f2⟩:=hy.lst_inv;subst q;cases ry;obtain⟨aM,_,b9⟩:=aP hok f1;exact EqAt.tuple_list ht b9 ⋯
   |tup es=>
    obtain⟨b,ys,q,f1,f2⟩:=hy.ae;subst q;cases ry;obtain⟨aM,r2,b9⟩:=Mx.ar hok f1;by_cases fS:a=b
    ·subst fS;have:=RV.inj hx hy oh fT;cases this;rw[gO _ oh];exact EqAt.same _
    ·have l1:its.toArray.size=ds.length:=by rw[P6,<-r1.length,e2.length]
     have l2:aM.toArray.size=es.length:=by rw[P6,<-r2.length,f2.length]
     have key:=RcAt.tuples (A:=R) (e:=uC ds es) ht b9 ⋯ (λj h1 h2=>?_)
     ·have q:=cP ds es;rw[<-l1,<-l2]at q;rw[q]at key;exact EqAt.of_refs fS key
     ·have pI:j<xs.length:=by rw[e2.length,<-l1];exact h1
      have pJ:j<ys.length:=by rw[f2.length,<-l2];exact h2
      obtain⟨d,g1,g2⟩:=e2.get (i:=j) (x:=xs[j]) (by simp[pI]);obtain⟨e,k1,k2⟩:=f2.get (i:=j) (x:=ys[j]) (by simp[pJ]);obtain⟨u,AF,ru⟩:=r1.get (i:=j) (x:=xs[j]) (by simp[pI]);obtain⟨v,DF,rv⟩:=r2.get (i:=j) (x:=ys[j]) (by simp[pJ]);have eu:its.toArray[j]=u:=by simp only[R8];exact(P8.mp AF).2
      have ev:aM.toArray[j]=v:=by simp only[R8];exact(P8.mp DF).2
      rw[eu,ev,show uC ds es j=dG d e by unfold uC;rw[g1,k1]];have:=kE g1;unfold dp at hd;exact ih d e xs[j] ys[j] u v R.in1 ⋯ (eK (by simpa [pl]using oh) g1) (eK (by simpa [pl]using fT) k1) (by show R.units+1+n<cLine;lia) g2 k2 ru rv
   |_=>simp[pl]at fT
  |lst ds=>
   obtain⟨a,xs,q,e1,_,e2⟩:=hx.lst_inv;subst q;cases rx;obtain⟨its,r1,ht⟩:=aP hok e1;cases e with
   |aW=>have:=hy.aB;subst this;cases ry;exact EqAt.list_none ht ⋯
   |bl j=>have:=hy.az;subst this;cases ry;exact EqAt.list_bool j ht ⋯
   |int j=>have:=hy.int_inv;subst this;obtain⟨t',rfl⟩:=ry;exact EqAt.list_int j t' ht ⋯
   |str j=>have:=hy.str_inv;subst this;obtain⟨t',rfl⟩:=ry;exact EqAt.list_str j t' ht ⋯
   |tup j=>obtain⟨b,ys,q,f1,f2⟩:=hy.ae;subst q;cases ry;obtain⟨aM,_,b9⟩:=Mx.ar hok f1;exact EqAt.list_tuple ht b9 ⋯
   |lst es=>
    obtain⟨b,ys,q,f1,_,f2⟩:=hy.lst_inv;subst q;cases ry;obtain⟨aM,r2,b9⟩:=aP hok f1;by_cases fS:a=b
    ·subst fS;have:=RV.inj hx hy oh fT;cases this;rw[gO _ oh];exact EqAt.same _
    ·have l1:its.toArray.size=ds.length:=by rw[P6,<-r1.length,e2.length]
     have l2:aM.toArray.size=es.length:=by rw[P6,<-r2.length,f2.length]
     have q:=cP ds es;by_cases hl:ds.length=es.length
     ·have key:=RcAt.lists (A:=R) (e:=uC ds es) ht b9 ⋯ ⋯ (λj h1 h2=>?_)
      ·rw[hl,Nat.min_self,TF,QZ]at q;rw[l1,hl,q]at key;exact EqAt.of_refs fS key
      ·have pI:j<xs.length:=by rw[e2.length,<-l1];exact h1
       have pJ:j<ys.length:=by rw[f2.length,<-l2];exact h2
       obtain⟨d,g1,g2⟩:=e2.get (i:=j) (x:=xs[j]) (by simp[pI]);obtain⟨e,k1,k2⟩:=f2.get (i:=j) (x:=ys[j]) (by simp[pJ]);obtain⟨u,AF,ru⟩:=r1.get (i:=j) (x:=xs[j]) (by simp[pI]);obtain⟨v,DF,rv⟩:=r2.get (i:=j) (x:=ys[j]) (by simp[pJ]);have eu:its.toArray[j]=u:=by simp only[R8];exact(P8.mp AF).2
       have ev:aM.toArray[j]=v:=by simp only[R8];exact(P8.mp DF).2
       rw[eu,ev,show uC ds es j=dG d e by unfold uC;rw[g1,k1]];have:=kE g1;unfold dp at hd;exact ih d e xs[j] ys[j] u v R.in1 ⋯ (eK (by simpa [pl]using oh) g1) (eK (by simpa [pl]using fT) k1) (by show R.units+1+n<cLine;lia) g2 k2 ru rv
     ·have key:=RcAt.lists_lengths (A:=R) ht b9 (by rw[l1,l2];simpa using hl) ⋯;have hb:(ds.length==es.length)=false:=by simpa using hl
      rw[hb,QY]at q;show EqAt R s _ _ (eD ds es);rw[<-q];exact EqAt.of_refs fS key
   |_=>simp[pl]at fT
  |_=>exact ih _ e x y u v R (by unfold dp;lia) oh fT ⋯ hx hy rx ry
end
inductive R(α:Type)where
 |ok (a:α)|ex (c:Nat)|bad
noncomputable def R.bind{α β:Type}:R α->(α->R β)->R β
 |.ok a,f=>f a
 |.ex c,_=>.ex c
 |.bad,_=>.bad
@[simp] theorem R.ah{α β:Type}(a:α)(f:α->R β):(R.ok a).bind f=f a:=rfl
noncomputable def R.nx{α:Type}:R α->R α
 |.ok a=>.ok a
 |_=>.bad
noncomputable abbrev lim:Nat:=1000000
noncomputable abbrev ao:=List (Option Dt)
noncomputable abbrev Sx:=Option (List Int)
noncomputable def af(b:Bool){α:Type}(r:R α):R α:=if b then r else .bad
@[simp] theorem guard_true{α:Type}(r:R α):af true r=r:=rfl
noncomputable def l6(o:Operator)(a b:Dt):R Dt:=match o with
 |.Add=>match a,b with
  |.int i,.int j=>.ok (.int (i+j))
  |.lst x,.lst y=>af (decide (x.length+y.length<=lim)) (.ok (.lst (x++y)))
  |.tup x,.tup y=>af (decide (x.length+y.length<=lim)) (.ok (.tup (x++y)))
  |_,_=>.bad
 |.Sub=>match a,b with
  |.int i,.int j=>.ok (.int (i-j))
  |_,_=>.bad
 |.Mult=>match a,b with
  |.int i,.int j=>af (decide (i.natAbs<2^64)||decide (j.natAbs<2^64)) (.ok (.int (i*j)))
  |.tup x,.int k=>af (decide (k.natAbs<=lim)&&decide (x.length*k.toNat<=lim)) (.ok (.tup (List.replicate k.toNat x).flatten))
  |_,_=>.bad
 |.FloorDiv=>match a,b with
  |.int i,.int j=>af (decide (0<j)&&decide (j.natAbs.log2<9000)) (.ok (.int (i/j)))
  |_,_=>.bad
 |.Mod=>match a,b with
  |.int i,.int j=>af (decide (0<j)) (.ok (.int (i % j)))
  |_,_=>.bad
 |_=>.bad
noncomputable def inD(d:Dt)(ds:List Dt):Bool:=ds.any λe=>dG e d
noncomputable def pB(d e:Dt):Bool:=pl d&&pl e&&decide (dp d<=100)
noncomputable def itemsOf:Dt->Option (List Dt)
 |.lst ds=>some ds
 |.tup ds=>some ds
 |.cc ns=>some (ns.map Dt.int)
 |_=>none
noncomputable def df:Dt->Option (List Dt)
 |.lst ds=>some ds
 |.tup ds=>some ds
 |_=>none
mutual
noncomputable def vC:Mx.D->Mx.D->Bool
 |.int _,.int _=>true
 |.str _,.str _=>true
 |.tup a,.tup b=>lZ a b
 |_,_=>false
noncomputable def lZ:List Mx.D->List Mx.D->Bool
 |x::xs,y::ys=>vC x y&&lZ xs ys
 |_,_=>true
end
noncomputable def cL:CmpOp->Dt->Dt->R Bool
 |.Eq,a,b=>af (pB a b) (.ok (dG a b))
 |.NotEq,a,b=>af (pB a b) (.ok (!dG a b))
 |.Lt,.int i,.int j=>.ok (decide (i<j))
 |.LtE,.int i,.int j=>.ok (decide (i<=j))
 |.Gt,.int i,.int j=>.ok (decide (j<i))
 |.GtE,.int i,.int j=>.ok (decide (j<=i))
 |.GtE,.tup a,.tup b=>match fL a,fL b with
  |some xs,some ys=>af (lZ xs ys&&decide (Mx.D.dC xs<=100)) (.ok (!Mx.D.dm xs ys))
  |_,_=>.bad
 |.Is,a,.aW=>.ok (match a with|.aW=>true|_=>false)
 |.IsNot,a,.aW=>.ok (match a with|.aW=>false|_=>true)
 |.NotIn,a,.lst ds=>af (pl a&&l8 ds&&decide (pA ds<=100)) (.ok (!inD a ds))
 |_,_,_=>.bad
noncomputable def d9:Dt->R Bool
 |.aW=>.ok false
 |.bl b=>.ok b
 |.int i=>.ok (i != 0)
 |.str y=>af (decide (y.length<=lim)) (.ok ((y.length:Int) != 0))
 |.lst ds=>.ok !ds.isEmpty
 |.tup ds=>.ok !ds.isEmpty
 |.cc ds=>.ok !ds.isEmpty
 |_=>.bad
noncomputable def u4(ds:List Dt)(i:Int):R Dt:=match mv ds i with
 |some d=>.ok d
 |none=>.bad
noncomputable def cu:Dt->Dt->R Dt
 |.lst ds,.int i=>u4 ds i
 |.tup ds,.int i=>u4 ds i
 |.cc ns,.int i=>u4 (ns.map Dt.int) i
 |_,_=>.bad
noncomputable def cutD{α:Type}(xs:List α)(lo hi:Option Int):List α:=(xs.drop (HT.bU xs.length 0 lo)).take (HT.bU xs.length xs.length hi-HT.bU xs.length 0 lo)
noncomputable def fk:Dt->Option Int->Option Int->R Dt
 |.lst ds,lo,hi=>.ok (.lst (cutD ds lo hi))
 |.cc ds,lo,hi=>.ok (.lst (cutD (ds.map Dt.int) lo hi))
 |.tup ds,lo,hi=>.ok (.tup (cutD ds lo hi))
 |_,_,_=>.bad
inductive BI where
 |len|abs|min2|max2|sum|any|maxL|sorted|tuple|list|isi (T:String)|dvm
 deriving DecidableEq
noncomputable def intsOf:List Dt->Option (List Int)
 |[]=>some []
 |.int i::r=>(intsOf r).map (i:: ·)
 |_=>none
noncomputable def iO:List Dt->Option (List Bool)
 |[]=>some []
 |.bl i::r=>(iO r).map (i:: ·)
 |_=>none
noncomputable def ug(a b:Mx.D):Bool:= !Mx.D.lt b a
noncomputable def eI(ds:List Mx.D):List Mx.D:=ds.mergeSort ug
noncomputable def Hh(k:Mx.SK):Mx.D->Bool
 |.tup (.tup _::_)=>k== .tt
 |.tup (.str _::_)=>k== .ts
 |.tup (.int _::_)=>k== .ti
 |.str _=>k== .s
 |.int _=>k== .i
 |_=>false
noncomputable def jM(ds:List Mx.D):Bool:=decide (ds.length<1000000)&&(decide (ds.length<2)||(decide (Mx.D.dC ds<=100)&&([Mx.SK.tt,.ts,.ti,.s,.i].any λk=>ds.all (Hh k))&&ds.all λd=>ds.all λe=>vC d e))
noncomputable def dd:List Str->List Str
 |[]=>[]
 |x::r=>if x∈dd r then dd r else x::dd r
noncomputable def rQ:List Int->Int
 |[]=>0
 |[a]=>a
 |a::r=>min a (rQ r)
noncomputable def dq:List Int->Int
 |[]=>0
 |[a]=>a
 |a::r=>max a (dq r)
noncomputable def strsOf:List Dt->Option (List Str)
 |[]=>some []
 |.str i::r=>(strsOf r).map (i:: ·)
 |_=>none
noncomputable def cX(xs ys:List Dt):List Dt:=List.zipWith (λx y=>Dt.tup [x,y]) xs ys
noncomputable def xg:Nat->List Dt->List Dt
 |_,[]=>[]
 |i,x::xs=>Dt.tup [.int i,x]::xg (i+1) xs
noncomputable def vx(T:String):Dt->R Bool
 |.str _=>.ok (T=="str")
 |.int _=>.ok (T=="int")
 |.bl _=>.ok (T=="bool"||T=="int")
 |.lst _=>.ok (T=="list")
 |.tup _=>.ok (T=="tuple")
 |.aW=>.ok false
 |_=>.bad
noncomputable def NS(d:Dt):Option (Str×Dt):=match d with
 |.tup ds=>match ds with
  |[a,v]=>match a with
   |.str k=>some (k,v)
   |_=>none
  |_=>none
 |_=>none
noncomputable def d6(b:BI)(as:List Dt):R Dt:=match b with
 |.len=>match as with
  |[.lst ds]=>.ok (.int ds.length)
  |[.tup ds]=>.ok (.int ds.length)
  |[.cc ds]=>.ok (.int ds.length)
  |_=>.bad
 |.abs=>match as with
  |[.int i]=>.ok (.int (if i<0 then -i else i))
  |_=>.bad
 |.min2=>match as with
  |[.int i,.int j]=>.ok (.int (if j<i then j else i))
  |_=>.bad
 |.max2=>match as with
  |[.int i,.int j]=>.ok (.int (if j>i then j else i))
  |_=>.bad
 |.sum=>match as with
  |[.lst ds]=>match intsOf ds with|some ns=>.ok (.int ns.sum)|none=>.bad
  |[.tup ds]=>match intsOf ds with|some ns=>.ok (.int ns.sum)|none=>.bad
  |_=>.bad
 |.any=>match as with
  |[.lst ds]=>match iO ds with|some ns=>.ok (.bl (ns.any id))|none=>.bad
  |_=>.bad
 |.sorted=>match as with
  |[d]=>match itemsOf d with
   |some ds=>match fL ds with
    |some ms=>af (jM ms) (.ok (.lst (cv (eI ms))))
    |none=>.bad
   |none=>.bad
  |_=>.bad
 |.tuple=>match as with
  |[.lst ds]=>.ok (.tup ds)
  |[.tup ds]=>.ok (.tup ds)
  |_=>.bad
 |.list=>match as with
  |[.lst ds]=>.ok (.lst ds)
  |[.tup ds]=>.ok (.lst ds)
  |[.cc ns]=>.ok (.lst (ns.map Dt.int))
  |_=>.bad
 |.isi T=>match as with
  |[d]=>(vx T d).bind λb=>.ok (.bl b)
  |_=>.bad
 |.maxL=>match as with
  |[.lst ds]=>match intsOf ds with|some ns=>af (!ns.isEmpty) (.ok (.int (dq ns)))|none=>.bad
  |_=>.bad
 |.dvm=>match as with
  |[.int i,.int j]=>af (decide (j≠0)&&decide (j.natAbs.log2<9000)) (.ok (.tup [.int (i.fdiv j),.int (i.fmod j)]))
  |_=>.bad
noncomputable def isStr:Dt->Bool
 |.str _=>true
 |_=>false
inductive MT where
 |join
 deriving DecidableEq
noncomputable def O5:MT->Dt->List Dt->R Dt
 |.join,.str z,[.lst ds]=>match strsOf ds with
  |some ys=>af (decide ((ys.map (·.length)).sum+ys.length*z.length<=lim)) (.ok (.str (PySem.Txt.join z ys)))
  |none=>.bad
 |_,_,_=>.bad
inductive Tg where
 |nm (i:Nat)|tp (is:List Nat)
 deriving DecidableEq
mutual
inductive C where
 |con (d:Dt)|var (i:Nat)|mvr (i:Nat)
 |bin (o:Operator) (a b:C)|cmp (o:CmpOp) (a b:C)|ch (o p:CmpOp) (a b c:C)
 |neg (a:C)|nt (a:C)|and (a b:C)|or (a b:C)|ite (t a b:C)
 |idx (a b:C)|sliL (a lo:C)|sliH (a hi:C)|sliB (a lo hi:C)
 |tup (es:Cs)|lst (es:Cs)
 |call (f:Nat) (es:Cs) (ds:List Dt)|callD (f:Nat) (es:Cs)|popD|lenD
 |bi (b:BI) (es:Cs)|mt (m:MT) (o:C) (es:Cs)
 |Gx (i:Nat) (k e:C)|fP (i:Nat)|gtO (o k e:C)
 |comp (cap:List (Option Nat)) (it:mq) (tg:Tg) (ts:Cs) (e:C)
 |g6 (cap:List (Option Nat)) (it:mq) (tg:Tg) (ts:Cs) (g9:mq) (jz:Tg) (FK:Cs) (e:C)
inductive Cs where
 |nil|cons (c:C) (cs:Cs)
inductive mq where
 |seq (c:C)|rng1 (c:C)|rng2 (a b:C)|zip (a b:C)|enum (c:C)|zipR (a c:C)
end
noncomputable def Cs.all(p:C->Bool):Cs->Bool
 |.nil=>true
 |.cons c cs=>p c&&cs.all p
mutual
noncomputable def lk:C->Nat
 |.mvr _=>1
 |.and _ _=>0
 |.or _ _=>0
 |.ite _ a b=>max (lk a) (lk b)
 |.idx a _=>if lk a<=1 then 0 else 2
 |.sliL a _=>if lk a<=1 then 0 else 2
 |.sliH a _=>if lk a<=1 then 0 else 2
 |.sliB a _ _=>if lk a<=1 then 0 else 2
 |.bin _ a b=>if lk a<=1/\lk b<=1 then 0 else 2
 |.tup es=>if p7 es=0 then 0 else 2
 |.lst es=>if p7 es=0 then 0 else 2
 |.call _ es _=>if p7 es=0 then 0 else 2
 |.callD _ es=>if p7 es=0 then 0 else 2
 |.bi _ es=>if p7 es<=1 then 0 else 2
 |.Gx _ _ e=>lk e
 |.gtO o _ e=>if lk o=0 then lk e else 2
 |_=>0
noncomputable def p7:Cs->Nat
 |.nil=>0
 |.cons c cs=>max (lk c) (p7 cs)
end
noncomputable def rL:mq->Nat
 |.seq c=>lk c
 |.zip a b=>max (lk a) (lk b)
 |.enum c=>lk c
 |.zipR a _=>lk a
 |_=>0
noncomputable def fresh(fr:Nat->Bool):C->Bool
 |.lst _=>true
 |.comp ..=>true
 |.g6 ..=>true
 |.bi .sorted _=>true
 |.bi .list _=>true
 |.bin ..=>true
 |.sliH ..=>true
 |.call f _ _=>fr f
 |.callD f _=>fr f
 |_=>false
noncomputable def bO(c:C)(d:Dt):Bool:=decide (lk c=0)||kY d
noncomputable def lK(c:C)(d:Dt):Bool:=decide (lk c=0)||match d with|.lst ds=>iA ds|d=>kY d
noncomputable def eS(ρ:ao)(i:Nat):R Dt:=match ρ[i]? with
 |some (some d)=>.ok d
 |_=>.bad
noncomputable def jN(cap:List (Option Nat))(ρ:ao):ao:=cap.map λo=>o.bind λi=>(ρ[i]?).join
noncomputable def jK:List Nat->List Dt->ao->R ao
 |[],[],ρ=>.ok ρ
 |i::is,d::ds,ρ=>jK is ds (ρ.set i (some d))
 |_,_,_=>.bad
noncomputable def fj:Tg->Dt->ao->R ao
 |.nm i,d,ρ=>.ok (ρ.set i (some d))
 |.tp is,.tup ds,ρ=>jK is ds ρ
 |_,_,_=>.bad
noncomputable def aK(f:Dt->Sx->R (List Dt×Sx)):List Dt->Sx->R (List Dt×Sx)
 |[],S=>.ok ([],S)
 |x::xs,S=>(f x S).bind λp=>(aK f xs p.2).bind λq=>.ok (p.1++q.1,q.2)
noncomputable def aN(tg:Tg)(Mv:ao->Sx->R (Bool×Sx))(body:ao->Sx->R (List Dt×Sx))(ρ:ao)(d:Dt)(S:Sx):R (List Dt×Sx):=
 (fj tg d ρ).bind λρ1=>(Mv ρ1 S).bind λb=>if b.1 then body ρ1 b.2 else .ok ([],b.2)
noncomputable def aR(lo:Int)(n:Nat):List Dt:=(List.range n).map λ(i:Nat)=>Dt.int (lo+(i:Int))
noncomputable def Kq(d:Mx.D):List Dt->List Dt->Option Dt
 |k::ks,v::vs=>if toD k=some d then some v else Kq d ks vs
 |_,_=>none
noncomputable def Gi(d:Mx.D)(v:Dt):List Dt->List Dt->List Dt
 |k::ks,x::vs=>(if toD k=some d then v else x)::Gi d v ks vs
 |_,vs=>vs
noncomputable def Hi(k:Dt):Option Mx.D:=match toD k with
 |some (.tup ds)=>if Mx.D.dep (.tup ds)<=8 then some (.tup ds) else none
 |_=>none
noncomputable def Gf(z k e:Dt):R Dt:=match z with
 |.gE ks vs=>match Hi k with
  |some d=>.ok ((Kq d ks vs).getD e)
  |none=>.bad
 |_=>.bad
noncomputable def Gj(z k v:Dt):R Dt:=match z with
 |.gE ks vs=>match Hi k with
  |some d=>af (decide (ks.length<lim)) (.ok (if (Kq d ks vs).isSome then .gE ks (Gi d v ks vs) else .gE (ks++[k]) (vs++[v])))
  |none=>.bad
 |_=>.bad
noncomputable def yG(ks vs:List Mx.D):List Mx.D:=(ks.zip vs).map λz=>.tup [z.1,z.2]
noncomputable def Gk(z:Dt):R Dt:=match z with
 |.gE ks vs=>match fL ks,fL vs with
  |some ms,some ns=>af (jM (yG ms ns)) (.ok (.lst (cv (eI (yG ms ns)))))
  |_,_=>.bad
 |_=>.bad
noncomputable def Lu:Dt->Bool
 |.obj _ _=>true
 |_=>false
noncomputable def Nt(y:Str):List Str->List Dt->Option Dt
 |k::ks,v::vs=>if k=y then some v else Nt y ks vs
 |_,_=>none
noncomputable def HB(z k e:Dt):R Dt:=match z with
 |.obj ks vs=>match k with
  |.str y=>.ok ((Nt y ks vs).getD e)
  |_=>.bad
 |_=>.bad
noncomputable def Hd(ρ:ao)(i:Nat):Bool:=match ρ[i]? with|some (some (.gE _ _))=>true|_=>false
noncomputable abbrev FT:=Nat->List Dt->Sx->R (Dt×Sx)
mutual
noncomputable def ev(F:FT):C->ao->Sx->R (Dt×Sx)
 |.con d,_,S=>.ok (d,S)
 |.var i,ρ,S=>(eS ρ i).bind λd=>.ok (d,S)
 |.mvr i,ρ,S=>(eS ρ i).bind λd=>.ok (d,S)
 |.bin o a b,ρ,S=>(ev F a ρ S).bind λx=>(ev F b ρ x.2).bind λy=>(l6 o x.1 y.1).bind λd=>.ok (d,y.2)
 |.cmp o a b,ρ,S=>(ev F a ρ S).bind λx=>(ev F b ρ x.2).bind λy=>(cL o x.1 y.1).bind λd=>.ok (.bl d,y.2)
 |.ch o p a b c,ρ,S=>(ev F a ρ S).bind λx=>(ev F b ρ x.2).bind λy=>(cL o x.1 y.1).bind λd=>
   if d then(ev F c ρ y.2).bind λz=>(cL p y.1 z.1).bind λe=>.ok (.bl e,z.2) else .ok (.bl false,y.2)
 |.neg a,ρ,S=>(ev F a ρ S).bind λx=>match x.1 with|.int i=>.ok (.int (-i),x.2)|_=>.bad
 |.nt a,ρ,S=>(ev F a ρ S).bind λx=>match x.1 with|.bl b=>.ok (.bl !b,x.2)|_=>.bad
 |.and a b,ρ,S=>(ev F a ρ S).bind λx=>match x.1 with|.bl true=>(ev F b ρ x.2).bind λy=>(match y.1 with|.bl c=>.ok (.bl c,y.2)|_=>.bad)|.bl false=>.ok (.bl false,x.2)|_=>.bad
 |.or a b,ρ,S=>(ev F a ρ S).bind λx=>match x.1 with|.bl false=>(ev F b ρ x.2).bind λy=>(match y.1 with|.bl c=>.ok (.bl c,y.2)|_=>.bad)|.bl true=>.ok (.bl true,x.2)|_=>.bad
 |.ite t a b,ρ,S=>(cO F t ρ S).bind λx=>if x.1 then ev F a ρ x.2 else ev F b ρ x.2
 |.idx a b,ρ,S=>(ev F a ρ S).bind λx=>(ev F b ρ x.2).bind λy=>(cu x.1 y.1).bind λd=>.ok (d,y.2)
 |.sliL a l,ρ,S=>(ev F a ρ S).bind λx=>(ev F l ρ x.2).bind λy=>match y.1 with|.int i=>(fk x.1 (some i) none).bind λd=>.ok (d,y.2)|_=>.bad
 |.sliH a h,ρ,S=>(ev F a ρ S).bind λx=>(ev F h ρ x.2).bind λy=>match y.1 with|.int i=>(fk x.1 none (some i)).bind λd=>.ok (d,y.2)|_=>.bad
 |.sliB a l h,ρ,S=>(ev F a ρ S).bind λx=>(ev F l ρ x.2).bind λy=>match y.1 with|.int i=>(ev F h ρ y.2).bind λz=>(match z.1 with|.int j=>(fk x.1 (some i) (some j)).bind λd=>.ok (d,z.2)|_=>.bad)|_=>.bad
 |.tup es,ρ,S=>(ij F es ρ S).bind λx=>af (decide (x.1.length<=lim)) (.ok (.tup x.1,x.2))
 |.lst es,ρ,S=>(ij F es ρ S).bind λx=>af (decide (x.1.length<=lim)) (.ok (.lst x.1,x.2))
 |.call f es ds,ρ,S=>(ij F es ρ S).bind λx=>(F f (x.1++ds) none).bind λy=>.ok (y.1,x.2)
 |.callD f es,ρ,S=>af S.isSome ((ij F es ρ S).bind λx=>match x.2 with|some s=>F f x.1 (some s)|none=>.bad)
 |.popD,_,S=>match S with|some ns=>af (!ns.isEmpty) (.ok (.int (ns.getLastD 0),some ns.dropLast))|none=>.bad
 |.lenD,_,S=>match S with|some ns=>.ok (.int ns.length,S)|none=>.bad
 |.Gx i k e,ρ,S=>af (Hd ρ i) ((ev F k ρ S).bind λx=>(ev F e ρ x.2).bind λy=>(eS ρ i).bind λz=>(Gf z x.1 y.1).bind λd=>.ok (d,y.2))
 |.fP i,ρ,S=>(eS ρ i).bind λz=>(Gk z).bind λd=>.ok (d,S)
 |.gtO o k e,ρ,S=>(ev F o ρ S).bind λz=>af (Lu z.1) ((ev F k ρ z.2).bind λx=>(ev F e ρ x.2).bind λy=>(HB z.1 x.1 y.1).bind λd=>.ok (d,y.2))
 |.bi b es,ρ,S=>(ij F es ρ S).bind λx=>(d6 b x.1).bind λd=>.ok (d,x.2)
 |.mt m o es,ρ,S=>(ev F o ρ S).bind λy=>af (isStr y.1) ((ij F es ρ y.2).bind λx=>(O5 m y.1 x.1).bind λd=>.ok (d,x.2))
 |.comp cap it tg ts e,ρ,S=>(d7 F it ρ S).bind λx=>af (decide (x.1.length<=lim)&&(decide (rL it<=1)||lW F it ρ S))
   ((aK (aN tg (bh F ts) (λρ1 S1=>(ev F e ρ1 S1).bind λy=>af (bO e y.1) (.ok ([y.1],y.2))) (jN cap ρ)) x.1 x.2).bind λq=>.ok (.lst q.1,q.2))
 |.g6 cap it tg ts g9 jz FK e,ρ,S=>(d7 F it ρ S).bind λx=>af (decide (x.1.length<=lim)&&(decide (rL it<=1)||lW F it ρ S))
   ((aK (aN tg (bh F ts) (λρ1 S1=>(d7 F g9 ρ1 S1).bind λx2=>af (decide (x.1.length*x2.1.length<=lim)&&decide (rL g9=0))
    (aK (aN jz (bh F FK) (λρ2 S2=>(ev F e ρ2 S2).bind λy=>af (bO e y.1) (.ok ([y.1],y.2))) ρ1) x2.1 x2.2)) (jN cap ρ)) x.1 x.2).bind λq=>.ok (.lst q.1,q.2))
noncomputable def cO(F:FT):C->ao->Sx->R (Bool×Sx)
 |.nt a,ρ,S=>(cO F a ρ S).bind λx=>.ok (!x.1,x.2)
 |.and a b,ρ,S=>(cO F a ρ S).bind λx=>if x.1 then cO F b ρ x.2 else .ok (false,x.2)
 |.or a b,ρ,S=>(cO F a ρ S).bind λx=>if x.1 then .ok (true,x.2) else cO F b ρ x.2
 |.cmp o a b,ρ,S=>(ev F a ρ S).bind λx=>(ev F b ρ x.2).bind λy=>(cL o x.1 y.1).bind λd=>.ok (d,y.2)
 |.ch o p a b c,ρ,S=>(ev F a ρ S).bind λx=>(ev F b ρ x.2).bind λy=>(cL o x.1 y.1).bind λd=>
   if d then(ev F c ρ y.2).bind λz=>(cL p y.1 z.1).bind λe=>.ok (e,z.2) else .ok (false,y.2)
 |.var i,ρ,S=>(eS ρ i).bind λd=>(d9 d).bind λb=>.ok (b,S)
 |.mvr i,ρ,S=>(eS ρ i).bind λd=>(d9 d).bind λb=>.ok (b,S)
 |.call f es ds,ρ,S=>(ij F es ρ S).bind λx=>(F f (x.1++ds) none).bind λy=>(d9 y.1).bind λb=>.ok (b,x.2)
 |.callD f es,ρ,S=>af S.isSome ((ij F es ρ S).bind λx=>match x.2 with|some s=>(F f x.1 (some s)).bind λy=>(d9 y.1).bind λb=>.ok (b,y.2)|none=>.bad)
 |.bi b es,ρ,S=>(ij F es ρ S).bind λx=>(d6 b x.1).bind λd=>(d9 d).bind λb=>.ok (b,x.2)
 |.idx a b,ρ,S=>(ev F a ρ S).bind λx=>(ev F b ρ x.2).bind λy=>(cu x.1 y.1).bind λd=>(d9 d).bind λb=>.ok (b,y.2)
 |_,_,_=>.bad
noncomputable def ij(F:FT):Cs->ao->Sx->R (List Dt×Sx)
 |.nil,_,S=>.ok ([],S)
 |.cons c cs,ρ,S=>(ev F c ρ S).bind λx=>(ij F cs ρ x.2).bind λy=>.ok (x.1::y.1,y.2)
noncomputable def bh(F:FT):Cs->ao->Sx->R (Bool×Sx)
 |.nil,_,S=>.ok (true,S)
 |.cons c .nil,ρ,S=>cO F c ρ S
 |_,_,_=>.bad
noncomputable def d7(F:FT):mq->ao->Sx->R (List Dt×Sx)
 |.seq c,ρ,S=>(ev F c ρ S).bind λx=>match itemsOf x.1 with|some ds=>.ok (ds,x.2)|none=>.bad
 |.rng1 c,ρ,S=>(ev F c ρ S).bind λx=>match x.1 with|.int j=>af (decide (j<=lim)&&decide (-lim<=j)) (.ok (aR 0 j.toNat,x.2))|_=>.bad
 |.rng2 a b,ρ,S=>(ev F a ρ S).bind λx=>(ev F b ρ x.2).bind λy=>match x.1,y.1 with
   |.int i,.int j=>af (decide (i.natAbs<=lim)&&decide (j.natAbs<=lim)) (.ok (aR i (j-i).toNat,y.2))|_,_=>.bad
 |.zip a b,ρ,S=>(ev F a ρ S).bind λx=>(ev F b ρ x.2).bind λy=>match df x.1,df y.1 with
   |some xs,some ys=>.ok (cX xs ys,y.2)|_,_=>.bad
 |.enum c,ρ,S=>(ev F c ρ S).bind λx=>match df x.1 with|some ds=>.ok (xg 0 ds,x.2)|none=>.bad
 |.zipR a c,ρ,S=>(ev F a ρ S).bind λx=>(ev F c ρ x.2).bind λy=>match df x.1,y.1 with
   |some xs,.int j=>af (decide (j<=lim)&&decide (-lim<=j)) (.ok (cX xs (aR 0 j.toNat),y.2))|_,_=>.bad
noncomputable def lW(F:FT):mq->ao->Sx->Bool
 |.seq c,ρ,S=>match ev F c ρ S with|.ok x=>kY x.1|_=>false
 |_,_,_=>false
end
inductive Fl where
 |next|brk|cnt|ret (d:Dt)
mutual
inductive T where
 |asg (i:Nat) (c:C)|asgM (i:Nat) (c:C)|asgD (i:Nat) (c:C)|mov (i j:Nat)|asgT (is:List Nat) (c:C)
 |aug (i:Nat) (o:Operator) (c:C)
 |sr (i:Nat) (k v:C)|app (i:Nat) (c:C)|xtd (i:Nat) (c:C)|clr (i:Nat)
 |Gh (c:C)|ret (c:C)|retN|ifs (t:C) (a b:Ts)|fr (tg:Tg) (it:mq) (b:Ts)|wh (t:C) (b:Ts)
 |Kr (i:Nat)|dset (i:Nat) (k v:C)
 |rs (k:Nat) (vs:List Nat)|tr (b:Ts) (zP:List (Option Bool))|brk|cnt|pas
inductive Ts where
 |nil|cons (t:T) (ts:Ts)
end
noncomputable abbrev RS:=R (Fl×ao×Sx)
noncomputable def forL(tg:Tg)(body:ao->Sx->RS):List Dt->ao->Sx->RS
 |[],ρ,S=>.ok (.next,ρ,S)
 |x::xs,ρ,S=>(fj tg x ρ).bind λρ1=>(body ρ1 S).bind λp=>match p.1 with
  |.next=>forL tg body xs p.2.1 p.2.2
  |.cnt=>forL tg body xs p.2.1 p.2.2
  |.brk=>.ok (.next,p.2)
  |.ret d=>.ok (.ret d,p.2)
noncomputable def My(test:ao->Sx->R (Bool×Sx))(body:ao->Sx->RS):Nat->ao->Sx->RS
 |0,_,_=>.bad
 |n+1,ρ,S=>(test ρ S).bind λb=>if b.1 then(body ρ b.2).bind λp=>match p.1 with
   |.next=>My test body n p.2.1 p.2.2
   |.cnt=>My test body n p.2.1 p.2.2
   |.brk=>.ok (.next,p.2)
   |.ret d=>.ok (.ret d,p.2)
  else .ok (.next,ρ,b.2)
noncomputable def IS:Nat:=100000
noncomputable def isLE(ρ:ao)(i:Nat):Bool:=match ρ[i]? with
 |some (some (.lst _))=>true
 |_=>false
noncomputable def l3(ρ:ao)(i:Nat):R (List Dt):=match ρ[i]? with
 |some (some (.lst ds))=>.ok ds
 |_=>.bad
mutual
noncomputable def ex(F:FT):T->ao->Sx->RS
 |.asg i c,ρ,S=>(ev F c ρ S).bind λx=>af (bO c x.1) (.ok (.next,ρ.set i (some x.1),x.2))
 |.asgM i c,ρ,S=>(ev F c ρ S).bind λx=>af (lK c x.1) (.ok (.next,ρ.set i (some x.1),x.2))
 |.asgD i c,ρ,S=>(ev F c ρ S).bind λx=>match x.1 with|.lst ds=>(match intsOf ds with|some ns=>af (decide (lk c=0)&&decide (i<ρ.length)) (.ok (.next,ρ.set i none,some ns))|none=>.bad)|_=>.bad
 |.mov i j,ρ,S=>(eS ρ j).bind λd=>.ok (.next,(ρ.set j none).set i (some d),S)
 |.asgT is c,ρ,S=>(ev F c ρ S).bind λx=>af (bO c x.1) ((fj (.tp is) x.1 ρ).bind λρ1=>.ok (.next,ρ1,x.2))
 |.aug i o c,ρ,S=>(eS ρ i).bind λd=>(ev F c ρ S).bind λx=>match d,x.1 with
   |.int _,.int _=>(l6 o d x.1).bind λz=>.ok (.next,ρ.set i (some z),x.2)
   |.str _,.str _=>(l6 o d x.1).bind λz=>.ok (.next,ρ.set i (some z),x.2)
   |_,_=>.bad
 |.sr i k v,ρ,S=>af (isLE ρ i) ((ev F v ρ S).bind λx=>(ev F k ρ x.2).bind λy=>af (bO v x.1) ((l3 ρ i).bind λds=>match y.1 with
   |.int n=>(match oo ds.length n with|some j=>.ok (.next,ρ.set i (some (.lst (ds.set j x.1))),y.2)|none=>.bad)|_=>.bad))
 |.Kr i,ρ,S=>.ok (.next,ρ.set i (some (.gE [] [])),S)
 |.dset i k v,ρ,S=>af (Hd ρ i) ((ev F v ρ S).bind λx=>(ev F k ρ x.2).bind λy=>(eS ρ i).bind λz=>af (decide (lk v=0)) ((Gj z y.1 x.1).bind λd=>.ok (.next,ρ.set i (some d),y.2)))
 |.app i c,ρ,S=>af (isLE ρ i) ((ev F c ρ S).bind λx=>af (bO c x.1) ((l3 ρ i).bind λds=>af (decide (ds.length<=lim)) (.ok (.next,ρ.set i (some (.lst (ds++[x.1]))),x.2))))
 |.xtd i c,ρ,S=>af (isLE ρ i) ((ev F c ρ S).bind λx=>af (decide (lk c<=1)) ((l3 ρ i).bind λds=>match x.1 with
   |.lst es=>af (decide (ds.length+es.length<=lim)) (.ok (.next,ρ.set i (some (.lst (ds++es))),x.2))|.tup es=>af (decide (ds.length+es.length<=lim)) (.ok (.next,ρ.set i (some (.lst (ds++es))),x.2))|_=>.bad))
 |.clr i,ρ,S=>(l3 ρ i).bind λ_=>.ok (.next,ρ.set i (some (.lst [])),S)
 |.Gh c,ρ,S=>(ev F c ρ S).bind λx=>.ok (.next,ρ,x.2)
 |.ret c,ρ,S=>(ev F c ρ S).bind λx=>.ok (.ret x.1,ρ,x.2)
 |.retN,ρ,S=>.ok (.ret .aW,ρ,S)
 |.ifs t a b,ρ,S=>(cO F t ρ S).bind λx=>if x.1 then aV F a ρ x.2 else aV F b ρ x.2
 |.fr tg it b,ρ,S=>(d7 F it ρ S).bind λx=>af (decide (rL it=0)||lW F it ρ S) (forL tg (aV F b) x.1 ρ x.2)
 |.wh t b,ρ,S=>My (cO F t) (aV F b) IS ρ S
 |.rs _ _,_,_=>.bad
 |.tr b zP,ρ,S=>af S.isNone (match aV F b ρ S with|.ex k=>(match zP[k]? with|some (some v)=>.ok (.ret (.bl v),ρ,S)|_=>.bad)|r=>r)
 |.brk,ρ,S=>.ok (.brk,ρ,S)
 |.cnt,ρ,S=>.ok (.cnt,ρ,S)
 |.pas,ρ,S=>.ok (.next,ρ,S)
noncomputable def aV(F:FT):Ts->ao->Sx->RS
 |.nil,ρ,S=>.ok (.next,ρ,S)
 |.cons t ts,ρ,S=>(ex F t ρ S).bind λp=>match p.1 with
  |.next=>aV F ts p.2.1 p.2.2
  |f=>.ok (f,p.2)
end
structure Fn where
 ps:Nat
 n:Nat
 bp:Bool
 body:Ts
noncomputable def hJ(F:FT)(f:Fn)(args:List Dt)(S:Sx):R (Dt×Sx):=
 if args.length+(if f.bp then 1 else 0)=f.ps then
  (aV F f.body ((if f.bp then[none] else[])++args.map some++List.replicate (f.n-f.ps) none) S).bind λp=>match p.1 with
   |.next=>.ok (.aW,p.2.2)
   |.ret d=>.ok (d,p.2.2)
   |_=>.bad
 else .bad
noncomputable def aw(fs:List Fn):Nat->FT
 |0,_,_,_=>.bad
 |n+1,f,args,S=>match fs[f]? with
  |some g=>hJ (aw fs n) g args S
  |none=>.bad
structure G where
 fns:List (Str×Nat×List Dt×Bool)
 cons:List (Str×Dt)
 bls:List Str
 fr:Nat->Bool
 xs:List (Str×List (Str×Bool))
structure Gm where
 names:List (Str×NameKind)
 N:List Str
 M:List Bool
 δ:Option Nat
 κ:Option Nat
noncomputable def zq:Option NameKind->Bool
 |some .local=>true
 |some .cell=>true
 |some .free=>true
 |_=>false
noncomputable def yk:Option NameKind->Bool
 |some .local=>true
 |some .cell=>true
 |_=>false
noncomputable def B1:Option NameKind->Bool
 |some .globalImplicit=>true
 |_=>false
noncomputable def AL(x:Str):List Str->Option Nat
 |[]=>none
 |y::r=>if x==y then some 0 else(AL x r).map (· + 1)
theorem oq{x:Str}:∀{l:List Str}{i:Nat},AL x l=some i->l[i]?=some x
 |[],i,h=>by simp[AL]at h
 |y::r,i,h=>by
  unfold AL at h;by_cases e:(x==y)=true
  ·rw[TN e]at h;cases h;have:x=y:=by simpa using e
   simp[this]
  ·rw[TM e]at h;obtain⟨j,h1,rfl⟩:=Ql.mp h;simp[oq h1]
noncomputable def fI(x:Str):Bool:= !(x==("__debug__":Str))&& !(x==("__classdict__":Str))&& !(x==("__name__":Str))
noncomputable def slot(Γ:Gm)(x:Str):Option Nat:=if zq (Γ.names.lookup x)&&fI x then AL x Γ.N else none
noncomputable def hV(Γ:Gm)(x:Str):Option Nat:=if yk (Γ.names.lookup x)&&fI x then AL x Γ.N else none
noncomputable def fU(Γ:Gm)(i:Nat):Bool:=Γ.M[i]?==some true
noncomputable def plainS(Γ:Gm)(i:Nat):Bool:= !fU Γ i&& !(Γ.δ==some i)
noncomputable def rA(x:Str):List (Str×Nat×List Dt×Bool)->Option (Nat×Nat×List Dt×Bool)
 |[]=>none
 |y::r=>if x==y.1 then some (0,y.2) else(rA x r).map λp=>(p.1+1,p.2)
noncomputable def wK:List (Str×Nat×BI):=[("len",1,.len),("abs",1,.abs),("min",2,.min2),("max",2,.max2),("sum",1,.sum),("any",1,.any),("max",1,.maxL),("sorted",1,.sorted),("tuple",1,.tuple),("list",1,.list),("divmod",2,.dvm)]
noncomputable def qY(x:Str)(n:Nat):Option BI:=(wK.find? λt=>t.1==x&&t.2.1==n).map (·.2.2)
noncomputable def sN(x:Str):Option String:=
 if x==("str":Str) then some "str" else if x==("int":Str) then some "int" else if x==("bool":Str) then some "bool"
 else if x==("list":Str) then some "list" else if x==("tuple":Str) then some "tuple" else none
noncomputable def qe(Γ:Gm):Expr->Option Nat
 |.Name x _=>(hV Γ x).bind λi=>if plainS Γ i then some i else none
 |_=>none
noncomputable def iy(Γ:Gm):List Expr->Option (List Nat)
 |[]=>some []
 |e::es=>(qe Γ e).bind λi=>(iy Γ es).map (i:: ·)
noncomputable def ph(Γ:Gm):Expr->Option Tg
 |.Name x p=>(qe Γ (.Name x p)).map .nm
 |.Tuple es _ _=>(iy Γ es).map .tp
 |_=>none
noncomputable def Km(names:List (Str×NameKind)):List Str:=names.filterMap λp=>if zq (some p.2) then some p.1 else none
noncomputable def C0(names:List (Str×NameKind))(N:List Str):List (Option Nat):=names.filterMap λp=>match p.2 with
 |.local=>some none
 |.free=>some (AL p.1 N)
 |.cell=>some none
 |_=>none
noncomputable def C1(cap:List (Option Nat))(M:List Bool):List Bool:=cap.map λo=>o.elim false λi=>M[i]?==some true
noncomputable def zN(δ:Option Nat):List (Option Nat)->Option Nat
 |[]=>none
 |o::r=>if δ.isSome&&o==δ then some 0 else(zN δ r).map (· + 1)
noncomputable def ba(Γ:Gm)(sc:Scope):Gm×List (Option Nat):=
 let cap:=C0 sc.names Γ.N
 (⟨sc.names,Km sc.names,C1 cap Γ.M,zN Γ.δ cap,zN Γ.κ cap⟩,cap)
noncomputable def aY:Tg->List Nat
 |.nm i=>[i]
 |.tp is=>is
noncomputable def wM(names on:List (Str×NameKind))(N' Nn:List Str)(cap:List (Option Nat)):Bool:=
 names.all (λy=>names.lookup y.1==some y.2&&(y.2 != .free||(on.lookup y.1==some .cell||on.lookup y.1==some .free)))&&
 (cap.length==N'.length)&&(List.range cap.length).all (λj=>match cap[j]? with
  |some (some i)=>(match N'[j]? with
   |some x=>Nn[i]?==some x&&names.lookup x==some .free
   |none=>false)
  |_=>true)
noncomputable def Ls(Γ:Gm):Expr->Bool
 |.Name x _=>match slot Γ x with
  |some i=>Γ.δ==some i
  |none=>false
 |_=>false
mutual
noncomputable def cE:Nat->G->Gm->Expr->Option C
 |0,_,_,_=>none
 |n+1,g,Γ,e=>match e with
  |.Constant k _ _=>match k with
   |.int i=>some (.con (.int i))
   |.str x=>some (.con (.str x))
   |.bool x=>some (.con (.bl x))
   |.none=>some (.con .aW)
   |_=>none
  |.Name x _=>match slot Γ x with
   |some i=>if Γ.δ==some i||Γ.κ==some i then none else if fU Γ i then some (.mvr i) else some (.var i)
   |none=>if B1 (Γ.names.lookup x)&&fI x then(g.cons.lookup x).map .con else none
  |.BinOp a o b _=>(cE n g Γ a).bind λa'=>(cE n g Γ b).bind λb'=>some (.bin o a' b')
  |.UnaryOp o a _=>(cE n g Γ a).bind λa'=>match o with
   |.USub=>some (.neg a')
   |.Not=>some (.nt a')
   |_=>none
  |.BoolOp o vs _=>cB n g Γ o vs
  |.Compare a os bs _=>match os,bs with
   |[o],[b]=>(cE n g Γ a).bind λa'=>(cE n g Γ b).bind λb'=>some (.cmp o a' b')
   |_,_=>none
  |.Subscript a b _=>match b with
   |.Slice (some l) none none _=>(cE n g Γ a).bind λa'=>(cE n g Γ l).bind λl'=>some (.sliL a' l')
   |.Slice none (some h) none _=>(cE n g Γ a).bind λa'=>(cE n g Γ h).bind λh'=>some (.sliH a' h')
   |b=>(cE n g Γ a).bind λa'=>(cE n g Γ b).bind λb'=>some (.idx a' b')
  |.Tuple es _ _=>(wN n g Γ es).bind λfw=>some (.tup fw)
  |.List es _=>(wN n g Γ es).bind λfw=>some (.lst fw)
  |.Call f as ks pos=>match f,as,ks with
   |.Name f _,a::as,[]=>tm n g Γ f a as
   |_,_,_=>none
  |.ListComp elt gens sc _=>
   let b:=ba Γ sc
   if sc.kind== .function then(match gens with
   |[⟨tg,it,ifs,0⟩]=>(cI n g Γ tg it).bind λj3=>(ph b.1 tg).bind λlL=>(Ak n g b.1 ifs).bind λoU=>(cE n g b.1 elt).bind λe'=>
    if wM sc.names Γ.names b.1.N Γ.N b.2&&decide b.1.N.Nodup then some (.comp b.2 j3 lL oU e') else none
   |[⟨tg,it,ifs,0⟩,⟨jz,g9,cC,0⟩]=>(cI n g Γ tg it).bind λj3=>(ph b.1 tg).bind λlL=>(Ak n g b.1 ifs).bind λoU=>(cI n g b.1 jz g9).bind λpU=>(ph b.1 jz).bind λlM=>(Ak n g b.1 cC).bind λqC=>(cE n g b.1 elt).bind λe'=>
    if wM sc.names Γ.names b.1.N Γ.N b.2&&decide b.1.N.Nodup&&(aY lM).all (λi=> !(aY lL).contains i) then some (.g6 b.2 j3 lL oU pU lM qC e') else none
   |_=>none) else none
  |_=>none
noncomputable def wN:Nat->G->Gm->List Expr->Option Cs
 |0,_,_,_=>none
 |n+1,g,Γ,es=>match es with
  |[]=>some .nil
  |e::es=>(cE n g Γ e).bind λe'=>(wN n g Γ es).bind λfw=>some (.cons e' fw)
noncomputable def Ak:Nat->G->Gm->List Expr->Option Cs
 |0,_,_,_=>none
 |n+1,g,Γ,es=>match es with
  |[]=>some .nil
  |[e]=>(cE n g Γ e).bind λe'=>some (.cons e' .nil)
  |_=>none
noncomputable def cB:Nat->G->Gm->BoolOp->List Expr->Option C
 |0,_,_,_,_=>none
 |n+1,g,Γ,o,es=>match es with
  |[e]=>cE n g Γ e
  |e::es=>(cE n g Γ e).bind λe'=>(cB n g Γ o es).bind λfw=>some (match o with|.And=>.and e' fw|.Or=>.or e' fw)
  |[]=>none
noncomputable def cI:Nat->G->Gm->Expr->Expr->Option mq
 |0,_,_,_,_=>none
 |n+1,g,Γ,tg,e=>match e with
  |.Call (.Name f p) [a] [] q=>if f==("range":Str) then(if B1 (Γ.names.lookup f)&&g.bls.contains f then(cE n g Γ a).bind λa'=>some (.rng1 a') else none)
   else(cE n g Γ (.Call (.Name f p) [a] [] q)).bind λc=>some (.seq c)
  |.Call (.Name f p) [a,b] [] q=>if f==("range":Str) then(if B1 (Γ.names.lookup f)&&g.bls.contains f then none else none)
   else if f==("zip":Str) then(match tg with
    |.Tuple ..=>if B1 (Γ.names.lookup f)&&g.bls.contains f then(cE n g Γ a).bind λa'=>(cE n g Γ b).bind λb'=>some (.zip a' b') else none
    |_=>none)
   else(cE n g Γ (.Call (.Name f p) [a,b] [] q)).bind λc=>some (.seq c)
  |e=>(cE n g Γ e).bind λc=>some (.seq c)
noncomputable def tm:Nat->G->Gm->Str->Expr->List Expr->Option C
 |0,_,_,_,_,_=>none
 |n+1,g,Γ,f,a,as=>if B1 (Γ.names.lookup f)&&fI f then(match rA f g.fns with
  |some (k,np,f7,bp)=>if bp then(match a with
    |.Name x _=>match slot Γ x with
     |some i=>if Γ.δ==some i&&as.length+1==np then none else none
     |none=>none
    |_=>none)
   else if as.length+1<=np&&np-(as.length+1)<=f7.length then(wN n g Γ (a::as)).bind λes=>some (.call k es (f7.drop (f7.length-(np-(as.length+1))))) else none
  |none=>if g.bls.contains f then
    (if f==("len":Str)&&Ls Γ a&&as.isEmpty then none
    else if f==("isinstance":Str) then(match as with
     |[.Name t _]=>if B1 (Γ.names.lookup t)&&g.bls.contains t then(sN t).bind λT=>(cE n g Γ a).bind λa'=>some (.bi (.isi T) (.cons a' .nil)) else none
     |_=>none)
    else match a,as with
     |.Call (.Name r _) [b] [] _,[]=>if r==("reversed":Str) then none
       else if r==("set":Str) then none
       else(qY f (as.length+1)).bind λi=>(wN n g Γ (a::as)).bind λes=>some (.bi i es)
     |.Call (.Name r _) [b,c] [] _,[]=>if r==("zip":Str) then none
       else(qY f (as.length+1)).bind λi=>(wN n g Γ (a::as)).bind λes=>some (.bi i es)
     |_,_=>(qY f (as.length+1)).bind λi=>(wN n g Γ (a::as)).bind λes=>some (.bi i es))
    else none)
  else none
end
section
variable{P:Program}{w:World}{K:Frag}{A B:Addr->Prop}{H:Hp}{s:Shared}
theorem elts(hok:fv P w H s.heap){zR iH:List V}{i1 i2:List Dt}{gV aM:List Value}{R:Around}{n:Nat}(g1:aq K A H zR i1)(g2:aq K B H iH i2)(r1:au zR gV)(r2:au iH aM)(l1:gV.toArray.size=i1.length)(l2:aM.toArray.size=i2.length)
  (p1:l8 i1=true) (p2:l8 i2=true) (hd:pA i1<=n) (hu:R.in1.units+n<cLine) (j:Nat) (h1:j<gV.toArray.size) (h2:j<aM.toArray.size):EqAt R.in1 s gV.toArray[j] aM.toArray[j] (uC i1 i2 j):=by
 have pI:j<zR.length:=by rw[g1.length,<-l1];exact h1
 have pJ:j<iH.length:=by rw[g2.length,<-l2];exact h2
 obtain⟨d,c1,c2⟩:=g1.get (i:=j) (x:=zR[j]) (by simp[pI]);obtain⟨e,k1,k2⟩:=g2.get (i:=j) (x:=iH[j]) (by simp[pJ]);obtain⟨u,AF,ru⟩:=r1.get (i:=j) (x:=zR[j]) (by simp[pI]);obtain⟨v,DF,rv⟩:=r2.get (i:=j) (x:=iH[j]) (by simp[pJ]);have eu:gV.toArray[j]=u:=by simp only[R8];exact(P8.mp AF).2
 have ev:aM.toArray[j]=v:=by simp only[R8];exact(P8.mp DF).2
 rw[eu,ev,show uC i1 i2 j=dG d e by unfold uC;rw[c1,k1]];exact BZ hok n d e zR[j] iH[j] u v R.in1 (Qh (kE c1) hd) (eK p1 c1) (eK p2 k1) hu c2 k2 ru rv
theorem Ia(hok:fv P w H s.heap)(n:Nat)(d e:Dt)(x y:V)(u v:Value)(R:Around)(hd:dp d<=n+1)(oh:pl d=true)(fT:pl e=true)(hu:R.units+n+1<cLine)(hx:RV K A H x d)(hy:RV K B H y e)(rx:RelV x u)(ry:RelV y v):RcAt R s u v (dG d e):=by
 cases d with
 |aW=>
  have:=hx.aB;subst this;cases rx;cases e with
  |aW=>have:=hy.aB;subst this;cases ry;exact RcAt.none_none
  |bl i2=>have:=hy.az;subst this;cases ry;exact RcAt.none_bool i2
  |int i2=>have:=hy.int_inv;subst this;obtain⟨t2,rfl⟩:=ry;exact RcAt.none_int i2 t2
  |str i2=>have:=hy.str_inv;subst this;obtain⟨t2,rfl⟩:=ry;exact RcAt.none_str i2 t2
  |tup i2=>obtain⟨a2,iH,q2,f2,g2⟩:=hy.ae;subst q2;cases ry;obtain⟨aM,r2,b9⟩:=Mx.ar hok f2;exact RcAt.none_tuple b9 ⋯
  |lst i2=>obtain⟨a2,iH,q2,f2,_,g2⟩:=hy.lst_inv;subst q2;cases ry;obtain⟨aM,r2,b9⟩:=aP hok f2;exact RcAt.none_list b9 ⋯
  |_=>simp[pl]at fT
 |bl i1=>
  have:=hx.az;subst this;cases rx;cases e with
  |aW=>have:=hy.aB;subst this;cases ry;exact RcAt.bool_none i1
  |bl i2=>have:=hy.az;subst this;cases ry;exact RcAt.bool_bool i1 i2
  |int i2=>have:=hy.int_inv;subst this;obtain⟨t2,rfl⟩:=ry;exact RcAt.bool_int i1 i2 t2
  |str i2=>have:=hy.str_inv;subst this;obtain⟨t2,rfl⟩:=ry;exact RcAt.bool_str i1 i2 t2
  |tup i2=>obtain⟨a2,iH,q2,f2,g2⟩:=hy.ae;subst q2;cases ry;obtain⟨aM,r2,b9⟩:=Mx.ar hok f2;exact RcAt.bool_tuple i1 b9 ⋯
  |lst i2=>obtain⟨a2,iH,q2,f2,_,g2⟩:=hy.lst_inv;subst q2;cases ry;obtain⟨aM,r2,b9⟩:=aP hok f2;exact RcAt.bool_list i1 b9 ⋯
  |_=>simp[pl]at fT
 |int i1=>
  have:=hx.int_inv;subst this;obtain⟨t1,rfl⟩:=rx;cases e with
  |aW=>have:=hy.aB;subst this;cases ry;exact RcAt.int_none i1 t1
  |bl i2=>have:=hy.az;subst this;cases ry;exact RcAt.int_bool i1 t1 i2
  |int i2=>have:=hy.int_inv;subst this;obtain⟨t2,rfl⟩:=ry;exact RcAt.int_int i1 t1 i2 t2
  |str i2=>have:=hy.str_inv;subst this;obtain⟨t2,rfl⟩:=ry;exact RcAt.int_str i1 t1 i2 t2
  |tup i2=>obtain⟨a2,iH,q2,f2,g2⟩:=hy.ae;subst q2;cases ry;obtain⟨aM,r2,b9⟩:=Mx.ar hok f2;exact RcAt.int_tuple i1 t1 b9 ⋯
  |lst i2=>obtain⟨a2,iH,q2,f2,_,g2⟩:=hy.lst_inv;subst q2;cases ry;obtain⟨aM,r2,b9⟩:=aP hok f2;exact RcAt.int_list i1 t1 b9 ⋯
  |_=>simp[pl]at fT
 |str i1=>
  have:=hx.str_inv;subst this;obtain⟨t1,rfl⟩:=rx;cases e with
  |aW=>have:=hy.aB;subst this;cases ry;exact RcAt.str_none i1 t1
  |bl i2=>have:=hy.az;subst this;cases ry;exact RcAt.str_bool i1 t1 i2
  |int i2=>have:=hy.int_inv;subst this;obtain⟨t2,rfl⟩:=ry;exact RcAt.str_int i1 t1 i2 t2
  |str i2=>have:=hy.str_inv;subst this;obtain⟨t2,rfl⟩:=ry;exact RcAt.str_str i1 t1 i2 t2
  |tup i2=>obtain⟨a2,iH,q2,f2,g2⟩:=hy.ae;subst q2;cases ry;obtain⟨aM,r2,b9⟩:=Mx.ar hok f2;exact RcAt.str_tuple i1 t1 b9 ⋯
  |lst i2=>obtain⟨a2,iH,q2,f2,_,g2⟩:=hy.lst_inv;subst q2;cases ry;obtain⟨aM,r2,b9⟩:=aP hok f2;exact RcAt.str_list i1 t1 b9 ⋯
  |_=>simp[pl]at fT
 |tup i1=>
  obtain⟨a1,zR,q1,f1,g1⟩:=hx.ae;subst q1;cases rx;obtain⟨gV,r1,iT⟩:=Mx.ar hok f1;cases e with
  |aW=>have:=hy.aB;subst this;cases ry;exact RcAt.tuple_none iT ⋯
  |bl i2=>have:=hy.az;subst this;cases ry;exact RcAt.tuple_bool i2 iT ⋯
  |int i2=>have:=hy.int_inv;subst this;obtain⟨t2,rfl⟩:=ry;exact RcAt.tuple_int i2 t2 iT ⋯
  |str i2=>have:=hy.str_inv;subst this;obtain⟨t2,rfl⟩:=ry;exact RcAt.tuple_str i2 t2 iT ⋯
  |tup i2=>
   obtain⟨a2,iH,q2,f2,g2⟩:=hy.ae;subst q2;cases ry;obtain⟨aM,r2,b9⟩:=Mx.ar hok f2;have l1:gV.toArray.size=i1.length:=by rw[P6,<-r1.length,g1.length]
   have l2:aM.toArray.size=i2.length:=by rw[P6,<-r2.length,g2.length]
   have key:=RcAt.tuples (A:=R) (e:=uC i1 i2) iT b9 ⋯ (elts hok g1 g2 r1 r2 l1 l2 (by simpa [pl]using oh) (by simpa [pl]using fT) (n:=n) (by unfold dp at hd;lia) (by show R.units+1+n<cLine;lia));have q:=cP i1 i2;rw[<-l1,<-l2]at q;rw[q]at key;exact key
  |lst i2=>obtain⟨a2,iH,q2,f2,_,g2⟩:=hy.lst_inv;subst q2;cases ry;obtain⟨aM,r2,b9⟩:=aP hok f2;exact RcAt.tuple_list iT b9 ⋯
  |_=>simp[pl]at fT
 |lst i1=>
  obtain⟨a1,zR,q1,f1,_,g1⟩:=hx.lst_inv;subst q1;cases rx;obtain⟨gV,r1,iT⟩:=aP hok f1;cases e with
  |aW=>have:=hy.aB;subst this;cases ry;exact RcAt.list_none iT ⋯
  |bl i2=>have:=hy.az;subst this;cases ry;exact RcAt.list_bool i2 iT ⋯
  |int i2=>have:=hy.int_inv;subst this;obtain⟨t2,rfl⟩:=ry;exact RcAt.list_int i2 t2 iT ⋯
  |str i2=>have:=hy.str_inv;subst this;obtain⟨t2,rfl⟩:=ry;exact RcAt.list_str i2 t2 iT ⋯
  |tup i2=>obtain⟨a2,iH,q2,f2,g2⟩:=hy.ae;subst q2;cases ry;obtain⟨aM,r2,b9⟩:=Mx.ar hok f2;exact RcAt.list_tuple iT b9 ⋯
  |lst i2=>
   obtain⟨a2,iH,q2,f2,_,g2⟩:=hy.lst_inv;subst q2;cases ry;obtain⟨aM,r2,b9⟩:=aP hok f2;have l1:gV.toArray.size=i1.length:=by rw[P6,<-r1.length,g1.length]
   have l2:aM.toArray.size=i2.length:=by rw[P6,<-r2.length,g2.length]
   have q:=cP i1 i2;by_cases hl:i1.length=i2.length
   ·have key:=RcAt.lists (A:=R) (e:=uC i1 i2) iT b9 ⋯ ⋯ (elts hok g1 g2 r1 r2 l1 l2 (by simpa [pl]using oh) (by simpa [pl]using fT) (n:=n) (by unfold dp at hd;lia) (by show R.units+1+n<cLine;lia));rw[hl,Nat.min_self,TF,QZ]at q;rw[l1,hl,q]at key;exact key
   ·have key:=RcAt.lists_lengths (A:=R) iT b9 (by rw[l1,l2];simpa using hl) ⋯;have hb:(i1.length==i2.length)=false:=by simpa using hl
    rw[hb,QY]at q;show RcAt R s _ _ (eD i1 i2);rw[<-q];exact key
  |_=>simp[pl]at fT
 |_=>simp[pl]at oh
theorem Bt(hok:fv P w H s.heap)(n:Nat)(d e:Dt)(x y:V)(u v:Value)(R:Around)(hd:dp d<=n+1)(oh:pl d=true)(fT:pl e=true)(hu:R.units+n+1<cLine)(hx:RV K A H x d)(hy:RV K B H y e)(rx:RelV x u)(ry:RelV y v):RcNeAt R s u v (!dG d e):=by
 cases d with
 |aW=>
  have:=hx.aB;subst this;cases rx;cases e with
  |aW=>have:=hy.aB;subst this;cases ry;exact RcNeAt.none_none
  |bl i2=>have:=hy.az;subst this;cases ry;exact RcNeAt.none_bool i2
  |int i2=>have:=hy.int_inv;subst this;obtain⟨t2,rfl⟩:=ry;exact RcNeAt.none_int i2 t2
  |str i2=>have:=hy.str_inv;subst this;obtain⟨t2,rfl⟩:=ry;exact RcNeAt.none_str i2 t2
  |tup i2=>obtain⟨a2,iH,q2,f2,g2⟩:=hy.ae;subst q2;cases ry;obtain⟨aM,r2,b9⟩:=Mx.ar hok f2;exact RcNeAt.none_tuple b9 ⋯
  |lst i2=>obtain⟨a2,iH,q2,f2,_,g2⟩:=hy.lst_inv;subst q2;cases ry;obtain⟨aM,r2,b9⟩:=aP hok f2;exact RcNeAt.none_list b9 ⋯
  |_=>simp[pl]at fT
 |bl i1=>
  have:=hx.az;subst this;cases rx;cases e with
  |aW=>have:=hy.aB;subst this;cases ry;exact RcNeAt.bool_none i1
  |bl i2=>have:=hy.az;subst this;cases ry;exact RcNeAt.bool_bool i1 i2
  |int i2=>have:=hy.int_inv;subst this;obtain⟨t2,rfl⟩:=ry;exact RcNeAt.bool_int i1 i2 t2
  |str i2=>have:=hy.str_inv;subst this;obtain⟨t2,rfl⟩:=ry;exact RcNeAt.bool_str i1 i2 t2
  |tup i2=>obtain⟨a2,iH,q2,f2,g2⟩:=hy.ae;subst q2;cases ry;obtain⟨aM,r2,b9⟩:=Mx.ar hok f2;exact RcNeAt.bool_tuple i1 b9 ⋯
  |lst i2=>obtain⟨a2,iH,q2,f2,_,g2⟩:=hy.lst_inv;subst q2;cases ry;obtain⟨aM,r2,b9⟩:=aP hok f2;exact RcNeAt.bool_list i1 b9 ⋯
  |_=>simp[pl]at fT
 |int i1=>
  have:=hx.int_inv;subst this;obtain⟨t1,rfl⟩:=rx;cases e with
  |aW=>have:=hy.aB;subst this;cases ry;exact RcNeAt.int_none i1 t1
  |bl i2=>have:=hy.az;subst this;cases ry;exact RcNeAt.int_bool i1 t1 i2
  |int i2=>have:=hy.int_inv;subst this;obtain⟨t2,rfl⟩:=ry;exact RcNeAt.int_int i1 t1 i2 t2
  |str i2=>have:=hy.str_inv;subst this;obtain⟨t2,rfl⟩:=ry;exact RcNeAt.int_str i1 t1 i2 t2
  |tup i2=>obtain⟨a2,iH,q2,f2,g2⟩:=hy.ae;subst q2;cases ry;obtain⟨aM,r2,b9⟩:=Mx.ar hok f2;exact RcNeAt.int_tuple i1 t1 b9 ⋯
  |lst i2=>obtain⟨a2,iH,q2,f2,_,g2⟩:=hy.lst_inv;subst q2;cases ry;obtain⟨aM,r2,b9⟩:=aP hok f2;exact RcNeAt.int_list i1 t1 b9 ⋯
  |_=>simp[pl]at fT
 |str i1=>
  have:=hx.str_inv;subst this;obtain⟨t1,rfl⟩:=rx;cases e with
  |aW=>have:=hy.aB;subst this;cases ry;exact RcNeAt.str_none i1 t1
  |bl i2=>have:=hy.az;subst this;cases ry;exact RcNeAt.str_bool i1 t1 i2
  |int i2=>have:=hy.int_inv;subst this;obtain⟨t2,rfl⟩:=ry;exact RcNeAt.str_int i1 t1 i2 t2
  |str i2=>have:=hy.str_inv;subst this;obtain⟨t2,rfl⟩:=ry;exact RcNeAt.str_str i1 t1 i2 t2
  |tup i2=>obtain⟨a2,iH,q2,f2,g2⟩:=hy.ae;subst q2;cases ry;obtain⟨aM,r2,b9⟩:=Mx.ar hok f2;exact RcNeAt.str_tuple i1 t1 b9 ⋯
  |lst i2=>obtain⟨a2,iH,q2,f2,_,g2⟩:=hy.lst_inv;subst q2;cases ry;obtain⟨aM,r2,b9⟩:=aP hok f2;exact RcNeAt.str_list i1 t1 b9 ⋯
  |_=>simp[pl]at fT
 |tup i1=>
  obtain⟨a1,zR,q1,f1,g1⟩:=hx.ae;subst q1;cases rx;obtain⟨gV,r1,iT⟩:=Mx.ar hok f1;cases e with
  |aW=>have:=hy.aB;subst this;cases ry;exact RcNeAt.tuple_none iT ⋯
  |bl i2=>have:=hy.az;subst this;cases ry;exact RcNeAt.tuple_bool i2 iT ⋯
  |int i2=>have:=hy.int_inv;subst this;obtain⟨t2,rfl⟩:=ry;exact RcNeAt.tuple_int i2 t2 iT ⋯
  |str i2=>have:=hy.str_inv;subst this;obtain⟨t2,rfl⟩:=ry;exact RcNeAt.tuple_str i2 t2 iT ⋯
  |tup i2=>
   obtain⟨a2,iH,q2,f2,g2⟩:=hy.ae;subst q2;cases ry;obtain⟨aM,r2,b9⟩:=Mx.ar hok f2;have l1:gV.toArray.size=i1.length:=by rw[P6,<-r1.length,g1.length]
   have l2:aM.toArray.size=i2.length:=by rw[P6,<-r2.length,g2.length]
   have key:=RcNeAt.tuples (A:=R) (e:=uC i1 i2) iT b9 ⋯ (elts hok g1 g2 r1 r2 l1 l2 (by simpa [pl]using oh) (by simpa [pl]using fT) (n:=n) (by unfold dp at hd;lia) (by show R.units+1+n<cLine;lia));have q:=cP i1 i2;rw[<-l1,<-l2]at q;rw[q]at key;exact key
  |lst i2=>obtain⟨a2,iH,q2,f2,_,g2⟩:=hy.lst_inv;subst q2;cases ry;obtain⟨aM,r2,b9⟩:=aP hok f2;exact RcNeAt.tuple_list iT b9 ⋯
  |_=>simp[pl]at fT
 |lst i1=>
  obtain⟨a1,zR,q1,f1,_,g1⟩:=hx.lst_inv;subst q1;cases rx;obtain⟨gV,r1,iT⟩:=aP hok f1;cases e with
  |aW=>have:=hy.aB;subst this;cases ry;exact RcNeAt.list_none iT ⋯
  |bl i2=>have:=hy.az;subst this;cases ry;exact RcNeAt.list_bool i2 iT ⋯
  |int i2=>have:=hy.int_inv;subst this;obtain⟨t2,rfl⟩:=ry;exact RcNeAt.list_int i2 t2 iT ⋯
  |str i2=>have:=hy.str_inv;subst this;obtain⟨t2,rfl⟩:=ry;exact RcNeAt.list_str i2 t2 iT ⋯
  |tup i2=>obtain⟨a2,iH,q2,f2,g2⟩:=hy.ae;subst q2;cases ry;obtain⟨aM,r2,b9⟩:=Mx.ar hok f2;exact RcNeAt.list_tuple iT b9 ⋯
  |lst i2=>
   obtain⟨a2,iH,q2,f2,_,g2⟩:=hy.lst_inv;subst q2;cases ry;obtain⟨aM,r2,b9⟩:=aP hok f2;have l1:gV.toArray.size=i1.length:=by rw[P6,<-r1.length,g1.length]
   have l2:aM.toArray.size=i2.length:=by rw[P6,<-r2.length,g2.length]
   have q:=cP i1 i2;by_cases hl:i1.length=i2.length
   ·have key:=RcNeAt.lists (A:=R) (e:=uC i1 i2) iT b9 ⋯ ⋯ (elts hok g1 g2 r1 r2 l1 l2 (by simpa [pl]using oh) (by simpa [pl]using fT) (n:=n) (by unfold dp at hd;lia) (by show R.units+1+n<cLine;lia));rw[hl,Nat.min_self,TF,QZ]at q;rw[l1,hl,q]at key;exact key
   ·have key:=RcNeAt.lists_lengths (A:=R) iT b9 (by rw[l1,l2];simpa using hl) ⋯;have hb:(i1.length==i2.length)=false:=by simpa using hl
    rw[hb,QY]at q;show RcNeAt R s _ _ (!eD i1 i2);rw[<-q];exact key
  |_=>simp[pl]at fT
 |_=>simp[pl]at oh
end
end Rx
end
section
namespace Mx
open PySem PySem.Spec PyProof.Rows L2 PySem.SeqAt
theorem qb:fillsNumberSlot (.type "tuple") "mul"=pure false:=
 PySem.fillsNumberSlot_seq (id:="tuple.__mul__") (r:=some (.builtin "tuple.__rmul__")) Tv.lookup (by decide +kernel) PySem.F.slot_tuple_rmul.lookup (by decide +kernel)
theorem vN:seqRepeat? (.type "tuple")=pure (some (.builtin "tuple.__mul__")):=by unfold seqRepeat?;rw[PySem.seqSlot_of (T:="tuple") (name:="__mul__") (id:="tuple.__mul__") Tv.lookup (by decide +kernel),PySem.seqSlot_of (T:="tuple") (name:="__rmul__") (id:="tuple.__rmul__") PySem.F.slot_tuple_rmul.lookup (by decide +kernel)];rfl
theorem yU(a:Int)(t:Tok)(l:Addr)(its:Array Value)(n:Nat):
  Meets (Builtin.«int.__rmul__» ⟨[.int a t,.ref l],[]⟩) (λ_ R s=>s.heap.get? l=some {cls:=.type "tuple",dict:=none,data:=.seq its n,slots:=#[]}/\R (.ok (.ret Value.notImplemented)) s):=
 .of_wp λprog w A R s h=>by obtain⟨hp,g,d,tk,os⟩:=s;obtain⟨hl,h⟩:=h;wp_walk;exact⟨_,rfl,h⟩
theorem BE(l:Addr)(its:List Value)(n:Nat)(k:Int)(u:Tok)(h1: -(2^63)<=k)(h2:k<2^63)(hz:its.length*k.toNat<=sizeLine):
  Meets (Builtin.«tuple.__mul__» ⟨[.ref l,.int k u],[]⟩) (λ_ R s=>s.heap.get? l=some {cls:=.type "tuple",dict:=none,data:=.seq its.toArray n,slots:=#[]}/\
   ((its=[]\/k=1)->R (.ok (.ret (.ref l))) s)/\(¬(its=[]\/k=1)->R (.ok (.ret (Value.ref s.heap.objs.size))) {s with heap:=s.heap.push {cls:=.type "tuple",data:=.seq (List.replicate k.toNat its).flatten.toArray}})):=
 .of_wp λprog w A R s h=>by
  obtain⟨hp,g,d,tk,os⟩:=s;obtain⟨hl,q1,q2⟩:=h;have hT:(⟨hp,g,d,tk,os⟩:Shared).TypeIs (.ref l) "tuple":=⟨_,hl,rfl⟩
  wp_walk
  rw[TM (by simp only[QL,TK];lia)];dsimp only;refine PY (tupleItemsOf_ ⟨_,hl,rfl,n,rfl⟩ ?_);have e1:(its.toArray.isEmpty||k==1)=decide (its=[]\/k=1):=by
   cases its with
   |nil=>simp
   |cons a r=>rw[Q0];simp
  rw[e1];by_cases hc:its=[]\/k=1
  ·rw[Qz hc,TN rfl];unfold Builtin.Tuple.tupleIsExact;refine PY (PY (Ul hT (P4 ?_)));rw[TN (by rfl)];exact PY (Uh (P4 ⟨_,rfl,q1 hc⟩))
  ·rw[Qv hc,TM (by simp)];have cM:its≠[]:=λz=>hc (.inl z)
   have he:its.toArray.isEmpty=false:=by cases its with|nil=>exact absurd rfl cM|cons a r=>rfl
   rw[he,Bool.or_false];by_cases hk:k<=0
   ·rw[Qz hk,TN rfl];have k0:k.toNat=0:=⋯
    rw[k0]at q2;exact PY (Ub (P4 ⟨_,rfl,q2 hc⟩))
   ·rw[Qv hk,TM (by simp)];have M7:(its.toArray.size:Int)*k=((its.length*k.toNat:Nat):Int):=by rw[P6,Ro,Int.toNat_of_nonneg ⋯]
    have B7:=T4;rw[TM (by rw[M7];lia)];unfold Builtin.Tuple.tupleTooMany;rw[TM (by rw[M7];intro z;have:=P7 z;lia)];have K9:List.foldl (λx1 x2=>x1++x2) #[] (List.replicate k.toNat its.toArray)=(List.replicate k.toNat its).flatten.toArray:=by have:=foldl_rep its k.toNat [];rw[Sy]at this;exact this
    rw[K9];refine PY (Ub (P4 ⟨_,rfl,q2 hc⟩) ?_);show (List.replicate k.toNat its).flatten.toArray.size<=sizeLine;rw[P6,len_rep,Nat.mul_comm];exact hz
section
variable{X:Cx}
noncomputable def HZ:R2:=λx y H Q=>∃l k xs,x= .ref l/\y= .int k/\H l=some (.tup xs)/\ -(2^63)<=k/\k<2^63/\xs.length*k.toNat<=sizeLine/\
 ((xs=[]\/k=1)->Q (.ref l) H)/\∀p,H p=none->Q (.ref p) (upd H p (.tup (List.replicate k.toNat xs).flatten))
theorem A6:kr X (binaryOp .Mult) HZ:=by
 intro pins s σ H x y v u Q I rx ry h;obtain⟨l,k,xs,rfl,rfl,hH,h1,h2,hz,q1,q2⟩:=h;cases rx;obtain⟨t,rfl⟩:=ry;obtain⟨z,its,r,⟨c,dd,dt,sl⟩,e,w1,n,w2,w3,w4⟩:=(show bM X.prog X.w H s.heap l (.tup xs) from I.hok l _ hH);simp only at w1 w2 w3 w4;subst w1 w2 w3 w4;have hl:=r.length;refine wpAny_binaryOp_repeat_ref (T:="tuple") (U:="int") (by decide) ⟨_,e,rfl⟩ (λs'=>typeIs_int s' k t) qb F.fills_int_mul F.slot_int_rmul vN F.slot_int_index.lookup
  (TH F.slot_int_rmul (typeIs_int s k t) F.entry_int_rmul (F.args_int_rmul_2 _ _) (yU k t l its.toArray n)
   ⟨e,rfl,⟨_,e,rfl⟩,TH Tv ⟨_,e,rfl⟩ PySem.F.entry_tuple_mul (PySem.F.args_tuple_mul_2 _ _) (BE l its n k t h1 h2 (by rw[<-hl];exact hz)) ⟨e,λhc=>?_,λhc=>?_⟩⟩)
 ·refine⟨.ref l,H,I,rfl,q1 (hc.imp (λz=>?_) id)⟩;subst z;cases r;rfl
 ·exact⟨.ref s.heap.objs.size,_,I.laid (t':=s.toks) (o:=.tup (List.replicate k.toNat xs).flatten) (λb o q=>P0 _ q) (Qb _) ⟨by rw[len_rep,Nat.mul_comm];exact hz,_,r.rep k.toNat,lT.new _ _⟩,rfl,q2 _ (I.hok.fresh (Qb _))⟩
theorem nK:c7 X (.builtin "divmod") (λxs H Q=>∃i j,xs=[.int i,.int j]/\j≠0/\j.natAbs.log2<9000/\∀p,H p=none->Q (.ref p) (upd H p (.tup [.int (i.fdiv j),.int (i.fmod j)]))):=by intro pins s σ H xs us Q I r h;obtain⟨i,j,rfl,h1,h2,q⟩:=h;obtain⟨u,w',rfl,⟨t,rfl⟩,⟨t',rfl⟩⟩:=r.two;refine divmod_int h1 ?_ (.inl (PyProof.noPylong_of_log2 h2));refine⟨.ref s.heap.objs.size,_,?_,rfl,q _ (I.hok.fresh (Qb _))⟩;exact I.laid (λb o e=>P0 _ e) (Qb _) ⟨by simp only[Qo,Sa];rw[T4];decide,[.int (i.fdiv j) s.toks,.int (i.fmod j) (s.toks+1)],.cons ⟨_,rfl⟩ (.cons ⟨_,rfl⟩ .nil),lT.new _ _⟩
theorem vd(hc:X.calm=true):c7 X (.builtin "sum") (λxs H Q=>∃(l:Addr)(ns:List Int),xs=[.ref l]/\H l=some (.tup (ns.map V.int))/\Q (.int ns.sum) H):=by
 intro pins s σ H xs us Q I r h;obtain⟨l,ns,rfl,hq,q⟩:=h;obtain⟨u,rfl,ru⟩:=r.one;cases ru;obtain⟨_,its,rv,tn⟩:=(show bM X.prog X.w H s.heap l (.tup (ns.map V.int)) from I.hok l _ hq);have hl:its.length=ns.length:=by rw[<-rv.length];simp
 have ht:s.heap.IsTuple l its.toArray:=tn.is;have cK:l<s.heap.objs.size:=tn.is.lt;refine call_sum_walkG (Ug ht ?_);refine⟨s.heap.objs.size,_,_,_,_,_,λi=>ns.getD i 0,rfl,Walks.tuple (A:=X.A.in1) (I.ok.hd hc) s.heap.objs.size l (QB cK) its.toArray,⟨⟨_,Qd _ rfl,rfl,rfl⟩,ht.push _⟩,λb hb=>?_,λi v hv=>?_,λh' tk t' hk=>?_⟩
 ·rcases Qi.mp hb with rfl|hb
  ·exact Qg (Qd _ rfl)
  ·obtain rfl:=QE.mp hb;exact Nat.lt_trans cK (Qg (Qd _ rfl))
 ·have DE:its.toArray[i]?=some v:=hv;exact int_at rv (by simpa using DE)
 ·refine⟨.int _,H,I.kept λb o e=>hk b o (λz=>S8 _ ((QE.mp z)▸Qg e)) (P0 _ e),⟨t',rfl⟩,?_⟩;rw[show its.toArray.size=ns.length by simp[hl],oC,SQ];exact q
end
noncomputable def CC(A:Around)(s:Shared)(u v:Value)(b:Bool):Prop:=
 ∀(prog:Program)(w:World)(E:Value->Shared->Prop)(Q:Value->Shared->Prop),Q (.bool b) s->wpAny (model prog w) A (richCompare .GtE u v) Q E s
inductive Zg(A:Around)(s:Shared):List Value->List Value->List D->List D->Prop
 |nil {ws:List Value} {es:List D}:ws.length=es.length->Zg A s [] ws [] es
 |qa {vs:List Value} {ds:List D}:vs.length=ds.length->Zg A s vs [] ds []
 |cons {v w:Value} {d e:D} {vs ws:List Value} {ds es:List D}:EqAt A s v w (D.jV d e)->(d≠e->CC A s v w (!D.lt d e))->Zg A s vs ws ds es->Zg A s (v::vs) (w::ws) (d::ds) (e::es)
section
open PySem.AutoSeq1 (wpAny_loadPart')
open PySem.MeetsSeq PySem.MeetsSeq2 PySem.MeetsSeq3
theorem mh(l b:Addr)(items cn:Array Value)(n n2:Nat)(dd tx:Option Addr)(sl uI:Array (Option Value))(ds es:List D)(z1:items.size=ds.length)(z2:cn.size=es.length):
  Meets (Builtin.«tuple.__ge__» ⟨[.ref l,.ref b],[]⟩)
   (λA R s=>s.heap.get? l=some {cls:=.type "tuple",dict:=dd,data:=.seq items n,slots:=sl}/\s.heap.get? b=some {cls:=.type "tuple",dict:=tx,data:=.seq cn n2,slots:=uI}/\
    Zg A.in1 s items.toList cn.toList ds es/\R (.ok (.ret (.bool (!D.dm ds es)))) s):=
 .of_wp λprog w A R s h=>by
  obtain⟨hp,g,d,tk,os⟩:=s;obtain⟨hl,hb,Lq,h⟩:=h;have f2:=AutoSeq1.sub_tuple_tuple
  wp_walk using wpAny_loadPart' hl,wpAny_loadPart' hb,wpAny_forIn_list _ (λrest b s'=>b.1=none/\s'=⟨hp,g,d,tk,os⟩/\∃(vs ws:List Value)(mG fw:List D),rest=vs.zip ws/\
   Zg A.in1 ⟨hp,g,d,tk,os⟩ vs ws mG fw/\mG.length+cn.size=fw.length+items.size/\R (.ok (.ret (.bool (!D.dm mG fw)))) ⟨hp,g,d,tk,os⟩) _
  case turn=>
   rintro⟨y,x⟩ rest b s' ⟨nZ,rfl,vs,ws,mG,fw,hz,tW,hlen,hR⟩;cases tW with
   |nil _=>rw[SZ]at hz;cases hz
   |qa _=>rw[S4]at hz;cases hz
   |cons he hl yc=>
    rename_i v wv d0 e0 v9 ws' ds'' es'';rw[SY]at hz;injection hz with hyx x8;injection hyx with hy hx;subst hy hx;rw[D.de]at hR;simp only[Qo]at hlen;refine PY (he prog w _ _ ?_);by_cases hde:d0=e0
    ·rw[TN hde]at hR;rw[(D.cz d0 e0).mpr hde]
     wp_walk
     exact⟨rfl,rfl,_,_,_,_,x8,yc,by lia,hR⟩
    ·rw[TM hde]at hR;have Ks:D.jV d0 e0=false:=by rw[D.jW];exact Qv hde
     rw[Ks];have Lg:=hl hde prog w
     wp_walk using Lg
     exact⟨_,rfl,by simpa using hR⟩
  case fin=>
   rintro⟨b1,b2⟩ s' ⟨nZ,rfl,vs,ws,mG,fw,hz,tW,hlen,hR⟩;simp only at nZ;subst nZ;have hv:(!D.dm mG fw)=decide (cn.size<=items.size):=by
    cases tW with
    |nil _=>
     cases fw with
     |nil=>simp only[Sa]at hlen;rw[D.dm];exact(Qz ⋯).symm
     |cons c u=>simp only[Sa,Qo]at hlen;rw[D.dm];exact(Qv ⋯).symm
    |qa _=>
     cases mG with
     |nil=>simp only[Sa]at hlen;rw[D.dm];exact(Qz ⋯).symm
     |cons c u=>simp only[Sa,Qo]at hlen;rw[D.dm];exact(Qz ⋯).symm
    |cons he hl yc=>rw[SY]at hz;cases hz
   rw[hv]at hR
   wp_walk
   exact⟨_,rfl,by simpa [Builtin.Tuple.tupleCompareSizes]using hR⟩
  case h=>exact⟨rfl,rfl,items.toList,cn.toList,ds,es,rfl,Lq,by lia,h⟩
end
section
variable{P:Program}{w:World}{H:Hp}{s:Shared}
theorem CA(hok:fv P w H s.heap){A:Around}{n:Nat}(hu:A.units+n<cLine)(ih:∀(d e:D)(x y:V)(u v:Value),D.dep d<=n->D.cN d e->DV H x d->DV H y e->RelV x u->RelV y v->CC A s u v (!D.lt d e)):
  ∀{xs ys:List V}{us vs:List Value}{ds es:List D},D.dC ds<=n->D.eY ds es->bb H xs ds->bb H ys es->au xs us->au ys vs->Zg A s us vs ds es
 |[],ys,us,vs,[],es,_,_,_,h2,r1,r2=>by cases r1;exact .nil (by rw[<-r2.length,h2.length])
 |x::xs,[],us,vs,ds,[],_,_,h1,_,r1,r2=>by cases r2;exact .qa (by rw[<-r1.length,h1.length])
 |[],_,_,_,_::_,_,_,_,h,_,_,_=>by unfold bb at h;exact h.elim
 |_::_,_,_,_,[],_,_,_,h,_,_,_=>by unfold bb at h;exact h.elim
 |_::_,[],_,_,_::_,_::_,_,_,_,h,_,_=>by unfold bb at h;exact h.elim
 |_::_,_::_,_,_,_::_,[],_,_,_,h,_,_=>by unfold bb at h;exact h.elim
 |x::xs,y::ys,us,vs,d::ds,e::es,hd,hl,h1,h2,r1,r2=>by
  unfold bb at h1 h2;unfold D.eY at hl;unfold D.dC at hd;cases r1 with
  |cons r1 t1=>
   cases r2 with
   |cons r2 t2=>exact .cons (eq_data hok n d e x y _ _ A ⋯ hu h1.1 h2.1 r1 r2) (λ_=>ih d e x y _ _ ⋯ hl.1 h1.1 h2.1 r1 r2) (CA hok hu ih ⋯ hl.2 h1.2 h2.2 t1 t2)
theorem Ao(hok:fv P w H s.heap):∀(n:Nat)(d e:D)(x y:V)(u v:Value)(A:Around),D.dep d<=n->A.units+n<cLine->D.cN d e->DV H x d->DV H y e->RelV x u->RelV y v->CC A s u v (!D.lt d e):=by
 intro n
 induction n with
 |zero=>
  intro d e x y u v A hd hu hl hx hy rx ry;cases d with
  |int i=>
   have:=hx.int_inv;subst this;obtain⟨t,rfl⟩:=rx;cases e with
   |int j=>have:=hy.int_inv;subst this;obtain⟨t',rfl⟩:=ry;intro prog wd E Q q;exact(PyProof.Rows.ge_int (by unfold D.lt at q;rw[show decide (j<=i)= !decide (i<j) from by by_cases h:i<j<;>simp[h]<;>lia];exact q):wpAny (model prog wd) A (compareOp .GtE (.int i t) (.int j t')) Q E s)
   |str j=>unfold D.cN at hl;exact hl.elim
   |tup j=>unfold D.cN at hl;exact hl.elim
  |str i=>
   have:=hx.str_inv;subst this;obtain⟨t,rfl⟩:=rx;cases e with
   |int j=>unfold D.cN at hl;exact hl.elim
   |str j=>have:=hy.str_inv;subst this;obtain⟨t',rfl⟩:=ry;intro prog wd E Q q;exact(PySem.P.ge_str q:wpAny (model prog wd) A (compareOp .GtE (.str i t) (.str j t')) Q E s)
   |tup j=>unfold D.cN at hl;exact hl.elim
  |tup ds=>unfold D.dep at hd;lia
 |succ n ih=>
  intro d e x y u v A hd hu hl hx hy rx ry;cases d with
  |int i=>exact ih (.int i) e x y u v A (by unfold D.dep;lia) ⋯ hl hx hy rx ry
  |str i=>exact ih (.str i) e x y u v A (by unfold D.dep;lia) ⋯ hl hx hy rx ry
  |tup ds=>
   obtain⟨a,xs,q,e1,e2⟩:=hx.ae;subst q;cases rx;cases e with
   |int j=>unfold D.cN at hl;exact hl.elim
   |str j=>unfold D.cN at hl;exact hl.elim
   |tup es=>
    obtain⟨b,ys,q,f1,f2⟩:=hy.ae;subst q;cases ry;obtain⟨its,r1,ht⟩:=ar hok e1;obtain⟨aM,r2,b9⟩:=ar hok f1;have l1:its.toArray.size=ds.length:=by rw[P6,<-r1.length,e2.length]
    have l2:aM.toArray.size=es.length:=by rw[P6,<-r2.length,f2.length]
    have qM:D.dC ds<=n:=by unfold D.dep at hd;lia
    have Ds:D.eY ds es:=by unfold D.cN at hl;exact hl
    have zz:Zg A.in1 s its aM ds es:=CA hok (n:=n) (by show A.units+1+n<cLine;lia) (λd e x y u v hd2 eU yb hy2 rx2 ry2=>ih d e x y u v A.in1 hd2 (by show A.units+1+n<cLine;lia) eU yb hy2 rx2 ry2) qM Ds e2 f2 r1 r2;intro prog wd E Q q;obtain⟨⟨cls,dd,data,sl⟩,ho,hc,k,v7⟩:=id ht;obtain⟨⟨C9,tx,data2,uI⟩,pQ,qL,k2,lY⟩:=id b9;simp only at hc v7 qL lY;subst hc v7 qL lY;have q':Q (.bool (!D.dm ds es)) s:=by have z:=q;unfold D.lt at z;exact z
    exact richCompare_meets_room (op:=.GtE) ⟨_,ho,rfl⟩ ⟨_,pQ,rfl⟩ PySem.F.slot_tuple_ge PySem.F.entry_tuple_ge (PySem.F.args_tuple_ge_2 _ _) (mh a b its.toArray aM.toArray k k2 dd tx sl uI ds es l1 l2)
     ⟨ho,pQ,zz,show Value.bool (!D.dm ds es)≠Value.notImplemented/\Q (.bool (!D.dm ds es)) s from⟨(λx=>nomatch x),q'⟩⟩ ⋯
end
end Mx
end
section
namespace HT
open PySem PyProof.Rows
section
variable{prog:Program}{w:World}{A:Around}{E:Value->Shared->Prop}{s:Shared}
theorem gU{t sl:Addr}{items:Array Value}{vl vu:Value}{lo hi:Option Int}{Q:Value->Shared->Prop}(ht:IsTup s.heap t items)(hs:s.heap.IsSliceOf sl vl vu .none)(pl:IsPart vl lo)(pu:IsPart vu hi)
  (hw:bU items.size 0 lo=0/\bU items.size items.size hi=items.size) (h:Q (.ref t) s) (mJ:items.size<=sizeLine):wpAny (model prog w) A (getItem (.ref t) (.ref sl)) Q E s:=by
 obtain⟨os,Dx,Av,GW⟩:=id hs;have K0:s.TypeIs (.ref sl) "slice":=⟨os,Dx,Av⟩;unfold getItem
 try with_reducible refine T9 ?_
 first|refine PY (P4 ?_)|skip
 refine PY (wpAny_sequenceKey ht.typeIs (by decide) ?_);refine PY (T6 (name:=Str.ofString "__getitem__") ht.typeIs Tq
  (T7 Tq ht.typeIs entry_tuple_getitem ?_ (args_tuple_getitem _ _)))
 show wpAny _ _ (Builtin.Tuple.tupleItemsOf (.ref t) >>=_) _ _ s;refine PY (tupleItemsOf_ ht ?_);refine PY (Ul K0 ?_);rw[TN (by decide)];refine PY (fm hs pl pu ?_);show wpAny _ _ (if (((bU items.size 0 lo:Nat):Int)==0&&(1:Int)==1&&(bU items.size items.size hi-bU items.size 0 lo)==items.size)=true then _ else _) _ _ s;rw[TN (by rw[hw.1,hw.2];simp)];refine PY (PY (Ul ht.typeIs (P4 ?_)));rw[TN (by decide)];refine PY (Uh ?_);exact P4 ⟨_,rfl,P4 h⟩
end
end HT
namespace Rx
open PySem PySem.W PySem.Spec PyProof.Rows L2 PySem.SeqAt
noncomputable abbrev N0:Addr->Prop:=λ_=>False
noncomputable def fN(K:Frag)(A:Addr->Prop)(H:Hp)(v:V):Dt->Prop
 |.lst ds=>∃a xs,v= .ref a/\H a=some (.lst xs)/\aq K A H xs ds
 |d=>RV K A H v d
noncomputable def nC(K:Frag)(A:Addr->Prop)(H:Hp):List V->List Dt->Prop
 |[],[]=>True
 |x::xs,d::ds=>fN K A H x d/\nC K A H xs ds
 |_,_=>False
section
variable{K:Frag}{A B:Addr->Prop}{H H':Hp}
theorem RV.one{v d}(h:RV K A H v d):fN K A H v d:=by
 cases d with
 |lst ds=>obtain⟨a,xs,h1,h2,_,h3⟩:=h.lst_inv;exact⟨a,xs,h1,h2,h3⟩
 |_=>exact h
theorem fN.ext{X:Addr->Prop}{v d}(h:fN K A H v d)(e:bc X H H')(hX:∀b,X b->A b)(hv:∀ds a,d= .lst ds->v= .ref a->¬X a):fN K A H' v d:=by
 cases d with
 |lst ds=>obtain⟨a,xs,h1,h2,h3⟩:=h;exact⟨a,xs,h1,e.kp _ _ h2 (hv ds a rfl h1),h3.mono e hX λ_ z=>z⟩
 |_=>exact RV.mono e hX (λ_ z=>z) h
theorem aq.ones:∀{vs ds},aq K A H vs ds->nC K A H vs ds
 |[],[],_=>trivial
 |[],_::_,h=>by unfold aq at h;exact h.elim
 |_::_,[],h=>by unfold aq at h;exact h.elim
 |_::_,_::_,h=>by unfold aq at h;exact⟨h.1.one,h.2.ones⟩
end
structure PR(K:Frag)(fr:Bool)(xs:List V)(ds:List Dt)(H:Hp)(d:Dt)(v:V)(H':Hp):Prop where
 same:bV H H'
 val:∀A:Addr->Prop,(∀a,A a->∃o,H a=some o)->nC K A H xs ds->RV K A H' v d
 jO:fr=true->∀es,d= .lst es->∃a ys,v= .ref a/\H a=none/\H' a=some (.lst ys)/\∀A:Addr->Prop,(∀a,A a->∃o,H a=some o)->nC K A H xs ds->aq K (λb=>A b\/b=a) H' ys es
noncomputable def rP(K:Frag)(fr:Bool)(f:List Dt->R Dt):List V->Hp->VK->Prop:=λxs H Q=>∃ds d,aq K N0 H xs ds/\f ds= .ok d/\∀v H',PR K fr xs ds H d v H'->Q v H'
section
variable{K:Frag}{fr:Bool}{xs:List V}{ds:List Dt}{H H':Hp}{d:Dt}{v:V}
noncomputable def oZ:Dt->Bool
 |.aW|.bl _|.int _|.str _=>true
 |_=>false
noncomputable def qP:Dt->V
 |.bl b=>.bl b
 |.int b=>.int b
 |.str b=>.str b
 |_=>.aW
theorem qt{A:Addr->Prop}(h:oZ d=true):RV K A H (qP d) d:=by
 cases d with
 |aW=>exact RV.iz
 |bl b=>exact RV.p9
 |int b=>exact RV.du
 |str b=>exact RV.jw
 |_=>simp[oZ]at h
theorem PR.sc(h:oZ d=true):PR K fr xs ds H d (qP d) H:=⟨bV.refl _,λA _ _=>qt h,λ_ es e=>by subst e;simp[oZ]at h⟩
theorem PR.rV{p:Addr}{ys:List V}{es:List Dt}(hp:H p=none)(h:∀A:Addr->Prop,nC K A H xs ds->aq K A H ys es):PR K fr xs ds H (.lst es) (.ref p) (upd H p (.lst ys)):=by
 have s:=Mx.dX hp (.lst ys);refine⟨s,λA hA q=>RV.fH aQ (λz=>?_) ((h A q).same s),λ_ fw e=>?_⟩
 ·obtain⟨o,e⟩:=hA p z;rw[hp]at e;cases e
 ·cases e;exact⟨p,ys,rfl,hp,aQ,λA hA q=>((h A q).avoid hp).same s⟩
theorem PR.yy{p:Addr}{ys:List V}{es:List Dt}(hp:H p=none)(h:∀A:Addr->Prop,nC K A H xs ds->aq K A H ys es):PR K fr xs ds H (.tup es) (.ref p) (upd H p (.tup ys)):=by have s:=Mx.dX hp (.tup ys);exact⟨s,λA hA q=>RV.eJ aQ ((h A q).same s),λ_ fw e=>by cases e⟩
theorem PR.p5{p:Addr}{ys:List V}{es:List Dt}(hp:H p=some (.tup ys))(h:∀A:Addr->Prop,nC K A H xs ds->aq K A H ys es):PR K fr xs ds H (.tup es) (.ref p) H:=
 ⟨bV.refl _,λA hA q=>RV.eJ hp (h A q),λ_ fw e=>by cases e⟩
theorem eZ:lim<=sizeLine:=by rw[T4];decide
theorem bu{b:Bool}{α:Type}{r:R α}{a:α}(h:af b r= .ok a):b=true/\r= .ok a:=by
 cases b with
 |true=>exact⟨rfl,h⟩
 |false=>cases h
theorem fN.aP{A:Addr->Prop}{a:Addr}{xs:List V}{es:List Dt}(h:fN K A H (.ref a) (.lst es))(e:H a=some (.lst xs)):aq K A H xs es:=by obtain⟨b,ys,q,h1,h2⟩:=h;cases q;rw[e]at h1;cases h1;exact h2
theorem fN.ar{A:Addr->Prop}{a:Addr}{xs:List V}{es:List Dt}(h:fN K A H (.ref a) (.tup es))(e:H a=some (.tup xs)):aq K A H xs es:=by obtain⟨b,ys,q,h1,h2⟩:=RV.ae h;cases q;rw[e]at h1;cases h1;exact h2
end
section
variable{X:Cx}
noncomputable def r2(K:Frag)(f:Dt->Dt->R Dt):R2:=λx y H Q=>∃d e z,RV K N0 H x d/\RV K N0 H y e/\f d e= .ok z/\∀v H',PR K true [x,y] [d,e] H z v H'->Q v H'
theorem mV{i:Int}(h:i.natAbs<2^64): -(2^64)<i/\i<2^64:=⋯
theorem D9:kr X (binaryOp .FloorDiv) (rI (λ_ j=>0<j/\j.natAbs.log2<9000) λi j=>.int (i/j)):=JO λi j _ _ _ _ _ hc q=>by have h1:(0:Int)<j:=hc.1;exact floordiv_int ⋯ (by rw[Int.fdiv_eq_ediv_of_nonneg i ⋯];exact q) (.inl (PyProof.noPylong_of_log2 hc.2))
theorem D6(o:Operator):kr X (binaryOp o) (r2 X.K (l6 o)):=by
 intro pins s σ H x y v u Q I rx ry h;obtain⟨d,e,z,hx,hy,he,q⟩:=h;have JB:=eZ;unfold l6 at he;split at he
 ·split at he
  ·rename_i i j;cases he;exact D5 pins s σ H x y v u Q I rx ry ⟨i,j,hx.int_inv,hy.int_inv,q _ _ (PR.sc (d:=.int _) rfl)⟩
  ·rename_i i j;obtain⟨g,he⟩:=bu he;cases he;obtain⟨a,xs,rfl,h1,_,h2⟩:=hx.lst_inv;obtain⟨b,ys,rfl,k1,_,k2⟩:=hy.lst_inv;refine D7 pins s σ H _ _ v u Q I rx ry ⟨a,b,xs,ys,rfl,rfl,h1,k1,?_,λp hp=>q _ _ (PR.rV hp λA w=>?_)⟩
   ·rw[h2.length,k2.length];exact Qh (P7 g) JB
   ·exact(fN.aP w.1 h1).append (fN.aP w.2.1 k1)
  ·rename_i i j;obtain⟨g,he⟩:=bu he;cases he;obtain⟨a,xs,rfl,h1,h2⟩:=hx.ae;obtain⟨b,ys,rfl,k1,k2⟩:=hy.ae;by_cases hd:xs=[]
   ·subst hd;cases h2.dS;cases rx;cases ry;obtain⟨its,r1,p1,_⟩:=I.tuple (fz.of h1);obtain⟨aM,r2,p2,_⟩:=I.tuple (fz.of k1);cases r1;obtain⟨⟨cls,dd,data,sl⟩,ho,hc,n,v7⟩:=p1;obtain⟨⟨C9,tx,data2,uI⟩,pQ,qL,n2,lY⟩:=p2;simp only at hc v7 qL lY;subst hc v7 qL lY;exact concat_meets ⟨_,ho,rfl⟩ ⟨_,pQ,rfl⟩ TY seq_tuple_add Tu Tt (Tr _ _)
     (Mx.tuple_addW0 a b _ _ n n2 dd tx sl uI rfl) ⟨ho,pQ,⟨.ref b,H,I,rfl,q _ _ (PR.p5 k1 λA w=>fN.ar w.2.1 k1)⟩⟩
   ·refine A4 pins s σ H (.ref a) (.ref b) v u Q I rx ry ⟨a,b,xs,ys,rfl,rfl,fz.of h1,fz.of k1,hd,?_,λe=>?_,λe p hp=>?_⟩
    ·rw[h2.length,k2.length];exact Qh (P7 g) JB
    ·subst e;cases k2.dS;rw[QK]at q;exact q _ _ (PR.p5 h1 λA w=>fN.ar w.1 h1)
    ·exact q _ _ (PR.yy hp λA w=>(fN.ar w.1 h1).append (fN.ar w.2.1 k1))
  ·cases he
 ·split at he
  ·rename_i i j;cases he;exact Ed pins s σ H x y v u Q I rx ry ⟨i,j,hx.int_inv,hy.int_inv,q _ _ (PR.sc (d:=.int _) rfl)⟩
  ·cases he
 ·split at he
  ·rename_i i j;obtain⟨g,he⟩:=bu he;cases he;refine Ec pins s σ H x y v u Q I rx ry ⟨i,j,hx.int_inv,hy.int_inv,?_,q _ _ (PR.sc (d:=.int _) rfl)⟩;rw[QL]at g;rcases g with g|g
   ·exact .inl (mV (P7 g))
   ·exact .inr (mV (P7 g))
  ·rename_i i j;obtain⟨g,he⟩:=bu he;cases he;obtain⟨a,xs,rfl,h1,h2⟩:=hx.ae;rw[P5]at g;have g1:=P7 g.1;have g2:=P7 g.2;have dF:lim=1000000:=rfl;refine Mx.A6 pins s σ H _ _ v u Q I rx ry ⟨a,j,xs,rfl,hy.int_inv,h1,by lia,by lia,?_,λhc=>?_,λp hp=>q _ _ (PR.yy hp λA w=>(fN.ar w.1 h1).rep _)⟩
   ·rw[h2.length];exact Qh g2 JB
   ·refine q _ _ (PR.p5 h1 λA w=>?_);have:=fN.ar w.1 h1;rcases hc with rfl|rfl
    ·cases this.dS;have e:(List.replicate j.toNat ([]:List Dt)).flatten=[]:=by simp
     rw[e];exact aq.nil
    ·have e:(List.replicate (1:Int).toNat i).flatten=i:=by simp
     rw[e];exact this
  ·cases he
 ·split at he
  ·rename_i i j;obtain⟨g,he⟩:=bu he;cases he;rw[P5]at g;exact D9 pins s σ H x y v u Q I rx ry ⟨i,j,hx.int_inv,hy.int_inv,⟨P7 g.1,P7 g.2⟩,q _ _ (PR.sc (d:=.int _) rfl)⟩
  ·cases he
 ·split at he
  ·rename_i i j;obtain⟨g,he⟩:=bu he;cases he;exact Eb pins s σ H x y v u Q I rx ry ⟨i,j,hx.int_inv,hy.int_inv,P7 g,q _ _ (PR.sc (d:=.int _) rfl)⟩
  ·cases he
 ·cases he
noncomputable def rC(K:Frag)(o:CmpOp):R2:=λx y H Q=>∃d e z,RV K N0 H x d/\RV K N0 H y e/\cL o d e= .ok z/\Q (.bl z) H
theorem zZ{pins:List (Addr×Obj)}{s:Shared}{σ:L2.St}{H:Hp}{K:Frag}(I:Inv X pins σ H s)(hu:X.A.units+150<cLine){xs:List V}{ds:List Dt}{its:List Value}{x:V}{u:Value}{d:Dt}(r:au xs its)(g:aq K N0 H xs ds)(rx:RelV x u)(hx:RV K N0 H x d)(p1:pl d=true)(p2:l8 ds=true)(hd:pA ds<=100):
  ∃e:Value->Bool,(∀y,y∈its.toArray->EqAt X.A.in1 s y u (e y))/\its.toArray.any e=inD d ds:=by
 classical
 let e:Value->Bool:=λy=>decide (∃(j:Nat)(d':Dt),its[j]?=some y/\ds[j]?=some d'/\dG d' d=true)
 have key:∀(j:Nat)(y:Value)(d':Dt),its[j]?=some y->ds[j]?=some d'->e y=dG d' d:=λj y d' h1 h2=>by
  rw[Q0];constructor
  ·intro h;obtain⟨j',Pp,k1,k2,k3⟩:=P7 h;have hj:j<xs.length:=by rw[r.length];exact(P8.mp h1).1
   have pO:j'<xs.length:=by rw[r.length];exact(P8.mp k1).1
   obtain⟨u1,a1,a2⟩:=r.get (i:=j) (x:=xs[j]) (by simp[hj]);obtain⟨u2,b1,b2⟩:=r.get (i:=j') (x:=xs[j']) (by simp[pO]);rw[h1]at a1;cases a1;rw[k1]at b1;cases b1;have ex:=RelV.inj a2 b2;obtain⟨d1,c1,c2⟩:=g.get (i:=j) (x:=xs[j]) (by simp[hj]);obtain⟨d2,e1,e2⟩:=g.get (i:=j') (x:=xs[j']) (by simp[pO]);rw[h2]at c1;cases c1;rw[k2]at e1;cases e1;rw[<-ex]at e2;rw[RV.inj c2 e2 (eK p2 h2) (eK p2 k2)];exact k3
  ·intro h;exact Qz ⟨j,d',h1,h2,h⟩
 refine⟨e,λy hy=>?_,?_⟩
 ·obtain⟨j,hj⟩:=Su.mp (by simpa using hy:y∈its);have M6:j<xs.length:=by rw[r.length];exact(P8.mp hj).1
  obtain⟨d',h1,h2⟩:=g.get (i:=j) (x:=xs[j]) (by simp[M6]);obtain⟨u1,a1,a2⟩:=r.get (i:=j) (x:=xs[j]) (by simp[M6]);rw[hj]at a1;cases a1;rw[key j y d' hj h1];exact BZ I.hok 100 d' d xs[j] x y u X.A.in1 (Qh (kE h1) hd) (eK p2 h1) p1 (by show X.A.units+1+100<cLine;lia) h2 hx a2 rx
 ·rw[List.any_toArray];unfold inD;have hlen:its.length=ds.length:=by rw[<-r.length,g.length]
  clear_value e
  clear r g p2 hd
  induction its generalizing ds with
  |nil=>
   cases ds with
   |nil=>rfl
   |cons=>simp at hlen
  |cons y ys ih=>
   cases ds with
   |nil=>simp at hlen
   |cons d' mG=>rw[List.any_cons,List.any_cons,key 0 y d' rfl rfl,ih (λj y d' h1 h2=>key (j+1) y d' (by simpa using h1) (by simpa using h2)) (by simpa using hlen)]
mutual
theorem uh:∀{d e:Mx.D},vC d e=true->Mx.D.cN d e
 |.int _,.int _,_=>by unfold Mx.D.cN;trivial
 |.str _,.str _,_=>by unfold Mx.D.cN;trivial
 |.tup a,.tup b,h=>by unfold Mx.D.cN;exact jv (by simpa [vC]using h)
 |.int _,.str _,h=>by simp[vC]at h
 |.int _,.tup _,h=>by simp[vC]at h
 |.str _,.int _,h=>by simp[vC]at h
 |.str _,.tup _,h=>by simp[vC]at h
 |.tup _,.int _,h=>by simp[vC]at h
 |.tup _,.str _,h=>by simp[vC]at h
theorem jv:∀{d e:List Mx.D},lZ d e=true->Mx.D.eY d e
 |[],_,_=>by unfold Mx.D.eY;trivial
 |_::_,[],_=>by unfold Mx.D.eY;trivial
 |x::xs,y::ys,h=>by simp only[lZ,P5]at h;unfold Mx.D.eY;exact⟨uh h.1,jv h.2⟩
end
theorem yC(o:CmpOp)(hu:X.A.units+150<cLine):kr X (compareOp o) (rC X.K o):=by
 intro pins s σ H x y v u Q I rx ry h;obtain⟨d,e,z,hx,hy,he,q⟩:=h;unfold cL at he;split at he
 ·obtain⟨g,he⟩:=bu he;cases he;unfold pB at g;rw[P5,P5]at g;exact Ia I.hok 100 d e x y v u X.A (Nat.le_succ_of_le (P7 g.2)) g.1.1 g.1.2 ⋯ hx hy rx ry X.prog X.w X.xe (EP X pins σ Q) ⟨.bl _,H,I,rfl,q⟩
 ·obtain⟨g,he⟩:=bu he;cases he;unfold pB at g;rw[P5,P5]at g;exact Bt I.hok 100 d e x y v u X.A (Nat.le_succ_of_le (P7 g.2)) g.1.1 g.1.2 ⋯ hx hy rx ry X.prog X.w X.xe (EP X pins σ Q) ⟨.bl _,H,I,rfl,q⟩
 ·rename_i i j;cases he;exact HG pins s σ H x y v u Q I rx ry ⟨i,j,hx.int_inv,hy.int_inv,q⟩
 ·rename_i i j;cases he;exact HF pins s σ H x y v u Q I rx ry ⟨i,j,hx.int_inv,hy.int_inv,q⟩
 ·rename_i i j;cases he;exact HE pins s σ H x y v u Q I rx ry ⟨i,j,hx.int_inv,hy.int_inv,q⟩
 ·rename_i i j;cases he;exact HD pins s σ H x y v u Q I rx ry ⟨i,j,hx.int_inv,hy.int_inv,q⟩
 ·split at he
  ·rename_i xs ys h1 h2;obtain⟨g,he⟩:=bu he;cases he;rw[P5]at g;rw[i9 h1]at hx;rw[i9 h2]at hy;exact Mx.Ao I.hok 101 (.tup xs) (.tup ys) x y v u X.A (by have:=P7 g.2;unfold Mx.D.dep;lia) ⋯ (by unfold Mx.D.cN;exact jv g.1) (RV.dv (m:=.tup xs) (by rw[ofD];exact hx)) (RV.dv (m:=.tup ys) (by rw[ofD];exact hy)) rx ry X.prog X.w X.xe (EP X pins σ Q) ⟨.bl _,H,I,rfl,by unfold Mx.D.lt at *;exact q⟩
  ·cases he
 ·cases he;refine Ea pins s σ H x y v u Q I rx ry ⟨hy.aB,?_⟩;cases d with
  |aW=>rw[hx.aB];exact q
  |bl b=>rw[hx.az];exact q
  |int b=>rw[hx.int_inv];exact q
  |str b=>rw[hx.str_inv];exact q
  |tup b=>obtain⟨a,xs,rfl,_⟩:=hx.ae;exact q
  |lst b=>obtain⟨a,xs,rfl,_⟩:=hx.lst_inv;exact q
  |cc b=>obtain⟨a,rfl,_⟩:=hx.eF;exact q
  |gE=>exact hx.gF.elim
  |obj=>obtain⟨a,xs,rfl,_⟩:=hx.i8;exact q
  |exc=>exact hx.gG.elim
 ·cases he;refine A5 pins s σ H x y v u Q I rx ry ⟨hy.aB,?_⟩;cases d with
  |aW=>rw[hx.aB];exact q
  |bl b=>rw[hx.az];exact q
  |int b=>rw[hx.int_inv];exact q
  |str b=>rw[hx.str_inv];exact q
  |tup b=>obtain⟨a,xs,rfl,_⟩:=hx.ae;exact q
  |lst b=>obtain⟨a,xs,rfl,_⟩:=hx.lst_inv;exact q
  |cc b=>obtain⟨a,rfl,_⟩:=hx.eF;exact q
  |gE=>exact hx.gF.elim
  |obj=>obtain⟨a,xs,rfl,_⟩:=hx.i8;exact q
  |exc=>exact hx.gG.elim
 ·obtain⟨g,he⟩:=bu he;cases he;rw[P5,P5]at g;obtain⟨a,xs,rfl,h1,_,h2⟩:=hy.lst_inv;cases ry;obtain⟨its,r,t⟩:=aP I.hok h1;obtain⟨e,k1,k2⟩:=zZ I hu r h2 rx hx g.1.1 g.1.2 (P7 g.2);exact notIn_listAt e t k1 ⟨.bl _,H,I,by rw[k2];rfl,q⟩
 ·cases he
theorem qW{ds:List Dt}{i:Int}{d:Dt}(h:u4 ds i= .ok d):mv ds i=some d:=by
 unfold u4 at h;split at h
 ·cases h;assumption
 ·cases h
theorem jU{K:Frag}{A:Addr->Prop}{H:Hp}{xs:List V}{ds:List Dt}{i:Int}{d:Dt}(g:aq K A H xs ds)(h:mv ds i=some d):∃v,mv xs i=some v/\RV K A H v d:=by
 unfold mv at h ⊢;rw[g.length];cases e:oo ds.length i with
 |none=>rw[e]at h;cases h
 |some j=>rw[e]at h;obtain⟨v,h1,h2⟩:=g.getD (i:=j) h;exact⟨v,h1,h2⟩
noncomputable def rX(K:Frag):R2:=λx y H Q=>∃d e z,RV K N0 H x d/\RV K N0 H y e/\cu d e= .ok z/\∀v,PR K false [x,y] [d,e] H z v H->Q v H
theorem DH:Jg X (rX X.K):=by
 intro value slice pins s σ H x y v u Q I rx ry h hs;obtain⟨d,e,z,hx,hy,he,q⟩:=h;unfold cu at he;split at he
 ·rename_i ds i;obtain⟨a,xs,rfl,h1,_,h2⟩:=hx.lst_inv;have mI:=qW he;obtain⟨w,k1,k2⟩:=jU h2 mI;refine ua value slice pins s σ H _ y v u Q I rx ry ⟨a,xs,i,w,rfl,hy.int_inv,dJ.of h1,k1,q w ⟨bV.refl _,λA _ q'=>?_,λz=>by cases z⟩⟩ hs;obtain⟨w',m1,m2⟩:=jU (fN.aP q'.1 h1) mI;rw[k1]at m1;cases m1;exact m2
 ·rename_i ds i;obtain⟨a,xs,rfl,h1,h2⟩:=hx.ae;have mI:=qW he;obtain⟨w,k1,k2⟩:=jU h2 mI;refine DI value slice pins s σ H _ y v u Q I rx ry ⟨a,xs,i,w,rfl,hy.int_inv,fz.of h1,k1,q w ⟨bV.refl _,λA _ q'=>?_,λz=>by cases z⟩⟩ hs;obtain⟨w',m1,m2⟩:=jU (fN.ar q'.1 h1) mI;rw[k1]at m1;cases m1;exact m2
 ·rename_i ns i;obtain⟨a,rfl,h1⟩:=hx.jx;have mI:=qW he;have e1:mv ((ns.map V.int)) i=some (qP z)/\oZ z=true:=by
   unfold mv at mI ⊢;rw[Qf]at mI ⊢;cases e:oo ns.length i with
   |none=>rw[e]at mI;cases mI
   |some j=>
    rw[e]at mI;simp only[Option.bind_some,Qp]at mI ⊢;cases en:ns[j]? with
    |none=>rw[en]at mI;cases mI
    |some k=>rw[en]at mI;simp at mI;subst mI;exact⟨rfl,rfl⟩
  exact ua value slice pins s σ H _ y v u Q I rx ry ⟨a,_,i,_,rfl,hy.int_inv,h1,e1.1,q _ (PR.sc e1.2)⟩ hs
 ·cases he
noncomputable def rS(K:Frag):V->Option Int->Option Int->Hp->VK->Prop:=λx lo hi H Q=>∃d z,RV K N0 H x d/\fk d lo hi= .ok z/\∀v H',PR K true [x] [d] H z v H'->Q v H'
theorem aq.cut{K:Frag}{A:Addr->Prop}{H:Hp}{xs:List V}{ds:List Dt}{lo hi:Option Int}(g:aq K A H xs ds):aq K A H (lU xs lo hi) (cutD ds lo hi):=by unfold lU cutD;rw[g.length];exact(g.drop _).take _
theorem rg{xs:List V}{lo hi:Option Int}(h:HT.bU xs.length 0 lo=0/\HT.bU xs.length xs.length hi=xs.length):lU xs lo hi=xs:=by unfold lU;rw[h.1,h.2];simp
theorem oG:FU X (λx lo hi H Q=>∃a xs,x= .ref a/\H a=some (.tup xs)/\(HT.bU xs.length 0 lo=0/\HT.bU xs.length xs.length hi=xs.length)/\Q (.ref a) H):=by
 intro pins s σ H x v vl vu lo hi sl Q I rx hs pl pu h;obtain⟨a,xs,rfl,hx,hw,q⟩:=h;cases rx;obtain⟨its,r,ht,hz⟩:=I.tuple (fz.of hx);have hlen:its.toArray.size=xs.length:=by rw[P6];exact r.length.symm
 refine⟨"tuple",_,Tq.lookup,ht.typeIs,?_⟩;refine HT.gU ht hs pl pu (by rw[hlen];exact hw) ⟨.ref a,H,I,rfl,q⟩ (by rw[hlen];exact hz)
theorem iU{K:Frag}{A:Addr->Prop}{H:Hp}:∀{ns:List Int},aq K A H (ns.map V.int) (ns.map Dt.int)
 |[]=>aq.nil
 |_::_=>aq.cons RV.du iU
theorem y7:FU X (rS X.K):=by
 intro pins s σ H x v vl vu lo hi sl Q I rx hs pl pu h;obtain⟨d,z,hx,he,q⟩:=h;unfold fk at he;split at he
 ·cases he;obtain⟨a,xs,rfl,h1,_,h2⟩:=hx.lst_inv;exact uJ pins s σ H _ v vl vu lo hi sl Q I rx hs pl pu ⟨a,xs,rfl,dJ.of h1,λp hp=>q _ _ (PR.rV hp λA w=>(fN.aP w.1 h1).cut)⟩
 ·cases he;obtain⟨a,rfl,h1⟩:=hx.jx;exact uJ pins s σ H _ v vl vu lo hi sl Q I rx hs pl pu ⟨a,_,rfl,h1,λp hp=>q _ _ (PR.rV hp λA w=>aq.cut iU)⟩
 ·cases he;obtain⟨a,xs,rfl,h1,h2⟩:=hx.ae;by_cases hw:HT.bU xs.length 0 lo=0/\HT.bU xs.length xs.length hi=xs.length
  ·refine oG pins s σ H _ v vl vu lo hi sl Q I rx hs pl pu ⟨a,xs,rfl,h1,hw,q _ _ (PR.p5 h1 λA w=>?_)⟩;have:=(fN.ar w.1 h1).cut (lo:=lo) (hi:=hi);rw[rg hw]at this;exact this
  ·exact EW pins s σ H _ v vl vu lo hi sl Q I rx hs pl pu ⟨a,xs,rfl,fz.of h1,hw,λp hp=>q _ _ (PR.yy hp λA w=>(fN.ar w.1 h1).cut)⟩
 ·cases he
theorem iV{K:Frag}{A:Addr->Prop}{H:Hp}:∀{xs:List V}{ds:List Dt}{ns:List Int},aq K A H xs ds->intsOf ds=some ns->xs=ns.map V.int
 |xs,[],ns,g,h=>by simp[intsOf]at h;subst h;exact g.nil_inv
 |xs,d::ds,ns,g,h=>by
  obtain⟨x,r,rfl,g1,g2⟩:=g.cons_inv;cases d with
  |int i=>simp only[intsOf,Ql]at h;obtain⟨ms,h1,rfl⟩:=h;rw[iV g2 h1,g1.int_inv];rfl
  |_=>simp[intsOf]at h
theorem tj{K:Frag}{A:Addr->Prop}{H:Hp}:∀{xs:List V}{ds:List Dt}{ns:List Bool},aq K A H xs ds->iO ds=some ns->xs=ns.map V.bl
 |xs,[],ns,g,h=>by simp[iO]at h;subst h;exact g.nil_inv
 |xs,d::ds,ns,g,h=>by
  obtain⟨x,r,rfl,g1,g2⟩:=g.cons_inv;cases d with
  |bl i=>simp only[iO,Ql]at h;obtain⟨ms,h1,rfl⟩:=h;rw[tj g2 h1,g1.az];rfl
  |_=>simp[iO]at h
theorem yu:∀(ns:List Int),ns≠[]->rQ ns∈ns/\∀a∈ns,rQ ns<=a
 |[],h=>absurd rfl h
 |[a],_=>by simp[rQ]
 |a::b::r,_=>by
  have ih:=yu (b::r) (by simp);have e:rQ (a::b::r)=min a (rQ (b::r)):=rfl;rw[e];constructor
  ·by_cases h:a<=rQ (b::r)
   ·rw[Int.min_eq_left h];exact Qc
   ·rw[Int.min_eq_right ⋯];exact P9 _ ih.1
  ·intro c hc;rcases Qi.mp hc with e|hc
   ·rw[e];exact Int.min_le_left _ _
   ·exact Int.le_trans (Int.min_le_right _ _) (ih.2 c hc)
theorem cD:∀(ns:List Int),ns≠[]->dq ns∈ns/\∀a∈ns,a<=dq ns
 |[],h=>absurd rfl h
 |[a],_=>by simp[dq]
 |a::b::r,_=>by
  have ih:=cD (b::r) (by simp);have e:dq (a::b::r)=max a (dq (b::r)):=rfl;rw[e];constructor
  ·by_cases h:a<=dq (b::r)
   ·rw[Int.max_eq_right h];exact P9 _ ih.1
   ·rw[Int.max_eq_left ⋯];exact Qc
  ·intro c hc;rcases Qi.mp hc with e|hc
   ·rw[e];exact Int.le_max_left _ _
   ·exact Int.le_trans (ih.2 c hc) (Int.le_max_right _ _)
theorem hZ:∀{l l':List Mx.D},l.Perm l'->(l.Pairwise λa b=>Mx.D.lt b a=false)->(l'.Pairwise λa b=>Mx.D.lt b a=false)->l=l'
 |[],l',p,_,_=>(List.nil_perm.mp p).symm
 |a::t,l',p,h1,h2=>by
  cases l' with
  |nil=>exact absurd p.length_eq (by simp)
  |cons b t'=>
   rw[SC]at h1 h2;have fS:a=b:=by
    have ha:a∈b::t':=p.mem_iff.mp Qc;have hb:b∈a::t:=p.mem_iff.mpr Qc;rcases Qi.mp ha with e|ha
    ·exact e
    rcases Qi.mp hb with e|hb
    ·exact e.symm
    exact Mx.D.gk a b (h2.1 a ha) (h1.1 b hb)
   subst fS;rw[hZ (List.perm_cons a |>.mp p) h1.2 h2.2]
theorem lJ(ms:List Mx.D):(eI ms).Perm ms/\(eI ms).Pairwise λa b=>Mx.D.lt b a=false:=by
 unfold eI;refine⟨List.mergeSort_perm ms ug,?_⟩;have h:=List.pairwise_mergeSort (le:=ug) (λa b c h1 h2=>by
  unfold ug at *;simp only[Q3]at *;cases h3:Mx.D.lt c a with
  |false=>rfl
  |true=>
   rcases Mx.Ge.negTrans c b a h3 with h|h
   ·have h:Mx.D.lt c b=true:=h;rw[h2]at h;cases h
   ·have h:Mx.D.lt b a=true:=h;rw[h1]at h;cases h) (λa b=>by
  unfold ug;cases h:Mx.D.lt b a with
  |false=>rfl
  |true=>
   cases h':Mx.D.lt a b with
   |false=>rfl
   |true=>have:=Mx.D.lt_trans a b a h' h;rw[Mx.D.lt_irrefl]at this;cases this) ms
 exact h.imp λq=>by unfold ug at q;simpa using q
theorem za{ms es:List Mx.D}(h:Mx.kv ms es):es=eI ms:=hZ (h.1.trans (lJ ms).1.symm) h.2 (lJ ms).2
theorem DJ{k:Mx.SK}{d:Mx.D}(h:Hh k d=true):k.ok d:=by
 unfold Hh at h;split at h
 ·have e:=Qt h;subst e;exact⟨_,_,rfl⟩
 ·have e:=Qt h;subst e;exact⟨_,_,rfl⟩
 ·have e:=Qt h;subst e;exact⟨_,_,rfl⟩
 ·have e:=Qt h;subst e;exact⟨_,rfl⟩
 ·have e:=Qt h;subst e;exact⟨_,rfl⟩
 ·cases h
theorem Al{ms:List Mx.D}(h:jM ms=true):Mx.ko ms:=by
 unfold jM at h;rw[P5,QL]at h;obtain⟨h1,h2⟩:=h;refine⟨P7 h1,λh3=>?_⟩;rcases h2 with h2|h2
 ·have:=P7 h2
  lia
 ·rw[P5,P5]at h2;obtain⟨⟨h4,h5⟩,h6⟩:=h2;refine⟨P7 h4,?_,λd hd e he=>uh (QG.mp (QG.mp h6 d hd) e he)⟩;obtain⟨k,_,hk⟩:=QH.mp h5;exact⟨k,λd hd=>DJ (QG.mp hk d hd)⟩
theorem l7{α:Type}[DecidableEq α]{a b:List α}(ha:a.Nodup)(hb:b.Nodup)(h:∀x,x∈a↔x∈b):a.Perm b:=by rw[List.perm_iff_count];intro x;rw[ha.count,hb.count];simp[h x]
end
end Rx
end
section
namespace Rx
open PySem PySem.W PySem.Spec PyProof.Rows L2 PySem.SeqAt
section
variable{X:Cx}
noncomputable def Fw:BI->Value
 |.len=>.builtin "len"|.abs=>.builtin "abs"|.min2=>.builtin "min"|.max2=>.builtin "max"|.sum=>.builtin "sum"|.any=>.builtin "any"
 |.maxL=>.builtin "max"|.sorted=>.builtin "sorted"|.tuple=>.type "tuple"|.list=>.type "list"|.dvm=>.builtin "divmod"|_=>.none
noncomputable def EF:BI->Bool
 |.isi _=>false|_=>true
theorem bI{K:Frag}{A:Addr->Prop}{H:Hp}{xs:List V}{d:Dt}(h:aq K A H xs [d]):∃x,xs=[x]/\RV K A H x d:=by obtain⟨x,r,rfl,h1,h2⟩:=h.cons_inv;rw[h2.nil_inv];exact⟨x,rfl,h1⟩
theorem oV{K:Frag}{A:Addr->Prop}{H:Hp}{xs:List V}{d e:Dt}(h:aq K A H xs [d,e]):∃x y,xs=[x,y]/\RV K A H x d/\RV K A H y e:=by obtain⟨x,r,rfl,h1,h2⟩:=h.cons_inv;obtain⟨y,rfl,h3⟩:=bI h2;exact⟨x,y,rfl,h1,h3⟩
theorem Ag(b:BI)(hr:EF b=true)(hc:X.calm=true)(hu:X.A.units+150<cLine):c7 X (Fw b) (rP X.K true (d6 b)):=by
 intro pins s σ H xs us Q I r h;obtain⟨ds,d,hx,he,q⟩:=h;have JB:=eZ;unfold d6 at he;split at he
 ·split at he
  ·cases he;obtain⟨x,rfl,h1⟩:=bI hx;obtain⟨a,ys,rfl,h2,_,h3⟩:=h1.lst_inv;exact kB pins s σ H _ us Q I r ⟨_,_,rfl,.inl ⟨ys,dJ.of h2,rfl⟩,by rw[h3.length];exact q _ _ (PR.sc (d:=.int _) rfl)⟩
  ·cases he;obtain⟨x,rfl,h1⟩:=bI hx;obtain⟨a,ys,rfl,h2,h3⟩:=h1.ae;exact kB pins s σ H _ us Q I r ⟨_,_,rfl,.inr ⟨ys,fz.of h2,rfl⟩,by rw[h3.length];exact q _ _ (PR.sc (d:=.int _) rfl)⟩
  ·cases he;obtain⟨x,rfl,h1⟩:=bI hx;obtain⟨a,rfl,h2⟩:=h1.jx;exact kB pins s σ H _ us Q I r ⟨_,_,rfl,.inl ⟨_,h2,rfl⟩,by rw[Qf];exact q _ _ (PR.sc (d:=.int _) rfl)⟩
  ·cases he
 ·split at he
  ·cases he;obtain⟨x,rfl,h1⟩:=bI hx;exact wO pins s σ H _ us Q I r ⟨_,by rw[h1.int_inv],q _ _ (PR.sc (d:=.int _) rfl)⟩
  ·cases he
 ·split at he
  ·cases he;obtain⟨x,y,rfl,h1,h2⟩:=oV hx;exact vc hc pins s σ H _ us Q I r ⟨_,_,by rw[h1.int_inv,h2.int_inv],q _ _ (PR.sc (d:=.int _) rfl)⟩
  ·cases he
 ·split at he
  ·cases he;obtain⟨x,y,rfl,h1,h2⟩:=oV hx;exact va hc pins s σ H _ us Q I r ⟨_,_,by rw[h1.int_inv,h2.int_inv],q _ _ (PR.sc (d:=.int _) rfl)⟩
  ·cases he
 ·split at he
  ·split at he
   ·rename_i ns v8;cases he;obtain⟨x,rfl,h1⟩:=bI hx;obtain⟨a,ys,rfl,h2,_,h3⟩:=h1.lst_inv;rw[iV h3 v8]at h2;exact Mx.wU hc pins s σ H _ us Q I r ⟨a,ns,rfl,dJ.of h2,q _ _ (PR.sc (d:=.int _) rfl)⟩
   ·cases he
  ·split at he
   ·rename_i ns v8;cases he;obtain⟨x,rfl,h1⟩:=bI hx;obtain⟨a,ys,rfl,h2,h3⟩:=h1.ae;rw[iV h3 v8]at h2;exact Mx.vd hc pins s σ H _ us Q I r ⟨a,ns,rfl,h2,q _ _ (PR.sc (d:=.int _) rfl)⟩
   ·cases he
  ·cases he
 ·split at he
  ·split at he
   ·rename_i ns v8;cases he;obtain⟨x,rfl,h1⟩:=bI hx;obtain⟨a,ys,rfl,h2,_,h3⟩:=h1.lst_inv;rw[tj h3 v8]at h2;exact Mx.wQ hc pins s σ H _ us Q I r ⟨a,ns,rfl,dJ.of h2,q _ _ (PR.sc (d:=.bl _) rfl)⟩
   ·cases he
  ·cases he
 ·split at he
  ·rename_i d0;split at he
   ·rename_i es hes;split at he
    ·rename_i ms hms;obtain⟨g,he⟩:=bu he;cases he;have cs:=Al g;obtain⟨x,rfl,h1⟩:=bI hx;have NX:=i9 hms;have go:∀{a:Addr}{ys:List V},x= .ref a->(dJ X.K H a ys\/fz X.K H a ys)->aq X.K N0 H ys es->wpAny (model X.prog X.w) X.A (call (Fw .sorted) us) (EP X pins σ Q) X.xe s:=by intro a ys ex hs g;subst ex;rw[NX]at g;refine Mx.nL hu pins s σ H _ us Q I r ⟨a,ys,ms,rfl,hs,g.vi,cs,λm zs qs hm hz hso=>q _ _ ?_⟩;have e:=za hso;subst e;exact PR.rV hm λA _=>aq.rZ hz
     unfold itemsOf at hes;split at hes
     ·cases hes;obtain⟨a,ys,e1,h2,_,h3⟩:=h1.lst_inv;exact go e1 (.inl (dJ.of h2)) h3
     ·cases hes;obtain⟨a,ys,e1,h2,h3⟩:=h1.ae;exact go e1 (.inr (fz.of h2)) h3
     ·cases hes;obtain⟨a,e1,h2⟩:=h1.jx;exact go e1 (.inl h2) iU
     ·cases hes
    ·cases he
   ·cases he
  ·cases he
 ·split at he
  ·cases he;obtain⟨x,rfl,h1⟩:=bI hx;obtain⟨a,ys,rfl,h2,_,h3⟩:=h1.lst_inv;exact gY pins s σ H _ us Q I r ⟨a,ys,rfl,.inl ⟨dJ.of h2,λl hl=>q _ _ (PR.yy hl λA w=>fN.aP w.1 h2)⟩⟩
  ·cases he;obtain⟨x,rfl,h1⟩:=bI hx;obtain⟨a,ys,rfl,h2,h3⟩:=h1.ae;exact gY pins s σ H _ us Q I r ⟨a,ys,rfl,.inr ⟨fz.of h2,q _ _ (PR.p5 h2 λA w=>fN.ar w.1 h2)⟩⟩
  ·cases he
 ·split at he
  ·cases he;obtain⟨x,rfl,h1⟩:=bI hx;obtain⟨a,ys,rfl,h2,_,h3⟩:=h1.lst_inv;exact fA pins s σ H _ us Q I r ⟨a,ys,rfl,.inl (dJ.of h2),λl hl=>q _ _ (PR.rV hl λA w=>fN.aP w.1 h2)⟩
  ·cases he;obtain⟨x,rfl,h1⟩:=bI hx;obtain⟨a,ys,rfl,h2,h3⟩:=h1.ae;exact fA pins s σ H _ us Q I r ⟨a,ys,rfl,.inr (fz.of h2),λl hl=>q _ _ (PR.rV hl λA w=>fN.ar w.1 h2)⟩
  ·cases he;obtain⟨x,rfl,h1⟩:=bI hx;obtain⟨a,rfl,h2⟩:=h1.jx;exact fA pins s σ H _ us Q I r ⟨a,_,rfl,.inl h2,λl hl=>q _ _ (PR.rV hl λA w=>iU)⟩
  ·cases he
 ·cases hr
 ·split at he
  ·split at he
   ·rename_i ns v8;obtain⟨g,he⟩:=bu he;cases he;obtain⟨x,rfl,h1⟩:=bI hx;obtain⟨a,ys,rfl,h2,_,h3⟩:=h1.lst_inv;rw[iV h3 v8]at h2;have cM:ns≠[]:=λe=>by rw[e]at g;cases g
    refine Mx.vb hc pins s σ H _ us Q I r ⟨a,ns,rfl,dJ.of h2,cM,λm m1 m2=>?_⟩;have:=cD ns cM;have e:m=dq ns:=Int.le_antisymm (this.2 _ m1) (m2 _ this.1);rw[e];exact q _ _ (PR.sc (d:=.int _) rfl)
   ·cases he
  ·cases he
 ·split at he
  ·rename_i i j;obtain⟨g,he⟩:=bu he;cases he;obtain⟨x,y,rfl,h1,h2⟩:=oV hx;rw[P5]at g;refine Mx.nK pins s σ H _ us Q I r ⟨i,j,by rw[h1.int_inv,h2.int_inv],P7 g.1,P7 g.2,λp hp=>q _ _ (PR.yy hp λA w=>aq.cons RV.du (aq.cons RV.du aq.nil))⟩
  ·cases he
end
structure Fm where
 K:Frag
 H0:Hp
 d0:Option Addr
 Ek:Nat->Prop
 P:Program
 w:World
structure Ow where
 W:Addr->Prop
 A:Addr->Prop
 dr:Option Addr
noncomputable def Ow.wd(o:Ow):Addr->Prop:=λa=>o.W a\/o.dr=some a
noncomputable def Ow.d(o:Ow):Addr->Prop:=λa=>o.dr=some a
noncomputable def OV(Φ:Fm)(o:Ow)(H:Hp)(v:V):Dt->Prop
 |.lst ds=>∃a xs,v= .ref a/\H a=some (.lst xs)/\o.A a/\¬o.W a/\o.dr≠some a/\Φ.H0 a=none/\aq Φ.K o.A H xs ds
 |.gE ks vs=>False
 |d=>RV Φ.K o.A H v d
structure ER(Φ:Fm)(Γ:Gm)(o:Ow)(ρ:ao)(S:Sx)(σ:L2.St)(H:Hp):Prop where
 len:σ.length=ρ.length
 wa:∀a,o.W a->o.A a
 da:∀a,o.dr=some a->o.A a
 al:∀a,o.A a->∃x,H a=some x
 val:∀(i:Nat)(d:Dt),ρ[i]?=some (some d)->∃v,σ[i]?=some (some v)/\(if fU Γ i=true then OV Φ o H v d else RV Φ.K o.A H v d)
 dk:∀(i:Nat)(ks vs:List Dt),ρ[i]?=some (some (.gE ks vs))->Γ.κ=some i
 inj:∀(i j:Nat)(a:Addr)(d e:List Dt),fU Γ i=true->fU Γ j=true->ρ[i]?=some (some (.lst d))->ρ[j]?=some (some (.lst e))->σ[i]?=some (some (.ref a))->σ[j]?=some (some (.ref a))->i=j
 drw:∀a,o.dr=some a->∃ns:List Int,S=some ns/\H a=some (.lst (ns.map V.int))
 drn:o.dr=none->S=none
 drs:∀(i:Nat)(a:Addr),Γ.δ=some i->o.dr=some a->σ[i]?=some (some (.ref a))
 dr0:∀a,o.dr=some a->Φ.d0=some a\/Φ.H0 a=none
 ent:bc (λb=>Φ.d0=some b) Φ.H0 H
section
variable{Φ:Fm}{Γ:Gm}{o:Ow}{ρ:ao}{S S':Sx}{σ:L2.St}{H H':Hp}
noncomputable def nD:Dt->Bool
 |.gE _ _=>false
 |_=>true
theorem OV.val{v:V}{d:Dt}(h:OV Φ o H v d)(nd:nD d=true)(wa:∀a,o.W a->o.A a)(da:∀a,o.dr=some a->o.A a):RV Φ.K o.wd H v d:=by
 have hw:∀b,o.wd b->o.A b:=λb z=>z.elim (wa b) (da b)
 cases d with
 |lst ds=>obtain⟨a,xs,rfl,h1,h2,h3,h4,_,h5⟩:=h;exact RV.fH h1 (λz=>z.elim h3 h4) (h5.weak hw)
 |gE=>cases nd
 |_=>exact RV.weak h hw
theorem OV.one{v:V}{d:Dt}(h:OV Φ o H v d)(nd:nD d=true):fN Φ.K o.A H v d:=by
 cases d with
 |lst ds=>obtain⟨a,xs,rfl,h1,h2,h3,h4,_,h5⟩:=h;exact⟨a,xs,rfl,h1,h5⟩
 |gE=>cases nd
 |_=>exact h
theorem OV.ext{v:V}{d:Dt}(h:OV Φ o H v d)(da:∀a,o.dr=some a->o.A a)(e:bc o.d H H'):OV Φ o H' v d:=by
 cases d with
 |lst ds=>obtain⟨a,xs,rfl,h1,h2,h3,h4,h6,h5⟩:=h;exact⟨a,xs,rfl,e.kp _ _ h1 h4,h2,h3,h4,h6,h5.mono e da λ_ z=>z⟩
 |gE=>exact h.elim
 |_=>exact RV.mono e da (λ_ z=>z) h
theorem Dk.set{κ:Option Nat}{i:Nat}{d:Dt}(h:∀(i:Nat)(ks vs:List Dt),ρ[i]?=some (some (.gE ks vs))->κ=some i)(nd:nD d=true):∀(j:Nat)(ks vs:List Dt),(ρ.set i (some d))[j]?=some (some (.gE ks vs))->κ=some j:=λj ks vs hj=>by
 by_cases e:j=i
 ·subst e;rw[R4]at hj;simp only[TQ]at hj;split at hj
  ·cases hj;cases nd
  ·cases hj
 ·rw[Qn (Tn e)]at hj;exact h j ks vs hj
theorem RV.nd{K:Frag}{A:Addr->Prop}{v:V}{d:Dt}(h:RV K A H v d):nD d=true:=by
 cases d with
 |gE=>unfold RV at h;exact h.elim
 |_=>rfl
theorem ER.nd(er:ER Φ Γ o ρ S σ H){i:Nat}{d:Dt}(h:ρ[i]?=some (some d))(n:Γ.κ≠some i):nD d=true:=by
 cases d with
 |gE ks vs=>exact absurd (er.dk i ks vs h) n
 |_=>rfl
theorem ER.iF(er:ER Φ Γ o ρ S σ H):∀b,o.wd b->o.A b:=λb z=>z.elim (er.wa b) (er.da b)
theorem ER.wx(er:ER Φ Γ o ρ S σ H):∀b,o.wd b->∃x,H b=some x:=λb z=>er.al b (er.iF b z)
theorem bc.al{X:Addr->Prop}(e:bc X H H'){b:Addr}{x:HO}(h:H b=some x)(hx:X b->∃y,H' b=some y):∃y,H' b=some y:=by
 by_cases z:X b
 ·exact hx z
 ·exact⟨x,e.kp _ _ h z⟩
theorem ER.step(er:ER Φ Γ o ρ S σ H)(e:bc o.d H H')(hd:∀a,o.dr=some a->∃ns:List Int,S'=some ns/\H' a=some (.lst (ns.map V.int)))(hn:o.dr=none->S'=none):ER Φ Γ o ρ S' σ H' where
 len:=er.len
 wa:=er.wa
 da:=er.da
 al:=λa ha=>by obtain⟨x,hx⟩:=er.al a ha;exact e.al hx λz=>by obtain⟨ns,_,h⟩:=hd a z;exact⟨_,h⟩
 val:=λi d h=>by
  obtain⟨v,h1,h2⟩:=er.val i d h;refine⟨v,h1,?_⟩;by_cases m:fU Γ i=true
  ·rw[TN m]at h2 ⊢;exact h2.ext er.da e
  ·rw[TM m]at h2 ⊢;exact h2.mono e er.da λ_ z=>z
 dk:=er.dk
 inj:=er.inj
 drw:=hd
 drn:=hn
 drs:=er.drs
 dr0:=er.dr0
 ent:=⟨λb x h n=>by
   refine e.kp _ _ (er.ent.kp b x h n) λz=>?_
   rcases er.dr0 b z with q|q
   ·exact n q
   ·(rw[h]at q;cases q),λb xs h=>e.tp _ _ (er.ent.tp b xs h)⟩
theorem ER.grow(er:ER Φ Γ o ρ S σ H)(s:bV H H'):ER Φ Γ o ρ S σ H':=er.step (bc.of_same s) (λa h=>by
 obtain⟨ns,h1,h2⟩:=er.drw a h;exact⟨ns,h1,s _ _ h2⟩) er.drn
end
noncomputable def mR(Ek:Nat->Prop){α:Type}(r:R α)(P:α->Prop):Prop:=match r with
 |.ok a=>P a
 |.ex k=>Ek k
 |.bad=>False
section
variable{Ek:Nat->Prop}{α β:Type}
theorem ab{r:R α}{f:α->R β}{P:β->Prop}:mR Ek (r.bind f) P↔mR Ek r λa=>mR Ek (f a) P:=by cases r<;>rfl
theorem ag{r:R α}{P Q:α->Prop}(h:mR Ek r P)(hq:∀a,r= .ok a->P a->Q a):mR Ek r Q:=by
 cases r with
 |ok a=>exact hq a rfl h
 |ex k=>exact h
 |bad=>exact h
theorem a8{b:Bool}{r:R α}{P:α->Prop}(h:mR Ek (af b r) P):b=true/\mR Ek r P:=by
 cases b with
 |true=>exact⟨rfl,h⟩
 |false=>exact h.elim
end
structure EO(K:Frag)(fr:Nat->Bool)(o:Ow)(c:C)(H:Hp)(d:Dt)(v:V)(H':Hp):Prop where
 ext:bc o.d H H'
 val:RV K o.wd H' v d
 dH:lk c=0->RV K o.A H' v d
 sv:lk c<=1->fN K o.A H' v d
 jO:fresh fr c=true->∀ds,d= .lst ds->∃a xs,v= .ref a/\H a=none/\H' a=some (.lst xs)/\aq K (λb=>o.wd b\/b=a) H' xs ds/\(lk c=0->aq K (λb=>o.A b\/b=a) H' xs ds)
structure NH(K:Frag)(o:Ow)(cs:Cs)(H:Hp)(ds:List Dt)(vs:List V)(H':Hp):Prop where
 ext:bc o.d H H'
 val:aq K o.wd H' vs ds
 dH:p7 cs=0->aq K o.A H' vs ds
 sv:p7 cs<=1->nC K o.A H' vs ds
section
variable(Φ:Fm)(Γ:Gm)(F:FT)(fr:Nat->Bool)
inductive b8(c:C)(σ:L2.St)(H:Hp)(Q:VK):Prop
 |mk (o:Ow) (ρ:ao) (S:Sx) (e:ER Φ Γ o ρ S σ H) (m:mR Φ.Ek (ev F c ρ S) λp=>∀v H',EO Φ.K fr o c H p.1 v H'->ER Φ Γ o ρ p.2 σ H'->Q v H'):b8 c σ H Q
inductive fQ(c:C)(σ:L2.St)(H:Hp)(Q:Bool->Hp->Prop):Prop
 |mk (o:Ow) (ρ:ao) (S:Sx) (e:ER Φ Γ o ρ S σ H) (m:mR Φ.Ek (cO F c ρ S) λp=>∀H',bc o.d H H'->ER Φ Γ o ρ p.2 σ H'->Q p.1 H'):fQ c σ H Q
inductive mf(cs:Cs)(σ:L2.St)(H:Hp)(Q:List V->Hp->Prop):Prop
 |mk (o:Ow) (ρ:ao) (S:Sx) (e:ER Φ Γ o ρ S σ H) (m:mR Φ.Ek (ij F cs ρ S) λp=>∀vs H',NH Φ.K o cs H p.1 vs H'->ER Φ Γ o ρ p.2 σ H'->Q vs H'):mf cs σ H Q
inductive nh(cs:Cs)(σ:L2.St)(H:Hp)(Q:Bool->Hp->Prop):Prop
 |mk (o:Ow) (ρ:ao) (S:Sx) (e:ER Φ Γ o ρ S σ H) (m:mR Φ.Ek (bh F cs ρ S) λp=>∀H',bc o.d H H'->ER Φ Γ o ρ p.2 σ H'->Q p.1 H'):nh cs σ H Q
end
structure Wk(K:Frag)(A X:Addr->Prop)(J:It)(H:Hp)(ds:List Dt):Prop where
 go:∀(i:Nat)(H1:Hp),i<ds.length->bc X H H1->J.go i H1
 stop:∀(H1:Hp),bc X H H1->J.stop ds.length H1
 yld:∀(i:Nat)(x:V)(H1 H2:Hp),i<ds.length->bc X H H1->J.yld i H1 x H2->bV H1 H2/\∃d,ds[i]?=some d/\∀B:Addr->Prop,(∀b,B b->A b\/H b=none)->RV K B H2 x d
structure IO(K:Frag)(o:Ow)(it:mq)(nl:Bool)(H:Hp)(ds:List Dt)(J:It)(H':Hp):Prop where
 ext:bc o.d H H'
 w1:rL it<=1->Wk K o.A o.d J H' ds
 w0:rL it=0->Wk K o.A o.A J H' ds
 w2:nl=true->Wk K o.A o.A J H' ds
inductive oR(Φ:Fm)(Γ:Gm)(F:FT)(it:mq)(σ:L2.St)(H:Hp)(Q:It->Hp->Prop):Prop
 |mk (o:Ow) (ρ:ao) (S:Sx) (e:ER Φ Γ o ρ S σ H) (m:mR Φ.Ek (d7 F it ρ S) λp=>∀J H',IO Φ.K o it (lW F it ρ S) H p.1 J H'->ER Φ Γ o ρ p.2 σ H'->Q J H'):oR Φ Γ F it σ H Q
structure GX(g:G)(Γ:Gm)(X:Cx):Prop where
 N:X.N=Γ.N
 nd:Γ.N.Nodup
 vis:∀x,zq (Γ.names.lookup x)=true->FW X.env.scope x
 loc:∀x,yk (Γ.names.lookup x)=true->Loc X.env.scope x/\(X.fn x=true\/X.env.scope.names.lookup x=some .local)
 gl:∀x,B1 (Γ.names.lookup x)=true->Gl X x
 fre:∀x,(Γ.names.lookup x=some .cell\/Γ.names.lookup x=some .free)->(X.env.scope.names.lookup x=some .cell\/X.env.scope.names.lookup x=some .free)
 calm:X.calm=true
 un:X.A.units+150<cLine
 con:∀x d,g.cons.lookup x=some d->∃u,oZ d=true/\X.mg x=some u/\RelV (qP d) u
 bl:∀x∈g.bls,X.mg x=none
structure FO(K:Frag)(W:Addr->Prop)(dr:Option Addr)(fr:Bool)(H:Hp)(d:Dt)(S':Sx)(v:V)(H':Hp):Prop where
 ext:bc (λb=>dr=some b) H H'
 val:RV K W H' v d
 drw:∀a,dr=some a->∃ns:List Int,S'=some ns/\H' a=some (.lst (ns.map V.int))
 jO:fr=true->∀ds,d= .lst ds->∃a xs,v= .ref a/\H a=none/\H' a=some (.lst xs)/\aq K (λb=>W b\/b=a) H' xs ds
noncomputable def Nw(K:Frag)(xv:Nat->Value)(F:List Dt->Sx->R (Dt×Sx))(np:Nat)(fr bp:Bool):Sp:=λvs H Q E=>
 vs.length=np/\∃(W:Addr->Prop)(dr:Option Addr)(args:List Dt)(S:Sx)(v9:List V),
  (if bp=true then∃(a:Addr)(ns:List Int),vs= .ref a::v9/\dr=some a/\W a/\S=some ns/\H a=some (.lst (ns.map V.int)) else vs=v9/\dr=none/\S=none)/\
  aq K W H v9 args/\(∀a,W a->∃x,H a=some x)/\
  match F args S with
  |.ok p=>∀v H',FO K W dr fr H p.1 p.2 v H'->Q v H'
  |.ex k=>∀H',bc (λb=>dr=some b) H H'->E (xv k) none H'
  |.bad=>False
noncomputable def mn(Φ:Fm)(xv:Nat->Value):XK:=λv _ H'=>∃k,v=xv k/\Φ.Ek k/\bc (λb=>Φ.d0=some b) Φ.H0 H'
structure FX(g:G)(xv:Nat->Value)(CX:kn)(P:Program)(w:World)(K:Frag)(mg:Str->Option Value)(base:Heap)(n k:Nat)(F:FT):Prop where
 fn:∀x f np f7 bp,rA x g.fns=some (f,np,f7,bp)->∃(fa:Addr)(fd:FuncData)(ps:List Str),ps.length=np/\mg x=some (.ref fa)/\PySem.W.keepIn K (.ref fa)=true/\
  ji P w K mg base CX k fa fd ps (Nw K xv (F f) np (g.fr f) bp)/\(∀j,j<=f7.length->∃ds,au ((f7.drop j).map qP) ds/\Binds K fd ps ds)/\f7.all oZ=true
end Rx
end
section
namespace L2
open PySem PySem.Spec PyProof.Rows
noncomputable def J9(X:Cx)(st:Stmt)(t:TS):Prop:=∀(s:Shared)(σ:St)(H:Hp)(D:Ends),Inv X [] σ H s->t D σ H->wpAny (model X.prog X.w) X.A (exec st X.env) (SP X [] D) X.xe s
noncomputable def nz(X:Cx)(st:List Stmt)(t:TS):Prop:=∀(s:Shared)(σ:St)(H:Hp)(D:Ends),Inv X [] σ H s->t D σ H->wpAny (model X.prog X.w) X.A (execs st X.env) (SP X [] D) X.xe s
theorem Ex{X:Cx}{st:Stmt}{t:TS}(h:PS X st t):J9 X st t:=λs σ H D=>h [] s σ H D
theorem Bl{X:Cx}{st:List Stmt}{t:TS}(h:uY X st t):nz X st t:=λs σ H D=>h [] s σ H D
theorem vM{X:Cx}{st:Stmt}{rest:List Stmt}{t u:TS}(h1:J9 X st t)(h2:nz X rest u):nz X (st::rest) (IQ t u):=by
 intro s σ H D I hq;refine wpAny_execs_cons (bX (h1 s σ H {D with nx:=u D} I hq) λf s1 z=>?_);cases f with
 |next=>obtain⟨σ1,H1,I1,q1⟩:=z;exact h2 s1 σ1 H1 D I1 q1
 |brk=>exact z
 |cont=>exact z
 |ret v=>exact z
theorem Dh{CX:kn}{P:Program}{w:World}{K:PySem.W.Frag}{mg:Str->Option Value}{base:Heap}{k:Nat}{f:Addr}{name qual:Str}{params:Arguments}{body:List Stmt}{scope:Scope}{dV kV doc pm fR ct oc:Value}{an od:Option Addr}
  {uq:Array (Option Value)} {N ps:List Str} {sp:Sp} (lk:K.lookup f=some ⟨oc,od,.func (PySem.W.fnOf name qual params body scope dV kV doc pm an fR ct),uq⟩) (zG:PySem.W.codeIn K fR qual=true) (S:fy N ps scope)
  (len:∀vs H Q E,sp vs H Q E->vs.length=ps.length)
  (GM:∀(A:Around)(outer:List Env)(s:Shared)(H:Hp)(vs:List V)(Q:VK)(E:XK),iJ k (A.deeper (envOfC qual scope s.heap.objs.size f fR))->sp vs H Q E->
   ∃t,nz (px CX P w K mg base N qual scope f fR A outer s H E) body t/\t {nx:=λ_ H'=>Q .aW H',rt:=Q} (start N vs) H):
  ji P w K mg base CX (k+1) f (PySem.W.fnOf name qual params body scope dV kV doc pm an fR ct) ps sp:=by
 refine⟨len,λA outer s H args us vs Q E hr e0 hb r oX=>?_⟩;have KX:K.In s.heap:=e0.mod.Lx.keeps λb o e=>(e0.bs b o e).1
 have G3:∀y∈ps.zip us,scope.names.lookup y.1=some .local\/(scope.names.lookup y.1=some .cell/\((cellsFrom (s.heap.objs.size+1) scope.names []).lookup y.1).isSome=true):=λ⟨n,v⟩hy=>by
  rcases S.par n (SA hy).1 with q|q
  ·exact .inl q
  ·exact .inr ⟨q,Tw _ _ _ (.inl q)⟩
 refine codeAny_call_function hr.depth (KX _ _ lk) rfl S.co S.gen rfl (PySem.W.codeRec_of KX zG) (hb _ _ _ _ (wpAny_newFunctionEnv_cells S.kind G3 λenv he s1 x=>?_));subst he;refine⟨(e0.mod.nolimit.keeps λb o e=>(e0.bs b o e).1).keeps x.toInCall.keep,codeAny_func ?_⟩;obtain⟨t,ht,hq⟩:=GM A outer s H vs Q E (hr.deeper _) oX;have I:Inv (px CX P w K mg base N qual scope f fR A outer s H E) [] (start N vs) H s1:=vw S hr.hd e0 (len _ _ _ _ oX) r x;refine Ua (ht s1 (start N vs) H _ I hq) (λfl s' hs=>?_) λe s' hs=>hs
 have fin:∀{σ':St}{H':Hp}{v:V}{u:Value},Inv (px CX P w K mg base N qual scope f fR A outer s H E) [] σ' H' s'->RelV v u->Q v H'->CE outer P w H s Q u s':=
  λ {σ' H' v u} J rv q=>⟨v,H',J.os,J.bare,J.base,J.hok,rv,q⟩
 cases fl with
 |ret u=>obtain⟨v,σ',H',J,rv,q⟩:=hs;exact fin J rv q
 |next=>obtain⟨σ',H',J,q⟩:=hs;exact fin (v:=V.aW) (u:=Value.none) J rfl q
 |brk=>obtain⟨_,_,_,q⟩:=hs;exact q.elim
 |cont=>obtain⟨_,_,_,q⟩:=hs;exact q.elim
end L2
end
section
namespace Rx
open PySem PySem.W PySem.Spec PyProof.Rows L2 PySem.SeqAt
noncomputable def Kd(K:Frag)(mg:Str->Option Value)(C:Addr)(ts:List (Str×Bool)):Prop:=True
structure HX(g:G)(xv:Nat->Value)(CX:kn)(k:Nat)(F:FT)(Φ:Fm)(X:Cx):Prop where
 K:Φ.K=X.K
 P:Φ.P=X.prog
 w:Φ.w=X.w
 fx:∃n,FX g xv CX X.prog X.w X.K X.mg X.base n k F
 room:iJ k X.A
 cx:CX=vZ X.prog X.w
 st:iL X
 xgx:∀e s',nE X (mn Φ xv) e s'->X.xe e s'
 xk:∀k x ts,g.xs[k]?=some (x,ts)->∃C,xv k= .ref C/\X.mg x=some (.ref C)/\Kd X.K X.mg C ts
theorem HX.pass{g:G}{xv:Nat->Value}{CX:kn}{k:Nat}{F:FT}{Φ:Fm}{X:Cx}(h:HX g xv CX k F Φ X):qR CX X (mn Φ xv):=λpins σ H s e s' I c=>by have hc:=h.cx;subst hc;exact h.xgx e s' (zw I h.st.pn c)
theorem bD{X:Cx}{e:Expr}{t t':TE}(h:PE X e t)(hi:∀σ H Q,t' σ H Q->t σ H Q):PE X e t':=λpins s σ H Q I q=>h pins s σ H Q I (hi σ H Q q)
theorem sj{X:Cx}{e:Expr}{t t':TT}(h:PT X e t)(hi:∀σ H Q,t' σ H Q->t σ H Q):PT X e t':=λpins s σ H Q I q=>h pins s σ H Q I (hi σ H Q q)
theorem yP{X:Cx}{e:Expr}{t t':TT}(h:PW X e t)(hi:∀σ H Q,t' σ H Q->t σ H Q):PW X e t':=λwh pins s σ H Q I q=>h wh pins s σ H Q I (hi σ H Q q)
theorem yF{X:Cx}{e:List Expr}{t t':TA}(h:PA X e t)(hi:∀σ H Q,t' σ H Q->t σ H Q):PA X e t':=λpos pins s σ H Q I q=>h pos pins s σ H Q I (hi σ H Q q)
theorem r8{X:Cx}{tg e:Expr}{t t':TI}(h:PI X tg e t)(hi:∀σ H Q,t' σ H Q->t σ H Q):PI X tg e t':=λpins s σ H Q I q=>h pins s σ H Q I (hi σ H Q q)
section
variable{Φ:Fm}{Γ:Gm}{F:FT}{fr:Nat->Bool}{o:Ow}{ρ:ao}{S:Sx}{σ:L2.St}{H H':Hp}
theorem EO.sc{c:C}{d:Dt}(h:oZ d=true):EO Φ.K fr o c H d (qP d) H:=⟨bc.refl,qt h,λ_=>qt h,λ_=>(qt h).one,λ_ ds e=>by subst e;simp[oZ]at h⟩
theorem EO.vk{c:C}{d:Dt}{v:V}{H1:Hp}(e:bc o.d H H1)(h:EO Φ.K fr o c H1 d v H')(hf:fresh fr c=true->∀ds,d= .lst ds->∀a,H1 a=none->H a=none):EO Φ.K fr o c H d v H':=
 ⟨e.trans h.ext,h.val,h.dH,h.sv,λf ds ed=>by
  obtain⟨a,xs,h1,h2,h3⟩:=h.jO f ds ed;exact⟨a,xs,h1,hf f ds ed a h2,h3⟩⟩
theorem xq{X:Addr->Prop}{H1:Hp}(e:bc X H H1)(hx:∀b,X b->∃y,H1 b=some y){a:Addr}(h:H1 a=none):H a=none:=by
 cases q:H a with
 |none=>rfl
 |some x=>obtain⟨y,z⟩:=e.al q (hx a);rw[h]at z;cases z
theorem ER.e9{S1:Sx}{H1:Hp}(aI:ER Φ Γ o ρ S1 σ H1)(e:bc o.d H H1){a:Addr}(h:H1 a=none):H a=none:=xq e (λb z=>aI.al b (aI.da b z)) h
theorem EO.keep{c:C}{d:Dt}{v:V}{H1 H2:Hp}(h:EO Φ.K fr o c H d v H1)(e:bc o.d H1 H2)(wa:∀b,o.wd b->o.A b):RV Φ.K o.wd H2 v d/\(lk c=0->RV Φ.K o.A H2 v d)/\(lk c<=1->fN Φ.K o.A H2 v d):=by
 have hd:∀b,o.d b->o.wd b:=λb z=>.inr z
 refine⟨h.val.mono e hd λ_ z=>z,λl=>(h.dH l).mono e (λb z=>wa b (hd b z)) λ_ z=>z,λl=>?_⟩;refine(h.sv l).ext e (λb z=>wa b (hd b z)) λds a ed ev z=>?_
 subst ed ev;obtain⟨b,xs,q,_,n,_⟩:=h.val.lst_inv;cases q;exact n (.inr z)
theorem EO.pr{c:C}{xs:List V}{ds:List Dt}{d:Dt}{v:V}{H1 H2:Hp}{S1:Sx}{f:Bool}(aI:ER Φ Γ o ρ S1 σ H1)(e:bc o.d H H1)(hv:aq Φ.K o.wd H1 xs ds)(h1:lk c<=1->nC Φ.K o.A H1 xs ds)(hl:lk c=0\/lk c=2)
  (pr:PR Φ.K f xs ds H1 d v H2) (hf:fresh fr c=true->f=true):EO Φ.K fr o c H d v H2/\ER Φ Γ o ρ S1 σ H2:=by
 have q0:lk c=0->RV Φ.K o.A H2 v d:=λl=>pr.val o.A aI.al (h1 ⋯)
 refine⟨⟨e.trans (bc.of_same pr.same),pr.val o.wd aI.wx hv.ones,q0,λl=>(q0 ⋯).one,λfc es ed=>?_⟩,aI.grow pr.same⟩;obtain⟨a,ys,k1,k2,k3,k4⟩:=pr.jO (hf fc) es ed;exact⟨a,ys,k1,aI.e9 e k2,k3,k4 o.wd aI.wx hv.ones,λl=>k4 o.A aI.al (h1 ⋯)⟩
theorem i5{A:Addr->Prop}{K:Frag}{v:V}{d:Dt}(h:RV K A H v d):RV K N0 H v d:=h.weak λ_ z=>z.elim
theorem DY{A:Addr->Prop}{K:Frag}{v:List V}{d:List Dt}(h:aq K A H v d):aq K N0 H v d:=h.weak λ_ z=>z.elim
end
section
variable{X:Cx}{Φ:Fm}{Γ:Gm}{F:FT}{fr:Nat->Bool}{g:G}
theorem qu{e:Expr}{d:Dt}(hd:oZ d=true)(h:PE X e (tC (qP d))):PE X e (b8 Φ Γ F fr (.con d)):=bD h λσ H Q q=>by obtain⟨o,ρ,S,er,q⟩:=q;exact q _ _ (EO.sc hd) er
theorem nY{Ek:Nat->Prop}{ρ:ao}{i:Nat}{P:Dt->Prop}(h:mR Ek (eS ρ i) P):∃d,ρ[i]?=some (some d)/\P d:=by
 unfold eS at h;split at h
 ·exact⟨_,by assumption,h⟩
 ·exact h.elim
theorem Ir{e:Expr}{i:Nat}(h:PE X e (oQ i))(hm:fU Γ i=false):PE X e (b8 Φ Γ F fr (.var i)):=bD h λσ H Q q=>by obtain⟨o,ρ,S,er,q⟩:=q;unfold ev at q;rw[ab]at q;obtain⟨d,hd,q⟩:=nY q;obtain⟨v,h1,h2⟩:=er.val i d hd;rw[hm,TM (by simp)]at h2;exact⟨v,h1,q v H ⟨bc.refl,h2.weak er.iF,λ_=>h2,λ_=>h2.one,λz=>by simp[fresh]at z⟩ er⟩
theorem Ik{e:Expr}{i:Nat}(h:PE X e (oQ i))(hm:fU Γ i=true)(hκ:Γ.κ≠some i):PE X e (b8 Φ Γ F fr (.mvr i)):=bD h λσ H Q q=>by obtain⟨o,ρ,S,er,q⟩:=q;unfold ev at q;rw[ab]at q;obtain⟨d,hd,q⟩:=nY q;obtain⟨v,h1,h2⟩:=er.val i d hd;rw[hm,TN rfl]at h2;exact⟨v,h1,q v H ⟨bc.refl,h2.val (er.nd hd hκ) er.wa er.da,λz=>by simp[lk]at z,λ_=>h2.one (er.nd hd hκ),λz=>by simp[fresh]at z⟩ er⟩
theorem j5{Ek:Nat->Prop}{r:R Dt}{P:Dt->Prop}(cM:∀k,r≠ .ex k)(h:mR Ek r P):∃d,r= .ok d/\P d:=by
 cases r with
 |ok a=>exact⟨a,rfl,h⟩
 |ex k=>exact absurd rfl (cM k)
 |bad=>exact h.elim
theorem dc{b:Bool}{α:Type}{r:R α}(h:∀k,r≠ .ex k):∀k,af b r≠ .ex k:=by
 intro k;cases b
 ·intro z;cases z
 ·exact h k
theorem D4(o:Operator)(d e:Dt):∀k,l6 o d e≠ .ex k:=by intro k;unfold l6;split<;>first|(intro z;cases z;done)|(split<;>first|(intro z;cases z;done)|(exact dc (λk z=>by cases z) k))
theorem tw(o:CmpOp)(d e:Dt):∀k,cL o d e≠ .ex k:=by intro k;unfold cL;split<;>first|(intro z;cases z;done)|(exact dc (λk z=>by cases z) k)|(split<;>first|(intro z;cases z;done)|(exact dc (λk z=>by cases z) k))
theorem qV(ds:List Dt)(i:Int):∀k,u4 ds i≠ .ex k:=by intro k;unfold u4;split<;>(intro z;cases z)
theorem AH(d e:Dt):∀k,cu d e≠ .ex k:=by
 intro k;unfold cu;split
 ·exact qV _ _ k
 ·exact qV _ _ k
 ·exact qV _ _ k
 ·intro z;cases z
theorem Bz(d:Dt)(lo hi:Option Int):∀k,fk d lo hi≠ .ex k:=by intro k;unfold fk;split<;>first|(intro z;cases z;done)|(exact dc (λk z=>by cases z) k)
theorem BF(d:Dt):∀k,d9 d≠ .ex k:=by intro k;unfold d9;split<;>first|(intro z;cases z;done)|(exact dc (λk z=>by cases z) k)
theorem i0{Ek:Nat->Prop}{r:R Bool}{P:Bool->Prop}(cM:∀k,r≠ .ex k)(h:mR Ek r P):∃d,r= .ok d/\P d:=by
 cases r with
 |ok a=>exact⟨a,rfl,h⟩
 |ex k=>exact absurd rfl (cM k)
 |bad=>exact h.elim
theorem rM{op:Operator}{a b:C}:(lk (.bin op a b)=0\/lk (.bin op a b)=2)/\(lk (.bin op a b)<=1->lk a<=1/\lk b<=1):=by
 have e:lk (.bin op a b)=if lk a<=1/\lk b<=1 then 0 else 2:=by rw[lk]
 rw[e];split
 ·rename_i h;exact⟨.inl rfl,λ_=>h⟩
 ·exact⟨.inr rfl,λz=>by lia⟩
theorem Ie{a b:Expr}{a' b':C}{op:Operator}{pos:Pos}(hK:Φ.K=X.K)(ha:PE X a (b8 Φ Γ F fr a'))(hb:PE X b (b8 Φ Γ F fr b')):PE X (.BinOp a op b pos) (b8 Φ Γ F fr (.bin op a' b')):=bD (HM (D6 op) ha hb) λσ H Q q=>by
 obtain⟨o,ρ,S,er,q⟩:=q;unfold ev at q;rw[ab]at q;refine⟨o,ρ,S,er,ag q λp _ q x H1 bx aI=>?_⟩;rw[ab]at q;refine⟨o,ρ,p.2,aI,ag q λp2 _ q y H2 eo2 f9=>?_⟩;rw[ab]at q;obtain⟨z,hz,q⟩:=j5 (D4 _ _ _) q;obtain⟨k1,k2,k3⟩:=bx.keep eo2.ext er.iF;refine⟨p.1,p2.1,z,hK▸i5 k1,hK▸i5 eo2.val,hz,λv H3 pr=>?_⟩;rw[<-hK]at pr;obtain⟨e1,e2⟩:=EO.pr (fr:=fr) (H:=H) (c:=.bin op a' b') f9 (bx.ext.trans eo2.ext) (aq.cons k1 (aq.cons eo2.val aq.nil)) (λl=>⟨k3 (rM.2 l).1,eo2.sv (rM.2 l).2,trivial⟩) rM.1 pr λ_=>rfl
 exact q v H3 e1 e2
theorem Ig{a b:Expr}{a' b':C}{op:CmpOp}{pos:Pos}(hK:Φ.K=X.K)(hu:X.A.units+150<cLine)(hm:behindInMarks op b=false)(ha:PE X a (b8 Φ Γ F fr a'))(hb:PE X b (b8 Φ Γ F fr b')):PE X (.Compare a [op] [b] pos) (b8 Φ Γ F fr (.cmp op a' b')):=bD (Bd (yC op hu) ha hb hm) λσ H Q q=>by obtain⟨o,ρ,S,er,q⟩:=q;unfold ev at q;rw[ab]at q;refine⟨o,ρ,S,er,ag q λp _ q x H1 bx aI=>?_⟩;rw[ab]at q;refine⟨o,ρ,p.2,aI,ag q λp2 _ q y H2 eo2 f9=>?_⟩;rw[ab]at q;obtain⟨z,hz,q⟩:=i0 (tw _ _ _) q;obtain⟨k1,k2,k3⟩:=bx.keep eo2.ext er.iF;refine⟨p.1,p2.1,z,hK▸i5 k1,hK▸i5 eo2.val,hz,q _ _ ?_ f9⟩;have:=EO.sc (Φ:=Φ) (fr:=fr) (o:=o) (H:=H2) (c:=.cmp op a' b') (d:=.bl z) rfl;exact this.vk (bx.ext.trans eo2.ext) λf=>by simp[fresh]at f
theorem EM{a b:Expr}{a' b':C}{op:CmpOp}{pos:Pos}(hK:Φ.K=X.K)(hu:X.A.units+150<cLine)(hm:behindInMarks op b=false)(ha:PE X a (b8 Φ Γ F fr a'))(hb:PE X b (b8 Φ Γ F fr b')):PT X (.Compare a [op] [b] pos) (fQ Φ Γ F (.cmp op a' b')):=sj (Bn (yC op hu) ha hb hm) λσ H Q q=>by obtain⟨o,ρ,S,er,q⟩:=q;unfold cO at q;rw[ab]at q;refine⟨o,ρ,S,er,ag q λp _ q x H1 bx aI=>?_⟩;rw[ab]at q;refine⟨o,ρ,p.2,aI,ag q λp2 _ q y H2 eo2 f9=>?_⟩;rw[ab]at q;obtain⟨z,hz,q⟩:=i0 (tw _ _ _) q;obtain⟨k1,k2,k3⟩:=bx.keep eo2.ext er.iF;exact⟨p.1,p2.1,z,hK▸i5 k1,hK▸i5 eo2.val,hz,z,rfl,q _ (bx.ext.trans eo2.ext) f9⟩
end
section
variable{X:Cx}{Φ:Fm}{Γ:Gm}{F:FT}{fr:Nat->Bool}{g:G}
theorem aq.emp{K:Frag}{A:Addr->Prop}{H:Hp}{xs:List V}{ds:List Dt}(h:aq K A H xs ds):ds.isEmpty=xs.isEmpty:=by
 have:=h.length;cases xs with
 |nil=>cases ds with
  |nil=>rfl
  |cons=>simp at this
 |cons=>cases ds with
  |nil=>simp at this
  |cons=>rfl
theorem Il{a:Expr}{a':C}{pos:Pos}(ha:PE X a (b8 Φ Γ F fr a')):PE X (.UnaryOp .USub a pos) (b8 Φ Γ F fr (.neg a')):=bD (HQ E9 ha) λσ H Q q=>by
 obtain⟨o,ρ,S,er,q⟩:=q;unfold ev at q;rw[ab]at q;refine⟨o,ρ,S,er,ag q λp _ q x H1 bx aI=>?_⟩;split at q
 ·rename_i i hi;have:=bx.val;rw[hi]at this;refine⟨i,this.int_inv,q _ _ ?_ aI⟩;exact(EO.sc (Φ:=Φ) (fr:=fr) (o:=o) (H:=H1) (c:=.neg a') (d:=.int (-i)) rfl).vk bx.ext λf=>by simp[fresh]at f
 ·exact q.elim
theorem Md{a:Expr}{a':C}{pos:Pos}(ha:PE X a (b8 Φ Γ F fr a')):PE X (.UnaryOp .Not a pos) (b8 Φ Γ F fr (.nt a')):=bD (Em ha) λσ H Q q=>by
 obtain⟨o,ρ,S,er,q⟩:=q;unfold ev at q;rw[ab]at q;refine⟨o,ρ,S,er,ag q λp _ q x H1 bx aI=>?_⟩;split at q
 ·rename_i i hi;have:=bx.val;rw[hi]at this;refine⟨i,this.az,q _ _ ?_ aI⟩;exact(EO.sc (Φ:=Φ) (fr:=fr) (o:=o) (H:=H1) (c:=.nt a') (d:=.bl (!i)) rfl).vk bx.ext λf=>by simp[fresh]at f
 ·exact q.elim
theorem Io{a:Expr}{a':C}{pos:Pos}(ha:PT X a (fQ Φ Γ F a')):PT X (.UnaryOp .Not a pos) (fQ Φ Γ F (.nt a')):=sj (Ez ha) λσ H Q q=>by obtain⟨o,ρ,S,er,q⟩:=q;unfold cO at q;rw[ab]at q;exact⟨o,ρ,S,er,ag q λp _ q H1 e1 aI=>q _ e1 aI⟩
theorem Ic{a b:Expr}{rest:List Expr}{a' b':C}{pos:Pos}(ha:PE X a (b8 Φ Γ F fr a'))(hb:PE X (.BoolOp .And (b::rest) pos) (b8 Φ Γ F fr b')):PE X (.BoolOp .And (a::b::rest) pos) (b8 Φ Γ F fr (.and a' b')):=bD (Eg ha hb) λσ H Q q=>by
 obtain⟨o,ρ,S,er,q⟩:=q;unfold ev at q;rw[ab]at q;refine⟨o,ρ,S,er,ag q λp _ q x H1 bx aI=>?_⟩;have sc:∀(H3:Hp)(t:Bool),bc o.d H H3->EO Φ.K fr o (.and a' b') H (.bl t) (.bl t) H3:=λH3 t e3=>
  (EO.sc (Φ:=Φ) (fr:=fr) (o:=o) (H:=H3) (c:=.and a' b') (d:=.bl t) rfl).vk e3 λf=>by simp[fresh]at f
 split at q
 ·rename_i hi;have:=bx.val;rw[hi]at this;refine⟨true,this.az,?_⟩;rw[ab]at q;refine⟨o,ρ,p.2,aI,ag q λp2 _ q y H2 eo2 f9=>?_⟩;split at q
  ·rename_i c hc;have h2:=eo2.val;rw[hc]at h2;rw[h2.az];exact q _ _ (sc H2 c (bx.ext.trans eo2.ext)) f9
  ·exact q.elim
 ·rename_i hi;have:=bx.val;rw[hi]at this;exact⟨false,this.az,q _ _ (sc H1 false bx.ext) aI⟩
 ·exact q.elim
theorem Me{a b:Expr}{rest:List Expr}{a' b':C}{pos:Pos}(ha:PE X a (b8 Φ Γ F fr a'))(hb:PE X (.BoolOp .Or (b::rest) pos) (b8 Φ Γ F fr b')):PE X (.BoolOp .Or (a::b::rest) pos) (b8 Φ Γ F fr (.or a' b')):=bD (HN ha hb) λσ H Q q=>by
 obtain⟨o,ρ,S,er,q⟩:=q;unfold ev at q;rw[ab]at q;refine⟨o,ρ,S,er,ag q λp _ q x H1 bx aI=>?_⟩;have sc:∀(H3:Hp)(t:Bool),bc o.d H H3->EO Φ.K fr o (.or a' b') H (.bl t) (.bl t) H3:=λH3 t e3=>
  (EO.sc (Φ:=Φ) (fr:=fr) (o:=o) (H:=H3) (c:=.or a' b') (d:=.bl t) rfl).vk e3 λf=>by simp[fresh]at f
 split at q
 ·rename_i hi;have:=bx.val;rw[hi]at this;refine⟨false,this.az,?_⟩;rw[ab]at q;refine⟨o,ρ,p.2,aI,ag q λp2 _ q y H2 eo2 f9=>?_⟩;split at q
  ·rename_i c hc;have h2:=eo2.val;rw[hc]at h2;rw[h2.az];exact q _ _ (sc H2 c (bx.ext.trans eo2.ext)) f9
  ·exact q.elim
 ·rename_i hi;have:=bx.val;rw[hi]at this;exact⟨true,this.az,q _ _ (sc H1 true bx.ext) aI⟩
 ·exact q.elim
theorem EL{a b:Expr}{rest:List Expr}{a' b':C}{pos:Pos}(ha:PT X a (fQ Φ Γ F a'))(hb:PW X (.BoolOp .And (b::rest) pos) (fQ Φ Γ F b')):PW X (.BoolOp .And (a::b::rest) pos) (fQ Φ Γ F (.and a' b')):=yP (EA ha hb) λσ H Q q=>by
 obtain⟨o,ρ,S,er,q⟩:=q;unfold cO at q;rw[ab]at q;refine⟨o,ρ,S,er,ag q λp _ q H1 e1 aI=>?_⟩;cases hp:p.1 with
 |true=>rw[hp]at q;rw[TN rfl];exact⟨o,ρ,p.2,aI,ag q λp2 _ q H2 e2 f9=>q _ (e1.trans e2) f9⟩
 |false=>rw[hp]at q;rw[TM (by simp)];exact q _ e1 aI
theorem Ip{a b:Expr}{rest:List Expr}{a' b':C}{pos:Pos}(ha:PT X a (fQ Φ Γ F a'))(hb:PW X (.BoolOp .Or (b::rest) pos) (fQ Φ Γ F b')):PW X (.BoolOp .Or (a::b::rest) pos) (fQ Φ Γ F (.or a' b')):=yP (HW ha hb) λσ H Q q=>by
 obtain⟨o,ρ,S,er,q⟩:=q;unfold cO at q;rw[ab]at q;refine⟨o,ρ,S,er,ag q λp _ q H1 e1 aI=>?_⟩;cases hp:p.1 with
 |false=>rw[hp]at q;rw[TM (by simp)];exact⟨o,ρ,p.2,aI,ag q λp2 _ q H2 e2 f9=>q _ (e1.trans e2) f9⟩
 |true=>rw[hp]at q;rw[TN rfl];exact q _ e1 aI
theorem yj{a b:C}:(lk (.idx a b)=0\/lk (.idx a b)=2)/\(lk (.idx a b)<=1->lk a<=1):=by
 have e:lk (.idx a b)=if lk a<=1 then 0 else 2:=by rw[lk]
 rw[e];split
 ·rename_i h;exact⟨.inl rfl,λ_=>h⟩
 ·exact⟨.inr rfl,λz=>by lia⟩
theorem Ih{a b:Expr}{a' b':C}{pos:Pos}(hK:Φ.K=X.K)(hs:nB b)(ha:PE X a (b8 Φ Γ F fr a'))(hb:PE X b (b8 Φ Γ F fr b')):PE X (.Subscript a b pos) (b8 Φ Γ F fr (.idx a' b')):=bD (HL DH ha hb hs) λσ H Q q=>by
 obtain⟨o,ρ,S,er,q⟩:=q;unfold ev at q;rw[ab]at q;refine⟨o,ρ,S,er,ag q λp _ q x H1 bx aI=>?_⟩;rw[ab]at q;refine⟨o,ρ,p.2,aI,ag q λp2 _ q y H2 eo2 f9=>?_⟩;rw[ab]at q;obtain⟨z,hz,q⟩:=j5 (AH _ _) q;obtain⟨k1,k2,k3⟩:=bx.keep eo2.ext er.iF;refine⟨p.1,p2.1,z,hK▸i5 k1,hK▸i5 eo2.val,hz,λv pr=>?_⟩;rw[<-hK]at pr;have N5:∃i,p2.1= .int i:=by
  cases hd:p2.1 with
  |int i=>exact⟨i,rfl⟩
  |_=>rw[hd]at hz;unfold cu at hz;split at hz<;>first|(rename_i h;cases h;done)|(cases hz;done)|contradiction
 obtain⟨i,hi⟩:=N5;have v2:∀A:Addr->Prop,fN Φ.K A H2 y p2.1:=λA=>by have:=eo2.val;rw[hi]at this ⊢;rw[this.int_inv];exact(RV.du (K:=Φ.K) (A:=A)).one
 obtain⟨e1,e2⟩:=EO.pr (fr:=fr) (H:=H) (c:=.idx a' b') f9 (bx.ext.trans eo2.ext) (aq.cons k1 (aq.cons eo2.val aq.nil)) (λl=>⟨k3 (yj.2 l),v2 _,trivial⟩) yj.1 pr λz=>by simp[fresh]at z
 exact q v H2 e1 e2
theorem ka{a:Expr}{a':C}(hK:Φ.K=X.K)(ha:PE X a (b8 Φ Γ F fr a'))(he:∀whole,isTrue a X.env whole=(do let v<-whole;standAt a.pos;holding [v] (truthy v)))
  (B5:∀ρ S,cO F a' ρ S=(ev F a' ρ S).bind λx=>(d9 x.1).bind λb=>.ok (b,x.2)):PT X a (fQ Φ Γ F a'):=sj (yO ha he) λσ H Q q=>by
 obtain⟨o,ρ,S,er,q⟩:=q;rw[B5,ab]at q;refine⟨o,ρ,S,er,ag q λp _ q x H1 bx aI=>?_⟩;rw[ab]at q;obtain⟨b,hb,q⟩:=i0 (BF _) q;refine⟨b,?_,q _ bx.ext aI⟩;have hv:=bx.val;rw[hK]at hv;unfold d9 at hb;split at hb
 ·rename_i hd;rw[hd]at hv;cases hb;rw[hv.aB];rfl
 ·rename_i hd;rw[hd]at hv;cases hb;rw[hv.az];rfl
 ·rename_i hd;rw[hd]at hv;cases hb;rw[hv.int_inv];rfl
 ·rename_i hd;rw[hd]at hv;obtain⟨g1,hb⟩:=bu hb;cases hb;rw[hv.str_inv];exact⟨Qh (P7 g1) eZ,rfl⟩
 ·rename_i hd;rw[hd]at hv;cases hb;obtain⟨a,xs,rfl,h1,_,h2⟩:=hv.lst_inv;refine .inl ⟨xs,dJ.of h1,?_⟩;rw[h2.emp]
 ·rename_i hd;rw[hd]at hv;cases hb;obtain⟨a,xs,rfl,h1,h2⟩:=hv.ae;refine .inr (.inl ⟨xs,fz.of h1,?_⟩);rw[h2.emp]
 ·rename_i hd;rw[hd]at hv;cases hb;obtain⟨a,rfl,h1⟩:=hv.jx;refine .inl ⟨_,h1,?_⟩;simp
 ·cases hb
end
section
variable{X:Cx}{Φ:Fm}{Γ:Gm}{F:FT}{fr:Nat->Bool}{g:G}
theorem DP{a b:C}{c:C}(hc:lk c=if lk a<=1 then 0 else 2):(lk c=0\/lk c=2)/\(lk c<=1->lk a<=1):=by
 rw[hc];split
 ·rename_i h;exact⟨.inl rfl,λ_=>h⟩
 ·exact⟨.inr rfl,λz=>by lia⟩
theorem tN{o:Ow}{ρ:ao}{S:Sx}{σ:L2.St}{H H1 H2:Hp}{a' c:C}{d:Dt}{x:V}{lo hi:Option Int}{Q:VK}(hK:Φ.K=X.K)(hc:lk c=if lk a'<=1 then 0 else 2)(hf:fresh fr c=true->True)(er:ER Φ Γ o ρ S σ H2)(bx:EO Φ.K fr o a' H d x H1)(e:bc o.d H1 H2)
  (q:mR Φ.Ek (fk d lo hi) λz=>∀v H3,EO Φ.K fr o c H z v H3->ER Φ Γ o ρ S σ H3->Q v H3):rS X.K x lo hi H2 Q:=by
 obtain⟨z,hz,q⟩:=j5 (Bz _ _ _) q;obtain⟨k1,k2,k3⟩:=bx.keep e er.iF;refine⟨d,z,hK▸i5 k1,hz,λv H3 pr=>?_⟩;rw[<-hK]at pr;have hl:=DP (b:=c) hc;obtain⟨e1,e2⟩:=EO.pr (fr:=fr) (H:=H) (c:=c) er (bx.ext.trans e) (aq.cons k1 aq.nil) (λl=>⟨k3 (hl.2 l),trivial⟩) hl.1 pr λ_=>rfl
 exact q v H3 e1 e2
theorem EU{a l:Expr}{a' l':C}{p2 pos:Pos}(hK:Φ.K=X.K)(ha:PE X a (b8 Φ Γ F fr a'))(hl:PE X l (b8 Φ Γ F fr l')):PE X (.Subscript a (.Slice (some l) none none p2) pos) (b8 Φ Γ F fr (.sliL a' l')):=bD (qh y7 ha (uy hl) ux) λσ H Q q=>by
 obtain⟨o,ρ,S,er,q⟩:=q;unfold ev at q;rw[ab]at q;refine⟨o,ρ,S,er,ag q λp _ q x H1 bx aI=>?_⟩;rw[ab]at q;refine⟨o,ρ,p.2,aI,ag q λp2 _ q y H2 eo2 f9=>?_⟩;split at q
 ·rename_i i hi;have hv:=eo2.val;rw[hi]at hv;refine⟨i,hv.int_inv,?_⟩;rw[ab]at q;exact tN hK (by rw[lk]) (λ_=>trivial) f9 bx eo2.ext (ag q λz _ q v H3 e1 e2=>q v H3 e1 e2)
 ·exact q.elim
theorem ET{a l:Expr}{a' l':C}{p2 pos:Pos}(hK:Φ.K=X.K)(ha:PE X a (b8 Φ Γ F fr a'))(hl:PE X l (b8 Φ Γ F fr l')):PE X (.Subscript a (.Slice none (some l) none p2) pos) (b8 Φ Γ F fr (.sliH a' l')):=bD (qh y7 ha ux (uy hl)) λσ H Q q=>by
 obtain⟨o,ρ,S,er,q⟩:=q;unfold ev at q;rw[ab]at q;refine⟨o,ρ,S,er,ag q λp _ q x H1 bx aI=>?_⟩;rw[ab]at q;refine⟨o,ρ,p.2,aI,ag q λp2 _ q y H2 eo2 f9=>?_⟩;split at q
 ·rename_i i hi;have hv:=eo2.val;rw[hi]at hv;refine⟨i,hv.int_inv,?_⟩;rw[ab]at q;exact tN hK (by rw[lk]) (λ_=>trivial) f9 bx eo2.ext (ag q λz _ q v H3 e1 e2=>q v H3 e1 e2)
 ·exact q.elim
theorem Im:PA X [] (mf Φ Γ F .nil):=yF k9 λσ H Q q=>by obtain⟨o,ρ,S,er,q⟩:=q;exact q _ _ ⟨bc.refl,aq.nil,λ_=>aq.nil,λ_=>trivial⟩ er
theorem EN{e:Expr}{es:List Expr}{c:C}{cs:Cs}(hs:starEach (e::es) X.env=(false,eval e X.env)::starEach es X.env)(h:PE X e (b8 Φ Γ F fr c))(hr:PA X es (mf Φ Γ F cs)):PA X (e::es) (mf Φ Γ F (.cons c cs)):=yF (fJ h hr hs) λσ H Q q=>by
 obtain⟨o,ρ,S,er,q⟩:=q;unfold ij at q;rw[ab]at q;refine⟨o,ρ,S,er,ag q λp _ q x H1 bx aI=>?_⟩;rw[ab]at q;refine⟨o,ρ,p.2,aI,ag q λp2 _ q xs H2 eo2 f9=>?_⟩;obtain⟨k1,k2,k3⟩:=bx.keep eo2.ext er.iF;have el:p7 (.cons c cs)=max (lk c) (p7 cs):=by rw[p7]
 exact q _ _ ⟨bx.ext.trans eo2.ext,aq.cons k1 eo2.val,λl=>aq.cons (k2 ⋯) (eo2.dH ⋯),λl=>⟨k3 ⋯,eo2.sv ⋯⟩⟩ f9
theorem Ca{cs:Cs}{c:C}(hc:lk c=if p7 cs=0 then 0 else 2):(lk c<=1->lk c=0)/\(lk c=0->p7 cs=0):=by
 rw[hc];split
 ·rename_i h;exact⟨λ_=>rfl,λ_=>h⟩
 ·exact⟨λz=>by lia,λz=>by lia⟩
theorem Iq{es:List Expr}{cs:Cs}{x1:Nat}{pos:Pos}(h:PA X es (mf Φ Γ F cs)):PE X (.Tuple es x1 pos) (b8 Φ Γ F fr (.tup cs)):=bD (Ep h) λσ H Q q=>by
 obtain⟨o,ρ,S,er,q⟩:=q;unfold ev at q;rw[ab]at q;refine⟨o,ρ,S,er,ag q λp _ q xs H1 bx aI=>?_⟩;obtain⟨g1,q⟩:=a8 q;refine⟨by rw[bx.val.length];exact Qh (P7 g1) eZ,λa ha=>?_⟩;have s:=Mx.dX ha (.tup xs);have hl:=Ca (cs:=cs) (c:=.tup cs) (by rw[lk]);have q0:lk (.tup cs)=0->RV Φ.K o.A (upd H1 a (.tup xs)) (.ref a) (.tup p.1):=λl=>RV.eJ aQ ((bx.dH (hl.2 l)).same s)
 exact q _ _ ⟨bx.ext.trans (bc.of_same s),RV.eJ aQ (bx.val.same s),q0,λl=>(q0 (hl.1 l)).one,λz=>by simp[fresh]at z⟩ (aI.grow s)
theorem Ij{es:List Expr}{cs:Cs}{pos:Pos}(h:PA X es (mf Φ Γ F cs)):PE X (.List es pos) (b8 Φ Γ F fr (.lst cs)):=bD (Ej h) λσ H Q q=>by
 obtain⟨o,ρ,S,er,q⟩:=q;unfold ev at q;rw[ab]at q;refine⟨o,ρ,S,er,ag q λp _ q xs H1 bx aI=>?_⟩;obtain⟨g1,q⟩:=a8 q;refine⟨by rw[bx.val.length];exact Qh (P7 g1) eZ,λa ha=>?_⟩;have s:=Mx.dX ha (.lst xs);have hl:=Ca (cs:=cs) (c:=.lst cs) (by rw[lk]);have na:¬o.A a:=λz=>by obtain⟨y,hy⟩:=aI.al a z;rw[ha]at hy;cases hy
 have q0:lk (.lst cs)=0->RV Φ.K o.A (upd H1 a (.lst xs)) (.ref a) (.lst p.1):=λl=>RV.fH aQ na ((bx.dH (hl.2 l)).same s)
 refine q _ _ ⟨bx.ext.trans (bc.of_same s),RV.fH aQ (λz=>na (aI.iF a z)) (bx.val.same s),q0,λl=>(q0 (hl.1 l)).one,λ_ ds e=>?_⟩ (aI.grow s);cases e;exact⟨a,xs,rfl,aI.e9 bx.ext ha,aQ,(bx.val.avoid ha).same s,λl=>((bx.dH (hl.2 l)).avoid ha).same s⟩
theorem CV(b:BI)(ds:List Dt):∀k,d6 b ds≠ .ex k:=by
 intro k;unfold d6;split<;>split
 all_goals first
  |(intro z;cases z;done)
  |(exact dc (λk z=>by cases z) k)
  |(split<;>first|(intro z;cases z;done)|(exact dc (λk z=>by cases z) k)|(split<;>first|(intro z;cases z;done)|(exact dc (λk z=>by cases z) k)))
  |(rename_i T d;unfold vx;split<;>(intro z;cases z))
theorem Cb{b:BI}{cs:Cs}:(lk (.bi b cs)=0\/lk (.bi b cs)=2)/\(lk (.bi b cs)<=1->p7 cs<=1):=by
 have e:lk (.bi b cs)=if p7 cs<=1 then 0 else 2:=by rw[lk]
 rw[e];split
 ·rename_i h;exact⟨.inl rfl,λ_=>h⟩
 ·exact⟨.inr rfl,λz=>by lia⟩
theorem xx{b:BI}{cs:Cs}{σ:L2.St}{H:Hp}{Q:VK}(hK:Φ.K=X.K)(q:b8 Φ Γ F fr (.bi b cs) σ H Q):Mn (rP X.K true (d6 b)) (mf Φ Γ F cs) σ H Q:=by
 obtain⟨o,ρ,S,er,q⟩:=q;unfold ev at q;rw[ab]at q;refine⟨o,ρ,S,er,ag q λp _ q xs H1 bx aI=>?_⟩;rw[ab]at q;obtain⟨z,hz,q⟩:=j5 (CV _ _) q;refine⟨p.1,z,hK▸DY bx.val,hz,λv H3 pr=>?_⟩;rw[<-hK]at pr;obtain⟨e1,e2⟩:=EO.pr (fr:=fr) (H:=H) (c:=.bi b cs) aI bx.ext bx.val (λl=>bx.sv (Cb.2 l)) Cb.1 pr λ_=>rfl
 exact q v H3 e1 e2
end
noncomputable def Cs.len:Cs->Nat
 |.nil=>0
 |.cons _ cs=>cs.len+1
theorem tK{F:FT}:∀{cs:Cs}{ρ:ao}{S:Sx}{p:List Dt×Sx},ij F cs ρ S= .ok p->p.1.length=cs.len
 |.nil,ρ,S,p,h=>by unfold ij at h;cases h;rfl
 |.cons c cs,ρ,S,p,h=>by
  unfold ij at h;cases h1:ev F c ρ S with
  |ok x=>
   rw[h1]at h;simp only[R.ah]at h;cases h2:ij F cs ρ x.2 with
   |ok y=>rw[h2]at h;cases h;simp[Cs.len,tK h2]
   |ex k=>rw[h2]at h;cases h
   |bad=>rw[h2]at h;cases h
  |ex k=>rw[h1]at h;cases h
  |bad=>rw[h1]at h;cases h
section
variable{X:Cx}{Φ:Fm}{Γ:Gm}{F:FT}{g:G}{xv:Nat->Value}{CX:kn}{k:Nat}
theorem pC{H H':Hp}(e:bc (λb=>(none:Option Addr)=some b) H H'):bV H H':=λb o h=>e.kp b o h (by simp)
theorem sk{K:Frag}{A:Addr->Prop}{H:Hp}:∀{ds:List Dt},ds.all oZ=true->aq K A H (ds.map qP) ds
 |[],_=>aq.nil
 |d::ds,h=>by rw[RD,P5]at h;exact aq.cons (qt h.1) (sk h.2)
theorem s_call{x:Str}{f np j:Nat}{f7:List Dt}{e:Expr}{es:List Expr}{cs:Cs}{p pos:Pos}(hX:HX g xv CX k F Φ X)(hG:Gl X x)(Ax:(x==("__debug__":Str))=false)(xS:rA x g.fns=some (f,np,f7,false))(hj:j<=f7.length)(hn:cs.len+(f7.drop j).length=np)
  (hs:starEach (e::es) X.env=(false,eval e X.env)::starEach es X.env) (qO:(backTo pos (starEach es X.env)).any (·.1)=false) (ha:PA X (e::es) (mf Φ Γ F cs)):PE X (.Call (.Name x p) (e::es) [] pos) (b8 Φ Γ F g.fr (.call f cs (f7.drop j))):=by
 obtain⟨n,fx⟩:=hX.fx;obtain⟨fa,fd,ps,PQ,hmg,OA,hok,hb,OM⟩:=fx.fn x f np f7 false xS;obtain⟨vi,jF,Oq⟩:=hb j hj;refine bD (Bc hok hX.room hG hmg OA Oq jF hX.pass ha Ax hs qO) λσ H Q q=>?_
 obtain⟨o,ρ,S,er,q⟩:=q;unfold ev at q;rw[ab]at q;refine⟨o,ρ,S,er,ag q λp hp q vs H1 bx aI=>?_⟩;have Nd:(f7.drop j).all oZ=true:=QG.mpr λd hd=>QG.mp OM d (List.mem_of_mem_drop hd)
 rw[ab]at q;have el:lk (.call f cs (f7.drop j))=if p7 cs=0 then 0 else 2:=by rw[lk]
 refine⟨?_,?_⟩
 ·rw[Qm,bx.val.length,Qf,tK hp];exact hn
 by_cases hl:p7 cs=0
 ·rw[TN hl]at el;refine⟨o.A,none,p.1++f7.drop j,none,vs++(f7.drop j).map qP,⟨rfl,rfl,rfl⟩,?_,aI.al,?_⟩
  ·rw[<-hX.K];exact(bx.dH hl).append (sk Nd)
  ·cases hr:F f (p.1++f7.drop j) none with
   |ok y=>rw[hr]at q;intro v H' fo;rw[<-hX.K]at fo;have sm:=pC fo.ext;refine q v H' ⟨bx.ext.trans (bc.of_same sm),fo.val.weak aI.iF,λ_=>fo.val,λ_=>fo.val.one,λfc ds ed=>?_⟩ (aI.grow sm);obtain⟨a,xs,h1,h2,h3,h4⟩:=fo.jO fc ds ed;exact⟨a,xs,h1,aI.e9 bx.ext h2,h3,h4.weak λb z=>z.elim (λz=>.inl (aI.iF b z)) .inr,λ_=>h4⟩
   |ex kk=>rw[hr]at q;intro H' e';exact⟨kk,rfl,q,aI.ent.trans (e'.mono λb z=>by cases z)⟩
   |bad=>rw[hr]at q;exact q.elim
 ·rw[TM hl]at el;refine⟨o.wd,none,p.1++f7.drop j,none,vs++(f7.drop j).map qP,⟨rfl,rfl,rfl⟩,?_,aI.wx,?_⟩
  ·rw[<-hX.K];exact bx.val.append (sk Nd)
  ·cases hr:F f (p.1++f7.drop j) none with
   |ok y=>rw[hr]at q;intro v H' fo;rw[<-hX.K]at fo;have sm:=pC fo.ext;refine q v H' ⟨bx.ext.trans (bc.of_same sm),fo.val,λz=>by rw[el]at z;lia,λz=>by rw[el]at z;lia,λfc ds ed=>?_⟩ (aI.grow sm);obtain⟨a,xs,h1,h2,h3,h4⟩:=fo.jO fc ds ed;exact⟨a,xs,h1,aI.e9 bx.ext h2,h3,h4,λz=>by rw[el]at z;lia⟩
   |ex kk=>rw[hr]at q;intro H' e';exact⟨kk,rfl,q,aI.ent.trans (e'.mono λb z=>by cases z)⟩
   |bad=>rw[hr]at q;exact q.elim
theorem Aj{t:Str}{T:String}(h:sN t=some T):bootBuiltins t=some (.type T):=by
 unfold sN at h;split at h
 ·rename_i e;cases h;rw[Qt e];exact PyProof.Rows.boot_str
 split at h
 ·rename_i e;cases h;rw[Qt e];exact PyProof.Rows.boot_int
 split at h
 ·rename_i e;cases h;rw[Qt e];exact PyProof.Rows.boot_bool
 split at h
 ·rename_i e;cases h;rw[Qt e];exact PyProof.Rows.boot_list
 split at h
 ·rename_i e;cases h;rw[Qt e];exact PyProof.Rows.boot_tuple
 ·cases h
theorem BH{t:Str}{T:String}(h:sN t=some T):T="str"\/T="int"\/T="bool"\/T="list"\/T="tuple":=by
 unfold sN at h;split at h
 ·cases h;simp
 split at h
 ·cases h;simp
 split at h
 ·cases h;simp
 split at h
 ·cases h;simp
 split at h
 ·cases h;simp
 ·cases h
theorem DG{K:Frag}{A:Addr->Prop}{H:Hp}{x:V}{d:Dt}{T:String}{b:Bool}(hT:T="str"\/T="int"\/T="bool"\/T="list"\/T="tuple")(hx:RV K A H x d)(h:vx T d= .ok b):∃t,iM K H x t/\PySem.W.kitOne K t (.type T)=some b:=by
 unfold vx at h;split at h
 ·cases h;rw[hx.str_inv];refine⟨_,.str _,?_⟩;rcases hT with rfl|rfl|rfl|rfl|rfl<;>rfl
 ·cases h;rw[hx.int_inv];refine⟨_,.int _,?_⟩;rcases hT with rfl|rfl|rfl|rfl|rfl<;>rfl
 ·cases h;rw[hx.az];refine⟨_,.bl _,?_⟩;rcases hT with rfl|rfl|rfl|rfl|rfl<;>rfl
 ·cases h;obtain⟨a,xs,rfl,h1,_⟩:=hx.lst_inv;refine⟨_,.lst h1,?_⟩;rcases hT with rfl|rfl|rfl|rfl|rfl<;>rfl
 ·cases h;obtain⟨a,xs,rfl,h1,_⟩:=hx.ae;refine⟨_,.tup h1,?_⟩;rcases hT with rfl|rfl|rfl|rfl|rfl<;>rfl
 ·cases h;rw[hx.aB];refine⟨_,.aW,?_⟩;rcases hT with rfl|rfl|rfl|rfl|rfl<;>rfl
 ·cases h
theorem AK(T:String)(d:Dt):∀k,vx T d≠ .ex k:=by intro k;unfold vx;split<;>(intro z;cases z)
theorem Ii{a:Expr}{a':C}{t:Str}{T:String}{p tp pos:Pos}(hK:Φ.K=X.K)(hG:Gl X "isinstance")(hm:X.mg "isinstance"=none)(Oe:Gl X t)(OD:X.mg t=none)(hT:sN t=some T)(hn:t≠"__name__")(Ax:(t==("__debug__":Str))=false)
  (hs:starEach (a::[.Name t tp]) X.env=(false,eval a X.env)::starEach [.Name t tp] X.env) (ha:PE X a (b8 Φ Γ F g.fr a')):PE X (.Call (.Name "isinstance" p) [a,.Name t tp] [] pos) (b8 Φ Γ F g.fr (.bi (.isi T) (.cons a' .nil))):=by
 refine bD (qf Mx.wR hG hm PyProof.Rows.boot_isinstance (fJ ha (fJ (Bb (v:=.ty T) Oe OD (Aj hT) rfl hn Ax) k9) hs) (by decide) (by decide) hs) λσ H Q q=>?_
 obtain⟨o,ρ,S,er,q⟩:=q;unfold ev ij ij at q;rw[ab,ab]at q;refine⟨o,ρ,S,er,ag q λp hp q x H1 bx aI=>?_⟩;simp only[R.ah]at q;have q:mR Φ.Ek ((d6 (.isi T) [p.1]).bind λd=>R.ok (d,p.2)) _:=q;unfold d6 at q;simp only at q;rw[ab,ab]at q;obtain⟨b,hb,q⟩:=i0 (AK _ _) q;obtain⟨ty,k1,k2⟩:=DG (BH hT) (hK▸bx.val) hb;refine⟨x,T,ty,b,rfl,k1,k2,q _ _ ?_ aI⟩;exact(EO.sc (Φ:=Φ) (fr:=g.fr) (o:=o) (H:=H1) (c:=.bi (.isi T) (.cons a' .nil)) (d:=.bl b) rfl).vk bx.ext λf=>by simp[fresh]at f
end
noncomputable def Lr(K:Frag)(tl:TE):TI:=λσ H R=>tl σ H λx H1=>(∃a xs,x= .ref a/\dJ K H1 a xs/\R (Je K a) H1)\/(∃a xs,x= .ref a/\fz K H1 a xs/\R (J6 K a) H1)
theorem Et{X:Cx}{tg l:Expr}{tl:TE}(hl:PE X l tl):PI X tg l (Lr X.K tl):=by
 intro pins s σ H R I h;refine bX (hl pins s σ H _ I h) λv s1⟨x,H1,I1,r1,q1⟩=>?_
 rcases q1 with ⟨a,xs,e,hq,q⟩|⟨a,xs,e,hq,q⟩
 ·subst e;cases r1;obtain⟨its,rv,p,hz⟩:=I1.list hq;refine Ue p.isList ?_;refine⟨s1.heap.objs.size,[s1.heap.objs.size],_,_,H1,rfl,I1.kept (t':=s1.toks) λb o e=>P0 _ e,vV a _,⟨_,Qd _ rfl,rfl,rfl⟩,λb hb=>?_,q⟩;have e:b=s1.heap.objs.size:=by simpa using hb
  subst e;exact I1.xC (Qb _) (I1.hok.fresh (Qb _))
 ·subst e;cases r1;obtain⟨its,rv,p,hz⟩:=I1.tuple hq;refine Ug (show s1.heap.IsTuple a its.toArray from p) ?_;refine⟨s1.heap.objs.size,[s1.heap.objs.size],_,_,H1,rfl,I1.kept (t':=s1.toks) λb o e=>P0 _ e,sM a _,⟨_,Qd _ rfl,rfl,rfl⟩,λb hb=>?_,q⟩;have e:b=s1.heap.objs.size:=by simpa using hb
  subst e;exact I1.xC (Qb _) (I1.hok.fresh (Qb _))
section
variable{X:Cx}{Φ:Fm}{Γ:Gm}{F:FT}{g:G}{xv:Nat->Value}{CX:kn}{k:Nat}{K:Frag}
theorem uX{A Y:Addr->Prop}{a:Addr}{xs:List V}{ds:List Dt}{H:Hp}(ha:H a=some (.lst xs))(hn:¬Y a)(hY:∀b,Y b->A b)(h:aq K A H xs ds):Wk K A Y (Je K a) H ds where
 go:=λi H1 hi e=>⟨xs,xs[i]'(by rw[h.length];exact hi),dJ.of (e.kp _ _ ha hn),by simp⟩
 stop:=λH1 e=>⟨xs,dJ.of (e.kp _ _ ha hn),by rw[h.length];exact Qb _⟩
 yld:=λi x H1 H2 hi e y=>by obtain⟨rfl,y⟩:=y;obtain⟨d,h1,h2⟩:=h.get (y xs (dJ.of (e.kp _ _ ha hn)));exact⟨bV.refl _,d,h1,λB hB=>(h2.ck (B:=λb=>A b\/B b) λb z=>z.elim .inl (hB b)).mono e (λb z=>.inl (hY b z)) λ_ z=>.inr z⟩
theorem sQ{A Y:Addr->Prop}{a:Addr}{xs:List V}{ds:List Dt}{H:Hp}(ha:H a=some (.tup xs))(hY:∀b,Y b->A b)(h:aq K A H xs ds):Wk K A Y (J6 K a) H ds where
 go:=λi H1 hi e=>⟨xs,xs[i]'(by rw[h.length];exact hi),fz.of (e.tp _ _ ha),by simp⟩
 stop:=λH1 e=>⟨xs,fz.of (e.tp _ _ ha),by rw[h.length];exact Qb _⟩
 yld:=λi x H1 H2 hi e y=>by obtain⟨rfl,y⟩:=y;obtain⟨d,h1,h2⟩:=h.get (y xs (fz.of (e.tp _ _ ha)));exact⟨bV.refl _,d,h1,λB hB=>(h2.ck (B:=λb=>A b\/B b) λb z=>z.elim .inl (hB b)).mono e (λb z=>.inl (hY b z)) λ_ z=>.inr z⟩
theorem zu{A Y:Addr->Prop}{a:Addr}{ns:List Int}{H:Hp}(ha:(Rd H a (.lst (ns.map V.int))/\¬Y a)\/KL K a (ns.map V.int)):Wk K A Y (Je K a) H (ns.map Dt.int):=by
 have sq:∀H1,bc Y H H1->dJ K H1 a (ns.map V.int):=λH1 e=>by
  rcases ha with ⟨h,n⟩|h
  ·exact .inl (yS e n h)
  ·exact .inr h
 refine⟨λi H1 hi e=>?_,λH1 e=>⟨_,sq H1 e,by simp⟩,λi x H1 H2 hi e y=>?_⟩
 ·rw[Qf]at hi;exact⟨_,.int ns[i],sq H1 e,by simp[hi]⟩
 ·obtain⟨rfl,y⟩:=y;have:=y _ (sq _ e);rw[Qp]at this;obtain⟨m,h1,rfl⟩:=Ql.mp this;exact⟨bV.refl _,.int m,by simp[h1],λ_ _=>RV.du⟩
theorem sP{A Y:Addr->Prop}{lo:Int}{n:Nat}{H:Hp}:Wk K A Y (Jf lo n) H (aR lo n) where
 go:=λi H1 hi e=>by unfold aR at hi;simp at hi;exact hi
 stop:=λH1 e=>by unfold aR;simp only[Qf,Sb];exact Qb _
 yld:=λi x H1 H2 hi e y=>by obtain⟨rfl,rfl⟩:=y;unfold aR at hi;simp at hi;exact⟨bV.refl _,.int (lo+i),by unfold aR;simp[hi],λ_ _=>RV.du⟩
theorem yX{tg a:Expr}{a':C}(hK:Φ.K=X.K)(ha:PE X a (b8 Φ Γ F g.fr a')):PI X tg a (oR Φ Γ F (.seq a')):=r8 (Et ha) λσ H Q q=>by
 obtain⟨o,ρ,S,er,q⟩:=q;unfold d7 at q;rw[ab]at q;refine⟨o,ρ,S,er,ag q λp he q x H1 bx aI=>?_⟩;have zM:rL (.seq a')=lk a':=rfl;cases hd:p.1 with
 |lst ds=>
  rw[hd]at q;have hv:=bx.val;have h0:=bx.dH;have h1:=bx.sv;rw[hd]at hv h0 h1;obtain⟨b,xs,rfl,f1,fn,f2⟩:=hv.lst_inv;refine .inl ⟨b,xs,rfl,dJ.of f1,q _ _ ⟨bx.ext,λl=>?_,λl=>?_,λl=>by unfold lW at l;rw[he]at l;simp only[hd,kY]at l;cases l⟩ aI⟩
  ·rw[<-hK];exact uX f1 (λz=>fn (.inr z)) aI.da (fN.aP (h1 (by rw[zM]at l;exact l)) f1)
  ·rw[<-hK];have:=h0 (by rw[zM]at l;exact l);obtain⟨b',zQ,e',g1,gn,g2⟩:=this.lst_inv;cases e';exact uX g1 gn (λ_ z=>z) g2
 |tup ds=>
  rw[hd]at q;have hv:=bx.val;have h0:=bx.dH;have h1:=bx.sv;rw[hd]at hv h0 h1;obtain⟨b,xs,rfl,f1,f2⟩:=hv.ae;refine .inr ⟨b,xs,rfl,fz.of f1,q _ _ ⟨bx.ext,λl=>?_,λl=>?_,λl=>?_⟩ aI⟩
  ·rw[<-hK];exact sQ f1 aI.da (fN.ar (h1 (by rw[zM]at l;exact l)) f1)
  ·rw[<-hK];exact sQ f1 (λ_ z=>z) (fN.ar (h0 (by rw[zM]at l;exact l)).one f1)
  ·rw[<-hK];unfold lW at l;rw[he]at l;simp only[hd]at l;exact sQ f1 (λ_ z=>z) (fN.ar (hv.kY l:RV Φ.K o.A H1 (.ref b) (.tup ds)).one f1)
 |cc ns=>
  rw[hd]at q;have hv:=bx.val;have h0:=bx.dH;rw[hd]at hv h0;obtain⟨b,rfl,hb⟩:=hv.eF;have OO:dJ X.K H1 b (ns.map V.int):=by
   rw[<-hK];rcases hb with hb|hb
   ·exact .inl hb.1
   ·exact .inr hb
  refine .inl ⟨b,_,rfl,OO,q _ _ ⟨bx.ext,λl=>?_,λl=>?_,λl=>by unfold lW at l;rw[he]at l;simp only[hd,kY]at l;cases l⟩ aI⟩
  ·rw[<-hK];exact zu (hb.imp (λz=>⟨z.1,λw=>z.2 (.inr w)⟩) id)
  ·rw[<-hK];obtain⟨b',e',nZ⟩:=(h0 (by rw[zM]at l;exact l)).eF;cases e';exact zu nZ
 |_=>rw[hd]at q;exact q.elim
theorem ES{tg a:Expr}{a':C}{p pos:Pos}(hG:Gl X "range")(hm:X.mg "range"=none)(hs:starEach [a] X.env=[(false,eval a X.env)])(ha:PE X a (b8 Φ Γ F g.fr a')):PI X tg (.Call (.Name "range" p) [a] [] pos) (oR Φ Γ F (.rng1 a')):=
 r8 (vK hG hm (fJ ha k9 (by rw[hs];rfl)) hs) λσ H Q q=>by
 obtain⟨o,ρ,S,er,q⟩:=q;unfold d7 at q;rw[ab]at q;refine⟨o,ρ,S,er,ag q λp _ q x H1 bx aI=>?_⟩;cases hd:p.1 with
 |int j=>rw[hd]at q;obtain⟨g1,q⟩:=a8 q;rw[P5]at g1;have a1:=P7 g1.1;have a2:=P7 g1.2;have hl:lim=1000000:=rfl;have hv:=bx.val;rw[hd]at hv;exact⟨j,by rw[hv.int_inv],by lia,by lia,q _ _ ⟨bx.ext,λ_=>sP,λ_=>sP,λ_=>sP⟩ aI⟩
 |_=>rw[hd]at q;exact q.elim
theorem zv{A Y:Addr->Prop}{b1 b2:Bool}{l1 l2:Addr}{xs ys:List V}{ds es:List Dt}{H:Hp}(h1:H l1=some (Mx.qN b1 xs))(h2:H l2=some (Mx.qN b2 ys))(n1:b1=false->¬Y l1)(n2:b2=false->¬Y l2)(hY:∀b,Y b->A b)(g1:aq K A H xs ds)(g2:aq K A H ys es):Wk K A Y (Mx.J5 b1 b2 l1 l2) H (cX ds es):=by
 have k1:∀H1,bc Y H H1->H1 l1=some (Mx.qN b1 xs):=λH1 e=>by
  cases b1 with
  |false=>exact e.kp _ _ h1 (n1 rfl)
  |true=>exact e.tp _ _ h1
 have k2:∀H1,bc Y H H1->H1 l2=some (Mx.qN b2 ys):=λH1 e=>by
  cases b2 with
  |false=>exact e.kp _ _ h2 (n2 rfl)
  |true=>exact e.tp _ _ h2
 have hz:(cX ds es).length=min xs.length ys.length:=by unfold cX;rw[List.length_zipWith,g1.length,g2.length]
 refine⟨λi H1 hi e=>?_,λH1 e=>?_,λi x H1 H2 hi e y=>?_⟩
 ·rw[hz]at hi;exact⟨xs,ys,xs[i]'⋯,ys[i]'⋯,k1 H1 e,k2 H1 e,by simp,by simp⟩
 ·exact⟨xs,ys,k1 H1 e,k2 H1 e,by lia⟩
 ·obtain⟨p,x1,y1,rfl,hp,rfl,q⟩:=y;obtain⟨q1,q2⟩:=q xs ys (k1 H1 e) (k2 H1 e);obtain⟨d,a1,a2⟩:=g1.get q1;obtain⟨c,c1,c2⟩:=g2.get q2;have s:=Mx.dX hp (.tup [x1,y1]);refine⟨s,.tup [d,c],by unfold cX;rw[List.getElem?_zipWith,a1,c1],λB hB=>RV.eJ aQ ?_⟩;have av:∀{v:V}{dd:Dt},RV K A H v dd->RV K B (upd H1 p (.tup [x1,y1])) v dd:=λh=>((h.ck (B:=λb=>A b\/B b) λb z=>z.elim .inl (hB b)).mono e (λb z=>.inl (hY b z)) λ_ z=>.inr z).same s
  exact aq.cons (av a2) (aq.cons (av c2) aq.nil)
theorem fi{A B:Addr->Prop}{H:Hp}{x:V}{d:Dt}{ds:List Dt}(h:df d=some ds)(hv:RV K A H x d)(h1:fN K B H x d):∃b l xs,x= .ref l/\H l=some (Mx.qN b xs)/\(b=false->¬A l)/\aq K B H xs ds:=by
 unfold df at h;split at h
 ·cases h;obtain⟨a,xs,rfl,f1,fn,f2⟩:=hv.lst_inv;exact⟨false,a,xs,rfl,f1,λ_=>fn,fN.aP h1 f1⟩
 ·cases h;obtain⟨a,xs,rfl,f1,f2⟩:=hv.ae;exact⟨true,a,xs,rfl,f1,λz=>(by cases z),fN.ar h1 f1⟩
 ·cases h
theorem Iu{es:List Expr}{kk:Nat}{tp:Pos}{a b:Expr}{a' b':C}{p pos:Pos}(hK:Φ.K=X.K)(hG:Gl X "zip")(hm:X.mg "zip"=none)(hs:starEach [a,b] X.env=[(false,eval a X.env),(false,eval b X.env)])(FG:starEach [b] X.env=[(false,eval b X.env)])(ha:PE X a (b8 Φ Γ F g.fr a'))(hb:PE X b (b8 Φ Γ F g.fr b')):
  PI X (.Tuple es kk tp) (.Call (.Name "zip" p) [a,b] [] pos) (oR Φ Γ F (.zip a' b')):=
 r8 (Mx.Bh hG hm (fJ ha (fJ hb k9 (by rw[FG];rfl)) (by rw[hs,FG])) hs FG) λσ H Q q=>by
 obtain⟨o,ρ,S,er,q⟩:=q;unfold d7 at q;rw[ab]at q;refine⟨o,ρ,S,er,ag q λp _ q x H1 bx aI=>?_⟩;rw[ab]at q;refine⟨o,ρ,p.2,aI,ag q λp2 _ q y H2 eo2 f9=>?_⟩;have zM:rL (.zip a' b')=max (lk a') (lk b'):=rfl;split at q
 ·rename_i ds es e1 e2;obtain⟨k1,k2,k3⟩:=bx.keep eo2.ext er.iF;obtain⟨c1,l1,xs,rfl,f1,NZ,f2⟩:=fi e1 k1 k1.one;obtain⟨c2,l2,ys,rfl,g1,N2,g2⟩:=fi e2 eo2.val eo2.val.one;refine⟨c1,c2,l1,l2,xs,ys,rfl,f1,g1,q _ _ ⟨bx.ext.trans eo2.ext,λl=>?_,λl=>?_,λl=>by unfold lW at l;cases l⟩ f9⟩
  ·rw[zM]at l;obtain⟨F7,OZ,zQ,e',Dg,_,KA⟩:=fi e1 k1 (k3 ⋯);obtain⟨F8,O0,JV,Fy,Dj,_,KD⟩:=fi e2 eo2.val (eo2.sv ⋯);cases e';cases Fy;have i1:c1=F7/\xs=zQ:=by rw[f1]at Dg;cases c1<;>cases F7<;>first|(cases Dg;exact⟨rfl,rfl⟩)|cases Dg
   have i2:c2=F8/\ys=JV:=by rw[g1]at Dj;cases c2<;>cases F8<;>first|(cases Dj;exact⟨rfl,rfl⟩)|cases Dj
   obtain⟨rfl,rfl⟩:=i1;obtain⟨rfl,rfl⟩:=i2;exact zv f1 g1 (λz w=>NZ z (.inr w)) (λz w=>N2 z (.inr w)) f9.da KA KD
  ·rw[zM]at l;obtain⟨F7,OZ,zQ,e',Dg,Ht,KA⟩:=fi e1 (k2 ⋯) (k2 ⋯).one;obtain⟨F8,O0,JV,Fy,Dj,DZ,KD⟩:=fi e2 (eo2.dH ⋯) (eo2.dH ⋯).one;cases e';cases Fy;have i1:c1=F7/\xs=zQ:=by rw[f1]at Dg;cases c1<;>cases F7<;>first|(cases Dg;exact⟨rfl,rfl⟩)|cases Dg
   have i2:c2=F8/\ys=JV:=by rw[g1]at Dj;cases c2<;>cases F8<;>first|(cases Dj;exact⟨rfl,rfl⟩)|cases Dj
   obtain⟨rfl,rfl⟩:=i1;obtain⟨rfl,rfl⟩:=i2;exact zv f1 g1 Ht DZ (λ_ z=>z) KA KD
 ·exact q.elim
end
noncomputable def zh:List Nat->wo
 |[]=>Dl
 |i::is=>xD (eR i) (zh is)
noncomputable def BD(K:Frag):Tg->TG
 |.nm i=>eR i
 |.tp is=>Dm K is.length (zh is)
section
variable{X:Cx}{Φ:Fm}{Γ:Gm}{F:FT}{g:G}{xv:Nat->Value}{CX:kn}{k:Nat}{K:Frag}
theorem lG{x:Str}{i:Nat}(h:hV Γ x=some i):yk (Γ.names.lookup x)=true/\fI x=true/\Γ.N[i]?=some x:=by
 unfold hV at h;split at h
 ·rename_i c;rw[P5]at c;exact⟨c.1,c.2,oq h⟩
 ·cases h
theorem uK{x:Str}{i:Nat}(h:slot Γ x=some i):zq (Γ.names.lookup x)=true/\fI x=true/\Γ.N[i]?=some x:=by
 unfold slot at h;split at h
 ·rename_i c;rw[P5]at c;exact⟨c.1,c.2,oq h⟩
 ·cases h
theorem ja{e:Expr}{i:Nat}(h:qe Γ e=some i):∃x p,e= .Name x p/\hV Γ x=some i/\plainS Γ i=true:=by
 unfold qe at h;split at h
 ·rename_i x p;obtain⟨j,h1,h2⟩:=PZ.mp h;split at h2
  ·cases h2;exact⟨x,p,rfl,h1,by assumption⟩
  ·cases h2
 ·cases h
theorem Ck{e:Expr}{i:Nat}(gx:GX g Γ X)(h:qe Γ e=some i):PG X e (eR i):=by obtain⟨x,p,rfl,h1,_⟩:=ja h;obtain⟨a,b,c⟩:=lG h1;obtain⟨l1,l2⟩:=gx.loc x a;exact Bf (gx.N▸gx.nd) (by rw[gx.N];exact c) l1 l2
theorem Cm(gx:GX g Γ X):∀{es:List Expr}{is:List Nat},iy Γ es=some is->FQ X es (zh is)/\es.length=is.length/\∀e∈es,∃x p,e= .Name x p
 |[],is,h=>by cases h;exact⟨Bg,rfl,λe z=>by cases z⟩
 |e::es,is,h=>by
  unfold iy at h;obtain⟨i,h1,h2⟩:=PZ.mp h;obtain⟨js,h3,rfl⟩:=Ql.mp h2;obtain⟨k1,k2,k3⟩:=Cm gx h3;obtain⟨x,p,ex,_⟩:=ja h1;refine⟨yI (Ck gx h1) k1 (by subst ex;rfl),by simp[k2],λe' z=>?_⟩;rcases Qi.mp z with rfl|z
  ·exact⟨x,p,ex⟩
  ·exact k3 e' z
theorem kX{env:Env}:∀{es:List Expr},(∀e∈es,∃x p,e=Expr.Name x p)->(assignEach es env).length=es.length/\(assignEach es env).findIdx? (·.1)=none
 |[],_=>⟨rfl,rfl⟩
 |e::es,h=>by
  obtain⟨x,p,rfl⟩:=h e Qc;obtain⟨h1,h2⟩:=kX (es:=es) (env:=env) λe' z=>h e' (P9 _ z)
  have q:assignEach (Expr.Name x p::es) env=(false,assign (.Name x p) env)::assignEach es env:=rfl;rw[q];refine⟨by simp[h1],?_⟩;rw[List.findIdx?_cons];simp[h2]
theorem qv{e:Expr}{t:Tg}(gx:GX g Γ X)(h:ph Γ e=some t):PG X e (BD X.K t):=by
 unfold ph at h;split at h
 ·obtain⟨i,h1,rfl⟩:=Ql.mp h;exact Ck gx h1
 ·obtain⟨is,h1,rfl⟩:=Ql.mp h;obtain⟨k1,k2,k3⟩:=Cm gx h1;obtain⟨n1,n2⟩:=kX (env:=X.env) k3;exact Es gx.calm k1 (by rw[n1,k2]) n2
 ·cases h
theorem fu{e:Expr}{t:Tg}(h:ph Γ e=some t):∀i∈aY t,plainS Γ i=true/\∃x,hV Γ x=some i:=by
 have many:∀{es:List Expr}{is:List Nat},iy Γ es=some is->∀i∈is,plainS Γ i=true/\∃x,hV Γ x=some i:=by
  intro es
  induction es with
  |nil=>intro is h i hi;cases h;cases hi
  |cons e es ih=>
   intro is h i hi;unfold iy at h;obtain⟨j,h1,h2⟩:=PZ.mp h;obtain⟨js,h3,rfl⟩:=Ql.mp h2;rcases Qi.mp hi with rfl|hi
   ·obtain⟨x,p,_,k1,k2⟩:=ja h1;exact⟨k2,x,k1⟩
   ·exact ih h3 i hi
 unfold ph at h;split at h
 ·obtain⟨j,h1,rfl⟩:=Ql.mp h;intro i hi;have:i=j:=by simpa [aY]using hi
  subst this;obtain⟨x,p,_,k1,k2⟩:=ja h1;exact⟨k2,x,k1⟩
 ·obtain⟨is,h1,rfl⟩:=Ql.mp h;exact many h1
 ·cases h
theorem jc{i:Nat}(h:plainS Γ i=true):fU Γ i=false/\Γ.δ≠some i:=by unfold plainS at h;rw[P5]at h;refine⟨by simpa using h.1,λe=>?_⟩;rw[e]at h;simp at h
theorem ER.set{o:Ow}{ρ:ao}{S:Sx}{σ:L2.St}{H:Hp}{i:Nat}{v:V}{d:Dt}(er:ER Φ Γ o ρ S σ H)(hp:plainS Γ i=true)(h:RV Φ.K o.A H v d):ER Φ Γ o (ρ.set i (some d)) S (σ.set i (some v)) H where
 len:=by rw[Sf,Sf];exact er.len
 wa:=er.wa
 da:=er.da
 al:=er.al
 val:=λj e he=>by
  by_cases hj:j=i
  ·subst hj;rw[R4]at he;simp only[TQ]at he;split at he
   ·rename_i cK;cases he;refine⟨v,by rw[QQ (by rw[er.len];exact cK)],?_⟩;rw[(jc hp).1,TM (by simp)];exact h
   ·cases he
  ·rw[Qn (Tn hj)]at he;obtain⟨w,h1,h2⟩:=er.val j e he;exact⟨w,by rw[Qn (Tn hj)];exact h1,h2⟩
 inj:=λa b c e f ha hb h1 h2 h3 h4=>by
  have na:a≠i:=λz=>by rw[z,(jc hp).1]at ha;cases ha
  have nb:b≠i:=λz=>by rw[z,(jc hp).1]at hb;cases hb
  rw[Qn (Tn na)]at h1 h3;rw[Qn (Tn nb)]at h2 h4;exact er.inj a b c e f ha hb h1 h2 h3 h4
 dk:=Dk.set er.dk h.nd
 drw:=er.drw
 drn:=er.drn
 drs:=λj a hj ha=>by rw[Qn (λz=>(jc hp).2 (by rw[z];exact hj))];exact er.drs j a hj ha
 dr0:=er.dr0
 ent:=er.ent
theorem uT{o:Ow}{S:Sx}{H:Hp}{Q:L2.St->Hp->Prop}:∀{is:List Nat}{ds:List Dt}{xs:List V}{ρ ρ1:ao}{σ:L2.St},ER Φ Γ o ρ S σ H->(∀i∈is,plainS Γ i=true)->aq Φ.K o.A H xs ds->jK is ds ρ= .ok ρ1->(∀σ1,ER Φ Γ o ρ1 S σ1 H->(∀k,k∉is->σ1[k]?=σ[k]?/\ρ1[k]?=ρ[k]?)->Q σ1 H)->zh is xs σ H Q/\xs.length=is.length
 |[],ds,xs,ρ,ρ1,σ,er,_,hx,h,q=>by
  cases ds with
  |nil=>cases h;rw[hx.nil_inv];exact⟨⟨rfl,q σ er λ_ _=>⟨rfl,rfl⟩⟩,rfl⟩
  |cons=>cases h
 |i::is,ds,xs,ρ,ρ1,σ,er,hp,hx,h,q=>by
  cases ds with
  |nil=>cases h
  |cons d ds=>
   obtain⟨x,r,rfl,h1,h2⟩:=hx.cons_inv;obtain⟨k1,k2⟩:=uT (er.set (hp i Qc) h1) (λj hj=>hp j (P9 _ hj)) h2 h λσ1 aI hk=>q σ1 aI λk zL=>by
    have n1:k≠i:=λz=>zL (by rw[z];exact Qc)
    obtain⟨a1,a2⟩:=hk k λz=>zL (P9 _ z)
    rw[Qn (Tn n1)]at a1 a2;exact⟨a1,a2⟩
   exact⟨⟨x,r,rfl,k1⟩,by simp[k2]⟩
theorem sE{o:Ow}{S:Sx}{H:Hp}{Q:L2.St->Hp->Prop}{t:Tg}{d:Dt}{x:V}{ρ ρ1:ao}{σ:L2.St}(er:ER Φ Γ o ρ S σ H)(hp:∀i∈aY t,plainS Γ i=true)(hx:RV Φ.K o.A H x d)(h:fj t d ρ= .ok ρ1)(q:∀σ1,ER Φ Γ o ρ1 S σ1 H->(∀k,k∉aY t->σ1[k]?=σ[k]?/\ρ1[k]?=ρ[k]?)->Q σ1 H):BD Φ.K t x σ H Q:=by
 cases t with
 |nm i=>
  cases h;exact q _ (er.set (hp i (by simp[aY])) hx) λk hk=>by
   have n1:k≠i:=λz=>hk (by simp[aY,z])
   rw[Qn (Tn n1),Qn (Tn n1)];exact⟨rfl,rfl⟩
 |tp is=>
  unfold fj at h;cases d with
  |tup ds=>obtain⟨a,xs,rfl,h1,h2⟩:=hx.ae;obtain⟨k1,k2⟩:=uT er hp h2 h q;exact⟨a,xs,rfl,fz.of h1,k2,k1⟩
  |_=>cases h
theorem qw:∀(is:List Nat)(ds:List Dt)(ρ:ao)(k:Nat),jK is ds ρ≠ .ex k
 |[],[],_,_=>λz=>by cases z
 |[],_::_,_,_=>λz=>by cases z
 |_::_,[],_,_=>λz=>by cases z
 |_::is,_::ds,ρ,k=>qw is ds _ k
theorem lE(t:Tg)(d:Dt)(ρ:ao):∀k,fj t d ρ≠ .ex k:=by
 intro k;cases t with
 |nm i=>intro z;cases z
 |tp is=>
  cases d with
  |tup ds=>exact qw is ds ρ k
  |_=>intro z;cases z
theorem kU{Ek:Nat->Prop}{α:Type}{r:R α}{P:α->Prop}(cM:∀k,r≠ .ex k)(h:mR Ek r P):∃d,r= .ok d/\P d:=by
 cases r with
 |ok a=>exact⟨a,rfl,h⟩
 |ex k=>exact absurd rfl (cM k)
 |bad=>exact h.elim
theorem ra{sc:Scope}(gx:GX g Γ X)(hk:sc.kind= .function)(hb:wM sc.names Γ.names (ba Γ sc).1.N Γ.N (ba Γ sc).2=true):fM X sc (ba Γ sc).1.N (ba Γ sc).2:=by
 unfold wM at hb;rw[P5,P5]at hb;obtain⟨⟨h1,h2⟩,h3⟩:=hb;rw[QG]at h1 h3;refine⟨hk,λy hy=>?_,λy hy e=>?_,λj i hj=>?_,by simpa using h2⟩
 ·have:=h1 y hy;rw[P5]at this;exact Qt this.1
 ·have:=h1 y hy;rw[P5,e]at this;have h:=this.2;simp at h;exact gx.fre y.1 h
 ·have cK:j<(ba Γ sc).2.length:=(P8.mp hj).1;have:=h3 j (QR.mpr cK);rw[hj]at this;simp only at this;cases hx:(ba Γ sc).1.N[j]? with
  |none=>rw[hx]at this;cases this
  |some x=>rw[hx]at this;simp only[P5]at this;exact⟨x,rfl,by rw[gx.N];exact Qt this.1,Qt this.2⟩
theorem fD{sc:Scope}{C:Addr}{s:Shared}{H:Hp}{fp:List Addr}{xe:Value->Shared->Prop}(gx:GX g Γ X)(B:fM X sc (ba Γ sc).1.N (ba Γ sc).2)(jG:(ba Γ sc).1.N.Nodup):GX g (ba Γ sc).1 (gT X sc (ba Γ sc).1.N C s H fp xe) where
 N:=rfl
 nd:=jG
 vis:=λx h=>by
  have hn:(ba Γ sc).1.names=sc.names:=rfl;rw[hn]at h;cases hl:sc.names.lookup x with
  |none=>rw[hl]at h;cases h
  |some kk=>
   have q:=a6 (env:=X.env) hl;have q':(gT X sc (ba Γ sc).1.N C s H fp xe).env.scope.names.lookup x=_:=q;by_cases hc:(kk==NameKind.free&&X.env.scope.kind== .function&&X.env.kindOf x==some .cell)=true
   ·rw[TN hc]at q';exact .inr (.inl q')
   ·rw[TM hc]at q';rw[hl]at h;cases kk with
    |«local»=>exact .inl q'
    |cell=>exact .inr (.inl q')
    |free=>exact .inr (.inr q')
    |globalExplicit=>cases h
    |globalImplicit=>cases h
 loc:=λx h=>by
  have hn:(ba Γ sc).1.names=sc.names:=rfl;rw[hn]at h;cases hl:sc.names.lookup x with
  |none=>rw[hl]at h;cases h
  |some kk=>
   have q:=a6 (env:=X.env) hl;have q':(gT X sc (ba Γ sc).1.N C s H fp xe).env.scope.names.lookup x=_:=q;rw[hl]at h;cases kk with
   |«local»=>rw[TM (by simp)]at q';exact⟨.inl q',.inr q'⟩
   |cell=>rw[TM (by simp)]at q';exact⟨.inr q',.inl (by show (sc.names.lookup x==some .cell)=true;rw[hl];rfl)⟩
   |free=>cases h
   |globalExplicit=>cases h
   |globalImplicit=>cases h
 gl:=λx h=>by
  have hn:(ba Γ sc).1.names=sc.names:=rfl;rw[hn]at h;cases hl:sc.names.lookup x with
  |none=>rw[hl]at h;cases h
  |some kk=>
   have q:=a6 (env:=X.env) hl;have q':(gT X sc (ba Γ sc).1.N C s H fp xe).env.scope.names.lookup x=_:=q;rw[hl]at h;cases kk with
   |globalImplicit=>rw[TM (by simp)]at q';exact q'
   |«local»=>cases h
   |cell=>cases h
   |free=>cases h
   |globalExplicit=>cases h
 fre:=λx h=>by
  have hn:(ba Γ sc).1.names=sc.names:=rfl;rw[hn]at h;rcases h with hl|hl
  ·have q:=a6 (env:=X.env) hl;have q':(gT X sc (ba Γ sc).1.N C s H fp xe).env.scope.names.lookup x=_:=q;rw[TM (by simp)]at q';exact .inl q'
  ·have q:=a6 (env:=X.env) hl;have q':(gT X sc (ba Γ sc).1.N C s H fp xe).env.scope.names.lookup x=_:=q;by_cases hc:(NameKind.free==NameKind.free&&X.env.scope.kind== .function&&X.env.kindOf x==some .cell)=true
   ·rw[TN hc]at q';exact .inl q'
   ·rw[TM hc]at q';exact .inr q'
 calm:=gx.calm
 un:=gx.un
 con:=gx.con
 bl:=gx.bl
end
theorem join_some{α:Type}{o:Option (Option α)}{a:α}(h:o.join=some a):o=some (some a):=by
 cases o with
 |none=>cases h
 |some x=>cases x with
  |none=>cases h
  |some y=>simp at h;rw[h]
theorem fX{cap:List (Option Nat)}{ρ:ao}{j:Nat}{d:Dt}(h:(jN cap ρ)[j]?=some (some d)):∃i,cap[j]?=some (some i)/\ρ[i]?=some (some d):=by
 unfold jN at h;rw[Qp]at h;cases hc:cap[j]? with
 |none=>rw[hc]at h;cases h
 |some o=>
  rw[hc]at h;cases o with
  |none=>cases h
  |some i=>refine⟨i,rfl,join_some ?_⟩;simpa using h
theorem eN{cap:List (Option Nat)}{σ:L2.St}{i j:Nat}{v:V}(hc:cap[j]?=some (some i))(h:σ[i]?=some (some v)):(c8 cap σ)[j]?=some (some v):=by unfold c8;rw[Qp,hc];simp[h]
theorem t9{δ:Option Nat}:∀{cap:List (Option Nat)}{j:Nat},zN δ cap=some j->∃i,δ=some i/\cap[j]?=some (some i)
 |[],j,h=>by simp[zN]at h
 |o::r,j,h=>by
  unfold zN at h;split at h
  ·rename_i c;rw[P5]at c;cases h;cases δ with
   |none=>simp at c
   |some i=>exact⟨i,rfl,by simp[Qt c.2]⟩
  ·obtain⟨k,h1,rfl⟩:=Ql.mp h;obtain⟨i,h2,h3⟩:=t9 h1;exact⟨i,h2,by simpa using h3⟩
section
variable{X:Cx}{Φ:Fm}{Γ:Gm}{F:FT}{g:G}{xv:Nat->Value}{CX:kn}{k:Nat}{K:Frag}
noncomputable def Ow.plus(o:Ow)(D:Addr):Ow:=⟨o.W,λb=>o.A b\/b=D,o.dr⟩
theorem jZ{sc:Scope}{i j:Nat}(hc:(ba Γ sc).2[j]?=some (some i)):fU (ba Γ sc).1 j=fU Γ i:=by have e:(ba Γ sc).1.M=C1 (ba Γ sc).2 Γ.M:=rfl;unfold fU;rw[e];unfold C1;rw[Qp,hc];simp
theorem pY{i:Nat}:∀{cap:List (Option Nat)}{j:Nat},cap[j]?=some (some i)->∃j',zN (some i) cap=some j'/\cap[j']?=some (some i)
 |[],j,h=>by cases h
 |o::r,j,h=>by
  unfold zN;by_cases e:o=some i
  ·refine⟨0,?_,by rw[e];rfl⟩;rw[e];simp
  ·rw[TM (by simp[e])];cases j with
   |zero=>cases h;exact absurd rfl e
   |succ j=>obtain⟨j',h1,h2⟩:=pY (cap:=r) (j:=j) h;exact⟨j'+1,by rw[h1];rfl,h2⟩
theorem ER.ba{sc:Scope}{o:Ow}{ρ:ao}{S:Sx}{σ:L2.St}{H:Hp}{D:Addr}(er:ER Φ Γ o ρ S σ H)(B:fM X sc (ba Γ sc).1.N (ba Γ sc).2)(jG:(Rx.ba Γ sc).1.N.Nodup)(hD:H D=none):
  ER Φ (Rx.ba Γ sc).1 (o.plus D) (jN (Rx.ba Γ sc).2 ρ) S (c8 (Rx.ba Γ sc).2 σ) (upd H D (.lst [])):=by
 have s:=Mx.dX hD (.lst []);have av:∀b,(o.A b\/b=D)->o.A b\/H b=none:=λb z=>z.elim .inl λe=>.inr (by rw[e];exact hD)
 refine⟨?_,λa h=>.inl (er.wa a h),λa h=>.inl (er.da a h),λa h=>?_,λj d h=>?_,λj ks vs h=>?_,λj j' a d e hm hm' h1 h2 h3 h4=>?_,λa h=>?_,er.drn,λj a hj ha=>?_,er.dr0,er.ent.trans (bc.of_same s)⟩
 ·unfold c8 jN;rw[Qf,Qf]
 ·rcases h with h|h
  ·obtain⟨x,hx⟩:=er.al a h;exact⟨x,s _ _ hx⟩
  ·subst h;exact⟨_,aQ⟩
 ·obtain⟨i,hc,hr⟩:=fX h;obtain⟨v,h1,h2⟩:=er.val i d hr;refine⟨v,eN hc h1,?_⟩;rw[jZ hc];by_cases hm:fU Γ i=true
  ·rw[TN hm]at h2 ⊢;cases d with
   |lst ds=>obtain⟨a,xs,e1,e2,e3,e4,e5,e6,e7⟩:=h2;exact⟨a,xs,e1,s _ _ e2,.inl e3,e4,e5,e6,(e7.ck av).same s⟩
   |gE=>exact h2.elim
   |_=>exact RV.same (RV.ck av h2) s
  ·rw[TM hm]at h2 ⊢;exact(h2.ck av).same s
 ·obtain⟨i,hc,hr⟩:=fX h;have hk:=er.dk i ks vs hr;obtain⟨j',k1,k2⟩:=pY hc;obtain⟨x,n1,n2,_⟩:=B.vf j i hc;obtain⟨x',Ht,DZ,_⟩:=B.vf j' i k2;rw[n2]at DZ;cases DZ;show zN Γ.κ (Rx.ba Γ sc).2=some j;rw[hk,k1,i6 jG n1 Ht]
 ·obtain⟨i,hc,hr⟩:=fX h1;obtain⟨i',n8,iG⟩:=fX h2;rw[jZ hc]at hm;rw[jZ n8]at hm';obtain⟨v,k1,_⟩:=er.val i _ hr;obtain⟨v',Ni,_⟩:=er.val i' _ iG;rw[eN hc k1]at h3;rw[eN n8 Ni]at h4;cases h3;cases h4;have:=er.inj i i' a d e hm hm' hr iG k1 Ni;subst this;obtain⟨x,n1,n2,_⟩:=B.vf j i hc;obtain⟨x',Ht,DZ,_⟩:=B.vf j' i n8;rw[n2]at DZ;cases DZ;exact i6 jG n1 Ht
 ·obtain⟨ns,e1,e2⟩:=er.drw a h;exact⟨ns,e1,s _ _ e2⟩
 ·obtain⟨i,h1,h2⟩:=t9 (show zN Γ.δ (Rx.ba Γ sc).2=some j from hj);exact eN h2 (er.drs i a h1 ha)
theorem wV{sc:Scope}{x:Str}{i:Nat}(B:fM X sc (ba Γ sc).1.N (ba Γ sc).2)(h:hV (ba Γ sc).1 x=some i):(ba Γ sc).2[i]?=some none:=by
 obtain⟨a,b,c⟩:=lG h;have cK:i<(ba Γ sc).2.length:=by rw[B.len];exact(P8.mp c).1
 cases hc:(ba Γ sc).2[i]? with
 |none=>rw[List.getElem?_eq_none_iff]at hc;lia
 |some o=>
  cases o with
  |none=>rfl
  |some j=>obtain⟨y,n1,_,n3⟩:=B.vf i j hc;rw[c]at n1;cases n1;have hn:(ba Γ sc).1.names=sc.names:=rfl;rw[hn,n3]at a;cases a
theorem rd{cap:List (Option Nat)}{σ:L2.St}{i:Nat}(h:cap[i]?=some none):(c8 cap σ)[i]?=some none:=by unfold c8;rw[Qp,h];rfl
theorem kK{σ0:L2.St}{t:Tg}{K:Frag}(h:∀i∈aY t,σ0[i]?=some none):GL σ0 (BD K t):=by
 have many:∀{is:List Nat},(∀i∈is,σ0[i]?=some none)->FN σ0 (zh is):=by
  intro is
  induction is with
  |nil=>intro _;exact Aq
  |cons i is ih=>intro hs;exact xM (hs i Qc) (ih λj hj=>hs j (P9 _ hj))
 cases t with
 |nm i=>exact Ap (h i (by simp[aY]))
 |tp is=>exact Dp (many h)
theorem oS{sc:Scope}{e:Expr}{t:Tg}{σ:L2.St}(B:fM X sc (ba Γ sc).1.N (ba Γ sc).2)(h:ph (ba Γ sc).1 e=some t):∀i∈aY t,(c8 (ba Γ sc).2 σ)[i]?=some none:=λi hi=>by obtain⟨_,x,hx⟩:=fu h i hi;exact rd (wV B hx)
noncomputable def CG(Γ:Gm)(ρ:ao)(σ:L2.St)(D:Addr):Prop:=∀(j:Nat)(d:List Dt),fU Γ j=true->ρ[j]?=some (some (.lst d))->σ[j]?≠some (some (.ref D))
theorem uW{H:Hp}{D:Addr}{acc gS:List V}(hD:H D=some (.lst acc)):bc (λb=>b=D) H (upd H D (.lst gS)):=⟨λb o h n=>by rw[aJ n];exact h,Mx.lN hD⟩
theorem ER.emit{o:Ow}{ρ:ao}{S:Sx}{σ:L2.St}{H:Hp}{D:Addr}{acc gS:List V}(er:ER Φ Γ o ρ S σ H)(hD:H D=some (.lst acc))(hn:CG Γ ρ σ D)(oD:o.A D)(nd:o.dr≠some D)(h0:∀x,Φ.H0 D=some x->Φ.d0=some D):ER Φ Γ o ρ S σ (upd H D (.lst gS)):=by
 have up:bc (λb=>b=D) H (upd H D (.lst gS)):=uW hD;have uA:∀b,b=D->o.A b:=λb z=>by rw[z];exact oD
 refine⟨er.len,er.wa,er.da,λa ha=>?_,λj dd h=>?_,er.dk,er.inj,λa ha=>?_,er.drn,er.drs,er.dr0,?_⟩
 ·obtain⟨x,hx⟩:=er.al a ha;exact up.al hx λz=>⟨_,by rw[z];exact aQ⟩
 ·obtain⟨w,h1,h2⟩:=er.val j dd h;refine⟨w,h1,?_⟩;by_cases hm:fU Γ j=true
  ·rw[TN hm]at h2 ⊢;cases dd with
   |lst ds=>
    obtain⟨a,xs,e1,e2,e3,e4,e5,e6,e7⟩:=h2;have aD:a≠D:=λz=>hn j ds hm h (by rw[h1,e1,z])
    exact⟨a,xs,e1,up.kp _ _ e2 aD,e3,e4,e5,e6,e7.mono up uA λ_ z=>z⟩
   |gE=>exact h2.elim
   |_=>exact RV.mono up uA (λ_ z=>z) h2
  ·rw[TM hm]at h2 ⊢;exact h2.mono up uA λ_ z=>z
 ·obtain⟨ns,e1,e2⟩:=er.drw a ha;exact⟨ns,e1,up.kp _ _ e2 (λz=>nd (by rw[<-z];exact ha))⟩
 ·refine⟨λb x h n=>up.kp _ _ (er.ent.kp b x h n) λz=>?_,λb xs h=>up.tp _ _ (er.ent.tp b xs h)⟩;subst z;exact n (h0 x h)
theorem Wk.less{A Y Y':Addr->Prop}{J:It}{H:Hp}{ds:List Dt}(w:Wk K A Y J H ds)(h:∀b,Y' b->Y b):Wk K A Y' J H ds:=⟨λi H1 hi e=>w.go i H1 hi (e.mono h),λH1 e=>w.stop H1 (e.mono h),λi x H1 H2 hi e y=>w.yld i x H1 H2 hi (e.mono h) y⟩
theorem IO.ND{Φ:Fm}{Γ:Gm}{o:Ow}{ρ:ao}{S:Sx}{σ:L2.St}{it:mq}{nl:Bool}{H H1:Hp}{ds:List Dt}{J:It}(io:IO Φ.K o it nl H ds J H1)(er:ER Φ Γ o ρ S σ H1)(h:(decide (rL it<=1)||nl)=true):Wk Φ.K o.A o.d J H1 ds:=by
 rcases Q5.mp h with h|h
 ·exact io.w1 (P7 h)
 ·exact(io.w2 h).less er.da
theorem Wk.plus{A Y:Addr->Prop}{J:It}{H:Hp}{ds:List Dt}{D:Addr}(w:Wk K A Y J H ds)(hD:H D=none):Wk K (λb=>A b\/b=D) (λb=>Y b\/b=D) J (upd H D (.lst [])) ds:=by
 have ex:∀H1,bc (λb=>Y b\/b=D) (upd H D (.lst [])) H1->bc Y H H1:=λH1 e=>⟨λb o h n=>by
   have nb:b≠D:=λz=>by rw[z,hD]at h;cases h
   exact e.kp b o (by rw[aJ nb];exact h) λz=>z.elim n nb,λb xs h=>by
   have nb:b≠D:=λz=>by rw[z,hD]at h;cases h
   exact e.tp b xs (by rw[aJ nb];exact h)⟩
 refine⟨λi H1 hi e=>w.go i H1 hi (ex H1 e),λH1 e=>w.stop H1 (ex H1 e),λi x H1 H2 hi e y=>?_⟩;obtain⟨s,d,hd,hv⟩:=w.yld i x H1 H2 hi (ex H1 e) y;refine⟨s,d,hd,λB hB=>hv B λb hb=>?_⟩;rcases hB b hb with (z|z)|z
 ·exact .inl z
 ·exact .inr (by rw[z];exact hD)
 ·by_cases nb:b=D
  ·exact .inr (by rw[nb];exact hD)
  ·rw[aJ nb]at z;exact .inr z
structure zS(Φ:Fm)(Γ:Gm)(o:Ow)(D:Addr)(ρ:ao)(σ:L2.St)(S:Sx)(acc:List V)(es:List Dt)(H:Hp):Prop where
 at':H D=some (.lst acc)
 rv:aq Φ.K o.A H acc es
 er:ER Φ Γ o ρ S σ H
structure Jd(Φ:Fm)(o:Ow)(D:Addr):Prop where
 oD:o.A D
 nd:o.dr≠some D
 h0:∀x,Φ.H0 D=some x->Φ.d0=some D
noncomputable def Yd(o:Ow)(D:Addr):Addr->Prop:=λb=>o.d b\/b=D
theorem ER.back{o:Ow}{ρ ρ':ao}{S S':Sx}{σ σ':L2.St}{H H':Hp}{D:Addr}(fx:Jd Φ o D)(hn:CG Γ ρ σ D)(er:ER Φ Γ o ρ S σ H)(De:ER Φ Γ o ρ' S' σ' H')(e:bc (Yd o D) H H')(Px:∃acc,H D=some (.lst acc)):ER Φ Γ o ρ S' σ H':=by
 have uA:∀b,Yd o D b->o.A b:=λb z=>z.elim (er.da b) λq=>by rw[q];exact fx.oD
 refine⟨er.len,er.wa,er.da,De.al,λj dd h=>?_,er.dk,er.inj,De.drw,De.drn,er.drs,er.dr0,De.ent⟩;obtain⟨w,h1,h2⟩:=er.val j dd h;refine⟨w,h1,?_⟩;by_cases hm:fU Γ j=true
 ·rw[TN hm]at h2 ⊢;cases dd with
  |lst ds=>
   obtain⟨a,xs,e1,e2,e3,e4,e5,e6,e7⟩:=h2;have aD:a≠D:=λz=>hn j ds hm h (by rw[h1,e1,z])
   exact⟨a,xs,e1,e.kp _ _ e2 (λz=>z.elim e5 aD),e3,e4,e5,e6,e7.mono e uA λ_ z=>z⟩
  |gE=>exact h2.elim
  |_=>exact RV.mono e uA (λ_ z=>z) h2
 ·rw[TM hm]at h2 ⊢;exact h2.mono e uA λ_ z=>z
theorem sO{tg:Tg}{ts:Cs}{o:Ow}{D:Addr}{ρ:ao}{σ:L2.St}{J:It}{ds:List Dt}{H1:Hp}{tb:TB}{fb:ao->Sx->R (List Dt×Sx)}{m a0:Nat}(fx:Jd Φ o D)(hp:∀i∈aY tg,plainS Γ i=true)(wk:Wk Φ.K o.A (Yd o D) J H1 ds)(hn:CG Γ ρ σ D)
  (hb:∀(ρ1:ao)(σ1:L2.St)(S:Sx)(acc:List V)(es:List Dt)(H2:Hp)(P:List Dt×Sx->Prop),CG Γ ρ1 σ1 D->(∀k,k∉aY tg->σ1[k]?=σ[k]?/\ρ1[k]?=ρ[k]?)->zS Φ Γ o D ρ1 σ1 S acc es H2->bc (Yd o D) H1 H2->acc.length+m<=a0+ds.length*m->0<ds.length->mR Φ.Ek (fb ρ1 S) P->
   ∀Q:Hp->Prop,(∀H5 r iN,P r->zS Φ Γ o D ρ1 σ1 r.2 iN (es++r.1) H5->bc (Yd o D) H2 H5->iN.length<=acc.length+m->Q H5)->tb σ1 H2 Q)
  {S:Sx} {acc:List V} {es:List Dt} {P:List Dt×Sx->Prop} (c:zS Φ Γ o D ρ σ S acc es H1) (ha:acc.length<=a0) (q:mR Φ.Ek (aK (aN tg (bh F ts) fb ρ) ds S) P) {Fn:Hp->Prop}
  (fin:∀H5 r iN,P r->zS Φ Γ o D ρ σ r.2 iN (es++r.1) H5->bc (Yd o D) H1 H5->iN.length<=a0+ds.length*m->Fn H5):o6 J (BD Φ.K tg) (nh Φ Γ F ts) tb σ Fn H1:=by
 refine⟨λi mm H2=>mm=ds.length-i/\i<=ds.length/\∃S2 nF xo,zS Φ Γ o D ρ σ S2 nF (es++xo) H2/\bc (Yd o D) H1 H2/\nF.length<=a0+i*m/\mR Φ.Ek (aK (aN tg (bh F ts) fb ρ) (ds.drop i) S2) λr=>P (xo++r.1,r.2),
  ⟨_,rfl,Tj _,S,acc,[],by rw[QK];exact c,bc.refl,by lia,q⟩,?_⟩
 rintro i mm H2 ⟨rfl,hi,S2,nF,xo,c2,zE,eU,q⟩;by_cases cK:i<ds.length
 ·refine .inr ⟨wk.go i H2 cK zE,λx H3 y=>?_⟩;obtain⟨s3,d,hd,hx⟩:=wk.yld i x H2 H3 cK zE y;have ya:=hx o.A λb z=>.inl z
  have Gp:=c2.er.grow s3;have Ku:ds.drop i=d::ds.drop (i+1):=by rw[RJ cK];congr 1;exact(P8.mp hd).2
  rw[Ku]at q;unfold aK at q;rw[ab]at q;unfold aN at q;rw[ab]at q;obtain⟨ρ1,hρ,q⟩:=kU (lE _ _ _) q;refine sE Gp hp ya hρ λσ1 Kz hk=>?_
  rw[ab]at q;refine⟨o,ρ1,S2,Kz,ag q λb _ q H4 e4 Jn=>?_⟩;have MK:bc (Yd o D) H3 H4:=e4.mono λb z=>.inl z
  have O6:CG Γ ρ1 σ1 D:=λj dd hm h1 h2=>by
   have nj:j∉aY tg:=λz=>by rw[(jc (hp j z)).1]at hm;cases hm
   obtain⟨k1,k2⟩:=hk j nj;rw[k1]at h2;rw[k2]at h1;exact hn j dd hm h1 h2
  have uA:∀b,Yd o D b->o.A b:=λb z=>z.elim (Gp.da b) λq=>by rw[q];exact fx.oD
  have GC:H4 D=some (.lst nF):=e4.kp _ _ (s3 _ _ c2.at') fx.nd;have Nc:aq Φ.K o.A H4 nF (es++xo):=(c2.rv.same s3).mono MK uA λ_ z=>z
  have Gq:bc (Yd o D) H2 H4:=(bc.of_same s3).trans MK;have hmul:ds.length*m=(ds.length-(i+1))*m+(i*m+m):=by
   rw[<-Th i m,<-Nat.add_mul];congr 1
   lia
  have M8:(i+1)*m=i*m+m:=Th i m;have hz:0<=(ds.length-(i+1))*m:=Tj _;cases nZ:b.1 with
  |false=>rw[nZ]at q;refine He ?_;refine⟨ds.length-(i+1),by lia,rfl,cK,b.2,nF,xo,⟨GC,Nc,c2.er.back fx hn Jn Gq ⟨_,c2.at'⟩⟩,zE.trans Gq,by lia,?_⟩;simp only[Q1,TL]at q;have q:mR Φ.Ek ((aK (aN tg (bh F ts) fb ρ) (ds.drop (i+1)) b.2).bind λq=>R.ok (([]:List Dt)++q.1,q.2)) _:=q;rw[ab]at q;exact ag q λr _ q=>q
  |true=>
   rw[nZ]at q;refine Hf ?_;simp only[TQ]at q;refine hb ρ1 σ1 b.2 nF (es++xo) H4 _ O6 hk ⟨GC,Nc,Jn⟩ (zE.trans Gq) ⋯ ⋯ q _ λH5 r iN q c5 e5 l5=>?_
   rw[ab]at q;refine⟨ds.length-(i+1),by lia,rfl,cK,r.2,iN,xo++r.1,⟨c5.at',by rw[<-Qk];exact c5.rv,c2.er.back fx hn c5.er (Gq.trans e5) ⟨_,c2.at'⟩⟩,(zE.trans Gq).trans e5,by lia,ag q λr' _ q=>?_⟩;have q:P (xo++(r.1++r'.1),r'.2):=q;rw[Qk];exact q
 ·have e:i=ds.length:=⋯
  subst e;refine .inl ⟨wk.stop H2 zE,?_⟩;rw[List.drop_length]at q;have q:P (xo++[],S2):=q;rw[QK]at q;exact fin H2 (xo,S2) nF q c2 zE eU
theorem xf{o:Ow}{D:Addr}{c:C}{ρ:ao}{σ:L2.St}{S:Sx}{acc:List V}{es:List Dt}{H:Hp}{P:List Dt×Sx->Prop}(fx:Jd Φ o D)(hn:CG Γ ρ σ D)(cs:zS Φ Γ o D ρ σ S acc es H)(hl:acc.length<sizeLine)
  (q:mR Φ.Ek ((ev F c ρ S).bind λy=>af (bO c y.1) (.ok ([y.1],y.2))) P) (Q:Hp->Prop) (fin:∀H5 r iN,P r->zS Φ Γ o D ρ σ r.2 iN (es++r.1) H5->bc (Yd o D) H H5->iN.length<=acc.length+1->Q H5):uS D (b8 Φ Γ F g.fr c) σ H Q:=by
 rw[ab]at q;refine⟨o,ρ,S,cs.er,ag q λy _ q v H5 eo5 er6=>?_⟩;obtain⟨gs,q⟩:=a8 q;have e5:bc (Yd o D) H H5:=eo5.ext.mono λb z=>.inl z
 have KO:H5 D=some (.lst acc):=eo5.ext.kp _ _ cs.at' fx.nd;have uA:∀b,Yd o D b->o.A b:=λb z=>z.elim (cs.er.da b) λq=>by rw[q];exact fx.oD
 have hv:RV Φ.K o.A H5 v y.1:=by
  unfold bO at gs;rw[QL]at gs;rcases gs with gs|gs
  ·exact eo5.dH (P7 gs)
  ·exact eo5.val.kY gs
 have up:bc (λb=>b=D) H5 (upd H5 D (.lst (acc++[v]))):=uW KO;refine⟨acc,KO,hl,fin _ ([y.1],y.2) (acc++[v]) q ⟨aQ,?_,er6.emit KO hn fx.oD fx.nd fx.h0⟩ (e5.trans (up.mono λb z=>.inr z)) (by simp)⟩;exact((cs.rv.mono e5 uA λ_ z=>z).append (aq.cons hv aq.nil)).mono up (λb z=>by rw[z];exact fx.oD) λ_ z=>z
theorem uV:2*lim<sizeLine:=by rw[T4];decide
theorem mD{sc:Scope}{o:Ow}{ρ:ao}{S:Sx}{σ:L2.St}{H:Hp}{D:Addr}(er:ER Φ Γ o ρ S σ H)(B:fM X sc (ba Γ sc).1.N (ba Γ sc).2)(jG:(Rx.ba Γ sc).1.N.Nodup)(hD:H D=none):
  Jd Φ (o.plus D) D/\CG (ba Γ sc).1 (jN (ba Γ sc).2 ρ) (c8 (ba Γ sc).2 σ) D/\zS Φ (ba Γ sc).1 (o.plus D) D (jN (ba Γ sc).2 ρ) (c8 (ba Γ sc).2 σ) S [] [] (upd H D (.lst [])):=by
 refine⟨⟨.inr rfl,λz=>?_,λx hx=>?_⟩,λj d hm h1 h2=>?_,⟨aQ,aq.nil,er.ba B jG hD⟩⟩
 ·obtain⟨y,hy⟩:=er.al D (er.da D z);rw[hD]at hy;cases hy
 ·by_cases hz:Φ.d0=some D
  ·exact hz
  ·have:=er.ent.kp D x hx hz;rw[hD]at this;cases this
 ·obtain⟨ii,hc,OJ⟩:=fX h1;obtain⟨w',k1,k2⟩:=er.val ii _ OJ;rw[<-jZ hc,TN hm]at k2;obtain⟨a',zQ,Kt,Fy,_⟩:=k2;rw[eN hc k1]at h2;cases h2;cases Kt;rw[hD]at Fy;cases Fy
theorem tf{sc:Scope}{o:Ow}{ρ:ao}{S S2:Sx}{σ:L2.St}{H H1 H2:Hp}{D:Addr}{acc:List V}{ds:List Dt}{c:C}(hc:lk c=0)(io:bc o.d H H1)(aI:ER Φ Γ o ρ S σ H1)(hD:H1 D=none){ρ2:ao}{σ2:L2.St}(cs:zS Φ (ba Γ sc).1 (o.plus D) D ρ2 σ2 S2 acc ds H2)(ex:bc (Yd (o.plus D) D) (upd H1 D (.lst [])) H2):
  EO Φ.K g.fr o c H (.lst ds) (.ref D) H2/\ER Φ Γ o ρ S2 σ H2:=by
 have zE:bc o.d H1 H2:=⟨λb x h n=>by
   have nb:b≠D:=λz=>by rw[z,hD]at h;cases h
   exact ex.kp b x (by rw[aJ nb];exact h) λz=>z.elim n nb,λb xs h=>by
   have nb:b≠D:=λz=>by rw[z,hD]at h;cases h
   exact ex.tp b xs (by rw[aJ nb];exact h)⟩
 have nA:¬o.A D:=λz=>by obtain⟨y,hy⟩:=aI.al D z;rw[hD]at hy;cases hy
 have dn:H D=none:=aI.e9 io hD;have v0:RV Φ.K o.A H2 (.ref D) (.lst ds):=RV.fH cs.at' nA (cs.rv.weak λb z=>.inl z);refine⟨⟨io.trans zE,v0.weak aI.iF,λ_=>v0,λ_=>v0.one,λ_ mG ed=>?_⟩,aI.step zE (λa ha=>cs.er.drw a ha) cs.er.drn⟩;cases ed;exact⟨D,acc,rfl,dn,cs.at',cs.rv.weak λb z=>z.elim (λz=>.inl (aI.iF b z)) .inr,λ_=>cs.rv⟩
theorem yW{sc:Scope}{tg:Expr}{it:mq}{t:Tg}{ts:Cs}{c:C}(hK:Φ.K=X.K)(B:fM X sc (ba Γ sc).1.N (ba Γ sc).2)(jG:(ba Γ sc).1.N.Nodup)(AE:ph (ba Γ sc).1 tg=some t){σ:L2.St}{H:Hp}{Q:VK}
  (q:b8 Φ Γ F g.fr (.comp (ba Γ sc).2 it t ts c) σ H Q):oP (ba Γ sc).2 (oR Φ Γ F it) (BD X.K t) (nh Φ (ba Γ sc).1 F ts) (λD=>uS D (b8 Φ (ba Γ sc).1 F g.fr c)) σ H Q:=by
 obtain⟨o,ρ,S,er,q⟩:=q;unfold ev at q;rw[ab]at q;refine⟨o,ρ,S,er,ag q λp _ q J H1 io aI D hD=>⟨kK (oS B AE),?_⟩⟩;obtain⟨g1,q⟩:=a8 q;rw[P5]at g1;have dF:=P7 g1.1;have wk:=(io.ND aI g1.2).plus hD;rw[ab]at q;have mJ:=uV;obtain⟨fx,hn,cs⟩:=mD (X:=X) aI B jG hD;rw[<-hK];refine sO (m:=1) (a0:=0) fx (λi hi=>(fu AE i hi).1) wk hn (λρ1 σ1 S1 acc es H2 P n1 hk c1 e1 hl _ q Q fin=>xf fx n1 c1 ⋯ q Q fin) cs (Tj _) q λH5 r iN q c5 e5 l5=>?_
 obtain⟨k1,k2⟩:=tf (g:=g) (c:=.comp (ba Γ sc).2 it t ts c) rfl io.ext aI hD c5 e5;exact q _ _ k1 k2
theorem uH{sc:Scope}{tg jz:Expr}{it g9:mq}{t t2:Tg}{ts FK:Cs}{c:C}(hK:Φ.K=X.K)(B:fM X sc (ba Γ sc).1.N (ba Γ sc).2)(jG:(ba Γ sc).1.N.Nodup)(AE:ph (ba Γ sc).1 tg=some t)(G8:ph (ba Γ sc).1 jz=some t2)(GV:∀i∈aY t2,i∉aY t){σ:L2.St}{H:Hp}{Q:VK}
  (q:b8 Φ Γ F g.fr (.g6 (ba Γ sc).2 it t ts g9 t2 FK c) σ H Q):oP (ba Γ sc).2 (oR Φ Γ F it) (BD X.K t) (nh Φ (ba Γ sc).1 F ts) (λD=>IM (oR Φ (ba Γ sc).1 F g9) (BD X.K t2) (nh Φ (ba Γ sc).1 F FK) (uS D (b8 Φ (ba Γ sc).1 F g.fr c))) σ H Q:=by
 obtain⟨o,ρ,S,er,q⟩:=q;unfold ev at q;rw[ab]at q;refine⟨o,ρ,S,er,ag q λp _ q J H1 io aI D hD=>⟨kK (oS B AE),?_⟩⟩;obtain⟨g1,q⟩:=a8 q;rw[P5]at g1;have dF:=P7 g1.1;have wk:=(io.ND aI g1.2).plus hD;rw[ab]at q;have mJ:=uV;obtain⟨fx,hn,cs⟩:=mD (X:=X) aI B jG hD;rw[<-hK];have hdiv:p.1.length*(lim/p.1.length)<=lim:=Nat.mul_div_le _ _;refine sO (m:=lim/p.1.length) (a0:=0) fx (λi hi=>(fu AE i hi).1) wk hn (λρ1 σ1 S1 acc es H2 P n1 hk c1 e1 hl G5 q Q fin=>?_) cs (Tj _) q λH5 r iN q c5 e5 l5=>?_
 ·refine⟨kK λi hi=>?_,?_⟩
  ·rw[(hk i (GV i hi)).1];exact oS B G8 i hi
  ·rw[ab]at q;refine⟨o.plus D,ρ1,S1,c1.er,ag q λx2 _ q J2 H3 io2 Gp=>?_⟩;obtain⟨g2,q⟩:=a8 q;rw[P5]at g2;have eU:=P7 g2.1;have uA:∀b,Yd (o.plus D) D b->(o.plus D).A b:=λb z=>z.elim (Gp.da b) λq=>.inr q
   have Pl:=(io2.w0 (P7 g2.2)).less uA;have e3:bc (Yd (o.plus D) D) H2 H3:=io2.ext.mono λb z=>.inl z
   have PJ:x2.1.length<=lim/p.1.length:=(Nat.le_div_iff_mul_le G5).mpr (by rw[Nat.mul_comm];exact eU);refine sO (m:=1) (a0:=acc.length) fx (λi hi=>(fu G8 i hi).1) Pl n1 (λρ2 σ2 S2 nF xo H4 P2 n2 hk2 c2 e2 hl _ q Q fin=>xf fx n2 c2 ⋯ q Q fin) ⟨io2.ext.kp _ _ c1.at' fx.nd,c1.rv.mono e3 uA λ_ z=>z,Gp⟩ (Qb _) q λH5 r iN q c5 e5 l5=>?_
   exact fin H5 r iN q c5 (e3.trans e5) ⋯
 ·obtain⟨k1,k2⟩:=tf (g:=g) (c:=.g6 (ba Γ sc).2 it t ts g9 t2 FK c) rfl io.ext aI hD c5 e5;exact q _ _ k1 k2
end
noncomputable def vo:Expr->Bool
 |.Starred ..=>false
 |.Slice ..=>false
 |.Set ..=>false
 |.Call (.Name _ _) [] _ _=>false
 |_=>true
theorem dD{e:Expr}(h:vo e=true)(es:List Expr)(env:Env):starEach (e::es) env=(false,eval e env)::starEach es env:=by cases e<;>first|rfl|(simp[vo]at h)
theorem GT{e:Expr}(h:vo e=true):nB e:=by intro o i;cases e<;>first|rfl|(simp[vo]at h)
theorem Aw{e:Expr}(h:vo e=true)(op:CmpOp):behindInMarks op e=false:=by cases e<;>first|rfl|(simp[vo]at h)
theorem iq{e:Expr}(h:vo e=true)(env:Env):∀x,foldedSetIterable e env x=pure x:=by intro x;cases e<;>first|rfl|(simp[vo]at h)
theorem cU{X:Cx}{Φ:Fm}{Γ:Gm}{F:FT}{e:Expr}{c:C}(h:∀ρ S,cO F c ρ S= .bad):PT X e (fQ Φ Γ F c):=λpins s σ H Q I q=>by obtain⟨o,ρ,S,er,q⟩:=q;rw[h]at q;exact q.elim
section
variable{g:G}{xv:Nat->Value}{CX:kn}{k:Nat}{F:FT}
structure NN(g:G)(F:FT)(n:Nat)(Γ:Gm)(X:Cx)(Φ:Fm):Prop where
 e:∀e c,cE n g Γ e=some c->PE X e (b8 Φ Γ F g.fr c)/\PT X e (fQ Φ Γ F c)/\vo e=true
 es:∀es cs,wN n g Γ es=some cs->PA X es (mf Φ Γ F cs)/\cs.len=es.length/\∀e∈es,vo e=true
 ts:∀es cs,Ak n g Γ es=some cs->BM X es (nh Φ Γ F cs)
 b:∀o es c pos,cB n g Γ o es=some c->PE X (.BoolOp o es pos) (b8 Φ Γ F g.fr c)/\PW X (.BoolOp o es pos) (fQ Φ Γ F c)
 i:∀tg e it,cI n g Γ tg e=some it->PI X tg e (oR Φ Γ F it)/\vo e=true
 c:∀f a as c p pos,tm n g Γ f a as=some c->PE X (.Call (.Name f p) (a::as) [] pos) (b8 Φ Γ F g.fr c)/\PT X (.Call (.Name f p) (a::as) [] pos) (fQ Φ Γ F c)
theorem o7{es:List Expr}{env:Env}{pos:Pos}(h:∀e∈es,vo e=true):(backTo pos (starEach es env)).any (·.1)=false:=by
 induction es with
 |nil=>rfl
 |cons e es ih=>rw[dD (h e Qc)];show (false||(backTo pos (starEach es env)).any (·.1))=false;rw[ih λe' z=>h e' (P9 _ z)];rfl
theorem rT{x y:Str}(h:(x==y)=false):x≠y:=λe=>by subst e;rw[TF]at h;cases h
theorem ff{x:Str}(h:fI x=true):(x==("__debug__":Str))=false/\(x==("__classdict__":Str))=false/\x≠"__name__":=by unfold fI at h;rw[P5,P5]at h;have h1:=h.1.1;have h2:=h.1.2;have h3:=h.2;rw[Q3]at h1 h2 h3;exact⟨h1,h2,rT h3⟩
noncomputable def Mv:C->Bool
 |.nt _|.and ..|.or ..|.cmp ..|.ch ..|.var _|.mvr _|.call ..|.callD ..|.bi ..|.idx ..=>true
 |_=>false
theorem bQ{F:FT}{c:C}{ρ:ao}{S:Sx}(h:Mv c=false):cO F c ρ S= .bad:=by cases c<;>first|rfl|cases h
theorem boot_divmod:bootBuiltins "divmod"=some (.builtin "divmod"):=by decide +kernel
theorem wL:∀t∈wK,EF t.2.2=true/\bootBuiltins t.1=some (Fw t.2.2):=by
 intro t ht;simp only[wK,Qi,Qj,T2]at ht;rcases ht with rfl|rfl|rfl|rfl|rfl|rfl|rfl|rfl|rfl|rfl|rfl
 ·exact⟨rfl,PySem.boot_len⟩
 ·exact⟨rfl,PyProof.Rows.boot_abs⟩
 ·exact⟨rfl,PyProof.Rows.boot_min⟩
 ·exact⟨rfl,PyProof.Rows.boot_max⟩
 ·exact⟨rfl,PyProof.Rows.boot_sum⟩
 ·exact⟨rfl,PyProof.Rows.boot_any⟩
 ·exact⟨rfl,PyProof.Rows.boot_max⟩
 ·exact⟨rfl,PyProof.Rows.boot_sorted⟩
 ·exact⟨rfl,PyProof.Rows.boot_tuple⟩
 ·exact⟨rfl,PyProof.Rows.boot_list⟩
 ·exact⟨rfl,boot_divmod⟩
theorem Af{x:Str}{n:Nat}{b:BI}(h:qY x n=some b):EF b=true/\bootBuiltins x=some (Fw b):=by unfold qY at h;obtain⟨t,h1,rfl⟩:=Ql.mp h;have hm:=List.mem_of_find?_eq_some h1;have hp:=List.find?_some h1;rw[P5]at hp;rw[<-Qt hp.1];exact wL t hm
theorem CY{b:BI}(h:EF b=true):(∃id,Fw b= .builtin id)\/∃T,Fw b= .type T:=by cases b<;>first|exact .inl ⟨_,rfl⟩|exact .inr ⟨_,rfl⟩|cases h
theorem nJ{x:Str}(h:g.bls.contains x=true):x∈g.bls:=by simpa using h
theorem Mc{X:Cx}{Φ:Fm}{Γ:Gm}{x:Str}{n:Nat}{b:BI}{a:Expr}{as:List Expr}{cs:Cs}{p pos:Pos}(hK:Φ.K=X.K)(gx:GX g Γ X)(hG:Gl X x)(hm:X.mg x=none)(hx:fI x=true)(hb:qY x n=some b)(hs:starEach (a::as) X.env=(false,eval a X.env)::starEach as X.env)(qO:(backTo pos (starEach as X.env)).any (·.1)=false)
  (ha:PA X (a::as) (mf Φ Γ F cs)):PE X (.Call (.Name x p) (a::as) [] pos) (b8 Φ Γ F g.fr (.bi b cs)):=by
 obtain⟨h1,h2⟩:=Af hb;obtain⟨n1,n2,n3⟩:=ff hx;have hc:=Ag (X:=X) b h1 gx.calm gx.un;rcases CY h1 with ⟨id,e⟩|⟨T,e⟩
 ·rw[e]at h2 hc;exact bD (qf hc hG hm h2 ha n3 n1 hs qO) λσ H Q q=>xx hK q
 ·rw[e]at h2 hc;exact bD (vJ hc hG hm h2 ha n3 n1 hs qO) λσ H Q q=>xx hK q
theorem rD{X:Cx}{Φ:Fm}{sc:Scope}{N':List Str}{C:Addr}{s:Shared}{H:Hp}{fp:List Addr}(hX:HX g xv CX k F Φ X):HX g xv CX k F Φ (gT X sc N' C s H fp (wb X sc N' (mn Φ xv) C s H fp)) where
 K:=hX.K
 P:=hX.P
 w:=hX.w
 fx:=hX.fx
 room:=hX.room
 cx:=hX.cx
 st:=BA hX.st
 xgx:=λe s' h=>Fp h
 xk:=hX.xk
theorem jg(n:Nat):∀(Γ:Gm)(X:Cx)(Φ:Fm),GX g Γ X->HX g xv CX k F Φ X->NN g F n Γ X Φ:=by
 induction n with
 |zero=>intro Γ X Φ gx hX;exact⟨λe c h=>by simp[cE]at h,λe c h=>by simp[wN]at h,λe c h=>by simp[Ak]at h,λo e c p h=>by simp[cB]at h,λo e c h=>by simp[cI]at h,λf a as c p q h=>by simp[tm]at h⟩
 |succ n ih=>
  intro Γ X Φ gx hX;have I:=ih Γ X Φ gx hX;have hK:=hX.K;have hu:=gx.un;refine⟨λe c h=>?_,λes cs h=>?_,λes cs h=>?_,λo es c pos h=>?_,λtg e it h=>?_,λf a as c p pos h=>?_⟩
  ·
   unfold cE at h;split at h
   ·split at h
    ·cases h;exact⟨qu rfl Ei,cU λρ S=>bQ rfl,rfl⟩
    ·cases h;exact⟨qu rfl Eo,cU λρ S=>bQ rfl,rfl⟩
    ·cases h;exact⟨qu rfl HJ,cU λρ S=>bQ rfl,rfl⟩
    ·cases h;exact⟨qu rfl El,cU λρ S=>bQ rfl,rfl⟩
    ·cases h
   ·
    rename_i x p;split at h
    ·rename_i i hi;obtain⟨v1,v2,v3⟩:=uK hi;obtain⟨n1,n2,n3⟩:=ff v2;have hv:PE X (.Name x p) (oQ i):=yH (by rw[gx.N];exact v3) (gx.vis x v1) n1 n2;split at h
     ·cases h
     rename_i hδκ;split at h
     ·rename_i hm;cases h;have:=Ik (Φ:=Φ) (F:=F) (fr:=g.fr) hv hm λz=>hδκ (by simp[z])
      exact⟨this,ka hK this (λ_=>rfl) (λρ S=>by rw[cO,ev];cases eS ρ i<;>rfl),rfl⟩
     ·rename_i hm;cases h;have:=Ir (Φ:=Φ) (F:=F) (fr:=g.fr) hv (by simpa using hm);exact⟨this,ka hK this (λ_=>rfl) (λρ S=>by rw[cO,ev];cases eS ρ i<;>rfl),rfl⟩
    ·split at h
     ·rename_i hg;rw[P5]at hg;obtain⟨d,h1,rfl⟩:=Ql.mp h;obtain⟨u,k1,k2,k3⟩:=gx.con x d h1;exact⟨qu k1 (Be (gx.gl x hg.1) k2 k3 (ff hg.2).1),cU λρ S=>bQ rfl,rfl⟩
     ·cases h
   ·obtain⟨a',h1,h⟩:=PZ.mp h;obtain⟨b',h2,h⟩:=PZ.mp h;cases h;exact⟨Ie hK (I.e _ _ h1).1 (I.e _ _ h2).1,cU λρ S=>bQ rfl,rfl⟩
   ·obtain⟨a',h1,h9⟩:=PZ.mp h;clear h;split at h9
    ·cases h9;exact⟨Il (I.e _ _ h1).1,cU λρ S=>bQ rfl,rfl⟩
    ·cases h9;exact⟨Md (I.e _ _ h1).1,Io (I.e _ _ h1).2.1,rfl⟩
    ·cases h9
   ·obtain⟨k1,k2⟩:=I.b _ _ _ _ h;exact⟨k1,k2.pt,rfl⟩
   ·split at h
    ·obtain⟨a',h1,h⟩:=PZ.mp h;obtain⟨b',h2,h⟩:=PZ.mp h;cases h;have hm:=Aw (I.e _ _ h2).2.2;exact⟨Ig hK hu (hm _) (I.e _ _ h1).1 (I.e _ _ h2).1,EM hK hu (hm _) (I.e _ _ h1).1 (I.e _ _ h2).1,rfl⟩
    ·cases h
   ·split at h
    ·obtain⟨a',h1,h⟩:=PZ.mp h;obtain⟨b',h2,h⟩:=PZ.mp h;cases h;exact⟨EU hK (I.e _ _ h1).1 (I.e _ _ h2).1,cU λρ S=>bQ rfl,rfl⟩
    ·obtain⟨a',h1,h⟩:=PZ.mp h;obtain⟨b',h2,h⟩:=PZ.mp h;cases h;exact⟨ET hK (I.e _ _ h1).1 (I.e _ _ h2).1,cU λρ S=>bQ rfl,rfl⟩
    ·obtain⟨a',h1,h⟩:=PZ.mp h;obtain⟨b',h2,h⟩:=PZ.mp h;cases h;have k1:=λpos=>Ih (pos:=pos) hK (GT (I.e _ _ h2).2.2) (I.e _ _ h1).1 (I.e _ _ h2).1
     refine⟨k1 _,ka hK (k1 _) (λ_=>rfl) (λρ S=>?_),rfl⟩;rw[cO,ev];cases ev F a' ρ S with
     |ok x=>
      simp only[R.ah];cases ev F b' ρ x.2 with
      |ok y=>simp only[R.ah];cases cu x.1 y.1<;>rfl
      |ex k=>rfl
      |bad=>rfl
     |ex k=>rfl
     |bad=>rfl
   ·obtain⟨fw,h1,h⟩:=PZ.mp h;cases h;exact⟨Iq (I.es _ _ h1).1,cU λρ S=>bQ rfl,rfl⟩
   ·obtain⟨fw,h1,h⟩:=PZ.mp h;cases h;exact⟨Ij (I.es _ _ h1).1,cU λρ S=>bQ rfl,rfl⟩
   ·split at h
    ·obtain⟨k1,k2⟩:=I.c _ _ _ _ _ _ h;exact⟨k1,k2,rfl⟩
    ·cases h
   ·
    rename_i elt gens sc pos;split at h
    ·rename_i hk;split at h
     ·rename_i tg it ifs;obtain⟨j3,h1,h⟩:=PZ.mp h;obtain⟨lL,h2,h⟩:=PZ.mp h;obtain⟨oU,h3,h⟩:=PZ.mp h;obtain⟨e',h4,h⟩:=PZ.mp h;split at h
      ·rename_i hb;cases h;rw[P5]at hb;have Dr:sc.kind= .function:=Qt hk;have B:=ra gx Dr hb.1;have jG:(ba Γ sc).1.N.Nodup:=P7 hb.2;have J:=λC s H fp=>ih (ba Γ sc).1 (gT X sc (ba Γ sc).1.N C s H fp (wb X sc (ba Γ sc).1.N (mn Φ xv) C s H fp)) Φ (fD gx B jG) (rD hX)
       refine⟨bD (qg (xb:=wb X sc (ba Γ sc).1.N (mn Φ xv)) (body:=λacc env=>ib elt acc env) gx.calm B (kl hX.st hX.xgx) (I.i _ _ _ h1).1 (λoY acc env=>qD ..) (λC s H fp=>qv (fD gx B jG) h2) (λC s H fp=>(J C s H fp).ts _ _ h3) (λC s H fp D=>j7 ((J C s H fp).e _ _ h4).1) (iq (I.i _ _ _ h1).2 _)) λσ H Q q=>yW hK B jG h2 q,cU λρ S=>bQ rfl,rfl⟩
      ·cases h
     ·rename_i tg it ifs jz g9 cC;obtain⟨j3,h1,h⟩:=PZ.mp h;obtain⟨lL,h2,h⟩:=PZ.mp h;obtain⟨oU,h3,h⟩:=PZ.mp h;obtain⟨pU,h5,h⟩:=PZ.mp h;obtain⟨lM,h6,h⟩:=PZ.mp h;obtain⟨qC,h7,h⟩:=PZ.mp h;obtain⟨e',h4,h⟩:=PZ.mp h;split at h
      ·rename_i hb;cases h;rw[P5,P5]at hb;have Dr:sc.kind= .function:=Qt hk;have B:=ra gx Dr hb.1.1;have jG:(ba Γ sc).1.N.Nodup:=P7 hb.1.2;have GV:∀i∈aY lM,i∉aY lL:=λi hi z=>by have:=QG.mp hb.2 i hi;simp[z]at this
       have J:=λC s H fp=>ih (ba Γ sc).1 (gT X sc (ba Γ sc).1.N C s H fp (wb X sc (ba Γ sc).1.N (mn Φ xv) C s H fp)) Φ (fD gx B jG) (rD hX)
       refine⟨bD (qg (xb:=wb X sc (ba Γ sc).1.N (mn Φ xv)) (body:=λacc env=>nextOf (.ListComp elt [⟨tg,it,ifs,0⟩,⟨jz,g9,cC,0⟩] sc pos) 1 g9 acc env) gx.calm B (kl hX.st hX.xgx) (I.i _ _ _ h1).1 (λoY acc env=>qE ..) (λC s H fp=>qv (fD gx B jG) h2) (λC s H fp=>(J C s H fp).ts _ _ h3)
        (λC s H fp D=>uv gx.calm (uu hX.st) ((J C s H fp).i _ _ _ h5).1 (qv (fD gx B jG) h6) ((J C s H fp).ts _ _ h7) (j7 ((J C s H fp).e _ _ h4).1) (iq ((J C s H fp).i _ _ _ h5).2 _)) (iq (I.i _ _ _ h1).2 _)) λσ H Q q=>uH hK B jG h2 h6 GV q,cU λρ S=>bQ rfl,rfl⟩
      ·cases h
     ·cases h
    ·cases h
   ·cases h
  ·
   unfold wN at h;split at h
   ·cases h;exact⟨Im,rfl,λe z=>by cases z⟩
   ·obtain⟨e',h1,h⟩:=PZ.mp h;obtain⟨fw,h2,h⟩:=PZ.mp h;cases h;obtain⟨k1,k2,k3⟩:=I.es _ _ h2;refine⟨EN (dD (I.e _ _ h1).2.2 _ _) (I.e _ _ h1).1 k1,by simp[Cs.len,k2],λe z=>?_⟩;rcases Qi.mp z with rfl|z
    ·exact(I.e _ _ h1).2.2
    ·exact k3 e z
  ·
   unfold Ak at h;split at h
   ·cases h;exact λpins s σ H Q I q=>Bo pins s σ H Q I (by obtain⟨o,ρ,S,er,q⟩:=q;rw[bh]at q;exact q _ bc.refl er)
   ·obtain⟨e',h1,h⟩:=PZ.mp h;cases h;refine λpins s σ H Q I' q=>Bp (I.e _ _ h1).2.1 pins s σ H Q I' ?_
    obtain⟨o,ρ,S,er,q⟩:=q;rw[bh]at q;exact⟨o,ρ,S,er,q⟩
   ·cases h
  ·
   unfold cB at h;split at h
   ·rename_i e;have k1:=(I.e _ _ h).1;have k2:=(I.e _ _ h).2.1;refine⟨En k1,?_⟩;cases o with
    |And=>exact Bq k2
    |Or=>exact EB k2
   ·rename_i e es cM;obtain⟨e',h1,h⟩:=PZ.mp h;obtain⟨fw,h2,h⟩:=PZ.mp h;cases h;cases es with
    |nil=>exact(cM rfl).elim
    |cons b rest=>
     obtain⟨k1,k2⟩:=I.b o _ _ pos h2;cases o with
     |And=>exact⟨Ic (I.e _ _ h1).1 k1,EL (I.e _ _ h1).2.1 k2⟩
     |Or=>exact⟨Me (I.e _ _ h1).1 k1,Ip (I.e _ _ h1).2.1 k2⟩
   ·cases h
  ·
   unfold cI at h;split at h
   ·rename_i f p a q;split at h
    ·rename_i hf;have ef:=Qt hf;subst ef;split at h
     ·rename_i hg;rw[P5]at hg;obtain⟨a',h1,h⟩:=PZ.mp h;cases h;exact⟨ES (gx.gl _ hg.1) (gx.bl _ (nJ hg.2)) (dD (I.e _ _ h1).2.2 [] _) (I.e _ _ h1).1,rfl⟩
     ·cases h
    ·obtain⟨c,h1,h⟩:=PZ.mp h;cases h;exact⟨yX hK (I.e _ _ h1).1,rfl⟩
   ·rename_i f p a b q;split at h
    ·rename_i hf;have ef:=Qt hf;subst ef;split at h
     ·cases h
     ·cases h
    split at h
    ·rename_i hf;have ef:=Qt hf;subst ef;split at h
     ·split at h
      ·rename_i hg;rw[P5]at hg;obtain⟨a',h1,h⟩:=PZ.mp h;obtain⟨b',h2,h⟩:=PZ.mp h;cases h;have e2:=dD (I.e _ _ h2).2.2 [] X.env;exact⟨Iu hK (gx.gl _ hg.1) (gx.bl _ (nJ hg.2)) (by rw[dD (I.e _ _ h1).2.2,e2];rfl) e2 (I.e _ _ h1).1 (I.e _ _ h2).1,rfl⟩
      ·cases h
     ·cases h
    ·obtain⟨c,h1,h⟩:=PZ.mp h;cases h;exact⟨yX hK (I.e _ _ h1).1,rfl⟩
   ·obtain⟨c,h1,h⟩:=PZ.mp h;cases h;exact⟨yX hK (I.e _ _ h1).1,(I.e _ _ h1).2.2⟩
  ·
   have tr:∀{c:C},(∀ρ S,cO F c ρ S=(ev F c ρ S).bind λx=>(d9 x.1).bind λb=>.ok (b,x.2))->PE X (.Call (.Name f p) (a::as) [] pos) (b8 Φ Γ F g.fr c)->PE X (.Call (.Name f p) (a::as) [] pos) (b8 Φ Γ F g.fr c)/\PT X (.Call (.Name f p) (a::as) [] pos) (fQ Φ Γ F c):=λhe h=>⟨h,ka hK h (λ_=>rfl) he⟩
   have ML:∀(b:BI)(cs:Cs)ρ S,cO F (.bi b cs) ρ S=(ev F (.bi b cs) ρ S).bind λx=>(d9 x.1).bind λb=>.ok (b,x.2):=λb cs ρ S=>by
    rw[cO,ev];cases ij F cs ρ S with
    |ok x=>simp only[R.ah];cases d6 b x.1<;>rfl
    |ex k=>rfl
    |bad=>rfl
   have NW:∀(f:Nat)(cs:Cs)(ds:List Dt)ρ S,cO F (.call f cs ds) ρ S=(ev F (.call f cs ds) ρ S).bind λx=>(d9 x.1).bind λb=>.ok (b,x.2):=λf cs ds ρ S=>by
    rw[cO,ev];cases ij F cs ρ S with
    |ok x=>simp only[R.ah];cases F f (x.1++ds) none<;>rfl
    |ex k=>rfl
    |bad=>rfl
   have Pq:∀(f:Nat)(cs:Cs)ρ S,cO F (.callD f cs) ρ S=(ev F (.callD f cs) ρ S).bind λx=>(d9 x.1).bind λb=>.ok (b,x.2):=λf cs ρ S=>by
    rw[cO,ev];cases S.isSome with
    |false=>rfl
    |true=>
     simp only[guard_true];cases ij F cs ρ S with
     |ok x=>
      simp only[R.ah];cases x.2 with
      |none=>rfl
      |some s=>rfl
     |ex k=>rfl
     |bad=>rfl
   unfold tm at h;split at h
   ·rename_i hg;rw[P5]at hg;have KQ:=gx.gl f hg.1;obtain⟨n1,n2,n3⟩:=ff hg.2;split at h
    ·rename_i kk np f7 bp xS;split at h
     ·
      rename_i hdp;have:bp=true:=hdp;subst this;split at h
      ·rename_i y yp;split at h
       ·rename_i i hi;split at h
        ·cases h
        ·cases h
       ·cases h
      ·cases h
     ·rename_i hdp;have:bp=false:=by simpa using hdp
      subst this;split at h
      ·rename_i hn;rw[P5]at hn;have a1:=P7 hn.1;have a2:=P7 hn.2;obtain⟨es,h1,h⟩:=PZ.mp h;cases h;obtain⟨k1,k2,k3⟩:=I.es _ _ h1;refine tr (NW _ _ _) (s_call hX KQ n1 xS (Nat.sub_le _ _) ?_ (dD (k3 a Qc) _ _) (o7 λe z=>k3 e (P9 _ z)) k1);rw[k2,R9,Qo]
       lia
      ·cases h
    ·split at h
     ·rename_i hbl;have hm:=gx.bl f (nJ hbl);split at h
      ·cases h
      split at h
      ·rename_i hisi;have ef:=Qt hisi;subst ef;split at h
       ·rename_i t tp hnl;split at h
        ·rename_i hg2;rw[P5]at hg2;obtain⟨T,h1,h⟩:=PZ.mp h;obtain⟨a',h2,h⟩:=PZ.mp h;cases h;have tn:t≠"__name__"/\(t==("__debug__":Str))=false:=by
          unfold sN at h1;split at h1
          ·rename_i e;rw[Qt e];exact⟨by decide,by decide⟩
          split at h1
          ·rename_i e;rw[Qt e];exact⟨by decide,by decide⟩
          split at h1
          ·rename_i e;rw[Qt e];exact⟨by decide,by decide⟩
          split at h1
          ·rename_i e;rw[Qt e];exact⟨by decide,by decide⟩
          split at h1
          ·rename_i e;rw[Qt e];exact⟨by decide,by decide⟩
          ·cases h1
         exact tr (ML _ _) (Ii hK KQ hm (gx.gl t hg2.1) (gx.bl t (nJ hg2.2)) h1 tn.1 tn.2 (dD (I.e _ _ h2).2.2 _ _) (I.e _ _ h2).1)
        ·cases h
       ·cases h
      ·have regular:∀{c:C},((qY f (as.length+1)).bind λi=>(wN n g Γ (a::as)).bind λes=>some (C.bi i es))=some c->PE X (.Call (.Name f p) (a::as) [] pos) (b8 Φ Γ F g.fr c)/\PT X (.Call (.Name f p) (a::as) [] pos) (fQ Φ Γ F c):=λ {c} h=>by obtain⟨b,h1,h⟩:=PZ.mp h;obtain⟨es,h2,h⟩:=PZ.mp h;cases h;obtain⟨k1,k2,k3⟩:=I.es _ _ h2;exact tr (ML _ _) (Mc hK gx KQ hm hg.2 h1 (dD (k3 a Qc) _ _) (o7 λe z=>k3 e (P9 _ z)) k1)
       split at h
       ·rename_i r rp b rq;split at h
        ·cases h
        split at h
        ·cases h
        ·exact regular h
       ·rename_i r rp b c rq zz;split at h
        ·cases h
        ·exact regular h
       ·exact regular h
     ·cases h
   ·cases h
end
structure OI(Φ:Fm)(W:Addr->Prop)(o:Ow):Prop where
 w:o.W=W
 d:∀a,Φ.d0=some a->o.dr=some a
structure SO(Φ:Fm)(Γ:Gm)(W:Addr->Prop)(o:Ow)(H:Hp)(ρ':ao)(S':Sx)(σ':L2.St)(H':Hp):Prop where
 ex:∃o',OI Φ W o'/\ER Φ Γ o' ρ' S' σ' H'/\∀b,o'.A b->o.A b\/H b=none
 ext:bc o.A H H'
 al:∀b x,H b=some x->∃y,H' b=some y
structure RO(Φ:Fm)(W:Addr->Prop)(fF:Bool)(d:Dt)(S':Sx)(v:V)(H':Hp):Prop where
 val:RV Φ.K W H' v d
 ent:bc (λb=>Φ.d0=some b) Φ.H0 H'
 drw:∀a,Φ.d0=some a->∃ns:List Int,S'=some ns/\H' a=some (.lst (ns.map V.int))
 jO:fF=true->∀ds,d= .lst ds->∃a xs,v= .ref a/\Φ.H0 a=none/\H' a=some (.lst xs)/\aq Φ.K (λb=>W b\/b=a) H' xs ds
noncomputable def cW(Φ:Fm)(Γ:Gm)(W:Addr->Prop)(fF:Bool)(o:Ow)(H:Hp)(D:Ends)(p:Fl×ao×Sx):Prop:=match p.1 with
 |.next=>∀σ' H',SO Φ Γ W o H p.2.1 p.2.2 σ' H'->D.nx σ' H'
 |.brk=>∀σ' H',SO Φ Γ W o H p.2.1 p.2.2 σ' H'->D.bk σ' H'
 |.cnt=>∀σ' H',SO Φ Γ W o H p.2.1 p.2.2 σ' H'->D.ct σ' H'
 |.ret d=>∀v H',RO Φ W fF d p.2.2 v H'->D.rt v H'
inductive kf(Φ:Fm)(Γ:Gm)(F:FT)(W:Addr->Prop)(fF:Bool)(t:T)(D:Ends)(σ:L2.St)(H:Hp):Prop
 |mk (o:Ow) (ρ:ao) (S:Sx) (i:OI Φ W o) (e:ER Φ Γ o ρ S σ H) (m:mR Φ.Ek (ex F t ρ S) (cW Φ Γ W fF o H D)):kf Φ Γ F W fF t D σ H
inductive jS(Φ:Fm)(Γ:Gm)(F:FT)(W:Addr->Prop)(fF:Bool)(t:Ts)(D:Ends)(σ:L2.St)(H:Hp):Prop
 |mk (o:Ow) (ρ:ao) (S:Sx) (i:OI Φ W o) (e:ER Φ Γ o ρ S σ H) (m:mR Φ.Ek (aV F t ρ S) (cW Φ Γ W fF o H D)):jS Φ Γ F W fF t D σ H
theorem bL{X:Cx}{e:Stmt}{t t':TS}(h:PS X e t)(hi:∀D σ H,t' D σ H->t D σ H):PS X e t':=λpins s σ H D I q=>h pins s σ H D I (hi D σ H q)
theorem uB{X:Cx}{e:List Stmt}{t t':TS}(h:uY X e t)(hi:∀D σ H,t' D σ H->t D σ H):uY X e t':=λpins s σ H D I q=>h pins s σ H D I (hi D σ H q)
section
variable{X:Cx}{Φ:Fm}{Γ:Gm}{F:FT}{g:G}{W:Addr->Prop}{fF:Bool}{o:Ow}{ρ:ao}{S:Sx}{σ:L2.St}{H H':Hp}
theorem ER.dA(er:ER Φ Γ o ρ S σ H){H1:Hp}(e:bc o.d H H1):bc o.A H H1:=e.mono er.da
theorem ER.Dc{S1:Sx}{ρ1:ao}{σ1:L2.St}{H1:Hp}(aI:ER Φ Γ o ρ1 S1 σ1 H1)(e:bc o.d H H1):∀b x,H b=some x->∃y,H1 b=some y:=λb x h=>e.al h λz=>aI.al b (aI.da b z)
theorem SO.gw{S':Sx}{ρ':ao}{σ':L2.St}(oi:OI Φ W o)(er:ER Φ Γ o ρ' S' σ' H')(e:bc o.d H H'):SO Φ Γ W o H ρ' S' σ' H':=⟨⟨o,oi,er,λb z=>.inl z⟩,e.mono er.da,er.Dc e⟩
theorem SO.go{o':Ow}{H1 H2:Hp}{ρ2:ao}{S2:Sx}{σ2:L2.St}(e:bc o.A H H1)(hA:∀b,o'.A b->o.A b\/H b=none)(v5:∀b x,H b=some x->∃y,H1 b=some y)(h:SO Φ Γ W o' H1 ρ2 S2 σ2 H2):SO Φ Γ W o H ρ2 S2 σ2 H2:=by
 obtain⟨⟨o2,JN,f9,GB⟩,e2,a2⟩:=h;refine⟨⟨o2,JN,f9,λb z=>?_⟩,⟨λb x h n=>?_,λb xs h=>e2.tp _ _ (e.tp _ _ h)⟩,λb x h=>?_⟩
 ·rcases GB b z with q|q
  ·exact hA b q
  ·refine .inr ?_;cases hb:H b with
   |none=>rfl
   |some x=>obtain⟨y,hy⟩:=v5 b x hb;rw[q]at hy;cases hy
 ·refine e2.kp _ _ (e.kp _ _ h n) λz=>?_
  rcases hA b z with q|q
  ·exact n q
  ·rw[h]at q;cases q
 ·obtain⟨y,hy⟩:=v5 b x h;exact a2 b y hy
theorem kc{fr:Nat->Bool}{c:C}{d:Dt}{v:V}{H1:Hp}(h:bO c d=true)(eo:EO Φ.K fr o c H d v H1):RV Φ.K o.A H1 v d:=by
 unfold bO at h;rw[QL]at h;rcases h with h|h
 ·exact eo.dH (P7 h)
 ·exact eo.val.kY h
theorem Cy{i:Nat}{c:C}{st:Stmt}(hp:plainS Γ i=true)(h:PS X st (oO (b8 Φ Γ F g.fr c) (eR i))):PS X st (kf Φ Γ F W fF (.asg i c)):=bL h λD σ H q=>by obtain⟨o,ρ,S,oi,er,q⟩:=q;unfold ex at q;rw[ab]at q;refine⟨o,ρ,S,er,ag q λp _ q v H1 eo aI=>?_⟩;obtain⟨gs,q⟩:=a8 q;exact q _ _ (SO.gw oi (aI.set hp (kc gs eo)) eo.ext)
theorem Fg{i:Nat}{c:C}{st:Stmt}(hp:plainS Γ i=true)(hf:fresh g.fr c=true)(h:PS X st (oO (b8 Φ Γ F g.fr c) (eR i))):PS X st (kf Φ Γ F W fF (.asgM i c)):=bL h λD σ H q=>by
 obtain⟨o,ρ,S,oi,er,q⟩:=q;unfold ex at q;rw[ab]at q;refine⟨o,ρ,S,er,ag q λp _ q v H1 eo aI=>?_⟩;obtain⟨gs,q⟩:=a8 q;have hv:RV Φ.K o.A H1 v p.1:=by
  by_cases hd:∃ds,p.1= .lst ds
  ·obtain⟨ds,hd⟩:=hd;obtain⟨a,xs,rfl,h1,h2,h3,h4⟩:=eo.jO hf ds hd;have na:¬o.A a:=λz=>by obtain⟨x,hx⟩:=er.al a z;rw[h1]at hx;cases hx
   rw[hd]at gs ⊢;refine RV.fH h2 na ?_;unfold lK at gs;rcases Q5.mp gs with z|z
   ·exact(h4 (P7 z)).weak λb w=>.inl w
   ·exact h3.iA z
  ·refine kc ?_ eo;unfold lK at gs;unfold bO;cases hq:p.1 with
   |lst ds=>exact absurd ⟨ds,hq⟩ hd
   |_=>rw[hq]at gs;exact gs
 exact q _ _ (SO.gw oi (aI.set hp hv) eo.ext)
theorem ER.own{S1:Sx}{H1:Hp}{fr:Nat->Bool}{c:C}{d:Dt}{v:V}{i:Nat}(oi:OI Φ W o)(er:ER Φ Γ o ρ S σ H)(aI:ER Φ Γ o ρ S1 σ H1)(hm:fU Γ i=true)(hδ:Γ.δ≠some i)(hf:fresh fr c=true)(hl:lK c d=true)(eo:EO Φ.K fr o c H d v H1):
  ∃o',OI Φ W o'/\ER Φ Γ o' (ρ.set i (some d)) S1 (σ.set i (some v)) H1/\∀b,o'.A b->o.A b\/H b=none:=by
 by_cases hd:∃ds,d= .lst ds
 ·obtain⟨ds,rfl⟩:=hd;obtain⟨a,xs,rfl,h1,h2,h3,h4⟩:=eo.jO hf ds rfl;have h4:aq Φ.K (λb=>o.A b\/b=a) H1 xs ds:=by
   unfold lK at hl;rcases Q5.mp hl with l|l
   ·exact h4 (P7 l)
   ·exact h3.iA l
  have nA:¬o.A a:=λz=>by obtain⟨y,hy⟩:=er.al a z;rw[h1]at hy;cases hy
  have h0:Φ.H0 a=none:=by
   cases q:Φ.H0 a with
   |none=>rfl
   |some x=>
    by_cases zI:Φ.d0=some a
    ·exact absurd (er.da a (oi.d a zI)) nA
    ·rw[er.ent.kp a x q zI]at h1;cases h1
  have av:∀b,(o.A b\/b=a)->o.A b\/H b=none:=λb z=>z.elim .inl λe=>.inr (by rw[e];exact h1)
  have dA:∀b,o.d b->(o.A b\/b=a):=λb z=>.inl (er.da b z)
  refine⟨⟨o.W,λb=>o.A b\/b=a,o.dr⟩,⟨oi.w,oi.d⟩,⟨?_,λb z=>.inl (er.wa b z),λb z=>.inl (er.da b z),λb z=>?_,λj e he=>?_,Dk.set er.dk rfl,λj j' b e e' m m' k1 k2 k3 k4=>?_,aI.drw,aI.drn,λj b hj hb=>?_,aI.dr0,aI.ent⟩,av⟩
  ·rw[Sf,Sf];exact er.len
  ·rcases z with z|z
   ·exact aI.al b z
   ·rw[z];exact⟨_,h2⟩
  ·by_cases hj:j=i
   ·subst hj;rw[R4]at he;simp only[TQ]at he;split at he
    ·rename_i cK;cases he;refine⟨.ref a,by rw[QQ (by rw[er.len];exact cK)],?_⟩;rw[TN hm];exact⟨a,xs,rfl,h2,.inr rfl,λz=>nA (er.wa a z),λz=>nA (er.da a z),h0,h4⟩
    ·cases he
   ·rw[Qn (Tn hj)]at he;obtain⟨w,k1,k2⟩:=er.val j e he;refine⟨w,by rw[Qn (Tn hj)];exact k1,?_⟩;by_cases hmj:fU Γ j=true
    ·rw[TN hmj]at k2 ⊢;cases e with
     |lst es=>obtain⟨b,ys,e1,e2,e3,e4,e5,e6,e7⟩:=k2;exact⟨b,ys,e1,eo.ext.kp _ _ e2 e5,.inl e3,e4,e5,e6,(e7.ck av).mono eo.ext dA λ_ z=>z⟩
     |gE=>exact k2.elim
     |_=>exact(RV.ck av k2).mono eo.ext dA λ_ z=>z
    ·rw[TM hmj]at k2 ⊢;exact(k2.ck av).mono eo.ext dA λ_ z=>z
  ·
   have other:∀{j:Nat}{e:List Dt}{b:Addr},j≠i->fU Γ j=true->(ρ.set i (some (.lst ds)))[j]?=some (some (.lst e))->(σ.set i (some (.ref a)))[j]?=some (some (.ref b))->b≠a/\ρ[j]?=some (some (.lst e))/\σ[j]?=some (some (.ref b)):=λ {j e b} hj m k1 k3=>by rw[Qn (Tn hj)]at k1 k3;obtain⟨w,n1,n2⟩:=er.val j _ k1;rw[TN m]at n2;obtain⟨b',ys,e1,e2,_⟩:=n2;rw[k3]at n1;cases n1;cases e1;refine⟨λz=>?_,k1,k3⟩;rw[z,h1]at e2;cases e2
   by_cases hj:j=i
   ·by_cases pO:j'=i
    ·rw[hj,pO]
    ·obtain⟨n,_,_⟩:=other pO m' k2 k4;subst hj;have cK:j<σ.length:=by have:=(P8.mp k3).1;rw[Sf]at this;exact this
     rw[QQ cK]at k3;cases k3;exact absurd rfl n
   ·obtain⟨n,p1,p2⟩:=other hj m k1 k3;by_cases pO:j'=i
    ·subst pO;have cK:j'<σ.length:=by have:=(P8.mp k4).1;rw[Sf]at this;exact this
     rw[QQ cK]at k4;cases k4;exact absurd rfl n
    ·obtain⟨_,p3,p4⟩:=other pO m' k2 k4;exact er.inj j j' b e e' m m' p1 p3 p2 p4
  ·rw[Qn (λz=>hδ (by rw[z];exact hj))];exact aI.drs j b hj hb
 ·
  have nl:∀e,d≠ .lst e:=λe z=>hd ⟨e,z⟩
  have hv:RV Φ.K o.A H1 v d:=by
   unfold lK at hl;rcases Q5.mp hl with l|l
   ·exact eo.dH (P7 l)
   ·cases d with
    |lst ds=>exact absurd rfl (nl ds)
    |_=>exact eo.val.kY l
  refine⟨o,oi,⟨?_,aI.wa,aI.da,aI.al,λj e he=>?_,Dk.set aI.dk hv.nd,λj j' b e e' m m' k1 k2 k3 k4=>?_,aI.drw,aI.drn,λj b hj hb=>?_,aI.dr0,aI.ent⟩,λb z=>.inl z⟩
  ·rw[Sf,Sf];exact er.len
  ·by_cases hj:j=i
   ·subst hj;rw[R4]at he;simp only[TQ]at he;split at he
    ·rename_i cK;cases he;refine⟨v,by rw[QQ (by rw[er.len];exact cK)],?_⟩;rw[TN hm];cases d with
     |lst ds=>exact absurd rfl (nl ds)
     |gE=>cases hv.nd
     |_=>exact hv
    ·cases he
   ·rw[Qn (Tn hj)]at he;obtain⟨w,k1,k2⟩:=aI.val j e he;exact⟨w,by rw[Qn (Tn hj)];exact k1,k2⟩
  ·have other:∀{j:Nat}{e:List Dt},(ρ.set i (some d))[j]?=some (some (.lst e))->j≠i:=λ {j e} k1 z=>by
    subst z;rw[R4]at k1;simp only[TQ]at k1;split at k1
    ·cases k1;exact nl e rfl
    ·cases k1
   have n1:=other k1;have n2:=other k2;rw[Qn (Tn n1)]at k1 k3;rw[Qn (Tn n2)]at k2 k4;exact aI.inj j j' b e e' m m' k1 k2 k3 k4
  ·rw[Qn (λz=>hδ (by rw[z];exact hj))];exact aI.drs j b hj hb
theorem Ff{i:Nat}{c:C}{st:Stmt}(hm:fU Γ i=true)(hδ:Γ.δ≠some i)(hf:fresh g.fr c=true)(h:PS X st (oO (b8 Φ Γ F g.fr c) (eR i))):PS X st (kf Φ Γ F W fF (.asgM i c)):=bL h λD σ H q=>by obtain⟨o,ρ,S,oi,er,q⟩:=q;unfold ex at q;rw[ab]at q;refine⟨o,ρ,S,er,ag q λp _ q v H1 eo aI=>?_⟩;obtain⟨gs,q⟩:=a8 q;exact q _ _ ⟨ER.own oi er aI hm hδ hf gs eo,er.dA eo.ext,aI.Dc eo.ext⟩
end
section
variable{X:Cx}{Φ:Fm}{Γ:Gm}{F:FT}{g:G}{W:Addr->Prop}{fF:Bool}{o:Ow}{ρ:ao}{S:Sx}{σ:L2.St}{H H':Hp}
theorem ox{Ek:Nat->Prop}{ρ:ao}{i:Nat}{P:List Dt->Prop}(h:mR Ek (l3 ρ i) P):∃ds,ρ[i]?=some (some (.lst ds))/\P ds:=by
 unfold l3 at h;split at h
 ·exact⟨_,by assumption,h⟩
 ·exact h.elim
theorem zp{a:Addr}{u:HO}:∀b x,H b=some x->∃y,upd H a u b=some y:=λb x h=>by
 by_cases z:b=a
 ·subst z;exact⟨_,aQ⟩
 ·exact⟨x,by rw[aJ z];exact h⟩
theorem t6{ρ:ao}{i:Nat}(h:isLE ρ i=true):∃ds,ρ[i]?=some (some (.lst ds)):=by
 unfold isLE at h;split at h
 ·exact⟨_,by assumption⟩
 ·cases h
theorem ER.chg{i:Nat}{a:Addr}{ds es:List Dt}{xs ys:List V}(er:ER Φ Γ o ρ S σ H)(hm:fU Γ i=true)(hr:ρ[i]?=some (some (.lst ds)))(hs:σ[i]?=some (some (.ref a)))(hx:H a=some (.lst xs))(hy:aq Φ.K o.A H ys es):
  ER Φ Γ o (ρ.set i (some (.lst es))) S σ (upd H a (.lst ys))/\bc o.A H (upd H a (.lst ys))/\∀b x,H b=some x->∃y,upd H a (.lst ys) b=some y:=by
 obtain⟨v,h1,h2⟩:=er.val i _ hr;rw[TN hm]at h2;rw[hs]at h1;cases h1;obtain⟨b,zs,e1,e2,e3,e4,e5,e6,e7⟩:=h2;cases e1;have up:bc (λb=>b=a) H (upd H a (.lst ys)):=⟨λb o h n=>by rw[aJ n];exact h,Mx.lN hx⟩;have sub:∀b,b=a->o.A b:=λb z=>by rw[z];exact e3
 refine⟨⟨by rw[Sf];exact er.len,er.wa,er.da,λb hb=>?_,λj d hd=>?_,Dk.set er.dk rfl,λj j' b d d' m m' k1 k2 k3 k4=>?_,λb hb=>?_,er.drn,er.drs,er.dr0,?_⟩,up.mono sub,zp⟩
 ·obtain⟨x,hx⟩:=er.al b hb;exact zp b x hx
 ·by_cases hj:j=i
  ·subst hj;rw[R4]at hd;simp only[TQ]at hd;split at hd
   ·cases hd;refine⟨.ref a,hs,?_⟩;rw[TN hm];exact⟨a,ys,rfl,aQ,e3,e4,e5,e6,hy.mono up sub λ_ z=>z⟩
   ·cases hd
  ·rw[Qn (Tn hj)]at hd;obtain⟨w,k1,k2⟩:=er.val j d hd;refine⟨w,k1,?_⟩;by_cases hmj:fU Γ j=true
   ·rw[TN hmj]at k2 ⊢;cases d with
    |lst dl=>obtain⟨b,Pn,n1,n2,n3,n4,n5,n6,n7⟩:=k2;refine⟨b,Pn,n1,up.kp _ _ n2 (λz=>?_),n3,n4,n5,n6,n7.mono up sub λ_ z=>z⟩;subst n1 z;exact hj (er.inj j i b dl ds hmj hm hd hr k1 hs)
    |gE=>exact k2.elim
    |_=>exact RV.mono up sub (λ_ z=>z) k2
   ·rw[TM hmj]at k2 ⊢;exact k2.mono up sub λ_ z=>z
 ·have same:∀{j:Nat}{d:List Dt},(ρ.set i (some (.lst es)))[j]?=some (some (.lst d))->∃d',ρ[j]?=some (some (.lst d')):=λ {j d} q=>by
   by_cases hj:j=i
   ·subst hj;exact⟨ds,hr⟩
   ·rw[Qn (Tn hj)]at q;exact⟨d,q⟩
  obtain⟨d1,q1⟩:=same k1;obtain⟨d2,q2⟩:=same k2;exact er.inj j j' b d1 d2 m m' q1 q2 k3 k4
 ·obtain⟨ns,n1,n2⟩:=er.drw b hb;exact⟨ns,n1,up.kp _ _ n2 λz=>e5 (by rw[<-z];exact hb)⟩
 ·refine⟨λb x h n=>up.kp _ _ (er.ent.kp b x h n) λz=>?_,λb xs h=>up.tp _ _ (er.ent.tp b xs h)⟩;subst z;rw[h]at e6;cases e6
theorem k8{i:Nat}{ds:List Dt}(er:ER Φ Γ o ρ S σ H)(hm:fU Γ i=true)(hr:ρ[i]?=some (some (.lst ds))):∃a xs,σ[i]?=some (some (.ref a))/\H a=some (.lst xs)/\aq Φ.K o.A H xs ds:=by obtain⟨v,h1,h2⟩:=er.val i _ hr;rw[TN hm]at h2;obtain⟨a,xs,e1,e2,e3,e4,e5,e6,e7⟩:=h2;subst e1;exact⟨a,xs,h1,e2,e7⟩
theorem IU{i:Nat}{c:C}{st:Stmt}(hm:fU Γ i=true)(h:PS X st (uR (NA X.K "list" uD (oQ i) (Cr (b8 Φ Γ F g.fr c) IK)))):PS X st (kf Φ Γ F W fF (.app i c)):=bL h λD σ H q=>by obtain⟨o,ρ,S,oi,er,q⟩:=q;unfold ex at q;obtain⟨gl,q⟩:=a8 q;obtain⟨ds,hr⟩:=t6 gl;obtain⟨a,xs,h1,h2,h3⟩:=k8 er hm hr;rw[ab]at q;refine⟨.ref a,h1,.inl ⟨rfl,_,dJ.of h2⟩,o,ρ,S,er,ag q λp _ q v H1 eo aI=>?_⟩;obtain⟨gs,q⟩:=a8 q;rw[ab]at q;obtain⟨mG,e1,q⟩:=ox q;rw[hr]at e1;cases e1;obtain⟨gl,q⟩:=a8 q;obtain⟨a',zQ,pI,pJ,GA⟩:=k8 aI hm hr;rw[h1]at pI;cases pI;have mJ:=eZ;have B7:=T4;have PH:lim=1000000:=rfl;have Jv:=P7 gl;refine⟨a,zQ,v,rfl,rfl,pJ,by rw[GA.length];lia,?_⟩;obtain⟨k1,k2,k3⟩:=aI.chg hm hr h1 pJ (GA.append (aq.cons (kc gs eo) aq.nil));exact q _ _ (SO.go (er.dA eo.ext) (λb z=>.inl z) (aI.Dc eo.ext) ⟨⟨o,oi,k1,λb z=>.inl z⟩,k2,k3⟩)
theorem IW{i:Nat}{st:Stmt}(hm:fU Γ i=true)(h:PS X st (uR (IF X.K "list" yQ (oQ i)))):PS X st (kf Φ Γ F W fF (.clr i)):=bL h λD σ H q=>by obtain⟨o,ρ,S,oi,er,q⟩:=q;unfold ex at q;rw[ab]at q;obtain⟨ds,hr,q⟩:=ox q;obtain⟨a,xs,h1,h2,h3⟩:=k8 er hm hr;obtain⟨k1,k2,k3⟩:=er.chg hm hr h1 h2 (aq.nil (K:=Φ.K) (A:=o.A));exact⟨.ref a,h1,.inl ⟨rfl,_,dJ.of h2⟩,a,xs,rfl,rfl,h2,q _ _ ⟨⟨o,oi,k1,λb z=>.inl z⟩,k2,k3⟩⟩
theorem Fo{i:Nat}{k v:C}{st:Stmt}(hm:fU Γ i=true)(h:PS X st (oO (b8 Φ Γ F g.fr v) (Gv (oQ i) (b8 Φ Γ F g.fr k) Cj))):PS X st (kf Φ Γ F W fF (.sr i k v)):=bL h λD σ H q=>by
 obtain⟨o,ρ,S,oi,er,q⟩:=q;unfold ex at q;obtain⟨gl,q⟩:=a8 q;obtain⟨ds,hr⟩:=t6 gl;obtain⟨a,xs,h1,h2,h3⟩:=k8 er hm hr;rw[ab]at q;refine⟨o,ρ,S,er,ag q λp _ q x H1 eo aI=>?_⟩;rw[ab]at q;refine⟨.ref a,h1,o,ρ,p.2,aI,ag q λp2 _ q y H2 eo2 f9=>?_⟩;obtain⟨gs,q⟩:=a8 q;rw[ab]at q;obtain⟨mG,e1,q⟩:=ox q;rw[hr]at e1;cases e1;obtain⟨a',zQ,pI,pJ,GA⟩:=k8 f9 hm hr;rw[h1]at pI;cases pI;cases hd:p2.1 with
 |int n=>
  rw[hd]at q eo2;simp only at q;cases hj:oo ds.length n with
  |none=>rw[hj]at q;exact q.elim
  |some j=>
   rw[hj]at q;have hx:RV Φ.K o.A H2 x p.1:=by
    unfold bO at gs;rw[QL]at gs;obtain⟨k1,k2,k3⟩:=eo.keep eo2.ext er.iF;rcases gs with gs|gs
    ·exact k2 (P7 gs)
    ·exact k1.kY gs
   refine⟨a,zQ,n,j,rfl,eo2.val.int_inv,pJ,by rw[GA.length];exact hj,?_⟩;obtain⟨k1,k2,k3⟩:=f9.chg hm hr h1 pJ (GA.set j hx);exact q _ _ (SO.go (er.dA (eo.ext.trans eo2.ext)) (λb z=>.inl z) (f9.Dc (eo.ext.trans eo2.ext)) ⟨⟨o,oi,k1,λb z=>.inl z⟩,k2,k3⟩)
 |_=>rw[hd]at q;exact q.elim
theorem IY{c:C}{st:Stmt}(h:PS X st (uR (b8 Φ Γ F g.fr c))):PS X st (kf Φ Γ F W fF (.Gh c)):=bL h λD σ H q=>by obtain⟨o,ρ,S,oi,er,q⟩:=q;unfold ex at q;rw[ab]at q;exact⟨o,ρ,S,er,ag q λp _ q v H1 eo aI=>q _ _ (SO.gw oi aI eo.ext)⟩
theorem Fh{is:List Nat}{c:C}{st:Stmt}(hK:Φ.K=X.K)(hp:∀i∈is,plainS Γ i=true)(h:PS X st (oO (b8 Φ Γ F g.fr c) (BD X.K (.tp is)))):PS X st (kf Φ Γ F W fF (.asgT is c)):=bL h λD σ H q=>by obtain⟨o,ρ,S,oi,er,q⟩:=q;unfold ex at q;rw[ab]at q;refine⟨o,ρ,S,er,ag q λp _ q v H1 eo aI=>?_⟩;obtain⟨gs,q⟩:=a8 q;rw[ab]at q;obtain⟨ρ1,hρ,q⟩:=kU (lE _ _ _) q;rw[<-hK];exact sE aI hp (kc gs eo) hρ λσ1 f9 _=>q _ _ (SO.gw oi f9 eo.ext)
theorem ER.h0{a:Addr}(oi:OI Φ W o)(er:ER Φ Γ o ρ S σ H)(h:H a=none):Φ.H0 a=none:=by
 cases q:Φ.H0 a with
 |none=>rfl
 |some x=>
  by_cases zI:Φ.d0=some a
  ·obtain⟨y,hy⟩:=er.al a (er.da a (oi.d a zI));rw[h]at hy;cases hy
  ·rw[er.ent.kp a x q zI]at h;cases h
theorem Cz{c:C}{st:Stmt}(hf:fF=true->fresh g.fr c=true)(h:PS X st (E4 (b8 Φ Γ F g.fr c))):PS X st (kf Φ Γ F W fF (.ret c)):=bL h λD σ H q=>by
 obtain⟨o,ρ,S,oi,er,q⟩:=q;unfold ex at q;rw[ab]at q;refine⟨o,ρ,S,er,ag q λp B5 q v H1 eo aI=>?_⟩;have hw:∀b,W b->o.wd b:=λb z=>.inl (by rw[oi.w];exact z)
 refine q _ _ ⟨eo.val.weak hw,aI.ent,λa ha=>aI.drw a (oi.d a ha),λhfF ds ed=>?_⟩;obtain⟨a,xs,h1,h2,h3,h4,_⟩:=eo.jO (hf hfF) ds ed;exact⟨a,xs,h1,er.h0 oi h2,h3,h4.weak λb z=>z.imp (hw b) id⟩
theorem Fj{i:Nat}{st:Stmt}(hm:fU Γ i=true)(hκ:Γ.κ≠some i)(h:PS X st (E4 (oQ i))):PS X st (kf Φ Γ F W fF (.ret (.mvr i))):=bL h λD σ H q=>by
 obtain⟨o,ρ,S,oi,er,q⟩:=q;unfold ex ev at q;rw[ab,ab]at q;obtain⟨d,hd,q⟩:=nY q;obtain⟨v,k1,k2⟩:=er.val i d hd;rw[TN hm]at k2;have hw:∀b,W b->o.wd b:=λb z=>.inl (by rw[oi.w];exact z)
 have OR:∀b,W b->o.A b:=λb z=>er.wa b (by rw[oi.w];exact z)
 refine⟨v,k1,q _ _ ⟨(k2.val (er.nd hd hκ) er.wa er.da).weak hw,er.ent,λa ha=>er.drw a (oi.d a ha),λhfF ds ed=>?_⟩⟩;simp only at ed;subst ed;obtain⟨a,xs,e1,e2,e3,e4,e5,e6,e7⟩:=k2;exact⟨a,xs,e1,e6,e2,e7.weak λb z=>z.elim (OR b) λy=>by rw[y];exact e3⟩
theorem Fk{st:Stmt}(h:PS X st Cu):PS X st (kf Φ Γ F W fF .retN):=bL h λD σ H q=>by obtain⟨o,ρ,S,oi,er,q⟩:=q;exact q _ _ ⟨RV.iz,er.ent,λa ha=>er.drw a (oi.d a ha),λ_ ds ed=>by cases ed⟩
theorem Fi{st:Stmt}(h:PS X st zg):PS X st (kf Φ Γ F W fF .pas):=bL h λD σ H q=>by obtain⟨o,ρ,S,oi,er,q⟩:=q;exact q _ _ (SO.gw oi er bc.refl)
theorem IV{st:Stmt}(h:PS X st zf):PS X st (kf Φ Γ F W fF .brk):=bL h λD σ H q=>by obtain⟨o,ρ,S,oi,er,q⟩:=q;exact q _ _ (SO.gw oi er bc.refl)
theorem IX{st:Stmt}(h:PS X st Ct):PS X st (kf Φ Γ F W fF .cnt):=bL h λD σ H q=>by obtain⟨o,ρ,S,oi,er,q⟩:=q;exact q _ _ (SO.gw oi er bc.refl)
theorem cW.go{o':Ow}{H1:Hp}{D D':Ends}{p:Fl×ao×Sx}(e:bc o.A H H1)(hA:∀b,o'.A b->o.A b\/H b=none)(v5:∀b x,H b=some x->∃y,H1 b=some y)
  (hn:∀σ' H',D.nx σ' H'->D'.nx σ' H') (hb:∀σ' H',D.bk σ' H'->D'.bk σ' H') (hc:∀σ' H',D.ct σ' H'->D'.ct σ' H') (hr:∀v H',D.rt v H'->D'.rt v H') (h:cW Φ Γ W fF o H D p):cW Φ Γ W fF o' H1 D' p:=by
 unfold cW at h ⊢;cases hp:p.1 with
 |next=>rw[hp]at h;exact λσ' H' so=>hn _ _ (h σ' H' (SO.go e hA v5 so))
 |brk=>rw[hp]at h;exact λσ' H' so=>hb _ _ (h σ' H' (SO.go e hA v5 so))
 |cnt=>rw[hp]at h;exact λσ' H' so=>hc _ _ (h σ' H' (SO.go e hA v5 so))
 |ret d=>rw[hp]at h;exact λv H' ro=>hr _ _ (h v H' ro)
theorem zA:uY X [] (jS Φ Γ F W fF .nil):=uB Bm λD σ H q=>by obtain⟨o,ρ,S,oi,er,q⟩:=q;exact q _ _ (SO.gw oi er bc.refl)
theorem BL{st:Stmt}{oN:List Stmt}{t:T}{ts:Ts}(h1:PS X st (kf Φ Γ F W fF t))(h2:uY X oN (jS Φ Γ F W fF ts)):uY X (st::oN) (jS Φ Γ F W fF (.cons t ts)):=uB (yN h1 h2) λD σ H q=>by
 obtain⟨o,ρ,S,oi,er,q⟩:=q;unfold aV at q;rw[ab]at q;refine⟨o,ρ,S,oi,er,ag q λp _ q=>?_⟩;unfold cW;cases hp:p.1 with
 |next=>rw[hp]at q;intro σ1 H1 so;obtain⟨⟨o1,LH,aI,KM⟩,e1,a1⟩:=so;exact⟨o1,p.2.1,p.2.2,LH,aI,ag q λp2 _ q=>cW.go e1 KM a1 (λ_ _ z=>z) (λ_ _ z=>z) (λ_ _ z=>z) (λ_ _ z=>z) q⟩
 |brk=>rw[hp]at q;exact q
 |cnt=>rw[hp]at q;exact q
 |ret d=>rw[hp]at q;exact q
theorem Ja{t:C}{a b:Ts}{st:Stmt}(h:PS X st (IJ (fQ Φ Γ F t) (jS Φ Γ F W fF a) (jS Φ Γ F W fF b))):PS X st (kf Φ Γ F W fF (.ifs t a b)):=bL h λD σ H q=>by
 obtain⟨o,ρ,S,oi,er,q⟩:=q;unfold ex at q;rw[ab]at q;refine⟨o,ρ,S,er,ag q λp _ q H1 e1 aI=>?_⟩;have go:∀{ts:Ts},mR Φ.Ek (aV F ts ρ p.2) (cW Φ Γ W fF o H D)->jS Φ Γ F W fF ts D σ H1:=λq=>⟨o,ρ,p.2,oi,aI,ag q λp2 _ q=>cW.go (er.dA e1) (λb z=>.inl z) (aI.Dc e1) (λ_ _ z=>z) (λ_ _ z=>z) (λ_ _ z=>z) (λ_ _ z=>z) q⟩
 cases hp:p.1 with
 |true=>rw[hp]at q;exact Hf (go q)
 |false=>rw[hp]at q;exact He (go q)
theorem IZ{tg:Tg}{it:mq}{b:Ts}{st:Stmt}(hK:Φ.K=X.K)(hp:∀i∈aY tg,plainS Γ i=true)(h:PS X st (IH (oR Φ Γ F it) (BD X.K tg) (jS Φ Γ F W fF b))):PS X st (kf Φ Γ F W fF (.fr tg it b)):=bL h λD σ H q=>by
 obtain⟨o,ρ,S,oi,er,q⟩:=q;unfold ex at q;rw[ab]at q;refine⟨o,ρ,S,er,ag q λp _ q J H1 io aI=>?_⟩;obtain⟨gs,q⟩:=a8 q;have wk:Wk Φ.K o.A o.A J H1 p.1:=(Q5.mp gs).elim (λz=>io.w0 (P7 z)) io.w2;refine⟨λi m σ2 H2=>m=p.1.length-i/\i<=p.1.length/\∃o2 ρ2 S2,OI Φ W o2/\ER Φ Γ o2 ρ2 S2 σ2 H2/\bc o.A H1 H2/\(∀b,o2.A b->o.A b\/H1 b=none)/\(∀b x,H1 b=some x->∃y,H2 b=some y)/\mR Φ.Ek (forL tg (aV F b) (p.1.drop i) ρ2 S2) (cW Φ Γ W fF o H D),
  ⟨_,rfl,Tj _,o,ρ,p.2,oi,aI,bc.refl,λb z=>.inl z,λb x hx=>⟨x,hx⟩,q⟩,?_⟩
 rintro i m σ2 H2 ⟨rfl,hi,o2,ρ2,S2,JN,f9,e2,GB,ME,q⟩;have eH:bc o.A H H2:=(er.dA io.ext).trans e2;have aH:∀b x,H b=some x->∃y,H2 b=some y:=λb x hx=>by obtain⟨y,hy⟩:=aI.Dc io.ext b x hx;exact ME b y hy
 have A1:∀b,o2.A b->o.A b\/H b=none:=λb z=>(GB b z).imp id λq=>by
  cases hb:H b with
  |none=>rfl
  |some x=>obtain⟨y,hy⟩:=aI.Dc io.ext b x hb;rw[q]at hy;cases hy
 by_cases cK:i<p.1.length
 ·refine .inr ⟨wk.go i H2 cK e2,?_⟩;have hd:∃d,p.1[i]?=some d:=⟨p.1[i],by simp[cK]⟩;obtain⟨d0,zI⟩:=hd;have Ku:p.1.drop i=d0::p.1.drop (i+1):=by rw[RJ cK];congr 1;exact(P8.mp zI).2
  rw[Ku]at q;unfold forL at q;rw[ab]at q;obtain⟨ρ3,hρ,q⟩:=kU (lE _ _ _) q;rw[ab]at q;refine⟨λσ3 H3=>i+1<=p.1.length/\∃o3 ρ3 S3,OI Φ W o3/\ER Φ Γ o3 ρ3 S3 σ3 H3/\bc o.A H1 H3/\(∀b,o3.A b->o.A b\/H1 b=none)/\(∀b x,H1 b=some x->∃y,H3 b=some y)/\mR Φ.Ek (forL tg (aV F b) (p.1.drop (i+1)) ρ3 S3) (cW Φ Γ W fF o H D),λσ3 H3 z=>⟨p.1.length-(i+1),by lia,rfl,z⟩,λx H3 y=>?_⟩;obtain⟨s3,d,hd,hx⟩:=wk.yld i x H2 H3 cK e2 y;rw[zI]at hd;cases hd;have ya:=hx o2.A GB;rw[<-hK];refine sE (f9.grow s3) hp ya hρ λσ4 Kz _=>?_
  refine⟨o2,ρ3,S2,JN,Kz,ag q λp2 _ q=>?_⟩;have again:∀{σ5:L2.St}{H5:Hp},SO Φ Γ W o2 H3 p2.2.1 p2.2.2 σ5 H5->mR Φ.Ek (forL tg (aV F b) (p.1.drop (i+1)) p2.2.1 p2.2.2) (cW Φ Γ W fF o H D)->i+1<=p.1.length/\∃o3 ρ3 S3,OI Φ W o3/\ER Φ Γ o3 ρ3 S3 σ5 H5/\bc o.A H1 H5/\(∀b,o3.A b->o.A b\/H1 b=none)/\(∀b x,H1 b=some x->∃y,H5 b=some y)/\mR Φ.Ek (forL tg (aV F b) (p.1.drop (i+1)) ρ3 S3) (cW Φ Γ W fF o H D):=λ {σ5 H5} so q=>by have Pd:=SO.go (o:=o) (H:=H1) (e2.trans (bc.of_same s3)) GB (λb x hx=>by obtain⟨y,hy⟩:=ME b x hx;exact⟨y,s3 _ _ hy⟩) so;obtain⟨⟨o5,O7,Jn,N8⟩,e5,a5⟩:=Pd;exact⟨cK,o5,_,_,O7,Jn,e5,N8,a5,q⟩
  unfold cW;cases fT:p2.1 with
  |next=>rw[fT]at q;exact λσ5 H5 so=>again so q
  |cnt=>rw[fT]at q;exact λσ5 H5 so=>again so q
  |brk=>rw[fT]at q;intro σ5 H5 so;have q:cW Φ Γ W fF o H D (.next,p2.2):=q;unfold cW at q;exact q σ5 H5 (SO.go (eH.trans (bc.of_same s3)) A1 (λb x hx=>by obtain⟨y,hy⟩:=aH b x hx;exact⟨y,s3 _ _ hy⟩) so)
  |ret d=>rw[fT]at q;have q:cW Φ Γ W fF o H D (.ret d,p2.2):=q;exact q
 ·have e:i=p.1.length:=⋯
  subst e;rw[List.drop_length]at q;have q:cW Φ Γ W fF o H D (.next,ρ2,S2):=q;unfold cW at q;exact .inl ⟨wk.stop H2 e2,q _ _ ⟨⟨o2,JN,f9,A1⟩,eH,aH⟩⟩
end
noncomputable def yd:Expr->Bool
 |.Tuple ..=>true
 |.List ..=>true
 |_=>false
noncomputable def kM:Expr->Bool
 |.ListComp ..=>true
 |.SetComp ..=>true
 |.DictComp ..=>true
 |_=>false
noncomputable def C3(n:Nat)(g:G)(Γ:Gm)(i:Nat)(e:Expr):Option T:=match e with
 |.Name y p=>match slot Γ y with
  |some j=>if fU Γ j then none else(cE n g Γ (.Name y p)).bind λc=>some (.asg i c)
  |none=>(cE n g Γ (.Name y p)).bind λc=>some (.asg i c)
 |e=>(cE n g Γ e).bind λc=>some (if fresh g.fr c&&lk c != 0 then .asgM i c else .asg i c)
noncomputable def C5(n:Nat)(g:G)(Γ:Gm)(fF:Bool)(e:Expr):Option T:=match e with
 |.Name y p=>match slot Γ y with
  |some j=>if fU Γ j then(if Γ.δ==some j||Γ.κ==some j then none else some (.ret (.mvr j))) else(cE n g Γ (.Name y p)).bind λc=>if fF then none else some (.ret c)
  |none=>(cE n g Γ (.Name y p)).bind λc=>if fF then none else some (.ret c)
 |e=>(cE n g Γ e).bind λc=>if !fF||fresh g.fr c then some (.ret c) else none
mutual
noncomputable def cS:Nat->G->Gm->Bool->Bool->Stmt->Option T
 |0,_,_,_,_,_=>none
 |n+1,g,Γ,dp,fF,st=>match st with
  |.Assign tgs e _=>match tgs with
   |[.Name x _]=>(hV Γ x).bind λi=>
     if Γ.δ==some i then none
     else if fU Γ i then(if Γ.κ==some i then none else(cE n g Γ e).bind λc=>if fresh g.fr c then some (.asgM i c) else none)
     else C3 n g Γ i e
   |[.Tuple es _ _]=>if yd e then none else(iy Γ es).bind λis=>(cE n g Γ e).bind λc=>some (.asgT is c)
   |[.Subscript (.Name x _) k _]=>(slot Γ x).bind λi=>if fU Γ i then(cE n g Γ e).bind λv'=>(cE n g Γ k).bind λk'=>if Γ.κ==some i then none else some (.sr i k' v') else none
   |_=>none
  |.Expr ex _=>match ex with
   |.Call (.Attribute (.Name x _) m ap) [a] [] cp=>(slot Γ x).bind λi=>if fU Γ i&&ap.endLine==cp.line then(cE n g Γ a).bind λa'=>
     (if m==("append":Str) then some (.app i a') else none) else none
   |.Call (.Attribute (.Name x _) m ap) [] [] cp=>(slot Γ x).bind λi=>if fU Γ i&&ap.endLine==cp.line&&m==("clear":Str) then some (.clr i) else none
   |e=>if kM e then none else(cE n g Γ e).bind λc=>some (.Gh c)
  |.Return (some e) _=>C5 n g Γ fF e
  |.Return none _=>some .retN
  |.If t a b _=>(cE n g Γ t).bind λt'=>(C6 n g Γ dp fF a).bind λa'=>(C6 n g Γ dp fF b).bind λb'=>some (.ifs t' a' b')
  |.For tg it b els _=>match els with
   |[]=>(cI n g Γ tg it).bind λj3=>(ph Γ tg).bind λlL=>(C6 n g Γ dp fF b).bind λb'=>some (.fr lL j3 b')
   |_=>none
  |.Raise _ _ _=>some (.rs 0 [])
  |.Break _=>some .brk
  |.Continue _=>some .cnt
  |.Pass _=>some .pas
  |_=>none
noncomputable def C6:Nat->G->Gm->Bool->Bool->List Stmt->Option Ts
 |0,_,_,_,_,_=>none
 |n+1,g,Γ,dp,fF,oN=>match oN with
  |[]=>some .nil
  |st::oN=>(cS n g Γ dp fF st).bind λt=>(C6 n g Γ dp fF oN).bind λts=>some (.cons t ts)
end
section
variable{g:G}{xv:Nat->Value}{CX:kn}{k:Nat}{F:FT}{X:Cx}{Φ:Fm}{Γ:Gm}{W:Addr->Prop}
theorem qB{e:Expr}(h:kM e=false)(t:Option Expr)(l:Nat)(env:Env):swapsWith e t l env=pure false:=by cases e<;>first|rfl|(simp[kM]at h)
theorem ng{e:Expr}{t:Expr}(ht:∀x p,t≠ .Name x p)(l:Nat)(env:Env):swapsWith e (some t) l env=pure false:=by cases e<;>first|rfl|(cases t<;>first|rfl|exact absurd rfl (ht _ _))
theorem pq{n:Nat}{elt:Expr}{gens:List Comprehension}{sc:Scope}{fZ:Pos}{c:C}(h:cE (n+1) g Γ (.ListComp elt gens sc fZ)=some c):sc.kind= .function/\wM sc.names Γ.names (ba Γ sc).1.N Γ.N (ba Γ sc).2=true/\(ba Γ sc).1.N.Nodup/\
  ((∃tg it ifs j3 lL oU e',gens=[⟨tg,it,ifs,0⟩]/\cI n g Γ tg it=some j3/\ph (ba Γ sc).1 tg=some lL/\Ak n g (ba Γ sc).1 ifs=some oU/\cE n g (ba Γ sc).1 elt=some e'/\c= .comp (ba Γ sc).2 j3 lL oU e')\/
   (∃tg it ifs jz g9 cC j3 lL oU pU lM qC e',gens=[⟨tg,it,ifs,0⟩,⟨jz,g9,cC,0⟩]/\cI n g Γ tg it=some j3/\ph (ba Γ sc).1 tg=some lL/\Ak n g (ba Γ sc).1 ifs=some oU/\cI n g (ba Γ sc).1 jz g9=some pU/\ph (ba Γ sc).1 jz=some lM/\Ak n g (ba Γ sc).1 cC=some qC/\cE n g (ba Γ sc).1 elt=some e'/\
   (∀i∈aY lM,i∉aY lL)/\c= .g6 (ba Γ sc).2 j3 lL oU pU lM qC e')):=by
 unfold cE at h;simp only at h;split at h
 ·rename_i hk;split at h
  ·rename_i tg it ifs;obtain⟨j3,h1,h⟩:=PZ.mp h;obtain⟨lL,h2,h⟩:=PZ.mp h;obtain⟨oU,h3,h⟩:=PZ.mp h;obtain⟨e',h4,h⟩:=PZ.mp h;split at h
   ·rename_i hb;cases h;rw[P5]at hb;exact⟨Qt hk,hb.1,P7 hb.2,.inl ⟨tg,it,ifs,j3,lL,oU,e',rfl,h1,h2,h3,h4,rfl⟩⟩
   ·cases h
  ·rename_i tg it ifs jz g9 cC;obtain⟨j3,h1,h⟩:=PZ.mp h;obtain⟨lL,h2,h⟩:=PZ.mp h;obtain⟨oU,h3,h⟩:=PZ.mp h;obtain⟨pU,h5,h⟩:=PZ.mp h;obtain⟨lM,h6,h⟩:=PZ.mp h;obtain⟨qC,h7,h⟩:=PZ.mp h;obtain⟨e',h4,h⟩:=PZ.mp h;split at h
   ·rename_i hb;cases h;rw[P5,P5]at hb;refine⟨Qt hk,hb.1.1,P7 hb.1.2,.inr ⟨tg,it,ifs,jz,g9,cC,j3,lL,oU,pU,lM,qC,e',rfl,h1,h2,h3,h5,h6,h7,h4,λi hi z=>?_,rfl⟩⟩;have:=QG.mp hb.2 i hi;simp[z]at this
   ·cases h
  ·cases h
 ·cases h
theorem je{n i:Nat}{x:Str}{e:Expr}{c:C}{pos' pos:Pos}(gx:GX g Γ X)(hX:HX g xv CX k F Φ X)(hs:hV Γ x=some i)(h:cE n g Γ e=some c):PS X (.Assign [.Name x pos'] e pos) (oO (b8 Φ Γ F g.fr c) (eR i)):=by
 have S:=jg (F:=F) n Γ X Φ gx hX;obtain⟨a1,a2,a3⟩:=lG hs;obtain⟨l1,l2⟩:=gx.loc x a1;have hN:X.N.Nodup:=gx.N▸gx.nd;have hi:X.N[i]?=some x:=by rw[gx.N];exact a3
 by_cases hc:kM e=true
 ·cases n with
  |zero=>simp[cE]at h
  |succ n=>
   cases e with
   |ListComp elt gens sc fZ=>
    have Og:=(S.e _ _ h).1;obtain⟨hk,hb,jG,GO⟩:=pq h;cases DC:(X.env.blockKind== .function&&X.env.kindOf x==some .local&&pos'.line==(Expr.ListComp elt gens sc fZ).pos.line&& !(sc.names.any λ(n,k)=>n==x&&(k== .local||k== .cell))) with
    |false=>exact yM hN hi l1 Og (by show pure (X.env.blockKind== .function&&X.env.kindOf x==some .local&&pos'.line==(Expr.ListComp elt gens sc fZ).pos.line&& !(sc.names.any λ(n,k)=>n==x&&(k== .local||k== .cell)))=_;rw[DC]) l2
    |true=>
     have hl:X.env.kindOf x=some .local:=by rw[P5,P5,P5]at DC;exact Qt DC.1.1.2
     have B:=ra gx hk hb;have S1:=jg (F:=F) n Γ X Φ gx hX;have J:=λC s H fp=>jg (F:=F) n (ba Γ sc).1 (gT X sc (ba Γ sc).1.N C s H fp (wb X sc (ba Γ sc).1.N (mn Φ xv) C s H fp)) Φ (fD gx B jG) (rD hX)
     rcases GO with ⟨tg,it,ifs,j3,lL,oU,e',rfl,h1,h2,h3,h4,rfl⟩|⟨tg,it,ifs,jz,g9,cC,j3,lL,oU,pU,lM,qC,e',rfl,h1,h2,h3,h5,h6,h7,h4,GV,rfl⟩
     ·refine bL (jJ (xb:=wb X sc (ba Γ sc).1.N (mn Φ xv)) (body:=λacc env=>ib elt acc env) (i:=i) gx.calm hN hi hl B (kl hX.st hX.xgx) (S1.i _ _ _ h1).1 (λoY acc env=>qD ..) (λC s H fp=>qv (fD gx B jG) h2) (λC s H fp=>(J C s H fp).ts _ _ h3) (λC s H fp D=>j7 ((J C s H fp).e _ _ h4).1) (iq (S1.i _ _ _ h1).2 _) ?_) λD σ H q=>yW hX.K B jG h2 q
      show pure (X.env.blockKind== .function&&X.env.kindOf x==some .local&&pos'.line==(Expr.ListComp elt [⟨tg,it,ifs,0⟩] sc fZ).pos.line&& !(sc.names.any λ(n,k)=>n==x&&(k== .local||k== .cell)))=_;rw[DC]
     ·refine bL (jJ (xb:=wb X sc (ba Γ sc).1.N (mn Φ xv)) (body:=λacc env=>nextOf (.ListComp elt [⟨tg,it,ifs,0⟩,⟨jz,g9,cC,0⟩] sc fZ) 1 g9 acc env) (i:=i) gx.calm hN hi hl B (kl hX.st hX.xgx) (S1.i _ _ _ h1).1 (λoY acc env=>qE ..) (λC s H fp=>qv (fD gx B jG) h2) (λC s H fp=>(J C s H fp).ts _ _ h3)
       (λC s H fp D=>uv gx.calm (uu hX.st) ((J C s H fp).i _ _ _ h5).1 (qv (fD gx B jG) h6) ((J C s H fp).ts _ _ h7) (j7 ((J C s H fp).e _ _ h4).1) (iq ((J C s H fp).i _ _ _ h5).2 _)) (iq (S1.i _ _ _ h1).2 _) ?_) λD σ H q=>uH hX.K B jG h2 h6 GV q
      show pure (X.env.blockKind== .function&&X.env.kindOf x==some .local&&pos'.line==(Expr.ListComp elt [⟨tg,it,ifs,0⟩,⟨jz,g9,cC,0⟩] sc fZ).pos.line&& !(sc.names.any λ(n,k)=>n==x&&(k== .local||k== .cell)))=_;rw[DC]
   |SetComp=>simp[cE]at h
   |DictComp=>simp[cE]at h
   |_=>simp[kM]at hc
 ·exact yM hN hi l1 (S.e _ _ h).1 (qB (by simpa using hc) _ _ _) l2
structure Ka(g:G)(F:FT)(n:Nat)(Γ:Gm)(X:Cx)(Φ:Fm)(W:Addr->Prop)(dp fF:Bool):Prop where
 s:∀st t,cS n g Γ dp fF st=some t->PS X st (kf Φ Γ F W fF t)
 ss:∀oN ts,C6 n g Γ dp fF oN=some ts->uY X oN (jS Φ Γ F W fF ts)
theorem oW{x:Str}{i:Nat}{p:Pos}(gx:GX g Γ X)(h:slot Γ x=some i):PE X (.Name x p) (oQ i):=by obtain⟨v1,v2,v3⟩:=uK h;obtain⟨n1,n2,n3⟩:=ff v2;exact yH (by rw[gx.N];exact v3) (gx.vis x v1) n1 n2
theorem CP{n i:Nat}{x:Str}{e:Expr}{t:T}{pos' pos:Pos}{fF:Bool}(gx:GX g Γ X)(hX:HX g xv CX k F Φ X)(hs:hV Γ x=some i)(hp:plainS Γ i=true)(h:C3 n g Γ i e=some t):PS X (.Assign [.Name x pos'] e pos) (kf Φ Γ F W fF t):=by
 have EF:∀{e:Expr}{t:T},((cE n g Γ e).bind λc=>some (T.asg i c))=some t->PS X (.Assign [.Name x pos'] e pos) (kf Φ Γ F W fF t):=λ {e t} h=>by obtain⟨c,h1,h⟩:=PZ.mp h;cases h;exact Cy hp (je gx hX hs h1)
 unfold C3 at h;split at h
 ·rename_i y p;split at h
  ·rename_i j hj;split at h
   ·cases h
   ·exact EF h
  ·exact EF h
 ·obtain⟨c,h1,h⟩:=PZ.mp h;cases h;split
  ·rename_i hf;rw[P5]at hf;exact Fg hp hf.1 (je gx hX hs h1)
  ·exact Cy hp (je gx hX hs h1)
theorem EG{n:Nat}{e:Expr}{t:T}{pos:Pos}{fF:Bool}(gx:GX g Γ X)(hX:HX g xv CX k F Φ X)(h:C5 n g Γ fF e=some t):PS X (.Return (some e) pos) (kf Φ Γ F W fF t):=by
 have S:=jg (F:=F) n Γ X Φ gx hX;have plain:∀{e:Expr}{t:T},((cE n g Γ e).bind λc=>if fF then none else some (T.ret c))=some t->PS X (.Return (some e) pos) (kf Φ Γ F W fF t):=λ {e t} h=>by
  obtain⟨c,h1,h⟩:=PZ.mp h;split at h
  ·cases h
  ·rename_i hf;cases h;exact Cz (λz=>absurd z hf) (sg (S.e _ _ h1).1)
 unfold C5 at h;split at h
 ·rename_i y p;split at h
  ·rename_i j hj;split at h
   ·rename_i hm;split at h
    ·cases h
    ·rename_i hk;cases h;exact Fj hm (λz=>hk (by simp[z])) (sg (oW gx hj))
   ·exact plain h
  ·exact plain h
 ·obtain⟨c,h1,h⟩:=PZ.mp h;split at h
  ·rename_i hf;cases h;refine Cz (λz=>?_) (sg (S.e _ _ h1).1);rw[z]at hf;simpa using hf
  ·cases h
theorem y8{dp fF:Bool}(n:Nat):∀(Γ:Gm)(X:Cx)(Φ:Fm),GX g Γ X->HX g xv CX k F Φ X->(dp=false->Φ.d0=none)->PassesOwn (model X.prog X.w) X.A X.env X.xe->Ka g F n Γ X Φ W dp fF:=by
 induction n with
 |zero=>intro Γ X Φ gx hX hd ho;exact⟨λst t h=>by simp[cS]at h,λst t h=>by simp[C6]at h⟩
 |succ n ih=>
  intro Γ X Φ gx hX hd ho;have I:=ih Γ X Φ gx hX hd ho;have S:=jg (F:=F) n Γ X Φ gx hX;have hK:=hX.K;refine⟨λst t h=>?_,λoN ts h=>?_⟩
  ·unfold cS at h;split at h
   ·split at h
    ·rename_i e pos x xp;obtain⟨i,hs,h⟩:=PZ.mp h;split at h
     ·cases h
     ·rename_i hδ;have hδ':Γ.δ≠some i:=λz=>hδ (by rw[z];exact TF _)
      split at h
      ·rename_i hm;split at h
       ·cases h
       obtain⟨c,h1,h⟩:=PZ.mp h;split at h
       ·rename_i hf;cases h;exact Ff hm hδ' hf (je gx hX hs h1)
       ·cases h
      ·rename_i hm;refine CP gx hX hs ?_ h;unfold plainS;rw[P5];exact⟨by simpa using hm,by simpa using hδ'⟩
    ·rename_i e pos tg0 es kk tp;split at h
     ·cases h
     ·rename_i hdisp;obtain⟨is,h1,h⟩:=PZ.mp h;obtain⟨c,h2,h⟩:=PZ.mp h;cases h;have AE:ph Γ (.Tuple es kk tp)=some (.tp is):=by rw[ph,h1];rfl
      refine Fh hK (λi hi=>(fu AE i hi).1) (yK (S.e _ _ h2).1 (qv gx AE) (show swapsWithSole [Expr.Tuple es kk tp] e pos.line X.env=pure false from ng (e:=e) (t:=Expr.Tuple es kk tp) (λx p z=>by cases z) pos.line X.env) ?_);cases e<;>first|rfl|(simp[yd]at hdisp)
    ·rename_i v pos tg0 x xp kx sp;obtain⟨i,hs,h⟩:=PZ.mp h;split at h
     ·rename_i hm;obtain⟨v',h1,h⟩:=PZ.mp h;obtain⟨k',h2,h⟩:=PZ.mp h;have Oy:=(S.e _ _ h2).2.2;split at h
      ·cases h
      ·cases h;refine Fo hm (yK (S.e _ _ h1).1 (Er (oW gx hs) (S.e _ _ h2).1 set_list (by intro _;cases kx<;>first|rfl|(simp[vo]at Oy))) (show swapsWithSole [Expr.Subscript (Expr.Name x xp) kx sp] v pos.line X.env=pure false from ng (e:=v) (t:=Expr.Subscript (Expr.Name x xp) kx sp) (λx p z=>by cases z) pos.line X.env) ?_);cases v<;>rfl
     ·cases h
    ·cases h
   ·split at h
    ·rename_i pos x xp m ap a cp;obtain⟨i,hs,h⟩:=PZ.mp h;split at h
     ·rename_i hm;rw[P5]at hm;obtain⟨a',h1,h9⟩:=PZ.mp h;clear h;have pT:=dD (S.e _ _ h1).2.2 [] X.env;split at h9
      ·rename_i hma;have em:=Qt hma;subst em;cases h9;exact IU hm.1 (oE (HK PySem.F.plainAttrs_list PySem.F.slot_list_append PySem.F.type_list_append mU (oW gx hs) (fJ (S.e _ _ h1).1 k9 pT) rfl (by rw[pT];rfl) hm.2 pT rfl))
      ·cases h9
     ·cases h
    ·rename_i pos x xp m ap cp;obtain⟨i,hs,h9⟩:=PZ.mp h;clear h;split at h9
     ·rename_i hm;rw[P5,P5]at hm;have em:=Qt hm.2;subst em;cases h9;exact IW hm.1.1 (oE (Eh PySem.F.plainAttrs_list PySem.F.slot_list_clear PySem.F.type_list_clear yv (oW gx hs) rfl hm.1.2))
     ·cases h9
    ·split at h
     ·cases h
     ·rename_i hc;obtain⟨c,h1,h⟩:=PZ.mp h;cases h;exact IY (oE (S.e _ _ h1).1 (qB (by simpa using hc) _ _ _))
   ·exact EG gx hX h
   ·cases h;exact Fk Bk
   ·obtain⟨t',h1,h⟩:=PZ.mp h;obtain⟨a',h2,h⟩:=PZ.mp h;obtain⟨b',h3,h⟩:=PZ.mp h;cases h;exact Ja (HU (S.e _ _ h1).2.1 (I.ss _ _ h2) (I.ss _ _ h3))
   ·split at h
    ·obtain⟨j3,h1,h⟩:=PZ.mp h;obtain⟨lL,h2,h⟩:=PZ.mp h;obtain⟨b',h3,h⟩:=PZ.mp h;cases h;exact IZ hK (λi hi=>(fu h2 i hi).1) (Ey ho gx.calm (S.i _ _ _ h1).1 (qv gx h2) (I.ss _ _ h3) (iq (S.i _ _ _ h1).2 _))
    ·cases h
   ·cases h;exact λpins s σ H D I q=>by obtain⟨o,ρ,S,oi,er,m⟩:=q;unfold ex at m;exact m.elim
   ·cases h;exact IV yL
   ·cases h;exact IX qo
   ·cases h;exact Fi Bj
   ·cases h
  ·unfold C6 at h;split at h
   ·cases h;exact zA
   ·obtain⟨t,h1,h⟩:=PZ.mp h;obtain⟨oU,h2,h⟩:=PZ.mp h;cases h;exact BL (I.s _ _ h1) (I.ss _ _ h2)
end
noncomputable def C4(n:Nat)(g:G)(Γ:Gm)(dp fF:Bool):List Stmt->Option Ts
 |[]=>some .nil
 |st::oN=>(cS n g Γ dp fF st).bind λt=>(C4 n g Γ dp fF oN).bind λts=>some (.cons t ts)
section
variable{g:G}{xv:Nat->Value}{CX:kn}{k:Nat}{F:FT}{X:Cx}{Φ:Fm}{Γ:Gm}{W:Addr->Prop}
theorem GX.eh{Γ:Gm}{X:Cx}{E:Value->Shared->Prop}(gx:GX g Γ X):GX g Γ (X.eh E):=⟨gx.N,gx.nd,gx.vis,gx.loc,gx.gl,gx.fre,gx.calm,gx.un,gx.con,gx.bl⟩
theorem lP{X:Cx}{E:Value->Shared->Prop}{E':XK}{e:Value}{s':Shared}(h:nE (X.eh E) E' e s'):nE X E' e s':=by cases h
theorem zx{X:Cx}{E:Value->Shared->Prop}{E':XK}{e:Value}{s':Shared}(h:nE X E' e s'):nE (X.eh E) E' e s':=by cases h
theorem zy{st:Stmt}{oN:List Stmt}{t:T}{ts:Ts}{fF:Bool}(h1:J9 X st (kf Φ Γ F W fF t))(h2:nz X oN (jS Φ Γ F W fF ts)):nz X (st::oN) (jS Φ Γ F W fF (.cons t ts)):=λs σ H D I q=>vM h1 h2 s σ H D I (by
 obtain⟨o,ρ,S,oi,er,q⟩:=q;unfold aV at q;rw[ab]at q;refine⟨o,ρ,S,oi,er,ag q λp _ q=>?_⟩;unfold cW;cases hp:p.1 with
 |next=>rw[hp]at q;intro σ1 H1 so;obtain⟨⟨o1,LH,aI,KM⟩,e1,a1⟩:=so;exact⟨o1,p.2.1,p.2.2,LH,aI,ag q λp2 _ q=>cW.go e1 KM a1 (λ_ _ z=>z) (λ_ _ z=>z) (λ_ _ z=>z) (λ_ _ z=>z) q⟩
 |brk=>rw[hp]at q;unfold mR cW at q;exact q
 |cnt=>rw[hp]at q;unfold mR cW at q;exact q
 |ret d=>rw[hp]at q;unfold mR cW at q;exact q)
theorem wJ{dp fF:Bool}{n:Nat}(La:X.env.scope.names=Γ.names)(gx:GX g Γ X)(hX:HX g xv CX k F Φ X)(hd:dp=false->Φ.d0=none)(own:PassesOwn (model X.prog X.w) X.A X.env X.xe):∀{oN:List Stmt}{ts:Ts},C4 n g Γ dp fF oN=some ts->nz X oN (jS Φ Γ F W fF ts)
 |[],ts,h=>by cases h;exact Bl zA
 |st::oN,ts,h=>by obtain⟨t,h1,h⟩:=PZ.mp h;obtain⟨oU,h2,h⟩:=PZ.mp h;cases h;refine zy ?_ (wJ La gx hX hd own h2);exact Ex ((y8 (dp:=dp) (fF:=fF) (W:=W) n Γ X Φ gx hX hd own).s _ _ h1)
theorem qp{X:Cx}{E:Value->Shared->Prop}{st:List Stmt}{t:TS}(h:nz (X.eh E) st t)(hx:∀e s',E e s'->X.xe e s'):nz X st t:=λs σ H D I hw=>
 Ua (h s σ H D (I.eh _) hw) (λ_ _ q=>q.gA) λe s' z=>hx e s' z
end
section
variable{P:Program}{w:World}{K:Frag}{mg:Str->Option Value}{base:Heap}{g:G}{xv:Nat->Value}{F:FT}{k:Nat}
structure MG(g:G)(mg:Str->Option Value):Prop where
 con:∀x d,g.cons.lookup x=some d->∃u,oZ d=true/\mg x=some u/\RelV (qP d) u
 bl:∀x∈g.bls,mg x=none
noncomputable def XG(g:G)(K:Frag)(mg:Str->Option Value)(xv:Nat->Value):Prop:=∀k x ts,g.xs[k]?=some (x,ts)->∃C,xv k= .ref C/\mg x=some (.ref C)/\Kd K mg C ts
noncomputable def vO(bp:Bool)(args:List Dt)(n ps:Nat):ao:=(if bp then[none] else[])++args.map some++List.replicate (n-ps) none
theorem lC{bp:Bool}{args:List Dt}{n ps i:Nat}{d:Dt}(h:(vO bp args n ps)[i]?=some (some d)):∃j,args[j]?=some d/\i=j+(if bp then 1 else 0):=by
 unfold vO at h;have tail:∀{i:Nat},(args.map some++List.replicate (n-ps) (none:Option Dt))[i]?=some (some d)->args[i]?=some d:=λ {i} h=>by
  by_cases hi:i<args.length
  ·rw[QM (by simpa using hi),Qp]at h;cases e:args[i]? with
   |none=>rw[e]at h;cases h
   |some a=>rw[e]at h;cases h;rfl
  ·rw[QN (by simpa using hi),R3]at h;split at h<;>cases h
 cases bp with
 |false=>simp only[Q1,TL,Sy]at h;exact⟨i,tail h,rfl⟩
 |true=>
  simp only[TQ,Qk]at h;cases i with
  |zero=>cases h
  |succ i=>have h:(args.map some++List.replicate (n-ps) (none:Option Dt))[i]?=some (some d):=h;exact⟨i,tail h,rfl⟩
theorem mZ{N:List Str}{vs:List V}{i:Nat}{v:V}(h:vs[i]?=some v):(start N vs)[i]?=some (some v):=by unfold L2.start;have hi:=(P8.mp h).1;rw[QM (by simpa using hi),Qp,h];rfl
theorem xm{M:List Bool}{δ:Option Nat}{names:List (Str×NameKind)}{N:List Str}{np:Nat}{bp:Bool}{vs v9:List V}{H:Hp}{W:Addr->Prop}{dr:Option Addr}{args:List Dt}{S:Sx}{Ek:Nat->Prop}{κ:Option Nat}{P:Program}{w:World}
  (hM:∀i,i<np->M[i]?≠some true) (hδ:bp=true->δ=some 0) (PK:np<=N.length) (hl:vs.length=np)
  (hd:if bp=true then∃(a:Addr)(ns:List Int),vs= .ref a::v9/\dr=some a/\W a/\S=some ns/\H a=some (.lst (ns.map V.int)) else vs=v9/\dr=none/\S=none)
  (ha:aq K W H v9 args) (hw:∀a,W a->∃x,H a=some x):ER ⟨K,H,dr,Ek,P,w⟩ ⟨names,N,M,δ,κ⟩ ⟨W,W,dr⟩ (vO bp args N.length np) S (start N vs) H/\args.length+(if bp then 1 else 0)=np:=by
 have tS:=ha.length;have GI:args.length+(if bp then 1 else 0)=np:=by
  cases bp with
  |false=>
   simp only[Q1,TL]at hd ⊢;obtain⟨e,_,_⟩:=hd;subst e
   lia
  |true=>
   simp only[TQ]at hd ⊢;obtain⟨a,ns,e,_⟩:=hd;rw[e]at hl;simp at hl
   lia
 refine⟨⟨?_,λa z=>z,λa z=>?_,hw,λi d h=>?_,λi ks vs h=>?_,λi j a d e hm hm' h1 h2 _ _=>?_,λa z=>?_,λz=>?_,λi a hi z=>?_,λa z=>.inl z,bc.refl⟩,GI⟩
 ·unfold L2.start vO;simp only[Qm,Qf,Se];cases bp<;>simp at GI ⊢<;>lia
 ·cases bp with
  |false=>simp only[Q1,TL]at hd;rw[hd.2.1]at z;cases z
  |true=>simp only[TQ]at hd;obtain⟨b,ns,_,e,hb,_⟩:=hd;rw[e]at z;cases z;exact hb
 ·obtain⟨j,hj,rfl⟩:=lC h;obtain⟨v,h1,h2⟩:=ha.getD hj;have K5:=(P8.mp hj).1;have hm:fU ⟨names,N,M,δ,κ⟩ (j+if bp=true then 1 else 0)=false:=by unfold fU;have:=hM (j+if bp=true then 1 else 0) ⋯;simpa using this
  refine⟨v,mZ ?_,?_⟩
  ·cases bp with
   |false=>simp only[Q1,TL]at hd ⊢;rw[hd.1];exact h1
   |true=>simp only[TQ]at hd ⊢;obtain⟨b,ns,e,_⟩:=hd;rw[e];simpa using h1
  ·rw[hm,TM (by simp)];exact h2
 ·obtain⟨j,hj,rfl⟩:=lC h;obtain⟨v,h1,h2⟩:=ha.getD hj;cases h2.nd
 ·obtain⟨j1,hj,rfl⟩:=lC h1;have K5:=(P8.mp hj).1;exfalso;unfold fU at hm;exact hM (j1+if bp=true then 1 else 0) ⋯ (Qt hm)
 ·cases bp with
  |false=>simp only[Q1,TL]at hd;rw[hd.2.1]at z;cases z
  |true=>simp only[TQ]at hd;obtain⟨b,ns,_,e,_,e2,e3⟩:=hd;rw[e]at z;cases z;exact⟨ns,e2,e3⟩
 ·cases bp with
  |false=>simp only[Q1,TL]at hd;exact hd.2.2
  |true=>simp only[TQ]at hd;obtain⟨b,ns,_,e,_⟩:=hd;rw[e]at z;cases z
 ·cases bp with
  |false=>simp only[Q1,TL]at hd;rw[hd.2.1]at z;cases z
  |true=>simp only[TQ]at hd;obtain⟨b,ns,e1,e,_⟩:=hd;rw[e]at z;cases z;have hi:δ=some i:=hi;rw[hδ rfl]at hi;cases hi;exact mZ (by rw[e1];rfl)
theorem Gz{CX:kn}{N ps:List Str}{sc:Scope}{M:List Bool}{δ κ:Option Nat}{qual:Str}{f:Addr}{fR:Value}{A:Around}{outer:List Env}{s:Shared}{H:Hp}{E:XK}(m:MG g mg)(S:fy N ps sc)(hr:iJ k (A.deeper (envOfC qual sc s.heap.objs.size f fR))):
  GX g ⟨sc.names,N,M,δ,κ⟩ (px CX P w K mg base N qual sc f fR A outer s H E) where
 N:=rfl
 nd:=S.nd
 vis:=λx h=>by
  have h:zq (sc.names.lookup x)=true:=h;show FW sc x;unfold FW;cases hl:sc.names.lookup x with
  |none=>rw[hl]at h;cases h
  |some kk=>
   rw[hl]at h;cases kk with
   |«local»=>exact .inl rfl
   |cell=>exact .inr (.inl rfl)
   |free=>exact .inr (.inr rfl)
   |globalExplicit=>cases h
   |globalImplicit=>cases h
 loc:=λx h=>by
  have h:yk (sc.names.lookup x)=true:=h;refine⟨?_,.inl rfl⟩;show L2.Loc sc x;unfold L2.Loc;cases hl:sc.names.lookup x with
  |none=>rw[hl]at h;cases h
  |some kk=>
   rw[hl]at h;cases kk with
   |«local»=>exact .inl rfl
   |cell=>exact .inr rfl
   |free=>cases h
   |globalExplicit=>cases h
   |globalImplicit=>cases h
 gl:=λx h=>by
  have h:B1 (sc.names.lookup x)=true:=h;show sc.names.lookup x=_;cases hl:sc.names.lookup x with
  |none=>rw[hl]at h;cases h
  |some kk=>
   rw[hl]at h;cases kk with
   |globalImplicit=>rfl
   |«local»=>cases h
   |cell=>cases h
   |free=>cases h
   |globalExplicit=>cases h
 fre:=λx h=>h
 calm:=rfl
 un:=by have:=hr.un;show (A.deeper (envOfC qual sc s.heap.objs.size f fR)).units+150<cLine;lia
 con:=m.con
 bl:=m.bl
theorem mH{name qual:Str}{params:Arguments}{body:List Stmt}{scope:Scope}{dV kV doc pm fR ct oc:Value}{an od:Option Addr}{uq:Array (Option Value)}{f:Addr}{N ps:List Str}{M:List Bool}{δ κ:Option Nat}{bp fF:Bool}{n m:Nat}{ts:Ts}
  (lk:K.lookup f=some ⟨oc,od,.func (PySem.W.fnOf name qual params body scope dV kV doc pm an fR ct),uq⟩) (zG:PySem.W.codeIn K fR qual=true) (S:fy N ps scope) (hm:MG g mg) (AG:XG g K mg xv) (fx:FX g xv (vZ P w) P w K mg base m k F)
  (hM:∀i,i<ps.length->M[i]?≠some true) (hδ:bp=true->δ=some 0) (hc:C4 n g ⟨scope.names,N,M,δ,κ⟩ bp fF body=some ts):
  ji P w K mg base (vZ P w) (k+1) f (PySem.W.fnOf name qual params body scope dV kV doc pm an fR ct) ps (Nw K xv (hJ F ⟨ps.length,N.length,bp,ts⟩) ps.length fF bp):=by
 have qO:ps.length<=N.length:=by have:=TJ List.length S.pre;rw[Sh]at this;lia
 refine Dh lk zG S (λvs H Q E h=>h.1) λA outer s H vs Q E hr h=>?_
 obtain⟨hl,W,dr,args,S0,v9,hd,ha,hw,h⟩:=h;have er:=xm (K:=K) (names:=scope.names) (N:=N) (κ:=κ) (P:=P) (w:=w) (Ek:=λkk=>∀H',bc (λb=>dr=some b) H H'->E (xv kk) none H') hM hδ qO hl hd ha hw;obtain⟨er,v5⟩:=er;generalize hXX:px (vZ P w) P w K mg base N qual scope f fR A outer s H E=X;generalize hΦ:(⟨K,H,dr,λkk=>∀H',bc (λb=>dr=some b) H H'->E (xv kk) none H',P,w⟩:Fm)=Φ at er;have hΦE:∀v a H',mn Φ xv v a H'->E v none H':=λv a H' z=>by obtain⟨kk,rfl,z1,z2⟩:=z;subst hΦ;exact z1 H' z2
 have Pk:∀e s',nE X (mn Φ xv) e s'->X.xe e s':=λe s' z=>by subst hXX;cases z
 have st:iL X:=by subst hXX;exact E1
 have gx:GX g ⟨scope.names,N,M,δ,κ⟩ X:=by subst hXX;exact Gz (P:=P) (w:=w) (K:=K) (base:=base) (CX:=vZ P w) (M:=M) (δ:=δ) (outer:=outer) (H:=H) (E:=E) hm S hr
 have Nz:iL (X.eh (nE X (mn Φ xv))):=⟨st.pn,st.st⟩;have hX:HX g xv (vZ P w) k F Φ (X.eh (nE X (mn Φ xv))):=by
  refine⟨?_,?_,?_,⟨m,?_⟩,?_,?_,Nz,λe s' z=>lP z,?_⟩
  ·subst hΦ hXX;rfl
  ·subst hΦ hXX;rfl
  ·subst hΦ hXX;rfl
  ·subst hXX;exact fx
  ·subst hXX;exact hr
  ·subst hXX;rfl
  ·subst hXX;exact AG
 have own:PassesOwn (model (X.eh (nE X (mn Φ xv))).prog (X.eh (nE X (mn Φ xv))).w) (X.eh (nE X (mn Φ xv))).A (X.eh (nE X (mn Φ xv))).env (X.eh (nE X (mn Φ xv))).xe:=BK (E:=mn Φ xv) Nz (λe s' z=>lP z) λe s' z=>zx z
 have d0:Φ.d0=dr:=by subst hΦ;rfl
 have SS:=wJ (dp:=bp) (fF:=fF) (W:=W) (n:=n) (Γ:=⟨scope.names,N,M,δ,κ⟩) (by subst hXX;rfl) gx.eh hX (λz=>by
  rw[d0];subst z;simp only[Q1,TL]at hd;exact hd.2.1) own hc
 refine⟨_,qp SS Pk,⟨W,W,dr⟩,_,S0,⟨rfl,λa z=>by rw[d0]at z;exact z⟩,er,?_⟩;subst hΦ;unfold hJ at h;simp only at h;rw[TN v5]at h;have h:(match (aV F ts (vO bp args N.length ps.length) S0).bind (λp=>match p.1 with
   |.next=>R.ok (Dt.aW,p.2.2)
   |.ret d=>R.ok (d,p.2.2)
   |_=>R.bad) with
  |.ok p=>∀v H',FO K W dr fF H p.1 p.2 v H'->Q v H'
  |.ex kk=>∀H',bc (λb=>dr=some b) H H'->E (xv kk) none H'
  |.bad=>False):=h
 cases he:aV F ts (vO bp args N.length ps.length) S0 with
 |ok p=>
  rw[he]at h;simp only[R.ah]at h;show cW _ _ _ _ _ _ _ p;unfold cW;cases hp:p.1 with
  |next=>rw[hp]at h;intro σ' H' so;obtain⟨o',oi,De,_⟩:=so.ex;exact h _ _ ⟨De.ent,RV.iz,λa z=>De.drw a (oi.d a z),λ_ ds e=>by cases e⟩
  |ret d=>rw[hp]at h;intro v H' ro;exact h _ _ ⟨ro.ent,ro.val,ro.drw,ro.jO⟩
  |brk=>rw[hp]at h;exact h.elim
  |cnt=>rw[hp]at h;exact h.elim
 |ex kk=>rw[he]at h;exact h
 |bad=>rw[he]at h;exact h.elim
end
structure wc(g:G)(K:Frag)(mg:Str->Option Value)(e:Str×Nat×List Dt×Bool)(idx:Nat)(fn:Fn):Prop where
 ex:∃(fa:Addr)(ps N:List Str)(M:List Bool)(δ κ:Option Nat)(n:Nat)(oc:Value)(od an:Option Addr)(uq:Array (Option Value))(params:Arguments)(body:List Stmt)(scope:Scope)(dV kV doc pm fR ct:Value),
  K.lookup fa=some ⟨oc,od,.func (PySem.W.fnOf e.1 e.1 params body scope dV kV doc pm an fR ct),uq⟩/\PySem.W.codeIn K fR e.1=true/\PySem.W.keepIn K (.ref fa)=true/\mg e.1=some (.ref fa)/\fy N ps scope/\(∀i,i<ps.length->M[i]?≠some true)/\
  (e.2.2.2=true->δ=some 0)/\ps.length=e.2.1/\C4 n g ⟨scope.names,N,M,δ,κ⟩ e.2.2.2 (g.fr idx) body=some fn.body/\fn.ps=ps.length/\fn.n=N.length/\fn.bp=e.2.2.2/\
  (∀j,j<=e.2.2.1.length->∃ds,au ((e.2.2.1.drop j).map qP) ds/\Binds K (PySem.W.fnOf e.1 e.1 params body scope dV kV doc pm an fR ct) ps ds)/\e.2.2.1.all oZ=true
noncomputable def o4(g:G)(K:Frag)(mg:Str->Option Value):Nat->List (Str×Nat×List Dt×Bool)->List Fn->Prop
 |_,[],[]=>True
 |i,e::es,f::fs=>wc g K mg e i f/\o4 g K mg (i+1) es fs
 |_,_,_=>False
section
variable{g:G}{K:Frag}{mg:Str->Option Value}
theorem nW{x:Str}:∀{es:List (Str×Nat×List Dt×Bool)}{fs:List Fn}{i j:Nat}{r:Nat×List Dt×Bool},o4 g K mg i es fs->rA x es=some (j,r)->∃f,wc g K mg (x,r) (i+j) f/\fs[j]?=some f
 |[],fs,i,j,r,_,h=>by simp[rA]at h
 |e::es,[],i,j,r,h,_=>h.elim
 |e::es,f::fs,i,j,r,ok,h=>by
  obtain⟨o1,o2⟩:=ok;unfold rA at h;split at h
  ·rename_i hx;cases h;have ex:x=e.1:=Qt hx;subst ex;exact⟨f,o1,rfl⟩
  ·obtain⟨p,h1,h2⟩:=Ql.mp h;obtain⟨j',r'⟩:=p;cases h2;obtain⟨f',k1,k2⟩:=nW o2 h1;refine⟨f',?_,k2⟩;have:i+(j'+1)=i+1+j':=⋯
   rw[this];exact k1
variable{P:Program}{w:World}{base:Heap}{xv:Nat->Value}{fs:List Fn}
theorem lA(hm:MG g mg)(AG:XG g K mg xv)(ok:o4 g K mg 0 g.fns fs):∀n,FX g xv (vZ P w) P w K mg base n n (aw fs n)
 |0=>⟨λx f np f7 bp h=>by
   obtain⟨fn,⟨fa,ps,N,M,δ,κ,n,oc,od,an,uq,params,body,scope,dV,kV,doc,pm,fR,ct,h1,h2,h3,h4,h5,h6,h7,h8,h9,KF,KG,KH,KI,KJ⟩,hf⟩:=nW ok h;refine⟨fa,_,ps,h8,h4,h3,⟨λvs H Q E q=>q.1.trans h8.symm,λA outer s H args us vs Q E _ _ _ _ q=>?_⟩,KI,KJ⟩;obtain⟨_,W,dr,as,S,v9,_,_,_,q⟩:=q;exact q.elim⟩
 |n+1=>⟨λx f np f7 bp h=>by
   have ih:=lA hm AG ok n;obtain⟨fn,⟨fa,ps,N,M,δ,κ,m,oc,od,an,uq,params,body,scope,dV,kV,doc,pm,fR,ct,h1,h2,h3,h4,h5,h6,h7,h8,h9,KF,KG,KH,KI,KJ⟩,hf⟩:=nW ok h;rw[Ti]at h9;refine⟨fa,_,ps,h8,h4,h3,?_,KI,KJ⟩;have:=mH (xv:=xv) (P:=P) (w:=w) (base:=base) h1 h2 h5 hm AG ih h6 h7 h9;have e:(aw fs (n+1)) f=hJ (aw fs n) ⟨ps.length,N.length,bp,fn.body⟩:=by funext args S;show (match fs[f]? with|some g=>hJ (aw fs n) g args S|none=>R.bad)=_;rw[hf];obtain⟨a1,a2,a3,a4⟩:=fn;simp only at KF KG KH;subst KF KG KH;rfl
   have N7:ps.length=np:=h8;rw[e,<-N7];exact this⟩
noncomputable def uL(K:Frag):Sp:=λvs H Q _=>∃(a:Addr)(ns:List Int),vs=[.ref a]/\dJ K H a (ns.map V.int)/\ns.length<=63/\∀H',Q (.bl true) H'
theorem len0{P:List Value->Prop}(h:P []):∀us:List Value,us.length=0->P us:=λus e=>RP e▸h
theorem lenS{n:Nat}{P:List Value->Prop}(h:∀a(us:List Value),us.length=n->P (a::us)):∀us:List Value,us.length=n+1->P us:=λus e=>by
 cases us with
 |nil=>cases e
 |cons a t=>exact h a t (Nat.succ.inj e)
theorem binds0{fd:FuncData}{ps:List Str}(h:∀us:List Value,us.length=ps.length->bindArgs fd ⟨us,[]⟩=pure (ps.zip us)):∀j,j<=([]:List Dt).length->∃ds,au ((([]:List Dt).drop j).map qP) ds/\Binds K fd ps ds:=λj hj=>by
 have:j=0:=by simpa using hj
 subst this;exact⟨[],.nil,Binds.all h⟩
noncomputable def O4(names:List (Str×NameKind))(ps:List Str):List Str:=ps++names.filterMap λp=>if yk (some p.2)&& !ps.contains p.1 then some p.1 else none
noncomputable def FH(N ms:List Str):List Bool:=N.map λx=>ms.contains x
theorem Hr{N ms ps:List Str}(h:((FH N ms).take ps.length).all (λb=> !b)=true):∀i,i<ps.length->(FH N ms)[i]?≠some true:=λi hi e=>by have hm:true∈(FH N ms).take ps.length:=Su.mpr ⟨i,by rw[R5 hi];exact e⟩;have:=QG.mp h true hm;cases this
end
end Rx
end
section
namespace Rx
open PySem PySem.W PySem.Spec PyProof.Rows L2
section
variable{F:FT}{S:Sx}{ρ:ao}
theorem bC{tg:Tg}{body:ao->Sx->RS}{ds:List Dt}(P:List Dt->ao->Prop)(h0:P [] ρ)
  (step:∀pre x post ρ,ds=pre++x::post->P pre ρ->∃ρ1 ρ2,fj tg x ρ= .ok ρ1/\body ρ1 S= .ok (.next,ρ2,S)/\P (pre++[x]) ρ2):∃ρ',forL tg body ds ρ S= .ok (.next,ρ',S)/\P ds ρ':=by
 have key:∀(post pre:List Dt)(ρ:ao),ds=pre++post->P pre ρ->∃ρ',forL tg body post ρ S= .ok (.next,ρ',S)/\P ds ρ':=by
  intro post
  induction post with
  |nil=>intro pre ρ e h;rw[QK]at e;subst e;exact⟨ρ,rfl,h⟩
  |cons x post ih=>intro pre ρ e h;obtain⟨ρ1,ρ2,h1,h2,h3⟩:=step pre x post ρ e h;obtain⟨ρ',h4,h5⟩:=ih (pre++[x]) ρ2 (by rw[e];simp) h3;refine⟨ρ',?_,h5⟩;rw[forL,h1,R.ah,h2,R.ah];exact h4
 exact key ds [] ρ rfl h0
theorem gf{tg:Tg}{body:ao->Sx->RS}{ds:List Dt}(P:List Dt->ao->Prop)(T:Dt->Prop)(h0:P [] ρ)
  (step:∀pre x post ρ,ds=pre++x::post->P pre ρ->∃ρ1 ρ2,fj tg x ρ= .ok ρ1/\((body ρ1 S= .ok (.next,ρ2,S)/\P (pre++[x]) ρ2)\/∃d,body ρ1 S= .ok (.ret d,ρ2,S)/\T d)):
  (∃ρ',forL tg body ds ρ S= .ok (.next,ρ',S)/\P ds ρ')\/∃d ρ',forL tg body ds ρ S= .ok (.ret d,ρ',S)/\T d:=by
 have key:∀(post pre:List Dt)(ρ:ao),ds=pre++post->P pre ρ->(∃ρ',forL tg body post ρ S= .ok (.next,ρ',S)/\P ds ρ')\/∃d ρ',forL tg body post ρ S= .ok (.ret d,ρ',S)/\T d:=by
  intro post
  induction post with
  |nil=>intro pre ρ e h;rw[QK]at e;subst e;exact .inl ⟨ρ,rfl,h⟩
  |cons x post ih=>
   intro pre ρ e h;obtain⟨ρ1,ρ2,h1,h2|⟨d,h2,h3⟩⟩:=step pre x post ρ e h
   ·rw[forL,h1,R.ah,h2.1,R.ah];exact ih (pre++[x]) ρ2 (by rw[e];simp) h2.2
   ·exact .inr ⟨d,ρ2,by rw[forL,h1,R.ah,h2,R.ah],h3⟩
 exact key ds [] ρ rfl h0
theorem jD{α β:Type}(f:α->β):∀l:List α,(l.flatMap λx=>[f x])=l.map f
 |[]=>rfl
 |x::l=>by rw[RW,jD f l];rfl
theorem fB{α β:Type}(p:α->Bool)(f:α->β):∀l:List α,(l.flatMap λx=>if p x=true then[f x] else[])=(l.filter p).map f
 |[]=>rfl
 |x::l=>by
  rw[RW,fB p f l];by_cases h:p x=true
  ·rw[TN h,List.filter_cons_of_pos h];rfl
  ·rw[TM h,List.filter_cons_of_neg h];rfl
end
theorem By{fs:List Fn}{n k:Nat}{g:Fn}{args:List Dt}{S:Sx}(h:fs[k]?=some g):aw fs (n+1) k args S=hJ (aw fs n) g args S:=by show (match fs[k]? with|some g=>hJ (aw fs n) g args S|none=>R.bad)=_;rw[h]
noncomputable def Hv(d:Dt)(S:Sx):R (Dt×Sx):=match d with|.int i=>.ok (.int (-i),S)|_=>.bad
noncomputable def Nr(d:Dt)(S:Sx):R (Dt×Sx):=match d with|.bl b=>.ok (.bl !b,S)|_=>.bad
noncomputable def F5(d:Dt)(S:Sx):R (Dt×Sx):=match d with|.bl c=>.ok (.bl c,S)|_=>.bad
noncomputable def CM(f:Sx->R (Dt×Sx))(d:Dt)(S:Sx):R (Dt×Sx):=match d with|.bl true=>(f S).bind (λy=>F5 y.1 y.2)|.bl false=>.ok (.bl false,S)|_=>.bad
noncomputable def LK(f:Sx->R (Dt×Sx))(d:Dt)(S:Sx):R (Dt×Sx):=match d with|.bl false=>(f S).bind (λy=>F5 y.1 y.2)|.bl true=>.ok (.bl true,S)|_=>.bad
noncomputable def Cc(k:List Dt->Dt)(ds:List Dt)(S:Sx):R (Dt×Sx):=af (decide (ds.length<=lim)) (.ok (k ds,S))
noncomputable def Lv(o:Option (List Dt))(S:Sx):R (List Dt×Sx):=match o with|some ds=>.ok (ds,S)|none=>.bad
noncomputable def Iy(d e:Dt)(S:Sx):R (Dt×Sx):=match e with|.int i=>(fk d (some i) none).bind λd=>.ok (d,S)|_=>.bad
noncomputable def Iw(d e:Dt)(S:Sx):R (Dt×Sx):=match e with|.int i=>(fk d none (some i)).bind λd=>.ok (d,S)|_=>.bad
theorem RX:
  (∀{F:FT}{S:Sx}{ρ:ao}{d:Dt},ev F (.con d) ρ S= .ok (d,S))/\
  (∀{F:FT}{S:Sx}{ρ:ao}{i:Nat},ev F (.var i) ρ S=(eS ρ i).bind λd=>.ok (d,S))/\
  (∀{F:FT}{S:Sx}{ρ:ao}{i:Nat},ev F (.mvr i) ρ S=(eS ρ i).bind λd=>.ok (d,S))/\
  (∀{F:FT}{S:Sx}{ρ:ao}{o:Operator}{a b:C},ev F (.bin o a b) ρ S=(ev F a ρ S).bind λx=>(ev F b ρ x.2).bind λy=>(l6 o x.1 y.1).bind λd=>.ok (d,y.2))/\
  (∀{F:FT}{S:Sx}{ρ:ao}{o:CmpOp}{a b:C},ev F (.cmp o a b) ρ S=(ev F a ρ S).bind λx=>(ev F b ρ x.2).bind λy=>(cL o x.1 y.1).bind λd=>.ok (.bl d,y.2))/\
  (∀{F:FT}{S:Sx}{ρ:ao}{a:C},ev F (.neg a) ρ S=(ev F a ρ S).bind λx=>Hv x.1 x.2)/\
  (∀{F:FT}{S:Sx}{ρ:ao}{a:C},ev F (.nt a) ρ S=(ev F a ρ S).bind λx=>Nr x.1 x.2)/\
  (∀{F:FT}{S:Sx}{ρ:ao}{a b:C},ev F (.and a b) ρ S=(ev F a ρ S).bind λx=>CM (ev F b ρ) x.1 x.2)/\
  (∀{F:FT}{S:Sx}{ρ:ao}{a b:C},ev F (.or a b) ρ S=(ev F a ρ S).bind λx=>LK (ev F b ρ) x.1 x.2)/\
  (∀{F:FT}{S:Sx}{ρ:ao}{a b c:C},ev F (.ite a b c) ρ S=(cO F a ρ S).bind λx=>if x.1=true then ev F b ρ x.2 else ev F c ρ x.2)/\
  (∀{F:FT}{S:Sx}{ρ:ao}{a b:C},ev F (.idx a b) ρ S=(ev F a ρ S).bind λx=>(ev F b ρ x.2).bind λy=>(cu x.1 y.1).bind λd=>.ok (d,y.2))/\
  (∀{F:FT}{S:Sx}{ρ:ao}{a b:C},ev F (.sliL a b) ρ S=(ev F a ρ S).bind λx=>(ev F b ρ x.2).bind λy=>Iy x.1 y.1 y.2)/\
  (∀{F:FT}{S:Sx}{ρ:ao}{a b:C},ev F (.sliH a b) ρ S=(ev F a ρ S).bind λx=>(ev F b ρ x.2).bind λy=>Iw x.1 y.1 y.2)/\
  (∀{F:FT}{S:Sx}{ρ:ao}{f:Nat}{es:Cs}{ds:List Dt},ev F (.call f es ds) ρ S=(ij F es ρ S).bind λx=>(F f (x.1++ds) none).bind λy=>.ok (y.1,x.2))/\
  (∀{F:FT}{S:Sx}{ρ:ao}{u:BI}{es:Cs},ev F (.bi u es) ρ S=(ij F es ρ S).bind λx=>(d6 u x.1).bind λd=>.ok (d,x.2))/\
  (∀{F:FT}{S:Sx}{ρ:ao}{es:Cs},ev F (.tup es) ρ S=(ij F es ρ S).bind λx=>Cc .tup x.1 x.2)/\
  (∀{F:FT}{S:Sx}{ρ:ao}{es:Cs},ev F (.lst es) ρ S=(ij F es ρ S).bind λx=>Cc .lst x.1 x.2)/\
  (∀{F:FT}{S:Sx}{ρ:ao},ij F .nil ρ S= .ok ([],S))/\
  (∀{F:FT}{S:Sx}{ρ:ao}{a:C}{es:Cs},ij F (.cons a es) ρ S=(ev F a ρ S).bind λx=>(ij F es ρ x.2).bind λy=>.ok (x.1::y.1,y.2))/\
  (∀{F:FT}{S:Sx}{ρ:ao}{o:CmpOp}{a b:C},cO F (.cmp o a b) ρ S=(ev F a ρ S).bind λx=>(ev F b ρ x.2).bind λy=>(cL o x.1 y.1).bind λd=>.ok (d,y.2))/\
  (∀{F:FT}{S:Sx}{ρ:ao}{a b:C},cO F (.and a b) ρ S=(cO F a ρ S).bind λx=>if x.1=true then cO F b ρ x.2 else .ok (false,x.2))/\
  (∀{F:FT}{S:Sx}{ρ:ao}{a b:C},cO F (.or a b) ρ S=(cO F a ρ S).bind λx=>if x.1=true then .ok (true,x.2) else cO F b ρ x.2)/\
  (∀{F:FT}{S:Sx}{ρ:ao}{a:C},cO F (.nt a) ρ S=(cO F a ρ S).bind λx=>.ok (!x.1,x.2))/\
  (∀{F:FT}{S:Sx}{ρ:ao}{f:Nat}{es:Cs}{ds:List Dt},cO F (.call f es ds) ρ S=(ij F es ρ S).bind λx=>(F f (x.1++ds) none).bind λy=>(d9 y.1).bind λb=>.ok (b,x.2))/\
  (∀{F:FT}{S:Sx}{ρ:ao}{u:BI}{es:Cs},cO F (.bi u es) ρ S=(ij F es ρ S).bind λx=>(d6 u x.1).bind λd=>(d9 d).bind λb=>.ok (b,x.2))/\
  (∀{F:FT}{S:Sx}{ρ:ao}{i:Nat},cO F (.var i) ρ S=(eS ρ i).bind λd=>(d9 d).bind λb=>.ok (b,S))/\
  (∀{F:FT}{S:Sx}{ρ:ao}{i:Nat},cO F (.mvr i) ρ S=(eS ρ i).bind λd=>(d9 d).bind λb=>.ok (b,S))/\
  (∀{F:FT}{S:Sx}{ρ:ao}{a b:C},cO F (.idx a b) ρ S=(ev F a ρ S).bind λx=>(ev F b ρ x.2).bind λy=>(cu x.1 y.1).bind λd=>(d9 d).bind λb=>.ok (b,y.2))/\
  (∀{F:FT}{S:Sx}{ρ:ao},bh F .nil ρ S= .ok (true,S))/\
  (∀{F:FT}{S:Sx}{ρ:ao}{a:C},bh F (.cons a .nil) ρ S=cO F a ρ S)/\
  (∀{F:FT}{S:Sx}{ρ:ao}{a:C},d7 F (.seq a) ρ S=(ev F a ρ S).bind λx=>Lv (itemsOf x.1) x.2)/\
  (∀{F:FT}{S:Sx}{ρ:ao}{a:C},d7 F (.enum a) ρ S=(ev F a ρ S).bind λx=>Lv ((df x.1).map (xg 0)) x.2)/\
  (∀{d:Dt}{ρ:ao},eS (some d::ρ) 0= .ok d)/\
  (∀{e:Option Dt}{ρ:ao}{i:Nat},eS (e::ρ) (i+1)=eS ρ i)/\
  (∀{S:Sx}{i:Int},Hv (.int i) S= .ok (.int (-i),S))/\
  (∀{S:Sx}{b:Bool},Nr (.bl b) S= .ok (.bl !b,S))/\
  (∀{S:Sx}{f:Sx->R (Dt×Sx)},CM f (.bl false) S= .ok (.bl false,S))/\
  (∀{S:Sx}{f:Sx->R (Dt×Sx)},CM f (.bl true) S=(f S).bind λy=>F5 y.1 y.2)/\
  (∀{S:Sx}{f:Sx->R (Dt×Sx)},LK f (.bl true) S= .ok (.bl true,S))/\
  (∀{S:Sx}{f:Sx->R (Dt×Sx)},LK f (.bl false) S=(f S).bind λy=>F5 y.1 y.2)/\
  (∀{S:Sx}{b:Bool},F5 (.bl b) S= .ok (.bl b,S))/\
  (∀{S:Sx}{ds:List Dt},Lv (some ds) S= .ok (ds,S))/\
  (∀{ds:List Dt}{f:List Dt->List Dt},(some ds).map f=some (f ds))/\
  (∀{S:Sx}{k:List Dt->Dt},Cc k [] S= .ok (k [],S))/\
  (∀{S:Sx}{k:List Dt->Dt}{a:Dt},Cc k [a] S= .ok (k [a],S))/\
  (∀{S:Sx}{k:List Dt->Dt}{a b:Dt},Cc k [a,b] S= .ok (k [a,b],S))/\
  (∀{S:Sx}{k:List Dt->Dt}{a b c:Dt},Cc k [a,b,c] S= .ok (k [a,b,c],S))/\
  (∀{S:Sx}{k:List Dt->Dt}{a b c d:Dt},Cc k [a,b,c,d] S= .ok (k [a,b,c,d],S))/\
  (∀{S:Sx}{k:List Dt->Dt}{a b c d e:Dt},Cc k [a,b,c,d,e] S= .ok (k [a,b,c,d,e],S))/\
  (∀{S:Sx}{d:Dt}{i:Int},Iy d (.int i) S=(fk d (some i) none).bind λd=>.ok (d,S))/\
  (∀{S:Sx}{d:Dt}{i:Int},Iw d (.int i) S=(fk d none (some i)).bind λd=>.ok (d,S))/\
  (∀{m n:Int},l6 .Add (.int m) (.int n)= .ok (.int (m+n)))/\
  (∀{m n:Int},l6 .Sub (.int m) (.int n)= .ok (.int (m-n)))/\
  (∀{m n:Int},cL .Lt (.int m) (.int n)= .ok (decide (m<n)))/\
  (∀{m n:Int},cL .LtE (.int m) (.int n)= .ok (decide (m<=n)))/\
  (∀{m n:Int},cL .Gt (.int m) (.int n)= .ok (decide (n<m)))/\
  (∀{m n:Int},cL .GtE (.int m) (.int n)= .ok (decide (n<=m)))/\
  (∀{m n:Int},cL .Eq (.int m) (.int n)= .ok (m==n))/\
  (∀{m n:Int},cL .NotEq (.int m) (.int n)= .ok (!(m==n)))/\
  (∀{m n:Str},cL .Eq (.str m) (.str n)= .ok (m==n))/\
  (∀{m n:Str},cL .NotEq (.str m) (.str n)= .ok (!(m==n)))/\
  (∀{ns:List Int},d6 .len [.cc ns]= .ok (.int ns.length))/\
  (∀{ds:List Dt},d6 .len [.lst ds]= .ok (.int ds.length))/\
  (∀{ds:List Dt},d6 .len [.tup ds]= .ok (.int ds.length))/\
  (∀{ds:List Dt},d6 .tuple [.lst ds]= .ok (.tup ds))/\
  (∀{ds:List Dt},d6 .tuple [.tup ds]= .ok (.tup ds))/\
  (∀{ds:List Dt},d6 .list [.lst ds]= .ok (.lst ds))/\
  (∀{ds:List Dt},d6 .list [.tup ds]= .ok (.lst ds))/\
  (∀{m n:Int},d6 .min2 [.int m,.int n]= .ok (.int (if n<m then n else m)))/\
  (∀{m n:Int},d6 .max2 [.int m,.int n]= .ok (.int (if n>m then n else m)))/\
  (∀{t:Bool},d9 (.bl t)= .ok t)/\
  (∀{ds:List Dt},d9 (.lst ds)= .ok !ds.isEmpty)/\
  (∀{ds:List Dt},d9 (.tup ds)= .ok !ds.isEmpty)/\
  (∀{ds:List Dt},itemsOf (.lst ds)=some ds)/\
  (∀{ds:List Dt},itemsOf (.tup ds)=some ds)/\
  (∀{ds:List Dt},df (.lst ds)=some ds)/\
  (∀{ds:List Dt},df (.tup ds)=some ds)/\
  (∀{α β:Type}{x:α}{f:α->R β},(R.ok x).bind f=f x)/\
  (∀{α:Type}{r:R α},af true r=r)/\
  (∀{ds:List Dt},(ds++[]:List Dt)=ds)/\
  (∀{e v:Option Dt}{ρ:ao},(e::ρ).set 0 v=v::ρ)/\
  (∀{e v:Option Dt}{ρ:ao}{i:Nat},(e::ρ).set (i+1) v=e::ρ.set i v)/\
  (∀{d:Dt}{ρ:ao}{i:Nat},fj (.nm i) d ρ= .ok (ρ.set i (some d)))/\
  (∀{is:List Nat}{ds:List Dt}{ρ:ao},fj (.tp is) (.tup ds) ρ=jK is ds ρ)/\
  (∀{ρ:ao},jK [] [] ρ= .ok ρ)/\
  (∀{i:Nat}{is:List Nat}{d:Dt}{ds:List Dt}{ρ:ao},jK (i::is) (d::ds) ρ=jK is ds (ρ.set i (some d)))/\
  (∀{d:Dt},cu (.tup [d]) (.int 0)= .ok d)/\
  (∀{d d2:Dt},cu (.tup [d,d2]) (.int 0)= .ok d)/\
  (∀{d d2:Dt},cu (.tup [d,d2]) (.int 1)= .ok d2)/\
  (∀{d d2 d3:Dt},cu (.tup [d,d2,d3]) (.int 0)= .ok d)/\
  (∀{d d2 d3:Dt},cu (.tup [d,d2,d3]) (.int 1)= .ok d2)/\
  (∀{d d2 d3:Dt},cu (.tup [d,d2,d3]) (.int 2)= .ok d3):=
 ⟨@λ_ _ _ _=>rfl,
  @λ_ _ _ _=>rfl,
  @λ_ _ _ _=>rfl,
  @λ_ _ _ _ _ _=>rfl,
  @λ_ _ _ _ _ _=>rfl,
  @λ_ _ _ _=>rfl,
  @λ_ _ _ _=>rfl,
  @λ_ _ _ _ _=>rfl,
  @λ_ _ _ _ _=>rfl,
  @λ_ _ _ _ _ _=>rfl,
  @λ_ _ _ _ _=>rfl,
  @λ_ _ _ _ _=>rfl,
  @λ_ _ _ _ _=>rfl,
  @λ_ _ _ _ _ _=>rfl,
  @λ_ _ _ _ _=>rfl,
  @λ_ _ _ _=>rfl,
  @λ_ _ _ _=>rfl,
  @λ_ _ _=>rfl,
  @λ_ _ _ _ _=>rfl,
  @λ_ _ _ _ _ _=>rfl,
  @λ_ _ _ _ _=>rfl,
  @λ_ _ _ _ _=>rfl,
  @λ_ _ _ _=>rfl,
  @λ_ _ _ _ _ _=>rfl,
  @λ_ _ _ _ _=>rfl,
  @λ_ _ _ _=>rfl,
  @λ_ _ _ _=>rfl,
  @λ_ _ _ _ _=>rfl,
  @λ_ _ _=>rfl,
  @λ_ _ _ _=>rfl,
  @λ_ _ _ _=>rfl,
  @λF S ρ a=>by rw[d7];cases ev F a ρ S with|ok x=>(simp only[R.ah];cases df x.1<;>rfl)|ex k=>rfl|bad=>rfl,
  @λ_ _=>rfl,
  @λ_ _ _=>rfl,
  @λ_ _=>rfl,
  @λ_ _=>rfl,
  @λ_ _=>rfl,
  @λ_ _=>rfl,
  @λ_ _=>rfl,
  @λ_ _=>rfl,
  @λ_ _=>rfl,
  @λ_ _=>rfl,
  @λ_ _=>rfl,
  @λ_ _=>rfl,
  @λ_ _ _=>rfl,
  @λ_ _ _ _=>rfl,
  @λ_ _ _ _ _=>rfl,
  @λ_ _ _ _ _ _=>rfl,
  @λ_ _ _ _ _ _ _=>rfl,
  @λ_ _ _=>rfl,
  @λ_ _ _=>rfl,
  @λ_ _=>rfl,
  @λ_ _=>rfl,
  @λ_ _=>rfl,
  @λ_ _=>rfl,
  @λ_ _=>rfl,
  @λ_ _=>rfl,
  @λ_ _=>rfl,
  @λ_ _=>rfl,
  @λ_ _=>rfl,
  @λ_ _=>rfl,
  @λ_=>rfl,
  @λ_=>rfl,
  @λ_=>rfl,
  @λ_=>rfl,
  @λ_=>rfl,
  @λ_=>rfl,
  @λ_=>rfl,
  @λ_ _=>rfl,
  @λ_ _=>rfl,
  @λ_=>rfl,
  @λ_=>rfl,
  @λ_=>rfl,
  @λ_=>rfl,
  @λ_=>rfl,
  @λ_=>rfl,
  @λ_=>rfl,
  @λ_ _ _ _=>rfl,
  @λ_ _=>rfl,
  @λds=>QK ds,
  @λ_ _ _=>rfl,
  @λ_ _ _ _=>rfl,
  @λ_ _ _=>rfl,
  @λ_ _ _=>rfl,
  @λ_=>rfl,
  @λ_ _ _ _ _=>rfl,
  @λ_=>rfl,
  @λ_ _=>rfl,
  @λ_ _=>rfl,
  @λ_ _ _=>rfl,
  @λ_ _ _=>rfl,
  @λ_ _ _=>rfl⟩
section
variable{F:FT}{S:Sx}{ρ:ao}
theorem aX{i j:Int}(h:i.natAbs<2^64\/j.natAbs<2^64):l6 .Mult (.int i) (.int j)= .ok (.int (i*j)):=by show af (decide (i.natAbs<2^64)||decide (j.natAbs<2^64)) _=_;rw[show (decide (i.natAbs<2^64)||decide (j.natAbs<2^64))=true by simpa using h];rfl
theorem ez{i j:Int}(h:0<j):l6 .Mod (.int i) (.int j)= .ok (.int (i % j)):=by show af (decide (0<j)) _=_;rw[Qz h];rfl
theorem D8{i j:Int}(h:0<j)(h2:j.natAbs.log2<9000):l6 .FloorDiv (.int i) (.int j)= .ok (.int (i/j)):=by show af (decide (0<j)&&decide (j.natAbs.log2<9000)) _=_;rw[Qz h,Qz h2];rfl
noncomputable def fin(r:RS):R (Dt×Sx):=r.bind λp=>match p.1 with
 |.next=>.ok (.aW,p.2.2)
 |.ret d=>.ok (d,p.2.2)
 |_=>.bad
noncomputable def Ts.app:Ts->Ts->Ts
 |.nil,b=>b
 |.cons t a,b=>.cons t (a.app b)
theorem nS:∀{a b:Ts}{ρ:ao}{S:Sx},aV F (a.app b) ρ S=(aV F a ρ S).bind λp=>match p.1 with
  |.next=>aV F b p.2.1 p.2.2
  |f=>.ok (f,p.2)
 |.nil,b,ρ,S=>rfl
 |.cons t a,b,ρ,S=>by
  show aV F (.cons t (a.app b)) ρ S=_;rw[aV,aV];cases ex F t ρ S with
  |ok p=>
   obtain⟨f,ρ1,S1⟩:=p;cases f with
   |next=>exact nS
   |brk=>rfl
   |cnt=>rfl
   |ret d=>rfl
  |ex k=>rfl
  |bad=>rfl
section
variable{r:R (Dt×Sx)}{ts:Ts}
theorem dN{t:T}{ρ1:ao}{S1:Sx}(h:ex F t ρ S= .ok (.next,ρ1,S1))(k:fin (aV F ts ρ1 S1)=r):fin (aV F (.cons t ts) ρ S)=r:=by rw[aV,h];exact k
theorem gH{t:T}{ρ1:ao}{S1:Sx}{d:Dt}(h:ex F t ρ S= .ok (.ret d,ρ1,S1)):fin (aV F (.cons t ts) ρ S)= .ok (d,S1):=by rw[aV,h];rfl
theorem aE{i:Nat}{c:C}{d:Dt}{S1:Sx}(h:ev F c ρ S= .ok (d,S1))(hs:bO c d=true)(k:fin (aV F ts (ρ.set i (some d)) S1)=r):fin (aV F (.cons (.asg i c) ts) ρ S)=r:=by refine dN ?_ k;rw[ex,h,R.ah,hs];rfl
theorem c9{i:Nat}{c:C}{d:Dt}{S1:Sx}(h:ev F c ρ S= .ok (d,S1))(hs:lK c d=true)(k:fin (aV F ts (ρ.set i (some d)) S1)=r):fin (aV F (.cons (.asgM i c) ts) ρ S)=r:=by refine dN ?_ k;rw[ex,h,R.ah,hs];rfl
theorem ax{c:C}{d:Dt}{S1:Sx}(h:ev F c ρ S= .ok (d,S1)):fin (aV F (.cons (.ret c) ts) ρ S)= .ok (d,S1):=by refine gH (ρ1:=ρ) ?_;rw[ex,h];rfl
theorem xA{t:C}{a b:Ts}{x:Bool}{S1:Sx}(h:cO F t ρ S= .ok (x,S1))(k:fin (aV F ((if x=true then a else b).app ts) ρ S1)=r):fin (aV F (.cons (.ifs t a b) ts) ρ S)=r:=by rw[<-k,nS,aV,ex,h,R.ah];cases x<;>rfl
theorem jC{t:C}{a b:Ts}{S1:Sx}(h:cO F t ρ S= .ok (true,S1))(k:fin (aV F (a.app ts) ρ S1)=r):fin (aV F (.cons (.ifs t a b) ts) ρ S)=r:=xA h (by rw[TN rfl];exact k)
theorem dy{t:C}{a b:Ts}{S1:Sx}(h:cO F t ρ S= .ok (false,S1))(k:fin (aV F (b.app ts) ρ S1)=r):fin (aV F (.cons (.ifs t a b) ts) ρ S)=r:=xA h (by rw[TM (by simp)];exact k)
theorem bB{tg:Tg}{it:mq}{b:Ts}{ds:List Dt}{ρ1:ao}{S1 S2:Sx}(h:d7 F it ρ S= .ok (ds,S1))(hl:rL it=0)(hf:forL tg (aV F b) ds ρ S1= .ok (.next,ρ1,S2))(k:fin (aV F ts ρ1 S2)=r):fin (aV F (.cons (.fr tg it b) ts) ρ S)=r:=by refine dN ?_ k;rw[ex,h,R.ah,Qz hl,Bool.true_or];exact hf
theorem An{i:Nat}{c:C}{d:Dt}{S1:Sx}{ds:List Dt}(hl:ρ[i]?=some (some (.lst ds)))(h:ev F c ρ S= .ok (d,S1))(hs:bO c d=true)(hz:ds.length<=lim)(k:fin (aV F ts (ρ.set i (some (.lst (ds++[d])))) S1)=r):fin (aV F (.cons (.app i c) ts) ρ S)=r:=by refine dN ?_ k;rw[ex,show isLE ρ i=true by unfold isLE;rw[hl],guard_true,h,R.ah,hs,guard_true,show l3 ρ i= .ok ds by unfold l3;rw[hl],R.ah,Qz hz];rfl
end
end
theorem aC{fs:List Fn}{n k ps m:Nat}{body:Ts}{args:List Dt}{r:R (Dt×Sx)}{S:Sx}(h:fs[k]?=some ⟨ps,m,false,body⟩)(hn:1<=n)(hl:args.length=ps)(q:fin (aV (aw fs (n-1)) body (args.map some++List.replicate (m-ps) none) S)=r):aw fs n k args S=r:=by obtain⟨n,rfl⟩:∃m,n=m+1:=⟨n-1,by lia⟩;rw[By h];unfold hJ;simp only[Q1,TL,Nat.add_zero,hl,TQ,Sy];exact q
noncomputable def sV:Ts:=(.cons (.ifs (.cmp .Lt (.var 1) (.bi .len (.cons (.var 0) .nil))) (.cons (.ret (.idx (.var 0) (.var 1))) .nil) .nil) (.cons (.asg 2 (.bin .Add (.bin .Mult (.var 1) (.con (.int 7919))) (.con (.int 5)))) (.cons (.ifs (.cmp .Gt (.bi .len (.cons (.var 0) .nil)) (.con (.int 0))) (.cons (.asg 2 (.bin .Add (.bin .Add (.bin .Mult (.bin .Mod (.idx (.var 0) (.bin .Mod (.var 1) (.bi .len (.cons (.var 0) .nil)))) (.con (.int 2147483647))) (.con (.int 48271))) (.bin .Mult (.bin .Mult (.var 1) (.var 1)) (.con (.int 7919)))) (.con (.int 11)))) .nil) .nil) (.cons (.ret (.bin .Mod (.bin .Mult (.var 2) (.var 2)) (.con (.int 2147483629)))) .nil))))
theorem tX{ns:List Int}{k:Nat}(h:k<ns.length):cu (.cc ns) (.int k)= .ok (.int ns[k]):=by show u4 (ns.map Dt.int) k=_;unfold u4;rw[L2.jT (v:=.int ns[k]) (by simp[h])]
noncomputable def dM(ns:List Int)(k:Nat):Int:=if h:k<ns.length then ns[k] else
 let m:Int:=if h:0<ns.length then ns[k % ns.length]'(Nat.mod_lt _ h) % 2147483647*48271+k*k*7919+11 else k*7919+5
 m*m % 2147483629
theorem tq{fs:List Fn}{ic:Nat}(hc:fs[ic]?=some ⟨2,3,false,sV⟩){n:Nat}(hn:1<=n){ns:List Int}{k:Nat}(hk:k<1000000):aw fs n ic [.cc ns,.int k] none= .ok (.int (dM ns k),none):=by
 refine aC hc hn rfl ?_;show fin (aV (aw fs (n-1)) sV [some (.cc ns),some (.int k),none] none)=_;by_cases h:k<ns.length
 ·refine jC (S1:=none) (by simp only[RX];simp[h]) ?_;exact(ax (d:=.int ns[k]) (S1:=none) (by simp only[RX,tX h])).trans (by simp[dM,h])
 ·have b1:(k:Int)*k<=1000000*1000000:=by
   have:k*k<=1000000*1000000:=Tc ⋯ ⋯;rw[<-Ro]
   lia
  have b0:(0:Int)<=(k:Int)*k:=Rj ⋯ ⋯;have m1:=aX (i:=k) (j:=7919) (.inl ⋯);refine dy (S1:=none) (by simp only[RX];simp;lia) (aE (d:=.int (k*7919+5)) (S1:=none) (by simp only[RX,m1]) rfl ?_);by_cases h2:0<ns.length
  ·have hm:=Nat.mod_lt k h2;have e1:((k:Int) % (ns.length:Int))=((k % ns.length:Nat):Int):=by simp
   generalize hx:ns[k % ns.length]=x;have r1:=QI x (b:=2147483647) (by decide);have r2:=QJ x (b:=2147483647) (by decide);have m2:=ez (i:=k) (j:=ns.length) ⋯;rw[e1]at m2;have m3:=ez (i:=x) (j:=2147483647) (by decide);have m4:=aX (i:=x % 2147483647) (j:=48271) (.inl ⋯);have m5:=aX (i:=k) (j:=k) (.inl ⋯);have m6:=aX (i:=(k:Int)*k) (j:=7919) (.inl ⋯);have m7:=aX (i:=x % 2147483647*48271+k*k*7919+11) (j:=x % 2147483647*48271+k*k*7919+11) (.inl ⋯);have m8:=ez (i:=(x % 2147483647*48271+k*k*7919+11)*(x % 2147483647*48271+k*k*7919+11)) (j:=2147483629) (by decide);refine jC (S1:=none) (by simp only[RX];simp;lia) (aE (d:=.int (x % 2147483647*48271+k*k*7919+11)) (S1:=none) ?_ rfl ?_)
   ·simp only[RX,m2,m3,m4,m5,m6,tX hm,hx]
   ·refine(ax (d:=_) (S1:=none) (by simp only[RX,m7,m8];rfl)).trans ?_;simp[dM,h,h2,hx]
  ·have z0:decide ((0:Int)<ns.length)=false:=Qv ⋯;have m7:=aX (i:=k*7919+5) (j:=k*7919+5) (.inl ⋯);have m8:=ez (i:=((k:Int)*7919+5)*(k*7919+5)) (j:=2147483629) (by decide);refine dy (S1:=none) (by simp only[RX,z0]) ((ax (d:=_) (S1:=none) (by simp only[RX,m7,m8];rfl)).trans ?_);simp[dM,h,h2]
section
variable{F:FT}{S S1 S2:Sx}{ρ ρ1:ao}{ts:Ts}{r:RS}{d:Dt}{ds:List Dt}
theorem nx{t:T}(h:ex F t ρ S= .ok (.next,ρ1,S1))(k:aV F ts ρ1 S1=r):aV F (.cons t ts) ρ S=r:=by rw[aV,h];exact k
theorem dw{i:Nat}{c:C}(h:ev F c ρ S= .ok (d,S1))(hs:bO c d=true)(k:aV F ts (ρ.set i (some d)) S1=r):aV F (.cons (.asg i c) ts) ρ S=r:=by refine nx ?_ k;rw[ex,h,R.ah,hs];rfl
theorem kZ{c:C}(h:ev F c ρ S= .ok (d,S1)):aV F (.cons (.ret c) ts) ρ S= .ok (.ret d,ρ,S1):=by rw[aV,ex,h];rfl
theorem Cd{t:C}{a b:Ts}{x:Bool}(h:cO F t ρ S= .ok (x,S1))(k:aV F ((if x=true then a else b).app ts) ρ S1=r):aV F (.cons (.ifs t a b) ts) ρ S=r:=by rw[<-k,nS,aV,ex,h,R.ah];cases x<;>rfl
theorem qd{t:C}{a b:Ts}(h:cO F t ρ S= .ok (true,S1))(k:aV F (a.app ts) ρ S1=r):aV F (.cons (.ifs t a b) ts) ρ S=r:=Cd h (by rw[TN rfl];exact k)
theorem i7{t:C}{a b:Ts}(h:cO F t ρ S= .ok (false,S1))(k:aV F (b.app ts) ρ S1=r):aV F (.cons (.ifs t a b) ts) ρ S=r:=Cd h (by rw[TM (by simp)];exact k)
theorem yB{tg:Tg}{it:mq}{b:Ts}(h:d7 F it ρ S= .ok (ds,S1))(hl:rL it=0)(hf:forL tg (aV F b) ds ρ S1= .ok (.next,ρ1,S2))(k:aV F ts ρ1 S2=r):aV F (.cons (.fr tg it b) ts) ρ S=r:=by refine nx ?_ k;rw[ex,h,R.ah,Qz hl,Bool.true_or];exact hf
theorem tZ{i:Nat}(hl:ρ[i]?=some (some (.lst ds))):isLE ρ i=true:=by unfold isLE;rw[hl]
theorem uk{i:Nat}(hl:ρ[i]?=some (some (.lst ds))):l3 ρ i= .ok ds:=by unfold l3;rw[hl]
theorem Df{i:Nat}{c:C}(hl:ρ[i]?=some (some (.lst ds)))(h:ev F c ρ S= .ok (d,S1))(hs:bO c d=true)(hz:ds.length<=lim):ex F (.app i c) ρ S= .ok (.next,ρ.set i (some (.lst (ds++[d]))),S1):=by rw[ex,tZ hl,guard_true,h,R.ah,hs,guard_true,uk hl,R.ah,Qz hz];rfl
theorem tL{i:Nat}{k v:C}{n:Int}{j:Nat}(hl:ρ[i]?=some (some (.lst ds)))(h:ev F v ρ S= .ok (d,S1))(h2:ev F k ρ S1= .ok (.int n,S2))(hs:bO v d=true)(hz:oo ds.length n=some j):ex F (.sr i k v) ρ S= .ok (.next,ρ.set i (some (.lst (ds.set j d))),S2):=by rw[ex,tZ hl,guard_true,h,R.ah,h2,R.ah,hs,guard_true,uk hl,R.ah];show (match oo ds.length n with|some j=>R.ok (Fl.next,ρ.set i (some (.lst (ds.set j d))),S2)|none=>.bad)=_;rw[hz]
theorem rY{i:Nat}{c:C}(hl:ρ[i]?=some (some (.lst ds)))(h:ev F c ρ S= .ok (d,S1))(hs:bO c d=true)(hz:ds.length<=lim)(k:aV F ts (ρ.set i (some (.lst (ds++[d])))) S1=r):aV F (.cons (.app i c) ts) ρ S=r:=nx (Df hl h hs hz) k
theorem gj{c:C}(h:ev F c ρ S= .ok (d,S1))(hd:itemsOf d=some ds):d7 F (.seq c) ρ S= .ok (ds,S1):=by show (ev F c ρ S).bind (λx=>match itemsOf x.1 with|some ds=>R.ok (ds,x.2)|none=>.bad)=_;rw[h,R.ah];show (match itemsOf d with|some ds=>R.ok (ds,S1)|none=>.bad)=_;rw[hd]
theorem dR{c:C}{n:Nat}(h:ev F c ρ S= .ok (.int n,S1))(hn:n<=lim):d7 F (.rng1 c) ρ S= .ok (aR 0 n,S1):=by show (ev F c ρ S).bind (λx=>match x.1 with|.int j=>af (decide (j<=lim)&&decide (-lim<=j)) (.ok (aR 0 j.toNat,x.2))|_=>.bad)=_;rw[h,R.ah];show af (decide ((n:Int)<=lim)&&decide (-lim<=(n:Int))) (R.ok (aR 0 (n:Int).toNat,S1))=_;rw[show (decide ((n:Int)<=lim)&&decide (-lim<=(n:Int)))=true by have:lim=1000000:=rfl;simp;lia];simp
theorem jt{a b:C}{da db:Dt}{xs ys:List Dt}(ha:ev F a ρ S= .ok (da,S1))(hb:ev F b ρ S1= .ok (db,S2))(h1:df da=some xs)(h2:df db=some ys):d7 F (.zip a b) ρ S= .ok (cX xs ys,S2):=by show (ev F a ρ S).bind (λx=>(ev F b ρ x.2).bind λy=>match df x.1,df y.1 with|some xs,some ys=>R.ok (cX xs ys,y.2)|_,_=>.bad)=_;rw[ha,R.ah,hb,R.ah];show (match df da,df db with|some xs,some ys=>R.ok (cX xs ys,S2)|_,_=>.bad)=_;rw[h1,h2]
noncomputable def bj(F:FT)(e:C):ao->Sx->R (List Dt×Sx):=λρ1 S1=>(ev F e ρ1 S1).bind λy=>af (bO e y.1) (.ok ([y.1],y.2))
theorem aT{cap:List (Option Nat)}{it:mq}{tg:Tg}{cs:Cs}{e:C}{out:List Dt}(h:d7 F it ρ S= .ok (ds,S1))(hl:ds.length<=lim)(hk:(decide (rL it<=1)||lW F it ρ S)=true)(hc:aK (aN tg (bh F cs) (bj F e) (jN cap ρ)) ds S1= .ok (out,S2)):
  ev F (.comp cap it tg cs e) ρ S= .ok (.lst out,S2):=by
 rw[ev,h,R.ah,Qz hl,hk,QZ,guard_true];show (aK (aN tg (bh F cs) (bj F e) (jN cap ρ)) ds S1).bind _=_;rw[hc];rfl
theorem aO{tg:Tg}{e:C}{y:Dt}(hs:fj tg d ρ= .ok ρ1)(he:ev F e ρ1 S= .ok (y,S1))(hb:bO e y=true):aN tg (bh F .nil) (bj F e) ρ d S= .ok ([y],S1):=by unfold aN bj;rw[hs,R.ah,bh,R.ah];simp only[TQ,he,R.ah,hb,guard_true]
theorem turn_if{tg:Tg}{c e:C}{b:Bool}{y:Dt}(hs:fj tg d ρ= .ok ρ1)(hc:cO F c ρ1 S= .ok (b,S))(he:b=true->ev F e ρ1 S= .ok (y,S)/\bO e y=true):aN tg (bh F (.cons c .nil)) (bj F e) ρ d S= .ok (if b=true then[y] else[],S):=by
 unfold aN bj;rw[hs,R.ah,bh,hc,R.ah];cases b with
 |false=>rfl
 |true=>simp only[TQ,(he rfl).1,R.ah,(he rfl).2,guard_true]
theorem oj{k:Nat}(h:ds[k]?=some d):cu (.tup ds) (.int k)= .ok d/\cu (.lst ds) (.int k)= .ok d:=by
 have:u4 ds k= .ok d:=by unfold u4;rw[L2.jT h]
 exact⟨this,this⟩
end
theorem u6{ms:List Mx.D}(h:jM ms=true):d6 .sorted [.lst (cv ms)]= .ok (.lst (cv (eI ms)))/\d6 .sorted [.tup (cv ms)]= .ok (.lst (cv (eI ms))):=by
 constructor
 ·show (match fL (cv ms)with|some ms=>af (jM ms) (R.ok (Dt.lst (cv (eI ms))))|none=>.bad)=_;rw[kg];show af (jM ms) _=_;rw[h];rfl
 ·show (match fL (cv ms)with|some ms=>af (jM ms) (R.ok (Dt.lst (cv (eI ms))))|none=>.bad)=_;rw[kg];show af (jM ms) _=_;rw[h];rfl
theorem C8{ms:List Mx.D}(k:Mx.SK)(hl:ms.length<1000000)(hd:Mx.D.dC ms<=100)(hk:∀d∈ms,Hh k d=true)(hp:∀d∈ms,∀e∈ms,vC d e=true):jM ms=true:=by
 have zL:([Mx.SK.tt,.ts,.ti,.s,.i].any λk=>ms.all (Hh k))=true:=by rw[QH];exact⟨k,by cases k<;>simp,QG.mpr hk⟩
 unfold jM;rw[zL,Qz hl,Qz hd];simp only[Bool.true_and,QL,P5];exact .inr (QG.mpr λd h=>QG.mpr λe h2=>hp d h e h2)
theorem tD{n:Nat}:∀{ms:List Mx.D},(∀d∈ms,Mx.D.dep d<=n)->Mx.D.dC ms<=n
 |[],_=>by simp[Mx.D.dC]
 |m::ms,h=>by
  have h1:=h m Qc;have h2:=tD λd hd=>h d (P9 _ hd)
  simp only[Mx.D.dC]
  lia
theorem fK(ms:List Mx.D):(eI ms).Perm ms:=List.mergeSort_perm ..
theorem gR{d:Mx.D}{ms:List Mx.D}:d∈eI ms↔d∈ms:=(fK ms).mem_iff
theorem vA(a b c:Mx.D)(h1:ug a b=true)(h2:ug b c=true):ug a c=true:=by
 unfold ug at *;simp only[Q3]at *;cases h:Mx.D.lt c a with
 |false=>rfl
 |true=>
  exfalso;cases h3:Mx.D.lt a b with
  |true=>rw[Mx.D.lt_trans c a b h h3]at h2;cases h2
  |false=>have:=Mx.D.gk a b h3 h1;subst this;rw[h]at h2;cases h2
theorem vz(a b:Mx.D):(ug a b||ug b a)=true:=by
 unfold ug;cases h:Mx.D.lt b a with
 |false=>rfl
 |true=>
  cases h2:Mx.D.lt a b with
  |false=>rfl
  |true=>have:=Mx.D.lt_trans a b a h2 h;rw[Mx.D.lt_irrefl]at this;cases this
theorem oI(ms:List Mx.D):(eI ms).Pairwise λa b=>ug a b=true:=List.pairwise_mergeSort vA vz ms
variable{fs:List Fn}
noncomputable def wF(ic:Nat):Ts:=(.cons (.asg 3 (.bin .Add (.bin .Mult (.bin .Mod (.call ic (.cons (.var 0) (.cons (.var 1) .nil)) []) (.con (.int 2147483647))) (.bin .Add (.con (.int 48271)) (.bin .Mult (.con (.int 2)) (.var 1)))) (.bin .Mult (.con (.int 31)) (.var 1)))) (.cons (.ret (.bin .Mod (.bin .FloorDiv (.bin .Mod (.var 3) (.con (.int 2147483629))) (.con (.int 7))) (.var 2))) .nil))
noncomputable def bF(ns:List Int)(k many:Nat):Nat:=((((dM ns k % 2147483647)*(48271+2*k)+31*k) % 2147483629/7) % many).toNat
theorem jb{ns:List Int}{k many:Nat}(h:0<many):bF ns k many<many:=by
 unfold bF;have h1:=QI (((dM ns k % 2147483647)*(48271+2*k)+31*k) % 2147483629/7) (b:=many) ⋯;have h2:=QJ (((dM ns k % 2147483647)*(48271+2*k)+31*k) % 2147483629/7) (b:=many) ⋯
 lia
structure sS(fs:List Fn)(ip:Nat):Prop where
 ex:∃ic,fs[ic]?=some ⟨2,3,false,sV⟩/\fs[ip]?=some ⟨3,4,false,wF ic⟩
theorem j8{ip:Nat}(hp:sS fs ip){n:Nat}(hn:2<=n){ns:List Int}{k many:Nat}(hk:k<1000000)(hm:0<many):aw fs n ip [.cc ns,.int k,.int many] none= .ok (.int (bF ns k many),none):=by
 obtain⟨ic,h1,h2⟩:=hp.ex;refine aC h2 ⋯ rfl ?_;show fin (aV (aw fs (n-1)) (wF ic) [some (.cc ns),some (.int k),some (.int many),none] none)=_;have hc:=tq h1 (n:=n-1) ⋯ (ns:=ns) hk;generalize hx:dM ns k=x at hc;have r1:=QI x (b:=2147483647) (by decide);have r2:=QJ x (b:=2147483647) (by decide);have m1:=ez (i:=x) (j:=2147483647) (by decide);have m2:=aX (i:=2) (j:=k) (.inl (by decide));have m3:=aX (i:=x % 2147483647) (j:=48271+2*k) (.inl ⋯);have m4:=aX (i:=31) (j:=k) (.inl (by decide));have m5:=ez (i:=x % 2147483647*(48271+2*k)+31*k) (j:=2147483629) (by decide);have m6:=D8 (i:=(x % 2147483647*(48271+2*k)+31*k) % 2147483629) (j:=7) (by decide) (by decide);have m7:=ez (i:=(x % 2147483647*(48271+2*k)+31*k) % 2147483629/7) (j:=many) ⋯;refine aE (d:=.int (x % 2147483647*(48271+2*k)+31*k)) (S1:=none) (by simp only[RX,hc,m1,m2,m3,m4]) rfl ?_;refine(ax (d:=_) (S1:=none) (by simp only[RX,m5,m6,m7];rfl)).trans ?_;have h1:=QI (((x % 2147483647)*(48271+2*k)+31*k) % 2147483629/7) (b:=many) ⋯;have e:((bF ns k many:Nat):Int)=((x % 2147483647)*(48271+2*k)+31*k) % 2147483629/7 % many:=by unfold bF;rw[hx];omega
 rw[e]
theorem cV{n:Nat}{pre post:List Dt}{x:Dt}(h:aR 0 n=pre++x::post):pre.length<n/\x= .int pre.length:=by
 have hl:(aR 0 n).length=n:=by simp[aR]
 have h1:pre.length<n:=by rw[<-hl,h];simp
 refine⟨h1,?_⟩;have e:(aR 0 n)[pre.length]?=some x:=by rw[h];simp
 unfold aR at e;simp[h1]at e;exact e.symm
variable{fs:List Fn}
mutual
noncomputable def sm:Dt->Bool
 |.int _=>true
 |.str _=>true
 |.tup ds=>Mi ds
 |.lst ds=>Mi ds
 |_=>false
noncomputable def Mi:List Dt->Bool
 |[]=>true
 |d::ds=>sm d&&Mi ds
end
theorem p6{α:Type}:∀l:List α,l=[]\/∃a x,l=a++[x]
 |[]=>.inl rfl
 |x::l=>.inr ⟨(x::l).dropLast,(x::l).getLast (by simp),(RI (by simp)).symm⟩
variable{fs:List Fn}
theorem pF{α β:Type}{f:α->List β}{k:Nat}:∀{l:List α},(∀x∈l,(f x).length<=k)->(l.flatMap f).length<=l.length*k
 |[],_=>by simp
 |x::l,h=>by
  have h1:=h x Qc;have h2:=pF λy hy=>h y (P9 _ hy)
  rw[RW,Qm,Qo,Th]
  lia
theorem A3{a b:List Dt}(h:a.length+b.length<=lim):l6 .Add (.lst a) (.lst b)= .ok (.lst (a++b)):=by show af (decide (a.length+b.length<=lim)) _=_;rw[Qz h];rfl
variable{fs:List Fn}
noncomputable def row(it:Mx.D)(c:Int):Mx.D:=.tup [it,.int c]
variable{fs:List Fn}
section
variable{F:FT}{S:Sx}{ρ:ao}
theorem gd(b:BI)(e:C):ev F (.bi b (.cons e .nil)) ρ S=(ev F e ρ S).bind λx=>(d6 b [x.1]).bind λd=>.ok (d,x.2):=by simp only[RX];cases ev F e ρ S<;>rfl
theorem ints_map(l:List Int):intsOf (l.map Dt.int)=some l:=by
 induction l with
 |nil=>rfl
 |cons x l ih=>rw[QO,intsOf,ih];rfl
theorem CW(l:List Int):d6 .sum [.lst (l.map Dt.int)]= .ok (.int l.sum):=by show (match intsOf (l.map Dt.int)with|some ns=>R.ok (Dt.int ns.sum)|none=>.bad)=_;rw[ints_map]
end
theorem E3{l:List Int}(h:∀x∈l,0<=x):0<=l.sum:=by
 induction l with
 |nil=>simp
 |cons x l ih=>
  have:=ih λy hy=>h y (P9 _ hy)
  have:=h x Qc;rw[SL];lia
variable{fs:List Fn}
noncomputable def kA(F:FT)(n:Nat)(g9:mq)(jz:Tg)(BX:Cs)(e:C):ao->Sx->R (List Dt×Sx):=λρ1 S1=>(d7 F g9 ρ1 S1).bind λx2=>af (decide (n*x2.1.length<=lim)&&decide (rL g9=0)) (aK (aN jz (bh F BX) (bj F e) ρ1) x2.1 x2.2)
theorem kF{F:FT}{ρ:ao}{S S1 S2:Sx}{ds:List Dt}{cap:List (Option Nat)}{it g9:mq}{tg jz:Tg}{cs BX:Cs}{e:C}{out:List Dt}(h:d7 F it ρ S= .ok (ds,S1))(hl:ds.length<=lim)(hk:(decide (rL it<=1)||lW F it ρ S)=true)(hc:aK (aN tg (bh F cs) (kA F ds.length g9 jz BX e) (jN cap ρ)) ds S1= .ok (out,S2)):
  ev F (.g6 cap it tg cs g9 jz BX e) ρ S= .ok (.lst out,S2):=by
 rw[ev,h,R.ah,Qz hl,hk,QZ,guard_true];show (aK (aN tg (bh F cs) (kA F ds.length g9 jz BX e) (jN cap ρ)) ds S1).bind _=_;rw[hc];rfl
theorem zj{F:FT}{ρ ρ1:ao}{S S1 S2:Sx}{d:Dt}{ds out:List Dt}{n:Nat}{g9:mq}{tg jz:Tg}{BX:Cs}{e:C}(hs:fj tg d ρ= .ok ρ1)(h:d7 F g9 ρ1 S= .ok (ds,S1))(hl:n*ds.length<=lim)(hk:rL g9=0)(hc:aK (aN jz (bh F BX) (bj F e) ρ1) ds S1= .ok (out,S2)):
  aN tg (bh F .nil) (kA F n g9 jz BX e) ρ d S= .ok (out,S2):=by
 unfold aN kA;rw[hs,R.ah,bh,R.ah];simp only[TQ,h,R.ah,Qz hl,Qz hk,QZ,guard_true,hc]
variable{fs:List Fn}
noncomputable def tI(l:List Int):Dt:=.tup (l.map Dt.int)
noncomputable def lI(R:List (List Int)):Dt:=.lst (R.map tI)
section
variable{F:FT}{S:Sx}{ρ:ao}
theorem cm{f:Dt->Sx->R (List Dt×Sx)}{g:Int->Dt}:∀{l:List Int},(∀x∈l,f (.int x) S= .ok ([g x],S))->aK f (l.map Dt.int) S= .ok (l.map g,S)
 |[],_=>rfl
 |x::l,h=>by rw[QO,aK,h x Qc,R.ah,cm λy hy=>h y (P9 _ hy)];rfl
theorem bP{α:Type}{t:α->Dt}{f:Dt->Sx->R (List Dt×Sx)}{g:α->List Dt}:∀{l:List α},(∀x∈l,f (t x) S= .ok (g x,S))->aK f (l.map t) S= .ok (l.flatMap g,S)
 |[],_=>rfl
 |x::l,h=>by rw[QO,aK,h x Qc,R.ah,bP λy hy=>h y (P9 _ hy)];rfl
theorem aU{α:Type}{t:α->Dt}{f:Dt->Sx->R (List Dt×Sx)}{g:α->Dt}{l:List α}(h:∀x∈l,f (t x) S= .ok ([g x],S)):aK f (l.map t) S= .ok (l.map g,S):=by rw[bP (g:=λx=>[g x]) h,jD]
theorem dh(a b:List Int):cX (a.map Dt.int) (b.map Dt.int)=(a.zip b).map λp=>.tup [.int p.1,.int p.2]:=by
 unfold cX
 induction a generalizing b with
 |nil=>rfl
 |cons x a ih=>cases b with|nil=>rfl|cons y b=>simp[ih]
theorem BB(l:List Int):d6 .sum [tI l]= .ok (.int l.sum):=by show (match intsOf (l.map Dt.int)with|some ns=>R.ok (Dt.int ns.sum)|none=>.bad)=_;rw[ints_map]
end
noncomputable def aa(a b:List Int):Int:=((a.zip b).map λp=>p.1*p.2).sum
noncomputable abbrev Cn(x:Int):Prop:=x.natAbs<2^64
noncomputable def pf:Ts:=(.cons (.ret (.bi .sum (.cons (.comp [none,none,none] (.zip (.var 0) (.var 1)) (.tp [1,2]) .nil (.bin .Mult (.var 1) (.var 2))) .nil))) .nil)
theorem Bi{ip N:Nat}(hf:fs[ip]?=some ⟨2,2,false,pf⟩)(hN:1<=N){a b:List Int}(hb:∀x∈b,Cn x)(hl:a.length<=1000):aw fs N ip [tI a,tI b] none= .ok (.int (aa a b),none):=by
 have dF:lim=1000000:=rfl;refine aC hf hN rfl ?_;show fin (aV (aw fs (N-1)) pf [some (tI a),some (tI b)] none)=_;refine ax ?_;have hc:aK (aN (.tp [1,2]) (bh (aw fs (N-1)) .nil) (bj (aw fs (N-1)) (.bin .Mult (.var 1) (.var 2))) [none,none,none]) (cX (a.map Dt.int) (b.map Dt.int)) none= .ok ((a.zip b).map λp=>.int (p.1*p.2),none):=by
  rw[dh];refine aU λp hp=>?_
  have m:=aX (i:=p.1) (j:=p.2) (.inr (hb p.2 (SA hp).2));exact aO (ρ1:=[none,some (.int p.1),some (.int p.2)]) rfl (by simp only[RX,m]) rfl
 rw[gd,aT (ds:=cX (a.map Dt.int) (b.map Dt.int)) (S1:=none) (jt (S1:=none) (S2:=none) rfl rfl rfl rfl) (by rw[dh,Qf,Si];lia) rfl hc,R.ah];have e:((a.zip b).map λp=>Dt.int (p.1*p.2))=((a.zip b).map λp=>p.1*p.2).map Dt.int:=by rw[Sl];rfl
 rw[e,CW];rfl
noncomputable def gI(l:List Int)(p:Nat):Int:=l.getD p 0
noncomputable def bE(r:List Int)(p:Nat)(b:List Int):List Int:=(r.zip b).map λq=>gI b p*q.1-gI r p*q.2
theorem gi{l:List Int}{p:Nat}(h:p<l.length):cu (tI l) (.int p)= .ok (.int (gI l p)):=by refine(oj (ds:=l.map Dt.int) (k:=p) (d:=.int (gI l p)) ?_).1;rw[Qp,Qu h];simp[gI,List.getD,Qu h]
noncomputable def wz:Ts:=(.cons (.ret (.bi .tuple (.cons (.comp [none,none,none,some 2,some 1,some 0] (.zip (.var 0) (.var 2)) (.tp [1,2]) .nil (.bin .Sub (.bin .Mult (.idx (.var 3) (.var 4)) (.var 1)) (.bin .Mult (.idx (.var 5) (.var 4)) (.var 2)))) .nil))) .nil)
theorem dO{l:List Int}{p:Nat}(h:p<l.length):gI l p∈l:=by simp[gI,List.getD,Qu h]
theorem wZ{ic N:Nat}(hf:fs[ic]?=some ⟨3,3,false,wz⟩)(hN:1<=N){r b:List Int}{p:Nat}(hr:p<r.length)(hb:p<b.length)(OK:∀x∈r,Cn x)(Jt:∀x∈b,Cn x)(hl:r.length<=1000):aw fs N ic [tI r,.int p,tI b] none= .ok (tI (bE r p b),none):=by
 have dF:lim=1000000:=rfl;refine aC hf hN rfl ?_;show fin (aV (aw fs (N-1)) wz [some (tI r),some (.int p),some (tI b)] none)=_;refine ax ?_;have i1:=gi hr;have i2:=gi hb;have hc:aK (aN (.tp [1,2]) (bh (aw fs (N-1)) .nil) (bj (aw fs (N-1)) (.bin .Sub (.bin .Mult (.idx (.var 3) (.var 4)) (.var 1)) (.bin .Mult (.idx (.var 5) (.var 4)) (.var 2)))) [none,none,none,some (tI b),some (.int p),some (tI r)]) (cX (r.map Dt.int) (b.map Dt.int)) none= .ok ((r.zip b).map λq=>.int (gI b p*q.1-gI r p*q.2),none):=by
  rw[dh];refine aU λq hq=>?_
  have m1:=aX (i:=gI b p) (j:=q.1) (.inr (OK _ (SA hq).1));have m2:=aX (i:=gI r p) (j:=q.2) (.inr (Jt _ (SA hq).2));exact aO (ρ1:=[none,some (.int q.1),some (.int q.2),some (tI b),some (.int p),some (tI r)]) rfl (by simp only[RX,i1,i2,m1,m2]) rfl
 rw[gd,aT (ds:=cX (r.map Dt.int) (b.map Dt.int)) (S1:=none) (jt (S1:=none) (S2:=none) rfl rfl rfl rfl) (by rw[dh,Qf,Si];lia) rfl hc,R.ah];have e:((r.zip b).map λq=>Dt.int (gI b p*q.1-gI r p*q.2))=(bE r p b).map Dt.int:=by unfold bE;rw[Sl];rfl
 rw[e];rfl
theorem tv{r b:List Int}(h:r.length=b.length)(p:Nat):(bE r p b).length=r.length:=by
 unfold bE;rw[Qf,Si]
 lia
theorem jm{r b:List Int}{p k:Nat}(h:r.length=b.length)(hk:k<r.length):gI (bE r p b) k=gI b p*gI r k-gI r p*gI b k:=by
 have hz:k<(r.zip b).length:=by rw[Si];lia
 unfold bE gI;rw[List.getD,Qp,Qu hz,List.getElem_zip];simp[List.getD,Qu hk,Qu (h▸hk:k<b.length)]
theorem wY{r b:List Int}{p:Nat}{B:Nat}(hr:p<r.length)(hb:p<b.length)(h1:∀x∈r,x.natAbs<=B)(h2:∀x∈b,x.natAbs<=B):∀x∈bE r p b,x.natAbs<=2*B*B:=by
 intro x hx;obtain⟨q,hq,rfl⟩:=QF.mp hx;have a1:=Tc (h2 _ (dO hb)) (h1 _ (SA hq).1);have a2:=Tc (h1 _ (dO hr)) (h2 _ (SA hq).2);have e1:(gI b p*q.1).natAbs=(gI b p).natAbs*q.1.natAbs:=Rl ..;have e2:(gI r p*q.2).natAbs=(gI r p).natAbs*q.2.natAbs:=Rl ..;have:2*B*B=B*B+B*B:=by rw[Nat.mul_assoc,Nat.two_mul]
 lia
theorem rz{F:FT}{ρ:ao}{S S1:Sx}{b:BI}{es:Cs}{v:Bool}(h:ev F (.bi b es) ρ S= .ok (.bl v,S1)):cO F (.bi b es) ρ S= .ok (v,S1):=by
 rw[ev]at h;rw[cO];cases h1:ij F es ρ S with
 |ok x=>
  rw[h1]at h;simp only[R.ah]at h ⊢;cases h2:d6 b x.1 with
  |ok d=>rw[h2]at h;simp only[R.ah]at h ⊢;cases h;rfl
  |ex k=>rw[h2]at h;cases h
  |bad=>rw[h2]at h;cases h
 |ex k=>rw[h1]at h;cases h
 |bad=>rw[h1]at h;cases h
theorem Ah(l:List Bool):iO (l.map Dt.bl)=some l:=by
 induction l with
 |nil=>rfl
 |cons x l ih=>rw[QO,iO,ih];rfl
theorem qZ(l:List Bool):d6 .any [.lst (l.map Dt.bl)]= .ok (.bl (l.any id)):=by show (match iO (l.map Dt.bl)with|some ns=>R.ok (Dt.bl (ns.any id))|none=>.bad)=_;rw[Ah]
theorem nI(i:Int):d6 .abs [.int i]= .ok (.int i.natAbs):=by show R.ok (Dt.int (if i<0 then -i else i))=_;congr 2;split<;>lia
noncomputable def sW:C:=(.bi .any (.cons (.g6 [none,none,none] (.seq (.var 0)) (.nm 1) .nil (.seq (.var 1)) (.nm 2) .nil (.cmp .Gt (.bi .abs (.cons (.var 2) .nil)) (.con (.int 3)))) .nil))
noncomputable def sX:C:=(.bi .any (.cons (.comp [none,none] (.seq (.var 2)) (.nm 1) .nil (.cmp .Gt (.bi .abs (.cons (.var 1) .nil)) (.con (.int 20)))) .nil))
noncomputable def z9:Ts:=(.cons (.ifs (.cmp .Gt (.bi .len (.cons (.var 0) .nil)) (.con (.int 16))) (.cons (.rs 0 []) .nil) .nil) (.cons (.ifs (.cmp .Gt (.var 1) (.con (.int 4))) (.cons (.rs 0 []) .nil) .nil) (.cons (.ifs sW (.cons (.rs 0 []) .nil) .nil) (.cons (.ifs sX (.cons (.rs 0 []) .nil) .nil) .nil))))
noncomputable def u7(M:List (List Int)):Bool:=M.any λr=>r.any λx=>decide (3<x.natAbs)
noncomputable def u9(r:List Int):Bool:=r.any λx=>decide (20<x.natAbs)
noncomputable def brk(M:List (List Int))(many:Int)(r:List Int):Bool:=decide (16<M.length)||decide (4<many)||u7 M||u9 r
noncomputable def u5:Ts:=(.cons (.fr (.tp [2,3]) (.zip (.var 0) (.var 1)) (.cons (.ifs (.cmp .Gt (.var 2) (.var 3)) (.cons (.ret (.con (.bl false))) .nil) .nil) .nil)) (.cons (.ret (.con (.bl true))) .nil))
noncomputable def CU(iu:Nat):Ts:=(.cons (.fr (.nm 2) (.seq (.var 1)) (.cons (.ifs (.call iu (.cons (.var 2) (.cons (.var 0) .nil)) []) (.cons (.ret (.con (.bl true))) .nil) .nil) .nil)) (.cons (.ret (.con (.bl false))) .nil))
variable{fs:List Fn}
noncomputable def pD(q:Nat×List Int):Dt:=.tup [.int q.1,tI q.2]
noncomputable def jL:Nat->Nat
 |0=>20
 |p+1=>2*jL p*jL p
theorem sZ:∀p,1<=jL p
 |0=>by decide
 |p+1=>by have:=sZ p;have h:1*1<=2*jL p*jL p:=Tc ⋯ this;simpa [jL]using h
theorem nH(p:Nat):jL p<=jL (p+1):=by have:=sZ p;have h:1*jL p<=2*jL p*jL p:=Tc ⋯ (Qb _);simpa [jL]using h
theorem qX{p q:Nat}(h:p<=q):jL p<=jL q:=by
 induction h with
 |refl=>exact Qb _
 |step _ ih=>exact Qh ih (nH _)
structure uZ(m p:Nat)(PS:List (Nat×List Int))(LS:List (List Int)):Prop where
 len:∀r∈LS,r.length=m+1
 bd:∀r∈LS,∀x∈r,x.natAbs<=jL p
 pl:∀q∈PS,q.1<p/\q.2.length=m+1/\gI q.2 q.1≠0
 pb:∀q∈PS,∀x∈q.2,x.natAbs<=jL p
 zr:∀q∈PS,∀r∈LS,gI r q.1=0
 nd:(PS.map (·.1)).Nodup
 ct:PS.length<=p
theorem uZ.next{m p:Nat}{PS:List (Nat×List Int)}{LS:List (List Int)}(h:uZ m p PS LS):uZ m (p+1) PS LS:=
 ⟨h.len,λr hr x hx=>Qh (h.bd r hr x hx) (nH p),λq hq=>⟨by have:=(h.pl q hq).1;lia,(h.pl q hq).2⟩,λq hq x hx=>Qh (h.pb q hq x hx) (nH p),h.zr,h.nd,by have:=h.ct;lia⟩
theorem uZ.clear{m p:Nat}{PS:List (Nat×List Int)}{LS:List (List Int)}{b:List Int}(h:uZ m p PS LS)(hp:p<m)(hb:b∈LS)(hn:gI b p≠0):uZ m (p+1) (PS.map (λq=>(q.1,bE q.2 p b))++[(p,b)]) (LS.map λr=>bE r p b):=by
 have lb:=h.len b hb;refine⟨?_,?_,?_,?_,?_,?_,?_⟩
 ·intro r hr;obtain⟨r0,h0,rfl⟩:=QF.mp hr;rw[tv (by rw[h.len r0 h0,lb]),h.len r0 h0]
 ·intro r hr x hx;obtain⟨r0,h0,rfl⟩:=QF.mp hr;exact wY (by rw[h.len r0 h0];lia) (by rw[lb];lia) (h.bd r0 h0) (h.bd b hb) x hx
 ·intro q hq;rcases Qs.mp hq with hq|hq
  ·obtain⟨q0,h0,rfl⟩:=QF.mp hq;obtain⟨h1,h2,h3⟩:=h.pl q0 h0;refine⟨by show q0.1<p+1;lia,by show (bE q0.2 p b).length=_;rw[tv (by rw[h2,lb]),h2],?_⟩;show gI (bE q0.2 p b) q0.1≠0;rw[jm (by rw[h2,lb]) (by rw[h2];lia),h.zr q0 h0 b hb,Rk,Rq];exact Int.mul_ne_zero hn h3
  ·rw[QE]at hq;subst hq;exact⟨by show p<p+1;lia,lb,hn⟩
 ·intro q hq x hx;rcases Qs.mp hq with hq|hq
  ·obtain⟨q0,h0,rfl⟩:=QF.mp hq;exact wY (by rw[(h.pl q0 h0).2.1];lia) (by rw[lb];lia) (h.pb q0 h0) (h.bd b hb) x hx
  ·rw[QE]at hq;subst hq;exact Qh (h.bd b hb x hx) (nH p)
 ·intro q hq r hr;obtain⟨r0,h0,rfl⟩:=QF.mp hr;have l0:=h.len r0 h0;rcases Qs.mp hq with hq|hq
  ·obtain⟨q0,h1,rfl⟩:=QF.mp hq;show gI (bE r0 p b) q0.1=0;rw[jm (by rw[l0,lb]) (by rw[l0];have:=(h.pl q0 h1).1;lia),h.zr q0 h1 r0 h0,h.zr q0 h1 b hb,Rk,Rk,Rq]
  ·rw[QE]at hq;subst hq;show gI (bE r0 p b) p=0;rw[jm (by rw[l0,lb]) (by rw[l0];lia),Rg,Rp]
 ·rw[QP,Sl,List.nodup_append];refine⟨h.nd,by simp,λa ha c hc e=>?_⟩;obtain⟨q,hq,rfl⟩:=QF.mp ha;rw[QO,Sm,QE]at hc;have:=(h.pl q hq).1;have e:q.1=c:=e
  lia
 ·rw[Qm,Qf];have:=h.ct;simp only[Qo,Sa]
  lia
noncomputable def BR:C:=(.comp [none,none,some 5] (.seq (.var 3)) (.nm 1) (.cons (.cmp .NotEq (.idx (.var 1) (.var 2)) (.con (.int 0))) .nil) (.var 1))
noncomputable def wH(ic:Nat):C:=(.comp [none,none,none,some 7,some 5] (.seq (.var 4)) (.tp [1,2]) .nil (.tup (.cons (.var 1) (.cons (.call ic (.cons (.var 2) (.cons (.var 4) (.cons (.var 3) .nil))) []) .nil))))
noncomputable def BS(ic:Nat):C:=(.comp [none,none,some 7,some 5] (.seq (.var 3)) (.nm 1) .nil (.call ic (.cons (.var 1) (.cons (.var 3) (.cons (.var 2) .nil))) []))
noncomputable def BP(ic:Nat):Ts:=(.cons (.asg 6 BR) (.cons (.ifs (.var 6) (.cons (.asg 7 (.idx (.var 6) (.con (.int 0)))) (.cons (.asg 4 (.bin .Add (wH ic) (.lst (.cons (.tup (.cons (.var 5) (.cons (.var 7) .nil))) .nil)))) (.cons (.asg 3 (BS ic)) .nil))) .nil) .nil))
noncomputable def BQ:C:=(.comp [none,none,none] (.zip (.var 0) (.var 2)) (.tp [1,2]) .nil (.bin .Add (.bi .tuple (.cons (.var 1) .nil)) (.tup (.cons (.var 2) .nil))))
noncomputable def wG:C:=(.bi .any (.cons (.comp [none,none,some 1] (.seq (.var 3)) (.nm 1) .nil (.cmp .NotEq (.idx (.var 1) (.var 2)) (.con (.int 0)))) .nil))
noncomputable def Ab(ic:Nat):Ts:=(.cons (.asg 3 BQ) (.cons (.asg 4 (.lst .nil)) (.cons (.fr (.nm 5) (.rng1 (.var 1)) (BP ic)) (.cons (.ifs wG (.cons (.ret (.con .aW)) .nil) .nil) (.cons (.ret (.var 4)) .nil)))))
theorem zip_rows(M:List (List Int))(r:List Int):cX (M.map tI) (r.map Dt.int)=(M.zip r).map λq=>.tup [tI q.1,.int q.2]:=by
 unfold cX
 induction M generalizing r with
 |nil=>rfl
 |cons x a ih=>cases r with|nil=>rfl|cons y b=>simp[ih]
theorem cH(l:List Int):kY (tI l)=true:=by
 show iA (l.map Dt.int)=true
 induction l with
 |nil=>rfl
 |cons x l ih=>rw[QO,iA,ih];rfl
theorem LC(x:Int):cL .NotEq (.int x) (.int 0)= .ok (decide (x≠0)):=by show R.ok (!(x==0))=_;congr 1;by_cases h:x=0<;>simp[h]
variable{fs:List Fn}
theorem td{l:List Int}(h:l≠[]):d6 .maxL [.lst (l.map Dt.int)]= .ok (.int (dq l)):=by
 show (match intsOf (l.map Dt.int)with|some ns=>af (!ns.isEmpty) (R.ok (Dt.int (dq ns)))|none=>.bad)=_;rw[ints_map];cases l with
 |nil=>exact absurd rfl h
 |cons=>rfl
noncomputable def gB:Nat->Nat->Nat
 |0,_=>1
 |1,f=>20+3*f
 |2,f=>6*(20+3*f)
 |3,f=>36*(20+3*f)
 |_,_=>0
noncomputable def wD:C:=(.bi .maxL (.cons (.g6 [none,none,none] (.seq (.var 0)) (.nm 1) .nil (.seq (.var 1)) (.nm 2) .nil (.bi .abs (.cons (.var 2) .nil))) .nil))
noncomputable def wC:C:=(.bi .maxL (.cons (.comp [none,none] (.seq (.var 1)) (.nm 1) .nil (.bi .abs (.cons (.var 1) .nil))) .nil))
noncomputable def wB:Ts:=(.cons (.ifs (.cmp .Eq (.var 2) (.con (.int 0))) (.cons (.ret (.con (.int 1))) .nil) .nil) (.cons (.asg 4 wD) (.cons (.asg 5 wC) (.cons (.asg 6 (.tup (.cons (.con (.int 1)) (.cons (.bin .Mult (.con (.int 2)) (.var 4)) (.cons (.bin .Mult (.bin .Mult (.con (.int 4)) (.var 4)) (.var 4)) (.cons (.con (.int 0)) .nil)))))) (.cons (.ret (.bin .Mult (.idx (.var 6) (.bin .Sub (.var 2) (.con (.int 1)))) (.bin .Add (.var 5) (.bin .Mult (.var 3) (.var 4))))) .nil)))))
theorem w6{α:Type}(xs:List α){p:Nat}(h:p<=xs.length):cutD xs none (some (p:Int))=xs.take p:=by unfold cutD;rw[HT.lD,HT.uG,RN,Nat.sub_zero,Nat.min_eq_left h]
theorem rh{α:Type}(xs:List α){p:Nat}(h:p<=xs.length):cutD xs (some (p:Int)) none=xs.drop p:=by unfold cutD;rw[HT.lD,HT.uG,Nat.min_eq_left h,SR (by rw[R9];lia)]
noncomputable def BU:C:=(.g6 [none,none,none,some 2,some 4] (.seq (.var 3)) (.nm 1) .nil (.rng1 (.bin .Add (.var 3) (.con (.int 1)))) (.nm 2) .nil (.bin .Add (.bin .Add (.sliH (.var 1) (.var 4)) (.tup (.cons (.var 2) .nil))) (.sliL (.var 1) (.bin .Add (.var 4) (.con (.int 1))))))
noncomputable def Ae:Ts:=(.cons (.asg 3 (.lst (.cons (.bin .Mult (.tup (.cons (.con (.int 0)) .nil)) (.var 0)) .nil))) (.cons (.fr (.nm 4) (.seq (.var 1)) (.cons (.asg 3 BU) .nil)) (.cons (.ret (.var 3)) .nil)))
theorem uE{m:Nat}(x:Int)(h:m<=1000):l6 .Mult (.tup [.int x]) (.int m)= .ok (tI (List.replicate m x)):=by
 show af (decide (((m:Int)).natAbs<=lim)&&decide ([Dt.int x].length*((m:Int)).toNat<=lim)) (R.ok (Dt.tup (List.replicate ((m:Int)).toNat [Dt.int x]).flatten))=_;have dF:lim=1000000:=rfl;rw[Qz ⋯,Qz (by simp;lia)];have e:(List.replicate ((m:Int)).toNat [Dt.int x]).flatten=(List.replicate m x).map Dt.int:=by
  rw[Rr,List.map_replicate]
  induction m with
  |zero=>rfl
  |succ m ih=>rw[SG,RY,ih ⋯,SG];rfl
 rw[e];rfl
variable{fs:List Fn}
noncomputable abbrev MB(m:Nat)(q:List Int):Prop:=q.length=m/\∀x∈q,(0:Int)<=x/\x.natAbs<2^200
theorem uz{A B:Nat}:∀{l q:List Int},(∀x∈l,x.natAbs<=A)->(∀x∈q,x.natAbs<=B)->(aa l q).natAbs<=l.length*(A*B)
 |[],q,_,_=>by simp[aa]
 |x::l,[],_,_=>by simp[aa]
 |x::l,y::q,h1,h2=>by
  have ih:=uz (l:=l) (q:=q) (λz hz=>h1 z (P9 _ hz)) λz hz=>h2 z (P9 _ hz)
  have e:aa (x::l) (y::q)=x*y+aa l q:=rfl;have h3:=Tc (h1 x Qc) (h2 y Qc);have h4:(x*y).natAbs=x.natAbs*y.natAbs:=Rl ..;have h5:=Int.natAbs_add_le (x*y) (aa l q);rw[e,Qo,Th]
  lia
theorem pv{α:Type}(xs:List α)(h:xs≠[]):cutD xs none (some (-1))=xs.dropLast:=by
 unfold cutD;have:xs.length≠0:=λz=>h (RP z)
 have e:HT.bU xs.length xs.length (some (-1))=xs.length-1:=by
  show (if (-1:Int)<0 then((-1:Int)+(xs.length:Int)).toNat else min (-1:Int).toNat xs.length)=_;rw[TN (by decide)]
  lia
 rw[HT.lD,e,RN,Nat.sub_zero,List.dropLast_eq_take]
noncomputable def wA(ip:Nat):Ts:=(.cons (.asgT [5,6] (.bi .dvm (.cons (.bin .Sub (.idx (.var 4) (.neg (.con (.int 1)))) (.call ip (.cons (.sliH (.var 4) (.neg (.con (.int 1)))) (.cons (.var 0) .nil)) [])) (.cons (.idx (.var 4) (.var 3)) .nil)))) (.cons (.ifs (.or (.cmp .NotEq (.var 6) (.con (.int 0))) (.cmp .Lt (.var 5) (.con (.int 0)))) (.cons (.ret (.con .aW)) .nil) .nil) (.cons (.sr 2 (.var 3) (.var 5)) .nil)))
noncomputable def Aa(ip:Nat):Ts:=(.cons (.asgM 2 (.bi .list (.cons (.var 0) .nil))) (.cons (.fr (.tp [3,4]) (.seq (.var 1)) (wA ip)) (.cons (.ret (.bi .tuple (.cons (.mvr 2) .nil))) .nil)))
theorem vD{x:Int}(h:x.natAbs<=jL 4)(h0:x≠0):x.natAbs.log2<9000:=by
 have h1:x.natAbs<2^100:=S9 h (by decide);have h2:x.natAbs.log2<100:=(Nat.log2_lt ⋯).mpr h1
 lia
noncomputable def Ac(is ig iw ic:Nat):Ts:=(.cons (.asg 3 (.call is (.cons (.var 0) (.cons (.var 1) (.cons (.var 2) .nil))) [])) (.cons (.ifs (.cmp .Is (.var 3) (.con .aW)) (.cons (.ret (.lst .nil)) .nil) .nil) (.cons (.asg 4 (.comp [none,none,none] (.seq (.var 3)) (.tp [1,2]) .nil (.var 1))) (.cons (.asg 5 (.comp [none,none,some 4] (.rng1 (.var 1)) (.nm 1) (.cons (.cmp .NotIn (.var 1) (.var 2)) .nil) (.var 1))) (.cons (.asg 6 (.call ig (.cons (.var 0) (.cons (.var 2) (.cons (.bi .len (.cons (.var 4) .nil)) (.cons (.bi .len (.cons (.var 5) .nil)) .nil)))) [])) (.cons (.asg 7 (.comp [none,none,some 3] (.seq (.call iw (.cons (.var 1) (.cons (.var 5) (.cons (.var 6) .nil))) [])) (.nm 1) .nil (.call ic (.cons (.var 1) (.cons (.var 2) .nil)) []))) (.cons (.ret (.comp [none,none] (.seq (.var 7)) (.nm 1) (.cons (.cmp .IsNot (.var 1) (.con .aW)) .nil) (.var 1))) .nil)))))))
structure wm(fs:List Fn)(ip il is ig iw ic io:Nat):Prop where
 p:fs[ip]?=some ⟨2,2,false,pf⟩
 l:fs[il]?=some ⟨3,3,false,wz⟩
 s:fs[is]?=some ⟨3,8,false,Ab il⟩
 g:fs[ig]?=some ⟨4,7,false,wB⟩
 w:fs[iw]?=some ⟨3,5,false,Ae⟩
 c:fs[ic]?=some ⟨2,7,false,Aa ip⟩
 o:fs[io]?=some ⟨3,8,false,Ac is ig iw ic⟩
theorem nk{α:Type}(p:α->Bool):∀l:List α,(l.filter p).length+(l.filter λx=> !p x).length=l.length
 |[]=>rfl
 |x::l=>by have:=nk p l;rw[List.filter_cons,List.filter_cons];cases p x<;>simp<;>lia
theorem pH{m:Nat}{L:List Nat}(hn:L.Nodup)(hl:∀p∈L,p<m):((List.range m).filter λp=> !decide (p∈L)).length+L.length=m:=by
 have h1:(((List.range m).filter λp=>decide (p∈L))).Perm L:=l7 (List.Pairwise.filter _ List.nodup_range) hn λx=>by rw[So,QR,TK];exact⟨λh=>h.2,λh=>⟨hl x h,h⟩⟩
 have h2:=h1.length_eq;have h3:=nk (λp=>decide (p∈L)) (List.range m);rw[Sb]at h3
 lia
theorem HV{m s f g:Nat}(hs:s+f=m)(hm:m<=4)(hg:g<=gB s f):(g+1)^f<=900000:=by
 refine Qh (Nat.pow_le_pow_left (Nat.succ_le_succ hg) f) ?_;have hf:f<=4:=⋯
 have OL:s<=4:=⋯
 match s,f,OL,hf,hs with
 |0,0,_,_,_=>decide
 |0,1,_,_,_=>decide
 |0,2,_,_,_=>decide
 |0,3,_,_,_=>decide
 |0,4,_,_,_=>decide
 |1,0,_,_,_=>decide
 |1,1,_,_,_=>decide
 |1,2,_,_,_=>decide
 |1,3,_,_,_=>decide
 |1,4,_,_,h=>lia
 |2,0,_,_,_=>decide
 |2,1,_,_,_=>decide
 |2,2,_,_,_=>decide
 |2,3,_,_,h=>lia
 |2,4,_,_,h=>lia
 |3,0,_,_,_=>decide
 |3,1,_,_,_=>decide
 |3,2,_,_,h=>lia
 |3,3,_,_,h=>lia
 |3,4,_,_,h=>lia
 |4,0,_,_,_=>decide
 |4,1,_,_,h=>lia
 |4,2,_,_,h=>lia
 |4,3,_,_,h=>lia
 |4,4,_,_,h=>lia
theorem AI(p:Nat)(L:List Nat):cL .NotIn (.int p) (.lst (L.map λ(q:Nat)=>Dt.int q))= .ok (!decide (p∈L)):=by
 have h:∀L:List Nat,l8 (L.map λ(q:Nat)=>Dt.int q)=true/\pA (L.map λ(q:Nat)=>Dt.int q)=0/\inD (.int p) (L.map λ(q:Nat)=>Dt.int q)=decide (p∈L):=by
  intro L
  induction L with
  |nil=>exact⟨rfl,rfl,rfl⟩
  |cons q L ih=>
   refine⟨by rw[QO,l8,ih.1];rfl,by rw[QO,pA,ih.2.1];rfl,?_⟩;have e:dG (.int (q:Int)) (.int (p:Int))=decide (p=q):=by
    simp only[dG];rw[Q0];simp
    lia
   have:=ih.2.2;unfold inD at this ⊢;rw[QO,List.any_cons,this,e,Q0];simp
 obtain⟨h1,h2,h3⟩:=h L;show af (pl (.int (p:Int))&&l8 (L.map λ(q:Nat)=>Dt.int q)&&decide (pA (L.map λ(q:Nat)=>Dt.int q)<=100)) (R.ok (!inD (.int p) (L.map λ(q:Nat)=>Dt.int q)))=_;rw[h1,h2,h3];rfl
variable{fs:List Fn}
theorem AZ(rs:List Mx.D):ofD (.tup rs)= .tup (cv rs):=by simp[ofD]
variable{fs:List Fn}
noncomputable def dI(q:List Int):Mx.D:=.tup (q.map Mx.D.int)
noncomputable def E8:Mx.D->List Int
 |.tup ds=>ds.filterMap λd=>match d with|.int i=>some i|_=>none
 |_=>[]
theorem nq(q:List Int):E8 (dI q)=q:=by
 show (q.map Mx.D.int).filterMap _=q;rw[List.filterMap_map]
 induction q with
 |nil=>rfl
 |cons x q ih=>rw[RU];simp only[Function.comp];exact TJ _ ih
theorem II(q:List Int):tI q=ofD (dI q):=by unfold dI;rw[AZ,k7,Sl];exact TJ Dt.tup (Sj λx _=>by simp[ofD])
theorem B9(Q:List (List Int)):lI Q= .lst (cv (Q.map dI)):=by unfold lI;rw[k7,Sl];congr 1;exact Sj λq _=>II q
theorem ow:∀a b:List Int,lZ (a.map Mx.D.int) (b.map Mx.D.int)=true
 |[],_=>by simp[lZ]
 |_::_,[]=>by simp[lZ]
 |x::a,y::b=>by simp only[QO,lZ,vC,Bool.true_and];exact ow a b
noncomputable def CT(ik io iv:Nat):Ts:=(.cons (.Gh (.call ik (.cons (.var 0) (.cons (.var 1) (.cons (.tup .nil) .nil))) [])) (.cons (.asgM 2 (.lst .nil)) (.cons (.fr (.nm 3) (.seq (.bi .sorted (.cons (.call io (.cons (.var 0) (.cons (.var 1) (.cons (.bin .Mult (.tup (.cons (.con (.int 0)) .nil)) (.bi .len (.cons (.var 0) .nil))) .nil))) []) .nil))) (.cons (.ifs (.and (.cmp .Gt (.bi .sum (.cons (.var 3) .nil)) (.con (.int 0))) (.nt (.call iv (.cons (.var 3) (.cons (.mvr 2) .nil)) []))) (.cons (.app 2 (.var 3)) .nil) .nil) .nil)) (.cons (.ret (.mvr 2)) .nil))))
noncomputable def CS(ik io iv ie:Nat):Ts:=(.cons (.Gh (.call ik (.cons (.var 0) (.cons (.var 1) (.cons (.var 2) .nil))) [])) (.cons (.asg 3 (.call ie (.cons (.var 0) (.cons (.var 1) .nil)) [])) (.cons (.ret (.bi .sorted (.cons (.comp [none,none,some 3] (.seq (.call io (.cons (.var 0) (.cons (.var 1) (.cons (.var 2) .nil))) [])) (.nm 1) (.cons (.nt (.call iv (.cons (.var 1) (.cons (.var 2) .nil)) [])) .nil) (.var 1)) .nil))) .nil)))
theorem ay(x y:Int)(l q:List Int):aa (x::l) (y::q)=x*y+aa l q:=rfl
theorem cT(q:List Int):aa [] q=0:=rfl
theorem iC(q:List Int):aa q []=0:=by cases q<;>rfl
theorem qk(α β:Int):∀{r b:List Int}(z:List Int),r.length=b.length->aa ((r.zip b).map λq=>α*q.1-β*q.2) z=α*aa r z-β*aa b z
 |[],[],z,_=>by simp[aa]
 |x::r,y::b,[],_=>by simp[aa]
 |x::r,y::b,u::z,h=>by
  have ih:=qk α β (r:=r) (b:=b) z (by simpa using h);rw[SY,QO,ay,ay,ay,ih]
  grind
 |[],_::_,_,h=>by simp at h
 |_::_,[],_,h=>by simp at h
theorem gu{r b:List Int}{p:Nat}(z:List Int)(h:r.length=b.length):aa (bE r p b) z=gI b p*aa r z-gI r p*aa b z:=qk _ _ z h
noncomputable def fq(p:Nat)(S:List (Nat×List Int)×List (List Int)):List (Nat×List Int)×List (List Int):=
 match S.2.filter λq=> !(gI q p==0) with
 |[]=>S
 |b::_=>(S.1.map (λq=>(q.1,bE q.2 p b))++[(p,b)],S.2.map λr=>bE r p b)
noncomputable def bN(L0:List (List Int)):Nat->List (Nat×List Int)×List (List Int)
 |0=>([],L0)
 |p+1=>fq p (bN L0 p)
noncomputable def rowsOf(M:List (List Int))(r:List Int):List (List Int):=(M.zip r).map λq=>q.1++[q.2]
structure Sq(m p:Nat)(L0:List (List Int))(PS:List (Nat×List Int))(LS:List (List Int)):Prop where
 st:uZ m p PS LS
 zl:∀r∈LS,∀i,i<p->gI r i=0
 pz:∀q∈PS,∀q'∈PS,q'.1≠q.1->gI q.2 q'.1=0
 ev:∀z,(∀r∈L0,aa r z=0)↔(∀q∈PS,aa q.2 z=0)/\∀r∈LS,aa r z=0
 ln:LS.length=L0.length
 o0:PS=[]->LS=L0
 o1:∀q,PS=[q]->q.2∈L0/\LS=L0.map λr=>bE r q.1 q.2
 o2:∀q1 q2,PS=[q1,q2]->∃r1∈L0,∃r2∈L0,q1.1<q2.1/\gI r1 q1.1≠0/\q2.2=bE r2 q1.1 r1/\q1.2=bE r1 q2.1 q2.2
theorem Sq.next{m p:Nat}{L0:List (List Int)}{PS:List (Nat×List Int)}{LS:List (List Int)}(h:Sq m p L0 PS LS)(hz:∀r∈LS,gI r p=0):Sq m (p+1) L0 PS LS:=
 ⟨h.st.next,λr hr i hi=>by
  by_cases e:i=p
  ·rw[e];exact hz r hr
  ·exact h.zl r hr i ⋯,h.pz,h.ev,h.ln,h.o0,h.o1,h.o2⟩
theorem Sq.clear{m p:Nat}{L0:List (List Int)}{PS:List (Nat×List Int)}{LS:List (List Int)}{b:List Int}(h:Sq m p L0 PS LS)(hp:p<m)(hb:b∈LS)(hn:gI b p≠0):Sq m (p+1) L0 (PS.map (λq=>(q.1,bE q.2 p b))++[(p,b)]) (LS.map λr=>bE r p b):=by
 have lb:=h.st.len b hb;have pT:=h.st.clear hp hb hn;refine⟨pT,?_,?_,?_,by rw[Qf,h.ln],λe=>by simp at e,?_,?_⟩
 ·intro r hr i hi;obtain⟨r0,h0,rfl⟩:=QF.mp hr;have l0:=h.st.len r0 h0;rw[jm (by rw[l0,lb]) (by rw[l0];lia)];by_cases e:i=p
  ·rw[e,Rg,Rp]
  ·rw[h.zl r0 h0 i ⋯,h.zl b hb i ⋯,Rk,Rk,Rq]
 ·intro q hq q' jQ cM;rcases Qs.mp hq with hq|hq
  ·obtain⟨q0,h0,rfl⟩:=QF.mp hq;have l0:=(h.st.pl q0 h0).2.1;rcases Qs.mp jQ with jQ|jQ
   ·obtain⟨q1,h1,rfl⟩:=QF.mp jQ;have p1:=(h.st.pl q1 h1).1;show gI (bE q0.2 p b) q1.1=0;rw[jm (by rw[l0,lb]) (by rw[l0];lia),h.pz q0 h0 q1 h1 cM,h.st.zr q1 h1 b hb,Rk,Rk,Rq]
   ·rw[QE]at jQ;subst jQ;show gI (bE q0.2 p b) p=0;rw[jm (by rw[l0,lb]) (by rw[l0];lia),Rg,Rp]
  ·rw[QE]at hq;subst hq;rcases Qs.mp jQ with jQ|jQ
   ·obtain⟨q1,h1,rfl⟩:=QF.mp jQ;exact h.st.zr q1 h1 b hb
   ·rw[QE]at jQ;subst jQ;exact absurd rfl cM
 ·intro z;rw[h.ev z];constructor
  ·rintro⟨h1,h2⟩;have GN:=h2 b hb;refine⟨λq hq=>?_,λr hr=>?_⟩
   ·rcases Qs.mp hq with hq|hq
    ·obtain⟨q0,h0,rfl⟩:=QF.mp hq;show aa (bE q0.2 p b) z=0;rw[gu z (by rw[(h.st.pl q0 h0).2.1,lb]),h1 q0 h0,GN,Rk,Rk,Rq]
    ·rw[QE]at hq;subst hq;exact GN
   ·obtain⟨r0,h0,rfl⟩:=QF.mp hr;rw[gu z (by rw[h.st.len r0 h0,lb]),h2 r0 h0,GN,Rk,Rk,Rq]
  ·rintro⟨h1,h2⟩;have GN:aa b z=0:=h1 (p,b) (QC _ (QE.mpr rfl));have back:∀r:List Int,r.length=b.length->aa (bE r p b) z=0->aa r z=0:=λr hl hr=>by rw[gu z hl,GN,Rk,Rq]at hr;exact(Int.mul_eq_zero.mp hr).resolve_left hn
   exact⟨λq hq=>back q.2 (by rw[(h.st.pl q hq).2.1,lb]) (h1 (q.1,bE q.2 p b) (Sn _ (QF.mpr ⟨q,hq,rfl⟩))),λr hr=>back r (by rw[h.st.len r hr,lb]) (h2 _ (QF.mpr ⟨r,hr,rfl⟩))⟩
 ·intro q e;cases PS with
  |nil=>have e0:=h.o0 rfl;simp only[Sm,Sy,RG,and_true]at e;subst e;rw[e0]at hb;exact⟨hb,by rw[e0]⟩
  |cons q0 PS=>have:=TJ List.length e;simp at this
 ·intro q1 q2 e;cases PS with
  |nil=>have:=TJ List.length e;simp at this
  |cons q0 PS=>
   cases PS with
   |nil=>obtain⟨k1,k2⟩:=h.o1 q0 rfl;simp only[QO,Sm,List.singleton_append,RG,and_true]at e;obtain⟨e1,e2⟩:=e;subst e1 e2;rw[k2]at hb;obtain⟨r2,h2,rfl⟩:=QF.mp hb;have:=h.st.pl q0 Qc;exact⟨q0.2,k1,r2,h2,this.1,this.2.2,rfl,rfl⟩
   |cons q' PS=>have:=TJ List.length e;simp at this
theorem Sq.zero{m:Nat}{L0:List (List Int)}(h:uZ m 0 [] L0):Sq m 0 L0 [] L0:=⟨h,λ_ _ i hi=>by lia,by simp,λz=>by simp,rfl,λ_=>rfl,λ_ e=>(by cases e),λ_ _ e=>(by cases e)⟩
theorem Sq.step{m p:Nat}{L0:List (List Int)}{S:List (Nat×List Int)×List (List Int)}(h:Sq m p L0 S.1 S.2)(hp:p<m):Sq m (p+1) L0 (fq p S).1 (fq p S).2:=by
 unfold fq;cases e:S.2.filter λq=> !(gI q p==0) with
 |nil=>
  refine h.next λr hr=>?_
  have:=List.filter_eq_nil_iff.mp e r hr;simpa using this
 |cons b bs=>
  have:b∈S.2.filter λq=> !(gI q p==0):=by rw[e];exact Qc
  have:=So.mp this;exact h.clear hp this.1 (by simpa using this.2)
theorem Sq.all{m:Nat}{L0:List (List Int)}(h:uZ m 0 [] L0):∀p,p<=m->Sq m p L0 (bN L0 p).1 (bN L0 p).2
 |0,_=>Sq.zero h
 |p+1,hp=>(Sq.all h p ⋯).step ⋯
theorem jd{l x:List Int}(g:Int)(h:l.length=x.length):aa (l++[g]) (x++[-1])=aa l x-g:=by
 induction l generalizing x with
 |nil=>cases x with|nil=>simp[aa]|cons=>simp at h
 |cons a l ih=>cases x with
  |nil=>simp at h
  |cons b x=>
   have:=ih (x:=x) (by simpa using h);rw[RH,RH,ay,ay,this]
   lia
noncomputable def bH(M:List (List Int))(r x:List Int):Prop:=∀q∈M.zip r,aa q.1 x=q.2
theorem qy{m:Nat}{M:List (List Int)}{r x:List Int}(hl:∀q∈M,q.length=m)(hx:x.length=m):bH M r x↔∀z∈rowsOf M r,aa z (x++[-1])=0:=by
 unfold bH rowsOf;constructor
 ·intro h z hz;obtain⟨q,hq,rfl⟩:=QF.mp hz;rw[jd _ (by rw[hl _ (SA hq).1,hx]),h q hq,Rp]
 ·intro h q hq;have:=h _ (QF.mpr ⟨q,hq,rfl⟩);rw[jd _ (by rw[hl _ (SA hq).1,hx])]at this
  lia
theorem aA(a:Int)(l:List Int)(i:Nat):gI (a::l) (i+1)=gI l i:=by simp[gI]
theorem lj:∀{l:List Int}(z:List Int),(∀i,i<l.length->gI l i=0)->aa l z=0
 |[],z,_=>rfl
 |a::l,[],_=>rfl
 |a::l,u::z,h=>by have h0:a=0:=h 0 (by simp);rw[ay,h0,lj z λi hi=>by have:=h (i+1) (by simpa using hi);rwa [aA]at this];simp
noncomputable def nG(m:Nat)(LS:List (List Int)):Bool:=(LS.map λq=> !(gI q m==0)).any id
theorem ju{l:List Int}{m:Nat}(h:l.length=m+1):∃a g,l=a++[g]/\a.length=m/\gI l m=g:=by
 have cM:l≠[]:=λe=>by rw[e]at h;simp at h
 obtain⟨a,g,e⟩:=(p6 l).resolve_left cM;refine⟨a,g,e,by rw[e,Qm]at h;simpa using h,?_⟩;subst e;have:a.length=m:=by rw[Qm]at h;simpa using h
 subst this;simp[gI]
theorem gg{a:List Int}{g:Int}{i:Nat}(h:i<a.length):gI (a++[g]) i=gI a i:=by simp[gI,List.getD,QM h]
theorem Sq.sol{m:Nat}{M:List (List Int)}{r x:List Int}{PS:List (Nat×List Int)}{LS:List (List Int)}(h:Sq m m (rowsOf M r) PS LS)(hl:∀q∈M,q.length=m)(hx:x.length=m):
  bH M r x↔nG m LS=false/\∀q∈PS,aa q.2 (x++[-1])=0:=by
 rw[qy hl hx,h.ev];have key:∀q∈LS,aa q (x++[-1])= - gI q m:=λq hq=>by
  obtain⟨a,g,e,ha,hg⟩:=ju (h.st.len q hq);rw[hg];have hz:=h.zl q hq;subst e;rw[jd g (by rw[ha,hx]),lj x λi hi=>by have:=hz i ⋯;rwa [gg hi]at this]
  lia
 have:(∀q∈LS,aa q (x++[-1])=0)↔nG m LS=false:=by
  unfold nG;rw[RF,RE];constructor
  ·intro h1 q hq;have:=h1 q hq;rw[key q hq]at this;have:gI q m=0:=⋯
   simp[this]
  ·intro h1 q hq;rw[key q hq];have:=h1 q hq;simp at this
   lia
 rw[this];exact And.comm
theorem bt{l:List Int}{p:Nat}{x:Int}(h:p<l.length):gI (l.set p x) p=x:=by simp[gI,List.getD,h]
theorem bf{l:List Int}{p i:Nat}{x:Int}(h:i≠p):gI (l.set p x) i=gI l i:=by simp[gI,List.getD,R4,Tn h]
theorem jo:∀{a b:List Int},a.length=b.length->(∀i,i<a.length->gI a i=gI b i)->a=b
 |[],[],_,_=>rfl
 |x::a,y::b,h,e=>by have h0:x=y:=e 0 (by simp);rw[h0,jo (a:=a) (b:=b) (by simpa using h) λi hi=>by have:=e (i+1) (by simpa using hi);rwa [aA,aA]at this]
 |[],_::_,h,_=>by simp at h
 |_::_,[],h,_=>by simp at h
theorem nX{l:List Int}{x:Int}(h:x∈l):∃i,i<l.length/\gI l i=x:=by obtain⟨i,hi,e⟩:=R7 h;exact⟨i,hi,by simp[gI,List.getD,hi,e]⟩
theorem gK:∀{l x q:List Int}{p:Nat},x.length=q.length->p<x.length->x.length<=l.length->(∀i,i<x.length->i≠p->gI l i*gI x i=gI l i*gI q i)->aa l x=aa l q+gI l p*(gI x p-gI q p)
 |[],x,q,p,_,h2,h3,_=>by simp at h3;rw[h3]at h2;simp at h2
 |a::l,[],q,p,_,h2,_,_=>by simp at h2
 |a::l,u::x,[],p,h1,_,_,_=>by simp at h1
 |a::l,u::x,v::q,0,h1,h2,h3,h=>by
  have e:aa l x=aa l q:=by
   have:∀{l x q:List Int},x.length=q.length->x.length<=l.length->(∀i,i<x.length->gI l i*gI x i=gI l i*gI q i)->aa l x=aa l q:=by
    intro l x q
    induction l generalizing x q with
    |nil=>intro _ _ _;rfl
    |cons a l ih=>
     intro h1 h2 h;cases x with
     |nil=>cases q with|nil=>rfl|cons=>simp at h1
     |cons u x=>cases q with
      |nil=>simp at h1
      |cons v q=>rw[ay,ay,ih (by simpa using h1) (by simpa using h2) λi hi=>by have:=h (i+1) (by simpa using hi);rwa [aA,aA,aA]at this];have:=h 0 (by simp);have:a*u=a*v:=this;rw[this]
   exact this (by simpa using h1) (by simpa using h3) λi hi=>by have:=h (i+1) (by simpa using hi) ⋯;rwa [aA,aA,aA]at this
  rw[ay,ay,e];show a*u+_=a*v+_+a*(u-v)
  grind
 |a::l,u::x,v::q,p+1,h1,h2,h3,h=>by
  have ih:=gK (l:=l) (x:=x) (q:=q) (p:=p) (by simpa using h1) (by simpa using h2) (by simpa using h3) λi hi cM=>by have:=h (i+1) (by simpa using hi) ⋯;rwa [aA,aA,aA]at this
  have h0:a*u=a*v:=h 0 (by simp) ⋯;rw[ay,ay,ih,aA,aA,aA,h0]
  lia
noncomputable def gh(eq q:List Int):Int:= - aa eq (q++[-1])
noncomputable def cy(q:List Int):List (Nat×List Int)->List Int->Option (List Int)
 |[],w=>some w
 |z::PS,w=>if (!((gh z.2 q).fmod (gI z.2 z.1)==0))=true\/(gh z.2 q).fdiv (gI z.2 z.1)<0 then none else cy q PS (w.set z.1 ((gh z.2 q).fdiv (gI z.2 z.1)))
theorem fY{q:List Int}:∀{PS:List (Nat×List Int)}{w x:List Int},(PS.map (·.1)).Nodup->(∀z∈PS,z.1<w.length/\gI z.2 z.1≠0)->
  (cy q PS w=some x↔x.length=w.length/\(∀i,i<w.length->i∉PS.map (·.1)->gI x i=gI w i)/\∀z∈PS,gI z.2 z.1*gI x z.1=gh z.2 q/\0<=gI x z.1)
 |[],w,x,_,_=>by
  unfold cy;constructor
  ·intro h;cases h;exact⟨rfl,λ_ _ _=>rfl,by simp⟩
  ·rintro⟨h1,h2,_⟩;rw[jo h1 λi hi=>h2 i ⋯ (by simp)]
 |z::PS,w,x,nd,hz=>by
  rw[QO,Sz]at nd;obtain⟨z1,z2⟩:=hz z Qc;unfold cy;have jF:=Int.mul_fdiv_add_fmod (gh z.2 q) (gI z.2 z.1);generalize hn:(gh z.2 q).fdiv (gI z.2 z.1)=n at jF;generalize hr:(gh z.2 q).fmod (gI z.2 z.1)=rest at jF;have ih:=fY (q:=q) (PS:=PS) (w:=w.set z.1 n) (x:=x) nd.2 λy hy=>by rw[Sf];exact hz y (P9 _ hy)
  by_cases hb:(!(rest==0))=true\/n<0
  ·rw[TN hb];constructor
   ·intro h;cases h
   ·rintro⟨_,_,h3⟩;obtain⟨k1,k2⟩:=h3 z Qc;rw[<-k1,Int.mul_fmod_right]at hr;rw[<-k1,Int.mul_fdiv_cancel_left _ z2]at hn;rcases hb with hb|hb
    ·rw[<-hr]at hb;simp at hb
    ·lia
  ·rw[TM hb,ih];have r0:rest=0:=by
    by_cases h:rest=0
    ·exact h
    ·exact absurd (.inl (by simp[h])) hb
   have n0:0<=n:=by have:=λh=>hb (.inr h);lia
   rw[r0,Int.add_zero]at jF;rw[Sf];constructor
   ·rintro⟨h1,h2,h3⟩;have xz:gI x z.1=n:=by rw[h2 z.1 z1 nd.1,bt z1]
    refine⟨h1,λi hi rB=>?_,λy hy=>?_⟩
    ·rw[QO,Qi,not_or]at rB;rw[h2 i hi rB.2,bf rB.1]
    ·rcases Qi.mp hy with rfl|hy
     ·rw[xz];exact⟨jF,n0⟩
     ·exact h3 y hy
   ·rintro⟨h1,h2,h3⟩;obtain⟨k1,k2⟩:=h3 z Qc;have xz:gI x z.1=n:=by rw[<-k1,Int.mul_fdiv_cancel_left _ z2]at hn;exact hn
    refine⟨h1,λi hi rB=>?_,λy hy=>h3 y (P9 _ hy)⟩;by_cases e:i=z.1
    ·rw[e,bt z1,xz]
    ·rw[bf e];exact h2 i hi (by rw[QO,Qi,not_or];exact⟨e,rB⟩)
noncomputable def zt(g p:Nat)(Q:List (List Int)):List (List Int):=Q.flatMap λq=>(List.range (g+1)).map λ(n:Nat)=>q.set p (n:Int)
noncomputable def dz(g:Nat):List Nat->List (List Int)->List (List Int)
 |[],Q=>Q
 |p::FR,Q=>dz g FR (zt g p Q)
theorem gr{g:Nat}:∀{FR:List Nat}{Q:List (List Int)}{q':List Int},q'∈dz g FR Q↔∃q∈Q,q'.length=q.length/\(∀i,i<q.length->i∉FR->gI q' i=gI q i)/\∀i,i∈FR->i<q.length->∃n:Nat,n<=g/\gI q' i=n
 |[],Q,q'=>by
  unfold dz;constructor
  ·intro h;exact⟨q',h,rfl,λ_ _ _=>rfl,by simp⟩
  ·rintro⟨q,hq,h1,h2,_⟩;rw[jo h1 λi hi=>h2 i ⋯ (by simp)];exact hq
 |p::FR,Q,q'=>by
  unfold dz;rw[gr];constructor
  ·rintro⟨q1,FF,h1,h2,h3⟩;obtain⟨q,hq,h⟩:=Ss.mp FF;obtain⟨n,hn,rfl⟩:=QF.mp h;have hn:=QR.mp hn;rw[Sf]at h1 h2 h3;refine⟨q,hq,h1,λi hi rB=>?_,λi hi hl=>?_⟩
   ·rw[Qi,not_or]at rB;rw[h2 i hi rB.2,bf rB.1]
   ·by_cases e:i∈FR
    ·exact h3 i e hl
    ·have:i=p:=(Qi.mp hi).resolve_right e;subst this;exact⟨n,by lia,by rw[h2 i hl e,bt hl]⟩
  ·rintro⟨q,hq,h1,h2,h3⟩;by_cases hp:p<q.length
   ·obtain⟨n,hn,en⟩:=h3 p Qc hp;refine⟨q.set p n,Ss.mpr ⟨q,hq,QF.mpr ⟨n,QR.mpr ⋯,rfl⟩⟩,by rw[Sf];exact h1,?_,?_⟩
    ·rw[Sf];intro i hi rB;by_cases e:i=p
     ·rw[e,en,bt hp]
     ·rw[bf e];exact h2 i hi (by rw[Qi,not_or];exact⟨e,rB⟩)
    ·rw[Sf];exact λi hi hl=>h3 i (P9 _ hi) hl
   ·refine⟨q.set p (0:Nat),Ss.mpr ⟨q,hq,QF.mpr ⟨0,QR.mpr ⋯,rfl⟩⟩,by rw[Sf];exact h1,?_,?_⟩
    ·rw[Sf];intro i hi rB;rw[bf ⋯];exact h2 i hi (by rw[Qi,not_or];exact⟨by lia,rB⟩)
    ·rw[Sf];exact λi hi hl=>h3 i (P9 _ hi) hl
noncomputable def bq(m:Nat)(PS:List (Nat×List Int)):List Nat:=(List.range m).filter λp=> !decide (p∈PS.map (·.1))
noncomputable def vR(m g:Nat)(PS:List (Nat×List Int)):List (List Int):=(dz g (bq m PS) [List.replicate m 0]).filterMap λq=>cy q PS q
theorem jE{x:List Int}{m:Nat}(h:x.length=m):gI (x++[-1]) m= -1:=by subst h;simp[gI]
theorem cA(m i:Nat):gI (List.replicate m 0) i=0:=by simp only[gI,List.getD,R3];split<;>rfl
theorem Sq.goal{m:Nat}{L0:List (List Int)}{PS:List (Nat×List Int)}{LS:List (List Int)}(h:Sq m m L0 PS LS){x q:List Int}(hx:x.length=m)(hq:q.length=m)(h1:∀i,i<m->i∉PS.map (·.1)->gI x i=gI q i)(h2:∀i,i<m->i∈PS.map (·.1)->gI q i=0):
  ∀z∈PS,aa z.2 (x++[-1])=gI z.2 z.1*gI x z.1-gh z.2 q:=λz hz=>by
 obtain⟨z1,z2,z3⟩:=h.st.pl z hz;have e:=gK (l:=z.2) (x:=x++[-1]) (q:=q++[-1]) (p:=z.1) (by simp[hx,hq]) (by simp[hx];lia) (by simp[hx,z2]) λi hi cM=>by
  have hi:i<m+1:=by simpa [hx]using hi
  by_cases pN:i=m
  ·rw[pN,jE hx,jE hq]
  ·rw[gg ⋯,gg ⋯];by_cases hp:i∈PS.map (·.1)
   ·obtain⟨z',JI,e⟩:=QF.mp hp;have e:z'.1=i:=e;rw[<-e,h.pz z hz z' JI (by rw[e];exact cM),Rv,Rv]
   ·rw[h1 i ⋯ hp]
 rw[e,gg ⋯,gg ⋯,h2 z.1 ⋯ (QF.mpr ⟨z,hz,rfl⟩)];unfold gh;rw[Rq]
 lia
theorem AU{m g:Nat}{L0:List (List Int)}{PS:List (Nat×List Int)}{LS:List (List Int)}(h:Sq m m L0 PS LS){x:List Int}:
  x∈vR m g PS↔x.length=m/\(∀i,i<m->0<=gI x i)/\(∀z∈PS,aa z.2 (x++[-1])=0)/\∀i∈bq m PS,gI x i<=g:=by
 unfold vR;rw[Sr];have jY:∀i,i∈bq m PS↔i<m/\i∉PS.map (·.1):=λi=>by unfold bq;rw[So,QR];simp
 constructor
 ·rintro⟨q,hq,hc⟩;obtain⟨q0,h0,h1,h2,h3⟩:=gr.mp hq;rw[QE]at h0;subst h0;rw[Se]at h1 h2 h3;obtain⟨k1,k2,k3⟩:=(fY h.st.nd λz hz=>⟨by rw[h1];exact(h.st.pl z hz).1,(h.st.pl z hz).2.2⟩).mp hc;rw[h1]at k1 k2;have qz:∀i,i<m->i∈PS.map (·.1)->gI q i=0:=λi hi hp=>by rw[h2 i hi λz=>((jY i).mp z).2 hp,cA]
  refine⟨k1,λi hi=>?_,λz hz=>?_,λi hi=>?_⟩
  ·by_cases hp:i∈PS.map (·.1)
   ·obtain⟨z,hz,rfl⟩:=QF.mp hp;exact(k3 z hz).2
   ·obtain⟨n,_,e⟩:=h3 i ((jY i).mpr ⟨hi,hp⟩) hi;rw[k2 i hi hp,e]
    lia
  ·rw[h.goal k1 h1 k2 qz z hz,(k3 z hz).1,Rp]
  ·obtain⟨pN,hp⟩:=(jY i).mp hi;obtain⟨n,hn,e⟩:=h3 i hi pN;rw[k2 i pN hp,e]
   lia
 ·rintro⟨h1,h2,h3,h4⟩
  let q:=(List.range m).map λi=>if i∈PS.map (·.1) then 0 else gI x i
  have lq:q.length=m:=by simp[q]
  have gq:∀i,i<m->gI q i=if i∈PS.map (·.1) then 0 else gI x i:=λi hi=>by simp only[q,gI,List.getD,Qp,List.getElem?_range hi];rfl
  have q1:∀i,i<m->i∉PS.map (·.1)->gI x i=gI q i:=λi hi hp=>by rw[gq i hi,TM hp]
  have q2:∀i,i<m->i∈PS.map (·.1)->gI q i=0:=λi hi hp=>by rw[gq i hi,TN hp]
  refine⟨q,gr.mpr ⟨_,QE.mpr rfl,by rw[lq,Se],λi hi rB=>?_,λi hi hl=>?_⟩,(fY h.st.nd λz hz=>⟨by rw[lq];exact(h.st.pl z hz).1,(h.st.pl z hz).2.2⟩).mpr ⟨by rw[lq,h1],λi hi hp=>q1 i ⋯ hp,λz hz=>⟨?_,h2 z.1 (h.st.pl z hz).1⟩⟩⟩
  ·rw[Se]at hi;rw[cA];by_cases hp:i∈PS.map (·.1)
   ·exact q2 i hi hp
   ·exact absurd ((jY i).mpr ⟨hi,hp⟩) rB
  ·obtain⟨pN,hp⟩:=(jY i).mp hi;have:=h2 i pN;have:=h4 i hi;exact⟨(gI x i).toNat,by lia,by rw[<-q1 i pN hp];lia⟩
  ·have:=h3 z hz;rw[h.goal h1 lq q1 q2 z hz]at this
   lia
noncomputable def d4(a b:List Int):Bool:=(a.zip b).all λq=>decide (q.1<=q.2)
noncomputable def br(a:List Int)(F:List (List Int)):Bool:=F.any λf=>d4 f a
noncomputable def aZ:List (List Int)->List (List Int)->List (List Int)
 |[],F=>F
 |q::Q,F=>aZ Q (if (decide (0<q.sum)&& !br q F)=true then F++[q] else F)
noncomputable def fP(Q:List (List Int)):List (List Int):=(eI (Q.map dI)).map E8
noncomputable def ltI(a b:List Int):Bool:=Mx.D.dm (a.map Mx.D.int) (b.map Mx.D.int)
theorem zm(x y:Int)(a b:List Int):d4 (x::a) (y::b)=(decide (x<=y)&&d4 a b):=rfl
theorem cg:∀{a b:List Int},a.length=b.length->(d4 a b=true↔∀i,i<a.length->gI a i<=gI b i)
 |[],[],_=>⟨λ_ i hi=>by simp at hi,λ_=>rfl⟩
 |x::a,y::b,h=>by
  have ih:=cg (a:=a) (b:=b) (by simpa using h);rw[zm,P5,TK,ih];constructor
  ·rintro⟨h1,h2⟩ i hi;cases i with
   |zero=>exact h1
   |succ i=>rw[aA,aA];exact h2 i (by simpa using hi)
  ·intro h;exact⟨h 0 (by simp),λi hi=>by have:=h (i+1) (by simpa using hi);rwa [aA,aA]at this⟩
 |[],_::_,h=>by simp at h
 |_::_,[],h=>by simp at h
theorem lO(a:List Int):d4 a a=true:=(cg rfl).mpr λ_ _=>Rc _
theorem vX{a b c:List Int}(h1:a.length=b.length)(h2:b.length=c.length)(k1:d4 a b=true)(k2:d4 b c=true):d4 a c=true:=
 (cg (h1.trans h2)).mpr λi hi=>Int.le_trans ((cg h1).mp k1 i hi) ((cg h2).mp k2 i ⋯)
theorem yt(x y:Int)(a b:List Int):ltI (x::a) (y::b)=if x=y then ltI a b else decide (x<y):=by
 show Mx.D.dm (.int x::a.map Mx.D.int) (.int y::b.map Mx.D.int)=_;rw[Mx.D.de];by_cases h:x=y
 ·rw[TN (by rw[h]),TN h];rfl
 ·rw[TM (λz=>h (by injection z)),TM h];simp[Mx.D.lt]
theorem um:∀{a b:List Int},a.length=b.length->ltI a b=false->ltI b a=false->a=b
 |[],[],_,_,_=>rfl
 |x::a,y::b,h,h1,h2=>by
  rw[yt]at h1 h2;by_cases e:x=y
  ·rw[TN e]at h1;rw[TN e.symm]at h2;rw[e,um (by simpa using h) h1 h2]
  ·rw[TM e]at h1;rw[TM (Tn e)]at h2;have:=TZ h1;have:=TZ h2
   lia
 |[],_::_,h,_,_=>by simp at h
 |_::_,[],h,_,_=>by simp at h
theorem oJ{Q:List (List Int)}{q:List Int}:q∈fP Q↔q∈Q:=by
 unfold fP;rw[QF];constructor
 ·rintro⟨d,hd,rfl⟩;obtain⟨q,hq,rfl⟩:=QF.mp (gR.mp hd);rwa [nq]
 ·intro h;exact⟨dI q,gR.mpr (QF.mpr ⟨q,h,rfl⟩),nq q⟩
theorem su(Q:List (List Int)):(fP Q).Pairwise λa b=>ltI b a=false:=by
 unfold fP;rw[SE];refine List.Pairwise.imp_of_mem ?_ (oI (Q.map dI));intro a b ha hb h;obtain⟨p,_,rfl⟩:=QF.mp (gR.mp ha);obtain⟨q,_,rfl⟩:=QF.mp (gR.mp hb);rw[nq,nq];have h:(!Mx.D.lt (dI q) (dI p))=true:=h;unfold ltI;have e:Mx.D.lt (dI q) (dI p)=Mx.D.dm (q.map Mx.D.int) (p.map Mx.D.int):=by unfold dI Mx.D.lt;rfl
 rw[e]at h;simpa using h
theorem A9{a:List Int}{F G:List (List Int)}(h:br a F=true):br a (F++G)=true:=by unfold br at *;rw[List.any_append,h,Bool.true_or]
theorem mP:∀{Q F:List (List Int)},∃t,aZ Q F=F++t
 |[],F=>⟨[],by simp[aZ]⟩
 |q::Q,F=>by
  unfold aZ;obtain⟨t,e⟩:=mP (Q:=Q) (F:=if (decide (0<q.sum)&& !br q F)=true then F++[q] else F);rw[e];split
  ·exact⟨[q]++t,by simp⟩
  ·exact⟨t,rfl⟩
theorem mN:∀{Q F:List (List Int)}{f:List Int},f∈aZ Q F->f∈F\/(f∈Q/\0<f.sum)
 |[],F,f,h=>.inl h
 |q::Q,F,f,h=>by
  unfold aZ at h;rcases mN h with h|⟨h1,h2⟩
  ·split at h
   ·rename_i hc;rcases Qs.mp h with h|h
    ·exact .inl h
    ·rw[QE]at h;subst h;rw[P5,TK]at hc;exact .inr ⟨Qc,hc.1⟩
   ·exact .inl h
  ·exact .inr ⟨P9 _ h1,h2⟩
theorem mO:∀{Q F:List (List Int)}{q:List Int},q∈Q->0<q.sum->br q (aZ Q F)=true
 |[],F,q,h,_=>by cases h
 |p::Q,F,q,h,h0=>by
  unfold aZ;rcases Qi.mp h with rfl|h
  ·obtain⟨t,e⟩:=mP (Q:=Q) (F:=if (decide (0<q.sum)&& !br q F)=true then F++[q] else F);rw[e];refine A9 ?_;rw[Qz h0,Bool.true_and];cases ho:br q F with
   |true=>exact ho
   |false=>show br q (F++[q])=true;unfold br;rw[List.any_append];simp[lO]
  ·exact mO h h0
noncomputable def Fu(a b:List Int):Prop:=ltI a b=true/\d4 a b=false/\d4 b a=false
noncomputable def unit(m i:Nat):List Int:=(List.replicate m 0).set i 1
theorem qF(m i:Nat):(unit m i).length=m:=by simp[unit]
theorem kh{m i j:Nat}(h:i<m):gI (unit m i) j=if j=i then 1 else 0:=by
 unfold unit;by_cases e:j=i
 ·rw[TN e,e,bt (by simpa using h)]
 ·rw[TM e,bf e,cA]
theorem gM{l:List Int}{m i:Nat}{v:Int}(hl:l.length=m)(h:i<m)(x:List Int)(hx:x.length=m):aa l (x.set i v)=aa l x+gI l i*(v-gI x i):=by
 have:=gK (l:=l) (x:=x.set i v) (q:=x) (p:=i) (by simp) (by simp[hx,h]) (by simp[hx,hl]) λj hj cM=>by rw[bf cM]
 rw[this,bt ⋯]
theorem gL(l:List Int):∀m,aa l (List.replicate m 0)=0:=by
 induction l with
 |nil=>intro m;rfl
 |cons a l ih=>
  intro m;cases m with
  |zero=>rfl
  |succ m=>rw[SG,ay,ih];lia
theorem mX{l:List Int}{m i:Nat}(hl:l.length=m)(h:i<m):aa l (unit m i)=gI l i:=by
 unfold unit;rw[gM hl h _ (by simp),gL,cA]
 lia
theorem uP:∀{y:List Int},(∀i,i<y.length->0<=gI y i)->(∃i,i<y.length/\0<gI y i)->0<y.sum
 |[],_,⟨i,hi,_⟩=>by simp at hi
 |a::y,h,⟨i,hi,hp⟩=>by
  have ha:0<=a:=h 0 (by simp);have hy:∀i,i<y.length->0<=gI y i:=λi hi=>by have:=h (i+1) (by simpa using hi);rwa [aA]at this
  have ns:∀{y:List Int},(∀i,i<y.length->0<=gI y i)->0<=y.sum:=by
   intro y
   induction y with
   |nil=>intro _;simp
   |cons b y ih=>
    intro h;have:=h 0 (by simp);have hb:0<=b:=this;have:=ih λi hi=>by have:=h (i+1) (by simpa using hi);rwa [aA]at this
    rw[SL];lia
  rw[SL];cases i with
  |zero=>have:0<a:=hp;have:=ns hy;lia
  |succ i=>have:=uP hy ⟨i,by simpa using hi,by rwa [aA]at hp⟩;lia
theorem sum_set{x:List Int}{i:Nat}(h:i<x.length)(v:Int):(x.set i v).sum=x.sum+(v-gI x i):=by
 induction x generalizing i with
 |nil=>simp at h
 |cons a x ih=>
  cases i with
  |zero=>rw[List.set_cons_zero,SL,SL];show _=_+(v-a);lia
  |succ i=>rw[List.set_cons_succ,SL,SL,ih (by simpa using h),aA];lia
theorem qj{t:Nat}:∀{l x:List Int},(∀z∈l,z.natAbs<=t)->(∀i,i<x.length->0<=gI x i)->x.length<=l.length->((aa l x).natAbs:Int)<=t*x.sum
 |_,[],_,_,_=>by rw[iC];simp
 |[],a::x,_,_,h=>by simp at h
 |b::l,a::x,h1,h2,h3=>by
  have ha:0<=a:=h2 0 (by simp);have ih:=qj (t:=t) (l:=l) (x:=x) (λz hz=>h1 z (P9 _ hz)) (λi hi=>by have:=h2 (i+1) (by simpa using hi);rwa [aA]at this) (by simpa using h3);rw[ay,SL];have e1:=Int.natAbs_add_le (b*a) (aa l x);have e2:((b*a).natAbs:Int)=b.natAbs*a:=by
   have:(a.natAbs:Int)=a:=⋯
   rw[Rl,Ro,this]
  have e3:(b.natAbs:Int)*a<=t*a:=Ri (by have:=h1 b Qc;lia) ha;have e4:(t:Int)*(a+x.sum)=t*a+t*x.sum:=Int.mul_add ..
  lia
theorem aF(a b:Int):a<b\/b<=a:=⋯
noncomputable def CL(M:List (List Int)):List Int:=M.flatMap λq=>q.map λx=>(x.natAbs:Int)
noncomputable def dZ(M:List (List Int)):Int:=dq (CL M)
noncomputable def kL(s f:Nat)(top goal:Int):Int:=if s=0 then 1 else([1,2*top,4*top*top,0]:List Int).getD (s-1) 0*(goal+f*top)
theorem dg{M:List (List Int)}{x:List Int}:bH M (List.replicate M.length 0) x↔∀q∈M,aa q x=0:=by
 unfold bH
 induction M with
 |nil=>simp
 |cons q M ih=>rw[Qo,SG,SY];simp only[List.forall_mem_cons];rw[ih]
theorem two{D e u t:Int}(hD:D≠0)(hu:0<=u)(ht:(D.natAbs:Int)<=t)(h:D*u+e*t=0):∃y,0<=y/\y<=u/\D*y+e*D.natAbs=0:=by
 rcases Re hD with h0|h0
 ·have en:(D.natAbs:Int)= -D:=⋯
  rw[en]at ht ⊢;have t0:0<t:=⋯
  have h1:D*u<=0:=Int.mul_nonpos_of_nonpos_of_nonneg ⋯ hu;have e0:0<=e:=by
   rcases aF e 0 with z|z
   ·have:=Int.mul_neg_of_neg_of_pos z t0;lia
   ·exact z
  refine⟨e,e0,?_,by rw[Int.mul_neg,Rg D e];lia⟩;have h2:e*(-D)<=e*t:=Rh ht e0;have h3:u*(-D)= - (D*u):=by rw[Int.mul_neg,Rg]
  exact Int.le_of_mul_le_mul_right (a:= -D) ⋯ ⋯
 ·have en:(D.natAbs:Int)=D:=⋯
  rw[en]at ht ⊢;have t0:0<t:=⋯
  have h1:0<=D*u:=Rj ⋯ hu;have e0:e<=0:=by
   rcases aF 0 e with z|z
   ·have:=Int.mul_pos z t0;lia
   ·exact z
  refine⟨-e,by lia,?_,by rw[Int.mul_neg,Rg D e];lia⟩;have h2:(-e)*D<=(-e)*t:=Rh ht ⋯;have h3:(-e)*t= - (e*t):=Int.neg_mul ..;have h4:u*D=D*u:=Rg ..;exact Int.le_of_mul_le_mul_right (a:=D) ⋯ h0
theorem LJ{k:Nat}{ai xi ρ:Int}{t G:Int}(hi:ai≠0)(ht:(ai.natAbs:Int)<=t)(hρ:(ρ.natAbs:Int)<=G)(hx:G+k*t<xi){L:List (Int×Int)}(hk:L.length<=k)(hL:∀p∈L,(p.1.natAbs:Int)<=t/\0<=p.2)(h:ai*xi+(L.map λp=>p.1*p.2).sum=ρ):
  ∃p∈L,ai*p.1<0/\(ai.natAbs:Int)<=p.2:=by
 refine Q7 λhn=>?_
 have key:∀(σ:Int),σ*ai=ai.natAbs->(σ=1\/σ= -1)->∀p∈L,- (t*(ai.natAbs-1))<=σ*(p.1*p.2):=by
  intro σ hσ hs p hp;obtain⟨p1,p2⟩:=hL p hp;have a1:1<=ai.natAbs:=⋯
  have tn:0<=t*((ai.natAbs:Int)-1):=Rj ⋯ ⋯;rcases aF (σ*p.1) 0 with hneg|xZ
  ·have JE:ai*p.1<0:=by
    rcases hs with rfl|rfl
    ·have:0<ai:=⋯
     exact Int.mul_neg_of_pos_of_neg this ⋯
    ·have:ai<0:=⋯
     exact Int.mul_neg_of_neg_of_pos this ⋯
   have cK:p.2<=(ai.natAbs:Int)-1:=by
    rcases aF p.2 ai.natAbs with z|z
    ·lia
    ·exact absurd ⟨p,hp,JE,z⟩ hn
   have e1:σ*(p.1*p.2)= - ((p.1.natAbs:Int)*p.2):=by
    rw[<-Rf];have:σ*p.1= - (p.1.natAbs:Int):=by rcases hs with rfl|rfl<;>lia
    rw[this,Int.neg_mul]
   have e2:(p.1.natAbs:Int)*p.2<=t*(ai.natAbs-1):=Int.mul_le_mul p1 cK p2 ⋯
   lia
  ·have:0<=σ*(p.1*p.2):=by rw[<-Rf];exact Rj xZ p2
   lia
 obtain⟨σ,hσ,hs⟩:∃σ:Int,σ*ai=ai.natAbs/\(σ=1\/σ= -1):=by
  rcases Re hi with z|z
  ·exact⟨-1,by lia,.inr rfl⟩
  ·exact⟨1,by lia,.inl rfl⟩
 have sm:∀L:List (Int×Int),(∀p∈L,- (t*(ai.natAbs-1))<=σ*(p.1*p.2))-> - ((L.length:Int)*(t*(ai.natAbs-1)))<=σ*(L.map λp=>p.1*p.2).sum:=by
  intro L
  induction L with
  |nil=>intro _;simp
  |cons p L ih=>
   intro h;have h1:=ih λq hq=>h q (P9 _ hq)
   have h2:=h p Qc;rw[QO,SL,Int.mul_add,Qo];have:((L.length+1:Nat):Int)*(t*(ai.natAbs-1))=L.length*(t*(ai.natAbs-1))+t*(ai.natAbs-1):=by rw[Rm,Int.add_mul];simp
   lia
 have h1:=sm L (key σ hσ hs);have h2:σ*(ai*xi)+σ*(L.map λp=>p.1*p.2).sum=σ*ρ:=by rw[<-Int.mul_add,h]
 have h3:σ*(ai*xi)=ai.natAbs*xi:=by rw[<-Rf,hσ]
 have h8:σ*ρ<=G:=by rcases hs with rfl|rfl<;>lia
 have a1:(1:Int)<=ai.natAbs:=⋯
 have tn:0<=t*((ai.natAbs:Int)-1):=Rj ⋯ ⋯;have h4:(L.length:Int)*(t*(ai.natAbs-1))<=k*(t*(ai.natAbs-1)):=Ri ⋯ tn;have h5:(ai.natAbs:Int)*(G+k*t+1)<=ai.natAbs*xi:=Rh ⋯ ⋯;have h6:(ai.natAbs:Int)*(G+k*t+1)=ai.natAbs*G+k*(t*(ai.natAbs-1))+k*t+ai.natAbs:=by grind
 have h7:0<=(k:Int)*t:=Rj ⋯ ⋯;have h9:(1:Int)*G<=ai.natAbs*G:=Ri a1 ⋯
 lia
theorem lh:∀{a x:List Int}{i:Nat},i<a.length->i<x.length->gI a i*gI x i+(((a.zip x).eraseIdx i).map λp=>p.1*p.2).sum=aa a x
 |[],_,_,h,_=>by simp at h
 |_::_,[],_,_,h=>by simp at h
 |u::a,v::x,0,_,_=>rfl
 |u::a,v::x,i+1,h1,h2=>by
  have ih:=lh (a:=a) (x:=x) (i:=i) (by simpa using h1) (by simpa using h2);rw[aA,aA,SY,List.eraseIdx_cons_succ,QO,SL,ay,<-ih];show _+(u*v+_)=_
  lia
theorem Bw{m:Nat}{a x:List Int}{t ρ G:Int}(hl:a.length=m)(hx:x.length=m)(hn:∀i,i<m->0<=gI x i)(ht:∀z∈a,(z.natAbs:Int)<=t)(hρ:(ρ.natAbs:Int)<=G)(hs:aa a x=ρ){i:Nat}(hi:i<m)(h0:gI a i≠0)(OU:G+((m-1:Nat):Int)*t<gI x i):
  ∃j,j<m/\j≠i/\gI a i*gI a j<0/\((gI a i).natAbs:Int)<=gI x j:=by
 have hz:(a.zip x).length=m:=by rw[Si];lia
 have mem:∀p∈(a.zip x).eraseIdx i,∃j,j<m/\j≠i/\p=(gI a j,gI x j):=λp hp=>by obtain⟨j,hj,e⟩:=List.mem_eraseIdx_iff_getElem?.mp hp;rw[List.getElem?_zip_eq_some]at e;have h1:=(P8.mp e.1).1;refine⟨j,by lia,hj,?_⟩;have e1:=get_gI' h1;have e2:=get_gI' (l:=x) (k:=j) ⋯;rw[e1]at e;rw[e2]at e;have q1:=To e.1;have q2:=To e.2;rw[q1,q2]
 obtain⟨p,hp,k1,k2⟩:=LJ (k:=m-1) (t:=t) (G:=G) h0 (ht _ (dO ⋯)) hρ OU (L:=(a.zip x).eraseIdx i) (by rw[List.length_eraseIdx_of_lt ⋯,hz];lia) (λp hp=>by
  obtain⟨j,hj,_,rfl⟩:=mem p hp;exact⟨ht _ (dO ⋯),hn j hj⟩) (by rw[lh ⋯ ⋯,hs])
 obtain⟨j,hj,cM,rfl⟩:=mem p hp;exact⟨j,hj,cM,k1,k2⟩
where
 get_gI' {l:List Int} {k:Nat} (h:k<l.length):l[k]?=some (gI l k):=by simp[gI,List.getD,h]
theorem vI{u v:Int}(h:u*v<0):u*(v.natAbs:Int)+v*(u.natAbs:Int)=0:=by
 have hu:u≠0:=λz=>by rw[z,Rv]at h;lia
 rcases Re hu with z|z
 ·have w:0<v:=by
   rcases aF 0 v with w|w
   ·exact w
   ·have:=Int.mul_nonneg_of_nonpos_of_nonpos (Int.le_of_lt z) w;lia
  have e1:(v.natAbs:Int)=v:=⋯
  have e2:(u.natAbs:Int)= - u:=⋯
  rw[e1,e2];grind
 ·have w:v<0:=by
   rcases aF v 0 with w|w
   ·exact w
   ·have:=Rj (Int.le_of_lt z) w;lia
  have e1:(v.natAbs:Int)= - v:=⋯
  have e2:(u.natAbs:Int)=u:=⋯
  rw[e1,e2];grind
theorem cG{m i:Nat}{PS:List (Nat×List Int)}:i∈bq m PS↔i<m/\i∉PS.map (·.1):=by unfold bq;rw[So,QR];simp
theorem oy{l:List Int}{x:Int}(h:x∈l):x<=dq l:=(cD l (λe=>by rw[e]at h;cases h)).2 x h
theorem sF{M:List (List Int)}{q:List Int}{z:Int}(hq:q∈M)(hz:z∈q):(z.natAbs:Int)<=dZ M:=oy (Ss.mpr ⟨q,hq,QF.mpr ⟨z,hz,rfl⟩⟩)
theorem sG{M:List (List Int)}{t:Int}(h:∀q∈M,∀z∈q,(z.natAbs:Int)<=t)(ht:0<=t):dZ M<=t:=by
 unfold dZ;by_cases e:CL M=[]
 ·rw[e];exact ht
 ·obtain⟨q,hq,h'⟩:=Ss.mp (cD _ e).1;obtain⟨x,hx,ex⟩:=QF.mp h';rw[<-ex];exact h q hq x hx
theorem kI{m p:Nat}{L0:List (List Int)}{PS:List (Nat×List Int)}{LS:List (List Int)}(S:Sq m m L0 PS LS):(bq m PS).length+PS.length=m:=by
 have:=pH (m:=m) (L:=PS.map (·.1)) S.st.nd λp hp=>by obtain⟨q,hq,rfl⟩:=QF.mp hp;exact(S.st.pl q hq).1
 rw[Qf]at this;exact this
variable{fs:List Fn}
structure ei(D:Dt)(M:List (List Int)):Prop where
 it:itemsOf D=some (M.map tI)
 sq:df D=some (M.map tI)
 ln:d6 .len [D]= .ok (.int M.length)
theorem ei.lst(M:List (List Int)):ei (lI M) M:=⟨rfl,rfl,by show R.ok (Dt.int ((M.map tI).length:Nat))=_;rw[Qf]⟩
theorem ei.tup(M:List (List Int)):ei (.tup (M.map tI)) M:=⟨rfl,rfl,by show R.ok (Dt.int ((M.map tI).length:Nat))=_;rw[Qf]⟩
theorem BW{ik N:Nat}(hf:fs[ik]?=some ⟨3,3,false,z9⟩)(hN:1<=N){D:Dt}{M:List (List Int)}(hD:ei D M){many:Int}{r:List Int}(hR:M.length<=1000)(Oi:∀q∈M,q.length<=100)(hr:r.length<=1000)(hb:brk M many r=false):
  aw fs N ik [D,.int many,tI r] none= .ok (.aW,none):=by
 have dF:lim=1000000:=rfl;refine aC hf hN rfl ?_;show fin (aV (aw fs (N-1)) z9 [some (D),some (.int many),some (tI r)] none)=_;have ln:=hD.ln;unfold brk at hb;simp only[Bool.or_eq_false_iff,decide_eq_false_iff_not]at hb;obtain⟨⟨⟨h1,h2⟩,h3⟩,h4⟩:=hb;refine dy (S1:=none) (by simp only[RX,ln];rw[Qv ⋯]) ?_;refine dy (S1:=none) (by simp only[RX,Qv h2]) ?_;have hA:ev (aw fs (N-1)) sW [some (D),some (.int many),some (tI r)] none= .ok (.bl (u7 M),none):=by
  have hc:aK (aN (.nm 1) (bh (aw fs (N-1)) .nil) (kA (aw fs (N-1)) (M.map tI).length (.seq (.var 1)) (.nm 2) .nil (.cmp .Gt (.bi .abs (.cons (.var 2) .nil)) (.con (.int 3)))) [none,none,none]) (M.map tI) none= .ok (M.flatMap λq=>q.map λx=>.bl (decide ((3:Int)<x.natAbs)),none):=bP λq hq=>by have hl:=Oi q hq;refine zj (ρ1:=[none,some (tI q),none]) (ds:=q.map Dt.int) (S1:=none) rfl rfl ?_ rfl (cm λx hx=>aO (ρ1:=[none,some (tI q),some (.int x)]) rfl (by simp only[RX,nI]) rfl);rw[Qf,Qf];exact Qh (Tc hR hl) (by decide)
  unfold sW;rw[gd,kF (ds:=M.map tI) (S1:=none) (gj (d:=D) rfl hD.it) (by rw[Qf];lia) rfl hc,R.ah];have e:(M.flatMap λq=>q.map λx=>Dt.bl (decide ((3:Int)<x.natAbs)))=(M.flatMap λq=>q.map λx=>decide ((3:Int)<x.natAbs)).map Dt.bl:=by rw[Sk];congr 1;funext q;rw[Sl];rfl
  rw[e,qZ];show R.ok (Dt.bl _,none)=_;congr 3;unfold u7;rw[List.any_flatMap];congr 1;funext q;rw[RF];congr 1;funext x;show decide _=decide _;congr 1;exact propext ⋯
 have hB:ev (aw fs (N-1)) sX [some (D),some (.int many),some (tI r)] none= .ok (.bl (u9 r),none):=by
  have hc:aK (aN (.nm 1) (bh (aw fs (N-1)) .nil) (bj (aw fs (N-1)) (.cmp .Gt (.bi .abs (.cons (.var 1) .nil)) (.con (.int 20)))) [none,none]) (r.map Dt.int) none= .ok (r.map λx=>.bl (decide ((20:Int)<x.natAbs)),none):=cm λx hx=>aO (ρ1:=[none,some (.int x)]) rfl (by simp only[RX,nI]) rfl
  unfold sX;rw[gd,aT (ds:=r.map Dt.int) (S1:=none) rfl (by rw[Qf];lia) rfl hc,R.ah];have e:(r.map λx=>Dt.bl (decide ((20:Int)<x.natAbs)))=(r.map λx=>decide ((20:Int)<x.natAbs)).map Dt.bl:=by rw[Sl];rfl
  rw[e,qZ];show R.ok (Dt.bl _,none)=_;congr 3;unfold u9;rw[RF];congr 1;funext x;show decide _=decide _;congr 1;exact propext ⋯
 have tA:cO (aw fs (N-1)) sW [some (D),some (.int many),some (tI r)] none= .ok (u7 M,none):=rz hA;have tB:cO (aw fs (N-1)) sX [some (D),some (.int many),some (tI r)] none= .ok (u9 r,none):=rz hB;rw[h3]at tA;rw[h4]at tB;exact dy (S1:=none) tA (dy (S1:=none) tB rfl)
theorem Iv{ic is N:Nat}(hc:fs[ic]?=some ⟨3,3,false,wz⟩)(hf:fs[is]?=some ⟨3,8,false,Ab ic⟩)(hN:2<=N){D:Dt}{M:List (List Int)}(hD:ei D M){r:List Int}{m:Nat}(hm:m<=4)(hM:M.length<=16)(hr:r.length<=16)(GG:∀q∈M,q.length=m)(KS:∀q∈M,∀x∈q,x.natAbs<=3)(Lf:∀x∈r,x.natAbs<=20):
  aw fs N is [D,.int m,tI r] none= .ok ((if nG m (bN (rowsOf M r) m).2=true then .aW else .lst ((bN (rowsOf M r) m).1.map pD)),none)/\Sq m m (rowsOf M r) (bN (rowsOf M r) m).1 (bN (rowsOf M r) m).2:=by
 have dF:lim=1000000:=rfl;have b4:jL 3<2^64:=by decide
 let L0:=rowsOf M r
 have s0:uZ m 0 [] L0:=by
  refine⟨λq hq=>?_,λq hq x hx=>?_,by simp,by simp,by simp,by simp,by simp⟩
  ·obtain⟨z,hz,rfl⟩:=QF.mp hq;rw[Qm,GG _ (SA hz).1];rfl
  ·obtain⟨z,hz,rfl⟩:=QF.mp hq;show x.natAbs<=20;rcases Qs.mp hx with hx|hx
   ·have:=KS _ (SA hz).1 x hx;lia
   ·rw[QE]at hx;subst hx;exact Lf _ (SA hz).2
 have l0:L0.length<=16:=by show ((M.zip r).map _).length<=16;rw[Qf,Si];lia
 have sq:=λp(hp:p<=m)=>Sq.all s0 p hp
 have hF:ev (aw fs (N-1)) BQ [some (D),some (.int m),some (tI r),none,none,none,none,none] none= .ok (.lst (L0.map tI),none):=by
  have lQ:aK (aN (.tp [1,2]) (bh (aw fs (N-1)) .nil) (bj (aw fs (N-1)) (.bin .Add (.bi .tuple (.cons (.var 1) .nil)) (.tup (.cons (.var 2) .nil)))) [none,none,none]) (cX (M.map tI) (r.map Dt.int)) none= .ok ((M.zip r).map λq=>tI (q.1++[q.2]),none):=by
   rw[zip_rows];refine aU λq hq=>?_
   have hl:=GG _ (SA hq).1;have ha:l6 .Add (tI q.1) (.tup [.int q.2])= .ok (tI (q.1++[q.2])):=by show af (decide ((q.1.map Dt.int).length+1<=lim)) (R.ok (Dt.tup (q.1.map Dt.int++[.int q.2])))=_;rw[Qz (by rw[Qf];lia),guard_true];unfold tI;rw[QP];rfl
   have ht:d6 .tuple [tI q.1]= .ok (tI q.1):=rfl;exact aO (ρ1:=[none,some (tI q.1),some (.int q.2)]) rfl (by simp only[RX,ht,ha]) (by unfold bO;rw[cH,Q6])
  have e:((M.zip r).map λq=>tI (q.1++[q.2]))=L0.map tI:=by show _=((M.zip r).map _).map tI;rw[Sl];rfl
  rw[e]at lQ;exact aT (ds:=cX (M.map tI) (r.map Dt.int)) (S1:=none) (jt (S1:=none) (S2:=none) (da:=D) rfl rfl hD.sq rfl) (by rw[zip_rows,Qf,Si];lia) rfl lQ
 have loop:=bC (S:=none) (tg:=.nm 5) (body:=aV (aw fs (N-1)) (BP ic)) (ds:=aR 0 m) (ρ:=[some (D),some (.int m),some (tI r),some (.lst (L0.map tI)),some (.lst []),none,none,none])
  (λpre ρ=>∃x5 x6 x7,ρ=[some (D),some (.int m),some (tI r),some (.lst ((bN L0 pre.length).2.map tI)),some (.lst ((bN L0 pre.length).1.map pD)),x5,x6,x7]) ⟨none,none,none,rfl⟩ (by
   rintro pre x post ρ e ⟨x5,x6,x7,rfl⟩;obtain⟨h1,rfl⟩:=cV e;generalize hp:pre.length=p at *;have e1:(pre++[Dt.int p]).length=p+1:=by rw[Qm,hp];rfl
   have Mj:=sq p ⋯;have st:=Mj.st;have hl:(bN L0 p).2.length<=16:=by rw[Mj.ln];exact l0
   have Jo:bN L0 (p+1)=fq p (bN L0 p):=rfl;generalize hS:bN L0 p=S at *;obtain⟨PS,LS⟩:=S;dsimp only at st hl Mj;have hB:jL p<2^64:=S9 (qX ⋯) b4;have hH:ev (aw fs (N-1)) BR [some (D),some (.int m),some (tI r),some (.lst (LS.map tI)),some (.lst (PS.map pD)),some (.int p),x6,x7] none= .ok (.lst ((LS.filter λq=> !(gI q p==0)).map tI),none):=by
    have lQ:aK (aN (.nm 1) (bh (aw fs (N-1)) (.cons (.cmp .NotEq (.idx (.var 1) (.var 2)) (.con (.int 0))) .nil)) (bj (aw fs (N-1)) (.var 1)) [none,none,some (.int p)]) (LS.map tI) none= .ok (LS.flatMap λq=>if (!(gI q p==0))=true then[tI q] else[],none):=bP λq hq=>by have hi:=gi (l:=q) (p:=p) (by rw[st.len q hq];lia);exact turn_if (ρ1:=[none,some (tI q),some (.int p)]) rfl (by simp only[RX,hi]) λ_=>⟨by simp only[RX],by unfold bO;rw[cH,Q6]⟩
    rw[fB]at lQ;exact aT (ds:=LS.map tI) (S1:=none) rfl (by rw[Qf];lia) rfl lQ
   generalize hv:(LS.filter λq=> !(gI q p==0))=hav at hH;cases hav with
   |nil=>
    refine⟨_,_,rfl,dw (d:=.lst []) (S1:=none) hH rfl (i7 (S1:=none) rfl rfl),some (.int p),some (.lst []),x7,?_⟩;have e3:fq p (PS,LS)=(PS,LS):=by unfold fq;rw[show (PS,LS).2=LS from rfl,hv]
    rw[e1,Jo,e3];rfl
   |cons b bs=>
    have MY:b∈LS/\gI b p≠0:=by
     have:b∈LS.filter λq=> !(gI q p==0):=by rw[hv];exact Qc
     have:=So.mp this;exact⟨this.1,by simpa using this.2⟩
    have lb:=st.len b MY.1;have Jt:∀x∈b,Cn x:=λx hx=>S9 (st.bd b MY.1 x hx) hB
    have hP:ev (aw fs (N-1)) (wH ic) [some (D),some (.int m),some (tI r),some (.lst (LS.map tI)),some (.lst (PS.map pD)),some (.int p),some (.lst ((b::bs).map tI)),some (tI b)] none= .ok (.lst ((PS.map λq=>(q.1,bE q.2 p b)).map pD),none):=by
     have lQ:aK (aN (.tp [1,2]) (bh (aw fs (N-1)) .nil) (bj (aw fs (N-1)) (.tup (.cons (.var 1) (.cons (.call ic (.cons (.var 2) (.cons (.var 4) (.cons (.var 3) .nil))) []) .nil)))) [none,none,none,some (tI b),some (.int p)]) (PS.map pD) none= .ok (PS.map λq=>pD (q.1,bE q.2 p b),none):=aU λq hq=>by have eU:=(st.pl q hq).2.1;have:=wZ hc (N:=N-1) ⋯ (r:=q.2) (b:=b) (p:=p) ⋯ ⋯ (λx hx=>S9 (st.pb q hq x hx) hB) Jt ⋯;exact aO (ρ1:=[none,some (.int q.1),some (tI q.2),some (tI b),some (.int p)]) rfl (by simp only[RX,this];rfl) (by unfold bO;simp only[pD,kY,iA,cH,QZ,Q6])
     have e2:(PS.map λq=>pD (q.1,bE q.2 p b))=(PS.map λq=>(q.1,bE q.2 p b)).map pD:=by rw[Sl];rfl
     rw[e2]at lQ;exact aT (ds:=PS.map pD) (S1:=none) rfl (by rw[Qf];have:=st.ct;lia) rfl lQ
    have hL:∀y4,ev (aw fs (N-1)) (BS ic) [some (D),some (.int m),some (tI r),some (.lst (LS.map tI)),y4,some (.int p),some (.lst ((b::bs).map tI)),some (tI b)] none= .ok (.lst ((LS.map λq=>bE q p b).map tI),none):=λy4=>by
     have lQ:aK (aN (.nm 1) (bh (aw fs (N-1)) .nil) (bj (aw fs (N-1)) (.call ic (.cons (.var 1) (.cons (.var 3) (.cons (.var 2) .nil))) [])) [none,none,some (tI b),some (.int p)]) (LS.map tI) none= .ok (LS.map λq=>tI (bE q p b),none):=aU λq hq=>by have eU:=st.len q hq;have:=wZ hc (N:=N-1) ⋯ (r:=q) (b:=b) (p:=p) ⋯ ⋯ (λx hx=>S9 (st.bd q hq x hx) hB) Jt ⋯;exact aO (ρ1:=[none,some (tI q),some (tI b),some (.int p)]) rfl (by simp only[RX,this]) (by unfold bO;rw[cH,Q6])
     have e2:(LS.map λq=>tI (bE q p b))=(LS.map λq=>bE q p b).map tI:=by rw[Sl];rfl
     rw[e2]at lQ;exact aT (ds:=LS.map tI) (S1:=none) rfl (by rw[Qf];lia) rfl lQ
    have hAdd:ev (aw fs (N-1)) (.bin .Add (wH ic) (.lst (.cons (.tup (.cons (.var 5) (.cons (.var 7) .nil))) .nil))) [some (D),some (.int m),some (tI r),some (.lst (LS.map tI)),some (.lst (PS.map pD)),some (.int p),some (.lst ((b::bs).map tI)),some (tI b)] none= .ok (.lst ((PS.map (λq=>(q.1,bE q.2 p b))++[(p,b)]).map pD),none):=by rw[ev,hP,R.ah];simp only[RX];show (l6 .Add (.lst ((PS.map λq=>(q.1,bE q.2 p b)).map pD)) (.lst [pD (p,b)])).bind _=_;show (af (decide (((PS.map λq=>(q.1,bE q.2 p b)).map pD).length+1<=lim)) _).bind _=_;rw[Qz (by rw[Qf,Qf];have:=st.ct;lia),guard_true,QP];rfl
    refine⟨_,_,rfl,dw (d:=.lst ((b::bs).map tI)) (S1:=none) hH rfl (qd (S1:=none) rfl (dw (d:=tI b) (S1:=none) (by have h0:=(oj (ds:=(b::bs).map tI) (k:=0) (d:=tI b) rfl).2;simp only[RX];exact TJ (R.bind · _) h0) (by unfold bO;rw[cH,Q6]) (dw (S1:=none) hAdd rfl (dw (S1:=none) (hL _) rfl rfl)))),some (.int p),some (.lst ((b::bs).map tI)),some (tI b),?_⟩;have e3:fq p (PS,LS)=(PS.map (λq=>(q.1,bE q.2 p b))++[(p,b)],LS.map λr=>bE r p b):=by unfold fq;rw[show (PS,LS).2=LS from rfl,hv]
    rw[e1,Jo,e3];rfl)
 obtain⟨ρ1,bT,x5,x6,x7,rfl⟩:=loop;have em:(aR 0 m).length=m:=by simp[aR]
 rw[em]at bT;have JQ:=sq m (Qb _);have st:=JQ.st;have hl:(bN L0 m).2.length<=16:=by rw[JQ.ln];exact l0
 refine⟨?_,JQ⟩;show _=R.ok ((if nG m (bN L0 m).2=true then Dt.aW else Dt.lst ((bN L0 m).1.map pD)),none);generalize bN L0 m=S at *;obtain⟨PS,LS⟩:=S;dsimp only at st hl JQ;have hA:cO (aw fs (N-1)) wG [some (D),some (.int m),some (tI r),some (.lst (LS.map tI)),some (.lst (PS.map pD)),x5,x6,x7] none= .ok ((LS.map λq=> !(gI q m==0)).any id,none):=by
  have lQ:aK (aN (.nm 1) (bh (aw fs (N-1)) .nil) (bj (aw fs (N-1)) (.cmp .NotEq (.idx (.var 1) (.var 2)) (.con (.int 0)))) [none,none,some (.int m)]) (LS.map tI) none= .ok (LS.map λq=>.bl (!(gI q m==0)),none):=aU λq hq=>by have hi:=gi (l:=q) (p:=m) (by rw[st.len q hq];lia);exact aO (ρ1:=[none,some (tI q),some (.int m)]) rfl (by simp only[RX,hi]) rfl
  refine rz ?_;rw[gd,aT (ds:=LS.map tI) (S1:=none) rfl (by rw[Qf];lia) rfl lQ,R.ah];have e:(LS.map λq=>Dt.bl (!(gI q m==0)))=(LS.map λq=> !(gI q m==0)).map Dt.bl:=by rw[Sl];rfl
  rw[e,qZ];rfl
 have body:∀{x:R (Dt×Sx)},fin (aV (aw fs (N-1)) (.cons (.ifs wG (.cons (.ret (.con .aW)) .nil) .nil) (.cons (.ret (.var 4)) .nil)) [some (D),some (.int m),some (tI r),some (.lst (LS.map tI)),some (.lst (PS.map pD)),x5,x6,x7] none)=x->aw fs N is [D,.int m,tI r] none=x:=λ {x} h=>by refine aC hf ⋯ rfl ?_;show fin (aV (aw fs (N-1)) (Ab ic) [some (D),some (.int m),some (tI r),none,none,none,none,none] none)=_;exact aE (S1:=none) hF rfl (aE (d:=.lst []) (S1:=none) rfl rfl (bB (ds:=aR 0 m) (S1:=none) (dR (n:=m) rfl ⋯) rfl bT h))
 have Ju:nG m LS=(LS.map λq=> !(gI q m==0)).any id:=rfl;cases hb:((LS.map λq=> !(gI q m==0)).any id) with
 |true=>rw[hb]at hA Ju;dsimp only;rw[Ju,TN rfl];exact body (jC (S1:=none) hA (ax rfl))
 |false=>rw[hb]at hA Ju;dsimp only;rw[Ju,TM (by simp)];exact body (dy (S1:=none) hA (ax rfl))
variable{fs:List Fn}
noncomputable def dQ(r:List Int):Int:=dq (r.map λx=>(x.natAbs:Int))
theorem xP(s f:Nat)(t g:Int)(h:s=0):kL s f t g=1:=by unfold kL;rw[TN h]
theorem Gy{ig N:Nat}(hf:fs[ig]?=some ⟨4,7,false,wB⟩)(hN:1<=N){D:Dt}{M:List (List Int)}(hD:ei D M){r:List Int}{m s f:Nat}(hm:1<=m)(GF:s≠0->M≠[])(G7:s≠0->r≠[])(hM:M.length<=16)(hr:r.length<=16)(GG:∀q∈M,q.length=m)(JC:m<=4)(KS:∀q∈M,∀x∈q,x.natAbs<=3)(Lf:∀x∈r,x.natAbs<=20)(hs:s<=4)(PF:f<=4):
  aw fs N ig [D,tI r,.int s,.int f] none= .ok (.int (kL s f (dZ M) (dQ r)),none):=by
 have dF:lim=1000000:=rfl;by_cases h0:s=0
 ·subst h0;rw[xP _ _ _ _ rfl];refine aC hf hN rfl ?_;show fin (aV (aw fs (N-1)) wB [some (D),some (tI r),some (.int 0),some (.int f),none,none,none] none)=_;exact jC (S1:=none) rfl (ax rfl)
 have GF:=GF h0;have G7:=G7 h0
 let A:=M.flatMap λq=>q.map λx=>(x.natAbs:Int)
 have MS:A≠[]:=by obtain⟨q,hq⟩:=RT M GF;have hl:=GG q hq;obtain⟨x,hx⟩:=RT q (by intro z;rw[z]at hl;simp at hl;lia);intro z;have:(x.natAbs:Int)∈A:=Ss.mpr ⟨q,hq,QF.mpr ⟨x,hx,rfl⟩⟩;rw[z]at this;cases this
 let G:=r.map λx=>(x.natAbs:Int)
 have GE:G≠[]:=λz=>G7 (List.map_eq_nil_iff.mp z)
 have tA:=cD A MS;have tG:=cD G GE;have bA:0<=dq A/\dq A<=3:=by
  obtain⟨q,hq,h⟩:=Ss.mp tA.1;obtain⟨x,hx,e⟩:=QF.mp h;have:=KS q hq x hx
  lia
 have bG:0<=dq G/\dq G<=20:=by
  obtain⟨x,hx,e⟩:=QF.mp tG.1;have:=Lf x hx
  lia
 have hT:ev (aw fs (N-1)) wD [some (D),some (tI r),some (.int s),some (.int f),none,none,none] none= .ok (.int (dq A),none):=by
  have hc:aK (aN (.nm 1) (bh (aw fs (N-1)) .nil) (kA (aw fs (N-1)) (M.map tI).length (.seq (.var 1)) (.nm 2) .nil (.bi .abs (.cons (.var 2) .nil))) [none,none,none]) (M.map tI) none= .ok (M.flatMap λq=>q.map λx=>.int x.natAbs,none):=bP λq hq=>by have hl:=GG q hq;refine zj (ρ1:=[none,some (tI q),none]) (ds:=q.map Dt.int) (S1:=none) rfl rfl ?_ rfl (cm λx hx=>aO (ρ1:=[none,some (tI q),some (.int x)]) rfl (by simp only[RX,nI]) rfl);rw[Qf,Qf];exact Qh (Tc hM (by lia:q.length<=4)) (by decide)
  unfold wD;rw[gd,kF (ds:=M.map tI) (S1:=none) (gj (d:=D) rfl hD.it) (by rw[Qf];lia) rfl hc,R.ah];have e:(M.flatMap λq=>q.map λx=>Dt.int x.natAbs)=A.map Dt.int:=by show _=(M.flatMap _).map Dt.int;rw[Sk];congr 1;funext q;rw[Sl];rfl
  rw[e,td MS];rfl
 have hG:ev (aw fs (N-1)) wC [some (D),some (tI r),some (.int s),some (.int f),some (.int (dq A)),none,none] none= .ok (.int (dq G),none):=by
  have hc:aK (aN (.nm 1) (bh (aw fs (N-1)) .nil) (bj (aw fs (N-1)) (.bi .abs (.cons (.var 1) .nil))) [none,none]) (r.map Dt.int) none= .ok (r.map λx=>.int x.natAbs,none):=cm λx hx=>aO (ρ1:=[none,some (.int x)]) rfl (by simp only[RX,nI]) rfl
  unfold wC;rw[gd,aT (ds:=r.map Dt.int) (S1:=none) rfl (by rw[Qf];lia) rfl hc,R.ah];have e:(r.map λx=>Dt.int x.natAbs)=G.map Dt.int:=by show _=(r.map _).map Dt.int;rw[Sl];rfl
  rw[e,td GE];rfl
 have eA:dZ M=dq A:=rfl;have eG:dQ r=dq G:=rfl;rw[eA,eG];generalize dq A=top at hT hG bA;generalize dq G=goal at hG bG;have m1:=aX (i:=2) (j:=top) (.inl (by decide));have m2:=aX (i:=4) (j:=top) (.inl (by decide));have m3:=aX (i:=4*top) (j:=top) (.inr ⋯);have m4:=aX (i:=(f:Int)) (j:=top) (.inr ⋯);have hi:cu (.tup [.int 1,.int (2*top),.int (4*top*top),.int 0]) (.int ((s:Int)-1))= .ok (.int (([1,2*top,4*top*top,0]:List Int).getD (s-1) 0)):=by
  match s,h0,hs with
  |1,_,_=>rfl
  |2,_,_=>rfl
  |3,_,_=>rfl
  |4,_,_=>rfl
 have ft:0<=(f:Int)*top/\(f:Int)*top<=3*f:=⟨Rj ⋯ bA.1,by have:=Rh bA.2 (show (0:Int)<=f by lia);lia⟩;have m5:=λmi=>aX (i:=mi) (j:=goal+(f:Int)*top) (.inr ⋯)
 have s0:((s:Int)==0)=false:=TC.mpr ⋯;have eg:kL s f top goal=([1,2*top,4*top*top,0]:List Int).getD (s-1) 0*(goal+f*top):=by unfold kL;rw[TM h0]
 rw[eg];refine aC hf hN rfl ?_;show fin (aV (aw fs (N-1)) wB [some (D),some (tI r),some (.int s),some (.int f),none,none,none] none)=_;refine dy (S1:=none) (by simp only[RX,s0]) (aE (S1:=none) hT rfl (aE (S1:=none) hG rfl (aE (d:=.tup [.int 1,.int (2*top),.int (4*top*top),.int 0]) (S1:=none) (by simp only[RX,m1,m2,m3]) rfl (ax ?_))));simp only[RX,hi,m4,m5]
theorem IT{iw N:Nat}(hf:fs[iw]?=some ⟨3,5,false,Ae⟩)(hN:1<=N){m g:Nat}{FR:List Nat}(hm:m<=4)(Oc:∀p∈FR,p<m)(hg:(g+1)^FR.length<=900000):
  aw fs N iw [.int m,.lst (FR.map λ(p:Nat)=>Dt.int p),.int g] none= .ok (lI (dz g FR [List.replicate m 0]),none)/\(dz g FR [List.replicate m 0]).length<=900000:=by
 have dF:lim=1000000:=rfl;have loop:=bC (S:=none) (tg:=.nm 4) (body:=aV (aw fs (N-1)) (.cons (.asg 3 BU) .nil)) (ds:=FR.map λ(p:Nat)=>Dt.int p) (ρ:=[some (.int m),some (.lst (FR.map λ(p:Nat)=>Dt.int p)),some (.int g),some (lI [List.replicate m 0]),none])
  (λpre ρ=>∃Q x4,Q.length<=(g+1)^pre.length/\(∀q∈Q,q.length=m/\∀x∈q,(0:Int)<=x/\x<=(g:Int))/\(∀rest,FR=FR.take pre.length++rest->dz g rest Q=dz g FR [List.replicate m 0])/\ρ=[some (.int m),some (.lst (FR.map λ(p:Nat)=>Dt.int p)),some (.int g),some (lI Q),x4])
  ⟨[List.replicate m 0],none,by simp,λq hq=>by rw[QE]at hq;subst hq;exact⟨by simp,λx hx=>by have:=RQ hx;lia⟩,λrest e=>by rw[Sa,SW,Sy]at e;rw[<-e],rfl⟩ (by
   rintro pre x post ρ e ⟨Q,x4,hl,hQ,hW,rfl⟩;have hx:x∈FR.map λ(p:Nat)=>Dt.int p:=by rw[e];simp
   obtain⟨p,hp,rfl⟩:=QF.mp hx;have PN:=Oc p hp;have qO:pre.length+1<=FR.length:=by
    have:=TJ List.length e;simp at this
    lia
   have JG:(g+1)^(pre.length+1)<=900000:=Qh (Nat.pow_le_pow_right ⋯ qO) hg;have Py:Q.length*(g+1)<=(g+1)^(pre.length+1):=by rw[Nat.pow_succ];exact Td _ hl
   have As:Q.length<=Q.length*(g+1):=Nat.le_mul_of_pos_right _ ⋯;have hc:aK (aN (.nm 1) (bh (aw fs (N-1)) .nil) (kA (aw fs (N-1)) (Q.map tI).length (.rng1 (.bin .Add (.var 3) (.con (.int 1)))) (.nm 2) .nil (.bin .Add (.bin .Add (.sliH (.var 1) (.var 4)) (.tup (.cons (.var 2) .nil))) (.sliL (.var 1) (.bin .Add (.var 4) (.con (.int 1)))))) [none,none,none,some (.int g),some (.int p)]) (Q.map tI) none= .ok (Q.flatMap λq=>(List.range (g+1)).map λ(n:Nat)=>tI (q.set p n),none):=bP λq hq=>by
    have lq:=(hQ q hq).1;refine zj (ρ1:=[none,some (tI q),none,some (.int g),some (.int p)]) (ds:=aR 0 (g+1)) (S1:=none) rfl (dR (n:=g+1) (by simp only[RX];rfl) ?_) ?_ rfl ?_
    ·have:g+1<=(g+1)^(pre.length+1):=by rw[Nat.pow_succ];exact S5 _ (Nat.pow_pos ⋯)
     lia
    ·rw[Qf];simp only[aR,Qf,Sb]
     lia
    ·have er:aR 0 (g+1)=(List.range (g+1)).map λ(n:Nat)=>Dt.int n:=by unfold aR;exact Sj λi _=>by rw[Rt]
     rw[er];refine aU λn hn=>?_
     have c1:fk (tI q) none (some (p:Int))= .ok (tI (q.take p)):=by show R.ok (Dt.tup (cutD (q.map Dt.int) none (some (p:Int))))=_;rw[w6 _ (by rw[Qf];lia),<-List.map_take];rfl
     have c2:fk (tI q) (some ((p:Int)+1)) none= .ok (tI (q.drop (p+1))):=by show R.ok (Dt.tup (cutD (q.map Dt.int) (some (((p+1:Nat)):Int)) none))=_;rw[rh _ (by rw[Qf];lia),<-List.map_drop];rfl
     have a1:l6 .Add (tI (q.take p)) (.tup [.int n])= .ok (tI (q.take p++[(n:Int)])):=by show af (decide (((q.take p).map Dt.int).length+1<=lim)) (R.ok (Dt.tup ((q.take p).map Dt.int++[.int n])))=_;rw[Qz (by rw[Qf,Sh];lia),guard_true];unfold tI;rw[QP];rfl
     have a2:l6 .Add (tI (q.take p++[(n:Int)])) (tI (q.drop (p+1)))= .ok (tI (q.set p n)):=by show af (decide (((q.take p++[(n:Int)]).map Dt.int).length+((q.drop (p+1)).map Dt.int).length<=lim)) (R.ok (Dt.tup ((q.take p++[(n:Int)]).map Dt.int++(q.drop (p+1)).map Dt.int)))=_;rw[Qz (by simp only[Qf,Qm,Sh,R9,Qo,Sa];lia),guard_true,<-QP,SJ,TN ⋯,Qk];rfl
     exact aO (ρ1:=[none,some (tI q),some (.int n),some (.int g),some (.int p)]) rfl (by simp only[RX,c1,c2,a1,a2]) (by unfold bO;rw[cH,Q6])
   have B5:=kF (F:=aw fs (N-1)) (cap:=[none,none,none,some 2,some 4]) (it:=.seq (.var 3)) (ρ:=[some (.int m),some (.lst (FR.map λ(p:Nat)=>Dt.int p)),some (.int g),some (lI Q),some (.int p)]) (S:=none) (ds:=Q.map tI) (S1:=none) rfl (by rw[Qf];lia) rfl hc;have e2:(Q.flatMap λq=>(List.range (g+1)).map λ(n:Nat)=>tI (q.set p n))=(Q.flatMap λq=>(List.range (g+1)).map λ(n:Nat)=>q.set p (n:Int)).map tI:=by rw[Sk];congr 1;funext q;rw[Sl];rfl
   rw[e2]at B5;refine⟨_,_,rfl,dw (S1:=none) B5 rfl rfl,Q.flatMap λq=>(List.range (g+1)).map λ(n:Nat)=>q.set p (n:Int),some (.int p),?_,?_,?_,rfl⟩
   ·have:=pF (f:=λq=>(List.range (g+1)).map λ(n:Nat)=>q.set p (n:Int)) (k:=g+1) (l:=Q) λq _=>by simp
    rw[Qm,Sg]
    lia
   ·intro q' jQ;obtain⟨q,hq,h⟩:=Ss.mp jQ;obtain⟨n,hn,rfl⟩:=QF.mp h;have hn:=QR.mp hn;refine⟨by rw[Sf];exact(hQ q hq).1,λx hx=>?_⟩;rcases List.mem_or_eq_of_mem_set hx with hx|hx
    ·exact(hQ q hq).2 x hx
    ·lia
   ·intro rest er;have JF:FR[pre.length]?=some p:=by
     have h1:=TJ (λl=>l[pre.length]?) e;simp only[Qp,QN (Qb _),Tf,R1]at h1;cases jY:FR[pre.length]? with
     |none=>rw[jY]at h1;cases h1
     |some p'=>
      rw[jY]at h1;have h1:Dt.int (p':Int)=Dt.int (p:Int):=To h1;have h2:(p':Int)=p:=by injection h1
      exact TJ some ⋯
    rw[Qm,Sg]at er;have h2:FR=FR.take pre.length++p::rest:=by rw[SM,JF,Qk]at er;exact er
    exact hW (p::rest) h2)
 obtain⟨ρ1,bT,Q,x4,hl,hQ,hW,rfl⟩:=loop;rw[Qf]at hl hW;have eW:=hW [] (by rw[SQ,QK]);have eW:Q=dz g FR [List.replicate m 0]:=eW;rw[<-eW];refine⟨aC hf hN rfl ?_,by lia⟩;show fin (aV (aw fs (N-1)) Ae [some (.int m),some (.lst (FR.map λ(p:Nat)=>Dt.int p)),some (.int g),none,none] none)=_;have h0:=uE (m:=m) 0 ⋯;exact aE (d:=lI [List.replicate m 0]) (S1:=none) (by simp only[RX,h0];rfl) rfl (bB (ds:=FR.map λ(p:Nat)=>Dt.int p) (S1:=none) rfl rfl bT (ax rfl))
theorem Gc{ip ic N:Nat}(hp:fs[ip]?=some ⟨2,2,false,pf⟩)(hf:fs[ic]?=some ⟨2,7,false,Aa ip⟩)(hN:2<=N){m:Nat}{PS:List (Nat×List Int)}{LS:List (List Int)}(hm:m<=4)(st:uZ m m PS LS){q:List Int}(hq:MB m q)(hs:∀x∈q,Cn x):
  aw fs N ic [tI q,.lst (PS.map pD)] none= .ok (((cy q PS q).elim .aW tI),none):=by
 have dF:lim=1000000:=rfl;have loop:=gf (S:=none) (tg:=.tp [3,4]) (body:=aV (aw fs (N-1)) (wA ip)) (ds:=PS.map pD) (ρ:=[some (tI q),some (.lst (PS.map pD)),some (.lst (q.map Dt.int)),none,none,none,none])
  (λpre ρ=>∃w x3 x4 x5 x6,MB m w/\(∀rest,PS=PS.take pre.length++rest->cy q rest w=cy q PS q)/\ρ=[some (tI q),some (.lst (PS.map pD)),some (.lst (w.map Dt.int)),x3,x4,x5,x6]) (λd=>d= .aW/\cy q PS q=none) ⟨q,none,none,none,none,hq,λrest e=>by rw[Sa,SW,Sy]at e;rw[<-e],rfl⟩ (by
   rintro pre x post ρ e ⟨w,x3,x4,x5,x6,hw,hC,rfl⟩;obtain⟨z,tW,rfl⟩:∃z,PS[pre.length]?=some z/\pD z=x:=by
    have h1:=TJ (λl=>l[pre.length]?) e;simp only[Qp,QN (Qb _),Tf,R1]at h1;cases jY:PS[pre.length]? with
    |none=>rw[jY]at h1;cases h1
    |some z=>rw[jY]at h1;exact⟨z,rfl,To h1⟩
   have hz:z∈PS:=Sv tW;have DB:PS=PS.take pre.length++z::PS.drop (pre.length+1):=by
    have cK:=(P8.mp tW).1
    conv=>lhs;rw[<-SN pre.length PS]
    rw[RJ cK,(P8.mp tW).2]
   have FB:=hC _ DB;have N9:∀rest,PS=PS.take (pre.length+1)++rest->rest=PS.drop (pre.length+1):=λrest er=>by have:=TJ (List.drop (pre.length+1)) er;rw[List.drop_append_of_le_length (by have cK:=(P8.mp tW).1;rw[Sh];lia)]at this;rw[this,List.drop_take,Tf,SW,Sy]
   obtain⟨z1,z2,z3⟩:=st.pl z hz;have NG:z.2≠[]:=λh=>by rw[h]at z2;simp at z2
   obtain⟨l,y,ey⟩:∃l y,z.2=l++[y]:=(p6 z.2).resolve_left NG;have hi:cu (tI z.2) (.int (-1))= .ok (.int y):=by show u4 (z.2.map Dt.int) (-1)=_;rw[ey,QP];unfold u4;have:mv (l.map Dt.int++[y].map Dt.int) (-1)=some (.int y):=Mx.pd _ _;rw[this]
   have hc:fk (tI z.2) none (some (-1))= .ok (tI l):=by show R.ok (Dt.tup (cutD (z.2.map Dt.int) none (some (-1))))=_;rw[pv _ (by rw[Ne,List.map_eq_nil_iff];exact NG),ey,QP];simp[tI]
   have hl:l.length=m:=by rw[ey,Qm]at z2;simpa using z2
   have Ld:=Bi (N:=N-1) hp ⋯ (a:=l) (b:=q) hs ⋯;have Dq:=gi (l:=z.2) (p:=z.1) ⋯;have Au:=Qh (st.pb z hz _ (dO (by lia:z.1<z.2.length))) (qX hm);have Jw:d6 .dvm [.int (y-aa l q),.int (gI z.2 z.1)]= .ok (.tup [.int ((y-aa l q).fdiv (gI z.2 z.1)),.int ((y-aa l q).fmod (gI z.2 z.1))]):=by show af (decide (gI z.2 z.1≠0)&&decide ((gI z.2 z.1).natAbs.log2<9000)) _=_;rw[Qz z3,Qz (vD Au z3)];rfl
   have jF:=Int.mul_fdiv_add_fmod (y-aa l q) (gI z.2 z.1);have GJ:(y-aa l q).natAbs<2^200:=by
    have Oo:=qX hm;have b1:∀x∈z.2,x.natAbs<=jL 4:=λx hx=>Qh (st.pb z hz x hx) Oo
    have b2:=uz (A:=jL 4) (B:=2^64) (l:=l) (q:=q) (λx hx=>b1 x (by rw[ey];exact Sn _ hx)) λx hx=>S6 (hs x hx)
    have b3:=b1 y (by rw[ey];simp);have b5:l.length*(jL 4*2^64)<=4*(jL 4*2^64):=Td _ ⋯;have b6:=Int.natAbs_sub_le y (aa l q);have b7:jL 4+4*(jL 4*2^64)<2^200:=by decide
    exact S9 (Qh b6 (Nat.add_le_add b3 (Qh b2 b5))) b7
   have Jx:gh z.2 q=y-aa l q:=by
    unfold gh;rw[ey,jd y (by rw[hl,hq.1])]
    lia
   rw[cy,Jx]at FB;generalize La:y-aa l q=nm at Jw jF GJ FB;generalize nm.fdiv (gI z.2 z.1)=n at Jw jF FB;generalize nm.fmod (gI z.2 z.1)=rest at Jw jF FB;have mI:∀{ts:Ts}{r:RS},aV (aw fs (N-1)) ts [some (tI q),some (.lst (PS.map pD)),some (.lst (w.map Dt.int)),some (.int z.1),some (tI z.2),some (.int n),some (.int rest)] none=r->
     aV (aw fs (N-1)) (.cons (.asgT [5,6] (.bi .dvm (.cons (.bin .Sub (.idx (.var 4) (.neg (.con (.int 1)))) (.call ip (.cons (.sliH (.var 4) (.neg (.con (.int 1)))) (.cons (.var 0) .nil)) [])) (.cons (.idx (.var 4) (.var 3)) .nil)))) ts) [some (tI q),some (.lst (PS.map pD)),some (.lst (w.map Dt.int)),some (.int z.1),some (tI z.2),x5,x6] none=r:=λ {ts r} h=>by
    refine nx (ρ1:=[some (tI q),some (.lst (PS.map pD)),some (.lst (w.map Dt.int)),some (.int z.1),some (tI z.2),some (.int n),some (.int rest)]) (S1:=none) ?_ h;have hv:ev (aw fs (N-1)) (.bi .dvm (.cons (.bin .Sub (.idx (.var 4) (.neg (.con (.int 1)))) (.call ip (.cons (.sliH (.var 4) (.neg (.con (.int 1)))) (.cons (.var 0) .nil)) [])) (.cons (.idx (.var 4) (.var 3)) .nil))) [some (tI q),some (.lst (PS.map pD)),some (.lst (w.map Dt.int)),some (.int z.1),some (tI z.2),x5,x6] none= .ok (.tup [.int n,.int rest],none):=by simp only[RX,hi,hc,Ld,Dq,La,Jw]
    rw[ex,hv];rfl
   refine⟨[some (tI q),some (.lst (PS.map pD)),some (.lst (w.map Dt.int)),some (.int z.1),some (tI z.2),x5,x6],?_⟩;by_cases hb:(!(rest==0))=true\/n<0
   ·refine⟨[some (tI q),some (.lst (PS.map pD)),some (.lst (w.map Dt.int)),some (.int z.1),some (tI z.2),some (.int n),some (.int rest)],rfl,.inr ⟨.aW,mI (qd (S1:=none) ?_ (kZ rfl)),rfl,by rw[<-FB,TN hb]⟩⟩;simp only[RX];rcases hb with h|h
    ·rw[h];rfl
    ·cases (!(rest==0)) with
     |true=>rfl
     |false=>rw[TM (by simp),Qz h]
   ·have h1:(!(rest==0))=false:=by cases h:(!(rest==0))with|true=>exact absurd (.inl h) hb|false=>rfl
    have h2:¬n<0:=λz=>hb (.inr z)
    refine⟨_,rfl,.inl ⟨mI (i7 (S1:=none) (by simp only[RX,h1,Qv h2];rfl) (nx (tL (ds:=w.map Dt.int) (d:=.int n) (S1:=none) (S2:=none) (n:=(z.1:Int)) (j:=z.1) rfl rfl rfl rfl ?_) rfl)),w.set z.1 n,some (.int z.1),some (tI z.2),some (.int n),some (.int rest),⟨by rw[Sf];exact hw.1,λx hx=>?_⟩,?_,?_⟩⟩
    ·unfold oo;rw[Qf,TN ⋯,TN (by rw[hw.1];lia)];simp
    ·rcases List.mem_or_eq_of_mem_set hx with hx|hx
     ·exact hw.2 x hx
     ·subst hx;refine⟨by lia,S9 ?_ GJ⟩;have r0:rest=0:=by simpa using h1
      have e:nm.natAbs=(gI z.2 z.1).natAbs*x.natAbs:=by rw[<-jF,r0,Int.add_zero,Rl]
      rw[e];exact S5 _ (Int.natAbs_pos.mpr z3)
    ·intro rs er;rw[Qm,Sg]at er;rw[N9 rs er,<-FB,TM hb]
    ·rw[List.map_set];rfl)
 have body:∀{x:R (Dt×Sx)},fin (aV (aw fs (N-1)) (.cons (.fr (.tp [3,4]) (.seq (.var 1)) (wA ip)) (.cons (.ret (.bi .tuple (.cons (.mvr 2) .nil))) .nil)) [some (tI q),some (.lst (PS.map pD)),some (.lst (q.map Dt.int)),none,none,none,none] none)=x->aw fs N ic [tI q,.lst (PS.map pD)] none=x:=λ {x} h=>by refine aC hf ⋯ rfl ?_;show fin (aV (aw fs (N-1)) (Aa ip) [some (tI q),some (.lst (PS.map pD)),none,none,none,none,none] none)=_;exact c9 (d:=.lst (q.map Dt.int)) (S1:=none) rfl rfl h
 rcases loop with ⟨ρ',h1,w,x3,x4,x5,x6,hw,hC,rfl⟩|⟨d,ρ',h1,rfl,hC⟩
 ·have:=hC [] (by rw[Qf,SQ,QK]);rw[<-this];exact body (bB (ds:=PS.map pD) (S1:=none) rfl rfl h1 (ax rfl))
 ·rw[hC];refine body (gH (ρ1:=ρ') (S1:=none) ?_);rw[ex];exact h1
theorem Cv{iu N:Nat}(hf:fs[iu]?=some ⟨2,4,false,u5⟩)(hN:1<=N)(a b:List Int):aw fs N iu [tI a,tI b] none= .ok (.bl (d4 a b),none):=by
 have loop:=gf (S:=none) (tg:=.tp [2,3]) (body:=aV (aw fs (N-1)) (.cons (.ifs (.cmp .Gt (.var 2) (.var 3)) (.cons (.ret (.con (.bl false))) .nil) .nil) .nil)) (ds:=cX (a.map Dt.int) (b.map Dt.int)) (ρ:=[some (tI a),some (tI b),none,none])
  (λpre ρ=>(∀q∈(a.zip b).take pre.length,q.1<=q.2)/\∃x y,ρ=[some (tI a),some (tI b),x,y]) (λd=>d= .bl false/\d4 a b=false) ⟨by simp,none,none,rfl⟩ (by
   rintro pre x post ρ e ⟨hle,x2,x3,rfl⟩;rw[dh]at e;obtain⟨q,pS,rfl⟩:∃q,(a.zip b)[pre.length]?=some q/\ .tup [.int q.1,.int q.2]=x:=by
    have h1:=TJ (λl=>l[pre.length]?) e;simp only[Qp,QN (Qb _),Tf,R1]at h1;cases jY:(a.zip b)[pre.length]? with
    |none=>rw[jY]at h1;cases h1
    |some z=>rw[jY]at h1;exact⟨z,rfl,To h1⟩
   refine⟨_,[some (tI a),some (tI b),some (.int q.1),some (.int q.2)],rfl,?_⟩;by_cases h:q.2<q.1
   ·exact .inr ⟨_,qd (S1:=none) (by simp only[RX,Qz h]) (kZ rfl),rfl,by unfold d4;rw[List.all_eq_false];exact⟨q,Sv pS,by simp;lia⟩⟩
   ·refine .inl ⟨i7 (S1:=none) (by simp only[RX,Qv h]) rfl,λz hz=>?_,_,_,rfl⟩;rw[Qm,Sg,SM,pS]at hz;rcases Qs.mp hz with hz|hz
    ·exact hle z hz
    ·have:z=q:=by simpa using hz
     subst this
     lia)
 have it:d7 (aw fs (N-1)) (.zip (.var 0) (.var 1)) [some (tI a),some (tI b),none,none] none= .ok (cX (a.map Dt.int) (b.map Dt.int),none):=jt (S1:=none) (S2:=none) rfl rfl rfl rfl;rcases loop with ⟨ρ',h1,hle,x,y,rfl⟩|⟨d,ρ',h1,rfl,hu⟩
 ·have:d4 a b=true:=by unfold d4;rw[QG];intro q hq;refine Qz (hle q ?_);rw[dh,Qf,SQ];exact hq
  rw[this];exact aC hf hN rfl (bB it rfl h1 (ax rfl))
 ·rw[hu];refine aC hf hN rfl (gH (ρ1:=ρ') (S1:=none) ?_);rw[ex];exact(TJ (R.bind · _) it).trans h1
theorem Ce{iu io N:Nat}(hu:fs[iu]?=some ⟨2,4,false,u5⟩)(hf:fs[io]?=some ⟨2,3,false,CU iu⟩)(hN:2<=N)(a:List Int)(M:List (List Int)):aw fs N io [tI a,lI M] none= .ok (.bl (br a M),none):=by
 have loop:=gf (S:=none) (tg:=.nm 2) (body:=aV (aw fs (N-1)) (.cons (.ifs (.call iu (.cons (.var 2) (.cons (.var 0) .nil)) []) (.cons (.ret (.con (.bl true))) .nil) .nil) .nil)) (ds:=M.map tI) (ρ:=[some (tI a),some (lI M),none])
  (λpre ρ=>(∀q∈M.take pre.length,d4 q a=false)/\∃x,ρ=[some (tI a),some (lI M),x]) (λd=>d= .bl true/\br a M=true) ⟨by simp,none,rfl⟩ (by
   rintro pre x post ρ e ⟨hle,x2,rfl⟩;obtain⟨q,pS,rfl⟩:∃q,M[pre.length]?=some q/\tI q=x:=by
    have h1:=TJ (λl=>l[pre.length]?) e;simp only[Qp,QN (Qb _),Tf,R1]at h1;cases jY:M[pre.length]? with
    |none=>rw[jY]at h1;cases h1
    |some z=>rw[jY]at h1;exact⟨z,rfl,To h1⟩
   refine⟨_,[some (tI a),some (lI M),some (tI q)],rfl,?_⟩;have hv:=Cv hu (N:=N-1) ⋯ q a;cases hq:d4 q a with
   |true=>rw[hq]at hv;exact .inr ⟨_,qd (S1:=none) (by simp only[RX,hv]) (kZ rfl),rfl,by unfold br;rw[QH];exact⟨q,Sv pS,hq⟩⟩
   |false=>
    rw[hq]at hv;refine .inl ⟨i7 (S1:=none) (by simp only[RX,hv]) rfl,λz hz=>?_,_,rfl⟩;rw[Qm,Sg,SM,pS]at hz;rcases Qs.mp hz with hz|hz
    ·exact hle z hz
    ·have:z=q:=by simpa using hz
     subst this;exact hq)
 rcases loop with ⟨ρ',h1,hle,x,rfl⟩|⟨d,ρ',h1,rfl,hu⟩
 ·have:br a M=false:=by unfold br;rw[RE];intro q hq;rw[hle q (by rw[Qf,SQ];exact hq)];exact Q2
  rw[this];exact aC hf ⋯ rfl (bB (ds:=M.map tI) (S1:=none) rfl rfl h1 (ax rfl))
 ·rw[hu];refine aC hf ⋯ rfl (gH (ρ1:=ρ') (S1:=none) ?_);rw[ex];exact h1
variable{fs:List Fn}
structure gX(m:Nat)(M:List (List Int))(r:List Int):Prop where
 m1:1<=m
 m4:m<=4
 ln:M.length<=16
 rl:r.length=M.length
 wd:∀q∈M,q.length=m
 bd:∀q∈M,∀x∈q,x.natAbs<=3
 rb:∀x∈r,x.natAbs<=20
noncomputable def bz(m:Nat)(M:List (List Int))(r:List Int):List (Nat×List Int):=(bN (rowsOf M r) m).1
noncomputable def fW(m:Nat)(M:List (List Int))(r:List Int):Int:=kL (bz m M r).length (bq m (bz m M r)).length (dZ M) (dQ r)
noncomputable def dY(m:Nat)(M:List (List Int))(r:List Int):List (List Int):=if nG m (bN (rowsOf M r) m).2=true then[] else vR m (fW m M r).toNat (bz m M r)
theorem xO{s f:Nat}{t g:Int}(hs:s<=4)(t0:0<=t)(t3:t<=3)(g0:0<=g)(Pv:g<=20):0<=kL s f t g/\(kL s f t g).toNat<=gB s f:=by
 have ft:0<=(f:Int)*t/\(f:Int)*t<=3*f:=⟨Rj ⋯ t0,by have:=Rh t3 (show (0:Int)<=f by lia);lia⟩;have hx:g+(f:Int)*t<=20+3*f:=⋯
 have ub:∀mi k:Int,mi<=k->0<=k->0<=mi->0<=mi*(g+(f:Int)*t)/\mi*(g+(f:Int)*t)<=k*(20+3*f):=λmi k hk h1 h2=>⟨Rj h2 ⋯,Int.mul_le_mul hk hx ⋯ h1⟩
 match s,hs with
 |0,_=>exact⟨show (0:Int)<=1 by decide,Qb 1⟩
 |1,_=>
  have:=ub 1 1 ⋯ ⋯ ⋯;show 0<=1*(g+(f:Int)*t)/\(1*(g+(f:Int)*t)).toNat<=20+3*f
  lia
 |2,_=>
  have:=ub (2*t) 6 ⋯ ⋯ ⋯;show 0<=2*t*(g+(f:Int)*t)/\(2*t*(g+(f:Int)*t)).toNat<=6*(20+3*f)
  lia
 |3,_=>
  have q:0<=t*t/\t*t<=9:=⟨Rj t0 t0,by have:=Int.mul_le_mul t3 t3 t0 (by decide:(0:Int)<=3);lia⟩;have e3:4*t*t=4*(t*t):=Rf ..;have:=ub (4*t*t) 36 ⋯ ⋯ ⋯;show 0<=4*t*t*(g+(f:Int)*t)/\(4*t*t*(g+(f:Int)*t)).toNat<=36*(20+3*f)
  lia
 |4,_=>show 0<=(0:Int)*(g+(f:Int)*t)/\((0:Int)*(g+(f:Int)*t)).toNat<=0;rw[Rv];exact⟨Rc _,Qb _⟩
theorem zi(M:List (List Int)):0<=dZ M:=by
 unfold dZ;by_cases e:CL M=[]
 ·rw[e];exact Rc 0
 ·obtain⟨q,hq,h'⟩:=Ss.mp (cD _ e).1;obtain⟨x,hx,ex⟩:=QF.mp h';rw[<-ex]
  lia
theorem iS{r:List Int}(h:∀x∈r,x.natAbs<=20):0<=dQ r/\dQ r<=20:=by
 unfold dQ;by_cases e:(r.map λx=>(x.natAbs:Int))=[]
 ·rw[e];exact⟨Rc 0,by decide⟩
 ·obtain⟨x,hx,ex⟩:=QF.mp (cD _ e).1;rw[<-ex];have:=h x hx
  lia
section
variable{ip il is ig iw ic io:Nat}(H:wm fs ip il is ig iw ic io)
include H
theorem Co{N m:Nat}{D:Dt}{M:List (List Int)}(hD:ei D M){r:List Int}(hN:4<=N)(E:gX m M r):aw fs N io [D,.int m,tI r] none= .ok (lI (dY m M r),none)/\(dY m M r).length<=900000:=by
 have dF:lim=1000000:=rfl;obtain⟨h,sq⟩:=Iv H.l H.s (N:=N-1) ⋯ hD E.m4 E.ln (by rw[E.rl];exact E.ln) E.wd E.bd E.rb;have st:=sq.st;cases Au:nG m (bN (rowsOf M r) m).2 with
 |true=>
  rw[Au,TN rfl]at h;have e:dY m M r=[]:=by unfold dY;rw[Au,TN rfl]
  rw[e];refine⟨aC H.o ⋯ rfl ?_,by simp⟩;show fin (aV (aw fs (N-1)) (Ac is ig iw ic) [some D,some (.int m),some (tI r),none,none,none,none,none] none)=_;exact aE (d:=.aW) (S1:=none) (by simp only[RX,h]) rfl (jC (S1:=none) (by simp only[RX];rfl) (ax rfl))
 |false=>
 rw[Au,TM (by simp)]at h;have eV:dY m M r=vR m (fW m M r).toNat (bz m M r):=by unfold dY;rw[Au,TM (by simp)]
 have eB:fW m M r=kL (bz m M r).length (bq m (bz m M r)).length (dZ M) (dQ r):=rfl;have ep:bz m M r=(bN (rowsOf M r) m).1:=rfl;rw[eV,ep];rw[ep]at eB;have GF:(bN (rowsOf M r) m).1≠[]->M≠[]:=λcM e=>by
  obtain⟨z,hz⟩:=RT _ cM;have e0:∀p,bN (rowsOf [] r) p=([],[]):=λp=>by
   induction p with
   |zero=>rfl
   |succ p ih=>unfold bN;rw[ih];rfl
  rw[e,e0 m]at hz;cases hz
 generalize (bN (rowsOf M r) m).1=PS at *;generalize (bN (rowsOf M r) m).2=LS at *;have oh:∀p∈PS.map (·.1),p<m:=λp hp=>by obtain⟨q,hq,rfl⟩:=QF.mp hp;exact(st.pl q hq).1
 have zJ:=pH st.nd oh;rw[Qf]at zJ
 let FR:=(List.range m).filter λp=> !decide (p∈PS.map (·.1))
 have h4:ev (aw fs (N-1)) (.comp [none,none,none] (.seq (.var 3)) (.tp [1,2]) .nil (.var 1)) [some D,some (.int m),some (tI r),some (.lst (PS.map pD)),none,none,none,none] none= .ok (.lst ((PS.map (·.1)).map λ(p:Nat)=>Dt.int p),none):=by
  have hc:aK (aN (.tp [1,2]) (bh (aw fs (N-1)) .nil) (bj (aw fs (N-1)) (.var 1)) [none,none,none]) (PS.map pD) none= .ok (PS.map λq=>.int q.1,none):=aU λq hq=>aO (ρ1:=[none,some (.int q.1),some (tI q.2)]) rfl rfl rfl
  have e:(PS.map λq=>Dt.int (q.1:Int))=(PS.map (·.1)).map λ(p:Nat)=>Dt.int p:=by rw[Sl];rfl
  rw[e]at hc;exact aT (ds:=PS.map pD) (S1:=none) rfl (by rw[Qf];have:=E.m4;lia) rfl hc
 have h5:ev (aw fs (N-1)) (.comp [none,none,some 4] (.rng1 (.var 1)) (.nm 1) (.cons (.cmp .NotIn (.var 1) (.var 2)) .nil) (.var 1)) [some D,some (.int m),some (tI r),some (.lst (PS.map pD)),some (.lst ((PS.map (·.1)).map λ(p:Nat)=>Dt.int p)),none,none,none] none= .ok (.lst (FR.map λ(p:Nat)=>Dt.int p),none):=by
  have er:aR 0 m=(List.range m).map λ(n:Nat)=>Dt.int n:=by unfold aR;exact Sj λi _=>by rw[Rt]
  have hc:aK (aN (.nm 1) (bh (aw fs (N-1)) (.cons (.cmp .NotIn (.var 1) (.var 2)) .nil)) (bj (aw fs (N-1)) (.var 1)) [none,none,some (.lst ((PS.map (·.1)).map λ(p:Nat)=>Dt.int p))]) (aR 0 m) none= .ok ((List.range m).flatMap λp=>if (!decide (p∈PS.map (·.1)))=true then[Dt.int p] else[],none):=by
   rw[er];refine bP λp hp=>?_
   have Jy:=AI p (PS.map (·.1));exact turn_if (ρ1:=[none,some (.int p),some (.lst ((PS.map (·.1)).map λ(p:Nat)=>Dt.int p))]) rfl (by rw[cO];show (cL .NotIn (.int p) _).bind _=_;rw[Jy];rfl) λ_=>⟨rfl,rfl⟩
  rw[fB]at hc;exact aT (ds:=aR 0 m) (S1:=none) (dR (n:=m) rfl (by have:=E.m4;lia)) (by simp[aR];have:=E.m4;lia) rfl hc
 have jY:FR.length+PS.length=m:=zJ;have m4:=E.m4;have cM:PS.length≠0->M≠[]:=λz=>GF λe=>z (by rw[e];rfl)
 have Ox:=Gy H.g (N:=N-1) ⋯ hD E.m1 cM (λz e=>cM z (RP (by rw[<-E.rl,e];rfl))) E.ln (by rw[E.rl];exact E.ln) E.wd E.m4 E.bd E.rb (s:=PS.length) (f:=FR.length) ⋯ ⋯;have Jx:=xO (s:=PS.length) (f:=FR.length) ⋯ (zi M) (sG (λq hq z hz=>by have:=E.bd q hq z hz;lia) (by decide)) (iS E.rb).1 (iS E.rb).2;have NU:bq m PS=FR:=rfl;rw[NU]at eB;obtain⟨g,eg⟩:∃g:Nat,(fW m M r).toNat=g:=⟨_,rfl⟩;have NY:kL PS.length FR.length (dZ M) (dQ r)=(g:Int):=by rw[<-eB];rw[<-eB]at Jx;lia
 have hg:aw fs (N-1) ig [D,tI r,.int PS.length,.int FR.length] none= .ok (.int g,none):=by rw[<-NY];exact Ox
 have M0:g<=gB PS.length FR.length:=by rw[<-eg,eB];exact Jx.2
 rw[eg];have JG:=HV (m:=m) ⋯ E.m4 M0;obtain⟨hq,As⟩:=IT H.w (N:=N-1) ⋯ (FR:=FR) E.m4 (λp hp=>QR.mp (So.mp hp).1) JG;have hQ:∀q∈dz g FR [List.replicate m 0],q.length=m/\∀x∈q,(0:Int)<=x/\x<=(g:Int):=λq jQ=>by
  obtain⟨q0,k0,k1,k2,k3⟩:=gr.mp jQ;rw[QE]at k0;subst k0;rw[Se]at k1 k2 k3;refine⟨k1,λx hx=>?_⟩;obtain⟨i,hi,rfl⟩:=nX hx;by_cases hf:i∈FR
  ·obtain⟨n,hn,e⟩:=k3 i hf ⋯
   lia
  ·rw[k2 i ⋯ hf,cA]
   lia
 have eL:vR m g PS=(dz g FR [List.replicate m 0]).filterMap λq=>cy q PS q:=rfl
 rw[eL];generalize dz g FR [List.replicate m 0]=Q at hq As hQ;have Pw:g<2^64:=S9 M0 (by
  have hs:PS.length<=4:=⋯
  have hf:FR.length<=4:=⋯
  generalize PS.length=s at hs;generalize FR.length=f at hf
  match s,hs with
  |0,_=>simp only[gB];lia
  |1,_=>simp only[gB];lia
  |2,_=>simp only[gB];lia
  |3,_=>simp only[gB];lia
  |4,_=>simp only[gB];lia)
 let cf:List Int->Dt:=λq=>(cy q PS q).elim .aW tI
 have MH:∀q∈Q,aw fs (N-1) ic [tI q,.lst (PS.map pD)] none= .ok (cf q,none)/\(cf q= .aW\/∃q',cf q=tI q'):=λq jQ=>by
  have FF:=hQ q jQ;refine⟨Gc H.p H.c (N:=N-1) ⋯ E.m4 st (q:=q) ⟨FF.1,λx hx=>⟨(FF.2 x hx).1,by have:=FF.2 x hx;lia⟩⟩ (λx hx=>by have:=FF.2 x hx;show x.natAbs<_;lia),?_⟩;show (cy q PS q).elim Dt.aW tI= .aW\/∃q',(cy q PS q).elim Dt.aW tI=tI q';cases cy q PS q with
  |none=>exact .inl rfl
  |some x=>exact .inr ⟨x,rfl⟩
 have pM:ev (aw fs (N-1)) (.call iw (.cons (.var 1) (.cons (.var 5) (.cons (.var 6) .nil))) []) [some D,some (.int m),some (tI r),some (.lst (PS.map pD)),some (.lst ((PS.map (·.1)).map λ(p:Nat)=>Dt.int p)),some (.lst (FR.map λ(p:Nat)=>Dt.int p)),some (.int g),none] none= .ok (lI Q,none):=by simp only[RX,hq]
 have h7:ev (aw fs (N-1)) (.comp [none,none,some 3] (.seq (.call iw (.cons (.var 1) (.cons (.var 5) (.cons (.var 6) .nil))) [])) (.nm 1) .nil (.call ic (.cons (.var 1) (.cons (.var 2) .nil)) [])) [some D,some (.int m),some (tI r),some (.lst (PS.map pD)),some (.lst ((PS.map (·.1)).map λ(p:Nat)=>Dt.int p)),some (.lst (FR.map λ(p:Nat)=>Dt.int p)),some (.int g),none] none= .ok (.lst (Q.map cf),none):=by
  have hc:aK (aN (.nm 1) (bh (aw fs (N-1)) .nil) (bj (aw fs (N-1)) (.call ic (.cons (.var 1) (.cons (.var 2) .nil)) [])) [none,none,some (.lst (PS.map pD))]) (Q.map tI) none= .ok (Q.map cf,none):=aU λq jQ=>by
   obtain⟨k1,k2⟩:=MH q jQ;exact aO (ρ1:=[none,some (tI q),some (.lst (PS.map pD))]) rfl (by simp only[RX,k1]) (by
    unfold bO;rcases k2 with e|⟨q',e⟩
    ·rw[e];exact Q6 _
    ·rw[e,cH,Q6])
  exact aT (ds:=Q.map tI) (S1:=none) (gj pM rfl) (by rw[Qf];lia) rfl hc
 let keep:List (List Int):=Q.filterMap λq=>cy q PS q
 have h8:ev (aw fs (N-1)) (.comp [none,none] (.seq (.var 7)) (.nm 1) (.cons (.cmp .IsNot (.var 1) (.con .aW)) .nil) (.var 1)) [some D,some (.int m),some (tI r),some (.lst (PS.map pD)),some (.lst ((PS.map (·.1)).map λ(p:Nat)=>Dt.int p)),some (.lst (FR.map λ(p:Nat)=>Dt.int p)),some (.int g),some (.lst (Q.map cf))] none= .ok (lI keep,none):=by
  have hc:aK (aN (.nm 1) (bh (aw fs (N-1)) (.cons (.cmp .IsNot (.var 1) (.con .aW)) .nil)) (bj (aw fs (N-1)) (.var 1)) [none,none]) (Q.map cf) none= .ok (Q.flatMap λq=>(match cf q with|.tup ds=>[Dt.tup ds]|_=>[]),none):=bP λq jQ=>by
   rcases (MH q jQ).2 with e|⟨q',e⟩
   ·rw[e];exact turn_if (b:=false) (y:=.aW) (ρ1:=[none,some .aW]) rfl rfl λz=>by cases z
   ·rw[e];exact turn_if (b:=true) (y:=tI q') (ρ1:=[none,some (tI q')]) rfl rfl λz=>⟨rfl,by unfold bO;rw[cH,Q6]⟩
  have e:(Q.flatMap λq=>(match cf q with|.tup ds=>[Dt.tup ds]|_=>[]))=keep.map tI:=by
   have:∀l:List (List Int),(l.flatMap λq=>(match cf q with|.tup ds=>[Dt.tup ds]|_=>[]))=(l.filterMap λq=>cy q PS q).map tI:=by
    intro l
    induction l with
    |nil=>rfl
    |cons q l ih=>
     rw[RW,RU,ih];show (match (cy q PS q).elim Dt.aW tI with|.tup ds=>[Dt.tup ds]|_=>[])++_=_;cases cy q PS q with
     |none=>rfl
     |some x=>rfl
   exact this Q
  rw[e]at hc;exact aT (ds:=Q.map cf) (S1:=none) rfl (by rw[Qf];lia) rfl hc
 refine⟨aC H.o ⋯ rfl ?_,Qh (List.length_filterMap_le _ _) As⟩;show fin (aV (aw fs (N-1)) (Ac is ig iw ic) [some D,some (.int m),some (tI r),none,none,none,none,none] none)=_;refine aE (d:=.lst (PS.map pD)) (S1:=none) (by simp only[RX,h]) rfl (dy (S1:=none) (by simp only[RX];rfl) (aE (S1:=none) h4 rfl (aE (S1:=none) h5 rfl (aE (d:=.int g) (S1:=none) ?_ rfl (aE (S1:=none) h7 rfl (ax h8))))));have l4:d6 .len [.lst ((PS.map (·.1)).map λ(p:Nat)=>Dt.int p)]= .ok (.int PS.length):=by show R.ok (Dt.int (((PS.map (·.1)).map λ(p:Nat)=>Dt.int p).length:Nat))=_;rw[Qf,Qf]
 have l5:d6 .len [.lst (FR.map λ(p:Nat)=>Dt.int p)]= .ok (.int FR.length):=by show R.ok (Dt.int ((FR.map λ(p:Nat)=>Dt.int p).length:Nat))=_;rw[Qf]
 simp only[RX,l4,l5,hg]
end
variable{fs:List Fn}
theorem zb{Q:List (List Int)}{m:Nat}(hm:1<=m)(hl:Q.length<=900000)(h:∀q∈Q,q.length=m):d6 .sorted [lI Q]= .ok (lI (fP Q)):=by
 have hd:∀q:List Int,Mx.D.dC (q.map Mx.D.int)=0:=λq=>by
  induction q with
  |nil=>rfl
  |cons x q ih=>simp[Mx.D.dC,Mx.D.dep,ih]
 have NQ:jM (Q.map dI)=true:=by
  refine C8 .ti (by rw[Qf];lia) (tD λd qM=>?_) (λd qM=>?_) λd qM e he=>?_
  ·obtain⟨q,_,rfl⟩:=QF.mp qM;simp[dI,Mx.D.dep,hd]
  ·obtain⟨q,hq,rfl⟩:=QF.mp qM;have:=h q hq;cases q with
   |nil=>simp at this;lia
   |cons x q=>rfl
  ·obtain⟨q,_,rfl⟩:=QF.mp qM;obtain⟨q2,_,rfl⟩:=QF.mp he;simp only[dI,vC];exact ow q q2
 have pm:=fK (Q.map dI);unfold fP;rw[B9,(u6 NQ).1,B9,Sl];congr 3;have:∀l:List Mx.D,(∀y∈l,y∈Q.map dI)->l.map (dI ∘ E8)=l:=by
  intro l
  induction l with
  |nil=>intro _;rfl
  |cons y l ih=>intro h;obtain⟨q,_,rfl⟩:=QF.mp (h y Qc);rw[QO,ih λz hz=>h z (P9 _ hz)];simp only[Function.comp,nq]
 exact(this _ λy hy=>pm.mem_iff.mp hy).symm
theorem uM(Q:List (List Int)):(fP Q).length=Q.length:=by unfold fP;rw[Qf,(fK _).length_eq,Qf]
noncomputable def zeros(n:Nat):List Int:=List.replicate n 0
noncomputable def cq(m:Nat)(M:List (List Int)):List (List Int):=aZ (fP (dY m M (zeros M.length))) []
theorem gX.zero{m:Nat}{M:List (List Int)}{r:List Int}(E:gX m M r):gX m M (zeros M.length):=⟨E.m1,E.m4,E.ln,by simp[zeros],E.wd,E.bd,λx hx=>by rw[RQ hx];decide⟩
theorem gX.brk{m:Nat}{M:List (List Int)}{r:List Int}(E:gX m M r){r':List Int}(h:∀x∈r',x.natAbs<=20):Rx.brk M m r'=false:=by
 have h1:u7 M=false:=by
  unfold u7;rw[RE];intro q hq z;obtain⟨x,hx,hz⟩:=QH.mp z;have:=P7 hz;have:=E.bd q hq x hx
  lia
 have h2:u9 r'=false:=by
  unfold u9;rw[RE];intro x hx z;have:=P7 z;have:=h x hx
  lia
 unfold Rx.brk;rw[h1,h2,Qv (by have:=E.ln;lia),Qv (by have:=E.m4;lia)];rfl
theorem gX.Ny{m:Nat}{M:List (List Int)}{r:List Int}(E:gX m M r):uZ m 0 [] (rowsOf M r):=by
 refine⟨λq hq=>?_,λq hq x hx=>?_,by simp,by simp,by simp,by simp,by simp⟩
 ·obtain⟨z,hz,rfl⟩:=QF.mp hq;rw[Qm,E.wd _ (SA hz).1];rfl
 ·obtain⟨z,hz,rfl⟩:=QF.mp hq;show x.natAbs<=20;rcases Qs.mp hx with hx|hx
  ·have:=E.bd _ (SA hz).1 x hx;lia
  ·rw[QE]at hx;subst hx;exact E.rb _ (SA hz).2
theorem gX.sq{m:Nat}{M:List (List Int)}{r:List Int}(E:gX m M r):Sq m m (rowsOf M r) (bz m M r) (bN (rowsOf M r) m).2:=Sq.all E.Ny m (Qb _)
theorem gX.Kn{m:Nat}{M:List (List Int)}{r:List Int}(E:gX m M r):0<=fW m M r:=by have h:=kI (p:=0) E.sq;exact(xO (by have:=E.m4;lia) (zi M) (sG (λq hq z hz=>by have:=E.bd q hq z hz;lia) (by decide)) (iS E.rb).1 (iS E.rb).2).1
theorem bK{m:Nat}{M:List (List Int)}{r x:List Int}(E:gX m M r):x∈dY m M r↔x.length=m/\(∀i,i<m->0<=gI x i)/\bH M r x/\∀i∈bq m (bz m M r),gI x i<=fW m M r:=by
 have hb:=E.Kn;unfold dY;cases Au:nG m (bN (rowsOf M r) m).2 with
 |true=>
  rw[TN rfl];constructor
  ·intro h;cases h
  ·rintro⟨h1,_,h3,_⟩;have:=((E.sq.sol E.wd h1).mp h3).1;rw[Au]at this;cases this
 |false=>
  rw[TM (by simp),AU E.sq];constructor
  ·rintro⟨h1,h2,h3,h4⟩;exact⟨h1,h2,(E.sq.sol E.wd h1).mpr ⟨Au,h3⟩,λi hi=>by have:=h4 i hi;lia⟩
  ·rintro⟨h1,h2,h3,h4⟩;exact⟨h1,h2,((E.sq.sol E.wd h1).mp h3).2,λi hi=>by have:=h4 i hi;lia⟩
theorem vn(n:Nat):dQ (zeros n)=0:=by
 unfold dQ;by_cases e:((zeros n).map λx=>(x.natAbs:Int))=[]
 ·rw[e];rfl
 ·obtain⟨x,hx,ex⟩:=QF.mp (cD _ e).1;rw[<-ex,RQ hx];rfl
variable{fs:List Fn}
theorem rJ(Q Q' F:List (List Int)):aZ (Q++Q') F=aZ Q' (aZ Q F):=by
 induction Q generalizing F with
 |nil=>rfl
 |cons q Q ih=>rw[RH,aZ,aZ,ih]
theorem kQ(Q F:List (List Int)):(aZ Q F).length<=Q.length+F.length:=by
 induction Q generalizing F with
 |nil=>simp[aZ]
 |cons q Q ih=>
  rw[aZ,Qo];refine Qh (ih _) ?_;split
  ·rw[Qm,Sg];lia
  ·lia
structure wj(fs:List Fn)(ip il is ig iw ic io ik iu iv ie:Nat):Prop where
 S:wm fs ip il is ig iw ic io
 k:fs[ik]?=some ⟨3,3,false,z9⟩
 u:fs[iu]?=some ⟨2,4,false,u5⟩
 v:fs[iv]?=some ⟨2,3,false,CU iu⟩
 e:fs[ie]?=some ⟨2,4,false,CT ik io iv⟩
section
variable{ip il is ig iw ic io ik iu iv ie:Nat}(H:wj fs ip il is ig iw ic io ik iu iv ie)
include H
theorem Ho{N m:Nat}{D:Dt}{M:List (List Int)}(hD:ei D M)(hN:6<=N)(E:gX m M (zeros M.length)):aw fs N ie [D,.int m] none= .ok (lI (cq m M),none)/\(cq m M).length<=900000:=by
 have dF:lim=1000000:=rfl;have hk:=BW H.k (N:=N-1) ⋯ hD (M:=M) (many:=m) (r:=[]) (by have:=E.ln;lia) (λq hq=>by rw[E.wd q hq];have:=E.m4;lia) (by simp) (E.brk (r':=[]) (by simp));have hk:aw fs (N-1) ik [D,.int m,.tup []] none= .ok (.aW,none):=hk;obtain⟨hq,As⟩:=Co H.S (N:=N-1) hD ⋯ E;have hQ:∀q∈dY m M (zeros M.length),q.length=m:=λq h=>((bK E).mp h).1
 have hs:=zb E.m1 As hQ;have ln:=hD.ln;have G7:=uE (m:=M.length) 0 (by have:=E.ln;lia);have l2:(fP (dY m M (zeros M.length))).length<=900000:=by rw[uM];exact As
 have eV:cq m M=aZ (fP (dY m M (zeros M.length))) []:=rfl;rw[eV];have hq:aw fs (N-1) io [D,.int m,tI (List.replicate M.length 0)] none= .ok (lI (dY m M (zeros M.length)),none):=hq;generalize dY m M (zeros M.length)=Q at hq hs l2 hQ;generalize fP Q=Q' at hs l2;have loop:=bC (S:=none) (tg:=.nm 3) (body:=aV (aw fs (N-1)) (.cons (.ifs (.and (.cmp .Gt (.bi .sum (.cons (.var 3) .nil)) (.con (.int 0))) (.nt (.call iv (.cons (.var 3) (.cons (.mvr 2) .nil)) []))) (.cons (.app 2 (.var 3)) .nil) .nil) .nil)) (ds:=Q'.map tI) (ρ:=[some D,some (.int m),some (lI []),none])
  (λpre ρ=>∃x,ρ=[some D,some (.int m),some (lI (aZ (Q'.take pre.length) [])),x]) ⟨none,by rw[Sa,SW];rfl⟩ (by
   rintro pre x post ρ e ⟨x3,rfl⟩;obtain⟨q,pS,rfl⟩:∃q,Q'[pre.length]?=some q/\tI q=x:=by
    have h1:=TJ (λl=>l[pre.length]?) e;simp only[Qp,QN (Qb _),Tf,R1]at h1;cases jY:Q'[pre.length]? with
    |none=>rw[jY]at h1;cases h1
    |some z=>rw[jY]at h1;exact⟨z,rfl,To h1⟩
   have qO:pre.length<Q'.length:=(P8.mp pS).1;have e1:aZ (Q'.take (pre++[tI q]).length) []=if (decide (0<q.sum)&& !br q (aZ (Q'.take pre.length) []))=true then aZ (Q'.take pre.length) []++[q] else aZ (Q'.take pre.length) []:=by rw[Qm,Sg,SM,pS,rJ];rfl
   have hF:(aZ (Q'.take pre.length) []).length<=900000:=by
    have:=kQ (Q'.take pre.length) [];rw[Sh,Sa]at this
    lia
   have hv:=Ce H.u H.v (N:=N-1) ⋯ q (aZ (Q'.take pre.length) []);generalize aZ (Q'.take pre.length) []=F at *;have Lh:=BB q;by_cases h0:0<q.sum
   ·cases ho:br q F with
    |true=>rw[ho]at hv e1;exact⟨_,_,rfl,i7 (S1:=none) (by simp only[RX,Lh,Qz h0,hv];rfl) rfl,some (tI q),by rw[e1,Q4,QY,TM (by simp)];rfl⟩
    |false=>rw[ho]at hv e1;refine⟨_,_,rfl,qd (S1:=none) (by simp only[RX,Lh,Qz h0,hv];rfl) (rY (ds:=F.map tI) (d:=tI q) (S1:=none) rfl rfl (by unfold bO;rw[cH,Q6]) (by rw[Qf];lia) rfl),some (tI q),?_⟩;rw[e1,Bool.not_false,QZ,Qz h0,TN rfl];unfold lI;rw[QP];rfl
   ·exact⟨_,_,rfl,i7 (S1:=none) (by simp only[RX,Lh,Qv h0];rfl) rfl,some (tI q),by rw[e1,Qv h0,Bool.false_and,TM (by simp)];rfl⟩)
 obtain⟨ρ1,bT,x3,rfl⟩:=loop;rw[Qf,SQ]at bT;have Od:=kQ Q' [];rw[Sa]at Od;refine⟨aC H.e ⋯ rfl ?_,by lia⟩;show fin (aV (aw fs (N-1)) (CT ik io iv) [some (D),some (.int m),none,none] none)=_;refine dN (ρ1:=[some (D),some (.int m),none,none]) (S1:=none) (by rw[ex];simp only[RX,hk]) (c9 (d:=.lst []) (S1:=none) rfl rfl (bB (ds:=Q'.map tI) (S1:=none) (gj (d:=lI Q') ?_ rfl) rfl bT (ax rfl)));simp only[RX,ln,G7,hq,hs]
end
variable{fs:List Fn}
theorem jl{α:Type}{t:α->Dt}{L:List α}{pre post:List Dt}{x:Dt}(e:L.map t=pre++x::post):∃q,L[pre.length]?=some q/\t q=x:=by
 have h1:=TJ (λl=>l[pre.length]?) e;simp only[Qp,QN (Qb _),Tf,R1]at h1;cases jY:L[pre.length]? with
 |none=>rw[jY]at h1;cases h1
 |some z=>rw[jY]at h1;exact⟨z,rfl,To h1⟩
theorem jy{α:Type}{L:List α}{k:Nat}{q:α}(h:L[k]?=some q):L.take (k+1)=L.take k++[q]:=by rw[SM,h];rfl
theorem ni(l:List Int):fL (l.map Dt.int)=some (l.map Mx.D.int):=by
 induction l with
 |nil=>rfl
 |cons x l ih=>rw[QO,fL,ih];simp[toD]
theorem vh(q:List Int):Mx.D.dC (q.map Mx.D.int)=0:=by
 induction q with
 |nil=>rfl
 |cons x q ih=>simp[Mx.D.dC,Mx.D.dep,ih]
theorem Gw(a b:List Int):cL .GtE (tI a) (tI b)= .ok (!ltI a b):=by
 show (match fL (a.map Dt.int),fL (b.map Dt.int) with
  |some xs,some ys=>af (lZ xs ys&&decide (Mx.D.dC xs<=100)) (R.ok (!Mx.D.dm xs ys))
  |_,_=>.bad)=_
 rw[ni,ni];dsimp only;rw[ow,vh];rfl
theorem yh(l:List Int):d6 .len [tI l]= .ok (.int l.length):=by show R.ok (Dt.int ((l.map Dt.int).length:Nat))=_;rw[Qf]
theorem rK(M:List (List Int)):d6 .len [lI M]= .ok (.int M.length):=(ei.lst M).ln
theorem om{M:List (List Int)}{k:Nat}{q:List Int}(h:M[k]?=some q):cu (lI M) (.int k)= .ok (tI q):=(oj (ds:=M.map tI) (k:=k) (d:=tI q) (by rw[Qp,h];rfl)).2
theorem xH{l:List Int}{k:Nat}(h:k<l.length):l[k]?=some (gI l k):=by simp[gI,List.getD,h]
noncomputable def Ad:Ts:=(.cons (.ret (.and (.bi (.isi "int") (.cons (.var 0) .nil)) (.nt (.bi (.isi "bool") (.cons (.var 0) .nil))))) .nil)
theorem Fe{iw N:Nat}(hf:fs[iw]?=some ⟨1,1,false,Ad⟩)(hN:1<=N)(i:Int):aw fs N iw [.int i] none= .ok (.bl true,none):=by refine aC hf hN rfl ?_;show fin (aV (aw fs (N-1)) Ad [some (.int i)] none)=_;exact ax rfl
noncomputable def wI:Ts:=(.cons (.asg 2 (.con (.int 0))) (.cons (.fr (.nm 3) (.rng1 (.bi .len (.cons (.var 0) .nil))) (.cons (.asg 2 (.bin .Add (.var 2) (.bin .Mult (.idx (.var 0) (.var 3)) (.idx (.var 1) (.var 3))))) .nil)) (.cons (.ret (.var 2)) .nil)))
theorem mW:∀{a b:List Int}{k:Nat},k<a.length->k<b.length->aa (a.take (k+1)) b=aa (a.take k) b+gI a k*gI b k
 |[],_,_,h,_=>by simp at h
 |_::_,[],_,_,h=>by simp at h
 |x::a,y::b,0,_,_=>by
  show x*y+aa (a.take 0) b=0+x*y;rw[SW,cT]
  lia
 |x::a,y::b,k+1,h1,h2=>by
  rw[SV,SV,ay,ay,mW (by simpa using h1) (by simpa using h2),aA,aA]
  lia
theorem Cw{iw N:Nat}{D:Dt}(hf:fs[iw]?=some ⟨2,4,false,wI⟩)(hN:1<=N){a b:List Int}(ha:∀x∈a,Cn x)(hl:a.length<=b.length)(hz:a.length<=1000)(hD:∀k,k<b.length->cu D (.int k)= .ok (.int (gI b k))):aw fs N iw [tI a,D] none= .ok (.int (aa a b),none):=by
 have dF:lim=1000000:=rfl;have loop:=bC (S:=none) (tg:=.nm 3) (body:=aV (aw fs (N-1)) (.cons (.asg 2 (.bin .Add (.var 2) (.bin .Mult (.idx (.var 0) (.var 3)) (.idx (.var 1) (.var 3))))) .nil)) (ds:=aR 0 a.length) (ρ:=[some (tI a),some D,some (.int 0),none])
  (λpre ρ=>∃x,ρ=[some (tI a),some D,some (.int (aa (a.take pre.length) b)),x]) ⟨none,rfl⟩ (by
   rintro pre y post ρ e ⟨x,rfl⟩;obtain⟨h1,rfl⟩:=cV e;have e1:(pre++[Dt.int pre.length]).length=pre.length+1:=by simp
   generalize pre.length=k at *;have i1:=gi (l:=a) (p:=k) h1;have i2:=hD k ⋯;have m:=aX (i:=gI a k) (j:=gI b k) (.inl (ha _ (dO h1)));refine⟨_,_,rfl,dw (d:=.int (aa (a.take k) b+gI a k*gI b k)) (S1:=none) (by simp only[RX,i1,i2,m]) rfl rfl,some (.int k),?_⟩;rw[e1,mW h1 ⋯];rfl)
 obtain⟨ρ1,bT,x,rfl⟩:=loop;have em:(aR 0 a.length).length=a.length:=by simp[aR]
 rw[em,SQ]at bT;have ln:=yh a;refine aC hf hN rfl ?_;show fin (aV (aw fs (N-1)) wI [some (tI a),some D,none,none] none)=_;exact aE (d:=.int 0) (S1:=none) rfl rfl (bB (ds:=aR 0 a.length) (S1:=none) (dR (n:=a.length) (by simp only[RX,ln]) ⋯) rfl bT (ax rfl))
theorem Fc{iw N:Nat}(hf:fs[iw]?=some ⟨2,4,false,wI⟩)(hN:1<=N){a b:List Int}(ha:∀x∈a,Cn x)(hl:a.length<=b.length)(hz:a.length<=1000):aw fs N iw [tI a,tI b] none= .ok (.int (aa a b),none):=Cw hf hN ha hl hz λ_ h=>gi h
noncomputable def F1(iw:Nat):Ts:=(.cons (.fr (.nm 3) (.rng1 (.bi .len (.cons (.var 0) .nil))) (.cons (.ifs (.cmp .NotEq (.call iw (.cons (.idx (.var 0) (.var 3)) (.cons (.var 1) .nil)) []) (.idx (.var 2) (.var 3))) (.cons (.ret (.con (.bl false))) .nil) .nil) .nil)) (.cons (.ret (.con (.bl true))) .nil))
noncomputable def qx(M:List (List Int))(r x:List Int):Bool:=(M.zip r).all λq=>aa q.1 x==q.2
theorem lH{M:List (List Int)}{r x:List Int}:qx M r x=true↔bH M r x:=by unfold qx bH;rw[QG];exact⟨λh q hq=>by simpa using h q hq,λh q hq=>by simpa using h q hq⟩
theorem DR{iw is N m:Nat}(hw:fs[iw]?=some ⟨2,4,false,wI⟩)(hf:fs[is]?=some ⟨3,4,false,F1 iw⟩)(hN:2<=N){M:List (List Int)}{r x:List Int}{D:Dt}(hD:∀k(h:k<r.length),cu D (.int k)= .ok (.int (gI r k)))(hr:r.length=M.length)(hM:M.length<=1000)(hb:∀q∈M,∀z∈q,Cn z)(hm:m<=1000)(hl:∀q∈M,q.length=m)(hx:x.length=m):
  aw fs N is [lI M,tI x,D] none= .ok (.bl (qx M r x),none):=by
 have dF:lim=1000000:=rfl;have hz:(M.zip r).length=M.length:=by rw[Si];lia
 have loop:=gf (S:=none) (tg:=.nm 3) (body:=aV (aw fs (N-1)) (.cons (.ifs (.cmp .NotEq (.call iw (.cons (.idx (.var 0) (.var 3)) (.cons (.var 1) .nil)) []) (.idx (.var 2) (.var 3))) (.cons (.ret (.con (.bl false))) .nil) .nil) .nil)) (ds:=aR 0 M.length) (ρ:=[some (lI M),some (tI x),some D,none])
  (λpre ρ=>(∀q∈(M.zip r).take pre.length,aa q.1 x=q.2)/\∃y,ρ=[some (lI M),some (tI x),some D,y]) (λd=>d= .bl false/\qx M r x=false) ⟨by simp,none,rfl⟩ (by
   rintro pre y post ρ e ⟨hle,y3,rfl⟩;obtain⟨h1,rfl⟩:=cV e;have e1:(pre++[Dt.int pre.length]).length=pre.length+1:=by simp
   generalize pre.length=k at *;obtain⟨q,hq⟩:∃q,M[k]?=some q:=⟨M[k],Qu h1⟩;have i1:=om hq;have i2:=hD k ⋯;have vv:=Sv hq;have w:=Fc hw (N:=N-1) ⋯ (a:=q) (b:=x) (hb q vv) (by rw[hl q vv,hx];lia) (by rw[hl q vv];exact hm);have Nh:(M.zip r)[k]?=some (q,gI r k):=by rw[List.getElem?_zip_eq_some];exact⟨hq,xH ⋯⟩
   have cM:cL .NotEq (.int (aa q x)) (.int (gI r k))= .ok (!(aa q x==gI r k)):=rfl;refine⟨_,[some (lI M),some (tI x),some D,some (.int k)],rfl,?_⟩;by_cases h:aa q x=gI r k
   ·refine .inl ⟨i7 (S1:=none) (by simp only[RX,i1,i2,w,h];simp) rfl,λz hz=>?_,_,rfl⟩;rw[e1,jy Nh]at hz;rcases Qs.mp hz with hz|hz
    ·exact hle z hz
    ·rw[QE]at hz;subst hz;exact h
   ·have hb:(aa q x==gI r k)=false:=TC.mpr h;refine .inr ⟨_,qd (S1:=none) (by simp only[RX,i1,i2,w,hb,Bool.not_false]) (kZ rfl),rfl,?_⟩;unfold qx;rw[List.all_eq_false];exact⟨_,Sv Nh,by simpa using h⟩)
 have ln:=rK M;have it:d7 (aw fs (N-1)) (.rng1 (.bi .len (.cons (.var 0) .nil))) [some (lI M),some (tI x),some D,none] none= .ok (aR 0 M.length,none):=dR (n:=M.length) (by simp only[RX,ln]) ⋯;rcases loop with ⟨ρ',h1,hle,y,rfl⟩|⟨d,ρ',h1,rfl,hu⟩
 ·have:qx M r x=true:=by
   rw[lH];intro q hq;refine hle q ?_;have em:(aR 0 M.length).length=M.length:=by simp[aR]
   rw[em,<-hz,SQ];exact hq
  rw[this];exact aC hf ⋯ rfl (bB it rfl h1 (ax rfl))
 ·rw[hu];refine aC hf ⋯ rfl (gH (ρ1:=ρ') (S1:=none) ?_);rw[ex];exact(TJ (R.bind · _) it).trans h1
noncomputable def FZ(iu:Nat):Ts:=(.cons (.fr (.nm 2) (.seq (.var 0)) (.cons (.ifs (.call iu (.cons (.var 2) (.cons (.var 1) .nil)) []) (.cons (.ret (.con (.bl true))) .nil) .nil) .nil)) (.cons (.ret (.con (.bl false))) .nil))
theorem wy{iu io N:Nat}(hu:fs[iu]?=some ⟨2,4,false,u5⟩)(hf:fs[io]?=some ⟨2,3,false,FZ iu⟩)(hN:2<=N)(a:List Int)(M:List (List Int)):aw fs N io [lI M,tI a] none= .ok (.bl (br a M),none):=by
 have loop:=gf (S:=none) (tg:=.nm 2) (body:=aV (aw fs (N-1)) (.cons (.ifs (.call iu (.cons (.var 2) (.cons (.var 1) .nil)) []) (.cons (.ret (.con (.bl true))) .nil) .nil) .nil)) (ds:=M.map tI) (ρ:=[some (lI M),some (tI a),none])
  (λpre ρ=>(∀q∈M.take pre.length,d4 q a=false)/\∃x,ρ=[some (lI M),some (tI a),x]) (λd=>d= .bl true/\br a M=true) ⟨by simp,none,rfl⟩ (by
   rintro pre x post ρ e ⟨hle,x2,rfl⟩;obtain⟨q,pS,rfl⟩:=jl e;refine⟨_,[some (lI M),some (tI a),some (tI q)],rfl,?_⟩;have hv:=Cv hu (N:=N-1) ⋯ q a;cases hq:d4 q a with
   |true=>rw[hq]at hv;exact .inr ⟨_,qd (S1:=none) (by simp only[RX,hv]) (kZ rfl),rfl,by unfold br;rw[QH];exact⟨q,Sv pS,hq⟩⟩
   |false=>
    rw[hq]at hv;refine .inl ⟨i7 (S1:=none) (by simp only[RX,hv]) rfl,λz hz=>?_,_,rfl⟩;rw[Qm,Sg,jy pS]at hz;rcases Qs.mp hz with hz|hz
    ·exact hle z hz
    ·rw[QE]at hz;subst hz;exact hq)
 rcases loop with ⟨ρ',h1,hle,x,rfl⟩|⟨d,ρ',h1,rfl,hu⟩
 ·have:br a M=false:=by unfold br;rw[RE];intro q hq;rw[hle q (by rw[Qf,SQ];exact hq)];exact Q2
  rw[this];exact aC hf ⋯ rfl (bB (ds:=M.map tI) (S1:=none) rfl rfl h1 (ax rfl))
 ·rw[hu];refine aC hf ⋯ rfl (gH (ρ1:=ρ') (S1:=none) ?_);rw[ex];exact h1
noncomputable def CQ(iw:Nat):Ts:=(.cons (.ifs (.nt (.bi (.isi "list") (.cons (.var 0) .nil))) (.cons (.ret (.con (.bl false))) .nil) .nil) (.cons (.fr (.nm 2) (.seq (.var 0)) (.cons (.ifs (.or (.nt (.bi (.isi "tuple") (.cons (.var 2) .nil))) (.cmp .NotEq (.bi .len (.cons (.var 2) .nil)) (.var 1))) (.cons (.ret (.con (.bl false))) .nil) .nil) (.cons (.fr (.nm 3) (.seq (.var 2)) (.cons (.ifs (.or (.nt (.call iw (.cons (.var 3) .nil) [])) (.cmp .Lt (.var 3) (.con (.int 0)))) (.cons (.ret (.con (.bl false))) .nil) .nil) .nil)) .nil))) (.cons (.fr (.tp [4,5]) (.zip (.sliH (.var 0) (.neg (.con (.int 1)))) (.sliL (.var 0) (.con (.int 1)))) (.cons (.ifs (.cmp .GtE (.var 4) (.var 5)) (.cons (.ret (.con (.bl false))) .nil) .nil) .nil)) (.cons (.ret (.con (.bl true))) .nil))))
theorem Fs(A B:List (List Int)):cX (A.map tI) (B.map tI)=(A.zip B).map λq=>.tup [tI q.1,tI q.2]:=by
 unfold cX
 induction A generalizing B with
 |nil=>rfl
 |cons x a ih=>cases B with|nil=>rfl|cons y b=>simp[ih]
theorem CO{iw ia N m:Nat}(hw:fs[iw]?=some ⟨1,1,false,Ad⟩)(hf:fs[ia]?=some ⟨2,6,false,CQ iw⟩)(hN:2<=N){F:List (List Int)}(hl:∀q∈F,q.length=m)(hn:∀q∈F,∀i,i<m->0<=gI q i)(hs:F.Pairwise Fu):aw fs N ia [lI F,.int m] none= .ok (.bl true,none):=by
 have yl:=bC (S:=none) (tg:=.nm 2) (body:=aV (aw fs (N-1)) (.cons (.ifs (.or (.nt (.bi (.isi "tuple") (.cons (.var 2) .nil))) (.cmp .NotEq (.bi .len (.cons (.var 2) .nil)) (.var 1))) (.cons (.ret (.con (.bl false))) .nil) .nil) (.cons (.fr (.nm 3) (.seq (.var 2)) (.cons (.ifs (.or (.nt (.call iw (.cons (.var 3) .nil) [])) (.cmp .Lt (.var 3) (.con (.int 0)))) (.cons (.ret (.con (.bl false))) .nil) .nil) .nil)) .nil))) (ds:=F.map tI) (ρ:=[some (lI F),some (.int m),none,none,none,none])
  (λpre ρ=>∃x y,ρ=[some (lI F),some (.int m),x,y,none,none]) ⟨none,none,rfl⟩ (by
   rintro pre x post ρ e ⟨x2,x3,rfl⟩;obtain⟨q,pS,rfl⟩:=jl e;have hq:=Sv pS;have lq:=hl q hq;have ln:=yh q;rw[lq]at ln;have inner:=bC (S:=none) (tg:=.nm 3) (body:=aV (aw fs (N-1)) (.cons (.ifs (.or (.nt (.call iw (.cons (.var 3) .nil) [])) (.cmp .Lt (.var 3) (.con (.int 0)))) (.cons (.ret (.con (.bl false))) .nil) .nil) .nil)) (ds:=q.map Dt.int) (ρ:=[some (lI F),some (.int m),some (tI q),x3,none,none])
    (λpre ρ=>∃y,ρ=[some (lI F),some (.int m),some (tI q),y,none,none]) ⟨x3,rfl⟩ (by
     rintro pre x post ρ e ⟨y,rfl⟩;obtain⟨z,tW,rfl⟩:=jl e;obtain⟨i,hi,rfl⟩:=nX (Sv tW);have hz:=hn q hq i ⋯;have w:=Fe hw (N:=N-1) ⋯ (gI q i);exact⟨_,_,rfl,i7 (S1:=none) (by simp only[RX,w,Q4,Qv (show¬gI q i<0 by lia)];rfl) rfl,some (.int (gI q i)),rfl⟩)
   obtain⟨ρ1,bT,y,rfl⟩:=inner;have cM:((m:Int)==(m:Int))=true:=TF _;have hi:d6 (.isi "tuple") [tI q]= .ok (.bl true):=rfl;refine⟨_,_,rfl,i7 (S1:=none) (by simp only[RX,hi,ln,cM,Q4];rfl) (yB (ds:=q.map Dt.int) (S1:=none) rfl rfl bT rfl),some (tI q),y,rfl⟩)
 obtain⟨ρ1,h1,x2,x3,rfl⟩:=yl;have c1:fk (lI F) none (some (-1))= .ok (lI F.dropLast):=by
  show R.ok (Dt.lst (cutD (F.map tI) none (some (-1))))=_;cases F with
  |nil=>rfl
  |cons q F=>rw[pv _ (by simp)];unfold lI;rw[List.map_dropLast]
 have c2:fk (lI F) (some 1) none= .ok (lI (F.drop 1)):=by
  show R.ok (Dt.lst (cutD (F.map tI) (some ((1:Nat):Int)) none))=_;cases F with
  |nil=>rfl
  |cons q F=>rw[rh _ (by simp)];unfold lI;rw[List.map_drop]
 have G6:∀q∈F.dropLast.zip (F.drop 1),Fu q.1 q.2:=by
  have:∀{F:List (List Int)},F.Pairwise Fu->∀q∈F.dropLast.zip (F.drop 1),Fu q.1 q.2:=by
   intro F
   induction F with
   |nil=>intro _ q hq;simp at hq
   |cons a F ih=>
    intro h q hq;rw[SC]at h;cases F with
    |nil=>simp at hq
    |cons b F=>
     rw[List.dropLast_cons_of_ne_nil (by simp),RM,RN,SY]at hq;rcases Qi.mp hq with rfl|hq
     ·exact h.1 b Qc
     ·exact ih h.2 q (by rw[RM,RN];exact hq)
  exact this hs
 have ym:=bC (S:=none) (tg:=.tp [4,5]) (body:=aV (aw fs (N-1)) (.cons (.ifs (.cmp .GtE (.var 4) (.var 5)) (.cons (.ret (.con (.bl false))) .nil) .nil) .nil)) (ds:=cX (F.dropLast.map tI) ((F.drop 1).map tI)) (ρ:=[some (lI F),some (.int m),x2,x3,none,none])
  (λpre ρ=>∃x y,ρ=[some (lI F),some (.int m),x2,x3,x,y]) ⟨none,none,rfl⟩ (by
   rintro pre x post ρ e ⟨x4,x5,rfl⟩;rw[Fs]at e;obtain⟨q,pS,rfl⟩:=jl e;have h:=(G6 q (Sv pS)).1;have g:=Gw q.1 q.2;rw[h]at g;exact⟨_,[some (lI F),some (.int m),x2,x3,some (tI q.1),some (tI q.2)],rfl,i7 (S1:=none) (by simp only[RX,g,Q4]) rfl,_,_,rfl⟩)
 obtain⟨ρ2,h2,x4,x5,rfl⟩:=ym;have hi:d6 (.isi "list") [lI F]= .ok (.bl true):=rfl;refine aC hf ⋯ rfl ?_;show fin (aV (aw fs (N-1)) (CQ iw) [some (lI F),some (.int m),none,none,none,none] none)=_;refine dy (S1:=none) (by simp only[RX,hi,Q4]) (bB (ds:=F.map tI) (S1:=none) rfl rfl h1 (bB (ds:=cX (F.dropLast.map tI) ((F.drop 1).map tI)) (S1:=none) (jt (S1:=none) (S2:=none) (da:=lI F.dropLast) (db:=lI (F.drop 1)) (by simp only[RX,c1]) (by simp only[RX,c2]) rfl rfl) rfl h2 (ax rfl)))
section
variable{n:Nat}{D:Nat->Nat->Int}{x:Nat->Int}
theorem nT(dB:∀i j,i<n->j<n->D i j= - D j i)(rel:∀i j k,i<n->j<n->k<n->D j k*x i-D i k*x j+D i j*x k=0):∀L:List Nat,L≠[]->(∀i∈L,i<n/\0<x i)->∃j∈L,∀i∈L,0<=D j i
 |[],h,_=>absurd rfl h
 |[a],_,hL=>⟨a,by simp,λi hi=>by
   rw[QE]at hi;subst hi;have:=dB i i (hL i (by simp)).1 (hL i (by simp)).1
   lia⟩
 |a::b::L,_,hL=>by
  obtain⟨j,hj,hm⟩:=nT dB rel (b::L) (by simp) λi hi=>hL i (P9 _ hi)
  have ha:=hL a Qc;have pO:=hL j (P9 _ hj);rcases aF (D a j) 0 with z|z
  ·refine⟨j,P9 _ hj,λi hi=>?_⟩;rcases Qi.mp hi with rfl|hi
   ·have:=dB i j ha.1 pO.1
    lia
   ·exact hm i hi
  ·refine⟨a,Qc,λi hi=>?_⟩;rcases Qi.mp hi with rfl|hi
   ·have:=dB i i ha.1 ha.1
    lia
   ·have Ay:=hL i (P9 _ hi);have r:=rel a j i ha.1 pO.1 Ay.1;have h1:=Rj (hm i hi) (Int.le_of_lt ha.2);have h2:=Rj z (Int.le_of_lt Ay.2);rcases aF (D a i) 0 with w|w
    ·have:=Int.mul_neg_of_neg_of_pos w pO.2
     lia
    ·exact w
theorem HS{h:Int}(dB:∀i j,i<n->j<n->D i j= - D j i)(rel:∀i j k,i<n->j<n->k<n->D j k*x i-D i k*x j+D i j*x k=0)(nn:∀i,i<n->0<=x i)(bd:∀i j,i<n->j<n->D i j<=h/\ - h<=D i j){u v:Nat}(hu:u<n)(hv:v<n)(hD:D u v≠0)(hx:x u≠0\/x v≠0):
  (∀i,i<n->x i<=2*h)\/∃(ε:Int)(j:Nat),(ε=1\/ε= -1)/\j<n/\(∀i,i<n->0<=ε*D j i/\ε*D j i<=x i)/\∃i,i<n/\0<ε*D j i:=by
 have h0:0<=h:=by have:=bd u v hu hv;lia
 by_cases hA:∃k,k<n/\x k=0/\∃j,j<n/\0<x j/\D j k≠0
 ·obtain⟨k,hk,xk,j,hj,xj,G0⟩:=hA;obtain⟨ε,hε,hp⟩:∃ε:Int,(ε=1\/ε= -1)/\0<ε*D k j:=by
   have:=dB j k hj hk;rcases Re G0 with z|z
   ·exact⟨1,.inl rfl,by lia⟩
   ·exact⟨-1,.inr rfl,by lia⟩
  have key:∀i,i<n->(ε*D k i)*x j=(ε*D k j)*x i:=λi hi=>by
   have r:=rel i j k hi hj hk;rw[xk,Rk,Int.add_zero]at r;rw[dB k i hk hi,dB k j hk hj]
   grind
  have e0:∀i,i<n->0<=ε*D k i:=λi hi=>by
   have:=Rj (Int.le_of_lt hp) (nn i hi);rw[<-key i hi]at this;rcases aF (ε*D k i) 0 with w|w
   ·have:=Int.mul_neg_of_neg_of_pos w xj;lia
   ·exact w
  rcases aF (x j) (ε*D k j)with w|w
  ·refine .inl λi hi=>?_
   have h1:(ε*D k j)*x i<=(ε*D k j)*(ε*D k i):=by rw[<-key i hi,Rg (ε*D k j)];exact Rh (Int.le_of_lt w) (e0 i hi)
   have h2:=Int.le_of_mul_le_mul_left h1 hp;have:=bd k i hk hi;rcases hε with rfl|rfl<;>lia
  ·refine .inr ⟨ε,k,hε,hk,λi hi=>⟨e0 i hi,?_⟩,j,hj,hp⟩;have h1:(ε*D k i)*x j<=x i*x j:=by rw[key i hi,Rg (x i)];exact Ri w (nn i hi)
   exact Int.le_of_mul_le_mul_right h1 xj
 ·have hz:∀k j,k<n->j<n->x k=0->0<x j->D j k=0:=λk j hk hj h1 h2=>Q7 λw=>hA ⟨k,hk,h1,j,hj,h2,w⟩
  let L:=(List.range n).filter λi=>decide (0<x i)
  have hL:∀i,i∈L↔i<n/\0<x i:=λi=>by simp[L,So]
  have cM:L≠[]:=by
   rcases hx with w|w
   ·have:=nn u hu;exact List.ne_nil_of_mem ((hL u).mpr ⟨hu,by lia⟩)
   ·have:=nn v hv;exact List.ne_nil_of_mem ((hL v).mpr ⟨hv,by lia⟩)
  obtain⟨j,hj,hm⟩:=nT dB rel L cM λi hi=>(hL i).mp hi
  obtain⟨l,hl,hM⟩:=nT (D:=λi j=>D j i) (x:=x) (n:=n) (λi j hi hj=>dB j i hj hi) (λi j k hi hj hk=>by have:=rel i j k hi hj hk;have a1:=dB k j hk hj;have a2:=dB k i hk hi;have a3:=dB j i hj hi;show D k j*x i-D k i*x j+D j i*x k=0;rw[a1,a2,a3];grind) L cM λi hi=>(hL i).mp hi
  obtain⟨jn,jp⟩:=(hL j).mp hj;obtain⟨ln,lp⟩:=(hL l).mp hl;have ej:∀i,i<n->0<=D j i:=λi hi=>by
   by_cases w:0<x i
   ·exact hm i ((hL i).mpr ⟨hi,w⟩)
   ·have:=nn i hi;rw[hz i j hi jn ⋯ jp]
    lia
  have el:∀i,i<n->0<=D i l:=λi hi=>by
   by_cases w:0<x i
   ·exact hM i ((hL i).mpr ⟨hi,w⟩)
   ·have:=nn i hi;rw[dB i l hi ln,hz i l hi ln ⋯ lp]
    lia
  have rl:∀i,i<n->D j l*x i=x j*D i l+x l*D j i:=λi hi=>by
   have:=rel j i l jn hi ln
   grind
  have hp:0<D j l:=by
   rcases aF 0 (D j l)with w|w
   ·exact w
   ·exfalso;have K5:D j l=0:=by have:=ej l ln;lia
    have dj:∀i,i<n->0<x i->D j i=0:=λi hi xi=>by
     have:=rl i hi;rw[K5,Rv]at this;have a1:=Rj (Int.le_of_lt jp) (el i hi);have a2:=Rj (Int.le_of_lt lp) (ej i hi);have a3:x l*D j i=0:=⋯
     exact(Int.mul_eq_zero.mp a3).resolve_left ⋯
    have all:∀i k,i<n->k<n->0<x i->0<x k->D i k=0:=λi k hi hk xi xk=>by have:=rel j i k jn hi hk;rw[dj i hi xi,dj k hk xk,Rv,Rv,Rq,Int.add_zero]at this;exact(Int.mul_eq_zero.mp this).resolve_right ⋯
    have nu:=nn u hu;have nv:=nn v hv;by_cases xu:0<x u
    ·by_cases xv:0<x v
     ·exact hD (all u v hu hv xu xv)
     ·exact hD (hz v u hv hu ⋯ xu)
    ·have xv:0<x v:=⋯
     have:=hz u v hu hv ⋯ xv;have:=dB u v hu hv
     lia
  rcases aF (x l) (D j l)with w1|w1
  ·rcases aF (x j) (D j l)with w2|w2
   ·refine .inl λi hi=>?_
    have r:=rl i hi;have a1:x j*D i l<=D j l*D i l:=Ri (Int.le_of_lt w2) (el i hi);have a2:x l*D j i<=D j l*D j i:=Ri (Int.le_of_lt w1) (ej i hi);have a3:D j l*x i<=D j l*(D i l+D j i):=by rw[Int.mul_add];lia
    have a4:=Int.le_of_mul_le_mul_left a3 hp;have:=bd i l hi ln;have:=bd j i jn hi
    lia
   ·refine .inr ⟨-1,l,.inr rfl,ln,λi hi=>?_,j,jn,by have:=dB l j ln jn;lia⟩;have a:=dB l i ln hi;refine⟨by have:=el i hi;lia,?_⟩;have r:=rl i hi;have a1:D j l*D i l<=x j*D i l:=Ri w2 (el i hi);have a2:=Rj (Int.le_of_lt lp) (ej i hi);have a3:D j l*D i l<=D j l*x i:=⋯
    have:=Int.le_of_mul_le_mul_left a3 hp
    lia
  ·refine .inr ⟨1,j,.inl rfl,jn,λi hi=>?_,l,ln,by lia⟩;refine⟨by have:=ej i hi;lia,?_⟩;have r:=rl i hi;have a1:D j l*D j i<=x l*D j i:=Ri w1 (ej i hi);have a2:=Rj (Int.le_of_lt jp) (el i hi);have a3:D j l*D j i<=D j l*x i:=⋯
   have:=Int.le_of_mul_le_mul_left a3 hp
   lia
end
theorem basis{m:Nat}{L0:List (List Int)}(h:uZ m 0 [] L0):∀p,p<=m->∃B:List (List Int),B.length=(bN L0 p).1.length/\(∀b∈B,b∈L0)/\(∀z,(∀b∈B,aa b z=0)->∀q∈(bN L0 p).1,aa q.2 z=0)/\
  ∀l∈(bN L0 p).2,∃o∈L0,∀z,(∀b∈B,aa b z=0)->aa o z=0->aa l z=0
 |0,_=>⟨[],rfl,λ_ e=>(by cases e),λ_ _ _ e=>(by cases e),λl hl=>⟨l,hl,λ_ _ k=>k⟩⟩
 |p+1,hp=>by
  obtain⟨B,b1,b2,b3,b4⟩:=basis h p ⋯;have S:=(Sq.all h p ⋯).st;show∃B:List (List Int),B.length=(fq p (bN L0 p)).1.length/\(∀b∈B,b∈L0)/\(∀z,(∀b∈B,aa b z=0)->∀q∈(fq p (bN L0 p)).1,aa q.2 z=0)/\∀l∈(fq p (bN L0 p)).2,∃o∈L0,∀z,(∀b∈B,aa b z=0)->aa o z=0->aa l z=0;unfold fq;split
  ·exact⟨B,b1,b2,b3,b4⟩
  ·rename_i b t e;have hb:b∈(bN L0 p).2:=(So.mp (by rw[e];exact Qc)).1;obtain⟨o,ho,hk⟩:=b4 b hb;have lb:=S.len b hb;have key:∀z,(∀c∈B++[o],aa c z=0)->(∀c∈B,aa c z=0)/\aa b z=0:=λz hz=>
    have h1:∀c∈B,aa c z=0:=λc hc=>hz c (Sn _ hc)
    ⟨h1,hk z h1 (hz o (by simp))⟩
   refine⟨B++[o],by simp[b1],λc hc=>?_,λz hz q hq=>?_,λl hl=>?_⟩
   ·rcases Qs.mp hc with k|k
    ·exact b2 c k
    ·rw[QE]at k;rw[k];exact ho
   ·obtain⟨h1,h2⟩:=key z hz;rcases Qs.mp hq with k|k
    ·obtain⟨q',k1,rfl⟩:=QF.mp k;rw[gu z (by rw[lb,(S.pl q' k1).2.1]),b3 z h1 q' k1,h2]
     lia
    ·rw[QE]at k;rw[k];exact h2
   ·obtain⟨l',k1,rfl⟩:=QF.mp hl;obtain⟨o',AA,k2⟩:=b4 l' k1;refine⟨o',AA,λz hz k3=>?_⟩;obtain⟨h1,h2⟩:=key z hz;rw[gu z (by rw[lb,S.len l' k1]),k2 z h1 k3,h2]
    lia
section
variable{m:Nat}{M:List (List Int)}{r:List Int}
noncomputable def Ft(m:Nat)(M:List (List Int))(y:List Int):Prop:=y.length=m/\∀q∈M,aa q y=0
theorem fg{l x:List Int}(g:Int)(h:l.length=x.length):aa (l++[g]) (x++[0])=aa l x:=by
 induction l generalizing x with
 |nil=>cases x with
  |nil=>show g*0+aa [] []=_;rw[Rk];rfl
  |cons=>simp at h
 |cons a l ih=>cases x with
  |nil=>simp at h
  |cons b x=>show a*b+aa (l++[g]) (x++[0])=_;rw[ih (by simpa using h)];rfl
theorem xY{y:List Int}(hl:∀q∈M,q.length=m)(hy:y.length=m)(hr:r.length=M.length):(∀q∈M,aa q y=0)↔∀z∈rowsOf M r,aa z (y++[0])=0:=by
 unfold rowsOf;constructor
 ·intro h z hz;obtain⟨q,hq,rfl⟩:=QF.mp hz;have:=(SA hq).1;rw[fg _ (by rw[hl _ this,hy]),h _ this]
 ·intro h q hq;obtain⟨k,hk,e⟩:=List.mem_iff_getElem.mp hq;have:=h (q++[r[k]'⋯]) (QF.mpr ⟨(q,r[k]'⋯),Su.mpr ⟨k,by rw[List.getElem?_zip_eq_some];exact⟨by rw[Qu hk,e],Qu _⟩⟩,rfl⟩);rwa [fg _ (by rw[hl _ hq,hy])]at this
theorem tU{y:List Int}(E:gX m M r)(hy:y.length=m):(∀q∈M,aa q y=0)↔∀q∈bz m M r,aa q.2 (y++[0])=0:=by rw[xY E.wd hy E.rl,E.sq.ev];refine⟨λh=>h.1,λh=>⟨h,λl hl=>?_⟩⟩;obtain⟨a,g,rfl,la,_⟩:=ju (E.sq.st.len l hl);rw[fg _ (by rw[la,hy])];exact lj y λi hi=>by have:=E.sq.zl _ hl i ⋯;rwa [gg hi]at this
theorem pR{y:List Int}(E:gX m M r)(hy:Ft m M y)(h0:∀i∈bq m (bz m M r),gI y i=0):∀i,i<m->gI y i=0:=λi hi=>by
 by_cases hf:i∈(bz m M r).map (·.1)
 ·obtain⟨q,hq,rfl⟩:=QF.mp hf;have h1:=(tU E hy.1).mp hy.2 q hq;obtain⟨_,h2,h3⟩:=E.sq.st.pl q hq;obtain⟨a,g,ea,la,_⟩:=ju h2;rw[ea,fg _ (by rw[la,hy.1]),gK (q:=List.replicate m 0) (p:=q.1) (by simp[hy.1]) (by rw[hy.1];exact hi) (by rw[la,hy.1];exact Qb _) λj hj cM=>?_,gL,cA]at h1
  ·rw[ea,gg ⋯]at h3;have:gI a q.1*gI y q.1=0:=by rw[<-h1];grind
   exact(Int.mul_eq_zero.mp this).resolve_left h3
  ·rw[hy.1]at hj;rw[cA,Rk];by_cases hf:j∈(bz m M r).map (·.1)
   ·obtain⟨q',jQ,rfl⟩:=QF.mp hf;have:=E.sq.pz q hq q' jQ cM;rw[ea,gg ⋯]at this;rw[this,Rv]
   ·rw[h0 j (cG.mpr ⟨hj,hf⟩),Rk]
 ·exact h0 i (cG.mpr ⟨hi,hf⟩)
theorem base(E:gX m M r):∃B:List (List Int),B.length=(bz m M r).length/\(∀b∈B,b∈M)/\(∀b∈B,∀x,x.length=m->bH M r x->((aa b x).natAbs:Int)<=dQ r)/\∀y,y.length=m->(∀b∈B,aa b y=0)->Ft m M y:=by
 obtain⟨B,b1,b2,b3,_⟩:=basis E.Ny m (Qb _);have mem:∀b∈B,∃q∈M.zip r,b=q.1++[q.2]:=λb hb=>by obtain⟨q,hq,e⟩:=QF.mp (b2 b hb);exact⟨q,hq,e.symm⟩
 have tk:∀b∈B,∀q∈M.zip r,b=q.1++[q.2]->b.take m=q.1:=λb hb q hq e=>by rw[e,<-E.wd _ (SA hq).1,List.take_left]
 refine⟨B.map (List.take m),by rw[Qf,b1];rfl,λc hc=>?_,λc hc x hx hs=>?_,λy hy hk=>⟨hy,(tU E hy).mpr (b3 _ λb hb=>?_)⟩⟩
 ·obtain⟨b,hb,rfl⟩:=QF.mp hc;obtain⟨q,hq,e⟩:=mem b hb;rw[tk b hb q hq e];exact(SA hq).1
 ·obtain⟨b,hb,rfl⟩:=QF.mp hc;obtain⟨q,hq,e⟩:=mem b hb;rw[tk b hb q hq e,hs q hq];exact oy (QF.mpr ⟨q.2,(SA hq).2,rfl⟩)
 ·obtain⟨q,hq,e⟩:=mem b hb;have:=hk _ (QF.mpr ⟨b,hb,rfl⟩);rw[tk b hb q hq e]at this;rw[e,fg _ (by rw[E.wd _ (SA hq).1,hy]),this]
end
theorem line{n k:Nat}{e x:Nat->Int}{c E:Int}(hk:k<n)(e0:e k≠0)(eE:((e k).natAbs:Int)<=E)(hn:∀j,j<n->0<=x j)(hc:∀j,j<n->((x j*e k-x k*e j).natAbs:Int)<=c)(hx:c+E<x k):
  ∃ε:Int,(ε=1\/ε= -1)/\0<ε*e k/\∀j,j<n->0<=ε*e j/\ε*e j<=x j:=by
 obtain⟨ε,hε,hp⟩:∃ε:Int,(ε=1\/ε= -1)/\0<ε*e k:=by
  rcases Re e0 with z|z
  ·exact⟨-1,.inr rfl,by lia⟩
  ·exact⟨1,.inl rfl,by lia⟩
 refine⟨ε,hε,hp,λj hj=>?_⟩;have h:((x j*(ε*e k)-x k*(ε*e j)).natAbs:Int)<=c:=by
  have:=hc j hj;rcases hε with rfl|rfl
  ·rw[Int.one_mul,Int.one_mul];exact this
  ·rw[show x j*(-1*e k)-x k*(-1*e j)= -(x j*e k-x k*e j) by grind,Int.natAbs_neg];exact this
 have PL:ε*e k<=E:=by rcases hε with rfl|rfl<;>lia
 generalize ε*e k=p at *;generalize ε*e j=q at *;have Ng:=hn j hj;have h1:=Rj Ng (Int.le_of_lt hp);have q0:0<=q:=by
  rcases aF q 0 with w|w
  ·have:=Rh (show q<= -1 by lia) (hn k hk)
   lia
  ·exact w
 refine⟨q0,?_⟩;rcases aF (x j) q with w|w
 ·have h2:=Ri (show x j<=q-1 by lia) (Int.le_of_lt hp);have h3:=Ri (show (1:Int)<=q by lia) (show 0<=x k-p by lia);have h4:(q-1)*p=q*p-p:=by grind
  have h5:q*(x k-p)=x k*q-q*p:=by grind
  lia
 ·exact w
theorem ot{a1 a2 b1 b2:Int}(U:∀y1 y2,a1*y1+a2*y2=0->b1*y1+b2*y2=0->y1=0/\y2=0):a1*b2-a2*b1≠0:=λh=>by
 have h1:=U (-a2) a1 (by grind) (by grind);have h2:=U (-b2) b1 (by grind) (by grind);have:=U 1 0 (by grind) (by grind)
 lia
noncomputable def lV(a1 a2 a3 b1 b2 b3 c1 c2 c3:Int):Int:=a1*(b2*c3-b3*c2)+a2*(b3*c1-b1*c3)+a3*(b1*c2-b2*c1)
theorem AO{a1 a2 a3 b1 b2 b3 c1 c2 c3:Int}(U:∀y1 y2 y3,a1*y1+a2*y2+a3*y3=0->b1*y1+b2*y2+b3*y3=0->c1*y1+c2*y2+c3*y3=0->y1=0/\y2=0/\y3=0):lV a1 a2 a3 b1 b2 b3 c1 c2 c3≠0:=λh=>by
 unfold lV at h;have m1:=U (b2*c3-b3*c2) (b3*c1-b1*c3) (b1*c2-b2*c1) h (by grind) (by grind);have m2:=U (a2*c3-a3*c2) (a3*c1-a1*c3) (a1*c2-a2*c1) (by grind) (by grind) (by grind);have m3:=U (a2*b3-a3*b2) (a3*b1-a1*b3) (a1*b2-a2*b1) (by grind) (by grind) (by grind);have h1:=U (-a2) a1 0 (by grind) (by grind) (by grind);have h2:=U (-b2) b1 0 (by grind) (by grind) (by grind);have h3:=U (-c2) c1 0 (by grind) (by grind) (by grind);have:=U 1 0 0 (by grind) (by grind) (by grind)
 lia
theorem j6{b v t:Int}(h:(b.natAbs:Int)<=t):b*v<=t*v.natAbs:=by
 have h1:(b*v)<=((b*v).natAbs:Int):=⋯
 rw[Rl,Ro]at h1;exact Int.le_trans h1 (Ri h ⋯)
theorem wt{z g:Int}(h1:z<=g)(h2: -z<=g):(z.natAbs:Int)<=g:=⋯
theorem iQ{p q r s t g:Int}(hp:(p.natAbs:Int)<=t)(hq:(q.natAbs:Int)<=g)(hr:(r.natAbs:Int)<=t)(hs:(s.natAbs:Int)<=g):((p*q-r*s).natAbs:Int)<=2*t*g:=by
 have k1:∀{u v:Int},(u.natAbs:Int)<=t->(v.natAbs:Int)<=g->u*v<=t*g:=λhu hv=>Int.le_trans (j6 hu) (Rh hv ⋯)
 have e:2*t*g=t*g+t*g:=by grind
 have h1:=k1 hp hq;have h2:=k1 hr hs;have h3:=k1 (u:= -p) ⋯ hq;have h4:=k1 (u:= -r) ⋯ hs;rw[Int.neg_mul]at h3 h4;exact wt ⋯ ⋯
theorem sgn(x:Int):∃s:Int,(s=1\/s= -1)/\(x.natAbs:Int)=s*x:=by
 rcases aF x 0 with h|h
 ·exact⟨-1,.inr rfl,by lia⟩
 ·exact⟨1,.inl rfl,by lia⟩
theorem xc{b0 b1 b2 v0 v1 v2 t:Int}(h0:(b0.natAbs:Int)<=t)(h1:(b1.natAbs:Int)<=t)(h2:(b2.natAbs:Int)<=t):b0*v0+b1*v1+b2*v2<=t*(v0.natAbs+v1.natAbs+v2.natAbs):=by
 have:=j6 (v:=v0) h0;have:=j6 (v:=v1) h1;have:=j6 (v:=v2) h2;rw[Int.mul_add,Int.mul_add]
 lia
theorem qS{s c t:Int}(h:s=1\/s= -1)(hc:(c.natAbs:Int)<=t):((s*c).natAbs:Int)<=t:=by rw[Rl];rcases h with rfl|rfl<;>simpa using hc
theorem qT{s u c d:Int}(hs:s=1\/s= -1)(hu:u=1\/u= -1):(c*s-d*u).natAbs=(u*c-s*d).natAbs:=by
 rcases hs with rfl|rfl<;>rcases hu with rfl|rfl
 ·rw[show c*1-d*1=1*c-1*d by grind]
 ·rw[<-Int.natAbs_neg,show -(c*1-d * -1)= -1*c-1*d by grind]
 ·rw[<-Int.natAbs_neg,show -(c * -1-d*1)=1*c - -1*d by grind]
 ·rw[show c * -1-d * -1= -1*c - -1*d by grind]
theorem u3{p q r t:Int}(hp:(p.natAbs:Int)<=t)(hq:(q.natAbs:Int)<=t)(hr:(r.natAbs:Int)<=t):(((q-r).natAbs:Int)+(r-p).natAbs+(p-q).natAbs)<=4*t:=⋯
theorem tE{a1 a2 a3 b1 b2 b3 c1 c2 c3 t:Int}(ha:(a1.natAbs:Int)<=t/\(a2.natAbs:Int)<=t/\(a3.natAbs:Int)<=t)(hb:(b1.natAbs:Int)<=t/\(b2.natAbs:Int)<=t/\(b3.natAbs:Int)<=t)(hc:(c1.natAbs:Int)<=t/\(c2.natAbs:Int)<=t/\(c3.natAbs:Int)<=t):
  lV a1 a2 a3 b1 b2 b3 c1 c2 c3<=4*t*t*t:=by
 unfold lV;refine Int.le_trans (xc ha.1 ha.2.1 ha.2.2) ?_;have t0:0<=t:=⋯
 have e:4*t*t*t=t*(t*(4*t)):=by grind
 rw[e];refine Rh ?_ t0;obtain⟨s1,h1,e1⟩:=sgn (b2*c3-b3*c2);obtain⟨s2,h2,e2⟩:=sgn (b3*c1-b1*c3);obtain⟨s3,h3,e3⟩:=sgn (b1*c2-b2*c1);rw[e1,e2,e3,show s1*(b2*c3-b3*c2)+s2*(b3*c1-b1*c3)+s3*(b1*c2-b2*c1)=b1*(c2*s3-c3*s2)+b2*(c3*s1-c1*s3)+b3*(c1*s2-c2*s1) by grind];refine Int.le_trans (xc hb.1 hb.2.1 hb.2.2) (Rh ?_ t0);rw[qT h3 h2,qT h1 h3,qT h2 h1];exact u3 (qS h1 hc.1) (qS h2 hc.2.1) (qS h3 hc.2.2)
theorem Bu{n:Nat}{D:Nat->Nat->Int}{x:Nat->Int}(dB:∀i j,i<n->j<n->D i j= - D j i)(h:∀i j k,i<j->j<k->k<n->D j k*x i-D i k*x j+D i j*x k=0):∀i j k,i<n->j<n->k<n->D j k*x i-D i k*x j+D i j*x k=0:=by
 have z:∀i,i<n->D i i=0:=λi hi=>by have:=dB i i hi hi;lia
 have s1:∀i j k,i<n->j<n->k<n->D i k*x j-D j k*x i+D j i*x k=0->D j k*x i-D i k*x j+D i j*x k=0:=λi j k hi hj hk q=>by rw[dB i j hi hj];grind
 have s2:∀i j k,i<n->j<n->k<n->D k j*x i-D i j*x k+D i k*x j=0->D j k*x i-D i k*x j+D i j*x k=0:=λi j k hi hj hk q=>by rw[dB j k hj hk];grind
 have lo:∀i j k,i<j->j<n->k<n->D j k*x i-D i k*x j+D i j*x k=0:=λi j k eT hj hk=>by
  have hi:i<n:=⋯
  rcases Nat.lt_trichotomy j k with w|w|w
  ·exact h i j k eT w hk
  ·rw[<-w,z j hj];grind
  ·refine s2 i j k hi hj hk ?_;rcases Nat.lt_trichotomy i k with u|u|u
   ·exact h i k j u w hj
   ·rw[<-u,z i hi];grind
   ·exact s1 i k j hi hk hj (h k i j u eT hj)
 intro i j k hi hj hk;rcases Nat.lt_trichotomy i j with w|w|w
 ·exact lo i j k w hj hk
 ·rw[<-w,z i hi];grind
 ·exact s1 i j k hi hj hk (lo j i k w hi hk)
theorem qm(ε:Int):∀(b e:List Int),aa b (e.map (ε * ·))=ε*aa b e
 |[],_=>by rw[cT,cT,Rk]
 |_,[]=>by rw[Sm,iC,Rk]
 |b::bs,e::es=>by rw[QO,ay,ay,qm ε bs es];grind
theorem xE(f:Int->Int)(h:f 0=0)(e:List Int)(i:Nat):gI (e.map f) i=f (gI e i):=by
 unfold gI;rw[R0,R0,Qp];cases e[i]? with
 |none=>exact h.symm
 |some v=>rfl
theorem j9:∀{l y:List Int}{n:Nat},l.length=n+1->y.length=n+1->aa l y=gI l 0*gI y 0+aa l.tail y.tail
 |_::_,_::_,_,_,_=>rfl
theorem tP:∀(l:List Int)(i:Nat),gI l.tail i=gI l (i+1)
 |[],_=>rfl
 |_::_,_=>(aA ..).symm
theorem iB{l y:List Int}(hl:l.length=3)(hy:y.length=3):aa l y=gI l 0*gI y 0+gI l 1*gI y 1+gI l 2*gI y 2:=by
 rw[j9 hl hy,j9 (n:=1) (by simp[hl]) (by simp[hy]),j9 (n:=0) (by simp[hl]) (by simp[hy]),List.length_eq_zero_iff.mp (show l.tail.tail.tail.length=0 by simp[hl]),cT];simp only[tP,Ti];show _+(gI l 1*gI y 1+(gI l 2*gI y 2+0))=_
 lia
theorem dU{l y:List Int}(hl:l.length=4)(hy:y.length=4):aa l y=gI l 0*gI y 0+gI l 1*gI y 1+gI l 2*gI y 2+gI l 3*gI y 3:=by
 rw[j9 hl hy,iB (by simp[hl]) (by simp[hy])];simp only[tP];show _+(gI l 1*gI y 1+gI l 2*gI y 2+gI l 3*gI y 3)=_
 lia
noncomputable def Lies(m:Nat)(B:List (List Int))(g:Int)(x:List Int):Prop:=∃y:List Int,y.length=m/\(∀b∈B,aa b y=0)/\(∀i,i<m->0<=gI y i/\gI y i<=gI x i/\gI y i<=g)/\∃i,i<m/\0<gI y i
theorem Lies.of{m k:Nat}{B:List (List Int)}{g ε:Int}{x e:List Int}(le:e.length=m)(he:∀b∈B,aa b e=0)(hε:ε=1\/ε= -1)(hg:∀i,i<m->((gI e i).natAbs:Int)<=g)(hk:k<m)(hp:0<ε*gI e k)(h:∀i,i<m->0<=ε*gI e i/\ε*gI e i<=gI x i):Lies m B g x:=
 ⟨e.map (ε * ·),by rw[Qf,le],λb hb=>by rw[qm,he b hb,Rk],λi hi=>by
  rw[xE _ (Rk _)];have:=hg i hi;refine⟨(h i hi).1,(h i hi).2,?_⟩;rcases hε with rfl|rfl<;>lia,k,hk,by rw[xE _ (Rk _)];exact hp⟩
theorem JJ:∀{i:Nat},i<3->i=0\/i=1\/i=2:=λ {i}=>(by decide:∀i,i<3->i=0\/i=1\/i=2) i
theorem yq:∀{i:Nat},i<4->i=0\/i=1\/i=2\/i=3:=λ {i}=>(by decide:∀i,i<4->i=0\/i=1\/i=2\/i=3) i
section
variable{a b c x:List Int}{t G:Int}{k:Nat}
theorem Hl(la:a.length=3)(lb:b.length=3)(lx:x.length=3)(ha:∀i,i<3->((gI a i).natAbs:Int)<=t)(hb:∀i,i<3->((gI b i).natAbs:Int)<=t)(hn:∀i,i<3->0<=gI x i)(hr:((aa a x).natAbs:Int)<=G)(hs:((aa b x).natAbs:Int)<=G)(hk:k<3)
  (U:∀y:List Int,y.length=3->aa a y=0->aa b y=0->gI y k=0->∀i,i<3->gI y i=0) (hx:2*t*(G+t)<gI x k):Lies 3 [a,b] (2*t*t) x:=by
 let e:List Int:=[gI a 1*gI b 2-gI a 2*gI b 1,gI a 2*gI b 0-gI a 0*gI b 2,gI a 0*gI b 1-gI a 1*gI b 0]
 have eE:∀i,i<3->((gI e i).natAbs:Int)<=2*t*t:=λi hi=>by
  rcases JJ hi with rfl|rfl|rfl
  ·exact iQ (ha 1 (by decide)) (hb 2 (by decide)) (ha 2 (by decide)) (hb 1 (by decide))
  ·exact iQ (ha 2 (by decide)) (hb 0 (by decide)) (ha 0 (by decide)) (hb 2 (by decide))
  ·exact iQ (ha 0 (by decide)) (hb 1 (by decide)) (ha 1 (by decide)) (hb 0 (by decide))
 have e0:gI e k≠0:=by
  have U':∀y1 y2 y3:Int,gI a 0*y1+gI a 1*y2+gI a 2*y3=0->gI b 0*y1+gI b 1*y2+gI b 2*y3=0->gI [y1,y2,y3] k=0->y1=0/\y2=0/\y3=0:=λy1 y2 y3 h1 h2 h3=>
   have q:=U [y1,y2,y3] rfl (by rw[iB la rfl];exact h1) (by rw[iB lb rfl];exact h2) h3
   ⟨q 0 (by decide),q 1 (by decide),q 2 (by decide)⟩
  rcases JJ hk with rfl|rfl|rfl
  ·exact ot λy1 y2 h1 h2=>(U' 0 y1 y2 ⋯ ⋯ rfl).2
  ·have:=ot (a1:=gI a 0) (a2:=gI a 2) (b1:=gI b 0) (b2:=gI b 2) λy1 y2 h1 h2=>(λz:_/\_/\_=>⟨z.1,z.2.2⟩) (U' y1 0 y2 ⋯ ⋯ rfl)
   exact λ(z:gI a 2*gI b 0-gI a 0*gI b 2=0)=>this (by omega)
  ·exact ot λy1 y2 h1 h2=>(λz:_/\_/\_=>⟨z.1,z.2.1⟩) (U' y1 y2 0 ⋯ ⋯ rfl)
 have cr:∀i,i<3->((aa b x*gI a i-aa a x*gI b i).natAbs:Int)<=2*t*G:=λi hi=>by rw[show 2*t*G=2*G*t by grind];exact iQ hs (ha i hi) hr (hb i hi)
 have hc:∀j,j<3->((gI x j*gI e k-gI x k*gI e j).natAbs:Int)<=2*t*G:=λj hj=>by
  have sw:∀{z w:Int},(z.natAbs:Int)<=2*t*G->(w=z\/w= -z\/w=0)->(w.natAbs:Int)<=2*t*G:=λh q=>by rcases q with rfl|rfl|rfl<;>lia
  have c0:=cr 0 (by decide);have c1:=cr 1 (by decide);have c2:=cr 2 (by decide);rw[iB la lx,iB lb lx]at c0 c1 c2;rcases JJ hk with rfl|rfl|rfl<;>rcases JJ hj with rfl|rfl|rfl
  ·exact sw c0 (.inr (.inr (Rp _)))
  ·refine sw c2 (.inr (.inl ?_));show gI x 1*(gI a 1*gI b 2-gI a 2*gI b 1)-gI x 0*(gI a 2*gI b 0-gI a 0*gI b 2)=_;grind
  ·refine sw c1 (.inl ?_);show gI x 2*(gI a 1*gI b 2-gI a 2*gI b 1)-gI x 0*(gI a 0*gI b 1-gI a 1*gI b 0)=_;grind
  ·refine sw c2 (.inl ?_);show gI x 0*(gI a 2*gI b 0-gI a 0*gI b 2)-gI x 1*(gI a 1*gI b 2-gI a 2*gI b 1)=_;grind
  ·exact sw c0 (.inr (.inr (Rp _)))
  ·refine sw c0 (.inr (.inl ?_));show gI x 2*(gI a 2*gI b 0-gI a 0*gI b 2)-gI x 1*(gI a 0*gI b 1-gI a 1*gI b 0)=_;grind
  ·refine sw c1 (.inr (.inl ?_));show gI x 0*(gI a 0*gI b 1-gI a 1*gI b 0)-gI x 2*(gI a 1*gI b 2-gI a 2*gI b 1)=_;grind
  ·refine sw c0 (.inl ?_);show gI x 1*(gI a 0*gI b 1-gI a 1*gI b 0)-gI x 2*(gI a 2*gI b 0-gI a 0*gI b 2)=_;grind
  ·exact sw c0 (.inr (.inr (Rp _)))
 obtain⟨ε,hε,hp,h⟩:=line (e:=gI e) (x:=gI x) hk e0 (eE k hk) hn hc (by rw[<-Int.mul_add];exact hx);refine Lies.of (e:=e) rfl (λz hz=>?_) hε eE hk hp h;rcases Qi.mp hz with rfl|hz
 ·rw[iB la rfl];show gI z 0*(gI z 1*gI b 2-gI z 2*gI b 1)+gI z 1*(gI z 2*gI b 0-gI z 0*gI b 2)+gI z 2*(gI z 0*gI b 1-gI z 1*gI b 0)=0;grind
 ·rw[QE]at hz;subst hz;rw[iB lb rfl];show gI z 0*(gI a 1*gI z 2-gI a 2*gI z 1)+gI z 1*(gI a 2*gI z 0-gI a 0*gI z 2)+gI z 2*(gI a 0*gI z 1-gI a 1*gI z 0)=0;grind
end
noncomputable def p2(a b:List Int)(i j:Nat):Int:=gI a i*gI b j-gI a j*gI b i
noncomputable def dl(a b:List Int)(i:Nat):List Int:=([[0,p2 a b 2 3,p2 a b 3 1,p2 a b 1 2],[p2 a b 3 2,0,p2 a b 0 3,p2 a b 2 0],[p2 a b 1 3,p2 a b 3 0,0,p2 a b 0 1],[p2 a b 2 1,p2 a b 0 2,p2 a b 1 0,0]]:List (List Int)).getD i []
theorem Ba(a b:List Int)(i j:Nat):p2 a b i j= - p2 a b j i:=by unfold p2;grind
theorem Mu{i j k:Nat}(eT:i<j)(G0:j<k)(hk:k<4):(i=0/\j=1/\k=2)\/(i=0/\j=1/\k=3)\/(i=0/\j=2/\k=3)\/(i=1/\j=2/\k=3):=by
 have two:∀{i j:Nat},i<j->j<3->(i=0/\j=1)\/(i=0/\j=2)\/(i=1/\j=2):=λ {i j} h1 h2=>(by decide:∀j,j<3->∀i,i<j->(i=0/\j=1)\/(i=0/\j=2)\/(i=1/\j=2)) j h2 i h1
 rcases yq hk with rfl|rfl|rfl|rfl
 ·lia
 ·lia
 ·exact .inl ⟨by lia,by lia,rfl⟩
 ·exact .inr ((two eT G0).imp (λq=>⟨q.1,q.2,rfl⟩) λq=>q.imp (λq=>⟨q.1,q.2,rfl⟩) λq=>⟨q.1,q.2,rfl⟩)
section
variable{a b c x:List Int}{t:Int}{k:Nat}
theorem Eu(la:a.length=4)(lb:b.length=4)(lx:x.length=4)(ha:∀i,i<4->((gI a i).natAbs:Int)<=t)(hb:∀i,i<4->((gI b i).natAbs:Int)<=t)(hn:∀i,i<4->0<=gI x i)(hr:aa a x=0)(hs:aa b x=0){u v:Nat}(DD:u<v)(hv:v<4)(hx:gI x u≠0\/gI x v≠0)
  (U:∀y:List Int,y.length=4->aa a y=0->aa b y=0->gI y u=0->gI y v=0->∀i,i<4->gI y i=0):(∀i,i<4->gI x i<=2*(2*t*t))\/Lies 4 [a,b] (2*t*t) x:=by
 have dB:∀i j,i<4->j<4->gI (dl a b i) j= - gI (dl a b j) i:=λi j hi hj=>by rcases yq hi with rfl|rfl|rfl|rfl<;>rcases yq hj with rfl|rfl|rfl|rfl<;>first|exact Ba a b _ _|rfl
 have pE:∀i j,i<4->j<4->((p2 a b i j).natAbs:Int)<=2*t*t:=λi j hi hj=>iQ (ha i hi) (hb j hj) (ha j hj) (hb i hi)
 have t0:(0:Int)<=2*t*t:=by have:=pE 0 0 (by decide) (by decide);lia
 have bd:∀i j,i<4->j<4->((gI (dl a b i) j).natAbs:Int)<=2*t*t:=λi j hi hj=>by rcases yq hi with rfl|rfl|rfl|rfl<;>rcases yq hj with rfl|rfl|rfl|rfl<;>first|exact t0|exact pE _ _ (by decide) (by decide)
 rw[dU la lx]at hr;rw[dU lb lx]at hs;have rel:=Bu (x:=gI x) dB λi j k eT G0 hk=>by
  rcases Mu eT G0 hk with ⟨rfl,rfl,rfl⟩|⟨rfl,rfl,rfl⟩|⟨rfl,rfl,rfl⟩|⟨rfl,rfl,rfl⟩
  ·show p2 a b 0 3*gI x 0-p2 a b 3 1*gI x 1+p2 a b 2 3*gI x 2=0;unfold p2;grind
  ·show p2 a b 2 0*gI x 0-p2 a b 1 2*gI x 1+p2 a b 2 3*gI x 3=0;unfold p2;grind
  ·show p2 a b 0 1*gI x 0-p2 a b 1 2*gI x 2+p2 a b 3 1*gI x 3=0;unfold p2;grind
  ·show p2 a b 0 1*gI x 1-p2 a b 2 0*gI x 2+p2 a b 0 3*gI x 3=0;unfold p2;grind
 have hD:gI (dl a b u) v≠0:=by
  have U':∀y0 y1 y2 y3:Int,gI a 0*y0+gI a 1*y1+gI a 2*y2+gI a 3*y3=0->gI b 0*y0+gI b 1*y1+gI b 2*y2+gI b 3*y3=0->gI [y0,y1,y2,y3] u=0->gI [y0,y1,y2,y3] v=0->y0=0/\y1=0/\y2=0/\y3=0:=λy0 y1 y2 y3 h1 h2 h3 h4=>
   have q:=U [y0,y1,y2,y3] rfl (by rw[dU la rfl];exact h1) (by rw[dU lb rfl];exact h2) h3 h4
   ⟨q 0 (by decide),q 1 (by decide),q 2 (by decide),q 3 (by decide)⟩
  rcases (by decide:∀v,v<4->∀u,u<v->(u=0/\v=1)\/(u=0/\v=2)\/(u=0/\v=3)\/(u=1/\v=2)\/(u=1/\v=3)\/(u=2/\v=3)) v hv u DD with ⟨rfl,rfl⟩|⟨rfl,rfl⟩|⟨rfl,rfl⟩|⟨rfl,rfl⟩|⟨rfl,rfl⟩|⟨rfl,rfl⟩
  ·exact ot (a1:=gI a 2) (a2:=gI a 3) (b1:=gI b 2) (b2:=gI b 3) λy1 y2 h1 h2=>(λz:_/\_/\_/\_=>⟨z.2.2.1,z.2.2.2⟩) (U' 0 0 y1 y2 ⋯ ⋯ rfl rfl)
  ·exact ot (a1:=gI a 3) (a2:=gI a 1) (b1:=gI b 3) (b2:=gI b 1) λy1 y2 h1 h2=>(λz:_/\_/\_/\_=>⟨z.2.2.2,z.2.1⟩) (U' 0 y2 0 y1 ⋯ ⋯ rfl rfl)
  ·exact ot (a1:=gI a 1) (a2:=gI a 2) (b1:=gI b 1) (b2:=gI b 2) λy1 y2 h1 h2=>(λz:_/\_/\_/\_=>⟨z.2.1,z.2.2.1⟩) (U' 0 y1 y2 0 ⋯ ⋯ rfl rfl)
  ·exact ot (a1:=gI a 0) (a2:=gI a 3) (b1:=gI b 0) (b2:=gI b 3) λy1 y2 h1 h2=>(λz:_/\_/\_/\_=>⟨z.1,z.2.2.2⟩) (U' y1 0 0 y2 ⋯ ⋯ rfl rfl)
  ·exact ot (a1:=gI a 2) (a2:=gI a 0) (b1:=gI b 2) (b2:=gI b 0) λy1 y2 h1 h2=>(λz:_/\_/\_/\_=>⟨z.2.2.1,z.1⟩) (U' y2 0 y1 0 ⋯ ⋯ rfl rfl)
  ·exact ot (a1:=gI a 0) (a2:=gI a 1) (b1:=gI b 0) (b2:=gI b 1) λy1 y2 h1 h2=>(λz:_/\_/\_/\_=>⟨z.1,z.2.1⟩) (U' y1 y2 0 0 ⋯ ⋯ rfl rfl)
 rcases HS (n:=4) (D:=λi j=>gI (dl a b i) j) (x:=gI x) (h:=2*t*t) dB rel hn (λi j hi hj=>by have:=bd i j hi hj;lia) (show u<4 by lia) hv hD hx with z|⟨ε,j,hε,hj,h1,i,hi,hp⟩
 ·exact .inl z
 ·refine .inr (Lies.of (e:=dl a b j) ?_ (λz hz=>?_) hε (λi hi=>bd j i hj hi) hi hp h1)
  ·rcases yq hj with rfl|rfl|rfl|rfl<;>rfl
  ·have ld:(dl a b j).length=4:=by rcases yq hj with rfl|rfl|rfl|rfl<;>rfl
   have JI:z=a\/z=b:=by simpa using hz
   have lz:z.length=4:=by rcases JI with e|e<;>rw[e]<;>assumption
   have key:∀w:List Int,(w=a\/w=b)->gI w 0*gI (dl a b j) 0+gI w 1*gI (dl a b j) 1+gI w 2*gI (dl a b j) 2+gI w 3*gI (dl a b j) 3=0:=λw hw=>by
    rcases yq hj with rfl|rfl|rfl|rfl
    ·show gI w 0*0+gI w 1*p2 a b 2 3+gI w 2*p2 a b 3 1+gI w 3*p2 a b 1 2=0;unfold p2;rcases hw with rfl|rfl<;>grind
    ·show gI w 0*p2 a b 3 2+gI w 1*0+gI w 2*p2 a b 0 3+gI w 3*p2 a b 2 0=0;unfold p2;rcases hw with rfl|rfl<;>grind
    ·show gI w 0*p2 a b 1 3+gI w 1*p2 a b 3 0+gI w 2*0+gI w 3*p2 a b 0 1=0;unfold p2;rcases hw with rfl|rfl<;>grind
    ·show gI w 0*p2 a b 2 1+gI w 1*p2 a b 0 2+gI w 2*p2 a b 1 0+gI w 3*0=0;unfold p2;rcases hw with rfl|rfl<;>grind
   rw[dU lz ld];exact key z JI
theorem xa{a1 a2 a3 b1 b2 b3 c1 c2 c3 t:Int}(ha:(a1.natAbs:Int)<=t/\(a2.natAbs:Int)<=t/\(a3.natAbs:Int)<=t)(hb:(b1.natAbs:Int)<=t/\(b2.natAbs:Int)<=t/\(b3.natAbs:Int)<=t)(hc:(c1.natAbs:Int)<=t/\(c2.natAbs:Int)<=t/\(c3.natAbs:Int)<=t):
  ((lV a1 a2 a3 b1 b2 b3 c1 c2 c3).natAbs:Int)<=4*t*t*t:=by
 refine wt (tE ha hb hc) ?_;have:=tE (a1:= -a1) (a2:= -a2) (a3:= -a3) (by rw[Int.natAbs_neg,Int.natAbs_neg,Int.natAbs_neg];exact ha) hb hc;rwa [show lV (-a1) (-a2) (-a3) b1 b2 b3 c1 c2 c3= - lV a1 a2 a3 b1 b2 b3 c1 c2 c3 by unfold lV;grind]at this
noncomputable def d3(a b c:List Int)(i j k:Nat):Int:=lV (gI a i) (gI a j) (gI a k) (gI b i) (gI b j) (gI b k) (gI c i) (gI c j) (gI c k)
noncomputable def fh(a b c:List Int):List Int:=[d3 a b c 1 2 3,- d3 a b c 0 2 3,d3 a b c 0 1 3,- d3 a b c 0 1 2]
theorem Hm(la:a.length=4)(lb:b.length=4)(lc:c.length=4)(lx:x.length=4)(ha:∀i,i<4->((gI a i).natAbs:Int)<=t)(hb:∀i,i<4->((gI b i).natAbs:Int)<=t)(hc:∀i,i<4->((gI c i).natAbs:Int)<=t)(hn:∀i,i<4->0<=gI x i)(hk:k<4)
  (OT:∀z∈[a,b,c],aa z x=0) (U:∀y:List Int,y.length=4->(∀z∈[a,b,c],aa z y=0)->gI y k=0->∀i,i<4->gI y i=0) (hx:4*t*t*t<gI x k):Lies 4 [a,b,c] (4*t*t*t) x:=by
 have dE:∀i j k,i<4->j<4->k<4->((d3 a b c i j k).natAbs:Int)<=4*t*t*t:=λi j k hi hj hk=>xa ⟨ha i hi,ha j hj,ha k hk⟩ ⟨hb i hi,hb j hj,hb k hk⟩ ⟨hc i hi,hc j hj,hc k hk⟩
 have eE:∀i,i<4->((gI (fh a b c) i).natAbs:Int)<=4*t*t*t:=λi hi=>by
  rcases yq hi with rfl|rfl|rfl|rfl
  ·exact dE 1 2 3 (by decide) (by decide) (by decide)
  ·show ((- d3 a b c 0 2 3).natAbs:Int)<=_;rw[Int.natAbs_neg];exact dE 0 2 3 (by decide) (by decide) (by decide)
  ·exact dE 0 1 3 (by decide) (by decide) (by decide)
  ·show ((- d3 a b c 0 1 2).natAbs:Int)<=_;rw[Int.natAbs_neg];exact dE 0 1 2 (by decide) (by decide) (by decide)
 have ke:∀z∈[a,b,c],aa z (fh a b c)=0:=λz hz=>by
  have lz:z.length=4:=by simp only[Qi,Qj,T2]at hz;rcases hz with rfl|rfl|rfl<;>assumption
  rw[dU lz rfl];show gI z 0*d3 a b c 1 2 3+gI z 1 * - d3 a b c 0 2 3+gI z 2*d3 a b c 0 1 3+gI z 3 * - d3 a b c 0 1 2=0;unfold d3 lV;simp only[Qi,Qj,T2]at hz;rcases hz with rfl|rfl|rfl<;>grind
 have e0:gI (fh a b c) k≠0:=by
  have U':∀y0 y1 y2 y3:Int,gI a 0*y0+gI a 1*y1+gI a 2*y2+gI a 3*y3=0->gI b 0*y0+gI b 1*y1+gI b 2*y2+gI b 3*y3=0->gI c 0*y0+gI c 1*y1+gI c 2*y2+gI c 3*y3=0->gI [y0,y1,y2,y3] k=0->y0=0/\y1=0/\y2=0/\y3=0:=λy0 y1 y2 y3 h1 h2 h3 h4=>
   have q:=U [y0,y1,y2,y3] rfl (λz hz=>by
    simp only[Qi,Qj,T2]at hz;rcases hz with rfl|rfl|rfl
    ·rw[dU la rfl];exact h1
    ·rw[dU lb rfl];exact h2
    ·rw[dU lc rfl];exact h3) h4
   ⟨q 0 (by decide),q 1 (by decide),q 2 (by decide),q 3 (by decide)⟩
  rcases yq hk with rfl|rfl|rfl|rfl
  ·exact AO λy1 y2 y3 h1 h2 h3=>(U' 0 y1 y2 y3 ⋯ ⋯ ⋯ rfl).2
  ·exact λz=>AO (λy1 y2 y3 h1 h2 h3=>(λq:_/\_/\_/\_=>⟨q.1,q.2.2⟩) (U' y1 0 y2 y3 ⋯ ⋯ ⋯ rfl)) (Int.neg_eq_zero.mp z)
  ·exact AO λy1 y2 y3 h1 h2 h3=>(λq:_/\_/\_/\_=>⟨q.1,q.2.1,q.2.2.2⟩) (U' y1 y2 0 y3 ⋯ ⋯ ⋯ rfl)
  ·exact λz=>AO (λy1 y2 y3 h1 h2 h3=>(λq:_/\_/\_/\_=>⟨q.1,q.2.1,q.2.2.1⟩) (U' y1 y2 y3 0 ⋯ ⋯ ⋯ rfl)) (Int.neg_eq_zero.mp z)
 have z0:∀j,j<4->gI x j*gI (fh a b c) k-gI x k*gI (fh a b c) j=0:=λj hj=>by
  have ql:∀w:Nat->Int,∀i,i<4->gI [w 0,w 1,w 2,w 3] i=w i:=λw i hi=>by rcases yq hi with rfl|rfl|rfl|rfl<;>rfl
  have:=U [gI x 0*gI (fh a b c) k-gI x k*gI (fh a b c) 0,gI x 1*gI (fh a b c) k-gI x k*gI (fh a b c) 1,gI x 2*gI (fh a b c) k-gI x k*gI (fh a b c) 2,gI x 3*gI (fh a b c) k-gI x k*gI (fh a b c) 3] rfl (λz hz=>by
   have lz:z.length=4:=by simp only[Qi,Qj,T2]at hz;rcases hz with rfl|rfl|rfl<;>assumption
   have h1:=OT z hz;have h2:=ke z hz;rw[dU lz lx]at h1;rw[dU lz rfl]at h2 ⊢;generalize fh a b c=e at h2 ⊢;show gI z 0*(gI x 0*gI e k-gI x k*gI e 0)+gI z 1*(gI x 1*gI e k-gI x k*gI e 1)+gI z 2*(gI x 2*gI e k-gI x k*gI e 2)+gI z 3*(gI x 3*gI e k-gI x k*gI e 3)=0
   grind) (by rw[ql (λi=>gI x i*gI (fh a b c) k-gI x k*gI (fh a b c) i) k hk];exact Rp _) j hj
  rwa [ql (λi=>gI x i*gI (fh a b c) k-gI x k*gI (fh a b c) i) j hj]at this
 obtain⟨ε,hε,hp,h⟩:=line (e:=gI (fh a b c)) (x:=gI x) (c:=0) hk e0 (eE k hk) hn (λj hj=>by rw[z0 j hj];decide) ⋯;exact Lies.of (e:=fh a b c) rfl ke hε eE hk hp h
end
section
variable{m:Nat}{M:List (List Int)}{r x:List Int}{k:Nat}
theorem mQ{B:List (List Int)}{g:Int}(hk:k<m)(lB:∀b∈B,b.length=m)(h0:∀b∈B,gI b k=0)(hg:1<=g)(hn:∀i,i<m->0<=gI x i)(hx:1<=gI x k):Lies m B g x:=by
 refine⟨unit m k,qF m k,λb hb=>by rw[mX (lB b hb) hk,h0 b hb],λi hi=>?_,k,hk,?_⟩
 ·have:=hn i hi;rw[kh hk];split
  ·rename_i e;subst e;lia
  ·lia
 ·rw[kh hk,TN rfl];decide
theorem vB{a:List Int}{t G:Int}(la:a.length=m)(lx:x.length=m)(ht:∀z∈a,(z.natAbs:Int)<=t)(hn:∀i,i<m->0<=gI x i)(hG:((aa a x).natAbs:Int)<=G)(hk:k<m)(t1:1<=t)(hx:G+((m-1:Nat):Int)*t<gI x k)(hm:2<=m):Lies m [a] (((m-1:Nat):Int)*t) x:=by
 have AE:t<=((m-1:Nat):Int)*t:=by
  have:(1:Int)*t<=((m-1:Nat):Int)*t:=Ri ⋯ ⋯
  lia
 by_cases h0:gI a k=0
 ·exact mQ hk (by simp[la]) (by simp[h0]) ⋯ hn ⋯
 obtain⟨j,hj,cM,JE,Ng⟩:=Bw la lx hn ht hG rfl hk h0 hx;have aj:=ht _ (dO (by lia:j<a.length));have ai:=ht _ (dO (by lia:k<a.length));have j0:gI a j≠0:=λz=>by rw[z,Rk]at JE;lia
 refine⟨((List.replicate m 0).set k ((gI a j).natAbs:Int)).set j ((gI a k).natAbs:Int),by simp,λb hb=>?_,λi hi=>?_,k,hk,?_⟩
 ·rw[QE]at hb;rw[hb,gM la hj _ (by simp),gM la hk _ (by simp),gL,bf cM,cA,cA];have:=vI JE
  grind
 ·have:=hn i hi;by_cases e1:i=j
  ·rw[e1,bt (by simpa using hj)];lia
  ·rw[bf e1];by_cases e2:i=k
   ·rw[e2,bt (by simpa using hk)];lia
   ·rw[bf e2,cA];lia
 ·rw[bf (Tn cM),bt (by simpa using hk)];lia
theorem E7{l:List Nat}(h:l.length=2):∃u v,l=[u,v]:=by
 match l with
 |[u,v]=>exact⟨u,v,rfl⟩
theorem uU(E:gX m M r)(h:bz m M r≠[]):1<=dZ M:=by
 obtain⟨q,hq⟩:=RT _ h;have hp:=(E.sq.st.pl q hq).1;rcases aF (dZ M) 1 with w|w
 ·exfalso;have hz:Ft m M (unit m q.1):=⟨qF _ _,λb hb=>by
   rw[mX (E.wd b hb) hp];have:=sF hb (dO (l:=b) (p:=q.1) (by rw[E.wd b hb];exact hp))
   lia⟩
  have:=pR E hz (λi hi=>by
   rw[kh hp,TM];intro e;exact(cG.mp hi).2 (e▸QF.mpr ⟨q,hq,rfl⟩)) q.1 hp
  rw[kh hp,TN rfl]at this;cases this
 ·exact w
theorem Lies.OG{B:List (List Int)}{g:Int}(h:Lies m B g x)(hB:∀y,y.length=m->(∀b∈B,aa b y=0)->Ft m M y):∃y,Ft m M y/\(∀i,i<m->0<=gI y i/\gI y i<=gI x i/\gI y i<=g)/\∃i,i<m/\0<gI y i:=by obtain⟨y,h1,h2,h3,h4⟩:=h;exact⟨y,hB y h1 h2,h3,h4⟩
theorem Lies.up{B:List (List Int)}{g g':Int}(h:Lies m B g x)(hg:g<=g'):Lies m B g' x:=by obtain⟨y,h1,h2,h3,h4⟩:=h;exact⟨y,h1,h2,λi hi=>⟨(h3 i hi).1,(h3 i hi).2.1,Int.le_trans (h3 i hi).2.2 hg⟩,h4⟩
theorem under(E:gX m M r)(lx:x.length=m)(hn:∀i,i<m->0<=gI x i)(hs:bH M r x)(hk:k∈bq m (bz m M r))(hb:fW m M r<gI x k)(h4:m=4->(bz m M r).length≠1->∀q∈M,aa q x=0):
  ∃y,Ft m M y/\(∀i,i<m->0<=gI y i/\gI y i<=gI x i/\gI y i<=kL (bz m M r).length (bq m (bz m M r)).length (dZ M) 0)/\∃i,i<m/\0<gI y i:=by
 obtain⟨B,b1,b2,b3,b4⟩:=base E;refine Lies.OG ?_ b4;have lB:∀b∈B,b.length=m:=λb hb=>E.wd b (b2 b hb)
 have zJ:=kI (p:=0) E.sq;have f1:1<=(bq m (bz m M r)).length:=List.length_pos_of_mem hk;have km:=(cG.mp hk).1;have t1:B≠[]->1<=dZ M:=λcM=>uU E λe=>cM (List.length_eq_zero_iff.mp (by rw[b1,e];rfl))
 have eB:∀b∈B,∀z∈b,(z.natAbs:Int)<=dZ M:=λb hb z hz=>sF (b2 b hb) hz
 have eG:∀b∈B,∀i,i<m->((gI b i).natAbs:Int)<=dZ M:=λb hb i hi=>eB b hb _ (dO (by rw[lB b hb];exact hi))
 have U:∀y,y.length=m->(∀b∈B,aa b y=0)->(∀i∈bq m (bz m M r),gI y i=0)->∀i,i<m->gI y i=0:=λy hy h1 h2=>pR E (b4 y hy h1) h2
 have GE:=(iS E.rb).1;have one:(bq m (bz m M r)).length=1->∀i∈bq m (bz m M r),i=k:=λh i hi=>by obtain⟨z,hz⟩:=List.length_eq_one_iff.mp h;rw[hz,QE]at hi hk;rw[hi,hk]
 unfold fW at hb;have Kl:∀b∈B,((aa b x).natAbs:Int)<=dQ r:=λb hb=>b3 b hb x lx hs
 have Lp:m=4->(bz m M r).length≠1->∀b∈B,aa b x=0:=λe h b hb=>h4 e h b (b2 b hb)
 have Cp:(bq m (bz m M r)).Pairwise (· < ·):=List.pairwise_lt_range.filter _;have cK:∀i∈bq m (bz m M r),i<m:=λi hi=>(cG.mp hi).1
 rw[<-b1]at zJ hb Lp ⊢;generalize bq m (bz m M r)=FR at *;generalize dZ M=t at *;generalize dQ r=G at *;have m4:=E.m4;clear b1 b2 b3 b4 h4 hs E
 match B with
 |[]=>have hb:(1:Int)<gI x k:=hb;exact mQ km lB (by simp) (show (1:Int)<=1 by decide) hn ⋯
 |[a]=>
  have hf:FR.length=m-1:=by simp at zJ;lia
  rw[hf]at hb ⊢;have hb:1*(G+((m-1:Nat):Int)*t)<gI x k:=hb;show Lies m [a] (1*(0+((m-1:Nat):Int)*t)) x;rw[Int.one_mul]at hb ⊢;rw[Rt];exact vB (lB a (by simp)) lx (eB a (by simp)) hn (Kl a (by simp)) km (t1 (by simp)) hb ⋯
 |[a,b]=>
  have hm:(m=3/\FR.length=1)\/(m=4/\FR.length=2):=by simp at zJ;lia
  rcases hm with ⟨rfl,hf⟩|⟨rfl,hf⟩
  ·rw[hf]at hb ⊢;have hb:2*t*(G+1*t)<gI x k:=hb;show Lies 3 [a,b] (2*t*(0+1*t)) x;rw[Int.one_mul]at hb ⊢;rw[Rt];exact Hl (lB a (by simp)) (lB b (by simp)) lx (eG a (by simp)) (eG b (by simp)) hn (Kl a (by simp)) (Kl b (by simp)) km (λy hy h1 h2 h3=>U y hy (by simp[h1,h2]) λi hi=>by rw[one hf i hi];exact h3) hb
  ·rw[hf]at hb ⊢;have hb:2*t*(G+2*t)<gI x k:=hb;show Lies 4 [a,b] (2*t*(0+2*t)) x;have t0:=t1 (by simp);have tt:0<=2*t*t:=Rj ⋯ ⋯;have e1:2*t*(0+2*t)=2*(2*t*t):=by grind
   have e2:2*t*(G+2*t)=2*t*G+2*(2*t*t):=by grind
   have tG:0<=2*t*G:=Rj ⋯ GE;obtain⟨u,v,hz⟩:=E7 hf;have hx:=Lp rfl (by simp);rw[hz]at Cp hk;have DD:u<v:=by simpa using Cp
   have hv:v<4:=cK v (by rw[hz];simp);rcases Eu (lB a (by simp)) (lB b (by simp)) lx (eG a (by simp)) (eG b (by simp)) hn (hx a (by simp)) (hx b (by simp)) DD hv (by
    simp only[Qi,Qj,T2]at hk;rcases hk with rfl|rfl
    ·exact .inl ⋯
    ·exact .inr ⋯) (λy hy h1 h2 h3 h4=>U y hy (by simp[h1,h2]) λi hi=>by
     rw[hz]at hi;simp only[Qi,Qj,T2]at hi;rcases hi with rfl|rfl<;>assumption)with w|w
   ·have:=w k km;lia
   ·exact w.up ⋯
 |[a,b,c]=>
  have hm:m=4/\FR.length=1:=by simp at zJ;lia
  obtain⟨rfl,hf⟩:=hm;rw[hf]at hb ⊢;have hb:4*t*t*(G+1*t)<gI x k:=hb;show Lies 4 [a,b,c] (4*t*t*(0+1*t)) x;have t0:=t1 (by simp);have e1:4*t*t*(0+1*t)=4*t*t*t:=by grind
  have e2:4*t*t*(G+1*t)=4*t*t*t+4*t*t*G:=by grind
  have tG:0<=4*t*t*G:=Rj (Rj ⋯ ⋯) GE;rw[e1];exact Hm (lB a (by simp)) (lB b (by simp)) (lB c (by simp)) lx (eG a (by simp)) (eG b (by simp)) (eG c (by simp)) hn km (Lp rfl (by simp)) (λy hy h1 h2=>U y hy h1 λi hi=>by rw[one hf i hi];exact h2) ⋯
 |a::b::c::d::R=>simp at zJ;lia
end
section
variable{m:Nat}{M:List (List Int)}{r x:List Int}
theorem oB{y:List Int}{F:List (List Int)}(hF:∀f∈F,f.length=m)(ly:y.length=m)(lx:x.length=m)(h:br y F=true)(hu:d4 y x=true):br x F=true:=by obtain⟨f,hf,k⟩:=QH.mp h;exact QH.mpr ⟨f,hf,vX (by rw[hF f hf,ly]) (by rw[ly,lx]) k hu⟩
theorem eX(E:gX m M (zeros M.length)):∀f∈cq m M,f∈dY m M (zeros M.length)/\0<f.sum:=λf hf=>by
 rcases mN hf with h|⟨h1,h2⟩
 ·cases h
 ·exact⟨oJ.mp h1,h2⟩
theorem full(E:gX m M (zeros M.length))(lx:x.length=m)(hn:∀i,i<m->0<=gI x i)(hs:∀q∈M,aa q x=0)(hp:∃i,i<m/\0<gI x i):br x (cq m M)=true:=by
 have tell:∀y:List Int,y.length=m->(∀i,i<m->0<=gI y i)->(∀q∈M,aa q y=0)->(∃i,i<m/\0<gI y i)->(∀i∈bq m (bz m M (zeros M.length)),gI y i<=fW m M (zeros M.length))->br y (cq m M)=true:=λy ly h1 h2 h3 h4=>
  mO (F:=[]) (oJ.mpr ((bK E).mpr ⟨ly,h1,dg.mpr h2,h4⟩)) (uP (by rw[ly];exact h1) (by rw[ly];exact h3))
 by_cases hall:∀i∈bq m (bz m M (zeros M.length)),gI x i<=fW m M (zeros M.length)
 ·exact tell x lx hn hs hp hall
 ·obtain⟨k,hk,hb⟩:∃k∈bq m (bz m M (zeros M.length)),fW m M (zeros M.length)<gI x k:=Q7 λhc=>hall λi hi=>by
   rcases aF (fW m M (zeros M.length)) (gI x i)with z|z
   ·exact absurd ⟨i,hi,z⟩ hc
   ·exact z
  obtain⟨y,⟨ly,hy⟩,h1,h2⟩:=under E lx hn (dg.mpr hs) hk hb λ_ _=>hs
  refine oB (λf hf=>((bK E).mp (eX E f hf).1).1) ly lx (tell y ly (λi hi=>(h1 i hi).1) hy h2 λi hi=>?_) ((cg (by rw[ly,lx])).mpr λi hi=>(h1 i ⋯).2.1);unfold fW;rw[vn];exact(h1 i (cG.mp hi).1).2.2
theorem yx{l:List Int}{t:Nat}{k:Nat}(ll:l.length=m)(lx:x.length=m)(hk:k<m)(ht:∀z∈l,z.natAbs<=t)(hn:∀i,i<m->0<=gI x i):((aa l x-gI l k*gI x k).natAbs:Int)<=t*(x.sum-gI x k):=by
 have ps:=gM (v:=0) ll hk x lx;have pa:=qj (t:=t) (l:=l) (x:=x.set k 0) ht (λj hj=>by
  rw[Sf,lx]at hj;by_cases e:j=k
  ·rw[e,bt ⋯];lia
  ·rw[bf e];exact hn j hj) (by rw[Sf,lx,ll];lia)
 rw[ps,sum_set ⋯]at pa;rwa [show aa l x-gI l k*gI x k=aa l x+gI l k*(0-gI x k) by grind,show x.sum-gI x k=x.sum+(0-gI x k) by lia]
theorem small(E:gX m M r)(lx:x.length=m)(hn:∀i,i<m->0<=gI x i)(hs:bH M r x)(hT:x.sum<=([0,30,20,10,7]:List Int).getD m 0)(FE:br x (cq m M)=false):x∈dY m M r:=by
 refine(bK E).mpr ⟨lx,hn,hs,λk hk=>?_⟩;rcases aF (fW m M r) (gI x k)with hb|hb
 ·exfalso;have km:=(cG.mp hk).1;have b0:=E.Kn;have E0:=E.zero;by_cases hz:∀q∈M,aa q x=0
  ·rw[full E0 lx hn hz ⟨k,km,by lia⟩]at FE;cases FE
  ·by_cases h4:m=4->(bz m M r).length=1
   ·obtain⟨y,⟨ly,hy⟩,h1,h2⟩:=under E lx hn hs hk hb λe ne=>absurd (h4 e) ne
    rw[oB (λf hf=>((bK E0).mp (eX E0 f hf).1).1) ly lx (full E0 ly (λi hi=>(h1 i hi).1) hy h2) ((cg (by rw[ly,lx])).mpr λi hi=>(h1 i ⋯).2.1)]at FE;cases FE
   ·have e4:m=4:=Q7 λw=>h4 λz=>absurd z w
    subst e4;have ne1:(bz 4 M r).length≠1:=λz=>h4 λ_=>z
    obtain⟨B,b1,b2,b3,b4⟩:=base E;obtain⟨q,hq,cM⟩:∃q∈M,aa q x≠0:=Q7 λw=>hz λq hq=>Q7 λz=>w ⟨q,hq,z⟩
    have LC:(bz 4 M r)≠[]:=λz=>by have:B=[]:=List.length_eq_zero_iff.mp (by rw[b1,z];rfl);subst this;exact hz (b4 x lx (by simp)).2
    have t1:=uU E LC;have t3:dZ M<=3:=sG (λq hq z hz=>by have:=E.bd q hq z hz;lia) (by decide);have zJ:=kI (p:=0) E.sq;have f1:1<=(bq 4 (bz 4 M r)).length:=List.length_pos_of_mem hk;have r0:1<=(bz 4 M r).length:=List.length_pos_iff.mpr LC;have G1:∀q∈M,((aa q x).natAbs:Int)<=dQ r:=λq hq=>by
     obtain⟨i,hi,e⟩:=List.mem_iff_getElem.mp hq;have hr:i<r.length:=by rw[E.rl];exact hi
     have hz:(q,r[i])∈M.zip r:=Su.mpr ⟨i,by rw[List.getElem?_zip_eq_some];exact⟨by rw[Qu hi,e],Qu hr⟩⟩;rw[hs _ hz];exact oy (QF.mpr ⟨r[i],R6 hr,rfl⟩)
    have hT:x.sum<=7:=hT;have hr:=yx (t:=(dZ M).toNat) (E.wd q hq) lx km (λz hz=>by have:=sF hq hz;lia) hn;have hG:=G1 q hq;rw[show (((dZ M).toNat:Nat):Int)=dZ M by lia]at hr;have rest:gI x k<=x.sum:=by
     rcases aF x.sum (gI x k)with w|w
     ·have:=Int.mul_neg_of_pos_of_neg (show 0<dZ M by lia) (show x.sum-gI x k<0 by lia)
      lia
     ·exact w
    unfold fW at hb;generalize dZ M=t at *;generalize dQ r=G at *;generalize (bq 4 (bz 4 M r)).length=f at *;generalize (bz 4 M r).length=s at *;rcases (show (s=2/\f=2)\/(s=3/\f=1) by lia)with ⟨rfl,rfl⟩|⟨rfl,rfl⟩<;>rcases (show t=1\/t=2\/t=3 by lia)with rfl|rfl|rfl
    ·have hb:2*1*(G+2*1)<gI x k:=hb;have xk:gI x k=7:=⋯
     rw[xk]at hr
     lia
    ·have hb:2*2*(G+2*2)<gI x k:=hb
     lia
    ·have hb:2*3*(G+2*3)<gI x k:=hb
     lia
    ·have hb:4*1*1*(G+1*1)<gI x k:=hb
     lia
    ·have hb:4*2*2*(G+1*2)<gI x k:=hb
     lia
    ·have hb:4*3*3*(G+1*3)<gI x k:=hb
     lia
 ·exact hb
noncomputable def d8(m:Nat)(M:List (List Int))(r:List Int):List (List Int):=fP ((dY m M r).filter λx=> !br x (cq m M))
theorem i4(E:gX m M r):x∈d8 m M r↔x∈dY m M r/\br x (cq m M)=false:=by unfold d8;rw[oJ,So,Q3]
noncomputable def gz(a b:List Int):List Int:=List.zipWith (· - ·) a b
theorem sD:∀{a b:List Int}{i:Nat},a.length=b.length->gI (gz a b) i=gI a i-gI b i
 |[],[],i,_=>by simp[gz,gI]
 |x::a,y::b,0,_=>rfl
 |x::a,y::b,i+1,h=>by show gI ((x-y)::gz a b) (i+1)=_;rw[aA,aA,aA];exact sD (by simpa using h)
theorem uQ:∀{a b:List Int},a.length=b.length->(gz a b).sum=a.sum-b.sum
 |[],[],_=>rfl
 |x::a,y::b,h=>by
  show ((x-y)::gz a b).sum=_;rw[SL,SL,SL,uQ (by simpa using h)]
  lia
theorem lu:∀{l a b:List Int},a.length=b.length->aa l (gz a b)=aa l a-aa l b
 |[],_,_,_=>by rw[cT,cT,cT];rfl
 |q::l,[],[],_=>by show aa (q::l) []=_;rw[iC];rfl
 |q::l,x::a,y::b,h=>by
  show aa (q::l) ((x-y)::gz a b)=_;rw[ay,ay,ay,lu (by simpa using h)]
  grind
theorem yD(E:gX m M r){a b:List Int}(la:a.length=m)(lb:b.length=m)(ha:bH M r a)(hb:bH M r b)(hu:d4 a b=true)(cM:a≠b):br b (cq m M)=true\/∃i,i<m/\gI a i<0:=by
 by_cases hn:∃i,i<m/\gI a i<0
 ·exact .inr hn
 have ls:(gz b a).length=m:=by simp[gz,la,lb]
 have hle:=(cg (by rw[la,lb])).mp hu;have e:∀i,gI (gz b a) i=gI b i-gI a i:=λi=>sD (by rw[la,lb])
 refine .inl (oB (y:=gz b a) (λf hf=>((bK E.zero).mp (eX E.zero f hf).1).1) ls lb (full E.zero ls (λi hi=>by rw[e];have:=hle i ⋯;lia) (λq hq=>?_) ?_) ((cg (by rw[ls,lb])).mpr λi hi=>?_))
 ·obtain⟨i,hi,eq⟩:=List.mem_iff_getElem.mp hq;have hr:i<r.length:=by rw[E.rl];exact hi
  have hz:(q,r[i])∈M.zip r:=Su.mpr ⟨i,by rw[List.getElem?_zip_eq_some];exact⟨by rw[Qu hi,eq],Qu hr⟩⟩;rw[lu (by rw[la,lb]),ha _ hz,hb _ hz];exact Rp _
 ·refine Q7 λw=>cM (jo (by rw[la,lb]) λi hi=>?_)
  have h1:=hle i hi;have:¬0<gI (gz b a) i:=λz=>w ⟨i,by lia,z⟩
  rw[e]at this
  lia
 ·rw[e];have:¬gI a i<0:=λz=>hn ⟨i,by lia,z⟩
  lia
theorem kS(E:gX m M r):∀(n:Nat){x:List Int},x.sum.toNat<n->x.length=m->(∀i,i<m->0<=gI x i)->bH M r x->x.sum<=([0,30,20,10,7]:List Int).getD m 0->br x (d8 m M r)=true
 |0,_,h,_,_,_,_=>by lia
 |n+1,x,h,lx,hn,hs,hT=>by
  cases ho:br x (cq m M) with
  |false=>exact QH.mpr ⟨x,(i4 E).mpr ⟨small E lx hn hs hT ho,ho⟩,lO x⟩
  |true=>
   obtain⟨f,hf,hu⟩:=QH.mp ho;obtain⟨f1,f2⟩:=eX E.zero f hf;obtain⟨lf,nf,sf,_⟩:=(bK E.zero).mp f1;have hle:=(cg (by rw[lf,lx])).mp hu;have ls:(gz x f).length=m:=by simp[gz,lf,lx]
   have e:∀i,gI (gz x f) i=gI x i-gI f i:=λi=>sD (by rw[lf,lx])
   have sm:(gz x f).sum=x.sum-f.sum:=uQ (by rw[lf,lx]);have s0:0<=(gz x f).sum:=E3 λz hz=>by obtain⟨i,hi,rfl⟩:=nX hz;rw[e];have:=hle i ⋯;lia
   refine oB (m:=m) (λg hg=>((bK E).mp ((i4 E).mp hg).1).1) ls lx (kS E n ⋯ ls (λi hi=>?_) (λq hq=>?_) ⋯) ((cg (by rw[ls,lx])).mpr λi hi=>?_)
   ·rw[e];have:=hle i ⋯;lia
   ·rw[lu (by rw[lf,lx]),hs q hq,dg.mp sf _ (SA hq).1,Rq]
   ·rw[e];have:=nf i ⋯;lia
theorem ny{g m:Nat}{F0:List Nat}:∀{FR:List Nat}{Q:List (List Int)},FR.Nodup->(∀p∈FR,p∈F0/\p<m)->(∀q∈Q,q.length=m)->Q.Pairwise (λa b=>∃i,i∈F0/\i∉FR/\gI a i≠gI b i)->(dz g FR Q).Pairwise λa b=>∃i,i∈F0/\gI a i≠gI b i
 |[],Q,_,_,_,h=>h.imp λ⟨i,h1,_,h2⟩=>⟨i,h1,h2⟩
 |p::FR,Q,nd,hF,hl,h=>by
  obtain⟨n1,n2⟩:=Sz.mp nd;obtain⟨p0,pm⟩:=hF p Qc;show (dz g FR (zt g p Q)).Pairwise _;refine ny n2 (λz hz=>hF z (P9 _ hz)) (λq hq=>?_) ?_
  ·obtain⟨q',k1,k2⟩:=Ss.mp hq;obtain⟨n,_,rfl⟩:=QF.mp k2;rw[Sf];exact hl q' k1
  ·unfold zt;refine List.pairwise_flatMap.mpr ⟨λq hq=>?_,?_⟩
   ·rw[SE];exact List.pairwise_lt_range.imp λ {a b} fS=>⟨p,p0,n1,by rw[bt (by rw[hl q hq];exact pm),bt (by rw[hl q hq];exact pm)];lia⟩
   ·refine h.imp λ {a b} fS x hx y hy=>?_
    obtain⟨i,i1,i2,i3⟩:=fS;obtain⟨_,_,rfl⟩:=QF.mp hx;obtain⟨_,_,rfl⟩:=QF.mp hy;have M5:i≠p:=λz=>i2 (z▸Qc)
    exact⟨i,i1,λz=>i2 (P9 _ z),by rw[bf M5,bf M5];exact i3⟩
theorem y9(E:gX m M r):(dY m M r).Pairwise (· ≠ ·):=by
 unfold dY;split
 ·exact List.Pairwise.nil
 ·unfold vR;have lw:∀q∈dz (fW m M r).toNat (bq m (bz m M r)) [List.replicate m 0],q.length=m:=λq hq=>by obtain⟨q',k1,k2,_⟩:=gr.mp hq;rw[QE]at k1;rw[k2,k1,Se]
  have hF:∀p∈bq m (bz m M r),p∈bq m (bz m M r)/\p<m:=λp hp=>⟨hp,(cG.mp hp).1⟩
  have nd:(bq m (bz m M r)).Nodup:=List.nodup_range.filter _;have w:=ny (g:=(fW m M r).toNat) (Q:=[List.replicate m 0]) nd hF (by simp) (by simp);rw[List.pairwise_filterMap];refine List.Pairwise.imp_of_mem (λ {a b} ha hb fS x hx y hy e=>?_) w;obtain⟨i,i1,i2⟩:=fS;obtain⟨im,ip⟩:=cG.mp i1;have pl:∀q:List Int,q.length=m->∀z∈bz m M r,z.1<q.length/\gI z.2 z.1≠0:=λq lq z hz=>⟨by rw[lq];exact(E.sq.st.pl z hz).1,(E.sq.st.pl z hz).2.2⟩
  have la:=lw a ha;have lb:=lw b hb;have h1:=((fY E.sq.st.nd (pl a la)).mp hx).2.1 i ⋯ ip;have h2:=((fY E.sq.st.nd (pl b lb)).mp hy).2.1 i ⋯ ip;rw[<-e]at h2;exact i2 (h1.symm.trans h2)
theorem ze(Q:List (List Int)):(fP Q).Perm Q:=by unfold fP;have:=(fK (Q.map dI)).map E8;rwa [Sl,show (E8 ∘ dI:List Int->List Int)=id from funext nq,List.map_id]at this
theorem iY(E:gX m M r)(h:x∈d8 m M r):x.length=m/\(∀i,i<m->0<=gI x i)/\bH M r x/\br x (cq m M)=false:=by obtain⟨h1,h2⟩:=(i4 E).mp h;obtain⟨k1,k2,k3,_⟩:=(bK E).mp h1;exact⟨k1,k2,k3,h2⟩
theorem jH(E:gX m M r):(d8 m M r).Pairwise Fu:=by
 have nd:(d8 m M r).Pairwise (· ≠ ·):=(ze _).nodup_iff.mpr ((y9 E).filter _);refine List.Pairwise.imp_of_mem (λ {a b} ha hb h=>?_) ((su _).and nd);obtain⟨h1,h2⟩:=h;obtain⟨la,na,sa,oa⟩:=iY E ha;obtain⟨lb,nb,sb,ob⟩:=iY E hb;have no:∀{c d:List Int},c.length=m->d.length=m->(∀i,i<m->0<=gI c i)->bH M r c->bH M r d->br d (cq m M)=false->c≠d->d4 c d=false:=λ {c d} lc ld nc sc sd od cM=>by
  cases hu:d4 c d with
  |false=>rfl
  |true=>
   rcases yD E lc ld sc sd hu cM with z|⟨i,hi,z⟩
   ·rw[od]at z;cases z
   ·have:=nc i hi;lia
 refine⟨?_,no la lb na sa sb ob h2,no lb la nb sb sa oa (Tn h2)⟩;cases hl:ltI a b with
 |true=>rfl
 |false=>exact absurd (um (by rw[la,lb]) hl h1) h2
end
end Rx
end
section
namespace Rx
open PySem PySem.W PySem.Spec PyProof.Rows L2 PySem.SeqAt
theorem yZ{fs:List Fn}{n k:Nat}{g:Fn}{args:List Dt}{S:Sx}(h:fs[k]?=some g):aw fs (n+1) k args S=hJ (aw fs n) g args S:=by show (match fs[k]? with|some g=>hJ (aw fs n) g args S|none=>R.bad)=_;rw[h]
section
variable{g:G}{K:Frag}{mg:Str->Option Value}{P:Program}{w:World}{base:Heap}{fs:List Fn}
theorem rH{n L m:Nat}{params:Arguments}{body:List Stmt}{scope:Scope}{dV kV doc pm fR ct oc:Value}{an od:Option Addr}{uq:Array (Option Value)}{f:Addr}{N ps:List Str}{M:List Bool}{δ κ:Option Nat}{fF:Bool}{ts:Ts}
  {xv:Nat->Value} (hm:MG g mg) (AG:XG g K mg xv) (ok:o4 g K mg 0 g.fns fs) (lk:K.lookup f=some ⟨oc,od,.func (PySem.W.fnOf "law" "law" params body scope dV kV doc pm an fR ct),uq⟩) (zG:PySem.W.codeIn K fR "law"=true) (S:fy N ps scope)
  (hM:∀i,i<ps.length->M[i]?≠some true) (hp:ps.length=1) (hc:C4 m g ⟨scope.names,N,M,δ,κ⟩ false fF body=some ts) (hf:fs[L]?=some ⟨1,N.length,false,ts⟩)
  (hn:∀ns:List Int,ns.length<=63->∃S,aw fs (n+1) L [.cc ns] none= .ok (.bl true,S)):
  ji P w K mg base (vZ P w) (n+1) f (PySem.W.fnOf "law" "law" params body scope dV kV doc pm an fR ct) ps (uL K):=by
 have h:=mH (xv:=xv) (P:=P) (w:=w) (base:=base) lk zG S hm AG (lA (P:=P) (w:=w) (base:=base) (xv:=xv) hm AG ok n) hM (λz=>by cases z) hc;refine h.imp λvs H Q E q=>?_
 obtain⟨a,ns,rfl,hs,hl,hq⟩:=q;obtain⟨S',hS⟩:=hn ns hl;rw[yZ hf]at hS;rw[hp];refine⟨rfl,N0,none,[.cc ns],none,[.ref a],⟨rfl,rfl,rfl⟩,aq.cons ?_ aq.nil,λb z=>z.elim,?_⟩
 ·unfold RV;refine⟨a,rfl,?_⟩;rcases hs with hs|hs
  ·exact .inl ⟨hs,λz=>z⟩
  ·exact .inr hs
 ·rw[hS];intro v H' fo;rw[fo.val.az];exact hq H'
end
theorem walkR{l:PySem.W.OpenLaw}{q:Program}{k:Nat}{loose:List Str}{XP:(Str->Option Value)->Heap->Prop}{YP:World->Heap->Prop}{d:DefRec}{K:Params->PySem.W.Frag}(hn:l.most=some 63)(GU:d.params.defaults=[])(hr:iJ k callerA)
  (hY:∀(w:World)(h:Heap),YP w h->(K w.params).In h)
  (F:∀(w:World)(mg:Str->Option Value)(fa:Addr)(h:Heap),(K w.params).In h->h.Ns mainGlobals mg->mg d.name=some (.ref fa)->
   ∃fd:FuncData,(∀(s:Shared)(u:Value),BindsTo s fd ⟨[u],[]⟩ [("_law_script",u)])/\∀base:Heap,(K w.params).In base->base.Ns mainGlobals mg->ji l.prog w (K w.params) mg base (vZ l.prog w) k fa fd ["_law_script"] (uL (K w.params))):
  PySem.W.WalkO q loose XP YP l.row.toRowW d [] (λf vs=>PySem.call f vs):=
 L2.BJ (n:=63) (k:=k) (x:="_law_script") (CX:=λw=>vZ l.prog w) (sp:=λw=>uL (K w.params)) hn (by decide) GU hr hY F (λ_ _ a ns hl _ hS=>⟨a,ns,rfl,hS,hl,λ_=>rfl⟩) λ_ _ _ _ _ z=>z
structure Row where
 nm:Str
 s:Stmt
 ps:List Str
 ms:List Str:=[]
 dr:Option Str:=none
 dp:Bool:=false
 f7:List Dt:=[]
 dk:Option Str:=none
namespace Row
noncomputable def N(r:Row):List Str:=O4 (bJ r.s).names r.ps
noncomputable def gm(r:Row):Gm:=⟨(bJ r.s).names,r.N,FH r.N r.ms,if r.dp then some 0 else r.dr.bind (AL · r.N),r.dk.bind (AL · r.N)⟩
noncomputable def fn(g:G)(j:Nat)(r:Row):Option Fn:=(C4 60 g r.gm r.dp (g.fr j) (iP r.s)).map λts=>⟨r.ps.length,r.N.length,r.dp,ts⟩
noncomputable def ent(r:Row):Str×Nat×List Dt×Bool:=(r.nm,r.ps.length,r.f7,r.dp)
noncomputable def ok(r:Row):Bool:=
 ((bJ r.s).kind== .function)&& !(bJ r.s).isCoroutine&& !(bJ r.s).isGenerator&&decide r.N.Nodup&&decide (r.N.take r.ps.length=r.ps)&&
 (r.ps.all λx=>(bJ r.s).names.lookup x==some .local||(bJ r.s).names.lookup x==some .cell)&&((bJ r.s).names.all λy=>y.2 != .free)&&
 ((FH r.N r.ms).take r.ps.length).all (λb=> !b)&&r.f7.all oZ
theorem scope{r:Row}(h:r.ok=true):fy r.N r.ps (bJ r.s)/\(∀i,i<r.ps.length->(FH r.N r.ms)[i]?≠some true)/\r.f7.all oZ=true:=by
 unfold ok at h;simp only[P5]at h;obtain⟨⟨⟨⟨⟨⟨⟨⟨h1,h2⟩,h3⟩,h4⟩,h5⟩,h6⟩,h7⟩,h8⟩,h9⟩:=h;refine⟨⟨Qt h1,by simpa using h2,by simpa using h3,P7 h4,P7 h5,λx hx=>?_,λy hy e=>?_⟩,Hr h8,h9⟩
 ·have:=QG.mp h6 x hx;rcases Q5.mp this with z|z
  ·exact .inl (Qt z)
  ·exact .inr (Qt z)
 ·have:=QG.mp h7 y hy;rw[e]at this;cases this
end Row
noncomputable def pG(g:G):Nat->List Row->Option (List Fn)
 |_,[]=>some []
 |j,r::rs=>(r.fn g j).bind λf=>(pG g (j+1) rs).map (f:: ·)
noncomputable def Fd(K:Frag)(nm:Str)(s:Stmt)(ps:List Str)(f7:List Dt):Prop:=∃(fa:Addr)(oc dV kV doc pm fR ct:Value)(od an:Option Addr)(uq:Array (Option Value)),
 nsIn K mainGlobals nm=some (some (.ref fa))/\K.lookup fa=some ⟨oc,od,.func (fnOf nm nm (nQ s) (iP s) (bJ s) dV kV doc pm an fR ct),uq⟩/\codeIn K fR nm=true/\keepIn K (.ref fa)=true/\(f7=[]->dV= .none)/\
 ∀j,j<=f7.length->∃ds,au ((f7.drop j).map qP) ds/\Binds K (fnOf nm nm (nQ s) (iP s) (bJ s) dV kV doc pm an fR ct) ps ds
noncomputable def Jc(K:Frag):List Row->Prop
 |[]=>True
 |r::rs=>Fd K r.nm r.s r.ps r.f7/\Jc K rs
section
variable{g:G}{K:Frag}{mg:Str->Option Value}{h:Heap}{fs:List Fn}
theorem xB(X:K.In h)(Gs:h.Ns mainGlobals mg):∀{rs:List Row}{i:Nat}{fs:List Fn},rs.all Row.ok=true->pG g i rs=some fs->Jc K rs->o4 g K mg i (rs.map Row.ent) fs
 |[],i,fs,_,e,_=>by cases e;trivial
 |r::rs,i,fs,hk,e,F=>by rw[RD,P5]at hk;obtain⟨f,e1,e⟩:=PZ.mp e;obtain⟨KC,e2,rfl⟩:=Ql.mp e;obtain⟨ts,c1,rfl⟩:=Ql.mp e1;obtain⟨⟨fa,oc,dV,kV,doc,pm,fR,ct,od,an,uq,a,l,c,k,_,b⟩,F⟩:=F;obtain⟨s1,s2,s3⟩:=Row.scope hk.1;exact⟨⟨fa,r.ps,r.N,_,_,_,60,oc,od,an,uq,_,_,_,dV,kV,doc,pm,fR,ct,l,c,k,mg_of X Gs a,s1,s2,λz=>TN z,rfl,c1,rfl,rfl,rfl,b,s3⟩,xB X Gs hk.2 e2 F⟩
theorem Di{rs:List Row}:∀{L i:Nat}{fs:List Fn}{r:Row},pG g i rs=some fs->rs[L]?=some r->∃ts,C4 60 g r.gm r.dp (g.fr (i+L)) (iP r.s)=some ts/\fs[L]?=some ⟨r.ps.length,r.N.length,r.dp,ts⟩:=by
 induction rs with
 |nil=>intro L i fs r _ e;simp at e
 |cons r0 rs ih=>
  intro L i fs r e hr;obtain⟨f,e1,e⟩:=PZ.mp e;obtain⟨KC,e2,rfl⟩:=Ql.mp e;cases L with
  |zero=>cases hr;obtain⟨ts,c1,rfl⟩:=Ql.mp e1;exact⟨ts,c1,rfl⟩
  |succ L=>obtain⟨ts,c1,c2⟩:=ih e2 (by simpa using hr);exact⟨ts,by rw[show i+(L+1)=i+1+L by lia];exact c1,by simpa using c2⟩
theorem xt:∀{rs:List Row}{L:Nat}{r:Row},Jc K rs->rs[L]?=some r->Fd K r.nm r.s r.ps r.f7
 |[],L,r,_,e=>by simp at e
 |r0::rs,0,r,F,e=>by cases e;exact F.1
 |r0::rs,L+1,r,F,e=>xt F.2 (by simpa using e)
noncomputable def J8(K:Frag):List Str->Prop
 |[]=>True
 |x::xs=>nsIn K mainGlobals x=some none/\J8 K xs
noncomputable def J3(K:Frag):List (Str×Dt)->Prop
 |[]=>True
 |x::xs=>(∃u,nsIn K mainGlobals x.1=some (some u)/\oZ x.2=true/\RelV (qP x.2) u)/\J3 K xs
theorem yz{x:Str}:∀{xs:List Str},J8 K xs->x∈xs->nsIn K mainGlobals x=some none
 |y::xs,h,hx=>by
  rcases Qi.mp hx with rfl|hx
  ·exact h.1
  ·exact yz h.2 hx
theorem w5{x:Str}{d:Dt}:∀{xs:List (Str×Dt)},J3 K xs->xs.lookup x=some d->∃u,nsIn K mainGlobals x=some (some u)/\oZ d=true/\RelV (qP d) u
 |[],_,e=>by simp at e
 |y::xs,h,e=>by
  rw[Qw]at e;split at e
  ·rename_i q;cases e;rw[Qt q];exact h.1
  ·exact w5 h.2 e
noncomputable def MD(K:Frag)(xs:List (Str×List (Str×Bool))):Prop:=xs=[]
noncomputable def Jb(g:G)(mg:Str->Option Value)(k:Nat):Value:=((g.xs[k]?).bind λx=>mg x.1).getD .none
theorem Fq(X:K.In h)(Gs:h.Ns mainGlobals mg){xs:List (Str×List (Str×Bool))}{k:Nat}{x:Str}{ts:List (Str×Bool)}(hx:MD K xs)(e:xs[k]?=some (x,ts)):∃C,mg x=some (.ref C)/\Kd K mg C ts:=by rw[show xs=[] from hx]at e;cases e
theorem law_mk{l:OpenLaw}{w:World}{fa:Addr}{rs:List Row}{cons:List (Str×Dt)}{bls:List Str}{fr:Nat->Bool}{xs:List (Str×List (Str×Bool))}{L n:Nat}{sL:Stmt}{ms:List Str}{dr kd:Option Str}(X:K.In h)(Gs:h.Ns mainGlobals mg)(Ov:mg "law"=some (.ref fa))
  (hL:rs[L]?=some ⟨"law",sL,["_law_script"],ms,dr,false,[],kd⟩) (hk:rs.all Row.ok=true) (hfs:pG ⟨rs.map Row.ent,cons,bls,fr,xs⟩ 0 rs=some fs)
  (hb:∀(s:Shared)(v:Value)(kV doc pm fR ct:Value)(an:Option Addr),BindsTo s (fnOf "law" "law" (nQ sL) (iP sL) (bJ sL) .none kV doc pm an fR ct) ⟨[v],[]⟩ [("_law_script",v)])
  (hn:∀ns:List Int,ns.length<=63->∃S,aw fs (n+1) L [.cc ns] none= .ok (.bl true,S)) (B:J8 K bls) (C:J3 K cons) (F:Jc K rs) (E:MD K xs):
  ∃fd:FuncData,(∀(s:Shared)(v:Value),BindsTo s fd ⟨[v],[]⟩ [("_law_script",v)])/\∀base:Heap,K.In base->base.Ns mainGlobals mg->ji l.prog w K mg base (vZ l.prog w) (n+1) fa fd ["_law_script"] (uL K):=by
 have AG:XG ⟨rs.map Row.ent,cons,bls,fr,xs⟩ K mg (Jb ⟨rs.map Row.ent,cons,bls,fr,xs⟩ mg):=λk x ts e=>by obtain⟨C,h1,h2⟩:=Fq X Gs E e;have e:xs[k]?=some (x,ts):=e;exact⟨C,by simp[Jb,e,h1],h1,h2⟩
 have hm:MG ⟨rs.map Row.ent,cons,bls,fr,xs⟩ mg:=⟨λx d hx=>by
   obtain⟨u,k1,k2,k3⟩:=w5 C hx;exact⟨u,k2,mg_of X Gs k1,k3⟩,λx hx=>mg_none_of X Gs (yz B hx)⟩
 have ok:=xB (g:=⟨rs.map Row.ent,cons,bls,fr,xs⟩) X Gs hk hfs F;obtain⟨Pu,oc,dV,kV,doc,pm,fR,ct,od,an,uq,a,lk,c,k,hd,b⟩:=xt F hL;cases hd rfl;have e:=Ov.symm.trans (mg_of X Gs a);cases e;obtain⟨ts,c1,c2⟩:=Di hfs hL;have hok:=Row.scope (QG.mp hk _ (Su.mpr ⟨L,hL⟩));exact⟨_,λs v=>hb s v kV doc pm fR ct an,λbase _ _=>rH hm AG ok lk c hok.1 hok.2.1 rfl c1 c2 hn⟩
end
end Rx
end
section
namespace K24
open PySem PySem.W PySem.Spec PyProof.Rows L2 Mx Rx
noncomputable def top(i:Nat):Stmt:=PySem.Challenge.pw_mixform_k24_least_for_a_right.main.body.getD i (.Pass ⟨0,0,0,0⟩)
noncomputable abbrev rows:List Rx.Row:=[⟨"product",top 4,["one","other"],[],none,false,[],none⟩,
 ⟨"cleared",top 6,["row","place","by"],[],none,false,[],none⟩,
 ⟨"settled",top 7,["rows","many","right"],[],none,false,[],none⟩,
 ⟨"greatest",top 8,["rows","right","settled_many","free_many"],[],none,false,[],none⟩,
 ⟨"walked",top 9,["many","free","bound"],[],none,false,[],none⟩,
 ⟨"completed",top 10,["row","pairs"],["whole"],none,false,[],none⟩,
 ⟨"solutions",top 11,["rows","many","right"],[],none,false,[],none⟩,
 ⟨"check_bounds",top 17,["rows","many","right"],[],none,false,[],none⟩,
 ⟨"lies_under",top 18,["one","other"],[],none,false,[],none⟩,
 ⟨"lies_over",top 19,["row","found"],[],none,false,[],none⟩,
 ⟨"least",top 20,["rows","many"],["found"],none,false,[],none⟩,
 ⟨"least_to",top 21,["rows","many","right"],[],none,false,[],none⟩,
 ⟨"_law_cell",top 23,["_law_script","_law_k"],[],none,false,[],none⟩,
 ⟨"_law_pick",top 24,["_law_script","_law_k","_law_many"],[],none,false,[],none⟩,
 ⟨"_law_whole",top 25,["_law_found"],[],none,false,[],none⟩,
 ⟨"_law_weighed",top 26,["_law_line","_law_row"],[],none,false,[],none⟩,
 ⟨"_law_solves",top 27,["_law_rows_here","_law_row","_law_right_here"],[],none,false,[],none⟩,
 ⟨"_law_under",top 28,["_law_one","_law_other"],[],none,false,[],none⟩,
 ⟨"_law_any_under",top 29,["_law_rows_here","_law_row"],[],none,false,[],none⟩,
 ⟨"_law_up_to",top 30,["_law_many","_law_total"],[],none,false,[],none⟩,
 ⟨"_law_pairs",top 31,["_law_found","_law_total"],["_law_pairs_here"],none,false,[],none⟩,
 ⟨"_law_are_rows",top 32,["_law_found","_law_many"],[],none,false,[],none⟩,
 ⟨"_law_rows",top 33,["_law_script","_law_start","_law_many"],["_law_rows_here"],none,false,[],none⟩,
 ⟨"_law_right",top 34,["_law_script","_law_rows_here","_law_many"],["_law_right_here"],none,false,[],none⟩,
 ⟨"_law_good",top 35,["_law_found","_law_rows_here","_law_right_here","_law_many"],[],none,false,[],none⟩,
 ⟨"law",top 36,["_law_script"],["_law_found"],none,false,[],none⟩]
noncomputable abbrev cons:List (Str×Dt):=[("MOST_ROWS",(.int 16)),("MOST_MANY",(.int 4)),("MOST_NUMBER",(.int 3)),("MOST_RIGHT",(.int 20))]
noncomputable abbrev bls:List Str:=["abs","any","bool","divmod","int","isinstance","len","list","max","min","range","sorted","sum","tuple","zip"]
noncomputable abbrev fr(i:Nat):Bool:=[false,false,false,false,false,false,true,false,false,false,true,true,false,true,false,false,false,false,false,true,true,false,true,false,false,false].getD i false
noncomputable abbrev xs:List (Str×List (Str×Bool)):=[]
noncomputable def Kg:Ts:=(.cons (.asg 2 (.lst (.cons (.tup (.cons (.tup .nil) (.cons (.con (.int 0)) .nil))) .nil))) (.cons (.fr (.nm 3) (.rng1 (.var 0)) (.cons (.asg 2 (.comp [none,none,none,none] (.seq (.call 20 (.cons (.var 2) (.cons (.var 1) .nil)) [])) (.tp [1,2,3]) .nil (.tup (.cons (.bin .Add (.var 1) (.tup (.cons (.var 3) .nil))) (.cons (.bin .Add (.var 2) (.var 3)) .nil))))) .nil)) (.cons (.ret (.comp [none,none,none] (.seq (.var 2)) (.tp [1,2]) .nil (.var 1))) .nil)))
noncomputable def Kh:Ts:=(.cons (.asgM 2 (.lst .nil)) (.cons (.fr (.tp [3,4]) (.seq (.var 0)) (.cons (.fr (.nm 5) (.rng1 (.bin .Add (.bin .Sub (.var 1) (.var 4)) (.con (.int 1)))) (.cons (.app 2 (.tup (.cons (.var 3) (.cons (.var 4) (.cons (.var 5) .nil))))) .nil)) .nil)) (.cons (.ret (.mvr 2)) .nil)))
noncomputable def FY:Ts:=(.cons (.asg 3 (.idx (.lst (.cons (.con (.int 1)) (.cons (.con (.int 1)) (.cons (.con (.int 2)) (.cons (.con (.int 2)) (.cons (.con (.int 3)) (.cons (.con (.int 0)) (.cons (.con (.int 4)) .nil)))))))) (.call 13 (.cons (.var 0) (.cons (.con (.int 1)) (.cons (.con (.int 7)) .nil))) []))) (.cons (.asg 4 (.con (.int 3))) (.cons (.ifs (.and (.cmp .Gt (.var 3) (.con (.int 1))) (.cmp .Eq (.var 2) (.con (.int 4)))) (.cons (.asg 4 (.bin .Sub (.con (.int 4)) (.bi .min2 (.cons (.var 3) (.cons (.con (.int 3)) .nil))))) .nil) .nil) (.cons (.asgM 5 (.lst .nil)) (.cons (.fr (.nm 6) (.rng1 (.var 3)) (.cons (.asg 7 (.comp [none,none,some 4,some 6,some 2,some 0,some 1] (.rng1 (.var 2)) (.nm 1) .nil (.bin .Sub (.bin .Mod (.call 12 (.cons (.var 5) (.cons (.bin .Add (.bin .Add (.var 6) (.bin .Mult (.var 4) (.var 3))) (.var 1)) .nil)) []) (.bin .Add (.bin .Mult (.con (.int 2)) (.var 2)) (.con (.int 1)))) (.var 2)))) (.cons (.ifs (.and (.cmp .Gt (.var 6) (.con (.int 0))) (.cmp .Eq (.call 13 (.cons (.var 0) (.cons (.bin .Add (.con (.int 2)) (.var 6)) (.cons (.con (.int 3)) .nil))) []) (.con (.int 0)))) (.cons (.asg 7 (.comp [none,none,none] (.zip (.idx (.mvr 5) (.con (.int 0))) (.idx (.mvr 5) (.bin .Sub (.var 6) (.con (.int 1))))) (.tp [1,2]) .nil (.bin .Add (.var 1) (.var 2)))) (.cons (.asg 7 (.comp [none,none,some 4] (.seq (.var 7)) (.nm 1) .nil (.bi .max2 (.cons (.bin .Sub (.con (.int 0)) (.var 2)) (.cons (.bi .min2 (.cons (.var 2) (.cons (.var 1) .nil))) .nil))))) .nil)) .nil) (.cons (.app 5 (.bi .tuple (.cons (.var 7) .nil))) .nil)))) (.cons (.ret (.mvr 5)) .nil))))))
noncomputable def Ki:Ts:=(.cons (.asg 3 (.idx (.lst (.cons (.con (.int 0)) (.cons (.con (.int 20)) (.cons (.con (.int 20)) (.cons (.con (.int 10)) (.cons (.con (.int 6)) .nil)))))) (.var 2))) (.cons (.asg 4 (.comp [none,none,some 0] (.rng1 (.var 2)) (.nm 1) .nil (.call 13 (.cons (.var 2) (.cons (.bin .Add (.con (.int 40)) (.var 1)) (.cons (.con (.int 4)) .nil))) []))) (.cons (.asgM 5 (.comp [none,none,some 4] (.seq (.var 1)) (.nm 1) .nil (.call 15 (.cons (.var 1) (.cons (.var 2) .nil)) []))) (.cons (.asgM 5 (.comp [none,none,some 3] (.seq (.mvr 5)) (.nm 1) .nil (.bi .max2 (.cons (.bin .Sub (.con (.int 0)) (.var 2)) (.cons (.bi .min2 (.cons (.var 2) (.cons (.var 1) .nil))) .nil))))) (.cons (.ifs (.and (.cmp .Gt (.bi .len (.cons (.var 1) .nil)) (.con (.int 0))) (.cmp .Eq (.call 13 (.cons (.var 0) (.cons (.con (.int 44)) (.cons (.con (.int 4)) .nil))) []) (.con (.int 0)))) (.cons (.sr 5 (.call 13 (.cons (.var 0) (.cons (.con (.int 45)) (.cons (.bi .len (.cons (.var 1) .nil)) .nil))) []) (.bin .Sub (.call 13 (.cons (.var 0) (.cons (.con (.int 46)) (.cons (.bin .Add (.bin .Mult (.con (.int 2)) (.var 3)) (.con (.int 1))) .nil))) []) (.var 3))) .nil) .nil) (.cons (.ifs (.cmp .Eq (.call 13 (.cons (.var 0) (.cons (.con (.int 47)) (.cons (.con (.int 8)) .nil))) []) (.con (.int 0))) (.cons (.asgM 5 (.comp [none,none] (.seq (.var 1)) (.nm 1) .nil (.con (.int 0)))) .nil) .nil) (.cons (.ret (.bi .tuple (.cons (.mvr 5) .nil))) .nil)))))))
noncomputable def Kj:Ts:=(.cons (.ifs (.nt (.call 21 (.cons (.var 0) (.cons (.var 3) .nil)) [])) (.cons (.ret (.con (.bl false))) .nil) .nil) (.cons (.fr (.nm 4) (.rng1 (.bi .len (.cons (.var 0) .nil))) (.cons (.ifs (.or (.nt (.call 16 (.cons (.var 1) (.cons (.idx (.var 0) (.var 4)) (.cons (.var 2) .nil))) [])) (.call 18 (.cons (.bin .Add (.sliH (.var 0) (.var 4)) (.sliL (.var 0) (.bin .Add (.var 4) (.con (.int 1))))) (.cons (.idx (.var 0) (.var 4)) .nil)) [])) (.cons (.ret (.con (.bl false))) .nil) .nil) .nil)) (.cons (.fr (.nm 5) (.seq (.call 19 (.cons (.var 3) (.cons (.idx (.lst (.cons (.con (.int 0)) (.cons (.con (.int 30)) (.cons (.con (.int 20)) (.cons (.con (.int 10)) (.cons (.con (.int 7)) .nil)))))) (.var 3)) .nil)) [])) (.cons (.ifs (.and (.call 16 (.cons (.var 1) (.cons (.var 5) (.cons (.var 2) .nil))) []) (.nt (.call 18 (.cons (.var 0) (.cons (.var 5) .nil)) []))) (.cons (.ret (.con (.bl false))) .nil) .nil) .nil)) (.cons (.ret (.con (.bl true))) .nil))))
noncomputable def Kk:Ts:=(.cons (.asg 1 (.bin .Add (.con (.int 1)) (.call 13 (.cons (.var 0) (.cons (.con (.int 0)) (.cons (.con (.int 4)) .nil))) []))) (.cons (.asg 2 (.call 22 (.cons (.var 0) (.cons (.con (.int 5)) (.cons (.var 1) .nil))) [])) (.cons (.asg 3 (.call 23 (.cons (.var 0) (.cons (.var 2) (.cons (.var 1) .nil))) [])) (.cons (.asg 4 (.bi .list (.cons (.var 2) .nil))) (.cons (.asgM 5 (.call 11 (.cons (.var 4) (.cons (.var 1) (.cons (.var 3) .nil))) [])) (.cons (.ifs (.or (.nt (.call 24 (.cons (.mvr 5) (.cons (.var 2) (.cons (.var 3) (.cons (.var 1) .nil)))) [])) (.cmp .NotEq (.var 4) (.var 2))) (.cons (.ret (.con (.bl false))) .nil) .nil) (.cons (.asg 6 (.bi .list (.cons (.mvr 5) .nil))) (.cons (.ifs (.or (.cmp .NotEq (.call 11 (.cons (.var 4) (.cons (.var 1) (.cons (.bi .tuple (.cons (.comp [none,none] (.seq (.var 2)) (.nm 1) .nil (.con (.int 0))) .nil)) .nil))) []) (.lst (.cons (.sliH (.tup (.cons (.con (.int 0)) (.cons (.con (.int 0)) (.cons (.con (.int 0)) (.cons (.con (.int 0)) .nil))))) (.var 1)) .nil))) (.cmp .NotEq (.mvr 5) (.var 6))) (.cons (.ret (.con (.bl false))) .nil) .nil) (.cons (.app 5 (.tup .nil)) (.cons (.ret (.cmp .Eq (.call 11 (.cons (.bi .tuple (.cons (.var 2) .nil)) (.cons (.var 1) (.cons (.var 3) .nil))) []) (.var 6))) .nil))))))))))
noncomputable def fs:List Fn:=[⟨2,2,false,pf⟩,⟨3,3,false,wz⟩,⟨3,8,false,Ab 1⟩,⟨4,7,false,wB⟩,⟨3,5,false,Ae⟩,⟨2,7,false,Aa 0⟩,⟨3,8,false,Ac 2 3 4 5⟩,⟨3,3,false,z9⟩,⟨2,4,false,u5⟩,⟨2,3,false,CU 8⟩,⟨2,4,false,CT 7 6 9⟩,⟨3,4,false,CS 7 6 9 10⟩,⟨2,3,false,sV⟩,⟨3,4,false,wF 12⟩,⟨1,1,false,Ad⟩,⟨2,4,false,wI⟩,⟨3,4,false,F1 15⟩,⟨2,4,false,u5⟩,⟨2,3,false,FZ 17⟩,⟨2,4,false,Kg⟩,⟨2,6,false,Kh⟩,⟨2,6,false,CQ 14⟩,⟨3,8,false,FY⟩,⟨3,6,false,Ki⟩,⟨4,6,false,Kj⟩,⟨1,7,false,Kk⟩]
theorem hok:rows.all Rx.Row.ok=true:=by decide +kernel
theorem hfs:pG ⟨rows.map Rx.Row.ent,cons,bls,fr,xs⟩ 0 rows=some fs:=by kernel_rfl
theorem tR:sS fs 13:=⟨12,rfl,rfl⟩
theorem KR:wj fs 0 1 2 3 4 5 6 7 8 9 10:=⟨⟨rfl,rfl,rfl,rfl,rfl,rfl,rfl⟩,rfl,rfl,rfl,rfl⟩
theorem Cg(l:List Int):pl (tI l)=true/\dp (tI l)<=1:=by
 have:∀l:List Int,l8 (l.map Dt.int)=true/\pA (l.map Dt.int)=0:=by
  intro l
  induction l with
  |nil=>exact⟨rfl,rfl⟩
  |cons x l ih=>exact⟨by rw[QO,l8,ih.1];rfl,by rw[QO,pA,ih.2];rfl⟩
 exact⟨by unfold tI;rw[pl];exact(this l).1,by unfold tI;rw[dp,(this l).2];lia⟩
theorem HR(M:List (List Int)):pl (lI M)=true/\dp (lI M)<=2:=by
 have:∀M:List (List Int),l8 (M.map tI)=true/\pA (M.map tI)<=1:=by
  intro M
  induction M with
  |nil=>exact⟨rfl,by simp[pA]⟩
  |cons x l ih=>exact⟨by rw[QO,l8,ih.1,(Cg x).1];rfl,by rw[QO,pA];have:=(Cg x).2;lia⟩
 exact⟨by unfold lI;rw[pl];exact(this M).1,by unfold lI;rw[dp];have:=(this M).2;lia⟩
theorem xh(M:List (List Int)):cL .Eq (lI M) (lI M)= .ok true/\cL .NotEq (lI M) (lI M)= .ok false:=by
 obtain⟨h1,h2⟩:=HR M;have ok:pB (lI M) (lI M)=true:=by unfold pB;rw[h1,Qz ⋯];rfl
 have e:=gO _ h1;constructor
 ·show af (pB (lI M) (lI M)) (R.ok (dG (lI M) (lI M)))=_;rw[ok,e];rfl
 ·show af (pB (lI M) (lI M)) (R.ok (!dG (lI M) (lI M)))=_;rw[ok,e];rfl
noncomputable def l9(p:List Int×Nat):Dt:=.tup [tI p.1,.int p.2]
noncomputable def sH(p:List Int×Nat×Nat):Dt:=.tup [tI p.1,.int p.2.1,.int p.2.2]
noncomputable def oT(T:Nat)(p:List Int×Nat):List (List Int×Nat×Nat):=(List.range (T-p.2+1)).map λn=>(p.1,p.2,n)
noncomputable def IC(T:Nat)(L:List (List Int×Nat)):List (List Int×Nat):=(L.flatMap (oT T)).map λp=>(p.1++[(p.2.2:Int)],p.2.1+p.2.2)
theorem D0(p:List Int×Nat×Nat):kY (sH p)=true:=by simp[sH,kY,iA,cH]
theorem nV{α β:Type}{f:α->List β}{k:Nat}:∀{l:List α},(∀x∈l,(f x).length<=k)->(l.flatMap f).length<=l.length*k
 |[],_=>by simp
 |x::l,h=>by
  have:=nV (f:=f) (k:=k) (l:=l) λy hy=>h y (P9 _ hy)
  have:=h x Qc;rw[RW,Qm,Qo,Th]
  lia
theorem Ew{N T:Nat}{L:List (List Int×Nat)}(hN:1<=N)(hT:∀p∈L,p.2<=T)(hL:L.length*(T+1)<=10000):aw fs N 20 [.lst (L.map l9),.int T] none= .ok (.lst ((L.flatMap (oT T)).map sH),none):=by
 have dF:lim=1000000:=rfl;have tl:∀p∈L,(oT T p).length<=T+1:=λp hp=>by unfold oT;rw[Qf,Sb];lia
 have T1:T+1<=10000\/L=[]:=by
  cases L with
  |nil=>exact .inr rfl
  |cons p L=>exact .inl (Qh (S5 _ (by simp)) hL)
 have loop:=bC (S:=none) (tg:=.tp [3,4]) (body:=aV (aw fs (N-1)) (.cons (.fr (.nm 5) (.rng1 (.bin .Add (.bin .Sub (.var 1) (.var 4)) (.con (.int 1)))) (.cons (.app 2 (.tup (.cons (.var 3) (.cons (.var 4) (.cons (.var 5) .nil))))) .nil)) .nil)) (ds:=L.map l9) (ρ:=[some (.lst (L.map l9)),some (.int T),some (.lst []),none,none,none])
  (λpre ρ=>∃x y z,ρ=[some (.lst (L.map l9)),some (.int T),some (.lst (((L.take pre.length).flatMap (oT T)).map sH)),x,y,z]) ⟨none,none,none,rfl⟩ (by
   rintro pre x post ρ e ⟨x3,x4,x5,rfl⟩;obtain⟨p,JF,rfl⟩:=jl e;have hp:=Sv JF;have PM:=hT p hp;have cM:L≠[]:=λz=>by rw[z]at hp;cases hp
   have T1:=T1.resolve_right cM;have Om:((L.take pre.length).flatMap (oT T)).length<=10000:=by
    have:=nV (f:=oT T) (k:=T+1) (l:=L.take pre.length) λy hy=>tl y (Sw hy)
    have h2:(L.take pre.length).length*(T+1)<=L.length*(T+1):=Td _ (by rw[Sh];lia)
    lia
   have e1:((L.take (pre++[l9 p]).length).flatMap (oT T))=(L.take pre.length).flatMap (oT T)++oT T p:=by rw[Qm,Sg,jy JF,List.flatMap_append];simp
   generalize (L.take pre.length).flatMap (oT T)=A at *;have inner:=bC (S:=none) (tg:=.nm 5) (body:=aV (aw fs (N-1)) (.cons (.app 2 (.tup (.cons (.var 3) (.cons (.var 4) (.cons (.var 5) .nil))))) .nil)) (ds:=aR 0 (T-p.2+1)) (ρ:=[some (.lst (L.map l9)),some (.int T),some (.lst (A.map sH)),some (tI p.1),some (.int p.2),x5])
    (λpre ρ=>∃z,ρ=[some (.lst (L.map l9)),some (.int T),some (.lst ((A++(List.range pre.length).map λn=>(p.1,p.2,n)).map sH)),some (tI p.1),some (.int p.2),z]) ⟨x5,by simp⟩ (by
     rintro pre y post ρ e ⟨z,rfl⟩;obtain⟨h1,rfl⟩:=cV e;have e2:(pre++[Dt.int pre.length]).length=pre.length+1:=by simp
     generalize pre.length=k at *;refine⟨_,_,rfl,rY (ds:=(A++(List.range k).map λn=>(p.1,p.2,n)).map sH) (d:=sH (p.1,p.2,k)) (S1:=none) rfl (by simp only[RX];rfl) (by unfold bO;rw[D0,Q6]) (by rw[Qf,Qm,Qf,Sb];lia) rfl,some (.int k),?_⟩;have e3:(A++(List.range (k+1)).map λn=>(p.1,p.2,n)).map sH=(A++(List.range k).map λn=>(p.1,p.2,n)).map sH++[sH (p.1,p.2,k)]:=by simp[List.range_succ]
     rw[e2,e3];rfl)
   obtain⟨ρ1,bT,z,rfl⟩:=inner;have em:(aR 0 (T-p.2+1)).length=T-p.2+1:=by simp[aR]
   rw[em]at bT;have ec:(T:Int)-(p.2:Int)+1=((T-p.2+1:Nat):Int):=⋯
   refine⟨[some (.lst (L.map l9)),some (.int T),some (.lst (A.map sH)),some (tI p.1),some (.int p.2),x5],_,rfl,yB (ds:=aR 0 (T-p.2+1)) (S1:=none) (dR (n:=T-p.2+1) (by simp only[RX,ec]) ⋯) rfl bT rfl,some (tI p.1),some (.int p.2),z,?_⟩;rw[e1];rfl)
 obtain⟨ρ1,bT,x,y,z,rfl⟩:=loop;rw[Qf,SQ]at bT;refine aC (body:=Kh) rfl hN rfl ?_;show fin (aV (aw fs (N-1)) Kh [some (.lst (L.map l9)),some (.int T),none,none,none,none] none)=_;exact c9 (d:=.lst []) (S1:=none) rfl rfl (bB (ds:=L.map l9) (S1:=none) rfl rfl bT (ax rfl))
noncomputable def MC(T k:Nat)(p:List Int×Nat):Prop:=p.1.length=k/\(∀x∈p.1,(0:Int)<=x)/\p.1.sum=(p.2:Int)/\p.2<=T
theorem Fb{N m T:Nat}(hN:2<=N)(hm:m<=4)(hp:(T+1)^m<=10000):∃U:List (List Int),aw fs N 19 [.int m,.int T] none= .ok (lI U,none)/\∀x∈U,x.length=m/\(∀z∈x,(0:Int)<=z)/\x.sum<=T:=by
 have dF:lim=1000000:=rfl;have loop:=bC (S:=none) (tg:=.nm 3) (body:=aV (aw fs (N-1)) (.cons (.asg 2 (.comp [none,none,none,none] (.seq (.call 20 (.cons (.var 2) (.cons (.var 1) .nil)) [])) (.tp [1,2,3]) .nil (.tup (.cons (.bin .Add (.var 1) (.tup (.cons (.var 3) .nil))) (.cons (.bin .Add (.var 2) (.var 3)) .nil))))) .nil)) (ds:=aR 0 m) (ρ:=[some (.int m),some (.int T),some (.lst ([([],0)].map l9)),none])
  (λpre ρ=>∃L x,L.length<=(T+1)^pre.length/\(∀p∈L,MC T pre.length p)/\ρ=[some (.int m),some (.int T),some (.lst (L.map l9)),x]) ⟨[([],0)],none,by simp,λp hp=>by rw[QE]at hp;subst hp;exact⟨rfl,by simp,rfl,by lia⟩,rfl⟩ (by
   rintro pre y post ρ e ⟨L,x,hl,hL,rfl⟩;obtain⟨h1,rfl⟩:=cV e;have e1:(pre++[Dt.int pre.length]).length=pre.length+1:=by simp
   generalize pre.length=k at *;have eU:L.length*(T+1)<=(T+1)^(k+1):=by rw[Nat.pow_succ];exact Td _ hl
   have fT:(T+1)^(k+1)<=10000:=Qh (Nat.pow_le_pow_right ⋯ ⋯) hp;have Ld:=Ew (N:=N-1) (T:=T) (L:=L) ⋯ (λp hp=>(hL p hp).2.2.2) ⋯;have zJ:(L.flatMap (oT T)).length<=L.length*(T+1):=nV λp hp=>by unfold oT;rw[Qf,Sb];lia
   have vv:∀p∈L.flatMap (oT T),MC T (k+1) (p.1++[(p.2.2:Int)],p.2.1+p.2.2)/\p.1.length=k:=λp hp=>by
    obtain⟨p0,h0,hp⟩:=Ss.mp hp;obtain⟨n,hn,rfl⟩:=QF.mp hp;have hn:=QR.mp hn;obtain⟨k1,k2,k3,k4⟩:=hL p0 h0;refine⟨⟨by simp[k1],λz hz=>?_,by simp[k3],by show p0.2+n<=T;lia⟩,k1⟩;rcases Qs.mp hz with hz|hz
    ·exact k2 z hz
    ·rw[QE]at hz;subst hz;show (0:Int)<=(n:Int);lia
   have hc:aK (aN (.tp [1,2,3]) (bh (aw fs (N-1)) .nil) (bj (aw fs (N-1)) (.tup (.cons (.bin .Add (.var 1) (.tup (.cons (.var 3) .nil))) (.cons (.bin .Add (.var 2) (.var 3)) .nil)))) [none,none,none,none]) ((L.flatMap (oT T)).map sH) none= .ok ((L.flatMap (oT T)).map λp=>l9 (p.1++[(p.2.2:Int)],p.2.1+p.2.2),none):=aU λp hp=>by
    have lp:=(vv p hp).2;have ha:l6 .Add (tI p.1) (.tup [.int p.2.2])= .ok (tI (p.1++[(p.2.2:Int)])):=by show af (decide ((p.1.map Dt.int).length+1<=lim)) (R.ok (Dt.tup (p.1.map Dt.int++[.int p.2.2])))=_;rw[Qz (by rw[Qf];lia),guard_true];unfold tI;rw[QP];rfl
    have ec:(p.2.1:Int)+(p.2.2:Int)=((p.2.1+p.2.2:Nat):Int):=⋯
    exact aO (ρ1:=[none,some (tI p.1),some (.int p.2.1),some (.int p.2.2)]) rfl (by simp only[RX,ha,ec];rfl) (by unfold bO;simp[l9,kY,iA,cH])
   have eC:((L.flatMap (oT T)).map λp=>l9 (p.1++[(p.2.2:Int)],p.2.1+p.2.2))=(IC T L).map l9:=by unfold IC;rw[Sl];rfl
   rw[eC]at hc;have pM:ev (aw fs (N-1)) (.call 20 (.cons (.var 2) (.cons (.var 1) .nil)) []) [some (.int m),some (.int T),some (.lst (L.map l9)),some (.int k)] none= .ok (.lst ((L.flatMap (oT T)).map sH),none):=by simp only[RX,Ld]
   refine⟨_,_,rfl,dw (d:=.lst ((IC T L).map l9)) (S1:=none) (aT (ds:=(L.flatMap (oT T)).map sH) (S1:=none) (gj pM rfl) (by rw[Qf];lia) rfl hc) rfl rfl,IC T L,some (.int k),?_,λp hp=>?_,rfl⟩
   ·rw[e1];unfold IC;rw[Qf];lia
   ·obtain⟨p0,h0,rfl⟩:=QF.mp hp;rw[e1];exact(vv p0 h0).1)
 obtain⟨ρ1,bT,L,x,hl,hL,rfl⟩:=loop;have em:(aR 0 m).length=m:=by simp[aR]
 rw[em]at hl hL;refine⟨L.map (·.1),?_,λx hx=>?_⟩
 ·have hc:aK (aN (.tp [1,2]) (bh (aw fs (N-1)) .nil) (bj (aw fs (N-1)) (.var 1)) [none,none,none]) (L.map l9) none= .ok (L.map λp=>tI p.1,none):=aU λp hp=>aO (ρ1:=[none,some (tI p.1),some (.int p.2)]) rfl rfl (by unfold bO;rw[cH,Q6])
  have e:(L.map λp=>tI p.1)=(L.map (·.1)).map tI:=by rw[Sl];rfl
  rw[e]at hc;refine aC (body:=Kg) rfl ⋯ rfl ?_;show fin (aV (aw fs (N-1)) Kg [some (.int m),some (.int T),none,none] none)=_;exact aE (d:=.lst ([([],0)].map l9)) (S1:=none) rfl rfl (bB (ds:=aR 0 m) (S1:=none) (dR (n:=m) rfl ⋯) rfl bT (ax (aT (ds:=L.map l9) (S1:=none) rfl (by rw[Qf];lia) rfl hc)))
 ·obtain⟨p,hp,rfl⟩:=QF.mp hx;obtain⟨k1,k2,k3,k4⟩:=hL p hp;exact⟨k1,k2,by rw[k3];lia⟩
noncomputable def cw(f z:Int):Int:=if (if z<f then z else f)>0-f then(if z<f then z else f) else 0-f
noncomputable def F2:Ts:=(.cons (.asg 7 (.comp [none,none,some 4,some 6,some 2,some 0,some 1] (.rng1 (.var 2)) (.nm 1) .nil (.bin .Sub (.bin .Mod (.call 12 (.cons (.var 5) (.cons (.bin .Add (.bin .Add (.var 6) (.bin .Mult (.var 4) (.var 3))) (.var 1)) .nil)) []) (.bin .Add (.bin .Mult (.con (.int 2)) (.var 2)) (.con (.int 1)))) (.var 2)))) (.cons (.ifs (.and (.cmp .Gt (.var 6) (.con (.int 0))) (.cmp .Eq (.call 13 (.cons (.var 0) (.cons (.bin .Add (.con (.int 2)) (.var 6)) (.cons (.con (.int 3)) .nil))) []) (.con (.int 0)))) (.cons (.asg 7 (.comp [none,none,none] (.zip (.idx (.mvr 5) (.con (.int 0))) (.idx (.mvr 5) (.bin .Sub (.var 6) (.con (.int 1))))) (.tp [1,2]) .nil (.bin .Add (.var 1) (.var 2)))) (.cons (.asg 7 (.comp [none,none,some 4] (.seq (.var 7)) (.nm 1) .nil (.bi .max2 (.cons (.bin .Sub (.con (.int 0)) (.var 2)) (.cons (.bi .min2 (.cons (.var 2) (.cons (.var 1) .nil))) .nil))))) .nil)) .nil) (.cons (.app 5 (.bi .tuple (.cons (.var 7) .nil))) .nil)))
theorem yV{N m far deep:Nat}{ns:List Int}(hN:3<=N)(hm:m<=4)(hf:1<=far)(PD:far<=3)(hd:deep<=4):
  ∃R:List (List Int),R.length<=4/\(∀q∈R,q.length=m/\∀z∈q,z.natAbs<=3)/\
   fin (aV (aw fs (N-1)) (.cons (.asgM 5 (.lst .nil)) (.cons (.fr (.nm 6) (.rng1 (.var 3)) F2) (.cons (.ret (.mvr 5)) .nil))) [some (.cc ns),some (.int 5),some (.int m),some (.int deep),some (.int far),none,none,none] none)= .ok (lI R,none):=by
 have dF:lim=1000000:=rfl;have loop:=bC (S:=none) (tg:=.nm 6) (body:=aV (aw fs (N-1)) F2) (ds:=aR 0 deep) (ρ:=[some (.cc ns),some (.int 5),some (.int m),some (.int deep),some (.int far),some (lI []),none,none])
  (λpre ρ=>∃R x6 x7,R.length=pre.length/\(∀q∈R,q.length=m/\∀z∈q,z.natAbs<=3)/\ρ=[some (.cc ns),some (.int 5),some (.int m),some (.int deep),some (.int far),some (lI R),x6,x7]) ⟨[],none,none,rfl,by simp,rfl⟩ (by
   rintro pre y post ρ e ⟨R,x6,x7,hl,hR,rfl⟩;obtain⟨h1,rfl⟩:=cV e;have e1:(pre++[Dt.int pre.length]).length=pre.length+1:=by simp
   generalize pre.length=k at *
   let r1:List Int:=(List.range m).map λj=>dM ns (5+m*k+j) % (2*(far:Int)+1)-far
   have JH:r1.length=m/\∀z∈r1,z.natAbs<=3:=by
    refine⟨by simp[r1],λz hz=>?_⟩;obtain⟨j,_,rfl⟩:=QF.mp hz;have a1:=QI (dM ns (5+m*k+j)) (b:=2*(far:Int)+1) ⋯;have a2:=QJ (dM ns (5+m*k+j)) (b:=2*(far:Int)+1) ⋯
    lia
   have c1:∀x7,ev (aw fs (N-1)) (.comp [none,none,some 4,some 6,some 2,some 0,some 1] (.rng1 (.var 2)) (.nm 1) .nil (.bin .Sub (.bin .Mod (.call 12 (.cons (.var 5) (.cons (.bin .Add (.bin .Add (.var 6) (.bin .Mult (.var 4) (.var 3))) (.var 1)) .nil)) []) (.bin .Add (.bin .Mult (.con (.int 2)) (.var 2)) (.con (.int 1)))) (.var 2))) [some (.cc ns),some (.int 5),some (.int m),some (.int deep),some (.int far),some (lI R),some (.int k),x7] none= .ok (.lst (r1.map Dt.int),none):=λx7=>by
    have hc:aK (aN (.nm 1) (bh (aw fs (N-1)) .nil) (bj (aw fs (N-1)) (.bin .Sub (.bin .Mod (.call 12 (.cons (.var 5) (.cons (.bin .Add (.bin .Add (.var 6) (.bin .Mult (.var 4) (.var 3))) (.var 1)) .nil)) []) (.bin .Add (.bin .Mult (.con (.int 2)) (.var 2)) (.con (.int 1)))) (.var 2))) [none,none,some (.int far),some (.int k),some (.int m),some (.cc ns),some (.int 5)]) (aR 0 m) none= .ok ((List.range m).map λj=>.int (dM ns (5+m*k+j) % (2*(far:Int)+1)-far),none):=by
     have er:aR 0 m=(List.range m).map λ(i:Nat)=>Dt.int i:=by unfold aR;exact Sj λi _=>by rw[Rt]
     rw[er];refine aU λj hj=>?_
     have hj:=QR.mp hj;have PX:m*k<=16:=Qh (Tc hm (by lia:k<=4)) (by decide);have m1:=aX (i:=(m:Int)) (j:=k) (.inl ⋯);have m2:=aX (i:=2) (j:=far) (.inl (by decide));have ec:(5:Int)+(m:Int)*(k:Int)+(j:Int)=((5+m*k+j:Nat):Int):=by rw[Rm,Rm,Ro];rfl
     have B4:aw fs (N-1) 12 [.cc ns,.int ((5+m*k+j:Nat):Int)] none= .ok (.int (dM ns (5+m*k+j)),none):=tq (fs:=fs) (ic:=12) rfl (n:=N-1) ⋯ (ns:=ns) (k:=5+m*k+j) ⋯;have md:=ez (i:=dM ns (5+m*k+j)) (j:=2*(far:Int)+1) ⋯;exact aO (ρ1:=[none,some (.int j),some (.int far),some (.int k),some (.int m),some (.cc ns),some (.int 5)]) rfl (by simp only[RX,m1,m2,ec,B4,md]) rfl
    have e:((List.range m).map λj=>Dt.int (dM ns (5+m*k+j) % (2*(far:Int)+1)-far))=r1.map Dt.int:=by simp only[r1,Sl];rfl
    rw[e]at hc;exact aT (ds:=aR 0 m) (S1:=none) (dR (n:=m) rfl ⋯) (by simp[aR];lia) rfl hc
   have Nb:aw fs (N-1) 13 [.cc ns,.int ((2+k:Nat):Int),.int 3] none= .ok (.int (bF ns (2+k) 3),none):=j8 (fs:=fs) tR (n:=N-1) ⋯ (ns:=ns) (k:=2+k) (many:=3) ⋯ (by decide);have MJ:(2:Int)+(k:Int)=((2+k:Nat):Int):=⋯
   have OB:(R.map tI).length<=lim:=by rw[Qf];lia
   have Gu:∀q:List Int,aV (aw fs (N-1)) (.cons (.app 5 (.bi .tuple (.cons (.var 7) .nil))) .nil) [some (.cc ns),some (.int 5),some (.int m),some (.int deep),some (.int far),some (lI R),some (.int k),some (.lst (q.map Dt.int))] none= .ok (.next,[some (.cc ns),some (.int 5),some (.int m),some (.int deep),some (.int far),some (lI (R++[q])),some (.int k),some (.lst (q.map Dt.int))],none):=λq=>by refine rY (ds:=R.map tI) (d:=tI q) (S1:=none) rfl rfl (by unfold bO;rw[cH,Q6]) OB ?_;unfold lI;rw[QP];rfl
   have good:∀q:List Int,q.length=m->(∀z∈q,z.natAbs<=3)->∀z∈R++[q],z.length=m/\∀w∈z,w.natAbs<=3:=λq h1 h2 z hz=>by
    rcases Qs.mp hz with hz|hz
    ·exact hR z hz
    ·rw[QE]at hz;subst hz;exact⟨h1,h2⟩
   by_cases hc:0<k/\bF ns (2+k) 3=0
   ·obtain⟨a,ha⟩:∃a,R[0]?=some a:=⟨R[0]'⋯,Qu ⋯⟩;obtain⟨b,hb⟩:∃b,R[k-1]?=some b:=⟨R[k-1]'⋯,Qu ⋯⟩;have Pz:=hR a (Sv ha);have nZ:=hR b (Sv hb);have i1:cu (lI R) (.int 0)= .ok (tI a):=om (k:=0) ha;have i2:=om hb;have ek:(k:Int)-1=((k-1:Nat):Int):=⋯
    let r2:List Int:=(a.zip b).map λq=>q.1+q.2
    let r3:List Int:=r2.map λz=>cw far z
    have c2:ev (aw fs (N-1)) (.comp [none,none,none] (.zip (.idx (.mvr 5) (.con (.int 0))) (.idx (.mvr 5) (.bin .Sub (.var 6) (.con (.int 1))))) (.tp [1,2]) .nil (.bin .Add (.var 1) (.var 2))) [some (.cc ns),some (.int 5),some (.int m),some (.int deep),some (.int far),some (lI R),some (.int k),some (.lst (r1.map Dt.int))] none= .ok (.lst (r2.map Dt.int),none):=by
     have lQ:aK (aN (.tp [1,2]) (bh (aw fs (N-1)) .nil) (bj (aw fs (N-1)) (.bin .Add (.var 1) (.var 2))) [none,none,none]) (cX (a.map Dt.int) (b.map Dt.int)) none= .ok ((a.zip b).map λq=>.int (q.1+q.2),none):=by rw[dh];exact aU λq _=>aO (ρ1:=[none,some (.int q.1),some (.int q.2)]) rfl (by simp only[RX]) rfl
     have e:((a.zip b).map λq=>Dt.int (q.1+q.2))=r2.map Dt.int:=by simp only[r2,Sl];rfl
     rw[e]at lQ;refine aT (ds:=cX (a.map Dt.int) (b.map Dt.int)) (S1:=none) (jt (S1:=none) (S2:=none) (da:=tI a) (db:=tI b) (by simp only[RX,i1]) (by simp only[RX,ek,i2]) rfl rfl) (by rw[dh,Qf,Si];lia) rfl lQ
    have c3:ev (aw fs (N-1)) (.comp [none,none,some 4] (.seq (.var 7)) (.nm 1) .nil (.bi .max2 (.cons (.bin .Sub (.con (.int 0)) (.var 2)) (.cons (.bi .min2 (.cons (.var 2) (.cons (.var 1) .nil))) .nil)))) [some (.cc ns),some (.int 5),some (.int m),some (.int deep),some (.int far),some (lI R),some (.int k),some (.lst (r2.map Dt.int))] none= .ok (.lst (r3.map Dt.int),none):=by
     have lQ:aK (aN (.nm 1) (bh (aw fs (N-1)) .nil) (bj (aw fs (N-1)) (.bi .max2 (.cons (.bin .Sub (.con (.int 0)) (.var 2)) (.cons (.bi .min2 (.cons (.var 2) (.cons (.var 1) .nil))) .nil)))) [none,none,some (.int far)]) (r2.map Dt.int) none= .ok (r2.map λz=>.int (cw far z),none):=cm λz _=>aO (ρ1:=[none,some (.int z),some (.int far)]) rfl (by simp only[RX];rfl) rfl
     have e:(r2.map λz=>Dt.int (cw far z))=r3.map Dt.int:=by simp only[r3,Sl];rfl
     rw[e]at lQ;exact aT (ds:=r2.map Dt.int) (S1:=none) rfl (by rw[Qf];simp only[r2,Qf,Si];lia) rfl lQ
    have Jz:(0:Int)<(k:Int):=⋯
    have G5:(((bF ns (2+k) 3:Nat):Int)==0)=true:=by rw[hc.2];rfl
    refine⟨_,_,rfl,dw (d:=.lst (r1.map Dt.int)) (S1:=none) (c1 _) rfl (qd (S1:=none) (by simp only[RX,Qz Jz,MJ,Nb,G5];rfl) (dw (d:=.lst (r2.map Dt.int)) (S1:=none) c2 rfl (dw (d:=.lst (r3.map Dt.int)) (S1:=none) c3 rfl (Gu r3)))),R++[r3],some (.int k),_,by rw[e1,Qm,Sg,hl],good r3 (by simp only[r3,r2,Qf,Si];lia) λz hz=>?_,rfl⟩;obtain⟨w,_,rfl⟩:=QF.mp hz;show (cw far w).natAbs<=3;unfold cw;split<;>split<;>lia
   ·refine⟨_,_,rfl,dw (d:=.lst (r1.map Dt.int)) (S1:=none) (c1 _) rfl (i7 (S1:=none) ?_ (Gu r1)),R++[r1],some (.int k),_,by rw[e1,Qm,Sg,hl],good r1 JH.1 JH.2,rfl⟩;by_cases Jz:(0:Int)<(k:Int)
    ·have G5:(((bF ns (2+k) 3:Nat):Int)==0)=false:=TC.mpr λz=>hc ⟨by lia,by lia⟩
     simp only[RX,Qz Jz,MJ,Nb,G5];rfl
    ·simp only[RX,Qv Jz];rfl)
 obtain⟨ρ1,bT,R,x6,x7,hl,hR,rfl⟩:=loop;have em:(aR 0 deep).length=deep:=by simp[aR]
 rw[em]at hl;exact⟨R,by lia,hR,c9 (d:=.lst []) (S1:=none) rfl rfl (bB (ds:=aR 0 deep) (S1:=none) (dR (n:=deep) rfl ⋯) rfl bT (ax rfl))⟩
theorem Bx{N m:Nat}{ns:List Int}(hN:3<=N)(hm:m<=4):∃R:List (List Int),R.length<=4/\(∀q∈R,q.length=m/\∀z∈q,z.natAbs<=3)/\aw fs N 22 [.cc ns,.int 5,.int m] none= .ok (lI R,none):=by
 have p1:aw fs (N-1) 13 [.cc ns,.int 1,.int 7] none= .ok (.int (bF ns 1 7),none):=j8 (fs:=fs) tR (n:=N-1) ⋯ (ns:=ns) (k:=1) (many:=7) (by decide) (by decide);have l1:=jb (ns:=ns) (k:=1) (many:=7) (by decide);generalize bF ns 1 7=q at p1 l1;obtain⟨deep,hd,Dq⟩:∃deep:Nat,deep<=4/\cu (.lst [.int 1,.int 1,.int 2,.int 2,.int 3,.int 0,.int 4]) (.int q)= .ok (.int deep):=by
  match q,l1 with
  |0,_=>exact⟨1,by decide,rfl⟩
  |1,_=>exact⟨1,by decide,rfl⟩
  |2,_=>exact⟨2,by decide,rfl⟩
  |3,_=>exact⟨2,by decide,rfl⟩
  |4,_=>exact⟨3,by decide,rfl⟩
  |5,_=>exact⟨0,by decide,rfl⟩
  |6,_=>exact⟨4,by decide,rfl⟩
 have B5:ev (aw fs (N-1)) (.idx (.lst (.cons (.con (.int 1)) (.cons (.con (.int 1)) (.cons (.con (.int 2)) (.cons (.con (.int 2)) (.cons (.con (.int 3)) (.cons (.con (.int 0)) (.cons (.con (.int 4)) .nil)))))))) (.call 13 (.cons (.var 0) (.cons (.con (.int 1)) (.cons (.con (.int 7)) .nil))) [])) [some (.cc ns),some (.int 5),some (.int m),none,none,none,none,none] none= .ok (.int deep,none):=by simp only[RX,p1];exact(TJ (R.bind · _) Dq).trans rfl
 by_cases hc:1<deep/\m=4
 ·obtain⟨R,h1,h2,h3⟩:=yV (N:=N) (m:=m) (far:=4-min deep 3) (deep:=deep) (ns:=ns) hN hm ⋯ ⋯ hd;refine⟨R,h1,h2,aC (body:=FY) rfl ⋯ rfl ?_⟩;show fin (aV (aw fs (N-1)) FY [some (.cc ns),some (.int 5),some (.int m),none,none,none,none,none] none)=_;have hg:(1:Int)<(deep:Int):=⋯
  have JC:((m:Int)==4)=true:=by rw[hc.2];rfl
  have ef:(4:Int)-(if (3:Int)<(deep:Int) then 3 else(deep:Int))=((4-min deep 3:Nat):Int):=by split<;>lia
  exact aE (d:=.int deep) (S1:=none) B5 rfl (aE (d:=.int 3) (S1:=none) rfl rfl (jC (S1:=none) (by simp only[RX,Qz hg,JC];rfl) (aE (d:=.int ((4-min deep 3:Nat):Int)) (S1:=none) (by simp only[RX,ef]) rfl h3)))
 ·obtain⟨R,h1,h2,h3⟩:=yV (N:=N) (m:=m) (far:=3) (deep:=deep) (ns:=ns) hN hm ⋯ ⋯ hd;refine⟨R,h1,h2,aC (body:=FY) rfl ⋯ rfl ?_⟩;show fin (aV (aw fs (N-1)) FY [some (.cc ns),some (.int 5),some (.int m),none,none,none,none,none] none)=_;refine aE (d:=.int deep) (S1:=none) B5 rfl (aE (d:=.int 3) (S1:=none) rfl rfl (dy (S1:=none) ?_ h3));by_cases hg:(1:Int)<(deep:Int)
  ·have JC:((m:Int)==4)=false:=TC.mpr λz=>hc ⟨by lia,by lia⟩
   simp only[RX,Qz hg,JC];rfl
  ·simp only[RX,Qv hg];rfl
end K24
end
section
namespace Rx
open PySem PySem.W PySem.Spec PyProof.Rows L2
variable{fs:List Fn}
section
variable{ip il is ig iw ic io ik iu iv ie:Nat}(H:wj fs ip il is ig iw ic io ik iu iv ie)
include H
theorem yo{N m it:Nat}{D:Dt}{M:List (List Int)}{r:List Int}(ht:fs[it]?=some ⟨3,4,false,CS ik io iv ie⟩)(hD:ei D M)(hN:7<=N)(E:gX m M r):aw fs N it [D,.int m,tI r] none= .ok (lI (d8 m M r),none)/\(d8 m M r).length<=900000:=by
 have dF:lim=1000000:=rfl;have hk:=BW H.k (N:=N-1) ⋯ hD (many:=m) (r:=r) (by have:=E.ln;lia) (λq hq=>by rw[E.wd q hq];have:=E.m4;lia) (by have:=E.rl;have:=E.ln;lia) (E.brk E.rb);obtain⟨hF,_⟩:=Ho H (N:=N-1) hD ⋯ E.zero;obtain⟨hq,As⟩:=Co H.S (N:=N-1) hD ⋯ E;have MW:∀q∈dY m M r,q.length=m:=λq hq=>((bK E).mp hq).1
 generalize hF':cq m M=F at hF;have hL:d8 m M r=fP ((dY m M r).filter λx=> !br x F):=by rw[<-hF'];rfl
 rw[hL];generalize dY m M r=Q at hq As MW;have hv:∀q,aw fs (N-1) iv [tI q,lI F] none= .ok (.bl (br q F),none):=λq=>Ce H.u H.v (N:=N-1) ⋯ q F
 have pM:ev (aw fs (N-1)) (.call io (.cons (.var 0) (.cons (.var 1) (.cons (.var 2) .nil))) []) [some D,some (.int m),some (tI r),some (lI F)] none= .ok (lI Q,none):=by simp only[RX,hq]
 have hc:aK (aN (.nm 1) (bh (aw fs (N-1)) (.cons (.nt (.call iv (.cons (.var 1) (.cons (.var 2) .nil)) [])) .nil)) (bj (aw fs (N-1)) (.var 1)) [none,none,some (lI F)]) (Q.map tI) none= .ok (Q.flatMap λq=>if (!br q F)=true then[tI q] else[],none):=bP λq jQ=>by have:=hv q;exact turn_if (ρ1:=[none,some (tI q),some (lI F)]) rfl (by simp only[RX,this]) λ_=>⟨rfl,by unfold bO;rw[cH,Q6]⟩
 rw[fB]at hc;have GR:=aT (F:=aw fs (N-1)) (cap:=[none,none,some 3]) (ρ:=[some D,some (.int m),some (tI r),some (lI F)]) (ds:=Q.map tI) (S1:=none) (gj pM rfl) (by rw[Qf];lia) rfl hc;have hle:=Qh (List.length_filter_le (λx=> !br x F) Q) As;have hs:=zb (Q:=Q.filter λq=> !br q F) E.m1 hle λq h=>MW q (So.mp h).1
 refine⟨aC ht ⋯ rfl ?_,by rw[uM];exact hle⟩;show fin (aV (aw fs (N-1)) (CS ik io iv ie) [some D,some (.int m),some (tI r),none] none)=_;refine dN (ρ1:=[some D,some (.int m),some (tI r),none]) (S1:=none) (by rw[ex];simp only[RX,hk]) (aE (d:=lI F) (S1:=none) (by simp only[RX,hF]) rfl (ax ?_));rw[gd];refine(TJ (R.bind · _) GR).trans ?_;show (d6 .sorted [lI (Q.filter λq=> !br q F)]).bind _=_;rw[hs];rfl
end
end Rx
end
section
namespace K24
open PySem PySem.W PySem.Spec PyProof.Rows L2 Mx Rx
noncomputable def NB:Ts:=(.cons (.ifs (.cmp .Eq (.call 13 (.cons (.var 0) (.cons (.con (.int 47)) (.cons (.con (.int 8)) .nil))) []) (.con (.int 0))) (.cons (.asgM 5 (.comp [none,none] (.seq (.var 1)) (.nm 1) .nil (.con (.int 0)))) .nil) .nil) (.cons (.ret (.bi .tuple (.cons (.mvr 5) .nil))) .nil))
noncomputable def Pg:Ts:=(.cons (.ifs (.and (.cmp .Gt (.bi .len (.cons (.var 1) .nil)) (.con (.int 0))) (.cmp .Eq (.call 13 (.cons (.var 0) (.cons (.con (.int 44)) (.cons (.con (.int 4)) .nil))) []) (.con (.int 0)))) (.cons (.sr 5 (.call 13 (.cons (.var 0) (.cons (.con (.int 45)) (.cons (.bi .len (.cons (.var 1) .nil)) .nil))) []) (.bin .Sub (.call 13 (.cons (.var 0) (.cons (.con (.int 46)) (.cons (.bin .Add (.bin .Mult (.con (.int 2)) (.var 3)) (.con (.int 1))) .nil))) []) (.var 3))) .nil) .nil) NB)
theorem qI{N:Nat}{M:List (List Int)}{ρ:ao}{i:Nat}(hl:M.length<=16)(h:ev (aw fs N) (.var i) ρ none= .ok (lI M,none)):ev (aw fs N) (.comp [none,none] (.seq (.var i)) (.nm 1) .nil (.con (.int 0))) ρ none= .ok (.lst ((zeros M.length).map Dt.int),none):=by
 have dF:lim=1000000:=rfl;have hc:aK (aN (.nm 1) (bh (aw fs N) .nil) (bj (aw fs N) (.con (.int 0))) [none,none]) (M.map tI) none= .ok (M.map λ_=>.int 0,none):=aU λq _=>aO (ρ1:=[none,some (tI q)]) rfl rfl rfl
 have e:(M.map λ_=>Dt.int 0)=(zeros M.length).map Dt.int:=by unfold zeros;rw[List.map_replicate,List.map_const']
 rw[e]at hc;exact aT (ds:=M.map tI) (S1:=none) (gj h rfl) (by rw[Qf];lia) rfl hc
theorem yT{N m:Nat}{ns:List Int}{M:List (List Int)}(hN:3<=N)(m1:1<=m)(m4:m<=4)(hl:M.length<=16)(hw:∀q∈M,q.length=m/\∀z∈q,z.natAbs<=3):∃r:List Int,r.length=M.length/\(∀x∈r,x.natAbs<=20)/\aw fs N 23 [.cc ns,lI M,.int m] none= .ok (tI r,none):=by
 have dF:lim=1000000:=rfl;obtain⟨far,Dq,f6,Pt⟩:∃far:Nat,cu (.lst [.int 0,.int 20,.int 20,.int 10,.int 6]) (.int m)= .ok (.int far)/\6<=far/\far<=20:=by
  have:m=1\/m=2\/m=3\/m=4:=⋯
  rcases this with rfl|rfl|rfl|rfl
  ·exact⟨20,rfl,by decide,by decide⟩
  ·exact⟨20,rfl,by decide,by decide⟩
  ·exact⟨10,rfl,by decide,by decide⟩
  ·exact⟨6,rfl,by decide,by decide⟩
 have pk:∀k many:Nat,k<1000->0<many->aw fs (N-1) 13 [.cc ns,.int k,.int many] none= .ok (.int (bF ns k many),none):=λk many h1 h2=>j8 (fs:=fs) tR (n:=N-1) ⋯ (ns:=ns) (k:=k) (many:=many) ⋯ h2
 let R:List Int:=(List.range m).map λk=>((bF ns (40+k) 4:Nat):Int)
 have lR:R.length=m:=by simp[R]
 have c4:ev (aw fs (N-1)) (.comp [none,none,some 0] (.rng1 (.var 2)) (.nm 1) .nil (.call 13 (.cons (.var 2) (.cons (.bin .Add (.con (.int 40)) (.var 1)) (.cons (.con (.int 4)) .nil))) [])) [some (.cc ns),some (lI M),some (.int m),some (.int far),none,none] none= .ok (.lst (R.map Dt.int),none):=by
  have hc:aK (aN (.nm 1) (bh (aw fs (N-1)) .nil) (bj (aw fs (N-1)) (.call 13 (.cons (.var 2) (.cons (.bin .Add (.con (.int 40)) (.var 1)) (.cons (.con (.int 4)) .nil))) [])) [none,none,some (.cc ns)]) (aR 0 m) none= .ok ((List.range m).map λk=>.int ((bF ns (40+k) 4:Nat):Int),none):=by
   have er:aR 0 m=(List.range m).map λ(i:Nat)=>Dt.int i:=by unfold aR;exact Sj λi _=>by rw[Rt]
   rw[er];refine aU λj hj=>?_
   have hj:=QR.mp hj;have ec:(40:Int)+(j:Int)=((40+j:Nat):Int):=⋯
   have hp:aw fs (N-1) 13 [.cc ns,.int ((40+j:Nat):Int),.int 4] none=_:=pk (40+j) 4 ⋯ (by decide);exact aO (ρ1:=[none,some (.int j),some (.cc ns)]) rfl (by simp only[RX,ec,hp]) rfl
  have e:((List.range m).map λk=>Dt.int ((bF ns (40+k) 4:Nat):Int))=R.map Dt.int:=by simp only[R,Sl];rfl
  rw[e]at hc;exact aT (ds:=aR 0 m) (S1:=none) (dR (n:=m) rfl ⋯) (by simp[aR];lia) rfl hc
 generalize R=R at c4 lR;have hR:∀k,k<R.length->cu (.lst (R.map Dt.int)) (.int k)= .ok (.int (gI R k)):=λk h=>(oj (ds:=R.map Dt.int) (k:=k) (d:=.int (gI R k)) (by rw[Qp,xH h];rfl)).2
 have c5:ev (aw fs (N-1)) (.comp [none,none,some 4] (.seq (.var 1)) (.nm 1) .nil (.call 15 (.cons (.var 1) (.cons (.var 2) .nil)) [])) [some (.cc ns),some (lI M),some (.int m),some (.int far),some (.lst (R.map Dt.int)),none] none= .ok (.lst ((M.map λq=>aa q R).map Dt.int),none):=by
  have hc:aK (aN (.nm 1) (bh (aw fs (N-1)) .nil) (bj (aw fs (N-1)) (.call 15 (.cons (.var 1) (.cons (.var 2) .nil)) [])) [none,none,some (.lst (R.map Dt.int))]) (M.map tI) none= .ok (M.map λq=>.int (aa q R),none):=aU λq hq=>by have:=Cw (fs:=fs) (iw:=15) rfl (N:=N-1) ⋯ (a:=q) (b:=R) (λz hz=>by have:=(hw q hq).2 z hz;show z.natAbs<2^64;lia) (by rw[(hw q hq).1,lR];lia) (by rw[(hw q hq).1];lia) hR;exact aO (ρ1:=[none,some (tI q),some (.lst (R.map Dt.int))]) rfl (by simp only[RX,this]) rfl
  rw[show (M.map λq=>Dt.int (aa q R))=(M.map λq=>aa q R).map Dt.int by rw[Sl];rfl]at hc;exact aT (ds:=M.map tI) (S1:=none) rfl (by rw[Qf];lia) rfl hc
 generalize JH:(M.map λq=>aa q R)=r1 at c5;have l1:r1.length=M.length:=by rw[<-JH,Qf]
 have c6:ev (aw fs (N-1)) (.comp [none,none,some 3] (.seq (.mvr 5)) (.nm 1) .nil (.bi .max2 (.cons (.bin .Sub (.con (.int 0)) (.var 2)) (.cons (.bi .min2 (.cons (.var 2) (.cons (.var 1) .nil))) .nil)))) [some (.cc ns),some (lI M),some (.int m),some (.int far),some (.lst (R.map Dt.int)),some (.lst (r1.map Dt.int))] none= .ok (.lst ((r1.map λz=>cw far z).map Dt.int),none):=by
  have lQ:aK (aN (.nm 1) (bh (aw fs (N-1)) .nil) (bj (aw fs (N-1)) (.bi .max2 (.cons (.bin .Sub (.con (.int 0)) (.var 2)) (.cons (.bi .min2 (.cons (.var 2) (.cons (.var 1) .nil))) .nil)))) [none,none,some (.int far)]) (r1.map Dt.int) none= .ok (r1.map λz=>.int (cw far z),none):=cm λz _=>aO (ρ1:=[none,some (.int z),some (.int far)]) rfl (by simp only[RX];rfl) rfl
  rw[show (r1.map λz=>Dt.int (cw far z))=(r1.map λz=>cw far z).map Dt.int by rw[Sl];rfl]at lQ;exact aT (ds:=r1.map Dt.int) (S1:=none) rfl (by rw[Qf];lia) rfl lQ
 have tail:∀r2:List Int,r2.length=M.length->(∀x∈r2,x.natAbs<=20)->∃r:List Int,r.length=M.length/\(∀x∈r,x.natAbs<=20)/\fin (aV (aw fs (N-1)) NB [some (.cc ns),some (lI M),some (.int m),some (.int far),some (.lst (R.map Dt.int)),some (.lst (r2.map Dt.int))] none)= .ok (tI r,none):=λr2 k1 k2=>by
  have LM:aw fs (N-1) 13 [.cc ns,.int 47,.int 8] none=_:=pk 47 8 (by decide) (by decide);by_cases hz:bF ns 47 8=0
  ·refine⟨zeros M.length,by simp[zeros],λx hx=>by rw[RQ hx];decide,jC (S1:=none) (by rw[hz]at LM;simp only[RX,LM];rfl) (c9 (d:=.lst ((zeros M.length).map Dt.int)) (S1:=none) (qI hl rfl) rfl (ax rfl))⟩
  ·exact⟨r2,k1,k2,dy (S1:=none) (by have:(((bF ns 47 8:Nat):Int)==0)=false:=TC.mpr ⋯;simp only[RX,LM,this]) (ax rfl)⟩
 have l2:(r1.map λz=>cw far z).length=M.length:=by rw[Qf,l1]
 have b2:∀x∈r1.map λz=>cw far z,x.natAbs<=20:=λx hx=>by obtain⟨w,_,rfl⟩:=QF.mp hx;show (cw far w).natAbs<=20;unfold cw;split<;>split<;>lia
 generalize (r1.map λz=>cw far z)=r2 at c6 l2 b2;obtain⟨r,h1,h2,h3⟩:∃r:List Int,r.length=M.length/\(∀x∈r,x.natAbs<=20)/\fin (aV (aw fs (N-1)) Pg [some (.cc ns),some (lI M),some (.int m),some (.int far),some (.lst (R.map Dt.int)),some (.lst (r2.map Dt.int))] none)= .ok (tI r,none):=by
  have ln:=rK M;have LL:aw fs (N-1) 13 [.cc ns,.int 44,.int 4] none=_:=pk 44 4 (by decide) (by decide);by_cases hc:(0:Int)<(M.length:Int)/\bF ns 44 4=0
  ·have hM:0<M.length:=⋯
   have O9:aw fs (N-1) 13 [.cc ns,.int 45,.int (M.length:Nat)] none=_:=pk 45 M.length (by decide) hM;have Pa:aw fs (N-1) 13 [.cc ns,.int 46,.int ((2*far+1:Nat):Int)] none=_:=pk 46 (2*far+1) (by decide) ⋯;have lt:=jb (ns:=ns) (k:=45) (many:=M.length) hM;have PV:=jb (ns:=ns) (k:=46) (many:=2*far+1) ⋯;have m2:=aX (i:=2) (j:=far) (.inl (by decide));have ec:(2:Int)*(far:Int)+1=((2*far+1:Nat):Int):=⋯
   obtain⟨r,h1,h2,h3⟩:=tail (r2.set (bF ns 45 M.length) (((bF ns 46 (2*far+1):Nat):Int)-far)) (by rw[Sf,l2]) λx hx=>by
    rcases List.mem_or_eq_of_mem_set hx with hx|rfl
    ·exact b2 x hx
    ·lia
   rw[List.map_set]at h3;refine⟨r,h1,h2,jC (S1:=none) (by rw[hc.2]at LL;simp only[RX,ln,Qz hc.1,LL];rfl) (dN (S1:=none) (tL (ds:=r2.map Dt.int) (d:=.int (((bF ns 46 (2*far+1):Nat):Int)-far)) (S1:=none) (S2:=none) (n:=((bF ns 45 M.length:Nat):Int)) (j:=bF ns 45 M.length) rfl (by simp only[RX,m2,ec,Pa]) (by simp only[RX,ln,O9]) rfl ?_) h3)⟩;unfold oo;rw[Qf,TN ⋯,TN ⋯];simp
  ·obtain⟨r,h1,h2,h3⟩:=tail r2 l2 b2;refine⟨r,h1,h2,dy (S1:=none) ?_ h3⟩;by_cases h0:(0:Int)<(M.length:Int)
   ·have:(((bF ns 44 4:Nat):Int)==0)=false:=TC.mpr λz=>hc ⟨h0,by lia⟩
    simp only[RX,ln,Qz h0,LL,this];rfl
   ·simp only[RX,ln,Qv h0];rfl
 refine⟨r,h1,h2,aC (body:=Ki) rfl ⋯ rfl ?_⟩;show fin (aV (aw fs (N-1)) Ki [some (.cc ns),some (lI M),some (.int m),none,none,none] none)=_;exact aE (d:=.int far) (S1:=none) (by simp only[RX];rw[Dq];rfl) rfl (aE (d:=.lst (R.map Dt.int)) (S1:=none) c4 rfl (c9 (d:=.lst (r1.map Dt.int)) (S1:=none) c5 rfl (c9 (d:=.lst (r2.map Dt.int)) (S1:=none) c6 rfl h3)))
theorem yE{F:List (List Int)}(h:F.Pairwise Fu){k:Nat}{q:List Int}(hq:F[k]?=some q):br q (F.take k++F.drop (k+1))=false:=by
 have hk:=(P8.mp hq).1;have e:F=F.take k++q::F.drop (k+1):=by
  conv=>lhs;rw[<-SN k F]
  rw[RJ hk,(P8.mp hq).2]
 rw[e,SB,SC]at h;unfold br;rw[RE];intro f hf;rcases Qs.mp hf with hf|hf
 ·have:=(h.2.2 f hf q Qc).2.1;rw[this];exact Q2
 ·have:=(h.2.1.1 f hf).2.2;rw[this];exact Q2
theorem Hx{x:List Int}(h:∀z∈x,(0:Int)<=z):∀i,i<x.length->0<=gI x i:=λi hi=>h _ (dO hi)
theorem Ar{N m:Nat}{M:List (List Int)}{r:List Int}(hN:4<=N)(E:gX m M r)(hl:(d8 m M r).length<=900000):aw fs N 24 [lI (d8 m M r),lI M,tI r,.int m] none= .ok (.bl true,none):=by
 have dF:lim=1000000:=rfl;have m1:=E.m1;have m4:=E.m4;have ln:=E.ln;have P1:∀q∈d8 m M r,q.length=m/\(∀i,i<m->0<=gI q i)/\bH M r q/\br q (cq m M)=false:=λq hq=>iY E hq
 have P2:=jH E;have P3:∀x:List Int,x.length=m->(∀i,i<m->0<=gI x i)->bH M r x->x.sum<=([0,30,20,10,7]:List Int).getD m 0->br x (d8 m M r)=true:=λx h1 h2 h3 h4=>kS E _ (Tb _) h1 h2 h3 h4
 generalize d8 m M r=F at *;have Nu:∀x:List Int,x.length=m->aw fs (N-1) 16 [lI M,tI x,tI r] none= .ok (.bl (qx M r x),none):=λx hx=>DR (iw:=15) (is:=16) rfl rfl (N:=N-1) ⋯ (λk h=>gi h) E.rl ⋯ (λq hq z hz=>by have:=E.bd q hq z hz;show z.natAbs<2^64;lia) ⋯ E.wd hx
 have On:=CO (iw:=14) (ia:=21) (fs:=fs) rfl rfl (N:=N-1) (m:=m) ⋯ (F:=F) (λq hq=>(P1 q hq).1) (λq hq=>(P1 q hq).2.1) P2;have yl:=bC (S:=none) (tg:=.nm 4) (body:=aV (aw fs (N-1)) (.cons (.ifs (.or (.nt (.call 16 (.cons (.var 1) (.cons (.idx (.var 0) (.var 4)) (.cons (.var 2) .nil))) [])) (.call 18 (.cons (.bin .Add (.sliH (.var 0) (.var 4)) (.sliL (.var 0) (.bin .Add (.var 4) (.con (.int 1))))) (.cons (.idx (.var 0) (.var 4)) .nil)) [])) (.cons (.ret (.con (.bl false))) .nil) .nil) .nil)) (ds:=aR 0 F.length) (ρ:=[some (lI F),some (lI M),some (tI r),some (.int m),none,none])
  (λpre ρ=>∃x,ρ=[some (lI F),some (lI M),some (tI r),some (.int m),x,none]) ⟨none,rfl⟩ (by
   rintro pre y post ρ e ⟨x4,rfl⟩;obtain⟨h1,rfl⟩:=cV e;generalize pre.length=k at *;obtain⟨q,hq⟩:∃q,F[k]?=some q:=⟨F[k],Qu h1⟩;obtain⟨q1,q2,q3,_⟩:=P1 q (Sv hq);have i1:=om hq;have s1:=Nu q q1;rw[lH.mpr q3]at s1;have c1:fk (lI F) none (some (k:Int))= .ok (lI (F.take k)):=by show Rx.R.ok (Dt.lst (cutD (F.map tI) none (some (k:Int))))=_;rw[w6 _ (by rw[Qf];lia),<-List.map_take];rfl
   have c2:fk (lI F) (some ((k:Int)+1)) none= .ok (lI (F.drop (k+1))):=by show Rx.R.ok (Dt.lst (cutD (F.map tI) (some (((k+1:Nat)):Int)) none))=_;rw[rh _ (by rw[Qf];lia),<-List.map_drop];rfl
   have a1:l6 .Add (lI (F.take k)) (lI (F.drop (k+1)))= .ok (lI (F.take k++F.drop (k+1))):=by have:=A3 (a:=(F.take k).map tI) (b:=(F.drop (k+1)).map tI) (by rw[Qf,Qf,Sh,R9];lia);rw[<-QP]at this;exact this
   have u1:=wy (iu:=17) (io:=18) (fs:=fs) rfl rfl (N:=N-1) ⋯ q (F.take k++F.drop (k+1));rw[yE P2 hq]at u1;exact⟨_,_,rfl,i7 (S1:=none) (by simp only[RX,i1,s1,c1,c2,a1,u1,Q4];rfl) rfl,some (.int k),rfl⟩)
 obtain⟨ρ1,h1,x4,rfl⟩:=yl;obtain⟨T,hT,JG,Dq⟩:∃T:Nat,([0,30,20,10,7]:List Int).getD m 0=T/\(T+1)^m<=10000/\cu (.lst [.int 0,.int 30,.int 20,.int 10,.int 7]) (.int m)= .ok (.int T):=by
  have:m=1\/m=2\/m=3\/m=4:=⋯
  rcases this with rfl|rfl|rfl|rfl
  ·exact⟨30,rfl,by decide,rfl⟩
  ·exact⟨20,rfl,by decide,rfl⟩
  ·exact⟨10,rfl,by decide,rfl⟩
  ·exact⟨7,rfl,by decide,rfl⟩
 obtain⟨U,hU,Ol⟩:=Fb (N:=N-1) (m:=m) (T:=T) ⋯ m4 JG;have ym:=bC (S:=none) (tg:=.nm 5) (body:=aV (aw fs (N-1)) (.cons (.ifs (.and (.call 16 (.cons (.var 1) (.cons (.var 5) (.cons (.var 2) .nil))) []) (.nt (.call 18 (.cons (.var 0) (.cons (.var 5) .nil)) []))) (.cons (.ret (.con (.bl false))) .nil) .nil) .nil)) (ds:=U.map tI) (ρ:=[some (lI F),some (lI M),some (tI r),some (.int m),x4,none])
  (λpre ρ=>∃x,ρ=[some (lI F),some (lI M),some (tI r),some (.int m),x4,x]) ⟨none,rfl⟩ (by
   rintro pre y post ρ e ⟨x5,rfl⟩;obtain⟨q,pS,rfl⟩:=jl e;obtain⟨k1,k2,k3⟩:=Ol q (Sv pS);have s1:=Nu q k1;have u1:=wy (iu:=17) (io:=18) (fs:=fs) rfl rfl (N:=N-1) ⋯ q F;refine⟨_,_,rfl,i7 (S1:=none) ?_ rfl,some (tI q),rfl⟩;cases hs:qx M r q with
   |false=>rw[hs]at s1;simp only[RX,s1];rfl
   |true=>
    rw[hs]at s1;rw[P3 q k1 (λi hi=>Hx k2 i ⋯) (lH.mp hs) (by rw[hT];exact k3)]at u1;simp only[RX,s1,u1,Q4];rfl)
 obtain⟨ρ2,h2,x5,rfl⟩:=ym;have lf:=rK F;refine aC (body:=Kj) rfl ⋯ rfl ?_;show fin (aV (aw fs (N-1)) Kj [some (lI F),some (lI M),some (tI r),some (.int m),none,none] none)=_;refine dy (S1:=none) (by simp only[RX,On,Q4]) (bB (ds:=aR 0 F.length) (S1:=none) (dR (n:=F.length) (by simp only[RX,lf]) ⋯) rfl h1 (bB (ds:=U.map tI) (S1:=none) (gj (d:=lI U) ?_ rfl) rfl h2 (ax rfl)));simp only[RX];rw[Dq];simp only[RX,hU]
theorem Kp{m:Nat}(h:m<=4):fk (.tup [.int 0,.int 0,.int 0,.int 0]) none (some (m:Int))= .ok (tI (zeros m)):=by
 have:m=0\/m=1\/m=2\/m=3\/m=4:=⋯
 rcases this with rfl|rfl|rfl|rfl|rfl<;>rfl
theorem vF{m:Nat}{M:List (List Int)}(E:gX m M (zeros M.length)):d8 m M (zeros M.length)=[zeros m]:=by
 have hz:∀x∈d8 m M (zeros M.length),x=zeros m:=λx hx=>by
  obtain⟨h1,h2,h3,h4⟩:=iY E hx;refine jo (by rw[h1];simp[zeros]) λi hi=>?_
  rw[show gI (zeros m) i=0 from cA m i];have:=h2 i ⋯;refine Q7 λw=>?_
  rw[full E h1 h2 (dg.mp h3) ⟨i,by lia,by lia⟩]at h4;cases h4
 have h0:zeros m∈d8 m M (zeros M.length):=by
  refine(i4 E).mpr ⟨(bK E).mpr ⟨by simp[zeros],λi _=>by rw[show gI (zeros m) i=0 from cA m i];decide,dg.mpr λq _=>gL q m,λi _=>by rw[show gI (zeros m) i=0 from cA m i];exact E.Kn⟩,?_⟩;unfold br;rw[RE];intro f hf hu;obtain⟨f1,f2⟩:=eX E f hf;obtain⟨lf,nf,_,_⟩:=(bK E).mp f1;have hle:=(cg (by rw[lf];simp[zeros])).mp hu;have e:f=zeros m:=jo (by rw[lf];simp[zeros]) λi hi=>by
   have a1:=hle i hi;have a2:=nf i ⋯;rw[show gI (zeros m) i=0 from cA m i]at a1 ⊢
   lia
  rw[e]at f2;have:(zeros m).sum=0:=by unfold zeros;simp
  lia
 have hp:=jH E;generalize d8 m M (zeros M.length)=F at *
 match F with
 |[]=>cases h0
 |[a]=>rw[hz a (by simp)]
 |a::b::F=>have:=(SC.mp hp).1 b (by simp);rw[hz a (by simp),hz b (by simp)]at this;have u:=this.2.1;rw[lO]at u;cases u
theorem law_true:∀ns:List Int,ns.length<=63->∃S,aw fs 60 25 [.cc ns] none= .ok (.bl true,S):=λns _=>by
 refine⟨none,aC (body:=Kk) rfl (by decide) rfl ?_⟩;show fin (aV (aw fs 59) Kk [some (.cc ns),none,none,none,none,none,none] none)=_;have dF:lim=1000000:=rfl;have p0:aw fs 59 13 [.cc ns,.int 0,.int 4] none= .ok (.int (bF ns 0 4),none):=j8 (fs:=fs) tR (n:=59) (by decide) (ns:=ns) (k:=0) (many:=4) (by decide) (by decide);have l0:=jb (ns:=ns) (k:=0) (many:=4) (by decide);generalize bF ns 0 4=q at p0 l0;have ec:(1:Int)+(q:Int)=((1+q:Nat):Int):=⋯
 obtain⟨m,hm⟩:∃m,1+q=m:=⟨_,rfl⟩;rw[hm]at ec;obtain⟨M,M1,M2,M3⟩:=Bx (N:=59) (m:=m) (ns:=ns) (by decide) ⋯;obtain⟨r,r1,r2,r3⟩:=yT (N:=59) (m:=m) (ns:=ns) (M:=M) (by decide) ⋯ ⋯ ⋯ M2;have E:gX m M r:=⟨by lia,by lia,by lia,r1,λq hq=>(M2 q hq).1,λq hq=>(M2 q hq).2,r2⟩;obtain⟨L1,Ll⟩:=yo KR (it:=11) (N:=59) rfl (ei.lst M) (by decide) E;obtain⟨L2,_⟩:=yo KR (it:=11) (N:=59) rfl (ei.lst M) (by decide) E.zero;obtain⟨L3,_⟩:=yo KR (it:=11) (N:=59) rfl (ei.tup M) (by decide) E;rw[vF E.zero]at L2;have hg:=Ar (N:=59) (by decide) E Ll;have lk:d6 .list [lI M]= .ok (lI M):=rfl;have O3:d6 .list [lI (d8 m M r)]= .ok (lI (d8 m M r)):=rfl;have tp:d6 .tuple [lI M]= .ok (.tup (M.map tI)):=rfl;have tz:d6 .tuple [.lst ((zeros M.length).map Dt.int)]= .ok (tI (zeros M.length)):=rfl;have sl:=Kp (m:=m) ⋯;have hz:∀x5 x6,ev (aw fs 59) (.comp [none,none] (.seq (.var 2)) (.nm 1) .nil (.con (.int 0))) [some (.cc ns),some (.int m),some (lI M),some (tI r),some (lI M),x5,x6] none= .ok (.lst ((zeros M.length).map Dt.int),none):=λx5 x6=>qI ⋯ rfl
 obtain⟨q1,q2⟩:=xh M;obtain⟨q3,q4⟩:=xh (d8 m M r);have q5:cL .NotEq (lI [zeros m]) (.lst [tI (zeros m)])= .ok false:=(xh [zeros m]).2;generalize d8 m M r=F at *;refine aE (d:=.int m) (S1:=none) (by simp only[RX,p0,ec]) rfl (aE (d:=lI M) (S1:=none) (by simp only[RX,M3]) rfl (aE (d:=tI r) (S1:=none) (by simp only[RX,r3]) rfl (aE (d:=lI M) (S1:=none) (by simp only[RX,lk]) rfl (c9 (d:=lI F) (S1:=none) (by simp only[RX,L1]) rfl (dy (S1:=none) (by simp only[RX,hg,q2,Q4];rfl) (aE (d:=lI F) (S1:=none) (by simp only[RX,O3]) rfl (dy (S1:=none) ?_ (An (ds:=F.map tI) (d:=.tup []) (S1:=none) rfl rfl rfl (by rw[Qf];lia) (ax ?_)))))))))
 ·simp only[RX,hz,tz,L2,sl,q5,q4];rfl
 ·simp only[RX,L3,tp,q3]
end K24
end
section
namespace PySem.W.Fast
theorem tw12846533547493019906:True:=⟨⟩
theorem tw11279112612385439924:True:=⟨⟩
theorem tw8089625474477138343:True:=⟨⟩
theorem tw7704718903035251950:True:=⟨⟩
theorem tw8471101866430250519:True:=⟨⟩
theorem tw9681053598939887142:True:=⟨⟩
theorem tw1466307990826685658:True:=⟨⟩
theorem tw13129937253797289465:True:=⟨⟩
theorem tw18119458005588286290:True:=⟨⟩
theorem tw15363374790096063851:True:=⟨⟩
theorem tw8442276816936211080:True:=⟨⟩
theorem tw5010771593212858216:True:=⟨⟩
theorem tw3710246211137007990:True:=⟨⟩
theorem tw12623186853811615029:True:=⟨⟩
theorem tw7949612130792141376:True:=⟨⟩
theorem tw8789888986173210124:True:=⟨⟩
theorem tw15617063668570317294:True:=⟨⟩
theorem tw11140335803785696939:True:=⟨⟩
theorem tw8589574157558575383:True:=⟨⟩
theorem tw4598745356132547460:True:=⟨⟩
theorem tw872857779582076991:True:=⟨⟩
theorem tw16011062891511613220:True:=⟨⟩
theorem tw18431110494603445230:True:=⟨⟩
theorem tw4129706610651792274:True:=⟨⟩
theorem tw9612713990314860477:True:=⟨⟩
theorem tw3203563117175919709:True:=⟨⟩
theorem tw11146752510437098102:True:=⟨⟩
theorem tw7398615972376138983:True:=⟨⟩
theorem tw219552827560934083:True:=⟨⟩
theorem tw11816617173698857240:True:=⟨⟩
theorem tw9544078427886219973:True:=⟨⟩
theorem tw10752732585458211678:True:=⟨⟩
theorem tw11158956227002068766:True:=⟨⟩
theorem tw7078219222361983165:True:=⟨⟩
theorem tw7631678860623872395:True:=⟨⟩
theorem tw6422264443796647354:True:=⟨⟩
theorem tw7776850046244118985:True:=⟨⟩
theorem tw2839163536850017399:True:=⟨⟩
theorem tw12462293775305109789:True:=⟨⟩
theorem tw17703275845673888836:True:=⟨⟩
theorem tw15492751837626771121:True:=⟨⟩
theorem tw3142216682368902231:True:=⟨⟩
theorem tw9772605349526274658:True:=⟨⟩
theorem tw6795879568304554646:True:=⟨⟩
theorem tw12043158260448467884:True:=⟨⟩
theorem tw13204258313604143867:True:=⟨⟩
theorem tw14029455587204997766:True:=⟨⟩
theorem tw13186379782157044860:True:=⟨⟩
theorem tw2412785357787441499:True:=⟨⟩
theorem tw15772826574688493103:True:=⟨⟩
theorem tw7062640004337276083:True:=⟨⟩
theorem tw8477680935201668932:True:=⟨⟩
theorem tw12738341874463118881:True:=⟨⟩
theorem tw5466167275442945900:True:=⟨⟩
theorem tw3296817702850634118:True:=⟨⟩
theorem tw4055698052827497565:True:=⟨⟩
theorem tw10772168766712359482:True:=⟨⟩
theorem tw16732555051697652076:True:=⟨⟩
theorem tw8185817775900198778:True:=⟨⟩
theorem tw834071060355262965:True:=⟨⟩
theorem tw10208886501859589997:True:=⟨⟩
theorem tw4586167224048409015:True:=⟨⟩
theorem tw4356343930799131055:True:=⟨⟩
theorem tw10358935102813911690:True:=⟨⟩
theorem tw3356748226134052013:True:=⟨⟩
theorem tw15482019050724809433:True:=⟨⟩
theorem tw6664605211180850543:True:=⟨⟩
theorem tw718356085974380079:True:=⟨⟩
theorem tw16865105124881543668:True:=⟨⟩
theorem tw3351717913435548886:True:=⟨⟩
theorem tw1221489824551865138:True:=⟨⟩
theorem tw10431109405791371596:True:=⟨⟩
theorem tw6826829839245756465:True:=⟨⟩
theorem tw5449791029277639649:True:=⟨⟩
theorem tw1436211550575431948:True:=⟨⟩
theorem tw11577168253515614875:True:=⟨⟩
theorem tw5795460703346291015:True:=⟨⟩
theorem tw14676463585808268161:True:=⟨⟩
theorem tw11690413031087878635:True:=⟨⟩
theorem tw17277872271865009244:True:=⟨⟩
end PySem.W.Fast
open PySem PySem.W PyProof.Rows Rx
set_option maxHeartbeats 0 in
theorem PySem.Challenge.cw_mixform_k24_least_for_a_right_holds : PySem.Challenge.rw_mixform_k24_least_for_a_right.Holds := by
 w_on;o_law;k_head;(case hw=>w_witness2)
 k_fill
 refine walkR (k:=60) (l:=PySem.Challenge.rw_mixform_k24_least_for_a_right) rfl rfl ⟨rfl,by decide,by decide⟩ (λw h Y=>kIn_of Y) ?F
 case F=>
  intro w mg fa h KX G hmg;refine law_mk (rs:=K24.rows) (cons:=K24.cons) (bls:=K24.bls) (xs:=K24.xs) (L:=25) (n:=59) KX G hmg rfl K24.hok K24.hfs (λs v _ _ _ _ _ _=>.of_eq rfl) K24.law_true ?B ?C ?D ?E
  case B=>exact⟨by k_is,by k_is,by k_is,by k_is,by k_is,by k_is,by k_is,by k_is,by k_is,by k_is,by k_is,by k_is,by k_is,by k_is,by k_is,trivial⟩
  case C=>exact⟨⟨_,by k_is,rfl,by first|rfl|exact⟨_,rfl⟩⟩,⟨_,by k_is,rfl,by first|rfl|exact⟨_,rfl⟩⟩,⟨_,by k_is,rfl,by first|rfl|exact⟨_,rfl⟩⟩,⟨_,by k_is,rfl,by first|rfl|exact⟨_,rfl⟩⟩,trivial⟩
  case D=>
   refine⟨?_,?_,?_,?_,?_,?_,?_,?_,?_,?_,?_,?_,?_,?_,?_,?_,?_,?_,?_,?_,?_,?_,?_,?_,?_,?_,trivial⟩
   all_goals exact⟨_,_,_,_,_,_,_,_,_,_,_,by k_is,by k_is,by k_is,by k_is,λ_=>rfl,binds0 (by repeat first|exact len0 rfl|refine lenS λ_=>?_)⟩
  case E=>exact rfl
#print axioms PySem.Challenge.cw_mixform_k24_least_for_a_right_holds
end