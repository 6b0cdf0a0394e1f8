import PyProof.Rows.All
import Wide.All
import OpenK.AllK
import Wide.FinOn
import Lean
import PyProof.EqAt
import PyProof.EqKinds
import PyProof.TupleCall
import KE.KUnpack
import PyProof.NeKinds
import PyProof.FactsAll.tuple_2
import PyProof.WalksMore
import PyProof.AttrMissHeap
import KE.KDictOf
import PyProof.ExcBaseAll.ValueError
import KE.KTryMore
import PyProof.Rows.CallKwBuiltin
import PyProof.DictTable
import PySem.Challenge.RW_mixform_k81_rules_made
set_option Elab.async false
set_option linter.all false
set_option maxRecDepth 100000
set_option maxHeartbeats 4000000
set_option bootstrap.genMatcherCode false
local macro_rules|`(⋯)=>`(by lia)
section
open PySem PySem.W PySem.Spec PyProof.Rows
def Ql:=@wpAny_bind
def Qm:=@Option.bind_eq_some_iff
def Qn:=@Heap.get?_push_of_some
def Qo:=@wpAny_pure
def Qp:=@Bool.and_eq_true
def Qq:=@List.size_toArray
def Qr:=@of_decide_eq_true
def Qs:=@List.getElem?_eq_some_iff
def Qt:=@List.mem_cons_of_mem
def Qu:=@Nat.le_refl
def Qv:=@List.mem_cons_self
def Qw:=@Heap.get?_push_size
def Qx:=@List.length_map
def Qy:=@Heap.lt_size
def Qz:=@Nat.le_trans
def QA:=@List.mem_cons
def QB:=@List.not_mem_nil
def QC:=@List.append_assoc
def QD:=@Option.map_eq_some_iff
def QE:=@List.length_append
def QF:=@List.getElem?_set_ne
def QG:=@List.length_cons
def QH:=@List.getElem?_map
def QI:=@Array.length_toList
def QJ:=@Nat.lt_of_lt_of_le
def QK:=@List.mem_append
def QL:=@eq_of_beq
def QM:=@List.getElem?_eq_getElem
def QN:=@decide_eq_false
def QO:=@List.lookup_cons
def QP:=@KeyOrd.kle_trans
def QQ:=@Heap.get?_update_other
def QR:=@decide_eq_true
def QS:=@Heap.size_push
def QT:=@Nat.ne_of_lt
def QU:=@List.mem_append_right
def QV:=@wpAny_setField_rec
def QW:=@List.mem_singleton
def QX:=@List.mem_map
def QY:=@List.all_eq_true
def QZ:=@List.any_eq_true
def Q0:=@Int.emod_nonneg
def Q1:=@Int.emod_lt_of_pos
def Q2:=@List.append_nil
def Q3:=@Bool.or_eq_true
def Q4:=@List.getElem?_append_left
def Q5:=@List.getElem?_append_right
def Q6:=@List.map_cons
def Q7:=@List.map_append
def Q8:=@List.getElem?_set_self
def Q9:=@List.mem_range
def Ra:=@Bool.and_false
def Rb:=@Bool.and_true
def Rc:=@Bool.eq_iff_iff
def Re:=@Bool.false_eq_true
def Rf:=@Bool.false_ne_true
def Rg:=@Bool.not_eq_true'
def Rh:=@Bool.or_eq_true_iff
def Ri:=@Bool.or_true
def Rj:=@Classical.byContradiction
def Rk:=@F.args_tuple_iterator_next_1
def Rm:=@F.entry_tuple_iterator_next
def Rn:=@F.slot_tuple_iterator_next
def Ro:=@F.slot_zip_next
def Rp:=@Int.le_refl
def Rq:=@Int.mul_le_mul_of_nonneg_left
def Rr:=@Int.mul_le_mul_of_nonneg_right
def Rt:=@Int.mul_nonneg
def Ru:=@Int.toNat_natCast
def Rv:=@KeyOrd.kle_of_klt
def Rw:=@KeyOrd.kle_refl
def Ry:=@List.Perm.refl
def Rz:=@List.all_cons
def RA:=@List.drop_eq_getElem_cons
def RB:=@List.filterMap_cons
def RC:=@List.flatMap_cons
def RD:=@List.forIn_cons
def RE:=@List.getD_eq_getElem?_getD
def RF:=@List.getElem?_replicate
def RG:=@List.getElem?_set
def RH:=@List.getElem?_take_of_lt
def RI:=@List.getElem_mem
def RJ:=@List.getElem_toArray
def RK:=@List.length_drop
def RL:=@List.length_nil
def RM:=@List.length_range
def RN:=@List.length_replicate
def RP:=@List.length_set
def RQ:=@List.length_singleton
def RT:=@List.length_take
def RU:=@List.map_map
def RW:=@List.mem_append_left
def RY:=@List.mem_filterMap
def RZ:=@List.mem_flatMap
def R0:=@List.mem_iff_getElem?
def R1:=@List.mem_of_getElem?
def R3:=@List.mem_of_mem_take
def R4:=@List.nil_append
def R5:=@List.nodup_cons
def R6:=@List.of_mem_zip
def R7:=@List.pairwise_iff_getElem
def R8:=@List.sum_cons
def R9:=@List.take_of_length_le
def Sa:=@List.zip_cons_cons
def Sb:=@List.zip_nil_left
def Sd:=@List.zip_nil_right
def Se:=@Nat.le_of_lt
def Sf:=@Nat.le_succ
def Sg:=@Nat.lt_irrefl
def Sh:=@Nat.lt_succ_of_lt
def Si:=@Nat.lt_succ_self
def Sj:=@Nat.mul_le_mul
def Sk:=@Nat.ne_of_gt
def Sl:=@Nat.succ_mul
def Sm:=@Nat.zero_le
def Sn:=@Ne.symm
def So:=@Option.some.inj
def Sq:=@PyProof.Rows.callWith_type1
def Sr:=@PyProof.Rows.slot_tuple_getitem
def Ss:=@PySem.F.args_tuple_add_2
def Su:=@PySem.F.entry_tuple_add
def Sv:=@PySem.F.slot_tuple_add
def Sw:=@PySem.W.cellsFrom_some
def Sy:=@PySem.W.kia_one
def Sz:=@PySem.mem_of_lookup
def SA:=@beq_eq_false_iff_ne
def SB:=@beq_self_eq_true
def SC:=@call_meets
def SD:=@congrArg
def SE:=@if_false
def SF:=@if_neg
def SH:=@if_pos
def SI:=@if_true
def SJ:=@noFill_tuple_add
def SL:=@of_decide_eq_false
def SM:=@or_false
def SN:=@pushCells_keeps
def SQ:=@sizeLine_eq
def SR:=@wpAny_Call_Name_kw
def SU:=@wpAny_callSpecial?_slot
def SV:=@wpAny_call_entry
def SW:=@wpAny_field
def SX:=@wpAny_holding
def SY:=@wpAny_mono
def SZ:=@wpAny_newObj_type
def S4:=@wpAny_onRaise
def S5:=@wpAny_passesOwn
def S6:=@wpAny_pyIter_list
def S7:=@wpAny_pyIter_tuple
def S8:=@wpAny_rule
def S9:=@wpAny_seqItems
def Ta:=@wpAny_standAt
def Tb:=@wpAny_truthy_bool
def Tc:=@wpAny_typeOf
def Td:=@wpAny_updateSeq_pair
end
section
namespace L2
open PySem PySem.Spec PyProof.Rows
noncomputable abbrev Key:=Sum Int Str
noncomputable def sW:Key->Value->Bool
 |.inl k,v=>Value.isInt k v
 |.inr x,v=>Value.isStrOf x v
noncomputable def KY(w:World):Key->Int
 |.inl k=>hashInt k
 |.inr x=>hashStr w x
theorem br:∀{k:Key}{v:Value},sW k v=true->(∃i t,k=Sum.inl i/\v=Value.int i t)\/(∃x t,k=Sum.inr x/\v=Value.str x t)
 |.inl i,v,h=>by obtain⟨t,e⟩:=Value.isInt_shape (k:=i) (v:=v) h;exact .inl ⟨i,t,rfl,e⟩
 |.inr x,v,h=>by obtain⟨t,e⟩:=Value.isStrOf_shape (x:=x) (v:=v) h;exact .inr ⟨x,t,rfl,e⟩
theorem uJ(x:Str)(t:Tok):sW (.inr x) (.str x t)=true:=by simp[sW,Value.isStrOf]
theorem Dl(a b:Int):decide ((Sum.inl a:Key)=Sum.inl b)=(a==b):=by
 by_cases e:a=b
 ·subst e;simp
 ·have h:¬(Sum.inl a:Key)=Sum.inl b:=λq=>e (Sum.inl.inj q)
  rw[QN h];exact(SA.mpr e).symm
theorem Dp(a b:Str):decide ((Sum.inr a:Key)=Sum.inr b)=decide (a=b):=by
 by_cases e:a=b
 ·subst e;simp
 ·have h:¬(Sum.inr a:Key)=Sum.inr b:=λq=>e (Sum.inr.inj q)
  rw[QN h,QN e]
theorem Dm(a:Int)(b:Str):decide ((Sum.inl a:Key)=Sum.inr b)=false:=QN (λq=>nomatch q)
theorem Do(a:Str)(b:Int):decide ((Sum.inr a:Key)=Sum.inl b)=false:=QN (λq=>nomatch q)
noncomputable def bQ(prog:Program)(w:World):PySem.KeyKind prog w Key where
 is:=sW
 hash:=KY w
 inj:=λv a b ha hb=>by
  rcases br ha with ⟨i,t,rfl,rfl⟩|⟨x,t,rfl,rfl⟩
  ·rcases br hb with ⟨j,u,rfl,e⟩|⟨y,u,rfl,e⟩
   ·injection e with e1 _;rw[e1]
   ·exact nomatch e
  ·rcases br hb with ⟨j,u,rfl,e⟩|⟨y,u,rfl,e⟩
   ·exact nomatch e
   ·injection e with e1 _;rw[e1]
 byValue:=λk v h=>by rcases br h with ⟨i,t,rfl,rfl⟩|⟨x,t,rfl,rfl⟩<;>rfl
 pyHash:=λhv h=>by
  rcases br hv with ⟨i,t,rfl,rfl⟩|⟨x,t,rfl,rfl⟩
  ·exact wpAny_pyHash_int h
  ·exact wpAny_pyHash_str h
 eqBool:=λhu hv h=>by
  rcases br hu with ⟨i,t,rfl,rfl⟩|⟨x,t,rfl,rfl⟩
  ·rcases br hv with ⟨j,u,rfl,rfl⟩|⟨y,u,rfl,rfl⟩
   ·rw[Dl]at h;exact wpAny_eqBool_int h
   ·rw[Dm]at h;exact SeqAt.EqAt.int_str i t y u _ _ _ _ h
  ·rcases br hv with ⟨j,u,rfl,rfl⟩|⟨y,u,rfl,rfl⟩
   ·rw[Do]at h;exact SeqAt.EqAt.str_int x t j u _ _ _ _ h
   ·rw[Dp]at h;exact wpAny_eqBool_str h
 «strs»:=λk x t v h=>by
  rcases br h with ⟨i,u,rfl,e⟩|⟨y,u,rfl,e⟩
  ·exact nomatch e
  ·injection e with e1 _;subst e1;cases v<;>rfl
theorem fG(prog:Program)(w:World)(x:Str)(t:Tok):(bQ prog w).is (.inr x) (.str x t)=true:=uJ x t
end L2
namespace L2
open PySem PySem.Spec PyProof.Rows
inductive V where
 |bz|bl (b:Bool)|int (i:Int)|str (x:Str)|Cp (b:Array UInt8)|yY (b:UInt64)|ref (a:Addr)|ty (n:String)
 deriving DecidableEq
noncomputable def RelV:V->Value->Prop
 |.bz,u=>u=Value.none
 |.bl b,u=>u=Value.bool b
 |.int i,u=>∃t,u=Value.int i t
 |.str x,u=>∃t,u=Value.str x t
 |.Cp b,u=>∃t,u=Value.bytes b t
 |.yY b,u=>∃t,u=Value.float b t
 |.ref a,u=>u=Value.ref a
 |.ty n,u=>u=Value.type n
noncomputable abbrev aq:List V->List Value->Prop:=Paired RelV
theorem aq.length{xs:List V}{us:List Value}(r:aq xs us):xs.length=us.length:=Paired.length r
theorem aq.get:∀{xs:List V}{us:List Value}{i:Nat}{x:V},aq xs us->xs[i]?=some x->∃u,us[i]?=some u/\RelV x u
 |_,_,_,_,.nil,e=>by simp at e
 |_,_,0,_,.cons r _,e=>by simp at e;subst e;exact⟨_,rfl,r⟩
 |_,_,i+1,x,.cons _ t,e=>by obtain⟨u,h1,h2⟩:=aq.get (i:=i) (x:=x) t (by simpa using e);exact⟨u,by simpa using h1,h2⟩
theorem aq.set{x:V}{u:Value}(r:RelV x u):∀{xs:List V}{us:List Value}(i:Nat),aq xs us->aq (xs.set i x) (us.set i u)
 |_,_,_,.nil=>.nil
 |_,_,0,.cons _ t=>.cons r t
 |_,_,i+1,.cons q t=>.cons q (aq.set r i t)
theorem aq.append:∀{xs ys:List V}{us ws:List Value},aq xs us->aq ys ws->aq (xs++ys) (us++ws)
 |_,_,_,_,.nil,s=>s
 |_,_,_,_,.cons r t,s=>.cons r (aq.append t s)
theorem aq.take:∀{xs:List V}{us:List Value}(n:Nat),aq xs us->aq (xs.take n) (us.take n)
 |_,_,0,_=>.nil
 |_,_,_+1,.nil=>.nil
 |_,_,n+1,.cons r t=>.cons r (aq.take n t)
theorem aq.drop:∀{xs:List V}{us:List Value}(n:Nat),aq xs us->aq (xs.drop n) (us.drop n)
 |_,_,0,r=>r
 |_,_,_+1,.nil=>.nil
 |_,_,n+1,.cons _ t=>aq.drop n t
noncomputable def zj:Option V->Option Value->Prop
 |some v,some u=>RelV v u
 |none,none=>True
 |_,_=>False
noncomputable def KV{κ:Type}:List (κ×V)->List (κ×Value)->Prop:=Paired λ(p:κ×V)(q:κ×Value)=>p.1=q.1/\RelV p.2 q.2
noncomputable def kV:Key->V
 |.inl i=>.int i
 |.inr x=>.str x
inductive HO where
 |lst (xs:List V)
 |tup (xs:List V)
 |dK (bx:List (Key×V))|dT (bx:List (List Key×V))
 |set (S:Int->Bool) (n:Nat)
 |ins (C dx:Addr) (fs:List (Str×V))
 |own (x:Addr)
 |xd (fs:List (Str×V))
 |met (f x:Addr)
 |LA (lo hi:Int)
 |sC (o:Obj) (u:HO)
 |vm (ps:Array Value)
 |ext (φ:Heap->Prop)
noncomputable abbrev Hp:=Addr->Option HO
noncomputable def upd(H:Hp)(a:Addr)(o:HO):Hp:=λb=>if b=a then some o else H b
theorem ax{H:Hp}{a:Addr}{o:HO}:upd H a o a=some o:=by unfold upd;rw[SH rfl]
theorem az{H:Hp}{a b:Addr}{o:HO}(h:b≠a):upd H a o b=H b:=by unfold upd;rw[SF h]
theorem aY{H:Hp}{a b:Addr}{o:HO}(h:H a=some o)(h':H b=none):a≠b:=by intro e;subst e;rw[h]at h';cases h'
noncomputable def jQ(h:Heap)(a:Addr)(items:Array Value):Prop:=∃o,h.get? a=some o/\o.cls= .type "tuple"/\∃n,o.data= .seq items n/\o.dict=none/\o.slots=#[]
theorem jQ.is{h:Heap}{a:Addr}{items:Array Value}:jQ h a items->IsTup h a items
 |⟨o,a,b,n,c,_⟩=>⟨o,a,b,n,c⟩
theorem jQ.new(h:Heap)(items:Array Value):jQ (h.push {cls:=.type "tuple",data:=.seq items}) h.objs.size items:=⟨_,Qw _ rfl,rfl,_,rfl,rfl,rfl⟩
section
variable(P:Program)(w:World)
noncomputable def bw(H:Hp)(h:Heap)(a:Addr):HO->Prop
 |.lst xs=>xs.length<=sizeLine/\∃(its:List Value)(n:Nat),aq xs its/\h.get? a=some {cls:=.type "list",data:=.seq its.toArray n}
 |.tup xs=>xs.length<=sizeLine/\∃its:List Value,aq xs its/\jQ h a its.toArray
 |.dK bx=>bx.length<=sizeLine/\(a==sysModules)=false/\∃vs,KV bx vs/\h.DictOf (bQ P w) a vs
 |.dT bx=>bx.length<=sizeLine/\(a==sysModules)=false/\∃xs:List (List Key×Addr×Value),
   Paired (λ(p:List Key×V)(q:List Key×Addr×Value)=>p.1=q.1/\H q.2.1=some (.tup (p.1.map kV))/\RelV p.2 q.2.2) bx xs/\
   ∃o es ep,h.get? a=some o/\o.ExactDict/\o.data= .dict es ep/\es.toList=xs.map (entryOfKey (tupleKind (bQ P w)))/\(xs.map (·.1)).Nodup
 |.set S n=>h.SetOf (intKind P w) a S n
 |.ins C dx fs=>H dx=some (.own a)/\fs.length<=1000/\dx≠a/\h.get? a=some (PySem.W.instObj C dx)/\
   ∃mA,h.Ns1 dx mA/\(∀f,zj (fs.lookup f) (mA f))/\PySem.Within mA (fs.map (·.1))
 |.own _=>∃o,h.get? a=some o
 |.xd fs=>∃mA,h.Ns1 a mA/\∀f,zj (fs.lookup f) (mA f)
 |.LA lo hi=>∃t u v,h.get? a=some {cls:=.type "range",data:=.fields #[.int lo t,.int hi u,.int 1 v]}
 |.sC o u=>h.get? a=some o/\bw H h a u
 |.vm ps=>h.get? a=some {cls:=.none,data:=.fields ps}
 |.met f x=>h.get? a=some (PySem.W.methodObj (.ref f) (.ref x))
 |.ext φ=>φ h/\(∃o,h.get? a=some o)/\∀h1 h2:Heap,φ h1->(∀o,h1.get? a=some o->h2.get? a=some o)->φ h2
noncomputable def dX(H:Hp)(h:Heap):Prop:=∀a o,H a=some o->bw P w H h a o
end
section
variable{P:Program}{w:World}{H H':Hp}{h h':Heap}{a:Addr}{o:HO}
theorem bw.lt(x:bw P w H h a o):a<h.objs.size:=by
 cases o with
 |lst xs=>obtain⟨_,_,_,_,e⟩:=x;exact Qy e
 |tup xs=>obtain⟨_,_,_,p⟩:=x;exact p.is.lt
 |dK bx=>obtain⟨_,_,_,_,o,_,_,e,_⟩:=x;exact Qy e
 |dT bx=>obtain⟨_,_,_,_,o,_,_,e,_⟩:=x;exact Qy e
 |set S n=>obtain⟨o,_,_,_,e,_⟩:=x;exact Qy e
 |ins C dx fs=>obtain⟨_,_,_,e,_⟩:=x;exact Qy e
 |own y=>obtain⟨_,e⟩:=x;exact Qy e
 |xd fs=>obtain⟨_,⟨_,_,_,e,_⟩,_⟩:=x;exact Qy e
 |LA lo hi=>obtain⟨_,_,_,e⟩:=x;exact Qy e
 |sC ob u=>obtain⟨e,_⟩:=x;exact Qy e
 |vm ps=>exact Qy (show h.get? a=some _ from x)
 |met f y=>exact Qy (show h.get? a=some _ from x)
 |ext φ=>obtain⟨_,⟨_,e⟩,_⟩:=x;exact Qy e
theorem Paired.Du{α β:Type}{F G:α->β->Prop}:∀{l₁:List α}{l₂:List β},Paired F l₁ l₂->(∀a b,F a b->G a b)->Paired G l₁ l₂
 |_,_,.nil,_=>.nil
 |_,_,.cons r t,f=>.cons (f _ _ r) (Paired.Du t f)
theorem Paired.imp'{α β:Type}{F G:α->β->Prop}(f:∀a b,F a b->G a b){l₁:List α}{l₂:List β}(r:Paired F l₁ l₂):Paired G l₁ l₂:=Paired.Du r f
theorem bw.ly(x:bw P w H h a o)(k:∀b u,(b=a\/H b=some (.own a))->h.get? b=some u->h'.get? b=some u)
  (ho:∀b,H b=some (.own a)->H' b=some (.own a)) (ht:∀b xs,H b=some (.tup xs)->H' b=some (.tup xs)):bw P w H' h' a o:=by
 induction o with
 |lst xs=>obtain⟨z,its,n,r,e⟩:=x;exact⟨z,its,n,r,k _ _ (.inl rfl) e⟩
 |tup xs=>obtain⟨z,its,r,ob,e,c⟩:=x;exact⟨z,its,r,ob,k _ _ (.inl rfl) e,c⟩
 |dK bx=>obtain⟨z,y,vs,r,ob,es,ep,e,c⟩:=x;exact⟨z,y,vs,r,ob,es,ep,k _ _ (.inl rfl) e,c⟩
 |dT bx=>obtain⟨z,y,xs,r,ob,es,ep,e,c⟩:=x;exact⟨z,y,xs,Paired.Du r λp q z=>⟨z.1,ht _ _ z.2.1,z.2.2⟩,ob,es,ep,k _ _ (.inl rfl) e,c⟩
 |set S n=>obtain⟨ob,es,ep,t,e,c⟩:=x;exact⟨ob,es,ep,t,k _ _ (.inl rfl) e,c⟩
 |ins C dx fs=>obtain⟨d,z,ne,e,mA,⟨od,es,ep,e2,c⟩,r⟩:=x;exact⟨ho _ d,z,ne,k _ _ (.inl rfl) e,mA,⟨od,es,ep,k _ _ (.inr d) e2,c⟩,r⟩
 |own y=>obtain⟨ob,e⟩:=x;exact⟨ob,k _ _ (.inl rfl) e⟩
 |xd fs=>obtain⟨mA,⟨od,es,ep,e,c⟩,r⟩:=x;exact⟨mA,⟨od,es,ep,k _ _ (.inl rfl) e,c⟩,r⟩
 |LA lo hi=>obtain⟨t,u,v,e⟩:=x;exact⟨t,u,v,k _ _ (.inl rfl) e⟩
 |sC ob u ih=>obtain⟨e,q⟩:=x;exact⟨k _ _ (.inl rfl) e,ih q⟩
 |vm ps=>have e:h.get? a=some {cls:=.none,data:=.fields ps}:=x;show h'.get? a=some {cls:=.none,data:=.fields ps};exact k a _ (.inl rfl) e
 |met f y=>have e:h.get? a=some (PySem.W.methodObj (.ref f) (.ref y)):=x;show h'.get? a=some (PySem.W.methodObj (.ref f) (.ref y));exact k a _ (.inl rfl) e
 |ext φ=>obtain⟨p,⟨o,e⟩,st⟩:=x;exact⟨st _ _ p λo q=>k _ _ (.inl rfl) q,⟨o,k _ _ (.inl rfl) e⟩,st⟩
theorem dX.lt(x:dX P w H h)(e:H a=some o):a<h.objs.size:=(x a o e).lt
theorem dX.fresh(x:dX P w H h)(e:h.objs.size<=a):H a=none:=by
 cases q:H a with
 |none=>rfl
 |some u=>exact absurd (QJ (x.lt q) e) (Sg _)
theorem dX.kept(x:dX P w H h)(k:∀b u,h.get? b=some u->h'.get? b=some u):dX P w H h':=λa o e=>
 (x a o e).ly (λb u _ q=>k b u q) (λ_ q=>q) λ_ _ q=>q
theorem dX.laid(x:dX P w H h)(k:∀b u,h.get? b=some u->h'.get? b=some u)(hp:h.objs.size<=a)(new:bw P w (upd H a o) h' a o):dX P w (upd H a o) h':=λb u e=>by
 have hn:=x.fresh hp;by_cases hb:b=a
 ·subst hb;rw[ax]at e;cases e;exact new
 ·rw[az hb]at e;exact(x b u e).ly (λc v _ q=>k c v q) (λc q=>by rw[az (aY q hn)];exact q) λc xs q=>by rw[az (aY q hn)];exact q
end
noncomputable def Rd(H:Hp)(a:Addr)(u:HO):Prop:=H a=some u\/∃o,H a=some (.sC o u)
theorem Rd.ok{P:Program}{w:World}{H:Hp}{h:Heap}{a:Addr}{u:HO}(r:Rd H a u)(x:dX P w H h):bw P w H h a u:=by
 rcases r with r|⟨o,r⟩
 ·exact x a u r
 ·obtain⟨_,q⟩:=x a _ r;exact q
noncomputable def Iy:Option HO->Prop
 |some (.lst _)=>True
 |some (.dK _)=>True
 |some (.dT _)=>True
 |some (.set _ _)=>True
 |some (.ins _ _ _)=>True
 |some (.ext _)=>True
 |_=>False
section
variable{P:Program}{w:World}{H:Hp}{h h':Heap}{x e:Addr}{o':HO}
theorem dX.write(ok:dX P w H h)(mu:Iy (H x))(he:e=x\/H e=some (.own x))(k:∀b u,b≠e->h.get? b=some u->h'.get? b=some u)(EX:∃u,h'.get? e=some u)
  (new:bw P w (upd H x o') h' x o'):dX P w (upd H x o') h':=λb u q=>by
 have GY:∀c y,H c=some (.own y)->c≠x:=λc y r z=>by subst z;rw[r]at mu;exact mu
 have Lf:∀c xs,H c=some (.tup xs)->c≠x:=λc xs r z=>by subst z;rw[r]at mu;exact mu
 by_cases hb:b=x
 ·subst hb;rw[ax]at q;cases q;exact new
 ·rw[az hb]at q;by_cases hbe:b=e
  ·have q':H b=some (.own x):=by
    rcases he with z|z
    ·exact absurd (hbe.trans z) hb
    ·rw[hbe];exact z
   rw[q]at q';cases q';obtain⟨v,hv⟩:=EX;exact⟨v,by rw[hbe];exact hv⟩
  ·refine(ok b u q).ly (λc v hc r=>k c v ?_ r) (λc r=>by rw[az (GY c b r)];exact r) λc xs r=>by rw[az (Lf c xs r)];exact r
   rcases hc with rfl|hc
   ·exact hbe
   ·rintro rfl;rcases he with z|z
    ·exact GY c b hc z
    ·rw[hc]at z;cases z;exact hb rfl
end
structure Un(fs ex:List Addr)(H H':Hp)(h h':Heap):Prop where
 keep:∀b o,h.get? b=some o->H b=none->b∉fs->b∉ex->h'.get? b=some o
 slot:∀b o,h.get? b=some o->H b=none->b∈fs->b∉ex->∃sl,h'.get? b=some {o with slots:=sl}
 free:∀b o,h.get? b=some o->H b=none->b∉ex->H' b=none
 there:∀b o,h.get? b=some o->b∉ex->∃o',h'.get? b=some o'
 tups:∀b xs,H b=some (.tup xs)->H' b=some (.tup xs)
 frzs:∀b o u,H b=some (.sC o u)->H' b=some (.sC o u)
 tbls:∀b ps,H b=some (.vm ps)->∃more,H' b=some (.vm (ps++more))
section
variable{fs J7 ex PZ:List Addr}{H H1 H2:Hp}{h h1 h2 h':Heap}{a x e:Addr}{o:HO}
theorem Un.any(u:Un fs ex H H1 h h1){b:Addr}{ob:Obj}(q:h.get? b=some ob)(n:H b=none)(hx:b∉ex):∃sl,h1.get? b=some {ob with slots:=sl}:=by
 by_cases hb:b∈fs
 ·exact u.slot b ob q n hb hx
 ·exact⟨ob.slots,u.keep b ob q n hb hx⟩
theorem Un.trans(a:Un fs ex H H1 h h1)(b:Un fs ex H1 H2 h1 h2):Un fs ex H H2 h h2 where
 keep:=λc ob q n hc hx=>b.keep c ob (a.keep c ob q n hc hx) (a.free c ob q n hx) hc hx
 slot:=λc ob q n hc hx=>by obtain⟨sl,e1⟩:=a.slot c ob q n hc hx;obtain⟨HA,e2⟩:=b.slot c _ e1 (a.free c ob q n hx) hc hx;exact⟨HA,e2⟩
 free:=λc ob q n hx=>by obtain⟨o',e1⟩:=a.there c ob q hx;exact b.free c o' e1 (a.free c ob q n hx) hx
 there:=λc ob q hx=>by obtain⟨o',e1⟩:=a.there c ob q hx;exact b.there c o' e1 hx
 tups:=λc xs q=>b.tups c xs (a.tups c xs q)
 frzs:=λc ob xs q=>b.frzs c ob xs (a.frzs c ob xs q)
 tbls:=λc ps q=>by obtain⟨m1,e1⟩:=a.tbls c ps q;obtain⟨m2,e2⟩:=b.tbls c _ e1;exact⟨m1++m2,by rw[e2,Array.append_assoc]⟩
theorem Un.kept(k:∀b u,h.get? b=some u->h'.get? b=some u):Un fs ex H H h h':=
 ⟨λb ob q _ _ _=>k b ob q,λb ob q _ _ _=>⟨ob.slots,k b ob q⟩,λ_ _ _ n _=>n,λb ob q _=>⟨ob,k b ob q⟩,λ_ _ q=>q,λ_ _ _ q=>q,λ_ ps q=>⟨#[],by rw[q];simp⟩⟩
theorem Un.refl:Un fs ex H H h h:=Un.kept λ_ _ q=>q
theorem Un.laid(k:∀b u,h.get? b=some u->h'.get? b=some u)(hp:h.objs.size<=a)(hn:H a=none):Un fs ex H (upd H a o) h h' where
 keep:=λb u q _ _ _=>k b u q
 slot:=λb u q _ _ _=>⟨u.slots,k b u q⟩
 free:=λb u q n _=>by rw[az (QT (QJ (Qy q) hp))];exact n
 there:=λb u q _=>⟨u,k b u q⟩
 tups:=λb xs q=>by rw[az (aY q hn)];exact q
 frzs:=λb u xs q=>by rw[az (aY q hn)];exact q
 tbls:=λb ps q=>⟨#[],by rw[az (aY q hn),q];simp⟩
theorem Un.write(mu:Iy (H x))(he:e=x\/H e=some (.own x))(k:∀b u,b≠e->h.get? b=some u->h'.get? b=some u)(EX:∃u,h'.get? e=some u):Un fs ex H (upd H x o) h h':=by
 have hx:∀b,H b=none->b≠x:=λb n z=>by subst z;rw[n]at mu;exact mu
 have hb:∀b,H b=none->b≠e:=λb n z=>by
  subst z;rcases he with r|r
  ·exact hx b n r
  ·rw[n]at r;cases r
 have hm:∀b u,H b=some u->¬Iy (some u)->b≠x:=λb u q nm z=>by subst z;rw[q]at mu;exact nm mu
 refine⟨λb u q n _ _=>k b u (hb b n) q,λb u q n _ _=>⟨u.slots,k b u (hb b n) q⟩,λb u q n _=>by rw[az (hx b n)];exact n,λb u q _=>?_,
  λb xs q=>by rw[az (hm b _ q λz=>z)];exact q,λb u xs q=>by rw[az (hm b _ q λz=>z)];exact q,λb ps q=>⟨#[],by rw[az (hm b _ q λz=>z),q];simp⟩⟩
 by_cases hbe:b=e
 ·subst hbe;exact EX
 ·exact⟨u,k b u hbe q⟩
end
noncomputable def Em(h:Heap)(H:Hp):List Addr:=(List.range h.objs.size).filter λa=>(H a).isSome
noncomputable def nk(h:Heap)(H:Hp):Heap:=PySem.W.hideAll h (Em h H)
theorem uD(h:Heap)(H:Hp):(nk h H).objs.size=h.objs.size:=PySem.W.hideAll_size _ _
theorem wL{h:Heap}{H:Hp}{b:Addr}{o:Obj}(e:h.get? b=some o)(n:H b=none):(nk h H).get? b=some o:=
 PySem.W.hideAll_get _ e λhm=>by have q:(H b).isSome=true:=(List.mem_filter.mp hm).2;rw[n]at q;simp at q
theorem Ao{h:Heap}{H:Hp}{b:Addr}{o:Obj}(e:(nk h H).get? b=some o):h.get? b=some o/\H b=none:=by
 have e':h.get? b=some o:=PySem.W.of_hideAll (Em h H) e;refine⟨e',?_⟩;cases q:H b with
 |none=>rfl
 |some x=>have hm:b∈Em h H:=List.mem_filter.mpr ⟨Q9.mpr (Qy e'),by simp[q]⟩;have z:(nk h H).get? b=none:=PySem.W.hideAll_none (Em h H) hm;rw[z]at e;cases e
noncomputable def zm(g h:Heap)(L:Addr):List (Addr×Obj):=(List.range h.objs.size).filterMap λa=>if a=L\/(g.get? a).isSome=true then none else(h.get? a).map λo=>(a,o)
noncomputable def rest(g h:Heap)(L d:Addr):List (Addr×Obj):=(zm g h L).filter λp=>decide (p.1≠d)
end L2
namespace L2
open PySem PySem.Spec PyProof.Rows
structure Mod(K:PySem.W.Frag)(mg:Str->Option Value)(base:Heap):Prop where
 KZ:K.In base
 glob:base.Ns mainGlobals mg
 blt:∃mb,base.Ns builtinsNs mb/\∀x:Str,x≠"__name__"->mb x=bootBuiltins x
 nolimit:base.NoLimit
structure Cx where
 prog:Program
 w:World
 K:PySem.W.Frag
 mg:Str->Option Value
 base:Heap
 A:Around
 N:List Str
 s₀:Shared
 H₀:Hp
 env:Env
 outer:List Env
 stack:List Env
 ex:List Addr
 fn:Str->Bool
 calm:Bool
 pn:List (Addr×Obj)
 xe:Value->Shared->Prop
noncomputable def eD(l:List Env):List Addr:=l.filterMap (·.frame)
noncomputable abbrev Cx.fs(X:Cx):List Addr:=eD X.outer
noncomputable def EK(sc:Scope)(x:Str):Prop:=sc.names.lookup x=some .local\/sc.names.lookup x=some .cell\/sc.names.lookup x=some .free
noncomputable def Loc(sc:Scope)(x:Str):Prop:=sc.names.lookup x=some .local\/sc.names.lookup x=some .cell
noncomputable def Look(env:Env)(h:Heap)(m:Str->Option Value)(x:Str)(u:Value):Prop:=
 (env.kindOf x=some .local/\m x=some u)\/((env.kindOf x=some .cell\/env.kindOf x=some .free)/\∃c,env.cells.lookup x=some c/\h.IsCell c (some u))
structure Cx.Ok(X:Cx):Prop where
 mod:Mod X.K X.mg X.base
 kind:X.env.scope.kind= .function
 glob:X.env.globals=mainGlobals
 blt:X.env.builtins=builtinsNs
 above:X.s₀.heap.objs.size<=X.env.locals
 inj:∀x y c,X.env.cells.lookup x=some c->X.env.cells.lookup y=some c->x=y
 has:∀x,(X.env.kindOf x=some .cell\/X.env.kindOf x=some .free)->∃c,X.env.cells.lookup x=some c
 yW:∀x c,X.fn x=true->X.env.cells.lookup x=some c->X.s₀.heap.objs.size<=c
 hd:X.calm=true->X.A.handled=none
 frames:X.A.frames=some X.stack
 AX:X.stack=X.outer\/(X.stack=X.env::X.outer/\X.env.frame=some X.env.locals)
 Bq:∀b∈X.ex,b≠X.env.locals/\∀x c,X.env.cells.lookup x=some c->c≠b
 bs:∀b o,X.base.get? b=some o->X.s₀.heap.get? b=some o/\X.H₀ b=none
 vH:X.base.objs.size<=X.s₀.heap.objs.size
 lp:∀b o,X.base.get? b=some o->b∉X.ex
 mW:∀b∈X.ex,b∉X.fs
 gq:X.s₀.heap.FunFrames X.base X.outer
 zH:∀b∈X.fs,X.H₀ b=none
structure Inv(X:Cx)(pins:List (Addr×Obj))(σ:List (Option V))(H:Hp)(s:Shared):Prop where
 ok:X.Ok
 os:s.os=X.s₀.os
 bare:AllBare s.gens
 base:Un X.fs X.ex X.H₀ H X.s₀.heap s.heap
 loc:∃m,s.heap.Ns X.env.locals m/\∀(i:Nat)(x:Str)(v:V),X.N[i]?=some x->σ[i]?=some (some v)->EK X.env.scope x->∃u,RelV v u/\Look X.env s.heap m x u
 cell:∀x c,X.env.cells.lookup x=some c->∃v,s.heap.IsCell c v
 free:H X.env.locals=none
 cT:∀x c,X.env.cells.lookup x=some c->H c=none
 pin:∀p∈X.pn++pins,s.heap.get? p.1=some p.2/\H p.1=none/\p.1≠X.env.locals/\p.1∉X.fs/\∀v,p.2.data≠ .cell v
 hok:dX X.prog X.w H s.heap
 len:σ.length=X.N.length
section
variable{X:Cx}{pins:List (Addr×Obj)}{σ:List (Option V)}{H H':Hp}{s:Shared}{h':Heap}
theorem Cx.Ok.Lc(ok:X.Ok){b:Addr}{o:Obj}(e:X.base.get? b=some o):b∉X.fs:=λhb=>by have:=(ok.gq.mem hb).1;rw[e]at this;cases this
theorem Inv.bs(I:Inv X pins σ H s):∀b o,X.base.get? b=some o->s.heap.get? b=some o/\H b=none:=λb o e=>
 ⟨I.base.keep b o (I.ok.bs b o e).1 (I.ok.bs b o e).2 (I.ok.Lc e) (I.ok.lp b o e),I.base.free b o (I.ok.bs b o e).1 (I.ok.bs b o e).2 (I.ok.lp b o e)⟩
theorem Inv.bk(I:Inv X pins σ H s):∀b o,X.base.get? b=some o->s.heap.get? b=some o:=λb o e=>(I.bs b o e).1
theorem Inv.mod(I:Inv X pins σ H s):Mod X.K X.mg X.base:=I.ok.mod
theorem Inv.jF(I:Inv X pins σ H s):X.K.In s.heap:=I.ok.mod.KZ.keeps I.bk
theorem Inv.fr(I:Inv X pins σ H s):∃m,Fr X.base X.env.locals s.heap m:=
 let ⟨m,hn,_⟩:=I.loc
 ⟨m,hn,I.bk,Qz I.ok.vH I.ok.above⟩
theorem Inv.lt(I:Inv X pins σ H s):X.env.locals<s.heap.objs.size:=let ⟨_,hn,_⟩:=I.loc;hn.lt
theorem Inv.sz(I:Inv X pins σ H s):X.s₀.heap.objs.size<=s.heap.objs.size:=Qz I.ok.above (Se I.lt)
theorem Inv.Ld(I:Inv X pins σ H s){a:Addr}(h:s.heap.objs.size<=a):a∉X.fs:=λhb=>by obtain⟨_,o,ho,_⟩:=I.ok.gq.mem hb;exact absurd (QJ (Qy ho) (Qz I.sz h)) (Sg _)
theorem Inv.Cw(I:Inv X pins σ H s):∀x c,X.env.cells.lookup x=some c->c≠X.env.locals:=λx c e z=>by obtain⟨v,o,ho,hd⟩:=I.cell x c e;obtain⟨m,⟨o',es,ep,oR,kX,_⟩,_⟩:=I.loc;rw[z,oR]at ho;cases ho;rw[kX]at hd;cases hd
theorem Inv.gq(I:Inv X pins σ H s):s.heap.FunFrames X.base X.outer:=by
 have all:∀(l:List Env),(∀b∈eD l,b∈X.fs)->X.s₀.heap.FunFrames X.base l->s.heap.FunFrames X.base l:=by
  intro l
  induction l with
  |nil=>intro _ _;trivial
  |cons env r ih=>
   intro hs hl;obtain⟨hk,⟨L,o,hf,hn,ho,hd⟩,hr⟩:=hl;have hL:L∈X.fs:=hs L (by unfold eD;rw[RB,hf];exact Qv);obtain⟨sl,e⟩:=I.base.slot L o ho (I.ok.zH L hL) hL λz=>I.ok.mW L z hL
   exact⟨hk,⟨L,_,hf,hn,e,hd⟩,ih (λb hb=>hs b (by unfold eD;rw[RB,hf];exact Qt _ hb)) hr⟩
 exact all X.outer (λ_ hb=>hb) I.ok.gq
theorem Inv.stack(I:Inv X pins σ H s):s.heap.FunFrames X.base X.stack:=by
 rcases I.ok.AX with e|⟨e,hf⟩
 ·rw[e];exact I.gq
 ·rw[e];obtain⟨m,hn,_⟩:=I.loc;refine .cons (by rw[I.ok.kind];decide) hf hn ?_ I.gq;exact Heap.get?_none_of_le (Qz I.ok.vH I.ok.above)
theorem Inv.kL(I:Inv X pins σ H s):∀b∈eD X.stack,b∈X.env.locals::X.fs:=λb hb=>by
 rcases I.ok.AX with e|⟨e,hf⟩
 ·rw[e]at hb;exact Qt _ hb
 ·rw[e]at hb;unfold eD at hb;rw[RB,hf]at hb;exact hb
theorem Inv.nU(I:Inv X pins σ H s):∀b∈eD X.stack,H b=none:=λb hb=>by
 rcases QA.mp (I.kL b hb)with e|hb
 ·rw[e];exact I.free
 ·obtain⟨_,o,ho,_⟩:=I.ok.gq.mem hb;exact I.base.free b o ho (I.ok.zH b hb) λz=>I.ok.mW b z hb
theorem Inv.step{g':Array GenState}{t':Nat}{d':Drawn}{ch:List Addr}(I:Inv X pins σ H s)
  (y9:∀b∈ch,(b∈X.ex\/X.s₀.heap.objs.size<=b)/\b≠X.env.locals/\(∀x c,X.env.cells.lookup x=some c->c≠b)/\∀p∈X.pn++pins,p.1≠b)
  (keep:∀b o,b≠X.env.locals->b∉X.fs->b∉ch->s.heap.get? b=some o->H b=none->h'.get? b=some o)
  (slot:∀b o,b≠X.env.locals->b∈X.fs->b∉ch->s.heap.get? b=some o->H b=none->∃sl,h'.get? b=some {o with slots:=sl}) (free:∀b o,b∉ch->s.heap.get? b=some o->H b=none->H' b=none)
  (there:∀b o,b∉ch->s.heap.get? b=some o->∃o',h'.get? b=some o')
  (tups:∀b xs,H b=some (.tup xs)->H' b=some (.tup xs)) (frzs:∀b o u,H b=some (.sC o u)->H' b=some (.sC o u)) (tbls:∀b ps,H b=some (.vm ps)->∃more,H' b=some (.vm (ps++more)))
  (ns:∀m,s.heap.Ns X.env.locals m->h'.Ns X.env.locals m) (hok:dX X.prog X.w H' h') (hg:AllBare g'):
  Inv X pins σ H' {s with heap:=h',gens:=g',drawn:=d',toks:=t'}:=by
 have Jf:∀b o,X.s₀.heap.get? b=some o->b≠X.env.locals:=λb o e=>QT (QJ (Qy e) I.ok.above)
 have Je:∀b o,X.s₀.heap.get? b=some o->b∉X.ex->b∉ch:=λb o e hx hb=>by
  rcases (y9 b hb).1 with z|z
  ·exact hx z
  ·exact absurd (QJ (Qy e) z) (Sg _)
 have cellK:∀x c,X.env.cells.lookup x=some c->∀v,s.heap.IsCell c v->h'.IsCell c v:=λx c e v⟨o,ho,hd⟩=>by
  have GT:c∉ch:=λz=>(y9 c z).2.2.1 x c e rfl
  by_cases hc:c∈X.fs
  ·obtain⟨sl,q⟩:=slot c o (I.Cw x c e) hc GT ho (I.cT x c e);exact⟨_,q,hd⟩
  ·exact⟨o,keep c o (I.Cw x c e) hc GT ho (I.cT x c e),hd⟩
 refine⟨I.ok,I.os,hg,⟨λb o e n hb hx=>?_,λb o e n hb hx=>?_,λb o e n hx=>?_,λb o e hx=>?_,λb xs e=>tups b xs (I.base.tups b xs e),λb o xs e=>frzs b o xs (I.base.frzs b o xs e),λb ps e=>?_⟩,?_,λx c e=>?_,?_,λx c e=>?_,λp hp=>?_,hok,I.len⟩
 ·exact keep b o (Jf b o e) hb (Je b o e hx) (I.base.keep b o e n hb hx) (I.base.free b o e n hx)
 ·obtain⟨sl,e1⟩:=I.base.slot b o e n hb hx;obtain⟨HA,e2⟩:=slot b _ (Jf b o e) hb (Je b o e hx) e1 (I.base.free b o e n hx);exact⟨HA,e2⟩
 ·obtain⟨o',e1⟩:=I.base.there b o e hx;exact free b o' (Je b o e hx) e1 (I.base.free b o e n hx)
 ·obtain⟨o',e1⟩:=I.base.there b o e hx;exact there b o' (Je b o e hx) e1
 ·obtain⟨m1,e1⟩:=I.base.tbls b ps e;obtain⟨m2,e2⟩:=tbls b _ e1;exact⟨m1++m2,by rw[e2,Array.append_assoc]⟩
 ·obtain⟨m,hn,hl⟩:=I.loc;refine⟨m,ns m hn,λi x v e1 e2 e3=>?_⟩;obtain⟨u,r,l⟩:=hl i x v e1 e2 e3;refine⟨u,r,?_⟩;rcases l with l|⟨k,c,e,z⟩
  ·exact .inl l
  ·exact .inr ⟨k,c,e,cellK x c e _ z⟩
 ·obtain⟨v,z⟩:=I.cell x c e;exact⟨v,cellK x c e v z⟩
 ·obtain⟨m,⟨o,_,_,ho,_⟩,_⟩:=I.loc;exact free _ o (λz=>(y9 _ z).2.1 rfl) ho I.free
 ·obtain⟨v,o,ho,hd⟩:=I.cell x c e;exact free c o (λz=>(y9 c z).2.2.1 x c e rfl) ho (I.cT x c e)
 ·obtain⟨e,n,ne,nf,d⟩:=I.pin p hp;have GT:p.1∉ch:=λz=>(y9 p.1 z).2.2.2 p hp rfl
  exact⟨keep p.1 p.2 ne nf GT e n,free p.1 p.2 GT e n,ne,nf,d⟩
theorem Inv.un{t':Nat}(I:Inv X pins σ H s)(u:Un X.fs [] H H' s.heap h')(hok:dX X.prog X.w H' h'):Inv X pins σ H' {s with heap:=h',toks:=t'}:=by
 obtain⟨m,⟨o,es,ep,ho,r⟩,_⟩:=id I.loc;obtain⟨sl,hL⟩:=u.any ho I.free (by simp);exact I.step (g':=s.gens) (d':=s.drawn) (ch:=[]) (λ_ z=>nomatch z) (λb o _ hb _ e n=>u.keep b o e n hb (by simp)) (λb o _ hb _ e n=>u.slot b o e n hb (by simp)) (λb o _ e n=>u.free b o e n (by simp)) (λb o _ e=>u.there b o e (by simp)) u.tups u.frzs u.tbls (λm' hm=>by
  obtain⟨o',de,IF,oR,r'⟩:=hm;rw[ho]at oR;cases oR;exact⟨_,de,IF,hL,r'⟩) hok I.bare
theorem Inv.call{g':Array GenState}{t':Nat}{d':Drawn}{ch:List Addr}(I:Inv X pins σ H s)(u:Un (eD X.stack) ch H H' s.heap h')(hok:dX X.prog X.w H' h')(hg:AllBare g')
  (y9:∀b∈ch,(b∈X.ex\/X.s₀.heap.objs.size<=b)/\b≠X.env.locals/\(∀x c,X.env.cells.lookup x=some c->c≠b)/\∀p∈X.pn++pins,p.1≠b):
  Inv X pins σ H' {s with heap:=h',gens:=g',drawn:=d',toks:=t'}:=by
 obtain⟨m,⟨o,es,ep,ho,r⟩,_⟩:=id I.loc;obtain⟨sl,hL⟩:=u.any ho I.free λz=>(y9 _ z).2.1 rfl
 exact I.step (ch:=ch) y9 (λb o hL hb hc e n=>u.keep b o e n (λz=>(QA.mp (I.kL b z)).elim hL hb) hc) (λb o _ _ hc e n=>u.any e n hc) (λb o hc e n=>u.free b o e n hc) (λb o hc e=>u.there b o e hc) u.tups u.frzs u.tbls (λm' hm=>by
  obtain⟨o',de,IF,oR,r'⟩:=hm;rw[ho]at oR;cases oR;exact⟨_,de,IF,hL,r'⟩) hok hg
theorem Inv.turned{t':Nat}{it:Addr}(I:Inv X pins σ H s)(k:∀b o,b≠it->s.heap.get? b=some o->h'.get? b=some o)(hn:H it=none)(hL:it≠X.env.locals)
  (h1:it∈X.ex\/X.s₀.heap.objs.size<=it) (h2:∀x c,X.env.cells.lookup x=some c->c≠it) (h3:∀p∈X.pn++pins,p.1≠it):Inv X pins σ H {s with heap:=h',toks:=t'}:=by
 have Nd:∀b u,H b=some u->b≠it:=λb u e z=>by rw[z,hn]at e;cases e
 refine I.step (g':=s.gens) (d':=s.drawn) (ch:=[it]) (λb hb=>?_) (λb o _ _ hc e _=>k b o (λz=>hc (by simp[z])) e) (λb o _ _ hc e _=>⟨o.slots,k b o (λz=>hc (by simp[z])) e⟩) (λ_ _ _ _ n=>n)
  (λb o hc e=>⟨o,k b o (λz=>hc (by simp[z])) e⟩) (λ_ _ e=>e) (λ_ _ _ e=>e) (λb ps e=>⟨#[],by rw[e];simp⟩) (λm hm=>?_) (λb u e=>?_) I.bare
 ·have e:b=it:=by simpa using hb
  subst e;exact⟨h1,hL,h2,h3⟩
 ·obtain⟨o,es,ep,ho,r⟩:=hm;exact⟨o,es,ep,k _ o (Sn hL) ho,r⟩
 ·refine(I.hok b u e).ly (λc v hc q=>k c v ?_ q) (λ_ q=>q) λ_ _ q=>q
  rcases hc with z|z
  ·rw[z];exact Nd b u e
  ·exact Nd c _ z
theorem Inv.tok(I:Inv X pins σ H s)(t:Nat):Inv X pins σ H {s with toks:=t}:=I.un (h':=s.heap) (t':=t) Un.refl I.hok
theorem Inv.kept{t':Nat}(I:Inv X pins σ H s)(k:∀b u,s.heap.get? b=some u->h'.get? b=some u):Inv X pins σ H {s with heap:=h',toks:=t'}:=I.un (Un.kept k) (I.hok.kept k)
theorem Inv.laid{a:Addr}{o:HO}{t':Nat}(I:Inv X pins σ H s)(k:∀b u,s.heap.get? b=some u->h'.get? b=some u)(hp:s.heap.objs.size<=a)(new:bw X.prog X.w (upd H a o) h' a o):
  Inv X pins σ (upd H a o) {s with heap:=h',toks:=t'}:=I.un (Un.laid k hp (I.hok.fresh hp)) (I.hok.laid k hp new)
theorem Inv.write{x e:Addr}{o:HO}{t':Nat}(I:Inv X pins σ H s)(mu:Iy (H x))(he:e=x\/H e=some (.own x))(k:∀b u,b≠e->s.heap.get? b=some u->h'.get? b=some u)(EX:∃u,h'.get? e=some u)
  (new:bw X.prog X.w (upd H x o) h' x o):Inv X pins σ (upd H x o) {s with heap:=h',toks:=t'}:=I.un (Un.write mu he k EX) (I.hok.write mu he k EX new)
theorem Inv.weak{σ':List (Option V)}(I:Inv X pins σ H s)(hl:σ'.length=σ.length)(w:∀(i:Nat)v,σ'[i]?=some (some v)->σ[i]?=some (some v)):Inv X pins σ' H s:=
 ⟨I.ok,I.os,I.bare,I.base,let ⟨m,hn,uE⟩:=I.loc;⟨m,hn,λi x v e1 e2 e3=>uE i x v e1 (w i v e2) e3⟩,I.cell,I.free,I.cT,I.pin,I.hok,hl.trans I.len⟩
theorem Inv.fW{pins':List (Addr×Obj)}(I:Inv X pins σ H s)(h:∀p∈pins',s.heap.get? p.1=some p.2/\H p.1=none/\p.1≠X.env.locals/\p.1∉X.fs/\∀v,p.2.data≠ .cell v):Inv X pins' σ H s:=
 ⟨I.ok,I.os,I.bare,I.base,I.loc,I.cell,I.free,I.cT,λp hp=>(QK.mp hp).elim (λz=>I.pin p (RW _ z)) (h p),I.hok,I.len⟩
theorem il{N:List Str}(hN:N.Nodup){i j:Nat}{x:Str}(a:N[i]?=some x)(b:N[j]?=some x):i=j:=by obtain⟨h1,e1⟩:=Qs.mp a;obtain⟨h2,e2⟩:=Qs.mp b;exact(List.getElem_inj hN).mp (e1.trans e2.symm)
theorem mv{M:Model}{A:Around}{E:Value->Shared->Prop}{i:Nat}{x:Str}{v:V}{u:Value}{Q:Unit->Shared->Prop}(I:Inv X pins σ H s)(hN:X.N.Nodup)(hi:X.N[i]?=some x)(hx:Loc X.env.scope x)(r:RelV v u)
  (h:∀s',Inv X pins (σ.set i (some v)) H s'->(∃a,Heap.SameBut a s.heap s'.heap/\(a=X.env.locals\/X.env.cells.lookup x=some a))->Q () s') (hf:X.fn x=true\/X.env.scope.names.lookup x=some .local:=by first|exact .inl rfl|exact .inr rfl|assumption):wpAny M A (storeName X.env x u) Q E s:=by
 obtain⟨m,hn,hl⟩:=id I.loc;have oO:(X.env.scope.kind== .class||(X.env.scope.kind== .module&&X.env.locals != X.env.globals))=false:=by rw[I.ok.kind];rfl
 have hiσ:i<σ.length:=by rw[I.len];exact(Qs.mp hi).1
 have Cw:=I.Cw;have tracked:∀{a:Addr}{h':Heap},(∃o,s.heap.get? a=some o/\H a=none)->Heap.SameBut a s.heap h'->dX X.prog X.w H h':=λ {a h'} ha hs b ob e=>by
  obtain⟨_,_,Bz⟩:=ha;refine(I.hok b ob e).ly (λc w' hc q=>(hs.2 c ?_).trans q) (λ_ q=>q) λ_ _ q=>q
  rintro rfl;rcases hc with rfl|hc
  ·rw[Bz]at e;cases e
  ·rw[Bz]at hc;cases hc
 rcases hx with hk|hk
 ·refine wpAny_storeName_local hk hn (λh' Kx hs=>?_) oO;obtain⟨oL,_,_,IS,_⟩:=id hn;refine h _ ⟨I.ok,I.os,I.bare,⟨λb o e n hb hx=>?_,λb o e n hb hx=>?_,I.base.free,λb o e hx=>?_,I.base.tups,I.base.frzs,I.base.tbls⟩,⟨_,Kx,λj y v' e1 e2 e3=>?_⟩,λy c e=>?_,I.free,I.cT,λp hp=>?_,tracked ⟨oL,IS,I.free⟩ hs,by simpa using I.len⟩ ⟨_,hs,.inl rfl⟩
  ·exact(hs.2 b (QT (QJ (Qy e) I.ok.above))).trans (I.base.keep b o e n hb hx)
  ·obtain⟨sl,e1⟩:=I.base.slot b o e n hb hx;exact⟨sl,(hs.2 b (QT (QJ (Qy e) I.ok.above))).trans e1⟩
  ·obtain⟨o',e1⟩:=I.base.there b o e hx;exact⟨o',(hs.2 b (QT (QJ (Qy e) I.ok.above))).trans e1⟩
  ·by_cases hj:j=i
   ·subst hj;rw[hi]at e1;cases e1;rw[Q8 hiσ]at e2;cases e2;exact⟨u,r,.inl ⟨hk,by simp⟩⟩
   ·rw[QF (Sn hj)]at e2;obtain⟨u',r',q⟩:=hl j y v' e1 e2 e3;refine⟨u',r',?_⟩;rcases q with ⟨k,e⟩|⟨k,c,e,z⟩
    ·refine .inl ⟨k,?_⟩;have:y≠x:=λe=>hj (il hN e1 (e▸hi))
     simp[this,e]
    ·exact .inr ⟨k,c,e,z.sameBut hs (Cw y c e)⟩
  ·obtain⟨w',z⟩:=I.cell y c e;exact⟨w',z.sameBut hs (Cw y c e)⟩
  ·obtain⟨e,n,ne,nf,d⟩:=I.pin p hp;exact⟨(hs.2 p.1 ne).trans e,n,ne,nf,d⟩
 ·have wK:X.fn x=true:=by
   rcases hf with z|z
   ·exact z
   ·rw[z]at hk;cases hk
  obtain⟨c,hc⟩:=I.ok.has x (.inl hk);obtain⟨w',z⟩:=I.cell x c hc;refine wpAny_storeName_cell I.ok.kind hk hc z (λh' lh hs=>?_);obtain⟨oc,MZ,Ky⟩:=id z;refine h {s with heap:=h'} ⟨I.ok,I.os,I.bare,⟨λb o e n hb hx=>?_,λb o e n hb hx=>?_,I.base.free,λb o e hx=>?_,I.base.tups,I.base.frzs,I.base.tbls⟩,⟨m,hn.sameBut hs (Sn (Cw x c hc)),λj y v' e1 e2 e3=>?_⟩,λy c' e=>?_,I.free,I.cT,λp hp=>?_,tracked ⟨oc,MZ,I.cT x c hc⟩ hs,by simpa using I.len⟩ ⟨c,hs,.inr hc⟩
  ·exact(hs.2 b (QT (QJ (Qy e) (I.ok.yW x c wK hc)))).trans (I.base.keep b o e n hb hx)
  ·obtain⟨sl,e1⟩:=I.base.slot b o e n hb hx;exact⟨sl,(hs.2 b (QT (QJ (Qy e) (I.ok.yW x c wK hc)))).trans e1⟩
  ·obtain⟨o',e1⟩:=I.base.there b o e hx;exact⟨o',(hs.2 b (QT (QJ (Qy e) (I.ok.yW x c wK hc)))).trans e1⟩
  ·by_cases hj:j=i
   ·subst hj;rw[hi]at e1;cases e1;rw[Q8 hiσ]at e2;cases e2;exact⟨u,r,.inr ⟨.inl hk,c,hc,lh⟩⟩
   ·rw[QF (Sn hj)]at e2;obtain⟨u',r',q⟩:=hl j y v' e1 e2 e3;refine⟨u',r',?_⟩;rcases q with q|⟨k,c',e,z'⟩
    ·exact .inl q
    ·refine .inr ⟨k,c',e,z'.sameBut hs ?_⟩;rintro rfl;exact hj (il hN e1 (I.ok.inj _ _ _ e hc▸hi))
  ·by_cases hcc:c'=c
   ·subst hcc;exact⟨_,lh⟩
   ·obtain⟨w2,z2⟩:=I.cell y c' e;exact⟨w2,z2.sameBut hs hcc⟩
  ·obtain⟨e,n,ne,nf,d⟩:=I.pin p hp;refine⟨(hs.2 p.1 ?_).trans e,n,ne,nf,d⟩;intro q;rw[q,MZ]at e;have q':oc=p.2:=So e;exact d w' (by rw[<-q'];exact Ky)
theorem kM{M:Model}{A:Around}{E:Value->Shared->Prop}{i:Nat}{x:Str}{v:V}{u:Value}{Q:Unit->Shared->Prop}(I:Inv X pins σ H s)(hN:X.N.Nodup)(hi:X.N[i]?=some x)(hx:Loc X.env.scope x)(r:RelV v u)
  (h:∀s',Inv X pins (σ.set i (some v)) H s'->Q () s') (hf:X.fn x=true\/X.env.scope.names.lookup x=some .local:=by first|exact .inl rfl|exact .inr rfl|assumption):wpAny M A (storeName X.env x u) Q E s:=
 mv I hN hi hx r (λs' I' _=>h s' I') hf
theorem Inv.vL{s':Shared}{ch:List Addr}(I:Inv X pins σ H s)(ho:s'.os=s.os)(u:Un (eD X.stack) ch H H' s.heap s'.heap)(hok:dX X.prog X.w H' s'.heap)(hg:AllBare s'.gens)
  (y9:∀b∈ch,(b∈X.ex\/X.s₀.heap.objs.size<=b)/\b≠X.env.locals/\(∀x c,X.env.cells.lookup x=some c->c≠b)/\∀p∈X.pn++pins,p.1≠b):Inv X pins σ H' s':=by
 obtain⟨h',g',d',t',o'⟩:=s';have e:o'=s.os:=ho;subst e;exact I.call (g':=g') (t':=t') (d':=d') u hok hg y9
end
noncomputable abbrev XK:=Value->Option Addr->Hp->Prop
noncomputable abbrev St:=List (Option V)
noncomputable abbrev VK:=V->Hp->Prop
noncomputable abbrev TE:=St->Hp->VK->Prop
noncomputable abbrev TT:=St->Hp->(Bool->Hp->Prop)->Prop
noncomputable abbrev TA:=St->Hp->(List V->Hp->Prop)->Prop
structure Ends where
 nx:St->Hp->Prop
 rt:VK
 bk:St->Hp->Prop:=λ_ _=>False
 ct:St->Hp->Prop:=λ_ _=>False
noncomputable abbrev TS:=Ends->St->Hp->Prop
inductive EP(X:Cx)(pins:List (Addr×Obj))(σ:St)(Q:VK)(u:Value)(s':Shared):Prop
 |mk (v:V) (H':Hp) (i:Inv X pins σ H' s') (r:RelV v u) (q:Q v H'):EP X pins σ Q u s'
inductive TP(X:Cx)(pins:List (Addr×Obj))(σ:St)(Q:Bool->Hp->Prop)(b:Bool)(s':Shared):Prop
 |mk (H':Hp) (i:Inv X pins σ H' s') (q:Q b H'):TP X pins σ Q b s'
inductive AP(X:Cx)(pins:List (Addr×Obj))(σ:St)(Q:List V->Hp->Prop)(us:List Value)(s':Shared):Prop
 |mk (vs:List V) (H':Hp) (i:Inv X pins σ H' s') (r:aq vs us) (q:Q vs H'):AP X pins σ Q us s'
noncomputable def SP(X:Cx)(pins:List (Addr×Obj))(D:Ends)(f:Flow)(s':Shared):Prop:=
 match f with
 |.next=>∃σ' H',Inv X pins σ' H' s'/\D.nx σ' H'
 |.brk=>∃σ' H',Inv X pins σ' H' s'/\D.bk σ' H'
 |.cont=>∃σ' H',Inv X pins σ' H' s'/\D.ct σ' H'
 |.ret u=>∃v σ' H',Inv X pins σ' H' s'/\RelV v u/\D.rt v H'
noncomputable def PE(X:Cx)(e:Expr)(t:TE):Prop:=
 ∀(pins:List (Addr×Obj))(s:Shared)(σ:St)(H:Hp)(Q:VK),Inv X pins σ H s->t σ H Q->wpAny (model X.prog X.w) X.A (eval e X.env) (EP X pins σ Q) X.xe s
noncomputable def PT(X:Cx)(e:Expr)(t:TT):Prop:=
 ∀(pins:List (Addr×Obj))(s:Shared)(σ:St)(H:Hp)(Q:Bool->Hp->Prop),Inv X pins σ H s->t σ H Q->wpAny (model X.prog X.w) X.A (isTrue e X.env (eval e X.env)) (TP X pins σ Q) X.xe s
noncomputable def PW(X:Cx)(e:Expr)(t:TT):Prop:=
 ∀(whole:Sem Value)(pins:List (Addr×Obj))(s:Shared)(σ:St)(H:Hp)(Q:Bool->Hp->Prop),Inv X pins σ H s->t σ H Q->wpAny (model X.prog X.w) X.A (isTrue e X.env whole) (TP X pins σ Q) X.xe s
theorem PW.pt{X:Cx}{e:Expr}{t:TT}(h:PW X e t):PT X e t:=h _
noncomputable def PA(X:Cx)(es:List Expr)(t:TA):Prop:=
 ∀(pos:Pos)(pins:List (Addr×Obj))(s:Shared)(σ:St)(H:Hp)(Q:List V->Hp->Prop),Inv X pins σ H s->t σ H Q->wpAny (model X.prog X.w) X.A (spliced (backTo pos (starEach es X.env))) (AP X pins σ Q) X.xe s
noncomputable def PS(X:Cx)(st:Stmt)(t:TS):Prop:=
 ∀(pins:List (Addr×Obj))(s:Shared)(σ:St)(H:Hp)(D:Ends),Inv X pins σ H s->t D σ H->wpAny (model X.prog X.w) X.A (exec st X.env) (SP X pins D) X.xe s
noncomputable def oj(X:Cx)(st:List Stmt)(t:TS):Prop:=
 ∀(pins:List (Addr×Obj))(s:Shared)(σ:St)(H:Hp)(D:Ends),Inv X pins σ H s->t D σ H->wpAny (model X.prog X.w) X.A (execs st X.env) (SP X pins D) X.xe s
theorem bN{α:Type}{t:Sem α}{Q Q':α->Shared->Prop}{M:Model}{A:Around}{E:Value->Shared->Prop}{s:Shared}(h:wpAny M A t Q E s)(hQ:∀a s,Q a s->Q' a s):wpAny M A t Q' E s:=SY h hQ λ_ _ x=>x
end L2
namespace L2
open PySem PySem.Spec PyProof.Rows
section
variable{X:Cx}
theorem bin{a b:Expr}{ta tb:TE}(ha:PE X a ta)(hb:PE X b tb){pins:List (Addr×Obj)}{s:Shared}{σ:St}{H:Hp}{R:V->V->Hp->Prop}(I:Inv X pins σ H s)(h:ta σ H λx H1=>tb σ H1 λy H2=>R x y H2)
  {α:Type} {Q:α->Shared->Prop} {f:Value->Value->Sem α}
  (hf:∀v u s2 x y H2,Inv X pins σ H2 s2->RelV x v->RelV y u->R x y H2->wpAny (model X.prog X.w) X.A (f v u) Q X.xe s2):
  wpAny (model X.prog X.w) X.A (eval a X.env) (λv s₁=>wpAny (model X.prog X.w) X.A (eval b X.env) (λu s₂=>wpAny (model X.prog X.w) X.A (f v u) Q X.xe s₂) X.xe s₁) X.xe s:=by
 refine bN (ha pins s σ H _ I h) λv s1⟨x,H1,I1,r1,q1⟩=>?_
 refine bN (hb pins s1 σ H1 _ I1 q1) λu s2⟨y,H2,I2,r2,q2⟩=>?_
 exact hf v u s2 x y H2 I2 r1 r2 q2
noncomputable def jq(i:Nat):TE:=λσ H Q=>∃v,σ[i]?=some (some v)/\Q v H
noncomputable def tC(v:V):TE:=λ_ H Q=>Q v H
theorem qS{i:Nat}{x:Str}{pos:Pos}(hN:X.N[i]?=some x)(hv:EK X.env.scope x)(hd:(x==("__debug__":Str))=false:=by decide)(vf:(x==("__classdict__":Str))=false:=by decide):PE X (.Name x pos) (jq i):=by
 intro pins s σ H Q I h;obtain⟨v,e,h⟩:=h;obtain⟨m,hn,hl⟩:=I.loc;obtain⟨u,r,l⟩:=hl i x v hN e hv;have fin:EP X pins σ Q u s:=⟨v,H,I,r,h⟩;rcases l with ⟨hk,hm⟩|⟨hk,c,hc,oN⟩
 ·exact wpAny_Name (wpAny_loadName_local I.ok.kind hk hn hm fin) hd
 ·rcases hk with hk|hk
  ·exact wpAny_Name (wpAny_loadName_cell I.ok.kind hk hc oN fin) hd
  ·exact wpAny_Name (wpAny_loadName_free I.ok.kind hk hc oN fin vf) hd
theorem DN{i j pos}:PE X (.Constant (.int i) j pos) (tC (.int i)):=λ_ _ _ H _ I h=>wpAny_Constant_int ⟨.int i,H,I.tok _,⟨_,rfl⟩,h⟩
theorem BL{b j pos}:PE X (.Constant (.bool b) j pos) (tC (.bl b)):=λ_ _ _ H _ I h=>Constant_bool ⟨.bl b,H,I,rfl,h⟩
theorem DO{j pos}:PE X (.Constant .none j pos) (tC .bz):=λ_ _ _ H _ I h=>Constant_none ⟨.bz,H,I,rfl,h⟩
theorem xM{x j pos}:PE X (.Constant (.str x) j pos) (tC (.str x)):=λ_ _ _ H _ I h=>Calls.Constant_str ⟨.str x,H,I.tok _,⟨_,rfl⟩,h⟩
noncomputable def Gl(X:Cx)(x:Str):Prop:=X.env.kindOf x=some .globalImplicit
theorem hZ{E:Value->Shared->Prop}{pins:List (Addr×Obj)}{s:Shared}{σ:St}{H:Hp}{x:Str}{u:Value}{pos:Pos}{Q:Value->Shared->Prop}(I:Inv X pins σ H s)(hg:Gl X x)(hm:X.mg x=some u)(h:Q u s)
  (hd:(x==("__debug__":Str))=false:=by decide):wpAny (model X.prog X.w) X.A (eval (.Name x pos) X.env) Q E s:=
 Calls.Name_function_global I.ok.kind hg (Calls.loadGlobal_global (by rw[I.ok.glob];exact I.mod.glob.keeps I.bk) hm h) hd
theorem gv{E:Value->Shared->Prop}{pins:List (Addr×Obj)}{s:Shared}{σ:St}{H:Hp}{x:Str}{u:Value}{pos:Pos}{Q:Value->Shared->Prop}(I:Inv X pins σ H s)(hg:Gl X x)(hm:X.mg x=none)(hv:bootBuiltins x=some u)(h:Q u s)
  (hn:x≠"__name__":=by decide) (hd:(x==("__debug__":Str))=false:=by decide):wpAny (model X.prog X.w) X.A (eval (.Name x pos) X.env) Q E s:=by
 obtain⟨mb,h1,h2⟩:=I.mod.blt;exact Calls.Name_function_global I.ok.kind hg (Calls.loadGlobal_builtin (by rw[I.ok.glob];exact I.mod.glob.keeps I.bk) hm (by rw[I.ok.blt];exact h1.keeps I.bk) ((h2 x hn).trans hv) h) hd
theorem tx{x:Str}{v:V}{u:Value}{pos:Pos}(hg:Gl X x)(hm:X.mg x=some u)(r:RelV v u)(hd:(x==("__debug__":Str))=false:=by decide):PE X (.Name x pos) (tC v):=
 λ_ _ _ H _ I h=>hZ I hg hm ⟨v,H,I,r,h⟩ hd
theorem tv{x:Str}{v:V}{u:Value}{pos:Pos}(hg:Gl X x)(hm:X.mg x=none)(hv:bootBuiltins x=some u)(r:RelV v u)(hn:x≠"__name__":=by decide)(hd:(x==("__debug__":Str))=false:=by decide):PE X (.Name x pos) (tC v):=
 λ_ _ _ H _ I h=>gv I hg hm hv ⟨v,H,I,r,h⟩ hn hd
variable{a b:Expr}{ta tb:TE}{pos:Pos}
theorem xq(b:Expr){op:CmpOp}(h:op≠ .In)(h2:op≠ .NotIn):behindInMarks op b=false:=by
 have e1:(op==CmpOp.In)=false:=by cases op<;>first|rfl|exact absurd rfl h
 have e2:(op==CmpOp.NotIn)=false:=by cases op<;>first|rfl|exact absurd rfl h2
 cases b<;>simp[behindInMarks,e1,e2]
variable{tA Jj:TT}{rest:List Expr}
noncomputable def LO(t u:TT):TT:=λσ H Q=>t σ H λc H1=>if c=true then u σ H1 Q else Q false H1
noncomputable def Pv(t u:TT):TT:=λσ H Q=>t σ H λc H1=>if c=true then Q true H1 else u σ H1 Q
noncomputable def LW(t:TT):TT:=λσ H Q=>t σ H λc H1=>Q (!c) H1
theorem AJ(ha:PT X a tA):PW X (.BoolOp .And [a] pos) tA:=by
 intro wh pins s σ H Q I h;refine isTrue_and (bN (ha pins s σ H Q I h) λc s1 e=>?_);cases c with
 |true=>exact isTrue_and_nil e
 |false=>exact e
theorem DY(ha:PT X a tA):PW X (.BoolOp .Or [a] pos) tA:=by
 intro wh pins s σ H Q I h;refine isTrue_or (bN (ha pins s σ H Q I h) λc s1 e=>?_);cases c with
 |false=>exact isTrue_or_nil e
 |true=>exact e
theorem DX(ha:PT X a tA)(hb:PW X (.BoolOp .And (b::rest) pos) Jj):PW X (.BoolOp .And (a::b::rest) pos) (LO tA Jj):=by
 intro wh pins s σ H Q I h;refine isTrue_and (bN (ha pins s σ H _ I h) λc s1⟨H1,I1,q1⟩=>?_);cases c with
 |true=>exact hb wh pins s1 σ H1 Q I1 q1
 |false=>exact⟨H1,I1,q1⟩
theorem Hf(ha:PT X a tA)(hb:PW X (.BoolOp .Or (b::rest) pos) Jj):PW X (.BoolOp .Or (a::b::rest) pos) (Pv tA Jj):=by
 intro wh pins s σ H Q I h;refine isTrue_or (bN (ha pins s σ H _ I h) λc s1⟨H1,I1,q1⟩=>?_);cases c with
 |true=>exact⟨H1,I1,q1⟩
 |false=>exact hb wh pins s1 σ H1 Q I1 q1
theorem DW(ha:PT X a tA):PT X (.UnaryOp .Not a pos) (LW tA):=by intro pins s σ H Q I h;exact isTrue_not (bN (ha pins s σ H (λc H1=>Q (!c) H1) I h) λ_ _⟨H1,i,q⟩=>⟨H1,i,q⟩)
noncomputable def HF(ta tb:TE):TE:=λσ H Q=>ta σ H λx H1=>∃c,x= .bl c/\if c=true then tb σ H1 Q else Q (.bl false) H1
noncomputable def LY(ta tb:TE):TE:=λσ H Q=>ta σ H λx H1=>∃c,x= .bl c/\if c=true then Q (.bl true) H1 else tb σ H1 Q
noncomputable def HN(ta:TE):TE:=λσ H Q=>ta σ H λx H1=>∃c,x= .bl c/\Q (.bl (!c)) H1
theorem xK{op}{t:TE}(h:PE X a t):PE X (.BoolOp op [a] pos) t:=λpins s σ H Q I hw=>BoolOp_one (h pins s σ H Q I hw)
theorem xF(ha:PE X a ta)(hb:PE X (.BoolOp .And (b::rest) pos) tb):PE X (.BoolOp .And (a::b::rest) pos) (HF ta tb):=by
 intro pins s σ H Q I h;refine BoolOp_and (bN (ha pins s σ H _ I h) λv s1⟨x,H1,I1,r1,q1⟩=>?_);obtain⟨c,rfl,q1⟩:=q1;cases r1;refine Tb ?_;cases c with
 |true=>exact hb pins s1 σ H1 Q I1 q1
 |false=>exact⟨.bl false,H1,I1,rfl,q1⟩
theorem BO(ha:PE X a ta)(hb:PE X (.BoolOp .Or (b::rest) pos) tb):PE X (.BoolOp .Or (a::b::rest) pos) (LY ta tb):=by
 intro pins s σ H Q I h;refine BoolOp_or (bN (ha pins s σ H _ I h) λv s1⟨x,H1,I1,r1,q1⟩=>?_);obtain⟨c,rfl,q1⟩:=q1;cases r1;refine Tb ?_;cases c with
 |false=>exact hb pins s1 σ H1 Q I1 q1
 |true=>exact⟨.bl true,H1,I1,rfl,q1⟩
theorem xJ(ha:PE X a ta):PE X (.UnaryOp .Not a pos) (HN ta):=by intro pins s σ H Q I h;refine UnaryOp_ (bN (ha pins s σ H _ I h) λv s1⟨x,H1,I1,r1,q1⟩=>?_);obtain⟨c,rfl,q1⟩:=q1;cases r1;exact not_of (Tb ⟨.bl (!c),H1,I1,rfl,q1⟩)
end
end L2
namespace L2
open PySem PySem.Spec PyProof.Rows
noncomputable def dy(K:PySem.W.Frag)(H:Hp)(a:Addr)(xs:List V):Prop:=
 Rd H a (.lst xs)\/
  ∃(o:Obj)(its:Array Value)(n:Nat),K.lookup a=some o/\o.cls= .type "list"/\o.dict=none/\o.data= .seq its n/\its.size<=sizeLine/\aq xs its.toList
noncomputable def dY(K:PySem.W.Frag)(H:Hp)(a:Addr)(xs:List V):Prop:=
 Rd H a (.tup xs)\/
  ∃(o:Obj)(its:Array Value)(n:Nat),K.lookup a=some o/\o.cls= .type "tuple"/\o.data= .seq its n/\its.size<=sizeLine/\aq xs its.toList
noncomputable def JH:Value->Option V
 |.none=>some .bz
 |.bool b=>some (.bl b)
 |.int i _=>some (.int i)
 |.str x _=>some (.str x)
 |.bytes b _=>some (.Cp b)
 |.float b _=>some (.yY b)
 |.ref a=>some (.ref a)
 |.type n=>some (.ty n)
 |_=>none
theorem RelV.abs{x:V}{u:Value}(r:RelV x u):JH u=some x:=by
 cases x with
 |bz=>cases r;rfl
 |bl _=>cases r;rfl
 |int _=>obtain⟨t,rfl⟩:=r;rfl
 |str _=>obtain⟨t,rfl⟩:=r;rfl
 |Cp _=>obtain⟨t,rfl⟩:=r;rfl
 |yY _=>obtain⟨t,rfl⟩:=r;rfl
 |ref _=>cases r;rfl
 |ty _=>cases r;rfl
theorem RelV.inj{x y:V}{u:Value}(r:RelV x u)(q:RelV y u):x=y:=So (r.abs.symm.trans q.abs)
theorem aq.inj:∀{xs ys:List V}{us:List Value},aq xs us->aq ys us->xs=ys
 |_,_,_,.nil,.nil=>rfl
 |_,_,_,.cons r t,.cons r' t'=>by rw[r.inj r',aq.inj t t']
section
variable{X:Cx}{pins:List (Addr×Obj)}{σ:St}{H:Hp}{s:Shared}{a:Addr}{xs ys:List V}
theorem dy.of{K:PySem.W.Frag}(h:H a=some (.lst xs)):dy K H a xs:=.inl (.inl h)
theorem dY.of{K:PySem.W.Frag}(h:H a=some (.tup xs)):dY K H a xs:=.inl (.inl h)
theorem Inv.list(I:Inv X pins σ H s)(h:dy X.K H a xs):∃its:List Value,aq xs its/\PlainL s.heap a its.toArray/\xs.length<=sizeLine:=by
 rcases h with h|⟨o,its,n,hk,hc,hd,hs,hz,r⟩
 ·obtain⟨z,its,n,r,e⟩:=h.ok I.hok;exact⟨its,r,⟨_,n,e,rfl,rfl,rfl⟩,z⟩
 ·refine⟨its.toList,r,⟨o,n,I.jF a o hk,hc,hd,by simpa using hs⟩,?_⟩;have e:=r.length;simp only[QI]at e
  lia
theorem Inv.tuple(I:Inv X pins σ H s)(h:dY X.K H a xs):∃its:List Value,aq xs its/\IsTup s.heap a its.toArray/\xs.length<=sizeLine:=by
 rcases h with h|⟨o,its,n,hk,hc,hs,hz,r⟩
 ·obtain⟨z,its,r,p⟩:=h.ok I.hok;exact⟨its,r,p.is,z⟩
 ·refine⟨its.toList,r,⟨o,I.jF a o hk,hc,n,by simpa using hs⟩,?_⟩;have e:=r.length;simp only[QI]at e
  lia
theorem Inv.xh(I:Inv X pins σ H s)(h:dy X.K H a xs)(h':dy X.K H a ys):xs=ys:=by
 obtain⟨its,r,⟨o,n,e,_,_,d⟩,_⟩:=I.list h;obtain⟨its',r',⟨o',n',e',_,_,d'⟩,_⟩:=I.list h';rw[e]at e';cases e';rw[d]at d';injection d' with d1 _;have:its=its':=by simpa using SD Array.toList d1
 subst this;exact r.inj r'
theorem Inv.uZ(I:Inv X pins σ H s)(h:dY X.K H a xs)(h':dY X.K H a ys):xs=ys:=by
 obtain⟨its,r,⟨o,e,_,n,d⟩,_⟩:=I.tuple h;obtain⟨its',r',⟨o',e',_,n',d'⟩,_⟩:=I.tuple h';rw[e]at e';cases e';rw[d]at d';injection d' with d1 _;have:its=its':=by simpa using SD Array.toList d1
 subst this;exact r.inj r'
end
noncomputable abbrev Cx.cQ(X:Cx)(E:Value->Shared->Prop):Cx:={X with xe:=E}
theorem Cx.Ok.cQ{X:Cx}(ok:X.Ok)(E:Value->Shared->Prop):(X.cQ E).Ok:=
 ⟨ok.mod,ok.kind,ok.glob,ok.blt,ok.above,ok.inj,ok.has,ok.yW,ok.hd,ok.frames,ok.AX,ok.Bq,ok.bs,ok.vH,ok.lp,ok.mW,ok.gq,ok.zH⟩
theorem Cx.Ok.dW{X:Cx}{E:Value->Shared->Prop}(ok:(X.cQ E).Ok):X.Ok:=
 ⟨ok.mod,ok.kind,ok.glob,ok.blt,ok.above,ok.inj,ok.has,ok.yW,ok.hd,ok.frames,ok.AX,ok.Bq,ok.bs,ok.vH,ok.lp,ok.mW,ok.gq,ok.zH⟩
section
variable{X:Cx}{pins:List (Addr×Obj)}{σ:St}{H:Hp}{s:Shared}{E:Value->Shared->Prop}
theorem Inv.cQ(I:Inv X pins σ H s)(E:Value->Shared->Prop):Inv (X.cQ E) pins σ H s:=⟨I.ok.cQ E,I.os,I.bare,I.base,I.loc,I.cell,I.free,I.cT,I.pin,I.hok,I.len⟩
theorem Inv.dW(I:Inv (X.cQ E) pins σ H s):Inv X pins σ H s:=⟨I.ok.dW,I.os,I.bare,I.base,I.loc,I.cell,I.free,I.cT,I.pin,I.hok,I.len⟩
theorem SP.dW{D:Ends}{f:Flow}{s':Shared}(h:SP (X.cQ E) pins D f s'):SP X pins D f s':=by
 cases f with
 |next=>obtain⟨σ',H',I,q⟩:=h;exact⟨σ',H',I.dW,q⟩
 |brk=>obtain⟨σ',H',I,q⟩:=h;exact⟨σ',H',I.dW,q⟩
 |cont=>obtain⟨σ',H',I,q⟩:=h;exact⟨σ',H',I.dW,q⟩
 |ret u=>obtain⟨v,σ',H',I,r,q⟩:=h;exact⟨v,σ',H',I.dW,r,q⟩
end
section
variable{X:Cx}{st:Stmt}{rest:List Stmt}{t u:TS}{e:Expr}{te:TE}{pos:Pos}
noncomputable def yB:TS:=λD σ H=>D.nx σ H
noncomputable def HQ(t u:TS):TS:=λD σ H=>t {D with nx:=u D} σ H
theorem AF:oj X [] yB:=λ_ _ σ H _ I h=>wpAny_execs_nil ⟨σ,H,I,h⟩
theorem pA(h1:PS X st t)(h2:oj X rest u):oj X (st::rest) (HQ t u):=by
 intro pins s σ H D I h;refine wpAny_execs_cons (bN (h1 pins s σ H {D with nx:=u D} I h) λf s1 q=>?_);cases f with
 |next=>obtain⟨σ',H',I',q⟩:=q;exact h2 pins s1 σ' H' D I' q
 |ret v=>exact q
 |brk=>exact q
 |cont=>exact q
theorem tI(h1:PS X st t):oj X [st] t:=by
 intro pins s σ H D I h;refine wpAny_execs_cons (bN (h1 pins s σ H D I h) λf s1 q=>?_);cases f with
 |next=>exact wpAny_execs_nil q
 |ret v=>exact q
 |brk=>exact q
 |cont=>exact q
noncomputable def yy:TS:=λD σ H=>D.bk σ H
noncomputable def BX:TS:=λD σ H=>D.ct σ H
theorem AC:PS X (.Pass pos) yB:=λ_ _ σ H _ I h=>wpAny_Pass ⟨σ,H,I,h⟩
theorem xW:PS X (.Break pos) yy:=λ_ _ σ H _ I h=>wpAny_Break ⟨σ,H,I,h⟩
theorem pv:PS X (.Continue pos) BX:=λ_ _ σ H _ I h=>wpAny_Continue ⟨σ,H,I,h⟩
theorem Inv.quiet{pins:List (Addr×Obj)}{σ:St}{H:Hp}{s:Shared}(I:Inv X pins σ H s):interactive X.env=false:=by simp[interactive,I.ok.kind]
noncomputable def pH(te:TE):TS:=λD σ H=>te σ H λ_ H1=>D.nx σ H1
theorem jI(he:PE X e te)(hs:swapsWith e none pos.line X.env=pure false:=by rfl):PS X (.Expr e pos) (pH te):=by intro pins s σ H D I h;exact wpAny_Expr_any (bN (he pins s σ H _ I h) λv s1⟨x,H1,I1,r1,q1⟩=>⟨σ,H1,I1,q1⟩) I.quiet hs
noncomputable def Ej(te:TE):TS:=λD σ H=>te σ H D.rt
theorem kE(he:PE X e te):PS X (.Return (some e) pos) (Ej te):=by intro pins s σ H D I h;exact wpAny_Return_some (bN (he pins s σ H _ I h) λv s1⟨x,H1,I1,r1,q1⟩=>⟨x,σ,H1,I1,r1,q1⟩)
noncomputable def BY:TS:=λD _ H=>D.rt .bz H
theorem AD:PS X (.Return none pos) BY:=λ_ _ σ H _ I h=>wpAny_Return_none ⟨.bz,σ,H,I,rfl,h⟩
noncomputable def HM(c:TT)(t u:TS):TS:=λD σ H=>c σ H λb H1=>if b=true then t D σ H1 else u D σ H1
theorem He{c:Expr}{a b:List Stmt}{tc:TT}(hc:PT X c tc)(ha:oj X a t)(hb:oj X b u):PS X (.If c a b pos) (HM tc t u):=by
 intro pins s σ H D I h;refine wpAny_If (bN (hc pins s σ H _ I h) λd s1⟨H1,I1,q1⟩=>?_);cases d with
 |true=>exact ha pins s1 σ H1 D I1 q1
 |false=>exact hb pins s1 σ H1 D I1 q1
end
noncomputable abbrev TG:=V->St->Hp->(St->Hp->Prop)->Prop
noncomputable abbrev t7:=List V->St->Hp->(St->Hp->Prop)->Prop
noncomputable def PG(X:Cx)(target:Expr)(t:TG):Prop:=
 ∀(pins:List (Addr×Obj))(s:Shared)(σ:St)(H:Hp)(v:V)(u:Value)(Q:St->Hp->Prop),Inv X pins σ H s->RelV v u->t v σ H Q->
  wpAny (model X.prog X.w) X.A (assign target X.env u) (λ_ s'=>∃σ' H',Inv X pins σ' H' s'/\Q σ' H') X.xe s
noncomputable def EI(X:Cx)(ts:List Expr)(t:t7):Prop:=
 ∀(pins:List (Addr×Obj))(s:Shared)(σ:St)(H:Hp)(vs:List V)(us:List Value)(Q:St->Hp->Prop),Inv X pins σ H s->aq vs us->t vs σ H Q->
  wpAny (model X.prog X.w) X.A (assignInOrder ((assignEach ts X.env).map (·.2)) us) (λ_ s'=>∃σ' H',Inv X pins σ' H' s'/\Q σ' H') X.xe s
noncomputable abbrev Cb:=V->V->V->Hp->(Hp->Prop)->Prop
noncomputable def Fi(X:Cx)(t:Cb):Prop:=
 ∀(pins:List (Addr×Obj))(s:Shared)(σ:St)(H:Hp)(o i v:V)(ov iv u:Value)(Q:Hp->Prop),Inv X pins σ H s->RelV o ov->RelV i iv->RelV v u->t o i v H Q->
  wpAny (model X.prog X.w) X.A (setItem ov iv u) (λ_ s'=>∃H',Inv X pins σ H' s'/\Q H') X.xe s
section
variable{X:Cx}{pos:Pos}
noncomputable def d7(i:Nat):TG:=λv σ H Q=>Q (σ.set i (some v)) H
theorem Av{i:Nat}{x:Str}(hN:X.N.Nodup)(hi:X.N[i]?=some x)(hx:Loc X.env.scope x)(hf:X.fn x=true\/X.env.scope.names.lookup x=some .local:=by first|exact .inl rfl|exact .inr rfl|assumption):PG X (.Name x pos) (d7 i):=by intro pins s σ H v u Q I r h;exact wpAny_assign_Name (kM I hN hi hx r (λs' I'=>⟨_,H,I',h⟩) hf)
noncomputable def CM:t7:=λvs σ H Q=>vs=[]/\Q σ H
noncomputable def wx(t:TG)(u:t7):t7:=λvs σ H Q=>∃v r,vs=v::r/\t v σ H λσ' H'=>u r σ' H' Q
theorem Ax:EI X [] CM:=by intro pins s σ H vs us Q I r h;obtain⟨e,h⟩:=h;subst e;cases r;exact assignInOrder_nil ⟨σ,H,I,h⟩
theorem xQ{e:Expr}{es:List Expr}{t:TG}{u:t7}(h1:PG X e t)(h2:EI X es u)
  (hs:(assignEach (e::es) X.env).map (·.2)=assign e X.env::(assignEach es X.env).map (·.2):=by rfl):EI X (e::es) (wx t u):=by
 intro pins s σ H vs us Q I r h;obtain⟨v,vr,e1,h⟩:=h;subst e1;cases r with
 |cons r rr=>rw[hs];refine assignInOrder_cons (bN (h1 pins s σ H _ _ _ I r h) λ_ s1⟨σ1,H1,I1,q1⟩=>?_);exact h2 pins s1 σ1 H1 _ _ Q I1 rr q1
noncomputable def CN(K:PySem.W.Frag)(n:Nat)(t:t7):TG:=λv σ H Q=>∃a xs,v= .ref a/\dY K H a xs/\xs.length=n/\t xs σ H Q
theorem xP{es:List Expr}{k:Nat}{t:t7}{n:Nat}(hc:X.calm=true)(h:EI X es t)
  (hn:(assignEach es X.env).length=n:=by rfl) (lU:(assignEach es X.env).findIdx? (·.1)=none:=by rfl):PG X (.Tuple es k pos) (CN X.K n t):=by
 intro pins s σ H v u Q I r hw;obtain⟨a,xs,e1,hq,hl,hw⟩:=hw;subst e1;cases r;obtain⟨its,rv,ht,hz⟩:=I.tuple hq;refine assign_Tuple_tuple (I.ok.hd hc) ht (by simp[hn,<-hl,rv.length]) lU λh' hx=>?_
 have I1:Inv X pins σ H {s with heap:=h'}:=I.kept (t':=s.toks) λb o e=>hx b o (QT (Qy e)) e
 exact h pins _ σ H xs _ Q I1 (by simpa using rv) hw
noncomputable def FG(to ti:TE)(t:Cb):TG:=λv σ H Q=>to σ H λo H1=>ti σ H1 λi H2=>t o i v H2 λH3=>Q σ H3
theorem DP{o i:Expr}{to ti:TE}{t:Cb}(ho:PE X o to)(hi:PE X i ti)(hs:Fi X t)
  (ha:∀v,assign (.Subscript o i pos) X.env v=(do
   let ov<-holding [v] (eval o X.env)
   let iv<-holding [v,ov] (eval i X.env)
   standAt pos
   holding [v,ov,iv] (setItem ov iv v)
   release [v,ov,iv] []):=by intro _;rfl):PG X (.Subscript o i pos) (FG to ti t):=by
 intro pins s σ H v u Q I r h;rw[ha];refine Ql (SX (bN (ho pins s σ H _ I h) λov s1⟨x,H1,I1,r1,q1⟩=>?_));refine Ql (SX (bN (hi pins s1 σ H1 _ I1 q1) λiv s2⟨y,H2,I2,r2,q2⟩=>?_));refine Ql (Ta (Ql (SX (bN (hs pins s2 σ H2 x y v ov iv u _ I2 r1 r2 r q2) λ_ s3⟨H3,I3,q3⟩=>?_))));exact wpAny_release ⟨σ,H3,I3,q3⟩
noncomputable def nW(te:TE)(g:TG):TS:=λD σ H=>te σ H λx H1=>g x σ H1 D.nx
theorem xV{tg e:Expr}{te:TE}{g:TG}(he:PE X e te)(hg:PG X tg g)(hs:swapsWithSole [tg] e pos.line X.env=pure false:=by rfl)(hw:swappedStores [tg] e X.env=pure none:=by rfl)
  (h1:(assignEach [tg] X.env).map (·.2)=[assign tg X.env]:=by rfl):PS X (.Assign [tg] e pos) (nW te g):=by
 intro pins s σ H D I h;refine wpAny_Assign_stores (bN (he pins s σ H _ I h) λv s1⟨x,H1,I1,r1,q1⟩=>?_) hs hw;rw[h1];exact bN (hg pins s1 σ H1 x v _ I1 r1 q1) λ_ s2 q=>q
theorem qX{i:Nat}{x:Str}{e:Expr}{te:TE}{pos':Pos}(hN:X.N.Nodup)(hi:X.N[i]?=some x)(hx:Loc X.env.scope x)(he:PE X e te)(hs:swapsWith e (some (.Name x pos')) pos.line X.env=pure false:=by rfl)(hf:X.fn x=true\/X.env.scope.names.lookup x=some .local:=by first|exact .inl rfl|exact .inr rfl|assumption):
  PS X (.Assign [.Name x pos'] e pos) (nW te (d7 i)):=by
 intro pins s σ H D I h;refine wpAny_Assign_Name (bN (he pins s σ H _ I h) λv s1⟨y,H1,I1,r1,q1⟩=>?_) hs;exact kM I1 hN hi hx r1 (λs2 I2=>⟨_,H1,I2,q1⟩) hf
end
structure It where
 go:Nat->Hp->Prop
 yld:Nat->Hp->V->Hp->Prop
 stop:Nat->Hp->Prop
noncomputable def gj(X:Cx)(pins:List (Addr×Obj))(H:Hp)(b:Addr):Prop:=
 H b=none/\b≠X.env.locals/\b∉X.fs/\(b∈X.ex\/X.s₀.heap.objs.size<=b)/\(∀x c,X.env.cells.lookup x=some c->c≠b)/\∀p∈X.pn++pins,p.1≠b
theorem Inv.uz{X:Cx}{pins:List (Addr×Obj)}{σ:St}{H H':Hp}{s:Shared}{b:Addr}(I:Inv X pins σ H s)(hb:s.heap.objs.size<=b)(hn:H' b=none):gj X pins H' b:=by
 refine⟨hn,Sk (QJ I.lt hb),I.Ld hb,.inr (Qz I.sz hb),λx c e z=>?_,λp hp z=>?_⟩
 ·obtain⟨v,q⟩:=I.cell x c e;exact absurd (QJ q.lt (by rw[z];exact hb)) (Sg _)
 ·exact absurd (QJ (Qy (I.pin p hp).1) (by rw[z];exact hb)) (Sg _)
structure Turn(P:Program)(w:World)(K:PySem.W.Frag)(tg:Expr)(J:It)(fp:List Addr)(it:Addr)(tn:Nat->Heap->Prop):Prop where
 mem:it∈fp
 obj:∀i h,tn i h->∀b∈fp,∃o,h.get? b=some o/\∀v,o.data≠ .cell v
 keep:∀i h h',tn i h->(∀b∈fp,∀o,h.get? b=some o->h'.get? b=some o)->tn i h'
 item:∀(X:Cx),X.prog=P->X.w=w->X.K=K->X.calm=true->∀(i:Nat)(pins:List (Addr×Obj))(s:Shared)(σ:St)(H:Hp)(E:Value->Shared->Prop),Inv X pins σ H s->(∀b∈fp,gj X pins H b)->tn i s.heap->J.go i H->
  wpAny (model P w) X.A (pyNext (.ref it)) (λr s1=>∃u,r=some u/\
   wpAny (model P w) X.A (letOwnedTupleGo tg (.ref it) u) (λ_ s2=>∃x H',Inv X pins σ H' s2/\RelV x u/\J.yld i H x H'/\tn (i+1) s2.heap/\∀b∈fp,H' b=none) E s1) E s
 done:∀(X:Cx),X.prog=P->X.w=w->X.K=K->X.calm=true->∀(i:Nat)(pins:List (Addr×Obj))(s:Shared)(σ:St)(H:Hp)(E:Value->Shared->Prop),Inv X pins σ H s->(∀b∈fp,gj X pins H b)->tn i s.heap->J.stop i H->
  wpAny (model P w) X.A (pyNext (.ref it)) (λr s1=>r=none/\Inv X pins σ H s1) E s
 self:∀(A:Around)(i:Nat)(s:Shared)(Q:Value->Shared->Prop)(E:Value->Shared->Prop),tn i s.heap->Q (.ref it) s->wpAny (model P w) A (pyIter (.ref it)) Q E s
noncomputable abbrev TI:=St->Hp->(It->Hp->Prop)->Prop
noncomputable def Ml(X:Cx)(pins:List (Addr×Obj))(σ:St)(tg:Expr)(R:It->Hp->Prop)(qF:Value)(s2:Shared):Prop:=
 ∃(it:Addr)(fp:List Addr)(tn:Nat->Heap->Prop)(J:It)(H':Hp),qF= .ref it/\Inv X pins σ H' s2/\Turn X.prog X.w X.K tg J fp it tn/\tn 0 s2.heap/\(∀b∈fp,gj X pins H' b)/\R J H'
noncomputable def PI(X:Cx)(tg iter:Expr)(wi:TI):Prop:=
 ∀(pins:List (Addr×Obj))(s:Shared)(σ:St)(H:Hp)(R:It->Hp->Prop),Inv X pins σ H s->wi σ H R->
  wpAny (model X.prog X.w) X.A (eval iter X.env) (λv s1=>wpAny (model X.prog X.w) X.A (pyIter v) (Ml X pins σ tg R) X.xe s1) X.xe s
theorem wC{M:Model}{A:Around}{E:Value->Shared->Prop}{s:Shared}{tg:Expr}{it:Addr}{u:Value}{o:Obj}{n:String}{vs:Array Value}{Q:Unit->Shared->Prop}(ho:s.heap.get? it=some o)(hc:o.cls= .type n)(hd:o.data= .fields vs)
  (hn:["enumerate","zip","dict_itemiterator","dict_reverseitemiterator","odict_iterator","itertools.zip_longest","itertools.pairwise"].contains n=false) (hQ:Q () s):wpAny M A (letOwnedTupleGo tg (.ref it) u) Q E s:=by
 unfold letOwnedTupleGo;cases tg<;>first
  |exact Qo hQ
  |(cases u<;>first
    |exact Qo hQ
    |(refine Ql (wpAny_load ho ?_);rw[hc,hd];show wpAny M A (if (["enumerate","zip","dict_itemiterator","dict_reverseitemiterator","odict_iterator","itertools.zip_longest","itertools.pairwise"].contains n&&vs[0]?==some (rawInt _))=true then _ else _) Q E s;rw[SF (by intro h;rw[hn,Bool.false_and]at h;cases h)];exact Qo hQ))
noncomputable def Iu(K:PySem.W.Frag)(a:Addr):It:=
 ⟨λi H=>∃xs x,dy K H a xs/\xs[i]?=some x,λi H x H'=>H'=H/\∀xs,dy K H a xs->xs[i]?=some x,λi H=>∃xs,dy K H a xs/\xs.length<=i⟩
noncomputable def Jz(K:PySem.W.Frag)(a:Addr):It:=
 ⟨λi H=>∃xs x,dY K H a xs/\xs[i]?=some x,λi H x H'=>H'=H/\∀xs,dY K H a xs->xs[i]?=some x,λi H=>∃xs,dY K H a xs/\xs.length<=i⟩
noncomputable def Iv(lo:Int)(n:Nat):It:=⟨λi _=>i<n,λi H x H'=>H'=H/\x= .int (lo+i),λi _=>n<=i⟩
theorem u3{P:Program}{w:World}{K:PySem.W.Frag}{tg:Expr}(a it:Addr):Turn P w K tg (Iu K a) [it] it (λi h=>h.IsListIter it a i) where
 mem:=by simp
 obj:=λi h st b hb=>by
  have e:b=it:=by simpa using hb
  subst e;obtain⟨o,e,c,d⟩:=st;exact⟨o,e,λv z=>by rw[d]at z;cases z⟩
 keep:=λi h h' st k=>st.at λo e=>k it (by simp) o e
 item:=by
  intro X hP hw hK hc i pins s σ H E I hf st hg;subst hP hw hK;obtain⟨xs,x,hq,hx⟩:=hg;obtain⟨its,rv,p,hz⟩:=I.list hq;obtain⟨u,hu,ru⟩:=rv.get hx;obtain⟨f0,f1,f2,f3,f4,f5⟩:=hf it (by simp);refine wpAny_pyNext_list_item st p.isList (x:=u) (by simpa using hu) λh' k6 sb=>?_
  have I1:Inv X pins σ H {s with heap:=h'}:=I.turned (t':=s.toks) (λb o hb e=>(sb.2 b hb).trans e) f0 f1 f3 f4 f5;obtain⟨o,e,c,d⟩:=id k6;exact⟨u,rfl,wC (s:={s with heap:=h'}) e c d (by decide) ⟨x,H,I1,ru,⟨rfl,λys hy=>by rw[I.xh hy hq];exact hx⟩,k6,λb hb=>(hf b hb).1⟩⟩
 done:=by intro X hP hw hK hc i pins s σ H E I hf st hg;subst hP hw hK;obtain⟨xs,hq,hx⟩:=hg;obtain⟨its,rv,p,hz⟩:=I.list hq;obtain⟨f0,f1,f2,f3,f4,f5⟩:=hf it (by simp);have hl:=rv.length;exact wpAny_pyNext_list_end (I.ok.hd hc) st p.isList (by simp;lia) λh' eb=>⟨rfl,I.turned (t':=s.toks) (λb o hb e=>eb b o hb e) f0 f1 f3 f4 f5⟩
 self:=λ_ _ _ _ _ st h=>wpAny_pyIter_listiter st h
theorem rn{P:Program}{w:World}{K:PySem.W.Frag}{tg:Expr}(a it:Addr):Turn P w K tg (Jz K a) [it] it (λi h=>h.IsTupleIter it a i) where
 mem:=by simp
 obj:=λi h st b hb=>by
  have e:b=it:=by simpa using hb
  subst e;obtain⟨o,e,c,d⟩:=st;exact⟨o,e,λv z=>by rw[d]at z;cases z⟩
 keep:=λi h h' st k=>st.at λo e=>k it (by simp) o e
 item:=by
  intro X hP hw hK hc i pins s σ H E I hf st hg;subst hP hw hK;obtain⟨xs,x,hq,hx⟩:=hg;obtain⟨its,rv,p,hz⟩:=I.tuple hq;obtain⟨u,hu,ru⟩:=rv.get hx;obtain⟨f0,f1,f2,f3,f4,f5⟩:=hf it (by simp);refine wpAny_pyNext_tuple_item st (show s.heap.IsTuple a its.toArray from p) (x:=u) (by simpa using hu) λh' k6 sb=>?_
  have I1:Inv X pins σ H {s with heap:=h'}:=I.turned (t':=s.toks) (λb o hb e=>(sb.2 b hb).trans e) f0 f1 f3 f4 f5;obtain⟨o,e,c,d⟩:=id k6;exact⟨u,rfl,wC (s:={s with heap:=h'}) e c d (by decide) ⟨x,H,I1,ru,⟨rfl,λys hy=>by rw[I.uZ hy hq];exact hx⟩,k6,λb hb=>(hf b hb).1⟩⟩
 done:=by intro X hP hw hK hc i pins s σ H E I hf st hg;subst hP hw hK;obtain⟨xs,hq,hx⟩:=hg;obtain⟨its,rv,p,hz⟩:=I.tuple hq;obtain⟨f0,f1,f2,f3,f4,f5⟩:=hf it (by simp);have hl:=rv.length;exact wpAny_pyNext_tuple_end (I.ok.hd hc) st (show s.heap.IsTuple a its.toArray from p) (by simp;lia) λh' eb=>⟨rfl,I.turned (t':=s.toks) (λb o hb e=>eb b o hb e) f0 f1 f3 f4 f5⟩
 self:=λ_ _ _ _ _ st h=>wpAny_pyIter_tupleiter st h
theorem rl{P:Program}{w:World}{K:PySem.W.Frag}{tg:Expr}(it:Addr)(lo:Int)(n:Nat):Turn P w K tg (Iv lo n) [it] it (λi h=>IsRangeIter h it (lo+(i:Nat)*1) ((n:Int)-(i:Nat)) 1) where
 mem:=by simp
 obj:=λi h st b hb=>by
  have e:b=it:=by simpa using hb
  subst e;exact⟨_,st,λv z=>by
   have z':Data.fields _=Data.cell v:=z;cases z'⟩
 keep:=λi h h' st k=>k it (by simp) _ st
 item:=by
  intro X hP hw hK hc i pins s σ H E I hf st hg;subst hP hw hK;obtain⟨f0,f1,f2,f3,f4,f5⟩:=hf it (by simp);have W:=Walks.range (prog:=X.prog) (w:=X.w) (I.ok.hd hc) it lo 1 n;refine W.item i s _ _ hg st λv h' tk hv k6 kk=>?_
  obtain⟨t,rfl⟩:=hv;have I1:Inv X pins σ H {s with heap:=h',toks:=tk}:=I.turned (λb o hb e=>kk b o (by simpa using hb) e) f0 f1 f3 f4 f5;refine⟨_,rfl,wC (s:={s with heap:=h',toks:=tk}) (n:="range_iterator") k6 rfl rfl (by decide) ⟨.int (lo+i),H,I1,⟨t,?_⟩,⟨rfl,rfl⟩,k6,λb hb=>(hf b hb).1⟩⟩;rw[Int.mul_one]
 done:=by intro X hP hw hK hc i pins s σ H E I hf st hg;subst hP hw hK;obtain⟨f0,f1,f2,f3,f4,f5⟩:=hf it (by simp);exact wpAny_pyNext_range_end (I.ok.hd hc) st (by have:n<=i:=hg;lia) λh' eb=>⟨rfl,I.turned (t':=s.toks) (λb o hb e=>eb b o hb e) f0 f1 f3 f4 f5⟩
 self:=λ_ _ _ _ _ st h=>wpAny_pyIter_rangeiter st h
end L2
namespace L2
open PySem PySem.Spec PyProof.Rows
section
variable{X:Cx}{tg:Expr}
theorem yb{pins:List (Addr×Obj)}{σ:St}{H:Hp}{s:Shared}{R:It->Hp->Prop}{E:Value->Shared->Prop}{lo hi:Int}{t u v:Tok}{tk:Nat}(I:Inv X pins σ H s)(h1: -(2^62)<=lo)(h2:lo<2^62)(h3: -(2^62)<=hi)(h4:hi<2^62)
  (q:R (Iv lo (hi-lo).toNat) H):wpAny (model X.prog X.w) X.A (pyIter (.ref s.heap.objs.size)) (Ml X pins σ tg R) E {s with heap:=s.heap.push {cls:=.type "range",data:=.fields #[.int lo t,.int hi u,.int 1 v]},toks:=tk}:=by
 refine wpAny_pyIter_range (IsRange.new ..) (small_one h1 h2 h3 h4) ?_;have I1:Inv X pins σ H {s with heap:=s.heap.push {cls:=.type "range",data:=.fields #[.int lo t,.int hi u,.int 1 v]},toks:=tk}:=I.kept λb o e=>Qn _ e
 refine⟨(s.heap.push {cls:=.type "range",data:=.fields #[.int lo t,.int hi u,.int 1 v]}).objs.size,[(s.heap.push {cls:=.type "range",data:=.fields #[.int lo t,.int hi u,.int 1 v]}).objs.size],_,_,H,rfl,
  I1.kept (t':=tk) λb o e=>Qn _ e,rl _ lo (hi-lo).toNat,?_,λb hb=>?_,q⟩
 ·have e1:lo+((0:Nat):Int)*1=lo:=by simp
  have e2:(((hi-lo).toNat:Nat):Int)-((0:Nat):Int)=Builtin.Range.rangeSize lo hi 1:=by rw[rangeSize_one];split<;>lia
  show IsRangeIter _ _ (lo+((0:Nat):Int)*1) ((((hi-lo).toNat:Nat):Int)-((0:Nat):Int)) 1;rw[e1,e2];exact Qw _ rfl
 ·have e:b=(s.heap.push {cls:=.type "range",data:=.fields #[.int lo t,.int hi u,.int 1 v]}).objs.size:=by simpa using hb
  subst e;exact I1.uz (Qu _) (I1.hok.fresh (Qu _))
noncomputable def Gz(ta:TA):TI:=λσ H R=>ta σ H λvs H1=>∃j:Int,vs=[.int j]/\ -(2^62)<=j/\j<2^62/\R (Iv 0 j.toNat) H1
theorem uQ{a:Expr}{ta:TA}{p pos:Pos}(hg:Gl X "range")(hm:X.mg "range"=none)(ha:PA X [a] ta)(hs:starEach [a] X.env=[(false,eval a X.env)]:=by rfl):PI X tg (.Call (.Name "range" p) [a] [] pos) (Gz ta):=by
 intro pins s σ H R I h;refine Call_ (gv I hg hm boot_range (Sq (bN (ha pos pins s σ H _ I h) λus s1⟨vs,H1,I1,r1,q1⟩=>?_) hs rfl));obtain⟨j,e,q1,q2,q⟩:=q1;subst e;cases r1 with
 |cons r rr=>cases rr;obtain⟨t,rfl⟩:=r;exact call_range_1 (yb I1 ⋯ ⋯ q1 q2 (by simpa using q))
noncomputable def HL(wi:TI)(g:TG)(tb:TS):TS:=λD σ H=>wi σ H λJ H1=>∃W:Nat->Nat->St->Hp->Prop,(∃m,W 0 m σ H1)/\∀i m σ H,W i m σ H->
 (J.stop i H/\D.nx σ H)\/(J.go i H/\∃N:St->Hp->Prop,(∀σ' H',N σ' H'->∃m',m'<m/\W (i+1) m' σ' H')/\∀x H',J.yld i H x H'->g x σ H' λσ2 H2=>tb {D with nx:=N,ct:=N,bk:=D.nx} σ2 H2)
noncomputable def kB(fp:List Addr)(h:Heap):List (Addr×Obj):=fp.filterMap λb=>(h.get? b).map λo=>(b,o)
theorem eO{fp:List Addr}{h:Heap}{b:Addr}{o:Obj}(hb:b∈fp)(e:h.get? b=some o):(b,o)∈kB fp h:=RY.mpr ⟨b,hb,by rw[e];rfl⟩
theorem uO{fp:List Addr}{h:Heap}{p:Addr×Obj}(hp:p∈kB fp h):p.1∈fp/\h.get? p.1=some p.2:=by
 obtain⟨b,hb,e⟩:=RY.mp hp;cases q:h.get? b with
 |none=>rw[q]at e;cases e
 |some o=>rw[q]at e;have e':(b,o)=p:=So e;subst e';exact⟨hb,q⟩
theorem Inv.pinned{pins:List (Addr×Obj)}{σ:St}{H:Hp}{s:Shared}{fp:List Addr}(I:Inv X pins σ H s)(hf:∀b∈fp,gj X pins H b)(ho:∀b∈fp,∃o,s.heap.get? b=some o/\∀v,o.data≠ .cell v):Inv X (pins++kB fp s.heap) σ H s:=
 I.fW λp hp=>(QK.mp hp).elim (λz=>I.pin p (QU _ z)) λz=>by obtain⟨hb,e⟩:=uO z;obtain⟨f0,f1,f2,_⟩:=hf p.1 hb;obtain⟨o,e',d⟩:=ho p.1 hb;rw[e]at e';cases e';exact⟨e,f0,f1,f2,d⟩
theorem Inv.iH{pins pl:List (Addr×Obj)}{σ:St}{H:Hp}{s:Shared}(I:Inv X (pins++pl) σ H s):Inv X pins σ H s:=I.fW λp hp=>I.pin p (QU _ (RW _ hp))
theorem DU{iter:Expr}{body:List Stmt}{wi:TI}{g:TG}{tb:TS}{pos:Pos}(hp:PassesOwn (model X.prog X.w) X.A X.env X.xe)(hc:X.calm=true)(hi:PI X tg iter wi)(hg:PG X tg g)(hb:oj X body tb)
  (hs:∀x,foldedSetIterable iter X.env x=pure x:=by intro _;rfl):PS X (.For tg iter body [] pos) (HL wi g tb):=by
 intro pins s σ H D I h;refine wpAny_For (bN (hi pins s σ H _ I h) λv s1 h1=>bN h1 λqF s2 h2=>?_) hs;obtain⟨it,fp,tn,J,H2,e,I2,T,AW,f2,W,⟨m0,w0⟩,turn⟩:=h2;subst e;have nS:∀{H':Hp},(∀b∈fp,H' b=none)->∀b∈fp,gj X pins H' b:=λhn b hb=>⟨hn b hb,(f2 b hb).2⟩
 refine codeAny_forLoop_any (λn s'=>∃i σ' H',Inv X pins σ' H' s'/\tn i s'.heap/\(∀b∈fp,H' b=none)/\W i n σ' H') ?_ m0 ⟨0,σ,H2,I2,AW,λb hb=>(f2 b hb).1,w0⟩;rintro n s3 ⟨i,σ3,H3,I3,Nk,Mv,w3⟩;rcases turn i n σ3 H3 w3 with ⟨stop,qn⟩|⟨go,N,hN,step⟩
 ·refine S5 hp (bN (T.done X rfl rfl rfl hc i pins s3 σ3 H3 X.xe I3 (nS Mv) Nk stop) λr s4⟨hr,I4⟩=>?_);subst hr;exact wpAny_execs_nil ⟨σ3,H3,I4,qn⟩
 ·refine S5 hp (bN (T.item X rfl rfl rfl hc i pins s3 σ3 H3 X.xe I3 (nS Mv) Nk go) λr s4⟨u,hr,h4⟩=>?_);subst hr;refine S5 hp (bN h4 λ_ s5⟨x,H5,I5,r5,y5,LM,J6⟩=>?_);have Nv:=I5.pinned (nS J6) (T.obj _ _ LM);refine S5 hp (bN (hg _ s5 σ3 H5 x u _ Nv r5 (step x H5 y5)) λ_ s6⟨σ6,H6,I6,q6⟩=>?_);refine S5 hp (bN (hb _ s6 σ6 H6 _ I6 q6) λf s7 q7=>?_);have again:∀{σ7:St}{H7:Hp},Inv X (pins++kB fp s5.heap) σ7 H7 s7->N σ7 H7->∃m,m<n/\∃i σ' H',Inv X pins σ' H' s7/\tn i s7.heap/\(∀b∈fp,H' b=none)/\W i m σ' H':=λ {σ7 H7} I7 n7=>by obtain⟨m',hm,w7⟩:=hN σ7 H7 n7;refine⟨m',hm,i+1,σ7,H7,I7.iH,T.keep _ _ _ LM λb hb o e=>(I7.pin (b,o) (QU _ (QU _ (eO hb e)))).1,λb hb=>?_,w7⟩;obtain⟨o,e,d⟩:=T.obj _ _ LM b hb;exact(I7.pin (b,o) (QU _ (QU _ (eO hb e)))).2.1
  cases f with
  |next=>obtain⟨σ7,H7,I7,n7⟩:=q7;exact again I7 n7
  |cont=>obtain⟨σ7,H7,I7,n7⟩:=q7;exact again I7 n7
  |brk=>obtain⟨σ7,H7,I7,q7⟩:=q7;exact⟨σ7,H7,I7.iH,q7⟩
  |ret v=>obtain⟨x7,σ7,H7,I7,r7,q7⟩:=q7;exact⟨x7,σ7,H7,I7.iH,r7,q7⟩
end
end L2
namespace L2
open PySem PySem.Spec PyProof.Rows
noncomputable abbrev R2:=V->V->Hp->VK->Prop
noncomputable def kT(X:Cx)(f:Value->Value->Sem Value)(r:R2):Prop:=
 ∀(pins:List (Addr×Obj))(s:Shared)(σ:St)(H:Hp)(x y:V)(v u:Value)(Q:VK),Inv X pins σ H s->RelV x v->RelV y u->r x y H Q->
  wpAny (model X.prog X.w) X.A (f v u) (EP X pins σ Q) X.xe s
noncomputable def JE(X:Cx)(f:Value->Sem Value)(r:V->Hp->VK->Prop):Prop:=
 ∀(pins:List (Addr×Obj))(s:Shared)(σ:St)(H:Hp)(x:V)(v:Value)(Q:VK),Inv X pins σ H s->RelV x v->r x H Q->
  wpAny (model X.prog X.w) X.A (f v) (EP X pins σ Q) X.xe s
noncomputable def dw(X:Cx)(f:Value)(r:List V->Hp->VK->Prop):Prop:=
 ∀(pins:List (Addr×Obj))(s:Shared)(σ:St)(H:Hp)(xs:List V)(us:List Value)(Q:VK),Inv X pins σ H s->aq xs us->r xs H Q->
  wpAny (model X.prog X.w) X.A (call f us) (EP X pins σ Q) X.xe s
noncomputable def JD(X:Cx)(r:V->Hp->(Bool->Hp->Prop)->Prop):Prop:=
 ∀(pins:List (Addr×Obj))(s:Shared)(σ:St)(H:Hp)(x:V)(v:Value)(Q:Bool->Hp->Prop),Inv X pins σ H s->RelV x v->r x H Q->
  wpAny (model X.prog X.w) X.A (truthy v) (TP X pins σ Q) X.xe s
noncomputable def Jl(r:R2)(ta tb:TE):TE:=λσ H Q=>ta σ H λx H1=>tb σ H1 λy H2=>r x y H2 Q
noncomputable def Px(r:V->Hp->VK->Prop)(ta:TE):TE:=λσ H Q=>ta σ H λx H1=>r x H1 Q
noncomputable def rI(C:Int->Int->Prop)(g:Int->Int->V):R2:=λx y H Q=>∃i j,x= .int i/\y= .int j/\C i j/\Q (g i j) H
noncomputable def BR(g:Int->Int->V):R2:=λx y H Q=>∃i j,x= .int i/\y= .int j/\Q (g i j) H
noncomputable def rU(g:Int->V):V->Hp->VK->Prop:=λx H Q=>∃i,x= .int i/\Q (g i) H
section
variable{X:Cx}{a b c:Expr}{ta tb tc:TE}{pos:Pos}
theorem Ck(ha:PE X a ta)(hb:PE X b tb){pins:List (Addr×Obj)}{s:Shared}{σ:St}{H:Hp}{R:V->V->Hp->Prop}(I:Inv X pins σ H s)
  (h:ta σ H λx H1=>tb σ H1 λy H2=>R x y H2) {Q:Value->Shared->Prop} {f:Value->Value->Sem Value}
  (hf:∀v u s2 x y H2,Inv X pins σ H2 s2->RelV x v->RelV y u->R x y H2->wpAny (model X.prog X.w) X.A (f v u) Q X.xe s2):
  wpAny (model X.prog X.w) X.A (eval a X.env) (λv s₁=>wpAny (model X.prog X.w) X.A (eval b X.env) (λu s₂=>wpAny (model X.prog X.w) X.A (f v u) Q X.xe s₂) X.xe s₁) X.xe s:=by
 refine bN (ha pins s σ H _ I h) λv s1⟨x,H1,I1,r1,q1⟩=>?_
 refine bN (hb pins s1 σ H1 _ I1 q1) λu s2⟨y,H2,I2,r2,q2⟩=>?_
 exact hf v u s2 x y H2 I2 r1 r2 q2
theorem BN{op:Operator}{r:R2}(ho:kT X (binaryOp op) r)(ha:PE X a ta)(hb:PE X b tb):PE X (.BinOp a op b pos) (Jl r ta tb):=by intro pins s σ H Q I h;exact wpAny_BinOp (Ck ha hb I h λv u s2 x y H2 I2 rx ry q=>ho pins s2 σ H2 x y v u Q I2 rx ry q)
theorem Hc{op:UnaryOp}{r:V->Hp->VK->Prop}(ho:JE X (unaryOp op) r)(ha:PE X a ta):PE X (.UnaryOp op a pos) (Px r ta):=by intro pins s σ H Q I h;exact UnaryOp_ (bN (ha pins s σ H _ I h) λv s1⟨x,H1,I1,r1,q1⟩=>ho pins s1 σ H1 x v Q I1 r1 q1)
theorem G3{f:Value->Value->Sem Value}{C:Int->Int->Prop}{g:Int->Int->Int}
  (rule:∀(i j:Int)(t u:Tok)(s:Shared)(Q:Value->Shared->Prop)(E:Value->Shared->Prop),C i j->Q (.int (g i j) s.toks) {s with toks:=s.toks+1}->wpAny (model X.prog X.w) X.A (f (.int i t) (.int j u)) Q E s):
  kT X f (rI C λi j=>.int (g i j)):=by
 intro pins s σ H x y v u Q I rx ry h;obtain⟨i,j,rfl,rfl,hc,q⟩:=h;obtain⟨t,rfl⟩:=rx;obtain⟨t',rfl⟩:=ry;exact rule i j t t' s _ _ hc ⟨.int (g i j),H,I.tok _,⟨_,rfl⟩,q⟩
theorem G4{f:Value->Value->Sem Value}{g:Int->Int->Int}
  (rule:∀(i j:Int)(t u:Tok)(s:Shared)(Q:Value->Shared->Prop)(E:Value->Shared->Prop),Q (.int (g i j) s.toks) {s with toks:=s.toks+1}->wpAny (model X.prog X.w) X.A (f (.int i t) (.int j u)) Q E s):
  kT X f (BR λi j=>.int (g i j)):=by
 intro pins s σ H x y v u Q I rx ry h;obtain⟨i,j,rfl,rfl,q⟩:=h;obtain⟨t,rfl⟩:=rx;obtain⟨t',rfl⟩:=ry;exact rule i j t t' s _ _ ⟨.int (g i j),H,I.tok _,⟨_,rfl⟩,q⟩
theorem Ap{f:Value->Value->Sem Value}{g:Int->Int->Bool}
  (rule:∀(i j:Int)(t u:Tok)(s:Shared)(Q:Value->Shared->Prop)(E:Value->Shared->Prop),Q (.bool (g i j)) s->wpAny (model X.prog X.w) X.A (f (.int i t) (.int j u)) Q E s):
  kT X f (BR λi j=>.bl (g i j)):=by
 intro pins s σ H x y v u Q I rx ry h;obtain⟨i,j,rfl,rfl,q⟩:=h;obtain⟨t,rfl⟩:=rx;obtain⟨t',rfl⟩:=ry;exact rule i j t t' s _ _ ⟨.bl (g i j),H,I,rfl,q⟩
noncomputable def Js(i j:Int):Prop:=0<j/\j<1073741824
noncomputable def Jt(i j:Int):Prop:=0<=j/\j<=1000000/\i.natAbs<2^64
noncomputable def B3(i j:Int):Prop:=(-(2^64)<i/\i<2^64)\/(-(2^64)<j/\j<2^64)
theorem B3.ok{i j:Int}(h:B3 i j):IntMulOk i j:=by
 rcases h with ⟨h1,h2⟩|⟨h1,h2⟩
 ·exact .of_left (intBits_le_64 h1 h2)
 ·exact .of_right (intBits_le_64 h1 h2)
theorem DE:kT X (binaryOp .Add) (BR λi j=>.int (i+j)):=G4 λ_ _ _ _ _ _ _ q=>add_int q
theorem DK:kT X (binaryOp .Sub) (BR λi j=>.int (i-j)):=G4 λ_ _ _ _ _ _ _ q=>sub_int q
theorem DI:kT X (binaryOp .Mult) (rI B3 λi j=>.int (i*j)):=G3 λ_ _ _ _ _ _ _ hc q=>mul_int q hc.ok
theorem Ji:kT X (binaryOp .FloorDiv) (rI Js λi j=>.int (i/j)):=G3 λi j _ _ _ _ _ hc q=>by have h1:(0:Int)<j:=hc.1;have h2:j<1073741824:=hc.2;exact floordiv_int ⋯ (by rw[Int.fdiv_eq_ediv_of_nonneg i ⋯];exact q) (.inl (PyProof.noPylong_small ⋯))
theorem DH:kT X (binaryOp .Mod) (rI (λ_ j=>0<j) λi j=>.int (i % j)):=G3 λi j _ _ _ _ _ hc q=>by have h1:(0:Int)<j:=hc;exact mod_int' ⋯ (by rw[Int.fmod_eq_emod_of_nonneg i ⋯];exact q)
theorem DJ:kT X (binaryOp .Pow) (rI Jt λi j=>.int (i^j.toNat)):=G3 λ_ _ _ _ _ _ _ hc q=>pow_int_small hc.1 hc.2.1 hc.2.2 q
theorem PF{f:Value->Sem Value}{g:Int->Int}
  (rule:∀(i:Int)(t:Tok)(s:Shared)(Q:Value->Shared->Prop)(E:Value->Shared->Prop),Q (.int (g i) s.toks) {s with toks:=s.toks+1}->wpAny (model X.prog X.w) X.A (f (.int i t)) Q E s):
  JE X f (rU λi=>.int (g i)):=by
 intro pins s σ H x v Q I rx h;obtain⟨i,rfl,q⟩:=h;obtain⟨t,rfl⟩:=rx;exact rule i t s _ _ ⟨.int (g i),H,I.tok _,⟨_,rfl⟩,q⟩
theorem Ep:JE X (unaryOp .USub) (rU λi=>.int (-i)):=PF λ_ _ _ _ _ q=>neg_int q
end
section
variable{X:Cx}{a b c:Expr}{ta tb tc:TE}{pos:Pos}
theorem G8:kT X (compareOp .Lt) (BR λi j=>.bl (decide (i<j))):=Ap λ_ _ _ _ _ _ _ q=>lt_int q
theorem G7:kT X (compareOp .LtE) (BR λi j=>.bl (decide (i<=j))):=Ap λ_ _ _ _ _ _ _ q=>le_int q
theorem G6:kT X (compareOp .Gt) (BR λi j=>.bl (decide (j<i))):=Ap λ_ _ _ _ _ _ _ q=>gt_int q
theorem G5:kT X (compareOp .GtE) (BR λi j=>.bl (decide (j<=i))):=Ap λ_ _ _ _ _ _ _ q=>ge_int q
theorem tw{op:CmpOp}{r:R2}(ho:kT X (compareOp op) r)(ha:PE X a ta)(hb:PE X b tb)(hm:behindInMarks op b=false):PE X (.Compare a [op] [b] pos) (Jl r ta tb):=by intro pins s σ H Q I h;exact wpAny_Compare1 (Ck ha hb I h λv u s2 x y H2 I2 rx ry q=>ho pins s2 σ H2 x y v u Q I2 rx ry q) hm
noncomputable def HS(t:TE):TT:=λσ H Q=>t σ H λx H'=>∃k,x= .bl k/\Q k H'
theorem AG{op:CmpOp}{r:R2}(ho:kT X (compareOp op) r)(ha:PE X a ta)(hb:PE X b tb)(hm:behindInMarks op b=false):PT X (.Compare a [op] [b] pos) (HS (Jl r ta tb)):=by
 intro pins s σ H Q I h;refine wpAny_isTrue_Compare1 (bN (ha pins s σ H _ I h) λv s1⟨x,H1,I1,r1,q1⟩=>bN (hb pins s1 σ H1 _ I1 q1) λu s2⟨y,H2,I2,r2,q2⟩=>
  bN (ho pins s2 σ H2 x y v u _ I2 r1 r2 q2) λc s3⟨z,H3,I3,r3,k,e,q3⟩=>?_) hm
 subst e;cases r3;exact Tb ⟨H3,I3,q3⟩
noncomputable def Fj(K:PySem.W.Frag)(x:V)(H:Hp)(k:Bool):Prop:=
 match x with
 |.bz=>k=false
 |.bl b=>k=b
 |.int i=>k=(i != 0)
 |.str y=>y.length<=sizeLine/\k=((y.length:Int) != 0)
 |.Cp y=>y.size<=sizeLine/\k=((y.size:Int) != 0)
 |.ref p=>(∃xs,dy K H p xs/\k= !xs.isEmpty)\/(∃xs,dY K H p xs/\k= !xs.isEmpty)\/∃bx,H p=some (.dK bx)/\k= !bx.isEmpty
 |_=>False
theorem qC{κ:Type}{bx:List (κ×V)}{vs:List (κ×Value)}(r:KV bx vs):(!vs.isEmpty)= !bx.isEmpty:=by cases r<;>rfl
theorem kb{xs:List V}{its:List Value}(r:aq xs its):(!its.toArray.isEmpty)= !xs.isEmpty:=by cases r<;>simp
theorem iV:(sizeLine:Nat)<2^63:=by rw[SQ];decide
theorem eX:JD X (λx H Q=>∃k,Fj X.K x H k/\Q k H):=by
 intro pins s σ H x v Q I rx h;obtain⟨k,e,q⟩:=h;have hl:=iV;have hs:sizeLine=16777216:=SQ;cases x with
 |bz=>cases rx;have e':k=false:=e;subst e';exact truthy_none ⟨H,I,q⟩
 |bl b=>cases rx;have e':k=b:=e;subst e';exact Tb ⟨H,I,q⟩
 |int i=>obtain⟨t,rfl⟩:=rx;have e':k=(i != 0):=e;subst e';exact PySem.P.truthy_int ⟨H,I,q⟩
 |str y=>obtain⟨t,rfl⟩:=rx;obtain⟨hy,e'⟩:y.length<=sizeLine/\k=((y.length:Int) != 0):=e;subst e';exact PySem.P.truthy_str ⋯ ⟨H,I.tok _,q⟩
 |Cp y=>obtain⟨t,rfl⟩:=rx;obtain⟨hy,e'⟩:y.size<=sizeLine/\k=((y.size:Int) != 0):=e;subst e';exact PySem.W.truthy_bytes ⋯ ⟨H,I.tok _,q⟩
 |ref p=>
  cases rx;have e':(∃xs,dy X.K H p xs/\k= !xs.isEmpty)\/(∃xs,dY X.K H p xs/\k= !xs.isEmpty)\/∃bx,H p=some (.dK bx)/\k= !bx.isEmpty:=e;rcases e' with ⟨xs,hx,e'⟩|⟨xs,hx,e'⟩|⟨bx,hx,e'⟩
  ·subst e';obtain⟨its,r,pl,hz⟩:=I.list hx;have hlen:=r.length;exact wpAny_truthy_list pl.isList (by simp only[Qq];lia) ⟨H,I.tok _,by rw[kb r];exact q⟩
  ·subst e';obtain⟨its,r,pl,hz⟩:=I.tuple hx;have hlen:=r.length;exact truthy_tuple pl (by simp only[Qq];lia) ⟨H,I.tok _,by rw[kb r];exact q⟩
  ·subst e';obtain⟨hz,hS,vs,r,m⟩:bx.length<=sizeLine/\(p==sysModules)=false/\∃vs,KV bx vs/\s.heap.DictOf (bQ X.prog X.w) p vs:=I.hok p _ hx;have hlen:bx.length=vs.length:=Paired.length r;exact wpAny_truthy_dict hS m ⋯ ⟨H,I.tok _,by rw[qC r];exact q⟩
 |_=>exact(show False from e).elim
theorem xY(ha:PE X a ta)(he:∀whole,isTrue a X.env whole=(do let v<-whole;standAt a.pos;holding [v] (truthy v))):
  PT X a (λσ H Q=>ta σ H λx H'=>∃k,Fj X.K x H' k/\Q k H'):=by
 intro pins s σ H Q I h;exact isTrue_plain (bN (ha pins s σ H _ I h) λv s1⟨x,H1,I1,r1,q1⟩=>eX pins s1 σ H1 x v Q I1 r1 q1) (he _)
theorem qP:kT X (binaryOp .Add) (λx y H Q=>∃i j,x= .str i/\y= .str j/\i.length+j.length<=sizeLine/\Q (.str (i++j)) H):=by intro pins s σ H x y v u Q I rx ry h;obtain⟨i,j,rfl,rfl,hz,q⟩:=h;obtain⟨t,rfl⟩:=rx;obtain⟨t',rfl⟩:=ry;exact add_str (λt' tk=>⟨.str (i++j),H,I.tok _,⟨_,rfl⟩,q⟩) hz
theorem vals1{x:V}{us:List Value}(r:aq [x] us):∃u,us=[u]/\RelV x u:=by
 cases r with
 |cons r1 r2=>cases r2;exact⟨_,rfl,r1⟩
theorem vals2{x y:V}{us:List Value}(r:aq [x,y] us):∃u w',us=[u,w']/\RelV x u/\RelV y w':=by
 cases r with
 |cons r1 r2=>
  cases r2 with
  |cons r3 r4=>cases r4;exact⟨_,_,rfl,r1,r3⟩
theorem uc(hc:X.calm=true):dw X (.builtin "max") (λxs H Q=>∃i j,xs=[.int i,.int j]/\Q (.int (if j>i then j else i)) H):=by
 intro pins s σ H xs us Q I r h;obtain⟨i,j,rfl,q⟩:=h;obtain⟨u,w',rfl,⟨t,rfl⟩,⟨t',rfl⟩⟩:=vals2 r;refine max_two_ints (I.ok.hd hc) λh' tk k=>⟨_,H,I.kept k,?_,q⟩
 by_cases hj:j>i
 ·rw[SH hj,SH hj];exact⟨_,rfl⟩
 ·rw[SF hj,SF hj];exact⟨_,rfl⟩
theorem ud(hc:X.calm=true):dw X (.builtin "min") (λxs H Q=>∃i j,xs=[.int i,.int j]/\Q (.int (if j<i then j else i)) H):=by
 intro pins s σ H xs us Q I r h;obtain⟨i,j,rfl,q⟩:=h;obtain⟨u,w',rfl,⟨t,rfl⟩,⟨t',rfl⟩⟩:=vals2 r;refine min_two_ints (I.ok.hd hc) λh' tk k=>⟨_,H,I.kept k,?_,q⟩
 by_cases hj:j<i
 ·rw[SH hj,SH hj];exact⟨_,rfl⟩
 ·rw[SF hj,SF hj];exact⟨_,rfl⟩
noncomputable def JA(K:PySem.W.Frag)(x:V)(H:Hp)(n:Nat):Prop:=
 match x with
 |.str y=>y.length<=sizeLine/\n=y.length
 |.Cp y=>y.size<=sizeLine/\n=y.size
 |.ref p=>(∃xs,dy K H p xs/\n=xs.length)\/∃xs,dY K H p xs/\n=xs.length
 |_=>False
theorem gP:dw X (.builtin "len") (λxs H Q=>∃x n,xs=[x]/\JA X.K x H n/\Q (.int n) H):=by
 intro pins s σ H xs us Q I r h;obtain⟨x,n,rfl,e,q⟩:=h;obtain⟨u,rfl,rx⟩:=vals1 r;have hl:=iV;have hs:sizeLine=16777216:=SQ;cases x with
 |str y=>obtain⟨t,rfl⟩:=rx;obtain⟨hy,e'⟩:y.length<=sizeLine/\n=y.length:=e;subst e';exact len_str ⋯ ⟨.int _,H,I.tok _,⟨_,rfl⟩,q⟩
 |Cp y=>obtain⟨t,rfl⟩:=rx;obtain⟨hy,e'⟩:y.size<=sizeLine/\n=y.size:=e;subst e';exact PySem.W.len_bytes ⋯ ⟨.int _,H,I.tok _,⟨_,rfl⟩,q⟩
 |ref p=>
  cases rx;have e':(∃xs,dy X.K H p xs/\n=xs.length)\/∃xs,dY X.K H p xs/\n=xs.length:=e;rcases e' with ⟨xs,hx,e'⟩|⟨xs,hx,e'⟩
  ·subst e';obtain⟨its,r',pl,hz⟩:=I.list hx;have hlen:=r'.length;exact Calls.call_len_list pl.isList (by simp only[Qq];lia) ⟨.int xs.length,H,I.tok _,⟨_,by simp only[Qq];rw[hlen]⟩,q⟩
  ·subst e';obtain⟨its,r',pl,hz⟩:=I.tuple hx;have hlen:=r'.length;exact len_tuple pl (by simp only[Qq];lia) ⟨.int xs.length,H,I.tok _,⟨_,by simp only[Qq];rw[hlen]⟩,q⟩
 |_=>exact(show False from e).elim
end
end L2
namespace L2
open PySem PySem.Spec PyProof.Rows
structure B8(h:Heap)(x dx C:Addr)(mA:Str->Option Value):Prop where
 obj:h.get? x=some (PySem.W.instObj C dx)
 ns:h.Ns1 dx mA
 ne:dx≠x
theorem uL{h:Heap}{dx:Addr}{mA:Str->Option Value}(n:h.Ns1 dx mA):∃od,h.get? dx=some od/\∀name,PySem.W.lookIn name od=some (mA name):=by
 obtain⟨o,es,ep,ho,hd,hk,_,hm⟩:=n;refine⟨o,ho,λname=>?_⟩;have e:=hm name;unfold nsFind findBy at e;rw[<-Array.find?_toList]at e;unfold PySem.W.lookIn;rw[hd];dsimp only;split
 ·rename_i y q;rw[q]at e;exact SD some e
 ·rename_i q;rw[q]at e;have a:es.toList.any (·.refKey)=false:=by rw[List.any_eq_false];intro y hy;obtain⟨z,t,zR⟩:=hk y (Array.mem_toList_iff.mp hy);simp[DictEntry.refKey,zR]
  have a':¬es.toList.any (·.refKey)=true:=by rw[a];exact Rf
  rw[SF a'];exact SD some e
theorem B8.look{h:Heap}{x dx C:Addr}{mA:Str->Option Value}(I:B8 h x dx C mA):∃od,PySem.W.InstAt h x (PySem.W.instObj C dx) C (some od)/\∀name,PySem.W.lookIn name od=some (mA name):=
 let ⟨od,ho,hl⟩:=uL I.ns
 ⟨od,⟨I.obj,rfl,rfl,ho⟩,hl⟩
section
variable{P:Program}{w:World}{H H':Hp}{h h':Heap}{a C dx:Addr}{fs J7:List (Str×V)}
theorem Aa(hok:dX P w H h)(e:H a=some (.ins C dx fs)):∃mA,B8 h a dx C mA/\(∀f,zj (fs.lookup f) (mA f))/\PySem.Within mA (fs.map (·.1))/\fs.length<=1000/\H dx=some (.own a):=by obtain⟨d,z,ne,ob,mA,n,r,q⟩:=(show bw P w H h a (.ins C dx fs) from hok a _ e);exact⟨mA,⟨ob,n,ne⟩,r,q,z,d⟩
end
structure Ju(K:PySem.W.Frag)(C:Addr):Prop where
 pg:PySem.W.plainGet K C Str.empty=true
 hd:PySem.W.hasDictIn K C=true
 po:PySem.W.plainOver K C=true
 sa:PySem.W.findIn K (.ref C) "__setattr__"=some (some (.builtin "object.__setattr__"))
theorem Ju.get{K:PySem.W.Frag}{C:Addr}(c:Ju K C)(f:Str):PySem.W.plainGet K C f=true:=c.pg
section
variable{X:Cx}{pins:List (Addr×Obj)}{σ:St}{H:Hp}{s:Shared}{A:Around}{E:Value->Shared->Prop}{Q:Value->Shared->Prop}{c:Value}{b:Bool}
inductive gM(K:PySem.W.Frag)(H:Hp):V->Value->Prop where
 |bz:gM K H .bz (.type "NoneType")
 |bl (x:Bool):gM K H (.bl x) (.type "bool")
 |int (i:Int):gM K H (.int i) (.type "int")
 |str (x:Str):gM K H (.str x) (.type "str")
 |yY (x:UInt64):gM K H (.yY x) (.type "float")
 |lst {a:Addr} {xs:List V} (e:H a=some (.lst xs)):gM K H (.ref a) (.type "list")
 |sC {a:Addr} {o:Obj} {xs:List V} (e:H a=some (.sC o (.lst xs))):gM K H (.ref a) (.type "list")
 |tup {a:Addr} {xs:List V} (e:H a=some (.tup xs)):gM K H (.ref a) (.type "tuple")
 |dK {a:Addr} {bx:List (Key×V)} (e:H a=some (.dK bx)):gM K H (.ref a) (.type "dict")
 |dT {a:Addr} {bx:List (List Key×V)} (e:H a=some (.dT bx)):gM K H (.ref a) (.type "dict")
 |ins {a C dx:Addr} {fs:List (Str×V)} (e:H a=some (.ins C dx fs)) (cl:Ju K C) (ha:PySem.W.findIn K (.ref C) "__class__"=some (some (.builtin "object.__class__")))
   (hn:PySem.W.specialIn K (.builtin "object.__class__") "__get__"=some (some (.builtin "getset_descriptor.__get__"))) (M5:PySem.W.takesIn K (.builtin "object.__class__")=some true)
   (hm:PySem.W.mroIn K C (.type "object")=some true):gM K H (.ref a) (.ref C)
theorem uH{x:V}{u t:Value}(I:Inv X pins σ H s)(rx:RelV x u)(ty:gM X.K H x t)(e:PySem.W.kitOne X.K t c=some b)(h:∀tk,Q (.bool b) {s with toks:=tk}):
  wpAny (model X.prog X.w) A (call (.builtin "isinstance") [u,c]) Q E s:=by
 cases ty with
 |bz=>cases (show u=Value.none from rx);exact Sy PySem.W.kitx_none I.jF True.intro e (λz=>nomatch z) h
 |bl y=>cases (show u=Value.bool y from rx);exact Sy PySem.W.kitx_bool I.jF True.intro e (λz=>nomatch z) h
 |int i=>obtain⟨t,q⟩:=(show∃t,u=Value.int i t from rx);cases q;exact Sy PySem.W.kitx_int I.jF True.intro e (λz=>nomatch z) h
 |str y=>obtain⟨t,q⟩:=(show∃t,u=Value.str y t from rx);cases q;exact Sy PySem.W.kitx_str I.jF True.intro e (λz=>nomatch z) h
 |yY y=>obtain⟨t,q⟩:=(show∃t,u=Value.float y t from rx);cases q;exact Sy PySem.W.kitx_float I.jF True.intro e (λz=>nomatch z) h
 |@lst a xs ea=>cases (show u=Value.ref a from rx);obtain⟨_,_,n,_,h1⟩:=(show bw X.prog X.w H s.heap a (.lst xs) from I.hok a _ ea);exact Sy PySem.W.kitx_list I.jF ⟨_,h1,rfl⟩ e (λz=>nomatch z) h
 |@sC a ob xs ea=>cases (show u=Value.ref a from rx);obtain⟨_,_,_,n,_,h1⟩:=(show bw X.prog X.w H s.heap a (.sC ob (.lst xs)) from I.hok a _ ea);exact Sy PySem.W.kitx_list I.jF ⟨_,h1,rfl⟩ e (λz=>nomatch z) h
 |@tup a xs ea=>cases (show u=Value.ref a from rx);obtain⟨_,_,_,p⟩:=(show bw X.prog X.w H s.heap a (.tup xs) from I.hok a _ ea);obtain⟨o,h1,h2,_⟩:=p;exact Sy PySem.W.kitx_tuple I.jF ⟨o,h1,h2⟩ e (λz=>nomatch z) h
 |@dK a bx ea=>cases (show u=Value.ref a from rx);obtain⟨_,_,vs,_,p⟩:=(show bw X.prog X.w H s.heap a (.dK bx) from I.hok a _ ea);obtain⟨o,es,ep,h1,h2,_⟩:=p;exact Sy PySem.W.kitx_dict I.jF ⟨o,h1,h2.1⟩ e (λz=>nomatch z) h
 |@dT a bx ea=>cases (show u=Value.ref a from rx);obtain⟨_,_,xs,_,o,es,ep,h1,h2,_⟩:=(show bw X.prog X.w H s.heap a (.dT bx) from I.hok a _ ea);exact Sy PySem.W.kitx_dict I.jF ⟨o,h1,h2.1⟩ e (λz=>nomatch z) h
 |@ins a C dx fs ea cl ha hn M5 hm=>cases (show u=Value.ref a from rx);obtain⟨mA,O,_⟩:=Aa I.hok ea;obtain⟨od,J,_⟩:=O.look;exact Sy (PySem.W.kitx_own (cl.get _) cl.hd ha hn M5 hm) I.jF J e (λz=>nomatch z) h
end
end L2
namespace L2
open PySem PySem.Spec PyProof.Rows
structure gK(k:Nat)(A:Around):Prop where
 hd:A.handled=none
 dp:A.depth+3*k+5<recursionLimit
 un:A.units+16*k+200<cLine
theorem gK.deeper{k:Nat}{A:Around}(r:gK (k+1) A)(env:Env):gK k (A.deeper env):=
 ⟨r.hd,by have:=r.dp;show A.depth+1+3*k+5<_;lia,by have:=r.un;show A.units+3+16*k+200<_;lia⟩
theorem gK.depth{k:Nat}{A:Around}(r:gK k A):A.depth<recursionLimit:=by have:=r.dp;lia
noncomputable def Eh:TA:=λ_ H Q=>Q [] H
noncomputable def yz(ta:TE)(tr:TA):TA:=λσ H Q=>ta σ H λx H1=>tr σ H1 λxs H2=>Q (x::xs) H2
section
variable{X:Cx}{e:Expr}{es:List Expr}{te:TE}{t:TA}{pos:Pos}
theorem dR:PA X [] Eh:=λ_ _ _ _ H Q I h=>Calls.spliced_nil ⟨[],H,I,.nil,h⟩
theorem bR(ha:PE X e te)(hr:PA X es t)(hs:starEach (e::es) X.env=(false,eval e X.env)::starEach es X.env:=by rfl):PA X (e::es) (yz te t):=by intro pos pins s σ H Q I h;rw[hs];show wpAny _ _ (spliced ((false,eval e X.env)::backTo pos (starEach es X.env))) _ _ s;refine Calls.spliced_cons (bN (ha pins s σ H _ I h) λu s1⟨x,H1,I1,r1,q1⟩=>?_);exact bN (hr pos pins s1 σ H1 _ I1 q1) λus s2⟨xs,H2,I2,r2,q2⟩=>⟨x::xs,H2,I2,.cons r1 r2,q2⟩
noncomputable def L6(t:TA):TE:=λσ H Q=>t σ H λxs H1=>xs.length<=sizeLine/\∀p,H1 p=none->Q (.ref p) (upd H1 p (.tup xs))
noncomputable def LU(t:TA):TE:=λσ H Q=>t σ H λxs H1=>xs.length<=sizeLine/\∀p,H1 p=none->Q (.ref p) (upd H1 p (.lst xs))
theorem xN{x1}(h:PA X es t):PE X (.Tuple es x1 pos) (L6 t):=by intro pins s σ H Q I hq;refine wpAny_Tuple_spliced (bN (h pos pins s σ H _ I hq) λus s1⟨xs,H1,I1,r,z,q⟩=>⟨by rw[<-r.length];exact z,?_⟩);have hf:H1 s1.heap.objs.size=none:=I1.hok.fresh (Qu _);refine⟨.ref s1.heap.objs.size,upd H1 s1.heap.objs.size (.tup xs),I1.laid (t':=s1.toks) (λb u e=>Qn _ e) (Qu _) ?_,rfl,q _ hf⟩;exact⟨z,us,r,⟨_,Qw _ rfl,rfl,_,rfl,rfl,rfl⟩⟩
theorem xI(h:PA X es t):PE X (.List es pos) (LU t):=by intro pins s σ H Q I hq;refine wpAny_List_spliced (bN (h pos pins s σ H _ I hq) λus s1⟨xs,H1,I1,r,z,q⟩=>⟨by rw[<-r.length];exact z,?_⟩);have hf:H1 s1.heap.objs.size=none:=I1.hok.fresh (Qu _);refine⟨.ref s1.heap.objs.size,upd H1 s1.heap.objs.size (.lst xs),I1.laid (t':=s1.toks) (λb u e=>Qn _ e) (Qu _) ?_,rfl,q _ hf⟩;exact⟨z,us,0,r,Qw _ rfl⟩
end
noncomputable abbrev Sp:=List V->Hp->VK->XK->Prop
noncomputable abbrev jt:=List Env->Hp->Shared->XK->Value->Shared->Prop
structure zh(P:Program)(w:World)(K:PySem.W.Frag)(mg:Str->Option Value)(base:Heap)(A:Around)(outer:List Env)(s:Shared)(H:Hp):Prop where
 frames:A.frames=some outer
 mod:Mod K mg base
 bs:∀b o,base.get? b=some o->s.heap.get? b=some o/\H b=none
 vH:base.objs.size<=s.heap.objs.size
 gq:s.heap.FunFrames base outer
 zH:∀b∈eD outer,H b=none
 hok:dX P w H s.heap
 bare:AllBare s.gens
noncomputable def CE(outer:List Env)(P:Program)(w:World)(H:Hp)(s:Shared)(Q:VK)(u:Value)(s':Shared):Prop:=
 ∃v H',s'.os=s.os/\AllBare s'.gens/\Un (eD outer) [] H H' s.heap s'.heap/\dX P w H' s'.heap/\RelV v u/\Q v H'
noncomputable def CR(CX:jt)(outer:List Env)(P:Program)(w:World)(H:Hp)(s:Shared)(Q:VK)(E:XK)(r:Result)(s':Shared):Prop:=
 match r with
 |.ok (.ret u)=>CE outer P w H s Q u s'
 |.ok _=>False
 |.error e=>CX outer H s E e s'
structure iN(P:Program)(w:World)(K:PySem.W.Frag)(mg:Str->Option Value)(base:Heap)(CX:jt)(k:Nat)(f:Addr)(fd:FuncData)(ps:List Str)(sp:Sp):Prop where
 len:∀vs H Q E,sp vs H Q E->vs.length=ps.length
 run:∀(A:Around)(outer:List Env)(s:Shared)(H:Hp)(args:Args)(us:List Value)(vs:List V)(Q:VK)(E:XK),gK k A->zh P w K mg base A outer s H->BindsTo s fd args (ps.zip us)->aq vs us->sp vs H Q E->
  codeAny (model P w) A (.call (.ref f) args) (CR CX outer P w H s Q E) s
theorem iN.imp{P:Program}{w:World}{K:PySem.W.Frag}{mg:Str->Option Value}{base:Heap}{CX:jt}{k:Nat}{f:Addr}{fd:FuncData}{ps:List Str}{sp Ni:Sp}(F:iN P w K mg base CX k f fd ps sp)
  (h:∀vs H Q E,Ni vs H Q E->sp vs H Q E):iN P w K mg base CX k f fd ps Ni:=
 ⟨λvs H Q E q=>F.len vs H Q E (h _ _ _ _ q),λA outer s H args us vs Q E hr he hb hv hs=>F.run A outer s H args us vs Q E hr he hb hv (h _ _ _ _ hs)⟩
section
variable{X:Cx}{pins:List (Addr×Obj)}{σ:St}{H:Hp}{s s':Shared}
theorem Inv.fz(I:Inv X pins σ H s):zh X.prog X.w X.K X.mg X.base X.A X.stack s H:=
 ⟨I.ok.frames,I.ok.mod,I.bs,Qz I.ok.vH I.sz,I.stack,I.nU,I.hok,I.bare⟩
theorem Inv.after{Q:VK}{u:Value}(I:Inv X pins σ H s)(h:CE X.stack X.prog X.w H s Q u s'):EP X pins σ Q u s':=by obtain⟨v,H',os,bare,un,hok,r,q⟩:=h;obtain⟨hh,g,d,t,G9⟩:=s';obtain rfl:G9=s.os:=os;exact⟨v,H',I.call (h':=hh) (g':=g) (d':=d) (t':=t) (ch:=[]) un hok bare (λb z=>absurd z (by simp)),r,q⟩
end
noncomputable def HI(sp:Sp)(uv:List V)(E:XK)(t:TA):TE:=λσ H Q=>t σ H λvs H1=>sp (vs++uv) H1 Q E
noncomputable def Binds(K:PySem.W.Frag)(fd:FuncData)(ps:List Str)(ds:List Value):Prop:=
 ∀(s:Shared)(us:List Value),K.In s.heap->(us++ds).length=ps.length->BindsTo s fd ⟨us,[]⟩ (ps.zip (us++ds))
theorem Binds.all{K:PySem.W.Frag}{fd:FuncData}{ps:List Str}(h:∀us:List Value,us.length=ps.length->bindArgs fd ⟨us,[]⟩=pure (ps.zip us)):Binds K fd ps []:=λs us _ hl=>by rw[Q2]at hl ⊢;exact .of_eq (h us hl)
noncomputable def qa(CX:jt)(X:Cx)(E:XK):Prop:=∀(pins:List (Addr×Obj))(σ:St)(H:Hp)(s:Shared)(e:Value)(s':Shared),Inv X pins σ H s->CX X.stack H s E e s'->X.xe e s'
section
variable{X:Cx}{CX:jt}{k:Nat}{f C:Addr}{fd:FuncData}{ps:List Str}{sp:Sp}{uv:List V}{ds:List Value}{E:XK}{x m:Str}{p pos apos:Pos}{e o:Expr}{es:List Expr}{ta:TE}{t:TA}
theorem D3{pins:List (Addr×Obj)}{σ:St}{H:Hp}{s:Shared}{Q:VK}{us:List Value}{vs:List V}(F:iN X.prog X.w X.K X.mg X.base CX k f fd ps sp)(hr:gK k X.A)(hb:Binds X.K fd ps ds)(hd:aq uv ds)(hx:qa CX X E)
  (I:Inv X pins σ H s) (r:aq vs us) (h:sp (vs++uv) H Q E):wpAny (model X.prog X.w) X.A (call (.ref f) us) (EP X pins σ Q) X.xe s:=by
 have r2:aq (vs++uv) (us++ds):=r.append hd;have hl:(us++ds).length=ps.length:=by rw[<-r2.length];exact F.len _ _ _ _ h
 refine wpAny_call (codeAny_mono (F.run X.A X.stack s H ⟨us,[]⟩ (us++ds) (vs++uv) Q E hr I.fz (hb s us I.jF hl) r2 h) λr s' hq=>?_);cases r with
 |error e=>exact hx pins σ H s e s' I hq
 |ok fl=>
  cases fl with
  |ret u=>exact I.after hq
  |next=>exact False.elim hq
  |brk=>exact False.elim hq
  |cont=>exact False.elim hq
theorem As(F:iN X.prog X.w X.K X.mg X.base CX k f fd ps sp)(hr:gK k X.A)(hg:Gl X x)(hm:X.mg x=some (.ref f))(hk:PySem.W.keepIn X.K (.ref f)=true)(hb:Binds X.K fd ps ds)(hd:aq uv ds)(hx:qa CX X E)
  (ha:PA X (e::es) t) (oQ:(x==("__debug__":Str))=false:=by decide) (he:starEach (e::es) X.env=(false,eval e X.env)::starEach es X.env:=by rfl) (eL:(backTo pos (starEach es X.env)).any (·.1)=false:=by rfl):
  PE X (.Call (.Name x p) (e::es) [] pos) (HI sp uv E t):=by
 intro pins s σ H Q I h;refine SR (hZ I hg hm ?_ oQ);refine PySem.W.callWith_K (h₀:=X.base) I.ok.mod.KZ hk (bN (ha pos pins s σ H _ I h) λus s1⟨vs,H1,I1,r,q⟩=>⟨I1.jF,?_⟩) he eL;exact D3 F hr hb hd hx I1 r q
end
structure eF(N P:List Str)(sc:Scope):Prop where
 kind:sc.kind= .function
 co:sc.isCoroutine=false
 gen:sc.isGenerator=false
 nd:N.Nodup
 pre:N.take P.length=P
 par:∀x∈P,sc.names.lookup x=some .local\/sc.names.lookup x=some .cell
 Dy:∀y∈sc.names,y.2≠ .free
theorem lH{kindOf:Str->Option NameKind}{x:Str}:∀{binds:List (Str×Value)}{m:Str->Option Value},(∀v,(x,v)∉binds)->bindL kindOf binds m x=m x
 |[],_,_=>rfl
 |(n,v)::r,m,h=>by
  unfold bindL;rw[lH λw hw=>h w (Qt _ hw)];split
  ·have:x≠n:=by rintro rfl;exact h v Qv
   simp[this]
  ·rfl
theorem lF{kindOf:Str->Option NameKind}{x:Str}:∀{binds:List (Str×Value)}{m:Str->Option Value},(∀v,(x,v)∉binds)->bindC kindOf binds m x=m x
 |[],_,_=>rfl
 |(n,v)::r,m,h=>by
  unfold bindC;rw[lF λw hw=>h w (Qt _ hw)];split
  ·rfl
  ·have:x≠n:=by rintro rfl;exact h v Qv
   simp[this]
theorem lG{kindOf:Str->Option NameKind}{x:Str}{v:Value}:∀{P:List Str}{vs:List Value}{i:Nat}{m:Str->Option Value},P.Nodup->P[i]?=some x->vs[i]?=some v->kindOf x=some .local->
  bindL kindOf (P.zip vs) m x=some v
 |[],_,_,_,_,h,_,_=>by simp at h
 |_::_,[],_,_,_,_,h,_=>by simp at h
 |p::P,w::vs,0,m,nd,h1,h2,hk=>by simp at h1 h2;subst h1;subst h2;show bindL kindOf ((p,w)::P.zip vs) m p=_;unfold bindL;rw[lH λv hv=>(R5.mp nd).1 (R6 hv).1,SH hk];simp
 |p::P,w::vs,i+1,m,nd,h1,h2,hk=>by show bindL kindOf ((p,w)::P.zip vs) m x=_;unfold bindL;exact lG (i:=i) (R5.mp nd).2 (by simpa using h1) (by simpa using h2) hk
theorem lE{kindOf:Str->Option NameKind}{x:Str}{v:Value}:∀{P:List Str}{vs:List Value}{i:Nat}{m:Str->Option Value},P.Nodup->P[i]?=some x->vs[i]?=some v->kindOf x≠some .local->
  bindC kindOf (P.zip vs) m x=some v
 |[],_,_,_,_,h,_,_=>by simp at h
 |_::_,[],_,_,_,_,h,_=>by simp at h
 |p::P,w::vs,0,m,nd,h1,h2,hk=>by simp at h1 h2;subst h1;subst h2;show bindC kindOf ((p,w)::P.zip vs) m p=_;unfold bindC;rw[lF λv hv=>(R5.mp nd).1 (R6 hv).1,SF hk];simp
 |p::P,w::vs,i+1,m,nd,h1,h2,hk=>by show bindC kindOf ((p,w)::P.zip vs) m x=_;unfold bindC;exact lE (i:=i) (R5.mp nd).2 (by simpa using h1) (by simpa using h2) hk
noncomputable def start(N:List Str)(vs:List V):St:=vs.map some++List.replicate (N.length-vs.length) none
noncomputable def jY(CX:jt)(P:Program)(w:World)(K:PySem.W.Frag)(mg:Str->Option Value)(base:Heap)(N:List Str)(qual:Str)(scope:Scope)(f:Addr)(cd:Value)(A:Around)(outer:List Env)(s:Shared)(H:Hp)(E:XK):Cx where
 prog:=P
 w:=w
 K:=K
 mg:=mg
 base:=base
 A:=A.deeper (envOfC qual scope s.heap.objs.size f cd)
 N:=N
 s₀:=s
 H₀:=H
 env:=envOfC qual scope s.heap.objs.size f cd
 outer:=outer
 stack:=envOfC qual scope s.heap.objs.size f cd::outer
 ex:=[]
 calm:=true
 fn:=λ_=>true
 pn:=[]
 xe:=λe s'=>wpAny (model P w) (A.deeper (envOfC qual scope s.heap.objs.size f cd)) (leaving (envOfC qual scope s.heap.objs.size f cd) e) (λ_ s''=>CX outer H s E e s'') (λe' s''=>CX outer H s E e' s'') s'
theorem oz{sc:Scope}{n:Nat}{x:Str}(h:sc.names.lookup x=some .cell):∃c,(cellsFrom n sc.names []).lookup x=some c:=by have q:=Sw sc.names n [] (.inl h);exact Option.isSome_iff_exists.mp q
theorem uF{CX:jt}{P:Program}{w:World}{K:PySem.W.Frag}{mg:Str->Option Value}{base:Heap}{N ps:List Str}{qual:Str}{scope:Scope}{f:Addr}{cd:Value}{A:Around}{outer:List Env}{s s1:Shared}{H:Hp}{E:XK}{us:List Value}{vs:List V}
  (S:eF N ps scope) (hd:A.handled=none) (e0:zh P w K mg base A outer s H) (hl:vs.length=ps.length) (r:aq vs us)
  (x:InCallC s s.heap.objs.size (bindL (envOfC qual scope s.heap.objs.size f cd).kindOf (ps.zip us) λ_=>none) (cellsFrom (s.heap.objs.size+1) scope.names []) (bindC (envOfC qual scope s.heap.objs.size f cd).kindOf (ps.zip us) λ_=>none) s1):
  Inv (jY CX P w K mg base N qual scope f cd A outer s H E) [] (start N vs) H s1:=by
 have eL:ps.length<=N.length:=by have:=SD List.length S.pre;rw[RT]at this;lia
 obtain⟨h1,tk,rfl,hk⟩:=x.done;have GW:∀b:Addr,b∉(jY CX P w K mg base N qual scope f cd A outer s H E).ex:=λb z=>absurd (show b∈([]:List Addr) from z) (by simp)
 refine⟨⟨e0.mod,S.kind,rfl,rfl,Qu _,λy z c h1 h2=>?_,λy hy=>?_,λy c _ h=>?_,λ_=>hd,Around.frames_deeper e0.frames,.inr ⟨rfl,rfl⟩,λb z=>absurd z (GW b),e0.bs,e0.vH,λb _ _=>GW b,λb z=>absurd z (GW b),e0.gq,e0.zH⟩,
  rfl,e0.bare,Un.kept hk,⟨_,x.toInCall.ns,λi y v h1 h2 h3=>?_⟩,λy c h=>⟨_,x.cell y c h⟩,e0.hok.fresh (Qu _),λy c h=>?_,λp hp=>absurd (show p∈([]:List (Addr×Obj)) from hp) (by simp),e0.hok.kept hk,?_⟩
 ·exact name_of_addr x.apart (Sz h1) (Sz h2)
 ·have hy:scope.names.lookup y=some .cell\/scope.names.lookup y=some .free:=hy;rcases hy with hy|hy
  ·exact oz hy
  ·exact absurd rfl (S.Dy _ (Sz hy))
 ·exact Se (x.above y c (Sz h))
 ·have hi:i<vs.length:=by
   unfold start at h2;by_cases hi:i<vs.length
   ·exact hi
   ·rw[Q5 (by simpa using hi)]at h2;rw[RF]at h2;split at h2<;>cases h2
  have ha:vs[i]?=some v:=by
   unfold start at h2;rw[Q4 (by simpa using hi),QH]at h2;cases e:vs[i]? with
   |none=>rw[e]at h2;cases h2
   |some a=>rw[e]at h2;cases h2;rfl
  obtain⟨u,hu,rv⟩:=r.get ha;have hp:ps[i]?=some y:=by rw[<-S.pre,RH ⋯];exact h1
  have Nc:ps.Nodup:=by rw[<-S.pre];exact S.nd.sublist (List.take_sublist _ _)
  refine⟨u,rv,?_⟩;rcases S.par y (R1 hp)with k|k
  ·exact .inl ⟨k,lG Nc hp hu k⟩
  ·obtain⟨c,e⟩:=oz (n:=s.heap.objs.size+1) k;refine .inr ⟨.inl k,c,e,?_⟩;have q:=x.cell y c e;rw[lE Nc hp hu (by show scope.names.lookup y≠_;rw[k];decide)]at q;exact q
 ·exact e0.hok.fresh (Se (x.above y c (Sz h)))
 ·unfold start;show _=N.length;rw[QE,Qx,RN]
  lia
end L2
namespace L2
open PySem PySem.Spec PyProof.Rows
section
variable{X:Cx}{x:Str}{p pos:Pos}{e:Expr}{es:List Expr}{t:TA}{id T:String}{r:List V->Hp->VK->Prop}
noncomputable def LQ(r:List V->Hp->VK->Prop)(t:TA):TE:=λσ H Q=>t σ H λvs H1=>r vs H1 Q
theorem kA(hc:dw X (.builtin id) r)(hg:Gl X x)(hm:X.mg x=none)(hv:bootBuiltins x=some (.builtin id))(ha:PA X (e::es) t)(hn:x≠"__name__":=by decide)(oQ:(x==("__debug__":Str))=false:=by decide)
  (he:starEach (e::es) X.env=(false,eval e X.env)::starEach es X.env:=by rfl) (eL:(backTo pos (starEach es X.env)).any (·.1)=false:=by rfl):PE X (.Call (.Name x p) (e::es) [] pos) (LQ r t):=by
 intro pins s σ H Q I h;refine SR (gv I hg hm hv ?_ hn oQ);exact PyProof.Rows.callWith_builtin1 (bN (ha pos pins s σ H _ I h) λus s1⟨vs,H1,I1,r1,q1⟩=>hc pins s1 σ H1 vs us Q I1 r1 q1) he eL
theorem uP(hc:dw X (.type T) r)(hg:Gl X x)(hm:X.mg x=none)(hv:bootBuiltins x=some (.type T))(ha:PA X (e::es) t)(hn:x≠"__name__":=by decide)(oQ:(x==("__debug__":Str))=false:=by decide)
  (he:starEach (e::es) X.env=(false,eval e X.env)::starEach es X.env:=by rfl) (eL:(backTo pos (starEach es X.env)).any (·.1)=false:=by rfl):PE X (.Call (.Name x p) (e::es) [] pos) (LQ r t):=by
 intro pins s σ H Q I h;refine SR (gv I hg hm hv ?_ hn oQ);exact Sq (bN (ha pos pins s σ H _ I h) λus s1⟨vs,H1,I1,r1,q1⟩=>hc pins s1 σ H1 vs us Q I1 r1 q1) he eL
end
end L2
namespace HT
open PySem PyProof.Rows
section
variable{prog:Program}{w:World}{A:Around}{E:Value->Shared->Prop}{s:Shared}
theorem zB{t b:Addr}{vs ws:List Value}{Q:Value->Shared->Prop}(ht:IsTup s.heap t vs.toArray)(hb:IsTup s.heap b ws.toArray)(hv:vs≠[])
  (h1:ws=[]->Q (.ref t) s) (h2:ws≠[]->Q (.ref s.heap.objs.size) {s with heap:=s.heap.push {cls:=.type "tuple",data:=.seq (vs++ws).toArray}})
  (kY:vs.length+ws.length<=sizeLine):wpAny (model prog w) A (binaryOp .Add (.ref t) (.ref b)) Q E s:=by
 obtain⟨⟨cls,dd,data,sl⟩,ho,hc,n,hd⟩:=id ht;obtain⟨⟨Cv,rY,data2,p7⟩,oS,kW,n2,hd2⟩:=id hb;simp only at hc hd kW hd2;subst hc hd kW hd2;have e:vs.toArray++ws.toArray=(vs++ws).toArray:=by simp
 by_cases hw:ws=[]
 ·exact concat_meets ⟨_,ho,rfl⟩ ⟨_,oS,rfl⟩ SJ seq_tuple_add Sv Su (Ss _ _)
   (tuple_addW1 t b vs.toArray ws.toArray n n2 dd rY sl p7 (by simpa using hv) (by simp[hw])) ⟨ho,oS,h1 hw⟩
 ·refine concat_meets ⟨_,ho,rfl⟩ ⟨_,oS,rfl⟩ SJ seq_tuple_add Sv Su (Ss _ _)
   (tuple_addW2 t b vs.toArray ws.toArray n n2 dd rY sl p7 (by simpa using hv) (by simpa using hw) (by rw[Qq,Qq];exact kY)) ⟨ho,oS,?_⟩
  rw[e];exact h2 hw
noncomputable def bY(n d:Nat):Option Int->Nat
 |none=>d
 |some v=>if v<0 then(v+(n:Int)).toNat else min v.toNat n
theorem yd(n d:Nat):bY n d none=d:=rfl
theorem AM(n d k:Nat):bY n d (some (k:Int))=min k n:=by show (if (k:Int)<0 then((k:Int)+(n:Int)).toNat else min (k:Int).toNat n)=min k n;rw[SF ⋯,Ru]
theorem D4(n d:Nat)(hd:d<=n)(o:Option Int):bY n d o<=n:=by
 cases o with
 |none=>exact hd
 |some v=>
  show (if v<0 then(v+(n:Int)).toNat else min v.toNat n)<=n;by_cases hv:v<0
  ·rw[SH hv];lia
  ·rw[SF hv];exact Nat.min_le_right _ _
theorem rV(v:Int)(n d:Nat):(if v<0 then max (v+(n:Int)) 0 else min v (n:Int))=((bY n d (some v):Nat):Int):=by
 show (if v<0 then max (v+(n:Int)) 0 else min v (n:Int))=(((if v<0 then(v+(n:Int)).toNat else min v.toNat n):Nat):Int);by_cases hv:v<0
 ·simp only[SH hv];lia
 ·simp only[SF hv];lia
theorem qd(lo hi:Option Int)(n:Nat):Builtin.Slice.sliceAdjust lo hi 1 (n:Int)=(((bY n 0 lo:Nat):Int),((bY n n hi:Nat):Int)):=by
 have h1:¬((1:Int)<0):=⋯
 unfold Builtin.Slice.sliceAdjust;simp only[h1,SE];refine Prod.ext ?_ ?_
 ·cases lo with
  |none=>rfl
  |some v=>exact rV v n 0
 ·cases hi with
  |none=>rfl
  |some v=>exact rV v n n
theorem qU(i j:Nat):Builtin.Slice.slicePlaces (i:Int) (j:Int) 1=j-i:=by
 unfold Builtin.Slice.slicePlaces;have h1:(1:Int)>0:=⋯
 simp only[h1,SI,Int.ediv_one];split<;>lia
theorem kJ{v:Value}{o:Option Int}{Q:Option Int->Shared->Prop}(p:IsPart v o)(h:Q o s):wpAny (model prog w) A (Builtin.Slice.slicePartIndex v) Q E s:=by
 cases p with
 |none=>exact slicePart_none h
 |int i t=>exact slicePart_int h
theorem et{sl:Addr}{vl vu:Value}{lo hi:Option Int}{n:Nat}{Q:Int×Int×Nat->Shared->Prop}(hs:s.heap.IsSliceOf sl vl vu .none)(pl:IsPart vl lo)(pu:IsPart vu hi)
  (h:Q (((bY n 0 lo:Nat):Int),1,bY n n hi-bY n 0 lo) s):wpAny (model prog w) A (Builtin.Slice.sliceApplied (.ref sl) (pure (n:Int))) Q E s:=by
 obtain⟨os,C4,vg,CQ⟩:=id hs;unfold Builtin.Slice.sliceApplied Builtin.Slice.sliceFields;refine Ql (Ql (SW C4 CQ (x:=vl) rfl (Ql (SW C4 CQ (x:=vu) rfl (Ql (SW C4 CQ (x:=.none) rfl (Qo ?_)))))));refine Ql (slicePart_none ?_);show wpAny _ _ (if ((1:Int)==0)=true then _ else _) _ _ s;rw[SF (by decide)];refine Ql (kJ pl (Ql (kJ pu (Ql (Qo ?_)))));show wpAny _ _ (match Builtin.Slice.sliceAdjust lo hi 1 (n:Int)with|(lo,hi)=>pure (lo,(1:Int),Builtin.Slice.slicePlaces lo hi 1)) _ _ s;rw[qd lo hi n];show wpAny _ _ (pure (((bY n 0 lo:Nat):Int),(1:Int),Builtin.Slice.slicePlaces ((bY n 0 lo:Nat):Int) ((bY n n hi:Nat):Int) 1)) _ _ s;rw[qU];exact Qo h
theorem xR(xs:Array Value)(i k:Nat):((List.range k).filterMap λ(m:Nat)=>xs[((i:Int)+(m:Int)*1).toNat]?).toArray=((xs.toList.drop i).take k).toArray:=by
 have e:(λ(m:Nat)=>xs[((i:Int)+(m:Int)*1).toNat]?)=λm=>xs[i+m]?:=by
  funext m;have:((i:Int)+(m:Int)*1).toNat=i+m:=⋯
  rw[this]
 rw[e];have:=pick_run xs i k;rw[List.filterMap_map]at this;have e2:((λx=>xs[x]?) ∘ λx=>i+x)=λm=>xs[i+m]?:=rfl
 rw[e2]at this;rw[this]
theorem gX{t sl:Addr}{items:Array Value}{vl vu:Value}{lo hi:Option Int}{Q:Value->Shared->Prop}(ht:IsTup s.heap t items)(hs:s.heap.IsSliceOf sl vl vu .none)(pl:IsPart vl lo)(pu:IsPart vu hi)
  (hw:¬(bY items.size 0 lo=0/\bY items.size items.size hi=items.size))
  (h:Q (.ref s.heap.objs.size) {s with heap:=s.heap.push {cls:=.type "tuple",data:=.seq ((items.toList.drop (bY items.size 0 lo)).take (bY items.size items.size hi-bY items.size 0 lo)).toArray}})
  (kY:items.size<=sizeLine):wpAny (model prog w) A (getItem (.ref t) (.ref sl)) Q E s:=by
 have sJ:sizeOk (.seq ((items.toList.drop (bY items.size 0 lo)).take (bY items.size items.size hi-bY items.size 0 lo)).toArray):=by
  show ((items.toList.drop (bY items.size 0 lo)).take (bY items.size items.size hi-bY items.size 0 lo)).toArray.size<=sizeLine;rw[Qq,RT,RK,QI]
  lia
 have hj:bY items.size items.size hi<=items.size:=D4 _ _ (Qu _) hi;obtain⟨os,C4,vg,CQ⟩:=id hs;have Kn:s.TypeIs (.ref sl) "slice":=⟨os,C4,vg⟩;unfold getItem
 try with_reducible refine SX ?_
 first|refine Ql (Qo ?_)|skip
 refine Ql (wpAny_sequenceKey ht.typeIs (by decide) ?_);refine Ql (SU (name:=Str.ofString "__getitem__") ht.typeIs Sr
  (SV Sr ht.typeIs entry_tuple_getitem ?_ (args_tuple_getitem _ _)))
 show wpAny _ _ (Builtin.Tuple.tupleItemsOf (.ref t) >>=_) _ _ s;refine Ql (tupleItemsOf_ ht ?_);refine Ql (Tc Kn ?_);rw[SH (by decide)];refine Ql (et hs pl pu ?_);have OG:¬((((bY items.size 0 lo:Nat):Int)==0&&(1:Int)==1&&(bY items.size items.size hi-bY items.size 0 lo)==items.size)=true):=by intro q;rw[Qp,Qp]at q;have q1:((bY items.size 0 lo:Nat):Int)=0:=QL q.1.1;have q2:bY items.size items.size hi-bY items.size 0 lo=items.size:=QL q.2;exact hw ⟨by lia,by lia⟩
 show wpAny _ _ (if (((bY items.size 0 lo:Nat):Int)==0&&(1:Int)==1&&(bY items.size items.size hi-bY items.size 0 lo)==items.size)=true then _ else _) _ _ s;rw[SF OG,xR]
 first
  |exact Ql (m:=Builtin.Tuple.tupleExact _) (SZ (Qo ⟨_,rfl,Qo h⟩) sJ)
  |exact Ql (m:=Builtin.Tuple.tupleExact _) (SZ (Ql (Qo (Qo ⟨_,rfl,Qo h⟩))) sJ)
  |exact Ql (Ql (m:=Builtin.Tuple.tupleExact _) (SZ (Qo (Qo ⟨_,rfl,Qo h⟩)) sJ))
  |exact Ql (Ql (m:=Builtin.Tuple.tupleExact _) (SZ (Qo ⟨_,rfl,Qo h⟩) sJ))
end
end HT
namespace L2
open PySem PySem.Spec PyProof.Rows
noncomputable abbrev TO:=St->Hp->(Option Int->Hp->Prop)->Prop
noncomputable def PO(X:Cx)(e:Option Expr)(t:TO):Prop:=
 ∀(pins:List (Addr×Obj))(s:Shared)(σ:St)(H:Hp)(Q:Option Int->Hp->Prop),Inv X pins σ H s->t σ H Q->
  wpAny (model X.prog X.w) X.A (evalPart e X.env) (λu s'=>∃o H',Inv X pins σ H' s'/\IsPart u o/\Q o H') X.xe s
noncomputable def AY:TO:=λ_ H Q=>Q none H
noncomputable def HP(t:TE):TO:=λσ H Q=>t σ H λx H1=>∃i,x= .int i/\Q (some i) H1
section
variable{X:Cx}{e:Expr}{te:TE}{lo hi:Option Expr}{tl th:TO}{pos p2:Pos}
theorem tE:PO X none AY:=by intro pins s σ H Q I h;rw[evalPart_none];exact Qo ⟨none,H,I,.none,h⟩
theorem tF(h:PE X e te):PO X (some e) (HP te):=by
 intro pins s σ H Q I hw;rw[evalPart_some];refine bN (h pins s σ H _ I hw) λu s1⟨x,H1,I1,r1,q1⟩=>?_
 obtain⟨i,rfl,q⟩:=q1;obtain⟨t,rfl⟩:=r1;exact⟨some i,H1,I1,.int i t,q⟩
noncomputable def EJ(X:Cx)(r:V->Option Int->Option Int->Hp->VK->Prop):Prop:=
 ∀(pins:List (Addr×Obj))(s:Shared)(σ:St)(H:Hp)(x:V)(v vl vu:Value)(lo hi:Option Int)(sl:Addr)(Q:VK),Inv X pins σ H s->RelV x v->s.heap.IsSliceOf sl vl vu .none->IsPart vl lo->IsPart vu hi->r x lo hi H Q->
  ∃T id,typeLookup (.type T) "__getitem__"=pure (some (.builtin id))/\s.TypeIs v T/\wpAny (model X.prog X.w) X.A (getItem v (.ref sl)) (EP X pins σ Q) X.xe s
noncomputable def Pw(r:V->Option Int->Option Int->Hp->VK->Prop)(te:TE)(tl th:TO):TE:=λσ H Q=>te σ H λx H1=>tl σ H1 λl H2=>th σ H2 λu H3=>r x l u H3 Q
theorem pj{r:V->Option Int->Option Int->Hp->VK->Prop}(hr:EJ X r)(he:PE X e te)(hl:PO X lo tl)(hu:PO X hi th):PE X (.Subscript e (.Slice lo hi none p2) pos) (Pw r te tl th):=by
 intro pins s σ H Q I h;refine Subscript_ (bN (he pins s σ H _ I h) λv s1⟨x,H1,I1,r1,q1⟩=>?_);refine wpAny_Slice (bN (hl pins s1 σ H1 _ I1 q1) λvl s2⟨l,H2,I2,pl,q2⟩=>bN (hu pins s2 σ H2 _ I2 q2) λvu s3⟨u,H3,I3,pu,q3⟩=>?_);rw[evalPart_none];refine Qo ?_;have I4:Inv X pins σ H3 {s3 with heap:=s3.heap.push {cls:=.type "slice",data:=.fields #[vl,vu,.none]}}:=I3.kept (t':=s3.toks) λb ob q=>Qn _ q
 obtain⟨T,id,hT,ht,hg⟩:=hr pins {s3 with heap:=s3.heap.push {cls:=.type "slice",data:=.fields #[vl,vu,.none]}} σ H3 x v vl vu l u s3.heap.objs.size Q I4 r1 (Heap.IsSliceOf.new ..) pl pu q3;show wpAny (model X.prog X.w) X.A (subscriptTail e (.Slice lo hi none p2) v (.ref s3.heap.objs.size)) (EP X pins σ Q) X.xe {s3 with heap:=s3.heap.push {cls:=.type "slice",data:=.fields #[vl,vu,.none]}};exact tail_any (ops:=[.ref s3.heap.objs.size,v]) ht hT hg (by with_unfolding_all rfl)
noncomputable def k9(xs:List V)(lo hi:Option Int):List V:=(xs.drop (HT.bY xs.length 0 lo)).take (HT.bY xs.length xs.length hi-HT.bY xs.length 0 lo)
theorem jc(xs:List V)(lo hi:Option Int):(k9 xs lo hi).length<=xs.length:=by
 unfold k9;rw[RT,RK]
 lia
noncomputable def Ly(K:PySem.W.Frag):V->Option Int->Option Int->Hp->VK->Prop:=λx lo hi H Q=>∃a xs,x= .ref a/\dY K H a xs/\
 ¬(HT.bY xs.length 0 lo=0/\HT.bY xs.length xs.length hi=xs.length)/\∀p,H p=none->Q (.ref p) (upd H p (.tup (k9 xs lo hi)))
theorem Ee:EJ X (Ly X.K):=by
 intro pins s σ H x v vl vu lo hi sl Q I rx hs pl pu h;obtain⟨a,xs,rfl,hx,hw,q⟩:=h;cases rx;obtain⟨its,r,ht,hz⟩:=I.tuple hx;have hlen:its.toArray.size=xs.length:=by rw[Qq];exact r.length.symm
 refine⟨"tuple",_,Sr.lookup,ht.typeIs,?_⟩;refine HT.gX ht hs pl pu (by rw[hlen];exact hw) ?_ (by rw[hlen];exact hz);rw[hlen];refine⟨.ref s.heap.objs.size,_,I.laid (t':=s.toks) (o:=.tup (k9 xs lo hi)) (λb ob q=>Qn _ q) (Qu _) ?_,rfl,q _ (I.hok.fresh (Qu _))⟩;exact⟨Qz (jc xs lo hi) hz,_,(r.drop (HT.bY xs.length 0 lo)).take (HT.bY xs.length xs.length hi-HT.bY xs.length 0 lo),jQ.new _ _⟩
noncomputable def Hg(K:PySem.W.Frag):R2:=λx y H Q=>∃a b xs ys,x= .ref a/\y= .ref b/\dY K H a xs/\dY K H b ys/\xs≠[]/\xs.length+ys.length<=sizeLine/\
 (ys=[]->Q (.ref a) H)/\(ys≠[]->∀p,H p=none->Q (.ref p) (upd H p (.tup (xs++ys))))
theorem aq.nF{xs:List V}{us:List Value}(r:aq xs us):us=[]↔xs=[]:=by
 cases r with
 |nil=>simp
 |cons _ _=>simp
theorem Aq:kT X (binaryOp .Add) (Hg X.K):=by intro pins s σ H x y v u Q I rx ry h;obtain⟨a,b,xs,ys,rfl,rfl,ha,hb,hx,hz,q1,q2⟩:=h;cases rx;cases ry;obtain⟨its,r1,p1,_⟩:=I.tuple ha;obtain⟨aG,r2,p2,_⟩:=I.tuple hb;refine HT.zB p1 p2 (λz=>hx (r1.nF.mp z)) (λz=>⟨.ref a,H,I,rfl,q1 (r2.nF.mp z)⟩) (λz=>?_) (by rw[<-r1.length,<-r2.length];exact hz);refine⟨.ref s.heap.objs.size,_,I.laid (t':=s.toks) (o:=.tup (xs++ys)) (λb ob q=>Qn _ q) (Qu _) ?_,rfl,q2 (λw=>z (r2.nF.mpr w)) _ (I.hok.fresh (Qu _))⟩;exact⟨by rw[QE];exact hz,_,r1.append r2,jQ.new _ _⟩
end
end L2
namespace L2
open PySem PySem.Spec PyProof.Rows
noncomputable def kZ(n:Nat)(i:Int):Option Nat:=if 0<=i then(if i<n then some i.toNat else none) else if -(n:Int)<=i then some (i+n).toNat else none
noncomputable def k8{α:Type}(xs:List α)(i:Int):Option α:=(kZ xs.length i).bind λj=>xs[j]?
theorem sQ{n:Nat}{i:Int}{j:Nat}(h:kZ n i=some j):seqIndex? i n=some j/\j<n/\ -(n:Int)<=i/\i<n:=by
 unfold kZ at h;by_cases h0:0<=i
 ·rw[SH h0]at h;by_cases h1:i<n
  ·rw[SH h1]at h;have e:i.toNat=j:=So h;exact⟨by rw[seqIndex_of h0 h1,e],by lia,by lia,h1⟩
  ·rw[SF h1]at h;cases h
 ·rw[SF h0]at h;by_cases h1: -(n:Int)<=i
  ·rw[SH h1]at h;have e:(i+n).toNat=j:=So h;exact⟨by rw[seqIndex_neg ⋯ h1,e],by lia,h1,by lia⟩
  ·rw[SF h1]at h;cases h
theorem mF{α:Type}{xs:List α}{i:Int}{v:α}(h:k8 xs i=some v):∃j,seqIndex? i xs.length=some j/\xs[j]?=some v/\j<xs.length/\ -(xs.length:Int)<=i/\i<xs.length:=by
 unfold k8 at h;cases e:kZ xs.length i with
 |none=>rw[e]at h;cases h
 |some j=>rw[e]at h;obtain⟨h1,h2,h3,h4⟩:=sQ e;exact⟨j,h1,h,h2,h3,h4⟩
theorem jw{α:Type}{xs:List α}{j:Nat}{v:α}(h:xs[j]?=some v):k8 xs (j:Int)=some v:=by
 have hj:j<xs.length:=(Qs.mp h).1;have e:kZ xs.length (j:Int)=some j:=by unfold kZ;rw[SH ⋯,SH ⋯];simp
 unfold k8;rw[e];exact h
theorem ot{α:Type}(xs:List α)(v:α):k8 (xs++[v]) (-1)=some v:=by
 have hl:(xs++[v]).length=xs.length+1:=by simp
 have e:kZ (xs++[v]).length (-1)=some xs.length:=by
  unfold kZ;rw[hl,SF (by decide),SH ⋯];congr 1
  lia
 unfold k8;rw[e];show (xs++[v])[xs.length]?=some v;simp
noncomputable def mC(b:Expr):Prop:=∀o i,subscripted b false o i=operate [o,i] (getItem o i)
noncomputable def Fe(X:Cx)(r:R2):Prop:=
 ∀(value slice:Expr)(pins:List (Addr×Obj))(s:Shared)(σ:St)(H:Hp)(x y:V)(v u:Value)(Q:VK),Inv X pins σ H s->RelV x v->RelV y u->r x y H Q->
  subscripted slice false v u=operate [v,u] (getItem v u)->wpAny (model X.prog X.w) X.A (subscriptTail value slice v u) (EP X pins σ Q) X.xe s
noncomputable def Iw(X:Cx)(id:String)(r:V->List V->Hp->VK->Prop):Prop:=
 ∀(pins:List (Addr×Obj))(s:Shared)(σ:St)(H:Hp)(x:V)(xs:List V)(v:Value)(us:List Value)(Q:VK),Inv X pins σ H s->RelV x v->aq xs us->r x xs H Q->
  wpAny (model X.prog X.w) X.A (call (.builtin id) (v::us)) (EP X pins σ Q) X.xe s
section
variable{X:Cx}{a b:Expr}{ta tb:TE}{pos:Pos}
theorem Hb{r:R2}(hr:Fe X r)(ha:PE X a ta)(hb:PE X b tb)(hs:mC b):PE X (.Subscript a b pos) (Jl r ta tb):=by intro pins s σ H Q I h;exact Subscript_ (Ck ha hb I h λv u s2 x y H2 I2 rx ry q=>hr a b pins s2 σ H2 x y v u Q I2 rx ry q (hs _ _))
noncomputable def Lq(K:PySem.W.Frag):R2:=λx y H Q=>∃p xs i v,x= .ref p/\y= .int i/\dy K H p xs/\k8 xs i=some v/\Q v H
noncomputable def Lu(K:PySem.W.Frag):R2:=λx y H Q=>∃p xs i v,x= .ref p/\y= .int i/\dY K H p xs/\k8 xs i=some v/\Q v H
noncomputable def Lr:R2:=λx y H Q=>∃z i c,x= .str z/\y= .int i/\z.length<=sizeLine/\k8 z.cps.toList i=some c/\Q (.str ⟨#[c]⟩) H
theorem sS:Fe X (Lq X.K):=by
 intro value slice pins s σ H x y v u Q I rx ry h hs;obtain⟨p,xs,i,z,rfl,rfl,hq,he,q⟩:=h;cases rx;obtain⟨t,rfl⟩:=ry;obtain⟨its,r,pl,hz⟩:=I.list hq;obtain⟨j,h1,h2,h3,h4,h5⟩:=mF he;obtain⟨w,ew,LC⟩:=r.get h2;have hl:=r.length;have hn:=iV;have fin:EP X pins σ Q w s:=⟨z,H,I,LC,q⟩;by_cases h0:0<=i
 ·have hj:i.toNat=j:=by rw[seqIndex_of h0 h5]at h1;exact So h1
  exact item_listR pl.isList h0 ⋯ (by rw[hj];simpa using ew) fin hs
 ·have hj:(i+(its.toArray.size:Int)).toNat=j:=by rw[seqIndex_neg ⋯ h4]at h1;rw[Qq,<-hl];exact So h1
  exact subscriptTail_builtinR (x:=w) pl.isList.typeIs slot_list_getitem.lookup
   (wpAny_getItem_list_neg (Q:=λr s'=>r=w/\EP X pins σ Q r s') pl.isList ⋯ (by rw[Qq]<;>lia) ⋯ (by rw[hj];simpa using ew) ⟨rfl,fin⟩) hs
theorem Di:Fe X (Lu X.K):=by
 intro value slice pins s σ H x y v u Q I rx ry h hs;obtain⟨p,xs,i,z,rfl,rfl,hq,he,q⟩:=h;cases rx;obtain⟨t,rfl⟩:=ry;obtain⟨its,r,pl,hz⟩:=I.tuple hq;obtain⟨j,h1,h2,h3,h4,h5⟩:=mF he;obtain⟨w,ew,LC⟩:=r.get h2;have hl:=r.length;have hn:=iV;have fin:EP X pins σ Q w s:=⟨z,H,I,LC,q⟩;exact subscriptTail_builtinR (x:=w) pl.typeIs slot_tuple_getitem.lookup
  (getItem_tuple (j:=j) (Q:=λr s'=>r=w/\EP X pins σ Q r s') pl ⋯ ⋯ (by rw[Qq,<-hl];exact h1) (by simpa using ew) ⟨rfl,fin⟩) hs
theorem Dh:Fe X Lr:=by
 intro value slice pins s σ H x y v u Q I rx ry h hs;obtain⟨z,i,c,rfl,rfl,hz,he,q⟩:=h;obtain⟨t,rfl⟩:=rx;obtain⟨t',rfl⟩:=ry;obtain⟨j,h1,h2,h3,h4,h5⟩:=mF he;have hl:z.cps.toList.length=z.length:=by simp[Str.length]
 rw[hl]at h1 h4 h5;have hn:=iV;exact tail_any (typeIs_str s z t) slot_str_getitem.lookup (getItem_str (c:=c) (by
  have e1:decide (i < -(2^63:Int))=false:=QN ⋯;have e2:decide (i>=2^63)=false:=QN ⋯;rw[e1,e2,Bool.or_false]) (by rw[h1];simpa using h2) ⟨.str ⟨#[c]⟩,H,I.tok _,⟨_,rfl⟩,q⟩) hs
theorem qL(its:List Value)(n j:Nat)(u:Value):Obj.mapSeq (·.setIfInBounds j u) {cls:=.type "list",data:=.seq its.toArray n}={cls:=.type "list",data:=.seq (its.set j u).toArray n}:=by simp[Obj.mapSeq]
theorem Inv.lst{pins:List (Addr×Obj)}{σ:St}{H:Hp}{s:Shared}{p:Addr}{xs:List V}(I:Inv X pins σ H s)(h:H p=some (.lst xs)):
  ∃(its:List Value)(n:Nat),aq xs its/\s.heap.get? p=some {cls:=.type "list",data:=.seq its.toArray n}/\xs.length<=sizeLine:=by
 obtain⟨z,its,n,r,e⟩:=I.hok p _ h;exact⟨its,n,r,e,z⟩
theorem Inv.Ds{pins:List (Addr×Obj)}{σ:St}{H:Hp}{s:Shared}{p:Addr}{xs ys:List V}{its its':List Value}{n n':Nat}{f:Obj->Obj}(I:Inv X pins σ H s)(h:H p=some (.lst xs))
  (ho:s.heap.get? p=some {cls:=.type "list",data:=.seq its.toArray n}) (hf:f {cls:=.type "list",data:=.seq its.toArray n}={cls:=.type "list",data:=.seq its'.toArray n'}) (r:aq ys its') (hz:ys.length<=sizeLine) (t:Nat):
  Inv X pins σ (upd H p (.lst ys)) {s with heap:=s.heap.update p f,toks:=t}:=by
 have e:(s.heap.update p f).get? p=some {cls:=.type "list",data:=.seq its'.toArray n'}:=by rw[Heap.get?_update_self f ho (by rw[hf]<;>rfl),hf]
 refine I.write (x:=p) (e:=p) (by rw[h];trivial) (.inl rfl) (λb u hb q=>(QQ _ _ (Sn hb)).trans q) ⟨_,e⟩ ?_;exact⟨hz,its',n',r,e⟩
noncomputable def BS:V->V->V->Hp->(Hp->Prop)->Prop:=λo i v H Q=>∃p xs k j,o= .ref p/\i= .int k/\H p=some (.lst xs)/\kZ xs.length k=some j/\Q (upd H p (.lst (xs.set j v)))
theorem set_list:Fi X BS:=by
 intro pins s σ H o i v ov iv u Q I ro ri rv h;obtain⟨p,xs,k,j,rfl,rfl,hp,hj,q⟩:=h;cases ro;obtain⟨t,rfl⟩:=ri;obtain⟨its,n,r,ho,hz⟩:=I.lst hp;obtain⟨h1,h2,h3,h4⟩:=sQ hj;have hl:=r.length;have hn:=iV;have I':Inv X pins σ (upd H p (.lst (xs.set j v))) {s with heap:=s.heap.update p (Obj.mapSeq (·.setIfInBounds j u))}:=
  I.Ds hp ho (qL its n j u) (r.set rv j) (by rw[RP];exact hz) s.toks
 by_cases h0:0<=k
 ·have hk:k.toNat=j:=by rw[seqIndex_of h0 h4]at h1;exact So h1
  exact PySem.W.ki_setAt ho h0 ⋯ (by rw[Qq,<-hl];exact h4) (by rw[hk];exact⟨_,I',q⟩)
 ·have hk:(k+(its.toArray.size:Int)).toNat=j:=by rw[seqIndex_neg ⋯ h3]at h1;rw[Qq,<-hl];exact So h1
  exact PySem.W.ki_setBack ho ⋯ (by rw[Qq,<-hl];exact h3) ⋯ (by rw[hk];exact⟨_,I',q⟩)
theorem nR(lo hi:Option Int)(n:Nat):(sliceBounds lo hi none n).1=((HT.bY n 0 lo:Nat):Int)/\(sliceBounds lo hi none n).2.1=((HT.bY n n hi:Nat):Int)/\(sliceBounds lo hi none n).2.2=1:=by
 refine⟨?_,?_,rfl⟩
 ·cases lo with
  |none=>simp[sliceBounds,HT.bY]
  |some i=>
   simp only[sliceBounds,HT.bY,Option.getD_none,show (1:Int)>0 by decide,SI];by_cases h:i<0
   ·simp only[h,SI]<;>lia
   ·simp only[h,SE]<;>lia
 ·cases hi with
  |none=>simp[sliceBounds,HT.bY]
  |some i=>
   simp only[sliceBounds,HT.bY,Option.getD_none,show (1:Int)>0 by decide,SI];by_cases h:i<0
   ·simp only[h,SI]<;>lia
   ·simp only[h,SE]<;>lia
theorem lx(its:List Value)(lo hi:Option Int):slicePick its.toArray lo hi none=((its.drop (HT.bY its.length 0 lo)).take (HT.bY its.length its.length hi-HT.bY its.length 0 lo)).toArray:=by obtain⟨h1,h2,h3⟩:=nR lo hi its.toArray.size;unfold slicePick;rw[h1,h2,h3];simp only[sliceRange_one,pick_run,Qq]<;>rfl
noncomputable def Lw(K:PySem.W.Frag):V->Option Int->Option Int->Hp->VK->Prop:=λx lo hi H Q=>∃a xs,x= .ref a/\dy K H a xs/\∀p,H p=none->Q (.ref p) (upd H p (.lst (k9 xs lo hi)))
theorem tN:EJ X (Lw X.K):=by intro pins s σ H x v vl vu lo hi sl Q I rx hs pl pu h;obtain⟨a,xs,rfl,hx,q⟩:=h;cases rx;obtain⟨its,r,ht,hz⟩:=I.list hx;have hlen:=r.length;refine⟨"list",_,slot_list_getitem.lookup,ht.isList.typeIs,?_⟩;refine wpAny_getItem_list_slice ht.isList hs pl pu .none (by simp) ?_ (by rw[Qq]<;>lia);rw[lx,<-hlen];refine⟨.ref s.heap.objs.size,_,I.laid (t':=s.toks) (o:=.lst (k9 xs lo hi)) (λb ob q=>Qn _ q) (Qu _) ?_,rfl,q _ (I.hok.fresh (Qu _))⟩;exact⟨Qz (jc xs lo hi) hz,_,0,(r.drop (HT.bY xs.length 0 lo)).take (HT.bY xs.length xs.length hi-HT.bY xs.length 0 lo),Qw _ rfl⟩
theorem eI:dw X (.type "list") (λxs H Q=>∃p ys,xs=[.ref p]/\(dy X.K H p ys\/dY X.K H p ys)/\∀l,H l=none->Q (.ref l) (upd H l (.lst ys))):=by
 intro pins s σ H xs us Q I r h;obtain⟨p,ys,rfl,hq,q⟩:=h;obtain⟨u,rfl,rx⟩:=vals1 r;cases rx;have fin:∀(its:List Value),aq ys its->ys.length<=sizeLine->∀(h':Heap)(c':Nat),(∀b o',s.heap.get? b=some o'->h'.get? b=some o')->
   h'.get? s.heap.objs.size=some {cls:=.type "list",dict:=none,data:=.seq its.toArray c',slots:=#[]}->EP X pins σ Q (.ref s.heap.objs.size) {s with heap:=h'}:=λits r' hz h' c' kp e=>
  ⟨.ref s.heap.objs.size,_,I.laid (t':=s.toks) kp (Qu _) (show bw X.prog X.w _ h' _ (.lst ys) from⟨hz,its,c',r',e⟩),rfl,q _ (I.hok.fresh (Qu _))⟩
 rcases hq with hq|hq
 ·obtain⟨its,r',pl,hz⟩:=I.list hq;have hlen:=r'.length;obtain⟨o,ho,hc,n,hd⟩:=pl.isList;exact call_list_seq p (.inl rfl) ho hc hd (λh' c' kp e=>fin its r' hz h' c' kp e) (by simp only[Qq]<;>lia)
 ·obtain⟨its,r',pl,hz⟩:=I.tuple hq;have hlen:=r'.length;obtain⟨o,ho,hc,n,hd⟩:=pl;exact call_list_seq p (.inr rfl) ho hc hd (λh' c' kp e=>fin its r' hz h' c' kp e) (by simp only[Qq]<;>lia)
theorem gc:dw X (.type "tuple") (λxs H Q=>∃p ys,xs=[.ref p]/\((dy X.K H p ys/\∀l,H l=none->Q (.ref l) (upd H l (.tup ys)))\/(dY X.K H p ys/\Q (.ref p) H))):=by
 intro pins s σ H xs us Q I r h;obtain⟨p,ys,rfl,h⟩:=h;obtain⟨u,rfl,rx⟩:=vals1 r;cases rx;rcases h with ⟨hq,q⟩|⟨hq,q⟩
 ·obtain⟨its,r',pl,hz⟩:=I.list hq;have hlen:=r'.length;refine call_tuple_list pl.isList (λh' kp=>?_) (by simp only[Qq]<;>lia);have I1:Inv X pins σ H {s with heap:=h'}:=I.kept (t':=s.toks) kp;have I2:Inv X pins σ (upd H h'.objs.size (.tup ys)) {s with heap:=h'.push {cls:=.type "tuple",data:=.seq its.toArray}}:=
   I1.laid (t':=s.toks) (λb o e=>Qn _ e) (Qu _) (show bw X.prog X.w _ _ _ (.tup ys) from⟨hz,its,r',jQ.new _ _⟩)
  exact⟨.ref h'.objs.size,_,I2,rfl,q _ (I1.hok.fresh (Qu _))⟩
 ·obtain⟨its,r',pl,hz⟩:=I.tuple hq;exact call_tuple_same pl ⟨.ref p,H,I,rfl,q⟩
noncomputable def Me(K:PySem.W.Frag)(T:String)(x:V)(H:Hp):Prop:=match x with
 |.str _=>T="str"
 |.int _=>T="int"
 |.ref p=>(T="list"/\∃xs,dy K H p xs)\/(T="tuple"/\∃o,K.lookup p=some o/\o.cls= .type "tuple"/\o.dict=none)\/
   (T="dict"/\((∃bx,H p=some (.dK bx))\/∃bx,H p=some (.dT bx)))\/(T="set"/\∃S n,H p=some (.set S n))
 |_=>False
theorem yG{pins:List (Addr×Obj)}{σ:St}{H:Hp}{s:Shared}{T:String}{x:V}{v:Value}(I:Inv X pins σ H s)(r:RelV x v)(ty:Me X.K T x H):
  s.TypeIs v T/\∀a,v= .ref a->∃ob,s.heap.get? a=some ob/\ob.dict=none:=by
 cases x with
 |str z=>obtain⟨t,rfl⟩:=r;cases (show T="str" from ty);exact⟨typeIs_str s z t,λ_ e=>nomatch e⟩
 |int i=>obtain⟨t,rfl⟩:=r;cases (show T="int" from ty);exact⟨typeIs_int s i t,λ_ e=>nomatch e⟩
 |ref p=>
  cases r;rcases ty with ⟨rfl,xs,hq⟩|⟨rfl,o,hk,hc,hd⟩|⟨rfl,hk⟩|⟨rfl,S,n,hk⟩
  ·obtain⟨its,_,pl,_⟩:=I.list hq;refine⟨pl.isList.typeIs,λa e=>?_⟩;cases e;obtain⟨o,n,e,c,hd,_⟩:=pl;exact⟨o,e,hd⟩
  ·refine⟨⟨o,I.jF p o hk,hc⟩,λa e=>?_⟩;cases e;exact⟨o,I.jF _ o hk,hd⟩
  ·have z:∃o,s.heap.get? p=some o/\o.ExactDict:=by
    rcases hk with ⟨bx,hk⟩|⟨bx,hk⟩
    ·obtain⟨_,_,_,_,o,_,_,e,ex,_⟩:=I.hok p _ hk;exact⟨o,e,ex⟩
    ·obtain⟨_,_,_,_,o,_,_,e,ex,_⟩:=I.hok p _ hk;exact⟨o,e,ex⟩
   obtain⟨o,e,ex⟩:=z;refine⟨⟨o,e,ex.1⟩,λa e2=>?_⟩;cases e2;exact⟨o,e,ex.2.1⟩
  ·obtain⟨o,_,_,_,e,ex,_⟩:=I.hok p _ hk;refine⟨⟨o,e,ex.1⟩,λa e2=>?_⟩;cases e2;exact⟨o,e,ex.2.1⟩
 |_=>exact False.elim ty
noncomputable def HH(K:PySem.W.Frag)(T:String)(r:V->List V->Hp->VK->Prop)(to:TE):TE:=λσ H Q=>to σ H λx H1=>Me K T x H1/\r x [] H1 Q
noncomputable def LP(K:PySem.W.Frag)(T:String)(r:V->List V->Hp->VK->Prop)(to:TE)(t:TA):TE:=λσ H Q=>to σ H λx H1=>Me K T x H1/\t σ H1 λxs H2=>r x xs H2 Q
variable{o e:Expr}{es:List Expr}{to:TE}{t:TA}{name:Str}{apos cP:Pos}{T id:String}{r:V->List V->Hp->VK->Prop}
theorem DL(pa:PlainAttrs T)(slot:Slot T name id)(Gw:typeOf (.builtin id)=pure (.type "method_descriptor"))(hm:Iw X id r)(ho:PE X o to)
  (g0:attributeBase o name X.env (eval o X.env)=eval o X.env:=by rfl) (j8:(apos.endLine==cP.line)=true:=by rfl):PE X (.Call (.Attribute o name apos) [] [] cP) (HH X.K T r to):=by
 intro pins s σ H Q I h;refine wpAny_Call_method0_late g0 j8 (bN (ho pins s σ H _ I h) λv s1⟨x,H1,I1,r1,ty,q1⟩=>?_);obtain⟨h1,h2⟩:=yG I1 r1 ty;exact⟨T,id,pa,slot,Gw,h1,h2,Calls.callWith_builtin rfl (PySem.evalArgs_none (hm pins s1 σ H1 x [] v [] Q I1 r1 .nil q1))⟩
theorem BM(pa:PlainAttrs T)(slot:Slot T name id)(Gw:typeOf (.builtin id)=pure (.type "method_descriptor"))(hm:Iw X id r)(ho:PE X o to)(ha:PA X (e::es) t)
  (g0:attributeBase o name X.env (eval o X.env)=eval o X.env:=by rfl)
  (CU:((backTo cP (starEach (e::es) X.env)).all (λx=> !x.1)&&(backToKw cP (keywordEach [] X.env)).all (λx=>x.1.isSome)
   &&decide ((e::es).length+([]:List Keyword).length+(if ([]:List Keyword).isEmpty then 0 else 1)<30))=true:=by rfl)
  (j8:(apos.endLine==cP.line)=true:=by rfl) (hs:starEach (e::es) X.env=(false,eval e X.env)::starEach es X.env:=by rfl) (qA:(backTo cP (starEach es X.env)).any (·.1)=false:=by rfl):
  PE X (.Call (.Attribute o name apos) (e::es) [] cP) (LP X.K T r to t):=by
 intro pins s σ H Q I h;refine wpAny_Call_method_late g0 CU j8 rfl (bN (ho pins s σ H _ I h) λv s1⟨x,H1,I1,r1,ty,q1⟩=>?_);obtain⟨h1,h2⟩:=yG I1 r1 ty;refine⟨T,id,pa,slot,Gw,h1,h2,?_⟩;have hA:=ha cP pins s1 σ H1 _ I1 q1;rw[hs]at hA ⊢;refine Calls.callWith_builtin (by show (false||(backTo cP (starEach es X.env)).any (·.1))=false;rw[qA]<;>rfl) (Calls.evalArgs_plain ?_);exact bN hA λus s2⟨vs,H2,I2,r2,q2⟩=>hm pins s2 σ H2 x vs v us Q I2 r1 r2 q2
end
end L2
namespace L2
open PySem PySem.Spec PyProof.Rows
noncomputable def Ff(X:Cx)(id:String)(r:V->List V->Hp->VK->Prop):Prop:=
 ∀(pins:List (Addr×Obj))(s:Shared)(σ:St)(H:Hp)(x:V)(xs:List V)(v:Value)(us:List Value)(Q:VK),Inv X pins σ H s->RelV x v->aq xs us->r x xs H Q->
  wpAny (model X.prog X.w) X.A (call (.builtin id) (v::us)) (EP X pins σ Q) X.xe s
theorem aq.cons_inv{x:V}{xs:List V}{us:List Value}(h:aq (x::xs) us):∃u ut,us=u::ut/\RelV x u/\aq xs ut:=by
 cases h with
 |cons r t=>exact⟨_,_,rfl,r,t⟩
theorem aq.one{x:V}{us:List Value}(h:aq [x] us):∃u,us=[u]/\RelV x u:=
 have ⟨u,ut,e,r,t⟩:=h.cons_inv
 ⟨u,by cases t;exact e,r⟩
theorem aq.two{x y:V}{us:List Value}(h:aq [x,y] us):∃u v,us=[u,v]/\RelV x u/\RelV y v:=
 have ⟨u,ut,e,r,t⟩:=h.cons_inv;have ⟨v,e2,q⟩:=t.one
 ⟨u,v,e2▸e,r,q⟩
theorem aq.zero:∀{us:List Value},aq [] us->us=[]
 |_,.nil=>rfl
theorem aq.dropLast{xs:List V}{us:List Value}(h:aq xs us):aq xs.dropLast us.dropLast:=by
 induction h with
 |nil=>exact .nil
 |cons r t ih=>
  cases t with
  |nil=>exact .nil
  |cons q t'=>exact .cons r ih
theorem qr{α:Type}(l:List α):l.eraseIdx (l.length-1)=l.dropLast:=by
 induction l with
 |nil=>rfl
 |cons a r ih=>
  cases r with
  |nil=>rfl
  |cons b r=>
   have e:(a::b::r).length-1=((b::r).length-1)+1:=by
    have h1:(a::b::r).length=r.length+2:=rfl;have h2:(b::r).length=r.length+1:=rfl
    lia
   rw[e,List.eraseIdx_cons_succ,ih]
   all_goals rfl
section
variable{X:Cx}{pins:List (Addr×Obj)}{σ:St}{H:Hp}{s:Shared}{l b:Addr}{xs ys zs:List V}
theorem Inv.xm{its its':List Value}{n:Nat}{f:Array Value->Array Value}{t':Nat}(I:Inv X pins σ H s)(hH:H l=some (.lst xs))
  (e:s.heap.get? l=some {cls:=.type "list",data:=.seq its.toArray n}) (hf:f its.toArray=its'.toArray) (hv:aq ys its') (hz:ys.length<=sizeLine):
  Inv X pins σ (upd H l (.lst ys)) {s with heap:=s.heap.update l (Obj.mapSeq f),toks:=t'}:=by
 have q:=PySem.IsL.update e f;rw[hf]at q;refine I.write (x:=l) (e:=l) (by rw[hH];exact trivial) (.inl rfl) (λb' u hb hu=>(QQ s.heap (Obj.mapSeq f) (Sn hb)).trans hu) ⟨_,q⟩ ?_;exact⟨hz,its',_,hv,q⟩
theorem Inv.GO{its:List Value}{t':Nat}(I:Inv X pins σ H s)(hv:aq ys its)(hz:ys.length<=sizeLine):
  Inv X pins σ (upd H s.heap.objs.size (.lst ys)) {s with heap:=s.heap.push {cls:=.type "list",data:=.seq its.toArray},toks:=t'}:=
 I.laid (λ_ _ q=>Qn _ q) (Qu _) ⟨hz,its,0,hv,Qw _ rfl⟩
theorem Inv.fresh(I:Inv X pins σ H s):H s.heap.objs.size=none:=I.hok.fresh (Qu _)
theorem Inv.o4(I:Inv X pins σ H s)(hH:H l=some (.lst xs)):xs.length<=sizeLine/\∃(its:List Value)(n:Nat),aq xs its/\xs.length=its.length/\s.heap.get? l=some {cls:=.type "list",data:=.seq its.toArray n}:=by obtain⟨z,its,n,r,e⟩:=I.hok l _ hH;exact⟨z,its,n,r,r.length,e⟩
theorem pd{n:Nat}(h:n<=sizeLine):Builtin.List.listTooLong n=false:=by unfold Builtin.List.listTooLong;exact QN ⋯
end
section
variable{X:Cx}
noncomputable def tL:V->List V->Hp->VK->Prop:=λx vs H Q=>∃l xs y,x= .ref l/\vs=[y]/\H l=some (.lst xs)/\xs.length<sizeLine/\Q .bz (upd H l (.lst (xs++[y])))
theorem l8:Ff X "list.append" tL:=by
 intro pins s σ H x vs v us Q I rx rv h;obtain⟨l,xs,y,rfl,rfl,hH,hz,q⟩:=h;cases rx;obtain⟨u,rfl,ru⟩:=rv.one;obtain⟨z,its,n,r,hl,e⟩:=I.o4 hH;refine SC F.slot_list_append ⟨_,e,rfl⟩ F.entry_list_append (F.args_list_append_2 _ _) (PySem.list_append l its.toArray n u (by rw[Qq];lia)) ⟨e,?_⟩;refine⟨.bz,_,I.xm (its':=its++[u]) hH e (by simp) (r.append (.cons ru .nil)) ?_,rfl,q⟩;rw[QE,RQ]
 lia
noncomputable def AK:V->List V->Hp->VK->Prop:=λx vs H Q=>∃l b xs zs,x= .ref l/\vs=[.ref b]/\H l=some (.lst xs)/\H b=some (.lst zs)/\xs.length+zs.length<=sizeLine/\Q .bz (upd H l (.lst (xs++zs)))
theorem uN:Ff X "list.extend" AK:=by
 intro pins s σ H x vs v us Q I rx rv h;obtain⟨l,b,xs,zs,rfl,rfl,hH,hB,hz,q⟩:=h;cases rx;obtain⟨u,rfl,ru⟩:=rv.one;cases ru;obtain⟨z,its,n,r,hl,e⟩:=I.o4 hH;obtain⟨z2,aG,n2,r2,iM,e2⟩:=I.o4 hB;have kY:its.toArray.size+aG.toArray.size<=sizeLine:=by rw[Qq,Qq];lia
 have Gf:¬(!its.toArray.isEmpty&&Builtin.List.listTooLong (its.toArray.size+aG.toArray.size))=true:=by rw[pd kY,Ra];exact Rf
 refine SC F.slot_list_extend ⟨_,e,rfl⟩ F.entry_list_extend (F.args_list_extend_2 _ _)
  (AutoSeq1.list_extend_list_list_0 l its.toArray n b aG.toArray n2 Gf (by rw[Qq];lia) ⋯) ⟨e,e2,?_⟩
 refine⟨.bz,_,I.xm (its':=its++aG) hH e (by simp) (r.append r2) ?_,rfl,q⟩;rw[QE]
 lia
noncomputable def Lv:V->List V->Hp->VK->Prop:=λx vs H Q=>∃l xs y,x= .ref l/\vs=[]/\H l=some (.lst xs)/\xs[xs.length-1]?=some y/\Q y (upd H l (.lst xs.dropLast))
theorem K9:Ff X "list.pop" Lv:=by
 intro pins s σ H x vs v us Q I rx rv h;obtain⟨l,xs,y,rfl,rfl,hH,hy,q⟩:=h;cases rx;have KN:=rv.zero;subst KN;obtain⟨z,its,n,r,hl,e⟩:=I.o4 hH;obtain⟨u,hu,ru⟩:=r.get hy;have O6:its.toArray[its.toArray.size-1]?=some u:=by show its.toArray[its.length-1]?=some u;rw[<-Array.getElem?_toList,<-hl];exact hu
 refine SC F.slot_list_pop ⟨_,e,rfl⟩ F.entry_list_pop (F.args_list_pop_1 _) (MeetsSeq.list_pop_last l its.toArray n u O6 (by rw[Qq];lia)) ⟨e,?_⟩;refine⟨y,_,I.xm (its':=its.dropLast) hH e ?_ r.dropLast ?_,ru,q⟩
 ·show its.toArray.eraseIdxIfInBounds (its.toArray.size-1)=its.dropLast.toArray;rw[Qq,List.eraseIdxIfInBounds_toArray,qr]
 ·rw[List.length_dropLast]
  lia
noncomputable def ya:V->List V->Hp->VK->Prop:=λx vs H Q=>∃l xs,x= .ref l/\vs=[]/\H l=some (.lst xs)/\Q .bz (upd H l (.lst []))
theorem xn:Ff X "list.clear" ya:=by intro pins s σ H x vs v us Q I rx rv h;obtain⟨l,xs,rfl,rfl,hH,q⟩:=h;cases rx;have KN:=rv.zero;subst KN;obtain⟨z,its,n,r,hl,e⟩:=I.o4 hH;refine SC F.slot_list_clear ⟨_,e,rfl⟩ F.entry_list_clear (F.args_list_clear_1 _) (AutoSeq1.list_clear_list_0 l its.toArray n (by rw[Qq];lia)) ⟨e,?_⟩;exact⟨.bz,_,I.xm (its':=[]) (ys:=[]) hH e rfl .nil (Sm _),rfl,q⟩
noncomputable def Ln:R2:=λx y H Q=>∃l b xs zs,x= .ref l/\y= .ref b/\H l=some (.lst xs)/\H b=some (.lst zs)/\xs.length+zs.length<=sizeLine/\∀p,H p=none->Q (.ref p) (upd H p (.lst (xs++zs)))
theorem eP:kT X (binaryOp .Add) Ln:=by
 intro pins s σ H x y v u Q I rx ry h;obtain⟨l,b,xs,zs,rfl,rfl,hH,hB,hz,q⟩:=h;cases rx;cases ry;obtain⟨z,its,n,r,hl,e⟩:=I.o4 hH;obtain⟨z2,aG,n2,r2,iM,e2⟩:=I.o4 hB;refine PySem.P.add_list e e2 ?_ (by rw[Qq,Qq];lia);have ea:its.toArray++aG.toArray=(its++aG).toArray:=by simp
 rw[ea];exact⟨.ref _,_,I.GO (t':=s.toks) (r.append r2) (by rw[QE];lia),rfl,q _ I.fresh⟩
end
end L2
namespace Att
open PySem PySem.W PySem.Calls PyProof.Rows
theorem jl{P:Params}{h:Heap}:∀(ns:List Int)(vs:List Value),WellAll P h vs (ns.map WData.int)->IntsAre vs ns:=by
 intro ns
 induction ns with
 |nil=>intro vs w;rw[List.map_nil]at w;cases w;exact .nil
 |cons n ns ih=>
  intro vs w;rw[Q6]at w;cases w with
  |cons a b=>cases a;exact .cons _ _ (ih _ b)
theorem uW{l:OpenLaw}{n:Nat}(hn:l.most=some n){P:Params}{h:Heap}{args:List WData}{vals:List Value}
  (zU:l.row.toRowW.claim.pre args=true) (Jc:WellAll P h vals args):
  ∃a vs ns,vals=[Value.ref a]/\args=[WData.list (ns.map WData.int)]/\h.get? a=some {cls:=.type "list",data:=.seq vs.toArray}/\IntsAre vs ns/\ns.length<=n:=by
 have OQ:WShape.hasAll [] args [.list .int]=true:=(pre_splitW zU).1;have hc:l.pre.holds [] {args:=args}=true:=(pre_splitW zU).2;obtain⟨d,r,rfl,h1,h2⟩:=hasAllW_cons OQ;obtain rfl:=hasAllW_nil h2;obtain⟨xs,rfl,h3⟩:=hasW_list h1;obtain⟨ns,rfl⟩:=items_int h3;have hlen:ns.length<=n:=by
  unfold OpenLaw.pre at hc;have h4:(WTm.not (.lt (.lit (.int (n:Int))) (.len (.arg 0)))).holds [] {args:=[.list (ns.map .int)]}=true:=by have h4:=(holds_andW hc).1;rw[hn]at h4;exact h4
  have h5:=condW_of h4 (w_not (w_lt w_lit (w_len_list (w_arg rfl))));rw[Qx]at h5;refine Nat.le_of_not_lt λq=>?_
  have q':(n:Int)<((ns.length:Nat):Int):=⋯
  first
   |(rw[QR q']at h5;exact absurd h5 (by decide))
   |(simp at h5;lia)
 cases Jc with
 |cons w1 w2=>
  cases w2;cases w1 with
  |list ho hall=>exact⟨_,_,ns,rfl,rfl,ho,jl ns _ hall,hlen⟩
theorem uS(l:OpenLaw)(args:List WData):l.row.toRowW.claim.post args (.bool true) args=true:=
 postW_of (r:=l.row.toRowW) (X:=(true==true))
  (show WShape.has [] (.bool true) .bool=true by first|rfl|decide|simp[WShape.has,WShape.arms,WShape.armsAll])
  (show (WTm.eq .res (.lit (.bool true))).value [] {args:=args,res:=some (.bool true),after:=args}=some (.bool (true==true)) from w_eq_bool (w_res rfl) w_lit) rfl
theorem ou{l:OpenLaw}{n:Nat}{q:Program}{loose:List Str}{XP:(Str->Option Value)->Heap->Prop}{YP:World->Heap->Prop}{d:DefRec}
  (hn:l.most=some n) (Ga:d.params.defaults=[])
  (call:∀(w:World)(s₀ s₁:Shared)(mg mb:Str->Option Value)(fa:Addr)(o:Obj)(pm cd doc:Value)(a:Addr)(vs:List Value)(ns:List Int),
   Ground q loose [] XP w s₀ mg mb s₁.heap->YP w s₁.heap->
   s₁.heap.get? fa=some o->o.data= .func (docDef d.name d.params d.body d.scope pm cd doc)->s₁.heap.CodeRec cd d.name->mg d.name=some (.ref fa)->
   s₁.heap.get? a=some {cls:=.type "list",data:=.seq vs.toArray}->IntsAre vs ns->ns.length<=n->s₁.gens=#[]->
   codeAny (model l.prog w) callerA (.call (.ref fa) ⟨[.ref a],[]⟩) (λr s'=>r= .ok (.ret (.bool true))/\OldK s₁.heap s'.heap/\s'.os=s₁.os/\AllBare s'.gens) s₁):
  WalkO q loose XP YP l.row.toRowW d [] (λf vs=>PySem.call f vs):=by
 intro w s₀ s₁ mg mb G Y fa o pm cd doc dV kV ho hd vf hD hmg hg args vals as zU hlay hrd Jc hlo;obtain rfl:dV= .none:=Dflts.none hD Ga;obtain rfl:kV= .none:=Dflts.noKw hD;obtain⟨a,vs,ns,rfl,rfl,C0,hints,hlen⟩:=uW hn zU Jc;refine enter_call (codeAny_mono (call w s₀ s₁ mg mb fa o pm cd doc a vs ns G Y ho (fd_plain hd) vf hmg C0 hints hlen hg) λr s' hq=>?_);obtain⟨rfl,h2,h3,h4⟩:=hq;exact⟨.inl ⟨.bool true,.bool true,[],rfl,λ_=>rfl,.bool true,uS l _,λ_=>⟨List.Pairwise.nil,λ_ hm=>(nomatch hm)⟩⟩,h2,h3,h4⟩
end Att
namespace L2
open PySem PySem.Spec PyProof.Rows
theorem mx:∀{vs:List Value}{ns:List Int},IntsAre vs ns->aq (ns.map V.int) vs
 |_,_,.nil=>.nil
 |_,_,.cons n t h=>.cons ⟨t,rfl⟩ (mx h)
noncomputable def B9(H:Hp):Prop:=∀b,H b=none\/∃o xs,H b=some (.sC o (.lst xs))
theorem xf{P:Program}{w:World}{K:PySem.W.Frag}{mg mb:Str->Option Value}{CX:jt}{k:Nat}{fa a:Addr}{fd:FuncData}{x:Str}{sp:Sp}{s₁:Shared}{vs:List Value}{ns:List Int}
  (KX:K.In s₁.heap) (lS:s₁.heap.Ns mainGlobals mg) (hb:s₁.heap.Ns builtinsNs mb) (Oc:∀x:Str,x≠"__name__"->mb x=bootBuiltins x) (d8:s₁.heap.NoLimit) (hg:s₁.gens=#[])
  (ha:s₁.heap.get? a=some {cls:=.type "list",data:=.seq vs.toArray}) (hi:IntsAre vs ns) (hl:ns.length<=sizeLine) (hr:gK k callerA)
  (F:∀base:Heap,K.In base->base.Ns mainGlobals mg->iN P w K mg base CX k fa fd [x] sp) (F2:∀(s:Shared)(u:Value),BindsTo s fd ⟨[u],[]⟩ [(x,u)])
  (E3:∀H:Hp,B9 H->dy K H a (ns.map V.int)->sp [.ref a] H (λv _=>v= .bl true) λ_ _ _=>False)
  (Ke:∀H e s',CX [] H s₁ (λ_ _ _=>False) e s'->False):
  codeAny (model P w) callerA (.call (.ref fa) ⟨[.ref a],[]⟩) (λr s'=>r= .ok (.ret (.bool true))/\OldK s₁.heap s'.heap/\s'.os=s₁.os/\AllBare s'.gens) s₁:=by
 have rv:=mx hi;have K4:=hi.length;have core:∀H:Hp,B9 H->dy K H a (ns.map V.int)->dX P w H s₁.heap->(∀b,H b≠none->b=a)->(H a≠none->K.lookup a=none)->
   codeAny (model P w) callerA (.call (.ref fa) ⟨[.ref a],[]⟩) (λr s'=>r= .ok (.ret (.bool true))/\OldK s₁.heap s'.heap/\s'.os=s₁.os/\AllBare s'.gens) s₁:=by
  intro H hO hS hok hA hK;have rN:∀{b:Addr}{o:Obj},s₁.heap.get? b=some o->H b=none->(nk s₁.heap H).get? b=some o:=λe n=>wL e n
  have GW:∀{b:Addr}{o:Obj}{es:Array DictEntry}{ep:Nat},s₁.heap.get? b=some o->o.data= .dict es ep->H b=none:=λ {b o es ep} e d=>by
   cases q:H b with
   |none=>rfl
   |some u=>have e':b=a:=hA b (by rw[q];simp);subst e';rw[ha]at e;cases e;have d':Data.seq vs.toArray _=Data.dict es ep:=d;cases d'
  have Jg:∀{b:Addr}{m:Str->Option Value},s₁.heap.Ns b m->(nk s₁.heap H).Ns b m:=λ {b m} ⟨o,es,ep,e,d,r⟩=>⟨o,es,ep,rN e (GW e d),d,r⟩
  have MD:K.In (nk s₁.heap H):=λb o e=>rN (KX b o e) (by
   cases q:H b with
   |none=>rfl
   |some u=>
    have e':b=a:=hA b (by rw[q];simp);subst e';rw[hK (by rw[q];simp)]at e;cases e)
  have hM:Mod K mg (nk s₁.heap H):=⟨MD,Jg lS,⟨mb,Jg hb,Oc⟩,let ⟨mc,h1,h2⟩:=d8;⟨mc,Jg h1,h2⟩⟩;have e0:zh P w K mg (nk s₁.heap H) callerA [] s₁ H:=⟨rfl,hM,λb o e=>Ao e,Nat.le_of_eq (uD _ _),trivial,λb hb=>absurd (show b∈([]:List Addr) from hb) (by simp),hok,.of_eq hg⟩;refine codeAny_mono ((F _ MD (Jg lS)).run callerA [] s₁ H ⟨[.ref a],[]⟩ [.ref a] [.ref a] _ _ hr e0 (F2 s₁ (.ref a)) (.cons rfl .nil) (E3 H hO hS)) λr s' h=>?_
  cases r with
  |error e=>exact(Ke H e s' h).elim
  |ok fl=>
   cases fl with
   |next=>exact False.elim h
   |brk=>exact False.elim h
   |cont=>exact False.elim h
   |ret u=>
    obtain⟨v,H',os,bare,un,zT,r',q⟩:=h;have q':v= .bl true:=q;subst q';obtain rfl:u=Value.bool true:=r';refine⟨rfl,OldK.of_keep λb o e=>?_,os,bare⟩;cases q:H b with
    |none=>exact un.keep b o e q (by intro z;exact absurd (show b∈([]:List Addr) from z) (by simp)) (by simp)
    |some u=>
     rcases hO b with z|⟨ob,xs,z⟩
     ·rw[q]at z;cases z
     ·have z2:=un.frzs b ob _ z;obtain⟨e1,_⟩:=hok b _ z;obtain⟨e2,_⟩:=zT b _ z2;rw[e]at e1;cases e1;exact e2
 cases hk:K.lookup a with
 |some o=>have e:=KX a o hk;rw[ha]at e;cases e;refine core (λ_=>none) (λ_=>.inl rfl) (.inr ⟨_,vs.toArray,_,hk,rfl,rfl,rfl,by rw[Qq,K4];exact hl,by simpa using rv⟩) (λb u z=>by have z':(none:Option HO)=some u:=z;cases z') (λb z=>absurd rfl z) λz=>absurd rfl z
 |none=>
  refine core (λb=>if b=a then some (.sC {cls:=.type "list",data:=.seq vs.toArray} (.lst (ns.map V.int))) else none) (λb=>?_) (.inl (.inr ⟨{cls:=.type "list",data:=.seq vs.toArray},SH rfl⟩)) (λb u z=>?_) (λb z=>?_) λ_=>hk
  ·by_cases hb:b=a
   ·exact .inr ⟨_,_,SH hb⟩
   ·exact .inl (SF hb)
  ·by_cases hb:b=a
   ·have z':=(SH hb).symm.trans z;cases z';subst hb;exact⟨ha,by rw[Qx];exact hl,vs,_,rv,ha⟩
   ·have z':=(SF hb).symm.trans z;cases z'
  ·by_cases hb:b=a
   ·exact hb
   ·exact absurd (SF hb) z
end L2
namespace L2
open PySem PySem.Spec PyProof.Rows
theorem Ba{l:PySem.W.OpenLaw}{n k:Nat}{q:Program}{loose:List Str}{XP:(Str->Option Value)->Heap->Prop}{YP:World->Heap->Prop}{d:DefRec}{K:Params->PySem.W.Frag}{CX:World->jt}{sp:World->Sp}{x:Str}
  (hn:l.most=some n) (CZ:n<=sizeLine) (Ga:d.params.defaults=[]) (hr:gK k callerA)
  (hY:∀(w:World)(h:Heap),YP w h->(K w.params).In h)
  (F:∀(w:World)(mg:Str->Option Value)(fa:Addr)(h:Heap),(K w.params).In h->h.Ns mainGlobals mg->mg d.name=some (.ref fa)->
   ∃fd:FuncData,(∀(s:Shared)(u:Value),BindsTo s fd ⟨[u],[]⟩ [(x,u)])/\
    ∀base:Heap,(K w.params).In base->base.Ns mainGlobals mg->iN l.prog w (K w.params) mg base (CX w) k fa fd [x] (sp w))
  (E3:∀(w:World)(H:Hp)(a:Addr)(ns:List Int),ns.length<=n->B9 H->dy (K w.params) H a (ns.map V.int)->sp w [.ref a] H (λv _=>v= .bl true) λ_ _ _=>False)
  (Ke:∀(w:World)(H:Hp)(s:Shared)(e:Value)(s':Shared),CX w [] H s (λ_ _ _=>False) e s'->False):
  PySem.W.WalkO q loose XP YP l.row.toRowW d [] (λf vs=>PySem.call f vs):=by
 refine Att.ou hn Ga λw s₀ s₁ mg mb fa o pm cd doc a vs ns G Y ho hd vf hmg C0 hints hlen hg=>?_
 have KX:=hY w _ Y;obtain⟨fd,hb,hF⟩:=F w mg fa _ KX G.T.g hmg;exact xf KX G.T.g G.T.b G.T.builtins G.T.nolimit hg C0 hints (Qz hlen CZ) hr hF hb (λH hO hS=>E3 w H a ns hlen hO hS) λH e s'=>Ke w H s₁ e s'
end L2
namespace L2
open PySem PySem.Spec PyProof.Rows
noncomputable def mU(s:Stmt):Arguments:=match s with
 |.FunctionDef _ a _ _ _ _ _ _ _ _=>a
 |_=>{posonlyargs:=[],args:=[],vararg:=none,kwonlyargs:=[],kw_defaults:=[],kwarg:=none,defaults:=[]}
noncomputable def gR(s:Stmt):List Stmt:=match s with
 |.FunctionDef _ _ b _ _ _ _ _ _ _=>b
 |_=>[]
noncomputable def bC(s:Stmt):Scope:=match s with
 |.FunctionDef _ _ _ _ _ _ sc _ _ _=>sc
 |_=>{kind:=.function,names:=[],isGenerator:=false,isCoroutine:=false}
theorem GC{A B:Prop}(h:B):if false=true then A else B:=by rw[SF Rf];exact h
theorem GD{A B:Prop}(h:A):if true=true then A else B:=by rw[SH rfl];exact h
noncomputable def bu(H H':Hp):Prop:=∀b o,H b=some o->H' b=some o
theorem bu.refl(H:Hp):bu H H:=λ_ _ h=>h
theorem bu.trans{H H1 H2:Hp}(a:bu H H1)(b:bu H1 H2):bu H H2:=λc o h=>b c o (a c o h)
end L2
end
section
namespace Mx
open PySem PyProof.Rows
inductive D where
 |int (i:Int)
 |str (x:Str)
 |tup (ds:List D)
mutual
noncomputable def D.fT:D->D->Bool
 |.int i,.int j=>i==j
 |.str x,.str y=>x==y
 |.tup a,.tup b=>D.eqs a b
 |_,_=>false
noncomputable def D.eqs:List D->List D->Bool
 |[],[]=>true
 |x::xs,y::ys=>D.fT x y&&D.eqs xs ys
 |_,_=>false
end
mutual
noncomputable def D.lt:D->D->Bool
 |.int i,.int j=>decide (i<j)
 |.int _,_=>true
 |.str _,.int _=>false
 |.str x,.str y=>decide (x.cps.toList<y.cps.toList)
 |.str _,.tup _=>true
 |.tup a,.tup b=>D.dB a b
 |.tup _,_=>false
noncomputable def D.dB:List D->List D->Bool
 |[],[]=>false
 |[],_::_=>true
 |_::_,[]=>false
 |x::xs,y::ys=>if D.fT x y=true then D.dB xs ys else D.lt x y
end
mutual
theorem D.cJ:∀a b:D,D.fT a b=true↔a=b
 |.int i,.int j=>by simp[D.fT]
 |.str x,.str y=>by simp[D.fT]
 |.tup a,.tup b=>by simp only[D.fT,D.tup.injEq];exact D.rZ a b
 |.int _,.str _=>by simp[D.fT]
 |.int _,.tup _=>by simp[D.fT]
 |.str _,.int _=>by simp[D.fT]
 |.str _,.tup _=>by simp[D.fT]
 |.tup _,.int _=>by simp[D.fT]
 |.tup _,.str _=>by simp[D.fT]
theorem D.rZ:∀a b:List D,D.eqs a b=true↔a=b
 |[],[]=>by simp[D.eqs]
 |[],_::_=>by simp[D.eqs]
 |_::_,[]=>by simp[D.eqs]
 |x::xs,y::ys=>by simp only[D.eqs,Qp,List.cons.injEq];rw[D.cJ x y,D.rZ xs ys]
end
noncomputable instance:DecidableEq D:=λa b=>if h:D.fT a b=true then isTrue ((D.cJ a b).mp h) else isFalse λe=>h ((D.cJ a b).mpr e)
theorem D.gT(a b:D):D.fT a b=decide (a=b):=by rw[Rc,D.cJ];simp
theorem D.dC(x y:D)(xs ys:List D):D.dB (x::xs) (y::ys)=if x=y then D.dB xs ys else D.lt x y:=by
 rw[D.dB];by_cases h:x=y
 ·rw[SH h,SH ((D.cJ x y).mpr h)]
 ·rw[SF h,SF λe=>h ((D.cJ x y).mp e)]
mutual
theorem D.lt_irrefl:∀a:D,D.lt a a=false
 |.int i=>by simp[D.lt]
 |.str x=>by simp only[D.lt];exact strKind.irrefl _
 |.tup a=>by simp only[D.lt];exact D.ke a
theorem D.ke:∀a:List D,D.dB a a=false
 |[]=>by simp[D.dB]
 |x::xs=>by rw[D.dC,SH rfl];exact D.ke xs
end
mutual
theorem D.ie:∀a b:D,D.lt a b=false->D.lt b a=false->a=b
 |.int i,.int j,h1,h2=>by simp only[D.lt,decide_eq_false_iff_not]at h1 h2;congr 1;lia
 |.str x,.str y,h1,h2=>by simp only[D.lt]at h1 h2;have:=strKind.total _ _ h1 h2;congr 1;cases x;cases y;simp only at this;congr 1;exact Array.toList_inj.mp this
 |.tup a,.tup b,h1,h2=>by simp only[D.lt]at h1 h2;rw[D.l6 a b h1 h2]
 |.int _,.str _,h1,_=>by simp[D.lt]at h1
 |.int _,.tup _,h1,_=>by simp[D.lt]at h1
 |.str _,.int _,_,h2=>by simp[D.lt]at h2
 |.str _,.tup _,h1,_=>by simp[D.lt]at h1
 |.tup _,.int _,_,h2=>by simp[D.lt]at h2
 |.tup _,.str _,_,h2=>by simp[D.lt]at h2
theorem D.l6:∀a b:List D,D.dB a b=false->D.dB b a=false->a=b
 |[],[],_,_=>rfl
 |[],_::_,h1,_=>by simp[D.dB]at h1
 |_::_,[],_,h2=>by simp[D.dB]at h2
 |x::xs,y::ys,h1,h2=>by
  rw[D.dC]at h1 h2;by_cases h:x=y
  ·subst h;rw[SH rfl]at h1 h2;rw[D.l6 xs ys h1 h2]
  ·rw[SF h]at h1;rw[SF (Sn h)]at h2;exact absurd (D.ie x y h1 h2) h
end
mutual
theorem D.lt_trans:∀a b c:D,D.lt a b=true->D.lt b c=true->D.lt a c=true
 |.int i,.int j,.int k,h1,h2=>by simp only[D.lt,decide_eq_true_eq]at *;lia
 |.int _,_,.str _,_,_=>by simp[D.lt]
 |.int _,_,.tup _,_,_=>by simp[D.lt]
 |.int _,.str _,.int _,_,h2=>by simp[D.lt]at h2
 |.int _,.tup _,.int _,_,h2=>by simp[D.lt]at h2
 |.str _,.int _,_,h1,_=>by simp[D.lt]at h1
 |.str x,.str y,.str z,h1,h2=>by simp only[D.lt]at *;exact strKind.trans _ _ _ h1 h2
 |.str _,.str _,.int _,_,h2=>by simp[D.lt]at h2
 |.str _,_,.tup _,_,_=>by simp[D.lt]
 |.str _,.tup _,.int _,_,h2=>by simp[D.lt]at h2
 |.str _,.tup _,.str _,_,h2=>by simp[D.lt]at h2
 |.tup _,.int _,_,h1,_=>by simp[D.lt]at h1
 |.tup _,.str _,_,h1,_=>by simp[D.lt]at h1
 |.tup _,.tup _,.int _,_,h2=>by simp[D.lt]at h2
 |.tup _,.tup _,.str _,_,h2=>by simp[D.lt]at h2
 |.tup a,.tup b,.tup c,h1,h2=>by simp only[D.lt]at *;exact D.l7 a b c h1 h2
theorem D.l7:∀a b c:List D,D.dB a b=true->D.dB b c=true->D.dB a c=true
 |[],[],_,h1,_=>by simp[D.dB]at h1
 |[],_::_,[],_,h2=>by simp[D.dB]at h2
 |[],_::_,_::_,_,_=>by simp[D.dB]
 |_::_,[],_,h1,_=>by simp[D.dB]at h1
 |_::_,_::_,[],_,h2=>by simp[D.dB]at h2
 |x::xs,y::ys,z::zs,h1,h2=>by
  rw[D.dC]at h1 h2 ⊢;by_cases h:x=y
  ·subst h;rw[SH rfl]at h1;by_cases h':x=z
   ·rw[SH h']at h2 ⊢;exact D.l7 xs ys zs h1 h2
   ·rw[SF h']at h2 ⊢;exact h2
  ·rw[SF h]at h1;by_cases h':y=z
   ·subst h';rw[SF h];exact h1
   ·rw[SF h']at h2;have h3:=D.lt_trans x y z h1 h2;by_cases h'':x=z
    ·subst h'';rw[D.lt_irrefl]at h3;cases h3
    ·rw[SF h''];exact h3
end
@[reducible] noncomputable def Fy:KeyOrd where
 α:=D
 blt:=D.lt
 irrefl:=D.lt_irrefl
 trans:=D.lt_trans
 negTrans:=λa b c h=>by
  cases h1:D.lt a b with
  |true=>exact .inl rfl
  |false=>
   right;cases h2:D.lt b a with
   |true=>exact D.lt_trans b a c h2 h
   |false=>rw[D.ie a b h1 h2]at h;exact h
 total:=D.ie
end Mx
end
section
namespace MxSort
open PySem PySem.W PyProof.Rows
section
variable{O:KeyOrd}{key:Nat->O.α}
noncomputable def cX(key:Nat->O.α)(p:Array Nat)(i:Nat):O.α:=key (p.getD i 0)
noncomputable def Up(key:Nat->O.α)(p:Array Nat)(n:Nat):Prop:=∀i j,i<=j->j<n->O.kle (cX key p i) (cX key p j)
noncomputable def Dn(key:Nat->O.α)(p:Array Nat)(n:Nat):Prop:=∀i j,i<=j->j<n->O.kle (cX key p j) (cX key p i)
theorem gW{p q:Array Nat}{i j:Nat}(h:p[i]?=q[j]?):p.getD i 0=q.getD j 0:=by
 have e1:∀(p:Array Nat)(i:Nat),p.getD i 0=(p[i]?).getD 0:=λp i=>by simp[Array.getD_eq_getD_getElem?]
 rw[e1,e1,h]
theorem nz{p:Array Nat}{i j:Nat}(hj:j<=p.size)(k:Nat):cX key (kas_rev p i j) k=if i<=k/\k<j then cX key p (i+j-1-k) else cX key p k:=by
 have e:=getElem?_mirror_all (i:=i) hj k;unfold kas_rev cX;by_cases h1:i<=k/\k<j
 ·rw[SH h1]at e ⊢;exact SD key (gW e)
 ·rw[SF h1]at e ⊢;exact SD key (gW e)
theorem sT{p:Array Nat}{src d:Nat}(hs:src<p.size)(hd:d<=src)(k:Nat):
  cX key (bubble p src d) k=if k=src-d then cX key p src else if src-d<k/\k<=src then cX key p (k-1) else cX key p k:=by
 have e:=getElem?_bubble hs d hd k;unfold cX;by_cases h1:k=src-d
 ·rw[SH h1]at e ⊢;exact SD key (gW e)
 ·rw[SF h1]at e ⊢;by_cases h2:src-d<k/\k<=src
  ·rw[SH h2]at e ⊢;exact SD key (gW e)
  ·rw[SF h2]at e ⊢;exact SD key (gW e)
noncomputable def Ord(N:Nat)(p:Array Nat):Prop:=p.toList.Perm (List.range N)
theorem Ord.size{N:Nat}{p:Array Nat}(h:Ord N p):p.size=N:=by have:=h.length_eq;rw[RM]at this;rw[<-this];simp
theorem Ord.lt{N:Nat}{p:Array Nat}(h:Ord N p)(i:Nat)(h0:0<N):p.getD i 0<N:=by
 by_cases hi:i<p.size
 ·have e:p.getD i 0=p[i]:=by simp[Array.getD,hi]
  rw[e];have:=h.mem_iff.mp (show p[i]∈p.toList by simp);exact Q9.mp this
 ·have e:p.getD i 0=0:=by simp[Array.getD,hi]
  rw[e];exact h0
theorem Ord.perm{N:Nat}{p q:Array Nat}(h:Ord N p)(e:q.Perm p):Ord N q:=(Array.perm_iff_toList_perm.mp e).trans h
theorem Ord.rev{N:Nat}{p:Array Nat}(h:Ord N p)(i j:Nat):Ord N (kas_rev p i j):=h.perm (mirror_perm _ _ _ _)
theorem Ord.Nz{N:Nat}{p:Array Nat}(h:Ord N p)(i j:Nat):Ord N (bubble p i j):=h.perm (bubble_perm _ _ _)
variable{cmp:Nat->Nat->(Bool->Shared->Prop)->Shared->Prop}{s:Shared}{N:Nat}
noncomputable def Tells(O:KeyOrd)(key:Nat->O.α)(cmp:Nat->Nat->(Bool->Shared->Prop)->Shared->Prop)(N:Nat)(s:Shared):Prop:=
 ∀i j,i<N->j<N->∀C:Bool->Shared->Prop,C (O.blt (key i) (key j)) s->cmp i j C s
theorem Tells.at(T:Tells O key cmp N s){p:Array Nat}(hp:Ord N p)(h0:0<N)(i j:Nat){C:Bool->Shared->Prop}(h:C (O.blt (cX key p i) (cX key p j)) s):cmp (p.getD i 0) (p.getD j 0) C s:=
 T _ _ (hp.lt i h0) (hp.lt j h0) C h
theorem Up.succ{p:Array Nat}{n:Nat}(h:Up key p n)(h1:1<=n)(h2:O.kle (cX key p (n-1)) (cX key p n)):Up key p (n+1):=λi j hij hj=>by
 by_cases e:j=n
 ·subst e;by_cases e2:i=j
  ·subst e2;exact Rw _
  ·exact QP (h i (j-1) ⋯ ⋯) h2
 ·exact h i j hij ⋯
theorem Dn.succ{p:Array Nat}{n:Nat}(h:Dn key p n)(h1:1<=n)(h2:O.kle (cX key p n) (cX key p (n-1))):Dn key p (n+1):=λi j hij hj=>by
 by_cases e:j=n
 ·subst e;by_cases e2:i=j
  ·subst e2;exact Rw _
  ·exact QP h2 (h i (j-1) ⋯ ⋯)
 ·exact h i j hij ⋯
theorem qe(T:Tells O key cmp N s){p:Array Nat}(hp:Ord N p){Q:Nat->Shared->Prop}:∀(f n:Nat),1<=n->n+f<=N->Up key p n->
  (∀m,n<=m->m<=n+f->Up key p m->(m<n+f->O.blt (cX key p m) (cX key p (m-1))=true)->Q m s)->(kas_asc p f n).kasWp cmp Q s
 |0,n,h1,hn,hu,h=>h n (Qu _) (Qu _) hu (λz=>absurd z ⋯)
 |f+1,n,h1,hn,hu,h=>by
  refine T.at hp ⋯ n (n-1) ?_;cases hb:O.blt (cX key p n) (cX key p (n-1)) with
  |true=>show (if true=true then KasT.ret n else kas_asc p f (n+1)).kasWp cmp Q s;rw[SH rfl];exact h n (Qu _) ⋯ hu λ_=>hb
  |false=>show (if false=true then KasT.ret n else kas_asc p f (n+1)).kasWp cmp Q s;rw[SF (by simp)];exact qe T hp f (n+1) ⋯ ⋯ (hu.succ h1 hb) λm a b c d=>h m ⋯ ⋯ c λz=>d ⋯
theorem iU{p:Array Nat}{a n:Nat}(hn:n<=p.size)(he:∀k,a<=k->k<n->cX key p k=cX key p (n-1))(k:Nat):cX key (kas_rev p a n) k=cX key p k:=by
 rw[nz hn];split
 ·rename_i h;rw[he (a+n-1-k) ⋯ ⋯,he k h.1 h.2]
 ·rfl
theorem Dn.of{p q:Array Nat}{n:Nat}(e:∀k,cX key q k=cX key p k)(h:Dn key p n):Dn key q n:=λi j a b=>by rw[e,e];exact h i j a b
theorem jy(T:Tells O key cmp N s){Q:Array Nat×Nat×Nat->Shared->Prop}:∀(f:Nat)(p:Array Nat)(n q:Nat),Ord N p->1<=n->q+1<=n->n+f<=N->Dn key p n->(∀k,n-(q+1)<=k->k<n->cX key p k=cX key p (n-1))->
  (∀(p':Array Nat)(m q':Nat),Ord N p'->1<=m->q'+1<=m->m<=n+f->Dn key p' m->(∀k,m-(q'+1)<=k->k<m->cX key p' k=cX key p' (m-1))->Q (p',m,q') s)->(kas_desc f p n q).kasWp cmp Q s
 |0,p,n,q,hp,h1,hq,hn,hd,he,h=>h p n q hp h1 hq (Qu _) hd he
 |f+1,p,n,q,hp,h1,hq,hn,hd,he,h=>by
  have hz:=hp.size;refine T.at hp ⋯ n (n-1) ?_;cases hb:O.blt (cX key p n) (cX key p (n-1)) with
  |true=>
   show (if true=true then(if q>0 then kas_desc f (kas_rev p (n-(q+1)) n) (n+1) 0 else kas_desc f p (n+1) 0) else _).kasWp cmp Q s;rw[SH rfl];have kX:Dn key p (n+1):=hd.succ h1 (Rv hb);by_cases KA:q>0
   ·rw[SH KA];have e:=iU (key:=key) (p:=p) (a:=n-(q+1)) (n:=n) ⋯ he;exact jy T f _ (n+1) 0 (hp.rev _ _) ⋯ ⋯ ⋯ (Dn.of e kX) (λk a b=>by rw[show k=n+1-1 by lia]) λp' m q' a b c d=>h p' m q' a b c ⋯
   ·rw[SF KA];exact jy T f _ (n+1) 0 hp ⋯ ⋯ ⋯ kX (λk a b=>by rw[show k=n+1-1 by lia]) λp' m q' a b c d=>h p' m q' a b c ⋯
  |false=>
   show (if false=true then _ else KasT.ask (p.getD (n-1) 0) (p.getD n 0) λd=>if d=true then .ret (p,n,q) else kas_desc f p (n+1) (q+1)).kasWp cmp Q s;rw[SF (by simp)];refine T.at hp ⋯ (n-1) n ?_;cases hc:O.blt (cX key p (n-1)) (cX key p n) with
   |true=>show (if true=true then KasT.ret (p,n,q) else _).kasWp cmp Q s;rw[SH rfl];exact h p n q hp h1 hq ⋯ hd he
   |false=>
    show (if false=true then KasT.ret (p,n,q) else kas_desc f p (n+1) (q+1)).kasWp cmp Q s;rw[SF (by simp)];have heq:cX key p n=cX key p (n-1):=O.total _ _ hb hc;refine jy T f p (n+1) (q+1) hp ⋯ ⋯ ⋯ (hd.succ h1 (by rw[heq];exact Rw _)) (λk a b=>?_) λp' m q' a b c d=>h p' m q' a b c ⋯
    by_cases e:k=n
    ·rw[show n+1-1=n by lia,e]
    ·rw[he k ⋯ ⋯,show n+1-1=n by lia,heq]
noncomputable def Jv(key:Nat->O.α)(N:Nat)(r:Nat×Array Nat):Prop:=Ord N r.2/\1<=r.1/\r.1<=N/\Up key r.2 r.1
theorem Es{p:Array Nat}{n:Nat}(hn:n<=p.size)(h:Dn key p n):Up key (kas_rev p 0 n) n:=λi j hij hj=>by rw[nz hn,nz hn,SH ⋯,SH ⋯];exact h _ _ ⋯ ⋯
theorem pI(T:Tells O key cmp N s){p:Array Nat}{n:Nat}{Q:Nat×Array Nat->Shared->Prop}(hp:Ord N p)(h1:1<=n)(hn:n<=N)(hd:Dn key p n)(h:∀r,Jv key N r->Q r s):(kas_tail3 n N p).kasWp cmp Q s:=by
 unfold kas_tail3;rw[KasT.kasWp_bind];refine qe T (hp.rev 0 n) (N-n) n h1 ⋯ (Es (by rw[hp.size];exact hn) hd) λm a b c _=>?_
 exact h (m,kas_rev p 0 n) ⟨hp.rev 0 n,(show 1<=m by lia),(show m<=N by lia),c⟩
theorem je(T:Tells O key cmp N s){p:Array Nat}{n:Nat}{Q:Nat×Array Nat->Shared->Prop}(hp:Ord N p)(h1:1<=n)(hn:n+1<=N)(hd:Dn key p (n+1))(h:∀r,Jv key N r->Q r s):(kas_descPart n N p).kasWp cmp Q s:=by
 unfold kas_descPart;rw[KasT.kasWp_bind];refine jy T (N-(n+1)) p (n+1) 0 hp ⋯ ⋯ ⋯ hd (λk a b=>by rw[show k=n+1-1 by lia]) λp' m q' a b c d e g=>?_
 show (if q'>0 then kas_tail3 m N (kas_rev p' (m-(q'+1)) m) else kas_tail3 m N p').kasWp cmp Q s;by_cases hq:q'>0
 ·rw[SH hq];exact pI T (a.rev _ _) b ⋯ (Dn.of (iU (by rw[a.size];lia) g) e) h
 ·rw[SF hq];exact pI T a b ⋯ e h
theorem vT(T:Tells O key cmp N s){p:Array Nat}{Q:Nat×Array Nat->Shared->Prop}(hp:Ord N p)(h1:1<=N)(h:∀r,Jv key N r->Q r s):(kas_count N p).kasWp cmp Q s:=by
 unfold kas_count;rw[KasT.kasWp_bind];refine qe T hp (N-1) 1 (Qu _) ⋯ (λi j a b=>by rw[show i=j by lia];exact Rw _) λn a b c d=>?_
 by_cases e:n=N
 ·subst e;show (if (n==n)=true then KasT.ret (n,p) else _).kasWp cmp Q s;rw[SH (by simp)];exact h (n,p) ⟨hp,a,Qu _,c⟩
 ·show (if (n==N)=true then KasT.ret (n,p) else if n>1 then .ask (p.getD 0 0) (p.getD (n-1) 0) λc=>if c=true then .ret (n,p) else kas_descPart n N (kas_rev p 0 n) else kas_descPart n N p).kasWp cmp Q s;rw[SF (by simpa using e)];have cU:=d ⋯;by_cases hn:n>1
  ·rw[SH hn];refine T.at hp ⋯ 0 (n-1) ?_;cases hb:O.blt (cX key p 0) (cX key p (n-1)) with
   |true=>show (if true=true then KasT.ret (n,p) else _).kasWp cmp Q s;rw[SH rfl];exact h (n,p) ⟨hp,a,(show n<=N by lia),c⟩
   |false=>
    show (if false=true then KasT.ret (n,p) else kas_descPart n N (kas_rev p 0 n)).kasWp cmp Q s;rw[SF (by simp)];have hz:=hp.size;have all:∀k,0<=k->k<n->cX key p k=cX key p (n-1):=λk _ hk=>by refine KeyOrd.kle_antisymm (c k (n-1) ⋯ ⋯) (QP (show O.kle (cX key p (n-1)) (cX key p 0) from hb) (c 0 k ⋯ hk))
    have er:=iU (key:=key) (p:=p) (a:=0) (n:=n) ⋯ all;refine je T (hp.rev 0 n) a ⋯ (Dn.of er (Dn.succ (λi j hij hj=>?_) a (Rv cU))) h;rw[all i ⋯ ⋯,all j ⋯ hj];exact Rw _
  ·rw[SF hn];have e1:n=1:=⋯
   subst e1;refine je T hp a ⋯ (Dn.succ (λi j hij hj=>?_) a (Rv cU)) h;rw[show i=j by lia];exact Rw _
theorem kC(T:Tells O key cmp N s){p:Array Nat}{k:Nat}{Q:Nat->Shared->Prop}(hp:Ord N p)(hk:k<N)(hu:Up key p k):∀(f l r:Nat),l<=r->r<=k->r-l<=f->(∀i,i<l->O.kle (cX key p i) (cX key p k))->(∀i,r<=i->i<k->O.klt (cX key p k) (cX key p i))->
  (∀l,l<=k->(∀i,i<l->O.kle (cX key p i) (cX key p k))->(∀i,l<=i->i<k->O.klt (cX key p k) (cX key p i))->Q l s)->(kas_place p k f l r).kasWp cmp Q s
 |0,l,r,Gg,IU,hf,h1,h2,h=>by
  have e:l=r:=⋯
  subst e;exact h l IU h1 h2
 |f+1,l,r,Gg,IU,hf,h1,h2,h=>by
  show (if l>=r then KasT.ret l else .ask (p.getD k 0) (p.getD ((l+r)/2) 0) λc=>if c=true then kas_place p k f l ((l+r)/2) else kas_place p k f ((l+r)/2+1) r).kasWp cmp Q s;by_cases uC:l>=r
  ·rw[SH uC];have e:l=r:=⋯
   subst e;exact h l IU h1 h2
  ·rw[SF uC];refine T.at hp ⋯ k ((l+r)/2) ?_;cases hb:O.blt (cX key p k) (cX key p ((l+r)/2)) with
   |true=>show (if true=true then kas_place p k f l ((l+r)/2) else _).kasWp cmp Q s;rw[SH rfl];exact kC T hp hk hu f l ((l+r)/2) ⋯ ⋯ ⋯ h1 (λi a b=>KeyOrd.klt_of_klt_of_kle hb (hu _ _ a b)) h
   |false=>show (if false=true then kas_place p k f l ((l+r)/2) else kas_place p k f ((l+r)/2+1) r).kasWp cmp Q s;rw[SF (by simp)];exact kC T hp hk hu f ((l+r)/2+1) r ⋯ IU ⋯ (λi a=>QP (hu i ((l+r)/2) ⋯ ⋯) hb) h2 h
theorem vF(T:Tells O key cmp N s){Q:Array Nat->Shared->Prop}:∀(f:Nat)(p:Array Nat)(k:Nat),Ord N p->k+f=N->Up key p k->(∀p',Ord N p'->Up key p' N->Q p' s)->(kas_bin f p k).kasWp cmp Q s
 |0,p,k,hp,hk,hu,h=>h p hp (by rw[<-hk];exact hu)
 |f+1,p,k,hp,hk,hu,h=>by
  show ((kas_place p k k 0 k).bind λl=>kas_bin f (bubble p k (k-l)) (k+1)).kasWp cmp Q s;rw[KasT.kasWp_bind];refine kC T hp ⋯ hu k 0 k ⋯ (Qu _) ⋯ (λi a=>absurd a ⋯) (λi a b=>absurd a ⋯) λl hl lo hi=>?_
  refine vF T f _ (k+1) (hp.Nz _ _) ⋯ (λi j hij hj=>?_) h;have hz:=hp.size;rw[sT ⋯ ⋯,sT ⋯ ⋯,show k-(k-l)=l by lia]
  repeat' split
  all_goals first
   |(exfalso;lia)
   |exact Rw _
   |exact lo _ ⋯
   |exact Rv (hi _ ⋯ ⋯)
   |exact hu _ _ ⋯ ⋯
theorem AV(T:Tells O key cmp N s){Q:Array Nat->Shared->Prop}(h1:1<=N)(h:∀p',Ord N p'->Up key p' N->Q p' s):(kas_sort N).kasWp cmp Q s:=by
 unfold kas_sort;rw[KasT.kasWp_bind];refine vT T (show Ord N (List.toArray (List.range N)) from by unfold Ord;simp) h1 λr hr=>?_
 obtain⟨a,b,c,d⟩:=hr;by_cases cU:r.1<N
 ·rw[SH cU];have e:max r.1 1=r.1:=⋯
  rw[e];exact vF T _ _ _ a ⋯ d h
 ·rw[SF cU];have e:r.1=N:=⋯
  exact h r.2 a (by rw[<-e];exact d)
end
end MxSort
end
section
namespace Mx
open PySem PySem.Spec PyProof.Rows L2 PySem.SeqAt
mutual
noncomputable def D.dep:D->Nat
 |.int _=>0
 |.str _=>0
 |.tup ds=>D.bK ds+1
noncomputable def D.bK:List D->Nat
 |[]=>0
 |d::ds=>max (D.dep d) (D.bK ds)
end
mutual
noncomputable def DV(H:Hp):V->D->Prop
 |x,.int i=>x= .int i
 |x,.str z=>x= .str z
 |x,.tup ds=>∃a xs,x= .ref a/\H a=some (.tup xs)/\aR H xs ds
noncomputable def aR(H:Hp):List V->List D->Prop
 |[],[]=>True
 |x::xs,d::ds=>DV H x d/\aR H xs ds
 |[],_::_=>False
 |_::_,[]=>False
end
theorem aR.nil{H:Hp}:aR H [] []:=by unfold aR;trivial
theorem aR.cons{H:Hp}{x:V}{xs:List V}{d:D}{ds:List D}(h:DV H x d)(t:aR H xs ds):aR H (x::xs) (d::ds):=by unfold aR;exact⟨h,t⟩
theorem DV.int{H:Hp}{i:Int}:DV H (.int i) (.int i):=by unfold DV;rfl
theorem DV.str{H:Hp}{x:Str}:DV H (.str x) (.str x):=by unfold DV;rfl
theorem DV.tup{H:Hp}{a:Addr}{xs:List V}{ds:List D}(h:H a=some (.tup xs))(t:aR H xs ds):DV H (.ref a) (.tup ds):=by unfold DV;exact⟨a,xs,rfl,h,t⟩
theorem DV.ag{H:Hp}{x:V}{ds:List D}(h:DV H x (.tup ds)):∃a xs,x= .ref a/\H a=some (.tup xs)/\aR H xs ds:=by unfold DV at h;exact h
theorem DV.int_inv{H:Hp}{x:V}{i:Int}(h:DV H x (.int i)):x= .int i:=by unfold DV at h;exact h
theorem DV.str_inv{H:Hp}{x:V}{i:Str}(h:DV H x (.str i)):x= .str i:=by unfold DV at h;exact h
theorem aR.cons_inv{H:Hp}{xs:List V}{d:D}{ds:List D}(h:aR H xs (d::ds)):∃x r,xs=x::r/\DV H x d/\aR H r ds:=by
 cases xs with
 |nil=>unfold aR at h;exact h.elim
 |cons x r=>unfold aR at h;exact⟨x,r,rfl,h⟩
theorem aR.length{H:Hp}:∀{xs:List V}{ds:List D},aR H xs ds->xs.length=ds.length
 |[],[],_=>rfl
 |[],_::_,h=>by unfold aR at h;exact h.elim
 |_::_,[],h=>by unfold aR at h;exact h.elim
 |_::xs,_::ds,h=>by unfold aR at h;simp[aR.length h.2]
theorem aR.get{H:Hp}:∀{xs:List V}{ds:List D}{i:Nat}{x:V},aR H xs ds->xs[i]?=some x->∃d,ds[i]?=some d/\DV H x d
 |[],_,_,_,_,e=>by simp at e
 |_::_,[],_,_,h,_=>by unfold aR at h;exact h.elim
 |_::_,_::_,0,_,h,e=>by unfold aR at h;simp at e;subst e;exact⟨_,rfl,h.1⟩
 |_::xs,_::ds,i+1,x,h,e=>by unfold aR at h;obtain⟨d,e1,e2⟩:=aR.get (i:=i) h.2 (by simpa using e);exact⟨d,by simpa using e1,e2⟩
theorem aR.append{H:Hp}:∀{xs ys:List V}{ds es:List D},aR H xs ds->aR H ys es->aR H (xs++ys) (ds++es)
 |[],_,[],_,_,h=>h
 |[],_,_::_,_,h,_=>by unfold aR at h;exact h.elim
 |_::_,_,[],_,h,_=>by unfold aR at h;exact h.elim
 |_::xs,ys,_::ds,es,h,h'=>by unfold aR at h;exact aR.cons h.1 (aR.append h.2 h')
noncomputable def zk(H H':Hp):Prop:=∀a xs,H a=some (.tup xs)->H' a=some (.tup xs)
mutual
theorem DV.mono{H H':Hp}(t:zk H H'):∀{x:V}{d:D},DV H x d->DV H' x d
 |x,.int i,h=>by unfold DV at h ⊢;exact h
 |x,.str z,h=>by unfold DV at h ⊢;exact h
 |x,.tup ds,h=>by obtain⟨a,xs,e,e1,e2⟩:=h.ag;subst e;exact DV.tup (t a xs e1) (aR.mono t e2)
theorem aR.mono{H H':Hp}(t:zk H H'):∀{xs:List V}{ds:List D},aR H xs ds->aR H' xs ds
 |[],[],_=>aR.nil
 |[],_::_,h=>by unfold aR at h;exact h.elim
 |_::_,[],h=>by unfold aR at h;exact h.elim
 |_::xs,_::ds,h=>by unfold aR at h;exact aR.cons (DV.mono t h.1) (aR.mono t h.2)
end
mutual
theorem DV.inj{H:Hp}:∀{x:V}{d e:D},DV H x d->DV H x e->d=e
 |x,.int i,e,h1,h2=>by
  have:=h1.int_inv;subst this;cases e with
  |int j=>have:=h2.int_inv;injection this with q;rw[q]
  |str j=>have:=h2.str_inv;cases this
  |tup j=>obtain⟨_,_,q,_⟩:=h2.ag;cases q
 |x,.str i,e,h1,h2=>by
  have:=h1.str_inv;subst this;cases e with
  |int j=>have:=h2.int_inv;cases this
  |str j=>have:=h2.str_inv;injection this with q;rw[q]
  |tup j=>obtain⟨_,_,q,_⟩:=h2.ag;cases q
 |x,.tup ds,e,h1,h2=>by
  obtain⟨a,xs,q,e1,e2⟩:=h1.ag;subst q;cases e with
  |int j=>have:=h2.int_inv;cases this
  |str j=>have:=h2.str_inv;cases this
  |tup j=>obtain⟨b,ys,q,f1,f2⟩:=h2.ag;cases q;rw[e1]at f1;cases f1;rw[aR.inj e2 f2]
theorem aR.inj{H:Hp}:∀{xs:List V}{ds es:List D},aR H xs ds->aR H xs es->ds=es
 |[],[],[],_,_=>rfl
 |[],[],_::_,_,h=>by unfold aR at h;exact h.elim
 |[],_::_,_,h,_=>by unfold aR at h;exact h.elim
 |_::_,[],_,h,_=>by unfold aR at h;exact h.elim
 |_::_,_::_,[],_,h=>by unfold aR at h;exact h.elim
 |_::xs,_::ds,_::es,h1,h2=>by unfold aR at h1 h2;rw[DV.inj h1.1 h2.1,aR.inj h1.2 h2.2]
end
noncomputable def IE(ds es:List D)(j:Nat):Bool:=match ds[j]?,es[j]? with
 |some d,some e=>D.fT d e
 |_,_=>true
theorem rJ:∀ds es:List D,((List.range (min ds.length es.length)).all (IE ds es)&&ds.length==es.length)=D.eqs ds es
 |[],[]=>by simp[D.eqs]
 |[],_::_=>by simp[D.eqs]
 |_::_,[]=>by simp[D.eqs]
 |d::ds,e::es=>by
  have ih:=rJ ds es;have hm:min (d::ds).length (e::es).length=min ds.length es.length+1:=by simp only[QG];lia
  have e1:((d::ds).length==(e::es).length)=(ds.length==es.length):=by rw[Rc];simp
  rw[hm,List.range_succ_eq_map,Rz,List.all_map,e1,D.eqs,<-ih,Bool.and_assoc];rfl
theorem mV{d:D}:∀{ds:List D}{j:Nat},ds[j]?=some d->D.dep d<=D.bK ds
 |[],_,h=>by simp at h
 |d'::ds,0,h=>by simp at h;subst h;unfold D.bK;lia
 |d'::ds,j+1,h=>by have:=mV (ds:=ds) (j:=j) (by simpa using h);unfold D.bK;lia
section
variable{P:Program}{w:World}{H:Hp}{s:Shared}
theorem ar(hok:dX P w H s.heap){a:Addr}{xs:List V}(h:H a=some (.tup xs)):∃its:List Value,aq xs its/\s.heap.IsTuple a its.toArray:=by obtain⟨_,its,r,t⟩:=hok a _ h;exact⟨its,r,t.is⟩
theorem eq_data(hok:dX P w H s.heap):∀(n:Nat)(d e:D)(x y:V)(u v:Value)(A:Around),D.dep d<=n->A.units+n<cLine->DV H x d->DV H y e->RelV x u->RelV y v->EqAt A s u v (D.fT d e):=by
 intro n
 induction n with
 |zero=>
  intro d e x y u v A hd hu hx hy rx ry;cases d with
  |int i=>
   have:=hx.int_inv;subst this;obtain⟨t,rfl⟩:=rx;cases e with
   |int j=>have:=hy.int_inv;subst this;obtain⟨t',rfl⟩:=ry;exact EqAt.int_int i t j t'
   |str j=>have:=hy.str_inv;subst this;obtain⟨t',rfl⟩:=ry;exact EqAt.int_str i t j t'
   |tup j=>obtain⟨b,ys,q,f1,f2⟩:=hy.ag;subst q;cases ry;obtain⟨its,_,ht⟩:=ar hok f1;exact EqAt.int_tuple i t ht ⋯
  |str i=>
   have:=hx.str_inv;subst this;obtain⟨t,rfl⟩:=rx;cases e with
   |int j=>have:=hy.int_inv;subst this;obtain⟨t',rfl⟩:=ry;exact EqAt.str_int i t j t'
   |str j=>have:=hy.str_inv;subst this;obtain⟨t',rfl⟩:=ry;exact EqAt.str_str i t j t'
   |tup j=>obtain⟨b,ys,q,f1,f2⟩:=hy.ag;subst q;cases ry;obtain⟨its,_,ht⟩:=ar hok f1;exact EqAt.str_tuple i t ht ⋯
  |tup ds=>unfold D.dep at hd;lia
 |succ n ih=>
  intro d e x y u v A hd hu hx hy rx ry;cases d with
  |int i=>exact ih (.int i) e x y u v A (by unfold D.dep;lia) ⋯ hx hy rx ry
  |str i=>exact ih (.str i) e x y u v A (by unfold D.dep;lia) ⋯ hx hy rx ry
  |tup ds=>
   obtain⟨a,xs,q,e1,e2⟩:=hx.ag;subst q;cases rx;obtain⟨its,r1,ht⟩:=ar hok e1;cases e with
   |int j=>have:=hy.int_inv;subst this;obtain⟨t',rfl⟩:=ry;exact EqAt.tuple_int j t' ht ⋯
   |str j=>have:=hy.str_inv;subst this;obtain⟨t',rfl⟩:=ry;exact EqAt.tuple_str j t' ht ⋯
   |tup es=>
    obtain⟨b,ys,q,f1,f2⟩:=hy.ag;subst q;cases ry;obtain⟨aG,r2,cq⟩:=ar hok f1;by_cases jj:a=b
    ·subst jj;rw[e1]at f1;cases f1;have:=aR.inj e2 f2;subst this;have q:D.fT (.tup ds) (.tup ds)=true:=(D.cJ _ _).mpr rfl;rw[q];exact EqAt.same _
    ·have l1:its.toArray.size=ds.length:=by rw[Qq,<-r1.length,e2.length]
     have l2:aG.toArray.size=es.length:=by rw[Qq,<-r2.length,f2.length]
     have key:=RcAt.tuples (A:=A) (e:=IE ds es) ht cq ⋯ (λj h1 h2=>?_)
     ·have q:=rJ ds es;rw[<-l1,<-l2]at q;rw[q]at key;exact EqAt.of_refs jj key
     ·have iL:j<xs.length:=by rw[e2.length,<-l1];exact h1
      have jB:j<ys.length:=by rw[f2.length,<-l2];exact h2
      obtain⟨d,g1,g2⟩:=e2.get (i:=j) (x:=xs[j]) (by simp[iL]);obtain⟨e,k1,k2⟩:=f2.get (i:=j) (x:=ys[j]) (by simp[jB]);obtain⟨u,zW,ru⟩:=r1.get (i:=j) (x:=xs[j]) (by simp[iL]);obtain⟨v,zX,rv⟩:=r2.get (i:=j) (x:=ys[j]) (by simp[jB]);have eu:its.toArray[j]=u:=by have:its[j]?=some u:=zW;simp only[RJ];have q:=Qs.mp this;exact q.2
      have ev:aG.toArray[j]=v:=by have:aG[j]?=some v:=zX;simp only[RJ];have q:=Qs.mp this;exact q.2
      rw[eu,ev];have ee:IE ds es j=D.fT d e:=by unfold IE;rw[g1,k1]
      rw[ee];refine ih d e xs[j] ys[j] u v A.in1 ?_ (by show A.units+1+n<cLine;lia) g2 k2 ru rv;have:=mV g1;unfold D.dep at hd
      lia
end
mutual
noncomputable def D.cL:D->D->Prop
 |.int _,.int _=>True
 |.str _,.str _=>True
 |.tup a,.tup b=>D.d9 a b
 |_,_=>False
noncomputable def D.d9:List D->List D->Prop
 |x::xs,y::ys=>D.cL x y/\D.d9 xs ys
 |_,_=>True
end
noncomputable def B6(A:Around)(s:Shared)(u v:Value)(b:Bool):Prop:=
 ∀(prog:Program)(w:World)(E:Value->Shared->Prop)(Q:Value->Shared->Prop),Q (.bool b) s->wpAny (model prog w) A (richCompare .Lt u v) Q E s
inductive Zp(A:Around)(s:Shared):List Value->List Value->List D->List D->Prop
 |nil {ws:List Value} {es:List D}:ws.length=es.length->Zp A s [] ws [] es
 |o9 {vs:List Value} {ds:List D}:vs.length=ds.length->Zp A s vs [] ds []
 |cons {v w:Value} {d e:D} {vs ws:List Value} {ds es:List D}:EqAt A s v w (D.fT d e)->(d≠e->B6 A s v w (D.lt d e))->Zp A s vs ws ds es->Zp A s (v::vs) (w::ws) (d::ds) (e::es)
section
open PySem.AutoSeq1 (wpAny_loadPart')
open PySem.MeetsSeq PySem.MeetsSeq2 PySem.MeetsSeq3
theorem lB(l b:Addr)(items cv:Array Value)(n n2:Nat)(dd rY:Option Addr)(sl p7:Array (Option Value))(ds es:List D)(z1:items.size=ds.length)(z2:cv.size=es.length):
  Meets (Builtin.«tuple.__lt__» ⟨[.ref l,.ref b],[]⟩)
   (λA R s=>s.heap.get? l=some {cls:=.type "tuple",dict:=dd,data:=.seq items n,slots:=sl}/\s.heap.get? b=some {cls:=.type "tuple",dict:=rY,data:=.seq cv n2,slots:=p7}/\
    Zp A.in1 s items.toList cv.toList ds es/\R (.ok (.ret (.bool (D.dB ds es)))) s):=
 .of_wp λprog w A R s h=>by
  obtain⟨hp,g,d,tk,os⟩:=s;obtain⟨hl,hb,KO,h⟩:=h;have f2:=AutoSeq1.sub_tuple_tuple
  wp_walk using wpAny_loadPart' hl,wpAny_loadPart' hb,wpAny_forIn_list _ (λrest b s'=>b.1=none/\s'=⟨hp,g,d,tk,os⟩/\∃(vs ws:List Value)(la de:List D),rest=vs.zip ws/\
   Zp A.in1 ⟨hp,g,d,tk,os⟩ vs ws la de/\la.length+cv.size=de.length+items.size/\R (.ok (.ret (.bool (D.dB la de)))) ⟨hp,g,d,tk,os⟩) _
  case turn=>
   rintro⟨y,x⟩ rest b s' ⟨sG,rfl,vs,ws,la,de,hz,Dc,hlen,hR⟩;cases Dc with
   |nil _=>rw[Sb]at hz;cases hz
   |o9 _=>rw[Sd]at hz;cases hz
   |cons he hl wY=>
    rename_i v wv d0 e0 u6 ws' ds'' es'';rw[Sa]at hz;injection hz with hyx wR;injection hyx with hy hx;subst hy hx;rw[D.dC]at hR;simp only[QG]at hlen;refine Ql (he prog w _ _ ?_);by_cases hde:d0=e0
    ·rw[SH hde]at hR;rw[(D.cJ d0 e0).mpr hde]
     wp_walk
     exact⟨rfl,rfl,_,_,_,_,wR,wY,by lia,hR⟩
    ·rw[SF hde]at hR;have JX:D.fT d0 e0=false:=by rw[D.gT];exact QN hde
     rw[JX];have KD:=hl hde prog w
     wp_walk using KD
     exact⟨_,rfl,by simpa using hR⟩
  case fin=>
   rintro⟨b1,b2⟩ s' ⟨sG,rfl,vs,ws,la,de,hz,Dc,hlen,hR⟩;simp only at sG;subst sG;have hv:D.dB la de=decide (items.size<cv.size):=by
    cases Dc with
    |nil _=>
     cases de with
     |nil=>simp only[RL]at hlen;rw[D.dB];exact(QN ⋯).symm
     |cons c u=>simp only[RL,QG]at hlen;rw[D.dB];exact(QR ⋯).symm
    |o9 _=>
     cases la with
     |nil=>simp only[RL]at hlen;rw[D.dB];exact(QN ⋯).symm
     |cons c u=>simp only[RL,QG]at hlen;rw[D.dB];exact(QN ⋯).symm
    |cons he hl wY=>rw[Sa]at hz;cases hz
   rw[hv]at hR
   wp_walk
   exact⟨_,rfl,by simpa [Builtin.Tuple.tupleCompareSizes]using hR⟩
  case h=>exact⟨rfl,rfl,items.toList,cv.toList,ds,es,rfl,KO,by lia,h⟩
end
section
variable{P:Program}{w:World}{H:Hp}{s:Shared}
theorem yU(hok:dX P w H s.heap){A:Around}{n:Nat}(hu:A.units+n<cLine)(ih:∀(d e:D)(x y:V)(u v:Value),D.dep d<=n->D.cL d e->DV H x d->DV H y e->RelV x u->RelV y v->B6 A s u v (D.lt d e)):
  ∀{xs ys:List V}{us vs:List Value}{ds es:List D},D.bK ds<=n->D.d9 ds es->aR H xs ds->aR H ys es->aq xs us->aq ys vs->Zp A s us vs ds es
 |[],ys,us,vs,[],es,_,_,_,h2,r1,r2=>by cases r1;exact .nil (by rw[<-r2.length,h2.length])
 |x::xs,[],us,vs,ds,[],_,_,h1,_,r1,r2=>by cases r2;exact .o9 (by rw[<-r1.length,h1.length])
 |[],_,_,_,_::_,_,_,_,h,_,_,_=>by unfold aR at h;exact h.elim
 |_::_,_,_,_,[],_,_,_,h,_,_,_=>by unfold aR at h;exact h.elim
 |_::_,[],_,_,_::_,_::_,_,_,_,h,_,_=>by unfold aR at h;exact h.elim
 |_::_,_::_,_,_,_::_,[],_,_,_,h,_,_=>by unfold aR at h;exact h.elim
 |x::xs,y::ys,us,vs,d::ds,e::es,hd,hl,h1,h2,r1,r2=>by
  unfold aR at h1 h2;unfold D.d9 at hl;unfold D.bK at hd;cases r1 with
  |cons r1 t1=>
   cases r2 with
   |cons r2 t2=>exact .cons (eq_data hok n d e x y _ _ A ⋯ hu h1.1 h2.1 r1 r2) (λ_=>ih d e x y _ _ ⋯ hl.1 h1.1 h2.1 r1 r2) (yU hok hu ih ⋯ hl.2 h1.2 h2.2 t1 t2)
theorem Ai(hok:dX P w H s.heap):∀(n:Nat)(d e:D)(x y:V)(u v:Value)(A:Around),D.dep d<=n->A.units+n<cLine->D.cL d e->DV H x d->DV H y e->RelV x u->RelV y v->B6 A s u v (D.lt d e):=by
 intro n
 induction n with
 |zero=>
  intro d e x y u v A hd hu hl hx hy rx ry;cases d with
  |int i=>
   have:=hx.int_inv;subst this;obtain⟨t,rfl⟩:=rx;cases e with
   |int j=>have:=hy.int_inv;subst this;obtain⟨t',rfl⟩:=ry;intro prog wd E Q q;exact(PyProof.Rows.lt_int q:wpAny (model prog wd) A (compareOp .Lt (.int i t) (.int j t')) Q E s)
   |str j=>unfold D.cL at hl;exact hl.elim
   |tup j=>unfold D.cL at hl;exact hl.elim
  |str i=>
   have:=hx.str_inv;subst this;obtain⟨t,rfl⟩:=rx;cases e with
   |int j=>unfold D.cL at hl;exact hl.elim
   |str j=>have:=hy.str_inv;subst this;obtain⟨t',rfl⟩:=ry;intro prog wd E Q q;exact(PySem.P.lt_str q:wpAny (model prog wd) A (compareOp .Lt (.str i t) (.str j t')) Q E s)
   |tup j=>unfold D.cL at hl;exact hl.elim
  |tup ds=>unfold D.dep at hd;lia
 |succ n ih=>
  intro d e x y u v A hd hu hl hx hy rx ry;cases d with
  |int i=>exact ih (.int i) e x y u v A (by unfold D.dep;lia) ⋯ hl hx hy rx ry
  |str i=>exact ih (.str i) e x y u v A (by unfold D.dep;lia) ⋯ hl hx hy rx ry
  |tup ds=>
   obtain⟨a,xs,q,e1,e2⟩:=hx.ag;subst q;cases rx;cases e with
   |int j=>unfold D.cL at hl;exact hl.elim
   |str j=>unfold D.cL at hl;exact hl.elim
   |tup es=>
    obtain⟨b,ys,q,f1,f2⟩:=hy.ag;subst q;cases ry;obtain⟨its,r1,ht⟩:=ar hok e1;obtain⟨aG,r2,cq⟩:=ar hok f1;have l1:its.toArray.size=ds.length:=by rw[Qq,<-r1.length,e2.length]
    have l2:aG.toArray.size=es.length:=by rw[Qq,<-r2.length,f2.length]
    have kX:D.bK ds<=n:=by unfold D.dep at hd;lia
    have uE:D.d9 ds es:=by unfold D.cL at hl;exact hl
    have zz:Zp A.in1 s its aG ds es:=yU hok (n:=n) (by show A.units+1+n<cLine;lia) (λd e x y u v hd2 iM C9 Da rx2 ry2=>ih d e x y u v A.in1 hd2 (by show A.units+1+n<cLine;lia) iM C9 Da rx2 ry2) kX uE e2 f2 r1 r2;intro prog wd E Q q;obtain⟨⟨cls,dd,data,sl⟩,ho,hc,k,vj⟩:=id ht;obtain⟨⟨Cv,rY,data2,p7⟩,oS,kW,k2,lj⟩:=id cq;simp only at hc vj kW lj;subst hc vj kW lj;have q':Q (.bool (D.dB ds es)) s:=by have z:=q;unfold D.lt at z;exact z
    exact richCompare_meets_room (op:=.Lt) ⟨_,ho,rfl⟩ ⟨_,oS,rfl⟩ PySem.F.slot_tuple_lt PySem.F.entry_tuple_lt (PySem.F.args_tuple_lt_2 _ _) (lB a b its.toArray aG.toArray k k2 dd rY sl p7 ds es l1 l2)
     ⟨ho,oS,zz,show Value.bool (D.dB ds es)≠Value.notImplemented/\Q (.bool (D.dB ds es)) s from⟨(λx=>nomatch x),q'⟩⟩ ⋯
end
end Mx
end
section
namespace Mx
open PySem PySem.W PySem.Spec PyProof.Rows L2 PySem.SeqAt MxSort
section
variable{prog:Program}{w:World}{A:Around}{E:Value->Shared->Prop}{s:Shared}
theorem AU{a:Addr}{vs:List Value}{n:Nat}{P:PySem.Fin->Shared->Prop}(ho:s.heap.get? a=some (seqObj "list" vs.toArray n))(NQ:vs.length<64){O:KeyOrd}{key:Nat->O.α}
  (hk:2<=vs.length->∀h',(∀b o,b≠a->s.heap.get? b=some o->h'.get? b=some o)->∃κ:SortKind,(∀(Q:SortKind->Shared->Prop)(E:Value->Shared->Prop),Q κ {s with heap:=h'}->wpAny (model prog w) A (keyKind' vs.toArray) Q E {s with heap:=h'})/\
   Tells O key (kas_ask prog w A κ vs) vs.length {s with heap:=h'})
  (h:∀(p:Array Nat)(h':Heap)(e:Nat),Ord vs.length p->Up key p vs.length->(∀b o,b≠a->s.heap.get? b=some o->h'.get? b=some o)->h'.get? a=some (seqObj "list" (p.toList.map λi=>vs.getD i Value.none).toArray e)->
   P (.done (.ret .none)) {s with heap:=h'}):wpAny (model prog w) A (Builtin.«list.sort» ⟨[.ref a],[]⟩) P E s:=by
 have ha:a<s.heap.objs.size:=Qy ho;have wV:vs.length<=sizeLine:=by rw[SQ];lia
 rw[list_sort_plain];refine Ql (listItems_at ho rfl (Ql (listUpdate_at ho rfl ?_ (by rw[Qq];exact wV) (Sm _))));obtain⟨e1,EZ⟩:∃e1,(s.heap.update a (Obj.mapSeq λ_=>(#[]:Array Value))).get? a=some (seqObj "list" #[] e1):=⟨_,get?_update_seq ho λ_=>#[]⟩;refine Ql (seqEpoch_at EZ rfl (Ql (wpAny_newTuple ?_ wV)));refine Ql (wpAny_newList (SX ?_) (Sm _));show wpAny (model prog w) A _ P E {s with heap:=((s.heap.update a (Obj.mapSeq λ_=>(#[]:Array Value))).push (seqObj "tuple" vs.toArray 0)).push (seqObj "list" #[] 0)};generalize hh:((s.heap.update a (Obj.mapSeq λ_=>(#[]:Array Value))).push (seqObj "tuple" vs.toArray 0)).push (seqObj "list" #[] 0)=h1;have k1:∀b o,b≠a->s.heap.get? b=some o->h1.get? b=some o:=λb o hb e=>by rw[<-hh];exact Qn _ (Qn _ ((QQ s.heap _ (Sn hb)).trans e))
 have EW:h1.get? a=some (seqObj "list" #[] e1):=by rw[<-hh];exact Qn _ (Qn _ EZ)
 dsimp only;have fin:∀(k6:SortSt)(p:Array Nat),Ord vs.length p->Up key p vs.length->(arrOf k6).map (·.2)=(p.toList.map λi=>vs.getD i Value.none).toArray->failedOf k6=none->
   wpAny (model prog w) A (do
    let touched:=(<-seqEpoch a) != e1
    Builtin.List.listUpdate (.ref a) λ_=>(arrOf k6).map (·.2)
    if let some e:=failedOf k6 then rule "list.sort.comparison-raised";throw e
    if touched then rule "list.sort.modified";raiseError "ValueError" "list modified during sort"
    ret .none) P E {s with heap:=h1}:=λk6 p hp hu C5 hf=>by
  refine Ql (seqEpoch_at (s:={s with heap:=h1}) EW rfl ?_);have kY:(p.toList.map λi=>vs.getD i Value.none).toArray.size=vs.length:=by rw[Qq,Qx,QI,hp.size]
  rw[C5];refine Ql (listUpdate_at (s:={s with heap:=h1}) EW rfl ?_ (Sm _) (by rw[kY];lia));rw[hf];simp only[bne_self_eq_false,Re,SE];obtain⟨c2,kW⟩:∃c2,(h1.update a (Obj.mapSeq λ_=>(p.toList.map λi=>vs.getD i Value.none).toArray)).get? a=some (seqObj "list" (p.toList.map λi=>vs.getD i Value.none).toArray c2):=⟨_,get?_update_seq EW λ_=>_⟩;exact Qo (h p _ c2 hp hu (λb o hb e=>(QQ h1 _ (Sn hb)).trans (k1 b o hb e)) kW)
 by_cases h2:2<=vs.length
 ·have CZ:¬vs.toArray.size<2:=by rw[Qq];lia
  rw[SF CZ,SF CZ];obtain⟨κ,Ov,T⟩:=hk h2 h1 k1;refine Ql (Ov _ _ ?_);refine Ql (SY (kat_run (s:={s with heap:=h1}) (G:=λp s'=>s'={s with heap:=h1}/\Ord vs.length p/\Up key p vs.length)
   (Q:=λk6 s'=>s'={s with heap:=h1}/\∃p:Array Nat,Ord vs.length p/\Up key p vs.length/\(arrOf k6).map (·.2)=(p.toList.map λi=>vs.getD i Value.none).toArray/\failedOf k6=none) rfl h2 NQ
   (λp k6 s' z1 z2 z3 z4=>⟨z4.1,p,z4.2.1,z4.2.2,kat_snds rfl z2,z3⟩) (AV T ⋯ λp' hp hu=>⟨rfl,hp,hu⟩)) ?_ λ_ _ e=>e)
  rintro⟨⟨⟩,k6⟩ s' ⟨rfl,p,hp,hu,C5,hf⟩;exact fin k6 p hp hu C5 hf
 ·have CZ:vs.toArray.size<2:=by rw[Qq];lia
  rw[SH CZ,SH CZ];refine Ql (Qo ?_);rw[StateT.run_pure];refine Ql (Qo ?_);refine fin (SortSt.mk' general' (vs.toArray.zip vs.toArray) #[] 7 none) (List.range vs.length).toArray (by unfold MxSort.Ord;simp) (λi j hij hj=>?_) ?_ rfl
  ·rw[show i=j by lia];exact Rw _
  ·apply Array.toList_inj.mp;show (((vs.toArray.zip vs.toArray)).map (·.2)).toList=_
   match vs,h2 with
   |[],_=>simp
   |[v],_=>simp
   |_::_::_,h2=>exact absurd (by simp) h2
end
section
variable{P:Program}{w:World}{H:Hp}{prog:Program}{s:Shared}{A:Around}
theorem Ad{b:Bool}{n m:Nat}{Q:Bool->Shared->Prop}{us vs:List Value}{ds es:List D}(z:Zp A s us vs ds es):∀(i:Nat),1<=i->ds.length+m=es.length+n->Q (D.dB ds es) s->KatLex prog w A b (decide (n<m)) Q (us.zip vs) i s:=by
 induction z with
 |nil hl=>
  intro i hi hlen q;rw[Sb];refine kat_nil ?_;rename_i ws es;cases es with
  |nil=>simp only[RL]at hlen;rw[D.dB]at q;rw[QN ⋯];exact q
  |cons c u=>simp only[RL,QG]at hlen;rw[D.dB]at q;rw[QR ⋯];exact q
 |o9 hl=>
  intro i hi hlen q;rw[Sd];refine kat_nil ?_;rename_i vs ds;cases ds with
  |nil=>simp only[RL]at hlen;rw[D.dB]at q;rw[QN ⋯];exact q
  |cons c u=>simp only[RL,QG]at hlen;rw[D.dB]at q;rw[QN ⋯];exact q
 |cons he hl z' ih=>
  intro i hi hlen q;rename_i v wv d e u6 ws' la de;rw[Sa];simp only[QG]at hlen;rw[D.dC]at q;refine kat_cons (he prog w _ _ ?_);by_cases hde:d=e
  ·rw[(D.cJ d e).mpr hde];rw[SH hde]at q;exact kat_yes (ih (i+1) ⋯ ⋯ q)
  ·rw[show D.fT d e=false by rw[D.gT];exact QN hde];rw[SF hde]at q;refine kat_no ?_;rw[show (b&&i==0)=false by rw[show (i==0)=false by simp;lia];simp];exact kat_one v wv (hl hde prog w _ _ q)
end
noncomputable def gL(ds es:List D):Prop:=es.Perm ds/\es.Pairwise λa b=>D.lt b a=false
theorem aR.map{H:Hp}{xs:List V}{ds:List D}(h:aR H xs ds):∀{p:List Nat},(∀i∈p,i<xs.length)->aR H (p.map λi=>xs.getD i .bz) (p.map λi=>ds.getD i (.int 0))
 |[],_=>aR.nil
 |i::p,hp=>by have hi:=hp i Qv;obtain⟨d,e1,e2⟩:=h.get (i:=i) (x:=xs[i]) (by simp[hi]);refine aR.cons ?_ (aR.map h λj hj=>hp j (Qt _ hj));dsimp only;rw[show xs.getD i .bz=xs[i] by simp[hi],show ds.getD i (.int 0)=d by simp[e1]];exact e2
theorem pN{xs:List V}{us:List Value}(h:aq xs us):∀{p:List Nat},(∀i∈p,i<xs.length)->aq (p.map λi=>xs.getD i .bz) (p.map λi=>us.getD i .none)
 |[],_=>.nil
 |i::p,hp=>by have hi:=hp i Qv;obtain⟨u,e1,e2⟩:=h.get (i:=i) (x:=xs[i]) (by simp[hi]);refine .cons ?_ (pN h λj hj=>hp j (Qt _ hj));dsimp only;rw[show xs.getD i .bz=xs[i] by simp[hi],show us.getD i .none=u by simp[e1]];exact e2
theorem fE{α:Type}(l:List α)(d:α):(List.range l.length).map (λi=>l.getD i d)=l:=by
 refine List.ext_getElem (by simp) λi h1 h2=>?_
 simp at h1;simp[h1]
end Mx
end
section
namespace L2
open PySem PySem.Spec PyProof.Rows
noncomputable def mK(env:Env):List (Str×NameKind)->List (Str×Addr)->List (Str×Addr)
 |[],cs=>cs
 |(n,k)::r,cs=>mK env r (if k== .free then(n,(env.cells.lookup n).getD 0)::cs else cs)
noncomputable def fm(scope:Scope)(env:Env):List (Str×Addr):=mK env scope.names []
theorem j6{env:Env}:∀(l:List (Str×NameKind))(cs:List (Str×Addr)),(∀y∈l,y.2= .free->∃c,env.cells.lookup y.1=some c)->
  (forIn l cs (λx r=>do
   if x.2==NameKind.free then do let a<-cellOf env x.1;pure (ForInStep.yield ((x.1,a)::r)) else pure (ForInStep.yield r)):Sem (List (Str×Addr)))=pure (mK env l cs)
 |[],cs,_=>rfl
 |(n,k)::r,cs,h=>by
  rw[RD];have ih:=λcs=>j6 r cs λy hy=>h y (Qt _ hy)
  cases hk:(k==NameKind.free) with
  |false=>simp only[hk,Re,SE,mK,pure_bind];exact ih cs
  |true=>
   obtain⟨c,hc⟩:=h (n,k) Qv (by simpa using hk);have lh:env.cells.lookup n=some c:=hc;have e:cellOf env n=pure c:=by unfold cellOf;rw[lh]
   simp only[hk,SI,mK,e,pure_bind,lh,Option.getD_some];exact ih _
theorem gf{scope:Scope}{env:Env}(h:∀y∈scope.names,y.2= .free->∃c,env.cells.lookup y.1=some c):closureFor scope env=pure (fm scope env):=by have q:=j6 (env:=env) scope.names [] h;unfold closureFor fm;rw[<-q];simp only[bind_pure]
theorem ja{env:Env}{x:Str}{c:Addr}:∀(l:List (Str×NameKind))(cs:List (Str×Addr)),(∀y∈l,y.2= .free->∃c,env.cells.lookup y.1=some c)->
  (∀c,cs.lookup x=some c->env.cells.lookup x=some c)->(mK env l cs).lookup x=some c->env.cells.lookup x=some c
 |[],cs,_,h2,h=>h2 c h
 |(n,k)::r,cs,h1,h2,h=>by
  refine ja r _ (λy hy=>h1 y (Qt _ hy)) (λc' lh=>?_) h;by_cases hk:(k==NameKind.free)=true
  ·rw[SH hk]at lh;rw[QO]at lh;by_cases hx:(x==n)=true
   ·rw[hx]at lh;have n9:x=n:=by simpa using hx
    subst n9;obtain⟨c₁,e⟩:=h1 (x,k) Qv (by simpa using hk);have e':env.cells.lookup x=some c₁:=e;rw[e']at lh ⊢;simpa using lh
   ·rw[Bool.not_eq_true]at hx;rw[hx]at lh;exact h2 c' lh
  ·rw[SF hk]at lh;exact h2 c' lh
theorem jW{env:Env}{x:Str}:∀(l:List (Str×NameKind))(cs:List (Str×Addr)),(((x,NameKind.free)∈l)\/∃c,cs.lookup x=some c)->∃c,(mK env l cs).lookup x=some c
 |[],cs,h=>by
  rcases h with h|h
  ·cases h
  ·exact h
 |(n,k)::r,cs,h=>by
  refine jW r _ ?_;by_cases hk:(k==NameKind.free)=true
  ·rw[SH hk];by_cases hx:(x==n)=true
   ·exact .inr ⟨_,by rw[QO,hx]⟩
   ·rw[Bool.not_eq_true]at hx;rcases h with h|h
    ·rcases QA.mp h with e|h
     ·injection e with e1 e2;subst e1;simp at hx
     ·exact .inl h
    ·exact .inr (by obtain⟨c,e⟩:=h;exact⟨c,by rw[QO,hx];exact e⟩)
  ·rw[SF hk];rcases h with h|h
   ·rcases QA.mp h with e|h
    ·injection e with e1 e2;subst e2;exact absurd rfl hk
    ·exact .inl h
   ·exact .inr h
theorem aT{env:Env}{x:Str}:∀{names:List (Str×NameKind)}{k:NameKind},names.lookup x=some k->
  (names.map λ(n,k)=>if (k==NameKind.free&&env.scope.kind== .function&&env.kindOf n==some .cell) then(n,NameKind.cell) else(n,k)).lookup x=
   some (if (k==NameKind.free&&env.scope.kind== .function&&env.kindOf x==some .cell) then NameKind.cell else k)
 |[],_,h=>by simp at h
 |(n,k')::r,k,h=>by
  have ih:=@aT env x r k;show List.lookup x ((if (k'==NameKind.free&&env.scope.kind== .function&&env.kindOf n==some .cell)=true then(n,NameKind.cell) else(n,k'))::_)=_;cases hx:x==n with
  |true=>
   have n9:x=n:=by simpa using hx
   subst n9;simp only[QO,hx]at h;cases h;by_cases hc:(k'==NameKind.free&&env.scope.kind== .function&&env.kindOf x==some .cell)=true
   ·simp only[hc,SI,QO,hx]
   ·rw[SF hc,SF hc];simp only[QO,hx]
  |false=>
   simp only[QO,hx]at h;by_cases hc:(k'==NameKind.free&&env.scope.kind== .function&&env.kindOf n==some .cell)=true
   ·rw[SH hc];simp only[QO,hx];exact ih h
   ·rw[SF hc];simp only[QO,hx];exact ih h
theorem bX{env:Env}{x:Str}:∀{names:List (Str×NameKind)},names.lookup x=none->
  (names.map λ(n,k)=>if (k==NameKind.free&&env.scope.kind== .function&&env.kindOf n==some .cell) then(n,NameKind.cell) else(n,k)).lookup x=none
 |[],h=>rfl
 |(n,k')::r,h=>by
  show List.lookup x ((if (k'==NameKind.free&&env.scope.kind== .function&&env.kindOf n==some .cell)=true then(n,NameKind.cell) else(n,k'))::_)=_;cases hx:x==n with
  |true=>simp only[QO,hx]at h;cases h
  |false=>
   simp only[QO,hx]at h;by_cases hc:(k'==NameKind.free&&env.scope.kind== .function&&env.kindOf n==some .cell)=true
   ·rw[SH hc];simp only[QO,hx];exact bX h
   ·rw[SF hc];simp only[QO,hx];exact bX h
noncomputable def c6(cap:List (Option Nat))(σ:St):St:=cap.map λo=>o.bind λi=>(σ[i]?).join
noncomputable def Ca(X:Cx)(ifs:List Expr)(t:TT):Prop:=
 ∀(pins:List (Addr×Obj))(s:Shared)(σ:St)(H:Hp)(Q:Bool->Hp->Prop),Inv X pins σ H s->t σ H Q->
  wpAny (model X.prog X.w) X.A (forIn ifs true λc r=>if r=true then do let ok<-isTrue c X.env (eval c X.env);pure (ForInStep.yield ok) else pure (ForInStep.yield r)) (TP X pins σ Q) X.xe s
noncomputable def L7:TT:=λ_ H Q=>Q true H
theorem AH{X:Cx}:Ca X [] L7:=λ_ _ _ H _ I h=>wpAny_tests_nil ⟨H,I,h⟩
theorem AI{X:Cx}{c:Expr}{t:TT}(h:PT X c t):Ca X [c] t:=λpins s σ H Q I hw=>wpAny_tests_one (h pins s σ H Q I hw)
noncomputable def Fb(J:It)(g:TG)(tt:TT)(te:TE)(σ0:St)(D:Addr)(F:Hp->Prop)(H1:Hp):Prop:=
 ∃W:Nat->Nat->List V->Hp->Prop,(∃m,W 0 m [] (upd H1 D (.lst [])))/\∀i m acc H,W i m acc H->
  (J.stop i H/\F H)\/(J.go i H/\∀x H',J.yld i H x H'->g x σ0 H' λσ2 H2=>tt σ2 H2 λb H3=>if b=true then te σ2 H3 λv H4=>∃dM,H4 D=some (.lst dM)/\dM.length<sizeLine/\
   ∃m',m'<m/\W (i+1) m' (dM++[v]) (upd H4 D (.lst (dM++[v]))) else∃m',m'<m/\W (i+1) m' acc H3)
end L2
end
section
namespace Mx
open PySem PySem.W PySem.Spec PyProof.Rows L2 PySem.SeqAt
section
variable{X:Cx}
noncomputable def Lx:V->Option Int->Option Int->Hp->VK->Prop:=λx lo hi H Q=>∃z,x= .str z/\z.length<=sizeLine/\Q (.str (PySem.Txt.slice z lo hi)) H
theorem Ed:EJ X Lx:=by
 intro pins s σ H x v vl vu lo hi sl Q I rx hs pl pu h;obtain⟨z,rfl,hz,q⟩:=h;obtain⟨t,rfl⟩:=rx;refine⟨"str",_,PySem.F.slot_str_getitem.lookup,typeIs_str _ _ _,?_⟩;have fin:∀(t':Tok)(k:Nat),EP X pins σ Q (.str (PySem.Txt.slice z lo hi) t') {s with toks:=k}:=λt' k=>⟨.str _,H,I.tok k,⟨t',rfl⟩,q⟩
 have hlen:=Qz (PySem.Txt.slice_le z lo hi) hz;obtain⟨o,ho,hc,hd⟩:=hs;cases pl with
 |none=>
  cases pu with
  |none=>exact wpAny_getItem_str_slice (l:=none) (u:=none) (st:=none) ⟨o,ho,hc,hd⟩ rfl (post_val_or_str ⟨hlen,fin⟩)
  |int j tj=>exact wpAny_getItem_str_slice (l:=none) (u:=some (j,tj)) (st:=none) ⟨o,ho,hc,hd⟩ rfl (post_val_or_str ⟨hlen,fin⟩)
 |int i ti=>
  cases pu with
  |none=>exact wpAny_getItem_str_slice (l:=some (i,ti)) (u:=none) (st:=none) ⟨o,ho,hc,hd⟩ rfl (post_val_or_str ⟨hlen,fin⟩)
  |int j tj=>exact wpAny_getItem_str_slice (l:=some (i,ti)) (u:=some (j,tj)) (st:=none) ⟨o,ho,hc,hd⟩ rfl (post_val_or_str ⟨hlen,fin⟩)
noncomputable def Lp(K:PySem.W.Frag):List V->Hp->VK->Prop:=λxs H Q=>∃x T t b,xs=[x,.ty T]/\gM K H x t/\PySem.W.kitOne K t (.type T)=some b/\Q (.bl b) H
theorem vO:dw X (.builtin "isinstance") (Lp X.K):=by intro pins s σ H xs us Q I r h;obtain⟨x,T,t,b,rfl,ty,hk,q⟩:=h;obtain⟨u,v,rfl,r1,r2⟩:=r.two;cases r2;exact uH I r1 ty hk λtk=>⟨.bl b,H,I.tok tk,rfl,q⟩
end
end Mx
end
section
namespace Mx
open PySem PySem.Spec PySem.W PyProof.Rows L2 PySem.SeqAt
section
variable{X:Cx}{pos:Pos}
noncomputable def sD(K:PySem.W.Frag)(n:Nat)(t:t7):TG:=λv σ H Q=>∃a xs,v= .ref a/\(dY K H a xs\/dy K H a xs)/\xs.length=n/\t xs σ H Q
theorem Aw{es:List Expr}{k:Nat}{t:t7}{n:Nat}(hc:X.calm=true)(h:EI X es t)(hn:(assignEach es X.env).length=n)(lU:(assignEach es X.env).findIdx? (·.1)=none):PG X (.Tuple es k pos) (sD X.K n t):=by
 intro pins s σ H v u Q I r hw;obtain⟨a,xs,rfl,hq|hq,hl,hw⟩:=hw
 ·exact xP hc h hn lU pins s σ H _ u Q I r ⟨a,xs,rfl,hq,hl,hw⟩
 cases r;obtain⟨its,rv,pl,_⟩:=I.list hq;have e:(assignEach es X.env).length=its.toArray.size:=by rw[hn,<-hl,rv.length,Qq]
 rw[arm_assign_Tuple];refine Ql (Ta ?_);unfold unpack;rw[lU,e];refine Ql (SX (PySem.W.kun_itemsOf (I.ok.hd hc) pl.isList λh' hx=>?_));exact h pins _ σ H xs _ Q (I.kept (t':=s.toks) λb o z=>hx b o (QT (Qy z)) z) rv hw
end
end Mx
end
section
namespace Mx
open PySem PySem.W PySem.Spec PyProof.Rows L2
structure vw(z TI TO i1 i2:Addr):Prop where
 TIz:TI≠z
 TOz:TO≠z
 i1z:i1≠z
 i2z:i2≠z
 TITO:TI≠TO
 TIi1:TI≠i1
 TIi2:TI≠i2
 TOi1:TO≠i1
 TOi2:TO≠i2
 i12:i1≠i2
theorem bE{H:Hp}{p:Addr}(h:H p=none)(o:HO):bu H (upd H p o):=λb u q=>by rw[az (aY q h)];exact q
theorem mh{H H':Hp}(h:bu H H'):zk H H':=λa xs q=>h a _ q
theorem yj{H1 H:Hp}{D:Addr}{o:HO}(h:bu H1 H)(hD:H1 D=none):bu H1 (upd H D o):=λb u q=>by rw[az (aY q hD)];exact h b u q
theorem kP{H:Hp}{D:Addr}{xs ys:List V}(hD:H D=some (.lst xs)):zk H (upd H D (.lst ys)):=λb zs q=>by
 by_cases e:b=D
 ·subst e;rw[hD]at q;cases q
 ·rw[az e];exact q
section
variable{K:PySem.W.Frag}{g:TG}{tt:TT}{te:TE}{σ0:L2.St}{D:Addr}{F:Hp->Prop}{H1:Hp}
theorem oA{J:It}{n:Nat}(hD:H1 D=none)(E:Nat->List Mx.D)(hE:E 0=[])(hn:n<sizeLine)(go:∀i H,i<n->bu H1 H->J.go i H)(stop:∀H,bu H1 H->J.stop n H)
  (hs:∀i x H H',i<n->bu H1 H->J.yld i H x H'->bu H H'/\∀(N:V->Hp->Prop)(M:Hp->Prop),(∀v H4 e,bu H' H4->DV H4 v e->E (i+1)=E i++[e]->N v H4)->(∀H3,bu H' H3->E (i+1)=E i->M H3)->
   g x σ0 H' λσ2 H2=>tt σ2 H2 λb H3=>if b=true then te σ2 H3 N else M H3)
  (hd:∀H acc,bu H1 H->H D=some (.lst acc)->aR H acc (E n)->F H):Fb J g tt te σ0 D F H1:=by
 refine⟨λi m acc H=>m=n-i/\i<=n/\bu H1 H/\H D=some (.lst acc)/\aR H acc (E i)/\acc.length<=i,⟨n,by simp,Sm _,bE hD _,ax,by rw[hE];exact aR.nil,Qu _⟩,?_⟩;rintro i m acc H ⟨rfl,hi,hS,Kg,pY,Oz⟩;by_cases cU:i<n
 ·refine .inr ⟨go i H cU hS,λx H' y=>?_⟩;obtain⟨s1,st⟩:=hs i x H H' cU hS y;refine st _ _ (λv H4 e s4 he e4=>?_) (λH3 s3 e3=>?_)
  ·have LF:=s1.trans s4;have FP:=LF _ _ Kg;refine⟨acc,FP,by lia,n-(i+1),by lia,rfl,cU,yj (hS.trans LF) hD,ax,?_,by simp;lia⟩;rw[e4];exact(aR.append (pY.mono (mh LF)) (aR.cons he aR.nil)).mono (kP FP)
  ·have LD:=s1.trans s3;exact⟨n-(i+1),by lia,rfl,cU,hS.trans LD,LD _ _ Kg,by rw[e3];exact pY.mono (mh LD),by lia⟩
 ·have e:i=n:=⋯
  subst e;exact .inl ⟨stop H hS,hd H acc hS Kg pY⟩
end
noncomputable def bU:Bool->Heap->Addr->Addr->Nat->Prop
 |false,h,i,l,k=>h.IsListIter i l k
 |true,h,i,l,k=>h.IsTupleIter i l k
noncomputable def eG:Bool->Heap->Addr->Array Value->Prop
 |false,h,l,xs=>h.IsList l xs
 |true,h,l,xs=>h.IsTuple l xs
theorem bU.at:∀{b:Bool}{h h':Heap}{i l:Addr}{k:Nat},bU b h i l k->(∀o,h.get? i=some o->h'.get? i=some o)->bU b h' i l k
 |false,_,_,_,_,_,x,e=>Heap.IsListIter.at x e
 |true,_,_,_,_,_,x,e=>Heap.IsTupleIter.at x e
theorem eG.at:∀{b:Bool}{h h':Heap}{l:Addr}{xs:Array Value},eG b h l xs->(∀o,h.get? l=some o->h'.get? l=some o)->eG b h' l xs
 |false,_,_,_,_,x,e=>let ⟨o,ho,r⟩:=x;⟨o,e o ho,r⟩
 |true,_,_,_,_,x,e=>let ⟨o,ho,r⟩:=x;⟨o,e o ho,r⟩
theorem bU.obj:∀{b:Bool}{h:Heap}{i l:Addr}{k:Nat},bU b h i l k->∃o,h.get? i=some o/\∀v,o.data≠ .cell v
 |false,_,_,_,_,x=>by obtain⟨o,e,c,d⟩:=x;exact⟨o,e,λv q=>by rw[d]at q;cases q⟩
 |true,_,_,_,_,x=>by obtain⟨o,e,c,d⟩:=x;exact⟨o,e,λv q=>by rw[d]at q;cases q⟩
section
variable{prog:Program}{w:World}{A:Around}{E:Value->Shared->Prop}{s:Shared}
theorem rk{it t:Addr}{i:Nat}{items:Array Value}{x:Value}{Q:Value->Shared->Prop}(hit:s.heap.IsTupleIter it t i)(ht:s.heap.IsTuple t items)(hx:items[i]?=some x)
  (hQ:∀h',h'.IsTupleIter it t (i+1)->Heap.SameBut it s.heap h'->Q x {s with heap:=h'}):wpAny (model prog w) A (Builtin.SmallTypes.nextOf (.ref it)) Q E s:=by
 obtain⟨o,ho,hc,hd⟩:=id hit;obtain⟨ol,C2,_,nl,vi⟩:=ht;unfold Builtin.SmallTypes.nextOf;refine Ql (SU (name:=Str.ofString "__next__") hit.typeIs Rn (SV Rn hit.typeIs Rm (show wpAny _ _ (field (.ref it) 0 >>=_) _ _ s from Ql (SW ho hd (x:=.ref t) rfl ?_)) (Rk _)));show wpAny _ _ (if (Value.ref t==Value.none)=true then _ else _) _ _ s;rw[SF (show¬((Value.ref t==Value.none)=true) from Rf)];refine(show wpAny _ _ (field (.ref it) 1 >>=_) _ _ s from Ql (SW ho hd (x:=.int i 0) rfl (show wpAny _ _ (seqItems? (.ref t) >>=_) _ _ s from Ql (S9 C2 vi ?_))));simp only[Ru,hx];refine Ql (wpAny_setField ho hd (by simp) (Qo ⟨x,rfl,Qo (hQ _ ⟨_,Heap.get?_update_self _ ho (Obj.isFreed_of_fields (Obj.data_mapFields hd _)),(Obj.cls_mapFields ..).trans hc,?_⟩ (Heap.SameBut.update ..))⟩));rw[Obj.data_mapFields hd];simp[rawInt]
theorem uY{it t:Addr}{i:Nat}{items:Array Value}{Q:Value->Shared->Prop}(hh:A.handled=none)(hit:s.heap.IsTupleIter it t i)(ht:s.heap.IsTuple t items)(hx:items[i]?=none)
  (hE:∀h' e,Heap.ExtBut it s.heap h'->(∃o,h'.get? e=some o/\o.cls= .type "StopIteration")->E (.ref e) {s with heap:=h'}):wpAny (model prog w) A (Builtin.SmallTypes.nextOf (.ref it)) Q E s:=by
 obtain⟨o,ho,hc,hd⟩:=id hit;obtain⟨ol,C2,_,nl,vi⟩:=ht;unfold Builtin.SmallTypes.nextOf;refine Ql (SU (name:=Str.ofString "__next__") hit.typeIs Rn (SV Rn hit.typeIs Rm (show wpAny _ _ (field (.ref it) 0 >>=_) _ _ s from Ql (SW ho hd (x:=.ref t) rfl ?_)) (Rk _)));show wpAny _ _ (if (Value.ref t==Value.none)=true then _ else _) _ _ s;rw[SF (show¬((Value.ref t==Value.none)=true) from Rf)];refine(show wpAny _ _ (field (.ref it) 1 >>=_) _ _ s from Ql (SW ho hd (x:=.int i 0) rfl (show wpAny _ _ (seqItems? (.ref t) >>=_) _ _ s from Ql (S9 C2 vi ?_))));simp only[Ru,hx];refine Ql (S8 (Ql (wpAny_setField ho hd (by simp) (show wpAny _ _ (newExc (.type "StopIteration") [] >>=_) _ _ _ from Ql ?_))));simp only[newExc,newTuple];refine Ql (SZ (Ql (m:=firstArgMember _ _) (wpAny_of_eq (a:=Value.none) (by first|rfl|(simp only[firstArgMember];rfl)) (SZ ?_ (by size_fits)))) (by size_fits));simp only[raiseNew];refine Ql (wpAny_handled ?_)
 first|rw[show A.in1.handled=none from hh]|rw[hh]
 exact Ql (Qo (wpAny_throw (hE _ _ (((Heap.SameBut.update ..).extBut.push _).push _) ⟨_,Qw _ rfl,rfl⟩)))
theorem gu{b:Bool}{it l:Addr}{i:Nat}{items:Array Value}{x:Value}{Q:Value->Shared->Prop}(hit:bU b s.heap it l i)(hl:eG b s.heap l items)(hx:items[i]?=some x)
  (hQ:∀h',bU b h' it l (i+1)->Heap.SameBut it s.heap h'->Q x {s with heap:=h'}):wpAny (model prog w) A (Builtin.SmallTypes.nextOf (.ref it)) Q E s:=by
 cases b with
 |false=>exact wpAny_nextOf_list_item hit hl hx hQ
 |true=>exact rk hit hl hx hQ
theorem lX{b:Bool}{it l:Addr}{i:Nat}{items:Array Value}{Q:Value->Shared->Prop}(hh:A.handled=none)(hit:bU b s.heap it l i)(hl:eG b s.heap l items)(hx:items[i]?=none)
  (hE:∀h' e,Heap.ExtBut it s.heap h'->(∃o,h'.get? e=some o/\o.cls= .type "StopIteration")->E (.ref e) {s with heap:=h'}):wpAny (model prog w) A (Builtin.SmallTypes.nextOf (.ref it)) Q E s:=by
 cases b with
 |false=>exact wpAny_nextOf_list_end hh hit hl hx hE
 |true=>exact uY hh hit hl hx hE
end
structure iO(z TO i1 i2 l:Addr):Prop where
 z:l≠z
 o:l≠TO
 a:l≠i1
 b:l≠i2
section
variable{prog:Program}{w:World}{A:Around}{E:Value->Shared->Prop}{s:Shared}
theorem vc{b1 b2:Bool}{z TI TO i1 i2 l1 l2:Addr}{k1 k2:Nat}{xs ys:Array Value}{x y a b:Value}{Q:Option Value->Shared->Prop}(D:vw z TI TO i1 i2)(O1:iO z TO i1 i2 l1)(O2:iO z TO i1 i2 l2)
  (hz:IsZip s.heap z TI TO .none) (Kj:IsPair s.heap TI (.ref i1) (.ref i2)) (Kl:IsPair s.heap TO a b) (h1:bU b1 s.heap i1 l1 k1) (h2:bU b2 s.heap i2 l2 k2) (g6:eG b1 s.heap l1 xs) (iM:eG b2 s.heap l2 ys) (hx:xs[k1]?=some x) (hy:ys[k2]?=some y)
  (hQ:∀h',IsZip h' z TI TO (rawInt s.heap.objs.size)->IsPair h' TO x y->bU b1 h' i1 l1 (k1+1)->bU b2 h' i2 l2 (k2+1)->IsPair h' s.heap.objs.size x y->
   (∀c o,c≠z->c≠TO->c≠i1->c≠i2->s.heap.get? c=some o->h'.get? c=some o)->Q (some (.ref s.heap.objs.size)) {s with heap:=h'}):wpAny (model prog w) A (pyNext (.ref z)) Q E s:=by
 have hT:s.TypeIs (.ref z) "zip":=⟨_,hz,rfl⟩;unfold pyNext;refine Ql (wpAny_attempt (SU (name:=Str.ofString "__next__") hT Ro (SV Ro hT F.entry_zip_next ?_ (F.args_zip_next_1 _))));refine(show wpAny _ _ (field (.ref z) 2 >>=_) _ _ _ from Ql (SW hz rfl (x:=.bool false) rfl (show wpAny _ _ (field (.ref z) 3 >>=_) _ _ _ from Ql (SW hz rfl (x:=.ref TI) rfl (Ql (S9 Kj rfl (show wpAny _ _ (Builtin.SmallTypes.ownedTupleIsFree (.ref z) >>=_) _ _ _ from Ql ?_)))))));unfold Builtin.SmallTypes.ownedTupleIsFree;refine Ql (SW hz rfl (x:=.none) rfl (Qo ?_));simp only[SI];refine Ql (S8 (Ql (SW hz rfl (x:=.ref TO) rfl (Ql (QV hz (by simp) λg1 z1 e1=>Ql ?_)))))
 replace z1:IsZip g1 z TI TO .ellipsis:=z1
 simp only[List.zipIdx_cons,List.zipIdx_nil,RD,List.forIn_nil];refine Ql (Ql (S4 (show wpAny _ _ (Builtin.SmallTypes.nextOf (.ref i1) >>=_) _ _ _ from Ql (gu (h1.at λo q=>e1.extBut _ o D.i1z q) (g6.at λo q=>e1.extBut _ o O1.z q) hx λg2 j1 e2=>Qo ?_))));have t2:IsPair g2 TO a b:=e2.extBut _ _ D.TOi1 (e1.extBut _ _ D.TOz Kl);refine Ql (S9 t2 rfl (Ql (Td t2 λg3 t3 e3=>Ql (wpAny_letGo (Qo ?_)))))
 replace t3:IsPair g3 TO x b:=t3
 refine Ql (Ql (S4 (show wpAny _ _ (Builtin.SmallTypes.nextOf (.ref i2) >>=_) _ _ _ from Ql (gu (h2.at λo q=>e3.extBut _ o D.TOi2.symm (e2.extBut _ o D.i12.symm (e1.extBut _ o D.i2z q))) (iM.at λo q=>e3.extBut _ o O2.o (e2.extBut _ o O2.a (e1.extBut _ o O2.z q))) hy λg4 j2 e4=>Qo ?_))));have t4:IsPair g4 TO x b:=e4.extBut _ _ D.TOi2 t3;refine Ql (S9 t4 rfl (Ql (Td t4 λg5 t5 e5=>Ql (wpAny_letGo (Qo (Qo ?_))))))
 replace t5:IsPair g5 TO x y:=t5
 refine Ql (S9 t5 rfl (Ql (wpAny_newTuple ?_)));have sz:g5.objs.size=s.heap.objs.size:=by rw[e5.1,e4.1,e3.1,e2.1,e1.1]
 have z5:IsZip g5 z TI TO .ellipsis:=e5.extBut _ _ D.TOz.symm (e4.extBut _ _ D.i2z.symm (e3.extBut _ _ D.TOz.symm (e2.extBut _ _ D.i1z.symm z1)));have old:∀c o,c≠z->c≠TO->c≠i1->c≠i2->s.heap.get? c=some o->g5.get? c=some o:=λc o c1 c2 c3 c4 q=>e5.extBut _ _ c2 (e4.extBut _ _ c4 (e3.extBut _ _ c2 (e2.extBut _ _ c3 (e1.extBut _ _ c1 q))))
 have n1:bU b1 g5 i1 l1 (k1+1):=j1.at λo q=>e5.extBut _ o D.TOi1.symm (e4.extBut _ o D.i12 (e3.extBut _ o D.TOi1.symm q))
 have n2:bU b2 g5 i2 l2 (k2+1):=j2.at λo q=>e5.extBut _ o D.TOi2.symm q
 have Nr:z<g5.objs.size:=Qy z5;refine(show wpAny _ _ (Builtin.SmallTypes.ownedTupleHandOut (.ref z) (.ref g5.objs.size) >>=_) _ _ _ from Ql ?_);unfold Builtin.SmallTypes.ownedTupleHandOut;have z6:IsZip (g5.push {cls:=.type "tuple",data:=.seq #[x,y]}) z TI TO .ellipsis:=Qn _ z5;refine Ql (QV z6 (by simp) λg7 z7 e7=>?_)
 replace z7:IsZip g7 z TI TO (rawInt g5.objs.size):=z7
 refine QV z7 (by simp) λg8 z8 e8=>?_
 replace z8:IsZip g8 z TI TO (rawInt g5.objs.size):=z8
 have up:∀c o,c≠z->g5.get? c=some o->g8.get? c=some o:=λc o c1 q=>e8.extBut _ _ c1 (e7.extBut _ _ c1 (Qn _ q))
 have t8:IsPair g8 g5.objs.size x y:=e8.extBut _ _ (Sk Nr) (e7.extBut _ _ (Sk Nr) (Qw _ rfl));rw[sz]at z8 t8;refine Qo ⟨_,rfl,Qo ?_⟩;show Q (some (.ref g5.objs.size)) _;rw[sz];exact hQ g8 z8 (up _ _ D.TOz t5) (n1.at λo q=>up _ o D.i1z q) (n2.at λo q=>up _ o D.i2z q) t8 λc o c1 c2 c3 c4 q=>up c o c1 (old c o c1 c2 c3 c4 q)
theorem yS{b1 b2:Bool}{z TI TO i1 i2 l1 l2:Addr}{k1 k2:Nat}{xs ys:Array Value}{a b:Value}{Q:Option Value->Shared->Prop}(hh:A.handled=none)(D:vw z TI TO i1 i2)(O1:iO z TO i1 i2 l1)(O2:iO z TO i1 i2 l2)
  (hz:IsZip s.heap z TI TO .none) (Kj:IsPair s.heap TI (.ref i1) (.ref i2)) (Kl:IsPair s.heap TO a b) (h1:bU b1 s.heap i1 l1 k1) (h2:bU b2 s.heap i2 l2 k2) (g6:eG b1 s.heap l1 xs) (iM:eG b2 s.heap l2 ys) (Gc:xs[k1]?=none\/ys[k2]?=none)
  (hQ:∀h',(∀c o,c≠z->c≠TO->c≠i1->c≠i2->s.heap.get? c=some o->h'.get? c=some o)->Q none {s with heap:=h'}):wpAny (model prog w) A (pyNext (.ref z)) Q E s:=by
 have hT:s.TypeIs (.ref z) "zip":=⟨_,hz,rfl⟩;unfold pyNext;refine Ql (wpAny_attempt (SU (name:=Str.ofString "__next__") hT Ro (SV Ro hT F.entry_zip_next ?_ (F.args_zip_next_1 _))));have stop:∀(h':Heap)(e:Addr),(∀c o,c≠z->c≠TO->c≠i1->c≠i2->s.heap.get? c=some o->h'.get? c=some o)->(∃o,h'.get? e=some o/\o.cls= .type "StopIteration")->wpAny (model prog w) A (isInstance (.ref e) (.type "StopIteration")) (λr s'=>r=true/\Q none s') E {s with heap:=h'}:=λh' e kk he=>by obtain⟨o,ho,hc⟩:=he;exact wpAny_isInstance (T:="StopIteration") (b:=true) ⟨o,ho,hc⟩ isSubtype_stop ⟨rfl,hQ _ kk⟩
 refine(show wpAny _ _ (field (.ref z) 2 >>=_) _ _ _ from Ql (SW hz rfl (x:=.bool false) rfl (show wpAny _ _ (field (.ref z) 3 >>=_) _ _ _ from Ql (SW hz rfl (x:=.ref TI) rfl (Ql (S9 Kj rfl (show wpAny _ _ (Builtin.SmallTypes.ownedTupleIsFree (.ref z) >>=_) _ _ _ from Ql ?_)))))));unfold Builtin.SmallTypes.ownedTupleIsFree;refine Ql (SW hz rfl (x:=.none) rfl (Qo ?_));simp only[SI];refine Ql (S8 (Ql (SW hz rfl (x:=.ref TO) rfl (Ql (QV hz (by simp) λg1 z1 e1=>Ql ?_)))))
 replace z1:IsZip g1 z TI TO .ellipsis:=z1
 simp only[List.zipIdx_cons,List.zipIdx_nil,RD,List.forIn_nil];refine Ql (Ql (S4 ?_));show wpAny _ _ (Builtin.SmallTypes.nextOf (.ref i1) >>=_) _ _ _;cases hx:xs[k1]? with
 |none=>
  refine Ql (lX hh (h1.at λo q=>e1.extBut _ o D.i1z q) (g6.at λo q=>e1.extBut _ o O1.z q) hx λg2 e e2 he=>?_);obtain⟨oe,C1,Bx⟩:=he;have z2:IsZip g2 z TI TO .ellipsis:=e2 _ _ D.i1z.symm z1;have Kt:e≠z:=λx=>by subst x;rw[z2]at C1;cases C1;simp at Bx
  refine QV z2 (by simp) λg3 _ e3=>?_
  refine Ql (SY (stop g3 e (λc o c1 _ c3 _ x=>e3.extBut _ _ c1 (e2 _ _ c3 (e1.extBut _ _ c1 x))) ⟨oe,e3.extBut _ _ Kt C1,Bx⟩) (λr s' q=>?_) λ_ _ q=>q);obtain⟨rfl,q⟩:=q;exact Qo q
 |some x=>
  have hy:ys[k2]?=none:=by rcases Gc with h|h;rw[hx]at h;cases h;exact h
  refine Ql (gu (h1.at λo q=>e1.extBut _ o D.i1z q) (g6.at λo q=>e1.extBut _ o O1.z q) hx λg2 j1 e2=>Qo ?_);have t2:IsPair g2 TO a b:=e2.extBut _ _ D.TOi1 (e1.extBut _ _ D.TOz Kl);refine Ql (S9 t2 rfl (Ql (Td t2 λg3 t3 e3=>Ql (wpAny_letGo (Qo ?_)))));refine Ql (Ql (S4 (show wpAny _ _ (Builtin.SmallTypes.nextOf (.ref i2) >>=_) _ _ _ from Ql (lX hh (h2.at λo q=>e3.extBut _ o D.TOi2.symm (e2.extBut _ o D.i12.symm (e1.extBut _ o D.i2z q))) (iM.at λo q=>e3.extBut _ o O2.o (e2.extBut _ o O2.a (e1.extBut _ o O2.z q))) hy λg4 e e4 he=>?_))));obtain⟨oe,C1,Bx⟩:=he;have z4:IsZip g4 z TI TO .ellipsis:=e4 _ _ D.i2z.symm (e3.extBut _ _ D.TOz.symm (e2.extBut _ _ D.i1z.symm z1));have Kt:e≠z:=λx=>by subst x;rw[z4]at C1;cases C1;simp at Bx
  refine QV z4 (by simp) λg5 _ e5=>?_
  refine Ql (SY (stop g5 e (λc o c1 c2 c3 c4 x=>e5.extBut _ _ c1 (e4 _ _ c4 (e3.extBut _ _ c2 (e2.extBut _ _ c3 (e1.extBut _ _ c1 x))))) ⟨oe,e5.extBut _ _ Kt C1,Bx⟩) (λr s' q=>?_) λ_ _ q=>q);obtain⟨rfl,q⟩:=q;exact Qo q
end
noncomputable def oU:Bool->Addr->Obj
 |false,l=>{cls:=.type "list_iterator",data:=.fields #[.ref l,.int 0 0]}
 |true,l=>{cls:=.type "tuple_iterator",data:=.fields #[.ref l,.int 0 0]}
theorem oV:∀{b:Bool}{h:Heap}{i l:Addr},h.get? i=some (oU b l)->bU b h i l 0
 |false,_,_,_,e=>⟨_,e,rfl,rfl⟩
 |true,_,_,_,e=>⟨_,e,rfl,rfl⟩
theorem lV(b:Bool)(l:Addr):(oU b l).isFreed=false:=by cases b<;>rfl
noncomputable abbrev Jo(h:Heap)(b1:Bool)(l1:Addr):Heap:=h.push (oU b1 l1)
noncomputable abbrev Jp(h:Heap)(b1 b2:Bool)(l1 l2:Addr):Heap:=(Jo h b1 l1).push (oU b2 l2)
noncomputable abbrev Jq(h:Heap)(b1 b2:Bool)(l1 l2:Addr):Heap:=(Jp h b1 b2 l1 l2).push {cls:=.type "tuple",data:=.seq #[.ref h.objs.size,.ref (Jo h b1 l1).objs.size]}
noncomputable abbrev Jr(h:Heap)(b1 b2:Bool)(l1 l2:Addr):Heap:=(Jq h b1 b2 l1 l2).push {cls:=.type "tuple",data:=.seq #[.none,.none]}
noncomputable abbrev E9(h:Heap)(b1 b2:Bool)(l1 l2:Addr):Heap:=(Jr h b1 b2 l1 l2).push {cls:=.type "zip",data:=.fields #[.none,.bool false,.bool false,.ref (Jp h b1 b2 l1 l2).objs.size,.ref (Jq h b1 b2 l1 l2).objs.size]}
theorem eG.push{b:Bool}{h:Heap}{l:Addr}{xs:Array Value}(x:eG b h l xs)(o:Obj):eG b (h.push o) l xs:=x.at λ_ e=>Qn _ e
theorem yT(b1 b2:Bool)(l1 l2:Addr)(xs ys:Array Value):
  Meets (Builtin.«zip.__new__» ⟨[.type "zip",.ref l1,.ref l2],[]⟩) (λ_ R s=>eG b1 s.heap l1 xs/\eG b2 s.heap l2 ys/\R (.ok (.ret (.ref (Jr s.heap b1 b2 l1 l2).objs.size))) {s with heap:=E9 s.heap b1 b2 l1 l2}):=
 .of_wp λprog w A R s h=>by
  obtain⟨hp,g,d,tk,os⟩:=s;obtain⟨g6,iM,h⟩:=h;have wW:=sub_zip;have IJ:=iM.push (oU b1 l1);cases b1<;>cases b2
  ·have k1:Heap.IsList (Shared.heap ⟨hp,g,d,tk,os⟩) l1 xs:=g6;have k2:Heap.IsList (Shared.heap ⟨hp.push {cls:=.type "list_iterator",data:=.fields #[.ref l1,.int 0 0]},g,d,tk,os⟩) l2 ys:=IJ
   wp_walk using S6 k1,S6 k2
   exact⟨_,rfl,h⟩
  ·have k1:Heap.IsList (Shared.heap ⟨hp,g,d,tk,os⟩) l1 xs:=g6;have k2:Heap.IsTuple (Shared.heap ⟨hp.push {cls:=.type "list_iterator",data:=.fields #[.ref l1,.int 0 0]},g,d,tk,os⟩) l2 ys:=IJ
   wp_walk using S6 k1,S7 k2
   exact⟨_,rfl,h⟩
  ·have k1:Heap.IsTuple (Shared.heap ⟨hp,g,d,tk,os⟩) l1 xs:=g6;have k2:Heap.IsList (Shared.heap ⟨hp.push {cls:=.type "tuple_iterator",data:=.fields #[.ref l1,.int 0 0]},g,d,tk,os⟩) l2 ys:=IJ
   wp_walk using S7 k1,S6 k2
   exact⟨_,rfl,h⟩
  ·have k1:Heap.IsTuple (Shared.heap ⟨hp,g,d,tk,os⟩) l1 xs:=g6;have k2:Heap.IsTuple (Shared.heap ⟨hp.push {cls:=.type "tuple_iterator",data:=.fields #[.ref l1,.int 0 0]},g,d,tk,os⟩) l2 ys:=IJ
   wp_walk using S7 k1,S7 k2
   exact⟨_,rfl,h⟩
section
variable{prog:Program}{w:World}{A:Around}{E:Value->Shared->Prop}{s:Shared}
theorem uf{b1 b2:Bool}{l1 l2:Addr}{xs ys:Array Value}{Q:Value->Shared->Prop}(g6:eG b1 s.heap l1 xs)(iM:eG b2 s.heap l2 ys)
  (h:∀h',IsZip h' (s.heap.objs.size+4) (s.heap.objs.size+2) (s.heap.objs.size+3) .none->IsPair h' (s.heap.objs.size+2) (.ref s.heap.objs.size) (.ref (s.heap.objs.size+1))->IsPair h' (s.heap.objs.size+3) .none .none->
   bU b1 h' s.heap.objs.size l1 0->bU b2 h' (s.heap.objs.size+1) l2 0->(∀c o,s.heap.get? c=some o->h'.get? c=some o)->Q (.ref (s.heap.objs.size+4)) {s with heap:=h'}):wpAny (model prog w) A (call (.type "zip") [.ref l1,.ref l2]) Q E s:=by
 refine callType_new F.called_zip (by decide) (F.typeCall_zip_2 _ _) (F.newCall_zip_2 _ _) (λobj=>F.args_object_init_3 obj _ _) F.entry_zip_new (yT b1 b2 l1 l2 xs ys) ⟨g6,iM,?_⟩;have y1:(Jo s.heap b1 l1).objs.size=s.heap.objs.size+1:=QS ..;have y2:(Jp s.heap b1 b2 l1 l2).objs.size=s.heap.objs.size+2:=by rw[QS,y1]
 have y3:(Jq s.heap b1 b2 l1 l2).objs.size=s.heap.objs.size+3:=by rw[QS,y2]
 have y4:(Jr s.heap b1 b2 l1 l2).objs.size=s.heap.objs.size+4:=by rw[QS,y3]
 have g5:(E9 s.heap b1 b2 l1 l2).get? (Jr s.heap b1 b2 l1 l2).objs.size=some _:=Qw _ rfl;have g4:(E9 s.heap b1 b2 l1 l2).get? (Jq s.heap b1 b2 l1 l2).objs.size=some _:=Qn _ (Qw _ rfl);have g3:(E9 s.heap b1 b2 l1 l2).get? (Jp s.heap b1 b2 l1 l2).objs.size=some _:=Qn _ (Qn _ (Qw _ rfl));have g2:(E9 s.heap b1 b2 l1 l2).get? (Jo s.heap b1 l1).objs.size=some _:=Qn _ (Qn _ (Qn _ (Qw _ (lV b2 l2))));have g1:(E9 s.heap b1 b2 l1 l2).get? s.heap.objs.size=some _:=Qn _ (Qn _ (Qn _ (Qn _ (Qw _ (lV b1 l1)))));show _/\_;rw[y2,y3,y4]at g5;rw[y1,y2]at g3;rw[y3]at g4;rw[y1]at g2;rw[y4];exact⟨⟨_,g5,rfl⟩,h _ g5 g3 g4 (oV g1) (oV g2) λc o x=>Qn _ (Qn _ (Qn _ (Qn _ (Qn _ x))))⟩
end
noncomputable def n8:Bool->List V->HO
 |false,xs=>.lst xs
 |true,xs=>.tup xs
theorem sI{b:Bool}{xs ys:List V}(h:n8 b xs=n8 b ys):xs=ys:=by
 cases b with
 |false=>injection h
 |true=>injection h
noncomputable def Jy(b1 b2:Bool)(l1 l2:Addr):It where
 go:=λi H=>∃xs ys x y,H l1=some (n8 b1 xs)/\H l2=some (n8 b2 ys)/\xs[i]?=some x/\ys[i]?=some y
 yld:=λi H v H'=>∃p x y,v= .ref p/\H p=none/\H'=upd H p (.tup [x,y])/\∀xs ys,H l1=some (n8 b1 xs)->H l2=some (n8 b2 ys)->xs[i]?=some x/\ys[i]?=some y
 stop:=λi H=>∃xs ys,H l1=some (n8 b1 xs)/\H l2=some (n8 b2 ys)/\(xs.length<=i\/ys.length<=i)
theorem eR{X:Cx}{pins:List (Addr×Obj)}{s:Shared}{σ:L2.St}{H:Hp}(I:Inv X pins σ H s){b:Bool}{l:Addr}{xs:List V}(h:H l=some (n8 b xs)):∃its:List Value,aq xs its/\eG b s.heap l its.toArray:=by
 cases b with
 |false=>obtain⟨its,r,p,_⟩:=I.list (.inl (.inl h));exact⟨its,r,p.isList⟩
 |true=>obtain⟨its,r,p,_⟩:=I.tuple (.inl (.inl h));exact⟨its,r,p⟩
noncomputable def PK(b1 b2:Bool)(z TI TO i1 i2 l1 l2:Addr)(i:Nat)(h:Heap):Prop:=IsZip h z TI TO .none/\IsPair h TI (.ref i1) (.ref i2)/\(∃a b,IsPair h TO a b)/\bU b1 h i1 l1 i/\bU b2 h i2 l2 i
theorem u4{P:Program}{w:World}{K:PySem.W.Frag}{es:List Expr}{k:Nat}{tp:Pos}{b1 b2:Bool}{z TI TO i1 i2 l1 l2:Addr}(ap:vw z TI TO i1 i2):
  Turn P w K (.Tuple es k tp) (Jy b1 b2 l1 l2) [z,TI,TO,i1,i2] z (PK b1 b2 z TI TO i1 i2 l1 l2) where
 mem:=by simp
 obj:=λi h st b hb=>by
  obtain⟨s1,s2,⟨a,b',s3⟩,s4,s5⟩:=st;simp only[QA,QB,SM]at hb;rcases hb with rfl|rfl|rfl|rfl|rfl
  ·exact⟨_,s1,λv q=>by cases q⟩
  ·exact⟨_,s2,λv q=>by cases q⟩
  ·exact⟨_,s3,λv q=>by cases q⟩
  ·exact s4.obj
  ·exact s5.obj
 keep:=λi h h' st kk=>by obtain⟨s1,s2,⟨a,b',s3⟩,s4,s5⟩:=st;exact⟨kk z (by simp) _ s1,kk TI (by simp) _ s2,⟨a,b',kk TO (by simp) _ s3⟩,s4.at λo e=>kk i1 (by simp) o e,s5.at λo e=>kk i2 (by simp) o e⟩
 item:=by
  intro X hP hw hK hc i pins s σ H E I hf st hg;subst hP hw hK;obtain⟨xs,ys,x,y,g6,iM,hx,hy⟩:=hg;obtain⟨s1,s2,⟨a,b',s3⟩,s4,s5⟩:=st;obtain⟨gb,r1,p1⟩:=eR I g6;obtain⟨aG,r2,p2⟩:=eR I iM;obtain⟨u1,zW,Pm⟩:=r1.get hx;obtain⟨u2,OW,Pn⟩:=r2.get hy;have ne:∀{l:Addr}{o:HO},H l=some o->∀b∈[z,TI,TO,i1,i2],l≠b:=λ {l o} hl b hb e=>by subst e;rw[(hf l hb).1]at hl;cases hl
  have off:∀{l:Addr}{o:HO},H l=some o->iO z TO i1 i2 l:=λ {l o} hl=>⟨ne hl z (by simp),ne hl TO (by simp),ne hl i1 (by simp),ne hl i2 (by simp)⟩
  refine vc ap (off g6) (off iM) s1 s2 s3 s4 s5 p1 p2 (by simpa using zW) (by simpa using OW) λh' a1 a2 a3 a4 a5 a7=>⟨_,rfl,?_⟩
  refine wpAny_letOwnedTupleGo_zip (s:={s with heap:=h'}) a1 λh2 c1 c2=>?_
  have Oa:s.heap.objs.size≠z:=λe=>by have:=Qy s1;rw[<-e]at this;exact Sg _ this
  have Kk:IsPair h2 TI (.ref i1) (.ref i2):=(c2.2 TI ap.TIz).trans (a7 TI _ ap.TIz ap.TITO ap.TIi1 ap.TIi2 s2);have N3:h2.get? s.heap.objs.size=some {cls:=.type "tuple",data:=.seq #[u1,u2]}:=(c2.2 _ Oa).trans a5;have kk:∀b o,b∉[z,TI,TO,i1,i2]->s.heap.get? b=some o->h2.get? b=some o:=λb o hb e=>by simp only[QA,QB,SM,not_or]at hb;exact(c2.2 b hb.1).trans (a7 b o hb.1 hb.2.2.1 hb.2.2.2.1 hb.2.2.2.2 e)
  have lt:∀{b:Addr}{o:Obj},s.heap.get? b=some o->b≠s.heap.objs.size:=λe=>QT (Qy e)
  have GV:∀b u,H b=some u->b∉[z,TI,TO,i1,i2]:=λb u e hb=>by rw[(hf b hb).1]at e;cases e
  have Bu:H s.heap.objs.size=none:=I.fresh;have I2:Inv X pins σ (upd H s.heap.objs.size (.tup [x,y])) {s with heap:=h2,toks:=s.toks}:=by
   refine I.step (g':=s.gens) (d':=s.drawn) (ch:=[z,TI,TO,i1,i2]) (λb hb=>⟨(hf b hb).2.2.2.1,(hf b hb).2.1,(hf b hb).2.2.2.2.1,(hf b hb).2.2.2.2.2⟩) (λb o _ _ hb e _=>kk b o hb e) (λb o _ _ hb e _=>⟨o.slots,kk b o hb e⟩)
    (λb o hb e n=>by rw[az (lt e)];exact n) (λb o hb e=>⟨o,kk b o hb e⟩) (λb zs e=>by rw[az (aY e Bu)];exact e) (λb o u e=>by rw[az (aY e Bu)];exact e)
    (λb ps e=>⟨#[],by rw[az (aY e Bu),e];simp⟩) (λm hm=>?_) (λb u e=>?_) I.bare
   ·obtain⟨o,de,ep,ho,rr⟩:=hm;exact⟨o,de,ep,kk _ o (λhb=>(hf _ hb).2.1 rfl) ho,rr⟩
   ·by_cases hb:b=s.heap.objs.size
    ·subst hb;rw[ax]at e;cases e;exact⟨by show 2<=sizeLine;decide,[u1,u2],.cons Pm (.cons Pn .nil),_,N3,rfl,0,rfl,rfl,rfl⟩
    ·rw[az hb]at e;refine(I.hok b u e).ly (λc v hc q=>kk c v ?_ q) (λc q=>by rw[az (aY q Bu)];exact q) λc zs q=>by rw[az (aY q Bu)];exact q
     rcases hc with rfl|hc
     ·exact GV c u e
     ·exact GV c _ hc
  refine⟨.ref s.heap.objs.size,_,I2,rfl,⟨s.heap.objs.size,x,y,rfl,Bu,rfl,λu9 Jn q1 q2=>?_⟩,⟨c1,Kk,⟨u1,u2,(c2.2 TO ap.TOz).trans a2⟩,a3.at λo e=>(c2.2 i1 ap.i1z).trans e,a4.at λo e=>(c2.2 i2 ap.i2z).trans e⟩,λb hb=>?_⟩
  ·rw[g6]at q1;rw[iM]at q2;rw[sI (So q1).symm,sI (So q2).symm];exact⟨hx,hy⟩
  ·rw[az (λe=>?_)]
   ·exact(hf b hb).1
   ·have q:∃o,s.heap.get? b=some o:=by
     simp only[QA,QB,SM]at hb;rcases hb with rfl|rfl|rfl|rfl|rfl
     ·exact⟨_,s1⟩
     ·exact⟨_,s2⟩
     ·exact⟨_,s3⟩
     ·obtain⟨o,e,_⟩:=s4.obj;exact⟨o,e⟩
     ·obtain⟨o,e,_⟩:=s5.obj;exact⟨o,e⟩
    obtain⟨o,q⟩:=q;exact lt q e
 done:=by
  intro X hP hw hK hc i pins s σ H E I hf st hg;subst hP hw hK;obtain⟨xs,ys,g6,iM,Gc⟩:=hg;obtain⟨s1,s2,⟨a,b',s3⟩,s4,s5⟩:=st;obtain⟨gb,r1,p1⟩:=eR I g6;obtain⟨aG,r2,p2⟩:=eR I iM;have ne:∀{l:Addr}{o:HO},H l=some o->∀b∈[z,TI,TO,i1,i2],l≠b:=λ {l o} hl b hb e=>by subst e;rw[(hf l hb).1]at hl;cases hl
  have off:∀{l:Addr}{o:HO},H l=some o->iO z TO i1 i2 l:=λ {l o} hl=>⟨ne hl z (by simp),ne hl TO (by simp),ne hl i1 (by simp),ne hl i2 (by simp)⟩
  have e1:=r1.length;have e2:=r2.length;refine yS (I.ok.hd hc) ap (off g6) (off iM) s1 s2 s3 s4 s5 p1 p2 (by simp;lia) λh' kk=>⟨rfl,?_⟩
  have GV:∀b u,H b=some u->b∉[z,TI,TO,i1,i2]:=λb u e hb=>by rw[(hf b hb).1]at e;cases e
  have GI:∀b o,b∉[z,TI,TO,i1,i2]->s.heap.get? b=some o->h'.get? b=some o:=λb o hb e=>by simp only[QA,QB,SM,not_or]at hb;exact kk b o hb.1 hb.2.2.1 hb.2.2.2.1 hb.2.2.2.2 e
  refine I.step (g':=s.gens) (d':=s.drawn) (t':=s.toks) (h':=h') (ch:=[z,TI,TO,i1,i2]) (λb hb=>⟨(hf b hb).2.2.2.1,(hf b hb).2.1,(hf b hb).2.2.2.2.1,(hf b hb).2.2.2.2.2⟩) (λb o _ _ hb e _=>GI b o hb e) (λb o _ _ hb e _=>⟨o.slots,GI b o hb e⟩)
   (λb o hb e n=>n) (λb o hb e=>⟨o,GI b o hb e⟩) (λb zs e=>e) (λb o u e=>e) (λb ps e=>⟨#[],by rw[e];simp⟩) (λm hm=>?_) (λb u e=>?_) I.bare
  ·obtain⟨o,de,ep,ho,rr⟩:=hm;exact⟨o,de,ep,GI _ o (λhb=>(hf _ hb).2.1 rfl) ho,rr⟩
  ·refine(I.hok b u e).ly (λc v hc q=>GI c v ?_ q) (λc q=>q) λc zs q=>q
   rcases hc with rfl|hc
   ·exact GV c u e
   ·exact GV c _ hc
 self:=λ_ _ _ _ _ st h=>wpAny_pyIter_zip st.1 h
noncomputable def GA(ta:TA):TI:=λσ H R=>ta σ H λvs H1=>∃b1 b2 l1 l2 xs ys,vs=[.ref l1,.ref l2]/\H1 l1=some (n8 b1 xs)/\H1 l2=some (n8 b2 ys)/\R (Jy b1 b2 l1 l2) H1
theorem Ay{X:Cx}{es:List Expr}{k:Nat}{tp:Pos}{a b:Expr}{ta:TA}{p pos:Pos}(hg:Gl X "zip")(hm:X.mg "zip"=none)(ha:PA X [a,b] ta)(hs:starEach [a,b] X.env=[(false,eval a X.env),(false,eval b X.env)]:=by rfl)(zV:starEach [b] X.env=[(false,eval b X.env)]:=by rfl):
  PI X (.Tuple es k tp) (.Call (.Name "zip" p) [a,b] [] pos) (GA ta):=by
 intro pins s σ H R I h;refine Call_ (gv I hg hm boot_zip (Sq (bN (ha pos pins s σ H _ I h) λus s1⟨vs,H1,I1,r1,q1⟩=>?_) (by rw[hs,zV]) (by rw[zV];rfl)));obtain⟨b1,b2,l1,l2,xs,ys,e,e1,e2,q⟩:=q1;subst e;obtain⟨u,v,rfl,ru,rv⟩:=r1.two;cases ru;cases rv;obtain⟨gb,_,p1⟩:=eR I1 e1;obtain⟨aG,_,p2⟩:=eR I1 e2;refine uf p1 p2 λh' g1 g2 g3 g4 g5 kk=>?_
 refine wpAny_pyIter_zip (s:={s1 with heap:=h'}) g1 ?_;have I2:Inv X pins σ H1 {s1 with heap:=h'}:=I1.kept (t':=s1.toks) kk;refine⟨s1.heap.objs.size+4,[s1.heap.objs.size+4,s1.heap.objs.size+2,s1.heap.objs.size+3,s1.heap.objs.size,s1.heap.objs.size+1],_,_,H1,rfl,I2,u4 (l1:=l1) (l2:=l2) ⟨?_,?_,?_,?_,?_,?_,?_,?_,?_,?_⟩,⟨g1,g2,⟨_,_,g3⟩,g4,g5⟩,λb hb=>?_,q⟩
 iterate 10 (first|(apply QT;lia)|(apply Sk;lia))
 have uC:s1.heap.objs.size<=b:=by simp only[QA,QB,SM]at hb;rcases hb with h|h|h|h|h<;>(rw[h];first|exact Nat.le_add_right _ _|exact Qu _)
 exact I1.uz uC (I1.hok.fresh uC)
open AutoSeq1 (wpAny_loadPart')
noncomputable def eT(b:Bool)(e it l:Addr)(i:Nat)(h:Heap):Prop:=(∃old,IsEnum h e it i old)/\bU b h it l i
theorem nX{M:Model}{A:Around}{E:Value->Shared->Prop}{s:Shared}{src:Source}{n:Nat}{Q:Nat->Shared->Prop}(hn:n≠0)(h:∀i d,i<n->Q i {s with drawn:=d}):wpAny M A (choose src n) Q E s:=
 λ_ _ _=>⟨hn,h _ _ (Nat.mod_lt _ (Nat.pos_of_ne_zero hn))⟩
noncomputable def vI(w:World):Bool:=w.params.followText "set-order"
section
variable{prog:Program}{w:World}{A:Around}{E:Value->Shared->Prop}{s:Shared}
theorem du{Q:Bool->Shared->Prop}(h:Q (vI w) s):wpAny (model prog w) A setsByText Q E s:=by unfold setsByText;exact Ql (wpAny_askSetting (Qo h))
theorem lq(t:SetTable)(n:Nat):(t.orStandIn n).led=t.led:=by unfold SetTable.orStandIn;split<;>rfl
theorem qI(t:SetTable)(es:Array (Int×Value))(h:Int)(x:Value):(layNew t es h x).2.1.led=t.led:=by
 unfold layNew;split
 ·dsimp only;rw[lq];rfl
 ·rfl
theorem nK(t:SetTable)(es:Array (Int×Value))(n:Nat):(relayAll t es n).2.1.led=t.led:=by
 unfold relayAll;split
 ·rename_i t' order h;unfold SetTable.relaid SetTable.laid at h;obtain⟨o,_,h⟩:=Qm.mp h;cases h;dsimp only;split<;>rfl
 ·rfl
theorem kF(t:SetTable)(es:Array (Int×Value))(n:Nat)(hp:t.plain=false):(relayAll t es n).2.1.plain=false:=by
 unfold relayAll;split
 ·rename_i t' order h;unfold SetTable.relaid SetTable.laid at h;obtain⟨o,_,h⟩:=Qm.mp h;cases h;dsimp only;split
  ·exact hp
  ·rfl
 ·rfl
variable(prog w)in
noncomputable def cR(h:Heap)(a:Addr)(ks:List Str):Prop:=
 ∃(es:Array (Int×Value))(ep:Nat)(t:SetTable),h.get? a=some {cls:=.type "set",dict:=none,data:=.set es ep t,slots:=#[]}/\ks.Nodup/\aq (ks.map V.str) (es.toList.map (·.2))/\ElemsOf (strKind prog w) es.toList/\
  es.size<scanBound/\t.fits es.size=true/\t.led= !vI w/\(es.size≠0->t.plain=false)
theorem cR.at{h h':Heap}{a:Addr}{ks:List Str}(x:cR prog w h a ks)(hk:∀o,h.get? a=some o->h'.get? a=some o):cR prog w h' a ks:=by obtain⟨es,ep,t,h1,r⟩:=x;exact⟨es,ep,t,hk _ h1,r⟩
theorem i9{l l':List (Int×Value)}(p:l'.Perm l):∀{ks:List Str},aq (ks.map V.str) (l.map (·.2))->∃dq:List Str,dq.Perm ks/\aq (dq.map V.str) (l'.map (·.2)):=by
 have hh:=p.symm;clear p
 induction hh with
 |nil=>intro ks h;exact⟨ks,Ry _,h⟩
 |cons x h ih=>
  intro ks r;cases ks with
  |nil=>cases r
  |cons k ks=>
   rw[Q6,Q6]at r;cases r with
   |cons r0 rr=>obtain⟨dq,p1,p2⟩:=ih rr;exact⟨k::dq,p1.cons k,by rw[Q6,Q6];exact .cons r0 p2⟩
 |swap x y l=>
  intro ks r;cases ks with
  |nil=>cases r
  |cons k ks=>
   cases ks with
   |nil=>cases r with|cons _ rr=>cases rr
   |cons k2 ks=>
    simp only[Q6]at r;cases r with
    |cons r0 rr=>
     cases rr with
     |cons r1 rr=>exact⟨k2::k::ks,List.Perm.swap k k2 ks,by simp only[Q6];exact .cons r1 (.cons r0 rr)⟩
 |trans h1 h2 ih1 ih2=>intro ks r;obtain⟨Jd,p1,r1⟩:=ih1 r;obtain⟨K1,p2,r2⟩:=ih2 r1;exact⟨K1,p2.trans p1,r2⟩
theorem pO{es:List (Int×Value)}{ks:List Str}(r:aq (ks.map V.str) (es.map (·.2)))(k:Str):(∃e∈es,(strKind prog w).is k e.2=true)↔k∈ks:=by
 induction es generalizing ks with
 |nil=>
  cases ks with
  |nil=>simp
  |cons k ks=>cases r
 |cons e es ih=>
  cases ks with
  |nil=>cases r
  |cons k0 ks=>
   simp only[Q6]at r;cases r with
   |cons r0 rr=>
    obtain⟨t,e0⟩:=r0;have:(strKind prog w).is k e.2=true↔k=k0:=by rw[e0];show Value.isStrOf k (.str k0 t)=true↔_;unfold Value.isStrOf;simp;exact eq_comm
    rw[QA,<-ih rr,<-this];constructor
    ·rintro⟨x,hx,q⟩;rcases QA.mp hx with rfl|hx
     ·exact .inl q
     ·exact .inr ⟨x,hx,q⟩
    ·rintro(q|⟨x,hx,q⟩)
     ·exact⟨e,by simp,q⟩
     ·exact⟨x,Qt _ hx,q⟩
theorem pM{a:Addr}{es:Array (Int×Value)}{ep:Nat}{t:SetTable}(h:Heap)(ho:h.get? a=some {cls:=.type "set",dict:=none,data:=.set es ep t,slots:=#[]})(de:Array (Int×Value))(t':SetTable):
  (h.update a (Obj.putSet de t')).get? a=some {cls:=.type "set",dict:=none,data:=.set de (ep+1) t',slots:=#[]}:=by
 have:=Heap.get?_update_self (Obj.putSet de t') ho (by rw[putSet_of de t' rfl];rfl);rw[putSet_of de t' rfl]at this;exact this
theorem tT{g:Bool->Sem Unit}(hg:∀(b:Bool){s₁:Shared}{Q':Unit->Shared->Prop},Q' () s₁->wpAny (model prog w) A (g b) Q' E s₁){a:Addr}{es:Array (Int×Value)}{ep:Nat}{t:SetTable}
  (ho:s.heap.get? a=some {cls:=.type "set",dict:=none,data:=.set es ep t,slots:=#[]}) {gU:Array (Int×Value)} {t2:SetTable} {ks:List Str} (jk:ks.Nodup) (hv:aq (ks.map V.str) (gU.toList.map (·.2))) (By:ElemsOf (strKind prog w) gU.toList)
  (hb:gU.size<scanBound) (hf:t2.fits gU.size=true) (hl:t2.led= !vI w) (hp:t2.plain=false) {pQ:Bool} {R:Option Bool->Shared->Prop}
  (h:∀h' dq,Heap.SameBut a s.heap h'->dq.Perm ks->cR prog w h' a dq->R (some true) {s with heap:=h'}):
  wpAny (model prog w) A (do
    storeSet a gU t2
    if (!pQ&&t2.tooFull)=true then do
      g (relayAll t2 gU (SetTable.grown gU.size)).2.2
      storeSet a (relayAll t2 gU (SetTable.grown gU.size)).1 (relayAll t2 gU (SetTable.grown gU.size)).2.1
      pure (some true)
     else pure (some true)) R E s:=by
 refine Ql (wpAny_storeSet_of ho rfl ?_ (fits_of_scanBound hb));have EZ:=pM s.heap ho gU t2;have Gu:=Heap.SameBut.update s.heap a (Obj.putSet gU t2);split
 ·have Gr:=relayAll_perm t2 gU (SetTable.grown gU.size);have pZ:=relayAll_fits t2 gU (SetTable.grown gU.size);have Gg:=nK t2 gU (SetTable.grown gU.size);have Kz:=kF t2 gU (SetTable.grown gU.size) hp;generalize hRl:relayAll t2 gU (SetTable.grown gU.size)=Rl at Gr pZ Gg Kz ⊢;obtain⟨r8,t3,My⟩:=Rl;dsimp only at Gr pZ Gg Kz ⊢;obtain⟨K1,p2,OZ⟩:=i9 Gr hv;have kY:r8.size=gU.size:=by rw[<-QI,Gr.length_eq,QI]
  refine Ql (hg _ ?_);refine Ql (wpAny_storeSet_of EZ rfl ?_ (fits_of_scanBound ⋯));exact Qo (h _ K1 (Gu.trans (Heap.SameBut.update _ a _)) p2 ⟨r8,ep+2,t3,pM _ EZ r8 t3,p2.nodup_iff.mpr jk,OZ,By.perm Gr,by lia,pZ,Gg.trans hl,λ_=>Kz⟩)
 ·exact Qo (h _ ks Gu (Ry _) ⟨gU,ep+1,t2,EZ,jk,hv,By,hb,hf,hl,λ_=>hp⟩)
theorem u5{a:Addr}{ks:List Str}{k:Str}{tk:Tok}{Q:Bool->Shared->Prop}(hS:cR prog w s.heap a ks)(M3:ks.length+1<scanBound)
  (h:∀b h' dq,Heap.SameBut a s.heap h'->cR prog w h' a dq->(∀y,y∈dq↔y∈ks\/y=k)->dq.length<=ks.length+1->Q b {s with heap:=h'}):
  wpAny (model prog w) A (setAddHashed a (.str k tk) ((strKind prog w).hash k)) Q E s:=by
 obtain⟨es,ep,t,ho,jk,hv,By,hb,hf,wM,eL⟩:=hS;have zR:(strKind prog w).is k (.str k tk)=true:=strKind_is _ _ _ _;have Gv:(Value.str k tk).scannable=true:=rfl;have MV:es.size=ks.length:=by have:=hv.length;rw[Qx,Qx,QI]at this;exact this.symm
 unfold setAddHashed setAddHashedIn;refine SX (Ql (wpAny_setState_of ho rfl hf ?_));dsimp only;rw[byScan_of Gv hb By];simp only[↓reduceIte];unfold setAddByScan;refine Ql (Ql (S8 (Ql (wpAny_setScan_of zR ho rfl hf By ?_))));cases hr:List.findIdx? (λe=>(strKind prog w).is k e.2) es.toList with
 |some j=>
  dsimp only;obtain⟨hj,Gq,_⟩:=List.findIdx?_eq_some_iff_getElem.mp hr;have hk:k∈ks:=(pO (prog:=prog) (w:=w) hv k).mp ⟨es.toList[j],RI hj,Gq⟩;refine Qo (Qo ?_);have e:s={s with heap:=s.heap}:=by cases s;rfl
  rw[e];exact h _ _ ks (Heap.SameBut.refl a s.heap) ⟨es,ep,t,ho,jk,hv,By,hb,hf,wM,eL⟩ (λy=>⟨.inl,λz=>z.elim id λq=>q▸hk⟩) ⋯
 |none=>
  dsimp only;have hk:k∉ks:=λhk=>by obtain⟨e,he,hp⟩:=(pO (prog:=prog) (w:=w) hv k).mpr hk;have:=List.findIdx?_eq_none_iff.mp hr e he;rw[hp]at this;exact Bool.noConfusion this
  have Ku:∀(b:Bool){s₁:Shared}{Q':Unit->Shared->Prop},Q' () s₁->wpAny (model prog w) A (match b with|true=>rule "set.scan.the-table-gave-way"|false=>pure ()) Q' E s₁:=
   λb s₁ Q' hq=>by cases b<;>first|exact Qo hq|exact S8 hq
  have lT:=layNew_perm t es ((strKind prog w).hash k) (.str k tk);have sH:=layNew_fits t es ((strKind prog w).hash k) (.str k tk);have g6:=qI t es ((strKind prog w).hash k) (.str k tk);generalize hL:layNew t es ((strKind prog w).hash k) (.str k tk)=L at lT sH g6 ⊢;obtain⟨gU,t1,pQ,NK⟩:=L;dsimp only at lT sH g6 ⊢;rw[Array.toList_push]at lT;have Gb:ElemsOf (strKind prog w) gU.toList:=(By.push zR Gv).perm lT;have zX:aq ((ks++[k]).map V.str) ((es.toList++[((strKind prog w).hash k,Value.str k tk)]).map (·.2)):=by rw[Q7,Q7];exact hv.append (.cons ⟨tk,rfl⟩ .nil)
  obtain⟨Jd,p1,Gx⟩:=i9 lT zX;have OS:gU.size=es.size+1:=by rw[<-QI,lT.length_eq,QE,QI];rfl
  have wI:gU.size<scanBound:=⋯
  have Gk:Jd.Nodup:=p1.nodup_iff.mpr (by
   rw[List.nodup_append];exact⟨jk,by simp,λx hx y hy=>by rw[QW]at hy;subst hy;exact λe=>hk (e▸hx)⟩)
  have MW:∀y,y∈Jd↔y∈ks\/y=k:=λy=>by rw[p1.mem_iff,QK,QW]
  have BB:Jd.length<=ks.length+1:=by rw[p1.length_eq,QE];simp
  refine Ql (Ku _ ?_);split
  ·refine Ql ?_;rw[hashByValue_scannable 8 Gv];refine Qo ?_;exact tT Ku ho Gk Gx Gb wI (t2:=if plainKind (Value.str k tk)=true then t1 else{t1 with plain:=false}) (by
     rw[SF (by show¬(false=true);simp)];exact SetTable.fits_plain_off sH) (by rw[SF (by show¬(false=true);simp)];exact g6.trans wM) (by rw[SF (by show¬(false=true);simp)]) λh' dq sb pm x=>Qo (h _ h' dq sb x (λy=>pm.mem_iff.trans (MW y)) (by rw[pm.length_eq];exact BB))
  ·refine Ql (Qo ?_);simp only[↓reduceIte];exact tT Ku ho Gk Gx Gb wI sH (g6.trans wM) (by rename_i q;simpa using q) λh' dq sb pm x=>Qo (h _ h' dq sb x (λy=>pm.mem_iff.trans (MW y)) (by rw[pm.length_eq];exact BB))
end
section
variable{prog:Program}{w:World}{A:Around}{R:Result->Shared->Prop}{I:Addr}{fp wr:List Addr}{G:Array GenState->Array GenState->Prop}{n:Nat}{P:Nat->Value->Prop}{St:Nat->Shared->Prop}
theorem tS(W:WalksS prog w A.in1 I fp wr G n P St)(S:Addr)(FV:S∉fp)(xs:List Str)(Qe:xs.length=n)(zY:∀i v,P i v->∃x t,xs[i]?=some x/\v= .str x t)(hb:n+1<scanBound):
  ∀(k i:Nat)(s:Shared)(ks:List Str),n-i=k->i<=n->St i s->cR prog w s.heap S ks->(∀y,y∈ks↔y∈xs.take i)->ks.length<=i->
   (∀s' dq,Moved (S::wr) G s s'->cR prog w s'.heap S dq->(∀y,y∈dq↔y∈xs)->R (.ok (.ret .none)) s')->
   codeAny (model prog w) A (.builtin "set.update.loop" ⟨[.ref S,.ref I],[]⟩) R s:=by
 have MI:S∉wr:=λh=>FV (W.sub _ h)
 have wW:∀b∈wr,b∈S::wr:=λb hb=>Qt _ hb
 intro k
 induction k with
 |zero=>
  intro i s ks hk hi lU hS hm hl hR;have zb:i=n:=⋯
  subst zb;refine codeAny_builtin F.entry_set_update_loop ?_;rw[Around.under_plainId F.plain_set_update_loop _];show wpAny _ A.in1 (pyNext (.ref I) >>=_) _ _ s;refine Ql (W.done s _ _ lU λs' hm'=>?_);show wpAny _ A.in1 (ret Value.none) _ _ s';exact Qo (hR s' ks (hm'.mono wW) (hS.at λo e=>hm'.heap S o MI e) λy=>by rw[hm y,R9 ⋯])
 |succ k ih=>
  intro i s ks hk hi lU hS hm hl hR;have cU:i<n:=⋯
  refine codeAny_builtin F.entry_set_update_loop ?_;rw[Around.under_plainId F.plain_set_update_loop _];show wpAny _ A.in1 (pyNext (.ref I) >>=_) _ _ s;refine Ql (W.item i s _ _ cU lU λv s' hP hst' hm'=>?_);obtain⟨x,t,hx,rfl⟩:=zY i v hP;have wH:cR prog w s'.heap S ks:=hS.at λo e=>hm'.heap S o MI e
  show wpAny _ A.in1 (holding [Value.str x t] (setAdd S (.str x t)) >>=_) _ _ s';refine Ql (SX ?_);unfold setAdd;refine SX ?_;refine Ql ((strKind prog w).pyHash (k:=x) (strKind_is _ _ _ _) ?_);refine u5 (s:={s' with toks:=s'.toks+1}) wH ⋯ λb h' dq hsb hS2 Gi iM=>?_
  refine Qo ⟨plainId_quiet F.plain_set_update_loop _,ih (i+1) _ dq ⋯ cU (W.frame _ s' _ _ hst' (Sf _) λb hb o e=>?_) hS2 (λy=>?_) ⋯ λs'' ks'' hm'' hS'' zS=>?_⟩
  ·rw[hsb.2 b (λh:b=S=>FV (by rw[<-h];exact hb))];exact e
  ·rw[Gi y,hm y,List.take_succ,hx];simp
  ·refine hR s'' ks'' (Moved.trans W.gtrans ((hm'.mono wW).then_heap (Sf _) λb o hb e=>?_) hm'') hS'' zS;rw[hsb.2 b (λh:b=S=>hb (by rw[h];exact Qv))];exact e
end
namespace F
theorem sub_tuple_set:isSubtype (.type "tuple") (.type "set")=pure false:=by rw[isSubtype_type];kernel_rfl
theorem sub_tuple_frozenset:isSubtype (.type "tuple") (.type "frozenset")=pure false:=by rw[isSubtype_type];kernel_rfl
end F
noncomputable def cN(w:World):Obj:={cls:=.type "set",dict:=none,data:=.set #[] 0 (.fresh 0 0 (!vI w))}
section
variable{prog:Program}{w:World}{A:Around}{E:Value->Shared->Prop}{s:Shared}
theorem yF:cR prog w (s.heap.push (cN w)) s.heap.objs.size []:=
 ⟨#[],0,_,Qw _ rfl,List.nodup_nil,.nil,λe he=>by simp at he,by decide,by rfl,rfl,λz=>(z rfl).elim⟩
theorem code_set_new(a:Value){Q₁:Value->Shared->Prop}(h:Q₁ (.ref s.heap.objs.size) {s with heap:=s.heap.push (cN w)}):
  codeAny (model prog w) A (.call (.builtin "set.__new__") ⟨[.type "set",a],[]⟩) (wants Q₁ E) s:=by
 refine codeAny_of_tree ?_;show wpAny _ A.in1 (do checkBuiltinCall "set.__new__" ⟨[.type "set",a],[]⟩;again (.builtin "set.__new__" ⟨[.type "set",a],[]⟩)) _ _ s;refine Ql (wpAny_of_eq (F.newCall_set_1 a) (Qo ⟨plainId_quiet F.plain_set_new _,codeAny_builtin F.entry_set_new ?_⟩));rw[Around.under_plainId F.plain_set_new _];unfold Builtin.«set.__new__» Builtin.Frozenset.newClass;have wW:=sub_set_self;obtain⟨hp,g,d,tk,os⟩:=s;dsimp only
 wp_walk
 refine wpAny_askSetting (Qo ?_);dsimp only;simp only[newObj];refine Ql (wpAny_alloc (Qo ?_));exact Qo h
theorem ym{b:Bool}{h:Heap}{l:Addr}{xs:Array Value}(x:eG b h l xs):∃o,h.get? l=some o:=by
 cases b with
 |false=>obtain⟨o,ho,_⟩:=x;exact⟨o,ho⟩
 |true=>obtain⟨o,ho,_⟩:=x;exact⟨o,ho⟩
set_option maxHeartbeats 8000000 in
theorem mH{b:Bool}{l:Addr}{items:Array Value}{xs:List Str}{Q:Value->Shared->Prop}
  (hh:A.handled=none) (hl:eG b s.heap l items) (hi:aq (xs.map V.str) items.toList) (hb:items.size+1<scanBound)
  (h:∀(h':Heap)(tk:Nat)(ks:List Str),cR prog w h' s.heap.objs.size ks->(∀y,y∈ks↔y∈xs)->
   (∀b o,s.heap.get? b=some o->h'.get? b=some o)->Q (.ref s.heap.objs.size) {s with heap:=h',toks:=tk}):
  wpAny (model prog w) A (call (.type "set") [.ref l]) Q E s:=by
 obtain⟨c,tl,OD⟩:=F.called_set.mro;have MX:=F.called_set.made;have wW:=F.called_set.sub;refine wpAny_call (codeAny_of_tree ?_);show wpAny _ _ (callAny (.type "set") _) _ _ _;refine Qo ⟨Code.quiet_builtin _ (by decide +kernel),codeAny_builtin F.entry_type_call ?_⟩;rw[Around.under_plain (weight_type_call_type "set" [.ref l] []) rfl];have h1:=F.called_set.notType;have h2:=F.called_set.canCreate;have Kr:=F.typeCall_set_1 (.ref l)
 repeat (any_goals (first|assumption|wp_step))
 refine codeAny_mono (code_set_new (.ref l) (E:=E) (Q₁:=λobj s₁=>obj= .ref s.heap.objs.size/\s₁={s with heap:=s.heap.push (cN w)}) ⟨rfl,rfl⟩) λr s₁ hr=>?_
 cases r with
 |error e=>exact hr
 |ok fl=>
  cases fl with
  |ret obj=>
   obtain⟨rfl,rfl⟩:=hr;have hT:Shared.TypeIs {s with heap:=s.heap.push (cN w)} (.ref s.heap.objs.size) "set":=⟨_,Qw _ rfl,rfl⟩;have P7:=F.called_set.init.lookup;have MK:=F.called_set.init.bind (.ref s.heap.objs.size)
   repeat (any_goals (first|assumption|wp_step))
   refine codeAny_mono (codeAny_call_builtin (R:=wants (λr s₂=>r= .none/\∃h' tk ks,s₂={s with heap:=h',toks:=tk}/\cR prog w h' s.heap.objs.size ks/\(∀y,y∈ks↔y∈xs)/\
     (∀b o,s.heap.get? b=some o->h'.get? b=some o)) E) F.called_set.init.plain F.entry_set_init (check_set_init_1 hT ?_)) λr₂ s₂ hr₂=>?_
   ·have P6:=hl;obtain⟨ob,OJ⟩:=ym hl;have MU:l<s.heap.objs.size:=Qy OJ;have MP:A.in1.in1.in1.handled=none:=by simp[hh]
    have hz:(s.heap.push (cN w)).objs.size=s.heap.objs.size+1:=QS ..;have Gn:l≠(s.heap.push (cN w)).objs.size:=by rw[hz];exact QT (Sh MU)
    have FV:s.heap.objs.size∉[(s.heap.push (cN w)).objs.size,l]:=by rw[hz];simp only[QA,QW,QB,SM,not_or];exact⟨QT (Si _),Sk MU⟩
    have hlen:xs.length=items.size:=by have:=hi.length;rw[Qx,QI]at this;exact this
    have zY:∀(i:Nat)(v:Value),items[i]?=some v->∃x t,xs[i]?=some x/\v= .str x t:=λi v hv=>by
     rw[<-Array.getElem?_toList]at hv;cases hx:xs[i]? with
     |none=>
      have e1:=List.getElem?_eq_none_iff.mp hx;have e2:=(Qs.mp hv).1;rw[QI]at e2
      lia
     |some x=>obtain⟨u,hu,t,ru⟩:=hi.get (i:=i) (x:=.str x) (by rw[QH,hx];rfl);rw[hu]at hv;cases hv;exact⟨x,t,rfl,ru⟩
    have fin:∀(o:Obj)(s':Shared)(dq:List Str),Moved [s.heap.objs.size,(s.heap.push (cN w)).objs.size] (λa b=>b=a) {s with heap:=(s.heap.push (cN w)).push o} s'->cR prog w s'.heap s.heap.objs.size dq->(∀y,y∈dq↔y∈xs)->
      ∃h' tk ks,s'={s with heap:=h',toks:=tk}/\cR prog w h' s.heap.objs.size ks/\(∀y,y∈ks↔y∈xs)/\(∀b o,s.heap.get? b=some o->h'.get? b=some o):=by
     intro o s' dq hm wH zS;obtain⟨h',g',d',Mb,G9⟩:=s';have eg:g'=s.gens:=hm.gens;have ed:d'=s.drawn:=hm.drawn;have eo:G9=s.os:=hm.os;subst eg;subst ed;subst eo;refine⟨h',Mb,dq,rfl,wH,zS,λb o' e=>?_⟩;have hb:=Qy e;have wI:b≠s.heap.objs.size:=QT hb;have Bw:b≠(s.heap.push (cN w)).objs.size:=by rw[hz];exact QT (Sh hb)
     exact hm.heap b o' (by simp only[QA,QW,QB,SM,not_or];exact⟨wI,Bw⟩) (Qn _ (Qn _ e))
    cases b with
    |false=>
     obtain⟨ol,C2,qw,nl,vi⟩:=hl;obtain⟨Li,xy,GZ,qR⟩:=ol;simp only at qw vi;subst qw;subst vi;have C3:(s.heap.push (cN w)).get? l=some {cls:=.type "list",dict:=xy,data:=.seq items nl,slots:=qR}:=Qn _ C2;have KH:=F.sub_list_set;have KG:=F.sub_list_frozenset;have nr:(Value.type "list"==Value.type "dict")=false:=by decide
     have g6:(s.heap.push (cN w)).IsList l items:=⟨_,C3,rfl,nl,rfl⟩;unfold Builtin.«set.__init__» noKeywords Builtin.Frozenset.updateFrom;generalize hPI:pyIter=PI
     wp_walk
     subst hPI;refine S6 g6 ?_;refine Ql (wpAny_runValue ?_);refine tS ((Walks.list MP _ l Gn items).toS) s.heap.objs.size FV xs hlen zY hb (items.size-0) 0 _ [] ⋯ (Sm _)
      ⟨⟨_,Qw _ rfl,rfl,rfl⟩,(g6.push _)⟩ (yF.at λo e=>Qn _ e) (by simp) (Qu _) λs' dq hm wH zS=>?_
     show wpAny _ _ _ _ _ _;refine Qo ?_;show wpAny _ _ (ret Value.none) _ _ _;exact Qo ⟨rfl,fin _ s' dq hm wH zS⟩
    |true=>
     obtain⟨ol,C2,qw,nl,vi⟩:=hl;obtain⟨Li,xy,GZ,qR⟩:=ol;simp only at qw vi;subst qw;subst vi;have C3:(s.heap.push (cN w)).get? l=some {cls:=.type "tuple",dict:=xy,data:=.seq items nl,slots:=qR}:=Qn _ C2;have KH:=F.sub_tuple_set;have KG:=F.sub_tuple_frozenset;have nr:(Value.type "tuple"==Value.type "dict")=false:=by decide
     have g6:(s.heap.push (cN w)).IsTuple l items:=⟨_,C3,rfl,nl,rfl⟩;unfold Builtin.«set.__init__» noKeywords Builtin.Frozenset.updateFrom;generalize hPI:pyIter=PI
     wp_walk
     subst hPI;refine S7 g6 ?_;refine Ql (wpAny_runValue ?_);refine tS ((Walks.tuple MP _ l Gn items).toS) s.heap.objs.size FV xs hlen zY hb (items.size-0) 0 _ [] ⋯ (Sm _)
      ⟨⟨_,Qw _ rfl,rfl,rfl⟩,(g6.push _)⟩ (yF.at λo e=>Qn _ e) (by simp) (Qu _) λs' dq hm wH zS=>?_
     show wpAny _ _ _ _ _ _;refine Qo ?_;show wpAny _ _ (ret Value.none) _ _ _;exact Qo ⟨rfl,fin _ s' dq hm wH zS⟩
   ·cases r₂ with
    |error e=>exact hr₂
    |ok fl₂=>
     cases fl₂ with
     |ret r=>
      obtain⟨rfl,h',tk,ks,rfl,wH,zS,EY⟩:=hr₂
      repeat (any_goals (first|assumption|wp_step))
      exact h _ _ _ wH zS EY
     |_=>exact hr₂.elim
  |_=>exact hr.elim
end
namespace F
theorem dF:Manifest.owners.lookup (String.ofList ['r','o','t','a','r','e','t','i','_','t','e','s'].reverse)=some Manifest.sig_set_iterator:=by kernel_rfl
theorem ay:Slot "set_iterator" "__next__" "set_iterator.__next__":=
 .of (owner:="set_iterator") (n:="__next__") (by rw[typeLookup_type,builtinLookup_eq_fast];kernel_rfl) (by decide +kernel) (by decide +kernel) (by decide +kernel)
  (by first|exact .inl (by decide +kernel)|exact .inr (by decide +kernel)) (by rw[isSubtype_type];kernel_rfl)
theorem cz:entryFor table "set_iterator.__next__"=some Builtin.«set_iterator.__next__»:=entryFor_of_tree (by kernel_rfl)
theorem bZ(a:Value):argsOk "set_iterator.__next__" ⟨[a],[]⟩:=by unfold argsOk;rw[signature?_of (id:="set_iterator.__next__") (n:=['_','_','t','x','e','n','_','_']) (o:=['r','o','t','a','r','e','t','i','_','t','e','s']) (by kernel_rfl) dF];kernel_rfl
theorem cO:Slot "set_iterator" "__iter__" "set_iterator.__iter__":=
 .of (owner:="set_iterator") (n:="__iter__") (by rw[typeLookup_type,builtinLookup_eq_fast];kernel_rfl) (by decide +kernel) (by decide +kernel) (by decide +kernel)
  (by first|exact .inl (by decide +kernel)|exact .inr (by decide +kernel)) (by rw[isSubtype_type];kernel_rfl)
theorem d4:entryFor table "set_iterator.__iter__"=some Builtin.«dict_keyiterator.__iter__»:=
 entryFor_alias (id':="dict_keyiterator.__iter__") (by kernel_rfl) (by first|rfl|decide +kernel|(unfold String.splitOn;simp +decide [String.splitOnAux])) (by decide +kernel) (by kernel_rfl)
theorem dN(a:Value):argsOk "set_iterator.__iter__" ⟨[a],[]⟩:=by unfold argsOk;rw[signature?_of (id:="set_iterator.__iter__") (n:=['_','_','r','e','t','i','_','_']) (o:=['r','o','t','a','r','e','t','i','_','t','e','s']) (by kernel_rfl) dF];kernel_rfl
theorem j5:entryFor table "set.__iter__"=some Builtin.«frozenset.__iter__»:=
 entryFor_alias (id':="frozenset.__iter__") (by kernel_rfl) (by first|rfl|decide +kernel|(unfold String.splitOn;simp +decide [String.splitOnAux])) (by decide +kernel) (by kernel_rfl)
end F
noncomputable abbrev zi(h:Heap)(I:Addr)(f:Value)(i:Nat)(S:Addr)(n ep:Nat):Prop:=
 h.get? I=some {cls:=.type "set_iterator",dict:=none,data:=.fields #[f,rawInt i,.ref S,rawInt n,rawInt ep],slots:=#[]}
noncomputable abbrev vp(h:Heap)(S:Addr)(es:Array (Int×Value))(ep:Nat)(t:SetTable):Prop:=h.get? S=some {cls:=.type "set",dict:=none,data:=.set es ep t,slots:=#[]}
noncomputable def Fk(w:World)(h:Heap)(f:Value)(i:Nat)(S:Addr)(es:Array (Int×Value))(ep:Nat)(t:SetTable)(vs:List Value)(T:Addr):Prop:=
 (vI w=true/\f=rawInt 0/\vs=(pickOrder (w.params.setOrder S ep) es).toList.map (·.2))\/
 (vI w=false/\t.led=true/\es.size<=1/\vs=es.toList.map (·.2)/\∃slot:Nat,f=rawInt slot/\(i=0->slot=0)/\(i=1->slot=t.place.getD 0 0+1))\/
 (vI w=false/\1<es.size/\f= .ref T/\∃π:List Nat,h.get? T=some {cls:=.type "tuple",dict:=none,data:=.seq (π.map λi=>rawInt (i:Nat)).toArray 0,slots:=#[]}/\π.length=es.size/\(∀j∈π,j<es.size)/\vs=π.map λj=>(es.getD j (0,.none)).2)
noncomputable def yV(w:World)(I S:Addr)(es:Array (Int×Value))(ep:Nat)(t:SetTable)(vs:List Value)(T:Addr)(i:Nat)(h:Heap):Prop:=
 vp h S es ep t/\t.fits es.size=true/\vs.length=es.size/\∃f,zi h I f i S es.size ep/\Fk w h f i S es ep t vs T
section
variable{prog:Program}{w:World}{A:Around}{E:Value->Shared->Prop}{s:Shared}
theorem fk{S:Addr}{es:Array (Int×Value)}{ep:Nat}{t:SetTable}(ho:vp s.heap S es ep t)(hf:t.fits es.size=true)(hb:vI w=true){Q:Array (Int×Value)->Shared->Prop}
  (h:Q (pickOrder (w.params.setOrder S ep) es) s):wpAny (model prog w) A (setWalk S) Q E s:=by
 unfold setWalk;refine Ql (wpAny_setState_of ho rfl hf ?_);dsimp only;refine Ql (du ?_);rw[hb,SH rfl];exact Ql (wpAny_askSetting (Qo h))
theorem lD(a:Nat)(j:Nat):SetTable.below #[a] j=if a<j then 1 else 0:=by unfold SetTable.below;show SetTable.below.go #[a] j 1 0 1=_;unfold SetTable.below.go;simp only[Nat.zero_lt_one,SI];show (if (#[a]:Array Nat).getD 0 j<j then SetTable.below.go #[a] j 0 1 1 else SetTable.below.go #[a] j 0 0 0)=_;rfl
theorem yq{I S T:Addr}{es:Array (Int×Value)}{ep:Nat}{t:SetTable}{vs:List Value}{i:Nat}{x:Value}{Q:Option Value->Shared->Prop}(zL:I≠S)(FS:I≠T)
  (st:yV w I S es ep t vs T i s.heap) (hx:vs[i]?=some x) (hQ:∀h',yV w I S es ep t vs T (i+1) h'->Heap.SameBut I s.heap h'->Q (some x) {s with heap:=h'}):
  wpAny (model prog w) A (pyNext (.ref I)) Q E s:=by
 obtain⟨hS,hf,hl,f,hI,hw⟩:=st;have hT:s.TypeIs (.ref I) "set_iterator":=⟨_,hI,rfl⟩;have hi:i<es.size:=by rw[<-hl];exact(Qs.mp hx).1
 unfold pyNext;refine Ql (wpAny_attempt (SU (name:=Str.ofString "__next__") hT F.ay
  (SV F.ay hT F.cz ?_ (F.bZ _))))
 show wpAny _ _ (fieldsOf (.ref I) >>=_) _ _ s;refine Ql (wpAny_fieldsOf hI rfl ?_);show wpAny _ _ (setEntries S >>=_) _ _ s;refine Ql (wpAny_setEntries_of hS rfl hf ?_);show wpAny _ _ (if (((es.size:Int) != (es.size:Int))=true) then _ else _) _ _ s;rw[SF (by simp)];refine Ql (Qo ?_);rcases hw with ⟨b1,b2,b3⟩|⟨b1,b2,b3,b4,slot,b5,b6,b7⟩|⟨b1,b2,b3,π,b4,b5,b6,b7⟩
 ·subst b2;show wpAny _ _ (setNext S (0:Int).toNat ((i:Nat):Int).toNat ((ep:Nat):Int).toNat >>=_) _ _ s;simp only[Ru];refine Ql ?_;unfold setNext;refine Ql (wpAny_setState_of hS rfl hf ?_);dsimp only;refine Ql (du ?_);rw[b1,SH rfl];rw[SF (by simp)];refine Ql (fk hS hf b1 (Qo ?_));rw[b3,QH]at hx;obtain⟨e,he,rfl⟩:=QD.mp hx;rw[Array.getElem?_toList]at he;rw[he];show wpAny _ _ (setField (.ref I) 0 (rawInt _) >>=_) _ _ s;refine Ql (QV hI (by simp) λh1 i1 e1=>?_);refine Ql (QV i1 (by simp) λh2 i2 e2=>?_);refine Qo ⟨_,rfl,Qo (hQ h2 ⟨?_,hf,hl,rawInt 0,i2,.inl ⟨b1,rfl,b3⟩⟩ (e1.trans e2))⟩;exact e2.extBut _ _ zL.symm (e1.extBut _ _ zL.symm hS)
 ·subst b5;have Oq:i=0:=⋯
  subst Oq;have OP:=b6 rfl;subst OP;have h1:es.size=1:=⋯
  have f9:t.place.size=1:=by
   unfold SetTable.fits at hf;rw[Qp,beq_iff_eq]at hf
   lia
  obtain⟨pl,eL⟩:∃pl,t.place=#[pl]:=by
   cases ht:t.place with
   |mk l=>
    rw[ht]at f9
    match l,f9 with
    |[a],_=>exact⟨a,rfl⟩
  obtain⟨e,he⟩:∃e,es=#[e]:=by
   obtain⟨l⟩:=es
   match l,h1 with
   |[a],_=>exact⟨a,rfl⟩
  show wpAny _ _ (setNext S ((0:Nat):Int).toNat ((0:Nat):Int).toNat ((ep:Nat):Int).toNat >>=_) _ _ s;simp only[Ru];refine Ql ?_;unfold setNext;refine Ql (wpAny_setState_of hS rfl hf ?_);dsimp only;refine Ql (du ?_);rw[b1,SF (by simp)];show wpAny _ _ (if (!t.plain&&decide (es.size>1))=true then _ else _) _ _ s;rw[SF (by rw[h1];simp)];show wpAny _ _ ((if (!t.led&& !es.isEmpty)=true then _ else _) >>=_) _ _ s;rw[SF (by rw[b2];simp)];refine Ql (Qo ?_);have Ko:SetTable.below t.place 0=0:=by rw[eL,lD];simp
  rw[Ko];have Oh:es[0]?=some e:=by rw[he];rfl
  have IT:t.place[0]?=some pl:=by rw[eL];rfl
  rw[Oh,IT];refine Qo ?_;have n9:e.2=x:=by rw[b4,he]at hx;simpa using hx
  show wpAny _ _ (setField (.ref I) 0 (rawInt _) >>=_) _ _ s;refine Ql (QV hI (by simp) λh1 i1 e1=>?_);refine Ql (QV i1 (by simp) λh2 i2 e2=>?_);rw[<-n9]at hQ;refine Qo ⟨_,rfl,Qo (hQ h2 ⟨?_,hf,hl,rawInt (pl+1:Nat),i2,.inr (.inl ⟨b1,b2,b3,b4,pl+1,rfl,λz=>by lia,λ_=>by rw[eL];rfl⟩)⟩ (e1.trans e2))⟩;exact e2.extBut _ _ zL.symm (e1.extBut _ _ zL.symm hS)
 ·subst b3;rw[b7,QH]at hx;obtain⟨j,hj,rfl⟩:=QD.mp hx;have MQ:=b6 j (R1 hj);show wpAny _ _ (seqItems? (.ref T) >>=_) _ _ s;refine Ql (S9 b4 rfl ?_);have Gq:(π.map λi=>rawInt ((i:Nat):Int)).toArray[((i:Nat):Int).toNat]?=some (rawInt ((j:Nat):Int)):=by simp[hj]
  dsimp only;rw[Gq];show wpAny _ _ (setNextDrawn S ((j:Nat):Int).toNat ((ep:Nat):Int).toNat >>=_) _ _ s;simp only[Ru];refine Ql ?_;unfold setNextDrawn;refine Ql (wpAny_setState_of hS rfl hf ?_);dsimp only;rw[SF (by simp)];have Oi:es[j]?=some es[j]:=by simp[MQ]
  rw[Oi];refine Qo ?_;refine Ql (QV hI (by simp) λh1 i1 e1=>?_);have hd:(es.getD j (0,.none)).2=es[j].2:=by simp[Array.getD,MQ]
  rw[hd]at hQ;refine Qo ⟨_,rfl,Qo (hQ h1 ⟨e1.extBut _ _ zL.symm hS,hf,hl,.ref T,i1,.inr (.inr ⟨b1,b2,rfl,π,e1.extBut _ _ FS.symm b4,b5,b6,b7⟩)⟩ e1)⟩
theorem AQ{I S T:Addr}{es:Array (Int×Value)}{ep:Nat}{t:SetTable}{vs:List Value}{Q:Option Value->Shared->Prop}(hh:A.handled=none)
  (st:yV w I S es ep t vs T vs.length s.heap) (hQ:∀h',Heap.ExtBut I s.heap h'->Q none {s with heap:=h'}):
  wpAny (model prog w) A (pyNext (.ref I)) Q E s:=by
 obtain⟨hS,hf,hl,f,hI,hw⟩:=st;have hT:s.TypeIs (.ref I) "set_iterator":=⟨_,hI,rfl⟩;have stop:∀(h1:Heap){E':Value->Shared->Prop}{Q':PySem.Fin->Shared->Prop},Heap.ExtBut I s.heap h1->(∀e h',Heap.ExtBut I s.heap h'->(∃o,h'.get? e=some o/\o.cls= .type "StopIteration")->E' (.ref e) {s with heap:=h'})->
   wpAny (model prog w) A.in1 (newExc (.type "StopIteration") [] >>=λe=>raiseNew e) Q' E' {s with heap:=h1}:=by
  intro h1 E' Q' e1 hE';refine Ql ?_;simp only[newExc,newTuple];refine Ql (SZ ?_ (by size_fits));refine Ql (m:=firstArgMember _ _) (wpAny_of_eq (a:=Value.none) (by first|rfl|(simp only[firstArgMember];rfl)) ?_);refine SZ ?_ (by size_fits);simp only[raiseNew];refine Ql (wpAny_handled ?_)
  first|rw[show A.in1.handled=none from hh]|rw[hh]
  refine Ql (Qo (wpAny_throw ?_));exact hE' _ _ ((e1.push _).push _) ⟨_,Qw _ rfl,rfl⟩
 have fin:∀e h',Heap.ExtBut I s.heap h'->(∃o,h'.get? e=some o/\o.cls= .type "StopIteration")->wpAny (model prog w) A (do let __do_lift<-isInstance (.ref e) (Value.type "StopIteration");if __do_lift=true then pure none else throw (.ref e)) Q E {s with heap:=h'}:=by rintro e h' hk ⟨o,ho,hc⟩;refine Ql (wpAny_isInstance (T:="StopIteration") (b:=true) ⟨o,ho,hc⟩ isSubtype_stop ?_);exact Qo (hQ _ hk)
 unfold pyNext;refine Ql (wpAny_attempt (SU (name:=Str.ofString "__next__") hT F.ay
  (SV F.ay hT F.cz ?_ (F.bZ _))))
 show wpAny _ _ (fieldsOf (.ref I) >>=_) _ _ s;refine Ql (wpAny_fieldsOf hI rfl ?_);show wpAny _ _ (setEntries S >>=_) _ _ s;refine Ql (wpAny_setEntries_of hS rfl hf ?_);show wpAny _ _ (if (((es.size:Int) != (es.size:Int))=true) then _ else _) _ _ s;rw[SF (by simp)];refine Ql (Qo ?_);rcases hw with ⟨b1,b2,b3⟩|⟨b1,b2,b3,b4,slot,b5,b6,b7⟩|⟨b1,b2,b3,π,b4,b5,b6,b7⟩
 ·subst b2;show wpAny _ _ (setNext S (0:Int).toNat ((vs.length:Nat):Int).toNat ((ep:Nat):Int).toNat >>=_) _ _ s;simp only[Ru];refine Ql ?_;unfold setNext;refine Ql (wpAny_setState_of hS rfl hf ?_);dsimp only;refine Ql (du ?_);rw[b1,SH rfl];rw[SF (by simp)];refine Ql (fk hS hf b1 (Qo ?_));have hn:(pickOrder (w.params.setOrder S ep) es)[vs.length]?=none:=by rw[b3,Qx,QI];simp
  rw[hn];show wpAny _ _ (setField (.ref I) 2 Value.none >>=_) _ _ s;exact Ql (QV hI (by simp) λh1 i1 e1=>stop h1 e1.extBut fin)
 ·subst b5;have Ko:es[SetTable.below t.place slot]?=none:=by
   by_cases h0:es.size=0
   ·simp[h0]
   ·have h1:es.size=1:=⋯
    have f9:t.place.size=1:=by
     unfold SetTable.fits at hf;rw[Qp,beq_iff_eq]at hf
     lia
    obtain⟨pl,eL⟩:∃pl,t.place=#[pl]:=by
     cases ht:t.place with
     |mk l=>
      rw[ht]at f9
      match l,f9 with
      |[a],_=>exact⟨a,rfl⟩
    have:=b7 ⋯;rw[eL]at this;have wV:slot=pl+1:=this;rw[eL,lD,SH ⋯];simp[h1]
  show wpAny _ _ (setNext S ((slot:Nat):Int).toNat ((vs.length:Nat):Int).toNat ((ep:Nat):Int).toNat >>=_) _ _ s;simp only[Ru];refine Ql ?_;unfold setNext;refine Ql (wpAny_setState_of hS rfl hf ?_);dsimp only;refine Ql (du ?_);rw[b1,SF (by simp)];show wpAny _ _ (if (!t.plain&&decide (es.size>1))=true then _ else _) _ _ s;rw[SF (by rw[QN ⋯];simp)];show wpAny _ _ ((if (!t.led&& !es.isEmpty)=true then _ else _) >>=_) _ _ s;rw[SF (by rw[b2];simp)];refine Ql (Qo ?_);rw[Ko];refine Qo ?_;show wpAny _ _ (setField (.ref I) 2 Value.none >>=_) _ _ s;exact Ql (QV hI (by simp) λh1 i1 e1=>stop h1 e1.extBut fin)
 ·subst b3;show wpAny _ _ (seqItems? (.ref T) >>=_) _ _ s;refine Ql (S9 b4 rfl ?_);have Gq:(π.map λi=>rawInt ((i:Nat):Int)).toArray[((vs.length:Nat):Int).toNat]?=none:=by rw[Ru,b7];simp
  dsimp only;rw[Gq];show wpAny _ _ (setField (.ref I) 0 (rawInt 0) >>=_) _ _ s;refine Ql (QV hI (by simp) λh1 i1 e1=>?_);exact Ql (QV i1 (by simp) λh2 i2 e2=>stop h2 (e1.trans e2).extBut fin)
theorem yt{I S T:Addr}{es:Array (Int×Value)}{ep:Nat}{t:SetTable}{vs:List Value}{i:Nat}{Q:Value->Shared->Prop}(st:yV w I S es ep t vs T i s.heap)(h:Q (.ref I) s):
  wpAny (model prog w) A (pyIter (.ref I)) Q E s:=by
 obtain⟨hS,hf,hl,f,hI,hw⟩:=st;have hT:s.TypeIs (.ref I) "set_iterator":=⟨_,hI,rfl⟩;refine wpAny_pyIter_slot hT F.cO (SV F.cO hT F.d4 ?_ (F.dN _));show wpAny _ _ (ret (.ref I)) _ _ s;exact Qo ⟨_,rfl,"set_iterator",_,hT,F.ay.lookup,h⟩
theorem yV.keep{I S T:Addr}{es:Array (Int×Value)}{ep:Nat}{t:SetTable}{vs:List Value}{i:Nat}{h h':Heap}(st:yV w I S es ep t vs T i h)(hk:∀b∈[I,S,T],∀o,h.get? b=some o->h'.get? b=some o):yV w I S es ep t vs T i h':=by
 obtain⟨hS,hf,hl,f,hI,hw⟩:=st;refine⟨hk S (by simp) _ hS,hf,hl,f,hk I (by simp) _ hI,?_⟩;rcases hw with b|b|⟨b1,b2,b3,π,b4,b5⟩
 ·exact .inl b
 ·exact .inr (.inl b)
 ·exact .inr (.inr ⟨b1,b2,b3,π,hk T (by simp) _ b4,b5⟩)
theorem u7(hh:A.handled=none)(I S T:Addr)(zL:I≠S)(FS:I≠T)(es:Array (Int×Value))(ep:Nat)(t:SetTable)(vs:List Value):
  Walks prog w A I [I,S,T] [I] vs.length (λi v=>vs[i]?=some v) (yV w I S es ep t vs T) where
 sub:=λb hb=>by simp at hb;simp[hb]
 frame:=λ_ _ _ st hk=>st.keep hk
 item:=λi s Q E hi st hQ=>yq zL FS st (x:=vs[i]) (by simp[hi]) λh' k6 BD=>hQ _ h' s.toks (by simp[hi]) k6 λb o hb e=>BD.extBut b o (λh=>hb (by simp[h])) e
 done:=λs Q E st hQ=>AQ hh st λh' IP=>hQ h' s.toks λb o hb e=>IP b o (λh=>hb (by simp[h])) e
 self:=λ_ _ _ _ st hQ=>yt st hQ
theorem gp{α:Type}:∀{l:List α}{i:Nat}(h:i<l.length),(l[i]::l.eraseIdx i).Perm l
 |a::l,0,h=>Ry _
 |a::l,i+1,h=>by
  have hi:i<l.length:=by simpa using h
  show (l[i]::a::l.eraseIdx i).Perm (a::l);exact(List.Perm.swap _ _ _).trans ((gp hi).cons a)
theorem tB{α:Type}(next:Nat->Nat):∀(fuel k:Nat)(left:List α)(out:Array α),left.length<=fuel->(pickOrder.go next fuel k left out).toList.Perm (out.toList++left)
 |0,k,left,out,h=>by have:left=[]:=List.length_eq_zero_iff.mp ⋯;subst this;unfold pickOrder.go;simp
 |fuel+1,k,left,out,h=>by
  unfold pickOrder.go;cases left with
  |nil=>simp
  |cons a r=>have cU:next k % (a::r).length<(a::r).length:=Nat.mod_lt _ (by simp);rw[QM cU];dsimp only;refine(tB next fuel (k+1) _ _ (by rw[List.length_eraseIdx_of_lt cU];simp at h ⊢;lia)).trans ?_;rw[Array.toList_push,QC];refine List.Perm.append_left _ ?_;exact gp cU
theorem md{α:Type}(next:Nat->Nat)(xs:Array α):(pickOrder next xs).toList.Perm xs.toList:=by unfold pickOrder;simpa using tB next xs.size 0 xs.toList #[] (by simp)
theorem iI{α:Type}:∀(n:Nat)(xs:List α){s:Shared}{Q:List α->Shared->Prop},xs.length<=n->(∀ys d,ys.Perm xs->Q ys {s with drawn:=d})->wpAny (model prog w) A (drawOrder n xs) Q E s
 |0,xs,s,Q,hn,h=>by have:xs=[]:=List.length_eq_zero_iff.mp ⋯;subst this;unfold drawOrder;exact Qo (h [] s.drawn (Ry _))
 |n+1,[],s,Q,hn,h=>by unfold drawOrder;exact Qo (h [] s.drawn (Ry _))
 |n+1,x::xs,s,Q,hn,h=>by unfold drawOrder;refine Ql (nX (by simp) λi d hi=>?_);rw[QM hi];dsimp only;refine Ql (iI n _ (by rw[List.length_eraseIdx_of_lt hi];simp at hn ⊢;lia) λys d' hp=>Qo ?_);exact h _ d' ((hp.cons _).trans (gp hi))
end
end Mx
end
section
namespace MxTim
open PySem PySem.W PyProof.Rows
noncomputable def NJ:Bool->Keyed->Array Keyed->Nat->Nat->Nat->StateT SortSt Sem (Option Nat):=sortPriv% PySem.Builtin.gallop
section
variable{O:KeyOrd}{ky:Keyed->O.α}
noncomputable def le(O:KeyOrd)(ky:Keyed->O.α)(x y:Keyed):Prop:=O.kle (ky x) (ky y)
end
noncomputable abbrev SS:=Option (Array Keyed)×Array Keyed×Nat×Nat×Nat×Nat
noncomputable def Nh(x y o:Array Keyed)(i j:Nat):Array Keyed:=o++x.extract i x.size++y.extract j y.size
noncomputable def LB(x y o:Array Keyed)(i j:Nat):Array Keyed:=o++y.extract j y.size++x.extract i x.size
noncomputable def LK(x y:Array Keyed)(mg:Nat)(r:SS):StateT SortSt Sem (ForInStep SS):=do
 let e<-elem' y r.2.2.2.1
 let f<-elem' x r.2.2.1
 let c<-lt' e f
 match c with
 |some yw=>
  if yw=true then do
   let e<-elem' y r.2.2.2.1
   if (r.2.2.2.1+1==y.size)=true then pure (.done (some (Nh x y (r.2.1.push e) r.2.2.1 (r.2.2.2.1+1)),r.2.1.push e,r.2.2.1,r.2.2.2.1+1,0,r.2.2.2.2.2+1))
   else if r.2.2.2.2.2+1>=mg then pure (.done (none,r.2.1.push e,r.2.2.1,r.2.2.2.1+1,0,r.2.2.2.2.2+1))
   else pure (.yield (none,r.2.1.push e,r.2.2.1,r.2.2.2.1+1,0,r.2.2.2.2.2+1))
  else do
   let f<-elem' x r.2.2.1
   if (r.2.2.1+1+1==x.size)=true then pure (.done (some (LB x y (r.2.1.push f) (r.2.2.1+1) r.2.2.2.1),r.2.1.push f,r.2.2.1+1,r.2.2.2.1,r.2.2.2.2.1+1,0))
   else if r.2.2.2.2.1+1>=mg then pure (.done (none,r.2.1.push f,r.2.2.1+1,r.2.2.2.1,r.2.2.2.2.1+1,0))
   else pure (.yield (none,r.2.1.push f,r.2.2.1+1,r.2.2.2.1,r.2.2.2.2.1+1,0))
 |_=>pure (.done (some (Nh x y r.2.1 r.2.2.1 r.2.2.2.1),r.2.1,r.2.2.1,r.2.2.2.1,r.2.2.2.2.1,r.2.2.2.2.2))
noncomputable abbrev GH:=Option (Array Keyed)×Nat×Nat×Array Keyed×Nat×Nat×Nat
noncomputable def CK(x y o:Array Keyed)(i j:Nat):Array Keyed:=x.extract 0 i++y.extract 0 j++o.reverse
noncomputable def FF(x y o:Array Keyed)(i j:Nat):Array Keyed:=y.extract 0 j++x.extract 0 i++o.reverse
noncomputable def MS(x y o:Array Keyed)(i j mg ca cb:Nat):StateT SortSt Sem (ForInStep GH):=do
 let e<-elem' x (i-1)
 if (i-1==0)=true then pure (.done (some (CK x y (o.push e) (i-1) j),i-1,j,o.push e,mg,ca,cb))
 else if (decide (ca<7)&&decide (cb<7))=true then pure (.done (none,i-1,j,o.push e,mg,ca,cb))
 else pure (.yield (none,i-1,j,o.push e,mg,ca,cb))
noncomputable def iM(x y o:Array Keyed)(i j mg ca Mo:Nat):StateT SortSt Sem (ForInStep GH):=do
 let e<-elem' y (j-1)
 if (j-1==1)=true then pure (.done (some (FF x y (o.push e) i (j-1)),i,j-1,o.push e,mg,ca,Mo))
 else do
  let f<-elem' x (i-1)
  let r<-NJ true f y 0 (j-1) (j-1-1)
  match r with
  |some k=>
   if j-1-k>0 then
    if (k==1)=true then pure (.done (some (FF x y (o.push e++(y.extract k (j-1)).reverse) i k),i,k,o.push e++(y.extract k (j-1)).reverse,mg,ca,j-1-k))
    else if (k==0)=true then pure (.done (some (CK x y (o.push e++(y.extract k (j-1)).reverse) i k),i,k,o.push e++(y.extract k (j-1)).reverse,mg,ca,j-1-k))
    else MS x y (o.push e++(y.extract k (j-1)).reverse) i k mg ca (j-1-k)
   else MS x y (o.push e) i (j-1) mg ca (j-1-k)
  |_=>pure (.done (some (CK x y (o.push e) i (j-1)),i,j-1,o.push e,mg,ca,Mo))
noncomputable def back(M:Array Keyed)(p:Nat)(a:Array Keyed):Array Keyed:=M.toList.zipIdx.foldl (λb(q,j)=>b.setIfInBounds (p+j) q) a
section
variable{O:KeyOrd}{ky:Keyed->O.α}{Mem:Keyed->Prop}
variable{prog:Program}{w:World}{A:Around}{E:Value->Shared->Prop}{κ:SortKind}{s:Shared}
theorem er(n1 n2 pw z:Nat):((#[(0,n1,pw),(n1,n2,z)]:Array (Nat×Nat×Nat)).setIfInBounds 0 (0,n1+n2,pw)).eraseIdxIfInBounds (0+1)=#[(0,n1+n2,pw)]:=by simp[Array.eraseIdxIfInBounds]
end
noncomputable def aL(lo n m:Nat):StateT SortSt Sem AscSt:=
 forIn [n:m] ((none,n):AscSt) λ_ r=>do
  let x<-ltAt' (lo+r.2) (lo+r.2-1)
  match x with
  |some c=>if c=true then pure (.done (none,r.2)) else pure (.yield (none,r.2+1))
  |_=>pure (.done (some none,r.2))
noncomputable def t3(lo n m:Nat):StateT SortSt Sem (Option Nat):=do
 reverseSlice' lo (lo+n)
 let r<-aL lo n m
 match r.1 with
 |some v=>pure v
 |none=>pure (some r.2)
end MxTim
end
section
namespace Mx
open PySem PySem.W PySem.Spec PyProof.Rows L2
theorem kR{ks:List Str}{us Jm:List Value}(r:aq (ks.map V.str) us)(p:Jm.Perm us):∃dq:List Str,dq.Perm ks/\aq (dq.map V.str) Jm:=by
 have e:us=(us.map λv=>((0:Int),v)).map (·.2):=by rw[RU];simp[Function.comp_def]
 have e':Jm=(Jm.map λv=>((0:Int),v)).map (·.2):=by rw[RU];simp[Function.comp_def]
 rw[e]at r;rw[e'];exact i9 (p.map _) r
theorem kg{α:Type}(es:Array α)(d:α):(List.range es.size).map (λj=>es.getD j d)=es.toList:=by
 refine List.ext_getElem (by simp) λi h1 h2=>?_
 simp at h1;simp[Array.getD,h1]
section
variable{prog:Program}{w:World}{A:Around}{E:Value->Shared->Prop}{s:Shared}
theorem A7{S:Addr}{ks:List Str}{Q:Value->Shared->Prop}(hS:cR prog w s.heap S ks)
  (h:∀(h':Heap)(d':_)(I T:Addr)(es:Array (Int×Value))(ep:Nat)(t:SetTable)(vs:List Value)(dq:List Str),yV w I S es ep t vs T 0 h'->I≠S->I≠T->I<h'.objs.size->S<h'.objs.size->T<h'.objs.size->s.heap.objs.size<=I->(T=S\/s.heap.objs.size<=T)->(∀b o,s.heap.get? b=some o->h'.get? b=some o)->dq.Perm ks->aq (dq.map V.str) vs->Q (.ref I) {s with heap:=h',drawn:=d'}):
  wpAny (model prog w) A (pyIter (.ref S)) Q E s:=by
 obtain⟨es,ep,t,ho,jk,hv,By,hb,hf,wM,eL⟩:=hS;have hT:s.TypeIs (.ref S) "set":=⟨_,ho,rfl⟩;have ji:S<s.heap.objs.size:=Qy ho;refine wpAny_pyIter_slot hT PySem.F.slot_set_iter (SV PySem.F.slot_set_iter hT F.j5 ?_ (PySem.F.args_set_iter_1 _));show wpAny _ _ (Builtin.Frozenset.sizeOf S >>=_) _ _ s;refine Ql ?_;unfold Builtin.Frozenset.sizeOf;refine Ql (wpAny_setEntries_of ho rfl hf (Qo ?_));refine Ql ?_;unfold setDrawn;refine Ql (wpAny_setState_of ho rfl hf ?_);dsimp only;refine Ql (du (Qo ?_));show wpAny _ _ (if ((!vI w&&(!t.plain&&decide (es.size>1)))=true) then _ else _) _ _ s;by_cases wI:vI w=true
 ·rw[SF (by rw[wI];simp)];refine Ql (Qo ?_);refine Ql (wpAny_setEpoch_of ho rfl hf ?_);show wpAny _ _ (newFields "set_iterator" [rawInt 0,rawInt 0,.ref S,rawInt es.size,rawInt ep] >>=_) _ _ s;unfold newFields;refine Ql (SZ ?_);refine Qo ⟨_,rfl,"set_iterator",_,⟨_,Qw _ rfl,rfl⟩,F.ay.lookup,?_⟩;obtain⟨dq,p1,p2⟩:=kR hv ((md (w.params.setOrder S ep) es).map (·.2));have hI:zi (s.heap.push {cls:=.type "set_iterator",data:=.fields #[rawInt 0,rawInt (0:Nat),.ref S,rawInt es.size,rawInt ep]}) s.heap.objs.size (rawInt 0) 0 S es.size ep:=Qw _ rfl;refine h _ s.drawn s.heap.objs.size S es ep t ((pickOrder (w.params.setOrder S ep) es).toList.map (·.2)) dq ⟨Qn _ ho,hf,?_,rawInt 0,hI,.inl ⟨wI,rfl,rfl⟩⟩ (Sk ji) (Sk ji) ?_ ?_ ?_ (Qu _) (.inl rfl) (λb o e=>Qn _ e) p1 p2
  ·rw[Qx,(md _ es).length_eq,QI]
  ·rw[QS];exact Si _
  ·rw[QS];exact Sh ji
  ·rw[QS];exact Sh ji
 ·have Bw:vI w=false:=by simpa using wI
  by_cases h1:1<es.size
  ·have IT:=eL ⋯;rw[SH (by rw[Bw,IT,QR h1];rfl)];refine Ql (iI es.size (List.range es.size) (by simp) λπ d hπ=>?_);refine Ql (m:=newTuple _) (wpAny_newTuple ?_ (by
    rw[Qx,hπ.length_eq,RM];exact fits_of_scanBound hb))
   generalize zP:s.heap.push {cls:=.type "tuple",data:=.seq (π.map λ(i:Nat)=>rawInt (i:Int)).toArray}=iL;have k1:∀b o,s.heap.get? b=some o->iL.get? b=some o:=λb o e=>by rw[<-zP];exact Qn _ e
   have z1:iL.objs.size=s.heap.objs.size+1:=by rw[<-zP,QS]
   have t1:iL.get? s.heap.objs.size=some {cls:=.type "tuple",dict:=none,data:=.seq (π.map λ(i:Nat)=>rawInt (i:Int)).toArray 0,slots:=#[]}:=by rw[<-zP];exact Qw _ rfl
   refine Ql (wpAny_setEpoch_of (s:={s with heap:=iL,drawn:=d}) (k1 _ _ ho) rfl hf ?_);show wpAny _ _ (newFields "set_iterator" [.ref s.heap.objs.size,rawInt 0,.ref S,rawInt es.size,rawInt ep] >>=_) _ _ _;unfold newFields;refine Ql (SZ ?_);refine Qo ⟨_,rfl,"set_iterator",_,⟨_,Qw _ rfl,rfl⟩,F.ay.lookup,?_⟩;have hI:zi (iL.push {cls:=.type "set_iterator",data:=.fields #[.ref s.heap.objs.size,rawInt (0:Nat),.ref S,rawInt es.size,rawInt ep]}) iL.objs.size (.ref s.heap.objs.size) 0 S es.size ep:=Qw _ rfl;have pm:(π.map λj=>(es.getD j (0,.none)).2).Perm (es.toList.map (·.2)):=by rw[<-kg es (0,.none),RU];exact hπ.map _
   obtain⟨dq,p1,p2⟩:=kR hv pm;refine h _ d iL.objs.size s.heap.objs.size es ep t (π.map λj=>(es.getD j (0,.none)).2) dq ⟨Qn _ (k1 _ _ ho),hf,?_,.ref s.heap.objs.size,hI,.inr (.inr ⟨Bw,h1,rfl,π,Qn _ t1,?_,λj hj=>?_,rfl⟩)⟩ (λe=>?_) (λe=>?_) ?_ ?_ ?_ ?_ (.inr (Qu _)) (λb o e=>Qn _ (k1 b o e)) p1 p2
   ·rw[Qx,hπ.length_eq,RM]
   ·rw[hπ.length_eq,RM]
   ·exact Q9.mp (hπ.mem_iff.mp hj)
   ·rw[z1]at e;exact Sk (Sh ji) e
   ·rw[z1]at e;exact Nat.succ_ne_self _ e
   ·rw[QS];exact Si _
   ·rw[QS,z1];exact Sh (Sh ji)
   ·rw[QS,z1];exact Sh (Si _)
   ·rw[z1];exact Sf _
  ·rw[SF (by rw[QN h1];simp)];refine Ql (Qo ?_);refine Ql (wpAny_setEpoch_of ho rfl hf ?_);show wpAny _ _ (newFields "set_iterator" [rawInt 0,rawInt 0,.ref S,rawInt es.size,rawInt ep] >>=_) _ _ s;unfold newFields;refine Ql (SZ ?_);refine Qo ⟨_,rfl,"set_iterator",_,⟨_,Qw _ rfl,rfl⟩,F.ay.lookup,?_⟩;have hI:zi (s.heap.push {cls:=.type "set_iterator",data:=.fields #[rawInt 0,rawInt (0:Nat),.ref S,rawInt es.size,rawInt ep]}) s.heap.objs.size (rawInt (0:Nat)) 0 S es.size ep:=Qw _ rfl;refine h _ s.drawn s.heap.objs.size S es ep t (es.toList.map (·.2)) ks ⟨Qn _ ho,hf,?_,rawInt (0:Nat),hI,.inr (.inl ⟨Bw,by rw[wM,Bw];rfl,by lia,rfl,0,rfl,λ_=>rfl,λz=>by lia⟩)⟩ (Sk ji) (Sk ji) ?_ ?_ ?_ (Qu _) (.inl rfl) (λb o e=>Qn _ e) (Ry _) hv
   ·rw[Qx,QI]
   ·rw[QS];exact Si _
   ·rw[QS];exact Sh ji
   ·rw[QS];exact Sh ji
namespace F
theorem Ah:typeLookup (.type "set") "__len__"=pure (some (.builtin "set.__len__")):=by rw[typeLookup_type,builtinLookup_eq_fast];kernel_rfl
end F
theorem rz{S:Addr}{ks:List Str}{Q:List Value->Shared->Prop}(hh:A.handled=none)(hS:cR prog w s.heap S ks)
  (hQ:∀(h':Heap)d' tk(vs:List Value)(dq:List Str),(∀b o,s.heap.get? b=some o->h'.get? b=some o)->dq.Perm ks->aq (dq.map V.str) vs->Q vs {s with heap:=h',drawn:=d',toks:=tk}):wpAny (model prog w) A (collect (.ref S)) Q E s:=by
 obtain⟨o0,OH⟩:∃o,s.heap.get? S=some o:=by obtain⟨es,ep,t,ho,_⟩:=hS;exact⟨_,ho⟩
 have ji:S<s.heap.objs.size:=Qy OH;unfold collect;refine Ql (wpAny_runValue (codeAny_builtin PySem.F.entry_proto_collect ?_));rw[Around.under_plainId PySem.F.plain_proto_collect _];show wpAny _ A.in1 (newList [] >>=λl=>again (.builtin "list.__iadd__" ⟨[l,.ref S],[]⟩)) _ _ s;refine Ql (SZ ?_);refine Qo ⟨plainId_quiet PySem.F.plain_list_iadd _,codeAny_builtin PySem.F.entry_list_iadd ?_⟩;rw[Around.under_plainId PySem.F.plain_list_iadd _];generalize zP:s.heap.push {cls:=.type "list",data:=.seq ([]:List Value).toArray}=h1;have k1:∀b o,s.heap.get? b=some o->h1.get? b=some o:=λb o e=>by rw[<-zP];exact Qn _ e
 have z1:h1.objs.size=s.heap.objs.size+1:=by rw[<-zP,QS]
 have t1:h1.get? s.heap.objs.size=some (seqObj "list" #[] 0):=by rw[<-zP];exact Qw _ rfl
 have Ki:cR prog w h1 S ks:=hS.at λo e=>k1 _ o e
 have IL:∀{h:Heap}{d:_},(∀b o,h1.get? b=some o->h.get? b=some o)->Shared.TypeIs {s with heap:=h,drawn:=d} (.ref S) "set":=λkk=>by obtain⟨es,ep,t,ho,_⟩:=Ki;exact⟨_,kk _ _ ho,rfl⟩
 have IK:s.heap.objs.size≠S:=Sk ji;have OR:Builtin.List.listSameRef (.ref s.heap.objs.size) (.ref S)=false:=by simp[Builtin.List.listSameRef,IK]
 show wpAny _ A.in1 (Builtin.List.listExtendWith (.ref s.heap.objs.size) (.ref S) (.ref s.heap.objs.size)) _ _ _;unfold Builtin.List.listExtendWith;refine Ql (Tc (s:={s with heap:=h1}) (IL (d:=s.drawn) λb o e=>e) ?_);rw[SF (by rw[OR];decide)];refine Ql (A7 (s:={s with heap:=h1}) Ki λh2 d2 I T es ep t vs dq st zL FS MC hS2 hT2 hIn Bu kk p1 p2=>?_);refine Ql (SX ?_);unfold Builtin.List.listLengthHint;refine Ql (wpAny_specialOf (s:={s with heap:=h2,drawn:=d2}) (IL kk) F.Ah ?_)
 (generalize Kv:("set.__len__":String)=id0;(fail_if_success (clear Kv id0));wp_delta;rw[show splitId id0=some ("set","__len__") from by subst Kv;decide +kernel];subst Kv)
 refine Ql (wpAny_isInstance (b:=true) (IL kk) (by rw[isSubtype_type];kernel_rfl) ?_);rw[SF (by simp)];refine Ql (m:=typeOf (.ref S)) (Tc (IL kk) ?_);refine Qo ?_;rw[SH (by decide +kernel)];refine Ql (S8 (Ql ?_));unfold Builtin.List.listTouch;have t2:h2.get? s.heap.objs.size=some (seqObj "list" #[] 0):=kk _ _ t1;refine Ql (listUpdate_at (s:={s with heap:=h2,drawn:=d2}) t2 rfl ?_ (by decide) (by decide));obtain⟨e3,t3⟩:∃e,(h2.update s.heap.objs.size (Obj.mapSeq λx=>x.push .none)).get? s.heap.objs.size=some (seqObj "list" #[.none] e):=⟨_,get?_update_seq t2 λx=>x.push .none⟩;refine listUpdate_at (s:={s with heap:=h2.update s.heap.objs.size (Obj.mapSeq λx=>x.push .none),drawn:=d2}) t3 rfl ?_ (by decide) (by decide);obtain⟨e4,t4⟩:∃e,((h2.update s.heap.objs.size (Obj.mapSeq λx=>x.push .none)).update s.heap.objs.size (Obj.mapSeq λx=>x.pop)).get? s.heap.objs.size=some (seqObj "list" #[] e):=⟨_,get?_update_seq t3 λx=>x.pop⟩;generalize hh4:(h2.update s.heap.objs.size (Obj.mapSeq λx=>x.push .none)).update s.heap.objs.size (Obj.mapSeq λx=>x.pop)=h4 at t4 ⊢;have k4:∀b o,b≠s.heap.objs.size->h2.get? b=some o->h4.get? b=some o:=λb o hb e=>by rw[<-hh4];exact(QQ _ _ (Sn hb)).trans ((QQ _ _ (Sn hb)).trans e)
 have Kh:I≠s.heap.objs.size:=λe=>by rw[e,z1]at hIn;exact Nat.not_succ_le_self _ hIn
 have Km:T≠s.heap.objs.size:=λe=>by
  rcases Bu with q|q
  ·exact IK (e.symm.trans q)
  ·rw[e,z1]at q;exact Nat.not_succ_le_self _ q
 have ME:s.heap.objs.size∉[I,S,T]:=by simp only[QA,QB,SM,not_or];exact⟨Kh.symm,IK,Km.symm⟩
 have HE:yV w I S es ep t vs T 0 h4:=st.keep λb hb o e=>k4 b o (λq=>ME (q▸hb)) e
 have O0:vs.length<=sizeLine:=by
  obtain⟨_,_,hl,_⟩:=st;obtain⟨de,IF,t',oR,_,_,_,sG,_⟩:=Ki;have q:es=de:=by have:=HE.1;have q2:=k4 S _ IK.symm (kk _ _ oR);unfold vp at this;rw[this]at q2;cases q2;rfl
  rw[hl,q];exact fits_of_scanBound sG
 have W:=(u7 (prog:=prog) (w:=w) (A:=A.in1) hh I S T zL FS es ep t vs).toS;refine Qo ⟨plainId_quiet PySem.F.plain_extend_loop _,codeAny_extend_loopS W O0 _ ME _ vs.length 0 _ _ _ rfl (Sm _) HE t4 (ItemsOf.nil _) λs' dM c' hm wH hacc=>?_⟩;show wpAny _ A (load s.heap.objs.size >>=_) _ _ s';refine Ql (wpAny_load wH (Qo ?_));obtain⟨h',g',d',Mb,G9⟩:=s';have eg:g'=s.gens:=hm.gens;have ed:d'=d2:=hm.drawn;have eo:G9=s.os:=hm.os;subst eg;subst ed;subst eo;have FY:dM.toList=vs:=by
  refine List.ext_getElem (by rw[QI];exact hacc.1) λi q1 q2=>?_
  have:vs[i]?=some dM[i]:=hacc.2 i dM[i] (by simp);rw[QM q2]at this;rw[Array.getElem_toList];exact(So this).symm
 show Q dM.toList _;rw[FY];refine hQ h' d' Mb vs dq (λb o e=>?_) p1 p2;have hb:=Qy e;have wI:b≠s.heap.objs.size:=QT hb;have Bw:b≠I:=λq=>by subst q;have:=QJ hb (Qz (by rw[z1];exact Sf _) hIn);exact Sg _ this
 exact hm.heap b o (by simp only[QA,QB,SM,not_or];exact⟨wI,Bw⟩) (k4 b o wI (kk b o (k1 b o e)))
end
end Mx
end
section
namespace Mx
open PySem PySem.W PySem.Spec PyProof.Rows L2 PySem.SeqAt MxSort
inductive SK where
 |tt|ts|ti|s|i
 deriving DecidableEq
noncomputable def SK.ok:SK->D->Prop
 |.tt,d=>∃f r,d= .tup (.tup f::r)
 |.ts,d=>∃f r,d= .tup (.str f::r)
 |.ti,d=>∃f r,d= .tup (.int f::r)
 |.s,d=>∃x,d= .str x
 |.i,d=>∃x,d= .int x
noncomputable def SK.κ:SK->SortKind
 |.tt=>tuples' false
 |.ts=>tuples' true
 |.ti=>tuples' true
 |.s=>oneType'
 |.i=>oneType'
noncomputable def SK.f:SK->String
 |.tt=>"tuple"
 |.ts=>"str"
 |.s=>"str"
 |_=>"int"
section
variable{P:Program}{w:World}{H:Hp}{prog:Program}{s:Shared}{A:Around}
theorem Ae{b:Bool}{n m:Nat}{Q:Bool->Shared->Prop}{v wv:Value}{us vs:List Value}{d e:D}{ds es:List D}(z:Zp A s (v::us) (wv::vs) (d::ds) (e::es))
  (hs:b=true->∀{E:Value->Shared->Prop},wpAny (model prog w) A (oneLt' true v wv) (λr s'=>r=D.lt d e/\s'=s) E s)
  (hlen:ds.length+m=es.length+n) (q:Q (D.dB (d::ds) (e::es)) s):KatLex prog w A b (decide (n<m)) Q ((v::us).zip (wv::vs)) 0 s:=by
 cases z with
 |cons he hl z'=>
  rw[Sa];rw[D.dC]at q;refine kat_cons (he prog w _ _ ?_);by_cases hde:d=e
  ·rw[(D.cJ d e).mpr hde];rw[SH hde]at q;exact kat_yes (Ad z' 1 ⋯ hlen q)
  ·rw[show D.fT d e=false by rw[D.gT];exact QN hde];rw[SF hde]at q;refine kat_no ?_;cases b with
   |false=>rw[show (false&&0==0)=false by rfl];exact kat_one v wv (hl hde prog w _ _ q)
   |true=>rw[show (true&&0==0)=true by rfl];exact SY (hs rfl) (λr s'⟨e1,e2⟩=>by subst e1 e2;exact q) λ_ _ x=>x
theorem nB(hok:dX P w H s.heap){n:Nat}(hu:A.units+n<cLine){b:Bool}{d0 e0:D}{dr er:List D}{x y:V}{u v:Value}(hd:D.dep (.tup (d0::dr))<=n+1)(hl:D.cL (.tup (d0::dr)) (.tup (e0::er)))
  (hs:b=true->(∃p q,d0= .str p/\e0= .str q)\/∃p q,d0= .int p/\e0= .int q) (hx:DV H x (.tup (d0::dr))) (hy:DV H y (.tup (e0::er))) (rx:RelV x u) (ry:RelV y v) {Q:Bool->Shared->Prop} {E:Value->Shared->Prop}
  (q:Q (D.lt (.tup (d0::dr)) (.tup (e0::er))) s):wpAny (model prog w) A (keyLt' (tuples' b) u v) Q E s:=by
 obtain⟨a,xs,q1,e1,e2⟩:=hx.ag;subst q1;cases rx;obtain⟨b',ys,q1,f1,f2⟩:=hy.ag;subst q1;cases ry;obtain⟨its,r1,o,ho,hc,k,vj⟩:=ar hok e1;obtain⟨aG,r2,o2,oS,kW,k2,lj⟩:=ar hok f1;obtain⟨x0,xr,rfl,EV,Mz⟩:=e2.cons_inv;obtain⟨y0,yr,rfl,MA,NO⟩:=f2.cons_inv;cases r1 with
 |cons r10 r1r=>
  cases r2 with
  |cons r20 r2r=>
   rename_i u0 ur v0 vr;have kX:D.bK (d0::dr)<=n:=by unfold D.dep at hd;lia
   have uE:D.d9 (d0::dr) (e0::er):=by unfold D.cL at hl;exact hl
   have zz:Zp A s (u0::ur) (v0::vr) (d0::dr) (e0::er):=yU hok hu (λd e x y u v hd2 iM C9 Da rx2 ry2=>Ai hok n d e x y u v A hd2 hu iM C9 Da rx2 ry2) kX uE e2 f2 (.cons r10 r1r) (.cons r20 r2r);refine kat_lt ho vj oS lj ?_;have l1:(u0::ur).toArray.size=(d0::dr).length:=by rw[Qq,QG,QG,<-r1r.length,Mz.length]
   have l2:(v0::vr).toArray.size=(e0::er).length:=by rw[Qq,QG,QG,<-r2r.length,NO.length]
   have q':Q (D.dB (d0::dr) (e0::er)) s:=by have z:=q;unfold D.lt at z;exact z
   refine Ae zz (λhb=>?_) (by rw[l1,l2];simp only[QG];lia) q';intro E';rcases hs hb with ⟨p,q2,rfl,rfl⟩|⟨p,q2,rfl,rfl⟩
   ·have z1:=EV.str_inv;have z2:=MA.str_inv;subst z1 z2;obtain⟨t,rfl⟩:=r10;obtain⟨t',rfl⟩:=r20;exact oneLt_str ⟨by unfold D.lt;rfl,rfl⟩
   ·have z1:=EV.int_inv;have z2:=MA.int_inv;subst z1 z2;obtain⟨t,rfl⟩:=r10;obtain⟨t',rfl⟩:=r20;exact oneLt_int ⟨by unfold D.lt;rfl,rfl⟩
theorem lY(x y:Value):keyLt' oneType' x y=oneLt' true x y:=rfl
theorem Af(hok:dX P w H s.heap){n:Nat}(hu:A.units+n<cLine)(k:SK){d e:D}{x y:V}{u v:Value}(hd:D.dep d<=n+1)(hl:D.cL d e)(fd:k.ok d)(fe:k.ok e)(hx:DV H x d)(hy:DV H y e)(rx:RelV x u)(ry:RelV y v){Q:Bool->Shared->Prop}{E:Value->Shared->Prop}
  (q:Q (D.lt d e) s):wpAny (model prog w) A (keyLt' k.κ u v) Q E s:=by
 cases k with
 |tt=>obtain⟨f,r,rfl⟩:=fd;obtain⟨f',r',rfl⟩:=fe;exact nB (b:=false) hok hu hd hl (λz=>nomatch z) hx hy rx ry q
 |ts=>obtain⟨f,r,rfl⟩:=fd;obtain⟨f',r',rfl⟩:=fe;exact nB hok hu hd hl (λ_=>.inl ⟨_,_,rfl,rfl⟩) hx hy rx ry q
 |ti=>obtain⟨f,r,rfl⟩:=fd;obtain⟨f',r',rfl⟩:=fe;exact nB hok hu hd hl (λ_=>.inr ⟨_,_,rfl,rfl⟩) hx hy rx ry q
 |s=>obtain⟨f,rfl⟩:=fd;obtain⟨f',rfl⟩:=fe;have z1:=hx.str_inv;have z2:=hy.str_inv;subst z1 z2;obtain⟨t,rfl⟩:=rx;obtain⟨t',rfl⟩:=ry;show wpAny _ _ (keyLt' oneType' _ _) _ _ _;rw[lY];unfold D.lt at q;exact oneLt_str q
 |i=>obtain⟨f,rfl⟩:=fd;obtain⟨f',rfl⟩:=fe;have z1:=hx.int_inv;have z2:=hy.int_inv;subst z1 z2;obtain⟨t,rfl⟩:=rx;obtain⟨t',rfl⟩:=ry;show wpAny _ _ (keyLt' oneType' _ _) _ _ _;rw[lY];unfold D.lt at q;exact oneLt_int q
theorem sU(hok:dX P w H s.heap){k:SK}(hk:k= .tt\/k= .ts\/k= .ti):∀{xs:List V}{us:List Value}{ds:List D},aR H xs ds->aq xs us->(∀d∈ds,k.ok d)->
  ∃fs,KatTups s.heap us fs/\fs.length=us.length/\∀v∈fs,Looks (model prog w) s.heap (typeOf v) (.type k.f)
 |[],us,ds,_,r,_=>by cases r;exact⟨[],KatTups.nil,rfl,λv hv=>absurd hv (by simp)⟩
 |x::xs,us,ds,h,r,hf=>by
  cases r with
  |cons r0 rr=>
   cases ds with
   |nil=>unfold aR at h;exact h.elim
   |cons d ds=>
    unfold aR at h;obtain⟨fs,t,l,lk⟩:=sU hok hk h.2 rr λd hd=>hf d (Qt _ hd)
    have sh:∃d0 dr,d= .tup (d0::dr)/\((k= .ts/\∃p,d0= .str p)\/(k= .ti/\∃p,d0= .int p)\/(k= .tt/\∃p,d0= .tup p)):=by
     have z:=hf d Qv;rcases hk with rfl|rfl|rfl
     ·obtain⟨f,r,rfl⟩:=z;exact⟨_,_,rfl,.inr (.inr ⟨rfl,_,rfl⟩)⟩
     ·obtain⟨f,r,rfl⟩:=z;exact⟨_,_,rfl,.inl ⟨rfl,_,rfl⟩⟩
     ·obtain⟨f,r,rfl⟩:=z;exact⟨_,_,rfl,.inr (.inl ⟨rfl,_,rfl⟩)⟩
    obtain⟨d0,dr,rfl,vh⟩:=sh;obtain⟨a,ys,q1,e1,e2⟩:=h.1.ag;subst q1;cases r0;obtain⟨its,r1,o,ho,hc,kk,vj⟩:=ar hok e1;obtain⟨x0,xr,rfl,EV,Mz⟩:=e2.cons_inv;cases r1 with
    |cons r10 r1r=>
     rename_i u0 ur;refine⟨u0::fs,KatTups.cons ho hc vj (by simp) t,by simp[l],λv hv=>?_⟩;rcases QA.mp hv with rfl|hv
     ·rcases vh with ⟨hb,p,rfl⟩|⟨hb,p,rfl⟩|⟨hb,p,rfl⟩
      ·have z1:=EV.str_inv;subst z1;obtain⟨t',rfl⟩:=r10;rw[hb];exact Looks.of_pure rfl
      ·have z1:=EV.int_inv;subst z1;obtain⟨t',rfl⟩:=r10;rw[hb];exact Looks.of_pure rfl
      ·obtain⟨a2,y2,q2,g1,g2⟩:=EV.ag;subst q2;cases r10;obtain⟨aG,_,o2,oS,kW,_⟩:=ar hok g1;rw[hb];show Looks (model prog w) _ _ (Value.type "tuple");rw[<-kW];exact(Looks.ld oS).andThen .now
     ·exact lk v hv
theorem iE:∀{xs:List V}{us:List Value}{ds:List D},aR H xs ds->aq xs us->(∀d∈ds,SK.s.ok d)->∃ss,StrsAre us ss
 |[],us,ds,_,r,_=>by cases r;exact⟨[],.nil⟩
 |x::xs,us,ds,h,r,hf=>by
  cases r with
  |cons r0 rr=>
   cases ds with
   |nil=>unfold aR at h;exact h.elim
   |cons d ds=>
    unfold aR at h;obtain⟨ss,q⟩:=iE h.2 rr λd hd=>hf d (Qt _ hd)
    obtain⟨y,rfl⟩:=hf d Qv;have z1:=h.1.str_inv;subst z1;obtain⟨t,rfl⟩:=r0;exact⟨y::ss,.cons y t q⟩
theorem sP:∀{xs:List V}{us:List Value}{ds:List D},aR H xs ds->aq xs us->(∀d∈ds,SK.i.ok d)->∃ss,IntsAre us ss
 |[],us,ds,_,r,_=>by cases r;exact⟨[],.nil⟩
 |x::xs,us,ds,h,r,hf=>by
  cases r with
  |cons r0 rr=>
   cases ds with
   |nil=>unfold aR at h;exact h.elim
   |cons d ds=>
    unfold aR at h;obtain⟨ss,q⟩:=sP h.2 rr λd hd=>hf d (Qt _ hd)
    obtain⟨y,rfl⟩:=hf d Qv;have z1:=h.1.int_inv;subst z1;obtain⟨t,rfl⟩:=r0;exact⟨y::ss,.cons y t q⟩
theorem GG(hok:dX P w H s.heap)(k:SK){xs:List V}{us:List Value}{ds:List D}(hd:aR H xs ds)(r:aq xs us)(hf:∀d∈ds,k.ok d)(h2:2<=us.length){Q:SortKind->Shared->Prop}{E:Value->Shared->Prop}(q:Q k.κ s):
  wpAny (model prog w) A (keyKind' us.toArray) Q E s:=by
 have tup:k= .tt\/k= .ts\/k= .ti->wpAny (model prog w) A (keyKind' us.toArray) Q E s:=λhk=>by obtain⟨fs,t,l,lk⟩:=sU (prog:=prog) hok hk hd r hf;refine kat_kind t ⋯ lk (by rcases hk with rfl|rfl|rfl<;>rfl) ?_;rcases hk with rfl|rfl|rfl<;>exact q
 cases k with
 |tt=>exact tup (.inl rfl)
 |ts=>exact tup (.inr (.inl rfl))
 |ti=>exact tup (.inr (.inr rfl))
 |s=>
  obtain⟨ss,hs⟩:=iE hd r hf
  match us,h2,hs with
  |v1::v2::vs,_,hs=>rw[keyKind_strs hs];exact Qo q
 |i=>
  obtain⟨ss,hs⟩:=sP hd r hf
  match us,h2,hs with
  |v1::v2::vs,_,hs=>rw[keyKind_ints hs];exact Qo q
end
noncomputable def jO(ds:List D):Prop:=ds.length<64/\(2<=ds.length->D.bK ds<=100/\(∃k:SK,∀d∈ds,k.ok d)/\∀d∈ds,∀e∈ds,D.cL d e)
section
variable{X:Cx}{pins:List (Addr×Obj)}{σ:L2.St}{H:Hp}
theorem ml{s:Shared}{A:Around}{Q:PySem.Fin->Shared->Prop}{E:Value->Shared->Prop}(hu:A.units+148<cLine)(I:Inv X pins σ H s){ys:List V}{its:List Value}{ds:List D}(rv:aq ys its)(pY:aR H ys ds)(hc:jO ds)
  (q:∀(l:Addr)(zs:List V)(es:List D)(s':Shared),H l=none->aR H zs es->gL ds es->Inv X pins σ (upd H l (.lst zs)) s'->Q (.done (.ret (.ref l))) s'):
  wpAny (model X.prog X.w) A (do let l<-newList its;let _<-holding [l] (call (.builtin "list.sort") [l] []);ret l) Q E s:=by
 obtain⟨hlen,hc⟩:=hc;have hl:=rv.length;have iM:=pY.length;have wV:its.length<=sizeLine:=by rw[SQ];lia
 refine Ql (wpAny_newList ?_ (by simpa using wV));have IS:(s.heap.push (seqObj "list" its.toArray 0)).get? s.heap.objs.size=some (seqObj "list" its.toArray 0):=Qw _ rfl;show wpAny _ _ _ _ _ {s with heap:=s.heap.push (seqObj "list" its.toArray 0)};have ne:∀b o,s.heap.get? b=some o->b≠s.heap.objs.size:=λb o e=>QT (Qy e)
 refine Ql (SX (SV slot_list_sort (s:={s with heap:=s.heap.push (seqObj "list" its.toArray 0)}) ⟨_,IS,rfl⟩ entry_list_sort
  (AU (s:={s with heap:=s.heap.push (seqObj "list" its.toArray 0)}) (O:=Fy) (key:=λi=>ds.getD i (.int 0)) IS ⋯ (λh2 h' kk=>?_) λp h' e hp hup kk hD=>?_) (args_list_sort _)))
 ·obtain⟨Og,⟨k,hf⟩,zc⟩:=hc ⋯;have zT:dX X.prog X.w H h':=I.hok.kept λb o e=>kk b o (ne b o e) (Qn _ e)
  refine⟨k.κ,λQ' E' q'=>GG (s:={s with heap:=h'}) zT k pY rv hf ⋯ q',λi j hi hj C hC=>?_⟩
  ·obtain⟨di,J3,NF⟩:=pY.get (i:=i) (x:=ys[i]'⋯) (by simp);obtain⟨dj,Mr,NG⟩:=pY.get (i:=j) (x:=ys[j]'⋯) (by simp);obtain⟨ui,OX,Po⟩:=rv.get (i:=i) (x:=ys[i]'⋯) (by simp);obtain⟨uj,OY,Pp⟩:=rv.get (i:=j) (x:=ys[j]'⋯) (by simp);unfold kas_ask;rw[show its.getD i Value.none=ui by simp[OX],show its.getD j Value.none=uj by simp[OY]];have ki:ds.getD i (.int 0)=di:=by simp[J3]
   have kj:ds.getD j (.int 0)=dj:=by simp[Mr]
   have mi:di∈ds:=R1 J3;have mj:dj∈ds:=R1 Mr;refine Af (s:={s with heap:=h'}) zT (n:=100) (by show A.units+1+100<cLine;lia) k (Qz (mV J3) ⋯) (zc di mi dj mj) (hf di mi) (hf dj mj) NF NG Po Pp ?_;have MB:C (D.lt (ds.getD i (.int 0)) (ds.getD j (.int 0))) {s with heap:=h'}:=hC;rw[ki,kj]at MB;exact MB
 ·refine⟨_,rfl,Qo ?_⟩;have iR:p.toList.Perm (List.range its.length):=hp;have zb:∀i∈p.toList,i<ys.length:=λi hi=>by
   have:=Q9.mp (iR.mem_iff.mp hi)
   lia
  have new:bw X.prog X.w (upd H s.heap.objs.size (.lst (p.toList.map λi=>ys.getD i .bz))) h' s.heap.objs.size (.lst (p.toList.map λi=>ys.getD i .bz)):=
   ⟨by rw[Qx,iR.length_eq,RM];rw[SQ];lia,_,e,pN rv zb,hD⟩
  have I2:=I.laid (t':=s.toks) (a:=s.heap.objs.size) (λb o q=>kk b o (ne b o q) (Qn _ q)) (Qu _) new;refine q _ _ (p.toList.map λi=>ds.getD i (.int 0)) _ (I.hok.fresh (Qu _)) (pY.map zb) ⟨?_,?_⟩ I2
  ·have e1:=iR.map (λi=>ds.getD i (.int 0));rw[show its.length=ds.length by lia]at e1;rw[fE]at e1;exact e1
  ·have KM:∀i j,i<=j->j<its.length->D.lt (ds.getD (p.getD j 0) (.int 0)) (ds.getD (p.getD i 0) (.int 0))=false:=hup;have kY:p.toList.length=its.length:=by rw[iR.length_eq,RM]
   rw[List.pairwise_map,R7];intro i j hi hj hij;have:=KM i j ⋯ ⋯;rw[show p.getD i 0=p.toList[i] by simp at hi;simp[Array.getD,hi],show p.getD j 0=p.toList[j] by simp at hj;simp[Array.getD,hj]]at this;exact this
end
noncomputable def DZ(K:PySem.W.Frag):List V->Hp->VK->Prop:=λxs H Q=>∃a ys ds,xs=[.ref a]/\(dy K H a ys\/dY K H a ys)/\aR H ys ds/\jO ds/\∀l zs es,H l=none->aR H zs es->gL ds es->Q (.ref l) (upd H l (.lst zs))
theorem mI{X:Cx}(hu:X.A.units+150<cLine):dw X (.builtin "sorted") (DZ X.K):=by
 intro pins s σ H xs us Q I r h;obtain⟨a,ys,ds,rfl,hq,pY,hc,q⟩:=h;obtain⟨u,rfl,ru⟩:=r.one;cases ru;have sh:∃(its:List Value)(T:String)(o:Obj)(n:Nat),aq ys its/\(T="list"\/T="tuple")/\s.heap.get? a=some o/\o.cls= .type T/\o.data= .seq its.toArray n:=by
  rcases hq with hq|hq
  ·obtain⟨its,rv,⟨o,n,ho,hc,_,hd⟩,_⟩:=I.list hq;exact⟨its,"list",o,n,rv,.inl rfl,ho,hc,hd⟩
  ·obtain⟨its,rv,⟨o,ho,hc,n,hd⟩,_⟩:=I.tuple hq;exact⟨its,"tuple",o,n,rv,.inr rfl,ho,hc,hd⟩
 obtain⟨its,T,o,n,rv,hT,ho,qw,hd⟩:=sh;have wV:its.length<=sizeLine:=by rw[SQ,<-rv.length,pY.length];have:=hc.1;lia
 refine Calls.call_function_entry kind_sorted plain_sorted entry_sorted (args_sorted1 _) ?_;unfold Builtin.«sorted»;refine Ql (m:=checkCount "sorted" 1 1 _) (Qo (Ql (wpAny_collect_seq a hT ho qw hd (λh1 k1=>?_) (by rw[Qq];exact wV))));have I1:Inv X pins σ H {s with heap:=h1}:=I.kept (t':=s.toks) k1;exact ml (A:=X.A.in1) (by show X.A.units+1+148<cLine;lia) I1 rv pY hc λl zs es s' hl hz hso I2=>⟨_,rfl,.ref l,_,I2,rfl,q l zs es hl hz hso⟩
theorem oE{H:Hp}:∀ks:List Str,aR H (ks.map V.str) (ks.map D.str)
 |[]=>aR.nil
 |k::ks=>aR.cons DV.str (oE ks)
theorem lO:∀ks:List Str,D.bK (ks.map D.str)<=0
 |[]=>by show D.bK []<=0;unfold D.bK;exact Qu _
 |k::ks=>by
  have:=lO ks;show D.bK (D.str k::ks.map D.str)<=0;unfold D.bK;have e:D.dep (D.str k)=0:=by unfold D.dep;rfl
  lia
theorem rf{X:Cx}(hu:X.A.units+150<cLine)(hc:X.calm=true){pins:List (Addr×Obj)}{s:Shared}{σ:L2.St}{H:Hp}{S:Addr}{ks:List Str}{Q:VK}(I:Inv X pins σ H s)(hS:cR X.prog X.w s.heap S ks)(hlen:ks.length<64)
  (q:∀l zs es,H l=none->aR H zs es->gL (ks.map D.str) es->Q (.ref l) (upd H l (.lst zs))):wpAny (model X.prog X.w) X.A (call (.builtin "sorted") [.ref S]) (EP X pins σ Q) X.xe s:=by
 refine Calls.call_function_entry kind_sorted plain_sorted entry_sorted (args_sorted1 _) ?_;unfold Builtin.«sorted»;refine Ql (m:=checkCount "sorted" 1 1 _) (Qo (Ql (rz (I.ok.hd hc) hS λh' d' tk vs dq kk p1 p2=>?_)));have I1:Inv X pins σ H {s with heap:=h',drawn:=d',toks:=tk}:=by
  refine I.step (g':=s.gens) (ch:=[]) (λb hb=>by cases hb) (λb o _ _ _ e _=>kk b o e) (λb o _ _ _ e _=>⟨o.slots,kk b o e⟩)
   (λb o _ e n=>n) (λb o _ e=>⟨o,kk b o e⟩) (λb zs e=>e) (λb o u e=>e) (λb ps e=>⟨#[],by rw[e];simp⟩) (λm hm=>?_) (λb u q=>?_) I.bare
  ·obtain⟨o,de,ep,ho,rr⟩:=hm;exact⟨o,de,ep,kk _ o ho,rr⟩
  ·exact(I.hok b u q).ly (λc v _ z=>kk c v z) (λc z=>z) λc zs z=>z
 have pY:aR H (dq.map V.str) (dq.map D.str):=oE dq;refine ml (A:=X.A.in1) (by show X.A.units+1+148<cLine;lia) I1 p2 pY ⟨by rw[Qx,p1.length_eq];exact hlen,λ_=>⟨?_,⟨.s,λd hd=>?_⟩,λd hd e he=>?_⟩⟩ λl zs es s' hl hz hso I2=>⟨_,rfl,.ref l,_,I2,rfl,q l zs es hl hz ⟨hso.1.trans (p1.map _),hso.2⟩⟩
 ·exact Qz (lO dq) (Sm _)
 ·obtain⟨x,_,rfl⟩:=QX.mp hd;exact⟨x,rfl⟩
 ·obtain⟨x,_,rfl⟩:=QX.mp hd;obtain⟨y,_,rfl⟩:=QX.mp he;unfold D.cL;trivial
end Mx
end
section
namespace Mx
open PySem PySem.W PySem.Spec PyProof.Rows L2
theorem any_range(bs:List Bool):((List.range bs.length).any λi=>bs.getD i false)=bs.any id:=by
 have h:=fE bs false;have e:((List.range bs.length).map λi=>bs.getD i false).any id=bs.any id:=by rw[h]
 rw[List.any_map]at e;exact e
theorem nJ(ns:List Int):∀j,preSum (λi=>ns.getD i 0) j=(ns.take j).sum
 |0=>by simp[preSum]
 |j+1=>by
  rw[preSum,nJ ns j];by_cases h:j<ns.length
  ·have e:ns.take (j+1)=ns.take j++[ns[j]]:=by rw[List.take_append_getElem h]
   rw[e,List.sum_append];simp[h]
  ·rw[R9 ⋯,R9 ⋯];simp[show ns.length<=j by lia]
theorem Ft{bs:List Bool}{its:List Value}(r:aq (bs.map V.bl) its){i:Nat}{v:Value}(h:its[i]?=some v):v= .bool (bs.getD i false):=by
 have hl:=r.length;have hi:i<bs.length:=by
  have:=(Qs.mp h).1;simp at hl
  lia
 obtain⟨u,hu,ru⟩:=r.get (i:=i) (x:=V.bl (bs.getD i false)) (by simp[hi]);rw[h]at hu;cases hu;exact ru
theorem int_at{ns:List Int}{its:List Value}(r:aq (ns.map V.int) its){i:Nat}{v:Value}(h:its[i]?=some v):∃t,v= .int (ns.getD i 0) t:=by
 have hl:=r.length;have hi:i<ns.length:=by
  have:=(Qs.mp h).1;simp at hl
  lia
 obtain⟨u,hu,ru⟩:=r.get (i:=i) (x:=V.int (ns.getD i 0)) (by simp[hi]);rw[h]at hu;cases hu;exact ru
section
variable{X:Cx}
theorem oX{prog:Program}{w:World}{A:Around}{E:Value->Shared->Prop}{s:Shared}{l:Addr}{items:Array Value}{Q:Value->Shared->Prop}(hl:s.heap.IsList l items)
  (h:∀s2:Shared,s2={s with heap:=s.heap.push {cls:=.type "list_iterator",data:=.fields #[.ref l,.int 0 0]}}->(s2.heap.IsListIter s.heap.objs.size l 0/\s2.heap.IsList l items)->(∀b∈[s.heap.objs.size,l],b<s2.heap.objs.size)->l≠s.heap.objs.size->
   (∀(b:Addr)(o:Obj),s.heap.get? b=some o->b∉[s.heap.objs.size]/\s2.heap.get? b=some o)->Q (.ref s.heap.objs.size) s2):wpAny (model prog w) A (pyIter (.ref l)) Q E s:=by
 have lt:l<s.heap.objs.size:=by obtain⟨_,e,_⟩:=hl;exact Qy e
 refine S6 hl (h _ rfl ⟨⟨_,Qw _ rfl,rfl,rfl⟩,hl.push _⟩ (λb hb=>?_) (QT lt) λb o e=>⟨?_,Qn _ e⟩)
 ·show b<(s.heap.push _).objs.size;rw[QS];simp only[QA,QB,SM]at hb;have lt':l<s.heap.objs.size:=lt;rcases hb with rfl|rfl
  ·exact Si _
  ·exact Sh lt'
 ·intro hb;have:=Qy e;rw[QW.mp hb]at this;exact Sg _ this
noncomputable def Lm(K:PySem.W.Frag):List V->Hp->VK->Prop:=λxs H Q=>∃(l:Addr)(bs:List Bool),xs=[.ref l]/\dy K H l (bs.map V.bl)/\Q (.bl (bs.any id)) H
noncomputable def Lz(K:PySem.W.Frag):List V->Hp->VK->Prop:=λxs H Q=>∃(l:Addr)(ns:List Int),xs=[.ref l]/\dy K H l (ns.map V.int)/\Q (.int ns.sum) H
theorem vM(hc:X.calm=true):dw X (.builtin "any") (Lm X.K):=by
 intro pins s σ H xs us Q I r h;obtain⟨l,bs,rfl,hq,q⟩:=h;obtain⟨u,rfl,ru⟩:=r.one;cases ru;obtain⟨its,rv,pl,hz⟩:=I.list hq;have hl:its.length=bs.length:=by rw[<-rv.length];simp
 refine call_any_walk (oX pl.isList λs2 e st fp ne old=>?_);refine⟨_,_,_,_,_,_,λi=>bs.getD i false,rfl,Walks.list (A:=X.A.in1) (I.ok.hd hc) _ l ne its.toArray,st,λi v s' Q' E' hv hQ=>?_,λh' tk hk=>?_⟩
 ·have C8:its.toArray[i]?=some v:=hv;rw[Ft rv (show its[i]?=some v by simpa using C8)];exact Tb hQ
 ·subst e;refine⟨.bl _,H,I.kept λb o e=>hk b o (old b o e).1 (old b o e).2,rfl,?_⟩;rw[show its.toArray.size=bs.length by simp[hl],any_range];exact q
theorem vP(hc:X.calm=true):dw X (.builtin "sum") (Lz X.K):=by
 intro pins s σ H xs us Q I r h;obtain⟨l,ns,rfl,hq,q⟩:=h;obtain⟨u,rfl,ru⟩:=r.one;cases ru;obtain⟨its,rv,pl,hz⟩:=I.list hq;have hl:its.length=ns.length:=by rw[<-rv.length];simp
 refine call_sum_walkG (oX pl.isList λs2 e st fp ne old=>?_);refine⟨_,_,_,_,_,_,λi=>ns.getD i 0,rfl,Walks.list (A:=X.A.in1) (I.ok.hd hc) _ l ne its.toArray,st,fp,λi v hv=>?_,λh' tk t' hk=>?_⟩
 ·have C8:its.toArray[i]?=some v:=hv;exact int_at rv (by simpa using C8)
 ·subst e;refine⟨.int _,H,I.kept λb o e=>hk b o (old b o e).1 (old b o e).2,⟨t',rfl⟩,?_⟩;rw[show its.toArray.size=ns.length by simp[hl],nJ,List.take_length];exact q
end
theorem gn{i:Nat}{v:V}{σ:L2.St}{H:Hp}{k:L2.St->Hp->Prop}(h:k (σ.set i (some v)) H):d7 i v σ H k:=h
end Mx
end
section
namespace Mx
open PySem PySem.W PySem.Spec PyProof.Rows L2 HT
open PySem.AutoSeq1 (wpAny_loadPart')
theorem tuple_addW0(l b:Addr)(items cv:Array Value)(n n2:Nat)(dd rY:Option Addr)(sl p7:Array (Option Value))(P4:items.isEmpty=true):
  Meets (Builtin.«tuple.__add__» ⟨[.ref l,.ref b],[]⟩) (λ_ R s=>s.heap.get? l=some {cls:=.type "tuple",dict:=dd,data:=.seq items n,slots:=sl}/\s.heap.get? b=some {cls:=.type "tuple",dict:=rY,data:=.seq cv n2,slots:=p7}/\R (.ok (.ret (Value.ref b))) s):=
 .of_wp λprog w A R s h=>by
  obtain⟨hp,g,d,tk,os⟩:=s;obtain⟨hl,hb,h⟩:=h;have f2:=sub_tuple_tuple
  wp_walk using wpAny_loadPart' hl,wpAny_loadPart' hb
  exact⟨_,rfl,h⟩
theorem w6{α:Type}(pre:List α)(x:α):kZ (pre++[x]).length (-1)=some pre.length:=by
 unfold kZ;rw[SF (by decide),SH (by simp;lia)];simp
 lia
theorem ot{α:Type}(pre:List α)(x:α):k8 (pre++[x]) (-1)=some x:=by unfold k8;rw[w6];simp
end Mx
end
section
namespace L2
open PySem PySem.Spec PyProof.Rows
noncomputable def gE(e:Expr)(d:Nat)(it acc:Value)(env:Env)(target:Expr)(ifs:List Expr)(p:Pos)(body:Sem Unit):Sem PySem.Fin:=do
 standAt p
 match<-pyNext it with
 |none=>pure (.done .next)
 |some v=>
  letOwnedTupleGo target it v
  assign target env v
  let mut ok:=true
  for c in ifs do
   if ok then ok<-isTrue c env (eval c env)
  if ok then body
  again (.compLoop e d it acc env)
theorem mO{prog:Program}{w:World}{A:Around}{R:Result->Shared->Prop}{s:Shared}{elt target:Expr}{gens:List Comprehension}{scope:Scope}{pos:Pos}{d:Nat}{ifs:List Expr}{p:Pos}{it acc:Value}{env:Env}{body:Sem Unit}(heq:compTurn (.ListComp elt gens scope pos) d it acc env=gE (.ListComp elt gens scope pos) d it acc env target ifs p body){EE:Value->Shared->Prop}
  (FQ:∀x s',EE x s'->notedBy (model prog w) A env (λx s'=>R (.error x) s') x s') (I:Nat->Shared->Prop)
  (turn:∀n s,I n s->wpAny (model prog w) A (pyNext it) (λr s₁=>match r with
   |none=>R (.ok .next) s₁
   |some v=>wpAny (model prog w) A (letOwnedTupleGo target it v) (λ_ s₁'=>wpAny (model prog w) A (assign target env v) (λ_ s₂=>
     wpAny (model prog w) A (forIn ifs true λc r=>if r=true then do let ok<-isTrue c env (eval c env);pure (ForInStep.yield ok) else pure (ForInStep.yield r)) (λok s₃=>
      if ok=true then wpAny (model prog w) A body (λ_ s₄=>∃m,m<n/\I m s₄) EE s₃
      else∃m,m<n/\I m s₃) EE s₂) EE s₁') EE s₁) EE s)
  (n:Nat) (h:I n s):codeAny (model prog w) A (.compLoop (.ListComp elt gens scope pos) d it acc env) R s:=by
 refine codeAny_loop rfl I (λn s hI=>?_) n h;show wpAny _ A ((compTurn (.ListComp elt gens scope pos) d it acc env).onRaise (λx=>do noteFrame x env;theTreesLotGoes x)) _ _ s;refine wpAny_noted ?_;rw[heq];unfold gE;refine Ql (Ta (Ql (SY (turn n s hI) (λr s₁ h₁=>?_) FQ)));cases r with
 |none=>exact Qo h₁
 |some v=>
  refine Ql (SY h₁ (λ_ s₁' h₁'=>?_) FQ);refine Ql (SY h₁' (λ_ s₂ h₂=>Ql (SY h₂ (λok s₃ h₃=>?_) FQ)) FQ);cases ok with
  |false=>exact Qo ⟨rfl,h₃⟩
  |true=>exact Ql (SY h₃ (λ_ s₄ h₄=>Qo ⟨rfl,h₄⟩) FQ)
noncomputable def j4(elt:Expr)(acc:Value)(env:Env):Sem Unit:=do let _<-call (.builtin "list.append") [acc,<-eval elt env]
theorem pL(elt target iter:Expr)(ifs:List Expr)(scope:Scope)(pos:Pos)(it acc:Value)(env:Env):
  compTurn (.ListComp elt [⟨target,iter,ifs,0⟩] scope pos) 0 it acc env=gE (.ListComp elt [⟨target,iter,ifs,0⟩] scope pos) 0 it acc env target ifs iter.pos (j4 elt acc env):=by rfl
noncomputable def Le(σ σ2:St):Prop:=σ2.length=σ.length/\∀(j:Nat)(v:V),σ[j]?=some (some v)->σ2[j]?=some (some v)
theorem Le.refl(σ:St):Le σ σ:=⟨rfl,λ_ _ h=>h⟩
noncomputable def GL(σ0:St)(g:TG):Prop:=∀x σ H(Q:St->Hp->Prop),Le σ0 σ->g x σ H Q->g x σ H λσ2 H2=>Le σ0 σ2/\Q σ2 H2
noncomputable def Fc(σ0:St)(g:t7):Prop:=∀x σ H(Q:St->Hp->Prop),Le σ0 σ->g x σ H Q->g x σ H λσ2 H2=>Le σ0 σ2/\Q σ2 H2
theorem Le.set{k:Nat}{σ0 σ:St}{v:Option V}(h:σ0[k]?=some none)(q:Le σ0 σ):Le σ0 (σ.set k v):=⟨by simpa using q.1,λj w hj=>by
 rw[QF (by rintro rfl;rw[h]at hj;cases hj)];exact q.2 j w hj⟩
theorem zJ{σ0:St}{k:Nat}(h:σ0[k]?=some none):GL σ0 (d7 k):=λx σ H Q p q=>⟨p.set h,q⟩
theorem zK{σ0:St}:Fc σ0 CM:=λx σ H Q p q=>⟨q.1,p,q.2⟩
theorem wB{σ0:St}{k:Nat}{u:t7}(h:σ0[k]?=some none)(hu:Fc σ0 u):Fc σ0 (wx (d7 k) u):=λx σ H Q p q=>by obtain⟨v,r,e,q⟩:=q;exact⟨v,r,e,hu r _ H Q (p.set h) q⟩
theorem CO{σ0:St}{K:PySem.W.Frag}{n:Nat}{u:t7}(hu:Fc σ0 u):GL σ0 (CN K n u):=λx σ H Q p q=>by obtain⟨a,xs,e,h1,h2,q⟩:=q;exact⟨a,xs,e,h1,h2,hu xs σ H Q p q⟩
theorem Inv.le{X:Cx}{pins:List (Addr×Obj)}{σ σ2:St}{H:Hp}{s:Shared}(I:Inv X pins σ2 H s)(h:Le σ σ2):Inv X pins σ H s:=I.weak h.1.symm h.2
noncomputable abbrev TB:=St->Hp->(Hp->Prop)->Prop
noncomputable def PB(X:Cx)(body:Sem Unit)(tb:TB):Prop:=∀(pins:List (Addr×Obj))(s:Shared)(σ:St)(H:Hp)(Q:Hp->Prop),Inv X pins σ H s->tb σ H Q->wpAny (model X.prog X.w) X.A body (λ_ s'=>∃H',Inv X pins σ H' s'/\Q H') X.xe s
noncomputable def rG(J:It)(g:TG)(tt:TT)(tb:TB)(σ0:St)(F:Hp->Prop)(H1:Hp):Prop:=
 ∃W:Nat->Nat->Hp->Prop,(∃m,W 0 m H1)/\∀i m H,W i m H->
  (J.stop i H/\F H)\/(J.go i H/\∀x H',J.yld i H x H'->g x σ0 H' λσ2 H2=>tt σ2 H2 λb H3=>if b=true then tb σ2 H3 λH4=>∃m',m'<m/\W (i+1) m' H4 else∃m',m'<m/\W (i+1) m' H3)
section
variable{X:Cx}{g:TG}{tt:TT}{tb:TB}
theorem um(hc:X.calm=true){elt target:Expr}{gens:List Comprehension}{scope:Scope}{pos:Pos}{d:Nat}{ifs:List Expr}{p:Pos}{acc:Value}{body:Sem Unit}{R:Result->Shared->Prop}{pins:List (Addr×Obj)}{σ0:St}{H0:Hp}{s0:Shared}{it:Addr}{fp:List Addr}{tn:Nat->Heap->Prop}{J:It}{F:Hp->Prop}
  (heq:compTurn (.ListComp elt gens scope pos) d (.ref it) acc X.env=gE (.ListComp elt gens scope pos) d (.ref it) acc X.env target ifs p body) (hx:∀x s',X.xe x s'->notedBy (model X.prog X.w) X.A X.env (λx s'=>R (.error x) s') x s')
  (hg:PG X target g) (uC:GL σ0 g) (ht:Ca X ifs tt) (hb:PB X body tb) (I0:Inv X pins σ0 H0 s0) (T:Turn X.prog X.w X.K target J fp it tn) (mn:tn 0 s0.heap) (f0:∀b∈fp,gj X pins H0 b)
  (hW:rG J g tt tb σ0 F H0) (fin:∀s' H',Inv X pins σ0 H' s'->F H'->R (.ok .next) s'):codeAny (model X.prog X.w) X.A (.compLoop (.ListComp elt gens scope pos) d (.ref it) acc X.env) R s0:=by
 obtain⟨W,⟨m0,w0⟩,turn⟩:=hW;have nS:∀{H':Hp},(∀b∈fp,H' b=none)->∀b∈fp,gj X pins H' b:=λhn b hb=>⟨hn b hb,(f0 b hb).2⟩
 refine mO heq hx (λn s'=>∃i H',Inv X pins σ0 H' s'/\tn i s'.heap/\(∀b∈fp,H' b=none)/\W i n H') ?_ m0 ⟨0,H0,I0,mn,λb hb=>(f0 b hb).1,w0⟩;rintro n s4 ⟨i,H4,I4,HE,Mw,w4⟩;rcases turn i n H4 w4 with ⟨stop,qn⟩|⟨go,step⟩
 ·refine bN (T.done X rfl rfl rfl hc i pins s4 _ H4 X.xe I4 (nS Mw) HE stop) λr s5⟨hr,I5⟩=>?_
  subst hr;exact fin s5 H4 I5 qn
 ·refine bN (T.item X rfl rfl rfl hc i pins s4 _ H4 X.xe I4 (nS Mw) HE go) λr s5⟨u,hr,h5⟩=>?_
  subst hr;refine bN h5 λ_ s6⟨x,H6,I6,r6,y6,LN,NI⟩=>?_
  have Nw:=I6.pinned (nS NI) (T.obj _ _ LN);have again:∀{s7:Shared}{σ7:St}{H7:Hp}{m7:Nat},Inv X (pins++kB fp s6.heap) σ7 H7 s7->Le σ0 σ7->m7<n->W (i+1) m7 H7->
    ∃m,m<n/\∃i H',Inv X pins σ0 H' s7/\tn i s7.heap/\(∀b∈fp,H' b=none)/\W i m H':=λ {s7 σ7 H7 m7} I7 hσ hm w7=>by
   refine⟨m7,hm,i+1,H7,I7.iH.le hσ,T.keep _ _ _ LN λb hb o e=>(I7.pin (b,o) (QU _ (QU _ (eO hb e)))).1,λb hb=>?_,w7⟩;obtain⟨o,e,d⟩:=T.obj _ _ LN b hb;exact(I7.pin (b,o) (QU _ (QU _ (eO hb e)))).2.1
  refine bN (hg _ s6 _ H6 x u _ Nw r6 (uC x _ H6 _ (Le.refl _) (step x H6 y6))) λ_ s7⟨σ7,H7,I7,Nb,q7⟩=>?_
  refine bN (ht _ s7 σ7 H7 _ I7 q7) λb s8⟨H8,I8,q8⟩=>?_
  cases b with
  |false=>rw[SF (by simp)]at q8 ⊢;obtain⟨m',hm,w8⟩:=q8;exact again I8 Nb hm w8
  |true=>
   rw[SH rfl]at q8 ⊢;refine bN (hb _ s8 σ7 H8 _ I8 q8) λ_ s9⟨H9,I9,m',hm,w9⟩=>?_
   exact again I9 Nb hm w9
noncomputable def yA(D:Addr)(te:TE):TB:=λσ H Q=>te σ H λv H4=>∃dM,H4 D=some (.lst dM)/\dM.length<sizeLine/\Q (upd H4 D (.lst (dM++[v])))
theorem tu{elt:Expr}{te:TE}{D:Addr}(he:PE X elt te):PB X (j4 elt (.ref D) X.env) (yA D te):=by intro pins s σ H Q I h;unfold j4;refine Ql (bN (he pins s σ H _ I h) λy s9⟨v,H9,I9,r9,dM,NU,hz,q⟩=>?_);refine Ql (bN (l8 _ s9 σ H9 (.ref D) [v] (.ref D) [y] (λ_ H'=>H'=upd H9 D (.lst (dM++[v]))) I9 rfl (.cons r9 .nil) ⟨D,dM,v,rfl,rfl,NU,hz,rfl⟩) λ_ s10⟨_,PP,Nu,_,NB⟩=>?_);subst NB;exact Qo ⟨_,Nu,q⟩
end
theorem fR{x:Str}{c:Addr}:∀(names:List (Str×NameKind))(n:Nat)(acc:List (Str×Addr)),(cellsFrom n names acc).lookup x=some c->(n<=c/\(x,NameKind.cell)∈names)\/acc.lookup x=some c
 |[],n,acc,h=>.inr h
 |(y,k)::r,n,acc,h=>by
  unfold cellsFrom at h;by_cases hk:(k==NameKind.cell)=true
  ·rw[SH hk]at h;rcases fR r (n+1) _ h with ⟨h1,h2⟩|h1
   ·exact .inl ⟨Qz (Sf _) h1,Qt _ h2⟩
   ·rw[QO]at h1;cases hb:x==y with
    |true=>
     rw[hb]at h1;cases h1;have:x=y:=by simpa using hb
     subst this;have:k=NameKind.cell:=by simpa using hk
     subst this;exact .inl ⟨Qu _,Qv⟩
    |false=>rw[hb]at h1;exact .inr h1
  ·rw[SF hk]at h;rcases fR r n _ h with ⟨h1,h2⟩|h1
   ·exact .inl ⟨h1,Qt _ h2⟩
   ·exact .inr h1
theorem ql{x y:Str}{c:Addr}:∀(names:List (Str×NameKind))(n:Nat)(acc:List (Str×Addr)),(∀x c,acc.lookup x=some c->c<n)->(∀x y c,acc.lookup x=some c->acc.lookup y=some c->x=y)->
  (cellsFrom n names acc).lookup x=some c->(cellsFrom n names acc).lookup y=some c->x=y
 |[],n,acc,h1,h2,hx,hy=>h2 x y c hx hy
 |(z,k)::r,n,acc,h1,h2,hx,hy=>by
  unfold cellsFrom at hx hy;by_cases hk:(k==NameKind.cell)=true
  ·rw[SH hk]at hx hy;refine ql r (n+1) _ (λa b jj=>?_) (λa b e ha hb=>?_) hx hy
   ·rw[QO]at jj;cases hq:a==z with
    |true=>rw[hq]at jj;cases jj;exact Si _
    |false=>rw[hq]at jj;exact Sh (h1 a b jj)
   ·rw[QO]at ha hb;cases hq:a==z with
    |true=>
     rw[hq]at ha;cases ha;cases hq2:b==z with
     |true=>
      have e1:a=z:=by simpa using hq
      have e2:b=z:=by simpa using hq2
      rw[e1,e2]
     |false=>rw[hq2]at hb;exact absurd (h1 b _ hb) (Sg _)
    |false=>
     rw[hq]at ha;cases hq2:b==z with
     |true=>rw[hq2]at hb;cases hb;exact absurd (h1 a _ ha) (Sg _)
     |false=>rw[hq2]at hb;exact h2 a b e ha hb
  ·rw[SF hk]at hx hy;exact ql r n acc h1 h2 hx hy
theorem mJ{x:Str}{c:Addr}:∀(names:List (Str×NameKind))(n:Nat)(acc:List (Str×Addr)),(x,NameKind.cell)∉names->acc.lookup x=some c->(cellsFrom n names acc).lookup x=some c
 |[],n,acc,_,h=>h
 |(z,k)::r,n,acc,hn,h=>by
  unfold cellsFrom;by_cases hk:(k==NameKind.cell)=true
  ·rw[SH hk];refine mJ r (n+1) _ (λz'=>hn (Qt _ z')) ?_;rw[QO];have:(x==z)=false:=by
    cases hq:x==z with
    |false=>rfl
    |true=>
     have e1:x=z:=by simpa using hq
     have e2:k=NameKind.cell:=by simpa using hk
     subst e1 e2;exact absurd Qv hn
   rw[this];exact h
  ·rw[SF hk];exact mJ r n acc (λz'=>hn (Qt _ z')) h
theorem jV{x:Str}{c:Addr}:∀(names:List (Str×NameKind))(h:Heap)(acc:List (Str×Addr)),(∀x c,acc.lookup x=some c->∃v,h.IsCell c v)->(cellsFrom h.objs.size names acc).lookup x=some c->∃v,(pushCells h names).IsCell c v
 |[],h,acc,ha,hx=>ha x c hx
 |(z,k)::r,h,acc,ha,hx=>by
  unfold cellsFrom at hx;unfold pushCells;by_cases hk:(k==NameKind.cell)=true
  ·rw[SH hk]at hx ⊢;refine jV r _ ((z,h.objs.size)::acc) (λa b jj=>?_) (by rw[QS];exact hx);rw[QO]at jj;cases hq:a==z with
   |true=>rw[hq]at jj;cases jj;exact⟨none,_,Qw _ rfl,rfl⟩
   |false=>rw[hq]at jj;obtain⟨v,o,ho,hd⟩:=ha a b jj;exact⟨v,o,Qn _ ho,hd⟩
  ·rw[SF hk]at hx ⊢;exact jV r h acc ha hx
theorem pR{M:Model}{A:Around}{E:Value->Shared->Prop}{s:Shared}{scope:Scope}{globals:Addr}{cl:List (Str×Addr)}{qual:Str}{out:Env}{Q:Env->Shared->Prop}
  (hQ:∀h',h'=pushCells (s.heap.push {cls:=.type "dict",data:=.dict #[]}) scope.names->Q (newEnv scope s.heap.objs.size globals (cellsFrom (s.heap.objs.size+1) scope.names cl) qual none .none (some out) builtinsNs) {s with heap:=h'}):
  wpAny M A (newFunctionEnv scope globals cl [] qual none .none (some out)) Q E s:=by
 simp only[newFunctionEnv,Option.isSome_some,SI];refine Ql (wpAny_alloc ?_);refine Ql (wpAny_layCells _ (λname kind cells=>by cases hkc:kind==NameKind.cell<;>simp[hkc]) _ _ _ _ ?_);rw[show ({s with heap:=s.heap.push {cls:=.type "dict",data:=.dict #[]}}:Shared).heap.objs.size=s.heap.objs.size+1 from QS ..];rw[List.forIn_nil];exact Ql (Qo (Qo (hQ _ rfl)))
noncomputable def f6(X:Cx)(scope:Scope)(N':List Str)(C:Addr)(s:Shared)(H:Hp)(fp:List Addr)(xe:Value->Shared->Prop):Cx:=
 {X with N:=N',s₀:=s,H₀:=H,env:=compEnvC scope (cellsFrom (C+1) scope.names (fm scope X.env)) C X.env,outer:=X.stack,stack:=X.stack,ex:=fp,fn:=λx=>scope.names.lookup x==some .cell,pn:=[],xe:=xe}
structure fv(X:Cx)(scope:Scope)(N':List Str)(cap:List (Option Nat)):Prop where
 kind:scope.kind= .function
 nd:∀y∈scope.names,scope.names.lookup y.1=some y.2
 free:∀y∈scope.names,y.2= .free->X.env.scope.names.lookup y.1=some .cell\/X.env.scope.names.lookup y.1=some .free
 ug:∀(j i:Nat),cap[j]?=some (some i)->∃x,N'[j]?=some x/\X.N[i]?=some x/\scope.names.lookup x=some .free
 len:cap.length=N'.length
section
variable{X:Cx}{scope:Scope}{N':List Str}{cap:List (Option Nat)}{pins:List (Addr×Obj)}{σ:St}{H:Hp}{s:Shared}
theorem fv.frees(B:fv X scope N' cap)(ok:X.Ok):∀y∈scope.names,y.2= .free->∃c,X.env.cells.lookup y.1=some c:=λy hy hf=>ok.has y.1 (B.free y hy hf)
theorem fv.up(B:fv X scope N' cap)(ok:X.Ok){x:Str}{c:Addr}(h:(fm scope X.env).lookup x=some c):X.env.cells.lookup x=some c:=
 ja scope.names [] (B.frees ok) (λ_ z=>by simp at z) h
theorem fv.pe(B:fv X scope N' cap){x:Str}(h:scope.names.lookup x=some .free):(x,NameKind.cell)∉scope.names:=λz=>by have:=B.nd _ z;rw[h]at this;cases this
theorem qj{xe:Value->Shared->Prop}(B:fv X scope N' cap)(I:Inv X pins σ H s){fp:List Addr}{tk:Nat}(hf:∀b∈fp,gj X pins H b)(cU:∀b∈fp,b<s.heap.objs.size):
  Inv (f6 X scope N' s.heap.objs.size s H fp xe) [] (c6 cap σ) H {s with heap:=pushCells (s.heap.push {cls:=.type "dict",data:=.dict #[]}) scope.names,toks:=tk}:=by
 have ok:=I.ok;have hz:(s.heap.push {cls:=.type "dict",data:=.dict #[]}).objs.size=s.heap.objs.size+1:=QS ..;have hk:∀b o,s.heap.get? b=some o->(pushCells (s.heap.push {cls:=.type "dict",data:=.dict #[]}) scope.names).get? b=some o:=λb o e=>SN _ _ _ _ (Qn _ e)
 have lS:(pushCells (s.heap.push {cls:=.type "dict",data:=.dict #[]}) scope.names).Ns s.heap.objs.size λ_=>none:=(Heap.Ns.new s.heap (.type "dict")).keeps (SN _ _)
 have NA:∀x c,(fm scope X.env).lookup x=some c->c<s.heap.objs.size:=λx c h=>by obtain⟨v,z⟩:=I.cell x c (B.up ok h);exact z.lt
 have vR:∀x c,(cellsFrom (s.heap.objs.size+1) scope.names (fm scope X.env)).lookup x=some c->(s.heap.objs.size+1<=c/\(x,NameKind.cell)∈scope.names)\/X.env.cells.lookup x=some c:=λx c h=>(fR _ _ _ h).imp id (B.up ok)
 have qG:∀x,scope.names.lookup x=some .free->(compEnvC scope (cellsFrom (s.heap.objs.size+1) scope.names (fm scope X.env)) s.heap.objs.size X.env).kindOf x=some .cell\/(compEnvC scope (cellsFrom (s.heap.objs.size+1) scope.names (fm scope X.env)) s.heap.objs.size X.env).kindOf x=some .free:=λx hx=>by
  have q:=aT (env:=X.env) hx;by_cases hc:(NameKind.free==NameKind.free&&X.env.scope.kind== .function&&X.env.kindOf x==some .cell)=true
  ·rw[SH hc]at q;exact .inl q
  ·rw[SF hc]at q;exact .inr q
 refine⟨⟨ok.mod,?kind,ok.glob,ok.blt,Qu _,?inj,?has,?yW,ok.hd,ok.frames,.inl rfl,?Bq,I.bs,Qz ok.vH I.sz,?lp,?mW,I.stack,I.nU⟩,
  rfl,I.bare,Un.kept hk,⟨_,lS,?loc⟩,?cell,I.hok.fresh (Qu _),?cT,?pin,I.hok.kept hk,?len⟩
 case kind=>exact B.kind
 case inj=>exact λx y c h1 h2=>ql _ _ _ (λx c h=>Sh (NA x c h)) (λx y c h1 h2=>ok.inj x y c (B.up ok h1) (B.up ok h2)) h1 h2
 case has=>
  intro x hx;cases hl:scope.names.lookup x with
  |none=>
   have q:=bX (env:=X.env) hl;exact absurd hx (by
    have q':(compEnvC scope (cellsFrom (s.heap.objs.size+1) scope.names (fm scope X.env)) s.heap.objs.size X.env).kindOf x=none:=q;show¬((compEnvC scope (cellsFrom (s.heap.objs.size+1) scope.names (fm scope X.env)) s.heap.objs.size X.env).kindOf x=some .cell\/(compEnvC scope (cellsFrom (s.heap.objs.size+1) scope.names (fm scope X.env)) s.heap.objs.size X.env).kindOf x=some .free);rw[q'];simp)
  |some k=>
   have q:(compEnvC scope (cellsFrom (s.heap.objs.size+1) scope.names (fm scope X.env)) s.heap.objs.size X.env).kindOf x=some (if (k==NameKind.free&&X.env.scope.kind== .function&&X.env.kindOf x==some .cell) then NameKind.cell else k):=aT (env:=X.env) hl;have hm:=Sz hl;by_cases CV:k= .free
   ·subst CV;obtain⟨c,qw⟩:=jW (env:=X.env) scope.names [] (.inl hm);exact⟨c,mJ _ _ _ (B.pe hl) qw⟩
   ·have hb:(k==NameKind.free)=false:=by simpa using CV
    have n9:(compEnvC scope (cellsFrom (s.heap.objs.size+1) scope.names (fm scope X.env)) s.heap.objs.size X.env).kindOf x=some .cell\/(compEnvC scope (cellsFrom (s.heap.objs.size+1) scope.names (fm scope X.env)) s.heap.objs.size X.env).kindOf x=some .free:=hx;rw[q,hb]at n9;simp only[Bool.false_and,Re,SE,Option.some.injEq]at n9;rcases n9 with z|z
    ·subst z;exact Option.isSome_iff_exists.mp (Sw scope.names _ _ (.inl hl))
    ·exact absurd z CV
 case yW=>
  intro x c wK h;have wK:(scope.names.lookup x==some .cell)=true:=wK;rcases fR _ _ _ h with ⟨h1,_⟩|h1
  ·exact Qz (Sf _) h1
  ·exfalso;have e:=QL wK;have:∀(l:List (Str×NameKind))(cs:List (Str×Addr)),(∀c,cs.lookup x≠some c)->(∀y∈l,y.1=x->y.2≠ .free)->(mK X.env l cs).lookup x=none:=by
    intro l
    induction l with
    |nil=>
     intro cs vg _;cases hq:cs.lookup x with
     |none=>exact hq
     |some c=>exact absurd hq (vg c)
    |cons y l ih=>
     intro cs vg hl;obtain⟨n,k⟩:=y;show (mK X.env l (if (k==NameKind.free)=true then(n,(X.env.cells.lookup n).getD 0)::cs else cs)).lookup x=none;refine ih _ (λc=>?_) λy hy=>hl y (Qt _ hy)
     by_cases hk:(k==NameKind.free)=true
     ·rw[SH hk,QO];have:(x==n)=false:=by
       cases hq:x==n with
       |false=>rfl
       |true=>
        have e1:x=n:=by simpa using hq
        have e2:k=NameKind.free:=by simpa using hk
        exact absurd e2 (hl (n,k) Qv e1.symm)
      rw[this];exact vg c
     ·rw[SF hk];exact vg c
   have q:=this scope.names [] (λc z=>by simp at z) λy hy e1 e2=>by have:=B.nd y hy;rw[e1,e2,e]at this;cases this
   unfold fm at h1;rw[q]at h1;cases h1
 case Bq=>
  intro b hb;refine⟨QT (cU b hb),λx c e=>?_⟩;rcases vR x c e with ⟨h1,_⟩|h1
  ·intro z;subst z;exact absurd (QJ (cU c hb) (Qz (Sf _) h1)) (Sg _)
  ·exact(hf b hb).2.2.2.2.1 x c h1
 case lp=>
  intro b o e hb;rcases (hf b hb).2.2.2.1 with z|z
  ·exact ok.lp b o e z
  ·exact absurd (QJ (Qy (ok.bs b o e).1) z) (Sg _)
 case mW=>
  intro b hb hs;rcases QA.mp (I.kL b hs)with z|z
  ·exact(hf b hb).2.1 z
  ·exact(hf b hb).2.2.1 z
 case loc=>
  intro j x v h1 h2 h3;have hj:∃i,cap[j]?=some (some i)/\(σ[i]?).join=some v:=by
   unfold c6 at h2;rw[QH]at h2;cases hc:cap[j]? with
   |none=>rw[hc]at h2;cases h2
   |some o=>
    rw[hc]at h2;cases o with
    |none=>cases h2
    |some i=>exact⟨i,rfl,by simpa using h2⟩
  obtain⟨i,hc,hv⟩:=hj;obtain⟨x',e1,e2,e3⟩:=B.ug j i hc;have ex:x'=x:=by have JY:N'[j]?=some x:=h1;rw[JY]at e1;injection e1 with e1;exact e1.symm
  subst ex;have C8:σ[i]?=some (some v):=by
   cases q:σ[i]? with
   |none=>rw[q]at hv;cases hv
   |some o=>rw[q]at hv;cases o with
    |none=>cases hv
    |some z=>simp at hv;rw[hv]
  have Gy:=B.free _ (Sz e3) rfl;obtain⟨m,hn,hl⟩:=I.loc;obtain⟨u,r,l⟩:=hl i x' v e2 C8 (.inr Gy);refine⟨u,r,?_⟩;obtain⟨c,qw⟩:=jW (env:=X.env) scope.names [] (.inl (Sz e3));have MN:=B.up ok qw;rcases l with ⟨k,_⟩|⟨k,c',e,z⟩
  ·exfalso;have k':X.env.scope.names.lookup x'=some .local:=k;rcases Gy with q|q
   ·rw[k']at q;cases q
   ·rw[k']at q;cases q
  ·have NC:c'=c:=by rw[e]at MN;injection MN
   subst NC;exact .inr ⟨qG x' e3,c',mJ _ _ _ (B.pe e3) qw,by obtain⟨o,ho,hd⟩:=z;exact⟨o,hk _ _ ho,hd⟩⟩
 case cell=>intro x c e;refine jV scope.names (s.heap.push {cls:=.type "dict",data:=.dict #[]}) (fm scope X.env) (λa b jj=>?_) (by rw[hz];exact e);obtain⟨v,o,ho,hd⟩:=I.cell a b (B.up ok jj);exact⟨v,o,Qn _ ho,hd⟩
 case cT=>
  intro x c e;rcases vR x c e with ⟨h1,_⟩|h1
  ·exact I.hok.fresh (Qz (Sf _) h1)
  ·exact I.cT x c h1
 case pin=>intro p hp;cases hp
 case len=>show (c6 cap σ).length=N'.length;unfold c6;rw[Qx];exact B.len
noncomputable def Be(X:Cx)(C:Addr)(x:Value)(s':Shared):Prop:=∃m,s'.heap.Ns C m/\∀h',Heap.SameBut C s'.heap h'->∀uh:Env,uh.locals=C->wpAny (model X.prog X.w) X.A (passOn "comprehension.variables-let-go" x uh:Sem Value) (λ_ _=>False) X.xe {s' with heap:=h'}
structure zl(X:Cx)(scope:Scope)(N':List Str)(xb:Addr->Shared->Hp->List Addr->Value->Shared->Prop):Prop where
 note:∀(pins:List (Addr×Obj))(σ:St)(C:Addr)(s s1:Shared)(H H1:Hp)(fp:List Addr)x s',Inv X pins σ H1 s1->(∀b∈fp,gj X pins H1 b)->s1.heap.objs.size<C->s={s1 with heap:=s1.heap.push {cls:=.type "list",data:=.seq ([]:List Value).toArray},toks:=s1.toks}->H=upd H1 s1.heap.objs.size (.lst [])->C=s.heap.objs.size->
  xb C s H fp x s'->notedBy (model X.prog X.w) X.A (f6 X scope N' C s H fp (xb C s H fp)).env (Be X C) x s'
variable{elt tg iter:Expr}{ifs:List Expr}{pos:Pos}{wi:TI}{g:TG}{tt:TT}
theorem lI{gens:List Comprehension}{xb:Addr->Shared->Hp->List Addr->Value->Shared->Prop}{pins:List (Addr×Obj)}{σ:St}{H2:Hp}{s2:Shared}{it:Addr}{fp:List Addr}{tn:Nat->Heap->Prop}{J:It}{F:Hp->Prop}{tb:Addr->TB}{body:Value->Env->Sem Unit}{p:Pos}{RR:Value->Addr->Result->Shared->Prop}(hc:X.calm=true)(B:fv X scope N' cap)(hX:zl X scope N' xb)
  (heq:∀qF acc env,compTurn (.ListComp elt (⟨tg,iter,ifs,0⟩::gens) scope pos) 0 qF acc env=gE (.ListComp elt (⟨tg,iter,ifs,0⟩::gens) scope pos) 0 qF acc env tg ifs p (body acc env))
  (uC:GL (c6 cap σ) g) (hg:∀C s H fp,PG (f6 X scope N' C s H fp (xb C s H fp)) tg g) (ht:∀C s H fp,Ca (f6 X scope N' C s H fp (xb C s H fp)) ifs tt) (hb:∀C s H fp D,PB (f6 X scope N' C s H fp (xb C s H fp)) (body (.ref D) (f6 X scope N' C s H fp (xb C s H fp)).env) (tb D))
  (I2:Inv X pins σ H2 s2) (T:Turn X.prog X.w X.K tg J fp it tn) (AW:tn 0 s2.heap) (f2:∀b∈fp,gj X pins H2 b) (hF:rG J g tt (tb s2.heap.objs.size) (c6 cap σ) F (upd H2 s2.heap.objs.size (.lst [])))
  (N6:∀C s' H' m,s2.heap.objs.size<C->Inv X pins σ H' s'->s'.heap.Ns C m->gj X pins H' C->F H'->RR (.ref s2.heap.objs.size) C (.ok .next) s') (MH:∀C x s',Be X C x s'->RR (.ref s2.heap.objs.size) C (.error x) s') {E:Value->Shared->Prop}:
  wpAny (model X.prog X.w) X.A (newList []) (λacc s₃=>wpAny (model X.prog X.w) X.A (newFunctionEnv scope X.env.globals (fm scope X.env) [] X.env.qual none .none (some X.env)) (λuh s₄=>
   codeAny (model X.prog X.w) X.A (.compStart (.ListComp elt (⟨tg,iter,ifs,0⟩::gens) scope pos) 0 (.ref it) acc {uh with scope:=relabel scope X.env}) (RR acc uh.locals) s₄) E s₃) E s2:=by
 refine SZ (pR λh₁ hh₁=>?_);have I3:=I2.GO (ys:=[]) (its:=[]) (t':=s2.toks) .nil (Sm _);dsimp only at hh₁ ⊢;have hC:(s2.heap.push {cls:=.type "list",data:=.seq ([]:List Value).toArray}).objs.size=s2.heap.objs.size+1:=QS ..;generalize hD:s2.heap.objs.size=D at *;have yY:∀b∈fp,b<D:=λb hb=>by obtain⟨o,e,_⟩:=T.obj 0 _ AW b hb;rw[<-hD];exact Qy e
 have f3:∀b∈fp,gj X pins (upd H2 D (.lst [])) b:=λb hb=>⟨by rw[az (QT (yY b hb))];exact(f2 b hb).1,(f2 b hb).2⟩
 generalize hs3:({s2 with heap:=s2.heap.push {cls:=.type "list",data:=.seq ([]:List Value).toArray},toks:=s2.toks}:Shared)=s3 at I3;have wU:s3.heap=s2.heap.push {cls:=.type "list",data:=.seq ([]:List Value).toArray}:=by rw[<-hs3]
 have Bs:s3.heap.objs.size=D+1:=by rw[wU];exact hC
 have IB:=qj (xe:=xb s3.heap.objs.size s3 (upd H2 D (.lst [])) fp) (tk:=s2.toks) B I3 f3 (λb hb=>by rw[Bs];exact Sh (yY b hb));have hk:∀b o,s3.heap.get? b=some o->(pushCells (s3.heap.push {cls:=.type "dict",data:=.dict #[]}) scope.names).get? b=some o:=λb o e=>SN _ _ _ _ (Qn _ e)
 rw[<-wU]at hh₁;rw[<-hh₁]at IB hk;have e4:({s3 with heap:=h₁,toks:=s2.toks}:Shared)={s2 with heap:=h₁}:=by rw[<-hs3]
 rw[e4]at IB;rw[hC];have nS:∀{H':Hp},(∀b∈fp,H' b=none)->∀b∈fp,gj (f6 X scope N' s3.heap.objs.size s3 (upd H2 D (.lst [])) fp (xb s3.heap.objs.size s3 (upd H2 D (.lst [])) fp)) [] H' b:=λhn b hb=>
  ⟨hn b hb,by show b≠s3.heap.objs.size;rw[Bs];exact QT (Sh (yY b hb)),λz=>(by
   rcases QA.mp (I3.kL b z)with q|q
   ·exact(f3 b hb).2.1 q
   ·exact(f3 b hb).2.2.1 q),.inl hb,(IB.ok.Bq b hb).2,λp hp=>absurd hp (by intro z;cases z)⟩
 have loop:∀s':Shared,s'={s2 with heap:=h₁}->codeAny (model X.prog X.w) X.A (.compLoop (.ListComp elt (⟨tg,iter,ifs,0⟩::gens) scope pos) 0 (.ref it) (.ref D) (f6 X scope N' s3.heap.objs.size s3 (upd H2 D (.lst [])) fp (xb s3.heap.objs.size s3 (upd H2 D (.lst [])) fp)).env)
   (RR (.ref D) (D+1)) s':=by
  rintro s' rfl;refine um (X:=f6 X scope N' s3.heap.objs.size s3 (upd H2 D (.lst [])) fp (xb s3.heap.objs.size s3 (upd H2 D (.lst [])) fp)) hc (heq _ _ _) (λx s' q=>?_) (hg _ _ _ _) uC (ht _ _ _ _) (hb _ _ _ _ D) IB T (T.keep _ _ _ AW (λb hb o e=>hk b o (by rw[wU];exact Qn _ e))) (nS λb hb=>(f3 b hb).1) hF λs5 H5 I5 qn=>?_
  ·have z:=hX.note pins σ s3.heap.objs.size s3 s2 (upd H2 D (.lst [])) H2 fp x s' I2 f2 (by rw[Bs,hD];exact Si _) hs3.symm (by rw[hD]) rfl q;rw[Bs]at z;exact SY z (λ_ s'' w=>MH (D+1) x s'' w) λy s'' w=>MH (D+1) y s'' w
  ·obtain⟨m5,Gj,_⟩:=I5.loc;have un:Un (eD X.stack) fp H2 H5 s2.heap s5.heap:=by
    have u1:Un (eD X.stack) fp H2 (upd H2 D (.lst [])) s2.heap s3.heap:=by rw[wU];exact Un.laid (λb u e=>Qn _ e) (by rw[hD];exact Qu _) (by rw[<-hD];exact I2.fresh)
    exact u1.trans I5.base
   have hI:Inv X pins σ H5 s5:=I2.vL (ch:=fp) (I5.os.trans (by show s3.os=s2.os;rw[<-hs3])) un I5.hok I5.bare λb hb=>⟨(f2 b hb).2.2.2.1,(f2 b hb).2.1,(f2 b hb).2.2.2.2.1,(f2 b hb).2.2.2.2.2⟩
   have wN:s5.heap.Ns (D+1) m5:=by have q:s5.heap.Ns s3.heap.objs.size m5:=Gj;rw[Bs]at q;exact q
   have J6:H5 (D+1)=none:=by have q:H5 s3.heap.objs.size=none:=I5.free;rw[Bs]at q;exact q
   exact N6 (D+1) s5 H5 m5 (Si _) hI wN (I2.uz (by rw[hD];exact Sf _) J6) qn
 have J1:({newEnv scope (D+1) X.env.globals (cellsFrom (D+1+1) scope.names (fm scope X.env)) X.env.qual none .none (some X.env) builtinsNs with scope:=relabel scope X.env}:Env)=(f6 X scope N' s3.heap.objs.size s3 (upd H2 D (.lst [])) fp (xb s3.heap.objs.size s3 (upd H2 D (.lst [])) fp)).env:=by unfold f6;rw[Bs];rfl
 have go:=codeAny_compStart_list (loop _ rfl) (T.self X.A 0 _ _ _ (T.keep _ _ _ AW (λb hb o e=>hk b o (by rw[wU];exact Qn _ e))) (loop _ rfl));rw[<-J1]at go;exact go
end
noncomputable def rh(cap:List (Option Nat))(wi:TI)(g:TG)(tt:TT)(tb:Addr->TB):TE:=λσ H Q=>wi σ H λJ H1=>∀D,H1 D=none->GL (c6 cap σ) g/\rG J g tt (tb D) (c6 cap σ) (λH'=>Q (.ref D) H') (upd H1 D (.lst []))
section
variable{X:Cx}{scope:Scope}{N':List Str}{cap:List (Option Nat)}{elt tg iter:Expr}{ifs:List Expr}{gens:List Comprehension}{pos p:Pos}{wi:TI}{g:TG}{tt:TT}{tb:Addr->TB}{body:Value->Env->Sem Unit}{xb:Addr->Shared->Hp->List Addr->Value->Shared->Prop}
theorem xG(hc:X.calm=true)(B:fv X scope N' cap)(hX:zl X scope N' xb)(hi:PI X tg iter wi)(heq:∀qF acc env,compTurn (.ListComp elt (⟨tg,iter,ifs,0⟩::gens) scope pos) 0 qF acc env=gE (.ListComp elt (⟨tg,iter,ifs,0⟩::gens) scope pos) 0 qF acc env tg ifs p (body acc env))
  (hg:∀C s H fp,PG (f6 X scope N' C s H fp (xb C s H fp)) tg g) (ht:∀C s H fp,Ca (f6 X scope N' C s H fp (xb C s H fp)) ifs tt) (hb:∀C s H fp D,PB (f6 X scope N' C s H fp (xb C s H fp)) (body (.ref D) (f6 X scope N' C s H fp (xb C s H fp)).env) (tb D))
  (hs:∀x,foldedSetIterable iter X.env x=pure x:=by intro _;rfl):PE X (.ListComp elt (⟨tg,iter,ifs,0⟩::gens) scope pos) (rh cap wi g tt tb):=by
 intro pins s σ H Q I h;rw[eval_ListComp];refine wpAny_comprehension_free (use:=none) rfl hs (gf (B.frees I.ok)) B.kind (λy hy e=>by rw[B.nd y hy,e]) (bN (hi pins s σ H _ I h) λx s₁ h₁=>bN h₁ λqF s₂ h₂=>?_);obtain⟨it,fp,tn,J,H2,e,I2,T,AW,f2,hF⟩:=h₂;subst e;obtain⟨uC,hW⟩:=hF _ I2.fresh;refine lI (RR:=λacc C=>compPost (model X.prog X.w) X.A X.xe none (EP X pins σ Q) acc C) hc B hX heq uC hg ht hb I2 T AW f2 hW (λC s' H' m hC I' hn fC q=>?_) λC x s' z=>z
 refine⟨m,hn,λh' hsb=>⟨.ref _,H',I'.turned (t':=s'.toks) (λb o hb e=>(hsb.2 b hb).trans e) fC.1 fC.2.1 fC.2.2.2.1 fC.2.2.2.2.1 fC.2.2.2.2.2,rfl,q⟩⟩
theorem px{i:Nat}{x:Str}{pos' HD:Pos}(hc:X.calm=true)(hN:X.N.Nodup)(Oo:X.N[i]?=some x)(hx:X.env.kindOf x=some .local)(B:fv X scope N' cap)(hX:zl X scope N' xb)(hi:PI X tg iter wi)(heq:∀qF acc env,compTurn (.ListComp elt (⟨tg,iter,ifs,0⟩::gens) scope pos) 0 qF acc env=gE (.ListComp elt (⟨tg,iter,ifs,0⟩::gens) scope pos) 0 qF acc env tg ifs p (body acc env))
  (hg:∀C s H fp,PG (f6 X scope N' C s H fp (xb C s H fp)) tg g) (ht:∀C s H fp,Ca (f6 X scope N' C s H fp (xb C s H fp)) ifs tt) (hb:∀C s H fp D,PB (f6 X scope N' C s H fp (xb C s H fp)) (body (.ref D) (f6 X scope N' C s H fp (xb C s H fp)).env) (tb D))
  (hs:∀x,foldedSetIterable iter X.env x=pure x:=by intro _;rfl)
  (E4:swapsWith (.ListComp elt (⟨tg,iter,ifs,0⟩::gens) scope pos) (some (.Name x pos')) HD.line X.env=pure true:=by rfl):
  PS X (.Assign [.Name x pos'] (.ListComp elt (⟨tg,iter,ifs,0⟩::gens) scope pos) HD) (nW (rh cap wi g tt tb) (d7 i)):=by
 intro pins s σ H D I h;rw[exec_Assign_Name_used _ _ _ _ E4];refine Ql (Ta (Ql ?_));show wpAny _ X.A (do let _<-comprehension (.ListComp elt (⟨tg,iter,ifs,0⟩::gens) scope pos) scope X.env _ (newList []) false (eval iter X.env) (some (assign (.Name x pos') X.env))) _ _ s;refine Ql (SY (wpAny_comprehension_free (use:=some (assign (.Name x pos') X.env)) (Q:=λ_ s'=>SP X pins D .next s') rfl hs (gf (B.frees I.ok)) B.kind (λy hy e=>by rw[B.nd y hy,e]) (bN (hi pins s σ H _ I h) λx s₁ h₁=>bN h₁ λqF s₂ h₂=>?_))
  (λ_ s' hq=>Qo (Qo hq)) λ_ _ e=>e)
 obtain⟨it,fp,tn,J,H2,e,I2,T,AW,f2,hF⟩:=h₂;subst e;obtain⟨uC,hW⟩:=hF _ I2.fresh;refine lI (RR:=λacc C=>compPost (model X.prog X.w) X.A X.xe (some (assign (.Name _ pos') X.env)) (λ_ s'=>SP X pins D .next s') acc C) hc B hX heq uC hg ht hb I2 T AW f2 hW (λC s' H' m hC I' hn fC q=>?_) λC x s' z=>z
 show wpAny _ X.A (assign (.Name _ pos') X.env (.ref _)) _ _ _;refine wpAny_assign_Name (mv (v:=.ref _) I' hN Oo (.inl hx) rfl (λs3 I3 hsb=>?_) (.inr hx));obtain⟨a,sb,ha⟩:=hsb;have NT:C≠a:=by
  rcases ha with rfl|ha
  ·exact fC.2.1
  ·exact Sn (fC.2.2.2.2.1 _ a ha)
 refine⟨m,hn.sameBut sb NT,λh' hsb'=>?_⟩;exact⟨_,H',I3.turned (t':=s3.toks) (λb o hb e=>(hsb'.2 b hb).trans e) fC.1 fC.2.1 fC.2.2.2.1 fC.2.2.2.2.1 fC.2.2.2.2.2,q⟩
end
end L2
end
section
namespace Mx
open PySem
structure Dd(s s':Heap):Prop where
 sz:s.objs.size<=s'.objs.size
 none:∀b,b<s.objs.size->s.get? b=none->s'.get? b=none
theorem Dd.refl(h:Heap):Dd h h:=⟨Qu _,λ_ _ z=>z⟩
theorem Dd.trans{a b c:Heap}(x:Dd a b)(y:Dd b c):Dd a c:=⟨Qz x.sz y.sz,λk hk z=>y.none k (QJ hk x.sz) (x.none k hk z)⟩
theorem Dd.push(h:Heap)(o:Obj):Dd h (h.push o):=⟨by rw[QS];exact Sf _,λb hb z=>by
 cases hq:(h.push o).get? b with
 |none=>rfl
 |some o'=>
  obtain⟨q1,q2⟩:=Heap.get?_some_iff.mp hq;have q3:h.objs[b]?=some o':=by have e:(h.objs.push o)[b]?=some o':=q1;rw[Array.getElem?_push,SF (QT hb)]at e;exact e
  rw[Heap.get?_some_iff.mpr ⟨q3,q2⟩]at z;cases z⟩
theorem Dd.update(h:Heap)(a:Addr)(f:Obj->Obj)(ha:(h.get? a).isSome):Dd h (h.update a f):=⟨by rw[Heap.size_after_update];exact Qu _,λb hb z=>by
 by_cases e:a=b
 ·subst e;rw[z]at ha;cases ha
 ·rw[QQ _ _ e];exact z⟩
theorem nL{M:Model}{Γ:Ctx}{p:Pos}{t:Sem PySem.Fin}{fs:List Frame}{s s':Shared}{e:End}(h:Runs M Γ p t fs s e s'):Dd s.heap s'.heap:=by
 induction h with
 |update ha _ ih=>exact(Dd.update _ _ _ ha).trans ih
 |alloc _ ih=>exact(Dd.push _ _).trans ih
 |done=>exact Dd.refl _
 |raise=>exact Dd.refl _
 |yield=>exact Dd.refl _
 |call _ _ ih1 ih2=>exact ih1.trans ih2
 |resumeFresh _ _ _ _ ih1 ih2=>exact Dd.trans (b:=_) ih1 ih2
 |resumeSuspended _ _ _ _ ih1 ih2=>exact Dd.trans (b:=_) ih1 ih2
 |segRet _ _ ih1 ih2=>exact ih1.trans ih2
 |segGen _ _ ih1 ih2=>exact Dd.trans (b:=_) ih1 ih2
 |segSuspGen _ _ _ _ ih1 ih2=>exact Dd.trans (b:=_) ih1 ih2
 |_=>assumption
theorem yK{M:Model}{Γ:Ctx}{p:Pos}{g:Nat}{r:Resume}{s s':Shared}{res:GenResult}(h:Wakes M Γ p g r s res s'):Dd s.heap s'.heap:=by
 unfold Wakes at h;split at h
 ·exact h.elim
 ·split at h
  ·obtain⟨e₁,s₁,hr,_,_,rfl⟩:=h;exact(nL hr:Dd (s.setGen g .running).heap s₁.heap)
  ·rw[h.2];exact Dd.refl _
  ·rw[h.2];exact Dd.refl _
 ·obtain⟨e₁,s₁,hr,_,_,rfl⟩:=h;exact(nL hr:Dd (s.setGen g .running).heap s₁.heap)
 ·rw[h.2];exact Dd.refl _
 ·rw[h.2];exact Dd.refl _
theorem HZ{α:Type}(M:Model)(Γ:Ctx)(h0:Heap)(t:Sem α):∀(Q:α->Pos->Shared->Prop)(E:Value->Pos->Shared->Prop)(p:Pos)(s:Shared),Dd h0 s.heap->Sem.wp M Γ t Q E p s->
  Sem.wp M Γ t (λa p' s'=>Dd h0 s'.heap/\Q a p' s') (λe p' s'=>Dd h0 s'.heap/\E e p' s') p s:=by
 induction t with
 |pure a=>intro Q E p s hn h;exact⟨hn,h⟩
 |raise e=>intro Q E p s hn h;exact⟨hn,h⟩
 |unsupported _=>intro Q E p s _ h;exact h
 |finish _=>intro Q E p s _ h;exact h
 |rule _ k ih=>intro Q E p s hn h;exact ih () Q E p s hn h
 |«at» p' k ih=>intro Q E p s hn h;exact ih () Q E p' s hn h
 |load a _ k ih=>intro Q E p s hn h;obtain⟨o,ho,h⟩:=h;exact⟨o,ho,ih o Q E p s hn h⟩
 |update a _ f k ih=>intro Q E p s hn h;exact⟨h.1,ih () Q E p _ (hn.trans (Dd.update _ _ _ h.1)) h.2⟩
 |loadIfAlive a k ih=>intro Q E p s hn h;exact ih _ Q E p s hn h
 |point _ k ih=>intro Q E p s hn h;exact ih () Q E p s hn h
 |register _ _=>intro Q E p s _ h;exact h
 |alloc o k ih=>intro Q E p s hn h;exact ih _ Q E p _ (hn.trans (Dd.push _ _)) h
 |fresh k ih=>intro Q E p s hn h;exact ih _ Q E p _ hn h
 |ask k ih=>intro Q E p s hn h;exact ih _ Q E p s hn h
 |choose src m k ih=>intro Q E p s hn h;exact⟨h.1,ih _ Q E p _ hn h.2⟩
 |os q _ k ih=>intro Q E p s hn h;exact ih _ Q E p _ hn h
 |call c hd _ _ k ih=>intro Q E p s hn h;obtain⟨r,s',hr,h⟩:=h;exact⟨r,s',hr,ih r Q E p s' (hn.trans (nL hr)) h⟩
 |handled own k ih=>intro Q E p s hn h;exact ih _ Q E p s hn h
 |genState g k ih=>intro Q E p s hn h;obtain⟨st,hs,h⟩:=h;exact⟨st,hs,ih _ Q E p s hn h⟩
 |newGen c k ih=>intro Q E p s hn h;exact ih _ Q E p _ hn h
 |resume g r _ k ih=>intro Q E p s hn h;obtain⟨res,s',hw,h⟩:=h;exact⟨res,s',hw,ih res Q E p s' (hn.trans (yK hw)) h⟩
 |yield _ _ _ _=>intro Q E p s _ h;exact h
 |stack k ih=>intro Q E p s hn h;exact ih _ Q E p s hn h
 |fork _ _=>intro Q E p s _ h;exact h
 |thread k ih=>intro Q E p s hn h;exact ih _ Q E p s hn h
 |await _ _ _ _ _=>intro Q E p s _ h;exact h
theorem lC{α:Type}{M:Model}{A:Around}{s:Shared}{t:Sem α}{Q:α->Shared->Prop}{E:Value->Shared->Prop}(h:wpAny M A t (λa s'=>Dd s.heap s'.heap->Q a s') (λe s'=>Dd s.heap s'.heap->E e s') s):wpAny M A t Q E s:=
 have q:wpAny M A t (λa s'=>Dd s.heap s'.heap/\(Dd s.heap s'.heap->Q a s')) (λe s'=>Dd s.heap s'.heap/\(Dd s.heap s'.heap->E e s')) s:=λΓ p hΓ=>HZ M Γ s.heap t _ _ p s (Dd.refl _) (h Γ p hΓ)
 SY q (λ_ _ x=>x.2 x.1) (λ_ _ x=>x.2 x.1)
end Mx
end
section
namespace L2
open PySem PySem.Spec PyProof.Rows
theorem j0(o:Obj)(f:Array Value->Array Value):(o.mapFields f).dict=o.dict:=by obtain⟨c,d,dt,sl⟩:=o;cases dt<;>rfl
noncomputable def dc(h:Heap)(a T:Addr):Prop:=∃o vs,h.get? a=some o/\o.data= .fields vs/\vs[1]?=some (.ref T)
structure gI(N:Nat)(cls:Value)(a:Addr)(H:Hp)(h:Heap):Prop where
 ge:N<=a
 nH:H a=none
 obj:∃o vs,h.get? a=some o/\(o.cls=cls/\o.dict=none)/\o.data= .fields vs/\(vs[1]?=some .none\/∃T,vs[1]?=some (.ref T))
 tb:∀T,dc h a T->N<=T/\H T=none/\T≠a/\∃oT ts,h.get? T=some oT/\oT.data= .fields ts/\3<ts.size
structure qc(fs:List Addr)(a:Addr)(h h':Heap):Prop where
 keep:∀b o,h.get? b=some o->b≠a->¬dc h a b->b∉fs->h'.get? b=some o
 slot:∀b o,h.get? b=some o->b≠a->¬dc h a b->∃sl,h'.get? b=some {o with slots:=sl}
 there:∀b o,h.get? b=some o->∃o',h'.get? b=some o'
 tb:∀T,dc h' a T->dc h a T\/h.get? T=none
theorem qc.trans{fs:List Addr}{a:Addr}{h h1 h2:Heap}(x:qc fs a h h1)(y:qc fs a h1 h2):qc fs a h h2 where
 keep:=λb o e n nt nf=>by
  have e1:=x.keep b o e n nt nf;exact y.keep b o e1 n (λz=>by
   rcases x.tb b z with q|q
   ·exact nt q
   ·rw[e]at q;cases q) nf
 slot:=λb o e n nt=>by
  obtain⟨sl,e1⟩:=x.slot b o e n nt;obtain⟨p7,e2⟩:=y.slot b _ e1 n (λz=>by
   rcases x.tb b z with q|q
   ·exact nt q
   ·rw[e]at q;cases q)
  exact⟨p7,e2⟩
 there:=λb o e=>by obtain⟨o1,e1⟩:=x.there b o e;exact y.there b o1 e1
 tb:=λT z=>by
  rcases y.tb T z with q|q
  ·exact x.tb T q
  ·right;cases hq:h.get? T with
   |none=>rfl
   |some o=>obtain⟨o',e'⟩:=x.there T o hq;rw[e']at q;cases q
theorem qc.refl{fs:List Addr}{a:Addr}{h:Heap}:qc fs a h h:=⟨λ_ _ e _ _ _=>e,λ_ o e _ _=>⟨o.slots,e⟩,λ_ o e=>⟨o,e⟩,λ_ z=>.inl z⟩
section
variable{M:Model}{A:Around}{E:Value->Shared->Prop}{s:Shared}{N:Nat}{cls:Value}{a:Addr}{H:Hp}{base:Heap}{env fz:Env}{outer:List Env}{L:Addr}
theorem jm(e:Value)(h:env.frame=fz.frame):noteFrame e env=noteFrame e fz:=by unfold noteFrame PySem.frameOf;rw[h]
theorem oH(pZ:A.frames=some (env::outer))(hl:s.heap.FunFrames base (env::outer))(hf:env.frame=some L)(F:gI N cls a H s.heap)(fresh:∀b,s.heap.objs.size<=b->H b=none){head:Value}{zM:Bool}{Q:Unit->Shared->Prop}
  (q:∀h',qc (eD (env::outer)) a s.heap h'->gI N cls a H h'->(∃T,dc h' a T)->Q () {s with heap:=h'}):
  wpAny M A (do let x<-frameOf env;let pl<-entryPlaceOf L zM;let b<-EntryCells.newEntry head x .none (rawInt L) .none pl;setField (.ref a) 1 b) Q E s:=by
 obtain⟨oe,vs,he,oO,hd,h1⟩:=F.obj;have kY:1<vs.size:=by rcases h1 with h1|⟨T,h1⟩<;>exact(Array.getElem?_eq_some_iff.mp h1).1
 have Ks:a∉eD (env::outer):=λhm=>by obtain⟨_,o,ho,IQ⟩:=hl.mem hm;rw[he]at ho;injection ho with ho;subst ho;exact IQ vs hd
 refine Ql (wpAny_frameOf_fun pZ hl hf λh₁ hs₁=>?_);refine Ql (wpAny_entryPlaceOf λpl eL=>?_);unfold EntryCells.newEntry newFields;refine Ql (SZ ?_ (eL.sizeOk5 _ _ _ _ _));have he₁:h₁.get? a=some oe:=(hs₁.2.1 a Ks).trans he;generalize hT:({cls:=.type "traceback",dict:=none,data:=.fields ([head,.ref L,.none,rawInt L,.none]++(if pl.isEmpty then List.replicate 6 Value.none else pl)).toArray}:Obj)=oT;have N8:oT.data= .fields ([head,.ref L,.none,rawInt L,.none]++(if pl.isEmpty then List.replicate 6 Value.none else pl)).toArray:=by rw[<-hT]
 have N9:oT.isFreed=false:=by rw[<-hT];rfl
 have he₂:=Qn (h:=h₁) oT he₁;refine wpAny_setField he₂ hd kY (q _ ?_ ?_ ?_)
 all_goals
  have hz:h₁.objs.size=s.heap.objs.size:=hs₁.1;have MJ:h₁.objs.size≠a:=Sk (Qy he₁);have hd₃:=Obj.data_mapFields hd (·.setIfInBounds 1 (Value.ref h₁.objs.size));have he₃:=Heap.get?_update_self (Obj.mapFields (·.setIfInBounds 1 (Value.ref h₁.objs.size))) he₂ (Obj.isFreed_of_fields hd₃);have hT₃:=(QQ (h₁.push oT) (Obj.mapFields (·.setIfInBounds 1 (Value.ref h₁.objs.size))) (Sn MJ)).trans (Qw h₁ N9);have kp:∀b o,b≠a->h₁.get? b=some o->((h₁.push oT).update a (Obj.mapFields (·.setIfInBounds 1 (Value.ref h₁.objs.size)))).get? b=some o:=λb o hb e=>
   (QQ _ _ (Sn hb)).trans (Qn _ e)
  have Nm:∀T,dc ((h₁.push oT).update a (Obj.mapFields (·.setIfInBounds 1 (Value.ref h₁.objs.size)))) a T->T=h₁.objs.size:=λT⟨o,ws,z1,z2,z3⟩=>by rw[he₃]at z1;cases z1;rw[hd₃]at z2;cases z2;simp[kY]at z3;exact z3.symm
 ·refine⟨λb o e n nt nf=>kp b o n ((hs₁.2.1 b nf).trans e),λb o e n nt=>?_,λb o e=>?_,λT z=>.inr ?_⟩
  ·obtain⟨sl,e1⟩:=hs₁.2.2 b o e;exact⟨sl,kp b _ n e1⟩
  ·by_cases hb:b=a
   ·subst hb;exact⟨_,he₃⟩
   ·obtain⟨sl,e1⟩:=hs₁.2.2 b o e;exact⟨_,kp b _ hb e1⟩
  ·rw[Nm T z,hz];exact Heap.get?_none_of_le (Qu _)
 ·refine⟨F.ge,F.nH,⟨_,_,he₃,⟨(Obj.cls_mapFields _ _).trans oO.1,(j0 _ _).trans oO.2⟩,hd₃,.inr ⟨h₁.objs.size,by simp[kY]⟩⟩,λT z=>?_⟩;have e:=Nm T z;subst e;refine⟨?_,fresh _ (by rw[hz];exact Qu _),MJ,oT,_,hT₃,N8,by simp⟩;rw[hz];exact Qz F.ge (Se (Qy he))
 ·exact⟨h₁.objs.size,_,_,he₃,hd₃,by simp[kY]⟩
theorem wt(pZ:A.frames=some (env::outer))(hl:s.heap.FunFrames base (env::outer))(hf:env.frame=some L)(F:gI N cls a H s.heap)(fresh:∀b,s.heap.objs.size<=b->H b=none){Q:Unit->Shared->Prop}
  (q:∀h',qc (eD (env::outer)) a s.heap h'->gI N cls a H h'->(∃T,dc h' a T)->Q () {s with heap:=h'}):wpAny M A (noteFrame (.ref a) env) Q E s:=by
 obtain⟨oe,vs,he,oO,hd,h1⟩:=id F.obj;unfold noteFrame;simp only[hf];rcases h1 with h1|⟨T,h1⟩
 ·refine Ql (SW he hd h1 ?_);rw[SF (by decide)];exact oH pZ hl hf F fresh q
 ·have qv:dc s.heap a T:=⟨oe,vs,he,hd,h1⟩;obtain⟨t1,t2,t3,oT,ts,hT,wJ,h3⟩:=F.tb T qv;refine Ql (SW he hd h1 ?_);rw[SH (show (Value.ref T != Value.none)=true from by simp)];refine Ql (SW hT wJ (x:=ts[3]) (by simp[h3]) ?_);split
  ·have e:s={s with heap:=s.heap}:=by cases s;rfl
   rw[e];exact Qo (q s.heap qc.refl F ⟨T,qv⟩)
  ·refine Ql (wpAny_setField hT wJ h3 ?_);have other:∀b,b≠T->(s.heap.update T (Obj.mapFields (·.setIfInBounds 3 Value.none))).get? b=s.heap.get? b:=λb hb=>QQ _ _ (Sn hb)
   have FW:=Heap.get?_update_self (Obj.mapFields (·.setIfInBounds 3 Value.none)) hT (Obj.isFreed_of_fields (Obj.data_mapFields wJ _));have HU:∀T',dc (s.heap.update T (Obj.mapFields (·.setIfInBounds 3 Value.none))) a T'->T'=T:=λT'⟨o,ws,z1,z2,z3⟩=>by rw[other a (Sn t3),he]at z1;cases z1;rw[hd]at z2;cases z2;rw[h1]at z3;cases z3;rfl
   have F':gI N cls a H (s.heap.update T (Obj.mapFields (·.setIfInBounds 3 Value.none))):=by refine⟨F.ge,F.nH,⟨oe,vs,(other a (Sn t3)).trans he,oO,hd,.inr ⟨T,h1⟩⟩,λT' z=>?_⟩;rw[HU T' z];exact⟨t1,t2,t3,_,_,FW,Obj.data_mapFields wJ _,by simpa using h3⟩
   have uE:(s.heap.update T (Obj.mapFields (·.setIfInBounds 3 Value.none))).FunFrames base (env::outer):=hl.of_keeps λb o hb IQ=>⟨o,(other b λz=>by
    subst z;rw[hT]at hb;cases hb;exact IQ ts wJ).trans hb,rfl⟩
   refine oH (s:={s with heap:=s.heap.update T (Obj.mapFields (·.setIfInBounds 3 Value.none))}) pZ uE hf F' (λb hb=>fresh b (by
    have:(s.heap.update T (Obj.mapFields (·.setIfInBounds 3 Value.none))).objs.size=s.heap.objs.size:=Heap.size_after_update ..;rw[this]at hb;exact hb)) λh' x f t=>q h' (qc.trans ⟨λb o e n nt nf=>(other b λz=>nt (z▸qv)).trans e,λb o e n nt=>⟨o.slots,(other b λz=>nt (z▸qv)).trans e⟩,λb o e=>?_,λT' z=>.inl (by rw[HU T' z];exact qv)⟩ x) f t
   by_cases hb:b=T
   ·subst hb;exact⟨_,FW⟩
   ·exact⟨o,(other b hb).trans e⟩
theorem sv(pZ:A.frames=some (fz::outer))(hl:s.heap.FunFrames base (fz::outer))(Oj:fz.frame=some L)(hf:env.frame=fz.frame)(F:gI N cls a H s.heap)(fresh:∀b,s.heap.objs.size<=b->H b=none){Q:Unit->Shared->Prop}
  (q:∀h',qc (eD (fz::outer)) a s.heap h'->gI N cls a H h'->(∃T,dc h' a T)->Q () {s with heap:=h'}):wpAny M A (noteFrame (.ref a) env) Q E s:=by
 rw[jm _ hf];exact wt pZ hl Oj F fresh q
theorem d5{fs:List Addr}{fl:Option Addr}(F:gI N cls a H s.heap)(ht:∃T,dc s.heap a T){Q:Unit->Shared->Prop}(q:∀h',qc fs a s.heap h'->gI N cls a H h'->(∃T,dc h' a T)->Q () {s with heap:=h'}):wpAny M A (setFlight (.ref a) fl) Q E s:=by
 obtain⟨T,qv⟩:=ht;obtain⟨t1,t2,t3,oT,ts,hT,wJ,h3⟩:=F.tb T qv;obtain⟨oe,vs,he,hd,h1⟩:=id qv;obtain⟨Qg,u6,IP,oO,kX,_⟩:=id F.obj;rw[he]at IP;cases IP;unfold setFlight;refine Ql (SW he hd h1 ?_);rw[SH (show (Value.ref T != Value.none)=true from by simp)];refine wpAny_setField hT wJ h3 ?_;generalize hx:(fl.elim Value.none λf=>rawInt f)=x;have other:∀b,b≠T->(s.heap.update T (Obj.mapFields (·.setIfInBounds 3 x))).get? b=s.heap.get? b:=λb hb=>QQ _ _ (Sn hb)
 have FW:=Heap.get?_update_self (Obj.mapFields (·.setIfInBounds 3 x)) hT (Obj.isFreed_of_fields (Obj.data_mapFields wJ _));have HU:∀T',dc (s.heap.update T (Obj.mapFields (·.setIfInBounds 3 x))) a T'->T'=T:=λT'⟨o,ws,z1,z2,z3⟩=>by rw[other a (Sn t3),he]at z1;cases z1;rw[hd]at z2;cases z2;rw[h1]at z3;cases z3;rfl
 refine q _ ⟨λb o e n nt nf=>(other b λz=>nt (z▸qv)).trans e,λb o e n nt=>⟨o.slots,(other b λz=>nt (z▸qv)).trans e⟩,λb o e=>?_,λT' z=>.inl (by rw[HU T' z];exact qv)⟩ ⟨F.ge,F.nH,⟨oe,vs,(other a (Sn t3)).trans he,oO,hd,.inr ⟨T,h1⟩⟩,λT' z=>?_⟩ ⟨T,oe,vs,(other a (Sn t3)).trans he,hd,h1⟩
 ·by_cases hb:b=T
  ·subst hb;exact⟨_,FW⟩
  ·exact⟨o,(other b hb).trans e⟩
 ·rw[HU T' z];exact⟨t1,t2,t3,_,_,FW,Obj.data_mapFields wJ _,by simpa using h3⟩
theorem zG{fs:List Addr}{Mh:String}{α:Type}(F:gI N cls a H s.heap)(ht:∃T,dc s.heap a T){Q:α->Shared->Prop}(q:∀h',qc fs a s.heap h'->gI N cls a H h'->(∃T,dc h' a T)->E (.ref a) {s with heap:=h'}):wpAny M A (passOn Mh (.ref a) env:Sem α) Q E s:=by obtain⟨T,qv⟩:=id ht;obtain⟨oe,vs,he,hd,h1⟩:=qv;unfold PySem.passOn;refine Ql (SW he hd h1 ?_);rw[SF (show¬((Value.ref T==Value.none)=true) from by simp)];exact Ql (d5 F ht λh' x f t=>wpAny_throw (q h' x f t))
theorem zF{fs:List Addr}(F:gI N cls a H s.heap)(ht:∃T,dc s.heap a T)(q:∀h',qc fs a s.heap h'->gI N cls a H h'->(∃T,dc h' a T)->E (.ref a) {s with heap:=h'}):cameBackBy M A env E (.ref a) s:=by obtain⟨T,qv⟩:=id ht;obtain⟨oe,vs,he,hd,h1⟩:=qv;unfold cameBackBy;refine Ql (SW he hd h1 ?_);rw[SF (show¬((Value.ref T==Value.none)=true) from by simp)];exact d5 F ht λh' x f t=>q h' x f t
end
section
variable{X:Cx}{σ:St}{H:Hp}{s:Shared}{cls:Value}{a:Addr}
theorem Inv.EH{h':Heap}(BC:X.pn=[])(I:Inv X [] σ H s)(F:gI X.s₀.heap.objs.size cls a H s.heap)(x:qc (eD X.stack) a s.heap h'):Inv X [] σ H {s with heap:=h'}:=by
 obtain⟨oa,va,ha,ML,Of,Qd⟩:=F.obj;have L9:∀b,dc s.heap a b->X.s₀.heap.objs.size<=b/\H b=none/\b≠a/\∃oT ts,s.heap.get? b=some oT/\oT.data= .fields ts/\3<ts.size:=F.tb;have Mp:∀b o,s.heap.get? b=some o->(∀vs,o.data≠ .fields vs)->b≠a/\¬dc s.heap a b:=λb o e nf=>by
  refine⟨λz=>?_,λz=>?_⟩
  ·subst z;rw[ha]at e;cases e;exact nf va Of
  ·obtain⟨_,_,_,oT,ts,hT,wJ,_⟩:=L9 b z;rw[hT]at e;cases e;exact nf ts wJ
 have old:∀b o,X.s₀.heap.get? b=some o->b≠a/\¬dc s.heap a b:=λb o e=>by
  refine⟨λz=>?_,λz=>?_⟩
  ·subst z;exact absurd (QJ (Qy e) F.ge) (Sg _)
  ·exact absurd (QJ (Qy e) (L9 b z).1) (Sg _)
 have Jf:∀b o,X.s₀.heap.get? b=some o->b≠X.env.locals:=λb o e=>QT (QJ (Qy e) I.ok.above)
 have AX:∀b o,X.s₀.heap.get? b=some o->b∈eD X.stack->b∈X.fs:=λb o e z=>by
  rcases QA.mp (I.kL b z)with q|q
  ·exact absurd q (Jf b o e)
  ·exact q
 have Em:∀c u,H c=some u->∀v,s.heap.get? c=some v->h'.get? c=some v:=λc u hc v e=>by
  refine x.keep c v e (λz=>by subst z;rw[F.nH]at hc;cases hc) (λz=>by rw[(L9 c z).2.1]at hc;cases hc) λz=>?_
  rw[I.nU c z]at hc;cases hc
 have cellK:∀y c,X.env.cells.lookup y=some c->∀v,s.heap.IsCell c v->h'.IsCell c v:=λy c e v⟨o,ho,hd⟩=>by
  obtain⟨n1,n2⟩:=Mp c o ho λvs q=>by rw[hd]at q;cases q
  obtain⟨sl,q⟩:=x.slot c o ho n1 n2;exact⟨_,q,hd⟩
 refine⟨I.ok,I.os,I.bare,⟨λb o e n hb hx=>?_,λb o e n hb hx=>?_,I.base.free,λb o e hx=>?_,I.base.tups,I.base.frzs,I.base.tbls⟩,?_,λy c e=>?_,I.free,I.cT,λp hp=>?_,?_,I.len⟩
 ·exact x.keep b o (I.base.keep b o e n hb hx) (old b o e).1 (old b o e).2 λz=>hb (AX b o e z)
 ·obtain⟨sl,e1⟩:=I.base.slot b o e n hb hx;obtain⟨HA,e2⟩:=x.slot b _ e1 (old b o e).1 (old b o e).2;exact⟨HA,e2⟩
 ·obtain⟨o',e1⟩:=I.base.there b o e hx;exact x.there b o' e1
 ·obtain⟨m,⟨o,es,ep,ho,hd,r⟩,hl⟩:=I.loc;obtain⟨n1,n2⟩:=Mp _ o ho λvs q=>by rw[hd]at q;cases q
  obtain⟨sl,q⟩:=x.slot _ o ho n1 n2;refine⟨m,⟨_,es,ep,q,hd,r⟩,λi y v e1 e2 e3=>?_⟩;obtain⟨u,rr,l⟩:=hl i y v e1 e2 e3;refine⟨u,rr,?_⟩;rcases l with l|⟨k,c,e,z⟩
  ·exact .inl l
  ·exact .inr ⟨k,c,e,cellK y c e _ z⟩
 ·obtain⟨v,z⟩:=I.cell y c e;exact⟨v,cellK y c e v z⟩
 ·rw[BC]at hp;cases hp
 ·intro b u e;refine(I.hok b u e).ly (λc v hc q=>?_) (λ_ q=>q) λ_ _ q=>q
  rcases hc with rfl|hc
  ·exact Em c u e v q
  ·exact Em c _ hc v q
end
noncomputable def iK(X:Cx)(E:XK)(e:Value)(s':Shared):Prop:=∃σ H' a cls,e= .ref a/\Inv X [] σ H' s'/\gI X.s₀.heap.objs.size cls a H' s'.heap/\E cls none H'
noncomputable def nZ(P:Program)(w:World):jt:=λouter H s E e s'=>∃H' a cls,e= .ref a/\s'.os=s.os/\AllBare s'.gens/\Un (eD outer) [] H H' s.heap s'.heap/\dX P w H' s'.heap/\gI s.heap.objs.size cls a H' s'.heap/\E cls none H'
structure ff(X:Cx):Prop where
 pn:X.pn=[]
 st:∃fz kr L,X.stack=fz::kr/\fz.frame=some L/\X.env.frame=fz.frame
section
variable{X:Cx}{E:XK}
theorem yx{CX:jt}{P:Program}{w:World}{K:PySem.W.Frag}{mg:Str->Option Value}{base:Heap}{N:List Str}{qual:Str}{scope:Scope}{f:Addr}{cd:Value}{A:Around}{outer:List Env}{s:Shared}{H:Hp}:ff (jY CX P w K mg base N qual scope f cd A outer s H E):=
 ⟨rfl,_,_,_,rfl,rfl,rfl⟩
theorem tQ{scope:Scope}{N':List Str}{C:Addr}{s:Shared}{H:Hp}{fp:List Addr}{xe:Value->Shared->Prop}(st:ff X):ff (f6 X scope N' C s H fp xe):=by obtain⟨hp,fz,kr,L,h1,h2,h3⟩:=st;exact⟨rfl,fz,kr,L,h1,h2,h3⟩
theorem gI.down{N N':Nat}{cls:Value}{a:Addr}{H:Hp}{h:Heap}(F:gI N cls a H h)(hn:N'<=N):gI N' cls a H h:=⟨Qz hn F.ge,F.nH,F.obj,λT z=>⟨Qz hn (F.tb T z).1,(F.tb T z).2⟩⟩
theorem yN{pins:List (Addr×Obj)}{σ:St}{H:Hp}{s s':Shared}{e:Value}(I:Inv X pins σ H s)(BC:X.pn=[])(c:nZ X.prog X.w X.stack H s E e s'):iK X E e s':=by
 obtain⟨H',a,cls,e1,h1,h2,h3,h4,h5,h6⟩:=c;have I1:Inv X pins σ H' s':=I.vL (ch:=[]) h1 h3 h4 h2 λb z=>by cases z
 refine⟨σ,H',a,cls,e1,I1.fW (λp hp=>by cases hp),h5.down I.sz,h6⟩
theorem my(st:ff X){e:Value}{s:Shared}(h:iK X E e s){Q:Unit->Shared->Prop}{E2:Value->Shared->Prop}(q:∀σ H' a cls s',e= .ref a->Inv X [] σ H' s'->gI X.s₀.heap.objs.size cls a H' s'.heap->(∃T,dc s'.heap a T)->E cls none H'->Q () s'):wpAny (model X.prog X.w) X.A (noteFrame e X.env) Q E2 s:=by
 obtain⟨σ,H',a,cls,rfl,I,F,hE⟩:=h;obtain⟨hp,fz,kr,L,h1,h2,h3⟩:=st;have pZ:=I.ok.frames;have hl:=I.stack;rw[h1]at pZ hl;refine sv pZ hl h2 h3 F (λb hb=>I.hok.fresh hb) λh' x f t=>?_
 rw[<-h1]at x;exact q σ H' a cls _ rfl (I.EH hp F x) f t hE
theorem pT(st:ff X){e:Value}{s:Shared}(h:iK X E e s){R:Value->Shared->Prop}(q:∀σ H' a cls s',e= .ref a->Inv X [] σ H' s'->gI X.s₀.heap.objs.size cls a H' s'.heap->(∃T,dc s'.heap a T)->E cls none H'->R e s'):notedBy (model X.prog X.w) X.A X.env R e s:=
 my st h q
theorem tZ(st:ff X)(hx:∀e s',iK X E e s'->X.xe e s')(C9:∀e s',X.xe e s'->iK X E e s'):PassesOwn (model X.prog X.w) X.A X.env X.xe:=λe s' h=>by
 refine pT st (C9 e s' h) λσ H' a cls s1 e1 I1 F1 t1 hE=>?_
 subst e1;exact zF (fs:=eD X.stack) F1 t1 λh' x f t=>hx _ _ ⟨σ,H',a,cls,rfl,I1.EH st.pn F1 x,f,hE⟩
end
theorem EF{P:Program}{w:World}{K:PySem.W.Frag}{mg:Str->Option Value}{base:Heap}{N:List Str}{qual:Str}{scope:Scope}{f:Addr}{cd:Value}{A:Around}{outer:List Env}{s:Shared}{H:Hp}{E:XK}{e:Value}{s':Shared}
  (h:iK (jY (nZ P w) P w K mg base N qual scope f cd A outer s H E) E e s'):(jY (nZ P w) P w K mg base N qual scope f cd A outer s H E).xe e s':=by
 have st:=yx (CX:=nZ P w) (P:=P) (w:=w) (K:=K) (mg:=mg) (base:=base) (N:=N) (qual:=qual) (scope:=scope) (f:=f) (cd:=cd) (A:=A) (outer:=outer) (s:=s) (H:=H) (E:=E);show wpAny (model P w) (A.deeper (envOfC qual scope s.heap.objs.size f cd)) (leaving (envOfC qual scope s.heap.objs.size f cd) e) (λ_ s''=>nZ P w outer H s E e s'') (λe' s''=>nZ P w outer H s E e' s'') s';unfold leaving;refine Ql (my st h λσ H' a cls s1 e1 I1 F1 t1 hE=>?_);subst e1;refine d5 (fs:=eD (jY (nZ P w) P w K mg base N qual scope f cd A outer s H E).stack) F1 t1 λh' x f' t=>?_
 have I2:=I1.EH st.pn F1 x;exact⟨H',a,cls,rfl,I2.os,I2.bare,I2.base,I2.hok,f',hE⟩
section
variable{X:Cx}{E:XK}{scope:Scope}{N':List Str}
theorem Cx.Ok.xe{xe:Value->Shared->Prop}(k:X.Ok):Cx.Ok {X with xe:=xe}:=⟨k.mod,k.kind,k.glob,k.blt,k.above,k.inj,k.has,k.yW,k.hd,k.frames,k.AX,k.Bq,k.bs,k.vH,k.lp,k.mW,k.gq,k.zH⟩
theorem Inv.xe{xe:Value->Shared->Prop}{pins:List (Addr×Obj)}{σ:St}{H:Hp}{s:Shared}(I:Inv X pins σ H s):Inv {X with xe:=xe} pins σ H s:=⟨I.ok.xe,I.os,I.bare,I.base,I.loc,I.cell,I.free,I.cT,I.pin,I.hok,I.len⟩
noncomputable def Bb(X:Cx)(scope:Scope)(N':List Str)(E:XK)(C:Addr)(s:Shared)(H:Hp)(fp:List Addr):Value->Shared->Prop:=iK (f6 X scope N' C s H fp λ_ _=>False) E
theorem ED{C:Addr}{s:Shared}{H:Hp}{fp:List Addr}{e:Value}{s':Shared}{xe:Value->Shared->Prop}(h:iK (f6 X scope N' C s H fp xe) E e s'):Bb X scope N' E C s H fp e s':=by obtain⟨σ,H',a,cls,e1,I,F,hE⟩:=h;exact⟨σ,H',a,cls,e1,I.xe,F,hE⟩
theorem DC{C:Addr}{s:Shared}{H:Hp}{fp:List Addr}{e:Value}{s':Shared}{xe:Value->Shared->Prop}(h:Bb X scope N' E C s H fp e s'):iK (f6 X scope N' C s H fp xe) E e s':=by obtain⟨σ,H',a,cls,e1,I,F,hE⟩:=h;exact⟨σ,H',a,cls,e1,I.xe,F,hE⟩
theorem gI.at{h0:Nat}{cls:Value}{a:Addr}{H:Hp}{h h':Heap}(F:gI h0 cls a H h)(k:∀b o vs,h.get? b=some o->o.data= .fields vs->h'.get? b=some o):gI h0 cls a H h':=by obtain⟨o,vs,h1,h2,h3,h4⟩:=F.obj;have e1:=k a o vs h1 h3;refine⟨F.ge,F.nH,⟨o,vs,e1,h2,h3,h4⟩,λT z=>?_⟩;obtain⟨o',ws,z1,z2,z3⟩:=z;rw[e1]at z1;cases z1;obtain⟨t1,t2,t3,oT,ts,t4,t5,t6⟩:=F.tb T ⟨o,ws,h1,z2,z3⟩;exact⟨t1,t2,t3,oT,ts,k T oT ts t4 t5,t5,t6⟩
theorem tY(st:ff X)(O5:∀e s',iK X E e s'->X.xe e s'):zl X scope N' (Bb X scope N' E):=by
 refine⟨λpins σ C s s1 H H1 fp x s' I1 f1 hC hs hH Bs hxb=>?_⟩;refine pT (X:=f6 X scope N' C s H fp (Bb X scope N' E C s H fp)) (tQ st) (DC hxb) λσ' H' a cls s5 e1 I5 F5 t5 hE=>?_
 subst e1;obtain⟨m5,Gj,_⟩:=I5.loc;have wN:s5.heap.Ns C m5:=Gj;refine⟨m5,wN,λh' hsb uh qw=>?_⟩;have un:Un (eD X.stack) fp H1 H' s1.heap s5.heap:=by
  have u1:Un (eD X.stack) fp H1 H s1.heap s.heap:=by rw[hH,hs];exact Un.laid (λb u e=>Qn _ e) (Qu _) I1.fresh
  exact u1.trans I5.base
 have hI:Inv X pins σ H' s5:=I1.vL (ch:=fp) (I5.os.trans (by show s.os=s1.os;rw[hs])) un I5.hok I5.bare λb hb=>⟨(f1 b hb).2.2.2.1,(f1 b hb).2.1,(f1 b hb).2.2.2.2.1,(f1 b hb).2.2.2.2.2⟩
 have fC:gj X pins H' C:=I1.uz (Se hC) I5.free;have MC:Inv X pins σ H' {s5 with heap:=h',toks:=s5.toks}:=hI.turned (t':=s5.toks) (λb o hb e=>(hsb.2 b hb).trans e) fC.1 fC.2.1 fC.2.2.2.1 fC.2.2.2.2.1 fC.2.2.2.2.2;have NY:Inv X [] σ H' {s5 with heap:=h'}:=MC.fW λp hp=>by cases hp
 have kY:s1.heap.objs.size<=s.heap.objs.size:=by rw[hs];show _<=(s1.heap.push _).objs.size;rw[QS];exact Sf _
 have F6:gI X.s₀.heap.objs.size cls a H' h':=by
  have hd:∀b o vs,s5.heap.get? b=some o->o.data= .fields vs->h'.get? b=some o:=λb o vs e hd=>by refine(hsb.2 b λz=>?_).trans e;subst z;obtain⟨o',es,ep,oR,kX,_⟩:=wN;rw[e]at oR;cases oR;rw[hd]at kX;cases kX
  exact(F5.at hd).down (Qz I1.sz kY)
 have t6:∃T,dc h' a T:=by obtain⟨T,o,vs,z1,z2,z3⟩:=t5;refine⟨T,o,vs,(hsb.2 a λz=>?_).trans z1,z2,z3⟩;subst z;obtain⟨o',es,ep,oR,kX,_⟩:=wN;rw[z1]at oR;cases oR;rw[z2]at kX;cases kX
 exact zG (s:={s5 with heap:=h'}) (fs:=eD X.stack) F6 t6 λh'' x f t=>O5 _ _ ⟨σ,H',a,cls,rfl,NY.EH st.pn F6 x,f,hE⟩
end
end L2
end
section
namespace Rx
open PySem PySem.W PySem.Spec PyProof.Rows L2 PySem.SeqAt
inductive Dt where
 |bz|bl (b:Bool)|int (i:Int)|str (x:Str)|tup (ds:List Dt)|lst (ds:List Dt)|aQ (ns:List Int)
 |gg (ks vs:List Dt)|obj (ks:List Str) (vs:List Dt)|exc (c:Nat)
noncomputable abbrev Frag:=PySem.W.Frag
noncomputable def KL(K:Frag)(a:Addr)(xs:List V):Prop:=∃(o:Obj)(its:Array Value)(n:Nat),K.lookup a=some o/\o.cls= .type "list"/\o.dict=none/\o.data= .seq its n/\its.size<=sizeLine/\aq xs its.toList
mutual
noncomputable def RV(K:Frag)(A:Addr->Prop)(H:Hp):V->Dt->Prop
 |x,.bz=>x= .bz
 |x,.bl b=>x= .bl b
 |x,.int i=>x= .int i
 |x,.str z=>x= .str z
 |x,.tup ds=>∃a xs,x= .ref a/\H a=some (.tup xs)/\ak K A H xs ds
 |x,.lst ds=>∃a xs,x= .ref a/\H a=some (.lst xs)/\¬A a/\ak K A H xs ds
 |x,.aQ ns=>∃a,x= .ref a/\((Rd H a (.lst (ns.map V.int))/\¬A a)\/KL K a (ns.map V.int))
 |_,.gg _ _=>False
 |x,.obj ks vs=>∃a bx,x= .ref a/\H a=some (.dK bx)/\¬A a/\bx.map (·.1)=ks.map Sum.inr/\ak K A H (bx.map (·.2)) vs
 |_,.exc _=>False
noncomputable def ak(K:Frag)(A:Addr->Prop)(H:Hp):List V->List Dt->Prop
 |[],[]=>True
 |x::xs,d::ds=>RV K A H x d/\ak K A H xs ds
 |[],_::_=>False
 |_::_,[]=>False
end
section
variable{K:Frag}{A B:Addr->Prop}{H H':Hp}
theorem RV.aI{x:V}(h:RV K A H x .bz):x= .bz:=by unfold RV at h;exact h
theorem RV.aC{x:V}{b}(h:RV K A H x (.bl b)):x= .bl b:=by unfold RV at h;exact h
theorem RV.int_inv{x:V}{b}(h:RV K A H x (.int b)):x= .int b:=by unfold RV at h;exact h
theorem RV.str_inv{x:V}{b}(h:RV K A H x (.str b)):x= .str b:=by unfold RV at h;exact h
theorem RV.ag{x:V}{ds}(h:RV K A H x (.tup ds)):∃a xs,x= .ref a/\H a=some (.tup xs)/\ak K A H xs ds:=by unfold RV at h;exact h
theorem RV.lst_inv{x:V}{ds}(h:RV K A H x (.lst ds)):∃a xs,x= .ref a/\H a=some (.lst xs)/\¬A a/\ak K A H xs ds:=by unfold RV at h;exact h
theorem RV.fX{x:V}{ns}(h:RV K A H x (.aQ ns)):∃a,x= .ref a/\((Rd H a (.lst (ns.map V.int))/\¬A a)\/KL K a (ns.map V.int)):=by unfold RV at h;exact h
theorem RV.i6{x:V}{ns}(h:RV K A H x (.aQ ns)):∃a,x= .ref a/\dy K H a (ns.map V.int):=by
 obtain⟨a,e,h|h⟩:=h.fX
 ·exact⟨a,e,.inl h.1⟩
 ·exact⟨a,e,.inr h⟩
theorem RV.jz{x:V}{ks vs}(h:RV K A H x (.gg ks vs)):False:=by unfold RV at h;exact h
theorem RV.iq{x:V}{ks vs}(h:RV K A H x (.obj ks vs)):∃a bx,x= .ref a/\H a=some (.dK bx)/\¬A a/\bx.map (·.1)=ks.map Sum.inr/\ak K A H (bx.map (·.2)) vs:=by unfold RV at h;exact h
theorem RV.jA{x:V}{ks}(h:RV K A H x (.exc ks)):False:=by unfold RV at h;exact h
theorem RV.gw:RV K A H .bz .bz:=by unfold RV;rfl
theorem RV.kh{b}:RV K A H (.bl b) (.bl b):=by unfold RV;rfl
theorem RV.dP{b}:RV K A H (.int b) (.int b):=by unfold RV;rfl
theorem RV.iX{b}:RV K A H (.str b) (.str b):=by unfold RV;rfl
theorem RV.dE{a xs ds}(h:H a=some (.tup xs))(t:ak K A H xs ds):RV K A H (.ref a) (.tup ds):=by unfold RV;exact⟨a,xs,rfl,h,t⟩
theorem RV.dD{a xs ds}(h:H a=some (.lst xs))(n:¬A a)(t:ak K A H xs ds):RV K A H (.ref a) (.lst ds):=by unfold RV;exact⟨a,xs,rfl,h,n,t⟩
theorem RV.kl{a bx ks vs}(h:H a=some (.dK bx))(n:¬A a)(e:bx.map (·.1)=ks.map Sum.inr)(t:ak K A H (bx.map (·.2)) vs):RV K A H (.ref a) (.obj ks vs):=by unfold RV;exact⟨a,bx,rfl,h,n,e,t⟩
theorem ak.nil:ak K A H [] []:=by unfold ak;trivial
theorem ak.cons{x d xs ds}(h:RV K A H x d)(t:ak K A H xs ds):ak K A H (x::xs) (d::ds):=by unfold ak;exact⟨h,t⟩
theorem ak.nil_inv{xs}(h:ak K A H xs []):xs=[]:=by
 cases xs with
 |nil=>rfl
 |cons=>unfold ak at h;exact h.elim
theorem ak.eh{ds}(h:ak K A H [] ds):ds=[]:=by
 cases ds with
 |nil=>rfl
 |cons=>unfold ak at h;exact h.elim
theorem ak.cons_inv{xs d ds}(h:ak K A H xs (d::ds)):∃x r,xs=x::r/\RV K A H x d/\ak K A H r ds:=by
 cases xs with
 |nil=>unfold ak at h;exact h.elim
 |cons x r=>unfold ak at h;exact⟨x,r,rfl,h⟩
theorem ak.lL{x xs ds}(h:ak K A H (x::xs) ds):∃d r,ds=d::r/\RV K A H x d/\ak K A H xs r:=by
 cases ds with
 |nil=>unfold ak at h;exact h.elim
 |cons d r=>unfold ak at h;exact⟨d,r,rfl,h⟩
theorem ak.length:∀{xs ds},ak K A H xs ds->xs.length=ds.length
 |[],[],_=>rfl
 |[],_::_,h=>by unfold ak at h;exact h.elim
 |_::_,[],h=>by unfold ak at h;exact h.elim
 |_::xs,_::ds,h=>by unfold ak at h;simp[ak.length h.2]
theorem ak.get:∀{xs ds}{i:Nat}{x},ak K A H xs ds->xs[i]?=some x->∃d,ds[i]?=some d/\RV K A H x d
 |[],_,_,_,_,e=>by simp at e
 |_::_,[],_,_,h,_=>by unfold ak at h;exact h.elim
 |_::_,_::_,0,_,h,e=>by unfold ak at h;simp at e;subst e;exact⟨_,rfl,h.1⟩
 |_::xs,_::ds,i+1,x,h,e=>by unfold ak at h;obtain⟨d,e1,e2⟩:=ak.get (i:=i) h.2 (by simpa using e);exact⟨d,by simpa using e1,e2⟩
theorem ak.getD:∀{xs ds}{i:Nat}{d},ak K A H xs ds->ds[i]?=some d->∃x,xs[i]?=some x/\RV K A H x d
 |_,[],_,_,_,e=>by simp at e
 |[],_::_,_,_,h,_=>by unfold ak at h;exact h.elim
 |_::_,_::_,0,_,h,e=>by unfold ak at h;simp at e;subst e;exact⟨_,rfl,h.1⟩
 |_::xs,_::ds,i+1,x,h,e=>by unfold ak at h;obtain⟨d,e1,e2⟩:=ak.getD (i:=i) h.2 (by simpa using e);exact⟨d,by simpa using e1,e2⟩
theorem ak.append:∀{xs ys ds es},ak K A H xs ds->ak K A H ys es->ak K A H (xs++ys) (ds++es)
 |[],_,[],_,_,h=>h
 |[],_,_::_,_,h,_=>by unfold ak at h;exact h.elim
 |_::_,_,[],_,h,_=>by unfold ak at h;exact h.elim
 |_::xs,ys,_::ds,es,h,h'=>by unfold ak at h;exact ak.cons h.1 (ak.append h.2 h')
theorem ak.take:∀{xs ds}(n:Nat),ak K A H xs ds->ak K A H (xs.take n) (ds.take n)
 |[],ds,n,h=>by rw[h.eh];simp;exact ak.nil
 |x::xs,[],n,h=>by unfold ak at h;exact h.elim
 |x::xs,d::ds,0,h=>by simp;exact ak.nil
 |x::xs,d::ds,n+1,h=>by unfold ak at h;simp only[List.take_succ_cons];exact ak.cons h.1 (ak.take n h.2)
theorem ak.drop:∀{xs ds}(n:Nat),ak K A H xs ds->ak K A H (xs.drop n) (ds.drop n)
 |[],ds,n,h=>by rw[h.eh];simp;exact ak.nil
 |x::xs,[],n,h=>by unfold ak at h;exact h.elim
 |x::xs,d::ds,0,h=>h
 |x::xs,d::ds,n+1,h=>by unfold ak at h;simp only[List.drop_succ_cons];exact ak.drop n h.2
theorem ak.set:∀{xs ds}(n:Nat){x d},ak K A H xs ds->RV K A H x d->ak K A H (xs.set n x) (ds.set n d)
 |[],ds,n,_,_,h,_=>by rw[h.eh];simp;exact ak.nil
 |x::xs,[],n,_,_,h,_=>by unfold ak at h;exact h.elim
 |x::xs,d::ds,0,_,_,h,h'=>by unfold ak at h;simp only[List.set_cons_zero];exact ak.cons h' h.2
 |x::xs,d::ds,n+1,_,_,h,h'=>by unfold ak at h;simp only[List.set_cons_succ];exact ak.cons h.1 (ak.set n h.2 h')
structure aX(X:Addr->Prop)(H H':Hp):Prop where
 kp:∀b o,H b=some o->¬X b->H' b=some o
 tp:∀b xs,H b=some (.tup xs)->H' b=some (.tup xs)
theorem aX.of_same{X:Addr->Prop}(s:bu H H'):aX X H H':=⟨λb o e _=>s b o e,λb xs e=>s b _ e⟩
theorem aX.refl{X:Addr->Prop}:aX X H H:=⟨λ_ _ e _=>e,λ_ _ e=>e⟩
theorem aX.trans{X:Addr->Prop}{H1:Hp}(a:aX X H H1)(b:aX X H1 H'):aX X H H':=⟨λc o e n=>b.kp c o (a.kp c o e n) n,λc xs e=>b.tp c xs (a.tp c xs e)⟩
theorem aX.mono{X Y:Addr->Prop}(a:aX X H H')(h:∀b,X b->Y b):aX Y H H':=⟨λb o e n=>a.kp b o e λz=>n (h b z),a.tp⟩
theorem yc{X:Addr->Prop}{a:Addr}{u:HO}(e:aX X H H')(n:¬X a)(h:Rd H a u):Rd H' a u:=by
 rcases h with h|⟨o,h⟩
 ·exact .inl (e.kp _ _ h n)
 ·exact .inr ⟨o,e.kp _ _ h n⟩
mutual
theorem RV.mono{X:Addr->Prop}(e:aX X H H')(hX:∀b,X b->A b)(hB:∀b,B b->A b):∀{x d},RV K A H x d->RV K B H' x d
 |x,.bz,h=>by rw[h.aI];exact RV.gw
 |x,.bl b,h=>by rw[h.aC];exact RV.kh
 |x,.int b,h=>by rw[h.int_inv];exact RV.dP
 |x,.str b,h=>by rw[h.str_inv];exact RV.iX
 |x,.tup ds,h=>by obtain⟨a,xs,rfl,h1,h2⟩:=h.ag;exact RV.dE (e.tp _ _ h1) (ak.mono e hX hB h2)
 |x,.lst ds,h=>by obtain⟨a,xs,rfl,h1,h3,h2⟩:=h.lst_inv;exact RV.dD (e.kp _ _ h1 λz=>h3 (hX _ z)) (λz=>h3 (hB _ z)) (ak.mono e hX hB h2)
 |x,.aQ ns,h=>by
  obtain⟨a,rfl,⟨h1,h3⟩|h1⟩:=h.fX
  ·unfold RV;exact⟨a,rfl,.inl ⟨yc e (λz=>h3 (hX _ z)) h1,λz=>h3 (hB _ z)⟩⟩
  ·unfold RV;exact⟨a,rfl,.inr h1⟩
 |x,.gg ..,h=>h.jz.elim
 |x,.obj ks vs,h=>by obtain⟨a,bx,rfl,h1,h3,h4,h2⟩:=h.iq;exact RV.kl (e.kp _ _ h1 λz=>h3 (hX _ z)) (λz=>h3 (hB _ z)) h4 (ak.mono e hX hB h2)
 |x,.exc ..,h=>h.jA.elim
theorem ak.mono{X:Addr->Prop}(e:aX X H H')(hX:∀b,X b->A b)(hB:∀b,B b->A b):∀{xs ds},ak K A H xs ds->ak K B H' xs ds
 |[],[],_=>ak.nil
 |[],_::_,h=>by unfold ak at h;exact h.elim
 |_::_,[],h=>by unfold ak at h;exact h.elim
 |_::xs,_::ds,h=>by unfold ak at h;exact ak.cons (RV.mono e hX hB h.1) (ak.mono e hX hB h.2)
end
theorem RV.same{x d}(h:RV K A H x d)(s:bu H H'):RV K A H' x d:=h.mono (X:=λ_=>False) (aX.of_same s) (λ_ z=>z.elim) λ_ z=>z
theorem ak.same{x d}(h:ak K A H x d)(s:bu H H'):ak K A H' x d:=h.mono (X:=λ_=>False) (aX.of_same s) (λ_ z=>z.elim) λ_ z=>z
theorem RV.weak{x d}(h:RV K A H x d)(hB:∀b,B b->A b):RV K B H x d:=h.mono (X:=λ_=>False) aX.refl (λ_ z=>z.elim) hB
theorem ak.weak{x d}(h:ak K A H x d)(hB:∀b,B b->A b):ak K B H x d:=h.mono (X:=λ_=>False) aX.refl (λ_ z=>z.elim) hB
mutual
theorem RV.avoid{p:Addr}(hp:H p=none):∀{x d},RV K A H x d->RV K (λb=>A b\/b=p) H x d
 |x,.bz,h=>by rw[h.aI];exact RV.gw
 |x,.bl b,h=>by rw[h.aC];exact RV.kh
 |x,.int b,h=>by rw[h.int_inv];exact RV.dP
 |x,.str b,h=>by rw[h.str_inv];exact RV.iX
 |x,.tup ds,h=>by obtain⟨a,xs,rfl,h1,h2⟩:=h.ag;exact RV.dE h1 (ak.avoid hp h2)
 |x,.lst ds,h=>by obtain⟨a,xs,rfl,h1,h3,h2⟩:=h.lst_inv;exact RV.dD h1 (λz=>z.elim h3 λe=>by rw[e,hp]at h1;cases h1) (ak.avoid hp h2)
 |x,.aQ ns,h=>by
  obtain⟨a,rfl,⟨h1,h3⟩|h1⟩:=h.fX
  ·unfold RV;refine⟨a,rfl,.inl ⟨h1,λz=>z.elim h3 λe=>?_⟩⟩;subst e;rcases h1 with h1|⟨o,h1⟩<;>(rw[hp]at h1;cases h1)
  ·unfold RV;exact⟨a,rfl,.inr h1⟩
 |x,.gg ..,h=>h.jz.elim
 |x,.obj ks vs,h=>by obtain⟨a,bx,rfl,h1,h3,h4,h2⟩:=h.iq;exact RV.kl h1 (λz=>z.elim h3 λe=>by rw[e,hp]at h1;cases h1) h4 (ak.avoid hp h2)
 |x,.exc ..,h=>h.jA.elim
theorem ak.avoid{p:Addr}(hp:H p=none):∀{xs ds},ak K A H xs ds->ak K (λb=>A b\/b=p) H xs ds
 |[],[],_=>ak.nil
 |[],_::_,h=>by unfold ak at h;exact h.elim
 |_::_,[],h=>by unfold ak at h;exact h.elim
 |_::xs,_::ds,h=>by unfold ak at h;exact ak.cons (RV.avoid hp h.1) (ak.avoid hp h.2)
end
end
section
variable{K:Frag}{A B:Addr->Prop}{H:Hp}
mutual
theorem RV.cu(hp:∀b,B b->A b\/H b=none):∀{x d},RV K A H x d->RV K B H x d
 |x,.bz,h=>by rw[h.aI];exact RV.gw
 |x,.bl b,h=>by rw[h.aC];exact RV.kh
 |x,.int b,h=>by rw[h.int_inv];exact RV.dP
 |x,.str b,h=>by rw[h.str_inv];exact RV.iX
 |x,.tup ds,h=>by obtain⟨a,xs,rfl,h1,h2⟩:=h.ag;exact RV.dE h1 (ak.cu hp h2)
 |x,.lst ds,h=>by obtain⟨a,xs,rfl,h1,h3,h2⟩:=h.lst_inv;exact RV.dD h1 (λz=>(hp a z).elim h3 λe=>by rw[e]at h1;cases h1) (ak.cu hp h2)
 |x,.aQ ns,h=>by
  obtain⟨a,rfl,⟨h1,h3⟩|h1⟩:=h.fX
  ·unfold RV;refine⟨a,rfl,.inl ⟨h1,λz=>(hp a z).elim h3 λe=>?_⟩⟩;rcases h1 with h1|⟨o,h1⟩<;>(rw[e]at h1;cases h1)
  ·unfold RV;exact⟨a,rfl,.inr h1⟩
 |x,.gg ..,h=>h.jz.elim
 |x,.obj ks vs,h=>by obtain⟨a,bx,rfl,h1,h3,h4,h2⟩:=h.iq;exact RV.kl h1 (λz=>(hp a z).elim h3 λe=>by rw[e]at h1;cases h1) h4 (ak.cu hp h2)
 |x,.exc ..,h=>h.jA.elim
theorem ak.cu(hp:∀b,B b->A b\/H b=none):∀{xs ds},ak K A H xs ds->ak K B H xs ds
 |[],[],_=>ak.nil
 |[],_::_,h=>by unfold ak at h;exact h.elim
 |_::_,[],h=>by unfold ak at h;exact h.elim
 |_::xs,_::ds,h=>by unfold ak at h;exact ak.cons (RV.cu hp h.1) (ak.cu hp h.2)
end
end
mutual
noncomputable def fI:Dt->Bool
 |.bz|.bl _|.int _|.str _=>true
 |.tup ds=>dQ ds
 |_=>false
noncomputable def dQ:List Dt->Bool
 |[]=>true
 |d::ds=>fI d&&dQ ds
end
mutual
theorem RV.fI{K:Frag}{A B:Addr->Prop}{H:Hp}:∀{x d},RV K A H x d->fI d=true->RV K B H x d
 |x,.bz,h,_=>by rw[h.aI];exact RV.gw
 |x,.bl b,h,_=>by rw[h.aC];exact RV.kh
 |x,.int b,h,_=>by rw[h.int_inv];exact RV.dP
 |x,.str b,h,_=>by rw[h.str_inv];exact RV.iX
 |x,.tup ds,h,n=>by obtain⟨a,xs,rfl,h1,h2⟩:=h.ag;exact RV.dE h1 (ak.dQ h2 (by simpa [Rx.fI]using n))
 |x,.lst ds,_,n=>by simp[Rx.fI]at n
 |x,.aQ ds,_,n=>by simp[Rx.fI]at n
 |x,.gg ..,h,_=>h.jz.elim
 |x,.obj ..,_,n=>by simp[Rx.fI]at n
 |x,.exc ..,h,_=>h.jA.elim
theorem ak.dQ{K:Frag}{A B:Addr->Prop}{H:Hp}:∀{xs ds},ak K A H xs ds->dQ ds=true->ak K B H xs ds
 |[],[],_,_=>ak.nil
 |[],_::_,h,_=>by unfold ak at h;exact h.elim
 |_::_,[],h,_=>by unfold ak at h;exact h.elim
 |_::xs,_::ds,h,n=>by unfold ak at h;simp only[Rx.dQ,Qp]at n;exact ak.cons (RV.fI h.1 n.1) (ak.dQ h.2 n.2)
end
mutual
noncomputable def toD:Dt->Option Mx.D
 |.int i=>some (.int i)
 |.str x=>some (.str x)
 |.tup ds=>(eW ds).map Mx.D.tup
 |_=>none
noncomputable def eW:List Dt->Option (List Mx.D)
 |[]=>some []
 |d::ds=>(toD d).bind λm=>(eW ds).map (m:: ·)
end
mutual
noncomputable def ofD:Mx.D->Dt
 |.int i=>.int i
 |.str x=>.str x
 |.tup ds=>.tup (aa ds)
noncomputable def aa:List Mx.D->List Dt
 |[]=>[]
 |d::ds=>ofD d::aa ds
end
theorem bb:∀ds:List Mx.D,aa ds=ds.map ofD
 |[]=>by simp[aa]
 |d::ds=>by simp[aa,bb ds]
mutual
theorem El:∀m:Mx.D,toD (ofD m)=some m
 |.int i=>by simp[ofD,toD]
 |.str x=>by simp[ofD,toD]
 |.tup ds=>by simp[ofD,toD,bJ ds]
theorem bJ:∀ms:List Mx.D,eW (aa ms)=some ms
 |[]=>by simp[aa,eW]
 |m::ms=>by simp[aa,eW,El m,bJ ms]
end
mutual
theorem DB:∀{d:Dt}{m:Mx.D},toD d=some m->d=ofD m
 |.int i,m,h=>by simp[toD]at h;subst h;simp[ofD]
 |.str i,m,h=>by simp[toD]at h;subst h;simp[ofD]
 |.tup ds,m,h=>by simp only[toD,QD]at h;obtain⟨ms,h1,rfl⟩:=h;rw[ir h1];simp[ofD]
 |.bz,m,h=>by simp[toD]at h
 |.bl _,m,h=>by simp[toD]at h
 |.lst _,m,h=>by simp[toD]at h
 |.aQ _,m,h=>by simp[toD]at h
 |.gg _ _,m,h=>by simp[toD]at h
 |.obj _ _,m,h=>by simp[toD]at h
 |.exc _,m,h=>by simp[toD]at h
theorem ir:∀{ds:List Dt}{ms:List Mx.D},eW ds=some ms->ds=aa ms
 |[],ms,h=>by simp[eW]at h;subst h;simp[aa]
 |d::ds,ms,h=>by simp only[eW,Qm,QD]at h;obtain⟨m,h1,r,h2,rfl⟩:=h;rw[DB h1,ir h2];simp[aa]
end
mutual
theorem RV.dv{K:Frag}{A:Addr->Prop}{H:Hp}:∀{x}{m:Mx.D},RV K A H x (ofD m)->Mx.DV H x m
 |x,.int i,h=>by simp only[ofD]at h;rw[h.int_inv];exact Mx.DV.int
 |x,.str i,h=>by simp only[ofD]at h;rw[h.str_inv];exact Mx.DV.str
 |x,.tup ms,h=>by simp only[ofD]at h;obtain⟨a,xs,rfl,h1,h2⟩:=h.ag;exact Mx.DV.tup h1 (ak.uv h2)
theorem ak.uv{K:Frag}{A:Addr->Prop}{H:Hp}:∀{xs}{ms:List Mx.D},ak K A H xs (aa ms)->Mx.aR H xs ms
 |[],[],_=>Mx.aR.nil
 |[],_::_,h=>by simp only[aa]at h;unfold ak at h;exact h.elim
 |_::_,[],h=>by simp only[aa]at h;unfold ak at h;exact h.elim
 |_::xs,_::ds,h=>by simp only[aa]at h;unfold ak at h;exact Mx.aR.cons (RV.dv h.1) (ak.uv h.2)
end
mutual
theorem RV.G2{K:Frag}{A:Addr->Prop}{H:Hp}:∀{x}{m:Mx.D},Mx.DV H x m->RV K A H x (ofD m)
 |x,.int i,h=>by simp only[ofD];rw[h.int_inv];exact RV.dP
 |x,.str i,h=>by simp only[ofD];rw[h.str_inv];exact RV.iX
 |x,.tup ms,h=>by simp only[ofD];obtain⟨a,xs,rfl,h1,h2⟩:=h.ag;exact RV.dE h1 (ak.nG h2)
theorem ak.nG{K:Frag}{A:Addr->Prop}{H:Hp}:∀{xs}{ms:List Mx.D},Mx.aR H xs ms->ak K A H xs (aa ms)
 |[],[],_=>by simp only[aa];exact ak.nil
 |[],_::_,h=>by unfold Mx.aR at h;exact h.elim
 |_::_,[],h=>by unfold Mx.aR at h;exact h.elim
 |_::xs,_::ds,h=>by simp only[aa];unfold Mx.aR at h;exact ak.cons (RV.G2 h.1) (ak.nG h.2)
end
mutual
noncomputable def bS:Dt->Dt->Bool
 |.bz,.bz=>true
 |.bl a,.bl b=>a==b
 |.int a,.int b=>a==b
 |.bl a,.int b=>(if a then(1:Int) else 0)==b
 |.int a,.bl b=>a==(if b then(1:Int) else 0)
 |.str a,.str b=>a==b
 |.tup a,.tup b=>cC a b
 |.lst a,.lst b=>cC a b
 |_,_=>false
noncomputable def cC:List Dt->List Dt->Bool
 |[],[]=>true
 |x::xs,y::ys=>bS x y&&cC xs ys
 |_,_=>false
end
mutual
noncomputable def pl:Dt->Bool
 |.bz|.bl _|.int _|.str _=>true
 |.tup ds=>jn ds
 |.lst ds=>jn ds
 |_=>false
noncomputable def jn:List Dt->Bool
 |[]=>true
 |d::ds=>pl d&&jn ds
end
mutual
noncomputable def dp:Dt->Nat
 |.tup ds=>kU ds+1
 |.lst ds=>kU ds+1
 |_=>0
noncomputable def kU:List Dt->Nat
 |[]=>0
 |d::ds=>max (dp d) (kU ds)
end
mutual
theorem i5:∀d:Dt,pl d=true->bS d d=true
 |.bz,_=>by simp[bS]
 |.bl b,_=>by simp[bS]
 |.int b,_=>by simp[bS]
 |.str b,_=>by simp[bS]
 |.tup ds,h=>by simp only[bS];exact gB ds (by simpa [pl]using h)
 |.lst ds,h=>by simp only[bS];exact gB ds (by simpa [pl]using h)
 |.aQ _,h=>by simp[pl]at h
 |.gg _ _,h=>by simp[pl]at h
 |.obj _ _,h=>by simp[pl]at h
 |.exc _,h=>by simp[pl]at h
theorem gB:∀ds:List Dt,jn ds=true->cC ds ds=true
 |[],_=>by simp[cC]
 |d::ds,h=>by simp only[jn,Qp]at h;simp only[cC,Qp];exact⟨i5 d h.1,gB ds h.2⟩
end
noncomputable def Py:Dt->Nat
 |.bz=>0|.bl _=>1|.int _=>2|.str _=>3|.tup _=>4|.lst _=>5|_=>6
noncomputable def Ma(H:Hp):V->Nat
 |.bz=>0|.bl _=>1|.int _=>2|.str _=>3
 |.ref a=>(match H a with|some (.tup _)=>4|some (.lst _)=>5|_=>6)
 |_=>6
theorem RV.tg{K:Frag}{A:Addr->Prop}{H:Hp}{x:V}{d:Dt}(h:RV K A H x d)(n:pl d=true):Ma H x=Py d:=by
 cases d with
 |bz=>rw[h.aI];rfl
 |bl=>rw[h.aC];rfl
 |int=>rw[h.int_inv];rfl
 |str=>rw[h.str_inv];rfl
 |tup=>obtain⟨a,xs,rfl,h1,_⟩:=h.ag;unfold Ma;dsimp only;rw[h1];rfl
 |lst=>obtain⟨a,xs,rfl,h1,_⟩:=h.lst_inv;unfold Ma;dsimp only;rw[h1];rfl
 |_=>simp[pl]at n
mutual
theorem RV.inj{K:Frag}{A B:Addr->Prop}{H:Hp}:∀{x d e},RV K A H x d->RV K B H x e->pl d=true->pl e=true->d=e
 |x,.bz,e,h,g,m,n=>by have t:=(h.tg m).symm.trans (g.tg n);cases e<;>first|rfl|exact absurd t (SL rfl)
 |x,.bl b,e,h,g,m,n=>by have t:=(h.tg m).symm.trans (g.tg n);cases e<;>first|exact absurd t (SL rfl)|(cases h.aC.symm.trans g.aC;rfl)
 |x,.int b,e,h,g,m,n=>by have t:=(h.tg m).symm.trans (g.tg n);cases e<;>first|exact absurd t (SL rfl)|(cases h.int_inv.symm.trans g.int_inv;rfl)
 |x,.str b,e,h,g,m,n=>by have t:=(h.tg m).symm.trans (g.tg n);cases e<;>first|exact absurd t (SL rfl)|(cases h.str_inv.symm.trans g.str_inv;rfl)
 |x,.tup ds,e,h,g,m,n=>by
  have t:=(h.tg m).symm.trans (g.tg n);cases e with
  |tup es=>obtain⟨a,xs,rfl,h1,h2⟩:=h.ag;obtain⟨b,ys,q,g1,g2⟩:=g.ag;cases q;rw[h1]at g1;cases g1;rw[ak.inj h2 g2 (by simpa [pl]using m) (by simpa [pl]using n)]
  |_=>exact absurd t (SL rfl)
 |x,.lst ds,e,h,g,m,n=>by
  have t:=(h.tg m).symm.trans (g.tg n);cases e with
  |lst es=>obtain⟨a,xs,rfl,h1,_,h2⟩:=h.lst_inv;obtain⟨b,ys,q,g1,_,g2⟩:=g.lst_inv;cases q;rw[h1]at g1;cases g1;rw[ak.inj h2 g2 (by simpa [pl]using m) (by simpa [pl]using n)]
  |_=>exact absurd t (SL rfl)
 |x,.aQ ds,_,_,_,n,_=>by simp[pl]at n
 |x,.gg ..,_,_,_,n,_=>by simp[pl]at n
 |x,.obj ..,_,_,_,n,_=>by simp[pl]at n
 |x,.exc ..,_,_,_,n,_=>by simp[pl]at n
theorem ak.inj{K:Frag}{A B:Addr->Prop}{H:Hp}:∀{xs ds es},ak K A H xs ds->ak K B H xs es->jn ds=true->jn es=true->ds=es
 |xs,[],es,h,g,_,_=>by
  cases xs with
  |nil=>rw[g.eh]
  |cons=>unfold ak at h;exact h.elim
 |xs,d::ds,es,h,g,m,n=>by
  cases xs with
  |nil=>unfold ak at h;exact h.elim
  |cons x xs=>unfold ak at h;obtain⟨e,t,rfl,g1,g2⟩:=g.lL;have m':=Bool.and_eq_true_iff.mp m;have n':=Bool.and_eq_true_iff.mp n;rw[RV.inj h.1 g1 m'.1 n'.1,ak.inj h.2 g2 m'.2 n'.2]
end
noncomputable def tK(ds es:List Dt)(j:Nat):Bool:=match ds[j]?,es[j]? with
 |some d,some e=>bS d e
 |_,_=>true
theorem cV:∀ds es:List Dt,((List.range (min ds.length es.length)).all (tK ds es)&&ds.length==es.length)=cC ds es
 |[],[]=>by simp[cC]
 |[],_::_=>by simp[cC]
 |_::_,[]=>by simp[cC]
 |d::ds,e::es=>by
  have ih:=cV ds es;have hm:min (d::ds).length (e::es).length=min ds.length es.length+1:=by simp only[QG];lia
  have e1:((d::ds).length==(e::es).length)=(ds.length==es.length):=by rw[Rc];simp
  rw[hm,List.range_succ_eq_map,Rz,List.all_map,e1,cC,<-ih,Bool.and_assoc];rfl
theorem j3{d:Dt}:∀{ds:List Dt}{j:Nat},ds[j]?=some d->dp d<=kU ds
 |[],_,h=>by simp at h
 |d'::ds,0,h=>by simp at h;subst h;unfold kU;lia
 |d'::ds,j+1,h=>by have:=j3 (ds:=ds) (j:=j) (by simpa using h);unfold kU;lia
theorem dS{d:Dt}:∀{ds:List Dt}{j:Nat},jn ds=true->ds[j]?=some d->pl d=true
 |[],_,_,h=>by simp at h
 |d'::ds,0,n,h=>by simp at h;subst h;simp only[jn,Qp]at n;exact n.1
 |d'::ds,j+1,n,h=>by simp only[jn,Qp]at n;exact dS (ds:=ds) (j:=j) n.2 (by simpa using h)
section
variable{P:Program}{w:World}{K:Frag}{A B:Addr->Prop}{H:Hp}{s:Shared}
theorem aM(hok:dX P w H s.heap){a:Addr}{xs:List V}(h:H a=some (.lst xs)):∃its:List Value,aq xs its/\s.heap.IsList a its.toArray:=by obtain⟨_,its,n,r,t⟩:=hok a _ h;exact⟨its,r,⟨_,t,rfl,_,rfl⟩⟩
theorem Bn(hok:dX P w H s.heap):∀(n:Nat)(d e:Dt)(x y:V)(u v:Value)(R:Around),dp d<=n->pl d=true->pl e=true->R.units+n<cLine->RV K A H x d->RV K B H y e->RelV x u->RelV y v->EqAt R s u v (bS d e):=by
 intro n
 induction n with
 |zero=>
  intro d e x y u v R hd f9 eJ hu hx hy rx ry;cases d with
  |bz=>
   have:=hx.aI;subst this;cases rx;cases e with
   |bz=>have:=hy.aI;subst this;cases ry;exact EqAt.same _
   |bl j=>have:=hy.aC;subst this;cases ry;exact EqAt.none_bool j
   |int j=>have:=hy.int_inv;subst this;obtain⟨t',rfl⟩:=ry;exact EqAt.none_int j t'
   |str j=>have:=hy.str_inv;subst this;obtain⟨t',rfl⟩:=ry;exact EqAt.none_str j t'
   |tup j=>obtain⟨b,ys,q,f1,f2⟩:=hy.ag;subst q;cases ry;obtain⟨its,_,ht⟩:=Mx.ar hok f1;exact EqAt.none_tuple ht ⋯
   |lst j=>obtain⟨b,ys,q,f1,_,f2⟩:=hy.lst_inv;subst q;cases ry;obtain⟨its,_,ht⟩:=aM hok f1;exact EqAt.none_list ht ⋯
   |_=>simp[pl]at eJ
  |bl i=>
   have:=hx.aC;subst this;cases rx;cases e with
   |bz=>have:=hy.aI;subst this;cases ry;exact EqAt.bool_none _
   |bl j=>have:=hy.aC;subst this;cases ry;exact EqAt.bool_bool i j
   |int j=>have:=hy.int_inv;subst this;obtain⟨t',rfl⟩:=ry;exact EqAt.bool_int i j t'
   |str j=>have:=hy.str_inv;subst this;obtain⟨t',rfl⟩:=ry;exact EqAt.bool_str i j t'
   |tup j=>obtain⟨b,ys,q,f1,f2⟩:=hy.ag;subst q;cases ry;obtain⟨its,_,ht⟩:=Mx.ar hok f1;exact EqAt.bool_tuple i ht ⋯
   |lst j=>obtain⟨b,ys,q,f1,_,f2⟩:=hy.lst_inv;subst q;cases ry;obtain⟨its,_,ht⟩:=aM hok f1;exact EqAt.bool_list i ht ⋯
   |_=>simp[pl]at eJ
  |int i=>
   have:=hx.int_inv;subst this;obtain⟨t,rfl⟩:=rx;cases e with
   |bz=>have:=hy.aI;subst this;cases ry;exact EqAt.int_none i t
   |bl j=>have:=hy.aC;subst this;cases ry;exact EqAt.int_bool i t j
   |int j=>have:=hy.int_inv;subst this;obtain⟨t',rfl⟩:=ry;exact EqAt.int_int i t j t'
   |str j=>have:=hy.str_inv;subst this;obtain⟨t',rfl⟩:=ry;exact EqAt.int_str i t j t'
   |tup j=>obtain⟨b,ys,q,f1,f2⟩:=hy.ag;subst q;cases ry;obtain⟨its,_,ht⟩:=Mx.ar hok f1;exact EqAt.int_tuple i t ht ⋯
   |lst j=>obtain⟨b,ys,q,f1,_,f2⟩:=hy.lst_inv;subst q;cases ry;obtain⟨its,_,ht⟩:=aM hok f1;exact EqAt.int_list i t ht ⋯
   |_=>simp[pl]at eJ
  |str i=>
   have:=hx.str_inv;subst this;obtain⟨t,rfl⟩:=rx;cases e with
   |bz=>have:=hy.aI;subst this;cases ry;exact EqAt.str_none i t
   |bl j=>have:=hy.aC;subst this;cases ry;exact EqAt.str_bool i t j
   |int j=>have:=hy.int_inv;subst this;obtain⟨t',rfl⟩:=ry;exact EqAt.str_int i t j t'
   |str j=>have:=hy.str_inv;subst this;obtain⟨t',rfl⟩:=ry;exact EqAt.str_str i t j t'
   |tup j=>obtain⟨b,ys,q,f1,f2⟩:=hy.ag;subst q;cases ry;obtain⟨its,_,ht⟩:=Mx.ar hok f1;exact EqAt.str_tuple i t ht ⋯
   |lst j=>obtain⟨b,ys,q,f1,_,f2⟩:=hy.lst_inv;subst q;cases ry;obtain⟨its,_,ht⟩:=aM hok f1;exact EqAt.str_list i t ht ⋯
   |_=>simp[pl]at eJ
  |tup ds=>unfold dp at hd;lia
  |lst ds=>unfold dp at hd;lia
  |_=>simp[pl]at f9
 |succ n ih=>
  intro d e x y u v R hd f9 eJ hu hx hy rx ry;cases d with
  |tup ds=>
   obtain⟨a,xs,q,e1,e2⟩:=hx.ag;subst q;cases rx;obtain⟨its,r1,ht⟩:=Mx.ar hok e1;cases e with
   |bz=>have:=hy.aI;subst this;cases ry;exact EqAt.tuple_none ht ⋯
   |bl j=>have:=hy.aC;subst this;cases ry;exact EqAt.tuple_bool j ht ⋯
   |int j=>have:=hy.int_inv;subst this;obtain⟨t',rfl⟩:=ry;exact EqAt.tuple_int j t' ht ⋯
   |str j=>have:=hy.str_inv;subst this;obtain⟨t',rfl⟩:=ry;exact EqAt.tuple_str j t' ht ⋯
   |lst j=>obtain⟨b,ys,q,f1,_,f2⟩:=hy.lst_inv;subst q;cases ry;obtain⟨aG,_,cq⟩:=aM hok f1;exact EqAt.tuple_list ht cq ⋯
   |tup es=>
    obtain⟨b,ys,q,f1,f2⟩:=hy.ag;subst q;cases ry;obtain⟨aG,r2,cq⟩:=Mx.ar hok f1;by_cases jj:a=b
    ·subst jj;have:=RV.inj hx hy f9 eJ;cases this;rw[i5 _ f9];exact EqAt.same _
    ·have l1:its.toArray.size=ds.length:=by rw[Qq,<-r1.length,e2.length]
     have l2:aG.toArray.size=es.length:=by rw[Qq,<-r2.length,f2.length]
     have key:=RcAt.tuples (A:=R) (e:=tK ds es) ht cq ⋯ (λj h1 h2=>?_)
     ·have q:=cV ds es;rw[<-l1,<-l2]at q;rw[q]at key;exact EqAt.of_refs jj key
     ·have iL:j<xs.length:=by rw[e2.length,<-l1];exact h1
      have jB:j<ys.length:=by rw[f2.length,<-l2];exact h2
      obtain⟨d,g1,g2⟩:=e2.get (i:=j) (x:=xs[j]) (by simp[iL]);obtain⟨e,k1,k2⟩:=f2.get (i:=j) (x:=ys[j]) (by simp[jB]);obtain⟨u,zW,ru⟩:=r1.get (i:=j) (x:=xs[j]) (by simp[iL]);obtain⟨v,zX,rv⟩:=r2.get (i:=j) (x:=ys[j]) (by simp[jB]);have eu:its.toArray[j]=u:=by simp only[RJ];exact(Qs.mp zW).2
      have ev:aG.toArray[j]=v:=by simp only[RJ];exact(Qs.mp zX).2
      rw[eu,ev,show tK ds es j=bS d e by unfold tK;rw[g1,k1]];have:=j3 g1;unfold dp at hd;exact ih d e xs[j] ys[j] u v R.in1 ⋯ (dS (by simpa [pl]using f9) g1) (dS (by simpa [pl]using eJ) k1) (by show R.units+1+n<cLine;lia) g2 k2 ru rv
   |_=>simp[pl]at eJ
  |lst ds=>
   obtain⟨a,xs,q,e1,_,e2⟩:=hx.lst_inv;subst q;cases rx;obtain⟨its,r1,ht⟩:=aM hok e1;cases e with
   |bz=>have:=hy.aI;subst this;cases ry;exact EqAt.list_none ht ⋯
   |bl j=>have:=hy.aC;subst this;cases ry;exact EqAt.list_bool j ht ⋯
   |int j=>have:=hy.int_inv;subst this;obtain⟨t',rfl⟩:=ry;exact EqAt.list_int j t' ht ⋯
   |str j=>have:=hy.str_inv;subst this;obtain⟨t',rfl⟩:=ry;exact EqAt.list_str j t' ht ⋯
   |tup j=>obtain⟨b,ys,q,f1,f2⟩:=hy.ag;subst q;cases ry;obtain⟨aG,_,cq⟩:=Mx.ar hok f1;exact EqAt.list_tuple ht cq ⋯
   |lst es=>
    obtain⟨b,ys,q,f1,_,f2⟩:=hy.lst_inv;subst q;cases ry;obtain⟨aG,r2,cq⟩:=aM hok f1;by_cases jj:a=b
    ·subst jj;have:=RV.inj hx hy f9 eJ;cases this;rw[i5 _ f9];exact EqAt.same _
    ·have l1:its.toArray.size=ds.length:=by rw[Qq,<-r1.length,e2.length]
     have l2:aG.toArray.size=es.length:=by rw[Qq,<-r2.length,f2.length]
     have q:=cV ds es;by_cases hl:ds.length=es.length
     ·have key:=RcAt.lists (A:=R) (e:=tK ds es) ht cq ⋯ ⋯ (λj h1 h2=>?_)
      ·rw[hl,Nat.min_self,SB,Rb]at q;rw[l1,hl,q]at key;exact EqAt.of_refs jj key
      ·have iL:j<xs.length:=by rw[e2.length,<-l1];exact h1
       have jB:j<ys.length:=by rw[f2.length,<-l2];exact h2
       obtain⟨d,g1,g2⟩:=e2.get (i:=j) (x:=xs[j]) (by simp[iL]);obtain⟨e,k1,k2⟩:=f2.get (i:=j) (x:=ys[j]) (by simp[jB]);obtain⟨u,zW,ru⟩:=r1.get (i:=j) (x:=xs[j]) (by simp[iL]);obtain⟨v,zX,rv⟩:=r2.get (i:=j) (x:=ys[j]) (by simp[jB]);have eu:its.toArray[j]=u:=by simp only[RJ];exact(Qs.mp zW).2
       have ev:aG.toArray[j]=v:=by simp only[RJ];exact(Qs.mp zX).2
       rw[eu,ev,show tK ds es j=bS d e by unfold tK;rw[g1,k1]];have:=j3 g1;unfold dp at hd;exact ih d e xs[j] ys[j] u v R.in1 ⋯ (dS (by simpa [pl]using f9) g1) (dS (by simpa [pl]using eJ) k1) (by show R.units+1+n<cLine;lia) g2 k2 ru rv
     ·have key:=RcAt.lists_lengths (A:=R) ht cq (by rw[l1,l2];simpa using hl) ⋯;have hb:(ds.length==es.length)=false:=by simpa using hl
      rw[hb,Ra]at q;show EqAt R s _ _ (cC ds es);rw[<-q];exact EqAt.of_refs jj key
   |_=>simp[pl]at eJ
  |_=>exact ih _ e x y u v R (by unfold dp;lia) f9 eJ ⋯ hx hy rx ry
end
inductive R(α:Type)where
 |ok (a:α)|ex (c:Nat)|bad
noncomputable def R.bind{α β:Type}:R α->(α->R β)->R β
 |.ok a,f=>f a
 |.ex c,_=>.ex c
 |.bad,_=>.bad
@[simp] theorem R.ai{α β:Type}(a:α)(f:α->R β):(R.ok a).bind f=f a:=rfl
noncomputable def R.nx{α:Type}:R α->R α
 |.ok a=>.ok a
 |_=>.bad
noncomputable abbrev lim:Nat:=1000000
noncomputable abbrev aj:=List (Option Dt)
noncomputable abbrev Sx:=Option (List Int)
noncomputable def af(b:Bool){α:Type}(r:R α):R α:=if b then r else .bad
@[simp] theorem guard_true{α:Type}(r:R α):af true r=r:=rfl
noncomputable def kq(o:Operator)(a b:Dt):R Dt:=match o with
 |.Add=>match a,b with
  |.int i,.int j=>.ok (.int (i+j))
  |.str x,.str y=>af (decide (x.length+y.length<=lim)) (.ok (.str (x++y)))
  |.lst x,.lst y=>af (decide (x.length+y.length<=lim)) (.ok (.lst (x++y)))
  |.tup x,.tup y=>af (decide (x.length+y.length<=lim)) (.ok (.tup (x++y)))
  |_,_=>.bad
 |.Sub=>match a,b with
  |.int i,.int j=>.ok (.int (i-j))
  |_,_=>.bad
 |.Mult=>match a,b with
  |.int i,.int j=>af (decide (i.natAbs<2^64)||decide (j.natAbs<2^64)) (.ok (.int (i*j)))
  |_,_=>.bad
 |.FloorDiv=>match a,b with
  |.int i,.int j=>af (decide (0<j)&&decide (j.natAbs.log2<9000)) (.ok (.int (i/j)))
  |_,_=>.bad
 |.Mod=>match a,b with
  |.int i,.int j=>af (decide (0<j)) (.ok (.int (i % j)))
  |_,_=>.bad
 |.Pow=>match a,b with
  |.int i,.int j=>af (decide (0<=j)&&decide (j<=1000)&&decide (i.natAbs<2^64)) (.ok (.int (i^j.toNat)))
  |_,_=>.bad
 |_=>.bad
noncomputable def inD(d:Dt)(ds:List Dt):Bool:=ds.any λe=>bS e d
noncomputable def lb(d e:Dt):Bool:=pl d&&pl e&&decide (dp d<=100)
noncomputable def itemsOf:Dt->Option (List Dt)
 |.lst ds=>some ds
 |.tup ds=>some ds
 |.aQ ns=>some (ns.map Dt.int)
 |_=>none
noncomputable def bV:Dt->Option (List Dt)
 |.lst ds=>some ds
 |.tup ds=>some ds
 |_=>none
mutual
noncomputable def kc:Mx.D->Mx.D->Bool
 |.int _,.int _=>true
 |.str _,.str _=>true
 |.tup a,.tup b=>ib a b
 |_,_=>false
noncomputable def ib:List Mx.D->List Mx.D->Bool
 |x::xs,y::ys=>kc x y&&ib xs ys
 |_,_=>true
end
noncomputable def c7:CmpOp->Dt->Dt->R Bool
 |.Eq,a,b=>af (lb a b) (.ok (bS a b))
 |.NotEq,a,b=>af (lb a b) (.ok (!bS a b))
 |.Lt,.int i,.int j=>.ok (decide (i<j))
 |.LtE,.int i,.int j=>.ok (decide (i<=j))
 |.Gt,.int i,.int j=>.ok (decide (j<i))
 |.GtE,.int i,.int j=>.ok (decide (j<=i))
 |.GtE,.tup a,.tup b=>match eW a,eW b with
  |some xs,some ys=>af (ib xs ys&&decide (Mx.D.bK xs<=100)) (.ok (!Mx.D.dB xs ys))
  |_,_=>.bad
 |.In,a,.lst ds=>af (pl a&&jn ds&&decide (kU ds<=100)) (.ok (inD a ds))
 |.In,a,.tup ds=>af (pl a&&jn ds&&decide (kU ds<=100)) (.ok (inD a ds))
 |.NotIn,a,.lst ds=>af (pl a&&jn ds&&decide (kU ds<=100)) (.ok (!inD a ds))
 |.NotIn,a,.tup ds=>af (pl a&&jn ds&&decide (kU ds<=100)) (.ok (!inD a ds))
 |_,_,_=>.bad
noncomputable def dH:Dt->R Bool
 |.bz=>.ok false
 |.bl b=>.ok b
 |.int i=>.ok (i != 0)
 |.str y=>af (decide (y.length<=lim)) (.ok ((y.length:Int) != 0))
 |.lst ds=>.ok !ds.isEmpty
 |.tup ds=>.ok !ds.isEmpty
 |.aQ ds=>.ok !ds.isEmpty
 |_=>.bad
noncomputable def t9(ds:List Dt)(i:Int):R Dt:=match k8 ds i with
 |some d=>.ok d
 |none=>.bad
noncomputable def bW:Dt->Dt->R Dt
 |.lst ds,.int i=>t9 ds i
 |.tup ds,.int i=>t9 ds i
 |.aQ ns,.int i=>t9 (ns.map Dt.int) i
 |.str z,.int i=>af (decide (z.length<=lim)) (match k8 z.cps.toList i with|some c=>.ok (.str ⟨#[c]⟩)|none=>.bad)
 |_,_=>.bad
noncomputable def cutD{α:Type}(xs:List α)(lo hi:Option Int):List α:=(xs.drop (HT.bY xs.length 0 lo)).take (HT.bY xs.length xs.length hi-HT.bY xs.length 0 lo)
noncomputable def fM:Dt->Option Int->Option Int->R Dt
 |.lst ds,lo,hi=>.ok (.lst (cutD ds lo hi))
 |.aQ ds,lo,hi=>.ok (.lst (cutD (ds.map Dt.int) lo hi))
 |.tup ds,lo,hi=>.ok (.tup (cutD ds lo hi))
 |.str z,lo,hi=>af (decide (z.length<=lim)) (.ok (.str (PySem.Txt.slice z lo hi)))
 |_,_,_=>.bad
inductive BI where
 |len|min2|max2|sum|any|sorted|tuple|list|isi (T:String)|sset|dict
 deriving DecidableEq
noncomputable def intsOf:List Dt->Option (List Int)
 |[]=>some []
 |.int i::r=>(intsOf r).map (i:: ·)
 |_=>none
noncomputable def gO:List Dt->Option (List Bool)
 |[]=>some []
 |.bl i::r=>(gO r).map (i:: ·)
 |_=>none
noncomputable def E5(a b:Mx.D):Bool:= !Mx.D.lt b a
noncomputable def a6(ds:List Mx.D):List Mx.D:=ds.mergeSort E5
noncomputable def GE(k:Mx.SK):Mx.D->Bool
 |.tup (.tup _::_)=>k== .tt
 |.tup (.str _::_)=>k== .ts
 |.tup (.int _::_)=>k== .ti
 |.str _=>k== .s
 |.int _=>k== .i
 |_=>false
noncomputable def jg(ds:List Mx.D):Bool:=decide (ds.length<64)&&(decide (ds.length<2)||(decide (Mx.D.bK ds<=100)&&([Mx.SK.tt,.ts,.ti,.s,.i].any λk=>ds.all (GE k))&&ds.all λd=>ds.all λe=>kc d e))
noncomputable def dd:List Str->List Str
 |[]=>[]
 |x::r=>if x∈dd r then dd r else x::dd r
noncomputable def K8:List Int->Int
 |[]=>0
 |[a]=>a
 |a::r=>min a (K8 r)
noncomputable def strsOf:List Dt->Option (List Str)
 |[]=>some []
 |.str i::r=>(strsOf r).map (i:: ·)
 |_=>none
noncomputable def iJ(xs ys:List Dt):List Dt:=List.zipWith (λx y=>Dt.tup [x,y]) xs ys
noncomputable def v8:Nat->List Dt->List Dt
 |_,[]=>[]
 |i,x::xs=>Dt.tup [.int i,x]::v8 (i+1) xs
noncomputable def uG(T:String):Dt->R Bool
 |.str _=>.ok (T=="str")
 |.int _=>.ok (T=="int")
 |.bl _=>.ok (T=="bool"||T=="int")
 |.lst _=>.ok (T=="list")
 |.tup _=>.ok (T=="tuple")
 |.bz=>.ok false
 |_=>.bad
noncomputable def zD(d:Dt):Option (Str×Dt):=match d with
 |.tup ds=>match ds with
  |[a,v]=>match a with
   |.str k=>some (k,v)
   |_=>none
  |_=>none
 |_=>none
noncomputable def v7:List Dt->Option (List (Str×Dt))
 |[]=>some []
 |d::r=>(zD d).bind λp=>(v7 r).map (p:: ·)
noncomputable def c8(b:BI)(as:List Dt):R Dt:=match b with
 |.len=>match as with
  |[.str x]=>af (decide (x.length<=lim)) (.ok (.int x.length))
  |[.lst ds]=>.ok (.int ds.length)
  |[.tup ds]=>.ok (.int ds.length)
  |[.aQ ds]=>.ok (.int ds.length)
  |_=>.bad
 |.min2=>match as with
  |[.int i,.int j]=>.ok (.int (if j<i then j else i))
  |_=>.bad
 |.max2=>match as with
  |[.int i,.int j]=>.ok (.int (if j>i then j else i))
  |_=>.bad
 |.sum=>match as with
  |[.lst ds]=>match intsOf ds with|some ns=>.ok (.int ns.sum)|none=>.bad
  |[.tup ds]=>match intsOf ds with|some ns=>.ok (.int ns.sum)|none=>.bad
  |_=>.bad
 |.any=>match as with
  |[.lst ds]=>match gO ds with|some ns=>.ok (.bl (ns.any id))|none=>.bad
  |_=>.bad
 |.sorted=>match as with
  |[d]=>match itemsOf d with
   |some ds=>match eW ds with
    |some ms=>af (jg ms) (.ok (.lst (aa (a6 ms))))
    |none=>.bad
   |none=>.bad
  |_=>.bad
 |.tuple=>match as with
  |[.lst ds]=>.ok (.tup ds)
  |[.tup ds]=>.ok (.tup ds)
  |_=>.bad
 |.list=>match as with
  |[.lst ds]=>.ok (.lst ds)
  |[.tup ds]=>.ok (.lst ds)
  |[.aQ ns]=>.ok (.lst (ns.map Dt.int))
  |_=>.bad
 |.isi T=>match as with
  |[d]=>(uG T d).bind λb=>.ok (.bl b)
  |_=>.bad
 |.sset=>match as with
  |[d]=>match bV d with
   |some ds=>match strsOf ds with
    |some ys=>af (decide (ys.length<64)) (.ok (.lst (aa (a6 ((dd ys).map Mx.D.str)))))
    |none=>.bad
   |none=>.bad
  |_=>.bad
 |.dict=>match as with
  |[.tup ds]=>match v7 ds with|some ps=>af (decide (ps.map (·.1)).Nodup) (.ok (.obj (ps.map (·.1)) (ps.map (·.2))))|none=>.bad
  |_=>.bad
noncomputable def isStr:Dt->Bool
 |.str _=>true
 |_=>false
inductive MT where
 |join
 deriving DecidableEq
noncomputable def Pg:MT->Dt->List Dt->R Dt
 |.join,.str z,[.lst ds]=>match strsOf ds with
  |some ys=>af (decide ((ys.map (·.length)).sum+ys.length*z.length<=lim)) (.ok (.str (PySem.Txt.join z ys)))
  |none=>.bad
 |_,_,_=>.bad
inductive Tg where
 |nm (i:Nat)|tp (is:List Nat)
 deriving DecidableEq
mutual
inductive C where
 |con (d:Dt)|var (i:Nat)|mvr (i:Nat)
 |bin (o:Operator) (a b:C)|cmp (o:CmpOp) (a b:C)|ch (o p:CmpOp) (a b c:C)
 |neg (a:C)|nt (a:C)|and (a b:C)|or (a b:C)|ite (t a b:C)
 |idx (a b:C)|sliL (a lo:C)|sliH (a hi:C)|sliB (a lo hi:C)
 |tup (es:Cs)|lst (es:Cs)
 |call (f:Nat) (es:Cs) (ds:List Dt)|callD (f:Nat) (es:Cs)|popD|lenD
 |bi (b:BI) (es:Cs)|mt (m:MT) (o:C) (es:Cs)
 |FJ (i:Nat) (k e:C)|srtI (i:Nat)|gtO (o k e:C)
 |comp (cap:List (Option Nat)) (it:pW) (tg:Tg) (ts:Cs) (e:C)
 |Bk (cap:List (Option Nat)) (it:pW) (tg:Tg) (ts:Cs) (KU:pW) (Np:Tg) (Nq:Cs) (e:C)
inductive Cs where
 |nil|cons (c:C) (cs:Cs)
inductive pW where
 |seq (c:C)|rng1 (c:C)|rng2 (a b:C)|zip (a b:C)|enum (c:C)|zipR (a c:C)
end
noncomputable def Cs.all(p:C->Bool):Cs->Bool
 |.nil=>true
 |.cons c cs=>p c&&cs.all p
mutual
noncomputable def lk:C->Nat
 |.mvr _=>1
 |.and _ _=>0
 |.or _ _=>0
 |.ite _ a b=>max (lk a) (lk b)
 |.idx a _=>if lk a<=1 then 0 else 2
 |.sliL a _=>if lk a<=1 then 0 else 2
 |.sliH a _=>if lk a<=1 then 0 else 2
 |.sliB a _ _=>if lk a<=1 then 0 else 2
 |.bin _ a b=>if lk a<=1/\lk b<=1 then 0 else 2
 |.tup es=>if lZ es=0 then 0 else 2
 |.lst es=>if lZ es=0 then 0 else 2
 |.call _ es _=>if lZ es=0 then 0 else 2
 |.callD _ es=>if lZ es=0 then 0 else 2
 |.bi _ es=>if lZ es<=1 then 0 else 2
 |.FJ _ _ e=>lk e
 |.gtO o _ e=>if lk o=0 then lk e else 2
 |_=>0
noncomputable def lZ:Cs->Nat
 |.nil=>0
 |.cons c cs=>max (lk c) (lZ cs)
end
noncomputable def vk:pW->Nat
 |.seq c=>lk c
 |.zip a b=>max (lk a) (lk b)
 |.enum c=>lk c
 |.zipR a _=>lk a
 |_=>0
noncomputable def fresh(fr:Nat->Bool):C->Bool
 |.lst _=>true
 |.comp ..=>true
 |.Bk ..=>true
 |.bi .sorted _=>true
 |.bi .list _=>true
 |.bi .sset _=>true
 |.bin ..=>true
 |.sliH ..=>true
 |.call f _ _=>fr f
 |.callD f _=>fr f
 |_=>false
noncomputable def bo(c:C)(d:Dt):Bool:=decide (lk c=0)||fI d
noncomputable def iD(c:C)(d:Dt):Bool:=decide (lk c=0)||match d with|.lst ds=>dQ ds|d=>fI d
noncomputable def dm(ρ:aj)(i:Nat):R Dt:=match ρ[i]? with
 |some (some d)=>.ok d
 |_=>.bad
noncomputable def jU(cap:List (Option Nat))(ρ:aj):aj:=cap.map λo=>o.bind λi=>(ρ[i]?).join
noncomputable def fL:List Nat->List Dt->aj->R aj
 |[],[],ρ=>.ok ρ
 |i::is,d::ds,ρ=>fL is ds (ρ.set i (some d))
 |_,_,_=>.bad
noncomputable def dG:Tg->Dt->aj->R aj
 |.nm i,d,ρ=>.ok (ρ.set i (some d))
 |.tp is,.tup ds,ρ=>fL is ds ρ
 |_,_,_=>.bad
noncomputable def yn(is:List Nat)(d:Dt)(ρ:aj):R aj:=match d with
 |.tup ds=>fL is ds ρ
 |.lst ds=>fL is ds ρ
 |_=>.bad
noncomputable def a9(f:Dt->Sx->R (List Dt×Sx)):List Dt->Sx->R (List Dt×Sx)
 |[],S=>.ok ([],S)
 |x::xs,S=>(f x S).bind λp=>(a9 f xs p.2).bind λq=>.ok (p.1++q.1,q.2)
noncomputable def ck(tg:Tg)(Md:aj->Sx->R (Bool×Sx))(body:aj->Sx->R (List Dt×Sx))(ρ:aj)(d:Dt)(S:Sx):R (List Dt×Sx):=
 (dG tg d ρ).bind λρ1=>(Md ρ1 S).bind λb=>if b.1 then body ρ1 b.2 else .ok ([],b.2)
noncomputable def bf(lo:Int)(n:Nat):List Dt:=(List.range n).map λ(i:Nat)=>Dt.int (lo+(i:Int))
noncomputable def JV(d:Mx.D):List Dt->List Dt->Option Dt
 |k::ks,v::vs=>if toD k=some d then some v else JV d ks vs
 |_,_=>none
noncomputable def FB(d:Mx.D)(v:Dt):List Dt->List Dt->List Dt
 |k::ks,x::vs=>(if toD k=some d then v else x)::FB d v ks vs
 |_,vs=>vs
noncomputable def GF(k:Dt):Option Mx.D:=match toD k with
 |some (.tup ds)=>if Mx.D.dep (.tup ds)<=8 then some (.tup ds) else none
 |_=>none
noncomputable def Fz(z k e:Dt):R Dt:=match z with
 |.gg ks vs=>match GF k with
  |some d=>.ok ((JV d ks vs).getD e)
  |none=>.bad
 |_=>.bad
noncomputable def FC(z k v:Dt):R Dt:=match z with
 |.gg ks vs=>match GF k with
  |some d=>af (decide (ks.length<lim)) (.ok (if (JV d ks vs).isSome then .gg ks (FB d v ks vs) else .gg (ks++[k]) (vs++[v])))
  |none=>.bad
 |_=>.bad
noncomputable def xC(ks vs:List Mx.D):List Mx.D:=(ks.zip vs).map λz=>.tup [z.1,z.2]
noncomputable def FD(z:Dt):R Dt:=match z with
 |.gg ks vs=>match eW ks,eW vs with
  |some ms,some ns=>af (jg (xC ms ns)) (.ok (.lst (aa (a6 (xC ms ns)))))
  |_,_=>.bad
 |_=>.bad
noncomputable def KS:Dt->Bool
 |.obj _ _=>true
 |_=>false
noncomputable def E7(y:Str):List Str->List Dt->Option Dt
 |k::ks,v::vs=>if k=y then some v else E7 y ks vs
 |_,_=>none
noncomputable def BK(z k e:Dt):R Dt:=match z with
 |.obj ks vs=>match k with
  |.str y=>.ok ((E7 y ks vs).getD e)
  |_=>.bad
 |_=>.bad
noncomputable def GB(ρ:aj)(i:Nat):Bool:=match ρ[i]? with|some (some (.gg _ _))=>true|_=>false
noncomputable abbrev FT:=Nat->List Dt->Sx->R (Dt×Sx)
mutual
noncomputable def ev(F:FT):C->aj->Sx->R (Dt×Sx)
 |.con d,_,S=>.ok (d,S)
 |.var i,ρ,S=>(dm ρ i).bind λd=>.ok (d,S)
 |.mvr i,ρ,S=>(dm ρ i).bind λd=>.ok (d,S)
 |.bin o a b,ρ,S=>(ev F a ρ S).bind λx=>(ev F b ρ x.2).bind λy=>(kq o x.1 y.1).bind λd=>.ok (d,y.2)
 |.cmp o a b,ρ,S=>(ev F a ρ S).bind λx=>(ev F b ρ x.2).bind λy=>(c7 o x.1 y.1).bind λd=>.ok (.bl d,y.2)
 |.ch o p a b c,ρ,S=>(ev F a ρ S).bind λx=>(ev F b ρ x.2).bind λy=>(c7 o x.1 y.1).bind λd=>
   if d then(ev F c ρ y.2).bind λz=>(c7 p y.1 z.1).bind λe=>.ok (.bl e,z.2) else .ok (.bl false,y.2)
 |.neg a,ρ,S=>(ev F a ρ S).bind λx=>match x.1 with|.int i=>.ok (.int (-i),x.2)|_=>.bad
 |.nt a,ρ,S=>(ev F a ρ S).bind λx=>match x.1 with|.bl b=>.ok (.bl !b,x.2)|_=>.bad
 |.and a b,ρ,S=>(ev F a ρ S).bind λx=>match x.1 with|.bl true=>(ev F b ρ x.2).bind λy=>(match y.1 with|.bl c=>.ok (.bl c,y.2)|_=>.bad)|.bl false=>.ok (.bl false,x.2)|_=>.bad
 |.or a b,ρ,S=>(ev F a ρ S).bind λx=>match x.1 with|.bl false=>(ev F b ρ x.2).bind λy=>(match y.1 with|.bl c=>.ok (.bl c,y.2)|_=>.bad)|.bl true=>.ok (.bl true,x.2)|_=>.bad
 |.ite t a b,ρ,S=>(cW F t ρ S).bind λx=>if x.1 then ev F a ρ x.2 else ev F b ρ x.2
 |.idx a b,ρ,S=>(ev F a ρ S).bind λx=>(ev F b ρ x.2).bind λy=>(bW x.1 y.1).bind λd=>.ok (d,y.2)
 |.sliL a l,ρ,S=>(ev F a ρ S).bind λx=>(ev F l ρ x.2).bind λy=>match y.1 with|.int i=>(fM x.1 (some i) none).bind λd=>.ok (d,y.2)|_=>.bad
 |.sliH a h,ρ,S=>(ev F a ρ S).bind λx=>(ev F h ρ x.2).bind λy=>match y.1 with|.int i=>(fM x.1 none (some i)).bind λd=>.ok (d,y.2)|_=>.bad
 |.sliB a l h,ρ,S=>(ev F a ρ S).bind λx=>(ev F l ρ x.2).bind λy=>match y.1 with|.int i=>(ev F h ρ y.2).bind λz=>(match z.1 with|.int j=>(fM x.1 (some i) (some j)).bind λd=>.ok (d,z.2)|_=>.bad)|_=>.bad
 |.tup es,ρ,S=>(fU F es ρ S).bind λx=>af (decide (x.1.length<=lim)) (.ok (.tup x.1,x.2))
 |.lst es,ρ,S=>(fU F es ρ S).bind λx=>af (decide (x.1.length<=lim)) (.ok (.lst x.1,x.2))
 |.call f es ds,ρ,S=>(fU F es ρ S).bind λx=>(F f (x.1++ds) none).bind λy=>.ok (y.1,x.2)
 |.callD f es,ρ,S=>af S.isSome ((fU F es ρ S).bind λx=>match x.2 with|some s=>F f x.1 (some s)|none=>.bad)
 |.popD,_,S=>match S with|some ns=>af (!ns.isEmpty) (.ok (.int (ns.getLastD 0),some ns.dropLast))|none=>.bad
 |.lenD,_,S=>match S with|some ns=>.ok (.int ns.length,S)|none=>.bad
 |.FJ i k e,ρ,S=>af (GB ρ i) ((ev F k ρ S).bind λx=>(ev F e ρ x.2).bind λy=>(dm ρ i).bind λz=>(Fz z x.1 y.1).bind λd=>.ok (d,y.2))
 |.srtI i,ρ,S=>(dm ρ i).bind λz=>(FD z).bind λd=>.ok (d,S)
 |.gtO o k e,ρ,S=>(ev F o ρ S).bind λz=>af (KS z.1) ((ev F k ρ z.2).bind λx=>(ev F e ρ x.2).bind λy=>(BK z.1 x.1 y.1).bind λd=>.ok (d,y.2))
 |.bi b es,ρ,S=>(fU F es ρ S).bind λx=>(c8 b x.1).bind λd=>.ok (d,x.2)
 |.mt m o es,ρ,S=>(ev F o ρ S).bind λy=>af (isStr y.1) ((fU F es ρ y.2).bind λx=>(Pg m y.1 x.1).bind λd=>.ok (d,x.2))
 |.comp cap it tg ts e,ρ,S=>(fq F it ρ S).bind λx=>af (decide (x.1.length<=lim)&&(decide (vk it<=1)||jh F it ρ S))
   ((a9 (ck tg (c9 F ts) (λρ1 S1=>(ev F e ρ1 S1).bind λy=>af (bo e y.1) (.ok ([y.1],y.2))) (jU cap ρ)) x.1 x.2).bind λq=>.ok (.lst q.1,q.2))
 |.Bk cap it tg ts KU Np Nq e,ρ,S=>(fq F it ρ S).bind λx=>af (decide (x.1.length<=lim)&&(decide (vk it<=1)||jh F it ρ S))
   ((a9 (ck tg (c9 F ts) (λρ1 S1=>(fq F KU ρ1 S1).bind λx2=>af (decide (x.1.length*x2.1.length<=lim)&&decide (vk KU=0))
    (a9 (ck Np (c9 F Nq) (λρ2 S2=>(ev F e ρ2 S2).bind λy=>af (bo e y.1) (.ok ([y.1],y.2))) ρ1) x2.1 x2.2)) (jU cap ρ)) x.1 x.2).bind λq=>.ok (.lst q.1,q.2))
noncomputable def cW(F:FT):C->aj->Sx->R (Bool×Sx)
 |.nt a,ρ,S=>(cW F a ρ S).bind λx=>.ok (!x.1,x.2)
 |.and a b,ρ,S=>(cW F a ρ S).bind λx=>if x.1 then cW F b ρ x.2 else .ok (false,x.2)
 |.or a b,ρ,S=>(cW F a ρ S).bind λx=>if x.1 then .ok (true,x.2) else cW F b ρ x.2
 |.cmp o a b,ρ,S=>(ev F a ρ S).bind λx=>(ev F b ρ x.2).bind λy=>(c7 o x.1 y.1).bind λd=>.ok (d,y.2)
 |.ch o p a b c,ρ,S=>(ev F a ρ S).bind λx=>(ev F b ρ x.2).bind λy=>(c7 o x.1 y.1).bind λd=>
   if d then(ev F c ρ y.2).bind λz=>(c7 p y.1 z.1).bind λe=>.ok (e,z.2) else .ok (false,y.2)
 |.var i,ρ,S=>(dm ρ i).bind λd=>(dH d).bind λb=>.ok (b,S)
 |.mvr i,ρ,S=>(dm ρ i).bind λd=>(dH d).bind λb=>.ok (b,S)
 |.call f es ds,ρ,S=>(fU F es ρ S).bind λx=>(F f (x.1++ds) none).bind λy=>(dH y.1).bind λb=>.ok (b,x.2)
 |.callD f es,ρ,S=>af S.isSome ((fU F es ρ S).bind λx=>match x.2 with|some s=>(F f x.1 (some s)).bind λy=>(dH y.1).bind λb=>.ok (b,y.2)|none=>.bad)
 |.bi b es,ρ,S=>(fU F es ρ S).bind λx=>(c8 b x.1).bind λd=>(dH d).bind λb=>.ok (b,x.2)
 |.idx a b,ρ,S=>(ev F a ρ S).bind λx=>(ev F b ρ x.2).bind λy=>(bW x.1 y.1).bind λd=>(dH d).bind λb=>.ok (b,y.2)
 |_,_,_=>.bad
noncomputable def fU(F:FT):Cs->aj->Sx->R (List Dt×Sx)
 |.nil,_,S=>.ok ([],S)
 |.cons c cs,ρ,S=>(ev F c ρ S).bind λx=>(fU F cs ρ x.2).bind λy=>.ok (x.1::y.1,y.2)
noncomputable def c9(F:FT):Cs->aj->Sx->R (Bool×Sx)
 |.nil,_,S=>.ok (true,S)
 |.cons c .nil,ρ,S=>cW F c ρ S
 |_,_,_=>.bad
noncomputable def fq(F:FT):pW->aj->Sx->R (List Dt×Sx)
 |.seq c,ρ,S=>(ev F c ρ S).bind λx=>match itemsOf x.1 with|some ds=>.ok (ds,x.2)|none=>.bad
 |.rng1 c,ρ,S=>(ev F c ρ S).bind λx=>match x.1 with|.int j=>af (decide (j<=lim)&&decide (-lim<=j)) (.ok (bf 0 j.toNat,x.2))|_=>.bad
 |.rng2 a b,ρ,S=>(ev F a ρ S).bind λx=>(ev F b ρ x.2).bind λy=>match x.1,y.1 with
   |.int i,.int j=>af (decide (i.natAbs<=lim)&&decide (j.natAbs<=lim)) (.ok (bf i (j-i).toNat,y.2))|_,_=>.bad
 |.zip a b,ρ,S=>(ev F a ρ S).bind λx=>(ev F b ρ x.2).bind λy=>match bV x.1,bV y.1 with
   |some xs,some ys=>.ok (iJ xs ys,y.2)|_,_=>.bad
 |.enum c,ρ,S=>(ev F c ρ S).bind λx=>match bV x.1 with|some ds=>.ok (v8 0 ds,x.2)|none=>.bad
 |.zipR a c,ρ,S=>(ev F a ρ S).bind λx=>(ev F c ρ x.2).bind λy=>match bV x.1,y.1 with
   |some xs,.int j=>af (decide (j<=lim)&&decide (-lim<=j)) (.ok (iJ xs (bf 0 j.toNat),y.2))|_,_=>.bad
noncomputable def jh(F:FT):pW->aj->Sx->Bool
 |.seq c,ρ,S=>match ev F c ρ S with|.ok x=>fI x.1|_=>false
 |_,_,_=>false
end
inductive Fl where
 |next|brk|cnt|ret (d:Dt)
mutual
inductive T where
 |asg (i:Nat) (c:C)|asgM (i:Nat) (c:C)|asgD (i:Nat) (c:C)|mov (i j:Nat)|asgT (is:List Nat) (c:C)
 |aug (i:Nat) (o:Operator) (c:C)
 |rd (i:Nat) (k v:C)|app (i:Nat) (c:C)|xtd (i:Nat) (c:C)|clr (i:Nat)
 |FA (c:C)|ret (c:C)|retN|ifs (t:C) (a b:Ts)|fr (tg:Tg) (it:pW) (b:Ts)|wh (t:C) (b:Ts)
 |JW (i:Nat)|dset (i:Nat) (k v:C)
 |rs (k:Nat) (vs:List Nat)|tr (b:Ts) (vm:List (Option Bool))|brk|cnt|pas
inductive Ts where
 |nil|cons (t:T) (ts:Ts)
end
noncomputable abbrev RS:=R (Fl×aj×Sx)
noncomputable def GR(ρ:aj)(i:Nat):Bool:=match ρ[i]? with
 |some (some (.int n))=>decide (0<=n)&&decide (n<10^19)
 |_=>false
noncomputable def forL(tg:Tg)(body:aj->Sx->RS):List Dt->aj->Sx->RS
 |[],ρ,S=>.ok (.next,ρ,S)
 |x::xs,ρ,S=>(dG tg x ρ).bind λρ1=>(body ρ1 S).bind λp=>match p.1 with
  |.next=>forL tg body xs p.2.1 p.2.2
  |.cnt=>forL tg body xs p.2.1 p.2.2
  |.brk=>.ok (.next,p.2)
  |.ret d=>.ok (.ret d,p.2)
noncomputable def Mg(test:aj->Sx->R (Bool×Sx))(body:aj->Sx->RS):Nat->aj->Sx->RS
 |0,_,_=>.bad
 |n+1,ρ,S=>(test ρ S).bind λb=>if b.1 then(body ρ b.2).bind λp=>match p.1 with
   |.next=>Mg test body n p.2.1 p.2.2
   |.cnt=>Mg test body n p.2.1 p.2.2
   |.brk=>.ok (.next,p.2)
   |.ret d=>.ok (.ret d,p.2)
  else .ok (.next,ρ,b.2)
noncomputable def HY:Nat:=100000
noncomputable def isLE(ρ:aj)(i:Nat):Bool:=match ρ[i]? with
 |some (some (.lst _))=>true
 |_=>false
noncomputable def oZ(ρ:aj)(i:Nat):R (List Dt):=match ρ[i]? with
 |some (some (.lst ds))=>.ok ds
 |_=>.bad
mutual
noncomputable def ex(F:FT):T->aj->Sx->RS
 |.asg i c,ρ,S=>(ev F c ρ S).bind λx=>af (bo c x.1) (.ok (.next,ρ.set i (some x.1),x.2))
 |.asgM i c,ρ,S=>(ev F c ρ S).bind λx=>af (iD c x.1) (.ok (.next,ρ.set i (some x.1),x.2))
 |.asgD i c,ρ,S=>(ev F c ρ S).bind λx=>match x.1 with|.lst ds=>(match intsOf ds with|some ns=>af (decide (lk c=0)&&decide (i<ρ.length)) (.ok (.next,ρ.set i none,some ns))|none=>.bad)|_=>.bad
 |.mov i j,ρ,S=>(dm ρ j).bind λd=>.ok (.next,(ρ.set j none).set i (some d),S)
 |.asgT is c,ρ,S=>(ev F c ρ S).bind λx=>af (bo c x.1) ((yn is x.1 ρ).bind λρ1=>.ok (.next,ρ1,x.2))
 |.aug i o c,ρ,S=>(dm ρ i).bind λd=>(ev F c ρ S).bind λx=>match d,x.1 with
   |.int _,.int _=>(kq o d x.1).bind λz=>.ok (.next,ρ.set i (some z),x.2)
   |.str _,.str _=>(kq o d x.1).bind λz=>.ok (.next,ρ.set i (some z),x.2)
   |_,_=>.bad
 |.rd i k v,ρ,S=>af (isLE ρ i) ((ev F v ρ S).bind λx=>(ev F k ρ x.2).bind λy=>af (bo v x.1) ((oZ ρ i).bind λds=>match y.1 with
   |.int n=>(match kZ ds.length n with|some j=>.ok (.next,ρ.set i (some (.lst (ds.set j x.1))),y.2)|none=>.bad)|_=>.bad))
 |.JW i,ρ,S=>.ok (.next,ρ.set i (some (.gg [] [])),S)
 |.dset i k v,ρ,S=>af (GB ρ i) ((ev F v ρ S).bind λx=>(ev F k ρ x.2).bind λy=>(dm ρ i).bind λz=>af (decide (lk v=0)) ((FC z y.1 x.1).bind λd=>.ok (.next,ρ.set i (some d),y.2)))
 |.app i c,ρ,S=>af (isLE ρ i) ((ev F c ρ S).bind λx=>af (bo c x.1) ((oZ ρ i).bind λds=>af (decide (ds.length<=lim)) (.ok (.next,ρ.set i (some (.lst (ds++[x.1]))),x.2))))
 |.xtd i c,ρ,S=>af (isLE ρ i) ((ev F c ρ S).bind λx=>af (decide (lk c<=1)) ((oZ ρ i).bind λds=>match x.1 with
   |.lst es=>af (decide (ds.length+es.length<=lim)) (.ok (.next,ρ.set i (some (.lst (ds++es))),x.2))|.tup es=>af (decide (ds.length+es.length<=lim)) (.ok (.next,ρ.set i (some (.lst (ds++es))),x.2))|_=>.bad))
 |.clr i,ρ,S=>(oZ ρ i).bind λ_=>.ok (.next,ρ.set i (some (.lst [])),S)
 |.FA c,ρ,S=>(ev F c ρ S).bind λx=>.ok (.next,ρ,x.2)
 |.ret c,ρ,S=>(ev F c ρ S).bind λx=>.ok (.ret x.1,ρ,x.2)
 |.retN,ρ,S=>.ok (.ret .bz,ρ,S)
 |.ifs t a b,ρ,S=>(cW F t ρ S).bind λx=>if x.1 then aF F a ρ x.2 else aF F b ρ x.2
 |.fr tg it b,ρ,S=>(fq F it ρ S).bind λx=>af (decide (vk it=0)||jh F it ρ S) (forL tg (aF F b) x.1 ρ x.2)
 |.wh t b,ρ,S=>Mg (cW F t) (aF F b) HY ρ S
 |.rs k vs,ρ,S=>af (vs.all (GR ρ)) (.ex k)
 |.tr b vm,ρ,S=>af S.isNone (match aF F b ρ S with|.ex k=>(match vm[k]? with|some (some v)=>.ok (.ret (.bl v),ρ,S)|_=>.bad)|r=>r)
 |.brk,ρ,S=>.ok (.brk,ρ,S)
 |.cnt,ρ,S=>.ok (.cnt,ρ,S)
 |.pas,ρ,S=>.ok (.next,ρ,S)
noncomputable def aF(F:FT):Ts->aj->Sx->RS
 |.nil,ρ,S=>.ok (.next,ρ,S)
 |.cons t ts,ρ,S=>(ex F t ρ S).bind λp=>match p.1 with
  |.next=>aF F ts p.2.1 p.2.2
  |f=>.ok (f,p.2)
end
structure Fn where
 ps:Nat
 n:Nat
 bj:Bool
 body:Ts
noncomputable def gh(F:FT)(f:Fn)(args:List Dt)(S:Sx):R (Dt×Sx):=
 if args.length+(if f.bj then 1 else 0)=f.ps then
  (aF F f.body ((if f.bj then[none] else[])++args.map some++List.replicate (f.n-f.ps) none) S).bind λp=>match p.1 with
   |.next=>.ok (.bz,p.2.2)
   |.ret d=>.ok (d,p.2.2)
   |_=>.bad
 else .bad
noncomputable def aA(fs:List Fn):Nat->FT
 |0,_,_,_=>.bad
 |n+1,f,args,S=>match fs[f]? with
  |some g=>gh (aA fs n) g args S
  |none=>.bad
structure G where
 fns:List (Str×Nat×List Dt×Bool)
 cons:List (Str×Dt)
 bls:List Str
 fr:Nat->Bool
 xs:List (Str×List (Str×Bool))
structure Gm where
 names:List (Str×NameKind)
 N:List Str
 M:List Bool
 δ:Option Nat
 κ:Option Nat
noncomputable def yJ:Option NameKind->Bool
 |some .local=>true
 |some .cell=>true
 |some .free=>true
 |_=>false
noncomputable def xl:Option NameKind->Bool
 |some .local=>true
 |some .cell=>true
 |_=>false
noncomputable def sE:Option NameKind->Bool
 |some .globalImplicit=>true
 |_=>false
noncomputable def xa(x:Str):List Str->Option Nat
 |[]=>none
 |y::r=>if x==y then some 0 else(xa x r).map (· + 1)
theorem jE{x:Str}:∀{l:List Str}{i:Nat},xa x l=some i->l[i]?=some x
 |[],i,h=>by simp[xa]at h
 |y::r,i,h=>by
  unfold xa at h;by_cases e:(x==y)=true
  ·rw[SH e]at h;cases h;have:x=y:=by simpa using e
   simp[this]
  ·rw[SF e]at h;obtain⟨j,h1,rfl⟩:=QD.mp h;simp[jE h1]
noncomputable def cY(x:Str):Bool:= !(x==("__debug__":Str))&& !(x==("__classdict__":Str))&& !(x==("__name__":Str))
noncomputable def slot(Γ:Gm)(x:Str):Option Nat:=if yJ (Γ.names.lookup x)&&cY x then xa x Γ.N else none
noncomputable def fj(Γ:Gm)(x:Str):Option Nat:=if xl (Γ.names.lookup x)&&cY x then xa x Γ.N else none
noncomputable def fh(Γ:Gm)(i:Nat):Bool:=Γ.M[i]?==some true
noncomputable def plainS(Γ:Gm)(i:Nat):Bool:= !fh Γ i&& !(Γ.δ==some i)
noncomputable def qt(x:Str):List (Str×Nat×List Dt×Bool)->Option (Nat×Nat×List Dt×Bool)
 |[]=>none
 |y::r=>if x==y.1 then some (0,y.2) else(qt x r).map λp=>(p.1+1,p.2)
noncomputable def vD:List (Str×Nat×BI):=[("len",1,.len),("min",2,.min2),("max",2,.max2),("sum",1,.sum),("any",1,.any),("sorted",1,.sorted),("tuple",1,.tuple),("list",1,.list),("dict",1,.dict)]
noncomputable def qi(x:Str)(n:Nat):Option BI:=(vD.find? λt=>t.1==x&&t.2.1==n).map (·.2.2)
noncomputable def rA(x:Str):Option String:=
 if x==("str":Str) then some "str" else if x==("int":Str) then some "int" else if x==("bool":Str) then some "bool"
 else if x==("list":Str) then some "list" else if x==("tuple":Str) then some "tuple" else none
noncomputable def ph(Γ:Gm):Expr->Option Nat
 |.Name x _=>(fj Γ x).bind λi=>if plainS Γ i then some i else none
 |_=>none
noncomputable def fD(Γ:Gm):List Expr->Option (List Nat)
 |[]=>some []
 |e::es=>(ph Γ e).bind λi=>(fD Γ es).map (i:: ·)
noncomputable def vK(Γ:Gm):Expr->Option Tg
 |.Name x p=>(ph Γ (.Name x p)).map .nm
 |.Tuple es _ _=>(fD Γ es).map .tp
 |_=>none
noncomputable def JT(names:List (Str×NameKind)):List Str:=names.filterMap λp=>if yJ (some p.2) then some p.1 else none
noncomputable def Cm(names:List (Str×NameKind))(N:List Str):List (Option Nat):=names.filterMap λp=>match p.2 with
 |.local=>some none
 |.free=>some (xa p.1 N)
 |.cell=>some none
 |_=>none
noncomputable def Cn(cap:List (Option Nat))(M:List Bool):List Bool:=cap.map λo=>o.elim false λi=>M[i]?==some true
noncomputable def zd(δ:Option Nat):List (Option Nat)->Option Nat
 |[]=>none
 |o::r=>if δ.isSome&&o==δ then some 0 else(zd δ r).map (· + 1)
noncomputable def bA(Γ:Gm)(sc:Scope):Gm×List (Option Nat):=
 let cap:=Cm sc.names Γ.N
 (⟨sc.names,JT sc.names,Cn cap Γ.M,zd Γ.δ cap,zd Γ.κ cap⟩,cap)
noncomputable def bT:Tg->List Nat
 |.nm i=>[i]
 |.tp is=>is
noncomputable def zt(names on:List (Str×NameKind))(N' Nn:List Str)(cap:List (Option Nat)):Bool:=
 names.all (λy=>names.lookup y.1==some y.2&&(y.2 != .free||(on.lookup y.1==some .cell||on.lookup y.1==some .free)))&&
 (cap.length==N'.length)&&(List.range cap.length).all (λj=>match cap[j]? with
  |some (some i)=>(match N'[j]? with
   |some x=>Nn[i]?==some x&&names.lookup x==some .free
   |none=>false)
  |_=>true)
noncomputable def KR(Γ:Gm):Expr->Bool
 |.Name x _=>match slot Γ x with
  |some i=>Γ.δ==some i
  |none=>false
 |_=>false
noncomputable def Bi(k:Str):C:=.bi .dict (.cons (.tup (.cons (.tup (.cons (.con (.str k)) (.cons (.tup .nil) .nil))) .nil)) .nil)
mutual
noncomputable def cE:Nat->G->Gm->Expr->Option C
 |0,_,_,_=>none
 |n+1,g,Γ,e=>match e with
  |.Constant k _ _=>match k with
   |.int i=>some (.con (.int i))
   |.str x=>some (.con (.str x))
   |.bool x=>some (.con (.bl x))
   |.none=>some (.con .bz)
   |_=>none
  |.Name x _=>match slot Γ x with
   |some i=>if Γ.δ==some i||Γ.κ==some i then none else if fh Γ i then some (.mvr i) else some (.var i)
   |none=>if sE (Γ.names.lookup x)&&cY x then(g.cons.lookup x).map .con else none
  |.BinOp a o b _=>(cE n g Γ a).bind λa'=>(cE n g Γ b).bind λb'=>some (.bin o a' b')
  |.UnaryOp o a _=>(cE n g Γ a).bind λa'=>match o with
   |.USub=>some (.neg a')
   |.Not=>some (.nt a')
   |_=>none
  |.BoolOp o vs _=>cB n g Γ o vs
  |.Compare a os bs _=>match os,bs with
   |[o],[b]=>(cE n g Γ a).bind λa'=>(cE n g Γ b).bind λb'=>some (.cmp o a' b')
   |_,_=>none
  |.Subscript a b _=>match b with
   |.Slice (some l) none none _=>(cE n g Γ a).bind λa'=>(cE n g Γ l).bind λl'=>some (.sliL a' l')
   |.Slice none (some h) none _=>(cE n g Γ a).bind λa'=>(cE n g Γ h).bind λh'=>some (.sliH a' h')
   |b=>(cE n g Γ a).bind λa'=>(cE n g Γ b).bind λb'=>some (.idx a' b')
  |.Tuple es _ _=>(vJ n g Γ es).bind λde=>some (.tup de)
  |.List es _=>(vJ n g Γ es).bind λde=>some (.lst de)
  |.Dict ks vs _=>match ks,vs with
   |[some (.Constant (.str k) _ _)],[.Tuple [] _ _]=>some (Bi k)
   |_,_=>none
  |.Call f as ks pos=>match f,as,ks with
   |.Name f _,a::as,[]=>rR n g Γ f a as
   |.Attribute o m ap,[a,b],[]=>if m==("get":Str)&&ap.endLine==pos.line then(cE n g Γ o).bind λo'=>(cE n g Γ a).bind λa'=>(cE n g Γ b).bind λb'=>some (.gtO o' a' b') else none
   |_,_,_=>none
  |.ListComp elt gens sc _=>
   let b:=bA Γ sc
   if sc.kind== .function then(match gens with
   |[⟨tg,it,ifs,0⟩]=>(cI n g Γ tg it).bind λfA=>(vK b.1 tg).bind λyC=>(Fw n g b.1 ifs).bind λze=>(cE n g b.1 elt).bind λe'=>
    if zt sc.names Γ.names b.1.N Γ.N b.2&&decide b.1.N.Nodup then some (.comp b.2 fA yC ze e') else none
   |_=>none) else none
  |_=>none
noncomputable def vJ:Nat->G->Gm->List Expr->Option Cs
 |0,_,_,_=>none
 |n+1,g,Γ,es=>match es with
  |[]=>some .nil
  |e::es=>(cE n g Γ e).bind λe'=>(vJ n g Γ es).bind λde=>some (.cons e' de)
noncomputable def Fw:Nat->G->Gm->List Expr->Option Cs
 |0,_,_,_=>none
 |n+1,g,Γ,es=>match es with
  |[]=>some .nil
  |[e]=>(cE n g Γ e).bind λe'=>some (.cons e' .nil)
  |_=>none
noncomputable def cB:Nat->G->Gm->BoolOp->List Expr->Option C
 |0,_,_,_,_=>none
 |n+1,g,Γ,o,es=>match es with
  |[e]=>cE n g Γ e
  |e::es=>(cE n g Γ e).bind λe'=>(cB n g Γ o es).bind λde=>some (match o with|.And=>.and e' de|.Or=>.or e' de)
  |[]=>none
noncomputable def cI:Nat->G->Gm->Expr->Expr->Option pW
 |0,_,_,_,_=>none
 |n+1,g,Γ,tg,e=>match e with
  |.Call (.Name f p) [a] [] q=>if f==("range":Str) then(if sE (Γ.names.lookup f)&&g.bls.contains f then(cE n g Γ a).bind λa'=>some (.rng1 a') else none)
   else(cE n g Γ (.Call (.Name f p) [a] [] q)).bind λc=>some (.seq c)
  |.Call (.Name f p) [a,b] [] q=>if f==("range":Str) then(if sE (Γ.names.lookup f)&&g.bls.contains f then none else none)
   else if f==("zip":Str) then(match tg with
    |.Tuple ..=>if sE (Γ.names.lookup f)&&g.bls.contains f then(cE n g Γ a).bind λa'=>(cE n g Γ b).bind λb'=>some (.zip a' b') else none
    |_=>none)
   else(cE n g Γ (.Call (.Name f p) [a,b] [] q)).bind λc=>some (.seq c)
  |e=>(cE n g Γ e).bind λc=>some (.seq c)
noncomputable def rR:Nat->G->Gm->Str->Expr->List Expr->Option C
 |0,_,_,_,_,_=>none
 |n+1,g,Γ,f,a,as=>if sE (Γ.names.lookup f)&&cY f then(match qt f g.fns with
  |some (k,np,fy,bj)=>if bj then(match a with
    |.Name x _=>match slot Γ x with
     |some i=>if Γ.δ==some i&&as.length+1==np then none else none
     |none=>none
    |_=>none)
   else if as.length+1<=np&&np-(as.length+1)<=fy.length then(vJ n g Γ (a::as)).bind λes=>some (.call k es (fy.drop (fy.length-(np-(as.length+1))))) else none
  |none=>if g.bls.contains f then
    (if f==("len":Str)&&KR Γ a&&as.isEmpty then none
    else if f==("isinstance":Str) then(match as with
     |[.Name t _]=>if sE (Γ.names.lookup t)&&g.bls.contains t then(rA t).bind λT=>(cE n g Γ a).bind λa'=>some (.bi (.isi T) (.cons a' .nil)) else none
     |_=>none)
    else match a,as with
     |.Call (.Name r _) [b] [] _,[]=>if r==("reversed":Str) then none
       else if r==("set":Str) then(if sE (Γ.names.lookup r)&&g.bls.contains r&&f==("sorted":Str) then(cE n g Γ b).bind λb'=>some (.bi .sset (.cons b' .nil)) else none)
       else(qi f (as.length+1)).bind λi=>(vJ n g Γ (a::as)).bind λes=>some (.bi i es)
     |.Call (.Name r _) [b,c] [] _,[]=>if r==("zip":Str) then none
       else(qi f (as.length+1)).bind λi=>(vJ n g Γ (a::as)).bind λes=>some (.bi i es)
     |_,_=>(qi f (as.length+1)).bind λi=>(vJ n g Γ (a::as)).bind λes=>some (.bi i es))
    else none)
  else none
end
section
variable{P:Program}{w:World}{K:Frag}{A B:Addr->Prop}{H:Hp}{s:Shared}
theorem elts(hok:dX P w H s.heap){zf gH:List V}{i1 i2:List Dt}{gb aG:List Value}{R:Around}{n:Nat}(g1:ak K A H zf i1)(g2:ak K B H gH i2)(r1:aq zf gb)(r2:aq gH aG)(l1:gb.toArray.size=i1.length)(l2:aG.toArray.size=i2.length)
  (p1:jn i1=true) (p2:jn i2=true) (hd:kU i1<=n) (hu:R.in1.units+n<cLine) (j:Nat) (h1:j<gb.toArray.size) (h2:j<aG.toArray.size):EqAt R.in1 s gb.toArray[j] aG.toArray[j] (tK i1 i2 j):=by
 have iL:j<zf.length:=by rw[g1.length,<-l1];exact h1
 have jB:j<gH.length:=by rw[g2.length,<-l2];exact h2
 obtain⟨d,c1,c2⟩:=g1.get (i:=j) (x:=zf[j]) (by simp[iL]);obtain⟨e,k1,k2⟩:=g2.get (i:=j) (x:=gH[j]) (by simp[jB]);obtain⟨u,zW,ru⟩:=r1.get (i:=j) (x:=zf[j]) (by simp[iL]);obtain⟨v,zX,rv⟩:=r2.get (i:=j) (x:=gH[j]) (by simp[jB]);have eu:gb.toArray[j]=u:=by simp only[RJ];exact(Qs.mp zW).2
 have ev:aG.toArray[j]=v:=by simp only[RJ];exact(Qs.mp zX).2
 rw[eu,ev,show tK i1 i2 j=bS d e by unfold tK;rw[c1,k1]];exact Bn hok n d e zf[j] gH[j] u v R.in1 (Qz (j3 c1) hd) (dS p1 c1) (dS p2 k1) hu c2 k2 ru rv
theorem Hi(hok:dX P w H s.heap)(n:Nat)(d e:Dt)(x y:V)(u v:Value)(R:Around)(hd:dp d<=n+1)(f9:pl d=true)(eJ:pl e=true)(hu:R.units+n+1<cLine)(hx:RV K A H x d)(hy:RV K B H y e)(rx:RelV x u)(ry:RelV y v):RcAt R s u v (bS d e):=by
 cases d with
 |bz=>
  have:=hx.aI;subst this;cases rx;cases e with
  |bz=>have:=hy.aI;subst this;cases ry;exact RcAt.none_none
  |bl i2=>have:=hy.aC;subst this;cases ry;exact RcAt.none_bool i2
  |int i2=>have:=hy.int_inv;subst this;obtain⟨t2,rfl⟩:=ry;exact RcAt.none_int i2 t2
  |str i2=>have:=hy.str_inv;subst this;obtain⟨t2,rfl⟩:=ry;exact RcAt.none_str i2 t2
  |tup i2=>obtain⟨a2,gH,q2,f2,g2⟩:=hy.ag;subst q2;cases ry;obtain⟨aG,r2,cq⟩:=Mx.ar hok f2;exact RcAt.none_tuple cq ⋯
  |lst i2=>obtain⟨a2,gH,q2,f2,_,g2⟩:=hy.lst_inv;subst q2;cases ry;obtain⟨aG,r2,cq⟩:=aM hok f2;exact RcAt.none_list cq ⋯
  |_=>simp[pl]at eJ
 |bl i1=>
  have:=hx.aC;subst this;cases rx;cases e with
  |bz=>have:=hy.aI;subst this;cases ry;exact RcAt.bool_none i1
  |bl i2=>have:=hy.aC;subst this;cases ry;exact RcAt.bool_bool i1 i2
  |int i2=>have:=hy.int_inv;subst this;obtain⟨t2,rfl⟩:=ry;exact RcAt.bool_int i1 i2 t2
  |str i2=>have:=hy.str_inv;subst this;obtain⟨t2,rfl⟩:=ry;exact RcAt.bool_str i1 i2 t2
  |tup i2=>obtain⟨a2,gH,q2,f2,g2⟩:=hy.ag;subst q2;cases ry;obtain⟨aG,r2,cq⟩:=Mx.ar hok f2;exact RcAt.bool_tuple i1 cq ⋯
  |lst i2=>obtain⟨a2,gH,q2,f2,_,g2⟩:=hy.lst_inv;subst q2;cases ry;obtain⟨aG,r2,cq⟩:=aM hok f2;exact RcAt.bool_list i1 cq ⋯
  |_=>simp[pl]at eJ
 |int i1=>
  have:=hx.int_inv;subst this;obtain⟨t1,rfl⟩:=rx;cases e with
  |bz=>have:=hy.aI;subst this;cases ry;exact RcAt.int_none i1 t1
  |bl i2=>have:=hy.aC;subst this;cases ry;exact RcAt.int_bool i1 t1 i2
  |int i2=>have:=hy.int_inv;subst this;obtain⟨t2,rfl⟩:=ry;exact RcAt.int_int i1 t1 i2 t2
  |str i2=>have:=hy.str_inv;subst this;obtain⟨t2,rfl⟩:=ry;exact RcAt.int_str i1 t1 i2 t2
  |tup i2=>obtain⟨a2,gH,q2,f2,g2⟩:=hy.ag;subst q2;cases ry;obtain⟨aG,r2,cq⟩:=Mx.ar hok f2;exact RcAt.int_tuple i1 t1 cq ⋯
  |lst i2=>obtain⟨a2,gH,q2,f2,_,g2⟩:=hy.lst_inv;subst q2;cases ry;obtain⟨aG,r2,cq⟩:=aM hok f2;exact RcAt.int_list i1 t1 cq ⋯
  |_=>simp[pl]at eJ
 |str i1=>
  have:=hx.str_inv;subst this;obtain⟨t1,rfl⟩:=rx;cases e with
  |bz=>have:=hy.aI;subst this;cases ry;exact RcAt.str_none i1 t1
  |bl i2=>have:=hy.aC;subst this;cases ry;exact RcAt.str_bool i1 t1 i2
  |int i2=>have:=hy.int_inv;subst this;obtain⟨t2,rfl⟩:=ry;exact RcAt.str_int i1 t1 i2 t2
  |str i2=>have:=hy.str_inv;subst this;obtain⟨t2,rfl⟩:=ry;exact RcAt.str_str i1 t1 i2 t2
  |tup i2=>obtain⟨a2,gH,q2,f2,g2⟩:=hy.ag;subst q2;cases ry;obtain⟨aG,r2,cq⟩:=Mx.ar hok f2;exact RcAt.str_tuple i1 t1 cq ⋯
  |lst i2=>obtain⟨a2,gH,q2,f2,_,g2⟩:=hy.lst_inv;subst q2;cases ry;obtain⟨aG,r2,cq⟩:=aM hok f2;exact RcAt.str_list i1 t1 cq ⋯
  |_=>simp[pl]at eJ
 |tup i1=>
  obtain⟨a1,zf,q1,f1,g1⟩:=hx.ag;subst q1;cases rx;obtain⟨gb,r1,g9⟩:=Mx.ar hok f1;cases e with
  |bz=>have:=hy.aI;subst this;cases ry;exact RcAt.tuple_none g9 ⋯
  |bl i2=>have:=hy.aC;subst this;cases ry;exact RcAt.tuple_bool i2 g9 ⋯
  |int i2=>have:=hy.int_inv;subst this;obtain⟨t2,rfl⟩:=ry;exact RcAt.tuple_int i2 t2 g9 ⋯
  |str i2=>have:=hy.str_inv;subst this;obtain⟨t2,rfl⟩:=ry;exact RcAt.tuple_str i2 t2 g9 ⋯
  |tup i2=>
   obtain⟨a2,gH,q2,f2,g2⟩:=hy.ag;subst q2;cases ry;obtain⟨aG,r2,cq⟩:=Mx.ar hok f2;have l1:gb.toArray.size=i1.length:=by rw[Qq,<-r1.length,g1.length]
   have l2:aG.toArray.size=i2.length:=by rw[Qq,<-r2.length,g2.length]
   have key:=RcAt.tuples (A:=R) (e:=tK i1 i2) g9 cq ⋯ (elts hok g1 g2 r1 r2 l1 l2 (by simpa [pl]using f9) (by simpa [pl]using eJ) (n:=n) (by unfold dp at hd;lia) (by show R.units+1+n<cLine;lia));have q:=cV i1 i2;rw[<-l1,<-l2]at q;rw[q]at key;exact key
  |lst i2=>obtain⟨a2,gH,q2,f2,_,g2⟩:=hy.lst_inv;subst q2;cases ry;obtain⟨aG,r2,cq⟩:=aM hok f2;exact RcAt.tuple_list g9 cq ⋯
  |_=>simp[pl]at eJ
 |lst i1=>
  obtain⟨a1,zf,q1,f1,_,g1⟩:=hx.lst_inv;subst q1;cases rx;obtain⟨gb,r1,g9⟩:=aM hok f1;cases e with
  |bz=>have:=hy.aI;subst this;cases ry;exact RcAt.list_none g9 ⋯
  |bl i2=>have:=hy.aC;subst this;cases ry;exact RcAt.list_bool i2 g9 ⋯
  |int i2=>have:=hy.int_inv;subst this;obtain⟨t2,rfl⟩:=ry;exact RcAt.list_int i2 t2 g9 ⋯
  |str i2=>have:=hy.str_inv;subst this;obtain⟨t2,rfl⟩:=ry;exact RcAt.list_str i2 t2 g9 ⋯
  |tup i2=>obtain⟨a2,gH,q2,f2,g2⟩:=hy.ag;subst q2;cases ry;obtain⟨aG,r2,cq⟩:=Mx.ar hok f2;exact RcAt.list_tuple g9 cq ⋯
  |lst i2=>
   obtain⟨a2,gH,q2,f2,_,g2⟩:=hy.lst_inv;subst q2;cases ry;obtain⟨aG,r2,cq⟩:=aM hok f2;have l1:gb.toArray.size=i1.length:=by rw[Qq,<-r1.length,g1.length]
   have l2:aG.toArray.size=i2.length:=by rw[Qq,<-r2.length,g2.length]
   have q:=cV i1 i2;by_cases hl:i1.length=i2.length
   ·have key:=RcAt.lists (A:=R) (e:=tK i1 i2) g9 cq ⋯ ⋯ (elts hok g1 g2 r1 r2 l1 l2 (by simpa [pl]using f9) (by simpa [pl]using eJ) (n:=n) (by unfold dp at hd;lia) (by show R.units+1+n<cLine;lia));rw[hl,Nat.min_self,SB,Rb]at q;rw[l1,hl,q]at key;exact key
   ·have key:=RcAt.lists_lengths (A:=R) g9 cq (by rw[l1,l2];simpa using hl) ⋯;have hb:(i1.length==i2.length)=false:=by simpa using hl
    rw[hb,Ra]at q;show RcAt R s _ _ (cC i1 i2);rw[<-q];exact key
  |_=>simp[pl]at eJ
 |_=>simp[pl]at f9
theorem AL(hok:dX P w H s.heap)(n:Nat)(d e:Dt)(x y:V)(u v:Value)(R:Around)(hd:dp d<=n+1)(f9:pl d=true)(eJ:pl e=true)(hu:R.units+n+1<cLine)(hx:RV K A H x d)(hy:RV K B H y e)(rx:RelV x u)(ry:RelV y v):RcNeAt R s u v (!bS d e):=by
 cases d with
 |bz=>
  have:=hx.aI;subst this;cases rx;cases e with
  |bz=>have:=hy.aI;subst this;cases ry;exact RcNeAt.none_none
  |bl i2=>have:=hy.aC;subst this;cases ry;exact RcNeAt.none_bool i2
  |int i2=>have:=hy.int_inv;subst this;obtain⟨t2,rfl⟩:=ry;exact RcNeAt.none_int i2 t2
  |str i2=>have:=hy.str_inv;subst this;obtain⟨t2,rfl⟩:=ry;exact RcNeAt.none_str i2 t2
  |tup i2=>obtain⟨a2,gH,q2,f2,g2⟩:=hy.ag;subst q2;cases ry;obtain⟨aG,r2,cq⟩:=Mx.ar hok f2;exact RcNeAt.none_tuple cq ⋯
  |lst i2=>obtain⟨a2,gH,q2,f2,_,g2⟩:=hy.lst_inv;subst q2;cases ry;obtain⟨aG,r2,cq⟩:=aM hok f2;exact RcNeAt.none_list cq ⋯
  |_=>simp[pl]at eJ
 |bl i1=>
  have:=hx.aC;subst this;cases rx;cases e with
  |bz=>have:=hy.aI;subst this;cases ry;exact RcNeAt.bool_none i1
  |bl i2=>have:=hy.aC;subst this;cases ry;exact RcNeAt.bool_bool i1 i2
  |int i2=>have:=hy.int_inv;subst this;obtain⟨t2,rfl⟩:=ry;exact RcNeAt.bool_int i1 i2 t2
  |str i2=>have:=hy.str_inv;subst this;obtain⟨t2,rfl⟩:=ry;exact RcNeAt.bool_str i1 i2 t2
  |tup i2=>obtain⟨a2,gH,q2,f2,g2⟩:=hy.ag;subst q2;cases ry;obtain⟨aG,r2,cq⟩:=Mx.ar hok f2;exact RcNeAt.bool_tuple i1 cq ⋯
  |lst i2=>obtain⟨a2,gH,q2,f2,_,g2⟩:=hy.lst_inv;subst q2;cases ry;obtain⟨aG,r2,cq⟩:=aM hok f2;exact RcNeAt.bool_list i1 cq ⋯
  |_=>simp[pl]at eJ
 |int i1=>
  have:=hx.int_inv;subst this;obtain⟨t1,rfl⟩:=rx;cases e with
  |bz=>have:=hy.aI;subst this;cases ry;exact RcNeAt.int_none i1 t1
  |bl i2=>have:=hy.aC;subst this;cases ry;exact RcNeAt.int_bool i1 t1 i2
  |int i2=>have:=hy.int_inv;subst this;obtain⟨t2,rfl⟩:=ry;exact RcNeAt.int_int i1 t1 i2 t2
  |str i2=>have:=hy.str_inv;subst this;obtain⟨t2,rfl⟩:=ry;exact RcNeAt.int_str i1 t1 i2 t2
  |tup i2=>obtain⟨a2,gH,q2,f2,g2⟩:=hy.ag;subst q2;cases ry;obtain⟨aG,r2,cq⟩:=Mx.ar hok f2;exact RcNeAt.int_tuple i1 t1 cq ⋯
  |lst i2=>obtain⟨a2,gH,q2,f2,_,g2⟩:=hy.lst_inv;subst q2;cases ry;obtain⟨aG,r2,cq⟩:=aM hok f2;exact RcNeAt.int_list i1 t1 cq ⋯
  |_=>simp[pl]at eJ
 |str i1=>
  have:=hx.str_inv;subst this;obtain⟨t1,rfl⟩:=rx;cases e with
  |bz=>have:=hy.aI;subst this;cases ry;exact RcNeAt.str_none i1 t1
  |bl i2=>have:=hy.aC;subst this;cases ry;exact RcNeAt.str_bool i1 t1 i2
  |int i2=>have:=hy.int_inv;subst this;obtain⟨t2,rfl⟩:=ry;exact RcNeAt.str_int i1 t1 i2 t2
  |str i2=>have:=hy.str_inv;subst this;obtain⟨t2,rfl⟩:=ry;exact RcNeAt.str_str i1 t1 i2 t2
  |tup i2=>obtain⟨a2,gH,q2,f2,g2⟩:=hy.ag;subst q2;cases ry;obtain⟨aG,r2,cq⟩:=Mx.ar hok f2;exact RcNeAt.str_tuple i1 t1 cq ⋯
  |lst i2=>obtain⟨a2,gH,q2,f2,_,g2⟩:=hy.lst_inv;subst q2;cases ry;obtain⟨aG,r2,cq⟩:=aM hok f2;exact RcNeAt.str_list i1 t1 cq ⋯
  |_=>simp[pl]at eJ
 |tup i1=>
  obtain⟨a1,zf,q1,f1,g1⟩:=hx.ag;subst q1;cases rx;obtain⟨gb,r1,g9⟩:=Mx.ar hok f1;cases e with
  |bz=>have:=hy.aI;subst this;cases ry;exact RcNeAt.tuple_none g9 ⋯
  |bl i2=>have:=hy.aC;subst this;cases ry;exact RcNeAt.tuple_bool i2 g9 ⋯
  |int i2=>have:=hy.int_inv;subst this;obtain⟨t2,rfl⟩:=ry;exact RcNeAt.tuple_int i2 t2 g9 ⋯
  |str i2=>have:=hy.str_inv;subst this;obtain⟨t2,rfl⟩:=ry;exact RcNeAt.tuple_str i2 t2 g9 ⋯
  |tup i2=>
   obtain⟨a2,gH,q2,f2,g2⟩:=hy.ag;subst q2;cases ry;obtain⟨aG,r2,cq⟩:=Mx.ar hok f2;have l1:gb.toArray.size=i1.length:=by rw[Qq,<-r1.length,g1.length]
   have l2:aG.toArray.size=i2.length:=by rw[Qq,<-r2.length,g2.length]
   have key:=RcNeAt.tuples (A:=R) (e:=tK i1 i2) g9 cq ⋯ (elts hok g1 g2 r1 r2 l1 l2 (by simpa [pl]using f9) (by simpa [pl]using eJ) (n:=n) (by unfold dp at hd;lia) (by show R.units+1+n<cLine;lia));have q:=cV i1 i2;rw[<-l1,<-l2]at q;rw[q]at key;exact key
  |lst i2=>obtain⟨a2,gH,q2,f2,_,g2⟩:=hy.lst_inv;subst q2;cases ry;obtain⟨aG,r2,cq⟩:=aM hok f2;exact RcNeAt.tuple_list g9 cq ⋯
  |_=>simp[pl]at eJ
 |lst i1=>
  obtain⟨a1,zf,q1,f1,_,g1⟩:=hx.lst_inv;subst q1;cases rx;obtain⟨gb,r1,g9⟩:=aM hok f1;cases e with
  |bz=>have:=hy.aI;subst this;cases ry;exact RcNeAt.list_none g9 ⋯
  |bl i2=>have:=hy.aC;subst this;cases ry;exact RcNeAt.list_bool i2 g9 ⋯
  |int i2=>have:=hy.int_inv;subst this;obtain⟨t2,rfl⟩:=ry;exact RcNeAt.list_int i2 t2 g9 ⋯
  |str i2=>have:=hy.str_inv;subst this;obtain⟨t2,rfl⟩:=ry;exact RcNeAt.list_str i2 t2 g9 ⋯
  |tup i2=>obtain⟨a2,gH,q2,f2,g2⟩:=hy.ag;subst q2;cases ry;obtain⟨aG,r2,cq⟩:=Mx.ar hok f2;exact RcNeAt.list_tuple g9 cq ⋯
  |lst i2=>
   obtain⟨a2,gH,q2,f2,_,g2⟩:=hy.lst_inv;subst q2;cases ry;obtain⟨aG,r2,cq⟩:=aM hok f2;have l1:gb.toArray.size=i1.length:=by rw[Qq,<-r1.length,g1.length]
   have l2:aG.toArray.size=i2.length:=by rw[Qq,<-r2.length,g2.length]
   have q:=cV i1 i2;by_cases hl:i1.length=i2.length
   ·have key:=RcNeAt.lists (A:=R) (e:=tK i1 i2) g9 cq ⋯ ⋯ (elts hok g1 g2 r1 r2 l1 l2 (by simpa [pl]using f9) (by simpa [pl]using eJ) (n:=n) (by unfold dp at hd;lia) (by show R.units+1+n<cLine;lia));rw[hl,Nat.min_self,SB,Rb]at q;rw[l1,hl,q]at key;exact key
   ·have key:=RcNeAt.lists_lengths (A:=R) g9 cq (by rw[l1,l2];simpa using hl) ⋯;have hb:(i1.length==i2.length)=false:=by simpa using hl
    rw[hb,Ra]at q;show RcNeAt R s _ _ (!cC i1 i2);rw[<-q];exact key
  |_=>simp[pl]at eJ
 |_=>simp[pl]at f9
end
end Rx
end
section
namespace Mx
open PySem PySem.Spec PyProof.Rows L2 PySem.SeqAt
section
variable{X:Cx}
theorem ue(hc:X.calm=true):dw X (.builtin "sum") (λxs H Q=>∃(l:Addr)(ns:List Int),xs=[.ref l]/\H l=some (.tup (ns.map V.int))/\Q (.int ns.sum) H):=by
 intro pins s σ H xs us Q I r h;obtain⟨l,ns,rfl,hq,q⟩:=h;obtain⟨u,rfl,ru⟩:=r.one;cases ru;obtain⟨_,its,rv,tn⟩:=(show bw X.prog X.w H s.heap l (.tup (ns.map V.int)) from I.hok l _ hq);have hl:its.length=ns.length:=by rw[<-rv.length];simp
 have ht:s.heap.IsTuple l its.toArray:=tn.is;have cU:l<s.heap.objs.size:=tn.is.lt;refine call_sum_walkG (S7 ht ?_);refine⟨s.heap.objs.size,_,_,_,_,_,λi=>ns.getD i 0,rfl,Walks.tuple (A:=X.A.in1) (I.ok.hd hc) s.heap.objs.size l (QT cU) its.toArray,⟨⟨_,Qw _ rfl,rfl,rfl⟩,ht.push _⟩,λb hb=>?_,λi v hv=>?_,λh' tk t' hk=>?_⟩
 ·rcases QA.mp hb with rfl|hb
  ·exact Qy (Qw _ rfl)
  ·obtain rfl:=QW.mp hb;exact Nat.lt_trans cU (Qy (Qw _ rfl))
 ·have C8:its.toArray[i]?=some v:=hv;exact int_at rv (by simpa using C8)
 ·refine⟨.int _,H,I.kept λb o e=>hk b o (λz=>Sg _ ((QW.mp z)▸Qy e)) (Qn _ e),⟨t',rfl⟩,?_⟩;rw[show its.toArray.size=ns.length by simp[hl],nJ,List.take_length];exact q
end
noncomputable def B4(A:Around)(s:Shared)(u v:Value)(b:Bool):Prop:=
 ∀(prog:Program)(w:World)(E:Value->Shared->Prop)(Q:Value->Shared->Prop),Q (.bool b) s->wpAny (model prog w) A (richCompare .GtE u v) Q E s
inductive Zg(A:Around)(s:Shared):List Value->List Value->List D->List D->Prop
 |nil {ws:List Value} {es:List D}:ws.length=es.length->Zg A s [] ws [] es
 |o9 {vs:List Value} {ds:List D}:vs.length=ds.length->Zg A s vs [] ds []
 |cons {v w:Value} {d e:D} {vs ws:List Value} {ds es:List D}:EqAt A s v w (D.fT d e)->(d≠e->B4 A s v w (!D.lt d e))->Zg A s vs ws ds es->Zg A s (v::vs) (w::ws) (d::ds) (e::es)
section
open PySem.AutoSeq1 (wpAny_loadPart')
open PySem.MeetsSeq PySem.MeetsSeq2 PySem.MeetsSeq3
theorem lA(l b:Addr)(items cv:Array Value)(n n2:Nat)(dd rY:Option Addr)(sl p7:Array (Option Value))(ds es:List D)(z1:items.size=ds.length)(z2:cv.size=es.length):
  Meets (Builtin.«tuple.__ge__» ⟨[.ref l,.ref b],[]⟩)
   (λA R s=>s.heap.get? l=some {cls:=.type "tuple",dict:=dd,data:=.seq items n,slots:=sl}/\s.heap.get? b=some {cls:=.type "tuple",dict:=rY,data:=.seq cv n2,slots:=p7}/\
    Zg A.in1 s items.toList cv.toList ds es/\R (.ok (.ret (.bool (!D.dB ds es)))) s):=
 .of_wp λprog w A R s h=>by
  obtain⟨hp,g,d,tk,os⟩:=s;obtain⟨hl,hb,KO,h⟩:=h;have f2:=AutoSeq1.sub_tuple_tuple
  wp_walk using wpAny_loadPart' hl,wpAny_loadPart' hb,wpAny_forIn_list _ (λrest b s'=>b.1=none/\s'=⟨hp,g,d,tk,os⟩/\∃(vs ws:List Value)(la de:List D),rest=vs.zip ws/\
   Zg A.in1 ⟨hp,g,d,tk,os⟩ vs ws la de/\la.length+cv.size=de.length+items.size/\R (.ok (.ret (.bool (!D.dB la de)))) ⟨hp,g,d,tk,os⟩) _
  case turn=>
   rintro⟨y,x⟩ rest b s' ⟨sG,rfl,vs,ws,la,de,hz,Dc,hlen,hR⟩;cases Dc with
   |nil _=>rw[Sb]at hz;cases hz
   |o9 _=>rw[Sd]at hz;cases hz
   |cons he hl wY=>
    rename_i v wv d0 e0 u6 ws' ds'' es'';rw[Sa]at hz;injection hz with hyx wR;injection hyx with hy hx;subst hy hx;rw[D.dC]at hR;simp only[QG]at hlen;refine Ql (he prog w _ _ ?_);by_cases hde:d0=e0
    ·rw[SH hde]at hR;rw[(D.cJ d0 e0).mpr hde]
     wp_walk
     exact⟨rfl,rfl,_,_,_,_,wR,wY,by lia,hR⟩
    ·rw[SF hde]at hR;have JX:D.fT d0 e0=false:=by rw[D.gT];exact QN hde
     rw[JX];have KD:=hl hde prog w
     wp_walk using KD
     exact⟨_,rfl,by simpa using hR⟩
  case fin=>
   rintro⟨b1,b2⟩ s' ⟨sG,rfl,vs,ws,la,de,hz,Dc,hlen,hR⟩;simp only at sG;subst sG;have hv:(!D.dB la de)=decide (cv.size<=items.size):=by
    cases Dc with
    |nil _=>
     cases de with
     |nil=>simp only[RL]at hlen;rw[D.dB];exact(QR ⋯).symm
     |cons c u=>simp only[RL,QG]at hlen;rw[D.dB];exact(QN ⋯).symm
    |o9 _=>
     cases la with
     |nil=>simp only[RL]at hlen;rw[D.dB];exact(QR ⋯).symm
     |cons c u=>simp only[RL,QG]at hlen;rw[D.dB];exact(QR ⋯).symm
    |cons he hl wY=>rw[Sa]at hz;cases hz
   rw[hv]at hR
   wp_walk
   exact⟨_,rfl,by simpa [Builtin.Tuple.tupleCompareSizes]using hR⟩
  case h=>exact⟨rfl,rfl,items.toList,cv.toList,ds,es,rfl,KO,by lia,h⟩
end
section
variable{P:Program}{w:World}{H:Hp}{s:Shared}
theorem B2(hok:dX P w H s.heap){A:Around}{n:Nat}(hu:A.units+n<cLine)(ih:∀(d e:D)(x y:V)(u v:Value),D.dep d<=n->D.cL d e->DV H x d->DV H y e->RelV x u->RelV y v->B4 A s u v (!D.lt d e)):
  ∀{xs ys:List V}{us vs:List Value}{ds es:List D},D.bK ds<=n->D.d9 ds es->aR H xs ds->aR H ys es->aq xs us->aq ys vs->Zg A s us vs ds es
 |[],ys,us,vs,[],es,_,_,_,h2,r1,r2=>by cases r1;exact .nil (by rw[<-r2.length,h2.length])
 |x::xs,[],us,vs,ds,[],_,_,h1,_,r1,r2=>by cases r2;exact .o9 (by rw[<-r1.length,h1.length])
 |[],_,_,_,_::_,_,_,_,h,_,_,_=>by unfold aR at h;exact h.elim
 |_::_,_,_,_,[],_,_,_,h,_,_,_=>by unfold aR at h;exact h.elim
 |_::_,[],_,_,_::_,_::_,_,_,_,h,_,_=>by unfold aR at h;exact h.elim
 |_::_,_::_,_,_,_::_,[],_,_,_,h,_,_=>by unfold aR at h;exact h.elim
 |x::xs,y::ys,us,vs,d::ds,e::es,hd,hl,h1,h2,r1,r2=>by
  unfold aR at h1 h2;unfold D.d9 at hl;unfold D.bK at hd;cases r1 with
  |cons r1 t1=>
   cases r2 with
   |cons r2 t2=>exact .cons (eq_data hok n d e x y _ _ A ⋯ hu h1.1 h2.1 r1 r2) (λ_=>ih d e x y _ _ ⋯ hl.1 h1.1 h2.1 r1 r2) (B2 hok hu ih ⋯ hl.2 h1.2 h2.2 t1 t2)
theorem zI(hok:dX P w H s.heap):∀(n:Nat)(d e:D)(x y:V)(u v:Value)(A:Around),D.dep d<=n->A.units+n<cLine->D.cL d e->DV H x d->DV H y e->RelV x u->RelV y v->B4 A s u v (!D.lt d e):=by
 intro n
 induction n with
 |zero=>
  intro d e x y u v A hd hu hl hx hy rx ry;cases d with
  |int i=>
   have:=hx.int_inv;subst this;obtain⟨t,rfl⟩:=rx;cases e with
   |int j=>have:=hy.int_inv;subst this;obtain⟨t',rfl⟩:=ry;intro prog wd E Q q;exact(PyProof.Rows.ge_int (by unfold D.lt at q;rw[show decide (j<=i)= !decide (i<j) from by by_cases h:i<j<;>simp[h]<;>lia];exact q):wpAny (model prog wd) A (compareOp .GtE (.int i t) (.int j t')) Q E s)
   |str j=>unfold D.cL at hl;exact hl.elim
   |tup j=>unfold D.cL at hl;exact hl.elim
  |str i=>
   have:=hx.str_inv;subst this;obtain⟨t,rfl⟩:=rx;cases e with
   |int j=>unfold D.cL at hl;exact hl.elim
   |str j=>have:=hy.str_inv;subst this;obtain⟨t',rfl⟩:=ry;intro prog wd E Q q;exact(PySem.P.ge_str q:wpAny (model prog wd) A (compareOp .GtE (.str i t) (.str j t')) Q E s)
   |tup j=>unfold D.cL at hl;exact hl.elim
  |tup ds=>unfold D.dep at hd;lia
 |succ n ih=>
  intro d e x y u v A hd hu hl hx hy rx ry;cases d with
  |int i=>exact ih (.int i) e x y u v A (by unfold D.dep;lia) ⋯ hl hx hy rx ry
  |str i=>exact ih (.str i) e x y u v A (by unfold D.dep;lia) ⋯ hl hx hy rx ry
  |tup ds=>
   obtain⟨a,xs,q,e1,e2⟩:=hx.ag;subst q;cases rx;cases e with
   |int j=>unfold D.cL at hl;exact hl.elim
   |str j=>unfold D.cL at hl;exact hl.elim
   |tup es=>
    obtain⟨b,ys,q,f1,f2⟩:=hy.ag;subst q;cases ry;obtain⟨its,r1,ht⟩:=ar hok e1;obtain⟨aG,r2,cq⟩:=ar hok f1;have l1:its.toArray.size=ds.length:=by rw[Qq,<-r1.length,e2.length]
    have l2:aG.toArray.size=es.length:=by rw[Qq,<-r2.length,f2.length]
    have kX:D.bK ds<=n:=by unfold D.dep at hd;lia
    have uE:D.d9 ds es:=by unfold D.cL at hl;exact hl
    have zz:Zg A.in1 s its aG ds es:=B2 hok (n:=n) (by show A.units+1+n<cLine;lia) (λd e x y u v hd2 iM C9 Da rx2 ry2=>ih d e x y u v A.in1 hd2 (by show A.units+1+n<cLine;lia) iM C9 Da rx2 ry2) kX uE e2 f2 r1 r2;intro prog wd E Q q;obtain⟨⟨cls,dd,data,sl⟩,ho,hc,k,vj⟩:=id ht;obtain⟨⟨Cv,rY,data2,p7⟩,oS,kW,k2,lj⟩:=id cq;simp only at hc vj kW lj;subst hc vj kW lj;have q':Q (.bool (!D.dB ds es)) s:=by have z:=q;unfold D.lt at z;exact z
    exact richCompare_meets_room (op:=.GtE) ⟨_,ho,rfl⟩ ⟨_,oS,rfl⟩ PySem.F.slot_tuple_ge PySem.F.entry_tuple_ge (PySem.F.args_tuple_ge_2 _ _) (lA a b its.toArray aG.toArray k k2 dd rY sl p7 ds es l1 l2)
     ⟨ho,oS,zz,show Value.bool (!D.dB ds es)≠Value.notImplemented/\Q (.bool (!D.dB ds es)) s from⟨(λx=>nomatch x),q'⟩⟩ ⋯
end
end Mx
end
section
namespace HT
open PySem PyProof.Rows
section
variable{prog:Program}{w:World}{A:Around}{E:Value->Shared->Prop}{s:Shared}
theorem f7{t sl:Addr}{items:Array Value}{vl vu:Value}{lo hi:Option Int}{Q:Value->Shared->Prop}(ht:IsTup s.heap t items)(hs:s.heap.IsSliceOf sl vl vu .none)(pl:IsPart vl lo)(pu:IsPart vu hi)
  (hw:bY items.size 0 lo=0/\bY items.size items.size hi=items.size) (h:Q (.ref t) s) (kY:items.size<=sizeLine):wpAny (model prog w) A (getItem (.ref t) (.ref sl)) Q E s:=by
 obtain⟨os,C4,vg,CQ⟩:=id hs;have Kn:s.TypeIs (.ref sl) "slice":=⟨os,C4,vg⟩;unfold getItem
 try with_reducible refine SX ?_
 first|refine Ql (Qo ?_)|skip
 refine Ql (wpAny_sequenceKey ht.typeIs (by decide) ?_);refine Ql (SU (name:=Str.ofString "__getitem__") ht.typeIs Sr
  (SV Sr ht.typeIs entry_tuple_getitem ?_ (args_tuple_getitem _ _)))
 show wpAny _ _ (Builtin.Tuple.tupleItemsOf (.ref t) >>=_) _ _ s;refine Ql (tupleItemsOf_ ht ?_);refine Ql (Tc Kn ?_);rw[SH (by decide)];refine Ql (et hs pl pu ?_);show wpAny _ _ (if (((bY items.size 0 lo:Nat):Int)==0&&(1:Int)==1&&(bY items.size items.size hi-bY items.size 0 lo)==items.size)=true then _ else _) _ _ s;rw[SH (by rw[hw.1,hw.2];simp)];refine Ql (Ql (Tc ht.typeIs (Qo ?_)));rw[SH (by decide)];refine Ql (S8 ?_);exact Qo ⟨_,rfl,Qo h⟩
end
end HT
namespace Rx
open PySem PySem.W PySem.Spec PyProof.Rows L2 PySem.SeqAt
noncomputable abbrev N0:Addr->Prop:=λ_=>False
noncomputable def ft(K:Frag)(A:Addr->Prop)(H:Hp)(v:V):Dt->Prop
 |.lst ds=>∃a xs,v= .ref a/\H a=some (.lst xs)/\ak K A H xs ds
 |d=>RV K A H v d
noncomputable def mD(K:Frag)(A:Addr->Prop)(H:Hp):List V->List Dt->Prop
 |[],[]=>True
 |x::xs,d::ds=>ft K A H x d/\mD K A H xs ds
 |_,_=>False
section
variable{K:Frag}{A B:Addr->Prop}{H H':Hp}
theorem RV.one{v d}(h:RV K A H v d):ft K A H v d:=by
 cases d with
 |lst ds=>obtain⟨a,xs,h1,h2,_,h3⟩:=h.lst_inv;exact⟨a,xs,h1,h2,h3⟩
 |_=>exact h
theorem ft.ext{X:Addr->Prop}{v d}(h:ft K A H v d)(e:aX X H H')(hX:∀b,X b->A b)(hv:∀ds a,d= .lst ds->v= .ref a->¬X a):ft K A H' v d:=by
 cases d with
 |lst ds=>obtain⟨a,xs,h1,h2,h3⟩:=h;exact⟨a,xs,h1,e.kp _ _ h2 (hv ds a rfl h1),h3.mono e hX λ_ z=>z⟩
 |_=>exact RV.mono e hX (λ_ z=>z) h
theorem ak.ones:∀{vs ds},ak K A H vs ds->mD K A H vs ds
 |[],[],_=>trivial
 |[],_::_,h=>by unfold ak at h;exact h.elim
 |_::_,[],h=>by unfold ak at h;exact h.elim
 |_::_,_::_,h=>by unfold ak at h;exact⟨h.1.one,h.2.ones⟩
end
structure PR(K:Frag)(fr:Bool)(xs:List V)(ds:List Dt)(H:Hp)(d:Dt)(v:V)(H':Hp):Prop where
 same:bu H H'
 val:∀A:Addr->Prop,(∀a,A a->∃o,H a=some o)->mD K A H xs ds->RV K A H' v d
 eD:fr=true->∀es,d= .lst es->∃a ys,v= .ref a/\H a=none/\H' a=some (.lst ys)/\∀A:Addr->Prop,(∀a,A a->∃o,H a=some o)->mD K A H xs ds->ak K (λb=>A b\/b=a) H' ys es
noncomputable def rP(K:Frag)(fr:Bool)(f:List Dt->R Dt):List V->Hp->VK->Prop:=λxs H Q=>∃ds d,ak K N0 H xs ds/\f ds= .ok d/\∀v H',PR K fr xs ds H d v H'->Q v H'
section
variable{K:Frag}{fr:Bool}{xs:List V}{ds:List Dt}{H H':Hp}{d:Dt}{v:V}
noncomputable def og:Dt->Bool
 |.bz|.bl _|.int _|.str _=>true
 |_=>false
noncomputable def p6:Dt->V
 |.bl b=>.bl b
 |.int b=>.int b
 |.str b=>.str b
 |_=>.bz
theorem pB{A:Addr->Prop}(h:og d=true):RV K A H (p6 d) d:=by
 cases d with
 |bz=>exact RV.gw
 |bl b=>exact RV.kh
 |int b=>exact RV.dP
 |str b=>exact RV.iX
 |_=>simp[og]at h
theorem PR.sc(h:og d=true):PR K fr xs ds H d (p6 d) H:=⟨bu.refl _,λA _ _=>pB h,λ_ es e=>by subst e;simp[og]at h⟩
theorem PR.o7{p:Addr}{ys:List V}{es:List Dt}(hp:H p=none)(h:∀A:Addr->Prop,mD K A H xs ds->ak K A H ys es):PR K fr xs ds H (.lst es) (.ref p) (upd H p (.lst ys)):=by
 have s:=Mx.bE hp (.lst ys);refine⟨s,λA hA q=>RV.dD ax (λz=>?_) ((h A q).same s),λ_ de e=>?_⟩
 ·obtain⟨o,e⟩:=hA p z;rw[hp]at e;cases e
 ·cases e;exact⟨p,ys,rfl,hp,ax,λA hA q=>((h A q).avoid hp).same s⟩
theorem PR.Dx{p:Addr}{ys:List V}{es:List Dt}(hp:H p=none)(h:∀A:Addr->Prop,mD K A H xs ds->ak K A H ys es):PR K fr xs ds H (.tup es) (.ref p) (upd H p (.tup ys)):=by have s:=Mx.bE hp (.tup ys);exact⟨s,λA hA q=>RV.dE ax ((h A q).same s),λ_ de e=>by cases e⟩
theorem PR.sV{p:Addr}{ys:List V}{es:List Dt}(hp:H p=some (.tup ys))(h:∀A:Addr->Prop,mD K A H xs ds->ak K A H ys es):PR K fr xs ds H (.tup es) (.ref p) H:=
 ⟨bu.refl _,λA hA q=>RV.dE hp (h A q),λ_ de e=>by cases e⟩
theorem cj:lim<=sizeLine:=by rw[SQ];decide
theorem aN{b:Bool}{α:Type}{r:R α}{a:α}(h:af b r= .ok a):b=true/\r= .ok a:=by
 cases b with
 |true=>exact⟨rfl,h⟩
 |false=>cases h
theorem ft.aM{A:Addr->Prop}{a:Addr}{xs:List V}{es:List Dt}(h:ft K A H (.ref a) (.lst es))(e:H a=some (.lst xs)):ak K A H xs es:=by obtain⟨b,ys,q,h1,h2⟩:=h;cases q;rw[e]at h1;cases h1;exact h2
theorem ft.ar{A:Addr->Prop}{a:Addr}{xs:List V}{es:List Dt}(h:ft K A H (.ref a) (.tup es))(e:H a=some (.tup xs)):ak K A H xs es:=by obtain⟨b,ys,q,h1,h2⟩:=RV.ag h;cases q;rw[e]at h1;cases h1;exact h2
end
section
variable{X:Cx}
noncomputable def r2(K:Frag)(f:Dt->Dt->R Dt):R2:=λx y H Q=>∃d e z,RV K N0 H x d/\RV K N0 H y e/\f d e= .ok z/\∀v H',PR K true [x,y] [d,e] H z v H'->Q v H'
theorem l9{i:Int}(h:i.natAbs<2^64): -(2^64)<i/\i<2^64:=⋯
theorem DG:kT X (binaryOp .FloorDiv) (rI (λ_ j=>0<j/\j.natAbs.log2<9000) λi j=>.int (i/j)):=G3 λi j _ _ _ _ _ hc q=>by have h1:(0:Int)<j:=hc.1;exact floordiv_int ⋯ (by rw[Int.fdiv_eq_ediv_of_nonneg i ⋯];exact q) (.inl (PyProof.noPylong_of_log2 hc.2))
theorem DF(o:Operator):kT X (binaryOp o) (r2 X.K (kq o)):=by
 intro pins s σ H x y v u Q I rx ry h;obtain⟨d,e,z,hx,hy,he,q⟩:=h;have Gh:=cj;unfold kq at he;split at he
 ·split at he
  ·rename_i i j;cases he;exact DE pins s σ H x y v u Q I rx ry ⟨i,j,hx.int_inv,hy.int_inv,q _ _ (PR.sc (d:=.int _) rfl)⟩
  ·rename_i i j;obtain⟨g,he⟩:=aN he;cases he;exact qP pins s σ H x y v u Q I rx ry ⟨i,j,hx.str_inv,hy.str_inv,Qz (Qr g) Gh,q _ _ (PR.sc (d:=.str _) rfl)⟩
  ·rename_i i j;obtain⟨g,he⟩:=aN he;cases he;obtain⟨a,xs,rfl,h1,_,h2⟩:=hx.lst_inv;obtain⟨b,ys,rfl,k1,_,k2⟩:=hy.lst_inv;refine eP pins s σ H _ _ v u Q I rx ry ⟨a,b,xs,ys,rfl,rfl,h1,k1,?_,λp hp=>q _ _ (PR.o7 hp λA w=>?_)⟩
   ·rw[h2.length,k2.length];exact Qz (Qr g) Gh
   ·exact(ft.aM w.1 h1).append (ft.aM w.2.1 k1)
  ·rename_i i j;obtain⟨g,he⟩:=aN he;cases he;obtain⟨a,xs,rfl,h1,h2⟩:=hx.ag;obtain⟨b,ys,rfl,k1,k2⟩:=hy.ag;by_cases hd:xs=[]
   ·subst hd;cases h2.eh;cases rx;cases ry;obtain⟨its,r1,p1,_⟩:=I.tuple (dY.of h1);obtain⟨aG,r2,p2,_⟩:=I.tuple (dY.of k1);cases r1;obtain⟨⟨cls,dd,data,sl⟩,ho,hc,n,vj⟩:=p1;obtain⟨⟨Cv,rY,data2,p7⟩,oS,kW,n2,lj⟩:=p2;simp only at hc vj kW lj;subst hc vj kW lj;exact concat_meets ⟨_,ho,rfl⟩ ⟨_,oS,rfl⟩ SJ seq_tuple_add Sv Su (Ss _ _)
     (Mx.tuple_addW0 a b _ _ n n2 dd rY sl p7 rfl) ⟨ho,oS,⟨.ref b,H,I,rfl,q _ _ (PR.sV k1 λA w=>ft.ar w.2.1 k1)⟩⟩
   ·refine Aq pins s σ H (.ref a) (.ref b) v u Q I rx ry ⟨a,b,xs,ys,rfl,rfl,dY.of h1,dY.of k1,hd,?_,λe=>?_,λe p hp=>?_⟩
    ·rw[h2.length,k2.length];exact Qz (Qr g) Gh
    ·subst e;cases k2.eh;rw[Q2]at q;exact q _ _ (PR.sV h1 λA w=>ft.ar w.1 h1)
    ·exact q _ _ (PR.Dx hp λA w=>(ft.ar w.1 h1).append (ft.ar w.2.1 k1))
  ·cases he
 ·split at he
  ·rename_i i j;cases he;exact DK pins s σ H x y v u Q I rx ry ⟨i,j,hx.int_inv,hy.int_inv,q _ _ (PR.sc (d:=.int _) rfl)⟩
  ·cases he
 ·split at he
  ·rename_i i j;obtain⟨g,he⟩:=aN he;cases he;refine DI pins s σ H x y v u Q I rx ry ⟨i,j,hx.int_inv,hy.int_inv,?_,q _ _ (PR.sc (d:=.int _) rfl)⟩;rw[Q3]at g;rcases g with g|g
   ·exact .inl (l9 (Qr g))
   ·exact .inr (l9 (Qr g))
  ·cases he
 ·split at he
  ·rename_i i j;obtain⟨g,he⟩:=aN he;cases he;rw[Qp]at g;exact DG pins s σ H x y v u Q I rx ry ⟨i,j,hx.int_inv,hy.int_inv,⟨Qr g.1,Qr g.2⟩,q _ _ (PR.sc (d:=.int _) rfl)⟩
  ·cases he
 ·split at he
  ·rename_i i j;obtain⟨g,he⟩:=aN he;cases he;exact DH pins s σ H x y v u Q I rx ry ⟨i,j,hx.int_inv,hy.int_inv,Qr g,q _ _ (PR.sc (d:=.int _) rfl)⟩
  ·cases he
 ·split at he
  ·rename_i i j;obtain⟨g,he⟩:=aN he;cases he;rw[Qp,Qp]at g;have g1:=Qr g.1.1;have g2:=Qr g.1.2;have g3:=Qr g.2;exact DJ pins s σ H x y v u Q I rx ry ⟨i,j,hx.int_inv,hy.int_inv,⟨g1,by lia,g3⟩,q _ _ (PR.sc (d:=.int _) rfl)⟩
  ·cases he
 ·cases he
noncomputable def rC(K:Frag)(o:CmpOp):R2:=λx y H Q=>∃d e z,RV K N0 H x d/\RV K N0 H y e/\c7 o d e= .ok z/\Q (.bl z) H
theorem ju{pins:List (Addr×Obj)}{s:Shared}{σ:L2.St}{H:Hp}{K:Frag}(I:Inv X pins σ H s)(hu:X.A.units+150<cLine){xs:List V}{ds:List Dt}{its:List Value}{x:V}{u:Value}{d:Dt}(r:aq xs its)(g:ak K N0 H xs ds)(rx:RelV x u)(hx:RV K N0 H x d)(p1:pl d=true)(p2:jn ds=true)(hd:kU ds<=100):
  ∃e:Value->Bool,(∀y,y∈its.toArray->EqAt X.A.in1 s y u (e y))/\its.toArray.any e=inD d ds:=by
 classical
 let e:Value->Bool:=λy=>decide (∃(j:Nat)(d':Dt),its[j]?=some y/\ds[j]?=some d'/\bS d' d=true)
 have key:∀(j:Nat)(y:Value)(d':Dt),its[j]?=some y->ds[j]?=some d'->e y=bS d' d:=λj y d' h1 h2=>by
  rw[Rc];constructor
  ·intro h;obtain⟨j',PV,k1,k2,k3⟩:=Qr h;have hj:j<xs.length:=by rw[r.length];exact(Qs.mp h1).1
   have BA:j'<xs.length:=by rw[r.length];exact(Qs.mp k1).1
   obtain⟨u1,a1,a2⟩:=r.get (i:=j) (x:=xs[j]) (by simp[hj]);obtain⟨u2,b1,b2⟩:=r.get (i:=j') (x:=xs[j']) (by simp[BA]);rw[h1]at a1;cases a1;rw[k1]at b1;cases b1;have ex:=RelV.inj a2 b2;obtain⟨d1,c1,c2⟩:=g.get (i:=j) (x:=xs[j]) (by simp[hj]);obtain⟨d2,e1,e2⟩:=g.get (i:=j') (x:=xs[j']) (by simp[BA]);rw[h2]at c1;cases c1;rw[k2]at e1;cases e1;rw[<-ex]at e2;rw[RV.inj c2 e2 (dS p2 h2) (dS p2 k2)];exact k3
  ·intro h;exact QR ⟨j,d',h1,h2,h⟩
 refine⟨e,λy hy=>?_,?_⟩
 ·obtain⟨j,hj⟩:=R0.mp (by simpa using hy:y∈its);have MR:j<xs.length:=by rw[r.length];exact(Qs.mp hj).1
  obtain⟨d',h1,h2⟩:=g.get (i:=j) (x:=xs[j]) (by simp[MR]);obtain⟨u1,a1,a2⟩:=r.get (i:=j) (x:=xs[j]) (by simp[MR]);rw[hj]at a1;cases a1;rw[key j y d' hj h1];exact Bn I.hok 100 d' d xs[j] x y u X.A.in1 (Qz (j3 h1) hd) (dS p2 h1) p1 (by show X.A.units+1+100<cLine;lia) h2 hx a2 rx
 ·rw[List.any_toArray];unfold inD;have hlen:its.length=ds.length:=by rw[<-r.length,g.length]
  clear_value e
  clear r g p2 hd
  induction its generalizing ds with
  |nil=>
   cases ds with
   |nil=>rfl
   |cons=>simp at hlen
  |cons y ys ih=>
   cases ds with
   |nil=>simp at hlen
   |cons d' la=>rw[List.any_cons,List.any_cons,key 0 y d' rfl rfl,ih (λj y d' h1 h2=>key (j+1) y d' (by simpa using h1) (by simpa using h2)) (by simpa using hlen)]
mutual
theorem sX:∀{d e:Mx.D},kc d e=true->Mx.D.cL d e
 |.int _,.int _,_=>by unfold Mx.D.cL;trivial
 |.str _,.str _,_=>by unfold Mx.D.cL;trivial
 |.tup a,.tup b,h=>by unfold Mx.D.cL;exact iW (by simpa [kc]using h)
 |.int _,.str _,h=>by simp[kc]at h
 |.int _,.tup _,h=>by simp[kc]at h
 |.str _,.int _,h=>by simp[kc]at h
 |.str _,.tup _,h=>by simp[kc]at h
 |.tup _,.int _,h=>by simp[kc]at h
 |.tup _,.str _,h=>by simp[kc]at h
theorem iW:∀{d e:List Mx.D},ib d e=true->Mx.D.d9 d e
 |[],_,_=>by unfold Mx.D.d9;trivial
 |_::_,[],_=>by unfold Mx.D.d9;trivial
 |x::xs,y::ys,h=>by simp only[ib,Qp]at h;unfold Mx.D.d9;exact⟨sX h.1,iW h.2⟩
end
theorem qQ(o:CmpOp)(hu:X.A.units+150<cLine):kT X (compareOp o) (rC X.K o):=by
 intro pins s σ H x y v u Q I rx ry h;obtain⟨d,e,z,hx,hy,he,q⟩:=h;unfold c7 at he;split at he
 ·obtain⟨g,he⟩:=aN he;cases he;unfold lb at g;rw[Qp,Qp]at g;exact Hi I.hok 100 d e x y v u X.A (Nat.le_succ_of_le (Qr g.2)) g.1.1 g.1.2 ⋯ hx hy rx ry X.prog X.w X.xe (EP X pins σ Q) ⟨.bl _,H,I,rfl,q⟩
 ·obtain⟨g,he⟩:=aN he;cases he;unfold lb at g;rw[Qp,Qp]at g;exact AL I.hok 100 d e x y v u X.A (Nat.le_succ_of_le (Qr g.2)) g.1.1 g.1.2 ⋯ hx hy rx ry X.prog X.w X.xe (EP X pins σ Q) ⟨.bl _,H,I,rfl,q⟩
 ·rename_i i j;cases he;exact G8 pins s σ H x y v u Q I rx ry ⟨i,j,hx.int_inv,hy.int_inv,q⟩
 ·rename_i i j;cases he;exact G7 pins s σ H x y v u Q I rx ry ⟨i,j,hx.int_inv,hy.int_inv,q⟩
 ·rename_i i j;cases he;exact G6 pins s σ H x y v u Q I rx ry ⟨i,j,hx.int_inv,hy.int_inv,q⟩
 ·rename_i i j;cases he;exact G5 pins s σ H x y v u Q I rx ry ⟨i,j,hx.int_inv,hy.int_inv,q⟩
 ·split at he
  ·rename_i xs ys h1 h2;obtain⟨g,he⟩:=aN he;cases he;rw[Qp]at g;rw[ir h1]at hx;rw[ir h2]at hy;exact Mx.zI I.hok 101 (.tup xs) (.tup ys) x y v u X.A (by have:=Qr g.2;unfold Mx.D.dep;lia) ⋯ (by unfold Mx.D.cL;exact iW g.1) (RV.dv (m:=.tup xs) (by rw[ofD];exact hx)) (RV.dv (m:=.tup ys) (by rw[ofD];exact hy)) rx ry X.prog X.w X.xe (EP X pins σ Q) ⟨.bl _,H,I,rfl,by unfold Mx.D.lt at *;exact q⟩
  ·cases he
 ·obtain⟨g,he⟩:=aN he;cases he;rw[Qp,Qp]at g;obtain⟨a,xs,rfl,h1,_,h2⟩:=hy.lst_inv;cases ry;obtain⟨its,r,t⟩:=aM I.hok h1;obtain⟨e,k1,k2⟩:=ju I hu r h2 rx hx g.1.1 g.1.2 (Qr g.2);exact in_listAt e t k1 ⟨.bl _,H,I,by rw[k2];rfl,q⟩
 ·obtain⟨g,he⟩:=aN he;cases he;rw[Qp,Qp]at g;obtain⟨a,xs,rfl,h1,h2⟩:=hy.ag;cases ry;obtain⟨its,r,t⟩:=Mx.ar I.hok h1;obtain⟨e,k1,k2⟩:=ju I hu r h2 rx hx g.1.1 g.1.2 (Qr g.2);exact in_tupleAt e t k1 ⟨.bl _,H,I,by rw[k2];rfl,q⟩
 ·obtain⟨g,he⟩:=aN he;cases he;rw[Qp,Qp]at g;obtain⟨a,xs,rfl,h1,_,h2⟩:=hy.lst_inv;cases ry;obtain⟨its,r,t⟩:=aM I.hok h1;obtain⟨e,k1,k2⟩:=ju I hu r h2 rx hx g.1.1 g.1.2 (Qr g.2);exact notIn_listAt e t k1 ⟨.bl _,H,I,by rw[k2];rfl,q⟩
 ·obtain⟨g,he⟩:=aN he;cases he;rw[Qp,Qp]at g;obtain⟨a,xs,rfl,h1,h2⟩:=hy.ag;cases ry;obtain⟨its,r,t⟩:=Mx.ar I.hok h1;obtain⟨e,k1,k2⟩:=ju I hu r h2 rx hx g.1.1 g.1.2 (Qr g.2);exact notIn_tupleAt e t k1 ⟨.bl _,H,I,by rw[k2];rfl,q⟩
 ·cases he
theorem qg{ds:List Dt}{i:Int}{d:Dt}(h:t9 ds i= .ok d):k8 ds i=some d:=by
 unfold t9 at h;split at h
 ·cases h;assumption
 ·cases h
theorem jx{K:Frag}{A:Addr->Prop}{H:Hp}{xs:List V}{ds:List Dt}{i:Int}{d:Dt}(g:ak K A H xs ds)(h:k8 ds i=some d):∃v,k8 xs i=some v/\RV K A H v d:=by
 unfold k8 at h ⊢;rw[g.length];cases e:kZ ds.length i with
 |none=>rw[e]at h;cases h
 |some j=>rw[e]at h;obtain⟨v,h1,h2⟩:=g.getD (i:=j) h;exact⟨v,h1,h2⟩
noncomputable def rX(K:Frag):R2:=λx y H Q=>∃d e z,RV K N0 H x d/\RV K N0 H y e/\bW d e= .ok z/\∀v,PR K false [x,y] [d,e] H z v H->Q v H
theorem Dg:Fe X (rX X.K):=by
 intro value slice pins s σ H x y v u Q I rx ry h hs;obtain⟨d,e,z,hx,hy,he,q⟩:=h;unfold bW at he;split at he
 ·rename_i ds i;obtain⟨a,xs,rfl,h1,_,h2⟩:=hx.lst_inv;have lg:=qg he;obtain⟨w,k1,k2⟩:=jx h2 lg;refine sS value slice pins s σ H _ y v u Q I rx ry ⟨a,xs,i,w,rfl,hy.int_inv,dy.of h1,k1,q w ⟨bu.refl _,λA _ q'=>?_,λz=>by cases z⟩⟩ hs;obtain⟨w',m1,m2⟩:=jx (ft.aM q'.1 h1) lg;rw[k1]at m1;cases m1;exact m2
 ·rename_i ds i;obtain⟨a,xs,rfl,h1,h2⟩:=hx.ag;have lg:=qg he;obtain⟨w,k1,k2⟩:=jx h2 lg;refine Di value slice pins s σ H _ y v u Q I rx ry ⟨a,xs,i,w,rfl,hy.int_inv,dY.of h1,k1,q w ⟨bu.refl _,λA _ q'=>?_,λz=>by cases z⟩⟩ hs;obtain⟨w',m1,m2⟩:=jx (ft.ar q'.1 h1) lg;rw[k1]at m1;cases m1;exact m2
 ·rename_i ns i;obtain⟨a,rfl,h1⟩:=hx.i6;have lg:=qg he;have e1:k8 ((ns.map V.int)) i=some (p6 z)/\og z=true:=by
   unfold k8 at lg ⊢;rw[Qx]at lg ⊢;cases e:kZ ns.length i with
   |none=>rw[e]at lg;cases lg
   |some j=>
    rw[e]at lg;simp only[Option.bind_some,QH]at lg ⊢;cases en:ns[j]? with
    |none=>rw[en]at lg;cases lg
    |some k=>rw[en]at lg;simp at lg;subst lg;exact⟨rfl,rfl⟩
  exact sS value slice pins s σ H _ y v u Q I rx ry ⟨a,_,i,_,rfl,hy.int_inv,h1,e1.1,q _ (PR.sc e1.2)⟩ hs
 ·rename_i w i;obtain⟨g,he⟩:=aN he;split at he
  ·rename_i c hc;cases he;exact Dh value slice pins s σ H _ y v u Q I rx ry ⟨w,i,c,hx.str_inv,hy.int_inv,Qz (Qr g) cj,hc,q _ (PR.sc (d:=.str _) rfl)⟩ hs
  ·cases he
 ·cases he
noncomputable def rS(K:Frag):V->Option Int->Option Int->Hp->VK->Prop:=λx lo hi H Q=>∃d z,RV K N0 H x d/\fM d lo hi= .ok z/\∀v H',PR K true [x] [d] H z v H'->Q v H'
theorem ak.cut{K:Frag}{A:Addr->Prop}{H:Hp}{xs:List V}{ds:List Dt}{lo hi:Option Int}(g:ak K A H xs ds):ak K A H (k9 xs lo hi) (cutD ds lo hi):=by unfold k9 cutD;rw[g.length];exact(g.drop _).take _
theorem qo{xs:List V}{lo hi:Option Int}(h:HT.bY xs.length 0 lo=0/\HT.bY xs.length xs.length hi=xs.length):k9 xs lo hi=xs:=by unfold k9;rw[h.1,h.2];simp
theorem nN:EJ X (λx lo hi H Q=>∃a xs,x= .ref a/\H a=some (.tup xs)/\(HT.bY xs.length 0 lo=0/\HT.bY xs.length xs.length hi=xs.length)/\Q (.ref a) H):=by
 intro pins s σ H x v vl vu lo hi sl Q I rx hs pl pu h;obtain⟨a,xs,rfl,hx,hw,q⟩:=h;cases rx;obtain⟨its,r,ht,hz⟩:=I.tuple (dY.of hx);have hlen:its.toArray.size=xs.length:=by rw[Qq];exact r.length.symm
 refine⟨"tuple",_,Sr.lookup,ht.typeIs,?_⟩;refine HT.f7 ht hs pl pu (by rw[hlen];exact hw) ⟨.ref a,H,I,rfl,q⟩ (by rw[hlen];exact hz)
theorem hU{K:Frag}{A:Addr->Prop}{H:Hp}:∀{ns:List Int},ak K A H (ns.map V.int) (ns.map Dt.int)
 |[]=>ak.nil
 |_::_=>ak.cons RV.dP hU
theorem yu:EJ X (rS X.K):=by
 intro pins s σ H x v vl vu lo hi sl Q I rx hs pl pu h;obtain⟨d,z,hx,he,q⟩:=h;unfold fM at he;split at he
 ·cases he;obtain⟨a,xs,rfl,h1,_,h2⟩:=hx.lst_inv;exact tN pins s σ H _ v vl vu lo hi sl Q I rx hs pl pu ⟨a,xs,rfl,dy.of h1,λp hp=>q _ _ (PR.o7 hp λA w=>(ft.aM w.1 h1).cut)⟩
 ·cases he;obtain⟨a,rfl,h1⟩:=hx.i6;exact tN pins s σ H _ v vl vu lo hi sl Q I rx hs pl pu ⟨a,_,rfl,h1,λp hp=>q _ _ (PR.o7 hp λA w=>ak.cut hU)⟩
 ·cases he;obtain⟨a,xs,rfl,h1,h2⟩:=hx.ag;by_cases hw:HT.bY xs.length 0 lo=0/\HT.bY xs.length xs.length hi=xs.length
  ·refine nN pins s σ H _ v vl vu lo hi sl Q I rx hs pl pu ⟨a,xs,rfl,h1,hw,q _ _ (PR.sV h1 λA w=>?_)⟩;have:=(ft.ar w.1 h1).cut (lo:=lo) (hi:=hi);rw[qo hw]at this;exact this
  ·exact Ee pins s σ H _ v vl vu lo hi sl Q I rx hs pl pu ⟨a,xs,rfl,dY.of h1,hw,λp hp=>q _ _ (PR.Dx hp λA w=>(ft.ar w.1 h1).cut)⟩
 ·obtain⟨g,he⟩:=aN he;cases he;exact Mx.Ed pins s σ H _ v vl vu lo hi sl Q I rx hs pl pu ⟨_,hx.str_inv,Qz (Qr g) cj,q _ _ (PR.sc (d:=.str _) rfl)⟩
 ·cases he
theorem ka{K:Frag}{A:Addr->Prop}{H:Hp}:∀{xs:List V}{ds:List Dt}{ns:List Int},ak K A H xs ds->intsOf ds=some ns->xs=ns.map V.int
 |xs,[],ns,g,h=>by simp[intsOf]at h;subst h;exact g.nil_inv
 |xs,d::ds,ns,g,h=>by
  obtain⟨x,r,rfl,g1,g2⟩:=g.cons_inv;cases d with
  |int i=>simp only[intsOf,QD]at h;obtain⟨ms,h1,rfl⟩:=h;rw[ka g2 h1,g1.int_inv];rfl
  |_=>simp[intsOf]at h
theorem rQ{K:Frag}{A:Addr->Prop}{H:Hp}:∀{xs:List V}{ds:List Dt}{ns:List Bool},ak K A H xs ds->gO ds=some ns->xs=ns.map V.bl
 |xs,[],ns,g,h=>by simp[gO]at h;subst h;exact g.nil_inv
 |xs,d::ds,ns,g,h=>by
  obtain⟨x,r,rfl,g1,g2⟩:=g.cons_inv;cases d with
  |bl i=>simp only[gO,QD]at h;obtain⟨ms,h1,rfl⟩:=h;rw[rQ g2 h1,g1.aC];rfl
  |_=>simp[gO]at h
theorem pG{K:Frag}{A:Addr->Prop}{H:Hp}:∀{xs:List V}{ds:List Dt}{ns:List Str},ak K A H xs ds->strsOf ds=some ns->xs=ns.map V.str
 |xs,[],ns,g,h=>by simp[strsOf]at h;subst h;exact g.nil_inv
 |xs,d::ds,ns,g,h=>by
  obtain⟨x,r,rfl,g1,g2⟩:=g.cons_inv;cases d with
  |str i=>simp only[strsOf,QD]at h;obtain⟨ms,h1,rfl⟩:=h;rw[pG g2 h1,g1.str_inv];rfl
  |_=>simp[strsOf]at h
theorem gi:∀{l l':List Mx.D},l.Perm l'->(l.Pairwise λa b=>Mx.D.lt b a=false)->(l'.Pairwise λa b=>Mx.D.lt b a=false)->l=l'
 |[],l',p,_,_=>(List.nil_perm.mp p).symm
 |a::t,l',p,h1,h2=>by
  cases l' with
  |nil=>exact absurd p.length_eq (by simp)
  |cons b t'=>
   rw[List.pairwise_cons]at h1 h2;have jj:a=b:=by
    have ha:a∈b::t':=p.mem_iff.mp Qv;have hb:b∈a::t:=p.mem_iff.mpr Qv;rcases QA.mp ha with e|ha
    ·exact e
    rcases QA.mp hb with e|hb
    ·exact e.symm
    exact Mx.D.ie a b (h2.1 a ha) (h1.1 b hb)
   subst jj;rw[gi (List.perm_cons a |>.mp p) h1.2 h2.2]
theorem kK(ms:List Mx.D):(a6 ms).Perm ms/\(a6 ms).Pairwise λa b=>Mx.D.lt b a=false:=by
 unfold a6;refine⟨List.mergeSort_perm ms E5,?_⟩;have h:=List.pairwise_mergeSort (le:=E5) (λa b c h1 h2=>by
  unfold E5 at *;simp only[Rg]at *;cases h3:Mx.D.lt c a with
  |false=>rfl
  |true=>
   rcases Mx.Fy.negTrans c b a h3 with h|h
   ·have h:Mx.D.lt c b=true:=h;rw[h2]at h;cases h
   ·have h:Mx.D.lt b a=true:=h;rw[h1]at h;cases h) (λa b=>by
  unfold E5;cases h:Mx.D.lt b a with
  |false=>rfl
  |true=>
   cases h':Mx.D.lt a b with
   |false=>rfl
   |true=>have:=Mx.D.lt_trans a b a h' h;rw[Mx.D.lt_irrefl]at this;cases this) ms
 exact h.imp λq=>by unfold E5 at q;simpa using q
theorem pF{ms es:List Mx.D}(h:Mx.gL ms es):es=a6 ms:=gi (h.1.trans (kK ms).1.symm) h.2 (kK ms).2
theorem Dj{k:Mx.SK}{d:Mx.D}(h:GE k d=true):k.ok d:=by
 unfold GE at h;split at h
 ·have e:=QL h;subst e;exact⟨_,_,rfl⟩
 ·have e:=QL h;subst e;exact⟨_,_,rfl⟩
 ·have e:=QL h;subst e;exact⟨_,_,rfl⟩
 ·have e:=QL h;subst e;exact⟨_,rfl⟩
 ·have e:=QL h;subst e;exact⟨_,rfl⟩
 ·cases h
theorem zA{ms:List Mx.D}(h:jg ms=true):Mx.jO ms:=by
 unfold jg at h;rw[Qp,Q3]at h;obtain⟨h1,h2⟩:=h;refine⟨Qr h1,λh3=>?_⟩;rcases h2 with h2|h2
 ·have:=Qr h2
  lia
 ·rw[Qp,Qp]at h2;obtain⟨⟨h4,h5⟩,h6⟩:=h2;refine⟨Qr h4,?_,λd hd e he=>sX (QY.mp (QY.mp h6 d hd) e he)⟩;obtain⟨k,_,hk⟩:=QZ.mp h5;exact⟨k,λd hd=>Dj (QY.mp hk d hd)⟩
theorem mT:∀(ys:List Str)(y:Str),y∈dd ys↔y∈ys
 |[],y=>by simp[dd]
 |x::r,y=>by
  unfold dd;by_cases h:x∈dd r
  ·rw[SH h,mT r y,QA];constructor
   ·exact .inr
   ·rintro(rfl|q)
    ·exact(mT r y).mp h
    ·exact q
  ·rw[SF h,QA,QA,mT r y]
theorem jZ:∀ys:List Str,(dd ys).Nodup
 |[]=>List.nodup_nil
 |x::r=>by
  unfold dd;by_cases h:x∈dd r
  ·rw[SH h];exact jZ r
  ·rw[SF h];exact R5.mpr ⟨h,jZ r⟩
theorem lu{α:Type}[DecidableEq α]{a b:List α}(ha:a.Nodup)(hb:b.Nodup)(h:∀x,x∈a↔x∈b):a.Perm b:=by rw[List.perm_iff_count];intro x;rw[ha.count,hb.count];simp[h x]
theorem mQ:∀ys:List Str,(dd ys).length<=ys.length
 |[]=>Qu _
 |x::r=>by
  have:=mQ r;unfold dd;by_cases h:x∈dd r
  ·rw[SH h,QG];lia
  ·rw[SF h,QG,QG];lia
end
end Rx
end
section
namespace Mx
open PySem PySem.Spec PyProof.Rows L2 PySem.SeqAt
theorem An:typeLookup (.type "tuple") "keys"=pure none:=by rw[typeLookup_type,builtinLookup_eq_fast];kernel_rfl
section
variable{prog:Program}{w:World}{A:Around}{E:Value->Shared->Prop}{s:Shared}
theorem uK{a:Addr}{its:Array Value}{Q:Option Value->Shared->Prop}(ht:jQ s.heap a its)(hA:A.handled=none)
  (h:∀h' tk,(∀b o,s.heap.get? b=some o->h'.get? b=some o)->Q none {s with heap:=h',toks:=tk}):wpAny (model prog w) A (getAttr? (.ref a) "keys") Q E s:=by
 obtain⟨⟨c,ID,dat,sl⟩,hx,hc,k,F9,hd,_⟩:=ht;simp only at hc F9 hd;subst hc F9 hd;obtain⟨hp,g,d,tk,os⟩:=s;have hT:∀t,(⟨hp,g,d,t,os⟩:Shared).TypeIs (.ref a) "tuple":=λ_=>⟨_,hx,rfl⟩
 have f1:=sub_AttributeError;have f3:=PySem.F.slot_tuple_getattribute.lookup;have f4:=PySem.F.slot_tuple_getattribute.bind (.ref a);have f5:=am_tuple_getattr_none;unfold getAttr? getAttrBy? getAttrBy
 repeat (any_goals (first|assumption|exact hT _|((with_reducible show wpAny _ _ (call (Value.builtin "tuple.__getattribute__") _ _) _ _ _);refine SC PySem.F.slot_tuple_getattribute (hT _) am_entry_tuple_getattribute (PySem.F.args_tuple_getattribute_2 _ _) (meets_getattribute_miss_tuple a its k sl "keys" _ An (by decide) (by size_fits)) ⟨hx,hA,λh' t e n9=>?_⟩)|wp_step))
 obtain⟨t',u',he⟩:=n9.there;show wpAny _ _ (getattributeRaised _ _ _ _ _ _ _) _ _ _;unfold getattributeRaised
 repeat (any_goals (first|assumption|wp_step))
 exact h _ _ n9.keeps
theorem kQ:entryFor table "dict.update.loop"=some Builtin.«dict.update.loop»:=entryFor_of_fast (by kernel_rfl)
theorem eY:plainId "dict.update.loop"=true:=by decide +kernel
noncomputable def PU(h:Heap)(d it:Addr)(u:Value)(p:Str×Value):Prop:=∃q t,u= .ref q/\q≠d/\q≠it/\h.IsTuple q #[.str p.1 t,p.2]
theorem Mf{d it t:Addr}{R:Result->Shared->Prop}(IM:d≠it)(OU:t≠it)(OT:t≠d)(hh:A.in1.handled=none):∀(rest:List Value)(ps:List (Str×Value))(done:List Value)(acc:List (Key×Value))(i:Int)(s:Shared),
  s.heap.IsTupleIter it t done.length->s.heap.IsTuple t (done++rest).toArray->s.heap.DictOf (bQ prog w) d acc->Paired (PU s.heap d it) rest ps->
  ((acc++ps.map λp=>((.inr p.1:Key),p.2)).map (·.1)).Nodup->acc.length+ps.length<=sizeLine->
  (∀h' tk,(∀b o,b≠d->b≠it->s.heap.get? b=some o->h'.get? b=some o)->h'.DictOf (bQ prog w) d (acc++ps.map λp=>((.inr p.1:Key),p.2))->R (.ok (.ret .none)) {s with heap:=h',toks:=tk})->
  codeAny (model prog w) A (.builtin "dict.update.loop" ⟨[.ref d,.ref it,.int i 0,.none],[]⟩) R s:=by
 intro rest
 induction rest with
 |nil=>intro ps done acc i s h1 h2 h3 h4 h5 h6 h;cases h4;refine codeAny_builtin kQ ?_;rw[Around.under_plainId eY _];show wpAny _ A.in1 (pyNext (.ref it) >>=_) _ _ s;refine Ql (wpAny_pyNext_tuple_end hh h1 h2 (by simp) λh' eb=>?_);show wpAny _ A.in1 (Builtin.Dict.addKeywords d [] >>=_) _ _ _;refine Ql (Qo (Qo ?_));exact h h' s.toks (λb o _ hb e=>eb b o hb e) (by simpa using h3.extBut eb IM)
 |cons u rest ih=>
  intro ps done acc i s h1 h2 h3 h4 h5 h6 h;cases h4 with
  |@cons _ p _ ps hp hr=>
   obtain⟨q,tq,rfl,Qb,OM,hq⟩:=hp;refine codeAny_builtin kQ ?_;rw[Around.under_plainId eY _];show wpAny _ A.in1 (pyNext (.ref it) >>=_) _ _ s;refine Ql (wpAny_pyNext_tuple_item h1 h2 (x:=.ref q) (by simp) λh' g1 g2=>?_);have E0:h'.IsTuple q #[.str p.1 tq,p.2]:=hq.extBut g2.extBut OM;have kX:h'.DictOf (bQ prog w) d acc:=h3.sameBut g2 IM;dsimp only;refine Ql (SX (Ql (wpAny_tryCatch ?_)));unfold Builtin.Dict.pairItems;refine Ql (Tc (show Shared.TypeIs {s with heap:=h'} (.ref q) "tuple" from E0.typeIs) ?_);rw[SH (by decide)];obtain⟨oq,e1,_,nq,e2⟩:=E0;refine Ql (S9 e1 e2 (Qo ?_));show wpAny _ _ (holding [.str p.1 tq,p.2] (dictSet d (.str p.1 tq) p.2)) _ _ _;have hn:acc.any (λkv=>decide (kv.1= .inr p.1))=false:=by rw[Bool.eq_false_iff];intro z;obtain⟨kv,m,e⟩:=QZ.mp z;rw[Q7,Q6,Q6,List.nodup_append]at h5;exact h5.2.2 _ (QX.mpr ⟨kv,m,rfl⟩) _ Qv (Qr e)
   refine SX (wpAny_dictSet_pairs (knd:=bQ prog w) (k:=.inr p.1) (fG _ _ _ _) kX (λjB k1 k2=>?_) ⋯);have keep:∀b o,b≠d->b≠it->s.heap.get? b=some o->jB.get? b=some o:=λb o hb hi e=>(k2.2 b hb).trans ((g2.2 b hi).trans e)
   have ea:stored acc (.inr p.1) p.2=acc++[(.inr p.1,p.2)]:=by unfold stored;rw[SF (by rw[hn];exact Rf)]
   rw[ea]at k1;refine Qo ⟨plainId_quiet eY _,ih ps (done++[.ref q]) (acc++[(.inr p.1,p.2)]) (i+1) _ ?_ ?_ k1 ?_ ?_ ?_ λsF tk kp kd=>?_⟩
   ·obtain⟨o,a1,a2⟩:=g1;rw[QE];exact⟨o,(k2.2 it (Sn IM)).trans a1,a2⟩
   ·obtain⟨o,a1,a2⟩:=h2;rw[QC];exact⟨o,keep _ _ OT OU a1,a2⟩
   ·refine Paired.imp' (λv z⟨qz,tz,a1,a2,a3,o,a4,a5⟩=>⟨qz,tz,a1,a2,a3,o,keep _ _ a2 a3 a4,a5⟩) hr
   ·simpa [QC]using h5
   ·simp only[QE,QG,RL]at h6 ⊢;lia
   ·refine h sF tk (λb o hb hi e=>kp b o hb hi (keep b o hb hi e)) (by simpa [QC]using kd)
end
section
variable{X:Cx}
noncomputable def Lo:List V->Hp->VK->Prop:=λvs H Q=>∃a xs ps,vs=[.ref a]/\H a=some (.tup xs)/\Paired (λ(x:V)(p:Str×V)=>∃q,x= .ref q/\H q=some (.tup [.str p.1,p.2])) xs ps/\(ps.map (·.1)).Nodup/\
 ∀p,H p=none->Q (.ref p) (upd H p (.dK (ps.map λp=>(.inr p.1,p.2))))
theorem xD{P:Program}{w:World}{H:Hp}{h:Heap}(hok:dX P w H h):∀{ys:List V}{ps:List (Str×V)}{its:List Value},Paired (λ(x:V)(p:Str×V)=>∃q,x= .ref q/\H q=some (.tup [.str p.1,p.2])) ys ps->aq ys its->
  ∃gG:List (Str×Value),Paired (λ(u:Value)(p:Str×Value)=>∃q t,u= .ref q/\h.IsTuple q #[.str p.1 t,p.2]) its gG/\KV (ps.map λp=>((.inr p.1:Key),p.2)) (gG.map λp=>((.inr p.1:Key),p.2)):=by
 intro ys ps its hp
 induction hp generalizing its with
 |nil=>intro r;cases r;exact⟨[],.nil,.nil⟩
 |@cons x p _ _ h1 _ ih=>
  intro r;cases r with
  |cons ru rt=>obtain⟨q,rfl,hq⟩:=h1;cases ru;obtain⟨_,vs,rv,tn⟩:=(show bw P w H h q (.tup [.str p.1,p.2]) from hok q _ hq);obtain⟨u1,u2,rfl,⟨t,rfl⟩,r2⟩:=rv.two;obtain⟨gG,g1,g2⟩:=ih rt;exact⟨(p.1,u2)::gG,.cons ⟨q,t,rfl,tn.is⟩ g1,.cons ⟨rfl,r2⟩ g2⟩
theorem ku:∀{ps:List (Str×V)}{gG:List (Str×Value)},KV (ps.map λp=>((.inr p.1:Key),p.2)) (gG.map λp=>((.inr p.1:Key),p.2))->gG.map (·.1)=ps.map (·.1)
 |[],[],_=>rfl
 |[],_::_,h=>by cases h
 |_::_,[],h=>by cases h
 |p::ps,q::qs,h=>by
  cases h with
  |cons h1 h2=>rw[Q6,Q6,ku h2,Sum.inr.inj h1.1]
theorem vN(hc:X.calm=true):dw X (.type "dict") Lo:=by
 intro pins s σ H xs us Q I r h;obtain⟨a,ys,ps,rfl,ha,hp,hn,q⟩:=h;obtain⟨u,rfl,ru⟩:=r.one;cases ru;obtain⟨hz,its,r1,tn⟩:=(show bw X.prog X.w H s.heap a (.tup ys) from I.hok a _ ha);have hA:X.A.handled=none:=I.ok.hd hc;refine callType_codes (Q₁:=λobj s₁=>obj= .ref s.heap.objs.size/\s₁={s with heap:=s.heap.push {cls:=.type "dict",data:=.dict #[]}}) PySem.F.kt_called_dict (PySem.F.kt_typeCall_dict_1 _) PySem.F.entry_dict_init (kt_code_dict_new _ ⟨rfl,rfl⟩) ?_;rintro obj s₁ ⟨rfl,rfl⟩;have wO:(s.heap.push {cls:=.type "dict",data:=.dict #[]}).DictOf (bQ X.prog X.w) s.heap.objs.size []:=Heap.DictOf.new s.heap;have hb:(s.heap.objs.size==sysModules)=false:=SA.mpr (Sn (QT (Nat.lt_trans (by decide) (I.mod.glob.keeps I.bk).lt)));have Na:∀b o,s.heap.get? b=some o->(s.heap.push {cls:=.type "dict",data:=.dict #[]}).get? b=some o:=λb o e=>Qn _ e
 have Mc:jQ (s.heap.push {cls:=.type "dict",data:=.dict #[]}) a its.toArray:=by obtain⟨o,e,z⟩:=tn;exact⟨o,Na _ _ e,z⟩
 refine⟨wO.typeIs,PySem.F.args_dict_init_2 _ _,?_⟩;unfold Builtin.«dict.__init__»;refine Ql ?_;unfold Builtin.Dict.selfAndRest;refine Ql (wpAny_notOrdered_dict wO.typeIs (Qo ?_));show wpAny _ _ (Builtin.Dict.updateFrom "dict.__init__" s.heap.objs.size (.ref a) [] .none) _ _ _;unfold Builtin.Dict.updateFrom;refine Ql (Tc Mc.is.typeIs ?_);rw[SH (by decide)];refine Ql (uK Mc hA λh1 tk1 k1=>?_);rw[SH (by rfl)];refine Ql (S8 ?_);have Pz:jQ h1 a its.toArray:=by obtain⟨o,e,z⟩:=Mc;exact⟨o,k1 _ _ e,z⟩
 refine Ql (S7 (show Heap.IsTuple (Shared.heap {s with heap:=h1,toks:=tk1}) a its.toArray from Pz.is) ?_);obtain⟨gG,g1,g2⟩:=xD I.hok hp r1;have lt:∀{b o},s.heap.get? b=some o->b<s.heap.objs.size:=λe=>Qy e
 have MO:h1.DictOf (bQ X.prog X.w) s.heap.objs.size []:=by obtain⟨o,es,ep,e,z⟩:=wO;exact⟨o,es,ep,k1 _ _ e,z⟩
 have cU:s.heap.objs.size<h1.objs.size:=by obtain⟨o,es,ep,e,z⟩:=MO;exact Qy e
 have K0:∀b o,s.heap.get? b=some o->(h1.push {cls:=.type "tuple_iterator",data:=.fields #[.ref a,.int 0 0]}).get? b=some o:=λb o e=>Qn _ (k1 _ _ (Na _ _ e))
 have EW:a<s.heap.objs.size:=by obtain⟨o,e,_⟩:=tn;exact lt e
 have hl:gG.length=ps.length:=by have:=g2.length;simpa using this.symm
 have iM:ps.length=ys.length:=hp.length.symm;have hk:gG.map (·.1)=ps.map (·.1):=ku g2;refine Qo ⟨plainId_quiet eY _,Mf (A:=X.A.in1) (QT cU) (QT (Nat.lt_trans EW cU)) (QT EW) hA its gG [] [] 0 _ ⟨_,Qw _ rfl,rfl,rfl⟩ ?_ (MO.push _) ?_ ?_ ?_ λh' tk kp kd=>?_⟩
 ·obtain⟨o,e,z⟩:=tn.is;exact⟨o,K0 _ _ e,z⟩
 ·exact Paired.imp' (λv z⟨q,t,a1,o,a2,a3⟩=>⟨q,t,a1,QT (lt a2),QT (Nat.lt_trans (lt a2) cU),o,K0 _ _ a2,a3⟩) g1
 ·rw[R4,RU];have:(gG.map ((λx=>x.1) ∘ λp=>((.inr p.1:Key),p.2)))=(gG.map (·.1)).map Sum.inr:=by rw[RU];rfl
  rw[this,hk];exact List.Pairwise.map Sum.inr (λx y n z=>n (Sum.inr.inj z)) hn
 ·simp only[RL];lia
 ·refine⟨rfl,.ref s.heap.objs.size,upd H s.heap.objs.size (.dK (ps.map λp=>(.inr p.1,p.2))),I.laid (t':=tk) (a:=s.heap.objs.size) (λb o e=>kp b o (QT (lt e)) (QT (Nat.lt_trans (lt e) cU)) (K0 b o e)) (Qu _) ⟨by rw[Qx];lia,hb,_,g2,by simpa using kd⟩,rfl,q _ (I.hok.fresh (Qu _))⟩
noncomputable def A2(y:Str):List (Key×V)->Option V
 |[]=>none
 |p::r=>if p.1= .inr y then some p.2 else A2 y r
theorem A3{bx:List (Key×V)}{vs:List (Key×Value)}(r:KV bx vs)(y:Str):zj (A2 y bx) (valueAt vs (.inr y)):=by
 unfold KV at r
 induction r with
 |nil=>exact trivial
 |@cons p q _ _ h _ ih=>
  unfold A2 valueAt;rw[List.find?_cons];by_cases e:p.1= .inr y
  ·rw[SH e,QR (h.1.symm.trans e)];exact h.2
  ·rw[SF e,QN λz=>e (h.1.trans z)];exact ih
noncomputable def Hh:V->List V->Hp->VK->Prop:=λx vs H Q=>∃p bx y v,x= .ref p/\vs=[.str y,v]/\H p=some (.dK bx)/\Q ((A2 y bx).getD v) H
theorem Al:Iw X "dict.get" Hh:=by
 intro pins s σ H x vs v us Q I rx rv h;obtain⟨p,bx,y,d,rfl,rfl,hp,q⟩:=h;cases rx;obtain⟨u1,u2,rfl,⟨t,rfl⟩,r2⟩:=rv.two;obtain⟨_,sm,vs,r,hm⟩:=(show bw X.prog X.w H s.heap p (.dK bx) from I.hok p _ hp);refine call_meetsIn PySem.F.slot_dict_get hm.typeIs PySem.F.entry_dict_get (PySem.F.args_dict_get_3 _ _ _) (meets_dict_get_default (bQ X.prog X.w) p (k:=.inr y) (fG _ _ _ _) sm u2) ⟨_,hm.mapOf,?_⟩;refine⟨(A2 y bx).getD d,H,I.tok _,?_,q⟩;have z:=A3 r y;cases h1:A2 y bx with
 |none=>
  rw[h1]at z;cases h2:valueAt vs (.inr y) with
  |none=>exact r2
  |some _=>rw[h2]at z;exact z.elim
 |some v1=>
  rw[h1]at z;cases h2:valueAt vs (.inr y) with
  |none=>rw[h2]at z;exact z.elim
  |some _=>rw[h2]at z;exact z
theorem DA{pins:List (Addr×Obj)}{s:Shared}{σ:L2.St}{H:Hp}{p:Addr}{bx:List (Key×V)}(I:Inv X pins σ H s)(h:H p=some (.dK bx)):s.TypeIs (.ref p) "dict"/\∀a,Value.ref p= .ref a->∃ob,s.heap.get? a=some ob/\ob.dict=none:=by obtain⟨_,_,_,_,o,_,_,h1,h2,_⟩:=(show bw X.prog X.w H s.heap p (.dK bx) from I.hok p _ h);exact⟨⟨o,h1,h2.1⟩,λa e=>by cases e;exact⟨o,h1,h2.2.1⟩⟩
noncomputable def BQ:V->List V->Hp->VK->Prop:=λx vs H Q=>∃l b xs zs,x= .ref l/\vs=[.ref b]/\H l=some (.lst xs)/\(H b=some (.lst zs)\/H b=some (.tup zs))/\xs.length+zs.length<=sizeLine/\Q .bz (upd H l (.lst (xs++zs)))
theorem Ak:Ff X "list.extend" BQ:=by
 intro pins s σ H x vs v us Q I rx rv h;obtain⟨l,b,xs,zs,rfl,rfl,hH,hB|hB,hz,q⟩:=h
 ·exact uN pins s σ H _ _ v us Q I rx rv ⟨l,b,xs,zs,rfl,rfl,hH,hB,hz,q⟩
 cases rx;obtain⟨u,rfl,ru⟩:=rv.one;cases ru;obtain⟨z,its,n,r,hl,e⟩:=I.o4 hH;obtain⟨z2,aG,r2,⟨c,dd,dt,sl⟩,e2,w1,n2,w2,w3,w4⟩:=(show bw X.prog X.w H s.heap b (.tup zs) from I.hok b _ hB);simp only at w1 w2 w3 w4;subst w1 w2 w3 w4;have k1:=r.length;have k2:=r2.length;have kY:its.toArray.size+aG.toArray.size<=sizeLine:=by rw[Qq,Qq];lia
 refine SC F.slot_list_extend ⟨_,e,rfl⟩ F.entry_list_extend (F.args_list_extend_2 _ _)
  (AutoSeq1.list_extend_list_tuple_0 l its.toArray n b aG.toArray n2 (by rw[pd kY,Ra];exact Rf) ⋯ ⋯) ⟨e,e2,?_⟩
 exact⟨.bz,_,I.xm (its':=its++aG) hH e (by simp) (r.append r2) (by rw[QE];lia),rfl,q⟩
end
end Mx
end
section
namespace Rx
open PySem PySem.W PySem.Spec PyProof.Rows L2 PySem.SeqAt
section
variable{X:Cx}
noncomputable def ES:BI->Value
 |.len=>.builtin "len"|.min2=>.builtin "min"|.max2=>.builtin "max"|.sum=>.builtin "sum"|.any=>.builtin "any"
 |.sorted=>.builtin "sorted"|.tuple=>.type "tuple"|.list=>.type "list"|.dict=>.type "dict"|_=>.none
noncomputable def D0:BI->Bool
 |.isi _=>false|.sset=>false|_=>true
theorem bB{K:Frag}{A:Addr->Prop}{H:Hp}{xs:List V}{d:Dt}(h:ak K A H xs [d]):∃x,xs=[x]/\RV K A H x d:=by obtain⟨x,r,rfl,h1,h2⟩:=h.cons_inv;rw[h2.nil_inv];exact⟨x,rfl,h1⟩
theorem jN{K:Frag}{A:Addr->Prop}{H:Hp}{xs:List V}{d e:Dt}(h:ak K A H xs [d,e]):∃x y,xs=[x,y]/\RV K A H x d/\RV K A H y e:=by obtain⟨x,r,rfl,h1,h2⟩:=h.cons_inv;obtain⟨y,rfl,h3⟩:=bB h2;exact⟨x,y,rfl,h1,h3⟩
theorem oB{d:Dt}{p:Str×Dt}(h:zD d=some p):d= .tup [.str p.1,p.2]:=by
 unfold zD at h;split at h
 ·split at h
  ·split at h
   ·cases h;rfl
   ·cases h
  ·cases h
 ·cases h
theorem oC{K:Frag}{A:Addr->Prop}{H:Hp}:∀{ds:List Dt}{ps:List (Str×Dt)}{xs:List V},v7 ds=some ps->ak K A H xs ds->∃qs:List (Str×V),Paired (λ(x:V)(p:Str×V)=>∃q,x= .ref q/\H q=some (.tup [.str p.1,p.2])) xs qs/\True
 |[],ps,xs,h,r=>by cases r.nil_inv;exact⟨[],.nil,trivial⟩
 |d::ds,ps,xs,h,r=>by obtain⟨x,xr,rfl,r1,r2⟩:=r.cons_inv;obtain⟨p,h1,h⟩:=Qm.mp h;obtain⟨pr,h2,rfl⟩:=QD.mp h;obtain⟨qs,g1,_⟩:=oC h2 r2;rw[oB h1]at r1;obtain⟨a,zs,rfl,e1,e2⟩:=r1.ag;obtain⟨z1,z2,rfl,w1,w2⟩:=jN e2;have:=w1.str_inv;subst this;exact⟨(p.1,z2)::qs,.cons ⟨a,rfl,e1⟩ g1,trivial⟩
theorem fS{K:Frag}{A:Addr->Prop}{H:Hp}:∀{ds:List Dt}{ps:List (Str×Dt)}{xs:List V}{qs:List (Str×V)},v7 ds=some ps->Paired (λ(x:V)(p:Str×V)=>∃q,x= .ref q/\H q=some (.tup [.str p.1,p.2])) xs qs->ak K A H xs ds->qs.map (·.1)=ps.map (·.1)/\ak K A H (qs.map (·.2)) (ps.map (·.2))
 |[],ps,xs,qs,h,g,r=>by cases r.nil_inv;cases g;cases h;exact⟨rfl,ak.nil⟩
 |d::ds,ps,xs,qs,h,g,r=>by
  obtain⟨x,xr,rfl,r1,r2⟩:=r.cons_inv;obtain⟨p,h1,h⟩:=Qm.mp h;obtain⟨pr,h2,rfl⟩:=QD.mp h;cases g with
  |@cons _ q _ qs g1 g2=>obtain⟨k1,k2⟩:=fS h2 g2 r2;rw[oB h1]at r1;obtain⟨a,zs,rfl,e1,e2⟩:=r1.ag;obtain⟨b,eb,e3⟩:=g1;cases eb;rw[e1]at e3;cases e3;obtain⟨z1,z2,ez,w1,w2⟩:=jN e2;cases ez;have:=w1.str_inv;injection this with this;exact⟨by rw[Q6,Q6,k1,this],ak.cons w2 k2⟩
theorem zr(b:BI)(hr:D0 b=true)(hc:X.calm=true)(hu:X.A.units+150<cLine):dw X (ES b) (rP X.K true (c8 b)):=by
 intro pins s σ H xs us Q I r h;obtain⟨ds,d,hx,he,q⟩:=h;have Gh:=cj;unfold c8 at he;split at he
 ·split at he
  ·obtain⟨g,he⟩:=aN he;cases he;obtain⟨x,rfl,h1⟩:=bB hx;exact gP pins s σ H _ us Q I r ⟨x,_,rfl,by rw[h1.str_inv];exact⟨Qz (Qr g) Gh,rfl⟩,q _ _ (PR.sc (d:=.int _) rfl)⟩
  ·cases he;obtain⟨x,rfl,h1⟩:=bB hx;obtain⟨a,ys,rfl,h2,_,h3⟩:=h1.lst_inv;exact gP pins s σ H _ us Q I r ⟨_,_,rfl,.inl ⟨ys,dy.of h2,rfl⟩,by rw[h3.length];exact q _ _ (PR.sc (d:=.int _) rfl)⟩
  ·cases he;obtain⟨x,rfl,h1⟩:=bB hx;obtain⟨a,ys,rfl,h2,h3⟩:=h1.ag;exact gP pins s σ H _ us Q I r ⟨_,_,rfl,.inr ⟨ys,dY.of h2,rfl⟩,by rw[h3.length];exact q _ _ (PR.sc (d:=.int _) rfl)⟩
  ·cases he;obtain⟨x,rfl,h1⟩:=bB hx;obtain⟨a,rfl,h2⟩:=h1.i6;exact gP pins s σ H _ us Q I r ⟨_,_,rfl,.inl ⟨_,h2,rfl⟩,by rw[Qx];exact q _ _ (PR.sc (d:=.int _) rfl)⟩
  ·cases he
 ·split at he
  ·cases he;obtain⟨x,y,rfl,h1,h2⟩:=jN hx;exact ud hc pins s σ H _ us Q I r ⟨_,_,by rw[h1.int_inv,h2.int_inv],q _ _ (PR.sc (d:=.int _) rfl)⟩
  ·cases he
 ·split at he
  ·cases he;obtain⟨x,y,rfl,h1,h2⟩:=jN hx;exact uc hc pins s σ H _ us Q I r ⟨_,_,by rw[h1.int_inv,h2.int_inv],q _ _ (PR.sc (d:=.int _) rfl)⟩
  ·cases he
 ·split at he
  ·split at he
   ·rename_i ns lS;cases he;obtain⟨x,rfl,h1⟩:=bB hx;obtain⟨a,ys,rfl,h2,_,h3⟩:=h1.lst_inv;rw[ka h3 lS]at h2;exact Mx.vP hc pins s σ H _ us Q I r ⟨a,ns,rfl,dy.of h2,q _ _ (PR.sc (d:=.int _) rfl)⟩
   ·cases he
  ·split at he
   ·rename_i ns lS;cases he;obtain⟨x,rfl,h1⟩:=bB hx;obtain⟨a,ys,rfl,h2,h3⟩:=h1.ag;rw[ka h3 lS]at h2;exact Mx.ue hc pins s σ H _ us Q I r ⟨a,ns,rfl,h2,q _ _ (PR.sc (d:=.int _) rfl)⟩
   ·cases he
  ·cases he
 ·split at he
  ·split at he
   ·rename_i ns lS;cases he;obtain⟨x,rfl,h1⟩:=bB hx;obtain⟨a,ys,rfl,h2,_,h3⟩:=h1.lst_inv;rw[rQ h3 lS]at h2;exact Mx.vM hc pins s σ H _ us Q I r ⟨a,ns,rfl,dy.of h2,q _ _ (PR.sc (d:=.bl _) rfl)⟩
   ·cases he
  ·cases he
 ·split at he
  ·rename_i d0;split at he
   ·rename_i es hes;split at he
    ·rename_i ms n0;obtain⟨g,he⟩:=aN he;cases he;have cs:=zA g;obtain⟨x,rfl,h1⟩:=bB hx;have J2:=ir n0;have go:∀{a:Addr}{ys:List V},x= .ref a->(dy X.K H a ys\/dY X.K H a ys)->ak X.K N0 H ys es->wpAny (model X.prog X.w) X.A (call (ES .sorted) us) (EP X pins σ Q) X.xe s:=by intro a ys ex hs g;subst ex;rw[J2]at g;refine Mx.mI hu pins s σ H _ us Q I r ⟨a,ys,ms,rfl,hs,g.uv,cs,λm zs qs hm hz hso=>q _ _ ?_⟩;have e:=pF hso;subst e;exact PR.o7 hm λA _=>ak.nG hz
     unfold itemsOf at hes;split at hes
     ·cases hes;obtain⟨a,ys,e1,h2,_,h3⟩:=h1.lst_inv;exact go e1 (.inl (dy.of h2)) h3
     ·cases hes;obtain⟨a,ys,e1,h2,h3⟩:=h1.ag;exact go e1 (.inr (dY.of h2)) h3
     ·cases hes;obtain⟨a,e1,h2⟩:=h1.i6;exact go e1 (.inl h2) hU
     ·cases hes
    ·cases he
   ·cases he
  ·cases he
 ·split at he
  ·cases he;obtain⟨x,rfl,h1⟩:=bB hx;obtain⟨a,ys,rfl,h2,_,h3⟩:=h1.lst_inv;exact gc pins s σ H _ us Q I r ⟨a,ys,rfl,.inl ⟨dy.of h2,λl hl=>q _ _ (PR.Dx hl λA w=>ft.aM w.1 h2)⟩⟩
  ·cases he;obtain⟨x,rfl,h1⟩:=bB hx;obtain⟨a,ys,rfl,h2,h3⟩:=h1.ag;exact gc pins s σ H _ us Q I r ⟨a,ys,rfl,.inr ⟨dY.of h2,q _ _ (PR.sV h2 λA w=>ft.ar w.1 h2)⟩⟩
  ·cases he
 ·split at he
  ·cases he;obtain⟨x,rfl,h1⟩:=bB hx;obtain⟨a,ys,rfl,h2,_,h3⟩:=h1.lst_inv;exact eI pins s σ H _ us Q I r ⟨a,ys,rfl,.inl (dy.of h2),λl hl=>q _ _ (PR.o7 hl λA w=>ft.aM w.1 h2)⟩
  ·cases he;obtain⟨x,rfl,h1⟩:=bB hx;obtain⟨a,ys,rfl,h2,h3⟩:=h1.ag;exact eI pins s σ H _ us Q I r ⟨a,ys,rfl,.inr (dY.of h2),λl hl=>q _ _ (PR.o7 hl λA w=>ft.ar w.1 h2)⟩
  ·cases he;obtain⟨x,rfl,h1⟩:=bB hx;obtain⟨a,rfl,h2⟩:=h1.i6;exact eI pins s σ H _ us Q I r ⟨a,_,rfl,.inl h2,λl hl=>q _ _ (PR.o7 hl λA w=>hU)⟩
  ·cases he
 ·cases hr
 ·cases hr
 ·split at he
  ·split at he
   ·rename_i ds ps jC;obtain⟨g,he⟩:=aN he;cases he;obtain⟨x,rfl,h1⟩:=bB hx;obtain⟨a,ys,rfl,h2,h3⟩:=h1.ag;obtain⟨qs,g1,g2⟩:=oC jC h3;refine Mx.vN hc pins s σ H _ us Q I r ⟨a,ys,qs,rfl,h2,g1,?_,λp hp=>q _ _ ?_⟩
    ·rw[(fS jC g1 h3).1];exact Qr g
    ·have s':=Mx.bE hp (.dK (qs.map λp=>(.inr p.1,p.2)));refine⟨s',λA hA w=>?_,λ_ es e=>by cases e⟩;have sF:=ft.ar w.1 h2;refine RV.kl ax (λz=>?_) ?_ ?_
     ·obtain⟨o,e⟩:=hA p z;rw[hp]at e;cases e
     ·rw[RU,<-(fS jC g1 h3).1,RU];rfl
     ·have:=(fS jC g1 sF).2;rw[RU];exact this.same s'
   ·cases he
  ·cases he
end
structure Fm where
 K:Frag
 H0:Hp
 d0:Option Addr
 Ek:Nat->Prop
 P:Program
 w:World
structure Ow where
 W:Addr->Prop
 A:Addr->Prop
 dr:Option Addr
noncomputable def Ow.wd(o:Ow):Addr->Prop:=λa=>o.W a\/o.dr=some a
noncomputable def Ow.d(o:Ow):Addr->Prop:=λa=>o.dr=some a
noncomputable def OV(Φ:Fm)(o:Ow)(H:Hp)(v:V):Dt->Prop
 |.lst ds=>∃a xs,v= .ref a/\H a=some (.lst xs)/\o.A a/\¬o.W a/\o.dr≠some a/\Φ.H0 a=none/\ak Φ.K o.A H xs ds
 |.gg ks vs=>False
 |d=>RV Φ.K o.A H v d
structure ER(Φ:Fm)(Γ:Gm)(o:Ow)(ρ:aj)(S:Sx)(σ:L2.St)(H:Hp):Prop where
 len:σ.length=ρ.length
 wa:∀a,o.W a->o.A a
 da:∀a,o.dr=some a->o.A a
 al:∀a,o.A a->∃x,H a=some x
 val:∀(i:Nat)(d:Dt),ρ[i]?=some (some d)->∃v,σ[i]?=some (some v)/\(if fh Γ i=true then OV Φ o H v d else RV Φ.K o.A H v d)
 dk:∀(i:Nat)(ks vs:List Dt),ρ[i]?=some (some (.gg ks vs))->Γ.κ=some i
 inj:∀(i j:Nat)(a:Addr)(d e:List Dt),fh Γ i=true->fh Γ j=true->ρ[i]?=some (some (.lst d))->ρ[j]?=some (some (.lst e))->σ[i]?=some (some (.ref a))->σ[j]?=some (some (.ref a))->i=j
 drw:∀a,o.dr=some a->∃ns:List Int,S=some ns/\H a=some (.lst (ns.map V.int))
 drn:o.dr=none->S=none
 drs:∀(i:Nat)(a:Addr),Γ.δ=some i->o.dr=some a->σ[i]?=some (some (.ref a))
 dr0:∀a,o.dr=some a->Φ.d0=some a\/Φ.H0 a=none
 ent:aX (λb=>Φ.d0=some b) Φ.H0 H
section
variable{Φ:Fm}{Γ:Gm}{o:Ow}{ρ:aj}{S S':Sx}{σ:L2.St}{H H':Hp}
noncomputable def nD:Dt->Bool
 |.gg _ _=>false
 |_=>true
theorem OV.val{v:V}{d:Dt}(h:OV Φ o H v d)(nd:nD d=true)(wa:∀a,o.W a->o.A a)(da:∀a,o.dr=some a->o.A a):RV Φ.K o.wd H v d:=by
 have hw:∀b,o.wd b->o.A b:=λb z=>z.elim (wa b) (da b)
 cases d with
 |lst ds=>obtain⟨a,xs,rfl,h1,h2,h3,h4,_,h5⟩:=h;exact RV.dD h1 (λz=>z.elim h3 h4) (h5.weak hw)
 |gg=>cases nd
 |_=>exact RV.weak h hw
theorem OV.one{v:V}{d:Dt}(h:OV Φ o H v d)(nd:nD d=true):ft Φ.K o.A H v d:=by
 cases d with
 |lst ds=>obtain⟨a,xs,rfl,h1,h2,h3,h4,_,h5⟩:=h;exact⟨a,xs,rfl,h1,h5⟩
 |gg=>cases nd
 |_=>exact h
theorem OV.ext{v:V}{d:Dt}(h:OV Φ o H v d)(da:∀a,o.dr=some a->o.A a)(e:aX o.d H H'):OV Φ o H' v d:=by
 cases d with
 |lst ds=>obtain⟨a,xs,rfl,h1,h2,h3,h4,h6,h5⟩:=h;exact⟨a,xs,rfl,e.kp _ _ h1 h4,h2,h3,h4,h6,h5.mono e da λ_ z=>z⟩
 |gg=>exact h.elim
 |_=>exact RV.mono e da (λ_ z=>z) h
theorem Dk.set{κ:Option Nat}{i:Nat}{d:Dt}(h:∀(i:Nat)(ks vs:List Dt),ρ[i]?=some (some (.gg ks vs))->κ=some i)(nd:nD d=true):∀(j:Nat)(ks vs:List Dt),(ρ.set i (some d))[j]?=some (some (.gg ks vs))->κ=some j:=λj ks vs hj=>by
 by_cases e:j=i
 ·subst e;rw[RG]at hj;simp only[SI]at hj;split at hj
  ·cases hj;cases nd
  ·cases hj
 ·rw[QF (Sn e)]at hj;exact h j ks vs hj
theorem RV.nd{K:Frag}{A:Addr->Prop}{v:V}{d:Dt}(h:RV K A H v d):nD d=true:=by
 cases d with
 |gg=>unfold RV at h;exact h.elim
 |_=>rfl
theorem ER.nd(er:ER Φ Γ o ρ S σ H){i:Nat}{d:Dt}(h:ρ[i]?=some (some d))(n:Γ.κ≠some i):nD d=true:=by
 cases d with
 |gg ks vs=>exact absurd (er.dk i ks vs h) n
 |_=>rfl
theorem ER.gF(er:ER Φ Γ o ρ S σ H):∀b,o.wd b->o.A b:=λb z=>z.elim (er.wa b) (er.da b)
theorem ER.rH(er:ER Φ Γ o ρ S σ H):∀b,o.wd b->∃x,H b=some x:=λb z=>er.al b (er.gF b z)
theorem aX.al{X:Addr->Prop}(e:aX X H H'){b:Addr}{x:HO}(h:H b=some x)(hx:X b->∃y,H' b=some y):∃y,H' b=some y:=by
 by_cases z:X b
 ·exact hx z
 ·exact⟨x,e.kp _ _ h z⟩
theorem ER.step(er:ER Φ Γ o ρ S σ H)(e:aX o.d H H')(hd:∀a,o.dr=some a->∃ns:List Int,S'=some ns/\H' a=some (.lst (ns.map V.int)))(hn:o.dr=none->S'=none):ER Φ Γ o ρ S' σ H' where
 len:=er.len
 wa:=er.wa
 da:=er.da
 al:=λa ha=>by obtain⟨x,hx⟩:=er.al a ha;exact e.al hx λz=>by obtain⟨ns,_,h⟩:=hd a z;exact⟨_,h⟩
 val:=λi d h=>by
  obtain⟨v,h1,h2⟩:=er.val i d h;refine⟨v,h1,?_⟩;by_cases m:fh Γ i=true
  ·rw[SH m]at h2 ⊢;exact h2.ext er.da e
  ·rw[SF m]at h2 ⊢;exact h2.mono e er.da λ_ z=>z
 dk:=er.dk
 inj:=er.inj
 drw:=hd
 drn:=hn
 drs:=er.drs
 dr0:=er.dr0
 ent:=⟨λb x h n=>by
   refine e.kp _ _ (er.ent.kp b x h n) λz=>?_
   rcases er.dr0 b z with q|q
   ·exact n q
   ·(rw[h]at q;cases q),λb xs h=>e.tp _ _ (er.ent.tp b xs h)⟩
theorem ER.re{Φ':Fm}(e:Φ'={Φ with Ek:=Φ'.Ek})(er:ER Φ Γ o ρ S σ H):ER Φ' Γ o ρ S σ H:=by
 rw[e];refine⟨er.len,er.wa,er.da,er.al,λi d h=>?_,er.dk,er.inj,er.drw,er.drn,er.drs,er.dr0,er.ent⟩;obtain⟨v,h1,h2⟩:=er.val i d h;refine⟨v,h1,?_⟩;by_cases m:fh Γ i=true
 ·rw[SH m]at h2 ⊢;cases d<;>exact h2
 ·rw[SF m]at h2 ⊢;exact h2
theorem ER.grow(er:ER Φ Γ o ρ S σ H)(s:bu H H'):ER Φ Γ o ρ S σ H':=er.step (aX.of_same s) (λa h=>by
 obtain⟨ns,h1,h2⟩:=er.drw a h;exact⟨ns,h1,s _ _ h2⟩) er.drn
end
noncomputable def mR(Ek:Nat->Prop){α:Type}(r:R α)(P:α->Prop):Prop:=match r with
 |.ok a=>P a
 |.ex k=>Ek k
 |.bad=>False
section
variable{Ek:Nat->Prop}{α β:Type}
theorem ae{r:R α}{f:α->R β}{P:β->Prop}:mR Ek (r.bind f) P↔mR Ek r λa=>mR Ek (f a) P:=by cases r<;>rfl
theorem ah{r:R α}{P Q:α->Prop}(h:mR Ek r P)(hq:∀a,r= .ok a->P a->Q a):mR Ek r Q:=by
 cases r with
 |ok a=>exact hq a rfl h
 |ex k=>exact h
 |bad=>exact h
theorem aJ{b:Bool}{r:R α}{P:α->Prop}(h:mR Ek (af b r) P):b=true/\mR Ek r P:=by
 cases b with
 |true=>exact⟨rfl,h⟩
 |false=>exact h.elim
end
structure EO(K:Frag)(fr:Nat->Bool)(o:Ow)(c:C)(H:Hp)(d:Dt)(v:V)(H':Hp):Prop where
 ext:aX o.d H H'
 val:RV K o.wd H' v d
 mn:lk c=0->RV K o.A H' v d
 uX:lk c<=1->ft K o.A H' v d
 eD:fresh fr c=true->∀ds,d= .lst ds->∃a xs,v= .ref a/\H a=none/\H' a=some (.lst xs)/\ak K (λb=>o.wd b\/b=a) H' xs ds/\(lk c=0->ak K (λb=>o.A b\/b=a) H' xs ds)
structure Nt(K:Frag)(o:Ow)(cs:Cs)(H:Hp)(ds:List Dt)(vs:List V)(H':Hp):Prop where
 ext:aX o.d H H'
 val:ak K o.wd H' vs ds
 mn:lZ cs=0->ak K o.A H' vs ds
 uX:lZ cs<=1->mD K o.A H' vs ds
section
variable(Φ:Fm)(Γ:Gm)(F:FT)(fr:Nat->Bool)
inductive bL(c:C)(σ:L2.St)(H:Hp)(Q:VK):Prop
 |mk (o:Ow) (ρ:aj) (S:Sx) (e:ER Φ Γ o ρ S σ H) (m:mR Φ.Ek (ev F c ρ S) λp=>∀v H',EO Φ.K fr o c H p.1 v H'->ER Φ Γ o ρ p.2 σ H'->Q v H'):bL c σ H Q
inductive eV(c:C)(σ:L2.St)(H:Hp)(Q:Bool->Hp->Prop):Prop
 |mk (o:Ow) (ρ:aj) (S:Sx) (e:ER Φ Γ o ρ S σ H) (m:mR Φ.Ek (cW F c ρ S) λp=>∀H',aX o.d H H'->ER Φ Γ o ρ p.2 σ H'->Q p.1 H'):eV c σ H Q
inductive lz(cs:Cs)(σ:L2.St)(H:Hp)(Q:List V->Hp->Prop):Prop
 |mk (o:Ow) (ρ:aj) (S:Sx) (e:ER Φ Γ o ρ S σ H) (m:mR Φ.Ek (fU F cs ρ S) λp=>∀vs H',Nt Φ.K o cs H p.1 vs H'->ER Φ Γ o ρ p.2 σ H'->Q vs H'):lz cs σ H Q
inductive tR(cs:Cs)(σ:L2.St)(H:Hp)(Q:Bool->Hp->Prop):Prop
 |mk (o:Ow) (ρ:aj) (S:Sx) (e:ER Φ Γ o ρ S σ H) (m:mR Φ.Ek (c9 F cs ρ S) λp=>∀H',aX o.d H H'->ER Φ Γ o ρ p.2 σ H'->Q p.1 H'):tR cs σ H Q
end
structure Wk(K:Frag)(A X:Addr->Prop)(J:It)(H:Hp)(ds:List Dt):Prop where
 go:∀(i:Nat)(H1:Hp),i<ds.length->aX X H H1->J.go i H1
 stop:∀(H1:Hp),aX X H H1->J.stop ds.length H1
 yld:∀(i:Nat)(x:V)(H1 H2:Hp),i<ds.length->aX X H H1->J.yld i H1 x H2->bu H1 H2/\∃d,ds[i]?=some d/\∀B:Addr->Prop,(∀b,B b->A b\/H b=none)->RV K B H2 x d
structure IO(K:Frag)(o:Ow)(it:pW)(nl:Bool)(H:Hp)(ds:List Dt)(J:It)(H':Hp):Prop where
 ext:aX o.d H H'
 w1:vk it<=1->Wk K o.A o.d J H' ds
 w0:vk it=0->Wk K o.A o.A J H' ds
 w2:nl=true->Wk K o.A o.A J H' ds
inductive rj(Φ:Fm)(Γ:Gm)(F:FT)(it:pW)(σ:L2.St)(H:Hp)(Q:It->Hp->Prop):Prop
 |mk (o:Ow) (ρ:aj) (S:Sx) (e:ER Φ Γ o ρ S σ H) (m:mR Φ.Ek (fq F it ρ S) λp=>∀J H',IO Φ.K o it (jh F it ρ S) H p.1 J H'->ER Φ Γ o ρ p.2 σ H'->Q J H'):rj Φ Γ F it σ H Q
structure GX(g:G)(Γ:Gm)(X:Cx):Prop where
 N:X.N=Γ.N
 nd:Γ.N.Nodup
 vis:∀x,yJ (Γ.names.lookup x)=true->EK X.env.scope x
 loc:∀x,xl (Γ.names.lookup x)=true->Loc X.env.scope x/\(X.fn x=true\/X.env.scope.names.lookup x=some .local)
 gl:∀x,sE (Γ.names.lookup x)=true->Gl X x
 fre:∀x,(Γ.names.lookup x=some .cell\/Γ.names.lookup x=some .free)->(X.env.scope.names.lookup x=some .cell\/X.env.scope.names.lookup x=some .free)
 calm:X.calm=true
 un:X.A.units+150<cLine
 con:∀x d,g.cons.lookup x=some d->∃u,og d=true/\X.mg x=some u/\RelV (p6 d) u
 bl:∀x∈g.bls,X.mg x=none
structure FO(K:Frag)(W:Addr->Prop)(dr:Option Addr)(fr:Bool)(H:Hp)(d:Dt)(S':Sx)(v:V)(H':Hp):Prop where
 ext:aX (λb=>dr=some b) H H'
 val:RV K W H' v d
 drw:∀a,dr=some a->∃ns:List Int,S'=some ns/\H' a=some (.lst (ns.map V.int))
 eD:fr=true->∀ds,d= .lst ds->∃a xs,v= .ref a/\H a=none/\H' a=some (.lst xs)/\ak K (λb=>W b\/b=a) H' xs ds
noncomputable def Nj(K:Frag)(xv:Nat->Value)(F:List Dt->Sx->R (Dt×Sx))(np:Nat)(fr bj:Bool):Sp:=λvs H Q E=>
 vs.length=np/\∃(W:Addr->Prop)(dr:Option Addr)(args:List Dt)(S:Sx)(u6:List V),
  (if bj=true then∃(a:Addr)(ns:List Int),vs= .ref a::u6/\dr=some a/\W a/\S=some ns/\H a=some (.lst (ns.map V.int)) else vs=u6/\dr=none/\S=none)/\
  ak K W H u6 args/\(∀a,W a->∃x,H a=some x)/\
  match F args S with
  |.ok p=>∀v H',FO K W dr fr H p.1 p.2 v H'->Q v H'
  |.ex k=>∀H',aX (λb=>dr=some b) H H'->E (xv k) none H'
  |.bad=>False
noncomputable def jP(Φ:Fm)(xv:Nat->Value):XK:=λv _ H'=>∃k,v=xv k/\Φ.Ek k/\aX (λb=>Φ.d0=some b) Φ.H0 H'
structure FX(g:G)(xv:Nat->Value)(CX:jt)(P:Program)(w:World)(K:Frag)(mg:Str->Option Value)(base:Heap)(n k:Nat)(F:FT):Prop where
 fn:∀x f np fy bj,qt x g.fns=some (f,np,fy,bj)->∃(fa:Addr)(fd:FuncData)(ps:List Str),ps.length=np/\mg x=some (.ref fa)/\PySem.W.keepIn K (.ref fa)=true/\
  iN P w K mg base CX k fa fd ps (Nj K xv (F f) np (g.fr f) bj)/\(∀j,j<=fy.length->∃ds,aq ((fy.drop j).map p6) ds/\Binds K fd ps ds)/\fy.all og=true
end Rx
end
section
namespace L2
open PySem PySem.Spec PyProof.Rows
abbrev Co:List Value:=[.type "ValueError",.type "Exception",.type "BaseException",.type "object"]
theorem xw{K:PySem.W.Frag}{h h':Heap}{N:Addr}{m:Str->Option Value}(X:K.In h)(X':K.In h')(ok:PySem.W.nsOkIn K N=true)(G:h.Ns N m):h'.Ns N m:=by
 unfold PySem.W.nsOkIn at ok;split at ok
 ·rename_i lk;obtain⟨ob,es,ep,e1,rest⟩:=G;have e2:=X _ _ lk;rw[e1]at e2;cases e2;exact⟨_,es,ep,X' _ _ lk,rest⟩
 ·cases ok
theorem ux{K:PySem.W.Frag}{C:Addr}{Bh:List Value}{newId:String}{h:Heap}(X:K.In h)(q:PySem.W.excIn K C Bh newId=true):
  ∃(bm:List Value)(ns:Addr)(nm qn:Str)(bs:List Value)(hd:Bool)(sn:List Str)(sub:List Value)(ab:Bool)(col:Option Bool)(dd:Option Addr)(k0 k1 k2 k3 k5:Option Value)(mN:Str->Option Value),mN "__init__"=none/\
   ∀h':Heap,K.In h'->h'.get? C=some (excClassObj nm qn C ns bs bm hd sn sub ab col dd k0 k1 k2 k3 k5 newId)/\h'.Ns ns mN/\OwnTail h' Bh bm:=by
 unfold PySem.W.excIn at q;split at q
 ·rename_i ID cdt LK K5;split at q
  ·rename_i D tl s0 s1 s2 s3 idn s5 em es;rw[Qp,Qp,Qp,Qp,Qp]at q;obtain⟨⟨⟨⟨⟨q1,q2⟩,q3⟩,q4⟩,q5⟩,q6⟩:=q;have d1:D=C:=QL q1;have d2:idn=newId:=QL q2;have d3:cdt.hasDel=false:=by simpa using q3
   have d6:=QL q6;subst d1 d2;cases cdt with
   |mk nm bs mro ns qn hd sn sub ab col del=>
    have e1:mro=Value.ref D::tl:=em;have e2:del=false:=d3;subst e1 e2;have e3:LK=#[s0,s1,s2,s3,some (Value.builtin idn),s5]:=by
     cases LK with
     |mk l=>have e:l=_:=es;rw[e]
    subst e3;refine⟨tl,ns,nm,qn,bs,hd,sn,sub,ab,col,ID,s0,s1,s2,s3,s5,h.nsMap ns,PySem.W.nsMap_none_of_in X q5 d6,λh' X'=>⟨X' _ _ K5,?_,PySem.W.tail_of_in X' q4⟩⟩;exact xw X X' q5 (Heap.Ns.of_isNs (PySem.W.isNs_of_in X q5))
  ·cases q
 ·cases q
noncomputable def PM(X:Cx)(e:Expr)(p:St->Prop):Prop:=∀(pins:List (Addr×Obj))(s:Shared)(σ:St)(H:Hp)(Q:Value->Shared->Prop),Inv X pins σ H s->p σ->(∀u s',s'.heap=s.heap->Inv X pins σ H s'->Q u s')->wpAny (model X.prog X.w) X.A (eval e X.env) Q X.xe s
noncomputable def Fg(X:Cx)(e:Expr)(p:St->Prop):Prop:=∀(pins:List (Addr×Obj))(s:Shared)(σ:St)(H:Hp)(Q:Value->Shared->Prop),Inv X pins σ H s->p σ->(∀(y:Str)t s',y.length<=1000->s'.heap=s.heap->Inv X pins σ H s'->Q (.str y t) s')->wpAny (model X.prog X.w) X.A (eval e X.env) Q X.xe s
noncomputable def Fh(X:Cx)(es:List Expr)(p:St->Prop):Prop:=∀(out:Str)(pins:List (Addr×Obj))(s:Shared)(σ:St)(H:Hp)(Q:Value->Shared->Prop),Inv X pins σ H s->p σ->out.length+1000*es.length<=sizeLine->(∀u s',s'.heap=s.heap->Inv X pins σ H s'->Q u s')->
 wpAny (model X.prog X.w) X.A (joinParts out (evalEach es X.env)) Q X.xe s
theorem pK{X:Cx}{pins:List (Addr×Obj)}{σ:St}{H:Hp}{s:Shared}(I:Inv X pins σ H s)(k:Nat):Inv X pins σ H {s with toks:=k}:=I.tok k
section
variable{X:Cx}
theorem DR{x:Str}{j pos}{p:St->Prop}:PM X (.Constant (.str x) j pos) p:=λpins s σ H Q I _ q=>Calls.Constant_str (q _ _ rfl (I.tok _))
theorem Az{x:Str}{j pos}{p:St->Prop}(h:x.length<=1000):Fg X (.Constant (.str x) j pos) p:=λpins s σ H Q I _ q=>Calls.Constant_str (q _ _ _ h rfl (I.tok _))
theorem kN(n:Nat)(h:n<10^19):(Str.ofString (toString (n:Int))).length<=1000:=by
 have e:=int_text_length_le10 (a:=(n:Int)) (k:=19) (by decide) ⋯;rw[PySem.ofString_length]
 lia
theorem log2_small{n:Nat}(h:n<10^19):((n:Int)).natAbs.log2<1920:=by
 have e:((n:Int)).natAbs=n:=rfl;rw[e];by_cases hz:n=0
 ·subst hz;decide
 ·have:=(Nat.log2_lt hz (k:=1920)).mpr (QJ h (by decide +kernel));exact this
theorem AA{i:Nat}{x:Str}{pos CJ:Pos}(hN:X.N[i]?=some x)(hv:EK X.env.scope x)(hd:(x==("__debug__":Str))=false)(vf:(x==("__classdict__":Str))=false):Fg X (.FormattedValue (.Name x pos) (-1) none CJ) (λσ=>∃n:Nat,σ[i]?=some (some (.int n))/\n<10^19):=by
 intro pins s σ H Q I ⟨n,h1,h2⟩ q;obtain⟨m,hn,hl⟩:=I.loc;obtain⟨u,r,l⟩:=hl i x _ hN h1 hv;obtain⟨t,rfl⟩:=r;have fin:wpAny (model X.prog X.w) X.A (formatField (.int n t) Str.empty) Q X.xe s:=formatField_int_small (log2_small h2) (q _ _ _ (kN n h2) rfl (pK I _));rcases l with ⟨hk,hm⟩|⟨hk,c,hc,oN⟩
 ·exact FormattedValue_plain (wpAny_Name (wpAny_loadName_local I.ok.kind hk hn hm fin) hd)
 ·rcases hk with hk|hk
  ·exact FormattedValue_plain (wpAny_Name (wpAny_loadName_cell I.ok.kind hk hc oN fin) hd)
  ·exact FormattedValue_plain (wpAny_Name (wpAny_loadName_free I.ok.kind hk hc oN fin vf) hd)
theorem xS{n:Nat}{u:Value}{x:Str}{pos CJ:Pos}{p:St->Prop}(hg:Gl X x)(hm:X.mg x=some u)(r:RelV (.int n) u)(h2:n<10^19)(hd:(x==("__debug__":Str))=false):Fg X (.FormattedValue (.Name x pos) (-1) none CJ) p:=by intro pins s σ H Q I _ q;obtain⟨t,rfl⟩:=r;exact FormattedValue_plain (hZ I hg hm (formatField_int_small (log2_small h2) (q _ _ _ (kN n h2) rfl (pK I _))) hd)
theorem AB{p:St->Prop}:Fh X [] p:=λout pins s σ H Q I _ hl q=>joinParts_nil (q _ _ rfl (I.tok _)) (by simpa using hl)
theorem xT{e:Expr}{es:List Expr}{p:St->Prop}(he:Fg X e p)(ht:Fh X es p)(hs:evalEach (e::es) X.env=eval e X.env::evalEach es X.env):Fh X (e::es) p:=by intro out pins s σ H Q I hp hl q;rw[hs];refine joinParts_cons (he pins s σ H _ I hp λy t s' hy hh I'=>?_);have e1:(out++y).length=out.length+y.length:=strLen_append ..;rw[QG]at hl;refine⟨by rw[e1];lia,ht (out++y) pins s' σ H Q I' hp (by rw[e1];lia) λu s'' h2 I2=>q u s'' (h2.trans hh) I2⟩
theorem uR{e1 e2:Expr}{es:List Expr}{p:St->Prop}{pos:Pos}(h:Fh X (e1::e2::es) p)(hl:(e1::e2::es).length<=100):PM X (.JoinedStr (e1::e2::es) pos) p:=by intro pins s σ H Q I hp q;have hz:Str.empty.length=0:=rfl;have wV:=SQ;exact JoinedStr_many (h Str.empty pins s σ H Q I hp ⋯ q)
end
noncomputable def Ei(cls:Value)(E:XK)(p:St->Prop):TS:=λ_ σ H=>p σ/\E cls none H
section
variable{X:Cx}{E:XK}{C:Addr}{c:Str}{arg:Expr}{p:St->Prop}{np cP pos:Pos}
theorem Am{N:Nat}{H:Hp}{h h':Heap}{a:Addr}{cls:Value}{args:List Value}(hN:N<=h.objs.size)(fresh:∀b,h.objs.size<=b->H b=none)(dd:Mx.Dd h h')(m:Heap.MadeExcOf h h' a cls args):gI N cls a H h':=by
 obtain⟨t,e1,e2,e3⟩:=m.there;have ge:h.objs.size<=a:=by
  rcases Nat.lt_or_ge a h.objs.size with hl|hl
  ·have:=dd.none a hl m.new;rw[e1]at this;cases this
  ·exact hl
 refine⟨Qz hN ge,fresh a ge,⟨_,_,e1,⟨rfl,rfl⟩,rfl,.inl rfl⟩,λT z=>?_⟩;obtain⟨o,vs,z1,z2,z3⟩:=z;rw[e1]at z1;cases z1;cases z2;cases z3
theorem xX(hh:X.A.handled=none)(BC:X.pn=[])(hg:Gl X c)(hm:X.mg c=some (.ref C))(hC:PySem.W.excIn X.K C Co "ValueError.__new__"=true)(hx:∀e s',iK X E e s'->X.xe e s')(he:PM X arg p)
  (lU:starEach [arg] X.env=[(false,eval arg X.env)]) (oQ:(c==("__debug__":Str))=false):PS X (.Raise (some (.Call (.Name c np) [arg] [] cP)) none pos) (Ei (.ref C) E p):=by
 intro pins s σ H D I h;obtain⟨h1,h2⟩:=h;obtain⟨bm,ns,nm,qn,bs,hd,sn,sub,ab,col,dd,k0,k1,k2,k3,k5,mN,OF,F⟩:=ux I.jF hC;have T0:=(F _ I.jF).2.2;have g0:bm.contains (.type "BaseException")=true:=T0.hasType PySem.F.excBase_ValueError.hasBase;have eL:(backTo cP (starEach [arg] X.env)).any (·.1)=false:=by rw[lU];rfl
 refine Mx.lC (SY (Q:=λ_ _=>False) (E:=λe s'=>X.xe e s'\/∃s2 a args,e= .ref a/\s2.heap=s.heap/\Inv X pins σ H s2/\s'={s2 with heap:=s'.heap}/\Heap.MadeExcOf s2.heap s'.heap a (.ref C) args) ?_ (λ_ _ z=>z.elim) λe s' z hd=>?_)
 ·refine wpAny_Raise_call_subT (C:=C) (nm:=nm) (q:=qn) (N:=ns) (bs:=bs) (bm:=bm) (hdct:=hd) (sn:=sn) (sub:=sub) (ab:=ab) (col:=col) (dd:=dd) (k0:=k0) (k1:=k1) (k2:=k2) (k3:=k3) (k5:=k5) PySem.F.excBase_ValueError g0 hh eL OF (hZ I hg hm ⟨rfl,?_⟩ oQ);rw[lU];refine Calls.evalArgs_plain ?_;refine Calls.spliced_cons (SY (he pins s σ H (λu s'=>s'.heap=s.heap/\Inv X pins σ H s') I h1 λu s' a b=>⟨a,b⟩) (λu s1⟨zP,I1⟩=>?_) λ_ _ z=>.inl z);refine Calls.spliced_nil ⟨rfl,(by show 1<=sizeLine;decide),(F _ I1.jF).1,(F _ I1.jF).2.1,(F _ I1.jF).2.2,λh' e m=>.inr ⟨s1,e,_,rfl,zP,I1,rfl,m⟩⟩
 ·rcases z with z|⟨s2,a,args,rfl,On,I2,hs,m⟩
  ·exact z
  ·rw[hs];refine hx _ _ ⟨σ,H,a,.ref C,rfl,?_,?_,h2⟩
   ·exact(I2.kept (t':=s2.toks) (h':=s'.heap) m.keeps).fW λp hp=>by cases hp
   ·exact Am I2.sz (λb hb=>I2.hok.fresh hb) (by rw[On];exact hd) m
end
structure vt(K:PySem.W.Frag)(D:Addr):Prop where
 ga:PySem.W.findIn K (.ref D) "__getattribute__"=some (some (.builtin "BaseException.__getattribute__"))
 na:PySem.W.findIn K (.ref D) "__getattr__"=some none
 sb:PySem.W.subIn K (.ref D) (.type "BaseException")=some true
 fi:PySem.W.findIn K (.ref D) "__class__"=some (some (.builtin "object.__class__"))
 sp:PySem.W.specialIn K (.builtin "object.__class__") "__get__"=some (some (.builtin "getset_descriptor.__get__"))
 tk:PySem.W.takesIn K (.builtin "object.__class__")=some true
 mr:PySem.W.mroIn K D (.type "object")=some true
theorem zE{K:PySem.W.Frag}{D:Addr}{Bh:List Value}{newId:String}(q:PySem.W.excIn K D Bh newId=true):∃c dd cd sl,K.lookup D=some ⟨c,dd,.cls cd,sl⟩:=by
 unfold PySem.W.excIn at q;split at q
 ·rename_i K5;exact⟨_,_,_,_,K5⟩
 ·cases q
theorem FH:(Value.builtin "BaseException.__getattribute__"==Value.builtin "object.__getattribute__")=false:=by decide +kernel
theorem wy{prog:Program}{w:World}{A:Around}{E:Value->Shared->Prop}{s:Shared}{x D:Addr}{sY:Value}{Q:Unit->Shared->Prop}(L:PySem.W.Looks (model prog w) s.heap (isInstance (.ref x) (.type "BaseException")) true)(hq:Q () s):wpAny (model prog w) A (checkBuiltinCall "BaseException.__getattribute__" ⟨[.ref x,sY],[]⟩) Q E s:=by
 have hk:builtinKind "BaseException.__getattribute__"=some .slot:=by decide +kernel
 have C6:splitId "BaseException.__getattribute__"=some ("BaseException","__getattribute__"):=by decide +kernel
 have ha:=F.args_bexc_ga (.ref x) sY;simp only[checkBuiltinCall,hk,C6];refine Ql (L.at ?_);simp only[Bool.not_true,Re,SE];cases hsig:Manifest.signature? "BaseException.__getattribute__" with
 |none=>exact Qo hq
 |some sig=>simp only[argsOk,hsig]at ha;show wpAny _ A (Bind.checkArgs "BaseException.__getattribute__" sig ⟨[.ref x,sY],[]⟩) _ _ s;rw[show Bind.checkArgs "BaseException.__getattribute__" sig ⟨[.ref x,sY],[]⟩=pure () from ha];exact Qo hq
theorem uw{K:PySem.W.Frag}{x D:Addr}{ox:Obj}(k:vt K D){cd:ClassData}(hc:PySem.W.clsIn K D=some cd){prog:Program}{w:World}{A:Around}{E:Value->Shared->Prop}{Q:Option Value->Shared->Prop}{s:Shared}(X:K.In s.heap)(I:PySem.W.InstAt s.heap x ox D none)(q:Q (some (.ref D)) {s with toks:=s.toks+1}):
  wpAny (model prog w) A (getAttr? (.ref x) "__class__") Q E s:=by
 have hf:PySem.W.findObj K D none "__class__"=some (.bind (.builtin "getset_descriptor.__get__") (.builtin "object.__class__")):=by unfold PySem.W.findObj;rw[hc,Option.bind_some,k.fi,Option.bind_some];simp[k.sp,k.tk]
 have L0:=I.type (M:=model prog w);have L1:=PySem.W.looks_findIn (M:=model prog w) X k.ga;have L2:=PySem.W.looks_findIn (M:=model prog w) X k.na;have L3:=PySem.W.looks_find (M:=model prog w) X I hf;have L4:PySem.W.Looks (model prog w) s.heap (isInstance (.ref x) (.type "BaseException")) true:=L0.andThen (PySem.W.looks_subIn (M:=model prog w) X k.sb);obtain⟨hh,g,d,t,os⟩:=s;unfold getAttr? getAttrBy? getAttrBy;refine Ql (wpAny_mkText (Ql (wpAny_attempt (SX (Ql (L0.at (Ql (L1.at ?_))))))));simp only[FH,Ra,Re,SE];unfold getAttrByItsOwn;refine Ql ?_;show wpAny _ _ (typeLookup (.ref D) "__getattr__") _ _ _;refine L2.at ?_;refine Ql (wpAny_attempt (SX ?_));show wpAny _ _ (boundAndCalled _ _ _) _ _ _;unfold boundAndCalled;refine Ql (wpAny_of_eq (F.excAttr_ValueError.ga.bind (.ref x)) ?_);refine wpAny_call (codeAny_call_builtin F.excAttr_ValueError.ga.plain F.entry_bexc_ga (wy (D:=D) L4 ?_));unfold Builtin.«object.__getattribute__»;refine Ql (Qo (Ql (Qo (Ql (L0.at (Ql (L3.at ?_)))))));show wpAny _ _ (holding [.builtin "object.__class__"] (call (.builtin "getset_descriptor.__get__") [.builtin "object.__class__",.ref x,.ref D]) >>=ret) _ _ _;refine Ql (SX (wpAny_call (PySem.W.class_get (ox:=ox) (od:=none) X I k.mr ?_)));refine Qo ?_;show wpAny _ _ (handedOut (.ref D)) _ _ _;exact PySem.W.handed_on rfl (Qo q)
theorem xc{K:PySem.W.Frag}{x D:Addr}{ox:Obj}{Bh:List Value}{newId:String}(hq:PySem.W.excIn K D Bh newId=true)(k:vt K D):PySem.W.KitX K (.ref x) (.ref D) (λh=>PySem.W.InstAt h x ox D none):=by
 obtain⟨c0,PX,cd,Qj,lk⟩:=zE hq;have hc:PySem.W.clsIn K D=some cd:=by unfold PySem.W.clsIn;rw[lk]
 refine⟨λM h _ I=>I.type,λM h X _=>?_,λh tp dd its n sl X htp=>?_,λ {prog w A E Q s} X I q=>uw k hc X I q⟩
 ·intro A' Q' E' s' kk q;unfold isType loadHead;exact Ql (wpAny_loadPart (kk _ _ (X _ _ lk)) (Qo q))
 ·refine Bool.eq_false_iff.mpr λq=>?_
  have e:D=tp:=by have:=QL q;cases this;rfl
  rw[<-e,X _ _ lk]at htp;cases htp
noncomputable abbrev Cx.hand(X:Cx)(a:Addr)(o:Obj):Cx:={X with A:=X.A.mark (some (.ref a)),calm:=false,pn:=[(a,o)],xe:=λ_ _=>False}
structure mE(X:Cx)(D a:Addr)(o:Obj):Prop where
 cls:o.cls= .ref D
 ID:o.dict=none
 dat:∃vs,o.data= .fields vs
section
variable{X:Cx}{σ:St}{H:Hp}{s:Shared}{D a:Addr}{o:Obj}
theorem Inv.hand(BC:X.pn=[])(I:Inv X [] σ H s)(F:gI X.s₀.heap.objs.size (.ref D) a H s.heap)(ho:s.heap.get? a=some o)(xr:mE X D a o):Inv (X.hand a o) [] σ H s:=by
 obtain⟨vs,hd⟩:=xr.dat;refine⟨⟨I.ok.mod,I.ok.kind,I.ok.glob,I.ok.blt,I.ok.above,I.ok.inj,I.ok.has,I.ok.yW,(λz=>by cases z),I.ok.frames,I.ok.AX,I.ok.Bq,I.ok.bs,I.ok.vH,I.ok.lp,I.ok.mW,I.ok.gq,I.ok.zH⟩,I.os,I.bare,I.base,I.loc,I.cell,I.free,I.cT,λp hp=>?_,I.hok,I.len⟩;have e:p=(a,o):=by simpa using hp
 subst e;refine⟨ho,F.nH,λz=>?_,λz=>?_,λv q=>by rw[hd]at q;cases q⟩
 ·obtain⟨m,⟨o',es,ep,h1,h2,_⟩,_⟩:=I.loc;have z:a=X.env.locals:=z;rw[<-z,ho]at h1;cases h1;rw[hd]at h2;cases h2
 ·obtain⟨_,o',oR,IQ⟩:=I.ok.gq.mem z;have:=F.ge;have cU:=Qy oR;exact absurd (QJ cU this) (Sg _)
theorem Inv.Er(BC:X.pn=[])(I:Inv (X.hand a o) [] σ H s)(hc:X.calm=true->X.A.handled=none):Inv X [] σ H s:=
 ⟨⟨I.ok.mod,I.ok.kind,I.ok.glob,I.ok.blt,I.ok.above,I.ok.inj,I.ok.has,I.ok.yW,hc,I.ok.frames,I.ok.AX,I.ok.Bq,I.ok.bs,I.ok.vH,I.ok.lp,I.ok.mW,I.ok.gq,I.ok.zH⟩,I.os,I.bare,I.base,I.loc,I.cell,I.free,I.cT,(λp hp=>(by rw[BC]at hp;cases hp)),I.hok,I.len⟩
theorem sO(I:Inv (X.hand a o) [] σ H s)(xr:mE X D a o):PySem.W.InstAt s.heap a o D none:=by obtain⟨vs,hd⟩:=xr.dat;refine⟨(I.pin (a,o) (by simp)).1,xr.cls,by unfold PySem.W.notCls;rw[hd],?_⟩;rw[xr.ID];trivial
end
noncomputable def WX(X:Cx)(σ0:St)(XE:Value->Hp->Prop)(e:Value)(s':Shared):Prop:=∃H' a cls,e= .ref a/\Inv X [] σ0 H' s'/\gI X.s₀.heap.objs.size cls a H' s'.heap/\XE cls H'
noncomputable def IA(X:Cx)(st:Stmt)(t:TS):Prop:=∀(s:Shared)(σ:St)(H:Hp)(D:Ends),Inv X [] σ H s->t D σ H->wpAny (model X.prog X.w) X.A (exec st X.env) (SP X [] D) X.xe s
noncomputable def mB(X:Cx)(st:List Stmt)(t:TS):Prop:=∀(s:Shared)(σ:St)(H:Hp)(D:Ends),Inv X [] σ H s->t D σ H->wpAny (model X.prog X.w) X.A (execs st X.env) (SP X [] D) X.xe s
theorem DT{X:Cx}{st:Stmt}{t:TS}(h:PS X st t):IA X st t:=λs σ H D=>h [] s σ H D
theorem AE{X:Cx}{st:List Stmt}{t:TS}(h:oj X st t):mB X st t:=λs σ H D=>h [] s σ H D
theorem uT{X:Cx}{st:Stmt}{rest:List Stmt}{t u:TS}(h1:IA X st t)(h2:mB X rest u):mB X (st::rest) (HQ t u):=by
 intro s σ H D I hq;refine wpAny_execs_cons (bN (h1 s σ H {D with nx:=u D} I hq) λf s1 z=>?_);cases f with
 |next=>obtain⟨σ1,H1,I1,q1⟩:=z;exact h2 s1 σ1 H1 D I1 q1
 |brk=>exact z
 |cont=>exact z
 |ret v=>exact z
section
variable{X:Cx}{σ:St}{H:Hp}{s:Shared}
theorem Inv.vB{h':Heap}{m:Str->Option Value}{tk:Nat}(BC:X.pn=[])(I:Inv X [] σ H s)(hn:h'.Ns X.env.locals m)(sb:Heap.SameBut X.env.locals s.heap h'):Inv X [] (List.replicate X.N.length none) H {s with heap:=h',toks:=tk}:=by
 have old:∀b o,X.s₀.heap.get? b=some o->b≠X.env.locals:=λb o e=>QT (QJ (Qy e) I.ok.above)
 have nc:∀y c,X.env.cells.lookup y=some c->c≠X.env.locals:=λy c e z=>by obtain⟨v,o,ho,hd⟩:=I.cell y c e;obtain⟨m',⟨o',es,ep,h1,h2,_⟩,_⟩:=I.loc;rw[z,h1]at ho;cases ho;rw[hd]at h2;cases h2
 refine⟨I.ok,I.os,I.bare,⟨λb o e n hb hx=>(sb.2 b (old b o e)).trans (I.base.keep b o e n hb hx),λb o e n hb hx=>?_,I.base.free,λb o e hx=>?_,I.base.tups,I.base.frzs,I.base.tbls⟩,⟨m,hn,λi x v h1 h2=>?_⟩,λy c e=>?_,I.free,I.cT,λp hp=>?_,?_,RN⟩
 ·obtain⟨sl,q⟩:=I.base.slot b o e n hb hx;exact⟨sl,(sb.2 b (old b o e)).trans q⟩
 ·obtain⟨o',q⟩:=I.base.there b o e hx;exact⟨o',(sb.2 b (old b o e)).trans q⟩
 ·rw[RF]at h2;split at h2<;>cases h2
 ·obtain⟨v,o,ho,hd⟩:=I.cell y c e;exact⟨v,o,(sb.2 c (nc y c e)).trans ho,hd⟩
 ·rw[BC]at hp;cases hp
 ·intro b u e;refine(I.hok b u e).ly (λc v hc q=>?_) (λ_ q=>q) λ_ _ q=>q
  refine(sb.2 c λz=>?_).trans q;subst z;rcases hc with rfl|hc
  ·rw[I.free]at e;cases e
  ·rw[I.free]at hc;cases hc
theorem Lb{a:Addr}:(Value.ref a)≠byPass:=by intro q;cases q
variable{tb:St->(Value->Hp->Prop)->TS}{th:Addr->Addr->Obj->TS}{ok:Addr->Prop}{t:Str}{c:Value}{tp hpos pos:Pos}{body iF:List Stmt}{b0:Stmt}
theorem Eo{XE:Value->Hp->Prop}{D:Ends}{nm:Option Str}{Q:Flow->Shared->Prop}(st:ff X)(hg:Gl X t)(hm:X.mg t=some c)(oQ:(t==("__debug__":Str))=false)
  (hx:∀C,ok C->PySem.W.exmOne X.K (.ref C) c=some true) (Ob:∀cls H',XE cls H'->∃C,cls= .ref C/\ok C)
  (go:∀H' a C s1,XE (.ref C) H'->Inv X [] σ H' s1->gI X.s₀.heap.objs.size (.ref C) a H' s1.heap->(∃T,dc s1.heap a T)->
   codeAny (model X.prog X.w) (X.A.mark (some (.ref a))) (.handlers (.ref a) [.ExceptHandler none nm (b0::iF) hpos] X.env) (λr s₂=>match r with
     |.ok f=>(match nm with
      |none=>Q f s₂
      |some n=>wpAny (model X.prog X.w) X.A (do bindName X.env n .none;unbindBehindTheSuite X.env n hpos) (λ_ s₃=>Q f s₃) X.xe s₂)
     |.error x=>cameBackBy (model X.prog X.w) X.A X.env X.xe x s₂) s1)
  {e:Value} {s1:Shared} (w:WX X σ XE e s1):wpAny (model X.prog X.w) X.A (noteFrame e X.env) (λ_ s₂=>wpAny (model X.prog X.w) X.A (setFlight e none) (λ_ s₃=>wpAny (model X.prog X.w) X.A (handleBy e X.env [.ExceptHandler (some (.Name t tp)) nm (b0::iF) hpos]) Q X.xe s₃) X.xe s₂) X.xe s1:=by
 obtain⟨H',a,cls,rfl,I1,F1,hE⟩:=w;obtain⟨C,rfl,hok⟩:=Ob cls H' hE;obtain⟨hp,fz,kr,L,e1,e2,e3⟩:=st;have pZ:=I1.ok.frames;have hl:=I1.stack;rw[e1]at pZ hl;refine sv pZ hl e2 e3 F1 (λb hb=>I1.hok.fresh hb) λh2 x2 f2 t2=>?_
 rw[<-e1]at x2;have I2:=I1.EH hp F1 x2;refine d5 (fs:=eD X.stack) f2 t2 λh3 x3 f3 t3=>?_
 have I3:=I2.EH hp f2 x3;obtain⟨o,vs,ho,⟨Kp,kW⟩,hd,_⟩:=id f3.obj;have xr:mE X C a o:=⟨Kp,kW,vs,hd⟩;have Iq:=I3.hand hp f3 ho xr;have ia:=sO Iq xr;refine wpAny_handleBy_cons (codeAny_handlers_test (hZ (X:=X.hand a o) Iq hg hm ?_ oQ)) Lb;exact(PySem.W.exm_one (M:=model X.prog X.w) I3.jF ia.type (hx C hok)).here (go H' a C _ hE I3 f3 t3)
end
section
variable{X:Cx}{E:XK}{tb:TS}{t:Str}{c:Value}{tp hpos pos:Pos}{body iF:List Stmt}{b0:Stmt}{i:Nat}{n:Str}{D:Ends}
theorem A5(st:ff X)(F4:X.calm=true->X.A.handled=none)(hg:Gl X t)(hm:X.mg t=some c)(oQ:(t==("__debug__":Str))=false)
  (hN:X.N.Nodup) (hi:X.N[i]?=some n) (hl:X.env.scope.names.lookup n=some .local) (hb:oj (X.cQ (iK X E)) body tb)
  (hh:∀cls H',E cls none H'->∃C,cls= .ref C/\PySem.W.exmOne X.K (.ref C) c=some true/\∀a o,mE X C a o->∃th,oj (X.hand a o) (b0::iF) th/\∀σ,σ[i]?=some (some (.ref a))->σ.length=X.N.length->th {nx:=λ_ _=>False,rt:=D.rt} σ H')
  {s:Shared} {σ:St} {H:Hp} (I:Inv X [] σ H s) (h:tb D σ H):
  wpAny (model X.prog X.w) X.A (exec (.Try body [.ExceptHandler (some (.Name t tp)) (some n) (b0::iF) hpos] [] [] pos) X.env) (SP X [] D) X.xe s:=by
 refine wpAny_Try_except (SY (hb [] s σ H D (I.cQ _) h) (λf s1 z=>?_) λe s1 w=>?_)
 ·have z':=z.dW;cases f with
  |next=>exact wpAny_execs_nil z'
  |brk=>exact z'
  |cont=>exact z'
  |ret v=>exact z'
 ·obtain⟨σ1,H1,a1,JU,e1,I1,F1,E1⟩:=w;refine Eo (X:=X) (σ:=σ1) (ok:=λC=>PySem.W.exmOne X.K (.ref C) c=some true) (XE:=λcls H'=>E cls none H') (nm:=some n) (D:=D) st hg hm oQ (λC h=>h) (λcls H' z=>?_) (λH' a C s2 hE I2 f2 t2=>?_) ⟨H1,a1,JU,e1,I1,F1,E1⟩
  ·obtain⟨C,e,k,_⟩:=hh cls H' z;exact⟨C,e,k⟩
  ·obtain⟨C',eC,_,KJ⟩:=hh _ H' hE;cases eC;refine codeAny_handlers_suite_as (d5 (fs:=eD X.stack) f2 t2 λh3 x3 f3 t3=>?_);have I3:=I2.EH st.pn f2 x3;obtain⟨o,vs,ho,⟨Kp,kW⟩,hd,_⟩:=id f3.obj;have xr:mE X C a o:=⟨Kp,kW,vs,hd⟩;have Iq:=I3.hand st.pn f3 ho xr;refine kM (X:=X.hand a o) (v:=.ref a) Iq hN hi (.inl hl) rfl (λs4 I4=>?_) (.inr hl);obtain⟨th,hs,KJ⟩:=KJ a o xr;have hlen:i<σ1.length:=by rw[I1.len];exact(Qs.mp hi).1
   refine SY (hs [] _ _ H' _ I4 (KJ _ (by simp[hlen]) (by rw[RP];exact I1.len))) (λf s5 z=>?_) λ_ _ z=>z.elim
   cases f with
   |next=>obtain⟨σ',Ip,I',q⟩:=z;exact q.elim
   |brk=>obtain⟨σ',Ip,I',q⟩:=z;exact q.elim
   |cont=>obtain⟨σ',Ip,I',q⟩:=z;exact q.elim
   |ret u=>obtain⟨v,σ',Ip,I',r,q⟩:=z;have I5:=I'.Er st.pn F4;obtain⟨m5,Gj,_⟩:=id I5.loc;have CV:X.env.scope.kind= .function:=I5.ok.kind;refine wpAny_nameGoes hl Gj (by rw[CV];rfl) λh6 m6 hn6 sb6=>⟨v,_,Ip,I5.vB st.pn hn6 sb6,r,q⟩
theorem xH{C a:Addr}{o:Obj}{x y:Str}{v:V}{b:Bool}{p p1 p2:Pos}{Bh:List Value}{newId:String}(xr:mE X C a o)(hq:PySem.W.excIn X.K C Bh newId=true)(k:vt X.K C)(Om:Gl X "isinstance")(OA:X.mg "isinstance"=none)(hx:PE (X.hand a o) (.Name x p1) (jq i))(hv:PE (X.hand a o) (.Name y p2) (tC v))(hr:∀u,RelV v u->u=c)(e:PySem.W.kitOne X.K (.ref C) c=some b):
  PE (X.hand a o) (.Call (.Name "isinstance" p) [.Name x p1,.Name y p2] [] pos) (λσ H Q=>σ[i]?=some (some (.ref a))/\Q (.bl b) H):=by
 have hc:dw (X.hand a o) (.builtin "isinstance") (λxs H Q=>xs=[.ref a,v]/\Q (.bl b) H):=by
  intro pins s σ H xs us Q I r ⟨e1,q⟩;subst e1;obtain⟨u1,u2,rfl,r1,r2⟩:=r.two;cases r1;have:=hr _ r2;subst this;have I0:=I.fW (pins':=[]) λp hp=>by cases hp
  exact Sy (xc hq k) I.jF (sO I0 xr) e (by intro z;cases z) λtk=>⟨.bl b,H,I.tok tk,rfl,q⟩
 intro pins s σ H Q I ⟨h1,h2⟩;exact kA (X:=X.hand a o) hc Om OA PyProof.Rows.boot_isinstance (bR hx (bR hv dR)) (by decide) (by decide) rfl rfl pins s σ H Q I ⟨_,h1,rfl,h2⟩
end
theorem CH{CX:jt}{P:Program}{w:World}{K:PySem.W.Frag}{mg:Str->Option Value}{base:Heap}{k:Nat}{f:Addr}{name qual:Str}{params:Arguments}{body:List Stmt}{scope:Scope}{dV kV doc pm fu ct oc:Value}{an od:Option Addr}
  {tm:Array (Option Value)} {N ps:List Str} {sp:Sp} (lk:K.lookup f=some ⟨oc,od,.func (PySem.W.fnOf name qual params body scope dV kV doc pm an fu ct),tm⟩) (vf:PySem.W.codeIn K fu qual=true) (S:eF N ps scope)
  (len:∀vs H Q E,sp vs H Q E->vs.length=ps.length)
  (F3:∀(A:Around)(outer:List Env)(s:Shared)(H:Hp)(vs:List V)(Q:VK)(E:XK),gK k (A.deeper (envOfC qual scope s.heap.objs.size f fu))->sp vs H Q E->
   ∃t,mB (jY CX P w K mg base N qual scope f fu A outer s H E) body t/\t {nx:=λ_ H'=>Q .bz H',rt:=Q} (start N vs) H):
  iN P w K mg base CX (k+1) f (PySem.W.fnOf name qual params body scope dV kV doc pm an fu ct) ps sp:=by
 refine⟨len,λA outer s H args us vs Q E hr e0 hb r E3=>?_⟩;have KX:K.In s.heap:=e0.mod.KZ.keeps λb o e=>(e0.bs b o e).1
 have Ge:∀y∈ps.zip us,scope.names.lookup y.1=some .local\/(scope.names.lookup y.1=some .cell/\((cellsFrom (s.heap.objs.size+1) scope.names []).lookup y.1).isSome=true):=λ⟨n,v⟩hy=>by
  rcases S.par n (R6 hy).1 with q|q
  ·exact .inl q
  ·exact .inr ⟨q,Sw _ _ _ (.inl q)⟩
 refine codeAny_call_function hr.depth (KX _ _ lk) rfl S.co S.gen rfl (PySem.W.codeRec_of KX vf) (hb _ _ _ _ (wpAny_newFunctionEnv_cells S.kind Ge λenv he s1 x=>?_));subst he;refine⟨(e0.mod.nolimit.keeps λb o e=>(e0.bs b o e).1).keeps x.toInCall.keep,codeAny_func ?_⟩;obtain⟨t,ht,hq⟩:=F3 A outer s H vs Q E (hr.deeper _) E3;have I:Inv (jY CX P w K mg base N qual scope f fu A outer s H E) [] (start N vs) H s1:=uF S hr.hd e0 (len _ _ _ _ E3) r x;refine SY (ht s1 (start N vs) H _ I hq) (λfl s' hs=>?_) λe s' hs=>hs
 have fin:∀{σ':St}{H':Hp}{v:V}{u:Value},Inv (jY CX P w K mg base N qual scope f fu A outer s H E) [] σ' H' s'->RelV v u->Q v H'->CE outer P w H s Q u s':=
  λ {σ' H' v u} J rv q=>⟨v,H',J.os,J.bare,J.base,J.hok,rv,q⟩
 cases fl with
 |ret u=>obtain⟨v,σ',H',J,rv,q⟩:=hs;exact fin J rv q
 |next=>obtain⟨σ',H',J,q⟩:=hs;exact fin (v:=V.bz) (u:=Value.none) J rfl q
 |brk=>obtain⟨_,_,_,q⟩:=hs;exact q.elim
 |cont=>obtain⟨_,_,_,q⟩:=hs;exact q.elim
end L2
end
section
namespace Rx
open PySem PySem.W PySem.Spec PyProof.Rows L2 PySem.SeqAt
noncomputable def EL(K:Frag)(mg:Str->Option Value)(C:Addr)(ts:List (Str×Bool)):Prop:=excIn K C Co "ValueError.__new__"=true/\vt K C/\
 ∀t b,ts.lookup t=some b->∃c,(mg t=some c/\(∃D,c= .ref D)\/mg t=none/\t="ValueError"/\c= .type "ValueError")/\kitOne K (.ref C) c=some b/\(b=true->exmOne K (.ref C) c=some true)
structure HX(g:G)(xv:Nat->Value)(CX:jt)(k:Nat)(F:FT)(Φ:Fm)(X:Cx):Prop where
 K:Φ.K=X.K
 P:Φ.P=X.prog
 w:Φ.w=X.w
 fx:∃n,FX g xv CX X.prog X.w X.K X.mg X.base n k F
 room:gK k X.A
 cx:CX=nZ X.prog X.w
 st:ff X
 xgx:∀e s',iK X (jP Φ xv) e s'->X.xe e s'
 xk:∀k x ts,g.xs[k]?=some (x,ts)->∃C,xv k= .ref C/\X.mg x=some (.ref C)/\EL X.K X.mg C ts
theorem HX.pass{g:G}{xv:Nat->Value}{CX:jt}{k:Nat}{F:FT}{Φ:Fm}{X:Cx}(h:HX g xv CX k F Φ X):qa CX X (jP Φ xv):=λpins σ H s e s' I c=>by have hc:=h.cx;subst hc;exact h.xgx e s' (yN I h.st.pn c)
theorem bp{X:Cx}{e:Expr}{t t':TE}(h:PE X e t)(hi:∀σ H Q,t' σ H Q->t σ H Q):PE X e t':=λpins s σ H Q I q=>h pins s σ H Q I (hi σ H Q q)
theorem qY{X:Cx}{e:Expr}{t t':TT}(h:PT X e t)(hi:∀σ H Q,t' σ H Q->t σ H Q):PT X e t':=λpins s σ H Q I q=>h pins s σ H Q I (hi σ H Q q)
theorem xZ{X:Cx}{e:Expr}{t t':TT}(h:PW X e t)(hi:∀σ H Q,t' σ H Q->t σ H Q):PW X e t':=λwh pins s σ H Q I q=>h wh pins s σ H Q I (hi σ H Q q)
theorem xB{X:Cx}{e:List Expr}{t t':TA}(h:PA X e t)(hi:∀σ H Q,t' σ H Q->t σ H Q):PA X e t':=λpos pins s σ H Q I q=>h pos pins s σ H Q I (hi σ H Q q)
theorem qT{X:Cx}{tg e:Expr}{t t':TI}(h:PI X tg e t)(hi:∀σ H Q,t' σ H Q->t σ H Q):PI X tg e t':=λpins s σ H Q I q=>h pins s σ H Q I (hi σ H Q q)
section
variable{Φ:Fm}{Γ:Gm}{F:FT}{fr:Nat->Bool}{o:Ow}{ρ:aj}{S:Sx}{σ:L2.St}{H H':Hp}
theorem EO.sc{c:C}{d:Dt}(h:og d=true):EO Φ.K fr o c H d (p6 d) H:=⟨aX.refl,pB h,λ_=>pB h,λ_=>(pB h).one,λ_ ds e=>by subst e;simp[og]at h⟩
theorem EO.uy{c:C}{d:Dt}{v:V}{H1:Hp}(e:aX o.d H H1)(h:EO Φ.K fr o c H1 d v H')(hf:fresh fr c=true->∀ds,d= .lst ds->∀a,H1 a=none->H a=none):EO Φ.K fr o c H d v H':=
 ⟨e.trans h.ext,h.val,h.mn,h.uX,λf ds ed=>by
  obtain⟨a,xs,h1,h2,h3⟩:=h.eD f ds ed;exact⟨a,xs,h1,hf f ds ed a h2,h3⟩⟩
theorem wg{X:Addr->Prop}{H1:Hp}(e:aX X H H1)(hx:∀b,X b->∃y,H1 b=some y){a:Addr}(h:H1 a=none):H a=none:=by
 cases q:H a with
 |none=>rfl
 |some x=>obtain⟨y,z⟩:=e.al q (hx a);rw[h]at z;cases z
theorem ER.ei{S1:Sx}{H1:Hp}(aE:ER Φ Γ o ρ S1 σ H1)(e:aX o.d H H1){a:Addr}(h:H1 a=none):H a=none:=wg e (λb z=>aE.al b (aE.da b z)) h
theorem EO.keep{c:C}{d:Dt}{v:V}{H1 H2:Hp}(h:EO Φ.K fr o c H d v H1)(e:aX o.d H1 H2)(wa:∀b,o.wd b->o.A b):RV Φ.K o.wd H2 v d/\(lk c=0->RV Φ.K o.A H2 v d)/\(lk c<=1->ft Φ.K o.A H2 v d):=by
 have hd:∀b,o.d b->o.wd b:=λb z=>.inr z
 refine⟨h.val.mono e hd λ_ z=>z,λl=>(h.mn l).mono e (λb z=>wa b (hd b z)) λ_ z=>z,λl=>?_⟩;refine(h.uX l).ext e (λb z=>wa b (hd b z)) λds a ed ev z=>?_
 subst ed ev;obtain⟨b,xs,q,_,n,_⟩:=h.val.lst_inv;cases q;exact n (.inr z)
theorem EO.pr{c:C}{xs:List V}{ds:List Dt}{d:Dt}{v:V}{H1 H2:Hp}{S1:Sx}{f:Bool}(aE:ER Φ Γ o ρ S1 σ H1)(e:aX o.d H H1)(hv:ak Φ.K o.wd H1 xs ds)(h1:lk c<=1->mD Φ.K o.A H1 xs ds)(hl:lk c=0\/lk c=2)
  (pr:PR Φ.K f xs ds H1 d v H2) (hf:fresh fr c=true->f=true):EO Φ.K fr o c H d v H2/\ER Φ Γ o ρ S1 σ H2:=by
 have q0:lk c=0->RV Φ.K o.A H2 v d:=λl=>pr.val o.A aE.al (h1 ⋯)
 refine⟨⟨e.trans (aX.of_same pr.same),pr.val o.wd aE.rH hv.ones,q0,λl=>(q0 ⋯).one,λfc es ed=>?_⟩,aE.grow pr.same⟩;obtain⟨a,ys,k1,k2,k3,k4⟩:=pr.eD (hf fc) es ed;exact⟨a,ys,k1,aE.ei e k2,k3,k4 o.wd aE.rH hv.ones,λl=>k4 o.A aE.al (h1 ⋯)⟩
theorem ik{A:Addr->Prop}{K:Frag}{v:V}{d:Dt}(h:RV K A H v d):RV K N0 H v d:=h.weak λ_ z=>z.elim
theorem Dv{A:Addr->Prop}{K:Frag}{v:List V}{d:List Dt}(h:ak K A H v d):ak K N0 H v d:=h.weak λ_ z=>z.elim
end
section
variable{X:Cx}{Φ:Fm}{Γ:Gm}{F:FT}{fr:Nat->Bool}{g:G}
theorem pC{e:Expr}{d:Dt}(hd:og d=true)(h:PE X e (tC (p6 d))):PE X e (bL Φ Γ F fr (.con d)):=bp h λσ H Q q=>by obtain⟨o,ρ,S,er,q⟩:=q;exact q _ _ (EO.sc hd) er
theorem mZ{Ek:Nat->Prop}{ρ:aj}{i:Nat}{P:Dt->Prop}(h:mR Ek (dm ρ i) P):∃d,ρ[i]?=some (some d)/\P d:=by
 unfold dm at h;split at h
 ·exact⟨_,by assumption,h⟩
 ·exact h.elim
theorem Hy{e:Expr}{i:Nat}(h:PE X e (jq i))(hm:fh Γ i=false):PE X e (bL Φ Γ F fr (.var i)):=bp h λσ H Q q=>by obtain⟨o,ρ,S,er,q⟩:=q;unfold ev at q;rw[ae]at q;obtain⟨d,hd,q⟩:=mZ q;obtain⟨v,h1,h2⟩:=er.val i d hd;rw[hm,SF (by simp)]at h2;exact⟨v,h1,q v H ⟨aX.refl,h2.weak er.gF,λ_=>h2,λ_=>h2.one,λz=>by simp[fresh]at z⟩ er⟩
theorem Hr{e:Expr}{i:Nat}(h:PE X e (jq i))(hm:fh Γ i=true)(hκ:Γ.κ≠some i):PE X e (bL Φ Γ F fr (.mvr i)):=bp h λσ H Q q=>by obtain⟨o,ρ,S,er,q⟩:=q;unfold ev at q;rw[ae]at q;obtain⟨d,hd,q⟩:=mZ q;obtain⟨v,h1,h2⟩:=er.val i d hd;rw[hm,SH rfl]at h2;exact⟨v,h1,q v H ⟨aX.refl,h2.val (er.nd hd hκ) er.wa er.da,λz=>by simp[lk]at z,λ_=>h2.one (er.nd hd hκ),λz=>by simp[fresh]at z⟩ er⟩
theorem jH{Ek:Nat->Prop}{r:R Dt}{P:Dt->Prop}(nr:∀k,r≠ .ex k)(h:mR Ek r P):∃d,r= .ok d/\P d:=by
 cases r with
 |ok a=>exact⟨a,rfl,h⟩
 |ex k=>exact absurd rfl (nr k)
 |bad=>exact h.elim
theorem cK{b:Bool}{α:Type}{r:R α}(h:∀k,r≠ .ex k):∀k,af b r≠ .ex k:=by
 intro k;cases b
 ·intro z;cases z
 ·exact h k
theorem DD(o:Operator)(d e:Dt):∀k,kq o d e≠ .ex k:=by intro k;unfold kq;split<;>first|(intro z;cases z;done)|(split<;>first|(intro z;cases z;done)|(exact cK (λk z=>by cases z) k))
theorem rW(o:CmpOp)(d e:Dt):∀k,c7 o d e≠ .ex k:=by intro k;unfold c7;split<;>first|(intro z;cases z;done)|(exact cK (λk z=>by cases z) k)|(split<;>first|(intro z;cases z;done)|(exact cK (λk z=>by cases z) k))
theorem qf(ds:List Dt)(i:Int):∀k,t9 ds i≠ .ex k:=by intro k;unfold t9;split<;>(intro z;cases z)
theorem z9(d e:Dt):∀k,bW d e≠ .ex k:=by
 intro k;unfold bW;split
 ·exact qf _ _ k
 ·exact qf _ _ k
 ·exact qf _ _ k
 ·exact cK (λk=>by split<;>(intro z;cases z)) k
 ·intro z;cases z
theorem AR(d:Dt)(lo hi:Option Int):∀k,fM d lo hi≠ .ex k:=by intro k;unfold fM;split<;>first|(intro z;cases z;done)|(exact cK (λk z=>by cases z) k)
theorem A4(d:Dt):∀k,dH d≠ .ex k:=by intro k;unfold dH;split<;>first|(intro z;cases z;done)|(exact cK (λk z=>by cases z) k)
theorem ij{Ek:Nat->Prop}{r:R Bool}{P:Bool->Prop}(nr:∀k,r≠ .ex k)(h:mR Ek r P):∃d,r= .ok d/\P d:=by
 cases r with
 |ok a=>exact⟨a,rfl,h⟩
 |ex k=>exact absurd rfl (nr k)
 |bad=>exact h.elim
theorem qJ{op:Operator}{a b:C}:(lk (.bin op a b)=0\/lk (.bin op a b)=2)/\(lk (.bin op a b)<=1->lk a<=1/\lk b<=1):=by
 have e:lk (.bin op a b)=if lk a<=1/\lk b<=1 then 0 else 2:=by rw[lk]
 rw[e];split
 ·rename_i h;exact⟨.inl rfl,λ_=>h⟩
 ·exact⟨.inr rfl,λz=>by lia⟩
theorem Hk{a b:Expr}{a' b':C}{op:Operator}{pos:Pos}(hK:Φ.K=X.K)(ha:PE X a (bL Φ Γ F fr a'))(hb:PE X b (bL Φ Γ F fr b')):PE X (.BinOp a op b pos) (bL Φ Γ F fr (.bin op a' b')):=bp (BN (DF op) ha hb) λσ H Q q=>by
 obtain⟨o,ρ,S,er,q⟩:=q;unfold ev at q;rw[ae]at q;refine⟨o,ρ,S,er,ah q λp _ q x H1 ba aE=>?_⟩;rw[ae]at q;refine⟨o,ρ,p.2,aE,ah q λp2 _ q y H2 eo2 fg=>?_⟩;rw[ae]at q;obtain⟨z,hz,q⟩:=jH (DD _ _ _) q;obtain⟨k1,k2,k3⟩:=ba.keep eo2.ext er.gF;refine⟨p.1,p2.1,z,hK▸ik k1,hK▸ik eo2.val,hz,λv H3 pr=>?_⟩;rw[<-hK]at pr;obtain⟨e1,e2⟩:=EO.pr (fr:=fr) (H:=H) (c:=.bin op a' b') fg (ba.ext.trans eo2.ext) (ak.cons k1 (ak.cons eo2.val ak.nil)) (λl=>⟨k3 (qJ.2 l).1,eo2.uX (qJ.2 l).2,trivial⟩) qJ.1 pr λ_=>rfl
 exact q v H3 e1 e2
theorem Hl{a b:Expr}{a' b':C}{op:CmpOp}{pos:Pos}(hK:Φ.K=X.K)(hu:X.A.units+150<cLine)(hm:behindInMarks op b=false)(ha:PE X a (bL Φ Γ F fr a'))(hb:PE X b (bL Φ Γ F fr b')):PE X (.Compare a [op] [b] pos) (bL Φ Γ F fr (.cmp op a' b')):=bp (tw (qQ op hu) ha hb hm) λσ H Q q=>by obtain⟨o,ρ,S,er,q⟩:=q;unfold ev at q;rw[ae]at q;refine⟨o,ρ,S,er,ah q λp _ q x H1 ba aE=>?_⟩;rw[ae]at q;refine⟨o,ρ,p.2,aE,ah q λp2 _ q y H2 eo2 fg=>?_⟩;rw[ae]at q;obtain⟨z,hz,q⟩:=ij (rW _ _ _) q;obtain⟨k1,k2,k3⟩:=ba.keep eo2.ext er.gF;refine⟨p.1,p2.1,z,hK▸ik k1,hK▸ik eo2.val,hz,q _ _ ?_ fg⟩;have:=EO.sc (Φ:=Φ) (fr:=fr) (o:=o) (H:=H2) (c:=.cmp op a' b') (d:=.bl z) rfl;exact this.uy (ba.ext.trans eo2.ext) λf=>by simp[fresh]at f
theorem D6{a b:Expr}{a' b':C}{op:CmpOp}{pos:Pos}(hK:Φ.K=X.K)(hu:X.A.units+150<cLine)(hm:behindInMarks op b=false)(ha:PE X a (bL Φ Γ F fr a'))(hb:PE X b (bL Φ Γ F fr b')):PT X (.Compare a [op] [b] pos) (eV Φ Γ F (.cmp op a' b')):=qY (AG (qQ op hu) ha hb hm) λσ H Q q=>by obtain⟨o,ρ,S,er,q⟩:=q;unfold cW at q;rw[ae]at q;refine⟨o,ρ,S,er,ah q λp _ q x H1 ba aE=>?_⟩;rw[ae]at q;refine⟨o,ρ,p.2,aE,ah q λp2 _ q y H2 eo2 fg=>?_⟩;rw[ae]at q;obtain⟨z,hz,q⟩:=ij (rW _ _ _) q;obtain⟨k1,k2,k3⟩:=ba.keep eo2.ext er.gF;exact⟨p.1,p2.1,z,hK▸ik k1,hK▸ik eo2.val,hz,z,rfl,q _ (ba.ext.trans eo2.ext) fg⟩
end
section
variable{X:Cx}{Φ:Fm}{Γ:Gm}{F:FT}{fr:Nat->Bool}{g:G}
theorem ak.emp{K:Frag}{A:Addr->Prop}{H:Hp}{xs:List V}{ds:List Dt}(h:ak K A H xs ds):ds.isEmpty=xs.isEmpty:=by
 have:=h.length;cases xs with
 |nil=>cases ds with
  |nil=>rfl
  |cons=>simp at this
 |cons=>cases ds with
  |nil=>simp at this
  |cons=>rfl
theorem Hs{a:Expr}{a':C}{pos:Pos}(ha:PE X a (bL Φ Γ F fr a')):PE X (.UnaryOp .USub a pos) (bL Φ Γ F fr (.neg a')):=bp (Hc Ep ha) λσ H Q q=>by
 obtain⟨o,ρ,S,er,q⟩:=q;unfold ev at q;rw[ae]at q;refine⟨o,ρ,S,er,ah q λp _ q x H1 ba aE=>?_⟩;split at q
 ·rename_i i hi;have:=ba.val;rw[hi]at this;refine⟨i,this.int_inv,q _ _ ?_ aE⟩;exact(EO.sc (Φ:=Φ) (fr:=fr) (o:=o) (H:=H1) (c:=.neg a') (d:=.int (-i)) rfl).uy ba.ext λf=>by simp[fresh]at f
 ·exact q.elim
theorem LI{a:Expr}{a':C}{pos:Pos}(ha:PE X a (bL Φ Γ F fr a')):PE X (.UnaryOp .Not a pos) (bL Φ Γ F fr (.nt a')):=bp (xJ ha) λσ H Q q=>by
 obtain⟨o,ρ,S,er,q⟩:=q;unfold ev at q;rw[ae]at q;refine⟨o,ρ,S,er,ah q λp _ q x H1 ba aE=>?_⟩;split at q
 ·rename_i i hi;have:=ba.val;rw[hi]at this;refine⟨i,this.aC,q _ _ ?_ aE⟩;exact(EO.sc (Φ:=Φ) (fr:=fr) (o:=o) (H:=H1) (c:=.nt a') (d:=.bl (!i)) rfl).uy ba.ext λf=>by simp[fresh]at f
 ·exact q.elim
theorem Hu{a:Expr}{a':C}{pos:Pos}(ha:PT X a (eV Φ Γ F a')):PT X (.UnaryOp .Not a pos) (eV Φ Γ F (.nt a')):=qY (DW ha) λσ H Q q=>by obtain⟨o,ρ,S,er,q⟩:=q;unfold cW at q;rw[ae]at q;exact⟨o,ρ,S,er,ah q λp _ q H1 e1 aE=>q _ e1 aE⟩
theorem Hj{a b:Expr}{rest:List Expr}{a' b':C}{pos:Pos}(ha:PE X a (bL Φ Γ F fr a'))(hb:PE X (.BoolOp .And (b::rest) pos) (bL Φ Γ F fr b')):PE X (.BoolOp .And (a::b::rest) pos) (bL Φ Γ F fr (.and a' b')):=bp (xF ha hb) λσ H Q q=>by
 obtain⟨o,ρ,S,er,q⟩:=q;unfold ev at q;rw[ae]at q;refine⟨o,ρ,S,er,ah q λp _ q x H1 ba aE=>?_⟩;have sc:∀(H3:Hp)(t:Bool),aX o.d H H3->EO Φ.K fr o (.and a' b') H (.bl t) (.bl t) H3:=λH3 t e3=>
  (EO.sc (Φ:=Φ) (fr:=fr) (o:=o) (H:=H3) (c:=.and a' b') (d:=.bl t) rfl).uy e3 λf=>by simp[fresh]at f
 split at q
 ·rename_i hi;have:=ba.val;rw[hi]at this;refine⟨true,this.aC,?_⟩;rw[ae]at q;refine⟨o,ρ,p.2,aE,ah q λp2 _ q y H2 eo2 fg=>?_⟩;split at q
  ·rename_i c hc;have h2:=eo2.val;rw[hc]at h2;rw[h2.aC];exact q _ _ (sc H2 c (ba.ext.trans eo2.ext)) fg
  ·exact q.elim
 ·rename_i hi;have:=ba.val;rw[hi]at this;exact⟨false,this.aC,q _ _ (sc H1 false ba.ext) aE⟩
 ·exact q.elim
theorem LJ{a b:Expr}{rest:List Expr}{a' b':C}{pos:Pos}(ha:PE X a (bL Φ Γ F fr a'))(hb:PE X (.BoolOp .Or (b::rest) pos) (bL Φ Γ F fr b')):PE X (.BoolOp .Or (a::b::rest) pos) (bL Φ Γ F fr (.or a' b')):=bp (BO ha hb) λσ H Q q=>by
 obtain⟨o,ρ,S,er,q⟩:=q;unfold ev at q;rw[ae]at q;refine⟨o,ρ,S,er,ah q λp _ q x H1 ba aE=>?_⟩;have sc:∀(H3:Hp)(t:Bool),aX o.d H H3->EO Φ.K fr o (.or a' b') H (.bl t) (.bl t) H3:=λH3 t e3=>
  (EO.sc (Φ:=Φ) (fr:=fr) (o:=o) (H:=H3) (c:=.or a' b') (d:=.bl t) rfl).uy e3 λf=>by simp[fresh]at f
 split at q
 ·rename_i hi;have:=ba.val;rw[hi]at this;refine⟨false,this.aC,?_⟩;rw[ae]at q;refine⟨o,ρ,p.2,aE,ah q λp2 _ q y H2 eo2 fg=>?_⟩;split at q
  ·rename_i c hc;have h2:=eo2.val;rw[hc]at h2;rw[h2.aC];exact q _ _ (sc H2 c (ba.ext.trans eo2.ext)) fg
  ·exact q.elim
 ·rename_i hi;have:=ba.val;rw[hi]at this;exact⟨true,this.aC,q _ _ (sc H1 true ba.ext) aE⟩
 ·exact q.elim
theorem D5{a b:Expr}{rest:List Expr}{a' b':C}{pos:Pos}(ha:PT X a (eV Φ Γ F a'))(hb:PW X (.BoolOp .And (b::rest) pos) (eV Φ Γ F b')):PW X (.BoolOp .And (a::b::rest) pos) (eV Φ Γ F (.and a' b')):=xZ (DX ha hb) λσ H Q q=>by
 obtain⟨o,ρ,S,er,q⟩:=q;unfold cW at q;rw[ae]at q;refine⟨o,ρ,S,er,ah q λp _ q H1 e1 aE=>?_⟩;cases hp:p.1 with
 |true=>rw[hp]at q;rw[SH rfl];exact⟨o,ρ,p.2,aE,ah q λp2 _ q H2 e2 fg=>q _ (e1.trans e2) fg⟩
 |false=>rw[hp]at q;rw[SF (by simp)];exact q _ e1 aE
theorem Hv{a b:Expr}{rest:List Expr}{a' b':C}{pos:Pos}(ha:PT X a (eV Φ Γ F a'))(hb:PW X (.BoolOp .Or (b::rest) pos) (eV Φ Γ F b')):PW X (.BoolOp .Or (a::b::rest) pos) (eV Φ Γ F (.or a' b')):=xZ (Hf ha hb) λσ H Q q=>by
 obtain⟨o,ρ,S,er,q⟩:=q;unfold cW at q;rw[ae]at q;refine⟨o,ρ,S,er,ah q λp _ q H1 e1 aE=>?_⟩;cases hp:p.1 with
 |false=>rw[hp]at q;rw[SF (by simp)];exact⟨o,ρ,p.2,aE,ah q λp2 _ q H2 e2 fg=>q _ (e1.trans e2) fg⟩
 |true=>rw[hp]at q;rw[SH rfl];exact q _ e1 aE
theorem xj{a b:C}:(lk (.idx a b)=0\/lk (.idx a b)=2)/\(lk (.idx a b)<=1->lk a<=1):=by
 have e:lk (.idx a b)=if lk a<=1 then 0 else 2:=by rw[lk]
 rw[e];split
 ·rename_i h;exact⟨.inl rfl,λ_=>h⟩
 ·exact⟨.inr rfl,λz=>by lia⟩
theorem Hn{a b:Expr}{a' b':C}{pos:Pos}(hK:Φ.K=X.K)(hs:mC b)(ha:PE X a (bL Φ Γ F fr a'))(hb:PE X b (bL Φ Γ F fr b')):PE X (.Subscript a b pos) (bL Φ Γ F fr (.idx a' b')):=bp (Hb Dg ha hb hs) λσ H Q q=>by
 obtain⟨o,ρ,S,er,q⟩:=q;unfold ev at q;rw[ae]at q;refine⟨o,ρ,S,er,ah q λp _ q x H1 ba aE=>?_⟩;rw[ae]at q;refine⟨o,ρ,p.2,aE,ah q λp2 _ q y H2 eo2 fg=>?_⟩;rw[ae]at q;obtain⟨z,hz,q⟩:=jH (z9 _ _) q;obtain⟨k1,k2,k3⟩:=ba.keep eo2.ext er.gF;refine⟨p.1,p2.1,z,hK▸ik k1,hK▸ik eo2.val,hz,λv pr=>?_⟩;rw[<-hK]at pr;have NP:∃i,p2.1= .int i:=by
  cases hd:p2.1 with
  |int i=>exact⟨i,rfl⟩
  |_=>rw[hd]at hz;unfold bW at hz;split at hz<;>first|(rename_i h;cases h;done)|(cases hz;done)|contradiction
 obtain⟨i,hi⟩:=NP;have v2:∀A:Addr->Prop,ft Φ.K A H2 y p2.1:=λA=>by have:=eo2.val;rw[hi]at this ⊢;rw[this.int_inv];exact(RV.dP (K:=Φ.K) (A:=A)).one
 obtain⟨e1,e2⟩:=EO.pr (fr:=fr) (H:=H) (c:=.idx a' b') fg (ba.ext.trans eo2.ext) (ak.cons k1 (ak.cons eo2.val ak.nil)) (λl=>⟨k3 (xj.2 l),v2 _,trivial⟩) xj.1 pr λz=>by simp[fresh]at z
 exact q v H2 e1 e2
theorem jJ{a:Expr}{a':C}(hK:Φ.K=X.K)(ha:PE X a (bL Φ Γ F fr a'))(he:∀whole,isTrue a X.env whole=(do let v<-whole;standAt a.pos;holding [v] (truthy v)))
  (CS:∀ρ S,cW F a' ρ S=(ev F a' ρ S).bind λx=>(dH x.1).bind λb=>.ok (b,x.2)):PT X a (eV Φ Γ F a'):=qY (xY ha he) λσ H Q q=>by
 obtain⟨o,ρ,S,er,q⟩:=q;rw[CS,ae]at q;refine⟨o,ρ,S,er,ah q λp _ q x H1 ba aE=>?_⟩;rw[ae]at q;obtain⟨b,hb,q⟩:=ij (A4 _) q;refine⟨b,?_,q _ ba.ext aE⟩;have hv:=ba.val;rw[hK]at hv;unfold dH at hb;split at hb
 ·rename_i hd;rw[hd]at hv;cases hb;rw[hv.aI];rfl
 ·rename_i hd;rw[hd]at hv;cases hb;rw[hv.aC];rfl
 ·rename_i hd;rw[hd]at hv;cases hb;rw[hv.int_inv];rfl
 ·rename_i hd;rw[hd]at hv;obtain⟨g1,hb⟩:=aN hb;cases hb;rw[hv.str_inv];exact⟨Qz (Qr g1) cj,rfl⟩
 ·rename_i hd;rw[hd]at hv;cases hb;obtain⟨a,xs,rfl,h1,_,h2⟩:=hv.lst_inv;refine .inl ⟨xs,dy.of h1,?_⟩;rw[h2.emp]
 ·rename_i hd;rw[hd]at hv;cases hb;obtain⟨a,xs,rfl,h1,h2⟩:=hv.ag;refine .inr (.inl ⟨xs,dY.of h1,?_⟩);rw[h2.emp]
 ·rename_i hd;rw[hd]at hv;cases hb;obtain⟨a,rfl,h1⟩:=hv.i6;refine .inl ⟨_,h1,?_⟩;simp
 ·cases hb
end
section
variable{X:Cx}{Φ:Fm}{Γ:Gm}{F:FT}{fr:Nat->Bool}{g:G}
theorem Dr{a b:C}{c:C}(hc:lk c=if lk a<=1 then 0 else 2):(lk c=0\/lk c=2)/\(lk c<=1->lk a<=1):=by
 rw[hc];split
 ·rename_i h;exact⟨.inl rfl,λ_=>h⟩
 ·exact⟨.inr rfl,λz=>by lia⟩
theorem su{o:Ow}{ρ:aj}{S:Sx}{σ:L2.St}{H H1 H2:Hp}{a' c:C}{d:Dt}{x:V}{lo hi:Option Int}{Q:VK}(hK:Φ.K=X.K)(hc:lk c=if lk a'<=1 then 0 else 2)(hf:fresh fr c=true->True)(er:ER Φ Γ o ρ S σ H2)(ba:EO Φ.K fr o a' H d x H1)(e:aX o.d H1 H2)
  (q:mR Φ.Ek (fM d lo hi) λz=>∀v H3,EO Φ.K fr o c H z v H3->ER Φ Γ o ρ S σ H3->Q v H3):rS X.K x lo hi H2 Q:=by
 obtain⟨z,hz,q⟩:=jH (AR _ _ _) q;obtain⟨k1,k2,k3⟩:=ba.keep e er.gF;refine⟨d,z,hK▸ik k1,hz,λv H3 pr=>?_⟩;rw[<-hK]at pr;have hl:=Dr (b:=c) hc;obtain⟨e1,e2⟩:=EO.pr (fr:=fr) (H:=H) (c:=c) er (ba.ext.trans e) (ak.cons k1 ak.nil) (λl=>⟨k3 (hl.2 l),trivial⟩) hl.1 pr λ_=>rfl
 exact q v H3 e1 e2
theorem Ea{a l:Expr}{a' l':C}{p2 pos:Pos}(hK:Φ.K=X.K)(ha:PE X a (bL Φ Γ F fr a'))(hl:PE X l (bL Φ Γ F fr l')):PE X (.Subscript a (.Slice (some l) none none p2) pos) (bL Φ Γ F fr (.sliL a' l')):=bp (pj yu ha (tF hl) tE) λσ H Q q=>by
 obtain⟨o,ρ,S,er,q⟩:=q;unfold ev at q;rw[ae]at q;refine⟨o,ρ,S,er,ah q λp _ q x H1 ba aE=>?_⟩;rw[ae]at q;refine⟨o,ρ,p.2,aE,ah q λp2 _ q y H2 eo2 fg=>?_⟩;split at q
 ·rename_i i hi;have hv:=eo2.val;rw[hi]at hv;refine⟨i,hv.int_inv,?_⟩;rw[ae]at q;exact su hK (by rw[lk]) (λ_=>trivial) fg ba eo2.ext (ah q λz _ q v H3 e1 e2=>q v H3 e1 e2)
 ·exact q.elim
theorem D9{a l:Expr}{a' l':C}{p2 pos:Pos}(hK:Φ.K=X.K)(ha:PE X a (bL Φ Γ F fr a'))(hl:PE X l (bL Φ Γ F fr l')):PE X (.Subscript a (.Slice none (some l) none p2) pos) (bL Φ Γ F fr (.sliH a' l')):=bp (pj yu ha tE (tF hl)) λσ H Q q=>by
 obtain⟨o,ρ,S,er,q⟩:=q;unfold ev at q;rw[ae]at q;refine⟨o,ρ,S,er,ah q λp _ q x H1 ba aE=>?_⟩;rw[ae]at q;refine⟨o,ρ,p.2,aE,ah q λp2 _ q y H2 eo2 fg=>?_⟩;split at q
 ·rename_i i hi;have hv:=eo2.val;rw[hi]at hv;refine⟨i,hv.int_inv,?_⟩;rw[ae]at q;exact su hK (by rw[lk]) (λ_=>trivial) fg ba eo2.ext (ah q λz _ q v H3 e1 e2=>q v H3 e1 e2)
 ·exact q.elim
theorem Ht:PA X [] (lz Φ Γ F .nil):=xB dR λσ H Q q=>by obtain⟨o,ρ,S,er,q⟩:=q;exact q _ _ ⟨aX.refl,ak.nil,λ_=>ak.nil,λ_=>trivial⟩ er
theorem D7{e:Expr}{es:List Expr}{c:C}{cs:Cs}(hs:starEach (e::es) X.env=(false,eval e X.env)::starEach es X.env)(h:PE X e (bL Φ Γ F fr c))(hr:PA X es (lz Φ Γ F cs)):PA X (e::es) (lz Φ Γ F (.cons c cs)):=xB (bR h hr hs) λσ H Q q=>by
 obtain⟨o,ρ,S,er,q⟩:=q;unfold fU at q;rw[ae]at q;refine⟨o,ρ,S,er,ah q λp _ q x H1 ba aE=>?_⟩;rw[ae]at q;refine⟨o,ρ,p.2,aE,ah q λp2 _ q xs H2 eo2 fg=>?_⟩;obtain⟨k1,k2,k3⟩:=ba.keep eo2.ext er.gF;have el:lZ (.cons c cs)=max (lk c) (lZ cs):=by rw[lZ]
 exact q _ _ ⟨ba.ext.trans eo2.ext,ak.cons k1 eo2.val,λl=>ak.cons (k2 ⋯) (eo2.mn ⋯),λl=>⟨k3 ⋯,eo2.uX ⋯⟩⟩ fg
theorem BE{cs:Cs}{c:C}(hc:lk c=if lZ cs=0 then 0 else 2):(lk c<=1->lk c=0)/\(lk c=0->lZ cs=0):=by
 rw[hc];split
 ·rename_i h;exact⟨λ_=>rfl,λ_=>h⟩
 ·exact⟨λz=>by lia,λz=>by lia⟩
theorem Hx{es:List Expr}{cs:Cs}{x1:Nat}{pos:Pos}(h:PA X es (lz Φ Γ F cs)):PE X (.Tuple es x1 pos) (bL Φ Γ F fr (.tup cs)):=bp (xN h) λσ H Q q=>by
 obtain⟨o,ρ,S,er,q⟩:=q;unfold ev at q;rw[ae]at q;refine⟨o,ρ,S,er,ah q λp _ q xs H1 ba aE=>?_⟩;obtain⟨g1,q⟩:=aJ q;refine⟨by rw[ba.val.length];exact Qz (Qr g1) cj,λa ha=>?_⟩;have s:=Mx.bE ha (.tup xs);have hl:=BE (cs:=cs) (c:=.tup cs) (by rw[lk]);have q0:lk (.tup cs)=0->RV Φ.K o.A (upd H1 a (.tup xs)) (.ref a) (.tup p.1):=λl=>RV.dE ax ((ba.mn (hl.2 l)).same s)
 exact q _ _ ⟨ba.ext.trans (aX.of_same s),RV.dE ax (ba.val.same s),q0,λl=>(q0 (hl.1 l)).one,λz=>by simp[fresh]at z⟩ (aE.grow s)
theorem Hq{es:List Expr}{cs:Cs}{pos:Pos}(h:PA X es (lz Φ Γ F cs)):PE X (.List es pos) (bL Φ Γ F fr (.lst cs)):=bp (xI h) λσ H Q q=>by
 obtain⟨o,ρ,S,er,q⟩:=q;unfold ev at q;rw[ae]at q;refine⟨o,ρ,S,er,ah q λp _ q xs H1 ba aE=>?_⟩;obtain⟨g1,q⟩:=aJ q;refine⟨by rw[ba.val.length];exact Qz (Qr g1) cj,λa ha=>?_⟩;have s:=Mx.bE ha (.lst xs);have hl:=BE (cs:=cs) (c:=.lst cs) (by rw[lk]);have na:¬o.A a:=λz=>by obtain⟨y,hy⟩:=aE.al a z;rw[ha]at hy;cases hy
 have q0:lk (.lst cs)=0->RV Φ.K o.A (upd H1 a (.lst xs)) (.ref a) (.lst p.1):=λl=>RV.dD ax na ((ba.mn (hl.2 l)).same s)
 refine q _ _ ⟨ba.ext.trans (aX.of_same s),RV.dD ax (λz=>na (aE.gF a z)) (ba.val.same s),q0,λl=>(q0 (hl.1 l)).one,λ_ ds e=>?_⟩ (aE.grow s);cases e;exact⟨a,xs,rfl,aE.ei ba.ext ha,ax,(ba.val.avoid ha).same s,λl=>((ba.mn (hl.2 l)).avoid ha).same s⟩
theorem Cg(b:BI)(ds:List Dt):∀k,c8 b ds≠ .ex k:=by
 intro k;unfold c8;split<;>split
 all_goals first
  |(intro z;cases z;done)
  |(exact cK (λk z=>by cases z) k)
  |(split<;>first|(intro z;cases z;done)|(exact cK (λk z=>by cases z) k)|(split<;>first|(intro z;cases z;done)|(exact cK (λk z=>by cases z) k)))
  |(rename_i T d;unfold uG;split<;>(intro z;cases z))
theorem xi{b:BI}{cs:Cs}:(lk (.bi b cs)=0\/lk (.bi b cs)=2)/\(lk (.bi b cs)<=1->lZ cs<=1):=by
 have e:lk (.bi b cs)=if lZ cs<=1 then 0 else 2:=by rw[lk]
 rw[e];split
 ·rename_i h;exact⟨.inl rfl,λ_=>h⟩
 ·exact⟨.inr rfl,λz=>by lia⟩
theorem wo{b:BI}{cs:Cs}{σ:L2.St}{H:Hp}{Q:VK}(hK:Φ.K=X.K)(q:bL Φ Γ F fr (.bi b cs) σ H Q):LQ (rP X.K true (c8 b)) (lz Φ Γ F cs) σ H Q:=by
 obtain⟨o,ρ,S,er,q⟩:=q;unfold ev at q;rw[ae]at q;refine⟨o,ρ,S,er,ah q λp _ q xs H1 ba aE=>?_⟩;rw[ae]at q;obtain⟨z,hz,q⟩:=jH (Cg _ _) q;refine⟨p.1,z,hK▸Dv ba.val,hz,λv H3 pr=>?_⟩;rw[<-hK]at pr;obtain⟨e1,e2⟩:=EO.pr (fr:=fr) (H:=H) (c:=.bi b cs) aE ba.ext ba.val (λl=>ba.uX (xi.2 l)) xi.1 pr λ_=>rfl
 exact q v H3 e1 e2
end
noncomputable def Cs.len:Cs->Nat
 |.nil=>0
 |.cons _ cs=>cs.len+1
theorem sf{F:FT}:∀{cs:Cs}{ρ:aj}{S:Sx}{p:List Dt×Sx},fU F cs ρ S= .ok p->p.1.length=cs.len
 |.nil,ρ,S,p,h=>by unfold fU at h;cases h;rfl
 |.cons c cs,ρ,S,p,h=>by
  unfold fU at h;cases h1:ev F c ρ S with
  |ok x=>
   rw[h1]at h;simp only[R.ai]at h;cases h2:fU F cs ρ x.2 with
   |ok y=>rw[h2]at h;cases h;simp[Cs.len,sf h2]
   |ex k=>rw[h2]at h;cases h
   |bad=>rw[h2]at h;cases h
  |ex k=>rw[h1]at h;cases h
  |bad=>rw[h1]at h;cases h
section
variable{X:Cx}{Φ:Fm}{Γ:Gm}{F:FT}{g:G}{xv:Nat->Value}{CX:jt}{k:Nat}
theorem oF{H H':Hp}(e:aX (λb=>(none:Option Addr)=some b) H H'):bu H H':=λb o h=>e.kp b o h (by simp)
theorem q9{K:Frag}{A:Addr->Prop}{H:Hp}:∀{ds:List Dt},ds.all og=true->ak K A H (ds.map p6) ds
 |[],_=>ak.nil
 |d::ds,h=>by rw[Rz,Qp]at h;exact ak.cons (pB h.1) (q9 h.2)
theorem s_call{x:Str}{f np j:Nat}{fy:List Dt}{e:Expr}{es:List Expr}{cs:Cs}{p pos:Pos}(hX:HX g xv CX k F Φ X)(hG:Gl X x)(oQ:(x==("__debug__":Str))=false)(wK:qt x g.fns=some (f,np,fy,false))(hj:j<=fy.length)(hn:cs.len+(fy.drop j).length=np)
  (hs:starEach (e::es) X.env=(false,eval e X.env)::starEach es X.env) (eL:(backTo pos (starEach es X.env)).any (·.1)=false) (ha:PA X (e::es) (lz Φ Γ F cs)):PE X (.Call (.Name x p) (e::es) [] pos) (bL Φ Γ F g.fr (.call f cs (fy.drop j))):=by
 obtain⟨n,fx⟩:=hX.fx;obtain⟨fa,fd,ps,jC,hmg,Ox,hok,hb,Gv⟩:=fx.fn x f np fy false wK;obtain⟨uv,pY,MK⟩:=hb j hj;refine bp (As hok hX.room hG hmg Ox MK pY hX.pass ha oQ hs eL) λσ H Q q=>?_
 obtain⟨o,ρ,S,er,q⟩:=q;unfold ev at q;rw[ae]at q;refine⟨o,ρ,S,er,ah q λp hp q vs H1 ba aE=>?_⟩;have M4:(fy.drop j).all og=true:=QY.mpr λd hd=>QY.mp Gv d (List.mem_of_mem_drop hd)
 rw[ae]at q;have el:lk (.call f cs (fy.drop j))=if lZ cs=0 then 0 else 2:=by rw[lk]
 refine⟨?_,?_⟩
 ·rw[QE,ba.val.length,Qx,sf hp];exact hn
 by_cases hl:lZ cs=0
 ·rw[SH hl]at el;refine⟨o.A,none,p.1++fy.drop j,none,vs++(fy.drop j).map p6,⟨rfl,rfl,rfl⟩,?_,aE.al,?_⟩
  ·rw[<-hX.K];exact(ba.mn hl).append (q9 M4)
  ·cases hr:F f (p.1++fy.drop j) none with
   |ok y=>rw[hr]at q;intro v H' fo;rw[<-hX.K]at fo;have sm:=oF fo.ext;refine q v H' ⟨ba.ext.trans (aX.of_same sm),fo.val.weak aE.gF,λ_=>fo.val,λ_=>fo.val.one,λfc ds ed=>?_⟩ (aE.grow sm);obtain⟨a,xs,h1,h2,h3,h4⟩:=fo.eD fc ds ed;exact⟨a,xs,h1,aE.ei ba.ext h2,h3,h4.weak λb z=>z.elim (λz=>.inl (aE.gF b z)) .inr,λ_=>h4⟩
   |ex kk=>rw[hr]at q;intro H' e';exact⟨kk,rfl,q,aE.ent.trans (e'.mono λb z=>by cases z)⟩
   |bad=>rw[hr]at q;exact q.elim
 ·rw[SF hl]at el;refine⟨o.wd,none,p.1++fy.drop j,none,vs++(fy.drop j).map p6,⟨rfl,rfl,rfl⟩,?_,aE.rH,?_⟩
  ·rw[<-hX.K];exact ba.val.append (q9 M4)
  ·cases hr:F f (p.1++fy.drop j) none with
   |ok y=>rw[hr]at q;intro v H' fo;rw[<-hX.K]at fo;have sm:=oF fo.ext;refine q v H' ⟨ba.ext.trans (aX.of_same sm),fo.val,λz=>by rw[el]at z;lia,λz=>by rw[el]at z;lia,λfc ds ed=>?_⟩ (aE.grow sm);obtain⟨a,xs,h1,h2,h3,h4⟩:=fo.eD fc ds ed;exact⟨a,xs,h1,aE.ei ba.ext h2,h3,h4,λz=>by rw[el]at z;lia⟩
   |ex kk=>rw[hr]at q;intro H' e';exact⟨kk,rfl,q,aE.ent.trans (e'.mono λb z=>by cases z)⟩
   |bad=>rw[hr]at q;exact q.elim
theorem zw{t:Str}{T:String}(h:rA t=some T):bootBuiltins t=some (.type T):=by
 unfold rA at h;split at h
 ·rename_i e;cases h;rw[QL e];exact PyProof.Rows.boot_str
 split at h
 ·rename_i e;cases h;rw[QL e];exact PyProof.Rows.boot_int
 split at h
 ·rename_i e;cases h;rw[QL e];exact PyProof.Rows.boot_bool
 split at h
 ·rename_i e;cases h;rw[QL e];exact PyProof.Rows.boot_list
 split at h
 ·rename_i e;cases h;rw[QL e];exact PyProof.Rows.boot_tuple
 ·cases h
theorem A8{t:Str}{T:String}(h:rA t=some T):T="str"\/T="int"\/T="bool"\/T="list"\/T="tuple":=by
 unfold rA at h;split at h
 ·cases h;simp
 split at h
 ·cases h;simp
 split at h
 ·cases h;simp
 split at h
 ·cases h;simp
 split at h
 ·cases h;simp
 ·cases h
theorem De{K:Frag}{A:Addr->Prop}{H:Hp}{x:V}{d:Dt}{T:String}{b:Bool}(hT:T="str"\/T="int"\/T="bool"\/T="list"\/T="tuple")(hx:RV K A H x d)(h:uG T d= .ok b):∃t,gM K H x t/\PySem.W.kitOne K t (.type T)=some b:=by
 unfold uG at h;split at h
 ·cases h;rw[hx.str_inv];refine⟨_,.str _,?_⟩;rcases hT with rfl|rfl|rfl|rfl|rfl<;>rfl
 ·cases h;rw[hx.int_inv];refine⟨_,.int _,?_⟩;rcases hT with rfl|rfl|rfl|rfl|rfl<;>rfl
 ·cases h;rw[hx.aC];refine⟨_,.bl _,?_⟩;rcases hT with rfl|rfl|rfl|rfl|rfl<;>rfl
 ·cases h;obtain⟨a,xs,rfl,h1,_⟩:=hx.lst_inv;refine⟨_,.lst h1,?_⟩;rcases hT with rfl|rfl|rfl|rfl|rfl<;>rfl
 ·cases h;obtain⟨a,xs,rfl,h1,_⟩:=hx.ag;refine⟨_,.tup h1,?_⟩;rcases hT with rfl|rfl|rfl|rfl|rfl<;>rfl
 ·cases h;rw[hx.aI];refine⟨_,.bz,?_⟩;rcases hT with rfl|rfl|rfl|rfl|rfl<;>rfl
 ·cases h
theorem Ab(T:String)(d:Dt):∀k,uG T d≠ .ex k:=by intro k;unfold uG;split<;>(intro z;cases z)
theorem Ho{a:Expr}{a':C}{t:Str}{T:String}{p tp pos:Pos}(hK:Φ.K=X.K)(hG:Gl X "isinstance")(hm:X.mg "isinstance"=none)(NW:Gl X t)(OE:X.mg t=none)(hT:rA t=some T)(hn:t≠"__name__")(oQ:(t==("__debug__":Str))=false)
  (hs:starEach (a::[.Name t tp]) X.env=(false,eval a X.env)::starEach [.Name t tp] X.env) (ha:PE X a (bL Φ Γ F g.fr a')):PE X (.Call (.Name "isinstance" p) [a,.Name t tp] [] pos) (bL Φ Γ F g.fr (.bi (.isi T) (.cons a' .nil))):=by
 refine bp (kA Mx.vO hG hm PyProof.Rows.boot_isinstance (bR ha (bR (tv (v:=.ty T) NW OE (zw hT) rfl hn oQ) dR) hs) (by decide) (by decide) hs) λσ H Q q=>?_
 obtain⟨o,ρ,S,er,q⟩:=q;unfold ev fU fU at q;rw[ae,ae]at q;refine⟨o,ρ,S,er,ah q λp hp q x H1 ba aE=>?_⟩;simp only[R.ai]at q;have q:mR Φ.Ek ((c8 (.isi T) [p.1]).bind λd=>R.ok (d,p.2)) _:=q;unfold c8 at q;simp only at q;rw[ae,ae]at q;obtain⟨b,hb,q⟩:=ij (Ab _ _) q;obtain⟨ty,k1,k2⟩:=De (A8 hT) (hK▸ba.val) hb;refine⟨x,T,ty,b,rfl,k1,k2,q _ _ ?_ aE⟩;exact(EO.sc (Φ:=Φ) (fr:=g.fr) (o:=o) (H:=H1) (c:=.bi (.isi T) (.cons a' .nil)) (d:=.bl b) rfl).uy ba.ext λf=>by simp[fresh]at f
theorem boot_set:bootBuiltins "set"=some (.type "set"):=by decide +kernel
noncomputable def HR(te:TE):TE:=λσ H Q=>te σ H λv H1=>∃b l ys,v= .ref l/\H1 l=some (Mx.n8 b (ys.map V.str))/\ys.length<64/\∀n zs es,H1 n=none->Mx.aR H1 zs es->es=a6 ((dd ys).map Mx.D.str)->Q (.ref n) (upd H1 n (.lst zs))
theorem Au{e:Expr}{te:TE}{p p2 pos qW:Pos}(hc:X.calm=true)(hu:X.A.units+150<cLine)(hg:Gl X "sorted")(hm:X.mg "sorted"=none)(za:Gl X "set")(Gi:X.mg "set"=none)(he:PE X e te)
  (hs:starEach [e] X.env=[(false,eval e X.env)]) (zV:starEach [.Call (.Name "set" p2) [e] [] qW] X.env=[(false,eval (.Call (.Name "set" p2) [e] [] qW) X.env)]:=by rfl):
  PE X (.Call (.Name "sorted" p) [.Call (.Name "set" p2) [e] [] qW] [] pos) (HR te):=by
 intro pins s σ H Q I h;refine SR (gv I hg hm PyProof.Rows.boot_sorted ?_ (by decide) (by decide));refine PyProof.Rows.callWith_builtin1 ?_ (by rw[zV];rfl) (by rfl);rw[zV];show wpAny _ _ (spliced ((false,eval (.Call (.Name "set" p2) [e] [] qW) X.env)::backTo pos [])) _ _ s;refine Calls.spliced_cons ?_;refine SR (gv I za Gi boot_set ?_ (by decide) (by decide));refine Sq ?_ (by rw[hs];rfl) (by rfl);rw[hs];show wpAny _ _ (spliced ((false,eval e X.env)::backTo qW [])) _ _ s;refine Calls.spliced_cons (bN (he pins s σ H _ I h) λu s1⟨v,H1,I1,r1,b,l,ys,e1,hl,hlen,q⟩=>?_);subst e1;cases r1;refine Calls.spliced_nil ?_;obtain⟨its,r',pl⟩:=Mx.eR I1 hl;have MV:its.toArray.size=ys.length:=by have:=r'.length;rw[Qx]at this;simp[this]
 refine Mx.mH (I1.ok.hd hc) pl (by simpa using r') (by rw[MV];unfold scanBound;lia) λh' tk ks hS CY kk=>?_
 refine Calls.spliced_nil ?_;have I2:Inv X pins σ H1 {s1 with heap:=h',toks:=tk}:=I1.kept kk;have jk:ks.Nodup:=by obtain⟨_,_,_,_,z,_⟩:=hS;exact z
 have pm:ks.Perm (dd ys):=lu jk (jZ ys) λx=>(CY x).trans (mT ys x).symm
 refine Mx.rf hu hc I2 hS (by rw[pm.length_eq];exact Nat.lt_of_le_of_lt (mQ ys) hlen) λn zs es hn hz hso=>q n zs es hn hz ?_
 exact pF ⟨hso.1.trans (pm.map _),hso.2⟩
theorem qy{K:Frag}{A:Addr->Prop}{H:Hp}{x:V}{d:Dt}{ds:List Dt}(h:bV d=some ds)(hv:RV K A H x d):∃b l xs,x= .ref l/\H l=some (Mx.n8 b xs)/\ak K A H xs ds:=by
 unfold bV at h;split at h
 ·cases h;obtain⟨a,xs,rfl,f1,fn,f2⟩:=hv.lst_inv;exact⟨false,a,xs,rfl,f1,f2⟩
 ·cases h;obtain⟨a,xs,rfl,f1,f2⟩:=hv.ag;exact⟨true,a,xs,rfl,f1,f2⟩
 ·cases h
theorem Eb{a:Expr}{a':C}{p p2 pos qW:Pos}(hK:Φ.K=X.K)(hc:X.calm=true)(hu:X.A.units+150<cLine)(hG:Gl X "sorted")(hm:X.mg "sorted"=none)(NV:Gl X "set")(Gi:X.mg "set"=none)(hs:starEach [a] X.env=[(false,eval a X.env)])(ha:PE X a (bL Φ Γ F g.fr a')):
  PE X (.Call (.Name "sorted" p) [.Call (.Name "set" p2) [a] [] qW] [] pos) (bL Φ Γ F g.fr (.bi .sset (.cons a' .nil))):=by
 refine bp (Au hc hu hG hm NV Gi ha hs) λσ H Q q=>?_
 obtain⟨o,ρ,S,er,q⟩:=q;unfold ev fU fU at q;rw[ae,ae]at q;refine⟨o,ρ,S,er,ah q λp hp q x H1 ba aE=>?_⟩;simp only[R.ai]at q;have q:mR Φ.Ek ((c8 .sset [p.1]).bind λd=>R.ok (d,p.2)) _:=q;unfold c8 at q;simp only at q;split at q
 ·rename_i ds CQ;split at q
  ·rename_i ys hys;rw[ae]at q;obtain⟨gl,q⟩:=aJ q;obtain⟨b,l,xs,rfl,f1,f2⟩:=qy CQ ba.val;rw[pG f2 hys]at f1;refine⟨b,l,ys,rfl,f1,Qr gl,λn zs es hn hz J2=>?_⟩;have pr:PR Φ.K true [.ref l] [p.1] H1 (.lst (aa es)) (.ref n) (upd H1 n (.lst zs)):=PR.o7 hn λA w=>ak.nG hz
   have hl:=xi (b:=.sset) (cs:=.cons a' .nil);have el:lZ (.cons a' .nil)=max (lk a') 0:=by rw[lZ,lZ]
   obtain⟨e1,e2⟩:=EO.pr (fr:=g.fr) (H:=H) (c:=.bi .sset (.cons a' .nil)) aE ba.ext (ak.cons ba.val ak.nil) (λl=>⟨ba.uX (by have:=hl.2 l;lia),trivial⟩) hl.1 pr λ_=>rfl
   rw[J2]at e1;exact q _ _ e1 e2
  ·exact q.elim
 ·exact q.elim
end
noncomputable def KQ(K:Frag)(tl:TE):TI:=λσ H R=>tl σ H λx H1=>(∃a xs,x= .ref a/\dy K H1 a xs/\R (Iu K a) H1)\/(∃a xs,x= .ref a/\dY K H1 a xs/\R (Jz K a) H1)
theorem DQ{X:Cx}{tg l:Expr}{tl:TE}(hl:PE X l tl):PI X tg l (KQ X.K tl):=by
 intro pins s σ H R I h;refine bN (hl pins s σ H _ I h) λv s1⟨x,H1,I1,r1,q1⟩=>?_
 rcases q1 with ⟨a,xs,e,hq,q⟩|⟨a,xs,e,hq,q⟩
 ·subst e;cases r1;obtain⟨its,rv,p,hz⟩:=I1.list hq;refine S6 p.isList ?_;refine⟨s1.heap.objs.size,[s1.heap.objs.size],_,_,H1,rfl,I1.kept (t':=s1.toks) λb o e=>Qn _ e,u3 a _,⟨_,Qw _ rfl,rfl,rfl⟩,λb hb=>?_,q⟩;have e:b=s1.heap.objs.size:=by simpa using hb
  subst e;exact I1.uz (Qu _) (I1.hok.fresh (Qu _))
 ·subst e;cases r1;obtain⟨its,rv,p,hz⟩:=I1.tuple hq;refine S7 (show s1.heap.IsTuple a its.toArray from p) ?_;refine⟨s1.heap.objs.size,[s1.heap.objs.size],_,_,H1,rfl,I1.kept (t':=s1.toks) λb o e=>Qn _ e,rn a _,⟨_,Qw _ rfl,rfl,rfl⟩,λb hb=>?_,q⟩;have e:b=s1.heap.objs.size:=by simpa using hb
  subst e;exact I1.uz (Qu _) (I1.hok.fresh (Qu _))
section
variable{X:Cx}{Φ:Fm}{Γ:Gm}{F:FT}{g:G}{xv:Nat->Value}{CX:jt}{k:Nat}{K:Frag}
theorem tW{A Y:Addr->Prop}{a:Addr}{xs:List V}{ds:List Dt}{H:Hp}(ha:H a=some (.lst xs))(hn:¬Y a)(hY:∀b,Y b->A b)(h:ak K A H xs ds):Wk K A Y (Iu K a) H ds where
 go:=λi H1 hi e=>⟨xs,xs[i]'(by rw[h.length];exact hi),dy.of (e.kp _ _ ha hn),by simp⟩
 stop:=λH1 e=>⟨xs,dy.of (e.kp _ _ ha hn),by rw[h.length];exact Qu _⟩
 yld:=λi x H1 H2 hi e y=>by obtain⟨rfl,y⟩:=y;obtain⟨d,h1,h2⟩:=h.get (y xs (dy.of (e.kp _ _ ha hn)));exact⟨bu.refl _,d,h1,λB hB=>(h2.cu (B:=λb=>A b\/B b) λb z=>z.elim .inl (hB b)).mono e (λb z=>.inl (hY b z)) λ_ z=>.inr z⟩
theorem rE{A Y:Addr->Prop}{a:Addr}{xs:List V}{ds:List Dt}{H:Hp}(ha:H a=some (.tup xs))(hY:∀b,Y b->A b)(h:ak K A H xs ds):Wk K A Y (Jz K a) H ds where
 go:=λi H1 hi e=>⟨xs,xs[i]'(by rw[h.length];exact hi),dY.of (e.tp _ _ ha),by simp⟩
 stop:=λH1 e=>⟨xs,dY.of (e.tp _ _ ha),by rw[h.length];exact Qu _⟩
 yld:=λi x H1 H2 hi e y=>by obtain⟨rfl,y⟩:=y;obtain⟨d,h1,h2⟩:=h.get (y xs (dY.of (e.tp _ _ ha)));exact⟨bu.refl _,d,h1,λB hB=>(h2.cu (B:=λb=>A b\/B b) λb z=>z.elim .inl (hB b)).mono e (λb z=>.inl (hY b z)) λ_ z=>.inr z⟩
theorem yL{A Y:Addr->Prop}{a:Addr}{ns:List Int}{H:Hp}(ha:(Rd H a (.lst (ns.map V.int))/\¬Y a)\/KL K a (ns.map V.int)):Wk K A Y (Iu K a) H (ns.map Dt.int):=by
 have sq:∀H1,aX Y H H1->dy K H1 a (ns.map V.int):=λH1 e=>by
  rcases ha with ⟨h,n⟩|h
  ·exact .inl (yc e n h)
  ·exact .inr h
 refine⟨λi H1 hi e=>?_,λH1 e=>⟨_,sq H1 e,by simp⟩,λi x H1 H2 hi e y=>?_⟩
 ·rw[Qx]at hi;exact⟨_,.int ns[i],sq H1 e,by simp[hi]⟩
 ·obtain⟨rfl,y⟩:=y;have:=y _ (sq _ e);rw[QH]at this;obtain⟨m,h1,rfl⟩:=QD.mp this;exact⟨bu.refl _,.int m,by simp[h1],λ_ _=>RV.dP⟩
theorem rD{A Y:Addr->Prop}{lo:Int}{n:Nat}{H:Hp}:Wk K A Y (Iv lo n) H (bf lo n) where
 go:=λi H1 hi e=>by unfold bf at hi;simp at hi;exact hi
 stop:=λH1 e=>by unfold bf;simp only[Qx,RM];exact Qu _
 yld:=λi x H1 H2 hi e y=>by obtain⟨rfl,rfl⟩:=y;unfold bf at hi;simp at hi;exact⟨bu.refl _,.int (lo+i),by unfold bf;simp[hi],λ_ _=>RV.dP⟩
theorem yf{tg a:Expr}{a':C}(hK:Φ.K=X.K)(ha:PE X a (bL Φ Γ F g.fr a')):PI X tg a (rj Φ Γ F (.seq a')):=qT (DQ ha) λσ H Q q=>by
 obtain⟨o,ρ,S,er,q⟩:=q;unfold fq at q;rw[ae]at q;refine⟨o,ρ,S,er,ah q λp he q x H1 ba aE=>?_⟩;have zc:vk (.seq a')=lk a':=rfl;cases hd:p.1 with
 |lst ds=>
  rw[hd]at q;have hv:=ba.val;have h0:=ba.mn;have h1:=ba.uX;rw[hd]at hv h0 h1;obtain⟨b,xs,rfl,f1,fn,f2⟩:=hv.lst_inv;refine .inl ⟨b,xs,rfl,dy.of f1,q _ _ ⟨ba.ext,λl=>?_,λl=>?_,λl=>by unfold jh at l;rw[he]at l;simp only[hd,fI]at l;cases l⟩ aE⟩
  ·rw[<-hK];exact tW f1 (λz=>fn (.inr z)) aE.da (ft.aM (h1 (by rw[zc]at l;exact l)) f1)
  ·rw[<-hK];have:=h0 (by rw[zc]at l;exact l);obtain⟨b',u9,e',g1,gn,g2⟩:=this.lst_inv;cases e';exact tW g1 gn (λ_ z=>z) g2
 |tup ds=>
  rw[hd]at q;have hv:=ba.val;have h0:=ba.mn;have h1:=ba.uX;rw[hd]at hv h0 h1;obtain⟨b,xs,rfl,f1,f2⟩:=hv.ag;refine .inr ⟨b,xs,rfl,dY.of f1,q _ _ ⟨ba.ext,λl=>?_,λl=>?_,λl=>?_⟩ aE⟩
  ·rw[<-hK];exact rE f1 aE.da (ft.ar (h1 (by rw[zc]at l;exact l)) f1)
  ·rw[<-hK];exact rE f1 (λ_ z=>z) (ft.ar (h0 (by rw[zc]at l;exact l)).one f1)
  ·rw[<-hK];unfold jh at l;rw[he]at l;simp only[hd]at l;exact rE f1 (λ_ z=>z) (ft.ar (hv.fI l:RV Φ.K o.A H1 (.ref b) (.tup ds)).one f1)
 |aQ ns=>
  rw[hd]at q;have hv:=ba.val;have h0:=ba.mn;rw[hd]at hv h0;obtain⟨b,rfl,hb⟩:=hv.fX;have IZ:dy X.K H1 b (ns.map V.int):=by
   rw[<-hK];rcases hb with hb|hb
   ·exact .inl hb.1
   ·exact .inr hb
  refine .inl ⟨b,_,rfl,IZ,q _ _ ⟨ba.ext,λl=>?_,λl=>?_,λl=>by unfold jh at l;rw[he]at l;simp only[hd,fI]at l;cases l⟩ aE⟩
  ·rw[<-hK];exact yL (hb.imp (λz=>⟨z.1,λw=>z.2 (.inr w)⟩) id)
  ·rw[<-hK];obtain⟨b',e',sG⟩:=(h0 (by rw[zc]at l;exact l)).fX;cases e';exact yL sG
 |_=>rw[hd]at q;exact q.elim
theorem D8{tg a:Expr}{a':C}{p pos:Pos}(hG:Gl X "range")(hm:X.mg "range"=none)(hs:starEach [a] X.env=[(false,eval a X.env)])(ha:PE X a (bL Φ Γ F g.fr a')):PI X tg (.Call (.Name "range" p) [a] [] pos) (rj Φ Γ F (.rng1 a')):=
 qT (uQ hG hm (bR ha dR (by rw[hs];rfl)) hs) λσ H Q q=>by
 obtain⟨o,ρ,S,er,q⟩:=q;unfold fq at q;rw[ae]at q;refine⟨o,ρ,S,er,ah q λp _ q x H1 ba aE=>?_⟩;cases hd:p.1 with
 |int j=>rw[hd]at q;obtain⟨g1,q⟩:=aJ q;rw[Qp]at g1;have a1:=Qr g1.1;have a2:=Qr g1.2;have hl:lim=1000000:=rfl;have hv:=ba.val;rw[hd]at hv;exact⟨j,by rw[hv.int_inv],by lia,by lia,q _ _ ⟨ba.ext,λ_=>rD,λ_=>rD,λ_=>rD⟩ aE⟩
 |_=>rw[hd]at q;exact q.elim
theorem yM{A Y:Addr->Prop}{b1 b2:Bool}{l1 l2:Addr}{xs ys:List V}{ds es:List Dt}{H:Hp}(h1:H l1=some (Mx.n8 b1 xs))(h2:H l2=some (Mx.n8 b2 ys))(n1:b1=false->¬Y l1)(n2:b2=false->¬Y l2)(hY:∀b,Y b->A b)(g1:ak K A H xs ds)(g2:ak K A H ys es):Wk K A Y (Mx.Jy b1 b2 l1 l2) H (iJ ds es):=by
 have k1:∀H1,aX Y H H1->H1 l1=some (Mx.n8 b1 xs):=λH1 e=>by
  cases b1 with
  |false=>exact e.kp _ _ h1 (n1 rfl)
  |true=>exact e.tp _ _ h1
 have k2:∀H1,aX Y H H1->H1 l2=some (Mx.n8 b2 ys):=λH1 e=>by
  cases b2 with
  |false=>exact e.kp _ _ h2 (n2 rfl)
  |true=>exact e.tp _ _ h2
 have hz:(iJ ds es).length=min xs.length ys.length:=by unfold iJ;rw[List.length_zipWith,g1.length,g2.length]
 refine⟨λi H1 hi e=>?_,λH1 e=>?_,λi x H1 H2 hi e y=>?_⟩
 ·rw[hz]at hi;exact⟨xs,ys,xs[i]'⋯,ys[i]'⋯,k1 H1 e,k2 H1 e,by simp,by simp⟩
 ·exact⟨xs,ys,k1 H1 e,k2 H1 e,by lia⟩
 ·obtain⟨p,x1,y1,rfl,hp,rfl,q⟩:=y;obtain⟨q1,q2⟩:=q xs ys (k1 H1 e) (k2 H1 e);obtain⟨d,a1,a2⟩:=g1.get q1;obtain⟨c,c1,c2⟩:=g2.get q2;have s:=Mx.bE hp (.tup [x1,y1]);refine⟨s,.tup [d,c],by unfold iJ;rw[List.getElem?_zipWith,a1,c1],λB hB=>RV.dE ax ?_⟩;have av:∀{v:V}{dd:Dt},RV K A H v dd->RV K B (upd H1 p (.tup [x1,y1])) v dd:=λh=>((h.cu (B:=λb=>A b\/B b) λb z=>z.elim .inl (hB b)).mono e (λb z=>.inl (hY b z)) λ_ z=>.inr z).same s
  exact ak.cons (av a2) (ak.cons (av c2) ak.nil)
theorem ej{A B:Addr->Prop}{H:Hp}{x:V}{d:Dt}{ds:List Dt}(h:bV d=some ds)(hv:RV K A H x d)(h1:ft K B H x d):∃b l xs,x= .ref l/\H l=some (Mx.n8 b xs)/\(b=false->¬A l)/\ak K B H xs ds:=by
 unfold bV at h;split at h
 ·cases h;obtain⟨a,xs,rfl,f1,fn,f2⟩:=hv.lst_inv;exact⟨false,a,xs,rfl,f1,λ_=>fn,ft.aM h1 f1⟩
 ·cases h;obtain⟨a,xs,rfl,f1,f2⟩:=hv.ag;exact⟨true,a,xs,rfl,f1,λz=>(by cases z),ft.ar h1 f1⟩
 ·cases h
theorem Hz{es:List Expr}{kk:Nat}{tp:Pos}{a b:Expr}{a' b':C}{p pos:Pos}(hK:Φ.K=X.K)(hG:Gl X "zip")(hm:X.mg "zip"=none)(hs:starEach [a,b] X.env=[(false,eval a X.env),(false,eval b X.env)])(zV:starEach [b] X.env=[(false,eval b X.env)])(ha:PE X a (bL Φ Γ F g.fr a'))(hb:PE X b (bL Φ Γ F g.fr b')):
  PI X (.Tuple es kk tp) (.Call (.Name "zip" p) [a,b] [] pos) (rj Φ Γ F (.zip a' b')):=
 qT (Mx.Ay hG hm (bR ha (bR hb dR (by rw[zV];rfl)) (by rw[hs,zV])) hs zV) λσ H Q q=>by
 obtain⟨o,ρ,S,er,q⟩:=q;unfold fq at q;rw[ae]at q;refine⟨o,ρ,S,er,ah q λp _ q x H1 ba aE=>?_⟩;rw[ae]at q;refine⟨o,ρ,p.2,aE,ah q λp2 _ q y H2 eo2 fg=>?_⟩;have zc:vk (.zip a' b')=max (lk a') (lk b'):=rfl;split at q
 ·rename_i ds es e1 e2;obtain⟨k1,k2,k3⟩:=ba.keep eo2.ext er.gF;obtain⟨c1,l1,xs,rfl,f1,NH,f2⟩:=ej e1 k1 k1.one;obtain⟨c2,l2,ys,rfl,g1,NL,g2⟩:=ej e2 eo2.val eo2.val.one;refine⟨c1,c2,l1,l2,xs,ys,rfl,f1,g1,q _ _ ⟨ba.ext.trans eo2.ext,λl=>?_,λl=>?_,λl=>by unfold jh at l;cases l⟩ fg⟩
  ·rw[zc]at l;obtain⟨Fu,Pa,u9,e',CG,_,J5⟩:=ej e1 k1 (k3 ⋯);obtain⟨Fv,Pb,Jn,EU,CL,_,J8⟩:=ej e2 eo2.val (eo2.uX ⋯);cases e';cases EU;have i1:c1=Fu/\xs=u9:=by rw[f1]at CG;cases c1<;>cases Fu<;>first|(cases CG;exact⟨rfl,rfl⟩)|cases CG
   have i2:c2=Fv/\ys=Jn:=by rw[g1]at CL;cases c2<;>cases Fv<;>first|(cases CL;exact⟨rfl,rfl⟩)|cases CL
   obtain⟨rfl,rfl⟩:=i1;obtain⟨rfl,rfl⟩:=i2;exact yM f1 g1 (λz w=>NH z (.inr w)) (λz w=>NL z (.inr w)) fg.da J5 J8
  ·rw[zc]at l;obtain⟨Fu,Pa,u9,e',CG,GS,J5⟩:=ej e1 (k2 ⋯) (k2 ⋯).one;obtain⟨Fv,Pb,Jn,EU,CL,Dw,J8⟩:=ej e2 (eo2.mn ⋯) (eo2.mn ⋯).one;cases e';cases EU;have i1:c1=Fu/\xs=u9:=by rw[f1]at CG;cases c1<;>cases Fu<;>first|(cases CG;exact⟨rfl,rfl⟩)|cases CG
   have i2:c2=Fv/\ys=Jn:=by rw[g1]at CL;cases c2<;>cases Fv<;>first|(cases CL;exact⟨rfl,rfl⟩)|cases CL
   obtain⟨rfl,rfl⟩:=i1;obtain⟨rfl,rfl⟩:=i2;exact yM f1 g1 GS Dw (λ_ z=>z) J5 J8
 ·exact q.elim
end
noncomputable def pJ:List Nat->t7
 |[]=>CM
 |i::is=>wx (d7 i) (pJ is)
noncomputable def E8(K:Frag):Tg->TG
 |.nm i=>d7 i
 |.tp is=>CN K is.length (pJ is)
section
variable{X:Cx}{Φ:Fm}{Γ:Gm}{F:FT}{g:G}{xv:Nat->Value}{CX:jt}{k:Nat}{K:Frag}
theorem fN{x:Str}{i:Nat}(h:fj Γ x=some i):xl (Γ.names.lookup x)=true/\cY x=true/\Γ.N[i]?=some x:=by
 unfold fj at h;split at h
 ·rename_i c;rw[Qp]at c;exact⟨c.1,c.2,jE h⟩
 ·cases h
theorem jK{x:Str}{i:Nat}(h:slot Γ x=some i):yJ (Γ.names.lookup x)=true/\cY x=true/\Γ.N[i]?=some x:=by
 unfold slot at h;split at h
 ·rename_i c;rw[Qp]at c;exact⟨c.1,c.2,jE h⟩
 ·cases h
theorem iw{e:Expr}{i:Nat}(h:ph Γ e=some i):∃x p,e= .Name x p/\fj Γ x=some i/\plainS Γ i=true:=by
 unfold ph at h;split at h
 ·rename_i x p;obtain⟨j,h1,h2⟩:=Qm.mp h;split at h2
  ·cases h2;exact⟨x,p,rfl,h1,by assumption⟩
  ·cases h2
 ·cases h
theorem BU{e:Expr}{i:Nat}(gx:GX g Γ X)(h:ph Γ e=some i):PG X e (d7 i):=by obtain⟨x,p,rfl,h1,_⟩:=iw h;obtain⟨a,b,c⟩:=fN h1;obtain⟨l1,l2⟩:=gx.loc x a;exact Av (gx.N▸gx.nd) (by rw[gx.N];exact c) l1 l2
theorem yg(gx:GX g Γ X):∀{es:List Expr}{is:List Nat},fD Γ es=some is->EI X es (pJ is)/\es.length=is.length/\∀e∈es,∃x p,e= .Name x p
 |[],is,h=>by cases h;exact⟨Ax,rfl,λe z=>by cases z⟩
 |e::es,is,h=>by
  unfold fD at h;obtain⟨i,h1,h2⟩:=Qm.mp h;obtain⟨js,h3,rfl⟩:=QD.mp h2;obtain⟨k1,k2,k3⟩:=yg gx h3;obtain⟨x,p,ex,_⟩:=iw h1;refine⟨xQ (BU gx h1) k1 (by subst ex;rfl),by simp[k2],λe' z=>?_⟩;rcases QA.mp z with rfl|z
  ·exact⟨x,p,ex⟩
  ·exact k3 e' z
theorem gy{env:Env}:∀{es:List Expr},(∀e∈es,∃x p,e=Expr.Name x p)->(assignEach es env).length=es.length/\(assignEach es env).findIdx? (·.1)=none
 |[],_=>⟨rfl,rfl⟩
 |e::es,h=>by
  obtain⟨x,p,rfl⟩:=h e Qv;obtain⟨h1,h2⟩:=gy (es:=es) (env:=env) λe' z=>h e' (Qt _ z)
  have q:assignEach (Expr.Name x p::es) env=(false,assign (.Name x p) env)::assignEach es env:=rfl;rw[q];refine⟨by simp[h1],?_⟩;rw[List.findIdx?_cons];simp[h2]
theorem Ec{e:Expr}{t:Tg}(gx:GX g Γ X)(h:vK Γ e=some t):PG X e (E8 X.K t):=by
 unfold vK at h;split at h
 ·obtain⟨i,h1,rfl⟩:=QD.mp h;exact BU gx h1
 ·obtain⟨is,h1,rfl⟩:=QD.mp h;obtain⟨k1,k2,k3⟩:=yg gx h1;obtain⟨n1,n2⟩:=gy (env:=X.env) k3;exact xP gx.calm k1 (by rw[n1,k2]) n2
 ·cases h
theorem iG{e:Expr}{t:Tg}(h:vK Γ e=some t):∀i∈bT t,plainS Γ i=true/\∃x,fj Γ x=some i:=by
 have many:∀{es:List Expr}{is:List Nat},fD Γ es=some is->∀i∈is,plainS Γ i=true/\∃x,fj Γ x=some i:=by
  intro es
  induction es with
  |nil=>intro is h i hi;cases h;cases hi
  |cons e es ih=>
   intro is h i hi;unfold fD at h;obtain⟨j,h1,h2⟩:=Qm.mp h;obtain⟨js,h3,rfl⟩:=QD.mp h2;rcases QA.mp hi with rfl|hi
   ·obtain⟨x,p,_,k1,k2⟩:=iw h1;exact⟨k2,x,k1⟩
   ·exact ih h3 i hi
 unfold vK at h;split at h
 ·obtain⟨j,h1,rfl⟩:=QD.mp h;intro i hi;have:i=j:=by simpa [bT]using hi
  subst this;obtain⟨x,p,_,k1,k2⟩:=iw h1;exact⟨k2,x,k1⟩
 ·obtain⟨is,h1,rfl⟩:=QD.mp h;exact many h1
 ·cases h
theorem iy{i:Nat}(h:plainS Γ i=true):fh Γ i=false/\Γ.δ≠some i:=by unfold plainS at h;rw[Qp]at h;refine⟨by simpa using h.1,λe=>?_⟩;rw[e]at h;simp at h
theorem ER.set{o:Ow}{ρ:aj}{S:Sx}{σ:L2.St}{H:Hp}{i:Nat}{v:V}{d:Dt}(er:ER Φ Γ o ρ S σ H)(hp:plainS Γ i=true)(h:RV Φ.K o.A H v d):ER Φ Γ o (ρ.set i (some d)) S (σ.set i (some v)) H where
 len:=by rw[RP,RP];exact er.len
 wa:=er.wa
 da:=er.da
 al:=er.al
 val:=λj e he=>by
  by_cases hj:j=i
  ·subst hj;rw[RG]at he;simp only[SI]at he;split at he
   ·rename_i cU;cases he;refine⟨v,by rw[Q8 (by rw[er.len];exact cU)],?_⟩;rw[(iy hp).1,SF (by simp)];exact h
   ·cases he
  ·rw[QF (Sn hj)]at he;obtain⟨w,h1,h2⟩:=er.val j e he;exact⟨w,by rw[QF (Sn hj)];exact h1,h2⟩
 inj:=λa b c e f ha hb h1 h2 h3 h4=>by
  have na:a≠i:=λz=>by rw[z,(iy hp).1]at ha;cases ha
  have nb:b≠i:=λz=>by rw[z,(iy hp).1]at hb;cases hb
  rw[QF (Sn na)]at h1 h3;rw[QF (Sn nb)]at h2 h4;exact er.inj a b c e f ha hb h1 h2 h3 h4
 dk:=Dk.set er.dk h.nd
 drw:=er.drw
 drn:=er.drn
 drs:=λj a hj ha=>by rw[QF (λz=>(iy hp).2 (by rw[z];exact hj))];exact er.drs j a hj ha
 dr0:=er.dr0
 ent:=er.ent
theorem jM{o:Ow}{S:Sx}{H:Hp}{Q:L2.St->Hp->Prop}:∀{is:List Nat}{ds:List Dt}{xs:List V}{ρ ρ1:aj}{σ:L2.St},ER Φ Γ o ρ S σ H->(∀i∈is,plainS Γ i=true)->ak Φ.K o.A H xs ds->fL is ds ρ= .ok ρ1->(∀σ1,ER Φ Γ o ρ1 S σ1 H->(∀k,k∉is->σ1[k]?=σ[k]?/\ρ1[k]?=ρ[k]?)->Q σ1 H)->pJ is xs σ H Q/\xs.length=is.length
 |[],ds,xs,ρ,ρ1,σ,er,_,hx,h,q=>by
  cases ds with
  |nil=>cases h;rw[hx.nil_inv];exact⟨⟨rfl,q σ er λ_ _=>⟨rfl,rfl⟩⟩,rfl⟩
  |cons=>cases h
 |i::is,ds,xs,ρ,ρ1,σ,er,hp,hx,h,q=>by
  cases ds with
  |nil=>cases h
  |cons d ds=>
   obtain⟨x,r,rfl,h1,h2⟩:=hx.cons_inv;obtain⟨k1,k2⟩:=jM (er.set (hp i Qv) h1) (λj hj=>hp j (Qt _ hj)) h2 h λσ1 aE hk=>q σ1 aE λk EY=>by
    have n1:k≠i:=λz=>EY (by rw[z];exact Qv)
    obtain⟨a1,a2⟩:=hk k λz=>EY (Qt _ z)
    rw[QF (Sn n1)]at a1 a2;exact⟨a1,a2⟩
   exact⟨⟨x,r,rfl,k1⟩,by simp[k2]⟩
theorem yD{o:Ow}{S:Sx}{H:Hp}{Q:L2.St->Hp->Prop}{t:Tg}{d:Dt}{x:V}{ρ ρ1:aj}{σ:L2.St}(er:ER Φ Γ o ρ S σ H)(hp:∀i∈bT t,plainS Γ i=true)(hx:RV Φ.K o.A H x d)(h:dG t d ρ= .ok ρ1)(q:∀σ1,ER Φ Γ o ρ1 S σ1 H->(∀k,k∉bT t->σ1[k]?=σ[k]?/\ρ1[k]?=ρ[k]?)->Q σ1 H):E8 Φ.K t x σ H Q:=by
 cases t with
 |nm i=>
  cases h;exact q _ (er.set (hp i (by simp[bT])) hx) λk hk=>by
   have n1:k≠i:=λz=>hk (by simp[bT,z])
   rw[QF (Sn n1),QF (Sn n1)];exact⟨rfl,rfl⟩
 |tp is=>
  unfold dG at h;cases d with
  |tup ds=>obtain⟨a,xs,rfl,h1,h2⟩:=hx.ag;obtain⟨k1,k2⟩:=jM er hp h2 h q;exact⟨a,xs,rfl,dY.of h1,k2,k1⟩
  |_=>cases h
theorem iB:∀(is:List Nat)(ds:List Dt)(ρ:aj)(k:Nat),fL is ds ρ≠ .ex k
 |[],[],_,_=>λz=>by cases z
 |[],_::_,_,_=>λz=>by cases z
 |_::_,[],_,_=>λz=>by cases z
 |_::is,_::ds,ρ,k=>iB is ds _ k
theorem pD(t:Tg)(d:Dt)(ρ:aj):∀k,dG t d ρ≠ .ex k:=by
 intro k;cases t with
 |nm i=>intro z;cases z
 |tp is=>
  cases d with
  |tup ds=>exact iB is ds ρ k
  |_=>intro z;cases z
theorem yo(is:List Nat)(d:Dt)(ρ:aj):∀k,yn is d ρ≠ .ex k:=by
 intro k;cases d with
 |tup ds=>exact iB is ds ρ k
 |lst ds=>exact iB is ds ρ k
 |_=>intro z;cases z
theorem AZ{o:Ow}{S:Sx}{H:Hp}{Q:L2.St->Hp->Prop}{is:List Nat}{d:Dt}{x:V}{ρ ρ1:aj}{σ:L2.St}(er:ER Φ Γ o ρ S σ H)(hp:∀i∈is,plainS Γ i=true)(hx:RV Φ.K o.A H x d)(h:yn is d ρ= .ok ρ1)(q:∀σ1,ER Φ Γ o ρ1 S σ1 H->(∀k,k∉is->σ1[k]?=σ[k]?/\ρ1[k]?=ρ[k]?)->Q σ1 H):Mx.sD Φ.K is.length (pJ is) x σ H Q:=by
 cases d with
 |tup ds=>obtain⟨a,xs,rfl,h1,h2⟩:=hx.ag;obtain⟨k1,k2⟩:=jM er hp h2 h q;exact⟨a,xs,rfl,.inl (dY.of h1),k2,k1⟩
 |lst ds=>obtain⟨a,xs,rfl,h1,_,h2⟩:=hx.lst_inv;obtain⟨k1,k2⟩:=jM er hp h2 h q;exact⟨a,xs,rfl,.inr (dy.of h1),k2,k1⟩
 |_=>cases h
theorem Hw{es:List Expr}{is:List Nat}{kk:Nat}{tp:Pos}(gx:GX g Γ X)(h:fD Γ es=some is):PG X (.Tuple es kk tp) (Mx.sD X.K is.length (pJ is)):=by obtain⟨k1,k2,k3⟩:=yg gx h;obtain⟨n1,n2⟩:=gy (env:=X.env) k3;exact Mx.Aw gx.calm k1 (by rw[n1,k2]) n2
theorem kf{Ek:Nat->Prop}{α:Type}{r:R α}{P:α->Prop}(nr:∀k,r≠ .ex k)(h:mR Ek r P):∃d,r= .ok d/\P d:=by
 cases r with
 |ok a=>exact⟨a,rfl,h⟩
 |ex k=>exact absurd rfl (nr k)
 |bad=>exact h.elim
theorem vG{sc:Scope}(gx:GX g Γ X)(hk:sc.kind= .function)(hb:zt sc.names Γ.names (bA Γ sc).1.N Γ.N (bA Γ sc).2=true):fv X sc (bA Γ sc).1.N (bA Γ sc).2:=by
 unfold zt at hb;rw[Qp,Qp]at hb;obtain⟨⟨h1,h2⟩,h3⟩:=hb;rw[QY]at h1 h3;refine⟨hk,λy hy=>?_,λy hy e=>?_,λj i hj=>?_,by simpa using h2⟩
 ·have:=h1 y hy;rw[Qp]at this;exact QL this.1
 ·have:=h1 y hy;rw[Qp,e]at this;have h:=this.2;simp at h;exact gx.fre y.1 h
 ·have cU:j<(bA Γ sc).2.length:=(Qs.mp hj).1;have:=h3 j (Q9.mpr cU);rw[hj]at this;simp only at this;cases hx:(bA Γ sc).1.N[j]? with
  |none=>rw[hx]at this;cases this
  |some x=>rw[hx]at this;simp only[Qp]at this;exact⟨x,rfl,by rw[gx.N];exact QL this.1,QL this.2⟩
theorem ni{sc:Scope}{C:Addr}{s:Shared}{H:Hp}{fp:List Addr}{xe:Value->Shared->Prop}(gx:GX g Γ X)(B:fv X sc (bA Γ sc).1.N (bA Γ sc).2)(jk:(bA Γ sc).1.N.Nodup):GX g (bA Γ sc).1 (f6 X sc (bA Γ sc).1.N C s H fp xe) where
 N:=rfl
 nd:=jk
 vis:=λx h=>by
  have hn:(bA Γ sc).1.names=sc.names:=rfl;rw[hn]at h;cases hl:sc.names.lookup x with
  |none=>rw[hl]at h;cases h
  |some kk=>
   have q:=aT (env:=X.env) hl;have q':(f6 X sc (bA Γ sc).1.N C s H fp xe).env.scope.names.lookup x=_:=q;by_cases hc:(kk==NameKind.free&&X.env.scope.kind== .function&&X.env.kindOf x==some .cell)=true
   ·rw[SH hc]at q';exact .inr (.inl q')
   ·rw[SF hc]at q';rw[hl]at h;cases kk with
    |«local»=>exact .inl q'
    |cell=>exact .inr (.inl q')
    |free=>exact .inr (.inr q')
    |globalExplicit=>cases h
    |globalImplicit=>cases h
 loc:=λx h=>by
  have hn:(bA Γ sc).1.names=sc.names:=rfl;rw[hn]at h;cases hl:sc.names.lookup x with
  |none=>rw[hl]at h;cases h
  |some kk=>
   have q:=aT (env:=X.env) hl;have q':(f6 X sc (bA Γ sc).1.N C s H fp xe).env.scope.names.lookup x=_:=q;rw[hl]at h;cases kk with
   |«local»=>rw[SF (by simp)]at q';exact⟨.inl q',.inr q'⟩
   |cell=>rw[SF (by simp)]at q';exact⟨.inr q',.inl (by show (sc.names.lookup x==some .cell)=true;rw[hl];rfl)⟩
   |free=>cases h
   |globalExplicit=>cases h
   |globalImplicit=>cases h
 gl:=λx h=>by
  have hn:(bA Γ sc).1.names=sc.names:=rfl;rw[hn]at h;cases hl:sc.names.lookup x with
  |none=>rw[hl]at h;cases h
  |some kk=>
   have q:=aT (env:=X.env) hl;have q':(f6 X sc (bA Γ sc).1.N C s H fp xe).env.scope.names.lookup x=_:=q;rw[hl]at h;cases kk with
   |globalImplicit=>rw[SF (by simp)]at q';exact q'
   |«local»=>cases h
   |cell=>cases h
   |free=>cases h
   |globalExplicit=>cases h
 fre:=λx h=>by
  have hn:(bA Γ sc).1.names=sc.names:=rfl;rw[hn]at h;rcases h with hl|hl
  ·have q:=aT (env:=X.env) hl;have q':(f6 X sc (bA Γ sc).1.N C s H fp xe).env.scope.names.lookup x=_:=q;rw[SF (by simp)]at q';exact .inl q'
  ·have q:=aT (env:=X.env) hl;have q':(f6 X sc (bA Γ sc).1.N C s H fp xe).env.scope.names.lookup x=_:=q;by_cases hc:(NameKind.free==NameKind.free&&X.env.scope.kind== .function&&X.env.kindOf x==some .cell)=true
   ·rw[SH hc]at q';exact .inl q'
   ·rw[SF hc]at q';exact .inr q'
 calm:=gx.calm
 un:=gx.un
 con:=gx.con
 bl:=gx.bl
end
theorem join_some{α:Type}{o:Option (Option α)}{a:α}(h:o.join=some a):o=some (some a):=by
 cases o with
 |none=>cases h
 |some x=>cases x with
  |none=>cases h
  |some y=>simp at h;rw[h]
theorem fw{cap:List (Option Nat)}{ρ:aj}{j:Nat}{d:Dt}(h:(jU cap ρ)[j]?=some (some d)):∃i,cap[j]?=some (some i)/\ρ[i]?=some (some d):=by
 unfold jU at h;rw[QH]at h;cases hc:cap[j]? with
 |none=>rw[hc]at h;cases h
 |some o=>
  rw[hc]at h;cases o with
  |none=>cases h
  |some i=>refine⟨i,rfl,join_some ?_⟩;simpa using h
theorem dZ{cap:List (Option Nat)}{σ:L2.St}{i j:Nat}{v:V}(hc:cap[j]?=some (some i))(h:σ[i]?=some (some v)):(c6 cap σ)[j]?=some (some v):=by unfold c6;rw[QH,hc];simp[h]
theorem sR{δ:Option Nat}:∀{cap:List (Option Nat)}{j:Nat},zd δ cap=some j->∃i,δ=some i/\cap[j]?=some (some i)
 |[],j,h=>by simp[zd]at h
 |o::r,j,h=>by
  unfold zd at h;split at h
  ·rename_i c;rw[Qp]at c;cases h;cases δ with
   |none=>simp at c
   |some i=>exact⟨i,rfl,by simp[QL c.2]⟩
  ·obtain⟨k,h1,rfl⟩:=QD.mp h;obtain⟨i,h2,h3⟩:=sR h1;exact⟨i,h2,by simpa using h3⟩
section
variable{X:Cx}{Φ:Fm}{Γ:Gm}{F:FT}{g:G}{xv:Nat->Value}{CX:jt}{k:Nat}{K:Frag}
noncomputable def Ow.plus(o:Ow)(D:Addr):Ow:=⟨o.W,λb=>o.A b\/b=D,o.dr⟩
theorem jD{sc:Scope}{i j:Nat}(hc:(bA Γ sc).2[j]?=some (some i)):fh (bA Γ sc).1 j=fh Γ i:=by have e:(bA Γ sc).1.M=Cn (bA Γ sc).2 Γ.M:=rfl;unfold fh;rw[e];unfold Cn;rw[QH,hc];simp
theorem oY{i:Nat}:∀{cap:List (Option Nat)}{j:Nat},cap[j]?=some (some i)->∃j',zd (some i) cap=some j'/\cap[j']?=some (some i)
 |[],j,h=>by cases h
 |o::r,j,h=>by
  unfold zd;by_cases e:o=some i
  ·refine⟨0,?_,by rw[e];rfl⟩;rw[e];simp
  ·rw[SF (by simp[e])];cases j with
   |zero=>cases h;exact absurd rfl e
   |succ j=>obtain⟨j',h1,h2⟩:=oY (cap:=r) (j:=j) h;exact⟨j'+1,by rw[h1];rfl,h2⟩
theorem ER.bA{sc:Scope}{o:Ow}{ρ:aj}{S:Sx}{σ:L2.St}{H:Hp}{D:Addr}(er:ER Φ Γ o ρ S σ H)(B:fv X sc (bA Γ sc).1.N (bA Γ sc).2)(jk:(Rx.bA Γ sc).1.N.Nodup)(hD:H D=none):
  ER Φ (Rx.bA Γ sc).1 (o.plus D) (jU (Rx.bA Γ sc).2 ρ) S (c6 (Rx.bA Γ sc).2 σ) (upd H D (.lst [])):=by
 have s:=Mx.bE hD (.lst []);have av:∀b,(o.A b\/b=D)->o.A b\/H b=none:=λb z=>z.elim .inl λe=>.inr (by rw[e];exact hD)
 refine⟨?_,λa h=>.inl (er.wa a h),λa h=>.inl (er.da a h),λa h=>?_,λj d h=>?_,λj ks vs h=>?_,λj j' a d e hm hm' h1 h2 h3 h4=>?_,λa h=>?_,er.drn,λj a hj ha=>?_,er.dr0,er.ent.trans (aX.of_same s)⟩
 ·unfold c6 jU;rw[Qx,Qx]
 ·rcases h with h|h
  ·obtain⟨x,hx⟩:=er.al a h;exact⟨x,s _ _ hx⟩
  ·subst h;exact⟨_,ax⟩
 ·obtain⟨i,hc,hr⟩:=fw h;obtain⟨v,h1,h2⟩:=er.val i d hr;refine⟨v,dZ hc h1,?_⟩;rw[jD hc];by_cases hm:fh Γ i=true
  ·rw[SH hm]at h2 ⊢;cases d with
   |lst ds=>obtain⟨a,xs,e1,e2,e3,e4,e5,e6,e7⟩:=h2;exact⟨a,xs,e1,s _ _ e2,.inl e3,e4,e5,e6,(e7.cu av).same s⟩
   |gg=>exact h2.elim
   |_=>exact RV.same (RV.cu av h2) s
  ·rw[SF hm]at h2 ⊢;exact(h2.cu av).same s
 ·obtain⟨i,hc,hr⟩:=fw h;have hk:=er.dk i ks vs hr;obtain⟨j',k1,k2⟩:=oY hc;obtain⟨x,n1,n2,_⟩:=B.ug j i hc;obtain⟨x',GS,Dw,_⟩:=B.ug j' i k2;rw[n2]at Dw;cases Dw;show zd Γ.κ (Rx.bA Γ sc).2=some j;rw[hk,k1,il jk n1 GS]
 ·obtain⟨i,hc,hr⟩:=fw h1;obtain⟨i',lh,wQ⟩:=fw h2;rw[jD hc]at hm;rw[jD lh]at hm';obtain⟨v,k1,_⟩:=er.val i _ hr;obtain⟨v',M9,_⟩:=er.val i' _ wQ;rw[dZ hc k1]at h3;rw[dZ lh M9]at h4;cases h3;cases h4;have:=er.inj i i' a d e hm hm' hr wQ k1 M9;subst this;obtain⟨x,n1,n2,_⟩:=B.ug j i hc;obtain⟨x',GS,Dw,_⟩:=B.ug j' i lh;rw[n2]at Dw;cases Dw;exact il jk n1 GS
 ·obtain⟨ns,e1,e2⟩:=er.drw a h;exact⟨ns,e1,s _ _ e2⟩
 ·obtain⟨i,h1,h2⟩:=sR (show zd Γ.δ (Rx.bA Γ sc).2=some j from hj);exact dZ h2 (er.drs i a h1 ha)
theorem vQ{sc:Scope}{x:Str}{i:Nat}(B:fv X sc (bA Γ sc).1.N (bA Γ sc).2)(h:fj (bA Γ sc).1 x=some i):(bA Γ sc).2[i]?=some none:=by
 obtain⟨a,b,c⟩:=fN h;have cU:i<(bA Γ sc).2.length:=by rw[B.len];exact(Qs.mp c).1
 cases hc:(bA Γ sc).2[i]? with
 |none=>rw[List.getElem?_eq_none_iff]at hc;lia
 |some o=>
  cases o with
  |none=>rfl
  |some j=>obtain⟨y,n1,_,n3⟩:=B.ug i j hc;rw[c]at n1;cases n1;have hn:(bA Γ sc).1.names=sc.names:=rfl;rw[hn,n3]at a;cases a
theorem qk{cap:List (Option Nat)}{σ:L2.St}{i:Nat}(h:cap[i]?=some none):(c6 cap σ)[i]?=some none:=by unfold c6;rw[QH,h];rfl
theorem wA{σ0:L2.St}{t:Tg}{K:Frag}(h:∀i∈bT t,σ0[i]?=some none):GL σ0 (E8 K t):=by
 have many:∀{is:List Nat},(∀i∈is,σ0[i]?=some none)->Fc σ0 (pJ is):=by
  intro is
  induction is with
  |nil=>intro _;exact zK
  |cons i is ih=>intro hs;exact wB (hs i Qv) (ih λj hj=>hs j (Qt _ hj))
 cases t with
 |nm i=>exact zJ (h i (by simp[bT]))
 |tp is=>exact CO (many h)
theorem A0{sc:Scope}{e:Expr}{t:Tg}{σ:L2.St}(B:fv X sc (bA Γ sc).1.N (bA Γ sc).2)(h:vK (bA Γ sc).1 e=some t):∀i∈bT t,(c6 (bA Γ sc).2 σ)[i]?=some none:=λi hi=>by obtain⟨_,x,hx⟩:=iG h i hi;exact qk (vQ B hx)
noncomputable def B7(Γ:Gm)(ρ:aj)(σ:L2.St)(D:Addr):Prop:=∀(j:Nat)(d:List Dt),fh Γ j=true->ρ[j]?=some (some (.lst d))->σ[j]?≠some (some (.ref D))
theorem tV{H:Hp}{D:Addr}{acc dM:List V}(hD:H D=some (.lst acc)):aX (λb=>b=D) H (upd H D (.lst dM)):=⟨λb o h n=>by rw[az n];exact h,Mx.kP hD⟩
theorem ER.emit{o:Ow}{ρ:aj}{S:Sx}{σ:L2.St}{H:Hp}{D:Addr}{acc dM:List V}(er:ER Φ Γ o ρ S σ H)(hD:H D=some (.lst acc))(hn:B7 Γ ρ σ D)(oD:o.A D)(nd:o.dr≠some D)(h0:∀x,Φ.H0 D=some x->Φ.d0=some D):ER Φ Γ o ρ S σ (upd H D (.lst dM)):=by
 have up:aX (λb=>b=D) H (upd H D (.lst dM)):=tV hD;have uA:∀b,b=D->o.A b:=λb z=>by rw[z];exact oD
 refine⟨er.len,er.wa,er.da,λa ha=>?_,λj dd h=>?_,er.dk,er.inj,λa ha=>?_,er.drn,er.drs,er.dr0,?_⟩
 ·obtain⟨x,hx⟩:=er.al a ha;exact up.al hx λz=>⟨_,by rw[z];exact ax⟩
 ·obtain⟨w,h1,h2⟩:=er.val j dd h;refine⟨w,h1,?_⟩;by_cases hm:fh Γ j=true
  ·rw[SH hm]at h2 ⊢;cases dd with
   |lst ds=>
    obtain⟨a,xs,e1,e2,e3,e4,e5,e6,e7⟩:=h2;have aD:a≠D:=λz=>hn j ds hm h (by rw[h1,e1,z])
    exact⟨a,xs,e1,up.kp _ _ e2 aD,e3,e4,e5,e6,e7.mono up uA λ_ z=>z⟩
   |gg=>exact h2.elim
   |_=>exact RV.mono up uA (λ_ z=>z) h2
  ·rw[SF hm]at h2 ⊢;exact h2.mono up uA λ_ z=>z
 ·obtain⟨ns,e1,e2⟩:=er.drw a ha;exact⟨ns,e1,up.kp _ _ e2 (λz=>nd (by rw[<-z];exact ha))⟩
 ·refine⟨λb x h n=>up.kp _ _ (er.ent.kp b x h n) λz=>?_,λb xs h=>up.tp _ _ (er.ent.tp b xs h)⟩;subst z;exact n (h0 x h)
theorem Wk.less{A Y Y':Addr->Prop}{J:It}{H:Hp}{ds:List Dt}(w:Wk K A Y J H ds)(h:∀b,Y' b->Y b):Wk K A Y' J H ds:=⟨λi H1 hi e=>w.go i H1 hi (e.mono h),λH1 e=>w.stop H1 (e.mono h),λi x H1 H2 hi e y=>w.yld i x H1 H2 hi (e.mono h) y⟩
theorem IO.PH{Φ:Fm}{Γ:Gm}{o:Ow}{ρ:aj}{S:Sx}{σ:L2.St}{it:pW}{nl:Bool}{H H1:Hp}{ds:List Dt}{J:It}(io:IO Φ.K o it nl H ds J H1)(er:ER Φ Γ o ρ S σ H1)(h:(decide (vk it<=1)||nl)=true):Wk Φ.K o.A o.d J H1 ds:=by
 rcases Rh.mp h with h|h
 ·exact io.w1 (Qr h)
 ·exact(io.w2 h).less er.da
theorem Wk.plus{A Y:Addr->Prop}{J:It}{H:Hp}{ds:List Dt}{D:Addr}(w:Wk K A Y J H ds)(hD:H D=none):Wk K (λb=>A b\/b=D) (λb=>Y b\/b=D) J (upd H D (.lst [])) ds:=by
 have ex:∀H1,aX (λb=>Y b\/b=D) (upd H D (.lst [])) H1->aX Y H H1:=λH1 e=>⟨λb o h n=>by
   have nb:b≠D:=λz=>by rw[z,hD]at h;cases h
   exact e.kp b o (by rw[az nb];exact h) λz=>z.elim n nb,λb xs h=>by
   have nb:b≠D:=λz=>by rw[z,hD]at h;cases h
   exact e.tp b xs (by rw[az nb];exact h)⟩
 refine⟨λi H1 hi e=>w.go i H1 hi (ex H1 e),λH1 e=>w.stop H1 (ex H1 e),λi x H1 H2 hi e y=>?_⟩;obtain⟨s,d,hd,hv⟩:=w.yld i x H1 H2 hi (ex H1 e) y;refine⟨s,d,hd,λB hB=>hv B λb hb=>?_⟩;rcases hB b hb with (z|z)|z
 ·exact .inl z
 ·exact .inr (by rw[z];exact hD)
 ·by_cases nb:b=D
  ·exact .inr (by rw[nb];exact hD)
  ·rw[az nb]at z;exact .inr z
structure zg(Φ:Fm)(Γ:Gm)(o:Ow)(D:Addr)(ρ:aj)(σ:L2.St)(S:Sx)(acc:List V)(es:List Dt)(H:Hp):Prop where
 at':H D=some (.lst acc)
 rv:ak Φ.K o.A H acc es
 er:ER Φ Γ o ρ S σ H
structure Io(Φ:Fm)(o:Ow)(D:Addr):Prop where
 oD:o.A D
 nd:o.dr≠some D
 h0:∀x,Φ.H0 D=some x->Φ.d0=some D
noncomputable def Yd(o:Ow)(D:Addr):Addr->Prop:=λb=>o.d b\/b=D
theorem ER.back{o:Ow}{ρ ρ':aj}{S S':Sx}{σ σ':L2.St}{H H':Hp}{D:Addr}(fx:Io Φ o D)(hn:B7 Γ ρ σ D)(er:ER Φ Γ o ρ S σ H)(CB:ER Φ Γ o ρ' S' σ' H')(e:aX (Yd o D) H H')(P1:∃acc,H D=some (.lst acc)):ER Φ Γ o ρ S' σ H':=by
 have uA:∀b,Yd o D b->o.A b:=λb z=>z.elim (er.da b) λq=>by rw[q];exact fx.oD
 refine⟨er.len,er.wa,er.da,CB.al,λj dd h=>?_,er.dk,er.inj,CB.drw,CB.drn,er.drs,er.dr0,CB.ent⟩;obtain⟨w,h1,h2⟩:=er.val j dd h;refine⟨w,h1,?_⟩;by_cases hm:fh Γ j=true
 ·rw[SH hm]at h2 ⊢;cases dd with
  |lst ds=>
   obtain⟨a,xs,e1,e2,e3,e4,e5,e6,e7⟩:=h2;have aD:a≠D:=λz=>hn j ds hm h (by rw[h1,e1,z])
   exact⟨a,xs,e1,e.kp _ _ e2 (λz=>z.elim e5 aD),e3,e4,e5,e6,e7.mono e uA λ_ z=>z⟩
  |gg=>exact h2.elim
  |_=>exact RV.mono e uA (λ_ z=>z) h2
 ·rw[SF hm]at h2 ⊢;exact h2.mono e uA λ_ z=>z
theorem Eu{tg:Tg}{ts:Cs}{o:Ow}{D:Addr}{ρ:aj}{σ:L2.St}{J:It}{ds:List Dt}{H1:Hp}{tb:TB}{fb:aj->Sx->R (List Dt×Sx)}{m a0:Nat}(fx:Io Φ o D)(hp:∀i∈bT tg,plainS Γ i=true)(wk:Wk Φ.K o.A (Yd o D) J H1 ds)(hn:B7 Γ ρ σ D)
  (hb:∀(ρ1:aj)(σ1:L2.St)(S:Sx)(acc:List V)(es:List Dt)(H2:Hp)(P:List Dt×Sx->Prop),B7 Γ ρ1 σ1 D->(∀k,k∉bT tg->σ1[k]?=σ[k]?/\ρ1[k]?=ρ[k]?)->zg Φ Γ o D ρ1 σ1 S acc es H2->aX (Yd o D) H1 H2->acc.length+m<=a0+ds.length*m->0<ds.length->mR Φ.Ek (fb ρ1 S) P->
   ∀Q:Hp->Prop,(∀H5 r jR,P r->zg Φ Γ o D ρ1 σ1 r.2 jR (es++r.1) H5->aX (Yd o D) H2 H5->jR.length<=acc.length+m->Q H5)->tb σ1 H2 Q)
  {S:Sx} {acc:List V} {es:List Dt} {P:List Dt×Sx->Prop} (c:zg Φ Γ o D ρ σ S acc es H1) (ha:acc.length<=a0) (q:mR Φ.Ek (a9 (ck tg (c9 F ts) fb ρ) ds S) P) {Fn:Hp->Prop}
  (fin:∀H5 r jR,P r->zg Φ Γ o D ρ σ r.2 jR (es++r.1) H5->aX (Yd o D) H1 H5->jR.length<=a0+ds.length*m->Fn H5):rG J (E8 Φ.K tg) (tR Φ Γ F ts) tb σ Fn H1:=by
 refine⟨λi mm H2=>mm=ds.length-i/\i<=ds.length/\∃S2 om r8,zg Φ Γ o D ρ σ S2 om (es++r8) H2/\aX (Yd o D) H1 H2/\om.length<=a0+i*m/\mR Φ.Ek (a9 (ck tg (c9 F ts) fb ρ) (ds.drop i) S2) λr=>P (r8++r.1,r.2),
  ⟨_,rfl,Sm _,S,acc,[],by rw[Q2];exact c,aX.refl,by lia,q⟩,?_⟩
 rintro i mm H2 ⟨rfl,hi,S2,om,r8,c2,yX,iM,q⟩;by_cases cU:i<ds.length
 ·refine .inr ⟨wk.go i H2 cU yX,λx H3 y=>?_⟩;obtain⟨s3,d,hd,hx⟩:=wk.yld i x H2 H3 cU yX y;have n9:=hx o.A λb z=>.inl z
  have Mu:=c2.er.grow s3;have J0:ds.drop i=d::ds.drop (i+1):=by rw[RA cU];congr 1;exact(Qs.mp hd).2
  rw[J0]at q;unfold a9 at q;rw[ae]at q;unfold ck at q;rw[ae]at q;obtain⟨ρ1,hρ,q⟩:=kf (pD _ _ _) q;refine yD Mu hp n9 hρ λσ1 J4 hk=>?_
  rw[ae]at q;refine⟨o,ρ1,S2,J4,ah q λb _ q H4 e4 IG=>?_⟩;have Mq:aX (Yd o D) H3 H4:=e4.mono λb z=>.inl z
  have Ph:B7 Γ ρ1 σ1 D:=λj dd hm h1 h2=>by
   have nj:j∉bT tg:=λz=>by rw[(iy (hp j z)).1]at hm;cases hm
   obtain⟨k1,k2⟩:=hk j nj;rw[k1]at h2;rw[k2]at h1;exact hn j dd hm h1 h2
  have uA:∀b,Yd o D b->o.A b:=λb z=>z.elim (Mu.da b) λq=>by rw[q];exact fx.oD
  have FP:H4 D=some (.lst om):=e4.kp _ _ (s3 _ _ c2.at') fx.nd;have M1:ak Φ.K o.A H4 om (es++r8):=(c2.rv.same s3).mono Mq uA λ_ z=>z
  have FE:aX (Yd o D) H2 H4:=(aX.of_same s3).trans Mq;have hmul:ds.length*m=(ds.length-(i+1))*m+(i*m+m):=by
   rw[<-Sl i m,<-Nat.add_mul];congr 1
   lia
  have MY:(i+1)*m=i*m+m:=Sl i m;have hz:0<=(ds.length-(i+1))*m:=Sm _;cases sG:b.1 with
  |false=>rw[sG]at q;refine GC ?_;refine⟨ds.length-(i+1),by lia,rfl,cU,b.2,om,r8,⟨FP,M1,c2.er.back fx hn IG FE ⟨_,c2.at'⟩⟩,yX.trans FE,by lia,?_⟩;simp only[Re,SE]at q;have q:mR Φ.Ek ((a9 (ck tg (c9 F ts) fb ρ) (ds.drop (i+1)) b.2).bind λq=>R.ok (([]:List Dt)++q.1,q.2)) _:=q;rw[ae]at q;exact ah q λr _ q=>q
  |true=>
   rw[sG]at q;refine GD ?_;simp only[SI]at q;refine hb ρ1 σ1 b.2 om (es++r8) H4 _ Ph hk ⟨FP,M1,IG⟩ (yX.trans FE) ⋯ ⋯ q _ λH5 r jR q c5 e5 l5=>?_
   rw[ae]at q;refine⟨ds.length-(i+1),by lia,rfl,cU,r.2,jR,r8++r.1,⟨c5.at',by rw[<-QC];exact c5.rv,c2.er.back fx hn c5.er (FE.trans e5) ⟨_,c2.at'⟩⟩,(yX.trans FE).trans e5,by lia,ah q λr' _ q=>?_⟩;have q:P (r8++(r.1++r'.1),r'.2):=q;rw[QC];exact q
 ·have e:i=ds.length:=⋯
  subst e;refine .inl ⟨wk.stop H2 yX,?_⟩;rw[List.drop_length]at q;have q:P (r8++[],S2):=q;rw[Q2]at q;exact fin H2 (r8,S2) om q c2 yX iM
theorem CA{o:Ow}{D:Addr}{c:C}{ρ:aj}{σ:L2.St}{S:Sx}{acc:List V}{es:List Dt}{H:Hp}{P:List Dt×Sx->Prop}(fx:Io Φ o D)(hn:B7 Γ ρ σ D)(cs:zg Φ Γ o D ρ σ S acc es H)(hl:acc.length<sizeLine)
  (q:mR Φ.Ek ((ev F c ρ S).bind λy=>af (bo c y.1) (.ok ([y.1],y.2))) P) (Q:Hp->Prop) (fin:∀H5 r jR,P r->zg Φ Γ o D ρ σ r.2 jR (es++r.1) H5->aX (Yd o D) H H5->jR.length<=acc.length+1->Q H5):yA D (bL Φ Γ F g.fr c) σ H Q:=by
 rw[ae]at q;refine⟨o,ρ,S,cs.er,ah q λy _ q v H5 eo5 er6=>?_⟩;obtain⟨gs,q⟩:=aJ q;have e5:aX (Yd o D) H H5:=eo5.ext.mono λb z=>.inl z
 have Kf:H5 D=some (.lst acc):=eo5.ext.kp _ _ cs.at' fx.nd;have uA:∀b,Yd o D b->o.A b:=λb z=>z.elim (cs.er.da b) λq=>by rw[q];exact fx.oD
 have hv:RV Φ.K o.A H5 v y.1:=by
  unfold bo at gs;rw[Q3]at gs;rcases gs with gs|gs
  ·exact eo5.mn (Qr gs)
  ·exact eo5.val.fI gs
 have up:aX (λb=>b=D) H5 (upd H5 D (.lst (acc++[v]))):=tV Kf;refine⟨acc,Kf,hl,fin _ ([y.1],y.2) (acc++[v]) q ⟨ax,?_,er6.emit Kf hn fx.oD fx.nd fx.h0⟩ (e5.trans (up.mono λb z=>.inr z)) (by simp)⟩;exact((cs.rv.mono e5 uA λ_ z=>z).append (ak.cons hv ak.nil)).mono up (λb z=>by rw[z];exact fx.oD) λ_ z=>z
theorem A6:2*lim<sizeLine:=by rw[SQ];decide
theorem ub{sc:Scope}{o:Ow}{ρ:aj}{S:Sx}{σ:L2.St}{H:Hp}{D:Addr}(er:ER Φ Γ o ρ S σ H)(B:fv X sc (bA Γ sc).1.N (bA Γ sc).2)(jk:(Rx.bA Γ sc).1.N.Nodup)(hD:H D=none):
  Io Φ (o.plus D) D/\B7 (bA Γ sc).1 (jU (bA Γ sc).2 ρ) (c6 (bA Γ sc).2 σ) D/\zg Φ (bA Γ sc).1 (o.plus D) D (jU (bA Γ sc).2 ρ) (c6 (bA Γ sc).2 σ) S [] [] (upd H D (.lst [])):=by
 refine⟨⟨.inr rfl,λz=>?_,λx hx=>?_⟩,λj d hm h1 h2=>?_,⟨ax,ak.nil,er.bA B jk hD⟩⟩
 ·obtain⟨y,hy⟩:=er.al D (er.da D z);rw[hD]at hy;cases hy
 ·by_cases hz:Φ.d0=some D
  ·exact hz
  ·have:=er.ent.kp D x hx hz;rw[hD]at this;cases this
 ·obtain⟨ii,hc,ON⟩:=fw h1;obtain⟨w',k1,k2⟩:=er.val ii _ ON;rw[<-jD hc,SH hm]at k2;obtain⟨a',u9,JY,EU,_⟩:=k2;rw[dZ hc k1]at h2;cases h2;cases JY;rw[hD]at EU;cases EU
theorem zu{sc:Scope}{o:Ow}{ρ:aj}{S S2:Sx}{σ:L2.St}{H H1 H2:Hp}{D:Addr}{acc:List V}{ds:List Dt}{c:C}(hc:lk c=0)(io:aX o.d H H1)(aE:ER Φ Γ o ρ S σ H1)(hD:H1 D=none){ρ2:aj}{σ2:L2.St}(cs:zg Φ (bA Γ sc).1 (o.plus D) D ρ2 σ2 S2 acc ds H2)(ex:aX (Yd (o.plus D) D) (upd H1 D (.lst [])) H2):
  EO Φ.K g.fr o c H (.lst ds) (.ref D) H2/\ER Φ Γ o ρ S2 σ H2:=by
 have yX:aX o.d H1 H2:=⟨λb x h n=>by
   have nb:b≠D:=λz=>by rw[z,hD]at h;cases h
   exact ex.kp b x (by rw[az nb];exact h) λz=>z.elim n nb,λb xs h=>by
   have nb:b≠D:=λz=>by rw[z,hD]at h;cases h
   exact ex.tp b xs (by rw[az nb];exact h)⟩
 have nA:¬o.A D:=λz=>by obtain⟨y,hy⟩:=aE.al D z;rw[hD]at hy;cases hy
 have dn:H D=none:=aE.ei io hD;have v0:RV Φ.K o.A H2 (.ref D) (.lst ds):=RV.dD cs.at' nA (cs.rv.weak λb z=>.inl z);refine⟨⟨io.trans yX,v0.weak aE.gF,λ_=>v0,λ_=>v0.one,λ_ la ed=>?_⟩,aE.step yX (λa ha=>cs.er.drw a ha) cs.er.drn⟩;cases ed;exact⟨D,acc,rfl,dn,cs.at',cs.rv.weak λb z=>z.elim (λz=>.inl (aE.gF b z)) .inr,λ_=>cs.rv⟩
theorem ye{sc:Scope}{tg:Expr}{it:pW}{t:Tg}{ts:Cs}{c:C}(hK:Φ.K=X.K)(B:fv X sc (bA Γ sc).1.N (bA Γ sc).2)(jk:(bA Γ sc).1.N.Nodup)(Jb:vK (bA Γ sc).1 tg=some t){σ:L2.St}{H:Hp}{Q:VK}
  (q:bL Φ Γ F g.fr (.comp (bA Γ sc).2 it t ts c) σ H Q):rh (bA Γ sc).2 (rj Φ Γ F it) (E8 X.K t) (tR Φ (bA Γ sc).1 F ts) (λD=>yA D (bL Φ (bA Γ sc).1 F g.fr c)) σ H Q:=by
 obtain⟨o,ρ,S,er,q⟩:=q;unfold ev at q;rw[ae]at q;refine⟨o,ρ,S,er,ah q λp _ q J H1 io aE D hD=>⟨wA (A0 B Jb),?_⟩⟩;obtain⟨g1,q⟩:=aJ q;rw[Qp]at g1;have d8:=Qr g1.1;have wk:=(io.PH aE g1.2).plus hD;rw[ae]at q;have kY:=A6;obtain⟨fx,hn,cs⟩:=ub (X:=X) aE B jk hD;rw[<-hK];refine Eu (m:=1) (a0:=0) fx (λi hi=>(iG Jb i hi).1) wk hn (λρ1 σ1 S1 acc es H2 P n1 hk c1 e1 hl _ q Q fin=>CA fx n1 c1 ⋯ q Q fin) cs (Sm _) q λH5 r jR q c5 e5 l5=>?_
 obtain⟨k1,k2⟩:=zu (g:=g) (c:=.comp (bA Γ sc).2 it t ts c) rfl io.ext aE hD c5 e5;exact q _ _ k1 k2
end
section
variable{X:Cx}{Φ:Fm}{Γ:Gm}{F:FT}{g:G}{o:Ow}{ρ:aj}{S:Sx}{σ:L2.St}{H:Hp}
noncomputable def Pu(W:V->Hp->Prop)(r:V->List V->Hp->VK->Prop)(to:TE)(t:TA):TE:=λσ H Q=>to σ H λx H1=>W x H1/\t σ H1 λvs H2=>r x vs H2 Q
theorem DM{W:V->Hp->Prop}{oe e:Expr}{es:List Expr}{to:TE}{t:TA}{name:Str}{apos cP:Pos}{id:String}{r:V->List V->Hp->VK->Prop}(hW:∀{pins:List (Addr×Obj)}{s:Shared}{σ:L2.St}{H:Hp}{x:V},Inv X pins σ H s->W x H->∃p,x= .ref p/\s.TypeIs (.ref p) "dict"/\∀a,Value.ref p= .ref a->∃ob,s.heap.get? a=some ob/\ob.dict=none)(slot:Slot "dict" name id)(Gw:typeOf (.builtin id)=pure (.type "method_descriptor"))(hm:Iw X id r)(ho:PE X oe to)(ha:PA X (e::es) t)
  (g0:attributeBase oe name X.env (eval oe X.env)=eval oe X.env)
  (CU:((backTo cP (starEach (e::es) X.env)).all (λx=> !x.1)&&(backToKw cP (keywordEach [] X.env)).all (λx=>x.1.isSome)
   &&decide ((e::es).length+([]:List Keyword).length+(if ([]:List Keyword).isEmpty then 0 else 1)<30))=true)
  (j8:(apos.endLine==cP.line)=true) (hs:starEach (e::es) X.env=(false,eval e X.env)::starEach es X.env) (qA:(backTo cP (starEach es X.env)).any (·.1)=false):
  PE X (.Call (.Attribute oe name apos) (e::es) [] cP) (Pu W r to t):=by
 intro pins s σ H Q I h;refine wpAny_Call_method_late g0 CU j8 rfl (bN (ho pins s σ H _ I h) λv s1⟨x,H1,I1,r1,ty,q1⟩=>?_);obtain⟨p,rfl,h1,h2⟩:=hW I1 ty;cases r1;refine⟨"dict",id,PySem.F.plainAttrs_dict,slot,Gw,h1,h2,?_⟩;have hA:=ha cP pins s1 σ H1 _ I1 q1;rw[hs]at hA ⊢;refine Calls.callWith_builtin (by show (false||(backTo cP (starEach es X.env)).any (·.1))=false;rw[qA]<;>rfl) (Calls.evalArgs_plain ?_);exact bN hA λus s2⟨vs,H2,I2,r2,q2⟩=>hm pins s2 σ H2 (.ref p) vs _ us Q I2 rfl r2 q2
theorem qO(y:Str){K:Frag}{A:Addr->Prop}{H:Hp}:∀{ks:List Str}{vs:List Dt}{bx:List (Key×V)},bx.map (·.1)=ks.map Sum.inr->ak K A H (bx.map (·.2)) vs->
  (Mx.A2 y bx=none/\E7 y ks vs=none)\/∃v e,Mx.A2 y bx=some v/\E7 y ks vs=some e/\RV K A H v e
 |[],vs,bx,h,r=>by
  cases bx with
  |nil=>exact .inl ⟨rfl,by unfold E7;rfl⟩
  |cons=>cases h
 |k::ks,vs,[],h,r=>by cases h
 |k::ks,vs,p::bx,h,r=>by
  rw[Q6,Q6]at h;injection h with h1 h2;obtain⟨e,er,rfl,r1,r2⟩:=r.lL;unfold Mx.A2 E7;by_cases z:k=y
  ·rw[SH (h1.trans (SD _ z)),SH z];exact .inr ⟨_,_,rfl,rfl,r1⟩
  ·rw[SF λw=>z (Sum.inr.inj (h1.symm.trans w)),SF z];exact qO y h2 r2
theorem Hm{oe k e:Expr}{o' k' e':C}{apos pos:Pos}(hK:Φ.K=X.K)(ho:PE X oe (bL Φ Γ F g.fr o'))(hk:PE X k (bL Φ Γ F g.fr k'))(he:PE X e (bL Φ Γ F g.fr e'))(g0:attributeBase oe ("get":Str) X.env (eval oe X.env)=eval oe X.env)
  (hs:starEach [k,e] X.env=[(false,eval k X.env),(false,eval e X.env)]) (IX:starEach [e] X.env=[(false,eval e X.env)]) (j8:(apos.endLine==pos.line)=true):
  PE X (.Call (.Attribute oe "get" apos) [k,e] [] pos) (bL Φ Γ F g.fr (.gtO o' k' e')):=by
 refine bp (DM (W:=λx H=>∃p bx,x= .ref p/\H p=some (.dK bx)) (λI h=>by obtain⟨p,bx,e,hp⟩:=h;exact⟨p,e,Mx.DA I hp⟩) PySem.F.slot_dict_get PySem.F.type_dict_get Mx.Al ho (bR hk (bR he dR (by rw[IX];rfl)) (by rw[hs,IX])) g0 (by rw[hs];rfl) j8 (by rw[hs,IX]) (by rw[IX];rfl)) λσ H Q q=>?_
 obtain⟨o,ρ,S,er,q⟩:=q;unfold ev at q;rw[ae]at q;refine⟨o,ρ,S,er,ah q λz hz q x0 H0 eo0 Mt=>?_⟩;obtain⟨gd,q⟩:=aJ q;rw[ae]at q;obtain⟨z1,z2⟩:=z;cases z1 with
 |obj ks vs=>
  obtain⟨a,bx,rfl,h1,h2,h3,h4⟩:=eo0.val.iq;refine⟨⟨a,bx,rfl,h1⟩,o,ρ,z2,Mt,ah q λp hp q x H1 ba aE=>?_⟩;rw[ae]at q;refine⟨o,ρ,p.2,aE,ah q λp2 eJ q v H2 eo2 fg=>?_⟩;rw[ae]at q;have ee:=ba.ext.trans eo2.ext;have hd:∀b,o.d b->o.wd b:=λb z=>.inr z
  unfold BK at q;dsimp only at q;cases hk:p.1 with
  |str y=>
   rw[hk]at q;dsimp only at q;have hx:=ba.val;rw[hk]at hx;have:=hx.str_inv;subst this;refine⟨a,bx,y,v,rfl,rfl,ee.kp _ _ h1 λz=>h2 (hd _ z),?_⟩;have w0:lk o'=0->ak Φ.K o.A H2 (bx.map (·.2)) vs:=λl=>by obtain⟨a',O9,e,f1,f2,f3,f4⟩:=(eo0.mn l).iq;cases e;rw[h1]at f1;cases f1;exact f4.mono ee Mt.da λ_ z=>z
   have w1:ak Φ.K o.wd H2 (bx.map (·.2)) vs:=h4.mono ee hd λ_ z=>z
   rcases qO y h3 w1 with ⟨g1,g2⟩|⟨u,d,g1,g2,g3⟩
   ·rw[g1];rw[g2]at q;refine q v H2 ⟨eo0.ext.trans ee,eo2.val,λl=>eo2.mn ?_,λl=>eo2.uX ?_,λf=>by simp[fresh]at f⟩ fg
    ·rw[lk]at l;split at l
     ·exact l
     ·cases l
    ·rw[lk]at l;split at l
     ·exact l
     ·lia
   ·rw[g1];rw[g2]at q;have w2:lk o'=0->RV Φ.K o.A H2 u d:=λl=>by
     rcases qO y h3 (w0 l)with ⟨k1,k2⟩|⟨u',d',k1,k2,k3⟩
     ·rw[g1]at k1;cases k1
     ·rw[g1]at k1;cases k1;rw[g2]at k2;cases k2;exact k3
    have z0:lk (.gtO o' k' e')<=1->lk o'=0:=λl=>by
     rw[lk]at l;split at l
     ·assumption
     ·lia
    exact q u H2 ⟨eo0.ext.trans ee,g3,λl=>w2 (z0 ⋯),λl=>(w2 (z0 l)).one,λf=>by simp[fresh]at f⟩ fg
  |_=>rw[hk]at q;exact q.elim
 |_=>cases gd
end
end Rx
end
section
namespace Mx
open PySem PySem.Spec PyProof.Rows L2 PySem.SeqAt
section
variable{X:Cx}
noncomputable def Pt(k:Str):TE:=λ_ H Q=>∀p q,H p=none->H q=none->q≠p->Q (.ref p) (upd (upd H q (.tup [])) p (.dK [(.inr k,.ref q)]))
theorem Ha{k:Str}{j x1:Nat}{kp tp pos:Pos}:PE X (.Dict [some (.Constant (.str k) j kp)] [.Tuple [] x1 tp] pos) (Pt k):=by
 intro pins s σ H Q I h;have hb:(s.heap.objs.size==sysModules)=false:=SA.mpr (Sn (QT (Nat.lt_trans (by decide) (I.mod.glob.keeps I.bk).lt)));have wO:(s.heap.push {cls:=.type "dict",data:=.dict #[]}).DictOf (bQ X.prog X.w) s.heap.objs.size []:=Heap.DictOf.new s.heap;have hf:H s.heap.objs.size=none:=I.hok.fresh (Qu _);have I1:Inv X pins σ (upd H s.heap.objs.size (.dK [])) {s with heap:=s.heap.push {cls:=.type "dict",data:=.dict #[]}}:=I.laid (t':=s.toks) (λb u e=>Qn _ e) (Qu _) ⟨Sm _,hb,[],Paired.nil,wO⟩;refine wpAny_Dict_walk (knd:=bQ X.prog X.w) rfl rfl (by simp) (Nat.le_of_ble_eq_true rfl) (pairTrees_cons_walk ?_);refine bN (xM pins _ σ _ (λv H'=>v= .str k/\H'=upd H s.heap.objs.size (.dK [])) I1 ⟨rfl,rfl⟩) λkv s1⟨v1,H1,i1,r1,e1⟩=>?_
 obtain⟨rfl,rfl⟩:=e1;refine bN (xN dR pins s1 σ _ (λv H'=>∃q,v= .ref q/\upd H s.heap.objs.size (.dK []) q=none/\H'=upd (upd H s.heap.objs.size (.dK [])) q (.tup [])) i1 ⟨Sm _,λq hq=>⟨q,rfl,hq,rfl⟩⟩) λvv s2⟨v2,H2,i2,r2,e2⟩=>?_
 obtain⟨q,rfl,hq,rfl⟩:=e2;have KC:q≠s.heap.objs.size:=λz=>by rw[z,ax]at hq;cases hq
 have OL:H q=none:=by rw[az KC]at hq;exact hq
 cases r2;obtain⟨t,rfl⟩:=r1;have eJ:upd (upd H s.heap.objs.size (.dK [])) q (.tup []) s.heap.objs.size=some (.dK []):=by rw[az (Sn KC),ax]
 refine pairTrees_nil_walk ?_;obtain⟨_,_,Qk,O8,hd⟩:=(show bw X.prog X.w _ s2.heap s.heap.objs.size (.dK []) from i2.hok _ _ eJ);cases O8;refine⟨[(.inr k,.ref q)],⟨fG _ _ k t,rfl,trivial⟩,hd,λh' kX hs=>?_⟩;have e:upd (upd H q (.tup [])) s.heap.objs.size (.dK [(.inr k,.ref q)])=upd (upd (upd H s.heap.objs.size (.dK [])) q (.tup [])) s.heap.objs.size (.dK [(.inr k,.ref q)]):=by
  funext b;by_cases h1:b=s.heap.objs.size
  ·rw[h1,ax,ax]
  ·rw[az h1,az h1];by_cases h2:b=q
   ·rw[h2,ax,ax]
   ·rw[az h2,az h2,az h1]
 refine⟨.ref s.heap.objs.size,_,?_,rfl,h s.heap.objs.size q hf OL KC⟩;rw[e];refine i2.write (x:=s.heap.objs.size) (e:=s.heap.objs.size) (by rw[eJ];trivial) (.inl rfl) (λb ob hb e=>(hs.2 b hb).trans e) ?_ ?_
 ·obtain⟨ob,_,_,e,_⟩:=kX;exact⟨ob,e⟩
 ·exact⟨by simp[SQ],hb,_,Paired.cons (a:=((Sum.inr k:Key),V.ref q)) (b:=((Sum.inr k:Key),Value.ref q)) ⟨rfl,rfl⟩ Paired.nil,kX⟩
end
end Mx
end
section
namespace Rx
open PySem PySem.W PySem.Spec PyProof.Rows L2 PySem.SeqAt
section
variable{X:Cx}{Φ:Fm}{Γ:Gm}{F:FT}{g:G}
theorem vV{k:Str}{ρ:aj}{S:Sx}:fU F (.cons (.tup (.cons (.tup (.cons (.con (.str k)) (.cons (.tup .nil) .nil))) .nil)) .nil) ρ S= .ok ([.tup [.tup [.str k,.tup []]]],S):=by
 have h0:decide (([]:List Dt).length<=lim)=true:=by decide
 have h1:∀x:Dt,decide ([x].length<=lim)=true:=λx=>QR (Nat.le_of_ble_eq_true rfl)
 have h2:∀x y:Dt,decide ([x,y].length<=lim)=true:=λx y=>QR (Nat.le_of_ble_eq_true rfl)
 simp only[fU,ev,R.ai,h0,h1,h2,guard_true]
theorem Bl{k:Str}:c8 .dict [.tup [.tup [.str k,.tup []]]]= .ok (.obj [k] [.tup []]):=by unfold c8;simp only[v7,zD,Option.bind_some,Option.map_some,Q6,List.map_nil];rw[QR (by simp),guard_true]
theorem Bm{k:Str}{ρ:aj}{S:Sx}:ev F (Bi k) ρ S= .ok (.obj [k] [.tup []],S):=by rw[Bi,ev,vV,R.ai,Bl,R.ai]
theorem Cz{k:Str}{ρ:aj}{S:Sx}:cW F (Bi k) ρ S= .bad:=by rw[Bi,cW,vV,R.ai,Bl,R.ai];rfl
theorem LH{k:Str}{j x1:Nat}{kp tp pos:Pos}:PE X (.Dict [some (.Constant (.str k) j kp)] [.Tuple [] x1 tp] pos) (bL Φ Γ F g.fr (Bi k)):=by
 have h:=@Mx.Ha X k j x1 kp tp pos;generalize Expr.Dict [some (.Constant (.str k) j kp)] [.Tuple [] x1 tp] pos=e at h ⊢;refine bp h λσ H Q q=>?_
 obtain⟨o,ρ,S,er,q⟩:=q;rw[Bm]at q;have q:∀v H',EO Φ.K g.fr o (Bi k) H (.obj [k] [.tup []]) v H'->ER Φ Γ o ρ S σ H'->Q v H':=q;intro p qq hp hq nr;have s1:=Mx.bE hq (.tup []);have f9:upd H qq (.tup []) p=none:=by rw[az (Sn nr)];exact hp
 have s2:=s1.trans (Mx.bE f9 (.dK [(.inr k,.ref qq)]));have val:∀A:Addr->Prop,(∀a,A a->∃y,H a=some y)->RV Φ.K A (upd (upd H qq (.tup [])) p (.dK [(.inr k,.ref qq)])) (.ref p) (.obj [k] [.tup []]):=λA hA=>by
  have no:∀b,H b=none->¬A b:=λb hb z=>by obtain⟨y,e⟩:=hA b z;rw[hb]at e;cases e
  exact RV.kl ax (no p hp) rfl (ak.cons (RV.dE (by rw[az nr,ax]) ak.nil) ak.nil)
 exact q _ _ ⟨aX.of_same s2,val _ er.rH,λ_=>val _ er.al,λ_=>(val _ er.al).one,λf=>by cases f⟩ (er.grow s2)
end
noncomputable def oP:Expr->Bool
 |.Starred ..=>false
 |.Slice ..=>false
 |.Set ..=>false
 |.Call (.Name _ _) [] _ _=>false
 |_=>true
theorem bP{e:Expr}(h:oP e=true)(es:List Expr)(env:Env):starEach (e::es) env=(false,eval e env)::starEach es env:=by cases e<;>first|rfl|(simp[oP]at h)
theorem F8{e:Expr}(h:oP e=true):mC e:=by intro o i;cases e<;>first|rfl|(simp[oP]at h)
theorem zO{e:Expr}(h:oP e=true)(op:CmpOp):behindInMarks op e=false:=by cases e<;>first|rfl|(simp[oP]at h)
theorem qx{e:Expr}(h:oP e=true)(env:Env):∀x,foldedSetIterable e env x=pure x:=by intro x;cases e<;>first|rfl|(simp[oP]at h)
theorem zN{e:Expr}(h:oP e=true)(f:Str)(env:Env)(w:Sem Value):attributeBase e f env w=w:=by
 cases e with
 |Call fn args kws pos=>
  cases args with
  |nil=>cases fn<;>first|rfl|(simp[oP]at h)
  |cons a as=>cases fn<;>rfl
 |_=>rfl
theorem cM{X:Cx}{Φ:Fm}{Γ:Gm}{F:FT}{e:Expr}{c:C}(h:∀ρ S,cW F c ρ S= .bad):PT X e (eV Φ Γ F c):=λpins s σ H Q I q=>by obtain⟨o,ρ,S,er,q⟩:=q;rw[h]at q;exact q.elim
section
variable{g:G}{xv:Nat->Value}{CX:jt}{k:Nat}{F:FT}
structure Nx(g:G)(F:FT)(n:Nat)(Γ:Gm)(X:Cx)(Φ:Fm):Prop where
 e:∀e c,cE n g Γ e=some c->PE X e (bL Φ Γ F g.fr c)/\PT X e (eV Φ Γ F c)/\oP e=true
 es:∀es cs,vJ n g Γ es=some cs->PA X es (lz Φ Γ F cs)/\cs.len=es.length/\∀e∈es,oP e=true
 ts:∀es cs,Fw n g Γ es=some cs->Ca X es (tR Φ Γ F cs)
 b:∀o es c pos,cB n g Γ o es=some c->PE X (.BoolOp o es pos) (bL Φ Γ F g.fr c)/\PW X (.BoolOp o es pos) (eV Φ Γ F c)
 i:∀tg e it,cI n g Γ tg e=some it->PI X tg e (rj Φ Γ F it)/\oP e=true
 c:∀f a as c p pos,rR n g Γ f a as=some c->PE X (.Call (.Name f p) (a::as) [] pos) (bL Φ Γ F g.fr c)/\PT X (.Call (.Name f p) (a::as) [] pos) (eV Φ Γ F c)
theorem oo{es:List Expr}{env:Env}{pos:Pos}(h:∀e∈es,oP e=true):(backTo pos (starEach es env)).any (·.1)=false:=by
 induction es with
 |nil=>rfl
 |cons e es ih=>rw[bP (h e Qv)];show (false||(backTo pos (starEach es env)).any (·.1))=false;rw[ih λe' z=>h e' (Qt _ z)];rfl
theorem km{x y:Str}(h:(x==y)=false):x≠y:=λe=>by subst e;rw[SB]at h;cases h
theorem bF{x:Str}(h:cY x=true):(x==("__debug__":Str))=false/\(x==("__classdict__":Str))=false/\x≠"__name__":=by unfold cY at h;rw[Qp,Qp]at h;have h1:=h.1.1;have h2:=h.1.2;have h3:=h.2;rw[Rg]at h1 h2 h3;exact⟨h1,h2,km h3⟩
noncomputable def Md:C->Bool
 |.nt _|.and ..|.or ..|.cmp ..|.ch ..|.var _|.mvr _|.call ..|.callD ..|.bi ..|.idx ..=>true
 |_=>false
theorem bO{F:FT}{c:C}{ρ:aj}{S:Sx}(h:Md c=false):cW F c ρ S= .bad:=by cases c<;>first|rfl|cases h
theorem boot_dict:bootBuiltins "dict"=some (.type "dict"):=by decide +kernel
theorem vE:∀t∈vD,D0 t.2.2=true/\bootBuiltins t.1=some (ES t.2.2):=by
 intro t ht;simp only[vD,QA,QB,SM]at ht;rcases ht with rfl|rfl|rfl|rfl|rfl|rfl|rfl|rfl|rfl
 ·exact⟨rfl,PySem.boot_len⟩
 ·exact⟨rfl,PyProof.Rows.boot_min⟩
 ·exact⟨rfl,PyProof.Rows.boot_max⟩
 ·exact⟨rfl,PyProof.Rows.boot_sum⟩
 ·exact⟨rfl,PyProof.Rows.boot_any⟩
 ·exact⟨rfl,PyProof.Rows.boot_sorted⟩
 ·exact⟨rfl,PyProof.Rows.boot_tuple⟩
 ·exact⟨rfl,PyProof.Rows.boot_list⟩
 ·exact⟨rfl,boot_dict⟩
theorem zq{x:Str}{n:Nat}{b:BI}(h:qi x n=some b):D0 b=true/\bootBuiltins x=some (ES b):=by unfold qi at h;obtain⟨t,h1,rfl⟩:=QD.mp h;have hm:=List.mem_of_find?_eq_some h1;have hp:=List.find?_some h1;rw[Qp]at hp;rw[<-QL hp.1];exact vE t hm
theorem Cj{b:BI}(h:D0 b=true):(∃id,ES b= .builtin id)\/∃T,ES b= .type T:=by cases b<;>first|exact .inl ⟨_,rfl⟩|exact .inr ⟨_,rfl⟩|cases h
theorem gk{x:Str}(h:g.bls.contains x=true):x∈g.bls:=by simpa using h
theorem LG{X:Cx}{Φ:Fm}{Γ:Gm}{x:Str}{n:Nat}{b:BI}{a:Expr}{as:List Expr}{cs:Cs}{p pos:Pos}(hK:Φ.K=X.K)(gx:GX g Γ X)(hG:Gl X x)(hm:X.mg x=none)(hx:cY x=true)(hb:qi x n=some b)(hs:starEach (a::as) X.env=(false,eval a X.env)::starEach as X.env)(eL:(backTo pos (starEach as X.env)).any (·.1)=false)
  (ha:PA X (a::as) (lz Φ Γ F cs)):PE X (.Call (.Name x p) (a::as) [] pos) (bL Φ Γ F g.fr (.bi b cs)):=by
 obtain⟨h1,h2⟩:=zq hb;obtain⟨n1,n2,n3⟩:=bF hx;have hc:=zr (X:=X) b h1 gx.calm gx.un;rcases Cj h1 with ⟨id,e⟩|⟨T,e⟩
 ·rw[e]at h2 hc;exact bp (kA hc hG hm h2 ha n3 n1 hs eL) λσ H Q q=>wo hK q
 ·rw[e]at h2 hc;exact bp (uP hc hG hm h2 ha n3 n1 hs eL) λσ H Q q=>wo hK q
theorem wX{X:Cx}{Φ:Fm}{sc:Scope}{N':List Str}{C:Addr}{s:Shared}{H:Hp}{fp:List Addr}(hX:HX g xv CX k F Φ X):HX g xv CX k F Φ (f6 X sc N' C s H fp (Bb X sc N' (jP Φ xv) C s H fp)) where
 K:=hX.K
 P:=hX.P
 w:=hX.w
 fx:=hX.fx
 room:=hX.room
 cx:=hX.cx
 st:=tQ hX.st
 xgx:=λe s' h=>ED h
 xk:=hX.xk
theorem iC(n:Nat):∀(Γ:Gm)(X:Cx)(Φ:Fm),GX g Γ X->HX g xv CX k F Φ X->Nx g F n Γ X Φ:=by
 induction n with
 |zero=>intro Γ X Φ gx hX;exact⟨λe c h=>by simp[cE]at h,λe c h=>by simp[vJ]at h,λe c h=>by simp[Fw]at h,λo e c p h=>by simp[cB]at h,λo e c h=>by simp[cI]at h,λf a as c p q h=>by simp[rR]at h⟩
 |succ n ih=>
  intro Γ X Φ gx hX;have I:=ih Γ X Φ gx hX;have hK:=hX.K;have hu:=gx.un;refine⟨λe c h=>?_,λes cs h=>?_,λes cs h=>?_,λo es c pos h=>?_,λtg e it h=>?_,λf a as c p pos h=>?_⟩
  ·
   unfold cE at h;split at h
   ·split at h
    ·cases h;exact⟨pC rfl DN,cM λρ S=>bO rfl,rfl⟩
    ·cases h;exact⟨pC rfl xM,cM λρ S=>bO rfl,rfl⟩
    ·cases h;exact⟨pC rfl BL,cM λρ S=>bO rfl,rfl⟩
    ·cases h;exact⟨pC rfl DO,cM λρ S=>bO rfl,rfl⟩
    ·cases h
   ·
    rename_i x p;split at h
    ·rename_i i hi;obtain⟨v1,v2,v3⟩:=jK hi;obtain⟨n1,n2,n3⟩:=bF v2;have hv:PE X (.Name x p) (jq i):=qS (by rw[gx.N];exact v3) (gx.vis x v1) n1 n2;split at h
     ·cases h
     rename_i hδκ;split at h
     ·rename_i hm;cases h;have:=Hr (Φ:=Φ) (F:=F) (fr:=g.fr) hv hm λz=>hδκ (by simp[z])
      exact⟨this,jJ hK this (λ_=>rfl) (λρ S=>by rw[cW,ev];cases dm ρ i<;>rfl),rfl⟩
     ·rename_i hm;cases h;have:=Hy (Φ:=Φ) (F:=F) (fr:=g.fr) hv (by simpa using hm);exact⟨this,jJ hK this (λ_=>rfl) (λρ S=>by rw[cW,ev];cases dm ρ i<;>rfl),rfl⟩
    ·split at h
     ·rename_i hg;rw[Qp]at hg;obtain⟨d,h1,rfl⟩:=QD.mp h;obtain⟨u,k1,k2,k3⟩:=gx.con x d h1;exact⟨pC k1 (tx (gx.gl x hg.1) k2 k3 (bF hg.2).1),cM λρ S=>bO rfl,rfl⟩
     ·cases h
   ·obtain⟨a',h1,h⟩:=Qm.mp h;obtain⟨b',h2,h⟩:=Qm.mp h;cases h;exact⟨Hk hK (I.e _ _ h1).1 (I.e _ _ h2).1,cM λρ S=>bO rfl,rfl⟩
   ·obtain⟨a',h1,h9⟩:=Qm.mp h;clear h;split at h9
    ·cases h9;exact⟨Hs (I.e _ _ h1).1,cM λρ S=>bO rfl,rfl⟩
    ·cases h9;exact⟨LI (I.e _ _ h1).1,Hu (I.e _ _ h1).2.1,rfl⟩
    ·cases h9
   ·obtain⟨k1,k2⟩:=I.b _ _ _ _ h;exact⟨k1,k2.pt,rfl⟩
   ·split at h
    ·obtain⟨a',h1,h⟩:=Qm.mp h;obtain⟨b',h2,h⟩:=Qm.mp h;cases h;have hm:=zO (I.e _ _ h2).2.2;exact⟨Hl hK hu (hm _) (I.e _ _ h1).1 (I.e _ _ h2).1,D6 hK hu (hm _) (I.e _ _ h1).1 (I.e _ _ h2).1,rfl⟩
    ·cases h
   ·split at h
    ·obtain⟨a',h1,h⟩:=Qm.mp h;obtain⟨b',h2,h⟩:=Qm.mp h;cases h;exact⟨Ea hK (I.e _ _ h1).1 (I.e _ _ h2).1,cM λρ S=>bO rfl,rfl⟩
    ·obtain⟨a',h1,h⟩:=Qm.mp h;obtain⟨b',h2,h⟩:=Qm.mp h;cases h;exact⟨D9 hK (I.e _ _ h1).1 (I.e _ _ h2).1,cM λρ S=>bO rfl,rfl⟩
    ·obtain⟨a',h1,h⟩:=Qm.mp h;obtain⟨b',h2,h⟩:=Qm.mp h;cases h;have k1:=λpos=>Hn (pos:=pos) hK (F8 (I.e _ _ h2).2.2) (I.e _ _ h1).1 (I.e _ _ h2).1
     refine⟨k1 _,jJ hK (k1 _) (λ_=>rfl) (λρ S=>?_),rfl⟩;rw[cW,ev];cases ev F a' ρ S with
     |ok x=>
      simp only[R.ai];cases ev F b' ρ x.2 with
      |ok y=>simp only[R.ai];cases bW x.1 y.1<;>rfl
      |ex k=>rfl
      |bad=>rfl
     |ex k=>rfl
     |bad=>rfl
   ·obtain⟨de,h1,h⟩:=Qm.mp h;cases h;exact⟨Hx (I.es _ _ h1).1,cM λρ S=>bO rfl,rfl⟩
   ·obtain⟨de,h1,h⟩:=Qm.mp h;cases h;exact⟨Hq (I.es _ _ h1).1,cM λρ S=>bO rfl,rfl⟩
   ·split at h
    ·cases h;exact⟨id (@LH X Φ Γ F g _ _ _ _ _ _),cM λρ S=>Cz,rfl⟩
    ·cases h
   ·split at h
    ·obtain⟨k1,k2⟩:=I.c _ _ _ _ _ _ h;exact⟨k1,k2,rfl⟩
    ·
     split at h
     ·rename_i hm;rw[Qp]at hm;have em:=QL hm.1;subst em;have NN:∀{oe a b:Expr}{ap pos:Pos}{c:C},(ap.endLine==pos.line)=true->((cE n g Γ oe).bind λo'=>(cE n g Γ a).bind λa'=>(cE n g Γ b).bind λb'=>some (C.gtO o' a' b'))=some c->PE X (.Call (.Attribute oe "get" ap) [a,b] [] pos) (bL Φ Γ F g.fr c)/\PT X (.Call (.Attribute oe "get" ap) [a,b] [] pos) (eV Φ Γ F c)/\oP (.Call (.Attribute oe "get" ap) [a,b] [] pos)=true:=λ {oe a b ap pos c} hl h=>by obtain⟨o',h0,h⟩:=Qm.mp h;obtain⟨a',h1,h⟩:=Qm.mp h;obtain⟨b',h2,h⟩:=Qm.mp h;cases h;have e2:=bP (I.e _ _ h2).2.2 [] X.env;exact⟨Hm hK (I.e _ _ h0).1 (I.e _ _ h1).1 (I.e _ _ h2).1 (zN (I.e _ _ h0).2.2 _ _ _) (by rw[bP (I.e _ _ h1).2.2,e2];rfl) e2 hl,cM λρ S=>bO rfl,rfl⟩
      exact NN hm.2 h
     ·cases h
    ·cases h
   ·
    rename_i elt gens sc pos;split at h
    ·rename_i hk;split at h
     ·rename_i tg it ifs;obtain⟨fA,h1,h⟩:=Qm.mp h;obtain⟨yC,h2,h⟩:=Qm.mp h;obtain⟨ze,h3,h⟩:=Qm.mp h;obtain⟨e',h4,h⟩:=Qm.mp h;split at h
      ·rename_i hb;cases h;rw[Qp]at hb;have CV:sc.kind= .function:=QL hk;have B:=vG gx CV hb.1;have jk:(bA Γ sc).1.N.Nodup:=Qr hb.2;have J:=λC s H fp=>ih (bA Γ sc).1 (f6 X sc (bA Γ sc).1.N C s H fp (Bb X sc (bA Γ sc).1.N (jP Φ xv) C s H fp)) Φ (ni gx B jk) (wX hX)
       refine⟨bp (xG (xb:=Bb X sc (bA Γ sc).1.N (jP Φ xv)) (body:=λacc env=>j4 elt acc env) gx.calm B (tY hX.st hX.xgx) (I.i _ _ _ h1).1 (λqF acc env=>pL ..) (λC s H fp=>Ec (ni gx B jk) h2) (λC s H fp=>(J C s H fp).ts _ _ h3) (λC s H fp D=>tu ((J C s H fp).e _ _ h4).1) (qx (I.i _ _ _ h1).2 _)) λσ H Q q=>ye hK B jk h2 q,cM λρ S=>bO rfl,rfl⟩
      ·cases h
     ·cases h
    ·cases h
   ·cases h
  ·
   unfold vJ at h;split at h
   ·cases h;exact⟨Ht,rfl,λe z=>by cases z⟩
   ·obtain⟨e',h1,h⟩:=Qm.mp h;obtain⟨de,h2,h⟩:=Qm.mp h;cases h;obtain⟨k1,k2,k3⟩:=I.es _ _ h2;refine⟨D7 (bP (I.e _ _ h1).2.2 _ _) (I.e _ _ h1).1 k1,by simp[Cs.len,k2],λe z=>?_⟩;rcases QA.mp z with rfl|z
    ·exact(I.e _ _ h1).2.2
    ·exact k3 e z
  ·
   unfold Fw at h;split at h
   ·cases h;exact λpins s σ H Q I q=>AH pins s σ H Q I (by obtain⟨o,ρ,S,er,q⟩:=q;rw[c9]at q;exact q _ aX.refl er)
   ·obtain⟨e',h1,h⟩:=Qm.mp h;cases h;refine λpins s σ H Q I' q=>AI (I.e _ _ h1).2.1 pins s σ H Q I' ?_
    obtain⟨o,ρ,S,er,q⟩:=q;rw[c9]at q;exact⟨o,ρ,S,er,q⟩
   ·cases h
  ·
   unfold cB at h;split at h
   ·rename_i e;have k1:=(I.e _ _ h).1;have k2:=(I.e _ _ h).2.1;refine⟨xK k1,?_⟩;cases o with
    |And=>exact AJ k2
    |Or=>exact DY k2
   ·rename_i e es nr;obtain⟨e',h1,h⟩:=Qm.mp h;obtain⟨de,h2,h⟩:=Qm.mp h;cases h;cases es with
    |nil=>exact(nr rfl).elim
    |cons b rest=>
     obtain⟨k1,k2⟩:=I.b o _ _ pos h2;cases o with
     |And=>exact⟨Hj (I.e _ _ h1).1 k1,D5 (I.e _ _ h1).2.1 k2⟩
     |Or=>exact⟨LJ (I.e _ _ h1).1 k1,Hv (I.e _ _ h1).2.1 k2⟩
   ·cases h
  ·
   unfold cI at h;split at h
   ·rename_i f p a q;split at h
    ·rename_i hf;have ef:=QL hf;subst ef;split at h
     ·rename_i hg;rw[Qp]at hg;obtain⟨a',h1,h⟩:=Qm.mp h;cases h;exact⟨D8 (gx.gl _ hg.1) (gx.bl _ (gk hg.2)) (bP (I.e _ _ h1).2.2 [] _) (I.e _ _ h1).1,rfl⟩
     ·cases h
    ·obtain⟨c,h1,h⟩:=Qm.mp h;cases h;exact⟨yf hK (I.e _ _ h1).1,rfl⟩
   ·rename_i f p a b q;split at h
    ·rename_i hf;have ef:=QL hf;subst ef;split at h
     ·cases h
     ·cases h
    split at h
    ·rename_i hf;have ef:=QL hf;subst ef;split at h
     ·split at h
      ·rename_i hg;rw[Qp]at hg;obtain⟨a',h1,h⟩:=Qm.mp h;obtain⟨b',h2,h⟩:=Qm.mp h;cases h;have e2:=bP (I.e _ _ h2).2.2 [] X.env;exact⟨Hz hK (gx.gl _ hg.1) (gx.bl _ (gk hg.2)) (by rw[bP (I.e _ _ h1).2.2,e2];rfl) e2 (I.e _ _ h1).1 (I.e _ _ h2).1,rfl⟩
      ·cases h
     ·cases h
    ·obtain⟨c,h1,h⟩:=Qm.mp h;cases h;exact⟨yf hK (I.e _ _ h1).1,rfl⟩
   ·obtain⟨c,h1,h⟩:=Qm.mp h;cases h;exact⟨yf hK (I.e _ _ h1).1,(I.e _ _ h1).2.2⟩
  ·
   have tr:∀{c:C},(∀ρ S,cW F c ρ S=(ev F c ρ S).bind λx=>(dH x.1).bind λb=>.ok (b,x.2))->PE X (.Call (.Name f p) (a::as) [] pos) (bL Φ Γ F g.fr c)->PE X (.Call (.Name f p) (a::as) [] pos) (bL Φ Γ F g.fr c)/\PT X (.Call (.Name f p) (a::as) [] pos) (eV Φ Γ F c):=λhe h=>⟨h,jJ hK h (λ_=>rfl) he⟩
   have JZ:∀(b:BI)(cs:Cs)ρ S,cW F (.bi b cs) ρ S=(ev F (.bi b cs) ρ S).bind λx=>(dH x.1).bind λb=>.ok (b,x.2):=λb cs ρ S=>by
    rw[cW,ev];cases fU F cs ρ S with
    |ok x=>simp only[R.ai];cases c8 b x.1<;>rfl
    |ex k=>rfl
    |bad=>rfl
   have ND:∀(f:Nat)(cs:Cs)(ds:List Dt)ρ S,cW F (.call f cs ds) ρ S=(ev F (.call f cs ds) ρ S).bind λx=>(dH x.1).bind λb=>.ok (b,x.2):=λf cs ds ρ S=>by
    rw[cW,ev];cases fU F cs ρ S with
    |ok x=>simp only[R.ai];cases F f (x.1++ds) none<;>rfl
    |ex k=>rfl
    |bad=>rfl
   have PY:∀(f:Nat)(cs:Cs)ρ S,cW F (.callD f cs) ρ S=(ev F (.callD f cs) ρ S).bind λx=>(dH x.1).bind λb=>.ok (b,x.2):=λf cs ρ S=>by
    rw[cW,ev];cases S.isSome with
    |false=>rfl
    |true=>
     simp only[guard_true];cases fU F cs ρ S with
     |ok x=>
      simp only[R.ai];cases x.2 with
      |none=>rfl
      |some s=>rfl
     |ex k=>rfl
     |bad=>rfl
   unfold rR at h;split at h
   ·rename_i hg;rw[Qp]at hg;have II:=gx.gl f hg.1;obtain⟨n1,n2,n3⟩:=bF hg.2;split at h
    ·rename_i kk np fy bj wK;split at h
     ·
      rename_i hdp;have:bj=true:=hdp;subst this;split at h
      ·rename_i y yp;split at h
       ·rename_i i hi;split at h
        ·cases h
        ·cases h
       ·cases h
      ·cases h
     ·rename_i hdp;have:bj=false:=by simpa using hdp
      subst this;split at h
      ·rename_i hn;rw[Qp]at hn;have a1:=Qr hn.1;have a2:=Qr hn.2;obtain⟨es,h1,h⟩:=Qm.mp h;cases h;obtain⟨k1,k2,k3⟩:=I.es _ _ h1;refine tr (ND _ _ _) (s_call hX II n1 wK (Nat.sub_le _ _) ?_ (bP (k3 a Qv) _ _) (oo λe z=>k3 e (Qt _ z)) k1);rw[k2,RK,QG]
       lia
      ·cases h
    ·split at h
     ·rename_i hbl;have hm:=gx.bl f (gk hbl);split at h
      ·cases h
      split at h
      ·rename_i hisi;have ef:=QL hisi;subst ef;split at h
       ·rename_i t tp hnl;split at h
        ·rename_i za;rw[Qp]at za;obtain⟨T,h1,h⟩:=Qm.mp h;obtain⟨a',h2,h⟩:=Qm.mp h;cases h;have tn:t≠"__name__"/\(t==("__debug__":Str))=false:=by
          unfold rA at h1;split at h1
          ·rename_i e;rw[QL e];exact⟨by decide,by decide⟩
          split at h1
          ·rename_i e;rw[QL e];exact⟨by decide,by decide⟩
          split at h1
          ·rename_i e;rw[QL e];exact⟨by decide,by decide⟩
          split at h1
          ·rename_i e;rw[QL e];exact⟨by decide,by decide⟩
          split at h1
          ·rename_i e;rw[QL e];exact⟨by decide,by decide⟩
          ·cases h1
         exact tr (JZ _ _) (Ho hK II hm (gx.gl t za.1) (gx.bl t (gk za.2)) h1 tn.1 tn.2 (bP (I.e _ _ h2).2.2 _ _) (I.e _ _ h2).1)
        ·cases h
       ·cases h
      ·have regular:∀{c:C},((qi f (as.length+1)).bind λi=>(vJ n g Γ (a::as)).bind λes=>some (C.bi i es))=some c->PE X (.Call (.Name f p) (a::as) [] pos) (bL Φ Γ F g.fr c)/\PT X (.Call (.Name f p) (a::as) [] pos) (eV Φ Γ F c):=λ {c} h=>by obtain⟨b,h1,h⟩:=Qm.mp h;obtain⟨es,h2,h⟩:=Qm.mp h;cases h;obtain⟨k1,k2,k3⟩:=I.es _ _ h2;exact tr (JZ _ _) (LG hK gx II hm hg.2 h1 (bP (k3 a Qv) _ _) (oo λe z=>k3 e (Qt _ z)) k1)
       split at h
       ·rename_i r rp b rq;split at h
        ·cases h
        split at h
        ·rename_i hr;have er:=QL hr;subst er;split at h
         ·rename_i za;rw[Qp,Qp]at za;have ef:=QL za.2;subst ef;obtain⟨b',h1,h9⟩:=Qm.mp h;cases h9;exact tr (JZ _ _) (Eb hK gx.calm gx.un II hm (gx.gl _ za.1.1) (gx.bl _ (gk za.1.2)) (bP (I.e _ _ h1).2.2 [] _) (I.e _ _ h1).1)
         ·cases h
        ·exact regular h
       ·rename_i r rp b c rq zz;split at h
        ·cases h
        ·exact regular h
       ·exact regular h
     ·cases h
   ·cases h
end
structure OI(Φ:Fm)(W:Addr->Prop)(o:Ow):Prop where
 w:o.W=W
 d:∀a,Φ.d0=some a->o.dr=some a
structure SO(Φ:Fm)(Γ:Gm)(W:Addr->Prop)(o:Ow)(H:Hp)(ρ':aj)(S':Sx)(σ':L2.St)(H':Hp):Prop where
 ex:∃o',OI Φ W o'/\ER Φ Γ o' ρ' S' σ' H'/\∀b,o'.A b->o.A b\/H b=none
 ext:aX o.A H H'
 al:∀b x,H b=some x->∃y,H' b=some y
structure RO(Φ:Fm)(W:Addr->Prop)(fF:Bool)(d:Dt)(S':Sx)(v:V)(H':Hp):Prop where
 val:RV Φ.K W H' v d
 ent:aX (λb=>Φ.d0=some b) Φ.H0 H'
 drw:∀a,Φ.d0=some a->∃ns:List Int,S'=some ns/\H' a=some (.lst (ns.map V.int))
 eD:fF=true->∀ds,d= .lst ds->∃a xs,v= .ref a/\Φ.H0 a=none/\H' a=some (.lst xs)/\ak Φ.K (λb=>W b\/b=a) H' xs ds
noncomputable def cG(Φ:Fm)(Γ:Gm)(W:Addr->Prop)(fF:Bool)(o:Ow)(H:Hp)(D:Ends)(p:Fl×aj×Sx):Prop:=match p.1 with
 |.next=>∀σ' H',SO Φ Γ W o H p.2.1 p.2.2 σ' H'->D.nx σ' H'
 |.brk=>∀σ' H',SO Φ Γ W o H p.2.1 p.2.2 σ' H'->D.bk σ' H'
 |.cnt=>∀σ' H',SO Φ Γ W o H p.2.1 p.2.2 σ' H'->D.ct σ' H'
 |.ret d=>∀v H',RO Φ W fF d p.2.2 v H'->D.rt v H'
inductive i8(Φ:Fm)(Γ:Gm)(F:FT)(W:Addr->Prop)(fF:Bool)(t:T)(D:Ends)(σ:L2.St)(H:Hp):Prop
 |mk (o:Ow) (ρ:aj) (S:Sx) (i:OI Φ W o) (e:ER Φ Γ o ρ S σ H) (m:mR Φ.Ek (ex F t ρ S) (cG Φ Γ W fF o H D)):i8 Φ Γ F W fF t D σ H
inductive jr(Φ:Fm)(Γ:Gm)(F:FT)(W:Addr->Prop)(fF:Bool)(t:Ts)(D:Ends)(σ:L2.St)(H:Hp):Prop
 |mk (o:Ow) (ρ:aj) (S:Sx) (i:OI Φ W o) (e:ER Φ Γ o ρ S σ H) (m:mR Φ.Ek (aF F t ρ S) (cG Φ Γ W fF o H D)):jr Φ Γ F W fF t D σ H
theorem bH{X:Cx}{e:Stmt}{t t':TS}(h:PS X e t)(hi:∀D σ H,t' D σ H->t D σ H):PS X e t':=λpins s σ H D I q=>h pins s σ H D I (hi D σ H q)
theorem tG{X:Cx}{e:List Stmt}{t t':TS}(h:oj X e t)(hi:∀D σ H,t' D σ H->t D σ H):oj X e t':=λpins s σ H D I q=>h pins s σ H D I (hi D σ H q)
section
variable{X:Cx}{Φ:Fm}{Γ:Gm}{F:FT}{g:G}{W:Addr->Prop}{fF:Bool}{o:Ow}{ρ:aj}{S:Sx}{σ:L2.St}{H H':Hp}
theorem ER.dA(er:ER Φ Γ o ρ S σ H){H1:Hp}(e:aX o.d H H1):aX o.A H H1:=e.mono er.da
theorem ER.zC{S1:Sx}{ρ1:aj}{σ1:L2.St}{H1:Hp}(aE:ER Φ Γ o ρ1 S1 σ1 H1)(e:aX o.d H H1):∀b x,H b=some x->∃y,H1 b=some y:=λb x h=>e.al h λz=>aE.al b (aE.da b z)
theorem SO.fK{S':Sx}{ρ':aj}{σ':L2.St}(oi:OI Φ W o)(er:ER Φ Γ o ρ' S' σ' H')(e:aX o.d H H'):SO Φ Γ W o H ρ' S' σ' H':=⟨⟨o,oi,er,λb z=>.inl z⟩,e.mono er.da,er.zC e⟩
theorem SO.go{o':Ow}{H1 H2:Hp}{ρ2:aj}{S2:Sx}{σ2:L2.St}(e:aX o.A H H1)(hA:∀b,o'.A b->o.A b\/H b=none)(Bv:∀b x,H b=some x->∃y,H1 b=some y)(h:SO Φ Γ W o' H1 ρ2 S2 σ2 H2):SO Φ Γ W o H ρ2 S2 σ2 H2:=by
 obtain⟨⟨o2,Jh,fg,FN⟩,e2,a2⟩:=h;refine⟨⟨o2,Jh,fg,λb z=>?_⟩,⟨λb x h n=>?_,λb xs h=>e2.tp _ _ (e.tp _ _ h)⟩,λb x h=>?_⟩
 ·rcases FN b z with q|q
  ·exact hA b q
  ·refine .inr ?_;cases hb:H b with
   |none=>rfl
   |some x=>obtain⟨y,hy⟩:=Bv b x hb;rw[q]at hy;cases hy
 ·refine e2.kp _ _ (e.kp _ _ h n) λz=>?_
  rcases hA b z with q|q
  ·exact n q
  ·rw[h]at q;cases q
 ·obtain⟨y,hy⟩:=Bv b x h;exact a2 b y hy
theorem jL{fr:Nat->Bool}{c:C}{d:Dt}{v:V}{H1:Hp}(h:bo c d=true)(eo:EO Φ.K fr o c H d v H1):RV Φ.K o.A H1 v d:=by
 unfold bo at h;rw[Q3]at h;rcases h with h|h
 ·exact eo.mn (Qr h)
 ·exact eo.val.fI h
theorem B0{i:Nat}{c:C}{st:Stmt}(hp:plainS Γ i=true)(h:PS X st (nW (bL Φ Γ F g.fr c) (d7 i))):PS X st (i8 Φ Γ F W fF (.asg i c)):=bH h λD σ H q=>by obtain⟨o,ρ,S,oi,er,q⟩:=q;unfold ex at q;rw[ae]at q;refine⟨o,ρ,S,er,ah q λp _ q v H1 eo aE=>?_⟩;obtain⟨gs,q⟩:=aJ q;exact q _ _ (SO.fK oi (aE.set hp (jL gs eo)) eo.ext)
theorem Ex{i:Nat}{c:C}{st:Stmt}(hp:plainS Γ i=true)(hf:fresh g.fr c=true)(h:PS X st (nW (bL Φ Γ F g.fr c) (d7 i))):PS X st (i8 Φ Γ F W fF (.asgM i c)):=bH h λD σ H q=>by
 obtain⟨o,ρ,S,oi,er,q⟩:=q;unfold ex at q;rw[ae]at q;refine⟨o,ρ,S,er,ah q λp _ q v H1 eo aE=>?_⟩;obtain⟨gs,q⟩:=aJ q;have hv:RV Φ.K o.A H1 v p.1:=by
  by_cases hd:∃ds,p.1= .lst ds
  ·obtain⟨ds,hd⟩:=hd;obtain⟨a,xs,rfl,h1,h2,h3,h4⟩:=eo.eD hf ds hd;have na:¬o.A a:=λz=>by obtain⟨x,hx⟩:=er.al a z;rw[h1]at hx;cases hx
   rw[hd]at gs ⊢;refine RV.dD h2 na ?_;unfold iD at gs;rcases Rh.mp gs with z|z
   ·exact(h4 (Qr z)).weak λb w=>.inl w
   ·exact h3.dQ z
  ·refine jL ?_ eo;unfold iD at gs;unfold bo;cases hq:p.1 with
   |lst ds=>exact absurd ⟨ds,hq⟩ hd
   |_=>rw[hq]at gs;exact gs
 exact q _ _ (SO.fK oi (aE.set hp hv) eo.ext)
theorem ER.own{S1:Sx}{H1:Hp}{fr:Nat->Bool}{c:C}{d:Dt}{v:V}{i:Nat}(oi:OI Φ W o)(er:ER Φ Γ o ρ S σ H)(aE:ER Φ Γ o ρ S1 σ H1)(hm:fh Γ i=true)(hδ:Γ.δ≠some i)(hf:fresh fr c=true)(hl:iD c d=true)(eo:EO Φ.K fr o c H d v H1):
  ∃o',OI Φ W o'/\ER Φ Γ o' (ρ.set i (some d)) S1 (σ.set i (some v)) H1/\∀b,o'.A b->o.A b\/H b=none:=by
 by_cases hd:∃ds,d= .lst ds
 ·obtain⟨ds,rfl⟩:=hd;obtain⟨a,xs,rfl,h1,h2,h3,h4⟩:=eo.eD hf ds rfl;have h4:ak Φ.K (λb=>o.A b\/b=a) H1 xs ds:=by
   unfold iD at hl;rcases Rh.mp hl with l|l
   ·exact h4 (Qr l)
   ·exact h3.dQ l
  have nA:¬o.A a:=λz=>by obtain⟨y,hy⟩:=er.al a z;rw[h1]at hy;cases hy
  have h0:Φ.H0 a=none:=by
   cases q:Φ.H0 a with
   |none=>rfl
   |some x=>
    by_cases vh:Φ.d0=some a
    ·exact absurd (er.da a (oi.d a vh)) nA
    ·rw[er.ent.kp a x q vh]at h1;cases h1
  have av:∀b,(o.A b\/b=a)->o.A b\/H b=none:=λb z=>z.elim .inl λe=>.inr (by rw[e];exact h1)
  have dA:∀b,o.d b->(o.A b\/b=a):=λb z=>.inl (er.da b z)
  refine⟨⟨o.W,λb=>o.A b\/b=a,o.dr⟩,⟨oi.w,oi.d⟩,⟨?_,λb z=>.inl (er.wa b z),λb z=>.inl (er.da b z),λb z=>?_,λj e he=>?_,Dk.set er.dk rfl,λj j' b e e' m m' k1 k2 k3 k4=>?_,aE.drw,aE.drn,λj b hj hb=>?_,aE.dr0,aE.ent⟩,av⟩
  ·rw[RP,RP];exact er.len
  ·rcases z with z|z
   ·exact aE.al b z
   ·rw[z];exact⟨_,h2⟩
  ·by_cases hj:j=i
   ·subst hj;rw[RG]at he;simp only[SI]at he;split at he
    ·rename_i cU;cases he;refine⟨.ref a,by rw[Q8 (by rw[er.len];exact cU)],?_⟩;rw[SH hm];exact⟨a,xs,rfl,h2,.inr rfl,λz=>nA (er.wa a z),λz=>nA (er.da a z),h0,h4⟩
    ·cases he
   ·rw[QF (Sn hj)]at he;obtain⟨w,k1,k2⟩:=er.val j e he;refine⟨w,by rw[QF (Sn hj)];exact k1,?_⟩;by_cases hmj:fh Γ j=true
    ·rw[SH hmj]at k2 ⊢;cases e with
     |lst es=>obtain⟨b,ys,e1,e2,e3,e4,e5,e6,e7⟩:=k2;exact⟨b,ys,e1,eo.ext.kp _ _ e2 e5,.inl e3,e4,e5,e6,(e7.cu av).mono eo.ext dA λ_ z=>z⟩
     |gg=>exact k2.elim
     |_=>exact(RV.cu av k2).mono eo.ext dA λ_ z=>z
    ·rw[SF hmj]at k2 ⊢;exact(k2.cu av).mono eo.ext dA λ_ z=>z
  ·
   have other:∀{j:Nat}{e:List Dt}{b:Addr},j≠i->fh Γ j=true->(ρ.set i (some (.lst ds)))[j]?=some (some (.lst e))->(σ.set i (some (.ref a)))[j]?=some (some (.ref b))->b≠a/\ρ[j]?=some (some (.lst e))/\σ[j]?=some (some (.ref b)):=λ {j e b} hj m k1 k3=>by rw[QF (Sn hj)]at k1 k3;obtain⟨w,n1,n2⟩:=er.val j _ k1;rw[SH m]at n2;obtain⟨b',ys,e1,e2,_⟩:=n2;rw[k3]at n1;cases n1;cases e1;refine⟨λz=>?_,k1,k3⟩;rw[z,h1]at e2;cases e2
   by_cases hj:j=i
   ·by_cases BA:j'=i
    ·rw[hj,BA]
    ·obtain⟨n,_,_⟩:=other BA m' k2 k4;subst hj;have cU:j<σ.length:=by have:=(Qs.mp k3).1;rw[RP]at this;exact this
     rw[Q8 cU]at k3;cases k3;exact absurd rfl n
   ·obtain⟨n,p1,p2⟩:=other hj m k1 k3;by_cases BA:j'=i
    ·subst BA;have cU:j'<σ.length:=by have:=(Qs.mp k4).1;rw[RP]at this;exact this
     rw[Q8 cU]at k4;cases k4;exact absurd rfl n
    ·obtain⟨_,p3,p4⟩:=other BA m' k2 k4;exact er.inj j j' b e e' m m' p1 p3 p2 p4
  ·rw[QF (λz=>hδ (by rw[z];exact hj))];exact aE.drs j b hj hb
 ·
  have nl:∀e,d≠ .lst e:=λe z=>hd ⟨e,z⟩
  have hv:RV Φ.K o.A H1 v d:=by
   unfold iD at hl;rcases Rh.mp hl with l|l
   ·exact eo.mn (Qr l)
   ·cases d with
    |lst ds=>exact absurd rfl (nl ds)
    |_=>exact eo.val.fI l
  refine⟨o,oi,⟨?_,aE.wa,aE.da,aE.al,λj e he=>?_,Dk.set aE.dk hv.nd,λj j' b e e' m m' k1 k2 k3 k4=>?_,aE.drw,aE.drn,λj b hj hb=>?_,aE.dr0,aE.ent⟩,λb z=>.inl z⟩
  ·rw[RP,RP];exact er.len
  ·by_cases hj:j=i
   ·subst hj;rw[RG]at he;simp only[SI]at he;split at he
    ·rename_i cU;cases he;refine⟨v,by rw[Q8 (by rw[er.len];exact cU)],?_⟩;rw[SH hm];cases d with
     |lst ds=>exact absurd rfl (nl ds)
     |gg=>cases hv.nd
     |_=>exact hv
    ·cases he
   ·rw[QF (Sn hj)]at he;obtain⟨w,k1,k2⟩:=aE.val j e he;exact⟨w,by rw[QF (Sn hj)];exact k1,k2⟩
  ·have other:∀{j:Nat}{e:List Dt},(ρ.set i (some d))[j]?=some (some (.lst e))->j≠i:=λ {j e} k1 z=>by
    subst z;rw[RG]at k1;simp only[SI]at k1;split at k1
    ·cases k1;exact nl e rfl
    ·cases k1
   have n1:=other k1;have n2:=other k2;rw[QF (Sn n1)]at k1 k3;rw[QF (Sn n2)]at k2 k4;exact aE.inj j j' b e e' m m' k1 k2 k3 k4
  ·rw[QF (λz=>hδ (by rw[z];exact hj))];exact aE.drs j b hj hb
theorem Ew{i:Nat}{c:C}{st:Stmt}(hm:fh Γ i=true)(hδ:Γ.δ≠some i)(hf:fresh g.fr c=true)(h:PS X st (nW (bL Φ Γ F g.fr c) (d7 i))):PS X st (i8 Φ Γ F W fF (.asgM i c)):=bH h λD σ H q=>by obtain⟨o,ρ,S,oi,er,q⟩:=q;unfold ex at q;rw[ae]at q;refine⟨o,ρ,S,er,ah q λp _ q v H1 eo aE=>?_⟩;obtain⟨gs,q⟩:=aJ q;exact q _ _ ⟨ER.own oi er aE hm hδ hf gs eo,er.dA eo.ext,aE.zC eo.ext⟩
end
section
variable{X:Cx}{Φ:Fm}{Γ:Gm}{F:FT}{g:G}{W:Addr->Prop}{fF:Bool}{o:Ow}{ρ:aj}{S:Sx}{σ:L2.St}{H H':Hp}
theorem jG{Ek:Nat->Prop}{ρ:aj}{i:Nat}{P:List Dt->Prop}(h:mR Ek (oZ ρ i) P):∃ds,ρ[i]?=some (some (.lst ds))/\P ds:=by
 unfold oZ at h;split at h
 ·exact⟨_,by assumption,h⟩
 ·exact h.elim
theorem yH{a:Addr}{u:HO}:∀b x,H b=some x->∃y,upd H a u b=some y:=λb x h=>by
 by_cases z:b=a
 ·subst z;exact⟨_,ax⟩
 ·exact⟨x,by rw[az z];exact h⟩
theorem ny{ρ:aj}{i:Nat}(h:isLE ρ i=true):∃ds,ρ[i]?=some (some (.lst ds)):=by
 unfold isLE at h;split at h
 ·exact⟨_,by assumption⟩
 ·cases h
theorem ER.chg{i:Nat}{a:Addr}{ds es:List Dt}{xs ys:List V}(er:ER Φ Γ o ρ S σ H)(hm:fh Γ i=true)(hr:ρ[i]?=some (some (.lst ds)))(hs:σ[i]?=some (some (.ref a)))(hx:H a=some (.lst xs))(hy:ak Φ.K o.A H ys es):
  ER Φ Γ o (ρ.set i (some (.lst es))) S σ (upd H a (.lst ys))/\aX o.A H (upd H a (.lst ys))/\∀b x,H b=some x->∃y,upd H a (.lst ys) b=some y:=by
 obtain⟨v,h1,h2⟩:=er.val i _ hr;rw[SH hm]at h2;rw[hs]at h1;cases h1;obtain⟨b,zs,e1,e2,e3,e4,e5,e6,e7⟩:=h2;cases e1;have up:aX (λb=>b=a) H (upd H a (.lst ys)):=⟨λb o h n=>by rw[az n];exact h,Mx.kP hx⟩;have sub:∀b,b=a->o.A b:=λb z=>by rw[z];exact e3
 refine⟨⟨by rw[RP];exact er.len,er.wa,er.da,λb hb=>?_,λj d hd=>?_,Dk.set er.dk rfl,λj j' b d d' m m' k1 k2 k3 k4=>?_,λb hb=>?_,er.drn,er.drs,er.dr0,?_⟩,up.mono sub,yH⟩
 ·obtain⟨x,hx⟩:=er.al b hb;exact yH b x hx
 ·by_cases hj:j=i
  ·subst hj;rw[RG]at hd;simp only[SI]at hd;split at hd
   ·cases hd;refine⟨.ref a,hs,?_⟩;rw[SH hm];exact⟨a,ys,rfl,ax,e3,e4,e5,e6,hy.mono up sub λ_ z=>z⟩
   ·cases hd
  ·rw[QF (Sn hj)]at hd;obtain⟨w,k1,k2⟩:=er.val j d hd;refine⟨w,k1,?_⟩;by_cases hmj:fh Γ j=true
   ·rw[SH hmj]at k2 ⊢;cases d with
    |lst dl=>obtain⟨b,PN,n1,n2,n3,n4,n5,n6,n7⟩:=k2;refine⟨b,PN,n1,up.kp _ _ n2 (λz=>?_),n3,n4,n5,n6,n7.mono up sub λ_ z=>z⟩;subst n1 z;exact hj (er.inj j i b dl ds hmj hm hd hr k1 hs)
    |gg=>exact k2.elim
    |_=>exact RV.mono up sub (λ_ z=>z) k2
   ·rw[SF hmj]at k2 ⊢;exact k2.mono up sub λ_ z=>z
 ·have same:∀{j:Nat}{d:List Dt},(ρ.set i (some (.lst es)))[j]?=some (some (.lst d))->∃d',ρ[j]?=some (some (.lst d')):=λ {j d} q=>by
   by_cases hj:j=i
   ·subst hj;exact⟨ds,hr⟩
   ·rw[QF (Sn hj)]at q;exact⟨d,q⟩
  obtain⟨d1,q1⟩:=same k1;obtain⟨d2,q2⟩:=same k2;exact er.inj j j' b d1 d2 m m' q1 q2 k3 k4
 ·obtain⟨ns,n1,n2⟩:=er.drw b hb;exact⟨ns,n1,up.kp _ _ n2 λz=>e5 (by rw[<-z];exact hb)⟩
 ·refine⟨λb x h n=>up.kp _ _ (er.ent.kp b x h n) λz=>?_,λb xs h=>up.tp _ _ (er.ent.tp b xs h)⟩;subst z;rw[h]at e6;cases e6
theorem gA{i:Nat}{ds:List Dt}(er:ER Φ Γ o ρ S σ H)(hm:fh Γ i=true)(hr:ρ[i]?=some (some (.lst ds))):∃a xs,σ[i]?=some (some (.ref a))/\H a=some (.lst xs)/\ak Φ.K o.A H xs ds:=by obtain⟨v,h1,h2⟩:=er.val i _ hr;rw[SH hm]at h2;obtain⟨a,xs,e1,e2,e3,e4,e5,e6,e7⟩:=h2;subst e1;exact⟨a,xs,h1,e2,e7⟩
theorem Ib{i:Nat}{c:C}{st:Stmt}(hm:fh Γ i=true)(h:PS X st (pH (LP X.K "list" tL (jq i) (yz (bL Φ Γ F g.fr c) Eh)))):PS X st (i8 Φ Γ F W fF (.app i c)):=bH h λD σ H q=>by obtain⟨o,ρ,S,oi,er,q⟩:=q;unfold ex at q;obtain⟨gl,q⟩:=aJ q;obtain⟨ds,hr⟩:=ny gl;obtain⟨a,xs,h1,h2,h3⟩:=gA er hm hr;rw[ae]at q;refine⟨.ref a,h1,.inl ⟨rfl,_,dy.of h2⟩,o,ρ,S,er,ah q λp _ q v H1 eo aE=>?_⟩;obtain⟨gs,q⟩:=aJ q;rw[ae]at q;obtain⟨la,e1,q⟩:=jG q;rw[hr]at e1;cases e1;obtain⟨gl,q⟩:=aJ q;obtain⟨a',u9,iL,jB,sF⟩:=gA aE hm hr;rw[h1]at iL;cases iL;have kY:=cj;have wV:=SQ;have P8:lim=1000000:=rfl;have vi:=Qr gl;refine⟨a,u9,v,rfl,rfl,jB,by rw[sF.length];lia,?_⟩;obtain⟨k1,k2,k3⟩:=aE.chg hm hr h1 jB (sF.append (ak.cons (jL gs eo) ak.nil));exact q _ _ (SO.go (er.dA eo.ext) (λb z=>.inl z) (aE.zC eo.ext) ⟨⟨o,oi,k1,λb z=>.inl z⟩,k2,k3⟩)
theorem Ik{i:Nat}{c:C}{st:Stmt}(hm:fh Γ i=true)(h:PS X st (pH (LP X.K "list" Mx.BQ (jq i) (yz (bL Φ Γ F g.fr c) Eh)))):PS X st (i8 Φ Γ F W fF (.xtd i c)):=bH h λD σ H q=>by
 obtain⟨o,ρ,S,oi,er,q⟩:=q;unfold ex at q;obtain⟨gl,q⟩:=aJ q;obtain⟨ds,hr⟩:=ny gl;obtain⟨a,xs,h1,h2,h3⟩:=gA er hm hr;rw[ae]at q;refine⟨.ref a,h1,.inl ⟨rfl,_,dy.of h2⟩,o,ρ,S,er,ah q λp _ q v H1 eo aE=>?_⟩;obtain⟨gs,q⟩:=aJ q;rw[ae]at q;obtain⟨la,e1,q⟩:=jG q;rw[hr]at e1;cases e1;obtain⟨a',u9,iL,jB,sF⟩:=gA aE hm hr;rw[h1]at iL;cases iL;cases hd:p.1 with
 |lst es=>rw[hd]at q eo;obtain⟨gl,q⟩:=aJ q;obtain⟨b,zs,rfl,f1,f2⟩:=eo.uX (Qr gs);have kY:=cj;have vi:=Qr gl;refine⟨a,b,u9,zs,rfl,rfl,jB,.inl f1,by rw[sF.length,f2.length];lia,?_⟩;obtain⟨k1,k2,k3⟩:=aE.chg hm hr h1 jB (sF.append f2);exact q _ _ (SO.go (er.dA eo.ext) (λb z=>.inl z) (aE.zC eo.ext) ⟨⟨o,oi,k1,λb z=>.inl z⟩,k2,k3⟩)
 |tup es=>rw[hd]at q eo;obtain⟨gl,q⟩:=aJ q;obtain⟨b,zs,rfl,f1,f2⟩:=RV.ag (eo.uX (Qr gs));have kY:=cj;have vi:=Qr gl;refine⟨a,b,u9,zs,rfl,rfl,jB,.inr f1,by rw[sF.length,f2.length];lia,?_⟩;obtain⟨k1,k2,k3⟩:=aE.chg hm hr h1 jB (sF.append f2);exact q _ _ (SO.go (er.dA eo.ext) (λb z=>.inl z) (aE.zC eo.ext) ⟨⟨o,oi,k1,λb z=>.inl z⟩,k2,k3⟩)
 |_=>rw[hd]at q;exact q.elim
theorem Ie{i:Nat}{st:Stmt}(hm:fh Γ i=true)(h:PS X st (pH (HH X.K "list" ya (jq i)))):PS X st (i8 Φ Γ F W fF (.clr i)):=bH h λD σ H q=>by obtain⟨o,ρ,S,oi,er,q⟩:=q;unfold ex at q;rw[ae]at q;obtain⟨ds,hr,q⟩:=jG q;obtain⟨a,xs,h1,h2,h3⟩:=gA er hm hr;obtain⟨k1,k2,k3⟩:=er.chg hm hr h1 h2 (ak.nil (K:=Φ.K) (A:=o.A));exact⟨.ref a,h1,.inl ⟨rfl,_,dy.of h2⟩,a,xs,rfl,rfl,h2,q _ _ ⟨⟨o,oi,k1,λb z=>.inl z⟩,k2,k3⟩⟩
theorem EC{i:Nat}{k v:C}{st:Stmt}(hm:fh Γ i=true)(h:PS X st (nW (bL Φ Γ F g.fr v) (FG (jq i) (bL Φ Γ F g.fr k) BS))):PS X st (i8 Φ Γ F W fF (.rd i k v)):=bH h λD σ H q=>by
 obtain⟨o,ρ,S,oi,er,q⟩:=q;unfold ex at q;obtain⟨gl,q⟩:=aJ q;obtain⟨ds,hr⟩:=ny gl;obtain⟨a,xs,h1,h2,h3⟩:=gA er hm hr;rw[ae]at q;refine⟨o,ρ,S,er,ah q λp _ q x H1 eo aE=>?_⟩;rw[ae]at q;refine⟨.ref a,h1,o,ρ,p.2,aE,ah q λp2 _ q y H2 eo2 fg=>?_⟩;obtain⟨gs,q⟩:=aJ q;rw[ae]at q;obtain⟨la,e1,q⟩:=jG q;rw[hr]at e1;cases e1;obtain⟨a',u9,iL,jB,sF⟩:=gA fg hm hr;rw[h1]at iL;cases iL;cases hd:p2.1 with
 |int n=>
  rw[hd]at q eo2;simp only at q;cases hj:kZ ds.length n with
  |none=>rw[hj]at q;exact q.elim
  |some j=>
   rw[hj]at q;have hx:RV Φ.K o.A H2 x p.1:=by
    unfold bo at gs;rw[Q3]at gs;obtain⟨k1,k2,k3⟩:=eo.keep eo2.ext er.gF;rcases gs with gs|gs
    ·exact k2 (Qr gs)
    ·exact k1.fI gs
   refine⟨a,u9,n,j,rfl,eo2.val.int_inv,jB,by rw[sF.length];exact hj,?_⟩;obtain⟨k1,k2,k3⟩:=fg.chg hm hr h1 jB (sF.set j hx);exact q _ _ (SO.go (er.dA (eo.ext.trans eo2.ext)) (λb z=>.inl z) (fg.zC (eo.ext.trans eo2.ext)) ⟨⟨o,oi,k1,λb z=>.inl z⟩,k2,k3⟩)
 |_=>rw[hd]at q;exact q.elim
theorem Ih{c:C}{st:Stmt}(h:PS X st (pH (bL Φ Γ F g.fr c))):PS X st (i8 Φ Γ F W fF (.FA c)):=bH h λD σ H q=>by obtain⟨o,ρ,S,oi,er,q⟩:=q;unfold ex at q;rw[ae]at q;exact⟨o,ρ,S,er,ah q λp _ q v H1 eo aE=>q _ _ (SO.fK oi aE eo.ext)⟩
theorem Ey{is:List Nat}{c:C}{st:Stmt}(hK:Φ.K=X.K)(hp:∀i∈is,plainS Γ i=true)(h:PS X st (nW (bL Φ Γ F g.fr c) (Mx.sD X.K is.length (pJ is)))):PS X st (i8 Φ Γ F W fF (.asgT is c)):=bH h λD σ H q=>by obtain⟨o,ρ,S,oi,er,q⟩:=q;unfold ex at q;rw[ae]at q;refine⟨o,ρ,S,er,ah q λp _ q v H1 eo aE=>?_⟩;obtain⟨gs,q⟩:=aJ q;rw[ae]at q;obtain⟨ρ1,hρ,q⟩:=kf (yo _ _ _) q;rw[<-hK];exact AZ aE hp (jL gs eo) hρ λσ1 fg _=>q _ _ (SO.fK oi fg eo.ext)
theorem ER.h0{a:Addr}(oi:OI Φ W o)(er:ER Φ Γ o ρ S σ H)(h:H a=none):Φ.H0 a=none:=by
 cases q:Φ.H0 a with
 |none=>rfl
 |some x=>
  by_cases vh:Φ.d0=some a
  ·obtain⟨y,hy⟩:=er.al a (er.da a (oi.d a vh));rw[h]at hy;cases hy
  ·rw[er.ent.kp a x q vh]at h;cases h
theorem B1{c:C}{st:Stmt}(hf:fF=true->fresh g.fr c=true)(h:PS X st (Ej (bL Φ Γ F g.fr c))):PS X st (i8 Φ Γ F W fF (.ret c)):=bH h λD σ H q=>by
 obtain⟨o,ρ,S,oi,er,q⟩:=q;unfold ex at q;rw[ae]at q;refine⟨o,ρ,S,er,ah q λp CS q v H1 eo aE=>?_⟩;have hw:∀b,W b->o.wd b:=λb z=>.inl (by rw[oi.w];exact z)
 refine q _ _ ⟨eo.val.weak hw,aE.ent,λa ha=>aE.drw a (oi.d a ha),λhfF ds ed=>?_⟩;obtain⟨a,xs,h1,h2,h3,h4,_⟩:=eo.eD (hf hfF) ds ed;exact⟨a,xs,h1,er.h0 oi h2,h3,h4.weak λb z=>z.imp (hw b) id⟩
theorem EA{i:Nat}{st:Stmt}(hm:fh Γ i=true)(hκ:Γ.κ≠some i)(h:PS X st (Ej (jq i))):PS X st (i8 Φ Γ F W fF (.ret (.mvr i))):=bH h λD σ H q=>by
 obtain⟨o,ρ,S,oi,er,q⟩:=q;unfold ex ev at q;rw[ae,ae]at q;obtain⟨d,hd,q⟩:=mZ q;obtain⟨v,k1,k2⟩:=er.val i d hd;rw[SH hm]at k2;have hw:∀b,W b->o.wd b:=λb z=>.inl (by rw[oi.w];exact z)
 have O4:∀b,W b->o.A b:=λb z=>er.wa b (by rw[oi.w];exact z)
 refine⟨v,k1,q _ _ ⟨(k2.val (er.nd hd hκ) er.wa er.da).weak hw,er.ent,λa ha=>er.drw a (oi.d a ha),λhfF ds ed=>?_⟩⟩;simp only at ed;subst ed;obtain⟨a,xs,e1,e2,e3,e4,e5,e6,e7⟩:=k2;exact⟨a,xs,e1,e6,e2,e7.weak λb z=>z.elim (O4 b) λy=>by rw[y];exact e3⟩
theorem EB{st:Stmt}(h:PS X st BY):PS X st (i8 Φ Γ F W fF .retN):=bH h λD σ H q=>by obtain⟨o,ρ,S,oi,er,q⟩:=q;exact q _ _ ⟨RV.gw,er.ent,λa ha=>er.drw a (oi.d a ha),λ_ ds ed=>by cases ed⟩
theorem Ez{st:Stmt}(h:PS X st yB):PS X st (i8 Φ Γ F W fF .pas):=bH h λD σ H q=>by obtain⟨o,ρ,S,oi,er,q⟩:=q;exact q _ _ (SO.fK oi er aX.refl)
theorem Ic{st:Stmt}(h:PS X st yy):PS X st (i8 Φ Γ F W fF .brk):=bH h λD σ H q=>by obtain⟨o,ρ,S,oi,er,q⟩:=q;exact q _ _ (SO.fK oi er aX.refl)
theorem Ig{st:Stmt}(h:PS X st BX):PS X st (i8 Φ Γ F W fF .cnt):=bH h λD σ H q=>by obtain⟨o,ρ,S,oi,er,q⟩:=q;exact q _ _ (SO.fK oi er aX.refl)
theorem cG.go{o':Ow}{H1:Hp}{D D':Ends}{p:Fl×aj×Sx}(e:aX o.A H H1)(hA:∀b,o'.A b->o.A b\/H b=none)(Bv:∀b x,H b=some x->∃y,H1 b=some y)
  (hn:∀σ' H',D.nx σ' H'->D'.nx σ' H') (hb:∀σ' H',D.bk σ' H'->D'.bk σ' H') (hc:∀σ' H',D.ct σ' H'->D'.ct σ' H') (hr:∀v H',D.rt v H'->D'.rt v H') (h:cG Φ Γ W fF o H D p):cG Φ Γ W fF o' H1 D' p:=by
 unfold cG at h ⊢;cases hp:p.1 with
 |next=>rw[hp]at h;exact λσ' H' so=>hn _ _ (h σ' H' (SO.go e hA Bv so))
 |brk=>rw[hp]at h;exact λσ' H' so=>hb _ _ (h σ' H' (SO.go e hA Bv so))
 |cnt=>rw[hp]at h;exact λσ' H' so=>hc _ _ (h σ' H' (SO.go e hA Bv so))
 |ret d=>rw[hp]at h;exact λv H' ro=>hr _ _ (h v H' ro)
theorem yQ:oj X [] (jr Φ Γ F W fF .nil):=tG AF λD σ H q=>by obtain⟨o,ρ,S,oi,er,q⟩:=q;exact q _ _ (SO.fK oi er aX.refl)
theorem Bc{st:Stmt}{k7:List Stmt}{t:T}{ts:Ts}(h1:PS X st (i8 Φ Γ F W fF t))(h2:oj X k7 (jr Φ Γ F W fF ts)):oj X (st::k7) (jr Φ Γ F W fF (.cons t ts)):=tG (pA h1 h2) λD σ H q=>by
 obtain⟨o,ρ,S,oi,er,q⟩:=q;unfold aF at q;rw[ae]at q;refine⟨o,ρ,S,oi,er,ah q λp _ q=>?_⟩;unfold cG;cases hp:p.1 with
 |next=>rw[hp]at q;intro σ1 H1 so;obtain⟨⟨o1,Lj,aE,Kd⟩,e1,a1⟩:=so;exact⟨o1,p.2.1,p.2.2,Lj,aE,ah q λp2 _ q=>cG.go e1 Kd a1 (λ_ _ z=>z) (λ_ _ z=>z) (λ_ _ z=>z) (λ_ _ z=>z) q⟩
 |brk=>rw[hp]at q;exact q
 |cnt=>rw[hp]at q;exact q
 |ret d=>rw[hp]at q;exact q
theorem Ij{t:C}{a b:Ts}{st:Stmt}(h:PS X st (HM (eV Φ Γ F t) (jr Φ Γ F W fF a) (jr Φ Γ F W fF b))):PS X st (i8 Φ Γ F W fF (.ifs t a b)):=bH h λD σ H q=>by
 obtain⟨o,ρ,S,oi,er,q⟩:=q;unfold ex at q;rw[ae]at q;refine⟨o,ρ,S,er,ah q λp _ q H1 e1 aE=>?_⟩;have go:∀{ts:Ts},mR Φ.Ek (aF F ts ρ p.2) (cG Φ Γ W fF o H D)->jr Φ Γ F W fF ts D σ H1:=λq=>⟨o,ρ,p.2,oi,aE,ah q λp2 _ q=>cG.go (er.dA e1) (λb z=>.inl z) (aE.zC e1) (λ_ _ z=>z) (λ_ _ z=>z) (λ_ _ z=>z) (λ_ _ z=>z) q⟩
 cases hp:p.1 with
 |true=>rw[hp]at q;exact GD (go q)
 |false=>rw[hp]at q;exact GC (go q)
theorem Ii{tg:Tg}{it:pW}{b:Ts}{st:Stmt}(hK:Φ.K=X.K)(hp:∀i∈bT tg,plainS Γ i=true)(h:PS X st (HL (rj Φ Γ F it) (E8 X.K tg) (jr Φ Γ F W fF b))):PS X st (i8 Φ Γ F W fF (.fr tg it b)):=bH h λD σ H q=>by
 obtain⟨o,ρ,S,oi,er,q⟩:=q;unfold ex at q;rw[ae]at q;refine⟨o,ρ,S,er,ah q λp _ q J H1 io aE=>?_⟩;obtain⟨gs,q⟩:=aJ q;have wk:Wk Φ.K o.A o.A J H1 p.1:=(Rh.mp gs).elim (λz=>io.w0 (Qr z)) io.w2;refine⟨λi m σ2 H2=>m=p.1.length-i/\i<=p.1.length/\∃o2 ρ2 S2,OI Φ W o2/\ER Φ Γ o2 ρ2 S2 σ2 H2/\aX o.A H1 H2/\(∀b,o2.A b->o.A b\/H1 b=none)/\(∀b x,H1 b=some x->∃y,H2 b=some y)/\mR Φ.Ek (forL tg (aF F b) (p.1.drop i) ρ2 S2) (cG Φ Γ W fF o H D),
  ⟨_,rfl,Sm _,o,ρ,p.2,oi,aE,aX.refl,λb z=>.inl z,λb x hx=>⟨x,hx⟩,q⟩,?_⟩
 rintro i m σ2 H2 ⟨rfl,hi,o2,ρ2,S2,Jh,fg,e2,FN,Mm,q⟩;have eH:aX o.A H H2:=(er.dA io.ext).trans e2;have aH:∀b x,H b=some x->∃y,H2 b=some y:=λb x hx=>by obtain⟨y,hy⟩:=aE.zC io.ext b x hx;exact Mm b y hy
 have A1:∀b,o2.A b->o.A b\/H b=none:=λb z=>(FN b z).imp id λq=>by
  cases hb:H b with
  |none=>rfl
  |some x=>obtain⟨y,hy⟩:=aE.zC io.ext b x hb;rw[q]at hy;cases hy
 by_cases cU:i<p.1.length
 ·refine .inr ⟨wk.go i H2 cU e2,?_⟩;have hd:∃d,p.1[i]?=some d:=⟨p.1[i],by simp[cU]⟩;obtain⟨d0,vh⟩:=hd;have J0:p.1.drop i=d0::p.1.drop (i+1):=by rw[RA cU];congr 1;exact(Qs.mp vh).2
  rw[J0]at q;unfold forL at q;rw[ae]at q;obtain⟨ρ3,hρ,q⟩:=kf (pD _ _ _) q;rw[ae]at q;refine⟨λσ3 H3=>i+1<=p.1.length/\∃o3 ρ3 S3,OI Φ W o3/\ER Φ Γ o3 ρ3 S3 σ3 H3/\aX o.A H1 H3/\(∀b,o3.A b->o.A b\/H1 b=none)/\(∀b x,H1 b=some x->∃y,H3 b=some y)/\mR Φ.Ek (forL tg (aF F b) (p.1.drop (i+1)) ρ3 S3) (cG Φ Γ W fF o H D),λσ3 H3 z=>⟨p.1.length-(i+1),by lia,rfl,z⟩,λx H3 y=>?_⟩;obtain⟨s3,d,hd,hx⟩:=wk.yld i x H2 H3 cU e2 y;rw[vh]at hd;cases hd;have n9:=hx o2.A FN;rw[<-hK];refine yD (fg.grow s3) hp n9 hρ λσ4 J4 _=>?_
  refine⟨o2,ρ3,S2,Jh,J4,ah q λp2 _ q=>?_⟩;have again:∀{σ5:L2.St}{H5:Hp},SO Φ Γ W o2 H3 p2.2.1 p2.2.2 σ5 H5->mR Φ.Ek (forL tg (aF F b) (p.1.drop (i+1)) p2.2.1 p2.2.2) (cG Φ Γ W fF o H D)->i+1<=p.1.length/\∃o3 ρ3 S3,OI Φ W o3/\ER Φ Γ o3 ρ3 S3 σ5 H5/\aX o.A H1 H5/\(∀b,o3.A b->o.A b\/H1 b=none)/\(∀b x,H1 b=some x->∃y,H5 b=some y)/\mR Φ.Ek (forL tg (aF F b) (p.1.drop (i+1)) ρ3 S3) (cG Φ Γ W fF o H D):=λ {σ5 H5} so q=>by have Pq:=SO.go (o:=o) (H:=H1) (e2.trans (aX.of_same s3)) FN (λb x hx=>by obtain⟨y,hy⟩:=Mm b x hx;exact⟨y,s3 _ _ hy⟩) so;obtain⟨⟨o5,Pj,IG,NS⟩,e5,a5⟩:=Pq;exact⟨cU,o5,_,_,Pj,IG,e5,NS,a5,q⟩
  unfold cG;cases eJ:p2.1 with
  |next=>rw[eJ]at q;exact λσ5 H5 so=>again so q
  |cnt=>rw[eJ]at q;exact λσ5 H5 so=>again so q
  |brk=>rw[eJ]at q;intro σ5 H5 so;have q:cG Φ Γ W fF o H D (.next,p2.2):=q;unfold cG at q;exact q σ5 H5 (SO.go (eH.trans (aX.of_same s3)) A1 (λb x hx=>by obtain⟨y,hy⟩:=aH b x hx;exact⟨y,s3 _ _ hy⟩) so)
  |ret d=>rw[eJ]at q;have q:cG Φ Γ W fF o H D (.ret d,p2.2):=q;exact q
 ·have e:i=p.1.length:=⋯
  subst e;rw[List.drop_length]at q;have q:cG Φ Γ W fF o H D (.next,ρ2,S2):=q;unfold cG at q;exact .inl ⟨wk.stop H2 e2,q _ _ ⟨⟨o2,Jh,fg,A1⟩,eH,aH⟩⟩
end
noncomputable def mP(g:G)(Γ:Gm):Expr->Option (List Nat)
 |.Constant (.str x) _ _=>if x.length<=1000 then some [] else none
 |.FormattedValue (.Name x _) (-1) none _=>if cY x then(match slot Γ x with
  |some i=>some [i]
  |none=>if sE (Γ.names.lookup x) then(match g.cons.lookup x with
   |some (.int n)=>if 0<=n/\n<10^19 then some [] else none
   |_=>none) else none) else none
 |_=>none
noncomputable def K7(g:G)(Γ:Gm):List Expr->Option (List Nat)
 |[]=>some []
 |e::es=>(mP g Γ e).bind λa=>(K7 g Γ es).bind λb=>some (a++b)
noncomputable def mS(g:G)(Γ:Gm):Expr->Option (List Nat)
 |.Constant (.str _) _ _=>some []
 |.JoinedStr (e1::e2::es) _=>if (e1::e2::es).length<=100 then K7 g Γ (e1::e2::es) else none
 |_=>none
noncomputable def pV(vs:List Nat)(σ:L2.St):Prop:=∀i∈vs,∃n:Nat,σ[i]?=some (some (.int n))/\n<10^19
section
variable{g:G}{xv:Nat->Value}{CX:jt}{k:Nat}{F:FT}{X:Cx}{Φ:Fm}{Γ:Gm}{W:Addr->Prop}{fF:Bool}
theorem Aj{e:Expr}{vs:List Nat}(h:mS g Γ e=some vs)(env:Env):starEach [e] env=[(false,eval e env)]:=by unfold mS at h;split at h<;>first|rfl|cases h
theorem DS(gx:GX g Γ X){e:Expr}{vs us:List Nat}(h:mP g Γ e=some vs)(hs:∀i∈vs,i∈us):Fg X e (pV us):=by
 unfold mP at h;split at h
 ·split at h
  ·rename_i hl;exact Az hl
  ·cases h
 ·split at h
  ·rename_i ho;obtain⟨n1,n2,n3⟩:=bF ho;split at h
   ·rename_i i hi;cases h;obtain⟨v1,v2,v3⟩:=jK hi;intro pins s σ H Q I hp q;exact AA (by rw[gx.N];exact v3) (gx.vis _ v1) n1 n2 pins s σ H Q I (hp i (hs i (by simp))) q
   ·split at h
    ·rename_i hg;split at h
     ·rename_i n hc;split at h
      ·rename_i hn;obtain⟨u,_,h2,h3⟩:=gx.con _ _ hc;obtain⟨m,rfl⟩:=Int.eq_ofNat_of_zero_le hn.1;exact xS (gx.gl _ hg) h2 h3 ⋯ n1
      ·cases h
     ·cases h
    ·cases h
  ·cases h
 ·cases h
theorem xU(gx:GX g Γ X){us:List Nat}:∀{es:List Expr}{vs:List Nat},K7 g Γ es=some vs->(∀i∈vs,i∈us)->Fh X es (pV us)
 |[],vs,_,_=>AB
 |e::es,vs,h,hs=>by obtain⟨a,h1,h⟩:=Qm.mp h;obtain⟨b,h2,h⟩:=Qm.mp h;cases h;refine xT (DS gx h1 λi hi=>hs i (RW _ hi)) (xU gx h2 λi hi=>hs i (QU _ hi)) ?_;unfold mP at h1;split at h1<;>first|rfl|cases h1
theorem Hd(gx:GX g Γ X){e:Expr}{vs:List Nat}(h:mS g Γ e=some vs):PM X e (pV vs):=by
 unfold mS at h;split at h
 ·exact DR
 ·split at h
  ·rename_i hl;exact uR (xU gx h λi hi=>hi) hl
  ·cases h
 ·cases h
theorem EG{c:Str}{k0:Nat}(h:xa c (g.xs.map (·.1))=some k0):∃ts,g.xs[k0]?=some (c,ts):=by have:=jE h;rw[QH]at this;obtain⟨⟨a,ts⟩,h1,h2⟩:=QD.mp this;cases h2;exact⟨ts,h1⟩
theorem Mi{k0:Nat}{vs:List Nat}{ts:List (Str×Bool)}{c:Str}{arg:Expr}{np cP pos:Pos}(hX:HX g xv CX k F Φ X)(gx:GX g Γ X)(hx:g.xs[k0]?=some (c,ts))(hg:Gl X c)(oQ:(c==("__debug__":Str))=false)(he:PM X arg (pV vs))(lU:starEach [arg] X.env=[(false,eval arg X.env)]):
  PS X (.Raise (some (.Call (.Name c np) [arg] [] cP)) none pos) (i8 Φ Γ F W fF (.rs k0 vs)):=by
 intro pins s σ H D I q;obtain⟨o,ρ,S,oi,er,q⟩:=q;unfold ex at q;obtain⟨hm,q⟩:=aJ q;obtain⟨C,e1,e2,e3,_⟩:=hX.xk _ _ _ hx;refine xX (E:=jP Φ xv) (I.ok.hd gx.calm) hX.st.pn hg e2 e3 hX.xgx he lU oQ pins s σ H D I ⟨λi hi=>?_,k0,e1.symm,q,er.ent⟩;have:=QY.mp hm i hi;unfold GR at this;split at this
 ·rename_i n hn;rw[Qp]at this;obtain⟨m,rfl⟩:=Int.eq_ofNat_of_zero_le (Qr this.1);obtain⟨v,h1,h2⟩:=er.val i _ hn;have h3:RV Φ.K o.A H v (.int (m:Int)):=by split at h2<;>exact h2
  rw[h3.int_inv]at h1;exact⟨m,h1,by have:=Qr this.2;lia⟩
 ·cases this
end
noncomputable def w5:Expr->Bool
 |.Tuple ..=>true
 |.List ..=>true
 |_=>false
noncomputable def iS:Expr->Bool
 |.ListComp ..=>true
 |.SetComp ..=>true
 |.DictComp ..=>true
 |_=>false
noncomputable def Cq(n:Nat)(g:G)(Γ:Gm)(i:Nat)(e:Expr):Option T:=match e with
 |.Name y p=>match slot Γ y with
  |some j=>if fh Γ j then none else(cE n g Γ (.Name y p)).bind λc=>some (.asg i c)
  |none=>(cE n g Γ (.Name y p)).bind λc=>some (.asg i c)
 |e=>(cE n g Γ e).bind λc=>some (if fresh g.fr c&&lk c != 0 then .asgM i c else .asg i c)
noncomputable def Ct(n:Nat)(g:G)(Γ:Gm)(fF:Bool)(e:Expr):Option T:=match e with
 |.Name y p=>match slot Γ y with
  |some j=>if fh Γ j then(if Γ.δ==some j||Γ.κ==some j then none else some (.ret (.mvr j))) else(cE n g Γ (.Name y p)).bind λc=>if fF then none else some (.ret c)
  |none=>(cE n g Γ (.Name y p)).bind λc=>if fF then none else some (.ret c)
 |e=>(cE n g Γ e).bind λc=>if !fF||fresh g.fr c then some (.ret c) else none
mutual
noncomputable def cS:Nat->G->Gm->Bool->Bool->Stmt->Option T
 |0,_,_,_,_,_=>none
 |n+1,g,Γ,dp,fF,st=>match st with
  |.Assign tgs e _=>match tgs with
   |[.Name x _]=>(fj Γ x).bind λi=>
     if Γ.δ==some i then none
     else if fh Γ i then(if Γ.κ==some i then none else(cE n g Γ e).bind λc=>if fresh g.fr c then some (.asgM i c) else none)
     else Cq n g Γ i e
   |[.Tuple es _ _]=>if w5 e then none else(fD Γ es).bind λis=>(cE n g Γ e).bind λc=>some (.asgT is c)
   |[.Subscript (.Name x _) k _]=>(slot Γ x).bind λi=>if fh Γ i then(cE n g Γ e).bind λv'=>(cE n g Γ k).bind λk'=>if Γ.κ==some i then none else some (.rd i k' v') else none
   |_=>none
  |.Expr ex _=>match ex with
   |.Call (.Attribute (.Name x _) m ap) [a] [] cp=>(slot Γ x).bind λi=>if fh Γ i&&ap.endLine==cp.line then(cE n g Γ a).bind λa'=>
     (if m==("append":Str) then some (.app i a') else if m==("extend":Str) then some (.xtd i a') else none) else none
   |.Call (.Attribute (.Name x _) m ap) [] [] cp=>(slot Γ x).bind λi=>if fh Γ i&&ap.endLine==cp.line&&m==("clear":Str) then some (.clr i) else none
   |e=>if iS e then none else(cE n g Γ e).bind λc=>some (.FA c)
  |.Return (some e) _=>Ct n g Γ fF e
  |.Return none _=>some .retN
  |.If t a b _=>(cE n g Γ t).bind λt'=>(Bj n g Γ dp fF a).bind λa'=>(Bj n g Γ dp fF b).bind λb'=>some (.ifs t' a' b')
  |.For tg it b els _=>match els with
   |[]=>(cI n g Γ tg it).bind λfA=>(vK Γ tg).bind λyC=>(Bj n g Γ dp fF b).bind λb'=>some (.fr yC fA b')
   |_=>none
  |.Raise ra rb _=>match ra,rb with
   |some (.Call (.Name c _) [arg] [] _),none=>if sE (Γ.names.lookup c)&&cY c then(xa c (g.xs.map (·.1))).bind λk=>(mS g Γ arg).bind λvs=>some (.rs k vs) else none
   |_,_=>none
  |.Break _=>some .brk
  |.Continue _=>some .cnt
  |.Pass _=>some .pas
  |_=>none
noncomputable def Bj:Nat->G->Gm->Bool->Bool->List Stmt->Option Ts
 |0,_,_,_,_,_=>none
 |n+1,g,Γ,dp,fF,k7=>match k7 with
  |[]=>some .nil
  |st::k7=>(cS n g Γ dp fF st).bind λt=>(Bj n g Γ dp fF k7).bind λts=>some (.cons t ts)
end
section
variable{g:G}{xv:Nat->Value}{CX:jt}{k:Nat}{F:FT}{X:Cx}{Φ:Fm}{Γ:Gm}{W:Addr->Prop}
theorem kO{e:Expr}(h:iS e=false)(t:Option Expr)(l:Nat)(env:Env):swapsWith e t l env=pure false:=by cases e<;>first|rfl|(simp[iS]at h)
theorem mw{e:Expr}{t:Expr}(ht:∀x p,t≠ .Name x p)(l:Nat)(env:Env):swapsWith e (some t) l env=pure false:=by cases e<;>first|rfl|(cases t<;>first|rfl|exact absurd rfl (ht _ _))
theorem oA{n:Nat}{elt:Expr}{gens:List Comprehension}{sc:Scope}{cP:Pos}{c:C}(h:cE (n+1) g Γ (.ListComp elt gens sc cP)=some c):sc.kind= .function/\zt sc.names Γ.names (bA Γ sc).1.N Γ.N (bA Γ sc).2=true/\(bA Γ sc).1.N.Nodup/\
  ((∃tg it ifs fA yC ze e',gens=[⟨tg,it,ifs,0⟩]/\cI n g Γ tg it=some fA/\vK (bA Γ sc).1 tg=some yC/\Fw n g (bA Γ sc).1 ifs=some ze/\cE n g (bA Γ sc).1 elt=some e'/\c= .comp (bA Γ sc).2 fA yC ze e')):=by
 unfold cE at h;simp only at h;split at h
 ·rename_i hk;split at h
  ·rename_i tg it ifs;obtain⟨fA,h1,h⟩:=Qm.mp h;obtain⟨yC,h2,h⟩:=Qm.mp h;obtain⟨ze,h3,h⟩:=Qm.mp h;obtain⟨e',h4,h⟩:=Qm.mp h;split at h
   ·rename_i hb;cases h;rw[Qp]at hb;exact⟨QL hk,hb.1,Qr hb.2,⟨tg,it,ifs,fA,yC,ze,e',rfl,h1,h2,h3,h4,rfl⟩⟩
   ·cases h
  ·cases h
 ·cases h
theorem iA{n i:Nat}{x:Str}{e:Expr}{c:C}{pos' pos:Pos}(gx:GX g Γ X)(hX:HX g xv CX k F Φ X)(hs:fj Γ x=some i)(h:cE n g Γ e=some c):PS X (.Assign [.Name x pos'] e pos) (nW (bL Φ Γ F g.fr c) (d7 i)):=by
 have S:=iC (F:=F) n Γ X Φ gx hX;obtain⟨a1,a2,a3⟩:=fN hs;obtain⟨l1,l2⟩:=gx.loc x a1;have hN:X.N.Nodup:=gx.N▸gx.nd;have hi:X.N[i]?=some x:=by rw[gx.N];exact a3
 by_cases hc:iS e=true
 ·cases n with
  |zero=>simp[cE]at h
  |succ n=>
   cases e with
   |ListComp elt gens sc cP=>
    have N4:=(S.e _ _ h).1;obtain⟨hk,hb,jk,F7⟩:=oA h;cases E4:(X.env.blockKind== .function&&X.env.kindOf x==some .local&&pos'.line==(Expr.ListComp elt gens sc cP).pos.line&& !(sc.names.any λ(n,k)=>n==x&&(k== .local||k== .cell))) with
    |false=>exact qX hN hi l1 N4 (by show pure (X.env.blockKind== .function&&X.env.kindOf x==some .local&&pos'.line==(Expr.ListComp elt gens sc cP).pos.line&& !(sc.names.any λ(n,k)=>n==x&&(k== .local||k== .cell)))=_;rw[E4]) l2
    |true=>
     have hl:X.env.kindOf x=some .local:=by rw[Qp,Qp,Qp]at E4;exact QL E4.1.1.2
     have B:=vG gx hk hb;have S1:=iC (F:=F) n Γ X Φ gx hX;have J:=λC s H fp=>iC (F:=F) n (bA Γ sc).1 (f6 X sc (bA Γ sc).1.N C s H fp (Bb X sc (bA Γ sc).1.N (jP Φ xv) C s H fp)) Φ (ni gx B jk) (wX hX)
     obtain⟨tg,it,ifs,fA,yC,ze,e',rfl,h1,h2,h3,h4,rfl⟩:=F7
     ·refine bH (px (xb:=Bb X sc (bA Γ sc).1.N (jP Φ xv)) (body:=λacc env=>j4 elt acc env) (i:=i) gx.calm hN hi hl B (tY hX.st hX.xgx) (S1.i _ _ _ h1).1 (λqF acc env=>pL ..) (λC s H fp=>Ec (ni gx B jk) h2) (λC s H fp=>(J C s H fp).ts _ _ h3) (λC s H fp D=>tu ((J C s H fp).e _ _ h4).1) (qx (S1.i _ _ _ h1).2 _) ?_) λD σ H q=>ye hX.K B jk h2 q
      show pure (X.env.blockKind== .function&&X.env.kindOf x==some .local&&pos'.line==(Expr.ListComp elt [⟨tg,it,ifs,0⟩] sc cP).pos.line&& !(sc.names.any λ(n,k)=>n==x&&(k== .local||k== .cell)))=_;rw[E4]
   |SetComp=>simp[cE]at h
   |DictComp=>simp[cE]at h
   |_=>simp[iS]at hc
 ·exact qX hN hi l1 (S.e _ _ h).1 (kO (by simpa using hc) _ _ _) l2
structure JC(g:G)(F:FT)(n:Nat)(Γ:Gm)(X:Cx)(Φ:Fm)(W:Addr->Prop)(dp fF:Bool):Prop where
 s:∀st t,cS n g Γ dp fF st=some t->PS X st (i8 Φ Γ F W fF t)
 ss:∀k7 ts,Bj n g Γ dp fF k7=some ts->oj X k7 (jr Φ Γ F W fF ts)
theorem kS{x:Str}{i:Nat}{p:Pos}(gx:GX g Γ X)(h:slot Γ x=some i):PE X (.Name x p) (jq i):=by obtain⟨v1,v2,v3⟩:=jK h;obtain⟨n1,n2,n3⟩:=bF v2;exact qS (by rw[gx.N];exact v3) (gx.vis x v1) n1 n2
theorem Ce{n i:Nat}{x:Str}{e:Expr}{t:T}{pos' pos:Pos}{fF:Bool}(gx:GX g Γ X)(hX:HX g xv CX k F Φ X)(hs:fj Γ x=some i)(hp:plainS Γ i=true)(h:Cq n g Γ i e=some t):PS X (.Assign [.Name x pos'] e pos) (i8 Φ Γ F W fF t):=by
 have D0:∀{e:Expr}{t:T},((cE n g Γ e).bind λc=>some (T.asg i c))=some t->PS X (.Assign [.Name x pos'] e pos) (i8 Φ Γ F W fF t):=λ {e t} h=>by obtain⟨c,h1,h⟩:=Qm.mp h;cases h;exact B0 hp (iA gx hX hs h1)
 unfold Cq at h;split at h
 ·rename_i y p;split at h
  ·rename_i j hj;split at h
   ·cases h
   ·exact D0 h
  ·exact D0 h
 ·obtain⟨c,h1,h⟩:=Qm.mp h;cases h;split
  ·rename_i hf;rw[Qp]at hf;exact Ex hp hf.1 (iA gx hX hs h1)
  ·exact B0 hp (iA gx hX hs h1)
theorem D1{n:Nat}{e:Expr}{t:T}{pos:Pos}{fF:Bool}(gx:GX g Γ X)(hX:HX g xv CX k F Φ X)(h:Ct n g Γ fF e=some t):PS X (.Return (some e) pos) (i8 Φ Γ F W fF t):=by
 have S:=iC (F:=F) n Γ X Φ gx hX;have plain:∀{e:Expr}{t:T},((cE n g Γ e).bind λc=>if fF then none else some (T.ret c))=some t->PS X (.Return (some e) pos) (i8 Φ Γ F W fF t):=λ {e t} h=>by
  obtain⟨c,h1,h⟩:=Qm.mp h;split at h
  ·cases h
  ·rename_i hf;cases h;exact B1 (λz=>absurd z hf) (kE (S.e _ _ h1).1)
 unfold Ct at h;split at h
 ·rename_i y p;split at h
  ·rename_i j hj;split at h
   ·rename_i hm;split at h
    ·cases h
    ·rename_i hk;cases h;exact EA hm (λz=>hk (by simp[z])) (kE (kS gx hj))
   ·exact plain h
  ·exact plain h
 ·obtain⟨c,h1,h⟩:=Qm.mp h;split at h
  ·rename_i hf;cases h;refine B1 (λz=>?_) (kE (S.e _ _ h1).1);rw[z]at hf;simpa using hf
  ·cases h
theorem pE{dp fF:Bool}(n:Nat):∀(Γ:Gm)(X:Cx)(Φ:Fm),GX g Γ X->HX g xv CX k F Φ X->(dp=false->Φ.d0=none)->PassesOwn (model X.prog X.w) X.A X.env X.xe->JC g F n Γ X Φ W dp fF:=by
 induction n with
 |zero=>intro Γ X Φ gx hX hd ho;exact⟨λst t h=>by simp[cS]at h,λst t h=>by simp[Bj]at h⟩
 |succ n ih=>
  intro Γ X Φ gx hX hd ho;have I:=ih Γ X Φ gx hX hd ho;have S:=iC (F:=F) n Γ X Φ gx hX;have hK:=hX.K;refine⟨λst t h=>?_,λk7 ts h=>?_⟩
  ·unfold cS at h;split at h
   ·split at h
    ·rename_i e pos x xp;obtain⟨i,hs,h⟩:=Qm.mp h;split at h
     ·cases h
     ·rename_i hδ;have hδ':Γ.δ≠some i:=λz=>hδ (by rw[z];exact SB _)
      split at h
      ·rename_i hm;split at h
       ·cases h
       obtain⟨c,h1,h⟩:=Qm.mp h;split at h
       ·rename_i hf;cases h;exact Ew hm hδ' hf (iA gx hX hs h1)
       ·cases h
      ·rename_i hm;refine Ce gx hX hs ?_ h;unfold plainS;rw[Qp];exact⟨by simpa using hm,by simpa using hδ'⟩
    ·rename_i e pos tg0 es kk tp;split at h
     ·cases h
     ·rename_i hdisp;obtain⟨is,h1,h⟩:=Qm.mp h;obtain⟨c,h2,h⟩:=Qm.mp h;cases h;have Jb:vK Γ (.Tuple es kk tp)=some (.tp is):=by rw[vK,h1];rfl
      refine Ey hK (λi hi=>(iG Jb i hi).1) (xV (S.e _ _ h2).1 (Hw gx h1) (show swapsWithSole [Expr.Tuple es kk tp] e pos.line X.env=pure false from mw (e:=e) (t:=Expr.Tuple es kk tp) (λx p z=>by cases z) pos.line X.env) ?_);cases e<;>first|rfl|(simp[w5]at hdisp)
    ·rename_i v pos tg0 x xp kx sp;obtain⟨i,hs,h⟩:=Qm.mp h;split at h
     ·rename_i hm;obtain⟨v',h1,h⟩:=Qm.mp h;obtain⟨k',h2,h⟩:=Qm.mp h;have Ou:=(S.e _ _ h2).2.2;split at h
      ·cases h
      ·cases h;refine EC hm (xV (S.e _ _ h1).1 (DP (kS gx hs) (S.e _ _ h2).1 set_list (by intro _;cases kx<;>first|rfl|(simp[oP]at Ou))) (show swapsWithSole [Expr.Subscript (Expr.Name x xp) kx sp] v pos.line X.env=pure false from mw (e:=v) (t:=Expr.Subscript (Expr.Name x xp) kx sp) (λx p z=>by cases z) pos.line X.env) ?_);cases v<;>rfl
     ·cases h
    ·cases h
   ·split at h
    ·rename_i pos x xp m ap a cp;obtain⟨i,hs,h⟩:=Qm.mp h;split at h
     ·rename_i hm;rw[Qp]at hm;obtain⟨a',h1,h9⟩:=Qm.mp h;clear h;have lU:=bP (S.e _ _ h1).2.2 [] X.env;split at h9
      ·rename_i hma;have em:=QL hma;subst em;cases h9;exact Ib hm.1 (jI (BM PySem.F.plainAttrs_list PySem.F.slot_list_append PySem.F.type_list_append l8 (kS gx hs) (bR (S.e _ _ h1).1 dR lU) rfl (by rw[lU];rfl) hm.2 lU rfl))
      split at h9
      ·rename_i hma;have em:=QL hma;subst em;cases h9;exact Ik hm.1 (jI (BM PySem.F.plainAttrs_list PySem.F.slot_list_extend PySem.F.type_list_extend Mx.Ak (kS gx hs) (bR (S.e _ _ h1).1 dR lU) rfl (by rw[lU];rfl) hm.2 lU rfl))
      ·cases h9
     ·cases h
    ·rename_i pos x xp m ap cp;obtain⟨i,hs,h9⟩:=Qm.mp h;clear h;split at h9
     ·rename_i hm;rw[Qp,Qp]at hm;have em:=QL hm.2;subst em;cases h9;exact Ie hm.1.1 (jI (DL PySem.F.plainAttrs_list PySem.F.slot_list_clear PySem.F.type_list_clear xn (kS gx hs) rfl hm.1.2))
     ·cases h9
    ·split at h
     ·cases h
     ·rename_i hc;obtain⟨c,h1,h⟩:=Qm.mp h;cases h;exact Ih (jI (S.e _ _ h1).1 (kO (by simpa using hc) _ _ _))
   ·exact D1 gx hX h
   ·cases h;exact EB AD
   ·obtain⟨t',h1,h⟩:=Qm.mp h;obtain⟨a',h2,h⟩:=Qm.mp h;obtain⟨b',h3,h⟩:=Qm.mp h;cases h;exact Ij (He (S.e _ _ h1).2.1 (I.ss _ _ h2) (I.ss _ _ h3))
   ·split at h
    ·obtain⟨fA,h1,h⟩:=Qm.mp h;obtain⟨yC,h2,h⟩:=Qm.mp h;obtain⟨b',h3,h⟩:=Qm.mp h;cases h;exact Ii hK (λi hi=>(iG h2 i hi).1) (DU ho gx.calm (S.i _ _ _ h1).1 (Ec gx h2) (I.ss _ _ h3) (qx (S.i _ _ _ h1).2 _))
    ·cases h
   ·split at h
    ·split at h
     ·rename_i hg;rw[Qp]at hg;obtain⟨k0,h1,h⟩:=Qm.mp h;obtain⟨vs,h2,h⟩:=Qm.mp h;cases h;obtain⟨ts,h3⟩:=EG h1;obtain⟨n1,n2,n3⟩:=bF hg.2;exact Mi hX gx h3 (gx.gl _ hg.1) n1 (Hd gx h2) (Aj h2 _)
     ·cases h
    ·cases h
   ·cases h;exact Ic xW
   ·cases h;exact Ig pv
   ·cases h;exact Ez AC
   ·cases h
  ·unfold Bj at h;split at h
   ·cases h;exact yQ
   ·obtain⟨t,h1,h⟩:=Qm.mp h;obtain⟨ze,h2,h⟩:=Qm.mp h;cases h;exact Bc (I.s _ _ h1) (I.ss _ _ h2)
end
inductive HV where
 |b (x:Bool)|l (xs:List Bool)
noncomputable def HV.En:HV->Option Bool
 |.b x=>some x
 |.l _=>none
noncomputable def HV.GK:HV->Option (List Bool)
 |.l x=>some x
 |.b _=>none
mutual
noncomputable def hE:Nat->G->Gm->Nat->List (Str×Bool)->Option (Nat×HV)->Expr->Option HV
 |0,_,_,_,_,_,_=>none
 |n+1,g,Γ,i,ts,vb,e=>match e with
  |.Call fe as ks _=>match fe,as,ks with
   |.Name f _,[.Name x _,.Name t _],[]=>if f==("isinstance":Str)&&sE (Γ.names.lookup f)&&g.bls.contains f&&slot Γ x==some i&&sE (Γ.names.lookup t)&&cY t then(ts.lookup t).map .b else none
   |_,_,_=>none
  |.Name x _=>vb.bind λv=>if slot Γ x==some v.1 then some v.2 else none
  |.Constant c _ _=>match c with
   |.bool b=>some (.b b)
   |_=>none
  |.List es _=>if es.length<=1000 then(FR n g Γ i ts vb es).map .l else none
  |.BinOp a o b _=>match o with
   |.Add=>((hE n g Γ i ts vb a).bind HV.GK).bind λx=>((hE n g Γ i ts vb b).bind HV.GK).bind λy=>if x.length+y.length<=1000 then some (.l (x++y)) else none
   |_=>none
  |.Compare a os bs _=>match os,bs with
   |[.Eq],[b]=>((hE n g Γ i ts vb a).bind HV.GK).bind λx=>((hE n g Γ i ts vb b).bind HV.GK).bind λy=>match c7 .Eq (.lst (x.map Dt.bl)) (.lst (y.map Dt.bl)) with
    |.ok z=>some (.b z)
    |_=>none
   |_,_=>none
  |.UnaryOp o a _=>match o with
   |.Not=>((hE n g Γ i ts vb a).bind HV.En).bind λb=>some (.b !b)
   |_=>none
  |.BoolOp o es p=>match es with
   |[a]=>hE n g Γ i ts vb a
   |a::b::es=>((hE n g Γ i ts vb a).bind HV.En).bind λx=>((hE n g Γ i ts vb (.BoolOp o (b::es) p)).bind HV.En).bind λy=>some (.b (match o with|.And=>x&&y|.Or=>x||y))
   |[]=>none
  |_=>none
noncomputable def FR:Nat->G->Gm->Nat->List (Str×Bool)->Option (Nat×HV)->List Expr->Option (List Bool)
 |0,_,_,_,_,_,_=>none
 |n+1,g,Γ,i,ts,vb,es=>match es with
  |[]=>some []
  |e::es=>if oP e then((hE n g Γ i ts vb e).bind HV.En).bind λx=>(FR n g Γ i ts vb es).map (x:: ·) else none
end
noncomputable def hS(n:Nat)(g:G)(Γ:Gm)(i:Nat)(ts:List (Str×Bool)):List Stmt->Option Bool
 |[.Return (some e) _]=>(hE n g Γ i ts none e).bind HV.En
 |[.Assign [.Name x _] e _,.Return (some r) _]=>if Γ.names.lookup x==some .local&& !iS e then(fj Γ x).bind λj=>if j==i then none else(hE n g Γ i ts none e).bind λb=>(hE n g Γ i ts (some (j,b)) r).bind HV.En else none
 |_=>none
noncomputable def zy(n:Nat)(g:G)(Γ:Gm)(dp fF:Bool):Stmt->Option T
 |.Try body [.ExceptHandler (some (.Name t _)) (some e) (b0::iF) _] [] [] _=>
  if Γ.names.lookup e==some .local&&sE (Γ.names.lookup t)&&cY t&& !(t==("ValueError":Str))&&g.xs.any (λx=>x.2.lookup t==some true) then(fj Γ e).bind λi=>(Bj n g Γ dp fF body).bind λb=>
   some (.tr b (g.xs.map λx=>if x.2.lookup t==some true then hS n g Γ i x.2 (b0::iF) else none))
  else none
 |_=>none
noncomputable def Cr(n:Nat)(g:G)(Γ:Gm)(dp fF:Bool):List Stmt->Option Ts
 |[]=>some .nil
 |st::k7=>((zy n g Γ dp fF st).or (cS n g Γ dp fF st)).bind λt=>(Cr n g Γ dp fF k7).bind λts=>some (.cons t ts)
section
variable{g:G}{xv:Nat->Value}{CX:jt}{k:Nat}{F:FT}{X:Cx}{Φ:Fm}{Γ:Gm}{W:Addr->Prop}
theorem zv:bootBuiltins "ValueError"=some (.type "ValueError"):=by decide +kernel
noncomputable def hV(H:Hp)(v:V):HV->Prop
 |.b x=>v= .bl x
 |.l xs=>∃p,v= .ref p/\H p=some (.lst (xs.map V.bl))
theorem hV.same{H H':Hp}{v:V}{x:HV}(h:hV H v x)(s:bu H H'):hV H' v x:=by
 cases x with
 |b x=>exact h
 |l xs=>obtain⟨p,e,h⟩:=h;exact⟨p,e,s _ _ h⟩
noncomputable def hG(i:Nat)(a:Addr)(vb:Option (Nat×HV))(σ:L2.St)(H:Hp):Prop:=σ[i]?=some (some (.ref a))/\∀j x,vb=some (j,x)->∃v,σ[j]?=some (some v)/\hV H v x
theorem hG.same{i:Nat}{a:Addr}{vb:Option (Nat×HV)}{σ:L2.St}{H H':Hp}(h:hG i a vb σ H)(s:bu H H'):hG i a vb σ H':=⟨h.1,λj x e=>by
 obtain⟨v,h1,h2⟩:=h.2 j x e;exact⟨v,h1,h2.same s⟩⟩
noncomputable def tH(i:Nat)(a:Addr)(vb:Option (Nat×HV))(x:HV):TE:=λσ H Q=>hG i a vb σ H/\∀v H',bu H H'->hV H' v x->Q v H'
theorem eX{o:Option HV}{x:Bool}(h:o.bind HV.En=some x):o=some (.b x):=by
 cases o with
 |none=>cases h
 |some v=>
  cases v with
  |b y=>cases h;rfl
  |l y=>cases h
theorem nC{o:Option HV}{x:List Bool}(h:o.bind HV.GK=some x):o=some (.l x):=by
 cases o with
 |none=>cases h
 |some v=>
  cases v with
  |b y=>cases h
  |l y=>cases h;rfl
theorem qZ{K:Frag}{A:Addr->Prop}{H:Hp}:∀xs:List Bool,ak K A H (xs.map V.bl) (xs.map Dt.bl)
 |[]=>ak.nil
 |_::xs=>ak.cons RV.kh (qZ xs)
theorem HW(n:Nat)(h:n<=1000):n<=sizeLine:=by have:=SQ;lia
mutual
theorem oM{C a:Addr}{o:Obj}{i:Nat}{ts:List (Str×Bool)}(gx:GX g Γ X)(xr:mE X C a o)(xk:EL X.K X.mg C ts):∀(n:Nat)(vb:Option (Nat×HV))(e:Expr)(b:HV),hE n g Γ i ts vb e=some b->PE (X.hand a o) e (tH i a vb b)
 |0,vb,e,b,h=>by simp[hE]at h
 |n+1,vb,e,b,h=>by
  have ih:=oM (i:=i) gx xr xk n vb;have var:∀{x:Str}{j:Nat}{p:Pos},slot Γ x=some j->PE (X.hand a o) (.Name x p) (jq j):=λ {x j p} hs=>by obtain⟨v1,v2,v3⟩:=jK hs;obtain⟨n1,n2,n3⟩:=bF v2;exact qS (X:=X.hand a o) (by rw[gx.N];exact v3) (gx.vis x v1) n1 n2
  unfold hE at h;split at h
  ·split at h
   ·split at h
    ·rename_i hc;simp only[Qp]at hc;obtain⟨⟨⟨⟨⟨h1,h2⟩,h3⟩,h4⟩,h5⟩,h6⟩:=hc;have e1:=QL h1;subst e1;obtain⟨n1,n2,n3⟩:=bF h6;obtain⟨z,hz,rfl⟩:=QD.mp h;obtain⟨c,hc,k1,_⟩:=xk.2.2 _ _ hz;rcases hc with ⟨m1,D,rfl⟩|⟨m1,rfl,rfl⟩
     ·intro pins s σ H Q I q;exact xH xr xk.1 xk.2.1 (gx.gl _ h2) (gx.bl _ (gk h3)) (var (QL h4)) (tx (X:=X.hand a o) (v:=.ref D) (gx.gl _ h5) m1 rfl n1) (λu r=>r) k1 pins s σ H Q I ⟨q.1.1,q.2 _ _ (bu.refl _) rfl⟩
     ·intro pins s σ H Q I q;exact xH xr xk.1 xk.2.1 (gx.gl _ h2) (gx.bl _ (gk h3)) (var (QL h4)) (tv (X:=X.hand a o) (v:=.ty "ValueError") (gx.gl _ h5) m1 zv rfl (by decide) n1) (λu r=>r) k1 pins s σ H Q I ⟨q.1.1,q.2 _ _ (bu.refl _) rfl⟩
    ·cases h
   ·cases h
  ·obtain⟨v,h1,h⟩:=Qm.mp h;split at h
   ·rename_i hs;cases h;intro pins s σ H Q I q;obtain⟨u,k1,k2⟩:=q.1.2 v.1 v.2 h1;exact var (QL hs) pins s σ H Q I ⟨_,k1,q.2 _ _ (bu.refl _) k2⟩
   ·cases h
  ·split at h
   ·cases h;intro pins s σ H Q I q;exact BL pins s σ H Q I (q.2 _ _ (bu.refl _) rfl)
   ·cases h
  ·split at h
   ·rename_i es _ hl;obtain⟨xs,h1,rfl⟩:=QD.mp h;have he:=wF (i:=i) gx xr xk n vb es xs h1;intro pins s σ H Q I q;refine xI he.1 pins s σ H Q I ⟨q.1,λvs H' sm ev=>⟨?_,λp hp=>?_⟩⟩
    ·rw[ev,Qx,he.2];exact HW _ hl
    ·exact q.2 _ _ (sm.trans (Mx.bE hp _)) ⟨p,rfl,by rw[ax,ev]⟩
   ·cases h
  ·split at h
   ·obtain⟨x,h1,h⟩:=Qm.mp h;obtain⟨y,h2,h⟩:=Qm.mp h;split at h
    ·rename_i hl;cases h;intro pins s σ H Q I q;refine BN eP (ih _ _ (nC h1)) (ih _ _ (nC h2)) pins s σ H Q I ⟨q.1,λv H1 s1⟨p,e1,k1⟩=>⟨q.1.same s1,λv2 H2 s2⟨p2,e2,k2⟩=>?_⟩⟩;refine⟨p,p2,_,_,e1,e2,s2 _ _ k1,k2,by rw[Qx,Qx];exact HW _ hl,λr hr=>?_⟩;exact q.2 _ _ ((s1.trans s2).trans (Mx.bE hr _)) ⟨r,rfl,by rw[ax,Q7]⟩
    ·cases h
   ·cases h
  ·split at h
   ·obtain⟨x,h1,h⟩:=Qm.mp h;obtain⟨y,h2,h⟩:=Qm.mp h;split at h
    ·rename_i z hz;cases h;intro pins s σ H Q I q;refine tw (qQ .Eq (show (X.hand a o).A.units+150<cLine from gx.un)) (ih _ _ (nC h1)) (ih _ _ (nC h2)) (xq _ (by decide) (by decide)) pins s σ H Q I ⟨q.1,λv H1 s1⟨p,e1,k1⟩=>⟨q.1.same s1,λv2 H2 s2⟨p2,e2,k2⟩=>?_⟩⟩;subst e1 e2;exact⟨_,_,z,RV.dD (s2 _ _ k1) (λz=>z) (qZ x),RV.dD k2 (λz=>z) (qZ y),hz,q.2 _ _ (s1.trans s2) rfl⟩
    ·cases h
   ·cases h
  ·split at h
   ·obtain⟨x,h1,h⟩:=Qm.mp h;cases h;intro pins s σ H Q I q;exact xJ (ih _ _ (eX h1)) pins s σ H Q I ⟨q.1,λv H' sm hv=>⟨_,hv,q.2 _ _ sm rfl⟩⟩
   ·cases h
  ·split at h
   ·intro pins s σ H Q I q;exact xK (ih _ _ h) pins s σ H Q I q
   ·rename_i op p es0 a1 b1 es;obtain⟨x,h1,h⟩:=Qm.mp h;obtain⟨y,h2,h⟩:=Qm.mp h;cases h;have g2:=ih _ _ (eX h2);intro pins s σ H Q I q;cases op with
    |And=>
     refine xF (ih _ _ (eX h1)) g2 pins s σ H Q I ⟨q.1,λv H' sm hv=>⟨_,hv,?_⟩⟩;cases x with
     |true=>exact⟨q.1.same sm,λv2 H2 s2 h2=>q.2 _ _ (sm.trans s2) h2⟩
     |false=>exact q.2 _ _ sm rfl
    |Or=>
     refine BO (ih _ _ (eX h1)) g2 pins s σ H Q I ⟨q.1,λv H' sm hv=>⟨_,hv,?_⟩⟩;cases x with
     |true=>exact q.2 _ _ sm rfl
     |false=>exact⟨q.1.same sm,λv2 H2 s2 h2=>q.2 _ _ (sm.trans s2) h2⟩
   ·cases h
  ·cases h
theorem wF{C a:Addr}{o:Obj}{i:Nat}{ts:List (Str×Bool)}(gx:GX g Γ X)(xr:mE X C a o)(xk:EL X.K X.mg C ts):∀(n:Nat)(vb:Option (Nat×HV))(es:List Expr)(xs:List Bool),FR n g Γ i ts vb es=some xs->PA (X.hand a o) es (λσ H Q=>hG i a vb σ H/\∀vs H',bu H H'->vs=xs.map V.bl->Q vs H')/\xs.length=es.length
 |0,vb,es,xs,h=>by simp[FR]at h
 |n+1,vb,es,xs,h=>by
  unfold FR at h;split at h
  ·cases h;exact⟨λpos pins s σ H Q I q=>dR pos pins s σ H Q I (q.2 _ _ (bu.refl _) rfl),rfl⟩
  ·rename_i e es;split at h
   ·rename_i hd;obtain⟨x,h1,h⟩:=Qm.mp h;obtain⟨ys,h2,rfl⟩:=QD.mp h;obtain⟨k1,k2⟩:=wF (i:=i) gx xr xk n vb es ys h2;refine⟨λpos pins s σ H Q I q=>bR (oM gx xr xk n vb e _ (eX h1)) k1 (bP hd _ _) pos pins s σ H Q I ⟨q.1,λv H1 s1 hv=>⟨q.1.same s1,λvs H2 s2 ev=>q.2 _ _ (s1.trans s2) (by rw[ev,show v= .bl x from hv];rfl)⟩⟩,by rw[QG,QG,k2]⟩
   ·cases h
end
theorem FU{C a:Addr}{o:Obj}{i n:Nat}{ts:List (Str×Bool)}{k7:List Stmt}{b:Bool}(gx:GX g Γ X)(xr:mE X C a o)(xk:EL X.K X.mg C ts)(h:hS n g Γ i ts k7=some b):
  oj (X.hand a o) k7 (λD σ H=>σ[i]?=some (some (.ref a))/\σ.length=X.N.length/\∀H',bu H H'->D.rt (.bl b) H'):=by
 unfold hS at h;split at h
 ·intro pins s σ H D I q;exact tI (kE (oM gx xr xk n none _ _ (eX h))) pins s σ H D I ⟨⟨q.1,λj b z=>by cases z⟩,λv H' sm hv=>by rw[show v= .bl b from hv];exact q.2.2 _ sm⟩
 ·split at h
  ·rename_i x xp e ap r rp hx;rw[Qp]at hx;obtain⟨j,h1,h⟩:=Qm.mp h;split at h
   ·cases h
   ·rename_i hj;obtain⟨v,h2,h3⟩:=Qm.mp h;obtain⟨a1,a2,a3⟩:=fN h1;obtain⟨l1,l2⟩:=gx.loc x a1;have Os:j≠i:=λz=>hj (by rw[z];exact SB _)
    have hN:(X.hand a o).N[j]?=some x:=by show X.N[j]?=_;rw[gx.N];exact a3
    have N1:(X.hand a o).N.Nodup:=by show X.N.Nodup;rw[gx.N];exact gx.nd
    intro pins s σ H D I q;refine pA (qX (X:=X.hand a o) N1 hN l1 (oM gx xr xk n none _ v h2) (kO (by simpa using hx.2) _ _ _) l2) (tI (kE (oM gx xr xk n (some (j,v)) _ _ (eX h3)))) pins s σ H D I ⟨⟨q.1,λj b z=>by cases z⟩,λu H1 s1 hu=>⟨⟨?_,λj' b' z=>?_⟩,λw H2 s2 hw=>by rw[show w= .bl b from hw];exact q.2.2 _ (s1.trans s2)⟩⟩
    ·rw[QF Os];exact q.1
    ·cases z;have:j<σ.length:=by rw[q.2.1];exact(Qs.mp hN).1
     exact⟨u,by simp[this],hu⟩
  ·cases h
 ·cases h
theorem GX.cQ{Γ:Gm}{X:Cx}{E:Value->Shared->Prop}(gx:GX g Γ X):GX g Γ (X.cQ E):=⟨gx.N,gx.nd,gx.vis,gx.loc,gx.gl,gx.fre,gx.calm,gx.un,gx.con,gx.bl⟩
theorem eZ{X:Cx}{E:Value->Shared->Prop}{E':XK}{e:Value}{s':Shared}(h:iK (X.cQ E) E' e s'):iK X E' e s':=by obtain⟨σ,H',a,cls,e1,I,f,q⟩:=h;exact⟨σ,H',a,cls,e1,I.dW,f,q⟩
theorem pU{X:Cx}{E:Value->Shared->Prop}{E':XK}{e:Value}{s':Shared}(h:iK X E' e s'):iK (X.cQ E) E' e s':=by obtain⟨σ,H',a,cls,e1,I,f,q⟩:=h;exact⟨σ,H',a,cls,e1,I.cQ E,f,q⟩
theorem Mj{dp fF:Bool}{n:Nat}{st:Stmt}{t:T}(IR:X.env.scope.names=Γ.names)(gx:GX g Γ X)(hX:HX g xv CX k F Φ X)(hd:dp=false->Φ.d0=none)(h:zy n g Γ dp fF st=some t):IA X st (i8 Φ Γ F W fF t):=by
 unfold zy at h;split at h
 ·rename_i body t tp e b0 iF hp pos;split at h
  ·rename_i hc;simp only[Qp]at hc;obtain⟨⟨⟨⟨c1,c2⟩,c3⟩,c4⟩,c5⟩:=hc;obtain⟨i,h1,h⟩:=Qm.mp h;obtain⟨b,h2,h⟩:=Qm.mp h;cases h;obtain⟨a1,a2,a3⟩:=fN h1;obtain⟨l1,l2⟩:=gx.loc e a1;obtain⟨n1,n2,n3⟩:=bF c3;intro s σ H D I q;obtain⟨o,ρ,S,oi,er,q⟩:=q;unfold ex at q;obtain⟨hS,q⟩:=aJ q;have N7:S=none:=by simpa using hS
   have vh:∀z,Φ.d0≠some z:=λz hz=>by obtain⟨ns,e1,_⟩:=er.drw z (oi.d z hz);rw[N7]at e1;cases e1
   generalize htbl:(g.xs.map λx=>if x.2.lookup t==some true then Rx.hS n g Γ i x.2 (b0::iF) else none)=vm at q
   let Φ':Fm:=⟨Φ.K,Φ.H0,Φ.d0,λkk=>∃v,vm[kk]?=some (some v)/\∀H',aX (λb=>Φ.d0=some b) Φ.H0 H'->D.rt (.bl v) H',Φ.P,Φ.w⟩
   have X1:HX g xv CX k F Φ' (X.cQ (iK X (jP Φ' xv))):=⟨hX.K,hX.P,hX.w,hX.fx,hX.room,hX.cx,⟨hX.st.pn,hX.st.st⟩,λe s' z=>eZ z,hX.xk⟩;have own:PassesOwn (model X.prog X.w) X.A X.env (iK X (jP Φ' xv)):=tZ (X:=X.cQ (iK X (jP Φ' xv))) (E:=jP Φ' xv) ⟨hX.st.pn,hX.st.st⟩ (λe s' z=>eZ z) λe s' z=>pU z
   have B:=(pE (dp:=dp) (fF:=fF) (W:=W) n Γ _ Φ' gx.cQ X1 hd own).ss _ _ h2;have nr:t≠"ValueError":=km (by simpa using c4);obtain⟨y,O7,Da⟩:=QZ.mp c5;obtain⟨ky,Oy⟩:=R0.mp O7;obtain⟨Cy,_,_,yk⟩:=hX.xk ky y.1 y.2 Oy;obtain⟨c,hc,_⟩:=yk.2.2 t true (QL Da);have vg:X.mg t=some c:=hc.elim (λz=>z.1) λz=>absurd z.2.1 nr
   have hle:X.env.scope.names.lookup e=some .local:=by rw[IR];exact QL c1
   refine A5 (X:=X) (E:=jP Φ' xv) (c:=c) (tp:=tp) (hpos:=hp) (pos:=pos) hX.st (λz=>I.ok.hd z) (gx.gl _ c2) vg n1 (gx.N▸gx.nd) (by rw[gx.N];exact a3) hle B (λcls H' z=>?_) I ⟨o,ρ,S,⟨oi.w,oi.d⟩,er.re rfl,?_⟩
   ·obtain⟨kk,rfl,⟨v,hv,OO⟩,CT⟩:=z;rw[<-htbl,QH]at hv;obtain⟨⟨x,ts⟩,hx,hv⟩:=QD.mp hv;split at hv
    ·rename_i hl;obtain⟨C,e1,e2,xk⟩:=hX.xk kk x ts hx;obtain⟨c',lh,_,kx⟩:=xk.2.2 t true (QL hl);have:c'=c:=by
      have h9:X.mg t=some c':=lh.elim (λz=>z.1) λz=>absurd z.2.1 nr
      rw[vg]at h9;exact(So h9).symm
     subst this;exact⟨C,e1,kx rfl,λa o xr=>⟨_,FU gx xr xk hv,λσ s1 s2=>⟨s1,s2,λH2 sm=>OO H2 (CT.trans (aX.of_same sm))⟩⟩⟩
    ·cases hv
   ·cases he:aF F b ρ S with
    |ok p=>
     rw[he]at q;have q:cG Φ Γ W fF o H D p:=q;show cG Φ' Γ W fF o H D p;unfold cG at q ⊢;cases f9:p.1 with
     |next=>rw[f9]at q;intro σ' H' so;exact q σ' H' ⟨so.ex.imp λo' z=>⟨⟨z.1.w,z.1.d⟩,ER.re (Φ:=Φ') (Φ':=Φ) rfl z.2.1,z.2.2⟩,so.ext,so.al⟩
     |brk=>rw[f9]at q;intro σ' H' so;exact q σ' H' ⟨so.ex.imp λo' z=>⟨⟨z.1.w,z.1.d⟩,ER.re (Φ:=Φ') (Φ':=Φ) rfl z.2.1,z.2.2⟩,so.ext,so.al⟩
     |cnt=>rw[f9]at q;intro σ' H' so;exact q σ' H' ⟨so.ex.imp λo' z=>⟨⟨z.1.w,z.1.d⟩,ER.re (Φ:=Φ') (Φ':=Φ) rfl z.2.1,z.2.2⟩,so.ext,so.al⟩
     |ret d=>rw[f9]at q;intro v H' ro;exact q v H' ⟨ro.val,ro.ent,ro.drw,ro.eD⟩
    |ex kk=>
     rw[he]at q;simp only at q;split at q
     ·rename_i v hv;exact⟨v,hv,λH' CT=>q _ _ ⟨RV.kh,CT,λa ha=>absurd ha (vh a),λ_ ds z=>by cases z⟩⟩
     ·exact q.elim
    |bad=>rw[he]at q;exact q.elim
  ·cases h
 ·cases h
theorem yP{st:Stmt}{k7:List Stmt}{t:T}{ts:Ts}{fF:Bool}(h1:IA X st (i8 Φ Γ F W fF t))(h2:mB X k7 (jr Φ Γ F W fF ts)):mB X (st::k7) (jr Φ Γ F W fF (.cons t ts)):=λs σ H D I q=>uT h1 h2 s σ H D I (by
 obtain⟨o,ρ,S,oi,er,q⟩:=q;unfold aF at q;rw[ae]at q;refine⟨o,ρ,S,oi,er,ah q λp _ q=>?_⟩;unfold cG;cases hp:p.1 with
 |next=>rw[hp]at q;intro σ1 H1 so;obtain⟨⟨o1,Lj,aE,Kd⟩,e1,a1⟩:=so;exact⟨o1,p.2.1,p.2.2,Lj,aE,ah q λp2 _ q=>cG.go e1 Kd a1 (λ_ _ z=>z) (λ_ _ z=>z) (λ_ _ z=>z) (λ_ _ z=>z) q⟩
 |brk=>rw[hp]at q;unfold mR cG at q;exact q
 |cnt=>rw[hp]at q;unfold mR cG at q;exact q
 |ret d=>rw[hp]at q;unfold mR cG at q;exact q)
theorem vC{dp fF:Bool}{n:Nat}(IR:X.env.scope.names=Γ.names)(gx:GX g Γ X)(hX:HX g xv CX k F Φ X)(hd:dp=false->Φ.d0=none)(own:PassesOwn (model X.prog X.w) X.A X.env X.xe):∀{k7:List Stmt}{ts:Ts},Cr n g Γ dp fF k7=some ts->mB X k7 (jr Φ Γ F W fF ts)
 |[],ts,h=>by cases h;exact AE yQ
 |st::k7,ts,h=>by
  obtain⟨t,h1,h⟩:=Qm.mp h;obtain⟨ze,h2,h⟩:=Qm.mp h;cases h;refine yP ?_ (vC IR gx hX hd own h2);cases ht:zy n g Γ dp fF st with
  |none=>rw[ht]at h1;exact DT ((pE (dp:=dp) (fF:=fF) (W:=W) n Γ X Φ gx hX hd own).s _ _ h1)
  |some t'=>rw[ht]at h1;cases h1;exact Mj IR gx hX hd ht
theorem pz{X:Cx}{E:Value->Shared->Prop}{st:List Stmt}{t:TS}(h:mB (X.cQ E) st t)(hx:∀e s',E e s'->X.xe e s'):mB X st t:=λs σ H D I hw=>
 SY (h s σ H D (I.cQ _) hw) (λ_ _ q=>q.dW) λe s' z=>hx e s' z
end
section
variable{P:Program}{w:World}{K:Frag}{mg:Str->Option Value}{base:Heap}{g:G}{xv:Nat->Value}{F:FT}{k:Nat}
structure MG(g:G)(mg:Str->Option Value):Prop where
 con:∀x d,g.cons.lookup x=some d->∃u,og d=true/\mg x=some u/\RelV (p6 d) u
 bl:∀x∈g.bls,mg x=none
noncomputable def XG(g:G)(K:Frag)(mg:Str->Option Value)(xv:Nat->Value):Prop:=∀k x ts,g.xs[k]?=some (x,ts)->∃C,xv k= .ref C/\mg x=some (.ref C)/\EL K mg C ts
noncomputable def uU(bj:Bool)(args:List Dt)(n ps:Nat):aj:=(if bj then[none] else[])++args.map some++List.replicate (n-ps) none
theorem kG{bj:Bool}{args:List Dt}{n ps i:Nat}{d:Dt}(h:(uU bj args n ps)[i]?=some (some d)):∃j,args[j]?=some d/\i=j+(if bj then 1 else 0):=by
 unfold uU at h;have tail:∀{i:Nat},(args.map some++List.replicate (n-ps) (none:Option Dt))[i]?=some (some d)->args[i]?=some d:=λ {i} h=>by
  by_cases hi:i<args.length
  ·rw[Q4 (by simpa using hi),QH]at h;cases e:args[i]? with
   |none=>rw[e]at h;cases h
   |some a=>rw[e]at h;cases h;rfl
  ·rw[Q5 (by simpa using hi),RF]at h;split at h<;>cases h
 cases bj with
 |false=>simp only[Re,SE,R4]at h;exact⟨i,tail h,rfl⟩
 |true=>
  simp only[SI,QC]at h;cases i with
  |zero=>cases h
  |succ i=>have h:(args.map some++List.replicate (n-ps) (none:Option Dt))[i]?=some (some d):=h;exact⟨i,tail h,rfl⟩
theorem mq{N:List Str}{vs:List V}{i:Nat}{v:V}(h:vs[i]?=some v):(start N vs)[i]?=some (some v):=by unfold L2.start;have hi:=(Qs.mp h).1;rw[Q4 (by simpa using hi),QH,h];rfl
theorem wc{M:List Bool}{δ:Option Nat}{names:List (Str×NameKind)}{N:List Str}{np:Nat}{bj:Bool}{vs u6:List V}{H:Hp}{W:Addr->Prop}{dr:Option Addr}{args:List Dt}{S:Sx}{Ek:Nat->Prop}{κ:Option Nat}{P:Program}{w:World}
  (hM:∀i,i<np->M[i]?≠some true) (hδ:bj=true->δ=some 0) (Qa:np<=N.length) (hl:vs.length=np)
  (hd:if bj=true then∃(a:Addr)(ns:List Int),vs= .ref a::u6/\dr=some a/\W a/\S=some ns/\H a=some (.lst (ns.map V.int)) else vs=u6/\dr=none/\S=none)
  (ha:ak K W H u6 args) (hw:∀a,W a->∃x,H a=some x):ER ⟨K,H,dr,Ek,P,w⟩ ⟨names,N,M,δ,κ⟩ ⟨W,W,dr⟩ (uU bj args N.length np) S (start N vs) H/\args.length+(if bj then 1 else 0)=np:=by
 have Oz:=ha.length;have F0:args.length+(if bj then 1 else 0)=np:=by
  cases bj with
  |false=>
   simp only[Re,SE]at hd ⊢;obtain⟨e,_,_⟩:=hd;subst e
   lia
  |true=>
   simp only[SI]at hd ⊢;obtain⟨a,ns,e,_⟩:=hd;rw[e]at hl;simp at hl
   lia
 refine⟨⟨?_,λa z=>z,λa z=>?_,hw,λi d h=>?_,λi ks vs h=>?_,λi j a d e hm hm' h1 h2 _ _=>?_,λa z=>?_,λz=>?_,λi a hi z=>?_,λa z=>.inl z,aX.refl⟩,F0⟩
 ·unfold L2.start uU;simp only[QE,Qx,RN];cases bj<;>simp at F0 ⊢<;>lia
 ·cases bj with
  |false=>simp only[Re,SE]at hd;rw[hd.2.1]at z;cases z
  |true=>simp only[SI]at hd;obtain⟨b,ns,_,e,hb,_⟩:=hd;rw[e]at z;cases z;exact hb
 ·obtain⟨j,hj,rfl⟩:=kG h;obtain⟨v,h1,h2⟩:=ha.getD hj;have Ot:=(Qs.mp hj).1;have hm:fh ⟨names,N,M,δ,κ⟩ (j+if bj=true then 1 else 0)=false:=by unfold fh;have:=hM (j+if bj=true then 1 else 0) ⋯;simpa using this
  refine⟨v,mq ?_,?_⟩
  ·cases bj with
   |false=>simp only[Re,SE]at hd ⊢;rw[hd.1];exact h1
   |true=>simp only[SI]at hd ⊢;obtain⟨b,ns,e,_⟩:=hd;rw[e];simpa using h1
  ·rw[hm,SF (by simp)];exact h2
 ·obtain⟨j,hj,rfl⟩:=kG h;obtain⟨v,h1,h2⟩:=ha.getD hj;cases h2.nd
 ·obtain⟨j1,hj,rfl⟩:=kG h1;have Ot:=(Qs.mp hj).1;exfalso;unfold fh at hm;exact hM (j1+if bj=true then 1 else 0) ⋯ (QL hm)
 ·cases bj with
  |false=>simp only[Re,SE]at hd;rw[hd.2.1]at z;cases z
  |true=>simp only[SI]at hd;obtain⟨b,ns,_,e,_,e2,e3⟩:=hd;rw[e]at z;cases z;exact⟨ns,e2,e3⟩
 ·cases bj with
  |false=>simp only[Re,SE]at hd;exact hd.2.2
  |true=>simp only[SI]at hd;obtain⟨b,ns,_,e,_⟩:=hd;rw[e]at z;cases z
 ·cases bj with
  |false=>simp only[Re,SE]at hd;rw[hd.2.1]at z;cases z
  |true=>simp only[SI]at hd;obtain⟨b,ns,e1,e,_⟩:=hd;rw[e]at z;cases z;have hi:δ=some i:=hi;rw[hδ rfl]at hi;cases hi;exact mq (by rw[e1];rfl)
theorem FL{CX:jt}{N ps:List Str}{sc:Scope}{M:List Bool}{δ κ:Option Nat}{qual:Str}{f:Addr}{fu:Value}{A:Around}{outer:List Env}{s:Shared}{H:Hp}{E:XK}(m:MG g mg)(S:eF N ps sc)(hr:gK k (A.deeper (envOfC qual sc s.heap.objs.size f fu))):
  GX g ⟨sc.names,N,M,δ,κ⟩ (jY CX P w K mg base N qual sc f fu A outer s H E) where
 N:=rfl
 nd:=S.nd
 vis:=λx h=>by
  have h:yJ (sc.names.lookup x)=true:=h;show EK sc x;unfold EK;cases hl:sc.names.lookup x with
  |none=>rw[hl]at h;cases h
  |some kk=>
   rw[hl]at h;cases kk with
   |«local»=>exact .inl rfl
   |cell=>exact .inr (.inl rfl)
   |free=>exact .inr (.inr rfl)
   |globalExplicit=>cases h
   |globalImplicit=>cases h
 loc:=λx h=>by
  have h:xl (sc.names.lookup x)=true:=h;refine⟨?_,.inl rfl⟩;show L2.Loc sc x;unfold L2.Loc;cases hl:sc.names.lookup x with
  |none=>rw[hl]at h;cases h
  |some kk=>
   rw[hl]at h;cases kk with
   |«local»=>exact .inl rfl
   |cell=>exact .inr rfl
   |free=>cases h
   |globalExplicit=>cases h
   |globalImplicit=>cases h
 gl:=λx h=>by
  have h:sE (sc.names.lookup x)=true:=h;show sc.names.lookup x=_;cases hl:sc.names.lookup x with
  |none=>rw[hl]at h;cases h
  |some kk=>
   rw[hl]at h;cases kk with
   |globalImplicit=>rfl
   |«local»=>cases h
   |cell=>cases h
   |free=>cases h
   |globalExplicit=>cases h
 fre:=λx h=>h
 calm:=rfl
 un:=by have:=hr.un;show (A.deeper (envOfC qual sc s.heap.objs.size f fu)).units+150<cLine;lia
 con:=m.con
 bl:=m.bl
theorem lR{name qual:Str}{params:Arguments}{body:List Stmt}{scope:Scope}{dV kV doc pm fu ct oc:Value}{an od:Option Addr}{tm:Array (Option Value)}{f:Addr}{N ps:List Str}{M:List Bool}{δ κ:Option Nat}{bj fF:Bool}{n m:Nat}{ts:Ts}
  (lk:K.lookup f=some ⟨oc,od,.func (PySem.W.fnOf name qual params body scope dV kV doc pm an fu ct),tm⟩) (vf:PySem.W.codeIn K fu qual=true) (S:eF N ps scope) (hm:MG g mg) (zZ:XG g K mg xv) (fx:FX g xv (nZ P w) P w K mg base m k F)
  (hM:∀i,i<ps.length->M[i]?≠some true) (hδ:bj=true->δ=some 0) (hc:Cr n g ⟨scope.names,N,M,δ,κ⟩ bj fF body=some ts):
  iN P w K mg base (nZ P w) (k+1) f (PySem.W.fnOf name qual params body scope dV kV doc pm an fu ct) ps (Nj K xv (gh F ⟨ps.length,N.length,bj,ts⟩) ps.length fF bj):=by
 have eL:ps.length<=N.length:=by have:=SD List.length S.pre;rw[RT]at this;lia
 refine CH lk vf S (λvs H Q E h=>h.1) λA outer s H vs Q E hr h=>?_
 obtain⟨hl,W,dr,args,S0,u6,hd,ha,hw,h⟩:=h;have er:=wc (K:=K) (names:=scope.names) (N:=N) (κ:=κ) (P:=P) (w:=w) (Ek:=λkk=>∀H',aX (λb=>dr=some b) H H'->E (xv kk) none H') hM hδ eL hl hd ha hw;obtain⟨er,Bv⟩:=er;generalize hXX:jY (nZ P w) P w K mg base N qual scope f fu A outer s H E=X;generalize hΦ:(⟨K,H,dr,λkk=>∀H',aX (λb=>dr=some b) H H'->E (xv kk) none H',P,w⟩:Fm)=Φ at er;have hΦE:∀v a H',jP Φ xv v a H'->E v none H':=λv a H' z=>by obtain⟨kk,rfl,z1,z2⟩:=z;subst hΦ;exact z1 H' z2
 have PC:∀e s',iK X (jP Φ xv) e s'->X.xe e s':=λe s' z=>by subst hXX;obtain⟨σ,H',a,cls,e1,I,fl,q⟩:=z;exact EF ⟨σ,H',a,cls,e1,I,fl,hΦE _ _ _ q⟩
 have st:ff X:=by subst hXX;exact yx
 have gx:GX g ⟨scope.names,N,M,δ,κ⟩ X:=by subst hXX;exact FL (P:=P) (w:=w) (K:=K) (base:=base) (CX:=nZ P w) (M:=M) (δ:=δ) (outer:=outer) (H:=H) (E:=E) hm S hr
 have Nl:ff (X.cQ (iK X (jP Φ xv))):=⟨st.pn,st.st⟩;have hX:HX g xv (nZ P w) k F Φ (X.cQ (iK X (jP Φ xv))):=by
  refine⟨?_,?_,?_,⟨m,?_⟩,?_,?_,Nl,λe s' z=>eZ z,?_⟩
  ·subst hΦ hXX;rfl
  ·subst hΦ hXX;rfl
  ·subst hΦ hXX;rfl
  ·subst hXX;exact fx
  ·subst hXX;exact hr
  ·subst hXX;rfl
  ·subst hXX;exact zZ
 have own:PassesOwn (model (X.cQ (iK X (jP Φ xv))).prog (X.cQ (iK X (jP Φ xv))).w) (X.cQ (iK X (jP Φ xv))).A (X.cQ (iK X (jP Φ xv))).env (X.cQ (iK X (jP Φ xv))).xe:=tZ (E:=jP Φ xv) Nl (λe s' z=>eZ z) λe s' z=>pU z
 have d0:Φ.d0=dr:=by subst hΦ;rfl
 have SS:=vC (dp:=bj) (fF:=fF) (W:=W) (n:=n) (Γ:=⟨scope.names,N,M,δ,κ⟩) (by subst hXX;rfl) gx.cQ hX (λz=>by
  rw[d0];subst z;simp only[Re,SE]at hd;exact hd.2.1) own hc
 refine⟨_,pz SS PC,⟨W,W,dr⟩,_,S0,⟨rfl,λa z=>by rw[d0]at z;exact z⟩,er,?_⟩;subst hΦ;unfold gh at h;simp only at h;rw[SH Bv]at h;have h:(match (aF F ts (uU bj args N.length ps.length) S0).bind (λp=>match p.1 with
   |.next=>R.ok (Dt.bz,p.2.2)
   |.ret d=>R.ok (d,p.2.2)
   |_=>R.bad) with
  |.ok p=>∀v H',FO K W dr fF H p.1 p.2 v H'->Q v H'
  |.ex kk=>∀H',aX (λb=>dr=some b) H H'->E (xv kk) none H'
  |.bad=>False):=h
 cases he:aF F ts (uU bj args N.length ps.length) S0 with
 |ok p=>
  rw[he]at h;simp only[R.ai]at h;show cG _ _ _ _ _ _ _ p;unfold cG;cases hp:p.1 with
  |next=>rw[hp]at h;intro σ' H' so;obtain⟨o',oi,CB,_⟩:=so.ex;exact h _ _ ⟨CB.ent,RV.gw,λa z=>CB.drw a (oi.d a z),λ_ ds e=>by cases e⟩
  |ret d=>rw[hp]at h;intro v H' ro;exact h _ _ ⟨ro.ent,ro.val,ro.drw,ro.eD⟩
  |brk=>rw[hp]at h;exact h.elim
  |cnt=>rw[hp]at h;exact h.elim
 |ex kk=>rw[he]at h;exact h
 |bad=>rw[he]at h;exact h.elim
end
structure vn(g:G)(K:Frag)(mg:Str->Option Value)(e:Str×Nat×List Dt×Bool)(idx:Nat)(fn:Fn):Prop where
 ex:∃(fa:Addr)(ps N:List Str)(M:List Bool)(δ κ:Option Nat)(n:Nat)(oc:Value)(od an:Option Addr)(tm:Array (Option Value))(params:Arguments)(body:List Stmt)(scope:Scope)(dV kV doc pm fu ct:Value),
  K.lookup fa=some ⟨oc,od,.func (PySem.W.fnOf e.1 e.1 params body scope dV kV doc pm an fu ct),tm⟩/\PySem.W.codeIn K fu e.1=true/\PySem.W.keepIn K (.ref fa)=true/\mg e.1=some (.ref fa)/\eF N ps scope/\(∀i,i<ps.length->M[i]?≠some true)/\
  (e.2.2.2=true->δ=some 0)/\ps.length=e.2.1/\Cr n g ⟨scope.names,N,M,δ,κ⟩ e.2.2.2 (g.fr idx) body=some fn.body/\fn.ps=ps.length/\fn.n=N.length/\fn.bj=e.2.2.2/\
  (∀j,j<=e.2.2.1.length->∃ds,aq ((e.2.2.1.drop j).map p6) ds/\Binds K (PySem.W.fnOf e.1 e.1 params body scope dV kV doc pm an fu ct) ps ds)/\e.2.2.1.all og=true
noncomputable def oh(g:G)(K:Frag)(mg:Str->Option Value):Nat->List (Str×Nat×List Dt×Bool)->List Fn->Prop
 |_,[],[]=>True
 |i,e::es,f::fs=>vn g K mg e i f/\oh g K mg (i+1) es fs
 |_,_,_=>False
section
variable{g:G}{K:Frag}{mg:Str->Option Value}
theorem mY{x:Str}:∀{es:List (Str×Nat×List Dt×Bool)}{fs:List Fn}{i j:Nat}{r:Nat×List Dt×Bool},oh g K mg i es fs->qt x es=some (j,r)->∃f,vn g K mg (x,r) (i+j) f/\fs[j]?=some f
 |[],fs,i,j,r,_,h=>by simp[qt]at h
 |e::es,[],i,j,r,h,_=>h.elim
 |e::es,f::fs,i,j,r,ok,h=>by
  obtain⟨o1,o2⟩:=ok;unfold qt at h;split at h
  ·rename_i hx;cases h;have ex:x=e.1:=QL hx;subst ex;exact⟨f,o1,rfl⟩
  ·obtain⟨p,h1,h2⟩:=QD.mp h;obtain⟨j',r'⟩:=p;cases h2;obtain⟨f',k1,k2⟩:=mY o2 h1;refine⟨f',?_,k2⟩;have:i+(j'+1)=i+1+j':=⋯
   rw[this];exact k1
variable{P:Program}{w:World}{base:Heap}{xv:Nat->Value}{fs:List Fn}
theorem kD(hm:MG g mg)(zZ:XG g K mg xv)(ok:oh g K mg 0 g.fns fs):∀n,FX g xv (nZ P w) P w K mg base n n (aA fs n)
 |0=>⟨λx f np fy bj h=>by
   obtain⟨fn,⟨fa,ps,N,M,δ,κ,n,oc,od,an,tm,params,body,scope,dV,kV,doc,pm,fu,ct,h1,h2,h3,h4,h5,h6,h7,h8,h9,FM,J9,Ka,Kb,Kc⟩,hf⟩:=mY ok h;refine⟨fa,_,ps,h8,h4,h3,⟨λvs H Q E q=>q.1.trans h8.symm,λA outer s H args us vs Q E _ _ _ _ q=>?_⟩,Kb,Kc⟩;obtain⟨_,W,dr,as,S,u6,_,_,_,q⟩:=q;exact q.elim⟩
 |n+1=>⟨λx f np fy bj h=>by
   have ih:=kD hm zZ ok n;obtain⟨fn,⟨fa,ps,N,M,δ,κ,m,oc,od,an,tm,params,body,scope,dV,kV,doc,pm,fu,ct,h1,h2,h3,h4,h5,h6,h7,h8,h9,FM,J9,Ka,Kb,Kc⟩,hf⟩:=mY ok h;rw[Nat.zero_add]at h9;refine⟨fa,_,ps,h8,h4,h3,?_,Kb,Kc⟩;have:=lR (xv:=xv) (P:=P) (w:=w) (base:=base) h1 h2 h5 hm zZ ih h6 h7 h9;have e:(aA fs (n+1)) f=gh (aA fs n) ⟨ps.length,N.length,bj,fn.body⟩:=by funext args S;show (match fs[f]? with|some g=>gh (aA fs n) g args S|none=>R.bad)=_;rw[hf];obtain⟨a1,a2,a3,a4⟩:=fn;simp only at FM J9 Ka;subst FM J9 Ka;rfl
   have NR:ps.length=np:=h8;rw[e,<-NR];exact this⟩
noncomputable def tP(K:Frag):Sp:=λvs H Q _=>∃(a:Addr)(ns:List Int),vs=[.ref a]/\dy K H a (ns.map V.int)/\ns.length<=63/\∀H',Q (.bl true) H'
theorem len0{P:List Value->Prop}(h:P []):∀us:List Value,us.length=0->P us:=λus e=>List.eq_nil_of_length_eq_zero e▸h
theorem lenS{n:Nat}{P:List Value->Prop}(h:∀a(us:List Value),us.length=n->P (a::us)):∀us:List Value,us.length=n+1->P us:=λus e=>by
 cases us with
 |nil=>cases e
 |cons a t=>exact h a t (Nat.succ.inj e)
theorem binds0{fd:FuncData}{ps:List Str}(h:∀us:List Value,us.length=ps.length->bindArgs fd ⟨us,[]⟩=pure (ps.zip us)):∀j,j<=([]:List Dt).length->∃ds,aq ((([]:List Dt).drop j).map p6) ds/\Binds K fd ps ds:=λj hj=>by
 have:j=0:=by simpa using hj
 subst this;exact⟨[],.nil,Binds.all h⟩
noncomputable def Pf(names:List (Str×NameKind))(ps:List Str):List Str:=ps++names.filterMap λp=>if xl (some p.2)&& !ps.contains p.1 then some p.1 else none
noncomputable def E6(N ms:List Str):List Bool:=N.map λx=>ms.contains x
theorem GQ{N ms ps:List Str}(h:((E6 N ms).take ps.length).all (λb=> !b)=true):∀i,i<ps.length->(E6 N ms)[i]?≠some true:=λi hi e=>by have hm:true∈(E6 N ms).take ps.length:=R0.mpr ⟨i,by rw[RH hi];exact e⟩;have:=QY.mp h true hm;cases this
end
end Rx
end
section
namespace Rx
open PySem PySem.W PySem.Spec PyProof.Rows L2
section
variable{F:FT}{S:Sx}{ρ:aj}
theorem bD{tg:Tg}{body:aj->Sx->RS}{ds:List Dt}(P:List Dt->aj->Prop)(h0:P [] ρ)
  (step:∀pre x post ρ,ds=pre++x::post->P pre ρ->∃ρ1 ρ2,dG tg x ρ= .ok ρ1/\body ρ1 S= .ok (.next,ρ2,S)/\P (pre++[x]) ρ2):∃ρ',forL tg body ds ρ S= .ok (.next,ρ',S)/\P ds ρ':=by
 have key:∀(post pre:List Dt)(ρ:aj),ds=pre++post->P pre ρ->∃ρ',forL tg body post ρ S= .ok (.next,ρ',S)/\P ds ρ':=by
  intro post
  induction post with
  |nil=>intro pre ρ e h;rw[Q2]at e;subst e;exact⟨ρ,rfl,h⟩
  |cons x post ih=>intro pre ρ e h;obtain⟨ρ1,ρ2,h1,h2,h3⟩:=step pre x post ρ e h;obtain⟨ρ',h4,h5⟩:=ih (pre++[x]) ρ2 (by rw[e];simp) h3;refine⟨ρ',?_,h5⟩;rw[forL,h1,R.ai,h2,R.ai];exact h4
 exact key ds [] ρ rfl h0
theorem jf{α β:Type}(f:α->β):∀l:List α,(l.flatMap λx=>[f x])=l.map f
 |[]=>rfl
 |x::l=>by rw[RC,jf f l];rfl
end
theorem AN{fs:List Fn}{n k:Nat}{g:Fn}{args:List Dt}{S:Sx}(h:fs[k]?=some g):aA fs (n+1) k args S=gh (aA fs n) g args S:=by show (match fs[k]? with|some g=>gh (aA fs n) g args S|none=>R.bad)=_;rw[h]
noncomputable def GU(d:Dt)(S:Sx):R (Dt×Sx):=match d with|.int i=>.ok (.int (-i),S)|_=>.bad
noncomputable def Nf(d:Dt)(S:Sx):R (Dt×Sx):=match d with|.bl b=>.ok (.bl !b,S)|_=>.bad
noncomputable def Fs(d:Dt)(S:Sx):R (Dt×Sx):=match d with|.bl c=>.ok (.bl c,S)|_=>.bad
noncomputable def Cc(f:Sx->R (Dt×Sx))(d:Dt)(S:Sx):R (Dt×Sx):=match d with|.bl true=>(f S).bind (λy=>Fs y.1 y.2)|.bl false=>.ok (.bl false,S)|_=>.bad
noncomputable def Lk(f:Sx->R (Dt×Sx))(d:Dt)(S:Sx):R (Dt×Sx):=match d with|.bl false=>(f S).bind (λy=>Fs y.1 y.2)|.bl true=>.ok (.bl true,S)|_=>.bad
noncomputable def BG(k:List Dt->Dt)(ds:List Dt)(S:Sx):R (Dt×Sx):=af (decide (ds.length<=lim)) (.ok (k ds,S))
noncomputable def KW(o:Option (List Dt))(S:Sx):R (List Dt×Sx):=match o with|some ds=>.ok (ds,S)|none=>.bad
noncomputable def HC(d e:Dt)(S:Sx):R (Dt×Sx):=match e with|.int i=>(fM d (some i) none).bind λd=>.ok (d,S)|_=>.bad
noncomputable def HB(d e:Dt)(S:Sx):R (Dt×Sx):=match e with|.int i=>(fM d none (some i)).bind λd=>.ok (d,S)|_=>.bad
theorem RX:
  (∀{F:FT}{S:Sx}{ρ:aj}{d:Dt},ev F (.con d) ρ S= .ok (d,S))/\
  (∀{F:FT}{S:Sx}{ρ:aj}{i:Nat},ev F (.var i) ρ S=(dm ρ i).bind λd=>.ok (d,S))/\
  (∀{F:FT}{S:Sx}{ρ:aj}{i:Nat},ev F (.mvr i) ρ S=(dm ρ i).bind λd=>.ok (d,S))/\
  (∀{F:FT}{S:Sx}{ρ:aj}{o:Operator}{a b:C},ev F (.bin o a b) ρ S=(ev F a ρ S).bind λx=>(ev F b ρ x.2).bind λy=>(kq o x.1 y.1).bind λd=>.ok (d,y.2))/\
  (∀{F:FT}{S:Sx}{ρ:aj}{o:CmpOp}{a b:C},ev F (.cmp o a b) ρ S=(ev F a ρ S).bind λx=>(ev F b ρ x.2).bind λy=>(c7 o x.1 y.1).bind λd=>.ok (.bl d,y.2))/\
  (∀{F:FT}{S:Sx}{ρ:aj}{a:C},ev F (.neg a) ρ S=(ev F a ρ S).bind λx=>GU x.1 x.2)/\
  (∀{F:FT}{S:Sx}{ρ:aj}{a:C},ev F (.nt a) ρ S=(ev F a ρ S).bind λx=>Nf x.1 x.2)/\
  (∀{F:FT}{S:Sx}{ρ:aj}{a b:C},ev F (.and a b) ρ S=(ev F a ρ S).bind λx=>Cc (ev F b ρ) x.1 x.2)/\
  (∀{F:FT}{S:Sx}{ρ:aj}{a b:C},ev F (.or a b) ρ S=(ev F a ρ S).bind λx=>Lk (ev F b ρ) x.1 x.2)/\
  (∀{F:FT}{S:Sx}{ρ:aj}{a b c:C},ev F (.ite a b c) ρ S=(cW F a ρ S).bind λx=>if x.1=true then ev F b ρ x.2 else ev F c ρ x.2)/\
  (∀{F:FT}{S:Sx}{ρ:aj}{a b:C},ev F (.idx a b) ρ S=(ev F a ρ S).bind λx=>(ev F b ρ x.2).bind λy=>(bW x.1 y.1).bind λd=>.ok (d,y.2))/\
  (∀{F:FT}{S:Sx}{ρ:aj}{a b:C},ev F (.sliL a b) ρ S=(ev F a ρ S).bind λx=>(ev F b ρ x.2).bind λy=>HC x.1 y.1 y.2)/\
  (∀{F:FT}{S:Sx}{ρ:aj}{a b:C},ev F (.sliH a b) ρ S=(ev F a ρ S).bind λx=>(ev F b ρ x.2).bind λy=>HB x.1 y.1 y.2)/\
  (∀{F:FT}{S:Sx}{ρ:aj}{f:Nat}{es:Cs}{ds:List Dt},ev F (.call f es ds) ρ S=(fU F es ρ S).bind λx=>(F f (x.1++ds) none).bind λy=>.ok (y.1,x.2))/\
  (∀{F:FT}{S:Sx}{ρ:aj}{u:BI}{es:Cs},ev F (.bi u es) ρ S=(fU F es ρ S).bind λx=>(c8 u x.1).bind λd=>.ok (d,x.2))/\
  (∀{F:FT}{S:Sx}{ρ:aj}{es:Cs},ev F (.tup es) ρ S=(fU F es ρ S).bind λx=>BG .tup x.1 x.2)/\
  (∀{F:FT}{S:Sx}{ρ:aj}{es:Cs},ev F (.lst es) ρ S=(fU F es ρ S).bind λx=>BG .lst x.1 x.2)/\
  (∀{F:FT}{S:Sx}{ρ:aj},fU F .nil ρ S= .ok ([],S))/\
  (∀{F:FT}{S:Sx}{ρ:aj}{a:C}{es:Cs},fU F (.cons a es) ρ S=(ev F a ρ S).bind λx=>(fU F es ρ x.2).bind λy=>.ok (x.1::y.1,y.2))/\
  (∀{F:FT}{S:Sx}{ρ:aj}{o:CmpOp}{a b:C},cW F (.cmp o a b) ρ S=(ev F a ρ S).bind λx=>(ev F b ρ x.2).bind λy=>(c7 o x.1 y.1).bind λd=>.ok (d,y.2))/\
  (∀{F:FT}{S:Sx}{ρ:aj}{a b:C},cW F (.and a b) ρ S=(cW F a ρ S).bind λx=>if x.1=true then cW F b ρ x.2 else .ok (false,x.2))/\
  (∀{F:FT}{S:Sx}{ρ:aj}{a b:C},cW F (.or a b) ρ S=(cW F a ρ S).bind λx=>if x.1=true then .ok (true,x.2) else cW F b ρ x.2)/\
  (∀{F:FT}{S:Sx}{ρ:aj}{a:C},cW F (.nt a) ρ S=(cW F a ρ S).bind λx=>.ok (!x.1,x.2))/\
  (∀{F:FT}{S:Sx}{ρ:aj}{f:Nat}{es:Cs}{ds:List Dt},cW F (.call f es ds) ρ S=(fU F es ρ S).bind λx=>(F f (x.1++ds) none).bind λy=>(dH y.1).bind λb=>.ok (b,x.2))/\
  (∀{F:FT}{S:Sx}{ρ:aj}{u:BI}{es:Cs},cW F (.bi u es) ρ S=(fU F es ρ S).bind λx=>(c8 u x.1).bind λd=>(dH d).bind λb=>.ok (b,x.2))/\
  (∀{F:FT}{S:Sx}{ρ:aj}{i:Nat},cW F (.var i) ρ S=(dm ρ i).bind λd=>(dH d).bind λb=>.ok (b,S))/\
  (∀{F:FT}{S:Sx}{ρ:aj}{i:Nat},cW F (.mvr i) ρ S=(dm ρ i).bind λd=>(dH d).bind λb=>.ok (b,S))/\
  (∀{F:FT}{S:Sx}{ρ:aj}{a b:C},cW F (.idx a b) ρ S=(ev F a ρ S).bind λx=>(ev F b ρ x.2).bind λy=>(bW x.1 y.1).bind λd=>(dH d).bind λb=>.ok (b,y.2))/\
  (∀{F:FT}{S:Sx}{ρ:aj},c9 F .nil ρ S= .ok (true,S))/\
  (∀{F:FT}{S:Sx}{ρ:aj}{a:C},c9 F (.cons a .nil) ρ S=cW F a ρ S)/\
  (∀{F:FT}{S:Sx}{ρ:aj}{a:C},fq F (.seq a) ρ S=(ev F a ρ S).bind λx=>KW (itemsOf x.1) x.2)/\
  (∀{F:FT}{S:Sx}{ρ:aj}{a:C},fq F (.enum a) ρ S=(ev F a ρ S).bind λx=>KW ((bV x.1).map (v8 0)) x.2)/\
  (∀{d:Dt}{ρ:aj},dm (some d::ρ) 0= .ok d)/\
  (∀{e:Option Dt}{ρ:aj}{i:Nat},dm (e::ρ) (i+1)=dm ρ i)/\
  (∀{S:Sx}{i:Int},GU (.int i) S= .ok (.int (-i),S))/\
  (∀{S:Sx}{b:Bool},Nf (.bl b) S= .ok (.bl !b,S))/\
  (∀{S:Sx}{f:Sx->R (Dt×Sx)},Cc f (.bl false) S= .ok (.bl false,S))/\
  (∀{S:Sx}{f:Sx->R (Dt×Sx)},Cc f (.bl true) S=(f S).bind λy=>Fs y.1 y.2)/\
  (∀{S:Sx}{f:Sx->R (Dt×Sx)},Lk f (.bl true) S= .ok (.bl true,S))/\
  (∀{S:Sx}{f:Sx->R (Dt×Sx)},Lk f (.bl false) S=(f S).bind λy=>Fs y.1 y.2)/\
  (∀{S:Sx}{b:Bool},Fs (.bl b) S= .ok (.bl b,S))/\
  (∀{S:Sx}{ds:List Dt},KW (some ds) S= .ok (ds,S))/\
  (∀{ds:List Dt}{f:List Dt->List Dt},(some ds).map f=some (f ds))/\
  (∀{S:Sx}{k:List Dt->Dt},BG k [] S= .ok (k [],S))/\
  (∀{S:Sx}{k:List Dt->Dt}{a:Dt},BG k [a] S= .ok (k [a],S))/\
  (∀{S:Sx}{k:List Dt->Dt}{a b:Dt},BG k [a,b] S= .ok (k [a,b],S))/\
  (∀{S:Sx}{k:List Dt->Dt}{a b c:Dt},BG k [a,b,c] S= .ok (k [a,b,c],S))/\
  (∀{S:Sx}{k:List Dt->Dt}{a b c d:Dt},BG k [a,b,c,d] S= .ok (k [a,b,c,d],S))/\
  (∀{S:Sx}{k:List Dt->Dt}{a b c d e:Dt},BG k [a,b,c,d,e] S= .ok (k [a,b,c,d,e],S))/\
  (∀{S:Sx}{d:Dt}{i:Int},HC d (.int i) S=(fM d (some i) none).bind λd=>.ok (d,S))/\
  (∀{S:Sx}{d:Dt}{i:Int},HB d (.int i) S=(fM d none (some i)).bind λd=>.ok (d,S))/\
  (∀{m n:Int},kq .Add (.int m) (.int n)= .ok (.int (m+n)))/\
  (∀{m n:Int},kq .Sub (.int m) (.int n)= .ok (.int (m-n)))/\
  (∀{m n:Int},c7 .Lt (.int m) (.int n)= .ok (decide (m<n)))/\
  (∀{m n:Int},c7 .LtE (.int m) (.int n)= .ok (decide (m<=n)))/\
  (∀{m n:Int},c7 .Gt (.int m) (.int n)= .ok (decide (n<m)))/\
  (∀{m n:Int},c7 .GtE (.int m) (.int n)= .ok (decide (n<=m)))/\
  (∀{m n:Int},c7 .Eq (.int m) (.int n)= .ok (m==n))/\
  (∀{m n:Int},c7 .NotEq (.int m) (.int n)= .ok (!(m==n)))/\
  (∀{m n:Str},c7 .Eq (.str m) (.str n)= .ok (m==n))/\
  (∀{m n:Str},c7 .NotEq (.str m) (.str n)= .ok (!(m==n)))/\
  (∀{ns:List Int},c8 .len [.aQ ns]= .ok (.int ns.length))/\
  (∀{ds:List Dt},c8 .len [.lst ds]= .ok (.int ds.length))/\
  (∀{ds:List Dt},c8 .len [.tup ds]= .ok (.int ds.length))/\
  (∀{ds:List Dt},c8 .tuple [.lst ds]= .ok (.tup ds))/\
  (∀{ds:List Dt},c8 .tuple [.tup ds]= .ok (.tup ds))/\
  (∀{ds:List Dt},c8 .list [.lst ds]= .ok (.lst ds))/\
  (∀{ds:List Dt},c8 .list [.tup ds]= .ok (.lst ds))/\
  (∀{m n:Int},c8 .min2 [.int m,.int n]= .ok (.int (if n<m then n else m)))/\
  (∀{m n:Int},c8 .max2 [.int m,.int n]= .ok (.int (if n>m then n else m)))/\
  (∀{t:Bool},dH (.bl t)= .ok t)/\
  (∀{ds:List Dt},dH (.lst ds)= .ok !ds.isEmpty)/\
  (∀{ds:List Dt},dH (.tup ds)= .ok !ds.isEmpty)/\
  (∀{ds:List Dt},itemsOf (.lst ds)=some ds)/\
  (∀{ds:List Dt},itemsOf (.tup ds)=some ds)/\
  (∀{ds:List Dt},bV (.lst ds)=some ds)/\
  (∀{ds:List Dt},bV (.tup ds)=some ds)/\
  (∀{α β:Type}{x:α}{f:α->R β},(R.ok x).bind f=f x)/\
  (∀{α:Type}{r:R α},af true r=r)/\
  (∀{ds:List Dt},(ds++[]:List Dt)=ds)/\
  (∀{e v:Option Dt}{ρ:aj},(e::ρ).set 0 v=v::ρ)/\
  (∀{e v:Option Dt}{ρ:aj}{i:Nat},(e::ρ).set (i+1) v=e::ρ.set i v)/\
  (∀{d:Dt}{ρ:aj}{i:Nat},dG (.nm i) d ρ= .ok (ρ.set i (some d)))/\
  (∀{is:List Nat}{ds:List Dt}{ρ:aj},dG (.tp is) (.tup ds) ρ=fL is ds ρ)/\
  (∀{ρ:aj},fL [] [] ρ= .ok ρ)/\
  (∀{i:Nat}{is:List Nat}{d:Dt}{ds:List Dt}{ρ:aj},fL (i::is) (d::ds) ρ=fL is ds (ρ.set i (some d)))/\
  (∀{d:Dt},bW (.tup [d]) (.int 0)= .ok d)/\
  (∀{d d2:Dt},bW (.tup [d,d2]) (.int 0)= .ok d)/\
  (∀{d d2:Dt},bW (.tup [d,d2]) (.int 1)= .ok d2)/\
  (∀{d d2 d3:Dt},bW (.tup [d,d2,d3]) (.int 0)= .ok d)/\
  (∀{d d2 d3:Dt},bW (.tup [d,d2,d3]) (.int 1)= .ok d2)/\
  (∀{d d2 d3:Dt},bW (.tup [d,d2,d3]) (.int 2)= .ok d3):=
 ⟨@λ_ _ _ _=>rfl,
  @λ_ _ _ _=>rfl,
  @λ_ _ _ _=>rfl,
  @λ_ _ _ _ _ _=>rfl,
  @λ_ _ _ _ _ _=>rfl,
  @λ_ _ _ _=>rfl,
  @λ_ _ _ _=>rfl,
  @λ_ _ _ _ _=>rfl,
  @λ_ _ _ _ _=>rfl,
  @λ_ _ _ _ _ _=>rfl,
  @λ_ _ _ _ _=>rfl,
  @λ_ _ _ _ _=>rfl,
  @λ_ _ _ _ _=>rfl,
  @λ_ _ _ _ _ _=>rfl,
  @λ_ _ _ _ _=>rfl,
  @λ_ _ _ _=>rfl,
  @λ_ _ _ _=>rfl,
  @λ_ _ _=>rfl,
  @λ_ _ _ _ _=>rfl,
  @λ_ _ _ _ _ _=>rfl,
  @λ_ _ _ _ _=>rfl,
  @λ_ _ _ _ _=>rfl,
  @λ_ _ _ _=>rfl,
  @λ_ _ _ _ _ _=>rfl,
  @λ_ _ _ _ _=>rfl,
  @λ_ _ _ _=>rfl,
  @λ_ _ _ _=>rfl,
  @λ_ _ _ _ _=>rfl,
  @λ_ _ _=>rfl,
  @λ_ _ _ _=>rfl,
  @λ_ _ _ _=>rfl,
  @λF S ρ a=>by rw[fq];cases ev F a ρ S with|ok x=>(simp only[R.ai];cases bV x.1<;>rfl)|ex k=>rfl|bad=>rfl,
  @λ_ _=>rfl,
  @λ_ _ _=>rfl,
  @λ_ _=>rfl,
  @λ_ _=>rfl,
  @λ_ _=>rfl,
  @λ_ _=>rfl,
  @λ_ _=>rfl,
  @λ_ _=>rfl,
  @λ_ _=>rfl,
  @λ_ _=>rfl,
  @λ_ _=>rfl,
  @λ_ _=>rfl,
  @λ_ _ _=>rfl,
  @λ_ _ _ _=>rfl,
  @λ_ _ _ _ _=>rfl,
  @λ_ _ _ _ _ _=>rfl,
  @λ_ _ _ _ _ _ _=>rfl,
  @λ_ _ _=>rfl,
  @λ_ _ _=>rfl,
  @λ_ _=>rfl,
  @λ_ _=>rfl,
  @λ_ _=>rfl,
  @λ_ _=>rfl,
  @λ_ _=>rfl,
  @λ_ _=>rfl,
  @λ_ _=>rfl,
  @λ_ _=>rfl,
  @λ_ _=>rfl,
  @λ_ _=>rfl,
  @λ_=>rfl,
  @λ_=>rfl,
  @λ_=>rfl,
  @λ_=>rfl,
  @λ_=>rfl,
  @λ_=>rfl,
  @λ_=>rfl,
  @λ_ _=>rfl,
  @λ_ _=>rfl,
  @λ_=>rfl,
  @λ_=>rfl,
  @λ_=>rfl,
  @λ_=>rfl,
  @λ_=>rfl,
  @λ_=>rfl,
  @λ_=>rfl,
  @λ_ _ _ _=>rfl,
  @λ_ _=>rfl,
  @λds=>Q2 ds,
  @λ_ _ _=>rfl,
  @λ_ _ _ _=>rfl,
  @λ_ _ _=>rfl,
  @λ_ _ _=>rfl,
  @λ_=>rfl,
  @λ_ _ _ _ _=>rfl,
  @λ_=>rfl,
  @λ_ _=>rfl,
  @λ_ _=>rfl,
  @λ_ _ _=>rfl,
  @λ_ _ _=>rfl,
  @λ_ _ _=>rfl⟩
section
variable{F:FT}{S:Sx}{ρ:aj}
theorem bh{i j:Int}(h:i.natAbs<2^64\/j.natAbs<2^64):kq .Mult (.int i) (.int j)= .ok (.int (i*j)):=by show af (decide (i.natAbs<2^64)||decide (j.natAbs<2^64)) _=_;rw[show (decide (i.natAbs<2^64)||decide (j.natAbs<2^64))=true by simpa using h];rfl
theorem cZ{i j:Int}(h:0<j):kq .Mod (.int i) (.int j)= .ok (.int (i % j)):=by show af (decide (0<j)) _=_;rw[QR h];rfl
theorem xA{i j:Int}(h:0<j)(h2:j.natAbs.log2<9000):kq .FloorDiv (.int i) (.int j)= .ok (.int (i/j)):=by show af (decide (0<j)&&decide (j.natAbs.log2<9000)) _=_;rw[QR h,QR h2];rfl
noncomputable def fin(r:RS):R (Dt×Sx):=r.bind λp=>match p.1 with
 |.next=>.ok (.bz,p.2.2)
 |.ret d=>.ok (d,p.2.2)
 |_=>.bad
noncomputable def Ts.app:Ts->Ts->Ts
 |.nil,b=>b
 |.cons t a,b=>.cons t (a.app b)
theorem mX:∀{a b:Ts}{ρ:aj}{S:Sx},aF F (a.app b) ρ S=(aF F a ρ S).bind λp=>match p.1 with
  |.next=>aF F b p.2.1 p.2.2
  |f=>.ok (f,p.2)
 |.nil,b,ρ,S=>rfl
 |.cons t a,b,ρ,S=>by
  show aF F (.cons t (a.app b)) ρ S=_;rw[aF,aF];cases ex F t ρ S with
  |ok p=>
   obtain⟨f,ρ1,S1⟩:=p;cases f with
   |next=>exact mX
   |brk=>rfl
   |cnt=>rfl
   |ret d=>rfl
  |ex k=>rfl
  |bad=>rfl
section
variable{r:R (Dt×Sx)}{ts:Ts}
theorem gV{t:T}{ρ1:aj}{S1:Sx}(h:ex F t ρ S= .ok (.next,ρ1,S1))(k:fin (aF F ts ρ1 S1)=r):fin (aF F (.cons t ts) ρ S)=r:=by rw[aF,h];exact k
theorem sk{t:T}{ρ1:aj}{S1:Sx}{d:Dt}(h:ex F t ρ S= .ok (.ret d,ρ1,S1)):fin (aF F (.cons t ts) ρ S)= .ok (d,S1):=by rw[aF,h];rfl
theorem au{i:Nat}{c:C}{d:Dt}{S1:Sx}(h:ev F c ρ S= .ok (d,S1))(hs:bo c d=true)(k:fin (aF F ts (ρ.set i (some d)) S1)=r):fin (aF F (.cons (.asg i c) ts) ρ S)=r:=by refine gV ?_ k;rw[ex,h,R.ai,hs];rfl
theorem dz{i:Nat}{c:C}{d:Dt}{S1:Sx}(h:ev F c ρ S= .ok (d,S1))(hs:iD c d=true)(k:fin (aF F ts (ρ.set i (some d)) S1)=r):fin (aF F (.cons (.asgM i c) ts) ρ S)=r:=by refine gV ?_ k;rw[ex,h,R.ai,hs];rfl
theorem ao{c:C}{d:Dt}{S1:Sx}(h:ev F c ρ S= .ok (d,S1)):fin (aF F (.cons (.ret c) ts) ρ S)= .ok (d,S1):=by refine sk (ρ1:=ρ) ?_;rw[ex,h];rfl
theorem wq{t:C}{a b:Ts}{x:Bool}{S1:Sx}(h:cW F t ρ S= .ok (x,S1))(k:fin (aF F ((if x=true then a else b).app ts) ρ S1)=r):fin (aF F (.cons (.ifs t a b) ts) ρ S)=r:=by rw[<-k,mX,aF,ex,h,R.ai];cases x<;>rfl
theorem dJ{t:C}{a b:Ts}{S1:Sx}(h:cW F t ρ S= .ok (true,S1))(k:fin (aF F (a.app ts) ρ S1)=r):fin (aF F (.cons (.ifs t a b) ts) ρ S)=r:=wq h (by rw[SH rfl];exact k)
theorem cA{t:C}{a b:Ts}{S1:Sx}(h:cW F t ρ S= .ok (false,S1))(k:fin (aF F (b.app ts) ρ S1)=r):fin (aF F (.cons (.ifs t a b) ts) ρ S)=r:=wq h (by rw[SF (by simp)];exact k)
theorem bg{tg:Tg}{it:pW}{b:Ts}{ds:List Dt}{ρ1:aj}{S1 S2:Sx}(h:fq F it ρ S= .ok (ds,S1))(hl:vk it=0)(hf:forL tg (aF F b) ds ρ S1= .ok (.next,ρ1,S2))(k:fin (aF F ts ρ1 S2)=r):fin (aF F (.cons (.fr tg it b) ts) ρ S)=r:=by refine gV ?_ k;rw[ex,h,R.ai,QR hl,Bool.true_or];exact hf
end
end
theorem aB{fs:List Fn}{n k ps m:Nat}{body:Ts}{args:List Dt}{r:R (Dt×Sx)}{S:Sx}(h:fs[k]?=some ⟨ps,m,false,body⟩)(hn:1<=n)(hl:args.length=ps)(q:fin (aF (aA fs (n-1)) body (args.map some++List.replicate (m-ps) none) S)=r):aA fs n k args S=r:=by obtain⟨n,rfl⟩:∃m,n=m+1:=⟨n-1,by lia⟩;rw[AN h];unfold gh;simp only[Re,SE,Nat.add_zero,hl,SI,R4];exact q
noncomputable def ow:Ts:=(.cons (.ifs (.cmp .Lt (.var 1) (.bi .len (.cons (.var 0) .nil))) (.cons (.ret (.idx (.var 0) (.var 1))) .nil) .nil) (.cons (.asg 2 (.bin .Add (.bin .Mult (.var 1) (.con (.int 7919))) (.con (.int 5)))) (.cons (.ifs (.cmp .Gt (.bi .len (.cons (.var 0) .nil)) (.con (.int 0))) (.cons (.asg 2 (.bin .Add (.bin .Add (.bin .Mult (.bin .Mod (.idx (.var 0) (.bin .Mod (.var 1) (.bi .len (.cons (.var 0) .nil)))) (.con (.int 2147483647))) (.con (.int 48271))) (.bin .Mult (.bin .Mult (.var 1) (.var 1)) (.con (.int 7919)))) (.con (.int 11)))) .nil) .nil) (.cons (.ret (.bin .Mod (.bin .Mult (.var 2) (.var 2)) (.con (.int 2147483629)))) .nil))))
theorem sM{ns:List Int}{k:Nat}(h:k<ns.length):bW (.aQ ns) (.int k)= .ok (.int ns[k]):=by show t9 (ns.map Dt.int) k=_;unfold t9;rw[L2.jw (v:=.int ns[k]) (by simp[h])]
noncomputable def gQ(ns:List Int)(k:Nat):Int:=if h:k<ns.length then ns[k] else
 let m:Int:=if h:0<ns.length then ns[k % ns.length]'(Nat.mod_lt _ h) % 2147483647*48271+k*k*7919+11 else k*7919+5
 m*m % 2147483629
theorem rT{fs:List Fn}{ic:Nat}(hc:fs[ic]?=some ⟨2,3,false,ow⟩){n:Nat}(hn:1<=n){ns:List Int}{k:Nat}(hk:k<1000000):aA fs n ic [.aQ ns,.int k] none= .ok (.int (gQ ns k),none):=by
 refine aB hc hn rfl ?_;show fin (aF (aA fs (n-1)) ow [some (.aQ ns),some (.int k),none] none)=_;by_cases h:k<ns.length
 ·refine dJ (S1:=none) (by simp only[RX];simp[h]) ?_;exact(ao (d:=.int ns[k]) (S1:=none) (by simp only[RX,sM h])).trans (by simp[gQ,h])
 ·have b1:(k:Int)*k<=1000000*1000000:=by
   have:k*k<=1000000*1000000:=Sj ⋯ ⋯;rw[<-Int.natCast_mul]
   lia
  have b0:(0:Int)<=(k:Int)*k:=Rt ⋯ ⋯;have m1:=bh (i:=k) (j:=7919) (.inl ⋯);refine cA (S1:=none) (by simp only[RX];simp;lia) (au (d:=.int (k*7919+5)) (S1:=none) (by simp only[RX,m1]) rfl ?_);by_cases h2:0<ns.length
  ·have hm:=Nat.mod_lt k h2;have e1:((k:Int) % (ns.length:Int))=((k % ns.length:Nat):Int):=by simp
   generalize hx:ns[k % ns.length]=x;have r1:=Q0 x (b:=2147483647) (by decide);have r2:=Q1 x (b:=2147483647) (by decide);have m2:=cZ (i:=k) (j:=ns.length) ⋯;rw[e1]at m2;have m3:=cZ (i:=x) (j:=2147483647) (by decide);have m4:=bh (i:=x % 2147483647) (j:=48271) (.inl ⋯);have m5:=bh (i:=k) (j:=k) (.inl ⋯);have m6:=bh (i:=(k:Int)*k) (j:=7919) (.inl ⋯);have m7:=bh (i:=x % 2147483647*48271+k*k*7919+11) (j:=x % 2147483647*48271+k*k*7919+11) (.inl ⋯);have m8:=cZ (i:=(x % 2147483647*48271+k*k*7919+11)*(x % 2147483647*48271+k*k*7919+11)) (j:=2147483629) (by decide);refine dJ (S1:=none) (by simp only[RX];simp;lia) (au (d:=.int (x % 2147483647*48271+k*k*7919+11)) (S1:=none) ?_ rfl ?_)
   ·simp only[RX,m2,m3,m4,m5,m6,sM hm,hx]
   ·refine(ao (d:=_) (S1:=none) (by simp only[RX,m7,m8];rfl)).trans ?_;simp[gQ,h,h2,hx]
  ·have z0:decide ((0:Int)<ns.length)=false:=QN ⋯;have m7:=bh (i:=k*7919+5) (j:=k*7919+5) (.inl ⋯);have m8:=cZ (i:=((k:Int)*7919+5)*(k*7919+5)) (j:=2147483629) (by decide);refine cA (S1:=none) (by simp only[RX,z0]) ((ao (d:=_) (S1:=none) (by simp only[RX,m7,m8];rfl)).trans ?_);simp[gQ,h,h2]
section
variable{F:FT}{S S1 S2:Sx}{ρ ρ1:aj}{ts:Ts}{r:RS}{d:Dt}{ds:List Dt}
theorem nx{t:T}(h:ex F t ρ S= .ok (.next,ρ1,S1))(k:aF F ts ρ1 S1=r):aF F (.cons t ts) ρ S=r:=by rw[aF,h];exact k
theorem aS{i:Nat}{c:C}(h:ev F c ρ S= .ok (d,S1))(hs:bo c d=true)(k:aF F ts (ρ.set i (some d)) S1=r):aF F (.cons (.asg i c) ts) ρ S=r:=by refine nx ?_ k;rw[ex,h,R.ai,hs];rfl
theorem tf{i:Nat}{c:C}(h:ev F c ρ S= .ok (d,S1))(hs:iD c d=true)(k:aF F ts (ρ.set i (some d)) S1=r):aF F (.cons (.asgM i c) ts) ρ S=r:=by refine nx ?_ k;rw[ex,h,R.ai,hs];rfl
theorem BJ{t:C}{a b:Ts}{x:Bool}(h:cW F t ρ S= .ok (x,S1))(k:aF F ((if x=true then a else b).app ts) ρ S1=r):aF F (.cons (.ifs t a b) ts) ρ S=r:=by rw[<-k,mX,aF,ex,h,R.ai];cases x<;>rfl
theorem qM{t:C}{a b:Ts}(h:cW F t ρ S= .ok (true,S1))(k:aF F (a.app ts) ρ S1=r):aF F (.cons (.ifs t a b) ts) ρ S=r:=BJ h (by rw[SH rfl];exact k)
theorem kn{t:C}{a b:Ts}(h:cW F t ρ S= .ok (false,S1))(k:aF F (b.app ts) ρ S1=r):aF F (.cons (.ifs t a b) ts) ρ S=r:=BJ h (by rw[SF (by simp)];exact k)
theorem qN{tg:Tg}{it:pW}{b:Ts}(h:fq F it ρ S= .ok (ds,S1))(hl:vk it=0)(hf:forL tg (aF F b) ds ρ S1= .ok (.next,ρ1,S2))(k:aF F ts ρ1 S2=r):aF F (.cons (.fr tg it b) ts) ρ S=r:=by refine nx ?_ k;rw[ex,h,R.ai,QR hl,Bool.true_or];exact hf
theorem nv{i:Nat}(hl:ρ[i]?=some (some (.lst ds))):isLE ρ i=true:=by unfold isLE;rw[hl]
theorem nE{i:Nat}(hl:ρ[i]?=some (some (.lst ds))):oZ ρ i= .ok ds:=by unfold oZ;rw[hl]
theorem CD{i:Nat}{c:C}(hl:ρ[i]?=some (some (.lst ds)))(h:ev F c ρ S= .ok (d,S1))(hs:bo c d=true)(hz:ds.length<=lim):ex F (.app i c) ρ S= .ok (.next,ρ.set i (some (.lst (ds++[d]))),S1):=by rw[ex,nv hl,guard_true,h,R.ai,hs,guard_true,nE hl,R.ai,QR hz];rfl
theorem CF{i:Nat}{c:C}{es:List Dt}(hl:ρ[i]?=some (some (.lst ds)))(h:ev F c ρ S= .ok (.lst es,S1))(hs:lk c<=1)(hz:ds.length+es.length<=lim):ex F (.xtd i c) ρ S= .ok (.next,ρ.set i (some (.lst (ds++es))),S1):=by rw[ex,nv hl,guard_true,h,R.ai,QR hs,guard_true,nE hl,R.ai];show af (decide (ds.length+es.length<=lim)) _=_;rw[QR hz];rfl
theorem sj{i:Nat}{k v:C}{n:Int}{j:Nat}(hl:ρ[i]?=some (some (.lst ds)))(h:ev F v ρ S= .ok (d,S1))(h2:ev F k ρ S1= .ok (.int n,S2))(hs:bo v d=true)(hz:kZ ds.length n=some j):ex F (.rd i k v) ρ S= .ok (.next,ρ.set i (some (.lst (ds.set j d))),S2):=by rw[ex,nv hl,guard_true,h,R.ai,h2,R.ai,hs,guard_true,nE hl,R.ai];show (match kZ ds.length n with|some j=>R.ok (Fl.next,ρ.set i (some (.lst (ds.set j d))),S2)|none=>.bad)=_;rw[hz]
theorem fJ{i:Nat}{c:C}(hl:ρ[i]?=some (some (.lst ds)))(h:ev F c ρ S= .ok (d,S1))(hs:bo c d=true)(hz:ds.length<=lim)(k:aF F ts (ρ.set i (some (.lst (ds++[d])))) S1=r):aF F (.cons (.app i c) ts) ρ S=r:=nx (CD hl h hs hz) k
theorem Dz{i:Nat}{c:C}{es:List Dt}(hl:ρ[i]?=some (some (.lst ds)))(h:ev F c ρ S= .ok (.lst es,S1))(hs:lk c<=1)(hz:ds.length+es.length<=lim)(k:aF F ts (ρ.set i (some (.lst (ds++es)))) S1=r):aF F (.cons (.xtd i c) ts) ρ S=r:=nx (CF hl h hs hz) k
theorem eN{c:C}(h:ev F c ρ S= .ok (d,S1))(hd:itemsOf d=some ds):fq F (.seq c) ρ S= .ok (ds,S1):=by show (ev F c ρ S).bind (λx=>match itemsOf x.1 with|some ds=>R.ok (ds,x.2)|none=>.bad)=_;rw[h,R.ai];show (match itemsOf d with|some ds=>R.ok (ds,S1)|none=>.bad)=_;rw[hd]
theorem dO{c:C}{n:Nat}(h:ev F c ρ S= .ok (.int n,S1))(hn:n<=lim):fq F (.rng1 c) ρ S= .ok (bf 0 n,S1):=by show (ev F c ρ S).bind (λx=>match x.1 with|.int j=>af (decide (j<=lim)&&decide (-lim<=j)) (.ok (bf 0 j.toNat,x.2))|_=>.bad)=_;rw[h,R.ai];show af (decide ((n:Int)<=lim)&&decide (-lim<=(n:Int))) (R.ok (bf 0 (n:Int).toNat,S1))=_;rw[show (decide ((n:Int)<=lim)&&decide (-lim<=(n:Int)))=true by have:lim=1000000:=rfl;simp;lia];simp
theorem Df{a b:C}{da db:Dt}{xs ys:List Dt}(ha:ev F a ρ S= .ok (da,S1))(hb:ev F b ρ S1= .ok (db,S2))(h1:bV da=some xs)(h2:bV db=some ys):fq F (.zip a b) ρ S= .ok (iJ xs ys,S2):=by show (ev F a ρ S).bind (λx=>(ev F b ρ x.2).bind λy=>match bV x.1,bV y.1 with|some xs,some ys=>R.ok (iJ xs ys,y.2)|_,_=>.bad)=_;rw[ha,R.ai,hb,R.ai];show (match bV da,bV db with|some xs,some ys=>R.ok (iJ xs ys,S2)|_,_=>.bad)=_;rw[h1,h2]
noncomputable def dI(F:FT)(e:C):aj->Sx->R (List Dt×Sx):=λρ1 S1=>(ev F e ρ1 S1).bind λy=>af (bo e y.1) (.ok ([y.1],y.2))
theorem dh{cap:List (Option Nat)}{it:pW}{tg:Tg}{cs:Cs}{e:C}{out:List Dt}(h:fq F it ρ S= .ok (ds,S1))(hl:ds.length<=lim)(hk:(decide (vk it<=1)||jh F it ρ S)=true)(hc:a9 (ck tg (c9 F cs) (dI F e) (jU cap ρ)) ds S1= .ok (out,S2)):
  ev F (.comp cap it tg cs e) ρ S= .ok (.lst out,S2):=by
 rw[ev,h,R.ai,QR hl,hk,Rb,guard_true];show (a9 (ck tg (c9 F cs) (dI F e) (jU cap ρ)) ds S1).bind _=_;rw[hc];rfl
theorem eA{tg:Tg}{e:C}{y:Dt}(hs:dG tg d ρ= .ok ρ1)(he:ev F e ρ1 S= .ok (y,S1))(hb:bo e y=true):ck tg (c9 F .nil) (dI F e) ρ d S= .ok ([y],S1):=by unfold ck dI;rw[hs,R.ai,c9,R.ai];simp only[SI,he,R.ai,hb,guard_true]
theorem turn_if{tg:Tg}{c e:C}{b:Bool}{y:Dt}(hs:dG tg d ρ= .ok ρ1)(hc:cW F c ρ1 S= .ok (b,S))(he:b=true->ev F e ρ1 S= .ok (y,S)/\bo e y=true):ck tg (c9 F (.cons c .nil)) (dI F e) ρ d S= .ok (if b=true then[y] else[],S):=by
 unfold ck dI;rw[hs,R.ai,c9,hc,R.ai];cases b with
 |false=>rfl
 |true=>simp only[SI,(he rfl).1,R.ai,(he rfl).2,guard_true]
theorem qB{k:Nat}(h:ds[k]?=some d):bW (.tup ds) (.int k)= .ok d/\bW (.lst ds) (.int k)= .ok d:=by
 have:t9 ds k= .ok d:=by unfold t9;rw[L2.jw h]
 exact⟨this,this⟩
end
mutual
theorem BP:∀m:Mx.D,pl (ofD m)=true
 |.int _=>by simp[ofD,pl]
 |.str _=>by simp[ofD,pl]
 |.tup ms=>by simp[ofD,pl,qV ms]
theorem qV:∀ms:List Mx.D,jn (aa ms)=true
 |[]=>by simp[aa,jn]
 |m::ms=>by simp[aa,jn,BP m,qV ms]
end
mutual
theorem v5:∀m:Mx.D,dp (ofD m)=Mx.D.dep m
 |.int _=>by simp[ofD,dp,Mx.D.dep]
 |.str _=>by simp[ofD,dp,Mx.D.dep]
 |.tup ms=>by simp[ofD,dp,Mx.D.dep,qp ms]
theorem qp:∀ms:List Mx.D,kU (aa ms)=Mx.D.bK ms
 |[]=>by simp[aa,kU,Mx.D.bK]
 |m::ms=>by simp[aa,kU,Mx.D.bK,v5 m,qp ms]
end
mutual
theorem aZ:∀m:Mx.D,fI (ofD m)=true
 |.int _=>by simp[ofD,fI]
 |.str _=>by simp[ofD,fI]
 |.tup ms=>by simp[ofD,fI,fV ms]
theorem fV:∀ms:List Mx.D,dQ (aa ms)=true
 |[]=>by simp[aa,dQ]
 |m::ms=>by simp[aa,dQ,aZ m,fV ms]
end
mutual
theorem Bo:∀a b:Mx.D,bS (ofD a) (ofD b)=Mx.D.fT a b
 |.int i,.int j=>by simp[ofD,bS,Mx.D.fT]
 |.str i,.str j=>by simp[ofD,bS,Mx.D.fT]
 |.tup i,.tup j=>by simp[ofD,bS,Mx.D.fT,v9 i j]
 |.int _,.str _=>by simp[ofD,bS,Mx.D.fT]
 |.int _,.tup _=>by simp[ofD,bS,Mx.D.fT]
 |.str _,.int _=>by simp[ofD,bS,Mx.D.fT]
 |.str _,.tup _=>by simp[ofD,bS,Mx.D.fT]
 |.tup _,.int _=>by simp[ofD,bS,Mx.D.fT]
 |.tup _,.str _=>by simp[ofD,bS,Mx.D.fT]
theorem v9:∀a b:List Mx.D,cC (aa a) (aa b)=Mx.D.eqs a b
 |[],[]=>by simp[aa,cC,Mx.D.eqs]
 |[],_::_=>by simp[aa,cC,Mx.D.eqs]
 |_::_,[]=>by simp[aa,cC,Mx.D.eqs]
 |a::as,b::bs=>by simp[aa,cC,Mx.D.eqs,Bo a b,v9 as bs]
end
theorem mL{a b:Mx.D}(h:Mx.D.dep a<=100):c7 .Eq (ofD a) (ofD b)= .ok (decide (a=b)):=by show af (lb (ofD a) (ofD b)) (.ok (bS (ofD a) (ofD b)))=_;rw[show lb (ofD a) (ofD b)=true by simp[lb,BP,v5,h],guard_true,Bo,Mx.D.gT]
theorem aK(a b:List Mx.D):aa (a++b)=aa a++aa b:=by simp[bb]
theorem aw(a:List Mx.D):(aa a).length=a.length:=by simp[bb]
theorem gD{pre post:List Dt}{x:Dt}{a:List Mx.D}(h:aa a=pre++x::post):∃p y q,a=p++y::q/\pre=aa p/\x=ofD y/\post=aa q:=by rw[bb]at h;obtain⟨p,r,e1,e2,e3⟩:=List.map_eq_append_iff.mp h;obtain⟨y,q,e4,e5,e6⟩:=List.map_eq_cons_iff.mp e3;exact⟨p,y,q,by rw[e1,e4],by rw[bb,e2],e5.symm,by rw[bb,e6]⟩
theorem ua{ms:List Mx.D}(h:jg ms=true):c8 .sorted [.lst (aa ms)]= .ok (.lst (aa (a6 ms)))/\c8 .sorted [.tup (aa ms)]= .ok (.lst (aa (a6 ms))):=by
 constructor
 ·show (match eW (aa ms)with|some ms=>af (jg ms) (R.ok (Dt.lst (aa (a6 ms))))|none=>.bad)=_;rw[bJ];show af (jg ms) _=_;rw[h];rfl
 ·show (match eW (aa ms)with|some ms=>af (jg ms) (R.ok (Dt.lst (aa (a6 ms))))|none=>.bad)=_;rw[bJ];show af (jg ms) _=_;rw[h];rfl
theorem Cu{ms:List Mx.D}(k:Mx.SK)(hl:ms.length<64)(hd:Mx.D.bK ms<=100)(hk:∀d∈ms,GE k d=true)(hp:∀d∈ms,∀e∈ms,kc d e=true):jg ms=true:=by
 have EY:([Mx.SK.tt,.ts,.ti,.s,.i].any λk=>ms.all (GE k))=true:=by rw[QZ];exact⟨k,by cases k<;>simp,QY.mpr hk⟩
 unfold jg;rw[EY,QR hl,QR hd];simp only[Bool.true_and,Q3,Qp];exact .inr (QY.mpr λd h=>QY.mpr λe h2=>hp d h e h2)
theorem gS{n:Nat}:∀{ms:List Mx.D},(∀d∈ms,Mx.D.dep d<=n)->Mx.D.bK ms<=n
 |[],_=>by simp[Mx.D.bK]
 |m::ms,h=>by
  have h1:=h m Qv;have h2:=gS λd hd=>h d (Qt _ hd)
  simp only[Mx.D.bK]
  lia
theorem cy(ms:List Mx.D):(a6 ms).Perm ms:=List.mergeSort_perm ..
theorem ey{d:Mx.D}{ms:List Mx.D}:d∈a6 ms↔d∈ms:=(cy ms).mem_iff
noncomputable def uq:Option Mx.D->List Mx.D->List Mx.D
 |_,[]=>[]
 |p,x::r=>if p=some x then uq (some x) r else x::uq (some x) r
theorem Et{x:Mx.D}:∀{a:List Mx.D}{p:Option Mx.D},uq p (a++[x])=uq p a++uq (a.getLast?.or p) [x]
 |[],p=>by show uq p [x]=[]++uq ((none:Option Mx.D).or p) [x];rw[Option.none_or];rfl
 |y::a,p=>by
  have e:((y::a).getLast?.or p)=(a.getLast?.or (some y)):=by
   cases a with
   |nil=>rfl
   |cons z a=>simp[List.getLast?_cons]
  rw[e,List.cons_append,uq,uq,Et];split<;>simp
theorem yI{x:Mx.D}:∀{a:List Mx.D}{p:Option Mx.D},(x∈uq p a\/p=some x)↔(x∈a\/p=some x)
 |[],p=>by simp[uq]
 |y::a,p=>by
  have ih:=yI (x:=x) (a:=a) (p:=some y);rw[uq];split
  ·rename_i h;subst h;simp only[Option.some.injEq,QA]at *;constructor
   ·intro z;rcases ih.mp z with z|z
    ·exact .inl (.inr z)
    ·exact .inr z
   ·rintro((z|z)|z)
    ·exact .inr z.symm
    ·exact ih.mpr (.inl z)
    ·exact .inr z
  ·simp only[QA,Option.some.injEq]at *;constructor
   ·rintro((z|z)|z)
    ·exact .inl (.inl z)
    ·rcases ih.mp (.inl z)with z|z
     ·exact .inl (.inr z)
     ·exact .inl (.inl z.symm)
    ·exact .inr z
   ·rintro((z|z)|z)
    ·exact .inl (.inl z)
    ·rcases ih.mpr (.inl z)with z|z
     ·exact .inl (.inr z)
     ·exact .inl (.inl z.symm)
    ·exact .inr z
theorem rB{x:Mx.D}:∀{a:List Mx.D}{p:Option Mx.D},x∈uq p a->x∈a
 |[],p,h=>by simp[uq]at h
 |y::a,p,h=>by
  rw[uq]at h;split at h
  ·exact Qt _ (rB h)
  ·rcases QA.mp h with h|h
   ·rw[h];exact Qv
   ·exact Qt _ (rB h)
variable{fs:List Fn}
noncomputable def vA(ic:Nat):Ts:=(.cons (.asg 3 (.bin .Add (.bin .Mult (.bin .Mod (.call ic (.cons (.var 0) (.cons (.var 1) .nil)) []) (.con (.int 2147483647))) (.bin .Add (.con (.int 48271)) (.bin .Mult (.con (.int 2)) (.var 1)))) (.bin .Mult (.con (.int 31)) (.var 1)))) (.cons (.ret (.bin .Mod (.bin .FloorDiv (.bin .Mod (.var 3) (.con (.int 2147483629))) (.con (.int 7))) (.var 2))) .nil))
noncomputable def bt(ns:List Int)(k many:Nat):Nat:=((((gQ ns k % 2147483647)*(48271+2*k)+31*k) % 2147483629/7) % many).toNat
theorem aW{ns:List Int}{k many:Nat}(h:0<many):bt ns k many<many:=by
 unfold bt;have h1:=Q0 (((gQ ns k % 2147483647)*(48271+2*k)+31*k) % 2147483629/7) (b:=many) ⋯;have h2:=Q1 (((gQ ns k % 2147483647)*(48271+2*k)+31*k) % 2147483629/7) (b:=many) ⋯
 lia
structure mz(fs:List Fn)(ip:Nat):Prop where
 ex:∃ic,fs[ic]?=some ⟨2,3,false,ow⟩/\fs[ip]?=some ⟨3,4,false,vA ic⟩
theorem tD{ip:Nat}(hp:mz fs ip){n:Nat}(hn:2<=n){ns:List Int}{k many:Nat}(hk:k<1000000)(hm:0<many):aA fs n ip [.aQ ns,.int k,.int many] none= .ok (.int (bt ns k many),none):=by
 obtain⟨ic,h1,h2⟩:=hp.ex;refine aB h2 ⋯ rfl ?_;show fin (aF (aA fs (n-1)) (vA ic) [some (.aQ ns),some (.int k),some (.int many),none] none)=_;have hc:=rT h1 (n:=n-1) ⋯ (ns:=ns) hk;generalize hx:gQ ns k=x at hc;have r1:=Q0 x (b:=2147483647) (by decide);have r2:=Q1 x (b:=2147483647) (by decide);have m1:=cZ (i:=x) (j:=2147483647) (by decide);have m2:=bh (i:=2) (j:=k) (.inl (by decide));have m3:=bh (i:=x % 2147483647) (j:=48271+2*k) (.inl ⋯);have m4:=bh (i:=31) (j:=k) (.inl (by decide));have m5:=cZ (i:=x % 2147483647*(48271+2*k)+31*k) (j:=2147483629) (by decide);have m6:=xA (i:=(x % 2147483647*(48271+2*k)+31*k) % 2147483629) (j:=7) (by decide) (by decide);have m7:=cZ (i:=(x % 2147483647*(48271+2*k)+31*k) % 2147483629/7) (j:=many) ⋯;refine au (d:=.int (x % 2147483647*(48271+2*k)+31*k)) (S1:=none) (by simp only[RX,hc,m1,m2,m3,m4]) rfl ?_;refine(ao (d:=_) (S1:=none) (by simp only[RX,m5,m6,m7];rfl)).trans ?_;have h1:=Q0 (((x % 2147483647)*(48271+2*k)+31*k) % 2147483629/7) (b:=many) ⋯;have e:((bt ns k many:Nat):Int)=((x % 2147483647)*(48271+2*k)+31*k) % 2147483629/7 % many:=by unfold bt;rw[hx];omega
 rw[e]
noncomputable def vz:Ts:=(.cons (.ret (.bin .Mod (.bin .Add (.bin .Add (.bin .Mult (.var 0) (.con (.int 31))) (.bin .Mult (.var 1) (.con (.int 7)))) (.con (.int 13))) (.con (.int 9973)))) .nil)
noncomputable def ma(k j:Nat):Nat:=(k*31+j*7+13) % 9973
theorem o8{k j:Nat}:ma k j<9973:=Nat.mod_lt _ (by decide)
theorem sZ{i:Nat}(hp:fs[i]?=some ⟨2,2,false,vz⟩){n:Nat}(hn:1<=n){k j:Nat}:aA fs n i [.int k,.int j] none= .ok (.int (ma k j),none):=by
 refine aB hp hn rfl ?_;show fin (aF (aA fs (n-1)) vz [some (.int k),some (.int j)] none)=_;have m1:=bh (i:=k) (j:=31) (.inr (by decide));have m2:=bh (i:=j) (j:=7) (.inr (by decide));have m3:=cZ (i:=(k:Int)*31+j*7+13) (j:=9973) (by decide);refine(ao (d:=_) (S1:=none) (by simp only[RX,m1,m2,m3];rfl)).trans ?_;have e:((ma k j:Nat):Int)=((k:Int)*31+j*7+13) % 9973:=by unfold ma;lia
 rw[e]
theorem nu{z:Str}{k:Nat}(hz:z.length<=lim)(h:k<z.length):∃c,bW (.str z) (.int k)= .ok (.str ⟨#[c]⟩):=by
 have M7:z.cps.toList.length=z.length:=by simp[Str.length]
 refine⟨z.cps.toList[k],?_⟩;show af (decide (z.length<=lim)) (match k8 z.cps.toList k with|some c=>R.ok (Dt.str ⟨#[c]⟩)|none=>.bad)=_;rw[QR hz,guard_true,L2.jw (v:=z.cps.toList[k]) (QM _)]
theorem eP{a b:Str}(h:a.length+b.length<=lim):kq .Add (.str a) (.str b)= .ok (.str (a++b)):=by show af (decide (a.length+b.length<=lim)) _=_;rw[QR h];rfl
theorem len_str{z:Str}(h:z.length<=lim):c8 .len [.str z]= .ok (.int z.length):=by show af (decide (z.length<=lim)) _=_;rw[QR h];rfl
theorem nO{z:Str}{lo hi:Option Int}(h:z.length<=lim):fM (.str z) lo hi= .ok (.str (PySem.Txt.slice z lo hi)):=by show af (decide (z.length<=lim)) _=_;rw[QR h];rfl
theorem len_cat(a b:Str):(a++b).length=a.length+b.length:=Str.length_append ..
theorem wZ{z:Str}{k:Nat}{d}(hz:z.length<=lim)(h:k<z.length):bW (.str z) (.int k)= .ok (.str ⟨#[z.cps.toList.getD k d]⟩):=by
 have M7:k<z.cps.toList.length:=by simpa [Str.length]using h
 show af (decide (z.length<=lim)) (match k8 z.cps.toList k with|some c=>R.ok (Dt.str ⟨#[c]⟩)|none=>.bad)=_;rw[QR hz,guard_true,L2.jw (v:=z.cps.toList[k]) (QM _)];rw[List.getD,QM M7];rfl
theorem rg{a b:Str}{x y}(h:a++⟨#[x]⟩++b=a++⟨#[y]⟩++b):x=y:=by
 have h2:=SD (λz:Str=>z.cps.toList) h;have e:∀u v:Str,(u++v).cps.toList=u.cps.toList++v.cps.toList:=λu v=>by show (u.cps++v.cps).toList=_;simp
 simp only[e,QC]at h2;simpa using List.append_cancel_left h2
theorem gz{α:Type}{l:List α}{d:α}(hn:l.Nodup){i j:Nat}(hi:i<l.length)(hj:j<l.length)(h:l.getD i d=l.getD j d):i=j:=by
 simp only[List.getD,QM hi,QM hj,Option.getD_some]at h;have hp:=R7.mp hn;rcases Nat.lt_trichotomy i j with z|z|z
 ·exact absurd h (hp i j hi hj z)
 ·exact z
 ·exact absurd h.symm (hp j i hj hi z)
noncomputable def rM:Ts:=(.cons (.asg 8 (.idx (.var 2) (.bin .Mod (.bin .Add (.var 6) (.bin .Mult (.con (.int 7)) (.var 4))) (.con (.int 26))))) (.cons (.app 7 (.bin .Add (.bin .Add (.sliH (.var 3) (.var 5)) (.var 8)) (.sliL (.var 3) (.var 5)))) .nil))
noncomputable def qh(ip:Nat):Ts:=(.cons (.asg 3 (.con (.str ""))) (.cons (.fr (.nm 4) (.rng1 (.call ip (.cons (.var 0) (.cons (.var 1) (.cons (.con (.int 6)) .nil))) [])) (.cons (.asg 3 (.bin .Add (.var 3) (.idx (.var 2) (.call ip (.cons (.var 0) (.cons (.bin .Add (.bin .Add (.var 1) (.bin .Mult (.con (.int 11)) (.var 4))) (.con (.int 1))) (.cons (.con (.int 26)) .nil))) [])))) .nil)) (.cons (.asg 5 (.call ip (.cons (.var 0) (.cons (.bin .Add (.var 1) (.con (.int 2))) (.cons (.bin .Add (.bi .len (.cons (.var 3) .nil)) (.con (.int 1))) .nil))) [])) (.cons (.asg 6 (.call ip (.cons (.var 0) (.cons (.bin .Add (.var 1) (.con (.int 3))) (.cons (.con (.int 26)) .nil))) [])) (.cons (.ifs (.cmp .Eq (.call ip (.cons (.var 0) (.cons (.bin .Add (.var 1) (.con (.int 4))) (.cons (.con (.int 3)) .nil))) []) (.con (.int 0))) (.cons (.asg 3 (.bin .Add (.sliH (.var 3) (.con (.int 3))) (.idx (.var 2) (.var 6)))) (.cons (.ret (.lst (.cons (.var 3) (.cons (.bin .Add (.var 3) (.idx (.var 2) (.var 5))) (.cons (.bin .Add (.bin .Add (.var 3) (.idx (.var 2) (.var 5))) (.idx (.var 2) (.var 6))) .nil))))) .nil)) .nil) (.cons (.asgM 7 (.lst .nil)) (.cons (.fr (.nm 4) (.rng1 (.con (.int 3))) rM) (.cons (.ret (.mvr 7)) .nil))))))))
theorem cD{n:Nat}{pre post:List Dt}{x:Dt}(h:bf 0 n=pre++x::post):pre.length<n/\x= .int pre.length:=by
 have hl:(bf 0 n).length=n:=by simp[bf]
 have h1:pre.length<n:=by rw[<-hl,h];simp
 refine⟨h1,?_⟩;have e:(bf 0 n)[pre.length]?=some x:=by rw[h];simp
 unfold bf at e;simp[h1]at e;exact e.symm
theorem o6{ip im:Nat}(hp:mz fs ip)(hf:fs[im]?=some ⟨3,9,false,qh ip⟩){n:Nat}(hn:3<=n){ns:List Int}{k:Nat}{L:Str}(hk:k<100000)(hL:L.length=26)(hD:L.cps.toList.Nodup):∃a b c,aA fs n im [.aQ ns,.int k,.str L] none= .ok (.lst [.str a,.str b,.str c],none)/\a≠b/\b≠c/\a≠c:=by
 have d8:lim=1000000:=rfl;have f9:=aW (ns:=ns) (k:=k) (many:=6) (by decide);have P:=λ(k many:Nat)(h1:k<1000000)(h2:0<many)=>tD hp (n:=n-1) ⋯ (ns:=ns) h1 h2
 have loop:=bD (S:=none) (tg:=.nm 4) (body:=aF (aA fs (n-1)) (.cons (.asg 3 (.bin .Add (.var 3) (.idx (.var 2) (.call ip (.cons (.var 0) (.cons (.bin .Add (.bin .Add (.var 1) (.bin .Mult (.con (.int 11)) (.var 4))) (.con (.int 1))) (.cons (.con (.int 26)) .nil))) [])))) .nil)) (ds:=bf 0 (bt ns k 6))
  (ρ:=[some (.aQ ns),some (.int k),some (.str L),some (.str ""),none,none,none,none,none])
  (λpre ρ=>∃w jv,w.length<=pre.length/\ρ=[some (.aQ ns),some (.int k),some (.str L),some (.str w),jv,none,none,none,none]) ⟨"",none,Qu _,rfl⟩ (by
   rintro pre x post ρ e ⟨w,jv,hw,rfl⟩;obtain⟨h1,rfl⟩:=cD e;have M0:=P (k+11*pre.length+1) 26 ⋯ (by decide);have cU:=aW (ns:=ns) (k:=k+11*pre.length+1) (many:=26) (by decide);obtain⟨c,hc⟩:=nu (z:=L) (k:=bt ns (k+11*pre.length+1) 26) ⋯ ⋯;have m1:=bh (i:=11) (j:=pre.length) (.inl (by decide));have ca:=eP (a:=w) (b:=⟨#[c]⟩) (by show w.length+1<=lim;lia);refine⟨_,_,rfl,aS (d:=.str (w++⟨#[c]⟩)) (S1:=none) ?_ rfl rfl,w++⟨#[c]⟩,_,?_,rfl⟩
   ·rw[show ((k+11*pre.length+1:Nat):Int)=(k:Int)+11*pre.length+1 by lia]at M0;simp only[RX,m1];rw[show ([Dt.aQ ns,.int ((k:Int)+11*pre.length+1),.int 26]:List Dt)=[.aQ ns,.int ((k:Int)+11*pre.length+1),.int (26:Nat)] from rfl,M0];simp only[RX,hc,ca]
   ·rw[len_cat,QE];show w.length+1<=_;simp;lia)
 obtain⟨ρ1,bI,w,jv,hw,rfl⟩:=loop;have Jc:w.length<=5:=by
  have:(bf 0 (bt ns k 6)).length=bt ns k 6:=by simp[bf]
  lia
 have p2:=P (k+2) (w.length+1) ⋯ ⋯;have l2:=aW (ns:=ns) (k:=k+2) (many:=w.length+1) ⋯;have p3:=P (k+3) 26 ⋯ (by decide);have l3:=aW (ns:=ns) (k:=k+3) (many:=26) (by decide);have p4:=P (k+4) 3 ⋯ (by decide);generalize bt ns (k+2) (w.length+1)=at' at p2 l2;generalize bt ns (k+3) 26=fi at p3 l3;generalize bt ns (k+4) 3=q4 at p4;have hlen:=len_str (z:=w) ⋯;obtain⟨cf,MM⟩:=nu (z:=L) (k:=fi) ⋯ ⋯;obtain⟨ca,ML⟩:=nu (z:=L) (k:=at') ⋯ ⋯;have s3:=nO (z:=w) (lo:=none) (hi:=some 3) ⋯;have e3:=PySem.Txt.slice_le w none (some 3);generalize PySem.Txt.slice w none (some 3)=w3 at s3 e3;have P2:((26:Nat):Int)=26:=rfl;have head:∃a b c,fin (aF (aA fs (n-1)) (qh ip) [some (.aQ ns),some (.int k),some (.str L),none,none,none,none,none,none] none)= .ok (.lst [.str a,.str b,.str c],none)/\a≠b/\b≠c/\a≠c:=by
  by_cases h4:q4=0
  ·subst h4;have c1:=eP (a:=w3) (b:=⟨#[cf]⟩) (by show w3.length+1<=lim;lia);have c2:=eP (a:=w3++⟨#[cf]⟩) (b:=⟨#[ca]⟩) (by rw[len_cat];show w3.length+1+1<=lim;lia);have c3:=eP (a:=w3++⟨#[cf]⟩++⟨#[ca]⟩) (b:=⟨#[cf]⟩) (by rw[len_cat,len_cat];show w3.length+1+1+1<=lim;lia);refine⟨w3++⟨#[cf]⟩,w3++⟨#[cf]⟩++⟨#[ca]⟩,w3++⟨#[cf]⟩++⟨#[ca]⟩++⟨#[cf]⟩,?_,λz=>?_,λz=>?_,λz=>?_⟩
   rotate_left
   ·have:=SD Str.length z;simp only[len_cat]at this;have:(⟨#[ca]⟩:Str).length=1:=rfl;lia
   ·have:=SD Str.length z;simp only[len_cat]at this;have:(⟨#[cf]⟩:Str).length=1:=rfl;lia
   ·have:=SD Str.length z;simp only[len_cat]at this;have:(⟨#[cf]⟩:Str).length=1:=rfl;lia
   refine au (d:=.str "") (S1:=none) rfl rfl (bg (ds:=bf 0 (bt ns k 6)) (S1:=none) (dO (by simp only[RX];exact SD (R.bind · _) (P k 6 ⋯ (by decide))) ⋯) rfl bI ?_);refine au (d:=.int at') (S1:=none) (by simp only[RX,hlen];exact SD (R.bind · _) p2) rfl ?_;refine au (d:=.int fi) (S1:=none) (by simp only[RX];exact SD (R.bind · _) p3) rfl ?_;refine dJ (S1:=none) (by simp only[RX];rw[show aA fs (n-1) ip [.aQ ns,.int ((k:Int)+4),.int 3] none=_ from p4];rfl) ?_;refine au (d:=.str (w3++⟨#[cf]⟩)) (S1:=none) (by simp only[RX,s3,MM,c1]) rfl ?_;exact ao (by simp only[RX,ML,MM,c2,c3])
  ·have l4:=λj:Nat=>Nat.mod_lt (fi+7*j) (y:=26) (by decide)
   have s5:=nO (z:=w) (lo:=none) (hi:=some (at':Int)) ⋯;have e5:=PySem.Txt.slice_le w none (some (at':Int));have s6:=nO (z:=w) (lo:=some (at':Int)) (hi:=none) ⋯;have e6:=PySem.Txt.slice_le w (some (at':Int)) none;generalize PySem.Txt.slice w none (some (at':Int))=wa at s5 e5;generalize PySem.Txt.slice w (some (at':Int)) none=wb at s6 e6;have hl:L.cps.toList.length=26:=by rw[<-hL];simp[Str.length]
   have GP:=bD (S:=none) (tg:=.nm 4) (body:=aF (aA fs (n-1)) rM) (ds:=bf 0 3)
    (ρ:=[some (.aQ ns),some (.int k),some (.str L),some (.str w),jv,some (.int at'),some (.int fi),some (.lst []),none])
    (λpre ρ=>∃jv s8,ρ=[some (.aQ ns),some (.int k),some (.str L),some (.str w),jv,some (.int at'),some (.int fi),some (.lst ((List.range pre.length).map λj=>Dt.str (wa++⟨#[L.cps.toList.getD ((fi+7*j) % 26) cf]⟩++wb))),s8]) ⟨jv,none,rfl⟩ (by
     rintro pre x post ρ e ⟨jv,s8,rfl⟩;obtain⟨h1,rfl⟩:=cD e;have hc:=wZ (z:=L) (k:=(fi+7*pre.length) % 26) (d:=cf) ⋯ (by have:=l4 pre.length;lia);rw[show (((fi+7*pre.length) % 26:Nat):Int)=((fi:Int)+7*pre.length) % 26 by lia]at hc;generalize hcc:L.cps.toList.getD ((fi+7*pre.length) % 26) cf=c at hc;have m1:=bh (i:=7) (j:=pre.length) (.inl (by decide));have m2:=cZ (i:=(fi:Int)+7*pre.length) (j:=26) (by decide);have c1:=eP (a:=wa) (b:=⟨#[c]⟩) (by show wa.length+1<=lim;lia);have c2:=eP (a:=wa++⟨#[c]⟩) (b:=wb) (by rw[len_cat];show wa.length+1+wb.length<=lim;lia);refine⟨_,_,rfl,aS (d:=.str ⟨#[c]⟩) (S1:=none) (by simp only[RX,m1,m2,hc]) rfl (fJ (ds:=(List.range pre.length).map λj=>Dt.str (wa++⟨#[L.cps.toList.getD ((fi+7*j) % 26) cf]⟩++wb)) (d:=.str (wa++⟨#[c]⟩++wb)) (S1:=none) rfl (by simp only[RX,s5,s6,c1,c2]) rfl (by simp;lia) rfl),some (.int pre.length),some (.str ⟨#[c]⟩),?_⟩;rw[QE,RQ,List.range_succ,Q7,List.map_singleton,hcc];rfl)
   obtain⟨ρ2,CW,Qf,s8,rfl⟩:=GP;refine⟨wa++⟨#[L.cps.toList.getD ((fi+7*0) % 26) cf]⟩++wb,wa++⟨#[L.cps.toList.getD ((fi+7*1) % 26) cf]⟩++wb,wa++⟨#[L.cps.toList.getD ((fi+7*2) % 26) cf]⟩++wb,?_,λz=>?_,λz=>?_,λz=>?_⟩
   rotate_left
   ·have:=gz hD (by rw[hl];exact l4 0) (by rw[hl];exact l4 1) (rg z);lia
   ·have:=gz hD (by rw[hl];exact l4 1) (by rw[hl];exact l4 2) (rg z);lia
   ·have:=gz hD (by rw[hl];exact l4 0) (by rw[hl];exact l4 2) (rg z);lia
   refine au (d:=.str "") (S1:=none) rfl rfl (bg (ds:=bf 0 (bt ns k 6)) (S1:=none) (dO (by simp only[RX];exact SD (R.bind · _) (P k 6 ⋯ (by decide))) ⋯) rfl bI ?_);refine au (d:=.int at') (S1:=none) (by simp only[RX,hlen];exact SD (R.bind · _) p2) rfl ?_;refine au (d:=.int fi) (S1:=none) (by simp only[RX];exact SD (R.bind · _) p3) rfl ?_;refine cA (S1:=none) (by simp only[RX];rw[show aA fs (n-1) ip [.aQ ns,.int ((k:Int)+4),.int 3] none=_ from p4];simp only[RX];simp[h4]) ?_;refine dz (d:=.lst []) (S1:=none) rfl rfl (bg (ds:=bf 0 3) (S1:=none) (dO (n:=3) rfl (by decide)) rfl CW ?_);exact ao (by simp only[RX];rfl)
 obtain⟨a,b,c,h1,h2⟩:=head;exact⟨a,b,c,aB hf ⋯ rfl h1,h2⟩
variable{fs:List Fn}
mutual
noncomputable def sm:Dt->Bool
 |.int _=>true
 |.str _=>true
 |.tup ds=>AS ds
 |.lst ds=>AS ds
 |_=>false
noncomputable def AS:List Dt->Bool
 |[]=>true
 |d::ds=>sm d&&AS ds
end
mutual
theorem BW:∀m:Mx.D,sm (ofD m)=true
 |.int _=>by simp[ofD,sm]
 |.str _=>by simp[ofD,sm]
 |.tup ms=>by simp[ofD,sm,yv ms]
theorem yv:∀ms:List Mx.D,AS (aa ms)=true
 |[]=>by simp[aa,AS]
 |m::ms=>by simp[aa,AS,BW m,yv ms]
end
theorem tO:∀{ds:List Dt}{d:Dt},AS ds=true->d∈ds->sm d=true/\dp d<=kU ds
 |d::ds,x,h,hx=>by
  simp only[AS,Qp]at h;simp only[kU];rcases QA.mp hx with rfl|hx
  ·exact⟨h.1,by lia⟩
  ·have:=tO h.2 hx;exact⟨this.1,by lia⟩
noncomputable def oy(is:Nat):Ts:=(.cons (.ifs (.bi (.isi "str") (.cons (.var 1) .nil)) (.cons (.ret (.and (.bi (.isi "str") (.cons (.var 0) .nil)) (.cmp .Eq (.var 0) (.var 1)))) .nil) .nil) (.cons (.ifs (.bi (.isi "int") (.cons (.var 1) .nil)) (.cons (.ret (.and (.bi (.isi "int") (.cons (.var 0) .nil)) (.and (.nt (.bi (.isi "bool") (.cons (.var 0) .nil))) (.cmp .Eq (.var 0) (.var 1))))) .nil) .nil) (.cons (.ifs (.or (.cmp .NotEq (.bi (.isi "list") (.cons (.var 1) .nil)) (.bi (.isi "list") (.cons (.var 0) .nil))) (.cmp .NotEq (.bi (.isi "tuple") (.cons (.var 1) .nil)) (.bi (.isi "tuple") (.cons (.var 0) .nil)))) (.cons (.ret (.con (.bl false))) .nil) .nil) (.cons (.ifs (.cmp .NotEq (.bi .len (.cons (.var 0) .nil)) (.bi .len (.cons (.var 1) .nil))) (.cons (.ret (.con (.bl false))) .nil) .nil) (.cons (.fr (.tp [2,3]) (.zip (.var 0) (.var 1)) (.cons (.ifs (.nt (.call is (.cons (.var 2) (.cons (.var 3) .nil)) [])) (.cons (.ret (.con (.bl false))) .nil) .nil) .nil)) (.cons (.ret (.con (.bl true))) .nil))))))
theorem vd{ds pre post:List Dt}{x:Dt}(h:iJ ds ds=pre++x::post):∃y∈ds,x= .tup [y,y]:=by
 have hx:x∈iJ ds ds:=by rw[h];simp
 unfold iJ at hx;have:List.zipWith (λx y=>Dt.tup [x,y]) ds ds=ds.map λy=>Dt.tup [y,y]:=by
  clear h hx
  induction ds with
  |nil=>rfl
  |cons d ds ih=>simp[ih]
 rw[this,QX]at hx;obtain⟨y,h1,h2⟩:=hx;exact⟨y,h1,h2.symm⟩
theorem tM{is:Nat}(hf:fs[is]?=some ⟨2,4,false,oy is⟩):∀(n:Nat)(d:Dt),sm d=true->dp d<n->aA fs n is [d,d] none= .ok (.bl true,none)
 |0,d,_,h=>by lia
 |n+1,d,h,hd=>by
  have ih:=tM hf n;have main:∀ds:List Dt,AS ds=true->kU ds<n->(d= .tup ds\/d= .lst ds)->aA fs (n+1) is [d,d] none= .ok (.bl true,none):=by
   intro ds hs hl hd;have hlen:c8 .len [d]= .ok (.int ds.length):=by rcases hd with rfl|rfl<;>rfl
   have IZ:bV d=some ds:=by rcases hd with rfl|rfl<;>rfl
   have i1:c8 (.isi "str") [d]= .ok (.bl false):=by rcases hd with rfl|rfl<;>rfl
   have i2:c8 (.isi "int") [d]= .ok (.bl false):=by rcases hd with rfl|rfl<;>rfl
   have i3:(∃b,c8 (.isi "list") [d]= .ok (.bl b))/\∃b,c8 (.isi "tuple") [d]= .ok (.bl b):=by rcases hd with rfl|rfl<;>exact⟨⟨_,rfl⟩,⟨_,rfl⟩⟩
   obtain⟨⟨b3,i3⟩,⟨b4,i4⟩⟩:=i3;have e3:∀b:Bool,c7 .NotEq (.bl b) (.bl b)= .ok false:=λb=>by cases b<;>rfl
   have loop:=bD (S:=none) (tg:=.tp [2,3]) (body:=aF (aA fs n) (.cons (.ifs (.nt (.call is (.cons (.var 2) (.cons (.var 3) .nil)) [])) (.cons (.ret (.con (.bl false))) .nil) .nil) .nil)) (ds:=iJ ds ds)
    (ρ:=[some d,some d,none,none]) (λpre ρ=>∃a b,ρ=[some d,some d,a,b]) ⟨none,none,rfl⟩ (by
     rintro pre x post ρ e ⟨a,b,rfl⟩;obtain⟨y,hy,rfl⟩:=vd e;have:=tO hs hy;have hc:=ih y this.1 ⋯;exact⟨[some d,some d,some y,some y],_,rfl,kn (S1:=none) (by simp only[RX,hc];rfl) rfl,some y,some y,rfl⟩)
   obtain⟨ρ1,bI,a,b,rfl⟩:=loop;refine aB hf ⋯ rfl ?_;show fin (aF (aA fs n) (oy is) [some d,some d,none,none] none)=_;refine cA (S1:=none) (by simp only[RX,i1]) (cA (S1:=none) (by simp only[RX,i2]) (cA (S1:=none) (by simp only[RX,i3,i4,e3];rfl) (cA (S1:=none) (by simp only[RX,hlen];simp) ?_)));refine bg (ds:=iJ ds ds) (S1:=none) (Df (S1:=none) (S2:=none) rfl rfl IZ IZ) rfl bI (ao rfl)
  cases d with
  |str x=>refine aB hf ⋯ rfl ?_;show fin (aF (aA fs n) (oy is) [some (.str x),some (.str x),none,none] none)=_;have i1:c8 (.isi "str") [.str x]= .ok (.bl true):=rfl;exact dJ (S1:=none) (by simp only[RX,i1]) (ao (by simp only[RX,i1];simp))
  |int x=>refine aB hf ⋯ rfl ?_;show fin (aF (aA fs n) (oy is) [some (.int x),some (.int x),none,none] none)=_;have i1:c8 (.isi "str") [.int x]= .ok (.bl false):=rfl;have i2:c8 (.isi "int") [.int x]= .ok (.bl true):=rfl;have i3:c8 (.isi "bool") [.int x]= .ok (.bl false):=rfl;exact cA (S1:=none) (by simp only[RX,i1]) (dJ (S1:=none) (by simp only[RX,i2]) (ao (by simp only[RX,i2,i3,Bool.not_false];simp)))
  |tup ds=>exact main ds (by simpa [sm]using h) (by simp only[dp]at hd;lia) (.inl rfl)
  |lst ds=>exact main ds (by simpa [sm]using h) (by simp only[dp]at hd;lia) (.inr rfl)
  |_=>simp[sm]at h
noncomputable def cF(x:Str):Mx.D:=.tup [.str "any",.str x]
noncomputable def ofT(x:Str)(ps:List Mx.D):Mx.D:=.tup [.str "of",.str x,.tup ps]
noncomputable def B5(Q:Mx.D->Prop)(it:Mx.D):Prop:=(∃x,it=cF x)\/∃x ps,it=ofT x ps/\ps.length<=3/\∀p∈ps,Q p
noncomputable def Mk(Q:Mx.D->Prop)(r:Mx.D):Prop:=∃it c,r= .tup [it,.int c]/\B5 Q it
noncomputable def Ir:Nat->Mx.D->Prop
 |0,_=>False
 |n+1,d=>∃rs,d= .tup rs/\rs.length<=4/\∀r∈rs,Mk (Ir n) r
theorem qK:∀{xs ys:List Mx.D},(∀x∈xs,∀y∈ys,kc x y=true)->ib xs ys=true
 |[],_,_=>by simp[ib]
 |_::_,[],_=>by simp[ib]
 |x::xs,y::ys,h=>by simp only[ib,Qp];exact⟨h x Qv y Qv,qK λa ha b hb=>h a (Qt _ ha) b (Qt _ hb)⟩
theorem j9{ds:List Dt}{d:Dt}:bW (.lst (ds++[d])) (.int (-1))= .ok d:=by show t9 (ds++[d]) (-1)=_;unfold t9;rw[Mx.ot]
theorem Ac{n:Nat}:kZ (n+1) (-1)=some n:=by
 unfold kZ;rw[SF (by decide),SH ⋯];congr 1
 lia
theorem ne_nil{ds:List Dt}{d:Dt}(h1:jn (ds++[d])=true)(h2:kU (ds++[d])<100):c7 .NotEq (.lst (ds++[d])) (.lst [])= .ok true:=by show af (lb (.lst (ds++[d])) (.lst [])) (.ok (!bS (.lst (ds++[d])) (.lst [])))=_;rw[show lb (.lst (ds++[d])) (.lst [])=true by simp[lb,pl,jn,dp,h1];lia,guard_true];cases ds<;>simp[bS,cC]
theorem xg{α:Type}:∀l:List α,l=[]\/∃a x,l=a++[x]
 |[]=>.inl rfl
 |x::l=>.inr ⟨(x::l).dropLast,(x::l).getLast (by simp),(List.dropLast_concat_getLast (by simp)).symm⟩
theorem AO{α:Type}(a:List α)(x y:α){n:Nat}(h:n=a.length):(a++[x]).set n y=a++[y]:=by subst h;simp
variable{fs:List Fn}
theorem se{F:FT}{c:C}{ρ:aj}{S S1:Sx}{d:Dt}{b:Bool}(h:ev F c ρ S= .ok (d,S1))(hd:fI d=true):(b||jh F (.seq c) ρ S)=true:=by
 have:jh F (.seq c) ρ S=true:=by unfold jh;rw[h];exact hd
 rw[this,Ri]
variable{fs:List Fn}
noncomputable def rL(ic:Nat):Ts:=(.cons (.app 3 (.tup (.cons (.idx (.idx (.var 2) (.var 4)) (.con (.int 0))) (.cons (.bin .Mult (.idx (.idx (.var 2) (.var 4)) (.con (.int 1))) (.bin .Add (.con (.int 1)) (.bin .Mod (.call ic (.cons (.var 0) (.cons (.bin .Add (.var 1) (.var 4)) .nil)) []) (.bin .Pow (.con (.int 10)) (.con (.int 8)))))) .nil)))) .nil)
noncomputable def vy(ic:Nat):Ts:=(.cons (.asgM 3 (.lst .nil)) (.cons (.fr (.nm 4) (.rng1 (.bi .len (.cons (.var 2) .nil))) (rL ic)) (.cons (.ret (.bi .tuple (.cons (.mvr 3) .nil))) .nil)))
theorem FK{ic ig:Nat}(hc:fs[ic]?=some ⟨2,3,false,ow⟩)(hf:fs[ig]?=some ⟨3,5,false,vy ic⟩){N k n:Nat}(hN:2<=N)(hk:k<100000){ns:List Int}{rs:List Mx.D}(h:Ir n (.tup rs)):∃qs,aA fs N ig [.aQ ns,.int k,.tup (aa rs)] none= .ok (.tup (aa qs),none)/\Ir n (.tup qs):=by
 have d8:lim=1000000:=rfl;obtain⟨n,rfl⟩:∃m,n=m+1:=by cases n with|zero=>exact h.elim|succ m=>exact⟨m,rfl⟩
 obtain⟨Pk,e,hl,hr⟩:=h;cases e;have loop:=bD (S:=none) (tg:=.nm 4) (ds:=bf 0 rs.length) (ρ:=[some (.aQ ns),some (.int k),some (.tup (aa rs)),some (.lst []),none])
  (body:=aF (aA fs (N-1)) (rL ic))
  (λpre ρ=>∃ms x,ms.length=pre.length/\(∀m∈ms,Mk (Ir n) m)/\ρ=[some (.aQ ns),some (.int k),some (.tup (aa rs)),some (.lst (aa ms)),x]) ⟨[],none,rfl,by simp,by simp[aa]⟩ (by
   rintro pre x post ρ e ⟨ms,x,n0,hm,rfl⟩;obtain⟨h1,rfl⟩:=cD e;obtain⟨it,c,e1,hi⟩:=hr rs[pre.length] (RI h1);have lg:=(qB (ds:=aa rs) (k:=pre.length) (d:=.tup [ofD it,.int c]) (by rw[bb,QH,QM h1,e1];simp[ofD,aa])).1;have Bx:=rT hc (n:=N-1) ⋯ (ns:=ns) (k:=k+pre.length) ⋯;generalize gQ ns (k+pre.length)=y at Bx;have Kq:aA fs (N-1) ic [.aQ ns,.int ((k:Int)+pre.length)] none= .ok (.int y,none):=Bx;have pw:kq .Pow (.int 10) (.int 8)= .ok (.int 100000000):=rfl;have m1:=cZ (i:=y) (j:=100000000) (by decide);have r1:=Q0 y (b:=100000000) (by decide);have r2:=Q1 y (b:=100000000) (by decide);have m2:=bh (i:=c) (j:=1+y % 100000000) (.inr ⋯);refine⟨_,_,rfl,fJ (ds:=aa ms) (d:=.tup [ofD it,.int (c*(1+y % 100000000))]) (S1:=none) rfl (by simp only[RX,lg,Kq,pw,m1,m2]) rfl (by rw[aw];lia) rfl,ms++[.tup [it,.int (c*(1+y % 100000000))]],some (.int pre.length),by simp[n0],λm hm'=>?_,?_⟩
   ·rcases QK.mp hm' with hm'|hm'
    ·exact hm m hm'
    ·rw[QW]at hm';subst hm';exact⟨it,_,rfl,hi⟩
   ·rw[aK];simp[ofD,aa])
 obtain⟨ρ1,bI,ms,x,n0,hm,rfl⟩:=loop;refine⟨ms,aB hf ⋯ rfl ?_,ms,rfl,by rw[n0];simp[bf];lia,hm⟩;show fin (aF (aA fs (N-1)) (vy ic) [some (.aQ ns),some (.int k),some (.tup (aa rs)),none,none] none)=_;exact dz (d:=.lst []) (S1:=none) rfl rfl (bg (ds:=bf 0 rs.length) (S1:=none) (dO (n:=rs.length) (by simp only[RX,aw]) ⋯) rfl bI (ao (by simp only[RX])))
noncomputable def aU:Mx.D->List Mx.D
 |.tup [_,_,.tup ps]=>ps
 |_=>[]
noncomputable def jo(f:Mx.D->List Mx.D):Mx.D->List Mx.D
 |.tup [it,_]=>it::(aU it).flatMap f
 |_=>[]
noncomputable def iT:Nat->Mx.D->List Mx.D
 |n+1,.tup rs=>rs.flatMap (jo (iT n))
 |_,_=>[]
theorem oI{α β:Type}{f:α->List β}{k:Nat}:∀{l:List α},(∀x∈l,(f x).length<=k)->(l.flatMap f).length<=l.length*k
 |[],_=>by simp
 |x::l,h=>by
  have h1:=h x Qv;have h2:=oI λy hy=>h y (Qt _ hy)
  rw[RC,QE,QG,Sl]
  lia
noncomputable def jT:Ts:=(.cons (.ifs (.cmp .Eq (.idx (.var 0) (.con (.int 0))) (.con (.str "of"))) (.cons (.ret (.idx (.var 0) (.con (.int 2)))) .nil) .nil) (.cons (.ret (.tup .nil)) .nil))
theorem jS(x:Str):ofD (cF x)= .tup [.str "any",.str x]:=by simp[cF,ofD,aa]
theorem ko(x:Str)(ps:List Mx.D):ofD (ofT x ps)= .tup [.str "of",.str x,.tup (aa ps)]:=by simp[ofT,ofD,aa]
theorem xE{ip N:Nat}(hf:fs[ip]?=some ⟨1,1,false,jT⟩)(hN:1<=N){Q:Mx.D->Prop}{it:Mx.D}(h:B5 Q it):aA fs N ip [ofD it] none= .ok (.tup (aa (aU it)),none):=by
 refine aB hf hN rfl ?_;rcases h with ⟨x,rfl⟩|⟨x,ps,rfl,_⟩
 ·rw[jS];show fin (aF (aA fs (N-1)) jT [some (.tup [.str "any",.str x])] none)=_;exact cA (S1:=none) (by simp only[RX];rfl) (ao (by simp[RX,cF,aU,aa]))
 ·rw[ko];show fin (aF (aA fs (N-1)) jT [some (.tup [.str "of",.str x,.tup (aa ps)])] none)=_;exact dJ (S1:=none) (by simp only[RX];rfl) (ao (by simp only[RX];rfl))
theorem ix{a b:List Dt}(h:a.length+b.length<=lim):kq .Add (.lst a) (.lst b)= .ok (.lst (a++b)):=by show af (decide (a.length+b.length<=lim)) _=_;rw[QR h];rfl
theorem pf{a b:List Mx.D}(h:aa a=aa b):a=b:=by have:=bJ a;rw[h,bJ]at this;exact(So this).symm
theorem iP{tg:Tg}{body:aj->Sx->RS}{ds:List Mx.D}{ρ:aj}{S:Sx}(P:List Mx.D->aj->Prop)(h0:P [] ρ)
  (step:∀pre x post ρ,ds=pre++x::post->P pre ρ->∃ρ1 ρ2,dG tg (ofD x) ρ= .ok ρ1/\body ρ1 S= .ok (.next,ρ2,S)/\P (pre++[x]) ρ2):∃ρ',forL tg body (aa ds) ρ S= .ok (.next,ρ',S)/\P ds ρ':=by
 obtain⟨ρ',h1,p,h2,h3⟩:=bD (S:=S) (tg:=tg) (body:=body) (ds:=aa ds) (ρ:=ρ) (λpre ρ=>∃p,pre=aa p/\P p ρ) ⟨[],by simp[aa],h0⟩ (by
  rintro pre x post ρ e ⟨p,e0,hp⟩;obtain⟨p',y,q,e1,e2,rfl,rfl⟩:=gD e;have ep:p=p':=pf (e0.symm.trans e2);subst ep;obtain⟨ρ1,ρ2,s1,s2,s3⟩:=step p y q ρ e1 hp;exact⟨ρ1,ρ2,s1,s2,p++[y],by rw[e2,aK];simp[aa],s3⟩)
 exact⟨ρ',h1,pf h2▸h3⟩
variable{fs:List Fn}
noncomputable def vo(L:Nat)(Q:Mx.D->Prop)(it:Mx.D):Prop:=(∃x,it=cF x)\/∃x ps,it=ofT x ps/\ps.length<=L/\∀p∈ps,Q p
noncomputable def row(it:Mx.D)(c:Int):Mx.D:=.tup [it,.int c]
noncomputable def p9(L:Nat)(P:Int->Prop)(Q:Mx.D->Prop)(r:Mx.D):Prop:=∃it c,r=row it c/\P c/\vo L Q it
noncomputable def Bd(L:Nat)(P:Int->Prop):Nat->Mx.D->Prop
 |0,_=>False
 |n+1,d=>∃rs,d= .tup rs/\rs.length<=L/\∀r∈rs,p9 L P (Bd L P n) r
section
variable{L L':Nat}{P P':Int->Prop}
theorem vY{m:Nat}{it:Mx.D}{Q:Mx.D->Prop}(hQ:∀d,Q d->Mx.D.dep d<=m)(h:vo L Q it):Mx.D.dep it<=m+2:=by
 rcases h with ⟨x,rfl⟩|⟨x,ps,rfl,_,hp⟩
 ·simp[cF,Mx.D.dep,Mx.D.bK]
 ·have:=gS λp iR=>hQ p (hp p iR)
  simp[ofT,Mx.D.dep,Mx.D.bK]
  lia
theorem vZ{m:Nat}{r:Mx.D}{Q:Mx.D->Prop}(hQ:∀d,Q d->Mx.D.dep d<=m)(h:p9 L P Q r):Mx.D.dep r<=m+3:=by
 obtain⟨it,c,rfl,_,hi⟩:=h;have:=vY hQ hi;simp[row,Mx.D.dep,Mx.D.bK]
 lia
theorem jd:∀{n:Nat}{d:Mx.D},Bd L P n d->Mx.D.dep d<=4*n
 |0,d,h=>h.elim
 |n+1,d,⟨rs,e,_,h⟩=>by
  subst e;have:Mx.D.bK rs<=4*n+3:=gS λr hr=>vZ (λd hd=>jd hd) (h r hr)
  simp only[Mx.D.dep]
  lia
theorem GN{Q Q':Mx.D->Prop}{a b:Mx.D}(hq:∀p q,Q p->Q' q->kc p q=true)(ha:vo L Q a)(hb:vo L' Q' b):kc a b=true:=by
 rcases ha with ⟨x,rfl⟩|⟨x,ps,rfl,_,hp⟩<;>rcases hb with ⟨y,rfl⟩|⟨y,qs,rfl,_,E0⟩
 ·simp[cF,kc,ib]
 ·simp[cF,ofT,kc,ib]
 ·simp[cF,ofT,kc,ib]
 ·simp only[ofT,kc,ib,Bool.true_and,Rb];exact qK λp f9 q KB=>hq p q (hp p f9) (E0 q KB)
theorem BF{Q Q':Mx.D->Prop}{a b:Mx.D}(hq:∀p q,Q p->Q' q->kc p q=true)(ha:p9 L P Q a)(hb:p9 L' P' Q' b):kc a b=true:=by obtain⟨i,c,rfl,_,hi⟩:=ha;obtain⟨j,d,rfl,_,hj⟩:=hb;simp only[row,kc,ib,Rb];exact GN hq hi hj
theorem GM:∀{n m:Nat}{a b:Mx.D},Bd L P n a->Bd L' P' m b->kc a b=true
 |0,_,_,_,h,_=>h.elim
 |_+1,0,_,_,_,h=>h.elim
 |n+1,m+1,a,b,⟨rs,e1,_,h1⟩,⟨qs,e2,_,h2⟩=>by subst e1 e2;simp only[kc];exact qK λr hr q hq=>BF (λp q hp hq=>GM hp hq) (h1 r hr) (h2 q hq)
theorem Fx{n:Nat}{ms:List Mx.D}(hn:n<=20)(hl:ms.length<64)(h:∀m∈ms,p9 L P (Bd L P n) m):jg ms=true:=by
 refine Cu .tt hl (gS λd hd=>?_) (λd hd=>?_) λd hd e he=>BF (λp q hp hq=>GM hp hq) (h d hd) (h e he)
 ·have:=vZ (λd hd=>jd hd) (h d hd)
  lia
 ·obtain⟨it,c,rfl,_,hi⟩:=h d hd;rcases hi with ⟨x,rfl⟩|⟨x,ps,rfl,_⟩<;>rfl
end
noncomputable def eM:Mx.D->Mx.D
 |.tup (it::_)=>it
 |d=>d
noncomputable def lM:Mx.D->Int
 |.tup [_,.int c]=>c
 |_=>0
theorem aO(it:Mx.D)(c:Int):eM (row it c)=it:=rfl
theorem aP(it:Mx.D)(c:Int):lM (row it c)=c:=rfl
noncomputable def gr(it:Mx.D)(c:Int):List Mx.D->List Mx.D
 |[]=>[row it c]
 |r::rs=>if it=eM r then gr (eM r) (c+lM r) rs else row it c::gr (eM r) (lM r) rs
noncomputable def pX:List Mx.D->List Mx.D
 |[]=>[]
 |r::rs=>gr (eM r) (lM r) rs
noncomputable def cg(ms:List Mx.D):List Mx.D:=pX (a6 ms)
theorem nh(r:Mx.D):∀(rs:List Mx.D)(it:Mx.D)(c:Int),∃init fA c',gr it c rs=init++[row fA c']/\gr it c (rs++[r])=if fA=eM r then init++[row (eM r) (c'+lM r)] else init++[row fA c']++[row (eM r) (lM r)]
 |[],it,c=>⟨[],it,c,rfl,by simp only[R4,gr];split<;>rfl⟩
 |s::rs,it,c=>by
  simp only[List.cons_append,gr];by_cases h:it=eM s
  ·rw[SH h,SH h];exact nh r rs _ _
  ·rw[SF h,SF h];obtain⟨init,fA,c',h1,h2⟩:=nh r rs (eM s) (lM s);refine⟨row it c::init,fA,c',by rw[h1];rfl,?_⟩;rw[h2];split<;>rfl
theorem m9:∀(rs:List Mx.D)(it:Mx.D)(c:Int),(gr it c rs).length<=rs.length+1
 |[],it,c=>by simp[gr]
 |r::rs,it,c=>by
  rw[gr];split
  ·have:=m9 rs (eM r) (c+lM r);rw[QG];lia
  ·have:=m9 rs (eM r) (lM r);rw[QG,QG];lia
theorem gY:∀(rs:List Mx.D)(it:Mx.D)(c:Int),(gr it c rs).map eM=it::uq (some it) (rs.map eM)
 |[],it,c=>by simp[gr,uq,aO]
 |r::rs,it,c=>by
  rw[gr,Q6,uq];by_cases h:it=eM r
  ·rw[SH h,SH (by rw[h]),gY rs,h]
  ·rw[SF h,SF (λz=>h (So z)),Q6,gY rs,aO]
theorem ng{S:Mx.D->Prop}(hS:∀it c d,S (row it c)->0<c->0<d->S (row it (c+d))):∀(rs:List Mx.D)(it:Mx.D)(c:Int),S (row it c)->0<c->(∀r∈rs,S r/\∃i k,r=row i k/\0<k)->∀r∈gr it c rs,S r/\∃i k,r=row i k/\0<k
 |[],it,c,h,hc,_,r,hr=>by simp only[gr,QW]at hr;subst hr;exact⟨h,it,c,rfl,hc⟩
 |q::rs,it,c,h,hc,hs,r,hr=>by
  obtain⟨hq,i,k,e,hk⟩:=hs q Qv;subst e;have BD:∀r∈rs,S r/\∃i k,r=row i k/\0<k:=λr hr=>hs r (Qt _ hr)
  rw[gr,aO,aP]at hr;split at hr
  ·rename_i e;subst e;exact ng hS rs it (c+k) (hS _ _ _ h hc hk) ⋯ BD r hr
  ·rcases QA.mp hr with rfl|hr
   ·exact⟨h,it,c,rfl,hc⟩
   ·exact ng hS rs i k hq hk BD r hr
theorem wz(ms:List Mx.D):(cg ms).length<=ms.length:=by
 unfold cg;have:=(cy ms).length_eq;cases h:a6 ms with
 |nil=>simp[pX]
 |cons r rs=>rw[h]at this;rw[<-this];exact m9 rs _ _
theorem qu{ms:List Mx.D}(x:Mx.D):x∈(cg ms).map eM↔x∈ms.map eM:=by
 unfold cg;have e:x∈(a6 ms).map eM↔x∈ms.map eM:=((cy ms).map eM).mem_iff;rw[<-e];cases a6 ms with
 |nil=>rfl
 |cons r rs=>
  show x∈(gr (eM r) (lM r) rs).map eM↔_;rw[gY,Q6,QA,QA];have:=yI (x:=x) (a:=rs.map eM) (p:=some (eM r));constructor
  ·rintro(h|h)
   ·exact .inl h
   ·exact(this.mp (.inl h)).elim .inr λz=>.inl (So z).symm
  ·rintro(h|h)
   ·exact .inl h
   ·exact(this.mpr (.inl h)).elim .inr λz=>.inl (So z).symm
theorem uB{S:Mx.D->Prop}(hS:∀it c d,S (row it c)->0<c->0<d->S (row it (c+d))){ms:List Mx.D}(hs:∀r∈ms,S r/\∃i k,r=row i k/\0<k):∀r∈cg ms,S r/\∃i k,r=row i k/\0<k:=by
 unfold cg;have BD:∀r∈a6 ms,S r/\∃i k,r=row i k/\0<k:=λr hr=>hs r (ey.mp hr)
 cases h:a6 ms with
 |nil=>intro r hr;cases hr
 |cons q rs=>rw[h]at BD;obtain⟨h1,i,k,e,hk⟩:=BD q Qv;subst e;exact ng hS rs i k h1 hk λr hr=>BD r (Qt _ hr)
noncomputable def Fq(t:C):Ts:=(.cons (.ifs (.and t (.cmp .Eq (.idx (.idx (.mvr 1) (.neg (.con (.int 1)))) (.con (.int 0))) (.var 2))) (.cons (.rd 1 (.neg (.con (.int 1))) (.tup (.cons (.var 2) (.cons (.bin .Add (.idx (.idx (.mvr 1) (.neg (.con (.int 1)))) (.con (.int 1))) (.var 3)) .nil)))) .nil) (.cons (.app 1 (.tup (.cons (.var 2) (.cons (.var 3) .nil)))) .nil)) .nil)
noncomputable def JR(t:C):Ts:=(.cons (.asgM 1 (.lst .nil)) (.cons (.fr (.tp [2,3]) (.seq (.bi .sorted (.cons (.var 0) .nil))) (Fq t)) (.cons (.ret (.bi .tuple (.cons (.mvr 1) .nil))) .nil)))
theorem wD{p:List Mx.D}{it:Mx.D}{c:Int}:(pX p=[]/\p=[]/\pX (p++[row it c])=[row it c])\/∃init fA c',pX p=init++[row fA c']/\pX (p++[row it c])=if fA=it then init++[row it (c'+c)] else init++[row fA c']++[row it c]:=by
 cases p with
 |nil=>exact .inl ⟨rfl,rfl,rfl⟩
 |cons r rs=>exact .inr (nh (row it c) rs _ _)
theorem FI{ig:Nat}{t:C}(hf:fs[ig]?=some ⟨1,4,false,JR t⟩){N n L:Nat}{P:Int->Prop}(hN:1<=N)(hn:n<=20){ms:List Mx.D}(hl:ms.length<64)(h:∀m∈ms,p9 L P (Bd L P n) m)
  (ht:∀(rs:List Mx.D)(x y z:Option Dt),Mx.D.bK rs<=90->cW (aA fs (N-1)) t [x,some (.lst (aa rs)),y,z] none= .ok (!rs.isEmpty,none)):aA fs N ig [.lst (aa ms)] none= .ok (.tup (aa (cg ms)),none):=by
 have d8:lim=1000000:=rfl;have hs:=(ua (Fx hn hl h)).1;have wV:(a6 ms).length=ms.length:=(cy ms).length_eq;have IV:∀r∈a6 ms,∃it c,r=row it c/\Mx.D.dep it<=82:=λr hr=>by obtain⟨it,c,e,_,hi⟩:=h r (ey.mp hr);have:=vY (λd hd=>jd hd) hi;exact⟨it,c,e,by lia⟩
 have grows:∀{p q:List Mx.D},a6 ms=p++q->∀r∈pX p,∃it c,r=row it c/\Mx.D.dep it<=82:=λ {p q} e r hr=>by
  have hi:eM r∈(pX p).map eM:=QX.mpr ⟨r,hr,rfl⟩;have hp:∀r∈p,∃it c,r=row it c/\Mx.D.dep it<=82:=λr hr=>IV r (by rw[e];exact RW _ hr)
  have key:eM r∈p.map eM/\∃i c,r=row i c:=by
   cases p with
   |nil=>cases hr
   |cons q0 rs=>
    have hi:eM r∈(gr (eM q0) (lM q0) rs).map eM:=hi;rw[gY]at hi;refine⟨?_,?_⟩
    ·rw[Q6];rcases QA.mp hi with e|e
     ·rw[e];exact Qv
     ·exact Qt _ (rB e)
    ·have:∀(rs:List Mx.D)(it:Mx.D)(c:Int),∀r∈gr it c rs,∃i c,r=row i c:=by
      intro rs
      induction rs with
      |nil=>intro it c r hr;simp only[gr,QW]at hr;exact⟨it,c,hr⟩
      |cons q rs ih=>
       intro it c r hr;rw[gr]at hr;split at hr
       ·exact ih _ _ r hr
       ·rcases QA.mp hr with e|hr
        ·exact⟨it,c,e⟩
        ·exact ih _ _ r hr
     exact this rs _ _ r hr
  obtain⟨k1,i,c,e⟩:=key;subst e;obtain⟨q1,KB,e1⟩:=QX.mp k1;obtain⟨i',c',e2,hd⟩:=hp q1 KB;subst e2;rw[aO,aO]at e1;exact⟨i,c,rfl,by rw[<-e1];exact hd⟩
 have loop:=bD (S:=none) (tg:=.tp [2,3]) (body:=aF (aA fs (N-1)) (Fq t)) (ds:=aa (a6 ms))
  (ρ:=[some (.lst (aa ms)),some (.lst []),none,none])
  (λpre ρ=>∃p a b,pre=aa p/\ρ=[some (.lst (aa ms)),some (.lst (aa (pX p))),a,b]) ⟨[],none,none,rfl,rfl⟩ (by
   rintro pre x post ρ e ⟨p,a,b,rfl,rfl⟩;obtain⟨p',y,q,e1,e2,rfl,rfl⟩:=gD e;have:=SD eW e2;rw[bJ,bJ]at this;cases this;obtain⟨it,c,rfl,hd⟩:=IV y (by rw[e1];simp);have eL:p.length<ms.length:=by rw[<-wV,e1];simp
   have gl:(pX p).length<=p.length:=by
    cases p with
    |nil=>simp[pX]
    |cons r rs=>exact m9 rs _ _
   have gd:Mx.D.bK (pX p)<=90:=gS λd hd=>by
    obtain⟨i,c,rfl,h⟩:=grows e1 d hd;simp[row,Mx.D.dep,Mx.D.bK]
    lia
   have C7:=ht (pX p) (some (.lst (aa ms))) (some (ofD it)) (some (.int c)) gd;have eo:aa (p++[row it c])=aa p++[ofD (row it c)]:=by rw[aK];simp[aa]
   have er:ofD (row it c)= .tup [ofD it,.int c]:=by simp[row,ofD,aa]
   refine⟨[some (.lst (aa ms)),some (.lst (aa (pX p))),some (ofD it),some (.int c)],[some (.lst (aa ms)),some (.lst (aa (pX (p++[row it c])))),some (ofD it),some (.int c)],by rw[er];rfl,?_,p++[row it c],some (ofD it),some (.int c),by rw[eo],rfl⟩;rcases wD (p:=p) (it:=it) (c:=c)with ⟨g1,g2,g3⟩|⟨init,fA,c',g1,g2⟩
   ·rw[g1]at C7 ⊢;rw[g3];refine kn (S1:=none) (by simp only[RX,C7];rfl) (fJ (ds:=[]) (d:=.tup [ofD it,.int c]) (S1:=none) rfl (by simp only[RX]) rfl (by simp) ?_);simp[aa,er];rfl
   ·have IM:Mx.D.dep fA<=82:=by obtain⟨i,k,e,hd⟩:=grows e1 (row fA c') (by rw[g1];simp);have:=SD eM e;rw[aO,aO]at this;rw[this];exact hd
    have hq:=mL (a:=fA) (b:=it) ⋯;rw[g1]at C7 gl ⊢;have nr:(!(init++[row fA c']).isEmpty)=true:=by cases init<;>rfl
    rw[nr]at C7;have el:aa (init++[row fA c'])=aa init++[.tup [ofD fA,.int c']]:=by rw[aK];simp[row,ofD,aa]
    rw[el]at C7 ⊢;rw[g2];rw[QE]at gl;by_cases heq:fA=it
    ·rw[QR heq]at hq;rw[SH heq];refine qM (S1:=none) (by simp only[RX,C7,j9,hq,SI]) (nx (sj (ds:=aa init++[.tup [ofD fA,.int c']]) (d:=.tup [ofD it,.int (c'+c)]) (S1:=none) (S2:=none) (n:= -1) (j:=init.length) rfl (by simp only[RX,j9]) (by simp only[RX]) rfl (by rw[QE,aw];exact Ac)) ?_);rw[AO (aa init) _ _ (aw init).symm,aK];simp[row,ofD,aa];rfl
    ·rw[QN heq]at hq;rw[SF heq];refine kn (S1:=none) (by simp only[RX,C7,j9,hq,SI]) (fJ (ds:=aa init++[.tup [ofD fA,.int c']]) (d:=.tup [ofD it,.int c]) (S1:=none) rfl (by simp only[RX]) rfl (by rw[QE,aw];simp only[QG,RL]at gl ⊢;lia) ?_);rw[aK (init++_),el];simp[row,ofD,aa];rfl)
 obtain⟨ρ1,bI,p,a,b,e1,rfl⟩:=loop;have:=SD eW e1;rw[bJ,bJ]at this;cases this;refine aB hf hN rfl ?_;show fin (aF (aA fs (N-1)) (JR t) [some (.lst (aa ms)),none,none,none] none)=_;exact dz (d:=.lst []) (S1:=none) rfl rfl (bg (ds:=aa (a6 ms)) (S1:=none) (by simp only[RX,hs]) rfl bI (ao (by simp only[RX];rfl)))
noncomputable def Jk:C:=.cmp .NotEq (.mvr 1) (.lst .nil)
theorem L8{F:FT}(rs:List Mx.D)(x y z:Option Dt)(h:Mx.D.bK rs<=90):cW F Jk [x,some (.lst (aa rs)),y,z] none= .ok (!rs.isEmpty,none):=by
 rcases xg rs with rfl|⟨a,b,rfl⟩
 ·rfl
 ·have e:(!(a++[b]).isEmpty)=true:=by cases a<;>rfl
  have eo:aa (a++[b])=aa a++[ofD b]:=by rw[aK];simp[aa]
  have:=ne_nil (ds:=aa a) (d:=ofD b) (by rw[<-eo];exact qV _) (by rw[<-eo,qp];lia);rw[e,eo];unfold Jk;simp only[RX,this]
variable{fs:List Fn}
section
variable{F:FT}{S:Sx}{ρ:aj}
theorem we(b:BI)(e:C):ev F (.bi b (.cons e .nil)) ρ S=(ev F e ρ S).bind λx=>(c8 b [x.1]).bind λd=>.ok (d,x.2):=by simp only[RX];cases ev F e ρ S<;>rfl
theorem CC{a b:C}{i j:Int}{S1 S2:Sx}(ha:ev F a ρ S= .ok (.int i,S1))(hb:ev F b ρ S1= .ok (.int j,S2)):ev F (.bin .Add a b) ρ S= .ok (.int (i+j),S2):=by rw[ev,ha,R.ai,hb];rfl
theorem jX{f:Dt->Sx->R (List Dt×Sx)}{g:Mx.D->Dt}:∀{ms:List Mx.D},(∀m∈ms,f (ofD m) S= .ok ([g m],S))->a9 f (aa ms) S= .ok (ms.map g,S)
 |[],_=>rfl
 |m::ms,h=>by rw[aa,a9,h m Qv,R.ai,jX λy hy=>h y (Qt _ hy)];rfl
theorem ints_map(l:List Int):intsOf (l.map Dt.int)=some l:=by
 induction l with
 |nil=>rfl
 |cons x l ih=>rw[Q6,intsOf,ih];rfl
theorem Ci(l:List Int):c8 .sum [.lst (l.map Dt.int)]= .ok (.int l.sum):=by show (match intsOf (l.map Dt.int)with|some ns=>R.ok (Dt.int ns.sum)|none=>.bad)=_;rw[ints_map]
end
theorem bG(x:Str):aU (cF x)=[]:=rfl
theorem aV(x:Str)(ps:List Mx.D):aU (ofT x ps)=ps:=rfl
theorem eS{ρ:aj}{i j:Nat}(it:Mx.D)(c:Int):dG (.tp [i,j]) (ofD (row it c)) ρ= .ok ((ρ.set i (some (ofD it))).set j (some (.int c))):=by
 have e:ofD (row it c)= .tup [ofD it,.int c]:=by simp[row,ofD,aa]
 rw[e];rfl
theorem i7{l:List Int}(h:∀x∈l,0<=x):0<=l.sum:=by
 induction l with
 |nil=>simp
 |cons x l ih=>
  have:=ih λy hy=>h y (Qt _ hy)
  have:=h x Qv;rw[R8];lia
variable{fs:List Fn}
noncomputable abbrev Pos(c:Int):Prop:=0<c
variable{fs:List Fn}
section
variable{F:FT}{S:Sx}{ρ:aj}{ts:Ts}{k:Nat}
theorem Br{t:T}(h:ex F t ρ S= .ex k):fin (aF F (.cons t ts) ρ S)= .ex k:=by rw[aF,h];rfl
theorem Lh{t:T}(h:ex F t ρ S= .ex k):aF F (.cons t ts) ρ S= .ex k:=by rw[aF,h];rfl
end
variable{fs:List Fn}
theorem mM{f:Dt->Sx->R (List Dt×Sx)}{S:Sx}(g:Mx.D->List Dt):∀{ds:List Mx.D},(∀m∈ds,f (ofD m) S= .ok (g m,S))->a9 f (aa ds) S= .ok (ds.flatMap g,S)
 |[],_=>by simp[aa,a9]
 |d::ds,h=>by rw[aa,a9,h d Qv,R.ai,mM g λm hm=>h m (Qt _ hm),R.ai,RC]
theorem ET{x:Str}:∀{l:List Str},x∈dd l↔x∈l
 |[]=>by simp[dd]
 |y::l=>by
  have ih:=ET (x:=x) (l:=l);rw[dd];split
  ·rename_i h;rw[ih,QA];exact⟨.inr,λz=>z.elim (λe=>by rw[e];exact ET.mp h) id⟩
  ·rw[QA,ih,QA]
theorem iE:∀ys:List Str,strsOf (aa (ys.map Mx.D.str))=some ys
 |[]=>by simp[aa,strsOf]
 |y::ys=>by simp[aa,ofD,strsOf,iE ys]
theorem rO{ys:List Str}{d:Dt}(hd:bV d=some (aa (ys.map Mx.D.str)))(hl:ys.length<64):c8 .sset [d]= .ok (.lst (aa (a6 ((dd ys).map Mx.D.str)))):=by show (match bV d with|some ds=>(match strsOf ds with|some ys=>af (decide (ys.length<64)) (R.ok (Dt.lst (aa (a6 ((dd ys).map Mx.D.str)))))|none=>.bad)|none=>.bad)=_;rw[hd];show (match strsOf (aa (ys.map Mx.D.str))with|some ys=>af (decide (ys.length<64)) (R.ok (Dt.lst (aa (a6 ((dd ys).map Mx.D.str)))))|none=>.bad)=_;rw[iE];show af (decide (ys.length<64)) _=_;rw[QR hl];rfl
noncomputable def dg:Mx.D->List Str
 |.tup [_,.str x]=>[x]
 |_=>[]
theorem oJ{α β γ:Type}{f:α->List β}{g:β->γ}:∀l:List α,(l.flatMap λx=>(f x).map g)=(l.flatMap f).map g
 |[]=>rfl
 |x::l=>by rw[RC,RC,Q7,oJ l]
theorem qm{F:FT}{its:List Mx.D}{Q:Mx.D->Prop}(h:∀m∈its,B5 Q m):a9 (ck (.nm 1) (c9 F (.cons (.cmp .Eq (.idx (.var 1) (.con (.int 0))) (.con (.str "any"))) .nil)) (dI F (.idx (.var 1) (.con (.int 1)))) [none,none]) (aa its) none= .ok (aa ((its.flatMap dg).map Mx.D.str),none):=by
 rw[mM (λm=>aa ((dg m).map Mx.D.str)) λm hm=>?_]
 ·have:∀m:Mx.D,aa ((dg m).map Mx.D.str)=(dg m).map λx=>ofD (.str x):=λm=>by rw[bb,RU];rfl
  simp only[this];rw[oJ,bb,RU];rfl
 ·rcases h m hm with ⟨x,rfl⟩|⟨x,ps,rfl,_⟩
  ·rw[jS];exact turn_if (b:=true) (y:=.str x) (ρ1:=[none,some (.tup [.str "any",.str x])]) rfl (by simp only[RX];rfl) λ_=>⟨by simp only[RX],rfl⟩
  ·rw[ko];exact turn_if (b:=false) (y:=.bz) (ρ1:=[none,some (.tup [.str "of",.str x,.tup (aa ps)])]) rfl (by simp only[RX];rfl) λz=>by cases z
theorem iY{its:List Mx.D}:(its.flatMap dg).length<=its.length:=by
 have:=oI (f:=dg) (k:=1) (l:=its) λx _=>by unfold dg;split<;>simp
 lia
theorem Mn{F:FT}{u:BI}{e:C}{ρ:aj}{S S1:Sx}{d d':Dt}(h:ev F e ρ S= .ok (d,S1))(hb:c8 u [d]= .ok d'):ev F (.bi u (.cons e .nil)) ρ S= .ok (d',S1):=by simp only[RX,h,hb]
noncomputable def Cf(ii:Nat):Ts:=(.cons (.asg 1 (.comp [none,none] (.seq (.call ii (.cons (.var 0) .nil) [])) (.nm 1) (.cons (.cmp .Eq (.idx (.var 1) (.con (.int 0))) (.con (.str "any"))) .nil) (.idx (.var 1) (.con (.int 1))))) (.cons (.ret (.bi .tuple (.cons (.bi .sset (.cons (.var 1) .nil)) .nil))) .nil))
theorem A9{iu ii N:Nat}(hf:fs[iu]?=some ⟨1,2,false,Cf ii⟩){d:Dt}(hN:1<=N){Q:Mx.D->Prop}{its:List Mx.D}(h:∀m∈its,B5 Q m)(hl:its.length<64)(hi:aA fs (N-1) ii [d] none= .ok (.lst (aa its),none)):aA fs N iu [d] none= .ok (.tup (aa (a6 ((dd (its.flatMap dg)).map Mx.D.str))),none):=by have d8:lim=1000000:=rfl;have h2:=iY (its:=its);have Ja:=rO (ys:=its.flatMap dg) (d:=.lst (aa ((its.flatMap dg).map Mx.D.str))) rfl ⋯;refine aB hf hN rfl ?_;show fin (aF (aA fs (N-1)) (Cf ii) [some d,none] none)=_;exact au (d:=.lst (aa ((its.flatMap dg).map Mx.D.str))) (S1:=none) (dh (ds:=aa its) (S1:=none) (by simp only[RX,hi]) (by rw[aw];lia) rfl (qm h)) rfl (ao (Mn (Mn (by simp only[RX]) Ja) rfl))
variable{fs:List Fn}
noncomputable def Jx:Nat->Mx.D->Prop
 |0,_=>False
 |n+1,d=>∃rs,d= .tup rs/\∀r∈rs,∃it c,r= .tup [it,.int c]/\B5 (Jx n) it/\c.natAbs<2^64
theorem Ar{Q:Mx.D->Prop}{it:Mx.D}(h:B5 Q it):(aU it).length<=3/\∀p∈aU it,Q p:=by
 rcases h with ⟨y,rfl⟩|⟨y,ps,rfl,h1,h2⟩
 ·simp[cF,aU]
 ·exact⟨h1,h2⟩
noncomputable def mG(ip:Nat)(b:Ts):Ts:=(.cons (.asgM 1 (.lst .nil)) (.cons (.fr (.tp [2,3]) (.seq (.var 0)) (.cons (.app 1 (.var 2)) (.cons (.fr (.nm 4) (.seq (.call ip (.cons (.var 2) .nil) [])) b) .nil))) (.cons (.ret (.mvr 1)) .nil)))
theorem lW{ip ii:Nat}{b:Ts}(hp:fs[ip]?=some ⟨1,1,false,jT⟩)(hf:fs[ii]?=some ⟨1,5,false,mG ip b⟩)
  (hb:∀{N:Nat}{d0 d2 d3:Option Dt}{acc ds:List Mx.D}{p:Mx.D},aA fs N ii [ofD p] none= .ok (.lst (aa ds),none)->acc.length+ds.length<=100000->aF (aA fs N) b [d0,some (.lst (aa acc)),d2,d3,some (ofD p)] none= .ok (.next,[d0,some (.lst (aa (acc++ds))),d2,d3,some (ofD p)],none)):
  ∀{n:Nat}{N:Nat}{d:Mx.D},n+1<=N->Jx n d->(iT n d).length<=100000->aA fs N ii [ofD d] none= .ok (.lst (aa (iT n d)),none)
 |0,N,d,_,h,_=>h.elim
 |n+1,N,d,hN,⟨rs,e,h⟩,hB=>by
  subst e;have d8:lim=1000000:=rfl;rw[iT]at hB;have loop:=iP (S:=none) (tg:=.tp [2,3]) (ds:=rs) (ρ:=[some (.tup (aa rs)),some (.lst []),none,none,none]) (body:=aF (aA fs (N-1)) (.cons (.app 1 (.var 2)) (.cons (.fr (.nm 4) (.seq (.call ip (.cons (.var 2) .nil) [])) b) .nil)))
   (λp ρ=>∃x y z,ρ=[some (.tup (aa rs)),some (.lst (aa (p.flatMap (jo (iT n))))),x,y,z]) ⟨none,none,none,by simp[aa]⟩ (by
    rintro p y q ρ e1 ⟨x2,x3,x4,rfl⟩;obtain⟨it,c,rfl,hi,_⟩:=h y (by rw[e1];simp);rw[e1,List.flatMap_append,RC,jo,QE,QE,QG]at hB;have OK:=xE hp (N:=N-1) ⋯ hi;have jC:=(Ar hi).2;generalize hacc:p.flatMap (jo (iT n))=acc at hB ⊢;have inner:=iP (S:=none) (tg:=.nm 4) (ds:=aU it) (ρ:=[some (.tup (aa rs)),some (.lst (aa (acc++[it]))),some (ofD it),some (.int c),x4]) (body:=aF (aA fs (N-1)) b)
     (λp ρ=>∃z,ρ=[some (.tup (aa rs)),some (.lst (aa (acc++[it]++p.flatMap (iT n)))),some (ofD it),some (.int c),z]) ⟨x4,by simp⟩ (by
      rintro p2 y2 q2 ρ e2 ⟨x5,rfl⟩;rw[e2,List.flatMap_append,RC,QE,QE]at hB;have ih:=lW hp hf hb (N:=N-1) ⋯ (jC y2 (by rw[e2];simp)) ⋯;refine⟨_,_,rfl,hb (acc:=acc++[it]++p2.flatMap (iT n)) ih (by simp only[QE,RQ];lia),some (ofD y2),?_⟩;rw[List.flatMap_append];simp[QC])
    obtain⟨ρ1,zb,z,rfl⟩:=inner;refine⟨[some (.tup (aa rs)),some (.lst (aa acc)),some (ofD it),some (.int c),x4],_,by simp[ofD,aa,dG,fL],fJ (ds:=aa acc) (d:=ofD it) (S1:=none) rfl (by simp only[RX]) rfl (by rw[aw];lia) (qN (ds:=aa (aU it)) (S1:=none) (by simp only[RX];rw[OK];rfl) rfl ((show aa acc++[ofD it]=aa (acc++[it]) by rw[aK];simp[aa])▸zb) rfl),some (ofD it),some (.int c),z,?_⟩;rw[List.flatMap_append,hacc];simp[jo,QC])
  obtain⟨ρ1,bI,x,y,z,rfl⟩:=loop;refine aB hf ⋯ rfl ?_;rw[show ofD (.tup rs)= .tup (aa rs) by rw[ofD]];show fin (aF (aA fs (N-1)) (mG ip b) [some (.tup (aa rs)),none,none,none,none] none)=_;exact dz (d:=.lst []) (S1:=none) rfl rfl (bg (ds:=aa rs) (S1:=none) (by simp only[RX]) rfl bI (ao (by simp only[RX];rw[iT])))
end Rx
end
section
namespace Rx
open PySem PySem.W PySem.Spec PyProof.Rows L2 PySem.SeqAt
theorem yl{fs:List Fn}{n k:Nat}{g:Fn}{args:List Dt}{S:Sx}(h:fs[k]?=some g):aA fs (n+1) k args S=gh (aA fs n) g args S:=by show (match fs[k]? with|some g=>gh (aA fs n) g args S|none=>R.bad)=_;rw[h]
section
variable{g:G}{K:Frag}{mg:Str->Option Value}{P:Program}{w:World}{base:Heap}{fs:List Fn}
theorem qH{n L m:Nat}{params:Arguments}{body:List Stmt}{scope:Scope}{dV kV doc pm fu ct oc:Value}{an od:Option Addr}{tm:Array (Option Value)}{f:Addr}{N ps:List Str}{M:List Bool}{δ κ:Option Nat}{fF:Bool}{ts:Ts}
  {xv:Nat->Value} (hm:MG g mg) (zZ:XG g K mg xv) (ok:oh g K mg 0 g.fns fs) (lk:K.lookup f=some ⟨oc,od,.func (PySem.W.fnOf "law" "law" params body scope dV kV doc pm an fu ct),tm⟩) (vf:PySem.W.codeIn K fu "law"=true) (S:eF N ps scope)
  (hM:∀i,i<ps.length->M[i]?≠some true) (hp:ps.length=1) (hc:Cr m g ⟨scope.names,N,M,δ,κ⟩ false fF body=some ts) (hf:fs[L]?=some ⟨1,N.length,false,ts⟩)
  (hn:∀ns:List Int,ns.length<=63->∃S,aA fs (n+1) L [.aQ ns] none= .ok (.bl true,S)):
  iN P w K mg base (nZ P w) (n+1) f (PySem.W.fnOf "law" "law" params body scope dV kV doc pm an fu ct) ps (tP K):=by
 have h:=lR (xv:=xv) (P:=P) (w:=w) (base:=base) lk vf S hm zZ (kD (P:=P) (w:=w) (base:=base) (xv:=xv) hm zZ ok n) hM (λz=>by cases z) hc;refine h.imp λvs H Q E q=>?_
 obtain⟨a,ns,rfl,hs,hl,hq⟩:=q;obtain⟨S',hS⟩:=hn ns hl;rw[yl hf]at hS;rw[hp];refine⟨rfl,N0,none,[.aQ ns],none,[.ref a],⟨rfl,rfl,rfl⟩,ak.cons ?_ ak.nil,λb z=>z.elim,?_⟩
 ·unfold RV;refine⟨a,rfl,?_⟩;rcases hs with hs|hs
  ·exact .inl ⟨hs,λz=>z⟩
  ·exact .inr hs
 ·rw[hS];intro v H' fo;rw[fo.val.aC];exact hq H'
end
theorem walkR{l:PySem.W.OpenLaw}{q:Program}{k:Nat}{loose:List Str}{XP:(Str->Option Value)->Heap->Prop}{YP:World->Heap->Prop}{d:DefRec}{K:Params->PySem.W.Frag}(hn:l.most=some 63)(Ga:d.params.defaults=[])(hr:gK k callerA)
  (hY:∀(w:World)(h:Heap),YP w h->(K w.params).In h)
  (F:∀(w:World)(mg:Str->Option Value)(fa:Addr)(h:Heap),(K w.params).In h->h.Ns mainGlobals mg->mg d.name=some (.ref fa)->
   ∃fd:FuncData,(∀(s:Shared)(u:Value),BindsTo s fd ⟨[u],[]⟩ [("_law_script",u)])/\∀base:Heap,(K w.params).In base->base.Ns mainGlobals mg->iN l.prog w (K w.params) mg base (nZ l.prog w) k fa fd ["_law_script"] (tP (K w.params))):
  PySem.W.WalkO q loose XP YP l.row.toRowW d [] (λf vs=>PySem.call f vs):=
 L2.Ba (n:=63) (k:=k) (x:="_law_script") (CX:=λw=>nZ l.prog w) (sp:=λw=>tP (K w.params)) hn (by decide) Ga hr hY F (λ_ _ a ns hl _ hS=>⟨a,ns,rfl,hS,hl,λ_=>rfl⟩) λ_ _ _ _ _ z=>by obtain⟨_,_,_,_,_,_,_,_,_,z⟩:=z;exact z
structure Row where
 nm:Str
 s:Stmt
 ps:List Str
 ms:List Str:=[]
 dr:Option Str:=none
 dp:Bool:=false
 fy:List Dt:=[]
 dk:Option Str:=none
namespace Row
noncomputable def N(r:Row):List Str:=Pf (bC r.s).names r.ps
noncomputable def gm(r:Row):Gm:=⟨(bC r.s).names,r.N,E6 r.N r.ms,if r.dp then some 0 else r.dr.bind (xa · r.N),r.dk.bind (xa · r.N)⟩
noncomputable def fn(g:G)(j:Nat)(r:Row):Option Fn:=(Cr 60 g r.gm r.dp (g.fr j) (gR r.s)).map λts=>⟨r.ps.length,r.N.length,r.dp,ts⟩
noncomputable def ent(r:Row):Str×Nat×List Dt×Bool:=(r.nm,r.ps.length,r.fy,r.dp)
noncomputable def ok(r:Row):Bool:=
 ((bC r.s).kind== .function)&& !(bC r.s).isCoroutine&& !(bC r.s).isGenerator&&decide r.N.Nodup&&decide (r.N.take r.ps.length=r.ps)&&
 (r.ps.all λx=>(bC r.s).names.lookup x==some .local||(bC r.s).names.lookup x==some .cell)&&((bC r.s).names.all λy=>y.2 != .free)&&
 ((E6 r.N r.ms).take r.ps.length).all (λb=> !b)&&r.fy.all og
theorem scope{r:Row}(h:r.ok=true):eF r.N r.ps (bC r.s)/\(∀i,i<r.ps.length->(E6 r.N r.ms)[i]?≠some true)/\r.fy.all og=true:=by
 unfold ok at h;simp only[Qp]at h;obtain⟨⟨⟨⟨⟨⟨⟨⟨h1,h2⟩,h3⟩,h4⟩,h5⟩,h6⟩,h7⟩,h8⟩,h9⟩:=h;refine⟨⟨QL h1,by simpa using h2,by simpa using h3,Qr h4,Qr h5,λx hx=>?_,λy hy e=>?_⟩,GQ h8,h9⟩
 ·have:=QY.mp h6 x hx;rcases Rh.mp this with z|z
  ·exact .inl (QL z)
  ·exact .inr (QL z)
 ·have:=QY.mp h7 y hy;rw[e]at this;cases this
end Row
noncomputable def oK(g:G):Nat->List Row->Option (List Fn)
 |_,[]=>some []
 |j,r::rs=>(r.fn g j).bind λf=>(oK g (j+1) rs).map (f:: ·)
noncomputable def Fd(K:Frag)(nm:Str)(s:Stmt)(ps:List Str)(fy:List Dt):Prop:=∃(fa:Addr)(oc dV kV doc pm fu ct:Value)(od an:Option Addr)(tm:Array (Option Value)),
 nsIn K mainGlobals nm=some (some (.ref fa))/\K.lookup fa=some ⟨oc,od,.func (fnOf nm nm (mU s) (gR s) (bC s) dV kV doc pm an fu ct),tm⟩/\codeIn K fu nm=true/\keepIn K (.ref fa)=true/\(fy=[]->dV= .none)/\
 ∀j,j<=fy.length->∃ds,aq ((fy.drop j).map p6) ds/\Binds K (fnOf nm nm (mU s) (gR s) (bC s) dV kV doc pm an fu ct) ps ds
noncomputable def Im(K:Frag):List Row->Prop
 |[]=>True
 |r::rs=>Fd K r.nm r.s r.ps r.fy/\Im K rs
section
variable{g:G}{K:Frag}{mg:Str->Option Value}{h:Heap}{fs:List Fn}
theorem wu(X:K.In h)(Gs:h.Ns mainGlobals mg):∀{rs:List Row}{i:Nat}{fs:List Fn},rs.all Row.ok=true->oK g i rs=some fs->Im K rs->oh g K mg i (rs.map Row.ent) fs
 |[],i,fs,_,e,_=>by cases e;trivial
 |r::rs,i,fs,hk,e,F=>by rw[Rz,Qp]at hk;obtain⟨f,e1,e⟩:=Qm.mp e;obtain⟨J7,e2,rfl⟩:=QD.mp e;obtain⟨ts,c1,rfl⟩:=QD.mp e1;obtain⟨⟨fa,oc,dV,kV,doc,pm,fu,ct,od,an,tm,a,l,c,k,_,b⟩,F⟩:=F;obtain⟨s1,s2,s3⟩:=Row.scope hk.1;exact⟨⟨fa,r.ps,r.N,_,_,_,60,oc,od,an,tm,_,_,_,dV,kV,doc,pm,fu,ct,l,c,k,mg_of X Gs a,s1,s2,λz=>SH z,rfl,c1,rfl,rfl,rfl,b,s3⟩,wu X Gs hk.2 e2 F⟩
theorem CI{rs:List Row}:∀{L i:Nat}{fs:List Fn}{r:Row},oK g i rs=some fs->rs[L]?=some r->∃ts,Cr 60 g r.gm r.dp (g.fr (i+L)) (gR r.s)=some ts/\fs[L]?=some ⟨r.ps.length,r.N.length,r.dp,ts⟩:=by
 induction rs with
 |nil=>intro L i fs r _ e;simp at e
 |cons r0 rs ih=>
  intro L i fs r e hr;obtain⟨f,e1,e⟩:=Qm.mp e;obtain⟨J7,e2,rfl⟩:=QD.mp e;cases L with
  |zero=>cases hr;obtain⟨ts,c1,rfl⟩:=QD.mp e1;exact⟨ts,c1,rfl⟩
  |succ L=>obtain⟨ts,c1,c2⟩:=ih e2 (by simpa using hr);exact⟨ts,by rw[show i+(L+1)=i+1+L by lia];exact c1,by simpa using c2⟩
theorem wm:∀{rs:List Row}{L:Nat}{r:Row},Im K rs->rs[L]?=some r->Fd K r.nm r.s r.ps r.fy
 |[],L,r,_,e=>by simp at e
 |r0::rs,0,r,F,e=>by cases e;exact F.1
 |r0::rs,L+1,r,F,e=>wm F.2 (by simpa using e)
noncomputable def JB(K:Frag):List Str->Prop
 |[]=>True
 |x::xs=>nsIn K mainGlobals x=some none/\JB K xs
noncomputable def Jw(K:Frag):List (Str×Dt)->Prop
 |[]=>True
 |x::xs=>(∃u,nsIn K mainGlobals x.1=some (some u)/\og x.2=true/\RelV (p6 x.2) u)/\Jw K xs
theorem xt{x:Str}:∀{xs:List Str},JB K xs->x∈xs->nsIn K mainGlobals x=some none
 |y::xs,h,hx=>by
  rcases QA.mp hx with rfl|hx
  ·exact h.1
  ·exact xt h.2 hx
theorem vS{x:Str}{d:Dt}:∀{xs:List (Str×Dt)},Jw K xs->xs.lookup x=some d->∃u,nsIn K mainGlobals x=some (some u)/\og d=true/\RelV (p6 d) u
 |[],_,e=>by simp at e
 |y::xs,h,e=>by
  rw[QO]at e;split at e
  ·rename_i q;cases e;rw[QL q];exact h.1
  ·exact vS h.2 e
noncomputable def JG(K:Frag)(C:Addr):List (Str×Bool)->Prop
 |[]=>True
 |x::xs=>(∃c,(nsIn K mainGlobals x.1=some (some c)/\(∃D,c= .ref D)\/nsIn K mainGlobals x.1=some none/\x.1="ValueError"/\c= .type "ValueError")/\kitOne K (.ref C) c=some x.2/\(x.2=true->exmOne K (.ref C) c=some true))/\JG K C xs
noncomputable def JF(K:Frag):List (Str×List (Str×Bool))->Prop
 |[]=>True
 |x::xs=>(∃C,nsIn K mainGlobals x.1=some (some (.ref C))/\excIn K C Co "ValueError.__new__"=true/\vt K C/\JG K C x.2)/\JF K xs
theorem yR(X:K.In h)(Gs:h.Ns mainGlobals mg){C:Addr}{t:Str}{b:Bool}:∀{xs:List (Str×Bool)},JG K C xs->xs.lookup t=some b->∃c,(mg t=some c/\(∃D,c= .ref D)\/mg t=none/\t="ValueError"/\c= .type "ValueError")/\kitOne K (.ref C) c=some b/\(b=true->exmOne K (.ref C) c=some true)
 |[],_,e=>by simp at e
 |y::xs,hx,e=>by
  rw[QO]at e;split at e
  ·rename_i q;cases e;rw[QL q];obtain⟨c,h1,h2⟩:=hx.1;exact⟨c,h1.imp (λz=>⟨mg_of X Gs z.1,z.2⟩) λz=>⟨mg_none_of X Gs z.1,z.2⟩,h2⟩
  ·exact yR X Gs hx.2 e
noncomputable def Il(g:G)(mg:Str->Option Value)(k:Nat):Value:=((g.xs[k]?).bind λx=>mg x.1).getD .none
theorem yO(X:K.In h)(Gs:h.Ns mainGlobals mg):∀{xs:List (Str×List (Str×Bool))}{k:Nat}{x:Str}{ts:List (Str×Bool)},JF K xs->xs[k]?=some (x,ts)->∃C,mg x=some (.ref C)/\EL K mg C ts
 |[],k,x,ts,_,e=>by simp at e
 |y::xs,0,x,ts,hx,e=>by cases e;obtain⟨C,h1,h2,h3,h4⟩:=hx.1;exact⟨C,mg_of X Gs h1,h2,h3,λt b q=>yR X Gs h4 q⟩
 |y::xs,k+1,x,ts,hx,e=>yO X Gs hx.2 (by simpa using e)
theorem law_mk{l:OpenLaw}{w:World}{fa:Addr}{rs:List Row}{cons:List (Str×Dt)}{bls:List Str}{fr:Nat->Bool}{xs:List (Str×List (Str×Bool))}{L n:Nat}{sL:Stmt}{ms:List Str}{dr kd:Option Str}(X:K.In h)(Gs:h.Ns mainGlobals mg)(Ol:mg "law"=some (.ref fa))
  (hL:rs[L]?=some ⟨"law",sL,["_law_script"],ms,dr,false,[],kd⟩) (hk:rs.all Row.ok=true) (hfs:oK ⟨rs.map Row.ent,cons,bls,fr,xs⟩ 0 rs=some fs)
  (hb:∀(s:Shared)(v:Value)(kV doc pm fu ct:Value)(an:Option Addr),BindsTo s (fnOf "law" "law" (mU sL) (gR sL) (bC sL) .none kV doc pm an fu ct) ⟨[v],[]⟩ [("_law_script",v)])
  (hn:∀ns:List Int,ns.length<=63->∃S,aA fs (n+1) L [.aQ ns] none= .ok (.bl true,S)) (B:JB K bls) (C:Jw K cons) (F:Im K rs) (E:JF K xs):
  ∃fd:FuncData,(∀(s:Shared)(v:Value),BindsTo s fd ⟨[v],[]⟩ [("_law_script",v)])/\∀base:Heap,K.In base->base.Ns mainGlobals mg->iN l.prog w K mg base (nZ l.prog w) (n+1) fa fd ["_law_script"] (tP K):=by
 have zZ:XG ⟨rs.map Row.ent,cons,bls,fr,xs⟩ K mg (Il ⟨rs.map Row.ent,cons,bls,fr,xs⟩ mg):=λk x ts e=>by obtain⟨C,h1,h2⟩:=yO X Gs E e;have e:xs[k]?=some (x,ts):=e;exact⟨C,by simp[Il,e,h1],h1,h2⟩
 have hm:MG ⟨rs.map Row.ent,cons,bls,fr,xs⟩ mg:=⟨λx d hx=>by
   obtain⟨u,k1,k2,k3⟩:=vS C hx;exact⟨u,k2,mg_of X Gs k1,k3⟩,λx hx=>mg_none_of X Gs (xt B hx)⟩
 have ok:=wu (g:=⟨rs.map Row.ent,cons,bls,fr,xs⟩) X Gs hk hfs F;obtain⟨P0,oc,dV,kV,doc,pm,fu,ct,od,an,tm,a,lk,c,k,hd,b⟩:=wm F hL;cases hd rfl;have e:=Ol.symm.trans (mg_of X Gs a);cases e;obtain⟨ts,c1,c2⟩:=CI hfs hL;have hok:=Row.scope (QY.mp hk _ (R0.mpr ⟨L,hL⟩));exact⟨_,λs v=>hb s v kV doc pm fu ct an,λbase _ _=>qH hm zZ ok lk c hok.1 hok.2.1 rfl c1 c2 hn⟩
end
end Rx
end
section
namespace K81
open PySem PySem.W PySem.Spec PyProof.Rows L2 Mx Rx
noncomputable def top(i:Nat):Stmt:=PySem.Challenge.pw_mixform_k81_rules_made.main.body.getD i (.Pass ⟨0,0,0,0⟩)
noncomputable abbrev rows:List Rx.Row:=[⟨"parts_of",top 7,["item"],[],none,false,[],none⟩,
 ⟨"items_within",top 9,["form"],["found"],none,false,[],none⟩,
 ⟨"unknowns",top 10,["form"],[],none,false,[],none⟩,
 ⟨"rule",top 12,["left","right"],[],none,false,[],none⟩,
 ⟨"form_at",top 13,["form","place"],[],none,false,[],none⟩,
 ⟨"_law_cell",top 15,["_law_script","_law_k"],[],none,false,[],none⟩,
 ⟨"_law_pick",top 16,["_law_script","_law_k","_law_many"],[],none,false,[],none⟩,
 ⟨"_law_names",top 17,["_law_script","_law_k","_law_letters"],["_law_names_here"],none,false,[],none⟩,
 ⟨"_law_unknowns",top 18,["_law_script","_law_k"],[],none,false,[],none⟩,
 ⟨"_law_signs",top 19,["_law_script","_law_k"],[],none,false,[],none⟩,
 ⟨"_law_next",top 20,["_law_k","_law_j"],[],none,false,[],none⟩,
 ⟨"_law_same",top 21,["_law_found","_law_due"],[],none,false,[],none⟩,
 ⟨"_law_gathered",top 22,["_law_pairs"],["_law_found"],none,false,[],none⟩,
 ⟨"_law_added",top 23,["_law_pairs"],[],none,false,[],none⟩,
 ⟨"_law_put",top 24,["_law_form_here","_law_known"],[],none,false,[],none⟩,
 ⟨"_law_size",top 25,["_law_form_here"],[],none,false,[],none⟩,
 ⟨"_law_item",top 26,["_law_script","_law_k","_law_room","_law_deep_here","_law_names_here","_law_signs_here"],["_law_parts"],none,false,[],none⟩,
 ⟨"_law_form",top 27,["_law_script","_law_k","_law_room","_law_deep_here","_law_names_here","_law_signs_here"],["_law_pairs"],none,false,[],none⟩,
 ⟨"_law_places",top 28,["_law_form_here"],[],none,false,[],none⟩,
 ⟨"_law_at",top 29,["_law_form_here","_law_place"],[],none,false,[],none⟩,
 ⟨"_law_occurring",top 31,["_law_form_here"],["_law_found"],none,false,[],none⟩,
 ⟨"_law_left",top 32,["_law_script","_law_k","_law_names_here","_law_signs_here"],[],none,false,[],none⟩,
 ⟨"_law_right",top 33,["_law_script","_law_k","_law_room","_law_left_here","_law_signs_here"],[],none,false,[],none⟩,
 ⟨"_law_refused",top 34,["_law_left_here","_law_right_here"],[],none,false,[],none⟩,
 ⟨"_law_deep",top 35,["_law_script","_law_signs_here"],["_law_parts"],none,false,[],none⟩,
 ⟨"law",top 36,["_law_script"],[],none,false,[],none⟩]
noncomputable abbrev cons:List (Str×Dt):=[]
noncomputable abbrev bls:List Str:=["any","bool","int","isinstance","len","list","max","min","range","set","sorted","str","sum","tuple","zip"]
noncomputable abbrev fr(i:Nat):Bool:=[false,true,false,false,false,false,true,true,true,true,true,false,false,false,false,false,false,false,false,false,true,false,false,false,true,false].getD i false
noncomputable abbrev xs:List (Str×List (Str×Bool)):=[("NoRule",[("MixError",true),("NoRow",false),("NoRule",true),("NoText",false),("TooMany",false),("ValueError",true)])]
noncomputable def b3:Ts:=(.cons (.ifs (.cmp .Eq (.var 0) (.tup .nil)) (.cons (.rs 0 []) .nil) .nil) (.cons (.ifs (.bi .any (.cons (.comp [none,none,some 0] (.seq (.call 2 (.cons (.var 1) .nil) [])) (.nm 1) .nil (.cmp .NotIn (.var 1) (.call 2 (.cons (.var 2) .nil) []))) .nil)) (.cons (.rs 0 []) .nil) .nil) (.cons (.ret (.tup (.cons (.var 0) (.cons (.var 1) .nil)))) .nil)))
noncomputable def b4:Ts:=(.cons (.asg 2 (.var 0)) (.cons (.fr (.tp [3,4]) (.seq (.var 1)) (.cons (.asg 2 (.idx (.idx (.var 3) (.con (.int 2))) (.var 4))) .nil)) (.cons (.ret (.var 2)) .nil)))
noncomputable def b8:Ts:=(.cons (.ret (.call 7 (.cons (.var 0) (.cons (.var 1) (.cons (.con (.str "abcdefghijklmnopqrstuvwxyz")) .nil))) [])) .nil)
noncomputable def b9:Ts:=(.cons (.ret (.call 7 (.cons (.var 0) (.cons (.var 1) (.cons (.con (.str "ABCDEFGHIJKLMNOPQRSTUVWXYZ")) .nil))) [])) .nil)
noncomputable def JI:Ts:=(.cons (.ret (.bi .tuple (.cons (.comp [none,none] (.seq (.call 12 (.cons (.var 0) .nil) [])) (.nm 1) (.cons (.cmp .Gt (.idx (.var 1) (.con (.int 1))) (.con (.int 0))) .nil) (.var 1)) .nil))) .nil)
noncomputable def JJ:Ts:=(.cons (.asg 2 (.lst .nil)) (.cons (.fr (.tp [3,4]) (.seq (.var 0)) (.cons (.asg 5 (.tup (.cons (.tup (.cons (.var 3) (.cons (.con (.int 1)) .nil))) .nil))) (.cons (.ifs (.cmp .Eq (.idx (.var 3) (.con (.int 0))) (.con (.str "any"))) (.cons (.asg 5 (.gtO (.var 1) (.idx (.var 3) (.con (.int 1))) (.var 5))) .nil) (.cons (.asg 5 (.tup (.cons (.tup (.cons (.tup (.cons (.con (.str "of")) (.cons (.idx (.var 3) (.con (.int 1))) (.cons (.bi .tuple (.cons (.comp [none,none,some 1] (.seq (.idx (.var 3) (.con (.int 2)))) (.nm 1) .nil (.call 14 (.cons (.var 1) (.cons (.var 2) .nil)) [])) .nil)) .nil)))) (.cons (.con (.int 1)) .nil))) .nil))) .nil)) (.cons (.asg 2 (.bin .Add (.var 2) (.comp [none,none,none,some 4] (.seq (.var 5)) (.tp [1,2]) .nil (.tup (.cons (.var 1) (.cons (.bin .Mult (.var 3) (.var 2)) .nil)))))) .nil)))) (.cons (.ret (.call 13 (.cons (.var 2) .nil) [])) .nil)))
noncomputable def JK:Ts:=(.cons (.asg 1 (.con (.int 0))) (.cons (.fr (.tp [2,3]) (.seq (.var 0)) (.cons (.asg 4 (.con (.int 1))) (.cons (.ifs (.cmp .Eq (.idx (.var 2) (.con (.int 0))) (.con (.str "of"))) (.cons (.asg 4 (.bin .Add (.con (.int 1)) (.bi .sum (.cons (.comp [none,none] (.seq (.idx (.var 2) (.con (.int 2)))) (.nm 1) .nil (.call 15 (.cons (.var 1) .nil) [])) .nil)))) .nil) .nil) (.cons (.asg 1 (.bin .Add (.var 1) (.bin .Mult (.var 3) (.var 4)))) .nil)))) (.cons (.ret (.var 1)) .nil)))
noncomputable def EM:Ts:=(.cons (.asg 6 (.call 6 (.cons (.var 0) (.cons (.var 1) (.cons (.con (.int 4)) .nil))) [])) (.cons (.ifs (.cmp .Eq (.var 6) (.con (.int 0))) (.cons (.ret (.tup (.cons (.con (.str "any")) (.cons (.idx (.var 4) (.call 6 (.cons (.var 0) (.cons (.bin .Add (.var 1) (.con (.int 1))) (.cons (.bi .len (.cons (.var 4) .nil)) .nil))) [])) .nil)))) .nil) .nil) (.cons (.asg 7 (.con (.int 0))) (.cons (.ifs (.and (.cmp .Gt (.var 3) (.con (.int 0))) (.cmp .Gt (.var 6) (.con (.int 1)))) (.cons (.asg 7 (.bin .Add (.con (.int 1)) (.call 6 (.cons (.var 0) (.cons (.bin .Add (.var 1) (.con (.int 2))) (.cons (.con (.int 3)) .nil))) []))) .nil) .nil) (.cons (.asgM 8 (.lst .nil)) (.cons (.asg 9 (.bin .Sub (.var 2) (.con (.int 1)))) (.cons (.fr (.nm 10) (.rng1 (.var 7)) (.cons (.asg 11 (.call 17 (.cons (.var 0) (.cons (.call 10 (.cons (.var 1) (.cons (.bin .Add (.con (.int 3)) (.var 10)) .nil)) []) (.cons (.call 6 (.cons (.var 0) (.cons (.bin .Add (.bin .Add (.var 1) (.con (.int 3))) (.var 10)) (.cons (.bin .Add (.var 9) (.con (.int 1))) .nil))) []) (.cons (.bin .Sub (.var 3) (.con (.int 1))) (.cons (.var 4) (.cons (.var 5) .nil)))))) [])) (.cons (.app 8 (.var 11)) (.cons (.asg 9 (.bin .Sub (.var 9) (.call 15 (.cons (.var 11) .nil) []))) .nil)))) (.cons (.ret (.tup (.cons (.con (.str "of")) (.cons (.idx (.var 5) (.call 6 (.cons (.var 0) (.cons (.bin .Add (.var 1) (.con (.int 1))) (.cons (.bi .len (.cons (.var 5) .nil)) .nil))) [])) (.cons (.bi .tuple (.cons (.mvr 8) .nil)) .nil))))) .nil))))))))
noncomputable def JL:Ts:=(.cons (.asgM 6 (.lst .nil)) (.cons (.fr (.nm 7) (.rng1 (.bin .Add (.con (.int 1)) (.call 6 (.cons (.var 0) (.cons (.var 1) (.cons (.con (.int 5)) .nil))) []))) (.cons (.ifs (.cmp .Gt (.var 2) (.con (.int 0))) (.cons (.asg 8 (.call 16 (.cons (.var 0) (.cons (.call 10 (.cons (.var 1) (.cons (.var 7) .nil)) []) (.cons (.var 2) (.cons (.var 3) (.cons (.var 4) (.cons (.var 5) .nil)))))) [])) (.cons (.asg 9 (.call 15 (.cons (.tup (.cons (.tup (.cons (.var 8) (.cons (.con (.int 1)) .nil))) .nil)) .nil) [])) (.cons (.asg 10 (.bin .Add (.con (.int 1)) (.call 6 (.cons (.var 0) (.cons (.bin .Add (.bin .Add (.var 1) (.con (.int 1))) (.var 7)) (.cons (.con (.int 2)) .nil))) []))) (.cons (.ifs (.cmp .Gt (.bin .Mult (.var 9) (.var 10)) (.var 2)) (.cons (.asg 10 (.con (.int 1))) .nil) .nil) (.cons (.app 6 (.tup (.cons (.var 8) (.cons (.var 10) .nil)))) (.cons (.asg 2 (.bin .Sub (.var 2) (.bin .Mult (.var 9) (.var 10)))) .nil)))))) .nil) .nil)) (.cons (.ret (.call 13 (.cons (.mvr 6) .nil) [])) .nil)))
noncomputable def JM:Ts:=(.cons (.asg 1 (.lst (.cons (.tup .nil) .nil))) (.cons (.fr (.tp [2,3]) (.seq (.var 0)) (.cons (.ifs (.cmp .Eq (.idx (.var 2) (.con (.int 0))) (.con (.str "of"))) (.cons (.fr (.nm 4) (.rng1 (.bi .len (.cons (.idx (.var 2) (.con (.int 2))) .nil))) (.cons (.asg 1 (.bin .Add (.var 1) (.comp [none,none,some 2,some 4] (.seq (.call 18 (.cons (.idx (.idx (.var 2) (.con (.int 2))) (.var 4)) .nil) [])) (.nm 1) .nil (.bin .Add (.tup (.cons (.tup (.cons (.var 2) (.cons (.var 3) .nil))) .nil)) (.var 1))))) .nil)) .nil) .nil) .nil)) (.cons (.ret (.var 1)) .nil)))
noncomputable def JN:Ts:=(.cons (.fr (.tp [2,3]) (.seq (.var 1)) (.cons (.asg 0 (.idx (.idx (.var 2) (.con (.int 2))) (.var 3))) .nil)) (.cons (.ret (.var 0)) .nil))
noncomputable def JO:Ts:=(.cons (.asgM 1 (.lst .nil)) (.cons (.fr (.tp [2,3]) (.seq (.var 0)) (.cons (.ifs (.cmp .Eq (.idx (.var 2) (.con (.int 0))) (.con (.str "any"))) (.cons (.app 1 (.idx (.var 2) (.con (.int 1)))) .nil) (.cons (.fr (.nm 4) (.seq (.idx (.var 2) (.con (.int 2)))) (.cons (.asgM 1 (.bin .Add (.mvr 1) (.call 20 (.cons (.var 4) .nil) []))) .nil)) .nil)) .nil)) (.cons (.ret (.bi .sset (.cons (.mvr 1) .nil))) .nil)))
noncomputable def Fo:Ts:=(.cons (.asg 4 (.call 17 (.cons (.var 0) (.cons (.var 1) (.cons (.bin .Add (.con (.int 1)) (.call 6 (.cons (.var 0) (.cons (.var 1) (.cons (.con (.int 4)) .nil))) [])) (.cons (.con (.int 2)) (.cons (.var 2) (.cons (.var 3) .nil)))))) [])) (.cons (.ifs (.cmp .Eq (.var 4) (.tup .nil)) (.cons (.ret (.tup (.cons (.tup (.cons (.tup (.cons (.con (.str "any")) (.cons (.idx (.var 2) (.con (.int 0))) .nil))) (.cons (.con (.int 1)) .nil))) .nil))) .nil) .nil) (.cons (.ret (.var 4)) .nil)))
noncomputable def Fp:Ts:=(.cons (.asg 5 (.call 20 (.cons (.var 3) .nil) [])) (.cons (.ifs (.cmp .Eq (.bi .len (.cons (.var 5) .nil)) (.con (.int 0))) (.cons (.asg 5 (.lst (.cons (.con (.str "z")) .nil))) .nil) .nil) (.cons (.asg 6 (.call 17 (.cons (.var 0) (.cons (.var 1) (.cons (.var 2) (.cons (.con (.int 2)) (.cons (.var 5) (.cons (.var 4) .nil)))))) [])) (.cons (.ifs (.cmp .Eq (.bi .len (.cons (.call 20 (.cons (.var 3) .nil) []) .nil)) (.con (.int 0))) (.cons (.asg 6 (.call 14 (.cons (.var 6) (.cons (.bi .dict (.cons (.tup (.cons (.tup (.cons (.con (.str "z")) (.cons (.tup .nil) .nil))) .nil)) .nil)) .nil)) [])) .nil) .nil) (.cons (.ret (.var 6)) .nil)))))
noncomputable def JP:Ts:=(.cons (.tr (.cons (.FA (.call 3 (.cons (.var 0) (.cons (.var 1) .nil)) [])) .nil) [some true]) (.cons (.ret (.con (.bl false))) .nil))
noncomputable def JQ:Ts:=(.cons (.asg 2 (.tup .nil)) (.cons (.asg 3 (.tup .nil)) (.cons (.fr (.nm 4) (.rng1 (.bi .max2 (.cons (.con (.int 2)) (.cons (.bi .min2 (.cons (.con (.int 16)) (.cons (.bin .FloorDiv (.bi .len (.cons (.var 0) .nil)) (.con (.int 3))) .nil))) .nil)))) (.cons (.asg 5 (.bin .Add (.con (.int 1)) (.call 6 (.cons (.var 0) (.cons (.bin .Mult (.con (.int 3)) (.var 4)) (.cons (.con (.int 3)) .nil))) []))) (.cons (.asg 6 (.call 6 (.cons (.var 0) (.cons (.bin .Add (.bin .Mult (.con (.int 3)) (.var 4)) (.con (.int 1))) (.cons (.var 5) .nil))) [])) (.cons (.asgM 7 (.sliH (.comp [none,none,some 1] (.rng1 (.con (.int 3))) (.nm 1) .nil (.tup (.cons (.tup (.cons (.tup (.cons (.con (.str "of")) (.cons (.idx (.var 2) (.var 1)) (.cons (.tup .nil) .nil)))) (.cons (.con (.int 1)) .nil))) .nil))) (.var 5))) (.cons (.rd 7 (.var 6) (.var 2)) (.cons (.asg 8 (.tup (.cons (.con (.str "of")) (.cons (.idx (.var 1) (.call 6 (.cons (.var 0) (.cons (.bin .Add (.bin .Mult (.con (.int 3)) (.var 4)) (.con (.int 2))) (.cons (.con (.int 3)) .nil))) [])) (.cons (.bi .tuple (.cons (.mvr 7) .nil)) .nil))))) (.cons (.asg 3 (.bin .Add (.tup (.cons (.tup (.cons (.var 8) (.cons (.var 6) .nil))) .nil)) (.var 3))) (.cons (.asg 2 (.call 13 (.cons (.lst (.cons (.tup (.cons (.var 8) (.cons (.bin .Add (.con (.int 1)) (.call 6 (.cons (.var 0) (.cons (.bin .Mult (.con (.int 3)) (.var 4)) (.cons (.con (.int 4)) .nil))) [])) .nil))) (.cons (.tup (.cons (.tup (.cons (.con (.str "of")) (.cons (.idx (.var 1) (.con (.int 0))) (.cons (.tup .nil) .nil)))) (.cons (.con (.int 1)) .nil))) .nil))) .nil) [])) .nil)))))))) (.cons (.ret (.lst (.cons (.var 2) (.cons (.var 3) .nil)))) .nil))))
noncomputable def EN:Ts:=(.cons (.asg 1 (.call 8 (.cons (.var 0) (.cons (.con (.int 0)) .nil)) [])) (.cons (.asg 2 (.call 9 (.cons (.var 0) (.cons (.con (.int 3)) .nil)) [])) (.cons (.asg 3 (.call 21 (.cons (.var 0) (.cons (.con (.int 6)) (.cons (.sliH (.var 1) (.con (.int 2))) (.cons (.var 2) .nil)))) [])) (.cons (.asg 4 (.call 22 (.cons (.var 0) (.cons (.con (.int 20)) (.cons (.con (.int 6)) (.cons (.var 3) (.cons (.var 2) .nil))))) [])) (.cons (.ifs (.or (.nt (.call 11 (.cons (.call 3 (.cons (.var 3) (.cons (.var 4) .nil)) []) (.cons (.tup (.cons (.var 3) (.cons (.var 4) .nil))) .nil)) [])) (.nt (.call 23 (.cons (.tup .nil) (.cons (.var 4) .nil)) []))) (.cons (.ret (.con (.bl false))) .nil) .nil) (.cons (.asg 5 (.call 13 (.cons (.bin .Add (.bi .list (.cons (.var 4) .nil)) (.lst (.cons (.tup (.cons (.tup (.cons (.con (.str "any")) (.cons (.idx (.var 1) (.con (.int 2))) .nil))) (.cons (.con (.int 1)) .nil))) .nil))) .nil) [])) (.cons (.ifs (.cmp .Eq (.call 6 (.cons (.var 0) (.cons (.con (.int 40)) (.cons (.con (.int 2)) .nil))) []) (.con (.int 0))) (.cons (.asg 5 (.call 13 (.cons (.bin .Add (.bi .list (.cons (.var 4) .nil)) (.lst (.cons (.tup (.cons (.tup (.cons (.con (.str "of")) (.cons (.idx (.var 2) (.con (.int 1))) (.cons (.tup (.cons (.tup .nil) (.cons (.tup (.cons (.tup (.cons (.tup (.cons (.con (.str "any")) (.cons (.idx (.var 1) (.con (.int 2))) .nil))) (.cons (.con (.int 2)) .nil))) .nil)) .nil))) .nil)))) (.cons (.con (.int 1)) .nil))) .nil))) .nil) [])) .nil) .nil) (.cons (.ifs (.or (.nt (.call 23 (.cons (.var 3) (.cons (.var 5) .nil)) [])) (.nt (.call 11 (.cons (.call 3 (.cons (.var 3) (.cons (.var 3) .nil)) []) (.cons (.tup (.cons (.var 3) (.cons (.var 3) .nil))) .nil)) []))) (.cons (.ret (.con (.bl false))) .nil) .nil) (.cons (.asg 6 (.call 17 (.cons (.var 0) (.cons (.con (.int 41)) (.cons (.con (.int 10)) (.cons (.con (.int 3)) (.cons (.var 1) (.cons (.var 2) .nil)))))) [])) (.cons (.fr (.nm 7) (.seq (.call 18 (.cons (.var 6) .nil) [])) (.cons (.ifs (.nt (.call 11 (.cons (.call 4 (.cons (.var 6) (.cons (.var 7) .nil)) []) (.cons (.call 19 (.cons (.var 6) (.cons (.var 7) .nil)) []) .nil)) [])) (.cons (.ret (.con (.bl false))) .nil) .nil) .nil)) (.cons (.asgT [6,7] (.call 24 (.cons (.var 0) (.cons (.var 2) .nil)) [])) (.cons (.fr (.nm 8) (.rng1 (.bin .Add (.bi .len (.cons (.var 7) .nil)) (.con (.int 1)))) (.cons (.ifs (.nt (.call 11 (.cons (.call 4 (.cons (.var 6) (.cons (.sliH (.var 7) (.var 8)) .nil)) []) (.cons (.call 19 (.cons (.var 6) (.cons (.sliH (.var 7) (.var 8)) .nil)) []) .nil)) [])) (.cons (.ret (.con (.bl false))) .nil) .nil) .nil)) (.cons (.ret (.call 23 (.cons (.tup .nil) (.cons (.tup .nil) .nil)) [])) .nil)))))))))))))
noncomputable def fs:List Fn:=[⟨1,1,false,jT⟩,⟨1,5,false,mG 0 (.cons (.xtd 1 (.call 1 (.cons (.var 4) .nil) [])) .nil)⟩,⟨1,2,false,Cf 1⟩,⟨2,2,false,b3⟩,⟨2,5,false,b4⟩,⟨2,3,false,ow⟩,⟨3,4,false,vA 5⟩,⟨3,9,false,qh 6⟩,⟨2,2,false,b8⟩,⟨2,2,false,b9⟩,⟨2,2,false,vz⟩,⟨2,4,false,oy 11⟩,⟨1,4,false,JR Jk⟩,⟨1,1,false,JI⟩,⟨2,6,false,JJ⟩,⟨1,5,false,JK⟩,⟨6,12,false,EM⟩,⟨6,11,false,JL⟩,⟨1,5,false,JM⟩,⟨2,4,false,JN⟩,⟨1,5,false,JO⟩,⟨4,5,false,Fo⟩,⟨5,7,false,Fp⟩,⟨2,4,false,JP⟩,⟨2,9,false,JQ⟩,⟨1,9,false,EN⟩]
theorem hok:rows.all Rx.Row.ok=true:=by decide +kernel
theorem hfs:oK ⟨rows.map Rx.Row.ent,cons,bls,fr,xs⟩ 0 rows=some fs:=by kernel_rfl
theorem wG:mz fs 6:=⟨5,rfl,rfl⟩
noncomputable def rF(S:Str->Prop)(Q:Mx.D->Prop)(it:Mx.D):Prop:=(∃x,it=cF x/\S x)\/∃x ps,it=ofT x ps/\ps.length<=3/\∀p∈ps,Q p
noncomputable def qb(S:Str->Prop)(Q:Mx.D->Prop)(r:Mx.D):Prop:=∃it c,r=row it c/\0<c/\c<=1000/\rF S Q it
noncomputable def bM(S:Str->Prop):Nat->Mx.D->Prop
 |0,_=>False
 |n+1,d=>∃rs,d= .tup rs/\rs.length<=12/\∀r∈rs,qb S (bM S n) r
section
variable{S S':Str->Prop}
theorem rF.imp{Q Q':Mx.D->Prop}{it:Mx.D}(hS:∀x,S x->S' x)(h:∀p,Q p->Q' p):rF S Q it->rF S' Q' it:=Or.imp (λ⟨x,e,z⟩=>⟨x,e,hS x z⟩) λ⟨x,ps,e,h1,h2⟩=>⟨x,ps,e,h1,λp hp=>h p (h2 p hp)⟩
theorem bM.mono(hS:∀x,S x->S' x):∀{n m:Nat}{d:Mx.D},n<=m->bM S n d->bM S' m d
 |0,_,_,_,h=>h.elim
 |n+1,0,_,h,_=>by lia
 |n+1,m+1,d,hn,⟨rs,e,h1,h2⟩=>⟨rs,e,h1,λr hr=>by
  obtain⟨it,c,e,h3,h4,h5⟩:=h2 r hr;exact⟨it,c,e,h3,h4,h5.imp hS λp hp=>bM.mono hS ⋯ hp⟩⟩
theorem rF.it{Q Q':Mx.D->Prop}{it:Mx.D}(h:∀p,Q p->Q' p):rF S Q it->vo 12 Q' it:=Or.imp (λ⟨x,e,_⟩=>⟨x,e⟩) λ⟨x,ps,e,h1,h2⟩=>⟨x,ps,e,by lia,λp hp=>h p (h2 p hp)⟩
theorem bM.n:∀{n:Nat}{d:Mx.D},bM S n d->Bd 12 Pos n d
 |0,_,h=>h.elim
 |n+1,d,⟨rs,e,h1,h2⟩=>⟨rs,e,h1,λr hr=>by
  obtain⟨it,c,e,h3,_,h5⟩:=h2 r hr;exact⟨it,c,e,h3,h5.it λp hp=>bM.n hp⟩⟩
theorem rF.i{Q Q':Mx.D->Prop}{it:Mx.D}(h:∀p,Q p->Q' p):rF S Q it->B5 Q' it:=Or.imp (λ⟨x,e,_⟩=>⟨x,e⟩) λ⟨x,ps,e,h1,h2⟩=>⟨x,ps,e,h1,λp hp=>h p (h2 p hp)⟩
theorem bM.g:∀{n:Nat}{d:Mx.D},bM S n d->Jx n d
 |0,_,h=>h.elim
 |n+1,d,⟨rs,e,h1,h2⟩=>⟨rs,e,λr hr=>by
  obtain⟨it,c,e,h3,h4,h5⟩:=h2 r hr;exact⟨it,c,e,h5.i λp hp=>bM.g hp,by lia⟩⟩
noncomputable def wsum(w:Mx.D->Int)(rs:List Mx.D):Int:=(rs.map λr=>lM r*w (eM r)).sum
theorem bq(w:Mx.D->Int)(r:Mx.D)(rs:List Mx.D):wsum w (r::rs)=lM r*w (eM r)+wsum w rs:=by unfold wsum;rw[Q6,R8]
theorem nY(w:Mx.D->Int):∀(rs:List Mx.D)(it:Mx.D)(c:Int),wsum w (gr it c rs)=c*w it+wsum w rs
 |[],it,c=>by rw[gr,bq,aO,aP]
 |r::rs,it,c=>by
  rw[gr,bq];split
  ·rename_i e;rw[nY w rs,e]
   grind
  ·rw[bq,aO,aP,nY w rs]
theorem xO{a b:List Int}(h:a.Perm b):a.sum=b.sum:=by
 induction h with
 |nil=>rfl
 |cons x _ ih=>rw[R8,R8,ih]
 |swap x y l=>simp only[R8];lia
 |trans _ _ h1 h2=>exact h1.trans h2
theorem fZ(w:Mx.D->Int)(ms:List Mx.D):wsum w (cg ms)=wsum w ms:=by
 have h:wsum w (a6 ms)=wsum w ms:=by exact xO ((cy ms).map λr=>lM r*w (eM r))
 rw[<-h];unfold cg;cases a6 ms with
 |nil=>rfl
 |cons r rs=>rw[pX,nY,bq]
theorem tX{w:Mx.D->Int}(hw:∀d,1<=w d):∀{rs:List Mx.D},(∀r∈rs,0<lM r)->(∀r∈rs,lM r<=wsum w rs)/\0<=wsum w rs
 |[],_=>⟨λ_ e=>(by cases e),Rp _⟩
 |q::rs,h=>by
  obtain⟨h1,h2⟩:=tX hw λr hr=>h r (Qt _ hr)
  have hq:=h q Qv;rw[bq];have:lM q*1<=lM q*w (eM q):=Rq (hw _) (Int.le_of_lt hq);refine⟨λr hr=>?_,by lia⟩;rcases QA.mp hr with rfl|hr
  ·lia
  ·have:=h1 r hr;lia
theorem iQ{n:Nat}{ms:List Mx.D}(hl:ms.length<=12)(h:∀m∈ms,qb S (bM S n) m)(hs:wsum (λ_=>1) ms<=1000):bM S (n+1) (.tup (cg ms)):=by
 have hr:=uB (S:=λr=>∃it c,r=row it c/\rF S (bM S n) it) (λit c d⟨fA,c',e,z⟩_ _=>⟨it,c+d,rfl,by have:=SD eM e;rw[aO,aO]at this;rw[this];exact z⟩) (ms:=ms) λr hr=>by obtain⟨it,c,e,h1,_,h3⟩:=h r hr;exact⟨⟨it,c,e,h3⟩,it,c,e,h1⟩
 have hb:=(tX (w:=λ_=>1) (λ_=>Rp _) (rs:=cg ms) λr wQ=>by
  obtain⟨_,i,k,e,hk⟩:=hr r wQ;rw[e,aP];exact hk).1
 rw[fZ]at hb;refine⟨_,rfl,Qz (wz ms) hl,λr wQ=>?_⟩;obtain⟨⟨it,c,e,z⟩,i,k,e2,hk⟩:=hr r wQ;have h1:=hb r wQ;have e3:c=k:=by have:=SD lM (e.symm.trans e2);rwa [aP,aP]at this
 rw[e,aP]at h1;exact⟨it,c,e,by lia,by lia,z⟩
theorem qb.ro{n:Nat}{m:Mx.D}(h:qb S (bM S n) m):p9 12 Pos (Bd 12 Pos n) m:=by obtain⟨it,c,e,h1,_,h3⟩:=h;exact⟨it,c,e,h1,h3.it λp hp=>hp.n⟩
theorem gN{N n:Nat}{ms:List Mx.D}(hN:2<=N)(hn:n<=18)(hl:ms.length<=12)(h:∀m∈ms,qb S (bM S n) m)(hs:wsum (λ_=>1) ms<=1000):aA fs N 13 [.lst (aa ms)] none= .ok (ofD (.tup (cg ms)),none):=by
 have d8:lim=1000000:=rfl;have hg:=FI (fs:=fs) (ig:=12) (t:=Jk) rfl (N:=N-1) ⋯ ⋯ (ms:=ms) ⋯ (λm hm=>(h m hm).ro) λrs x y z hd=>L8 rs x y z hd
 obtain⟨rs,e,Qc,IV⟩:=iQ hl h hs;cases e;generalize cg ms=rs at *;have hc:a9 (ck (.nm 1) (c9 (aA fs (N-1)) (.cons (.cmp .Gt (.idx (.var 1) (.con (.int 1))) (.con (.int 0))) .nil)) (dI (aA fs (N-1)) (.var 1)) [none,none]) (aa rs) none= .ok (rs.flatMap λm=>[ofD m],none):=mM _ λm hm=>by
  obtain⟨it,c,rfl,hc,_,_⟩:=IV m hm;have:=turn_if (F:=aA fs (N-1)) (tg:=.nm 1) (c:=.cmp .Gt (.idx (.var 1) (.con (.int 1))) (.con (.int 0))) (e:=.var 1) (b:=true) (y:=ofD (row it c)) (d:=ofD (row it c)) (ρ:=[none,none]) (ρ1:=[none,some (ofD (row it c))]) (S:=none) rfl (by
   have i1:bW (ofD (row it c)) (.int 1)= .ok (.int c):=by unfold row;simp only[ofD,aa];rfl
   simp only[RX,i1,QR hc]) λ_=>⟨rfl,rfl⟩
  exact this
 have e2:(rs.flatMap λm=>[ofD m])=aa rs:=by
  have:∀l:List Mx.D,(l.flatMap λm=>[ofD m])=aa l:=λl=>by
   induction l with
   |nil=>rfl
   |cons a l ih=>rw[RC,ih,aa];rfl
  exact this rs
 rw[e2]at hc;have CS:=dh (F:=aA fs (N-1)) (cap:=[none,none]) (ρ:=[some (.lst (aa ms))]) (S:=none) (ds:=aa rs) (S1:=none) (eN (c:=.call 12 (.cons (.var 0) .nil) []) (d:=.tup (aa rs)) (by simp only[RX,hg]) rfl) (by rw[aw];lia) rfl hc;refine aB (body:=JI) rfl ⋯ rfl ?_;show fin (aF (aA fs (N-1)) JI [some (.lst (aa ms))] none)=_;refine ao ?_;rw[we,CS,R.ai,ofD];rfl
end
variable{S:Str->Prop}
noncomputable def cH(f:Mx.D->Int)(it:Mx.D):Int:=1+((aU it).map f).sum
noncomputable def a8:Nat->Mx.D->Int
 |n+1,.tup rs=>wsum (cH (a8 n)) rs
 |_,_=>0
theorem wsum_snoc(w:Mx.D->Int)(p:List Mx.D)(r:Mx.D):wsum w (p++[r])=wsum w p+lM r*w (eM r):=by unfold wsum;rw[Q7,List.sum_append];simp
noncomputable def JS:Ts:=(.cons (.asg 4 (.con (.int 1))) (.cons (.ifs (.cmp .Eq (.idx (.var 2) (.con (.int 0))) (.con (.str "of"))) (.cons (.asg 4 (.bin .Add (.con (.int 1)) (.bi .sum (.cons (.comp [none,none] (.seq (.idx (.var 2) (.con (.int 2)))) (.nm 1) .nil (.call 15 (.cons (.var 1) .nil) [])) .nil)))) .nil) .nil) (.cons (.asg 1 (.bin .Add (.var 1) (.bin .Mult (.var 3) (.var 4)))) .nil)))
theorem kI:∀(n:Nat){N:Nat}{d:Mx.D},n+1<=N->bM S n d->aA fs N 15 [ofD d] none= .ok (.int (a8 n d),none)
 |0,_,_,_,h=>h.elim
 |n+1,N,d,hN,⟨rs,e,hl,hr⟩=>by
  subst e;have d8:lim=1000000:=rfl;refine aB (body:=JK) rfl ⋯ rfl ?_;show fin (aF (aA fs (N-1)) JK [some (ofD (.tup rs)),none,none,none,none] none)=_;have ed:ofD (.tup rs)= .tup (aa rs):=by simp[ofD]
  rw[ed];have loop:=bD (S:=none) (tg:=.tp [2,3]) (body:=aF (aA fs (N-1)) JS) (ds:=aa rs) (ρ:=[some (.tup (aa rs)),some (.int 0),none,none,none])
   (λpre ρ=>∃p a b c,pre=aa p/\ρ=[some (.tup (aa rs)),some (.int (wsum (cH (a8 n)) p)),a,b,c]) ⟨[],none,none,none,rfl,rfl⟩ (by
    rintro pre x post ρ e ⟨p,a,b,c,rfl,rfl⟩;obtain⟨p',y,q,e1,e2,rfl,rfl⟩:=gD e;have:=SD eW e2;rw[bJ,bJ]at this;cases this;obtain⟨it,k,rfl,P5,Kw,hi⟩:=hr y (by rw[e1];simp);generalize hT:wsum (cH (a8 n)) p=T;have eT:wsum (cH (a8 n)) (p++[row it k])=T+k*cH (a8 n) it:=by rw[wsum_snoc,hT,aP,aO]
    have mm:∀z:Int,kq .Mult (.int k) (.int z)= .ok (.int (k*z)):=λz=>bh (.inl ⋯)
    refine⟨_,_,eS it k,?_,p++[row it k],some (ofD it),some (.int k),some (.int (cH (a8 n) it)),by rw[aK];simp[aa],by rw[eT]⟩;refine aS (d:=.int 1) (S1:=none) rfl rfl ?_;rcases hi with ⟨x,rfl,_⟩|⟨x,ps,rfl,eL,jC⟩
    ·have e1:cH (a8 n) (cF x)=1:=by unfold cH;rw[bG];rfl
     rw[jS,e1];exact kn (S1:=none) (by simp only[RX];rfl) (aS (d:=.int (T+k*1)) (S1:=none) (by simp only[RX,mm]) rfl rfl)
    ·have e1:cH (a8 n) (ofT x ps)=1+(ps.map (a8 n)).sum:=by unfold cH;rw[aV]
     rw[ko,e1];have hc:a9 (ck (.nm 1) (c9 (aA fs (N-1)) .nil) (dI (aA fs (N-1)) (.call 15 (.cons (.var 1) .nil) [])) [none,none]) (aa ps) none= .ok (ps.map λp=>.int (a8 n p),none):=jX λp iR=>by have:=kI n (N:=N-1) ⋯ (jC p iR);exact eA (ρ1:=[none,some (ofD p)]) rfl (by simp only[RX,this]) rfl
     have zQ:ev (aA fs (N-1)) (.idx (.var 2) (.con (.int 2))) [some (.tup (aa rs)),some (.int T),some (.tup [.str "of",.str x,.tup (aa ps)]),some (.int k),some (.int 1)] none= .ok (.tup (aa ps),none):=by simp only[RX]
     have j7:=dh (cap:=[none,none]) (eN zQ rfl) (by rw[aw];lia) (se zQ (by simp only[fI];exact fV _)) hc;have KI:ev (aA fs (N-1)) (.bi .sum (.cons (.comp [none,none] (.seq (.idx (.var 2) (.con (.int 2)))) (.nm 1) .nil (.call 15 (.cons (.var 1) .nil) [])) .nil)) [some (.tup (aa rs)),some (.int T),some (.tup [.str "of",.str x,.tup (aa ps)]),some (.int k),some (.int 1)] none= .ok (.int (ps.map (a8 n)).sum,none):=by
      rw[we,j7,R.ai];have:(ps.map λp=>Dt.int (a8 n p))=(ps.map (a8 n)).map Dt.int:=by rw[RU];rfl
      rw[this,Ci];rfl
     exact qM (S1:=none) (by simp only[RX];rfl) (aS (d:=.int (1+(ps.map (a8 n)).sum)) (S1:=none) (CC rfl KI) rfl (aS (d:=.int (T+k*(1+(ps.map (a8 n)).sum))) (S1:=none) (by simp only[RX,mm]) rfl rfl)))
  obtain⟨ρ1,bI,p,a,b,c,e1,rfl⟩:=loop;have:=SD eW e1;rw[bJ,bJ]at this;cases this;exact au (d:=.int 0) (S1:=none) rfl rfl (bg (ds:=aa rs) (S1:=none) (by simp only[RX]) rfl bI (ao rfl))
section
variable{S:Str->Prop}{NM SG:Dt}{ns:List Int}
noncomputable def ve(S:Str->Prop)(NM:Dt):Prop:=∃L:Nat,0<L/\L<=1000/\c8 .len [NM]= .ok (.int L)/\∀p:Nat,p<L->∃x,bW NM (.int p)= .ok (.str x)/\S x
noncomputable def p8(S:Str->Prop)(NM SG:Dt)(ns:List Int)(n:Nat):Prop:=∀{N k room:Nat},2*n+8<=N->k<20000->room<=10->∃d,aA fs N 17 [.aQ ns,.int k,.int room,.int n,NM,SG] none= .ok (ofD d,none)/\bM S (n+1) d/\a8 (n+1) d<=room
noncomputable def vq(S:Str->Prop)(NM SG:Dt)(ns:List Int)(n:Nat):Prop:=∀{N k room:Nat},2*n+7<=N->k<20000->1<=room->room<=10->∃it,aA fs N 16 [.aQ ns,.int k,.int room,.int n,NM,SG] none= .ok (ofD it,none)/\rF S (bM S n) it/\cH (a8 n) it<=room
theorem eU{n:Nat}{it:Mx.D}(hn:∀d,bM S n d->0<=a8 n d)(h:rF S (bM S n) it):1<=cH (a8 n) it:=by
 unfold cH;rcases h with ⟨x,rfl,_⟩|⟨x,ps,rfl,_,hp⟩
 ·rw[bG];simp
 ·rw[aV];have:=i7 (l:=ps.map (a8 n)) λz hz=>by obtain⟨p,iR,rfl⟩:=QX.mp hz;exact hn p (hp p iR)
  lia
theorem dU:∀(n:Nat){d:Mx.D},bM S n d->0<=a8 n d
 |0,_,h=>h.elim
 |n+1,d,⟨rs,e,_,h⟩=>by
  subst e;show 0<=wsum (cH (a8 n)) rs;refine i7 λz hz=>?_
  obtain⟨r,hr,rfl⟩:=QX.mp hz;obtain⟨it,c,rfl,h1,_,h3⟩:=h r hr;have:=eU (λd hd=>dU n hd) h3;rw[aP,aO];exact Rt ⋯ ⋯
noncomputable def LR:Ts:=(.cons (.asg 11 (.call 17 (.cons (.var 0) (.cons (.call 10 (.cons (.var 1) (.cons (.bin .Add (.con (.int 3)) (.var 10)) .nil)) []) (.cons (.call 6 (.cons (.var 0) (.cons (.bin .Add (.bin .Add (.var 1) (.con (.int 3))) (.var 10)) (.cons (.bin .Add (.var 9) (.con (.int 1))) .nil))) []) (.cons (.bin .Sub (.var 3) (.con (.int 1))) (.cons (.var 4) (.cons (.var 5) .nil)))))) [])) (.cons (.app 8 (.var 11)) (.cons (.asg 9 (.bin .Sub (.var 9) (.call 15 (.cons (.var 11) .nil) []))) .nil)))
noncomputable def L5:Ts:=(.cons (.asgM 8 (.lst .nil)) (.cons (.asg 9 (.bin .Sub (.var 2) (.con (.int 1)))) (.cons (.fr (.nm 10) (.rng1 (.var 7)) (.cons (.asg 11 (.call 17 (.cons (.var 0) (.cons (.call 10 (.cons (.var 1) (.cons (.bin .Add (.con (.int 3)) (.var 10)) .nil)) []) (.cons (.call 6 (.cons (.var 0) (.cons (.bin .Add (.bin .Add (.var 1) (.con (.int 3))) (.var 10)) (.cons (.bin .Add (.var 9) (.con (.int 1))) .nil))) []) (.cons (.bin .Sub (.var 3) (.con (.int 1))) (.cons (.var 4) (.cons (.var 5) .nil)))))) [])) (.cons (.app 8 (.var 11)) (.cons (.asg 9 (.bin .Sub (.var 9) (.call 15 (.cons (.var 11) .nil) []))) .nil)))) (.cons (.ret (.tup (.cons (.con (.str "of")) (.cons (.idx (.var 5) (.call 6 (.cons (.var 0) (.cons (.bin .Add (.var 1) (.con (.int 1))) (.cons (.bi .len (.cons (.var 5) .nil)) .nil))) [])) (.cons (.bi .tuple (.cons (.mvr 8) .nil)) .nil))))) .nil))))
theorem pk{N:Nat}(hN:2<=N)(k many:Nat)(h1:k<30000)(h2:0<many):aA fs N 6 [.aQ ns,.int k,.int many] none= .ok (.int (bt ns k many),none):=tD (fs:=fs) wG (n:=N) hN (ns:=ns) (k:=k) (many:=many) ⋯ h2
theorem oW{n:Nat}(Bt:ve S NM)(yZ:ve (λ_=>True) SG)(hF:∀m,n=m+1->p8 S NM SG ns m):vq S NM SG ns n:=λ {N k room} hN hk h1 FM=>by
 have d8:lim=1000000:=rfl;obtain⟨L,L0,L1,hL,N2⟩:=Bt;obtain⟨G,G0,G1,hG,NX⟩:=yZ;have w0:aA fs (N-1) 6 [.aQ ns,.int k,.int 4] none=_:=pk (ns:=ns) (N:=N-1) ⋯ k 4 ⋯ (by decide);have eK:∀j:Nat,(k:Int)+(j:Int)=((k+j:Nat):Int):=λj=>by lia
 generalize hw:bt ns k 4=way at w0;by_cases hz:way=0
 ·subst hz;have p1:=pk (ns:=ns) (N:=N-1) ⋯ (k+1) L ⋯ L0;obtain⟨x,hx,sx⟩:=N2 _ (aW (ns:=ns) (k:=k+1) (many:=L) L0);refine⟨cF x,aB (body:=EM) rfl ⋯ rfl ?_,.inl ⟨x,rfl,sx⟩,by unfold cH;rw[bG];simp;lia⟩;show fin (aF (aA fs (N-1)) EM [some (.aQ ns),some (.int k),some (.int room),some (.int n),some NM,some SG,none,none,none,none,none,none] none)=_;have ek:(k:Int)+1=((k+1:Nat):Int):=⋯
  refine au (d:=.int 0) (S1:=none) (by simp only[RX,w0];rfl) rfl (dJ (S1:=none) (by simp only[RX];rfl) (ao ?_));rw[jS];simp only[RX,hL,ek,p1,hx]
 ·have w1:((way:Int)==0)=false:=SA.mpr ⋯;have pw:way<4:=by rw[<-hw];exact aW (by decide)
  obtain⟨many,P9,OC,hm⟩:∃many:Nat,many<=3/\(0<many->∃m,n=m+1)/\fin (aF (aA fs (N-1)) EM [some (.aQ ns),some (.int k),some (.int room),some (.int n),some NM,some SG,none,none,none,none,none,none] none)=fin (aF (aA fs (N-1)) L5 [some (.aQ ns),some (.int k),some (.int room),some (.int n),some NM,some SG,some (.int way),some (.int many),none,none,none,none] none):=by
   by_cases hc:0<n/\1<way
   ·have p2:=pk (ns:=ns) (N:=N-1) ⋯ (k+2) 3 ⋯ (by decide);have lt:=aW (ns:=ns) (k:=k+2) (many:=3) (by decide);have ek:(k:Int)+2=((k+2:Nat):Int):=⋯
    have p2:aA fs (N-1) 6 [.aQ ns,.int ((k+2:Nat):Int),.int 3] none= .ok (.int ((bt ns (k+2) 3:Nat):Int),none):=p2;refine⟨1+bt ns (k+2) 3,by lia,λ_=>⟨n-1,by lia⟩,?_⟩;have c1:(0:Int)<(n:Int):=⋯
    have c2:(1:Int)<(way:Int):=⋯
    refine au (d:=.int way) (S1:=none) (by simp only[RX,w0]) rfl (cA (S1:=none) (by simp only[RX,w1]) (au (d:=.int 0) (S1:=none) rfl rfl (dJ (S1:=none) (by simp only[RX,QR c1,QR c2];rfl) (au (d:=.int ((1+bt ns (k+2) 3:Nat):Int)) (S1:=none) ?_ rfl rfl))));simp only[RX,ek,p2];rw[Int.natCast_add];rfl
   ·refine⟨0,by lia,λz=>absurd z ⋯,?_⟩;refine au (d:=.int way) (S1:=none) (by simp only[RX,w0]) rfl (cA (S1:=none) (by simp only[RX,w1]) (au (d:=.int 0) (S1:=none) rfl rfl (cA (S1:=none) ?_ rfl)));by_cases c1:(0:Int)<(n:Int)
    ·simp only[RX,QR c1,QN (show¬(1:Int)<(way:Int) by lia)];rfl
    ·simp only[RX,QN c1];rfl
  have loop:=bD (S:=none) (tg:=.nm 10) (body:=aF (aA fs (N-1)) LR) (ds:=bf 0 many) (ρ:=[some (.aQ ns),some (.int k),some (.int room),some (.int n),some NM,some SG,some (.int way),some (.int many),some (.lst []),some (.int ((room:Int)-1)),none,none])
   (λpre ρ=>∃(ps:List Mx.D)(lf:Nat)(x y:Option Dt),ps.length=pre.length/\(∀p∈ps,bM S n p)/\(ps.map (a8 n)).sum+lf=(room:Int)-1/\ρ=[some (.aQ ns),some (.int k),some (.int room),some (.int n),some NM,some SG,some (.int way),some (.int many),some (.lst (aa ps)),some (.int lf),x,y])
   ⟨[],room-1,none,none,rfl,by simp,by simp;lia,by rw[show ((room-1:Nat):Int)=(room:Int)-1 by lia];rfl⟩ (by
    rintro pre y post ρ e ⟨ps,lf,Ia,PJ,hl,jC,IY,rfl⟩;obtain⟨hj,rfl⟩:=cD e;have e1:(pre++[Dt.int pre.length]).length=pre.length+1:=by simp
    generalize pre.length=j at *;obtain⟨m,rfl⟩:=OC ⋯;have s0:=i7 (l:=ps.map (a8 (m+1))) λz hz=>by obtain⟨p,iR,rfl⟩:=QX.mp hz;exact dU _ (jC p iR)
    have Pc:lf<=9:=⋯
    have Lg:=sZ (fs:=fs) (i:=10) rfl (n:=N-1) ⋯ (k:=k) (j:=3+j);have e3:(3:Int)+(j:Int)=((3+j:Nat):Int):=⋯
    have e4:(k:Int)+3+(j:Int)=((k+3+j:Nat):Int):=⋯
    have e5:(lf:Int)+1=((lf+1:Nat):Int):=⋯
    have e6:((m+1:Nat):Int)-1=(m:Int):=⋯
    have p3:=pk (ns:=ns) (N:=N-1) ⋯ (k+3+j) (lf+1) ⋯ ⋯;have lt:=aW (ns:=ns) (k:=k+3+j) (many:=lf+1) ⋯;generalize bt ns (k+3+j) (lf+1)=r at p3 lt;have:=o8 (k:=k) (j:=3+j);obtain⟨d,hd,fd,sd⟩:=hF m rfl (N:=N-1) (k:=ma k (3+j)) (room:=r) ⋯ ⋯ ⋯;have hz:=kI (m+1) (N:=N-1) ⋯ fd;refine⟨_,_,rfl,aS (d:=ofD d) (S1:=none) (by simp only[RX,Lg,e3,e4,e5,e6,p3,hd]) (by unfold bo;rw[aZ,Ri]) (fJ (ds:=aa ps) (d:=ofD d) (S1:=none) rfl rfl (by unfold bo;rw[aZ,Ri]) (by rw[aw];lia) (aS (d:=.int ((lf:Int)-a8 (m+1) d)) (S1:=none) (by simp only[RX,hz]) rfl rfl)),ps++[d],((lf:Int)-a8 (m+1) d).toNat,some (.int j),some (ofD d),by rw[e1,QE,RQ,hl],λp hp=>?_,?_,?_⟩
    ·rcases QK.mp hp with hp|hp
     ·exact jC p hp
     ·rw[QW]at hp;subst hp;exact fd
    ·rw[Q7,List.sum_append];simp
     lia
    ·rw[aK,show ((((lf:Int)-a8 (m+1) d).toNat:Nat):Int)=(lf:Int)-a8 (m+1) d by lia];simp[aa])
  obtain⟨ρ1,bI,ps,lf,Ia,PJ,hl,jC,IY,rfl⟩:=loop;have em:(bf 0 many).length=many:=by simp[bf]
  have p1:=pk (ns:=ns) (N:=N-1) ⋯ (k+1) G ⋯ G0;obtain⟨x,hx,_⟩:=NX _ (aW (ns:=ns) (k:=k+1) (many:=G) G0);have ek:(k:Int)+1=((k+1:Nat):Int):=⋯
  refine⟨ofT x ps,aB (body:=EM) rfl ⋯ rfl ?_,.inr ⟨x,ps,rfl,by lia,jC⟩,by unfold cH;rw[aV];lia⟩;show fin (aF (aA fs (N-1)) EM [some (.aQ ns),some (.int k),some (.int room),some (.int n),some NM,some SG,none,none,none,none,none,none] none)=_;rw[hm];refine dz (d:=.lst []) (S1:=none) rfl rfl (au (d:=.int ((room:Int)-1)) (S1:=none) (by simp only[RX]) rfl (bg (ds:=bf 0 many) (S1:=none) (dO (n:=many) (by simp only[RX]) ⋯) rfl bI (ao ?_)));rw[ko];simp only[RX,hG,ek,p1,hx]
noncomputable def HK:Ts:=(.cons (.ifs (.cmp .Gt (.var 2) (.con (.int 0))) (.cons (.asg 8 (.call 16 (.cons (.var 0) (.cons (.call 10 (.cons (.var 1) (.cons (.var 7) .nil)) []) (.cons (.var 2) (.cons (.var 3) (.cons (.var 4) (.cons (.var 5) .nil)))))) [])) (.cons (.asg 9 (.call 15 (.cons (.tup (.cons (.tup (.cons (.var 8) (.cons (.con (.int 1)) .nil))) .nil)) .nil) [])) (.cons (.asg 10 (.bin .Add (.con (.int 1)) (.call 6 (.cons (.var 0) (.cons (.bin .Add (.bin .Add (.var 1) (.con (.int 1))) (.var 7)) (.cons (.con (.int 2)) .nil))) []))) (.cons (.ifs (.cmp .Gt (.bin .Mult (.var 9) (.var 10)) (.var 2)) (.cons (.asg 10 (.con (.int 1))) .nil) .nil) (.cons (.app 6 (.tup (.cons (.var 8) (.cons (.var 10) .nil)))) (.cons (.asg 2 (.bin .Sub (.var 2) (.bin .Mult (.var 9) (.var 10)))) .nil)))))) .nil) .nil)
noncomputable def HJ:Ts:=(.cons (.app 6 (.tup (.cons (.var 8) (.cons (.var 10) .nil)))) (.cons (.asg 2 (.bin .Sub (.var 2) (.bin .Mult (.var 9) (.var 10)))) .nil))
theorem sA{n:Nat}(hn:n<=4)(hI:vq S NM SG ns n):p8 S NM SG ns n:=λ {N k room} hN hk FM=>by
 have d8:lim=1000000:=rfl;have p5:aA fs (N-1) 6 [.aQ ns,.int k,.int 5] none=_:=pk (ns:=ns) (N:=N-1) ⋯ k 5 ⋯ (by decide);have Pe:=aW (ns:=ns) (k:=k) (many:=5) (by decide);generalize bt ns k 5=q at p5 Pe;have loop:=bD (S:=none) (tg:=.nm 7) (body:=aF (aA fs (N-1)) HK) (ds:=bf 0 (1+q)) (ρ:=[some (.aQ ns),some (.int k),some (.int room),some (.int n),some NM,some SG,some (.lst []),none,none,none,none])
  (λpre ρ=>∃(ms:List Mx.D)(rm:Nat)(x y z u:Option Dt),ms.length<=pre.length/\(∀m∈ms,qb S (bM S n) m)/\wsum (cH (a8 n)) ms+rm=room/\wsum (λ_=>1) ms<=2*ms.length/\ρ=[some (.aQ ns),some (.int k),some (.int rm),some (.int n),some NM,some SG,some (.lst (aa ms)),x,y,z,u])
  ⟨[],room,none,none,none,none,Qu _,by simp,by unfold wsum;simp,by unfold wsum;simp,rfl⟩ (by
   rintro pre y post ρ e ⟨ms,rm,x7,x8,x9,Ia,hl,n0,IY,Kr,rfl⟩;obtain⟨hj,rfl⟩:=cD e;have e1:(pre++[Dt.int pre.length]).length=pre.length+1:=by simp
   generalize pre.length=j at *;have s0:0<=wsum (cH (a8 n)) ms:=i7 λz hz=>by obtain⟨r,hr,rfl⟩:=QX.mp hz;obtain⟨it,c,rfl,h1,_,h3⟩:=n0 r hr;have:=eU (λd hd=>dU n hd) h3;rw[aP,aO];exact Rt ⋯ ⋯
   by_cases hr:(0:Int)<(rm:Int)
   ·have Lg:=sZ (fs:=fs) (i:=10) rfl (n:=N-1) ⋯ (k:=k) (j:=j);have:=o8 (k:=k) (j:=j);obtain⟨it,hit,fit,Qi⟩:=hI (N:=N-1) (k:=ma k j) (room:=rm) ⋯ ⋯ ⋯ ⋯;have f1:bM S (n+1) (.tup [row it 1]):=⟨[row it 1],rfl,by simp,λr hr=>by rw[QW]at hr;exact⟨it,1,hr,by decide,by decide,fit⟩⟩;have hz:=kI (n+1) (N:=N-1) ⋯ f1;have ez:a8 (n+1) (.tup [row it 1])=cH (a8 n) it:=by show wsum (cH (a8 n)) [row it 1]=_;rw[bq,aP,aO,Int.one_mul];unfold wsum;simp
    have ed:ofD (.tup [row it 1])= .tup [.tup [ofD it,.int 1]]:=by unfold row;simp[ofD,aa]
    rw[ez,ed]at hz;have pos:=eU (λd hd=>dU n hd) fit;generalize Oe:cH (a8 n) it=cost at *;have e4:(k:Int)+1+(j:Int)=((k+1+j:Nat):Int):=⋯
    have p2:aA fs (N-1) 6 [.aQ ns,.int ((k+1+j:Nat):Int),.int 2] none=_:=pk (ns:=ns) (N:=N-1) ⋯ (k+1+j) 2 ⋯ (by decide);have Pd:=aW (ns:=ns) (k:=k+1+j) (many:=2) (by decide);generalize bt ns (k+1+j) 2=b at p2 Pd;have mm:∀z:Int,kq .Mult (.int cost) (.int z)= .ok (.int (cost*z)):=λz=>bh (.inl ⋯)
    have dn:ofD (row it 0)=ofD (row it 0):=rfl;have tl:∀c:Int,aF (aA fs (N-1)) HJ [some (.aQ ns),some (.int k),some (.int rm),some (.int n),some NM,some SG,some (.lst (aa ms)),some (.int j),some (ofD it),some (.int cost),some (.int c)] none= .ok (.next,[some (.aQ ns),some (.int k),some (.int ((rm:Int)-cost*c)),some (.int n),some NM,some SG,some (.lst (aa (ms++[row it c]))),some (.int j),some (ofD it),some (.int cost),some (.int c)],none):=λc=>by refine fJ (ds:=aa ms) (d:=ofD (row it c)) (S1:=none) rfl (by unfold row;simp only[RX,ofD,aa]) (by unfold bo;rw[aZ,Ri]) (by rw[aw];lia) (aS (d:=.int ((rm:Int)-cost*c)) (S1:=none) (by simp only[RX,mm]) rfl ?_);rw[aK];simp only[aa];rfl
    have done:∀c:Int,0<c->c<=2->cost*c<=rm->∃(uM:List Mx.D)(Ng:Nat)(x y z u:Option Dt),uM.length<=j+1/\(∀m∈uM,qb S (bM S n) m)/\wsum (cH (a8 n)) uM+Ng=room/\wsum (λ_=>1) uM<=2*uM.length/\[some (.aQ ns),some (.int k),some (.int ((rm:Int)-cost*c)),some (.int n),some NM,some SG,some (.lst (aa (ms++[row it c]))),some (.int j),some (ofD it),some (.int cost),some (.int c)]=[some (.aQ ns),some (.int k),some (.int Ng),some (.int n),some NM,some SG,some (.lst (aa uM)),x,y,z,u]:=λc c0 c2 hc=>
     ⟨ms++[row it c],((rm:Int)-cost*c).toNat,some (.int j),some (ofD it),some (.int cost),some (.int c),by rw[QE,RQ];lia,λm hm=>by
      rcases QK.mp hm with hm|hm
      ·exact n0 m hm
      ·rw[QW]at hm;exact⟨it,c,hm,c0,by lia,fit⟩,by
      rw[wsum_snoc,aP,aO,Oe,Int.mul_comm c];lia,by
      rw[wsum_snoc,aP,Int.mul_one,QE,RQ];lia,by
      rw[show ((((rm:Int)-cost*c).toNat:Nat):Int)=(rm:Int)-cost*c by lia]⟩
    have hd:∀{r:RS},aF (aA fs (N-1)) (.cons (.ifs (.cmp .Gt (.bin .Mult (.var 9) (.var 10)) (.var 2)) (.cons (.asg 10 (.con (.int 1))) .nil) .nil) HJ) [some (.aQ ns),some (.int k),some (.int rm),some (.int n),some NM,some SG,some (.lst (aa ms)),some (.int j),some (ofD it),some (.int cost),some (.int ((1:Int)+b))] none=r->aF (aA fs (N-1)) HK [some (.aQ ns),some (.int k),some (.int rm),some (.int n),some NM,some SG,some (.lst (aa ms)),some (.int j),x8,x9,Ia] none=r:=λ {r} h=>
     qM (S1:=none) (by simp only[RX,QR hr]) (aS (d:=ofD it) (S1:=none) (by simp only[RX,Lg,hit]) (by unfold bo;rw[aZ,Ri]) (aS (d:=.int cost) (S1:=none) (by simp only[RX,hz]) rfl (aS (d:=.int ((1:Int)+b)) (S1:=none) (by simp only[RX,e4,p2]) rfl h)))
    by_cases hg:(rm:Int)<cost*((1:Int)+b)
    ·refine⟨_,_,rfl,hd (qM (S1:=none) (by simp only[RX,mm,QR hg]) (aS (d:=.int 1) (S1:=none) rfl rfl (tl 1))),?_⟩;rw[e1];exact done 1 (by decide) (by decide) ⋯
    ·refine⟨_,_,rfl,hd (kn (S1:=none) (by simp only[RX,mm,QN hg]) (tl _)),?_⟩;rw[e1];exact done _ ⋯ ⋯ ⋯
   ·exact⟨_,_,rfl,kn (S1:=none) (by simp only[RX,QN hr]) rfl,ms,rm,some (.int j),x8,x9,Ia,by lia,n0,IY,Kr,rfl⟩)
 obtain⟨ρ1,bI,ms,rm,x7,x8,x9,Ia,hl,n0,IY,Kr,rfl⟩:=loop;have em:(bf 0 (1+q)).length=1+q:=by simp[bf]
 rw[em]at hl;have ha:=gN (N:=N-1) (ms:=ms) ⋯ ⋯ ⋯ n0 ⋯;have e1:(1:Int)+(q:Int)=((1+q:Nat):Int):=⋯
 refine⟨.tup (cg ms),aB (body:=JL) rfl ⋯ rfl ?_,iQ ⋯ n0 ⋯,?_⟩
 ·show fin (aF (aA fs (N-1)) JL [some (.aQ ns),some (.int k),some (.int room),some (.int n),some NM,some SG,none,none,none,none,none] none)=_;exact dz (d:=.lst []) (S1:=none) rfl rfl (bg (ds:=bf 0 (1+q)) (S1:=none) (dO (n:=1+q) (by simp only[RX,p5,e1]) ⋯) rfl bI (ao (by simp only[RX,ha])))
 ·show wsum (cH (a8 n)) (cg ms)<=room;rw[fZ]
  lia
end
section
variable{S:Str->Prop}{NM SG:Dt}{ns:List Int}
theorem drawn(Bt:ve S NM)(yZ:ve (λ_=>True) SG):∀n,n<=4->p8 S NM SG ns n
 |0,h=>sA h (oW Bt yZ λm e=>by lia)
 |n+1,h=>sA h (oW Bt yZ λm e=>by
  have:n=m:=⋯
  subst this;exact λ {_ _ _}=>drawn Bt yZ n ⋯)
noncomputable def cw(n:Nat)(d:Mx.D):List Str:=(iT n d).flatMap dg
theorem fB:∀(n:Nat){d:Mx.D},bM S n d->((iT n d).length:Int)<=a8 n d
 |0,_,h=>h.elim
 |n+1,d,⟨rs,e,_,h⟩=>by
  subst e;show (((rs.flatMap (jo (iT n))).length:Nat):Int)<=wsum (cH (a8 n)) rs;have key:∀l:List Mx.D,(∀r∈l,qb S (bM S n) r)->(((l.flatMap (jo (iT n))).length:Nat):Int)<=wsum (cH (a8 n)) l:=λl=>by
   induction l with
   |nil=>intro _;simp[wsum]
   |cons r l ih=>
    intro hl;have h1:=ih λq hq=>hl q (Qt _ hq)
    obtain⟨it,c,rfl,c0,_,hi⟩:=hl r Qv;have h2:((((aU it).flatMap (iT n)).length:Nat):Int)<=((aU it).map (a8 n)).sum:=by
     have all:∀p∈aU it,bM S n p:=by
      rcases hi with ⟨x,rfl,_⟩|⟨x,ps,rfl,_,hp⟩
      ·rw[bG];simp
      ·rw[aV];exact hp
     generalize aU it=ps at all
     induction ps with
     |nil=>simp
     |cons p ps ih2=>
      have:=ih2 λq hq=>all q (Qt _ hq)
      have:=fB n (all p Qv);rw[RC,QE,Q6,R8]
      lia
    rw[RC,QE,bq,aP,aO];have e:(jo (iT n) (row it c)).length=1+((aU it).flatMap (iT n)).length:=by show (it::(aU it).flatMap (iT n)).length=_;rw[QG];lia
    have pos:=eU (λd hd=>dU n hd) hi;have h3:1*cH (a8 n) it<=c*cH (a8 n) it:=Rr ⋯ ⋯;have h4:cH (a8 n) it=1+((aU it).map (a8 n)).sum:=rfl;rw[e]
    lia
  exact key rs h
theorem qE:∀(n:Nat){d:Mx.D},bM S n d->∀m∈iT n d,rF S (λp=>bM S n p) m
 |0,_,h=>h.elim
 |n+1,d,⟨rs,e,_,h⟩=>λm hm=>by
  subst e;obtain⟨r,hr,hm⟩:=RZ.mp (show m∈rs.flatMap (jo (iT n)) from hm);obtain⟨it,c,rfl,_,_,hi⟩:=h r hr;have up:∀p,bM S n p->bM S (n+1) p:=λp hp=>hp.mono (λ_ z=>z) ⋯
  rcases QA.mp (show m∈it::(aU it).flatMap (iT n) from hm)with rfl|hm
  ·exact hi.imp (λ_ z=>z) up
  ·obtain⟨p,hp,hm⟩:=RZ.mp hm;have fp:bM S n p:=by
    rcases hi with ⟨x,rfl,_⟩|⟨x,ps,rfl,_,jC⟩
    ·rw[bG]at hp;cases hp
    ·rw[aV]at hp;exact jC p hp
   exact(qE n fp m hm).imp (λ_ z=>z) up
theorem BH{n:Nat}{d:Mx.D}(h:bM S n d):∀x∈cw n d,S x:=λx hx=>by
 obtain⟨m,hm,hx⟩:=RZ.mp hx;rcases qE n h m hm with ⟨y,rfl,sy⟩|⟨y,ps,rfl,_⟩
 ·simp only[cF,dg,QW]at hx;rw[hx];exact sy
 ·simp only[ofT,dg,QB]at hx
theorem uI{N n:Nat}{d:Mx.D}(hN:n+1<=N)(h:bM S n d)(hs:a8 n d<=50):aA fs N 1 [ofD d] none= .ok (.lst (aa (iT n d)),none):=by have d8:lim=1000000:=rfl;have:=fB n h;refine lW (fs:=fs) (ip:=0) (ii:=1) rfl rfl (λ {N d0 d2 d3 acc ds p} hs hz=>?_) hN h.g ⋯;refine(Dz (ds:=aa acc) (es:=aa ds) (S1:=none) rfl (by simp only[RX,hs]) (Nat.le_of_ble_eq_true rfl) (by rw[aw,aw];lia) rfl).trans ?_;rw[aK];rfl
noncomputable def eB(n:Nat)(d:Mx.D):List Mx.D:=a6 ((dd (cw n d)).map Mx.D.str)
theorem tU{N n:Nat}{d:Mx.D}(hN:n+2<=N)(h:bM S n d)(hs:a8 n d<=50):aA fs N 2 [ofD d] none= .ok (.tup (aa (eB n d)),none):=by have:=fB n h;exact A9 (fs:=fs) (iu:=2) (ii:=1) rfl ⋯ (λm hm=>(qE n h m hm).i λp hp=>hp) ⋯ (uI (N:=N-1) ⋯ h hs)
theorem fY{n:Nat}{d:Mx.D}{m:Mx.D}:m∈eB n d↔∃x,m= .str x/\x∈cw n d:=by
 unfold eB;rw[ey,QX];constructor
 ·rintro⟨x,hx,rfl⟩;exact⟨x,rfl,ET.mp hx⟩
 ·rintro⟨x,rfl,hx⟩;exact⟨x,ET.mpr hx,rfl⟩
theorem pq:∀l:List Mx.D,(∀m∈l,∃x,m= .str x)->jn (aa l)=true/\kU (aa l)=0
 |[],_=>⟨rfl,rfl⟩
 |m::l,h=>by
  obtain⟨x,rfl⟩:=h m Qv;obtain⟨h1,h2⟩:=pq l λm hm=>h m (Qt _ hm)
  exact⟨by simp[aa,jn,pl,ofD,h1],by simp[aa,kU,dp,ofD,h2]⟩
theorem sN(x:Str):∀l:List Mx.D,(∀m∈l,∃x,m= .str x)->inD (.str x) (aa l)=decide (Mx.D.str x∈l)
 |[],_=>by simp[aa,inD]
 |m::l,h=>by
  obtain⟨y,rfl⟩:=h m Qv;have ih:=sN x l λm hm=>h m (Qt _ hm)
  unfold inD at ih ⊢;rw[aa,List.any_cons,ih];simp only[ofD,bS,QA,Mx.D.str.injEq,Bool.decide_or];congr 1;by_cases e:y=x
  ·subst e;simp
  ·have:¬x=y:=λz=>e z.symm
   simp[e,this]
theorem xu{l:List Mx.D}(h:∀m∈l,∃x,m= .str x)(x:Str):c7 .NotIn (.str x) (.tup (aa l))= .ok (!decide (Mx.D.str x∈l)):=by obtain⟨h1,h2⟩:=pq l h;show af (pl (.str x)&&jn (aa l)&&decide (kU (aa l)<=100)) (R.ok (!inD (.str x) (aa l)))=_;rw[h1,h2,sN x l h];rfl
theorem Cd(l:List Bool):c8 .any [.lst (l.map Dt.bl)]= .ok (.bl (l.any id)):=by
 have:∀l:List Bool,gO (l.map Dt.bl)=some l:=λl=>by
  induction l with
  |nil=>rfl
  |cons b l ih=>rw[Q6,gO,ih];rfl
 show (match gO (l.map Dt.bl)with|some ns=>R.ok (Dt.bl (ns.any id))|none=>R.bad)=_;rw[this]
theorem kH{N n m:Nat}{l r:Mx.D}{S':Str->Prop}(hN:8<=N)(hn:n<=5)(hm:m<=5)(hl:bM S n l)(hr:bM S' m r)(sl:a8 n l<=50)(sr:a8 m r<=50)(ne:l≠ .tup []):
  aA fs N 3 [ofD l,ofD r] none=if (∀x∈cw m r,x∈cw n l) then .ok (.tup [ofD l,ofD r],none) else .ex 0:=by
 have d8:lim=1000000:=rfl;have u1:=tU (N:=N-1) ⋯ hl sl;have u2:=tU (N:=N-1) ⋯ hr sr;have s1:∀m∈eB n l,∃x,m= .str x:=λq hq=>by obtain⟨x,e,_⟩:=fY.mp hq;exact⟨x,e⟩
 have s2:∀q∈eB m r,∃x,q= .str x/\x∈cw m r:=λq hq=>fY.mp hq
 have hc:a9 (ck (.nm 1) (c9 (aA fs (N-1)) .nil) (dI (aA fs (N-1)) (.cmp .NotIn (.var 1) (.call 2 (.cons (.var 2) .nil) []))) [none,none,some (ofD l)]) (aa (eB m r)) none= .ok ((eB m r).map λq=>.bl (!decide (q∈eB n l)),none):=jX λq hq=>by obtain⟨x,rfl,_⟩:=s2 q hq;have:=xu s1 x;exact eA (ρ1:=[none,some (.str x),some (ofD l)]) (by simp[ofD,dG]) (by simp only[RX,u1,this]) rfl
 have CS:=dh (F:=aA fs (N-1)) (cap:=[none,none,some 0]) (ρ:=[some (ofD l),some (ofD r)]) (S:=none) (ds:=aa (eB m r)) (S1:=none) (eN (c:=.call 2 (.cons (.var 1) .nil) []) (d:=.tup (aa (eB m r))) (by simp only[RX,u2]) rfl) (by
  rw[aw];have h1:=fB m hr;have h2:=iY (its:=iT m r);have h3:=mQ (cw m r);have h4:(eB m r).length=(dd (cw m r)).length:=by unfold eB;rw[(cy _).length_eq,Qx]
  unfold cw at h3 h4
  lia) rfl hc
 have e1:((eB m r).map λq=>Dt.bl (!decide (q∈eB n l)))=((eB m r).map λq=> !decide (q∈eB n l)).map Dt.bl:=by rw[RU];rfl
 rw[e1]at CS;have FZ:cW (aA fs (N-1)) (.bi .any (.cons (.comp [none,none,some 0] (.seq (.call 2 (.cons (.var 1) .nil) [])) (.nm 1) .nil (.cmp .NotIn (.var 1) (.call 2 (.cons (.var 2) .nil) []))) .nil)) [some (ofD l),some (ofD r)] none= .ok (((eB m r).map λq=> !decide (q∈eB n l)).any id,none):=by simp only[RX,CS,Cd]
 have nr:c7 .Eq (ofD l) (.tup [])= .ok false:=by have h:=mL (a:=l) (b:=.tup []) (by have:=jd hl.n;lia);rw[show ofD (.tup [])= .tup [] by simp[ofD,aa]]at h;rw[h];simp[ne]
 have hq:(((eB m r).map λq=> !decide (q∈eB n l)).any id)= !decide (∀x∈cw m r,x∈cw n l):=by
  rw[Rc];simp only[List.any_map,QZ,Function.comp,id,Rg,decide_eq_false_iff_not];constructor
  ·rintro⟨q,hq,Kx⟩ hall;obtain⟨x,rfl,hx⟩:=fY.mp hq;exact Kx (fY.mpr ⟨x,rfl,hall x hx⟩)
  ·intro hall;refine Rj λw=>hall λx hx=>Rj λz=>w ⟨.str x,fY.mpr ⟨x,rfl,hx⟩,λy=>?_⟩
   obtain⟨x',e,n9⟩:=fY.mp y;cases e;exact z n9
 rw[hq]at FZ;refine aB (body:=b3) rfl ⋯ rfl ?_;show fin (aF (aA fs (N-1)) b3 [some (ofD l),some (ofD r)] none)=_;refine cA (S1:=none) (by simp only[RX];rw[nr];rfl) ?_;by_cases hall:∀x∈cw m r,x∈cw n l
 ·rw[SH hall];rw[QR hall]at FZ;exact cA (S1:=none) FZ (ao (by simp only[RX]))
 ·rw[SF hall];rw[QN hall]at FZ;exact dJ (S1:=none) FZ (Br (by rw[ex];rfl))
theorem mf{N:Nat}{r:Dt}(hN:2<=N):aA fs N 3 [.tup [],r] none= .ex 0:=by refine aB (body:=b3) rfl ⋯ rfl ?_;show fin (aF (aA fs (N-1)) b3 [some (.tup []),some r] none)=_;exact dJ (S1:=none) (by simp only[RX];rfl) (Br (by rw[ex];rfl))
theorem gC{N:Nat}{a b:Dt}(hN:2<=N)(h:aA fs (N-1) 3 [a,b] none= .ex 0):aA fs N 23 [a,b] none= .ok (.bl true,none):=by refine aB (body:=JP) rfl ⋯ rfl ?_;show fin (aF (aA fs (N-1)) JP [some a,some b,none,none] none)=_;refine sk (S1:=none) (ρ1:=[some a,some b,none,none]) ?_;rw[ex];have:aF (aA fs (N-1)) (.cons (.FA (.call 3 (.cons (.var 0) (.cons (.var 1) .nil)) [])) .nil) [some a,some b,none,none] none= .ex 0:=Lh (by rw[ex];simp only[RX,h];rfl);rw[this];rfl
end
section
variable{S:Str->Prop}{NM SG:Dt}{ns:List Int}
theorem strs_map:∀{l:List Mx.D},(∀m∈l,∃x,m= .str x)->∃zs:List Str,l=zs.map Mx.D.str
 |[],_=>⟨[],rfl⟩
 |m::l,h=>by
  obtain⟨x,rfl⟩:=h m Qv;obtain⟨zs,rfl⟩:=strs_map λm hm=>h m (Qt _ hm)
  exact⟨x::zs,rfl⟩
theorem iZ:∀zs:List Str,aa (zs.map Mx.D.str)=zs.map Dt.str
 |[]=>rfl
 |x::zs=>by rw[Q6,aa,iZ zs];simp[ofD]
noncomputable def LX:Ts:=(.cons (.ifs (.cmp .Eq (.idx (.var 2) (.con (.int 0))) (.con (.str "any"))) (.cons (.app 1 (.idx (.var 2) (.con (.int 1)))) .nil) (.cons (.fr (.nm 4) (.seq (.idx (.var 2) (.con (.int 2)))) (.cons (.asgM 1 (.bin .Add (.mvr 1) (.call 20 (.cons (.var 4) .nil) []))) .nil)) .nil)) .nil)
noncomputable def td(n:Nat)(p:List Mx.D):List Str:=(p.flatMap (jo (iT n))).flatMap dg
theorem fH(n:Nat)(p:List Mx.D)(it:Mx.D)(c:Int):td n (p++[row it c])=td n p++(dg it++(aU it).flatMap (cw n)):=by unfold td;rw[List.flatMap_append,List.flatMap_append];congr 1;show ((it::(aU it).flatMap (iT n))++[]).flatMap dg=_;rw[Q2,RC];congr 1;rw[List.flatMap_assoc];rfl
theorem xx:∀(n:Nat){N:Nat}{d:Mx.D},n+1<=N->bM S n d->(cw n d).length<=60->∃ys:List Str,aA fs N 20 [ofD d] none= .ok (.lst (ys.map Dt.str),none)/\(∀x,x∈ys↔x∈cw n d)/\ys.length<=(cw n d).length
 |0,_,_,_,h,_=>h.elim
 |n+1,N,d,hN,⟨rs,e,hl,hr⟩,hB=>by
  subst e;have d8:lim=1000000:=rfl;have hB:(td n rs).length<=60:=hB;have loop:=iP (S:=none) (tg:=.tp [2,3]) (ds:=rs) (ρ:=[some (.tup (aa rs)),some (.lst []),none,none,none]) (body:=aF (aA fs (N-1)) LX)
   (λp ρ=>∃(ys:List Str)(x y z:Option Dt),(∀x,x∈ys↔x∈td n p)/\ys.length<=(td n p).length/\ρ=[some (.tup (aa rs)),some (.lst (ys.map Dt.str)),x,y,z]) ⟨[],none,none,none,by simp[td],by simp,rfl⟩ (by
    rintro p y q ρ e1 ⟨ys,x2,x3,x4,hm,hy,rfl⟩;obtain⟨it,c,rfl,_,_,hi⟩:=hr y (by rw[e1];simp);have IH:(td n (p++[row it c])).length<=60:=by
     have:td n rs=td n (p++[row it c])++td n q:=by rw[e1];unfold td;simp[List.flatMap_append]
     rw[this,QE]at hB
     lia
    rw[fH,QE,QE]at IH;rcases hi with ⟨x,rfl,_⟩|⟨x,ps,rfl,eL,jC⟩
    ·refine⟨_,_,eS _ c,?_,ys++[x],some (ofD (cF x)),some (.int c),x4,λz=>?_,?_,rfl⟩
     ·rw[jS];refine qM (S1:=none) (by simp only[RX];rfl) (fJ (ds:=ys.map Dt.str) (d:=.str x) (S1:=none) rfl (by simp only[RX]) rfl (by rw[Qx];lia) ?_);rw[Q7];rfl
     ·rw[fH,bG,QK,QK,hm];simp[cF,dg]
     ·rw[fH,bG,QE,QE];simp[cF,dg]
      lia
    ·rw[aV]at IH;have inner:=iP (S:=none) (tg:=.nm 4) (ds:=ps) (ρ:=[some (.tup (aa rs)),some (.lst (ys.map Dt.str)),some (ofD (ofT x ps)),some (.int c),x4]) (body:=aF (aA fs (N-1)) (.cons (.asgM 1 (.bin .Add (.mvr 1) (.call 20 (.cons (.var 4) .nil) []))) .nil))
      (λp' ρ=>∃(zs:List Str)(z:Option Dt),(∀x,x∈zs↔x∈td n p\/x∈p'.flatMap (cw n))/\zs.length<=(td n p).length+(p'.flatMap (cw n)).length/\ρ=[some (.tup (aa rs)),some (.lst (zs.map Dt.str)),some (ofD (ofT x ps)),some (.int c),z]) ⟨ys,x4,by simp[hm],by simp;lia,rfl⟩ (by
       rintro p2 y2 q2 ρ e2 ⟨zs,z4,hz,M8,rfl⟩;rw[e2,List.flatMap_append,RC,QE,QE]at IH;obtain⟨ws,w1,w2,w3⟩:=xx n (N:=N-1) ⋯ (jC y2 (by rw[e2];simp)) ⋯;have ca:=ix (a:=zs.map Dt.str) (b:=ws.map Dt.str) (by rw[Qx,Qx];lia);refine⟨_,_,rfl,tf (d:=.lst (zs.map Dt.str++ws.map Dt.str)) (S1:=none) (by simp only[RX,w1,ca]) rfl rfl,zs++ws,some (ofD y2),λz=>?_,?_,by rw[Q7];rfl⟩
       ·rw[QK,hz,w2,List.flatMap_append,QK];simp;exact or_assoc
       ·rw[QE,List.flatMap_append,QE,RC,List.flatMap_nil,Q2]
        lia)
     obtain⟨ρ1,zb,zs,z4,hz,M8,rfl⟩:=inner;refine⟨_,_,eS _ c,?_,zs,some (ofD (ofT x ps)),some (.int c),z4,λz=>?_,?_,rfl⟩
     ·have zQ:ev (aA fs (N-1)) (.idx (.var 2) (.con (.int 2))) [some (.tup (aa rs)),some (.lst (ys.map Dt.str)),some (ofD (ofT x ps)),some (.int c),x4] none= .ok (.tup (aa ps),none):=by rw[ko];simp only[RX]
      refine kn (S1:=none) (by rw[ko];simp only[RX];rfl) (qN (ds:=aa ps) (S1:=none) (eN zQ rfl) rfl zb rfl)
     ·rw[fH,aV,hz,QK,QK];simp[ofT,dg]
     ·rw[fH,aV,QE,QE,show dg (ofT x ps)=[] from rfl,RL,Nat.zero_add];exact M8)
  obtain⟨ρ1,bI,ys,x,y,z,hm,hy,rfl⟩:=loop;have Ja:=rO (ys:=ys) (d:=.lst (ys.map Dt.str)) (by rw[iZ];rfl) ⋯;obtain⟨zs,KP⟩:=strs_map (l:=a6 ((dd ys).map Mx.D.str)) λm hm'=>by obtain⟨x,_,rfl⟩:=QX.mp (ey.mp hm');exact⟨x,rfl⟩
  rw[KP,iZ]at Ja;have CY:∀x,x∈zs↔x∈ys:=λx=>by
   have:Mx.D.str x∈zs.map Mx.D.str↔x∈ys:=by
    rw[<-KP,ey,QX];constructor
    ·rintro⟨a,ha,e⟩;cases e;exact ET.mp ha
    ·intro h;exact⟨x,ET.mpr h,rfl⟩
   rw[<-this,QX];exact⟨λh=>⟨x,h,rfl⟩,λ⟨a,ha,e⟩=>by cases e;exact ha⟩
  have hlen:zs.length<=ys.length:=by
   have h1:(zs.map Mx.D.str).length=(dd ys).length:=by rw[<-KP,(cy _).length_eq,Qx]
   rw[Qx]at h1;have:=mQ ys
   lia
  refine⟨zs,aB (body:=JO) rfl ⋯ rfl ?_,λx=>(CY x).trans (hm x),Qz hlen hy⟩;rw[show ofD (.tup rs)= .tup (aa rs) by rw[ofD]];show fin (aF (aA fs (N-1)) JO [some (.tup (aa rs)),none,none,none,none] none)=_;exact dz (d:=.lst []) (S1:=none) rfl rfl (bg (ds:=aa rs) (S1:=none) (by simp only[RX]) rfl bI (ao (by simp only[RX,Ja])))
end
section
theorem lK{f:Dt->Sx->Rx.R (List Dt×Sx)}{Q:Mx.D->Prop}{w:Mx.D->Int}:∀{ms:List Mx.D},(∀m∈ms,∃m',f (ofD m) none= .ok ([ofD m'],none)/\Q m'/\w m'<=w m)->∃uM,a9 f (aa ms) none= .ok (aa uM,none)/\uM.length=ms.length/\(∀m'∈uM,Q m')/\(uM.map w).sum<=(ms.map w).sum
 |[],_=>⟨[],by simp[aa,a9],rfl,by simp,Rp _⟩
 |m::ms,h=>by
  obtain⟨m',h1,h2,h3⟩:=h m Qv;obtain⟨uM,k1,k2,k3,k4⟩:=lK (w:=w) λq hq=>h q (Qt _ hq)
  refine⟨m'::uM,by rw[aa,a9,h1,R.ai,k1,R.ai,aa];rfl,by rw[QG,QG,k2],λq hq=>?_,by rw[Q6,Q6,R8,R8];lia⟩;rcases QA.mp hq with rfl|hq
  ·exact h2
  ·exact k3 q hq
noncomputable abbrev Z(x:Str):Prop:=x="z"
noncomputable abbrev No(_:Str):Prop:=False
noncomputable def kz:Dt:=.obj ["z"] [.tup []]
noncomputable def LZ:Ts:=(.cons (.asg 5 (.tup (.cons (.tup (.cons (.var 3) (.cons (.con (.int 1)) .nil))) .nil))) (.cons (.ifs (.cmp .Eq (.idx (.var 3) (.con (.int 0))) (.con (.str "any"))) (.cons (.asg 5 (.gtO (.var 1) (.idx (.var 3) (.con (.int 1))) (.var 5))) .nil) (.cons (.asg 5 (.tup (.cons (.tup (.cons (.tup (.cons (.con (.str "of")) (.cons (.idx (.var 3) (.con (.int 1))) (.cons (.bi .tuple (.cons (.comp [none,none,some 1] (.seq (.idx (.var 3) (.con (.int 2)))) (.nm 1) .nil (.call 14 (.cons (.var 1) (.cons (.var 2) .nil)) [])) .nil)) .nil)))) (.cons (.con (.int 1)) .nil))) .nil))) .nil)) (.cons (.asg 2 (.bin .Add (.var 2) (.comp [none,none,none,some 4] (.seq (.var 5)) (.tp [1,2]) .nil (.tup (.cons (.var 1) (.cons (.bin .Mult (.var 3) (.var 2)) .nil)))))) .nil)))
theorem tJ:∀(n:Nat){N:Nat}{d:Mx.D},n<=8->n+4<=N->bM Z n d->a8 n d<=50->∃d',aA fs N 14 [ofD d,kz] none= .ok (ofD d',none)/\bM No n d'/\a8 n d'<=a8 n d
 |0,_,_,_,_,h,_=>h.elim
 |n+1,N,d,hn,hN,⟨rs,e,hl,hr⟩,hB=>by
  subst e;have d8:lim=1000000:=rfl;have hB:wsum (cH (a8 n)) rs<=50:=hB;have nn:∀l:List Mx.D,(∀r∈l,qb Z (bM Z n) r)->0<=wsum (cH (a8 n)) l:=λl hl=>i7 λz hz=>by obtain⟨r,hr,rfl⟩:=QX.mp hz;obtain⟨it,c,rfl,h1,_,h3⟩:=hl r hr;have:=eU (λd hd=>dU n hd) h3;rw[aP,aO];exact Rt ⋯ ⋯
  have loop:=iP (S:=none) (tg:=.tp [3,4]) (ds:=rs) (ρ:=[some (.tup (aa rs)),some kz,some (.lst []),none,none,none]) (body:=aF (aA fs (N-1)) LZ)
   (λp ρ=>∃(ms:List Mx.D)(x y z:Option Dt),ms.length<=p.length/\(∀m∈ms,qb No (bM No n) m)/\wsum (cH (a8 n)) ms<=wsum (cH (a8 n)) p/\wsum (λ_=>1) ms<=wsum (cH (a8 n)) p/\ρ=[some (.tup (aa rs)),some kz,some (.lst (aa ms)),x,y,z]) ⟨[],none,none,none,Qu _,by simp,Rp _,Rp _,rfl⟩ (by
    rintro p y q ρ e1 ⟨ms,x3,x4,x5,OB,n0,hw,O3,rfl⟩;obtain⟨it,c,rfl,c0,c1,hi⟩:=hr y (by rw[e1];simp);have Gp:p.length<=12:=by rw[e1,QE]at hl;lia
    have KA:=nn q λr wQ=>hr r (by rw[e1];simp[wQ])
    have IT:=nn p λr wQ=>hr r (by rw[e1];simp[wQ])
    have IH:wsum (cH (a8 n)) p+c*cH (a8 n) it<=50:=by
     have:wsum (cH (a8 n)) rs=wsum (cH (a8 n)) p+(c*cH (a8 n) it+wsum (cH (a8 n)) q):=by rw[e1];unfold wsum;rw[Q7,List.sum_append,Q6,R8,aP,aO]
     lia
    have pos:=eU (λd hd=>dU n hd) hi;have cc:1*cH (a8 n) it<=c*cH (a8 n) it:=Rr ⋯ ⋯;have cd:c*1<=c*cH (a8 n) it:=Rq pos ⋯;rcases hi with ⟨x,rfl,zx⟩|⟨x,ps,rfl,eL,jC⟩
    ·subst zx;refine⟨_,_,eS _ c,?_,ms,some (ofD (cF "z")),some (.int c),some (.tup []),by simp;lia,n0,by rw[wsum_snoc,aP,aO];lia,by rw[wsum_snoc,aP,aO];lia,rfl⟩;rw[jS];have hg:ev (aA fs (N-1)) (.gtO (.var 1) (.idx (.var 3) (.con (.int 1))) (.var 5)) [some (.tup (aa rs)),some kz,some (.lst (aa ms)),some (.tup [.str "any",.str "z"]),some (.int c),some (.tup [.tup [.tup [.str "any",.str "z"],.int 1]])] none= .ok (.tup [],none):=rfl;refine aS (d:=.tup [.tup [.tup [.str "any",.str "z"],.int 1]]) (S1:=none) (by simp only[RX]) rfl (qM (S1:=none) (by simp only[RX];rfl) (aS (d:=.tup []) (S1:=none) hg rfl ?_));have j7:=dh (F:=aA fs (N-1)) (cap:=[none,none,none,some 4]) (it:=.seq (.var 5)) (tg:=.tp [1,2]) (cs:=.nil) (e:=.tup (.cons (.var 1) (.cons (.bin .Mult (.var 3) (.var 2)) .nil))) (ρ:=[some (.tup (aa rs)),some kz,some (.lst (aa ms)),some (.tup [.str "any",.str "z"]),some (.int c),some (.tup [])]) (S:=none) (ds:=[]) (S1:=none) (out:=[]) (S2:=none) rfl (Sm _) rfl rfl;have ca:=ix (a:=aa ms) (b:=[]) (by rw[aw,RL];lia);refine aS (d:=.lst (aa ms)) (S1:=none) ?_ rfl rfl;simp only[RX,j7,ca,Q2]
    ·have Ll:∀p'∈ps,a8 n p'<=50:=λp' iR=>by
      have:a8 n p'<=(ps.map (a8 n)).sum:=by
       have Pi:∀l:List Mx.D,(∀r∈l,bM Z n r)->p'∈l->a8 n p'<=(l.map (a8 n)).sum:=λl=>by
        induction l with
        |nil=>intro _ h;cases h
        |cons a l ih=>
         intro uE hm;have a0:=dU n (uE a Qv);have l0:=i7 (l:=l.map (a8 n)) λz hz=>by obtain⟨q',E0,rfl⟩:=QX.mp hz;exact dU n (uE q' (Qt _ E0))
         rw[Q6,R8];rcases QA.mp hm with rfl|hm
         ·lia
         ·have:=ih (λr hr=>uE r (Qt _ hr)) hm
          lia
       exact Pi ps jC iR
      have e9:cH (a8 n) (ofT x ps)=1+(ps.map (a8 n)).sum:=by unfold cH;rw[aV]
      lia
     obtain⟨gG,k1,k2,k3,k4⟩:=lK (f:=ck (.nm 1) (c9 (aA fs (N-1)) .nil) (dI (aA fs (N-1)) (.call 14 (.cons (.var 1) (.cons (.var 2) .nil)) [])) [none,none,some kz]) (Q:=bM No n) (w:=a8 n) (ms:=ps) λp' iR=>by obtain⟨d',h1,h2,h3⟩:=tJ n (N:=N-1) ⋯ ⋯ (jC p' iR) (Ll p' iR);exact⟨d',eA (ρ1:=[none,some (ofD p'),some kz]) rfl (by simp only[RX,h1]) (by unfold bo;rw[aZ,Ri]),h2,h3⟩
     have Pr:cH (a8 n) (ofT x gG)<=cH (a8 n) (ofT x ps):=by unfold cH;rw[aV,aV];lia
     have cm:c*cH (a8 n) (ofT x gG)<=c*cH (a8 n) (ofT x ps):=Rq Pr ⋯;refine⟨_,_,eS _ c,?_,ms++[row (ofT x gG) c],some (ofD (ofT x ps)),some (.int c),some (.tup [.tup [ofD (ofT x gG),.int 1]]),by rw[QE,QE];simp;lia,λm hm=>?_,by rw[wsum_snoc,wsum_snoc,aP,aO,aP,aO];lia,by rw[wsum_snoc,wsum_snoc,aP,aP,aO,Int.mul_one];lia,rfl⟩
     ·rw[ko];have zQ:ev (aA fs (N-1)) (.idx (.var 3) (.con (.int 2))) [some (.tup (aa rs)),some kz,some (.lst (aa ms)),some (.tup [.str "of",.str x,.tup (aa ps)]),some (.int c),some (.tup [.tup [.tup [.str "of",.str x,.tup (aa ps)],.int 1]])] none= .ok (.tup (aa ps),none):=by simp only[RX]
      have j7:=dh (cap:=[none,none,some 1]) (eN zQ rfl) (by rw[aw];lia) (se zQ (by simp only[fI];exact fV _)) k1;have tp:c8 .tuple [.lst (aa gG)]= .ok (.tup (aa gG)):=rfl;refine aS (d:=.tup [.tup [.tup [.str "of",.str x,.tup (aa ps)],.int 1]]) (S1:=none) (by simp only[RX]) (by unfold bo;simp[fI,dQ,fV]) (kn (S1:=none) (by simp only[RX];rfl) (aS (d:=.tup [.tup [ofD (ofT x gG),.int 1]]) (S1:=none) (by rw[ko];simp only[RX,j7,tp]) (by unfold bo;simp[fI,dQ,aZ]) ?_));have mm:kq .Mult (.int c) (.int 1)= .ok (.int (c*1)):=bh (.inl ⋯);have kW:a9 (ck (.tp [1,2]) (c9 (aA fs (N-1)) .nil) (dI (aA fs (N-1)) (.tup (.cons (.var 1) (.cons (.bin .Mult (.var 3) (.var 2)) .nil)))) [none,none,none,some (.int c)]) [.tup [ofD (ofT x gG),.int 1]] none= .ok ([.tup [ofD (ofT x gG),.int (c*1)]],none):=by rw[a9,eA (ρ1:=[none,some (ofD (ofT x gG)),some (.int 1),some (.int c)]) (y:=.tup [ofD (ofT x gG),.int (c*1)]) (S1:=none) rfl (by simp only[RX,mm]) (by unfold bo;simp[fI,dQ,aZ])];rfl
      have CP:=dh (F:=aA fs (N-1)) (cap:=[none,none,none,some 4]) (it:=.seq (.var 5)) (ρ:=[some (.tup (aa rs)),some kz,some (.lst (aa ms)),some (.tup [.str "of",.str x,.tup (aa ps)]),some (.int c),some (.tup [.tup [ofD (ofT x gG),.int 1]])]) (S:=none) (S1:=none) (S2:=none) rfl (Nat.le_of_ble_eq_true rfl) rfl kW;have ca:=ix (a:=aa ms) (b:=[.tup [ofD (ofT x gG),.int (c*1)]]) (by rw[aw,RQ];lia);refine aS (d:=.lst (aa ms++[.tup [ofD (ofT x gG),.int (c*1)]])) (S1:=none) (by simp only[RX,CP,ca]) rfl ?_;rw[aK,Int.mul_one];unfold row;simp only[aa,ofD];rfl
     ·rcases QK.mp hm with hm|hm
      ·exact n0 m hm
      ·rw[QW]at hm;exact⟨ofT x gG,c,hm,c0,c1,.inr ⟨x,gG,rfl,by lia,k3⟩⟩)
  obtain⟨ρ1,bI,ms,x,y,z,OB,n0,hw,O3,rfl⟩:=loop;have ha:=gN (N:=N-1) (ms:=ms) ⋯ ⋯ ⋯ n0 ⋯;refine⟨.tup (cg ms),aB (body:=JJ) rfl ⋯ rfl ?_,iQ ⋯ n0 ⋯,by show wsum (cH (a8 n)) (cg ms)<=_;rw[fZ];exact hw⟩;rw[show ofD (.tup rs)= .tup (aa rs) by rw[ofD]];show fin (aF (aA fs (N-1)) JJ [some (.tup (aa rs)),some kz,none,none,none,none] none)=_;exact au (d:=.lst []) (S1:=none) rfl rfl (bg (ds:=aa rs) (S1:=none) (by simp only[RX]) rfl bI (ao (by simp only[RX,ha])))
end
section
variable{S:Str->Prop}{NM SG:Dt}{ns:List Int}
theorem gZ{L:List Str}(h0:L≠[])(h1:L.length<=1000):ve (· ∈L) (.lst (L.map Dt.str)):=by refine⟨L.length,List.length_pos_iff.mpr h0,h1,by show Rx.R.ok (Dt.int ((L.map Dt.str).length:Nat))=_;rw[Qx],λp hp=>⟨L[p],?_,RI hp⟩⟩;exact(qB (ds:=L.map Dt.str) (k:=p) (d:=.str L[p]) (by rw[QH,QM hp];rfl)).2
theorem ve.imp{S':Str->Prop}(h:ve S NM)(i:∀x,S x->S' x):ve S' NM:=by obtain⟨L,h1,h2,h3,h4⟩:=h;exact⟨L,h1,h2,h3,λp hp=>by obtain⟨x,e,s⟩:=h4 p hp;exact⟨x,e,i x s⟩⟩
theorem Ag{N k:Nat}(hN:20<=N)(hk:k<20000)(Bt:ve S NM)(yZ:ve (λ_=>True) SG):∃d,aA fs N 21 [.aQ ns,.int k,NM,SG] none= .ok (ofD d,none)/\bM S 3 d/\a8 3 d<=4/\d≠ .tup []:=by
 have p0:aA fs (N-1) 6 [.aQ ns,.int k,.int 4] none=_:=pk (ns:=ns) (N:=N-1) ⋯ k 4 ⋯ (by decide);have lt:=aW (ns:=ns) (k:=k) (many:=4) (by decide);generalize bt ns k 4=q at p0 lt;have e1:(1:Int)+(q:Int)=((1+q:Nat):Int):=⋯
 obtain⟨d,h1,h2,h3⟩:=drawn (ns:=ns) Bt yZ 2 (by decide) (N:=N-1) (k:=k) (room:=1+q) ⋯ hk ⋯;have h1:aA fs (N-1) 17 [.aQ ns,.int k,.int ((1+q:Nat):Int),.int 2,NM,SG] none= .ok (ofD d,none):=h1;have h3:a8 3 d<=((1+q:Nat):Int):=h3;have hq:=mL (a:=d) (b:=.tup []) (by have:=jd h2.n;lia);rw[show ofD (.tup [])= .tup [] by simp[ofD,aa]]at hq;by_cases hd:d= .tup []
 ·obtain⟨L,L0,L1,hL,hx⟩:=Bt;obtain⟨x,hx,sx⟩:=hx 0 L0;have hx:bW NM (.int 0)= .ok (.str x):=hx;refine⟨.tup [row (cF x) 1],aB (body:=Fo) rfl ⋯ rfl ?_,⟨_,rfl,by simp,λr hr=>by rw[QW]at hr;exact⟨_,1,hr,by decide,by decide,.inl ⟨x,rfl,sx⟩⟩⟩,?_,λz=>by cases z⟩
  ·show fin (aF (aA fs (N-1)) Fo [some (.aQ ns),some (.int k),some NM,some SG,none] none)=_;refine au (d:=ofD d) (S1:=none) (by simp only[RX,p0,e1,h1]) (by unfold bo;rw[aZ,Ri]) (dJ (S1:=none) (by simp only[RX];rw[hq,QR hd];rfl) (ao ?_));simp only[RX,hx];simp[row,cF,ofD,aa]
  ·show wsum (cH (a8 2)) [row (cF x) 1]<=4;rw[bq,aP,aO];unfold cH wsum;rw[bG];decide
 ·refine⟨d,aB (body:=Fo) rfl ⋯ rfl ?_,h2,by lia,hd⟩;show fin (aF (aA fs (N-1)) Fo [some (.aQ ns),some (.int k),some NM,some SG,none] none)=_;exact au (d:=ofD d) (S1:=none) (by simp only[RX,p0,e1,h1]) (by unfold bo;rw[aZ,Ri]) (cA (S1:=none) (by simp only[RX];rw[hq,QN hd];rfl) (ao (by simp only[RX])))
theorem uV{N k:Nat}{l:Mx.D}(hN:20<=N)(hk:k<20000)(hl:bM S 3 l)(sl:a8 3 l<=50)(yZ:ve (λ_=>True) SG):∃d,aA fs N 22 [.aQ ns,.int k,.int 6,ofD l,SG] none= .ok (ofD d,none)/\bM (· ∈cw 3 l) 3 d/\a8 3 d<=6:=by
 have h1:=fB 3 hl;have h2:=iY (its:=iT 3 l);obtain⟨ys,y1,y2,y3⟩:=xx 3 (N:=N-1) ⋯ hl (by unfold cw;lia);have ln:c8 .len [.lst (ys.map Dt.str)]= .ok (.int ys.length):=by show Rx.R.ok (Dt.int ((ys.map Dt.str).length:Nat))=_;rw[Qx]
 by_cases hy:ys=[]
 ·subst hy;obtain⟨d,d1,d2,d3⟩:=drawn (S:=Z) (NM:=.lst [.str "z"]) (ns:=ns) ((gZ (L:=["z"]) (by simp) (by decide)).imp λx hx=>by simpa using hx) yZ 2 (by decide) (N:=N-1) (k:=k) (room:=6) ⋯ hk (by decide);have d3:a8 3 d<=((6:Nat):Int):=d3;obtain⟨d',e1,e2,e3⟩:=tJ 3 (N:=N-1) (by decide) ⋯ d2 ⋯;have d1:aA fs (N-1) 17 [.aQ ns,.int k,.int 6,.int 2,.lst [.str "z"],SG] none= .ok (ofD d,none):=d1;have ln:c8 .len [.lst []]= .ok (.int 0):=rfl;refine⟨d',aB (body:=Fp) rfl ⋯ rfl ?_,e2.mono (λ_ z=>z.elim) ⋯,by lia⟩;show fin (aF (aA fs (N-1)) Fp [some (.aQ ns),some (.int k),some (.int 6),some (ofD l),some SG,none,none] none)=_;have hz:ev (aA fs (N-1)) (.call 14 (.cons (.var 6) (.cons (.bi .dict (.cons (.tup (.cons (.tup (.cons (.con (.str "z")) (.cons (.tup .nil) .nil))) .nil)) .nil)) .nil)) []) [some (.aQ ns),some (.int k),some (.int 6),some (ofD l),some SG,some (.lst [.str "z"]),some (ofD d)] none= .ok (ofD d',none):=by have Kw:=Bm (F:=aA fs (N-1)) (k:="z") (ρ:=[some (.aQ ns),some (.int k),some (.int 6),some (ofD l),some SG,some (.lst [.str "z"]),some (ofD d)]) (S:=none);unfold Bi at Kw;simp only[RX,Kw];exact SD (R.bind · _) e1
  exact au (d:=.lst []) (S1:=none) (by simp only[RX,y1];rfl) rfl (dJ (S1:=none) (by simp only[RX,ln];rfl) (au (d:=.lst [.str "z"]) (S1:=none) (by simp only[RX]) rfl (au (d:=ofD d) (S1:=none) (by simp only[RX,d1]) (by unfold bo;rw[aZ,Ri]) (dJ (S1:=none) (by simp only[RX,y1];rfl) (au (d:=ofD d') (S1:=none) hz (by unfold bo;rw[aZ,Ri]) (ao (by simp only[RX])))))))
 ·obtain⟨d,d1,d2,d3⟩:=drawn (S:=(· ∈cw 3 l)) (NM:=.lst (ys.map Dt.str)) (ns:=ns) ((gZ hy (by unfold cw at y3;lia)).imp λx hx=>(y2 x).mp hx) yZ 2 (by decide) (N:=N-1) (k:=k) (room:=6) ⋯ hk (by decide);have d1:aA fs (N-1) 17 [.aQ ns,.int k,.int 6,.int 2,.lst (ys.map Dt.str),SG] none= .ok (ofD d,none):=d1;have d3:a8 3 d<=((6:Nat):Int):=d3;have l0:(((ys.length:Nat):Int)==0)=false:=SA.mpr (by have:=List.length_pos_iff.mpr hy;lia);refine⟨d,aB (body:=Fp) rfl ⋯ rfl ?_,d2,by lia⟩;show fin (aF (aA fs (N-1)) Fp [some (.aQ ns),some (.int k),some (.int 6),some (ofD l),some SG,none,none] none)=_;exact au (d:=.lst (ys.map Dt.str)) (S1:=none) (by simp only[RX,y1]) rfl (cA (S1:=none) (by simp only[RX,ln,l0]) (au (d:=ofD d) (S1:=none) (by simp only[RX,d1]) (by unfold bo;rw[aZ,Ri]) (cA (S1:=none) (by simp only[RX,y1,ln,l0]) (ao (by simp only[RX])))))
end
section
variable{S:Str->Prop}{ns:List Int}
noncomputable abbrev Pl:=List (Mx.D×Nat)
noncomputable def qD(q:Mx.D×Nat):Dt:=.tup [ofD q.1,.int q.2]
noncomputable def df(pl:Pl):Dt:=.tup (pl.map qD)
noncomputable def gJ(pl:Pl):Prop:=∀q∈pl,∃x ps p,q.1=ofT x ps/\ps[q.2]?=some p/\Mx.D.dep p<=80
noncomputable def fO:Mx.D->Pl->Mx.D
 |d,[]=>d
 |_,q::pl=>fO ((aU q.1).getD q.2 (.tup [])) pl
theorem pP:∀{pl:Pl}{d:Mx.D},gJ pl->Mx.D.dep d<=80->Mx.D.dep (fO d pl)<=80
 |[],_,_,h=>h
 |q::pl,d,hp,_=>by obtain⟨x,ps,p,e,hk,hd⟩:=hp q Qv;show Mx.D.dep (fO ((aU q.1).getD q.2 (.tup [])) pl)<=80;refine pP (pl:=pl) (λz hz=>hp z (Qt _ hz)) ?_;rw[e,aV,RE,hk];exact hd
theorem BV{ρ:aj}{i j:Nat}(q:Mx.D×Nat):dG (.tp [i,j]) (qD q) ρ= .ok ((ρ.set i (some (ofD q.1))).set j (some (.int q.2))):=rfl
theorem nI{F:FT}{ρ:aj}{q:Mx.D×Nat}{x:Str}{ps:List Mx.D}{p:Mx.D}{i j:Nat}(e:q.1=ofT x ps)(hk:ps[q.2]?=some p)(h1:ρ[i]?=some (some (ofD q.1)))(h2:ρ[j]?=some (some (.int q.2))):ev F (.idx (.idx (.var i) (.con (.int 2))) (.var j)) ρ none= .ok (ofD p,none):=by
 have g1:dm ρ i= .ok (ofD q.1):=by unfold dm;rw[h1]
 have g2:dm ρ j= .ok (.int q.2):=by unfold dm;rw[h2]
 have i1:bW (ofD q.1) (.int 2)= .ok (.tup (aa ps)):=by rw[e,ko];rfl
 have i2:bW (.tup (aa ps)) (.int q.2)= .ok (ofD p):=(qB (ds:=aa ps) (k:=q.2) (d:=ofD p) (by rw[bb,QH,hk];rfl)).1;simp only[ev,g1,g2,R.ai,i1,i2]
noncomputable def zp:Ts:=(.cons (.asg 0 (.idx (.idx (.var 2) (.con (.int 2))) (.var 3))) .nil)
theorem rK{F:FT}:∀(pl:Pl)(d:Mx.D)(P x2 x3:Option Dt),gJ pl->∃y2 y3,forL (.tp [2,3]) (aF F zp) (pl.map qD) [some (ofD d),P,x2,x3] none= .ok (.next,[some (ofD (fO d pl)),P,y2,y3],none)
 |[],d,P,x2,x3,_=>⟨x2,x3,rfl⟩
 |q::pl,d,P,x2,x3,hp=>by
  obtain⟨x,ps,p,e,hk,hd⟩:=hp q Qv;obtain⟨y2,y3,h⟩:=rK (F:=F) pl p P (some (ofD q.1)) (some (.int q.2)) λz hz=>hp z (Qt _ hz)
  have hb:aF F zp [some (ofD d),P,some (ofD q.1),some (.int q.2)] none= .ok (.next,[some (ofD p),P,some (ofD q.1),some (.int q.2)],none):=aS (d:=ofD p) (S1:=none) (nI e hk rfl rfl) (by unfold bo;rw[aZ,Ri]) rfl;refine⟨y2,y3,?_⟩;rw[Q6,forL,BV,R.ai];show ((aF F zp [some (ofD d),P,some (ofD q.1),some (.int q.2)] none).bind _)=_;rw[hb,R.ai];show forL (.tp [2,3]) (aF F zp) (pl.map qD) [some (ofD p),P,some (ofD q.1),some (.int q.2)] none=_;rw[h,fO,e,aV,RE,hk];rfl
theorem Bg{N:Nat}{d:Mx.D}{pl:Pl}(hN:1<=N)(hp:gJ pl):aA fs N 19 [ofD d,df pl] none= .ok (ofD (fO d pl),none):=by obtain⟨y2,y3,h⟩:=rK (F:=aA fs (N-1)) pl d (some (df pl)) none none hp;refine aB (body:=JN) rfl hN rfl ?_;show fin (aF (aA fs (N-1)) JN [some (ofD d),some (df pl),none,none] none)=_;exact bg (ds:=pl.map qD) (S1:=none) (eN (d:=df pl) rfl rfl) rfl h (ao rfl)
noncomputable def IC:Ts:=(.cons (.asg 2 (.idx (.idx (.var 3) (.con (.int 2))) (.var 4))) .nil)
theorem oG{F:FT}:∀(pl:Pl)(d:Mx.D)(O P x2 x3:Option Dt),gJ pl->∃y2 y3,forL (.tp [3,4]) (aF F IC) (pl.map qD) [O,P,some (ofD d),x2,x3] none= .ok (.next,[O,P,some (ofD (fO d pl)),y2,y3],none)
 |[],d,O,P,x2,x3,_=>⟨x2,x3,rfl⟩
 |q::pl,d,O,P,x2,x3,hp=>by
  obtain⟨x,ps,p,e,hk,hd⟩:=hp q Qv;obtain⟨y2,y3,h⟩:=oG (F:=F) pl p O P (some (ofD q.1)) (some (.int q.2)) λz hz=>hp z (Qt _ hz)
  have hb:aF F IC [O,P,some (ofD d),some (ofD q.1),some (.int q.2)] none= .ok (.next,[O,P,some (ofD p),some (ofD q.1),some (.int q.2)],none):=aS (d:=ofD p) (S1:=none) (nI e hk rfl rfl) (by unfold bo;rw[aZ,Ri]) rfl;refine⟨y2,y3,?_⟩;rw[Q6,forL,BV,R.ai];show ((aF F IC [O,P,some (ofD d),some (ofD q.1),some (.int q.2)] none).bind _)=_;rw[hb,R.ai];show forL (.tp [3,4]) (aF F IC) (pl.map qD) [O,P,some (ofD p),some (ofD q.1),some (.int q.2)] none=_;rw[h,fO,e,aV,RE,hk];rfl
theorem wj{N:Nat}{d:Mx.D}{pl:Pl}(hN:1<=N)(hp:gJ pl):aA fs N 4 [ofD d,df pl] none= .ok (ofD (fO d pl),none):=by obtain⟨y2,y3,h⟩:=oG (F:=aA fs (N-1)) pl d (some (ofD d)) (some (df pl)) none none hp;refine aB (body:=b4) rfl hN rfl ?_;show fin (aF (aA fs (N-1)) b4 [some (ofD d),some (df pl),none,none,none] none)=_;exact au (d:=ofD d) (S1:=none) rfl (by unfold bo;rw[aZ,Ri]) (bg (ds:=pl.map qD) (S1:=none) (eN (d:=df pl) rfl rfl) rfl h (ao rfl))
end
end K81
end
section
namespace Rx
open PySem PySem.W PySem.Spec PyProof.Rows L2
variable{fs:List Fn}
section
variable{F:FT}{S:Sx}{ρ:aj}
theorem lJ{α:Type}{t:α->Dt}{f:Dt->Sx->R (List Dt×Sx)}{g:α->List Dt}:∀{l:List α},(∀x∈l,f (t x) S= .ok (g x,S))->a9 f (l.map t) S= .ok (l.flatMap g,S)
 |[],_=>rfl
 |x::l,h=>by rw[Q6,a9,h x Qv,R.ai,lJ λy hy=>h y (Qt _ hy)];rfl
theorem uk{α:Type}{t:α->Dt}{f:Dt->Sx->R (List Dt×Sx)}{g:α->Dt}{l:List α}(h:∀x∈l,f (t x) S= .ok ([g x],S)):a9 f (l.map t) S= .ok (l.map g,S):=by rw[lJ (g:=λx=>[g x]) h,jf]
end
end Rx
end
section
namespace K81
open PySem PySem.W PySem.Spec PyProof.Rows L2 Mx Rx
section
variable{S:Str->Prop}{ns:List Int}
noncomputable def Bp:Nat->Nat
 |0=>0
 |n+1=>1+36*Bp n
noncomputable def LS:Ts:=(.cons (.ifs (.cmp .Eq (.idx (.var 2) (.con (.int 0))) (.con (.str "of"))) (.cons (.fr (.nm 4) (.rng1 (.bi .len (.cons (.idx (.var 2) (.con (.int 2))) .nil))) (.cons (.asg 1 (.bin .Add (.var 1) (.comp [none,none,some 2,some 4] (.seq (.call 18 (.cons (.idx (.idx (.var 2) (.con (.int 2))) (.var 4)) .nil) [])) (.nm 1) .nil (.bin .Add (.tup (.cons (.tup (.cons (.var 2) (.cons (.var 3) .nil))) .nil)) (.var 1))))) .nil)) .nil) .nil) .nil)
noncomputable def LV:Ts:=(.cons (.asg 1 (.bin .Add (.var 1) (.comp [none,none,some 2,some 4] (.seq (.call 18 (.cons (.idx (.idx (.var 2) (.con (.int 2))) (.var 4)) .nil) [])) (.nm 1) .nil (.bin .Add (.tup (.cons (.tup (.cons (.var 2) (.cons (.var 3) .nil))) .nil)) (.var 1))))) .nil)
theorem xo(pl:Pl):fI (df pl)=true:=by
 have:∀l:Pl,dQ (l.map qD)=true:=λl=>by
  induction l with
  |nil=>rfl
  |cons q l ih=>rw[Q6,dQ,ih];simp[qD,fI,dQ,aZ]
 unfold df;rw[fI];exact this pl
theorem me:∀(n:Nat){N:Nat}{d:Mx.D},n<=4->n+1<=N->bM S n d->∃Ls:List Pl,aA fs N 18 [ofD d] none= .ok (.lst (Ls.map df),none)/\(∀pl∈Ls,gJ pl/\pl.length<=n)/\Ls.length<=Bp n
 |0,_,_,_,_,h=>h.elim
 |n+1,N,d,hn,hN,⟨rs,e,hl,hr⟩=>by
  subst e;have d8:lim=1000000:=rfl;have b3:Bp n<=1333:=by
   have:n=0\/n=1\/n=2\/n=3:=⋯
   rcases this with rfl|rfl|rfl|rfl<;>decide
  have loop:=iP (S:=none) (tg:=.tp [2,3]) (ds:=rs) (ρ:=[some (.tup (aa rs)),some (.lst [df []]),none,none,none]) (body:=aF (aA fs (N-1)) LS)
   (λp ρ=>∃(Ls:List Pl)(x y z:Option Dt),(∀pl∈Ls,gJ pl/\pl.length<=n+1)/\Ls.length<=1+3*Bp n*p.length/\ρ=[some (.tup (aa rs)),some (.lst (Ls.map df)),x,y,z]) ⟨[[]],none,none,none,λpl h=>by rw[QW]at h;subst h;exact⟨λq hq=>(by cases hq),Sm _⟩,by simp,rfl⟩ (by
    rintro p y q ρ e1 ⟨Ls,x2,x3,x4,hL,NZ,rfl⟩;obtain⟨it,c,rfl,_,_,hi⟩:=hr y (by rw[e1];simp);have Gp:p.length<=12:=by rw[e1,QE]at hl;lia
    have P3:3*Bp n*p.length<=3*1333*12:=Sj ⋯ Gp;have ep:3*Bp n*(p++[row it c]).length=3*Bp n*p.length+3*Bp n:=by rw[QE,RQ,Nat.mul_add,Nat.mul_one]
    rcases hi with ⟨x,rfl,_⟩|⟨x,ps,rfl,eL,jC⟩
    ·refine⟨_,_,eS _ c,?_,Ls,some (ofD (cF x)),some (.int c),x4,hL,by rw[ep];lia,rfl⟩;rw[jS];exact kn (S1:=none) (by simp only[RX];rfl) rfl
    ·have inner:=bD (S:=none) (tg:=.nm 4) (ds:=bf 0 ps.length) (ρ:=[some (.tup (aa rs)),some (.lst (Ls.map df)),some (ofD (ofT x ps)),some (.int c),x4]) (body:=aF (aA fs (N-1)) LV)
      (λpre ρ=>∃(Ms:List Pl)(z:Option Dt),(∀pl∈Ms,gJ pl/\pl.length<=n+1)/\Ms.length<=Ls.length+Bp n*pre.length/\ρ=[some (.tup (aa rs)),some (.lst (Ms.map df)),some (ofD (ofT x ps)),some (.int c),z]) ⟨Ls,x4,hL,Qu _,rfl⟩ (by
       rintro pre y2 post ρ e2 ⟨Ms,z4,hM,MF,rfl⟩;obtain⟨hj,rfl⟩:=cD e2;have ee:(pre++[Dt.int pre.length]).length=pre.length+1:=by simp
       generalize pre.length=j at *;have hk:ps[j]?=some ps[j]:=QM hj;obtain⟨Ws,w1,w2,w3⟩:=me n (N:=N-1) ⋯ ⋯ (jC ps[j] (RI hj));have dp:Mx.D.dep ps[j]<=80:=by have:=jd (jC ps[j] (RI hj)).n;lia
       have jb:Bp n*j<=1333*3:=Sj b3 ⋯;have zQ:∀zz,ev (aA fs (N-1)) (.idx (.idx (.var 2) (.con (.int 2))) (.var 4)) [some (.tup (aa rs)),zz,some (ofD (ofT x ps)),some (.int c),some (.int j)] none= .ok (ofD ps[j],none):=λzz=>nI (q:=(ofT x ps,j)) rfl hk rfl rfl
       have qw:ev (aA fs (N-1)) (.call 18 (.cons (.idx (.idx (.var 2) (.con (.int 2))) (.var 4)) .nil) []) [some (.tup (aa rs)),some (.lst (Ms.map df)),some (ofD (ofT x ps)),some (.int c),some (.int j)] none= .ok (.lst (Ws.map df),none):=by simp only[RX,zQ,w1]
       have hc:a9 (ck (.nm 1) (c9 (aA fs (N-1)) .nil) (dI (aA fs (N-1)) (.bin .Add (.tup (.cons (.tup (.cons (.var 2) (.cons (.var 3) .nil))) .nil)) (.var 1))) [none,none,some (ofD (ofT x ps)),some (.int j)]) (Ws.map df) none= .ok (Ws.map λw=>df ((ofT x ps,j)::w),none):=uk λw hw=>by
        have ad:kq .Add (.tup [.tup [ofD (ofT x ps),.int j]]) (df w)= .ok (df ((ofT x ps,j)::w)):=by show af (decide ([Dt.tup [ofD (ofT x ps),.int j]].length+(w.map qD).length<=lim)) _=_;rw[QR (by rw[Qx,RQ];have:=(w2 w hw).2;lia)];rfl
        exact eA (ρ1:=[none,some (df w),some (ofD (ofT x ps)),some (.int j)]) rfl (by simp only[RX,ad]) (by unfold bo;rw[xo,Ri])
       have em:(Ws.map λw=>df ((ofT x ps,j)::w))=(Ws.map λw=>(ofT x ps,j)::w).map df:=by rw[RU];rfl
       rw[em]at hc;have j7:=dh (F:=aA fs (N-1)) (cap:=[none,none,some 2,some 4]) (eN qw rfl) (by rw[Qx];lia) rfl hc;have ca:=ix (a:=Ms.map df) (b:=(Ws.map λw=>(ofT x ps,j)::w).map df) (by rw[Qx,Qx,Qx];lia);refine⟨_,_,rfl,aS (d:=.lst (Ms.map df++(Ws.map λw=>(ofT x ps,j)::w).map df)) (S1:=none) (by simp only[RX,j7,ca]) rfl rfl,Ms++Ws.map λw=>(ofT x ps,j)::w,some (.int j),λpl hpl'=>?_,by rw[QE,Qx,ee,Nat.mul_add,Nat.mul_one];lia,by rw[Q7];rfl⟩;rcases QK.mp hpl' with h|h
       ·exact hM pl h
       ·obtain⟨w,hw,rfl⟩:=QX.mp h;refine⟨λq hq=>?_,by rw[QG];have:=(w2 w hw).2;lia⟩;rcases QA.mp hq with rfl|hq
        ·exact⟨x,ps,ps[j],rfl,hk,dp⟩
        ·exact(w2 w hw).1 q hq)
     obtain⟨ρ1,zb,Ms,z4,hM,MF,rfl⟩:=inner;have el:(bf 0 ps.length).length=ps.length:=by simp[bf]
     rw[el]at MF;have pb:Bp n*ps.length<=Bp n*3:=Nat.mul_le_mul_left _ eL;refine⟨_,_,eS _ c,?_,Ms,some (ofD (ofT x ps)),some (.int c),z4,hM,by rw[ep];lia,rfl⟩;have ln:c8 .len [.tup (aa ps)]= .ok (.int ps.length):=by show Rx.R.ok (Dt.int ((aa ps).length:Nat))=_;rw[aw]
     have Gd:=zb;rw[ko]at Gd ⊢;refine qM (S1:=none) (by simp only[RX];rfl) (qN (ds:=bf 0 ps.length) (S1:=none) (dO (n:=ps.length) (by simp only[RX,ln]) ⋯) rfl Gd rfl))
  obtain⟨ρ1,bI,Ls,x,y,z,hL,NZ,rfl⟩:=loop;refine⟨Ls,aB (body:=JM) rfl ⋯ rfl ?_,hL,?_⟩
  ·rw[show ofD (.tup rs)= .tup (aa rs) by rw[ofD]];show fin (aF (aA fs (N-1)) JM [some (.tup (aa rs)),none,none,none,none] none)=_;exact au (d:=.lst [df []]) (S1:=none) rfl rfl (bg (ds:=aa rs) (S1:=none) (by simp only[RX]) rfl bI (ao rfl))
  ·show Ls.length<=1+36*Bp n;have:3*Bp n*rs.length<=3*Bp n*12:=Nat.mul_le_mul_left _ hl
   lia
end
end K81
end
section
namespace Rx
open PySem PySem.W PySem.Spec PyProof.Rows L2
variable{fs:List Fn}
theorem vU{α:Type}(xs:List α){p:Nat}(h:p<=xs.length):cutD xs none (some (p:Int))=xs.take p:=by unfold cutD;rw[HT.yd,HT.AM,List.drop_zero,Nat.sub_zero,Nat.min_eq_left h]
end Rx
end
section
namespace K81
open PySem PySem.W PySem.Spec PyProof.Rows L2 Mx Rx
section
variable{ns:List Int}
noncomputable def Eg:Ts:=(.cons (.asg 5 (.bin .Add (.con (.int 1)) (.call 6 (.cons (.var 0) (.cons (.bin .Mult (.con (.int 3)) (.var 4)) (.cons (.con (.int 3)) .nil))) []))) (.cons (.asg 6 (.call 6 (.cons (.var 0) (.cons (.bin .Add (.bin .Mult (.con (.int 3)) (.var 4)) (.con (.int 1))) (.cons (.var 5) .nil))) [])) (.cons (.asgM 7 (.sliH (.comp [none,none,some 1] (.rng1 (.con (.int 3))) (.nm 1) .nil (.tup (.cons (.tup (.cons (.tup (.cons (.con (.str "of")) (.cons (.idx (.var 2) (.var 1)) (.cons (.tup .nil) .nil)))) (.cons (.con (.int 1)) .nil))) .nil))) (.var 5))) (.cons (.rd 7 (.var 6) (.var 2)) (.cons (.asg 8 (.tup (.cons (.con (.str "of")) (.cons (.idx (.var 1) (.call 6 (.cons (.var 0) (.cons (.bin .Add (.bin .Mult (.con (.int 3)) (.var 4)) (.con (.int 2))) (.cons (.con (.int 3)) .nil))) [])) (.cons (.bi .tuple (.cons (.mvr 7) .nil)) .nil))))) (.cons (.asg 3 (.bin .Add (.tup (.cons (.tup (.cons (.var 8) (.cons (.var 6) .nil))) .nil)) (.var 3))) (.cons (.asg 2 (.call 13 (.cons (.lst (.cons (.tup (.cons (.var 8) (.cons (.bin .Add (.con (.int 1)) (.call 6 (.cons (.var 0) (.cons (.bin .Mult (.con (.int 3)) (.var 4)) (.cons (.con (.int 4)) .nil))) [])) .nil))) (.cons (.tup (.cons (.tup (.cons (.con (.str "of")) (.cons (.idx (.var 1) (.con (.int 0))) (.cons (.tup .nil) .nil)))) (.cons (.con (.int 1)) .nil))) .nil))) .nil) [])) .nil)))))))
noncomputable def eE(a b c:Str):Dt:=.lst [.str a,.str b,.str c]
theorem nM(a b c:Str):ve (λ_=>True) (eE a b c):=(gZ (L:=[a,b,c]) (by simp) (Nat.le_of_ble_eq_true rfl)).imp λ_ _=>trivial
noncomputable def th(x:Str):Dt:=.tup [.tup [.tup [.str "of",.str x,.tup []],.int 1]]
theorem yE(x:Str):th x=ofD (.tup [row (ofT x []) 1]):=by simp only[th,ofD,aa,row,ofT]
theorem uo{F:FT}{a b c:Str}(x0 x2 x3 x4 x5 x6 x7 x8:Option Dt):ev F (.comp [none,none,some 1] (.rng1 (.con (.int 3))) (.nm 1) .nil (.tup (.cons (.tup (.cons (.tup (.cons (.con (.str "of")) (.cons (.idx (.var 2) (.var 1)) (.cons (.tup .nil) .nil)))) (.cons (.con (.int 1)) .nil))) .nil))) [x0,some (eE a b c),x2,x3,x4,x5,x6,x7,x8] none= .ok (.lst [th a,th b,th c],none):=by
 have t:∀(i:Int)(x:Str),bW (eE a b c) (.int i)= .ok (.str x)->ck (.nm 1) (c9 F .nil) (dI F (.tup (.cons (.tup (.cons (.tup (.cons (.con (.str "of")) (.cons (.idx (.var 2) (.var 1)) (.cons (.tup .nil) .nil)))) (.cons (.con (.int 1)) .nil))) .nil))) [none,none,some (eE a b c)] (.int i) none= .ok ([th x],none):=λi x hx=>by generalize eE a b c=SG at hx;exact eA (ρ1:=[none,some (.int i),some SG]) rfl (by simp only[RX,hx,th]) rfl
 have e0:(bf 0 3)=[.int 0,.int 1,.int 2]:=rfl;have t0:=t 0 a rfl;have t1:=t 1 b rfl;have t2:=t 2 c rfl;have hi:fq F (.rng1 (.con (.int 3))) [x0,some (eE a b c),x2,x3,x4,x5,x6,x7,x8] none= .ok (bf 0 3,none):=dO (n:=3) (by simp only[RX];rfl) (by decide);rw[e0]at hi;generalize eE a b c=SG at *;refine dh (F:=F) (cap:=[none,none,some 1]) hi (by decide) rfl ?_;rw[show jU [none,none,some 1] [x0,some SG,x2,x3,x4,x5,x6,x7,x8]=[none,none,some SG] from rfl,a9,t0,R.ai,a9,t1,R.ai,a9,t2,R.ai,a9];rfl
theorem uu{F:FT}{SG V PL T Iz D2:Dt}{a sg:Str}{j m at' si cn:Nat}{LL ds qs:List Dt}{x5 x6 x7 x8:Option Dt}
  (Od:∀x5 x6 x7 x8,ev F (.comp [none,none,some 1] (.rng1 (.con (.int 3))) (.nm 1) .nil (.tup (.cons (.tup (.cons (.tup (.cons (.con (.str "of")) (.cons (.idx (.var 2) (.var 1)) (.cons (.tup .nil) .nil)))) (.cons (.con (.int 1)) .nil))) .nil))) [some (.aQ ns),some SG,some V,some PL,some (.int j),x5,x6,x7,x8] none= .ok (.lst LL,none))
  (k0:F 6 [.aQ ns,.int ((3*j:Nat):Int),.int 3] none= .ok (.int m,none))
  (k1:F 6 [.aQ ns,.int ((3*j+1:Nat):Int),.int ((1+m:Nat):Int)] none= .ok (.int at',none))
  (k2:F 6 [.aQ ns,.int ((3*j+2:Nat):Int),.int 3] none= .ok (.int si,none))
  (k3:F 6 [.aQ ns,.int ((3*j:Nat):Int),.int 4] none= .ok (.int cn,none))
  (KF:bW SG (.int si)= .ok (.str sg)) (i0:bW SG (.int 0)= .ok (.str a))
  (c1:fM (.lst LL) none (some ((1+m:Nat):Int))= .ok (.lst ds)) (La:dQ ds=true)
  (iz:kZ ds.length (at':Int)=some at') (eQ:ds.set at' V=qs) (eT:Dt.tup [.str "of",.str sg,.tup qs]=T)
  (ad:kq .Add (.tup [.tup [T,.int at']]) PL= .ok Iz)
  (ha:F 13 [.lst [.tup [T,.int ((1+cn:Nat):Int)],.tup [.tup [.str "of",.str a,.tup []],.int 1]]] none= .ok (D2,none))
  (nV:fI V=true) (nT:fI T=true) (nP:fI Iz=true) (nD:fI D2=true):aF F Eg [some (.aQ ns),some SG,some V,some PL,some (.int j),x5,x6,x7,x8] none= .ok (.next,[some (.aQ ns),some SG,some D2,some Iz,some (.int j),some (.int ((1+m:Nat):Int)),some (.int at'),some (.lst qs),some T],none):=by
 have e0:(3:Int)*(j:Int)=((3*j:Nat):Int):=⋯
 have m0:=bh (i:=3) (j:=(j:Int)) (.inl (by decide));have e1:(1:Int)+(m:Int)=((1+m:Nat):Int):=⋯
 have e2:((3*j:Nat):Int)+1=((3*j+1:Nat):Int):=⋯
 have e3:((3*j:Nat):Int)+2=((3*j+2:Nat):Int):=⋯
 have ec:(1:Int)+(cn:Int)=((1+cn:Nat):Int):=⋯
 have PD:c8 .tuple [.lst qs]= .ok (.tup qs):=rfl;refine aS (d:=.int ((1+m:Nat):Int)) (S1:=none) (by simp only[RX,m0,e0,k0,e1]) rfl ?_;refine aS (d:=.int at') (S1:=none) (by simp only[RX,m0,e0,e2,k1]) rfl ?_;refine tf (d:=.lst ds) (S1:=none) (by rw[ev];erw [Od];simp only[RX,c1]) (by unfold iD;simp only[La,Ri]) ?_;refine nx (sj (ds:=ds) (d:=V) (S1:=none) (S2:=none) (n:=(at':Int)) (j:=at') rfl (by simp only[RX]) (by simp only[RX]) (by unfold bo;rw[nV,Ri]) iz) ?_;rw[eQ];refine aS (d:=T) (S1:=none) (by rw[<-eT];simp only[RX,m0,e0,e3,k2,KF,PD]) (by unfold bo;rw[nT,Ri]) ?_;refine aS (d:=Iz) (S1:=none) (by simp only[RX,ad]) (by unfold bo;rw[nP,Ri]) ?_;exact aS (d:=D2) (S1:=none) (by simp only[RX,m0,e0,k3,ec,i0,ha]) (by unfold bo;rw[nD,Ri]) rfl
theorem vX{F:FT}{a b c:Str}{d:Mx.D}{pl:Pl}{j n m at' si cn:Nat}{x5 x6 x7 x8:Option Dt}
  (hA:∀ms:List Mx.D,ms.length<=12->(∀q∈ms,qb No (bM No n) q)->wsum (λ_=>1) ms<=1000->F 13 [.lst (aa ms)] none= .ok (ofD (.tup (cg ms)),none))
  (k0:F 6 [.aQ ns,.int ((3*j:Nat):Int),.int 3] none= .ok (.int m,none))
  (k1:F 6 [.aQ ns,.int ((3*j+1:Nat):Int),.int ((1+m:Nat):Int)] none= .ok (.int at',none))
  (k2:F 6 [.aQ ns,.int ((3*j+2:Nat):Int),.int 3] none= .ok (.int si,none))
  (k3:F 6 [.aQ ns,.int ((3*j:Nat):Int),.int 4] none= .ok (.int cn,none))
  (l0:m<3) (l1:at'<1+m) (l2:si<3) (l3:cn<4) (fd:bM No n d) (hn:n<=17) (eL:pl.length<=16):∃(d2:Mx.D)(q:Mx.D×Nat),aF F Eg [some (.aQ ns),some (eE a b c),some (ofD d),some (df pl),some (.int j),x5,x6,x7,x8] none= .ok (.next,[some (.aQ ns),some (eE a b c),some (ofD d2),some (df (q::pl)),some (.int j),some (.int ((1+m:Nat):Int)),some (.int at'),some (.lst (aa (aU q.1))),some (ofD q.1)],none)/\bM No (n+1) d2/\∃x ps p,q.1=ofT x ps/\ps[q.2]?=some p/\Mx.D.dep p<=80:=by
 have d8:lim=1000000:=rfl;obtain⟨sg,KF⟩:∃sg,bW (eE a b c) (.int si)= .ok (.str sg):=by
  have:si=0\/si=1\/si=2:=⋯
  rcases this with rfl|rfl|rfl<;>exact⟨_,rfl⟩
 obtain⟨P,N5,lP,fP⟩:∃P:List Mx.D,[th a,th b,th c]=aa P/\P.length=3/\∀p∈P,bM No n p:=by
  refine⟨[.tup [row (ofT a []) 1],.tup [row (ofT b []) 1],.tup [row (ofT c []) 1]],?_,rfl,λp iR=>?_⟩
  ·rw[yE,yE,yE,bb];rfl
  ·cases n with
   |zero=>exact fd.elim
   |succ n=>simp only[QA,QB,SM]at iR;rcases iR with rfl|rfl|rfl<;>exact⟨_,rfl,by simp,λr hr=>by rw[QW]at hr;exact⟨_,1,hr,by decide,by decide,.inr ⟨_,[],rfl,by simp,by simp⟩⟩⟩
 have c1:fM (.lst [th a,th b,th c]) none (some ((1+m:Nat):Int))= .ok (.lst (aa (P.take (1+m)))):=by rw[N5];show Rx.R.ok (Dt.lst (cutD (aa P) none (some ((1+m:Nat):Int))))=_;rw[vU _ (by rw[aw,lP];lia),bb,bb,List.map_take]
 have K6:(P.take (1+m)).length=1+m:=by rw[RT,lP];lia
 obtain⟨Q,hQ⟩:∃Q,Q=(P.take (1+m)).set at' d:=⟨_,rfl⟩;have fQ:∀p∈Q,bM No n p:=λp iR=>by
  rw[hQ]at iR;rcases List.mem_or_eq_of_mem_set iR with h|h
  ·exact fP p (R3 h)
  ·rw[h];exact fd
 have lQ:Q.length=1+m:=by rw[hQ,RP,K6]
 have lg:Q[at']?=some d:=by rw[hQ,Q8 (by rw[K6];lia)]
 have eQ:(aa (P.take (1+m))).set at' (ofD d)=aa Q:=by rw[hQ,bb,bb,List.map_set]
 have iz:kZ (aa (P.take (1+m))).length (at':Int)=some at':=by unfold kZ;rw[aw,K6,SH ⋯,SH ⋯];simp
 have dd:Mx.D.dep d<=80:=by have:=jd fd.n;lia
 have ad:kq .Add (.tup [.tup [ofD (ofT sg Q),.int at']]) (df pl)= .ok (df ((ofT sg Q,at')::pl)):=by show af (decide ([Dt.tup [ofD (ofT sg Q),.int at']].length+(pl.map qD).length<=lim)) _=_;rw[QR (by rw[Qx,RQ];lia)];rfl
 have nQ:rF No (bM No n) (ofT sg Q):=.inr ⟨sg,Q,rfl,by lia,fQ⟩;have IW:∀q∈[row (ofT sg Q) ((1+cn:Nat):Int),row (ofT a []) 1],qb No (bM No n) q:=λq hq=>by
  simp only[QA,QB,SM]at hq;rcases hq with rfl|rfl
  ·exact⟨_,_,rfl,by lia,by lia,nQ⟩
  ·exact⟨_,_,rfl,by decide,by decide,.inr ⟨_,[],rfl,by simp,by simp⟩⟩
 have M6:wsum (λ_=>1) [row (ofT sg Q) ((1+cn:Nat):Int),row (ofT a []) 1]<=1000:=by
  rw[bq,bq,aP,aP];show _+(1*1+(0:Int))<=1000
  lia
 have ha:=hA _ (Nat.le_of_ble_eq_true rfl) IW M6;have eo:aa [row (ofT sg Q) ((1+cn:Nat):Int),row (ofT a []) 1]=[.tup [ofD (ofT sg Q),.int ((1+cn:Nat):Int)],.tup [.tup [.str "of",.str a,.tup []],.int 1]]:=by simp only[aa,ofD,row,ofT]
 rw[eo]at ha;have La:dQ (aa (P.take (1+m)))=true:=fV _;refine⟨_,(ofT sg Q,at'),?_,iQ (Nat.le_of_ble_eq_true rfl) IW M6,sg,Q,d,rfl,lg,dd⟩;rw[show aa (aU (ofT sg Q,at').1)=aa Q by rw[aV]];exact uu (F:=F) (λx5 x6 x7 x8=>uo _ _ _ _ _ _ _ _) k0 k1 k2 k3 KF rfl c1 La iz eQ (ko sg Q).symm ad ha (aZ _) (aZ _) (xo _) (aZ _)
theorem vW{N:Nat}{a b c:Str}(hN:10<=N)(lS:ns.length<=63):∃(d:Mx.D)(pl:Pl),aA fs N 24 [.aQ ns,eE a b c] none= .ok (.lst [ofD d,df pl],none)/\bM No 17 d/\gJ pl/\pl.length<=16:=by
 have d8:lim=1000000:=rfl;obtain⟨J,hJ,PQ⟩:∃J:Nat,ev (aA fs (N-1)) (.bi .max2 (.cons (.con (.int 2)) (.cons (.bi .min2 (.cons (.con (.int 16)) (.cons (.bin .FloorDiv (.bi .len (.cons (.var 0) .nil)) (.con (.int 3))) .nil))) .nil))) [some (.aQ ns),some (eE a b c),some (.tup []),some (.tup []),none,none,none,none,none] none= .ok (.int J,none)/\J<=16:=by
  have ln:c8 .len [.aQ ns]= .ok (.int ns.length):=rfl;have fd:=xA (i:=ns.length) (j:=3) (by decide) (by decide);have e3:((ns.length:Int)/3)=((ns.length/3:Nat):Int):=⋯
  refine⟨max 2 (min 16 (ns.length/3)),?_,by lia⟩;simp only[RX,ln,fd,e3];congr 4;split<;>split<;>lia
 have loop:=bD (S:=none) (tg:=.nm 4) (ds:=bf 0 J) (ρ:=[some (.aQ ns),some (eE a b c),some (.tup []),some (.tup []),none,none,none,none,none]) (body:=aF (aA fs (N-1)) Eg)
  (λpre ρ=>∃(d:Mx.D)(pl:Pl)(x4 x5 x6 x7 x8:Option Dt),bM No (pre.length+1) d/\gJ pl/\pl.length=pre.length/\ρ=[some (.aQ ns),some (eE a b c),some (ofD d),some (df pl),x4,x5,x6,x7,x8]) ⟨.tup [],[],none,none,none,none,none,⟨[],rfl,by simp,by simp⟩,λq hq=>(by cases hq),rfl,rfl⟩ (by
   rintro pre y post ρ e ⟨d,pl,x4,x5,x6,x7,x8,fd,hp,eL,rfl⟩;obtain⟨hj,rfl⟩:=cD e;have ee:(pre++[Dt.int pre.length]).length=pre.length+1:=by simp
   have k0:aA fs (N-1) 6 [.aQ ns,.int ((3*pre.length:Nat):Int),.int 3] none=_:=pk (ns:=ns) (N:=N-1) ⋯ (3*pre.length) 3 ⋯ (by decide);have k3:aA fs (N-1) 6 [.aQ ns,.int ((3*pre.length:Nat):Int),.int 4] none=_:=pk (ns:=ns) (N:=N-1) ⋯ (3*pre.length) 4 ⋯ (by decide);have l0:=aW (ns:=ns) (k:=3*pre.length) (many:=3) (by decide);have l3:=aW (ns:=ns) (k:=3*pre.length) (many:=4) (by decide);generalize bt ns (3*pre.length) 3=m at k0 l0;generalize bt ns (3*pre.length) 4=cn at k3 l3;have k1:=pk (ns:=ns) (N:=N-1) ⋯ (3*pre.length+1) (1+m) ⋯ ⋯;have l1:=aW (ns:=ns) (k:=3*pre.length+1) (many:=1+m) ⋯;generalize bt ns (3*pre.length+1) (1+m)=at' at k1 l1;have k2:aA fs (N-1) 6 [.aQ ns,.int ((3*pre.length+2:Nat):Int),.int 3] none=_:=pk (ns:=ns) (N:=N-1) ⋯ (3*pre.length+2) 3 ⋯ (by decide);have l2:=aW (ns:=ns) (k:=3*pre.length+2) (many:=3) (by decide);generalize bt ns (3*pre.length+2) 3=si at k2 l2;obtain⟨d2,q,hs,f2,hq⟩:=vX (F:=aA fs (N-1)) (a:=a) (b:=b) (c:=c) (pl:=pl) (j:=pre.length) (x5:=x5) (x6:=x6) (x7:=x7) (x8:=x8) (λms h1 h2 h3=>gN (S:=No) (n:=pre.length+1) ⋯ ⋯ h1 h2 h3) k0 k1 k2 k3 ⋯ l1 ⋯ ⋯ fd ⋯ ⋯;refine⟨_,_,rfl,hs,d2,q::pl,_,_,_,_,_,by rw[ee];exact f2,λz hz=>?_,by rw[ee,QG,eL],rfl⟩;rcases QA.mp hz with rfl|hz
   ·exact hq
   ·exact hp z hz)
 obtain⟨ρ1,bI,d,pl,x4,x5,x6,x7,x8,fd,hp,eL,rfl⟩:=loop;have el:(bf 0 J).length=J:=by simp[bf]
 rw[el]at fd eL;refine⟨d,pl,aB (body:=JQ) rfl ⋯ rfl ?_,fd.mono (λ_ z=>z) ⋯,hp,by lia⟩;show fin (aF (aA fs (N-1)) JQ [some (.aQ ns),some (eE a b c),none,none,none,none,none,none,none] none)=_;exact au (d:=.tup []) (S1:=none) rfl rfl (au (d:=.tup []) (S1:=none) rfl rfl (bg (ds:=bf 0 J) (S1:=none) (dO (n:=J) hJ ⋯) rfl bI (ao (by simp only[RX]))))
end
section
variable{S:Str->Prop}{ns:List Int}
theorem BZ{n:Nat}:∀{rs:List Mx.D},(∀r∈rs,qb S (bM S n) r)->(rs.length:Int)<=wsum (λ_=>1) rs/\wsum (λ_=>1) rs<=wsum (cH (a8 n)) rs
 |[],_=>⟨by simp[wsum],by simp[wsum]⟩
 |r::rs,h=>by
  obtain⟨h1,h2⟩:=BZ (n:=n) (rs:=rs) λq hq=>h q (Qt _ hq)
  obtain⟨it,c,rfl,c0,_,hi⟩:=h r Qv;have pos:=eU (λd hd=>dU n hd) hi;have h3:c*1<=c*cH (a8 n) it:=Rq pos ⋯;rw[bq,bq,aP,aO,QG];constructor<;>lia
noncomputable abbrev Bf(_:Str):Prop:=True
theorem pS{N:Nat}{rs:List Mx.D}{it:Mx.D}{c:Str}(hN:2<=N)(hr:bM S 3 (.tup rs))(sr:a8 3 (.tup rs)<=6)(hi:rF Bf (bM Bf 2) it)(si:cH (a8 2) it<=10)(hc:c∈dg it++(aU it).flatMap (cw 2)):∃w,aA fs N 13 [.lst (aa (rs++[row it 1]))] none= .ok (ofD w,none)/\bM Bf 3 w/\a8 3 w<=50/\c∈cw 3 w:=by
 obtain⟨Pk,e,_,h⟩:=hr;cases e;have sr:wsum (cH (a8 2)) rs<=6:=sr;have h:∀r∈rs,qb S (bM S 2) r:=h;obtain⟨h1,h2⟩:=BZ (n:=2) h;have hm:∀m∈rs++[row it 1],qb Bf (bM Bf 2) m:=λm hm=>by
  rcases QK.mp hm with hm|hm
  ·obtain⟨i,k,e,k0,k1,hi⟩:=h m hm;exact⟨i,k,e,k0,k1,hi.imp (λ_ _=>trivial) λp hp=>hp.mono (λ_ _=>trivial) (Qu _)⟩
  ·rw[QW]at hm;exact⟨it,1,hm,by decide,by decide,hi⟩
 have ll:(rs++[row it 1]).length<=12:=by rw[QE,RQ];lia
 have w1:wsum (λ_=>1) (rs++[row it 1])<=1000:=by rw[wsum_snoc,aP];lia
 refine⟨_,gN (S:=Bf) hN (by decide) ll hm w1,iQ ll hm w1,?_,?_⟩
 ·show wsum (cH (a8 2)) (cg (rs++[row it 1]))<=50;rw[fZ,wsum_snoc,aP,aO]
  lia
 ·have hx:it∈(cg (rs++[row it 1])).map eM:=(qu it).mpr (by rw[Q7];exact QU _ (by rw[List.map_singleton,aO];exact List.mem_singleton_self _));obtain⟨r,hr,er⟩:=QX.mp hx;obtain⟨Qh,e2,_,h4⟩:=iQ (S:=Bf) (n:=2) ll hm w1;cases e2;obtain⟨fA,k,rfl,_⟩:=h4 r hr;rw[aO]at er;subst er;show c∈((cg (rs++[row fA 1])).flatMap (jo (iT 2))).flatMap dg;rcases QK.mp hc with hc|hc
  ·exact RZ.mpr ⟨fA,RZ.mpr ⟨_,hr,Qv⟩,hc⟩
  ·obtain⟨p,hp,hc⟩:=RZ.mp hc;obtain⟨q,hq,hc⟩:=RZ.mp hc;exact RZ.mpr ⟨q,RZ.mpr ⟨_,hr,Qt _ (RZ.mpr ⟨p,hp,hq⟩)⟩,hc⟩
theorem yh{N:Nat}{d:Mx.D}(h:Mx.D.dep d<N):aA fs N 11 [ofD d,ofD d] none= .ok (.bl true,none):=tM (is:=11) rfl N _ (BW d) (by rw[v5];exact h)
theorem lN{n:Nat}{d:Mx.D}(h:bM S n d)(hn:n<=18):Mx.D.dep d<=80:=by have:=jd h.n;lia
theorem yi{N:Nat}{l r:Mx.D}(hN:90<=N)(hl:Mx.D.dep l<=80)(hr:Mx.D.dep r<=80):aA fs N 11 [.tup [ofD l,ofD r],.tup [ofD l,ofD r]] none= .ok (.bl true,none):=by have:=yh (N:=N) (d:=.tup [l,r]) (by simp only[Mx.D.dep,Mx.D.bK];lia);rw[show ofD (.tup [l,r])= .tup [ofD l,ofD r] by simp only[ofD,aa]]at this;exact this
theorem twice{N:Nat}{d:Mx.D}{pl:Pl}(hN:90<=N)(hp:gJ pl)(hd:Mx.D.dep d<=80):aA fs N 11 [ofD (fO d pl),ofD (fO d pl)] none= .ok (.bl true,none):=yh (by have:=pP hp hd;lia)
noncomputable def Ef:Ts:=(.cons (.ifs (.nt (.call 11 (.cons (.call 4 (.cons (.var 6) (.cons (.var 7) .nil)) []) (.cons (.call 19 (.cons (.var 6) (.cons (.var 7) .nil)) []) .nil)) [])) (.cons (.ret (.con (.bl false))) .nil) .nil) .nil)
theorem vx{N:Nat}{d:Mx.D}{x0 x1 x2 x3 x4 x5 x8:Option Dt}(hN:90<=N)(hd:Mx.D.dep d<=80):∀(Ls:List Pl)(x7:Option Dt),(∀pl∈Ls,gJ pl)->∃y7,forL (.nm 7) (aF (aA fs N) Ef) (Ls.map df) [x0,x1,x2,x3,x4,x5,some (ofD d),x7,x8] none= .ok (.next,[x0,x1,x2,x3,x4,x5,some (ofD d),y7,x8],none)
 |[],x7,_=>⟨x7,rfl⟩
 |pl::Ls,x7,h=>by
  have hp:=h pl Qv;obtain⟨y7,ih⟩:=vx (x0:=x0) (x1:=x1) (x2:=x2) (x3:=x3) (x4:=x4) (x5:=x5) (x8:=x8) hN hd Ls (some (df pl)) λq hq=>h q (Qt _ hq)
  refine⟨y7,?_⟩;have h1:=wj (N:=N) (d:=d) ⋯ hp;have h2:=Bg (N:=N) (d:=d) ⋯ hp;have h3:=twice hN hp hd;have hb:aF (aA fs N) Ef [x0,x1,x2,x3,x4,x5,some (ofD d),some (df pl),x8] none= .ok (.next,[x0,x1,x2,x3,x4,x5,some (ofD d),some (df pl),x8],none):=kn (S1:=none) (by simp only[RX,h1,h2,h3];rfl) rfl;rw[Q6,forL];show ((aF (aA fs N) Ef [x0,x1,x2,x3,x4,x5,some (ofD d),some (df pl),x8] none).bind _)=_;rw[hb,R.ai];exact ih
noncomputable def HG:Ts:=(.cons (.ifs (.nt (.call 11 (.cons (.call 4 (.cons (.var 6) (.cons (.sliH (.var 7) (.var 8)) .nil)) []) (.cons (.call 19 (.cons (.var 6) (.cons (.sliH (.var 7) (.var 8)) .nil)) []) .nil)) [])) (.cons (.ret (.con (.bl false))) .nil) .nil) .nil)
theorem zo{N:Nat}{d:Mx.D}{pl:Pl}{x0 x1 x2 x3 x4 x5 x8:Option Dt}(hN:90<=N)(hd:Mx.D.dep d<=80)(hp:gJ pl):∃y8,forL (.nm 8) (aF (aA fs N) HG) (bf 0 (pl.length+1)) [x0,x1,x2,x3,x4,x5,some (ofD d),some (df pl),x8] none= .ok (.next,[x0,x1,x2,x3,x4,x5,some (ofD d),some (df pl),y8],none):=by
 have loop:=bD (S:=none) (tg:=.nm 8) (ds:=bf 0 (pl.length+1)) (ρ:=[x0,x1,x2,x3,x4,x5,some (ofD d),some (df pl),x8]) (body:=aF (aA fs N) HG) (λ_ ρ=>∃y8,ρ=[x0,x1,x2,x3,x4,x5,some (ofD d),some (df pl),y8]) ⟨x8,rfl⟩ (by
  rintro pre y post ρ e ⟨y8,rfl⟩;obtain⟨hj,rfl⟩:=cD e;have iR:gJ (pl.take pre.length):=λq hq=>hp q (R3 hq)
  have h1:=wj (N:=N) (d:=d) ⋯ iR;have h2:=Bg (N:=N) (d:=d) ⋯ iR;have h3:=twice hN iR hd;have sl:fM (df pl) none (some (pre.length:Int))= .ok (df (pl.take pre.length)):=by show Rx.R.ok (Dt.tup (cutD (pl.map qD) none (some (pre.length:Int))))=_;rw[vU _ (by rw[Qx];lia),<-List.map_take];rfl
  refine⟨_,_,rfl,kn (S1:=none) ?_ rfl,_,rfl⟩;simp only[RX,sl,h1,h2,h3];rfl)
 obtain⟨ρ1,h,y8,rfl⟩:=loop;exact⟨y8,h⟩
end
section
variable{ns:List Int}
noncomputable def tl:Nat->Ts->Ts
 |0,t=>t
 |n+1,.cons _ ts=>tl n ts
 |_+1,.nil=>.nil
theorem Dq(pl:Pl):c8 .len [df pl]= .ok (.int pl.length):=by show Rx.R.ok (Dt.int ((pl.map qD).length:Nat))=_;rw[Qx]
theorem K3{a b c u v w:Str}{x3 x4 x5 x6 x7 x8:Option Dt}(lS:ns.length<=63):fin (aF (aA fs 99) (tl 8 EN) [some (.aQ ns),some (eE a b c),some (eE u v w),x3,x4,x5,x6,x7,x8] none)= .ok (.bl true,none):=by
 have d8:lim=1000000:=rfl;obtain⟨d,h1,h2,_⟩:=drawn (ns:=ns) (nM a b c) (nM u v w) 3 (by decide) (N:=99) (k:=41) (room:=10) (by decide) (by decide) (by decide);have h1:aA fs 99 17 [.aQ ns,.int 41,.int 10,.int 3,eE a b c,eE u v w] none= .ok (ofD d,none):=h1;obtain⟨Ls,p1,p2,_⟩:=me 4 (N:=99) (by decide) (by decide) h2;obtain⟨y7,hl⟩:=vx (N:=99) (d:=d) (x0:=some (.aQ ns)) (x1:=some (eE a b c)) (x2:=some (eE u v w)) (x3:=x3) (x4:=x4) (x5:=x5) (x8:=x8) (by decide) (lN h2 (by decide)) Ls x7 λpl hp=>(p2 pl hp).1
 obtain⟨e,pl,q1,q2,q3,q4⟩:=vW (N:=99) (a:=u) (b:=v) (c:=w) (by decide) lS;obtain⟨y8,hm⟩:=zo (N:=99) (d:=e) (pl:=pl) (x0:=some (.aQ ns)) (x1:=some (eE a b c)) (x2:=some (eE u v w)) (x3:=x3) (x4:=x4) (x5:=x5) (x8:=x8) (by decide) (lN q2 (by decide)) q3;have hr:=gC (N:=99) (a:=.tup []) (b:=.tup []) (by decide) (mf (by decide));have e1:(pl.length:Int)+1=((pl.length+1:Nat):Int):=⋯
 have ln:=Dq pl;refine au (d:=ofD d) (S1:=none) (by simp only[RX,h1]) (by unfold bo;rw[aZ,Ri]) ?_;refine bg (ds:=Ls.map df) (S1:=none) (eN (d:=.lst (Ls.map df)) (by simp only[RX,p1]) rfl) rfl hl ?_;refine gV (ρ1:=[some (.aQ ns),some (eE a b c),some (eE u v w),x3,x4,x5,some (ofD e),some (df pl),x8]) (S1:=none) (by rw[ex];simp only[RX,q1];rfl) ?_;refine bg (ds:=bf 0 (pl.length+1)) (S1:=none) (dO (n:=pl.length+1) (by simp only[RX,ln,e1]) ⋯) rfl hm ?_;exact ao (by simp only[RX,hr])
theorem GJ{a b c u v w:Str}{l wr:Mx.D}{x4 x6 x7 x8:Option Dt}(lS:ns.length<=63)(hl:bM (· ∈[a,b]) 3 l)(sl:a8 3 l<=4)(ne:l≠ .tup [])(hw:bM Bf 3 wr)(sw:a8 3 wr<=50)(hc:c∈cw 3 wr)(ac:a≠c)(bc:b≠c):fin (aF (aA fs 99) (tl 7 EN) [some (.aQ ns),some (eE a b c),some (eE u v w),some (ofD l),x4,some (ofD wr),x6,x7,x8] none)= .ok (.bl true,none):=by
 have no:¬∀x∈cw 3 wr,x∈cw 3 l:=λh=>by
  have:=BH hl c (h c hc);simp only[QA,QB,SM]at this;rcases this with h|h
  ·exact ac h.symm
  ·exact bc h.symm
 have r1:=kH (N:=98) (n:=3) (m:=3) (by decide) (by decide) (by decide) hl hw ⋯ sw ne;rw[SF no]at r1;have r2:=kH (N:=99) (n:=3) (m:=3) (by decide) (by decide) (by decide) hl hl ⋯ ⋯ ne;rw[SH λ_ h=>h]at r2;have f1:=gC (N:=99) (by decide) r1;have s1:=yi (N:=99) (by decide) (lN hl (by decide)) (lN hl (by decide));refine cA (S1:=none) (by simp only[RX,f1,r2,s1];rfl) ?_;exact K3 lS
theorem K2{a b c u v w:Str}{l r:Mx.D}{x5 x6 x7 x8:Option Dt}(lS:ns.length<=63)(hl:bM (· ∈[a,b]) 3 l)(sl:a8 3 l<=4)(ne:l≠ .tup [])(hr:bM (· ∈cw 3 l) 3 r)(sr:a8 3 r<=6)(ac:a≠c)(bc:b≠c):fin (aF (aA fs 99) (tl 4 EN) [some (.aQ ns),some (eE a b c),some (eE u v w),some (ofD l),some (ofD r),x5,x6,x7,x8] none)= .ok (.bl true,none):=by
 have d8:lim=1000000:=rfl;have r1:=kH (N:=99) (n:=3) (m:=3) (by decide) (by decide) (by decide) hl hr ⋯ ⋯ ne;rw[SH λx hx=>BH hr x hx]at r1;have s1:=yi (N:=99) (by decide) (lN hl (by decide)) (lN hr (by decide));have f1:=gC (N:=99) (a:=.tup []) (b:=ofD r) (by decide) (mf (by decide));obtain⟨rs,e,lr,IW⟩:=hr;subst e;have hr:bM (· ∈cw 3 l) 3 (.tup rs):=⟨rs,rfl,lr,IW⟩;have er:ofD (.tup rs)= .tup (aa rs):=by rw[ofD]
 obtain⟨w1,a1,a2,a3,a4⟩:=pS (N:=99) (it:=cF c) (c:=c) (by decide) hr sr (.inl ⟨c,rfl,trivial⟩) (by unfold cH;rw[bG];decide) (RW _ (List.mem_singleton_self _));obtain⟨w2,b1,b2,Ny,b4⟩:=pS (N:=99) (it:=ofT v [.tup [],.tup [row (cF c) 2]]) (c:=c) (by decide) hr sr (.inr ⟨v,_,rfl,by simp,λp hp=>by
  simp only[QA,QB,SM]at hp;rcases hp with rfl|rfl
  ·exact⟨[],rfl,by simp,λr hr=>by cases hr⟩
  ·exact⟨_,rfl,by simp,λr hr=>by rw[QW]at hr;exact⟨_,2,hr,by decide,by decide,.inl ⟨c,rfl,trivial⟩⟩⟩⟩) (by unfold cH;rw[aV];simp[a8,wsum,cH,aP,aO,bG]) (QU _ (by rw[aV];simp[cw,iT,jo,row,dg,cF]))
 have o1:aa (rs++[row (cF c) 1])=aa rs++[.tup [.tup [.str "any",.str c],.int 1]]:=by rw[aK];simp only[aa,ofD,row,cF]
 have o2:aa (rs++[row (ofT v [.tup [],.tup [row (cF c) 2]]) 1])=aa rs++[.tup [.tup [.str "of",.str v,.tup [.tup [],.tup [.tup [.tup [.str "any",.str c],.int 2]]]],.int 1]]:=by rw[aK];simp only[aa,ofD,row,cF,ofT]
 rw[o1]at a1;rw[o2]at b1;have ll:=aw rs;have t1:c8 .list [.tup (aa rs)]= .ok (.lst (aa rs)):=rfl;have c1:∀x:Dt,kq .Add (.lst (aa rs)) (.lst [x])= .ok (.lst (aa rs++[x])):=λx=>ix (a:=aa rs) (b:=[x]) (by rw[ll,RQ];lia)
 have k0:aA fs 99 6 [.aQ ns,.int 40,.int 2] none=_:=pk (ns:=ns) (N:=99) (by decide) 40 2 (by decide) (by decide);have i2:bW (eE a b c) (.int 2)= .ok (.str c):=rfl;have i1:bW (eE u v w) (.int 1)= .ok (.str v):=rfl;rw[er]at r1 s1 f1 ⊢;refine cA (S1:=none) (by simp only[RX,r1,s1,f1];rfl) ?_;refine au (d:=ofD w1) (S1:=none) (by simp only[RX,t1,i2,c1,a1]) (by unfold bo;rw[aZ,Ri]) ?_;by_cases hk:bt ns 40 2=0
 ·rw[hk]at k0;refine dJ (S1:=none) (by simp only[RX,k0];rfl) ?_;refine au (d:=ofD w2) (S1:=none) (by simp only[RX,t1,i1,i2,c1,b1]) (by unfold bo;rw[aZ,Ri]) ?_;exact GJ lS hl sl ne b2 Ny b4 ac bc
 ·have l2:=aW (ns:=ns) (k:=40) (many:=2) (by decide);have hk:bt ns 40 2=1:=⋯
  rw[hk]at k0;refine cA (S1:=none) (by simp only[RX,k0];rfl) ?_;exact GJ lS hl sl ne a2 a3 a4 ac bc
theorem law_true:∀ns:List Int,ns.length<=63->∃S,aA fs 100 25 [.aQ ns] none= .ok (.bl true,S):=λns lS=>by obtain⟨a,b,c,h1,ab,bc,ac⟩:=o6 (fs:=fs) (ip:=6) (im:=7) wG rfl (n:=98) (by decide) (ns:=ns) (k:=0) (L:="abcdefghijklmnopqrstuvwxyz") (by decide) (by decide) (by decide);obtain⟨u,v,w,h2,_,_,_⟩:=o6 (fs:=fs) (ip:=6) (im:=7) wG rfl (n:=98) (by decide) (ns:=ns) (k:=3) (L:="ABCDEFGHIJKLMNOPQRSTUVWXYZ") (by decide) (by decide) (by decide);have h1:aA fs 98 7 [.aQ ns,.int 0,.str "abcdefghijklmnopqrstuvwxyz"] none= .ok (eE a b c,none):=h1;have h2:aA fs 98 7 [.aQ ns,.int 3,.str "ABCDEFGHIJKLMNOPQRSTUVWXYZ"] none= .ok (eE u v w,none):=h2;have g1:aA fs 99 8 [.aQ ns,.int 0] none= .ok (eE a b c,none):=aB (body:=b8) rfl (by decide) rfl (by show fin (aF (aA fs 98) b8 [some (.aQ ns),some (.int 0)] none)=_;exact ao (by simp only[RX,h1]));have g2:aA fs 99 9 [.aQ ns,.int 3] none= .ok (eE u v w,none):=aB (body:=b9) rfl (by decide) rfl (by show fin (aF (aA fs 98) b9 [some (.aQ ns),some (.int 3)] none)=_;exact ao (by simp only[RX,h2]));have sl:fM (eE a b c) none (some 2)= .ok (.lst [.str a,.str b]):=rfl;obtain⟨l,l1,l2,l3,l4⟩:=Ag (S:=(· ∈[a,b])) (N:=99) (k:=6) (ns:=ns) (by decide) (by decide) (gZ (L:=[a,b]) (by simp) (Nat.le_of_ble_eq_true rfl)) (nM u v w);have l1:aA fs 99 21 [.aQ ns,.int 6,.lst [.str a,.str b],eE u v w] none= .ok (ofD l,none):=l1;obtain⟨r,r1,r2,r3⟩:=uV (N:=99) (k:=20) (ns:=ns) (by decide) (by decide) l2 ⋯ (nM u v w);have r1:aA fs 99 22 [.aQ ns,.int 20,.int 6,ofD l,eE u v w] none= .ok (ofD r,none):=r1;refine⟨none,aB (body:=EN) rfl (by decide) rfl ?_⟩;show fin (aF (aA fs 99) EN [some (.aQ ns),none,none,none,none,none,none,none,none] none)=_;refine au (d:=eE a b c) (S1:=none) (by simp only[RX,g1]) rfl ?_;refine au (d:=eE u v w) (S1:=none) (by simp only[RX,g2]) rfl ?_;refine au (d:=ofD l) (S1:=none) (by simp only[RX,sl,l1]) (by unfold bo;rw[aZ,Ri]) ?_;refine au (d:=ofD r) (S1:=none) (by simp only[RX,r1]) (by unfold bo;rw[aZ,Ri]) ?_;exact K2 lS l2 l3 l4 r2 r3 ac bc
end
end K81
end
section
namespace PySem.W.Fast
theorem tw11738227346122622408:True:=⟨⟩
theorem tw16719918181517116942:True:=⟨⟩
theorem tw15049660234345423117:True:=⟨⟩
theorem tw9807636129085889117:True:=⟨⟩
theorem tw3378298294552325129:True:=⟨⟩
theorem tw13266183969556420701:True:=⟨⟩
theorem tw3621175953965427409:True:=⟨⟩
theorem tw216125501205347479:True:=⟨⟩
theorem tw13640467602730180499:True:=⟨⟩
theorem tw9584948173790976056:True:=⟨⟩
theorem tw6189303913930120034:True:=⟨⟩
theorem tw11792861791930497349:True:=⟨⟩
theorem tw4641959861044224759:True:=⟨⟩
theorem tw16549224255603388478:True:=⟨⟩
theorem tw1456165092919399687:True:=⟨⟩
theorem tw5895756719689757164:True:=⟨⟩
theorem tw16920647403860061556:True:=⟨⟩
theorem tw7088148512490463327:True:=⟨⟩
theorem tw4780016032182489542:True:=⟨⟩
theorem tw10421156327848194980:True:=⟨⟩
theorem tw3565294433372201976:True:=⟨⟩
theorem tw10306754057697266133:True:=⟨⟩
theorem tw15490129306500505931:True:=⟨⟩
theorem tw16731001120610288112:True:=⟨⟩
theorem tw11211754384820761967:True:=⟨⟩
theorem tw9067137182141435110:True:=⟨⟩
theorem tw10176189365746916903:True:=⟨⟩
theorem tw3118547144296562294:True:=⟨⟩
theorem tw15375651076811962461:True:=⟨⟩
theorem tw2005442552069067150:True:=⟨⟩
theorem tw15995673597145952555:True:=⟨⟩
theorem tw7252376800179284235:True:=⟨⟩
theorem tw2480227781387692060:True:=⟨⟩
theorem tw9605470107777462420:True:=⟨⟩
theorem tw11795424768989576838:True:=⟨⟩
theorem tw3834655096589901976:True:=⟨⟩
theorem tw16459547925675415:True:=⟨⟩
theorem tw5069163097514580527:True:=⟨⟩
theorem tw10766782903283032018:True:=⟨⟩
theorem tw1035744553391026000:True:=⟨⟩
theorem tw9431504172675098756:True:=⟨⟩
theorem tw7513408825821511160:True:=⟨⟩
theorem tw9482629176599013759:True:=⟨⟩
theorem tw11578827849201277913:True:=⟨⟩
theorem tw16459876449246929359:True:=⟨⟩
theorem tw16260079528375203872:True:=⟨⟩
theorem tw17499950298081058031:True:=⟨⟩
theorem tw13760862595235969365:True:=⟨⟩
theorem tw12754088780858120326:True:=⟨⟩
theorem tw5260217833378467029:True:=⟨⟩
theorem tw12846874818086013526:True:=⟨⟩
theorem tw8098803806261606641:True:=⟨⟩
theorem tw6758971495887843637:True:=⟨⟩
theorem tw9496198115489100152:True:=⟨⟩
theorem tw12584733447791831403:True:=⟨⟩
theorem tw788506089191387956:True:=⟨⟩
theorem tw4429732185701449978:True:=⟨⟩
theorem tw13497950107203099115:True:=⟨⟩
theorem tw4525554814775086643:True:=⟨⟩
theorem tw2052689095431949292:True:=⟨⟩
theorem tw5214068924804290137:True:=⟨⟩
theorem tw12503305236827294858:True:=⟨⟩
theorem tw7765843028497625626:True:=⟨⟩
theorem tw472275721585280701:True:=⟨⟩
theorem tw8480057815289785734:True:=⟨⟩
theorem tw16512499377969523192:True:=⟨⟩
theorem tw1939840023367294257:True:=⟨⟩
theorem tw6908402140981946877:True:=⟨⟩
theorem tw5356055115578529840:True:=⟨⟩
theorem tw10857719042920964027:True:=⟨⟩
theorem tw15338419553078239238:True:=⟨⟩
theorem tw2637288343470170330:True:=⟨⟩
theorem tw11319683543743228291:True:=⟨⟩
theorem tw14774156175759105351:True:=⟨⟩
theorem tw896731060951382403:True:=⟨⟩
theorem tw2925873323644443698:True:=⟨⟩
theorem tw14154042503475297149:True:=⟨⟩
theorem tw12797879566151442549:True:=⟨⟩
theorem tw15970224225399070944:True:=⟨⟩
theorem tw8383404578113950876:True:=⟨⟩
end PySem.W.Fast
open PySem PySem.W PyProof.Rows Rx
set_option maxHeartbeats 0 in
theorem PySem.Challenge.cw_mixform_k81_rules_made_holds : PySem.Challenge.rw_mixform_k81_rules_made.Holds := by
 w_on;o_law;k_head;(case hw=>w_witness2)
 k_fill
 refine walkR (k:=100) (l:=PySem.Challenge.rw_mixform_k81_rules_made) rfl rfl ⟨rfl,by decide,by decide⟩ (λw h Y=>kIn_of Y) ?F
 case F=>
  intro w mg fa h KX G hmg;refine law_mk (rs:=K81.rows) (cons:=K81.cons) (bls:=K81.bls) (xs:=K81.xs) (L:=25) (n:=99) KX G hmg rfl K81.hok K81.hfs (λs v _ _ _ _ _ _=>.of_eq rfl) K81.law_true ?B ?C ?D ?E
  case B=>exact⟨by k_is,by k_is,by k_is,by k_is,by k_is,by k_is,by k_is,by k_is,by k_is,by k_is,by k_is,by k_is,by k_is,by k_is,by k_is,trivial⟩
  case C=>exact trivial
  case D=>
   refine⟨?_,?_,?_,?_,?_,?_,?_,?_,?_,?_,?_,?_,?_,?_,?_,?_,?_,?_,?_,?_,?_,?_,?_,?_,?_,?_,trivial⟩
   all_goals exact⟨_,_,_,_,_,_,_,_,_,_,_,by k_is,by k_is,by k_is,by k_is,λ_=>rfl,binds0 (by repeat first|exact len0 rfl|refine lenS λ_=>?_)⟩
  case E=>exact⟨⟨_,by k_is,by k_exc,⟨by k_is,by k_is,by k_is,by k_is,by k_is,by k_is,by k_is⟩,⟨⟨_,.inl ⟨by k_is,_,rfl⟩,by kit_is,λ_=>by kts_exm⟩,⟨_,.inl ⟨by k_is,_,rfl⟩,by kit_is,nofun⟩,⟨_,.inl ⟨by k_is,_,rfl⟩,by kit_is,λ_=>by kts_exm⟩,⟨_,.inl ⟨by k_is,_,rfl⟩,by kit_is,nofun⟩,⟨_,.inl ⟨by k_is,_,rfl⟩,by kit_is,nofun⟩,⟨_,.inr ⟨by k_is,rfl,rfl⟩,by kit_is,λ_=>by kts_exm⟩,trivial⟩⟩,trivial⟩
#print axioms PySem.Challenge.cw_mixform_k81_rules_made_holds
end