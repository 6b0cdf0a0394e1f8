import PyProof.Rows.All
import Wide.All
import OpenK.AllK
import Wide.FinOn
import Lean
import PyProof.EqAt
import PyProof.EqKinds
import PyProof.TupleCall
import KE.KUnpack
import PyProof.StrWalks
import PyProof.Rows.Range3
import PyProof.NeKinds
import PyProof.FactsAll.tuple_2
import PyProof.WalksMore
import KE.KIntText
import PyProof.AttrMissHeap
import KE.KDictOf
import PyProof.ExcBaseAll.ValueError
import KE.KTryMore
import PyProof.Rows.CallKwBuiltin
import PyProof.DictTable
import KE.IntTextLaws
import PySem.Challenge.RW_mixform_k14_no_text
set_option Elab.async false
set_option linter.all false
set_option maxRecDepth 100000
set_option maxHeartbeats 4000000
set_option bootstrap.genMatcherCode false
set_option genSizeOf false
set_option compiler.extract_closed false
local macro_rules|`(command|def $i:declId $s:optDeclSig $v:declVal)=>`(command|noncomputable def $i:declId $s:optDeclSig $v:declVal)
local macro_rules|`(command|abbrev $i:declId $s:optDeclSig $v:declVal)=>`(command|noncomputable abbrev $i:declId $s:optDeclSig $v:declVal)
local macro_rules|`(⋯)=>`(by omega)
local macro_rules|`(∅)=>`(by simp)
local macro_rules|`(‹$t›)=>`(by simpa using $t)
local macro_rules|`(‹_›)=>`(by decide)
namespace Lake
section
open PySem PySem.W PySem.Spec PyProof.Rows
def QK:=@wpAny_bind
def QL:=@Option.bind_eq_some_iff
def QM:=@Heap.get?_push_of_some
def QN:=@wpAny_pure
def QO:=@Bool.and_eq_true
def QP:=@List.size_toArray
def QQ:=@of_decide_eq_true
def QR:=@List.getElem?_eq_some_iff
def QS:=@List.mem_cons_of_mem
def QT:=@Nat.le_refl
def QU:=@List.mem_cons_self
def QV:=@Heap.get?_push_size
def QW:=@List.length_map
def QX:=@Heap.lt_size
def QY:=@Nat.le_trans
def QZ:=@List.mem_cons
def Q0:=@List.not_mem_nil
def Q1:=@List.append_assoc
def Q2:=@Option.map_eq_some_iff
def Q3:=@List.length_append
def Q4:=@List.getElem?_set_ne
def Q5:=@List.length_cons
def Q6:=@List.getElem?_map
def Q7:=@Array.length_toList
def Q8:=@Nat.lt_of_lt_of_le
def Q9:=@List.mem_append
def Ra:=@eq_of_beq
def Rb:=@List.getElem?_eq_getElem
def Rc:=@decide_eq_false
def Re:=@List.lookup_cons
def Rf:=@KeyOrd.kle_trans
def Rg:=@Heap.get?_update_other
def Rh:=@decide_eq_true
def Ri:=@Heap.size_push
def Rj:=@Nat.ne_of_lt
def Rk:=@List.mem_append_right
def Rl:=@wpAny_setField_rec
def Rm:=@List.mem_singleton
def Rn:=@List.mem_map
def Ro:=@List.all_eq_true
def Rp:=@List.any_eq_true
def Rq:=@Int.emod_nonneg
def Rr:=@Int.emod_lt_of_pos
def Rt:=@List.append_nil
def Ru:=@Bool.or_eq_true
def Rv:=@List.getElem?_append_left
def Rw:=@List.getElem?_append_right
def Ry:=@List.map_cons
def Rz:=@List.map_append
def RA:=@List.getElem?_set_self
def RB:=@List.mem_range
def RC:=@Bool.and_false
def RD:=@Bool.and_true
def RE:=@Bool.eq_iff_iff
def RF:=@Bool.false_eq_true
def RG:=@Bool.false_ne_true
def RH:=@Bool.not_eq_true'
def RI:=@Bool.or_eq_true_iff
def RJ:=@F.args_tuple_iterator_next_1
def RK:=@F.entry_tuple_iterator_next
def RL:=@F.slot_tuple_iterator_next
def RM:=@F.slot_zip_next
def RN:=@Int.toNat_natCast
def RP:=@KeyOrd.kle_of_klt
def RQ:=@KeyOrd.kle_refl
def RT:=@List.all_cons
def RU:=@List.cons_append
def RW:=@List.drop_eq_getElem_cons
def RY:=@List.filterMap_cons
def RZ:=@List.flatten_cons
def R0:=@List.forIn_cons
def R1:=@List.getD_eq_getElem?_getD
def R3:=@List.getElem?_replicate
def R4:=@List.getElem?_set
def R5:=@List.getElem?_take_of_lt
def R6:=@List.getElem_toArray
def R7:=@List.length_drop
def R8:=@List.length_nil
def R9:=@List.length_range
def Sa:=@List.length_replicate
def Sb:=@List.length_set
def Sd:=@List.length_singleton
def Se:=@List.length_take
def Sf:=@List.map_map
def Sg:=@List.map_nil
def Sh:=@List.mem_append_left
def Si:=@List.mem_filterMap
def Sj:=@List.mem_iff_getElem?
def Sk:=@List.mem_of_getElem?
def Sl:=@List.mem_of_mem_take
def Sn:=@List.nil_append
def So:=@List.nodup_cons
def Sr:=@List.of_mem_zip
def Ss:=@List.pairwise_cons
def Su:=@List.pairwise_map
def Sv:=@List.replicate_succ
def Sw:=@List.take_append_drop
def Sy:=@List.take_of_length_le
def Sz:=@List.zip_cons_cons
def SA:=@List.zip_nil_left
def SC:=@List.zip_nil_right
def SD:=@Nat.le_of_lt
def SE:=@Nat.le_succ
def SF:=@Nat.lt_irrefl
def SG:=@Nat.lt_succ_of_lt
def SH:=@Nat.lt_succ_self
def SI:=@Nat.ne_of_gt
def SJ:=@Nat.zero_le
def SL:=@Ne.symm
def SM:=@Option.some.inj
def SN:=@PyProof.Rows.callWith_type1
def SQ:=@PyProof.Rows.slot_tuple_getitem
def SR:=@PySem.F.args_tuple_add_2
def SU:=@PySem.F.entry_tuple_add
def SV:=@PySem.F.slot_tuple_add
def SW:=@PySem.W.cellsFrom_some
def SX:=@PySem.W.kia_one
def SY:=@PySem.mem_of_lookup
def SZ:=@beq_eq_false_iff_ne
def S4:=@beq_self_eq_true
def S5:=@call_meets
def S6:=@congrArg
def S7:=@decide_eq_true_eq
def S8:=@if_false
def S9:=@if_neg
def Ta:=@if_pos
def Tb:=@if_true
def Tc:=@noFill_tuple_add
def Td:=@of_decide_eq_false
def Te:=@or_false
def Tf:=@pushCells_keeps
def Th:=@sizeLine_eq
def Ti:=@wpAny_Call_Name_kw
def Tj:=@wpAny_callSpecial?_slot
def Tl:=@wpAny_call_entry
def Tn:=@wpAny_field
def To:=@wpAny_holding
def Tp:=@wpAny_mono
def Tq:=@wpAny_newObj_type
def Tr:=@wpAny_onRaise
def Tt:=@wpAny_passesOwn
def Tu:=@wpAny_pyIter_list
def Tv:=@wpAny_pyIter_tuple
def Tw:=@wpAny_rule
def Tx:=@wpAny_seqItems
def Tz:=@wpAny_standAt
def TC:=@wpAny_truthy_bool
def TF:=@wpAny_typeOf
def TH:=@wpAny_updateSeq_pair
end
section
namespace L2
open PySem PySem.Spec PyProof.Rows
abbrev Key:=Sum Int Str
def BS:Key->Value->Bool
 |.inl k,v=>Value.isInt k v
 |.inr x,v=>Value.isStrOf x v
def L5(w:World):Key->Int
 |.inl k=>hashInt k
 |.inr x=>hashStr w x
theorem aW:∀{k:Key}{v:Value},BS k v=true->(∃i t,k=Sum.inl i/\v=Value.int i t)\/(∃x t,k=Sum.inr x/\v=Value.str x t)
 |.inl i,v,h=>by obtain⟨t,e⟩:=Value.isInt_shape (k:=i) (v:=v) h;exact .inl ⟨i,t,rfl,e⟩
 |.inr x,v,h=>by obtain⟨t,e⟩:=Value.isStrOf_shape (x:=x) (v:=v) h;exact .inr ⟨x,t,rfl,e⟩
theorem DG(a b:Int):decide ((Sum.inl a:Key)=Sum.inl b)=(a==b):=by
 by_cases e:a=b
 ·subst e;simp
 ·have h:¬(Sum.inl a:Key)=Sum.inl b:=λq=>e (Sum.inl.inj q)
  rw[Rc h];exact(SZ.mpr e).symm
theorem DJ(a b:Str):decide ((Sum.inr a:Key)=Sum.inr b)=decide (a=b):=by
 by_cases e:a=b
 ·subst e;simp
 ·have h:¬(Sum.inr a:Key)=Sum.inr b:=λq=>e (Sum.inr.inj q)
  rw[Rc h,Rc e]
theorem DH(a:Int)(b:Str):decide ((Sum.inl a:Key)=Sum.inr b)=false:=Rc (λq=>nomatch q)
theorem DI(a:Str)(b:Int):decide ((Sum.inr a:Key)=Sum.inl b)=false:=Rc (λq=>nomatch q)
def lZ(prog:Program)(w:World):PySem.KeyKind prog w Key where
 is:=BS
 hash:=L5 w
 inj:=λv a b ha hb=>by
  rcases aW ha with ⟨i,t,rfl,rfl⟩|⟨x,t,rfl,rfl⟩
  ·rcases aW hb with ⟨j,u,rfl,e⟩|⟨y,u,rfl,e⟩
   ·injection e with e1 _;rw[e1]
   ·exact nomatch e
  ·rcases aW hb with ⟨j,u,rfl,e⟩|⟨y,u,rfl,e⟩
   ·exact nomatch e
   ·injection e with e1 _;rw[e1]
 byValue:=λk v h=>by rcases aW h with ⟨i,t,rfl,rfl⟩|⟨x,t,rfl,rfl⟩<;>rfl
 pyHash:=λhv h=>by
  rcases aW hv with ⟨i,t,rfl,rfl⟩|⟨x,t,rfl,rfl⟩
  ·exact wpAny_pyHash_int h
  ·exact wpAny_pyHash_str h
 eqBool:=λhu hv h=>by
  rcases aW hu with ⟨i,t,rfl,rfl⟩|⟨x,t,rfl,rfl⟩
  ·rcases aW hv with ⟨j,u,rfl,rfl⟩|⟨y,u,rfl,rfl⟩
   ·rw[DG]at h;exact wpAny_eqBool_int h
   ·rw[DH]at h;exact SeqAt.EqAt.int_str i t y u _ _ _ _ h
  ·rcases aW hv with ⟨j,u,rfl,rfl⟩|⟨y,u,rfl,rfl⟩
   ·rw[DI]at h;exact SeqAt.EqAt.str_int x t j u _ _ _ _ h
   ·rw[DJ]at h;exact wpAny_eqBool_str h
 «strs»:=λk x t v h=>by
  rcases aW h with ⟨i,u,rfl,e⟩|⟨y,u,rfl,e⟩
  ·exact nomatch e
  ·injection e with e1 _;subst e1;cases v<;>rfl
end L2
namespace L2
open PySem PySem.Spec PyProof.Rows
inductive V where
 |bM|bl (b:Bool)|int (i:Int)|str (x:Str)|CN (b:Array UInt8)|yU (b:UInt64)|ref (a:Addr)|ty (n:String)
 deriving DecidableEq
def RelV:V->Value->Prop
 |.bM,u=>u=Value.none
 |.bl b,u=>u=Value.bool b
 |.int i,u=>∃t,u=Value.int i t
 |.str x,u=>∃t,u=Value.str x t
 |.CN b,u=>∃t,u=Value.bytes b t
 |.yU b,u=>∃t,u=Value.float b t
 |.ref a,u=>u=Value.ref a
 |.ty n,u=>u=Value.type n
abbrev au:List V->List Value->Prop:=Paired RelV
theorem au.length{xs:List V}{us:List Value}(r:au xs us):xs.length=us.length:=Paired.length r
theorem au.get:∀{xs:List V}{us:List Value}{i:Nat}{x:V},au xs us->xs[i]?=some x->∃u,us[i]?=some u/\RelV x u
 |_,_,_,_,.nil,e=>by simp at e
 |_,_,0,_,.cons r _,e=>by simp at e;subst e;exact⟨_,rfl,r⟩
 |_,_,i+1,x,.cons _ t,e=>by obtain⟨u,h1,h2⟩:=au.get (i:=i) (x:=x) t ‹e›;exact⟨u,by simpa using h1,h2⟩
theorem au.set{x:V}{u:Value}(r:RelV x u):∀{xs:List V}{us:List Value}(i:Nat),au xs us->au (xs.set i x) (us.set i u)
 |_,_,_,.nil=>.nil
 |_,_,0,.cons _ t=>.cons r t
 |_,_,i+1,.cons q t=>.cons q (au.set r i t)
theorem au.append:∀{xs ys:List V}{us ws:List Value},au xs us->au ys ws->au (xs++ys) (us++ws)
 |_,_,_,_,.nil,s=>s
 |_,_,_,_,.cons r t,s=>.cons r (au.append t s)
theorem au.take:∀{xs:List V}{us:List Value}(n:Nat),au xs us->au (xs.take n) (us.take n)
 |_,_,0,_=>.nil
 |_,_,_+1,.nil=>.nil
 |_,_,n+1,.cons r t=>.cons r (au.take n t)
theorem au.drop:∀{xs:List V}{us:List Value}(n:Nat),au xs us->au (xs.drop n) (us.drop n)
 |_,_,0,r=>r
 |_,_,_+1,.nil=>.nil
 |_,_,n+1,.cons _ t=>au.drop n t
def Ct:Option V->Option Value->Prop
 |some v,some u=>RelV v u
 |none,none=>True
 |_,_=>False
def KV{κ:Type}:List (κ×V)->List (κ×Value)->Prop:=Paired λ(p:κ×V)(q:κ×Value)=>p.1=q.1/\RelV p.2 q.2
def kV:Key->V
 |.inl i=>.int i
 |.inr x=>.str x
inductive HO where
 |lst (xs:List V)
 |tup (xs:List V)
 |dK (cH:List (Key×V))|dT (cH:List (List Key×V))
 |set (S:Int->Bool) (n:Nat)
 |ins (C dx:Addr) (fs:List (Str×V))
 |own (x:Addr)
 |xd (fs:List (Str×V))
 |met (f x:Addr)
 |Mz (lo hi:Int)
 |qV (o:Obj) (u:HO)
 |qp (ps:Array Value)
 |ext (φ:Heap->Prop)
abbrev Hp:=Addr->Option HO
def upd(H:Hp)(a:Addr)(o:HO):Hp:=λb=>if b=a then some o else H b
theorem aB{H:Hp}{a:Addr}{o:HO}:upd H a o a=some o:=by unfold upd;rw[Ta rfl]
theorem aC{H:Hp}{a b:Addr}{o:HO}(h:b≠a):upd H a o b=H b:=by unfold upd;rw[S9 h]
theorem aK{H:Hp}{a b:Addr}{o:HO}(h:H a=some o)(h':H b=none):a≠b:=by intro e;subst e;rw[h]at h';cases h'
def m9(h:Heap)(a:Addr)(items:Array Value):Prop:=∃o,h.get? a=some o/\o.cls= .type "tuple"/\∃n,o.data= .seq items n/\o.dict=none/\o.slots=#[]
theorem m9.is{h:Heap}{a:Addr}{items:Array Value}:m9 h a items->IsTup h a items
 |⟨o,a,b,n,c,_⟩=>⟨o,a,b,n,c⟩
theorem m9.new(h:Heap)(items:Array Value):m9 (h.push {cls:=.type "tuple",data:=.seq items}) h.objs.size items:=⟨_,QV _ rfl,rfl,_,rfl,rfl,rfl⟩
section
variable(P:Program)(w:World)
def bF(H:Hp)(h:Heap)(a:Addr):HO->Prop
 |.lst xs=>xs.length<=sizeLine/\∃(its:List Value)(n:Nat),au xs its/\h.get? a=some {cls:=.type "list",data:=.seq its.toArray n}
 |.tup xs=>xs.length<=sizeLine/\∃its:List Value,au xs its/\m9 h a its.toArray
 |.dK cH=>cH.length<=sizeLine/\(a==sysModules)=false/\∃vs,KV cH vs/\h.DictOf (lZ P w) a vs
 |.dT cH=>cH.length<=sizeLine/\(a==sysModules)=false/\∃xs:List (List Key×Addr×Value),
   Paired (λ(p:List Key×V)(q:List Key×Addr×Value)=>p.1=q.1/\H q.2.1=some (.tup (p.1.map kV))/\RelV p.2 q.2.2) cH xs/\
   ∃o es ep,h.get? a=some o/\o.ExactDict/\o.data= .dict es ep/\es.toList=xs.map (entryOfKey (tupleKind (lZ P w)))/\(xs.map (·.1)).Nodup
 |.set S n=>h.SetOf (intKind P w) a S n
 |.ins C dx fs=>H dx=some (.own a)/\fs.length<=1000/\dx≠a/\h.get? a=some (PySem.W.instObj C dx)/\
   ∃mA,h.Ns1 dx mA/\(∀f,Ct (fs.lookup f) (mA f))/\PySem.Within mA (fs.map (·.1))
 |.own _=>∃o,h.get? a=some o
 |.xd fs=>∃mA,h.Ns1 a mA/\∀f,Ct (fs.lookup f) (mA f)
 |.Mz lo hi=>∃t u v,h.get? a=some {cls:=.type "range",data:=.fields #[.int lo t,.int hi u,.int 1 v]}
 |.qV o u=>h.get? a=some o/\bF H h a u
 |.qp ps=>h.get? a=some {cls:=.none,data:=.fields ps}
 |.met f x=>h.get? a=some (PySem.W.methodObj (.ref f) (.ref x))
 |.ext φ=>φ h/\(∃o,h.get? a=some o)/\∀h1 h2:Heap,φ h1->(∀o,h1.get? a=some o->h2.get? a=some o)->φ h2
def dq(H:Hp)(h:Heap):Prop:=∀a o,H a=some o->bF P w H h a o
end
section
variable{P:Program}{w:World}{H H':Hp}{h h':Heap}{a:Addr}{o:HO}
theorem bF.lt(x:bF P w H h a o):a<h.objs.size:=by
 cases o with
 |lst xs=>obtain⟨_,_,_,_,e⟩:=x;exact QX e
 |tup xs=>obtain⟨_,_,_,p⟩:=x;exact p.is.lt
 |dK cH=>obtain⟨_,_,_,_,o,_,_,e,_⟩:=x;exact QX e
 |dT cH=>obtain⟨_,_,_,_,o,_,_,e,_⟩:=x;exact QX e
 |set S n=>obtain⟨o,_,_,_,e,_⟩:=x;exact QX e
 |ins C dx fs=>obtain⟨_,_,_,e,_⟩:=x;exact QX e
 |own y=>obtain⟨_,e⟩:=x;exact QX e
 |xd fs=>obtain⟨_,⟨_,_,_,e,_⟩,_⟩:=x;exact QX e
 |Mz lo hi=>obtain⟨_,_,_,e⟩:=x;exact QX e
 |qV ob u=>obtain⟨e,_⟩:=x;exact QX e
 |qp ps=>exact QX (show h.get? a=some _ from x)
 |met f y=>exact QX (show h.get? a=some _ from x)
 |ext φ=>obtain⟨_,⟨_,e⟩,_⟩:=x;exact QX e
theorem Paired.HB{α β:Type}{F G:α->β->Prop}:∀{l₁:List α}{l₂:List β},Paired F l₁ l₂->(∀a b,F a b->G a b)->Paired G l₁ l₂
 |_,_,.nil,_=>.nil
 |_,_,.cons r t,f=>.cons (f _ _ r) (Paired.HB t f)
theorem bF.mL(x:bF P w H h a o)(k:∀b u,(b=a\/H b=some (.own a))->h.get? b=some u->h'.get? b=some u)
  (ho:∀b,H b=some (.own a)->H' b=some (.own a)) (ht:∀b xs,H b=some (.tup xs)->H' b=some (.tup xs)):bF P w H' h' a o:=by
 induction o with
 |lst xs=>obtain⟨z,its,n,r,e⟩:=x;exact⟨z,its,n,r,k _ _ (.inl rfl) e⟩
 |tup xs=>obtain⟨z,its,r,ob,e,c⟩:=x;exact⟨z,its,r,ob,k _ _ (.inl rfl) e,c⟩
 |dK cH=>obtain⟨z,y,vs,r,ob,es,ep,e,c⟩:=x;exact⟨z,y,vs,r,ob,es,ep,k _ _ (.inl rfl) e,c⟩
 |dT cH=>obtain⟨z,y,xs,r,ob,es,ep,e,c⟩:=x;exact⟨z,y,xs,Paired.HB r λp q z=>⟨z.1,ht _ _ z.2.1,z.2.2⟩,ob,es,ep,k _ _ (.inl rfl) e,c⟩
 |set S n=>obtain⟨ob,es,ep,t,e,c⟩:=x;exact⟨ob,es,ep,t,k _ _ (.inl rfl) e,c⟩
 |ins C dx fs=>obtain⟨d,z,ne,e,mA,⟨od,es,ep,e2,c⟩,r⟩:=x;exact⟨ho _ d,z,ne,k _ _ (.inl rfl) e,mA,⟨od,es,ep,k _ _ (.inr d) e2,c⟩,r⟩
 |own y=>obtain⟨ob,e⟩:=x;exact⟨ob,k _ _ (.inl rfl) e⟩
 |xd fs=>obtain⟨mA,⟨od,es,ep,e,c⟩,r⟩:=x;exact⟨mA,⟨od,es,ep,k _ _ (.inl rfl) e,c⟩,r⟩
 |Mz lo hi=>obtain⟨t,u,v,e⟩:=x;exact⟨t,u,v,k _ _ (.inl rfl) e⟩
 |qV ob u ih=>obtain⟨e,q⟩:=x;exact⟨k _ _ (.inl rfl) e,ih q⟩
 |qp ps=>have e:h.get? a=some {cls:=.none,data:=.fields ps}:=x;show h'.get? a=some {cls:=.none,data:=.fields ps};exact k a _ (.inl rfl) e
 |met f y=>have e:h.get? a=some (PySem.W.methodObj (.ref f) (.ref y)):=x;show h'.get? a=some (PySem.W.methodObj (.ref f) (.ref y));exact k a _ (.inl rfl) e
 |ext φ=>obtain⟨p,⟨o,e⟩,st⟩:=x;exact⟨st _ _ p λo q=>k _ _ (.inl rfl) q,⟨o,k _ _ (.inl rfl) e⟩,st⟩
theorem dq.lt(x:dq P w H h)(e:H a=some o):a<h.objs.size:=(x a o e).lt
theorem dq.fresh(x:dq P w H h)(e:h.objs.size<=a):H a=none:=by
 cases q:H a with
 |none=>rfl
 |some u=>exact absurd (Q8 (x.lt q) e) (SF _)
theorem dq.kept(x:dq P w H h)(k:∀b u,h.get? b=some u->h'.get? b=some u):dq P w H h':=λa o e=>
 (x a o e).mL (λb u _ q=>k b u q) (λ_ q=>q) λ_ _ q=>q
theorem dq.laid(x:dq P w H h)(k:∀b u,h.get? b=some u->h'.get? b=some u)(hp:h.objs.size<=a)(new:bF P w (upd H a o) h' a o):dq P w (upd H a o) h':=λb u e=>by
 have hn:=x.fresh hp;by_cases hb:b=a
 ·subst hb;rw[aB]at e;cases e;exact new
 ·rw[aC hb]at e;exact(x b u e).mL (λc v _ q=>k c v q) (λc q=>by rw[aC (aK q hn)];exact q) λc xs q=>by rw[aC (aK q hn)];exact q
end
def Rd(H:Hp)(a:Addr)(u:HO):Prop:=H a=some u\/∃o,H a=some (.qV o u)
theorem Rd.ok{P:Program}{w:World}{H:Hp}{h:Heap}{a:Addr}{u:HO}(r:Rd H a u)(x:dq P w H h):bF P w H h a u:=by
 rcases r with r|⟨o,r⟩
 ·exact x a u r
 ·obtain⟨_,q⟩:=x a _ r;exact q
def Jy:Option HO->Prop
 |some (.lst _)=>True
 |some (.dK _)=>True
 |some (.dT _)=>True
 |some (.set _ _)=>True
 |some (.ins _ _ _)=>True
 |some (.ext _)=>True
 |_=>False
section
variable{P:Program}{w:World}{H:Hp}{h h':Heap}{x e:Addr}{o':HO}
theorem dq.write(ok:dq P w H h)(mu:Jy (H x))(he:e=x\/H e=some (.own x))(k:∀b u,b≠e->h.get? b=some u->h'.get? b=some u)(FI:∃u,h'.get? e=some u)
  (new:bF P w (upd H x o') h' x o'):dq P w (upd H x o') h':=λb u q=>by
 have HH:∀c y,H c=some (.own y)->c≠x:=λc y r z=>by subst z;rw[r]at mu;exact mu
 have Mi:∀c xs,H c=some (.tup xs)->c≠x:=λc xs r z=>by subst z;rw[r]at mu;exact mu
 by_cases hb:b=x
 ·subst hb;rw[aB]at q;cases q;exact new
 ·rw[aC hb]at q;by_cases hbe:b=e
  ·have q':H b=some (.own x):=by
    rcases he with z|z
    ·exact absurd (hbe.trans z) hb
    ·rw[hbe];exact z
   rw[q]at q';cases q';obtain⟨v,hv⟩:=FI;exact⟨v,by rw[hbe];exact hv⟩
  ·refine(ok b u q).mL (λc v hc r=>k c v ?_ r) (λc r=>by rw[aC (HH c b r)];exact r) λc xs r=>by rw[aC (Mi c xs r)];exact r
   rcases hc with rfl|hc
   ·exact hbe
   ·rintro rfl;rcases he with z|z
    ·exact HH c b hc z
    ·rw[hc]at z;cases z;exact hb rfl
end
structure Un(fs ex:List Addr)(H H':Hp)(h h':Heap):Prop where
 keep:∀b o,h.get? b=some o->H b=none->b∉fs->b∉ex->h'.get? b=some o
 slot:∀b o,h.get? b=some o->H b=none->b∈fs->b∉ex->∃sl,h'.get? b=some {o with slots:=sl}
 free:∀b o,h.get? b=some o->H b=none->b∉ex->H' b=none
 there:∀b o,h.get? b=some o->b∉ex->∃o',h'.get? b=some o'
 tups:∀b xs,H b=some (.tup xs)->H' b=some (.tup xs)
 frzs:∀b o u,H b=some (.qV o u)->H' b=some (.qV o u)
 tbls:∀b ps,H b=some (.qp ps)->∃more,H' b=some (.qp (ps++more))
section
variable{fs ex:List Addr}{H H1 H2:Hp}{h h1 h2 h':Heap}{a x e:Addr}{o:HO}
theorem Un.any(u:Un fs ex H H1 h h1){b:Addr}{ob:Obj}(q:h.get? b=some ob)(n:H b=none)(hx:b∉ex):∃sl,h1.get? b=some {ob with slots:=sl}:=by
 by_cases hb:b∈fs
 ·exact u.slot b ob q n hb hx
 ·exact⟨ob.slots,u.keep b ob q n hb hx⟩
theorem Un.trans(a:Un fs ex H H1 h h1)(b:Un fs ex H1 H2 h1 h2):Un fs ex H H2 h h2 where
 keep:=λc ob q n hc hx=>b.keep c ob (a.keep c ob q n hc hx) (a.free c ob q n hx) hc hx
 slot:=λc ob q n hc hx=>by obtain⟨sl,e1⟩:=a.slot c ob q n hc hx;obtain⟨IF,e2⟩:=b.slot c _ e1 (a.free c ob q n hx) hc hx;exact⟨IF,e2⟩
 free:=λc ob q n hx=>by obtain⟨o',e1⟩:=a.there c ob q hx;exact b.free c o' e1 (a.free c ob q n hx) hx
 there:=λc ob q hx=>by obtain⟨o',e1⟩:=a.there c ob q hx;exact b.there c o' e1 hx
 tups:=λc xs q=>b.tups c xs (a.tups c xs q)
 frzs:=λc ob xs q=>b.frzs c ob xs (a.frzs c ob xs q)
 tbls:=λc ps q=>by obtain⟨m1,e1⟩:=a.tbls c ps q;obtain⟨m2,e2⟩:=b.tbls c _ e1;exact⟨m1++m2,by rw[e2,Array.append_assoc]⟩
theorem Un.kept(k:∀b u,h.get? b=some u->h'.get? b=some u):Un fs ex H H h h':=
 ⟨λb ob q _ _ _=>k b ob q,λb ob q _ _ _=>⟨ob.slots,k b ob q⟩,λ_ _ _ n _=>n,λb ob q _=>⟨ob,k b ob q⟩,λ_ _ q=>q,λ_ _ _ q=>q,λ_ ps q=>⟨#[],by rw[q];simp⟩⟩
theorem Un.refl:Un fs ex H H h h:=Un.kept λ_ _ q=>q
theorem Un.laid(k:∀b u,h.get? b=some u->h'.get? b=some u)(hp:h.objs.size<=a)(hn:H a=none):Un fs ex H (upd H a o) h h' where
 keep:=λb u q _ _ _=>k b u q
 slot:=λb u q _ _ _=>⟨u.slots,k b u q⟩
 free:=λb u q n _=>by rw[aC (Rj (Q8 (QX q) hp))];exact n
 there:=λb u q _=>⟨u,k b u q⟩
 tups:=λb xs q=>by rw[aC (aK q hn)];exact q
 frzs:=λb u xs q=>by rw[aC (aK q hn)];exact q
 tbls:=λb ps q=>⟨#[],by rw[aC (aK q hn),q];simp⟩
theorem Un.write(mu:Jy (H x))(he:e=x\/H e=some (.own x))(k:∀b u,b≠e->h.get? b=some u->h'.get? b=some u)(FI:∃u,h'.get? e=some u):Un fs ex H (upd H x o) h h':=by
 have hx:∀b,H b=none->b≠x:=λb n z=>by subst z;rw[n]at mu;exact mu
 have hb:∀b,H b=none->b≠e:=λb n z=>by
  subst z;rcases he with r|r
  ·exact hx b n r
  ·rw[n]at r;cases r
 have hm:∀b u,H b=some u->¬Jy (some u)->b≠x:=λb u q nm z=>by subst z;rw[q]at mu;exact nm mu
 refine⟨λb u q n _ _=>k b u (hb b n) q,λb u q n _ _=>⟨u.slots,k b u (hb b n) q⟩,λb u q n _=>by rw[aC (hx b n)];exact n,λb u q _=>?_,
  λb xs q=>by rw[aC (hm b _ q λz=>z)];exact q,λb u xs q=>by rw[aC (hm b _ q λz=>z)];exact q,λb ps q=>⟨#[],by rw[aC (hm b _ q λz=>z),q];simp⟩⟩
 by_cases hbe:b=e
 ·subst hbe;exact FI
 ·exact⟨u,k b u hbe q⟩
end
def E4(h:Heap)(H:Hp):List Addr:=(List.range h.objs.size).filter λa=>(H a).isSome
def lP(h:Heap)(H:Hp):Heap:=PySem.W.hideAll h (E4 h H)
theorem tO(h:Heap)(H:Hp):(lP h H).objs.size=h.objs.size:=PySem.W.hideAll_size _ _
theorem wc{h:Heap}{H:Hp}{b:Addr}{o:Obj}(e:h.get? b=some o)(n:H b=none):(lP h H).get? b=some o:=
 PySem.W.hideAll_get _ e λhm=>by have q:(H b).isSome=true:=(List.mem_filter.mp hm).2;rw[n]at q;simp at q
theorem Ay{h:Heap}{H:Hp}{b:Addr}{o:Obj}(e:(lP h H).get? b=some o):h.get? b=some o/\H b=none:=by
 have e':h.get? b=some o:=PySem.W.of_hideAll (E4 h H) e;refine⟨e',?_⟩;cases q:H b with
 |none=>rfl
 |some x=>have hm:b∈E4 h H:=List.mem_filter.mpr ⟨RB.mpr (QX e'),by simp[q]⟩;have z:(lP h H).get? b=none:=PySem.W.hideAll_none (E4 h H) hm;rw[z]at e;cases e
def zh(g h:Heap)(L:Addr):List (Addr×Obj):=(List.range h.objs.size).filterMap λa=>if a=L\/(g.get? a).isSome=true then none else(h.get? a).map λo=>(a,o)
def rest(g h:Heap)(L d:Addr):List (Addr×Obj):=(zh g h L).filter λp=>decide (p.1≠d)
end L2
namespace L2
open PySem PySem.Spec PyProof.Rows
structure Mod(K:PySem.W.Frag)(mg:Str->Option Value)(base:Heap):Prop where
 L6:K.In base
 glob:base.Ns mainGlobals mg
 blt:∃mb,base.Ns builtinsNs mb/\∀x:Str,x≠"__name__"->mb x=bootBuiltins x
 nolimit:base.NoLimit
structure Cx where
 prog:Program
 w:World
 K:PySem.W.Frag
 mg:Str->Option Value
 base:Heap
 A:Around
 N:List Str
 s₀:Shared
 H₀:Hp
 env:Env
 outer:List Env
 stack:List Env
 ex:List Addr
 fn:Str->Bool
 calm:Bool
 pn:List (Addr×Obj)
 xe:Value->Shared->Prop
def dR(l:List Env):List Addr:=l.filterMap (·.frame)
abbrev Cx.fs(X:Cx):List Addr:=dR X.outer
def Cv(sc:Scope)(x:Str):Prop:=sc.names.lookup x=some .local\/sc.names.lookup x=some .cell\/sc.names.lookup x=some .free
def Loc(sc:Scope)(x:Str):Prop:=sc.names.lookup x=some .local\/sc.names.lookup x=some .cell
def Look(env:Env)(h:Heap)(m:Str->Option Value)(x:Str)(u:Value):Prop:=
 (env.kindOf x=some .local/\m x=some u)\/((env.kindOf x=some .cell\/env.kindOf x=some .free)/\∃c,env.cells.lookup x=some c/\h.IsCell c (some u))
structure Cx.Ok(X:Cx):Prop where
 mod:Mod X.K X.mg X.base
 kind:X.env.scope.kind= .function
 glob:X.env.globals=mainGlobals
 blt:X.env.builtins=builtinsNs
 above:X.s₀.heap.objs.size<=X.env.locals
 inj:∀x y c,X.env.cells.lookup x=some c->X.env.cells.lookup y=some c->x=y
 has:∀x,(X.env.kindOf x=some .cell\/X.env.kindOf x=some .free)->∃c,X.env.cells.lookup x=some c
 yQ:∀x c,X.fn x=true->X.env.cells.lookup x=some c->X.s₀.heap.objs.size<=c
 hd:X.calm=true->X.A.handled=none
 frames:X.A.frames=some X.stack
 Bm:X.stack=X.outer\/(X.stack=X.env::X.outer/\X.env.frame=some X.env.locals)
 BJ:∀b∈X.ex,b≠X.env.locals/\∀x c,X.env.cells.lookup x=some c->c≠b
 bs:∀b o,X.base.get? b=some o->X.s₀.heap.get? b=some o/\X.H₀ b=none
 vh:X.base.objs.size<=X.s₀.heap.objs.size
 kf:∀b o,X.base.get? b=some o->b∉X.ex
 lG:∀b∈X.ex,b∉X.fs
 fP:X.s₀.heap.FunFrames X.base X.outer
 zN:∀b∈X.fs,X.H₀ b=none
structure Inv(X:Cx)(pins:List (Addr×Obj))(σ:List (Option V))(H:Hp)(s:Shared):Prop where
 ok:X.Ok
 os:s.os=X.s₀.os
 bare:AllBare s.gens
 base:Un X.fs X.ex X.H₀ H X.s₀.heap s.heap
 loc:∃m,s.heap.Ns X.env.locals m/\∀(i:Nat)(x:Str)(v:V),X.N[i]?=some x->σ[i]?=some (some v)->Cv X.env.scope x->∃u,RelV v u/\Look X.env s.heap m x u
 cell:∀x c,X.env.cells.lookup x=some c->∃v,s.heap.IsCell c v
 free:H X.env.locals=none
 b8:∀x c,X.env.cells.lookup x=some c->H c=none
 pin:∀p∈X.pn++pins,s.heap.get? p.1=some p.2/\H p.1=none/\p.1≠X.env.locals/\p.1∉X.fs/\∀v,p.2.data≠ .cell v
 hok:dq X.prog X.w H s.heap
 len:σ.length=X.N.length
section
variable{X:Cx}{pins:List (Addr×Obj)}{σ:List (Option V)}{H H':Hp}{s:Shared}{h':Heap}
theorem Cx.Ok.Mg(ok:X.Ok){b:Addr}{o:Obj}(e:X.base.get? b=some o):b∉X.fs:=λhb=>by have:=(ok.fP.mem hb).1;rw[e]at this;cases this
theorem Inv.bs(I:Inv X pins σ H s):∀b o,X.base.get? b=some o->s.heap.get? b=some o/\H b=none:=λb o e=>
 ⟨I.base.keep b o (I.ok.bs b o e).1 (I.ok.bs b o e).2 (I.ok.Mg e) (I.ok.kf b o e),I.base.free b o (I.ok.bs b o e).1 (I.ok.bs b o e).2 (I.ok.kf b o e)⟩
theorem Inv.bk(I:Inv X pins σ H s):∀b o,X.base.get? b=some o->s.heap.get? b=some o:=λb o e=>(I.bs b o e).1
theorem Inv.mod(I:Inv X pins σ H s):Mod X.K X.mg X.base:=I.ok.mod
theorem Inv.iS(I:Inv X pins σ H s):X.K.In s.heap:=I.ok.mod.L6.keeps I.bk
theorem Inv.fr(I:Inv X pins σ H s):∃m,Fr X.base X.env.locals s.heap m:=
 let ⟨m,hn,_⟩:=I.loc
 ⟨m,hn,I.bk,QY I.ok.vh I.ok.above⟩
theorem Inv.lt(I:Inv X pins σ H s):X.env.locals<s.heap.objs.size:=let ⟨_,hn,_⟩:=I.loc;hn.lt
theorem Inv.sz(I:Inv X pins σ H s):X.s₀.heap.objs.size<=s.heap.objs.size:=QY I.ok.above (SD I.lt)
theorem Inv.Mh(I:Inv X pins σ H s){a:Addr}(h:s.heap.objs.size<=a):a∉X.fs:=λhb=>by obtain⟨_,o,ho,_⟩:=I.ok.fP.mem hb;exact absurd (Q8 (QX ho) (QY I.sz h)) (SF _)
theorem Inv.CV(I:Inv X pins σ H s):∀x c,X.env.cells.lookup x=some c->c≠X.env.locals:=λx c e z=>by obtain⟨v,o,ho,hd⟩:=I.cell x c e;obtain⟨m,⟨o',es,ep,lQ,pL,_⟩,_⟩:=I.loc;rw[z,lQ]at ho;cases ho;rw[pL]at hd;cases hd
theorem Inv.fP(I:Inv X pins σ H s):s.heap.FunFrames X.base X.outer:=by
 have all:∀(l:List Env),(∀b∈dR l,b∈X.fs)->X.s₀.heap.FunFrames X.base l->s.heap.FunFrames X.base l:=by
  intro l
  induction l with
  |nil=>intro _ _;trivial
  |cons env r ih=>
   intro hs hl;obtain⟨hk,⟨L,o,hf,hn,ho,hd⟩,hr⟩:=hl;have hL:L∈X.fs:=hs L (by unfold dR;rw[RY,hf];exact QU);obtain⟨sl,e⟩:=I.base.slot L o ho (I.ok.zN L hL) hL λz=>I.ok.lG L z hL
   exact⟨hk,⟨L,_,hf,hn,e,hd⟩,ih (λb hb=>hs b (by unfold dR;rw[RY,hf];exact QS _ hb)) hr⟩
 exact all X.outer (λ_ hb=>hb) I.ok.fP
theorem Inv.stack(I:Inv X pins σ H s):s.heap.FunFrames X.base X.stack:=by
 rcases I.ok.Bm with e|⟨e,hf⟩
 ·rw[e];exact I.fP
 ·rw[e];obtain⟨m,hn,_⟩:=I.loc;refine .cons (by rw[I.ok.kind];decide) hf hn ?_ I.fP;exact Heap.get?_none_of_le (QY I.ok.vh I.ok.above)
theorem Inv.jW(I:Inv X pins σ H s):∀b∈dR X.stack,b∈X.env.locals::X.fs:=λb hb=>by
 rcases I.ok.Bm with e|⟨e,hf⟩
 ·rw[e]at hb;exact QS _ hb
 ·rw[e]at hb;unfold dR at hb;rw[RY,hf]at hb;exact hb
theorem Inv.mM(I:Inv X pins σ H s):∀b∈dR X.stack,H b=none:=λb hb=>by
 rcases QZ.mp (I.jW b hb)with e|hb
 ·rw[e];exact I.free
 ·obtain⟨_,o,ho,_⟩:=I.ok.fP.mem hb;exact I.base.free b o ho (I.ok.zN b hb) λz=>I.ok.lG b z hb
theorem Inv.step{g':Array GenState}{t':Nat}{d':Drawn}{ch:List Addr}(I:Inv X pins σ H s)
  (uM:∀b∈ch,(b∈X.ex\/X.s₀.heap.objs.size<=b)/\b≠X.env.locals/\(∀x c,X.env.cells.lookup x=some c->c≠b)/\∀p∈X.pn++pins,p.1≠b)
  (keep:∀b o,b≠X.env.locals->b∉X.fs->b∉ch->s.heap.get? b=some o->H b=none->h'.get? b=some o)
  (slot:∀b o,b≠X.env.locals->b∈X.fs->b∉ch->s.heap.get? b=some o->H b=none->∃sl,h'.get? b=some {o with slots:=sl}) (free:∀b o,b∉ch->s.heap.get? b=some o->H b=none->H' b=none)
  (there:∀b o,b∉ch->s.heap.get? b=some o->∃o',h'.get? b=some o')
  (tups:∀b xs,H b=some (.tup xs)->H' b=some (.tup xs)) (frzs:∀b o u,H b=some (.qV o u)->H' b=some (.qV o u)) (tbls:∀b ps,H b=some (.qp ps)->∃more,H' b=some (.qp (ps++more)))
  (ns:∀m,s.heap.Ns X.env.locals m->h'.Ns X.env.locals m) (hok:dq X.prog X.w H' h') (hg:AllBare g'):
  Inv X pins σ H' {s with heap:=h',gens:=g',drawn:=d',toks:=t'}:=by
 have J4:∀b o,X.s₀.heap.get? b=some o->b≠X.env.locals:=λb o e=>Rj (Q8 (QX e) I.ok.above)
 have J3:∀b o,X.s₀.heap.get? b=some o->b∉X.ex->b∉ch:=λb o e hx hb=>by
  rcases (uM b hb).1 with z|z
  ·exact hx z
  ·exact absurd (Q8 (QX e) z) (SF _)
 have cellK:∀x c,X.env.cells.lookup x=some c->∀v,s.heap.IsCell c v->h'.IsCell c v:=λx c e v⟨o,ho,hd⟩=>by
  have HE:c∉ch:=λz=>(uM c z).2.2.1 x c e rfl
  by_cases hc:c∈X.fs
  ·obtain⟨sl,q⟩:=slot c o (I.CV x c e) hc HE ho (I.b8 x c e);exact⟨_,q,hd⟩
  ·exact⟨o,keep c o (I.CV x c e) hc HE ho (I.b8 x c e),hd⟩
 refine⟨I.ok,I.os,hg,⟨λb o e n hb hx=>?_,λb o e n hb hx=>?_,λb o e n hx=>?_,λb o e hx=>?_,λb xs e=>tups b xs (I.base.tups b xs e),λb o xs e=>frzs b o xs (I.base.frzs b o xs e),λb ps e=>?_⟩,?_,λx c e=>?_,?_,λx c e=>?_,λp hp=>?_,hok,I.len⟩
 ·exact keep b o (J4 b o e) hb (J3 b o e hx) (I.base.keep b o e n hb hx) (I.base.free b o e n hx)
 ·obtain⟨sl,e1⟩:=I.base.slot b o e n hb hx;obtain⟨IF,e2⟩:=slot b _ (J4 b o e) hb (J3 b o e hx) e1 (I.base.free b o e n hx);exact⟨IF,e2⟩
 ·obtain⟨o',e1⟩:=I.base.there b o e hx;exact free b o' (J3 b o e hx) e1 (I.base.free b o e n hx)
 ·obtain⟨o',e1⟩:=I.base.there b o e hx;exact there b o' (J3 b o e hx) e1
 ·obtain⟨m1,e1⟩:=I.base.tbls b ps e;obtain⟨m2,e2⟩:=tbls b _ e1;exact⟨m1++m2,by rw[e2,Array.append_assoc]⟩
 ·obtain⟨m,hn,hl⟩:=I.loc;refine⟨m,ns m hn,λi x v e1 e2 e3=>?_⟩;obtain⟨u,r,l⟩:=hl i x v e1 e2 e3;refine⟨u,r,?_⟩;rcases l with l|⟨k,c,e,z⟩
  ·exact .inl l
  ·exact .inr ⟨k,c,e,cellK x c e _ z⟩
 ·obtain⟨v,z⟩:=I.cell x c e;exact⟨v,cellK x c e v z⟩
 ·obtain⟨m,⟨o,_,_,ho,_⟩,_⟩:=I.loc;exact free _ o (λz=>(uM _ z).2.1 rfl) ho I.free
 ·obtain⟨v,o,ho,hd⟩:=I.cell x c e;exact free c o (λz=>(uM c z).2.2.1 x c e rfl) ho (I.b8 x c e)
 ·obtain⟨e,n,ne,nf,d⟩:=I.pin p hp;have HE:p.1∉ch:=λz=>(uM p.1 z).2.2.2 p hp rfl
  exact⟨keep p.1 p.2 ne nf HE e n,free p.1 p.2 HE e n,ne,nf,d⟩
theorem Inv.un{t':Nat}(I:Inv X pins σ H s)(u:Un X.fs [] H H' s.heap h')(hok:dq X.prog X.w H' h'):Inv X pins σ H' {s with heap:=h',toks:=t'}:=by
 obtain⟨m,⟨o,es,ep,ho,r⟩,_⟩:=id I.loc;obtain⟨sl,hL⟩:=u.any ho I.free ∅;exact I.step (g':=s.gens) (d':=s.drawn) (ch:=[]) (λ_ z=>nomatch z) (λb o _ hb _ e n=>u.keep b o e n hb ∅) (λb o _ hb _ e n=>u.slot b o e n hb ∅) (λb o _ e n=>u.free b o e n ∅) (λb o _ e=>u.there b o e ∅) u.tups u.frzs u.tbls (λm' hm=>by
  obtain⟨o',fB,K1,lQ,r'⟩:=hm;rw[ho]at lQ;cases lQ;exact⟨_,fB,K1,hL,r'⟩) hok I.bare
theorem Inv.call{g':Array GenState}{t':Nat}{d':Drawn}{ch:List Addr}(I:Inv X pins σ H s)(u:Un (dR X.stack) ch H H' s.heap h')(hok:dq X.prog X.w H' h')(hg:AllBare g')
  (uM:∀b∈ch,(b∈X.ex\/X.s₀.heap.objs.size<=b)/\b≠X.env.locals/\(∀x c,X.env.cells.lookup x=some c->c≠b)/\∀p∈X.pn++pins,p.1≠b):
  Inv X pins σ H' {s with heap:=h',gens:=g',drawn:=d',toks:=t'}:=by
 obtain⟨m,⟨o,es,ep,ho,r⟩,_⟩:=id I.loc;obtain⟨sl,hL⟩:=u.any ho I.free λz=>(uM _ z).2.1 rfl
 exact I.step (ch:=ch) uM (λb o hL hb hc e n=>u.keep b o e n (λz=>(QZ.mp (I.jW b z)).elim hL hb) hc) (λb o _ _ hc e n=>u.any e n hc) (λb o hc e n=>u.free b o e n hc) (λb o hc e=>u.there b o e hc) u.tups u.frzs u.tbls (λm' hm=>by
  obtain⟨o',fB,K1,lQ,r'⟩:=hm;rw[ho]at lQ;cases lQ;exact⟨_,fB,K1,hL,r'⟩) hok hg
theorem Inv.turned{t':Nat}{it:Addr}(I:Inv X pins σ H s)(k:∀b o,b≠it->s.heap.get? b=some o->h'.get? b=some o)(hn:H it=none)(hL:it≠X.env.locals)
  (h1:it∈X.ex\/X.s₀.heap.objs.size<=it) (h2:∀x c,X.env.cells.lookup x=some c->c≠it) (h3:∀p∈X.pn++pins,p.1≠it):Inv X pins σ H {s with heap:=h',toks:=t'}:=by
 have NY:∀b u,H b=some u->b≠it:=λb u e z=>by rw[z,hn]at e;cases e
 refine I.step (g':=s.gens) (d':=s.drawn) (ch:=[it]) (λb hb=>?_) (λb o _ _ hc e _=>k b o (λz=>hc (by simp[z])) e) (λb o _ _ hc e _=>⟨o.slots,k b o (λz=>hc (by simp[z])) e⟩) (λ_ _ _ _ n=>n)
  (λb o hc e=>⟨o,k b o (λz=>hc (by simp[z])) e⟩) (λ_ _ e=>e) (λ_ _ _ e=>e) (λb ps e=>⟨#[],by rw[e];simp⟩) (λm hm=>?_) (λb u e=>?_) I.bare
 ·have e:b=it:=by simpa using hb
  subst e;exact⟨h1,hL,h2,h3⟩
 ·obtain⟨o,es,ep,ho,r⟩:=hm;exact⟨o,es,ep,k _ o (SL hL) ho,r⟩
 ·refine(I.hok b u e).mL (λc v hc q=>k c v ?_ q) (λ_ q=>q) λ_ _ q=>q
  rcases hc with z|z
  ·rw[z];exact NY b u e
  ·exact NY c _ z
theorem Inv.tok(I:Inv X pins σ H s)(t:Nat):Inv X pins σ H {s with toks:=t}:=I.un (h':=s.heap) (t':=t) Un.refl I.hok
theorem Inv.kept{t':Nat}(I:Inv X pins σ H s)(k:∀b u,s.heap.get? b=some u->h'.get? b=some u):Inv X pins σ H {s with heap:=h',toks:=t'}:=I.un (Un.kept k) (I.hok.kept k)
theorem Inv.laid{a:Addr}{o:HO}{t':Nat}(I:Inv X pins σ H s)(k:∀b u,s.heap.get? b=some u->h'.get? b=some u)(hp:s.heap.objs.size<=a)(new:bF X.prog X.w (upd H a o) h' a o):
  Inv X pins σ (upd H a o) {s with heap:=h',toks:=t'}:=I.un (Un.laid k hp (I.hok.fresh hp)) (I.hok.laid k hp new)
theorem Inv.write{x e:Addr}{o:HO}{t':Nat}(I:Inv X pins σ H s)(mu:Jy (H x))(he:e=x\/H e=some (.own x))(k:∀b u,b≠e->s.heap.get? b=some u->h'.get? b=some u)(FI:∃u,h'.get? e=some u)
  (new:bF X.prog X.w (upd H x o) h' x o):Inv X pins σ (upd H x o) {s with heap:=h',toks:=t'}:=I.un (Un.write mu he k FI) (I.hok.write mu he k FI new)
theorem Inv.weak{σ':List (Option V)}(I:Inv X pins σ H s)(hl:σ'.length=σ.length)(w:∀(i:Nat)v,σ'[i]?=some (some v)->σ[i]?=some (some v)):Inv X pins σ' H s:=
 ⟨I.ok,I.os,I.bare,I.base,let ⟨m,hn,zZ⟩:=I.loc;⟨m,hn,λi x v e1 e2 e3=>zZ i x v e1 (w i v e2) e3⟩,I.cell,I.free,I.b8,I.pin,I.hok,hl.trans I.len⟩
theorem Inv.fh{pins':List (Addr×Obj)}(I:Inv X pins σ H s)(h:∀p∈pins',s.heap.get? p.1=some p.2/\H p.1=none/\p.1≠X.env.locals/\p.1∉X.fs/\∀v,p.2.data≠ .cell v):Inv X pins' σ H s:=
 ⟨I.ok,I.os,I.bare,I.base,I.loc,I.cell,I.free,I.b8,λp hp=>(Q9.mp hp).elim (λz=>I.pin p (Sh _ z)) (h p),I.hok,I.len⟩
theorem gw{N:List Str}(hN:N.Nodup){i j:Nat}{x:Str}(a:N[i]?=some x)(b:N[j]?=some x):i=j:=by obtain⟨h1,e1⟩:=QR.mp a;obtain⟨h2,e2⟩:=QR.mp b;exact(List.getElem_inj hN).mp (e1.trans e2.symm)
theorem kW{M:Model}{A:Around}{E:Value->Shared->Prop}{i:Nat}{x:Str}{v:V}{u:Value}{Q:Unit->Shared->Prop}(I:Inv X pins σ H s)(hN:X.N.Nodup)(hi:X.N[i]?=some x)(hx:Loc X.env.scope x)(r:RelV v u)
  (h:∀s',Inv X pins (σ.set i (some v)) H s'->(∃a,Heap.SameBut a s.heap s'.heap/\(a=X.env.locals\/X.env.cells.lookup x=some a))->Q () s') (hf:X.fn x=true\/X.env.scope.names.lookup x=some .local:=by first|exact .inl rfl|exact .inr rfl|assumption):wpAny M A (storeName X.env x u) Q E s:=by
 obtain⟨m,hn,hl⟩:=id I.loc;have nV:(X.env.scope.kind== .class||(X.env.scope.kind== .module&&X.env.locals != X.env.globals))=false:=by rw[I.ok.kind];rfl
 have hiσ:i<σ.length:=by rw[I.len];exact(QR.mp hi).1
 have CV:=I.CV;have tracked:∀{a:Addr}{h':Heap},(∃o,s.heap.get? a=some o/\H a=none)->Heap.SameBut a s.heap h'->dq X.prog X.w H h':=λ {a h'} ha hs b ob e=>by
  obtain⟨_,_,BP⟩:=ha;refine(I.hok b ob e).mL (λc w' hc q=>(hs.2 c ?_).trans q) (λ_ q=>q) λ_ _ q=>q
  rintro rfl;rcases hc with rfl|hc
  ·rw[BP]at e;cases e
  ·rw[BP]at hc;cases hc
 rcases hx with hk|hk
 ·refine wpAny_storeName_local hk hn (λh' Pt hs=>?_) nV;obtain⟨oL,_,_,JS,_⟩:=id hn;refine h _ ⟨I.ok,I.os,I.bare,⟨λb o e n hb hx=>?_,λb o e n hb hx=>?_,I.base.free,λb o e hx=>?_,I.base.tups,I.base.frzs,I.base.tbls⟩,⟨_,Pt,λj y v' e1 e2 e3=>?_⟩,λy c e=>?_,I.free,I.b8,λp hp=>?_,tracked ⟨oL,JS,I.free⟩ hs,by simpa using I.len⟩ ⟨_,hs,.inl rfl⟩
  ·exact(hs.2 b (Rj (Q8 (QX e) I.ok.above))).trans (I.base.keep b o e n hb hx)
  ·obtain⟨sl,e1⟩:=I.base.slot b o e n hb hx;exact⟨sl,(hs.2 b (Rj (Q8 (QX e) I.ok.above))).trans e1⟩
  ·obtain⟨o',e1⟩:=I.base.there b o e hx;exact⟨o',(hs.2 b (Rj (Q8 (QX e) I.ok.above))).trans e1⟩
  ·by_cases hj:j=i
   ·subst hj;rw[hi]at e1;cases e1;rw[RA hiσ]at e2;cases e2;exact⟨u,r,.inl ⟨hk,∅⟩⟩
   ·rw[Q4 (SL hj)]at e2;obtain⟨u',r',q⟩:=hl j y v' e1 e2 e3;refine⟨u',r',?_⟩;rcases q with ⟨k,e⟩|⟨k,c,e,z⟩
    ·refine .inl ⟨k,?_⟩;have:y≠x:=λe=>hj (gw hN e1 (e▸hi))
     simp[this,e]
    ·exact .inr ⟨k,c,e,z.sameBut hs (CV y c e)⟩
  ·obtain⟨w',z⟩:=I.cell y c e;exact⟨w',z.sameBut hs (CV y c e)⟩
  ·obtain⟨e,n,ne,nf,d⟩:=I.pin p hp;exact⟨(hs.2 p.1 ne).trans e,n,ne,nf,d⟩
 ·have v9:X.fn x=true:=by
   rcases hf with z|z
   ·exact z
   ·rw[z]at hk;cases hk
  obtain⟨c,hc⟩:=I.ok.has x (.inl hk);obtain⟨w',z⟩:=I.cell x c hc;refine wpAny_storeName_cell I.ok.kind hk hc z (λh' kc hs=>?_);obtain⟨oc,NG,LI⟩:=id z;refine h {s with heap:=h'} ⟨I.ok,I.os,I.bare,⟨λb o e n hb hx=>?_,λb o e n hb hx=>?_,I.base.free,λb o e hx=>?_,I.base.tups,I.base.frzs,I.base.tbls⟩,⟨m,hn.sameBut hs (SL (CV x c hc)),λj y v' e1 e2 e3=>?_⟩,λy c' e=>?_,I.free,I.b8,λp hp=>?_,tracked ⟨oc,NG,I.b8 x c hc⟩ hs,by simpa using I.len⟩ ⟨c,hs,.inr hc⟩
  ·exact(hs.2 b (Rj (Q8 (QX e) (I.ok.yQ x c v9 hc)))).trans (I.base.keep b o e n hb hx)
  ·obtain⟨sl,e1⟩:=I.base.slot b o e n hb hx;exact⟨sl,(hs.2 b (Rj (Q8 (QX e) (I.ok.yQ x c v9 hc)))).trans e1⟩
  ·obtain⟨o',e1⟩:=I.base.there b o e hx;exact⟨o',(hs.2 b (Rj (Q8 (QX e) (I.ok.yQ x c v9 hc)))).trans e1⟩
  ·by_cases hj:j=i
   ·subst hj;rw[hi]at e1;cases e1;rw[RA hiσ]at e2;cases e2;exact⟨u,r,.inr ⟨.inl hk,c,hc,kc⟩⟩
   ·rw[Q4 (SL hj)]at e2;obtain⟨u',r',q⟩:=hl j y v' e1 e2 e3;refine⟨u',r',?_⟩;rcases q with q|⟨k,c',e,z'⟩
    ·exact .inl q
    ·refine .inr ⟨k,c',e,z'.sameBut hs ?_⟩;rintro rfl;exact hj (gw hN e1 (I.ok.inj _ _ _ e hc▸hi))
  ·by_cases hcc:c'=c
   ·subst hcc;exact⟨_,kc⟩
   ·obtain⟨w2,z2⟩:=I.cell y c' e;exact⟨w2,z2.sameBut hs hcc⟩
  ·obtain⟨e,n,ne,nf,d⟩:=I.pin p hp;refine⟨(hs.2 p.1 ?_).trans e,n,ne,nf,d⟩;intro q;rw[q,NG]at e;have q':oc=p.2:=SM e;exact d w' (by rw[<-q'];exact LI)
theorem gK{M:Model}{A:Around}{E:Value->Shared->Prop}{i:Nat}{x:Str}{v:V}{u:Value}{Q:Unit->Shared->Prop}(I:Inv X pins σ H s)(hN:X.N.Nodup)(hi:X.N[i]?=some x)(hx:Loc X.env.scope x)(r:RelV v u)
  (h:∀s',Inv X pins (σ.set i (some v)) H s'->Q () s') (hf:X.fn x=true\/X.env.scope.names.lookup x=some .local:=by first|exact .inl rfl|exact .inr rfl|assumption):wpAny M A (storeName X.env x u) Q E s:=
 kW I hN hi hx r (λs' I' _=>h s' I') hf
theorem Inv.vk{s':Shared}{ch:List Addr}(I:Inv X pins σ H s)(ho:s'.os=s.os)(u:Un (dR X.stack) ch H H' s.heap s'.heap)(hok:dq X.prog X.w H' s'.heap)(hg:AllBare s'.gens)
  (uM:∀b∈ch,(b∈X.ex\/X.s₀.heap.objs.size<=b)/\b≠X.env.locals/\(∀x c,X.env.cells.lookup x=some c->c≠b)/\∀p∈X.pn++pins,p.1≠b):Inv X pins σ H' s':=by
 obtain⟨h',g',d',t',o'⟩:=s';have e:o'=s.os:=ho;subst e;exact I.call (g':=g') (t':=t') (d':=d') u hok hg uM
end
abbrev XK:=Value->Option Addr->Hp->Prop
abbrev St:=List (Option V)
abbrev VK:=V->Hp->Prop
abbrev TE:=St->Hp->VK->Prop
abbrev TT:=St->Hp->(Bool->Hp->Prop)->Prop
abbrev TA:=St->Hp->(List V->Hp->Prop)->Prop
structure Ends where
 nx:St->Hp->Prop
 rt:VK
 bk:St->Hp->Prop:=λ_ _=>False
 ct:St->Hp->Prop:=λ_ _=>False
abbrev TS:=Ends->St->Hp->Prop
inductive EP(X:Cx)(pins:List (Addr×Obj))(σ:St)(Q:VK)(u:Value)(s':Shared):Prop
 |mk (v:V) (H':Hp) (i:Inv X pins σ H' s') (r:RelV v u) (q:Q v H'):EP X pins σ Q u s'
inductive TP(X:Cx)(pins:List (Addr×Obj))(σ:St)(Q:Bool->Hp->Prop)(b:Bool)(s':Shared):Prop
 |mk (H':Hp) (i:Inv X pins σ H' s') (q:Q b H'):TP X pins σ Q b s'
inductive AP(X:Cx)(pins:List (Addr×Obj))(σ:St)(Q:List V->Hp->Prop)(us:List Value)(s':Shared):Prop
 |mk (vs:List V) (H':Hp) (i:Inv X pins σ H' s') (r:au vs us) (q:Q vs H'):AP X pins σ Q us s'
def SP(X:Cx)(pins:List (Addr×Obj))(D:Ends)(f:Flow)(s':Shared):Prop:=
 match f with
 |.next=>∃σ' H',Inv X pins σ' H' s'/\D.nx σ' H'
 |.brk=>∃σ' H',Inv X pins σ' H' s'/\D.bk σ' H'
 |.cont=>∃σ' H',Inv X pins σ' H' s'/\D.ct σ' H'
 |.ret u=>∃v σ' H',Inv X pins σ' H' s'/\RelV v u/\D.rt v H'
def PE(X:Cx)(e:Expr)(t:TE):Prop:=
 ∀(pins:List (Addr×Obj))(s:Shared)(σ:St)(H:Hp)(Q:VK),Inv X pins σ H s->t σ H Q->wpAny (model X.prog X.w) X.A (eval e X.env) (EP X pins σ Q) X.xe s
def PT(X:Cx)(e:Expr)(t:TT):Prop:=
 ∀(pins:List (Addr×Obj))(s:Shared)(σ:St)(H:Hp)(Q:Bool->Hp->Prop),Inv X pins σ H s->t σ H Q->wpAny (model X.prog X.w) X.A (isTrue e X.env (eval e X.env)) (TP X pins σ Q) X.xe s
def PW(X:Cx)(e:Expr)(t:TT):Prop:=
 ∀(whole:Sem Value)(pins:List (Addr×Obj))(s:Shared)(σ:St)(H:Hp)(Q:Bool->Hp->Prop),Inv X pins σ H s->t σ H Q->wpAny (model X.prog X.w) X.A (isTrue e X.env whole) (TP X pins σ Q) X.xe s
theorem PW.pt{X:Cx}{e:Expr}{t:TT}(h:PW X e t):PT X e t:=h _
def PA(X:Cx)(es:List Expr)(t:TA):Prop:=
 ∀(pos:Pos)(pins:List (Addr×Obj))(s:Shared)(σ:St)(H:Hp)(Q:List V->Hp->Prop),Inv X pins σ H s->t σ H Q->wpAny (model X.prog X.w) X.A (spliced (backTo pos (starEach es X.env))) (AP X pins σ Q) X.xe s
def PS(X:Cx)(st:Stmt)(t:TS):Prop:=
 ∀(pins:List (Addr×Obj))(s:Shared)(σ:St)(H:Hp)(D:Ends),Inv X pins σ H s->t D σ H->wpAny (model X.prog X.w) X.A (exec st X.env) (SP X pins D) X.xe s
def mU(X:Cx)(st:List Stmt)(t:TS):Prop:=
 ∀(pins:List (Addr×Obj))(s:Shared)(σ:St)(H:Hp)(D:Ends),Inv X pins σ H s->t D σ H->wpAny (model X.prog X.w) X.A (execs st X.env) (SP X pins D) X.xe s
theorem ba{α:Type}{t:Sem α}{Q Q':α->Shared->Prop}{M:Model}{A:Around}{E:Value->Shared->Prop}{s:Shared}(h:wpAny M A t Q E s)(hQ:∀a s,Q a s->Q' a s):wpAny M A t Q' E s:=Tp h hQ λ_ _ x=>x
end L2
namespace L2
open PySem PySem.Spec PyProof.Rows
section
variable{X:Cx}
theorem bin{a b:Expr}{ta tb:TE}(ha:PE X a ta)(hb:PE X b tb){pins:List (Addr×Obj)}{s:Shared}{σ:St}{H:Hp}{R:V->V->Hp->Prop}(I:Inv X pins σ H s)(h:ta σ H λx H1=>tb σ H1 λy H2=>R x y H2)
  {α:Type} {Q:α->Shared->Prop} {f:Value->Value->Sem α}
  (hf:∀v u s2 x y H2,Inv X pins σ H2 s2->RelV x v->RelV y u->R x y H2->wpAny (model X.prog X.w) X.A (f v u) Q X.xe s2):
  wpAny (model X.prog X.w) X.A (eval a X.env) (λv s₁=>wpAny (model X.prog X.w) X.A (eval b X.env) (λu s₂=>wpAny (model X.prog X.w) X.A (f v u) Q X.xe s₂) X.xe s₁) X.xe s:=by
 refine ba (ha pins s σ H _ I h) λv s1⟨x,H1,I1,r1,q1⟩=>?_
 refine ba (hb pins s1 σ H1 _ I1 q1) λu s2⟨y,H2,I2,r2,q2⟩=>?_
 exact hf v u s2 x y H2 I2 r1 r2 q2
def j0(i:Nat):TE:=λσ H Q=>∃v,σ[i]?=some (some v)/\Q v H
def tC(v:V):TE:=λ_ H Q=>Q v H
theorem qa{i:Nat}{x:Str}{pos:Pos}(hN:X.N[i]?=some x)(hv:Cv X.env.scope x)(hd:(x==("__debug__":Str))=false:=by decide)(uL:(x==("__classdict__":Str))=false:=by decide):PE X (.Name x pos) (j0 i):=by
 intro pins s σ H Q I h;obtain⟨v,e,h⟩:=h;obtain⟨m,hn,hl⟩:=I.loc;obtain⟨u,r,l⟩:=hl i x v hN e hv;have fin:EP X pins σ Q u s:=⟨v,H,I,r,h⟩;rcases l with ⟨hk,hm⟩|⟨hk,c,hc,ju⟩
 ·exact wpAny_Name (wpAny_loadName_local I.ok.kind hk hn hm fin) hd
 ·rcases hk with hk|hk
  ·exact wpAny_Name (wpAny_loadName_cell I.ok.kind hk hc ju fin) hd
  ·exact wpAny_Name (wpAny_loadName_free I.ok.kind hk hc ju fin uL) hd
theorem Ef{i j pos}:PE X (.Constant (.int i) j pos) (tC (.int i)):=λ_ _ _ H _ I h=>wpAny_Constant_int ⟨.int i,H,I.tok _,⟨_,rfl⟩,h⟩
theorem B1{b j pos}:PE X (.Constant (.bool b) j pos) (tC (.bl b)):=λ_ _ _ H _ I h=>Constant_bool ⟨.bl b,H,I,rfl,h⟩
theorem Eg{j pos}:PE X (.Constant .none j pos) (tC .bM):=λ_ _ _ H _ I h=>Constant_none ⟨.bM,H,I,rfl,h⟩
theorem Eh{x j pos}:PE X (.Constant (.str x) j pos) (tC (.str x)):=λ_ _ _ H _ I h=>Calls.Constant_str ⟨.str x,H,I.tok _,⟨_,rfl⟩,h⟩
def Gl(X:Cx)(x:Str):Prop:=X.env.kindOf x=some .globalImplicit
theorem gu{E:Value->Shared->Prop}{pins:List (Addr×Obj)}{s:Shared}{σ:St}{H:Hp}{x:Str}{u:Value}{pos:Pos}{Q:Value->Shared->Prop}(I:Inv X pins σ H s)(hg:Gl X x)(hm:X.mg x=some u)(h:Q u s)
  (hd:(x==("__debug__":Str))=false:=by decide):wpAny (model X.prog X.w) X.A (eval (.Name x pos) X.env) Q E s:=
 Calls.Name_function_global I.ok.kind hg (Calls.loadGlobal_global (by rw[I.ok.glob];exact I.mod.glob.keeps I.bk) hm h) hd
theorem gZ{E:Value->Shared->Prop}{pins:List (Addr×Obj)}{s:Shared}{σ:St}{H:Hp}{x:Str}{u:Value}{pos:Pos}{Q:Value->Shared->Prop}(I:Inv X pins σ H s)(hg:Gl X x)(hm:X.mg x=none)(hv:bootBuiltins x=some u)(h:Q u s)
  (hn:x≠"__name__":=by decide) (hd:(x==("__debug__":Str))=false:=by decide):wpAny (model X.prog X.w) X.A (eval (.Name x pos) X.env) Q E s:=by
 obtain⟨mb,h1,h2⟩:=I.mod.blt;exact Calls.Name_function_global I.ok.kind hg (Calls.loadGlobal_builtin (by rw[I.ok.glob];exact I.mod.glob.keeps I.bk) hm (by rw[I.ok.blt];exact h1.keeps I.bk) ((h2 x hn).trans hv) h) hd
theorem rZ{x:Str}{v:V}{u:Value}{pos:Pos}(hg:Gl X x)(hm:X.mg x=some u)(r:RelV v u)(hd:(x==("__debug__":Str))=false:=by decide):PE X (.Name x pos) (tC v):=
 λ_ _ _ H _ I h=>gu I hg hm ⟨v,H,I,r,h⟩ hd
theorem rW{x:Str}{v:V}{u:Value}{pos:Pos}(hg:Gl X x)(hm:X.mg x=none)(hv:bootBuiltins x=some u)(r:RelV v u)(hn:x≠"__name__":=by decide)(hd:(x==("__debug__":Str))=false:=by decide):PE X (.Name x pos) (tC v):=
 λ_ _ _ H _ I h=>gZ I hg hm hv ⟨v,H,I,r,h⟩ hn hd
variable{a b:Expr}{ta tb:TE}{pos:Pos}
theorem wM(b:Expr){op:CmpOp}(h:op≠ .In)(h2:op≠ .NotIn):behindInMarks op b=false:=by
 have e1:(op==CmpOp.In)=false:=by cases op<;>first|rfl|exact absurd rfl h
 have e2:(op==CmpOp.NotIn)=false:=by cases op<;>first|rfl|exact absurd rfl h2
 cases b<;>simp[behindInMarks,e1,e2]
variable{tA J9:TT}{rest:List Expr}
def MN(t u:TT):TT:=λσ H Q=>t σ H λc H1=>if c=true then u σ H1 Q else Q false H1
def Qg(t u:TT):TT:=λσ H Q=>t σ H λc H1=>if c=true then Q true H1 else u σ H1 Q
def MQ(t:TT):TT:=λσ H Q=>t σ H λc H1=>Q (!c) H1
theorem AY(ha:PT X a tA):PW X (.BoolOp .And [a] pos) tA:=by
 intro wh pins s σ H Q I h;refine isTrue_and (ba (ha pins s σ H Q I h) λc s1 e=>?_);cases c with
 |true=>exact isTrue_and_nil e
 |false=>exact e
theorem Ex(ha:PT X a tA):PW X (.BoolOp .Or [a] pos) tA:=by
 intro wh pins s σ H Q I h;refine isTrue_or (ba (ha pins s σ H Q I h) λc s1 e=>?_);cases c with
 |false=>exact isTrue_or_nil e
 |true=>exact e
theorem Ew(ha:PT X a tA)(hb:PW X (.BoolOp .And (b::rest) pos) J9):PW X (.BoolOp .And (a::b::rest) pos) (MN tA J9):=by
 intro wh pins s σ H Q I h;refine isTrue_and (ba (ha pins s σ H _ I h) λc s1⟨H1,I1,q1⟩=>?_);cases c with
 |true=>exact hb wh pins s1 σ H1 Q I1 q1
 |false=>exact⟨H1,I1,q1⟩
theorem Ic(ha:PT X a tA)(hb:PW X (.BoolOp .Or (b::rest) pos) J9):PW X (.BoolOp .Or (a::b::rest) pos) (Qg tA J9):=by
 intro wh pins s σ H Q I h;refine isTrue_or (ba (ha pins s σ H _ I h) λc s1⟨H1,I1,q1⟩=>?_);cases c with
 |true=>exact⟨H1,I1,q1⟩
 |false=>exact hb wh pins s1 σ H1 Q I1 q1
theorem Eu(ha:PT X a tA):PT X (.UnaryOp .Not a pos) (MQ tA):=by intro pins s σ H Q I h;exact isTrue_not (ba (ha pins s σ H (λc H1=>Q (!c) H1) I h) λ_ _⟨H1,i,q⟩=>⟨H1,i,q⟩)
def IP(ta tb:TE):TE:=λσ H Q=>ta σ H λx H1=>∃c,x= .bl c/\if c=true then tb σ H1 Q else Q (.bl false) H1
def MR(ta tb:TE):TE:=λσ H Q=>ta σ H λx H1=>∃c,x= .bl c/\if c=true then Q (.bl true) H1 else tb σ H1 Q
def IW(ta:TE):TE:=λσ H Q=>ta σ H λx H1=>∃c,x= .bl c/\Q (.bl (!c)) H1
theorem xo{op}{t:TE}(h:PE X a t):PE X (.BoolOp op [a] pos) t:=λpins s σ H Q I hw=>BoolOp_one (h pins s σ H Q I hw)
theorem xh(ha:PE X a ta)(hb:PE X (.BoolOp .And (b::rest) pos) tb):PE X (.BoolOp .And (a::b::rest) pos) (IP ta tb):=by
 intro pins s σ H Q I h;refine BoolOp_and (ba (ha pins s σ H _ I h) λv s1⟨x,H1,I1,r1,q1⟩=>?_);obtain⟨c,rfl,q1⟩:=q1;cases r1;refine TC ?_;cases c with
 |true=>exact hb pins s1 σ H1 Q I1 q1
 |false=>exact⟨.bl false,H1,I1,rfl,q1⟩
theorem B3(ha:PE X a ta)(hb:PE X (.BoolOp .Or (b::rest) pos) tb):PE X (.BoolOp .Or (a::b::rest) pos) (MR ta tb):=by
 intro pins s σ H Q I h;refine BoolOp_or (ba (ha pins s σ H _ I h) λv s1⟨x,H1,I1,r1,q1⟩=>?_);obtain⟨c,rfl,q1⟩:=q1;cases r1;refine TC ?_;cases c with
 |false=>exact hb pins s1 σ H1 Q I1 q1
 |true=>exact⟨.bl true,H1,I1,rfl,q1⟩
theorem xn(ha:PE X a ta):PE X (.UnaryOp .Not a pos) (IW ta):=by intro pins s σ H Q I h;refine UnaryOp_ (ba (ha pins s σ H _ I h) λv s1⟨x,H1,I1,r1,q1⟩=>?_);obtain⟨c,rfl,q1⟩:=q1;cases r1;exact not_of (TC ⟨.bl (!c),H1,I1,rfl,q1⟩)
end
end L2
namespace L2
open PySem PySem.Spec PyProof.Rows
def cZ(K:PySem.W.Frag)(H:Hp)(a:Addr)(xs:List V):Prop:=
 Rd H a (.lst xs)\/
  ∃(o:Obj)(its:Array Value)(n:Nat),K.lookup a=some o/\o.cls= .type "list"/\o.dict=none/\o.data= .seq its n/\its.size<=sizeLine/\au xs its.toList
def du(K:PySem.W.Frag)(H:Hp)(a:Addr)(xs:List V):Prop:=
 Rd H a (.tup xs)\/
  ∃(o:Obj)(its:Array Value)(n:Nat),K.lookup a=some o/\o.cls= .type "tuple"/\o.data= .seq its n/\its.size<=sizeLine/\au xs its.toList
def Kz:Value->Option V
 |.none=>some .bM
 |.bool b=>some (.bl b)
 |.int i _=>some (.int i)
 |.str x _=>some (.str x)
 |.bytes b _=>some (.CN b)
 |.float b _=>some (.yU b)
 |.ref a=>some (.ref a)
 |.type n=>some (.ty n)
 |_=>none
theorem RelV.abs{x:V}{u:Value}(r:RelV x u):Kz u=some x:=by
 cases x with
 |bM=>cases r;rfl
 |bl _=>cases r;rfl
 |int _=>obtain⟨t,rfl⟩:=r;rfl
 |str _=>obtain⟨t,rfl⟩:=r;rfl
 |CN _=>obtain⟨t,rfl⟩:=r;rfl
 |yU _=>obtain⟨t,rfl⟩:=r;rfl
 |ref _=>cases r;rfl
 |ty _=>cases r;rfl
theorem RelV.inj{x y:V}{u:Value}(r:RelV x u)(q:RelV y u):x=y:=SM (r.abs.symm.trans q.abs)
theorem au.inj:∀{xs ys:List V}{us:List Value},au xs us->au ys us->xs=ys
 |_,_,_,.nil,.nil=>rfl
 |_,_,_,.cons r t,.cons r' t'=>by rw[r.inj r',au.inj t t']
section
variable{X:Cx}{pins:List (Addr×Obj)}{σ:St}{H:Hp}{s:Shared}{a:Addr}{xs ys:List V}
theorem cZ.of{K:PySem.W.Frag}(h:H a=some (.lst xs)):cZ K H a xs:=.inl (.inl h)
theorem du.of{K:PySem.W.Frag}(h:H a=some (.tup xs)):du K H a xs:=.inl (.inl h)
theorem Inv.list(I:Inv X pins σ H s)(h:cZ X.K H a xs):∃its:List Value,au xs its/\PlainL s.heap a its.toArray/\xs.length<=sizeLine:=by
 rcases h with h|⟨o,its,n,hk,hc,hd,hs,hz,r⟩
 ·obtain⟨z,its,n,r,e⟩:=h.ok I.hok;exact⟨its,r,⟨_,n,e,rfl,rfl,rfl⟩,z⟩
 ·refine⟨its.toList,r,⟨o,n,I.iS a o hk,hc,hd,by simpa using hs⟩,?_⟩;have e:=r.length;simp only[Q7]at e;omega
theorem Inv.tuple(I:Inv X pins σ H s)(h:du X.K H a xs):∃its:List Value,au xs its/\IsTup s.heap a its.toArray/\xs.length<=sizeLine:=by
 rcases h with h|⟨o,its,n,hk,hc,hs,hz,r⟩
 ·obtain⟨z,its,r,p⟩:=h.ok I.hok;exact⟨its,r,p.is,z⟩
 ·refine⟨its.toList,r,⟨o,I.iS a o hk,hc,n,by simpa using hs⟩,?_⟩;have e:=r.length;simp only[Q7]at e;omega
theorem Inv.wC(I:Inv X pins σ H s)(h:cZ X.K H a xs)(h':cZ X.K H a ys):xs=ys:=by
 obtain⟨its,r,⟨o,n,e,_,_,d⟩,_⟩:=I.list h;obtain⟨its',r',⟨o',n',e',_,_,d'⟩,_⟩:=I.list h';rw[e]at e';cases e';rw[d]at d';injection d' with d1 _;have:its=its':=by simpa using S6 Array.toList d1
 subst this;exact r.inj r'
theorem Inv.uB(I:Inv X pins σ H s)(h:du X.K H a xs)(h':du X.K H a ys):xs=ys:=by
 obtain⟨its,r,⟨o,e,_,n,d⟩,_⟩:=I.tuple h;obtain⟨its',r',⟨o',e',_,n',d'⟩,_⟩:=I.tuple h';rw[e]at e';cases e';rw[d]at d';injection d' with d1 _;have:its=its':=by simpa using S6 Array.toList d1
 subst this;exact r.inj r'
end
abbrev Cx.b7(X:Cx)(E:Value->Shared->Prop):Cx:={X with xe:=E}
theorem Cx.Ok.b7{X:Cx}(ok:X.Ok)(E:Value->Shared->Prop):(X.b7 E).Ok:=
 ⟨ok.mod,ok.kind,ok.glob,ok.blt,ok.above,ok.inj,ok.has,ok.yQ,ok.hd,ok.frames,ok.Bm,ok.BJ,ok.bs,ok.vh,ok.kf,ok.lG,ok.fP,ok.zN⟩
theorem Cx.Ok.dm{X:Cx}{E:Value->Shared->Prop}(ok:(X.b7 E).Ok):X.Ok:=
 ⟨ok.mod,ok.kind,ok.glob,ok.blt,ok.above,ok.inj,ok.has,ok.yQ,ok.hd,ok.frames,ok.Bm,ok.BJ,ok.bs,ok.vh,ok.kf,ok.lG,ok.fP,ok.zN⟩
section
variable{X:Cx}{pins:List (Addr×Obj)}{σ:St}{H:Hp}{s:Shared}{E:Value->Shared->Prop}
theorem Inv.b7(I:Inv X pins σ H s)(E:Value->Shared->Prop):Inv (X.b7 E) pins σ H s:=⟨I.ok.b7 E,I.os,I.bare,I.base,I.loc,I.cell,I.free,I.b8,I.pin,I.hok,I.len⟩
theorem Inv.dm(I:Inv (X.b7 E) pins σ H s):Inv X pins σ H s:=⟨I.ok.dm,I.os,I.bare,I.base,I.loc,I.cell,I.free,I.b8,I.pin,I.hok,I.len⟩
theorem SP.dm{D:Ends}{f:Flow}{s':Shared}(h:SP (X.b7 E) pins D f s'):SP X pins D f s':=by
 cases f with
 |next=>obtain⟨σ',H',I,q⟩:=h;exact⟨σ',H',I.dm,q⟩
 |brk=>obtain⟨σ',H',I,q⟩:=h;exact⟨σ',H',I.dm,q⟩
 |cont=>obtain⟨σ',H',I,q⟩:=h;exact⟨σ',H',I.dm,q⟩
 |ret u=>obtain⟨v,σ',H',I,r,q⟩:=h;exact⟨v,σ',H',I.dm,r,q⟩
end
section
variable{X:Cx}{st:Stmt}{rest:List Stmt}{t u:TS}{e:Expr}{te:TE}{pos:Pos}
def yq:TS:=λD σ H=>D.nx σ H
def IY(t u:TS):TS:=λD σ H=>t {D with nx:=u D} σ H
theorem AU:mU X [] yq:=λ_ _ σ H _ I h=>wpAny_execs_nil ⟨σ,H,I,h⟩
theorem ou(h1:PS X st t)(h2:mU X rest u):mU X (st::rest) (IY t u):=by
 intro pins s σ H D I h;refine wpAny_execs_cons (ba (h1 pins s σ H {D with nx:=u D} I h) λf s1 q=>?_);cases f with
 |next=>obtain⟨σ',H',I',q⟩:=q;exact h2 pins s1 σ' H' D I' q
 |ret v=>exact q
 |brk=>exact q
 |cont=>exact q
theorem sf(h1:PS X st t):mU X [st] t:=by
 intro pins s σ H D I h;refine wpAny_execs_cons (ba (h1 pins s σ H D I h) λf s1 q=>?_);cases f with
 |next=>exact wpAny_execs_nil q
 |ret v=>exact q
 |brk=>exact q
 |cont=>exact q
def ym:TS:=λD σ H=>D.bk σ H
def Cf:TS:=λD σ H=>D.ct σ H
theorem AQ:PS X (.Pass pos) yq:=λ_ _ σ H _ I h=>wpAny_Pass ⟨σ,H,I,h⟩
theorem xC:PS X (.Break pos) ym:=λ_ _ σ H _ I h=>wpAny_Break ⟨σ,H,I,h⟩
theorem oo:PS X (.Continue pos) Cf:=λ_ _ σ H _ I h=>wpAny_Continue ⟨σ,H,I,h⟩
theorem Inv.quiet{pins:List (Addr×Obj)}{σ:St}{H:Hp}{s:Shared}(I:Inv X pins σ H s):interactive X.env=false:=by simp[interactive,I.ok.kind]
def sT(te:TE):TS:=λD σ H=>te σ H λ_ H1=>D.nx σ H1
theorem mn(he:PE X e te)(hs:swapsWith e none pos.line X.env=pure false:=by rfl):PS X (.Expr e pos) (sT te):=by intro pins s σ H D I h;exact wpAny_Expr_any (ba (he pins s σ H _ I h) λv s1⟨x,H1,I1,r1,q1⟩=>⟨σ,H1,I1,q1⟩) I.quiet hs
def E0(te:TE):TS:=λD σ H=>te σ H D.rt
theorem jP(he:PE X e te):PS X (.Return (some e) pos) (E0 te):=by intro pins s σ H D I h;exact wpAny_Return_some (ba (he pins s σ H _ I h) λv s1⟨x,H1,I1,r1,q1⟩=>⟨x,σ,H1,I1,r1,q1⟩)
def Cg:TS:=λD _ H=>D.rt .bM H
theorem AR:PS X (.Return none pos) Cg:=λ_ _ σ H _ I h=>wpAny_Return_none ⟨.bM,σ,H,I,rfl,h⟩
def IU(c:TT)(t u:TS):TS:=λD σ H=>c σ H λb H1=>if b=true then t D σ H1 else u D σ H1
theorem Ib{c:Expr}{a b:List Stmt}{tc:TT}(hc:PT X c tc)(ha:mU X a t)(hb:mU X b u):PS X (.If c a b pos) (IU tc t u):=by
 intro pins s σ H D I h;refine wpAny_If (ba (hc pins s σ H _ I h) λd s1⟨H1,I1,q1⟩=>?_);cases d with
 |true=>exact ha pins s1 σ H1 D I1 q1
 |false=>exact hb pins s1 σ H1 D I1 q1
end
abbrev TG:=V->St->Hp->(St->Hp->Prop)->Prop
abbrev uI:=List V->St->Hp->(St->Hp->Prop)->Prop
def PG(X:Cx)(target:Expr)(t:TG):Prop:=
 ∀(pins:List (Addr×Obj))(s:Shared)(σ:St)(H:Hp)(v:V)(u:Value)(Q:St->Hp->Prop),Inv X pins σ H s->RelV v u->t v σ H Q->
  wpAny (model X.prog X.w) X.A (assign target X.env u) (λ_ s'=>∃σ' H',Inv X pins σ' H' s'/\Q σ' H') X.xe s
def Fw(X:Cx)(ts:List Expr)(t:uI):Prop:=
 ∀(pins:List (Addr×Obj))(s:Shared)(σ:St)(H:Hp)(vs:List V)(us:List Value)(Q:St->Hp->Prop),Inv X pins σ H s->au vs us->t vs σ H Q->
  wpAny (model X.prog X.w) X.A (assignInOrder ((assignEach ts X.env).map (·.2)) us) (λ_ s'=>∃σ' H',Inv X pins σ' H' s'/\Q σ' H') X.xe s
abbrev Cu:=V->V->V->Hp->(Hp->Prop)->Prop
def FZ(X:Cx)(t:Cu):Prop:=
 ∀(pins:List (Addr×Obj))(s:Shared)(σ:St)(H:Hp)(o i v:V)(ov iv u:Value)(Q:Hp->Prop),Inv X pins σ H s->RelV o ov->RelV i iv->RelV v u->t o i v H Q->
  wpAny (model X.prog X.w) X.A (setItem ov iv u) (λ_ s'=>∃H',Inv X pins σ H' s'/\Q H') X.xe s
abbrev JD:=V->V->Hp->VK->Prop
def M8(X:Cx)(op:Operator)(t:JD):Prop:=
 ∀(pins:List (Addr×Obj))(s:Shared)(σ:St)(H:Hp)(x y:V)(v u:Value)(Q:VK),Inv X pins σ H s->RelV x v->RelV y u->t x y H Q->
  wpAny (model X.prog X.w) X.A (inplaceOp op v u) (EP X pins σ Q) X.xe s
section
variable{X:Cx}{pos:Pos}
def dC(i:Nat):TG:=λv σ H Q=>Q (σ.set i (some v)) H
theorem AI{i:Nat}{x:Str}(hN:X.N.Nodup)(hi:X.N[i]?=some x)(hx:Loc X.env.scope x)(hf:X.fn x=true\/X.env.scope.names.lookup x=some .local:=by first|exact .inl rfl|exact .inr rfl|assumption):PG X (.Name x pos) (dC i):=by intro pins s σ H v u Q I r h;exact wpAny_assign_Name (gK I hN hi hx r (λs' I'=>⟨_,H,I',h⟩) hf)
def C9:uI:=λvs σ H Q=>vs=[]/\Q σ H
def vT(t:TG)(u:uI):uI:=λvs σ H Q=>∃v r,vs=v::r/\t v σ H λσ' H'=>u r σ' H' Q
theorem AJ:Fw X [] C9:=by intro pins s σ H vs us Q I r h;obtain⟨e,h⟩:=h;subst e;cases r;exact assignInOrder_nil ⟨σ,H,I,h⟩
theorem xq{e:Expr}{es:List Expr}{t:TG}{u:uI}(h1:PG X e t)(h2:Fw X es u)
  (hs:(assignEach (e::es) X.env).map (·.2)=assign e X.env::(assignEach es X.env).map (·.2):=by rfl):Fw X (e::es) (vT t u):=by
 intro pins s σ H vs us Q I r h;obtain⟨v,vr,e1,h⟩:=h;subst e1;cases r with
 |cons r rr=>rw[hs];refine assignInOrder_cons (ba (h1 pins s σ H _ _ _ I r h) λ_ s1⟨σ1,H1,I1,q1⟩=>?_);exact h2 pins s1 σ1 H1 _ _ Q I1 rr q1
def K9(K:PySem.W.Frag)(n:Nat)(t:uI):TG:=λv σ H Q=>∃a xs,v= .ref a/\du K H a xs/\xs.length=n/\t xs σ H Q
theorem El{es:List Expr}{k:Nat}{t:uI}{n:Nat}(hc:X.calm=true)(h:Fw X es t)
  (hn:(assignEach es X.env).length=n:=by rfl) (tS:(assignEach es X.env).findIdx? (·.1)=none:=by rfl):PG X (.Tuple es k pos) (K9 X.K n t):=by
 intro pins s σ H v u Q I r hw;obtain⟨a,xs,e1,hq,hl,hw⟩:=hw;subst e1;cases r;obtain⟨its,rv,ht,hz⟩:=I.tuple hq;refine assign_Tuple_tuple (I.ok.hd hc) ht (by simp[hn,<-hl,rv.length]) tS λh' hx=>?_
 have I1:Inv X pins σ H {s with heap:=h'}:=I.kept (t':=s.toks) λb o e=>hx b o (Rj (QX e)) e
 exact h pins _ σ H xs _ Q I1 ‹rv› hw
def GA(to ti:TE)(t:Cu):TG:=λv σ H Q=>to σ H λo H1=>ti σ H1 λi H2=>t o i v H2 λH3=>Q σ H3
theorem Ej{o i:Expr}{to ti:TE}{t:Cu}(ho:PE X o to)(hi:PE X i ti)(hs:FZ X t)
  (ha:∀v,assign (.Subscript o i pos) X.env v=(do
   let ov<-holding [v] (eval o X.env)
   let iv<-holding [v,ov] (eval i X.env)
   standAt pos
   holding [v,ov,iv] (setItem ov iv v)
   release [v,ov,iv] []):=by intro _;rfl):PG X (.Subscript o i pos) (GA to ti t):=by
 intro pins s σ H v u Q I r h;rw[ha];refine QK (To (ba (ho pins s σ H _ I h) λov s1⟨x,H1,I1,r1,q1⟩=>?_));refine QK (To (ba (hi pins s1 σ H1 _ I1 q1) λiv s2⟨y,H2,I2,r2,q2⟩=>?_));refine QK (Tz (QK (To (ba (hs pins s2 σ H2 x y v ov iv u _ I2 r1 r2 r q2) λ_ s3⟨H3,I3,q3⟩=>?_))));exact wpAny_release ⟨σ,H3,I3,q3⟩
def mO(te:TE)(g:TG):TS:=λD σ H=>te σ H λx H1=>g x σ H1 D.nx
theorem xB{tg e:Expr}{te:TE}{g:TG}(he:PE X e te)(hg:PG X tg g)(hs:swapsWithSole [tg] e pos.line X.env=pure false:=by rfl)(hw:swappedStores [tg] e X.env=pure none:=by rfl)
  (h1:(assignEach [tg] X.env).map (·.2)=[assign tg X.env]:=by rfl):PS X (.Assign [tg] e pos) (mO te g):=by
 intro pins s σ H D I h;refine wpAny_Assign_stores (ba (he pins s σ H _ I h) λv s1⟨x,H1,I1,r1,q1⟩=>?_) hs hw;rw[h1];exact ba (hg pins s1 σ H1 x v _ I1 r1 q1) λ_ s2 q=>q
theorem qd{i:Nat}{x:Str}{e:Expr}{te:TE}{pos':Pos}(hN:X.N.Nodup)(hi:X.N[i]?=some x)(hx:Loc X.env.scope x)(he:PE X e te)(hs:swapsWith e (some (.Name x pos')) pos.line X.env=pure false:=by rfl)(hf:X.fn x=true\/X.env.scope.names.lookup x=some .local:=by first|exact .inl rfl|exact .inr rfl|assumption):
  PS X (.Assign [.Name x pos'] e pos) (mO te (dC i)):=by
 intro pins s σ H D I h;refine wpAny_Assign_Name (ba (he pins s σ H _ I h) λv s1⟨y,H1,I1,r1,q1⟩=>?_) hs;exact gK I1 hN hi hx r1 (λs2 I2=>⟨_,H1,I2,q1⟩) hf
def IQ(i:Nat)(te:TE)(ti:JD):TS:=λD σ H=>∃x,σ[i]?=some (some x)/\te σ H λy H1=>ti x y H1 λz H2=>D.nx (σ.set i (some z)) H2
theorem Es{i:Nat}{x:Str}{e:Expr}{te:TE}{op:Operator}{ti:JD}{pos':Pos}(hN:X.N.Nodup)(hi:X.N[i]?=some x)(hx:Loc X.env.scope x)(he:PE X e te)(ho:M8 X op ti)(hf:X.fn x=true\/X.env.scope.names.lookup x=some .local:=by first|exact .inl rfl|exact .inr rfl|assumption):
  PS X (.AugAssign (.Name x pos') op e pos) (IQ i te ti):=by
 intro pins s σ H D I h;obtain⟨v,e1,h⟩:=h;obtain⟨m,hn,hl⟩:=I.loc;have vis:Cv X.env.scope x:=by rcases hx with k|k;exact .inl k;exact .inr (.inl k)
 obtain⟨u,r,l⟩:=hl i x v hi e1 vis;refine wpAny_AugAssign_Name ?_;have go:wpAny (model X.prog X.w) X.A (eval e X.env) (λw s₂=>wpAny (model X.prog X.w) X.A (inplaceOp op u w) (λr s₃=>wpAny (model X.prog X.w) X.A (storeName X.env x r) (λ_=>SP X pins D .next) X.xe s₃) X.xe s₂) X.xe s:=by
  refine ba (he pins s σ H _ I h) λw s1⟨y,H1,I1,r1,q1⟩=>?_
  refine ba (ho pins s1 σ H1 v y u w _ I1 r r1 q1) λz s2⟨zv,H2,I2,r2,q2⟩=>?_
  exact gK I2 hN hi hx r2 (λs3 I3=>⟨_,H2,I3,q2⟩) hf
 rcases l with ⟨hk,hm⟩|⟨hk,c,hc,ju⟩
 ·exact wpAny_loadName_local I.ok.kind hk hn hm go
 ·rcases hk with hk|hk
  ·exact wpAny_loadName_cell I.ok.kind hk hc ju go
  ·rcases hx with k|k
   ·have:X.env.scope.names.lookup x=some .free:=hk;rw[k]at this;cases this
   ·have:X.env.scope.names.lookup x=some .free:=hk;rw[k]at this;cases this
def NS(f:Int->Int->Int):JD:=λx y H Q=>∃i j,x= .int i/\y= .int j/\Q (.int (f i j)) H
theorem Dw:M8 X .Add (NS λi j=>i+j):=by intro pins s σ H x y v u Q I r1 r2 h;obtain⟨i,j,e1,e2,q⟩:=h;subst e1;subst e2;obtain⟨t,rfl⟩:=r1;obtain⟨t',rfl⟩:=r2;exact iadd_int ⟨.int _,H,I.tok _,⟨_,rfl⟩,q⟩
end
section
variable{X:Cx}{pos:Pos}
def yt(c:TT)(tb:TS):TS:=λD σ H=>∃W:Nat->St->Hp->Prop,(∃m,W m σ H)/\∀m σ H,W m σ H->
 c σ H λb H1=>if b=true then∃N:St->Hp->Prop,(∀σ' H',N σ' H'->∃m',m'<m/\W m' σ' H')/\tb {D with nx:=N,ct:=N,bk:=D.nx} σ H1 else D.nx σ H1
theorem xE{c:Expr}{body:List Stmt}{tc:TT}{tb:TS}(hp:PassesOwn (model X.prog X.w) X.A X.env X.xe)(hc:PT X c tc)(hb:mU X body tb):PS X (.While c body [] pos) (yt tc tb):=by
 intro pins s σ H D I h;obtain⟨W,⟨m0,w0⟩,turn⟩:=h;refine wpAny_While (codeAny_whileLoop (λn s'=>∃σ' H',Inv X pins σ' H' s'/\W n σ' H') ?_ m0 ⟨σ,H,I,w0⟩);rintro n s1 ⟨σ1,H1,I1,w1⟩;refine Tt hp (ba (hc pins s1 σ1 H1 _ I1 (turn n σ1 H1 w1)) λb s2⟨H2,I2,q2⟩=>?_);cases b with
 |true=>
  obtain⟨N,hN,q2⟩:=q2;rw[Ta rfl];refine Tt hp (ba (hb pins s2 σ1 H2 _ I2 q2) λf s3 q3=>?_);cases f with
  |next=>obtain⟨σ3,H3,I3,n3⟩:=q3;obtain⟨m',hm,w3⟩:=hN σ3 H3 n3;exact⟨m',hm,σ3,H3,I3,w3⟩
  |cont=>obtain⟨σ3,H3,I3,n3⟩:=q3;obtain⟨m',hm,w3⟩:=hN σ3 H3 n3;exact⟨m',hm,σ3,H3,I3,w3⟩
  |brk=>exact q3
  |ret v=>exact q3
 |false=>rw[S9 RG];exact wpAny_execs_nil ⟨σ1,H2,I2,q2⟩
end
structure It where
 go:Nat->Hp->Prop
 yld:Nat->Hp->V->Hp->Prop
 stop:Nat->Hp->Prop
def fM(X:Cx)(pins:List (Addr×Obj))(H:Hp)(b:Addr):Prop:=
 H b=none/\b≠X.env.locals/\b∉X.fs/\(b∈X.ex\/X.s₀.heap.objs.size<=b)/\(∀x c,X.env.cells.lookup x=some c->c≠b)/\∀p∈X.pn++pins,p.1≠b
theorem Inv.lK{X:Cx}{pins:List (Addr×Obj)}{σ:St}{H H':Hp}{s:Shared}{b:Addr}(I:Inv X pins σ H s)(hb:s.heap.objs.size<=b)(hn:H' b=none):fM X pins H' b:=by
 refine⟨hn,SI (Q8 I.lt hb),I.Mh hb,.inr (QY I.sz hb),λx c e z=>?_,λp hp z=>?_⟩
 ·obtain⟨v,q⟩:=I.cell x c e;exact absurd (Q8 q.lt (by rw[z];exact hb)) (SF _)
 ·exact absurd (Q8 (QX (I.pin p hp).1) (by rw[z];exact hb)) (SF _)
structure Turn(P:Program)(w:World)(K:PySem.W.Frag)(tg:Expr)(J:It)(fp:List Addr)(it:Addr)(tn:Nat->Heap->Prop):Prop where
 mem:it∈fp
 obj:∀i h,tn i h->∀b∈fp,∃o,h.get? b=some o/\∀v,o.data≠ .cell v
 keep:∀i h h',tn i h->(∀b∈fp,∀o,h.get? b=some o->h'.get? b=some o)->tn i h'
 item:∀(X:Cx),X.prog=P->X.w=w->X.K=K->X.calm=true->∀(i:Nat)(pins:List (Addr×Obj))(s:Shared)(σ:St)(H:Hp)(E:Value->Shared->Prop),Inv X pins σ H s->(∀b∈fp,fM X pins H b)->tn i s.heap->J.go i H->
  wpAny (model P w) X.A (pyNext (.ref it)) (λr s1=>∃u,r=some u/\
   wpAny (model P w) X.A (letOwnedTupleGo tg (.ref it) u) (λ_ s2=>∃x H',Inv X pins σ H' s2/\RelV x u/\J.yld i H x H'/\tn (i+1) s2.heap/\∀b∈fp,H' b=none) E s1) E s
 done:∀(X:Cx),X.prog=P->X.w=w->X.K=K->X.calm=true->∀(i:Nat)(pins:List (Addr×Obj))(s:Shared)(σ:St)(H:Hp)(E:Value->Shared->Prop),Inv X pins σ H s->(∀b∈fp,fM X pins H b)->tn i s.heap->J.stop i H->
  wpAny (model P w) X.A (pyNext (.ref it)) (λr s1=>r=none/\Inv X pins σ H s1) E s
 self:∀(A:Around)(i:Nat)(s:Shared)(Q:Value->Shared->Prop)(E:Value->Shared->Prop),tn i s.heap->Q (.ref it) s->wpAny (model P w) A (pyIter (.ref it)) Q E s
abbrev TI:=St->Hp->(It->Hp->Prop)->Prop
def Ks(X:Cx)(pins:List (Addr×Obj))(σ:St)(tg:Expr)(R:It->Hp->Prop)(pQ:Value)(s2:Shared):Prop:=
 ∃(it:Addr)(fp:List Addr)(tn:Nat->Heap->Prop)(J:It)(H':Hp),pQ= .ref it/\Inv X pins σ H' s2/\Turn X.prog X.w X.K tg J fp it tn/\tn 0 s2.heap/\(∀b∈fp,fM X pins H' b)/\R J H'
def PI(X:Cx)(tg iter:Expr)(wi:TI):Prop:=
 ∀(pins:List (Addr×Obj))(s:Shared)(σ:St)(H:Hp)(R:It->Hp->Prop),Inv X pins σ H s->wi σ H R->
  wpAny (model X.prog X.w) X.A (eval iter X.env) (λv s1=>wpAny (model X.prog X.w) X.A (pyIter v) (Ks X pins σ tg R) X.xe s1) X.xe s
theorem nO{M:Model}{A:Around}{E:Value->Shared->Prop}{s:Shared}{tg:Expr}{it:Addr}{u:Value}{o:Obj}{n:String}{vs:Array Value}{Q:Unit->Shared->Prop}(ho:s.heap.get? it=some o)(hc:o.cls= .type n)(hd:o.data= .fields vs)
  (hn:["enumerate","zip","dict_itemiterator","dict_reverseitemiterator","odict_iterator","itertools.zip_longest","itertools.pairwise"].contains n=false) (hQ:Q () s):wpAny M A (letOwnedTupleGo tg (.ref it) u) Q E s:=by
 unfold letOwnedTupleGo;cases tg<;>first
  |exact QN hQ
  |(cases u<;>first
    |exact QN hQ
    |(refine QK (wpAny_load ho ?_);rw[hc,hd];show wpAny M A (if (["enumerate","zip","dict_itemiterator","dict_reverseitemiterator","odict_iterator","itertools.zip_longest","itertools.pairwise"].contains n&&vs[0]?==some (rawInt _))=true then _ else _) Q E s;rw[S9 (by intro h;rw[hn,Bool.false_and]at h;cases h)];exact QN hQ))
def Ju(K:PySem.W.Frag)(a:Addr):It:=
 ⟨λi H=>∃xs x,cZ K H a xs/\xs[i]?=some x,λi H x H'=>H'=H/\∀xs,cZ K H a xs->xs[i]?=some x,λi H=>∃xs,cZ K H a xs/\xs.length<=i⟩
def Kp(K:PySem.W.Frag)(a:Addr):It:=
 ⟨λi H=>∃xs x,du K H a xs/\xs[i]?=some x,λi H x H'=>H'=H/\∀xs,du K H a xs->xs[i]?=some x,λi H=>∃xs,du K H a xs/\xs.length<=i⟩
def Jv(lo:Int)(n:Nat):It:=⟨λi _=>i<n,λi H x H'=>H'=H/\x= .int (lo+i),λi _=>n<=i⟩
theorem uC{P:Program}{w:World}{K:PySem.W.Frag}{tg:Expr}(a it:Addr):Turn P w K tg (Ju K a) [it] it (λi h=>h.IsListIter it a i) where
 mem:=by simp
 obj:=λi h st b hb=>by
  have e:b=it:=by simpa using hb
  subst e;obtain⟨o,e,c,d⟩:=st;exact⟨o,e,λv z=>by rw[d]at z;cases z⟩
 keep:=λi h h' st k=>st.at λo e=>k it ∅ o e
 item:=by
  intro X hP hw hK hc i pins s σ H E I hf st hg;subst hP hw hK;obtain⟨xs,x,hq,hx⟩:=hg;obtain⟨its,rv,p,hz⟩:=I.list hq;obtain⟨u,hu,ru⟩:=rv.get hx;obtain⟨f0,f1,f2,f3,f4,f5⟩:=hf it ∅;refine wpAny_pyNext_list_item st p.isList (x:=u) ‹hu› λh' iy sb=>?_
  have I1:Inv X pins σ H {s with heap:=h'}:=I.turned (t':=s.toks) (λb o hb e=>(sb.2 b hb).trans e) f0 f1 f3 f4 f5;obtain⟨o,e,c,d⟩:=id iy;exact⟨u,rfl,nO (s:={s with heap:=h'}) e c d ‹_› ⟨x,H,I1,ru,⟨rfl,λys hy=>by rw[I.wC hy hq];exact hx⟩,iy,λb hb=>(hf b hb).1⟩⟩
 done:=by intro X hP hw hK hc i pins s σ H E I hf st hg;subst hP hw hK;obtain⟨xs,hq,hx⟩:=hg;obtain⟨its,rv,p,hz⟩:=I.list hq;obtain⟨f0,f1,f2,f3,f4,f5⟩:=hf it ∅;have hl:=rv.length;exact wpAny_pyNext_list_end (I.ok.hd hc) st p.isList (by simp;omega) λh' eb=>⟨rfl,I.turned (t':=s.toks) (λb o hb e=>eb b o hb e) f0 f1 f3 f4 f5⟩
 self:=λ_ _ _ _ _ st h=>wpAny_pyIter_listiter st h
theorem qr{P:Program}{w:World}{K:PySem.W.Frag}{tg:Expr}(a it:Addr):Turn P w K tg (Kp K a) [it] it (λi h=>h.IsTupleIter it a i) where
 mem:=by simp
 obj:=λi h st b hb=>by
  have e:b=it:=by simpa using hb
  subst e;obtain⟨o,e,c,d⟩:=st;exact⟨o,e,λv z=>by rw[d]at z;cases z⟩
 keep:=λi h h' st k=>st.at λo e=>k it ∅ o e
 item:=by
  intro X hP hw hK hc i pins s σ H E I hf st hg;subst hP hw hK;obtain⟨xs,x,hq,hx⟩:=hg;obtain⟨its,rv,p,hz⟩:=I.tuple hq;obtain⟨u,hu,ru⟩:=rv.get hx;obtain⟨f0,f1,f2,f3,f4,f5⟩:=hf it ∅;refine wpAny_pyNext_tuple_item st (show s.heap.IsTuple a its.toArray from p) (x:=u) ‹hu› λh' iy sb=>?_
  have I1:Inv X pins σ H {s with heap:=h'}:=I.turned (t':=s.toks) (λb o hb e=>(sb.2 b hb).trans e) f0 f1 f3 f4 f5;obtain⟨o,e,c,d⟩:=id iy;exact⟨u,rfl,nO (s:={s with heap:=h'}) e c d ‹_› ⟨x,H,I1,ru,⟨rfl,λys hy=>by rw[I.uB hy hq];exact hx⟩,iy,λb hb=>(hf b hb).1⟩⟩
 done:=by intro X hP hw hK hc i pins s σ H E I hf st hg;subst hP hw hK;obtain⟨xs,hq,hx⟩:=hg;obtain⟨its,rv,p,hz⟩:=I.tuple hq;obtain⟨f0,f1,f2,f3,f4,f5⟩:=hf it ∅;have hl:=rv.length;exact wpAny_pyNext_tuple_end (I.ok.hd hc) st (show s.heap.IsTuple a its.toArray from p) (by simp;omega) λh' eb=>⟨rfl,I.turned (t':=s.toks) (λb o hb e=>eb b o hb e) f0 f1 f3 f4 f5⟩
 self:=λ_ _ _ _ _ st h=>wpAny_pyIter_tupleiter st h
theorem j4{P:Program}{w:World}{K:PySem.W.Frag}{tg:Expr}(it:Addr)(lo:Int)(n:Nat):Turn P w K tg (Jv lo n) [it] it (λi h=>IsRangeIter h it (lo+(i:Nat)*1) ((n:Int)-(i:Nat)) 1) where
 mem:=by simp
 obj:=λi h st b hb=>by
  have e:b=it:=by simpa using hb
  subst e;exact⟨_,st,λv z=>by
   have z':Data.fields _=Data.cell v:=z;cases z'⟩
 keep:=λi h h' st k=>k it ∅ _ st
 item:=by
  intro X hP hw hK hc i pins s σ H E I hf st hg;subst hP hw hK;obtain⟨f0,f1,f2,f3,f4,f5⟩:=hf it ∅;have W:=Walks.range (prog:=X.prog) (w:=X.w) (I.ok.hd hc) it lo 1 n;refine W.item i s _ _ hg st λv h' tk hv iy kk=>?_
  obtain⟨t,rfl⟩:=hv;have I1:Inv X pins σ H {s with heap:=h',toks:=tk}:=I.turned (λb o hb e=>kk b o ‹hb› e) f0 f1 f3 f4 f5;refine⟨_,rfl,nO (s:={s with heap:=h',toks:=tk}) (n:="range_iterator") iy rfl rfl ‹_› ⟨.int (lo+i),H,I1,⟨t,?_⟩,⟨rfl,rfl⟩,iy,λb hb=>(hf b hb).1⟩⟩;rw[Int.mul_one]
 done:=by intro X hP hw hK hc i pins s σ H E I hf st hg;subst hP hw hK;obtain⟨f0,f1,f2,f3,f4,f5⟩:=hf it ∅;exact wpAny_pyNext_range_end (I.ok.hd hc) st (by have:n<=i:=hg;omega) λh' eb=>⟨rfl,I.turned (t':=s.toks) (λb o hb e=>eb b o hb e) f0 f1 f3 f4 f5⟩
 self:=λ_ _ _ _ _ st h=>wpAny_pyIter_rangeiter st h
end L2
namespace L2
open PySem PySem.Spec PyProof.Rows
section
variable{X:Cx}{tg:Expr}
theorem xV{pins:List (Addr×Obj)}{σ:St}{H:Hp}{s:Shared}{R:It->Hp->Prop}{E:Value->Shared->Prop}{lo hi:Int}{t u v:Tok}{tk:Nat}(I:Inv X pins σ H s)(h1: -(2^62)<=lo)(h2:lo<2^62)(h3: -(2^62)<=hi)(h4:hi<2^62)
  (q:R (Jv lo (hi-lo).toNat) H):wpAny (model X.prog X.w) X.A (pyIter (.ref s.heap.objs.size)) (Ks X pins σ tg R) E {s with heap:=s.heap.push {cls:=.type "range",data:=.fields #[.int lo t,.int hi u,.int 1 v]},toks:=tk}:=by
 refine wpAny_pyIter_range (IsRange.new ..) (small_one h1 h2 h3 h4) ?_;have I1:Inv X pins σ H {s with heap:=s.heap.push {cls:=.type "range",data:=.fields #[.int lo t,.int hi u,.int 1 v]},toks:=tk}:=I.kept λb o e=>QM _ e
 refine⟨(s.heap.push {cls:=.type "range",data:=.fields #[.int lo t,.int hi u,.int 1 v]}).objs.size,[(s.heap.push {cls:=.type "range",data:=.fields #[.int lo t,.int hi u,.int 1 v]}).objs.size],_,_,H,rfl,
  I1.kept (t':=tk) λb o e=>QM _ e,j4 _ lo (hi-lo).toNat,?_,λb hb=>?_,q⟩
 ·have e1:lo+((0:Nat):Int)*1=lo:=by simp
  have e2:(((hi-lo).toNat:Nat):Int)-((0:Nat):Int)=Builtin.Range.rangeSize lo hi 1:=by rw[rangeSize_one];split<;>omega
  show IsRangeIter _ _ (lo+((0:Nat):Int)*1) ((((hi-lo).toNat:Nat):Int)-((0:Nat):Int)) 1;rw[e1,e2];exact QV _ rfl
 ·have e:b=(s.heap.push {cls:=.type "range",data:=.fields #[.int lo t,.int hi u,.int 1 v]}).objs.size:=by simpa using hb
  subst e;exact I1.lK (QT _) (I1.hok.fresh (QT _))
def Hf(ta:TA):TI:=λσ H R=>ta σ H λvs H1=>∃j:Int,vs=[.int j]/\ -(2^62)<=j/\j<2^62/\R (Jv 0 j.toNat) H1
theorem ud{a:Expr}{ta:TA}{p pos:Pos}(hg:Gl X "range")(hm:X.mg "range"=none)(ha:PA X [a] ta)(hs:starEach [a] X.env=[(false,eval a X.env)]:=by rfl):PI X tg (.Call (.Name "range" p) [a] [] pos) (Hf ta):=by
 intro pins s σ H R I h;refine Call_ (gZ I hg hm boot_range (SN (ba (ha pos pins s σ H _ I h) λus s1⟨vs,H1,I1,r1,q1⟩=>?_) hs rfl));obtain⟨j,e,q1,q2,q⟩:=q1;subst e;cases r1 with
 |cons r rr=>cases rr;obtain⟨t,rfl⟩:=r;exact call_range_1 (xV I1 ⋯ ⋯ q1 q2 ‹q›)
def IT(wi:TI)(g:TG)(tb:TS):TS:=λD σ H=>wi σ H λJ H1=>∃W:Nat->Nat->St->Hp->Prop,(∃m,W 0 m σ H1)/\∀i m σ H,W i m σ H->
 (J.stop i H/\D.nx σ H)\/(J.go i H/\∃N:St->Hp->Prop,(∀σ' H',N σ' H'->∃m',m'<m/\W (i+1) m' σ' H')/\∀x H',J.yld i H x H'->g x σ H' λσ2 H2=>tb {D with nx:=N,ct:=N,bk:=D.nx} σ2 H2)
def jM(fp:List Addr)(h:Heap):List (Addr×Obj):=fp.filterMap λb=>(h.get? b).map λo=>(b,o)
theorem dY{fp:List Addr}{h:Heap}{b:Addr}{o:Obj}(hb:b∈fp)(e:h.get? b=some o):(b,o)∈jM fp h:=Si.mpr ⟨b,hb,by rw[e];rfl⟩
theorem t7{fp:List Addr}{h:Heap}{p:Addr×Obj}(hp:p∈jM fp h):p.1∈fp/\h.get? p.1=some p.2:=by
 obtain⟨b,hb,e⟩:=Si.mp hp;cases q:h.get? b with
 |none=>rw[q]at e;cases e
 |some o=>rw[q]at e;have e':(b,o)=p:=SM e;subst e';exact⟨hb,q⟩
theorem Inv.pinned{pins:List (Addr×Obj)}{σ:St}{H:Hp}{s:Shared}{fp:List Addr}(I:Inv X pins σ H s)(hf:∀b∈fp,fM X pins H b)(ho:∀b∈fp,∃o,s.heap.get? b=some o/\∀v,o.data≠ .cell v):Inv X (pins++jM fp s.heap) σ H s:=
 I.fh λp hp=>(Q9.mp hp).elim (λz=>I.pin p (Rk _ z)) λz=>by obtain⟨hb,e⟩:=t7 z;obtain⟨f0,f1,f2,_⟩:=hf p.1 hb;obtain⟨o,e',d⟩:=ho p.1 hb;rw[e]at e';cases e';exact⟨e,f0,f1,f2,d⟩
theorem Inv.gO{pins pl:List (Addr×Obj)}{σ:St}{H:Hp}{s:Shared}(I:Inv X (pins++pl) σ H s):Inv X pins σ H s:=I.fh λp hp=>I.pin p (Rk _ (Sh _ hp))
theorem Et{iter:Expr}{body:List Stmt}{wi:TI}{g:TG}{tb:TS}{pos:Pos}(hp:PassesOwn (model X.prog X.w) X.A X.env X.xe)(hc:X.calm=true)(hi:PI X tg iter wi)(hg:PG X tg g)(hb:mU X body tb)
  (hs:∀x,foldedSetIterable iter X.env x=pure x:=by intro _;rfl):PS X (.For tg iter body [] pos) (IT wi g tb):=by
 intro pins s σ H D I h;refine wpAny_For (ba (hi pins s σ H _ I h) λv s1 h1=>ba h1 λpQ s2 h2=>?_) hs;obtain⟨it,fp,tn,J,H2,e,I2,T,Bl,f2,W,⟨m0,w0⟩,turn⟩:=h2;subst e;have mK:∀{H':Hp},(∀b∈fp,H' b=none)->∀b∈fp,fM X pins H' b:=λhn b hb=>⟨hn b hb,(f2 b hb).2⟩
 refine codeAny_forLoop_any (λn s'=>∃i σ' H',Inv X pins σ' H' s'/\tn i s'.heap/\(∀b∈fp,H' b=none)/\W i n σ' H') ?_ m0 ⟨0,σ,H2,I2,Bl,λb hb=>(f2 b hb).1,w0⟩;rintro n s3 ⟨i,σ3,H3,I3,N6,Nm,w3⟩;rcases turn i n σ3 H3 w3 with ⟨stop,qn⟩|⟨go,N,hN,step⟩
 ·refine Tt hp (ba (T.done X rfl rfl rfl hc i pins s3 σ3 H3 X.xe I3 (mK Nm) N6 stop) λr s4⟨hr,I4⟩=>?_);subst hr;exact wpAny_execs_nil ⟨σ3,H3,I4,qn⟩
 ·refine Tt hp (ba (T.item X rfl rfl rfl hc i pins s3 σ3 H3 X.xe I3 (mK Nm) N6 go) λr s4⟨u,hr,h4⟩=>?_);subst hr;refine Tt hp (ba h4 λ_ s5⟨x,H5,I5,r5,y5,ML,K6⟩=>?_);have Oj:=I5.pinned (mK K6) (T.obj _ _ ML);refine Tt hp (ba (hg _ s5 σ3 H5 x u _ Oj r5 (step x H5 y5)) λ_ s6⟨σ6,H6,I6,q6⟩=>?_);refine Tt hp (ba (hb _ s6 σ6 H6 _ I6 q6) λf s7 q7=>?_);have again:∀{σ7:St}{H7:Hp},Inv X (pins++jM fp s5.heap) σ7 H7 s7->N σ7 H7->∃m,m<n/\∃i σ' H',Inv X pins σ' H' s7/\tn i s7.heap/\(∀b∈fp,H' b=none)/\W i m σ' H':=λ {σ7 H7} I7 n7=>by obtain⟨m',hm,w7⟩:=hN σ7 H7 n7;refine⟨m',hm,i+1,σ7,H7,I7.gO,T.keep _ _ _ ML λb hb o e=>(I7.pin (b,o) (Rk _ (Rk _ (dY hb e)))).1,λb hb=>?_,w7⟩;obtain⟨o,e,d⟩:=T.obj _ _ ML b hb;exact(I7.pin (b,o) (Rk _ (Rk _ (dY hb e)))).2.1
  cases f with
  |next=>obtain⟨σ7,H7,I7,n7⟩:=q7;exact again I7 n7
  |cont=>obtain⟨σ7,H7,I7,n7⟩:=q7;exact again I7 n7
  |brk=>obtain⟨σ7,H7,I7,q7⟩:=q7;exact⟨σ7,H7,I7.gO,q7⟩
  |ret v=>obtain⟨x7,σ7,H7,I7,r7,q7⟩:=q7;exact⟨x7,σ7,H7,I7.gO,r7,q7⟩
end
end L2
namespace L2
open PySem PySem.Spec PyProof.Rows
abbrev R2:=V->V->Hp->VK->Prop
def gT(X:Cx)(f:Value->Value->Sem Value)(r:R2):Prop:=
 ∀(pins:List (Addr×Obj))(s:Shared)(σ:St)(H:Hp)(x y:V)(v u:Value)(Q:VK),Inv X pins σ H s->RelV x v->RelV y u->r x y H Q->
  wpAny (model X.prog X.w) X.A (f v u) (EP X pins σ Q) X.xe s
def Kw(X:Cx)(f:Value->Sem Value)(r:V->Hp->VK->Prop):Prop:=
 ∀(pins:List (Addr×Obj))(s:Shared)(σ:St)(H:Hp)(x:V)(v:Value)(Q:VK),Inv X pins σ H s->RelV x v->r x H Q->
  wpAny (model X.prog X.w) X.A (f v) (EP X pins σ Q) X.xe s
def cT(X:Cx)(f:Value)(r:List V->Hp->VK->Prop):Prop:=
 ∀(pins:List (Addr×Obj))(s:Shared)(σ:St)(H:Hp)(xs:List V)(us:List Value)(Q:VK),Inv X pins σ H s->au xs us->r xs H Q->
  wpAny (model X.prog X.w) X.A (call f us) (EP X pins σ Q) X.xe s
def Kv(X:Cx)(r:V->Hp->(Bool->Hp->Prop)->Prop):Prop:=
 ∀(pins:List (Addr×Obj))(s:Shared)(σ:St)(H:Hp)(x:V)(v:Value)(Q:Bool->Hp->Prop),Inv X pins σ H s->RelV x v->r x H Q->
  wpAny (model X.prog X.w) X.A (truthy v) (TP X pins σ Q) X.xe s
def Ka(r:R2)(ta tb:TE):TE:=λσ H Q=>ta σ H λx H1=>tb σ H1 λy H2=>r x y H2 Q
def Qi(r:V->Hp->VK->Prop)(ta:TE):TE:=λσ H Q=>ta σ H λx H1=>r x H1 Q
def rI(C:Int->Int->Prop)(g:Int->Int->V):R2:=λx y H Q=>∃i j,x= .int i/\y= .int j/\C i j/\Q (g i j) H
def B7(g:Int->Int->V):R2:=λx y H Q=>∃i j,x= .int i/\y= .int j/\Q (g i j) H
def rU(g:Int->V):V->Hp->VK->Prop:=λx H Q=>∃i,x= .int i/\Q (g i) H
section
variable{X:Cx}{a b:Expr}{ta tb:TE}{pos:Pos}
theorem CJ(ha:PE X a ta)(hb:PE X b tb){pins:List (Addr×Obj)}{s:Shared}{σ:St}{H:Hp}{R:V->V->Hp->Prop}(I:Inv X pins σ H s)
  (h:ta σ H λx H1=>tb σ H1 λy H2=>R x y H2) {Q:Value->Shared->Prop} {f:Value->Value->Sem Value}
  (hf:∀v u s2 x y H2,Inv X pins σ H2 s2->RelV x v->RelV y u->R x y H2->wpAny (model X.prog X.w) X.A (f v u) Q X.xe s2):
  wpAny (model X.prog X.w) X.A (eval a X.env) (λv s₁=>wpAny (model X.prog X.w) X.A (eval b X.env) (λu s₂=>wpAny (model X.prog X.w) X.A (f v u) Q X.xe s₂) X.xe s₁) X.xe s:=by
 refine ba (ha pins s σ H _ I h) λv s1⟨x,H1,I1,r1,q1⟩=>?_
 refine ba (hb pins s1 σ H1 _ I1 q1) λu s2⟨y,H2,I2,r2,q2⟩=>?_
 exact hf v u s2 x y H2 I2 r1 r2 q2
theorem B2{op:Operator}{r:R2}(ho:gT X (binaryOp op) r)(ha:PE X a ta)(hb:PE X b tb):PE X (.BinOp a op b pos) (Ka r ta tb):=by intro pins s σ H Q I h;exact wpAny_BinOp (CJ ha hb I h λv u s2 x y H2 I2 rx ry q=>ho pins s2 σ H2 x y v u Q I2 rx ry q)
theorem HZ{op:UnaryOp}{r:V->Hp->VK->Prop}(ho:Kw X (unaryOp op) r)(ha:PE X a ta):PE X (.UnaryOp op a pos) (Qi r ta):=by intro pins s σ H Q I h;exact UnaryOp_ (ba (ha pins s σ H _ I h) λv s1⟨x,H1,I1,r1,q1⟩=>ho pins s1 σ H1 x v Q I1 r1 q1)
theorem J6{f:Value->Value->Sem Value}{C:Int->Int->Prop}{g:Int->Int->Int}
  (rule:∀(i j:Int)(t u:Tok)(s:Shared)(Q:Value->Shared->Prop)(E:Value->Shared->Prop),C i j->Q (.int (g i j) s.toks) {s with toks:=s.toks+1}->wpAny (model X.prog X.w) X.A (f (.int i t) (.int j u)) Q E s):
  gT X f (rI C λi j=>.int (g i j)):=by
 intro pins s σ H x y v u Q I rx ry h;obtain⟨i,j,rfl,rfl,hc,q⟩:=h;obtain⟨t,rfl⟩:=rx;obtain⟨t',rfl⟩:=ry;exact rule i j t t' s _ _ hc ⟨.int (g i j),H,I.tok _,⟨_,rfl⟩,q⟩
theorem HN{f:Value->Value->Sem Value}{g:Int->Int->Int}
  (rule:∀(i j:Int)(t u:Tok)(s:Shared)(Q:Value->Shared->Prop)(E:Value->Shared->Prop),Q (.int (g i j) s.toks) {s with toks:=s.toks+1}->wpAny (model X.prog X.w) X.A (f (.int i t) (.int j u)) Q E s):
  gT X f (B7 λi j=>.int (g i j)):=by
 intro pins s σ H x y v u Q I rx ry h;obtain⟨i,j,rfl,rfl,q⟩:=h;obtain⟨t,rfl⟩:=rx;obtain⟨t',rfl⟩:=ry;exact rule i j t t' s _ _ ⟨.int (g i j),H,I.tok _,⟨_,rfl⟩,q⟩
theorem AA{f:Value->Value->Sem Value}{g:Int->Int->Bool}
  (rule:∀(i j:Int)(t u:Tok)(s:Shared)(Q:Value->Shared->Prop)(E:Value->Shared->Prop),Q (.bool (g i j)) s->wpAny (model X.prog X.w) X.A (f (.int i t) (.int j u)) Q E s):
  gT X f (B7 λi j=>.bl (g i j)):=by
 intro pins s σ H x y v u Q I rx ry h;obtain⟨i,j,rfl,rfl,q⟩:=h;obtain⟨t,rfl⟩:=rx;obtain⟨t',rfl⟩:=ry;exact rule i j t t' s _ _ ⟨.bl (g i j),H,I,rfl,q⟩
def Ki(i j:Int):Prop:=0<=j/\j<=1000000/\i.natAbs<2^64
def Cm(i j:Int):Prop:=(-(2^64)<i/\i<2^64)\/(-(2^64)<j/\j<2^64)
theorem Cm.ok{i j:Int}(h:Cm i j):IntMulOk i j:=by
 rcases h with ⟨h1,h2⟩|⟨h1,h2⟩
 ·exact .of_left (intBits_le_64 h1 h2)
 ·exact .of_right (intBits_le_64 h1 h2)
theorem D2:gT X (binaryOp .Add) (B7 λi j=>.int (i+j)):=HN λ_ _ _ _ _ _ _ q=>add_int q
theorem D8:gT X (binaryOp .Sub) (B7 λi j=>.int (i-j)):=HN λ_ _ _ _ _ _ _ q=>sub_int q
theorem D6:gT X (binaryOp .Mult) (rI Cm λi j=>.int (i*j)):=J6 λ_ _ _ _ _ _ _ hc q=>mul_int q hc.ok
theorem AD:gT X (binaryOp .Mod) (rI (λ_ j=>j≠0) λi j=>.int (i.fmod j)):=J6 λ_ _ _ _ _ _ _ hc q=>mod_int' hc q
theorem D7:gT X (binaryOp .Pow) (rI Ki λi j=>.int (i^j.toNat)):=J6 λ_ _ _ _ _ _ _ hc q=>pow_int_small hc.1 hc.2.1 hc.2.2 q
theorem Ql{f:Value->Sem Value}{g:Int->Int}
  (rule:∀(i:Int)(t:Tok)(s:Shared)(Q:Value->Shared->Prop)(E:Value->Shared->Prop),Q (.int (g i) s.toks) {s with toks:=s.toks+1}->wpAny (model X.prog X.w) X.A (f (.int i t)) Q E s):
  Kw X f (rU λi=>.int (g i)):=by
 intro pins s σ H x v Q I rx h;obtain⟨i,rfl,q⟩:=h;obtain⟨t,rfl⟩:=rx;exact rule i t s _ _ ⟨.int (g i),H,I.tok _,⟨_,rfl⟩,q⟩
theorem E9:Kw X (unaryOp .USub) (rU λi=>.int (-i)):=Ql λ_ _ _ _ _ q=>neg_int q
end
section
variable{X:Cx}{a b c:Expr}{ta tb tc:TE}{pos:Pos}
theorem C3{pins:List (Addr×Obj)}{σ:St}{H:Hp}{s:Shared}{Q:VK}{k k':Bool}(I:Inv X pins σ H s)(q:Q (.bl k) H)(e:k=k'):EP X pins σ Q (.bool k') s:=by subst e;exact⟨.bl k,H,I,rfl,q⟩
theorem HS:gT X (compareOp .Lt) (B7 λi j=>.bl (decide (i<j))):=AA λ_ _ _ _ _ _ _ q=>lt_int q
theorem HR:gT X (compareOp .LtE) (B7 λi j=>.bl (decide (i<=j))):=AA λ_ _ _ _ _ _ _ q=>le_int q
theorem HQ:gT X (compareOp .Gt) (B7 λi j=>.bl (decide (j<i))):=AA λ_ _ _ _ _ _ _ q=>gt_int q
theorem HP:gT X (compareOp .GtE) (B7 λi j=>.bl (decide (j<=i))):=AA λ_ _ _ _ _ _ _ q=>ge_int q
theorem rY{op:CmpOp}{r:R2}(ho:gT X (compareOp op) r)(ha:PE X a ta)(hb:PE X b tb)(hm:behindInMarks op b=false):PE X (.Compare a [op] [b] pos) (Ka r ta tb):=by intro pins s σ H Q I h;exact wpAny_Compare1 (CJ ha hb I h λv u s2 x y H2 I2 rx ry q=>ho pins s2 σ H2 x y v u Q I2 rx ry q) hm
def Ci(t:TE):TT:=λσ H Q=>t σ H λx H'=>∃k,x= .bl k/\Q k H'
theorem AV{op:CmpOp}{r:R2}(ho:gT X (compareOp op) r)(ha:PE X a ta)(hb:PE X b tb)(hm:behindInMarks op b=false):PT X (.Compare a [op] [b] pos) (Ci (Ka r ta tb)):=by
 intro pins s σ H Q I h;refine wpAny_isTrue_Compare1 (ba (ha pins s σ H _ I h) λv s1⟨x,H1,I1,r1,q1⟩=>ba (hb pins s1 σ H1 _ I1 q1) λu s2⟨y,H2,I2,r2,q2⟩=>
  ba (ho pins s2 σ H2 x y v u _ I2 r1 r2 q2) λc s3⟨z,H3,I3,r3,k,e,q3⟩=>?_) hm
 subst e;cases r3;exact TC ⟨H3,I3,q3⟩
def yn(r r':R2)(ta tb tc:TE):TE:=λσ H Q=>ta σ H λx H1=>tb σ H1 λy H2=>r x y H2 λz H3=>∃k,z= .bl k/\
 (if k=true then tc σ H3 λw' H4=>r' y w' H4 Q else Q (.bl false) H3)
theorem xi{op mh:CmpOp}{r r':R2}(ho:gT X (compareOp op) r)(lQ:gT X (compareOp mh) r')(ha:PE X a ta)(hb:PE X b tb)(hc:PE X c tc)
  (hm:lastMarks [op,mh] [b,c]=false:=by with_unfolding_all rfl):PE X (.Compare a [op,mh] [b,c] pos) (yn r r' ta tb tc):=by
 intro pins s σ H Q I h;refine Compare_chain (ba (ha pins s σ H _ I h) λv s1⟨x,H1,I1,r1,q1⟩=>chain_link (ba (hb pins s1 σ H1 _ I1 q1) λu s2⟨y,H2,I2,r2,q2⟩=>
  ba (ho pins s2 σ H2 x y v u _ I2 r1 r2 q2) λd s3⟨z,H3,I3,r3,k,e,q3⟩=>?_)) hm
 subst e;cases r3;refine TC ?_;cases k with
 |false=>exact ite_ff ⟨.bl false,H3,I3,rfl,q3⟩
 |true=>exact ite_tt (chain_last (ba (hc pins s3 σ H3 _ I3 q3) λw' s4⟨z',H4,I4,r4,q4⟩=>lQ pins s4 σ H4 y z' u w' Q I4 r2 r4 q4))
theorem xF{op mh:CmpOp}{r r':R2}(ho:gT X (compareOp op) r)(lQ:gT X (compareOp mh) r')(ha:PE X a ta)(hb:PE X b tb)(hc:PE X c tc)
  (hm:lastMarks [op,mh] [b,c]=false:=by with_unfolding_all rfl):PT X (.Compare a [op,mh] [b,c] pos) (Ci (yn r r' ta tb tc)):=by
 intro pins s σ H Q I h;refine isTrue_chain (ba (ha pins s σ H _ I h) λv s1⟨x,H1,I1,r1,q1⟩=>test_link (ba (hb pins s1 σ H1 _ I1 q1) λu s2⟨y,H2,I2,r2,q2⟩=>
  ba (ho pins s2 σ H2 x y v u _ I2 r1 r2 q2) λd s3⟨z,H3,I3,r3,k,e,q3⟩=>?_)) hm
 subst e;cases r3;refine TC ?_;cases k with
 |false=>obtain⟨k',e',q'⟩:=q3;cases e';exact ite_ff ⟨H3,I3,q'⟩
 |true=>refine ite_tt (test_last (ba (hc pins s3 σ H3 _ I3 q3) λw' s4⟨z',H4,I4,r4,q4⟩=>ba (lQ pins s4 σ H4 y z' u w' _ I4 r2 r4 q4) λd' s5⟨z2,H5,I5,r5,k2,e2,q5⟩=>?_));subst e2;cases r5;exact TC ⟨H5,I5,q5⟩
def F0(K:PySem.W.Frag)(x:V)(H:Hp)(k:Bool):Prop:=
 match x with
 |.bM=>k=false
 |.bl b=>k=b
 |.int i=>k=(i != 0)
 |.str y=>y.length<=sizeLine/\k=((y.length:Int) != 0)
 |.CN y=>y.size<=sizeLine/\k=((y.size:Int) != 0)
 |.ref p=>(∃xs,cZ K H p xs/\k= !xs.isEmpty)\/(∃xs,du K H p xs/\k= !xs.isEmpty)\/∃cH,H p=some (.dK cH)/\k= !cH.isEmpty
 |_=>False
theorem pP{κ:Type}{cH:List (κ×V)}{vs:List (κ×Value)}(r:KV cH vs):(!vs.isEmpty)= !cH.isEmpty:=by cases r<;>rfl
theorem jx{xs:List V}{its:List Value}(r:au xs its):(!its.toArray.isEmpty)= !xs.isEmpty:=by cases r<;>simp
theorem g0:(sizeLine:Nat)<2^63:=by rw[Th];decide
theorem ec:Kv X (λx H Q=>∃k,F0 X.K x H k/\Q k H):=by
 intro pins s σ H x v Q I rx h;obtain⟨k,e,q⟩:=h;have hl:=g0;have hs:sizeLine=16777216:=Th;cases x with
 |bM=>cases rx;have e':k=false:=e;subst e';exact truthy_none ⟨H,I,q⟩
 |bl b=>cases rx;have e':k=b:=e;subst e';exact TC ⟨H,I,q⟩
 |int i=>obtain⟨t,rfl⟩:=rx;have e':k=(i != 0):=e;subst e';exact PySem.P.truthy_int ⟨H,I,q⟩
 |str y=>obtain⟨t,rfl⟩:=rx;obtain⟨hy,e'⟩:y.length<=sizeLine/\k=((y.length:Int) != 0):=e;subst e';exact PySem.P.truthy_str ⋯ ⟨H,I.tok _,q⟩
 |CN y=>obtain⟨t,rfl⟩:=rx;obtain⟨hy,e'⟩:y.size<=sizeLine/\k=((y.size:Int) != 0):=e;subst e';exact PySem.W.truthy_bytes ⋯ ⟨H,I.tok _,q⟩
 |ref p=>
  cases rx;have e':(∃xs,cZ X.K H p xs/\k= !xs.isEmpty)\/(∃xs,du X.K H p xs/\k= !xs.isEmpty)\/∃cH,H p=some (.dK cH)/\k= !cH.isEmpty:=e;rcases e' with ⟨xs,hx,e'⟩|⟨xs,hx,e'⟩|⟨cH,hx,e'⟩
  ·subst e';obtain⟨its,r,pl,hz⟩:=I.list hx;have hlen:=r.length;exact wpAny_truthy_list pl.isList (by simp only[QP];omega) ⟨H,I.tok _,by rw[jx r];exact q⟩
  ·subst e';obtain⟨its,r,pl,hz⟩:=I.tuple hx;have hlen:=r.length;exact truthy_tuple pl (by simp only[QP];omega) ⟨H,I.tok _,by rw[jx r];exact q⟩
  ·subst e';obtain⟨hz,hS,vs,r,m⟩:cH.length<=sizeLine/\(p==sysModules)=false/\∃vs,KV cH vs/\s.heap.DictOf (lZ X.prog X.w) p vs:=I.hok p _ hx;have hlen:cH.length=vs.length:=Paired.length r;exact wpAny_truthy_dict hS m ⋯ ⟨H,I.tok _,by rw[pP r];exact q⟩
 |_=>exact(show False from e).elim
theorem xG(ha:PE X a ta)(he:∀whole,isTrue a X.env whole=(do let v<-whole;standAt a.pos;holding [v] (truthy v))):
  PT X a (λσ H Q=>ta σ H λx H'=>∃k,F0 X.K x H' k/\Q k H'):=by
 intro pins s σ H Q I h;exact isTrue_plain (ba (ha pins s σ H _ I h) λv s1⟨x,H1,I1,r1,q1⟩=>ec pins s1 σ H1 x v Q I1 r1 q1) (he _)
theorem p8:gT X (binaryOp .Add) (λx y H Q=>∃i j,x= .str i/\y= .str j/\i.length+j.length<=sizeLine/\Q (.str (i++j)) H):=by intro pins s σ H x y v u Q I rx ry h;obtain⟨i,j,rfl,rfl,hz,q⟩:=h;obtain⟨t,rfl⟩:=rx;obtain⟨t',rfl⟩:=ry;exact add_str (λt' tk=>⟨.str (i++j),H,I.tok _,⟨_,rfl⟩,q⟩) hz
theorem vals1{x:V}{us:List Value}(r:au [x] us):∃u,us=[u]/\RelV x u:=by
 cases r with
 |cons r1 r2=>cases r2;exact⟨_,rfl,r1⟩
theorem vals2{x y:V}{us:List Value}(r:au [x,y] us):∃u w',us=[u,w']/\RelV x u/\RelV y w':=by
 cases r with
 |cons r1 r2=>
  cases r2 with
  |cons r3 r4=>cases r4;exact⟨_,_,rfl,r1,r3⟩
theorem tB(hc:X.calm=true):cT X (.builtin "max") (λxs H Q=>∃i j,xs=[.int i,.int j]/\Q (.int (if j>i then j else i)) H):=by
 intro pins s σ H xs us Q I r h;obtain⟨i,j,rfl,q⟩:=h;obtain⟨u,w',rfl,⟨t,rfl⟩,⟨t',rfl⟩⟩:=vals2 r;refine max_two_ints (I.ok.hd hc) λh' tk k=>⟨_,H,I.kept k,?_,q⟩
 by_cases hj:j>i
 ·rw[Ta hj,Ta hj];exact⟨_,rfl⟩
 ·rw[S9 hj,S9 hj];exact⟨_,rfl⟩
theorem tD(hc:X.calm=true):cT X (.builtin "min") (λxs H Q=>∃i j,xs=[.int i,.int j]/\Q (.int (if j<i then j else i)) H):=by
 intro pins s σ H xs us Q I r h;obtain⟨i,j,rfl,q⟩:=h;obtain⟨u,w',rfl,⟨t,rfl⟩,⟨t',rfl⟩⟩:=vals2 r;refine min_two_ints (I.ok.hd hc) λh' tk k=>⟨_,H,I.kept k,?_,q⟩
 by_cases hj:j<i
 ·rw[Ta hj,Ta hj];exact⟨_,rfl⟩
 ·rw[S9 hj,S9 hj];exact⟨_,rfl⟩
theorem kz:cT X (.type "int") (λxs H Q=>(∃i,xs=[.int i]/\Q (.int i) H)\/∃k,xs=[.bl k]/\Q (.int (if k then 1 else 0)) H):=by
 intro pins s σ H xs us Q I r h;rcases h with ⟨i,rfl,q⟩|⟨k,rfl,q⟩
 ·obtain⟨u,rfl,t,rfl⟩:=vals1 r;exact call_int_int ⟨.int i,H,I,⟨_,rfl⟩,q⟩
 ·obtain⟨u,rfl,r1⟩:=vals1 r;cases r1;exact call_int_bool ⟨.int (if k then 1 else 0),H,I.tok _,⟨_,rfl⟩,q⟩
theorem lr:cT X (.type "str") (λxs H Q=>∃i,xs=[.int i]/\i.natAbs.log2<1920/\Q (.str (toString i)) H):=by intro pins s σ H xs us Q I r h;obtain⟨i,rfl,hz,q⟩:=h;obtain⟨u,rfl,t,rfl⟩:=vals1 r;exact PySem.P.str_of_int hz ⟨.str _,H,I.tok _,⟨_,rfl⟩,q⟩
def Kq(K:PySem.W.Frag)(x:V)(H:Hp)(n:Nat):Prop:=
 match x with
 |.str y=>y.length<=sizeLine/\n=y.length
 |.CN y=>y.size<=sizeLine/\n=y.size
 |.ref p=>(∃xs,cZ K H p xs/\n=xs.length)\/∃xs,du K H p xs/\n=xs.length
 |_=>False
theorem gb:cT X (.builtin "len") (λxs H Q=>∃x n,xs=[x]/\Kq X.K x H n/\Q (.int n) H):=by
 intro pins s σ H xs us Q I r h;obtain⟨x,n,rfl,e,q⟩:=h;obtain⟨u,rfl,rx⟩:=vals1 r;have hl:=g0;have hs:sizeLine=16777216:=Th;cases x with
 |str y=>obtain⟨t,rfl⟩:=rx;obtain⟨hy,e'⟩:y.length<=sizeLine/\n=y.length:=e;subst e';exact len_str ⋯ ⟨.int _,H,I.tok _,⟨_,rfl⟩,q⟩
 |CN y=>obtain⟨t,rfl⟩:=rx;obtain⟨hy,e'⟩:y.size<=sizeLine/\n=y.size:=e;subst e';exact PySem.W.len_bytes ⋯ ⟨.int _,H,I.tok _,⟨_,rfl⟩,q⟩
 |ref p=>
  cases rx;have e':(∃xs,cZ X.K H p xs/\n=xs.length)\/∃xs,du X.K H p xs/\n=xs.length:=e;rcases e' with ⟨xs,hx,e'⟩|⟨xs,hx,e'⟩
  ·subst e';obtain⟨its,r',pl,hz⟩:=I.list hx;have hlen:=r'.length;exact Calls.call_len_list pl.isList (by simp only[QP];omega) ⟨.int xs.length,H,I.tok _,⟨_,by simp only[QP];rw[hlen]⟩,q⟩
  ·subst e';obtain⟨its,r',pl,hz⟩:=I.tuple hx;have hlen:=r'.length;exact len_tuple pl (by simp only[QP];omega) ⟨.int xs.length,H,I.tok _,⟨_,by simp only[QP];rw[hlen]⟩,q⟩
 |_=>exact(show False from e).elim
end
end L2
namespace L2
open PySem PySem.Spec PyProof.Rows
structure Cp(h:Heap)(x dx C:Addr)(mA:Str->Option Value):Prop where
 obj:h.get? x=some (PySem.W.instObj C dx)
 ns:h.Ns1 dx mA
 ne:dx≠x
theorem tY{h:Heap}{dx:Addr}{mA:Str->Option Value}(n:h.Ns1 dx mA):∃od,h.get? dx=some od/\∀name,PySem.W.lookIn name od=some (mA name):=by
 obtain⟨o,es,ep,ho,hd,hk,_,hm⟩:=n;refine⟨o,ho,λname=>?_⟩;have e:=hm name;unfold nsFind findBy at e;rw[<-Array.find?_toList]at e;unfold PySem.W.lookIn;rw[hd];dsimp only;split
 ·rename_i y q;rw[q]at e;exact S6 some e
 ·rename_i q;rw[q]at e;have a:es.toList.any (·.refKey)=false:=by rw[List.any_eq_false];intro y hy;obtain⟨z,t,LD⟩:=hk y (Array.mem_toList_iff.mp hy);simp[DictEntry.refKey,LD]
  have a':¬es.toList.any (·.refKey)=true:=by rw[a];exact RG
  rw[S9 a'];exact S6 some e
theorem Cp.look{h:Heap}{x dx C:Addr}{mA:Str->Option Value}(I:Cp h x dx C mA):∃od,PySem.W.InstAt h x (PySem.W.instObj C dx) C (some od)/\∀name,PySem.W.lookIn name od=some (mA name):=
 let ⟨od,ho,hl⟩:=tY I.ns
 ⟨od,⟨I.obj,rfl,rfl,ho⟩,hl⟩
section
variable{P:Program}{w:World}{H:Hp}{h:Heap}{a C dx:Addr}{fs:List (Str×V)}
theorem Af(hok:dq P w H h)(e:H a=some (.ins C dx fs)):∃mA,Cp h a dx C mA/\(∀f,Ct (fs.lookup f) (mA f))/\PySem.Within mA (fs.map (·.1))/\fs.length<=1000/\H dx=some (.own a):=by obtain⟨d,z,ne,ob,mA,n,r,q⟩:=(show bF P w H h a (.ins C dx fs) from hok a _ e);exact⟨mA,⟨ob,n,ne⟩,r,q,z,d⟩
end
structure Kj(K:PySem.W.Frag)(C:Addr):Prop where
 pg:PySem.W.plainGet K C Str.empty=true
 hd:PySem.W.hasDictIn K C=true
 po:PySem.W.plainOver K C=true
 sa:PySem.W.findIn K (.ref C) "__setattr__"=some (some (.builtin "object.__setattr__"))
theorem Kj.get{K:PySem.W.Frag}{C:Addr}(c:Kj K C)(f:Str):PySem.W.plainGet K C f=true:=c.pg
section
variable{X:Cx}{pins:List (Addr×Obj)}{σ:St}{H:Hp}{s:Shared}{A:Around}{E:Value->Shared->Prop}{Q:Value->Shared->Prop}{c:Value}{b:Bool}
inductive f9(K:PySem.W.Frag)(H:Hp):V->Value->Prop where
 |bM:f9 K H .bM (.type "NoneType")
 |bl (x:Bool):f9 K H (.bl x) (.type "bool")
 |int (i:Int):f9 K H (.int i) (.type "int")
 |str (x:Str):f9 K H (.str x) (.type "str")
 |yU (x:UInt64):f9 K H (.yU x) (.type "float")
 |lst {a:Addr} {xs:List V} (e:H a=some (.lst xs)):f9 K H (.ref a) (.type "list")
 |qV {a:Addr} {o:Obj} {xs:List V} (e:H a=some (.qV o (.lst xs))):f9 K H (.ref a) (.type "list")
 |tup {a:Addr} {xs:List V} (e:H a=some (.tup xs)):f9 K H (.ref a) (.type "tuple")
 |dK {a:Addr} {cH:List (Key×V)} (e:H a=some (.dK cH)):f9 K H (.ref a) (.type "dict")
 |dT {a:Addr} {cH:List (List Key×V)} (e:H a=some (.dT cH)):f9 K H (.ref a) (.type "dict")
 |ins {a C dx:Addr} {fs:List (Str×V)} (e:H a=some (.ins C dx fs)) (cl:Kj K C) (ha:PySem.W.findIn K (.ref C) "__class__"=some (some (.builtin "object.__class__")))
   (hn:PySem.W.specialIn K (.builtin "object.__class__") "__get__"=some (some (.builtin "getset_descriptor.__get__"))) (NM:PySem.W.takesIn K (.builtin "object.__class__")=some true)
   (hm:PySem.W.mroIn K C (.type "object")=some true):f9 K H (.ref a) (.ref C)
theorem tU{x:V}{u t:Value}(I:Inv X pins σ H s)(rx:RelV x u)(ty:f9 X.K H x t)(e:PySem.W.kitOne X.K t c=some b)(h:∀tk,Q (.bool b) {s with toks:=tk}):
  wpAny (model X.prog X.w) A (call (.builtin "isinstance") [u,c]) Q E s:=by
 cases ty with
 |bM=>cases (show u=Value.none from rx);exact SX PySem.W.kitx_none I.iS True.intro e (λz=>nomatch z) h
 |bl y=>cases (show u=Value.bool y from rx);exact SX PySem.W.kitx_bool I.iS True.intro e (λz=>nomatch z) h
 |int i=>obtain⟨t,q⟩:=(show∃t,u=Value.int i t from rx);cases q;exact SX PySem.W.kitx_int I.iS True.intro e (λz=>nomatch z) h
 |str y=>obtain⟨t,q⟩:=(show∃t,u=Value.str y t from rx);cases q;exact SX PySem.W.kitx_str I.iS True.intro e (λz=>nomatch z) h
 |yU y=>obtain⟨t,q⟩:=(show∃t,u=Value.float y t from rx);cases q;exact SX PySem.W.kitx_float I.iS True.intro e (λz=>nomatch z) h
 |@lst a xs ea=>cases (show u=Value.ref a from rx);obtain⟨_,_,n,_,h1⟩:=(show bF X.prog X.w H s.heap a (.lst xs) from I.hok a _ ea);exact SX PySem.W.kitx_list I.iS ⟨_,h1,rfl⟩ e (λz=>nomatch z) h
 |@qV a ob xs ea=>cases (show u=Value.ref a from rx);obtain⟨_,_,_,n,_,h1⟩:=(show bF X.prog X.w H s.heap a (.qV ob (.lst xs)) from I.hok a _ ea);exact SX PySem.W.kitx_list I.iS ⟨_,h1,rfl⟩ e (λz=>nomatch z) h
 |@tup a xs ea=>cases (show u=Value.ref a from rx);obtain⟨_,_,_,p⟩:=(show bF X.prog X.w H s.heap a (.tup xs) from I.hok a _ ea);obtain⟨o,h1,h2,_⟩:=p;exact SX PySem.W.kitx_tuple I.iS ⟨o,h1,h2⟩ e (λz=>nomatch z) h
 |@dK a cH ea=>cases (show u=Value.ref a from rx);obtain⟨_,_,vs,_,p⟩:=(show bF X.prog X.w H s.heap a (.dK cH) from I.hok a _ ea);obtain⟨o,es,ep,h1,h2,_⟩:=p;exact SX PySem.W.kitx_dict I.iS ⟨o,h1,h2.1⟩ e (λz=>nomatch z) h
 |@dT a cH ea=>cases (show u=Value.ref a from rx);obtain⟨_,_,xs,_,o,es,ep,h1,h2,_⟩:=(show bF X.prog X.w H s.heap a (.dT cH) from I.hok a _ ea);exact SX PySem.W.kitx_dict I.iS ⟨o,h1,h2.1⟩ e (λz=>nomatch z) h
 |@ins a C dx fs ea cl ha hn NM hm=>cases (show u=Value.ref a from rx);obtain⟨mA,O,_⟩:=Af I.hok ea;obtain⟨od,J,_⟩:=O.look;exact SX (PySem.W.kitx_own (cl.get _) cl.hd ha hn NM hm) I.iS J e (λz=>nomatch z) h
end
end L2
namespace L2
open PySem PySem.Spec PyProof.Rows
structure f7(k:Nat)(A:Around):Prop where
 hd:A.handled=none
 dp:A.depth+3*k+5<recursionLimit
 un:A.units+16*k+200<cLine
theorem f7.deeper{k:Nat}{A:Around}(r:f7 (k+1) A)(env:Env):f7 k (A.deeper env):=
 ⟨r.hd,by have:=r.dp;show A.depth+1+3*k+5<_;omega,by have:=r.un;show A.units+3+16*k+200<_;omega⟩
theorem f7.depth{k:Nat}{A:Around}(r:f7 k A):A.depth<recursionLimit:=by have:=r.dp;omega
def IV:TA:=λ_ H Q=>Q [] H
def Ce(ta:TE)(tr:TA):TA:=λσ H Q=>ta σ H λx H1=>tr σ H1 λxs H2=>Q (x::xs) H2
section
variable{X:Cx}{e:Expr}{es:List Expr}{te:TE}{t:TA}{pos:Pos}
theorem eQ:PA X [] IV:=λ_ _ _ _ H Q I h=>Calls.spliced_nil ⟨[],H,I,.nil,h⟩
theorem bx(ha:PE X e te)(hr:PA X es t)(hs:starEach (e::es) X.env=(false,eval e X.env)::starEach es X.env:=by rfl):PA X (e::es) (Ce te t):=by intro pos pins s σ H Q I h;rw[hs];show wpAny _ _ (spliced ((false,eval e X.env)::backTo pos (starEach es X.env))) _ _ s;refine Calls.spliced_cons (ba (ha pins s σ H _ I h) λu s1⟨x,H1,I1,r1,q1⟩=>?_);exact ba (hr pos pins s1 σ H1 _ I1 q1) λus s2⟨xs,H2,I2,r2,q2⟩=>⟨x::xs,H2,I2,.cons r1 r2,q2⟩
def MS(t:TA):TE:=λσ H Q=>t σ H λxs H1=>xs.length<=sizeLine/\∀p,H1 p=none->Q (.ref p) (upd H1 p (.tup xs))
def MP(t:TA):TE:=λσ H Q=>t σ H λxs H1=>xs.length<=sizeLine/\∀p,H1 p=none->Q (.ref p) (upd H1 p (.lst xs))
theorem Ei{x1}(h:PA X es t):PE X (.Tuple es x1 pos) (MS t):=by intro pins s σ H Q I hq;refine wpAny_Tuple_spliced (ba (h pos pins s σ H _ I hq) λus s1⟨xs,H1,I1,r,z,q⟩=>⟨by rw[<-r.length];exact z,?_⟩);have hf:H1 s1.heap.objs.size=none:=I1.hok.fresh (QT _);refine⟨.ref s1.heap.objs.size,upd H1 s1.heap.objs.size (.tup xs),I1.laid (t':=s1.toks) (λb u e=>QM _ e) (QT _) ?_,rfl,q _ hf⟩;exact⟨z,us,r,⟨_,QV _ rfl,rfl,_,rfl,rfl,rfl⟩⟩
theorem xm(h:PA X es t):PE X (.List es pos) (MP t):=by intro pins s σ H Q I hq;refine wpAny_List_spliced (ba (h pos pins s σ H _ I hq) λus s1⟨xs,H1,I1,r,z,q⟩=>⟨by rw[<-r.length];exact z,?_⟩);have hf:H1 s1.heap.objs.size=none:=I1.hok.fresh (QT _);refine⟨.ref s1.heap.objs.size,upd H1 s1.heap.objs.size (.lst xs),I1.laid (t':=s1.toks) (λb u e=>QM _ e) (QT _) ?_,rfl,q _ hf⟩;exact⟨z,us,0,r,QV _ rfl⟩
end
abbrev Sp:=List V->Hp->VK->XK->Prop
abbrev j9:=List Env->Hp->Shared->XK->Value->Shared->Prop
structure zd(P:Program)(w:World)(K:PySem.W.Frag)(mg:Str->Option Value)(base:Heap)(A:Around)(outer:List Env)(s:Shared)(H:Hp):Prop where
 frames:A.frames=some outer
 mod:Mod K mg base
 bs:∀b o,base.get? b=some o->s.heap.get? b=some o/\H b=none
 vh:base.objs.size<=s.heap.objs.size
 fP:s.heap.FunFrames base outer
 zN:∀b∈dR outer,H b=none
 hok:dq P w H s.heap
 bare:AllBare s.gens
def CE(outer:List Env)(P:Program)(w:World)(H:Hp)(s:Shared)(Q:VK)(u:Value)(s':Shared):Prop:=
 ∃v H',s'.os=s.os/\AllBare s'.gens/\Un (dR outer) [] H H' s.heap s'.heap/\dq P w H' s'.heap/\RelV v u/\Q v H'
def CR(CX:j9)(outer:List Env)(P:Program)(w:World)(H:Hp)(s:Shared)(Q:VK)(E:XK)(r:Result)(s':Shared):Prop:=
 match r with
 |.ok (.ret u)=>CE outer P w H s Q u s'
 |.ok _=>False
 |.error e=>CX outer H s E e s'
structure gS(P:Program)(w:World)(K:PySem.W.Frag)(mg:Str->Option Value)(base:Heap)(CX:j9)(k:Nat)(f:Addr)(fd:FuncData)(ps:List Str)(sp:Sp):Prop where
 len:∀vs H Q E,sp vs H Q E->vs.length=ps.length
 run:∀(A:Around)(outer:List Env)(s:Shared)(H:Hp)(args:Args)(us:List Value)(vs:List V)(Q:VK)(E:XK),f7 k A->zd P w K mg base A outer s H->BindsTo s fd args (ps.zip us)->au vs us->sp vs H Q E->
  codeAny (model P w) A (.call (.ref f) args) (CR CX outer P w H s Q E) s
theorem gS.imp{P:Program}{w:World}{K:PySem.W.Frag}{mg:Str->Option Value}{base:Heap}{CX:j9}{k:Nat}{f:Addr}{fd:FuncData}{ps:List Str}{sp N4:Sp}(F:gS P w K mg base CX k f fd ps sp)
  (h:∀vs H Q E,N4 vs H Q E->sp vs H Q E):gS P w K mg base CX k f fd ps N4:=
 ⟨λvs H Q E q=>F.len vs H Q E (h _ _ _ _ q),λA outer s H args us vs Q E hr he hb hv hs=>F.run A outer s H args us vs Q E hr he hb hv (h _ _ _ _ hs)⟩
section
variable{X:Cx}{pins:List (Addr×Obj)}{σ:St}{H:Hp}{s s':Shared}
theorem Inv.eL(I:Inv X pins σ H s):zd X.prog X.w X.K X.mg X.base X.A X.stack s H:=
 ⟨I.ok.frames,I.ok.mod,I.bs,QY I.ok.vh I.sz,I.stack,I.mM,I.hok,I.bare⟩
theorem Inv.after{Q:VK}{u:Value}(I:Inv X pins σ H s)(h:CE X.stack X.prog X.w H s Q u s'):EP X pins σ Q u s':=by obtain⟨v,H',os,bare,un,hok,r,q⟩:=h;obtain⟨hh,g,d,t,P8⟩:=s';obtain rfl:P8=s.os:=os;exact⟨v,H',I.call (h':=hh) (g':=g) (d':=d) (t':=t) (ch:=[]) un hok bare (λb z=>absurd z ∅),r,q⟩
end
def IS(sp:Sp)(tK:List V)(E:XK)(t:TA):TE:=λσ H Q=>t σ H λvs H1=>sp (vs++tK) H1 Q E
def Binds(K:PySem.W.Frag)(fd:FuncData)(ps:List Str)(ds:List Value):Prop:=
 ∀(s:Shared)(us:List Value),K.In s.heap->(us++ds).length=ps.length->BindsTo s fd ⟨us,[]⟩ (ps.zip (us++ds))
theorem Binds.all{K:PySem.W.Frag}{fd:FuncData}{ps:List Str}(h:∀us:List Value,us.length=ps.length->bindArgs fd ⟨us,[]⟩=pure (ps.zip us)):Binds K fd ps []:=λs us _ hl=>by rw[Rt]at hl ⊢;exact .of_eq (h us hl)
def o9(CX:j9)(X:Cx)(E:XK):Prop:=∀(pins:List (Addr×Obj))(σ:St)(H:Hp)(s:Shared)(e:Value)(s':Shared),Inv X pins σ H s->CX X.stack H s E e s'->X.xe e s'
section
variable{X:Cx}{CX:j9}{k:Nat}{f:Addr}{fd:FuncData}{ps:List Str}{sp:Sp}{tK:List V}{ds:List Value}{E:XK}{x:Str}{p pos:Pos}{e:Expr}{es:List Expr}{t:TA}
theorem EI{pins:List (Addr×Obj)}{σ:St}{H:Hp}{s:Shared}{Q:VK}{us:List Value}{vs:List V}(F:gS X.prog X.w X.K X.mg X.base CX k f fd ps sp)(hr:f7 k X.A)(hb:Binds X.K fd ps ds)(hd:au tK ds)(hx:o9 CX X E)
  (I:Inv X pins σ H s) (r:au vs us) (h:sp (vs++tK) H Q E):wpAny (model X.prog X.w) X.A (call (.ref f) us) (EP X pins σ Q) X.xe s:=by
 have r2:au (vs++tK) (us++ds):=r.append hd;have hl:(us++ds).length=ps.length:=by rw[<-r2.length];exact F.len _ _ _ _ h
 refine wpAny_call (codeAny_mono (F.run X.A X.stack s H ⟨us,[]⟩ (us++ds) (vs++tK) Q E hr I.eL (hb s us I.iS hl) r2 h) λr s' hq=>?_);cases r with
 |error e=>exact hx pins σ H s e s' I hq
 |ok fl=>
  cases fl with
  |ret u=>exact I.after hq
  |next=>exact False.elim hq
  |brk=>exact False.elim hq
  |cont=>exact False.elim hq
theorem AH(F:gS X.prog X.w X.K X.mg X.base CX k f fd ps sp)(hr:f7 k X.A)(hg:Gl X x)(hm:X.mg x=some (.ref f))(hk:PySem.W.keepIn X.K (.ref f)=true)(hb:Binds X.K fd ps ds)(hd:au tK ds)(hx:o9 CX X E)
  (ha:PA X (e::es) t) (nW:(x==("__debug__":Str))=false:=by decide) (he:starEach (e::es) X.env=(false,eval e X.env)::starEach es X.env:=by rfl) (j7:(backTo pos (starEach es X.env)).any (·.1)=false:=by rfl):
  PE X (.Call (.Name x p) (e::es) [] pos) (IS sp tK E t):=by
 intro pins s σ H Q I h;refine Ti (gu I hg hm ?_ nW);refine PySem.W.callWith_K (h₀:=X.base) I.ok.mod.L6 hk (ba (ha pos pins s σ H _ I h) λus s1⟨vs,H1,I1,r,q⟩=>⟨I1.iS,?_⟩) he j7;exact EI F hr hb hd hx I1 r q
end
structure dS(N P:List Str)(sc:Scope):Prop where
 kind:sc.kind= .function
 co:sc.isCoroutine=false
 gen:sc.isGenerator=false
 nd:N.Nodup
 pre:N.take P.length=P
 par:∀x∈P,sc.names.lookup x=some .local\/sc.names.lookup x=some .cell
 DW:∀y∈sc.names,y.2≠ .free
theorem kv{kindOf:Str->Option NameKind}{x:Str}:∀{binds:List (Str×Value)}{m:Str->Option Value},(∀v,(x,v)∉binds)->bindL kindOf binds m x=m x
 |[],_,_=>rfl
 |(n,v)::r,m,h=>by
  unfold bindL;rw[kv λw hw=>h w (QS _ hw)];split
  ·have:x≠n:=by rintro rfl;exact h v QU
   simp[this]
  ·rfl
theorem kr{kindOf:Str->Option NameKind}{x:Str}:∀{binds:List (Str×Value)}{m:Str->Option Value},(∀v,(x,v)∉binds)->bindC kindOf binds m x=m x
 |[],_,_=>rfl
 |(n,v)::r,m,h=>by
  unfold bindC;rw[kr λw hw=>h w (QS _ hw)];split
  ·rfl
  ·have:x≠n:=by rintro rfl;exact h v QU
   simp[this]
theorem ku{kindOf:Str->Option NameKind}{x:Str}{v:Value}:∀{P:List Str}{vs:List Value}{i:Nat}{m:Str->Option Value},P.Nodup->P[i]?=some x->vs[i]?=some v->kindOf x=some .local->
  bindL kindOf (P.zip vs) m x=some v
 |[],_,_,_,_,h,_,_=>by simp at h
 |_::_,[],_,_,_,_,h,_=>by simp at h
 |p::P,w::vs,0,m,nd,h1,h2,hk=>by simp at h1 h2;subst h1;subst h2;show bindL kindOf ((p,w)::P.zip vs) m p=_;unfold bindL;rw[kv λv hv=>(So.mp nd).1 (Sr hv).1,Ta hk];simp
 |p::P,w::vs,i+1,m,nd,h1,h2,hk=>by show bindL kindOf ((p,w)::P.zip vs) m x=_;unfold bindL;exact ku (i:=i) (So.mp nd).2 ‹h1› ‹h2› hk
theorem kq{kindOf:Str->Option NameKind}{x:Str}{v:Value}:∀{P:List Str}{vs:List Value}{i:Nat}{m:Str->Option Value},P.Nodup->P[i]?=some x->vs[i]?=some v->kindOf x≠some .local->
  bindC kindOf (P.zip vs) m x=some v
 |[],_,_,_,_,h,_,_=>by simp at h
 |_::_,[],_,_,_,_,h,_=>by simp at h
 |p::P,w::vs,0,m,nd,h1,h2,hk=>by simp at h1 h2;subst h1;subst h2;show bindC kindOf ((p,w)::P.zip vs) m p=_;unfold bindC;rw[kr λv hv=>(So.mp nd).1 (Sr hv).1,S9 hk];simp
 |p::P,w::vs,i+1,m,nd,h1,h2,hk=>by show bindC kindOf ((p,w)::P.zip vs) m x=_;unfold bindC;exact kq (i:=i) (So.mp nd).2 ‹h1› ‹h2› hk
def start(N:List Str)(vs:List V):St:=vs.map some++List.replicate (N.length-vs.length) none
def jk(CX:j9)(P:Program)(w:World)(K:PySem.W.Frag)(mg:Str->Option Value)(base:Heap)(N:List Str)(qual:Str)(scope:Scope)(f:Addr)(cd:Value)(A:Around)(outer:List Env)(s:Shared)(H:Hp)(E:XK):Cx where
 prog:=P
 w:=w
 K:=K
 mg:=mg
 base:=base
 A:=A.deeper (envOfC qual scope s.heap.objs.size f cd)
 N:=N
 s₀:=s
 H₀:=H
 env:=envOfC qual scope s.heap.objs.size f cd
 outer:=outer
 stack:=envOfC qual scope s.heap.objs.size f cd::outer
 ex:=[]
 calm:=true
 fn:=λ_=>true
 pn:=[]
 xe:=λe s'=>wpAny (model P w) (A.deeper (envOfC qual scope s.heap.objs.size f cd)) (leaving (envOfC qual scope s.heap.objs.size f cd) e) (λ_ s''=>CX outer H s E e s'') (λe' s''=>CX outer H s E e' s'') s'
theorem nB{sc:Scope}{n:Nat}{x:Str}(h:sc.names.lookup x=some .cell):∃c,(cellsFrom n sc.names []).lookup x=some c:=by have q:=SW sc.names n [] (.inl h);exact Option.isSome_iff_exists.mp q
theorem tT{CX:j9}{P:Program}{w:World}{K:PySem.W.Frag}{mg:Str->Option Value}{base:Heap}{N ps:List Str}{qual:Str}{scope:Scope}{f:Addr}{cd:Value}{A:Around}{outer:List Env}{s s1:Shared}{H:Hp}{E:XK}{us:List Value}{vs:List V}
  (S:dS N ps scope) (hd:A.handled=none) (e0:zd P w K mg base A outer s H) (hl:vs.length=ps.length) (r:au vs us)
  (x:InCallC s s.heap.objs.size (bindL (envOfC qual scope s.heap.objs.size f cd).kindOf (ps.zip us) λ_=>none) (cellsFrom (s.heap.objs.size+1) scope.names []) (bindC (envOfC qual scope s.heap.objs.size f cd).kindOf (ps.zip us) λ_=>none) s1):
  Inv (jk CX P w K mg base N qual scope f cd A outer s H E) [] (start N vs) H s1:=by
 have j7:ps.length<=N.length:=by have:=S6 List.length S.pre;rw[Se]at this;omega
 obtain⟨h1,tk,rfl,hk⟩:=x.done;have Av:∀b:Addr,b∉(jk CX P w K mg base N qual scope f cd A outer s H E).ex:=λb z=>absurd (show b∈([]:List Addr) from z) ∅
 refine⟨⟨e0.mod,S.kind,rfl,rfl,QT _,λy z c h1 h2=>?_,λy hy=>?_,λy c _ h=>?_,λ_=>hd,Around.frames_deeper e0.frames,.inr ⟨rfl,rfl⟩,λb z=>absurd z (Av b),e0.bs,e0.vh,λb _ _=>Av b,λb z=>absurd z (Av b),e0.fP,e0.zN⟩,
  rfl,e0.bare,Un.kept hk,⟨_,x.toInCall.ns,λi y v h1 h2 h3=>?_⟩,λy c h=>⟨_,x.cell y c h⟩,e0.hok.fresh (QT _),λy c h=>?_,λp hp=>absurd (show p∈([]:List (Addr×Obj)) from hp) ∅,e0.hok.kept hk,?_⟩
 ·exact name_of_addr x.apart (SY h1) (SY h2)
 ·have hy:scope.names.lookup y=some .cell\/scope.names.lookup y=some .free:=hy;rcases hy with hy|hy
  ·exact nB hy
  ·exact absurd rfl (S.DW _ (SY hy))
 ·exact SD (x.above y c (SY h))
 ·have hi:i<vs.length:=by
   unfold start at h2;by_cases hi:i<vs.length
   ·exact hi
   ·rw[Rw ‹hi›]at h2;rw[R3]at h2;split at h2<;>cases h2
  have ha:vs[i]?=some v:=by
   unfold start at h2;rw[Rv ‹hi›,Q6]at h2;cases e:vs[i]? with
   |none=>rw[e]at h2;cases h2
   |some a=>rw[e]at h2;cases h2;rfl
  obtain⟨u,hu,rv⟩:=r.get ha;have hp:ps[i]?=some y:=by rw[<-S.pre,R5 ⋯];exact h1
  have NX:ps.Nodup:=by rw[<-S.pre];exact S.nd.sublist (List.take_sublist _ _)
  refine⟨u,rv,?_⟩;rcases S.par y (Sk hp)with k|k
  ·exact .inl ⟨k,ku NX hp hu k⟩
  ·obtain⟨c,e⟩:=nB (n:=s.heap.objs.size+1) k;refine .inr ⟨.inl k,c,e,?_⟩;have q:=x.cell y c e;rw[kq NX hp hu (by show scope.names.lookup y≠_;rw[k];decide)]at q;exact q
 ·exact e0.hok.fresh (SD (x.above y c (SY h)))
 ·unfold start;show _=N.length;rw[Q3,QW,Sa];omega
end L2
namespace L2
open PySem PySem.Spec PyProof.Rows
section
variable{X:Cx}{x:Str}{p pos:Pos}{e:Expr}{es:List Expr}{t:TA}{id T:String}{r:List V->Hp->VK->Prop}
def MO(r:List V->Hp->VK->Prop)(t:TA):TE:=λσ H Q=>t σ H λvs H1=>r vs H1 Q
theorem jK(hc:cT X (.builtin id) r)(hg:Gl X x)(hm:X.mg x=none)(hv:bootBuiltins x=some (.builtin id))(ha:PA X (e::es) t)(hn:x≠"__name__":=by decide)(nW:(x==("__debug__":Str))=false:=by decide)
  (he:starEach (e::es) X.env=(false,eval e X.env)::starEach es X.env:=by rfl) (j7:(backTo pos (starEach es X.env)).any (·.1)=false:=by rfl):PE X (.Call (.Name x p) (e::es) [] pos) (MO r t):=by
 intro pins s σ H Q I h;refine Ti (gZ I hg hm hv ?_ hn nW);exact PyProof.Rows.callWith_builtin1 (ba (ha pos pins s σ H _ I h) λus s1⟨vs,H1,I1,r1,q1⟩=>hc pins s1 σ H1 vs us Q I1 r1 q1) he j7
theorem uc(hc:cT X (.type T) r)(hg:Gl X x)(hm:X.mg x=none)(hv:bootBuiltins x=some (.type T))(ha:PA X (e::es) t)(hn:x≠"__name__":=by decide)(nW:(x==("__debug__":Str))=false:=by decide)
  (he:starEach (e::es) X.env=(false,eval e X.env)::starEach es X.env:=by rfl) (j7:(backTo pos (starEach es X.env)).any (·.1)=false:=by rfl):PE X (.Call (.Name x p) (e::es) [] pos) (MO r t):=by
 intro pins s σ H Q I h;refine Ti (gZ I hg hm hv ?_ hn nW);exact SN (ba (ha pos pins s σ H _ I h) λus s1⟨vs,H1,I1,r1,q1⟩=>hc pins s1 σ H1 vs us Q I1 r1 q1) he j7
end
end L2
namespace HT
open PySem PyProof.Rows
section
variable{prog:Program}{w:World}{A:Around}{E:Value->Shared->Prop}{s:Shared}
theorem zy{t b:Addr}{vs ws:List Value}{Q:Value->Shared->Prop}(ht:IsTup s.heap t vs.toArray)(hb:IsTup s.heap b ws.toArray)(hv:vs≠[])
  (h1:ws=[]->Q (.ref t) s) (h2:ws≠[]->Q (.ref s.heap.objs.size) {s with heap:=s.heap.push {cls:=.type "tuple",data:=.seq (vs++ws).toArray}})
  (nY:vs.length+ws.length<=sizeLine):wpAny (model prog w) A (binaryOp .Add (.ref t) (.ref b)) Q E s:=by
 obtain⟨⟨cls,dd,data,sl⟩,ho,hc,n,hd⟩:=id ht;obtain⟨⟨Gi,yR,data2,uR⟩,ke,nU,n2,yW⟩:=id hb;simp only at hc hd nU yW;subst hc hd nU yW;have e:vs.toArray++ws.toArray=(vs++ws).toArray:=by simp
 by_cases hw:ws=[]
 ·exact concat_meets ⟨_,ho,rfl⟩ ⟨_,ke,rfl⟩ Tc seq_tuple_add SV SU (SR _ _)
   (tuple_addW1 t b vs.toArray ws.toArray n n2 dd yR sl uR ‹hv› (by simp[hw])) ⟨ho,ke,h1 hw⟩
 ·refine concat_meets ⟨_,ho,rfl⟩ ⟨_,ke,rfl⟩ Tc seq_tuple_add SV SU (SR _ _)
   (tuple_addW2 t b vs.toArray ws.toArray n n2 dd yR sl uR ‹hv› ‹hw› (by rw[QP,QP];exact nY)) ⟨ho,ke,?_⟩
  rw[e];exact h2 hw
def bH(n d:Nat):Option Int->Nat
 |none=>d
 |some v=>if v<0 then(v+(n:Int)).toNat else min v.toNat n
theorem EJ(n d:Nat)(hd:d<=n)(o:Option Int):bH n d o<=n:=by
 cases o with
 |none=>exact hd
 |some v=>
  show (if v<0 then(v+(n:Int)).toNat else min v.toNat n)<=n;by_cases hv:v<0
  ·rw[Ta hv];omega
  ·rw[S9 hv];exact Nat.min_le_right _ _
theorem qL(v:Int)(n d:Nat):(if v<0 then max (v+(n:Int)) 0 else min v (n:Int))=((bH n d (some v):Nat):Int):=by
 show (if v<0 then max (v+(n:Int)) 0 else min v (n:Int))=(((if v<0 then(v+(n:Int)).toNat else min v.toNat n):Nat):Int);by_cases hv:v<0
 ·simp only[Ta hv];omega
 ·simp only[S9 hv];omega
theorem pd(lo hi:Option Int)(n:Nat):Builtin.Slice.sliceAdjust lo hi 1 (n:Int)=(((bH n 0 lo:Nat):Int),((bH n n hi:Nat):Int)):=by
 have h1:¬((1:Int)<0):=⋯
 unfold Builtin.Slice.sliceAdjust;simp only[h1,S8];refine Prod.ext ?_ ?_
 ·cases lo with
  |none=>rfl
  |some v=>exact qL v n 0
 ·cases hi with
  |none=>rfl
  |some v=>exact qL v n n
theorem qc(i j:Nat):Builtin.Slice.slicePlaces (i:Int) (j:Int) 1=j-i:=by
 unfold Builtin.Slice.slicePlaces;have h1:(1:Int)>0:=⋯
 simp only[h1,Tb,Int.ediv_one];split<;>omega
theorem jU{v:Value}{o:Option Int}{Q:Option Int->Shared->Prop}(p:IsPart v o)(h:Q o s):wpAny (model prog w) A (Builtin.Slice.slicePartIndex v) Q E s:=by
 cases p with
 |none=>exact slicePart_none h
 |int i t=>exact slicePart_int h
theorem dJ{sl:Addr}{vl vu:Value}{lo hi:Option Int}{n:Nat}{Q:Int×Int×Nat->Shared->Prop}(hs:s.heap.IsSliceOf sl vl vu .none)(pl:IsPart vl lo)(pu:IsPart vu hi)
  (h:Q (((bH n 0 lo:Nat):Int),1,bH n n hi-bH n 0 lo) s):wpAny (model prog w) A (Builtin.Slice.sliceApplied (.ref sl) (pure (n:Int))) Q E s:=by
 obtain⟨os,Do,uN,G1⟩:=id hs;unfold Builtin.Slice.sliceApplied Builtin.Slice.sliceFields;refine QK (QK (Tn Do G1 (x:=vl) rfl (QK (Tn Do G1 (x:=vu) rfl (QK (Tn Do G1 (x:=.none) rfl (QN ?_)))))));refine QK (slicePart_none ?_);show wpAny _ _ (if ((1:Int)==0)=true then _ else _) _ _ s;rw[S9 ‹_›];refine QK (jU pl (QK (jU pu (QK (QN ?_)))));show wpAny _ _ (match Builtin.Slice.sliceAdjust lo hi 1 (n:Int)with|(lo,hi)=>pure (lo,(1:Int),Builtin.Slice.slicePlaces lo hi 1)) _ _ s;rw[pd lo hi n];show wpAny _ _ (pure (((bH n 0 lo:Nat):Int),(1:Int),Builtin.Slice.slicePlaces ((bH n 0 lo:Nat):Int) ((bH n n hi:Nat):Int) 1)) _ _ s;rw[qc];exact QN h
theorem xt(xs:Array Value)(i k:Nat):((List.range k).filterMap λ(m:Nat)=>xs[((i:Int)+(m:Int)*1).toNat]?).toArray=((xs.toList.drop i).take k).toArray:=by
 have e:(λ(m:Nat)=>xs[((i:Int)+(m:Int)*1).toNat]?)=λm=>xs[i+m]?:=by
  funext m;have:((i:Int)+(m:Int)*1).toNat=i+m:=⋯
  rw[this]
 rw[e];have:=pick_run xs i k;rw[List.filterMap_map]at this;have e2:((λx=>xs[x]?) ∘ λx=>i+x)=λm=>xs[i+m]?:=rfl
 rw[e2]at this;rw[this]
theorem gj{t sl:Addr}{items:Array Value}{vl vu:Value}{lo hi:Option Int}{Q:Value->Shared->Prop}(ht:IsTup s.heap t items)(hs:s.heap.IsSliceOf sl vl vu .none)(pl:IsPart vl lo)(pu:IsPart vu hi)
  (hw:¬(bH items.size 0 lo=0/\bH items.size items.size hi=items.size))
  (h:Q (.ref s.heap.objs.size) {s with heap:=s.heap.push {cls:=.type "tuple",data:=.seq ((items.toList.drop (bH items.size 0 lo)).take (bH items.size items.size hi-bH items.size 0 lo)).toArray}})
  (nY:items.size<=sizeLine):wpAny (model prog w) A (getItem (.ref t) (.ref sl)) Q E s:=by
 have rh:sizeOk (.seq ((items.toList.drop (bH items.size 0 lo)).take (bH items.size items.size hi-bH items.size 0 lo)).toArray):=by show ((items.toList.drop (bH items.size 0 lo)).take (bH items.size items.size hi-bH items.size 0 lo)).toArray.size<=sizeLine;rw[QP,Se,R7,Q7];omega
 have hj:bH items.size items.size hi<=items.size:=EJ _ _ (QT _) hi;obtain⟨os,Do,uN,G1⟩:=id hs;have Lq:s.TypeIs (.ref sl) "slice":=⟨os,Do,uN⟩;unfold getItem
 try with_reducible refine To ?_
 first|refine QK (QN ?_)|skip
 refine QK (wpAny_sequenceKey ht.typeIs ‹_› ?_);refine QK (Tj (name:=Str.ofString "__getitem__") ht.typeIs SQ
  (Tl SQ ht.typeIs entry_tuple_getitem ?_ (args_tuple_getitem _ _)))
 show wpAny _ _ (Builtin.Tuple.tupleItemsOf (.ref t) >>=_) _ _ s;refine QK (tupleItemsOf_ ht ?_);refine QK (TF Lq ?_);rw[Ta ‹_›];refine QK (dJ hs pl pu ?_);have LH:¬((((bH items.size 0 lo:Nat):Int)==0&&(1:Int)==1&&(bH items.size items.size hi-bH items.size 0 lo)==items.size)=true):=by intro q;rw[QO,QO]at q;have q1:((bH items.size 0 lo:Nat):Int)=0:=Ra q.1.1;have q2:bH items.size items.size hi-bH items.size 0 lo=items.size:=Ra q.2;exact hw ⟨⋯,⋯⟩
 show wpAny _ _ (if (((bH items.size 0 lo:Nat):Int)==0&&(1:Int)==1&&(bH items.size items.size hi-bH items.size 0 lo)==items.size)=true then _ else _) _ _ s;rw[S9 LH,xt]
 first
  |exact QK (m:=Builtin.Tuple.tupleExact _) (Tq (QN ⟨_,rfl,QN h⟩) rh)
  |exact QK (m:=Builtin.Tuple.tupleExact _) (Tq (QK (QN (QN ⟨_,rfl,QN h⟩))) rh)
  |exact QK (QK (m:=Builtin.Tuple.tupleExact _) (Tq (QN (QN ⟨_,rfl,QN h⟩)) rh))
  |exact QK (QK (m:=Builtin.Tuple.tupleExact _) (Tq (QN ⟨_,rfl,QN h⟩) rh))
end
end HT
namespace L2
open PySem PySem.Spec PyProof.Rows
abbrev TO:=St->Hp->(Option Int->Hp->Prop)->Prop
def PO(X:Cx)(e:Option Expr)(t:TO):Prop:=
 ∀(pins:List (Addr×Obj))(s:Shared)(σ:St)(H:Hp)(Q:Option Int->Hp->Prop),Inv X pins σ H s->t σ H Q->
  wpAny (model X.prog X.w) X.A (evalPart e X.env) (λu s'=>∃o H',Inv X pins σ H' s'/\IsPart u o/\Q o H') X.xe s
def Bo:TO:=λ_ H Q=>Q none H
def IX(t:TE):TO:=λσ H Q=>t σ H λx H1=>∃i,x= .int i/\Q (some i) H1
section
variable{X:Cx}{e:Expr}{te:TE}{lo hi:Option Expr}{tl th:TO}{pos p2:Pos}
theorem sd:PO X none Bo:=by intro pins s σ H Q I h;rw[evalPart_none];exact QN ⟨none,H,I,.none,h⟩
theorem iX(h:PE X e te):PO X (some e) (IX te):=by
 intro pins s σ H Q I hw;rw[evalPart_some];refine ba (h pins s σ H _ I hw) λu s1⟨x,H1,I1,r1,q1⟩=>?_
 obtain⟨i,rfl,q⟩:=q1;obtain⟨t,rfl⟩:=r1;exact⟨some i,H1,I1,.int i t,q⟩
def Fx(X:Cx)(r:V->Option Int->Option Int->Hp->VK->Prop):Prop:=
 ∀(pins:List (Addr×Obj))(s:Shared)(σ:St)(H:Hp)(x:V)(v vl vu:Value)(lo hi:Option Int)(sl:Addr)(Q:VK),Inv X pins σ H s->RelV x v->s.heap.IsSliceOf sl vl vu .none->IsPart vl lo->IsPart vu hi->r x lo hi H Q->
  ∃T id,typeLookup (.type T) "__getitem__"=pure (some (.builtin id))/\s.TypeIs v T/\wpAny (model X.prog X.w) X.A (getItem v (.ref sl)) (EP X pins σ Q) X.xe s
def Qh(r:V->Option Int->Option Int->Hp->VK->Prop)(te:TE)(tl th:TO):TE:=λσ H Q=>te σ H λx H1=>tl σ H1 λl H2=>th σ H2 λu H3=>r x l u H3 Q
theorem jL{r:V->Option Int->Option Int->Hp->VK->Prop}(hr:Fx X r)(he:PE X e te)(hl:PO X lo tl)(hu:PO X hi th):PE X (.Subscript e (.Slice lo hi none p2) pos) (Qh r te tl th):=by
 intro pins s σ H Q I h;refine Subscript_ (ba (he pins s σ H _ I h) λv s1⟨x,H1,I1,r1,q1⟩=>?_);refine wpAny_Slice (ba (hl pins s1 σ H1 _ I1 q1) λvl s2⟨l,H2,I2,pl,q2⟩=>ba (hu pins s2 σ H2 _ I2 q2) λvu s3⟨u,H3,I3,pu,q3⟩=>?_);rw[evalPart_none];refine QN ?_;have I4:Inv X pins σ H3 {s3 with heap:=s3.heap.push {cls:=.type "slice",data:=.fields #[vl,vu,.none]}}:=I3.kept (t':=s3.toks) λb ob q=>QM _ q
 obtain⟨T,id,hT,ht,hg⟩:=hr pins {s3 with heap:=s3.heap.push {cls:=.type "slice",data:=.fields #[vl,vu,.none]}} σ H3 x v vl vu l u s3.heap.objs.size Q I4 r1 (Heap.IsSliceOf.new ..) pl pu q3;show wpAny (model X.prog X.w) X.A (subscriptTail e (.Slice lo hi none p2) v (.ref s3.heap.objs.size)) (EP X pins σ Q) X.xe {s3 with heap:=s3.heap.push {cls:=.type "slice",data:=.fields #[vl,vu,.none]}};exact tail_any (ops:=[.ref s3.heap.objs.size,v]) ht hT hg (by with_unfolding_all rfl)
def kb(xs:List V)(lo hi:Option Int):List V:=(xs.drop (HT.bH xs.length 0 lo)).take (HT.bH xs.length xs.length hi-HT.bH xs.length 0 lo)
theorem iq(xs:List V)(lo hi:Option Int):(kb xs lo hi).length<=xs.length:=by unfold kb;rw[Se,R7];omega
def Mw(K:PySem.W.Frag):V->Option Int->Option Int->Hp->VK->Prop:=λx lo hi H Q=>∃a xs,x= .ref a/\du K H a xs/\
 ¬(HT.bH xs.length 0 lo=0/\HT.bH xs.length xs.length hi=xs.length)/\∀p,H p=none->Q (.ref p) (upd H p (.tup (kb xs lo hi)))
theorem EY:Fx X (Mw X.K):=by
 intro pins s σ H x v vl vu lo hi sl Q I rx hs pl pu h;obtain⟨a,xs,rfl,hx,hw,q⟩:=h;cases rx;obtain⟨its,r,ht,hz⟩:=I.tuple hx;have hlen:its.toArray.size=xs.length:=by rw[QP];exact r.length.symm
 refine⟨"tuple",_,SQ.lookup,ht.typeIs,?_⟩;refine HT.gj ht hs pl pu (by rw[hlen];exact hw) ?_ (by rw[hlen];exact hz);rw[hlen];refine⟨.ref s.heap.objs.size,_,I.laid (t':=s.toks) (o:=.tup (kb xs lo hi)) (λb ob q=>QM _ q) (QT _) ?_,rfl,q _ (I.hok.fresh (QT _))⟩;exact⟨QY (iq xs lo hi) hz,_,(r.drop (HT.bH xs.length 0 lo)).take (HT.bH xs.length xs.length hi-HT.bH xs.length 0 lo),m9.new _ _⟩
def Ig(K:PySem.W.Frag):R2:=λx y H Q=>∃a b xs ys,x= .ref a/\y= .ref b/\du K H a xs/\du K H b ys/\xs≠[]/\xs.length+ys.length<=sizeLine/\
 (ys=[]->Q (.ref a) H)/\(ys≠[]->∀p,H p=none->Q (.ref p) (upd H p (.tup (xs++ys))))
theorem au.l9{xs:List V}{us:List Value}(r:au xs us):us=[]↔xs=[]:=by
 cases r with
 |nil=>simp
 |cons _ _=>simp
theorem AB:gT X (binaryOp .Add) (Ig X.K):=by intro pins s σ H x y v u Q I rx ry h;obtain⟨a,b,xs,ys,rfl,rfl,ha,hb,hx,hz,q1,q2⟩:=h;cases rx;cases ry;obtain⟨its,r1,p1,_⟩:=I.tuple ha;obtain⟨bw,r2,p2,_⟩:=I.tuple hb;refine HT.zy p1 p2 (λz=>hx (r1.l9.mp z)) (λz=>⟨.ref a,H,I,rfl,q1 (r2.l9.mp z)⟩) (λz=>?_) (by rw[<-r1.length,<-r2.length];exact hz);refine⟨.ref s.heap.objs.size,_,I.laid (t':=s.toks) (o:=.tup (xs++ys)) (λb ob q=>QM _ q) (QT _) ?_,rfl,q2 (λw=>z (r2.l9.mpr w)) _ (I.hok.fresh (QT _))⟩;exact⟨by rw[Q3];exact hz,_,r1.append r2,m9.new _ _⟩
end
end L2
namespace L2
open PySem PySem.Spec PyProof.Rows
def kH(n:Nat)(i:Int):Option Nat:=if 0<=i then(if i<n then some i.toNat else none) else if -(n:Int)<=i then some (i+n).toNat else none
def ka{α:Type}(xs:List α)(i:Int):Option α:=(kH xs.length i).bind λj=>xs[j]?
theorem rA{n:Nat}{i:Int}{j:Nat}(h:kH n i=some j):seqIndex? i n=some j/\j<n/\ -(n:Int)<=i/\i<n:=by
 unfold kH at h;by_cases h0:0<=i
 ·rw[Ta h0]at h;by_cases h1:i<n
  ·rw[Ta h1]at h;have e:i.toNat=j:=SM h;exact⟨by rw[seqIndex_of h0 h1,e],⋯,⋯,h1⟩
  ·rw[S9 h1]at h;cases h
 ·rw[S9 h0]at h;by_cases h1: -(n:Int)<=i
  ·rw[Ta h1]at h;have e:(i+n).toNat=j:=SM h;exact⟨by rw[seqIndex_neg ⋯ h1,e],⋯,h1,⋯⟩
  ·rw[S9 h1]at h;cases h
theorem lj{α:Type}{xs:List α}{i:Int}{v:α}(h:ka xs i=some v):∃j,seqIndex? i xs.length=some j/\xs[j]?=some v/\j<xs.length/\ -(xs.length:Int)<=i/\i<xs.length:=by
 unfold ka at h;cases e:kH xs.length i with
 |none=>rw[e]at h;cases h
 |some j=>rw[e]at h;obtain⟨h1,h2,h3,h4⟩:=rA e;exact⟨j,h1,h,h2,h3,h4⟩
theorem iH{α:Type}{xs:List α}{j:Nat}{v:α}(h:xs[j]?=some v):ka xs (j:Int)=some v:=by
 have hj:j<xs.length:=(QR.mp h).1;have e:kH xs.length (j:Int)=some j:=by unfold kH;rw[Ta ⋯,Ta ⋯];simp
 unfold ka;rw[e];exact h
theorem nk{α:Type}(xs:List α)(v:α):ka (xs++[v]) (-1)=some v:=by
 have hl:(xs++[v]).length=xs.length+1:=by simp
 have e:kH (xs++[v]).length (-1)=some xs.length:=by unfold kH;rw[hl,S9 ‹_›,Ta ⋯];congr 1;omega
 unfold ka;rw[e];show (xs++[v])[xs.length]?=some v;simp
def lb(b:Expr):Prop:=∀o i,subscripted b false o i=operate [o,i] (getItem o i)
def FS(X:Cx)(r:R2):Prop:=
 ∀(value slice:Expr)(pins:List (Addr×Obj))(s:Shared)(σ:St)(H:Hp)(x y:V)(v u:Value)(Q:VK),Inv X pins σ H s->RelV x v->RelV y u->r x y H Q->
  subscripted slice false v u=operate [v,u] (getItem v u)->wpAny (model X.prog X.w) X.A (subscriptTail value slice v u) (EP X pins σ Q) X.xe s
def M7(X:Cx)(id:String)(r:V->List V->Hp->VK->Prop):Prop:=
 ∀(pins:List (Addr×Obj))(s:Shared)(σ:St)(H:Hp)(x:V)(xs:List V)(v:Value)(us:List Value)(Q:VK),Inv X pins σ H s->RelV x v->au xs us->r x xs H Q->
  wpAny (model X.prog X.w) X.A (call (.builtin id) (v::us)) (EP X pins σ Q) X.xe s
section
variable{X:Cx}{a b:Expr}{ta tb:TE}{pos:Pos}
theorem HY{r:R2}(hr:FS X r)(ha:PE X a ta)(hb:PE X b tb)(hs:lb b):PE X (.Subscript a b pos) (Ka r ta tb):=by intro pins s σ H Q I h;exact Subscript_ (CJ ha hb I h λv u s2 x y H2 I2 rx ry q=>hr a b pins s2 σ H2 x y v u Q I2 rx ry q (hs _ _))
def Mq(K:PySem.W.Frag):R2:=λx y H Q=>∃p xs i v,x= .ref p/\y= .int i/\cZ K H p xs/\ka xs i=some v/\Q v H
def Ms(K:PySem.W.Frag):R2:=λx y H Q=>∃p xs i v,x= .ref p/\y= .int i/\du K H p xs/\ka xs i=some v/\Q v H
def Mr:R2:=λx y H Q=>∃z i c,x= .str z/\y= .int i/\z.length<=sizeLine/\ka z.cps.toList i=some c/\Q (.str ⟨#[c]⟩) H
theorem rD:FS X (Mq X.K):=by
 intro value slice pins s σ H x y v u Q I rx ry h hs;obtain⟨p,xs,i,z,rfl,rfl,hq,he,q⟩:=h;cases rx;obtain⟨t,rfl⟩:=ry;obtain⟨its,r,pl,hz⟩:=I.list hq;obtain⟨j,h1,h2,h3,h4,h5⟩:=lj he;obtain⟨w,ew,MB⟩:=r.get h2;have hl:=r.length;have hn:=g0;have fin:EP X pins σ Q w s:=⟨z,H,I,MB,q⟩;by_cases h0:0<=i
 ·have hj:i.toNat=j:=by rw[seqIndex_of h0 h5]at h1;exact SM h1
  exact item_listR pl.isList h0 ⋯ (by rw[hj];simpa using ew) fin hs
 ·have hj:(i+(its.toArray.size:Int)).toNat=j:=by rw[seqIndex_neg ⋯ h4]at h1;rw[QP,<-hl];exact SM h1
  exact subscriptTail_builtinR (x:=w) pl.isList.typeIs slot_list_getitem.lookup
   (wpAny_getItem_list_neg (Q:=λr s'=>r=w/\EP X pins σ Q r s') pl.isList ⋯ (by rw[QP]<;>omega) ⋯ (by rw[hj];simpa using ew) ⟨rfl,fin⟩) hs
theorem DE:FS X (Ms X.K):=by
 intro value slice pins s σ H x y v u Q I rx ry h hs;obtain⟨p,xs,i,z,rfl,rfl,hq,he,q⟩:=h;cases rx;obtain⟨t,rfl⟩:=ry;obtain⟨its,r,pl,hz⟩:=I.tuple hq;obtain⟨j,h1,h2,h3,h4,h5⟩:=lj he;obtain⟨w,ew,MB⟩:=r.get h2;have hl:=r.length;have hn:=g0;have fin:EP X pins σ Q w s:=⟨z,H,I,MB,q⟩;exact subscriptTail_builtinR (x:=w) pl.typeIs slot_tuple_getitem.lookup
  (getItem_tuple (j:=j) (Q:=λr s'=>r=w/\EP X pins σ Q r s') pl ⋯ ⋯ (by rw[QP,<-hl];exact h1) ‹ew› ⟨rfl,fin⟩) hs
theorem DD:FS X Mr:=by
 intro value slice pins s σ H x y v u Q I rx ry h hs;obtain⟨z,i,c,rfl,rfl,hz,he,q⟩:=h;obtain⟨t,rfl⟩:=rx;obtain⟨t',rfl⟩:=ry;obtain⟨j,h1,h2,h3,h4,h5⟩:=lj he;have hl:z.cps.toList.length=z.length:=by simp[Str.length]
 rw[hl]at h1 h4 h5;have hn:=g0;exact tail_any (typeIs_str s z t) slot_str_getitem.lookup (getItem_str (c:=c) (by
  have e1:decide (i < -(2^63:Int))=false:=Rc ⋯;have e2:decide (i>=2^63)=false:=Rc ⋯;rw[e1,e2,Bool.or_false]) (by rw[h1];simpa using h2) ⟨.str ⟨#[c]⟩,H,I.tok _,⟨_,rfl⟩,q⟩) hs
theorem pY(its:List Value)(n j:Nat)(u:Value):Obj.mapSeq (·.setIfInBounds j u) {cls:=.type "list",data:=.seq its.toArray n}={cls:=.type "list",data:=.seq (its.set j u).toArray n}:=by simp[Obj.mapSeq]
theorem Inv.lst{pins:List (Addr×Obj)}{σ:St}{H:Hp}{s:Shared}{p:Addr}{xs:List V}(I:Inv X pins σ H s)(h:H p=some (.lst xs)):
  ∃(its:List Value)(n:Nat),au xs its/\s.heap.get? p=some {cls:=.type "list",data:=.seq its.toArray n}/\xs.length<=sizeLine:=by
 obtain⟨z,its,n,r,e⟩:=I.hok p _ h;exact⟨its,n,r,e,z⟩
theorem Inv.DM{pins:List (Addr×Obj)}{σ:St}{H:Hp}{s:Shared}{p:Addr}{xs ys:List V}{its its':List Value}{n n':Nat}{f:Obj->Obj}(I:Inv X pins σ H s)(h:H p=some (.lst xs))
  (ho:s.heap.get? p=some {cls:=.type "list",data:=.seq its.toArray n}) (hf:f {cls:=.type "list",data:=.seq its.toArray n}={cls:=.type "list",data:=.seq its'.toArray n'}) (r:au ys its') (hz:ys.length<=sizeLine) (t:Nat):
  Inv X pins σ (upd H p (.lst ys)) {s with heap:=s.heap.update p f,toks:=t}:=by
 have e:(s.heap.update p f).get? p=some {cls:=.type "list",data:=.seq its'.toArray n'}:=by rw[Heap.get?_update_self f ho (by rw[hf]<;>rfl),hf]
 refine I.write (x:=p) (e:=p) (by rw[h];trivial) (.inl rfl) (λb u hb q=>(Rg _ _ (SL hb)).trans q) ⟨_,e⟩ ?_;exact⟨hz,its',n',r,e⟩
def B8:V->V->V->Hp->(Hp->Prop)->Prop:=λo i v H Q=>∃p xs k j,o= .ref p/\i= .int k/\H p=some (.lst xs)/\kH xs.length k=some j/\Q (upd H p (.lst (xs.set j v)))
theorem set_list:FZ X B8:=by
 intro pins s σ H o i v ov iv u Q I ro ri rv h;obtain⟨p,xs,k,j,rfl,rfl,hp,hj,q⟩:=h;cases ro;obtain⟨t,rfl⟩:=ri;obtain⟨its,n,r,ho,hz⟩:=I.lst hp;obtain⟨h1,h2,h3,h4⟩:=rA hj;have hl:=r.length;have hn:=g0;have I':Inv X pins σ (upd H p (.lst (xs.set j v))) {s with heap:=s.heap.update p (Obj.mapSeq (·.setIfInBounds j u))}:=
  I.DM hp ho (pY its n j u) (r.set rv j) (by rw[Sb];exact hz) s.toks
 by_cases h0:0<=k
 ·have hk:k.toNat=j:=by rw[seqIndex_of h0 h4]at h1;exact SM h1
  exact PySem.W.ki_setAt ho h0 ⋯ (by rw[QP,<-hl];exact h4) (by rw[hk];exact⟨_,I',q⟩)
 ·have hk:(k+(its.toArray.size:Int)).toNat=j:=by rw[seqIndex_neg ⋯ h3]at h1;rw[QP,<-hl];exact SM h1
  exact PySem.W.ki_setBack ho ⋯ (by rw[QP,<-hl];exact h3) ⋯ (by rw[hk];exact⟨_,I',q⟩)
theorem mJ(lo hi:Option Int)(n:Nat):(sliceBounds lo hi none n).1=((HT.bH n 0 lo:Nat):Int)/\(sliceBounds lo hi none n).2.1=((HT.bH n n hi:Nat):Int)/\(sliceBounds lo hi none n).2.2=1:=by
 refine⟨?_,?_,rfl⟩
 ·cases lo with
  |none=>simp[sliceBounds,HT.bH]
  |some i=>
   simp only[sliceBounds,HT.bH,Option.getD_none,show (1:Int)>0 by decide,Tb];by_cases h:i<0
   ·simp only[h,Tb]<;>omega
   ·simp only[h,S8]<;>omega
 ·cases hi with
  |none=>simp[sliceBounds,HT.bH]
  |some i=>
   simp only[sliceBounds,HT.bH,Option.getD_none,show (1:Int)>0 by decide,Tb];by_cases h:i<0
   ·simp only[h,Tb]<;>omega
   ·simp only[h,S8]<;>omega
theorem kh(its:List Value)(lo hi:Option Int):slicePick its.toArray lo hi none=((its.drop (HT.bH its.length 0 lo)).take (HT.bH its.length its.length hi-HT.bH its.length 0 lo)).toArray:=by obtain⟨h1,h2,h3⟩:=mJ lo hi its.toArray.size;unfold slicePick;rw[h1,h2,h3];simp only[sliceRange_one,pick_run,QP]<;>rfl
def Mu(K:PySem.W.Frag):V->Option Int->Option Int->Hp->VK->Prop:=λx lo hi H Q=>∃a xs,x= .ref a/\cZ K H a xs/\∀p,H p=none->Q (.ref p) (upd H p (.lst (kb xs lo hi)))
theorem sG:Fx X (Mu X.K):=by intro pins s σ H x v vl vu lo hi sl Q I rx hs pl pu h;obtain⟨a,xs,rfl,hx,q⟩:=h;cases rx;obtain⟨its,r,ht,hz⟩:=I.list hx;have hlen:=r.length;refine⟨"list",_,slot_list_getitem.lookup,ht.isList.typeIs,?_⟩;refine wpAny_getItem_list_slice ht.isList hs pl pu .none ∅ ?_ (by rw[QP]<;>omega);rw[kh,<-hlen];refine⟨.ref s.heap.objs.size,_,I.laid (t':=s.toks) (o:=.lst (kb xs lo hi)) (λb ob q=>QM _ q) (QT _) ?_,rfl,q _ (I.hok.fresh (QT _))⟩;exact⟨QY (iq xs lo hi) hz,_,0,(r.drop (HT.bH xs.length 0 lo)).take (HT.bH xs.length xs.length hi-HT.bH xs.length 0 lo),QV _ rfl⟩
theorem dU:cT X (.type "list") (λxs H Q=>∃p ys,xs=[.ref p]/\(cZ X.K H p ys\/du X.K H p ys)/\∀l,H l=none->Q (.ref l) (upd H l (.lst ys))):=by
 intro pins s σ H xs us Q I r h;obtain⟨p,ys,rfl,hq,q⟩:=h;obtain⟨u,rfl,rx⟩:=vals1 r;cases rx;have fin:∀(its:List Value),au ys its->ys.length<=sizeLine->∀(h':Heap)(c':Nat),(∀b o',s.heap.get? b=some o'->h'.get? b=some o')->
   h'.get? s.heap.objs.size=some {cls:=.type "list",dict:=none,data:=.seq its.toArray c',slots:=#[]}->EP X pins σ Q (.ref s.heap.objs.size) {s with heap:=h'}:=λits r' hz h' c' kp e=>
  ⟨.ref s.heap.objs.size,_,I.laid (t':=s.toks) kp (QT _) (show bF X.prog X.w _ h' _ (.lst ys) from⟨hz,its,c',r',e⟩),rfl,q _ (I.hok.fresh (QT _))⟩
 rcases hq with hq|hq
 ·obtain⟨its,r',pl,hz⟩:=I.list hq;have hlen:=r'.length;obtain⟨o,ho,hc,n,hd⟩:=pl.isList;exact call_list_seq p (.inl rfl) ho hc hd (λh' c' kp e=>fin its r' hz h' c' kp e) (by simp only[QP]<;>omega)
 ·obtain⟨its,r',pl,hz⟩:=I.tuple hq;have hlen:=r'.length;obtain⟨o,ho,hc,n,hd⟩:=pl;exact call_list_seq p (.inr rfl) ho hc hd (λh' c' kp e=>fin its r' hz h' c' kp e) (by simp only[QP]<;>omega)
theorem fz:cT X (.type "tuple") (λxs H Q=>∃p ys,xs=[.ref p]/\((cZ X.K H p ys/\∀l,H l=none->Q (.ref l) (upd H l (.tup ys)))\/(du X.K H p ys/\Q (.ref p) H))):=by
 intro pins s σ H xs us Q I r h;obtain⟨p,ys,rfl,h⟩:=h;obtain⟨u,rfl,rx⟩:=vals1 r;cases rx;rcases h with ⟨hq,q⟩|⟨hq,q⟩
 ·obtain⟨its,r',pl,hz⟩:=I.list hq;have hlen:=r'.length;refine call_tuple_list pl.isList (λh' kp=>?_) (by simp only[QP]<;>omega);have I1:Inv X pins σ H {s with heap:=h'}:=I.kept (t':=s.toks) kp;have I2:Inv X pins σ (upd H h'.objs.size (.tup ys)) {s with heap:=h'.push {cls:=.type "tuple",data:=.seq its.toArray}}:=
   I1.laid (t':=s.toks) (λb o e=>QM _ e) (QT _) (show bF X.prog X.w _ _ _ (.tup ys) from⟨hz,its,r',m9.new _ _⟩)
  exact⟨.ref h'.objs.size,_,I2,rfl,q _ (I1.hok.fresh (QT _))⟩
 ·obtain⟨its,r',pl,hz⟩:=I.tuple hq;exact call_tuple_same pl ⟨.ref p,H,I,rfl,q⟩
def MZ(K:PySem.W.Frag)(T:String)(x:V)(H:Hp):Prop:=match x with
 |.str _=>T="str"
 |.int _=>T="int"
 |.ref p=>(T="list"/\∃xs,cZ K H p xs)\/(T="tuple"/\∃o,K.lookup p=some o/\o.cls= .type "tuple"/\o.dict=none)\/
   (T="dict"/\((∃cH,H p=some (.dK cH))\/∃cH,H p=some (.dT cH)))\/(T="set"/\∃S n,H p=some (.set S n))
 |_=>False
theorem yA{pins:List (Addr×Obj)}{σ:St}{H:Hp}{s:Shared}{T:String}{x:V}{v:Value}(I:Inv X pins σ H s)(r:RelV x v)(ty:MZ X.K T x H):
  s.TypeIs v T/\∀a,v= .ref a->∃ob,s.heap.get? a=some ob/\ob.dict=none:=by
 cases x with
 |str z=>obtain⟨t,rfl⟩:=r;cases (show T="str" from ty);exact⟨typeIs_str s z t,λ_ e=>nomatch e⟩
 |int i=>obtain⟨t,rfl⟩:=r;cases (show T="int" from ty);exact⟨typeIs_int s i t,λ_ e=>nomatch e⟩
 |ref p=>
  cases r;rcases ty with ⟨rfl,xs,hq⟩|⟨rfl,o,hk,hc,hd⟩|⟨rfl,hk⟩|⟨rfl,S,n,hk⟩
  ·obtain⟨its,_,pl,_⟩:=I.list hq;refine⟨pl.isList.typeIs,λa e=>?_⟩;cases e;obtain⟨o,n,e,c,hd,_⟩:=pl;exact⟨o,e,hd⟩
  ·refine⟨⟨o,I.iS p o hk,hc⟩,λa e=>?_⟩;cases e;exact⟨o,I.iS _ o hk,hd⟩
  ·have z:∃o,s.heap.get? p=some o/\o.ExactDict:=by
    rcases hk with ⟨cH,hk⟩|⟨cH,hk⟩
    ·obtain⟨_,_,_,_,o,_,_,e,ex,_⟩:=I.hok p _ hk;exact⟨o,e,ex⟩
    ·obtain⟨_,_,_,_,o,_,_,e,ex,_⟩:=I.hok p _ hk;exact⟨o,e,ex⟩
   obtain⟨o,e,ex⟩:=z;refine⟨⟨o,e,ex.1⟩,λa e2=>?_⟩;cases e2;exact⟨o,e,ex.2.1⟩
  ·obtain⟨o,_,_,_,e,ex,_⟩:=I.hok p _ hk;refine⟨⟨o,e,ex.1⟩,λa e2=>?_⟩;cases e2;exact⟨o,e,ex.2.1⟩
 |_=>exact False.elim ty
def IR(K:PySem.W.Frag)(T:String)(r:V->List V->Hp->VK->Prop)(to:TE):TE:=λσ H Q=>to σ H λx H1=>MZ K T x H1/\r x [] H1 Q
def Oc(K:PySem.W.Frag)(T:String)(r:V->List V->Hp->VK->Prop)(to:TE)(t:TA):TE:=λσ H Q=>to σ H λx H1=>MZ K T x H1/\t σ H1 λxs H2=>r x xs H2 Q
variable{o e:Expr}{es:List Expr}{to:TE}{t:TA}{name:Str}{apos dz:Pos}{T id:String}{r:V->List V->Hp->VK->Prop}
theorem Ee(pa:PlainAttrs T)(slot:Slot T name id)(LP:typeOf (.builtin id)=pure (.type "method_descriptor"))(hm:M7 X id r)(ho:PE X o to)
  (nT:attributeBase o name X.env (eval o X.env)=eval o X.env:=by rfl) (wg:(apos.endLine==dz.line)=true:=by rfl):PE X (.Call (.Attribute o name apos) [] [] dz) (IR X.K T r to):=by
 intro pins s σ H Q I h;refine wpAny_Call_method0_late nT wg (ba (ho pins s σ H _ I h) λv s1⟨x,H1,I1,r1,ty,q1⟩=>?_);obtain⟨h1,h2⟩:=yA I1 r1 ty;exact⟨T,id,pa,slot,LP,h1,h2,Calls.callWith_builtin rfl (PySem.evalArgs_none (hm pins s1 σ H1 x [] v [] Q I1 r1 .nil q1))⟩
theorem HU(pa:PlainAttrs T)(slot:Slot T name id)(LP:typeOf (.builtin id)=pure (.type "method_descriptor"))(hm:M7 X id r)(ho:PE X o to)(ha:PA X (e::es) t)
  (nT:attributeBase o name X.env (eval o X.env)=eval o X.env:=by rfl)
  (LA:((backTo dz (starEach (e::es) X.env)).all (λx=> !x.1)&&(backToKw dz (keywordEach [] X.env)).all (λx=>x.1.isSome)
   &&decide ((e::es).length+([]:List Keyword).length+(if ([]:List Keyword).isEmpty then 0 else 1)<30))=true:=by rfl)
  (wg:(apos.endLine==dz.line)=true:=by rfl) (hs:starEach (e::es) X.env=(false,eval e X.env)::starEach es X.env:=by rfl) (Dq:(backTo dz (starEach es X.env)).any (·.1)=false:=by rfl):
  PE X (.Call (.Attribute o name apos) (e::es) [] dz) (Oc X.K T r to t):=by
 intro pins s σ H Q I h;refine wpAny_Call_method_late nT LA wg rfl (ba (ho pins s σ H _ I h) λv s1⟨x,H1,I1,r1,ty,q1⟩=>?_);obtain⟨h1,h2⟩:=yA I1 r1 ty;refine⟨T,id,pa,slot,LP,h1,h2,?_⟩;have hA:=ha dz pins s1 σ H1 _ I1 q1;rw[hs]at hA ⊢;refine Calls.callWith_builtin (by show (false||(backTo dz (starEach es X.env)).any (·.1))=false;rw[Dq]<;>rfl) (Calls.evalArgs_plain ?_);exact ba hA λus s2⟨vs,H2,I2,r2,q2⟩=>hm pins s2 σ H2 x vs v us Q I2 r1 r2 q2
end
end L2
namespace L2
open PySem PySem.Spec PyProof.Rows
def Jx(X:Cx)(id:String)(r:V->List V->Hp->VK->Prop):Prop:=
 ∀(pins:List (Addr×Obj))(s:Shared)(σ:St)(H:Hp)(x:V)(xs:List V)(v:Value)(us:List Value)(Q:VK),Inv X pins σ H s->RelV x v->au xs us->r x xs H Q->
  wpAny (model X.prog X.w) X.A (call (.builtin id) (v::us)) (EP X pins σ Q) X.xe s
theorem au.cons_inv{x:V}{xs:List V}{us:List Value}(h:au (x::xs) us):∃u ut,us=u::ut/\RelV x u/\au xs ut:=by
 cases h with
 |cons r t=>exact⟨_,_,rfl,r,t⟩
theorem au.one{x:V}{us:List Value}(h:au [x] us):∃u,us=[u]/\RelV x u:=
 have ⟨u,ut,e,r,t⟩:=h.cons_inv
 ⟨u,by cases t;exact e,r⟩
theorem au.two{x y:V}{us:List Value}(h:au [x,y] us):∃u v,us=[u,v]/\RelV x u/\RelV y v:=
 have ⟨u,ut,e,r,t⟩:=h.cons_inv;have ⟨v,e2,q⟩:=t.one
 ⟨u,v,e2▸e,r,q⟩
theorem au.zero:∀{us:List Value},au [] us->us=[]
 |_,.nil=>rfl
theorem au.dropLast{xs:List V}{us:List Value}(h:au xs us):au xs.dropLast us.dropLast:=by
 induction h with
 |nil=>exact .nil
 |cons r t ih=>
  cases t with
  |nil=>exact .nil
  |cons q t'=>exact .cons r ih
theorem pD{α:Type}(l:List α):l.eraseIdx (l.length-1)=l.dropLast:=by
 induction l with
 |nil=>rfl
 |cons a r ih=>
  cases r with
  |nil=>rfl
  |cons b r=>
   have e:(a::b::r).length-1=((b::r).length-1)+1:=by have h1:(a::b::r).length=r.length+2:=rfl;have h2:(b::r).length=r.length+1:=rfl;omega
   rw[e,List.eraseIdx_cons_succ,ih]
   all_goals rfl
section
variable{X:Cx}{pins:List (Addr×Obj)}{σ:St}{H:Hp}{s:Shared}{l:Addr}{xs ys:List V}
theorem Inv.An{its its':List Value}{n:Nat}{f:Array Value->Array Value}{t':Nat}(I:Inv X pins σ H s)(hH:H l=some (.lst xs))
  (e:s.heap.get? l=some {cls:=.type "list",data:=.seq its.toArray n}) (hf:f its.toArray=its'.toArray) (hv:au ys its') (hz:ys.length<=sizeLine):
  Inv X pins σ (upd H l (.lst ys)) {s with heap:=s.heap.update l (Obj.mapSeq f),toks:=t'}:=by
 have q:=PySem.IsL.update e f;rw[hf]at q;refine I.write (x:=l) (e:=l) (by rw[hH];exact trivial) (.inl rfl) (λb' u hb hu=>(Rg s.heap (Obj.mapSeq f) (SL hb)).trans hu) ⟨_,q⟩ ?_;exact⟨hz,its',_,hv,q⟩
theorem Inv.Hx{its:List Value}{t':Nat}(I:Inv X pins σ H s)(hv:au ys its)(hz:ys.length<=sizeLine):
  Inv X pins σ (upd H s.heap.objs.size (.lst ys)) {s with heap:=s.heap.push {cls:=.type "list",data:=.seq its.toArray},toks:=t'}:=
 I.laid (λ_ _ q=>QM _ q) (QT _) ⟨hz,its,0,hv,QV _ rfl⟩
theorem Inv.fresh(I:Inv X pins σ H s):H s.heap.objs.size=none:=I.hok.fresh (QT _)
theorem Inv.pX(I:Inv X pins σ H s)(hH:H l=some (.lst xs)):xs.length<=sizeLine/\∃(its:List Value)(n:Nat),au xs its/\xs.length=its.length/\s.heap.get? l=some {cls:=.type "list",data:=.seq its.toArray n}:=by obtain⟨z,its,n,r,e⟩:=I.hok l _ hH;exact⟨z,its,n,r,r.length,e⟩
theorem wO{n:Nat}(h:n<=sizeLine):Builtin.List.listTooLong n=false:=by unfold Builtin.List.listTooLong;exact Rc ⋯
end
section
variable{X:Cx}
def sv:V->List V->Hp->VK->Prop:=λx vs H Q=>∃l xs y,x= .ref l/\vs=[y]/\H l=some (.lst xs)/\xs.length<sizeLine/\Q .bM (upd H l (.lst (xs++[y])))
theorem kL:Jx X "list.append" sv:=by intro pins s σ H x vs v us Q I rx rv h;obtain⟨l,xs,y,rfl,rfl,hH,hz,q⟩:=h;cases rx;obtain⟨u,rfl,ru⟩:=rv.one;obtain⟨z,its,n,r,hl,e⟩:=I.pX hH;refine S5 F.slot_list_append ⟨_,e,rfl⟩ F.entry_list_append (F.args_list_append_2 _ _) (PySem.list_append l its.toArray n u (by rw[QP];omega)) ⟨e,?_⟩;refine⟨.bM,_,I.An (its':=its++[u]) hH e ∅ (r.append (.cons ru .nil)) ?_,rfl,q⟩;rw[Q3,Sd];omega
def A7:V->List V->Hp->VK->Prop:=λx vs H Q=>∃l b xs zs,x= .ref l/\vs=[.ref b]/\H l=some (.lst xs)/\H b=some (.lst zs)/\xs.length+zs.length<=sizeLine/\Q .bM (upd H l (.lst (xs++zs)))
theorem FM:Jx X "list.extend" A7:=by
 intro pins s σ H x vs v us Q I rx rv h;obtain⟨l,b,xs,zs,rfl,rfl,hH,hB,hz,q⟩:=h;cases rx;obtain⟨u,rfl,ru⟩:=rv.one;cases ru;obtain⟨z,its,n,r,hl,e⟩:=I.pX hH;obtain⟨z2,bw,n2,r2,fE,e2⟩:=I.pX hB;have nY:its.toArray.size+bw.toArray.size<=sizeLine:=by rw[QP,QP];omega
 have G4:¬(!its.toArray.isEmpty&&Builtin.List.listTooLong (its.toArray.size+bw.toArray.size))=true:=by rw[wO nY,RC];exact RG
 refine S5 F.slot_list_extend ⟨_,e,rfl⟩ F.entry_list_extend (F.args_list_extend_2 _ _)
  (AutoSeq1.list_extend_list_list_0 l its.toArray n b bw.toArray n2 G4 (by rw[QP];omega) ⋯) ⟨e,e2,?_⟩
 refine⟨.bM,_,I.An (its':=its++bw) hH e ∅ (r.append r2) ?_,rfl,q⟩;rw[Q3];omega
def Mt:V->List V->Hp->VK->Prop:=λx vs H Q=>∃l xs y,x= .ref l/\vs=[]/\H l=some (.lst xs)/\xs[xs.length-1]?=some y/\Q y (upd H l (.lst xs.dropLast))
theorem Mc:Jx X "list.pop" Mt:=by
 intro pins s σ H x vs v us Q I rx rv h;obtain⟨l,xs,y,rfl,rfl,hH,hy,q⟩:=h;cases rx;have LS:=rv.zero;subst LS;obtain⟨z,its,n,r,hl,e⟩:=I.pX hH;obtain⟨u,hu,ru⟩:=r.get hy;have PV:its.toArray[its.toArray.size-1]?=some u:=by show its.toArray[its.length-1]?=some u;rw[<-Array.getElem?_toList,<-hl];exact hu
 refine S5 F.slot_list_pop ⟨_,e,rfl⟩ F.entry_list_pop (F.args_list_pop_1 _) (MeetsSeq.list_pop_last l its.toArray n u PV (by rw[QP];omega)) ⟨e,?_⟩;refine⟨y,_,I.An (its':=its.dropLast) hH e ?_ r.dropLast ?_,ru,q⟩
 ·show its.toArray.eraseIdxIfInBounds (its.toArray.size-1)=its.dropLast.toArray;rw[QP,List.eraseIdxIfInBounds_toArray,pD]
 ·rw[List.length_dropLast];omega
def xU:V->List V->Hp->VK->Prop:=λx vs H Q=>∃l xs,x= .ref l/\vs=[]/\H l=some (.lst xs)/\Q .bM (upd H l (.lst []))
theorem wJ:Jx X "list.clear" xU:=by intro pins s σ H x vs v us Q I rx rv h;obtain⟨l,xs,rfl,rfl,hH,q⟩:=h;cases rx;have LS:=rv.zero;subst LS;obtain⟨z,its,n,r,hl,e⟩:=I.pX hH;refine S5 F.slot_list_clear ⟨_,e,rfl⟩ F.entry_list_clear (F.args_list_clear_1 _) (AutoSeq1.list_clear_list_0 l its.toArray n (by rw[QP];omega)) ⟨e,?_⟩;exact⟨.bM,_,I.An (its':=[]) (ys:=[]) hH e rfl .nil (SJ _),rfl,q⟩
def Mo:R2:=λx y H Q=>∃l b xs zs,x= .ref l/\y= .ref b/\H l=some (.lst xs)/\H b=some (.lst zs)/\xs.length+zs.length<=sizeLine/\∀p,H p=none->Q (.ref p) (upd H p (.lst (xs++zs)))
theorem d5:gT X (binaryOp .Add) Mo:=by
 intro pins s σ H x y v u Q I rx ry h;obtain⟨l,b,xs,zs,rfl,rfl,hH,hB,hz,q⟩:=h;cases rx;cases ry;obtain⟨z,its,n,r,hl,e⟩:=I.pX hH;obtain⟨z2,bw,n2,r2,fE,e2⟩:=I.pX hB;refine PySem.P.add_list e e2 ?_ (by rw[QP,QP];omega);have ea:its.toArray++bw.toArray=(its++bw).toArray:=by simp
 rw[ea];exact⟨.ref _,_,I.Hx (t':=s.toks) (r.append r2) (by rw[Q3];omega),rfl,q _ I.fresh⟩
end
end L2
namespace Att
open PySem PySem.W PySem.Calls PyProof.Rows
theorem iD{P:Params}{h:Heap}:∀(ns:List Int)(vs:List Value),WellAll P h vs (ns.map WData.int)->IntsAre vs ns:=by
 intro ns
 induction ns with
 |nil=>intro vs w;rw[Sg]at w;cases w;exact .nil
 |cons n ns ih=>
  intro vs w;rw[Ry]at w;cases w with
  |cons a b=>cases a;exact .cons _ _ (ih _ b)
theorem uv{l:OpenLaw}{n:Nat}(hn:l.most=some n){P:Params}{h:Heap}{args:List WData}{vals:List Value}
  (Ab:l.row.toRowW.claim.pre args=true) (J1:WellAll P h vals args):
  ∃a vs ns,vals=[Value.ref a]/\args=[WData.list (ns.map WData.int)]/\h.get? a=some {cls:=.type "list",data:=.seq vs.toArray}/\IntsAre vs ns/\ns.length<=n:=by
 have PF:WShape.hasAll [] args [.list .int]=true:=(pre_splitW Ab).1;have hc:l.pre.holds [] {args:=args}=true:=(pre_splitW Ab).2;obtain⟨d,r,rfl,h1,h2⟩:=hasAllW_cons PF;obtain rfl:=hasAllW_nil h2;obtain⟨xs,rfl,h3⟩:=hasW_list h1;obtain⟨ns,rfl⟩:=items_int h3;have hlen:ns.length<=n:=by
  unfold OpenLaw.pre at hc;have h4:(WTm.not (.lt (.lit (.int (n:Int))) (.len (.arg 0)))).holds [] {args:=[.list (ns.map .int)]}=true:=by have h4:=(holds_andW hc).1;rw[hn]at h4;exact h4
  have h5:=condW_of h4 (w_not (w_lt w_lit (w_len_list (w_arg rfl))));rw[QW]at h5;refine Nat.le_of_not_lt λq=>?_
  have q':(n:Int)<((ns.length:Nat):Int):=⋯
  first
   |(rw[Rh q']at h5;exact absurd h5 ‹_›)
   |(simp at h5;omega)
 cases J1 with
 |cons w1 w2=>
  cases w2;cases w1 with
  |list ho hall=>exact⟨_,_,ns,rfl,rfl,ho,iD ns _ hall,hlen⟩
theorem ug(l:OpenLaw)(args:List WData):l.row.toRowW.claim.post args (.bool true) args=true:=
 postW_of (r:=l.row.toRowW) (X:=(true==true))
  (show WShape.has [] (.bool true) .bool=true by first|rfl|decide|simp[WShape.has,WShape.arms,WShape.armsAll])
  (show (WTm.eq .res (.lit (.bool true))).value [] {args:=args,res:=some (.bool true),after:=args}=some (.bool (true==true)) from w_eq_bool (w_res rfl) w_lit) rfl
theorem nq{l:OpenLaw}{n:Nat}{q:Program}{loose:List Str}{XP:(Str->Option Value)->Heap->Prop}{YP:World->Heap->Prop}{d:DefRec}
  (hn:l.most=some n) (GZ:d.params.defaults=[])
  (call:∀(w:World)(s₀ s₁:Shared)(mg mb:Str->Option Value)(fa:Addr)(o:Obj)(pm cd doc:Value)(a:Addr)(vs:List Value)(ns:List Int),
   Ground q loose [] XP w s₀ mg mb s₁.heap->YP w s₁.heap->
   s₁.heap.get? fa=some o->o.data= .func (docDef d.name d.params d.body d.scope pm cd doc)->s₁.heap.CodeRec cd d.name->mg d.name=some (.ref fa)->
   s₁.heap.get? a=some {cls:=.type "list",data:=.seq vs.toArray}->IntsAre vs ns->ns.length<=n->s₁.gens=#[]->
   codeAny (model l.prog w) callerA (.call (.ref fa) ⟨[.ref a],[]⟩) (λr s'=>r= .ok (.ret (.bool true))/\OldK s₁.heap s'.heap/\s'.os=s₁.os/\AllBare s'.gens) s₁):
  WalkO q loose XP YP l.row.toRowW d [] (λf vs=>PySem.call f vs):=by
 intro w s₀ s₁ mg mb G Y fa o pm cd doc dV kV ho hd uL hD hmg hg args vals as Ab hlay hrd J1 hlo;obtain rfl:dV= .none:=Dflts.none hD GZ;obtain rfl:kV= .none:=Dflts.noKw hD;obtain⟨a,vs,ns,rfl,rfl,Di,hints,hlen⟩:=uv hn Ab J1;refine enter_call (codeAny_mono (call w s₀ s₁ mg mb fa o pm cd doc a vs ns G Y ho (fd_plain hd) uL hmg Di hints hlen hg) λr s' hq=>?_);obtain⟨rfl,h2,h3,h4⟩:=hq;exact⟨.inl ⟨.bool true,.bool true,[],rfl,λ_=>rfl,.bool true,ug l _,λ_=>⟨List.Pairwise.nil,λ_ hm=>(nomatch hm)⟩⟩,h2,h3,h4⟩
end Att
namespace L2
open PySem PySem.Spec PyProof.Rows
theorem k7:∀{vs:List Value}{ns:List Int},IntsAre vs ns->au (ns.map V.int) vs
 |_,_,.nil=>.nil
 |_,_,.cons n t h=>.cons ⟨t,rfl⟩ (k7 h)
def Cq(H:Hp):Prop:=∀b,H b=none\/∃o xs,H b=some (.qV o (.lst xs))
theorem wA{P:Program}{w:World}{K:PySem.W.Frag}{mg mb:Str->Option Value}{CX:j9}{k:Nat}{fa a:Addr}{fd:FuncData}{x:Str}{sp:Sp}{s₁:Shared}{vs:List Value}{ns:List Int}
  (KX:K.In s₁.heap) (G7:s₁.heap.Ns mainGlobals mg) (hb:s₁.heap.Ns builtinsNs mb) (O8:∀x:Str,x≠"__name__"->mb x=bootBuiltins x) (z9:s₁.heap.NoLimit) (hg:s₁.gens=#[])
  (ha:s₁.heap.get? a=some {cls:=.type "list",data:=.seq vs.toArray}) (hi:IntsAre vs ns) (hl:ns.length<=sizeLine) (hr:f7 k callerA)
  (F:∀base:Heap,K.In base->base.Ns mainGlobals mg->gS P w K mg base CX k fa fd [x] sp) (GR:∀(s:Shared)(u:Value),BindsTo s fd ⟨[u],[]⟩ [(x,u)])
  (FJ:∀H:Hp,Cq H->cZ K H a (ns.map V.int)->sp [.ref a] H (λv _=>v= .bl true) λ_ _ _=>False)
  (Lj:∀H e s',CX [] H s₁ (λ_ _ _=>False) e s'->False):
  codeAny (model P w) callerA (.call (.ref fa) ⟨[.ref a],[]⟩) (λr s'=>r= .ok (.ret (.bool true))/\OldK s₁.heap s'.heap/\s'.os=s₁.os/\AllBare s'.gens) s₁:=by
 have rv:=k7 hi;have L7:=hi.length;have core:∀H:Hp,Cq H->cZ K H a (ns.map V.int)->dq P w H s₁.heap->(∀b,H b≠none->b=a)->(H a≠none->K.lookup a=none)->
   codeAny (model P w) callerA (.call (.ref fa) ⟨[.ref a],[]⟩) (λr s'=>r= .ok (.ret (.bool true))/\OldK s₁.heap s'.heap/\s'.os=s₁.os/\AllBare s'.gens) s₁:=by
  intro H hO hS hok hA hK;have qJ:∀{b:Addr}{o:Obj},s₁.heap.get? b=some o->H b=none->(lP s₁.heap H).get? b=some o:=λe n=>wc e n
  have Av:∀{b:Addr}{o:Obj}{es:Array DictEntry}{ep:Nat},s₁.heap.get? b=some o->o.data= .dict es ep->H b=none:=λ {b o es ep} e d=>by
   cases q:H b with
   |none=>rfl
   |some u=>have e':b=a:=hA b (by rw[q];simp);subst e';rw[ha]at e;cases e;have d':Data.seq vs.toArray _=Data.dict es ep:=d;cases d'
  have J5:∀{b:Addr}{m:Str->Option Value},s₁.heap.Ns b m->(lP s₁.heap H).Ns b m:=λ {b m} ⟨o,es,ep,e,d,r⟩=>⟨o,es,ep,qJ e (Av e d),d,r⟩
  have Nv:K.In (lP s₁.heap H):=λb o e=>qJ (KX b o e) (by
   cases q:H b with
   |none=>rfl
   |some u=>
    have e':b=a:=hA b (by rw[q];simp);subst e';rw[hK (by rw[q];simp)]at e;cases e)
  have hM:Mod K mg (lP s₁.heap H):=⟨Nv,J5 G7,⟨mb,J5 hb,O8⟩,let ⟨mc,h1,h2⟩:=z9;⟨mc,J5 h1,h2⟩⟩;have e0:zd P w K mg (lP s₁.heap H) callerA [] s₁ H:=⟨rfl,hM,λb o e=>Ay e,Nat.le_of_eq (tO _ _),trivial,λb hb=>absurd (show b∈([]:List Addr) from hb) ∅,hok,.of_eq hg⟩;refine codeAny_mono ((F _ Nv (J5 G7)).run callerA [] s₁ H ⟨[.ref a],[]⟩ [.ref a] [.ref a] _ _ hr e0 (GR s₁ (.ref a)) (.cons rfl .nil) (FJ H hO hS)) λr s' h=>?_
  cases r with
  |error e=>exact(Lj H e s' h).elim
  |ok fl=>
   cases fl with
   |next=>exact False.elim h
   |brk=>exact False.elim h
   |cont=>exact False.elim h
   |ret u=>
    obtain⟨v,H',os,bare,un,Aa,r',q⟩:=h;have q':v= .bl true:=q;subst q';obtain rfl:u=Value.bool true:=r';refine⟨rfl,OldK.of_keep λb o e=>?_,os,bare⟩;cases q:H b with
    |none=>exact un.keep b o e q (by intro z;exact absurd (show b∈([]:List Addr) from z) ∅) ∅
    |some u=>
     rcases hO b with z|⟨ob,xs,z⟩
     ·rw[q]at z;cases z
     ·have z2:=un.frzs b ob _ z;obtain⟨e1,_⟩:=hok b _ z;obtain⟨e2,_⟩:=Aa b _ z2;rw[e]at e1;cases e1;exact e2
 cases hk:K.lookup a with
 |some o=>have e:=KX a o hk;rw[ha]at e;cases e;refine core (λ_=>none) (λ_=>.inl rfl) (.inr ⟨_,vs.toArray,_,hk,rfl,rfl,rfl,by rw[QP,L7];exact hl,by simpa using rv⟩) (λb u z=>by have z':(none:Option HO)=some u:=z;cases z') (λb z=>absurd rfl z) λz=>absurd rfl z
 |none=>
  refine core (λb=>if b=a then some (.qV {cls:=.type "list",data:=.seq vs.toArray} (.lst (ns.map V.int))) else none) (λb=>?_) (.inl (.inr ⟨{cls:=.type "list",data:=.seq vs.toArray},Ta rfl⟩)) (λb u z=>?_) (λb z=>?_) λ_=>hk
  ·by_cases hb:b=a
   ·exact .inr ⟨_,_,Ta hb⟩
   ·exact .inl (S9 hb)
  ·by_cases hb:b=a
   ·have z':=(Ta hb).symm.trans z;cases z';subst hb;exact⟨ha,by rw[QW];exact hl,vs,_,rv,ha⟩
   ·have z':=(S9 hb).symm.trans z;cases z'
  ·by_cases hb:b=a
   ·exact hb
   ·exact absurd (S9 hb) z
end L2
namespace L2
open PySem PySem.Spec PyProof.Rows
theorem sY{l:PySem.W.OpenLaw}{n k:Nat}{q:Program}{loose:List Str}{XP:(Str->Option Value)->Heap->Prop}{YP:World->Heap->Prop}{d:DefRec}{K:Params->PySem.W.Frag}{CX:World->j9}{sp:World->Sp}{x:Str}
  (hn:l.most=some n) (Dh:n<=sizeLine) (GZ:d.params.defaults=[]) (hr:f7 k callerA)
  (hY:∀(w:World)(h:Heap),YP w h->(K w.params).In h)
  (F:∀(w:World)(mg:Str->Option Value)(fa:Addr)(h:Heap),(K w.params).In h->h.Ns mainGlobals mg->mg d.name=some (.ref fa)->
   ∃fd:FuncData,(∀(s:Shared)(u:Value),BindsTo s fd ⟨[u],[]⟩ [(x,u)])/\
    ∀base:Heap,(K w.params).In base->base.Ns mainGlobals mg->gS l.prog w (K w.params) mg base (CX w) k fa fd [x] (sp w))
  (FJ:∀(w:World)(H:Hp)(a:Addr)(ns:List Int),ns.length<=n->Cq H->cZ (K w.params) H a (ns.map V.int)->sp w [.ref a] H (λv _=>v= .bl true) λ_ _ _=>False)
  (Lj:∀(w:World)(H:Hp)(s:Shared)(e:Value)(s':Shared),CX w [] H s (λ_ _ _=>False) e s'->False):
  PySem.W.WalkO q loose XP YP l.row.toRowW d [] (λf vs=>PySem.call f vs):=by
 refine Att.nq hn GZ λw s₀ s₁ mg mb fa o pm cd doc a vs ns G Y ho hd uL hmg Di hints hlen hg=>?_
 have KX:=hY w _ Y;obtain⟨fd,hb,hF⟩:=F w mg fa _ KX G.T.g hmg;exact wA KX G.T.g G.T.b G.T.builtins G.T.nolimit hg Di hints (QY hlen Dh) hr hF hb (λH hO hS=>FJ w H a ns hlen hO hS) λH e s'=>Lj w H s₁ e s'
end L2
namespace L2
open PySem PySem.Spec PyProof.Rows
def lC(s:Stmt):Arguments:=match s with
 |.FunctionDef _ a _ _ _ _ _ _ _ _=>a
 |_=>{posonlyargs:=[],args:=[],vararg:=none,kwonlyargs:=[],kw_defaults:=[],kwarg:=none,defaults:=[]}
def gc(s:Stmt):List Stmt:=match s with
 |.FunctionDef _ _ b _ _ _ _ _ _ _=>b
 |_=>[]
def bg(s:Stmt):Scope:=match s with
 |.FunctionDef _ _ _ _ _ _ sc _ _ _=>sc
 |_=>{kind:=.function,names:=[],isGenerator:=false,isCoroutine:=false}
theorem DA{A B:Prop}(h:B):if false=true then A else B:=by rw[S9 RG];exact h
theorem DB{A B:Prop}(h:A):if true=true then A else B:=by rw[Ta rfl];exact h
def aT(H H':Hp):Prop:=∀b o,H b=some o->H' b=some o
theorem aT.refl(H:Hp):aT H H:=λ_ _ h=>h
theorem aT.trans{H H1 H2:Hp}(a:aT H H1)(b:aT H1 H2):aT H H2:=λc o h=>b c o (a c o h)
end L2
end
section
namespace Mx
open PySem PyProof.Rows
inductive D where
 |int (i:Int)
 |str (x:Str)
 |tup (ds:List D)
mutual
noncomputable def D.ft:D->D->Bool
 |.int i,.int j=>i==j
 |.str x,.str y=>x==y
 |.tup a,.tup b=>D.eqs a b
 |_,_=>false
noncomputable def D.eqs:List D->List D->Bool
 |[],[]=>true
 |x::xs,y::ys=>D.ft x y&&D.eqs xs ys
 |_,_=>false
end
mutual
noncomputable def D.lt:D->D->Bool
 |.int i,.int j=>decide (i<j)
 |.int _,_=>true
 |.str _,.int _=>false
 |.str x,.str y=>decide (x.cps.toList<y.cps.toList)
 |.str _,.tup _=>true
 |.tup a,.tup b=>D.eO a b
 |.tup _,_=>false
noncomputable def D.eO:List D->List D->Bool
 |[],[]=>false
 |[],_::_=>true
 |_::_,[]=>false
 |x::xs,y::ys=>if D.ft x y=true then D.eO xs ys else D.lt x y
end
mutual
theorem D.cq:∀a b:D,D.ft a b=true↔a=b
 |.int i,.int j=>by simp[D.ft]
 |.str x,.str y=>by simp[D.ft]
 |.tup a,.tup b=>by simp only[D.ft,D.tup.injEq];exact D.qP a b
 |.int _,.str _=>by simp[D.ft]
 |.int _,.tup _=>by simp[D.ft]
 |.str _,.int _=>by simp[D.ft]
 |.str _,.tup _=>by simp[D.ft]
 |.tup _,.int _=>by simp[D.ft]
 |.tup _,.str _=>by simp[D.ft]
theorem D.qP:∀a b:List D,D.eqs a b=true↔a=b
 |[],[]=>by simp[D.eqs]
 |[],_::_=>by simp[D.eqs]
 |_::_,[]=>by simp[D.eqs]
 |x::xs,y::ys=>by simp only[D.eqs,QO,List.cons.injEq];rw[D.cq x y,D.qP xs ys]
end
noncomputable instance:DecidableEq D:=λa b=>if h:D.ft a b=true then isTrue ((D.cq a b).mp h) else isFalse λe=>h ((D.cq a b).mpr e)
theorem D.iK(a b:D):D.ft a b=decide (a=b):=by rw[RE,D.cq];simp
theorem D.cQ(x y:D)(xs ys:List D):D.eO (x::xs) (y::ys)=if x=y then D.eO xs ys else D.lt x y:=by
 rw[D.eO];by_cases h:x=y
 ·rw[Ta h,Ta ((D.cq x y).mpr h)]
 ·rw[S9 h,S9 λe=>h ((D.cq x y).mp e)]
mutual
theorem D.lt_irrefl:∀a:D,D.lt a a=false
 |.int i=>by simp[D.lt]
 |.str x=>by simp only[D.lt];exact strKind.irrefl _
 |.tup a=>by simp only[D.lt];exact D.jB a
theorem D.jB:∀a:List D,D.eO a a=false
 |[]=>by simp[D.eO]
 |x::xs=>by rw[D.cQ,Ta rfl];exact D.jB xs
end
mutual
theorem D.dD:∀a b:D,D.lt a b=false->D.lt b a=false->a=b
 |.int i,.int j,h1,h2=>by simp only[D.lt,decide_eq_false_iff_not]at h1 h2;congr 1;omega
 |.str x,.str y,h1,h2=>by simp only[D.lt]at h1 h2;have:=strKind.total _ _ h1 h2;congr 1;cases x;cases y;simp only at this;congr 1;exact Array.toList_inj.mp this
 |.tup a,.tup b,h1,h2=>by simp only[D.lt]at h1 h2;rw[D.kJ a b h1 h2]
 |.int _,.str _,h1,_=>by simp[D.lt]at h1
 |.int _,.tup _,h1,_=>by simp[D.lt]at h1
 |.str _,.int _,_,h2=>by simp[D.lt]at h2
 |.str _,.tup _,h1,_=>by simp[D.lt]at h1
 |.tup _,.int _,_,h2=>by simp[D.lt]at h2
 |.tup _,.str _,_,h2=>by simp[D.lt]at h2
theorem D.kJ:∀a b:List D,D.eO a b=false->D.eO b a=false->a=b
 |[],[],_,_=>rfl
 |[],_::_,h1,_=>by simp[D.eO]at h1
 |_::_,[],_,h2=>by simp[D.eO]at h2
 |x::xs,y::ys,h1,h2=>by
  rw[D.cQ]at h1 h2;by_cases h:x=y
  ·subst h;rw[Ta rfl]at h1 h2;rw[D.kJ xs ys h1 h2]
  ·rw[S9 h]at h1;rw[S9 (SL h)]at h2;exact absurd (D.dD x y h1 h2) h
end
mutual
theorem D.lt_trans:∀a b c:D,D.lt a b=true->D.lt b c=true->D.lt a c=true
 |.int i,.int j,.int k,h1,h2=>by simp only[D.lt,S7]at *;omega
 |.int _,_,.str _,_,_=>by simp[D.lt]
 |.int _,_,.tup _,_,_=>by simp[D.lt]
 |.int _,.str _,.int _,_,h2=>by simp[D.lt]at h2
 |.int _,.tup _,.int _,_,h2=>by simp[D.lt]at h2
 |.str _,.int _,_,h1,_=>by simp[D.lt]at h1
 |.str x,.str y,.str z,h1,h2=>by simp only[D.lt]at *;exact strKind.trans _ _ _ h1 h2
 |.str _,.str _,.int _,_,h2=>by simp[D.lt]at h2
 |.str _,_,.tup _,_,_=>by simp[D.lt]
 |.str _,.tup _,.int _,_,h2=>by simp[D.lt]at h2
 |.str _,.tup _,.str _,_,h2=>by simp[D.lt]at h2
 |.tup _,.int _,_,h1,_=>by simp[D.lt]at h1
 |.tup _,.str _,_,h1,_=>by simp[D.lt]at h1
 |.tup _,.tup _,.int _,_,h2=>by simp[D.lt]at h2
 |.tup _,.tup _,.str _,_,h2=>by simp[D.lt]at h2
 |.tup a,.tup b,.tup c,h1,h2=>by simp only[D.lt]at *;exact D.kK a b c h1 h2
theorem D.kK:∀a b c:List D,D.eO a b=true->D.eO b c=true->D.eO a c=true
 |[],[],_,h1,_=>by simp[D.eO]at h1
 |[],_::_,[],_,h2=>by simp[D.eO]at h2
 |[],_::_,_::_,_,_=>by simp[D.eO]
 |_::_,[],_,h1,_=>by simp[D.eO]at h1
 |_::_,_::_,[],_,h2=>by simp[D.eO]at h2
 |x::xs,y::ys,z::zs,h1,h2=>by
  rw[D.cQ]at h1 h2 ⊢;by_cases h:x=y
  ·subst h;rw[Ta rfl]at h1;by_cases h':x=z
   ·rw[Ta h']at h2 ⊢;exact D.kK xs ys zs h1 h2
   ·rw[S9 h']at h2 ⊢;exact h2
  ·rw[S9 h]at h1;by_cases h':y=z
   ·subst h';rw[S9 h];exact h1
   ·rw[S9 h']at h2;have h3:=D.lt_trans x y z h1 h2;by_cases h'':x=z
    ·subst h'';rw[D.lt_irrefl]at h3;cases h3
    ·rw[S9 h''];exact h3
end
@[reducible] noncomputable def Gk:KeyOrd where
 α:=D
 blt:=D.lt
 irrefl:=D.lt_irrefl
 trans:=D.lt_trans
 negTrans:=λa b c h=>by
  cases h1:D.lt a b with
  |true=>exact .inl rfl
  |false=>
   right;cases h2:D.lt b a with
   |true=>exact D.lt_trans b a c h2 h
   |false=>rw[D.dD a b h1 h2]at h;exact h
 total:=D.dD
end Mx
end
section
namespace MxSort
open PySem PySem.W PyProof.Rows
section
variable{O:KeyOrd}{key:Nat->O.α}
def cc(key:Nat->O.α)(p:Array Nat)(i:Nat):O.α:=key (p.getD i 0)
def Up(key:Nat->O.α)(p:Array Nat)(n:Nat):Prop:=∀i j,i<=j->j<n->O.kle (cc key p i) (cc key p j)
def Dn(key:Nat->O.α)(p:Array Nat)(n:Nat):Prop:=∀i j,i<=j->j<n->O.kle (cc key p j) (cc key p i)
theorem gi{p q:Array Nat}{i j:Nat}(h:p[i]?=q[j]?):p.getD i 0=q.getD j 0:=by
 have e1:∀(p:Array Nat)(i:Nat),p.getD i 0=(p[i]?).getD 0:=λp i=>by simp[Array.getD_eq_getD_getElem?]
 rw[e1,e1,h]
theorem lV{p:Array Nat}{i j:Nat}(hj:j<=p.size)(k:Nat):cc key (kas_rev p i j) k=if i<=k/\k<j then cc key p (i+j-1-k) else cc key p k:=by
 have e:=getElem?_mirror_all (i:=i) hj k;unfold kas_rev cc;by_cases h1:i<=k/\k<j
 ·rw[Ta h1]at e ⊢;exact S6 key (gi e)
 ·rw[S9 h1]at e ⊢;exact S6 key (gi e)
theorem rE{p:Array Nat}{src d:Nat}(hs:src<p.size)(hd:d<=src)(k:Nat):
  cc key (bubble p src d) k=if k=src-d then cc key p src else if src-d<k/\k<=src then cc key p (k-1) else cc key p k:=by
 have e:=getElem?_bubble hs d hd k;unfold cc;by_cases h1:k=src-d
 ·rw[Ta h1]at e ⊢;exact S6 key (gi e)
 ·rw[S9 h1]at e ⊢;by_cases h2:src-d<k/\k<=src
  ·rw[Ta h2]at e ⊢;exact S6 key (gi e)
  ·rw[S9 h2]at e ⊢;exact S6 key (gi e)
def Ord(N:Nat)(p:Array Nat):Prop:=p.toList.Perm (List.range N)
theorem Ord.size{N:Nat}{p:Array Nat}(h:Ord N p):p.size=N:=by have:=h.length_eq;rw[R9]at this;rw[<-this];simp
theorem Ord.lt{N:Nat}{p:Array Nat}(h:Ord N p)(i:Nat)(h0:0<N):p.getD i 0<N:=by
 by_cases hi:i<p.size
 ·have e:p.getD i 0=p[i]:=by simp[Array.getD,hi]
  rw[e];have:=h.mem_iff.mp (show p[i]∈p.toList by simp);exact RB.mp this
 ·have e:p.getD i 0=0:=by simp[Array.getD,hi]
  rw[e];exact h0
theorem Ord.perm{N:Nat}{p q:Array Nat}(h:Ord N p)(e:q.Perm p):Ord N q:=(Array.perm_iff_toList_perm.mp e).trans h
theorem Ord.rev{N:Nat}{p:Array Nat}(h:Ord N p)(i j:Nat):Ord N (kas_rev p i j):=h.perm (mirror_perm _ _ _ _)
theorem Ord.Os{N:Nat}{p:Array Nat}(h:Ord N p)(i j:Nat):Ord N (bubble p i j):=h.perm (bubble_perm _ _ _)
variable{cmp:Nat->Nat->(Bool->Shared->Prop)->Shared->Prop}{s:Shared}{N:Nat}
def eI(O:KeyOrd)(key:Nat->O.α)(cmp:Nat->Nat->(Bool->Shared->Prop)->Shared->Prop)(N:Nat)(s:Shared):Prop:=
 ∀i j,i<N->j<N->∀C:Bool->Shared->Prop,C (O.blt (key i) (key j)) s->cmp i j C s
theorem eI.at(T:eI O key cmp N s){p:Array Nat}(hp:Ord N p)(h0:0<N)(i j:Nat){C:Bool->Shared->Prop}(h:C (O.blt (cc key p i) (cc key p j)) s):cmp (p.getD i 0) (p.getD j 0) C s:=
 T _ _ (hp.lt i h0) (hp.lt j h0) C h
theorem Up.succ{p:Array Nat}{n:Nat}(h:Up key p n)(h1:1<=n)(h2:O.kle (cc key p (n-1)) (cc key p n)):Up key p (n+1):=λi j we hj=>by
 by_cases e:j=n
 ·subst e;by_cases e2:i=j
  ·subst e2;exact RQ _
  ·exact Rf (h i (j-1) ⋯ ⋯) h2
 ·exact h i j we ⋯
theorem Dn.succ{p:Array Nat}{n:Nat}(h:Dn key p n)(h1:1<=n)(h2:O.kle (cc key p n) (cc key p (n-1))):Dn key p (n+1):=λi j we hj=>by
 by_cases e:j=n
 ·subst e;by_cases e2:i=j
  ·subst e2;exact RQ _
  ·exact Rf h2 (h i (j-1) ⋯ ⋯)
 ·exact h i j we ⋯
theorem pe(T:eI O key cmp N s){p:Array Nat}(hp:Ord N p){Q:Nat->Shared->Prop}:∀(f n:Nat),1<=n->n+f<=N->Up key p n->
  (∀m,n<=m->m<=n+f->Up key p m->(m<n+f->O.blt (cc key p m) (cc key p (m-1))=true)->Q m s)->(kas_asc p f n).kasWp cmp Q s
 |0,n,h1,hn,hu,h=>h n (QT _) (QT _) hu (λz=>absurd z ⋯)
 |f+1,n,h1,hn,hu,h=>by
  refine T.at hp ⋯ n (n-1) ?_;cases hb:O.blt (cc key p n) (cc key p (n-1)) with
  |true=>show (if true=true then KasT.ret n else kas_asc p f (n+1)).kasWp cmp Q s;rw[Ta rfl];exact h n (QT _) ⋯ hu λ_=>hb
  |false=>show (if false=true then KasT.ret n else kas_asc p f (n+1)).kasWp cmp Q s;rw[S9 ∅];exact pe T hp f (n+1) ⋯ ⋯ (hu.succ h1 hb) λm a b c d=>h m ⋯ ⋯ c λz=>d ⋯
theorem gY{p:Array Nat}{a n:Nat}(hn:n<=p.size)(he:∀k,a<=k->k<n->cc key p k=cc key p (n-1))(k:Nat):cc key (kas_rev p a n) k=cc key p k:=by
 rw[lV hn];split
 ·rename_i h;rw[he (a+n-1-k) ⋯ ⋯,he k h.1 h.2]
 ·rfl
theorem Dn.of{p q:Array Nat}{n:Nat}(e:∀k,cc key q k=cc key p k)(h:Dn key p n):Dn key q n:=λi j a b=>by rw[e,e];exact h i j a b
theorem iJ(T:eI O key cmp N s){Q:Array Nat×Nat×Nat->Shared->Prop}:∀(f:Nat)(p:Array Nat)(n q:Nat),Ord N p->1<=n->q+1<=n->n+f<=N->Dn key p n->(∀k,n-(q+1)<=k->k<n->cc key p k=cc key p (n-1))->
  (∀(p':Array Nat)(m q':Nat),Ord N p'->1<=m->q'+1<=m->m<=n+f->Dn key p' m->(∀k,m-(q'+1)<=k->k<m->cc key p' k=cc key p' (m-1))->Q (p',m,q') s)->(kas_desc f p n q).kasWp cmp Q s
 |0,p,n,q,hp,h1,hq,hn,hd,he,h=>h p n q hp h1 hq (QT _) hd he
 |f+1,p,n,q,hp,h1,hq,hn,hd,he,h=>by
  have hz:=hp.size;refine T.at hp ⋯ n (n-1) ?_;cases hb:O.blt (cc key p n) (cc key p (n-1)) with
  |true=>
   show (if true=true then(if q>0 then kas_desc f (kas_rev p (n-(q+1)) n) (n+1) 0 else kas_desc f p (n+1) 0) else _).kasWp cmp Q s;rw[Ta rfl];have pL:Dn key p (n+1):=hd.succ h1 (RP hb);by_cases hq0:q>0
   ·rw[Ta hq0];have e:=gY (key:=key) (p:=p) (a:=n-(q+1)) (n:=n) ⋯ he;exact iJ T f _ (n+1) 0 (hp.rev _ _) ⋯ ⋯ ⋯ (Dn.of e pL) (λk a b=>by rw[show k=n+1-1 by omega]) λp' m q' a b c d=>h p' m q' a b c ⋯
   ·rw[S9 hq0];exact iJ T f _ (n+1) 0 hp ⋯ ⋯ ⋯ pL (λk a b=>by rw[show k=n+1-1 by omega]) λp' m q' a b c d=>h p' m q' a b c ⋯
  |false=>
   show (if false=true then _ else KasT.ask (p.getD (n-1) 0) (p.getD n 0) λd=>if d=true then .ret (p,n,q) else kas_desc f p (n+1) (q+1)).kasWp cmp Q s;rw[S9 ∅];refine T.at hp ⋯ (n-1) n ?_;cases hc:O.blt (cc key p (n-1)) (cc key p n) with
   |true=>show (if true=true then KasT.ret (p,n,q) else _).kasWp cmp Q s;rw[Ta rfl];exact h p n q hp h1 hq ⋯ hd he
   |false=>
    show (if false=true then KasT.ret (p,n,q) else kas_desc f p (n+1) (q+1)).kasWp cmp Q s;rw[S9 ∅];have heq:cc key p n=cc key p (n-1):=O.total _ _ hb hc;refine iJ T f p (n+1) (q+1) hp ⋯ ⋯ ⋯ (hd.succ h1 (by rw[heq];exact RQ _)) (λk a b=>?_) λp' m q' a b c d=>h p' m q' a b c ⋯
    by_cases e:k=n
    ·rw[show n+1-1=n by omega,e]
    ·rw[he k ⋯ ⋯,show n+1-1=n by omega,heq]
def Kk(key:Nat->O.α)(N:Nat)(r:Nat×Array Nat):Prop:=Ord N r.2/\1<=r.1/\r.1<=N/\Up key r.2 r.1
theorem Fb{p:Array Nat}{n:Nat}(hn:n<=p.size)(h:Dn key p n):Up key (kas_rev p 0 n) n:=λi j we hj=>by rw[lV hn,lV hn,Ta ⋯,Ta ⋯];exact h _ _ ⋯ ⋯
theorem oJ(T:eI O key cmp N s){p:Array Nat}{n:Nat}{Q:Nat×Array Nat->Shared->Prop}(hp:Ord N p)(h1:1<=n)(hn:n<=N)(hd:Dn key p n)(h:∀r,Kk key N r->Q r s):(kas_tail3 n N p).kasWp cmp Q s:=by
 unfold kas_tail3;rw[KasT.kasWp_bind];refine pe T (hp.rev 0 n) (N-n) n h1 ⋯ (Fb (by rw[hp.size];exact hn) hd) λm a b c _=>?_
 exact h (m,kas_rev p 0 n) ⟨hp.rev 0 n,(show 1<=m by omega),(show m<=N by omega),c⟩
theorem ir(T:eI O key cmp N s){p:Array Nat}{n:Nat}{Q:Nat×Array Nat->Shared->Prop}(hp:Ord N p)(h1:1<=n)(hn:n+1<=N)(hd:Dn key p (n+1))(h:∀r,Kk key N r->Q r s):(kas_descPart n N p).kasWp cmp Q s:=by
 unfold kas_descPart;rw[KasT.kasWp_bind];refine iJ T (N-(n+1)) p (n+1) 0 hp ⋯ ⋯ ⋯ hd (λk a b=>by rw[show k=n+1-1 by omega]) λp' m q' a b c d e g=>?_
 show (if q'>0 then kas_tail3 m N (kas_rev p' (m-(q'+1)) m) else kas_tail3 m N p').kasWp cmp Q s;by_cases hq:q'>0
 ·rw[Ta hq];exact oJ T (a.rev _ _) b ⋯ (Dn.of (gY (by rw[a.size];omega) g) e) h
 ·rw[S9 hq];exact oJ T a b ⋯ e h
theorem vt(T:eI O key cmp N s){p:Array Nat}{Q:Nat×Array Nat->Shared->Prop}(hp:Ord N p)(h1:1<=N)(h:∀r,Kk key N r->Q r s):(kas_count N p).kasWp cmp Q s:=by
 unfold kas_count;rw[KasT.kasWp_bind];refine pe T hp (N-1) 1 (QT _) ⋯ (λi j a b=>by rw[show i=j by omega];exact RQ _) λn a b c d=>?_
 by_cases e:n=N
 ·subst e;show (if (n==n)=true then KasT.ret (n,p) else _).kasWp cmp Q s;rw[Ta ∅];exact h (n,p) ⟨hp,a,QT _,c⟩
 ·show (if (n==N)=true then KasT.ret (n,p) else if n>1 then .ask (p.getD 0 0) (p.getD (n-1) 0) λc=>if c=true then .ret (n,p) else kas_descPart n N (kas_rev p 0 n) else kas_descPart n N p).kasWp cmp Q s;rw[S9 ‹e›];have cP:=d ⋯;by_cases hn:n>1
  ·rw[Ta hn];refine T.at hp ⋯ 0 (n-1) ?_;cases hb:O.blt (cc key p 0) (cc key p (n-1)) with
   |true=>show (if true=true then KasT.ret (n,p) else _).kasWp cmp Q s;rw[Ta rfl];exact h (n,p) ⟨hp,a,(show n<=N by omega),c⟩
   |false=>
    show (if false=true then KasT.ret (n,p) else kas_descPart n N (kas_rev p 0 n)).kasWp cmp Q s;rw[S9 ∅];have hz:=hp.size;have all:∀k,0<=k->k<n->cc key p k=cc key p (n-1):=λk _ hk=>by refine KeyOrd.kle_antisymm (c k (n-1) ⋯ ⋯) (Rf (show O.kle (cc key p (n-1)) (cc key p 0) from hb) (c 0 k ⋯ hk))
    have er:=gY (key:=key) (p:=p) (a:=0) (n:=n) ⋯ all;refine ir T (hp.rev 0 n) a ⋯ (Dn.of er (Dn.succ (λi j we hj=>?_) a (RP cP))) h;rw[all i ⋯ ⋯,all j ⋯ hj];exact RQ _
  ·rw[S9 hn];have e1:n=1:=⋯
   subst e1;refine ir T hp a ⋯ (Dn.succ (λi j we hj=>?_) a (RP cP)) h;rw[show i=j by omega];exact RQ _
theorem jN(T:eI O key cmp N s){p:Array Nat}{k:Nat}{Q:Nat->Shared->Prop}(hp:Ord N p)(hk:k<N)(hu:Up key p k):∀(f l r:Nat),l<=r->r<=k->r-l<=f->(∀i,i<l->O.kle (cc key p i) (cc key p k))->(∀i,r<=i->i<k->O.klt (cc key p k) (cc key p i))->
  (∀l,l<=k->(∀i,i<l->O.kle (cc key p i) (cc key p k))->(∀i,l<=i->i<k->O.klt (cc key p k) (cc key p i))->Q l s)->(kas_place p k f l r).kasWp cmp Q s
 |0,l,r,Pn,JV,hf,h1,h2,h=>by
  have e:l=r:=⋯
  subst e;exact h l JV h1 h2
 |f+1,l,r,Pn,JV,hf,h1,h2,h=>by
  show (if l>=r then KasT.ret l else .ask (p.getD k 0) (p.getD ((l+r)/2) 0) λc=>if c=true then kas_place p k f l ((l+r)/2) else kas_place p k f ((l+r)/2+1) r).kasWp cmp Q s;by_cases tN:l>=r
  ·rw[Ta tN];have e:l=r:=⋯
   subst e;exact h l JV h1 h2
  ·rw[S9 tN];refine T.at hp ⋯ k ((l+r)/2) ?_;cases hb:O.blt (cc key p k) (cc key p ((l+r)/2)) with
   |true=>show (if true=true then kas_place p k f l ((l+r)/2) else _).kasWp cmp Q s;rw[Ta rfl];exact jN T hp hk hu f l ((l+r)/2) ⋯ ⋯ ⋯ h1 (λi a b=>KeyOrd.klt_of_klt_of_kle hb (hu _ _ a b)) h
   |false=>show (if false=true then kas_place p k f l ((l+r)/2) else kas_place p k f ((l+r)/2+1) r).kasWp cmp Q s;rw[S9 ∅];exact jN T hp hk hu f ((l+r)/2+1) r ⋯ JV ⋯ (λi a=>Rf (hu i ((l+r)/2) ⋯ ⋯) hb) h2 h
theorem vf(T:eI O key cmp N s){Q:Array Nat->Shared->Prop}:∀(f:Nat)(p:Array Nat)(k:Nat),Ord N p->k+f=N->Up key p k->(∀p',Ord N p'->Up key p' N->Q p' s)->(kas_bin f p k).kasWp cmp Q s
 |0,p,k,hp,hk,hu,h=>h p hp (by rw[<-hk];exact hu)
 |f+1,p,k,hp,hk,hu,h=>by
  show ((kas_place p k k 0 k).bind λl=>kas_bin f (bubble p k (k-l)) (k+1)).kasWp cmp Q s;rw[KasT.kasWp_bind];refine jN T hp ⋯ hu k 0 k ⋯ (QT _) ⋯ (λi a=>absurd a ⋯) (λi a b=>absurd a ⋯) λl hl lo hi=>?_
  refine vf T f _ (k+1) (hp.Os _ _) ⋯ (λi j we hj=>?_) h;have hz:=hp.size;rw[rE ⋯ ⋯,rE ⋯ ⋯,show k-(k-l)=l by omega]
  repeat' split
  all_goals first
   |(exfalso;omega)
   |exact RQ _
   |exact lo _ ⋯
   |exact RP (hi _ ⋯ ⋯)
   |exact hu _ _ ⋯ ⋯
theorem Bj(T:eI O key cmp N s){Q:Array Nat->Shared->Prop}(h1:1<=N)(h:∀p',Ord N p'->Up key p' N->Q p' s):(kas_sort N).kasWp cmp Q s:=by
 unfold kas_sort;rw[KasT.kasWp_bind];refine vt T (show Ord N (List.toArray (List.range N)) from by unfold Ord;simp) h1 λr hr=>?_
 obtain⟨a,b,c,d⟩:=hr;by_cases cP:r.1<N
 ·rw[Ta cP];have e:max r.1 1=r.1:=⋯
  rw[e];exact vf T _ _ _ a ⋯ d h
 ·rw[S9 cP];have e:r.1=N:=⋯
  exact h r.2 a (by rw[<-e];exact d)
end
end MxSort
end
section
namespace Mx
open PySem PySem.Spec PyProof.Rows L2 PySem.SeqAt
mutual
noncomputable def D.dep:D->Nat
 |.int _=>0
 |.str _=>0
 |.tup ds=>D.cv ds+1
noncomputable def D.cv:List D->Nat
 |[]=>0
 |d::ds=>max (D.dep d) (D.cv ds)
end
mutual
noncomputable def DV(H:Hp):V->D->Prop
 |x,.int i=>x= .int i
 |x,.str z=>x= .str z
 |x,.tup ds=>∃a xs,x= .ref a/\H a=some (.tup xs)/\aP H xs ds
noncomputable def aP(H:Hp):List V->List D->Prop
 |[],[]=>True
 |x::xs,d::ds=>DV H x d/\aP H xs ds
 |[],_::_=>False
 |_::_,[]=>False
end
theorem aP.nil{H:Hp}:aP H [] []:=by unfold aP;trivial
theorem aP.cons{H:Hp}{x:V}{xs:List V}{d:D}{ds:List D}(h:DV H x d)(t:aP H xs ds):aP H (x::xs) (d::ds):=by unfold aP;exact⟨h,t⟩
theorem DV.int{H:Hp}{i:Int}:DV H (.int i) (.int i):=by unfold DV;rfl
theorem DV.str{H:Hp}{x:Str}:DV H (.str x) (.str x):=by unfold DV;rfl
theorem DV.tup{H:Hp}{a:Addr}{xs:List V}{ds:List D}(h:H a=some (.tup xs))(t:aP H xs ds):DV H (.ref a) (.tup ds):=by unfold DV;exact⟨a,xs,rfl,h,t⟩
theorem DV.aq{H:Hp}{x:V}{ds:List D}(h:DV H x (.tup ds)):∃a xs,x= .ref a/\H a=some (.tup xs)/\aP H xs ds:=by unfold DV at h;exact h
theorem DV.int_inv{H:Hp}{x:V}{i:Int}(h:DV H x (.int i)):x= .int i:=by unfold DV at h;exact h
theorem DV.str_inv{H:Hp}{x:V}{i:Str}(h:DV H x (.str i)):x= .str i:=by unfold DV at h;exact h
theorem aP.cons_inv{H:Hp}{xs:List V}{d:D}{ds:List D}(h:aP H xs (d::ds)):∃x r,xs=x::r/\DV H x d/\aP H r ds:=by
 cases xs with
 |nil=>unfold aP at h;exact h.elim
 |cons x r=>unfold aP at h;exact⟨x,r,rfl,h⟩
theorem aP.length{H:Hp}:∀{xs:List V}{ds:List D},aP H xs ds->xs.length=ds.length
 |[],[],_=>rfl
 |[],_::_,h=>by unfold aP at h;exact h.elim
 |_::_,[],h=>by unfold aP at h;exact h.elim
 |_::xs,_::ds,h=>by unfold aP at h;simp[aP.length h.2]
theorem aP.get{H:Hp}:∀{xs:List V}{ds:List D}{i:Nat}{x:V},aP H xs ds->xs[i]?=some x->∃d,ds[i]?=some d/\DV H x d
 |[],_,_,_,_,e=>by simp at e
 |_::_,[],_,_,h,_=>by unfold aP at h;exact h.elim
 |_::_,_::_,0,_,h,e=>by unfold aP at h;simp at e;subst e;exact⟨_,rfl,h.1⟩
 |_::xs,_::ds,i+1,x,h,e=>by unfold aP at h;obtain⟨d,e1,e2⟩:=aP.get (i:=i) h.2 ‹e›;exact⟨d,by simpa using e1,e2⟩
theorem aP.append{H:Hp}:∀{xs ys:List V}{ds es:List D},aP H xs ds->aP H ys es->aP H (xs++ys) (ds++es)
 |[],_,[],_,_,h=>h
 |[],_,_::_,_,h,_=>by unfold aP at h;exact h.elim
 |_::_,_,[],_,h,_=>by unfold aP at h;exact h.elim
 |_::xs,ys,_::ds,es,h,h'=>by unfold aP at h;exact aP.cons h.1 (aP.append h.2 h')
def zf(H H':Hp):Prop:=∀a xs,H a=some (.tup xs)->H' a=some (.tup xs)
mutual
theorem DV.mono{H H':Hp}(t:zf H H'):∀{x:V}{d:D},DV H x d->DV H' x d
 |x,.int i,h=>by unfold DV at h ⊢;exact h
 |x,.str z,h=>by unfold DV at h ⊢;exact h
 |x,.tup ds,h=>by obtain⟨a,xs,e,e1,e2⟩:=h.aq;subst e;exact DV.tup (t a xs e1) (aP.mono t e2)
theorem aP.mono{H H':Hp}(t:zf H H'):∀{xs:List V}{ds:List D},aP H xs ds->aP H' xs ds
 |[],[],_=>aP.nil
 |[],_::_,h=>by unfold aP at h;exact h.elim
 |_::_,[],h=>by unfold aP at h;exact h.elim
 |_::xs,_::ds,h=>by unfold aP at h;exact aP.cons (DV.mono t h.1) (aP.mono t h.2)
end
mutual
theorem DV.inj{H:Hp}:∀{x:V}{d e:D},DV H x d->DV H x e->d=e
 |x,.int i,e,h1,h2=>by
  have:=h1.int_inv;subst this;cases e with
  |int j=>have:=h2.int_inv;injection this with q;rw[q]
  |str j=>have:=h2.str_inv;cases this
  |tup j=>obtain⟨_,_,q,_⟩:=h2.aq;cases q
 |x,.str i,e,h1,h2=>by
  have:=h1.str_inv;subst this;cases e with
  |int j=>have:=h2.int_inv;cases this
  |str j=>have:=h2.str_inv;injection this with q;rw[q]
  |tup j=>obtain⟨_,_,q,_⟩:=h2.aq;cases q
 |x,.tup ds,e,h1,h2=>by
  obtain⟨a,xs,q,e1,e2⟩:=h1.aq;subst q;cases e with
  |int j=>have:=h2.int_inv;cases this
  |str j=>have:=h2.str_inv;cases this
  |tup j=>obtain⟨b,ys,q,f1,f2⟩:=h2.aq;cases q;rw[e1]at f1;cases f1;rw[aP.inj e2 f2]
theorem aP.inj{H:Hp}:∀{xs:List V}{ds es:List D},aP H xs ds->aP H xs es->ds=es
 |[],[],[],_,_=>rfl
 |[],[],_::_,_,h=>by unfold aP at h;exact h.elim
 |[],_::_,_,h,_=>by unfold aP at h;exact h.elim
 |_::_,[],_,h,_=>by unfold aP at h;exact h.elim
 |_::_,_::_,[],_,h=>by unfold aP at h;exact h.elim
 |_::xs,_::ds,_::es,h1,h2=>by unfold aP at h1 h2;rw[DV.inj h1.1 h2.1,aP.inj h1.2 h2.2]
end
def JK(ds es:List D)(j:Nat):Bool:=match ds[j]?,es[j]? with
 |some d,some e=>D.ft d e
 |_,_=>true
theorem qE:∀ds es:List D,((List.range (min ds.length es.length)).all (JK ds es)&&ds.length==es.length)=D.eqs ds es
 |[],[]=>by simp[D.eqs]
 |[],_::_=>by simp[D.eqs]
 |_::_,[]=>by simp[D.eqs]
 |d::ds,e::es=>by
  have ih:=qE ds es;have hm:min (d::ds).length (e::es).length=min ds.length es.length+1:=by simp only[Q5];omega
  have e1:((d::ds).length==(e::es).length)=(ds.length==es.length):=by rw[RE];simp
  rw[hm,List.range_succ_eq_map,RT,List.all_map,e1,D.eqs,<-ih,Bool.and_assoc];rfl
theorem lD{d:D}:∀{ds:List D}{j:Nat},ds[j]?=some d->D.dep d<=D.cv ds
 |[],_,h=>by simp at h
 |d'::ds,0,h=>by simp at h;subst h;unfold D.cv;omega
 |d'::ds,j+1,h=>by have:=lD (ds:=ds) (j:=j) ‹h›;unfold D.cv;omega
section
variable{P:Program}{w:World}{H:Hp}{s:Shared}
theorem aM(hok:dq P w H s.heap){a:Addr}{xs:List V}(h:H a=some (.tup xs)):∃its:List Value,au xs its/\s.heap.IsTuple a its.toArray:=by obtain⟨_,its,r,t⟩:=hok a _ h;exact⟨its,r,t.is⟩
theorem eq_data(hok:dq P w H s.heap):∀(n:Nat)(d e:D)(x y:V)(u v:Value)(A:Around),D.dep d<=n->A.units+n<cLine->DV H x d->DV H y e->RelV x u->RelV y v->EqAt A s u v (D.ft d e):=by
 intro n
 induction n with
 |zero=>
  intro d e x y u v A hd hu hx hy rx ry;cases d with
  |int i=>
   have:=hx.int_inv;subst this;obtain⟨t,rfl⟩:=rx;cases e with
   |int j=>have:=hy.int_inv;subst this;obtain⟨t',rfl⟩:=ry;exact EqAt.int_int i t j t'
   |str j=>have:=hy.str_inv;subst this;obtain⟨t',rfl⟩:=ry;exact EqAt.int_str i t j t'
   |tup j=>obtain⟨b,ys,q,f1,f2⟩:=hy.aq;subst q;cases ry;obtain⟨its,_,ht⟩:=aM hok f1;exact EqAt.int_tuple i t ht ⋯
  |str i=>
   have:=hx.str_inv;subst this;obtain⟨t,rfl⟩:=rx;cases e with
   |int j=>have:=hy.int_inv;subst this;obtain⟨t',rfl⟩:=ry;exact EqAt.str_int i t j t'
   |str j=>have:=hy.str_inv;subst this;obtain⟨t',rfl⟩:=ry;exact EqAt.str_str i t j t'
   |tup j=>obtain⟨b,ys,q,f1,f2⟩:=hy.aq;subst q;cases ry;obtain⟨its,_,ht⟩:=aM hok f1;exact EqAt.str_tuple i t ht ⋯
  |tup ds=>unfold D.dep at hd;omega
 |succ n ih=>
  intro d e x y u v A hd hu hx hy rx ry;cases d with
  |int i=>exact ih (.int i) e x y u v A (by unfold D.dep;omega) ⋯ hx hy rx ry
  |str i=>exact ih (.str i) e x y u v A (by unfold D.dep;omega) ⋯ hx hy rx ry
  |tup ds=>
   obtain⟨a,xs,q,e1,e2⟩:=hx.aq;subst q;cases rx;obtain⟨its,r1,ht⟩:=aM hok e1;cases e with
   |int j=>have:=hy.int_inv;subst this;obtain⟨t',rfl⟩:=ry;exact EqAt.tuple_int j t' ht ⋯
   |str j=>have:=hy.str_inv;subst this;obtain⟨t',rfl⟩:=ry;exact EqAt.tuple_str j t' ht ⋯
   |tup es=>
    obtain⟨b,ys,q,f1,f2⟩:=hy.aq;subst q;cases ry;obtain⟨bw,r2,mV⟩:=aM hok f1;by_cases iO:a=b
    ·subst iO;rw[e1]at f1;cases f1;have:=aP.inj e2 f2;subst this;have q:D.ft (.tup ds) (.tup ds)=true:=(D.cq _ _).mpr rfl;rw[q];exact EqAt.same _
    ·have l1:its.toArray.size=ds.length:=by rw[QP,<-r1.length,e2.length]
     have l2:bw.toArray.size=es.length:=by rw[QP,<-r2.length,f2.length]
     have key:=RcAt.tuples (A:=A) (e:=JK ds es) ht mV ⋯ (λj h1 h2=>?_)
     ·have q:=qE ds es;rw[<-l1,<-l2]at q;rw[q]at key;exact EqAt.of_refs iO key
     ·have vZ:j<xs.length:=by rw[e2.length,<-l1];exact h1
      have v5:j<ys.length:=by rw[f2.length,<-l2];exact h2
      obtain⟨d,g1,g2⟩:=e2.get (i:=j) (x:=xs[j]) (by simp[vZ]);obtain⟨e,k1,k2⟩:=f2.get (i:=j) (x:=ys[j]) (by simp[v5]);obtain⟨u,Ha,ru⟩:=r1.get (i:=j) (x:=xs[j]) (by simp[vZ]);obtain⟨v,LU,rv⟩:=r2.get (i:=j) (x:=ys[j]) (by simp[v5]);have eu:its.toArray[j]=u:=by have:its[j]?=some u:=Ha;simp only[R6];have q:=QR.mp this;exact q.2
      have ev:bw.toArray[j]=v:=by have:bw[j]?=some v:=LU;simp only[R6];have q:=QR.mp this;exact q.2
      rw[eu,ev];have ee:JK ds es j=D.ft d e:=by unfold JK;rw[g1,k1]
      rw[ee];refine ih d e xs[j] ys[j] u v A.in1 ?_ (by show A.units+1+n<cLine;omega) g2 k2 ru rv;have:=lD g1;unfold D.dep at hd;omega
end
mutual
noncomputable def D.c7:D->D->Prop
 |.int _,.int _=>True
 |.str _,.str _=>True
 |.tup a,.tup b=>D.fG a b
 |_,_=>False
noncomputable def D.fG:List D->List D->Prop
 |x::xs,y::ys=>D.c7 x y/\D.fG xs ys
 |_,_=>True
end
def ng:Bool->Bool->Bool
 |true,b=> !b
 |false,b=>b
def Nf:Bool->CmpOp
 |true=>.GtE
 |false=>.Lt
def Ja:Bool->Builtin
 |true=>Builtin.«tuple.__ge__»
 |false=>Builtin.«tuple.__lt__»
def uV(g:Bool)(A:Around)(s:Shared)(u v:Value)(b:Bool):Prop:=
 ∀(prog:Program)(w:World)(E:Value->Shared->Prop)(Q:Value->Shared->Prop),Q (.bool (ng g b)) s->wpAny (model prog w) A (richCompare (Nf g) u v) Q E s
inductive Zp(g:Bool)(A:Around)(s:Shared):List Value->List Value->List D->List D->Prop
 |nil {ws:List Value} {es:List D}:ws.length=es.length->Zp g A s [] ws [] es
 |Au {vs:List Value} {ds:List D}:vs.length=ds.length->Zp g A s vs [] ds []
 |cons {v w:Value} {d e:D} {vs ws:List Value} {ds es:List D}:EqAt A s v w (D.ft d e)->(d≠e->uV g A s v w (D.lt d e))->Zp g A s vs ws ds es->Zp g A s (v::vs) (w::ws) (d::ds) (e::es)
section
open PySem.AutoSeq1 (wpAny_loadPart')
open PySem.MeetsSeq PySem.MeetsSeq2 PySem.MeetsSeq3
theorem km(g:Bool)(l b:Addr)(items eN:Array Value)(n n2:Nat)(dd yR:Option Addr)(sl uR:Array (Option Value))(ds es:List D)(z1:items.size=ds.length)(z2:eN.size=es.length):
  Meets (Ja g ⟨[.ref l,.ref b],[]⟩)
   (λA R s=>s.heap.get? l=some {cls:=.type "tuple",dict:=dd,data:=.seq items n,slots:=sl}/\s.heap.get? b=some {cls:=.type "tuple",dict:=yR,data:=.seq eN n2,slots:=uR}/\
    Zp g A.in1 s items.toList eN.toList ds es/\R (.ok (.ret (.bool (ng g (D.eO ds es))))) s):=by
 rcases g.eq_false_or_eq_true with hg|hg
 all_goals
  rw[show Ja g=Ja _ from S6 Ja hg];unfold Ja;refine .of_wp λprog w A R s h=>?_
  obtain⟨hp,gg,d,tk,os⟩:=s;obtain⟨hl,hb,PY,h⟩:=h;have f2:=AutoSeq1.sub_tuple_tuple
  wp_walk using wpAny_loadPart' hl,wpAny_loadPart' hb,wpAny_forIn_list _ (λrest b s'=>b.1=none/\s'=⟨hp,gg,d,tk,os⟩/\∃(vs ws:List Value)(uJ fB:List D),rest=vs.zip ws/\
   Zp g A.in1 ⟨hp,gg,d,tk,os⟩ vs ws uJ fB/\uJ.length+eN.size=fB.length+items.size/\R (.ok (.ret (.bool (ng g (D.eO uJ fB))))) ⟨hp,gg,d,tk,os⟩) _
  case turn=>
   rintro⟨y,x⟩ rest b s' ⟨uK,rfl,vs,ws,uJ,fB,hz,LV,hlen,hR⟩;cases LV with
   |nil _=>rw[SA]at hz;cases hz
   |Au _=>rw[SC]at hz;cases hz
   |cons he hl He=>
    rename_i v wv d0 e0 uT ws' ds'' es'';rw[Sz]at hz;injection hz with hyx G9;injection hyx with hy hx;subst hy hx;rw[D.cQ]at hR;simp only[Q5]at hlen;refine QK (he prog w _ _ ?_);by_cases hde:d0=e0
    ·rw[Ta hde]at hR;rw[(D.cq d0 e0).mpr hde]
     wp_walk
     exact⟨rfl,rfl,_,_,_,_,G9,He,⋯,hR⟩
    ·rw[S9 hde]at hR;have Oz:D.ft d0 e0=false:=by rw[D.iK];exact Rc hde
     rw[Oz];have LN:=hl hde prog w;rw[hg]at LN hR;dsimp only[Nf]at LN
     wp_walk using LN
     exact⟨_,rfl,hR⟩
  case fin=>
   rintro⟨b1,b2⟩ s' ⟨uK,rfl,vs,ws,uJ,fB,hz,LV,hlen,hR⟩;simp only at uK;subst uK;have hv:D.eO uJ fB=decide (items.size<eN.size):=by
    cases LV with
    |nil _=>
     cases fB with
     |nil=>simp only[R8]at hlen;exact(Rc ⋯).symm
     |cons c u=>simp only[R8,Q5]at hlen;exact(Rh ⋯).symm
    |Au _=>simp only[R8]at hlen;rw[show D.eO uJ []=false by cases uJ<;>rfl];exact(Rc ⋯).symm
    |cons he hl He=>rw[Sz]at hz;cases hz
   rw[hv,hg]at hR
   wp_walk
   exact⟨_,rfl,by first|simpa [Builtin.Tuple.tupleCompareSizes]using hR|simpa [Builtin.Tuple.tupleCompareSizes,ng,<-Nat.not_lt]using hR⟩
  case h=>exact⟨rfl,rfl,items.toList,eN.toList,ds,es,rfl,PY,⋯,h⟩
end
section
variable{P:Program}{w:World}{H:Hp}{s:Shared}
theorem yP{g:Bool}(hok:dq P w H s.heap){A:Around}{n:Nat}(hu:A.units+n<cLine)(ih:∀(d e:D)(x y:V)(u v:Value),D.dep d<=n->D.c7 d e->DV H x d->DV H y e->RelV x u->RelV y v->uV g A s u v (D.lt d e)):
  ∀{xs ys:List V}{us vs:List Value}{ds es:List D},D.cv ds<=n->D.fG ds es->aP H xs ds->aP H ys es->au xs us->au ys vs->Zp g A s us vs ds es
 |[],ys,us,vs,[],es,_,_,_,h2,r1,r2=>by cases r1;exact .nil (by rw[<-r2.length,h2.length])
 |x::xs,[],us,vs,ds,[],_,_,h1,_,r1,r2=>by cases r2;exact .Au (by rw[<-r1.length,h1.length])
 |[],_,_,_,_::_,_,_,_,h,_,_,_=>by unfold aP at h;exact h.elim
 |_::_,_,_,_,[],_,_,_,h,_,_,_=>by unfold aP at h;exact h.elim
 |_::_,[],_,_,_::_,_::_,_,_,_,h,_,_=>by unfold aP at h;exact h.elim
 |_::_,_::_,_,_,_::_,[],_,_,_,h,_,_=>by unfold aP at h;exact h.elim
 |x::xs,y::ys,us,vs,d::ds,e::es,hd,hl,h1,h2,r1,r2=>by
  unfold aP at h1 h2;unfold D.fG at hl;unfold D.cv at hd;cases r1 with
  |cons r1 t1=>
   cases r2 with
   |cons r2 t2=>exact .cons (eq_data hok n d e x y _ _ A ⋯ hu h1.1 h2.1 r1 r2) (λ_=>ih d e x y _ _ ⋯ hl.1 h1.1 h2.1 r1 r2) (yP hok hu ih ⋯ hl.2 h1.2 h2.2 t1 t2)
theorem qM(g:Bool)(hok:dq P w H s.heap):∀(n:Nat)(d e:D)(x y:V)(u v:Value)(A:Around),D.dep d<=n->A.units+n<cLine->D.c7 d e->DV H x d->DV H y e->RelV x u->RelV y v->uV g A s u v (D.lt d e):=by
 intro n
 induction n with
 |zero=>
  intro d e x y u v A hd hu hl hx hy rx ry;cases d with
  |int i=>
   have:=hx.int_inv;subst this;obtain⟨t,rfl⟩:=rx;cases e with
   |int j=>
    have:=hy.int_inv;subst this;obtain⟨t',rfl⟩:=ry;intro prog wd E Q q;cases g with
    |false=>exact(PyProof.Rows.lt_int q:wpAny (model prog wd) A (compareOp .Lt (.int i t) (.int j t')) Q E s)
    |true=>exact(PyProof.Rows.ge_int (by unfold D.lt at q;rw[show decide (j<=i)= !decide (i<j) from by by_cases h:i<j<;>simp[h]<;>omega];exact q):wpAny (model prog wd) A (compareOp .GtE (.int i t) (.int j t')) Q E s)
   |str j=>unfold D.c7 at hl;exact hl.elim
   |tup j=>unfold D.c7 at hl;exact hl.elim
  |str i=>
   have:=hx.str_inv;subst this;obtain⟨t,rfl⟩:=rx;cases e with
   |int j=>unfold D.c7 at hl;exact hl.elim
   |str j=>
    have:=hy.str_inv;subst this;obtain⟨t',rfl⟩:=ry;intro prog wd E Q q;cases g with
    |false=>exact(PySem.P.lt_str q:wpAny (model prog wd) A (compareOp .Lt (.str i t) (.str j t')) Q E s)
    |true=>exact(PySem.P.ge_str q:wpAny (model prog wd) A (compareOp .GtE (.str i t) (.str j t')) Q E s)
   |tup j=>unfold D.c7 at hl;exact hl.elim
  |tup ds=>unfold D.dep at hd;omega
 |succ n ih=>
  intro d e x y u v A hd hu hl hx hy rx ry;cases d with
  |int i=>exact ih (.int i) e x y u v A (by unfold D.dep;omega) ⋯ hl hx hy rx ry
  |str i=>exact ih (.str i) e x y u v A (by unfold D.dep;omega) ⋯ hl hx hy rx ry
  |tup ds=>
   obtain⟨a,xs,q,e1,e2⟩:=hx.aq;subst q;cases rx;cases e with
   |int j=>unfold D.c7 at hl;exact hl.elim
   |str j=>unfold D.c7 at hl;exact hl.elim
   |tup es=>
    obtain⟨b,ys,q,f1,f2⟩:=hy.aq;subst q;cases ry;obtain⟨its,r1,ht⟩:=aM hok e1;obtain⟨bw,r2,mV⟩:=aM hok f1;have l1:its.toArray.size=ds.length:=by rw[QP,<-r1.length,e2.length]
    have l2:bw.toArray.size=es.length:=by rw[QP,<-r2.length,f2.length]
    have pL:D.cv ds<=n:=by unfold D.dep at hd;omega
    have zZ:D.fG ds es:=by unfold D.c7 at hl;exact hl
    have zz:Zp g A.in1 s its bw ds es:=yP hok (n:=n) (by show A.units+1+n<cLine;omega) (λd e x y u v yW fE Hc Hd rx2 ry2=>ih d e x y u v A.in1 yW (by show A.units+1+n<cLine;omega) fE Hc Hd rx2 ry2) pL zZ e2 f2 r1 r2;intro prog wd E Q q;obtain⟨⟨cls,dd,data,sl⟩,ho,hc,k,zY⟩:=id ht;obtain⟨⟨Gi,yR,data2,uR⟩,ke,nU,k2,pN⟩:=id mV;simp only at hc zY nU pN;subst hc zY nU pN;have q':Q (.bool (ng g (D.eO ds es))) s:=by have z:=q;unfold D.lt at z;exact z
    have tc:=km g a b its.toArray bw.toArray k k2 dd yR sl uR ds es l1 l2;have fin:s.heap.get? a=_/\s.heap.get? b=_/\Zp g A.in1 s its bw ds es/\Value.bool (ng g (D.eO ds es))≠Value.notImplemented/\Q (.bool (ng g (D.eO ds es))) s:=⟨ho,ke,zz,(λx=>nomatch x),q'⟩;cases g with
    |false=>exact richCompare_meets_room (op:=.Lt) ⟨_,ho,rfl⟩ ⟨_,ke,rfl⟩ PySem.F.slot_tuple_lt PySem.F.entry_tuple_lt (PySem.F.args_tuple_lt_2 _ _) tc fin ⋯
    |true=>exact richCompare_meets_room (op:=.GtE) ⟨_,ho,rfl⟩ ⟨_,ke,rfl⟩ PySem.F.slot_tuple_ge PySem.F.entry_tuple_ge (PySem.F.args_tuple_ge_2 _ _) tc fin ⋯
theorem Ao(hok:dq P w H s.heap):∀(n:Nat)(d e:D)(x y:V)(u v:Value)(A:Around),D.dep d<=n->A.units+n<cLine->D.c7 d e->DV H x d->DV H y e->RelV x u->RelV y v->uV false A s u v (D.lt d e):=qM false hok
theorem zP(hok:dq P w H s.heap):∀(n:Nat)(d e:D)(x y:V)(u v:Value)(A:Around),D.dep d<=n->A.units+n<cLine->D.c7 d e->DV H x d->DV H y e->RelV x u->RelV y v->uV true A s u v (D.lt d e):=qM true hok
end
end Mx
end
section
namespace Mx
open PySem PySem.W PySem.Spec PyProof.Rows L2 PySem.SeqAt MxSort
section
variable{prog:Program}{w:World}{A:Around}{E:Value->Shared->Prop}{s:Shared}
theorem Bi{a:Addr}{vs:List Value}{n:Nat}{P:PySem.Fin->Shared->Prop}(ho:s.heap.get? a=some (seqObj "list" vs.toArray n))(OP:vs.length<64){O:KeyOrd}{key:Nat->O.α}
  (hk:2<=vs.length->∀h',(∀b o,b≠a->s.heap.get? b=some o->h'.get? b=some o)->∃κ:SortKind,(∀(Q:SortKind->Shared->Prop)(E:Value->Shared->Prop),Q κ {s with heap:=h'}->wpAny (model prog w) A (keyKind' vs.toArray) Q E {s with heap:=h'})/\
   eI O key (kas_ask prog w A κ vs) vs.length {s with heap:=h'})
  (h:∀(p:Array Nat)(h':Heap)(e:Nat),Ord vs.length p->Up key p vs.length->(∀b o,b≠a->s.heap.get? b=some o->h'.get? b=some o)->h'.get? a=some (seqObj "list" (p.toList.map λi=>vs.getD i Value.none).toArray e)->
   P (.done (.ret .none)) {s with heap:=h'}):wpAny (model prog w) A (Builtin.«list.sort» ⟨[.ref a],[]⟩) P E s:=by
 have ha:a<s.heap.objs.size:=QX ho;have yZ:vs.length<=sizeLine:=by rw[Th];omega
 rw[list_sort_plain];refine QK (listItems_at ho rfl (QK (listUpdate_at ho rfl ?_ (by rw[QP];exact yZ) (SJ _))));obtain⟨e1,NF⟩:∃e1,(s.heap.update a (Obj.mapSeq λ_=>(#[]:Array Value))).get? a=some (seqObj "list" #[] e1):=⟨_,get?_update_seq ho λ_=>#[]⟩;refine QK (seqEpoch_at NF rfl (QK (wpAny_newTuple ?_ yZ)));refine QK (wpAny_newList (To ?_) (SJ _));show wpAny (model prog w) A _ P E {s with heap:=((s.heap.update a (Obj.mapSeq λ_=>(#[]:Array Value))).push (seqObj "tuple" vs.toArray 0)).push (seqObj "list" #[] 0)};generalize hh:((s.heap.update a (Obj.mapSeq λ_=>(#[]:Array Value))).push (seqObj "tuple" vs.toArray 0)).push (seqObj "list" #[] 0)=h1;have k1:∀b o,b≠a->s.heap.get? b=some o->h1.get? b=some o:=λb o hb e=>by rw[<-hh];exact QM _ (QM _ ((Rg s.heap _ (SL hb)).trans e))
 have Ls:h1.get? a=some (seqObj "list" #[] e1):=by rw[<-hh];exact QM _ (QM _ NF)
 dsimp only;have fin:∀(iy:SortSt)(p:Array Nat),Ord vs.length p->Up key p vs.length->(arrOf iy).map (·.2)=(p.toList.map λi=>vs.getD i Value.none).toArray->failedOf iy=none->
   wpAny (model prog w) A (do
    let touched:=(<-seqEpoch a) != e1
    Builtin.List.listUpdate (.ref a) λ_=>(arrOf iy).map (·.2)
    if let some e:=failedOf iy then rule "list.sort.comparison-raised";throw e
    if touched then rule "list.sort.modified";raiseError "ValueError" "list modified during sort"
    ret .none) P E {s with heap:=h1}:=λiy p hp hu Dp hf=>by
  refine QK (seqEpoch_at (s:={s with heap:=h1}) Ls rfl ?_);have nY:(p.toList.map λi=>vs.getD i Value.none).toArray.size=vs.length:=by rw[QP,QW,Q7,hp.size]
  rw[Dp];refine QK (listUpdate_at (s:={s with heap:=h1}) Ls rfl ?_ (SJ _) (by rw[nY];omega));rw[hf];simp only[bne_self_eq_false,RF,S8];obtain⟨c2,nU⟩:∃c2,(h1.update a (Obj.mapSeq λ_=>(p.toList.map λi=>vs.getD i Value.none).toArray)).get? a=some (seqObj "list" (p.toList.map λi=>vs.getD i Value.none).toArray c2):=⟨_,get?_update_seq Ls λ_=>_⟩;exact QN (h p _ c2 hp hu (λb o hb e=>(Rg h1 _ (SL hb)).trans (k1 b o hb e)) nU)
 by_cases h2:2<=vs.length
 ·have Dh:¬vs.toArray.size<2:=by rw[QP];omega
  rw[S9 Dh,S9 Dh];obtain⟨κ,Pj,T⟩:=hk h2 h1 k1;refine QK (Pj _ _ ?_);refine QK (Tp (kat_run (s:={s with heap:=h1}) (G:=λp s'=>s'={s with heap:=h1}/\Ord vs.length p/\Up key p vs.length)
   (Q:=λiy s'=>s'={s with heap:=h1}/\∃p:Array Nat,Ord vs.length p/\Up key p vs.length/\(arrOf iy).map (·.2)=(p.toList.map λi=>vs.getD i Value.none).toArray/\failedOf iy=none) rfl h2 OP
   (λp iy s' z1 z2 z3 z4=>⟨z4.1,p,z4.2.1,z4.2.2,kat_snds rfl z2,z3⟩) (Bj T ⋯ λp' hp hu=>⟨rfl,hp,hu⟩)) ?_ λ_ _ e=>e)
  rintro⟨⟨⟩,iy⟩ s' ⟨rfl,p,hp,hu,Dp,hf⟩;exact fin iy p hp hu Dp hf
 ·have Dh:vs.toArray.size<2:=by rw[QP];omega
  rw[Ta Dh,Ta Dh];refine QK (QN ?_);rw[StateT.run_pure];refine QK (QN ?_);refine fin (SortSt.mk' general' (vs.toArray.zip vs.toArray) #[] 7 none) (List.range vs.length).toArray (by unfold MxSort.Ord;simp) (λi j we hj=>?_) ?_ rfl
  ·rw[show i=j by omega];exact RQ _
  ·apply Array.toList_inj.mp;show (((vs.toArray.zip vs.toArray)).map (·.2)).toList=_
   match vs,h2 with
   |[],_=>simp
   |[v],_=>simp
   |_::_::_,h2=>exact absurd ∅ h2
end
section
variable{w:World}{prog:Program}{s:Shared}{A:Around}
theorem Ak{b:Bool}{n m:Nat}{Q:Bool->Shared->Prop}{us vs:List Value}{ds es:List D}(z:Zp false A s us vs ds es):∀(i:Nat),1<=i->ds.length+m=es.length+n->Q (D.eO ds es) s->KatLex prog w A b (decide (n<m)) Q (us.zip vs) i s:=by
 induction z with
 |nil hl=>
  intro i hi hlen q;rw[SA];refine kat_nil ?_;rename_i ws es;cases es with
  |nil=>simp only[R8]at hlen;rw[D.eO]at q;rw[Rc ⋯];exact q
  |cons c u=>simp only[R8,Q5]at hlen;rw[D.eO]at q;rw[Rh ⋯];exact q
 |Au hl=>
  intro i hi hlen q;rw[SC];refine kat_nil ?_;rename_i vs ds;cases ds with
  |nil=>simp only[R8]at hlen;rw[D.eO]at q;rw[Rc ⋯];exact q
  |cons c u=>simp only[R8,Q5]at hlen;rw[D.eO]at q;rw[Rc ⋯];exact q
 |cons he hl z' ih=>
  intro i hi hlen q;rename_i v wv d e uT ws' uJ fB;rw[Sz];simp only[Q5]at hlen;rw[D.cQ]at q;refine kat_cons (he prog w _ _ ?_);by_cases hde:d=e
  ·rw[(D.cq d e).mpr hde];rw[Ta hde]at q;exact kat_yes (ih (i+1) ⋯ ⋯ q)
  ·rw[show D.ft d e=false by rw[D.iK];exact Rc hde];rw[S9 hde]at q;refine kat_no ?_;rw[show (b&&i==0)=false by rw[show (i==0)=false by simp;omega];simp];exact kat_one v wv (hl hde prog w _ _ q)
end
def jd(ds es:List D):Prop:=es.Perm ds/\es.Pairwise λa b=>D.lt b a=false
theorem aP.map{H:Hp}{xs:List V}{ds:List D}(h:aP H xs ds):∀{p:List Nat},(∀i∈p,i<xs.length)->aP H (p.map λi=>xs.getD i .bM) (p.map λi=>ds.getD i (.int 0))
 |[],_=>aP.nil
 |i::p,hp=>by have hi:=hp i QU;obtain⟨d,e1,e2⟩:=h.get (i:=i) (x:=xs[i]) (by simp[hi]);refine aP.cons ?_ (aP.map h λj hj=>hp j (QS _ hj));dsimp only;rw[show xs.getD i .bM=xs[i] by simp[hi],show ds.getD i (.int 0)=d by simp[e1]];exact e2
theorem oP{xs:List V}{us:List Value}(h:au xs us):∀{p:List Nat},(∀i∈p,i<xs.length)->au (p.map λi=>xs.getD i .bM) (p.map λi=>us.getD i .none)
 |[],_=>.nil
 |i::p,hp=>by have hi:=hp i QU;obtain⟨u,e1,e2⟩:=h.get (i:=i) (x:=xs[i]) (by simp[hi]);refine .cons ?_ (oP h λj hj=>hp j (QS _ hj));dsimp only;rw[show xs.getD i .bM=xs[i] by simp[hi],show us.getD i .none=u by simp[e1]];exact e2
theorem jD{α:Type}(l:List α)(d:α):(List.range l.length).map (λi=>l.getD i d)=l:=by
 refine List.ext_getElem ∅ λi h1 h2=>?_
 simp at h1;simp[h1]
end Mx
end
section
namespace L2
open PySem PySem.Spec PyProof.Rows
def ly(env:Env):List (Str×NameKind)->List (Str×Addr)->List (Str×Addr)
 |[],cs=>cs
 |(n,k)::r,cs=>ly env r (if k== .free then(n,(env.cells.lookup n).getD 0)::cs else cs)
def ez(scope:Scope)(env:Env):List (Str×Addr):=ly env scope.names []
theorem jr{env:Env}:∀(l:List (Str×NameKind))(cs:List (Str×Addr)),(∀y∈l,y.2= .free->∃c,env.cells.lookup y.1=some c)->
  (forIn l cs (λx r=>do
   if x.2==NameKind.free then do let a<-cellOf env x.1;pure (ForInStep.yield ((x.1,a)::r)) else pure (ForInStep.yield r)):Sem (List (Str×Addr)))=pure (ly env l cs)
 |[],cs,_=>rfl
 |(n,k)::r,cs,h=>by
  rw[R0];have ih:=λcs=>jr r cs λy hy=>h y (QS _ hy)
  cases hk:(k==NameKind.free) with
  |false=>simp only[hk,RF,S8,ly,pure_bind];exact ih cs
  |true=>
   obtain⟨c,hc⟩:=h (n,k) QU ‹hk›;have kc:env.cells.lookup n=some c:=hc;have e:cellOf env n=pure c:=by unfold cellOf;rw[kc]
   simp only[hk,Tb,ly,e,pure_bind,kc,Option.getD_some];exact ih _
theorem fA{scope:Scope}{env:Env}(h:∀y∈scope.names,y.2= .free->∃c,env.cells.lookup y.1=some c):closureFor scope env=pure (ez scope env):=by have q:=jr (env:=env) scope.names [] h;unfold closureFor ez;rw[<-q];simp only[bind_pure]
theorem il{env:Env}{x:Str}{c:Addr}:∀(l:List (Str×NameKind))(cs:List (Str×Addr)),(∀y∈l,y.2= .free->∃c,env.cells.lookup y.1=some c)->
  (∀c,cs.lookup x=some c->env.cells.lookup x=some c)->(ly env l cs).lookup x=some c->env.cells.lookup x=some c
 |[],cs,_,h2,h=>h2 c h
 |(n,k)::r,cs,h1,h2,h=>by
  refine il r _ (λy hy=>h1 y (QS _ hy)) (λc' kc=>?_) h;by_cases hk:(k==NameKind.free)=true
  ·rw[Ta hk]at kc;rw[Re]at kc;by_cases hx:(x==n)=true
   ·rw[hx]at kc;have wq:x=n:=by simpa using hx
    subst wq;obtain⟨c₁,e⟩:=h1 (x,k) QU ‹hk›;have e':env.cells.lookup x=some c₁:=e;rw[e']at kc ⊢;simpa using kc
   ·rw[Bool.not_eq_true]at hx;rw[hx]at kc;exact h2 c' kc
  ·rw[S9 hk]at kc;exact h2 c' kc
theorem jj{env:Env}{x:Str}:∀(l:List (Str×NameKind))(cs:List (Str×Addr)),(((x,NameKind.free)∈l)\/∃c,cs.lookup x=some c)->∃c,(ly env l cs).lookup x=some c
 |[],cs,h=>by
  rcases h with h|h
  ·cases h
  ·exact h
 |(n,k)::r,cs,h=>by
  refine jj r _ ?_;by_cases hk:(k==NameKind.free)=true
  ·rw[Ta hk];by_cases hx:(x==n)=true
   ·exact .inr ⟨_,by rw[Re,hx]⟩
   ·rw[Bool.not_eq_true]at hx;rcases h with h|h
    ·rcases QZ.mp h with e|h
     ·injection e with e1 e2;subst e1;simp at hx
     ·exact .inl h
    ·exact .inr (by obtain⟨c,e⟩:=h;exact⟨c,by rw[Re,hx];exact e⟩)
  ·rw[S9 hk];rcases h with h|h
   ·rcases QZ.mp h with e|h
    ·injection e with e1 e2;subst e2;exact absurd rfl hk
    ·exact .inl h
   ·exact .inr h
theorem aJ{env:Env}{x:Str}:∀{names:List (Str×NameKind)}{k:NameKind},names.lookup x=some k->
  (names.map λ(n,k)=>if (k==NameKind.free&&env.scope.kind== .function&&env.kindOf n==some .cell) then(n,NameKind.cell) else(n,k)).lookup x=
   some (if (k==NameKind.free&&env.scope.kind== .function&&env.kindOf x==some .cell) then NameKind.cell else k)
 |[],_,h=>by simp at h
 |(n,k')::r,k,h=>by
  have ih:=@aJ env x r k;show List.lookup x ((if (k'==NameKind.free&&env.scope.kind== .function&&env.kindOf n==some .cell)=true then(n,NameKind.cell) else(n,k'))::_)=_;cases hx:x==n with
  |true=>
   have wq:x=n:=by simpa using hx
   subst wq;simp only[Re,hx]at h;cases h;by_cases hc:(k'==NameKind.free&&env.scope.kind== .function&&env.kindOf x==some .cell)=true
   ·simp only[hc,Tb,Re,hx]
   ·rw[S9 hc,S9 hc];simp only[Re,hx]
  |false=>
   simp only[Re,hx]at h;by_cases hc:(k'==NameKind.free&&env.scope.kind== .function&&env.kindOf n==some .cell)=true
   ·rw[Ta hc];simp only[Re,hx];exact ih h
   ·rw[S9 hc];simp only[Re,hx];exact ih h
theorem bD{env:Env}{x:Str}:∀{names:List (Str×NameKind)},names.lookup x=none->
  (names.map λ(n,k)=>if (k==NameKind.free&&env.scope.kind== .function&&env.kindOf n==some .cell) then(n,NameKind.cell) else(n,k)).lookup x=none
 |[],h=>rfl
 |(n,k')::r,h=>by
  show List.lookup x ((if (k'==NameKind.free&&env.scope.kind== .function&&env.kindOf n==some .cell)=true then(n,NameKind.cell) else(n,k'))::_)=_;cases hx:x==n with
  |true=>simp only[Re,hx]at h;cases h
  |false=>
   simp only[Re,hx]at h;by_cases hc:(k'==NameKind.free&&env.scope.kind== .function&&env.kindOf n==some .cell)=true
   ·rw[Ta hc];simp only[Re,hx];exact bD h
   ·rw[S9 hc];simp only[Re,hx];exact bD h
def cu(cap:List (Option Nat))(σ:St):St:=cap.map λo=>o.bind λi=>(σ[i]?).join
def Cr(X:Cx)(ifs:List Expr)(t:TT):Prop:=
 ∀(pins:List (Addr×Obj))(s:Shared)(σ:St)(H:Hp)(Q:Bool->Hp->Prop),Inv X pins σ H s->t σ H Q->
  wpAny (model X.prog X.w) X.A (forIn ifs true λc r=>if r=true then do let ok<-isTrue c X.env (eval c X.env);pure (ForInStep.yield ok) else pure (ForInStep.yield r)) (TP X pins σ Q) X.xe s
def MU:TT:=λ_ H Q=>Q true H
theorem AW{X:Cx}:Cr X [] MU:=λ_ _ _ H _ I h=>wpAny_tests_nil ⟨H,I,h⟩
theorem AX{X:Cx}{c:Expr}{t:TT}(h:PT X c t):Cr X [c] t:=λpins s σ H Q I hw=>wpAny_tests_one (h pins s σ H Q I hw)
def FR(J:It)(g:TG)(tt:TT)(te:TE)(σ0:St)(D:Addr)(F:Hp->Prop)(H1:Hp):Prop:=
 ∃W:Nat->Nat->List V->Hp->Prop,(∃m,W 0 m [] (upd H1 D (.lst [])))/\∀i m acc H,W i m acc H->
  (J.stop i H/\F H)\/(J.go i H/\∀x H',J.yld i H x H'->g x σ0 H' λσ2 H2=>tt σ2 H2 λb H3=>if b=true then te σ2 H3 λv H4=>∃fm,H4 D=some (.lst fm)/\fm.length<sizeLine/\
   ∃m',m'<m/\W (i+1) m' (fm++[v]) (upd H4 D (.lst (fm++[v]))) else∃m',m'<m/\W (i+1) m' acc H3)
end L2
end
section
namespace Mx
open PySem PySem.W PySem.Spec PyProof.Rows L2 PySem.SeqAt
section
variable{X:Cx}
def Mv:V->Option Int->Option Int->Hp->VK->Prop:=λx lo hi H Q=>∃z,x= .str z/\z.length<=sizeLine/\Q (.str (PySem.Txt.slice z lo hi)) H
theorem EX:Fx X Mv:=by
 intro pins s σ H x v vl vu lo hi sl Q I rx hs pl pu h;obtain⟨z,rfl,hz,q⟩:=h;obtain⟨t,rfl⟩:=rx;refine⟨"str",_,PySem.F.slot_str_getitem.lookup,typeIs_str _ _ _,?_⟩;have fin:∀(t':Tok)(k:Nat),EP X pins σ Q (.str (PySem.Txt.slice z lo hi) t') {s with toks:=k}:=λt' k=>⟨.str _,H,I.tok k,⟨t',rfl⟩,q⟩
 have hlen:=QY (PySem.Txt.slice_le z lo hi) hz;obtain⟨o,ho,hc,hd⟩:=hs;cases pl with
 |none=>
  cases pu with
  |none=>exact wpAny_getItem_str_slice (l:=none) (u:=none) (st:=none) ⟨o,ho,hc,hd⟩ rfl (post_val_or_str ⟨hlen,fin⟩)
  |int j tj=>exact wpAny_getItem_str_slice (l:=none) (u:=some (j,tj)) (st:=none) ⟨o,ho,hc,hd⟩ rfl (post_val_or_str ⟨hlen,fin⟩)
 |int i ti=>
  cases pu with
  |none=>exact wpAny_getItem_str_slice (l:=some (i,ti)) (u:=none) (st:=none) ⟨o,ho,hc,hd⟩ rfl (post_val_or_str ⟨hlen,fin⟩)
  |int j tj=>exact wpAny_getItem_str_slice (l:=some (i,ti)) (u:=some (j,tj)) (st:=none) ⟨o,ho,hc,hd⟩ rfl (post_val_or_str ⟨hlen,fin⟩)
def Mp(K:PySem.W.Frag):List V->Hp->VK->Prop:=λxs H Q=>∃x T t b,xs=[x,.ty T]/\f9 K H x t/\PySem.W.kitOne K t (.type T)=some b/\Q (.bl b) H
theorem vm:cT X (.builtin "isinstance") (Mp X.K):=by intro pins s σ H xs us Q I r h;obtain⟨x,T,t,b,rfl,ty,hk,q⟩:=h;obtain⟨u,v,rfl,r1,r2⟩:=r.two;cases r2;exact tU I r1 ty hk λtk=>⟨.bl b,H,I.tok tk,rfl,q⟩
end
end Mx
end
section
namespace Mx
open PySem PySem.Spec PySem.W PyProof.Rows L2 PySem.SeqAt
section
variable{X:Cx}{pos:Pos}
def nN(K:PySem.W.Frag)(n:Nat)(t:uI):TG:=λv σ H Q=>∃a xs,v= .ref a/\(du K H a xs\/cZ K H a xs)/\xs.length=n/\t xs σ H Q
theorem r8{es:List Expr}{k:Nat}{t:uI}{n:Nat}(hc:X.calm=true)(h:Fw X es t)(hn:(assignEach es X.env).length=n)(tS:(assignEach es X.env).findIdx? (·.1)=none):PG X (.Tuple es k pos) (nN X.K n t):=by
 intro pins s σ H v u Q I r hw;obtain⟨a,xs,rfl,hq|hq,hl,hw⟩:=hw
 ·exact El hc h hn tS pins s σ H _ u Q I r ⟨a,xs,rfl,hq,hl,hw⟩
 cases r;obtain⟨its,rv,pl,_⟩:=I.list hq;have e:(assignEach es X.env).length=its.toArray.size:=by rw[hn,<-hl,rv.length,QP]
 rw[arm_assign_Tuple];refine QK (Tz ?_);unfold unpack;rw[tS,e];refine QK (To (PySem.W.kun_itemsOf (I.ok.hd hc) pl.isList λh' hx=>?_));exact h pins _ σ H xs _ Q (I.kept (t':=s.toks) λb o z=>hx b o (Rj (QX z)) z) rv hw
end
end Mx
end
section
namespace Mx
open PySem PySem.W PySem.Spec PyProof.Rows L2
structure uZ(z TI TO i1 i2:Addr):Prop where
 TIz:TI≠z
 TOz:TO≠z
 i1z:i1≠z
 i2z:i2≠z
 TITO:TI≠TO
 TIi1:TI≠i1
 TIi2:TI≠i2
 TOi1:TO≠i1
 TOi2:TO≠i2
 i12:i1≠i2
theorem bI{H:Hp}{p:Addr}(h:H p=none)(o:HO):aT H (upd H p o):=λb u q=>by rw[aC (aK q h)];exact q
theorem kT{H H':Hp}(h:aT H H'):zf H H':=λa xs q=>h a _ q
theorem yd{H1 H:Hp}{D:Addr}{o:HO}(h:aT H1 H)(hD:H1 D=none):aT H1 (upd H D o):=λb u q=>by rw[aC (aK q hD)];exact h b u q
theorem j3{H:Hp}{D:Addr}{xs ys:List V}(hD:H D=some (.lst xs)):zf H (upd H D (.lst ys)):=λb zs q=>by
 by_cases e:b=D
 ·subst e;rw[hD]at q;cases q
 ·rw[aC e];exact q
section
variable{g:TG}{tt:TT}{te:TE}{σ0:L2.St}{D:Addr}{F:Hp->Prop}{H1:Hp}
theorem nF{J:It}{n:Nat}(hD:H1 D=none)(E:Nat->List Mx.D)(hE:E 0=[])(hn:n<sizeLine)(go:∀i H,i<n->aT H1 H->J.go i H)(stop:∀H,aT H1 H->J.stop n H)
  (hs:∀i x H H',i<n->aT H1 H->J.yld i H x H'->aT H H'/\∀(N:V->Hp->Prop)(M:Hp->Prop),(∀v H4 e,aT H' H4->DV H4 v e->E (i+1)=E i++[e]->N v H4)->(∀H3,aT H' H3->E (i+1)=E i->M H3)->
   g x σ0 H' λσ2 H2=>tt σ2 H2 λb H3=>if b=true then te σ2 H3 N else M H3)
  (hd:∀H acc,aT H1 H->H D=some (.lst acc)->aP H acc (E n)->F H):FR J g tt te σ0 D F H1:=by
 refine⟨λi m acc H=>m=n-i/\i<=n/\aT H1 H/\H D=some (.lst acc)/\aP H acc (E i)/\acc.length<=i,⟨n,∅,SJ _,bI hD _,aB,by rw[hE];exact aP.nil,QT _⟩,?_⟩;rintro i m acc H ⟨rfl,hi,hS,Ll,q9,Pm⟩;by_cases cP:i<n
 ·refine .inr ⟨go i H cP hS,λx H' y=>?_⟩;obtain⟨s1,st⟩:=hs i x H H' cP hS y;refine st _ _ (λv H4 e s4 he e4=>?_) (λH3 s3 e3=>?_)
  ·have MD:=s1.trans s4;have GK:=MD _ _ Ll;refine⟨acc,GK,⋯,n-(i+1),⋯,rfl,cP,yd (hS.trans MD) hD,aB,?_,by simp;omega⟩;rw[e4];exact(aP.append (q9.mono (kT MD)) (aP.cons he aP.nil)).mono (j3 GK)
  ·have MC:=s1.trans s3;exact⟨n-(i+1),⋯,rfl,cP,hS.trans MC,MC _ _ Ll,by rw[e3];exact q9.mono (kT MC),⋯⟩
 ·have e:i=n:=⋯
  subst e;exact .inl ⟨stop H hS,hd H acc hS Ll q9⟩
end
def bE:Bool->Heap->Addr->Addr->Nat->Prop
 |false,h,i,l,k=>h.IsListIter i l k
 |true,h,i,l,k=>h.IsTupleIter i l k
def eG:Bool->Heap->Addr->Array Value->Prop
 |false,h,l,xs=>h.IsList l xs
 |true,h,l,xs=>h.IsTuple l xs
theorem bE.at:∀{b:Bool}{h h':Heap}{i l:Addr}{k:Nat},bE b h i l k->(∀o,h.get? i=some o->h'.get? i=some o)->bE b h' i l k
 |false,_,_,_,_,_,x,e=>Heap.IsListIter.at x e
 |true,_,_,_,_,_,x,e=>Heap.IsTupleIter.at x e
theorem eG.at:∀{b:Bool}{h h':Heap}{l:Addr}{xs:Array Value},eG b h l xs->(∀o,h.get? l=some o->h'.get? l=some o)->eG b h' l xs
 |false,_,_,_,_,x,e=>let ⟨o,ho,r⟩:=x;⟨o,e o ho,r⟩
 |true,_,_,_,_,x,e=>let ⟨o,ho,r⟩:=x;⟨o,e o ho,r⟩
theorem bE.obj:∀{b:Bool}{h:Heap}{i l:Addr}{k:Nat},bE b h i l k->∃o,h.get? i=some o/\∀v,o.data≠ .cell v
 |false,_,_,_,_,x=>by obtain⟨o,e,c,d⟩:=x;exact⟨o,e,λv q=>by rw[d]at q;cases q⟩
 |true,_,_,_,_,x=>by obtain⟨o,e,c,d⟩:=x;exact⟨o,e,λv q=>by rw[d]at q;cases q⟩
section
variable{prog:Program}{w:World}{A:Around}{E:Value->Shared->Prop}{s:Shared}
theorem qq{it t:Addr}{i:Nat}{items:Array Value}{x:Value}{Q:Value->Shared->Prop}(tP:s.heap.IsTupleIter it t i)(ht:s.heap.IsTuple t items)(hx:items[i]?=some x)
  (hQ:∀h',h'.IsTupleIter it t (i+1)->Heap.SameBut it s.heap h'->Q x {s with heap:=h'}):wpAny (model prog w) A (Builtin.SmallTypes.nextOf (.ref it)) Q E s:=by
 obtain⟨o,ho,hc,hd⟩:=id tP;obtain⟨ol,LJ,_,nl,JO⟩:=ht;unfold Builtin.SmallTypes.nextOf;refine QK (Tj (name:=Str.ofString "__next__") tP.typeIs RL (Tl RL tP.typeIs RK (show wpAny _ _ (field (.ref it) 0 >>=_) _ _ s from QK (Tn ho hd (x:=.ref t) rfl ?_)) (RJ _)));show wpAny _ _ (if (Value.ref t==Value.none)=true then _ else _) _ _ s;rw[S9 (show¬((Value.ref t==Value.none)=true) from RG)];refine(show wpAny _ _ (field (.ref it) 1 >>=_) _ _ s from QK (Tn ho hd (x:=.int i 0) rfl (show wpAny _ _ (seqItems? (.ref t) >>=_) _ _ s from QK (Tx LJ JO ?_))));simp only[RN,hx];refine QK (wpAny_setField ho hd ∅ (QN ⟨x,rfl,QN (hQ _ ⟨_,Heap.get?_update_self _ ho (Obj.isFreed_of_fields (Obj.data_mapFields hd _)),(Obj.cls_mapFields ..).trans hc,?_⟩ (Heap.SameBut.update ..))⟩));rw[Obj.data_mapFields hd];simp[rawInt]
theorem uz{it t:Addr}{i:Nat}{items:Array Value}{Q:Value->Shared->Prop}(hh:A.handled=none)(tP:s.heap.IsTupleIter it t i)(ht:s.heap.IsTuple t items)(hx:items[i]?=none)
  (hE:∀h' e,Heap.ExtBut it s.heap h'->(∃o,h'.get? e=some o/\o.cls= .type "StopIteration")->E (.ref e) {s with heap:=h'}):wpAny (model prog w) A (Builtin.SmallTypes.nextOf (.ref it)) Q E s:=by
 obtain⟨o,ho,hc,hd⟩:=id tP;obtain⟨ol,LJ,_,nl,JO⟩:=ht;unfold Builtin.SmallTypes.nextOf;refine QK (Tj (name:=Str.ofString "__next__") tP.typeIs RL (Tl RL tP.typeIs RK (show wpAny _ _ (field (.ref it) 0 >>=_) _ _ s from QK (Tn ho hd (x:=.ref t) rfl ?_)) (RJ _)));show wpAny _ _ (if (Value.ref t==Value.none)=true then _ else _) _ _ s;rw[S9 (show¬((Value.ref t==Value.none)=true) from RG)];refine(show wpAny _ _ (field (.ref it) 1 >>=_) _ _ s from QK (Tn ho hd (x:=.int i 0) rfl (show wpAny _ _ (seqItems? (.ref t) >>=_) _ _ s from QK (Tx LJ JO ?_))));simp only[RN,hx];refine QK (Tw (QK (wpAny_setField ho hd ∅ (show wpAny _ _ (newExc (.type "StopIteration") [] >>=_) _ _ _ from QK ?_))));simp only[newExc,newTuple];refine QK (Tq (QK (m:=firstArgMember _ _) (wpAny_of_eq (a:=Value.none) (by first|rfl|(simp only[firstArgMember];rfl)) (Tq ?_ (by size_fits)))) (by size_fits));simp only[raiseNew];refine QK (wpAny_handled ?_)
 first|rw[show A.in1.handled=none from hh]|rw[hh]
 exact QK (QN (wpAny_throw (hE _ _ (((Heap.SameBut.update ..).extBut.push _).push _) ⟨_,QV _ rfl,rfl⟩)))
theorem fS{b:Bool}{it l:Addr}{i:Nat}{items:Array Value}{x:Value}{Q:Value->Shared->Prop}(tP:bE b s.heap it l i)(hl:eG b s.heap l items)(hx:items[i]?=some x)
  (hQ:∀h',bE b h' it l (i+1)->Heap.SameBut it s.heap h'->Q x {s with heap:=h'}):wpAny (model prog w) A (Builtin.SmallTypes.nextOf (.ref it)) Q E s:=by
 cases b with
 |false=>exact wpAny_nextOf_list_item tP hl hx hQ
 |true=>exact qq tP hl hx hQ
theorem kG{b:Bool}{it l:Addr}{i:Nat}{items:Array Value}{Q:Value->Shared->Prop}(hh:A.handled=none)(tP:bE b s.heap it l i)(hl:eG b s.heap l items)(hx:items[i]?=none)
  (hE:∀h' e,Heap.ExtBut it s.heap h'->(∃o,h'.get? e=some o/\o.cls= .type "StopIteration")->E (.ref e) {s with heap:=h'}):wpAny (model prog w) A (Builtin.SmallTypes.nextOf (.ref it)) Q E s:=by
 cases b with
 |false=>exact wpAny_nextOf_list_end hh tP hl hx hE
 |true=>exact uz hh tP hl hx hE
end
structure gU(z TO i1 i2 l:Addr):Prop where
 z:l≠z
 o:l≠TO
 a:l≠i1
 b:l≠i2
section
variable{prog:Program}{w:World}{A:Around}{E:Value->Shared->Prop}{s:Shared}
theorem uF{b1 b2:Bool}{z TI TO i1 i2 l1 l2:Addr}{k1 k2:Nat}{xs ys:Array Value}{x y a b:Value}{Q:Option Value->Shared->Prop}(D:uZ z TI TO i1 i2)(O1:gU z TO i1 i2 l1)(O2:gU z TO i1 i2 l2)
  (hz:IsZip s.heap z TI TO .none) (Ln:IsPair s.heap TI (.ref i1) (.ref i2)) (Lp:IsPair s.heap TO a b) (h1:bE b1 s.heap i1 l1 k1) (h2:bE b2 s.heap i2 l2 k2) (fQ:eG b1 s.heap l1 xs) (fE:eG b2 s.heap l2 ys) (hx:xs[k1]?=some x) (hy:ys[k2]?=some y)
  (hQ:∀h',IsZip h' z TI TO (rawInt s.heap.objs.size)->IsPair h' TO x y->bE b1 h' i1 l1 (k1+1)->bE b2 h' i2 l2 (k2+1)->IsPair h' s.heap.objs.size x y->
   (∀c o,c≠z->c≠TO->c≠i1->c≠i2->s.heap.get? c=some o->h'.get? c=some o)->Q (some (.ref s.heap.objs.size)) {s with heap:=h'}):wpAny (model prog w) A (pyNext (.ref z)) Q E s:=by
 have hT:s.TypeIs (.ref z) "zip":=⟨_,hz,rfl⟩;unfold pyNext;refine QK (wpAny_attempt (Tj (name:=Str.ofString "__next__") hT RM (Tl RM hT F.entry_zip_next ?_ (F.args_zip_next_1 _))));refine(show wpAny _ _ (field (.ref z) 2 >>=_) _ _ _ from QK (Tn hz rfl (x:=.bool false) rfl (show wpAny _ _ (field (.ref z) 3 >>=_) _ _ _ from QK (Tn hz rfl (x:=.ref TI) rfl (QK (Tx Ln rfl (show wpAny _ _ (Builtin.SmallTypes.ownedTupleIsFree (.ref z) >>=_) _ _ _ from QK ?_)))))));unfold Builtin.SmallTypes.ownedTupleIsFree;refine QK (Tn hz rfl (x:=.none) rfl (QN ?_));simp only[Tb];refine QK (Tw (QK (Tn hz rfl (x:=.ref TO) rfl (QK (Rl hz ∅ λg1 z1 e1=>QK ?_)))))
 replace z1:IsZip g1 z TI TO .ellipsis:=z1
 simp only[List.zipIdx_cons,List.zipIdx_nil,R0,List.forIn_nil];refine QK (QK (Tr (show wpAny _ _ (Builtin.SmallTypes.nextOf (.ref i1) >>=_) _ _ _ from QK (fS (h1.at λo q=>e1.extBut _ o D.i1z q) (fQ.at λo q=>e1.extBut _ o O1.z q) hx λg2 j1 e2=>QN ?_))));have t2:IsPair g2 TO a b:=e2.extBut _ _ D.TOi1 (e1.extBut _ _ D.TOz Lp);refine QK (Tx t2 rfl (QK (TH t2 λg3 t3 e3=>QK (wpAny_letGo (QN ?_)))))
 replace t3:IsPair g3 TO x b:=t3
 refine QK (QK (Tr (show wpAny _ _ (Builtin.SmallTypes.nextOf (.ref i2) >>=_) _ _ _ from QK (fS (h2.at λo q=>e3.extBut _ o D.TOi2.symm (e2.extBut _ o D.i12.symm (e1.extBut _ o D.i2z q))) (fE.at λo q=>e3.extBut _ o O2.o (e2.extBut _ o O2.a (e1.extBut _ o O2.z q))) hy λg4 j2 e4=>QN ?_))));have t4:IsPair g4 TO x b:=e4.extBut _ _ D.TOi2 t3;refine QK (Tx t4 rfl (QK (TH t4 λg5 t5 e5=>QK (wpAny_letGo (QN (QN ?_))))))
 replace t5:IsPair g5 TO x y:=t5
 refine QK (Tx t5 rfl (QK (wpAny_newTuple ?_)));have sz:g5.objs.size=s.heap.objs.size:=by rw[e5.1,e4.1,e3.1,e2.1,e1.1]
 have z5:IsZip g5 z TI TO .ellipsis:=e5.extBut _ _ D.TOz.symm (e4.extBut _ _ D.i2z.symm (e3.extBut _ _ D.TOz.symm (e2.extBut _ _ D.i1z.symm z1)));have old:∀c o,c≠z->c≠TO->c≠i1->c≠i2->s.heap.get? c=some o->g5.get? c=some o:=λc o c1 c2 c3 c4 q=>e5.extBut _ _ c2 (e4.extBut _ _ c4 (e3.extBut _ _ c2 (e2.extBut _ _ c3 (e1.extBut _ _ c1 q))))
 have n1:bE b1 g5 i1 l1 (k1+1):=j1.at λo q=>e5.extBut _ o D.TOi1.symm (e4.extBut _ o D.i12 (e3.extBut _ o D.TOi1.symm q))
 have n2:bE b2 g5 i2 l2 (k2+1):=j2.at λo q=>e5.extBut _ o D.TOi2.symm q
 have Og:z<g5.objs.size:=QX z5;refine(show wpAny _ _ (Builtin.SmallTypes.ownedTupleHandOut (.ref z) (.ref g5.objs.size) >>=_) _ _ _ from QK ?_);unfold Builtin.SmallTypes.ownedTupleHandOut;have z6:IsZip (g5.push {cls:=.type "tuple",data:=.seq #[x,y]}) z TI TO .ellipsis:=QM _ z5;refine QK (Rl z6 ∅ λg7 z7 e7=>?_)
 replace z7:IsZip g7 z TI TO (rawInt g5.objs.size):=z7
 refine Rl z7 ∅ λg8 z8 e8=>?_
 replace z8:IsZip g8 z TI TO (rawInt g5.objs.size):=z8
 have up:∀c o,c≠z->g5.get? c=some o->g8.get? c=some o:=λc o c1 q=>e8.extBut _ _ c1 (e7.extBut _ _ c1 (QM _ q))
 have t8:IsPair g8 g5.objs.size x y:=e8.extBut _ _ (SI Og) (e7.extBut _ _ (SI Og) (QV _ rfl));rw[sz]at z8 t8;refine QN ⟨_,rfl,QN ?_⟩;show Q (some (.ref g5.objs.size)) _;rw[sz];exact hQ g8 z8 (up _ _ D.TOz t5) (n1.at λo q=>up _ o D.i1z q) (n2.at λo q=>up _ o D.i2z q) t8 λc o c1 c2 c3 c4 q=>up c o c1 (old c o c1 c2 c3 c4 q)
theorem yN{b1 b2:Bool}{z TI TO i1 i2 l1 l2:Addr}{k1 k2:Nat}{xs ys:Array Value}{a b:Value}{Q:Option Value->Shared->Prop}(hh:A.handled=none)(D:uZ z TI TO i1 i2)(O1:gU z TO i1 i2 l1)(O2:gU z TO i1 i2 l2)
  (hz:IsZip s.heap z TI TO .none) (Ln:IsPair s.heap TI (.ref i1) (.ref i2)) (Lp:IsPair s.heap TO a b) (h1:bE b1 s.heap i1 l1 k1) (h2:bE b2 s.heap i2 l2 k2) (fQ:eG b1 s.heap l1 xs) (fE:eG b2 s.heap l2 ys) (G2:xs[k1]?=none\/ys[k2]?=none)
  (hQ:∀h',(∀c o,c≠z->c≠TO->c≠i1->c≠i2->s.heap.get? c=some o->h'.get? c=some o)->Q none {s with heap:=h'}):wpAny (model prog w) A (pyNext (.ref z)) Q E s:=by
 have hT:s.TypeIs (.ref z) "zip":=⟨_,hz,rfl⟩;unfold pyNext;refine QK (wpAny_attempt (Tj (name:=Str.ofString "__next__") hT RM (Tl RM hT F.entry_zip_next ?_ (F.args_zip_next_1 _))));have stop:∀(h':Heap)(e:Addr),(∀c o,c≠z->c≠TO->c≠i1->c≠i2->s.heap.get? c=some o->h'.get? c=some o)->(∃o,h'.get? e=some o/\o.cls= .type "StopIteration")->wpAny (model prog w) A (isInstance (.ref e) (.type "StopIteration")) (λr s'=>r=true/\Q none s') E {s with heap:=h'}:=λh' e kk he=>by obtain⟨o,ho,hc⟩:=he;exact wpAny_isInstance (T:="StopIteration") (b:=true) ⟨o,ho,hc⟩ isSubtype_stop ⟨rfl,hQ _ kk⟩
 refine(show wpAny _ _ (field (.ref z) 2 >>=_) _ _ _ from QK (Tn hz rfl (x:=.bool false) rfl (show wpAny _ _ (field (.ref z) 3 >>=_) _ _ _ from QK (Tn hz rfl (x:=.ref TI) rfl (QK (Tx Ln rfl (show wpAny _ _ (Builtin.SmallTypes.ownedTupleIsFree (.ref z) >>=_) _ _ _ from QK ?_)))))));unfold Builtin.SmallTypes.ownedTupleIsFree;refine QK (Tn hz rfl (x:=.none) rfl (QN ?_));simp only[Tb];refine QK (Tw (QK (Tn hz rfl (x:=.ref TO) rfl (QK (Rl hz ∅ λg1 z1 e1=>QK ?_)))))
 replace z1:IsZip g1 z TI TO .ellipsis:=z1
 simp only[List.zipIdx_cons,List.zipIdx_nil,R0,List.forIn_nil];refine QK (QK (Tr ?_));show wpAny _ _ (Builtin.SmallTypes.nextOf (.ref i1) >>=_) _ _ _;cases hx:xs[k1]? with
 |none=>
  refine QK (kG hh (h1.at λo q=>e1.extBut _ o D.i1z q) (fQ.at λo q=>e1.extBut _ o O1.z q) hx λg2 e e2 he=>?_);obtain⟨oe,Dj,GV⟩:=he;have z2:IsZip g2 z TI TO .ellipsis:=e2 _ _ D.i1z.symm z1;have Lz:e≠z:=λx=>by subst x;rw[z2]at Dj;cases Dj;simp at GV
  refine Rl z2 ∅ λg3 _ e3=>?_
  refine QK (Tp (stop g3 e (λc o c1 _ c3 _ x=>e3.extBut _ _ c1 (e2 _ _ c3 (e1.extBut _ _ c1 x))) ⟨oe,e3.extBut _ _ Lz Dj,GV⟩) (λr s' q=>?_) λ_ _ q=>q);obtain⟨rfl,q⟩:=q;exact QN q
 |some x=>
  have hy:ys[k2]?=none:=by rcases G2 with h|h;rw[hx]at h;cases h;exact h
  refine QK (fS (h1.at λo q=>e1.extBut _ o D.i1z q) (fQ.at λo q=>e1.extBut _ o O1.z q) hx λg2 j1 e2=>QN ?_);have t2:IsPair g2 TO a b:=e2.extBut _ _ D.TOi1 (e1.extBut _ _ D.TOz Lp);refine QK (Tx t2 rfl (QK (TH t2 λg3 t3 e3=>QK (wpAny_letGo (QN ?_)))));refine QK (QK (Tr (show wpAny _ _ (Builtin.SmallTypes.nextOf (.ref i2) >>=_) _ _ _ from QK (kG hh (h2.at λo q=>e3.extBut _ o D.TOi2.symm (e2.extBut _ o D.i12.symm (e1.extBut _ o D.i2z q))) (fE.at λo q=>e3.extBut _ o O2.o (e2.extBut _ o O2.a (e1.extBut _ o O2.z q))) hy λg4 e e4 he=>?_))));obtain⟨oe,Dj,GV⟩:=he;have z4:IsZip g4 z TI TO .ellipsis:=e4 _ _ D.i2z.symm (e3.extBut _ _ D.TOz.symm (e2.extBut _ _ D.i1z.symm z1));have Lz:e≠z:=λx=>by subst x;rw[z4]at Dj;cases Dj;simp at GV
  refine Rl z4 ∅ λg5 _ e5=>?_
  refine QK (Tp (stop g5 e (λc o c1 c2 c3 c4 x=>e5.extBut _ _ c1 (e4 _ _ c4 (e3.extBut _ _ c2 (e2.extBut _ _ c3 (e1.extBut _ _ c1 x))))) ⟨oe,e5.extBut _ _ Lz Dj,GV⟩) (λr s' q=>?_) λ_ _ q=>q);obtain⟨rfl,q⟩:=q;exact QN q
end
def nZ:Bool->Addr->Obj
 |false,l=>{cls:=.type "list_iterator",data:=.fields #[.ref l,.int 0 0]}
 |true,l=>{cls:=.type "tuple_iterator",data:=.fields #[.ref l,.int 0 0]}
theorem n0:∀{b:Bool}{h:Heap}{i l:Addr},h.get? i=some (nZ b l)->bE b h i l 0
 |false,_,_,_,e=>⟨_,e,rfl,rfl⟩
 |true,_,_,_,e=>⟨_,e,rfl,rfl⟩
theorem kF(b:Bool)(l:Addr):(nZ b l).isFreed=false:=by cases b<;>rfl
abbrev Ke(h:Heap)(b1:Bool)(l1:Addr):Heap:=h.push (nZ b1 l1)
abbrev Kf(h:Heap)(b1 b2:Bool)(l1 l2:Addr):Heap:=(Ke h b1 l1).push (nZ b2 l2)
abbrev Kg(h:Heap)(b1 b2:Bool)(l1 l2:Addr):Heap:=(Kf h b1 b2 l1 l2).push {cls:=.type "tuple",data:=.seq #[.ref h.objs.size,.ref (Ke h b1 l1).objs.size]}
abbrev Kh(h:Heap)(b1 b2:Bool)(l1 l2:Addr):Heap:=(Kg h b1 b2 l1 l2).push {cls:=.type "tuple",data:=.seq #[.none,.none]}
abbrev FQ(h:Heap)(b1 b2:Bool)(l1 l2:Addr):Heap:=(Kh h b1 b2 l1 l2).push {cls:=.type "zip",data:=.fields #[.none,.bool false,.bool false,.ref (Kf h b1 b2 l1 l2).objs.size,.ref (Kg h b1 b2 l1 l2).objs.size]}
theorem eG.push{b:Bool}{h:Heap}{l:Addr}{xs:Array Value}(x:eG b h l xs)(o:Obj):eG b (h.push o) l xs:=x.at λ_ e=>QM _ e
theorem yO(b1 b2:Bool)(l1 l2:Addr)(xs ys:Array Value):
  Meets (Builtin.«zip.__new__» ⟨[.type "zip",.ref l1,.ref l2],[]⟩) (λ_ R s=>eG b1 s.heap l1 xs/\eG b2 s.heap l2 ys/\R (.ok (.ret (.ref (Kh s.heap b1 b2 l1 l2).objs.size))) {s with heap:=FQ s.heap b1 b2 l1 l2}):=
 .of_wp λprog w A R s h=>by
  obtain⟨hp,g,d,tk,os⟩:=s;obtain⟨fQ,fE,h⟩:=h;have PH:=sub_zip;have JL:=fE.push (nZ b1 l1);cases b1<;>cases b2
  ·have k1:Heap.IsList (Shared.heap ⟨hp,g,d,tk,os⟩) l1 xs:=fQ;have k2:Heap.IsList (Shared.heap ⟨hp.push {cls:=.type "list_iterator",data:=.fields #[.ref l1,.int 0 0]},g,d,tk,os⟩) l2 ys:=JL
   wp_walk using Tu k1,Tu k2
   exact⟨_,rfl,h⟩
  ·have k1:Heap.IsList (Shared.heap ⟨hp,g,d,tk,os⟩) l1 xs:=fQ;have k2:Heap.IsTuple (Shared.heap ⟨hp.push {cls:=.type "list_iterator",data:=.fields #[.ref l1,.int 0 0]},g,d,tk,os⟩) l2 ys:=JL
   wp_walk using Tu k1,Tv k2
   exact⟨_,rfl,h⟩
  ·have k1:Heap.IsTuple (Shared.heap ⟨hp,g,d,tk,os⟩) l1 xs:=fQ;have k2:Heap.IsList (Shared.heap ⟨hp.push {cls:=.type "tuple_iterator",data:=.fields #[.ref l1,.int 0 0]},g,d,tk,os⟩) l2 ys:=JL
   wp_walk using Tv k1,Tu k2
   exact⟨_,rfl,h⟩
  ·have k1:Heap.IsTuple (Shared.heap ⟨hp,g,d,tk,os⟩) l1 xs:=fQ;have k2:Heap.IsTuple (Shared.heap ⟨hp.push {cls:=.type "tuple_iterator",data:=.fields #[.ref l1,.int 0 0]},g,d,tk,os⟩) l2 ys:=JL
   wp_walk using Tv k1,Tv k2
   exact⟨_,rfl,h⟩
section
variable{prog:Program}{w:World}{A:Around}{E:Value->Shared->Prop}{s:Shared}
theorem tE{b1 b2:Bool}{l1 l2:Addr}{xs ys:Array Value}{Q:Value->Shared->Prop}(fQ:eG b1 s.heap l1 xs)(fE:eG b2 s.heap l2 ys)
  (h:∀h',IsZip h' (s.heap.objs.size+4) (s.heap.objs.size+2) (s.heap.objs.size+3) .none->IsPair h' (s.heap.objs.size+2) (.ref s.heap.objs.size) (.ref (s.heap.objs.size+1))->IsPair h' (s.heap.objs.size+3) .none .none->
   bE b1 h' s.heap.objs.size l1 0->bE b2 h' (s.heap.objs.size+1) l2 0->(∀c o,s.heap.get? c=some o->h'.get? c=some o)->Q (.ref (s.heap.objs.size+4)) {s with heap:=h'}):wpAny (model prog w) A (call (.type "zip") [.ref l1,.ref l2]) Q E s:=by
 refine callType_new F.called_zip ‹_› (F.typeCall_zip_2 _ _) (F.newCall_zip_2 _ _) (λobj=>F.args_object_init_3 obj _ _) F.entry_zip_new (yO b1 b2 l1 l2 xs ys) ⟨fQ,fE,?_⟩;have y1:(Ke s.heap b1 l1).objs.size=s.heap.objs.size+1:=Ri ..;have y2:(Kf s.heap b1 b2 l1 l2).objs.size=s.heap.objs.size+2:=by rw[Ri,y1]
 have y3:(Kg s.heap b1 b2 l1 l2).objs.size=s.heap.objs.size+3:=by rw[Ri,y2]
 have y4:(Kh s.heap b1 b2 l1 l2).objs.size=s.heap.objs.size+4:=by rw[Ri,y3]
 have g5:(FQ s.heap b1 b2 l1 l2).get? (Kh s.heap b1 b2 l1 l2).objs.size=some _:=QV _ rfl;have g4:(FQ s.heap b1 b2 l1 l2).get? (Kg s.heap b1 b2 l1 l2).objs.size=some _:=QM _ (QV _ rfl);have g3:(FQ s.heap b1 b2 l1 l2).get? (Kf s.heap b1 b2 l1 l2).objs.size=some _:=QM _ (QM _ (QV _ rfl));have g2:(FQ s.heap b1 b2 l1 l2).get? (Ke s.heap b1 l1).objs.size=some _:=QM _ (QM _ (QM _ (QV _ (kF b2 l2))));have g1:(FQ s.heap b1 b2 l1 l2).get? s.heap.objs.size=some _:=QM _ (QM _ (QM _ (QM _ (QV _ (kF b1 l1)))));show _/\_;rw[y2,y3,y4]at g5;rw[y1,y2]at g3;rw[y3]at g4;rw[y1]at g2;rw[y4];exact⟨⟨_,g5,rfl⟩,h _ g5 g3 g4 (n0 g1) (n0 g2) λc o x=>QM _ (QM _ (QM _ (QM _ (QM _ x))))⟩
end
def oY:Bool->List V->HO
 |false,xs=>.lst xs
 |true,xs=>.tup xs
theorem rf{b:Bool}{xs ys:List V}(h:oY b xs=oY b ys):xs=ys:=by
 cases b with
 |false=>injection h
 |true=>injection h
def Km(b1 b2:Bool)(l1 l2:Addr):It where
 go:=λi H=>∃xs ys x y,H l1=some (oY b1 xs)/\H l2=some (oY b2 ys)/\xs[i]?=some x/\ys[i]?=some y
 yld:=λi H v H'=>∃p x y,v= .ref p/\H p=none/\H'=upd H p (.tup [x,y])/\∀xs ys,H l1=some (oY b1 xs)->H l2=some (oY b2 ys)->xs[i]?=some x/\ys[i]?=some y
 stop:=λi H=>∃xs ys,H l1=some (oY b1 xs)/\H l2=some (oY b2 ys)/\(xs.length<=i\/ys.length<=i)
theorem fk{X:Cx}{pins:List (Addr×Obj)}{s:Shared}{σ:L2.St}{H:Hp}(I:Inv X pins σ H s){b:Bool}{l:Addr}{xs:List V}(h:H l=some (oY b xs)):∃its:List Value,au xs its/\eG b s.heap l its.toArray:=by
 cases b with
 |false=>obtain⟨its,r,p,_⟩:=I.list (.inl (.inl h));exact⟨its,r,p.isList⟩
 |true=>obtain⟨its,r,p,_⟩:=I.tuple (.inl (.inl h));exact⟨its,r,p⟩
def Qn(b1 b2:Bool)(z TI TO i1 i2 l1 l2:Addr)(i:Nat)(h:Heap):Prop:=IsZip h z TI TO .none/\IsPair h TI (.ref i1) (.ref i2)/\(∃a b,IsPair h TO a b)/\bE b1 h i1 l1 i/\bE b2 h i2 l2 i
theorem uE{P:Program}{w:World}{K:PySem.W.Frag}{es:List Expr}{k:Nat}{tp:Pos}{b1 b2:Bool}{z TI TO i1 i2 l1 l2:Addr}(ap:uZ z TI TO i1 i2):
  Turn P w K (.Tuple es k tp) (Km b1 b2 l1 l2) [z,TI,TO,i1,i2] z (Qn b1 b2 z TI TO i1 i2 l1 l2) where
 mem:=by simp
 obj:=λi h st b hb=>by
  obtain⟨s1,s2,⟨a,b',s3⟩,s4,s5⟩:=st;simp only[QZ,Q0,Te]at hb;rcases hb with rfl|rfl|rfl|rfl|rfl
  ·exact⟨_,s1,λv q=>by cases q⟩
  ·exact⟨_,s2,λv q=>by cases q⟩
  ·exact⟨_,s3,λv q=>by cases q⟩
  ·exact s4.obj
  ·exact s5.obj
 keep:=λi h h' st kk=>by obtain⟨s1,s2,⟨a,b',s3⟩,s4,s5⟩:=st;exact⟨kk z ∅ _ s1,kk TI ∅ _ s2,⟨a,b',kk TO ∅ _ s3⟩,s4.at λo e=>kk i1 ∅ o e,s5.at λo e=>kk i2 ∅ o e⟩
 item:=by
  intro X hP hw hK hc i pins s σ H E I hf st hg;subst hP hw hK;obtain⟨xs,ys,x,y,fQ,fE,hx,hy⟩:=hg;obtain⟨s1,s2,⟨a,b',s3⟩,s4,s5⟩:=st;obtain⟨gX,r1,p1⟩:=fk I fQ;obtain⟨bw,r2,p2⟩:=fk I fE;obtain⟨u1,Ha,Qa⟩:=r1.get hx;obtain⟨u2,PJ,Qb⟩:=r2.get hy;have ne:∀{l:Addr}{o:HO},H l=some o->∀b∈[z,TI,TO,i1,i2],l≠b:=λ {l o} hl b hb e=>by subst e;rw[(hf l hb).1]at hl;cases hl
  have off:∀{l:Addr}{o:HO},H l=some o->gU z TO i1 i2 l:=λ {l o} hl=>⟨ne hl z ∅,ne hl TO ∅,ne hl i1 ∅,ne hl i2 ∅⟩
  refine uF ap (off fQ) (off fE) s1 s2 s3 s4 s5 p1 p2 ‹Ha› ‹PJ› λh' a1 a2 a3 a4 a5 a7=>⟨_,rfl,?_⟩
  refine wpAny_letOwnedTupleGo_zip (s:={s with heap:=h'}) a1 λh2 c1 c2=>?_
  have O6:s.heap.objs.size≠z:=λe=>by have:=QX s1;rw[<-e]at this;exact SF _ this
  have Lo:IsPair h2 TI (.ref i1) (.ref i2):=(c2.2 TI ap.TIz).trans (a7 TI _ ap.TIz ap.TITO ap.TIi1 ap.TIi2 s2);have OY:h2.get? s.heap.objs.size=some {cls:=.type "tuple",data:=.seq #[u1,u2]}:=(c2.2 _ O6).trans a5;have kk:∀b o,b∉[z,TI,TO,i1,i2]->s.heap.get? b=some o->h2.get? b=some o:=λb o hb e=>by simp only[QZ,Q0,Te,not_or]at hb;exact(c2.2 b hb.1).trans (a7 b o hb.1 hb.2.2.1 hb.2.2.2.1 hb.2.2.2.2 e)
  have lt:∀{b:Addr}{o:Obj},s.heap.get? b=some o->b≠s.heap.objs.size:=λe=>Rj (QX e)
  have HG:∀b u,H b=some u->b∉[z,TI,TO,i1,i2]:=λb u e hb=>by rw[(hf b hb).1]at e;cases e
  have FH:H s.heap.objs.size=none:=I.fresh;have I2:Inv X pins σ (upd H s.heap.objs.size (.tup [x,y])) {s with heap:=h2,toks:=s.toks}:=by
   refine I.step (g':=s.gens) (d':=s.drawn) (ch:=[z,TI,TO,i1,i2]) (λb hb=>⟨(hf b hb).2.2.2.1,(hf b hb).2.1,(hf b hb).2.2.2.2.1,(hf b hb).2.2.2.2.2⟩) (λb o _ _ hb e _=>kk b o hb e) (λb o _ _ hb e _=>⟨o.slots,kk b o hb e⟩)
    (λb o hb e n=>by rw[aC (lt e)];exact n) (λb o hb e=>⟨o,kk b o hb e⟩) (λb zs e=>by rw[aC (aK e FH)];exact e) (λb o u e=>by rw[aC (aK e FH)];exact e)
    (λb ps e=>⟨#[],by rw[aC (aK e FH),e];simp⟩) (λm hm=>?_) (λb u e=>?_) I.bare
   ·obtain⟨o,fB,ep,ho,rr⟩:=hm;exact⟨o,fB,ep,kk _ o (λhb=>(hf _ hb).2.1 rfl) ho,rr⟩
   ·by_cases hb:b=s.heap.objs.size
    ·subst hb;rw[aB]at e;cases e;exact⟨by show 2<=sizeLine;decide,[u1,u2],.cons Qa (.cons Qb .nil),_,OY,rfl,0,rfl,rfl,rfl⟩
    ·rw[aC hb]at e;refine(I.hok b u e).mL (λc v hc q=>kk c v ?_ q) (λc q=>by rw[aC (aK q FH)];exact q) λc zs q=>by rw[aC (aK q FH)];exact q
     rcases hc with rfl|hc
     ·exact HG c u e
     ·exact HG c _ hc
  refine⟨.ref s.heap.objs.size,_,I2,rfl,⟨s.heap.objs.size,x,y,rfl,FH,rfl,λzb Kc q1 q2=>?_⟩,⟨c1,Lo,⟨u1,u2,(c2.2 TO ap.TOz).trans a2⟩,a3.at λo e=>(c2.2 i1 ap.i1z).trans e,a4.at λo e=>(c2.2 i2 ap.i2z).trans e⟩,λb hb=>?_⟩
  ·rw[fQ]at q1;rw[fE]at q2;rw[rf (SM q1).symm,rf (SM q2).symm];exact⟨hx,hy⟩
  ·rw[aC (λe=>?_)]
   ·exact(hf b hb).1
   ·have q:∃o,s.heap.get? b=some o:=by
     simp only[QZ,Q0,Te]at hb;rcases hb with rfl|rfl|rfl|rfl|rfl
     ·exact⟨_,s1⟩
     ·exact⟨_,s2⟩
     ·exact⟨_,s3⟩
     ·obtain⟨o,e,_⟩:=s4.obj;exact⟨o,e⟩
     ·obtain⟨o,e,_⟩:=s5.obj;exact⟨o,e⟩
    obtain⟨o,q⟩:=q;exact lt q e
 done:=by
  intro X hP hw hK hc i pins s σ H E I hf st hg;subst hP hw hK;obtain⟨xs,ys,fQ,fE,G2⟩:=hg;obtain⟨s1,s2,⟨a,b',s3⟩,s4,s5⟩:=st;obtain⟨gX,r1,p1⟩:=fk I fQ;obtain⟨bw,r2,p2⟩:=fk I fE;have ne:∀{l:Addr}{o:HO},H l=some o->∀b∈[z,TI,TO,i1,i2],l≠b:=λ {l o} hl b hb e=>by subst e;rw[(hf l hb).1]at hl;cases hl
  have off:∀{l:Addr}{o:HO},H l=some o->gU z TO i1 i2 l:=λ {l o} hl=>⟨ne hl z ∅,ne hl TO ∅,ne hl i1 ∅,ne hl i2 ∅⟩
  have e1:=r1.length;have e2:=r2.length;refine yN (I.ok.hd hc) ap (off fQ) (off fE) s1 s2 s3 s4 s5 p1 p2 (by simp;omega) λh' kk=>⟨rfl,?_⟩
  have HG:∀b u,H b=some u->b∉[z,TI,TO,i1,i2]:=λb u e hb=>by rw[(hf b hb).1]at e;cases e
  have Hr:∀b o,b∉[z,TI,TO,i1,i2]->s.heap.get? b=some o->h'.get? b=some o:=λb o hb e=>by simp only[QZ,Q0,Te,not_or]at hb;exact kk b o hb.1 hb.2.2.1 hb.2.2.2.1 hb.2.2.2.2 e
  refine I.step (g':=s.gens) (d':=s.drawn) (t':=s.toks) (h':=h') (ch:=[z,TI,TO,i1,i2]) (λb hb=>⟨(hf b hb).2.2.2.1,(hf b hb).2.1,(hf b hb).2.2.2.2.1,(hf b hb).2.2.2.2.2⟩) (λb o _ _ hb e _=>Hr b o hb e) (λb o _ _ hb e _=>⟨o.slots,Hr b o hb e⟩)
   (λb o hb e n=>n) (λb o hb e=>⟨o,Hr b o hb e⟩) (λb zs e=>e) (λb o u e=>e) (λb ps e=>⟨#[],by rw[e];simp⟩) (λm hm=>?_) (λb u e=>?_) I.bare
  ·obtain⟨o,fB,ep,ho,rr⟩:=hm;exact⟨o,fB,ep,Hr _ o (λhb=>(hf _ hb).2.1 rfl) ho,rr⟩
  ·refine(I.hok b u e).mL (λc v hc q=>Hr c v ?_ q) (λc q=>q) λc zs q=>q
   rcases hc with rfl|hc
   ·exact HG c u e
   ·exact HG c _ hc
 self:=λ_ _ _ _ _ st h=>wpAny_pyIter_zip st.1 h
def Hh(ta:TA):TI:=λσ H R=>ta σ H λvs H1=>∃b1 b2 l1 l2 xs ys,vs=[.ref l1,.ref l2]/\H1 l1=some (oY b1 xs)/\H1 l2=some (oY b2 ys)/\R (Km b1 b2 l1 l2) H1
theorem AK{X:Cx}{es:List Expr}{k:Nat}{tp:Pos}{a b:Expr}{ta:TA}{p pos:Pos}(hg:Gl X "zip")(hm:X.mg "zip"=none)(ha:PA X [a,b] ta)(hs:starEach [a,b] X.env=[(false,eval a X.env),(false,eval b X.env)]:=by rfl)(tR:starEach [b] X.env=[(false,eval b X.env)]:=by rfl):
  PI X (.Tuple es k tp) (.Call (.Name "zip" p) [a,b] [] pos) (Hh ta):=by
 intro pins s σ H R I h;refine Call_ (gZ I hg hm boot_zip (SN (ba (ha pos pins s σ H _ I h) λus s1⟨vs,H1,I1,r1,q1⟩=>?_) (by rw[hs,tR]) (by rw[tR];rfl)));obtain⟨b1,b2,l1,l2,xs,ys,e,e1,e2,q⟩:=q1;subst e;obtain⟨u,v,rfl,ru,rv⟩:=r1.two;cases ru;cases rv;obtain⟨gX,_,p1⟩:=fk I1 e1;obtain⟨bw,_,p2⟩:=fk I1 e2;refine tE p1 p2 λh' g1 g2 g3 g4 g5 kk=>?_
 refine wpAny_pyIter_zip (s:={s1 with heap:=h'}) g1 ?_;have I2:Inv X pins σ H1 {s1 with heap:=h'}:=I1.kept (t':=s1.toks) kk;refine⟨s1.heap.objs.size+4,[s1.heap.objs.size+4,s1.heap.objs.size+2,s1.heap.objs.size+3,s1.heap.objs.size,s1.heap.objs.size+1],_,_,H1,rfl,I2,uE (l1:=l1) (l2:=l2) ⟨?_,?_,?_,?_,?_,?_,?_,?_,?_,?_⟩,⟨g1,g2,⟨_,_,g3⟩,g4,g5⟩,λb hb=>?_,q⟩
 iterate 10 (first|(apply Rj;omega)|(apply SI;omega))
 have tN:s1.heap.objs.size<=b:=by simp only[QZ,Q0,Te]at hb;rcases hb with h|h|h|h|h<;>(rw[h];first|exact Nat.le_add_right _ _|exact QT _)
 exact I1.lK tN (I1.hok.fresh tN)
end Mx
end
section
namespace Mx
open PySem PySem.Spec PySem.W PyProof.Rows L2 PySem.SeqAt
def Jw(x:Str):It:=⟨λi _=>i<x.cps.size,λi H v H'=>H'=H/\∃c,x.cps[i]?=some c/\v= .str ⟨#[c]⟩,λi _=>x.cps.size<=i⟩
theorem kY{P:Program}{w:World}{K:PySem.W.Frag}{tg:Expr}(it:Addr)(x:Str)(t:Tok)(a:Bool):Turn P w K tg (Jw x) [it] it (λi h=>h.IsStrIter it (if a then "str_ascii_iterator" else "str_iterator") x t i) where
 mem:=Rm.mpr rfl
 obj:=λi h st b hb=>by cases Rm.mp hb;obtain⟨o,h1,h2,h3⟩:=st;exact⟨o,h1,λv z=>by rw[h3]at z;cases z⟩
 keep:=λi h h' st k=>let ⟨o,ho,r⟩:=st;⟨o,k it QU _ ho,r⟩
 item:=by
  intro X hP hw hK hc i pins s σ H E I hf st hg;subst hP hw hK;obtain⟨f0,f1,f2,f3,f4,f5⟩:=hf it QU;have W:Walks X.prog X.w X.A it [it] [it] x.cps.size (SignAt x) (λi h=>h.IsStrIter it (if a then "str_ascii_iterator" else "str_iterator") x t i):=by
   cases a
   ·exact Walks.strWide (I.ok.hd hc) it x t
   ·exact Walks.strAscii (I.ok.hd hc) it x t
  refine W.item i s _ _ hg st λv h' tk hv iy kk=>?_
  obtain⟨c,u,h1,rfl⟩:=hv;have I1:Inv X pins σ H {s with heap:=h',toks:=tk}:=I.turned (λb o hb e=>kk b o (λz=>hb (Rm.mp z)) e) f0 f1 f3 f4 f5;obtain⟨o,g1,g2,g3⟩:=id iy;exact⟨_,rfl,nO (s:={s with heap:=h',toks:=tk}) g1 g2 g3 (by cases a<;>decide) ⟨.str ⟨#[c]⟩,H,I1,⟨u,rfl⟩,⟨rfl,c,h1,rfl⟩,iy,λb hb=>(hf b hb).1⟩⟩
 done:=by
  intro X hP hw hK hc i pins s σ H E I hf st hg;subst hP hw hK;obtain⟨f0,f1,f2,f3,f4,f5⟩:=hf it QU;have hi:x.cps[i]?=none:=Array.getElem?_eq_none hg;cases a
  ·exact wpAny_pyNext_wide_end (I.ok.hd hc) st hi λh' eb=>⟨rfl,I.turned (t':=s.toks) (λb o hb e=>eb b o hb e) f0 f1 f3 f4 f5⟩
  ·exact wpAny_pyNext_ascii_end (I.ok.hd hc) st hi λh' eb=>⟨rfl,I.turned (t':=s.toks) (λb o hb e=>eb b o hb e) f0 f1 f3 f4 f5⟩
 self:=λ_ _ _ _ _ st h=>by
  cases a
  ·exact wpAny_pyIter_striter_wide st h
  ·exact wpAny_pyIter_striter_ascii st h
theorem xu{X:Cx}{pins:List (Addr×Obj)}{σ:L2.St}{H:Hp}{tg:Expr}{R:It->Hp->Prop}{E:Value->Shared->Prop}{s:Shared}{x:Str}{t:Tok}(I:Inv X pins σ H s)(q:R (Jw x) H):
  wpAny (model X.prog X.w) X.A (pyIter (.str x t)) (Ks X pins σ tg R) E s:=by
 cases ha:x.cps.all (· < 128)
 ·refine wpAny_pyIter_wide ha ⟨_,[s.heap.objs.size],_,_,H,rfl,I.kept (t':=s.toks) λb o e=>QM _ e,kY s.heap.objs.size x t false,⟨_,QV _ rfl,rfl,rfl⟩,λb hb=>?_,q⟩;cases Rm.mp hb;exact I.lK (QT _) (I.hok.fresh (QT _))
 ·refine wpAny_pyIter_ascii ha ⟨_,[s.heap.objs.size],_,_,H,rfl,I.kept (t':=s.toks) λb o e=>QM _ e,kY s.heap.objs.size x t true,⟨_,QV _ rfl,rfl,rfl⟩,λb hb=>?_,q⟩;cases Rm.mp hb;exact I.lK (QT _) (I.hok.fresh (QT _))
end Mx
end
section
namespace MxTim
open PySem PySem.W PyProof.Rows
def Nq:Bool->Keyed->Array Keyed->Nat->Nat->Nat->StateT SortSt Sem (Option Nat):=sortPriv% PySem.Builtin.gallop
section
variable{O:KeyOrd}{ky:Keyed->O.α}
def le(O:KeyOrd)(ky:Keyed->O.α)(x y:Keyed):Prop:=O.kle (ky x) (ky y)
def Oo(O:KeyOrd)(ky:Keyed->O.α)(l:List Keyed):Prop:=l.Pairwise (le O ky)
end
def setG:Nat->StateT SortSt Sem Unit:=sortPriv% PySem.Builtin.setMinGallop
abbrev SS:=Option (Array Keyed)×Array Keyed×Nat×Nat×Nat×Nat
def N2(x y o:Array Keyed)(i j:Nat):Array Keyed:=o++x.extract i x.size++y.extract j y.size
def MA(x y o:Array Keyed)(i j:Nat):Array Keyed:=o++y.extract j y.size++x.extract i x.size
def MK(x y:Array Keyed)(mg:Nat)(r:SS):StateT SortSt Sem (ForInStep SS):=do
 let e<-elem' y r.2.2.2.1
 let f<-elem' x r.2.2.1
 let c<-lt' e f
 match c with
 |some yw=>
  if yw=true then do
   let e<-elem' y r.2.2.2.1
   if (r.2.2.2.1+1==y.size)=true then pure (.done (some (N2 x y (r.2.1.push e) r.2.2.1 (r.2.2.2.1+1)),r.2.1.push e,r.2.2.1,r.2.2.2.1+1,0,r.2.2.2.2.2+1))
   else if r.2.2.2.2.2+1>=mg then pure (.done (none,r.2.1.push e,r.2.2.1,r.2.2.2.1+1,0,r.2.2.2.2.2+1))
   else pure (.yield (none,r.2.1.push e,r.2.2.1,r.2.2.2.1+1,0,r.2.2.2.2.2+1))
  else do
   let f<-elem' x r.2.2.1
   if (r.2.2.1+1+1==x.size)=true then pure (.done (some (MA x y (r.2.1.push f) (r.2.2.1+1) r.2.2.2.1),r.2.1.push f,r.2.2.1+1,r.2.2.2.1,r.2.2.2.2.1+1,0))
   else if r.2.2.2.2.1+1>=mg then pure (.done (none,r.2.1.push f,r.2.2.1+1,r.2.2.2.1,r.2.2.2.2.1+1,0))
   else pure (.yield (none,r.2.1.push f,r.2.2.1+1,r.2.2.2.1,r.2.2.2.2.1+1,0))
 |_=>pure (.done (some (N2 x y r.2.1 r.2.2.1 r.2.2.2.1),r.2.1,r.2.2.1,r.2.2.2.1,r.2.2.2.2.1,r.2.2.2.2.2))
abbrev GH:=Option (Array Keyed)×Nat×Nat×Array Keyed×Nat×Nat×Nat
def vS(x y o:Array Keyed)(i j:Nat):Array Keyed:=x.extract 0 i++y.extract 0 j++o.reverse
def Gz(x y o:Array Keyed)(i j:Nat):Array Keyed:=y.extract 0 j++x.extract 0 i++o.reverse
def Df(x y o:Array Keyed)(i j mg ca cb:Nat):StateT SortSt Sem (ForInStep GH):=do
 let e<-elem' x (i-1)
 if (i-1==0)=true then pure (.done (some (vS x y (o.push e) (i-1) j),i-1,j,o.push e,mg,ca,cb))
 else if (decide (ca<7)&&decide (cb<7))=true then pure (.done (none,i-1,j,o.push e,mg,ca,cb))
 else pure (.yield (none,i-1,j,o.push e,mg,ca,cb))
def fE(x y o:Array Keyed)(i j mg ca CT:Nat):StateT SortSt Sem (ForInStep GH):=do
 let e<-elem' y (j-1)
 if (j-1==1)=true then pure (.done (some (Gz x y (o.push e) i (j-1)),i,j-1,o.push e,mg,ca,CT))
 else do
  let f<-elem' x (i-1)
  let r<-Nq true f y 0 (j-1) (j-1-1)
  match r with
  |some k=>
   if j-1-k>0 then
    if (k==1)=true then pure (.done (some (Gz x y (o.push e++(y.extract k (j-1)).reverse) i k),i,k,o.push e++(y.extract k (j-1)).reverse,mg,ca,j-1-k))
    else if (k==0)=true then pure (.done (some (vS x y (o.push e++(y.extract k (j-1)).reverse) i k),i,k,o.push e++(y.extract k (j-1)).reverse,mg,ca,j-1-k))
    else Df x y (o.push e++(y.extract k (j-1)).reverse) i k mg ca (j-1-k)
   else Df x y (o.push e) i (j-1) mg ca (j-1-k)
  |_=>pure (.done (some (vS x y (o.push e) i (j-1)),i,j-1,o.push e,mg,ca,CT))
def fQ(x y o:Array Keyed)(i j mg Ot CT:Nat):StateT SortSt Sem (ForInStep GH):=do
 setG mg
 let e<-elem' y (j-1)
 let r<-Nq false e x 0 i (i-1)
 match r with
 |some k=>
  if i-k>0 then
   if (k==0)=true then pure (.done (some (vS x y (o++(x.extract k i).reverse) k j),k,j,o++(x.extract k i).reverse,mg,i-k,CT))
   else fE x y (o++(x.extract k i).reverse) k j mg (i-k) CT
  else fE x y o i j mg (i-k) CT
 |_=>pure (.done (some (vS x y o i j),i,j,o,mg,Ot,CT))
def back(M:Array Keyed)(p:Nat)(a:Array Keyed):Array Keyed:=M.toList.zipIdx.foldl (λb(q,j)=>b.setIfInBounds (p+j) q) a
section
theorem er(n1 n2 pw z:Nat):((#[(0,n1,pw),(n1,n2,z)]:Array (Nat×Nat×Nat)).setIfInBounds 0 (0,n1+n2,pw)).eraseIdxIfInBounds (0+1)=#[(0,n1+n2,pw)]:=by simp[Array.eraseIdxIfInBounds]
end
def aL(lo n m:Nat):StateT SortSt Sem AscSt:=
 forIn [n:m] ((none,n):AscSt) λ_ r=>do
  let x<-ltAt' (lo+r.2) (lo+r.2-1)
  match x with
  |some c=>if c=true then pure (.done (none,r.2)) else pure (.yield (none,r.2+1))
  |_=>pure (.done (some none,r.2))
def t3(lo n m:Nat):StateT SortSt Sem (Option Nat):=do
 reverseSlice' lo (lo+n)
 let r<-aL lo n m
 match r.1 with
 |some v=>pure v
 |none=>pure (some r.2)
section
variable{O:KeyOrd}{ky:Keyed->O.α}
variable{lo:Nat}
def Up(O:KeyOrd)(ky:Keyed->O.α)(lo:Nat)(a:Array Keyed)(n:Nat):Prop:=∀i j,lo<=i->i<=j->j<lo+n->O.kle (ky (kas_item a i)) (ky (kas_item a j))
end
section
variable{O:KeyOrd}{ky:Keyed->O.α}
variable{a:Array Keyed}
def Gd(O:KeyOrd)(ky:Keyed->O.α)(a:Array Keyed)(st:SortSt):Prop:=failedOf st=none/\(pendingOf st).size<=1/\(arrOf st).toList.Perm a.toList/\Oo O ky (arrOf st).toList
end
end MxTim
end
section
namespace Mx
open PySem PySem.W PySem.Spec PyProof.Rows L2 PySem.SeqAt MxSort
inductive SK where
 |tt|ts|ti|s|i
 deriving DecidableEq
def SK.ok:SK->D->Prop
 |.tt,d=>∃f r,d= .tup (.tup f::r)
 |.ts,d=>∃f r,d= .tup (.str f::r)
 |.ti,d=>∃f r,d= .tup (.int f::r)
 |.s,d=>∃x,d= .str x
 |.i,d=>∃x,d= .int x
def SK.κ:SK->SortKind
 |.tt=>tuples' false
 |.ts=>tuples' true
 |.ti=>tuples' true
 |.s=>oneType'
 |.i=>oneType'
def SK.f:SK->String
 |.tt=>"tuple"
 |.ts=>"str"
 |.s=>"str"
 |_=>"int"
section
variable{P:Program}{w:World}{H:Hp}{prog:Program}{s:Shared}{A:Around}
theorem Al{b:Bool}{n m:Nat}{Q:Bool->Shared->Prop}{v wv:Value}{us vs:List Value}{d e:D}{ds es:List D}(z:Zp false A s (v::us) (wv::vs) (d::ds) (e::es))
  (hs:b=true->∀{E:Value->Shared->Prop},wpAny (model prog w) A (oneLt' true v wv) (λr s'=>r=D.lt d e/\s'=s) E s)
  (hlen:ds.length+m=es.length+n) (q:Q (D.eO (d::ds) (e::es)) s):KatLex prog w A b (decide (n<m)) Q ((v::us).zip (wv::vs)) 0 s:=by
 cases z with
 |cons he hl z'=>
  rw[Sz];rw[D.cQ]at q;refine kat_cons (he prog w _ _ ?_);by_cases hde:d=e
  ·rw[(D.cq d e).mpr hde];rw[Ta hde]at q;exact kat_yes (Ak z' 1 ⋯ hlen q)
  ·rw[show D.ft d e=false by rw[D.iK];exact Rc hde];rw[S9 hde]at q;refine kat_no ?_;cases b with
   |false=>rw[show (false&&0==0)=false by rfl];exact kat_one v wv (hl hde prog w _ _ q)
   |true=>rw[show (true&&0==0)=true by rfl];exact Tp (hs rfl) (λr s'⟨e1,e2⟩=>by subst e1 e2;exact q) λ_ _ x=>x
theorem lW(hok:dq P w H s.heap){n:Nat}(hu:A.units+n<cLine){b:Bool}{d0 e0:D}{dr er:List D}{x y:V}{u v:Value}(hd:D.dep (.tup (d0::dr))<=n+1)(hl:D.c7 (.tup (d0::dr)) (.tup (e0::er)))
  (hs:b=true->(∃p q,d0= .str p/\e0= .str q)\/∃p q,d0= .int p/\e0= .int q) (hx:DV H x (.tup (d0::dr))) (hy:DV H y (.tup (e0::er))) (rx:RelV x u) (ry:RelV y v) {Q:Bool->Shared->Prop} {E:Value->Shared->Prop}
  (q:Q (D.lt (.tup (d0::dr)) (.tup (e0::er))) s):wpAny (model prog w) A (keyLt' (tuples' b) u v) Q E s:=by
 obtain⟨a,xs,q1,e1,e2⟩:=hx.aq;subst q1;cases rx;obtain⟨b',ys,q1,f1,f2⟩:=hy.aq;subst q1;cases ry;obtain⟨its,r1,o,ho,hc,k,zY⟩:=aM hok e1;obtain⟨bw,r2,o2,ke,nU,k2,pN⟩:=aM hok f1;obtain⟨x0,xr,rfl,FG,Nr⟩:=e2.cons_inv;obtain⟨y0,yr,rfl,Nt,ON⟩:=f2.cons_inv;cases r1 with
 |cons r10 r1r=>
  cases r2 with
  |cons B6 r2r=>
   rename_i u0 ur v0 vr;have pL:D.cv (d0::dr)<=n:=by unfold D.dep at hd;omega
   have zZ:D.fG (d0::dr) (e0::er):=by unfold D.c7 at hl;exact hl
   have zz:Zp false A s (u0::ur) (v0::vr) (d0::dr) (e0::er):=yP hok hu (λd e x y u v yW fE Hc Hd rx2 ry2=>Ao hok n d e x y u v A yW hu fE Hc Hd rx2 ry2) pL zZ e2 f2 (.cons r10 r1r) (.cons B6 r2r);refine kat_lt ho zY ke pN ?_;have l1:(u0::ur).toArray.size=(d0::dr).length:=by rw[QP,Q5,Q5,<-r1r.length,Nr.length]
   have l2:(v0::vr).toArray.size=(e0::er).length:=by rw[QP,Q5,Q5,<-r2r.length,ON.length]
   have q':Q (D.eO (d0::dr) (e0::er)) s:=by have z:=q;unfold D.lt at z;exact z
   refine Al zz (λhb=>?_) (by rw[l1,l2];simp only[Q5];omega) q';intro E';rcases hs hb with ⟨p,q2,rfl,rfl⟩|⟨p,q2,rfl,rfl⟩
   ·have z1:=FG.str_inv;have z2:=Nt.str_inv;subst z1 z2;obtain⟨t,rfl⟩:=r10;obtain⟨t',rfl⟩:=B6;exact oneLt_str ⟨by unfold D.lt;rfl,rfl⟩
   ·have z1:=FG.int_inv;have z2:=Nt.int_inv;subst z1 z2;obtain⟨t,rfl⟩:=r10;obtain⟨t',rfl⟩:=B6;exact oneLt_int ⟨by unfold D.lt;rfl,rfl⟩
theorem kI(x y:Value):keyLt' oneType' x y=oneLt' true x y:=rfl
theorem Am(hok:dq P w H s.heap){n:Nat}(hu:A.units+n<cLine)(k:SK){d e:D}{x y:V}{u v:Value}(hd:D.dep d<=n+1)(hl:D.c7 d e)(fd:k.ok d)(fe:k.ok e)(hx:DV H x d)(hy:DV H y e)(rx:RelV x u)(ry:RelV y v){Q:Bool->Shared->Prop}{E:Value->Shared->Prop}
  (q:Q (D.lt d e) s):wpAny (model prog w) A (keyLt' k.κ u v) Q E s:=by
 cases k with
 |tt=>obtain⟨f,r,rfl⟩:=fd;obtain⟨f',r',rfl⟩:=fe;exact lW (b:=false) hok hu hd hl (λz=>nomatch z) hx hy rx ry q
 |ts=>obtain⟨f,r,rfl⟩:=fd;obtain⟨f',r',rfl⟩:=fe;exact lW hok hu hd hl (λ_=>.inl ⟨_,_,rfl,rfl⟩) hx hy rx ry q
 |ti=>obtain⟨f,r,rfl⟩:=fd;obtain⟨f',r',rfl⟩:=fe;exact lW hok hu hd hl (λ_=>.inr ⟨_,_,rfl,rfl⟩) hx hy rx ry q
 |s=>obtain⟨f,rfl⟩:=fd;obtain⟨f',rfl⟩:=fe;have z1:=hx.str_inv;have z2:=hy.str_inv;subst z1 z2;obtain⟨t,rfl⟩:=rx;obtain⟨t',rfl⟩:=ry;show wpAny _ _ (keyLt' oneType' _ _) _ _ _;rw[kI];unfold D.lt at q;exact oneLt_str q
 |i=>obtain⟨f,rfl⟩:=fd;obtain⟨f',rfl⟩:=fe;have z1:=hx.int_inv;have z2:=hy.int_inv;subst z1 z2;obtain⟨t,rfl⟩:=rx;obtain⟨t',rfl⟩:=ry;show wpAny _ _ (keyLt' oneType' _ _) _ _ _;rw[kI];unfold D.lt at q;exact oneLt_int q
theorem rF(hok:dq P w H s.heap){k:SK}(hk:k= .tt\/k= .ts\/k= .ti):∀{xs:List V}{us:List Value}{ds:List D},aP H xs ds->au xs us->(∀d∈ds,k.ok d)->
  ∃fs,KatTups s.heap us fs/\fs.length=us.length/\∀v∈fs,Looks (model prog w) s.heap (typeOf v) (.type k.f)
 |[],us,ds,_,r,_=>by cases r;exact⟨[],KatTups.nil,rfl,λv hv=>absurd hv ∅⟩
 |x::xs,us,ds,h,r,hf=>by
  cases r with
  |cons r0 rr=>
   cases ds with
   |nil=>unfold aP at h;exact h.elim
   |cons d ds=>
    unfold aP at h;obtain⟨fs,t,l,lk⟩:=rF hok hk h.2 rr λd hd=>hf d (QS _ hd)
    have sh:∃d0 dr,d= .tup (d0::dr)/\((k= .ts/\∃p,d0= .str p)\/(k= .ti/\∃p,d0= .int p)\/(k= .tt/\∃p,d0= .tup p)):=by
     have z:=hf d QU;rcases hk with rfl|rfl|rfl
     ·obtain⟨f,r,rfl⟩:=z;exact⟨_,_,rfl,.inr (.inr ⟨rfl,_,rfl⟩)⟩
     ·obtain⟨f,r,rfl⟩:=z;exact⟨_,_,rfl,.inl ⟨rfl,_,rfl⟩⟩
     ·obtain⟨f,r,rfl⟩:=z;exact⟨_,_,rfl,.inr (.inl ⟨rfl,_,rfl⟩)⟩
    obtain⟨d0,dr,rfl,uO⟩:=sh;obtain⟨a,ys,q1,e1,e2⟩:=h.1.aq;subst q1;cases r0;obtain⟨its,r1,o,ho,hc,kk,zY⟩:=aM hok e1;obtain⟨x0,xr,rfl,FG,Nr⟩:=e2.cons_inv;cases r1 with
    |cons r10 r1r=>
     rename_i u0 ur;refine⟨u0::fs,KatTups.cons ho hc zY ∅ t,by simp[l],λv hv=>?_⟩;rcases QZ.mp hv with rfl|hv
     ·rcases uO with ⟨hb,p,rfl⟩|⟨hb,p,rfl⟩|⟨hb,p,rfl⟩
      ·have z1:=FG.str_inv;subst z1;obtain⟨t',rfl⟩:=r10;rw[hb];exact Looks.of_pure rfl
      ·have z1:=FG.int_inv;subst z1;obtain⟨t',rfl⟩:=r10;rw[hb];exact Looks.of_pure rfl
      ·obtain⟨a2,y2,q2,g1,g2⟩:=FG.aq;subst q2;cases r10;obtain⟨bw,_,o2,ke,nU,_⟩:=aM hok g1;rw[hb];show Looks (model prog w) _ _ (Value.type "tuple");rw[<-nU];exact(Looks.ld ke).andThen .now
     ·exact lk v hv
theorem sP:∀{xs:List V}{us:List Value}{ds:List D},aP H xs ds->au xs us->(∀d∈ds,SK.s.ok d)->∃ss,StrsAre us ss
 |[],us,ds,_,r,_=>by cases r;exact⟨[],.nil⟩
 |x::xs,us,ds,h,r,hf=>by
  cases r with
  |cons r0 rr=>
   cases ds with
   |nil=>unfold aP at h;exact h.elim
   |cons d ds=>
    unfold aP at h;obtain⟨ss,q⟩:=sP h.2 rr λd hd=>hf d (QS _ hd)
    obtain⟨y,rfl⟩:=hf d QU;have z1:=h.1.str_inv;subst z1;obtain⟨t,rfl⟩:=r0;exact⟨y::ss,.cons y t q⟩
theorem rl:∀{xs:List V}{us:List Value}{ds:List D},aP H xs ds->au xs us->(∀d∈ds,SK.i.ok d)->∃ss,IntsAre us ss
 |[],us,ds,_,r,_=>by cases r;exact⟨[],.nil⟩
 |x::xs,us,ds,h,r,hf=>by
  cases r with
  |cons r0 rr=>
   cases ds with
   |nil=>unfold aP at h;exact h.elim
   |cons d ds=>
    unfold aP at h;obtain⟨ss,q⟩:=rl h.2 rr λd hd=>hf d (QS _ hd)
    obtain⟨y,rfl⟩:=hf d QU;have z1:=h.1.int_inv;subst z1;obtain⟨t,rfl⟩:=r0;exact⟨y::ss,.cons y t q⟩
theorem Hq(hok:dq P w H s.heap)(k:SK){xs:List V}{us:List Value}{ds:List D}(hd:aP H xs ds)(r:au xs us)(hf:∀d∈ds,k.ok d)(h2:2<=us.length){Q:SortKind->Shared->Prop}{E:Value->Shared->Prop}(q:Q k.κ s):
  wpAny (model prog w) A (keyKind' us.toArray) Q E s:=by
 have tup:k= .tt\/k= .ts\/k= .ti->wpAny (model prog w) A (keyKind' us.toArray) Q E s:=λhk=>by obtain⟨fs,t,l,lk⟩:=rF (prog:=prog) hok hk hd r hf;refine kat_kind t ⋯ lk (by rcases hk with rfl|rfl|rfl<;>rfl) ?_;rcases hk with rfl|rfl|rfl<;>exact q
 cases k with
 |tt=>exact tup (.inl rfl)
 |ts=>exact tup (.inr (.inl rfl))
 |ti=>exact tup (.inr (.inr rfl))
 |s=>
  obtain⟨ss,hs⟩:=sP hd r hf
  match us,h2,hs with
  |v1::v2::vs,_,hs=>rw[keyKind_strs hs];exact QN q
 |i=>
  obtain⟨ss,hs⟩:=rl hd r hf
  match us,h2,hs with
  |v1::v2::vs,_,hs=>rw[keyKind_ints hs];exact QN q
end
def jb(ds:List D):Prop:=ds.length<64/\(2<=ds.length->D.cv ds<=100/\(∃k:SK,∀d∈ds,k.ok d)/\∀d∈ds,∀e∈ds,D.c7 d e)
section
variable{X:Cx}{pins:List (Addr×Obj)}{σ:L2.St}{H:Hp}
theorem ux{s:Shared}{A:Around}{Q:PySem.Fin->Shared->Prop}{E:Value->Shared->Prop}(hu:A.units+148<cLine)(I:Inv X pins σ H s){ys:List V}{its:List Value}{ds:List D}(rv:au ys its)(q9:aP H ys ds)(hc:jb ds)
  (q:∀(l:Addr)(zs:List V)(es:List D)(s':Shared),H l=none->aP H zs es->jd ds es->Inv X pins σ (upd H l (.lst zs)) s'->Q (.done (.ret (.ref l))) s'):
  wpAny (model X.prog X.w) A (do let l<-newList its;let _<-holding [l] (call (.builtin "list.sort") [l] []);ret l) Q E s:=by
 obtain⟨hlen,hc⟩:=hc;have hl:=rv.length;have fE:=q9.length;have yZ:its.length<=sizeLine:=by rw[Th];omega
 refine QK (wpAny_newList ?_ ‹yZ›);have JS:(s.heap.push (seqObj "list" its.toArray 0)).get? s.heap.objs.size=some (seqObj "list" its.toArray 0):=QV _ rfl;show wpAny _ _ _ _ _ {s with heap:=s.heap.push (seqObj "list" its.toArray 0)};have ne:∀b o,s.heap.get? b=some o->b≠s.heap.objs.size:=λb o e=>Rj (QX e)
 refine QK (To (Tl slot_list_sort (s:={s with heap:=s.heap.push (seqObj "list" its.toArray 0)}) ⟨_,JS,rfl⟩ entry_list_sort
  (Bi (s:={s with heap:=s.heap.push (seqObj "list" its.toArray 0)}) (O:=Gk) (key:=λi=>ds.getD i (.int 0)) JS ⋯ (λh2 h' kk=>?_) λp h' e hp hup kk hD=>?_) (args_list_sort _)))
 ·obtain⟨Pb,⟨k,hf⟩,yX⟩:=hc ⋯;have Aa:dq X.prog X.w H h':=I.hok.kept λb o e=>kk b o (ne b o e) (QM _ e)
  refine⟨k.κ,λQ' E' q'=>Hq (s:={s with heap:=h'}) Aa k q9 rv hf ⋯ q',λi j hi hj C hC=>?_⟩
  ·obtain⟨di,K0,OE⟩:=q9.get (i:=i) (x:=ys[i]'⋯) ∅;obtain⟨dj,Nl,OF⟩:=q9.get (i:=j) (x:=ys[j]'⋯) ∅;obtain⟨ui,PK,Qc⟩:=rv.get (i:=i) (x:=ys[i]'⋯) ∅;obtain⟨uj,PL,Qd⟩:=rv.get (i:=j) (x:=ys[j]'⋯) ∅;unfold kas_ask;rw[show its.getD i Value.none=ui by simp[PK],show its.getD j Value.none=uj by simp[PL]];have ki:ds.getD i (.int 0)=di:=by simp[K0]
   have kj:ds.getD j (.int 0)=dj:=by simp[Nl]
   have mi:di∈ds:=Sk K0;have mj:dj∈ds:=Sk Nl;refine Am (s:={s with heap:=h'}) Aa (n:=100) (by show A.units+1+100<cLine;omega) k (QY (lD K0) ⋯) (yX di mi dj mj) (hf di mi) (hf dj mj) OE OF Qc Qd ?_;have Nu:C (D.lt (ds.getD i (.int 0)) (ds.getD j (.int 0))) {s with heap:=h'}:=hC;rw[ki,kj]at Nu;exact Nu
 ·refine⟨_,rfl,QN ?_⟩;have yY:p.toList.Perm (List.range its.length):=hp;have BQ:∀i∈p.toList,i<ys.length:=λi hi=>by have:=RB.mp (yY.mem_iff.mp hi);omega
  have new:bF X.prog X.w (upd H s.heap.objs.size (.lst (p.toList.map λi=>ys.getD i .bM))) h' s.heap.objs.size (.lst (p.toList.map λi=>ys.getD i .bM)):=
   ⟨by rw[QW,yY.length_eq,R9];rw[Th];omega,_,e,oP rv BQ,hD⟩
  have I2:=I.laid (t':=s.toks) (a:=s.heap.objs.size) (λb o q=>kk b o (ne b o q) (QM _ q)) (QT _) new;refine q _ _ (p.toList.map λi=>ds.getD i (.int 0)) _ (I.hok.fresh (QT _)) (q9.map BQ) ⟨?_,?_⟩ I2
  ·have e1:=yY.map (λi=>ds.getD i (.int 0));rw[show its.length=ds.length by omega]at e1;rw[jD]at e1;exact e1
  ·have LQ:∀i j,i<=j->j<its.length->D.lt (ds.getD (p.getD j 0) (.int 0)) (ds.getD (p.getD i 0) (.int 0))=false:=hup;have nY:p.toList.length=its.length:=by rw[yY.length_eq,R9]
   rw[Su,List.pairwise_iff_getElem];intro i j hi hj we;have:=LQ i j ⋯ ⋯;rw[show p.getD i 0=p.toList[i] by simp at hi;simp[Array.getD,hi],show p.getD j 0=p.toList[j] by simp at hj;simp[Array.getD,hj]]at this;exact this
end
def EC(K:PySem.W.Frag):List V->Hp->VK->Prop:=λxs H Q=>∃a ys ds,xs=[.ref a]/\(cZ K H a ys\/du K H a ys)/\aP H ys ds/\jb ds/\∀l zs es,H l=none->aP H zs es->jd ds es->Q (.ref l) (upd H l (.lst zs))
theorem lq{X:Cx}(hu:X.A.units+150<cLine):cT X (.builtin "sorted") (EC X.K):=by
 intro pins s σ H xs us Q I r h;obtain⟨a,ys,ds,rfl,hq,q9,hc,q⟩:=h;obtain⟨u,rfl,ru⟩:=r.one;cases ru;have sh:∃(its:List Value)(T:String)(o:Obj)(n:Nat),au ys its/\(T="list"\/T="tuple")/\s.heap.get? a=some o/\o.cls= .type T/\o.data= .seq its.toArray n:=by
  rcases hq with hq|hq
  ·obtain⟨its,rv,⟨o,n,ho,hc,_,hd⟩,_⟩:=I.list hq;exact⟨its,"list",o,n,rv,.inl rfl,ho,hc,hd⟩
  ·obtain⟨its,rv,⟨o,ho,hc,n,hd⟩,_⟩:=I.tuple hq;exact⟨its,"tuple",o,n,rv,.inr rfl,ho,hc,hd⟩
 obtain⟨its,T,o,n,rv,hT,ho,zW,hd⟩:=sh;have yZ:its.length<=sizeLine:=by rw[Th,<-rv.length,q9.length];have:=hc.1;omega
 refine Calls.call_function_entry kind_sorted plain_sorted entry_sorted (args_sorted1 _) ?_;unfold Builtin.«sorted»;refine QK (m:=checkCount "sorted" 1 1 _) (QN (QK (wpAny_collect_seq a hT ho zW hd (λh1 k1=>?_) (by rw[QP];exact yZ))));have I1:Inv X pins σ H {s with heap:=h1}:=I.kept (t':=s.toks) k1;exact ux (A:=X.A.in1) (by show X.A.units+1+148<cLine;omega) I1 rv q9 hc λl zs es s' hl hz hso I2=>⟨_,rfl,.ref l,_,I2,rfl,q l zs es hl hz hso⟩
end Mx
end
section
namespace Mx
open PySem PySem.W PySem.Spec PyProof.Rows L2
theorem gn{i:Nat}{v:V}{σ:L2.St}{H:Hp}{k:L2.St->Hp->Prop}(h:k (σ.set i (some v)) H):dC i v σ H k:=h
end Mx
end
section
namespace Mx
open PySem PySem.W PySem.Spec PyProof.Rows L2 HT
open PySem.AutoSeq1 (wpAny_loadPart')
theorem tuple_addW0(l b:Addr)(items eN:Array Value)(n n2:Nat)(dd yR:Option Addr)(sl uR:Array (Option Value))(Qx:items.isEmpty=true):
  Meets (Builtin.«tuple.__add__» ⟨[.ref l,.ref b],[]⟩) (λ_ R s=>s.heap.get? l=some {cls:=.type "tuple",dict:=dd,data:=.seq items n,slots:=sl}/\s.heap.get? b=some {cls:=.type "tuple",dict:=yR,data:=.seq eN n2,slots:=uR}/\R (.ok (.ret (Value.ref b))) s):=
 .of_wp λprog w A R s h=>by
  obtain⟨hp,g,d,tk,os⟩:=s;obtain⟨hl,hb,h⟩:=h;have f2:=sub_tuple_tuple
  wp_walk using wpAny_loadPart' hl,wpAny_loadPart' hb
  exact⟨_,rfl,h⟩
theorem wx{α:Type}(pre:List α)(x:α):kH (pre++[x]).length (-1)=some pre.length:=by unfold kH;rw[S9 ‹_›,Ta (by simp;omega)];simp;omega
theorem nk{α:Type}(pre:List α)(x:α):ka (pre++[x]) (-1)=some x:=by unfold ka;rw[wx];simp
end Mx
end
section
namespace L2
open PySem PySem.Spec PyProof.Rows
def fX(e:Expr)(d:Nat)(it acc:Value)(env:Env)(target:Expr)(ifs:List Expr)(p:Pos)(body:Sem Unit):Sem PySem.Fin:=do
 standAt p
 match<-pyNext it with
 |none=>pure (.done .next)
 |some v=>
  letOwnedTupleGo target it v
  assign target env v
  let mut ok:=true
  for c in ifs do
   if ok then ok<-isTrue c env (eval c env)
  if ok then body
  again (.compLoop e d it acc env)
theorem lz{prog:Program}{w:World}{A:Around}{R:Result->Shared->Prop}{s:Shared}{elt target:Expr}{gens:List Comprehension}{scope:Scope}{pos:Pos}{d:Nat}{ifs:List Expr}{p:Pos}{it acc:Value}{env:Env}{body:Sem Unit}(heq:compTurn (.ListComp elt gens scope pos) d it acc env=fX (.ListComp elt gens scope pos) d it acc env target ifs p body){EE:Value->Shared->Prop}
  (GM:∀x s',EE x s'->notedBy (model prog w) A env (λx s'=>R (.error x) s') x s') (I:Nat->Shared->Prop)
  (turn:∀n s,I n s->wpAny (model prog w) A (pyNext it) (λr s₁=>match r with
   |none=>R (.ok .next) s₁
   |some v=>wpAny (model prog w) A (letOwnedTupleGo target it v) (λ_ s₁'=>wpAny (model prog w) A (assign target env v) (λ_ s₂=>
     wpAny (model prog w) A (forIn ifs true λc r=>if r=true then do let ok<-isTrue c env (eval c env);pure (ForInStep.yield ok) else pure (ForInStep.yield r)) (λok s₃=>
      if ok=true then wpAny (model prog w) A body (λ_ s₄=>∃m,m<n/\I m s₄) EE s₃
      else∃m,m<n/\I m s₃) EE s₂) EE s₁') EE s₁) EE s)
  (n:Nat) (h:I n s):codeAny (model prog w) A (.compLoop (.ListComp elt gens scope pos) d it acc env) R s:=by
 refine codeAny_loop rfl I (λn s hI=>?_) n h;show wpAny _ A ((compTurn (.ListComp elt gens scope pos) d it acc env).onRaise (λx=>do noteFrame x env;theTreesLotGoes x)) _ _ s;refine wpAny_noted ?_;rw[heq];unfold fX;refine QK (Tz (QK (Tp (turn n s hI) (λr s₁ h₁=>?_) GM)));cases r with
 |none=>exact QN h₁
 |some v=>
  refine QK (Tp h₁ (λ_ s₁' h₁'=>?_) GM);refine QK (Tp h₁' (λ_ s₂ h₂=>QK (Tp h₂ (λok s₃ h₃=>?_) GM)) GM);cases ok with
  |false=>exact QN ⟨rfl,h₃⟩
  |true=>exact QK (Tp h₃ (λ_ s₄ h₄=>QN ⟨rfl,h₄⟩) GM)
def jm(elt:Expr)(acc:Value)(env:Env):Sem Unit:=do let _<-call (.builtin "list.append") [acc,<-eval elt env]
theorem oO(elt target iter:Expr)(ifs:List Expr)(scope:Scope)(pos:Pos)(it acc:Value)(env:Env):
  compTurn (.ListComp elt [⟨target,iter,ifs,0⟩] scope pos) 0 it acc env=fX (.ListComp elt [⟨target,iter,ifs,0⟩] scope pos) 0 it acc env target ifs iter.pos (jm elt acc env):=by rfl
def Le(σ σ2:St):Prop:=σ2.length=σ.length/\∀(j:Nat)(v:V),σ[j]?=some (some v)->σ2[j]?=some (some v)
theorem Le.refl(σ:St):Le σ σ:=⟨rfl,λ_ _ h=>h⟩
def GL(σ0:St)(g:TG):Prop:=∀x σ H(Q:St->Hp->Prop),Le σ0 σ->g x σ H Q->g x σ H λσ2 H2=>Le σ0 σ2/\Q σ2 H2
def Jr(σ0:St)(g:uI):Prop:=∀x σ H(Q:St->Hp->Prop),Le σ0 σ->g x σ H Q->g x σ H λσ2 H2=>Le σ0 σ2/\Q σ2 H2
theorem Le.set{k:Nat}{σ0 σ:St}{v:Option V}(h:σ0[k]?=some none)(q:Le σ0 σ):Le σ0 (σ.set k v):=⟨by simpa using q.1,λj w hj=>by
 rw[Q4 (by rintro rfl;rw[h]at hj;cases hj)];exact q.2 j w hj⟩
theorem zQ{σ0:St}{k:Nat}(h:σ0[k]?=some none):GL σ0 (dC k):=λx σ H Q p q=>⟨p.set h,q⟩
theorem zR{σ0:St}:Jr σ0 C9:=λx σ H Q p q=>⟨q.1,p,q.2⟩
theorem vX{σ0:St}{k:Nat}{u:uI}(h:σ0[k]?=some none)(hu:Jr σ0 u):Jr σ0 (vT (dC k) u):=λx σ H Q p q=>by obtain⟨v,r,e,q⟩:=q;exact⟨v,r,e,hu r _ H Q (p.set h) q⟩
theorem Inv.le{X:Cx}{pins:List (Addr×Obj)}{σ σ2:St}{H:Hp}{s:Shared}(I:Inv X pins σ2 H s)(h:Le σ σ2):Inv X pins σ H s:=I.weak h.1.symm h.2
abbrev TB:=St->Hp->(Hp->Prop)->Prop
def PB(X:Cx)(body:Sem Unit)(tb:TB):Prop:=∀(pins:List (Addr×Obj))(s:Shared)(σ:St)(H:Hp)(Q:Hp->Prop),Inv X pins σ H s->tb σ H Q->wpAny (model X.prog X.w) X.A body (λ_ s'=>∃H',Inv X pins σ H' s'/\Q H') X.xe s
def qC(J:It)(g:TG)(tt:TT)(tb:TB)(σ0:St)(F:Hp->Prop)(H1:Hp):Prop:=
 ∃W:Nat->Nat->Hp->Prop,(∃m,W 0 m H1)/\∀i m H,W i m H->
  (J.stop i H/\F H)\/(J.go i H/\∀x H',J.yld i H x H'->g x σ0 H' λσ2 H2=>tt σ2 H2 λb H3=>if b=true then tb σ2 H3 λH4=>∃m',m'<m/\W (i+1) m' H4 else∃m',m'<m/\W (i+1) m' H3)
section
variable{X:Cx}{g:TG}{tt:TT}{tb:TB}
theorem tI(hc:X.calm=true){elt target:Expr}{gens:List Comprehension}{scope:Scope}{pos:Pos}{d:Nat}{ifs:List Expr}{p:Pos}{acc:Value}{body:Sem Unit}{R:Result->Shared->Prop}{pins:List (Addr×Obj)}{σ0:St}{H0:Hp}{s0:Shared}{it:Addr}{fp:List Addr}{tn:Nat->Heap->Prop}{J:It}{F:Hp->Prop}
  (heq:compTurn (.ListComp elt gens scope pos) d (.ref it) acc X.env=fX (.ListComp elt gens scope pos) d (.ref it) acc X.env target ifs p body) (hx:∀x s',X.xe x s'->notedBy (model X.prog X.w) X.A X.env (λx s'=>R (.error x) s') x s')
  (hg:PG X target g) (tN:GL σ0 g) (ht:Cr X ifs tt) (hb:PB X body tb) (I0:Inv X pins σ0 H0 s0) (T:Turn X.prog X.w X.K target J fp it tn) (mX:tn 0 s0.heap) (f0:∀b∈fp,fM X pins H0 b)
  (hW:qC J g tt tb σ0 F H0) (fin:∀s' H',Inv X pins σ0 H' s'->F H'->R (.ok .next) s'):codeAny (model X.prog X.w) X.A (.compLoop (.ListComp elt gens scope pos) d (.ref it) acc X.env) R s0:=by
 obtain⟨W,⟨m0,w0⟩,turn⟩:=hW;have mK:∀{H':Hp},(∀b∈fp,H' b=none)->∀b∈fp,fM X pins H' b:=λhn b hb=>⟨hn b hb,(f0 b hb).2⟩
 refine lz heq hx (λn s'=>∃i H',Inv X pins σ0 H' s'/\tn i s'.heap/\(∀b∈fp,H' b=none)/\W i n H') ?_ m0 ⟨0,H0,I0,mX,λb hb=>(f0 b hb).1,w0⟩;rintro n s4 ⟨i,H4,I4,N7,Np,w4⟩;rcases turn i n H4 w4 with ⟨stop,qn⟩|⟨go,step⟩
 ·refine ba (T.done X rfl rfl rfl hc i pins s4 _ H4 X.xe I4 (mK Np) N7 stop) λr s5⟨hr,I5⟩=>?_
  subst hr;exact fin s5 H4 I5 qn
 ·refine ba (T.item X rfl rfl rfl hc i pins s4 _ H4 X.xe I4 (mK Np) N7 go) λr s5⟨u,hr,h5⟩=>?_
  subst hr;refine ba h5 λ_ s6⟨x,H6,I6,r6,y6,MM,OJ⟩=>?_
  have Ol:=I6.pinned (mK OJ) (T.obj _ _ MM);have again:∀{s7:Shared}{σ7:St}{H7:Hp}{m7:Nat},Inv X (pins++jM fp s6.heap) σ7 H7 s7->Le σ0 σ7->m7<n->W (i+1) m7 H7->
    ∃m,m<n/\∃i H',Inv X pins σ0 H' s7/\tn i s7.heap/\(∀b∈fp,H' b=none)/\W i m H':=λ {s7 σ7 H7 m7} I7 hσ hm w7=>by
   refine⟨m7,hm,i+1,H7,I7.gO.le hσ,T.keep _ _ _ MM λb hb o e=>(I7.pin (b,o) (Rk _ (Rk _ (dY hb e)))).1,λb hb=>?_,w7⟩;obtain⟨o,e,d⟩:=T.obj _ _ MM b hb;exact(I7.pin (b,o) (Rk _ (Rk _ (dY hb e)))).2.1
  refine ba (hg _ s6 _ H6 x u _ Ol r6 (tN x _ H6 _ (Le.refl _) (step x H6 y6))) λ_ s7⟨σ7,H7,I7,NV,q7⟩=>?_
  refine ba (ht _ s7 σ7 H7 _ I7 q7) λb s8⟨H8,I8,q8⟩=>?_
  cases b with
  |false=>rw[S9 ∅]at q8 ⊢;obtain⟨m',hm,w8⟩:=q8;exact again I8 NV hm w8
  |true=>
   rw[Ta rfl]at q8 ⊢;refine ba (hb _ s8 σ7 H8 _ I8 q8) λ_ s9⟨H9,I9,m',hm,w9⟩=>?_
   exact again I9 NV hm w9
def yo(D:Addr)(te:TE):TB:=λσ H Q=>te σ H λv H4=>∃fm,H4 D=some (.lst fm)/\fm.length<sizeLine/\Q (upd H4 D (.lst (fm++[v])))
theorem rV{elt:Expr}{te:TE}{D:Addr}(he:PE X elt te):PB X (jm elt (.ref D) X.env) (yo D te):=by intro pins s σ H Q I h;unfold jm;refine QK (ba (he pins s σ H _ I h) λy s9⟨v,H9,I9,r9,fm,OS,hz,q⟩=>?_);refine QK (ba (kL _ s9 σ H9 (.ref D) [v] (.ref D) [y] (λ_ H'=>H'=upd H9 D (.lst (fm++[v]))) I9 rfl (.cons r9 .nil) ⟨D,fm,v,rfl,rfl,OS,hz,rfl⟩) λ_ s10⟨_,Qp,Oi,_,OA⟩=>?_);subst OA;exact QN ⟨_,Oi,q⟩
end
theorem eX{x:Str}{c:Addr}:∀(names:List (Str×NameKind))(n:Nat)(acc:List (Str×Addr)),(cellsFrom n names acc).lookup x=some c->(n<=c/\(x,NameKind.cell)∈names)\/acc.lookup x=some c
 |[],n,acc,h=>.inr h
 |(y,k)::r,n,acc,h=>by
  unfold cellsFrom at h;by_cases hk:(k==NameKind.cell)=true
  ·rw[Ta hk]at h;rcases eX r (n+1) _ h with ⟨h1,h2⟩|h1
   ·exact .inl ⟨QY (SE _) h1,QS _ h2⟩
   ·rw[Re]at h1;cases hb:x==y with
    |true=>
     rw[hb]at h1;cases h1;have:x=y:=by simpa using hb
     subst this;have:k=NameKind.cell:=by simpa using hk
     subst this;exact .inl ⟨QT _,QU⟩
    |false=>rw[hb]at h1;exact .inr h1
  ·rw[S9 hk]at h;rcases eX r n _ h with ⟨h1,h2⟩|h1
   ·exact .inl ⟨h1,QS _ h2⟩
   ·exact .inr h1
theorem pz{x y:Str}{c:Addr}:∀(names:List (Str×NameKind))(n:Nat)(acc:List (Str×Addr)),(∀x c,acc.lookup x=some c->c<n)->(∀x y c,acc.lookup x=some c->acc.lookup y=some c->x=y)->
  (cellsFrom n names acc).lookup x=some c->(cellsFrom n names acc).lookup y=some c->x=y
 |[],n,acc,h1,h2,hx,hy=>h2 x y c hx hy
 |(z,k)::r,n,acc,h1,h2,hx,hy=>by
  unfold cellsFrom at hx hy;by_cases hk:(k==NameKind.cell)=true
  ·rw[Ta hk]at hx hy;refine pz r (n+1) _ (λa b iO=>?_) (λa b e ha hb=>?_) hx hy
   ·rw[Re]at iO;cases hq:a==z with
    |true=>rw[hq]at iO;cases iO;exact SH _
    |false=>rw[hq]at iO;exact SG (h1 a b iO)
   ·rw[Re]at ha hb;cases hq:a==z with
    |true=>
     rw[hq]at ha;cases ha;cases hq2:b==z with
     |true=>
      have e1:a=z:=by simpa using hq
      have e2:b=z:=by simpa using hq2
      rw[e1,e2]
     |false=>rw[hq2]at hb;exact absurd (h1 b _ hb) (SF _)
    |false=>
     rw[hq]at ha;cases hq2:b==z with
     |true=>rw[hq2]at hb;cases hb;exact absurd (h1 a _ ha) (SF _)
     |false=>rw[hq2]at hb;exact h2 a b e ha hb
  ·rw[S9 hk]at hx hy;exact pz r n acc h1 h2 hx hy
theorem lx{x:Str}{c:Addr}:∀(names:List (Str×NameKind))(n:Nat)(acc:List (Str×Addr)),(x,NameKind.cell)∉names->acc.lookup x=some c->(cellsFrom n names acc).lookup x=some c
 |[],n,acc,_,h=>h
 |(z,k)::r,n,acc,hn,h=>by
  unfold cellsFrom;by_cases hk:(k==NameKind.cell)=true
  ·rw[Ta hk];refine lx r (n+1) _ (λz'=>hn (QS _ z')) ?_;rw[Re];have:(x==z)=false:=by
    cases hq:x==z with
    |false=>rfl
    |true=>
     have e1:x=z:=by simpa using hq
     have e2:k=NameKind.cell:=by simpa using hk
     subst e1 e2;exact absurd QU hn
   rw[this];exact h
  ·rw[S9 hk];exact lx r n acc (λz'=>hn (QS _ z')) h
theorem ji{x:Str}{c:Addr}:∀(names:List (Str×NameKind))(h:Heap)(acc:List (Str×Addr)),(∀x c,acc.lookup x=some c->∃v,h.IsCell c v)->(cellsFrom h.objs.size names acc).lookup x=some c->∃v,(pushCells h names).IsCell c v
 |[],h,acc,ha,hx=>ha x c hx
 |(z,k)::r,h,acc,ha,hx=>by
  unfold cellsFrom at hx;unfold pushCells;by_cases hk:(k==NameKind.cell)=true
  ·rw[Ta hk]at hx ⊢;refine ji r _ ((z,h.objs.size)::acc) (λa b iO=>?_) (by rw[Ri];exact hx);rw[Re]at iO;cases hq:a==z with
   |true=>rw[hq]at iO;cases iO;exact⟨none,_,QV _ rfl,rfl⟩
   |false=>rw[hq]at iO;obtain⟨v,o,ho,hd⟩:=ha a b iO;exact⟨v,o,QM _ ho,hd⟩
  ·rw[S9 hk]at hx ⊢;exact ji r h acc ha hx
theorem oR{M:Model}{A:Around}{E:Value->Shared->Prop}{s:Shared}{scope:Scope}{globals:Addr}{cl:List (Str×Addr)}{qual:Str}{out:Env}{Q:Env->Shared->Prop}
  (hQ:∀h',h'=pushCells (s.heap.push {cls:=.type "dict",data:=.dict #[]}) scope.names->Q (newEnv scope s.heap.objs.size globals (cellsFrom (s.heap.objs.size+1) scope.names cl) qual none .none (some out) builtinsNs) {s with heap:=h'}):
  wpAny M A (newFunctionEnv scope globals cl [] qual none .none (some out)) Q E s:=by
 simp only[newFunctionEnv,Option.isSome_some,Tb];refine QK (wpAny_alloc ?_);refine QK (wpAny_layCells _ (λname kind cells=>by cases hkc:kind==NameKind.cell<;>simp[hkc]) _ _ _ _ ?_);rw[show ({s with heap:=s.heap.push {cls:=.type "dict",data:=.dict #[]}}:Shared).heap.objs.size=s.heap.objs.size+1 from Ri ..];rw[List.forIn_nil];exact QK (QN (QN (hQ _ rfl)))
def fq(X:Cx)(scope:Scope)(N':List Str)(C:Addr)(s:Shared)(H:Hp)(fp:List Addr)(xe:Value->Shared->Prop):Cx:=
 {X with N:=N',s₀:=s,H₀:=H,env:=compEnvC scope (cellsFrom (C+1) scope.names (ez scope X.env)) C X.env,outer:=X.stack,stack:=X.stack,ex:=fp,fn:=λx=>scope.names.lookup x==some .cell,pn:=[],xe:=xe}
structure eE(X:Cx)(scope:Scope)(N':List Str)(cap:List (Option Nat)):Prop where
 kind:scope.kind= .function
 nd:∀y∈scope.names,scope.names.lookup y.1=some y.2
 free:∀y∈scope.names,y.2= .free->X.env.scope.names.lookup y.1=some .cell\/X.env.scope.names.lookup y.1=some .free
 tF:∀(j i:Nat),cap[j]?=some (some i)->∃x,N'[j]?=some x/\X.N[i]?=some x/\scope.names.lookup x=some .free
 len:cap.length=N'.length
section
variable{X:Cx}{scope:Scope}{N':List Str}{cap:List (Option Nat)}{pins:List (Addr×Obj)}{σ:St}{H:Hp}{s:Shared}
theorem eE.frees(B:eE X scope N' cap)(ok:X.Ok):∀y∈scope.names,y.2= .free->∃c,X.env.cells.lookup y.1=some c:=λy hy hf=>ok.has y.1 (B.free y hy hf)
theorem eE.up(B:eE X scope N' cap)(ok:X.Ok){x:Str}{c:Addr}(h:(ez scope X.env).lookup x=some c):X.env.cells.lookup x=some c:=
 il scope.names [] (B.frees ok) (λ_ z=>by simp at z) h
theorem eE.oj(B:eE X scope N' cap){x:Str}(h:scope.names.lookup x=some .free):(x,NameKind.cell)∉scope.names:=λz=>by have:=B.nd _ z;rw[h]at this;cases this
theorem pv{xe:Value->Shared->Prop}(B:eE X scope N' cap)(I:Inv X pins σ H s){fp:List Addr}{tk:Nat}(hf:∀b∈fp,fM X pins H b)(cP:∀b∈fp,b<s.heap.objs.size):
  Inv (fq X scope N' s.heap.objs.size s H fp xe) [] (cu cap σ) H {s with heap:=pushCells (s.heap.push {cls:=.type "dict",data:=.dict #[]}) scope.names,toks:=tk}:=by
 have ok:=I.ok;have hz:(s.heap.push {cls:=.type "dict",data:=.dict #[]}).objs.size=s.heap.objs.size+1:=Ri ..;have hk:∀b o,s.heap.get? b=some o->(pushCells (s.heap.push {cls:=.type "dict",data:=.dict #[]}) scope.names).get? b=some o:=λb o e=>Tf _ _ _ _ (QM _ e)
 have G7:(pushCells (s.heap.push {cls:=.type "dict",data:=.dict #[]}) scope.names).Ns s.heap.objs.size λ_=>none:=(Heap.Ns.new s.heap (.type "dict")).keeps (Tf _ _)
 have Oy:∀x c,(ez scope X.env).lookup x=some c->c<s.heap.objs.size:=λx c h=>by obtain⟨v,z⟩:=I.cell x c (B.up ok h);exact z.lt
 have vo:∀x c,(cellsFrom (s.heap.objs.size+1) scope.names (ez scope X.env)).lookup x=some c->(s.heap.objs.size+1<=c/\(x,NameKind.cell)∈scope.names)\/X.env.cells.lookup x=some c:=λx c h=>(eX _ _ _ h).imp id (B.up ok)
 have pR:∀x,scope.names.lookup x=some .free->(compEnvC scope (cellsFrom (s.heap.objs.size+1) scope.names (ez scope X.env)) s.heap.objs.size X.env).kindOf x=some .cell\/(compEnvC scope (cellsFrom (s.heap.objs.size+1) scope.names (ez scope X.env)) s.heap.objs.size X.env).kindOf x=some .free:=λx hx=>by
  have q:=aJ (env:=X.env) hx;by_cases hc:(NameKind.free==NameKind.free&&X.env.scope.kind== .function&&X.env.kindOf x==some .cell)=true
  ·rw[Ta hc]at q;exact .inl q
  ·rw[S9 hc]at q;exact .inr q
 refine⟨⟨ok.mod,?kind,ok.glob,ok.blt,QT _,?inj,?has,?yQ,ok.hd,ok.frames,.inl rfl,?BJ,I.bs,QY ok.vh I.sz,?kf,?lG,I.stack,I.mM⟩,
  rfl,I.bare,Un.kept hk,⟨_,G7,?loc⟩,?cell,I.hok.fresh (QT _),?b8,?pin,I.hok.kept hk,?len⟩
 case kind=>exact B.kind
 case inj=>exact λx y c h1 h2=>pz _ _ _ (λx c h=>SG (Oy x c h)) (λx y c h1 h2=>ok.inj x y c (B.up ok h1) (B.up ok h2)) h1 h2
 case has=>
  intro x hx;cases hl:scope.names.lookup x with
  |none=>
   have q:=bD (env:=X.env) hl;exact absurd hx (by
    have q':(compEnvC scope (cellsFrom (s.heap.objs.size+1) scope.names (ez scope X.env)) s.heap.objs.size X.env).kindOf x=none:=q;show¬((compEnvC scope (cellsFrom (s.heap.objs.size+1) scope.names (ez scope X.env)) s.heap.objs.size X.env).kindOf x=some .cell\/(compEnvC scope (cellsFrom (s.heap.objs.size+1) scope.names (ez scope X.env)) s.heap.objs.size X.env).kindOf x=some .free);rw[q'];simp)
  |some k=>
   have q:(compEnvC scope (cellsFrom (s.heap.objs.size+1) scope.names (ez scope X.env)) s.heap.objs.size X.env).kindOf x=some (if (k==NameKind.free&&X.env.scope.kind== .function&&X.env.kindOf x==some .cell) then NameKind.cell else k):=aJ (env:=X.env) hl;have hm:=SY hl;by_cases De:k= .free
   ·subst De;obtain⟨c,zW⟩:=jj (env:=X.env) scope.names [] (.inl hm);exact⟨c,lx _ _ _ (B.oj hl) zW⟩
   ·have hb:(k==NameKind.free)=false:=by simpa using De
    have wq:(compEnvC scope (cellsFrom (s.heap.objs.size+1) scope.names (ez scope X.env)) s.heap.objs.size X.env).kindOf x=some .cell\/(compEnvC scope (cellsFrom (s.heap.objs.size+1) scope.names (ez scope X.env)) s.heap.objs.size X.env).kindOf x=some .free:=hx;rw[q,hb]at wq;simp only[Bool.false_and,RF,S8,Option.some.injEq]at wq;rcases wq with z|z
    ·subst z;exact Option.isSome_iff_exists.mp (SW scope.names _ _ (.inl hl))
    ·exact absurd z De
 case yQ=>
  intro x c v9 h;have v9:(scope.names.lookup x==some .cell)=true:=v9;rcases eX _ _ _ h with ⟨h1,_⟩|h1
  ·exact QY (SE _) h1
  ·exfalso;have e:=Ra v9;have:∀(l:List (Str×NameKind))(cs:List (Str×Addr)),(∀c,cs.lookup x≠some c)->(∀y∈l,y.1=x->y.2≠ .free)->(ly X.env l cs).lookup x=none:=by
    intro l
    induction l with
    |nil=>
     intro cs uN _;cases hq:cs.lookup x with
     |none=>exact hq
     |some c=>exact absurd hq (uN c)
    |cons y l ih=>
     intro cs uN hl;obtain⟨n,k⟩:=y;show (ly X.env l (if (k==NameKind.free)=true then(n,(X.env.cells.lookup n).getD 0)::cs else cs)).lookup x=none;refine ih _ (λc=>?_) λy hy=>hl y (QS _ hy)
     by_cases hk:(k==NameKind.free)=true
     ·rw[Ta hk,Re];have:(x==n)=false:=by
       cases hq:x==n with
       |false=>rfl
       |true=>
        have e1:x=n:=by simpa using hq
        have e2:k=NameKind.free:=by simpa using hk
        exact absurd e2 (hl (n,k) QU e1.symm)
      rw[this];exact uN c
     ·rw[S9 hk];exact uN c
   have q:=this scope.names [] (λc z=>by simp at z) λy hy e1 e2=>by have:=B.nd y hy;rw[e1,e2,e]at this;cases this
   unfold ez at h1;rw[q]at h1;cases h1
 case BJ=>
  intro b hb;refine⟨Rj (cP b hb),λx c e=>?_⟩;rcases vo x c e with ⟨h1,_⟩|h1
  ·intro z;subst z;exact absurd (Q8 (cP c hb) (QY (SE _) h1)) (SF _)
  ·exact(hf b hb).2.2.2.2.1 x c h1
 case kf=>
  intro b o e hb;rcases (hf b hb).2.2.2.1 with z|z
  ·exact ok.kf b o e z
  ·exact absurd (Q8 (QX (ok.bs b o e).1) z) (SF _)
 case lG=>
  intro b hb hs;rcases QZ.mp (I.jW b hs)with z|z
  ·exact(hf b hb).2.1 z
  ·exact(hf b hb).2.2.1 z
 case loc=>
  intro j x v h1 h2 h3;have hj:∃i,cap[j]?=some (some i)/\(σ[i]?).join=some v:=by
   unfold cu at h2;rw[Q6]at h2;cases hc:cap[j]? with
   |none=>rw[hc]at h2;cases h2
   |some o=>
    rw[hc]at h2;cases o with
    |none=>cases h2
    |some i=>exact⟨i,rfl,by simpa using h2⟩
  obtain⟨i,hc,hv⟩:=hj;obtain⟨x',e1,e2,e3⟩:=B.tF j i hc;have ex:x'=x:=by have KW:N'[j]?=some x:=h1;rw[KW]at e1;injection e1 with e1;exact e1.symm
  subst ex;have PN:σ[i]?=some (some v):=by
   cases q:σ[i]? with
   |none=>rw[q]at hv;cases hv
   |some o=>rw[q]at hv;cases o with
    |none=>cases hv
    |some z=>simp at hv;rw[hv]
  have Hb:=B.free _ (SY e3) rfl;obtain⟨m,hn,hl⟩:=I.loc;obtain⟨u,r,l⟩:=hl i x' v e2 PN (.inr Hb);refine⟨u,r,?_⟩;obtain⟨c,zW⟩:=jj (env:=X.env) scope.names [] (.inl (SY e3));have NA:=B.up ok zW;rcases l with ⟨k,_⟩|⟨k,c',e,z⟩
  ·exfalso;have k':X.env.scope.names.lookup x'=some .local:=k;rcases Hb with q|q
   ·rw[k']at q;cases q
   ·rw[k']at q;cases q
  ·have OB:c'=c:=by rw[e]at NA;injection NA
   subst OB;exact .inr ⟨pR x' e3,c',lx _ _ _ (B.oj e3) zW,by obtain⟨o,ho,hd⟩:=z;exact⟨o,hk _ _ ho,hd⟩⟩
 case cell=>intro x c e;refine ji scope.names (s.heap.push {cls:=.type "dict",data:=.dict #[]}) (ez scope X.env) (λa b iO=>?_) (by rw[hz];exact e);obtain⟨v,o,ho,hd⟩:=I.cell a b (B.up ok iO);exact⟨v,o,QM _ ho,hd⟩
 case b8=>
  intro x c e;rcases vo x c e with ⟨h1,_⟩|h1
  ·exact I.hok.fresh (QY (SE _) h1)
  ·exact I.b8 x c h1
 case pin=>intro p hp;cases hp
 case len=>show (cu cap σ).length=N'.length;unfold cu;rw[QW];exact B.len
def Bx(X:Cx)(C:Addr)(x:Value)(s':Shared):Prop:=∃m,s'.heap.Ns C m/\∀h',Heap.SameBut C s'.heap h'->∀tG:Env,tG.locals=C->wpAny (model X.prog X.w) X.A (passOn "comprehension.variables-let-go" x tG:Sem Value) (λ_ _=>False) X.xe {s' with heap:=h'}
structure zg(X:Cx)(scope:Scope)(N':List Str)(xb:Addr->Shared->Hp->List Addr->Value->Shared->Prop):Prop where
 note:∀(pins:List (Addr×Obj))(σ:St)(C:Addr)(s s1:Shared)(H H1:Hp)(fp:List Addr)x s',Inv X pins σ H1 s1->(∀b∈fp,fM X pins H1 b)->s1.heap.objs.size<C->s={s1 with heap:=s1.heap.push {cls:=.type "list",data:=.seq ([]:List Value).toArray},toks:=s1.toks}->H=upd H1 s1.heap.objs.size (.lst [])->C=s.heap.objs.size->
  xb C s H fp x s'->notedBy (model X.prog X.w) X.A (fq X scope N' C s H fp (xb C s H fp)).env (Bx X C) x s'
variable{elt tg iter:Expr}{ifs:List Expr}{pos:Pos}{g:TG}{tt:TT}
theorem kA{gens:List Comprehension}{xb:Addr->Shared->Hp->List Addr->Value->Shared->Prop}{pins:List (Addr×Obj)}{σ:St}{H2:Hp}{s2:Shared}{it:Addr}{fp:List Addr}{tn:Nat->Heap->Prop}{J:It}{F:Hp->Prop}{tb:Addr->TB}{body:Value->Env->Sem Unit}{p:Pos}{RR:Value->Addr->Result->Shared->Prop}(hc:X.calm=true)(B:eE X scope N' cap)(hX:zg X scope N' xb)
  (heq:∀pQ acc env,compTurn (.ListComp elt (⟨tg,iter,ifs,0⟩::gens) scope pos) 0 pQ acc env=fX (.ListComp elt (⟨tg,iter,ifs,0⟩::gens) scope pos) 0 pQ acc env tg ifs p (body acc env))
  (tN:GL (cu cap σ) g) (hg:∀C s H fp,PG (fq X scope N' C s H fp (xb C s H fp)) tg g) (ht:∀C s H fp,Cr (fq X scope N' C s H fp (xb C s H fp)) ifs tt) (hb:∀C s H fp D,PB (fq X scope N' C s H fp (xb C s H fp)) (body (.ref D) (fq X scope N' C s H fp (xb C s H fp)).env) (tb D))
  (I2:Inv X pins σ H2 s2) (T:Turn X.prog X.w X.K tg J fp it tn) (Bl:tn 0 s2.heap) (f2:∀b∈fp,fM X pins H2 b) (hF:qC J g tt (tb s2.heap.objs.size) (cu cap σ) F (upd H2 s2.heap.objs.size (.lst [])))
  (O0:∀C s' H' m,s2.heap.objs.size<C->Inv X pins σ H' s'->s'.heap.Ns C m->fM X pins H' C->F H'->RR (.ref s2.heap.objs.size) C (.ok .next) s') (Nw:∀C x s',Bx X C x s'->RR (.ref s2.heap.objs.size) C (.error x) s') {E:Value->Shared->Prop}:
  wpAny (model X.prog X.w) X.A (newList []) (λacc s₃=>wpAny (model X.prog X.w) X.A (newFunctionEnv scope X.env.globals (ez scope X.env) [] X.env.qual none .none (some X.env)) (λtG s₄=>
   codeAny (model X.prog X.w) X.A (.compStart (.ListComp elt (⟨tg,iter,ifs,0⟩::gens) scope pos) 0 (.ref it) acc {tG with scope:=relabel scope X.env}) (RR acc tG.locals) s₄) E s₃) E s2:=by
 refine Tq (oR λh₁ hh₁=>?_);have I3:=I2.Hx (ys:=[]) (its:=[]) (t':=s2.toks) .nil (SJ _);dsimp only at hh₁ ⊢;have hC:(s2.heap.push {cls:=.type "list",data:=.seq ([]:List Value).toArray}).objs.size=s2.heap.objs.size+1:=Ri ..;generalize hD:s2.heap.objs.size=D at *;have yU:∀b∈fp,b<D:=λb hb=>by obtain⟨o,e,_⟩:=T.obj 0 _ Bl b hb;rw[<-hD];exact QX e
 have f3:∀b∈fp,fM X pins (upd H2 D (.lst [])) b:=λb hb=>⟨by rw[aC (Rj (yU b hb))];exact(f2 b hb).1,(f2 b hb).2⟩
 generalize Dr:({s2 with heap:=s2.heap.push {cls:=.type "list",data:=.seq ([]:List Value).toArray},toks:=s2.toks}:Shared)=s3 at I3;have wo:s3.heap=s2.heap.push {cls:=.type "list",data:=.seq ([]:List Value).toArray}:=by rw[<-Dr]
 have BN:s3.heap.objs.size=D+1:=by rw[wo];exact hC
 have IB:=pv (xe:=xb s3.heap.objs.size s3 (upd H2 D (.lst [])) fp) (tk:=s2.toks) B I3 f3 (λb hb=>by rw[BN];exact SG (yU b hb));have hk:∀b o,s3.heap.get? b=some o->(pushCells (s3.heap.push {cls:=.type "dict",data:=.dict #[]}) scope.names).get? b=some o:=λb o e=>Tf _ _ _ _ (QM _ e)
 rw[<-wo]at hh₁;rw[<-hh₁]at IB hk;have e4:({s3 with heap:=h₁,toks:=s2.toks}:Shared)={s2 with heap:=h₁}:=by rw[<-Dr]
 rw[e4]at IB;rw[hC];have mK:∀{H':Hp},(∀b∈fp,H' b=none)->∀b∈fp,fM (fq X scope N' s3.heap.objs.size s3 (upd H2 D (.lst [])) fp (xb s3.heap.objs.size s3 (upd H2 D (.lst [])) fp)) [] H' b:=λhn b hb=>
  ⟨hn b hb,by show b≠s3.heap.objs.size;rw[BN];exact Rj (SG (yU b hb)),λz=>(by
   rcases QZ.mp (I3.jW b z)with q|q
   ·exact(f3 b hb).2.1 q
   ·exact(f3 b hb).2.2.1 q),.inl hb,(IB.ok.BJ b hb).2,λp hp=>absurd hp (by intro z;cases z)⟩
 have loop:∀s':Shared,s'={s2 with heap:=h₁}->codeAny (model X.prog X.w) X.A (.compLoop (.ListComp elt (⟨tg,iter,ifs,0⟩::gens) scope pos) 0 (.ref it) (.ref D) (fq X scope N' s3.heap.objs.size s3 (upd H2 D (.lst [])) fp (xb s3.heap.objs.size s3 (upd H2 D (.lst [])) fp)).env)
   (RR (.ref D) (D+1)) s':=by
  rintro s' rfl;refine tI (X:=fq X scope N' s3.heap.objs.size s3 (upd H2 D (.lst [])) fp (xb s3.heap.objs.size s3 (upd H2 D (.lst [])) fp)) hc (heq _ _ _) (λx s' q=>?_) (hg _ _ _ _) tN (ht _ _ _ _) (hb _ _ _ _ D) IB T (T.keep _ _ _ Bl (λb hb o e=>hk b o (by rw[wo];exact QM _ e))) (mK λb hb=>(f3 b hb).1) hF λs5 H5 I5 qn=>?_
  ·have z:=hX.note pins σ s3.heap.objs.size s3 s2 (upd H2 D (.lst [])) H2 fp x s' I2 f2 (by rw[BN,hD];exact SH _) Dr.symm (by rw[hD]) rfl q;rw[BN]at z;exact Tp z (λ_ s'' w=>Nw (D+1) x s'' w) λy s'' w=>Nw (D+1) y s'' w
  ·obtain⟨m5,G6,_⟩:=I5.loc;have un:Un (dR X.stack) fp H2 H5 s2.heap s5.heap:=by
    have u1:Un (dR X.stack) fp H2 (upd H2 D (.lst [])) s2.heap s3.heap:=by rw[wo];exact Un.laid (λb u e=>QM _ e) (by rw[hD];exact QT _) (by rw[<-hD];exact I2.fresh)
    exact u1.trans I5.base
   have hI:Inv X pins σ H5 s5:=I2.vk (ch:=fp) (I5.os.trans (by show s3.os=s2.os;rw[<-Dr])) un I5.hok I5.bare λb hb=>⟨(f2 b hb).2.2.2.1,(f2 b hb).2.1,(f2 b hb).2.2.2.2.1,(f2 b hb).2.2.2.2.2⟩
   have wj:s5.heap.Ns (D+1) m5:=by have q:s5.heap.Ns s3.heap.objs.size m5:=G6;rw[BN]at q;exact q
   have K6:H5 (D+1)=none:=by have q:H5 s3.heap.objs.size=none:=I5.free;rw[BN]at q;exact q
   exact O0 (D+1) s5 H5 m5 (SH _) hI wj (I2.lK (by rw[hD];exact SE _) K6) qn
 have KZ:({newEnv scope (D+1) X.env.globals (cellsFrom (D+1+1) scope.names (ez scope X.env)) X.env.qual none .none (some X.env) builtinsNs with scope:=relabel scope X.env}:Env)=(fq X scope N' s3.heap.objs.size s3 (upd H2 D (.lst [])) fp (xb s3.heap.objs.size s3 (upd H2 D (.lst [])) fp)).env:=by unfold fq;rw[BN];rfl
 have go:=codeAny_compStart_list (loop _ rfl) (T.self X.A 0 _ _ _ (T.keep _ _ _ Bl (λb hb o e=>hk b o (by rw[wo];exact QM _ e))) (loop _ rfl));rw[<-KZ]at go;exact go
end
def qo(cap:List (Option Nat))(wi:TI)(g:TG)(tt:TT)(tb:Addr->TB):TE:=λσ H Q=>wi σ H λJ H1=>∀D,H1 D=none->GL (cu cap σ) g/\qC J g tt (tb D) (cu cap σ) (λH'=>Q (.ref D) H') (upd H1 D (.lst []))
section
variable{X:Cx}{scope:Scope}{N':List Str}{cap:List (Option Nat)}{elt tg iter:Expr}{ifs:List Expr}{gens:List Comprehension}{pos p:Pos}{wi:TI}{g:TG}{tt:TT}{tb:Addr->TB}{body:Value->Env->Sem Unit}{xb:Addr->Shared->Hp->List Addr->Value->Shared->Prop}
theorem xj(hc:X.calm=true)(B:eE X scope N' cap)(hX:zg X scope N' xb)(hi:PI X tg iter wi)(heq:∀pQ acc env,compTurn (.ListComp elt (⟨tg,iter,ifs,0⟩::gens) scope pos) 0 pQ acc env=fX (.ListComp elt (⟨tg,iter,ifs,0⟩::gens) scope pos) 0 pQ acc env tg ifs p (body acc env))
  (hg:∀C s H fp,PG (fq X scope N' C s H fp (xb C s H fp)) tg g) (ht:∀C s H fp,Cr (fq X scope N' C s H fp (xb C s H fp)) ifs tt) (hb:∀C s H fp D,PB (fq X scope N' C s H fp (xb C s H fp)) (body (.ref D) (fq X scope N' C s H fp (xb C s H fp)).env) (tb D))
  (hs:∀x,foldedSetIterable iter X.env x=pure x:=by intro _;rfl):PE X (.ListComp elt (⟨tg,iter,ifs,0⟩::gens) scope pos) (qo cap wi g tt tb):=by
 intro pins s σ H Q I h;rw[eval_ListComp];refine wpAny_comprehension_free (use:=none) rfl hs (fA (B.frees I.ok)) B.kind (λy hy e=>by rw[B.nd y hy,e]) (ba (hi pins s σ H _ I h) λx s₁ h₁=>ba h₁ λpQ s₂ h₂=>?_);obtain⟨it,fp,tn,J,H2,e,I2,T,Bl,f2,hF⟩:=h₂;subst e;obtain⟨tN,hW⟩:=hF _ I2.fresh;refine kA (RR:=λacc C=>compPost (model X.prog X.w) X.A X.xe none (EP X pins σ Q) acc C) hc B hX heq tN hg ht hb I2 T Bl f2 hW (λC s' H' m hC I' hn fC q=>?_) λC x s' z=>z
 refine⟨m,hn,λh' hsb=>⟨.ref _,H',I'.turned (t':=s'.toks) (λb o hb e=>(hsb.2 b hb).trans e) fC.1 fC.2.1 fC.2.2.2.1 fC.2.2.2.2.1 fC.2.2.2.2.2,rfl,q⟩⟩
theorem oq{i:Nat}{x:Str}{pos' IK:Pos}(hc:X.calm=true)(hN:X.N.Nodup)(LB:X.N[i]?=some x)(hx:X.env.kindOf x=some .local)(B:eE X scope N' cap)(hX:zg X scope N' xb)(hi:PI X tg iter wi)(heq:∀pQ acc env,compTurn (.ListComp elt (⟨tg,iter,ifs,0⟩::gens) scope pos) 0 pQ acc env=fX (.ListComp elt (⟨tg,iter,ifs,0⟩::gens) scope pos) 0 pQ acc env tg ifs p (body acc env))
  (hg:∀C s H fp,PG (fq X scope N' C s H fp (xb C s H fp)) tg g) (ht:∀C s H fp,Cr (fq X scope N' C s H fp (xb C s H fp)) ifs tt) (hb:∀C s H fp D,PB (fq X scope N' C s H fp (xb C s H fp)) (body (.ref D) (fq X scope N' C s H fp (xb C s H fp)).env) (tb D))
  (hs:∀x,foldedSetIterable iter X.env x=pure x:=by intro _;rfl)
  (FK:swapsWith (.ListComp elt (⟨tg,iter,ifs,0⟩::gens) scope pos) (some (.Name x pos')) IK.line X.env=pure true:=by rfl):
  PS X (.Assign [.Name x pos'] (.ListComp elt (⟨tg,iter,ifs,0⟩::gens) scope pos) IK) (mO (qo cap wi g tt tb) (dC i)):=by
 intro pins s σ H D I h;rw[exec_Assign_Name_used _ _ _ _ FK];refine QK (Tz (QK ?_));show wpAny _ X.A (do let _<-comprehension (.ListComp elt (⟨tg,iter,ifs,0⟩::gens) scope pos) scope X.env _ (newList []) false (eval iter X.env) (some (assign (.Name x pos') X.env))) _ _ s;refine QK (Tp (wpAny_comprehension_free (use:=some (assign (.Name x pos') X.env)) (Q:=λ_ s'=>SP X pins D .next s') rfl hs (fA (B.frees I.ok)) B.kind (λy hy e=>by rw[B.nd y hy,e]) (ba (hi pins s σ H _ I h) λx s₁ h₁=>ba h₁ λpQ s₂ h₂=>?_))
  (λ_ s' hq=>QN (QN hq)) λ_ _ e=>e)
 obtain⟨it,fp,tn,J,H2,e,I2,T,Bl,f2,hF⟩:=h₂;subst e;obtain⟨tN,hW⟩:=hF _ I2.fresh;refine kA (RR:=λacc C=>compPost (model X.prog X.w) X.A X.xe (some (assign (.Name _ pos') X.env)) (λ_ s'=>SP X pins D .next s') acc C) hc B hX heq tN hg ht hb I2 T Bl f2 hW (λC s' H' m hC I' hn fC q=>?_) λC x s' z=>z
 show wpAny _ X.A (assign (.Name _ pos') X.env (.ref _)) _ _ _;refine wpAny_assign_Name (kW (v:=.ref _) I' hN LB (.inl hx) rfl (λs3 I3 hsb=>?_) (.inr hx));obtain⟨a,sb,ha⟩:=hsb;have OR:C≠a:=by
  rcases ha with rfl|ha
  ·exact fC.2.1
  ·exact SL (fC.2.2.2.2.1 _ a ha)
 refine⟨m,hn.sameBut sb OR,λh' hsb'=>?_⟩;exact⟨_,H',I3.turned (t':=s3.toks) (λb o hb e=>(hsb'.2 b hb).trans e) fC.1 fC.2.1 fC.2.2.2.1 fC.2.2.2.2.1 fC.2.2.2.2.2,q⟩
end
end L2
end
section
namespace Mx
open PySem
structure Dd(s s':Heap):Prop where
 sz:s.objs.size<=s'.objs.size
 none:∀b,b<s.objs.size->s.get? b=none->s'.get? b=none
theorem Dd.refl(h:Heap):Dd h h:=⟨QT _,λ_ _ z=>z⟩
theorem Dd.trans{a b c:Heap}(x:Dd a b)(y:Dd b c):Dd a c:=⟨QY x.sz y.sz,λk hk z=>y.none k (Q8 hk x.sz) (x.none k hk z)⟩
theorem Dd.push(h:Heap)(o:Obj):Dd h (h.push o):=⟨by rw[Ri];exact SE _,λb hb z=>by
 cases hq:(h.push o).get? b with
 |none=>rfl
 |some o'=>
  obtain⟨q1,q2⟩:=Heap.get?_some_iff.mp hq;have q3:h.objs[b]?=some o':=by have e:(h.objs.push o)[b]?=some o':=q1;rw[Array.getElem?_push,S9 (Rj hb)]at e;exact e
  rw[Heap.get?_some_iff.mpr ⟨q3,q2⟩]at z;cases z⟩
theorem Dd.update(h:Heap)(a:Addr)(f:Obj->Obj)(ha:(h.get? a).isSome):Dd h (h.update a f):=⟨by rw[Heap.size_after_update];exact QT _,λb hb z=>by
 by_cases e:a=b
 ·subst e;rw[z]at ha;cases ha
 ·rw[Rg _ _ e];exact z⟩
theorem mG{M:Model}{Γ:Ctx}{p:Pos}{t:Sem PySem.Fin}{fs:List Frame}{s s':Shared}{e:End}(h:Runs M Γ p t fs s e s'):Dd s.heap s'.heap:=by
 induction h with
 |update ha _ ih=>exact(Dd.update _ _ _ ha).trans ih
 |alloc _ ih=>exact(Dd.push _ _).trans ih
 |done=>exact Dd.refl _
 |raise=>exact Dd.refl _
 |yield=>exact Dd.refl _
 |call _ _ ih1 ih2=>exact ih1.trans ih2
 |resumeFresh _ _ _ _ ih1 ih2=>exact Dd.trans (b:=_) ih1 ih2
 |resumeSuspended _ _ _ _ ih1 ih2=>exact Dd.trans (b:=_) ih1 ih2
 |segRet _ _ ih1 ih2=>exact ih1.trans ih2
 |segGen _ _ ih1 ih2=>exact Dd.trans (b:=_) ih1 ih2
 |segSuspGen _ _ _ _ ih1 ih2=>exact Dd.trans (b:=_) ih1 ih2
 |_=>assumption
theorem yD{M:Model}{Γ:Ctx}{p:Pos}{g:Nat}{r:Resume}{s s':Shared}{res:GenResult}(h:Wakes M Γ p g r s res s'):Dd s.heap s'.heap:=by
 unfold Wakes at h;split at h
 ·exact h.elim
 ·split at h
  ·obtain⟨e₁,s₁,hr,_,_,rfl⟩:=h;exact(mG hr:Dd (s.setGen g .running).heap s₁.heap)
  ·rw[h.2];exact Dd.refl _
  ·rw[h.2];exact Dd.refl _
 ·obtain⟨e₁,s₁,hr,_,_,rfl⟩:=h;exact(mG hr:Dd (s.setGen g .running).heap s₁.heap)
 ·rw[h.2];exact Dd.refl _
 ·rw[h.2];exact Dd.refl _
theorem Je{α:Type}(M:Model)(Γ:Ctx)(h0:Heap)(t:Sem α):∀(Q:α->Pos->Shared->Prop)(E:Value->Pos->Shared->Prop)(p:Pos)(s:Shared),Dd h0 s.heap->Sem.wp M Γ t Q E p s->
  Sem.wp M Γ t (λa p' s'=>Dd h0 s'.heap/\Q a p' s') (λe p' s'=>Dd h0 s'.heap/\E e p' s') p s:=by
 induction t with
 |pure a=>intro Q E p s hn h;exact⟨hn,h⟩
 |raise e=>intro Q E p s hn h;exact⟨hn,h⟩
 |unsupported _=>intro Q E p s _ h;exact h
 |finish _=>intro Q E p s _ h;exact h
 |rule _ k ih=>intro Q E p s hn h;exact ih () Q E p s hn h
 |«at» p' k ih=>intro Q E p s hn h;exact ih () Q E p' s hn h
 |load a _ k ih=>intro Q E p s hn h;obtain⟨o,ho,h⟩:=h;exact⟨o,ho,ih o Q E p s hn h⟩
 |update a _ f k ih=>intro Q E p s hn h;exact⟨h.1,ih () Q E p _ (hn.trans (Dd.update _ _ _ h.1)) h.2⟩
 |loadIfAlive a k ih=>intro Q E p s hn h;exact ih _ Q E p s hn h
 |point _ k ih=>intro Q E p s hn h;exact ih () Q E p s hn h
 |register _ _=>intro Q E p s _ h;exact h
 |alloc o k ih=>intro Q E p s hn h;exact ih _ Q E p _ (hn.trans (Dd.push _ _)) h
 |fresh k ih=>intro Q E p s hn h;exact ih _ Q E p _ hn h
 |ask k ih=>intro Q E p s hn h;exact ih _ Q E p s hn h
 |choose src m k ih=>intro Q E p s hn h;exact⟨h.1,ih _ Q E p _ hn h.2⟩
 |os q _ k ih=>intro Q E p s hn h;exact ih _ Q E p _ hn h
 |call c hd _ _ k ih=>intro Q E p s hn h;obtain⟨r,s',hr,h⟩:=h;exact⟨r,s',hr,ih r Q E p s' (hn.trans (mG hr)) h⟩
 |handled own k ih=>intro Q E p s hn h;exact ih _ Q E p s hn h
 |genState g k ih=>intro Q E p s hn h;obtain⟨st,hs,h⟩:=h;exact⟨st,hs,ih _ Q E p s hn h⟩
 |newGen c k ih=>intro Q E p s hn h;exact ih _ Q E p _ hn h
 |resume g r _ k ih=>intro Q E p s hn h;obtain⟨res,s',hw,h⟩:=h;exact⟨res,s',hw,ih res Q E p s' (hn.trans (yD hw)) h⟩
 |yield _ _ _ _=>intro Q E p s _ h;exact h
 |stack k ih=>intro Q E p s hn h;exact ih _ Q E p s hn h
 |fork _ _=>intro Q E p s _ h;exact h
 |thread k ih=>intro Q E p s hn h;exact ih _ Q E p s hn h
 |await _ _ _ _ _=>intro Q E p s _ h;exact h
theorem kn{α:Type}{M:Model}{A:Around}{s:Shared}{t:Sem α}{Q:α->Shared->Prop}{E:Value->Shared->Prop}(h:wpAny M A t (λa s'=>Dd s.heap s'.heap->Q a s') (λe s'=>Dd s.heap s'.heap->E e s') s):wpAny M A t Q E s:=
 have q:wpAny M A t (λa s'=>Dd s.heap s'.heap/\(Dd s.heap s'.heap->Q a s')) (λe s'=>Dd s.heap s'.heap/\(Dd s.heap s'.heap->E e s')) s:=λΓ p hΓ=>Je M Γ s.heap t _ _ p s (Dd.refl _) (h Γ p hΓ)
 Tp q (λ_ _ x=>x.2 x.1) (λ_ _ x=>x.2 x.1)
end Mx
end
section
namespace L2
open PySem PySem.Spec PyProof.Rows
theorem jl(o:Obj)(f:Array Value->Array Value):(o.mapFields f).dict=o.dict:=by obtain⟨c,d,dt,sl⟩:=o;cases dt<;>rfl
def cK(h:Heap)(a T:Addr):Prop:=∃o vs,h.get? a=some o/\o.data= .fields vs/\vs[1]?=some (.ref T)
structure f6(N:Nat)(cls:Value)(a:Addr)(H:Hp)(h:Heap):Prop where
 ge:N<=a
 nH:H a=none
 obj:∃o vs,h.get? a=some o/\(o.cls=cls/\o.dict=none)/\o.data= .fields vs/\(vs[1]?=some .none\/∃T,vs[1]?=some (.ref T))
 tb:∀T,cK h a T->N<=T/\H T=none/\T≠a/\∃oT ts,h.get? T=some oT/\oT.data= .fields ts/\3<ts.size
structure pb(fs:List Addr)(a:Addr)(h h':Heap):Prop where
 keep:∀b o,h.get? b=some o->b≠a->¬cK h a b->b∉fs->h'.get? b=some o
 slot:∀b o,h.get? b=some o->b≠a->¬cK h a b->∃sl,h'.get? b=some {o with slots:=sl}
 there:∀b o,h.get? b=some o->∃o',h'.get? b=some o'
 tb:∀T,cK h' a T->cK h a T\/h.get? T=none
theorem pb.trans{fs:List Addr}{a:Addr}{h h1 h2:Heap}(x:pb fs a h h1)(y:pb fs a h1 h2):pb fs a h h2 where
 keep:=λb o e n nt nf=>by
  have e1:=x.keep b o e n nt nf;exact y.keep b o e1 n (λz=>by
   rcases x.tb b z with q|q
   ·exact nt q
   ·rw[e]at q;cases q) nf
 slot:=λb o e n nt=>by
  obtain⟨sl,e1⟩:=x.slot b o e n nt;obtain⟨uR,e2⟩:=y.slot b _ e1 n (λz=>by
   rcases x.tb b z with q|q
   ·exact nt q
   ·rw[e]at q;cases q)
  exact⟨uR,e2⟩
 there:=λb o e=>by obtain⟨o1,e1⟩:=x.there b o e;exact y.there b o1 e1
 tb:=λT z=>by
  rcases y.tb T z with q|q
  ·exact x.tb T q
  ·right;cases hq:h.get? T with
   |none=>rfl
   |some o=>obtain⟨o',e'⟩:=x.there T o hq;rw[e']at q;cases q
theorem pb.refl{fs:List Addr}{a:Addr}{h:Heap}:pb fs a h h:=⟨λ_ _ e _ _ _=>e,λ_ o e _ _=>⟨o.slots,e⟩,λ_ o e=>⟨o,e⟩,λ_ z=>.inl z⟩
section
variable{M:Model}{A:Around}{E:Value->Shared->Prop}{s:Shared}{N:Nat}{cls:Value}{a:Addr}{H:Hp}{base:Heap}{env eL:Env}{outer:List Env}{L:Addr}
theorem iF(e:Value)(h:env.frame=eL.frame):noteFrame e env=noteFrame e eL:=by unfold noteFrame PySem.frameOf;rw[h]
theorem nK(j6:A.frames=some (env::outer))(hl:s.heap.FunFrames base (env::outer))(hf:env.frame=some L)(F:f6 N cls a H s.heap)(fresh:∀b,s.heap.objs.size<=b->H b=none){head:Value}{zU:Bool}{Q:Unit->Shared->Prop}
  (q:∀h',pb (dR (env::outer)) a s.heap h'->f6 N cls a H h'->(∃T,cK h' a T)->Q () {s with heap:=h'}):
  wpAny M A (do let x<-frameOf env;let pl<-entryPlaceOf L zU;let b<-EntryCells.newEntry head x .none (rawInt L) .none pl;setField (.ref a) 1 b) Q E s:=by
 obtain⟨oe,vs,he,nV,hd,h1⟩:=F.obj;have nY:1<vs.size:=by rcases h1 with h1|⟨T,h1⟩<;>exact(Array.getElem?_eq_some_iff.mp h1).1
 have Ly:a∉dR (env::outer):=λhm=>by obtain⟨_,o,ho,JQ⟩:=hl.mem hm;rw[he]at ho;injection ho with ho;subst ho;exact JQ vs hd
 refine QK (wpAny_frameOf_fun j6 hl hf λh₁ hs₁=>?_);refine QK (wpAny_entryPlaceOf λpl j7=>?_);unfold EntryCells.newEntry newFields;refine QK (Tq ?_ (j7.sizeOk5 _ _ _ _ _));have he₁:h₁.get? a=some oe:=(hs₁.2.1 a Ly).trans he;generalize hT:({cls:=.type "traceback",dict:=none,data:=.fields ([head,.ref L,.none,rawInt L,.none]++(if pl.isEmpty then List.replicate 6 Value.none else pl)).toArray}:Obj)=oT;have O4:oT.data= .fields ([head,.ref L,.none,rawInt L,.none]++(if pl.isEmpty then List.replicate 6 Value.none else pl)).toArray:=by rw[<-hT]
 have O5:oT.isFreed=false:=by rw[<-hT];rfl
 have he₂:=QM (h:=h₁) oT he₁;refine wpAny_setField he₂ hd nY (q _ ?_ ?_ ?_)
 all_goals
  have hz:h₁.objs.size=s.heap.objs.size:=hs₁.1;have Nx:h₁.objs.size≠a:=SI (QX he₁);have hd₃:=Obj.data_mapFields hd (·.setIfInBounds 1 (Value.ref h₁.objs.size));have he₃:=Heap.get?_update_self (Obj.mapFields (·.setIfInBounds 1 (Value.ref h₁.objs.size))) he₂ (Obj.isFreed_of_fields hd₃);have hT₃:=(Rg (h₁.push oT) (Obj.mapFields (·.setIfInBounds 1 (Value.ref h₁.objs.size))) (SL Nx)).trans (QV h₁ O5);have kp:∀b o,b≠a->h₁.get? b=some o->((h₁.push oT).update a (Obj.mapFields (·.setIfInBounds 1 (Value.ref h₁.objs.size)))).get? b=some o:=λb o hb e=>
   (Rg _ _ (SL hb)).trans (QM _ e)
  have Od:∀T,cK ((h₁.push oT).update a (Obj.mapFields (·.setIfInBounds 1 (Value.ref h₁.objs.size)))) a T->T=h₁.objs.size:=λT⟨o,ws,z1,z2,z3⟩=>by rw[he₃]at z1;cases z1;rw[hd₃]at z2;cases z2;simp[nY]at z3;exact z3.symm
 ·refine⟨λb o e n nt nf=>kp b o n ((hs₁.2.1 b nf).trans e),λb o e n nt=>?_,λb o e=>?_,λT z=>.inr ?_⟩
  ·obtain⟨sl,e1⟩:=hs₁.2.2 b o e;exact⟨sl,kp b _ n e1⟩
  ·by_cases hb:b=a
   ·subst hb;exact⟨_,he₃⟩
   ·obtain⟨sl,e1⟩:=hs₁.2.2 b o e;exact⟨_,kp b _ hb e1⟩
  ·rw[Od T z,hz];exact Heap.get?_none_of_le (QT _)
 ·refine⟨F.ge,F.nH,⟨_,_,he₃,⟨(Obj.cls_mapFields _ _).trans nV.1,(jl _ _).trans nV.2⟩,hd₃,.inr ⟨h₁.objs.size,by simp[nY]⟩⟩,λT z=>?_⟩;have e:=Od T z;subst e;refine⟨?_,fresh _ (by rw[hz];exact QT _),Nx,oT,_,hT₃,O4,∅⟩;rw[hz];exact QY F.ge (SD (QX he))
 ·exact⟨h₁.objs.size,_,_,he₃,hd₃,by simp[nY]⟩
theorem vP(j6:A.frames=some (env::outer))(hl:s.heap.FunFrames base (env::outer))(hf:env.frame=some L)(F:f6 N cls a H s.heap)(fresh:∀b,s.heap.objs.size<=b->H b=none){Q:Unit->Shared->Prop}
  (q:∀h',pb (dR (env::outer)) a s.heap h'->f6 N cls a H h'->(∃T,cK h' a T)->Q () {s with heap:=h'}):wpAny M A (noteFrame (.ref a) env) Q E s:=by
 obtain⟨oe,vs,he,nV,hd,h1⟩:=id F.obj;unfold noteFrame;simp only[hf];rcases h1 with h1|⟨T,h1⟩
 ·refine QK (Tn he hd h1 ?_);rw[S9 ‹_›];exact nK j6 hl hf F fresh q
 ·have pK:cK s.heap a T:=⟨oe,vs,he,hd,h1⟩;obtain⟨t1,t2,t3,oT,ts,hT,v8,h3⟩:=F.tb T pK;refine QK (Tn he hd h1 ?_);rw[Ta (show (Value.ref T != Value.none)=true from by simp)];refine QK (Tn hT v8 (x:=ts[3]) (by simp[h3]) ?_);split
  ·have e:s={s with heap:=s.heap}:=by cases s;rfl
   rw[e];exact QN (q s.heap pb.refl F ⟨T,pK⟩)
  ·refine QK (wpAny_setField hT v8 h3 ?_);have other:∀b,b≠T->(s.heap.update T (Obj.mapFields (·.setIfInBounds 3 Value.none))).get? b=s.heap.get? b:=λb hb=>Rg _ _ (SL hb)
   have GP:=Heap.get?_update_self (Obj.mapFields (·.setIfInBounds 3 Value.none)) hT (Obj.isFreed_of_fields (Obj.data_mapFields v8 _));have IZ:∀T',cK (s.heap.update T (Obj.mapFields (·.setIfInBounds 3 Value.none))) a T'->T'=T:=λT'⟨o,ws,z1,z2,z3⟩=>by rw[other a (SL t3),he]at z1;cases z1;rw[hd]at z2;cases z2;rw[h1]at z3;cases z3;rfl
   have F':f6 N cls a H (s.heap.update T (Obj.mapFields (·.setIfInBounds 3 Value.none))):=by refine⟨F.ge,F.nH,⟨oe,vs,(other a (SL t3)).trans he,nV,hd,.inr ⟨T,h1⟩⟩,λT' z=>?_⟩;rw[IZ T' z];exact⟨t1,t2,t3,_,_,GP,Obj.data_mapFields v8 _,by simpa using h3⟩
   have zZ:(s.heap.update T (Obj.mapFields (·.setIfInBounds 3 Value.none))).FunFrames base (env::outer):=hl.of_keeps λb o hb JQ=>⟨o,(other b λz=>by
    subst z;rw[hT]at hb;cases hb;exact JQ ts v8).trans hb,rfl⟩
   refine nK (s:={s with heap:=s.heap.update T (Obj.mapFields (·.setIfInBounds 3 Value.none))}) j6 zZ hf F' (λb hb=>fresh b (by
    have:(s.heap.update T (Obj.mapFields (·.setIfInBounds 3 Value.none))).objs.size=s.heap.objs.size:=Heap.size_after_update ..;rw[this]at hb;exact hb)) λh' x f t=>q h' (pb.trans ⟨λb o e n nt nf=>(other b λz=>nt (z▸pK)).trans e,λb o e n nt=>⟨o.slots,(other b λz=>nt (z▸pK)).trans e⟩,λb o e=>?_,λT' z=>.inl (by rw[IZ T' z];exact pK)⟩ x) f t
   by_cases hb:b=T
   ·subst hb;exact⟨_,GP⟩
   ·exact⟨o,(other b hb).trans e⟩
theorem qU(j6:A.frames=some (eL::outer))(hl:s.heap.FunFrames base (eL::outer))(Pc:eL.frame=some L)(hf:env.frame=eL.frame)(F:f6 N cls a H s.heap)(fresh:∀b,s.heap.objs.size<=b->H b=none){Q:Unit->Shared->Prop}
  (q:∀h',pb (dR (eL::outer)) a s.heap h'->f6 N cls a H h'->(∃T,cK h' a T)->Q () {s with heap:=h'}):wpAny M A (noteFrame (.ref a) env) Q E s:=by
 rw[iF _ hf];exact vP j6 hl Pc F fresh q
theorem dB{fs:List Addr}{fl:Option Addr}(F:f6 N cls a H s.heap)(ht:∃T,cK s.heap a T){Q:Unit->Shared->Prop}(q:∀h',pb fs a s.heap h'->f6 N cls a H h'->(∃T,cK h' a T)->Q () {s with heap:=h'}):wpAny M A (setFlight (.ref a) fl) Q E s:=by
 obtain⟨T,pK⟩:=ht;obtain⟨t1,t2,t3,oT,ts,hT,v8,h3⟩:=F.tb T pK;obtain⟨oe,vs,he,hd,h1⟩:=id pK;obtain⟨QH,uT,NB,nV,pL,_⟩:=id F.obj;rw[he]at NB;cases NB;unfold setFlight;refine QK (Tn he hd h1 ?_);rw[Ta (show (Value.ref T != Value.none)=true from by simp)];refine wpAny_setField hT v8 h3 ?_;generalize hx:(fl.elim Value.none λf=>rawInt f)=x;have other:∀b,b≠T->(s.heap.update T (Obj.mapFields (·.setIfInBounds 3 x))).get? b=s.heap.get? b:=λb hb=>Rg _ _ (SL hb)
 have GP:=Heap.get?_update_self (Obj.mapFields (·.setIfInBounds 3 x)) hT (Obj.isFreed_of_fields (Obj.data_mapFields v8 _));have IZ:∀T',cK (s.heap.update T (Obj.mapFields (·.setIfInBounds 3 x))) a T'->T'=T:=λT'⟨o,ws,z1,z2,z3⟩=>by rw[other a (SL t3),he]at z1;cases z1;rw[hd]at z2;cases z2;rw[h1]at z3;cases z3;rfl
 refine q _ ⟨λb o e n nt nf=>(other b λz=>nt (z▸pK)).trans e,λb o e n nt=>⟨o.slots,(other b λz=>nt (z▸pK)).trans e⟩,λb o e=>?_,λT' z=>.inl (by rw[IZ T' z];exact pK)⟩ ⟨F.ge,F.nH,⟨oe,vs,(other a (SL t3)).trans he,nV,hd,.inr ⟨T,h1⟩⟩,λT' z=>?_⟩ ⟨T,oe,vs,(other a (SL t3)).trans he,hd,h1⟩
 ·by_cases hb:b=T
  ·subst hb;exact⟨_,GP⟩
  ·exact⟨o,(other b hb).trans e⟩
 ·rw[IZ T' z];exact⟨t1,t2,t3,_,_,GP,Obj.data_mapFields v8 _,by simpa using h3⟩
theorem zM{fs:List Addr}{M0:String}{α:Type}(F:f6 N cls a H s.heap)(ht:∃T,cK s.heap a T){Q:α->Shared->Prop}(q:∀h',pb fs a s.heap h'->f6 N cls a H h'->(∃T,cK h' a T)->E (.ref a) {s with heap:=h'}):wpAny M A (passOn M0 (.ref a) env:Sem α) Q E s:=by obtain⟨T,pK⟩:=id ht;obtain⟨oe,vs,he,hd,h1⟩:=pK;unfold PySem.passOn;refine QK (Tn he hd h1 ?_);rw[S9 (show¬((Value.ref T==Value.none)=true) from by simp)];exact QK (dB F ht λh' x f t=>wpAny_throw (q h' x f t))
theorem zL{fs:List Addr}(F:f6 N cls a H s.heap)(ht:∃T,cK s.heap a T)(q:∀h',pb fs a s.heap h'->f6 N cls a H h'->(∃T,cK h' a T)->E (.ref a) {s with heap:=h'}):cameBackBy M A env E (.ref a) s:=by obtain⟨T,pK⟩:=id ht;obtain⟨oe,vs,he,hd,h1⟩:=pK;unfold cameBackBy;refine QK (Tn he hd h1 ?_);rw[S9 (show¬((Value.ref T==Value.none)=true) from by simp)];exact dB F ht λh' x f t=>q h' x f t
end
section
variable{X:Cx}{σ:St}{H:Hp}{s:Shared}{cls:Value}{a:Addr}
theorem Inv.Ft{h':Heap}(BR:X.pn=[])(I:Inv X [] σ H s)(F:f6 X.s₀.heap.objs.size cls a H s.heap)(x:pb (dR X.stack) a s.heap h'):Inv X [] σ H {s with heap:=h'}:=by
 obtain⟨oa,va,ha,Nz,Pa,QF⟩:=F.obj;have MW:∀b,cK s.heap a b->X.s₀.heap.objs.size<=b/\H b=none/\b≠a/\∃oT ts,s.heap.get? b=some oT/\oT.data= .fields ts/\3<ts.size:=F.tb;have Ng:∀b o,s.heap.get? b=some o->(∀vs,o.data≠ .fields vs)->b≠a/\¬cK s.heap a b:=λb o e nf=>by
  refine⟨λz=>?_,λz=>?_⟩
  ·subst z;rw[ha]at e;cases e;exact nf va Pa
  ·obtain⟨_,_,_,oT,ts,hT,v8,_⟩:=MW b z;rw[hT]at e;cases e;exact nf ts v8
 have old:∀b o,X.s₀.heap.get? b=some o->b≠a/\¬cK s.heap a b:=λb o e=>by
  refine⟨λz=>?_,λz=>?_⟩
  ·subst z;exact absurd (Q8 (QX e) F.ge) (SF _)
  ·exact absurd (Q8 (QX e) (MW b z).1) (SF _)
 have J4:∀b o,X.s₀.heap.get? b=some o->b≠X.env.locals:=λb o e=>Rj (Q8 (QX e) I.ok.above)
 have Bm:∀b o,X.s₀.heap.get? b=some o->b∈dR X.stack->b∈X.fs:=λb o e z=>by
  rcases QZ.mp (I.jW b z)with q|q
  ·exact absurd q (J4 b o e)
  ·exact q
 have E4:∀c u,H c=some u->∀v,s.heap.get? c=some v->h'.get? c=some v:=λc u hc v e=>by
  refine x.keep c v e (λz=>by subst z;rw[F.nH]at hc;cases hc) (λz=>by rw[(MW c z).2.1]at hc;cases hc) λz=>?_
  rw[I.mM c z]at hc;cases hc
 have cellK:∀y c,X.env.cells.lookup y=some c->∀v,s.heap.IsCell c v->h'.IsCell c v:=λy c e v⟨o,ho,hd⟩=>by
  obtain⟨n1,n2⟩:=Ng c o ho λvs q=>by rw[hd]at q;cases q
  obtain⟨sl,q⟩:=x.slot c o ho n1 n2;exact⟨_,q,hd⟩
 refine⟨I.ok,I.os,I.bare,⟨λb o e n hb hx=>?_,λb o e n hb hx=>?_,I.base.free,λb o e hx=>?_,I.base.tups,I.base.frzs,I.base.tbls⟩,?_,λy c e=>?_,I.free,I.b8,λp hp=>?_,?_,I.len⟩
 ·exact x.keep b o (I.base.keep b o e n hb hx) (old b o e).1 (old b o e).2 λz=>hb (Bm b o e z)
 ·obtain⟨sl,e1⟩:=I.base.slot b o e n hb hx;obtain⟨IF,e2⟩:=x.slot b _ e1 (old b o e).1 (old b o e).2;exact⟨IF,e2⟩
 ·obtain⟨o',e1⟩:=I.base.there b o e hx;exact x.there b o' e1
 ·obtain⟨m,⟨o,es,ep,ho,hd,r⟩,hl⟩:=I.loc;obtain⟨n1,n2⟩:=Ng _ o ho λvs q=>by rw[hd]at q;cases q
  obtain⟨sl,q⟩:=x.slot _ o ho n1 n2;refine⟨m,⟨_,es,ep,q,hd,r⟩,λi y v e1 e2 e3=>?_⟩;obtain⟨u,rr,l⟩:=hl i y v e1 e2 e3;refine⟨u,rr,?_⟩;rcases l with l|⟨k,c,e,z⟩
  ·exact .inl l
  ·exact .inr ⟨k,c,e,cellK y c e _ z⟩
 ·obtain⟨v,z⟩:=I.cell y c e;exact⟨v,cellK y c e v z⟩
 ·rw[BR]at hp;cases hp
 ·intro b u e;refine(I.hok b u e).mL (λc v hc q=>?_) (λ_ q=>q) λ_ _ q=>q
  rcases hc with rfl|hc
  ·exact E4 c u e v q
  ·exact E4 c _ hc v q
end
def gP(X:Cx)(E:XK)(e:Value)(s':Shared):Prop:=∃σ H' a cls,e= .ref a/\Inv X [] σ H' s'/\f6 X.s₀.heap.objs.size cls a H' s'.heap/\E cls none H'
def mT(P:Program)(w:World):j9:=λouter H s E e s'=>∃H' a cls,e= .ref a/\s'.os=s.os/\AllBare s'.gens/\Un (dR outer) [] H H' s.heap s'.heap/\dq P w H' s'.heap/\f6 s.heap.objs.size cls a H' s'.heap/\E cls none H'
structure ei(X:Cx):Prop where
 pn:X.pn=[]
 st:∃eL jG L,X.stack=eL::jG/\eL.frame=some L/\X.env.frame=eL.frame
section
variable{X:Cx}{E:XK}
theorem yj{CX:j9}{P:Program}{w:World}{K:PySem.W.Frag}{mg:Str->Option Value}{base:Heap}{N:List Str}{qual:Str}{scope:Scope}{f:Addr}{cd:Value}{A:Around}{outer:List Env}{s:Shared}{H:Hp}:ei (jk CX P w K mg base N qual scope f cd A outer s H E):=
 ⟨rfl,_,_,_,rfl,rfl,rfl⟩
theorem sO{scope:Scope}{N':List Str}{C:Addr}{s:Shared}{H:Hp}{fp:List Addr}{xe:Value->Shared->Prop}(st:ei X):ei (fq X scope N' C s H fp xe):=by obtain⟨hp,eL,jG,L,h1,h2,h3⟩:=st;exact⟨rfl,eL,jG,L,h1,h2,h3⟩
theorem f6.down{N N':Nat}{cls:Value}{a:Addr}{H:Hp}{h:Heap}(F:f6 N cls a H h)(hn:N'<=N):f6 N' cls a H h:=⟨QY hn F.ge,F.nH,F.obj,λT z=>⟨QY hn (F.tb T z).1,(F.tb T z).2⟩⟩
theorem yI{pins:List (Addr×Obj)}{σ:St}{H:Hp}{s s':Shared}{e:Value}(I:Inv X pins σ H s)(BR:X.pn=[])(c:mT X.prog X.w X.stack H s E e s'):gP X E e s':=by
 obtain⟨H',a,cls,e1,h1,h2,h3,h4,h5,h6⟩:=c;have I1:Inv X pins σ H' s':=I.vk (ch:=[]) h1 h3 h4 h2 λb z=>by cases z
 refine⟨σ,H',a,cls,e1,I1.fh (λp hp=>by cases hp),h5.down I.sz,h6⟩
theorem k8(st:ei X){e:Value}{s:Shared}(h:gP X E e s){Q:Unit->Shared->Prop}{E2:Value->Shared->Prop}(q:∀σ H' a cls s',e= .ref a->Inv X [] σ H' s'->f6 X.s₀.heap.objs.size cls a H' s'.heap->(∃T,cK s'.heap a T)->E cls none H'->Q () s'):wpAny (model X.prog X.w) X.A (noteFrame e X.env) Q E2 s:=by
 obtain⟨σ,H',a,cls,rfl,I,F,hE⟩:=h;obtain⟨hp,eL,jG,L,h1,h2,h3⟩:=st;have j6:=I.ok.frames;have hl:=I.stack;rw[h1]at j6 hl;refine qU j6 hl h2 h3 F (λb hb=>I.hok.fresh hb) λh' x f t=>?_
 rw[<-h1]at x;exact q σ H' a cls _ rfl (I.Ft hp F x) f t hE
theorem oU(st:ei X){e:Value}{s:Shared}(h:gP X E e s){R:Value->Shared->Prop}(q:∀σ H' a cls s',e= .ref a->Inv X [] σ H' s'->f6 X.s₀.heap.objs.size cls a H' s'.heap->(∃T,cK s'.heap a T)->E cls none H'->R e s'):notedBy (model X.prog X.w) X.A X.env R e s:=
 k8 st h q
theorem tq(st:ei X)(hx:∀e s',gP X E e s'->X.xe e s')(Hc:∀e s',X.xe e s'->gP X E e s'):PassesOwn (model X.prog X.w) X.A X.env X.xe:=λe s' h=>by
 refine oU st (Hc e s' h) λσ H' a cls s1 e1 I1 F1 t1 hE=>?_
 subst e1;exact zL (fs:=dR X.stack) F1 t1 λh' x f t=>hx _ _ ⟨σ,H',a,cls,rfl,I1.Ft st.pn F1 x,f,hE⟩
end
theorem Fp{P:Program}{w:World}{K:PySem.W.Frag}{mg:Str->Option Value}{base:Heap}{N:List Str}{qual:Str}{scope:Scope}{f:Addr}{cd:Value}{A:Around}{outer:List Env}{s:Shared}{H:Hp}{E:XK}{e:Value}{s':Shared}
  (h:gP (jk (mT P w) P w K mg base N qual scope f cd A outer s H E) E e s'):(jk (mT P w) P w K mg base N qual scope f cd A outer s H E).xe e s':=by
 have st:=yj (CX:=mT P w) (P:=P) (w:=w) (K:=K) (mg:=mg) (base:=base) (N:=N) (qual:=qual) (scope:=scope) (f:=f) (cd:=cd) (A:=A) (outer:=outer) (s:=s) (H:=H) (E:=E);show wpAny (model P w) (A.deeper (envOfC qual scope s.heap.objs.size f cd)) (leaving (envOfC qual scope s.heap.objs.size f cd) e) (λ_ s''=>mT P w outer H s E e s'') (λe' s''=>mT P w outer H s E e' s'') s';unfold leaving;refine QK (k8 st h λσ H' a cls s1 e1 I1 F1 t1 hE=>?_);subst e1;refine dB (fs:=dR (jk (mT P w) P w K mg base N qual scope f cd A outer s H E).stack) F1 t1 λh' x f' t=>?_
 have I2:=I1.Ft st.pn F1 x;exact⟨H',a,cls,rfl,I2.os,I2.bare,I2.base,I2.hok,f',hE⟩
section
variable{X:Cx}{E:XK}{scope:Scope}{N':List Str}
theorem Cx.Ok.xe{xe:Value->Shared->Prop}(k:X.Ok):Cx.Ok {X with xe:=xe}:=⟨k.mod,k.kind,k.glob,k.blt,k.above,k.inj,k.has,k.yQ,k.hd,k.frames,k.Bm,k.BJ,k.bs,k.vh,k.kf,k.lG,k.fP,k.zN⟩
theorem Inv.xe{xe:Value->Shared->Prop}{pins:List (Addr×Obj)}{σ:St}{H:Hp}{s:Shared}(I:Inv X pins σ H s):Inv {X with xe:=xe} pins σ H s:=⟨I.ok.xe,I.os,I.bare,I.base,I.loc,I.cell,I.free,I.b8,I.pin,I.hok,I.len⟩
def Bv(X:Cx)(scope:Scope)(N':List Str)(E:XK)(C:Addr)(s:Shared)(H:Hp)(fp:List Addr):Value->Shared->Prop:=gP (fq X scope N' C s H fp λ_ _=>False) E
theorem Fo{C:Addr}{s:Shared}{H:Hp}{fp:List Addr}{e:Value}{s':Shared}{xe:Value->Shared->Prop}(h:gP (fq X scope N' C s H fp xe) E e s'):Bv X scope N' E C s H fp e s':=by obtain⟨σ,H',a,cls,e1,I,F,hE⟩:=h;exact⟨σ,H',a,cls,e1,I.xe,F,hE⟩
theorem DZ{C:Addr}{s:Shared}{H:Hp}{fp:List Addr}{e:Value}{s':Shared}{xe:Value->Shared->Prop}(h:Bv X scope N' E C s H fp e s'):gP (fq X scope N' C s H fp xe) E e s':=by obtain⟨σ,H',a,cls,e1,I,F,hE⟩:=h;exact⟨σ,H',a,cls,e1,I.xe,F,hE⟩
theorem f6.at{h0:Nat}{cls:Value}{a:Addr}{H:Hp}{h h':Heap}(F:f6 h0 cls a H h)(k:∀b o vs,h.get? b=some o->o.data= .fields vs->h'.get? b=some o):f6 h0 cls a H h':=by obtain⟨o,vs,h1,h2,h3,h4⟩:=F.obj;have e1:=k a o vs h1 h3;refine⟨F.ge,F.nH,⟨o,vs,e1,h2,h3,h4⟩,λT z=>?_⟩;obtain⟨o',ws,z1,z2,z3⟩:=z;rw[e1]at z1;cases z1;obtain⟨t1,t2,t3,oT,ts,t4,t5,t6⟩:=F.tb T ⟨o,ws,h1,z2,z3⟩;exact⟨t1,t2,t3,oT,ts,k T oT ts t4 t5,t5,t6⟩
theorem tm(st:ei X)(PU:∀e s',gP X E e s'->X.xe e s'):zg X scope N' (Bv X scope N' E):=by
 refine⟨λpins σ C s s1 H H1 fp x s' I1 f1 hC hs hH BN hxb=>?_⟩;refine oU (X:=fq X scope N' C s H fp (Bv X scope N' E C s H fp)) (sO st) (DZ hxb) λσ' H' a cls s5 e1 I5 F5 t5 hE=>?_
 subst e1;obtain⟨m5,G6,_⟩:=I5.loc;have wj:s5.heap.Ns C m5:=G6;refine⟨m5,wj,λh' hsb tG zW=>?_⟩;have un:Un (dR X.stack) fp H1 H' s1.heap s5.heap:=by
  have u1:Un (dR X.stack) fp H1 H s1.heap s.heap:=by rw[hH,hs];exact Un.laid (λb u e=>QM _ e) (QT _) I1.fresh
  exact u1.trans I5.base
 have hI:Inv X pins σ H' s5:=I1.vk (ch:=fp) (I5.os.trans (by show s.os=s1.os;rw[hs])) un I5.hok I5.bare λb hb=>⟨(f1 b hb).2.2.2.1,(f1 b hb).2.1,(f1 b hb).2.2.2.2.1,(f1 b hb).2.2.2.2.2⟩
 have fC:fM X pins H' C:=I1.lK (SD hC) I5.free;have OU:Inv X pins σ H' {s5 with heap:=h',toks:=s5.toks}:=hI.turned (t':=s5.toks) (λb o hb e=>(hsb.2 b hb).trans e) fC.1 fC.2.1 fC.2.2.2.1 fC.2.2.2.2.1 fC.2.2.2.2.2;have OW:Inv X [] σ H' {s5 with heap:=h'}:=OU.fh λp hp=>by cases hp
 have nY:s1.heap.objs.size<=s.heap.objs.size:=by rw[hs];show _<=(s1.heap.push _).objs.size;rw[Ri];exact SE _
 have F6:f6 X.s₀.heap.objs.size cls a H' h':=by
  have hd:∀b o vs,s5.heap.get? b=some o->o.data= .fields vs->h'.get? b=some o:=λb o vs e hd=>by refine(hsb.2 b λz=>?_).trans e;subst z;obtain⟨o',es,ep,lQ,pL,_⟩:=wj;rw[e]at lQ;cases lQ;rw[hd]at pL;cases pL
  exact(F5.at hd).down (QY I1.sz nY)
 have t6:∃T,cK h' a T:=by obtain⟨T,o,vs,z1,z2,z3⟩:=t5;refine⟨T,o,vs,(hsb.2 a λz=>?_).trans z1,z2,z3⟩;subst z;obtain⟨o',es,ep,lQ,pL,_⟩:=wj;rw[z1]at lQ;cases lQ;rw[z2]at pL;cases pL
 exact zM (s:={s5 with heap:=h'}) (fs:=dR X.stack) F6 t6 λh'' x f t=>PU _ _ ⟨σ,H',a,cls,rfl,OW.Ft st.pn F6 x,f,hE⟩
end
end L2
end
section
namespace Rx
open PySem PySem.W PySem.Spec PyProof.Rows L2 PySem.SeqAt
inductive Dt where
 |bM|bl (b:Bool)|int (i:Int)|str (x:Str)|tup (ds:List Dt)|lst (ds:List Dt)|bR (ns:List Int)
 |gh (ks vs:List Dt)|obj (ks:List Str) (vs:List Dt)|exc (c:Nat)
abbrev Frag:=PySem.W.Frag
def KL(K:Frag)(a:Addr)(xs:List V):Prop:=∃(o:Obj)(its:Array Value)(n:Nat),K.lookup a=some o/\o.cls= .type "list"/\o.dict=none/\o.data= .seq its n/\its.size<=sizeLine/\au xs its.toList
mutual
noncomputable def RV(K:Frag)(A:Addr->Prop)(H:Hp):V->Dt->Prop
 |x,.bM=>x= .bM
 |x,.bl b=>x= .bl b
 |x,.int i=>x= .int i
 |x,.str z=>x= .str z
 |x,.tup ds=>∃a xs,x= .ref a/\H a=some (.tup xs)/\ak K A H xs ds
 |x,.lst ds=>∃a xs,x= .ref a/\H a=some (.lst xs)/\¬A a/\ak K A H xs ds
 |x,.bR ns=>∃a,x= .ref a/\((Rd H a (.lst (ns.map V.int))/\¬A a)\/KL K a (ns.map V.int))
 |_,.gh _ _=>False
 |x,.obj ks vs=>∃a cH,x= .ref a/\H a=some (.dK cH)/\¬A a/\cH.map (·.1)=ks.map Sum.inr/\ak K A H (cH.map (·.2)) vs
 |_,.exc _=>False
noncomputable def ak(K:Frag)(A:Addr->Prop)(H:Hp):List V->List Dt->Prop
 |[],[]=>True
 |x::xs,d::ds=>RV K A H x d/\ak K A H xs ds
 |[],_::_=>False
 |_::_,[]=>False
end
section
variable{K:Frag}{A B:Addr->Prop}{H H':Hp}
theorem RV.gy{x:V}(h:RV K A H x .bM):x= .bM:=by unfold RV at h;exact h
theorem RV.bC{x:V}{b}(h:RV K A H x (.bl b)):x= .bl b:=by unfold RV at h;exact h
theorem RV.int_inv{x:V}{b}(h:RV K A H x (.int b)):x= .int b:=by unfold RV at h;exact h
theorem RV.str_inv{x:V}{b}(h:RV K A H x (.str b)):x= .str b:=by unfold RV at h;exact h
theorem RV.aq{x:V}{ds}(h:RV K A H x (.tup ds)):∃a xs,x= .ref a/\H a=some (.tup xs)/\ak K A H xs ds:=by unfold RV at h;exact h
theorem RV.lst_inv{x:V}{ds}(h:RV K A H x (.lst ds)):∃a xs,x= .ref a/\H a=some (.lst xs)/\¬A a/\ak K A H xs ds:=by unfold RV at h;exact h
theorem RV.i8{x:V}{ns}(h:RV K A H x (.bR ns)):∃a,x= .ref a/\((Rd H a (.lst (ns.map V.int))/\¬A a)\/KL K a (ns.map V.int)):=by unfold RV at h;exact h
theorem RV.ib{x:V}{ns}(h:RV K A H x (.bR ns)):∃a,x= .ref a/\cZ K H a (ns.map V.int):=by
 obtain⟨a,e,h|h⟩:=h.i8
 ·exact⟨a,e,.inl h.1⟩
 ·exact⟨a,e,.inr h⟩
theorem RV.zC{x:V}{ks vs}(h:RV K A H x (.gh ks vs)):False:=by unfold RV at h;exact h
theorem RV.rQ{x:V}{ks vs}(h:RV K A H x (.obj ks vs)):∃a cH,x= .ref a/\H a=some (.dK cH)/\¬A a/\cH.map (·.1)=ks.map Sum.inr/\ak K A H (cH.map (·.2)) vs:=by unfold RV at h;exact h
theorem RV.zI{x:V}{ks}(h:RV K A H x (.exc ks)):False:=by unfold RV at h;exact h
theorem RV.l0:RV K A H .bM .bM:=by unfold RV;rfl
theorem RV.rK{b}:RV K A H (.bl b) (.bl b):=by unfold RV;rfl
theorem RV.dZ{b}:RV K A H (.int b) (.int b):=by unfold RV;rfl
theorem RV.l6{b}:RV K A H (.str b) (.str b):=by unfold RV;rfl
theorem RV.fT{a xs ds}(h:H a=some (.tup xs))(t:ak K A H xs ds):RV K A H (.ref a) (.tup ds):=by unfold RV;exact⟨a,xs,rfl,h,t⟩
theorem RV.d4{a xs ds}(h:H a=some (.lst xs))(n:¬A a)(t:ak K A H xs ds):RV K A H (.ref a) (.lst ds):=by unfold RV;exact⟨a,xs,rfl,h,n,t⟩
theorem RV.wI{a cH ks vs}(h:H a=some (.dK cH))(n:¬A a)(e:cH.map (·.1)=ks.map Sum.inr)(t:ak K A H (cH.map (·.2)) vs):RV K A H (.ref a) (.obj ks vs):=by unfold RV;exact⟨a,cH,rfl,h,n,e,t⟩
theorem ak.nil:ak K A H [] []:=by unfold ak;trivial
theorem ak.cons{x d xs ds}(h:RV K A H x d)(t:ak K A H xs ds):ak K A H (x::xs) (d::ds):=by unfold ak;exact⟨h,t⟩
theorem ak.nil_inv{xs}(h:ak K A H xs []):xs=[]:=by
 cases xs with
 |nil=>rfl
 |cons=>unfold ak at h;exact h.elim
theorem ak.dE{ds}(h:ak K A H [] ds):ds=[]:=by
 cases ds with
 |nil=>rfl
 |cons=>unfold ak at h;exact h.elim
theorem ak.cons_inv{xs d ds}(h:ak K A H xs (d::ds)):∃x r,xs=x::r/\RV K A H x d/\ak K A H r ds:=by
 cases xs with
 |nil=>unfold ak at h;exact h.elim
 |cons x r=>unfold ak at h;exact⟨x,r,rfl,h⟩
theorem ak.tJ{x xs ds}(h:ak K A H (x::xs) ds):∃d r,ds=d::r/\RV K A H x d/\ak K A H xs r:=by
 cases ds with
 |nil=>unfold ak at h;exact h.elim
 |cons d r=>unfold ak at h;exact⟨d,r,rfl,h⟩
theorem ak.length:∀{xs ds},ak K A H xs ds->xs.length=ds.length
 |[],[],_=>rfl
 |[],_::_,h=>by unfold ak at h;exact h.elim
 |_::_,[],h=>by unfold ak at h;exact h.elim
 |_::xs,_::ds,h=>by unfold ak at h;simp[ak.length h.2]
theorem ak.get:∀{xs ds}{i:Nat}{x},ak K A H xs ds->xs[i]?=some x->∃d,ds[i]?=some d/\RV K A H x d
 |[],_,_,_,_,e=>by simp at e
 |_::_,[],_,_,h,_=>by unfold ak at h;exact h.elim
 |_::_,_::_,0,_,h,e=>by unfold ak at h;simp at e;subst e;exact⟨_,rfl,h.1⟩
 |_::xs,_::ds,i+1,x,h,e=>by unfold ak at h;obtain⟨d,e1,e2⟩:=ak.get (i:=i) h.2 ‹e›;exact⟨d,by simpa using e1,e2⟩
theorem ak.getD:∀{xs ds}{i:Nat}{d},ak K A H xs ds->ds[i]?=some d->∃x,xs[i]?=some x/\RV K A H x d
 |_,[],_,_,_,e=>by simp at e
 |[],_::_,_,_,h,_=>by unfold ak at h;exact h.elim
 |_::_,_::_,0,_,h,e=>by unfold ak at h;simp at e;subst e;exact⟨_,rfl,h.1⟩
 |_::xs,_::ds,i+1,x,h,e=>by unfold ak at h;obtain⟨d,e1,e2⟩:=ak.getD (i:=i) h.2 ‹e›;exact⟨d,by simpa using e1,e2⟩
theorem ak.append:∀{xs ys ds es},ak K A H xs ds->ak K A H ys es->ak K A H (xs++ys) (ds++es)
 |[],_,[],_,_,h=>h
 |[],_,_::_,_,h,_=>by unfold ak at h;exact h.elim
 |_::_,_,[],_,h,_=>by unfold ak at h;exact h.elim
 |_::xs,ys,_::ds,es,h,h'=>by unfold ak at h;exact ak.cons h.1 (ak.append h.2 h')
theorem ak.take:∀{xs ds}(n:Nat),ak K A H xs ds->ak K A H (xs.take n) (ds.take n)
 |[],ds,n,h=>by rw[h.dE];simp;exact ak.nil
 |x::xs,[],n,h=>by unfold ak at h;exact h.elim
 |x::xs,d::ds,0,h=>by simp;exact ak.nil
 |x::xs,d::ds,n+1,h=>by unfold ak at h;simp only[List.take_succ_cons];exact ak.cons h.1 (ak.take n h.2)
theorem ak.drop:∀{xs ds}(n:Nat),ak K A H xs ds->ak K A H (xs.drop n) (ds.drop n)
 |[],ds,n,h=>by rw[h.dE];simp;exact ak.nil
 |x::xs,[],n,h=>by unfold ak at h;exact h.elim
 |x::xs,d::ds,0,h=>h
 |x::xs,d::ds,n+1,h=>by unfold ak at h;simp only[List.drop_succ_cons];exact ak.drop n h.2
theorem ak.set:∀{xs ds}(n:Nat){x d},ak K A H xs ds->RV K A H x d->ak K A H (xs.set n x) (ds.set n d)
 |[],ds,n,_,_,h,_=>by rw[h.dE];simp;exact ak.nil
 |x::xs,[],n,_,_,h,_=>by unfold ak at h;exact h.elim
 |x::xs,d::ds,0,_,_,h,h'=>by unfold ak at h;simp only[List.set_cons_zero];exact ak.cons h' h.2
 |x::xs,d::ds,n+1,_,_,h,h'=>by unfold ak at h;simp only[List.set_cons_succ];exact ak.cons h.1 (ak.set n h.2 h')
structure aI(X:Addr->Prop)(H H':Hp):Prop where
 kp:∀b o,H b=some o->¬X b->H' b=some o
 tp:∀b xs,H b=some (.tup xs)->H' b=some (.tup xs)
theorem aI.of_same{X:Addr->Prop}(s:aT H H'):aI X H H':=⟨λb o e _=>s b o e,λb xs e=>s b _ e⟩
theorem aI.refl{X:Addr->Prop}:aI X H H:=⟨λ_ _ e _=>e,λ_ _ e=>e⟩
theorem aI.trans{X:Addr->Prop}{H1:Hp}(a:aI X H H1)(b:aI X H1 H'):aI X H H':=⟨λc o e n=>b.kp c o (a.kp c o e n) n,λc xs e=>b.tp c xs (a.tp c xs e)⟩
theorem aI.mono{X Y:Addr->Prop}(a:aI X H H')(h:∀b,X b->Y b):aI Y H H':=⟨λb o e n=>a.kp b o e λz=>n (h b z),a.tp⟩
theorem EF{X:Addr->Prop}{a:Addr}{u:HO}(e:aI X H H')(n:¬X a)(h:Rd H a u):Rd H' a u:=by
 rcases h with h|⟨o,h⟩
 ·exact .inl (e.kp _ _ h n)
 ·exact .inr ⟨o,e.kp _ _ h n⟩
mutual
noncomputable def rO:Dt->Bool
 |.bM|.bl _|.int _|.str _=>true
 |.tup ds=>ma ds
 |_=>false
noncomputable def ma:List Dt->Bool
 |[]=>true
 |d::ds=>rO d&&ma ds
end
mutual
theorem RV.gen(t:∀b xs,H b=some (.tup xs)->H' b=some (.tup xs)):∀{x d},(rO d=true\/∀b o,H b=some o->¬A b->H' b=some o/\¬B b)->RV K A H x d->RV K B H' x d
 |x,.bM,_,h=>by rw[h.gy];exact RV.l0
 |x,.bl b,_,h=>by rw[h.bC];exact RV.rK
 |x,.int b,_,h=>by rw[h.int_inv];exact RV.dZ
 |x,.str b,_,h=>by rw[h.str_inv];exact RV.l6
 |x,.tup ds,n,h=>by obtain⟨a,xs,rfl,h1,h2⟩:=h.aq;exact RV.fT (t _ _ h1) (ak.gen t (n.imp_left id) h2)
 |x,.lst ds,n,h=>by obtain⟨a,xs,rfl,h1,h3,h2⟩:=h.lst_inv;have n:=n.resolve_left nofun;exact RV.d4 (n a _ h1 h3).1 (n a _ h1 h3).2 (ak.gen t (.inr n) h2)
 |x,.bR ns,n,h=>by
  have n:=n.resolve_left nofun;obtain⟨a,rfl,⟨h1,h3⟩|h1⟩:=h.i8
  ·rcases h1 with h1|⟨o,h1⟩
   ·exact⟨a,rfl,.inl ⟨.inl (n a _ h1 h3).1,(n a _ h1 h3).2⟩⟩
   ·exact⟨a,rfl,.inl ⟨.inr ⟨o,(n a _ h1 h3).1⟩,(n a _ h1 h3).2⟩⟩
  ·exact⟨a,rfl,.inr h1⟩
 |x,.gh ..,_,h=>h.zC.elim
 |x,.obj ks vs,n,h=>by obtain⟨a,cH,rfl,h1,h3,h4,h2⟩:=h.rQ;have n:=n.resolve_left nofun;exact RV.wI (n a _ h1 h3).1 (n a _ h1 h3).2 h4 (ak.gen t (.inr n) h2)
 |x,.exc ..,_,h=>h.zI.elim
theorem ak.gen(t:∀b xs,H b=some (.tup xs)->H' b=some (.tup xs)):∀{xs ds},(ma ds=true\/∀b o,H b=some o->¬A b->H' b=some o/\¬B b)->ak K A H xs ds->ak K B H' xs ds
 |[],[],_,_=>ak.nil
 |[],_::_,_,h=>by unfold ak at h;exact h.elim
 |_::_,[],_,h=>by unfold ak at h;exact h.elim
 |_::xs,_::ds,n,h=>by unfold ak at h;simp only[ma,QO]at n;exact ak.cons (RV.gen t (n.imp_left (·.1)) h.1) (ak.gen t (n.imp_left (·.2)) h.2)
end
theorem RV.mono{X:Addr->Prop}(e:aI X H H')(hX:∀b,X b->A b)(hB:∀b,B b->A b){x d}(h:RV K A H x d):RV K B H' x d:=h.gen e.tp (.inr λb o q n=>⟨e.kp b o q λz=>n (hX b z),λz=>n (hB b z)⟩)
theorem ak.mono{X:Addr->Prop}(e:aI X H H')(hX:∀b,X b->A b)(hB:∀b,B b->A b){x d}(h:ak K A H x d):ak K B H' x d:=h.gen e.tp (.inr λb o q n=>⟨e.kp b o q λz=>n (hX b z),λz=>n (hB b z)⟩)
theorem RV.same{x d}(h:RV K A H x d)(s:aT H H'):RV K A H' x d:=h.mono (X:=λ_=>False) (aI.of_same s) (λ_ z=>z.elim) λ_ z=>z
theorem ak.same{x d}(h:ak K A H x d)(s:aT H H'):ak K A H' x d:=h.mono (X:=λ_=>False) (aI.of_same s) (λ_ z=>z.elim) λ_ z=>z
theorem RV.weak{x d}(h:RV K A H x d)(hB:∀b,B b->A b):RV K B H x d:=h.mono (X:=λ_=>False) aI.refl (λ_ z=>z.elim) hB
theorem ak.weak{x d}(h:ak K A H x d)(hB:∀b,B b->A b):ak K B H x d:=h.mono (X:=λ_=>False) aI.refl (λ_ z=>z.elim) hB
theorem RV.cM(hp:∀b,B b->A b\/H b=none){x d}(h:RV K A H x d):RV K B H x d:=h.gen (λ_ _ e=>e) (.inr λb o q n=>⟨q,λz=>(hp b z).elim n λe=>by rw[e]at q;cases q⟩)
theorem ak.cM(hp:∀b,B b->A b\/H b=none){x d}(h:ak K A H x d):ak K B H x d:=h.gen (λ_ _ e=>e) (.inr λb o q n=>⟨q,λz=>(hp b z).elim n λe=>by rw[e]at q;cases q⟩)
theorem ak.avoid{p:Addr}(hp:H p=none){x d}(h:ak K A H x d):ak K (λb=>A b\/b=p) H x d:=h.cM λb z=>z.imp_right λe=>by rw[e];exact hp
theorem RV.rO{x d}(h:RV K A H x d)(n:Rx.rO d=true):RV K B H x d:=h.gen (λ_ _ e=>e) (.inl n)
theorem ak.ma{x d}(h:ak K A H x d)(n:Rx.ma d=true):ak K B H x d:=h.gen (λ_ _ e=>e) (.inl n)
end
mutual
noncomputable def toD:Dt->Option Mx.D
 |.int i=>some (.int i)
 |.str x=>some (.str x)
 |.tup ds=>(eW ds).map Mx.D.tup
 |_=>none
noncomputable def eW:List Dt->Option (List Mx.D)
 |[]=>some []
 |d::ds=>(toD d).bind λm=>(eW ds).map (m:: ·)
end
mutual
noncomputable def ofD:Mx.D->Dt
 |.int i=>.int i
 |.str x=>.str x
 |.tup ds=>.tup (ao ds)
noncomputable def ao:List Mx.D->List Dt
 |[]=>[]
 |d::ds=>ofD d::ao ds
end
theorem cF:∀ds:List Mx.D,ao ds=ds.map ofD
 |[]=>by simp[ao]
 |d::ds=>by simp[ao,cF ds]
mutual
theorem E3:∀m:Mx.D,toD (ofD m)=some m
 |.int i=>by simp[ofD,toD]
 |.str x=>by simp[ofD,toD]
 |.tup ds=>by simp[ofD,toD,cY ds]
theorem cY:∀ms:List Mx.D,eW (ao ms)=some ms
 |[]=>by simp[ao,eW]
 |m::ms=>by simp[ao,eW,E3 m,cY ms]
end
mutual
theorem wV:∀{d:Dt}{m:Mx.D},toD d=some m->d=ofD m
 |.int i,m,h=>by simp[toD]at h;subst h;simp[ofD]
 |.str i,m,h=>by simp[toD]at h;subst h;simp[ofD]
 |.tup ds,m,h=>by simp only[toD,Q2]at h;obtain⟨ms,h1,rfl⟩:=h;rw[gz h1];simp[ofD]
 |.bM,m,h=>by simp[toD]at h
 |.bl _,m,h=>by simp[toD]at h
 |.lst _,m,h=>by simp[toD]at h
 |.bR _,m,h=>by simp[toD]at h
 |.gh _ _,m,h=>by simp[toD]at h
 |.obj _ _,m,h=>by simp[toD]at h
 |.exc _,m,h=>by simp[toD]at h
theorem gz:∀{ds:List Dt}{ms:List Mx.D},eW ds=some ms->ds=ao ms
 |[],ms,h=>by simp[eW]at h;subst h;simp[ao]
 |d::ds,ms,h=>by simp only[eW,QL,Q2]at h;obtain⟨m,h1,r,h2,rfl⟩:=h;rw[wV h1,gz h2];simp[ao]
end
mutual
theorem RV.dv{K:Frag}{A:Addr->Prop}{H:Hp}:∀{x}{m:Mx.D},RV K A H x (ofD m)->Mx.DV H x m
 |x,.int i,h=>by simp only[ofD]at h;rw[h.int_inv];exact Mx.DV.int
 |x,.str i,h=>by simp only[ofD]at h;rw[h.str_inv];exact Mx.DV.str
 |x,.tup ms,h=>by simp only[ofD]at h;obtain⟨a,xs,rfl,h1,h2⟩:=h.aq;exact Mx.DV.tup h1 (ak.tK h2)
theorem ak.tK{K:Frag}{A:Addr->Prop}{H:Hp}:∀{xs}{ms:List Mx.D},ak K A H xs (ao ms)->Mx.aP H xs ms
 |[],[],_=>Mx.aP.nil
 |[],_::_,h=>by simp only[ao]at h;unfold ak at h;exact h.elim
 |_::_,[],h=>by simp only[ao]at h;unfold ak at h;exact h.elim
 |_::xs,_::ds,h=>by simp only[ao]at h;unfold ak at h;exact Mx.aP.cons (RV.dv h.1) (ak.tK h.2)
end
mutual
theorem RV.HK{K:Frag}{A:Addr->Prop}{H:Hp}:∀{x}{m:Mx.D},Mx.DV H x m->RV K A H x (ofD m)
 |x,.int i,h=>by simp only[ofD];rw[h.int_inv];exact RV.dZ
 |x,.str i,h=>by simp only[ofD];rw[h.str_inv];exact RV.l6
 |x,.tup ms,h=>by simp only[ofD];obtain⟨a,xs,rfl,h1,h2⟩:=h.aq;exact RV.fT h1 (ak.p6 h2)
theorem ak.p6{K:Frag}{A:Addr->Prop}{H:Hp}:∀{xs}{ms:List Mx.D},Mx.aP H xs ms->ak K A H xs (ao ms)
 |[],[],_=>by simp only[ao];exact ak.nil
 |[],_::_,h=>by unfold Mx.aP at h;exact h.elim
 |_::_,[],h=>by unfold Mx.aP at h;exact h.elim
 |_::xs,_::ds,h=>by simp only[ao];unfold Mx.aP at h;exact ak.cons (RV.HK h.1) (ak.p6 h.2)
end
mutual
noncomputable def cj:Dt->Dt->Bool
 |.bM,.bM=>true
 |.bl a,.bl b=>a==b
 |.int a,.int b=>a==b
 |.bl a,.int b=>(if a then(1:Int) else 0)==b
 |.int a,.bl b=>a==(if b then(1:Int) else 0)
 |.str a,.str b=>a==b
 |.tup a,.tup b=>bV a b
 |.lst a,.lst b=>bV a b
 |_,_=>false
noncomputable def bV:List Dt->List Dt->Bool
 |[],[]=>true
 |x::xs,y::ys=>cj x y&&bV xs ys
 |_,_=>false
end
mutual
noncomputable def pl:Dt->Bool
 |.bM|.bl _|.int _|.str _=>true
 |.tup ds=>om ds
 |.lst ds=>om ds
 |_=>false
noncomputable def om:List Dt->Bool
 |[]=>true
 |d::ds=>pl d&&om ds
end
mutual
noncomputable def dp:Dt->Nat
 |.tup ds=>qO ds+1
 |.lst ds=>qO ds+1
 |_=>0
noncomputable def qO:List Dt->Nat
 |[]=>0
 |d::ds=>max (dp d) (qO ds)
end
mutual
theorem hJ:∀d:Dt,pl d=true->cj d d=true
 |.bM,_=>by simp[cj]
 |.bl b,_=>by simp[cj]
 |.int b,_=>by simp[cj]
 |.str b,_=>by simp[cj]
 |.tup ds,h=>by simp only[cj];exact fW ds (by simpa [pl]using h)
 |.lst ds,h=>by simp only[cj];exact fW ds (by simpa [pl]using h)
 |.bR _,h=>by simp[pl]at h
 |.gh _ _,h=>by simp[pl]at h
 |.obj _ _,h=>by simp[pl]at h
 |.exc _,h=>by simp[pl]at h
theorem fW:∀ds:List Dt,om ds=true->bV ds ds=true
 |[],_=>by simp[bV]
 |d::ds,h=>by simp only[om,QO]at h;simp only[bV,QO];exact⟨hJ d h.1,fW ds h.2⟩
end
def Qj:Dt->Nat
 |.bM=>0|.bl _=>1|.int _=>2|.str _=>3|.tup _=>4|.lst _=>5|_=>6
def MX(H:Hp):V->Nat
 |.bM=>0|.bl _=>1|.int _=>2|.str _=>3
 |.ref a=>(match H a with|some (.tup _)=>4|some (.lst _)=>5|_=>6)
 |_=>6
theorem RV.tg{K:Frag}{A:Addr->Prop}{H:Hp}{x:V}{d:Dt}(h:RV K A H x d)(n:pl d=true):MX H x=Qj d:=by
 cases d with
 |bM=>rw[h.gy];rfl
 |bl=>rw[h.bC];rfl
 |int=>rw[h.int_inv];rfl
 |str=>rw[h.str_inv];rfl
 |tup=>obtain⟨a,xs,rfl,h1,_⟩:=h.aq;unfold MX;dsimp only;rw[h1];rfl
 |lst=>obtain⟨a,xs,rfl,h1,_⟩:=h.lst_inv;unfold MX;dsimp only;rw[h1];rfl
 |_=>simp[pl]at n
mutual
theorem RV.inj{K:Frag}{A B:Addr->Prop}{H:Hp}:∀{x d e},RV K A H x d->RV K B H x e->pl d=true->pl e=true->d=e
 |x,.bM,e,h,g,m,n=>by have t:=(h.tg m).symm.trans (g.tg n);cases e<;>first|rfl|exact absurd t (Td rfl)
 |x,.bl b,e,h,g,m,n=>by have t:=(h.tg m).symm.trans (g.tg n);cases e<;>first|exact absurd t (Td rfl)|(cases h.bC.symm.trans g.bC;rfl)
 |x,.int b,e,h,g,m,n=>by have t:=(h.tg m).symm.trans (g.tg n);cases e<;>first|exact absurd t (Td rfl)|(cases h.int_inv.symm.trans g.int_inv;rfl)
 |x,.str b,e,h,g,m,n=>by have t:=(h.tg m).symm.trans (g.tg n);cases e<;>first|exact absurd t (Td rfl)|(cases h.str_inv.symm.trans g.str_inv;rfl)
 |x,.tup ds,e,h,g,m,n=>by
  have t:=(h.tg m).symm.trans (g.tg n);cases e with
  |tup es=>obtain⟨a,xs,rfl,h1,h2⟩:=h.aq;obtain⟨b,ys,q,g1,g2⟩:=g.aq;cases q;rw[h1]at g1;cases g1;rw[ak.inj h2 g2 (by simpa [pl]using m) (by simpa [pl]using n)]
  |_=>exact absurd t (Td rfl)
 |x,.lst ds,e,h,g,m,n=>by
  have t:=(h.tg m).symm.trans (g.tg n);cases e with
  |lst es=>obtain⟨a,xs,rfl,h1,_,h2⟩:=h.lst_inv;obtain⟨b,ys,q,g1,_,g2⟩:=g.lst_inv;cases q;rw[h1]at g1;cases g1;rw[ak.inj h2 g2 (by simpa [pl]using m) (by simpa [pl]using n)]
  |_=>exact absurd t (Td rfl)
 |x,.bR ds,_,_,_,n,_=>by simp[pl]at n
 |x,.gh ..,_,_,_,n,_=>by simp[pl]at n
 |x,.obj ..,_,_,_,n,_=>by simp[pl]at n
 |x,.exc ..,_,_,_,n,_=>by simp[pl]at n
theorem ak.inj{K:Frag}{A B:Addr->Prop}{H:Hp}:∀{xs ds es},ak K A H xs ds->ak K B H xs es->om ds=true->om es=true->ds=es
 |xs,[],es,h,g,_,_=>by
  cases xs with
  |nil=>rw[g.dE]
  |cons=>unfold ak at h;exact h.elim
 |xs,d::ds,es,h,g,m,n=>by
  cases xs with
  |nil=>unfold ak at h;exact h.elim
  |cons x xs=>unfold ak at h;obtain⟨e,t,rfl,g1,g2⟩:=g.tJ;have m':=Bool.and_eq_true_iff.mp m;have n':=Bool.and_eq_true_iff.mp n;rw[RV.inj h.1 g1 m'.1 n'.1,ak.inj h.2 g2 m'.2 n'.2]
end
def xI(ds es:List Dt)(j:Nat):Bool:=match ds[j]?,es[j]? with
 |some d,some e=>cj d e
 |_,_=>true
theorem b9:∀ds es:List Dt,((List.range (min ds.length es.length)).all (xI ds es)&&ds.length==es.length)=bV ds es
 |[],[]=>by simp[bV]
 |[],_::_=>by simp[bV]
 |_::_,[]=>by simp[bV]
 |d::ds,e::es=>by
  have ih:=b9 ds es;have hm:min (d::ds).length (e::es).length=min ds.length es.length+1:=by simp only[Q5];omega
  have e1:((d::ds).length==(e::es).length)=(ds.length==es.length):=by rw[RE];simp
  rw[hm,List.range_succ_eq_map,RT,List.all_map,e1,bV,<-ih,Bool.and_assoc];rfl
theorem vz{d:Dt}:∀{ds:List Dt}{j:Nat},ds[j]?=some d->dp d<=qO ds
 |[],_,h=>by simp at h
 |d'::ds,0,h=>by simp at h;subst h;unfold qO;omega
 |d'::ds,j+1,h=>by have:=vz (ds:=ds) (j:=j) ‹h›;unfold qO;omega
theorem qb{d:Dt}:∀{ds:List Dt}{j:Nat},om ds=true->ds[j]?=some d->pl d=true
 |[],_,_,h=>by simp at h
 |d'::ds,0,n,h=>by simp at h;subst h;simp only[om,QO]at n;exact n.1
 |d'::ds,j+1,n,h=>by simp only[om,QO]at n;exact qb (ds:=ds) (j:=j) n.2 ‹h›
section
variable{P:Program}{w:World}{K:Frag}{A B:Addr->Prop}{H:Hp}{s:Shared}
theorem c8(hok:dq P w H s.heap){a:Addr}{xs:List V}(h:H a=some (.lst xs)):∃its:List Value,au xs its/\s.heap.IsList a its.toArray:=by obtain⟨_,its,n,r,t⟩:=hok a _ h;exact⟨its,r,⟨_,t,rfl,_,rfl⟩⟩
inductive Kd(K:Frag)(A:Addr->Prop)(H:Hp)(s:Shared):Value->Dt->Prop
 |n:Kd K A H s .none .bM
 |b (b:Bool):Kd K A H s (.bool b) (.bl b)
 |i (i:Int) (t:Tok):Kd K A H s (.int i t) (.int i)
 |s (z:Str) (t:Tok):Kd K A H s (.str z t) (.str z)
 |t {a:Addr} {its:List Value} {ds:List Dt} (z:its.toArray.size=ds.length) (h:s.heap.IsTuple a its.toArray) (g:∃xs,ak K A H xs ds/\au xs its):Kd K A H s (.ref a) (.tup ds)
 |l {a:Addr} {its:List Value} {ds:List Dt} (z:its.toArray.size=ds.length) (h:s.heap.IsList a its.toArray) (g:∃xs,ak K A H xs ds/\au xs its):Kd K A H s (.ref a) (.lst ds)
theorem kd(hok:dq P w H s.heap){d:Dt}{x:V}{u:Value}(hp:pl d=true)(hx:RV K A H x d)(rx:RelV x u):Kd K A H s u d:=by
 cases d with
 |bM=>have:=hx.gy;subst this;cases rx;exact .n
 |bl b=>have:=hx.bC;subst this;cases rx;exact .b b
 |int b=>have:=hx.int_inv;subst this;obtain⟨t,rfl⟩:=rx;exact .i b t
 |str b=>have:=hx.str_inv;subst this;obtain⟨t,rfl⟩:=rx;exact .s b t
 |tup ds=>obtain⟨a,xs,q,f,g⟩:=hx.aq;subst q;cases rx;obtain⟨its,r,ht⟩:=Mx.aM hok f;exact .t (by rw[QP,<-r.length,g.length]) ht ⟨_,g,r⟩
 |lst ds=>obtain⟨a,xs,q,f,_,g⟩:=hx.lst_inv;subst q;cases rx;obtain⟨its,r,ht⟩:=c8 hok f;exact .l (by rw[QP,<-r.length,g.length]) ht ⟨_,g,r⟩
 |_=>simp[pl]at hp
theorem vC{n:Nat}(ih:∀(d e:Dt)(x y:V)(u v:Value)(R:Around),dp d<=n->pl d=true->pl e=true->R.units+n<cLine->RV K A H x d->RV K B H y e->RelV x u->RelV y v->EqAt R s u v (cj d e)){qz qA:List V}{i1 i2:List Dt}{gX bw:List Value}{R:Around}(g1:ak K A H qz i1)(g2:ak K B H qA i2)(r1:au qz gX)(r2:au qA bw)(l1:gX.toArray.size=i1.length)(l2:bw.toArray.size=i2.length)
  (p1:om i1=true) (p2:om i2=true) (hd:qO i1<=n) (hu:R.in1.units+n<cLine) (j:Nat) (h1:j<gX.toArray.size) (h2:j<bw.toArray.size):EqAt R.in1 s gX.toArray[j] bw.toArray[j] (xI i1 i2 j):=by
 have vZ:j<qz.length:=by rw[g1.length,<-l1];exact h1
 have v5:j<qA.length:=by rw[g2.length,<-l2];exact h2
 obtain⟨d,c1,c2⟩:=g1.get (i:=j) (x:=qz[j]) (by simp[vZ]);obtain⟨e,k1,k2⟩:=g2.get (i:=j) (x:=qA[j]) (by simp[v5]);obtain⟨u,Ha,ru⟩:=r1.get (i:=j) (x:=qz[j]) (by simp[vZ]);obtain⟨v,LU,rv⟩:=r2.get (i:=j) (x:=qA[j]) (by simp[v5]);have eu:gX.toArray[j]=u:=by simp only[R6];exact(QR.mp Ha).2
 have ev:bw.toArray[j]=v:=by simp only[R6];exact(QR.mp LU).2
 rw[eu,ev,show xI i1 i2 j=cj d e by unfold xI;rw[c1,k1]];exact ih d e qz[j] qA[j] u v R.in1 (QY (vz c1) hd) (qb p1 c1) (qb p2 k1) hu c2 k2 ru rv
theorem Gw(hok:dq P w H s.heap):∀(n:Nat)(d e:Dt)(x y:V)(u v:Value)(R:Around),dp d<=n->pl d=true->pl e=true->R.units+n<cLine->RV K A H x d->RV K B H y e->RelV x u->RelV y v->EqAt R s u v (cj d e):=by
 intro n
 induction n with
 |zero=>
  intro d e x y u v R hd iu gV hu hx hy rx ry;have k2:=kd hok gV hy ry;cases kd hok iu hx rx with
  |n=>cases k2 with
   |n=>exact EqAt.same _
   |b b2=>exact EqAt.none_bool b2
   |i i2 t2=>exact EqAt.none_int i2 t2
   |s z2 t2=>exact EqAt.none_str z2 t2
   |t _ h=>exact EqAt.none_tuple h ⋯
   |l _ h=>exact EqAt.none_list h ⋯
  |b b1=>cases k2 with
   |n=>exact EqAt.bool_none b1
   |b b2=>exact EqAt.bool_bool b1 b2
   |i i2 t2=>exact EqAt.bool_int b1 i2 t2
   |s z2 t2=>exact EqAt.bool_str b1 z2 t2
   |t _ h=>exact EqAt.bool_tuple b1 h ⋯
   |l _ h=>exact EqAt.bool_list b1 h ⋯
  |i i1 t1=>cases k2 with
   |n=>exact EqAt.int_none i1 t1
   |b b2=>exact EqAt.int_bool i1 t1 b2
   |i i2 t2=>exact EqAt.int_int i1 t1 i2 t2
   |s z2 t2=>exact EqAt.int_str i1 t1 z2 t2
   |t _ h=>exact EqAt.int_tuple i1 t1 h ⋯
   |l _ h=>exact EqAt.int_list i1 t1 h ⋯
  |s z1 t1=>cases k2 with
   |n=>exact EqAt.str_none z1 t1
   |b b2=>exact EqAt.str_bool z1 t1 b2
   |i i2 t2=>exact EqAt.str_int z1 t1 i2 t2
   |s z2 t2=>exact EqAt.str_str z1 t1 z2 t2
   |t _ h=>exact EqAt.str_tuple z1 t1 h ⋯
   |l _ h=>exact EqAt.str_list z1 t1 h ⋯
  |_=>unfold dp at hd;omega
 |succ n ih=>
  intro d e x y u v R hd iu gV hu hx hy rx ry;have k2:=kd hok gV hy ry;cases kd hok iu hx rx with
  |t l1 ht1 o1=>
   rename_i a1 _ i1;obtain⟨qz,g1,r1⟩:=o1;cases k2 with
   |n=>exact EqAt.tuple_none ht1 ⋯
   |b b2=>exact EqAt.tuple_bool b2 ht1 ⋯
   |i i2 t2=>exact EqAt.tuple_int i2 t2 ht1 ⋯
   |s z2 t2=>exact EqAt.tuple_str z2 t2 ht1 ⋯
   |l _ h=>exact EqAt.tuple_list ht1 h ⋯
   |t l2 mV o2=>
    rename_i a2 _ i2;obtain⟨qA,g2,r2⟩:=o2;by_cases iO:a1=a2
    ·subst iO;obtain⟨_,_,rfl,_⟩:=hx.aq;obtain⟨_,_,rfl,_⟩:=hy.aq;cases rx;cases ry;have:=RV.inj hx hy iu gV;cases this;rw[hJ _ iu];exact EqAt.same _
    refine EqAt.of_refs iO ?_;have q:=b9 i1 i2;have key:=RcAt.tuples (A:=R) (e:=xI i1 i2) ht1 mV ⋯ (vC ih g1 g2 r1 r2 l1 l2 (by simpa [pl]using iu) (by simpa [pl]using gV) (by unfold dp at hd;omega) (by show R.units+1+n<cLine;omega));rw[<-l1,<-l2]at q;rw[q]at key;exact key
  |l l1 ht1 o1=>
   rename_i a1 _ i1;obtain⟨qz,g1,r1⟩:=o1;cases k2 with
   |n=>exact EqAt.list_none ht1 ⋯
   |b b2=>exact EqAt.list_bool b2 ht1 ⋯
   |i i2 t2=>exact EqAt.list_int i2 t2 ht1 ⋯
   |s z2 t2=>exact EqAt.list_str z2 t2 ht1 ⋯
   |t _ h=>exact EqAt.list_tuple ht1 h ⋯
   |l l2 mV o2=>
    rename_i a2 _ i2;obtain⟨qA,g2,r2⟩:=o2;by_cases iO:a1=a2
    ·subst iO;obtain⟨_,_,rfl,_⟩:=hx.lst_inv;obtain⟨_,_,rfl,_⟩:=hy.lst_inv;cases rx;cases ry;have:=RV.inj hx hy iu gV;cases this;rw[hJ _ iu];exact EqAt.same _
    refine EqAt.of_refs iO ?_;have q:=b9 i1 i2;by_cases hl:i1.length=i2.length
    ·have key:=RcAt.lists (A:=R) (e:=xI i1 i2) ht1 mV ⋯ ⋯ (vC ih g1 g2 r1 r2 l1 l2 (by simpa [pl]using iu) (by simpa [pl]using gV) (by unfold dp at hd;omega) (by show R.units+1+n<cLine;omega));rw[hl,Nat.min_self,S4,RD]at q;rw[l1,hl,q]at key;exact key
    ·have key:=RcAt.lists_lengths (A:=R) ht1 mV (by rw[l1,l2];simpa using hl) ⋯;have hb:(i1.length==i2.length)=false:=by simpa using hl
     rw[hb,RC]at q;show RcAt R s _ _ (bV i1 i2);rw[<-q];exact key
  |_=>exact ih _ e x y _ v R (by unfold dp;omega) iu gV ⋯ hx hy rx ry
end
end Rx
end
section
namespace Mx
open PySem PySem.Spec PySem.W PyProof.Rows L2 PySem.SeqAt
def Ko(lo c:Int)(n:Nat):It:=⟨λi _=>i<n,λi H x H'=>H'=H/\x= .int (lo+i*c),λi _=>n<=i⟩
theorem uD{P:Program}{w:World}{K:PySem.W.Frag}{tg:Expr}(it:Addr)(lo c:Int)(n:Nat):Turn P w K tg (Ko lo c n) [it] it (λi h=>IsRangeIter h it (lo+(i:Nat)*c) ((n:Int)-(i:Nat)) c) where
 mem:=(j4 (P:=P) (w:=w) (K:=K) (tg:=tg) it lo n).mem
 obj:=λi h st b hb=>by cases Rm.mp hb;exact⟨_,st,λv z=>by cases (show Data.fields _=Data.cell v from z)⟩
 keep:=λi h h' st k=>k it QU _ st
 item:=by
  intro X hP hw hK hc i pins s σ H E I hf st hg;subst hP hw hK;obtain⟨f0,f1,f2,f3,f4,f5⟩:=hf it QU;refine(Walks.range (prog:=X.prog) (w:=X.w) (I.ok.hd hc) it lo c n).item i s _ _ hg st λv h' tk hv iy kk=>?_
  obtain⟨t,rfl⟩:=hv;have I1:Inv X pins σ H {s with heap:=h',toks:=tk}:=I.turned (λb o hb e=>kk b o (λz=>hb (Rm.mp z)) e) f0 f1 f3 f4 f5;exact⟨_,rfl,nO (s:={s with heap:=h',toks:=tk}) (n:="range_iterator") iy rfl rfl ‹_› ⟨.int (lo+i*c),H,I1,⟨t,rfl⟩,⟨rfl,rfl⟩,iy,λb hb=>(hf b hb).1⟩⟩
 done:=by intro X hP hw hK hc i pins s σ H E I hf st hg;subst hP hw hK;obtain⟨f0,f1,f2,f3,f4,f5⟩:=hf it QU;exact wpAny_pyNext_range_end (I.ok.hd hc) st (by have:n<=i:=hg;omega) λh' eb=>⟨rfl,I.turned (t':=s.toks) (λb o hb e=>eb b o hb e) f0 f1 f3 f4 f5⟩
 self:=λ_ _ _ _ _ st h=>wpAny_pyIter_rangeiter st h
def eV(lo hi c:Int):Nat:=(Builtin.Range.rangeSize lo hi c).toNat
section
variable{X:Cx}{tg:Expr}
def Hg(ta:TA):TI:=λσ H R=>ta σ H λvs H1=>∃i j c:Int,vs=[.int i,.int j,.int c]/\(i.natAbs<=1000000/\j.natAbs<=1000000/\1<=c/\c<=1000)/\R (Ko i c (eV i j c)) H1
theorem Be{i j c:Int}(hi:i.natAbs<=1000000)(hj:j.natAbs<=1000000)(h1:1<=c):0<=Builtin.Range.rangeSize i j c/\Builtin.Range.rangeSize i j c<=2000000:=by
 unfold Builtin.Range.rangeSize;rw[Ta ⋯];split
 ·have a:=Int.ediv_nonneg (show 0<=j-i-1 by omega) (show 0<=c by omega);have b:=Int.ediv_le_self c (show 0<=j-i-1 by omega);omega
 ·omega
theorem ue{a b d:Expr}{ta:TA}{p pos:Pos}(hg:Gl X "range")(hm:X.mg "range"=none)(ha:PA X [a,b,d] ta)(hs:starEach [a,b,d] X.env=[(false,eval a X.env),(false,eval b X.env),(false,eval d X.env)])(tR:starEach [b,d] X.env=[(false,eval b X.env),(false,eval d X.env)]):
  PI X tg (.Call (.Name "range" p) [a,b,d] [] pos) (Hg ta):=by
 intro pins s σ H R I h;refine Call_ (gZ I hg hm boot_range (SN (ba (ha pos pins s σ H _ I h) λus s1⟨vs,H1,I1,r1,q1⟩=>?_) (by rw[hs,tR]) (by rw[tR];rfl)));obtain⟨i,j,c,e,⟨q1,q2,q3,q4⟩,q⟩:=q1;subst e;obtain⟨u1,ut,rfl,⟨t1,rfl⟩,r2⟩:=r1.cons_inv;obtain⟨u2,u3,rfl,⟨t2,rfl⟩,⟨t3,rfl⟩⟩:=r2.two;refine PySem.call_range_3 ⋯ ?_ (.inl (PyProof.noPylong_of_log2 (Nat.lt_trans ((Nat.log2_lt ⋯).mpr (show c.natAbs<2^10 by omega)) ‹_›)));obtain⟨s0,QI⟩:=Be q1 q2 q3;have sm:Builtin.Range.small i j c=true:=by unfold Builtin.Range.small Builtin.Range.rangeFitsLong;rw[Ta ⋯];simp only[QO,Ru,S7,beq_iff_eq];omega
 refine wpAny_pyIter_range (IsRange.new ..) sm ?_;have I2:Inv X pins σ H1 {s1 with heap:=s1.heap.push {cls:=.type "range",data:=.fields #[.int i t1,.int j t2,.int c t3]}}:=I1.kept (t':=s1.toks) λb o e=>QM _ e
 refine⟨_,[(s1.heap.push {cls:=.type "range",data:=.fields #[.int i t1,.int j t2,.int c t3]}).objs.size],_,_,H1,rfl,
  I2.kept (t':=s1.toks) λb o e=>QM _ e,uD _ i c (eV i j c),?_,λb hb=>?_,q⟩
 ·have e1:i+((0:Nat):Int)*c=i:=by simp
  have e2:((eV i j c:Nat):Int)-((0:Nat):Int)=Builtin.Range.rangeSize i j c:=by unfold eV;omega
  show IsRangeIter _ _ (i+((0:Nat):Int)*c) (((eV i j c:Nat):Int)-((0:Nat):Int)) c;rw[e1,e2];exact QV _ rfl
 ·cases Rm.mp hb;exact I2.lK (QT _) (I2.hok.fresh (QT _))
end
end Mx
end
section
namespace Rx
open PySem PySem.W PySem.Spec PyProof.Rows L2 PySem.SeqAt
inductive R(α:Type)where
 |ok (a:α)|ex (c:Nat)|bad
def R.bind{α β:Type}:R α->(α->R β)->R β
 |.ok a,f=>f a
 |.ex c,_=>.ex c
 |.bad,_=>.bad
@[simp] theorem R.ah{α β:Type}(a:α)(f:α->R β):(R.ok a).bind f=f a:=rfl
def R.nx{α:Type}:R α->R α
 |.ok a=>.ok a
 |_=>.bad
abbrev lim:Nat:=1000000
abbrev ai:=List (Option Dt)
abbrev Sx:=Option (List Int)
def ae(b:Bool){α:Type}(r:R α):R α:=if b then r else .bad
@[simp] theorem guard_true{α:Type}(r:R α):ae true r=r:=rfl
def gQ(o:Operator)(a b:Dt):R Dt:=match o with
 |.Add=>match a,b with
  |.int i,.int j=>.ok (.int (i+j))
  |.str x,.str y=>ae (decide (x.length+y.length<=lim)) (.ok (.str (x++y)))
  |.lst x,.lst y=>ae (decide (x.length+y.length<=lim)) (.ok (.lst (x++y)))
  |.tup x,.tup y=>ae (decide (x.length+y.length<=lim)) (.ok (.tup (x++y)))
  |_,_=>.bad
 |.Sub=>match a,b with
  |.int i,.int j=>.ok (.int (i-j))
  |_,_=>.bad
 |.Mult=>match a,b with
  |.int i,.int j=>ae (decide (i.natAbs<2^64)||decide (j.natAbs<2^64)) (.ok (.int (i*j)))
  |.str x,.int k=>ae (decide (k.natAbs<=lim)&&decide (x.length*k.toNat<=lim)) (.ok (.str (Txt.mul x k)))
  |_,_=>.bad
 |.FloorDiv=>match a,b with
  |.int i,.int j=>ae (decide (j≠0)&&decide (j.natAbs.log2<9000)) (.ok (.int (i.fdiv j)))
  |_,_=>.bad
 |.Mod=>match a,b with
  |.int i,.int j=>ae (decide (j≠0)) (.ok (.int (i.fmod j)))
  |_,_=>.bad
 |.Pow=>match a,b with
  |.int i,.int j=>ae (decide (0<=j)&&decide (j<=1000)&&decide (i.natAbs<2^64)) (.ok (.int (i^j.toNat)))
  |_,_=>.bad
 |_=>.bad
def pC(d e:Dt):Bool:=pl d&&pl e&&decide (dp d<=100)
def itemsOf:Dt->Option (List Dt)
 |.lst ds=>some ds
 |.tup ds=>some ds
 |.bR ns=>some (ns.map Dt.int)
 |_=>none
def fY:Dt->Option (List Dt)
 |.str x=>some (x.cps.toList.map λc=>.str ⟨#[c]⟩)
 |d=>itemsOf d
def zV(y x:Str):Bool:= !(Builtin.Str.occurrences y x 0 y.length 1).isEmpty
def bX:Dt->Option (List Dt)
 |.lst ds=>some ds
 |.tup ds=>some ds
 |_=>none
mutual
noncomputable def jy:Mx.D->Mx.D->Bool
 |.int _,.int _=>true
 |.str _,.str _=>true
 |.tup a,.tup b=>gv a b
 |_,_=>false
noncomputable def gv:List Mx.D->List Mx.D->Bool
 |x::xs,y::ys=>jy x y&&gv xs ys
 |_,_=>true
end
def bL:CmpOp->Dt->Dt->R Bool
 |.Eq,a,b=>ae (pC a b) (.ok (cj a b))
 |.NotEq,a,b=>ae (pC a b) (.ok (!cj a b))
 |.Lt,.int i,.int j=>.ok (decide (i<j))
 |.LtE,.int i,.int j=>.ok (decide (i<=j))
 |.LtE,.str i,.str j=>.ok (!decide (j.cps.toList<i.cps.toList))
 |.Gt,.int i,.int j=>.ok (decide (j<i))
 |.GtE,.int i,.int j=>.ok (decide (j<=i))
 |.GtE,.tup a,.tup b=>match eW a,eW b with
  |some xs,some ys=>ae (gv xs ys&&decide (Mx.D.cv xs<=100)) (.ok (!Mx.D.eO xs ys))
  |_,_=>.bad
 |.In,.str x,.str y=>.ok (zV y x)
 |.NotIn,.str x,.str y=>.ok (!zV y x)
 |_,_,_=>.bad
def bY:Dt->R Bool
 |.bM=>.ok false
 |.bl b=>.ok b
 |.int i=>.ok (i != 0)
 |.str y=>ae (decide (y.length<=lim)) (.ok ((y.length:Int) != 0))
 |.lst ds=>.ok !ds.isEmpty
 |.tup ds=>.ok !ds.isEmpty
 |.bR ds=>.ok !ds.isEmpty
 |_=>.bad
def tu(ds:List Dt)(i:Int):R Dt:=match ka ds i with
 |some d=>.ok d
 |none=>.bad
def cw:Dt->Dt->R Dt
 |.lst ds,.int i=>tu ds i
 |.tup ds,.int i=>tu ds i
 |.bR ns,.int i=>tu (ns.map Dt.int) i
 |.str z,.int i=>ae (decide (z.length<=lim)) (match ka z.cps.toList i with|some c=>.ok (.str ⟨#[c]⟩)|none=>.bad)
 |_,_=>.bad
def cutD{α:Type}(xs:List α)(lo hi:Option Int):List α:=(xs.drop (HT.bH xs.length 0 lo)).take (HT.bH xs.length xs.length hi-HT.bH xs.length 0 lo)
def fy:Dt->Option Int->Option Int->R Dt
 |.lst ds,lo,hi=>.ok (.lst (cutD ds lo hi))
 |.bR ds,lo,hi=>.ok (.lst (cutD (ds.map Dt.int) lo hi))
 |.tup ds,lo,hi=>.ok (.tup (cutD ds lo hi))
 |.str z,lo,hi=>ae (decide (z.length<=lim)) (.ok (.str (PySem.Txt.slice z lo hi)))
 |_,_,_=>.bad
inductive BI where
 |len|min2|max2|sorted|tuple|list|int|isi (T:String)|dict|str
 deriving DecidableEq
def intsOf:List Dt->Option (List Int)
 |[]=>some []
 |.int i::r=>(intsOf r).map (i:: ·)
 |_=>none
def Gc:List Dt->Option (List Bool)
 |[]=>some []
 |.bl i::r=>(Gc r).map (i:: ·)
 |_=>none
def iT(a b:Mx.D):Bool:= !Mx.D.lt b a
def aO(ds:List Mx.D):List Mx.D:=ds.mergeSort iT
def Hn(k:Mx.SK):Mx.D->Bool
 |.tup (.tup _::_)=>k== .tt
 |.tup (.str _::_)=>k== .ts
 |.tup (.int _::_)=>k== .ti
 |.str _=>k== .s
 |.int _=>k== .i
 |_=>false
def iC(ds:List Mx.D):Bool:=decide (ds.length<64)&&(decide (ds.length<2)||(decide (Mx.D.cv ds<=100)&&([Mx.SK.tt,.ts,.ti,.s,.i].any λk=>ds.all (Hn k))&&ds.all λd=>ds.all λe=>jy d e))
def dd:List Str->List Str
 |[]=>[]
 |x::r=>if x∈dd r then dd r else x::dd r
def Ma:List Int->Int
 |[]=>0
 |[a]=>a
 |a::r=>min a (Ma r)
def strsOf:List Dt->Option (List Str)
 |[]=>some []
 |.str i::r=>(strsOf r).map (i:: ·)
 |_=>none
def fZ(xs ys:List Dt):List Dt:=List.zipWith (λx y=>Dt.tup [x,y]) xs ys
def vD:Nat->List Dt->List Dt
 |_,[]=>[]
 |i,x::xs=>Dt.tup [.int i,x]::vD (i+1) xs
def lT(T:String):Dt->R Bool
 |.str _=>.ok (T=="str")
 |.int _=>.ok (T=="int")
 |.bl _=>.ok (T=="bool"||T=="int")
 |.lst _=>.ok (T=="list")
 |.tup _=>.ok (T=="tuple")
 |.bM=>.ok false
 |.obj _ _=>.ok false
 |_=>.bad
def KU(d:Dt):Option (Str×Dt):=match d with
 |.tup ds=>match ds with
  |[a,v]=>match a with
   |.str k=>some (k,v)
   |_=>none
  |_=>none
 |_=>none
def Gq:List Dt->Option (List (Str×Dt))
 |[]=>some []
 |d::r=>(KU d).bind λp=>(Gq r).map (p:: ·)
def cR(b:BI)(as:List Dt):R Dt:=match b with
 |.len=>match as with
  |[.str x]=>ae (decide (x.length<=lim)) (.ok (.int x.length))
  |[.lst ds]=>.ok (.int ds.length)
  |[.tup ds]=>.ok (.int ds.length)
  |[.bR ds]=>.ok (.int ds.length)
  |_=>.bad
 |.min2=>match as with
  |[.int i,.int j]=>.ok (.int (if j<i then j else i))
  |_=>.bad
 |.max2=>match as with
  |[.int i,.int j]=>.ok (.int (if j>i then j else i))
  |_=>.bad
 |.sorted=>match as with
  |[d]=>match itemsOf d with
   |some ds=>match eW ds with
    |some ms=>ae (iC ms) (.ok (.lst (ao (aO ms))))
    |none=>.bad
   |none=>.bad
  |_=>.bad
 |.tuple=>match as with
  |[.lst ds]=>.ok (.tup ds)
  |[.tup ds]=>.ok (.tup ds)
  |_=>.bad
 |.list=>match as with
  |[.lst ds]=>.ok (.lst ds)
  |[.tup ds]=>.ok (.lst ds)
  |[.bR ns]=>.ok (.lst (ns.map Dt.int))
  |_=>.bad
 |.int=>match as with
  |[.int i]=>.ok (.int i)
  |[.bl b]=>.ok (.int (if b then 1 else 0))
  |[.str x]=>ae (decide (x.length<=640)) (match PySem.intText? x with|some n=>.ok (.int n)|none=>.bad)
  |_=>.bad
 |.isi T=>match as with
  |[d]=>(lT T d).bind λb=>.ok (.bl b)
  |_=>.bad
 |.str=>match as with
  |[.int i]=>ae (decide (i.natAbs.log2<1920)) (.ok (.str (toString i)))
  |_=>.bad
 |.dict=>match as with
  |[.tup ds]=>match Gq ds with|some ps=>ae (decide (ps.map (·.1)).Nodup) (.ok (.obj (ps.map (·.1)) (ps.map (·.2))))|none=>.bad
  |_=>.bad
def isStr:Dt->Bool
 |.str _=>true
 |_=>false
inductive MT where
 |join
 deriving DecidableEq
def P3:MT->Dt->List Dt->R Dt
 |.join,.str z,[.lst ds]=>match strsOf ds with
  |some ys=>ae (decide ((ys.map (·.length)).sum+ys.length*z.length<=lim)) (.ok (.str (PySem.Txt.join z ys)))
  |none=>.bad
 |_,_,_=>.bad
inductive Tg where
 |nm (i:Nat)|tp (is:List Nat)
 deriving DecidableEq
mutual
inductive C where
 |con (d:Dt)|var (i:Nat)|mvr (i:Nat)
 |bin (o:Operator) (a b:C)|cmp (o:CmpOp) (a b:C)|ch (o p:CmpOp) (a b c:C)
 |neg (a:C)|nt (a:C)|and (a b:C)|or (a b:C)|ite (t a b:C)
 |idx (a b:C)|sliL (a lo:C)|sliH (a hi:C)|sliB (a lo hi:C)
 |tup (es:Cs)|lst (es:Cs)
 |call (f:Nat) (es:Cs) (ds:List Dt)|callD (f:Nat) (es:Cs)|popD|lenD
 |bi (b:BI) (es:Cs)|mt (m:MT) (o:C) (es:Cs)
 |GE (i:Nat) (k e:C)|srtI (i:Nat)|gtO (o k e:C)
 |comp (cap:List (Option Nat)) (it:o8) (tg:Tg) (ts:Cs) (e:C)
 |BD (cap:List (Option Nat)) (it:o8) (tg:Tg) (ts:Cs) (LZ:o8) (Oe:Tg) (Of:Cs) (e:C)
inductive Cs where
 |nil|cons (c:C) (cs:Cs)
inductive o8 where
 |seq (c:C)|rng1 (c:C)|rng2 (a b:C)|rng3 (a b c:C)|zip (a b:C)|enum (c:C)|zipR (a c:C)
end
def Cs.all(p:C->Bool):Cs->Bool
 |.nil=>true
 |.cons c cs=>p c&&cs.all p
mutual
noncomputable def lk:C->Nat
 |.mvr _=>1
 |.and _ _=>0
 |.or _ _=>0
 |.ite _ a b=>max (lk a) (lk b)
 |.idx a _=>if lk a<=1 then 0 else 2
 |.sliL a _=>if lk a<=1 then 0 else 2
 |.sliH a _=>if lk a<=1 then 0 else 2
 |.sliB a _ _=>if lk a<=1 then 0 else 2
 |.bin _ a b=>if lk a<=1/\lk b<=1 then 0 else 2
 |.tup es=>if oZ es=0 then 0 else 2
 |.lst es=>if oZ es=0 then 0 else 2
 |.call _ es _=>if oZ es=0 then 0 else 2
 |.callD _ es=>if oZ es=0 then 0 else 2
 |.bi _ es=>if oZ es<=1 then 0 else 2
 |.GE _ _ e=>lk e
 |.gtO o _ e=>if lk o=0 then lk e else 2
 |_=>0
noncomputable def oZ:Cs->Nat
 |.nil=>0
 |.cons c cs=>max (lk c) (oZ cs)
end
def tX:o8->Nat
 |.seq c=>lk c
 |.zip a b=>max (lk a) (lk b)
 |.enum c=>lk c
 |.zipR a _=>lk a
 |_=>0
def Dt.Hl:Dt->Bool
 |.bM=>true
 |_=>false
def fresh(fr:Nat->Bool):C->Bool
 |.con d=>d.Hl
 |.lst _=>true
 |.comp ..=>true
 |.BD ..=>true
 |.bi .sorted _=>true
 |.bi .list _=>true
 |.bin ..=>true
 |.sliH ..=>true
 |.call f _ _=>fr f
 |.callD f _=>fr f
 |_=>false
def cG(c:C)(d:Dt):Bool:=decide (lk c=0)||rO d
def iz(c:C)(d:Dt):Bool:=decide (lk c=0)||match d with|.lst ds=>ma ds|d=>rO d
def bp(ρ:ai)(i:Nat):R Dt:=match ρ[i]? with
 |some (some d)=>.ok d
 |_=>.bad
def jh(cap:List (Option Nat))(ρ:ai):ai:=cap.map λo=>o.bind λi=>(ρ[i]?).join
def ej:List Nat->List Dt->ai->R ai
 |[],[],ρ=>.ok ρ
 |i::is,d::ds,ρ=>ej is ds (ρ.set i (some d))
 |_,_,_=>.bad
def eT:Tg->Dt->ai->R ai
 |.nm i,d,ρ=>.ok (ρ.set i (some d))
 |.tp is,.tup ds,ρ=>ej is ds ρ
 |.tp is,.lst ds,ρ=>ej is ds ρ
 |_,_,_=>.bad
def sF(is:List Nat)(d:Dt)(ρ:ai):R ai:=match d with
 |.tup ds=>ej is ds ρ
 |.lst ds=>ej is ds ρ
 |_=>.bad
def cU(f:Dt->Sx->R (List Dt×Sx)):List Dt->Sx->R (List Dt×Sx)
 |[],S=>.ok ([],S)
 |x::xs,S=>(f x S).bind λp=>(cU f xs p.2).bind λq=>.ok (p.1++q.1,q.2)
def dQ(tg:Tg)(MY:ai->Sx->R (Bool×Sx))(body:ai->Sx->R (List Dt×Sx))(ρ:ai)(d:Dt)(S:Sx):R (List Dt×Sx):=
 (eT tg d ρ).bind λρ1=>(MY ρ1 S).bind λb=>if b.1 then body ρ1 b.2 else .ok ([],b.2)
def cn(lo:Int)(n:Nat):List Dt:=(List.range n).map λ(i:Nat)=>Dt.int (lo+(i:Int))
def KR(d:Mx.D):List Dt->List Dt->Option Dt
 |k::ks,v::vs=>if toD k=some d then some v else KR d ks vs
 |_,_=>none
def Gr(d:Mx.D)(v:Dt):List Dt->List Dt->List Dt
 |k::ks,x::vs=>(if toD k=some d then v else x)::Gr d v ks vs
 |_,vs=>vs
def Ho(k:Dt):Option Mx.D:=match toD k with
 |some (.tup ds)=>if Mx.D.dep (.tup ds)<=8 then some (.tup ds) else none
 |_=>none
def Gp(z k e:Dt):R Dt:=match z with
 |.gh ks vs=>match Ho k with
  |some d=>.ok ((KR d ks vs).getD e)
  |none=>.bad
 |_=>.bad
def Gu(z k v:Dt):R Dt:=match z with
 |.gh ks vs=>match Ho k with
  |some d=>ae (decide (ks.length<lim)) (.ok (if (KR d ks vs).isSome then .gh ks (Gr d v ks vs) else .gh (ks++[k]) (vs++[v])))
  |none=>.bad
 |_=>.bad
def xf(ks vs:List Mx.D):List Mx.D:=(ks.zip vs).map λz=>.tup [z.1,z.2]
def Gv(z:Dt):R Dt:=match z with
 |.gh ks vs=>match eW ks,eW vs with
  |some ms,some ns=>ae (iC (xf ms ns)) (.ok (.lst (ao (aO (xf ms ns)))))
  |_,_=>.bad
 |_=>.bad
def LY:Dt->Bool
 |.obj _ _=>true
 |_=>false
def N1(y:Str):List Str->List Dt->Option Dt
 |k::ks,v::vs=>if k=y then some v else N1 y ks vs
 |_,_=>none
def HL(z k e:Dt):R Dt:=match z with
 |.obj ks vs=>match k with
  |.str y=>.ok ((N1 y ks vs).getD e)
  |_=>.bad
 |_=>.bad
def Hk(ρ:ai)(i:Nat):Bool:=match ρ[i]? with|some (some (.gh _ _))=>true|_=>false
def ie(lo c:Int)(n:Nat):List Dt:=(List.range n).map λ(i:Nat)=>Dt.int (lo+i*c)
abbrev FT:=Nat->List Dt->Sx->R (Dt×Sx)
mutual
noncomputable def ev(F:FT):C->ai->Sx->R (Dt×Sx)
 |.con d,_,S=>.ok (d,S)
 |.var i,ρ,S=>(bp ρ i).bind λd=>.ok (d,S)
 |.mvr i,ρ,S=>(bp ρ i).bind λd=>.ok (d,S)
 |.bin o a b,ρ,S=>(ev F a ρ S).bind λx=>(ev F b ρ x.2).bind λy=>(gQ o x.1 y.1).bind λd=>.ok (d,y.2)
 |.cmp o a b,ρ,S=>(ev F a ρ S).bind λx=>(ev F b ρ x.2).bind λy=>(bL o x.1 y.1).bind λd=>.ok (.bl d,y.2)
 |.ch o p a b c,ρ,S=>(ev F a ρ S).bind λx=>(ev F b ρ x.2).bind λy=>(bL o x.1 y.1).bind λd=>
   if d then(ev F c ρ y.2).bind λz=>(bL p y.1 z.1).bind λe=>.ok (.bl e,z.2) else .ok (.bl false,y.2)
 |.neg a,ρ,S=>(ev F a ρ S).bind λx=>match x.1 with|.int i=>.ok (.int (-i),x.2)|_=>.bad
 |.nt a,ρ,S=>(ev F a ρ S).bind λx=>match x.1 with|.bl b=>.ok (.bl !b,x.2)|_=>.bad
 |.and a b,ρ,S=>(ev F a ρ S).bind λx=>match x.1 with|.bl true=>(ev F b ρ x.2).bind λy=>(match y.1 with|.bl c=>.ok (.bl c,y.2)|_=>.bad)|.bl false=>.ok (.bl false,x.2)|_=>.bad
 |.or a b,ρ,S=>(ev F a ρ S).bind λx=>match x.1 with|.bl false=>(ev F b ρ x.2).bind λy=>(match y.1 with|.bl c=>.ok (.bl c,y.2)|_=>.bad)|.bl true=>.ok (.bl true,x.2)|_=>.bad
 |.ite t a b,ρ,S=>(aZ F t ρ S).bind λx=>if x.1 then ev F a ρ x.2 else ev F b ρ x.2
 |.idx a b,ρ,S=>(ev F a ρ S).bind λx=>(ev F b ρ x.2).bind λy=>(cw x.1 y.1).bind λd=>.ok (d,y.2)
 |.sliL a l,ρ,S=>(ev F a ρ S).bind λx=>(ev F l ρ x.2).bind λy=>match y.1 with|.int i=>(fy x.1 (some i) none).bind λd=>.ok (d,y.2)|_=>.bad
 |.sliH a h,ρ,S=>(ev F a ρ S).bind λx=>(ev F h ρ x.2).bind λy=>match y.1 with|.int i=>(fy x.1 none (some i)).bind λd=>.ok (d,y.2)|_=>.bad
 |.sliB a l h,ρ,S=>(ev F a ρ S).bind λx=>(ev F l ρ x.2).bind λy=>match y.1 with|.int i=>(ev F h ρ y.2).bind λz=>(match z.1 with|.int j=>(fy x.1 (some i) (some j)).bind λd=>.ok (d,z.2)|_=>.bad)|_=>.bad
 |.tup es,ρ,S=>(c6 F es ρ S).bind λx=>ae (decide (x.1.length<=lim)) (.ok (.tup x.1,x.2))
 |.lst es,ρ,S=>(c6 F es ρ S).bind λx=>ae (decide (x.1.length<=lim)) (.ok (.lst x.1,x.2))
 |.call f es ds,ρ,S=>(c6 F es ρ S).bind λx=>(F f (x.1++ds) none).bind λy=>.ok (y.1,x.2)
 |.callD f es,ρ,S=>ae S.isSome ((c6 F es ρ S).bind λx=>match x.2 with|some s=>F f x.1 (some s)|none=>.bad)
 |.popD,_,S=>match S with|some ns=>ae (!ns.isEmpty) (.ok (.int (ns.getLastD 0),some ns.dropLast))|none=>.bad
 |.lenD,_,S=>match S with|some ns=>.ok (.int ns.length,S)|none=>.bad
 |.GE i k e,ρ,S=>ae (Hk ρ i) ((ev F k ρ S).bind λx=>(ev F e ρ x.2).bind λy=>(bp ρ i).bind λz=>(Gp z x.1 y.1).bind λd=>.ok (d,y.2))
 |.srtI i,ρ,S=>(bp ρ i).bind λz=>(Gv z).bind λd=>.ok (d,S)
 |.gtO o k e,ρ,S=>(ev F o ρ S).bind λz=>ae (LY z.1) ((ev F k ρ z.2).bind λx=>(ev F e ρ x.2).bind λy=>(HL z.1 x.1 y.1).bind λd=>.ok (d,y.2))
 |.bi b es,ρ,S=>(c6 F es ρ S).bind λx=>(cR b x.1).bind λd=>.ok (d,x.2)
 |.mt m o es,ρ,S=>(ev F o ρ S).bind λy=>ae (isStr y.1) ((c6 F es ρ y.2).bind λx=>(P3 m y.1 x.1).bind λd=>.ok (d,x.2))
 |.comp cap it tg ts e,ρ,S=>(dW F it ρ S).bind λx=>ae (decide (x.1.length<=lim)&&(decide (tX it<=1)||jn F it ρ S))
   ((cU (dQ tg (fu F ts) (λρ1 S1=>(ev F e ρ1 S1).bind λy=>ae (cG e y.1) (.ok ([y.1],y.2))) (jh cap ρ)) x.1 x.2).bind λq=>.ok (.lst q.1,q.2))
 |.BD cap it tg ts LZ Oe Of e,ρ,S=>(dW F it ρ S).bind λx=>ae (decide (x.1.length<=lim)&&(decide (tX it<=1)||jn F it ρ S))
   ((cU (dQ tg (fu F ts) (λρ1 S1=>(dW F LZ ρ1 S1).bind λx2=>ae (decide (x.1.length*x2.1.length<=lim)&&decide (tX LZ=0))
    (cU (dQ Oe (fu F Of) (λρ2 S2=>(ev F e ρ2 S2).bind λy=>ae (cG e y.1) (.ok ([y.1],y.2))) ρ1) x2.1 x2.2)) (jh cap ρ)) x.1 x.2).bind λq=>.ok (.lst q.1,q.2))
noncomputable def aZ(F:FT):C->ai->Sx->R (Bool×Sx)
 |.nt a,ρ,S=>(aZ F a ρ S).bind λx=>.ok (!x.1,x.2)
 |.and a b,ρ,S=>(aZ F a ρ S).bind λx=>if x.1 then aZ F b ρ x.2 else .ok (false,x.2)
 |.or a b,ρ,S=>(aZ F a ρ S).bind λx=>if x.1 then .ok (true,x.2) else aZ F b ρ x.2
 |.cmp o a b,ρ,S=>(ev F a ρ S).bind λx=>(ev F b ρ x.2).bind λy=>(bL o x.1 y.1).bind λd=>.ok (d,y.2)
 |.ch o p a b c,ρ,S=>(ev F a ρ S).bind λx=>(ev F b ρ x.2).bind λy=>(bL o x.1 y.1).bind λd=>
   if d then(ev F c ρ y.2).bind λz=>(bL p y.1 z.1).bind λe=>.ok (e,z.2) else .ok (false,y.2)
 |.var i,ρ,S=>(bp ρ i).bind λd=>(bY d).bind λb=>.ok (b,S)
 |.mvr i,ρ,S=>(bp ρ i).bind λd=>(bY d).bind λb=>.ok (b,S)
 |.call f es ds,ρ,S=>(c6 F es ρ S).bind λx=>(F f (x.1++ds) none).bind λy=>(bY y.1).bind λb=>.ok (b,x.2)
 |.callD f es,ρ,S=>ae S.isSome ((c6 F es ρ S).bind λx=>match x.2 with|some s=>(F f x.1 (some s)).bind λy=>(bY y.1).bind λb=>.ok (b,y.2)|none=>.bad)
 |.bi b es,ρ,S=>(c6 F es ρ S).bind λx=>(cR b x.1).bind λd=>(bY d).bind λb=>.ok (b,x.2)
 |.idx a b,ρ,S=>(ev F a ρ S).bind λx=>(ev F b ρ x.2).bind λy=>(cw x.1 y.1).bind λd=>(bY d).bind λb=>.ok (b,y.2)
 |_,_,_=>.bad
noncomputable def c6(F:FT):Cs->ai->Sx->R (List Dt×Sx)
 |.nil,_,S=>.ok ([],S)
 |.cons c cs,ρ,S=>(ev F c ρ S).bind λx=>(c6 F cs ρ x.2).bind λy=>.ok (x.1::y.1,y.2)
noncomputable def fu(F:FT):Cs->ai->Sx->R (Bool×Sx)
 |.nil,_,S=>.ok (true,S)
 |.cons c .nil,ρ,S=>aZ F c ρ S
 |_,_,_=>.bad
noncomputable def dW(F:FT):o8->ai->Sx->R (List Dt×Sx)
 |.seq c,ρ,S=>(ev F c ρ S).bind λx=>match fY x.1 with|some ds=>.ok (ds,x.2)|none=>.bad
 |.rng1 c,ρ,S=>(ev F c ρ S).bind λx=>match x.1 with|.int j=>ae (decide (j<=lim)&&decide (-lim<=j)) (.ok (cn 0 j.toNat,x.2))|_=>.bad
 |.rng2 a b,ρ,S=>(ev F a ρ S).bind λx=>(ev F b ρ x.2).bind λy=>match x.1,y.1 with
   |.int i,.int j=>ae (decide (i.natAbs<=lim)&&decide (j.natAbs<=lim)) (.ok (cn i (j-i).toNat,y.2))|_,_=>.bad
 |.rng3 a b c,ρ,S=>(ev F a ρ S).bind λx=>(ev F b ρ x.2).bind λy=>(ev F c ρ y.2).bind λz=>match x.1,y.1,z.1 with
   |.int i,.int j,.int k=>ae (decide (i.natAbs<=lim)&&decide (j.natAbs<=lim)&&(decide (1<=k)&&decide (k<=1000))) (.ok (ie i k (Mx.eV i j k),z.2))|_,_,_=>.bad
 |.zip a b,ρ,S=>(ev F a ρ S).bind λx=>(ev F b ρ x.2).bind λy=>match bX x.1,bX y.1 with
   |some xs,some ys=>.ok (fZ xs ys,y.2)|_,_=>.bad
 |.enum c,ρ,S=>(ev F c ρ S).bind λx=>match bX x.1 with|some ds=>.ok (vD 0 ds,x.2)|none=>.bad
 |.zipR a c,ρ,S=>(ev F a ρ S).bind λx=>(ev F c ρ x.2).bind λy=>match bX x.1,y.1 with
   |some xs,.int j=>ae (decide (j<=lim)&&decide (-lim<=j)) (.ok (fZ xs (cn 0 j.toNat),y.2))|_,_=>.bad
noncomputable def jn(F:FT):o8->ai->Sx->Bool
 |.seq c,ρ,S=>match ev F c ρ S with|.ok x=>rO x.1|_=>false
 |_,_,_=>false
end
inductive Fl where
 |next|brk|cnt|ret (d:Dt)
mutual
inductive T where
 |asg (i:Nat) (c:C)|asgM (i:Nat) (c:C)|asgD (i:Nat) (c:C)|mov (i j:Nat)|asgT (is:List Nat) (c:C)
 |aug (i:Nat) (c:C)
 |uw (i:Nat) (k v:C)|app (i:Nat) (c:C)|xtd (i:Nat) (c:C)|clr (i:Nat)
 |FC (c:C)|ret (c:C)|retN|ifs (t:C) (a b:Ts)|fr (tg:Tg) (it:o8) (b:Ts)|wh (t:C) (b:Ts)
 |KS (i:Nat)|dset (i:Nat) (k v:C)
 |rs (k:Nat) (vs:List Nat)|tr (b:Ts) (qp:List (Option Bool))|brk|cnt|pas
inductive Ts where
 |nil|cons (t:T) (ts:Ts)
end
abbrev RS:=R (Fl×ai×Sx)
def tZ(ρ:ai)(i:Nat):Bool:=match ρ[i]? with
 |some (some (.int n))=>decide (0<=n)&&decide (n<10^19)
 |_=>false
def forL(tg:Tg)(body:ai->Sx->RS):List Dt->ai->Sx->RS
 |[],ρ,S=>.ok (.next,ρ,S)
 |x::xs,ρ,S=>(eT tg x ρ).bind λρ1=>(body ρ1 S).bind λp=>match p.1 with
  |.next=>forL tg body xs p.2.1 p.2.2
  |.cnt=>forL tg body xs p.2.1 p.2.2
  |.brk=>.ok (.next,p.2)
  |.ret d=>.ok (.ret d,p.2)
def iB(test:ai->Sx->R (Bool×Sx))(body:ai->Sx->RS):Nat->ai->Sx->RS
 |0,_,_=>.bad
 |n+1,ρ,S=>(test ρ S).bind λb=>if b.1 then(body ρ b.2).bind λp=>match p.1 with
   |.next=>iB test body n p.2.1 p.2.2
   |.cnt=>iB test body n p.2.1 p.2.2
   |.brk=>.ok (.next,p.2)
   |.ret d=>.ok (.ret d,p.2)
  else .ok (.next,ρ,b.2)
def iA:Nat:=100000
def isLE(ρ:ai)(i:Nat):Bool:=match ρ[i]? with
 |some (some (.lst _))=>true
 |_=>false
def jz(ρ:ai)(i:Nat):R (List Dt):=match ρ[i]? with
 |some (some (.lst ds))=>.ok ds
 |_=>.bad
mutual
noncomputable def ex(F:FT):T->ai->Sx->RS
 |.asg i c,ρ,S=>(ev F c ρ S).bind λx=>ae (cG c x.1) (.ok (.next,ρ.set i (some x.1),x.2))
 |.asgM i c,ρ,S=>(ev F c ρ S).bind λx=>ae (iz c x.1) (.ok (.next,ρ.set i (some x.1),x.2))
 |.asgD i c,ρ,S=>(ev F c ρ S).bind λx=>match x.1 with|.lst ds=>(match intsOf ds with|some ns=>ae (decide (lk c=0)&&decide (i<ρ.length)) (.ok (.next,ρ.set i none,some ns))|none=>.bad)|_=>.bad
 |.mov i j,ρ,S=>(bp ρ j).bind λd=>.ok (.next,(ρ.set j none).set i (some d),S)
 |.asgT is c,ρ,S=>(ev F c ρ S).bind λx=>ae (cG c x.1) ((sF is x.1 ρ).bind λρ1=>.ok (.next,ρ1,x.2))
 |.aug i c,ρ,S=>(bp ρ i).bind λd=>(ev F c ρ S).bind λx=>match d,x.1 with|.int a,.int b=>.ok (.next,ρ.set i (some (.int (a+b))),x.2)|_,_=>.bad
 |.uw i k v,ρ,S=>ae (isLE ρ i) ((ev F v ρ S).bind λx=>(ev F k ρ x.2).bind λy=>ae (cG v x.1) ((jz ρ i).bind λds=>match y.1 with
   |.int n=>(match kH ds.length n with|some j=>.ok (.next,ρ.set i (some (.lst (ds.set j x.1))),y.2)|none=>.bad)|_=>.bad))
 |.KS i,ρ,S=>.ok (.next,ρ.set i (some (.gh [] [])),S)
 |.dset i k v,ρ,S=>ae (Hk ρ i) ((ev F v ρ S).bind λx=>(ev F k ρ x.2).bind λy=>(bp ρ i).bind λz=>ae (decide (lk v=0)) ((Gu z y.1 x.1).bind λd=>.ok (.next,ρ.set i (some d),y.2)))
 |.app i c,ρ,S=>ae (isLE ρ i) ((ev F c ρ S).bind λx=>ae (cG c x.1) ((jz ρ i).bind λds=>ae (decide (ds.length<=lim)) (.ok (.next,ρ.set i (some (.lst (ds++[x.1]))),x.2))))
 |.xtd i c,ρ,S=>ae (isLE ρ i) ((ev F c ρ S).bind λx=>ae (decide (lk c<=1)) ((jz ρ i).bind λds=>match x.1 with
   |.lst es=>ae (decide (ds.length+es.length<=lim)) (.ok (.next,ρ.set i (some (.lst (ds++es))),x.2))|.tup es=>ae (decide (ds.length+es.length<=lim)) (.ok (.next,ρ.set i (some (.lst (ds++es))),x.2))|_=>.bad))
 |.clr i,ρ,S=>(jz ρ i).bind λ_=>.ok (.next,ρ.set i (some (.lst [])),S)
 |.FC c,ρ,S=>(ev F c ρ S).bind λx=>.ok (.next,ρ,x.2)
 |.ret c,ρ,S=>(ev F c ρ S).bind λx=>.ok (.ret x.1,ρ,x.2)
 |.retN,ρ,S=>.ok (.ret .bM,ρ,S)
 |.ifs t a b,ρ,S=>(aZ F t ρ S).bind λx=>if x.1 then aE F a ρ x.2 else aE F b ρ x.2
 |.fr tg it b,ρ,S=>(dW F it ρ S).bind λx=>ae (decide (tX it=0)||jn F it ρ S) (forL tg (aE F b) x.1 ρ x.2)
 |.wh t b,ρ,S=>iB (aZ F t) (aE F b) iA ρ S
 |.rs k vs,ρ,S=>ae (vs.all (tZ ρ)) (.ex k)
 |.tr b qp,ρ,S=>ae S.isNone (match aE F b ρ S with|.ex k=>(match qp[k]? with|some (some v)=>.ok (.ret (.bl v),ρ,S)|_=>.bad)|r=>r)
 |.brk,ρ,S=>.ok (.brk,ρ,S)
 |.cnt,ρ,S=>.ok (.cnt,ρ,S)
 |.pas,ρ,S=>.ok (.next,ρ,S)
noncomputable def aE(F:FT):Ts->ai->Sx->RS
 |.nil,ρ,S=>.ok (.next,ρ,S)
 |.cons t ts,ρ,S=>(ex F t ρ S).bind λp=>match p.1 with
  |.next=>aE F ts p.2.1 p.2.2
  |f=>.ok (f,p.2)
end
structure Fn where
 ps:Nat
 n:Nat
 aR:Bool
 body:Ts
def fJ(F:FT)(f:Fn)(args:List Dt)(S:Sx):R (Dt×Sx):=
 if args.length+(if f.aR then 1 else 0)=f.ps then
  (aE F f.body ((if f.aR then[none] else[])++args.map some++List.replicate (f.n-f.ps) none) S).bind λp=>match p.1 with
   |.next=>.ok (.bM,p.2.2)
   |.ret d=>.ok (d,p.2.2)
   |_=>.bad
 else .bad
def ar(fs:List Fn):Nat->FT
 |0,_,_,_=>.bad
 |n+1,f,args,S=>match fs[f]? with
  |some g=>fJ (ar fs n) g args S
  |none=>.bad
structure G where
 fns:List (Str×Nat×List Dt×Bool)
 cons:List (Str×Dt)
 bls:List Str
 fr:Nat->Bool
 xs:List (Str×List (Str×Bool))
structure Gm where
 names:List (Str×NameKind)
 N:List Str
 M:List Bool
 δ:Option Nat
 κ:Option Nat
def yC:Option NameKind->Bool
 |some .local=>true
 |some .cell=>true
 |some .free=>true
 |_=>false
def wG:Option NameKind->Bool
 |some .local=>true
 |some .cell=>true
 |_=>false
def qW:Option NameKind->Bool
 |some .globalImplicit=>true
 |_=>false
def wy(x:Str):List Str->Option Nat
 |[]=>none
 |y::r=>if x==y then some 0 else(wy x r).map (· + 1)
theorem iR{x:Str}:∀{l:List Str}{i:Nat},wy x l=some i->l[i]?=some x
 |[],i,h=>by simp[wy]at h
 |y::r,i,h=>by
  unfold wy at h;by_cases e:(x==y)=true
  ·rw[Ta e]at h;cases h;have:x=y:=by simpa using e
   simp[this]
  ·rw[S9 e]at h;obtain⟨j,h1,rfl⟩:=Q2.mp h;simp[iR h1]
def cg(x:Str):Bool:= !(x==("__debug__":Str))&& !(x==("__classdict__":Str))&& !(x==("__name__":Str))
def slot(Γ:Gm)(x:Str):Option Nat:=if yC (Γ.names.lookup x)&&cg x then wy x Γ.N else none
def dM(Γ:Gm)(x:Str):Option Nat:=if wG (Γ.names.lookup x)&&cg x then wy x Γ.N else none
def dX(Γ:Gm)(i:Nat):Bool:=Γ.M[i]?==some true
def plainS(Γ:Gm)(i:Nat):Bool:= !dX Γ i&& !(Γ.δ==some i)
def pI(x:Str):List (Str×Nat×List Dt×Bool)->Option (Nat×Nat×List Dt×Bool)
 |[]=>none
 |y::r=>if x==y.1 then some (0,y.2) else(pI x r).map λp=>(p.1+1,p.2)
def vd:List (Str×Nat×BI):=[("len",1,.len),("min",2,.min2),("max",2,.max2),("sorted",1,.sorted),("tuple",1,.tuple),("list",1,.list),("int",1,.int),("str",1,.str)]
def pk(x:Str)(n:Nat):Option BI:=(vd.find? λt=>t.1==x&&t.2.1==n).map (·.2.2)
def qt(x:Str):Option String:=
 if x==("str":Str) then some "str" else if x==("int":Str) then some "int" else if x==("bool":Str) then some "bool"
 else if x==("list":Str) then some "list" else if x==("tuple":Str) then some "tuple" else none
def kN(Γ:Gm):Expr->Option Nat
 |.Name x _=>(dM Γ x).bind λi=>if plainS Γ i then some i else none
 |_=>none
def eP(Γ:Gm):List Expr->Option (List Nat)
 |[]=>some []
 |e::es=>(kN Γ e).bind λi=>(eP Γ es).map (i:: ·)
def vj(Γ:Gm):Expr->Option Tg
 |.Name x p=>(kN Γ (.Name x p)).map .nm
 |.Tuple es _ _=>(eP Γ es).map .tp
 |_=>none
def KG(names:List (Str×NameKind)):List Str:=names.filterMap λp=>if yC (some p.2) then some p.1 else none
def CK(names:List (Str×NameKind))(N:List Str):List (Option Nat):=names.filterMap λp=>match p.2 with
 |.local=>some none
 |.free=>some (wy p.1 N)
 |.cell=>some none
 |_=>none
def CL(cap:List (Option Nat))(M:List Bool):List Bool:=cap.map λo=>o.elim false λi=>M[i]?==some true
def y7(δ:Option Nat):List (Option Nat)->Option Nat
 |[]=>none
 |o::r=>if δ.isSome&&o==δ then some 0 else(y7 δ r).map (· + 1)
def aY(Γ:Gm)(sc:Scope):Gm×List (Option Nat):=
 let cap:=CK sc.names Γ.N
 (⟨sc.names,KG sc.names,CL cap Γ.M,y7 Γ.δ cap,y7 Γ.κ cap⟩,cap)
def bA:Tg->List Nat
 |.nm i=>[i]
 |.tp is=>is
def zp(names on:List (Str×NameKind))(N' Nn:List Str)(cap:List (Option Nat)):Bool:=
 names.all (λy=>names.lookup y.1==some y.2&&(y.2 != .free||(on.lookup y.1==some .cell||on.lookup y.1==some .free)))&&
 (cap.length==N'.length)&&(List.range cap.length).all (λj=>match cap[j]? with
  |some (some i)=>(match N'[j]? with
   |some x=>Nn[i]?==some x&&names.lookup x==some .free
   |none=>false)
  |_=>true)
def LX(Γ:Gm):Expr->Bool
 |.Name x _=>match slot Γ x with
  |some i=>Γ.δ==some i
  |none=>false
 |_=>false
def JI:C:=.bi .dict (.cons (.tup .nil) .nil)
mutual
noncomputable def cE:Nat->G->Gm->Expr->Option C
 |0,_,_,_=>none
 |n+1,g,Γ,e=>match e with
  |.Constant k _ _=>match k with
   |.int i=>some (.con (.int i))
   |.str x=>some (.con (.str x))
   |.bool x=>some (.con (.bl x))
   |.none=>some (.con .bM)
   |_=>none
  |.Name x _=>match slot Γ x with
   |some i=>if Γ.δ==some i||Γ.κ==some i then none else if dX Γ i then some (.mvr i) else some (.var i)
   |none=>if qW (Γ.names.lookup x)&&cg x then(g.cons.lookup x).map .con else none
  |.BinOp a o b _=>(cE n g Γ a).bind λa'=>(cE n g Γ b).bind λb'=>some (.bin o a' b')
  |.UnaryOp o a _=>(cE n g Γ a).bind λa'=>match o with
   |.USub=>some (.neg a')
   |.Not=>some (.nt a')
   |_=>none
  |.BoolOp o vs _=>cB n g Γ o vs
  |.Compare a os bs _=>match os,bs with
   |[o],[b]=>(cE n g Γ a).bind λa'=>(cE n g Γ b).bind λb'=>some (.cmp o a' b')
   |[o,p],[b,c]=>(cE n g Γ a).bind λa'=>(cE n g Γ b).bind λb'=>(cE n g Γ c).bind λc'=>some (.ch o p a' b' c')
   |_,_=>none
  |.Subscript a b _=>match b with
   |.Slice (some l) none none _=>(cE n g Γ a).bind λa'=>(cE n g Γ l).bind λl'=>some (.sliL a' l')
   |.Slice none (some h) none _=>(cE n g Γ a).bind λa'=>(cE n g Γ h).bind λh'=>some (.sliH a' h')
   |.Slice (some l) (some h) none _=>(cE n g Γ a).bind λa'=>(cE n g Γ l).bind λl'=>(cE n g Γ h).bind λh'=>some (.sliB a' l' h')
   |b=>(cE n g Γ a).bind λa'=>(cE n g Γ b).bind λb'=>some (.idx a' b')
  |.Tuple es _ _=>(vi n g Γ es).bind λfB=>some (.tup fB)
  |.List es _=>(vi n g Γ es).bind λfB=>some (.lst fB)
  |.Dict ks vs _=>match ks,vs with
   |[],[]=>some JI
   |_,_=>none
  |.Call f as ks pos=>match f,as,ks with
   |.Name f _,a::as,[]=>qK n g Γ f a as
   |_,_,_=>none
  |.ListComp elt gens sc _=>
   let b:=aY Γ sc
   if sc.kind== .function then(match gens with
   |[⟨tg,it,ifs,0⟩]=>(cI n g Γ tg it).bind λfR=>(vj b.1 tg).bind λyu=>(Gh n g b.1 ifs).bind λza=>(cE n g b.1 elt).bind λe'=>
    if zp sc.names Γ.names b.1.N Γ.N b.2&&decide b.1.N.Nodup then some (.comp b.2 fR yu za e') else none
   |_=>none) else none
  |_=>none
noncomputable def vi:Nat->G->Gm->List Expr->Option Cs
 |0,_,_,_=>none
 |n+1,g,Γ,es=>match es with
  |[]=>some .nil
  |e::es=>(cE n g Γ e).bind λe'=>(vi n g Γ es).bind λfB=>some (.cons e' fB)
noncomputable def Gh:Nat->G->Gm->List Expr->Option Cs
 |0,_,_,_=>none
 |n+1,g,Γ,es=>match es with
  |[]=>some .nil
  |[e]=>(cE n g Γ e).bind λe'=>some (.cons e' .nil)
  |_=>none
noncomputable def cB:Nat->G->Gm->BoolOp->List Expr->Option C
 |0,_,_,_,_=>none
 |n+1,g,Γ,o,es=>match es with
  |[e]=>cE n g Γ e
  |e::es=>(cE n g Γ e).bind λe'=>(cB n g Γ o es).bind λfB=>some (match o with|.And=>.and e' fB|.Or=>.or e' fB)
  |[]=>none
noncomputable def cI:Nat->G->Gm->Expr->Expr->Option o8
 |0,_,_,_,_=>none
 |n+1,g,Γ,tg,e=>match e with
  |.Call (.Name f p) [a] [] q=>if f==("range":Str) then(if qW (Γ.names.lookup f)&&g.bls.contains f then(cE n g Γ a).bind λa'=>some (.rng1 a') else none)
   else(cE n g Γ (.Call (.Name f p) [a] [] q)).bind λc=>some (.seq c)
  |.Call (.Name f p) [a,b] [] q=>if f==("range":Str) then(if qW (Γ.names.lookup f)&&g.bls.contains f then none else none)
   else if f==("zip":Str) then(match tg with
    |.Tuple ..=>if qW (Γ.names.lookup f)&&g.bls.contains f then(cE n g Γ a).bind λa'=>(cE n g Γ b).bind λb'=>some (.zip a' b') else none
    |_=>none)
   else(cE n g Γ (.Call (.Name f p) [a,b] [] q)).bind λc=>some (.seq c)
  |.Call (.Name f p) [a,b,d] [] q=>if f==("range":Str) then(if qW (Γ.names.lookup f)&&g.bls.contains f then(cE n g Γ a).bind λa'=>(cE n g Γ b).bind λb'=>(cE n g Γ d).bind λd'=>some (.rng3 a' b' d') else none)
   else(cE n g Γ (.Call (.Name f p) [a,b,d] [] q)).bind λc=>some (.seq c)
  |e=>(cE n g Γ e).bind λc=>some (.seq c)
noncomputable def qK:Nat->G->Gm->Str->Expr->List Expr->Option C
 |0,_,_,_,_,_=>none
 |n+1,g,Γ,f,a,as=>if qW (Γ.names.lookup f)&&cg f then(match pI f g.fns with
  |some (k,np,eK,aR)=>if aR then(match a with
    |.Name x _=>match slot Γ x with
     |some i=>if Γ.δ==some i&&as.length+1==np then none else none
     |none=>none
    |_=>none)
   else if as.length+1<=np&&np-(as.length+1)<=eK.length then(vi n g Γ (a::as)).bind λes=>some (.call k es (eK.drop (eK.length-(np-(as.length+1))))) else none
  |none=>if g.bls.contains f then
    (if f==("len":Str)&&LX Γ a&&as.isEmpty then none
    else if f==("isinstance":Str) then(match as with
     |[.Name t _]=>if qW (Γ.names.lookup t)&&g.bls.contains t then(qt t).bind λT=>(cE n g Γ a).bind λa'=>some (.bi (.isi T) (.cons a' .nil)) else none
     |_=>none)
    else match a,as with
     |.Call (.Name r _) [b] [] _,[]=>if r==("reversed":Str) then none
       else if r==("set":Str) then none
       else(pk f (as.length+1)).bind λi=>(vi n g Γ (a::as)).bind λes=>some (.bi i es)
     |.Call (.Name r _) [b,c] [] _,[]=>if r==("zip":Str) then none
       else(pk f (as.length+1)).bind λi=>(vi n g Γ (a::as)).bind λes=>some (.bi i es)
     |_,_=>(pk f (as.length+1)).bind λi=>(vi n g Γ (a::as)).bind λes=>some (.bi i es))
    else none)
  else none
end
section
variable{P:Program}{w:World}{K:Frag}{A B:Addr->Prop}{H:Hp}{s:Shared}
theorem elts(hok:dq P w H s.heap){qz qA:List V}{i1 i2:List Dt}{gX bw:List Value}{R:Around}{n:Nat}(g1:ak K A H qz i1)(g2:ak K B H qA i2)(r1:au qz gX)(r2:au qA bw)(l1:gX.toArray.size=i1.length)(l2:bw.toArray.size=i2.length)
  (p1:om i1=true) (p2:om i2=true) (hd:qO i1<=n) (hu:R.in1.units+n<cLine) (j:Nat) (h1:j<gX.toArray.size) (h2:j<bw.toArray.size):EqAt R.in1 s gX.toArray[j] bw.toArray[j] (xI i1 i2 j):=vC (Gw hok n) g1 g2 r1 r2 l1 l2 p1 p2 hd hu j h1 h2
theorem Ih(hok:dq P w H s.heap)(n:Nat)(d e:Dt)(x y:V)(u v:Value)(R:Around)(hd:dp d<=n+1)(iu:pl d=true)(gV:pl e=true)(hu:R.units+n+1<cLine)(hx:RV K A H x d)(hy:RV K B H y e)(rx:RelV x u)(ry:RelV y v):RcAt R s u v (cj d e):=by
 have k2:=kd hok gV hy ry;cases kd hok iu hx rx with
 |n=>cases k2 with
  |n=>exact RcAt.none_none
  |b b2=>exact RcAt.none_bool b2
  |i i2 t2=>exact RcAt.none_int i2 t2
  |s z2 t2=>exact RcAt.none_str z2 t2
  |t _ h=>exact RcAt.none_tuple h ⋯
  |l _ h=>exact RcAt.none_list h ⋯
 |b b1=>cases k2 with
  |n=>exact RcAt.bool_none b1
  |b b2=>exact RcAt.bool_bool b1 b2
  |i i2 t2=>exact RcAt.bool_int b1 i2 t2
  |s z2 t2=>exact RcAt.bool_str b1 z2 t2
  |t _ h=>exact RcAt.bool_tuple b1 h ⋯
  |l _ h=>exact RcAt.bool_list b1 h ⋯
 |i i1 t1=>cases k2 with
  |n=>exact RcAt.int_none i1 t1
  |b b2=>exact RcAt.int_bool i1 t1 b2
  |i i2 t2=>exact RcAt.int_int i1 t1 i2 t2
  |s z2 t2=>exact RcAt.int_str i1 t1 z2 t2
  |t _ h=>exact RcAt.int_tuple i1 t1 h ⋯
  |l _ h=>exact RcAt.int_list i1 t1 h ⋯
 |s z1 t1=>cases k2 with
  |n=>exact RcAt.str_none z1 t1
  |b b2=>exact RcAt.str_bool z1 t1 b2
  |i i2 t2=>exact RcAt.str_int z1 t1 i2 t2
  |s z2 t2=>exact RcAt.str_str z1 t1 z2 t2
  |t _ h=>exact RcAt.str_tuple z1 t1 h ⋯
  |l _ h=>exact RcAt.str_list z1 t1 h ⋯
 |t l1 ht1 o1=>
  rename_i i1;obtain⟨qz,g1,r1⟩:=o1;cases k2 with
  |n=>exact RcAt.tuple_none ht1 ⋯
  |b b2=>exact RcAt.tuple_bool b2 ht1 ⋯
  |i i2 t2=>exact RcAt.tuple_int i2 t2 ht1 ⋯
  |s z2 t2=>exact RcAt.tuple_str z2 t2 ht1 ⋯
  |l _ h=>exact RcAt.tuple_list ht1 h ⋯
  |t l2 mV o2=>rename_i i2;obtain⟨qA,g2,r2⟩:=o2;have key:=RcAt.tuples (A:=R) (e:=xI i1 i2) ht1 mV ⋯ (elts hok g1 g2 r1 r2 l1 l2 (by simpa [pl]using iu) (by simpa [pl]using gV) (n:=n) (by unfold dp at hd;omega) (by show R.units+1+n<cLine;omega));have q:=b9 i1 i2;rw[<-l1,<-l2]at q;rw[q]at key;exact key
 |l l1 ht1 o1=>
  rename_i i1;obtain⟨qz,g1,r1⟩:=o1;cases k2 with
  |n=>exact RcAt.list_none ht1 ⋯
  |b b2=>exact RcAt.list_bool b2 ht1 ⋯
  |i i2 t2=>exact RcAt.list_int i2 t2 ht1 ⋯
  |s z2 t2=>exact RcAt.list_str z2 t2 ht1 ⋯
  |t _ h=>exact RcAt.list_tuple ht1 h ⋯
  |l l2 mV o2=>
   rename_i i2;obtain⟨qA,g2,r2⟩:=o2;have q:=b9 i1 i2;by_cases hl:i1.length=i2.length
   ·have key:=RcAt.lists (A:=R) (e:=xI i1 i2) ht1 mV ⋯ ⋯ (elts hok g1 g2 r1 r2 l1 l2 (by simpa [pl]using iu) (by simpa [pl]using gV) (n:=n) (by unfold dp at hd;omega) (by show R.units+1+n<cLine;omega));rw[hl,Nat.min_self,S4,RD]at q;rw[l1,hl,q]at key;exact key
   ·have key:=RcAt.lists_lengths (A:=R) ht1 mV (by rw[l1,l2];simpa using hl) ⋯;have hb:(i1.length==i2.length)=false:=by simpa using hl
    rw[hb,RC]at q;show RcAt R s _ _ (bV i1 i2);rw[<-q];exact key
theorem A8(hok:dq P w H s.heap)(n:Nat)(d e:Dt)(x y:V)(u v:Value)(R:Around)(hd:dp d<=n+1)(iu:pl d=true)(gV:pl e=true)(hu:R.units+n+1<cLine)(hx:RV K A H x d)(hy:RV K B H y e)(rx:RelV x u)(ry:RelV y v):RcNeAt R s u v (!cj d e):=by
 have k2:=kd hok gV hy ry;cases kd hok iu hx rx with
 |n=>cases k2 with
  |n=>exact RcNeAt.none_none
  |b b2=>exact RcNeAt.none_bool b2
  |i i2 t2=>exact RcNeAt.none_int i2 t2
  |s z2 t2=>exact RcNeAt.none_str z2 t2
  |t _ h=>exact RcNeAt.none_tuple h ⋯
  |l _ h=>exact RcNeAt.none_list h ⋯
 |b b1=>cases k2 with
  |n=>exact RcNeAt.bool_none b1
  |b b2=>exact RcNeAt.bool_bool b1 b2
  |i i2 t2=>exact RcNeAt.bool_int b1 i2 t2
  |s z2 t2=>exact RcNeAt.bool_str b1 z2 t2
  |t _ h=>exact RcNeAt.bool_tuple b1 h ⋯
  |l _ h=>exact RcNeAt.bool_list b1 h ⋯
 |i i1 t1=>cases k2 with
  |n=>exact RcNeAt.int_none i1 t1
  |b b2=>exact RcNeAt.int_bool i1 t1 b2
  |i i2 t2=>exact RcNeAt.int_int i1 t1 i2 t2
  |s z2 t2=>exact RcNeAt.int_str i1 t1 z2 t2
  |t _ h=>exact RcNeAt.int_tuple i1 t1 h ⋯
  |l _ h=>exact RcNeAt.int_list i1 t1 h ⋯
 |s z1 t1=>cases k2 with
  |n=>exact RcNeAt.str_none z1 t1
  |b b2=>exact RcNeAt.str_bool z1 t1 b2
  |i i2 t2=>exact RcNeAt.str_int z1 t1 i2 t2
  |s z2 t2=>exact RcNeAt.str_str z1 t1 z2 t2
  |t _ h=>exact RcNeAt.str_tuple z1 t1 h ⋯
  |l _ h=>exact RcNeAt.str_list z1 t1 h ⋯
 |t l1 ht1 o1=>
  rename_i i1;obtain⟨qz,g1,r1⟩:=o1;cases k2 with
  |n=>exact RcNeAt.tuple_none ht1 ⋯
  |b b2=>exact RcNeAt.tuple_bool b2 ht1 ⋯
  |i i2 t2=>exact RcNeAt.tuple_int i2 t2 ht1 ⋯
  |s z2 t2=>exact RcNeAt.tuple_str z2 t2 ht1 ⋯
  |l _ h=>exact RcNeAt.tuple_list ht1 h ⋯
  |t l2 mV o2=>rename_i i2;obtain⟨qA,g2,r2⟩:=o2;have key:=RcNeAt.tuples (A:=R) (e:=xI i1 i2) ht1 mV ⋯ (elts hok g1 g2 r1 r2 l1 l2 (by simpa [pl]using iu) (by simpa [pl]using gV) (n:=n) (by unfold dp at hd;omega) (by show R.units+1+n<cLine;omega));have q:=b9 i1 i2;rw[<-l1,<-l2]at q;rw[q]at key;exact key
 |l l1 ht1 o1=>
  rename_i i1;obtain⟨qz,g1,r1⟩:=o1;cases k2 with
  |n=>exact RcNeAt.list_none ht1 ⋯
  |b b2=>exact RcNeAt.list_bool b2 ht1 ⋯
  |i i2 t2=>exact RcNeAt.list_int i2 t2 ht1 ⋯
  |s z2 t2=>exact RcNeAt.list_str z2 t2 ht1 ⋯
  |t _ h=>exact RcNeAt.list_tuple ht1 h ⋯
  |l l2 mV o2=>
   rename_i i2;obtain⟨qA,g2,r2⟩:=o2;have q:=b9 i1 i2;by_cases hl:i1.length=i2.length
   ·have key:=RcNeAt.lists (A:=R) (e:=xI i1 i2) ht1 mV ⋯ ⋯ (elts hok g1 g2 r1 r2 l1 l2 (by simpa [pl]using iu) (by simpa [pl]using gV) (n:=n) (by unfold dp at hd;omega) (by show R.units+1+n<cLine;omega));rw[hl,Nat.min_self,S4,RD]at q;rw[l1,hl,q]at key;exact key
   ·have key:=RcNeAt.lists_lengths (A:=R) ht1 mV (by rw[l1,l2];simpa using hl) ⋯;have hb:(i1.length==i2.length)=false:=by simpa using hl
    rw[hb,RC]at q;show RcNeAt R s _ _ (!bV i1 i2);rw[<-q];exact key
end
end Rx
end
section
namespace Mx
open PySem PySem.Spec PySem.W PyProof.Rows L2
section
variable{X:Cx}
theorem wZ:gT X (compareOp .LtE) (λx y H Q=>∃i j,x= .str i/\y= .str j/\Q (.bl (!decide (j.cps.toList<i.cps.toList))) H):=λpins s σ H x y v u Q I rx ry h=>by obtain⟨i,j,rfl,rfl,q⟩:=h;obtain⟨t,rfl⟩:=rx;obtain⟨t',rfl⟩:=ry;exact PySem.P.le_str (C3 I q rfl)
theorem HC{x:Str}{n:Int}(h1:n.natAbs<=1000000)(h2:x.length*n.toNat<=1000000):MulOk x n:=by
 refine⟨by simp;omega,λh0 _ hc=>?_,λh0 _=>?_⟩
 ·have h3:(x.length:Int)*n<=1000000:=by
   have:(x.length:Int)*n=((x.length*n.toNat:Nat):Int):=by rw[Int.natCast_mul,Int.toNat_of_nonneg ⋯]
   omega
  have h4:(x.length:Int)<=(2^63-1)/n:=(Int.le_ediv_iff_mul_le ⋯).mpr ⋯;omega
 ·have:PySem.Builtin.Str.tooLong (x.length*n.toNat)=decide (sizeLine<x.length*n.toNat):=rfl;rw[this];have:=Th;exact Rc ⋯
theorem ub:gT X (binaryOp .Mult) (λx y H Q=>∃z n,x= .str z/\y= .int n/\n.natAbs<=1000000/\z.length*n.toNat<=1000000/\Q (.str (Txt.mul z n)) H):=λpins s σ H x y v u Q I rx ry h=>by obtain⟨z,n,rfl,rfl,h1,h2,q⟩:=h;obtain⟨t,rfl⟩:=rx;obtain⟨t',rfl⟩:=ry;exact SB.mul (HC h1 h2) λt k=>⟨.str _,H,I.tok _,⟨_,rfl⟩,q⟩
theorem ny:cT X (.type "int") (λxs H Q=>∃x n,xs=[.str x]/\x.length<=640/\PySem.intText? x=some n/\Q (.int n) H):=λpins s σ H xs us Q I r h=>by obtain⟨x,n,rfl,h1,h2,q⟩:=h;obtain⟨u,rfl,t,rfl⟩:=vals1 r;exact KIN.call_text h2 h1 ⟨.int n,H,I.tok _,⟨_,rfl⟩,q⟩
end
end Mx
end
section
namespace HT
open PySem PyProof.Rows
section
variable{prog:Program}{w:World}{A:Around}{E:Value->Shared->Prop}{s:Shared}
theorem fv{t sl:Addr}{items:Array Value}{vl vu:Value}{lo hi:Option Int}{Q:Value->Shared->Prop}(ht:IsTup s.heap t items)(hs:s.heap.IsSliceOf sl vl vu .none)(pl:IsPart vl lo)(pu:IsPart vu hi)
  (hw:bH items.size 0 lo=0/\bH items.size items.size hi=items.size) (h:Q (.ref t) s) (nY:items.size<=sizeLine):wpAny (model prog w) A (getItem (.ref t) (.ref sl)) Q E s:=by
 obtain⟨os,Do,uN,G1⟩:=id hs;have Lq:s.TypeIs (.ref sl) "slice":=⟨os,Do,uN⟩;unfold getItem
 try with_reducible refine To ?_
 first|refine QK (QN ?_)|skip
 refine QK (wpAny_sequenceKey ht.typeIs ‹_› ?_);refine QK (Tj (name:=Str.ofString "__getitem__") ht.typeIs SQ
  (Tl SQ ht.typeIs entry_tuple_getitem ?_ (args_tuple_getitem _ _)))
 show wpAny _ _ (Builtin.Tuple.tupleItemsOf (.ref t) >>=_) _ _ s;refine QK (tupleItemsOf_ ht ?_);refine QK (TF Lq ?_);rw[Ta ‹_›];refine QK (dJ hs pl pu ?_);show wpAny _ _ (if (((bH items.size 0 lo:Nat):Int)==0&&(1:Int)==1&&(bH items.size items.size hi-bH items.size 0 lo)==items.size)=true then _ else _) _ _ s;rw[Ta (by rw[hw.1,hw.2];simp)];refine QK (QK (TF ht.typeIs (QN ?_)));rw[Ta ‹_›];refine QK (Tw ?_);exact QN ⟨_,rfl,QN h⟩
end
end HT
namespace Rx
open PySem PySem.W PySem.Spec PyProof.Rows L2 PySem.SeqAt
abbrev N0:Addr->Prop:=λ_=>False
def eF(K:Frag)(A:Addr->Prop)(H:Hp)(v:V):Dt->Prop
 |.lst ds=>∃a xs,v= .ref a/\H a=some (.lst xs)/\ak K A H xs ds
 |d=>RV K A H v d
def lg(K:Frag)(A:Addr->Prop)(H:Hp):List V->List Dt->Prop
 |[],[]=>True
 |x::xs,d::ds=>eF K A H x d/\lg K A H xs ds
 |_,_=>False
section
variable{K:Frag}{A:Addr->Prop}{H H':Hp}
theorem RV.one{v d}(h:RV K A H v d):eF K A H v d:=by
 cases d with
 |lst ds=>obtain⟨a,xs,h1,h2,_,h3⟩:=h.lst_inv;exact⟨a,xs,h1,h2,h3⟩
 |_=>exact h
theorem eF.ext{X:Addr->Prop}{v d}(h:eF K A H v d)(e:aI X H H')(hX:∀b,X b->A b)(hv:∀ds a,d= .lst ds->v= .ref a->¬X a):eF K A H' v d:=by
 cases d with
 |lst ds=>obtain⟨a,xs,h1,h2,h3⟩:=h;exact⟨a,xs,h1,e.kp _ _ h2 (hv ds a rfl h1),h3.mono e hX λ_ z=>z⟩
 |_=>exact RV.mono e hX (λ_ z=>z) h
theorem ak.ones:∀{vs ds},ak K A H vs ds->lg K A H vs ds
 |[],[],_=>trivial
 |[],_::_,h=>by unfold ak at h;exact h.elim
 |_::_,[],h=>by unfold ak at h;exact h.elim
 |_::_,_::_,h=>by unfold ak at h;exact⟨h.1.one,h.2.ones⟩
end
structure PR(K:Frag)(fr:Bool)(xs:List V)(ds:List Dt)(H:Hp)(d:Dt)(v:V)(H':Hp):Prop where
 same:aT H H'
 val:∀A:Addr->Prop,(∀a,A a->∃o,H a=some o)->lg K A H xs ds->RV K A H' v d
 dR:fr=true->∀es,d= .lst es->∃a ys,v= .ref a/\H a=none/\H' a=some (.lst ys)/\∀A:Addr->Prop,(∀a,A a->∃o,H a=some o)->lg K A H xs ds->ak K (λb=>A b\/b=a) H' ys es
def rP(K:Frag)(fr:Bool)(f:List Dt->R Dt):List V->Hp->VK->Prop:=λxs H Q=>∃ds d,ak K N0 H xs ds/\f ds= .ok d/\∀v H',PR K fr xs ds H d v H'->Q v H'
section
variable{K:Frag}{fr:Bool}{xs:List V}{ds:List Dt}{H:Hp}{d:Dt}
def mW:Dt->Bool
 |.bM|.bl _|.int _|.str _=>true
 |_=>false
def o7:Dt->V
 |.bl b=>.bl b
 |.int b=>.int b
 |.str b=>.str b
 |_=>.bM
theorem oE{A:Addr->Prop}(h:mW d=true):RV K A H (o7 d) d:=by
 cases d with
 |bM=>exact RV.l0
 |bl b=>exact RV.rK
 |int b=>exact RV.dZ
 |str b=>exact RV.l6
 |_=>simp[mW]at h
theorem PR.sc(h:mW d=true):PR K fr xs ds H d (o7 d) H:=⟨aT.refl _,λA _ _=>oE h,λ_ es e=>by subst e;simp[mW]at h⟩
theorem PR.p5{p:Addr}{ys:List V}{es:List Dt}(hp:H p=none)(h:∀A:Addr->Prop,lg K A H xs ds->ak K A H ys es):PR K fr xs ds H (.lst es) (.ref p) (upd H p (.lst ys)):=by
 have s:=Mx.bI hp (.lst ys);refine⟨s,λA hA q=>RV.d4 aB (λz=>?_) ((h A q).same s),λ_ fB e=>?_⟩
 ·obtain⟨o,e⟩:=hA p z;rw[hp]at e;cases e
 ·cases e;exact⟨p,ys,rfl,hp,aB,λA hA q=>((h A q).avoid hp).same s⟩
theorem PR.DS{p:Addr}{ys:List V}{es:List Dt}(hp:H p=none)(h:∀A:Addr->Prop,lg K A H xs ds->ak K A H ys es):PR K fr xs ds H (.tup es) (.ref p) (upd H p (.tup ys)):=by have s:=Mx.bI hp (.tup ys);exact⟨s,λA hA q=>RV.fT aB ((h A q).same s),λ_ fB e=>by cases e⟩
theorem PR.rG{p:Addr}{ys:List V}{es:List Dt}(hp:H p=some (.tup ys))(h:∀A:Addr->Prop,lg K A H xs ds->ak K A H ys es):PR K fr xs ds H (.tup es) (.ref p) H:=
 ⟨aT.refl _,λA hA q=>RV.fT hp (h A q),λ_ fB e=>by cases e⟩
theorem cy:lim<=sizeLine:=by rw[Th];decide
theorem ay{b:Bool}{α:Type}{r:R α}{a:α}(h:ae b r= .ok a):b=true/\r= .ok a:=by
 cases b with
 |true=>exact⟨rfl,h⟩
 |false=>cases h
theorem eF.c8{A:Addr->Prop}{a:Addr}{xs:List V}{es:List Dt}(h:eF K A H (.ref a) (.lst es))(e:H a=some (.lst xs)):ak K A H xs es:=by obtain⟨b,ys,q,h1,h2⟩:=h;cases q;rw[e]at h1;cases h1;exact h2
theorem eF.aM{A:Addr->Prop}{a:Addr}{xs:List V}{es:List Dt}(h:eF K A H (.ref a) (.tup es))(e:H a=some (.tup xs)):ak K A H xs es:=by obtain⟨b,ys,q,h1,h2⟩:=RV.aq h;cases q;rw[e]at h1;cases h1;exact h2
end
section
variable{X:Cx}
def r2(K:Frag)(f:Dt->Dt->R Dt):R2:=λx y H Q=>∃d e z,RV K N0 H x d/\RV K N0 H y e/\f d e= .ok z/\∀v H',PR K true [x,y] [d,e] H z v H'->Q v H'
theorem kM{i:Int}(h:i.natAbs<2^64): -(2^64)<i/\i<2^64:=⋯
theorem D5:gT X (binaryOp .FloorDiv) (rI (λ_ j=>j≠0/\j.natAbs.log2<9000) λi j=>.int (i.fdiv j)):=J6 λi j _ _ _ _ _ hc q=>floordiv_int hc.1 q (.inl (PyProof.noPylong_of_log2 hc.2))
theorem D3(o:Operator):gT X (binaryOp o) (r2 X.K (gQ o)):=by
 intro pins s σ H x y v u Q I rx ry h;obtain⟨d,e,z,hx,hy,he,q⟩:=h;have G5:=cy;unfold gQ at he;split at he
 ·split at he
  ·rename_i i j;cases he;exact D2 pins s σ H x y v u Q I rx ry ⟨i,j,hx.int_inv,hy.int_inv,q _ _ (PR.sc (d:=.int _) rfl)⟩
  ·rename_i i j;obtain⟨g,he⟩:=ay he;cases he;exact p8 pins s σ H x y v u Q I rx ry ⟨i,j,hx.str_inv,hy.str_inv,QY (QQ g) G5,q _ _ (PR.sc (d:=.str _) rfl)⟩
  ·rename_i i j;obtain⟨g,he⟩:=ay he;cases he;obtain⟨a,xs,rfl,h1,_,h2⟩:=hx.lst_inv;obtain⟨b,ys,rfl,k1,_,k2⟩:=hy.lst_inv;refine d5 pins s σ H _ _ v u Q I rx ry ⟨a,b,xs,ys,rfl,rfl,h1,k1,?_,λp hp=>q _ _ (PR.p5 hp λA w=>?_)⟩
   ·rw[h2.length,k2.length];exact QY (QQ g) G5
   ·exact(eF.c8 w.1 h1).append (eF.c8 w.2.1 k1)
  ·rename_i i j;obtain⟨g,he⟩:=ay he;cases he;obtain⟨a,xs,rfl,h1,h2⟩:=hx.aq;obtain⟨b,ys,rfl,k1,k2⟩:=hy.aq;by_cases hd:xs=[]
   ·subst hd;cases h2.dE;cases rx;cases ry;obtain⟨its,r1,p1,_⟩:=I.tuple (du.of h1);obtain⟨bw,r2,p2,_⟩:=I.tuple (du.of k1);cases r1;obtain⟨⟨cls,dd,data,sl⟩,ho,hc,n,zY⟩:=p1;obtain⟨⟨Gi,yR,data2,uR⟩,ke,nU,n2,pN⟩:=p2;simp only at hc zY nU pN;subst hc zY nU pN;exact concat_meets ⟨_,ho,rfl⟩ ⟨_,ke,rfl⟩ Tc seq_tuple_add SV SU (SR _ _)
     (Mx.tuple_addW0 a b _ _ n n2 dd yR sl uR rfl) ⟨ho,ke,⟨.ref b,H,I,rfl,q _ _ (PR.rG k1 λA w=>eF.aM w.2.1 k1)⟩⟩
   ·refine AB pins s σ H (.ref a) (.ref b) v u Q I rx ry ⟨a,b,xs,ys,rfl,rfl,du.of h1,du.of k1,hd,?_,λe=>?_,λe p hp=>?_⟩
    ·rw[h2.length,k2.length];exact QY (QQ g) G5
    ·subst e;cases k2.dE;rw[Rt]at q;exact q _ _ (PR.rG h1 λA w=>eF.aM w.1 h1)
    ·exact q _ _ (PR.DS hp λA w=>(eF.aM w.1 h1).append (eF.aM w.2.1 k1))
  ·cases he
 ·split at he
  ·rename_i i j;cases he;exact D8 pins s σ H x y v u Q I rx ry ⟨i,j,hx.int_inv,hy.int_inv,q _ _ (PR.sc (d:=.int _) rfl)⟩
  ·cases he
 ·split at he
  ·rename_i i j;obtain⟨g,he⟩:=ay he;cases he;refine D6 pins s σ H x y v u Q I rx ry ⟨i,j,hx.int_inv,hy.int_inv,?_,q _ _ (PR.sc (d:=.int _) rfl)⟩;rw[Ru]at g;rcases g with g|g
   ·exact .inl (kM (QQ g))
   ·exact .inr (kM (QQ g))
  ·rename_i z j;obtain⟨g,he⟩:=ay he;cases he;rw[QO]at g;exact Mx.ub pins s σ H x y v u Q I rx ry ⟨z,j,hx.str_inv,hy.int_inv,QQ g.1,QQ g.2,q _ _ (PR.sc (d:=.str _) rfl)⟩
  ·cases he
 ·split at he
  ·rename_i i j;obtain⟨g,he⟩:=ay he;cases he;rw[QO]at g;exact D5 pins s σ H x y v u Q I rx ry ⟨i,j,hx.int_inv,hy.int_inv,⟨QQ g.1,QQ g.2⟩,q _ _ (PR.sc (d:=.int _) rfl)⟩
  ·cases he
 ·split at he
  ·rename_i i j;obtain⟨g,he⟩:=ay he;cases he;exact AD pins s σ H x y v u Q I rx ry ⟨i,j,hx.int_inv,hy.int_inv,QQ g,q _ _ (PR.sc (d:=.int _) rfl)⟩
  ·cases he
 ·split at he
  ·rename_i i j;obtain⟨g,he⟩:=ay he;cases he;rw[QO,QO]at g;have g1:=QQ g.1.1;have g2:=QQ g.1.2;have g3:=QQ g.2;exact D7 pins s σ H x y v u Q I rx ry ⟨i,j,hx.int_inv,hy.int_inv,⟨g1,⋯,g3⟩,q _ _ (PR.sc (d:=.int _) rfl)⟩
  ·cases he
 ·cases he
def rC(K:Frag)(o:CmpOp):R2:=λx y H Q=>∃d e z,RV K N0 H x d/\RV K N0 H y e/\bL o d e= .ok z/\Q (.bl z) H
mutual
theorem rH:∀{d e:Mx.D},jy d e=true->Mx.D.c7 d e
 |.int _,.int _,_=>by unfold Mx.D.c7;trivial
 |.str _,.str _,_=>by unfold Mx.D.c7;trivial
 |.tup a,.tup b,h=>by unfold Mx.D.c7;exact g6 (by simpa [jy]using h)
 |.int _,.str _,h=>by simp[jy]at h
 |.int _,.tup _,h=>by simp[jy]at h
 |.str _,.int _,h=>by simp[jy]at h
 |.str _,.tup _,h=>by simp[jy]at h
 |.tup _,.int _,h=>by simp[jy]at h
 |.tup _,.str _,h=>by simp[jy]at h
theorem g6:∀{d e:List Mx.D},gv d e=true->Mx.D.fG d e
 |[],_,_=>by unfold Mx.D.fG;trivial
 |_::_,[],_=>by unfold Mx.D.fG;trivial
 |x::xs,y::ys,h=>by simp only[gv,QO]at h;unfold Mx.D.fG;exact⟨rH h.1,g6 h.2⟩
end
theorem fV(o:CmpOp)(hu:X.A.units+150<cLine):gT X (compareOp o) (rC X.K o):=by
 intro pins s σ H x y v u Q I rx ry h;obtain⟨d,e,z,hx,hy,he,q⟩:=h;unfold bL at he;split at he
 ·obtain⟨g,he⟩:=ay he;cases he;unfold pC at g;rw[QO,QO]at g;exact Ih I.hok 100 d e x y v u X.A (Nat.le_succ_of_le (QQ g.2)) g.1.1 g.1.2 ⋯ hx hy rx ry X.prog X.w X.xe (EP X pins σ Q) ⟨.bl _,H,I,rfl,q⟩
 ·obtain⟨g,he⟩:=ay he;cases he;unfold pC at g;rw[QO,QO]at g;exact A8 I.hok 100 d e x y v u X.A (Nat.le_succ_of_le (QQ g.2)) g.1.1 g.1.2 ⋯ hx hy rx ry X.prog X.w X.xe (EP X pins σ Q) ⟨.bl _,H,I,rfl,q⟩
 ·rename_i i j;cases he;exact HS pins s σ H x y v u Q I rx ry ⟨i,j,hx.int_inv,hy.int_inv,q⟩
 ·rename_i i j;cases he;exact HR pins s σ H x y v u Q I rx ry ⟨i,j,hx.int_inv,hy.int_inv,q⟩
 ·rename_i i j;cases he;exact Mx.wZ pins s σ H x y v u Q I rx ry ⟨i,j,hx.str_inv,hy.str_inv,q⟩
 ·rename_i i j;cases he;exact HQ pins s σ H x y v u Q I rx ry ⟨i,j,hx.int_inv,hy.int_inv,q⟩
 ·rename_i i j;cases he;exact HP pins s σ H x y v u Q I rx ry ⟨i,j,hx.int_inv,hy.int_inv,q⟩
 ·split at he
  ·rename_i xs ys h1 h2;obtain⟨g,he⟩:=ay he;cases he;rw[QO]at g;rw[gz h1]at hx;rw[gz h2]at hy;exact Mx.zP I.hok 101 (.tup xs) (.tup ys) x y v u X.A (by have:=QQ g.2;unfold Mx.D.dep;omega) ⋯ (by unfold Mx.D.c7;exact g6 g.1) (RV.dv (m:=.tup xs) (by rw[ofD];exact hx)) (RV.dv (m:=.tup ys) (by rw[ofD];exact hy)) rx ry X.prog X.w X.xe (EP X pins σ Q) ⟨.bl _,H,I,rfl,by unfold Mx.D.lt at *;exact q⟩
  ·cases he
 ·cases he;cases hx.str_inv;cases hy.str_inv;obtain⟨t1,rfl⟩:=rx;obtain⟨t2,rfl⟩:=ry;exact P.in_str ⟨.bl _,H,I,rfl,q⟩
 ·cases he;cases hx.str_inv;cases hy.str_inv;obtain⟨t1,rfl⟩:=rx;obtain⟨t2,rfl⟩:=ry;exact P.notIn_str ⟨.bl _,H,I,rfl,q⟩
 ·cases he
theorem ph{ds:List Dt}{i:Int}{d:Dt}(h:tu ds i= .ok d):ka ds i=some d:=by
 unfold tu at h;split at h
 ·cases h;assumption
 ·cases h
theorem iI{K:Frag}{A:Addr->Prop}{H:Hp}{xs:List V}{ds:List Dt}{i:Int}{d:Dt}(g:ak K A H xs ds)(h:ka ds i=some d):∃v,ka xs i=some v/\RV K A H v d:=by
 unfold ka at h ⊢;rw[g.length];cases e:kH ds.length i with
 |none=>rw[e]at h;cases h
 |some j=>rw[e]at h;obtain⟨v,h1,h2⟩:=g.getD (i:=j) h;exact⟨v,h1,h2⟩
def rX(K:Frag):R2:=λx y H Q=>∃d e z,RV K N0 H x d/\RV K N0 H y e/\cw d e= .ok z/\∀v,PR K false [x,y] [d,e] H z v H->Q v H
theorem DC:FS X (rX X.K):=by
 intro value slice pins s σ H x y v u Q I rx ry h hs;obtain⟨d,e,z,hx,hy,he,q⟩:=h;unfold cw at he;split at he
 ·rename_i ds i;obtain⟨a,xs,rfl,h1,_,h2⟩:=hx.lst_inv;have nR:=ph he;obtain⟨w,k1,k2⟩:=iI h2 nR;refine rD value slice pins s σ H _ y v u Q I rx ry ⟨a,xs,i,w,rfl,hy.int_inv,cZ.of h1,k1,q w ⟨aT.refl _,λA _ q'=>?_,λz=>by cases z⟩⟩ hs;obtain⟨w',m1,m2⟩:=iI (eF.c8 q'.1 h1) nR;rw[k1]at m1;cases m1;exact m2
 ·rename_i ds i;obtain⟨a,xs,rfl,h1,h2⟩:=hx.aq;have nR:=ph he;obtain⟨w,k1,k2⟩:=iI h2 nR;refine DE value slice pins s σ H _ y v u Q I rx ry ⟨a,xs,i,w,rfl,hy.int_inv,du.of h1,k1,q w ⟨aT.refl _,λA _ q'=>?_,λz=>by cases z⟩⟩ hs;obtain⟨w',m1,m2⟩:=iI (eF.aM q'.1 h1) nR;rw[k1]at m1;cases m1;exact m2
 ·rename_i ns i;obtain⟨a,rfl,h1⟩:=hx.ib;have nR:=ph he;have e1:ka ((ns.map V.int)) i=some (o7 z)/\mW z=true:=by
   unfold ka at nR ⊢;rw[QW]at nR ⊢;cases e:kH ns.length i with
   |none=>rw[e]at nR;cases nR
   |some j=>
    rw[e]at nR;simp only[Option.bind_some,Q6]at nR ⊢;cases en:ns[j]? with
    |none=>rw[en]at nR;cases nR
    |some k=>rw[en]at nR;simp at nR;subst nR;exact⟨rfl,rfl⟩
  exact rD value slice pins s σ H _ y v u Q I rx ry ⟨a,_,i,_,rfl,hy.int_inv,h1,e1.1,q _ (PR.sc e1.2)⟩ hs
 ·rename_i w i;obtain⟨g,he⟩:=ay he;split at he
  ·rename_i c hc;cases he;exact DD value slice pins s σ H _ y v u Q I rx ry ⟨w,i,c,hx.str_inv,hy.int_inv,QY (QQ g) cy,hc,q _ (PR.sc (d:=.str _) rfl)⟩ hs
  ·cases he
 ·cases he
def rS(K:Frag):V->Option Int->Option Int->Hp->VK->Prop:=λx lo hi H Q=>∃d z,RV K N0 H x d/\fy d lo hi= .ok z/\∀v H',PR K true [x] [d] H z v H'->Q v H'
theorem ak.cut{K:Frag}{A:Addr->Prop}{H:Hp}{xs:List V}{ds:List Dt}{lo hi:Option Int}(g:ak K A H xs ds):ak K A H (kb xs lo hi) (cutD ds lo hi):=by unfold kb cutD;rw[g.length];exact(g.drop _).take _
theorem pB{xs:List V}{lo hi:Option Int}(h:HT.bH xs.length 0 lo=0/\HT.bH xs.length xs.length hi=xs.length):kb xs lo hi=xs:=by unfold kb;rw[h.1,h.2];simp
theorem mH:Fx X (λx lo hi H Q=>∃a xs,x= .ref a/\H a=some (.tup xs)/\(HT.bH xs.length 0 lo=0/\HT.bH xs.length xs.length hi=xs.length)/\Q (.ref a) H):=by
 intro pins s σ H x v vl vu lo hi sl Q I rx hs pl pu h;obtain⟨a,xs,rfl,hx,hw,q⟩:=h;cases rx;obtain⟨its,r,ht,hz⟩:=I.tuple (du.of hx);have hlen:its.toArray.size=xs.length:=by rw[QP];exact r.length.symm
 refine⟨"tuple",_,SQ.lookup,ht.typeIs,?_⟩;refine HT.fv ht hs pl pu (by rw[hlen];exact hw) ⟨.ref a,H,I,rfl,q⟩ (by rw[hlen];exact hz)
theorem gq{K:Frag}{A:Addr->Prop}{H:Hp}:∀{ns:List Int},ak K A H (ns.map V.int) (ns.map Dt.int)
 |[]=>ak.nil
 |_::_=>ak.cons RV.dZ gq
theorem qk:Fx X (rS X.K):=by
 intro pins s σ H x v vl vu lo hi sl Q I rx hs pl pu h;obtain⟨d,z,hx,he,q⟩:=h;unfold fy at he;split at he
 ·cases he;obtain⟨a,xs,rfl,h1,_,h2⟩:=hx.lst_inv;exact sG pins s σ H _ v vl vu lo hi sl Q I rx hs pl pu ⟨a,xs,rfl,cZ.of h1,λp hp=>q _ _ (PR.p5 hp λA w=>(eF.c8 w.1 h1).cut)⟩
 ·cases he;obtain⟨a,rfl,h1⟩:=hx.ib;exact sG pins s σ H _ v vl vu lo hi sl Q I rx hs pl pu ⟨a,_,rfl,h1,λp hp=>q _ _ (PR.p5 hp λA w=>ak.cut gq)⟩
 ·cases he;obtain⟨a,xs,rfl,h1,h2⟩:=hx.aq;by_cases hw:HT.bH xs.length 0 lo=0/\HT.bH xs.length xs.length hi=xs.length
  ·refine mH pins s σ H _ v vl vu lo hi sl Q I rx hs pl pu ⟨a,xs,rfl,h1,hw,q _ _ (PR.rG h1 λA w=>?_)⟩;have:=(eF.aM w.1 h1).cut (lo:=lo) (hi:=hi);rw[pB hw]at this;exact this
  ·exact EY pins s σ H _ v vl vu lo hi sl Q I rx hs pl pu ⟨a,xs,rfl,du.of h1,hw,λp hp=>q _ _ (PR.DS hp λA w=>(eF.aM w.1 h1).cut)⟩
 ·obtain⟨g,he⟩:=ay he;cases he;exact Mx.EX pins s σ H _ v vl vu lo hi sl Q I rx hs pl pu ⟨_,hx.str_inv,QY (QQ g) cy,q _ _ (PR.sc (d:=.str _) rfl)⟩
 ·cases he
theorem fK:∀{l l':List Mx.D},l.Perm l'->(l.Pairwise λa b=>Mx.D.lt b a=false)->(l'.Pairwise λa b=>Mx.D.lt b a=false)->l=l'
 |[],l',p,_,_=>(List.nil_perm.mp p).symm
 |a::t,l',p,h1,h2=>by
  cases l' with
  |nil=>exact absurd p.length_eq ∅
  |cons b t'=>
   rw[Ss]at h1 h2;have iO:a=b:=by
    have ha:a∈b::t':=p.mem_iff.mp QU;have hb:b∈a::t:=p.mem_iff.mpr QU;rcases QZ.mp ha with e|ha
    ·exact e
    rcases QZ.mp hb with e|hb
    ·exact e.symm
    exact Mx.D.dD a b (h2.1 a ha) (h1.1 b hb)
   subst iO;rw[fK (List.perm_cons a |>.mp p) h1.2 h2.2]
theorem jV(ms:List Mx.D):(aO ms).Perm ms/\(aO ms).Pairwise λa b=>Mx.D.lt b a=false:=by
 unfold aO;refine⟨List.mergeSort_perm ms iT,?_⟩;have h:=List.pairwise_mergeSort (le:=iT) (λa b c h1 h2=>by
  unfold iT at *;simp only[RH]at *;cases h3:Mx.D.lt c a with
  |false=>rfl
  |true=>
   rcases Mx.Gk.negTrans c b a h3 with h|h
   ·have h:Mx.D.lt c b=true:=h;rw[h2]at h;cases h
   ·have h:Mx.D.lt b a=true:=h;rw[h1]at h;cases h) (λa b=>by
  unfold iT;cases h:Mx.D.lt b a with
  |false=>rfl
  |true=>
   cases h':Mx.D.lt a b with
   |false=>rfl
   |true=>have:=Mx.D.lt_trans a b a h' h;rw[Mx.D.lt_irrefl]at this;cases this) ms
 exact h.imp λq=>by unfold iT at q;simpa using q
theorem yi{ms es:List Mx.D}(h:Mx.jd ms es):es=aO ms:=fK (h.1.trans (jV ms).1.symm) h.2 (jV ms).2
theorem DF{k:Mx.SK}{d:Mx.D}(h:Hn k d=true):k.ok d:=by
 unfold Hn at h;split at h
 ·have e:=Ra h;subst e;exact⟨_,_,rfl⟩
 ·have e:=Ra h;subst e;exact⟨_,_,rfl⟩
 ·have e:=Ra h;subst e;exact⟨_,_,rfl⟩
 ·have e:=Ra h;subst e;exact⟨_,rfl⟩
 ·have e:=Ra h;subst e;exact⟨_,rfl⟩
 ·cases h
theorem zx{ms:List Mx.D}(h:iC ms=true):Mx.jb ms:=by
 unfold iC at h;rw[QO,Ru]at h;obtain⟨h1,h2⟩:=h;refine⟨QQ h1,λh3=>?_⟩;rcases h2 with h2|h2
 ·have:=QQ h2;omega
 ·rw[QO,QO]at h2;obtain⟨⟨h4,h5⟩,h6⟩:=h2;refine⟨QQ h4,?_,λd hd e he=>rH (Ro.mp (Ro.mp h6 d hd) e he)⟩;obtain⟨k,_,hk⟩:=Rp.mp h5;exact⟨k,λd hd=>DF (Ro.mp hk d hd)⟩
end
end Rx
end
section
namespace Rx
open PySem PySem.W PySem.Spec PyProof.Rows L2 PySem.SeqAt
section
variable{X:Cx}
def FB:BI->Value
 |.len=>.builtin "len"|.min2=>.builtin "min"|.max2=>.builtin "max"
 |.sorted=>.builtin "sorted"|.tuple=>.type "tuple"|.list=>.type "list"|.int=>.type "int"|.dict=>.type "dict"|.str=>.type "str"|_=>.none
def EG:BI->Bool
 |.isi _=>false|.dict=>false|_=>true
theorem bb{K:Frag}{A:Addr->Prop}{H:Hp}{xs:List V}{d:Dt}(h:ak K A H xs [d]):∃x,xs=[x]/\RV K A H x d:=by obtain⟨x,r,rfl,h1,h2⟩:=h.cons_inv;rw[h2.nil_inv];exact⟨x,rfl,h1⟩
theorem sV{K:Frag}{A:Addr->Prop}{H:Hp}{xs:List V}{d e:Dt}(h:ak K A H xs [d,e]):∃x y,xs=[x,y]/\RV K A H x d/\RV K A H y e:=by obtain⟨x,r,rfl,h1,h2⟩:=h.cons_inv;obtain⟨y,rfl,h3⟩:=bb h2;exact⟨x,y,rfl,h1,h3⟩
theorem zo(b:BI)(hr:EG b=true)(hc:X.calm=true)(hu:X.A.units+150<cLine):cT X (FB b) (rP X.K true (cR b)):=by
 intro pins s σ H xs us Q I r h;obtain⟨ds,d,hx,he,q⟩:=h;have G5:=cy;unfold cR at he;split at he
 ·split at he
  ·obtain⟨g,he⟩:=ay he;cases he;obtain⟨x,rfl,h1⟩:=bb hx;exact gb pins s σ H _ us Q I r ⟨x,_,rfl,by rw[h1.str_inv];exact⟨QY (QQ g) G5,rfl⟩,q _ _ (PR.sc (d:=.int _) rfl)⟩
  ·cases he;obtain⟨x,rfl,h1⟩:=bb hx;obtain⟨a,ys,rfl,h2,_,h3⟩:=h1.lst_inv;exact gb pins s σ H _ us Q I r ⟨_,_,rfl,.inl ⟨ys,cZ.of h2,rfl⟩,by rw[h3.length];exact q _ _ (PR.sc (d:=.int _) rfl)⟩
  ·cases he;obtain⟨x,rfl,h1⟩:=bb hx;obtain⟨a,ys,rfl,h2,h3⟩:=h1.aq;exact gb pins s σ H _ us Q I r ⟨_,_,rfl,.inr ⟨ys,du.of h2,rfl⟩,by rw[h3.length];exact q _ _ (PR.sc (d:=.int _) rfl)⟩
  ·cases he;obtain⟨x,rfl,h1⟩:=bb hx;obtain⟨a,rfl,h2⟩:=h1.ib;exact gb pins s σ H _ us Q I r ⟨_,_,rfl,.inl ⟨_,h2,rfl⟩,by rw[QW];exact q _ _ (PR.sc (d:=.int _) rfl)⟩
  ·cases he
 ·split at he
  ·cases he;obtain⟨x,y,rfl,h1,h2⟩:=sV hx;exact tD hc pins s σ H _ us Q I r ⟨_,_,by rw[h1.int_inv,h2.int_inv],q _ _ (PR.sc (d:=.int _) rfl)⟩
  ·cases he
 ·split at he
  ·cases he;obtain⟨x,y,rfl,h1,h2⟩:=sV hx;exact tB hc pins s σ H _ us Q I r ⟨_,_,by rw[h1.int_inv,h2.int_inv],q _ _ (PR.sc (d:=.int _) rfl)⟩
  ·cases he
 ·split at he
  ·rename_i d0;split at he
   ·rename_i es hes;split at he
    ·rename_i ms hms;obtain⟨g,he⟩:=ay he;cases he;have cs:=zx g;obtain⟨x,rfl,h1⟩:=bb hx;have OD:=gz hms;have go:∀{a:Addr}{ys:List V},x= .ref a->(cZ X.K H a ys\/du X.K H a ys)->ak X.K N0 H ys es->wpAny (model X.prog X.w) X.A (call (FB .sorted) us) (EP X pins σ Q) X.xe s:=by intro a ys ex hs g;subst ex;rw[OD]at g;refine Mx.lq hu pins s σ H _ us Q I r ⟨a,ys,ms,rfl,hs,g.tK,cs,λm zs qs hm hz hso=>q _ _ ?_⟩;have e:=yi hso;subst e;exact PR.p5 hm λA _=>ak.p6 hz
     unfold itemsOf at hes;split at hes
     ·cases hes;obtain⟨a,ys,e1,h2,_,h3⟩:=h1.lst_inv;exact go e1 (.inl (cZ.of h2)) h3
     ·cases hes;obtain⟨a,ys,e1,h2,h3⟩:=h1.aq;exact go e1 (.inr (du.of h2)) h3
     ·cases hes;obtain⟨a,e1,h2⟩:=h1.ib;exact go e1 (.inl h2) gq
     ·cases hes
    ·cases he
   ·cases he
  ·cases he
 ·split at he
  ·cases he;obtain⟨x,rfl,h1⟩:=bb hx;obtain⟨a,ys,rfl,h2,_,h3⟩:=h1.lst_inv;exact fz pins s σ H _ us Q I r ⟨a,ys,rfl,.inl ⟨cZ.of h2,λl hl=>q _ _ (PR.DS hl λA w=>eF.c8 w.1 h2)⟩⟩
  ·cases he;obtain⟨x,rfl,h1⟩:=bb hx;obtain⟨a,ys,rfl,h2,h3⟩:=h1.aq;exact fz pins s σ H _ us Q I r ⟨a,ys,rfl,.inr ⟨du.of h2,q _ _ (PR.rG h2 λA w=>eF.aM w.1 h2)⟩⟩
  ·cases he
 ·split at he
  ·cases he;obtain⟨x,rfl,h1⟩:=bb hx;obtain⟨a,ys,rfl,h2,_,h3⟩:=h1.lst_inv;exact dU pins s σ H _ us Q I r ⟨a,ys,rfl,.inl (cZ.of h2),λl hl=>q _ _ (PR.p5 hl λA w=>eF.c8 w.1 h2)⟩
  ·cases he;obtain⟨x,rfl,h1⟩:=bb hx;obtain⟨a,ys,rfl,h2,h3⟩:=h1.aq;exact dU pins s σ H _ us Q I r ⟨a,ys,rfl,.inr (du.of h2),λl hl=>q _ _ (PR.p5 hl λA w=>eF.aM w.1 h2)⟩
  ·cases he;obtain⟨x,rfl,h1⟩:=bb hx;obtain⟨a,rfl,h2⟩:=h1.ib;exact dU pins s σ H _ us Q I r ⟨a,_,rfl,.inl h2,λl hl=>q _ _ (PR.p5 hl λA w=>gq)⟩
  ·cases he
 ·split at he
  ·cases he;obtain⟨x,rfl,h1⟩:=bb hx;exact kz pins s σ H _ us Q I r (.inl ⟨_,by rw[h1.int_inv],q _ _ (PR.sc (d:=.int _) rfl)⟩)
  ·cases he;obtain⟨x,rfl,h1⟩:=bb hx;exact kz pins s σ H _ us Q I r (.inr ⟨_,by rw[h1.bC],q _ _ (PR.sc (d:=.int _) rfl)⟩)
  ·obtain⟨g,he⟩:=ay he;split at he
   ·rename_i hn;cases he;obtain⟨x,rfl,h1⟩:=bb hx;exact Mx.ny pins s σ H _ us Q I r ⟨_,_,by rw[h1.str_inv],QQ g,hn,q _ _ (PR.sc (d:=.int _) rfl)⟩
   ·cases he
  ·cases he
 ·cases hr
 ·split at he
  ·obtain⟨g,he⟩:=ay he;cases he;obtain⟨x,rfl,h1⟩:=bb hx;exact lr pins s σ H _ us Q I r ⟨_,by rw[h1.int_inv],QQ g,q _ _ (PR.sc (d:=.str _) rfl)⟩
  ·cases he
 ·(cases hr)
end
structure Fm where
 K:Frag
 H0:Hp
 d0:Option Addr
 Ek:Nat->Prop
 P:Program
 w:World
structure Ow where
 W:Addr->Prop
 A:Addr->Prop
 dr:Option Addr
def Ow.wd(o:Ow):Addr->Prop:=λa=>o.W a\/o.dr=some a
def Ow.d(o:Ow):Addr->Prop:=λa=>o.dr=some a
def OV(Φ:Fm)(o:Ow)(H:Hp)(v:V):Dt->Prop
 |.lst ds=>∃a xs,v= .ref a/\H a=some (.lst xs)/\o.A a/\¬o.W a/\o.dr≠some a/\Φ.H0 a=none/\ak Φ.K o.A H xs ds
 |.gh ks vs=>False
 |d=>RV Φ.K o.A H v d
structure ER(Φ:Fm)(Γ:Gm)(o:Ow)(ρ:ai)(S:Sx)(σ:L2.St)(H:Hp):Prop where
 len:σ.length=ρ.length
 wa:∀a,o.W a->o.A a
 da:∀a,o.dr=some a->o.A a
 al:∀a,o.A a->∃x,H a=some x
 val:∀(i:Nat)(d:Dt),ρ[i]?=some (some d)->∃v,σ[i]?=some (some v)/\(if dX Γ i=true then OV Φ o H v d else RV Φ.K o.A H v d)
 dk:∀(i:Nat)(ks vs:List Dt),ρ[i]?=some (some (.gh ks vs))->Γ.κ=some i
 inj:∀(i j:Nat)(a:Addr)(d e:List Dt),dX Γ i=true->dX Γ j=true->ρ[i]?=some (some (.lst d))->ρ[j]?=some (some (.lst e))->σ[i]?=some (some (.ref a))->σ[j]?=some (some (.ref a))->i=j
 drw:∀a,o.dr=some a->∃ns:List Int,S=some ns/\H a=some (.lst (ns.map V.int))
 drn:o.dr=none->S=none
 drs:∀(i:Nat)(a:Addr),Γ.δ=some i->o.dr=some a->σ[i]?=some (some (.ref a))
 dr0:∀a,o.dr=some a->Φ.d0=some a\/Φ.H0 a=none
 ent:aI (λb=>Φ.d0=some b) Φ.H0 H
section
variable{Φ:Fm}{Γ:Gm}{o:Ow}{ρ:ai}{S S':Sx}{σ:L2.St}{H H':Hp}
def nD:Dt->Bool
 |.gh _ _=>false
 |_=>true
theorem OV.val{v:V}{d:Dt}(h:OV Φ o H v d)(nd:nD d=true)(wa:∀a,o.W a->o.A a)(da:∀a,o.dr=some a->o.A a):RV Φ.K o.wd H v d:=by
 have hw:∀b,o.wd b->o.A b:=λb z=>z.elim (wa b) (da b)
 cases d with
 |lst ds=>obtain⟨a,xs,rfl,h1,h2,h3,h4,_,h5⟩:=h;exact RV.d4 h1 (λz=>z.elim h3 h4) (h5.weak hw)
 |gh=>cases nd
 |_=>exact RV.weak h hw
theorem OV.one{v:V}{d:Dt}(h:OV Φ o H v d)(nd:nD d=true):eF Φ.K o.A H v d:=by
 cases d with
 |lst ds=>obtain⟨a,xs,rfl,h1,h2,h3,h4,_,h5⟩:=h;exact⟨a,xs,rfl,h1,h5⟩
 |gh=>cases nd
 |_=>exact h
theorem OV.ext{v:V}{d:Dt}(h:OV Φ o H v d)(da:∀a,o.dr=some a->o.A a)(e:aI o.d H H'):OV Φ o H' v d:=by
 cases d with
 |lst ds=>obtain⟨a,xs,rfl,h1,h2,h3,h4,h6,h5⟩:=h;exact⟨a,xs,rfl,e.kp _ _ h1 h4,h2,h3,h4,h6,h5.mono e da λ_ z=>z⟩
 |gh=>exact h.elim
 |_=>exact RV.mono e da (λ_ z=>z) h
theorem Dk.set{κ:Option Nat}{i:Nat}{d:Dt}(h:∀(i:Nat)(ks vs:List Dt),ρ[i]?=some (some (.gh ks vs))->κ=some i)(nd:nD d=true):∀(j:Nat)(ks vs:List Dt),(ρ.set i (some d))[j]?=some (some (.gh ks vs))->κ=some j:=λj ks vs hj=>by
 by_cases e:j=i
 ·subst e;rw[R4]at hj;simp only[Tb]at hj;split at hj
  ·cases hj;cases nd
  ·cases hj
 ·rw[Q4 (SL e)]at hj;exact h j ks vs hj
theorem RV.nd{K:Frag}{A:Addr->Prop}{v:V}{d:Dt}(h:RV K A H v d):nD d=true:=by
 cases d with
 |gh=>unfold RV at h;exact h.elim
 |_=>rfl
theorem ER.nd(er:ER Φ Γ o ρ S σ H){i:Nat}{d:Dt}(h:ρ[i]?=some (some d))(n:Γ.κ≠some i):nD d=true:=by
 cases d with
 |gh ks vs=>exact absurd (er.dk i ks vs h) n
 |_=>rfl
theorem ER.eg(er:ER Φ Γ o ρ S σ H):∀b,o.wd b->o.A b:=λb z=>z.elim (er.wa b) (er.da b)
theorem ER.qD(er:ER Φ Γ o ρ S σ H):∀b,o.wd b->∃x,H b=some x:=λb z=>er.al b (er.eg b z)
theorem aI.al{X:Addr->Prop}(e:aI X H H'){b:Addr}{x:HO}(h:H b=some x)(hx:X b->∃y,H' b=some y):∃y,H' b=some y:=by
 by_cases z:X b
 ·exact hx z
 ·exact⟨x,e.kp _ _ h z⟩
theorem ER.step(er:ER Φ Γ o ρ S σ H)(e:aI o.d H H')(hd:∀a,o.dr=some a->∃ns:List Int,S'=some ns/\H' a=some (.lst (ns.map V.int)))(hn:o.dr=none->S'=none):ER Φ Γ o ρ S' σ H' where
 len:=er.len
 wa:=er.wa
 da:=er.da
 al:=λa ha=>by obtain⟨x,hx⟩:=er.al a ha;exact e.al hx λz=>by obtain⟨ns,_,h⟩:=hd a z;exact⟨_,h⟩
 val:=λi d h=>by
  obtain⟨v,h1,h2⟩:=er.val i d h;refine⟨v,h1,?_⟩;by_cases m:dX Γ i=true
  ·rw[Ta m]at h2 ⊢;exact h2.ext er.da e
  ·rw[S9 m]at h2 ⊢;exact h2.mono e er.da λ_ z=>z
 dk:=er.dk
 inj:=er.inj
 drw:=hd
 drn:=hn
 drs:=er.drs
 dr0:=er.dr0
 ent:=⟨λb x h n=>by
   refine e.kp _ _ (er.ent.kp b x h n) λz=>?_
   rcases er.dr0 b z with q|q
   ·exact n q
   ·(rw[h]at q;cases q),λb xs h=>e.tp _ _ (er.ent.tp b xs h)⟩
theorem ER.re{Φ':Fm}(e:Φ'={Φ with Ek:=Φ'.Ek})(er:ER Φ Γ o ρ S σ H):ER Φ' Γ o ρ S σ H:=by
 rw[e];refine⟨er.len,er.wa,er.da,er.al,λi d h=>?_,er.dk,er.inj,er.drw,er.drn,er.drs,er.dr0,er.ent⟩;obtain⟨v,h1,h2⟩:=er.val i d h;refine⟨v,h1,?_⟩;by_cases m:dX Γ i=true
 ·rw[Ta m]at h2 ⊢;cases d<;>exact h2
 ·rw[S9 m]at h2 ⊢;exact h2
theorem ER.grow(er:ER Φ Γ o ρ S σ H)(s:aT H H'):ER Φ Γ o ρ S σ H':=er.step (aI.of_same s) (λa h=>by
 obtain⟨ns,h1,h2⟩:=er.drw a h;exact⟨ns,h1,s _ _ h2⟩) er.drn
end
def mR(Ek:Nat->Prop){α:Type}(r:R α)(P:α->Prop):Prop:=match r with
 |.ok a=>P a
 |.ex k=>Ek k
 |.bad=>False
section
variable{Ek:Nat->Prop}{α β:Type}
theorem aa{r:R α}{f:α->R β}{P:β->Prop}:mR Ek (r.bind f) P↔mR Ek r λa=>mR Ek (f a) P:=by cases r<;>rfl
theorem af{r:R α}{P Q:α->Prop}(h:mR Ek r P)(hq:∀a,r= .ok a->P a->Q a):mR Ek r Q:=by
 cases r with
 |ok a=>exact hq a rfl h
 |ex k=>exact h
 |bad=>exact h
theorem aG{b:Bool}{r:R α}{P:α->Prop}(h:mR Ek (ae b r) P):b=true/\mR Ek r P:=by
 cases b with
 |true=>exact⟨rfl,h⟩
 |false=>exact h.elim
end
structure EO(K:Frag)(fr:Nat->Bool)(o:Ow)(c:C)(H:Hp)(d:Dt)(v:V)(H':Hp):Prop where
 ext:aI o.d H H'
 val:RV K o.wd H' v d
 mX:lk c=0->RV K o.A H' v d
 Bk:lk c<=1->eF K o.A H' v d
 dR:fresh fr c=true->∀ds,d= .lst ds->∃a xs,v= .ref a/\H a=none/\H' a=some (.lst xs)/\ak K (λb=>o.wd b\/b=a) H' xs ds/\(lk c=0->ak K (λb=>o.A b\/b=a) H' xs ds)
structure Oh(K:Frag)(o:Ow)(cs:Cs)(H:Hp)(ds:List Dt)(vs:List V)(H':Hp):Prop where
 ext:aI o.d H H'
 val:ak K o.wd H' vs ds
 mX:oZ cs=0->ak K o.A H' vs ds
 Bk:oZ cs<=1->lg K o.A H' vs ds
section
variable(Φ:Fm)(Γ:Gm)(F:FT)(fr:Nat->Bool)
inductive bf(c:C)(σ:L2.St)(H:Hp)(Q:VK):Prop
 |mk (o:Ow) (ρ:ai) (S:Sx) (e:ER Φ Γ o ρ S σ H) (m:mR Φ.Ek (ev F c ρ S) λp=>∀v H',EO Φ.K fr o c H p.1 v H'->ER Φ Γ o ρ p.2 σ H'->Q v H'):bf c σ H Q
inductive dP(c:C)(σ:L2.St)(H:Hp)(Q:Bool->Hp->Prop):Prop
 |mk (o:Ow) (ρ:ai) (S:Sx) (e:ER Φ Γ o ρ S σ H) (m:mR Φ.Ek (aZ F c ρ S) λp=>∀H',aI o.d H H'->ER Φ Γ o ρ p.2 σ H'->Q p.1 H'):dP c σ H Q
inductive kl(cs:Cs)(σ:L2.St)(H:Hp)(Q:List V->Hp->Prop):Prop
 |mk (o:Ow) (ρ:ai) (S:Sx) (e:ER Φ Γ o ρ S σ H) (m:mR Φ.Ek (c6 F cs ρ S) λp=>∀vs H',Oh Φ.K o cs H p.1 vs H'->ER Φ Γ o ρ p.2 σ H'->Q vs H'):kl cs σ H Q
inductive sU(cs:Cs)(σ:L2.St)(H:Hp)(Q:Bool->Hp->Prop):Prop
 |mk (o:Ow) (ρ:ai) (S:Sx) (e:ER Φ Γ o ρ S σ H) (m:mR Φ.Ek (fu F cs ρ S) λp=>∀H',aI o.d H H'->ER Φ Γ o ρ p.2 σ H'->Q p.1 H'):sU cs σ H Q
end
structure Wk(K:Frag)(A X:Addr->Prop)(J:It)(H:Hp)(ds:List Dt):Prop where
 go:∀(i:Nat)(H1:Hp),i<ds.length->aI X H H1->J.go i H1
 stop:∀(H1:Hp),aI X H H1->J.stop ds.length H1
 yld:∀(i:Nat)(x:V)(H1 H2:Hp),i<ds.length->aI X H H1->J.yld i H1 x H2->aT H1 H2/\∃d,ds[i]?=some d/\∀B:Addr->Prop,(∀b,B b->A b\/H b=none)->RV K B H2 x d
structure IO(K:Frag)(o:Ow)(it:o8)(nl:Bool)(H:Hp)(ds:List Dt)(J:It)(H':Hp):Prop where
 ext:aI o.d H H'
 w1:tX it<=1->Wk K o.A o.d J H' ds
 w0:tX it=0->Wk K o.A o.A J H' ds
 w2:nl=true->Wk K o.A o.A J H' ds
inductive oK(Φ:Fm)(Γ:Gm)(F:FT)(it:o8)(σ:L2.St)(H:Hp)(Q:It->Hp->Prop):Prop
 |mk (o:Ow) (ρ:ai) (S:Sx) (e:ER Φ Γ o ρ S σ H) (m:mR Φ.Ek (dW F it ρ S) λp=>∀J H',IO Φ.K o it (jn F it ρ S) H p.1 J H'->ER Φ Γ o ρ p.2 σ H'->Q J H'):oK Φ Γ F it σ H Q
structure GX(g:G)(Γ:Gm)(X:Cx):Prop where
 N:X.N=Γ.N
 nd:Γ.N.Nodup
 vis:∀x,yC (Γ.names.lookup x)=true->Cv X.env.scope x
 loc:∀x,wG (Γ.names.lookup x)=true->Loc X.env.scope x/\(X.fn x=true\/X.env.scope.names.lookup x=some .local)
 gl:∀x,qW (Γ.names.lookup x)=true->Gl X x
 fre:∀x,(Γ.names.lookup x=some .cell\/Γ.names.lookup x=some .free)->(X.env.scope.names.lookup x=some .cell\/X.env.scope.names.lookup x=some .free)
 calm:X.calm=true
 un:X.A.units+150<cLine
 con:∀x d,g.cons.lookup x=some d->∃u,mW d=true/\X.mg x=some u/\RelV (o7 d) u
 bl:∀x∈g.bls,X.mg x=none
structure FO(K:Frag)(W:Addr->Prop)(dr:Option Addr)(fr:Bool)(H:Hp)(d:Dt)(S':Sx)(v:V)(H':Hp):Prop where
 ext:aI (λb=>dr=some b) H H'
 val:RV K W H' v d
 drw:∀a,dr=some a->∃ns:List Int,S'=some ns/\H' a=some (.lst (ns.map V.int))
 dR:fr=true->∀ds,d= .lst ds->∃a xs,v= .ref a/\H a=none/\H' a=some (.lst xs)/\ak K (λb=>W b\/b=a) H' xs ds
def N5(K:Frag)(xv:Nat->Value)(F:List Dt->Sx->R (Dt×Sx))(np:Nat)(fr aR:Bool):Sp:=λvs H Q E=>
 vs.length=np/\∃(W:Addr->Prop)(dr:Option Addr)(args:List Dt)(S:Sx)(uT:List V),
  (if aR=true then∃(a:Addr)(ns:List Int),vs= .ref a::uT/\dr=some a/\W a/\S=some ns/\H a=some (.lst (ns.map V.int)) else vs=uT/\dr=none/\S=none)/\
  ak K W H uT args/\(∀a,W a->∃x,H a=some x)/\
  match F args S with
  |.ok p=>∀v H',FO K W dr fr H p.1 p.2 v H'->Q v H'
  |.ex k=>∀H',aI (λb=>dr=some b) H H'->E (xv k) none H'
  |.bad=>False
def jc(Φ:Fm)(xv:Nat->Value):XK:=λv _ H'=>∃k,v=xv k/\Φ.Ek k/\aI (λb=>Φ.d0=some b) Φ.H0 H'
structure FX(g:G)(xv:Nat->Value)(CX:j9)(P:Program)(w:World)(K:Frag)(mg:Str->Option Value)(base:Heap)(n k:Nat)(F:FT):Prop where
 fn:∀x f np eK aR,pI x g.fns=some (f,np,eK,aR)->∃(fa:Addr)(fd:FuncData)(ps:List Str),ps.length=np/\mg x=some (.ref fa)/\PySem.W.keepIn K (.ref fa)=true/\
  gS P w K mg base CX k fa fd ps (N5 K xv (F f) np (g.fr f) aR)/\(∀j,j<=eK.length->∃ds,au ((eK.drop j).map o7) ds/\Binds K fd ps ds)/\eK.all mW=true
end Rx
end
section
namespace Rx
open PySem PySem.W PySem.Spec PyProof.Rows L2
section
variable{F:FT}{ρ:ai}{S:Sx}
theorem si{d}:ev F (.con d) ρ S= .ok (d,S):=rfl
theorem iZ{i}:ev F (.var i) ρ S=(bp ρ i).bind λd=>.ok (d,S):=rfl
theorem mv{i}:ev F (.mvr i) ρ S=(bp ρ i).bind λd=>.ok (d,S):=rfl
theorem d8{o}{a}{b}:ev F (.bin o a b) ρ S=(ev F a ρ S).bind λx=>(ev F b ρ x.2).bind λy=>(gQ o x.1 y.1).bind λd=>.ok (d,y.2):=rfl
theorem A4{o}{a}{b}:ev F (.cmp o a b) ρ S=(ev F a ρ S).bind λx=>(ev F b ρ x.2).bind λy=>(bL o x.1 y.1).bind λd=>.ok (.bl d,y.2):=rfl
theorem Ez{o}{p}{a}{b}{c}:ev F (.ch o p a b c) ρ S=(ev F a ρ S).bind λx=>(ev F b ρ x.2).bind λy=>(bL o x.1 y.1).bind λd=>if d then(ev F c ρ y.2).bind λz=>(bL p y.1 z.1).bind λe=>.ok (.bl e,z.2) else .ok (.bl false,y.2):=rfl
theorem A5{a}:ev F (.neg a) ρ S=(ev F a ρ S).bind λx=>match x.1 with|.int i=>.ok (.int (-i),x.2)|_=>.bad:=rfl
theorem EA{a}:ev F (.nt a) ρ S=(ev F a ρ S).bind λx=>match x.1 with|.bl b=>.ok (.bl !b,x.2)|_=>.bad:=rfl
theorem A3{a}{b}:ev F (.and a b) ρ S=(ev F a ρ S).bind λx=>match x.1 with|.bl true=>(ev F b ρ x.2).bind λy=>(match y.1 with|.bl c=>.ok (.bl c,y.2)|_=>.bad)|.bl false=>.ok (.bl false,x.2)|_=>.bad:=rfl
theorem EB{a}{b}:ev F (.or a b) ρ S=(ev F a ρ S).bind λx=>match x.1 with|.bl false=>(ev F b ρ x.2).bind λy=>(match y.1 with|.bl c=>.ok (.bl c,y.2)|_=>.bad)|.bl true=>.ok (.bl true,x.2)|_=>.bad:=rfl
theorem sj{a}{b}:ev F (.idx a b) ρ S=(ev F a ρ S).bind λx=>(ev F b ρ x.2).bind λy=>(cw x.1 y.1).bind λd=>.ok (d,y.2):=rfl
theorem xP{a}{l}:ev F (.sliL a l) ρ S=(ev F a ρ S).bind λx=>(ev F l ρ x.2).bind λy=>match y.1 with|.int i=>(fy x.1 (some i) none).bind λd=>.ok (d,y.2)|_=>.bad:=rfl
theorem xO{a}{h}:ev F (.sliH a h) ρ S=(ev F a ρ S).bind λx=>(ev F h ρ x.2).bind λy=>match y.1 with|.int i=>(fy x.1 none (some i)).bind λd=>.ok (d,y.2)|_=>.bad:=rfl
theorem oA{a}{l}{h}:ev F (.sliB a l h) ρ S=(ev F a ρ S).bind λx=>(ev F l ρ x.2).bind λy=>match y.1 with|.int i=>(ev F h ρ y.2).bind λz=>(match z.1 with|.int j=>(fy x.1 (some i) (some j)).bind λd=>.ok (d,z.2)|_=>.bad)|_=>.bad:=rfl
theorem mw{es}:ev F (.tup es) ρ S=(c6 F es ρ S).bind λx=>ae (decide (x.1.length<=lim)) (.ok (.tup x.1,x.2)):=rfl
theorem fj{es}:ev F (.lst es) ρ S=(c6 F es ρ S).bind λx=>ae (decide (x.1.length<=lim)) (.ok (.lst x.1,x.2)):=rfl
theorem gF{f}{es}{ds}:ev F (.call f es ds) ρ S=(c6 F es ρ S).bind λx=>(F f (x.1++ds) none).bind λy=>.ok (y.1,x.2):=rfl
theorem uo{f}{es}:ev F (.callD f es) ρ S=ae S.isSome ((c6 F es ρ S).bind λx=>match x.2 with|some s=>F f x.1 (some s)|none=>.bad):=rfl
theorem jR{b}{es}:ev F (.bi b es) ρ S=(c6 F es ρ S).bind λx=>(cR b x.1).bind λd=>.ok (d,x.2):=rfl
theorem oz{cap}{it}{tg}{ts}{e}:ev F (.comp cap it tg ts e) ρ S=(dW F it ρ S).bind λx=>ae (decide (x.1.length<=lim)&&(decide (tX it<=1)||jn F it ρ S)) ((cU (dQ tg (fu F ts) (λρ1 S1=>(ev F e ρ1 S1).bind λy=>ae (cG e y.1) (.ok ([y.1],y.2))) (jh cap ρ)) x.1 x.2).bind λq=>.ok (.lst q.1,q.2)):=rfl
theorem A0{a}:aZ F (.nt a) ρ S=(aZ F a ρ S).bind λx=>.ok (!x.1,x.2):=rfl
theorem xJ{a}{b}:aZ F (.and a b) ρ S=(aZ F a ρ S).bind λx=>if x.1 then aZ F b ρ x.2 else .ok (false,x.2):=rfl
theorem A2{a}{b}:aZ F (.or a b) ρ S=(aZ F a ρ S).bind λx=>if x.1 then .ok (true,x.2) else aZ F b ρ x.2:=rfl
theorem xK{o}{a}{b}:aZ F (.cmp o a b) ρ S=(ev F a ρ S).bind λx=>(ev F b ρ x.2).bind λy=>(bL o x.1 y.1).bind λd=>.ok (d,y.2):=rfl
theorem sg{o}{p}{a}{b}{c}:aZ F (.ch o p a b c) ρ S=(ev F a ρ S).bind λx=>(ev F b ρ x.2).bind λy=>(bL o x.1 y.1).bind λd=>if d then(ev F c ρ y.2).bind λz=>(bL p y.1 z.1).bind λe=>.ok (e,z.2) else .ok (false,y.2):=rfl
theorem xN{i}:aZ F (.var i) ρ S=(bp ρ i).bind λd=>(bY d).bind λb=>.ok (b,S):=rfl
theorem ow{i}:aZ F (.mvr i) ρ S=(bp ρ i).bind λd=>(bY d).bind λb=>.ok (b,S):=rfl
theorem um{f}{es}{ds}:aZ F (.call f es ds) ρ S=(c6 F es ρ S).bind λx=>(F f (x.1++ds) none).bind λy=>(bY y.1).bind λb=>.ok (b,x.2):=rfl
theorem qg{f}{es}:aZ F (.callD f es) ρ S=ae S.isSome ((c6 F es ρ S).bind λx=>match x.2 with|some s=>(F f x.1 (some s)).bind λy=>(bY y.1).bind λb=>.ok (b,y.2)|none=>.bad):=rfl
theorem AZ{b}{es}:aZ F (.bi b es) ρ S=(c6 F es ρ S).bind λx=>(cR b x.1).bind λd=>(bY d).bind λb=>.ok (b,x.2):=rfl
theorem xM{a}{b}:aZ F (.idx a b) ρ S=(ev F a ρ S).bind λx=>(ev F b ρ x.2).bind λy=>(cw x.1 y.1).bind λd=>(bY d).bind λb=>.ok (b,y.2):=rfl
theorem gG:c6 F (.nil) ρ S= .ok ([],S):=rfl
theorem bz{c}{cs}:c6 F (.cons c cs) ρ S=(ev F c ρ S).bind λx=>(c6 F cs ρ x.2).bind λy=>.ok (x.1::y.1,y.2):=rfl
theorem kQ:fu F (.nil) ρ S= .ok (true,S):=rfl
theorem oy{c}:fu F (.cons c .nil) ρ S=aZ F c ρ S:=rfl
theorem kP{c}:dW F (.seq c) ρ S=(ev F c ρ S).bind λx=>match fY x.1 with|some ds=>.ok (ds,x.2)|none=>.bad:=rfl
theorem qf{c}:dW F (.rng1 c) ρ S=(ev F c ρ S).bind λx=>match x.1 with|.int j=>ae (decide (j<=lim)&&decide (-lim<=j)) (.ok (cn 0 j.toNat,x.2))|_=>.bad:=rfl
theorem Ey{a}{b}:dW F (.rng2 a b) ρ S=(ev F a ρ S).bind λx=>(ev F b ρ x.2).bind λy=>match x.1,y.1 with|.int i,.int j=>ae (decide (i.natAbs<=lim)&&decide (j.natAbs<=lim)) (.ok (cn i (j-i).toNat,y.2))|_,_=>.bad:=rfl
theorem jQ{a}{b}{c}:dW F (.rng3 a b c) ρ S=(ev F a ρ S).bind λx=>(ev F b ρ x.2).bind λy=>(ev F c ρ y.2).bind λz=>match x.1,y.1,z.1 with|.int i,.int j,.int k=>ae (decide (i.natAbs<=lim)&&decide (j.natAbs<=lim)&&(decide (1<=k)&&decide (k<=1000))) (.ok (ie i k (Mx.eV i j k),z.2))|_,_,_=>.bad:=rfl
theorem uk{a}{b}:dW F (.zip a b) ρ S=(ev F a ρ S).bind λx=>(ev F b ρ x.2).bind λy=>match bX x.1,bX y.1 with|some xs,some ys=>.ok (fZ xs ys,y.2)|_,_=>.bad:=rfl
theorem qe{c}:dW F (.enum c) ρ S=(ev F c ρ S).bind λx=>match bX x.1 with|some ds=>.ok (vD 0 ds,x.2)|none=>.bad:=rfl
theorem i7{i}{c}:ex F (.asg i c) ρ S=(ev F c ρ S).bind λx=>ae (cG c x.1) (.ok (.next,ρ.set i (some x.1),x.2)):=rfl
theorem jS{i}{c}:ex F (.asgM i c) ρ S=(ev F c ρ S).bind λx=>ae (iz c x.1) (.ok (.next,ρ.set i (some x.1),x.2)):=rfl
theorem eS{is}{c}:ex F (.asgT is c) ρ S=(ev F c ρ S).bind λx=>ae (cG c x.1) ((sF is x.1 ρ).bind λρ1=>.ok (.next,ρ1,x.2)):=rfl
theorem sr{i}{c}:ex F (.aug i c) ρ S=(bp ρ i).bind λd=>(ev F c ρ S).bind λx=>match d,x.1 with|.int a,.int b=>.ok (.next,ρ.set i (some (.int (a+b))),x.2)|_,_=>.bad:=rfl
theorem oB{i}{k}{v}:ex F (.uw i k v) ρ S=ae (isLE ρ i) ((ev F v ρ S).bind λx=>(ev F k ρ x.2).bind λy=>ae (cG v x.1) ((jz ρ i).bind λds=>match y.1 with|.int n=>(match kH ds.length n with|some j=>.ok (.next,ρ.set i (some (.lst (ds.set j x.1))),y.2)|none=>.bad)|_=>.bad)):=rfl
theorem sk{i}{c}:ex F (.app i c) ρ S=ae (isLE ρ i) ((ev F c ρ S).bind λx=>ae (cG c x.1) ((jz ρ i).bind λds=>ae (decide (ds.length<=lim)) (.ok (.next,ρ.set i (some (.lst (ds++[x.1]))),x.2)))):=rfl
theorem A6{i}:ex F (.clr i) ρ S=(jz ρ i).bind λ_=>.ok (.next,ρ.set i (some (.lst [])),S):=rfl
theorem su{c}:ex F (.FC c) ρ S=(ev F c ρ S).bind λx=>.ok (.next,ρ,x.2):=rfl
theorem my{c}:ex F (.ret c) ρ S=(ev F c ρ S).bind λx=>.ok (.ret x.1,ρ,x.2):=rfl
theorem mx{t}{a}{b}:ex F (.ifs t a b) ρ S=(aZ F t ρ S).bind λx=>if x.1 then aE F a ρ x.2 else aE F b ρ x.2:=rfl
theorem xQ{tg}{it}{b}:ex F (.fr tg it b) ρ S=(dW F it ρ S).bind λx=>ae (decide (tX it=0)||jn F it ρ S) (forL tg (aE F b) x.1 ρ x.2):=rfl
theorem hU{t}{b}:ex F (.wh t b) ρ S=iB (aZ F t) (aE F b) iA ρ S:=rfl
theorem xR{k}{vs}:ex F (.rs k vs) ρ S=ae (vs.all (tZ ρ)) (.ex k):=rfl
theorem xT{b}{qp}:ex F (.tr b qp) ρ S=ae S.isNone (match aE F b ρ S with|.ex k=>(match qp[k]? with|some (some v)=>.ok (.ret (.bl v),ρ,S)|_=>.bad)|r=>r):=rfl
theorem aV{t}{ts}:aE F (.cons t ts) ρ S=(ex F t ρ S).bind λp=>match p.1 with|.next=>aE F ts p.2.1 p.2.2|f=>.ok (f,p.2):=rfl
end
end Rx
end
section
namespace L2
open PySem PySem.Spec PyProof.Rows
@[reducible]def CM:List Value:=[.type "ValueError",.type "Exception",.type "BaseException",.type "object"]
theorem wQ{K:PySem.W.Frag}{h h':Heap}{N:Addr}{m:Str->Option Value}(X:K.In h)(X':K.In h')(ok:PySem.W.nsOkIn K N=true)(G:h.Ns N m):h'.Ns N m:=by
 unfold PySem.W.nsOkIn at ok;split at ok
 ·rename_i lk;obtain⟨ob,es,ep,e1,rest⟩:=G;have e2:=X _ _ lk;rw[e1]at e2;cases e2;exact⟨_,es,ep,X' _ _ lk,rest⟩
 ·cases ok
theorem tM{K:PySem.W.Frag}{C:Addr}{BA:List Value}{newId:String}{h:Heap}(X:K.In h)(q:PySem.W.excIn K C BA newId=true):
  ∃(bm:List Value)(ns:Addr)(nm qn:Str)(bs:List Value)(hd:Bool)(sn:List Str)(sub:List Value)(ab:Bool)(col:Option Bool)(dd:Option Addr)(k0 k1 k2 k3 k5:Option Value)(mN:Str->Option Value),mN "__init__"=none/\
   ∀h':Heap,K.In h'->h'.get? C=some (excClassObj nm qn C ns bs bm hd sn sub ab col dd k0 k1 k2 k3 k5 newId)/\h'.Ns ns mN/\OwnTail h' BA bm:=by
 unfold PySem.W.excIn at q;split at q
 ·rename_i KQ cdt MK L8;split at q
  ·rename_i D tl s0 s1 s2 s3 idn s5 em es;rw[QO,QO,QO,QO,QO]at q;obtain⟨⟨⟨⟨⟨q1,q2⟩,q3⟩,q4⟩,q5⟩,q6⟩:=q;have d1:D=C:=Ra q1;have d2:idn=newId:=Ra q2;have d3:cdt.hasDel=false:=by simpa using q3
   have d6:=Ra q6;subst d1 d2;cases cdt with
   |mk nm bs mro ns qn hd sn sub ab col del=>
    have e1:mro=Value.ref D::tl:=em;have e2:del=false:=d3;subst e1 e2;have e3:MK=#[s0,s1,s2,s3,some (Value.builtin idn),s5]:=by
     cases MK with
     |mk l=>have e:l=_:=es;rw[e]
    subst e3;refine⟨tl,ns,nm,qn,bs,hd,sn,sub,ab,col,KQ,s0,s1,s2,s3,s5,h.nsMap ns,PySem.W.nsMap_none_of_in X q5 d6,λh' X'=>⟨X' _ _ L8,?_,PySem.W.tail_of_in X' q4⟩⟩;exact wQ X X' q5 (Heap.Ns.of_isNs (PySem.W.isNs_of_in X q5))
  ·cases q
 ·cases q
def PM(X:Cx)(e:Expr)(p:St->Prop):Prop:=∀(pins:List (Addr×Obj))(s:Shared)(σ:St)(H:Hp)(Q:Value->Shared->Prop),Inv X pins σ H s->p σ->(∀u s',s'.heap=s.heap->Inv X pins σ H s'->Q u s')->wpAny (model X.prog X.w) X.A (eval e X.env) Q X.xe s
def FW(X:Cx)(e:Expr)(p:St->Prop):Prop:=∀(pins:List (Addr×Obj))(s:Shared)(σ:St)(H:Hp)(Q:Value->Shared->Prop),Inv X pins σ H s->p σ->(∀(y:Str)t s',y.length<=1000->s'.heap=s.heap->Inv X pins σ H s'->Q (.str y t) s')->wpAny (model X.prog X.w) X.A (eval e X.env) Q X.xe s
def FY(X:Cx)(es:List Expr)(p:St->Prop):Prop:=∀(out:Str)(pins:List (Addr×Obj))(s:Shared)(σ:St)(H:Hp)(Q:Value->Shared->Prop),Inv X pins σ H s->p σ->out.length+1000*es.length<=sizeLine->(∀u s',s'.heap=s.heap->Inv X pins σ H s'->Q u s')->
 wpAny (model X.prog X.w) X.A (joinParts out (evalEach es X.env)) Q X.xe s
theorem oN{X:Cx}{pins:List (Addr×Obj)}{σ:St}{H:Hp}{s:Shared}(I:Inv X pins σ H s)(k:Nat):Inv X pins σ H {s with toks:=k}:=I.tok k
section
variable{X:Cx}
theorem Eo{x:Str}{j pos}{p:St->Prop}:PM X (.Constant (.str x) j pos) p:=λpins s σ H Q I _ q=>Calls.Constant_str (q _ _ rfl (I.tok _))
theorem AM{x:Str}{j pos}{p:St->Prop}(h:x.length<=1000):FW X (.Constant (.str x) j pos) p:=λpins s σ H Q I _ q=>Calls.Constant_str (q _ _ _ h rfl (I.tok _))
theorem jX(n:Nat)(h:n<10^19):(Str.ofString (toString (n:Int))).length<=1000:=by have e:=int_text_length_le10 (a:=(n:Int)) (k:=19) ‹_› ⋯;rw[PySem.ofString_length];omega
theorem log2_small{n:Nat}(h:n<10^19):((n:Int)).natAbs.log2<1920:=by
 have e:((n:Int)).natAbs=n:=rfl;rw[e];by_cases hz:n=0
 ·subst hz;decide
 ·have:=(Nat.log2_lt hz (k:=1920)).mpr (Q8 h (by decide +kernel));exact this
theorem AN{i:Nat}{x:Str}{pos C7:Pos}(hN:X.N[i]?=some x)(hv:Cv X.env.scope x)(hd:(x==("__debug__":Str))=false)(uL:(x==("__classdict__":Str))=false):FW X (.FormattedValue (.Name x pos) (-1) none C7) (λσ=>∃n:Nat,σ[i]?=some (some (.int n))/\n<10^19):=by
 intro pins s σ H Q I ⟨n,h1,h2⟩ q;obtain⟨m,hn,hl⟩:=I.loc;obtain⟨u,r,l⟩:=hl i x _ hN h1 hv;obtain⟨t,rfl⟩:=r;have fin:wpAny (model X.prog X.w) X.A (formatField (.int n t) Str.empty) Q X.xe s:=formatField_int_small (log2_small h2) (q _ _ _ (jX n h2) rfl (oN I _));rcases l with ⟨hk,hm⟩|⟨hk,c,hc,ju⟩
 ·exact FormattedValue_plain (wpAny_Name (wpAny_loadName_local I.ok.kind hk hn hm fin) hd)
 ·rcases hk with hk|hk
  ·exact FormattedValue_plain (wpAny_Name (wpAny_loadName_cell I.ok.kind hk hc ju fin) hd)
  ·exact FormattedValue_plain (wpAny_Name (wpAny_loadName_free I.ok.kind hk hc ju fin uL) hd)
theorem xx{n:Nat}{u:Value}{x:Str}{pos C7:Pos}{p:St->Prop}(hg:Gl X x)(hm:X.mg x=some u)(r:RelV (.int n) u)(h2:n<10^19)(hd:(x==("__debug__":Str))=false):FW X (.FormattedValue (.Name x pos) (-1) none C7) p:=by intro pins s σ H Q I _ q;obtain⟨t,rfl⟩:=r;exact FormattedValue_plain (gu I hg hm (formatField_int_small (log2_small h2) (q _ _ _ (jX n h2) rfl (oN I _))) hd)
theorem AO{p:St->Prop}:FY X [] p:=λout pins s σ H Q I _ hl q=>joinParts_nil (q _ _ rfl (I.tok _)) ‹hl›
theorem xy{e:Expr}{es:List Expr}{p:St->Prop}(he:FW X e p)(ht:FY X es p)(hs:evalEach (e::es) X.env=eval e X.env::evalEach es X.env):FY X (e::es) p:=by intro out pins s σ H Q I hp hl q;rw[hs];refine joinParts_cons (he pins s σ H _ I hp λy t s' hy hh I'=>?_);have e1:(out++y).length=out.length+y.length:=strLen_append ..;rw[Q5]at hl;refine⟨by rw[e1];omega,ht (out++y) pins s' σ H Q I' hp (by rw[e1];omega) λu s'' h2 I2=>q u s'' (h2.trans hh) I2⟩
theorem uf{e1 e2:Expr}{es:List Expr}{p:St->Prop}{pos:Pos}(h:FY X (e1::e2::es) p)(hl:(e1::e2::es).length<=100):PM X (.JoinedStr (e1::e2::es) pos) p:=by intro pins s σ H Q I hp q;have hz:Str.empty.length=0:=rfl;have yZ:=Th;exact JoinedStr_many (h Str.empty pins s σ H Q I hp ⋯ q)
end
def EZ(cls:Value)(E:XK)(p:St->Prop):TS:=λ_ σ H=>p σ/\E cls none H
section
variable{X:Cx}{E:XK}{C:Addr}{c:Str}{arg:Expr}{p:St->Prop}{np dz pos:Pos}
theorem As{N:Nat}{H:Hp}{h h':Heap}{a:Addr}{cls:Value}{args:List Value}(hN:N<=h.objs.size)(fresh:∀b,h.objs.size<=b->H b=none)(dd:Mx.Dd h h')(m:Heap.MadeExcOf h h' a cls args):f6 N cls a H h':=by
 obtain⟨t,e1,e2,e3⟩:=m.there;have ge:h.objs.size<=a:=by
  rcases Nat.lt_or_ge a h.objs.size with hl|hl
  ·have:=dd.none a hl m.new;rw[e1]at this;cases this
  ·exact hl
 refine⟨QY hN ge,fresh a ge,⟨_,_,e1,⟨rfl,rfl⟩,rfl,.inl rfl⟩,λT z=>?_⟩;obtain⟨o,vs,z1,z2,z3⟩:=z;rw[e1]at z1;cases z1;cases z2;cases z3
theorem xD(hh:X.A.handled=none)(BR:X.pn=[])(hg:Gl X c)(hm:X.mg c=some (.ref C))(hC:PySem.W.excIn X.K C CM "ValueError.__new__"=true)(hx:∀e s',gP X E e s'->X.xe e s')(he:PM X arg p)
  (tS:starEach [arg] X.env=[(false,eval arg X.env)]) (nW:(c==("__debug__":Str))=false):PS X (.Raise (some (.Call (.Name c np) [arg] [] dz)) none pos) (EZ (.ref C) E p):=by
 intro pins s σ H D I h;obtain⟨h1,h2⟩:=h;obtain⟨bm,ns,nm,qn,bs,hd,sn,sub,ab,col,dd,k0,k1,k2,k3,k5,mN,Pu,F⟩:=tM I.iS hC;have T0:=(F _ I.iS).2.2;have nT:bm.contains (.type "BaseException")=true:=T0.hasType PySem.F.excBase_ValueError.hasBase;have j7:(backTo dz (starEach [arg] X.env)).any (·.1)=false:=by rw[tS];rfl
 refine Mx.kn (Tp (Q:=λ_ _=>False) (E:=λe s'=>X.xe e s'\/∃s2 a args,e= .ref a/\s2.heap=s.heap/\Inv X pins σ H s2/\s'={s2 with heap:=s'.heap}/\Heap.MadeExcOf s2.heap s'.heap a (.ref C) args) ?_ (λ_ _ z=>z.elim) λe s' z hd=>?_)
 ·refine wpAny_Raise_call_subT (C:=C) (nm:=nm) (q:=qn) (N:=ns) (bs:=bs) (bm:=bm) (hdct:=hd) (sn:=sn) (sub:=sub) (ab:=ab) (col:=col) (dd:=dd) (k0:=k0) (k1:=k1) (k2:=k2) (k3:=k3) (k5:=k5) PySem.F.excBase_ValueError nT hh j7 Pu (gu I hg hm ⟨rfl,?_⟩ nW);rw[tS];refine Calls.evalArgs_plain ?_;refine Calls.spliced_cons (Tp (he pins s σ H (λu s'=>s'.heap=s.heap/\Inv X pins σ H s') I h1 λu s' a b=>⟨a,b⟩) (λu s1⟨Pf,I1⟩=>?_) λ_ _ z=>.inl z);refine Calls.spliced_nil ⟨rfl,(by show 1<=sizeLine;decide),(F _ I1.iS).1,(F _ I1.iS).2.1,(F _ I1.iS).2.2,λh' e m=>.inr ⟨s1,e,_,rfl,Pf,I1,rfl,m⟩⟩
 ·rcases z with z|⟨s2,a,args,rfl,Pg,I2,hs,m⟩
  ·exact z
  ·rw[hs];refine hx _ _ ⟨σ,H,a,.ref C,rfl,?_,?_,h2⟩
   ·exact(I2.kept (t':=s2.toks) (h':=s'.heap) m.keeps).fh λp hp=>by cases hp
   ·exact As I2.sz (λb hb=>I2.hok.fresh hb) (by rw[Pg];exact hd) m
end
structure uY(K:PySem.W.Frag)(D:Addr):Prop where
 ga:PySem.W.findIn K (.ref D) "__getattribute__"=some (some (.builtin "BaseException.__getattribute__"))
 na:PySem.W.findIn K (.ref D) "__getattr__"=some none
 sb:PySem.W.subIn K (.ref D) (.type "BaseException")=some true
 fi:PySem.W.findIn K (.ref D) "__class__"=some (some (.builtin "object.__class__"))
 sp:PySem.W.specialIn K (.builtin "object.__class__") "__get__"=some (some (.builtin "getset_descriptor.__get__"))
 tk:PySem.W.takesIn K (.builtin "object.__class__")=some true
 mr:PySem.W.mroIn K D (.type "object")=some true
theorem zH{K:PySem.W.Frag}{D:Addr}{BA:List Value}{newId:String}(q:PySem.W.excIn K D BA newId=true):∃c dd cd sl,K.lookup D=some ⟨c,dd,.cls cd,sl⟩:=by
 unfold PySem.W.excIn at q;split at q
 ·rename_i L8;exact⟨_,_,_,_,L8⟩
 ·cases q
theorem GB:(Value.builtin "BaseException.__getattribute__"==Value.builtin "object.__getattribute__")=false:=by decide +kernel
theorem vU{prog:Program}{w:World}{A:Around}{E:Value->Shared->Prop}{s:Shared}{x D:Addr}{rM:Value}{Q:Unit->Shared->Prop}(L:PySem.W.Looks (model prog w) s.heap (isInstance (.ref x) (.type "BaseException")) true)(hq:Q () s):wpAny (model prog w) A (checkBuiltinCall "BaseException.__getattribute__" ⟨[.ref x,rM],[]⟩) Q E s:=by
 have hk:builtinKind "BaseException.__getattribute__"=some .slot:=by decide +kernel
 have Ds:splitId "BaseException.__getattribute__"=some ("BaseException","__getattribute__"):=by decide +kernel
 have ha:=F.args_bexc_ga (.ref x) rM;simp only[checkBuiltinCall,hk,Ds];refine QK (L.at ?_);simp only[Bool.not_true,RF,S8];cases hsig:Manifest.signature? "BaseException.__getattribute__" with
 |none=>exact QN hq
 |some sig=>simp only[argsOk,hsig]at ha;show wpAny _ A (Bind.checkArgs "BaseException.__getattribute__" sig ⟨[.ref x,rM],[]⟩) _ _ s;rw[show Bind.checkArgs "BaseException.__getattribute__" sig ⟨[.ref x,rM],[]⟩=pure () from ha];exact QN hq
theorem tL{K:PySem.W.Frag}{x D:Addr}{ox:Obj}(k:uY K D){cd:ClassData}(hc:PySem.W.clsIn K D=some cd){prog:Program}{w:World}{A:Around}{E:Value->Shared->Prop}{Q:Option Value->Shared->Prop}{s:Shared}(X:K.In s.heap)(I:PySem.W.InstAt s.heap x ox D none)(q:Q (some (.ref D)) {s with toks:=s.toks+1}):
  wpAny (model prog w) A (getAttr? (.ref x) "__class__") Q E s:=by
 have hf:PySem.W.findObj K D none "__class__"=some (.bind (.builtin "getset_descriptor.__get__") (.builtin "object.__class__")):=by unfold PySem.W.findObj;rw[hc,Option.bind_some,k.fi,Option.bind_some];simp[k.sp,k.tk]
 have L0:=I.type (M:=model prog w);have L1:=PySem.W.looks_findIn (M:=model prog w) X k.ga;have L2:=PySem.W.looks_findIn (M:=model prog w) X k.na;have L3:=PySem.W.looks_find (M:=model prog w) X I hf;have L4:PySem.W.Looks (model prog w) s.heap (isInstance (.ref x) (.type "BaseException")) true:=L0.andThen (PySem.W.looks_subIn (M:=model prog w) X k.sb);obtain⟨hh,g,d,t,os⟩:=s;unfold getAttr? getAttrBy? getAttrBy;refine QK (wpAny_mkText (QK (wpAny_attempt (To (QK (L0.at (QK (L1.at ?_))))))));simp only[GB,RC,RF,S8];unfold getAttrByItsOwn;refine QK ?_;show wpAny _ _ (typeLookup (.ref D) "__getattr__") _ _ _;refine L2.at ?_;refine QK (wpAny_attempt (To ?_));show wpAny _ _ (boundAndCalled _ _ _) _ _ _;unfold boundAndCalled;refine QK (wpAny_of_eq (F.excAttr_ValueError.ga.bind (.ref x)) ?_);refine wpAny_call (codeAny_call_builtin F.excAttr_ValueError.ga.plain F.entry_bexc_ga (vU (D:=D) L4 ?_));unfold Builtin.«object.__getattribute__»;refine QK (QN (QK (QN (QK (L0.at (QK (L3.at ?_)))))));show wpAny _ _ (holding [.builtin "object.__class__"] (call (.builtin "getset_descriptor.__get__") [.builtin "object.__class__",.ref x,.ref D]) >>=ret) _ _ _;refine QK (To (wpAny_call (PySem.W.class_get (ox:=ox) (od:=none) X I k.mr ?_)));refine QN ?_;show wpAny _ _ (handedOut (.ref D)) _ _ _;exact PySem.W.handed_on rfl (QN q)
theorem wz{K:PySem.W.Frag}{x D:Addr}{ox:Obj}{BA:List Value}{newId:String}(hq:PySem.W.excIn K D BA newId=true)(k:uY K D):PySem.W.KitX K (.ref x) (.ref D) (λh=>PySem.W.InstAt h x ox D none):=by
 obtain⟨c0,Qq,cd,QJ,lk⟩:=zH hq;have hc:PySem.W.clsIn K D=some cd:=by unfold PySem.W.clsIn;rw[lk]
 refine⟨λM h _ I=>I.type,λM h X _=>?_,λh tp dd its n sl X htp=>?_,λ {prog w A E Q s} X I q=>tL k hc X I q⟩
 ·intro A' Q' E' s' kk q;unfold isType loadHead;exact QK (wpAny_loadPart (kk _ _ (X _ _ lk)) (QN q))
 ·refine Bool.eq_false_iff.mpr λq=>?_
  have e:D=tp:=by have:=Ra q;cases this;rfl
  rw[<-e,X _ _ lk]at htp;cases htp
abbrev Cx.hand(X:Cx)(a:Addr)(o:Obj):Cx:={X with A:=X.A.mark (some (.ref a)),calm:=false,pn:=[(a,o)],xe:=λ_ _=>False}
structure lh(X:Cx)(D a:Addr)(o:Obj):Prop where
 cls:o.cls= .ref D
 KQ:o.dict=none
 dat:∃vs,o.data= .fields vs
section
variable{X:Cx}{σ:St}{H:Hp}{s:Shared}{D a:Addr}{o:Obj}
theorem Inv.hand(BR:X.pn=[])(I:Inv X [] σ H s)(F:f6 X.s₀.heap.objs.size (.ref D) a H s.heap)(ho:s.heap.get? a=some o)(xr:lh X D a o):Inv (X.hand a o) [] σ H s:=by
 obtain⟨vs,hd⟩:=xr.dat;refine⟨⟨I.ok.mod,I.ok.kind,I.ok.glob,I.ok.blt,I.ok.above,I.ok.inj,I.ok.has,I.ok.yQ,(λz=>by cases z),I.ok.frames,I.ok.Bm,I.ok.BJ,I.ok.bs,I.ok.vh,I.ok.kf,I.ok.lG,I.ok.fP,I.ok.zN⟩,I.os,I.bare,I.base,I.loc,I.cell,I.free,I.b8,λp hp=>?_,I.hok,I.len⟩;have e:p=(a,o):=by simpa using hp
 subst e;refine⟨ho,F.nH,λz=>?_,λz=>?_,λv q=>by rw[hd]at q;cases q⟩
 ·obtain⟨m,⟨o',es,ep,h1,h2,_⟩,_⟩:=I.loc;have z:a=X.env.locals:=z;rw[<-z,ho]at h1;cases h1;rw[hd]at h2;cases h2
 ·obtain⟨_,o',lQ,JQ⟩:=I.ok.fP.mem z;have:=F.ge;have cP:=QX lQ;exact absurd (Q8 cP this) (SF _)
theorem Inv.Fa(BR:X.pn=[])(I:Inv (X.hand a o) [] σ H s)(hc:X.calm=true->X.A.handled=none):Inv X [] σ H s:=
 ⟨⟨I.ok.mod,I.ok.kind,I.ok.glob,I.ok.blt,I.ok.above,I.ok.inj,I.ok.has,I.ok.yQ,hc,I.ok.frames,I.ok.Bm,I.ok.BJ,I.ok.bs,I.ok.vh,I.ok.kf,I.ok.lG,I.ok.fP,I.ok.zN⟩,I.os,I.bare,I.base,I.loc,I.cell,I.free,I.b8,(λp hp=>(by rw[BR]at hp;cases hp)),I.hok,I.len⟩
theorem rk(I:Inv (X.hand a o) [] σ H s)(xr:lh X D a o):PySem.W.InstAt s.heap a o D none:=by obtain⟨vs,hd⟩:=xr.dat;refine⟨(I.pin (a,o) ∅).1,xr.cls,by unfold PySem.W.notCls;rw[hd],?_⟩;rw[xr.KQ];trivial
end
def WX(X:Cx)(σ0:St)(XE:Value->Hp->Prop)(e:Value)(s':Shared):Prop:=∃H' a cls,e= .ref a/\Inv X [] σ0 H' s'/\f6 X.s₀.heap.objs.size cls a H' s'.heap/\XE cls H'
def Jz(X:Cx)(st:Stmt)(t:TS):Prop:=∀(s:Shared)(σ:St)(H:Hp)(D:Ends),Inv X [] σ H s->t D σ H->wpAny (model X.prog X.w) X.A (exec st X.env) (SP X [] D) X.xe s
def la(X:Cx)(st:List Stmt)(t:TS):Prop:=∀(s:Shared)(σ:St)(H:Hp)(D:Ends),Inv X [] σ H s->t D σ H->wpAny (model X.prog X.w) X.A (execs st X.env) (SP X [] D) X.xe s
theorem Er{X:Cx}{st:Stmt}{t:TS}(h:PS X st t):Jz X st t:=λs σ H D=>h [] s σ H D
theorem AS{X:Cx}{st:List Stmt}{t:TS}(h:mU X st t):la X st t:=λs σ H D=>h [] s σ H D
theorem uh{X:Cx}{st:Stmt}{rest:List Stmt}{t u:TS}(h1:Jz X st t)(h2:la X rest u):la X (st::rest) (IY t u):=by
 intro s σ H D I hq;refine wpAny_execs_cons (ba (h1 s σ H {D with nx:=u D} I hq) λf s1 z=>?_);cases f with
 |next=>obtain⟨σ1,H1,I1,q1⟩:=z;exact h2 s1 σ1 H1 D I1 q1
 |brk=>exact z
 |cont=>exact z
 |ret v=>exact z
section
variable{X:Cx}{σ:St}{H:Hp}{s:Shared}
theorem Inv.u9{h':Heap}{m:Str->Option Value}{tk:Nat}(BR:X.pn=[])(I:Inv X [] σ H s)(hn:h'.Ns X.env.locals m)(sb:Heap.SameBut X.env.locals s.heap h'):Inv X [] (List.replicate X.N.length none) H {s with heap:=h',toks:=tk}:=by
 have old:∀b o,X.s₀.heap.get? b=some o->b≠X.env.locals:=λb o e=>Rj (Q8 (QX e) I.ok.above)
 have nc:∀y c,X.env.cells.lookup y=some c->c≠X.env.locals:=λy c e z=>by obtain⟨v,o,ho,hd⟩:=I.cell y c e;obtain⟨m',⟨o',es,ep,h1,h2,_⟩,_⟩:=I.loc;rw[z,h1]at ho;cases ho;rw[hd]at h2;cases h2
 refine⟨I.ok,I.os,I.bare,⟨λb o e n hb hx=>(sb.2 b (old b o e)).trans (I.base.keep b o e n hb hx),λb o e n hb hx=>?_,I.base.free,λb o e hx=>?_,I.base.tups,I.base.frzs,I.base.tbls⟩,⟨m,hn,λi x v h1 h2=>?_⟩,λy c e=>?_,I.free,I.b8,λp hp=>?_,?_,Sa⟩
 ·obtain⟨sl,q⟩:=I.base.slot b o e n hb hx;exact⟨sl,(sb.2 b (old b o e)).trans q⟩
 ·obtain⟨o',q⟩:=I.base.there b o e hx;exact⟨o',(sb.2 b (old b o e)).trans q⟩
 ·rw[R3]at h2;split at h2<;>cases h2
 ·obtain⟨v,o,ho,hd⟩:=I.cell y c e;exact⟨v,o,(sb.2 c (nc y c e)).trans ho,hd⟩
 ·rw[BR]at hp;cases hp
 ·intro b u e;refine(I.hok b u e).mL (λc v hc q=>?_) (λ_ q=>q) λ_ _ q=>q
  refine(sb.2 c λz=>?_).trans q;subst z;rcases hc with rfl|hc
  ·rw[I.free]at e;cases e
  ·rw[I.free]at hc;cases hc
theorem Mf{a:Addr}:(Value.ref a)≠byPass:=by intro q;cases q
variable{ok:Addr->Prop}{t:Str}{c:Value}{tp hpos:Pos}{gL:List Stmt}{b0:Stmt}
theorem E6{XE:Value->Hp->Prop}{D:Ends}{nm:Option Str}{Q:Flow->Shared->Prop}(st:ei X)(hg:Gl X t)(hm:X.mg t=some c)(nW:(t==("__debug__":Str))=false)
  (hx:∀C,ok C->PySem.W.exmOne X.K (.ref C) c=some true) (O7:∀cls H',XE cls H'->∃C,cls= .ref C/\ok C)
  (go:∀H' a C s1,XE (.ref C) H'->Inv X [] σ H' s1->f6 X.s₀.heap.objs.size (.ref C) a H' s1.heap->(∃T,cK s1.heap a T)->
   codeAny (model X.prog X.w) (X.A.mark (some (.ref a))) (.handlers (.ref a) [.ExceptHandler none nm (b0::gL) hpos] X.env) (λr s₂=>match r with
     |.ok f=>(match nm with
      |none=>Q f s₂
      |some n=>wpAny (model X.prog X.w) X.A (do bindName X.env n .none;unbindBehindTheSuite X.env n hpos) (λ_ s₃=>Q f s₃) X.xe s₂)
     |.error x=>cameBackBy (model X.prog X.w) X.A X.env X.xe x s₂) s1)
  {e:Value} {s1:Shared} (w:WX X σ XE e s1):wpAny (model X.prog X.w) X.A (noteFrame e X.env) (λ_ s₂=>wpAny (model X.prog X.w) X.A (setFlight e none) (λ_ s₃=>wpAny (model X.prog X.w) X.A (handleBy e X.env [.ExceptHandler (some (.Name t tp)) nm (b0::gL) hpos]) Q X.xe s₃) X.xe s₂) X.xe s1:=by
 obtain⟨H',a,cls,rfl,I1,F1,hE⟩:=w;obtain⟨C,rfl,hok⟩:=O7 cls H' hE;obtain⟨hp,eL,jG,L,e1,e2,e3⟩:=st;have j6:=I1.ok.frames;have hl:=I1.stack;rw[e1]at j6 hl;refine qU j6 hl e2 e3 F1 (λb hb=>I1.hok.fresh hb) λh2 x2 f2 t2=>?_
 rw[<-e1]at x2;have I2:=I1.Ft hp F1 x2;refine dB (fs:=dR X.stack) f2 t2 λh3 x3 f3 t3=>?_
 have I3:=I2.Ft hp f2 x3;obtain⟨o,vs,ho,⟨Lu,nU⟩,hd,_⟩:=id f3.obj;have xr:lh X C a o:=⟨Lu,nU,vs,hd⟩;have Jt:=I3.hand hp f3 ho xr;have ia:=rk Jt xr;refine wpAny_handleBy_cons (codeAny_handlers_test (gu (X:=X.hand a o) Jt hg hm ?_ nW)) Mf;exact(PySem.W.exm_one (M:=model X.prog X.w) I3.iS ia.type (hx C hok)).here (go H' a C _ hE I3 f3 t3)
end
section
variable{X:Cx}{E:XK}{tb:TS}{t:Str}{c:Value}{tp hpos pos:Pos}{body gL:List Stmt}{b0:Stmt}{i:Nat}{n:Str}{D:Ends}
theorem Bs(st:ei X)(GT:X.calm=true->X.A.handled=none)(hg:Gl X t)(hm:X.mg t=some c)(nW:(t==("__debug__":Str))=false)
  (hN:X.N.Nodup) (hi:X.N[i]?=some n) (hl:X.env.scope.names.lookup n=some .local) (hb:mU (X.b7 (gP X E)) body tb)
  (hh:∀cls H',E cls none H'->∃C,cls= .ref C/\PySem.W.exmOne X.K (.ref C) c=some true/\∀a o,lh X C a o->∃th,mU (X.hand a o) (b0::gL) th/\∀σ,σ[i]?=some (some (.ref a))->σ.length=X.N.length->th {nx:=λ_ _=>False,rt:=D.rt} σ H')
  {s:Shared} {σ:St} {H:Hp} (I:Inv X [] σ H s) (h:tb D σ H):
  wpAny (model X.prog X.w) X.A (exec (.Try body [.ExceptHandler (some (.Name t tp)) (some n) (b0::gL) hpos] [] [] pos) X.env) (SP X [] D) X.xe s:=by
 refine wpAny_Try_except (Tp (hb [] s σ H D (I.b7 _) h) (λf s1 z=>?_) λe s1 w=>?_)
 ·have z':=z.dm;cases f with
  |next=>exact wpAny_execs_nil z'
  |brk=>exact z'
  |cont=>exact z'
  |ret v=>exact z'
 ·obtain⟨σ1,H1,a1,KP,e1,I1,F1,E1⟩:=w;refine E6 (X:=X) (σ:=σ1) (ok:=λC=>PySem.W.exmOne X.K (.ref C) c=some true) (XE:=λcls H'=>E cls none H') (nm:=some n) (D:=D) st hg hm nW (λC h=>h) (λcls H' z=>?_) (λH' a C s2 hE I2 f2 t2=>?_) ⟨H1,a1,KP,e1,I1,F1,E1⟩
  ·obtain⟨C,e,k,_⟩:=hh cls H' z;exact⟨C,e,k⟩
  ·obtain⟨C',eC,_,LO⟩:=hh _ H' hE;cases eC;refine codeAny_handlers_suite_as (dB (fs:=dR X.stack) f2 t2 λh3 x3 f3 t3=>?_);have I3:=I2.Ft st.pn f2 x3;obtain⟨o,vs,ho,⟨Lu,nU⟩,hd,_⟩:=id f3.obj;have xr:lh X C a o:=⟨Lu,nU,vs,hd⟩;have Jt:=I3.hand st.pn f3 ho xr;refine gK (X:=X.hand a o) (v:=.ref a) Jt hN hi (.inl hl) rfl (λs4 I4=>?_) (.inr hl);obtain⟨th,hs,LO⟩:=LO a o xr;have hlen:i<σ1.length:=by rw[I1.len];exact(QR.mp hi).1
   refine Tp (hs [] _ _ H' _ I4 (LO _ (by simp[hlen]) (by rw[Sb];exact I1.len))) (λf s5 z=>?_) λ_ _ z=>z.elim
   cases f with
   |next=>obtain⟨σ',Js,I',q⟩:=z;exact q.elim
   |brk=>obtain⟨σ',Js,I',q⟩:=z;exact q.elim
   |cont=>obtain⟨σ',Js,I',q⟩:=z;exact q.elim
   |ret u=>obtain⟨v,σ',Js,I',r,q⟩:=z;have I5:=I'.Fa st.pn GT;obtain⟨m5,G6,_⟩:=id I5.loc;have De:X.env.scope.kind= .function:=I5.ok.kind;refine wpAny_nameGoes hl G6 (by rw[De];rfl) λh6 m6 hn6 sb6=>⟨v,_,Js,I5.u9 st.pn hn6 sb6,r,q⟩
theorem xl{C a:Addr}{o:Obj}{x y:Str}{v:V}{b:Bool}{p p1 p2:Pos}{BA:List Value}{newId:String}(xr:lh X C a o)(hq:PySem.W.excIn X.K C BA newId=true)(k:uY X.K C)(Pe:Gl X "isinstance")(Pq:X.mg "isinstance"=none)(hx:PE (X.hand a o) (.Name x p1) (j0 i))(hv:PE (X.hand a o) (.Name y p2) (tC v))(hr:∀u,RelV v u->u=c)(e:PySem.W.kitOne X.K (.ref C) c=some b):
  PE (X.hand a o) (.Call (.Name "isinstance" p) [.Name x p1,.Name y p2] [] pos) (λσ H Q=>σ[i]?=some (some (.ref a))/\Q (.bl b) H):=by
 have hc:cT (X.hand a o) (.builtin "isinstance") (λxs H Q=>xs=[.ref a,v]/\Q (.bl b) H):=by
  intro pins s σ H xs us Q I r ⟨e1,q⟩;subst e1;obtain⟨u1,u2,rfl,r1,r2⟩:=r.two;cases r1;have:=hr _ r2;subst this;have I0:=I.fh (pins':=[]) λp hp=>by cases hp
  exact SX (wz hq k) I.iS (rk I0 xr) e (by intro z;cases z) λtk=>⟨.bl b,H,I.tok tk,rfl,q⟩
 intro pins s σ H Q I ⟨h1,h2⟩;exact jK (X:=X.hand a o) hc Pe Pq PyProof.Rows.boot_isinstance (bx hx (bx hv eQ)) ‹_› ‹_› rfl rfl pins s σ H Q I ⟨_,h1,rfl,h2⟩
end
theorem C5{CX:j9}{P:Program}{w:World}{K:PySem.W.Frag}{mg:Str->Option Value}{base:Heap}{k:Nat}{f:Addr}{name qual:Str}{params:Arguments}{body:List Stmt}{scope:Scope}{dV kV doc pm eD ct oc:Value}{an od:Option Addr}
  {rT:Array (Option Value)} {N ps:List Str} {sp:Sp} (lk:K.lookup f=some ⟨oc,od,.func (PySem.W.fnOf name qual params body scope dV kV doc pm an eD ct),rT⟩) (uL:PySem.W.codeIn K eD qual=true) (S:dS N ps scope)
  (len:∀vs H Q E,sp vs H Q E->vs.length=ps.length)
  (GS:∀(A:Around)(outer:List Env)(s:Shared)(H:Hp)(vs:List V)(Q:VK)(E:XK),f7 k (A.deeper (envOfC qual scope s.heap.objs.size f eD))->sp vs H Q E->
   ∃t,la (jk CX P w K mg base N qual scope f eD A outer s H E) body t/\t {nx:=λ_ H'=>Q .bM H',rt:=Q} (start N vs) H):
  gS P w K mg base CX (k+1) f (PySem.W.fnOf name qual params body scope dV kV doc pm an eD ct) ps sp:=by
 refine⟨len,λA outer s H args us vs Q E hr e0 hb r FJ=>?_⟩;have KX:K.In s.heap:=e0.mod.L6.keeps λb o e=>(e0.bs b o e).1
 have G3:∀y∈ps.zip us,scope.names.lookup y.1=some .local\/(scope.names.lookup y.1=some .cell/\((cellsFrom (s.heap.objs.size+1) scope.names []).lookup y.1).isSome=true):=λ⟨n,v⟩hy=>by
  rcases S.par n (Sr hy).1 with q|q
  ·exact .inl q
  ·exact .inr ⟨q,SW _ _ _ (.inl q)⟩
 refine codeAny_call_function hr.depth (KX _ _ lk) rfl S.co S.gen rfl (PySem.W.codeRec_of KX uL) (hb _ _ _ _ (wpAny_newFunctionEnv_cells S.kind G3 λenv he s1 x=>?_));subst he;refine⟨(e0.mod.nolimit.keeps λb o e=>(e0.bs b o e).1).keeps x.toInCall.keep,codeAny_func ?_⟩;obtain⟨t,ht,hq⟩:=GS A outer s H vs Q E (hr.deeper _) FJ;have I:Inv (jk CX P w K mg base N qual scope f eD A outer s H E) [] (start N vs) H s1:=tT S hr.hd e0 (len _ _ _ _ FJ) r x;refine Tp (ht s1 (start N vs) H _ I hq) (λfl s' hs=>?_) λe s' hs=>hs
 have fin:∀{σ':St}{H':Hp}{v:V}{u:Value},Inv (jk CX P w K mg base N qual scope f eD A outer s H E) [] σ' H' s'->RelV v u->Q v H'->CE outer P w H s Q u s':=
  λ {σ' H' v u} J rv q=>⟨v,H',J.os,J.bare,J.base,J.hok,rv,q⟩
 cases fl with
 |ret u=>obtain⟨v,σ',H',J,rv,q⟩:=hs;exact fin J rv q
 |next=>obtain⟨σ',H',J,q⟩:=hs;exact fin (v:=V.bM) (u:=Value.none) J rfl q
 |brk=>obtain⟨_,_,_,q⟩:=hs;exact q.elim
 |cont=>obtain⟨_,_,_,q⟩:=hs;exact q.elim
end L2
end
section
namespace Rx
open PySem PySem.W PySem.Spec PyProof.Rows L2 PySem.SeqAt
def Fy(K:Frag)(mg:Str->Option Value)(C:Addr)(ts:List (Str×Bool)):Prop:=excIn K C CM "ValueError.__new__"=true/\uY K C/\
 ∀t b,ts.lookup t=some b->∃c,(mg t=some c/\(∃D,c= .ref D)\/mg t=none/\t="ValueError"/\c= .type "ValueError")/\kitOne K (.ref C) c=some b/\(b=true->exmOne K (.ref C) c=some true)
structure HX(g:G)(xv:Nat->Value)(CX:j9)(k:Nat)(F:FT)(Φ:Fm)(X:Cx):Prop where
 K:Φ.K=X.K
 P:Φ.P=X.prog
 w:Φ.w=X.w
 fx:∃n,FX g xv CX X.prog X.w X.K X.mg X.base n k F
 room:f7 k X.A
 cx:CX=mT X.prog X.w
 st:ei X
 xgx:∀e s',gP X (jc Φ xv) e s'->X.xe e s'
 xk:∀k x ts,g.xs[k]?=some (x,ts)->∃C,xv k= .ref C/\X.mg x=some (.ref C)/\Fy X.K X.mg C ts
theorem HX.pass{g:G}{xv:Nat->Value}{CX:j9}{k:Nat}{F:FT}{Φ:Fm}{X:Cx}(h:HX g xv CX k F Φ X):o9 CX X (jc Φ xv):=λpins σ H s e s' I c=>by have hc:=h.cx;subst hc;exact h.xgx e s' (yI I h.st.pn c)
theorem aU{X:Cx}{e:Expr}{t t':TE}(h:PE X e t)(hi:∀σ H Q,t' σ H Q->t σ H Q):PE X e t':=λpins s σ H Q I q=>h pins s σ H Q I (hi σ H Q q)
theorem mq{X:Cx}{e:Expr}{t t':TT}(h:PT X e t)(hi:∀σ H Q,t' σ H Q->t σ H Q):PT X e t':=λpins s σ H Q I q=>h pins s σ H Q I (hi σ H Q q)
theorem xH{X:Cx}{e:Expr}{t t':TT}(h:PW X e t)(hi:∀σ H Q,t' σ H Q->t σ H Q):PW X e t':=λwh pins s σ H Q I q=>h wh pins s σ H Q I (hi σ H Q q)
theorem xa{X:Cx}{e:List Expr}{t t':TA}(h:PA X e t)(hi:∀σ H Q,t' σ H Q->t σ H Q):PA X e t':=λpos pins s σ H Q I q=>h pos pins s σ H Q I (hi σ H Q q)
theorem ml{X:Cx}{tg e:Expr}{t t':TI}(h:PI X tg e t)(hi:∀σ H Q,t' σ H Q->t σ H Q):PI X tg e t':=λpins s σ H Q I q=>h pins s σ H Q I (hi σ H Q q)
section
variable{Φ:Fm}{Γ:Gm}{fr:Nat->Bool}{o:Ow}{ρ:ai}{σ:L2.St}{H H':Hp}
theorem EO.sc{c:C}{d:Dt}(h:mW d=true):EO Φ.K fr o c H d (o7 d) H:=⟨aI.refl,oE h,λ_=>oE h,λ_=>(oE h).one,λ_ ds e=>by subst e;simp[mW]at h⟩
theorem EO.pG{c:C}{d:Dt}{v:V}{H1:Hp}(e:aI o.d H H1)(h:EO Φ.K fr o c H1 d v H')(hf:fresh fr c=true->∀ds,d= .lst ds->∀a,H1 a=none->H a=none):EO Φ.K fr o c H d v H':=
 ⟨e.trans h.ext,h.val,h.mX,h.Bk,λf ds ed=>by
  obtain⟨a,xs,h1,h2,h3⟩:=h.dR f ds ed;exact⟨a,xs,h1,hf f ds ed a h2,h3⟩⟩
theorem vI{X:Addr->Prop}{H1:Hp}(e:aI X H H1)(hx:∀b,X b->∃y,H1 b=some y){a:Addr}(h:H1 a=none):H a=none:=by
 cases q:H a with
 |none=>rfl
 |some x=>obtain⟨y,z⟩:=e.al q (hx a);rw[h]at z;cases z
theorem ER.dF{S1:Sx}{H1:Hp}(az:ER Φ Γ o ρ S1 σ H1)(e:aI o.d H H1){a:Addr}(h:H1 a=none):H a=none:=vI e (λb z=>az.al b (az.da b z)) h
theorem EO.keep{c:C}{d:Dt}{v:V}{H1 H2:Hp}(h:EO Φ.K fr o c H d v H1)(e:aI o.d H1 H2)(wa:∀b,o.wd b->o.A b):RV Φ.K o.wd H2 v d/\(lk c=0->RV Φ.K o.A H2 v d)/\(lk c<=1->eF Φ.K o.A H2 v d):=by
 have hd:∀b,o.d b->o.wd b:=λb z=>.inr z
 refine⟨h.val.mono e hd λ_ z=>z,λl=>(h.mX l).mono e (λb z=>wa b (hd b z)) λ_ z=>z,λl=>?_⟩;refine(h.Bk l).ext e (λb z=>wa b (hd b z)) λds a ed ev z=>?_
 subst ed ev;obtain⟨b,xs,q,_,n,_⟩:=h.val.lst_inv;cases q;exact n (.inr z)
theorem EO.pr{c:C}{xs:List V}{ds:List Dt}{d:Dt}{v:V}{H1 H2:Hp}{S1:Sx}{f:Bool}(az:ER Φ Γ o ρ S1 σ H1)(e:aI o.d H H1)(hv:ak Φ.K o.wd H1 xs ds)(h1:lk c<=1->lg Φ.K o.A H1 xs ds)(hl:lk c=0\/lk c=2)
  (pr:PR Φ.K f xs ds H1 d v H2) (hf:fresh fr c=true->f=true):EO Φ.K fr o c H d v H2/\ER Φ Γ o ρ S1 σ H2:=by
 have q0:lk c=0->RV Φ.K o.A H2 v d:=λl=>pr.val o.A az.al (h1 ⋯)
 refine⟨⟨e.trans (aI.of_same pr.same),pr.val o.wd az.qD hv.ones,q0,λl=>(q0 ⋯).one,λfc es ed=>?_⟩,az.grow pr.same⟩;obtain⟨a,ys,k1,k2,k3,k4⟩:=pr.dR (hf fc) es ed;exact⟨a,ys,k1,az.dF e k2,k3,k4 o.wd az.qD hv.ones,λl=>k4 o.A az.al (h1 ⋯)⟩
theorem cC{A:Addr->Prop}{K:Frag}{v:V}{d:Dt}(h:RV K A H v d):RV K N0 H v d:=h.weak λ_ z=>z.elim
theorem DQ{A:Addr->Prop}{K:Frag}{v:List V}{d:List Dt}(h:ak K A H v d):ak K N0 H v d:=h.weak λ_ z=>z.elim
end
section
variable{X:Cx}{Φ:Fm}{Γ:Gm}{F:FT}{fr:Nat->Bool}
theorem oF{e:Expr}{d:Dt}(hd:mW d=true)(h:PE X e (tC (o7 d))):PE X e (bf Φ Γ F fr (.con d)):=aU h λσ H Q q=>by obtain⟨o,ρ,S,er,q⟩:=q;exact q _ _ (EO.sc hd) er
theorem iN{Ek:Nat->Prop}{ρ:ai}{i:Nat}{P:Dt->Prop}(h:mR Ek (bp ρ i) P):∃d,ρ[i]?=some (some d)/\P d:=by
 unfold bp at h;split at h
 ·exact⟨_,by assumption,h⟩
 ·exact h.elim
theorem ID{e:Expr}{i:Nat}(h:PE X e (j0 i))(hm:dX Γ i=false):PE X e (bf Φ Γ F fr (.var i)):=aU h λσ H Q q=>by obtain⟨o,ρ,S,er,q⟩:=q;rw[iZ]at q;rw[aa]at q;obtain⟨d,hd,q⟩:=iN q;obtain⟨v,h1,h2⟩:=er.val i d hd;rw[hm,S9 ∅]at h2;exact⟨v,h1,q v H ⟨aI.refl,h2.weak er.eg,λ_=>h2,λ_=>h2.one,λz=>by cases z⟩ er⟩
theorem Iu{e:Expr}{i:Nat}(h:PE X e (j0 i))(hm:dX Γ i=true)(hκ:Γ.κ≠some i):PE X e (bf Φ Γ F fr (.mvr i)):=aU h λσ H Q q=>by obtain⟨o,ρ,S,er,q⟩:=q;rw[mv]at q;rw[aa]at q;obtain⟨d,hd,q⟩:=iN q;obtain⟨v,h1,h2⟩:=er.val i d hd;rw[hm,Ta rfl]at h2;exact⟨v,h1,q v H ⟨aI.refl,h2.val (er.nd hd hκ) er.wa er.da,λz=>(by cases z),λ_=>h2.one (er.nd hd hκ),λz=>by cases z⟩ er⟩
theorem iU{Ek:Nat->Prop}{r:R Dt}{P:Dt->Prop}(eB:∀k,r≠ .ex k)(h:mR Ek r P):∃d,r= .ok d/\P d:=by
 cases r with
 |ok a=>exact⟨a,rfl,h⟩
 |ex k=>exact absurd rfl (eB k)
 |bad=>exact h.elim
theorem bT{b:Bool}{α:Type}{r:R α}(h:∀k,r≠ .ex k):∀k,ae b r≠ .ex k:=by
 intro k;cases b
 ·intro z;cases z
 ·exact h k
theorem D1(o:Operator)(d e:Dt):∀k,gQ o d e≠ .ex k:=by intro k;unfold gQ;split<;>first|(intro z;cases z;done)|(split<;>first|(intro z;cases z;done)|(exact bT (λk z=>by cases z) k))
theorem eY(o:CmpOp)(d e:Dt):∀k,bL o d e≠ .ex k:=by intro k;unfold bL;split<;>first|(intro z;cases z;done)|(exact bT (λk z=>by cases z) k)|(split<;>first|(intro z;cases z;done)|(exact bT (λk z=>by cases z) k))
theorem pf(ds:List Dt)(i:Int):∀k,tu ds i≠ .ex k:=by intro k;unfold tu;split<;>(intro z;cases z)
theorem Ad(d e:Dt):∀k,cw d e≠ .ex k:=by
 intro k;unfold cw;split
 ·exact pf _ _ k
 ·exact pf _ _ k
 ·exact pf _ _ k
 ·exact bT (λk=>by split<;>(intro z;cases z)) k
 ·intro z;cases z
theorem Bf(d:Dt)(lo hi:Option Int):∀k,fy d lo hi≠ .ex k:=by intro k;unfold fy;split<;>first|(intro z;cases z;done)|(exact bT (λk z=>by cases z) k)
theorem Br(d:Dt):∀k,bY d≠ .ex k:=by intro k;unfold bY;split<;>first|(intro z;cases z;done)|(exact bT (λk z=>by cases z) k)
theorem cA{Ek:Nat->Prop}{r:R Bool}{P:Bool->Prop}(eB:∀k,r≠ .ex k)(h:mR Ek r P):∃d,r= .ok d/\P d:=by
 cases r with
 |ok a=>exact⟨a,rfl,h⟩
 |ex k=>exact absurd rfl (eB k)
 |bad=>exact h.elim
theorem pT{op:Operator}{a b:C}:(lk (.bin op a b)=0\/lk (.bin op a b)=2)/\(lk (.bin op a b)<=1->lk a<=1/\lk b<=1):=by
 have e:lk (.bin op a b)=if lk a<=1/\lk b<=1 then 0 else 2:=rfl
 rw[e];split
 ·rename_i h;exact⟨.inl rfl,λ_=>h⟩
 ·exact⟨.inr rfl,λz=>⋯⟩
theorem Il{a b:Expr}{a' b':C}{op:Operator}{pos:Pos}(hK:Φ.K=X.K)(ha:PE X a (bf Φ Γ F fr a'))(hb:PE X b (bf Φ Γ F fr b')):PE X (.BinOp a op b pos) (bf Φ Γ F fr (.bin op a' b')):=aU (B2 (D3 op) ha hb) λσ H Q q=>by
 obtain⟨o,ρ,S,er,q⟩:=q;rw[d8]at q;rw[aa]at q;refine⟨o,ρ,S,er,af q λp _ q x H1 aN az=>?_⟩;rw[aa]at q;refine⟨o,ρ,p.2,az,af q λp2 _ q y H2 eo2 cL=>?_⟩;rw[aa]at q;obtain⟨z,hz,q⟩:=iU (D1 _ _ _) q;obtain⟨k1,k2,k3⟩:=aN.keep eo2.ext er.eg;refine⟨p.1,p2.1,z,hK▸cC k1,hK▸cC eo2.val,hz,λv H3 pr=>?_⟩;rw[<-hK]at pr;obtain⟨e1,e2⟩:=EO.pr (fr:=fr) (H:=H) (c:=.bin op a' b') cL (aN.ext.trans eo2.ext) (ak.cons k1 (ak.cons eo2.val ak.nil)) (λl=>⟨k3 (pT.2 l).1,eo2.Bk (pT.2 l).2,trivial⟩) pT.1 pr λ_=>rfl
 exact q v H3 e1 e2
theorem Io{a b:Expr}{a' b':C}{op:CmpOp}{pos:Pos}(hK:Φ.K=X.K)(hu:X.A.units+150<cLine)(hm:behindInMarks op b=false)(ha:PE X a (bf Φ Γ F fr a'))(hb:PE X b (bf Φ Γ F fr b')):PE X (.Compare a [op] [b] pos) (bf Φ Γ F fr (.cmp op a' b')):=aU (rY (fV op hu) ha hb hm) λσ H Q q=>by obtain⟨o,ρ,S,er,q⟩:=q;rw[A4]at q;rw[aa]at q;refine⟨o,ρ,S,er,af q λp _ q x H1 aN az=>?_⟩;rw[aa]at q;refine⟨o,ρ,p.2,az,af q λp2 _ q y H2 eo2 cL=>?_⟩;rw[aa]at q;obtain⟨z,hz,q⟩:=cA (eY _ _ _) q;obtain⟨k1,k2,k3⟩:=aN.keep eo2.ext er.eg;refine⟨p.1,p2.1,z,hK▸cC k1,hK▸cC eo2.val,hz,q _ _ ?_ cL⟩;have:=EO.sc (Φ:=Φ) (fr:=fr) (o:=o) (H:=H2) (c:=.cmp op a' b') (d:=.bl z) rfl;exact this.pG (aN.ext.trans eo2.ext) λf=>by cases f
theorem EL{a b:Expr}{a' b':C}{op:CmpOp}{pos:Pos}(hK:Φ.K=X.K)(hu:X.A.units+150<cLine)(hm:behindInMarks op b=false)(ha:PE X a (bf Φ Γ F fr a'))(hb:PE X b (bf Φ Γ F fr b')):PT X (.Compare a [op] [b] pos) (dP Φ Γ F (.cmp op a' b')):=mq (AV (fV op hu) ha hb hm) λσ H Q q=>by obtain⟨o,ρ,S,er,q⟩:=q;rw[xK]at q;rw[aa]at q;refine⟨o,ρ,S,er,af q λp _ q x H1 aN az=>?_⟩;rw[aa]at q;refine⟨o,ρ,p.2,az,af q λp2 _ q y H2 eo2 cL=>?_⟩;rw[aa]at q;obtain⟨z,hz,q⟩:=cA (eY _ _ _) q;obtain⟨k1,k2,k3⟩:=aN.keep eo2.ext er.eg;exact⟨p.1,p2.1,z,hK▸cC k1,hK▸cC eo2.val,hz,z,rfl,q _ (aN.ext.trans eo2.ext) cL⟩
end
section
variable{X:Cx}{Φ:Fm}{Γ:Gm}{F:FT}{fr:Nat->Bool}
theorem ak.emp{K:Frag}{A:Addr->Prop}{H:Hp}{xs:List V}{ds:List Dt}(h:ak K A H xs ds):ds.isEmpty=xs.isEmpty:=by
 have:=h.length;cases xs with
 |nil=>cases ds with
  |nil=>rfl
  |cons=>simp at this
 |cons=>cases ds with
  |nil=>simp at this
  |cons=>rfl
theorem MF{a b c:Expr}{a' b' c':C}{op mh:CmpOp}{pos:Pos}(hK:Φ.K=X.K)(hu:X.A.units+150<cLine)(hm:lastMarks [op,mh] [b,c]=false)(ha:PE X a (bf Φ Γ F fr a'))(hb:PE X b (bf Φ Γ F fr b'))(hc:PE X c (bf Φ Γ F fr c')):
  PE X (.Compare a [op,mh] [b,c] pos) (bf Φ Γ F fr (.ch op mh a' b' c')):=aU (xi (fV op hu) (fV mh hu) ha hb hc hm) λσ H Q q=>by
 obtain⟨o,ρ,S,er,q⟩:=q;rw[Ez]at q;rw[aa]at q;refine⟨o,ρ,S,er,af q λp _ q x H1 aN az=>?_⟩;rw[aa]at q;refine⟨o,ρ,p.2,az,af q λp2 _ q y H2 eo2 cL=>?_⟩;rw[aa]at q;obtain⟨z,hz,q⟩:=cA (eY _ _ _) q;obtain⟨k1,k2,k3⟩:=aN.keep eo2.ext er.eg;refine⟨p.1,p2.1,z,hK▸cC k1,hK▸cC eo2.val,hz,z,rfl,?_⟩;have sc:∀(H3:Hp)(t:Bool),aI o.d H2 H3->EO Φ.K fr o (.ch op mh a' b' c') H (.bl t) (.bl t) H3:=λH3 t e3=>
  (EO.sc (Φ:=Φ) (fr:=fr) (o:=o) (H:=H3) (c:=.ch op mh a' b' c') (d:=.bl t) rfl).pG ((aN.ext.trans eo2.ext).trans e3) λf=>by cases f
 cases z with
 |false=>exact q _ _ (sc H2 false aI.refl) cL
 |true=>simp only[Tb]at q ⊢;rw[aa]at q;refine⟨o,ρ,p2.2,cL,af q λp3 _ q w H3 eo3 nI=>?_⟩;rw[aa]at q;obtain⟨z',iw,q⟩:=cA (eY _ _ _) q;obtain⟨l1,l2,l3⟩:=eo2.keep eo3.ext er.eg;exact⟨p2.1,p3.1,z',hK▸cC l1,hK▸cC eo3.val,iw,q _ _ (sc H3 z' eo3.ext) nI⟩
theorem Im{a b c:Expr}{a' b' c':C}{op mh:CmpOp}{pos:Pos}(hK:Φ.K=X.K)(hu:X.A.units+150<cLine)(hm:lastMarks [op,mh] [b,c]=false)(ha:PE X a (bf Φ Γ F fr a'))(hb:PE X b (bf Φ Γ F fr b'))(hc:PE X c (bf Φ Γ F fr c')):
  PT X (.Compare a [op,mh] [b,c] pos) (dP Φ Γ F (.ch op mh a' b' c')):=mq (xF (fV op hu) (fV mh hu) ha hb hc hm) λσ H Q q=>by
 obtain⟨o,ρ,S,er,q⟩:=q;rw[sg]at q;rw[aa]at q;refine⟨o,ρ,S,er,af q λp _ q x H1 aN az=>?_⟩;rw[aa]at q;refine⟨o,ρ,p.2,az,af q λp2 _ q y H2 eo2 cL=>?_⟩;rw[aa]at q;obtain⟨z,hz,q⟩:=cA (eY _ _ _) q;obtain⟨k1,k2,k3⟩:=aN.keep eo2.ext er.eg;refine⟨p.1,p2.1,z,hK▸cC k1,hK▸cC eo2.val,hz,z,rfl,?_⟩;cases z with
 |false=>exact⟨false,rfl,q _ (aN.ext.trans eo2.ext) cL⟩
 |true=>simp only[Tb]at q ⊢;rw[aa]at q;refine⟨o,ρ,p2.2,cL,af q λp3 _ q w H3 eo3 nI=>?_⟩;rw[aa]at q;obtain⟨z',iw,q⟩:=cA (eY _ _ _) q;obtain⟨l1,l2,l3⟩:=eo2.keep eo3.ext er.eg;exact⟨p2.1,p3.1,z',hK▸cC l1,hK▸cC eo3.val,iw,z',rfl,q _ ((aN.ext.trans eo2.ext).trans eo3.ext) nI⟩
theorem Iv{a:Expr}{a':C}{pos:Pos}(ha:PE X a (bf Φ Γ F fr a')):PE X (.UnaryOp .USub a pos) (bf Φ Γ F fr (.neg a')):=aU (HZ E9 ha) λσ H Q q=>by
 obtain⟨o,ρ,S,er,q⟩:=q;rw[A5]at q;rw[aa]at q;refine⟨o,ρ,S,er,af q λp _ q x H1 aN az=>?_⟩;split at q
 ·rename_i i hi;have:=aN.val;rw[hi]at this;refine⟨i,this.int_inv,q _ _ ?_ az⟩;exact(EO.sc (Φ:=Φ) (fr:=fr) (o:=o) (H:=H1) (c:=.neg a') (d:=.int (-i)) rfl).pG aN.ext λf=>by cases f
 ·exact q.elim
theorem MI{a:Expr}{a':C}{pos:Pos}(ha:PE X a (bf Φ Γ F fr a')):PE X (.UnaryOp .Not a pos) (bf Φ Γ F fr (.nt a')):=aU (xn ha) λσ H Q q=>by
 obtain⟨o,ρ,S,er,q⟩:=q;rw[EA]at q;rw[aa]at q;refine⟨o,ρ,S,er,af q λp _ q x H1 aN az=>?_⟩;split at q
 ·rename_i i hi;have:=aN.val;rw[hi]at this;refine⟨i,this.bC,q _ _ ?_ az⟩;exact(EO.sc (Φ:=Φ) (fr:=fr) (o:=o) (H:=H1) (c:=.nt a') (d:=.bl (!i)) rfl).pG aN.ext λf=>by cases f
 ·exact q.elim
theorem Iy{a:Expr}{a':C}{pos:Pos}(ha:PT X a (dP Φ Γ F a')):PT X (.UnaryOp .Not a pos) (dP Φ Γ F (.nt a')):=mq (Eu ha) λσ H Q q=>by obtain⟨o,ρ,S,er,q⟩:=q;rw[A0]at q;rw[aa]at q;exact⟨o,ρ,S,er,af q λp _ q H1 e1 az=>q _ e1 az⟩
theorem Ik{a b:Expr}{rest:List Expr}{a' b':C}{pos:Pos}(ha:PE X a (bf Φ Γ F fr a'))(hb:PE X (.BoolOp .And (b::rest) pos) (bf Φ Γ F fr b')):PE X (.BoolOp .And (a::b::rest) pos) (bf Φ Γ F fr (.and a' b')):=aU (xh ha hb) λσ H Q q=>by
 obtain⟨o,ρ,S,er,q⟩:=q;rw[A3]at q;rw[aa]at q;refine⟨o,ρ,S,er,af q λp _ q x H1 aN az=>?_⟩;have sc:∀(H3:Hp)(t:Bool),aI o.d H H3->EO Φ.K fr o (.and a' b') H (.bl t) (.bl t) H3:=λH3 t e3=>
  (EO.sc (Φ:=Φ) (fr:=fr) (o:=o) (H:=H3) (c:=.and a' b') (d:=.bl t) rfl).pG e3 λf=>by cases f
 split at q
 ·rename_i hi;have:=aN.val;rw[hi]at this;refine⟨true,this.bC,?_⟩;rw[aa]at q;refine⟨o,ρ,p.2,az,af q λp2 _ q y H2 eo2 cL=>?_⟩;split at q
  ·rename_i c hc;have h2:=eo2.val;rw[hc]at h2;rw[h2.bC];exact q _ _ (sc H2 c (aN.ext.trans eo2.ext)) cL
  ·exact q.elim
 ·rename_i hi;have:=aN.val;rw[hi]at this;exact⟨false,this.bC,q _ _ (sc H1 false aN.ext) az⟩
 ·exact q.elim
theorem MJ{a b:Expr}{rest:List Expr}{a' b':C}{pos:Pos}(ha:PE X a (bf Φ Γ F fr a'))(hb:PE X (.BoolOp .Or (b::rest) pos) (bf Φ Γ F fr b')):PE X (.BoolOp .Or (a::b::rest) pos) (bf Φ Γ F fr (.or a' b')):=aU (B3 ha hb) λσ H Q q=>by
 obtain⟨o,ρ,S,er,q⟩:=q;rw[EB]at q;rw[aa]at q;refine⟨o,ρ,S,er,af q λp _ q x H1 aN az=>?_⟩;have sc:∀(H3:Hp)(t:Bool),aI o.d H H3->EO Φ.K fr o (.or a' b') H (.bl t) (.bl t) H3:=λH3 t e3=>
  (EO.sc (Φ:=Φ) (fr:=fr) (o:=o) (H:=H3) (c:=.or a' b') (d:=.bl t) rfl).pG e3 λf=>by cases f
 split at q
 ·rename_i hi;have:=aN.val;rw[hi]at this;refine⟨false,this.bC,?_⟩;rw[aa]at q;refine⟨o,ρ,p.2,az,af q λp2 _ q y H2 eo2 cL=>?_⟩;split at q
  ·rename_i c hc;have h2:=eo2.val;rw[hc]at h2;rw[h2.bC];exact q _ _ (sc H2 c (aN.ext.trans eo2.ext)) cL
  ·exact q.elim
 ·rename_i hi;have:=aN.val;rw[hi]at this;exact⟨true,this.bC,q _ _ (sc H1 true aN.ext) az⟩
 ·exact q.elim
theorem EK{a b:Expr}{rest:List Expr}{a' b':C}{pos:Pos}(ha:PT X a (dP Φ Γ F a'))(hb:PW X (.BoolOp .And (b::rest) pos) (dP Φ Γ F b')):PW X (.BoolOp .And (a::b::rest) pos) (dP Φ Γ F (.and a' b')):=xH (Ew ha hb) λσ H Q q=>by
 obtain⟨o,ρ,S,er,q⟩:=q;rw[xJ]at q;rw[aa]at q;refine⟨o,ρ,S,er,af q λp _ q H1 e1 az=>?_⟩;cases hp:p.1 with
 |true=>rw[hp]at q;rw[Ta rfl];exact⟨o,ρ,p.2,az,af q λp2 _ q H2 e2 cL=>q _ (e1.trans e2) cL⟩
 |false=>rw[hp]at q;rw[S9 ∅];exact q _ e1 az
theorem Iz{a b:Expr}{rest:List Expr}{a' b':C}{pos:Pos}(ha:PT X a (dP Φ Γ F a'))(hb:PW X (.BoolOp .Or (b::rest) pos) (dP Φ Γ F b')):PW X (.BoolOp .Or (a::b::rest) pos) (dP Φ Γ F (.or a' b')):=xH (Ic ha hb) λσ H Q q=>by
 obtain⟨o,ρ,S,er,q⟩:=q;rw[A2]at q;rw[aa]at q;refine⟨o,ρ,S,er,af q λp _ q H1 e1 az=>?_⟩;cases hp:p.1 with
 |false=>rw[hp]at q;rw[S9 ∅];exact⟨o,ρ,p.2,az,af q λp2 _ q H2 e2 cL=>q _ (e1.trans e2) cL⟩
 |true=>rw[hp]at q;rw[Ta rfl];exact q _ e1 az
theorem wF{a b:C}:(lk (.idx a b)=0\/lk (.idx a b)=2)/\(lk (.idx a b)<=1->lk a<=1):=by
 have e:lk (.idx a b)=if lk a<=1 then 0 else 2:=rfl
 rw[e];split
 ·rename_i h;exact⟨.inl rfl,λ_=>h⟩
 ·exact⟨.inr rfl,λz=>⋯⟩
theorem Ip{a b:Expr}{a' b':C}{pos:Pos}(hK:Φ.K=X.K)(hs:lb b)(ha:PE X a (bf Φ Γ F fr a'))(hb:PE X b (bf Φ Γ F fr b')):PE X (.Subscript a b pos) (bf Φ Γ F fr (.idx a' b')):=aU (HY DC ha hb hs) λσ H Q q=>by
 obtain⟨o,ρ,S,er,q⟩:=q;rw[sj]at q;rw[aa]at q;refine⟨o,ρ,S,er,af q λp _ q x H1 aN az=>?_⟩;rw[aa]at q;refine⟨o,ρ,p.2,az,af q λp2 _ q y H2 eo2 cL=>?_⟩;rw[aa]at q;obtain⟨z,hz,q⟩:=iU (Ad _ _) q;obtain⟨k1,k2,k3⟩:=aN.keep eo2.ext er.eg;refine⟨p.1,p2.1,z,hK▸cC k1,hK▸cC eo2.val,hz,λv pr=>?_⟩;rw[<-hK]at pr;have OO:∃i,p2.1= .int i:=by
  cases hd:p2.1 with
  |int i=>exact⟨i,rfl⟩
  |_=>rw[hd]at hz;unfold cw at hz;split at hz<;>first|(rename_i h;cases h;done)|(cases hz;done)|contradiction
 obtain⟨i,hi⟩:=OO;have v2:∀A:Addr->Prop,eF Φ.K A H2 y p2.1:=λA=>by have:=eo2.val;rw[hi]at this ⊢;rw[this.int_inv];exact(RV.dZ (K:=Φ.K) (A:=A)).one
 obtain⟨e1,e2⟩:=EO.pr (fr:=fr) (H:=H) (c:=.idx a' b') cL (aN.ext.trans eo2.ext) (ak.cons k1 (ak.cons eo2.val ak.nil)) (λl=>⟨k3 (wF.2 l),v2 _,trivial⟩) wF.1 pr λz=>by cases z
 exact q v H2 e1 e2
theorem iY{a:Expr}{a':C}(hK:Φ.K=X.K)(ha:PE X a (bf Φ Γ F fr a'))(he:∀whole,isTrue a X.env whole=(do let v<-whole;standAt a.pos;holding [v] (truthy v)))
  (NC:∀ρ S,aZ F a' ρ S=(ev F a' ρ S).bind λx=>(bY x.1).bind λb=>.ok (b,x.2)):PT X a (dP Φ Γ F a'):=mq (xG ha he) λσ H Q q=>by
 obtain⟨o,ρ,S,er,q⟩:=q;rw[NC,aa]at q;refine⟨o,ρ,S,er,af q λp _ q x H1 aN az=>?_⟩;rw[aa]at q;obtain⟨b,hb,q⟩:=cA (Br _) q;refine⟨b,?_,q _ aN.ext az⟩;have hv:=aN.val;rw[hK]at hv;unfold bY at hb;split at hb
 ·rename_i hd;rw[hd]at hv;cases hb;rw[hv.gy];rfl
 ·rename_i hd;rw[hd]at hv;cases hb;rw[hv.bC];rfl
 ·rename_i hd;rw[hd]at hv;cases hb;rw[hv.int_inv];rfl
 ·rename_i hd;rw[hd]at hv;obtain⟨g1,hb⟩:=ay hb;cases hb;rw[hv.str_inv];exact⟨QY (QQ g1) cy,rfl⟩
 ·rename_i hd;rw[hd]at hv;cases hb;obtain⟨a,xs,rfl,h1,_,h2⟩:=hv.lst_inv;refine .inl ⟨xs,cZ.of h1,?_⟩;rw[h2.emp]
 ·rename_i hd;rw[hd]at hv;cases hb;obtain⟨a,xs,rfl,h1,h2⟩:=hv.aq;refine .inr (.inl ⟨xs,du.of h1,?_⟩);rw[h2.emp]
 ·rename_i hd;rw[hd]at hv;cases hb;obtain⟨a,rfl,h1⟩:=hv.ib;refine .inl ⟨_,h1,?_⟩;simp
 ·cases hb
end
section
variable{X:Cx}{Φ:Fm}{Γ:Gm}{F:FT}{fr:Nat->Bool}
theorem DL{a b:C}{c:C}(hc:lk c=if lk a<=1 then 0 else 2):(lk c=0\/lk c=2)/\(lk c<=1->lk a<=1):=by
 rw[hc];split
 ·rename_i h;exact⟨.inl rfl,λ_=>h⟩
 ·exact⟨.inr rfl,λz=>⋯⟩
theorem lI{o:Ow}{ρ:ai}{S:Sx}{σ:L2.St}{H H1 H2:Hp}{a' c:C}{d:Dt}{x:V}{lo hi:Option Int}{Q:VK}(hK:Φ.K=X.K)(hc:lk c=if lk a'<=1 then 0 else 2)(hf:fresh fr c=true->True)(er:ER Φ Γ o ρ S σ H2)(aN:EO Φ.K fr o a' H d x H1)(e:aI o.d H1 H2)
  (q:mR Φ.Ek (fy d lo hi) λz=>∀v H3,EO Φ.K fr o c H z v H3->ER Φ Γ o ρ S σ H3->Q v H3):rS X.K x lo hi H2 Q:=by
 obtain⟨z,hz,q⟩:=iU (Bf _ _ _) q;obtain⟨k1,k2,k3⟩:=aN.keep e er.eg;refine⟨d,z,hK▸cC k1,hz,λv H3 pr=>?_⟩;rw[<-hK]at pr;have hl:=DL (b:=c) hc;obtain⟨e1,e2⟩:=EO.pr (fr:=fr) (H:=H) (c:=c) er (aN.ext.trans e) (ak.cons k1 ak.nil) (λl=>⟨k3 (hl.2 l),trivial⟩) hl.1 pr λ_=>rfl
 exact q v H3 e1 e2
theorem EV{a l:Expr}{a' l':C}{p2 pos:Pos}(hK:Φ.K=X.K)(ha:PE X a (bf Φ Γ F fr a'))(hl:PE X l (bf Φ Γ F fr l')):PE X (.Subscript a (.Slice (some l) none none p2) pos) (bf Φ Γ F fr (.sliL a' l')):=aU (jL qk ha (iX hl) sd) λσ H Q q=>by
 obtain⟨o,ρ,S,er,q⟩:=q;rw[xP]at q;rw[aa]at q;refine⟨o,ρ,S,er,af q λp _ q x H1 aN az=>?_⟩;rw[aa]at q;refine⟨o,ρ,p.2,az,af q λp2 _ q y H2 eo2 cL=>?_⟩;split at q
 ·rename_i i hi;have hv:=eo2.val;rw[hi]at hv;refine⟨i,hv.int_inv,?_⟩;rw[aa]at q;exact lI hK (rfl) (λ_=>trivial) cL aN eo2.ext (af q λz _ q v H3 e1 e2=>q v H3 e1 e2)
 ·exact q.elim
theorem EU{a l:Expr}{a' l':C}{p2 pos:Pos}(hK:Φ.K=X.K)(ha:PE X a (bf Φ Γ F fr a'))(hl:PE X l (bf Φ Γ F fr l')):PE X (.Subscript a (.Slice none (some l) none p2) pos) (bf Φ Γ F fr (.sliH a' l')):=aU (jL qk ha sd (iX hl)) λσ H Q q=>by
 obtain⟨o,ρ,S,er,q⟩:=q;rw[xO]at q;rw[aa]at q;refine⟨o,ρ,S,er,af q λp _ q x H1 aN az=>?_⟩;rw[aa]at q;refine⟨o,ρ,p.2,az,af q λp2 _ q y H2 eo2 cL=>?_⟩;split at q
 ·rename_i i hi;have hv:=eo2.val;rw[hi]at hv;refine⟨i,hv.int_inv,?_⟩;rw[aa]at q;exact lI hK (rfl) (λ_=>trivial) cL aN eo2.ext (af q λz _ q v H3 e1 e2=>q v H3 e1 e2)
 ·exact q.elim
theorem ET{a l h:Expr}{a' l' h':C}{p2 pos:Pos}(hK:Φ.K=X.K)(ha:PE X a (bf Φ Γ F fr a'))(hl:PE X l (bf Φ Γ F fr l'))(hh:PE X h (bf Φ Γ F fr h')):PE X (.Subscript a (.Slice (some l) (some h) none p2) pos) (bf Φ Γ F fr (.sliB a' l' h')):=aU (jL qk ha (iX hl) (iX hh)) λσ H Q q=>by
 obtain⟨o,ρ,S,er,q⟩:=q;rw[oA]at q;rw[aa]at q;refine⟨o,ρ,S,er,af q λp _ q x H1 aN az=>?_⟩;rw[aa]at q;refine⟨o,ρ,p.2,az,af q λp2 gV q y H2 eo2 cL=>?_⟩;split at q
 ·rename_i i hi;have hv:=eo2.val;rw[hi]at hv;rw[aa]at q;refine⟨i,hv.int_inv,o,ρ,p2.2,cL,af q λp3 _ q z H3 eo3 nI=>?_⟩;split at q
  ·rename_i j hj;have hv:=eo3.val;rw[hj]at hv;refine⟨j,hv.int_inv,?_⟩;rw[aa]at q;exact lI hK (rfl) (λ_=>trivial) nI aN (eo2.ext.trans eo3.ext) (af q λz _ q v H3 e1 e2=>q v H3 e1 e2)
  ·exact q.elim
 ·exact q.elim
theorem Iw:PA X [] (kl Φ Γ F .nil):=xa eQ λσ H Q q=>by obtain⟨o,ρ,S,er,q⟩:=q;exact q _ _ ⟨aI.refl,ak.nil,λ_=>ak.nil,λ_=>trivial⟩ er
theorem EM{e:Expr}{es:List Expr}{c:C}{cs:Cs}(hs:starEach (e::es) X.env=(false,eval e X.env)::starEach es X.env)(h:PE X e (bf Φ Γ F fr c))(hr:PA X es (kl Φ Γ F cs)):PA X (e::es) (kl Φ Γ F (.cons c cs)):=xa (bx h hr hs) λσ H Q q=>by obtain⟨o,ρ,S,er,q⟩:=q;rw[bz]at q;rw[aa]at q;refine⟨o,ρ,S,er,af q λp _ q x H1 aN az=>?_⟩;rw[aa]at q;refine⟨o,ρ,p.2,az,af q λp2 _ q xs H2 eo2 cL=>?_⟩;obtain⟨k1,k2,k3⟩:=aN.keep eo2.ext er.eg;have el:oZ (.cons c cs)=max (lk c) (oZ cs):=rfl;exact q _ _ ⟨aN.ext.trans eo2.ext,ak.cons k1 eo2.val,λl=>ak.cons (k2 ⋯) (eo2.mX ⋯),λl=>⟨k3 ⋯,eo2.Bk ⋯⟩⟩ cL
theorem BV{cs:Cs}{c:C}(hc:lk c=if oZ cs=0 then 0 else 2):(lk c<=1->lk c=0)/\(lk c=0->oZ cs=0):=by
 rw[hc];split
 ·rename_i h;exact⟨λ_=>rfl,λ_=>h⟩
 ·exact⟨λz=>⋯,λz=>⋯⟩
theorem IC{es:List Expr}{cs:Cs}{x1:Nat}{pos:Pos}(h:PA X es (kl Φ Γ F cs)):PE X (.Tuple es x1 pos) (bf Φ Γ F fr (.tup cs)):=aU (Ei h) λσ H Q q=>by
 obtain⟨o,ρ,S,er,q⟩:=q;rw[mw]at q;rw[aa]at q;refine⟨o,ρ,S,er,af q λp _ q xs H1 aN az=>?_⟩;obtain⟨g1,q⟩:=aG q;refine⟨by rw[aN.val.length];exact QY (QQ g1) cy,λa ha=>?_⟩;have s:=Mx.bI ha (.tup xs);have hl:=BV (cs:=cs) (c:=.tup cs) (rfl);have q0:lk (.tup cs)=0->RV Φ.K o.A (upd H1 a (.tup xs)) (.ref a) (.tup p.1):=λl=>RV.fT aB ((aN.mX (hl.2 l)).same s)
 exact q _ _ ⟨aN.ext.trans (aI.of_same s),RV.fT aB (aN.val.same s),q0,λl=>(q0 (hl.1 l)).one,λz=>by cases z⟩ (az.grow s)
theorem Ir{es:List Expr}{cs:Cs}{pos:Pos}(h:PA X es (kl Φ Γ F cs)):PE X (.List es pos) (bf Φ Γ F fr (.lst cs)):=aU (xm h) λσ H Q q=>by
 obtain⟨o,ρ,S,er,q⟩:=q;rw[fj]at q;rw[aa]at q;refine⟨o,ρ,S,er,af q λp _ q xs H1 aN az=>?_⟩;obtain⟨g1,q⟩:=aG q;refine⟨by rw[aN.val.length];exact QY (QQ g1) cy,λa ha=>?_⟩;have s:=Mx.bI ha (.lst xs);have hl:=BV (cs:=cs) (c:=.lst cs) (rfl);have na:¬o.A a:=λz=>by obtain⟨y,hy⟩:=az.al a z;rw[ha]at hy;cases hy
 have q0:lk (.lst cs)=0->RV Φ.K o.A (upd H1 a (.lst xs)) (.ref a) (.lst p.1):=λl=>RV.d4 aB na ((aN.mX (hl.2 l)).same s)
 refine q _ _ ⟨aN.ext.trans (aI.of_same s),RV.d4 aB (λz=>na (az.eg a z)) (aN.val.same s),q0,λl=>(q0 (hl.1 l)).one,λ_ ds e=>?_⟩ (az.grow s);cases e;exact⟨a,xs,rfl,az.dF aN.ext ha,aB,(aN.val.avoid ha).same s,λl=>((aN.mX (hl.2 l)).avoid ha).same s⟩
theorem CH(b:BI)(ds:List Dt):∀k,cR b ds≠ .ex k:=by
 intro k;unfold cR;split<;>split
 all_goals first
  |(intro z;cases z;done)
  |(exact bT (λk z=>by cases z) k)
  |(split<;>first|(intro z;cases z;done)|(exact bT (λk z=>by cases z) k)|(split<;>first|(intro z;cases z;done)|(exact bT (λk z=>by cases z) k)))
  |(rename_i T d;unfold lT;split<;>(intro z;cases z))
theorem BW{b:BI}{cs:Cs}:(lk (.bi b cs)=0\/lk (.bi b cs)=2)/\(lk (.bi b cs)<=1->oZ cs<=1):=by
 have e:lk (.bi b cs)=if oZ cs<=1 then 0 else 2:=rfl
 rw[e];split
 ·rename_i h;exact⟨.inl rfl,λ_=>h⟩
 ·exact⟨.inr rfl,λz=>⋯⟩
theorem vL{b:BI}{cs:Cs}{σ:L2.St}{H:Hp}{Q:VK}(hK:Φ.K=X.K)(q:bf Φ Γ F fr (.bi b cs) σ H Q):MO (rP X.K true (cR b)) (kl Φ Γ F cs) σ H Q:=by
 obtain⟨o,ρ,S,er,q⟩:=q;rw[jR]at q;rw[aa]at q;refine⟨o,ρ,S,er,af q λp _ q xs H1 aN az=>?_⟩;rw[aa]at q;obtain⟨z,hz,q⟩:=iU (CH _ _) q;refine⟨p.1,z,hK▸DQ aN.val,hz,λv H3 pr=>?_⟩;rw[<-hK]at pr;obtain⟨e1,e2⟩:=EO.pr (fr:=fr) (H:=H) (c:=.bi b cs) az aN.ext aN.val (λl=>aN.Bk (BW.2 l)) BW.1 pr λ_=>rfl
 exact q v H3 e1 e2
end
def Cs.len:Cs->Nat
 |.nil=>0
 |.cons _ cs=>cs.len+1
theorem qQ{F:FT}:∀{cs:Cs}{ρ:ai}{S:Sx}{p:List Dt×Sx},c6 F cs ρ S= .ok p->p.1.length=cs.len
 |.nil,ρ,S,p,h=>by rw[gG]at h;cases h;rfl
 |.cons c cs,ρ,S,p,h=>by
  rw[bz]at h;cases h1:ev F c ρ S with
  |ok x=>
   rw[h1]at h;simp only[R.ah]at h;cases h2:c6 F cs ρ x.2 with
   |ok y=>rw[h2]at h;cases h;simp[Cs.len,qQ h2]
   |ex k=>rw[h2]at h;cases h
   |bad=>rw[h2]at h;cases h
  |ex k=>rw[h1]at h;cases h
  |bad=>rw[h1]at h;cases h
section
variable{X:Cx}{Φ:Fm}{Γ:Gm}{F:FT}{g:G}{xv:Nat->Value}{CX:j9}{k:Nat}
theorem nJ{H H':Hp}(e:aI (λb=>(none:Option Addr)=some b) H H'):aT H H':=λb o h=>e.kp b o h ∅
theorem qj{K:Frag}{A:Addr->Prop}{H:Hp}:∀{ds:List Dt},ds.all mW=true->ak K A H (ds.map o7) ds
 |[],_=>ak.nil
 |d::ds,h=>by rw[RT,QO]at h;exact ak.cons (oE h.1) (qj h.2)
theorem s_call{x:Str}{f np j:Nat}{eK:List Dt}{e:Expr}{es:List Expr}{cs:Cs}{p pos:Pos}(hX:HX g xv CX k F Φ X)(hG:Gl X x)(nW:(x==("__debug__":Str))=false)(v9:pI x g.fns=some (f,np,eK,false))(hj:j<=eK.length)(hn:cs.len+(eK.drop j).length=np)
  (hs:starEach (e::es) X.env=(false,eval e X.env)::starEach es X.env) (j7:(backTo pos (starEach es X.env)).any (·.1)=false) (ha:PA X (e::es) (kl Φ Γ F cs)):PE X (.Call (.Name x p) (e::es) [] pos) (bf Φ Γ F g.fr (.call f cs (eK.drop j))):=by
 obtain⟨n,fx⟩:=hX.fx;obtain⟨fa,fd,ps,QD,hmg,Pk,hok,hb,PD⟩:=fx.fn x f np eK false v9;obtain⟨tK,q9,O9⟩:=hb j hj;refine aU (AH hok hX.room hG hmg Pk O9 q9 hX.pass ha nW hs j7) λσ H Q q=>?_
 obtain⟨o,ρ,S,er,q⟩:=q;rw[gF]at q;rw[aa]at q;refine⟨o,ρ,S,er,af q λp hp q vs H1 aN az=>?_⟩;have NL:(eK.drop j).all mW=true:=Ro.mpr λd hd=>Ro.mp PD d (List.mem_of_mem_drop hd)
 rw[aa]at q;have el:lk (.call f cs (eK.drop j))=if oZ cs=0 then 0 else 2:=rfl
 refine⟨?_,?_⟩
 ·rw[Q3,aN.val.length,QW,qQ hp];exact hn
 by_cases hl:oZ cs=0
 ·rw[Ta hl]at el;refine⟨o.A,none,p.1++eK.drop j,none,vs++(eK.drop j).map o7,⟨rfl,rfl,rfl⟩,?_,az.al,?_⟩
  ·rw[<-hX.K];exact(aN.mX hl).append (qj NL)
  ·cases hr:F f (p.1++eK.drop j) none with
   |ok y=>rw[hr]at q;intro v H' fo;rw[<-hX.K]at fo;have sm:=nJ fo.ext;refine q v H' ⟨aN.ext.trans (aI.of_same sm),fo.val.weak az.eg,λ_=>fo.val,λ_=>fo.val.one,λfc ds ed=>?_⟩ (az.grow sm);obtain⟨a,xs,h1,h2,h3,h4⟩:=fo.dR fc ds ed;exact⟨a,xs,h1,az.dF aN.ext h2,h3,h4.weak λb z=>z.elim (λz=>.inl (az.eg b z)) .inr,λ_=>h4⟩
   |ex kk=>rw[hr]at q;intro H' e';exact⟨kk,rfl,q,az.ent.trans (e'.mono λb z=>by cases z)⟩
   |bad=>rw[hr]at q;exact q.elim
 ·rw[S9 hl]at el;refine⟨o.wd,none,p.1++eK.drop j,none,vs++(eK.drop j).map o7,⟨rfl,rfl,rfl⟩,?_,az.qD,?_⟩
  ·rw[<-hX.K];exact aN.val.append (qj NL)
  ·cases hr:F f (p.1++eK.drop j) none with
   |ok y=>rw[hr]at q;intro v H' fo;rw[<-hX.K]at fo;have sm:=nJ fo.ext;refine q v H' ⟨aN.ext.trans (aI.of_same sm),fo.val,λz=>by rw[el]at z;omega,λz=>by rw[el]at z;omega,λfc ds ed=>?_⟩ (az.grow sm);obtain⟨a,xs,h1,h2,h3,h4⟩:=fo.dR fc ds ed;exact⟨a,xs,h1,az.dF aN.ext h2,h3,h4,λz=>by rw[el]at z;omega⟩
   |ex kk=>rw[hr]at q;intro H' e';exact⟨kk,rfl,q,az.ent.trans (e'.mono λb z=>by cases z)⟩
   |bad=>rw[hr]at q;exact q.elim
theorem zt{t:Str}{T:String}(h:qt t=some T):bootBuiltins t=some (.type T):=by
 unfold qt at h;split at h
 ·rename_i e;cases h;rw[Ra e];exact PyProof.Rows.boot_str
 split at h
 ·rename_i e;cases h;rw[Ra e];exact PyProof.Rows.boot_int
 split at h
 ·rename_i e;cases h;rw[Ra e];exact PyProof.Rows.boot_bool
 split at h
 ·rename_i e;cases h;rw[Ra e];exact PyProof.Rows.boot_list
 split at h
 ·rename_i e;cases h;rw[Ra e];exact PyProof.Rows.boot_tuple
 ·cases h
theorem Bu{t:Str}{T:String}(h:qt t=some T):T="str"\/T="int"\/T="bool"\/T="list"\/T="tuple":=by
 unfold qt at h;split at h
 ·cases h;simp
 split at h
 ·cases h;simp
 split at h
 ·cases h;simp
 split at h
 ·cases h;simp
 split at h
 ·cases h;simp
 ·cases h
theorem Dy{K:Frag}{A:Addr->Prop}{H:Hp}{x:V}{d:Dt}{T:String}{b:Bool}(hT:T="str"\/T="int"\/T="bool"\/T="list"\/T="tuple")(hx:RV K A H x d)(h:lT T d= .ok b):∃t,f9 K H x t/\PySem.W.kitOne K t (.type T)=some b:=by
 unfold lT at h;split at h
 ·cases h;rw[hx.str_inv];refine⟨_,.str _,?_⟩;rcases hT with rfl|rfl|rfl|rfl|rfl<;>rfl
 ·cases h;rw[hx.int_inv];refine⟨_,.int _,?_⟩;rcases hT with rfl|rfl|rfl|rfl|rfl<;>rfl
 ·cases h;rw[hx.bC];refine⟨_,.bl _,?_⟩;rcases hT with rfl|rfl|rfl|rfl|rfl<;>rfl
 ·cases h;obtain⟨a,xs,rfl,h1,_⟩:=hx.lst_inv;refine⟨_,.lst h1,?_⟩;rcases hT with rfl|rfl|rfl|rfl|rfl<;>rfl
 ·cases h;obtain⟨a,xs,rfl,h1,_⟩:=hx.aq;refine⟨_,.tup h1,?_⟩;rcases hT with rfl|rfl|rfl|rfl|rfl<;>rfl
 ·cases h;rw[hx.gy];refine⟨_,.bM,?_⟩;rcases hT with rfl|rfl|rfl|rfl|rfl<;>rfl
 ·cases h;obtain⟨a,xs,rfl,h1,_⟩:=hx.rQ;refine⟨_,.dK h1,?_⟩;rcases hT with rfl|rfl|rfl|rfl|rfl<;>rfl
 ·cases h
theorem Ai(T:String)(d:Dt):∀k,lT T d≠ .ex k:=by intro k;unfold lT;split<;>(intro z;cases z)
theorem Iq{a:Expr}{a':C}{t:Str}{T:String}{p tp pos:Pos}(hK:Φ.K=X.K)(hG:Gl X "isinstance")(hm:X.mg "isinstance"=none)(OT:Gl X t)(Ps:X.mg t=none)(hT:qt t=some T)(hn:t≠"__name__")(nW:(t==("__debug__":Str))=false)
  (hs:starEach (a::[.Name t tp]) X.env=(false,eval a X.env)::starEach [.Name t tp] X.env) (ha:PE X a (bf Φ Γ F g.fr a')):PE X (.Call (.Name "isinstance" p) [a,.Name t tp] [] pos) (bf Φ Γ F g.fr (.bi (.isi T) (.cons a' .nil))):=by
 refine aU (jK Mx.vm hG hm PyProof.Rows.boot_isinstance (bx ha (bx (rW (v:=.ty T) OT Ps (zt hT) rfl hn nW) eQ) hs) ‹_› ‹_› hs) λσ H Q q=>?_
 obtain⟨o,ρ,S,er,q⟩:=q;rw[jR]at q;simp only[bz,gG]at q;rw[aa,aa]at q;refine⟨o,ρ,S,er,af q λp hp q x H1 aN az=>?_⟩;simp only[R.ah]at q;have q:mR Φ.Ek ((cR (.isi T) [p.1]).bind λd=>R.ok (d,p.2)) _:=q;unfold cR at q;simp only at q;rw[aa,aa]at q;obtain⟨b,hb,q⟩:=cA (Ai _ _) q;obtain⟨ty,k1,k2⟩:=Dy (Bu hT) (hK▸aN.val) hb;refine⟨x,T,ty,b,rfl,k1,k2,q _ _ ?_ az⟩;exact(EO.sc (Φ:=Φ) (fr:=g.fr) (o:=o) (H:=H1) (c:=.bi (.isi T) (.cons a' .nil)) (d:=.bl b) rfl).pG aN.ext λf=>by cases f
end
def LW(K:Frag)(tl:TE):TI:=λσ H R=>tl σ H λx H1=>(∃a xs,x= .ref a/\cZ K H1 a xs/\R (Ju K a) H1)\/(∃a xs,x= .ref a/\du K H1 a xs/\R (Kp K a) H1)\/∃z,x= .str z/\R (Mx.Jw z) H1
theorem Em{X:Cx}{tg l:Expr}{tl:TE}(hl:PE X l tl):PI X tg l (LW X.K tl):=by
 intro pins s σ H R I h;refine ba (hl pins s σ H _ I h) λv s1⟨x,H1,I1,r1,q1⟩=>?_
 rcases q1 with ⟨a,xs,e,hq,q⟩|⟨a,xs,e,hq,q⟩|⟨z,e,q⟩
 ·subst e;cases r1;obtain⟨its,rv,p,hz⟩:=I1.list hq;refine Tu p.isList ?_;refine⟨s1.heap.objs.size,[s1.heap.objs.size],_,_,H1,rfl,I1.kept (t':=s1.toks) λb o e=>QM _ e,uC a _,⟨_,QV _ rfl,rfl,rfl⟩,λb hb=>?_,q⟩;have e:b=s1.heap.objs.size:=by simpa using hb
  subst e;exact I1.lK (QT _) (I1.hok.fresh (QT _))
 ·subst e;cases r1;obtain⟨its,rv,p,hz⟩:=I1.tuple hq;refine Tv (show s1.heap.IsTuple a its.toArray from p) ?_;refine⟨s1.heap.objs.size,[s1.heap.objs.size],_,_,H1,rfl,I1.kept (t':=s1.toks) λb o e=>QM _ e,qr a _,⟨_,QV _ rfl,rfl,rfl⟩,λb hb=>?_,q⟩;have e:b=s1.heap.objs.size:=by simpa using hb
  subst e;exact I1.lK (QT _) (I1.hok.fresh (QT _))
 ·subst e;obtain⟨t,rfl⟩:=r1;exact Mx.xu I1 q
section
variable{X:Cx}{Φ:Fm}{Γ:Gm}{F:FT}{g:G}{k:Nat}{K:Frag}
theorem td{A Y:Addr->Prop}{a:Addr}{xs:List V}{ds:List Dt}{H:Hp}(ha:H a=some (.lst xs))(hn:¬Y a)(hY:∀b,Y b->A b)(h:ak K A H xs ds):Wk K A Y (Ju K a) H ds where
 go:=λi H1 hi e=>⟨xs,xs[i]'(by rw[h.length];exact hi),cZ.of (e.kp _ _ ha hn),∅⟩
 stop:=λH1 e=>⟨xs,cZ.of (e.kp _ _ ha hn),by rw[h.length];exact QT _⟩
 yld:=λi x H1 H2 hi e y=>by obtain⟨rfl,y⟩:=y;obtain⟨d,h1,h2⟩:=h.get (y xs (cZ.of (e.kp _ _ ha hn)));exact⟨aT.refl _,d,h1,λB hB=>(h2.cM (B:=λb=>A b\/B b) λb z=>z.elim .inl (hB b)).mono e (λb z=>.inl (hY b z)) λ_ z=>.inr z⟩
theorem qx{A Y:Addr->Prop}{a:Addr}{xs:List V}{ds:List Dt}{H:Hp}(ha:H a=some (.tup xs))(hY:∀b,Y b->A b)(h:ak K A H xs ds):Wk K A Y (Kp K a) H ds where
 go:=λi H1 hi e=>⟨xs,xs[i]'(by rw[h.length];exact hi),du.of (e.tp _ _ ha),∅⟩
 stop:=λH1 e=>⟨xs,du.of (e.tp _ _ ha),by rw[h.length];exact QT _⟩
 yld:=λi x H1 H2 hi e y=>by obtain⟨rfl,y⟩:=y;obtain⟨d,h1,h2⟩:=h.get (y xs (du.of (e.tp _ _ ha)));exact⟨aT.refl _,d,h1,λB hB=>(h2.cM (B:=λb=>A b\/B b) λb z=>z.elim .inl (hB b)).mono e (λb z=>.inl (hY b z)) λ_ z=>.inr z⟩
theorem qy{A Y:Addr->Prop}{z:Str}{H:Hp}:Wk K A Y (Mx.Jw z) H (z.cps.toList.map λc=>.str ⟨#[c]⟩) where
 go:=λi H1 hi e=>by rw[QW,Q7]at hi;exact hi
 stop:=λH1 e=>by rw[QW,Q7];exact QT _
 yld:=λi x H1 H2 hi e y=>by obtain⟨rfl,c,h1,rfl⟩:=y;exact⟨aT.refl _,.str ⟨#[c]⟩,by rw[Q6,Array.getElem?_toList,h1];rfl,λ_ _=>RV.l6⟩
theorem yE{A Y:Addr->Prop}{a:Addr}{ns:List Int}{H:Hp}(ha:(Rd H a (.lst (ns.map V.int))/\¬Y a)\/KL K a (ns.map V.int)):Wk K A Y (Ju K a) H (ns.map Dt.int):=by
 have sq:∀H1,aI Y H H1->cZ K H1 a (ns.map V.int):=λH1 e=>by
  rcases ha with ⟨h,n⟩|h
  ·exact .inl (EF e n h)
  ·exact .inr h
 refine⟨λi H1 hi e=>?_,λH1 e=>⟨_,sq H1 e,∅⟩,λi x H1 H2 hi e y=>?_⟩
 ·rw[QW]at hi;exact⟨_,.int ns[i],sq H1 e,by simp[hi]⟩
 ·obtain⟨rfl,y⟩:=y;have:=y _ (sq _ e);rw[Q6]at this;obtain⟨m,h1,rfl⟩:=Q2.mp this;exact⟨aT.refl _,.int m,by simp[h1],λ_ _=>RV.dZ⟩
theorem qv{A Y:Addr->Prop}{lo:Int}{n:Nat}{H:Hp}:Wk K A Y (Jv lo n) H (cn lo n) where
 go:=λi H1 hi e=>by unfold cn at hi;simp at hi;exact hi
 stop:=λH1 e=>by unfold cn;simp only[QW,R9];exact QT _
 yld:=λi x H1 H2 hi e y=>by obtain⟨rfl,rfl⟩:=y;unfold cn at hi;simp at hi;exact⟨aT.refl _,.int (lo+i),by unfold cn;simp[hi],λ_ _=>RV.dZ⟩
theorem sD{tg a:Expr}{a':C}(hK:Φ.K=X.K)(ha:PE X a (bf Φ Γ F g.fr a')):PI X tg a (oK Φ Γ F (.seq a')):=ml (Em ha) λσ H Q q=>by
 obtain⟨o,ρ,S,er,q⟩:=q;rw[kP]at q;rw[aa]at q;refine⟨o,ρ,S,er,af q λp he q x H1 aN az=>?_⟩;have yX:tX (.seq a')=lk a':=rfl;cases hd:p.1 with
 |lst ds=>
  rw[hd]at q;have hv:=aN.val;have h0:=aN.mX;have h1:=aN.Bk;rw[hd]at hv h0 h1;obtain⟨b,xs,rfl,f1,fn,f2⟩:=hv.lst_inv;refine .inl ⟨b,xs,rfl,cZ.of f1,q _ _ ⟨aN.ext,λl=>?_,λl=>?_,λl=>by unfold jn at l;rw[he]at l;simp only[hd,rO]at l;cases l⟩ az⟩
  ·rw[<-hK];exact td f1 (λz=>fn (.inr z)) az.da (eF.c8 (h1 (by rw[yX]at l;exact l)) f1)
  ·rw[<-hK];have:=h0 (by rw[yX]at l;exact l);obtain⟨b',zb,e',g1,gn,g2⟩:=this.lst_inv;cases e';exact td g1 gn (λ_ z=>z) g2
 |tup ds=>
  rw[hd]at q;have hv:=aN.val;have h0:=aN.mX;have h1:=aN.Bk;rw[hd]at hv h0 h1;obtain⟨b,xs,rfl,f1,f2⟩:=hv.aq;refine .inr (.inl ⟨b,xs,rfl,du.of f1,q _ _ ⟨aN.ext,λl=>?_,λl=>?_,λl=>?_⟩ az⟩)
  ·rw[<-hK];exact qx f1 az.da (eF.aM (h1 (by rw[yX]at l;exact l)) f1)
  ·rw[<-hK];exact qx f1 (λ_ z=>z) (eF.aM (h0 (by rw[yX]at l;exact l)).one f1)
  ·rw[<-hK];unfold jn at l;rw[he]at l;simp only[hd]at l;exact qx f1 (λ_ z=>z) (eF.aM (hv.rO l:RV Φ.K o.A H1 (.ref b) (.tup ds)).one f1)
 |bR ns=>
  rw[hd]at q;have hv:=aN.val;have h0:=aN.mX;rw[hd]at hv h0;obtain⟨b,rfl,hb⟩:=hv.i8;have JX:cZ X.K H1 b (ns.map V.int):=by
   rw[<-hK];rcases hb with hb|hb
   ·exact .inl hb.1
   ·exact .inr hb
  refine .inl ⟨b,_,rfl,JX,q _ _ ⟨aN.ext,λl=>?_,λl=>?_,λl=>by unfold jn at l;rw[he]at l;simp only[hd,rO]at l;cases l⟩ az⟩
  ·rw[<-hK];exact yE (hb.imp (λz=>⟨z.1,λw=>z.2 (.inr w)⟩) id)
  ·rw[<-hK];obtain⟨b',e',uK⟩:=(h0 (by rw[yX]at l;exact l)).i8;cases e';exact yE uK
 |str z=>rw[hd]at q;have hv:=aN.val;rw[hd]at hv;exact .inr (.inr ⟨z,hv.str_inv,q _ _ ⟨aN.ext,λ_=>qy,λ_=>qy,λ_=>qy⟩ az⟩)
 |_=>rw[hd]at q;exact q.elim
theorem EN{tg a:Expr}{a':C}{p pos:Pos}(hG:Gl X "range")(hm:X.mg "range"=none)(hs:starEach [a] X.env=[(false,eval a X.env)])(ha:PE X a (bf Φ Γ F g.fr a')):PI X tg (.Call (.Name "range" p) [a] [] pos) (oK Φ Γ F (.rng1 a')):=
 ml (ud hG hm (bx ha eQ (by rw[hs];rfl)) hs) λσ H Q q=>by
 obtain⟨o,ρ,S,er,q⟩:=q;rw[qf]at q;rw[aa]at q;refine⟨o,ρ,S,er,af q λp _ q x H1 aN az=>?_⟩;cases hd:p.1 with
 |int j=>rw[hd]at q;obtain⟨g1,q⟩:=aG q;rw[QO]at g1;have a1:=QQ g1.1;have a2:=QQ g1.2;have hl:lim=1000000:=rfl;have hv:=aN.val;rw[hd]at hv;exact⟨j,by rw[hv.int_inv],⋯,⋯,q _ _ ⟨aN.ext,λ_=>qv,λ_=>qv,λ_=>qv⟩ az⟩
 |_=>rw[hd]at q;exact q.elim
theorem qw{A Y:Addr->Prop}{lo c:Int}{n:Nat}{H:Hp}:Wk K A Y (Mx.Ko lo c n) H (ie lo c n) where
 go:=λi H1 hi e=>by unfold ie at hi;simp at hi;exact hi
 stop:=λH1 e=>by unfold ie;simp only[QW,R9];exact QT _
 yld:=λi x H1 H2 hi e y=>by obtain⟨rfl,rfl⟩:=y;unfold ie at hi;simp at hi;exact⟨aT.refl _,.int (lo+i*c),by unfold ie;simp[hi],λ_ _=>RV.dZ⟩
theorem ES{tg a b d:Expr}{a' b' d':C}{p pos:Pos}(hG:Gl X "range")(hm:X.mg "range"=none)(hs:starEach [a,b,d] X.env=[(false,eval a X.env),(false,eval b X.env),(false,eval d X.env)])(tR:starEach [b,d] X.env=[(false,eval b X.env),(false,eval d X.env)])(Dr:starEach [d] X.env=[(false,eval d X.env)])
  (ha:PE X a (bf Φ Γ F g.fr a')) (hb:PE X b (bf Φ Γ F g.fr b')) (hd:PE X d (bf Φ Γ F g.fr d')):PI X tg (.Call (.Name "range" p) [a,b,d] [] pos) (oK Φ Γ F (.rng3 a' b' d')):=
 ml (Mx.ue hG hm (bx ha (bx hb (bx hd eQ (by rw[Dr];rfl)) (by rw[tR,Dr])) (by rw[hs,tR])) hs tR) λσ H Q q=>by
 obtain⟨o,ρ,S,er,q⟩:=q;rw[jQ]at q;rw[aa]at q;refine⟨o,ρ,S,er,af q λp _ q x H1 aN az=>?_⟩;rw[aa]at q;refine⟨o,ρ,p.2,az,af q λp2 _ q y H2 eo2 cL=>?_⟩;rw[aa]at q;refine⟨o,ρ,p2.2,cL,af q λp3 _ q z H3 eo3 nI=>?_⟩;split at q
 ·rename_i i j k h1 h2 h3;obtain⟨g1,q⟩:=aG q;simp only[QO,S7]at g1;have hl:lim=1000000:=rfl;have hv:=aN.val;rw[h1]at hv;have NP:=eo2.val;rw[h2]at NP;have NQ:=eo3.val;rw[h3]at NQ;exact⟨i,j,k,by rw[hv.int_inv,NP.int_inv,NQ.int_inv],⟨g1.1.1,g1.1.2,g1.2.1,g1.2.2⟩,q _ _ ⟨(aN.ext.trans eo2.ext).trans eo3.ext,λ_=>qw,λ_=>qw,λ_=>qw⟩ nI⟩
 ·exact q.elim
theorem yF{A Y:Addr->Prop}{b1 b2:Bool}{l1 l2:Addr}{xs ys:List V}{ds es:List Dt}{H:Hp}(h1:H l1=some (Mx.oY b1 xs))(h2:H l2=some (Mx.oY b2 ys))(n1:b1=false->¬Y l1)(n2:b2=false->¬Y l2)(hY:∀b,Y b->A b)(g1:ak K A H xs ds)(g2:ak K A H ys es):Wk K A Y (Mx.Km b1 b2 l1 l2) H (fZ ds es):=by
 have k1:∀H1,aI Y H H1->H1 l1=some (Mx.oY b1 xs):=λH1 e=>by
  cases b1 with
  |false=>exact e.kp _ _ h1 (n1 rfl)
  |true=>exact e.tp _ _ h1
 have k2:∀H1,aI Y H H1->H1 l2=some (Mx.oY b2 ys):=λH1 e=>by
  cases b2 with
  |false=>exact e.kp _ _ h2 (n2 rfl)
  |true=>exact e.tp _ _ h2
 have hz:(fZ ds es).length=min xs.length ys.length:=by unfold fZ;rw[List.length_zipWith,g1.length,g2.length]
 refine⟨λi H1 hi e=>?_,λH1 e=>?_,λi x H1 H2 hi e y=>?_⟩
 ·rw[hz]at hi;exact⟨xs,ys,xs[i]'⋯,ys[i]'⋯,k1 H1 e,k2 H1 e,∅,∅⟩
 ·exact⟨xs,ys,k1 H1 e,k2 H1 e,⋯⟩
 ·obtain⟨p,x1,y1,rfl,hp,rfl,q⟩:=y;obtain⟨q1,q2⟩:=q xs ys (k1 H1 e) (k2 H1 e);obtain⟨d,a1,a2⟩:=g1.get q1;obtain⟨c,c1,c2⟩:=g2.get q2;have s:=Mx.bI hp (.tup [x1,y1]);refine⟨s,.tup [d,c],by unfold fZ;rw[List.getElem?_zipWith,a1,c1],λB hB=>RV.fT aB ?_⟩;have av:∀{v:V}{dd:Dt},RV K A H v dd->RV K B (upd H1 p (.tup [x1,y1])) v dd:=λh=>((h.cM (B:=λb=>A b\/B b) λb z=>z.elim .inl (hB b)).mono e (λb z=>.inl (hY b z)) λ_ z=>.inr z).same s
  exact ak.cons (av a2) (ak.cons (av c2) ak.nil)
theorem dI{A B:Addr->Prop}{H:Hp}{x:V}{d:Dt}{ds:List Dt}(h:bX d=some ds)(hv:RV K A H x d)(h1:eF K B H x d):∃b l xs,x= .ref l/\H l=some (Mx.oY b xs)/\(b=false->¬A l)/\ak K B H xs ds:=by
 unfold bX at h;split at h
 ·cases h;obtain⟨a,xs,rfl,f1,fn,f2⟩:=hv.lst_inv;exact⟨false,a,xs,rfl,f1,λ_=>fn,eF.c8 h1 f1⟩
 ·cases h;obtain⟨a,xs,rfl,f1,f2⟩:=hv.aq;exact⟨true,a,xs,rfl,f1,λz=>(by cases z),eF.aM h1 f1⟩
 ·cases h
theorem IE{es:List Expr}{kk:Nat}{tp:Pos}{a b:Expr}{a' b':C}{p pos:Pos}(hK:Φ.K=X.K)(hG:Gl X "zip")(hm:X.mg "zip"=none)(hs:starEach [a,b] X.env=[(false,eval a X.env),(false,eval b X.env)])(tR:starEach [b] X.env=[(false,eval b X.env)])(ha:PE X a (bf Φ Γ F g.fr a'))(hb:PE X b (bf Φ Γ F g.fr b')):
  PI X (.Tuple es kk tp) (.Call (.Name "zip" p) [a,b] [] pos) (oK Φ Γ F (.zip a' b')):=
 ml (Mx.AK hG hm (bx ha (bx hb eQ (by rw[tR];rfl)) (by rw[hs,tR])) hs tR) λσ H Q q=>by
 obtain⟨o,ρ,S,er,q⟩:=q;rw[uk]at q;rw[aa]at q;refine⟨o,ρ,S,er,af q λp _ q x H1 aN az=>?_⟩;rw[aa]at q;refine⟨o,ρ,p.2,az,af q λp2 _ q y H2 eo2 cL=>?_⟩;have yX:tX (.zip a' b')=max (lk a') (lk b'):=rfl;split at q
 ·rename_i ds es e1 e2;obtain⟨k1,k2,k3⟩:=aN.keep eo2.ext er.eg;obtain⟨c1,l1,xs,rfl,f1,OH,f2⟩:=dI e1 k1 k1.one;obtain⟨c2,l2,ys,rfl,g1,OM,g2⟩:=dI e2 eo2.val eo2.val.one;refine⟨c1,c2,l1,l2,xs,ys,rfl,f1,g1,q _ _ ⟨aN.ext.trans eo2.ext,λl=>?_,λl=>?_,λl=>by unfold jn at l;cases l⟩ cL⟩
  ·rw[yX]at l;obtain⟨Gf,PZ,zb,e',C1,_,K4⟩:=dI e1 k1 (k3 ⋯);obtain⟨Gg,P0,Kc,FD,C8,_,K7⟩:=dI e2 eo2.val (eo2.Bk ⋯);cases e';cases FD;have i1:c1=Gf/\xs=zb:=by rw[f1]at C1;cases c1<;>cases Gf<;>first|(cases C1;exact⟨rfl,rfl⟩)|cases C1
   have i2:c2=Gg/\ys=Kc:=by rw[g1]at C8;cases c2<;>cases Gg<;>first|(cases C8;exact⟨rfl,rfl⟩)|cases C8
   obtain⟨rfl,rfl⟩:=i1;obtain⟨rfl,rfl⟩:=i2;exact yF f1 g1 (λz w=>OH z (.inr w)) (λz w=>OM z (.inr w)) cL.da K4 K7
  ·rw[yX]at l;obtain⟨Gf,PZ,zb,e',C1,HD,K4⟩:=dI e1 (k2 ⋯) (k2 ⋯).one;obtain⟨Gg,P0,Kc,FD,C8,DR,K7⟩:=dI e2 (eo2.mX ⋯) (eo2.mX ⋯).one;cases e';cases FD;have i1:c1=Gf/\xs=zb:=by rw[f1]at C1;cases c1<;>cases Gf<;>first|(cases C1;exact⟨rfl,rfl⟩)|cases C1
   have i2:c2=Gg/\ys=Kc:=by rw[g1]at C8;cases c2<;>cases Gg<;>first|(cases C8;exact⟨rfl,rfl⟩)|cases C8
   obtain⟨rfl,rfl⟩:=i1;obtain⟨rfl,rfl⟩:=i2;exact yF f1 g1 HD DR (λ_ z=>z) K4 K7
 ·exact q.elim
end
def oM:List Nat->uI
 |[]=>C9
 |i::is=>vT (dC i) (oM is)
def FP(K:Frag):Tg->TG
 |.nm i=>dC i
 |.tp is=>Mx.nN K is.length (oM is)
section
variable{X:Cx}{Φ:Fm}{Γ:Gm}{g:G}{k:Nat}
theorem dN{x:Str}{i:Nat}(h:dM Γ x=some i):wG (Γ.names.lookup x)=true/\cg x=true/\Γ.N[i]?=some x:=by
 unfold dM at h;split at h
 ·rename_i c;rw[QO]at c;exact⟨c.1,c.2,iR h⟩
 ·cases h
theorem i9{x:Str}{i:Nat}(h:slot Γ x=some i):yC (Γ.names.lookup x)=true/\cg x=true/\Γ.N[i]?=some x:=by
 unfold slot at h;split at h
 ·rename_i c;rw[QO]at c;exact⟨c.1,c.2,iR h⟩
 ·cases h
theorem gA{e:Expr}{i:Nat}(h:kN Γ e=some i):∃x p,e= .Name x p/\dM Γ x=some i/\plainS Γ i=true:=by
 unfold kN at h;split at h
 ·rename_i x p;obtain⟨j,h1,h2⟩:=QL.mp h;split at h2
  ·cases h2;exact⟨x,p,rfl,h1,by assumption⟩
  ·cases h2
 ·cases h
theorem Cb{e:Expr}{i:Nat}(gx:GX g Γ X)(h:kN Γ e=some i):PG X e (dC i):=by obtain⟨x,p,rfl,h1,_⟩:=gA h;obtain⟨a,b,c⟩:=dN h1;obtain⟨l1,l2⟩:=gx.loc x a;exact AI (gx.N▸gx.nd) (by rw[gx.N];exact c) l1 l2
theorem yc(gx:GX g Γ X):∀{es:List Expr}{is:List Nat},eP Γ es=some is->Fw X es (oM is)/\es.length=is.length/\∀e∈es,∃x p,e= .Name x p
 |[],is,h=>by cases h;exact⟨AJ,rfl,λe z=>by cases z⟩
 |e::es,is,h=>by
  unfold eP at h;obtain⟨i,h1,h2⟩:=QL.mp h;obtain⟨js,h3,rfl⟩:=Q2.mp h2;obtain⟨k1,k2,k3⟩:=yc gx h3;obtain⟨x,p,ex,_⟩:=gA h1;refine⟨xq (Cb gx h1) k1 (by subst ex;rfl),by simp[k2],λe' z=>?_⟩;rcases QZ.mp z with rfl|z
  ·exact⟨x,p,ex⟩
  ·exact k3 e' z
theorem fU{env:Env}:∀{es:List Expr},(∀e∈es,∃x p,e=Expr.Name x p)->(assignEach es env).length=es.length/\(assignEach es env).findIdx? (·.1)=none
 |[],_=>⟨rfl,rfl⟩
 |e::es,h=>by
  obtain⟨x,p,rfl⟩:=h e QU;obtain⟨h1,h2⟩:=fU (es:=es) (env:=env) λe' z=>h e' (QS _ z)
  have q:assignEach (Expr.Name x p::es) env=(false,assign (.Name x p) env)::assignEach es env:=rfl;rw[q];refine⟨by simp[h1],?_⟩;rw[List.findIdx?_cons];simp[h2]
theorem EW{e:Expr}{t:Tg}(gx:GX g Γ X)(h:vj Γ e=some t):PG X e (FP X.K t):=by
 unfold vj at h;split at h
 ·obtain⟨i,h1,rfl⟩:=Q2.mp h;exact Cb gx h1
 ·obtain⟨is,h1,rfl⟩:=Q2.mp h;obtain⟨k1,k2,k3⟩:=yc gx h1;obtain⟨n1,n2⟩:=fU (env:=X.env) k3;exact Mx.r8 gx.calm k1 (by rw[n1,k2]) n2
 ·cases h
theorem gM{e:Expr}{t:Tg}(h:vj Γ e=some t):∀i∈bA t,plainS Γ i=true/\∃x,dM Γ x=some i:=by
 have many:∀{es:List Expr}{is:List Nat},eP Γ es=some is->∀i∈is,plainS Γ i=true/\∃x,dM Γ x=some i:=by
  intro es
  induction es with
  |nil=>intro is h i hi;cases h;cases hi
  |cons e es ih=>
   intro is h i hi;unfold eP at h;obtain⟨j,h1,h2⟩:=QL.mp h;obtain⟨js,h3,rfl⟩:=Q2.mp h2;rcases QZ.mp hi with rfl|hi
   ·obtain⟨x,p,_,k1,k2⟩:=gA h1;exact⟨k2,x,k1⟩
   ·exact ih h3 i hi
 unfold vj at h;split at h
 ·obtain⟨j,h1,rfl⟩:=Q2.mp h;intro i hi;have:i=j:=by simpa [bA]using hi
  subst this;obtain⟨x,p,_,k1,k2⟩:=gA h1;exact⟨k2,x,k1⟩
 ·obtain⟨is,h1,rfl⟩:=Q2.mp h;exact many h1
 ·cases h
theorem gC{i:Nat}(h:plainS Γ i=true):dX Γ i=false/\Γ.δ≠some i:=by unfold plainS at h;rw[QO]at h;refine⟨by simpa using h.1,λe=>?_⟩;rw[e]at h;simp at h
theorem ER.set{o:Ow}{ρ:ai}{S:Sx}{σ:L2.St}{H:Hp}{i:Nat}{v:V}{d:Dt}(er:ER Φ Γ o ρ S σ H)(hp:plainS Γ i=true)(h:RV Φ.K o.A H v d):ER Φ Γ o (ρ.set i (some d)) S (σ.set i (some v)) H where
 len:=by rw[Sb,Sb];exact er.len
 wa:=er.wa
 da:=er.da
 al:=er.al
 val:=λj e he=>by
  by_cases hj:j=i
  ·subst hj;rw[R4]at he;simp only[Tb]at he;split at he
   ·rename_i cP;cases he;refine⟨v,by rw[RA (by rw[er.len];exact cP)],?_⟩;rw[(gC hp).1,S9 ∅];exact h
   ·cases he
  ·rw[Q4 (SL hj)]at he;obtain⟨w,h1,h2⟩:=er.val j e he;exact⟨w,by rw[Q4 (SL hj)];exact h1,h2⟩
 inj:=λa b c e f ha hb h1 h2 h3 h4=>by
  have na:a≠i:=λz=>by rw[z,(gC hp).1]at ha;cases ha
  have nb:b≠i:=λz=>by rw[z,(gC hp).1]at hb;cases hb
  rw[Q4 (SL na)]at h1 h3;rw[Q4 (SL nb)]at h2 h4;exact er.inj a b c e f ha hb h1 h2 h3 h4
 dk:=Dk.set er.dk h.nd
 drw:=er.drw
 drn:=er.drn
 drs:=λj a hj ha=>by rw[Q4 (λz=>(gC hp).2 (by rw[z];exact hj))];exact er.drs j a hj ha
 dr0:=er.dr0
 ent:=er.ent
theorem gN{o:Ow}{S:Sx}{H:Hp}{Q:L2.St->Hp->Prop}:∀{is:List Nat}{ds:List Dt}{xs:List V}{ρ ρ1:ai}{σ:L2.St},ER Φ Γ o ρ S σ H->(∀i∈is,plainS Γ i=true)->ak Φ.K o.A H xs ds->ej is ds ρ= .ok ρ1->(∀σ1,ER Φ Γ o ρ1 S σ1 H->(∀k,k∉is->σ1[k]?=σ[k]?/\ρ1[k]?=ρ[k]?)->Q σ1 H)->oM is xs σ H Q/\xs.length=is.length
 |[],ds,xs,ρ,ρ1,σ,er,_,hx,h,q=>by
  cases ds with
  |nil=>cases h;rw[hx.nil_inv];exact⟨⟨rfl,q σ er λ_ _=>⟨rfl,rfl⟩⟩,rfl⟩
  |cons=>cases h
 |i::is,ds,xs,ρ,ρ1,σ,er,hp,hx,h,q=>by
  cases ds with
  |nil=>cases h
  |cons d ds=>
   obtain⟨x,r,rfl,h1,h2⟩:=hx.cons_inv;obtain⟨k1,k2⟩:=gN (er.set (hp i QU) h1) (λj hj=>hp j (QS _ hj)) h2 h λσ1 az hk=>q σ1 az λk JP=>by
    have n1:k≠i:=λz=>JP (by rw[z];exact QU)
    obtain⟨a1,a2⟩:=hk k λz=>JP (QS _ z)
    rw[Q4 (SL n1)]at a1 a2;exact⟨a1,a2⟩
   exact⟨⟨x,r,rfl,k1⟩,by simp[k2]⟩
theorem yv{o:Ow}{S:Sx}{H:Hp}{Q:L2.St->Hp->Prop}{t:Tg}{d:Dt}{x:V}{ρ ρ1:ai}{σ:L2.St}(er:ER Φ Γ o ρ S σ H)(hp:∀i∈bA t,plainS Γ i=true)(hx:RV Φ.K o.A H x d)(h:eT t d ρ= .ok ρ1)(q:∀σ1,ER Φ Γ o ρ1 S σ1 H->(∀k,k∉bA t->σ1[k]?=σ[k]?/\ρ1[k]?=ρ[k]?)->Q σ1 H):FP Φ.K t x σ H Q:=by
 cases t with
 |nm i=>
  cases h;exact q _ (er.set (hp i (by simp[bA])) hx) λk hk=>by
   have n1:k≠i:=λz=>hk (by simp[bA,z])
   rw[Q4 (SL n1),Q4 (SL n1)];exact⟨rfl,rfl⟩
 |tp is=>
  unfold eT at h;cases d with
  |tup ds=>obtain⟨a,xs,rfl,h1,h2⟩:=hx.aq;obtain⟨k1,k2⟩:=gN er hp h2 h q;exact⟨a,xs,rfl,.inl (du.of h1),k2,k1⟩
  |lst ds=>obtain⟨a,xs,rfl,h1,_,h2⟩:=hx.lst_inv;obtain⟨k1,k2⟩:=gN er hp h2 h q;exact⟨a,xs,rfl,.inr (cZ.of h1),k2,k1⟩
  |_=>cases h
theorem eU:∀(is:List Nat)(ds:List Dt)(ρ:ai)(k:Nat),ej is ds ρ≠ .ex k
 |[],[],_,_=>λz=>by cases z
 |[],_::_,_,_=>λz=>by cases z
 |_::_,[],_,_=>λz=>by cases z
 |_::is,_::ds,ρ,k=>eU is ds _ k
theorem oG(t:Tg)(d:Dt)(ρ:ai):∀k,eT t d ρ≠ .ex k:=by
 intro k;cases t with
 |nm i=>intro z;cases z
 |tp is=>
  cases d with
  |tup ds=>exact eU is ds ρ k
  |lst ds=>exact eU is ds ρ k
  |_=>intro z;cases z
theorem yf(is:List Nat)(d:Dt)(ρ:ai):∀k,sF is d ρ≠ .ex k:=by
 intro k;cases d with
 |tup ds=>exact eU is ds ρ k
 |lst ds=>exact eU is ds ρ k
 |_=>intro z;cases z
theorem Bp{o:Ow}{S:Sx}{H:Hp}{Q:L2.St->Hp->Prop}{is:List Nat}{d:Dt}{x:V}{ρ ρ1:ai}{σ:L2.St}(er:ER Φ Γ o ρ S σ H)(hp:∀i∈is,plainS Γ i=true)(hx:RV Φ.K o.A H x d)(h:sF is d ρ= .ok ρ1)(q:∀σ1,ER Φ Γ o ρ1 S σ1 H->(∀k,k∉is->σ1[k]?=σ[k]?/\ρ1[k]?=ρ[k]?)->Q σ1 H):Mx.nN Φ.K is.length (oM is) x σ H Q:=by
 cases d with
 |tup ds=>obtain⟨a,xs,rfl,h1,h2⟩:=hx.aq;obtain⟨k1,k2⟩:=gN er hp h2 h q;exact⟨a,xs,rfl,.inl (du.of h1),k2,k1⟩
 |lst ds=>obtain⟨a,xs,rfl,h1,_,h2⟩:=hx.lst_inv;obtain⟨k1,k2⟩:=gN er hp h2 h q;exact⟨a,xs,rfl,.inr (cZ.of h1),k2,k1⟩
 |_=>cases h
theorem IA{es:List Expr}{is:List Nat}{kk:Nat}{tp:Pos}(gx:GX g Γ X)(h:eP Γ es=some is):PG X (.Tuple es kk tp) (Mx.nN X.K is.length (oM is)):=by obtain⟨k1,k2,k3⟩:=yc gx h;obtain⟨n1,n2⟩:=fU (env:=X.env) k3;exact Mx.r8 gx.calm k1 (by rw[n1,k2]) n2
theorem jC{Ek:Nat->Prop}{α:Type}{r:R α}{P:α->Prop}(eB:∀k,r≠ .ex k)(h:mR Ek r P):∃d,r= .ok d/\P d:=by
 cases r with
 |ok a=>exact⟨a,rfl,h⟩
 |ex k=>exact absurd rfl (eB k)
 |bad=>exact h.elim
theorem vg{sc:Scope}(gx:GX g Γ X)(hk:sc.kind= .function)(hb:zp sc.names Γ.names (aY Γ sc).1.N Γ.N (aY Γ sc).2=true):eE X sc (aY Γ sc).1.N (aY Γ sc).2:=by
 unfold zp at hb;rw[QO,QO]at hb;obtain⟨⟨h1,h2⟩,h3⟩:=hb;rw[Ro]at h1 h3;refine⟨hk,λy hy=>?_,λy hy e=>?_,λj i hj=>?_,by simpa using h2⟩
 ·have:=h1 y hy;rw[QO]at this;exact Ra this.1
 ·have:=h1 y hy;rw[QO,e]at this;have h:=this.2;simp at h;exact gx.fre y.1 h
 ·have cP:j<(aY Γ sc).2.length:=(QR.mp hj).1;have:=h3 j (RB.mpr cP);rw[hj]at this;simp only at this;cases hx:(aY Γ sc).1.N[j]? with
  |none=>rw[hx]at this;cases this
  |some x=>rw[hx]at this;simp only[QO]at this;exact⟨x,rfl,by rw[gx.N];exact Ra this.1,Ra this.2⟩
theorem lO{sc:Scope}{C:Addr}{s:Shared}{H:Hp}{fp:List Addr}{xe:Value->Shared->Prop}(gx:GX g Γ X)(B:eE X sc (aY Γ sc).1.N (aY Γ sc).2)(oX:(aY Γ sc).1.N.Nodup):GX g (aY Γ sc).1 (fq X sc (aY Γ sc).1.N C s H fp xe) where
 N:=rfl
 nd:=oX
 vis:=λx h=>by
  have hn:(aY Γ sc).1.names=sc.names:=rfl;rw[hn]at h;cases hl:sc.names.lookup x with
  |none=>rw[hl]at h;cases h
  |some kk=>
   have q:=aJ (env:=X.env) hl;have q':(fq X sc (aY Γ sc).1.N C s H fp xe).env.scope.names.lookup x=_:=q;by_cases hc:(kk==NameKind.free&&X.env.scope.kind== .function&&X.env.kindOf x==some .cell)=true
   ·rw[Ta hc]at q';exact .inr (.inl q')
   ·rw[S9 hc]at q';rw[hl]at h;cases kk with
    |«local»=>exact .inl q'
    |cell=>exact .inr (.inl q')
    |free=>exact .inr (.inr q')
    |globalExplicit=>cases h
    |globalImplicit=>cases h
 loc:=λx h=>by
  have hn:(aY Γ sc).1.names=sc.names:=rfl;rw[hn]at h;cases hl:sc.names.lookup x with
  |none=>rw[hl]at h;cases h
  |some kk=>
   have q:=aJ (env:=X.env) hl;have q':(fq X sc (aY Γ sc).1.N C s H fp xe).env.scope.names.lookup x=_:=q;rw[hl]at h;cases kk with
   |«local»=>rw[S9 ∅]at q';exact⟨.inl q',.inr q'⟩
   |cell=>rw[S9 ∅]at q';exact⟨.inr q',.inl (by show (sc.names.lookup x==some .cell)=true;rw[hl];rfl)⟩
   |free=>cases h
   |globalExplicit=>cases h
   |globalImplicit=>cases h
 gl:=λx h=>by
  have hn:(aY Γ sc).1.names=sc.names:=rfl;rw[hn]at h;cases hl:sc.names.lookup x with
  |none=>rw[hl]at h;cases h
  |some kk=>
   have q:=aJ (env:=X.env) hl;have q':(fq X sc (aY Γ sc).1.N C s H fp xe).env.scope.names.lookup x=_:=q;rw[hl]at h;cases kk with
   |globalImplicit=>rw[S9 ∅]at q';exact q'
   |«local»=>cases h
   |cell=>cases h
   |free=>cases h
   |globalExplicit=>cases h
 fre:=λx h=>by
  have hn:(aY Γ sc).1.names=sc.names:=rfl;rw[hn]at h;rcases h with hl|hl
  ·have q:=aJ (env:=X.env) hl;have q':(fq X sc (aY Γ sc).1.N C s H fp xe).env.scope.names.lookup x=_:=q;rw[S9 ∅]at q';exact .inl q'
  ·have q:=aJ (env:=X.env) hl;have q':(fq X sc (aY Γ sc).1.N C s H fp xe).env.scope.names.lookup x=_:=q;by_cases hc:(NameKind.free==NameKind.free&&X.env.scope.kind== .function&&X.env.kindOf x==some .cell)=true
   ·rw[Ta hc]at q';exact .inl q'
   ·rw[S9 hc]at q';exact .inr q'
 calm:=gx.calm
 un:=gx.un
 con:=gx.con
 bl:=gx.bl
end
theorem join_some{α:Type}{o:Option (Option α)}{a:α}(h:o.join=some a):o=some (some a):=by
 cases o with
 |none=>cases h
 |some x=>cases x with
  |none=>cases h
  |some y=>simp at h;rw[h]
theorem eJ{cap:List (Option Nat)}{ρ:ai}{j:Nat}{d:Dt}(h:(jh cap ρ)[j]?=some (some d)):∃i,cap[j]?=some (some i)/\ρ[i]?=some (some d):=by
 unfold jh at h;rw[Q6]at h;cases hc:cap[j]? with
 |none=>rw[hc]at h;cases h
 |some o=>
  rw[hc]at h;cases o with
  |none=>cases h
  |some i=>refine⟨i,rfl,join_some ?_⟩;simpa using h
theorem dw{cap:List (Option Nat)}{σ:L2.St}{i j:Nat}{v:V}(hc:cap[j]?=some (some i))(h:σ[i]?=some (some v)):(cu cap σ)[j]?=some (some v):=by unfold cu;rw[Q6,hc];simp[h]
theorem rB{δ:Option Nat}:∀{cap:List (Option Nat)}{j:Nat},y7 δ cap=some j->∃i,δ=some i/\cap[j]?=some (some i)
 |[],j,h=>by simp[y7]at h
 |o::r,j,h=>by
  unfold y7 at h;split at h
  ·rename_i c;rw[QO]at c;cases h;cases δ with
   |none=>simp at c
   |some i=>exact⟨i,rfl,by simp[Ra c.2]⟩
  ·obtain⟨k,h1,rfl⟩:=Q2.mp h;obtain⟨i,h2,h3⟩:=rB h1;exact⟨i,h2,by simpa using h3⟩
section
variable{X:Cx}{Φ:Fm}{Γ:Gm}{F:FT}{g:G}{k:Nat}{K:Frag}
def Ow.plus(o:Ow)(D:Addr):Ow:=⟨o.W,λb=>o.A b\/b=D,o.dr⟩
theorem iQ{sc:Scope}{i j:Nat}(hc:(aY Γ sc).2[j]?=some (some i)):dX (aY Γ sc).1 j=dX Γ i:=by have e:(aY Γ sc).1.M=CL (aY Γ sc).2 Γ.M:=rfl;unfold dX;rw[e];unfold CL;rw[Q6,hc];simp
theorem n8{i:Nat}:∀{cap:List (Option Nat)}{j:Nat},cap[j]?=some (some i)->∃j',y7 (some i) cap=some j'/\cap[j']?=some (some i)
 |[],j,h=>by cases h
 |o::r,j,h=>by
  unfold y7;by_cases e:o=some i
  ·refine⟨0,?_,by rw[e];rfl⟩;rw[e];simp
  ·rw[S9 (by simp[e])];cases j with
   |zero=>cases h;exact absurd rfl e
   |succ j=>obtain⟨j',h1,h2⟩:=n8 (cap:=r) (j:=j) h;exact⟨j'+1,by rw[h1];rfl,h2⟩
theorem ER.aY{sc:Scope}{o:Ow}{ρ:ai}{S:Sx}{σ:L2.St}{H:Hp}{D:Addr}(er:ER Φ Γ o ρ S σ H)(B:eE X sc (aY Γ sc).1.N (aY Γ sc).2)(oX:(Rx.aY Γ sc).1.N.Nodup)(hD:H D=none):
  ER Φ (Rx.aY Γ sc).1 (o.plus D) (jh (Rx.aY Γ sc).2 ρ) S (cu (Rx.aY Γ sc).2 σ) (upd H D (.lst [])):=by
 have s:=Mx.bI hD (.lst []);have av:∀b,(o.A b\/b=D)->o.A b\/H b=none:=λb z=>z.elim .inl λe=>.inr (by rw[e];exact hD)
 refine⟨?_,λa h=>.inl (er.wa a h),λa h=>.inl (er.da a h),λa h=>?_,λj d h=>?_,λj ks vs h=>?_,λj j' a d e hm hm' h1 h2 h3 h4=>?_,λa h=>?_,er.drn,λj a hj ha=>?_,er.dr0,er.ent.trans (aI.of_same s)⟩
 ·unfold cu jh;rw[QW,QW]
 ·rcases h with h|h
  ·obtain⟨x,hx⟩:=er.al a h;exact⟨x,s _ _ hx⟩
  ·subst h;exact⟨_,aB⟩
 ·obtain⟨i,hc,hr⟩:=eJ h;obtain⟨v,h1,h2⟩:=er.val i d hr;refine⟨v,dw hc h1,?_⟩;rw[iQ hc];by_cases hm:dX Γ i=true
  ·rw[Ta hm]at h2 ⊢;cases d with
   |lst ds=>obtain⟨a,xs,e1,e2,e3,e4,e5,e6,e7⟩:=h2;exact⟨a,xs,e1,s _ _ e2,.inl e3,e4,e5,e6,(e7.cM av).same s⟩
   |gh=>exact h2.elim
   |_=>exact RV.same (RV.cM av h2) s
  ·rw[S9 hm]at h2 ⊢;exact(h2.cM av).same s
 ·obtain⟨i,hc,hr⟩:=eJ h;have hk:=er.dk i ks vs hr;obtain⟨j',k1,k2⟩:=n8 hc;obtain⟨x,n1,n2,_⟩:=B.tF j i hc;obtain⟨x',HD,DR,_⟩:=B.tF j' i k2;rw[n2]at DR;cases DR;show y7 Γ.κ (Rx.aY Γ sc).2=some j;rw[hk,k1,gw oX n1 HD]
 ·obtain⟨i,hc,hr⟩:=eJ h1;obtain⟨i',kc,JU⟩:=eJ h2;rw[iQ hc]at hm;rw[iQ kc]at hm';obtain⟨v,k1,_⟩:=er.val i _ hr;obtain⟨v',NU,_⟩:=er.val i' _ JU;rw[dw hc k1]at h3;rw[dw kc NU]at h4;cases h3;cases h4;have:=er.inj i i' a d e hm hm' hr JU k1 NU;subst this;obtain⟨x,n1,n2,_⟩:=B.tF j i hc;obtain⟨x',HD,DR,_⟩:=B.tF j' i kc;rw[n2]at DR;cases DR;exact gw oX n1 HD
 ·obtain⟨ns,e1,e2⟩:=er.drw a h;exact⟨ns,e1,s _ _ e2⟩
 ·obtain⟨i,h1,h2⟩:=rB (show y7 Γ.δ (Rx.aY Γ sc).2=some j from hj);exact dw h2 (er.drs i a h1 ha)
theorem vn{sc:Scope}{x:Str}{i:Nat}(B:eE X sc (aY Γ sc).1.N (aY Γ sc).2)(h:dM (aY Γ sc).1 x=some i):(aY Γ sc).2[i]?=some none:=by
 obtain⟨a,b,c⟩:=dN h;have cP:i<(aY Γ sc).2.length:=by rw[B.len];exact(QR.mp c).1
 cases hc:(aY Γ sc).2[i]? with
 |none=>rw[List.getElem?_eq_none_iff]at hc;omega
 |some o=>
  cases o with
  |none=>rfl
  |some j=>obtain⟨y,n1,_,n3⟩:=B.tF i j hc;rw[c]at n1;cases n1;have hn:(aY Γ sc).1.names=sc.names:=rfl;rw[hn,n3]at a;cases a
theorem px{cap:List (Option Nat)}{σ:L2.St}{i:Nat}(h:cap[i]?=some none):(cu cap σ)[i]?=some none:=by unfold cu;rw[Q6,h];rfl
theorem vW{σ0:L2.St}{t:Tg}{K:Frag}(h:∀i∈bA t,σ0[i]?=some none):GL σ0 (FP K t):=by
 have many:∀{is:List Nat},(∀i∈is,σ0[i]?=some none)->Jr σ0 (oM is):=by
  intro is
  induction is with
  |nil=>intro _;exact zR
  |cons i is ih=>intro hs;exact vX (hs i QU) (ih λj hj=>hs j (QS _ hj))
 cases t with
 |nm i=>exact zQ (h i (by simp[bA]))
 |tp is=>intro x σ H Q p q;obtain⟨a,xs,e,h1,h2,q⟩:=q;exact⟨a,xs,e,h1,h2,many h xs σ H Q p q⟩
theorem Bq{sc:Scope}{e:Expr}{t:Tg}{σ:L2.St}(B:eE X sc (aY Γ sc).1.N (aY Γ sc).2)(h:vj (aY Γ sc).1 e=some t):∀i∈bA t,(cu (aY Γ sc).2 σ)[i]?=some none:=λi hi=>by obtain⟨_,x,hx⟩:=gM h i hi;exact px (vn B hx)
def Co(Γ:Gm)(ρ:ai)(σ:L2.St)(D:Addr):Prop:=∀(j:Nat)(d:List Dt),dX Γ j=true->ρ[j]?=some (some (.lst d))->σ[j]?≠some (some (.ref D))
theorem sW{H:Hp}{D:Addr}{acc fm:List V}(hD:H D=some (.lst acc)):aI (λb=>b=D) H (upd H D (.lst fm)):=⟨λb o h n=>by rw[aC n];exact h,Mx.j3 hD⟩
theorem ER.emit{o:Ow}{ρ:ai}{S:Sx}{σ:L2.St}{H:Hp}{D:Addr}{acc fm:List V}(er:ER Φ Γ o ρ S σ H)(hD:H D=some (.lst acc))(hn:Co Γ ρ σ D)(oD:o.A D)(nd:o.dr≠some D)(h0:∀x,Φ.H0 D=some x->Φ.d0=some D):ER Φ Γ o ρ S σ (upd H D (.lst fm)):=by
 have up:aI (λb=>b=D) H (upd H D (.lst fm)):=sW hD;have uA:∀b,b=D->o.A b:=λb z=>by rw[z];exact oD
 refine⟨er.len,er.wa,er.da,λa ha=>?_,λj dd h=>?_,er.dk,er.inj,λa ha=>?_,er.drn,er.drs,er.dr0,?_⟩
 ·obtain⟨x,hx⟩:=er.al a ha;exact up.al hx λz=>⟨_,by rw[z];exact aB⟩
 ·obtain⟨w,h1,h2⟩:=er.val j dd h;refine⟨w,h1,?_⟩;by_cases hm:dX Γ j=true
  ·rw[Ta hm]at h2 ⊢;cases dd with
   |lst ds=>
    obtain⟨a,xs,e1,e2,e3,e4,e5,e6,e7⟩:=h2;have aD:a≠D:=λz=>hn j ds hm h (by rw[h1,e1,z])
    exact⟨a,xs,e1,up.kp _ _ e2 aD,e3,e4,e5,e6,e7.mono up uA λ_ z=>z⟩
   |gh=>exact h2.elim
   |_=>exact RV.mono up uA (λ_ z=>z) h2
  ·rw[S9 hm]at h2 ⊢;exact h2.mono up uA λ_ z=>z
 ·obtain⟨ns,e1,e2⟩:=er.drw a ha;exact⟨ns,e1,up.kp _ _ e2 (λz=>nd (by rw[<-z];exact ha))⟩
 ·refine⟨λb x h n=>up.kp _ _ (er.ent.kp b x h n) λz=>?_,λb xs h=>up.tp _ _ (er.ent.tp b xs h)⟩;subst z;exact n (h0 x h)
theorem Wk.less{A Y Y':Addr->Prop}{J:It}{H:Hp}{ds:List Dt}(w:Wk K A Y J H ds)(h:∀b,Y' b->Y b):Wk K A Y' J H ds:=⟨λi H1 hi e=>w.go i H1 hi (e.mono h),λH1 e=>w.stop H1 (e.mono h),λi x H1 H2 hi e y=>w.yld i x H1 H2 hi (e.mono h) y⟩
theorem IO.Qm{Φ:Fm}{Γ:Gm}{o:Ow}{ρ:ai}{S:Sx}{σ:L2.St}{it:o8}{nl:Bool}{H H1:Hp}{ds:List Dt}{J:It}(io:IO Φ.K o it nl H ds J H1)(er:ER Φ Γ o ρ S σ H1)(h:(decide (tX it<=1)||nl)=true):Wk Φ.K o.A o.d J H1 ds:=by
 rcases RI.mp h with h|h
 ·exact io.w1 (QQ h)
 ·exact(io.w2 h).less er.da
theorem Wk.plus{A Y:Addr->Prop}{J:It}{H:Hp}{ds:List Dt}{D:Addr}(w:Wk K A Y J H ds)(hD:H D=none):Wk K (λb=>A b\/b=D) (λb=>Y b\/b=D) J (upd H D (.lst [])) ds:=by
 have ex:∀H1,aI (λb=>Y b\/b=D) (upd H D (.lst [])) H1->aI Y H H1:=λH1 e=>⟨λb o h n=>by
   have nb:b≠D:=λz=>by rw[z,hD]at h;cases h
   exact e.kp b o (by rw[aC nb];exact h) λz=>z.elim n nb,λb xs h=>by
   have nb:b≠D:=λz=>by rw[z,hD]at h;cases h
   exact e.tp b xs (by rw[aC nb];exact h)⟩
 refine⟨λi H1 hi e=>w.go i H1 hi (ex H1 e),λH1 e=>w.stop H1 (ex H1 e),λi x H1 H2 hi e y=>?_⟩;obtain⟨s,d,hd,hv⟩:=w.yld i x H1 H2 hi (ex H1 e) y;refine⟨s,d,hd,λB hB=>hv B λb hb=>?_⟩;rcases hB b hb with (z|z)|z
 ·exact .inl z
 ·exact .inr (by rw[z];exact hD)
 ·by_cases nb:b=D
  ·exact .inr (by rw[nb];exact hD)
  ·rw[aC nb]at z;exact .inr z
structure zc(Φ:Fm)(Γ:Gm)(o:Ow)(D:Addr)(ρ:ai)(σ:L2.St)(S:Sx)(acc:List V)(es:List Dt)(H:Hp):Prop where
 at':H D=some (.lst acc)
 rv:ak Φ.K o.A H acc es
 er:ER Φ Γ o ρ S σ H
structure Jq(Φ:Fm)(o:Ow)(D:Addr):Prop where
 oD:o.A D
 nd:o.dr≠some D
 h0:∀x,Φ.H0 D=some x->Φ.d0=some D
def Yd(o:Ow)(D:Addr):Addr->Prop:=λb=>o.d b\/b=D
theorem ER.back{o:Ow}{ρ ρ':ai}{S S':Sx}{σ σ':L2.St}{H H':Hp}{D:Addr}(fx:Jq Φ o D)(hn:Co Γ ρ σ D)(er:ER Φ Γ o ρ S σ H)(CZ:ER Φ Γ o ρ' S' σ' H')(e:aI (Yd o D) H H')(Qv:∃acc,H D=some (.lst acc)):ER Φ Γ o ρ S' σ H':=by
 have uA:∀b,Yd o D b->o.A b:=λb z=>z.elim (er.da b) λq=>by rw[q];exact fx.oD
 refine⟨er.len,er.wa,er.da,CZ.al,λj dd h=>?_,er.dk,er.inj,CZ.drw,CZ.drn,er.drs,er.dr0,CZ.ent⟩;obtain⟨w,h1,h2⟩:=er.val j dd h;refine⟨w,h1,?_⟩;by_cases hm:dX Γ j=true
 ·rw[Ta hm]at h2 ⊢;cases dd with
  |lst ds=>
   obtain⟨a,xs,e1,e2,e3,e4,e5,e6,e7⟩:=h2;have aD:a≠D:=λz=>hn j ds hm h (by rw[h1,e1,z])
   exact⟨a,xs,e1,e.kp _ _ e2 (λz=>z.elim e5 aD),e3,e4,e5,e6,e7.mono e uA λ_ z=>z⟩
  |gh=>exact h2.elim
  |_=>exact RV.mono e uA (λ_ z=>z) h2
 ·rw[S9 hm]at h2 ⊢;exact h2.mono e uA λ_ z=>z
theorem Fc{tg:Tg}{ts:Cs}{o:Ow}{D:Addr}{ρ:ai}{σ:L2.St}{J:It}{ds:List Dt}{H1:Hp}{tb:TB}{fb:ai->Sx->R (List Dt×Sx)}{m a0:Nat}(fx:Jq Φ o D)(hp:∀i∈bA tg,plainS Γ i=true)(wk:Wk Φ.K o.A (Yd o D) J H1 ds)(hn:Co Γ ρ σ D)
  (hb:∀(ρ1:ai)(σ1:L2.St)(S:Sx)(acc:List V)(es:List Dt)(H2:Hp)(P:List Dt×Sx->Prop),Co Γ ρ1 σ1 D->(∀k,k∉bA tg->σ1[k]?=σ[k]?/\ρ1[k]?=ρ[k]?)->zc Φ Γ o D ρ1 σ1 S acc es H2->aI (Yd o D) H1 H2->acc.length+m<=a0+ds.length*m->0<ds.length->mR Φ.Ek (fb ρ1 S) P->
   ∀Q:Hp->Prop,(∀H5 r je,P r->zc Φ Γ o D ρ1 σ1 r.2 je (es++r.1) H5->aI (Yd o D) H2 H5->je.length<=acc.length+m->Q H5)->tb σ1 H2 Q)
  {S:Sx} {acc:List V} {es:List Dt} {P:List Dt×Sx->Prop} (c:zc Φ Γ o D ρ σ S acc es H1) (ha:acc.length<=a0) (q:mR Φ.Ek (cU (dQ tg (fu F ts) fb ρ) ds S) P) {Fn:Hp->Prop}
  (fin:∀H5 r je,P r->zc Φ Γ o D ρ σ r.2 je (es++r.1) H5->aI (Yd o D) H1 H5->je.length<=a0+ds.length*m->Fn H5):qC J (FP Φ.K tg) (sU Φ Γ F ts) tb σ Fn H1:=by
 refine⟨λi mm H2=>mm=ds.length-i/\i<=ds.length/\∃S2 nh yS,zc Φ Γ o D ρ σ S2 nh (es++yS) H2/\aI (Yd o D) H1 H2/\nh.length<=a0+i*m/\mR Φ.Ek (cU (dQ tg (fu F ts) fb ρ) (ds.drop i) S2) λr=>P (yS++r.1,r.2),
  ⟨_,rfl,SJ _,S,acc,[],by rw[Rt];exact c,aI.refl,⋯,q⟩,?_⟩
 rintro i mm H2 ⟨rfl,hi,S2,nh,yS,c2,yT,fE,q⟩;by_cases cP:i<ds.length
 ·refine .inr ⟨wk.go i H2 cP yT,λx H3 y=>?_⟩;obtain⟨s3,d,hd,hx⟩:=wk.yld i x H2 H3 cP yT y;have wq:=hx o.A λb z=>.inl z
  have nI:=c2.er.grow s3;have KY:ds.drop i=d::ds.drop (i+1):=by rw[RW cP];congr 1;exact(QR.mp hd).2
  rw[KY]at q;unfold cU at q;rw[aa]at q;unfold dQ at q;rw[aa]at q;obtain⟨ρ1,hρ,q⟩:=jC (oG _ _ _) q;refine yv nI hp wq hρ λσ1 K2 hk=>?_
  rw[aa]at q;refine⟨o,ρ1,S2,K2,af q λb _ q H4 e4 BG=>?_⟩;have Ni:aI (Yd o D) H3 H4:=e4.mono λb z=>.inl z
  have P4:Co Γ ρ1 σ1 D:=λj dd hm h1 h2=>by
   have nj:j∉bA tg:=λz=>by rw[(gC (hp j z)).1]at hm;cases hm
   obtain⟨k1,k2⟩:=hk j nj;rw[k1]at h2;rw[k2]at h1;exact hn j dd hm h1 h2
  have uA:∀b,Yd o D b->o.A b:=λb z=>z.elim (nI.da b) λq=>by rw[q];exact fx.oD
  have GK:H4 D=some (.lst nh):=e4.kp _ _ (s3 _ _ c2.at') fx.nd;have NJ:ak Φ.K o.A H4 nh (es++yS):=(c2.rv.same s3).mono Ni uA λ_ z=>z
  have Gx:aI (Yd o D) H2 H4:=(aI.of_same s3).trans Ni;have hmul:ds.length*m=(ds.length-(i+1))*m+(i*m+m):=by rw[<-Nat.succ_mul i m,<-Nat.add_mul];congr 1;omega
  have ND:(i+1)*m=i*m+m:=Nat.succ_mul i m;have hz:0<=(ds.length-(i+1))*m:=SJ _;cases uK:b.1 with
  |false=>rw[uK]at q;refine DA ?_;refine⟨ds.length-(i+1),⋯,rfl,cP,b.2,nh,yS,⟨GK,NJ,c2.er.back fx hn BG Gx ⟨_,c2.at'⟩⟩,yT.trans Gx,⋯,?_⟩;simp only[RF,S8]at q;have q:mR Φ.Ek ((cU (dQ tg (fu F ts) fb ρ) (ds.drop (i+1)) b.2).bind λq=>R.ok (([]:List Dt)++q.1,q.2)) _:=q;rw[aa]at q;exact af q λr _ q=>q
  |true=>
   rw[uK]at q;refine DB ?_;simp only[Tb]at q;refine hb ρ1 σ1 b.2 nh (es++yS) H4 _ P4 hk ⟨GK,NJ,BG⟩ (yT.trans Gx) ⋯ ⋯ q _ λH5 r je q c5 e5 l5=>?_
   rw[aa]at q;refine⟨ds.length-(i+1),⋯,rfl,cP,r.2,je,yS++r.1,⟨c5.at',by rw[<-Q1];exact c5.rv,c2.er.back fx hn c5.er (Gx.trans e5) ⟨_,c2.at'⟩⟩,(yT.trans Gx).trans e5,⋯,af q λr' _ q=>?_⟩;have q:P (yS++(r.1++r'.1),r'.2):=q;rw[Q1];exact q
 ·have e:i=ds.length:=⋯
  subst e;refine .inl ⟨wk.stop H2 yT,?_⟩;rw[List.drop_length]at q;have q:P (yS++[],S2):=q;rw[Rt]at q;exact fin H2 (yS,S2) nh q c2 yT fE
theorem CY{o:Ow}{D:Addr}{c:C}{ρ:ai}{σ:L2.St}{S:Sx}{acc:List V}{es:List Dt}{H:Hp}{P:List Dt×Sx->Prop}(fx:Jq Φ o D)(hn:Co Γ ρ σ D)(cs:zc Φ Γ o D ρ σ S acc es H)(hl:acc.length<sizeLine)
  (q:mR Φ.Ek ((ev F c ρ S).bind λy=>ae (cG c y.1) (.ok ([y.1],y.2))) P) (Q:Hp->Prop) (fin:∀H5 r je,P r->zc Φ Γ o D ρ σ r.2 je (es++r.1) H5->aI (Yd o D) H H5->je.length<=acc.length+1->Q H5):yo D (bf Φ Γ F g.fr c) σ H Q:=by
 rw[aa]at q;refine⟨o,ρ,S,cs.er,af q λy _ q v H5 eo5 er6=>?_⟩;obtain⟨gs,q⟩:=aG q;have e5:aI (Yd o D) H H5:=eo5.ext.mono λb z=>.inl z
 have Lk:H5 D=some (.lst acc):=eo5.ext.kp _ _ cs.at' fx.nd;have uA:∀b,Yd o D b->o.A b:=λb z=>z.elim (cs.er.da b) λq=>by rw[q];exact fx.oD
 have hv:RV Φ.K o.A H5 v y.1:=by
  unfold cG at gs;rw[Ru]at gs;rcases gs with gs|gs
  ·exact eo5.mX (QQ gs)
  ·exact eo5.val.rO gs
 have up:aI (λb=>b=D) H5 (upd H5 D (.lst (acc++[v]))):=sW Lk;refine⟨acc,Lk,hl,fin _ ([y.1],y.2) (acc++[v]) q ⟨aB,?_,er6.emit Lk hn fx.oD fx.nd fx.h0⟩ (e5.trans (up.mono λb z=>.inr z)) ∅⟩;exact((cs.rv.mono e5 uA λ_ z=>z).append (ak.cons hv ak.nil)).mono up (λb z=>by rw[z];exact fx.oD) λ_ z=>z
theorem Bt:2*lim<sizeLine:=by rw[Th];decide
theorem tw{sc:Scope}{o:Ow}{ρ:ai}{S:Sx}{σ:L2.St}{H:Hp}{D:Addr}(er:ER Φ Γ o ρ S σ H)(B:eE X sc (aY Γ sc).1.N (aY Γ sc).2)(oX:(Rx.aY Γ sc).1.N.Nodup)(hD:H D=none):
  Jq Φ (o.plus D) D/\Co (aY Γ sc).1 (jh (aY Γ sc).2 ρ) (cu (aY Γ sc).2 σ) D/\zc Φ (aY Γ sc).1 (o.plus D) D (jh (aY Γ sc).2 ρ) (cu (aY Γ sc).2 σ) S [] [] (upd H D (.lst [])):=by
 refine⟨⟨.inr rfl,λz=>?_,λx hx=>?_⟩,λj d hm h1 h2=>?_,⟨aB,ak.nil,er.aY B oX hD⟩⟩
 ·obtain⟨y,hy⟩:=er.al D (er.da D z);rw[hD]at hy;cases hy
 ·by_cases hz:Φ.d0=some D
  ·exact hz
  ·have:=er.ent.kp D x hx hz;rw[hD]at this;cases this
 ·obtain⟨ii,hc,Pz⟩:=eJ h1;obtain⟨w',k1,k2⟩:=er.val ii _ Pz;rw[<-iQ hc,Ta hm]at k2;obtain⟨a',zb,KW,FD,_⟩:=k2;rw[dw hc k1]at h2;cases h2;cases KW;rw[hD]at FD;cases FD
theorem zq{sc:Scope}{o:Ow}{ρ:ai}{S S2:Sx}{σ:L2.St}{H H1 H2:Hp}{D:Addr}{acc:List V}{ds:List Dt}{c:C}(hc:lk c=0)(io:aI o.d H H1)(az:ER Φ Γ o ρ S σ H1)(hD:H1 D=none){ρ2:ai}{σ2:L2.St}(cs:zc Φ (aY Γ sc).1 (o.plus D) D ρ2 σ2 S2 acc ds H2)(ex:aI (Yd (o.plus D) D) (upd H1 D (.lst [])) H2):
  EO Φ.K g.fr o c H (.lst ds) (.ref D) H2/\ER Φ Γ o ρ S2 σ H2:=by
 have yT:aI o.d H1 H2:=⟨λb x h n=>by
   have nb:b≠D:=λz=>by rw[z,hD]at h;cases h
   exact ex.kp b x (by rw[aC nb];exact h) λz=>z.elim n nb,λb xs h=>by
   have nb:b≠D:=λz=>by rw[z,hD]at h;cases h
   exact ex.tp b xs (by rw[aC nb];exact h)⟩
 have nA:¬o.A D:=λz=>by obtain⟨y,hy⟩:=az.al D z;rw[hD]at hy;cases hy
 have dn:H D=none:=az.dF io hD;have v0:RV Φ.K o.A H2 (.ref D) (.lst ds):=RV.d4 cs.at' nA (cs.rv.weak λb z=>.inl z);refine⟨⟨io.trans yT,v0.weak az.eg,λ_=>v0,λ_=>v0.one,λ_ uJ ed=>?_⟩,az.step yT (λa ha=>cs.er.drw a ha) cs.er.drn⟩;cases ed;exact⟨D,acc,rfl,dn,cs.at',cs.rv.weak λb z=>z.elim (λz=>.inl (az.eg b z)) .inr,λ_=>cs.rv⟩
theorem yb{sc:Scope}{tg:Expr}{it:o8}{t:Tg}{ts:Cs}{c:C}(hK:Φ.K=X.K)(B:eE X sc (aY Γ sc).1.N (aY Γ sc).2)(oX:(aY Γ sc).1.N.Nodup)(JY:vj (aY Γ sc).1 tg=some t){σ:L2.St}{H:Hp}{Q:VK}
  (q:bf Φ Γ F g.fr (.comp (aY Γ sc).2 it t ts c) σ H Q):qo (aY Γ sc).2 (oK Φ Γ F it) (FP X.K t) (sU Φ (aY Γ sc).1 F ts) (λD=>yo D (bf Φ (aY Γ sc).1 F g.fr c)) σ H Q:=by
 obtain⟨o,ρ,S,er,q⟩:=q;rw[oz]at q;rw[aa]at q;refine⟨o,ρ,S,er,af q λp _ q J H1 io az D hD=>⟨vW (Bq B JY),?_⟩⟩;obtain⟨g1,q⟩:=aG q;rw[QO]at g1;have z9:=QQ g1.1;have wk:=(io.Qm az g1.2).plus hD;rw[aa]at q;have nY:=Bt;obtain⟨fx,hn,cs⟩:=tw (X:=X) az B oX hD;rw[<-hK];refine Fc (m:=1) (a0:=0) fx (λi hi=>(gM JY i hi).1) wk hn (λρ1 σ1 S1 acc es H2 P n1 hk c1 e1 hl _ q Q fin=>CY fx n1 c1 ⋯ q Q fin) cs (SJ _) q λH5 r je q c5 e5 l5=>?_
 obtain⟨k1,k2⟩:=zq (g:=g) (c:=.comp (aY Γ sc).2 it t ts c) rfl io.ext az hD c5 e5;exact q _ _ k1 k2
end
end Rx
end
section
namespace Mx
open PySem PySem.Spec PyProof.Rows L2 PySem.SeqAt
section
variable{X:Cx}
def Qf:TE:=λ_ H Q=>∀p,H p=none->Q (.ref p) (upd H p (.dK []))
theorem HW{pos:Pos}:PE X (.Dict [] [] pos) Qf:=λpins s σ H Q I h=>by have hb:(s.heap.objs.size==sysModules)=false:=SZ.mpr (SL (Rj (Nat.lt_trans ‹_› (I.mod.glob.keeps I.bk).lt)));exact wpAny_Dict_empty ⟨.ref s.heap.objs.size,_,I.laid (a:=s.heap.objs.size) (o:=.dK []) (t':=s.toks) (λb u e=>QM _ e) (QT _) ⟨SJ _,hb,[],Paired.nil,Heap.DictOf.new s.heap⟩,rfl,h _ (I.hok.fresh (QT _))⟩
end
end Mx
end
section
namespace Rx
open PySem PySem.W PySem.Spec PyProof.Rows L2 PySem.SeqAt
section
variable{X:Cx}{Φ:Fm}{Γ:Gm}{F:FT}{g:G}
theorem Gj{ρ:ai}{S:Sx}:ev F JI ρ S= .ok (.obj [] [],S):=rfl
theorem MH{pos:Pos}:PE X (.Dict [] [] pos) (bf Φ Γ F g.fr JI):=by
 have h:=@Mx.HW X pos;generalize Expr.Dict [] [] pos=e at h ⊢;refine aU h λσ H Q q=>?_
 obtain⟨o,ρ,S,er,q⟩:=q;rw[Gj]at q;have q:∀v H',EO Φ.K g.fr o JI H (.obj [] []) v H'->ER Φ Γ o ρ S σ H'->Q v H':=q;intro p hp;have s1:=Mx.bI hp (.dK []);have val:∀A:Addr->Prop,(∀a,A a->∃y,H a=some y)->RV Φ.K A (upd H p (.dK [])) (.ref p) (.obj [] []):=λA hA=>
  RV.wI aB (λz=>by obtain⟨y,e⟩:=hA p z;rw[hp]at e;cases e) rfl ak.nil
 exact q _ _ ⟨aI.of_same s1,val _ er.qD,λ_=>val _ er.al,λ_=>(val _ er.al).one,λf=>by cases f⟩ (er.grow s1)
end
def zX:Expr->Bool
 |.Starred ..=>false
 |.Slice ..=>false
 |.Set ..=>false
 |.Call (.Name _ _) [] _ _=>false
 |_=>true
theorem bu{e:Expr}(h:zX e=true)(es:List Expr)(env:Env):starEach (e::es) env=(false,eval e env)::starEach es env:=by cases e<;>first|rfl|(cases h)
theorem GY{e:Expr}(h:zX e=true):lb e:=by intro o i;cases e<;>first|rfl|(cases h)
theorem qZ{e:Expr}(h:zX e=true)(op:CmpOp):behindInMarks op e=false:=by cases e<;>first|rfl|(cases h)
theorem pM{e:Expr}(h:zX e=true)(env:Env):∀x,foldedSetIterable e env x=pure x:=by intro x;cases e<;>first|rfl|(cases h)
theorem bU{X:Cx}{Φ:Fm}{Γ:Gm}{F:FT}{e:Expr}{c:C}(h:∀ρ S,aZ F c ρ S= .bad):PT X e (dP Φ Γ F c):=λpins s σ H Q I q=>by obtain⟨o,ρ,S,er,q⟩:=q;rw[h]at q;exact q.elim
section
variable{g:G}{xv:Nat->Value}{CX:j9}{k:Nat}{F:FT}
structure On(g:G)(F:FT)(n:Nat)(Γ:Gm)(X:Cx)(Φ:Fm):Prop where
 e:∀e c,cE n g Γ e=some c->PE X e (bf Φ Γ F g.fr c)/\PT X e (dP Φ Γ F c)/\zX e=true
 es:∀es cs,vi n g Γ es=some cs->PA X es (kl Φ Γ F cs)/\cs.len=es.length/\∀e∈es,zX e=true
 ts:∀es cs,Gh n g Γ es=some cs->Cr X es (sU Φ Γ F cs)
 b:∀o es c pos,cB n g Γ o es=some c->PE X (.BoolOp o es pos) (bf Φ Γ F g.fr c)/\PW X (.BoolOp o es pos) (dP Φ Γ F c)
 i:∀tg e it,cI n g Γ tg e=some it->PI X tg e (oK Φ Γ F it)/\zX e=true
 c:∀f a as c p pos,qK n g Γ f a as=some c->PE X (.Call (.Name f p) (a::as) [] pos) (bf Φ Γ F g.fr c)/\PT X (.Call (.Name f p) (a::as) [] pos) (dP Φ Γ F c)
theorem ni{es:List Expr}{env:Env}{pos:Pos}(h:∀e∈es,zX e=true):(backTo pos (starEach es env)).any (·.1)=false:=by
 induction es with
 |nil=>rfl
 |cons e es ih=>rw[bu (h e QU)];show (false||(backTo pos (starEach es env)).any (·.1))=false;rw[ih λe' z=>h e' (QS _ z)];rfl
theorem jE{x y:Str}(h:(x==y)=false):x≠y:=λe=>by subst e;rw[S4]at h;cases h
theorem bj{x:Str}(h:cg x=true):(x==("__debug__":Str))=false/\(x==("__classdict__":Str))=false/\x≠"__name__":=by unfold cg at h;rw[QO,QO]at h;have h1:=h.1.1;have h2:=h.1.2;have h3:=h.2;rw[RH]at h1 h2 h3;exact⟨h1,h2,jE h3⟩
def MY:C->Bool
 |.nt _|.and ..|.or ..|.cmp ..|.ch ..|.var _|.mvr _|.call ..|.callD ..|.bi ..|.idx ..=>true
 |_=>false
theorem bt{F:FT}{c:C}{ρ:ai}{S:Sx}(h:MY c=false):aZ F c ρ S= .bad:=by cases c<;>first|rfl|cases h
theorem ve:∀t∈vd,EG t.2.2=true/\bootBuiltins t.1=some (FB t.2.2):=by
 intro t ht;simp only[vd,QZ,Q0,Te]at ht;rcases ht with rfl|rfl|rfl|rfl|rfl|rfl|rfl|rfl
 ·exact⟨rfl,PySem.boot_len⟩
 ·exact⟨rfl,PyProof.Rows.boot_min⟩
 ·exact⟨rfl,PyProof.Rows.boot_max⟩
 ·exact⟨rfl,PyProof.Rows.boot_sorted⟩
 ·exact⟨rfl,PyProof.Rows.boot_tuple⟩
 ·exact⟨rfl,PyProof.Rows.boot_list⟩
 ·exact⟨rfl,PyProof.Rows.boot_int⟩
 ·exact⟨rfl,PyProof.Rows.boot_str⟩
theorem zm{x:Str}{n:Nat}{b:BI}(h:pk x n=some b):EG b=true/\bootBuiltins x=some (FB b):=by unfold pk at h;obtain⟨t,h1,rfl⟩:=Q2.mp h;have hm:=List.mem_of_find?_eq_some h1;have hp:=List.find?_some h1;rw[QO]at hp;rw[<-Ra hp.1];exact ve t hm
theorem CI{b:BI}(h:EG b=true):(∃id,FB b= .builtin id)\/∃T,FB b= .type T:=by cases b<;>first|exact .inl ⟨_,rfl⟩|exact .inr ⟨_,rfl⟩|cases h
theorem fN{x:Str}(h:g.bls.contains x=true):x∈g.bls:=by simpa using h
theorem ME{X:Cx}{Φ:Fm}{Γ:Gm}{x:Str}{n:Nat}{b:BI}{a:Expr}{as:List Expr}{cs:Cs}{p pos:Pos}(hK:Φ.K=X.K)(gx:GX g Γ X)(hG:Gl X x)(hm:X.mg x=none)(hx:cg x=true)(hb:pk x n=some b)(hs:starEach (a::as) X.env=(false,eval a X.env)::starEach as X.env)(j7:(backTo pos (starEach as X.env)).any (·.1)=false)
  (ha:PA X (a::as) (kl Φ Γ F cs)):PE X (.Call (.Name x p) (a::as) [] pos) (bf Φ Γ F g.fr (.bi b cs)):=by
 obtain⟨h1,h2⟩:=zm hb;obtain⟨n1,n2,n3⟩:=bj hx;have hc:=zo (X:=X) b h1 gx.calm gx.un;rcases CI h1 with ⟨id,e⟩|⟨T,e⟩
 ·rw[e]at h2 hc;exact aU (jK hc hG hm h2 ha n3 n1 hs j7) λσ H Q q=>vL hK q
 ·rw[e]at h2 hc;exact aU (uc hc hG hm h2 ha n3 n1 hs j7) λσ H Q q=>vL hK q
theorem wu{X:Cx}{Φ:Fm}{sc:Scope}{N':List Str}{C:Addr}{s:Shared}{H:Hp}{fp:List Addr}(hX:HX g xv CX k F Φ X):HX g xv CX k F Φ (fq X sc N' C s H fp (Bv X sc N' (jc Φ xv) C s H fp)) where
 K:=hX.K
 P:=hX.P
 w:=hX.w
 fx:=hX.fx
 room:=hX.room
 cx:=hX.cx
 st:=sO hX.st
 xgx:=λe s' h=>Fo h
 xk:=hX.xk
theorem gI(n:Nat):∀(Γ:Gm)(X:Cx)(Φ:Fm),GX g Γ X->HX g xv CX k F Φ X->On g F n Γ X Φ:=by
 induction n with
 |zero=>intro Γ X Φ gx hX;exact⟨λe c h=>by simp[cE]at h,λe c h=>by simp[vi]at h,λe c h=>by simp[Gh]at h,λo e c p h=>by simp[cB]at h,λo e c h=>by simp[cI]at h,λf a as c p q h=>by simp[qK]at h⟩
 |succ n ih=>
  intro Γ X Φ gx hX;have I:=ih Γ X Φ gx hX;have hK:=hX.K;have hu:=gx.un;refine⟨λe c h=>?_,λes cs h=>?_,λes cs h=>?_,λo es c pos h=>?_,λtg e it h=>?_,λf a as c p pos h=>?_⟩
  ·
   unfold cE at h;split at h
   ·split at h
    ·cases h;exact⟨oF rfl Ef,bU λρ S=>bt rfl,rfl⟩
    ·cases h;exact⟨oF rfl Eh,bU λρ S=>bt rfl,rfl⟩
    ·cases h;exact⟨oF rfl B1,bU λρ S=>bt rfl,rfl⟩
    ·cases h;exact⟨oF rfl Eg,bU λρ S=>bt rfl,rfl⟩
    ·cases h
   ·
    rename_i x p;split at h
    ·rename_i i hi;obtain⟨v1,v2,v3⟩:=i9 hi;obtain⟨n1,n2,n3⟩:=bj v2;have hv:PE X (.Name x p) (j0 i):=qa (by rw[gx.N];exact v3) (gx.vis x v1) n1 n2;split at h
     ·cases h
     rename_i hδκ;split at h
     ·rename_i hm;cases h;have:=Iu (Φ:=Φ) (F:=F) (fr:=g.fr) hv hm λz=>hδκ (by simp[z])
      exact⟨this,iY hK this (λ_=>rfl) (λρ S=>by rw[ow,mv];cases bp ρ i<;>rfl),rfl⟩
     ·rename_i hm;cases h;have:=ID (Φ:=Φ) (F:=F) (fr:=g.fr) hv ‹hm›;exact⟨this,iY hK this (λ_=>rfl) (λρ S=>by rw[xN,iZ];cases bp ρ i<;>rfl),rfl⟩
    ·split at h
     ·rename_i hg;rw[QO]at hg;obtain⟨d,h1,rfl⟩:=Q2.mp h;obtain⟨u,k1,k2,k3⟩:=gx.con x d h1;exact⟨oF k1 (rZ (gx.gl x hg.1) k2 k3 (bj hg.2).1),bU λρ S=>bt rfl,rfl⟩
     ·cases h
   ·obtain⟨a',h1,h⟩:=QL.mp h;obtain⟨b',h2,h⟩:=QL.mp h;cases h;exact⟨Il hK (I.e _ _ h1).1 (I.e _ _ h2).1,bU λρ S=>bt rfl,rfl⟩
   ·obtain⟨a',h1,h9⟩:=QL.mp h;clear h;split at h9
    ·cases h9;exact⟨Iv (I.e _ _ h1).1,bU λρ S=>bt rfl,rfl⟩
    ·cases h9;exact⟨MI (I.e _ _ h1).1,Iy (I.e _ _ h1).2.1,rfl⟩
    ·cases h9
   ·obtain⟨k1,k2⟩:=I.b _ _ _ _ h;exact⟨k1,k2.pt,rfl⟩
   ·split at h
    ·obtain⟨a',h1,h⟩:=QL.mp h;obtain⟨b',h2,h⟩:=QL.mp h;cases h;have hm:=qZ (I.e _ _ h2).2.2;exact⟨Io hK hu (hm _) (I.e _ _ h1).1 (I.e _ _ h2).1,EL hK hu (hm _) (I.e _ _ h1).1 (I.e _ _ h2).1,rfl⟩
    ·obtain⟨a',h1,h⟩:=QL.mp h;obtain⟨b',h2,h⟩:=QL.mp h;obtain⟨c',h3,h⟩:=QL.mp h;cases h;have hm:=qZ (I.e _ _ h3).2.2;exact⟨MF hK hu (hm _) (I.e _ _ h1).1 (I.e _ _ h2).1 (I.e _ _ h3).1,Im hK hu (hm _) (I.e _ _ h1).1 (I.e _ _ h2).1 (I.e _ _ h3).1,rfl⟩
    ·cases h
   ·split at h
    ·obtain⟨a',h1,h⟩:=QL.mp h;obtain⟨b',h2,h⟩:=QL.mp h;cases h;exact⟨EV hK (I.e _ _ h1).1 (I.e _ _ h2).1,bU λρ S=>bt rfl,rfl⟩
    ·obtain⟨a',h1,h⟩:=QL.mp h;obtain⟨b',h2,h⟩:=QL.mp h;cases h;exact⟨EU hK (I.e _ _ h1).1 (I.e _ _ h2).1,bU λρ S=>bt rfl,rfl⟩
    ·obtain⟨a',h1,h⟩:=QL.mp h;obtain⟨b',h2,h⟩:=QL.mp h;obtain⟨c',h3,h⟩:=QL.mp h;cases h;exact⟨ET hK (I.e _ _ h1).1 (I.e _ _ h2).1 (I.e _ _ h3).1,bU λρ S=>bt rfl,rfl⟩
    ·obtain⟨a',h1,h⟩:=QL.mp h;obtain⟨b',h2,h⟩:=QL.mp h;cases h;have k1:=λpos=>Ip (pos:=pos) hK (GY (I.e _ _ h2).2.2) (I.e _ _ h1).1 (I.e _ _ h2).1
     refine⟨k1 _,iY hK (k1 _) (λ_=>rfl) (λρ S=>?_),rfl⟩;rw[xM,sj];cases ev F a' ρ S with
     |ok x=>
      simp only[R.ah];cases ev F b' ρ x.2 with
      |ok y=>simp only[R.ah];cases cw x.1 y.1<;>rfl
      |ex k=>rfl
      |bad=>rfl
     |ex k=>rfl
     |bad=>rfl
   ·obtain⟨fB,h1,h⟩:=QL.mp h;cases h;exact⟨IC (I.es _ _ h1).1,bU λρ S=>bt rfl,rfl⟩
   ·obtain⟨fB,h1,h⟩:=QL.mp h;cases h;exact⟨Ir (I.es _ _ h1).1,bU λρ S=>bt rfl,rfl⟩
   ·split at h
    ·cases h;exact⟨MH,bU λρ S=>rfl,rfl⟩
    ·cases h
   ·split at h
    ·obtain⟨k1,k2⟩:=I.c _ _ _ _ _ _ h;exact⟨k1,k2,rfl⟩
    ·cases h
   ·
    rename_i elt gens sc pos;split at h
    ·rename_i hk;split at h
     ·rename_i tg it ifs;obtain⟨fR,h1,h⟩:=QL.mp h;obtain⟨yu,h2,h⟩:=QL.mp h;obtain⟨za,h3,h⟩:=QL.mp h;obtain⟨e',h4,h⟩:=QL.mp h;split at h
      ·rename_i hb;cases h;rw[QO]at hb;have De:sc.kind= .function:=Ra hk;have B:=vg gx De hb.1;have oX:(aY Γ sc).1.N.Nodup:=QQ hb.2;have J:=λC s H fp=>ih (aY Γ sc).1 (fq X sc (aY Γ sc).1.N C s H fp (Bv X sc (aY Γ sc).1.N (jc Φ xv) C s H fp)) Φ (lO gx B oX) (wu hX)
       refine⟨aU (xj (xb:=Bv X sc (aY Γ sc).1.N (jc Φ xv)) (body:=λacc env=>jm elt acc env) gx.calm B (tm hX.st hX.xgx) (I.i _ _ _ h1).1 (λpQ acc env=>oO ..) (λC s H fp=>EW (lO gx B oX) h2) (λC s H fp=>(J C s H fp).ts _ _ h3) (λC s H fp D=>rV ((J C s H fp).e _ _ h4).1) (pM (I.i _ _ _ h1).2 _)) λσ H Q q=>yb hK B oX h2 q,bU λρ S=>bt rfl,rfl⟩
      ·cases h
     ·cases h
    ·cases h
   ·cases h
  ·
   unfold vi at h;split at h
   ·cases h;exact⟨Iw,rfl,λe z=>by cases z⟩
   ·obtain⟨e',h1,h⟩:=QL.mp h;obtain⟨fB,h2,h⟩:=QL.mp h;cases h;obtain⟨k1,k2,k3⟩:=I.es _ _ h2;refine⟨EM (bu (I.e _ _ h1).2.2 _ _) (I.e _ _ h1).1 k1,by simp[Cs.len,k2],λe z=>?_⟩;rcases QZ.mp z with rfl|z
    ·exact(I.e _ _ h1).2.2
    ·exact k3 e z
  ·
   unfold Gh at h;split at h
   ·cases h;exact λpins s σ H Q I q=>AW pins s σ H Q I (by obtain⟨o,ρ,S,er,q⟩:=q;rw[kQ]at q;exact q _ aI.refl er)
   ·obtain⟨e',h1,h⟩:=QL.mp h;cases h;refine λpins s σ H Q I' q=>AX (I.e _ _ h1).2.1 pins s σ H Q I' ?_
    obtain⟨o,ρ,S,er,q⟩:=q;rw[oy]at q;exact⟨o,ρ,S,er,q⟩
   ·cases h
  ·
   unfold cB at h;split at h
   ·rename_i e;have k1:=(I.e _ _ h).1;have k2:=(I.e _ _ h).2.1;refine⟨xo k1,?_⟩;cases o with
    |And=>exact AY k2
    |Or=>exact Ex k2
   ·rename_i e es eB;obtain⟨e',h1,h⟩:=QL.mp h;obtain⟨fB,h2,h⟩:=QL.mp h;cases h;cases es with
    |nil=>exact(eB rfl).elim
    |cons b rest=>
     obtain⟨k1,k2⟩:=I.b o _ _ pos h2;cases o with
     |And=>exact⟨Ik (I.e _ _ h1).1 k1,EK (I.e _ _ h1).2.1 k2⟩
     |Or=>exact⟨MJ (I.e _ _ h1).1 k1,Iz (I.e _ _ h1).2.1 k2⟩
   ·cases h
  ·
   unfold cI at h;split at h
   ·rename_i f p a q;split at h
    ·rename_i hf;have ef:=Ra hf;subst ef;split at h
     ·rename_i hg;rw[QO]at hg;obtain⟨a',h1,h⟩:=QL.mp h;cases h;exact⟨EN (gx.gl _ hg.1) (gx.bl _ (fN hg.2)) (bu (I.e _ _ h1).2.2 [] _) (I.e _ _ h1).1,rfl⟩
     ·cases h
    ·obtain⟨c,h1,h⟩:=QL.mp h;cases h;exact⟨sD hK (I.e _ _ h1).1,rfl⟩
   ·rename_i f p a b q;split at h
    ·rename_i hf;have ef:=Ra hf;subst ef;split at h
     ·cases h
     ·cases h
    split at h
    ·rename_i hf;have ef:=Ra hf;subst ef;split at h
     ·split at h
      ·rename_i hg;rw[QO]at hg;obtain⟨a',h1,h⟩:=QL.mp h;obtain⟨b',h2,h⟩:=QL.mp h;cases h;have e2:=bu (I.e _ _ h2).2.2 [] X.env;exact⟨IE hK (gx.gl _ hg.1) (gx.bl _ (fN hg.2)) (by rw[bu (I.e _ _ h1).2.2,e2];rfl) e2 (I.e _ _ h1).1 (I.e _ _ h2).1,rfl⟩
      ·cases h
     ·cases h
    ·obtain⟨c,h1,h⟩:=QL.mp h;cases h;exact⟨sD hK (I.e _ _ h1).1,rfl⟩
   ·rename_i f p a b d q;split at h
    ·rename_i hf;have ef:=Ra hf;subst ef;split at h
     ·rename_i hg;rw[QO]at hg;obtain⟨a',h1,h⟩:=QL.mp h;obtain⟨b',h2,h⟩:=QL.mp h;obtain⟨d',h3,h⟩:=QL.mp h;cases h;have e3:=bu (I.e _ _ h3).2.2 [] X.env;have e2:starEach [b,d] X.env=[(false,eval b X.env),(false,eval d X.env)]:=by rw[bu (I.e _ _ h2).2.2,e3];rfl
      exact⟨ES (gx.gl _ hg.1) (gx.bl _ (fN hg.2)) (by rw[bu (I.e _ _ h1).2.2,e2]) e2 e3 (I.e _ _ h1).1 (I.e _ _ h2).1 (I.e _ _ h3).1,rfl⟩
     ·cases h
    ·obtain⟨c,h1,h⟩:=QL.mp h;cases h;exact⟨sD hK (I.e _ _ h1).1,rfl⟩
   ·obtain⟨c,h1,h⟩:=QL.mp h;cases h;exact⟨sD hK (I.e _ _ h1).1,(I.e _ _ h1).2.2⟩
  ·
   have tr:∀{c:C},(∀ρ S,aZ F c ρ S=(ev F c ρ S).bind λx=>(bY x.1).bind λb=>.ok (b,x.2))->PE X (.Call (.Name f p) (a::as) [] pos) (bf Φ Γ F g.fr c)->PE X (.Call (.Name f p) (a::as) [] pos) (bf Φ Γ F g.fr c)/\PT X (.Call (.Name f p) (a::as) [] pos) (dP Φ Γ F c):=λhe h=>⟨h,iY hK h (λ_=>rfl) he⟩
   have Nk:∀(b:BI)(cs:Cs)ρ S,aZ F (.bi b cs) ρ S=(ev F (.bi b cs) ρ S).bind λx=>(bY x.1).bind λb=>.ok (b,x.2):=λb cs ρ S=>by
    rw[AZ,jR];cases c6 F cs ρ S with
    |ok x=>simp only[R.ah];cases cR b x.1<;>rfl
    |ex k=>rfl
    |bad=>rfl
   have OC:∀(f:Nat)(cs:Cs)(ds:List Dt)ρ S,aZ F (.call f cs ds) ρ S=(ev F (.call f cs ds) ρ S).bind λx=>(bY x.1).bind λb=>.ok (b,x.2):=λf cs ds ρ S=>by
    rw[um,gF];cases c6 F cs ρ S with
    |ok x=>simp only[R.ah];cases F f (x.1++ds) none<;>rfl
    |ex k=>rfl
    |bad=>rfl
   have Qr:∀(f:Nat)(cs:Cs)ρ S,aZ F (.callD f cs) ρ S=(ev F (.callD f cs) ρ S).bind λx=>(bY x.1).bind λb=>.ok (b,x.2):=λf cs ρ S=>by
    rw[qg,uo];cases S.isSome with
    |false=>rfl
    |true=>
     simp only[guard_true];cases c6 F cs ρ S with
     |ok x=>
      simp only[R.ah];cases x.2 with
      |none=>rfl
      |some s=>rfl
     |ex k=>rfl
     |bad=>rfl
   unfold qK at h;split at h
   ·rename_i hg;rw[QO]at hg;have Lm:=gx.gl f hg.1;obtain⟨n1,n2,n3⟩:=bj hg.2;split at h
    ·rename_i kk np eK aR v9;split at h
     ·
      rename_i hdp;have:aR=true:=hdp;subst this;split at h
      ·rename_i y yp;split at h
       ·rename_i i hi;split at h
        ·cases h
        ·cases h
       ·cases h
      ·cases h
     ·rename_i hdp;have:aR=false:=by simpa using hdp
      subst this;split at h
      ·rename_i hn;rw[QO]at hn;have a1:=QQ hn.1;have a2:=QQ hn.2;obtain⟨es,h1,h⟩:=QL.mp h;cases h;obtain⟨k1,k2,k3⟩:=I.es _ _ h1;refine tr (OC _ _ _) (s_call hX Lm n1 v9 (Nat.sub_le _ _) ?_ (bu (k3 a QU) _ _) (ni λe z=>k3 e (QS _ z)) k1);rw[k2,R7,Q5];omega
      ·cases h
    ·split at h
     ·rename_i hbl;have hm:=gx.bl f (fN hbl);split at h
      ·cases h
      split at h
      ·rename_i hisi;have ef:=Ra hisi;subst ef;split at h
       ·rename_i t tp hnl;split at h
        ·rename_i hg2;rw[QO]at hg2;obtain⟨T,h1,h⟩:=QL.mp h;obtain⟨a',h2,h⟩:=QL.mp h;cases h;have tn:t≠"__name__"/\(t==("__debug__":Str))=false:=by
          unfold qt at h1;split at h1
          ·rename_i e;rw[Ra e];exact⟨‹_›,‹_›⟩
          split at h1
          ·rename_i e;rw[Ra e];exact⟨‹_›,‹_›⟩
          split at h1
          ·rename_i e;rw[Ra e];exact⟨‹_›,‹_›⟩
          split at h1
          ·rename_i e;rw[Ra e];exact⟨‹_›,‹_›⟩
          split at h1
          ·rename_i e;rw[Ra e];exact⟨‹_›,‹_›⟩
          ·cases h1
         exact tr (Nk _ _) (Iq hK Lm hm (gx.gl t hg2.1) (gx.bl t (fN hg2.2)) h1 tn.1 tn.2 (bu (I.e _ _ h2).2.2 _ _) (I.e _ _ h2).1)
        ·cases h
       ·cases h
      ·have regular:∀{c:C},((pk f (as.length+1)).bind λi=>(vi n g Γ (a::as)).bind λes=>some (C.bi i es))=some c->PE X (.Call (.Name f p) (a::as) [] pos) (bf Φ Γ F g.fr c)/\PT X (.Call (.Name f p) (a::as) [] pos) (dP Φ Γ F c):=λ {c} h=>by obtain⟨b,h1,h⟩:=QL.mp h;obtain⟨es,h2,h⟩:=QL.mp h;cases h;obtain⟨k1,k2,k3⟩:=I.es _ _ h2;exact tr (Nk _ _) (ME hK gx Lm hm hg.2 h1 (bu (k3 a QU) _ _) (ni λe z=>k3 e (QS _ z)) k1)
       split at h
       ·rename_i r rp b rq;split at h
        ·cases h
        split at h
        ·cases h
        ·exact regular h
       ·rename_i r rp b c rq zz;split at h
        ·cases h
        ·exact regular h
       ·exact regular h
     ·cases h
   ·cases h
end
structure OI(Φ:Fm)(W:Addr->Prop)(o:Ow):Prop where
 w:o.W=W
 d:∀a,Φ.d0=some a->o.dr=some a
structure SO(Φ:Fm)(Γ:Gm)(W:Addr->Prop)(o:Ow)(H:Hp)(ρ':ai)(S':Sx)(σ':L2.St)(H':Hp):Prop where
 ex:∃o',OI Φ W o'/\ER Φ Γ o' ρ' S' σ' H'/\∀b,o'.A b->o.A b\/H b=none
 ext:aI o.A H H'
 al:∀b x,H b=some x->∃y,H' b=some y
structure RO(Φ:Fm)(W:Addr->Prop)(fF:Bool)(d:Dt)(S':Sx)(v:V)(H':Hp):Prop where
 val:RV Φ.K W H' v d
 ent:aI (λb=>Φ.d0=some b) Φ.H0 H'
 drw:∀a,Φ.d0=some a->∃ns:List Int,S'=some ns/\H' a=some (.lst (ns.map V.int))
 dR:fF=true->∀ds,d= .lst ds->∃a xs,v= .ref a/\Φ.H0 a=none/\H' a=some (.lst xs)/\ak Φ.K (λb=>W b\/b=a) H' xs ds
def bh(Φ:Fm)(Γ:Gm)(W:Addr->Prop)(fF:Bool)(o:Ow)(H:Hp)(D:Ends)(p:Fl×ai×Sx):Prop:=match p.1 with
 |.next=>∀σ' H',SO Φ Γ W o H p.2.1 p.2.2 σ' H'->D.nx σ' H'
 |.brk=>∀σ' H',SO Φ Γ W o H p.2.1 p.2.2 σ' H'->D.bk σ' H'
 |.cnt=>∀σ' H',SO Φ Γ W o H p.2.1 p.2.2 σ' H'->D.ct σ' H'
 |.ret d=>∀v H',RO Φ W fF d p.2.2 v H'->D.rt v H'
inductive gR(Φ:Fm)(Γ:Gm)(F:FT)(W:Addr->Prop)(fF:Bool)(t:T)(D:Ends)(σ:L2.St)(H:Hp):Prop
 |mk (o:Ow) (ρ:ai) (S:Sx) (i:OI Φ W o) (e:ER Φ Γ o ρ S σ H) (m:mR Φ.Ek (ex F t ρ S) (bh Φ Γ W fF o H D)):gR Φ Γ F W fF t D σ H
inductive ik(Φ:Fm)(Γ:Gm)(F:FT)(W:Addr->Prop)(fF:Bool)(t:Ts)(D:Ends)(σ:L2.St)(H:Hp):Prop
 |mk (o:Ow) (ρ:ai) (S:Sx) (i:OI Φ W o) (e:ER Φ Γ o ρ S σ H) (m:mR Φ.Ek (aE F t ρ S) (bh Φ Γ W fF o H D)):ik Φ Γ F W fF t D σ H
theorem bc{X:Cx}{e:Stmt}{t t':TS}(h:PS X e t)(hi:∀D σ H,t' D σ H->t D σ H):PS X e t':=λpins s σ H D I q=>h pins s σ H D I (hi D σ H q)
theorem se{X:Cx}{e:List Stmt}{t t':TS}(h:mU X e t)(hi:∀D σ H,t' D σ H->t D σ H):mU X e t':=λpins s σ H D I q=>h pins s σ H D I (hi D σ H q)
section
variable{X:Cx}{Φ:Fm}{Γ:Gm}{F:FT}{g:G}{W:Addr->Prop}{fF:Bool}{o:Ow}{ρ:ai}{S:Sx}{σ:L2.St}{H H':Hp}
theorem ER.dA(er:ER Φ Γ o ρ S σ H){H1:Hp}(e:aI o.d H H1):aI o.A H H1:=e.mono er.da
theorem ER.BE{S1:Sx}{ρ1:ai}{σ1:L2.St}{H1:Hp}(az:ER Φ Γ o ρ1 S1 σ1 H1)(e:aI o.d H H1):∀b x,H b=some x->∃y,H1 b=some y:=λb x h=>e.al h λz=>az.al b (az.da b z)
theorem SO.d9{S':Sx}{ρ':ai}{σ':L2.St}(oi:OI Φ W o)(er:ER Φ Γ o ρ' S' σ' H')(e:aI o.d H H'):SO Φ Γ W o H ρ' S' σ' H':=⟨⟨o,oi,er,λb z=>.inl z⟩,e.mono er.da,er.BE e⟩
theorem SO.go{o':Ow}{H1 H2:Hp}{ρ2:ai}{S2:Sx}{σ2:L2.St}(e:aI o.A H H1)(hA:∀b,o'.A b->o.A b\/H b=none)(BO:∀b x,H b=some x->∃y,H1 b=some y)(h:SO Φ Γ W o' H1 ρ2 S2 σ2 H2):SO Φ Γ W o H ρ2 S2 σ2 H2:=by
 obtain⟨⟨o2,D0,cL,zT⟩,e2,a2⟩:=h;refine⟨⟨o2,D0,cL,λb z=>?_⟩,⟨λb x h n=>?_,λb xs h=>e2.tp _ _ (e.tp _ _ h)⟩,λb x h=>?_⟩
 ·rcases zT b z with q|q
  ·exact hA b q
  ·refine .inr ?_;cases hb:H b with
   |none=>rfl
   |some x=>obtain⟨y,hy⟩:=BO b x hb;rw[q]at hy;cases hy
 ·refine e2.kp _ _ (e.kp _ _ h n) λz=>?_
  rcases hA b z with q|q
  ·exact n q
  ·rw[h]at q;cases q
 ·obtain⟨y,hy⟩:=BO b x h;exact a2 b y hy
theorem ja{fr:Nat->Bool}{c:C}{d:Dt}{v:V}{H1:Hp}(h:cG c d=true)(eo:EO Φ.K fr o c H d v H1):RV Φ.K o.A H1 v d:=by
 unfold cG at h;rw[Ru]at h;rcases h with h|h
 ·exact eo.mX (QQ h)
 ·exact eo.val.rO h
theorem Cj{i:Nat}{c:C}{st:Stmt}(hp:plainS Γ i=true)(h:PS X st (mO (bf Φ Γ F g.fr c) (dC i))):PS X st (gR Φ Γ F W fF (.asg i c)):=bc h λD σ H q=>by obtain⟨o,ρ,S,oi,er,q⟩:=q;rw[i7]at q;rw[aa]at q;refine⟨o,ρ,S,er,af q λp _ q v H1 eo az=>?_⟩;obtain⟨gs,q⟩:=aG q;exact q _ _ (SO.d9 oi (az.set hp (ja gs eo)) eo.ext)
theorem Jg{i:Nat}{c:C}{st:Stmt}(hp:plainS Γ i=true)(h:PS X st (IQ i (bf Φ Γ F g.fr c) (NS λi j=>i+j))):PS X st (gR Φ Γ F W fF (.aug i c)):=bc h λD σ H q=>by
 obtain⟨o,ρ,S,oi,er,q⟩:=q;rw[sr,aa]at q;obtain⟨d,hr,q⟩:=iN q;rw[aa]at q;obtain⟨v,h1,h2⟩:=er.val i _ hr;unfold plainS at hp;have yY:dX Γ i=false:=by rw[QO]at hp;simpa using hp.1
 rw[S9 (by rw[yY];simp)]at h2;refine⟨v,h1,o,ρ,S,er,af q λp _ q y H1 eo az=>?_⟩;cases d with
 |int a=>
  cases hd:p.1 with
  |int b=>rw[hd]at q;have hv:=eo.val;rw[hd]at hv;exact⟨a,b,h2.int_inv,hv.int_inv,q _ _ (SO.d9 oi (az.set (d:=.int (a+b)) hp RV.dZ) eo.ext)⟩
  |_=>rw[hd]at q;exact q.elim
 |_=>exact q.elim
theorem Ff{i:Nat}{c:C}{st:Stmt}(hp:plainS Γ i=true)(hf:fresh g.fr c=true)(h:PS X st (mO (bf Φ Γ F g.fr c) (dC i))):PS X st (gR Φ Γ F W fF (.asgM i c)):=bc h λD σ H q=>by
 obtain⟨o,ρ,S,oi,er,q⟩:=q;rw[jS]at q;rw[aa]at q;refine⟨o,ρ,S,er,af q λp _ q v H1 eo az=>?_⟩;obtain⟨gs,q⟩:=aG q;have hv:RV Φ.K o.A H1 v p.1:=by
  by_cases hd:∃ds,p.1= .lst ds
  ·obtain⟨ds,hd⟩:=hd;obtain⟨a,xs,rfl,h1,h2,h3,h4⟩:=eo.dR hf ds hd;have na:¬o.A a:=λz=>by obtain⟨x,hx⟩:=er.al a z;rw[h1]at hx;cases hx
   rw[hd]at gs ⊢;refine RV.d4 h2 na ?_;unfold iz at gs;rcases RI.mp gs with z|z
   ·exact(h4 (QQ z)).weak λb w=>.inl w
   ·exact h3.ma z
  ·refine ja ?_ eo;unfold iz at gs;unfold cG;cases hq:p.1 with
   |lst ds=>exact absurd ⟨ds,hq⟩ hd
   |_=>rw[hq]at gs;exact gs
 exact q _ _ (SO.d9 oi (az.set hp hv) eo.ext)
theorem ER.own{S1:Sx}{H1:Hp}{fr:Nat->Bool}{c:C}{d:Dt}{v:V}{i:Nat}(oi:OI Φ W o)(er:ER Φ Γ o ρ S σ H)(az:ER Φ Γ o ρ S1 σ H1)(hm:dX Γ i=true)(hδ:Γ.δ≠some i)(hf:fresh fr c=true)(hl:iz c d=true)(eo:EO Φ.K fr o c H d v H1):
  ∃o',OI Φ W o'/\ER Φ Γ o' (ρ.set i (some d)) S1 (σ.set i (some v)) H1/\∀b,o'.A b->o.A b\/H b=none:=by
 by_cases hd:∃ds,d= .lst ds
 ·obtain⟨ds,rfl⟩:=hd;obtain⟨a,xs,rfl,h1,h2,h3,h4⟩:=eo.dR hf ds rfl;have h4:ak Φ.K (λb=>o.A b\/b=a) H1 xs ds:=by
   unfold iz at hl;rcases RI.mp hl with l|l
   ·exact h4 (QQ l)
   ·exact h3.ma l
  have nA:¬o.A a:=λz=>by obtain⟨y,hy⟩:=er.al a z;rw[h1]at hy;cases hy
  have h0:Φ.H0 a=none:=by
   cases q:Φ.H0 a with
   |none=>rfl
   |some x=>
    by_cases uO:Φ.d0=some a
    ·exact absurd (er.da a (oi.d a uO)) nA
    ·rw[er.ent.kp a x q uO]at h1;cases h1
  have av:∀b,(o.A b\/b=a)->o.A b\/H b=none:=λb z=>z.elim .inl λe=>.inr (by rw[e];exact h1)
  have dA:∀b,o.d b->(o.A b\/b=a):=λb z=>.inl (er.da b z)
  refine⟨⟨o.W,λb=>o.A b\/b=a,o.dr⟩,⟨oi.w,oi.d⟩,⟨?_,λb z=>.inl (er.wa b z),λb z=>.inl (er.da b z),λb z=>?_,λj e he=>?_,Dk.set er.dk rfl,λj j' b e e' m m' k1 k2 k3 k4=>?_,az.drw,az.drn,λj b hj hb=>?_,az.dr0,az.ent⟩,av⟩
  ·rw[Sb,Sb];exact er.len
  ·rcases z with z|z
   ·exact az.al b z
   ·rw[z];exact⟨_,h2⟩
  ·by_cases hj:j=i
   ·subst hj;rw[R4]at he;simp only[Tb]at he;split at he
    ·rename_i cP;cases he;refine⟨.ref a,by rw[RA (by rw[er.len];exact cP)],?_⟩;rw[Ta hm];exact⟨a,xs,rfl,h2,.inr rfl,λz=>nA (er.wa a z),λz=>nA (er.da a z),h0,h4⟩
    ·cases he
   ·rw[Q4 (SL hj)]at he;obtain⟨w,k1,k2⟩:=er.val j e he;refine⟨w,by rw[Q4 (SL hj)];exact k1,?_⟩;by_cases hmj:dX Γ j=true
    ·rw[Ta hmj]at k2 ⊢;cases e with
     |lst es=>obtain⟨b,ys,e1,e2,e3,e4,e5,e6,e7⟩:=k2;exact⟨b,ys,e1,eo.ext.kp _ _ e2 e5,.inl e3,e4,e5,e6,(e7.cM av).mono eo.ext dA λ_ z=>z⟩
     |gh=>exact k2.elim
     |_=>exact(RV.cM av k2).mono eo.ext dA λ_ z=>z
    ·rw[S9 hmj]at k2 ⊢;exact(k2.cM av).mono eo.ext dA λ_ z=>z
  ·
   have other:∀{j:Nat}{e:List Dt}{b:Addr},j≠i->dX Γ j=true->(ρ.set i (some (.lst ds)))[j]?=some (some (.lst e))->(σ.set i (some (.ref a)))[j]?=some (some (.ref b))->b≠a/\ρ[j]?=some (some (.lst e))/\σ[j]?=some (some (.ref b)):=λ {j e b} hj m k1 k3=>by rw[Q4 (SL hj)]at k1 k3;obtain⟨w,n1,n2⟩:=er.val j _ k1;rw[Ta m]at n2;obtain⟨b',ys,e1,e2,_⟩:=n2;rw[k3]at n1;cases n1;cases e1;refine⟨λz=>?_,k1,k3⟩;rw[z,h1]at e2;cases e2
   by_cases hj:j=i
   ·by_cases hj':j'=i
    ·rw[hj,hj']
    ·obtain⟨n,_,_⟩:=other hj' m' k2 k4;subst hj;have cP:j<σ.length:=by have:=(QR.mp k3).1;rw[Sb]at this;exact this
     rw[RA cP]at k3;cases k3;exact absurd rfl n
   ·obtain⟨n,p1,p2⟩:=other hj m k1 k3;by_cases hj':j'=i
    ·subst hj';have cP:j'<σ.length:=by have:=(QR.mp k4).1;rw[Sb]at this;exact this
     rw[RA cP]at k4;cases k4;exact absurd rfl n
    ·obtain⟨_,p3,p4⟩:=other hj' m' k2 k4;exact er.inj j j' b e e' m m' p1 p3 p2 p4
  ·rw[Q4 (λz=>hδ (by rw[z];exact hj))];exact az.drs j b hj hb
 ·
  have nl:∀e,d≠ .lst e:=λe z=>hd ⟨e,z⟩
  have hv:RV Φ.K o.A H1 v d:=by
   unfold iz at hl;rcases RI.mp hl with l|l
   ·exact eo.mX (QQ l)
   ·cases d with
    |lst ds=>exact absurd rfl (nl ds)
    |_=>exact eo.val.rO l
  refine⟨o,oi,⟨?_,az.wa,az.da,az.al,λj e he=>?_,Dk.set az.dk hv.nd,λj j' b e e' m m' k1 k2 k3 k4=>?_,az.drw,az.drn,λj b hj hb=>?_,az.dr0,az.ent⟩,λb z=>.inl z⟩
  ·rw[Sb,Sb];exact er.len
  ·by_cases hj:j=i
   ·subst hj;rw[R4]at he;simp only[Tb]at he;split at he
    ·rename_i cP;cases he;refine⟨v,by rw[RA (by rw[er.len];exact cP)],?_⟩;rw[Ta hm];cases d with
     |lst ds=>exact absurd rfl (nl ds)
     |gh=>cases hv.nd
     |_=>exact hv
    ·cases he
   ·rw[Q4 (SL hj)]at he;obtain⟨w,k1,k2⟩:=az.val j e he;exact⟨w,by rw[Q4 (SL hj)];exact k1,k2⟩
  ·have other:∀{j:Nat}{e:List Dt},(ρ.set i (some d))[j]?=some (some (.lst e))->j≠i:=λ {j e} k1 z=>by
    subst z;rw[R4]at k1;simp only[Tb]at k1;split at k1
    ·cases k1;exact nl e rfl
    ·cases k1
   have n1:=other k1;have n2:=other k2;rw[Q4 (SL n1)]at k1 k3;rw[Q4 (SL n2)]at k2 k4;exact az.inj j j' b e e' m m' k1 k2 k3 k4
  ·rw[Q4 (λz=>hδ (by rw[z];exact hj))];exact az.drs j b hj hb
theorem Fe{i:Nat}{c:C}{st:Stmt}(hm:dX Γ i=true)(hδ:Γ.δ≠some i)(hf:fresh g.fr c=true)(h:PS X st (mO (bf Φ Γ F g.fr c) (dC i))):PS X st (gR Φ Γ F W fF (.asgM i c)):=bc h λD σ H q=>by obtain⟨o,ρ,S,oi,er,q⟩:=q;rw[jS]at q;rw[aa]at q;refine⟨o,ρ,S,er,af q λp _ q v H1 eo az=>?_⟩;obtain⟨gs,q⟩:=aG q;exact q _ _ ⟨ER.own oi er az hm hδ hf gs eo,er.dA eo.ext,az.BE eo.ext⟩
end
section
variable{X:Cx}{Φ:Fm}{Γ:Gm}{F:FT}{g:G}{W:Addr->Prop}{fF:Bool}{o:Ow}{ρ:ai}{S:Sx}{σ:L2.St}{H H':Hp}
theorem lY{Ek:Nat->Prop}{ρ:ai}{i:Nat}{P:List Dt->Prop}(h:mR Ek (jz ρ i) P):∃ds,ρ[i]?=some (some (.lst ds))/\P ds:=by
 unfold jz at h;split at h
 ·exact⟨_,by assumption,h⟩
 ·exact h.elim
theorem yB{a:Addr}{u:HO}:∀b x,H b=some x->∃y,upd H a u b=some y:=λb x h=>by
 by_cases z:b=a
 ·subst z;exact⟨_,aB⟩
 ·exact⟨x,by rw[aC z];exact h⟩
theorem rz{ρ:ai}{i:Nat}(h:isLE ρ i=true):∃ds,ρ[i]?=some (some (.lst ds)):=by
 unfold isLE at h;split at h
 ·exact⟨_,by assumption⟩
 ·cases h
theorem ER.chg{i:Nat}{a:Addr}{ds es:List Dt}{xs ys:List V}(er:ER Φ Γ o ρ S σ H)(hm:dX Γ i=true)(hr:ρ[i]?=some (some (.lst ds)))(hs:σ[i]?=some (some (.ref a)))(hx:H a=some (.lst xs))(hy:ak Φ.K o.A H ys es):
  ER Φ Γ o (ρ.set i (some (.lst es))) S σ (upd H a (.lst ys))/\aI o.A H (upd H a (.lst ys))/\∀b x,H b=some x->∃y,upd H a (.lst ys) b=some y:=by
 obtain⟨v,h1,h2⟩:=er.val i _ hr;rw[Ta hm]at h2;rw[hs]at h1;cases h1;obtain⟨b,zs,e1,e2,e3,e4,e5,e6,e7⟩:=h2;cases e1;have up:aI (λb=>b=a) H (upd H a (.lst ys)):=⟨λb o h n=>by rw[aC n];exact h,Mx.j3 hx⟩;have sub:∀b,b=a->o.A b:=λb z=>by rw[z];exact e3
 refine⟨⟨by rw[Sb];exact er.len,er.wa,er.da,λb hb=>?_,λj d hd=>?_,Dk.set er.dk rfl,λj j' b d d' m m' k1 k2 k3 k4=>?_,λb hb=>?_,er.drn,er.drs,er.dr0,?_⟩,up.mono sub,yB⟩
 ·obtain⟨x,hx⟩:=er.al b hb;exact yB b x hx
 ·by_cases hj:j=i
  ·subst hj;rw[R4]at hd;simp only[Tb]at hd;split at hd
   ·cases hd;refine⟨.ref a,hs,?_⟩;rw[Ta hm];exact⟨a,ys,rfl,aB,e3,e4,e5,e6,hy.mono up sub λ_ z=>z⟩
   ·cases hd
  ·rw[Q4 (SL hj)]at hd;obtain⟨w,k1,k2⟩:=er.val j d hd;refine⟨w,k1,?_⟩;by_cases hmj:dX Γ j=true
   ·rw[Ta hmj]at k2 ⊢;cases d with
    |lst dl=>obtain⟨b,Qo,n1,n2,n3,n4,n5,n6,n7⟩:=k2;refine⟨b,Qo,n1,up.kp _ _ n2 (λz=>?_),n3,n4,n5,n6,n7.mono up sub λ_ z=>z⟩;subst n1 z;exact hj (er.inj j i b dl ds hmj hm hd hr k1 hs)
    |gh=>exact k2.elim
    |_=>exact RV.mono up sub (λ_ z=>z) k2
   ·rw[S9 hmj]at k2 ⊢;exact k2.mono up sub λ_ z=>z
 ·have same:∀{j:Nat}{d:List Dt},(ρ.set i (some (.lst es)))[j]?=some (some (.lst d))->∃d',ρ[j]?=some (some (.lst d')):=λ {j d} q=>by
   by_cases hj:j=i
   ·subst hj;exact⟨ds,hr⟩
   ·rw[Q4 (SL hj)]at q;exact⟨d,q⟩
  obtain⟨d1,q1⟩:=same k1;obtain⟨d2,q2⟩:=same k2;exact er.inj j j' b d1 d2 m m' q1 q2 k3 k4
 ·obtain⟨ns,n1,n2⟩:=er.drw b hb;exact⟨ns,n1,up.kp _ _ n2 λz=>e5 (by rw[<-z];exact hb)⟩
 ·refine⟨λb x h n=>up.kp _ _ (er.ent.kp b x h n) λz=>?_,λb xs h=>up.tp _ _ (er.ent.tp b xs h)⟩;subst z;rw[h]at e6;cases e6
theorem jH{i:Nat}{ds:List Dt}(er:ER Φ Γ o ρ S σ H)(hm:dX Γ i=true)(hr:ρ[i]?=some (some (.lst ds))):∃a xs,σ[i]?=some (some (.ref a))/\H a=some (.lst xs)/\ak Φ.K o.A H xs ds:=by obtain⟨v,h1,h2⟩:=er.val i _ hr;rw[Ta hm]at h2;obtain⟨a,xs,e1,e2,e3,e4,e5,e6,e7⟩:=h2;subst e1;exact⟨a,xs,h1,e2,e7⟩
theorem Jf{i:Nat}{c:C}{st:Stmt}(hm:dX Γ i=true)(h:PS X st (sT (Oc X.K "list" sv (j0 i) (Ce (bf Φ Γ F g.fr c) IV)))):PS X st (gR Φ Γ F W fF (.app i c)):=bc h λD σ H q=>by obtain⟨o,ρ,S,oi,er,q⟩:=q;rw[sk]at q;obtain⟨gl,q⟩:=aG q;obtain⟨ds,hr⟩:=rz gl;obtain⟨a,xs,h1,h2,h3⟩:=jH er hm hr;rw[aa]at q;refine⟨.ref a,h1,.inl ⟨rfl,_,cZ.of h2⟩,o,ρ,S,er,af q λp _ q v H1 eo az=>?_⟩;obtain⟨gs,q⟩:=aG q;rw[aa]at q;obtain⟨uJ,e1,q⟩:=lY q;rw[hr]at e1;cases e1;obtain⟨gl,q⟩:=aG q;obtain⟨a',zb,vZ,v5,GI⟩:=jH az hm hr;rw[h1]at vZ;cases vZ;have nY:=cy;have yZ:=Th;have QB:lim=1000000:=rfl;have JO:=QQ gl;refine⟨a,zb,v,rfl,rfl,v5,by rw[GI.length];omega,?_⟩;obtain⟨k1,k2,k3⟩:=az.chg hm hr h1 v5 (GI.append (ak.cons (ja gs eo) ak.nil));exact q _ _ (SO.go (er.dA eo.ext) (λb z=>.inl z) (az.BE eo.ext) ⟨⟨o,oi,k1,λb z=>.inl z⟩,k2,k3⟩)
theorem Ji{i:Nat}{st:Stmt}(hm:dX Γ i=true)(h:PS X st (sT (IR X.K "list" xU (j0 i)))):PS X st (gR Φ Γ F W fF (.clr i)):=bc h λD σ H q=>by obtain⟨o,ρ,S,oi,er,q⟩:=q;rw[A6]at q;rw[aa]at q;obtain⟨ds,hr,q⟩:=lY q;obtain⟨a,xs,h1,h2,h3⟩:=jH er hm hr;obtain⟨k1,k2,k3⟩:=er.chg hm hr h1 h2 (ak.nil (K:=Φ.K) (A:=o.A));exact⟨.ref a,h1,.inl ⟨rfl,_,cZ.of h2⟩,a,xs,rfl,rfl,h2,q _ _ ⟨⟨o,oi,k1,λb z=>.inl z⟩,k2,k3⟩⟩
theorem Fk{i:Nat}{k v:C}{st:Stmt}(hm:dX Γ i=true)(h:PS X st (mO (bf Φ Γ F g.fr v) (GA (j0 i) (bf Φ Γ F g.fr k) B8))):PS X st (gR Φ Γ F W fF (.uw i k v)):=bc h λD σ H q=>by
 obtain⟨o,ρ,S,oi,er,q⟩:=q;rw[oB]at q;obtain⟨gl,q⟩:=aG q;obtain⟨ds,hr⟩:=rz gl;obtain⟨a,xs,h1,h2,h3⟩:=jH er hm hr;rw[aa]at q;refine⟨o,ρ,S,er,af q λp _ q x H1 eo az=>?_⟩;rw[aa]at q;refine⟨.ref a,h1,o,ρ,p.2,az,af q λp2 _ q y H2 eo2 cL=>?_⟩;obtain⟨gs,q⟩:=aG q;rw[aa]at q;obtain⟨uJ,e1,q⟩:=lY q;rw[hr]at e1;cases e1;obtain⟨a',zb,vZ,v5,GI⟩:=jH cL hm hr;rw[h1]at vZ;cases vZ;cases hd:p2.1 with
 |int n=>
  rw[hd]at q eo2;simp only at q;cases hj:kH ds.length n with
  |none=>rw[hj]at q;exact q.elim
  |some j=>
   rw[hj]at q;have hx:RV Φ.K o.A H2 x p.1:=by
    unfold cG at gs;rw[Ru]at gs;obtain⟨k1,k2,k3⟩:=eo.keep eo2.ext er.eg;rcases gs with gs|gs
    ·exact k2 (QQ gs)
    ·exact k1.rO gs
   refine⟨a,zb,n,j,rfl,eo2.val.int_inv,v5,by rw[GI.length];exact hj,?_⟩;obtain⟨k1,k2,k3⟩:=cL.chg hm hr h1 v5 (GI.set j hx);exact q _ _ (SO.go (er.dA (eo.ext.trans eo2.ext)) (λb z=>.inl z) (cL.BE (eo.ext.trans eo2.ext)) ⟨⟨o,oi,k1,λb z=>.inl z⟩,k2,k3⟩)
 |_=>rw[hd]at q;exact q.elim
theorem Jk{c:C}{st:Stmt}(h:PS X st (sT (bf Φ Γ F g.fr c))):PS X st (gR Φ Γ F W fF (.FC c)):=bc h λD σ H q=>by obtain⟨o,ρ,S,oi,er,q⟩:=q;rw[su]at q;rw[aa]at q;exact⟨o,ρ,S,er,af q λp _ q v H1 eo az=>q _ _ (SO.d9 oi az eo.ext)⟩
theorem Fg{is:List Nat}{c:C}{st:Stmt}(hK:Φ.K=X.K)(hp:∀i∈is,plainS Γ i=true)(h:PS X st (mO (bf Φ Γ F g.fr c) (Mx.nN X.K is.length (oM is)))):PS X st (gR Φ Γ F W fF (.asgT is c)):=bc h λD σ H q=>by obtain⟨o,ρ,S,oi,er,q⟩:=q;rw[eS]at q;rw[aa]at q;refine⟨o,ρ,S,er,af q λp _ q v H1 eo az=>?_⟩;obtain⟨gs,q⟩:=aG q;rw[aa]at q;obtain⟨ρ1,hρ,q⟩:=jC (yf _ _ _) q;rw[<-hK];exact Bp az hp (ja gs eo) hρ λσ1 cL _=>q _ _ (SO.d9 oi cL eo.ext)
theorem ER.h0{a:Addr}(oi:OI Φ W o)(er:ER Φ Γ o ρ S σ H)(h:H a=none):Φ.H0 a=none:=by
 cases q:Φ.H0 a with
 |none=>rfl
 |some x=>
  by_cases uO:Φ.d0=some a
  ·obtain⟨y,hy⟩:=er.al a (er.da a (oi.d a uO));rw[h]at hy;cases hy
  ·rw[er.ent.kp a x q uO]at h;cases h
theorem Ck{c:C}{st:Stmt}(hf:fF=true->fresh g.fr c=true)(h:PS X st (E0 (bf Φ Γ F g.fr c))):PS X st (gR Φ Γ F W fF (.ret c)):=bc h λD σ H q=>by
 obtain⟨o,ρ,S,oi,er,q⟩:=q;rw[my]at q;rw[aa]at q;refine⟨o,ρ,S,er,af q λp NC q v H1 eo az=>?_⟩;have hw:∀b,W b->o.wd b:=λb z=>.inl (by rw[oi.w];exact z)
 refine q _ _ ⟨eo.val.weak hw,az.ent,λa ha=>az.drw a (oi.d a ha),λhfF ds ed=>?_⟩;obtain⟨a,xs,h1,h2,h3,h4,_⟩:=eo.dR (hf hfF) ds ed;exact⟨a,xs,h1,er.h0 oi h2,h3,h4.weak λb z=>z.imp (hw b) id⟩
theorem Fi{i:Nat}{st:Stmt}(hm:dX Γ i=true)(hκ:Γ.κ≠some i)(h:PS X st (E0 (j0 i))):PS X st (gR Φ Γ F W fF (.ret (.mvr i))):=bc h λD σ H q=>by
 obtain⟨o,ρ,S,oi,er,q⟩:=q;rw[my,mv]at q;rw[aa,aa]at q;obtain⟨d,hd,q⟩:=iN q;obtain⟨v,k1,k2⟩:=er.val i d hd;rw[Ta hm]at k2;have hw:∀b,W b->o.wd b:=λb z=>.inl (by rw[oi.w];exact z)
 have PQ:∀b,W b->o.A b:=λb z=>er.wa b (by rw[oi.w];exact z)
 refine⟨v,k1,q _ _ ⟨(k2.val (er.nd hd hκ) er.wa er.da).weak hw,er.ent,λa ha=>er.drw a (oi.d a ha),λhfF ds ed=>?_⟩⟩;simp only at ed;subst ed;obtain⟨a,xs,e1,e2,e3,e4,e5,e6,e7⟩:=k2;exact⟨a,xs,e1,e6,e2,e7.weak λb z=>z.elim (PQ b) λy=>by rw[y];exact e3⟩
theorem Fj{st:Stmt}(h:PS X st Cg):PS X st (gR Φ Γ F W fF .retN):=bc h λD σ H q=>by obtain⟨o,ρ,S,oi,er,q⟩:=q;exact q _ _ ⟨RV.l0,er.ent,λa ha=>er.drw a (oi.d a ha),λ_ ds ed=>by cases ed⟩
theorem Fh{st:Stmt}(h:PS X st yq):PS X st (gR Φ Γ F W fF .pas):=bc h λD σ H q=>by obtain⟨o,ρ,S,oi,er,q⟩:=q;exact q _ _ (SO.d9 oi er aI.refl)
theorem Jh{st:Stmt}(h:PS X st ym):PS X st (gR Φ Γ F W fF .brk):=bc h λD σ H q=>by obtain⟨o,ρ,S,oi,er,q⟩:=q;exact q _ _ (SO.d9 oi er aI.refl)
theorem Jj{st:Stmt}(h:PS X st Cf):PS X st (gR Φ Γ F W fF .cnt):=bc h λD σ H q=>by obtain⟨o,ρ,S,oi,er,q⟩:=q;exact q _ _ (SO.d9 oi er aI.refl)
theorem bh.go{o':Ow}{H1:Hp}{D D':Ends}{p:Fl×ai×Sx}(e:aI o.A H H1)(hA:∀b,o'.A b->o.A b\/H b=none)(BO:∀b x,H b=some x->∃y,H1 b=some y)
  (hn:∀σ' H',D.nx σ' H'->D'.nx σ' H') (hb:∀σ' H',D.bk σ' H'->D'.bk σ' H') (hc:∀σ' H',D.ct σ' H'->D'.ct σ' H') (hr:∀v H',D.rt v H'->D'.rt v H') (h:bh Φ Γ W fF o H D p):bh Φ Γ W fF o' H1 D' p:=by
 unfold bh at h ⊢;cases hp:p.1 with
 |next=>rw[hp]at h;exact λσ' H' so=>hn _ _ (h σ' H' (SO.go e hA BO so))
 |brk=>rw[hp]at h;exact λσ' H' so=>hb _ _ (h σ' H' (SO.go e hA BO so))
 |cnt=>rw[hp]at h;exact λσ' H' so=>hc _ _ (h σ' H' (SO.go e hA BO so))
 |ret d=>rw[hp]at h;exact λv H' ro=>hr _ _ (h v H' ro)
theorem yL:mU X [] (ik Φ Γ F W fF .nil):=se AU λD σ H q=>by obtain⟨o,ρ,S,oi,er,q⟩:=q;exact q _ _ (SO.d9 oi er aI.refl)
theorem Bw{st:Stmt}{j8:List Stmt}{t:T}{ts:Ts}(h1:PS X st (gR Φ Γ F W fF t))(h2:mU X j8 (ik Φ Γ F W fF ts)):mU X (st::j8) (ik Φ Γ F W fF (.cons t ts)):=se (ou h1 h2) λD σ H q=>by
 obtain⟨o,ρ,S,oi,er,q⟩:=q;rw[aV]at q;rw[aa]at q;refine⟨o,ρ,S,oi,er,af q λp _ q=>?_⟩;unfold bh;cases hp:p.1 with
 |next=>rw[hp]at q;intro σ1 H1 so;obtain⟨⟨o1,Ml,az,Li⟩,e1,a1⟩:=so;exact⟨o1,p.2.1,p.2.2,Ml,az,af q λp2 _ q=>bh.go e1 Li a1 (λ_ _ z=>z) (λ_ _ z=>z) (λ_ _ z=>z) (λ_ _ z=>z) q⟩
 |brk=>rw[hp]at q;exact q
 |cnt=>rw[hp]at q;exact q
 |ret d=>rw[hp]at q;exact q
theorem Jm{t:C}{a b:Ts}{st:Stmt}(h:PS X st (IU (dP Φ Γ F t) (ik Φ Γ F W fF a) (ik Φ Γ F W fF b))):PS X st (gR Φ Γ F W fF (.ifs t a b)):=bc h λD σ H q=>by
 obtain⟨o,ρ,S,oi,er,q⟩:=q;rw[mx]at q;rw[aa]at q;refine⟨o,ρ,S,er,af q λp _ q H1 e1 az=>?_⟩;have go:∀{ts:Ts},mR Φ.Ek (aE F ts ρ p.2) (bh Φ Γ W fF o H D)->ik Φ Γ F W fF ts D σ H1:=λq=>⟨o,ρ,p.2,oi,az,af q λp2 _ q=>bh.go (er.dA e1) (λb z=>.inl z) (az.BE e1) (λ_ _ z=>z) (λ_ _ z=>z) (λ_ _ z=>z) (λ_ _ z=>z) q⟩
 cases hp:p.1 with
 |true=>rw[hp]at q;exact DB (go q)
 |false=>rw[hp]at q;exact DA (go q)
theorem Jl{tg:Tg}{it:o8}{b:Ts}{st:Stmt}(hK:Φ.K=X.K)(hp:∀i∈bA tg,plainS Γ i=true)(h:PS X st (IT (oK Φ Γ F it) (FP X.K tg) (ik Φ Γ F W fF b))):PS X st (gR Φ Γ F W fF (.fr tg it b)):=bc h λD σ H q=>by
 obtain⟨o,ρ,S,oi,er,q⟩:=q;rw[xQ]at q;rw[aa]at q;refine⟨o,ρ,S,er,af q λp _ q J H1 io az=>?_⟩;obtain⟨gs,q⟩:=aG q;have wk:Wk Φ.K o.A o.A J H1 p.1:=(RI.mp gs).elim (λz=>io.w0 (QQ z)) io.w2;refine⟨λi m σ2 H2=>m=p.1.length-i/\i<=p.1.length/\∃o2 ρ2 S2,OI Φ W o2/\ER Φ Γ o2 ρ2 S2 σ2 H2/\aI o.A H1 H2/\(∀b,o2.A b->o.A b\/H1 b=none)/\(∀b x,H1 b=some x->∃y,H2 b=some y)/\mR Φ.Ek (forL tg (aE F b) (p.1.drop i) ρ2 S2) (bh Φ Γ W fF o H D),
  ⟨_,rfl,SJ _,o,ρ,p.2,oi,az,aI.refl,λb z=>.inl z,λb x hx=>⟨x,hx⟩,q⟩,?_⟩
 rintro i m σ2 H2 ⟨rfl,hi,o2,ρ2,S2,D0,cL,e2,zT,JE,q⟩;have eH:aI o.A H H2:=(er.dA io.ext).trans e2;have aH:∀b x,H b=some x->∃y,H2 b=some y:=λb x hx=>by obtain⟨y,hy⟩:=az.BE io.ext b x hx;exact JE b y hy
 have A1:∀b,o2.A b->o.A b\/H b=none:=λb z=>(zT b z).imp id λq=>by
  cases hb:H b with
  |none=>rfl
  |some x=>obtain⟨y,hy⟩:=az.BE io.ext b x hb;rw[q]at hy;cases hy
 by_cases cP:i<p.1.length
 ·refine .inr ⟨wk.go i H2 cP e2,?_⟩;have hd:∃d,p.1[i]?=some d:=⟨p.1[i],by simp[cP]⟩;obtain⟨d0,uO⟩:=hd;have KY:p.1.drop i=d0::p.1.drop (i+1):=by rw[RW cP];congr 1;exact(QR.mp uO).2
  rw[KY]at q;unfold forL at q;rw[aa]at q;obtain⟨ρ3,hρ,q⟩:=jC (oG _ _ _) q;rw[aa]at q;refine⟨λσ3 H3=>i+1<=p.1.length/\∃o3 ρ3 S3,OI Φ W o3/\ER Φ Γ o3 ρ3 S3 σ3 H3/\aI o.A H1 H3/\(∀b,o3.A b->o.A b\/H1 b=none)/\(∀b x,H1 b=some x->∃y,H3 b=some y)/\mR Φ.Ek (forL tg (aE F b) (p.1.drop (i+1)) ρ3 S3) (bh Φ Γ W fF o H D),λσ3 H3 z=>⟨p.1.length-(i+1),⋯,rfl,z⟩,λx H3 y=>?_⟩;obtain⟨s3,d,hd,hx⟩:=wk.yld i x H2 H3 cP e2 y;rw[uO]at hd;cases hd;have wq:=hx o2.A zT;rw[<-hK];refine yv (cL.grow s3) hp wq hρ λσ4 K2 _=>?_
  refine⟨o2,ρ3,S2,D0,K2,af q λp2 _ q=>?_⟩;have again:∀{σ5:L2.St}{H5:Hp},SO Φ Γ W o2 H3 p2.2.1 p2.2.2 σ5 H5->mR Φ.Ek (forL tg (aE F b) (p.1.drop (i+1)) p2.2.1 p2.2.2) (bh Φ Γ W fF o H D)->i+1<=p.1.length/\∃o3 ρ3 S3,OI Φ W o3/\ER Φ Γ o3 ρ3 S3 σ5 H5/\aI o.A H1 H5/\(∀b,o3.A b->o.A b\/H1 b=none)/\(∀b x,H1 b=some x->∃y,H5 b=some y)/\mR Φ.Ek (forL tg (aE F b) (p.1.drop (i+1)) ρ3 S3) (bh Φ Γ W fF o H D):=λ {σ5 H5} so q=>by have IJ:=SO.go (o:=o) (H:=H1) (e2.trans (aI.of_same s3)) zT (λb x hx=>by obtain⟨y,hy⟩:=JE b x hx;exact⟨y,s3 _ _ hy⟩) so;obtain⟨⟨o5,HM,BG,GJ⟩,e5,a5⟩:=IJ;exact⟨cP,o5,_,_,HM,BG,e5,GJ,a5,q⟩
  unfold bh;cases gV:p2.1 with
  |next=>rw[gV]at q;exact λσ5 H5 so=>again so q
  |cnt=>rw[gV]at q;exact λσ5 H5 so=>again so q
  |brk=>rw[gV]at q;intro σ5 H5 so;have q:bh Φ Γ W fF o H D (.next,p2.2):=q;unfold bh at q;exact q σ5 H5 (SO.go (eH.trans (aI.of_same s3)) A1 (λb x hx=>by obtain⟨y,hy⟩:=aH b x hx;exact⟨y,s3 _ _ hy⟩) so)
  |ret d=>rw[gV]at q;have q:bh Φ Γ W fF o H D (.ret d,p2.2):=q;exact q
 ·have e:i=p.1.length:=⋯
  subst e;rw[List.drop_length]at q;have q:bh Φ Γ W fF o H D (.next,ρ2,S2):=q;unfold bh at q;exact .inl ⟨wk.stop H2 e2,q _ _ ⟨⟨o2,D0,cL,A1⟩,eH,aH⟩⟩
theorem M5{t:C}{b:Ts}{st:Stmt}(h:PS X st (yt (dP Φ Γ F t) (ik Φ Γ F W fF b))):PS X st (gR Φ Γ F W fF (.wh t b)):=bc h λD σ H q=>by
 obtain⟨o,ρ,S,oi,er,q⟩:=q;rw[hU]at q;refine⟨λm σ2 H2=>∃o2 ρ2 S2,OI Φ W o2/\ER Φ Γ o2 ρ2 S2 σ2 H2/\aI o.A H H2/\(∀b,o2.A b->o.A b\/H b=none)/\(∀b x,H b=some x->∃y,H2 b=some y)/\mR Φ.Ek (iB (aZ F t) (aE F b) m ρ2 S2) (bh Φ Γ W fF o H D),
  ⟨_,o,ρ,S,oi,er,aI.refl,λb z=>.inl z,λb x hx=>⟨x,hx⟩,q⟩,?_⟩
 rintro m σ2 H2 ⟨o2,ρ2,S2,D0,cL,e2,zT,JE,q⟩;cases m with
 |zero=>exact q.elim
 |succ m=>
  unfold iB at q;rw[aa]at q;refine⟨o2,ρ2,S2,cL,af q λp _ q H3 e3 nI=>?_⟩;have Na:∀b x,H b=some x->∃y,H3 b=some y:=λb x hx=>by obtain⟨y,hy⟩:=JE b x hx;exact nI.BE e3 b y hy
  have Nh:aI o.A H H3:=⟨λb x hx n=>by
   refine e3.kp _ _ (e2.kp _ _ hx n) λz=>?_
   rcases zT b (cL.da b z)with q|q
   ·exact n q
   ·(rw[hx]at q;cases q),λb xs hx=>e3.tp _ _ (e2.tp _ _ hx)⟩
  cases hp:p.1 with
  |true=>
   rw[hp]at q;simp only[Tb]at q;rw[aa]at q;refine DB ⟨λσ4 H4=>∃o2 ρ2 S2,OI Φ W o2/\ER Φ Γ o2 ρ2 S2 σ4 H4/\aI o.A H H4/\(∀b,o2.A b->o.A b\/H b=none)/\(∀b x,H b=some x->∃y,H4 b=some y)/\mR Φ.Ek (iB (aZ F t) (aE F b) m ρ2 S2) (bh Φ Γ W fF o H D),λσ4 H4 z=>⟨m,SH _,z⟩,o2,ρ2,p.2,D0,nI,af q λp2 _ q=>?_⟩;have IJ:∀{σ5:L2.St}{H5:Hp},SO Φ Γ W o2 H3 p2.2.1 p2.2.2 σ5 H5->SO Φ Γ W o H p2.2.1 p2.2.2 σ5 H5:=λso=>SO.go Nh zT Na so
   unfold bh;cases gV:p2.1 with
   |next=>rw[gV]at q;intro σ5 H5 so;obtain⟨⟨o5,HM,BG,GJ⟩,e5,a5⟩:=IJ so;exact⟨o5,_,_,HM,BG,e5,GJ,a5,q⟩
   |cnt=>rw[gV]at q;intro σ5 H5 so;obtain⟨⟨o5,HM,BG,GJ⟩,e5,a5⟩:=IJ so;exact⟨o5,_,_,HM,BG,e5,GJ,a5,q⟩
   |brk=>rw[gV]at q;intro σ5 H5 so;have q:bh Φ Γ W fF o H D (.next,p2.2):=q;unfold bh at q;exact q σ5 H5 (IJ so)
   |ret d=>rw[gV]at q;have q:bh Φ Γ W fF o H D (.ret d,p2.2):=q;exact q
  |false=>rw[hp]at q;have q:bh Φ Γ W fF o H D (.next,ρ2,p.2):=q;unfold bh at q;exact DA (q _ _ ⟨⟨o2,D0,nI,zT⟩,Nh,Na⟩)
end
def mP(g:G)(Γ:Gm):Expr->Option (List Nat)
 |.Constant (.str x) _ _=>if x.length<=1000 then some [] else none
 |.FormattedValue (.Name x _) (-1) none _=>if cg x then(match slot Γ x with
  |some i=>some [i]
  |none=>if qW (Γ.names.lookup x) then(match g.cons.lookup x with
   |some (.int n)=>if 0<=n/\n<10^19 then some [] else none
   |_=>none) else none) else none
 |_=>none
def L9(g:G)(Γ:Gm):List Expr->Option (List Nat)
 |[]=>some []
 |e::es=>(mP g Γ e).bind λa=>(L9 g Γ es).bind λb=>some (a++b)
def mS(g:G)(Γ:Gm):Expr->Option (List Nat)
 |.Constant (.str _) _ _=>some []
 |.JoinedStr (e1::e2::es) _=>if (e1::e2::es).length<=100 then L9 g Γ (e1::e2::es) else none
 |_=>none
def pV(vs:List Nat)(σ:L2.St):Prop:=∀i∈vs,∃n:Nat,σ[i]?=some (some (.int n))/\n<10^19
section
variable{g:G}{xv:Nat->Value}{CX:j9}{k:Nat}{F:FT}{X:Cx}{Φ:Fm}{Γ:Gm}{W:Addr->Prop}{fF:Bool}
theorem Ap{e:Expr}{vs:List Nat}(h:mS g Γ e=some vs)(env:Env):starEach [e] env=[(false,eval e env)]:=by unfold mS at h;split at h<;>first|rfl|cases h
theorem Ep(gx:GX g Γ X){e:Expr}{vs us:List Nat}(h:mP g Γ e=some vs)(hs:∀i∈vs,i∈us):FW X e (pV us):=by
 unfold mP at h;split at h
 ·split at h
  ·rename_i hl;exact AM hl
  ·cases h
 ·split at h
  ·rename_i ho;obtain⟨n1,n2,n3⟩:=bj ho;split at h
   ·rename_i i hi;cases h;obtain⟨v1,v2,v3⟩:=i9 hi;intro pins s σ H Q I hp q;exact AN (by rw[gx.N];exact v3) (gx.vis _ v1) n1 n2 pins s σ H Q I (hp i (hs i ∅)) q
   ·split at h
    ·rename_i hg;split at h
     ·rename_i n hc;split at h
      ·rename_i hn;obtain⟨u,_,h2,h3⟩:=gx.con _ _ hc;obtain⟨m,rfl⟩:=Int.eq_ofNat_of_zero_le hn.1;exact xx (gx.gl _ hg) h2 h3 ⋯ n1
      ·cases h
     ·cases h
    ·cases h
  ·cases h
 ·cases h
theorem xA(gx:GX g Γ X){us:List Nat}:∀{es:List Expr}{vs:List Nat},L9 g Γ es=some vs->(∀i∈vs,i∈us)->FY X es (pV us)
 |[],vs,_,_=>AO
 |e::es,vs,h,hs=>by obtain⟨a,h1,h⟩:=QL.mp h;obtain⟨b,h2,h⟩:=QL.mp h;cases h;refine xy (Ep gx h1 λi hi=>hs i (Sh _ hi)) (xA gx h2 λi hi=>hs i (Rk _ hi)) ?_;unfold mP at h1;split at h1<;>first|rfl|cases h1
theorem Ia(gx:GX g Γ X){e:Expr}{vs:List Nat}(h:mS g Γ e=some vs):PM X e (pV vs):=by
 unfold mS at h;split at h
 ·exact Eo
 ·split at h
  ·rename_i hl;exact uf (xA gx h λi hi=>hi) hl
  ·cases h
 ·cases h
theorem Fq{c:Str}{k0:Nat}(h:wy c (g.xs.map (·.1))=some k0):∃ts,g.xs[k0]?=some (c,ts):=by have:=iR h;rw[Q6]at this;obtain⟨⟨a,ts⟩,h1,h2⟩:=Q2.mp this;cases h2;exact⟨ts,h1⟩
theorem M3{k0:Nat}{vs:List Nat}{ts:List (Str×Bool)}{c:Str}{arg:Expr}{np dz pos:Pos}(hX:HX g xv CX k F Φ X)(gx:GX g Γ X)(hx:g.xs[k0]?=some (c,ts))(hg:Gl X c)(nW:(c==("__debug__":Str))=false)(he:PM X arg (pV vs))(tS:starEach [arg] X.env=[(false,eval arg X.env)]):
  PS X (.Raise (some (.Call (.Name c np) [arg] [] dz)) none pos) (gR Φ Γ F W fF (.rs k0 vs)):=by
 intro pins s σ H D I q;obtain⟨o,ρ,S,oi,er,q⟩:=q;rw[xR]at q;obtain⟨hm,q⟩:=aG q;obtain⟨C,e1,e2,e3,_⟩:=hX.xk _ _ _ hx;refine xD (E:=jc Φ xv) (I.ok.hd gx.calm) hX.st.pn hg e2 e3 hX.xgx he tS nW pins s σ H D I ⟨λi hi=>?_,k0,e1.symm,q,er.ent⟩;have:=Ro.mp hm i hi;unfold tZ at this;split at this
 ·rename_i n hn;rw[QO]at this;obtain⟨m,rfl⟩:=Int.eq_ofNat_of_zero_le (QQ this.1);obtain⟨v,h1,h2⟩:=er.val i _ hn;have h3:RV Φ.K o.A H v (.int (m:Int)):=by split at h2<;>exact h2
  rw[h3.int_inv]at h1;exact⟨m,h1,by have:=QQ this.2;omega⟩
 ·cases this
end
def P5:Expr->Option (Str×Pos)
 |.Name x p=>some (x,p)
 |_=>none
def Dx:Expr->Bool
 |.Tuple ..=>true
 |.List ..=>true
 |_=>false
def gW:Expr->Bool
 |.ListComp ..=>true
 |.SetComp ..=>true
 |.DictComp ..=>true
 |_=>false
def CO(n:Nat)(g:G)(Γ:Gm)(i:Nat)(e:Expr):Option T:=match e with
 |.Name y p=>match slot Γ y with
  |some j=>if dX Γ j then none else(cE n g Γ (.Name y p)).bind λc=>some (.asg i c)
  |none=>(cE n g Γ (.Name y p)).bind λc=>some (.asg i c)
 |e=>(cE n g Γ e).bind λc=>some (if fresh g.fr c&&lk c != 0 then .asgM i c else .asg i c)
def CQ(n:Nat)(g:G)(Γ:Gm)(fF:Bool)(e:Expr):Option T:=match e with
 |.Name y p=>match slot Γ y with
  |some j=>if dX Γ j then(if Γ.δ==some j||Γ.κ==some j then none else some (.ret (.mvr j))) else(cE n g Γ (.Name y p)).bind λc=>if fF then none else some (.ret c)
  |none=>(cE n g Γ (.Name y p)).bind λc=>if fF then none else some (.ret c)
 |e=>(cE n g Γ e).bind λc=>if !fF||fresh g.fr c then some (.ret c) else none
def OK(Γ:Gm)(it:Expr)(b:List Stmt):Option (Nat×Expr):=(P5 it).bind λx=>match b with
 |[s]=>match s with
  |.Assign ts e _=>match ts with
   |[t]=>(slot Γ x.1).bind λi=>if dX Γ i&& !gW e then(kN Γ t).map λj=>(j,e) else none
   |_=>none
  |_=>none
 |_=>none
mutual
noncomputable def cS:Nat->G->Gm->Bool->Bool->Stmt->Option T
 |0,_,_,_,_,_=>none
 |n+1,g,Γ,dp,fF,st=>match st with
  |.Assign tgs e _=>match tgs with
   |[.Name x _]=>(dM Γ x).bind λi=>
     if Γ.δ==some i then none
     else if dX Γ i then(if Γ.κ==some i then none else(cE n g Γ e).bind λc=>if fresh g.fr c then some (.asgM i c) else none)
     else CO n g Γ i e
   |[.Tuple es _ _]=>if Dx e then none else(eP Γ es).bind λis=>(cE n g Γ e).bind λc=>some (.asgT is c)
   |[.Subscript (.Name x _) k _]=>(slot Γ x).bind λi=>if dX Γ i then(cE n g Γ e).bind λv'=>(cE n g Γ k).bind λk'=>if Γ.κ==some i then none else some (.uw i k' v') else none
   |_=>none
  |.AugAssign t o e _=>match t,o with
   |.Name x _,.Add=>if gW e then none else(dM Γ x).bind λi=>if plainS Γ i then(cE n g Γ e).bind λc=>some (.aug i c) else none
   |_,_=>none
  |.Expr ex _=>match ex with
   |.Call (.Attribute (.Name x _) m ap) [a] [] cp=>(slot Γ x).bind λi=>if dX Γ i&&ap.endLine==cp.line then(cE n g Γ a).bind λa'=>
     (if m==("append":Str) then some (.app i a') else none) else none
   |.Call (.Attribute (.Name x _) m ap) [] [] cp=>(slot Γ x).bind λi=>if dX Γ i&&ap.endLine==cp.line&&m==("clear":Str) then some (.clr i) else none
   |e=>if gW e then none else(cE n g Γ e).bind λc=>some (.FC c)
  |.Return (some e) _=>CQ n g Γ fF e
  |.Return none _=>some .retN
  |.If t a b _=>(cE n g Γ t).bind λt'=>(zu n g Γ dp fF a).bind λa'=>(zu n g Γ dp fF b).bind λb'=>some (.ifs t' a' b')
  |.For tg it b els _=>match els with
   |[]=>(cI n g Γ tg it).bind λfR=>(vj Γ tg).bind λyu=>(zu n g Γ dp fF b).bind λb'=>some (.fr yu fR b')
   |_=>none
  |.While t b els _=>match els with
   |[]=>(cE n g Γ t).bind λt'=>(zu n g Γ dp fF b).bind λb'=>some (.wh t' b')
   |_=>none
  |.Raise ra rb _=>match ra,rb with
   |some (.Call (.Name c _) [arg] [] _),none=>if qW (Γ.names.lookup c)&&cg c then(wy c (g.xs.map (·.1))).bind λk=>(mS g Γ arg).bind λvs=>some (.rs k vs) else none
   |_,_=>none
  |.Break _=>some .brk
  |.Continue _=>some .cnt
  |.Pass _=>some .pas
  |_=>none
noncomputable def zu:Nat->G->Gm->Bool->Bool->List Stmt->Option Ts
 |0,_,_,_,_,_=>none
 |n+1,g,Γ,dp,fF,j8=>match j8 with
  |[]=>some .nil
  |st::j8=>(cS n g Γ dp fF st).bind λt=>(zu n g Γ dp fF j8).bind λts=>some (.cons t ts)
end
section
variable{g:G}{xv:Nat->Value}{CX:j9}{k:Nat}{F:FT}{X:Cx}{Φ:Fm}{Γ:Gm}{W:Addr->Prop}
theorem jZ{e:Expr}(h:gW e=false)(t:Option Expr)(l:Nat)(env:Env):swapsWith e t l env=pure false:=by cases e<;>first|rfl|(cases h)
theorem kX{e:Expr}{t:Expr}(ht:∀x p,t≠ .Name x p)(l:Nat)(env:Env):swapsWith e (some t) l env=pure false:=by cases e<;>first|rfl|(cases t<;>first|rfl|exact absurd rfl (ht _ _))
theorem nF{n:Nat}{elt:Expr}{gens:List Comprehension}{sc:Scope}{dz:Pos}{c:C}(h:cE (n+1) g Γ (.ListComp elt gens sc dz)=some c):sc.kind= .function/\zp sc.names Γ.names (aY Γ sc).1.N Γ.N (aY Γ sc).2=true/\(aY Γ sc).1.N.Nodup/\
  ((∃tg it ifs fR yu za e',gens=[⟨tg,it,ifs,0⟩]/\cI n g Γ tg it=some fR/\vj (aY Γ sc).1 tg=some yu/\Gh n g (aY Γ sc).1 ifs=some za/\cE n g (aY Γ sc).1 elt=some e'/\c= .comp (aY Γ sc).2 fR yu za e')):=by
 unfold cE at h;simp only at h;split at h
 ·rename_i hk;split at h
  ·rename_i tg it ifs;obtain⟨fR,h1,h⟩:=QL.mp h;obtain⟨yu,h2,h⟩:=QL.mp h;obtain⟨za,h3,h⟩:=QL.mp h;obtain⟨e',h4,h⟩:=QL.mp h;split at h
   ·rename_i hb;cases h;rw[QO]at hb;exact⟨Ra hk,hb.1,QQ hb.2,⟨tg,it,ifs,fR,yu,za,e',rfl,h1,h2,h3,h4,rfl⟩⟩
   ·cases h
  ·cases h
 ·cases h
theorem gE{n i:Nat}{x:Str}{e:Expr}{c:C}{pos' pos:Pos}(gx:GX g Γ X)(hX:HX g xv CX k F Φ X)(hs:dM Γ x=some i)(h:cE n g Γ e=some c):PS X (.Assign [.Name x pos'] e pos) (mO (bf Φ Γ F g.fr c) (dC i)):=by
 have S:=gI (F:=F) n Γ X Φ gx hX;obtain⟨a1,a2,a3⟩:=dN hs;obtain⟨l1,l2⟩:=gx.loc x a1;have hN:X.N.Nodup:=gx.N▸gx.nd;have hi:X.N[i]?=some x:=by rw[gx.N];exact a3
 by_cases hc:gW e=true
 ·cases n with
  |zero=>simp[cE]at h
  |succ n=>
   cases e with
   |ListComp elt gens sc dz=>
    have OZ:=(S.e _ _ h).1;obtain⟨hk,hb,oX,GU⟩:=nF h;cases FK:(X.env.blockKind== .function&&X.env.kindOf x==some .local&&pos'.line==(Expr.ListComp elt gens sc dz).pos.line&& !(sc.names.any λ(n,k)=>n==x&&(k== .local||k== .cell))) with
    |false=>exact qd hN hi l1 OZ (by show pure (X.env.blockKind== .function&&X.env.kindOf x==some .local&&pos'.line==(Expr.ListComp elt gens sc dz).pos.line&& !(sc.names.any λ(n,k)=>n==x&&(k== .local||k== .cell)))=_;rw[FK]) l2
    |true=>
     have hl:X.env.kindOf x=some .local:=by rw[QO,QO,QO]at FK;exact Ra FK.1.1.2
     have B:=vg gx hk hb;have S1:=gI (F:=F) n Γ X Φ gx hX;have J:=λC s H fp=>gI (F:=F) n (aY Γ sc).1 (fq X sc (aY Γ sc).1.N C s H fp (Bv X sc (aY Γ sc).1.N (jc Φ xv) C s H fp)) Φ (lO gx B oX) (wu hX)
     obtain⟨tg,it,ifs,fR,yu,za,e',rfl,h1,h2,h3,h4,rfl⟩:=GU
     ·refine bc (oq (xb:=Bv X sc (aY Γ sc).1.N (jc Φ xv)) (body:=λacc env=>jm elt acc env) (i:=i) gx.calm hN hi hl B (tm hX.st hX.xgx) (S1.i _ _ _ h1).1 (λpQ acc env=>oO ..) (λC s H fp=>EW (lO gx B oX) h2) (λC s H fp=>(J C s H fp).ts _ _ h3) (λC s H fp D=>rV ((J C s H fp).e _ _ h4).1) (pM (S1.i _ _ _ h1).2 _) ?_) λD σ H q=>yb hX.K B oX h2 q
      show pure (X.env.blockKind== .function&&X.env.kindOf x==some .local&&pos'.line==(Expr.ListComp elt [⟨tg,it,ifs,0⟩] sc dz).pos.line&& !(sc.names.any λ(n,k)=>n==x&&(k== .local||k== .cell)))=_;rw[FK]
   |SetComp=>cases n<;>cases h
   |DictComp=>cases n<;>cases h
   |_=>cases hc
 ·exact qd hN hi l1 (S.e _ _ h).1 (jZ ‹hc› _ _ _) l2
structure Ku(g:G)(F:FT)(n:Nat)(Γ:Gm)(X:Cx)(Φ:Fm)(W:Addr->Prop)(dp fF:Bool):Prop where
 s:∀st t,cS n g Γ dp fF st=some t->PS X st (gR Φ Γ F W fF t)
 ss:∀j8 ts,zu n g Γ dp fF j8=some ts->mU X j8 (ik Φ Γ F W fF ts)
theorem mQ{x:Str}{i:Nat}{p:Pos}(gx:GX g Γ X)(h:slot Γ x=some i):PE X (.Name x p) (j0 i):=by obtain⟨v1,v2,v3⟩:=i9 h;obtain⟨n1,n2,n3⟩:=bj v2;exact qa (by rw[gx.N];exact v3) (gx.vis x v1) n1 n2
theorem CB{n i:Nat}{x:Str}{e:Expr}{t:T}{pos' pos:Pos}{fF:Bool}(gx:GX g Γ X)(hX:HX g xv CX k F Φ X)(hs:dM Γ x=some i)(hp:plainS Γ i=true)(h:CO n g Γ i e=some t):PS X (.Assign [.Name x pos'] e pos) (gR Φ Γ F W fF t):=by
 have EG:∀{e:Expr}{t:T},((cE n g Γ e).bind λc=>some (T.asg i c))=some t->PS X (.Assign [.Name x pos'] e pos) (gR Φ Γ F W fF t):=λ {e t} h=>by obtain⟨c,h1,h⟩:=QL.mp h;cases h;exact Cj hp (gE gx hX hs h1)
 unfold CO at h;split at h
 ·rename_i y p;split at h
  ·rename_i j hj;split at h
   ·cases h
   ·exact EG h
  ·exact EG h
 ·obtain⟨c,h1,h⟩:=QL.mp h;cases h;split
  ·rename_i hf;rw[QO]at hf;exact Ff hp hf.1 (gE gx hX hs h1)
  ·exact Cj hp (gE gx hX hs h1)
theorem EH{n:Nat}{e:Expr}{t:T}{pos:Pos}{fF:Bool}(gx:GX g Γ X)(hX:HX g xv CX k F Φ X)(h:CQ n g Γ fF e=some t):PS X (.Return (some e) pos) (gR Φ Γ F W fF t):=by
 have S:=gI (F:=F) n Γ X Φ gx hX;have plain:∀{e:Expr}{t:T},((cE n g Γ e).bind λc=>if fF then none else some (T.ret c))=some t->PS X (.Return (some e) pos) (gR Φ Γ F W fF t):=λ {e t} h=>by
  obtain⟨c,h1,h⟩:=QL.mp h;split at h
  ·cases h
  ·rename_i hf;cases h;exact Ck (λz=>absurd z hf) (jP (S.e _ _ h1).1)
 unfold CQ at h;split at h
 ·rename_i y p;split at h
  ·rename_i j hj;split at h
   ·rename_i hm;split at h
    ·cases h
    ·rename_i hk;cases h;exact Fi hm (λz=>hk (by simp[z])) (jP (mQ gx hj))
   ·exact plain h
  ·exact plain h
 ·obtain⟨c,h1,h⟩:=QL.mp h;split at h
  ·rename_i hf;cases h;refine Ck (λz=>?_) (jP (S.e _ _ h1).1);rw[z]at hf;simpa using hf
  ·cases h
theorem oH{dp fF:Bool}(n:Nat):∀(Γ:Gm)(X:Cx)(Φ:Fm),GX g Γ X->HX g xv CX k F Φ X->(dp=false->Φ.d0=none)->PassesOwn (model X.prog X.w) X.A X.env X.xe->Ku g F n Γ X Φ W dp fF:=by
 induction n with
 |zero=>intro Γ X Φ gx hX hd ho;exact⟨λst t h=>by simp[cS]at h,λst t h=>by simp[zu]at h⟩
 |succ n ih=>
  intro Γ X Φ gx hX hd ho;have I:=ih Γ X Φ gx hX hd ho;have S:=gI (F:=F) n Γ X Φ gx hX;have hK:=hX.K;refine⟨λst t h=>?_,λj8 ts h=>?_⟩
  ·unfold cS at h;split at h
   ·split at h
    ·rename_i e pos x xp;obtain⟨i,hs,h⟩:=QL.mp h;split at h
     ·cases h
     ·rename_i hδ;have hδ':Γ.δ≠some i:=λz=>hδ (by rw[z];exact S4 _)
      split at h
      ·rename_i hm;split at h
       ·cases h
       obtain⟨c,h1,h⟩:=QL.mp h;split at h
       ·rename_i hf;cases h;exact Fe hm hδ' hf (gE gx hX hs h1)
       ·cases h
      ·rename_i hm;refine CB gx hX hs ?_ h;unfold plainS;rw[QO];exact⟨by simpa using hm,by simpa using hδ'⟩
    ·rename_i e pos tg0 es kk tp;split at h
     ·cases h
     ·rename_i hdisp;obtain⟨is,h1,h⟩:=QL.mp h;obtain⟨c,h2,h⟩:=QL.mp h;cases h;have JY:vj Γ (.Tuple es kk tp)=some (.tp is):=by rw[vj,h1];rfl
      refine Fg hK (λi hi=>(gM JY i hi).1) (xB (S.e _ _ h2).1 (IA gx h1) (show swapsWithSole [Expr.Tuple es kk tp] e pos.line X.env=pure false from kX (e:=e) (t:=Expr.Tuple es kk tp) (λx p z=>by cases z) pos.line X.env) ?_);cases e<;>first|rfl|(exact absurd rfl hdisp)
    ·rename_i v pos tg0 x xp kx sp;obtain⟨i,hs,h⟩:=QL.mp h;split at h
     ·rename_i hm;obtain⟨v',h1,h⟩:=QL.mp h;obtain⟨k',h2,h⟩:=QL.mp h;have Pi:=(S.e _ _ h2).2.2;split at h
      ·cases h
      ·cases h;refine Fk hm (xB (S.e _ _ h1).1 (Ej (mQ gx hs) (S.e _ _ h2).1 set_list (by intro _;cases kx<;>first|rfl|(cases Pi))) (show swapsWithSole [Expr.Subscript (Expr.Name x xp) kx sp] v pos.line X.env=pure false from kX (e:=v) (t:=Expr.Subscript (Expr.Name x xp) kx sp) (λx p z=>by cases z) pos.line X.env) ?_);cases v<;>rfl
     ·cases h
    ·cases h
   ·rename_i t o e pos;split at h
    ·rename_i x xp;split at h
     ·cases h
     ·rename_i hc;obtain⟨i,hs,h⟩:=QL.mp h;split at h
      ·rename_i hp;obtain⟨c,h1,h⟩:=QL.mp h;cases h;obtain⟨a1,a2,a3⟩:=dN hs;obtain⟨l1,l2⟩:=gx.loc x a1;exact Jg hp (Es (gx.N▸gx.nd) (by rw[gx.N];exact a3) l1 (S.e _ _ h1).1 Dw l2)
      ·cases h
    ·cases h
   ·split at h
    ·rename_i pos x xp m ap a cp;obtain⟨i,hs,h⟩:=QL.mp h;split at h
     ·rename_i hm;rw[QO]at hm;obtain⟨a',h1,h9⟩:=QL.mp h;clear h;have tS:=bu (S.e _ _ h1).2.2 [] X.env;split at h9
      ·rename_i hma;have em:=Ra hma;subst em;cases h9;exact Jf hm.1 (mn (HU PySem.F.plainAttrs_list PySem.F.slot_list_append PySem.F.type_list_append kL (mQ gx hs) (bx (S.e _ _ h1).1 eQ tS) rfl (by rw[tS];rfl) hm.2 tS rfl))
      ·cases h9
     ·cases h
    ·rename_i pos x xp m ap cp;obtain⟨i,hs,h9⟩:=QL.mp h;clear h;split at h9
     ·rename_i hm;rw[QO,QO]at hm;have em:=Ra hm.2;subst em;cases h9;exact Ji hm.1.1 (mn (Ee PySem.F.plainAttrs_list PySem.F.slot_list_clear PySem.F.type_list_clear wJ (mQ gx hs) rfl hm.1.2))
     ·cases h9
    ·split at h
     ·cases h
     ·rename_i hc;obtain⟨c,h1,h⟩:=QL.mp h;cases h;exact Jk (mn (S.e _ _ h1).1 (jZ ‹hc› _ _ _))
   ·exact EH gx hX h
   ·cases h;exact Fj AR
   ·obtain⟨t',h1,h⟩:=QL.mp h;obtain⟨a',h2,h⟩:=QL.mp h;obtain⟨b',h3,h⟩:=QL.mp h;cases h;exact Jm (Ib (S.e _ _ h1).2.1 (I.ss _ _ h2) (I.ss _ _ h3))
   ·split at h
    ·obtain⟨fR,h1,h⟩:=QL.mp h;obtain⟨yu,h2,h⟩:=QL.mp h;obtain⟨b',h3,h⟩:=QL.mp h;cases h;exact Jl hK (λi hi=>(gM h2 i hi).1) (Et ho gx.calm (S.i _ _ _ h1).1 (EW gx h2) (I.ss _ _ h3) (pM (S.i _ _ _ h1).2 _))
    ·cases h
   ·split at h
    ·obtain⟨t',h1,h⟩:=QL.mp h;obtain⟨b',h3,h⟩:=QL.mp h;cases h;exact M5 (xE ho (S.e _ _ h1).2.1 (I.ss _ _ h3))
    ·cases h
   ·split at h
    ·split at h
     ·rename_i hg;rw[QO]at hg;obtain⟨k0,h1,h⟩:=QL.mp h;obtain⟨vs,h2,h⟩:=QL.mp h;cases h;obtain⟨ts,h3⟩:=Fq h1;obtain⟨n1,n2,n3⟩:=bj hg.2;exact M3 hX gx h3 (gx.gl _ hg.1) n1 (Ia gx h2) (Ap h2 _)
     ·cases h
    ·cases h
   ·cases h;exact Jh xC
   ·cases h;exact Jj oo
   ·cases h;exact Fh AQ
   ·cases h
  ·unfold zu at h;split at h
   ·cases h;exact yL
   ·obtain⟨t,h1,h⟩:=QL.mp h;obtain⟨za,h2,h⟩:=QL.mp h;cases h;exact Bw (I.s _ _ h1) (I.ss _ _ h2)
end
inductive HV where
 |b (x:Bool)|l (xs:List Bool)
def HV.E5:HV->Option Bool
 |.b x=>some x
 |.l _=>none
def HV.Hu:HV->Option (List Bool)
 |.l x=>some x
 |.b _=>none
mutual
noncomputable def hE:Nat->G->Gm->Nat->List (Str×Bool)->Option (Nat×HV)->Expr->Option HV
 |0,_,_,_,_,_,_=>none
 |n+1,g,Γ,i,ts,vb,e=>match e with
  |.Call fe as ks _=>match fe,as,ks with
   |.Name f _,[.Name x _,.Name t _],[]=>if f==("isinstance":Str)&&qW (Γ.names.lookup f)&&g.bls.contains f&&slot Γ x==some i&&qW (Γ.names.lookup t)&&cg t then(ts.lookup t).map .b else none
   |_,_,_=>none
  |.Name x _=>vb.bind λv=>if slot Γ x==some v.1 then some v.2 else none
  |.Constant c _ _=>match c with
   |.bool b=>some (.b b)
   |_=>none
  |.List es _=>if es.length<=1000 then(GN n g Γ i ts vb es).map .l else none
  |.BinOp a o b _=>match o with
   |.Add=>((hE n g Γ i ts vb a).bind HV.Hu).bind λx=>((hE n g Γ i ts vb b).bind HV.Hu).bind λy=>if x.length+y.length<=1000 then some (.l (x++y)) else none
   |_=>none
  |.Compare a os bs _=>match os,bs with
   |[.Eq],[b]=>((hE n g Γ i ts vb a).bind HV.Hu).bind λx=>((hE n g Γ i ts vb b).bind HV.Hu).bind λy=>match bL .Eq (.lst (x.map Dt.bl)) (.lst (y.map Dt.bl)) with
    |.ok z=>some (.b z)
    |_=>none
   |_,_=>none
  |.UnaryOp o a _=>match o with
   |.Not=>((hE n g Γ i ts vb a).bind HV.E5).bind λb=>some (.b !b)
   |_=>none
  |.BoolOp o es p=>match es with
   |[a]=>hE n g Γ i ts vb a
   |a::b::es=>((hE n g Γ i ts vb a).bind HV.E5).bind λx=>((hE n g Γ i ts vb (.BoolOp o (b::es) p)).bind HV.E5).bind λy=>some (.b (match o with|.And=>x&&y|.Or=>x||y))
   |[]=>none
  |_=>none
noncomputable def GN:Nat->G->Gm->Nat->List (Str×Bool)->Option (Nat×HV)->List Expr->Option (List Bool)
 |0,_,_,_,_,_,_=>none
 |n+1,g,Γ,i,ts,vb,es=>match es with
  |[]=>some []
  |e::es=>if zX e then((hE n g Γ i ts vb e).bind HV.E5).bind λx=>(GN n g Γ i ts vb es).map (x:: ·) else none
end
def hS(n:Nat)(g:G)(Γ:Gm)(i:Nat)(ts:List (Str×Bool)):List Stmt->Option Bool
 |[.Return (some e) _]=>(hE n g Γ i ts none e).bind HV.E5
 |[.Assign [.Name x _] e _,.Return (some r) _]=>if Γ.names.lookup x==some .local&& !gW e then(dM Γ x).bind λj=>if j==i then none else(hE n g Γ i ts none e).bind λb=>(hE n g Γ i ts (some (j,b)) r).bind HV.E5 else none
 |_=>none
def zw(n:Nat)(g:G)(Γ:Gm)(dp fF:Bool):Stmt->Option T
 |.Try body [.ExceptHandler (some (.Name t _)) (some e) (b0::gL) _] [] [] _=>
  if Γ.names.lookup e==some .local&&qW (Γ.names.lookup t)&&cg t&& !(t==("ValueError":Str))&&g.xs.any (λx=>x.2.lookup t==some true) then(dM Γ e).bind λi=>(zu n g Γ dp fF body).bind λb=>
   some (.tr b (g.xs.map λx=>if x.2.lookup t==some true then hS n g Γ i x.2 (b0::gL) else none))
  else none
 |_=>none
def CP(n:Nat)(g:G)(Γ:Gm)(dp fF:Bool):List Stmt->Option Ts
 |[]=>some .nil
 |st::j8=>((zw n g Γ dp fF st).or (cS n g Γ dp fF st)).bind λt=>(CP n g Γ dp fF j8).bind λts=>some (.cons t ts)
section
variable{g:G}{xv:Nat->Value}{CX:j9}{k:Nat}{F:FT}{X:Cx}{Φ:Fm}{Γ:Gm}{W:Addr->Prop}
theorem zr:bootBuiltins "ValueError"=some (.type "ValueError"):=by decide +kernel
def hV(H:Hp)(v:V):HV->Prop
 |.b x=>v= .bl x
 |.l xs=>∃p,v= .ref p/\H p=some (.lst (xs.map V.bl))
theorem hV.same{H H':Hp}{v:V}{x:HV}(h:hV H v x)(s:aT H H'):hV H' v x:=by
 cases x with
 |b x=>exact h
 |l xs=>obtain⟨p,e,h⟩:=h;exact⟨p,e,s _ _ h⟩
def hG(i:Nat)(a:Addr)(vb:Option (Nat×HV))(σ:L2.St)(H:Hp):Prop:=σ[i]?=some (some (.ref a))/\∀j x,vb=some (j,x)->∃v,σ[j]?=some (some v)/\hV H v x
theorem hG.same{i:Nat}{a:Addr}{vb:Option (Nat×HV)}{σ:L2.St}{H H':Hp}(h:hG i a vb σ H)(s:aT H H'):hG i a vb σ H':=⟨h.1,λj x e=>by
 obtain⟨v,h1,h2⟩:=h.2 j x e;exact⟨v,h1,h2.same s⟩⟩
def tH(i:Nat)(a:Addr)(vb:Option (Nat×HV))(x:HV):TE:=λσ H Q=>hG i a vb σ H/\∀v H',aT H H'->hV H' v x->Q v H'
theorem ec{o:Option HV}{x:Bool}(h:o.bind HV.E5=some x):o=some (.b x):=by
 cases o with
 |none=>cases h
 |some v=>
  cases v with
  |b y=>cases h;rfl
  |l y=>cases h
theorem lX{o:Option HV}{x:List Bool}(h:o.bind HV.Hu=some x):o=some (.l x):=by
 cases o with
 |none=>cases h
 |some v=>
  cases v with
  |b y=>cases h
  |l y=>cases h;rfl
theorem qi{K:Frag}{A:Addr->Prop}{H:Hp}:∀xs:List Bool,ak K A H (xs.map V.bl) (xs.map Dt.bl)
 |[]=>ak.nil
 |_::xs=>ak.cons RV.rK (qi xs)
theorem Jb(n:Nat)(h:n<=1000):n<=sizeLine:=by have:=Th;omega
mutual
theorem nQ{C a:Addr}{o:Obj}{i:Nat}{ts:List (Str×Bool)}(gx:GX g Γ X)(xr:lh X C a o)(xk:Fy X.K X.mg C ts):∀(n:Nat)(vb:Option (Nat×HV))(e:Expr)(b:HV),hE n g Γ i ts vb e=some b->PE (X.hand a o) e (tH i a vb b)
 |0,vb,e,b,h=>by simp[hE]at h
 |n+1,vb,e,b,h=>by
  have ih:=nQ (i:=i) gx xr xk n vb;have var:∀{x:Str}{j:Nat}{p:Pos},slot Γ x=some j->PE (X.hand a o) (.Name x p) (j0 j):=λ {x j p} hs=>by obtain⟨v1,v2,v3⟩:=i9 hs;obtain⟨n1,n2,n3⟩:=bj v2;exact qa (X:=X.hand a o) (by rw[gx.N];exact v3) (gx.vis x v1) n1 n2
  unfold hE at h;split at h
  ·split at h
   ·split at h
    ·rename_i hc;simp only[QO]at hc;obtain⟨⟨⟨⟨⟨h1,h2⟩,h3⟩,h4⟩,h5⟩,h6⟩:=hc;have e1:=Ra h1;subst e1;obtain⟨n1,n2,n3⟩:=bj h6;obtain⟨z,hz,rfl⟩:=Q2.mp h;obtain⟨c,hc,k1,_⟩:=xk.2.2 _ _ hz;rcases hc with ⟨m1,D,rfl⟩|⟨m1,rfl,rfl⟩
     ·intro pins s σ H Q I q;exact xl xr xk.1 xk.2.1 (gx.gl _ h2) (gx.bl _ (fN h3)) (var (Ra h4)) (rZ (X:=X.hand a o) (v:=.ref D) (gx.gl _ h5) m1 rfl n1) (λu r=>r) k1 pins s σ H Q I ⟨q.1.1,q.2 _ _ (aT.refl _) rfl⟩
     ·intro pins s σ H Q I q;exact xl xr xk.1 xk.2.1 (gx.gl _ h2) (gx.bl _ (fN h3)) (var (Ra h4)) (rW (X:=X.hand a o) (v:=.ty "ValueError") (gx.gl _ h5) m1 zr rfl ‹_› n1) (λu r=>r) k1 pins s σ H Q I ⟨q.1.1,q.2 _ _ (aT.refl _) rfl⟩
    ·cases h
   ·cases h
  ·obtain⟨v,h1,h⟩:=QL.mp h;split at h
   ·rename_i hs;cases h;intro pins s σ H Q I q;obtain⟨u,k1,k2⟩:=q.1.2 v.1 v.2 h1;exact var (Ra hs) pins s σ H Q I ⟨_,k1,q.2 _ _ (aT.refl _) k2⟩
   ·cases h
  ·split at h
   ·cases h;intro pins s σ H Q I q;exact B1 pins s σ H Q I (q.2 _ _ (aT.refl _) rfl)
   ·cases h
  ·split at h
   ·rename_i es _ hl;obtain⟨xs,h1,rfl⟩:=Q2.mp h;have he:=v7 (i:=i) gx xr xk n vb es xs h1;intro pins s σ H Q I q;refine xm he.1 pins s σ H Q I ⟨q.1,λvs H' sm ev=>⟨?_,λp hp=>?_⟩⟩
    ·rw[ev,QW,he.2];exact Jb _ hl
    ·exact q.2 _ _ (sm.trans (Mx.bI hp _)) ⟨p,rfl,by rw[aB,ev]⟩
   ·cases h
  ·split at h
   ·obtain⟨x,h1,h⟩:=QL.mp h;obtain⟨y,h2,h⟩:=QL.mp h;split at h
    ·rename_i hl;cases h;intro pins s σ H Q I q;refine B2 d5 (ih _ _ (lX h1)) (ih _ _ (lX h2)) pins s σ H Q I ⟨q.1,λv H1 s1⟨p,e1,k1⟩=>⟨q.1.same s1,λv2 H2 s2⟨p2,e2,k2⟩=>?_⟩⟩;refine⟨p,p2,_,_,e1,e2,s2 _ _ k1,k2,by rw[QW,QW];exact Jb _ hl,λr hr=>?_⟩;exact q.2 _ _ ((s1.trans s2).trans (Mx.bI hr _)) ⟨r,rfl,by rw[aB,Rz]⟩
    ·cases h
   ·cases h
  ·split at h
   ·obtain⟨x,h1,h⟩:=QL.mp h;obtain⟨y,h2,h⟩:=QL.mp h;split at h
    ·rename_i z hz;cases h;intro pins s σ H Q I q;refine rY (fV .Eq (show (X.hand a o).A.units+150<cLine from gx.un)) (ih _ _ (lX h1)) (ih _ _ (lX h2)) (wM _ ‹_› ‹_›) pins s σ H Q I ⟨q.1,λv H1 s1⟨p,e1,k1⟩=>⟨q.1.same s1,λv2 H2 s2⟨p2,e2,k2⟩=>?_⟩⟩;subst e1 e2;exact⟨_,_,z,RV.d4 (s2 _ _ k1) (λz=>z) (qi x),RV.d4 k2 (λz=>z) (qi y),hz,q.2 _ _ (s1.trans s2) rfl⟩
    ·cases h
   ·cases h
  ·split at h
   ·obtain⟨x,h1,h⟩:=QL.mp h;cases h;intro pins s σ H Q I q;exact xn (ih _ _ (ec h1)) pins s σ H Q I ⟨q.1,λv H' sm hv=>⟨_,hv,q.2 _ _ sm rfl⟩⟩
   ·cases h
  ·split at h
   ·intro pins s σ H Q I q;exact xo (ih _ _ h) pins s σ H Q I q
   ·rename_i op p es0 a1 b1 es;obtain⟨x,h1,h⟩:=QL.mp h;obtain⟨y,h2,h⟩:=QL.mp h;cases h;have g2:=ih _ _ (ec h2);intro pins s σ H Q I q;cases op with
    |And=>
     refine xh (ih _ _ (ec h1)) g2 pins s σ H Q I ⟨q.1,λv H' sm hv=>⟨_,hv,?_⟩⟩;cases x with
     |true=>exact⟨q.1.same sm,λv2 H2 s2 h2=>q.2 _ _ (sm.trans s2) h2⟩
     |false=>exact q.2 _ _ sm rfl
    |Or=>
     refine B3 (ih _ _ (ec h1)) g2 pins s σ H Q I ⟨q.1,λv H' sm hv=>⟨_,hv,?_⟩⟩;cases x with
     |true=>exact q.2 _ _ sm rfl
     |false=>exact⟨q.1.same sm,λv2 H2 s2 h2=>q.2 _ _ (sm.trans s2) h2⟩
   ·cases h
  ·cases h
theorem v7{C a:Addr}{o:Obj}{i:Nat}{ts:List (Str×Bool)}(gx:GX g Γ X)(xr:lh X C a o)(xk:Fy X.K X.mg C ts):∀(n:Nat)(vb:Option (Nat×HV))(es:List Expr)(xs:List Bool),GN n g Γ i ts vb es=some xs->PA (X.hand a o) es (λσ H Q=>hG i a vb σ H/\∀vs H',aT H H'->vs=xs.map V.bl->Q vs H')/\xs.length=es.length
 |0,vb,es,xs,h=>by simp[GN]at h
 |n+1,vb,es,xs,h=>by
  unfold GN at h;split at h
  ·cases h;exact⟨λpos pins s σ H Q I q=>eQ pos pins s σ H Q I (q.2 _ _ (aT.refl _) rfl),rfl⟩
  ·rename_i e es;split at h
   ·rename_i hd;obtain⟨x,h1,h⟩:=QL.mp h;obtain⟨ys,h2,rfl⟩:=Q2.mp h;obtain⟨k1,k2⟩:=v7 (i:=i) gx xr xk n vb es ys h2;refine⟨λpos pins s σ H Q I q=>bx (nQ gx xr xk n vb e _ (ec h1)) k1 (bu hd _ _) pos pins s σ H Q I ⟨q.1,λv H1 s1 hv=>⟨q.1.same s1,λvs H2 s2 ev=>q.2 _ _ (s1.trans s2) (by rw[ev,show v= .bl x from hv];rfl)⟩⟩,by rw[Q5,Q5,k2]⟩
   ·cases h
end
theorem GO{C a:Addr}{o:Obj}{i n:Nat}{ts:List (Str×Bool)}{j8:List Stmt}{b:Bool}(gx:GX g Γ X)(xr:lh X C a o)(xk:Fy X.K X.mg C ts)(h:hS n g Γ i ts j8=some b):
  mU (X.hand a o) j8 (λD σ H=>σ[i]?=some (some (.ref a))/\σ.length=X.N.length/\∀H',aT H H'->D.rt (.bl b) H'):=by
 unfold hS at h;split at h
 ·intro pins s σ H D I q;exact sf (jP (nQ gx xr xk n none _ _ (ec h))) pins s σ H D I ⟨⟨q.1,λj b z=>by cases z⟩,λv H' sm hv=>by rw[show v= .bl b from hv];exact q.2.2 _ sm⟩
 ·split at h
  ·rename_i x xp e ap r rp hx;rw[QO]at hx;obtain⟨j,h1,h⟩:=QL.mp h;split at h
   ·cases h
   ·rename_i hj;obtain⟨v,h2,h3⟩:=QL.mp h;obtain⟨a1,a2,a3⟩:=dN h1;obtain⟨l1,l2⟩:=gx.loc x a1;have LC:j≠i:=λz=>hj (by rw[z];exact S4 _)
    have hN:(X.hand a o).N[j]?=some x:=by show X.N[j]?=_;rw[gx.N];exact a3
    have OX:(X.hand a o).N.Nodup:=by show X.N.Nodup;rw[gx.N];exact gx.nd
    intro pins s σ H D I q;refine ou (qd (X:=X.hand a o) OX hN l1 (nQ gx xr xk n none _ v h2) (jZ ‹hx.2› _ _ _) l2) (sf (jP (nQ gx xr xk n (some (j,v)) _ _ (ec h3)))) pins s σ H D I ⟨⟨q.1,λj b z=>by cases z⟩,λu H1 s1 hu=>⟨⟨?_,λj' b' z=>?_⟩,λw H2 s2 hw=>by rw[show w= .bl b from hw];exact q.2.2 _ (s1.trans s2)⟩⟩
    ·rw[Q4 LC];exact q.1
    ·cases z;have:j<σ.length:=by rw[q.2.1];exact(QR.mp hN).1
     exact⟨u,by simp[this],hu⟩
  ·cases h
 ·cases h
theorem GX.b7{Γ:Gm}{X:Cx}{E:Value->Shared->Prop}(gx:GX g Γ X):GX g Γ (X.b7 E):=⟨gx.N,gx.nd,gx.vis,gx.loc,gx.gl,gx.fre,gx.calm,gx.un,gx.con,gx.bl⟩
theorem eh{X:Cx}{E:Value->Shared->Prop}{E':XK}{e:Value}{s':Shared}(h:gP (X.b7 E) E' e s'):gP X E' e s':=by obtain⟨σ,H',a,cls,e1,I,f,q⟩:=h;exact⟨σ,H',a,cls,e1,I.dm,f,q⟩
theorem oV{X:Cx}{E:Value->Shared->Prop}{E':XK}{e:Value}{s':Shared}(h:gP X E' e s'):gP (X.b7 E) E' e s':=by obtain⟨σ,H',a,cls,e1,I,f,q⟩:=h;exact⟨σ,H',a,cls,e1,I.b7 E,f,q⟩
theorem M4{dp fF:Bool}{n:Nat}{st:Stmt}{t:T}(JR:X.env.scope.names=Γ.names)(gx:GX g Γ X)(hX:HX g xv CX k F Φ X)(hd:dp=false->Φ.d0=none)(h:zw n g Γ dp fF st=some t):Jz X st (gR Φ Γ F W fF t):=by
 unfold zw at h;split at h
 ·rename_i body t tp e b0 gL hp pos;split at h
  ·rename_i hc;simp only[QO]at hc;obtain⟨⟨⟨⟨c1,c2⟩,c3⟩,c4⟩,c5⟩:=hc;obtain⟨i,h1,h⟩:=QL.mp h;obtain⟨b,h2,h⟩:=QL.mp h;cases h;obtain⟨a1,a2,a3⟩:=dN h1;obtain⟨l1,l2⟩:=gx.loc e a1;obtain⟨n1,n2,n3⟩:=bj c3;intro s σ H D I q;obtain⟨o,ρ,S,oi,er,q⟩:=q;rw[xT]at q;obtain⟨hS,q⟩:=aG q;have O3:S=none:=by simpa using hS
   have uO:∀z,Φ.d0≠some z:=λz hz=>by obtain⟨ns,e1,_⟩:=er.drw z (oi.d z hz);rw[O3]at e1;cases e1
   generalize htbl:(g.xs.map λx=>if x.2.lookup t==some true then Rx.hS n g Γ i x.2 (b0::gL) else none)=qp at q
   let Φ':Fm:=⟨Φ.K,Φ.H0,Φ.d0,λkk=>∃v,qp[kk]?=some (some v)/\∀H',aI (λb=>Φ.d0=some b) Φ.H0 H'->D.rt (.bl v) H',Φ.P,Φ.w⟩
   have X1:HX g xv CX k F Φ' (X.b7 (gP X (jc Φ' xv))):=⟨hX.K,hX.P,hX.w,hX.fx,hX.room,hX.cx,⟨hX.st.pn,hX.st.st⟩,λe s' z=>eh z,hX.xk⟩;have own:PassesOwn (model X.prog X.w) X.A X.env (gP X (jc Φ' xv)):=tq (X:=X.b7 (gP X (jc Φ' xv))) (E:=jc Φ' xv) ⟨hX.st.pn,hX.st.st⟩ (λe s' z=>eh z) λe s' z=>oV z
   have B:=(oH (dp:=dp) (fF:=fF) (W:=W) n Γ _ Φ' gx.b7 X1 hd own).ss _ _ h2;have eB:t≠"ValueError":=jE ‹c4›;obtain⟨y,PX,Hd⟩:=Rp.mp c5;obtain⟨ky,Pl⟩:=Sj.mp PX;obtain⟨Cy,_,_,yk⟩:=hX.xk ky y.1 y.2 Pl;obtain⟨c,hc,_⟩:=yk.2.2 t true (Ra Hd);have uN:X.mg t=some c:=hc.elim (λz=>z.1) λz=>absurd z.2.1 eB
   have hle:X.env.scope.names.lookup e=some .local:=by rw[JR];exact Ra c1
   refine Bs (X:=X) (E:=jc Φ' xv) (c:=c) (tp:=tp) (hpos:=hp) (pos:=pos) hX.st (λz=>I.ok.hd z) (gx.gl _ c2) uN n1 (gx.N▸gx.nd) (by rw[gx.N];exact a3) hle B (λcls H' z=>?_) I ⟨o,ρ,S,⟨oi.w,oi.d⟩,er.re rfl,?_⟩
   ·obtain⟨kk,rfl,⟨v,hv,PC⟩,Dc⟩:=z;rw[<-htbl,Q6]at hv;obtain⟨⟨x,ts⟩,hx,hv⟩:=Q2.mp hv;split at hv
    ·rename_i hl;obtain⟨C,e1,e2,xk⟩:=hX.xk kk x ts hx;obtain⟨c',kc,_,kx⟩:=xk.2.2 t true (Ra hl);have:c'=c:=by
      have h9:X.mg t=some c':=kc.elim (λz=>z.1) λz=>absurd z.2.1 eB
      rw[uN]at h9;exact(SM h9).symm
     subst this;exact⟨C,e1,kx rfl,λa o xr=>⟨_,GO gx xr xk hv,λσ s1 s2=>⟨s1,s2,λH2 sm=>PC H2 (Dc.trans (aI.of_same sm))⟩⟩⟩
    ·cases hv
   ·cases he:aE F b ρ S with
    |ok p=>
     rw[he]at q;have q:bh Φ Γ W fF o H D p:=q;show bh Φ' Γ W fF o H D p;unfold bh at q ⊢;cases iu:p.1 with
     |next=>rw[iu]at q;intro σ' H' so;exact q σ' H' ⟨so.ex.imp λo' z=>⟨⟨z.1.w,z.1.d⟩,ER.re (Φ:=Φ') (Φ':=Φ) rfl z.2.1,z.2.2⟩,so.ext,so.al⟩
     |brk=>rw[iu]at q;intro σ' H' so;exact q σ' H' ⟨so.ex.imp λo' z=>⟨⟨z.1.w,z.1.d⟩,ER.re (Φ:=Φ') (Φ':=Φ) rfl z.2.1,z.2.2⟩,so.ext,so.al⟩
     |cnt=>rw[iu]at q;intro σ' H' so;exact q σ' H' ⟨so.ex.imp λo' z=>⟨⟨z.1.w,z.1.d⟩,ER.re (Φ:=Φ') (Φ':=Φ) rfl z.2.1,z.2.2⟩,so.ext,so.al⟩
     |ret d=>rw[iu]at q;intro v H' ro;exact q v H' ⟨ro.val,ro.ent,ro.drw,ro.dR⟩
    |ex kk=>
     rw[he]at q;simp only at q;split at q
     ·rename_i v hv;exact⟨v,hv,λH' Dc=>q _ _ ⟨RV.rK,Dc,λa ha=>absurd ha (uO a),λ_ ds z=>by cases z⟩⟩
     ·exact q.elim
    |bad=>rw[he]at q;exact q.elim
  ·cases h
 ·cases h
theorem yK{st:Stmt}{j8:List Stmt}{t:T}{ts:Ts}{fF:Bool}(h1:Jz X st (gR Φ Γ F W fF t))(h2:la X j8 (ik Φ Γ F W fF ts)):la X (st::j8) (ik Φ Γ F W fF (.cons t ts)):=λs σ H D I q=>uh h1 h2 s σ H D I (by
 obtain⟨o,ρ,S,oi,er,q⟩:=q;rw[aV]at q;rw[aa]at q;refine⟨o,ρ,S,oi,er,af q λp _ q=>?_⟩;unfold bh;cases hp:p.1 with
 |next=>rw[hp]at q;intro σ1 H1 so;obtain⟨⟨o1,Ml,az,Li⟩,e1,a1⟩:=so;exact⟨o1,p.2.1,p.2.2,Ml,az,af q λp2 _ q=>bh.go e1 Li a1 (λ_ _ z=>z) (λ_ _ z=>z) (λ_ _ z=>z) (λ_ _ z=>z) q⟩
 |brk=>rw[hp]at q;unfold mR bh at q;exact q
 |cnt=>rw[hp]at q;unfold mR bh at q;exact q
 |ret d=>rw[hp]at q;unfold mR bh at q;exact q)
theorem vc{dp fF:Bool}{n:Nat}(JR:X.env.scope.names=Γ.names)(gx:GX g Γ X)(hX:HX g xv CX k F Φ X)(hd:dp=false->Φ.d0=none)(own:PassesOwn (model X.prog X.w) X.A X.env X.xe):∀{j8:List Stmt}{ts:Ts},CP n g Γ dp fF j8=some ts->la X j8 (ik Φ Γ F W fF ts)
 |[],ts,h=>by cases h;exact AS yL
 |st::j8,ts,h=>by
  obtain⟨t,h1,h⟩:=QL.mp h;obtain⟨za,h2,h⟩:=QL.mp h;cases h;refine yK ?_ (vc JR gx hX hd own h2);cases ht:zw n g Γ dp fF st with
  |none=>rw[ht]at h1;exact Er ((oH (dp:=dp) (fF:=fF) (W:=W) n Γ X Φ gx hX hd own).s _ _ h1)
  |some t'=>rw[ht]at h1;cases h1;exact M4 JR gx hX hd ht
theorem ot{X:Cx}{E:Value->Shared->Prop}{st:List Stmt}{t:TS}(h:la (X.b7 E) st t)(hx:∀e s',E e s'->X.xe e s'):la X st t:=λs σ H D I hw=>
 Tp (h s σ H D (I.b7 _) hw) (λ_ _ q=>q.dm) λe s' z=>hx e s' z
end
section
variable{P:Program}{w:World}{K:Frag}{mg:Str->Option Value}{base:Heap}{g:G}{xv:Nat->Value}{F:FT}{k:Nat}
structure MG(g:G)(mg:Str->Option Value):Prop where
 con:∀x d,g.cons.lookup x=some d->∃u,mW d=true/\mg x=some u/\RelV (o7 d) u
 bl:∀x∈g.bls,mg x=none
def XG(g:G)(K:Frag)(mg:Str->Option Value)(xv:Nat->Value):Prop:=∀k x ts,g.xs[k]?=some (x,ts)->∃C,xv k= .ref C/\mg x=some (.ref C)/\Fy K mg C ts
def uu(aR:Bool)(args:List Dt)(n ps:Nat):ai:=(if aR then[none] else[])++args.map some++List.replicate (n-ps) none
theorem jT{aR:Bool}{args:List Dt}{n ps i:Nat}{d:Dt}(h:(uu aR args n ps)[i]?=some (some d)):∃j,args[j]?=some d/\i=j+(if aR then 1 else 0):=by
 unfold uu at h;have tail:∀{i:Nat},(args.map some++List.replicate (n-ps) (none:Option Dt))[i]?=some (some d)->args[i]?=some d:=λ {i} h=>by
  by_cases hi:i<args.length
  ·rw[Rv ‹hi›,Q6]at h;cases e:args[i]? with
   |none=>rw[e]at h;cases h
   |some a=>rw[e]at h;cases h;rfl
  ·rw[Rw ‹hi›,R3]at h;split at h<;>cases h
 cases aR with
 |false=>simp only[RF,S8,Sn]at h;exact⟨i,tail h,rfl⟩
 |true=>
  simp only[Tb,Q1]at h;cases i with
  |zero=>cases h
  |succ i=>have h:(args.map some++List.replicate (n-ps) (none:Option Dt))[i]?=some (some d):=h;exact⟨i,tail h,rfl⟩
theorem kU{N:List Str}{vs:List V}{i:Nat}{v:V}(h:vs[i]?=some v):(start N vs)[i]?=some (some v):=by unfold L2.start;have hi:=(QR.mp h).1;rw[Rv ‹hi›,Q6,h];rfl
theorem vF{M:List Bool}{δ:Option Nat}{names:List (Str×NameKind)}{N:List Str}{np:Nat}{aR:Bool}{vs uT:List V}{H:Hp}{W:Addr->Prop}{dr:Option Addr}{args:List Dt}{S:Sx}{Ek:Nat->Prop}{κ:Option Nat}{P:Program}{w:World}
  (hM:∀i,i<np->M[i]?≠some true) (hδ:aR=true->δ=some 0) (QC:np<=N.length) (hl:vs.length=np)
  (hd:if aR=true then∃(a:Addr)(ns:List Int),vs= .ref a::uT/\dr=some a/\W a/\S=some ns/\H a=some (.lst (ns.map V.int)) else vs=uT/\dr=none/\S=none)
  (ha:ak K W H uT args) (hw:∀a,W a->∃x,H a=some x):ER ⟨K,H,dr,Ek,P,w⟩ ⟨names,N,M,δ,κ⟩ ⟨W,W,dr⟩ (uu aR args N.length np) S (start N vs) H/\args.length+(if aR then 1 else 0)=np:=by
 have Pm:=ha.length;have GQ:args.length+(if aR then 1 else 0)=np:=by
  cases aR with
  |false=>simp only[RF,S8]at hd ⊢;obtain⟨e,_,_⟩:=hd;subst e;omega
  |true=>simp only[Tb]at hd ⊢;obtain⟨a,ns,e,_⟩:=hd;rw[e]at hl;simp at hl;omega
 refine⟨⟨?_,λa z=>z,λa z=>?_,hw,λi d h=>?_,λi ks vs h=>?_,λi j a d e hm hm' h1 h2 _ _=>?_,λa z=>?_,λz=>?_,λi a hi z=>?_,λa z=>.inl z,aI.refl⟩,GQ⟩
 ·unfold L2.start uu;simp only[Q3,QW,Sa];cases aR<;>simp at GQ ⊢<;>omega
 ·cases aR with
  |false=>simp only[RF,S8]at hd;rw[hd.2.1]at z;cases z
  |true=>simp only[Tb]at hd;obtain⟨b,ns,_,e,hb,_⟩:=hd;rw[e]at z;cases z;exact hb
 ·obtain⟨j,hj,rfl⟩:=jT h;obtain⟨v,h1,h2⟩:=ha.getD hj;have Ph:=(QR.mp hj).1;have hm:dX ⟨names,N,M,δ,κ⟩ (j+if aR=true then 1 else 0)=false:=by unfold dX;have:=hM (j+if aR=true then 1 else 0) ⋯;simpa using this
  refine⟨v,kU ?_,?_⟩
  ·cases aR with
   |false=>simp only[RF,S8]at hd ⊢;rw[hd.1];exact h1
   |true=>simp only[Tb]at hd ⊢;obtain⟨b,ns,e,_⟩:=hd;rw[e];simpa using h1
  ·rw[hm,S9 ∅];exact h2
 ·obtain⟨j,hj,rfl⟩:=jT h;obtain⟨v,h1,h2⟩:=ha.getD hj;cases h2.nd
 ·obtain⟨j1,hj,rfl⟩:=jT h1;have Ph:=(QR.mp hj).1;exfalso;unfold dX at hm;exact hM (j1+if aR=true then 1 else 0) ⋯ (Ra hm)
 ·cases aR with
  |false=>simp only[RF,S8]at hd;rw[hd.2.1]at z;cases z
  |true=>simp only[Tb]at hd;obtain⟨b,ns,_,e,_,e2,e3⟩:=hd;rw[e]at z;cases z;exact⟨ns,e2,e3⟩
 ·cases aR with
  |false=>simp only[RF,S8]at hd;exact hd.2.2
  |true=>simp only[Tb]at hd;obtain⟨b,ns,_,e,_⟩:=hd;rw[e]at z;cases z
 ·cases aR with
  |false=>simp only[RF,S8]at hd;rw[hd.2.1]at z;cases z
  |true=>simp only[Tb]at hd;obtain⟨b,ns,e1,e,_⟩:=hd;rw[e]at z;cases z;have hi:δ=some i:=hi;rw[hδ rfl]at hi;cases hi;exact kU (by rw[e1];rfl)
theorem GG{CX:j9}{N ps:List Str}{sc:Scope}{M:List Bool}{δ κ:Option Nat}{qual:Str}{f:Addr}{eD:Value}{A:Around}{outer:List Env}{s:Shared}{H:Hp}{E:XK}(m:MG g mg)(S:dS N ps sc)(hr:f7 k (A.deeper (envOfC qual sc s.heap.objs.size f eD))):
  GX g ⟨sc.names,N,M,δ,κ⟩ (jk CX P w K mg base N qual sc f eD A outer s H E) where
 N:=rfl
 nd:=S.nd
 vis:=λx h=>by
  have h:yC (sc.names.lookup x)=true:=h;show Cv sc x;unfold Cv;cases hl:sc.names.lookup x with
  |none=>rw[hl]at h;cases h
  |some kk=>
   rw[hl]at h;cases kk with
   |«local»=>exact .inl rfl
   |cell=>exact .inr (.inl rfl)
   |free=>exact .inr (.inr rfl)
   |globalExplicit=>cases h
   |globalImplicit=>cases h
 loc:=λx h=>by
  have h:wG (sc.names.lookup x)=true:=h;refine⟨?_,.inl rfl⟩;show L2.Loc sc x;unfold L2.Loc;cases hl:sc.names.lookup x with
  |none=>rw[hl]at h;cases h
  |some kk=>
   rw[hl]at h;cases kk with
   |«local»=>exact .inl rfl
   |cell=>exact .inr rfl
   |free=>cases h
   |globalExplicit=>cases h
   |globalImplicit=>cases h
 gl:=λx h=>by
  have h:qW (sc.names.lookup x)=true:=h;show sc.names.lookup x=_;cases hl:sc.names.lookup x with
  |none=>rw[hl]at h;cases h
  |some kk=>
   rw[hl]at h;cases kk with
   |globalImplicit=>rfl
   |«local»=>cases h
   |cell=>cases h
   |free=>cases h
   |globalExplicit=>cases h
 fre:=λx h=>h
 calm:=rfl
 un:=by have:=hr.un;show (A.deeper (envOfC qual sc s.heap.objs.size f eD)).units+150<cLine;omega
 con:=m.con
 bl:=m.bl
theorem kB{name qual:Str}{params:Arguments}{body:List Stmt}{scope:Scope}{dV kV doc pm eD ct oc:Value}{an od:Option Addr}{rT:Array (Option Value)}{f:Addr}{N ps:List Str}{M:List Bool}{δ κ:Option Nat}{aR fF:Bool}{n m:Nat}{ts:Ts}
  (lk:K.lookup f=some ⟨oc,od,.func (PySem.W.fnOf name qual params body scope dV kV doc pm an eD ct),rT⟩) (uL:PySem.W.codeIn K eD qual=true) (S:dS N ps scope) (hm:MG g mg) (Ac:XG g K mg xv) (fx:FX g xv (mT P w) P w K mg base m k F)
  (hM:∀i,i<ps.length->M[i]?≠some true) (hδ:aR=true->δ=some 0) (hc:CP n g ⟨scope.names,N,M,δ,κ⟩ aR fF body=some ts):
  gS P w K mg base (mT P w) (k+1) f (PySem.W.fnOf name qual params body scope dV kV doc pm an eD ct) ps (N5 K xv (fJ F ⟨ps.length,N.length,aR,ts⟩) ps.length fF aR):=by
 have j7:ps.length<=N.length:=by have:=S6 List.length S.pre;rw[Se]at this;omega
 refine C5 lk uL S (λvs H Q E h=>h.1) λA outer s H vs Q E hr h=>?_
 obtain⟨hl,W,dr,args,S0,uT,hd,ha,hw,h⟩:=h;have er:=vF (K:=K) (names:=scope.names) (N:=N) (κ:=κ) (P:=P) (w:=w) (Ek:=λkk=>∀H',aI (λb=>dr=some b) H H'->E (xv kk) none H') hM hδ j7 hl hd ha hw;obtain⟨er,BO⟩:=er;generalize hXX:jk (mT P w) P w K mg base N qual scope f eD A outer s H E=X;generalize hΦ:(⟨K,H,dr,λkk=>∀H',aI (λb=>dr=some b) H H'->E (xv kk) none H',P,w⟩:Fm)=Φ at er;have hΦE:∀v a H',jc Φ xv v a H'->E v none H':=λv a H' z=>by obtain⟨kk,rfl,z1,z2⟩:=z;subst hΦ;exact z1 H' z2
 have Qk:∀e s',gP X (jc Φ xv) e s'->X.xe e s':=λe s' z=>by subst hXX;obtain⟨σ,H',a,cls,e1,I,fl,q⟩:=z;exact Fp ⟨σ,H',a,cls,e1,I,fl,hΦE _ _ _ q⟩
 have st:ei X:=by subst hXX;exact yj
 have gx:GX g ⟨scope.names,N,M,δ,κ⟩ X:=by subst hXX;exact GG (P:=P) (w:=w) (K:=K) (base:=base) (CX:=mT P w) (M:=M) (δ:=δ) (outer:=outer) (H:=H) (E:=E) hm S hr
 have N8:ei (X.b7 (gP X (jc Φ xv))):=⟨st.pn,st.st⟩;have hX:HX g xv (mT P w) k F Φ (X.b7 (gP X (jc Φ xv))):=by
  refine⟨?_,?_,?_,⟨m,?_⟩,?_,?_,N8,λe s' z=>eh z,?_⟩
  ·subst hΦ hXX;rfl
  ·subst hΦ hXX;rfl
  ·subst hΦ hXX;rfl
  ·subst hXX;exact fx
  ·subst hXX;exact hr
  ·subst hXX;rfl
  ·subst hXX;exact Ac
 have own:PassesOwn (model (X.b7 (gP X (jc Φ xv))).prog (X.b7 (gP X (jc Φ xv))).w) (X.b7 (gP X (jc Φ xv))).A (X.b7 (gP X (jc Φ xv))).env (X.b7 (gP X (jc Φ xv))).xe:=tq (E:=jc Φ xv) N8 (λe s' z=>eh z) λe s' z=>oV z
 have d0:Φ.d0=dr:=by subst hΦ;rfl
 have SS:=vc (dp:=aR) (fF:=fF) (W:=W) (n:=n) (Γ:=⟨scope.names,N,M,δ,κ⟩) (by subst hXX;rfl) gx.b7 hX (λz=>by
  rw[d0];subst z;simp only[RF,S8]at hd;exact hd.2.1) own hc
 refine⟨_,ot SS Qk,⟨W,W,dr⟩,_,S0,⟨rfl,λa z=>by rw[d0]at z;exact z⟩,er,?_⟩;subst hΦ;unfold fJ at h;simp only at h;rw[Ta BO]at h;have h:(match (aE F ts (uu aR args N.length ps.length) S0).bind (λp=>match p.1 with
   |.next=>R.ok (Dt.bM,p.2.2)
   |.ret d=>R.ok (d,p.2.2)
   |_=>R.bad) with
  |.ok p=>∀v H',FO K W dr fF H p.1 p.2 v H'->Q v H'
  |.ex kk=>∀H',aI (λb=>dr=some b) H H'->E (xv kk) none H'
  |.bad=>False):=h
 cases he:aE F ts (uu aR args N.length ps.length) S0 with
 |ok p=>
  rw[he]at h;simp only[R.ah]at h;show bh _ _ _ _ _ _ _ p;unfold bh;cases hp:p.1 with
  |next=>rw[hp]at h;intro σ' H' so;obtain⟨o',oi,CZ,_⟩:=so.ex;exact h _ _ ⟨CZ.ent,RV.l0,λa z=>CZ.drw a (oi.d a z),λ_ ds e=>by cases e⟩
  |ret d=>rw[hp]at h;intro v H' ro;exact h _ _ ⟨ro.ent,ro.val,ro.drw,ro.dR⟩
  |brk=>rw[hp]at h;exact h.elim
  |cnt=>rw[hp]at h;exact h.elim
 |ex kk=>rw[he]at h;exact h
 |bad=>rw[he]at h;exact h.elim
end
structure uW(g:G)(K:Frag)(mg:Str->Option Value)(e:Str×Nat×List Dt×Bool)(idx:Nat)(fn:Fn):Prop where
 ex:∃(fa:Addr)(ps N:List Str)(M:List Bool)(δ κ:Option Nat)(n:Nat)(oc:Value)(od an:Option Addr)(rT:Array (Option Value))(params:Arguments)(body:List Stmt)(scope:Scope)(dV kV doc pm eD ct:Value),
  K.lookup fa=some ⟨oc,od,.func (PySem.W.fnOf e.1 e.1 params body scope dV kV doc pm an eD ct),rT⟩/\PySem.W.codeIn K eD e.1=true/\PySem.W.keepIn K (.ref fa)=true/\mg e.1=some (.ref fa)/\dS N ps scope/\(∀i,i<ps.length->M[i]?≠some true)/\
  (e.2.2.2=true->δ=some 0)/\ps.length=e.2.1/\CP n g ⟨scope.names,N,M,δ,κ⟩ e.2.2.2 (g.fr idx) body=some fn.body/\fn.ps=ps.length/\fn.n=N.length/\fn.aR=e.2.2.2/\
  (∀j,j<=e.2.2.1.length->∃ds,au ((e.2.2.1.drop j).map o7) ds/\Binds K (PySem.W.fnOf e.1 e.1 params body scope dV kV doc pm an eD ct) ps ds)/\e.2.2.1.all mW=true
def mY(g:G)(K:Frag)(mg:Str->Option Value):Nat->List (Str×Nat×List Dt×Bool)->List Fn->Prop
 |_,[],[]=>True
 |i,e::es,f::fs=>uW g K mg e i f/\mY g K mg (i+1) es fs
 |_,_,_=>False
section
variable{g:G}{K:Frag}{mg:Str->Option Value}
theorem lJ{x:Str}:∀{es:List (Str×Nat×List Dt×Bool)}{fs:List Fn}{i j:Nat}{r:Nat×List Dt×Bool},mY g K mg i es fs->pI x es=some (j,r)->∃f,uW g K mg (x,r) (i+j) f/\fs[j]?=some f
 |[],fs,i,j,r,_,h=>by simp[pI]at h
 |e::es,[],i,j,r,h,_=>h.elim
 |e::es,f::fs,i,j,r,ok,h=>by
  obtain⟨o1,o2⟩:=ok;unfold pI at h;split at h
  ·rename_i hx;cases h;have ex:x=e.1:=Ra hx;subst ex;exact⟨f,o1,rfl⟩
  ·obtain⟨p,h1,h2⟩:=Q2.mp h;obtain⟨j',r'⟩:=p;cases h2;obtain⟨f',k1,k2⟩:=lJ o2 h1;refine⟨f',?_,k2⟩;have:i+(j'+1)=i+1+j':=⋯
   rw[this];exact k1
variable{P:Program}{w:World}{base:Heap}{xv:Nat->Value}{fs:List Fn}
theorem jO(hm:MG g mg)(Ac:XG g K mg xv)(ok:mY g K mg 0 g.fns fs):∀n,FX g xv (mT P w) P w K mg base n n (ar fs n)
 |0=>⟨λx f np eK aR h=>by
   obtain⟨fn,⟨fa,ps,N,M,δ,κ,n,oc,od,an,rT,params,body,scope,dV,kV,doc,pm,eD,ct,h1,h2,h3,h4,h5,h6,h7,h8,h9,Lc,Ld,Lf,Lg,Lh⟩,hf⟩:=lJ ok h;refine⟨fa,_,ps,h8,h4,h3,⟨λvs H Q E q=>q.1.trans h8.symm,λA outer s H args us vs Q E _ _ _ _ q=>?_⟩,Lg,Lh⟩;obtain⟨_,W,dr,as,S,uT,_,_,_,q⟩:=q;exact q.elim⟩
 |n+1=>⟨λx f np eK aR h=>by
   have ih:=jO hm Ac ok n;obtain⟨fn,⟨fa,ps,N,M,δ,κ,m,oc,od,an,rT,params,body,scope,dV,kV,doc,pm,eD,ct,h1,h2,h3,h4,h5,h6,h7,h8,h9,Lc,Ld,Lf,Lg,Lh⟩,hf⟩:=lJ ok h;rw[Nat.zero_add]at h9;refine⟨fa,_,ps,h8,h4,h3,?_,Lg,Lh⟩;have:=kB (xv:=xv) (P:=P) (w:=w) (base:=base) h1 h2 h5 hm Ac ih h6 h7 h9;have e:(ar fs (n+1)) f=fJ (ar fs n) ⟨ps.length,N.length,aR,fn.body⟩:=by funext args S;show (match fs[f]? with|some g=>fJ (ar fs n) g args S|none=>R.bad)=_;rw[hf];obtain⟨a1,a2,a3,a4⟩:=fn;simp only at Lc Ld Lf;subst Lc Ld Lf;rfl
   have OQ:ps.length=np:=h8;rw[e,<-OQ];exact this⟩
def sN(K:Frag):Sp:=λvs H Q _=>∃(a:Addr)(ns:List Int),vs=[.ref a]/\cZ K H a (ns.map V.int)/\ns.length<=63/\∀H',Q (.bl true) H'
theorem len0{P:List Value->Prop}(h:P []):∀us:List Value,us.length=0->P us:=λus e=>List.eq_nil_of_length_eq_zero e▸h
theorem lenS{n:Nat}{P:List Value->Prop}(h:∀a(us:List Value),us.length=n->P (a::us)):∀us:List Value,us.length=n+1->P us:=λus e=>by
 cases us with
 |nil=>cases e
 |cons a t=>exact h a t (Nat.succ.inj e)
theorem binds0{fd:FuncData}{ps:List Str}(h:∀us:List Value,us.length=ps.length->bindArgs fd ⟨us,[]⟩=pure (ps.zip us)):∀j,j<=([]:List Dt).length->∃ds,au ((([]:List Dt).drop j).map o7) ds/\Binds K fd ps ds:=λj hj=>by
 have:j=0:=by simpa using hj
 subst this;exact⟨[],.nil,Binds.all h⟩
def P2(names:List (Str×NameKind))(ps:List Str):List Str:=ps++names.filterMap λp=>if wG (some p.2)&& !ps.contains p.1 then some p.1 else none
def FL(N ms:List Str):List Bool:=N.map λx=>ms.contains x
theorem HA{N ms ps:List Str}(h:((FL N ms).take ps.length).all (λb=> !b)=true):∀i,i<ps.length->(FL N ms)[i]?≠some true:=λi hi e=>by have hm:true∈(FL N ms).take ps.length:=Sj.mpr ⟨i,by rw[R5 hi];exact e⟩;have:=Ro.mp h true hm;cases this
end
end Rx
end
section
namespace Rx
open PySem PySem.W PySem.Spec PyProof.Rows L2
section
variable{S:Sx}{ρ:ai}
theorem cO{tg:Tg}{body:ai->Sx->RS}{ds:List Dt}(P:List Dt->ai->Prop)(h0:P [] ρ)
  (step:∀pre x post ρ,ds=pre++x::post->P pre ρ->∃ρ1 ρ2,eT tg x ρ= .ok ρ1/\body ρ1 S= .ok (.next,ρ2,S)/\P (pre++[x]) ρ2):∃ρ',forL tg body ds ρ S= .ok (.next,ρ',S)/\P ds ρ':=by
 have key:∀(post pre:List Dt)(ρ:ai),ds=pre++post->P pre ρ->∃ρ',forL tg body post ρ S= .ok (.next,ρ',S)/\P ds ρ':=by
  intro post
  induction post with
  |nil=>intro pre ρ e h;rw[Rt]at e;subst e;exact⟨ρ,rfl,h⟩
  |cons x post ih=>intro pre ρ e h;obtain⟨ρ1,ρ2,h1,h2,h3⟩:=step pre x post ρ e h;obtain⟨ρ',h4,h5⟩:=ih (pre++[x]) ρ2 (by rw[e];simp) h3;refine⟨ρ',?_,h5⟩;rw[forL,h1,R.ah,h2,R.ah];exact h4
 exact key ds [] ρ rfl h0
end
theorem Bb{fs:List Fn}{n k:Nat}{g:Fn}{args:List Dt}{S:Sx}(h:fs[k]?=some g):ar fs (n+1) k args S=fJ (ar fs n) g args S:=by show (match fs[k]? with|some g=>fJ (ar fs n) g args S|none=>R.bad)=_;rw[h]
def HF(d:Dt)(S:Sx):R (Dt×Sx):=match d with|.int i=>.ok (.int (-i),S)|_=>.bad
def NZ(d:Dt)(S:Sx):R (Dt×Sx):=match d with|.bl b=>.ok (.bl !b,S)|_=>.bad
def Gb(d:Dt)(S:Sx):R (Dt×Sx):=match d with|.bl c=>.ok (.bl c,S)|_=>.bad
def Cz(f:Sx->R (Dt×Sx))(d:Dt)(S:Sx):R (Dt×Sx):=match d with|.bl true=>(f S).bind (λy=>Gb y.1 y.2)|.bl false=>.ok (.bl false,S)|_=>.bad
def Mn(f:Sx->R (Dt×Sx))(d:Dt)(S:Sx):R (Dt×Sx):=match d with|.bl false=>(f S).bind (λy=>Gb y.1 y.2)|.bl true=>.ok (.bl true,S)|_=>.bad
def DO(k:List Dt->Dt)(ds:List Dt)(S:Sx):R (Dt×Sx):=ae (decide (ds.length<=lim)) (.ok (k ds,S))
def NT(o:Option (List Dt))(S:Sx):R (List Dt×Sx):=match o with|some ds=>.ok (ds,S)|none=>.bad
def IH(d e:Dt)(S:Sx):R (Dt×Sx):=match e with|.int i=>(fy d (some i) none).bind λd=>.ok (d,S)|_=>.bad
def IG(d e:Dt)(S:Sx):R (Dt×Sx):=match e with|.int i=>(fy d none (some i)).bind λd=>.ok (d,S)|_=>.bad
theorem RX:
  (∀{F:FT}{S:Sx}{ρ:ai}{d:Dt},ev F (.con d) ρ S= .ok (d,S))/\
  (∀{F:FT}{S:Sx}{ρ:ai}{i:Nat},ev F (.var i) ρ S=(bp ρ i).bind λd=>.ok (d,S))/\
  (∀{F:FT}{S:Sx}{ρ:ai}{i:Nat},ev F (.mvr i) ρ S=(bp ρ i).bind λd=>.ok (d,S))/\
  (∀{F:FT}{S:Sx}{ρ:ai}{o:Operator}{a b:C},ev F (.bin o a b) ρ S=(ev F a ρ S).bind λx=>(ev F b ρ x.2).bind λy=>(gQ o x.1 y.1).bind λd=>.ok (d,y.2))/\
  (∀{F:FT}{S:Sx}{ρ:ai}{o:CmpOp}{a b:C},ev F (.cmp o a b) ρ S=(ev F a ρ S).bind λx=>(ev F b ρ x.2).bind λy=>(bL o x.1 y.1).bind λd=>.ok (.bl d,y.2))/\
  (∀{F:FT}{S:Sx}{ρ:ai}{a:C},ev F (.neg a) ρ S=(ev F a ρ S).bind λx=>HF x.1 x.2)/\
  (∀{F:FT}{S:Sx}{ρ:ai}{a:C},ev F (.nt a) ρ S=(ev F a ρ S).bind λx=>NZ x.1 x.2)/\
  (∀{F:FT}{S:Sx}{ρ:ai}{a b:C},ev F (.and a b) ρ S=(ev F a ρ S).bind λx=>Cz (ev F b ρ) x.1 x.2)/\
  (∀{F:FT}{S:Sx}{ρ:ai}{a b:C},ev F (.or a b) ρ S=(ev F a ρ S).bind λx=>Mn (ev F b ρ) x.1 x.2)/\
  (∀{F:FT}{S:Sx}{ρ:ai}{a b:C},ev F (.idx a b) ρ S=(ev F a ρ S).bind λx=>(ev F b ρ x.2).bind λy=>(cw x.1 y.1).bind λd=>.ok (d,y.2))/\
  (∀{F:FT}{S:Sx}{ρ:ai}{a b:C},ev F (.sliL a b) ρ S=(ev F a ρ S).bind λx=>(ev F b ρ x.2).bind λy=>IH x.1 y.1 y.2)/\
  (∀{F:FT}{S:Sx}{ρ:ai}{a b:C},ev F (.sliH a b) ρ S=(ev F a ρ S).bind λx=>(ev F b ρ x.2).bind λy=>IG x.1 y.1 y.2)/\
  (∀{F:FT}{S:Sx}{ρ:ai}{f:Nat}{es:Cs}{ds:List Dt},ev F (.call f es ds) ρ S=(c6 F es ρ S).bind λx=>(F f (x.1++ds) none).bind λy=>.ok (y.1,x.2))/\
  (∀{F:FT}{S:Sx}{ρ:ai}{u:BI}{es:Cs},ev F (.bi u es) ρ S=(c6 F es ρ S).bind λx=>(cR u x.1).bind λd=>.ok (d,x.2))/\
  (∀{F:FT}{S:Sx}{ρ:ai}{es:Cs},ev F (.tup es) ρ S=(c6 F es ρ S).bind λx=>DO .tup x.1 x.2)/\
  (∀{F:FT}{S:Sx}{ρ:ai}{es:Cs},ev F (.lst es) ρ S=(c6 F es ρ S).bind λx=>DO .lst x.1 x.2)/\
  (∀{F:FT}{S:Sx}{ρ:ai},c6 F .nil ρ S= .ok ([],S))/\
  (∀{F:FT}{S:Sx}{ρ:ai}{a:C}{es:Cs},c6 F (.cons a es) ρ S=(ev F a ρ S).bind λx=>(c6 F es ρ x.2).bind λy=>.ok (x.1::y.1,y.2))/\
  (∀{F:FT}{S:Sx}{ρ:ai}{o:CmpOp}{a b:C},aZ F (.cmp o a b) ρ S=(ev F a ρ S).bind λx=>(ev F b ρ x.2).bind λy=>(bL o x.1 y.1).bind λd=>.ok (d,y.2))/\
  (∀{F:FT}{S:Sx}{ρ:ai}{a b:C},aZ F (.and a b) ρ S=(aZ F a ρ S).bind λx=>if x.1=true then aZ F b ρ x.2 else .ok (false,x.2))/\
  (∀{F:FT}{S:Sx}{ρ:ai}{a b:C},aZ F (.or a b) ρ S=(aZ F a ρ S).bind λx=>if x.1=true then .ok (true,x.2) else aZ F b ρ x.2)/\
  (∀{F:FT}{S:Sx}{ρ:ai}{a:C},aZ F (.nt a) ρ S=(aZ F a ρ S).bind λx=>.ok (!x.1,x.2))/\
  (∀{F:FT}{S:Sx}{ρ:ai}{f:Nat}{es:Cs}{ds:List Dt},aZ F (.call f es ds) ρ S=(c6 F es ρ S).bind λx=>(F f (x.1++ds) none).bind λy=>(bY y.1).bind λb=>.ok (b,x.2))/\
  (∀{F:FT}{S:Sx}{ρ:ai}{u:BI}{es:Cs},aZ F (.bi u es) ρ S=(c6 F es ρ S).bind λx=>(cR u x.1).bind λd=>(bY d).bind λb=>.ok (b,x.2))/\
  (∀{F:FT}{S:Sx}{ρ:ai}{i:Nat},aZ F (.var i) ρ S=(bp ρ i).bind λd=>(bY d).bind λb=>.ok (b,S))/\
  (∀{F:FT}{S:Sx}{ρ:ai}{i:Nat},aZ F (.mvr i) ρ S=(bp ρ i).bind λd=>(bY d).bind λb=>.ok (b,S))/\
  (∀{F:FT}{S:Sx}{ρ:ai}{a b:C},aZ F (.idx a b) ρ S=(ev F a ρ S).bind λx=>(ev F b ρ x.2).bind λy=>(cw x.1 y.1).bind λd=>(bY d).bind λb=>.ok (b,y.2))/\
  (∀{F:FT}{S:Sx}{ρ:ai},fu F .nil ρ S= .ok (true,S))/\
  (∀{F:FT}{S:Sx}{ρ:ai}{a:C},fu F (.cons a .nil) ρ S=aZ F a ρ S)/\
  (∀{F:FT}{S:Sx}{ρ:ai}{a:C},dW F (.seq a) ρ S=(ev F a ρ S).bind λx=>NT (fY x.1) x.2)/\
  (∀{d:Dt}{ρ:ai},bp (some d::ρ) 0= .ok d)/\
  (∀{e:Option Dt}{ρ:ai}{i:Nat},bp (e::ρ) (i+1)=bp ρ i)/\
  (∀{S:Sx}{i:Int},HF (.int i) S= .ok (.int (-i),S))/\
  (∀{S:Sx}{b:Bool},NZ (.bl b) S= .ok (.bl !b,S))/\
  (∀{S:Sx}{f:Sx->R (Dt×Sx)},Cz f (.bl false) S= .ok (.bl false,S))/\
  (∀{S:Sx}{f:Sx->R (Dt×Sx)},Cz f (.bl true) S=(f S).bind λy=>Gb y.1 y.2)/\
  (∀{S:Sx}{f:Sx->R (Dt×Sx)},Mn f (.bl true) S= .ok (.bl true,S))/\
  (∀{S:Sx}{f:Sx->R (Dt×Sx)},Mn f (.bl false) S=(f S).bind λy=>Gb y.1 y.2)/\
  (∀{S:Sx}{b:Bool},Gb (.bl b) S= .ok (.bl b,S))/\
  (∀{S:Sx}{ds:List Dt},NT (some ds) S= .ok (ds,S))/\
  (∀{S:Sx}{k:List Dt->Dt},DO k [] S= .ok (k [],S))/\
  (∀{S:Sx}{k:List Dt->Dt}{a:Dt},DO k [a] S= .ok (k [a],S))/\
  (∀{S:Sx}{k:List Dt->Dt}{a b:Dt},DO k [a,b] S= .ok (k [a,b],S))/\
  (∀{S:Sx}{k:List Dt->Dt}{a b c:Dt},DO k [a,b,c] S= .ok (k [a,b,c],S))/\
  (∀{S:Sx}{k:List Dt->Dt}{a b c d:Dt},DO k [a,b,c,d] S= .ok (k [a,b,c,d],S))/\
  (∀{S:Sx}{d:Dt}{i:Int},IH d (.int i) S=(fy d (some i) none).bind λd=>.ok (d,S))/\
  (∀{S:Sx}{d:Dt}{i:Int},IG d (.int i) S=(fy d none (some i)).bind λd=>.ok (d,S))/\
  (∀{m n:Int},gQ .Add (.int m) (.int n)= .ok (.int (m+n)))/\
  (∀{m n:Int},gQ .Sub (.int m) (.int n)= .ok (.int (m-n)))/\
  (∀{m n:Int},bL .Lt (.int m) (.int n)= .ok (decide (m<n)))/\
  (∀{m n:Int},bL .LtE (.int m) (.int n)= .ok (decide (m<=n)))/\
  (∀{m n:Int},bL .Gt (.int m) (.int n)= .ok (decide (n<m)))/\
  (∀{m n:Int},bL .Eq (.int m) (.int n)= .ok (m==n))/\
  (∀{m n:Int},bL .NotEq (.int m) (.int n)= .ok (!(m==n)))/\
  (∀{m n:Str},bL .Eq (.str m) (.str n)= .ok (m==n))/\
  (∀{m n:Str},bL .NotEq (.str m) (.str n)= .ok (!(m==n)))/\
  (∀{ns:List Int},cR .len [.bR ns]= .ok (.int ns.length))/\
  (∀{ds:List Dt},cR .len [.lst ds]= .ok (.int ds.length))/\
  (∀{ds:List Dt},cR .len [.tup ds]= .ok (.int ds.length))/\
  (∀{ds:List Dt},cR .tuple [.lst ds]= .ok (.tup ds))/\
  (∀{ds:List Dt},cR .tuple [.tup ds]= .ok (.tup ds))/\
  (∀{ds:List Dt},cR .list [.lst ds]= .ok (.lst ds))/\
  (∀{ds:List Dt},cR .list [.tup ds]= .ok (.lst ds))/\
  (∀{m n:Int},cR .min2 [.int m,.int n]= .ok (.int (if n<m then n else m)))/\
  (∀{m n:Int},cR .max2 [.int m,.int n]= .ok (.int (if n>m then n else m)))/\
  (∀{t:Bool},bY (.bl t)= .ok t)/\
  (∀{ds:List Dt},bY (.lst ds)= .ok !ds.isEmpty)/\
  (∀{ds:List Dt},bY (.tup ds)= .ok !ds.isEmpty)/\
  (∀{ds:List Dt},itemsOf (.lst ds)=some ds)/\
  (∀{ds:List Dt},itemsOf (.tup ds)=some ds)/\
  (∀{ds:List Dt},fY (.lst ds)=some ds)/\
  (∀{ds:List Dt},fY (.tup ds)=some ds)/\
  (∀{z:Str},fY (.str z)=some (z.cps.toList.map λc=>.str ⟨#[c]⟩))/\
  (∀{x y:Str},bL .In (.str x) (.str y)= .ok (zV y x))/\
  (∀{x y:Str},bL .NotIn (.str x) (.str y)= .ok (!zV y x))/\
  (∀{ds:List Dt},bX (.lst ds)=some ds)/\
  (∀{ds:List Dt},bX (.tup ds)=some ds)/\
  (∀{α β:Type}{x:α}{f:α->R β},(R.ok x).bind f=f x)/\
  (∀{α:Type}{r:R α},ae true r=r)/\
  (∀{ds:List Dt},(ds++[]:List Dt)=ds)/\
  (∀{e v:Option Dt}{ρ:ai},(e::ρ).set 0 v=v::ρ)/\
  (∀{e v:Option Dt}{ρ:ai}{i:Nat},(e::ρ).set (i+1) v=e::ρ.set i v)/\
  (∀{d:Dt}{ρ:ai}{i:Nat},eT (.nm i) d ρ= .ok (ρ.set i (some d)))/\
  (∀{is:List Nat}{ds:List Dt}{ρ:ai},eT (.tp is) (.tup ds) ρ=ej is ds ρ)/\
  (∀{is:List Nat}{ds:List Dt}{ρ:ai},eT (.tp is) (.lst ds) ρ=ej is ds ρ)/\
  (∀{ρ:ai},ej [] [] ρ= .ok ρ)/\
  (∀{i:Nat}{is:List Nat}{d:Dt}{ds:List Dt}{ρ:ai},ej (i::is) (d::ds) ρ=ej is ds (ρ.set i (some d)))/\
  (∀{d:Dt},cw (.tup [d]) (.int 0)= .ok d)/\
  (∀{d d2:Dt},cw (.tup [d,d2]) (.int 0)= .ok d)/\
  (∀{d d2:Dt},cw (.tup [d,d2]) (.int 1)= .ok d2)/\
  (∀{d d2 d3:Dt},cw (.tup [d,d2,d3]) (.int 0)= .ok d)/\
  (∀{d d2 d3:Dt},cw (.tup [d,d2,d3]) (.int 1)= .ok d2)/\
  (∀{d d2 d3:Dt},cw (.tup [d,d2,d3]) (.int 2)= .ok d3):=by
 repeat' apply And.intro
 all_goals
  intros
  first
  |rfl
  |exact Rt _
  |(rename_i F S ρ a;rw[qe];cases ev F a ρ S with|ok x=>(simp only[R.ah];cases bX x.1<;>rfl)|ex k=>rfl|bad=>rfl)
section
variable{F:FT}{S:Sx}{ρ:ai}
theorem bK{i j:Int}(h:i.natAbs<2^64\/j.natAbs<2^64):gQ .Mult (.int i) (.int j)= .ok (.int (i*j)):=by show ae (decide (i.natAbs<2^64)||decide (j.natAbs<2^64)) _=_;rw[show (decide (i.natAbs<2^64)||decide (j.natAbs<2^64))=true by simpa using h];rfl
theorem w6{i j:Int}(h:j≠0):gQ .Mod (.int i) (.int j)= .ok (.int (i.fmod j)):=by show ae (decide (j≠0)) _=_;rw[Rh h];rfl
theorem bJ{i j:Int}(h:0<j):gQ .Mod (.int i) (.int j)= .ok (.int (i % j)):=by rw[w6 ⋯,Int.fmod_eq_emod_of_nonneg i ⋯]
theorem AC{i j:Int}(h:j≠0)(h2:j.natAbs.log2<9000):gQ .FloorDiv (.int i) (.int j)= .ok (.int (i.fdiv j)):=by show ae (decide (j≠0)&&decide (j.natAbs.log2<9000)) _=_;rw[Rh h,Rh h2];rfl
theorem D4{i j:Int}(h:0<j)(h2:j.natAbs.log2<9000):gQ .FloorDiv (.int i) (.int j)= .ok (.int (i/j)):=by rw[AC ⋯ h2,Int.fdiv_eq_ediv_of_nonneg i ⋯]
def fin(r:RS):R (Dt×Sx):=r.bind λp=>match p.1 with
 |.next=>.ok (.bM,p.2.2)
 |.ret d=>.ok (d,p.2.2)
 |_=>.bad
def Ts.app:Ts->Ts->Ts
 |.nil,b=>b
 |.cons t a,b=>.cons t (a.app b)
theorem lH:∀{a b:Ts}{ρ:ai}{S:Sx},aE F (a.app b) ρ S=(aE F a ρ S).bind λp=>match p.1 with
  |.next=>aE F b p.2.1 p.2.2
  |f=>.ok (f,p.2)
 |.nil,b,ρ,S=>rfl
 |.cons t a,b,ρ,S=>by
  show aE F (.cons t (a.app b)) ρ S=_;rw[aV,aV];cases ex F t ρ S with
  |ok p=>
   obtain⟨f,ρ1,none⟩:=p;cases f with
   |next=>exact lH
   |brk=>rfl
   |cnt=>rfl
   |ret d=>rfl
  |ex k=>rfl
  |bad=>rfl
section
variable{r:R (Dt×Sx)}{ts:Ts}
theorem aQ{t:T}{ρ1:ai}(h:ex F t ρ S= .ok (.next,ρ1,none))(k:fin (aE F ts ρ1 none)=r):fin (aE F (.cons t ts) ρ S)=r:=by rw[aV,h];exact k
theorem qS{t:T}{ρ1:ai}{d:Dt}(h:ex F t ρ S= .ok (.ret d,ρ1,none)):fin (aE F (.cons t ts) ρ S)= .ok (d,none):=by rw[aV,h];rfl
theorem aA{i:Nat}{c:C}{d:Dt}(h:ev F c ρ S= .ok (d,none))(hs:cG c d=true)(k:fin (aE F ts (ρ.set i (some d)) none)=r):fin (aE F (.cons (.asg i c) ts) ρ S)=r:=by refine aQ ?_ k;rw[i7,h,R.ah,hs];rfl
theorem jq{i:Nat}{c:C}{d:Dt}(h:ev F c ρ S= .ok (d,none))(hs:iz c d=true)(k:fin (aE F ts (ρ.set i (some d)) none)=r):fin (aE F (.cons (.asgM i c) ts) ρ S)=r:=by refine aQ ?_ k;rw[jS,h,R.ah,hs];rfl
theorem aj{c:C}{d:Dt}(h:ev F c ρ S= .ok (d,none)):fin (aE F (.cons (.ret c) ts) ρ S)= .ok (d,none):=by refine qS (ρ1:=ρ) ?_;rw[my,h];rfl
theorem vM{t:C}{a b:Ts}{x:Bool}(h:aZ F t ρ S= .ok (x,none))(k:fin (aE F ((if x=true then a else b).app ts) ρ none)=r):fin (aE F (.cons (.ifs t a b) ts) ρ S)=r:=by rw[<-k,lH,aV,mx,h,R.ah];cases x<;>rfl
theorem aS{t:C}{a b:Ts}(h:aZ F t ρ S= .ok (true,none))(k:fin (aE F (a.app ts) ρ none)=r):fin (aE F (.cons (.ifs t a b) ts) ρ S)=r:=vM h (by rw[Ta rfl];exact k)
theorem aF{t:C}{a b:Ts}(h:aZ F t ρ S= .ok (false,none))(k:fin (aE F (b.app ts) ρ none)=r):fin (aE F (.cons (.ifs t a b) ts) ρ S)=r:=vM h (by rw[S9 ∅];exact k)
theorem cV{tg:Tg}{it:o8}{b:Ts}{ds:List Dt}{ρ1:ai}(h:dW F it ρ S= .ok (ds,none))(hl:tX it=0)(hf:forL tg (aE F b) ds ρ none= .ok (.next,ρ1,none))(k:fin (aE F ts ρ1 none)=r):fin (aE F (.cons (.fr tg it b) ts) ρ S)=r:=by refine aQ ?_ k;rw[xQ,h,R.ah,Rh hl,Bool.true_or];exact hf
end
end
theorem ax{fs:List Fn}{n k ps m:Nat}{body:Ts}{args:List Dt}{r:R (Dt×Sx)}{S:Sx}(h:fs[k]?=some ⟨ps,m,false,body⟩)(hn:1<=n)(hl:args.length=ps)(q:fin (aE (ar fs (n-1)) body (args.map some++List.replicate (m-ps) none) S)=r):ar fs n k args S=r:=by obtain⟨n,rfl⟩:∃m,n=m+1:=⟨n-1,⋯⟩;rw[Bb h];unfold fJ;simp only[RF,S8,Nat.add_zero,hl,Tb,Sn];exact q
def qF:Ts:=(.cons (.ifs (.cmp .Lt (.var 1) (.bi .len (.cons (.var 0) .nil))) (.cons (.ret (.idx (.var 0) (.var 1))) .nil) .nil) (.cons (.asg 2 (.bin .Add (.bin .Mult (.var 1) (.con (.int 7919))) (.con (.int 5)))) (.cons (.ifs (.cmp .Gt (.bi .len (.cons (.var 0) .nil)) (.con (.int 0))) (.cons (.asg 2 (.bin .Add (.bin .Add (.bin .Mult (.bin .Mod (.idx (.var 0) (.bin .Mod (.var 1) (.bi .len (.cons (.var 0) .nil)))) (.con (.int 2147483647))) (.con (.int 48271))) (.bin .Mult (.bin .Mult (.var 1) (.var 1)) (.con (.int 7919)))) (.con (.int 11)))) .nil) .nil) (.cons (.ret (.bin .Mod (.bin .Mult (.var 2) (.var 2)) (.con (.int 2147483629)))) .nil))))
theorem rj{ns:List Int}{k:Nat}(h:k<ns.length):cw (.bR ns) (.int k)= .ok (.int ns[k]):=by show tu (ns.map Dt.int) k=_;unfold tu;rw[L2.iH (v:=.int ns[k]) (by simp[h])]
def bO(ns:List Int)(k:Nat):Int:=if h:k<ns.length then ns[k] else
 let m:Int:=if h:0<ns.length then ns[k % ns.length]'(Nat.mod_lt _ h) % 2147483647*48271+k*k*7919+11 else k*7919+5
 m*m % 2147483629
theorem lu{fs:List Fn}{ic:Nat}(hc:fs[ic]?=some ⟨2,3,false,qF⟩){n:Nat}(hn:1<=n){ns:List Int}{k:Nat}(hk:k<1000000):ar fs n ic [.bR ns,.int k] none= .ok (.int (bO ns k),none):=by
 refine ax hc hn rfl ?_;show fin (aE (ar fs (n-1)) qF [some (.bR ns),some (.int k),none] none)=_;by_cases h:k<ns.length
 ·refine aS (by simp only[RX];simp[h]) ?_;exact(aj (d:=.int ns[k]) (by simp only[RX,rj h])).trans (by simp[bO,h])
 ·have b1:(k:Int)*k<=1000000*1000000:=by have:k*k<=1000000*1000000:=Nat.mul_le_mul ⋯ ⋯;rw[<-Int.natCast_mul];omega
  have b0:(0:Int)<=(k:Int)*k:=Int.mul_nonneg ⋯ ⋯;have m1:=bK (i:=k) (j:=7919) (.inl ⋯);refine aF (by simp only[RX];simp;omega) (aA (d:=.int (k*7919+5)) (by simp only[RX,m1]) rfl ?_);by_cases h2:0<ns.length
  ·have hm:=Nat.mod_lt k h2;have e1:((k:Int) % (ns.length:Int))=((k % ns.length:Nat):Int):=by simp
   generalize hx:ns[k % ns.length]=x;have r1:=Rq x (b:=2147483647) ‹_›;have r2:=Rr x (b:=2147483647) ‹_›;have m2:=bJ (i:=k) (j:=ns.length) ⋯;rw[e1]at m2;have m3:=bJ (i:=x) (j:=2147483647) ‹_›;have m4:=bK (i:=x % 2147483647) (j:=48271) (.inl ⋯);have m5:=bK (i:=k) (j:=k) (.inl ⋯);have m6:=bK (i:=(k:Int)*k) (j:=7919) (.inl ⋯);have m7:=bK (i:=x % 2147483647*48271+k*k*7919+11) (j:=x % 2147483647*48271+k*k*7919+11) (.inl ⋯);have m8:=bJ (i:=(x % 2147483647*48271+k*k*7919+11)*(x % 2147483647*48271+k*k*7919+11)) (j:=2147483629) ‹_›;refine aS (by simp only[RX];simp;omega) (aA (d:=.int (x % 2147483647*48271+k*k*7919+11)) ?_ rfl ?_)
   ·simp only[RX,m2,m3,m4,m5,m6,rj hm,hx]
   ·refine(aj (d:=_) (by simp only[RX,m7,m8];rfl)).trans ?_;simp[bO,h,h2,hx]
  ·have z0:decide ((0:Int)<ns.length)=false:=Rc ⋯;have m7:=bK (i:=k*7919+5) (j:=k*7919+5) (.inl ⋯);have m8:=bJ (i:=((k:Int)*7919+5)*(k*7919+5)) (j:=2147483629) ‹_›;refine aF (by simp only[RX,z0]) ((aj (d:=_) (by simp only[RX,m7,m8];rfl)).trans ?_);simp[bO,h,h2]
section
variable{F:FT}{S:Sx}{ρ ρ1:ai}{ts:Ts}{r:RS}{d:Dt}{ds:List Dt}
theorem nx{t:T}(h:ex F t ρ S= .ok (.next,ρ1,none))(k:aE F ts ρ1 none=r):aE F (.cons t ts) ρ S=r:=by rw[aV,h];exact k
theorem mf{i:Nat}{c:C}(h:ev F c ρ S= .ok (d,none))(hs:cG c d=true)(k:aE F ts (ρ.set i (some d)) none=r):aE F (.cons (.asg i c) ts) ρ S=r:=by refine nx ?_ k;rw[i7,h,R.ah,hs];rfl
theorem BZ{t:C}{a b:Ts}{x:Bool}(h:aZ F t ρ S= .ok (x,none))(k:aE F ((if x=true then a else b).app ts) ρ none=r):aE F (.cons (.ifs t a b) ts) ρ S=r:=by rw[<-k,lH,aV,mx,h,R.ah];cases x<;>rfl
theorem Mj{t:C}{a b:Ts}(h:aZ F t ρ S= .ok (true,none))(k:aE F (a.app ts) ρ none=r):aE F (.cons (.ifs t a b) ts) ρ S=r:=BZ h (by rw[Ta rfl];exact k)
theorem wU{t:C}{a b:Ts}(h:aZ F t ρ S= .ok (false,none))(k:aE F (b.app ts) ρ none=r):aE F (.cons (.ifs t a b) ts) ρ S=r:=BZ h (by rw[S9 ∅];exact k)
theorem rn{i:Nat}(hl:ρ[i]?=some (some (.lst ds))):isLE ρ i=true:=by unfold isLE;rw[hl]
theorem rJ{i:Nat}(hl:ρ[i]?=some (some (.lst ds))):jz ρ i= .ok ds:=by unfold jz;rw[hl]
theorem pE{i:Nat}{c:C}(hl:ρ[i]?=some (some (.lst ds)))(h:ev F c ρ S= .ok (d,none))(hs:cG c d=true)(hz:ds.length<=lim):ex F (.app i c) ρ S= .ok (.next,ρ.set i (some (.lst (ds++[d]))),none):=by rw[sk,rn hl,guard_true,h,R.ah,hs,guard_true,rJ hl,R.ah,Rh hz];rfl
theorem zG{i:Nat}{k v:C}{n:Int}{j:Nat}(hl:ρ[i]?=some (some (.lst ds)))(h:ev F v ρ S= .ok (d,none))(h2:ev F k ρ none= .ok (.int n,none))(hs:cG v d=true)(hz:kH ds.length n=some j):ex F (.uw i k v) ρ S= .ok (.next,ρ.set i (some (.lst (ds.set j d))),none):=by rw[oB,rn hl,guard_true,h,R.ah,h2,R.ah,hs,guard_true,rJ hl,R.ah];show (match kH ds.length n with|some j=>R.ok (Fl.next,ρ.set i (some (.lst (ds.set j d))),none)|none=>.bad)=_;rw[hz]
theorem me{i:Nat}{c:C}(hl:ρ[i]?=some (some (.lst ds)))(h:ev F c ρ S= .ok (d,none))(hs:cG c d=true)(hz:ds.length<=lim)(k:aE F ts (ρ.set i (some (.lst (ds++[d])))) none=r):aE F (.cons (.app i c) ts) ρ S=r:=nx (pE hl h hs hz) k
theorem sY(hd:itemsOf d=some ds):fY d=some ds:=by
 cases d with
 |str=>cases hd
 |_=>exact hd
theorem lU{c:C}{n:Nat}(h:ev F c ρ S= .ok (.int n,none))(hn:n<=lim):dW F (.rng1 c) ρ S= .ok (cn 0 n,none):=by show (ev F c ρ S).bind (λx=>match x.1 with|.int j=>ae (decide (j<=lim)&&decide (-lim<=j)) (.ok (cn 0 j.toNat,x.2))|_=>.bad)=_;rw[h,R.ah];show ae (decide ((n:Int)<=lim)&&decide (-lim<=(n:Int))) (R.ok (cn 0 (n:Int).toNat,none))=_;rw[show (decide ((n:Int)<=lim)&&decide (-lim<=(n:Int)))=true by have:lim=1000000:=rfl;simp;omega];simp
theorem Dz{a b:C}{da db:Dt}{xs ys:List Dt}(ha:ev F a ρ S= .ok (da,none))(hb:ev F b ρ none= .ok (db,none))(h1:bX da=some xs)(h2:bX db=some ys):dW F (.zip a b) ρ S= .ok (fZ xs ys,none):=by show (ev F a ρ S).bind (λx=>(ev F b ρ x.2).bind λy=>match bX x.1,bX y.1 with|some xs,some ys=>R.ok (fZ xs ys,y.2)|_,_=>.bad)=_;rw[ha,R.ah,hb,R.ah];show (match bX da,bX db with|some xs,some ys=>R.ok (fZ xs ys,none)|_,_=>.bad)=_;rw[h1,h2]
def nv(F:FT)(e:C):ai->Sx->R (List Dt×Sx):=λρ1 none=>(ev F e ρ1 none).bind λy=>ae (cG e y.1) (.ok ([y.1],y.2))
theorem zE{cap:List (Option Nat)}{it:o8}{tg:Tg}{cs:Cs}{e:C}{out:List Dt}(h:dW F it ρ S= .ok (ds,none))(hl:ds.length<=lim)(hk:(decide (tX it<=1)||jn F it ρ S)=true)(hc:cU (dQ tg (fu F cs) (nv F e) (jh cap ρ)) ds none= .ok (out,none)):
  ev F (.comp cap it tg cs e) ρ S= .ok (.lst out,none):=by
 rw[oz,h,R.ah,Rh hl,hk,RD,guard_true];show (cU (dQ tg (fu F cs) (nv F e) (jh cap ρ)) ds none).bind _=_;rw[hc];rfl
theorem yy{tg:Tg}{e:C}{y:Dt}(hs:eT tg d ρ= .ok ρ1)(he:ev F e ρ1 S= .ok (y,none))(hb:cG e y=true):dQ tg (fu F .nil) (nv F e) ρ d S= .ok ([y],none):=by unfold dQ nv;rw[hs,R.ah,kQ,R.ah];simp only[Tb,he,R.ah,hb,guard_true]
theorem Dv{k:Nat}(h:ds[k]?=some d):cw (.tup ds) (.int k)= .ok d/\cw (.lst ds) (.int k)= .ok d:=by
 have:tu ds k= .ok d:=by unfold tu;rw[L2.iH h]
 exact⟨this,this⟩
end
mutual
theorem B4:∀m:Mx.D,pl (ofD m)=true
 |.int _=>by simp[ofD,pl]
 |.str _=>by simp[ofD,pl]
 |.tup ms=>by simp[ofD,pl,xw ms]
theorem xw:∀ms:List Mx.D,om (ao ms)=true
 |[]=>by simp[ao,om]
 |m::ms=>by simp[ao,om,B4 m,xw ms]
end
mutual
theorem vA:∀m:Mx.D,dp (ofD m)=Mx.D.dep m
 |.int _=>by simp[ofD,dp,Mx.D.dep]
 |.str _=>by simp[ofD,dp,Mx.D.dep]
 |.tup ms=>by simp[ofD,dp,Mx.D.dep,vB ms]
theorem vB:∀ms:List Mx.D,qO (ao ms)=Mx.D.cv ms
 |[]=>by simp[ao,qO,Mx.D.cv]
 |m::ms=>by simp[ao,qO,Mx.D.cv,vA m,vB ms]
end
mutual
theorem BF:∀a b:Mx.D,cj (ofD a) (ofD b)=Mx.D.ft a b
 |.int i,.int j=>by simp[ofD,cj,Mx.D.ft]
 |.str i,.str j=>by simp[ofD,cj,Mx.D.ft]
 |.tup i,.tup j=>by simp[ofD,cj,Mx.D.ft,vE i j]
 |.int _,.str _=>by simp[ofD,cj,Mx.D.ft]
 |.int _,.tup _=>by simp[ofD,cj,Mx.D.ft]
 |.str _,.int _=>by simp[ofD,cj,Mx.D.ft]
 |.str _,.tup _=>by simp[ofD,cj,Mx.D.ft]
 |.tup _,.int _=>by simp[ofD,cj,Mx.D.ft]
 |.tup _,.str _=>by simp[ofD,cj,Mx.D.ft]
theorem vE:∀a b:List Mx.D,bV (ao a) (ao b)=Mx.D.eqs a b
 |[],[]=>by simp[ao,bV,Mx.D.eqs]
 |[],_::_=>by simp[ao,bV,Mx.D.eqs]
 |_::_,[]=>by simp[ao,bV,Mx.D.eqs]
 |a::as,b::bs=>by simp[ao,bV,Mx.D.eqs,BF a b,vE as bs]
end
theorem zA{a b:Mx.D}(h:Mx.D.dep a<=100):bL .Eq (ofD a) (ofD b)= .ok (decide (a=b)):=by show ae (pC (ofD a) (ofD b)) (.ok (cj (ofD a) (ofD b)))=_;rw[show pC (ofD a) (ofD b)=true by simp[pC,B4,vA,h],guard_true,BF,Mx.D.iK]
theorem cD(a b:List Mx.D):ao (a++b)=ao a++ao b:=by simp[cF]
theorem bP(a:List Mx.D):(ao a).length=a.length:=by simp[cF]
theorem qm{pre post:List Dt}{x:Dt}{a:List Mx.D}(h:ao a=pre++x::post):∃p y q,a=p++y::q/\pre=ao p/\x=ofD y/\post=ao q:=by rw[cF]at h;obtain⟨p,r,e1,e2,e3⟩:=List.map_eq_append_iff.mp h;obtain⟨y,q,e4,e5,e6⟩:=List.map_eq_cons_iff.mp e3;exact⟨p,y,q,by rw[e1,e4],by rw[cF,e2],e5.symm,by rw[cF,e6]⟩
theorem ko{ms:List Mx.D}(h:iC ms=true):cR .sorted [.lst (ao ms)]= .ok (.lst (ao (aO ms)))/\cR .sorted [.tup (ao ms)]= .ok (.lst (ao (aO ms))):=by
 constructor
 ·show (match eW (ao ms)with|some ms=>ae (iC ms) (R.ok (Dt.lst (ao (aO ms))))|none=>.bad)=_;rw[cY];show ae (iC ms) _=_;rw[h];rfl
 ·show (match eW (ao ms)with|some ms=>ae (iC ms) (R.ok (Dt.lst (ao (aO ms))))|none=>.bad)=_;rw[cY];show ae (iC ms) _=_;rw[h];rfl
theorem CS{ms:List Mx.D}(k:Mx.SK)(hl:ms.length<64)(hd:Mx.D.cv ms<=100)(hk:∀d∈ms,Hn k d=true)(hp:∀d∈ms,∀e∈ms,jy d e=true):iC ms=true:=by
 have JP:([Mx.SK.tt,.ts,.ti,.s,.i].any λk=>ms.all (Hn k))=true:=by rw[Rp];exact⟨k,by cases k<;>simp,Ro.mpr hk⟩
 unfold iC;rw[JP,Rh hl,Rh hd];simp only[Bool.true_and,Ru,QO];exact .inr (Ro.mpr λd h=>Ro.mpr λe h2=>hp d h e h2)
theorem gf{n:Nat}:∀{ms:List Mx.D},(∀d∈ms,Mx.D.dep d<=n)->Mx.D.cv ms<=n
 |[],_=>by simp[Mx.D.cv]
 |m::ms,h=>by
  have h1:=h m QU;have h2:=gf λd hd=>h d (QS _ hd)
  simp only[Mx.D.cv];omega
theorem bN(ms:List Mx.D):(aO ms).Perm ms:=List.mergeSort_perm ..
theorem dO{d:Mx.D}{ms:List Mx.D}:d∈aO ms↔d∈ms:=(bN ms).mem_iff
theorem tW(a b c:Mx.D)(h1:iT a b=true)(h2:iT b c=true):iT a c=true:=by
 unfold iT at *;simp only[RH]at *;cases h:Mx.D.lt c a with
 |false=>rfl
 |true=>
  exfalso;cases h3:Mx.D.lt a b with
  |true=>rw[Mx.D.lt_trans c a b h h3]at h2;cases h2
  |false=>have:=Mx.D.dD a b h3 h1;subst this;rw[h]at h2;cases h2
theorem tV(a b:Mx.D):(iT a b||iT b a)=true:=by
 unfold iT;cases h:Mx.D.lt b a with
 |false=>rfl
 |true=>
  cases h2:Mx.D.lt a b with
  |false=>rfl
  |true=>have:=Mx.D.lt_trans a b a h2 h;rw[Mx.D.lt_irrefl]at this;cases this
theorem gJ(ms:List Mx.D):(aO ms).Pairwise λa b=>iT a b=true:=List.pairwise_mergeSort tW tV ms
theorem jY:∀{a b:List Mx.D},a.Pairwise (λx y=>Mx.D.lt x y=true)->b.Pairwise (λx y=>Mx.D.lt x y=true)->(∀x,x∈a↔x∈b)->a=b
 |[],[],_,_,_=>rfl
 |[],y::b,_,_,h=>by have:=(h y).mpr QU;cases this
 |x::a,[],_,_,h=>by have:=(h x).mp QU;cases this
 |x::a,y::b,ha,hb,h=>by
  have Lr:=Ss.mp ha;have uK:=Ss.mp hb;have OG:x=y:=by
   rcases QZ.mp ((h x).mp QU)with e|e
   ·exact e
   ·rcases QZ.mp ((h y).mpr QU)with e2|e2
    ·exact e2.symm
    ·have:=Mx.D.lt_trans x y x (Lr.1 y e2) (uK.1 x e);rw[Mx.D.lt_irrefl]at this;cases this
  subst OG;rw[jY Lr.2 uK.2 λz=>?_];constructor
  ·intro hz;rcases QZ.mp ((h z).mp (QS _ hz))with e|e
   ·subst e;have:=Lr.1 z hz;rw[Mx.D.lt_irrefl]at this;cases this
   ·exact e
  ·intro hz;rcases QZ.mp ((h z).mpr (QS _ hz))with e|e
   ·subst e;have:=uK.1 z hz;rw[Mx.D.lt_irrefl]at this;cases this
   ·exact e
theorem oh{a b:Mx.D}(h:iT a b=true)(n:a≠b):Mx.D.lt a b=true:=by
 unfold iT at h;cases h2:Mx.D.lt a b with
 |true=>rfl
 |false=>exact absurd (Mx.D.dD a b h2 ‹h›) n
theorem oI{ms:List Mx.D}(h:ms.Nodup):(aO ms).Pairwise λa b=>Mx.D.lt a b=true:=by have h1:=gJ ms;have h2:(aO ms).Nodup:=(bN ms).nodup_iff.mpr h;exact h1.imp₂ (λa b x y=>oh x y) h2
def uq:Option Mx.D->List Mx.D->List Mx.D
 |_,[]=>[]
 |p,x::r=>if p=some x then uq (some x) r else x::uq (some x) r
theorem qu{x:Mx.D}:∀{a:List Mx.D}{p:Option Mx.D},x∈uq p a->x∈a
 |[],p,h=>by simp[uq]at h
 |y::a,p,h=>by
  rw[uq]at h;split at h
  ·exact QS _ (qu h)
  ·rcases QZ.mp h with h|h
   ·rw[h];exact QU
   ·exact QS _ (qu h)
theorem k6:∀{a:List Mx.D}{p:Option Mx.D},a.Pairwise (λx y=>iT x y=true)->(∀x∈a,∀y,p=some y->iT y x=true)->(uq p a).Pairwise (λx y=>Mx.D.lt x y=true)/\∀x∈uq p a,∀y,p=some y->Mx.D.lt y x=true
 |[],p,_,_=>by simp[uq]
 |y::a,p,h,hp=>by
  have h':=Ss.mp h;obtain⟨i1,i2⟩:=k6 (p:=some y) h'.2 (λx hx z e=>by cases e;exact h'.1 x hx);rw[uq];split
  ·rename_i e;subst e;exact⟨i1,i2⟩
  ·rename_i ne;have key:∀z,p=some z->Mx.D.lt z y=true:=λz e=>oh (hp y QU z e) λe2=>ne (by rw[e,e2])
   refine⟨Ss.mpr ⟨λx hx=>i2 x hx y rfl,i1⟩,λx hx z e=>?_⟩;rcases QZ.mp hx with rfl|hx
   ·exact key z e
   ·exact Mx.D.lt_trans z y x (key z e) (i2 x hx y rfl)
variable{fs:List Fn}
def u6(ic:Nat):Ts:=(.cons (.asg 3 (.bin .Add (.bin .Mult (.bin .Mod (.call ic (.cons (.var 0) (.cons (.var 1) .nil)) []) (.con (.int 2147483647))) (.bin .Add (.con (.int 48271)) (.bin .Mult (.con (.int 2)) (.var 1)))) (.bin .Mult (.con (.int 31)) (.var 1)))) (.cons (.ret (.bin .Mod (.bin .FloorDiv (.bin .Mod (.var 3) (.con (.int 2147483629))) (.con (.int 7))) (.var 2))) .nil))
def bB(ns:List Int)(k many:Nat):Nat:=((((bO ns k % 2147483647)*(48271+2*k)+31*k) % 2147483629/7) % many).toNat
theorem eR{ns:List Int}{k many:Nat}(h:0<many):bB ns k many<many:=by unfold bB;have h1:=Rq (((bO ns k % 2147483647)*(48271+2*k)+31*k) % 2147483629/7) (b:=many) ⋯;have h2:=Rr (((bO ns k % 2147483647)*(48271+2*k)+31*k) % 2147483629/7) (b:=many) ⋯;omega
structure iG(fs:List Fn)(ip:Nat):Prop where
 ex:∃ic,fs[ic]?=some ⟨2,3,false,qF⟩/\fs[ip]?=some ⟨3,4,false,u6 ic⟩
theorem iW{ip:Nat}(hp:iG fs ip){n:Nat}(hn:2<=n){ns:List Int}{k many:Nat}(hk:k<1000000)(hm:0<many):ar fs n ip [.bR ns,.int k,.int many] none= .ok (.int (bB ns k many),none):=by
 obtain⟨ic,h1,h2⟩:=hp.ex;refine ax h2 ⋯ rfl ?_;show fin (aE (ar fs (n-1)) (u6 ic) [some (.bR ns),some (.int k),some (.int many),none] none)=_;have hc:=lu h1 (n:=n-1) ⋯ (ns:=ns) hk;generalize hx:bO ns k=x at hc;have r1:=Rq x (b:=2147483647) ‹_›;have r2:=Rr x (b:=2147483647) ‹_›;have m1:=bJ (i:=x) (j:=2147483647) ‹_›;have m2:=bK (i:=2) (j:=k) (.inl ‹_›);have m3:=bK (i:=x % 2147483647) (j:=48271+2*k) (.inl ⋯);have m4:=bK (i:=31) (j:=k) (.inl ‹_›);have m5:=bJ (i:=x % 2147483647*(48271+2*k)+31*k) (j:=2147483629) ‹_›;have m6:=D4 (i:=(x % 2147483647*(48271+2*k)+31*k) % 2147483629) (j:=7) ‹_› ‹_›;have m7:=bJ (i:=(x % 2147483647*(48271+2*k)+31*k) % 2147483629/7) (j:=many) ⋯;refine aA (d:=.int (x % 2147483647*(48271+2*k)+31*k)) (by simp only[RX,hc,m1,m2,m3,m4]) rfl ?_;refine(aj (d:=_) (by simp only[RX,m5,m6,m7];rfl)).trans ?_;have h1:=Rq (((x % 2147483647)*(48271+2*k)+31*k) % 2147483629/7) (b:=many) ⋯;have e:((bB ns k many:Nat):Int)=((x % 2147483647)*(48271+2*k)+31*k) % 2147483629/7 % many:=by unfold bB;rw[hx];omega
 rw[e]
theorem Ae{z:Str}{k:Nat}(hz:z.length<=lim)(h:k<z.length):∃c,cw (.str z) (.int k)= .ok (.str ⟨#[c]⟩):=by
 have iw:z.cps.toList.length=z.length:=by simp[Str.length]
 refine⟨z.cps.toList[k],?_⟩;show ae (decide (z.length<=lim)) (match ka z.cps.toList k with|some c=>R.ok (Dt.str ⟨#[c]⟩)|none=>.bad)=_;rw[Rh hz,guard_true,L2.iH (v:=z.cps.toList[k]) (Rb _)]
theorem d5{a b:Str}(h:a.length+b.length<=lim):gQ .Add (.str a) (.str b)= .ok (.str (a++b)):=by show ae (decide (a.length+b.length<=lim)) _=_;rw[Rh h];rfl
theorem len_str{z:Str}(h:z.length<=lim):cR .len [.str z]= .ok (.int z.length):=by show ae (decide (z.length<=lim)) _=_;rw[Rh h];rfl
theorem mI{z:Str}{lo hi:Option Int}(h:z.length<=lim):fy (.str z) lo hi= .ok (.str (PySem.Txt.slice z lo hi)):=by show ae (decide (z.length<=lim)) _=_;rw[Rh h];rfl
theorem len_cat(a b:Str):(a++b).length=a.length+b.length:=Str.length_append ..
theorem gp{z:Str}{k:Nat}{d}(hz:z.length<=lim)(h:k<z.length):cw (.str z) (.int k)= .ok (.str ⟨#[z.cps.toList.getD k d]⟩):=by
 have iw:k<z.cps.toList.length:=by simpa [Str.length]using h
 show ae (decide (z.length<=lim)) (match ka z.cps.toList k with|some c=>R.ok (Dt.str ⟨#[c]⟩)|none=>.bad)=_;rw[Rh hz,guard_true,L2.iH (v:=z.cps.toList[k]) (Rb _)];rw[List.getD,Rb iw];rfl
def qG:Ts:=(.cons (.asg 8 (.idx (.var 2) (.bin .Mod (.bin .Add (.var 6) (.bin .Mult (.con (.int 7)) (.var 4))) (.con (.int 26))))) (.cons (.app 7 (.bin .Add (.bin .Add (.sliH (.var 3) (.var 5)) (.var 8)) (.sliL (.var 3) (.var 5)))) .nil))
def ll(ip:Nat):Ts:=(.cons (.asg 3 (.con (.str ""))) (.cons (.fr (.nm 4) (.rng1 (.call ip (.cons (.var 0) (.cons (.var 1) (.cons (.con (.int 6)) .nil))) [])) (.cons (.asg 3 (.bin .Add (.var 3) (.idx (.var 2) (.call ip (.cons (.var 0) (.cons (.bin .Add (.bin .Add (.var 1) (.bin .Mult (.con (.int 11)) (.var 4))) (.con (.int 1))) (.cons (.con (.int 26)) .nil))) [])))) .nil)) (.cons (.asg 5 (.call ip (.cons (.var 0) (.cons (.bin .Add (.var 1) (.con (.int 2))) (.cons (.bin .Add (.bi .len (.cons (.var 3) .nil)) (.con (.int 1))) .nil))) [])) (.cons (.asg 6 (.call ip (.cons (.var 0) (.cons (.bin .Add (.var 1) (.con (.int 3))) (.cons (.con (.int 26)) .nil))) [])) (.cons (.ifs (.cmp .Eq (.call ip (.cons (.var 0) (.cons (.bin .Add (.var 1) (.con (.int 4))) (.cons (.con (.int 3)) .nil))) []) (.con (.int 0))) (.cons (.asg 3 (.bin .Add (.sliH (.var 3) (.con (.int 3))) (.idx (.var 2) (.var 6)))) (.cons (.ret (.lst (.cons (.var 3) (.cons (.bin .Add (.var 3) (.idx (.var 2) (.var 5))) (.cons (.bin .Add (.bin .Add (.var 3) (.idx (.var 2) (.var 5))) (.idx (.var 2) (.var 6))) .nil))))) .nil)) .nil) (.cons (.asgM 7 (.lst .nil)) (.cons (.fr (.nm 4) (.rng1 (.con (.int 3))) qG) (.cons (.ret (.mvr 7)) .nil))))))))
theorem kS{n:Nat}{pre post:List Dt}{x:Dt}(h:cn 0 n=pre++x::post):pre.length<n/\x= .int pre.length:=by
 have hl:(cn 0 n).length=n:=by simp[cn]
 have h1:pre.length<n:=by rw[<-hl,h];simp
 refine⟨h1,?_⟩;have e:(cn 0 n)[pre.length]?=some x:=by rw[h];simp
 unfold cn at e;simp[h1]at e;exact e.symm
variable{fs:List Fn}
mutual
noncomputable def sm:Dt->Bool
 |.int _=>true
 |.str _=>true
 |.tup ds=>Bh ds
 |.lst ds=>Bh ds
 |_=>false
noncomputable def Bh:List Dt->Bool
 |[]=>true
 |d::ds=>sm d&&Bh ds
end
mutual
theorem Cc:∀m:Mx.D,sm (ofD m)=true
 |.int _=>by simp[ofD,sm]
 |.str _=>by simp[ofD,sm]
 |.tup ms=>by simp[ofD,sm,yh ms]
theorem yh:∀ms:List Mx.D,Bh (ao ms)=true
 |[]=>by simp[ao,Bh]
 |m::ms=>by simp[ao,Bh,Cc m,yh ms]
end
theorem sM:∀{ds:List Dt}{d:Dt},Bh ds=true->d∈ds->sm d=true/\dp d<=qO ds
 |d::ds,x,h,hx=>by
  simp only[Bh,QO]at h;simp only[qO];rcases QZ.mp hx with rfl|hx
  ·exact⟨h.1,⋯⟩
  ·have:=sM h.2 hx;exact⟨this.1,⋯⟩
def nr(is:Nat):Ts:=(.cons (.ifs (.bi (.isi "str") (.cons (.var 1) .nil)) (.cons (.ret (.and (.bi (.isi "str") (.cons (.var 0) .nil)) (.cmp .Eq (.var 0) (.var 1)))) .nil) .nil) (.cons (.ifs (.bi (.isi "int") (.cons (.var 1) .nil)) (.cons (.ret (.and (.bi (.isi "int") (.cons (.var 0) .nil)) (.and (.nt (.bi (.isi "bool") (.cons (.var 0) .nil))) (.cmp .Eq (.var 0) (.var 1))))) .nil) .nil) (.cons (.ifs (.or (.cmp .NotEq (.bi (.isi "list") (.cons (.var 1) .nil)) (.bi (.isi "list") (.cons (.var 0) .nil))) (.cmp .NotEq (.bi (.isi "tuple") (.cons (.var 1) .nil)) (.bi (.isi "tuple") (.cons (.var 0) .nil)))) (.cons (.ret (.con (.bl false))) .nil) .nil) (.cons (.ifs (.cmp .NotEq (.bi .len (.cons (.var 0) .nil)) (.bi .len (.cons (.var 1) .nil))) (.cons (.ret (.con (.bl false))) .nil) .nil) (.cons (.fr (.tp [2,3]) (.zip (.var 0) (.var 1)) (.cons (.ifs (.nt (.call is (.cons (.var 2) (.cons (.var 3) .nil)) [])) (.cons (.ret (.con (.bl false))) .nil) .nil) .nil)) (.cons (.ret (.con (.bl true))) .nil))))))
theorem uG{ds pre post:List Dt}{x:Dt}(h:fZ ds ds=pre++x::post):∃y∈ds,x= .tup [y,y]:=by
 have hx:x∈fZ ds ds:=by rw[h];simp
 unfold fZ at hx;have:List.zipWith (λx y=>Dt.tup [x,y]) ds ds=ds.map λy=>Dt.tup [y,y]:=by
  clear h hx
  induction ds with
  |nil=>rfl
  |cons d ds ih=>simp[ih]
 rw[this,Rn]at hx;obtain⟨y,h1,h2⟩:=hx;exact⟨y,h1,h2.symm⟩
theorem sE{is:Nat}(hf:fs[is]?=some ⟨2,4,false,nr is⟩):∀(n:Nat)(d:Dt),sm d=true->dp d<n->ar fs n is [d,d] none= .ok (.bl true,none)
 |0,d,_,h=>by omega
 |n+1,d,h,hd=>by
  have ih:=sE hf n;have main:∀ds:List Dt,Bh ds=true->qO ds<n->(d= .tup ds\/d= .lst ds)->ar fs (n+1) is [d,d] none= .ok (.bl true,none):=by
   intro ds hs hl hd;have hlen:cR .len [d]= .ok (.int ds.length):=by rcases hd with rfl|rfl<;>rfl
   have JX:bX d=some ds:=by rcases hd with rfl|rfl<;>rfl
   have i1:cR (.isi "str") [d]= .ok (.bl false):=by rcases hd with rfl|rfl<;>rfl
   have i2:cR (.isi "int") [d]= .ok (.bl false):=by rcases hd with rfl|rfl<;>rfl
   have i3:(∃b,cR (.isi "list") [d]= .ok (.bl b))/\∃b,cR (.isi "tuple") [d]= .ok (.bl b):=by rcases hd with rfl|rfl<;>exact⟨⟨_,rfl⟩,⟨_,rfl⟩⟩
   obtain⟨⟨b3,i3⟩,⟨b4,i4⟩⟩:=i3;have e3:∀b:Bool,bL .NotEq (.bl b) (.bl b)= .ok false:=λb=>by cases b<;>rfl
   have loop:=cO (S:=none) (tg:=.tp [2,3]) (body:=aE (ar fs n) (.cons (.ifs (.nt (.call is (.cons (.var 2) (.cons (.var 3) .nil)) [])) (.cons (.ret (.con (.bl false))) .nil) .nil) .nil)) (ds:=fZ ds ds)
    (ρ:=[some d,some d,none,none]) (λpre ρ=>∃a b,ρ=[some d,some d,a,b]) ⟨none,none,rfl⟩ (by
     rintro pre x post ρ e ⟨a,b,rfl⟩;obtain⟨y,hy,rfl⟩:=uG e;have:=sM hs hy;have hc:=ih y this.1 ⋯;exact⟨[some d,some d,some y,some y],_,rfl,wU (by simp only[RX,hc];rfl) rfl,some y,some y,rfl⟩)
   obtain⟨ρ1,kE,a,b,rfl⟩:=loop;refine ax hf ⋯ rfl ?_;show fin (aE (ar fs n) (nr is) [some d,some d,none,none] none)=_;refine aF (by simp only[RX,i1]) (aF (by simp only[RX,i2]) (aF (by simp only[RX,i3,i4,e3];rfl) (aF (by simp only[RX,hlen];simp) ?_)));refine cV (ds:=fZ ds ds) (Dz rfl rfl JX JX) rfl kE (aj rfl)
  cases d with
  |str x=>refine ax hf ⋯ rfl ?_;show fin (aE (ar fs n) (nr is) [some (.str x),some (.str x),none,none] none)=_;have i1:cR (.isi "str") [.str x]= .ok (.bl true):=rfl;exact aS (by simp only[RX,i1]) (aj (by simp only[RX,i1];simp))
  |int x=>refine ax hf ⋯ rfl ?_;show fin (aE (ar fs n) (nr is) [some (.int x),some (.int x),none,none] none)=_;have i1:cR (.isi "str") [.int x]= .ok (.bl false):=rfl;have i2:cR (.isi "int") [.int x]= .ok (.bl true):=rfl;have i3:cR (.isi "bool") [.int x]= .ok (.bl false):=rfl;exact aF (by simp only[RX,i1]) (aS (by simp only[RX,i2]) (aj (by simp only[RX,i2,i3,Bool.not_false];simp)))
  |tup ds=>exact main ds (by simpa [sm]using h) (by simp only[dp]at hd;omega) (.inl rfl)
  |lst ds=>exact main ds (by simpa [sm]using h) (by simp only[dp]at hd;omega) (.inr rfl)
  |_=>simp[sm]at h
def bQ(x:Str):Mx.D:=.tup [.str "any",.str x]
def ofT(x:Str)(ps:List Mx.D):Mx.D:=.tup [.str "of",.str x,.tup ps]
theorem pU:∀{xs ys:List Mx.D},(∀x∈xs,∀y∈ys,jy x y=true)->gv xs ys=true
 |[],_,_=>by simp[gv]
 |_::_,[],_=>by simp[gv]
 |x::xs,y::ys,h=>by simp only[gv,QO];exact⟨h x QU y QU,pU λa ha b hb=>h a (QS _ ha) b (QS _ hb)⟩
theorem jw{ds:List Dt}{d:Dt}:cw (.lst (ds++[d])) (.int (-1))= .ok d:=by show tu (ds++[d]) (-1)=_;unfold tu;rw[Mx.nk]
theorem Aj{n:Nat}:kH (n+1) (-1)=some n:=by unfold kH;rw[S9 ‹_›,Ta ⋯];congr 1;omega
theorem Bc{α:Type}(a:List α)(x y:α){n:Nat}(h:n=a.length):(a++[x]).set n y=a++[y]:=by subst h;simp
variable{fs:List Fn}
def mZ(L:Nat)(Q:Mx.D->Prop)(it:Mx.D):Prop:=(∃x,it=bQ x)\/∃x ps,it=ofT x ps/\ps.length<=L/\∀p∈ps,Q p
def row(it:Mx.D)(c:Int):Mx.D:=.tup [it,.int c]
def k9(L:Nat)(P:Int->Prop)(Q:Mx.D->Prop)(r:Mx.D):Prop:=∃it c,r=row it c/\P c/\mZ L Q it
def oW(L:Nat)(P:Int->Prop):Nat->Mx.D->Prop
 |0,_=>False
 |n+1,d=>∃rs,d= .tup rs/\rs.length<=L/\∀r∈rs,k9 L P (oW L P n) r
section
variable{L L':Nat}{P P':Int->Prop}
theorem mZ.imp{Q Q':Mx.D->Prop}{it:Mx.D}(hL:L<=L')(h:∀p,Q p->Q' p):mZ L Q it->mZ L' Q' it:=Or.imp id λ⟨x,ps,e,h1,h2⟩=>⟨x,ps,e,QY h1 hL,λp hp=>h p (h2 p hp)⟩
theorem oW.mono(hL:L<=L')(hP:∀c,P c->P' c):∀{n m:Nat}{d:Mx.D},n<=m->oW L P n d->oW L' P' m d
 |0,_,_,_,h=>h.elim
 |n+1,0,_,h,_=>by omega
 |n+1,m+1,d,hn,⟨rs,e,h1,h2⟩=>⟨rs,e,QY h1 hL,λr hr=>by
  obtain⟨it,c,e,h3,h4⟩:=h2 r hr;exact⟨it,c,e,hP c h3,h4.imp hL λp hp=>oW.mono hL hP ⋯ hp⟩⟩
theorem vv{m:Nat}{it:Mx.D}{Q:Mx.D->Prop}(hQ:∀d,Q d->Mx.D.dep d<=m)(h:mZ L Q it):Mx.D.dep it<=m+2:=by
 rcases h with ⟨x,rfl⟩|⟨x,ps,rfl,_,hp⟩
 ·simp[bQ,Mx.D.dep,Mx.D.cv]
 ·have:=gf λp yY=>hQ p (hp p yY)
  simp[ofT,Mx.D.dep,Mx.D.cv];omega
theorem vw{m:Nat}{r:Mx.D}{Q:Mx.D->Prop}(hQ:∀d,Q d->Mx.D.dep d<=m)(h:k9 L P Q r):Mx.D.dep r<=m+3:=by obtain⟨it,c,rfl,_,hi⟩:=h;have:=vv hQ hi;simp[row,Mx.D.dep,Mx.D.cv];omega
theorem qN:∀{n:Nat}{d:Mx.D},oW L P n d->Mx.D.dep d<=4*n
 |0,d,h=>h.elim
 |n+1,d,⟨rs,e,_,h⟩=>by
  subst e;have:Mx.D.cv rs<=4*n+3:=gf λr hr=>vw (λd hd=>qN hd) (h r hr)
  simp only[Mx.D.dep];omega
theorem Hw{Q Q':Mx.D->Prop}{a b:Mx.D}(hq:∀p q,Q p->Q' q->jy p q=true)(ha:mZ L Q a)(hb:mZ L' Q' b):jy a b=true:=by
 rcases ha with ⟨x,rfl⟩|⟨x,ps,rfl,_,hp⟩<;>rcases hb with ⟨y,rfl⟩|⟨y,qs,rfl,_,Pw⟩
 ·simp[bQ,jy,gv]
 ·simp[bQ,ofT,jy,gv]
 ·simp[bQ,ofT,jy,gv]
 ·simp only[ofT,jy,gv,Bool.true_and,RD];exact pU λp iu q LL=>hq p q (hp p iu) (Pw q LL)
theorem BX{Q Q':Mx.D->Prop}{a b:Mx.D}(hq:∀p q,Q p->Q' q->jy p q=true)(ha:k9 L P Q a)(hb:k9 L' P' Q' b):jy a b=true:=by obtain⟨i,c,rfl,_,hi⟩:=ha;obtain⟨j,d,rfl,_,hj⟩:=hb;simp only[row,jy,gv,RD];exact Hw hq hi hj
theorem Hv:∀{n m:Nat}{a b:Mx.D},oW L P n a->oW L' P' m b->jy a b=true
 |0,_,_,_,h,_=>h.elim
 |_+1,0,_,_,_,h=>h.elim
 |n+1,m+1,a,b,⟨rs,e1,_,h1⟩,⟨qs,e2,_,h2⟩=>by subst e1 e2;simp only[jy];exact pU λr hr q hq=>BX (λp q hp hq=>Hv hp hq) (h1 r hr) (h2 q hq)
theorem BB{n:Nat}{ms:List Mx.D}(hn:n<=20)(hl:ms.length<64)(h:∀m∈ms,k9 L P (oW L P n) m):iC ms=true:=by
 refine CS .tt hl (gf λd hd=>?_) (λd hd=>?_) λd hd e he=>BX (λp q hp hq=>Hv hp hq) (h d hd) (h e he)
 ·have:=vw (λd hd=>qN hd) (h d hd);omega
 ·obtain⟨it,c,rfl,_,hi⟩:=h d hd;rcases hi with ⟨x,rfl⟩|⟨x,ps,rfl,_⟩<;>rfl
end
def cW:Mx.D->Mx.D
 |.tup (it::_)=>it
 |d=>d
def pA:Mx.D->Int
 |.tup [_,.int c]=>c
 |_=>0
theorem bo(it:Mx.D)(c:Int):cW (row it c)=it:=rfl
theorem fO(it:Mx.D)(c:Int):pA (row it c)=c:=rfl
def gr(it:Mx.D)(c:Int):List Mx.D->List Mx.D
 |[]=>[row it c]
 |r::rs=>if it=cW r then gr (cW r) (c+pA r) rs else row it c::gr (cW r) (pA r) rs
def kD:List Mx.D->List Mx.D
 |[]=>[]
 |r::rs=>gr (cW r) (pA r) rs
def aX(ms:List Mx.D):List Mx.D:=kD (aO ms)
theorem lN(r:Mx.D):∀(rs:List Mx.D)(it:Mx.D)(c:Int),∃init fR c',gr it c rs=init++[row fR c']/\gr it c (rs++[r])=if fR=cW r then init++[row (cW r) (c'+pA r)] else init++[row fR c']++[row (cW r) (pA r)]
 |[],it,c=>⟨[],it,c,rfl,by simp only[Sn,gr];split<;>rfl⟩
 |s::rs,it,c=>by
  simp only[RU,gr];by_cases h:it=cW s
  ·rw[Ta h,Ta h];exact lN r rs _ _
  ·rw[S9 h,S9 h];obtain⟨init,fR,c',h1,h2⟩:=lN r rs (cW s) (pA s);refine⟨row it c::init,fR,c',by rw[h1];rfl,?_⟩;rw[h2];split<;>rfl
theorem lL:∀(rs:List Mx.D)(it:Mx.D)(c:Int),(gr it c rs).length<=rs.length+1
 |[],it,c=>by simp[gr]
 |r::rs,it,c=>by
  rw[gr];split
  ·have:=lL rs (cW r) (c+pA r);rw[Q5];omega
  ·have:=lL rs (cW r) (pA r);rw[Q5,Q5];omega
theorem gk:∀(rs:List Mx.D)(it:Mx.D)(c:Int),(gr it c rs).map cW=it::uq (some it) (rs.map cW)
 |[],it,c=>by simp[gr,uq,bo]
 |r::rs,it,c=>by
  rw[gr,Ry,uq];by_cases h:it=cW r
  ·rw[Ta h,Ta (by rw[h]),gk rs,h]
  ·rw[S9 h,S9 (λz=>h (SM z)),Ry,gk rs,bo]
theorem lM{S:Mx.D->Prop}(hS:∀it c d,S (row it c)->0<c->0<d->S (row it (c+d))):∀(rs:List Mx.D)(it:Mx.D)(c:Int),S (row it c)->0<c->(∀r∈rs,S r/\∃i k,r=row i k/\0<k)->∀r∈gr it c rs,S r/\∃i k,r=row i k/\0<k
 |[],it,c,h,hc,_,r,hr=>by simp only[gr,Rm]at hr;subst hr;exact⟨h,it,c,rfl,hc⟩
 |q::rs,it,c,h,hc,hs,r,hr=>by
  obtain⟨hq,i,k,e,hk⟩:=hs q QU;subst e;have uP:∀r∈rs,S r/\∃i k,r=row i k/\0<k:=λr hr=>hs r (QS _ hr)
  rw[gr,bo,fO]at hr;split at hr
  ·rename_i e;subst e;exact lM hS rs it (c+k) (hS _ _ _ h hc hk) ⋯ uP r hr
  ·rcases QZ.mp hr with rfl|hr
   ·exact⟨h,it,c,rfl,hc⟩
   ·exact lM hS rs i k hq hk uP r hr
theorem qX:∀(rs:List Mx.D)(it:Mx.D)(c:Int),(it::rs.map cW).Nodup->(∀r∈rs,∃i k,r=row i k)->gr it c rs=row it c::rs
 |[],it,c,_,_=>rfl
 |q::rs,it,c,hn,hs=>by obtain⟨i,k,e⟩:=hs q QU;subst e;rw[Ry,bo]at hn;have h1:=So.mp hn;rw[gr,bo,fO,S9 (λz=>h1.1 (by rw[z];exact QU)),qX rs i k h1.2 λr hr=>hs r (QS _ hr)]
theorem nP{rs:List Mx.D}(hn:(rs.map cW).Nodup)(hs:∀r∈rs,∃i k,r=row i k):kD rs=rs:=by
 cases rs with
 |nil=>rfl
 |cons q rs=>obtain⟨i,k,e⟩:=hs q QU;subst e;exact qX rs i k hn λr hr=>hs r (QS _ hr)
theorem wH{i j:Mx.D}{c d:Int}(h:Mx.D.lt i j=true):Mx.D.lt (row i c) (row j d)=true:=by
 have ne:i≠j:=λe=>by subst e;rw[Mx.D.lt_irrefl]at h;cases h
 simp only[row,Mx.D.lt];rw[Mx.D.cQ,S9 ne];exact h
theorem DK{i j:Mx.D}{c d:Int}(h:iT (row i c) (row j d)=true):iT i j=true:=by
 unfold iT at h ⊢;cases e:Mx.D.lt j i with
 |false=>rfl
 |true=>rw[wH e]at h;cases h
def Up(rs:List Mx.D):Prop:=(rs.map cW).Pairwise λa b=>Mx.D.lt a b=true
theorem Up.nodup{rs:List Mx.D}(h:Up rs):(rs.map cW).Nodup:=List.Pairwise.imp (λ {a b} z e=>by subst e;rw[Mx.D.lt_irrefl]at z;cases z) h
theorem Up.sort{rs:List Mx.D}(h:Up rs)(hs:∀r∈rs,∃i k,r=row i k):aO rs=rs:=by
 have h1:rs.Pairwise λa b=>Mx.D.lt a b=true:=by
  have h2:rs.Pairwise λa b=>Mx.D.lt (cW a) (cW b)=true:=Su.mp h
  refine List.Pairwise.imp_of_mem (λ {a b} ha hb z=>?_) h2;obtain⟨i,k,rfl⟩:=hs a ha;obtain⟨j,l,rfl⟩:=hs b hb;exact wH z
 have hn:rs.Nodup:=List.Pairwise.imp (λ {a b} z e=>by subst e;rw[Mx.D.lt_irrefl]at z;cases z) h1;exact jY (oI hn) h1 λx=>dO
theorem Up.La{rs:List Mx.D}(h:Up rs)(hs:∀r∈rs,∃i k,r=row i k):aX rs=rs:=by unfold aX;rw[h.sort hs,nP h.nodup hs]
theorem pJ{ms:List Mx.D}(hn:(ms.map cW).Nodup)(hs:∀r∈ms,∃i k,r=row i k):aX ms=aO ms:=by unfold aX;exact nP (((bN ms).map cW).nodup_iff.mpr hn) λr hr=>hs r (dO.mp hr)
theorem jt(ms:List Mx.D):(aX ms).length<=ms.length:=by
 unfold aX;have:=(bN ms).length_eq;cases h:aO ms with
 |nil=>simp[kD]
 |cons r rs=>rw[h]at this;rw[<-this];exact lL rs _ _
theorem zO{ms:List Mx.D}(hs:∀r∈ms,∃i k,r=row i k):Up (aX ms):=by
 unfold aX Up;have h1:=gJ ms;have uP:∀r∈aO ms,∃i k,r=row i k:=λr hr=>hs r (dO.mp hr)
 cases h:aO ms with
 |nil=>exact .nil
 |cons r rs=>
  rw[h]at h1 uP;show ((gr (cW r) (pA r) rs).map cW).Pairwise _;rw[gk];have le:∀{a b:Mx.D},(∃i k,a=row i k)->(∃i k,b=row i k)->iT a b=true->iT (cW a) (cW b)=true:=λ {a b} ⟨i,k,e⟩ ⟨j,l,e'⟩ z=>by subst e e';exact DK z
  have h2:=Ss.mp h1;have h3:(rs.map cW).Pairwise λa b=>iT a b=true:=Su.mpr (List.Pairwise.imp_of_mem (λ {a b} ha hb z=>le (uP a (QS _ ha)) (uP b (QS _ hb)) z) h2.2)
  obtain⟨u1,u2⟩:=k6 (p:=some (cW r)) h3 λx hx y e=>by cases e;obtain⟨q,hq,rfl⟩:=Rn.mp hx;exact le (uP r QU) (uP q (QS _ hq)) (h2.1 q hq)
  exact Ss.mpr ⟨λx hx=>u2 x hx _ rfl,u1⟩
theorem kC{S:Mx.D->Prop}(hS:∀it c d,S (row it c)->0<c->0<d->S (row it (c+d))){ms:List Mx.D}(hs:∀r∈ms,S r/\∃i k,r=row i k/\0<k):∀r∈aX ms,S r/\∃i k,r=row i k/\0<k:=by
 unfold aX;have uP:∀r∈aO ms,S r/\∃i k,r=row i k/\0<k:=λr hr=>hs r (dO.mp hr)
 cases h:aO ms with
 |nil=>intro r hr;cases hr
 |cons q rs=>rw[h]at uP;obtain⟨h1,i,k,e,hk⟩:=uP q QU;subst e;exact lM hS rs i k h1 hk λr hr=>uP r (QS _ hr)
def F9(t:C):Ts:=(.cons (.ifs (.and t (.cmp .Eq (.idx (.idx (.mvr 1) (.neg (.con (.int 1)))) (.con (.int 0))) (.var 2))) (.cons (.uw 1 (.neg (.con (.int 1))) (.tup (.cons (.var 2) (.cons (.bin .Add (.idx (.idx (.mvr 1) (.neg (.con (.int 1)))) (.con (.int 1))) (.var 3)) .nil)))) .nil) (.cons (.app 1 (.tup (.cons (.var 2) (.cons (.var 3) .nil)))) .nil)) .nil)
def JH(t:C):Ts:=(.cons (.asgM 1 (.lst .nil)) (.cons (.fr (.tp [2,3]) (.seq (.bi .sorted (.cons (.var 0) .nil))) (F9 t)) (.cons (.ret (.bi .tuple (.cons (.mvr 1) .nil))) .nil)))
theorem vY{p:List Mx.D}{it:Mx.D}{c:Int}:(kD p=[]/\p=[]/\kD (p++[row it c])=[row it c])\/∃init fR c',kD p=init++[row fR c']/\kD (p++[row it c])=if fR=it then init++[row it (c'+c)] else init++[row fR c']++[row it c]:=by
 cases p with
 |nil=>exact .inl ⟨rfl,rfl,rfl⟩
 |cons r rs=>exact .inr (lN (row it c) rs _ _)
theorem Da{ig:Nat}{t:C}(hf:fs[ig]?=some ⟨1,4,false,JH t⟩){N n L:Nat}{P:Int->Prop}(hN:1<=N)(hn:n<=20){ms:List Mx.D}{d:Dt}(hd:d= .lst (ao ms)\/d= .tup (ao ms))(hl:ms.length<64)(h:∀m∈ms,k9 L P (oW L P n) m)
  (ht:∀(rs:List Mx.D)(x y z:Option Dt),Mx.D.cv rs<=90->aZ (ar fs (N-1)) t [x,some (.lst (ao rs)),y,z] none= .ok (!rs.isEmpty,none)):ar fs N ig [d] none= .ok (.tup (ao (aX ms)),none):=by
 have z9:lim=1000000:=rfl;have hs:cR .sorted [d]= .ok (.lst (ao (aO ms))):=by
  rcases hd with rfl|rfl
  ·exact(ko (BB hn hl h)).1
  ·exact(ko (BB hn hl h)).2
 have yZ:(aO ms).length=ms.length:=(bN ms).length_eq;have NK:∀r∈aO ms,∃it c,r=row it c/\Mx.D.dep it<=82:=λr hr=>by obtain⟨it,c,e,_,hi⟩:=h r (dO.mp hr);have:=vv (λd hd=>qN hd) hi;exact⟨it,c,e,⋯⟩
 have grows:∀{p q:List Mx.D},aO ms=p++q->∀r∈kD p,∃it c,r=row it c/\Mx.D.dep it<=82:=λ {p q} e r hr=>by
  have hi:cW r∈(kD p).map cW:=Rn.mpr ⟨r,hr,rfl⟩;have hp:∀r∈p,∃it c,r=row it c/\Mx.D.dep it<=82:=λr hr=>NK r (by rw[e];exact Sh _ hr)
  have key:cW r∈p.map cW/\∃i c,r=row i c:=by
   cases p with
   |nil=>cases hr
   |cons q0 rs=>
    have hi:cW r∈(gr (cW q0) (pA q0) rs).map cW:=hi;rw[gk]at hi;refine⟨?_,?_⟩
    ·rw[Ry];rcases QZ.mp hi with e|e
     ·rw[e];exact QU
     ·exact QS _ (qu e)
    ·have:∀(rs:List Mx.D)(it:Mx.D)(c:Int),∀r∈gr it c rs,∃i c,r=row i c:=by
      intro rs
      induction rs with
      |nil=>intro it c r hr;simp only[gr,Rm]at hr;exact⟨it,c,hr⟩
      |cons q rs ih=>
       intro it c r hr;rw[gr]at hr;split at hr
       ·exact ih _ _ r hr
       ·rcases QZ.mp hr with e|hr
        ·exact⟨it,c,e⟩
        ·exact ih _ _ r hr
     exact this rs _ _ r hr
  obtain⟨k1,i,c,e⟩:=key;subst e;obtain⟨q1,LL,e1⟩:=Rn.mp k1;obtain⟨i',c',e2,hd⟩:=hp q1 LL;subst e2;rw[bo,bo]at e1;exact⟨i,c,rfl,by rw[<-e1];exact hd⟩
 have loop:=cO (S:=none) (tg:=.tp [2,3]) (body:=aE (ar fs (N-1)) (F9 t)) (ds:=ao (aO ms))
  (ρ:=[some d,some (.lst []),none,none])
  (λpre ρ=>∃p a b,pre=ao p/\ρ=[some d,some (.lst (ao (kD p))),a,b]) ⟨[],none,none,rfl,rfl⟩ (by
   rintro pre x post ρ e ⟨p,a,b,rfl,rfl⟩;obtain⟨p',y,q,e1,e2,rfl,rfl⟩:=qm e;have:=S6 eW e2;rw[cY,cY]at this;cases this;obtain⟨it,c,rfl,hd⟩:=NK y (by rw[e1];simp);have j7:p.length<ms.length:=by rw[<-yZ,e1];simp
   have gl:(kD p).length<=p.length:=by
    cases p with
    |nil=>simp[kD]
    |cons r rs=>exact lL rs _ _
   have gd:Mx.D.cv (kD p)<=90:=gf λd hd=>by obtain⟨i,c,rfl,h⟩:=grows e1 d hd;simp[row,Mx.D.dep,Mx.D.cv];omega
   have Du:=ht (kD p) (some d) (some (ofD it)) (some (.int c)) gd;have eo:ao (p++[row it c])=ao p++[ofD (row it c)]:=by rw[cD];simp[ao]
   have er:ofD (row it c)= .tup [ofD it,.int c]:=by simp[row,ofD,ao]
   refine⟨[some d,some (.lst (ao (kD p))),some (ofD it),some (.int c)],[some d,some (.lst (ao (kD (p++[row it c])))),some (ofD it),some (.int c)],by rw[er];rfl,?_,p++[row it c],some (ofD it),some (.int c),by rw[eo],rfl⟩;rcases vY (p:=p) (it:=it) (c:=c)with ⟨g1,g2,g3⟩|⟨init,fR,c',g1,g2⟩
   ·rw[g1]at Du ⊢;rw[g3];refine wU (by simp only[RX,Du];rfl) (me (ds:=[]) (d:=.tup [ofD it,.int c]) rfl (by simp only[RX]) rfl ∅ ?_);simp[ao,er];rfl
   ·have Qy:Mx.D.dep fR<=82:=by obtain⟨i,k,e,hd⟩:=grows e1 (row fR c') (by rw[g1];simp);have:=S6 cW e;rw[bo,bo]at this;rw[this];exact hd
    have hq:=zA (a:=fR) (b:=it) ⋯;rw[g1]at Du gl ⊢;have eB:(!(init++[row fR c']).isEmpty)=true:=by cases init<;>rfl
    rw[eB]at Du;have el:ao (init++[row fR c'])=ao init++[.tup [ofD fR,.int c']]:=by rw[cD];simp[row,ofD,ao]
    rw[el]at Du ⊢;rw[g2];rw[Q3]at gl;by_cases heq:fR=it
    ·rw[Rh heq]at hq;rw[Ta heq];refine Mj (by simp only[RX,Du,jw,hq,Tb]) (nx (zG (ds:=ao init++[.tup [ofD fR,.int c']]) (d:=.tup [ofD it,.int (c'+c)]) (n:= -1) (j:=init.length) rfl (by simp only[RX,jw]) (by simp only[RX]) rfl (by rw[Q3,bP];exact Aj)) ?_);rw[Bc (ao init) _ _ (bP init).symm,cD];simp[row,ofD,ao];rfl
    ·rw[Rc heq]at hq;rw[S9 heq];refine wU (by simp only[RX,Du,jw,hq,Tb]) (me (ds:=ao init++[.tup [ofD fR,.int c']]) (d:=.tup [ofD it,.int c]) rfl (by simp only[RX]) rfl (by rw[Q3,bP];simp only[Q5,R8]at gl ⊢;omega) ?_);rw[cD (init++_),el];simp[row,ofD,ao];rfl)
 obtain⟨ρ1,kE,p,a,b,e1,rfl⟩:=loop;have:=S6 eW e1;rw[cY,cY]at this;cases this;refine ax hf hN rfl ?_;show fin (aE (ar fs (N-1)) (JH t) [some d,none,none,none] none)=_;exact jq (d:=.lst []) rfl rfl (cV (ds:=ao (aO ms)) (by simp only[RX,hs]) rfl kE (aj (by simp only[RX];rfl)))
theorem MV{F:FT}(rs:List Mx.D)(x y z:Option Dt):aZ F (.mvr 1) [x,some (.lst (ao rs)),y,z] none= .ok (!rs.isEmpty,none):=by cases rs<;>simp[ow,bp,bY,ao]
variable{fs:List Fn}
section
variable{F:FT}{S:Sx}{ρ:ai}
theorem vG(b:BI)(e:C):ev F (.bi b (.cons e .nil)) ρ S=(ev F e ρ S).bind λx=>(cR b [x.1]).bind λd=>.ok (d,x.2):=by simp only[RX];cases ev F e ρ S<;>rfl
theorem nE{f:Dt->Sx->R (List Dt×Sx)}{g:Mx.D->Dt}:∀{ms:List Mx.D},(∀m∈ms,f (ofD m) S= .ok ([g m],S))->cU f (ao ms) S= .ok (ms.map g,S)
 |[],_=>rfl
 |m::ms,h=>by rw[ao,cU,h m QU,R.ah,nE λy hy=>h y (QS _ hy)];rfl
end
def Ij:Mx.D->List Mx.D
 |.tup rs=>rs
 |_=>[]
theorem Bd{ρ:ai}{i j:Nat}(it:Mx.D)(c:Int):eT (.tp [i,j]) (ofD (row it c)) ρ= .ok ((ρ.set i (some (ofD it))).set j (some (.int c))):=by
 have e:ofD (row it c)= .tup [ofD it,.int c]:=by simp[row,ofD,ao]
 rw[e];rfl
variable{fs:List Fn}
abbrev Pos(c:Int):Prop:=0<c
abbrev Kt(c:Int):Prop:=0<c/\c<18446744073709551616
def mulR(c:Int)(f:Mx.D):List Mx.D:=(Ij f).map λr=>row (cW r) (c*pA r)
def lp:Ts:=(.cons (.ifs (.cmp .Eq (.var 0) (.con (.int 0))) (.cons (.ret (.tup .nil)) .nil) .nil) (.cons (.ret (.bi .tuple (.cons (.comp [none,none,none,some 0] (.seq (.var 1)) (.tp [1,2]) .nil (.tup (.cons (.var 1) (.cons (.bin .Mult (.var 3) (.var 2)) .nil)))) .nil))) .nil))
theorem iV(rs:List Mx.D):ofD (.tup rs)= .tup (ao rs):=by simp[ofD]
theorem Ax(it:Mx.D)(c:Int):ofD (row it c)= .tup [ofD it,.int c]:=by simp[row,ofD,ao]
theorem wL{F:FT}{c:Int}{L k:Nat}{P:Int->Prop}{rs:List Mx.D}(hc:Kt c)(hr:∀r∈rs,k9 L P (oW L P k) r):
  cU (dQ (.tp [1,2]) (fu F .nil) (nv F (.tup (.cons (.var 1) (.cons (.bin .Mult (.var 3) (.var 2)) .nil)))) [none,none,none,some (.int c)]) (ao rs) none= .ok (ao (mulR c (.tup rs)),none):=by
 have e:ao (mulR c (.tup rs))=rs.map λr=>ofD (row (cW r) (c*pA r)):=by unfold mulR;rw[cF,Sf];rfl
 rw[e];refine nE λr h=>?_
 obtain⟨it,d,rfl,_,_⟩:=hr r h;have m1:=bK (i:=c) (j:=d) (.inl (by have:=hc.1;have:=hc.2;omega));exact yy (ρ1:=[none,some (ofD it),some (.int d),some (.int c)]) (by rw[Bd];rfl) (by simp only[RX,m1,bo,fO,Ax]) rfl
theorem yx{it N L k:Nat}{P:Int->Prop}(hf:fs[it]?=some ⟨2,2,false,lp⟩)(hN:1<=N)(hL:L<=lim){c:Int}(hc:Kt c){f:Mx.D}(h:oW L P k f):ar fs N it [.int c,ofD f] none= .ok (.tup (ao (mulR c f)),none):=by
 obtain⟨k,rfl⟩:∃j,k=j+1:=by cases k with|zero=>exact h.elim|succ m=>exact⟨m,rfl⟩
 obtain⟨rs,e,hl,hr⟩:=h;subst e;refine ax hf hN rfl ?_;show fin (aE (ar fs (N-1)) lp [some (.int c),some (ofD (.tup rs))] none)=_;rw[iV];have c0:(c==0)=false:=SZ.mpr (by have:=hc.1;omega);refine aF (by simp only[RX,c0]) (aj ?_);have GW:=zE (F:=ar fs (N-1)) (cap:=[none,none,none,some 0]) (it:=.seq (.var 1)) (tg:=.tp [1,2]) (cs:=.nil) (e:=.tup (.cons (.var 1) (.cons (.bin .Mult (.var 3) (.var 2)) .nil))) (ρ:=[some (.int c),some (.tup (ao rs))]) (S:=none) (ds:=ao rs) rfl (by rw[bP];omega) rfl (wL hc hr);rw[vG,GW];rfl
variable{F:FT}{ρ:ai}{S:Sx}
def tx(l:List Nat):Str:=⟨l.toArray⟩
theorem b5(l:List Nat):(tx l).length=l.length:=by simp[tx,Str.length]
theorem bZ(l:List Nat):(tx l).cps.toList=l:=by simp[tx]
theorem kZ(z:Str):tx z.cps.toList=z:=by simp[tx]
theorem E7(a b:List Nat):tx a++tx b=tx (a++b):=by show (⟨a.toArray++b.toArray⟩:Str)=_;simp[tx]
theorem E8{a b:List Nat}(h:tx a=tx b):a=b:=by have:=S6 (λz:Str=>z.cps.toList) h;simpa [tx]using this
theorem yz(a b:List Nat):(tx a==tx b)=(a==b):=by
 by_cases h:a=b
 ·subst h;simp
 ·rw[SZ.mpr h,SZ.mpr λe=>h (E8 e)]
theorem lR(n i j:Nat):Builtin.Str.strSliceIndices (some (i:Int)) (some (j:Int)) 1 n=Builtin.Str.strSliceIndices (some ((min i n:Nat):Int)) (some ((min j n:Nat):Int)) 1 n:=by
 have a:∀k:Nat,¬((k:Int)<0):=λk=>by omega
 have e:∀k:Nat,max (0:Int) (min (k:Int) (n:Int))=max (0:Int) (min ((min k n:Nat):Int) (n:Int)):=λk=>by omega
 simp only[Builtin.Str.strSliceIndices,S9 (a _),show (1:Int)>0 by decide,Tb];rw[e i,e j]
theorem lA(x:Str){i j:Nat}(h:i<=j):PySem.Txt.slice x (some (i:Int)) (some (j:Int))=tx ((x.cps.toList.drop i).take (j-i)):=by
 have hl:x.cps.toList.length=x.length:=by simp[Str.length]
 unfold PySem.Txt.slice;rw[lR];refine(PySem.StrLaws.sliceText_nat x (a:=min i x.length) (b:=min j x.length) ⋯ ⋯).trans ?_;show tx _=tx _;congr 1;by_cases hi:i<=x.length
 ·rw[Nat.min_eq_left hi];by_cases hj:j<=x.length
  ·rw[Nat.min_eq_left hj]
  ·rw[Sy (by rw[R7];omega),Sy (by rw[R7];omega)]
 ·rw[List.drop_eq_nil_of_le ⋯,List.drop_eq_nil_of_le ⋯,List.take_nil,List.take_nil]
theorem lE{a l h:C}{z:List Nat}{i j:Nat}(hz:z.length<=1000)(we:i<=j)(ha:ev F a ρ S= .ok (.str (tx z),S))(hl:ev F l ρ S= .ok (.int i,S))(hh:ev F h ρ S= .ok (.int j,S)):ev F (.sliB a l h) ρ S= .ok (.str (tx ((z.drop i).take (j-i))),S):=by rw[oA,ha,R.ah,hl,R.ah];simp only[hh,R.ah];show (ae (decide ((tx z).length<=lim)) _).bind _=_;rw[b5,Rh (QY hz ‹_›),guard_true,R.ah,lA _ we,bZ]
theorem BU{a b:List Nat}:bL .LtE (.str (tx a)) (.str (tx b))= .ok (!decide (b<a)):=by show R.ok (!decide ((tx b).cps.toList<(tx a).cps.toList))=_;rw[bZ,bZ]
theorem wB(a b:Nat):(!decide ([b]<[a]))=decide (a<=b):=by
 have:([b]<[a])↔b<a:=by
  constructor
  ·intro h;cases h with
   |rel h=>exact h
   |cons h=>cases h
  ·exact λh=>List.Lex.rel h
 rw[decide_eq_decide.mpr this];by_cases h:a<=b
 ·rw[Rh h,Rc ⋯];rfl
 ·rw[Rc h,Rh ⋯];rfl
theorem Hm{z l:List Nat}{c k:Nat}(hz:z.length<=1000)(h:z.drop k=c::l):cw (.str (tx z)) (.int k)= .ok (.str (tx [c])):=by
 have hk:k<z.length:=by have:=S6 List.length h;rw[R7,Q5]at this;omega
 rw[gp (d:=0) (by rw[b5];exact QY hz ‹_›) (by rw[b5];exact hk),bZ];have e:z.getD k 0=c:=by rw[RW hk]at h;rw[R1,Rb hk];exact(List.cons.inj h).1
 rw[e];rfl
end Rx
end
section
namespace Rx
inductive Tm(W N:Type)where
 |nil|any (w:W)|th0 (w:W)|th1 (w:W) (a:Tm W N)|th2 (w:W) (a b:Tm W N)|th3 (w:W) (a b c:Tm W N)|plus (a b:Tm W N)|times (n:N) (a:Tm W N)
 deriving DecidableEq
def Tm.map{W N W' N':Type}(f:W->W')(g:N->N'):Tm W N->Tm W' N'
 |.nil=>.nil
 |.any w=>.any (f w)
 |.th0 w=>.th0 (f w)
 |.th1 w a=>.th1 (f w) (a.map f g)
 |.th2 w a b=>.th2 (f w) (a.map f g) (b.map f g)
 |.th3 w a b c=>.th3 (f w) (a.map f g) (b.map f g) (c.map f g)
 |.plus a b=>.plus (a.map f g) (b.map f g)
 |.times n a=>.times (g n) (a.map f g)
def BY{W N:Type}(w:W):List (Tm W N)->Tm W N
 |[]=>.th0 w
 |[a]=>.th1 w a
 |[a,b]=>.th2 w a b
 |a::b::c::_=>.th3 w a b c
structure Lx(σ W N:Type)where
 is0:σ->Option σ
 op:σ->Option σ
 cl:σ->Option σ
 pl:σ->Option σ
 cm:σ->Option σ
 num:σ->Option (N×σ)
 low:σ->Option (Option (W×σ))
 upp:σ->Option (Option (W×σ))
section
variable{σ W N:Type}(X:Lx σ W N)
abbrev Pr(σ W N:Type):=σ->Option (Tm W N×σ)
def fH(part:Pr σ W N):Nat->Tm W N->σ->Option (Tm W N×σ)
 |0,_,_=>none
 |k+1,f,l=>match X.pl l with
  |none=>some (f,l)
  |some r=>(part r).bind λp=>fH part k (.plus f p.1) p.2
def jI(sum:Pr σ W N):Nat->List (Tm W N)->σ->Option (List (Tm W N)×σ)
 |0,fs,l=>some (fs,l)
 |k+1,fs,l=>match X.cm l with
  |none=>some (fs,l)
  |some r=>(sum r).bind λp=>jI sum k (fs++[p.1]) p.2
def D9(sum:Pr σ W N)(most:Nat)(l:σ):Option (List (Tm W N)×σ):=
 (sum l).bind λp=>(jI X sum (most-1) [p.1] p.2).bind λq=>(X.cl q.2).map λr=>(q.1,r)
def pThing(br:Nat->σ->Option (List (Tm W N)×σ))(w:W)(r:σ):Option (Tm W N×σ):=match X.op r with
 |none=>some (.th0 w,r)
 |some r2=>(br 3 r2).map λp=>(BY w p.1,p.2)
def ix(br:Nat->σ->Option (List (Tm W N)×σ)):Pr σ W N:=λl=>match X.op l with
 |some r=>(br 1 r).map λp=>(p.1.headD .nil,p.2)
 |none=>(X.low l).bind λo=>match o with
  |some q=>some (.any q.1,q.2)
  |none=>(X.upp l).bind λo=>o.bind λq=>pThing X br q.1 q.2
def cX(br:Nat->σ->Option (List (Tm W N)×σ)):Pr σ W N:=λl=>match X.is0 l with
 |some r=>some (.nil,r)
 |none=>(X.num l).bind λp=>(ix X br p.2).map λq=>(.times p.1 q.1,q.2)
def fI(br:Nat->σ->Option (List (Tm W N)×σ)):Pr σ W N:=λl=>(cX X br l).bind λp=>fH X (cX X br) 1000 p.1 p.2
def Nd(o:Option (Pr σ W N)):Nat->σ->Option (List (Tm W N)×σ):=match o with
 |none=>λ_ _=>none
 |some s=>D9 X s
def gB:Nat->Pr σ W N
 |0=>fI X (Nd X none)
 |d+1=>fI X (Nd X (some (gB d)))
end
section
variable{σ W N σ' W' N':Type}{X:Lx σ W N}{Y:Lx σ' W' N'}{g:σ'->σ}{fw:W'->W}{fn:N'->N}{G:σ'->Prop}
structure M9(X:Lx σ W N)(Y:Lx σ' W' N')(g:σ'->σ)(fw:W'->W)(fn:N'->N)(G:σ'->Prop):Prop where
 is0:∀t,G t->X.is0 (g t)=(Y.is0 t).map g/\∀r,Y.is0 t=some r->G r
 op:∀t,G t->X.op (g t)=(Y.op t).map g/\∀r,Y.op t=some r->G r
 cl:∀t,G t->X.cl (g t)=(Y.cl t).map g/\∀r,Y.cl t=some r->G r
 pl:∀t,G t->X.pl (g t)=(Y.pl t).map g/\∀r,Y.pl t=some r->G r
 cm:∀t,G t->X.cm (g t)=(Y.cm t).map g/\∀r,Y.cm t=some r->G r
 num:∀t,G t->Y.is0 t=none->X.num (g t)=(Y.num t).map (λp=>(fn p.1,g p.2))/\∀p,Y.num t=some p->G p.2
 low:∀t,G t->X.low (g t)=(Y.low t).map (Option.map λp=>(fw p.1,g p.2))/\∀p,Y.low t=some (some p)->G p.2
 upp:∀t,G t->X.upp (g t)=(Y.upp t).map (Option.map λp=>(fw p.1,g p.2))/\∀p,Y.upp t=some (some p)->G p.2
abbrev mp(g:σ'->σ)(fw:W'->W)(fn:N'->N):Tm W' N'×σ'->Tm W N×σ:=λp=>(p.1.map fw fn,g p.2)
abbrev J2(g:σ'->σ)(fw:W'->W)(fn:N'->N):List (Tm W' N')×σ'->List (Tm W N)×σ:=λp=>(p.1.map (Tm.map fw fn),g p.2)
def Sm(g:σ'->σ)(fw:W'->W)(fn:N'->N)(G:σ'->Prop)(p:Pr σ W N)(q:Pr σ' W' N'):Prop:=∀t,G t->p (g t)=(q t).map (mp g fw fn)/\∀r,q t=some r->G r.2
def JB(g:σ'->σ)(fw:W'->W)(fn:N'->N)(G:σ'->Prop)(p:Nat->σ->Option (List (Tm W N)×σ))(q:Nat->σ'->Option (List (Tm W' N')×σ')):Prop:=∀k t,G t->p k (g t)=(q k t).map (J2 g fw fn)/\∀r,q k t=some r->G r.2
variable(H:M9 X Y g fw fn G)
include H
theorem sH{p:Pr σ W N}{q:Pr σ' W' N'}(h:Sm g fw fn G p q):∀(k:Nat)(f:Tm W' N')(t:σ'),G t->fH X p k (f.map fw fn) (g t)=(fH Y q k f t).map (mp g fw fn)/\∀r,fH Y q k f t=some r->G r.2
 |0,_,_,_=>⟨rfl,λ_ e=>by cases e⟩
 |k+1,f,t,ht=>by
  unfold fH;obtain⟨e,hr⟩:=H.pl t ht;rw[e];cases hp:Y.pl t with
  |none=>exact⟨rfl,λr e=>by cases e;exact ht⟩
  |some r=>
   obtain⟨e1,h1⟩:=h r (hr r hp);simp only[Option.map_some,e1];cases hq:q r with
   |none=>exact⟨rfl,λ_ e=>by cases e⟩
   |some v=>exact sH h k (.plus f v.1) v.2 (h1 v hq)
theorem yg{p:Pr σ W N}{q:Pr σ' W' N'}(h:Sm g fw fn G p q):∀(k:Nat)(f:List (Tm W' N'))(t:σ'),G t->jI X p k (f.map (Tm.map fw fn)) (g t)=(jI Y q k f t).map (J2 g fw fn)/\∀r,jI Y q k f t=some r->G r.2
 |0,_,t,ht=>⟨rfl,λr e=>by cases e;exact ht⟩
 |k+1,f,t,ht=>by
  unfold jI;obtain⟨e,hr⟩:=H.cm t ht;rw[e];cases hp:Y.cm t with
  |none=>exact⟨rfl,λr e=>by cases e;exact ht⟩
  |some r=>
   obtain⟨e1,h1⟩:=h r (hr r hp);simp only[Option.map_some,e1];cases hq:q r with
   |none=>exact⟨rfl,λ_ e=>by cases e⟩
   |some v=>have:=yg h k (f++[v.1]) v.2 (h1 v hq);rw[Rz]at this;exact this
theorem II{p:Pr σ W N}{q:Pr σ' W' N'}(h:Sm g fw fn G p q):JB g fw fn G (D9 X p) (D9 Y q):=λk t ht=>by
 unfold D9;obtain⟨e1,h1⟩:=h t ht;rw[e1];cases hq:q t with
 |none=>exact⟨rfl,λ_ e=>by cases e⟩
 |some v=>
  obtain⟨e2,h2⟩:=yg H h (k-1) [v.1] v.2 (h1 v hq);simp only[Option.map_some,Option.bind_some];rw[show [v.1.map fw fn]=[v.1].map (Tm.map fw fn) from rfl,e2];cases hc:jI Y q (k-1) [v.1] v.2 with
  |none=>exact⟨rfl,λ_ e=>by cases e⟩
  |some w=>
   obtain⟨e3,h3⟩:=H.cl w.2 (h2 w hc);simp only[Option.map_some,Option.bind_some,e3];cases hl:Y.cl w.2 with
   |none=>exact⟨rfl,λ_ e=>by cases e⟩
   |some r=>exact⟨rfl,λ_ e=>by cases e;exact h3 r hl⟩
theorem DP(w:W')(l:List (Tm W' N')):BY (fw w) (l.map (Tm.map fw fn))=(BY w l).map fw fn:=by rcases l with _|⟨a,_|⟨b,_|⟨c,l⟩⟩⟩<;>rfl
theorem Bg{p:Nat->σ->Option (List (Tm W N)×σ)}{q:Nat->σ'->Option (List (Tm W' N')×σ')}(h:JB g fw fn G p q):Sm g fw fn G (ix X p) (ix Y q):=λt ht=>by
 unfold ix;obtain⟨e1,h1⟩:=H.op t ht;rw[e1];cases ho:Y.op t with
 |some r=>
  obtain⟨e2,h2⟩:=h 1 r (h1 r ho);simp only[Option.map_some,e2];cases hb:q 1 r with
  |none=>exact⟨rfl,λ_ e=>by cases e⟩
  |some v=>exact⟨by cases hv:v.1<;>simp[hv,Tm.map,mp,J2],λ_ e=>by cases e;exact h2 v hb⟩
 |none=>
  obtain⟨e2,h2⟩:=H.low t ht;simp only[Option.map_none,e2];cases hl:Y.low t with
  |none=>exact⟨rfl,λ_ e=>by cases e⟩
  |some o=>
   cases o with
   |some v=>exact⟨rfl,λ_ e=>by cases e;exact h2 v hl⟩
   |none=>
    obtain⟨e3,h3⟩:=H.upp t ht;simp only[Option.map_some,Option.bind_some,Option.map_none,e3];cases hu:Y.upp t with
    |none=>exact⟨rfl,λ_ e=>by cases e⟩
    |some o=>
     cases o with
     |none=>exact⟨rfl,λ_ e=>by cases e⟩
     |some v=>
      simp only[Option.map_some,Option.bind_some];unfold pThing;obtain⟨e4,h4⟩:=H.op v.2 (h3 v hu);rw[e4];cases hv:Y.op v.2 with
      |none=>exact⟨rfl,λ_ e=>by cases e;exact h3 v hu⟩
      |some r=>
       obtain⟨e5,h5⟩:=h 3 r (h4 r hv);simp only[Option.map_some,e5];cases hb:q 3 r with
       |none=>exact⟨rfl,λ_ e=>by cases e⟩
       |some u=>exact⟨by simp only[Option.map_some,J2,mp];rw[DP H],λ_ e=>by cases e;exact h5 u hb⟩
theorem sI{p:Nat->σ->Option (List (Tm W N)×σ)}{q:Nat->σ'->Option (List (Tm W' N')×σ')}(h:JB g fw fn G p q):Sm g fw fn G (cX X p) (cX Y q):=λt ht=>by
 unfold cX;obtain⟨e1,h1⟩:=H.is0 t ht;rw[e1];cases h0:Y.is0 t with
 |some r=>exact⟨rfl,λ_ e=>by cases e;exact h1 r h0⟩
 |none=>
  obtain⟨e2,h2⟩:=H.num t ht h0;simp only[Option.map_none,e2];cases hn:Y.num t with
  |none=>exact⟨rfl,λ_ e=>by cases e⟩
  |some v=>
   obtain⟨e3,h3⟩:=Bg H h v.2 (h2 v hn);simp only[Option.map_some,Option.bind_some,e3];cases ho:ix Y q v.2 with
   |none=>exact⟨rfl,λ_ e=>by cases e⟩
   |some u=>exact⟨rfl,λ_ e=>by cases e;exact h3 u ho⟩
theorem sJ{p:Nat->σ->Option (List (Tm W N)×σ)}{q:Nat->σ'->Option (List (Tm W' N')×σ')}(h:JB g fw fn G p q):Sm g fw fn G (fI X p) (fI Y q):=λt ht=>by
 unfold fI;obtain⟨e1,h1⟩:=sI H h t ht;rw[e1];cases hq:cX Y q t with
 |none=>exact⟨rfl,λ_ e=>by cases e⟩
 |some v=>exact sH H (sI H h) 1000 v.1 v.2 (h1 v hq)
theorem ql:∀d:Nat,Sm g fw fn G (gB X d) (gB Y d)
 |0=>sJ H λ_ _ _=>⟨rfl,λ_ e=>by cases e⟩
 |d+1=>sJ H (II H (ql d))
end
end Rx
end
section
namespace Rx
open PySem PySem.W PySem.Spec PyProof.Rows L2
abbrev TM:=Tm (List Nat) Nat
def lit(s l:List Nat):Option (List Nat):=if l.take s.length=s then some (l.drop s.length) else none
def run(lo hi:Nat)(l:List Nat):List Nat:=l.takeWhile λc=>decide (lo<=c)&&decide (c<=hi)
def kg(l:List Nat):Option (Nat×List Nat):=if run 48 57 l=[] then some (1,l) else if 18<(run 48 57 l).length then none else some (PySem.NumText.digitsVal (run 48 57 l),l.drop (run 48 57 l).length)
def j5(lo hi:Nat)(l:List Nat):Option (Option (List Nat×List Nat)):=if 6<(run lo hi l).length then none else some (if run lo hi l=[] then none else some (run lo hi l,l.drop (run lo hi l).length))
def dy:Lx (List Nat) (List Nat) Nat:=⟨lit [48],lit [40],lit [41],lit [32,43,32],lit [44,32],kg,j5 97 122,j5 65 90⟩
def val:TM->List Mx.D
 |.nil=>[]
 |.any w=>[row (bQ (tx w)) 1]
 |.th0 w=>[row (ofT (tx w) []) 1]
 |.th1 w a=>[row (ofT (tx w) [.tup (val a)]) 1]
 |.th2 w a b=>[row (ofT (tx w) [.tup (val a),.tup (val b)]) 1]
 |.th3 w a b c=>[row (ofT (tx w) [.tup (val a),.tup (val b),.tup (val c)]) 1]
 |.plus a b=>aX (val a++val b)
 |.times n a=>mulR n (.tup (val a))
theorem mE(lo hi:Nat)(l:List Nat):(run lo hi l).length<=l.length:=(List.takeWhile_sublist _).length_le
theorem mD(lo hi:Nat)(l:List Nat):l.take (run lo hi l).length=run lo hi l:=by unfold run;exact(List.prefix_iff_eq_take.mp (List.takeWhile_prefix _)).symm
theorem mF{lo hi c:Nat}:∀{l:List Nat},c∈run lo hi l->lo<=c/\c<=hi
 |[],h=>by cases h
 |x::l,h=>by
  unfold run at h;rw[List.takeWhile_cons]at h;split at h
  ·rename_i e;rcases QZ.mp h with rfl|h
   ·simpa using e
   ·exact mF h
  ·cases h
def ps(z l:List Nat):Nat:=z.length-l.length
section
variable{z l:List Nat}
theorem gD(h:l <:+ z):z.drop (ps z l)=l:=(List.suffix_iff_eq_drop.mp h).symm
theorem B5(h:l <:+ z):ps z l+l.length=z.length:=by have:=h.length_le;unfold ps;omega
theorem c9(h:l <:+ z){k:Nat}(hk:k<=l.length):ps z (l.drop k)=ps z l+k:=by have:=h.length_le;unfold ps;rw[R7];omega
theorem cz{s l r:List Nat}(h:lit s l=some r):r=l.drop s.length/\s.length<=l.length/\l=s++r:=by
 unfold lit at h;split at h
 ·rename_i e;cases h;refine⟨rfl,?_,?_⟩
  ·have:=S6 List.length e;rw[Se]at this;omega
  ·rw[<-e,Se]
   conv=>lhs;rw[<-Sw s.length l]
   congr 1;by_cases h2:s.length<=l.length
   ·rw[Nat.min_eq_left h2]
   ·rw[List.drop_eq_nil_of_le ⋯,List.drop_eq_nil_of_le ⋯]
 ·cases h
theorem wD(s l:List Nat):(l.take s.length==s)=(lit s l).isSome:=by
 unfold lit;by_cases h:l.take s.length=s
 ·rw[Ta h,h];simp
 ·rw[S9 h,SZ.mpr h];rfl
end
variable{fs:List Fn}{F:FT}{ρ:ai}{S:Sx}
theorem cJ{t:T}{ts:Ts}{k:Nat}(h:ex F t ρ S= .ex k):fin (aE F (.cons t ts) ρ S)= .ex k:=by rw[aV,h];rfl
theorem eM{ts:Ts}{k:Nat}{vs:List Nat}(h:vs.all (tZ ρ)=true):fin (aE F (.cons (.rs k vs) ts) ρ S)= .ex k:=cJ (by rw[xR,h];rfl)
theorem bG{i j:Nat}{c:C}{a b:Dt}(hc:lk c=0)(h:ev F c ρ S= .ok (.tup [a,b],none)):ex F (.asgT [i,j] c) ρ S= .ok (.next,(ρ.set i (some a)).set j (some b),none):=by rw[eS,h,R.ah];unfold cG;rw[hc];rfl
theorem bS{is:List Nat}{c:C}{k:Nat}(h:ev F c ρ S= .ex k):ex F (.asgT is c) ρ S= .ex k:=by rw[eS,h];rfl
theorem qR{i:Nat}{c:C}{k:Nat}(h:ev F c ρ S= .ex k):ex F (.asg i c) ρ S= .ex k:=by rw[i7,h];rfl
theorem pF{t:T}{ts:Ts}{k:Nat}(h:ex F t ρ S= .ex k):aE F (.cons t ts) ρ S= .ex k:=by rw[aV,h];rfl
theorem g9{ρ:ai}{i n:Nat}(h:ρ[i]?=some (some (.int (n:Int))))(hn:n<10^19):tZ ρ i=true:=by unfold tZ;rw[h];simp;omega
theorem BH{z l s:List Nat}{i:Nat}{k:Int}(hz:z.length<=1000)(hl:l <:+ z)(hk:k=s.length)(h0:bp ρ 0= .ok (.str (tx z)))(h1:bp ρ i= .ok (.int (ps z l:Nat))):
  ev F (.sliB (.var 0) (.var i) (.bin .Add (.var i) (.con (.int k)))) ρ S= .ok (.str (tx (l.take s.length)),S):=by
 have:=lE (F:=F) (ρ:=ρ) (S:=S) (a:=.var 0) (l:=.var i) (h:=.bin .Add (.var i) (.con (.int k))) (z:=z) (i:=ps z l) (j:=ps z l+s.length) hz ⋯ (by simp only[RX,h0]) (by simp only[RX,h1]) (by simp only[RX,h1];rw[hk];rfl);rw[this,gD hl,Nat.add_sub_cancel_left]
theorem jo{z l s:List Nat}{i:Nat}{k:Int}(hz:z.length<=1000)(hl:l <:+ z)(hk:k=s.length)(h0:bp ρ 0= .ok (.str (tx z)))(h1:bp ρ i= .ok (.int (ps z l:Nat))):
  aZ F (.cmp .Eq (.sliB (.var 0) (.var i) (.bin .Add (.var i) (.con (.int k)))) (.con (.str (tx s)))) ρ S= .ok ((lit s l).isSome,S):=by
 simp only[RX,BH hz hl hk h0 h1,yz,wD]
def jf:Ts:=(.cons (.asg 4 (.var 1)) (.cons (.wh (.and (.cmp .Lt (.var 4) (.bi .len (.cons (.var 0) .nil))) (.ch .LtE .LtE (.var 2) (.idx (.var 0) (.var 4)) (.var 3))) (.cons (.aug 4 (.con (.int 1))) .nil)) (.cons (.ret (.var 4)) .nil)))
theorem kR{z:List Nat}{a lo hi:Nat}(hz:z.length<=1000):∀(n:Nat)(l:List Nat),l <:+ z->l.length<n->
  iB (aZ F (.and (.cmp .Lt (.var 4) (.bi .len (.cons (.var 0) .nil))) (.ch .LtE .LtE (.var 2) (.idx (.var 0) (.var 4)) (.var 3)))) (aE F (.cons (.aug 4 (.con (.int 1))) .nil)) n
   [some (.str (tx z)),some (.int a),some (.str (tx [lo])),some (.str (tx [hi])),some (.int (ps z l:Nat))] none=
  .ok (.next,[some (.str (tx z)),some (.int a),some (.str (tx [lo])),some (.str (tx [hi])),some (.int ((ps z l+(run lo hi l).length:Nat)))],none)
 |0,_,_,h=>by omega
 |n+1,l,hl,hn=>by
  have hp:=B5 hl;have hlen:=len_str (z:=tx z) (by rw[b5];exact QY hz ‹_›);rw[b5]at hlen;rw[iB];cases l with
  |nil=>have t:decide ((ps z []:Int)<(z.length:Int))=false:=Rc (by simp at hp;omega);simp only[RX,hlen,t];rfl
  |cons c l=>
   have t:decide ((ps z (c::l):Int)<(z.length:Int))=true:=Rh (by simp at hp;omega);have LB:=Hm hz (gD hl);have e:(c::l).drop 1=l:=rfl;have zZ:l <:+ z:=(List.suffix_cons c l).trans hl;have yY:ps z l=ps z (c::l)+1:=by have:=c9 hl (k:=1) ∅;exact this
   have tt:aZ F (.ch .LtE .LtE (.var 2) (.idx (.var 0) (.var 4)) (.var 3)) [some (.str (tx z)),some (.int a),some (.str (tx [lo])),some (.str (tx [hi])),some (.int (ps z (c::l):Nat))] none= .ok (decide (lo<=c)&&decide (c<=hi),none):=by rw[sg];simp only[RX,LB,BU,wB];cases decide (lo<=c)<;>simp[BU,wB,RX]
   simp only[RX,hlen,t,Tb,tt];cases hb:(decide (lo<=c)&&decide (c<=hi)) with
   |false=>
    have:run lo hi (c::l)=[]:=by unfold run;rw[List.takeWhile_cons,hb];rfl
    rw[this];rfl
   |true=>
    have er:run lo hi (c::l)=c::run lo hi l:=by unfold run;rw[List.takeWhile_cons,hb];rfl
    rw[Ta rfl,aV,sr];simp only[RX];rw[show aE F .nil [some (Dt.str (tx z)),some (.int a),some (.str (tx [lo])),some (.str (tx [hi])),some (.int ((ps z (c::l):Int)+1))] none= .ok (.next,[some (Dt.str (tx z)),some (.int a),some (.str (tx [lo])),some (.str (tx [hi])),some (.int ((ps z (c::l):Int)+1))],none) from rfl];simp only[R.ah];have:=kR (a:=a) (lo:=lo) (hi:=hi) hz n l zZ (by simp at hn;omega);rw[show (ps z (c::l):Int)+1=(ps z l:Nat) by omega,this,er,yY];rw[Q5,show ps z (c::l)+1+(run lo hi l).length=ps z (c::l)+((run lo hi l).length+1) by omega]
theorem sA{r:Nat}(hf:fs[r]?=some ⟨4,5,false,jf⟩){N:Nat}(hN:1<=N){z l:List Nat}(hz:z.length<=1000)(hl:l <:+ z)(lo hi:Nat):
  ar fs N r [.str (tx z),.int (ps z l:Nat),.str (tx [lo]),.str (tx [hi])] none= .ok (.int ((ps z l+(run lo hi l).length:Nat)),none):=by
 refine ax hf hN rfl ?_;show fin (aE (ar fs (N-1)) jf [some (.str (tx z)),some (.int (ps z l:Nat)),some (.str (tx [lo])),some (.str (tx [hi])),none] none)=_;refine aA (d:=.int (ps z l:Nat)) (by simp only[RX]) rfl (aQ (by rw[hU];exact kR hz iA l hl (by have:=hl.length_le;unfold iA;omega)) (aj (by simp only[RX])))
variable{fs:List Fn}{F:FT}{ρ:ai}{S:Sx}
def nu(r k:Nat):Ts:=(.cons (.asg 4 (.call r (.cons (.var 0) (.cons (.var 1) (.cons (.var 2) (.cons (.var 3) .nil)))) [])) (.cons (.ifs (.cmp .Gt (.bin .Sub (.var 4) (.var 1)) (.con (.int 6))) (.cons (.rs k [1]) .nil) .nil) (.cons (.ret (.var 4)) .nil)))
def zj(r k:Nat):Ts:=(.cons (.asg 2 (.call r (.cons (.var 0) (.cons (.var 1) (.cons (.con (.str "0")) (.cons (.con (.str "9")) .nil)))) [])) (.cons (.ifs (.cmp .Eq (.var 2) (.var 1)) (.cons (.ret (.tup (.cons (.con (.int 1)) (.cons (.var 1) .nil)))) .nil) .nil) (.cons (.ifs (.cmp .Gt (.bin .Sub (.var 2) (.var 1)) (.con (.int 18))) (.cons (.rs k [1]) .nil) .nil) (.cons (.ret (.tup (.cons (.bi .int (.cons (.sliB (.var 0) (.var 1) (.var 2)) .nil)) (.cons (.var 2) .nil)))) .nil))))
section
variable{z l:List Nat}
theorem kO(hz:z.length<=1000):ps z l<10^19:=by unfold ps;omega
theorem sZ{r w k:Nat}(hr:fs[r]?=some ⟨4,5,false,jf⟩)(hf:fs[w]?=some ⟨4,5,false,nu r k⟩){N:Nat}(hN:2<=N)(hz:z.length<=1000)(hl:l <:+ z)(lo hi:Nat):
  ar fs N w [.str (tx z),.int (ps z l:Nat),.str (tx [lo]),.str (tx [hi])] none=if 6<(run lo hi l).length then .ex k else .ok (.int ((ps z l+(run lo hi l).length:Nat)),none):=by
 refine ax hf ⋯ rfl ?_;show fin (aE (ar fs (N-1)) (nu r k) [some (.str (tx z)),some (.int (ps z l:Nat)),some (.str (tx [lo])),some (.str (tx [hi])),none] none)=_;have h:=sA hr (N:=N-1) ⋯ hz hl lo hi;refine aA (d:=.int ((ps z l+(run lo hi l).length:Nat))) (by simp only[RX,h]) rfl ?_;by_cases c:6<(run lo hi l).length
 ·rw[Ta c];exact aS (by simp only[RX];rw[Rh ⋯]) (eM (by rw[RT,g9 rfl (kO hz)];rfl))
 ·rw[S9 c];exact aF (by simp only[RX];rw[Rc ⋯]) (aj (by simp only[RX]))
theorem DY{r n k:Nat}(hr:fs[r]?=some ⟨4,5,false,jf⟩)(hf:fs[n]?=some ⟨2,3,false,zj r k⟩){N:Nat}(hN:2<=N)(hz:z.length<=1000)(hl:l <:+ z):
  ar fs N n [.str (tx z),.int (ps z l:Nat)] none=match kg l with
   |none=>.ex k
   |some p=>.ok (.tup [.int p.1,.int (ps z p.2:Nat)],none):=by
 refine ax hf ⋯ rfl ?_;show fin (aE (ar fs (N-1)) (zj r k) [some (.str (tx z)),some (.int (ps z l:Nat)),none] none)=_;have h:=sA hr (N:=N-1) ⋯ hz hl 48 57;have e0:("0":Str)=tx [48]:=rfl;have e9:("9":Str)=tx [57]:=rfl;refine aA (d:=.int ((ps z l+(run 48 57 l).length:Nat))) (by simp only[RX,e0,e9,h]) rfl ?_;have JW:=mE 48 57 l;unfold kg;by_cases c0:run 48 57 l=[]
 ·rw[Ta c0,c0];exact aS (by simp only[RX];rw[beq_iff_eq.mpr ∅]) (aj (by simp only[RX];rfl))
 ·rw[S9 c0];have hpos:0<(run 48 57 l).length:=List.length_pos_iff.mpr c0;refine aF (by simp only[RX];rw[SZ.mpr ⋯]) ?_;by_cases c:18<(run 48 57 l).length
  ·rw[Ta c];exact aS (by simp only[RX];rw[Rh ⋯]) (eM (by rw[RT,g9 rfl (kO hz)];rfl))
  ·rw[S9 c];refine aF (by simp only[RX];rw[Rc ⋯]) (aj ?_);have hs:=lE (F:=ar fs (N-1)) (S:=none) (ρ:=[some (.str (tx z)),some (.int (ps z l:Nat)),some (.int ((ps z l+(run 48 57 l).length:Nat)))]) (a:=.var 0) (l:=.var 1) (h:=.var 2) (i:=ps z l) (j:=ps z l+(run 48 57 l).length) hz ⋯ (by simp only[RX]) (by simp only[RX]) (by simp only[RX]);rw[gD hl,Nat.add_sub_cancel_left,mD]at hs;have hi:cR .int [.str (tx (run 48 57 l))]= .ok (.int (PySem.NumText.digitsVal (run 48 57 l))):=by show ae (decide ((tx (run 48 57 l)).length<=640)) _=_;rw[b5,Rh ⋯,guard_true,PySem.intText_digits (by rw[bZ];exact λc hc=>mF hc) (by rw[bZ];exact c0) (by rw[b5];omega),bZ]
   simp only[RX,hs,hi,c9 hl JW]
end
abbrev fD(a:TM):Dt:=.tup (ao (val a))
abbrev FN(d:Nat)(a:TM):Prop:=oW 1000 Pos d (.tup (val a))
def pc(l:List Nat):Nat:=l.count 43
theorem d7{a b:List Nat}(h:a <:+ b):pc a<=pc b:=h.sublist.count_le _
theorem p9{a b:List Nat}(h:a <:+ b):1+pc a<=pc b+1:=by have:=d7 h;omega
theorem Ed{l r:List Nat}(h:lit [32,43,32] l=some r):pc l=pc r+1:=by rw[(cz h).2.2];unfold pc;rw[List.count_append,Nat.add_comm];rfl
def outD(z:List Nat)(p:TM×List Nat):Dt:=.tup [fD p.1,.int (ps z p.2:Nat)]
def Rs(k:Nat)(z:List Nat)(d:Nat)(l:List Nat)(r:R (Dt×Sx)):Option (TM×List Nat)->Prop
 |none=>r= .ex k
 |some p=>r= .ok (outD z p,none)/\FN d p.1/\(val p.1).length+pc p.2<=pc l+1/\p.2 <:+ l
def Om(k:Nat)(z:List Nat)(d m:Nat)(l:List Nat)(r:R (Dt×Sx)):Option (List TM×List Nat)->Prop
 |none=>r= .ex k
 |some p=>r= .ok (.tup [.tup (p.1.map fD),.int (ps z p.2:Nat)],none)/\(∀a∈p.1,FN d a/\(val a).length+pc p.2<=pc l+1)/\p.1≠[]/\p.1.length<=m/\p.2.length+1<=l.length/\p.2 <:+ l
theorem vQ{it:Mx.D}{d:Nat}{a:TM}(h:val a=[row it 1])(hi:mZ 1000 (oW 1000 Pos d) it):FN (d+1) a:=by
 refine⟨_,rfl,?_,λr hr=>?_⟩
 ·rw[h];exact Nat.le_of_ble_eq_true rfl
 ·rw[h]at hr;cases Rm.mp hr;exact⟨it,1,rfl,‹_›,hi⟩
theorem C4(d:Nat):FN (d+1) .nil:=⟨[],rfl,SJ _,λr h=>by cases h⟩
theorem mk_val(w:List Nat):∀l:List TM,l.length<=3->val (BY w l)=[row (ofT (tx w) (l.map λa=>.tup (val a))) 1]
 |[],_=>rfl
 |[_],_=>rfl
 |[_,_],_=>rfl
 |[_,_,_],_=>rfl
 |_::_::_::_::_,h=>by simp at h
theorem AG(l:List TM):ao (l.map λa=>Mx.D.tup (val a))=l.map fD:=by
 rw[cF,Sf];refine List.map_congr_left λa _=>?_
 show ofD (.tup (val a))=_;rw[iV]
theorem BL{w:List Nat}{l:List TM}{d:Nat}(h3:l.length<=3)(h:∀a∈l,FN d a):FN (d+1) (BY w l):=
 vQ (mk_val w l h3) (.inr ⟨_,_,rfl,by rw[QW];omega,λp hp=>by obtain⟨a,ha,rfl⟩:=Rn.mp hp;exact h a ha⟩)
theorem Mb{w:List Nat}{l:List TM}(h3:l.length<=3):fD (BY w l)= .tup [.tup [.tup [.str "of",.str (tx w),.tup (l.map fD)],.int 1]]:=by show Dt.tup (ao (val (BY w l)))=_;rw[mk_val w l h3,<-AG];simp[ao,ofD,row,ofT]
theorem CA(w:List Nat):fD (.any w)= .tup [.tup [.tup [.str "any",.str (tx w)],.int 1]]:=by show Dt.tup (ao [row (bQ (tx w)) 1])=_;simp[ao,ofD,row,bQ]
def qH(b w k:Nat):Ts:=(.cons (.ifs (.cmp .Eq (.sliB (.var 0) (.var 1) (.bin .Add (.var 1) (.con (.int 1)))) (.con (.str "("))) (.cons (.asgT [3,4] (.call b (.cons (.var 0) (.cons (.var 1) (.cons (.var 2) (.cons (.con (.int 1)) .nil)))) [])) (.cons (.ret (.tup (.cons (.idx (.var 3) (.con (.int 0))) (.cons (.var 4) .nil)))) .nil)) .nil) (.cons (.asg 4 (.call w (.cons (.var 0) (.cons (.var 1) (.cons (.con (.str "a")) (.cons (.con (.str "z")) .nil)))) [])) (.cons (.ifs (.cmp .Gt (.var 4) (.var 1)) (.cons (.ret (.tup (.cons (.tup (.cons (.tup (.cons (.tup (.cons (.con (.str "any")) (.cons (.sliB (.var 0) (.var 1) (.var 4)) .nil))) (.cons (.con (.int 1)) .nil))) .nil)) (.cons (.var 4) .nil)))) .nil) .nil) (.cons (.asg 4 (.call w (.cons (.var 0) (.cons (.var 1) (.cons (.con (.str "A")) (.cons (.con (.str "Z")) .nil)))) [])) (.cons (.ifs (.cmp .Eq (.var 4) (.var 1)) (.cons (.rs k [1]) .nil) .nil) (.cons (.asg 5 (.sliB (.var 0) (.var 1) (.var 4))) (.cons (.asg 3 (.tup .nil)) (.cons (.ifs (.cmp .Eq (.sliB (.var 0) (.var 4) (.bin .Add (.var 4) (.con (.int 1)))) (.con (.str "("))) (.cons (.asgT [3,4] (.call b (.cons (.var 0) (.cons (.var 4) (.cons (.var 2) (.cons (.con (.int 3)) .nil)))) [])) .nil) .nil) (.cons (.ret (.tup (.cons (.tup (.cons (.tup (.cons (.tup (.cons (.con (.str "of")) (.cons (.var 5) (.cons (.var 3) .nil)))) (.cons (.con (.int 1)) .nil))) .nil)) (.cons (.var 4) .nil)))) .nil)))))))))
def uU(fs:List Fn)(b k:Nat)(z:List Nat)(e d N:Nat)(br:Nat->List Nat->Option (List TM×List Nat)):Prop:=
 ∀(m:Nat)(l r:List Nat),1<=m->m<=3->l <:+ z->lit [40] l=some r->Om k z d m l (ar fs N b [.str (tx z),.int (ps z l:Nat),.int e,.int m] none) (br m r)
theorem Az{r w b o k:Nat}(hr:fs[r]?=some ⟨4,5,false,jf⟩)(hw:fs[w]?=some ⟨4,5,false,nu r k⟩)(hf:fs[o]?=some ⟨3,6,false,qH b w k⟩){N e d:Nat}{z:List Nat}{br:Nat->List Nat->Option (List TM×List Nat)}
  (hN:3<=N) (hz:z.length<=600) (hb:uU fs b k z e d (N-1) br) {l:List Nat} (hl:l <:+ z):
  Rs k z (d+1) l (ar fs N o [.str (tx z),.int (ps z l:Nat),.int e] none) (ix dy br l):=by
 have iw:z.length<=1000:=⋯
 have e1:("(":Str)=tx [40]:=rfl;have ea:("a":Str)=tx [97]:=rfl;have eZ:("z":Str)=tx [122]:=rfl;have eA:("A":Str)=tx [65]:=rfl;have Nj:("Z":Str)=tx [90]:=rfl;have start:∀{rr:R (Dt×Sx)},fin (aE (ar fs (N-1)) (qH b w k) [some (.str (tx z)),some (.int (ps z l:Nat)),some (.int e),none,none,none] none)=rr->ar fs N o [.str (tx z),.int (ps z l:Nat),.int e] none=rr:=λh=>ax hf ⋯ rfl h
 have t1:=jo (F:=ar fs (N-1)) (S:=none) (ρ:=[some (.str (tx z)),some (.int (ps z l:Nat)),some (.int e),none,none,none]) (i:=1) (k:=1) (s:=[40]) iw hl rfl (by simp only[RX]) (by simp only[RX]);rw[<-e1]at t1;unfold ix;cases ho:lit [40] l with
 |some r'=>
  have JM:=hb 1 l r' ⋯ ⋯ hl ho;rw[ho]at t1;have LK:dy.op l=some r':=ho;simp only[LK];cases hbr:br 1 r' with
  |none=>rw[hbr]at JM;exact start (aS t1 (cJ (bS (by simp only[RX];rw[show ar fs (N-1) b [.str (tx z),.int (ps z l:Nat),.int e,.int 1] none=_ from JM];rfl))))
  |some p=>
   rw[hbr]at JM;obtain⟨h1,h2,h3,h4,h5,h6⟩:=JM;obtain⟨p1,p2⟩:=p;have h1:ar fs (N-1) b [.str (tx z),.int (ps z l:Nat),.int e,.int 1] none= .ok (.tup [.tup (p1.map fD),.int (ps z p2:Nat)],none):=h1;obtain⟨a,rfl⟩:∃a,p1=[a]:=by
    rcases p1 with _|⟨a,_|⟨c,p1⟩⟩
    ·exact absurd rfl h3
    ·exact⟨a,rfl⟩
    ·simp at h4
   have Ny:=h2 a QU;exact⟨start (aS t1 (aQ (bG (a:=.tup [fD a]) (b:=.int (ps z p2:Nat)) rfl (by simp only[RX,h1];rfl)) (aj (by simp only[RX];rfl)))),Ny.1.mono (QT _) (λ_ h=>h) ⋯,Ny.2,h6⟩
 |none=>
  rw[ho]at t1;have LK:dy.op l=none:=ho;have LG:dy.low l=j5 97 122 l:=rfl;have LR:dy.upp l=j5 65 90 l:=rfl;simp only[LK,LG,LR];have JZ:=sZ hr hw (N:=N-1) ⋯ iw hl 97 122;have J0:=sZ hr hw (N:=N-1) ⋯ iw hl 65 90;have GF:∀{rr:R (Dt×Sx)},fin (aE (ar fs (N-1)) (.cons (.asg 4 (.call w (.cons (.var 0) (.cons (.var 1) (.cons (.con (.str "a")) (.cons (.con (.str "z")) .nil)))) [])) _) [some (.str (tx z)),some (.int (ps z l:Nat)),some (.int e),none,none,none] none)=rr->ar fs N o [.str (tx z),.int (ps z l:Nat),.int e] none=rr:=λh=>start (aF t1 h)
  unfold j5;have Px:=mE 97 122 l;have NI:=mE 65 90 l;by_cases c1:6<(run 97 122 l).length
  ·rw[Ta c1]at JZ ⊢;exact GF (cJ (qR (by simp only[RX,ea,eZ,JZ];rfl)))
  rw[S9 c1]at JZ ⊢;have go2:=λ {rr:R (Dt×Sx)} (h:fin (aE (ar fs (N-1)) _ [some (.str (tx z)),some (.int (ps z l:Nat)),some (.int e),none,some (.int ((ps z l+(run 97 122 l).length:Nat))),none] none)=rr)=>GF (aA (d:=.int ((ps z l+(run 97 122 l).length:Nat))) (by simp only[RX,ea,eZ,JZ]) rfl h)
  by_cases c2:run 97 122 l=[]
  ·rw[c2]at go2;rw[Ta c2];simp only[Option.bind_some];have t2:decide ((ps z l:Int)<((ps z l+([]:List Nat).length:Nat):Int))=false:=Rc ∅;by_cases c3:6<(run 65 90 l).length
   ·rw[Ta c3]at J0 ⊢;exact go2 (aF (by simp only[RX,t2]) (cJ (qR (by simp only[RX,eA,Nj,J0];rfl))))
   rw[S9 c3]at J0 ⊢;have yV:=λ {rr:R (Dt×Sx)} (h:fin (aE (ar fs (N-1)) _ [some (.str (tx z)),some (.int (ps z l:Nat)),some (.int e),none,some (.int ((ps z l+(run 65 90 l).length:Nat))),none] none)=rr)=>go2 (aF (by simp only[RX,t2]) (aA (d:=.int ((ps z l+(run 65 90 l).length:Nat))) (by simp only[RX,eA,Nj,J0]) rfl h))
   by_cases c4:run 65 90 l=[]
   ·rw[Ta c4];rw[c4]at yV;exact yV (aS (by simp only[RX];rw[beq_iff_eq.mpr ∅]) (eM (by rw[RT,g9 rfl (kO iw)];rfl)))
   ·rw[S9 c4];simp only[Option.bind_some];have hpos:0<(run 65 90 l).length:=List.length_pos_iff.mpr c4;have fE:l.drop (run 65 90 l).length <:+ z:=(List.drop_suffix _ _).trans hl;have hs:=lE (F:=ar fs (N-1)) (S:=none) (ρ:=[some (.str (tx z)),some (.int (ps z l:Nat)),some (.int e),none,some (.int ((ps z l+(run 65 90 l).length:Nat))),none]) (a:=.var 0) (l:=.var 1) (h:=.var 4) (i:=ps z l) (j:=ps z l+(run 65 90 l).length) iw ⋯ (by simp only[RX]) (by simp only[RX]) (by simp only[RX]);rw[gD hl,Nat.add_sub_cancel_left,mD]at hs;rw[<-c9 hl NI]at yV hs;have t4:=jo (F:=ar fs (N-1)) (S:=none) (ρ:=[some (.str (tx z)),some (.int (ps z l:Nat)),some (.int e),some (.tup []),some (.int (ps z (l.drop (run 65 90 l).length):Nat)),some (.str (tx (run 65 90 l)))]) (i:=4) (k:=1) (s:=[40]) iw fE rfl (by simp only[RX]) (by simp only[RX]);rw[<-e1]at t4;have Lb:=λ {rr:R (Dt×Sx)} (h:fin (aE (ar fs (N-1)) _ [some (.str (tx z)),some (.int (ps z l:Nat)),some (.int e),some (.tup []),some (.int (ps z (l.drop (run 65 90 l).length):Nat)),some (.str (tx (run 65 90 l)))] none)=rr)=>yV (aF (by simp only[RX];rw[SZ.mpr (by rw[c9 hl NI];omega)]) (aA (d:=.str (tx (run 65 90 l))) hs rfl (aA (d:=.tup []) (by simp only[RX]) rfl h)))
    have last:∀(J8:List TM)(r2:List Nat),J8.length<=3->fin (aE (ar fs (N-1)) (.cons (.ret (.tup (.cons (.tup (.cons (.tup (.cons (.tup (.cons (.con (.str "of")) (.cons (.var 5) (.cons (.var 3) .nil)))) (.cons (.con (.int 1)) .nil))) .nil)) (.cons (.var 4) .nil)))) .nil) [some (.str (tx z)),some (.int (ps z l:Nat)),some (.int e),some (.tup (J8.map fD)),some (.int (ps z r2:Nat)),some (.str (tx (run 65 90 l)))] none)= .ok (outD z (BY (run 65 90 l) J8,r2),none):=λJ8 r2 h3=>aj (by unfold outD;rw[Mb h3];simp only[RX])
    unfold pThing;cases ke:lit [40] (l.drop (run 65 90 l).length) with
    |none=>have Dm:dy.op (l.drop (run 65 90 l).length)=none:=ke;rw[ke]at t4;simp only[Dm];exact⟨Lb (aF t4 (last [] _ ‹_›)),BL (l:=[]) ‹_› (λa h=>by cases h),p9 (List.drop_suffix _ _),List.drop_suffix _ _⟩
    |some r2=>
     have Dm:dy.op (l.drop (run 65 90 l).length)=some r2:=ke;rw[ke]at t4;simp only[Dm];have JN:=hb 3 _ r2 ⋯ ⋯ fE ke;cases hbr:br 3 r2 with
     |none=>rw[hbr]at JN;exact Lb (aS t4 (cJ (bS (by simp only[RX];rw[show ar fs (N-1) b [.str (tx z),.int (ps z (l.drop (run 65 90 l).length):Nat),.int e,.int 3] none=_ from JN];rfl))))
     |some p=>rw[hbr]at JN;obtain⟨h1,h2,h3,h4,h5,h6⟩:=JN;have h1:ar fs (N-1) b [.str (tx z),.int (ps z (l.drop (run 65 90 l).length):Nat),.int e,.int 3] none= .ok (.tup [.tup (p.1.map fD),.int (ps z p.2:Nat)],none):=h1;refine⟨Lb (aS t4 (aQ (bG (a:=.tup (p.1.map fD)) (b:=.int (ps z p.2:Nat)) rfl (by simp only[RX,h1])) (last p.1 p.2 h4))),BL h4 λa h=>(h2 a h).1,?_,h6.trans (List.drop_suffix _ _)⟩;rw[mk_val _ _ h4];exact p9 (h6.trans (List.drop_suffix _ _))
  ·rw[S9 c2];have hpos:0<(run 97 122 l).length:=List.length_pos_iff.mpr c2;have t2:decide ((ps z l:Int)<((ps z l+(run 97 122 l).length:Nat):Int))=true:=Rh ⋯;have hs:=lE (F:=ar fs (N-1)) (S:=none) (ρ:=[some (.str (tx z)),some (.int (ps z l:Nat)),some (.int e),none,some (.int ((ps z l+(run 97 122 l).length:Nat))),none]) (a:=.var 0) (l:=.var 1) (h:=.var 4) (i:=ps z l) (j:=ps z l+(run 97 122 l).length) iw ⋯ (by simp only[RX]) (by simp only[RX]) (by simp only[RX]);rw[gD hl,Nat.add_sub_cancel_left,mD]at hs;refine⟨go2 (aS (by simp only[RX,t2]) (aj ?_)),vQ rfl (.inl ⟨_,rfl⟩),p9 (List.drop_suffix _ _),List.drop_suffix _ _⟩;unfold outD;rw[CA];simp only[RX,hs,c9 hl Px]
variable{fs:List Fn}{F:FT}{ρ:ai}{S:Sx}
def u5(n o t:Nat):Ts:=(.cons (.ifs (.cmp .Eq (.sliB (.var 0) (.var 1) (.bin .Add (.var 1) (.con (.int 1)))) (.con (.str "0"))) (.cons (.ret (.tup (.cons (.tup .nil) (.cons (.bin .Add (.var 1) (.con (.int 1))) .nil)))) .nil) .nil) (.cons (.asgT [3,1] (.call n (.cons (.var 0) (.cons (.var 1) .nil)) [])) (.cons (.asgT [4,1] (.call o (.cons (.var 0) (.cons (.var 1) (.cons (.var 2) .nil))) [])) (.cons (.ret (.tup (.cons (.call t (.cons (.var 3) (.cons (.var 4) .nil)) []) (.cons (.var 1) .nil)))) .nil))))
def u7(g:Nat):Ts:=(.cons (.ret (.call g (.cons (.bin .Add (.var 0) (.var 1)) .nil) [])) .nil)
def jg(a p:Nat):Ts:=(.cons (.asgT [4,1] (.call a (.cons (.var 0) (.cons (.bin .Add (.var 1) (.con (.int 3))) (.cons (.var 2) .nil))) [])) (.cons (.asg 3 (.call p (.cons (.var 3) (.cons (.var 4) .nil)) [])) .nil))
def CF(a p:Nat):Ts:=(.cons (.asgT [3,1] (.call a (.cons (.var 0) (.cons (.var 1) (.cons (.var 2) .nil))) [])) (.cons (.wh (.cmp .Eq (.sliB (.var 0) (.var 1) (.bin .Add (.var 1) (.con (.int 3)))) (.con (.str " + "))) (jg a p)) (.cons (.ret (.tup (.cons (.var 3) (.cons (.var 1) .nil)))) .nil)))
def pj(s:Nat):Ts:=(.cons (.asgT [4,1] (.call s (.cons (.var 0) (.cons (.bin .Add (.var 1) (.con (.int 2))) (.cons (.bin .Add (.var 2) (.con (.int 1))) .nil))) [])) (.cons (.app 5 (.var 4)) .nil))
def KF(s k:Nat):Ts:=(.cons (.ifs (.cmp .Eq (.var 2) (.con (.int 20))) (.cons (.rs k [1]) .nil) .nil) (.cons (.asgT [4,1] (.call s (.cons (.var 0) (.cons (.bin .Add (.var 1) (.con (.int 1))) (.cons (.bin .Add (.var 2) (.con (.int 1))) .nil))) [])) (.cons (.asgM 5 (.lst (.cons (.var 4) .nil))) (.cons (.wh (.and (.cmp .Lt (.bi .len (.cons (.mvr 5) .nil)) (.var 3)) (.cmp .Eq (.sliB (.var 0) (.var 1) (.bin .Add (.var 1) (.con (.int 2)))) (.con (.str ", ")))) (pj s)) (.cons (.ifs (.cmp .NotEq (.sliB (.var 0) (.var 1) (.bin .Add (.var 1) (.con (.int 1)))) (.con (.str ")"))) (.cons (.rs k [1]) .nil) .nil) (.cons (.ret (.tup (.cons (.bi .tuple (.cons (.mvr 5) .nil)) (.cons (.bin .Add (.var 1) (.con (.int 1))) .nil)))) .nil))))))
structure JA(fs:List Fn)(g p t s a n o b w r k:Nat):Prop where
 hg:fs[g]?=some ⟨1,4,false,JH (.mvr 1)⟩
 hp:fs[p]?=some ⟨2,2,false,u7 g⟩
 ht:fs[t]?=some ⟨2,2,false,lp⟩
 hs:fs[s]?=some ⟨3,5,false,CF a p⟩
 ha:fs[a]?=some ⟨3,5,false,u5 n o t⟩
 hn:fs[n]?=some ⟨2,3,false,zj r k⟩
 ho:fs[o]?=some ⟨3,6,false,qH b w k⟩
 hb:fs[b]?=some ⟨4,6,false,KF s k⟩
 hw:fs[w]?=some ⟨4,5,false,nu r k⟩
 hr:fs[r]?=some ⟨4,5,false,jf⟩
section
variable{g p t s a n o b w r k:Nat}(H:JA fs g p t s a n o b w r k){z:List Nat}(hz:z.length<=600)
include H
theorem AL{N d:Nat}(hN:2<=N)(hd:d<=20){x y:TM}(hx:FN (d+1) x)(hy:FN (d+1) y)(hl:(val x).length+(val y).length<=63):ar fs N p [fD x,fD y] none= .ok (fD (.plus x y),none)/\FN (d+1) (.plus x y):=by
 obtain⟨rx,ex,_,h1⟩:=hx;obtain⟨ry,ey,_,h2⟩:=hy;cases ex;cases ey;have hr:∀m∈val x++val y,k9 1000 Pos (oW 1000 Pos d) m:=λm hm=>(Q9.mp hm).elim (h1 m) (h2 m)
 have hg:=Da H.hg (N:=N-1) ⋯ (n:=d) hd (ms:=val x++val y) (d:=.tup (ao (val x++val y))) (.inr rfl) (by rw[Q3];omega) hr λrs x y z _=>MV rs x y z
 constructor
 ·refine ax H.hp ⋯ rfl ?_;show fin (aE (ar fs (N-1)) (u7 g) [some (fD x),some (fD y)] none)=_;have ha:gQ .Add (fD x) (fD y)= .ok (.tup (ao (val x++val y))):=by show ae (decide ((ao (val x)).length+(ao (val y)).length<=lim)) _=_;rw[bP,bP,Rh (QY hl ‹_›),guard_true,cD]
  exact aj (by simp only[RX,ha,hg];rfl)
 ·refine⟨_,rfl,?_,λr JU=>?_⟩
  ·have:=jt (val x++val y);rw[Q3]at this;exact QY this (QY hl ‹_›)
  ·refine(kC (S:=k9 1000 Pos (oW 1000 Pos d)) (λit c d⟨i,k,e,h1,h2⟩hc hd=>⟨it,c+d,rfl,by show 0<c+d;omega,?_⟩) (λm hm=>⟨hr m hm,?_⟩) r JU).1
   ·have:=S6 cW e;rw[bo,bo]at this;rw[this];exact h2
   ·obtain⟨it,c,e,hc,_⟩:=hr m hm;exact⟨it,c,e,hc⟩
include hz
def uX(fs:List Fn)(a k:Nat)(z:List Nat)(e d N:Nat)(f:List Nat->Option (TM×List Nat)):Prop:=
 ∀l,l <:+ z->Rs k z (d+1) l (ar fs N a [.str (tx z),.int (ps z l:Nat),.int e] none) (f l)
omit hz in
theorem uy{d m:Nat}{x:TM}(hx:FN (d+1) x)(hm:0<m):FN (d+1) (.times m x):=by obtain⟨rx,ex,hl,h1⟩:=hx;cases ex;refine⟨_,rfl,by rw[show val (Tm.times m x)=mulR m (.tup (val x)) from rfl];unfold mulR;rw[QW];exact hl,λr hr=>?_⟩;obtain⟨q,hq,rfl⟩:=Rn.mp hr;obtain⟨it,c,rfl,hc,hi⟩:=h1 q hq;have hc:0<c:=hc;exact⟨it,m*c,rfl,by show 0<(m:Int)*c;exact Int.mul_pos ⋯ hc,hi⟩
omit H hz in
theorem vx:∀(l:List Nat)(acc:Nat),acc<=l.foldl (λacc c=>acc*10+(c-48)) acc
 |[],_=>QT _
 |c::l,acc=>QY (by show acc<=acc*10+(c-48);omega) (vx l _)
omit H hz in
theorem vy:∀(l:List Nat)(acc:Nat),(∀c∈l,c<=57)->l.foldl (λacc c=>acc*10+(c-48)) acc<(acc+1)*10^l.length
 |[],acc,_=>by simp
 |c::l,acc,h=>by
  have h1:=vy l (acc*10+(c-48)) λx hx=>h x (QS _ hx)
  have h2:=h c QU;refine Q8 h1 ?_;rw[Q5,Nat.pow_succ,Nat.mul_comm (10^l.length) 10,<-Nat.mul_assoc];exact Nat.mul_le_mul_right _ ⋯
omit H hz in
theorem Aw{l:List Nat}{p:Nat×List Nat}(h0:lit [48] l=none)(h:kg l=some p):Kt (p.1:Int)/\p.2 <:+ l:=by
 unfold kg at h;split at h
 ·cases h;exact⟨⟨(by decide:(0:Int)<1),(by decide:(1:Int)<18446744073709551616)⟩,List.suffix_refl _⟩
 ·rename_i eB;split at h
  ·cases h
  ·rename_i hlen;cases h;refine⟨?_,List.drop_suffix _ _⟩;have h1:=vy (run 48 57 l) 0 λc hc=>(mF hc).2
   have h2:10^(run 48 57 l).length<=10^18:=Nat.pow_le_pow_right ‹_› ⋯;have h3:0<PySem.NumText.digitsVal (run 48 57 l):=by
    cases l with
    |nil=>exact absurd rfl eB
    |cons c l=>
     have hc:c≠48:=λe=>by subst e;cases h0
     have hb:(decide (48<=c)&&decide (c<=57))=true:=by
      cases e:(decide (48<=c)&&decide (c<=57)) with
      |true=>rfl
      |false=>exact absurd (by unfold run;rw[List.takeWhile_cons,e];rfl) eB
     have er:run 48 57 (c::l)=c::run 48 57 l:=by unfold run;rw[List.takeWhile_cons,hb];rfl
     rw[er];show 0<(run 48 57 l).foldl (λacc c=>acc*10+(c-48)) (0*10+(c-48));rw[QO]at hb;have:=QQ hb.1;exact Q8 ⋯ (vx _ _)
   have h4:PySem.NumText.digitsVal (run 48 57 l)<(0+1)*10^(run 48 57 l).length:=h1;show (0:Int)<(PySem.NumText.digitsVal (run 48 57 l):Nat)/\((PySem.NumText.digitsVal (run 48 57 l):Nat):Int)<18446744073709551616;omega
theorem AF{N e d:Nat}{br:Nat->List Nat->Option (List TM×List Nat)}(hN:4<=N)(hb:uU fs b k z e d (N-2) br):uX fs a k z e d N (cX dy br):=λl hl=>by
 have iw:z.length<=1000:=⋯
 have e0:("0":Str)=tx [48]:=rfl;have start:∀{rr:R (Dt×Sx)},fin (aE (ar fs (N-1)) (u5 n o t) [some (.str (tx z)),some (.int (ps z l:Nat)),some (.int e),none,none] none)=rr->ar fs N a [.str (tx z),.int (ps z l:Nat),.int e] none=rr:=λh=>ax H.ha ⋯ rfl h
 have t1:=jo (F:=ar fs (N-1)) (S:=none) (ρ:=[some (.str (tx z)),some (.int (ps z l:Nat)),some (.int e),none,none]) (i:=1) (k:=1) (s:=[48]) iw hl rfl (by simp only[RX]) (by simp only[RX]);rw[<-e0]at t1;have hi:dy.is0 l=lit [48] l:=rfl;have hn:dy.num l=kg l:=rfl;unfold cX;rw[hi,hn];cases h0:lit [48] l with
 |some r=>rw[h0]at t1;obtain⟨er,fQ,_⟩:=cz h0;have hp:=c9 hl (k:=1) fQ;rw[er];refine⟨start (aS t1 (aj (by simp only[RX];unfold outD;rw[show ([48]:List Nat).length=1 from rfl,hp];rfl))),C4 d,by show 0+_<=_;have:=d7 (List.drop_suffix 1 l);exact Nat.le_succ_of_le (by rw[Nat.zero_add];exact this),List.drop_suffix _ _⟩
 |none=>
  rw[h0]at t1;have h1:=DY H.hr H.hn (N:=N-1) ⋯ iw hl;have go:=λ {rr:R (Dt×Sx)} (h:fin (aE (ar fs (N-1)) _ _ none)=rr)=>start (aF t1 h)
  cases hnum:kg l with
  |none=>rw[hnum]at h1;exact go (cJ (bS (by simp only[RX,h1];rfl)))
  |some q=>
   rw[hnum]at h1;obtain⟨pin,hs⟩:=Aw h0 hnum;simp only[Option.bind_some];have ho:=Az H.hr H.hw H.ho (N:=N-1) ⋯ hz hb (hs.trans hl);have go2:=λ {rr:R (Dt×Sx)} (h:fin (aE (ar fs (N-1)) _ [some (.str (tx z)),some (.int (ps z q.2:Nat)),some (.int e),some (.int q.1),none] none)=rr)=>go (aQ (bG (a:=.int q.1) (b:=.int (ps z q.2:Nat)) rfl (by simp only[RX,h1])) h)
   cases hon:ix dy br q.2 with
   |none=>rw[hon]at ho;have ho:ar fs (N-1) o [.str (tx z),.int (ps z q.2:Nat),.int e] none= .ex k:=ho;exact go2 (cJ (bS (by simp only[RX,ho];rfl)))
   |some u=>
    rw[hon]at ho;obtain⟨o1,o2,o3,o4⟩:=ho;have hq:0<q.1:=by have:=pin.1;omega
    have NN:=yx H.ht (N:=N-1) ⋯ (L:=1000) (k:=d+1) ‹_› pin o2;rw[iV]at NN;refine⟨go2 (aQ (bG (a:=fD u.1) (b:=.int (ps z u.2:Nat)) rfl (by simp only[RX,o1];rfl)) (aj ?_)),uy H o2 hq,?_,o4.trans hs⟩
    ·simp only[RX];rw[show ar fs (N-1) t [.int q.1,fD u.1] none=_ from NN];simp only[RX];rfl
    ·have:=d7 hs;show (mulR q.1 (.tup (val u.1))).length+_<=_;unfold mulR;rw[QW];exact QY o3 (Nat.succ_le_succ this)
theorem rL{N e d:Nat}{f:List Nat->Option (TM×List Nat)}(I:TM->List Nat->Prop)(hN:2<=N)(hd:d<=20)(hf:uX fs a k z e d N f)(hs:∀x l r q,I x l->l <:+ z->lit [32,43,32] l=some r->f r=some q->(val q.1).length+pc q.2<=pc r+1->(val x).length+(val q.1).length<=63/\I (.plus x q.1) q.2):∀(m:Nat)(x4:Option Dt)(c:Nat)(x:TM)(l:List Nat),l <:+ z->l.length<m->l.length<c->FN (d+1) x->I x l->
  match fH dy f c x l with
  |none=>iB (aZ (ar fs N) (.cmp .Eq (.sliB (.var 0) (.var 1) (.bin .Add (.var 1) (.con (.int 3)))) (.con (.str " + ")))) (aE (ar fs N) (jg a p)) m [some (.str (tx z)),some (.int (ps z l:Nat)),some (.int e),some (fD x),x4] none= .ex k
  |some q=>(∃x5,iB (aZ (ar fs N) (.cmp .Eq (.sliB (.var 0) (.var 1) (.bin .Add (.var 1) (.con (.int 3)))) (.con (.str " + ")))) (aE (ar fs N) (jg a p)) m [some (.str (tx z)),some (.int (ps z l:Nat)),some (.int e),some (fD x),x4] none= .ok (.next,[some (.str (tx z)),some (.int (ps z q.2:Nat)),some (.int e),some (fD q.1),x5],none))/\FN (d+1) q.1/\I q.1 q.2/\q.2 <:+ l
 |0,_,_,_,_,_,h,_,_,_=>by omega
 |m+1,_,0,_,_,_,_,h,_,_=>by omega
 |m+1,x4,c+1,x,l,hl,hm,hc,hx,hv=>by
  have iw:z.length<=1000:=⋯
  have e3:(" + ":Str)=tx [32,43,32]:=rfl;have t1:=jo (F:=ar fs N) (S:=none) (ρ:=[some (.str (tx z)),some (.int (ps z l:Nat)),some (.int e),some (fD x),x4]) (i:=1) (k:=3) (s:=[32,43,32]) iw hl rfl (by simp only[RX]) (by simp only[RX]);rw[<-e3]at t1;have hp:dy.pl l=lit [32,43,32] l:=rfl;unfold fH;rw[hp];cases h0:lit [32,43,32] l with
  |none=>rw[h0]at t1;exact⟨⟨x4,by rw[iB,t1];rfl⟩,hx,hv,List.suffix_refl _⟩
  |some r=>
   rw[h0]at t1;obtain⟨er,fQ,_⟩:=cz h0;have Df:3<=l.length:=fQ;have hr:r <:+ l:=by rw[er];exact List.drop_suffix _ _
   have JW:r.length+3=l.length:=by rw[er,R7];show l.length-3+3=_;omega
   have G8:ps z r=ps z l+3:=by rw[er];exact c9 hl fQ
   have h1:=hf r (hr.trans hl);rw[G8]at h1;simp only;cases j6:f r with
   |none=>rw[j6]at h1;have h1:ar fs N a [.str (tx z),.int ((ps z l+3:Nat)),.int e] none= .ex k:=h1;show iB _ _ _ _ _=_;rw[iB,t1];simp only[R.ah,Option.isSome_some,Tb];rw[show aE (ar fs N) (jg a p) [some (.str (tx z)),some (.int (ps z l:Nat)),some (.int e),some (fD x),x4] none= .ex k from pF (bS (by simp only[RX];rw[show ar fs N a [.str (tx z),.int ((ps z l:Int)+3),.int e] none=_ from h1];rfl))];rfl
   |some q=>
    rw[j6]at h1;obtain⟨o1,o2,o3,o4⟩:=h1;have hq:=o4.length_le;obtain⟨vb,vl⟩:=hs x l r q hv hl h0 j6 o3;have o1:ar fs N a [.str (tx z),.int ((ps z l:Int)+3),.int e] none= .ok (.tup [fD q.1,.int (ps z q.2:Nat)],none):=o1;obtain⟨p1,p2⟩:=AL H (N:=N) hN hd hx o2 vb;have body:aE (ar fs N) (jg a p) [some (.str (tx z)),some (.int (ps z l:Nat)),some (.int e),some (fD x),x4] none= .ok (.next,[some (.str (tx z)),some (.int (ps z q.2:Nat)),some (.int e),some (fD (.plus x q.1)),some (fD q.1)],none):=
     nx (bG (a:=fD q.1) (b:=.int (ps z q.2:Nat)) rfl (by simp only[RX,o1])) (mf (d:=fD (.plus x q.1)) (by simp only[RX];rw[show ar fs N p [fD x,fD q.1] none=_ from p1];rfl) rfl rfl)
    have ih:=rL I hN hd hf hs m (some (fD q.1)) c (.plus x q.1) q.2 (o4.trans (hr.trans hl)) ⋯ ⋯ p2 vl;have step:iB (aZ (ar fs N) (.cmp .Eq (.sliB (.var 0) (.var 1) (.bin .Add (.var 1) (.con (.int 3)))) (.con (.str " + ")))) (aE (ar fs N) (jg a p)) (m+1) [some (.str (tx z)),some (.int (ps z l:Nat)),some (.int e),some (fD x),x4] none=
      iB (aZ (ar fs N) (.cmp .Eq (.sliB (.var 0) (.var 1) (.bin .Add (.var 1) (.con (.int 3)))) (.con (.str " + ")))) (aE (ar fs N) (jg a p)) m [some (.str (tx z)),some (.int (ps z q.2:Nat)),some (.int e),some (fD (.plus x q.1)),some (fD q.1)] none:=by
     rw[iB,t1];simp only[R.ah,Option.isSome_some,Tb,body]
    simp only[Option.bind_some];rw[step];cases tQ:fH dy f c (.plus x q.1) q.2 with
    |none=>rw[tQ]at ih;exact ih
    |some u=>rw[tQ]at ih;exact⟨ih.1,ih.2.1,ih.2.2.1,ih.2.2.2.trans (o4.trans hr)⟩
def qB(fs:List Fn)(s k:Nat)(z:List Nat)(e d N:Nat)(f:List Nat->Option (TM×List Nat)):Prop:=
 ∀l,l <:+ z->Rs k z (d+1) l (ar fs N s [.str (tx z),.int (ps z l:Nat),.int e] none) (f l)
theorem sR{N e d:Nat}{br:Nat->List Nat->Option (List TM×List Nat)}(hN:5<=N)(hb:uU fs b k z e d (N-3) br)(yW:d<=20){l:List Nat}(hl:l <:+ z)(I:TM->List Nat->Prop)(i0:∀q,cX dy br l=some q->(val q.1).length+pc q.2<=pc l+1->I q.1 q.2)(i1:∀x r,I x r->(val x).length+pc r<=pc l+1)
  (hs:∀x l r q,I x l->l <:+ z->lit [32,43,32] l=some r->cX dy br r=some q->(val q.1).length+pc q.2<=pc r+1->(val x).length+(val q.1).length<=63/\I (.plus x q.1) q.2):Rs k z (d+1) l (ar fs N s [.str (tx z),.int (ps z l:Nat),.int e] none) (fI dy br l):=by
 have hp:=AF H hz (N:=N-1) ⋯ (by rw[show N-1-2=N-3 by omega];exact hb);have Po:=hl.length_le;have start:∀{rr:R (Dt×Sx)},fin (aE (ar fs (N-1)) (CF a p) [some (.str (tx z)),some (.int (ps z l:Nat)),some (.int e),none,none] none)=rr->ar fs N s [.str (tx z),.int (ps z l:Nat),.int e] none=rr:=λh=>ax H.hs ⋯ rfl h
 have h1:=hp l hl;unfold fI;cases j7:cX dy br l with
 |none=>rw[j7]at h1;have h1:ar fs (N-1) a [.str (tx z),.int (ps z l:Nat),.int e] none= .ex k:=h1;exact start (cJ (bS (by simp only[RX,h1];rfl)))
 |some q=>
  rw[j7]at h1;obtain⟨o1,o2,o3,o4⟩:=h1;have hq:=o4.length_le;have mo:=rL H hz (N:=N-1) I ⋯ yW hp hs iA none 1000 q.1 q.2 (o4.trans hl) (by unfold iA;omega) ⋯ o2 (i0 q j7 o3);simp only[Option.bind_some];have go:=λ {rr:R (Dt×Sx)} (h:fin (aE (ar fs (N-1)) _ [some (.str (tx z)),some (.int (ps z q.2:Nat)),some (.int e),some (fD q.1),none] none)=rr)=>start (aQ (bG (a:=fD q.1) (b:=.int (ps z q.2:Nat)) rfl (by simp only[RX,o1];rfl)) h)
  cases hm:fH dy (cX dy br) 1000 q.1 q.2 with
  |none=>rw[hm]at mo;exact go (cJ (by rw[hU];exact mo))
  |some u=>rw[hm]at mo;obtain⟨⟨x5,m1⟩,m2,m3,m4⟩:=mo;exact⟨go (aQ (by rw[hU];exact m1) (aj (by simp only[RX];rfl))),m2,i1 _ _ m3,m4.trans o4⟩
theorem yl(JT:pc z<=62){N e d:Nat}{br:Nat->List Nat->Option (List TM×List Nat)}(hN:5<=N)(hb:uU fs b k z e d (N-3) br)(yW:d<=20):qB fs s k z e d N (fI dy br):=λl hl=>
 sR H hz hN hb yW hl (λx r=>(val x).length+pc r<=pc l+1) (λ_ _ h=>h) (λ_ _ h=>h) λx l' r q h _ h0 _ h2=>by have:=d7 hl;have:=Ed h0;have:=jt (val x++val q.1);rw[Q3]at this;exact⟨⋯,by show (aX _).length+_<=_;omega⟩
omit H hz in
theorem C0{z l s:List Nat}{i:Nat}{k:Int}(hz:z.length<=1000)(hl:l <:+ z)(hk:k=s.length)(h0:bp ρ 0= .ok (.str (tx z)))(h1:bp ρ i= .ok (.int (ps z l:Nat))):
  aZ F (.cmp .NotEq (.sliB (.var 0) (.var i) (.bin .Add (.var i) (.con (.int k)))) (.con (.str (tx s)))) ρ S= .ok (!(lit s l).isSome,S):=by
 simp only[RX,BH hz hl hk h0 h1,yz,wD]
theorem vp{N e d M most:Nat}{f:List Nat->Option (TM×List Nat)}(Pp:most<=3)(hf:qB fs s k z (e+1) d N f):∀(m:Nat)(x4:Option Dt)(c:Nat)(xs:List TM)(l:List Nat),l <:+ z->l.length<m->xs.length+c=most->xs≠[]->(∀a∈xs,FN (d+1) a/\(val a).length+pc l<=M)->pc l+1<=M->
  match jI dy f c xs l with
  |none=>iB (aZ (ar fs N) (.and (.cmp .Lt (.bi .len (.cons (.mvr 5) .nil)) (.var 3)) (.cmp .Eq (.sliB (.var 0) (.var 1) (.bin .Add (.var 1) (.con (.int 2)))) (.con (.str ", "))))) (aE (ar fs N) (pj s)) m [some (.str (tx z)),some (.int (ps z l:Nat)),some (.int e),some (.int most),x4,some (.lst (xs.map fD))] none= .ex k
  |some q=>(∃x5,iB (aZ (ar fs N) (.and (.cmp .Lt (.bi .len (.cons (.mvr 5) .nil)) (.var 3)) (.cmp .Eq (.sliB (.var 0) (.var 1) (.bin .Add (.var 1) (.con (.int 2)))) (.con (.str ", "))))) (aE (ar fs N) (pj s)) m [some (.str (tx z)),some (.int (ps z l:Nat)),some (.int e),some (.int most),x4,some (.lst (xs.map fD))] none= .ok (.next,[some (.str (tx z)),some (.int (ps z q.2:Nat)),some (.int e),some (.int most),x5,some (.lst (q.1.map fD))],none))
    /\(∀a∈q.1,FN (d+1) a/\(val a).length+pc q.2<=M)/\q.1≠[]/\q.1.length<=most/\q.2 <:+ l
 |0,_,_,_,_,_,h,_,_,_,_=>by omega
 |m+1,x4,c,xs,l,hl,hm,hc,eB,hx,hM=>by
  have iw:z.length<=1000:=⋯
  have e2:(", ":Str)=tx [44,32]:=rfl;have t1:=jo (F:=ar fs N) (S:=none) (ρ:=[some (.str (tx z)),some (.int (ps z l:Nat)),some (.int e),some (.int most),x4,some (.lst (xs.map fD))]) (i:=1) (k:=2) (s:=[44,32]) iw hl rfl (by simp only[RX]) (by simp only[RX]);rw[<-e2]at t1;cases c with
  |zero=>
   have cP:decide ((xs.map fD).length<most)=false:=Rc (by rw[QW];omega);have t:aZ (ar fs N) (.and (.cmp .Lt (.bi .len (.cons (.mvr 5) .nil)) (.var 3)) (.cmp .Eq (.sliB (.var 0) (.var 1) (.bin .Add (.var 1) (.con (.int 2)))) (.con (.str ", ")))) [some (.str (tx z)),some (.int (ps z l:Nat)),some (.int e),some (.int most),x4,some (.lst (xs.map fD))] none= .ok (false,none):=by simp only[RX,Int.ofNat_lt,cP];rfl
   exact⟨⟨x4,by rw[iB,t];rfl⟩,hx,eB,by show xs.length<=_;omega,List.suffix_refl _⟩
  |succ c=>
   have cP:decide ((xs.map fD).length<most)=true:=Rh (by rw[QW];omega);have t:aZ (ar fs N) (.and (.cmp .Lt (.bi .len (.cons (.mvr 5) .nil)) (.var 3)) (.cmp .Eq (.sliB (.var 0) (.var 1) (.bin .Add (.var 1) (.con (.int 2)))) (.con (.str ", ")))) [some (.str (tx z)),some (.int (ps z l:Nat)),some (.int e),some (.int most),x4,some (.lst (xs.map fD))] none= .ok ((lit [44,32] l).isSome,none):=by rw[show∀a b:C,aZ (ar fs N) (.and a b) [some (.str (tx z)),some (.int (ps z l:Nat)),some (.int e),some (.int most),x4,some (.lst (xs.map fD))] none=(aZ (ar fs N) a _ none).bind λx=>if x.1 then aZ (ar fs N) b _ x.2 else .ok (false,x.2) from λ_ _=>rfl];rw[show aZ (ar fs N) (.cmp .Lt (.bi .len (.cons (.mvr 5) .nil)) (.var 3)) [some (.str (tx z)),some (.int (ps z l:Nat)),some (.int e),some (.int most),x4,some (.lst (xs.map fD))] none= .ok (true,none) by simp only[RX,Int.ofNat_lt,cP],R.ah,Ta rfl,t1]
   have hp:dy.cm l=lit [44,32] l:=rfl;unfold jI;rw[hp];cases h0:lit [44,32] l with
   |none=>rw[h0]at t;exact⟨⟨x4,by rw[iB,t];rfl⟩,hx,eB,by show xs.length<=_;omega,List.suffix_refl _⟩
   |some r=>
    rw[h0]at t;obtain⟨er,fQ,_⟩:=cz h0;have fE:2<=l.length:=fQ;have hr:r <:+ l:=by rw[er];exact List.drop_suffix _ _
    have JW:r.length+2=l.length:=by rw[er,R7];show l.length-2+2=_;omega
    have G8:ps z r=ps z l+2:=by rw[er];exact c9 hl fQ
    have h1:=hf r (hr.trans hl);rw[G8]at h1;simp only;cases j6:f r with
    |none=>rw[j6]at h1;have h1:ar fs N s [.str (tx z),.int ((ps z l:Int)+2),.int ((e:Int)+1)] none= .ex k:=h1;show iB _ _ _ _ _=_;rw[iB,t];simp only[R.ah,Option.isSome_some,Tb];rw[show aE (ar fs N) (pj s) [some (.str (tx z)),some (.int (ps z l:Nat)),some (.int e),some (.int most),x4,some (.lst (xs.map fD))] none= .ex k from pF (bS (by simp only[RX,h1];rfl))];rfl
    |some q=>
     rw[j6]at h1;obtain⟨o1,o2,o3,o4⟩:=h1;have hq:=o4.length_le;have QE:=d7 o4;have Py:=d7 hr;have o1:ar fs N s [.str (tx z),.int ((ps z l:Int)+2),.int ((e:Int)+1)] none= .ok (.tup [fD q.1,.int (ps z q.2:Nat)],none):=o1;have body:aE (ar fs N) (pj s) [some (.str (tx z)),some (.int (ps z l:Nat)),some (.int e),some (.int most),x4,some (.lst (xs.map fD))] none= .ok (.next,[some (.str (tx z)),some (.int (ps z q.2:Nat)),some (.int e),some (.int most),some (fD q.1),some (.lst ((xs++[q.1]).map fD))],none):=
      nx (bG (a:=fD q.1) (b:=.int (ps z q.2:Nat)) rfl (by simp only[RX,o1])) (me (ds:=xs.map fD) (d:=fD q.1) rfl (by simp only[RX]) rfl (by rw[QW];unfold lim;omega) (by rw[Rz];rfl))
     have ih:=vp (M:=M) Pp hf m (some (fD q.1)) c (xs++[q.1]) q.2 (o4.trans (hr.trans hl)) ⋯ (by rw[Q3,Sd];omega) ∅ (λa ha=>by
      rcases Q9.mp ha with h|h
      ·have:=(hx a h).2;exact⟨(hx a h).1,⋯⟩
      ·rw[Rm.mp h];exact⟨o2,⋯⟩) ⋯
     simp only[Option.bind_some];have step:iB (aZ (ar fs N) (.and (.cmp .Lt (.bi .len (.cons (.mvr 5) .nil)) (.var 3)) (.cmp .Eq (.sliB (.var 0) (.var 1) (.bin .Add (.var 1) (.con (.int 2)))) (.con (.str ", "))))) (aE (ar fs N) (pj s)) (m+1) [some (.str (tx z)),some (.int (ps z l:Nat)),some (.int e),some (.int most),x4,some (.lst (xs.map fD))] none=
       iB (aZ (ar fs N) (.and (.cmp .Lt (.bi .len (.cons (.mvr 5) .nil)) (.var 3)) (.cmp .Eq (.sliB (.var 0) (.var 1) (.bin .Add (.var 1) (.con (.int 2)))) (.con (.str ", "))))) (aE (ar fs N) (pj s)) m [some (.str (tx z)),some (.int (ps z q.2:Nat)),some (.int e),some (.int most),some (fD q.1),some (.lst ((xs++[q.1]).map fD))] none:=by
      rw[iB,t];simp only[R.ah,Option.isSome_some,Tb,body]
     rw[step];cases tQ:jI dy f c (xs++[q.1]) q.2 with
     |none=>rw[tQ]at ih;exact ih
     |some u=>rw[tQ]at ih;exact⟨ih.1,ih.2.1,ih.2.2.1,ih.2.2.2.1,ih.2.2.2.2.trans (o4.trans hr)⟩
theorem Ge{N e d:Nat}{f:List Nat->Option (TM×List Nat)}(hN:2<=N)(he:e<20)(hf:qB fs s k z (e+1) d (N-1) f):uU fs b k z e (d+1) N (D9 dy f):=λm l r hm1 hm hl h0=>by
 have iw:z.length<=1000:=⋯
 obtain⟨er,fQ,_⟩:=cz h0;have fQ:1<=l.length:=fQ;have hr:r <:+ l:=by rw[er];exact List.drop_suffix _ _
 have JW:r.length+1=l.length:=by rw[er,R7];show l.length-1+1=_;omega
 have G8:ps z r=ps z l+1:=by rw[er];exact c9 hl fQ
 have Po:=hl.length_le;have e1:(")":Str)=tx [41]:=rfl;have start:∀{rr:R (Dt×Sx)},fin (aE (ar fs (N-1)) (KF s k) [some (.str (tx z)),some (.int (ps z l:Nat)),some (.int e),some (.int m),none,none] none)=rr->ar fs N b [.str (tx z),.int (ps z l:Nat),.int e,.int m] none=rr:=λh=>ax H.hb ⋯ rfl h
 have go:=λ {rr:R (Dt×Sx)} (h:fin (aE (ar fs (N-1)) _ _ none)=rr)=>start (aF (by simp only[RX];rw[SZ.mpr ⋯]) h)
 have h1:=hf r (hr.trans hl);rw[G8]at h1;unfold D9;cases j6:f r with
 |none=>rw[j6]at h1;have h1:ar fs (N-1) s [.str (tx z),.int ((ps z l:Int)+1),.int ((e:Int)+1)] none= .ex k:=h1;exact go (cJ (bS (by simp only[RX,h1];rfl)))
 |some q=>
  rw[j6]at h1;obtain⟨o1,o2,o3,o4⟩:=h1;have hq:=o4.length_le;have o1:ar fs (N-1) s [.str (tx z),.int ((ps z l:Int)+1),.int ((e:Int)+1)] none= .ok (.tup [fD q.1,.int (ps z q.2:Nat)],none):=o1;simp only[Option.bind_some];have co:=vp H hz (N:=N-1) (most:=m) (M:=pc r+1) hm hf iA (some (fD q.1)) (m-1) [q.1] q.2 (o4.trans (hr.trans hl)) (by unfold iA;omega) (by show 1+(m-1)=m;omega) ∅ (λa ha=>by rw[Rm.mp ha];exact⟨o2,o3⟩) (by have:=d7 o4;omega);have go2:=λ {rr:R (Dt×Sx)} (h:fin (aE (ar fs (N-1)) _ [some (.str (tx z)),some (.int (ps z q.2:Nat)),some (.int e),some (.int m),some (fD q.1),some (.lst [fD q.1])] none)=rr)=>go (aQ (bG (a:=fD q.1) (b:=.int (ps z q.2:Nat)) rfl (by simp only[RX,o1])) (jq (d:=.lst [fD q.1]) (by simp only[RX]) rfl h))
  cases hc:jI dy f (m-1) [q.1] q.2 with
  |none=>rw[hc]at co;exact go2 (cJ (by rw[hU];exact co))
  |some u=>
   rw[hc]at co;obtain⟨⟨x5,w1⟩,w2,w3,w4,w5⟩:=co;have hu:=w5.length_le;have NO:u.2 <:+ z:=w5.trans (o4.trans (hr.trans hl));have yV:=λ {rr:R (Dt×Sx)} (h:fin (aE (ar fs (N-1)) _ [some (.str (tx z)),some (.int (ps z u.2:Nat)),some (.int e),some (.int m),x5,some (.lst (u.1.map fD))] none)=rr)=>go2 (aQ (by rw[hU];exact w1) h)
   have t1:=C0 (F:=ar fs (N-1)) (S:=none) (ρ:=[some (.str (tx z)),some (.int (ps z u.2:Nat)),some (.int e),some (.int m),x5,some (.lst (u.1.map fD))]) (i:=1) (k:=1) (s:=[41]) iw NO rfl (by simp only[RX]) (by simp only[RX]);rw[<-e1]at t1;have zW:dy.cl u.2=lit [41] u.2:=rfl;simp only[Option.bind_some,zW];cases h41:lit [41] u.2 with
   |none=>rw[h41]at t1;exact yV (aS t1 (eM (by rw[RT,g9 rfl (kO iw)];rfl)))
   |some r3=>
    rw[h41]at t1;obtain⟨nI,Df,_⟩:=cz h41;have Df:1<=u.2.length:=Df;have Pv:=c9 NO (k:=1) Df;have LM:r3 <:+ u.2:=by rw[nI];exact List.drop_suffix _ _
    have Qt:=LM.length_le;refine⟨yV (aF t1 (aj ?_)),λa ha=>⟨(w2 a ha).1,?_⟩,w3,w4,(by show r3.length+1<=l.length;omega),LM.trans (w5.trans (o4.trans hr))⟩
    ·rw[nI];simp only[RX];rw[show ([41]:List Nat).length=1 from rfl,Pv];rfl
    ·have:=(w2 a ha).2;have Qu:=d7 LM;have Py:=d7 hr;show (val a).length+pc r3<=_;omega
theorem sQ(JT:pc z<=62):∀(d:Nat){N:Nat},d<=20->4*d+5<=N->qB fs s k z (20-d) d N (gB dy d)
 |0,N,_,hN=>yl H hz JT ⋯ (λm l r _ _ hl h0=>by
   have iw:z.length<=1000:=⋯
   show ar fs (N-3) b [.str (tx z),.int (ps z l:Nat),.int (20:Nat),.int m] none= .ex k;exact ax H.hb ⋯ rfl (aS (by simp only[RX];rfl) (eM (by rw[RT,g9 rfl (kO (l:=l) iw)];rfl)))) ⋯
 |d+1,N,hd,hN=>by have ih:=sQ JT d (N:=N-4) ⋯ ⋯;refine yl H hz JT ⋯ (Ge H hz ⋯ ⋯ ?_) hd;rw[show 20-(d+1)+1=20-d by omega,show N-3-1=N-4 by omega];exact ih
end
def qI(s k:Nat):Ts:=(.cons (.ifs (.nt (.bi (.isi "str") (.cons (.var 0) .nil))) (.cons (.rs k []) .nil) .nil) (.cons (.ifs (.cmp .Gt (.bi .len (.cons (.var 0) .nil)) (.con (.int 600))) (.cons (.rs k []) .nil) .nil) (.cons (.asgT [1,2] (.call s (.cons (.var 0) (.cons (.con (.int 0)) (.cons (.con (.int 0)) .nil))) [])) (.cons (.ifs (.cmp .Lt (.var 2) (.bi .len (.cons (.var 0) .nil))) (.cons (.rs k [2]) .nil) .nil) (.cons (.ret (.var 1)) .nil)))))
def jJ(l:List Nat):Option TM:=if 600<l.length then none else(gB dy 20 l).bind λp=>if p.2=[] then some p.1 else none
theorem sy{g p t s a n o b w r k rd:Nat}(H:JA fs g p t s a n o b w r k)(hf:fs[rd]?=some ⟨1,3,false,qI s k⟩){N:Nat}(hN:90<=N){z:List Nat}(hz:z.length<=100000)(h1:z.length<=600->Rs k z 21 z (ar fs (N-1) s [.str (tx z),.int (ps z z:Nat),.int (0:Nat)] none) (gB dy 20 z)):
  match jJ z with
  |none=>ar fs N rd [.str (tx z)] none= .ex k
  |some x=>ar fs N rd [.str (tx z)] none= .ok (fD x,none)/\FN 21 x:=by
 have start:∀{rr:R (Dt×Sx)},fin (aE (ar fs (N-1)) (qI s k) [some (.str (tx z)),none,none] none)=rr->ar fs N rd [.str (tx z)] none=rr:=λh=>ax hf ⋯ rfl h
 have hlen:=len_str (z:=tx z) (by rw[b5];exact QY hz ‹_›);rw[b5]at hlen;have hi:cR (.isi "str") [.str (tx z)]= .ok (.bl true):=rfl;have go:=λ {rr:R (Dt×Sx)} (h:fin (aE (ar fs (N-1)) _ [some (.str (tx z)),none,none] none)=rr)=>start (aF (by simp only[RX,hi];rfl) h)
 unfold jJ;by_cases c:600<z.length
 ·rw[Ta c];exact go (aS (by simp only[RX,hlen];rw[Rh ⋯]) (eM rfl))
 ·rw[S9 c];have h1:=h1 ⋯;have go2:=λ {rr:R (Dt×Sx)} (h:fin (aE (ar fs (N-1)) _ [some (.str (tx z)),none,none] none)=rr)=>go (aF (by simp only[RX,hlen];rw[Rc ⋯]) h)
  have p0:ps z z=0:=by unfold ps;omega
  rw[p0]at h1;cases hs:gB dy 20 z with
  |none=>rw[hs]at h1;have h1:ar fs (N-1) s [.str (tx z),.int 0,.int 0] none= .ex k:=h1;exact go2 (cJ (bS (by simp only[RX,h1];rfl)))
  |some q=>
   rw[hs]at h1;obtain⟨o1,o2,o3,o4⟩:=h1;have o1:ar fs (N-1) s [.str (tx z),.int 0,.int 0] none= .ok (.tup [fD q.1,.int (ps z q.2:Nat)],none):=o1;have pq:=B5 o4;have yV:=λ {rr:R (Dt×Sx)} (h:fin (aE (ar fs (N-1)) _ [some (.str (tx z)),some (fD q.1),some (.int (ps z q.2:Nat))] none)=rr)=>go2 (aQ (bG (a:=fD q.1) (b:=.int (ps z q.2:Nat)) rfl (by simp only[RX,o1])) h)
   simp only[Option.bind_some];by_cases e:q.2=[]
   ·rw[Ta e];rw[e]at pq;exact⟨yV (aF (by simp only[RX,hlen];rw[Rc (by rw[e];simp at pq;omega)]) (aj (by simp only[RX]))),o2⟩
   ·rw[S9 e];have:=List.length_pos_iff.mpr e;exact yV (aS (by simp only[RX,hlen];rw[Rh ⋯]) (eM (by rw[RT,g9 rfl (kO (z:=z) (l:=q.2) ⋯)];rfl)))
theorem Cd{g p t s a n o b w r k:Nat}(H:JA fs g p t s a n o b w r k){N:Nat}(hN:90<=N){z:List Nat}(hp:pc z<=62)(hz:z.length<=600):Rs k z 21 z (ar fs (N-1) s [.str (tx z),.int (ps z z:Nat),.int (0:Nat)] none) (gB dy 20 z):=sQ H hz hp 20 (N:=N-1) ⋯ ⋯ z (List.suffix_refl _)
end Rx
end
section
namespace Rx
open PySem PySem.W PySem.Spec PyProof.Rows L2 PySem.SeqAt
theorem ye{fs:List Fn}{n k:Nat}{g:Fn}{args:List Dt}{S:Sx}(h:fs[k]?=some g):ar fs (n+1) k args S=fJ (ar fs n) g args S:=by show (match fs[k]? with|some g=>fJ (ar fs n) g args S|none=>R.bad)=_;rw[h]
section
variable{g:G}{K:Frag}{mg:Str->Option Value}{P:Program}{w:World}{base:Heap}{fs:List Fn}
theorem pS{n L m:Nat}{params:Arguments}{body:List Stmt}{scope:Scope}{dV kV doc pm eD ct oc:Value}{an od:Option Addr}{rT:Array (Option Value)}{f:Addr}{N ps:List Str}{M:List Bool}{δ κ:Option Nat}{fF:Bool}{ts:Ts}
  {xv:Nat->Value} (hm:MG g mg) (Ac:XG g K mg xv) (ok:mY g K mg 0 g.fns fs) (lk:K.lookup f=some ⟨oc,od,.func (PySem.W.fnOf "law" "law" params body scope dV kV doc pm an eD ct),rT⟩) (uL:PySem.W.codeIn K eD "law"=true) (S:dS N ps scope)
  (hM:∀i,i<ps.length->M[i]?≠some true) (hp:ps.length=1) (hc:CP m g ⟨scope.names,N,M,δ,κ⟩ false fF body=some ts) (hf:fs[L]?=some ⟨1,N.length,false,ts⟩)
  (hn:∀ns:List Int,ns.length<=63->∃S,ar fs (n+1) L [.bR ns] none= .ok (.bl true,S)):
  gS P w K mg base (mT P w) (n+1) f (PySem.W.fnOf "law" "law" params body scope dV kV doc pm an eD ct) ps (sN K):=by
 have h:=kB (xv:=xv) (P:=P) (w:=w) (base:=base) lk uL S hm Ac (jO (P:=P) (w:=w) (base:=base) (xv:=xv) hm Ac ok n) hM (λz=>by cases z) hc;refine h.imp λvs H Q E q=>?_
 obtain⟨a,ns,rfl,hs,hl,hq⟩:=q;obtain⟨S',hS⟩:=hn ns hl;rw[ye hf]at hS;rw[hp];refine⟨rfl,N0,none,[.bR ns],none,[.ref a],⟨rfl,rfl,rfl⟩,ak.cons ?_ ak.nil,λb z=>z.elim,?_⟩
 ·unfold RV;refine⟨a,rfl,?_⟩;rcases hs with hs|hs
  ·exact .inl ⟨hs,λz=>z⟩
  ·exact .inr hs
 ·rw[hS];intro v H' fo;rw[fo.val.bC];exact hq H'
end
theorem walkR{l:PySem.W.OpenLaw}{q:Program}{k:Nat}{loose:List Str}{XP:(Str->Option Value)->Heap->Prop}{YP:World->Heap->Prop}{d:DefRec}{K:Params->PySem.W.Frag}(hn:l.most=some 63)(GZ:d.params.defaults=[])(hr:f7 k callerA)
  (hY:∀(w:World)(h:Heap),YP w h->(K w.params).In h)
  (F:∀(w:World)(mg:Str->Option Value)(fa:Addr)(h:Heap),(K w.params).In h->h.Ns mainGlobals mg->mg d.name=some (.ref fa)->
   ∃fd:FuncData,(∀(s:Shared)(u:Value),BindsTo s fd ⟨[u],[]⟩ [("_law_script",u)])/\∀base:Heap,(K w.params).In base->base.Ns mainGlobals mg->gS l.prog w (K w.params) mg base (mT l.prog w) k fa fd ["_law_script"] (sN (K w.params))):
  PySem.W.WalkO q loose XP YP l.row.toRowW d [] (λf vs=>PySem.call f vs):=
 L2.sY (n:=63) (k:=k) (x:="_law_script") (CX:=λw=>mT l.prog w) (sp:=λw=>sN (K w.params)) hn ‹_› GZ hr hY F (λ_ _ a ns hl _ hS=>⟨a,ns,rfl,hS,hl,λ_=>rfl⟩) λ_ _ _ _ _ z=>by obtain⟨_,_,_,_,_,_,_,_,_,z⟩:=z;exact z
structure Row where
 nm:Str
 s:Stmt
 ps:List Str
 ms:List Str:=[]
 dr:Option Str:=none
 dp:Bool:=false
 eK:List Dt:=[]
 dk:Option Str:=none
namespace Row
def N(r:Row):List Str:=P2 (bg r.s).names r.ps
def gm(r:Row):Gm:=⟨(bg r.s).names,r.N,FL r.N r.ms,if r.dp then some 0 else r.dr.bind (wy · r.N),r.dk.bind (wy · r.N)⟩
def fn(g:G)(j:Nat)(r:Row):Option Fn:=(CP 60 g r.gm r.dp (g.fr j) (gc r.s)).map λts=>⟨r.ps.length,r.N.length,r.dp,ts⟩
def ent(r:Row):Str×Nat×List Dt×Bool:=(r.nm,r.ps.length,r.eK,r.dp)
def ok(r:Row):Bool:=
 ((bg r.s).kind== .function)&& !(bg r.s).isCoroutine&& !(bg r.s).isGenerator&&decide r.N.Nodup&&decide (r.N.take r.ps.length=r.ps)&&
 (r.ps.all λx=>(bg r.s).names.lookup x==some .local||(bg r.s).names.lookup x==some .cell)&&((bg r.s).names.all λy=>y.2 != .free)&&
 ((FL r.N r.ms).take r.ps.length).all (λb=> !b)&&r.eK.all mW
theorem scope{r:Row}(h:r.ok=true):dS r.N r.ps (bg r.s)/\(∀i,i<r.ps.length->(FL r.N r.ms)[i]?≠some true)/\r.eK.all mW=true:=by
 unfold ok at h;simp only[QO]at h;obtain⟨⟨⟨⟨⟨⟨⟨⟨h1,h2⟩,h3⟩,h4⟩,h5⟩,h6⟩,h7⟩,h8⟩,h9⟩:=h;refine⟨⟨Ra h1,by simpa using h2,by simpa using h3,QQ h4,QQ h5,λx hx=>?_,λy hy e=>?_⟩,HA h8,h9⟩
 ·have:=Ro.mp h6 x hx;rcases RI.mp this with z|z
  ·exact .inl (Ra z)
  ·exact .inr (Ra z)
 ·have:=Ro.mp h7 y hy;rw[e]at this;cases this
end Row
def nL(g:G):Nat->List Row->Option (List Fn)
 |_,[]=>some []
 |j,r::rs=>(r.fn g j).bind λf=>(nL g (j+1) rs).map (f:: ·)
def Fd(K:Frag)(nm:Str)(s:Stmt)(ps:List Str)(eK:List Dt):Prop:=∃(fa:Addr)(oc dV kV doc pm eD ct:Value)(od an:Option Addr)(rT:Array (Option Value)),
 nsIn K mainGlobals nm=some (some (.ref fa))/\K.lookup fa=some ⟨oc,od,.func (fnOf nm nm (lC s) (gc s) (bg s) dV kV doc pm an eD ct),rT⟩/\codeIn K eD nm=true/\keepIn K (.ref fa)=true/\(eK=[]->dV= .none)/\
 ∀j,j<=eK.length->∃ds,au ((eK.drop j).map o7) ds/\Binds K (fnOf nm nm (lC s) (gc s) (bg s) dV kV doc pm an eD ct) ps ds
def Jp(K:Frag):List Row->Prop
 |[]=>True
 |r::rs=>Fd K r.nm r.s r.ps r.eK/\Jp K rs
section
variable{g:G}{K:Frag}{mg:Str->Option Value}{h:Heap}{fs:List Fn}
theorem vR(X:K.In h)(Gs:h.Ns mainGlobals mg):∀{rs:List Row}{i:Nat}{fs:List Fn},rs.all Row.ok=true->nL g i rs=some fs->Jp K rs->mY g K mg i (rs.map Row.ent) fs
 |[],i,fs,_,e,_=>by cases e;trivial
 |r::rs,i,fs,hk,e,F=>by rw[RT,QO]at hk;obtain⟨f,e1,e⟩:=QL.mp e;obtain⟨OL,e2,rfl⟩:=Q2.mp e;obtain⟨ts,c1,rfl⟩:=Q2.mp e1;obtain⟨⟨fa,oc,dV,kV,doc,pm,eD,ct,od,an,rT,a,l,c,k,_,b⟩,F⟩:=F;obtain⟨s1,s2,s3⟩:=Row.scope hk.1;exact⟨⟨fa,r.ps,r.N,_,_,_,60,oc,od,an,rT,_,_,_,dV,kV,doc,pm,eD,ct,l,c,k,mg_of X Gs a,s1,s2,λz=>Ta z,rfl,c1,rfl,rfl,rfl,b,s3⟩,vR X Gs hk.2 e2 F⟩
theorem C6{rs:List Row}:∀{L i:Nat}{fs:List Fn}{r:Row},nL g i rs=some fs->rs[L]?=some r->∃ts,CP 60 g r.gm r.dp (g.fr (i+L)) (gc r.s)=some ts/\fs[L]?=some ⟨r.ps.length,r.N.length,r.dp,ts⟩:=by
 induction rs with
 |nil=>intro L i fs r _ e;simp at e
 |cons r0 rs ih=>
  intro L i fs r e hr;obtain⟨f,e1,e⟩:=QL.mp e;obtain⟨OL,e2,rfl⟩:=Q2.mp e;cases L with
  |zero=>cases hr;obtain⟨ts,c1,rfl⟩:=Q2.mp e1;exact⟨ts,c1,rfl⟩
  |succ L=>obtain⟨ts,c1,c2⟩:=ih e2 ‹hr›;exact⟨ts,by rw[show i+(L+1)=i+1+L by omega];exact c1,by simpa using c2⟩
theorem vJ:∀{rs:List Row}{L:Nat}{r:Row},Jp K rs->rs[L]?=some r->Fd K r.nm r.s r.ps r.eK
 |[],L,r,_,e=>by simp at e
 |r0::rs,0,r,F,e=>by cases e;exact F.1
 |r0::rs,L+1,r,F,e=>vJ F.2 ‹e›
def Kr(K:Frag):List Str->Prop
 |[]=>True
 |x::xs=>nsIn K mainGlobals x=some none/\Kr K xs
def Kl(K:Frag):List (Str×Dt)->Prop
 |[]=>True
 |x::xs=>(∃u,nsIn K mainGlobals x.1=some (some u)/\mW x.2=true/\RelV (o7 x.2) u)/\Kl K xs
theorem wN{x:Str}:∀{xs:List Str},Kr K xs->x∈xs->nsIn K mainGlobals x=some none
 |y::xs,h,hx=>by
  rcases QZ.mp hx with rfl|hx
  ·exact h.1
  ·exact wN h.2 hx
theorem vq{x:Str}{d:Dt}:∀{xs:List (Str×Dt)},Kl K xs->xs.lookup x=some d->∃u,nsIn K mainGlobals x=some (some u)/\mW d=true/\RelV (o7 d) u
 |[],_,e=>by simp at e
 |y::xs,h,e=>by
  rw[Re]at e;split at e
  ·rename_i q;cases e;rw[Ra q];exact h.1
  ·exact vq h.2 e
def Ky(K:Frag)(C:Addr):List (Str×Bool)->Prop
 |[]=>True
 |x::xs=>(∃c,(nsIn K mainGlobals x.1=some (some c)/\(∃D,c= .ref D)\/nsIn K mainGlobals x.1=some none/\x.1="ValueError"/\c= .type "ValueError")/\kitOne K (.ref C) c=some x.2/\(x.2=true->exmOne K (.ref C) c=some true))/\Ky K C xs
def Kx(K:Frag):List (Str×List (Str×Bool))->Prop
 |[]=>True
 |x::xs=>(∃C,nsIn K mainGlobals x.1=some (some (.ref C))/\excIn K C CM "ValueError.__new__"=true/\uY K C/\Ky K C x.2)/\Kx K xs
theorem yM(X:K.In h)(Gs:h.Ns mainGlobals mg){C:Addr}{t:Str}{b:Bool}:∀{xs:List (Str×Bool)},Ky K C xs->xs.lookup t=some b->∃c,(mg t=some c/\(∃D,c= .ref D)\/mg t=none/\t="ValueError"/\c= .type "ValueError")/\kitOne K (.ref C) c=some b/\(b=true->exmOne K (.ref C) c=some true)
 |[],_,e=>by simp at e
 |y::xs,hx,e=>by
  rw[Re]at e;split at e
  ·rename_i q;cases e;rw[Ra q];obtain⟨c,h1,h2⟩:=hx.1;exact⟨c,h1.imp (λz=>⟨mg_of X Gs z.1,z.2⟩) λz=>⟨mg_none_of X Gs z.1,z.2⟩,h2⟩
  ·exact yM X Gs hx.2 e
def Jn(g:G)(mg:Str->Option Value)(k:Nat):Value:=((g.xs[k]?).bind λx=>mg x.1).getD .none
theorem yJ(X:K.In h)(Gs:h.Ns mainGlobals mg):∀{xs:List (Str×List (Str×Bool))}{k:Nat}{x:Str}{ts:List (Str×Bool)},Kx K xs->xs[k]?=some (x,ts)->∃C,mg x=some (.ref C)/\Fy K mg C ts
 |[],k,x,ts,_,e=>by simp at e
 |y::xs,0,x,ts,hx,e=>by cases e;obtain⟨C,h1,h2,h3,h4⟩:=hx.1;exact⟨C,mg_of X Gs h1,h2,h3,λt b q=>yM X Gs h4 q⟩
 |y::xs,k+1,x,ts,hx,e=>yJ X Gs hx.2 ‹e›
theorem law_mk{l:OpenLaw}{w:World}{fa:Addr}{rs:List Row}{cons:List (Str×Dt)}{bls:List Str}{fr:Nat->Bool}{xs:List (Str×List (Str×Bool))}{L n:Nat}{sL:Stmt}{ms:List Str}{dr kd:Option Str}(X:K.In h)(Gs:h.Ns mainGlobals mg)(Pd:mg "law"=some (.ref fa))
  (hL:rs[L]?=some ⟨"law",sL,["_law_script"],ms,dr,false,[],kd⟩) (hk:rs.all Row.ok=true) (hfs:nL ⟨rs.map Row.ent,cons,bls,fr,xs⟩ 0 rs=some fs)
  (hb:∀(s:Shared)(v:Value)(kV doc pm eD ct:Value)(an:Option Addr),BindsTo s (fnOf "law" "law" (lC sL) (gc sL) (bg sL) .none kV doc pm an eD ct) ⟨[v],[]⟩ [("_law_script",v)])
  (hn:∀ns:List Int,ns.length<=63->∃S,ar fs (n+1) L [.bR ns] none= .ok (.bl true,S)) (B:Kr K bls) (C:Kl K cons) (F:Jp K rs) (E:Kx K xs):
  ∃fd:FuncData,(∀(s:Shared)(v:Value),BindsTo s fd ⟨[v],[]⟩ [("_law_script",v)])/\∀base:Heap,K.In base->base.Ns mainGlobals mg->gS l.prog w K mg base (mT l.prog w) (n+1) fa fd ["_law_script"] (sN K):=by
 have Ac:XG ⟨rs.map Row.ent,cons,bls,fr,xs⟩ K mg (Jn ⟨rs.map Row.ent,cons,bls,fr,xs⟩ mg):=λk x ts e=>by obtain⟨C,h1,h2⟩:=yJ X Gs E e;have e:xs[k]?=some (x,ts):=e;exact⟨C,by simp[Jn,e,h1],h1,h2⟩
 have hm:MG ⟨rs.map Row.ent,cons,bls,fr,xs⟩ mg:=⟨λx d hx=>by
   obtain⟨u,k1,k2,k3⟩:=vq C hx;exact⟨u,k2,mg_of X Gs k1,k3⟩,λx hx=>mg_none_of X Gs (wN B hx)⟩
 have ok:=vR (g:=⟨rs.map Row.ent,cons,bls,fr,xs⟩) X Gs hk hfs F;obtain⟨Qs,oc,dV,kV,doc,pm,eD,ct,od,an,rT,a,lk,c,k,hd,b⟩:=vJ F hL;cases hd rfl;have e:=Pd.symm.trans (mg_of X Gs a);cases e;obtain⟨ts,c1,c2⟩:=C6 hfs hL;have hok:=Row.scope (Ro.mp hk _ (Sj.mpr ⟨L,hL⟩));exact⟨_,λs v=>hb s v kV doc pm eD ct an,λbase _ _=>pS hm Ac ok lk c hok.1 hok.2.1 rfl c1 c2 hn⟩
end
end Rx
end
section
namespace K14
open PySem PySem.W PySem.Spec PyProof.Rows L2 Mx Rx
def top(i:Nat):Stmt:=PySem.Challenge.pw_mixform_k14_no_text.main.body.getD i (.Pass ⟨0,0,0,0⟩)
abbrev rows:List Rx.Row:=[⟨"gathered",top 7,["pairs"],["whole"],none,false,[],none⟩,
 ⟨"plus",top 8,["one","other"],[],none,false,[],none⟩,
 ⟨"times",top 9,["number","form"],[],none,false,[],none⟩,
 ⟨"read",top 16,["text"],[],none,false,[],none⟩,
 ⟨"read_sum",top 17,["text","at","deep"],[],none,false,[],none⟩,
 ⟨"read_part",top 18,["text","at","deep"],[],none,false,[],none⟩,
 ⟨"read_number",top 19,["text","at"],[],none,false,[],none⟩,
 ⟨"read_once",top 20,["text","at","deep"],[],none,false,[],none⟩,
 ⟨"read_brackets",top 21,["text","at","deep","most"],["forms"],none,false,[],none⟩,
 ⟨"word_end",top 22,["text","at","first","last"],[],none,false,[],none⟩,
 ⟨"run_end",top 23,["text","at","first","last"],[],none,false,[],none⟩,
 ⟨"_law_cell",top 25,["_law_script","_law_k"],[],none,false,[],none⟩,
 ⟨"_law_pick",top 26,["_law_script","_law_k","_law_many"],[],none,false,[],none⟩,
 ⟨"_law_names",top 27,["_law_script","_law_k","_law_letters"],["_law_names_here"],none,false,[],none⟩,
 ⟨"_law_unknowns",top 28,["_law_script","_law_k"],[],none,false,[],none⟩,
 ⟨"_law_signs",top 29,["_law_script","_law_k"],[],none,false,[],none⟩,
 ⟨"_law_same",top 31,["_law_found","_law_due"],[],none,false,[],none⟩,
 ⟨"_law_refused",top 32,["_law_thing"],[],none,false,[],none⟩,
 ⟨"_law_any",top 33,["_law_name","_law_count"],[],none,false,[],none⟩,
 ⟨"_law_of",top 34,["_law_sign","_law_parts"],[],none,false,[],none⟩,
 ⟨"_law_by_number",top 35,["_law_way","_law_x","_law_s","_law_number"],[],none,false,[],none⟩,
 ⟨"_law_by_word",top 36,["_law_way","_law_x","_law_s"],[],none,false,[],none⟩,
 ⟨"_law_by_plus",top 37,["_law_way","_law_x","_law_s"],[],none,false,[],none⟩,
 ⟨"_law_by_parts",top 38,["_law_way","_law_x","_law_s"],[],none,false,[],none⟩,
 ⟨"_law_by_size",top 39,["_law_way","_law_x","_law_s"],[],none,false,[],none⟩,
 ⟨"_law_within",top 40,["_law_way","_law_x","_law_s","_law_told"],[],none,false,[],none⟩,
 ⟨"_law_pair",top 41,["_law_script","_law_k","_law_x","_law_s"],[],none,false,[],none⟩,
 ⟨"law",top 42,["_law_script"],[],none,false,[],none⟩]
abbrev cons:List (Str×Dt):=[("MOST_SIGNS",(.int 600)),("MOST_DEEP",(.int 20)),("MOST_FIGURES",(.int 18)),("MOST_LETTERS",(.int 6)),("MOST_PARTS",(.int 3))]
abbrev bls:List Str:=["bool","int","isinstance","len","list","max","min","range","sorted","str","tuple","zip"]
abbrev fr(i:Nat):Bool:=[false,false,false,false,false,false,false,false,false,false,false,false,true,true,true,true,false,false,false,false,true,true,true,true,true,false,false,false].getD i false
abbrev xs:List (Str×List (Str×Bool)):=[("NoText",[("MixError",true),("NoRow",false),("NoRule",false),("NoText",true),("TooMany",false),("ValueError",true)])]
def Nb:Ts:=(.cons (.ret (.call 13 (.cons (.var 0) (.cons (.var 1) (.cons (.con (.str "abcdefghijklmnopqrstuvwxyz")) .nil))) [])) .nil)
def Nc:Ts:=(.cons (.ret (.call 13 (.cons (.var 0) (.cons (.var 1) (.cons (.con (.str "ABCDEFGHIJKLMNOPQRSTUVWXYZ")) .nil))) [])) .nil)
def KA:Ts:=(.cons (.tr (.cons (.FC (.call 3 (.cons (.var 0) .nil) [])) .nil) [some true]) (.cons (.ret (.con (.bl false))) .nil))
def KB:Ts:=(.cons (.ret (.tup (.cons (.tup (.cons (.tup (.cons (.con (.str "any")) (.cons (.var 0) .nil))) (.cons (.var 1) .nil))) .nil))) .nil)
def KC:Ts:=(.cons (.ret (.tup (.cons (.tup (.cons (.tup (.cons (.con (.str "of")) (.cons (.var 0) (.cons (.var 1) .nil)))) (.cons (.con (.int 1)) .nil))) .nil))) .nil)
def Fz:Ts:=(.cons (.asg 4 (.bi .str (.cons (.var 3) .nil))) (.cons (.asg 5 (.call 18 (.cons (.var 1) (.cons (.var 3) .nil)) [])) (.cons (.asg 6 (.lst (.cons (.tup (.cons (.bin .Add (.bin .Add (.con (.str "0")) (.var 4)) (.var 1)) (.cons (.bin .Add (.var 4) (.var 1)) .nil))) (.cons (.tup (.cons (.bin .Add (.bin .Add (.con (.str "-")) (.var 4)) (.var 1)) (.cons (.bin .Add (.var 4) (.var 1)) .nil))) (.cons (.tup (.cons (.bin .Add (.bin .Add (.con (.str "+")) (.var 4)) (.var 1)) (.cons (.bin .Add (.var 4) (.var 1)) .nil))) (.cons (.tup (.cons (.var 4) (.cons (.bin .Add (.var 4) (.var 1)) .nil))) .nil)))))) (.cons (.asg 6 (.bin .Add (.var 6) (.lst (.cons (.tup (.cons (.bin .Add (.bin .Add (.var 4) (.con (.str " "))) (.var 1)) (.cons (.bin .Add (.var 4) (.var 1)) .nil))) (.cons (.tup (.cons (.bin .Add (.var 4) (.con (.str "0"))) (.cons (.bin .Add (.var 4) (.var 1)) .nil))) (.cons (.tup (.cons (.bin .Add (.bin .Add (.var 4) (.con (.str "*"))) (.var 1)) (.cons (.bin .Add (.var 4) (.var 1)) .nil))) (.cons (.tup (.cons (.bin .Add (.var 1) (.var 4)) (.cons (.bin .Add (.var 4) (.var 1)) .nil))) .nil))))))) (.cons (.asg 6 (.bin .Add (.var 6) (.lst (.cons (.tup (.cons (.bin .Add (.bin .Add (.var 4) (.con (.str "."))) (.var 1)) (.cons (.bin .Add (.var 4) (.var 1)) .nil))) (.cons (.tup (.cons (.bin .Add (.bin .Add (.var 4) (.con (.str "("))) (.var 1)) (.cons (.bin .Add (.bin .Add (.bin .Add (.var 4) (.con (.str "("))) (.var 1)) (.con (.str ")"))) .nil))) (.cons (.tup (.cons (.bin .Add (.bin .Add (.var 4) (.var 1)) (.con (.str ")"))) (.cons (.bin .Add (.var 4) (.var 1)) .nil))) .nil)))))) (.cons (.asg 6 (.bin .Add (.var 6) (.lst (.cons (.tup (.cons (.bin .Add (.bin .Add (.con (.str "1")) (.var 4)) (.bin .Mult (.var 1) (.con (.int 0)))) (.cons (.bin .Add (.bin .Add (.bin .Add (.con (.str "(")) (.var 4)) (.var 1)) (.con (.str ")"))) .nil))) (.cons (.tup (.cons (.bin .Add (.bin .Add (.var 4) (.var 1)) (.con (.str " + "))) (.cons (.bin .Add (.var 4) (.var 1)) .nil))) (.cons (.tup (.cons (.bin .Add (.bin .Add (.var 4) (.var 1)) (.con (.str ","))) (.cons (.bin .Add (.var 4) (.var 1)) .nil))) .nil)))))) (.cons (.asgT [7,8] (.idx (.var 6) (.bin .Mod (.var 0) (.bi .len (.cons (.var 6) .nil))))) (.cons (.ret (.lst (.cons (.var 7) (.cons (.var 8) (.cons (.var 5) .nil))))) .nil))))))))
def F8:Ts:=(.cons (.asg 3 (.lst (.cons (.tup (.cons (.bin .Add (.con (.str "0")) (.var 1)) (.cons (.var 1) (.cons (.call 18 (.cons (.var 1) (.cons (.con (.int 1)) .nil)) []) .nil)))) (.cons (.tup (.cons (.con (.str "abcdefg")) (.cons (.con (.str "abcdef")) (.cons (.call 18 (.cons (.con (.str "abcdef")) (.cons (.con (.int 1)) .nil)) []) .nil)))) (.cons (.tup (.cons (.con (.str "00")) (.cons (.con (.str "0")) (.cons (.tup .nil) .nil)))) .nil))))) (.cons (.asg 3 (.bin .Add (.var 3) (.lst (.cons (.tup (.cons (.con (.str "ABCDEFG")) (.cons (.con (.str "ABCDEF")) (.cons (.call 19 (.cons (.con (.str "ABCDEF")) (.cons (.tup .nil) .nil)) []) .nil)))) (.cons (.tup (.cons (.bin .Add (.var 1) (.var 2)) (.cons (.var 1) (.cons (.call 18 (.cons (.var 1) (.cons (.con (.int 1)) .nil)) []) .nil)))) (.cons (.tup (.cons (.con (.str "")) (.cons (.con (.str "0")) (.cons (.tup .nil) .nil)))) .nil)))))) (.cons (.asg 3 (.bin .Add (.var 3) (.lst (.cons (.tup (.cons (.bin .Add (.var 2) (.var 1)) (.cons (.var 2) (.cons (.call 19 (.cons (.var 2) (.cons (.tup .nil) .nil)) []) .nil)))) (.cons (.tup (.cons (.bin .Add (.bin .Add (.bin .Add (.var 1) (.con (.str "("))) (.var 1)) (.con (.str ")"))) (.cons (.var 1) (.cons (.call 18 (.cons (.var 1) (.cons (.con (.int 1)) .nil)) []) .nil)))) (.cons (.tup (.cons (.con (.str "a_b")) (.cons (.con (.str "a")) (.cons (.call 18 (.cons (.con (.str "a")) (.cons (.con (.int 1)) .nil)) []) .nil)))) .nil)))))) (.cons (.asg 3 (.bin .Add (.var 3) (.lst (.cons (.tup (.cons (.bin .Add (.bin .Add (.con (.str "0(")) (.var 1)) (.con (.str ")"))) (.cons (.bin .Add (.bin .Add (.con (.str "(0 + ")) (.var 1)) (.con (.str ")"))) (.cons (.call 18 (.cons (.var 1) (.cons (.con (.int 1)) .nil)) []) .nil)))) (.cons (.tup (.cons (.bin .Add (.con (.str "0")) (.var 2)) (.cons (.var 2) (.cons (.call 19 (.cons (.var 2) (.cons (.tup .nil) .nil)) []) .nil)))) (.cons (.tup (.cons (.con (.str " ")) (.cons (.con (.str "0")) (.cons (.tup .nil) .nil)))) .nil)))))) (.cons (.asg 3 (.bin .Add (.var 3) (.lst (.cons (.tup (.cons (.bin .Add (.bi .str (.cons (.bin .Pow (.con (.int 10)) (.con (.int 18))) .nil)) (.var 1)) (.cons (.bin .Add (.bi .str (.cons (.bin .Sub (.bin .Pow (.con (.int 10)) (.con (.int 18))) (.con (.int 1))) .nil)) (.var 1)) (.cons (.call 18 (.cons (.var 1) (.cons (.bin .Sub (.bin .Pow (.con (.int 10)) (.con (.int 18))) (.con (.int 1))) .nil)) []) .nil)))) .nil)))) (.cons (.asg 3 (.bin .Add (.var 3) (.lst (.cons (.tup (.cons (.bin .Add (.con (.str "01")) (.var 1)) (.cons (.bin .Add (.con (.str "1")) (.var 1)) (.cons (.call 18 (.cons (.var 1) (.cons (.con (.int 1)) .nil)) []) .nil)))) (.cons (.tup (.cons (.bin .Add (.var 1) (.con (.str "1"))) (.cons (.var 1) (.cons (.call 18 (.cons (.var 1) (.cons (.con (.int 1)) .nil)) []) .nil)))) .nil))))) (.cons (.asg 3 (.bin .Add (.var 3) (.lst (.cons (.tup (.cons (.bin .Add (.var 1) (.con (.str " "))) (.cons (.var 1) (.cons (.call 18 (.cons (.var 1) (.cons (.con (.int 1)) .nil)) []) .nil)))) (.cons (.tup (.cons (.bin .Add (.con (.str " ")) (.var 1)) (.cons (.var 1) (.cons (.call 18 (.cons (.var 1) (.cons (.con (.int 1)) .nil)) []) .nil)))) (.cons (.tup (.cons (.bin .Add (.var 1) (.con (.str "\n"))) (.cons (.var 1) (.cons (.call 18 (.cons (.var 1) (.cons (.con (.int 1)) .nil)) []) .nil)))) .nil)))))) (.cons (.asg 3 (.bin .Add (.var 3) (.lst (.cons (.tup (.cons (.con (.str "()")) (.cons (.con (.str "(0)")) (.cons (.tup .nil) .nil)))) (.cons (.tup (.cons (.bin .Add (.con (.str "(")) (.var 1)) (.cons (.bin .Add (.bin .Add (.con (.str "(")) (.var 1)) (.con (.str ")"))) (.cons (.call 18 (.cons (.var 1) (.cons (.con (.int 1)) .nil)) []) .nil)))) (.cons (.tup (.cons (.bin .Add (.var 1) (.con (.str ")"))) (.cons (.var 1) (.cons (.call 18 (.cons (.var 1) (.cons (.con (.int 1)) .nil)) []) .nil)))) .nil)))))) (.cons (.asg 3 (.bin .Add (.var 3) (.lst (.cons (.tup (.cons (.bin .Add (.bin .Add (.con (.str "((")) (.var 1)) (.con (.str ")"))) (.cons (.bin .Add (.bin .Add (.con (.str "((")) (.var 1)) (.con (.str "))"))) (.cons (.call 18 (.cons (.var 1) (.cons (.con (.int 1)) .nil)) []) .nil)))) .nil)))) (.cons (.ret (.bi .list (.cons (.idx (.var 3) (.bin .Mod (.var 0) (.bi .len (.cons (.var 3) .nil)))) .nil))) .nil))))))))))
def FA:Ts:=(.cons (.asg 3 (.lst (.cons (.bin .Add (.bin .Add (.var 1) (.con (.str "+"))) (.var 1)) (.cons (.bin .Add (.bin .Add (.var 1) (.con (.str " +"))) (.var 1)) (.cons (.bin .Add (.bin .Add (.var 1) (.con (.str "+ "))) (.var 1)) (.cons (.bin .Add (.bin .Add (.var 1) (.con (.str "  + "))) (.var 1)) (.cons (.bin .Add (.bin .Add (.var 1) (.con (.str " +  "))) (.var 1)) (.cons (.bin .Add (.bin .Add (.var 1) (.con (.str " + + "))) (.var 1)) .nil)))))))) (.cons (.asg 3 (.bin .Add (.var 3) (.lst (.cons (.bin .Add (.bin .Add (.var 1) (.con (.str " - "))) (.var 1)) (.cons (.bin .Add (.bin .Add (.var 1) (.con (.str " "))) (.var 1)) (.cons (.bin .Add (.bin .Add (.bin .Add (.var 1) (.con (.str " + "))) (.var 1)) (.con (.str " + "))) (.cons (.bin .Add (.bin .Add (.bin .Add (.con (.str " + ")) (.var 1)) (.con (.str " + "))) (.var 1)) .nil))))))) (.cons (.asg 3 (.bin .Add (.var 3) (.lst (.cons (.bin .Add (.bin .Add (.bin .Add (.bin .Add (.con (.str "(")) (.var 1)) (.con (.str ", "))) (.var 1)) (.con (.str ")"))) (.cons (.bin .Add (.bin .Add (.bin .Add (.var 1) (.con (.str ", "))) (.var 1)) (.con (.str " "))) .nil))))) (.cons (.asg 3 (.bin .Add (.var 3) (.lst (.cons (.bin .Add (.bin .Add (.var 1) (.con (.str " + ("))) (.var 1)) (.cons (.bin .Add (.bin .Add (.var 1) (.con (.str " * "))) (.var 1)) (.cons (.bin .Add (.con (.str "2 ")) (.var 1)) (.cons (.bin .Add (.bin .Add (.var 1) (.con (.str " + 0"))) (.var 1)) .nil))))))) (.cons (.ret (.lst (.cons (.idx (.var 3) (.bin .Mod (.var 0) (.bi .len (.cons (.var 3) .nil)))) (.cons (.bin .Add (.bin .Add (.var 1) (.con (.str " + "))) (.var 1)) (.cons (.call 18 (.cons (.var 1) (.cons (.con (.int 2)) .nil)) []) .nil))))) .nil)))))
def CC:Ts:=(.cons (.asg 3 (.lst (.cons (.bin .Add (.bin .Add (.bin .Add (.var 2) (.con (.str "(0, "))) (.var 1)) (.con (.str ")"))) (.cons (.call 19 (.cons (.var 2) (.cons (.tup (.cons (.tup .nil) (.cons (.call 18 (.cons (.var 1) (.cons (.con (.int 1)) .nil)) []) .nil))) .nil)) []) .nil)))) (.cons (.asg 4 (.lst (.cons (.bin .Add (.bin .Add (.bin .Add (.var 2) (.con (.str "(0,"))) (.var 1)) (.con (.str ")"))) (.cons (.bin .Add (.bin .Add (.bin .Add (.var 2) (.con (.str "(0 , "))) (.var 1)) (.con (.str ")"))) (.cons (.bin .Add (.bin .Add (.bin .Add (.var 2) (.con (.str "(0,  "))) (.var 1)) (.con (.str ")"))) (.cons (.bin .Add (.bin .Add (.bin .Add (.var 2) (.con (.str "( 0, "))) (.var 1)) (.con (.str ")"))) .nil)))))) (.cons (.asg 4 (.bin .Add (.var 4) (.lst (.cons (.bin .Add (.bin .Add (.bin .Add (.var 2) (.con (.str "(0, "))) (.var 1)) (.con (.str " )"))) (.cons (.bin .Add (.bin .Add (.bin .Add (.var 2) (.con (.str "(, "))) (.var 1)) (.con (.str ")"))) (.cons (.bin .Add (.var 2) (.con (.str "(0, )"))) (.cons (.bin .Add (.bin .Add (.bin .Add (.var 2) (.con (.str " (0, "))) (.var 1)) (.con (.str ")"))) .nil))))))) (.cons (.asg 4 (.bin .Add (.var 4) (.lst (.cons (.bin .Add (.bin .Add (.var 2) (.con (.str "(0, "))) (.var 1)) (.cons (.bin .Add (.bin .Add (.bin .Add (.var 2) (.con (.str "(0, "))) (.var 1)) (.con (.str "))"))) .nil))))) (.cons (.asg 4 (.bin .Add (.var 4) (.lst (.cons (.bin .Add (.bin .Add (.bin .Add (.bin .Add (.bin .Add (.var 2) (.con (.str "(0, "))) (.var 1)) (.con (.str ")("))) (.var 1)) (.con (.str ")"))) (.cons (.bin .Add (.bin .Add (.bin .Add (.var 2) (.con (.str "(0; "))) (.var 1)) (.con (.str ")"))) (.cons (.bin .Add (.bin .Add (.bin .Add (.var 2) (.con (.str "(0 "))) (.var 1)) (.con (.str ")"))) (.cons (.bin .Add (.bin .Add (.bin .Add (.var 2) (.con (.str "[0, "))) (.var 1)) (.con (.str "]"))) .nil))))))) (.cons (.asg 4 (.bin .Add (.var 4) (.lst (.cons (.bin .Add (.bin .Add (.bin .Add (.var 2) (.con (.str "((0, "))) (.var 1)) (.con (.str "))"))) (.cons (.bin .Add (.bin .Add (.bin .Add (.var 2) (.con (.str "(0, 0, 0, "))) (.var 1)) (.con (.str ")"))) (.cons (.bin .Add (.var 2) (.con (.str "()"))) (.cons (.bin .Add (.bin .Add (.bin .Add (.con (.str "(0, ")) (.var 1)) (.con (.str ")"))) (.var 2)) .nil))))))) (.cons (.asg 4 (.bin .Add (.var 4) (.lst (.cons (.bin .Add (.bin .Add (.bin .Add (.var 2) (.con (.str "(0, "))) (.var 1)) (.con (.str ",)"))) .nil)))) (.cons (.ret (.bin .Add (.lst (.cons (.idx (.var 4) (.bin .Mod (.var 0) (.bi .len (.cons (.var 4) .nil)))) .nil)) (.var 3))) .nil))))))))
def JF:Ts:=(.cons (.ifs (.cmp .Eq (.bin .Mod (.var 0) (.con (.int 3))) (.con (.int 0))) (.cons (.ret (.lst (.cons (.bin .Add (.bin .Add (.bin .Mult (.con (.str "(")) (.con (.int 21))) (.var 1)) (.bin .Mult (.con (.str ")")) (.con (.int 21)))) (.cons (.bin .Add (.bin .Add (.bin .Mult (.con (.str "(")) (.con (.int 20))) (.var 1)) (.bin .Mult (.con (.str ")")) (.con (.int 20)))) (.cons (.call 18 (.cons (.var 1) (.cons (.con (.int 1)) .nil)) []) .nil))))) .nil) .nil) (.cons (.ifs (.cmp .Eq (.bin .Mod (.var 0) (.con (.int 3))) (.con (.int 1))) (.cons (.asg 3 (.tup .nil)) (.cons (.fr (.nm 4) (.rng1 (.con (.int 20))) (.cons (.asg 3 (.call 19 (.cons (.var 2) (.cons (.tup (.cons (.var 3) .nil)) .nil)) [])) .nil)) (.cons (.ret (.lst (.cons (.bin .Add (.bin .Add (.bin .Mult (.bin .Add (.var 2) (.con (.str "("))) (.con (.int 21))) (.con (.str "0"))) (.bin .Mult (.con (.str ")")) (.con (.int 21)))) (.cons (.bin .Add (.bin .Add (.bin .Mult (.bin .Add (.var 2) (.con (.str "("))) (.con (.int 20))) (.con (.str "0"))) (.bin .Mult (.con (.str ")")) (.con (.int 20)))) (.cons (.var 3) .nil))))) .nil))) .nil) (.cons (.ret (.lst (.cons (.bin .Add (.bin .Mult (.con (.str "a + ")) (.con (.int 149))) (.con (.str "abcde"))) (.cons (.bin .Add (.bin .Mult (.con (.str "a + ")) (.con (.int 149))) (.con (.str "abcd"))) (.cons (.tup (.cons (.tup (.cons (.tup (.cons (.con (.str "any")) (.cons (.con (.str "a")) .nil))) (.cons (.con (.int 149)) .nil))) (.cons (.tup (.cons (.tup (.cons (.con (.str "any")) (.cons (.con (.str "abcd")) .nil))) (.cons (.con (.int 1)) .nil))) .nil))) .nil))))) .nil)))
def CD:Ts:=(.cons (.asgT [4,5,6] (.var 3)) (.cons (.ifs (.cmp .Eq (.var 0) (.con (.int 0))) (.cons (.ret (.lst (.cons (.bin .Add (.bin .Add (.con (.str "(")) (.var 4)) (.con (.str ")"))) (.cons (.bin .Add (.bin .Add (.con (.str "(")) (.var 5)) (.con (.str ")"))) (.cons (.var 6) .nil))))) .nil) .nil) (.cons (.ifs (.cmp .Eq (.var 0) (.con (.int 1))) (.cons (.ret (.lst (.cons (.bin .Add (.bin .Add (.bin .Add (.var 2) (.con (.str "("))) (.var 4)) (.con (.str ")"))) (.cons (.bin .Add (.bin .Add (.bin .Add (.var 2) (.con (.str "("))) (.var 5)) (.con (.str ")"))) (.cons (.call 19 (.cons (.var 2) (.cons (.tup (.cons (.var 6) .nil)) .nil)) []) .nil))))) .nil) .nil) (.cons (.ifs (.cmp .Eq (.var 0) (.con (.int 2))) (.cons (.ret (.lst (.cons (.bin .Add (.bin .Add (.bin .Add (.var 2) (.con (.str "(0, "))) (.var 4)) (.con (.str ")"))) (.cons (.bin .Add (.bin .Add (.bin .Add (.var 2) (.con (.str "(0, "))) (.var 5)) (.con (.str ")"))) (.cons (.call 19 (.cons (.var 2) (.cons (.tup (.cons (.tup .nil) (.cons (.var 6) .nil))) .nil)) []) .nil))))) .nil) .nil) (.cons (.ifs (.cmp .Eq (.var 0) (.con (.int 3))) (.cons (.ret (.lst (.cons (.bin .Add (.bin .Add (.bin .Add (.bin .Add (.bin .Add (.var 2) (.con (.str "("))) (.var 4)) (.con (.str ", "))) (.var 1)) (.con (.str ")"))) (.cons (.bin .Add (.bin .Add (.bin .Add (.bin .Add (.bin .Add (.var 2) (.con (.str "("))) (.var 5)) (.con (.str ", "))) (.var 1)) (.con (.str ")"))) (.cons (.call 19 (.cons (.var 2) (.cons (.tup (.cons (.var 6) (.cons (.call 18 (.cons (.var 1) (.cons (.con (.int 1)) .nil)) []) .nil))) .nil)) []) .nil))))) .nil) .nil) (.cons (.ret (.var 3)) .nil))))))
def KD:Ts:=(.cons (.asg 4 (.call 12 (.cons (.var 0) (.cons (.var 1) (.cons (.con (.int 1000003)) .nil))) [])) (.cons (.asg 5 (.call 12 (.cons (.var 0) (.cons (.bin .Add (.var 1) (.con (.int 1))) (.cons (.con (.int 5)) .nil))) [])) (.cons (.ifs (.cmp .Eq (.var 5) (.con (.int 0))) (.cons (.ret (.call 24 (.cons (.var 4) (.cons (.var 2) (.cons (.var 3) .nil))) [])) .nil) .nil) (.cons (.asg 6 (.call 21 (.cons (.var 4) (.cons (.var 2) (.cons (.var 3) .nil))) [])) (.cons (.ifs (.cmp .Eq (.var 5) (.con (.int 1))) (.cons (.asg 6 (.call 20 (.cons (.var 4) (.cons (.var 2) (.cons (.var 3) (.cons (.bin .Add (.con (.int 2)) (.bin .Mod (.call 11 (.cons (.var 0) (.cons (.var 1) .nil)) []) (.bin .Sub (.bin .Pow (.con (.int 10)) (.con (.int 18))) (.con (.int 2))))) .nil)))) [])) .nil) .nil) (.cons (.ifs (.cmp .Eq (.var 5) (.con (.int 2))) (.cons (.asg 6 (.call 22 (.cons (.var 4) (.cons (.var 2) (.cons (.var 3) .nil))) [])) .nil) .nil) (.cons (.ifs (.cmp .Eq (.var 5) (.con (.int 3))) (.cons (.asg 6 (.call 23 (.cons (.var 4) (.cons (.var 2) (.cons (.var 3) .nil))) [])) .nil) .nil) (.cons (.ret (.call 25 (.cons (.call 12 (.cons (.var 0) (.cons (.bin .Add (.var 1) (.con (.int 2))) (.cons (.con (.int 7)) .nil))) []) (.cons (.var 2) (.cons (.var 3) (.cons (.var 6) .nil)))) [])) .nil))))))))
def JG:Ts:=(.cons (.asg 1 (.idx (.call 14 (.cons (.var 0) (.cons (.con (.int 0)) .nil)) []) (.con (.int 0)))) (.cons (.asg 2 (.idx (.call 15 (.cons (.var 0) (.cons (.con (.int 2)) .nil)) []) (.con (.int 0)))) (.cons (.fr (.nm 3) (.rng3 (.con (.int 5)) (.bi .max2 (.cons (.con (.int 17)) (.cons (.bi .min2 (.cons (.con (.int 59)) (.cons (.bi .len (.cons (.var 0) .nil)) .nil))) .nil))) (.con (.int 3))) (.cons (.asgT [4,5,6] (.call 26 (.cons (.var 0) (.cons (.var 3) (.cons (.var 1) (.cons (.var 2) .nil)))) [])) (.cons (.ifs (.or (.nt (.call 17 (.cons (.var 4) .nil) [])) (.or (.nt (.call 16 (.cons (.call 3 (.cons (.var 5) .nil) []) (.cons (.var 6) .nil)) [])) (.nt (.call 17 (.cons (.var 4) .nil) [])))) (.cons (.ret (.con (.bl false))) .nil) .nil) .nil))) (.cons (.asg 7 (.bin .Mod (.call 11 (.cons (.var 0) (.cons (.con (.int 4)) .nil)) []) (.con (.int 1000)))) (.cons (.fr (.nm 8) (.seq (.lst (.cons (.con .bM) (.cons (.var 7) (.cons (.tup (.cons (.con (.str "a")) (.cons (.con (.str "b")) .nil))) (.cons (.lst (.cons (.con (.str "a")) .nil)) (.cons (.bi .dict (.cons (.tup .nil) .nil)) (.cons (.tup (.cons (.tup (.cons (.tup (.cons (.con (.str "any")) (.cons (.var 1) .nil))) (.cons (.con (.int 1)) .nil))) .nil)) (.cons (.con (.bl true)) .nil))))))))) (.cons (.ifs (.nt (.call 17 (.cons (.var 8) .nil) [])) (.cons (.ret (.con (.bl false))) .nil) .nil) .nil)) (.cons (.ret (.con (.bl true))) .nil))))))
def fs:List Fn:=[⟨1,4,false,JH (.mvr 1)⟩,⟨2,2,false,u7 0⟩,⟨2,2,false,lp⟩,⟨1,3,false,qI 4 0⟩,⟨3,5,false,CF 5 1⟩,⟨3,5,false,u5 6 7 2⟩,⟨2,3,false,zj 10 0⟩,⟨3,6,false,qH 8 9 0⟩,⟨4,6,false,KF 4 0⟩,⟨4,5,false,nu 10 0⟩,⟨4,5,false,jf⟩,⟨2,3,false,qF⟩,⟨3,4,false,u6 11⟩,⟨3,9,false,ll 12⟩,⟨2,2,false,Nb⟩,⟨2,2,false,Nc⟩,⟨2,4,false,nr 16⟩,⟨1,3,false,KA⟩,⟨2,2,false,KB⟩,⟨2,2,false,KC⟩,⟨4,9,false,Fz⟩,⟨3,4,false,F8⟩,⟨3,4,false,FA⟩,⟨3,5,false,CC⟩,⟨3,5,false,JF⟩,⟨4,7,false,CD⟩,⟨4,7,false,KD⟩,⟨1,9,false,JG⟩]
theorem hok:rows.all Rx.Row.ok=true:=by decide +kernel
theorem hfs:nL ⟨rows.map Rx.Row.ent,cons,bls,fr,xs⟩ 0 rows=some fs:=by kernel_rfl
end K14
end
section
namespace K14
open PySem Rx
inductive Tk where
 |c (n:Nat)|X|S|D (k:Nat) (b:Bool)|O
 deriving DecidableEq
structure Env where
 x:List Nat
 s:List Nat
 d:Nat->List Nat
def Env.one(E:Env):Tk->List Nat
 |.c n=>[n]
 |.X=>E.x
 |.S=>E.s
 |.D k _=>E.d k
 |.O=>48::E.d 0
def Env.fl(E:Env)(t:List Tk):List Nat:=t.flatMap E.one
def inR(lo hi n:Nat):Bool:=decide (lo<=n)&&decide (n<=hi)
structure Cn(E:Env):Prop where
 x1:E.x≠[]
 x6:E.x.length<=6
 xc:∀n∈E.x,inR 97 122 n=true
 s1:E.s≠[]
 s6:E.s.length<=6
 sc:∀n∈E.s,inR 65 90 n=true
 d1:∀k,E.d k≠[]
 dc:∀k,∀n∈E.d k,inR 48 57 n=true
 dh:∀k,(E.d k).head?≠some 48
def cls:Tk->Nat
 |.c n=>if inR 48 57 n then 1 else if inR 97 122 n then 2 else if inR 65 90 n then 3 else 0
 |.X=>2
 |.S=>3
 |.D _ _=>1
 |.O=>1
def lS:Tk->Bool
 |.c _=>true
 |_=>false
def J7(a b:Tk):Bool:=(lS a&&lS b)||cls a != cls b||cls a==0
def gd:List Tk->Bool
 |a::b::t=>J7 a b&&gd (b::t)
 |_=>true
def Mm(E:Env)(t:List Tk):Prop:=∀k b,Tk.D k b∈t->b=decide ((E.d k).length<=18)
def Gd(E:Env)(t:List Tk):Prop:=gd t=true/\Mm E t/\(Tk.O∈t->(E.d 0).length<=18)
def iE:List Nat->List Tk->Option (List Tk)
 |[],t=>some t
 |n::s,.c m::t=>if m=n then iE s t else none
 |_::_,_=>none
def bq(lo hi:Nat):List Tk->List Tk
 |.c n::t=>if inR lo hi n then .c n::bq lo hi t else[]
 |_=>[]
def wR:List Tk->Option (List Tk×List Tk)
 |.D k b::t=>if b then some ([.D k b],t) else none
 |t=>if bq 48 57 t=[] then some ([],t) else if 18<(bq 48 57 t).length then none else some (bq 48 57 t,t.drop (bq 48 57 t).length)
def oQ(w:Tk)(lo hi:Nat)(t:List Tk):Option (Option (List Tk×List Tk)):=
 if t.head?=some w then some (some ([w],t.tail))
 else if 6<(bq lo hi t).length then none else some (if bq lo hi t=[] then none else some (bq lo hi t,t.drop (bq lo hi t).length))
def Ah:List Tk->Option (List Tk)
 |.O::t=>some (.D 0 true::t)
 |t=>iE [48] t
def Kb:Lx (List Tk) (List Tk) (List Tk):=⟨Ah,iE [40],iE [41],iE [32,43,32],iE [44,32],wR,oQ .X 97 122,oQ .S 65 90⟩
def md(E:Env)(t:List Tk):Nat:=if t=[] then 1 else PySem.NumText.digitsVal (E.fl t)
section
variable{E:Env}
theorem aw(a:Tk)(t:List Tk):E.fl (a::t)=E.one a++E.fl t:=List.flatMap_cons
theorem pH(a b:List Tk):E.fl (a++b)=E.fl a++E.fl b:=List.flatMap_append
theorem Gd.tail{a:Tk}{t:List Tk}(h:Gd E (a::t)):Gd E t:=by
 refine⟨?_,λk b hk=>h.2.1 k b (QS _ hk),λho=>h.2.2 (QS _ ho)⟩;cases t with
 |nil=>rfl
 |cons b t=>have:=h.1;unfold gd at this;rw[QO]at this;exact this.2
theorem Gd.pair{a b:Tk}{t:List Tk}(h:Gd E (a::b::t)):J7 a b=true:=by have:=h.1;unfold gd at this;rw[QO]at this;exact this.1
theorem Gd.drop:∀{t:List Tk}(n:Nat),Gd E t->Gd E (t.drop n)
 |t,0,h=>h
 |[],_+1,h=>h
 |_::t,n+1,h=>Gd.drop n h.tail
variable(hE:Cn E)
include hE
theorem dG{a:Tk}(ha:lS a=false):∃n r,E.one a=n::r/\(inR 48 57 n=(cls a==1))/\(inR 97 122 n=(cls a==2))/\(inR 65 90 n=(cls a==3))/\(n=48↔a= .O):=by
 have key:∀{l:List Nat}{lo hi:Nat},l≠[]->(∀n∈l,inR lo hi n=true)->∃n r,l=n::r/\lo<=n/\n<=hi:=λ {l lo hi} h1 h2=>by
  cases l with
  |nil=>exact absurd rfl h1
  |cons n r=>have:=h2 n QU;unfold inR at this;rw[QO]at this;exact⟨n,r,rfl,QQ this.1,QQ this.2⟩
 cases a with
 |c n=>cases ha
 |X=>obtain⟨n,r,e,h1,h2⟩:=key hE.x1 hE.xc;refine⟨n,r,e,?_,?_,?_,?_⟩<;>simp[inR,cls]<;>omega
 |S=>obtain⟨n,r,e,h1,h2⟩:=key hE.s1 hE.sc;refine⟨n,r,e,?_,?_,?_,?_⟩<;>simp[inR,cls]<;>omega
 |D k b=>
  obtain⟨n,r,e,h1,h2⟩:=key (hE.d1 k) (hE.dc k);have h3:n≠48:=λz=>hE.dh k (by rw[e,z];rfl)
  refine⟨n,r,e,?_,?_,?_,?_⟩<;>simp[inR,cls]<;>omega
 |O=>exact⟨48,_,rfl,rfl,rfl,rfl,∅⟩
theorem og:∀(s:List Nat)(t:List Tk),(∀n∈s,inR 48 57 n=false/\inR 97 122 n=false/\inR 65 90 n=false)->lit s (E.fl t)=(iE s t).map E.fl
 |[],t,_=>rfl
 |n::s,[],_=>rfl
 |n::s,a::t,h=>by
  have hn:=h n QU;cases ha:lS a with
  |true=>
   cases a with
   |c m=>
    rw[aw];show lit (n::s) (m::E.fl t)=_;unfold iE;have ih:=og s t λx hx=>h x (QS _ hx)
    by_cases e:m=n
    ·subst e;rw[Ta rfl,<-ih];unfold lit;simp
    ·rw[S9 e];unfold lit;rw[S9 (by simp[e])];rfl
   |_=>cases ha
  |false=>
   obtain⟨m,r,e,h1,h2,h3,h4⟩:=dG hE ha;have:m≠n:=λz=>by subst z;rw[hn.1]at h1;rw[hn.2.1]at h2;rw[hn.2.2]at h3;cases a<;>simp[cls,lS]at *
   rw[aw,e];unfold lit;rw[S9 (by simp[this])];cases a with
   |c m=>cases ha
   |_=>rfl
omit hE in
theorem oC(lo hi:Nat):∀t:List Tk,bq lo hi t++t.drop (bq lo hi t).length=t
 |[]=>rfl
 |a::t=>by
  cases a with
  |c n=>
   unfold bq;split
   ·show Tk.c n::(bq lo hi t++t.drop (bq lo hi t).length)=_;rw[oC lo hi t]
   ·rfl
  |_=>rfl
omit hE in
theorem dH(lo hi:Nat):∀t:List Tk,(E.fl (bq lo hi t)).length=(bq lo hi t).length
 |[]=>rfl
 |a::t=>by
  cases a with
  |c n=>
   unfold bq;split
   ·rw[aw,Q3,dH lo hi t,Q5];show 1+_=_;omega
   ·rfl
  |_=>rfl
omit hE in
theorem gH(lo hi n:Nat)(l:List Nat):run lo hi (n::l)=if inR lo hi n=true then n::run lo hi l else[]:=by unfold Rx.run;rw[List.takeWhile_cons];rfl
omit hE in
theorem qT(lo hi:Nat)(t:List Tk):(E.fl t).drop (bq lo hi t).length=E.fl (t.drop (bq lo hi t).length):=by
 have e:E.fl t=E.fl (bq lo hi t)++E.fl (t.drop (bq lo hi t).length):=by rw[<-pH,oC]
 rw[e];exact List.drop_left' (dH lo hi t)
structure Cl(lo hi k:Nat):Prop where
 c:∀n,inR lo hi n=true↔cls (.c n)=k
 o:∀a n r,lS a=false->E.one a=n::r->inR lo hi n=(cls a==k)
 z:k≠0
omit hE in
theorem CU(n:Nat):(inR 48 57 n=true↔cls (.c n)=1)/\(inR 97 122 n=true↔cls (.c n)=2)/\(inR 65 90 n=true↔cls (.c n)=3):=by
 simp only[cls,inR,QO,S7];split
 ·refine⟨?_,?_,?_⟩<;>simp<;>omega
 split
 ·refine⟨?_,?_,?_⟩<;>simp<;>omega
 split
 ·refine⟨?_,?_,?_⟩<;>simp<;>omega
 ·refine⟨?_,?_,?_⟩<;>simp<;>omega
theorem Ou:Cl (E:=E) 48 57 1:=⟨λn=>(CU n).1,λa n r ha e=>by obtain⟨m,q,e2,h1,h2,h3,_⟩:=dG hE ha;rw[e]at e2;cases e2;exact h1,‹_›⟩
theorem Ov:Cl (E:=E) 97 122 2:=⟨λn=>(CU n).2.1,λa n r ha e=>by obtain⟨m,q,e2,h1,h2,h3,_⟩:=dG hE ha;rw[e]at e2;cases e2;exact h2,‹_›⟩
theorem Ox:Cl (E:=E) 65 90 3:=⟨λn=>(CU n).2.2,λa n r ha e=>by obtain⟨m,q,e2,h1,h2,h3,_⟩:=dG hE ha;rw[e]at e2;cases e2;exact h3,‹_›⟩
variable{lo hi k:Nat}(hc:Cl (E:=E) lo hi k)
include hc
theorem sC{a:Tk}{t:List Tk}(ha:lS a=false)(hk:cls a≠k):run lo hi (E.fl (a::t))=[]:=by obtain⟨n,r,e,_⟩:=dG hE ha;rw[aw,e];show run lo hi (n::(r++E.fl t))=[];rw[gH,S9 (by rw[hc.o a n r ha e];simpa using hk)]
theorem ya:∀t:List Tk,Gd E t->(∀a t',t=a::t'->lS a=false->cls a≠k)->run lo hi (E.fl t)=E.fl (bq lo hi t)
 |[],_,_=>rfl
 |a::t,hg,h=>by
  cases ha:lS a with
  |false=>
   rw[sC hE hc ha (h a t rfl ha)];cases a with
   |c n=>cases ha
   |_=>rfl
  |true=>
   cases a with
   |c n=>
    rw[aw];show run lo hi (n::E.fl t)=_;rw[gH];unfold bq;by_cases e:inR lo hi n=true
    ·rw[Ta e,Ta e,ya t hg.tail λb t' eb hb hk=>?_]
     ·rfl
     ·subst eb;have:=hg.pair;unfold J7 at this;rw[hb,(hc.c n).mp e,hk]at this;simp at this;exact hc.z this
    ·rw[S9 e,S9 e];rfl
   |_=>cases ha
theorem Ca{w:Tk}{t:List Tk}(hw:lS w=false)(hk:cls w=k)(hl:∀n∈E.one w,inR lo hi n=true)(hg:Gd E (w::t)):run lo hi (E.fl (w::t))=E.one w:=by
 have h0:run lo hi (E.fl t)=[]:=by
  cases t with
  |nil=>rfl
  |cons b t=>
   have hp:=hg.pair;unfold J7 at hp;rw[hw,hk]at hp;have hb:cls b≠k:=λz=>by rw[z]at hp;simp at hp;exact hc.z hp
   cases eb:lS b with
   |false=>exact sC hE hc eb hb
   |true=>
    cases b with
    |c n=>rw[aw];show run lo hi (n::E.fl t)=[];rw[gH,S9 λz=>hb ((hc.c n).mp z)]
    |_=>cases eb
 rw[aw];generalize E.one w=l at hl ⊢
 induction l with
 |nil=>exact h0
 |cons n l ih=>show run lo hi (n::(l++E.fl t))=_;rw[gH,Ta (hl n QU),ih λm hm=>hl m (QS _ hm)]
omit hc in
theorem yG{w:Tk}(hc:Cl (E:=E) lo hi k)(hw:lS w=false)(hk:cls w=k)(h1:∀a,lS a=false->cls a=k->a=w)(eB:E.one w≠[])(hl:∀n∈E.one w,inR lo hi n=true)(h6:(E.one w).length<=6){t:List Tk}(hg:Gd E t):
  j5 lo hi (E.fl t)=(oQ w lo hi t).map (Option.map λp=>(E.fl p.1,E.fl p.2))/\∀p,oQ w lo hi t=some (some p)->Gd E p.2:=by
 unfold j5 oQ;by_cases e:t.head?=some w
 ·rw[Ta e];cases t with
  |nil=>cases e
  |cons a t=>cases e;have hr:=Ca hE hc hw hk hl hg;rw[hr,S9 ⋯,S9 eB];refine⟨?_,λp hp=>by cases hp;exact hg.tail⟩;rw[aw,List.drop_left];show _=some (some (E.fl [w],E.fl t));rw[show E.fl [w]=E.one w by rw[aw];exact Rt _]
 ·rw[S9 e];have hr:=ya hE hc t hg λa t' et ha hka=>e (by rw[et,h1 a ha hka];rfl)
  rw[hr,dH];by_cases c:6<(bq lo hi t).length
  ·rw[Ta c,Ta c];exact⟨rfl,λp hp=>by cases hp⟩
  ·rw[S9 c,S9 c];by_cases c2:bq lo hi t=[]
   ·rw[Ta c2,c2];exact⟨rfl,λp hp=>by cases hp⟩
   ·rw[S9 c2,S9 λz=>c2 (List.length_eq_zero_iff.mp (by rw[<-dH (E:=E),z];rfl))];refine⟨?_,λp hp=>by cases hp;exact hg.drop _⟩;have this:(E.fl t).drop (bq lo hi t).length=E.fl (t.drop (bq lo hi t).length):=qT lo hi t;rw[this];rfl
omit hc in
theorem HJ{t:List Tk}(hg:Gd E t)(h0:Ah t=none):kg (E.fl t)=(wR t).map (λp=>(md E p.1,E.fl p.2))/\∀p,wR t=some p->Gd E p.2:=by
 have c1:=Ou hE;by_cases hd:∃k b t',t= .D k b::t'
 ·obtain⟨k,b,t',rfl⟩:=hd;have hr:=Ca hE c1 (w:=.D k b) rfl rfl (hE.dc k) hg;have hb:=hg.2.1 k b QU;have hl:∀c,(E.one (.D k c)).length=(E.d k).length:=λ_=>rfl
  unfold kg wR;rw[hr,S9 (show¬E.one (.D k b)=[] from hE.d1 k),hl];clear hr;subst hb;show _=Option.map _ (if decide ((E.d k).length<=18)=true then some ([Tk.D k (decide ((E.d k).length<=18))],t') else none)/\∀p,(if decide ((E.d k).length<=18)=true then some ([Tk.D k (decide ((E.d k).length<=18))],t') else none)=some p->_;by_cases c:(E.d k).length<=18
  ·rw[S9 ⋯,Rh c,Ta rfl];refine⟨?_,λp hp=>by cases hp;exact hg.tail⟩;rw[aw];show some (_,(E.one (.D k true)++E.fl t').drop (E.one (.D k true)).length)=_;rw[List.drop_left];show _=some (md E [Tk.D k true],E.fl t');unfold md;rw[S9 ∅,aw];show _=some (PySem.NumText.digitsVal (E.d k++[]),_);rw[Rt];rfl
  ·rw[Ta ⋯,Rc c,S9 ∅];exact⟨rfl,λp hp=>by cases hp⟩
 ·have LH:∀a t',t=a::t'->lS a=false->cls a≠1:=λa t' e ha hk=>by
   cases a with
   |c n=>cases ha
   |X=>cases hk
   |S=>cases hk
   |D k b=>exact hd ⟨k,b,t',e⟩
   |O=>subst e;cases h0
  have hr:=ya hE c1 t hg LH;have e:wR t=if bq 48 57 t=[] then some ([],t) else if 18<(bq 48 57 t).length then none else some (bq 48 57 t,t.drop (bq 48 57 t).length):=by
   cases t with
   |nil=>rfl
   |cons a t=>
    cases a with
    |D k b=>exact absurd ⟨k,b,t,rfl⟩ hd
    |_=>rfl
  rw[e];unfold kg;rw[hr,dH];by_cases c:bq 48 57 t=[]
  ·rw[Ta c,c,Ta (show E.fl []=[] from rfl)];exact⟨rfl,λp hp=>by cases hp;exact hg⟩
  ·have cE:¬E.fl (bq 48 57 t)=[]:=λz=>c (List.length_eq_zero_iff.mp (by rw[<-dH (E:=E),z];rfl))
   rw[S9 c,S9 cE];by_cases c2:18<(bq 48 57 t).length
   ·rw[Ta c2,Ta c2];exact⟨rfl,λp hp=>by cases hp⟩
   ·rw[S9 c2,S9 c2,qT];refine⟨?_,λp hp=>by cases hp;exact hg.drop _⟩;show _=some (md E (bq 48 57 t),_);unfold md;rw[S9 c]
omit hE hc in
theorem fg:∀{s:List Nat}{t r:List Tk},Gd E t->iE s t=some r->Gd E r
 |[],t,r,hg,h=>by cases h;exact hg
 |n::s,[],r,hg,h=>by cases h
 |n::s,a::t,r,hg,h=>by
  cases a with
  |c m=>
   unfold iE at h;split at h
   ·exact fg hg.tail h
   ·cases h
  |_=>cases h
omit hc in
theorem Hj{t:List Tk}(hg:Gd E t):lit [48] (E.fl t)=(Ah t).map E.fl/\∀r,Ah t=some r->Gd E r:=by
 cases t with
 |nil=>exact⟨rfl,λr h=>by cases h⟩
 |cons a t=>
  cases ha:lS a with
  |true=>
   cases a with
   |c m=>
    refine⟨?_,λr h=>fg (s:=[48]) hg h⟩;show lit [48] (m::E.fl t)=(iE [48] (.c m::t)).map E.fl;unfold iE;by_cases e:m=48
    ·subst e;rfl
    ·rw[S9 e];unfold lit;rw[S9 (by simp[e])];rfl
   |_=>cases ha
  |false=>
   obtain⟨m,r,e,h1,h2,h3,h4⟩:=dG hE ha;by_cases ho:a= .O
   ·subst ho;refine⟨?_,λr h=>?_⟩
    ·rw[aw];show lit [48] (48::(E.d 0++E.fl t))=some (E.fl (.D 0 true::t));rw[aw];rfl
    ·cases h;have:=hg.2.2 QU;refine⟨?_,λk b hk=>?_,λh=>hg.2.2 (QS _ ((QZ.mp h).resolve_left ∅))⟩
     ·cases t with
      |nil=>rfl
      |cons b t=>have h1:=hg.1;unfold gd at h1 ⊢;exact h1
     ·rcases QZ.mp hk with h|h
      ·cases h;exact(Rh this).symm
      ·exact hg.2.1 k b (QS _ h)
   ·have:m≠48:=λz=>ho (h4.mp z)
    rw[aw,e];refine⟨?_,λr h=>?_⟩
    ·unfold lit;rw[S9 (by simp[this])];cases a with
     |c m=>cases ha
     |O=>exact absurd rfl ho
     |_=>rfl
    ·cases a with
     |c m=>cases ha
     |O=>exact absurd rfl ho
     |_=>cases h
omit hc in
theorem sim:M9 dy Kb E.fl E.fl (md E) (Gd E) where
 is0:=λt h=>Hj hE h
 op:=λt h=>⟨og hE [40] t ‹_›,λr e=>fg h e⟩
 cl:=λt h=>⟨og hE [41] t ‹_›,λr e=>fg h e⟩
 pl:=λt h=>⟨og hE [32,43,32] t ‹_›,λr e=>fg h e⟩
 cm:=λt h=>⟨og hE [44,32] t ‹_›,λr e=>fg h e⟩
 num:=λt h h0=>HJ hE h h0
 low:=λt h=>yG hE (Ov hE) (w:=.X) rfl rfl (λa ha hk=>by cases a<;>simp[lS,cls]at *) hE.x1 hE.xc hE.x6 h
 upp:=λt h=>yG hE (Ox hE) (w:=.S) rfl rfl (λa ha hk=>by cases a<;>simp[lS,cls]at *) hE.s1 hE.sc hE.s6 h
end
open Mx (D)
abbrev TT:=Tm (List Tk) (List Tk)
def enc:Tk->Nat
 |.c n=>n
 |.X=>2000000
 |.S=>2000001
 |_=>2000002
def dec(n:Nat):Tk:=if n=2000000 then .X else if n=2000001 then .S else if n=2000002 then .D 0 true else .c n
def Env.ex(E:Env)(z:Str):Str:=tx (E.fl (z.cps.toList.map dec))
def zF(m n:Int):Int:=if n= -1 then m else n
mutual
noncomputable def Env.rm(E:Env)(m:Int):D->D
 |.int i=>.int (zF m i)
 |.str z=>.str (E.ex z)
 |.tup ds=>.tup (E.x9 m ds)
noncomputable def Env.x9(E:Env)(m:Int):List D->List D
 |[]=>[]
 |d::ds=>E.rm m d::E.x9 m ds
end
def wS(w:List Tk):Str:=tx (w.map enc)
def y9(w:List Tk):Bool:=w.all λa=>match a with|.c n=>decide (n<2000000)|.X=>true|.S=>true|_=>false
def Md:List D->List D->Option (List D)
 |[],r=>match r with
  |[]=>some []
  |[.tup [i,.int c]]=>some [row i c]
  |_=>none
 |[.tup [i,.int c]],[.tup [j,.int d]]=>if i=j then(if 0<c/\0<d then some [row i (c+d)] else none) else match i,j with
   |.tup [.str a,.str x],.tup [.str b,.str y]=>if a="any"/\b="any"/\x.cps.toList<y.cps.toList/\(∀n∈x.cps.toList++y.cps.toList,n<2000000)/\0<c/\0<d then some [row i c,row j d] else none
   |_,_=>none
 |_,_=>none
def Me(ts:List Tk)(r:List D):Option (List D):=match r with
 |[]=>some []
 |[.tup [i,.int c]]=>if ts=[] then some [row i c] else if c=1 then(if ts=[.D 0 true] then some [row i (-1)] else if ts.all lS then some [row i (PySem.NumText.digitsVal (ts.map enc))] else none) else none
 |_=>none
def uQ:TT->Option (List D)
 |.nil=>some []
 |.any w=>if y9 w then some [row (bQ (wS w)) 1] else none
 |.th0 w=>if y9 w then some [row (ofT (wS w) []) 1] else none
 |.th1 w a=>if y9 w then(uQ a).map λr=>[row (ofT (wS w) [.tup r]) 1] else none
 |.th2 w a b=>if y9 w then(uQ a).bind λr=>(uQ b).map λq=>[row (ofT (wS w) [.tup r,.tup q]) 1] else none
 |.th3 _ _ _ _=>none
 |.plus a b=>(uQ a).bind λr=>(uQ b).bind λq=>Md r q
 |.times n a=>(uQ a).bind λr=>Me n r
section
variable{E:Env}{m:Int}
theorem dec_enc{a:Tk}(h:y9 [a]=true):dec (enc a)=a:=by
 cases a with
 |c n=>
  have:n<2000000:=by simpa [y9]using h
  show dec n=_;unfold dec;rw[S9 ⋯,S9 ⋯,S9 ⋯]
 |X=>rfl
 |S=>rfl
 |_=>simp[y9]at h
theorem sX{w:List Tk}(h:y9 w=true):E.ex (wS w)=tx (E.fl w):=by
 unfold Env.ex wS;rw[bZ];congr 2;rw[Sf]
 induction w with
 |nil=>rfl
 |cons a w ih=>unfold y9 at h;rw[RT,QO]at h;rw[Ry,ih h.2];congr 1;exact dec_enc (by unfold y9;rw[RT,h.1];rfl)
theorem mC:∀l:List D,E.x9 m l=l.map (E.rm m)
 |[]=>by unfold Env.x9;rfl
 |d::l=>by unfold Env.x9;rw[mC l];rfl
theorem cN{z:Str}(h:∀n∈z.cps.toList,n<2000000):E.ex z=z:=by
 unfold Env.ex
 conv=>rhs;rw[<-kZ z]
 congr 1;generalize z.cps.toList=l at h
 induction l with
 |nil=>rfl
 |cons n l ih=>rw[Ry,aw,ih λx hx=>h x (QS _ hx)];have:=h n QU;unfold dec;rw[S9 ⋯,S9 ⋯,S9 ⋯];rfl
theorem bW(i:D)(c:Int):E.rm m (row i c)=row (E.rm m i) (zF m c):=by unfold row;simp[Env.rm,Env.x9]
theorem qh(w:Str):E.rm m (bQ w)=bQ (E.ex w):=by have:E.ex "any"="any":=cN ‹_›;unfold bQ;simp[Env.rm,Env.x9,this]
theorem x8(w:Str)(ps:List D):E.rm m (ofT w ps)=ofT (E.ex w) (ps.map (E.rm m)):=by have:E.ex "of"="of":=cN ‹_›;unfold ofT;simp[Env.rm,Env.x9,this,mC]
theorem mB(r:List D):E.rm m (.tup r)= .tup (r.map (E.rm m)):=by simp[Env.rm,mC]
theorem GC(i:D)(c:Int):aX [row i c]=[row i c]:=by have h:=pJ (ms:=[row i c]) ∅ (λr h=>⟨i,c,by simpa using h⟩);rw[h];exact List.perm_singleton.mp (bN _)
theorem GD(i:D)(a b:Int):aX [row i a,row i b]=[row i (a+b)]:=by
 have hp:=bN [row i a,row i b];have:aO [row i a,row i b]=[row i a,row i b]\/aO [row i a,row i b]=[row i b,row i a]:=by
  generalize aO [row i a,row i b]=l at hp;have hl:=hp.length_eq;rcases l with _|⟨x,_|⟨y,_|⟨z,l⟩⟩⟩
  ·cases hl
  ·cases hl
  ·have hx:=hp.mem_iff (a:=x);have h1:x=row i a\/x=row i b:=by simpa using hx
   rcases h1 with rfl|rfl
   ·have:=hp.cons_inv;rw[List.perm_singleton.mp this];exact .inl rfl
   ·have:=(hp.trans (List.Perm.swap _ _ [])).cons_inv;rw[List.perm_singleton.mp this];exact .inr rfl
  ·simp at hl
 unfold aX;rcases this with h|h<;>rw[h]
 ·show kD (row i a::[row i b])=_;simp[kD,gr,bo,fO]
 ·show kD (row i b::[row i a])=_;simp[kD,gr,bo,fO];rw[Int.add_comm]
theorem DN{x y:Str}(h:x.cps.toList<y.cps.toList):D.lt (bQ x) (bQ y)=true:=by
 unfold bQ;have eB:¬x=y:=λe=>by subst e;exact List.lt_irrefl _ h
 simp[D.lt,D.eO,D.ft,h,eB]
theorem vV{x y:Str}(c d:Int)(h:x.cps.toList<y.cps.toList):aX [row (bQ x) c,row (bQ y) d]=[row (bQ x) c,row (bQ y) d]:=by
 refine Up.La ?_ λr hr=>?_
 ·show ([bQ x,bQ y]:List D).Pairwise _;simp[DN h]
 ·rcases QZ.mp hr with rfl|hr
  ·exact⟨_,_,rfl⟩
  ·exact⟨_,_,Rm.mp hr⟩
theorem iM{c:Int}(h:0<c):zF m c=c:=by unfold zF;rw[S9 ⋯]
theorem ff:zF m 1=1:=iM ‹_›
theorem wK(i:D)(c:Int):mulR 1 (.tup [row i c])=[row i c]:=by show [row (cW (row i c)) (1*pA (row i c))]=_;rw[bo,fO,Int.one_mul]
theorem Aq(n:Int)(i:D):mulR n (.tup [row i 1])=[row i n]:=by show [row (cW (row i 1)) (n*pA (row i 1))]=_;rw[bo,fO,Int.mul_one]
def ze(E:Env)(m:Int):Prop:=m=(PySem.NumText.digitsVal (E.d 0):Nat)
theorem HI{ts:List Tk}(eB:ts≠[])(h:ts.all lS=true):md E ts=PySem.NumText.digitsVal (ts.map enc):=by
 unfold md;rw[S9 eB];congr 1;clear eB
 induction ts with
 |nil=>rfl
 |cons a ts ih=>
  rw[RT,QO]at h;rw[aw,ih h.2];cases a with
  |c n=>rfl
  |_=>cases h.1
theorem DU(hm:ze E m){ts:List Tk}{r q:List D}(h:Me ts r=some q):mulR (md E ts) (.tup (r.map (E.rm m)))=q.map (E.rm m):=by
 unfold Me at h;split at h
 ·cases h;rfl
 ·rename_i i c;split at h
  ·rename_i e;cases h;subst e;show mulR (1:Nat) (.tup [E.rm m (row i c)])=[E.rm m (row i c)];rw[bW];exact wK _ _
  ·rename_i eB;split at h
   ·rename_i e1;subst e1;have e:([D.tup [i,.int 1]].map (E.rm m))=[row (E.rm m i) 1]:=by show [E.rm m (row i 1)]=_;rw[bW,ff]
    rw[e,Aq];split at h
    ·rename_i e2;cases h;subst e2;show _=[E.rm m (row i (-1))];rw[bW];show _=[row (E.rm m i) m];rw[hm];unfold md;rw[S9 eB,aw];show [row _ ((PySem.NumText.digitsVal (E.d 0++[]):Nat):Int)]=_;rw[Rt]
    ·split at h
     ·rename_i e3;cases h;show _=[E.rm m (row i _)];rw[bW,HI eB e3];unfold zF;rw[S9 ⋯]
     ·cases h
   ·cases h
 ·cases h
theorem DT{r q w:List D}(h:Md r q=some w):aX (r.map (E.rm m)++q.map (E.rm m))=w.map (E.rm m):=by
 unfold Md at h;split at h
 ·split at h
  ·cases h;show aX []=[];unfold aX aO;rw[List.mergeSort_nil];rfl
  ·rename_i i c;cases h;show aX [E.rm m (row i c)]=[E.rm m (row i c)];rw[bW,GC]
  ·cases h
 ·rename_i i c j d;split at h
  ·rename_i e;split at h
   ·rename_i hp;cases h;subst e;show aX [E.rm m (row i c),E.rm m (row i d)]=[E.rm m (row i (c+d))];rw[bW,bW,bW,GD,iM hp.1,iM hp.2,iM ⋯]
   ·cases h
  ·split at h
   ·rename_i a x b y _;split at h
    ·rename_i hp;obtain⟨rfl,rfl,cP,hs,h1,h2⟩:=hp;cases h;show aX [E.rm m (row (bQ x) c),E.rm m (row (bQ y) d)]=[E.rm m (row (bQ x) c),E.rm m (row (bQ y) d)];rw[bW,bW,qh,qh,cN λn hn=>hs n (Sh _ hn),cN λn hn=>hs n (Rk _ hn),vV _ _ cP]
    ·cases h
   ·cases h
 ·cases h
theorem jF(hm:ze E m):∀{a:TT}{r:List D},uQ a=some r->val (a.map E.fl (md E))=r.map (E.rm m)
 |.nil,r,h=>by cases h;rfl
 |.any w,r,h=>by
  unfold uQ at h;split at h
  ·rename_i hw;cases h;show [row (bQ (tx (E.fl w))) 1]=[E.rm m (row _ 1)];rw[bW,qh,sX hw,ff]
  ·cases h
 |.th0 w,r,h=>by
  unfold uQ at h;split at h
  ·rename_i hw;cases h;show [row (ofT (tx (E.fl w)) []) 1]=[E.rm m (row _ 1)];rw[bW,x8,sX hw,ff];rfl
  ·cases h
 |.th1 w a,r,h=>by
  unfold uQ at h;split at h
  ·rename_i hw;obtain⟨q,h1,rfl⟩:=Q2.mp h;show [row (ofT (tx (E.fl w)) [.tup (val (a.map E.fl (md E)))]) 1]=[E.rm m (row _ 1)];rw[jF hm h1,bW,x8,sX hw,ff,Ry,mB];rfl
  ·cases h
 |.th2 w a b,r,h=>by
  unfold uQ at h;split at h
  ·rename_i hw;obtain⟨q,h1,h⟩:=QL.mp h;obtain⟨q2,h2,rfl⟩:=Q2.mp h;show [row (ofT (tx (E.fl w)) [.tup (val (a.map E.fl (md E))),.tup (val (b.map E.fl (md E)))]) 1]=[E.rm m (row _ 1)];rw[jF hm h1,jF hm h2,bW,x8,sX hw,ff,Ry,Ry,mB,mB];rfl
  ·cases h
 |.th3 _ _ _ _,r,h=>by cases h
 |.plus a b,r,h=>by obtain⟨q,h1,h⟩:=QL.mp h;obtain⟨q2,h2,h⟩:=QL.mp h;show aX (val (a.map E.fl (md E))++val (b.map E.fl (md E)))=_;rw[jF hm h1,jF hm h2,DT h]
 |.times n a,r,h=>by obtain⟨q,h1,h⟩:=QL.mp h;show mulR (md E n) (.tup (val (a.map E.fl (md E))))=_;rw[jF hm h1,DU hm h]
end
open Mx (D)
mutual
noncomputable def Env.rd(E:Env)(m:Int):Dt->Dt
 |.int i=>.int (zF m i)
 |.str z=>.str (E.ex z)
 |.tup ds=>.tup (E.A9 m ds)
 |.lst ds=>.lst (E.A9 m ds)
 |d=>d
noncomputable def Env.A9(E:Env)(m:Int):List Dt->List Dt
 |[]=>[]
 |d::ds=>E.rd m d::E.A9 m ds
end
def anyF(a b:Dt):Dt:=.tup [.tup [.tup [.str "any",a],b]]
def B0(a b:Dt):Dt:=.tup [.tup [.tup [.str "of",a,b],.int 1]]
def Fs:FT:=λf as _=>match f,as with
 |18,[a,b]=>.ok (anyF a b,none)
 |19,[a,b]=>.ok (B0 a b,none)
 |_,_=>.bad
structure Jo(F:FT):Prop where
 a:∀a b,F 18 [a,b] none= .ok (anyF a b,none)
 o:∀a b,F 19 [a,b] none= .ok (B0 a b,none)
def Ag(E:Env)(m:Int)(ρ σ:ai):Prop:=∀(i:Nat)(d:Dt),ρ[i]?=some (some d)->σ[i]?=some (some (E.rd m d))
def cl:C->Bool
 |.con _=>true
 |.bin _ a b=>cl a&&cl b
 |.bi .str (.cons a .nil)=>cl a
 |_=>false
def zJ:Dt->Bool
 |.int i=>i != -1
 |.str z=>z.cps.toList.all λn=>decide (n<2000000)
 |_=>false
def zK(c:C):Bool:=cl c&&match ev Fs c [] none with
 |.ok (d,_)=>zJ d
 |_=>false
def N3(r:R (Dt×Sx)):Bool:=match r with
 |.ok (.str z,_)=>decide (z.length<=40000)
 |.ok (.lst _,_)=>true
 |_=>false
mutual
noncomputable def ck:C->ai->Bool
 |.con d,_=>zJ d
 |.var _,_=>true
 |.bin o a b,ρ=>zK (.bin o a b)||(match o with
   |.Add=>ck a ρ&&ck b ρ&&N3 (ev Fs (.bin .Add a b) ρ none)
   |.Mult=>ck a ρ&&(match b with|.con (.int _)=>true|_=>false)&&N3 (ev Fs (.bin .Mult a b) ρ none)
   |_=>false)
 |.bi b es,_=>zK (.bi b es)
 |.tup es,ρ=>BC es ρ
 |.lst es,ρ=>BC es ρ
 |.call f es ds,ρ=>(f==18||f==19)&&ds.isEmpty&&BC es ρ
 |_,_=>false
noncomputable def BC:Cs->ai->Bool
 |.nil,_=>true
 |.cons c cs,ρ=>ck c ρ&&BC cs ρ
end
section
variable{E:Env}{m:Int}
theorem mz:∀l:List Dt,E.A9 m l=l.map (E.rd m)
 |[]=>by unfold Env.A9;rfl
 |d::l=>by unfold Env.A9;rw[mz l];rfl
theorem hZ(l:List Dt):E.rd m (.tup l)= .tup (l.map (E.rd m)):=by unfold Env.rd;rw[mz]
theorem de(l:List Dt):E.rd m (.lst l)= .lst (l.map (E.rd m)):=by unfold Env.rd;rw[mz]
theorem df(z:Str):E.rd m (.str z)= .str (E.ex z):=by unfold Env.rd;rfl
theorem xW(i:Int):E.rd m (.int i)= .int (zF m i):=by unfold Env.rd;rfl
theorem ED(a b:Dt):E.rd m (anyF a b)=anyF (E.rd m a) (E.rd m b):=by have:E.ex "any"="any":=cN ‹_›;unfold anyF;simp[hZ,df,this]
theorem B9(a b:Dt):E.rd m (B0 a b)=B0 (E.rd m a) (E.rd m b):=by have:E.ex "of"="of":=cN ‹_›;unfold B0;simp[hZ,df,this,xW,ff]
mutual
theorem xX:∀a:D,E.rd m (ofD a)=ofD (E.rm m a)
 |.int i=>by simp[ofD,Env.rm,Env.rd]
 |.str z=>by simp[ofD,Env.rm,Env.rd]
 |.tup ds=>by simp[ofD,Env.rm,Env.rd,sx ds]
theorem sx:∀a:List D,E.A9 m (ao a)=ao (E.x9 m a)
 |[]=>by simp[ao,Env.x9,Env.A9]
 |d::ds=>by simp[ao,Env.x9,Env.A9,xX d,sx ds]
end
theorem vO{d:Dt}(h:zJ d=true):E.rd m d=d:=by
 unfold zJ at h;split at h
 ·rw[xW];unfold zF;rw[S9 ‹h›]
 ·rw[df,cN λn hn=>by simpa using Ro.mp h n hn]
 ·cases h
theorem pE(a b:Str):E.ex (a++b)=E.ex a++E.ex b:=by unfold Env.ex;rw[E7,<-pH,<-Rz];congr 3;show (a.cps++b.cps).toList=_;simp
variable(hE:Cn E)(qY:∀k,(E.d k).length<=19)
include hE qY
theorem lF(z:Str):(E.ex z).length<=20*z.length:=by
 unfold Env.ex;rw[b5,show z.length=z.cps.toList.length by simp[Str.length]];generalize z.cps.toList=l
 induction l with
 |nil=>exact QT _
 |cons n l ih=>
  rw[Ry,aw,Q3,Q5];have:(E.one (dec n)).length<=20:=by
   unfold dec;split
   ·exact QY hE.x6 ‹_›
   split
   ·exact QY hE.s6 ‹_›
   split
   ·exact QY (qY 0) ‹_›
   ·exact Nat.le_of_ble_eq_true rfl
  omega
omit hE qY in
theorem nM:∀(k:Nat)(a acc:Array Nat),((List.replicate k a).foldl (· ++ ·) acc).toList=acc.toList++(List.replicate k a.toList).flatten
 |0,a,acc=>by simp
 |k+1,a,acc=>by rw[Sv,List.foldl_cons,nM k a (acc++a),Sv,RZ];simp
omit hE qY in
theorem l7(x:Str)(k:Int):(Txt.mul x k).cps.toList=(List.replicate k.toNat x.cps.toList).flatten:=by
 unfold Txt.mul;split
 ·rename_i h;rw[show k.toNat=0 by omega];rfl
 ·rename_i h;split
  ·rename_i h2;rw[Ru]at h2;rcases h2 with h2|h2
   ·have:k=1:=by simpa using h2
    subst this;simp
   ·have:x.length=0:=by simpa using h2
    have:x.cps.toList=[]:=List.length_eq_zero_iff.mp (by simpa[Str.length]using this)
    rw[this];simp
  ·rw[nM];simp
omit hE qY in
theorem vH(x:Str)(k:Int):E.ex (Txt.mul x k)=Txt.mul (E.ex x) k:=by
 rw[<-kZ (Txt.mul (E.ex x) k),l7];unfold Env.ex;rw[l7,bZ];congr 1;generalize k.toNat=n;generalize x.cps.toList=l
 induction n with
 |zero=>rfl
 |succ n ih=>rw[Sv,Sv,RZ,RZ,Rz,pH,ih]
omit hE qY in
theorem nC{F:FT}{ρ:ai}{S:Sx}(c:C){d:Dt}{S':Sx}(hc:cl c=true)(h:ev Fs c [] none= .ok (d,S')):S'=none/\ev F c ρ S= .ok (d,S):=by
 cases c with
 |con d0=>cases h;exact⟨rfl,rfl⟩
 |bin o a b=>
  have hc:(cl a&&cl b)=true:=hc;rw[QO]at hc;rw[d8]at h;cases ha:ev Fs a [] none with
  |ok x=>
   rw[ha,R.ah]at h;obtain⟨e1,e2⟩:=nC _ hc.1 ha;rw[e1]at h;cases hb:ev Fs b [] none with
   |ok y=>
    rw[hb,R.ah]at h;obtain⟨e3,e4⟩:=nC _ hc.2 hb;cases ho:gQ o x.1 y.1 with
    |ok z=>rw[ho]at h;cases h;exact⟨e3,by rw[d8,e2,R.ah,e4,R.ah,ho];rfl⟩
    |_=>rw[ho]at h;cases h
   |_=>rw[hb]at h;cases h
  |_=>rw[ha]at h;cases h
 |bi b cs=>
  cases b with
  |str=>
   cases cs with
   |nil=>cases hc
   |cons a cs=>
    cases cs with
    |cons=>cases hc
    |nil=>
     rw[jR,bz]at h;cases ha:ev Fs a [] none with
     |ok x=>
      rw[ha,R.ah,gG,R.ah,R.ah]at h;obtain⟨e1,e2⟩:=nC _ (show cl a=true from hc) ha;cases ho:cR .str [x.1] with
      |ok z=>have h:(cR .str [x.1]).bind (λd=>R.ok (d,x.2))= .ok (d,S'):=h;rw[ho]at h;cases h;exact⟨e1,by rw[jR,bz,e2,R.ah,gG,R.ah,R.ah];show (cR .str [x.1]).bind _=_;rw[ho];rfl⟩
      |_=>have h:(cR .str [x.1]).bind (λd=>R.ok (d,x.2))= .ok (d,S'):=h;rw[ho]at h;cases h
     |_=>rw[ha]at h;cases h
  |_=>cases hc
 |_=>cases hc
omit hE qY in
theorem vN{F:FT}{ρ σ:ai}{c:C}{d:Dt}{S':Sx}(hf:zK c=true)(h:ev Fs c ρ none= .ok (d,S')):S'=none/\ev F c σ none= .ok (E.rd m d,none):=by
 unfold zK at hf;rw[QO]at hf;obtain⟨hc,hf⟩:=hf;split at hf
 ·rename_i d0 S0 h0;obtain⟨e1,e2⟩:=nC (F:=Fs) (ρ:=ρ) (S:=none) _ hc h0;rw[e2]at h;cases h;exact⟨rfl,by rw[vO hf];exact(nC _ hc h0).2⟩
 ·cases hf
mutual
theorem Dl{F:FT}(hF:Jo F){ρ σ:ai}(ag:Ag E m ρ σ)(c:C){d:Dt}{S':Sx}(hc:ck c ρ=true)(h:ev Fs c ρ none= .ok (d,S')):S'=none/\ev F c σ none= .ok (E.rd m d,none):=by
 cases c with
 |con d0=>cases h;exact⟨rfl,by rw[vO hc];rfl⟩
 |var i=>
  rw[iZ]at h;unfold bp at h;split at h
  ·rename_i d0 hd;cases h;exact⟨rfl,by rw[iZ];unfold bp;rw[ag i _ hd];rfl⟩
  ·cases h
 |bin o a b=>
  unfold ck at hc;rw[Ru]at hc;rcases hc with hc|hc
  ·exact vN hc h
  have h0:=h;rw[d8]at h;split at hc
  ·rw[QO,QO]at hc;obtain⟨⟨ca,cb⟩,cs⟩:=hc;rw[h0]at cs;cases ha:ev Fs a ρ none with
   |ok x=>
    rw[ha,R.ah]at h;obtain⟨e1,e2⟩:=Dl hF ag _ ca ha;rw[e1]at h;cases hb:ev Fs b ρ none with
    |ok y=>
     rw[hb,R.ah]at h;obtain⟨e3,e4⟩:=Dl hF ag _ cb hb;cases ho:gQ .Add x.1 y.1 with
     |ok z=>
      rw[ho]at h;cases h;refine⟨e3,?_⟩;rw[d8,e2,R.ah,e4,R.ah];have key:gQ .Add (E.rd m x.1) (E.rd m y.1)= .ok (E.rd m d):=by
       unfold gQ at ho;simp only at ho;split at ho
       ·rename_i e5 e6;cases ho;cases cs
       ·rename_i u v e5 e6;obtain⟨_,ho⟩:=ay ho;cases ho;have hl:(u++v).length<=40000:=QQ cs;rw[len_cat]at hl;rw[e5,e6,df,df,df,pE];have:=lF hE qY u;have:=lF hE qY v;show ae (decide ((E.ex u).length+(E.ex v).length<=lim)) _=_;rw[Rh (by unfold lim;omega)];rfl
       ·rename_i u v e5 e6;obtain⟨hg,ho⟩:=ay ho;cases ho;rw[e5,e6,de,de,de,Rz];show ae (decide ((u.map (E.rd m)).length+(v.map (E.rd m)).length<=lim)) _=_;rw[QW,QW,hg];rfl
       ·rename_i u v e5 e6;obtain⟨hg,ho⟩:=ay ho;cases ho;cases cs
       ·cases ho
      rw[key];rfl
     |_=>rw[ho]at h;cases h
    |_=>rw[hb]at h;cases h
   |_=>rw[ha]at h;cases h
  ·rw[QO,QO]at hc;obtain⟨⟨ca,cb⟩,cs⟩:=hc;rw[h0]at cs;split at cb
   ·rename_i k;cases ha:ev Fs a ρ none with
    |ok x=>
     rw[ha,R.ah,si,R.ah]at h;obtain⟨e1,e2⟩:=Dl hF ag _ ca ha;cases ho:gQ .Mult x.1 (.int k) with
     |ok z=>
      have h:(gQ .Mult x.1 (.int k)).bind (λd=>R.ok (d,x.2))= .ok (d,S'):=h;rw[ho]at h;cases h;refine⟨e1,?_⟩;rw[d8,e2,R.ah,si,R.ah];have key:gQ .Mult (E.rd m x.1) (.int k)= .ok (E.rd m d):=by
       unfold gQ at ho;simp only at ho;split at ho
       ·obtain⟨_,ho⟩:=ay ho;cases ho;cases cs
       ·rename_i u v e5 e6;obtain⟨hg,ho⟩:=ay ho;cases ho;cases e6;rw[QO]at hg;have hl:(Txt.mul u k).length<=40000:=QQ cs;rw[e5,df,df,vH];have h2:=lF hE qY (Txt.mul u k);have h3:(E.ex (Txt.mul u k)).length=(E.ex u).length*k.toNat:=by rw[vH];show (Txt.mul (E.ex u) k).cps.size=_;rw[<-Q7,l7];simp[Str.length,Nat.mul_comm]
        show ae (decide (k.natAbs<=lim)&&decide ((E.ex u).length*k.toNat<=lim)) _=_;rw[hg.1,Rh (by unfold lim;omega)];rfl
       ·cases ho
      show (gQ .Mult (E.rd m x.1) (.int k)).bind _=_;rw[key];rfl
     |_=>have h:(gQ .Mult x.1 (.int k)).bind (λd=>R.ok (d,x.2))= .ok (d,S'):=h;rw[ho]at h;cases h
    |_=>rw[ha]at h;cases h
   ·cases cb
  ·cases hc
 |bi b es=>exact vN hc h
 |tup es=>
  rw[mw]at h;cases he:c6 Fs es ρ none with
  |ok x=>rw[he,R.ah]at h;obtain⟨hg,h⟩:=ay h;cases h;obtain⟨e1,e2⟩:=wm hF ag _ (show BC es ρ=true from hc) he;exact⟨e1,by rw[mw,e2,R.ah,hZ];show ae (decide ((x.1.map (E.rd m)).length<=lim)) _=_;rw[QW,hg];rfl⟩
  |_=>rw[he]at h;cases h
 |lst es=>
  rw[fj]at h;cases he:c6 Fs es ρ none with
  |ok x=>rw[he,R.ah]at h;obtain⟨hg,h⟩:=ay h;cases h;obtain⟨e1,e2⟩:=wm hF ag _ (show BC es ρ=true from hc) he;exact⟨e1,by rw[fj,e2,R.ah,de];show ae (decide ((x.1.map (E.rd m)).length<=lim)) _=_;rw[QW,hg];rfl⟩
  |_=>rw[he]at h;cases h
 |call f es ds=>
  unfold ck at hc;rw[QO,QO,Ru]at hc;obtain⟨⟨hf,hd⟩,hs⟩:=hc;have hd:ds=[]:=by simpa using hd
  subst hd;rw[gF]at h;cases he:c6 Fs es ρ none with
  |ok x=>
   rw[he,R.ah,Rt]at h;obtain⟨e1,e2⟩:=wm hF ag _ hs he;rw[gF,e2,R.ah,Rt];rcases hf with hf|hf
   ·have hf:f=18:=by simpa using hf
    subst hf;rcases x with ⟨_|⟨u,_|⟨v,_|⟨w,l⟩⟩⟩,Sq⟩<;>(try (cases h;done));cases h;exact⟨e1,by show (F 18 [E.rd m u,E.rd m v] none).bind _=_;rw[hF.a,R.ah,ED]⟩
   ·have hf:f=19:=by simpa using hf
    subst hf;rcases x with ⟨_|⟨u,_|⟨v,_|⟨w,l⟩⟩⟩,Sq⟩<;>(try (cases h;done));cases h;exact⟨e1,by show (F 19 [E.rd m u,E.rd m v] none).bind _=_;rw[hF.o,R.ah,B9]⟩
  |_=>rw[he]at h;cases h
 |_=>cases hc
theorem wm{F:FT}(hF:Jo F){ρ σ:ai}(ag:Ag E m ρ σ)(cs:Cs){ds:List Dt}{S':Sx}(hc:BC cs ρ=true)(h:c6 Fs cs ρ none= .ok (ds,S')):S'=none/\c6 F cs σ none= .ok (ds.map (E.rd m),none):=by
 cases cs with
 |nil=>cases h;exact⟨rfl,rfl⟩
 |cons c cs=>
  unfold BC at hc;rw[QO]at hc;rw[bz]at h;cases ha:ev Fs c ρ none with
  |ok x=>
   rw[ha,R.ah]at h;obtain⟨e1,e2⟩:=Dl hF ag _ hc.1 ha;rw[e1]at h;cases hb:c6 Fs cs ρ none with
   |ok y=>rw[hb,R.ah]at h;cases h;obtain⟨e3,e4⟩:=wm hF ag _ hc.2 hb;exact⟨e3,by rw[bz,e2,R.ah,e4];rfl⟩
   |_=>rw[hb]at h;cases h
  |_=>rw[ha]at h;cases h
end
end
open Mx (D)
def nz(p q:Bool):List Tk->List Tk
 |.c 48:: .D 0 true::t=>.O::nz p q t
 |.c 49:: .D 0 true::t=>.D 1 p::nz p q t
 |.D 0 true:: .c 48::t=>.D 2 q::nz p q t
 |a::t=>a::nz p q t
 |[]=>[]
def M1:Tk->Nat
 |.c _=>1
 |.X=>6
 |.S=>6
 |_=>20
def wt(t:List Tk):Nat:=(t.map M1).sum
def toks(p q:Bool)(z:Str):List Tk:=nz p q (z.cps.toList.map dec)
def K5(t:List Tk):Bool:=decide (t.count (.c 43)<=62)
def Wb:Nat->List Nat
 |0=>[97,98,99,100]
 |n+1=>97::32::43::32::Wb n
def Ga:List Nat:=Wb 149
def tv(t:List Tk):Bool:=decide (600<t.length)||(gd t&&K5 t&&match gB Kb 20 t with|none=>true|some r=> !r.2.isEmpty)
def bad(z:Str):Bool:=decide (z.length<=4000)&&tv (toks true true z)&&tv (toks true false z)&&tv (toks false true z)&&tv (toks false false z)
def En(t:List Tk):Bool:=t.all λa=>match a with|.D k b=>k==0&&b|_=>true
def BM(t:List Tk)(f:Dt):Bool:=gd t&&En t&&decide (wt t<=600)&&(K5 t||decide (t=Ga.map .c))&&match gB Kb 20 t,toD f with
 |some r,some (.tup ms)=>r.2.isEmpty&&decide (uQ r.1=some ms)
 |_,_=>false
def good(z:Str)(f:Dt):Bool:=BM (toks true true z) f
def wX:List Dt->Bool
 |[.str b,.str g,f]=>bad b&&good g f
 |_=>false
structure M6(E:Env):Prop where
 l:(E.d 0).length<=18
 d1:E.d 1=49::E.d 0
 d2:E.d 2=E.d 0++[48]
section
variable{E:Env}{m:Int}(hE:Cn E)(hD:M6 E)
include hD
theorem BK(p q:Bool)(t:List Tk):E.fl (nz p q t)=E.fl t:=by
 fun_induction nz p q t with
 |case1 t ih=>rw[aw,aw,aw,ih];rfl
 |case2 t ih=>rw[aw,aw,aw,ih];show E.d 1++_=[49]++(E.d 0++_);rw[hD.d1];rfl
 |case3 t ih=>rw[aw,aw,aw,ih];show E.d 2++_=E.d 0++([48]++_);rw[hD.d2,Q1]
 |case4 a t _ _ _ ih=>rw[aw,aw,ih]
 |case5=>rfl
theorem Mk(p q:Bool):∀{t:List Tk},(∀k b,Tk.D k b∈t->k=0/\b=true)->∀k b,Tk.D k b∈nz p q t->(k=0/\b=true)\/(k=1/\b=p)\/(k=2/\b=q):=λ {t}=>by
 fun_induction nz p q t with
 |case1 t ih=>
  intro h k b hk;rcases QZ.mp hk with e|hk
  ·cases e
  ·exact ih (λk b hk=>h k b (QS _ (QS _ hk))) k b hk
 |case2 t ih=>
  intro h k b hk;rcases QZ.mp hk with e|hk
  ·cases e;exact .inr (.inl ⟨rfl,rfl⟩)
  ·exact ih (λk b hk=>h k b (QS _ (QS _ hk))) k b hk
 |case3 t ih=>
  intro h k b hk;rcases QZ.mp hk with e|hk
  ·cases e;exact .inr (.inr ⟨rfl,rfl⟩)
  ·exact ih (λk b hk=>h k b (QS _ (QS _ hk))) k b hk
 |case4 a t _ _ _ ih=>
  intro h k b hk;rcases QZ.mp hk with e|hk
  ·exact .inl (h k b (by rw[e];exact QU))
  ·exact ih (λk b hk=>h k b (QS _ hk)) k b hk
 |case5=>intro h k b hk;cases hk
theorem Gn(l:List Nat):∀k b,Tk.D k b∈l.map dec->k=0/\b=true:=λk b h=>by
 obtain⟨n,_,e⟩:=Rn.mp h;unfold dec at e;split at e
 ·cases e
 split at e
 ·cases e
 split at e
 ·cases e;exact⟨rfl,rfl⟩
 ·cases e
omit hD in
theorem yH(hE:Cn E)(hl:∀k,(E.d k).length<=19):∀t:List Tk,(E.fl t).length<=wt t
 |[]=>QT _
 |a::t=>by
  rw[aw,Q3];have:=yH hE hl t;have h1:(E.one a).length<=M1 a:=by
   cases a with
   |c n=>exact QT _
   |X=>exact hE.x6
   |S=>exact hE.s6
   |D k b=>exact QY (hl k) (show 19<=20 by decide)
   |O=>exact Nat.succ_le_succ (hl 0)
  show _<=M1 a+wt t;omega
omit hD in
theorem pZ(hE:Cn E):∀t:List Tk,t.length<=(E.fl t).length
 |[]=>QT _
 |a::t=>by
  rw[aw,Q3,Q5];have:=pZ hE t;have h1:1<=(E.one a).length:=by
   cases a with
   |c n=>exact QT _
   |X=>exact List.length_pos_iff.mpr hE.x1
   |S=>exact List.length_pos_iff.mpr hE.s1
   |D k b=>exact List.length_pos_iff.mpr (hE.d1 k)
   |O=>exact Nat.succ_le_succ (SJ _)
  omega
include hE
omit hD in
theorem vK{t:List Tk}(h:K5 t=true):pc (E.fl t)<=62:=by
 have z:∀{l:List Nat}{lo hi:Nat},(∀n∈l,inR lo hi n=true)->inR lo hi 43=false->l.count 43=0:=λh1 h2=>List.count_eq_zero.mpr λhm=>by rw[h1 43 hm]at h2;cases h2
 have e:∀t:List Tk,pc (E.fl t)=t.count (.c 43):=λt=>by
  induction t with
  |nil=>rfl
  |cons a t ih=>
   unfold pc at ih ⊢;rw[aw,List.count_append,ih,List.count_cons,Nat.add_comm];congr 1;cases a with
   |c n=>
    show List.count 43 [n]=_;by_cases c:n=43
    ·subst c;rfl
    ·rw[S9 (by simp[c]),List.count_eq_zero.mpr ‹SL c›]
   |X=>exact z hE.xc rfl
   |S=>exact z hE.sc rfl
   |D k b=>exact z (hE.dc k) rfl
   |O=>exact z (l:=48::E.d 0) (lo:=48) (hi:=57) (λn hn=>(QZ.mp hn).elim (λe=>by rw[e];rfl) (hE.dc 0 n)) rfl
 rw[e];exact QQ h
theorem zk{t:List Tk}(hk:Mm E t)(h:tv t=true):jJ (E.fl t)=none/\((E.fl t).length<=600->pc (E.fl t)<=62):=by
 unfold tv at h;unfold jJ;by_cases c:600<(E.fl t).length
 ·rw[Ta c];exact⟨rfl,λh=>⋯⟩
 ·rw[S9 c];have:=pZ hE t;rw[Ru]at h;rcases h with h|h
  ·have:=QQ h;omega
  ·rw[QO,QO]at h;have e:=(ql (sim hE) 20 t ⟨h.1.1,hk,λ_=>hD.l⟩).1;refine⟨?_,λ_=>vK hE h.1.2⟩;rw[e];cases hp:gB Kb 20 t with
   |none=>rfl
   |some r=>
    rw[hp]at h;have eB:r.2≠[]:=by simpa using h.2
    show (if E.fl r.2=[] then _ else none)=none;rw[S9 λz=>eB (List.length_eq_zero_iff.mp (by have:=pZ hE r.2;rw[z]at this;simpa using this))]
theorem CG{z:Str}(h:bad z=true):jJ (E.fl (z.cps.toList.map dec))=none/\((E.fl (z.cps.toList.map dec)).length<=600->pc (E.fl (z.cps.toList.map dec))<=62):=by
 rw[<-BK hD (decide ((E.d 1).length<=18)) (decide ((E.d 2).length<=18))];refine zk hE hD (λk b hk=>?_) ?_
 ·rcases Mk hD _ _ (Gn hD _) k b hk with ⟨rfl,rfl⟩|⟨rfl,rfl⟩|⟨rfl,rfl⟩
  ·exact(Rh hD.l).symm
  ·rfl
  ·rfl
 ·unfold bad at h;rw[QO,QO,QO,QO]at h;unfold toks at h;cases decide ((E.d 1).length<=18)<;>cases decide ((E.d 2).length<=18)
  ·exact h.2
  ·exact h.1.2
  ·exact h.1.1.2
  ·exact h.1.1.1.2
omit hE hD in
theorem zl{z:Str}(h:bad z=true):z.length<=4000:=by unfold bad at h;simp only[QO,S7]at h;exact h.1.1.1.1
theorem zS(hm:ze E m)(hl:∀k,(E.d k).length<=19){z:Str}{f:Dt}(h:good z f=true):∃x ms,jJ (E.fl (z.cps.toList.map dec))=some x/\toD f=some (.tup ms)/\fD x=E.rd m f/\(E.fl (z.cps.toList.map dec)).length<=600/\(pc (E.fl (z.cps.toList.map dec))<=62\/E.fl (z.cps.toList.map dec)=Ga):=by
 unfold good BM at h;rw[<-BK hD true true];unfold toks at h;generalize nz true true (z.cps.toList.map dec)=t at h;rw[QO,QO,QO,QO,Ru]at h;obtain⟨⟨⟨⟨h1,h2⟩,h3⟩,h5⟩,h4⟩:=h;have hk:Mm E t:=λk b hk=>by have:=Ro.mp h2 _ hk;simp at this;obtain⟨rfl,rfl⟩:=this;exact(Rh hD.l).symm
 have hw:=yH hE hl t;have h3:=QQ h3;have e:=(ql (sim hE) 20 t ⟨h1,hk,λ_=>hD.l⟩).1;split at h4
 ·rename_i r ms hp hf;rw[QO]at h4;have hr:r.2=[]:=by simpa using h4.1
  have hn:=QQ h4.2;refine⟨r.1.map E.fl (md E),ms,?_,hf,?_,⋯,h5.imp (vK hE) λh=>by rw[QQ h];rfl⟩
  ·unfold jJ;rw[S9 ⋯,e,hp];show (if E.fl r.2=[] then _ else none)=_;rw[hr];rfl
  ·show Dt.tup (ao (val _))=_;rw[jF hm hn,wV hf,xX,mB];simp[ofD]
 ·cases h4
end
open Mx (D)
def dA:Ts->Ts
 |.cons (.asg _ _) ts=>dA ts
 |t=>t
def ij:Ts->ai->ai
 |.cons (.asg i c) ts,ρ=>match ev Fs c ρ none with
  |.ok (d,_)=>ij ts (ρ.set i (some d))
  |_=>ρ
 |_,ρ=>ρ
def KO:Ts->ai->Bool
 |.cons (.asg i c) ts,ρ=>decide (lk c=0)&&ck c ρ&&match ev Fs c ρ none with
  |.ok (d,_)=>KO ts (ρ.set i (some d))
  |_=>false
 |_,_=>true
def Av(i:Nat):Ts->Bool
 |.cons (.asg j _) ts=>i != j&&Av i ts
 |_=>true
def xS:Dt:=.str (tx [2000000])
def sS:Dt:=.str (tx [2000001])
def nS:Dt:=.str (tx [2000002])
section
variable{E:Env}{m:Int}(hE:Cn E)(qY:∀k,(E.d k).length<=19){F:FT}(hF:Jo F)
theorem Cw{ρ σ:ai}(hl:ρ.length=σ.length)(ag:Ag E m ρ σ)(i:Nat)(d:Dt):Ag E m (ρ.set i (some d)) (σ.set i (some (E.rd m d))):=λj e h=>by
 rw[R4]at h ⊢;by_cases c:i=j
 ·subst c;rw[Ta rfl]at h ⊢;split at h
  ·rename_i hi;cases h;rw[Ta ⋯]
  ·cases h
 ·rw[S9 c]at h ⊢;exact ag j e h
include hE qY hF
theorem u4:∀(b:Ts){ρ σ:ai},ρ.length=σ.length->Ag E m ρ σ->KO b ρ=true->∃σ',σ'.length=σ.length/\Ag E m (ij b ρ) σ'/\(∀i,Av i b=true->σ'[i]?=σ[i]?)/\∀r,fin (aE F (dA b) σ' none)=r->fin (aE F b σ none)=r
 |.nil,ρ,σ,hl,ag,h=>⟨σ,rfl,ag,λ_ _=>rfl,λr hr=>hr⟩
 |.cons t ts,ρ,σ,hl,ag,h=>by
  cases t with
  |asg i c=>
   unfold KO at h;rw[QO,QO]at h;obtain⟨⟨h1,h2⟩,h3⟩:=h;split at h3
   ·rename_i d S' he;obtain⟨e1,e2⟩:=Dl hE qY hF ag _ h2 he;obtain⟨σ',a1,a2,a4,a3⟩:=u4 ts (by rw[Sb,Sb];exact hl) (Cw hl ag i d) h3;refine⟨σ',by rw[a1,Sb],?_,λj hj=>?_,λr hr=>?_⟩
    ·unfold ij;rw[he];exact a2
    ·unfold Av at hj;rw[QO]at hj;have LC:i≠j:=λe=>by rw[e]at hj;simp at hj
     rw[a4 j hj.2,Q4 LC]
    ·exact aA (d:=E.rd m d) e2 (by unfold cG;rw[h1];rfl) (a3 r hr)
   ·cases h3
  |_=>exact⟨σ,rfl,ag,λ_ _=>rfl,λr hr=>hr⟩
omit hE qY hF in
theorem iL{σ:ai}{i way:Nat}{xs:List Dt}(h0:bp σ 0= .ok (.int way))(hi:bp σ i= .ok (.lst xs))(eB:xs≠[]):
  ∃d∈xs,ev F (.idx (.var i) (.bin .Mod (.var 0) (.bi .len (.cons (.var i) .nil)))) σ none= .ok (d,none):=by
 have hp:=List.length_pos_iff.mpr eB;have hm:=Nat.mod_lt way hp;have m1:=bJ (i:=way) (j:=xs.length) ⋯;have e1:((way:Int) % (xs.length:Int))=((way % xs.length:Nat):Int):=by simp
 refine⟨xs[way % xs.length],List.getElem_mem _,?_⟩;simp only[RX,h0,hi,m1,e1,(Dv (ds:=xs) (k:=way % xs.length) (d:=xs[way % xs.length]) (Rb hm)).2]
end
def pW(ρ:ai)(i:Nat):List Dt:=match ρ[i]? with|some (some (.lst l))=>l|_=>[]
def uS:Ts->Ts|.cons _ t=>t|t=>t
def xZ:Ts->C|.cons (.ret c) _=>c|_=>.con .bM
def B6:ai:=[none,some xS,some sS,some (.int (-1)),some nS,none,none,none,none]
def Gy:Dt:=.tup [.tup [.tup [.str "any",.str (tx [2000000])],.int (-1)]]
def FU:List Dt:=pW (ij (uS Fz) B6) 6
def FV:List Dt:=pW (ij F8 [none,some xS,some sS,none]) 3
def Fu:List Dt:=pW (ij FA [none,some xS,some sS,none]) 3
def Fv:List Dt:=pW (ij CC [none,some xS,some sS,none,none]) 4
def fL:List Dt:=pW (ij CC [none,some xS,some sS,none,none]) 3
def Hi:Nat->Ts->C
 |0,.cons (.ifs _ a _) _=>xZ a
 |n+1,.cons _ t=>Hi n t
 |_,_=>.con .bM
def zD(t:List Dt):ai:=match t with
 |[b,g,f]=>[none,some xS,some sS,none,some b,some g,some f]
 |_=>[]
def oS(w:Nat)(t:List Dt):List Dt:=match ev Fs (Hi w (uS CD)) (zD t) none with
 |.ok (.lst l,_)=>l
 |_=>[]
def t9(w:Nat)(t:List Dt):Bool:=ck (Hi w (uS CD)) (zD t)&&wX (oS w t)&&(match ev Fs (Hi w (uS CD)) (zD t) none with|.ok (.lst _,_)=>true|_=>false)
def wW(t:List Dt):Bool:=wX t&&t9 0 t&&t9 1 t&&t9 2 t&&t9 3 t
def Jc:Dt->List Dt
 |.tup [b,g]=>[b,g,Gy]
 |_=>[]
def Jd:Dt->List Dt
 |.tup l=>l
 |_=>[]
def K8:List Dt:=match xZ (dA FA) with
 |.lst (.cons _ es)=>match c6 Fs es [none,some xS,some sS,none] none with|.ok (l,_)=>l|_=>[]
 |_=>[]
theorem F2:(FU.all λd=>wW (Jc d))=true:=by decide +kernel
theorem F3:(FV.all λd=>wW (Jd d))=true:=by decide +kernel
theorem F4:(Fu.all λd=>wW (d::K8))=true:=by decide +kernel
theorem F7:(Fv.all λd=>wW (d::fL))=true:=by decide +kernel
theorem n9:FU.length=14/\FV.length=22/\Fu.length=16/\Fv.length=19:=by decide +kernel
open Mx (D)
theorem FF{N:Nat}(hN:1<=N):Jo (ar fs N) where
 a:=λa b=>ax (body:=KB) rfl hN rfl (by
  show fin (aE (ar fs (N-1)) KB [some a,some b] none)=_;exact aj (by simp only[RX];rfl))
 o:=λa b=>ax (body:=KC) rfl hN rfl (by
  show fin (aE (ar fs (N-1)) KC [some a,some b] none)=_;exact aj (by simp only[RX];rfl))
structure Kn(E:Env)(m:Int):Prop where
 e:Cn E
 h:∀k,(E.d k).length<=19
 d:M6 E
 n:ze E m
 t:(toString m:Str)=tx (E.d 0)
 m0:2<=m
 m1:m<1000000000000000000
section
variable{E:Env}{m:Int}(K:Kn E m)
theorem l8{l:List Dt}{n:Nat}{f:Dt->Dt}(h:l.length=n+1):l.map f≠[]:=λz=>by have:=S6 List.length z;rw[QW,h]at this;cases this
theorem jA{ρ:ai}{i:Nat}{l:List Dt}(h:pW ρ i=l)(eB:l≠[]):ρ[i]?=some (some (.lst l)):=by
 unfold pW at h;split at h
 ·rename_i e;rw[e,h]
 ·exact absurd h.symm eB
include K
abbrev Out(E:Env)(m:Int)(r:R (Dt×Sx))(t:List Dt):Prop:=r= .ok (.lst (t.map (E.rd m)),none)
theorem KH{N way:Nat}(hN:2<=N):∃t,wW t=true/\Out E m (ar fs N 20 [.int way,E.rd m xS,E.rd m sS,.int m] none) t:=by
 have hF:=FF (N:=N-1) ⋯;have ag:Ag E m B6 [some (.int way),some (E.rd m xS),some (E.rd m sS),some (.int m),some (E.rd m nS),none,none,none,none]:=λi d h=>by rcases i with _|_|_|_|_|_|_|_|_|i<;>first|(cases h;rfl)|cases h
 obtain⟨σ',h1,h2,h3,h4⟩:=u4 (ρ:=B6) K.e K.h hF (uS Fz) (by rfl) ag (by decide +kernel);have e0:=h3 0 (by decide +kernel);have e6:=h2 6 _ (jA (ρ:=ij (uS Fz) B6) (i:=6) (l:=FU) rfl (λz=>by have:=n9.1;rw[z]at this;cases this));have e5:=h2 5 Gy (by kernel_rfl);rw[de]at e6;rcases σ' with _|⟨a0,_|⟨a1,_|⟨a2,_|⟨a3,_|⟨a4,_|⟨a5,_|⟨a6,_|⟨a7,_|⟨a8,_|⟨a9,r⟩⟩⟩⟩⟩⟩⟩⟩⟩⟩<;>(try (cases h1;done))
 obtain rfl:a0=some (.int way):=SM e0;obtain rfl:a6=some (.lst (FU.map (E.rd m))):=SM e6;obtain rfl:a5=some (E.rd m Gy):=SM e5;obtain⟨d,hd,hp⟩:=iL (F:=ar fs (N-1)) (σ:=[some (.int way),a1,a2,a3,a4,some (E.rd m Gy),some (.lst (FU.map (E.rd m))),a7,a8]) (i:=6) (way:=way) rfl rfl (l8 n9.1);obtain⟨p,tQ,rfl⟩:=Rn.mp hd;have hok:=Ro.mp F2 p tQ;obtain⟨b,g,rfl⟩:∃b g,p= .tup [b,g]:=by
  unfold Jc at hok;split at hok
  ·exact⟨_,_,rfl⟩
  ·cases hok
 rw[hZ]at hp;have LF:m.natAbs.log2<1920:=Nat.lt_trans ((Nat.log2_lt (by have:=K.m0;omega)).mpr (show m.natAbs<2^64 by have:=K.m1;have:=K.m0;omega)) ‹_›;have st:cR .str [.int m]= .ok (E.rd m nS):=by show ae (decide (m.natAbs.log2<1920)) _=_;rw[Rh LF,guard_true,K.t];show R.ok (Dt.str (tx (E.d 0)))=R.ok (.str (tx (E.d 0++[])));rw[Rt]
 refine⟨[b,g,Gy],hok,ax (body:=Fz) rfl ⋯ rfl ?_⟩;show fin (aE (ar fs (N-1)) Fz [some (.int way),some (E.rd m xS),some (E.rd m sS),some (.int m),none,none,none,none,none] none)=_;refine aA (d:=E.rd m nS) (by simp only[RX,st]) rfl (h4 _ ?_);exact aQ (bG rfl hp) (aj (by simp only[RX];rfl))
theorem KI{N way:Nat}(hN:2<=N):∃t,wW t=true/\Out E m (ar fs N 21 [.int way,E.rd m xS,E.rd m sS] none) t:=by
 have hF:=FF (N:=N-1) ⋯;have ag:Ag E m [none,some xS,some sS,none] [some (.int way),some (E.rd m xS),some (E.rd m sS),none]:=λi d h=>by rcases i with _|_|_|_|i<;>first|(cases h;rfl)|cases h
 obtain⟨σ',h1,h2,h3,h4⟩:=u4 (ρ:=[none,some xS,some sS,none]) K.e K.h hF F8 (by rfl) ag (by decide +kernel);have e0:=h3 0 (by decide +kernel);have e3:=h2 3 _ (jA (ρ:=ij F8 [none,some xS,some sS,none]) (i:=3) (l:=FV) rfl (λz=>by have:=n9.2.1;rw[z]at this;cases this));rw[de]at e3;rcases σ' with _|⟨a0,_|⟨a1,_|⟨a2,_|⟨a3,_|⟨a4,r⟩⟩⟩⟩⟩<;>(try (cases h1;done))
 obtain rfl:a0=some (.int way):=SM e0;obtain rfl:a3=some (.lst (FV.map (E.rd m))):=SM e3;obtain⟨d,hd,hp⟩:=iL (F:=ar fs (N-1)) (σ:=[some (.int way),a1,a2,some (.lst (FV.map (E.rd m)))]) (i:=3) (way:=way) rfl rfl (l8 n9.2.1);obtain⟨p,tQ,rfl⟩:=Rn.mp hd;have hok:=Ro.mp F3 p tQ;obtain⟨l,rfl⟩:∃l,p= .tup l:=by
  unfold Jd at hok;split at hok
  ·exact⟨_,rfl⟩
  ·cases hok
 rw[hZ]at hp;refine⟨l,hok,ax (body:=F8) rfl ⋯ rfl ?_⟩;refine h4 _ (aj ?_);rw[vG,hp];rfl
theorem KJ{N way:Nat}(hN:2<=N):∃t,wW t=true/\Out E m (ar fs N 22 [.int way,E.rd m xS,E.rd m sS] none) t:=by
 have hF:=FF (N:=N-1) ⋯;have ag:Ag E m [none,some xS,some sS,none] [some (.int way),some (E.rd m xS),some (E.rd m sS),none]:=λi d h=>by rcases i with _|_|_|_|i<;>first|(cases h;rfl)|cases h
 obtain⟨σ',h1,h2,h3,h4⟩:=u4 (ρ:=[none,some xS,some sS,none]) K.e K.h hF FA (by rfl) ag (by decide +kernel);have e0:=h3 0 (by decide +kernel);have e1:=h3 1 (by decide +kernel);have e3:=h2 3 _ (jA (ρ:=ij FA [none,some xS,some sS,none]) (i:=3) (l:=Fu) rfl (λz=>by have:=n9.2.2.1;rw[z]at this;cases this));rw[de]at e3;rcases σ' with _|⟨a0,_|⟨a1,_|⟨a2,_|⟨a3,_|⟨a4,r⟩⟩⟩⟩⟩<;>(try (cases h1;done))
 obtain rfl:a0=some (.int way):=SM e0;obtain rfl:a1=some (E.rd m xS):=SM e1;obtain rfl:a3=some (.lst (Fu.map (E.rd m))):=SM e3;obtain⟨d,hd,hp⟩:=iL (F:=ar fs (N-1)) (σ:=[some (.int way),some (E.rd m xS),a2,some (.lst (Fu.map (E.rd m)))]) (i:=3) (way:=way) rfl rfl (l8 n9.2.2.1);obtain⟨p,tQ,rfl⟩:=Rn.mp hd;have hok:=Ro.mp F4 p tQ;have Oq:Ag E m [none,some xS,none,none] [some (.int way),some (E.rd m xS),a2,some (.lst (Fu.map (E.rd m)))]:=λi d h=>by rcases i with _|_|_|_|i<;>first|(cases h;rfl)|cases h
 have hg:=wm K.e K.h hF Oq (cs:=Cs.cons (.bin .Add (.bin .Add (.var 1) (.con (.str " + "))) (.var 1)) (.cons (.call 18 (.cons (.var 1) (.cons (.con (.int 2)) .nil)) []) .nil)) (ds:=K8) (S':=none) (by decide +kernel) (by kernel_rfl);refine⟨p::K8,hok,ax (body:=FA) rfl ⋯ rfl ?_⟩;refine h4 _ (aj (c:=.lst (.cons (.idx (.var 3) (.bin .Mod (.var 0) (.bi .len (.cons (.var 3) .nil)))) (Cs.cons (.bin .Add (.bin .Add (.var 1) (.con (.str " + "))) (.var 1)) (.cons (.call 18 (.cons (.var 1) (.cons (.con (.int 2)) .nil)) []) .nil)))) ?_);rw[fj,bz,hp,R.ah,hg.2,R.ah,R.ah];rfl
theorem KM{N way:Nat}(hN:2<=N):∃t,wW t=true/\Out E m (ar fs N 23 [.int way,E.rd m xS,E.rd m sS] none) t:=by
 have hF:=FF (N:=N-1) ⋯;have ag:Ag E m [none,some xS,some sS,none,none] [some (.int way),some (E.rd m xS),some (E.rd m sS),none,none]:=λi d h=>by rcases i with _|_|_|_|_|i<;>first|(cases h;rfl)|cases h
 obtain⟨σ',h1,h2,h3,h4⟩:=u4 (ρ:=[none,some xS,some sS,none,none]) K.e K.h hF CC (by rfl) ag (by decide +kernel);have e0:=h3 0 (by decide +kernel);have e4:=h2 4 _ (jA (ρ:=ij CC [none,some xS,some sS,none,none]) (i:=4) (l:=Fv) rfl (λz=>by have:=n9.2.2.2;rw[z]at this;cases this));have e3:=h2 3 _ (jA (ρ:=ij CC [none,some xS,some sS,none,none]) (i:=3) (l:=fL) rfl (by decide +kernel));rw[de]at e3 e4;rcases σ' with _|⟨a0,_|⟨a1,_|⟨a2,_|⟨a3,_|⟨a4,_|⟨a5,r⟩⟩⟩⟩⟩⟩<;>(try (cases h1;done))
 obtain rfl:a0=some (.int way):=SM e0;obtain rfl:a3=some (.lst (fL.map (E.rd m))):=SM e3;obtain rfl:a4=some (.lst (Fv.map (E.rd m))):=SM e4;obtain⟨d,hd,hp⟩:=iL (F:=ar fs (N-1)) (σ:=[some (.int way),a1,a2,some (.lst (fL.map (E.rd m))),some (.lst (Fv.map (E.rd m)))]) (i:=4) (way:=way) rfl rfl (l8 n9.2.2.2);obtain⟨p,tQ,rfl⟩:=Rn.mp hd;have hok:=Ro.mp F7 p tQ;refine⟨p::fL,hok,ax (body:=CC) rfl ⋯ rfl ?_⟩;refine h4 _ (aj (c:=.bin .Add (.lst (.cons (.idx (.var 4) (.bin .Mod (.var 0) (.bi .len (.cons (.var 4) .nil)))) .nil)) (.var 3)) ?_);have hl:ev (ar fs (N-1)) (.lst (.cons (.idx (.var 4) (.bin .Mod (.var 0) (.bi .len (.cons (.var 4) .nil)))) .nil)) [some (.int way),a1,a2,some (.lst (fL.map (E.rd m))),some (.lst (Fv.map (E.rd m)))] none= .ok (.lst [E.rd m p],none):=by rw[fj,bz,hp];rfl
 have l2:fL.length=2:=by decide +kernel
 have ha:gQ .Add (.lst [E.rd m p]) (.lst (fL.map (E.rd m)))= .ok (.lst ((p::fL).map (E.rd m))):=by show ae (decide ([E.rd m p].length+(fL.map (E.rd m)).length<=lim)) _=_;rw[QW,l2];rfl
 rw[d8,hl];simp only[RX,ha]
def nest:Nat->Dt
 |0=>.tup []
 |n+1=>B0 sS (.tup [nest n])
def JJ(n:Nat):C:=match n,JF with
 |0,.cons (.ifs _ a _) _=>xZ a
 |1,.cons _ (.cons (.ifs _ (.cons _ (.cons _ a)) _) _)=>xZ a
 |2,.cons _ (.cons _ a)=>xZ a
 |_,_=>.con .bM
def Ie(n:Nat):ai:=[none,some xS,some sS,if n=1 then some (nest 20) else none,none]
def JC(n:Nat):List Dt:=match ev Fs (JJ n) (Ie n) none with
 |.ok (.lst l,_)=>l
 |_=>[]
omit K in
theorem By:∀n,n<3->wX (JC n)=true/\ck (JJ n) (Ie n)=true:=by decide +kernel
omit K in
theorem K3:∀n,n<3->ev Fs (JJ n) (Ie n) none= .ok (.lst (JC n),none)
 |0,_=>by kernel_rfl
 |1,_=>by kernel_rfl
 |2,_=>by kernel_rfl
 |n+3,h=>by omega
theorem KN{N way:Nat}(hN:2<=N):∃t,wX t=true/\Out E m (ar fs N 24 [.int way,E.rd m xS,E.rd m sS] none) t:=by
 have hF:=FF (N:=N-1) ⋯;have m1:=bJ (i:=way) (j:=3) ‹_›;have e1:((way:Int) % 3)=((way % 3:Nat):Int):=by simp
 have hm:=Nat.mod_lt way (y:=3) ‹_›;refine⟨JC (way % 3),(By _ hm).1,ax (body:=JF) rfl ⋯ rfl ?_⟩;show fin (aE (ar fs (N-1)) JF [some (.int way),some (E.rd m xS),some (E.rd m sS),none,none] none)=_;have C2:∀(n:Nat)(y z:Option Dt),n<3->(n=1->y=some (E.rd m (nest 20)))->∀ts,fin (aE (ar fs (N-1)) (.cons (.ret (JJ n)) ts) [some (.int way),some (E.rd m xS),some (E.rd m sS),y,z] none)= .ok (.lst ((JC n).map (E.rd m)),none):=λn y z hn hy ts=>by
  have ag:Ag E m (Ie n) [some (.int way),some (E.rd m xS),some (E.rd m sS),y,z]:=λi d h=>by
   unfold Ie at h;rcases i with _|_|_|_|_|i
   ·cases h
   ·cases h;rfl
   ·cases h;rfl
   ·by_cases c:n=1
    ·rw[Ta c]at h;cases h;rw[hy c];rfl
    ·rw[S9 c]at h;cases h
   ·cases h
   ·cases h
  have:=(Dl K.e K.h hF ag _ (By n hn).2 (K3 n hn)).2;rw[de]at this;exact aj this
 generalize hw:way % 3=w at *;have PP:w=0\/w=1\/w=2:=⋯
 rcases PP with rfl|rfl|rfl
 ·exact aS (by simp only[RX,m1,e1];rfl) (C2 0 none none ‹_› (λh=>by cases h) _)
 ·refine aF (by simp only[RX,m1,e1];rfl) (aS (by simp only[RX,m1,e1];rfl) ?_);have loop:=cO (S:=none) (tg:=.nm 4) (body:=aE (ar fs (N-1)) (.cons (.asg 3 (.call 19 (.cons (.var 2) (.cons (.tup (.cons (.var 3) .nil)) .nil)) [])) .nil)) (ds:=cn 0 20)
   (ρ:=[some (.int way),some (E.rd m xS),some (E.rd m sS),some (.tup []),none]) (λpre ρ=>∃z,ρ=[some (.int way),some (E.rd m xS),some (E.rd m sS),some (E.rd m (nest pre.length)),z]) ⟨none,rfl⟩ (by
    rintro pre x post ρ e ⟨z,rfl⟩;have h1:=hF.o (E.rd m sS) (.tup [E.rd m (nest pre.length)]);refine⟨_,_,rfl,mf (d:=B0 (E.rd m sS) (.tup [E.rd m (nest pre.length)])) (by simp only[RX,h1]) rfl rfl,some x,?_⟩;rw[Q3,Sd];show _=[_,_,_,some (E.rd m (B0 sS (.tup [nest pre.length]))),_];rw[B9,hZ];rfl)
  obtain⟨ρ',hl,z,rfl⟩:=loop;exact aA (d:=.tup []) (by simp only[RX]) rfl (cV (ds:=cn 0 20) (lU (n:=20) rfl ‹_›) rfl hl (C2 1 _ z ‹_› (λ_=>rfl) _))
 ·exact aF (by simp only[RX,m1,e1];rfl) (aF (by simp only[RX,m1,e1];rfl) (C2 2 none none ‹_› (λh=>by cases h) _))
omit K in
theorem Ht{t:List Dt}(h:wX t=true):∃b g f,t=[.str b,.str g,f]/\bad b=true/\good g f=true:=by
 unfold wX at h;split at h
 ·rename_i b g f;rw[QO]at h;exact⟨b,g,f,rfl,h.1,h.2⟩
 ·cases h
theorem within{N w:Nat}(hN:2<=N){t:List Dt}(ht:wW t=true):∃t',wX t'=true/\Out E m (ar fs N 25 [.int w,E.rd m xS,E.rd m sS,.lst (t.map (E.rd m))] none) t':=by
 have hF:=FF (N:=N-1) ⋯;unfold wW at ht;simp only[QO]at ht;obtain⟨⟨⟨⟨h0,w0⟩,w1⟩,w2⟩,w3⟩:=ht;obtain⟨b,g,f,rfl,_⟩:=Ht h0;have go:∀{r:R (Dt×Sx)},fin (aE (ar fs (N-1)) (uS CD) [some (.int w),some (E.rd m xS),some (E.rd m sS),some (.lst [E.rd m (.str b),E.rd m (.str g),E.rd m f]),some (E.rd m (.str b)),some (E.rd m (.str g)),some (E.rd m f)] none)=r->ar fs N 25 [.int w,E.rd m xS,E.rd m sS,.lst ([Dt.str b,.str g,f].map (E.rd m))] none=r:=λh=>
  ax (body:=CD) rfl ⋯ rfl (aQ (by rw[eS];rfl) h)
 have ag:Ag E m (zD [.str b,.str g,f]) [some (.int w),some (E.rd m xS),some (E.rd m sS),some (.lst [E.rd m (.str b),E.rd m (.str g),E.rd m f]),some (E.rd m (.str b)),some (E.rd m (.str g)),some (E.rd m f)]:=λi d h=>by rcases i with _|_|_|_|_|_|_|i<;>first|(cases h;rfl)|cases h
 have one:∀v:Nat,t9 v [.str b,.str g,f]=true->∀ts,wX (oS v [.str b,.str g,f])=true/\fin (aE (ar fs (N-1)) (.cons (.ret (Hi v (uS CD))) ts) [some (.int w),some (E.rd m xS),some (E.rd m sS),some (.lst [E.rd m (.str b),E.rd m (.str g),E.rd m f]),some (E.rd m (.str b)),some (E.rd m (.str g)),some (E.rd m f)] none)= .ok (.lst ((oS v [.str b,.str g,f]).map (E.rd m)),none):=λv hv ts=>by
  unfold t9 at hv;rw[QO,QO]at hv;obtain⟨⟨c1,c2⟩,c3⟩:=hv;refine⟨c2,?_⟩;split at c3
  ·rename_i l S' he;have h:=(Dl K.e K.h hF ag _ c1 he).2;have e:oS v [.str b,.str g,f]=l:=by unfold oS;rw[he]
   rw[e,<-de];exact aj h
  ·cases c3
 have nat:∀k:Nat,((w:Int)==(k:Int))=decide (w=k):=λk=>by
  by_cases c:w=k
  ·subst c;simp
  ·rw[Rc c,SZ.mpr ⋯]
 by_cases c0:w=0
 ·exact⟨_,(one 0 w0 .nil).1,go (aS (by simp only[RX];rw[show ((w:Int)==0)=true from by rw[c0];rfl]) (one 0 w0 _).2)⟩
 by_cases c1:w=1
 ·exact⟨_,(one 1 w1 .nil).1,go (aF (by simp only[RX];rw[show ((w:Int)==0)=false from SZ.mpr ⋯]) (aS (by simp only[RX];rw[show ((w:Int)==1)=true from by rw[c1];rfl]) (one 1 w1 _).2))⟩
 by_cases c2:w=2
 ·exact⟨_,(one 2 w2 .nil).1,go (aF (by simp only[RX];rw[show ((w:Int)==0)=false from SZ.mpr ⋯]) (aF (by simp only[RX];rw[show ((w:Int)==1)=false from SZ.mpr ⋯]) (aS (by simp only[RX];rw[show ((w:Int)==2)=true from by rw[c2];rfl]) (one 2 w2 _).2)))⟩
 have n3:=λ {r:R (Dt×Sx)} (h:fin (aE (ar fs (N-1)) _ [some (.int w),some (E.rd m xS),some (E.rd m sS),some (.lst [E.rd m (.str b),E.rd m (.str g),E.rd m f]),some (E.rd m (.str b)),some (E.rd m (.str g)),some (E.rd m f)] none)=r)=>go (aF (by simp only[RX];rw[show ((w:Int)==0)=false from SZ.mpr ⋯]) (aF (by simp only[RX];rw[show ((w:Int)==1)=false from SZ.mpr ⋯]) (aF (by simp only[RX];rw[show ((w:Int)==2)=false from SZ.mpr ⋯]) h)))
 by_cases c3:w=3
 ·exact⟨_,(one 3 w3 .nil).1,n3 (aS (by simp only[RX];rw[show ((w:Int)==3)=true from by rw[c3];rfl]) (one 3 w3 _).2)⟩
 ·exact⟨_,h0,n3 (aF (by simp only[RX];rw[show ((w:Int)==3)=false from SZ.mpr ⋯]) (aj (by simp only[RX];rfl)))⟩
end
end K14
end
section
namespace Rx
open PySem PySem.W PySem.Spec PyProof.Rows L2
variable{fs:List Fn}
def uH(L w:Str):Prop:=∀n∈w.cps.toList,n∈L.cps.toList
theorem zi(a b:Str):(a++b).cps.toList=a.cps.toList++b.cps.toList:=by show (a.cps++b.cps).toList=_;simp
theorem iP{L a b:Str}(h1:uH L a)(h2:uH L b):uH L (a++b):=λn h=>by rw[zi]at h;exact(Q9.mp h).elim (h1 n) (h2 n)
theorem pO{L:Str}{k d:Nat}(h:k<L.length):uH L ⟨#[L.cps.toList.getD k d]⟩:=λn hn=>by
 have hk:k<L.cps.toList.length:=by simpa [Str.length]using h
 have:n=L.cps.toList.getD k d:=by simpa using hn
 rw[this,R1,Rb hk];exact List.getElem_mem _
theorem lB(x:Str)(j:Nat):PySem.Txt.slice x none (some (j:Int))=tx (x.cps.toList.take j):=by
 have e:PySem.Txt.slice x none (some (j:Int))=PySem.Txt.slice x (some ((0:Nat):Int)) (some (j:Int)):=by unfold PySem.Txt.slice;rw[PySem.StrLaws.sliceIdx_none_lo];rfl
 rw[e,lA _ (SJ j)];rfl
theorem nG(x:Str)(i:Nat):PySem.Txt.slice x (some (i:Int)) none=tx (x.cps.toList.drop i):=by
 have e:PySem.Txt.slice x (some (i:Int)) none=PySem.Txt.slice x (some (i:Int)) (some ((max i x.length:Nat):Int)):=by unfold PySem.Txt.slice;rw[PySem.StrLaws.sliceIdx_none_hi,lR,lR x.length i (max i x.length),Nat.min_self,Nat.min_eq_right (Nat.le_max_right _ _)]
 rw[e,lA _ (Nat.le_max_left _ _),Sy (by rw[R7];simp[Str.length];omega)]
theorem Ar{ip im:Nat}(hp:iG fs ip)(hf:fs[im]?=some ⟨3,9,false,ll ip⟩){n:Nat}(hn:3<=n){ns:List Int}{k:Nat}{L:Str}(hk:k<100000)(hL:L.length=26)(hz:L.length<=lim):∃a b c,ar fs n im [.bR ns,.int k,.str L] none= .ok (.lst [.str a,.str b,.str c],none)/\uH L a/\1<=a.length/\a.length<=6/\(1<=b.length/\b.length<=8)/\1<=c.length/\c.length<=8:=by
 have z9:lim=1000000:=rfl;have iu:=eR (ns:=ns) (k:=k) (many:=6) ‹_›;have P:=λ(k many:Nat)(h1:k<1000000)(h2:0<many)=>iW hp (n:=n-1) ⋯ (ns:=ns) h1 h2
 have loop:=cO (S:=none) (tg:=.nm 4) (body:=aE (ar fs (n-1)) (.cons (.asg 3 (.bin .Add (.var 3) (.idx (.var 2) (.call ip (.cons (.var 0) (.cons (.bin .Add (.bin .Add (.var 1) (.bin .Mult (.con (.int 11)) (.var 4))) (.con (.int 1))) (.cons (.con (.int 26)) .nil))) [])))) .nil)) (ds:=cn 0 (bB ns k 6))
  (ρ:=[some (.bR ns),some (.int k),some (.str L),some (.str ""),none,none,none,none,none])
  (λpre ρ=>∃w jv,w.length<=pre.length/\uH L w/\ρ=[some (.bR ns),some (.int k),some (.str L),some (.str w),jv,none,none,none,none]) ⟨"",none,QT _,λn h=>(by cases h),rfl⟩ (by
   rintro pre x post ρ e ⟨w,jv,hw,BQ,rfl⟩;obtain⟨h1,rfl⟩:=kS e;have NH:=P (k+11*pre.length+1) 26 ⋯ ‹_›;have cP:=eR (ns:=ns) (k:=k+11*pre.length+1) (many:=26) ‹_›;have hc:=gp (z:=L) (k:=bB ns (k+11*pre.length+1) 26) (d:=0) ⋯ ⋯;have ic:=pO (L:=L) (d:=0) (k:=bB ns (k+11*pre.length+1) 26) ⋯;generalize L.cps.toList.getD (bB ns (k+11*pre.length+1) 26) 0=c at hc ic;have m1:=bK (i:=11) (j:=pre.length) (.inl ‹_›);have ca:=d5 (a:=w) (b:=⟨#[c]⟩) (by show w.length+1<=lim;omega);refine⟨_,_,rfl,mf (d:=.str (w++⟨#[c]⟩)) ?_ rfl rfl,w++⟨#[c]⟩,_,?_,iP BQ ic,rfl⟩
   ·rw[show ((k+11*pre.length+1:Nat):Int)=(k:Int)+11*pre.length+1 by omega]at NH;simp only[RX,m1];rw[show ([Dt.bR ns,.int ((k:Int)+11*pre.length+1),.int 26]:List Dt)=[.bR ns,.int ((k:Int)+11*pre.length+1),.int (26:Nat)] from rfl,NH];simp only[RX,hc,ca]
   ·rw[len_cat,Q3];show w.length+1<=_;simp;omega)
 obtain⟨ρ1,kE,w,jv,hw,BQ,rfl⟩:=loop;have J1:w.length<=5:=by
  have:(cn 0 (bB ns k 6)).length=bB ns k 6:=by simp[cn]
  omega
 have p2:=P (k+2) (w.length+1) ⋯ ⋯;have l2:=eR (ns:=ns) (k:=k+2) (many:=w.length+1) ⋯;have p3:=P (k+3) 26 ⋯ ‹_›;have l3:=eR (ns:=ns) (k:=k+3) (many:=26) ‹_›;have p4:=P (k+4) 3 ⋯ ‹_›;generalize bB ns (k+2) (w.length+1)=at' at p2 l2;generalize bB ns (k+3) 26=fi at p3 l3;generalize bB ns (k+4) 3=q4 at p4;have hlen:=len_str (z:=w) ⋯;have Lv:=gp (z:=L) (k:=fi) (d:=0) ⋯ ⋯;have NR:=pO (L:=L) (d:=0) (k:=fi) ⋯;generalize L.cps.toList.getD fi 0=cf at Lv NR;obtain⟨ca,Nz⟩:=Ae (z:=L) (k:=at') ⋯ ⋯;have s3:=mI (z:=w) (lo:=none) (hi:=some 3) ⋯;have e3:=PySem.Txt.slice_le w none (some 3);have i3:uH L (PySem.Txt.slice w none (some 3)):=λn h=>BQ n (by rw[show (some (3:Int))=some ((3:Nat):Int) from rfl,lB,bZ]at h;exact Sl h)
 have P1:(PySem.Txt.slice w none (some 3)).length<=3:=by rw[show (some (3:Int))=some ((3:Nat):Int) from rfl,lB,b5,Se];omega
 generalize PySem.Txt.slice w none (some 3)=w3 at s3 e3 i3 P1;have Qw:((26:Nat):Int)=26:=rfl;have head:∃a b c,fin (aE (ar fs (n-1)) (ll ip) [some (.bR ns),some (.int k),some (.str L),none,none,none,none,none,none] none)= .ok (.lst [.str a,.str b,.str c],none)/\uH L a/\1<=a.length/\a.length<=6/\(1<=b.length/\b.length<=8)/\1<=c.length/\c.length<=8:=by
  by_cases h4:q4=0
  ·subst h4;have c1:=d5 (a:=w3) (b:=⟨#[cf]⟩) (by show w3.length+1<=lim;omega);have c2:=d5 (a:=w3++⟨#[cf]⟩) (b:=⟨#[ca]⟩) (by rw[len_cat];show w3.length+1+1<=lim;omega);have c3:=d5 (a:=w3++⟨#[cf]⟩++⟨#[ca]⟩) (b:=⟨#[cf]⟩) (by rw[len_cat,len_cat];show w3.length+1+1+1<=lim;omega);refine⟨w3++⟨#[cf]⟩,w3++⟨#[cf]⟩++⟨#[ca]⟩,w3++⟨#[cf]⟩++⟨#[ca]⟩++⟨#[cf]⟩,?_,iP i3 NR,by rw[len_cat];exact Nat.le_add_left 1 _,by rw[len_cat];show w3.length+1<=6;omega,⟨by rw[len_cat];exact Nat.le_add_left 1 _,by rw[len_cat,len_cat];show w3.length+1+1<=8;omega⟩,by rw[len_cat];exact Nat.le_add_left 1 _,by rw[len_cat,len_cat,len_cat];show w3.length+1+1+1<=8;omega⟩;refine aA (d:=.str "") rfl rfl (cV (ds:=cn 0 (bB ns k 6)) (lU (by simp only[RX];exact S6 (R.bind · _) (P k 6 ⋯ ‹_›)) ⋯) rfl kE ?_);refine aA (d:=.int at') (by simp only[RX,hlen];exact S6 (R.bind · _) p2) rfl ?_;refine aA (d:=.int fi) (by simp only[RX];exact S6 (R.bind · _) p3) rfl ?_;refine aS (by simp only[RX];rw[show ar fs (n-1) ip [.bR ns,.int ((k:Int)+4),.int 3] none=_ from p4];rfl) ?_;refine aA (d:=.str (w3++⟨#[cf]⟩)) (by simp only[RX,s3,Lv,c1]) rfl ?_;exact aj (by simp only[RX,Nz,Lv,c2,c3])
  ·have l4:=λj:Nat=>Nat.mod_lt (fi+7*j) (y:=26) ‹_›
   have s5:=mI (z:=w) (lo:=none) (hi:=some (at':Int)) ⋯;have e5:=PySem.Txt.slice_le w none (some (at':Int));have i5:uH L (PySem.Txt.slice w none (some (at':Int))):=λn h=>BQ n (by rw[lB,bZ]at h;exact Sl h)
   have i6:uH L (PySem.Txt.slice w (some (at':Int)) none):=λn h=>BQ n (by rw[nG,bZ]at h;exact List.mem_of_mem_drop h)
   have NW:(PySem.Txt.slice w none (some (at':Int))).length+(PySem.Txt.slice w (some (at':Int)) none).length=w.length:=by rw[lB,nG,b5,b5,<-Q3,Sw];simp[Str.length]
   have s6:=mI (z:=w) (lo:=some (at':Int)) (hi:=none) ⋯;have e6:=PySem.Txt.slice_le w (some (at':Int)) none;generalize PySem.Txt.slice w none (some (at':Int))=wa at s5 e5 i5 NW;generalize PySem.Txt.slice w (some (at':Int)) none=wb at s6 e6 i6 NW;have hl:L.cps.toList.length=26:=by rw[<-hL];simp[Str.length]
   have Hz:=cO (S:=none) (tg:=.nm 4) (body:=aE (ar fs (n-1)) qG) (ds:=cn 0 3)
    (ρ:=[some (.bR ns),some (.int k),some (.str L),some (.str w),jv,some (.int at'),some (.int fi),some (.lst []),none])
    (λpre ρ=>∃jv s8,ρ=[some (.bR ns),some (.int k),some (.str L),some (.str w),jv,some (.int at'),some (.int fi),some (.lst ((List.range pre.length).map λj=>Dt.str (wa++⟨#[L.cps.toList.getD ((fi+7*j) % 26) cf]⟩++wb))),s8]) ⟨jv,none,rfl⟩ (by
     rintro pre x post ρ e ⟨jv,s8,rfl⟩;obtain⟨h1,rfl⟩:=kS e;have hc:=gp (z:=L) (k:=(fi+7*pre.length) % 26) (d:=cf) ⋯ (by have:=l4 pre.length;omega);rw[show (((fi+7*pre.length) % 26:Nat):Int)=((fi:Int)+7*pre.length) % 26 by omega]at hc;generalize hcc:L.cps.toList.getD ((fi+7*pre.length) % 26) cf=c at hc;have m1:=bK (i:=7) (j:=pre.length) (.inl ‹_›);have m2:=bJ (i:=(fi:Int)+7*pre.length) (j:=26) ‹_›;have c1:=d5 (a:=wa) (b:=⟨#[c]⟩) (by show wa.length+1<=lim;omega);have c2:=d5 (a:=wa++⟨#[c]⟩) (b:=wb) (by rw[len_cat];show wa.length+1+wb.length<=lim;omega);refine⟨_,_,rfl,mf (d:=.str ⟨#[c]⟩) (by simp only[RX,m1,m2,hc]) rfl (me (ds:=(List.range pre.length).map λj=>Dt.str (wa++⟨#[L.cps.toList.getD ((fi+7*j) % 26) cf]⟩++wb)) (d:=.str (wa++⟨#[c]⟩++wb)) rfl (by simp only[RX,s5,s6,c1,c2]) rfl (by simp;omega) rfl),some (.int pre.length),some (.str ⟨#[c]⟩),?_⟩;rw[Q3,Sd,List.range_succ,Rz,List.map_singleton,hcc];rfl)
   obtain⟨ρ2,Dg,QG,s8,rfl⟩:=Hz;refine⟨wa++⟨#[L.cps.toList.getD ((fi+7*0) % 26) cf]⟩++wb,wa++⟨#[L.cps.toList.getD ((fi+7*1) % 26) cf]⟩++wb,wa++⟨#[L.cps.toList.getD ((fi+7*2) % 26) cf]⟩++wb,?_,?_,?_,?_,⟨?_,?_⟩,?_,?_⟩
   rotate_left
   ·exact iP (iP i5 (pO (d:=cf) (by rw[hL];exact l4 0))) i6
   ·rw[len_cat,len_cat];show 1<=wa.length+1+wb.length;omega
   ·rw[len_cat,len_cat];show wa.length+1+wb.length<=6;omega
   iterate 2
    ·rw[len_cat,len_cat];show 1<=wa.length+1+wb.length;omega
    ·rw[len_cat,len_cat];show wa.length+1+wb.length<=8;omega
   refine aA (d:=.str "") rfl rfl (cV (ds:=cn 0 (bB ns k 6)) (lU (by simp only[RX];exact S6 (R.bind · _) (P k 6 ⋯ ‹_›)) ⋯) rfl kE ?_);refine aA (d:=.int at') (by simp only[RX,hlen];exact S6 (R.bind · _) p2) rfl ?_;refine aA (d:=.int fi) (by simp only[RX];exact S6 (R.bind · _) p3) rfl ?_;refine aF (by simp only[RX];rw[show ar fs (n-1) ip [.bR ns,.int ((k:Int)+4),.int 3] none=_ from p4];simp only[RX];simp[h4]) ?_;refine jq (d:=.lst []) rfl rfl (cV (ds:=cn 0 3) (lU (n:=3) rfl ‹_›) rfl Dg ?_);exact aj (by simp only[RX];rfl)
 obtain⟨a,b,c,h1,h2⟩:=head;exact⟨a,b,c,ax hf ⋯ rfl h1,h2⟩
theorem rN{ip im:Nat}(hp:iG fs ip)(hf:fs[im]?=some ⟨3,9,false,ll ip⟩){n:Nat}(hn:3<=n){ns:List Int}{k:Nat}{L:Str}(hk:k<100000)(hL:L.length=26)(hz:L.length<=lim):∃a b c,ar fs n im [.bR ns,.int k,.str L] none= .ok (.lst [.str a,.str b,.str c],none)/\uH L a/\1<=a.length/\a.length<=6:=by obtain⟨a,b,c,h,h1,h2,h3,_⟩:=Ar hp hf hn hk hL hz;exact⟨a,b,c,h,h1,h2,h3⟩
end Rx
end
section
namespace K14
open PySem Rx
open Mx (D)
def dg(m:Int):List Nat:=(toString m:Str).cps.toList
def o6(x s:List Nat)(m:Int):Env:=⟨x,s,λk=>if k=1 then 49::dg m else if k=2 then dg m++[48] else dg m⟩
theorem zB:∀n:Nat,0<n->∃c r,Nat.toDigits 10 n=c::r/\c≠'0':=λn=>by
 induction n using Nat.strongRecOn with
 |_ n ih=>
  intro hn;by_cases h:n<10
  ·refine⟨Nat.digitChar n,[],Nat.toDigits_of_lt_base h,?_⟩;have:∀k,k<10->0<k->Nat.digitChar k≠'0':=by decide
   exact this n h hn
  ·have hm:n % 10<10:=Nat.mod_lt n ‹_›;have t:Nat.toDigits 10 (n/10)++Nat.toDigits 10 (n % 10)=Nat.toDigits 10 (10*(n/10)+n % 10):=Nat.toDigits_append_toDigits ‹_› ⋯ hm;rw[Nat.div_add_mod]at t;obtain⟨c,r,e,hc⟩:=ih (n/10) ⋯ ⋯;exact⟨c,r++Nat.toDigits 10 (n % 10),by rw[<-t,e];rfl,hc⟩
theorem CW(n:Nat):dg (n:Int)=(Nat.toDigits 10 n).map Char.toNat:=PySem.W.KIN.signs_num n
theorem Hs{x s:List Nat}{m:Int}(x1:x≠[])(x6:x.length<=6)(xc:∀n∈x,inR 97 122 n=true)(s1:s≠[])(s6:s.length<=6)(sc:∀n∈s,inR 65 90 n=true)(m0:2<=m)(m1:m<1000000000000000000):Kn (o6 x s m) m:=by
 obtain⟨n,rfl⟩:=Int.eq_ofNat_of_zero_le (show 0<=m by omega);have hd:=CW n;have hl:(dg (n:Int)).length<=18:=by rw[hd,QW];exact(Nat.length_toDigits_le_iff ‹_› ‹_›).mpr ⋯
 obtain⟨c,r,e,hc⟩:=zB n ⋯;have eB:dg (n:Int)≠[]:=by rw[hd,e];simp
 have Lw:∀k∈dg (n:Int),inR 48 57 k=true:=λk hk=>by rw[hd]at hk;obtain⟨ch,uM,rfl⟩:=Rn.mp hk;have r:=PyProof.Rows.digit_range (Nat.isDigit_of_mem_toDigits ‹_› ‹_› uM);unfold inR;rw[Rh r.1,Rh r.2];rfl
 have hh:(dg (n:Int)).head?≠some 48:=by
  rw[hd,e];intro z;have:c.toNat=48:=by simpa using z
  exact hc (Char.toNat_inj.mp (by rw[this];rfl))
 have key:∀k,(o6 x s n).d k=49::dg (n:Int)\/(o6 x s n).d k=dg (n:Int)++[48]\/(o6 x s n).d k=dg (n:Int):=λk=>by
  by_cases c1:k=1
  ·subst c1;exact .inl rfl
  by_cases c2:k=2
  ·subst c2;exact .inr (.inl rfl)
  ·refine .inr (.inr ?_);show (if k=1 then _ else if k=2 then _ else _)=_;rw[S9 c1,S9 c2]
 refine⟨⟨x1,x6,xc,s1,s6,sc,λk=>?_,λk j hj=>?_,λk=>?_⟩,λk=>?_,⟨hl,rfl,rfl⟩,?_,(kZ _).symm,m0,m1⟩
 ·rcases key k with h|h|h<;>rw[h]
  ·simp
  ·simp
  ·exact eB
 ·rcases key k with h|h|h<;>rw[h]at hj
  ·rcases QZ.mp hj with rfl|hj
   ·rfl
   ·exact Lw j hj
  ·rcases Q9.mp hj with hj|hj
   ·exact Lw j hj
   ·cases Rm.mp hj;rfl
  ·exact Lw j hj
 ·rcases key k with h|h|h<;>rw[h]
  ·simp
  ·obtain⟨a,t,e2⟩:=List.exists_cons_of_ne_nil eB;rw[e2]at hh ⊢;exact hh
  ·exact hh
 ·rcases key k with h|h|h<;>rw[h]
  ·rw[Q5];omega
  ·rw[Q3,Sd];omega
  ·omega
 ·show (n:Int)=_;congr 1;show n=PySem.NumText.digitsVal (dg (n:Int));rw[hd,PySem.W.KIN.val_back]
theorem Ii:JA fs 0 1 2 4 5 6 7 8 9 10 0:=⟨rfl,rfl,rfl,rfl,rfl,rfl,rfl,rfl,rfl,rfl⟩
def wY(x:TM):Prop:=(∀r∈val x,∃n,0<n/\r=row (bQ "a") n)/\(val x).length<=1
theorem p7:wY (.times 1 (.any [97])):=⟨λr h=>by cases Rm.mp h;exact⟨1,‹_›,rfl⟩,QT _⟩
theorem ua{x y:TM}(hx:wY x)(hy:wY y):wY (.plus x y):=by
 have h:∀r∈val x++val y,(∃n,0<n/\r=row (bQ "a") n)/\∃i k,r=row i k/\0<k:=λr hr=>by obtain⟨n,h1,h2⟩:=(Q9.mp hr).elim (hx.1 r) (hy.1 r);exact⟨⟨n,h1,h2⟩,_,n,h2,h1⟩
 have hg:=kC (S:=λr=>∃n,0<n/\r=row (bQ "a") n) (λit c d⟨n,_,e⟩h1 h2=>⟨c+d,⋯,by have:=S6 cW e;rw[bo,bo]at this;rw[this]⟩) h;have hu:=(zO λr hr=>by obtain⟨_,i,k,e,_⟩:=h r hr;exact⟨i,k,e⟩).nodup;have hA:∀r∈aX (val x++val y),cW r=bQ "a":=λr hr=>by obtain⟨⟨n,_,e⟩,_⟩:=hg r hr;rw[e];rfl
 refine⟨λr hr=>(hg r hr).1,?_⟩;show (aX (val x++val y)).length<=1;generalize aX (val x++val y)=l at hu hA;rcases l with _|⟨a,_|⟨b,l⟩⟩
 ·exact SJ _
 ·exact QT _
 ·exact absurd (by rw[hA a ∅,<-hA b ∅];exact QU) (So.mp hu).1
theorem Ec:∀j,pc (Wb j)=j
 |0=>rfl
 |j+1=>by have:=Ec j;unfold pc at this ⊢;show List.count 43 (97::32::43::32::Wb j)=_;simp[this]
theorem xg(br:Nat->List Nat->Option (List TM×List Nat))(j:Nat):cX dy br (Wb (j+1))=some (.times 1 (.any [97]),32::43::32::Wb j):=rfl
theorem Eb(br:Nat->List Nat->Option (List TM×List Nat)):cX dy br (Wb 0)=some (.times 1 (.any [97,98,99,100]),[]):=rfl
theorem IL{N:Nat}{br:Nat->List Nat->Option (List TM×List Nat)}(hN:80<=N){z:List Nat}(hz:z.length<=600){j:Nat}(e:z=Wb (j+1))(hn:40∉z):Rs 0 z 21 z (ar fs N 4 [.str (tx z),.int (ps z z:Nat),.int (0:Nat)] none) (fI dy br z):=by
 refine sR (e:=0) (d:=20) Ii hz ⋯ (λm l r _ _ hl h0=>absurd (hl.subset ((cz h0).2.2▸Sh _ QU)) hn) ‹_› (List.suffix_refl _)
  (λx l=>(l=[]/\(val x).length<=2)\/(∃i,i<=j/\l=32::43::32::Wb i)/\wY x) (λq hq _=>?_) (λx r h=>?_) (λx l r q h hl h0 hq hb=>?_)
 ·rw[e,xg]at hq;cases hq;exact .inr ⟨⟨j,QT _,rfl⟩,p7⟩
 ·rw[e,Ec];rcases h with ⟨rfl,h⟩|⟨⟨i,hi,rfl⟩,_,h⟩
  ·show _+0<=_;omega
  ·have:pc (32::43::32::Wb i)=i+1:=by have:=Ec i;unfold pc at this ⊢;simp[this]
   omega
 ·rcases h with ⟨rfl,h⟩|⟨⟨i,hi,rfl⟩,ho⟩
  ·cases h0
  ·obtain rfl:r=Wb i:=by have:=(cz h0).1;exact this
   cases i with
   |zero=>rw[Eb]at hq;cases hq;have h2:=Nat.add_le_add ho.2 (QT 1);exact⟨QY h2 ‹_›,.inl ⟨rfl,QY (jt _) (by rw[Q3];exact h2)⟩⟩
   |succ i=>rw[xg]at hq;cases hq;exact⟨QY (Nat.add_le_add ho.2 p7.2) ‹_›,.inr ⟨⟨i,⋯,rfl⟩,ua ho p7⟩⟩
theorem Ea(d:Nat):gB dy (d+1)=fI dy (D9 dy (gB dy d)):=rfl
theorem Bn{N:Nat}(hN:90<=N){z:List Nat}(e:z=Wb (148+1)):Rs 0 z 21 z (ar fs (N-1) 4 [.str (tx z),.int (ps z z:Nat),.int (0:Nat)] none) (gB dy (19+1) z):=by rw[Ea];exact IL ⋯ (by rw[e];decide +kernel) e (by rw[e];decide +kernel)
theorem nX:iG fs 12:=⟨11,rfl,rfl⟩
theorem xY{N:Nat}(hN:1<=N){d:Dt}(h:ar fs (N-1) 3 [d] none= .ex 0):ar fs N 17 [d] none= .ok (.bl true,none):=by refine ax (body:=KA) rfl hN rfl ?_;show fin (aE (ar fs (N-1)) KA [some d,none,none] none)=_;refine qS (ρ1:=[some d,none,none]) (d:=.bl true) ?_;rw[xT];have e:aE (ar fs (N-1)) (.cons (.FC (.call 3 (.cons (.var 0) .nil) [])) .nil) [some d,none,none] none= .ex 0:=pF (by rw[su];simp only[RX,h];rfl);rw[e];rfl
theorem Ba{N:Nat}(hN:2<=N){d:Dt}(h:lT "str" d= .ok false):ar fs N 17 [d] none= .ok (.bl true,none):=by
 refine xY ⋯ (ax (body:=qI 4 0) rfl ⋯ rfl (aS ?_ (eM rfl)));have:cR (.isi "str") [d]= .ok (.bl false):=by show (lT "str" d).bind _=_;rw[h];rfl
 show aZ _ _ [some d,none,none] none=_;simp only[RX,this];rfl
section
variable{E:Env}{m:Int}(K:Kn E m)
include K
theorem rR{N:Nat}(hN:100<=N){t:List Dt}(ht:wX t=true):∃b g f:Dt,t.map (E.rd m)=[b,g,f]/\ar fs N 17 [b] none= .ok (.bl true,none)/\ar fs N 3 [g] none= .ok (f,none)/\ar fs N 16 [f,f] none= .ok (.bl true,none):=by
 obtain⟨b,g,f,rfl,h1,h2⟩:=Ht ht;obtain⟨b1,b2⟩:=CG K.e K.d h1;have rb:=sy Ii (rd:=3) rfl (N:=N-1) ⋯ (z:=E.fl (b.cps.toList.map dec)) (by
  have h3:=lF K.e K.h b;have:=zl h1;unfold Env.ex at h3;rw[b5]at h3;omega) λh=>Cd Ii ⋯ (QY (b2 h) ‹_›) h
 rw[b1]at rb;obtain⟨x,ms,g1,g2,g3,g4,g5⟩:=zS K.e K.d K.n K.h h2;have rg:=sy Ii (rd:=3) rfl (N:=N) ⋯ (z:=E.fl (g.cps.toList.map dec)) ⋯ λh=>g5.elim (λq=>Cd Ii ⋯ (QY q ‹_›) h) λq=>Bn ⋯ q
 rw[g1]at rg;obtain⟨r1,r2⟩:=rg;refine⟨E.rd m (.str b),E.rd m (.str g),E.rd m f,rfl,xY ⋯ rb,by rw[<-g3];exact r1,?_⟩;have e:E.rd m f=ofD (.tup (val x)):=by rw[<-g3,iV]
 rw[e];refine sE rfl N _ (Cc _) ?_;rw[vA];have:=qN r2;omega
end
open Mx (D)
theorem P9(x s:List Nat)(m m':Int):(o6 x s m).rd m' xS= .str (tx x):=by unfold xS;rw[df];unfold Env.ex;rw[bZ];show Dt.str (tx (x++[]))=_;rw[Rt]
theorem My(x s:List Nat)(m m':Int):(o6 x s m).rd m' sS= .str (tx s):=by unfold sS;rw[df];unfold Env.ex;rw[bZ];show Dt.str (tx (s++[]))=_;rw[Rt]
def b6(ns:List Int)(k:Nat):Int:=2+bO ns k % (10^18-2)
theorem DX(ns:List Int)(k:Nat):2<=b6 ns k/\b6 ns k<1000000000000000000:=by unfold b6;have h1:=Rq (bO ns k) (b:=10^18-2) ‹_›;have h2:=Rr (bO ns k) (b:=10^18-2) ‹_›;omega
structure Wd(x s:List Nat):Prop where
 x1:x≠[]
 x6:x.length<=6
 xc:∀n∈x,inR 97 122 n=true
 s1:s≠[]
 s6:s.length<=6
 sc:∀n∈s,inR 65 90 n=true
theorem AE{ns:List Int}{x s:List Nat}(W:Wd x s){N k:Nat}(hN:110<=N)(hk:k<1000):∃b g f:Dt,ar fs N 26 [.bR ns,.int k,.str (tx x),.str (tx s)] none= .ok (.lst [b,g,f],none)/\∀M,100<=M->ar fs M 17 [b] none= .ok (.bl true,none)/\ar fs M 3 [g] none= .ok (f,none)/\ar fs M 16 [f,f] none= .ok (.bl true,none):=by
 have hb:=DX ns k;have K:=Hs W.x1 W.x6 W.xc W.s1 W.s6 W.sc hb.1 hb.2
 suffices h:∃t,wX t=true/\ar fs N 26 [.bR ns,.int k,.str (tx x),.str (tx s)] none= .ok (.lst (t.map ((o6 x s (b6 ns k)).rd (b6 ns k))),none) by obtain⟨t,h1,h2⟩:=h;obtain⟨b,g,f,e,_⟩:=rR K (N:=100) ‹_› h1;rw[e]at h2;refine⟨b,g,f,h2,λM hM=>?_⟩;obtain⟨b',g',f',e',q⟩:=rR K hM h1;rw[e]at e';cases e';exact q
 have ex:=P9 x s (b6 ns k) (b6 ns k);have es:=My x s (b6 ns k) (b6 ns k);have p1:ar fs (N-1) 12 [.bR ns,.int k,.int 1000003] none= .ok (.int (bB ns k 1000003),none):=iW nX ⋯ ⋯ ‹_›;have p2:ar fs (N-1) 12 [.bR ns,.int ((k:Int)+1),.int 5] none= .ok (.int (bB ns (k+1) 5),none):=iW nX (k:=k+1) (many:=5) ⋯ ⋯ ‹_›;have p3:ar fs (N-1) 12 [.bR ns,.int ((k:Int)+2),.int 7] none= .ok (.int (bB ns (k+2) 7),none):=iW nX (k:=k+2) (many:=7) ⋯ ⋯ ‹_›;have l2:=eR (ns:=ns) (k:=k+1) (many:=5) ‹_›;generalize bB ns k 1000003=way at p1;generalize bB ns (k+1) 5=kind at p2 l2;generalize bB ns (k+2) 7=wr at p3;obtain⟨Qe,q1,q2⟩:=KN K (N:=N-1) (way:=way) ⋯;obtain⟨IM,r1,r2⟩:=KI K (N:=N-1) (way:=way) ⋯;obtain⟨Oa,s1,s2⟩:=KJ K (N:=N-1) (way:=way) ⋯;obtain⟨Ob,u1,u2⟩:=KM K (N:=N-1) (way:=way) ⋯;obtain⟨N9,v1,v2⟩:=KH K (N:=N-1) (way:=way) ⋯;unfold Out at q2 r2 s2 u2 v2;rw[ex,es]at q2 r2 s2 u2 v2;have start:∀{r:R (Dt×Sx)},fin (aE (ar fs (N-1)) (uS (uS KD)) [some (.bR ns),some (.int k),some (.str (tx x)),some (.str (tx s)),some (.int way),some (.int kind),none] none)=r->ar fs N 26 [.bR ns,.int k,.str (tx x),.str (tx s)] none=r:=λh=>
  ax (body:=KD) rfl ⋯ rfl (aA (d:=.int way) (by simp only[RX,Ry,Sg,RU,Sn,p1]) rfl (aA (d:=.int kind) (by simp only[RX,Ry,Sg,RU,Sn,p2]) rfl h))
 by_cases c0:kind=0
 ·exact⟨Qe,q1,start (aS (by simp only[RX];rw[show ((kind:Int)==0)=true from by rw[c0];rfl]) (aj (by simp only[RX,q2])))⟩
 have go:=λ {r:R (Dt×Sx)} (h:fin (aE (ar fs (N-1)) _ [some (.bR ns),some (.int k),some (.str (tx x)),some (.str (tx s)),some (.int way),some (.int kind),some (.lst (IM.map ((o6 x s (b6 ns k)).rd (b6 ns k))))] none)=r)=>start (aF (by simp only[RX];rw[show ((kind:Int)==0)=false from SZ.mpr ⋯]) (aA (d:=.lst (IM.map ((o6 x s (b6 ns k)).rd (b6 ns k)))) (by simp only[RX,r2]) rfl h))
 have last:∀t,wW t=true->∃t',wX t'=true/\fin (aE (ar fs (N-1)) (.cons (.ret (.call 25 (.cons (.call 12 (.cons (.var 0) (.cons (.bin .Add (.var 1) (.con (.int 2))) (.cons (.con (.int 7)) .nil))) []) (.cons (.var 2) (.cons (.var 3) (.cons (.var 6) .nil)))) [])) .nil) [some (.bR ns),some (.int k),some (.str (tx x)),some (.str (tx s)),some (.int way),some (.int kind),some (.lst (t.map ((o6 x s (b6 ns k)).rd (b6 ns k))))] none)= .ok (.lst (t'.map ((o6 x s (b6 ns k)).rd (b6 ns k))),none):=λt ht=>by obtain⟨t',a1,a2⟩:=within K (N:=N-1) (w:=wr) ⋯ ht;unfold Out at a2;rw[ex,es]at a2;exact⟨t',a1,aj (by simp only[RX,p3,a2])⟩
 have FE:∀j:Nat,kind≠j->((kind:Int)==(j:Int))=false:=λj h=>SZ.mpr ⋯
 by_cases c1:kind=1
 ·have hc:=lu (fs:=fs) (ic:=11) rfl (n:=N-1) ⋯ (ns:=ns) (k:=k) ⋯;have P6:gQ .Pow (.int 10) (.int 18)= .ok (.int (10^18)):=rfl;have P7:=bJ (i:=bO ns k) (j:=10^18-2) ‹_›;obtain⟨t',a1,a2⟩:=last N9 v1;refine⟨t',a1,go (aS (by simp only[RX];rw[show ((kind:Int)==1)=true from by rw[c1];rfl]) (aA (d:=.lst (N9.map ((o6 x s (b6 ns k)).rd (b6 ns k)))) ?_ rfl ?_))⟩
  ·simp only[RX,hc,P6,P7];rw[show (2+bO ns k % (10^18-2))=b6 ns k from rfl,v2];rfl
  ·exact aF (by simp only[RX];rw[show ((kind:Int)==2)=false from FE 2 ⋯]) (aF (by simp only[RX];rw[show ((kind:Int)==3)=false from FE 3 ⋯]) a2)
 have GF:=λ {r:R (Dt×Sx)} (h:fin (aE (ar fs (N-1)) _ [some (.bR ns),some (.int k),some (.str (tx x)),some (.str (tx s)),some (.int way),some (.int kind),some (.lst (IM.map ((o6 x s (b6 ns k)).rd (b6 ns k))))] none)=r)=>go (aF (by simp only[RX];rw[show ((kind:Int)==1)=false from FE 1 c1]) h)
 by_cases c2:kind=2
 ·obtain⟨t',a1,a2⟩:=last Oa s1;exact⟨t',a1,GF (aS (by simp only[RX];rw[show ((kind:Int)==2)=true from by rw[c2];rfl]) (aA (d:=.lst (Oa.map ((o6 x s (b6 ns k)).rd (b6 ns k)))) (by simp only[RX,s2]) rfl (aF (by simp only[RX];rw[show ((kind:Int)==3)=false from FE 3 ⋯]) a2)))⟩
 have go2:=λ {r:R (Dt×Sx)} (h:fin (aE (ar fs (N-1)) _ [some (.bR ns),some (.int k),some (.str (tx x)),some (.str (tx s)),some (.int way),some (.int kind),some (.lst (IM.map ((o6 x s (b6 ns k)).rd (b6 ns k))))] none)=r)=>GF (aF (by simp only[RX];rw[show ((kind:Int)==2)=false from FE 2 c2]) h)
 by_cases c3:kind=3
 ·obtain⟨t',a1,a2⟩:=last Ob u1;exact⟨t',a1,go2 (aS (by simp only[RX];rw[show ((kind:Int)==3)=true from by rw[c3];rfl]) (aA (d:=.lst (Ob.map ((o6 x s (b6 ns k)).rd (b6 ns k)))) (by simp only[RX,u2]) rfl a2))⟩
 ·obtain⟨t',a1,a2⟩:=last IM r1;exact⟨t',a1,go2 (aF (by simp only[RX];rw[show ((kind:Int)==3)=false from FE 3 c3]) a2)⟩
open Mx (D)
theorem tf{L w:Str}{lo hi:Nat}(hL:∀n∈L.cps.toList,inR lo hi n=true)(h1:uH L w)(h2:1<=w.length)(h3:w.length<=6):w.cps.toList≠[]/\w.cps.toList.length<=6/\∀n∈w.cps.toList,inR lo hi n=true:=by
 have e:w.cps.toList.length=w.length:=by simp[Str.length]
 exact⟨λz=>by rw[z]at e;simp at e;omega,⋯,λn hn=>hL n (h1 n hn)⟩
theorem names14{ns:List Int}{N:Nat}(hN:4<=N):∃a b c,ar fs N 14 [.bR ns,.int 0] none= .ok (.lst [.str a,.str b,.str c],none)/\a.cps.toList≠[]/\a.cps.toList.length<=6/\∀n∈a.cps.toList,inR 97 122 n=true:=by obtain⟨a,b,c,h,h1,h2,h3⟩:=rN nX (im:=13) rfl (n:=N-1) ⋯ (ns:=ns) (k:=0) (L:="abcdefghijklmnopqrstuvwxyz") ‹_› ‹_› ‹_›;have h:ar fs (N-1) 13 [.bR ns,.int 0,.str "abcdefghijklmnopqrstuvwxyz"] none=_:=h;exact⟨a,b,c,ax (body:=Nb) rfl ⋯ rfl (aj (by simp only[RX,Ry,Sg,RU,Sn,h])),tf ‹_› h1 h2 h3⟩
theorem names15{ns:List Int}{N:Nat}(hN:4<=N):∃a b c,ar fs N 15 [.bR ns,.int 2] none= .ok (.lst [.str a,.str b,.str c],none)/\a.cps.toList≠[]/\a.cps.toList.length<=6/\∀n∈a.cps.toList,inR 65 90 n=true:=by obtain⟨a,b,c,h,h1,h2,h3⟩:=rN nX (im:=13) rfl (n:=N-1) ⋯ (ns:=ns) (k:=2) (L:="ABCDEFGHIJKLMNOPQRSTUVWXYZ") ‹_› ‹_› ‹_›;have h:ar fs (N-1) 13 [.bR ns,.int 2,.str "ABCDEFGHIJKLMNOPQRSTUVWXYZ"] none=_:=h;exact⟨a,b,c,ax (body:=Nc) rfl ⋯ rfl (aj (by simp only[RX,Ry,Sg,RU,Sn,h])),tf ‹_› h1 h2 h3⟩
def Bz:Ts:=match uS (uS JG) with
 |.cons (.fr _ _ b) _=>b
 |_=>.nil
theorem Hy{ns:List Int}{x s:List Nat}(W:Wd x s){n:Nat}(hn:n<=300):∃y3 y4 y5 y6,forL (.nm 3) (aE (ar fs 119) Bz) (ie 5 3 n) [some (.bR ns),some (.str (tx x)),some (.str (tx s)),none,none,none,none,none,none] none= .ok (.next,[some (.bR ns),some (.str (tx x)),some (.str (tx s)),y3,y4,y5,y6,none,none],none):=by
 have loop:=cO (S:=none) (tg:=.nm 3) (body:=aE (ar fs 119) Bz) (ds:=ie 5 3 n) (ρ:=[some (.bR ns),some (.str (tx x)),some (.str (tx s)),none,none,none,none,none,none])
  (λ_ ρ=>∃y3 y4 y5 y6,ρ=[some (.bR ns),some (.str (tx x)),some (.str (tx s)),y3,y4,y5,y6,none,none]) ⟨none,none,none,none,rfl⟩ (by
   rintro pre d post ρ e ⟨y3,y4,y5,y6,rfl⟩;have hd:d∈ie 5 3 n:=by rw[e];simp
   unfold ie at hd;obtain⟨i,hi,rfl⟩:=Rn.mp hd;have hi:=RB.mp hi;obtain⟨b,g,f,h1,h2⟩:=AE (ns:=ns) W (N:=119) (k:=5+3*i) ‹_› ⋯;obtain⟨q1,q2,q3⟩:=h2 119 ‹_›;have ek:(5:Int)+(i:Int)*3=((5+3*i:Nat):Int):=⋯
   rw[ek];refine⟨_,_,rfl,nx (ρ1:=[some (.bR ns),some (.str (tx x)),some (.str (tx s)),some (.int ((5+3*i:Nat):Int)),some b,some g,some f,none,none]) ?_ (wU ?_ rfl),some (.int ((5+3*i:Nat):Int)),some b,some g,some f,rfl⟩
   ·rw[eS];simp only[RX,h1];rfl
   ·simp only[RX,q1,q2,q3];rfl)
 obtain⟨ρ',h,y3,y4,y5,y6,rfl⟩:=loop;exact⟨y3,y4,y5,y6,h⟩
def things(x:List Nat)(n:Int):List Dt:=[.bM,.int n,.tup [.str "a",.str "b"],.lst [.str "a"],.obj [] [],.tup [.tup [.tup [.str "any",.str (tx x)],.int 1]],.bl true]
theorem law_true:∀ns:List Int,ns.length<=63->∃S,ar fs 120 27 [.bR ns] none= .ok (.bl true,S):=λns G7=>by
 refine⟨none,ax (body:=JG) rfl ‹_› rfl ?_⟩;show fin (aE (ar fs 119) JG [some (.bR ns),none,none,none,none,none,none,none,none] none)=_;obtain⟨a,b,c,h1,w1,w2,w3⟩:=names14 (ns:=ns) (N:=119) ‹_›;obtain⟨a',b',c',h2,v1,v2,v3⟩:=names15 (ns:=ns) (N:=119) ‹_›;have W:Wd a.cps.toList a'.cps.toList:=⟨w1,w2,w3,v1,v2,v3⟩;have i0:∀p q r:Str,cw (.lst [.str p,.str q,.str r]) (.int 0)= .ok (.str p):=λp q r=>rfl
 refine aA (d:=.str (tx a.cps.toList)) (by rw[kZ];simp only[RX,h1,i0]) rfl (aA (d:=.str (tx a'.cps.toList)) (by rw[kZ,kZ];simp only[RX,h2,i0]) rfl ?_);obtain⟨j,hj,Qz,QA⟩:∃j:Int,(if (if (ns.length:Int)<59 then(ns.length:Int) else 59)>17 then(if (ns.length:Int)<59 then(ns.length:Int) else 59) else 17)=j/\0<=j/\j<=63:=by refine⟨_,rfl,?_,?_⟩<;>split<;>(try split)<;>omega
 have hs:Mx.eV 5 j 3<=300:=by unfold Mx.eV Builtin.Range.rangeSize;rw[Ta ‹_›];split<;>omega
 obtain⟨y3,y4,y5,y6,hl⟩:=Hy (ns:=ns) W hs;have it:dW (ar fs 119) (.rng3 (.con (.int 5)) (.bi .max2 (.cons (.con (.int 17)) (.cons (.bi .min2 (.cons (.con (.int 59)) (.cons (.bi .len (.cons (.var 0) .nil)) .nil))) .nil))) (.con (.int 3))) [some (.bR ns),some (.str (tx a.cps.toList)),some (.str (tx a'.cps.toList)),none,none,none,none,none,none] none= .ok (ie 5 3 (Mx.eV 5 j 3),none):=by rw[jQ];simp only[RX,hj];rw[Rh (show (5:Int).natAbs<=lim by decide),Rh (show j.natAbs<=lim by unfold lim;omega)];rfl
 refine cV (ds:=ie 5 3 (Mx.eV 5 j 3)) it rfl hl ?_;have hc:=lu (fs:=fs) (ic:=11) rfl (n:=119) ‹_› (ns:=ns) (k:=4) ‹_›;have hc:ar fs 119 11 [.bR ns,.int 4] none=_:=hc;have hm:=bJ (i:=bO ns 4) (j:=1000) ‹_›;refine aA (d:=.int (bO ns 4 % 1000)) (by simp only[RX,hc,hm]) rfl ?_;have loop:=cO (S:=none) (tg:=.nm 8) (body:=aE (ar fs 119) (.cons (.ifs (.nt (.call 17 (.cons (.var 8) .nil) [])) (.cons (.ret (.con (.bl false))) .nil) .nil) .nil)) (ds:=things a.cps.toList (bO ns 4 % 1000))
  (ρ:=[some (.bR ns),some (.str (tx a.cps.toList)),some (.str (tx a'.cps.toList)),y3,y4,y5,y6,some (.int (bO ns 4 % 1000)),none])
  (λ_ ρ=>∃y8,ρ=[some (.bR ns),some (.str (tx a.cps.toList)),some (.str (tx a'.cps.toList)),y3,y4,y5,y6,some (.int (bO ns 4 % 1000)),y8]) ⟨none,rfl⟩ (by
   rintro pre d post ρ e ⟨y8,rfl⟩;have hd:d∈things a.cps.toList (bO ns 4 % 1000):=by rw[e];simp
   have hi:lT "str" d= .ok false:=by unfold things at hd;simp only[QZ,Q0,Te]at hd;rcases hd with rfl|rfl|rfl|rfl|rfl|rfl|rfl<;>rfl
   have hr:=Ba (N:=119) ‹_› hi;exact⟨_,_,rfl,wU (by simp only[RX,hr];rfl) rfl,some d,rfl⟩)
 obtain⟨ρ',fE,y8,rfl⟩:=loop;refine cV (ds:=things a.cps.toList (bO ns 4 % 1000)) ?_ rfl fE (aj (by simp only[RX]));rw[kP,fj];have G0:cR .dict [.tup []]= .ok (.obj [] []):=rfl;simp only[RX,G0];rfl
end K14
end
end Lake
section
namespace PySem.W.Fast
def tw5463495367763248603:=0
def tw16894738680857818081:=0
def tw5175417241604346358:=0
def tw5884454888101998731:=0
def tw4105390340508834789:=0
def tw15535426688553009243:=0
def tw9531008110606615667:=0
def tw12517302833949228252:=0
def tw13328430895259932361:=0
def tw6078039946736342375:=0
def tw727985672779500511:=0
def tw13593007097427211330:=0
def tw16480271764976158215:=0
def tw15654689703390132845:=0
def tw5218849372048966401:=0
def tw14692703721147646039:=0
def tw10558801135397393548:=0
def tw17538377498687817667:=0
def tw3386829474024446870:=0
def tw9449394132842847612:=0
def tw10948963428063938276:=0
def tw11695554962223737484:=0
def tw1037780251730545762:=0
def tw12589215623690454405:=0
def tw464300976494631408:=0
def tw9872948816998425644:=0
def tw3763849284642972968:=0
def tw5585400345494722492:=0
def tw15186762586915686558:=0
def tw5661572245085987432:=0
def tw3229271974636372888:=0
def tw12490532325650863853:=0
def tw6275141838394127967:=0
def tw7850033885409159492:=0
def tw1959059658249119643:=0
def tw13501470987543846619:=0
def tw10288962599303668868:=0
def tw6723830361162100150:=0
def tw201940281129242649:=0
def tw12743812430737324297:=0
def tw8536958132154059588:=0
def tw3783312744290284445:=0
def tw3339211740648269553:=0
def tw16212237799793836109:=0
def tw3460452991689776683:=0
def tw3358569980749645448:=0
def tw2778310955983617354:=0
def tw16320184072788087739:=0
def tw18399508453029084673:=0
def tw11721981187688578643:=0
def tw7950331567699931713:=0
def tw6746802640959614020:=0
def tw12567698095072582757:=0
def tw8478641120705662411:=0
def tw1570617648127594906:=0
def tw11400852164603948363:=0
def tw15875860267899539220:=0
def tw8568384843350532919:=0
def tw5574109378320736673:=0
def tw13731786796272485930:=0
def tw1866908192085397511:=0
def tw8928783753125201686:=0
def tw8242839605494599659:=0
def tw9909488087756903136:=0
def tw15995979416468073275:=0
def tw1904386726339728718:=0
def tw10136335504766531900:=0
def tw5529678158560650223:=0
def tw5037689447528723443:=0
def tw13252997824363857174:=0
def tw8562223490906287443:=0
def tw6210097605492503504:=0
def tw18443694905439188798:=0
def tw5408816614306133491:=0
def tw59484787251346399:=0
def tw9006519283322498616:=0
def tw8488140801330276748:=0
def tw16965879818181557614:=0
def tw7415716241178978713:=0
def tw4817514943227087835:=0
def tw2849980180222559480:=0
def tw14886122837280970881:=0
def tw9048642598089075186:=0
def tw3395516716133335257:=0
def tw18192643298560517583:=0
def tw17983609022692501940:=0
def tw15516957551625932301:=0
def tw3361520275929751390:=0
def tw18263637513169630151:=0
def tw17999062840881811711:=0
def tw15857083952423243007:=0
def tw4279919760111112975:=0
def tw2660777222167380174:=0
def tw11816670443835798229:=0
def tw18400085003287039972:=0
def tw3902766656517764919:=0
def tw17899199260186614288:=0
def tw5998824925699037416:=0
def tw15862384849937351200:=0
def tw14530564918820303177:=0
def tw13910802030931053059:=0
def tw12904463554840151720:=0
def tw972002161704851405:=0
def tw10060652701662132402:=0
def tw8485234977965070985:=0
def tw16374261661415219190:=0
def tw13503614150455743820:=0
def tw810136238747492586:=0
def tw3231434084546202264:=0
def tw3840648635138258547:=0
def tw17608373891360204973:=0
def tw13616584939663626864:=0
def tw11829142279303892789:=0
def tw11484051441196038042:=0
def tw15967322714977162542:=0
def tw6691180747830429295:=0
def tw1372893516962114904:=0
def tw3615503115329232930:=0
def tw10149614054729633422:=0
def tw16681820217435818414:=0
def tw15729570743156367052:=0
def tw15349824142653551532:=0
def tw13141386853322070301:=0
def tw10798854897117831718:=0
def tw4560638305074795981:=0
def tw15511809053542756056:=0
def tw12754853898142790539:=0
def tw10829246195481898956:=0
def tw10721582626005053298:=0
def tw12964018470373882384:=0
def tw5943967246416448715:=0
def tw4860870308927787779:=0
def tw4776855317048113077:=0
def tw13027447824013914700:=0
def tw9927716605317936934:=0
def tw9709077912609225876:=0
def tw2635454841890466678:=0
def tw2010471315134521850:=0
def tw12084888604996637589:=0
def tw9856854463547169514:=0
def tw9599897983027522293:=0
def tw9386182517413329473:=0
def tw8453739407202434528:=0
def tw8295071244413726474:=0
def tw8238984376440616079:=0
def tw7862971068369231629:=0
def tw6913225423954639451:=0
def tw6762022350743822397:=0
def tw6630255499586424347:=0
def tw6177545314005927694:=0
def tw5859953062685766708:=0
def tw5786247696680591775:=0
def tw5609274023062064482:=0
def tw5196013496684055658:=0
def tw5033758161654574183:=0
def tw4817107649309976675:=0
def tw4303198298328777033:=0
def tw4154464597271600312:=0
def tw4061304728196266854:=0
def tw40223295812236403:=0
def tw3712787215877875944:=0
def tw3431866134814790661:=0
def tw3410957284093933290:=0
def tw3389795052909845485:=0
def tw3268266328662855323:=0
def tw3084020652721061498:=0
def tw3071229280348073672:=0
def tw3001697137306354673:=0
def tw2911184516843244192:=0
def tw2599740803313045464:=0
def tw1858382385547472628:=0
def tw18383794683065067723:=0
def tw18078347726132883793:=0
def tw17948467706223259524:=0
def tw17475972682983927525:=0
def tw16798951346555472938:=0
def tw16765815727515126077:=0
def tw16559870126957857647:=0
def tw16152227037317169685:=0
def tw15878476923487348891:=0
def tw14974158156580941534:=0
def tw14929122257617332435:=0
def tw14689819621948140037:=0
def tw14477633593331173418:=0
def tw14126828143379128517:=0
def tw13922450047725993441:=0
def tw13789441682621063245:=0
def tw1375219300402501655:=0
def tw13532488619845669781:=0
def tw13372438045283440656:=0
def tw13274546446647573937:=0
def tw13174746577507495644:=0
def tw12982097272873604980:=0
def tw12536339359015840933:=0
def tw1250456453265651457:=0
def tw12220715313274692239:=0
def tw12193020952020703672:=0
def tw12100986741354865662:=0
def tw12091928108816279149:=0
def tw11963163667119049380:=0
def tw11907809773953263239:=0
def tw11778390345800478356:=0
def tw11481455868529046870:=0
def tw11139007345468312374:=0
def tw11003401152919038965:=0
def tw10450759257995354855:=0
def tw10351307659263671790:=0
def tw15253748944047174488:=0
def tw10561385584589699182:=0
def tw1922036597803507197:=0
def tw18403870461846973038:=0
def tw11688519229362127570:=0
def tw16097779038997171941:=0
def tw664518657440174018:=0
def tw565537533403666065:=0
def tw8592189181571336163:=0
def tw6310164003676035158:=0
def tw18176123217960362607:=0
def tw3098339486458444316:=0
def tw9754995232157865435:=0
def tw382099958784965334:=0
def tw8400136910069754293:=0
def tw12510676459640709586:=0
def tw2844196503175367490:=0
def tw18011880344922057275:=0
def tw12140922793335309133:=0
def tw14753602540514803656:=0
def tw10875776048649525005:=0
def tw1017096696519046741:=0
def tw5610728537652528900:=0
def tw6421219155388707861:=0
def tw5880869211435306913:=0
def tw2008106898179846925:=0
def tw11936889127271778697:=0
def tw6168705836952718056:=0
def tw4400762850451560236:=0
def tw4604627248727203090:=0
def tw158543230422815027:=0
def tw8763266393066856898:=0
def tw14401046937058198763:=0
def tw4378719315904454676:=0
def tw10418536074317859040:=0
def tw1084102912131290817:=0
def tw2601746803681129620:=0
def tw2839298223950997190:=0
def tw2705150727843932820:=0
def tw4375908561616419538:=0
def tw2783783788667590431:=0
def tw12331340964265834656:=0
def tw1966761610367706107:=0
def tw6830386222221413101:=0
def tw11218389767336048192:=0
def tw7768658483353661230:=0
def tw15960978144217674939:=0
def tw9163952335457773546:=0
def tw8194460775892846211:=0
def tw10556682623393776786:=0
def tw14355713779189713414:=0
def tw11011252658697750166:=0
def tw3508794681934986438:=0
def tw14801011914931740301:=0
def tw16734761316583324757:=0
def tw3315690871794080438:=0
def tw7235511508904568833:=0
def tw792036479780591866:=0
def tw15062230903030887621:=0
def tw7216808497746274224:=0
end PySem.W.Fast
open PySem PySem.W PyProof.Rows Lake.Rx
set_option maxHeartbeats 0 in
theorem PySem.Challenge.cw_mixform_k14_no_text_holds : PySem.Challenge.rw_mixform_k14_no_text.Holds := by
 w_on;o_law;k_head;(case hw=>w_witness2)
 k_fill
 refine walkR (k:=120) (l:=PySem.Challenge.rw_mixform_k14_no_text) rfl rfl ⟨rfl,by decide,by decide⟩ (λw h Y=>kIn_of Y) ?F
 case F=>
  intro w mg fa h KX G hmg;refine law_mk (rs:=Lake.K14.rows) (cons:=Lake.K14.cons) (bls:=Lake.K14.bls) (xs:=Lake.K14.xs) (L:=27) (n:=119) KX G hmg rfl Lake.K14.hok Lake.K14.hfs (λs v _ _ _ _ _ _=>.of_eq rfl) Lake.K14.law_true ?B ?C ?D ?E
  case B=>exact⟨by k_is,by k_is,by k_is,by k_is,by k_is,by k_is,by k_is,by k_is,by k_is,by k_is,by k_is,by k_is,trivial⟩
  case C=>exact⟨⟨_,by k_is,rfl,by first|rfl|exact⟨_,rfl⟩⟩,⟨_,by k_is,rfl,by first|rfl|exact⟨_,rfl⟩⟩,⟨_,by k_is,rfl,by first|rfl|exact⟨_,rfl⟩⟩,⟨_,by k_is,rfl,by first|rfl|exact⟨_,rfl⟩⟩,⟨_,by k_is,rfl,by first|rfl|exact⟨_,rfl⟩⟩,trivial⟩
  case D=>
   refine⟨?_,?_,?_,?_,?_,?_,?_,?_,?_,?_,?_,?_,?_,?_,?_,?_,?_,?_,?_,?_,?_,?_,?_,?_,?_,?_,?_,?_,trivial⟩
   all_goals exact⟨_,_,_,_,_,_,_,_,_,_,_,by k_is,by k_is,by k_is,by k_is,λ_=>rfl,binds0 (by repeat first|exact len0 rfl|refine lenS λ_=>?_)⟩
  case E=>exact⟨⟨_,by k_is,by k_exc,⟨by k_is,by k_is,by k_is,by k_is,by k_is,by k_is,by k_is⟩,⟨⟨_,.inl ⟨by k_is,_,rfl⟩,by kit_is,λ_=>by kts_exm⟩,⟨_,.inl ⟨by k_is,_,rfl⟩,by kit_is,nofun⟩,⟨_,.inl ⟨by k_is,_,rfl⟩,by kit_is,nofun⟩,⟨_,.inl ⟨by k_is,_,rfl⟩,by kit_is,λ_=>by kts_exm⟩,⟨_,.inl ⟨by k_is,_,rfl⟩,by kit_is,nofun⟩,⟨_,.inr ⟨by k_is,rfl,rfl⟩,by kit_is,λ_=>by kts_exm⟩,trivial⟩⟩,trivial⟩
end